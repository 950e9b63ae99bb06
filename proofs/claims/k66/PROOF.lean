import PyProof.Rows.All
import Wide.All
import OpenK.AllK
import Wide.FinOn
import Lean
import PyProof.EqAt
import PyProof.EqKinds
import PyProof.TupleCall
import PyProof.EqLayable
import KE.KDictList
import KE.KDictOf
import KE.KDictSum
import KE.KEqDict
import KE.KIntText
import KE.KIsAll
import KE.KMinBuiltin
import KE.KPairComp
import KE.KRevIter
import KE.KSortTup
import KE.KxText
import PyProof.AttrMissHeap
import PyProof.CallStr
import PyProof.DictTable
import PyProof.DictWalks
import PyProof.ExcAttrAll.ValueError
import PyProof.ExcBaseAll.ValueError
import PyProof.ExcClass2
import PyProof.ExcInit
import PyProof.FString5
import PyProof.InstStore
import PyProof.InstStoreFacts
import PyProof.NeKinds
import PyProof.NsDelKeeps
import PyProof.P3In
import PyProof.RaisesMany
import PyProof.Rows.CountFlat
import PyProof.Rows.SortRev
import PyProof.Rows.SortWalk
import PyProof.RulesAs
import PyProof.RulesTry
import PySem.Sem
import PySem.Challenge.RW_nightbook_k66_whole_evenings
set_option Elab.async false
set_option linter.all false
set_option maxRecDepth 100000
set_option maxHeartbeats 4000000
set_option exponentiation.threshold 40000
open PySem.W renaming Frag->aaa,kia_one->aab,fnOf->aac,findIn->aad,keepIn->aae,codeIn->aah,emptyDict->aai,nsIn->aaj,instObj->aak,callWith_K->aaq,cellsFrom_some->aar,hasDictIn->aat,methodCall_KW->aau,mg_of->aaw,InstAt->aay,kitx_list->aaz,kitx_dict->aaA,plainGet->aaB,handedIn->aaC,isFn->aaE,looks_findIn->aaF,plainGet_of->aaG,lookIn->aaI,kitOne->aaJ,codeRec_of->aaK,specialIn->aaL,takerIn->aaR,makesIn->aaS,mroIn->aaV,findObj_own->aaW,callWith_K0->aaX,kitx_tuple->aaZ,plainOver->aba,kitx_none->abb,kitx_bool->abc,kitx_int->abd,kitx_str->abe,kdl_dict->abf,kdl_call->abg,takesIn->abh,OpenLaw->abi,KeqHits->abj,findObj->abk,notCls->abl,kitAny->abm,WalkO->abn
open PySem renaming boot_len->aaf,mem_of_lookup->aap,intBits_le_iff->aav,call->aax,evalArgs_none->aaH,Within->aaY,Value->abo
open PySem.F renaming plain_min_loop->aag,slot_list_append->aal,type_list_append->aam,plainAttrs_list->aan,plainAttrs_dict->aao,entry_min_loop->aas,slot_dict_get->aaD,slot_dict_values->aaM,slot_dict_clear->aaN,args_dict_get_3->aaO,slot_dict_items->aaP,attr_ValueError->aaQ,entry_dict_get->aaT,slot_dict_pop->aaU
open PySem.IntMulOk renaming of_le->abp
open PySem.W.KeqHits renaming hit->abq
open PySem.W.Looks renaming here->abr
open PySem.Within renaming cons->abt
set_option genSizeOf false
set_option genSizeOfSpec false
set_option genInjectivity false
set_option bootstrap.genMatcherCode false
noncomputable section
open PySem renaming wpAny_bind->aa,wpAny_pure->ag,wpAny_mono->av,wpAny_field->aw,wpAny_holding->ax,wpAny_Call_Name_kw->ay,wpAny_loadPart_at->az,wpAny_truthy_bool->aE,wpAny_callSpecial?_slot->aT,wpAny_seqItems->a_,wpAny_newObj_type->ba,codeAny_builtin->bb,plainId_quiet->bc,wpAny_call_entry->bd,wpAny_setField->be,wpAny_updateSeq->bg,wpAny_passesOwn->bi,wpAny_execs_nil->bj,wpAny_isSubtype_exc->bo,tupleKind_room_in1->bp,wpAny_tryCatch->bu,builtinLookup_eq_fast->bv,wpAny_standAt->bx,wpAny_attempt->bz,wpAny_newFunctionEnv_cells->bX,codeAny_mono->b8,call_meetsIn->b9,wpAny_Call_method0_late->ca,wpAny_execs_cons->cc,wpAny_pyNext_list_item->cf,wpAny_nextOf_list_item->ci,wpAny_specialOf->cm,typeLookup_type->cq,codeAny_call_function->cr,wpAny_rule->cw,wpAny_call->cy,wpAny_loadName_local->cz,wpAny_letGo->cE,wpAny_pyIter_list->cS,wpAny_Name->c0,plainObj_wpAny_Assign_Attribute->c9,wpAny_typeOf->da,wpAny_typeNameOfWhole_itemiter->db,numAt_eq->de,intItems_at->di,wpAny_typeNameOf_itemiter->dLq
open PySem.Heap renaming get?_push_of_some->ae,lt_size->af,get?_push_size->ah,get?_update_other->am,get?_update_self->ar,size_update->br,size_push->bP,get?_none_of_le->ce,get?_push_cases->dm,get?_update_ne->dr
open PySem.SeqAt renaming canLay_of_shaped->ai
open PySem.Around renaming under_plainId->aI
open PySem.Calls renaming callWith_builtin->aS,spliced_cons->bn,spliced_nil->bS,evalArgs_plain->cb,Name_function_global->cK
open PySem.Obj renaming isFreed_of_fields->bq,data_mapFields->bE
open PySem.F renaming slot_zip_next->ck,plain_extend_loop->cB,slot_dict_itemiterator_next->c_,slot_range_iterator_next->df
open PyProof.Rows renaming boot_list->cv
open PySem.Heap.Ns1 renaming of_empty->dk
open List renaming length_map->ak,mem_cons_self->au,mem_cons_of_mem->aA,getElem?_set_ne->aB,mem_cons->aC,map_cons->aD,getElem?_map->aF,getElem?_eq_getElem->aG,getElem?_eq_some_iff->aH,length_cons->aO,mem_append_right->aP,length_append->aV,mem_map->aY,getElem?_eq_none->bf,range->bC,map_map->bD,map_append->bF,getElem?_set_self->bH,mem_append_left->bI,mem_singleton->bJ,nodup_cons->bK,length_set->bL,length_replicate->bM,mem_append->bO,size_toArray->bQ,replicate->bR,getElem?_append_right->bT,getElem?_append_left->bU,lookup_cons->cj,append_nil->cA,mem_range->cI,getElem?_replicate->cJ,nodup_append->cL,map_nil->cO,mem_filter->cQ,map_congr_left->cT,mem_of_getElem?->cY,getD_eq_getElem?_getD->cZ,not_mem_nil->dD,append_assoc->d_,length_range->eE,pairwise_cons->eZ,length_nil->fL,filterMap_cons->fQ,all_eq_true->gB,contains_cons->gC,length_filter_le->gH,drop_eq_getElem_cons->gP,getElem?_of_mem->gZ,length_take->iD,any_eq_true->iG,filter_cons_of_neg->iH,filter_cons_of_pos->iI,lookup->iQ,getElem?_drop->iV,drop_eq_nil_of_le->iW,nil_append->jd,any_cons->jf,length_singleton->jg,reverse_cons->ji,ext_getElem?->jk,getElem_mem->ju,getElem?_range->jB,length_reverse->jC,all_cons->jG,of_mem_zip->jH,zip_cons_cons->jM,filter_cons->kY,cons_append->kZ,length->lO,getElem?_mapIdx->lR,find?_eq_none->m9,mem_of_find?_eq_some->nP,take_add_one->nR,take_length->oU,getElem?_cons_succ->oW,take_of_length_le->pU,drop_of_length_le->pY,filter_eq_nil_iff->pZ,forIn_cons->qY,filter_map->rm,find?_cons->rA,mem_iff_getElem?->rC,mem_iff_getElem->rM,mem_filterMap->uq,take_sublist->u6,filter_congr->u_,pairwise_map->vd
open Nat renaming le_refl->aN,reduceAdd->aU,ne_of_lt->bh,le_trans->bw,lt_of_lt_of_le->bG,lt_irrefl->dB,not_lt->dG,le_of_lt->fU,lt_trans->fV,zero_le->f9,lt_succ_self->gA,lt_or_ge->jt,lt_succ_of_lt->j4,le_add_right->oV,reduceLeDiff->oX,ne_of_gt->pW,zero_add->pX,min_le_left->q_,le_succ->rK,lt_of_le_of_lt->uw,eq_zero_or_pos->uy,le_of_eq->u5
open Int renaming toNat_natCast->dH,le_antisymm->jc,emod_lt_of_pos->jL,le_refl->lQ,emod_nonneg->mD,le_trans->mO,sub_zero->u9
open Option renaming bind_some->aj,some->cG,map_some->dJ,isSome_map->g8,bind->g_,map_eq_some_iff->iY,isSome_none->jK,isSome_some->m_,isSome_iff_exists->oF
open Bool renaming and_eq_true->aK,false_eq_true->cN,false_ne_true->eY,or_true->jw
open Array renaming length_toList->bW,getElem?_eq_none->dZ,getElem?_eq_some_iff->gD,getElem?_toList->jh,getElem?_eq_getElem->jA,mem_toList_iff->rJ,find?_toList->ur,forIn_toList->ux
open And renaming intro->dt
open PySem.PyData renaming int->du,eqv->eb,tuple->ec,canLay0->ef,bool->ei,canLayAll0->ew,depthAll->eD,str->eF,depth->eQ,strOk->eW,list->ge
open PySem renaming Shared->dv,Program->dA,Around->dQ,World->d4,FuncData->ee,Heap->eg,Stmt->et,Scope->eL,Keyword->eM,Builtin->eT,IsPair->eV,PassesOwn->fE,GenState->fF,Model->fN,CmpOp->fR,ZipApart->gc,Arguments->gd
open PySem.SeqAt renaming shaped->dy
open PySem.Value renaming ref->dE,none->d5,int->eJ,bool->eP,str->e_,type->fA
open Ne renaming symm->dL
open PySem.NameKind renaming free->eh,cell->e9
open PyProof.Rows renaming callWith_type1->er,boot_min->ff,AllBare->fy,IntsAre->fT,boot_tuple->f_,boot_bool->gf
open PySem.PassesOwn renaming never->ez
open PySem.Str renaming ofString->eA
open False renaming elim->eB
open True renaming intro->eC
open Sum renaming inl->eH,inr->fg
open PySem.Obj renaming mapSeq->eI,mapFields->f6
open ForInStep renaming yield->eK
open PySem.Heap renaming SameBut->eR,ExtBut->fh
open Classical renaming choose_spec->fo
open PySem.Heap.SameBut renaming update->fq
open List.Pairwise renaming imp_of_mem->f7
open PySem.Builtin.List renaming listSameRef->f8
open PySem PySem.Spec PyProof.Rows
local macro_rules|`(tactic|lia)=>`(tactic|omega)
variable{h h':eg}{p pos pos' tpos apos p2 cpos pos2 rpos hpos:Pos}{E:Value->dv->Prop}{b e tg elt ke arg:Expr}{pins:List (Addr×Obj)}{rest es ifs:List Expr}{u cdv:Value}{ps ks cs:List Str}{qual y cn ic en:Str}{j:Nat}{g:Array fF}{scope:eL}{body sts orelse suite:List et}{l ix sw:List Nat}{pl:Bool}{I:Addr}{bmB:List Value}{b0:et}{oa od:Obj}{as:List Addr}
variable{A:dQ}{it C a:Addr}{o:Obj}{i:Nat}{elts:List Expr}
def dTr{p:Prop}[Decidable p](h:p):decide p=true:=decide_eq_true h
def dFa{p:Prop}[Decidable p](h:¬p):decide p=false:=decide_eq_false h
def lMp{α β:Type}{f:α->β}{l:List α}:(l.map f).length=l.length:=ak f

namespace L2
def Hq(A:dQ)(O:eg):Prop:=A.handled=none\/∃h o C vs,A.handled=some (.ref h)/\O.get? h=some o/\o.cls=.ref C/\o.data=.fields vs/\vs[2]?=some .none
def Hq.keep(q:Hq A c)(k:∀h o C,o.cls=.ref C->c.get? h=some o->O.get? h=some o):Hq A O:=by
 rcases q with q|⟨h,o,C,vs,X,Y,Z,e4⟩
 .exact .inl q
 .exact .inr ⟨h,o,C,vs,X,k h o C Z Y,Z,e4⟩
def BX{U:eg}{h:Addr}{O:Obj}{T:String}(e1:U.get? it=some O)(c1:O.cls=.type T)(Y:U.get? h=some o)(Z:o.cls=.ref C):h≠it:=λz=>by
 rw[z,e1]at Y
 cases Y;rw[c1]at Z
 cases Z
def Aa:entryFor table "proto.unchain"=some eT.«proto.unchain»:=by first|exact entryFor_of_fast (by kernel_rfl)|exact entryFor_of_tree (by kernel_rfl)
section
variable{prog:dA}{w:d4}{s:dv}
def yu(U:Hq A s.heap)(O:s.heap.get? a=some oe)(hd:oe.data=.fields vs)(hz:2<vs.size)(Y:∀C,oe.cls ≠ .ref C)
 (h:∀h' o',eR a s.heap h'->h'.get? a=some o'->o'.cls=oe.cls->E (.ref a) {s with heap:=h'}):wpAny (model prog w) A (raiseNew (.ref a):Sem α) Q E s:=by
 simp only[raiseNew];refine aa (wpAny_handled ?_);rcases U with U|⟨b,o,C,ws,W,Z,X,e4,e5⟩
 .rw[U];exact aa (ag (wpAny_throw (h _ _ ⟨rfl,λ_ _=>rfl⟩ O rfl)))
 .rw[W];dsimp only;rw[if_pos (by
   rw[bne_iff_ne];intro z;injection z with z
   rw[z,O]at Z
   cases Z;exact Y C X)]
  refine aa (ax (runValue_entry Aa ?_));unfold eT.«proto.unchain»;refine aa (aw Z e4 e5 ?_);refine ag ⟨_,rfl,?_⟩;exact aa (be O hd hz (wpAny_throw (h _ _ (fq ..) (ar _ O (bq (bE hd _))) (Obj.cls_mapFields ..))))
def H_(O:Hq A s.heap)(h:∀a h',s.heap.objs.size<=a->(∀b o,s.heap.get? b=some o->h'.get? b=some o)->(∃o,h'.get? a=some o/\o.cls=.type "StopIteration")->E (.ref a) {s with heap:=h'}):
 wpAny (model prog w) A (newExc (.type "StopIteration") [] >>= λe=>(raiseNew e:Sem α)) Q E s:=by
 refine aa ?_;simp only[newExc,newTuple];refine aa (ba ?_ (by size_fits));refine aa (m:=firstArgMember _ _) (wpAny_of_eq (a:=d5) (by first|rfl|(simp only[firstArgMember];rfl)) ?_);refine ba ?_ (by size_fits);refine yu (O.keep λ_ _ _ _ e=>ae _ (ae _ e)) (ah _ rfl) rfl (by simp;lia) (λC z=>by cases z) λh' o' Z X Y=>h _ _ (by simp[Heap.push]) (λb o e=>(Z.2 b ?_).trans (ae _ (ae _ e))) ⟨o',X,Y⟩
 exact bh (bG (af e) (by simp[Heap.push]))
def tu{α:Type}{Q:Option Value->dv->Prop}{Q0:α->dv->Prop}{O:dQ}(U:Hq O s.heap)(Y:∀h',(∀b o,s.heap.get? b=some o->h'.get? b=some o)->Q none {s with heap:=h'}):
 wpAny (model prog w) O (newExc (.type "StopIteration") [] >>= λe=>(raiseNew e:Sem α)) Q0 (λe s'=>wpAny (model prog w) A (do if <-isInstance e (.type "StopIteration")then pure none else throw e) Q E s') s:=
 H_ U λa h' _ k ⟨o,X,Z⟩=>aa (wpAny_isInstance (T := "StopIteration") (b:=true) ⟨o,X,Z⟩ isSubtype_stop (ag (Y h' k)))
def Ia(U:Hq A s.heap)(O:s.heap.get? it=some o)(Y:o.cls=.type T):Hq A (s.heap.update it f):=
 U.keep λh o' C c e=>((fq ..).2 h (BX O Y e c)).trans e
def BZ(k:∀b o,(h.update it f).get? b=some o->c.get? b=some o):fh it h c:=λb o hb e=>k b o (((fq ..).2 b hb).trans e)
def v8{items}(hh:Hq A s.heap)(O:s.heap.IsListIter it c i)(U:s.heap.IsList c items)(hx:items[i]?=none)
 (hQ:∀h',fh it s.heap h'->Q none {s with heap:=h'}):wpAny (model prog w) A (pyNext (.ref it)) Q E s:=by
 obtain⟨o,Z,W,hd⟩:=id O;obtain⟨V,Y,_,nl,X⟩:=U;refine aa (bz (aT (name:=eA "__next__") O.typeIs slot_listiter_next (bd slot_listiter_next O.typeIs entry_listiter_next ?_ (args_listiter_next _))));refine aa (m:=field (.ref it) 0) (aw Z hd (x:=.ref c) rfl ?_);refine aa (m:=field (.ref it) 1) (aw Z hd (x:=.int i 0) rfl ?_);refine aa (m:=seqItems? (.ref c)) (a_ Y X ?_);simp only[dH,hx];exact aa (cw (aa (be Z hd (by simp) (tu (Ia hh Z W) λh' k=>hQ h' (BZ k)))))
def OD{items}(hh:Hq A s.heap)(O:IsTupIter s.heap it t i)(U:IsTup s.heap t items)(hx:items[i]?=none)
 (hQ:∀h',fh it s.heap h'->Q none {s with heap:=h'}):wpAny (model prog w) A (pyNext (.ref it)) Q E s:=by
 obtain⟨o,Z,W,hd⟩:=id O;obtain⟨V,Y,_,nl,X⟩:=U;refine aa (bz (aT (name:=eA "__next__") O.typeIs slot_tupleiter_next (bd slot_tupleiter_next O.typeIs entry_tupleiter_next ?_ (args_tupleiter_next _))));refine aa (m:=field (.ref it) 0) (aw Z hd (x:=.ref t) rfl ?_);refine aa (m:=field (.ref it) 1) (aw Z hd (x:=.int i 0) rfl ?_);refine aa (m:=seqItems? (.ref t)) (a_ Y X ?_);simp only[dH,hx];exact aa (cw (aa (be Z hd (by simp) (tu (Ia hh Z W) λh' k=>hQ h' (BZ k)))))
def Ie{x left step:Int}{Q:Option Value->dv->Prop}(Y:Hq A s.heap)(O:IsRangeIter s.heap it x left step)(U:left<=0)
 (hQ:∀h',fh it s.heap h'->Q none {s with heap:=h'}):wpAny (model prog w) A (pyNext (.ref it)) Q E s:=by
 have Z:s.TypeIs (.ref it) "range_iterator" := ⟨_,O,rfl⟩;refine aa (bz (aT (name:=eA "__next__") Z df (bd df Z F.entry_range_iterator_next ?_ (F.args_range_iterator_next_1 _))));refine aa (m:=field (.ref it) 0) (aw O rfl (x:=rawInt x) rfl ?_);refine aa (m:=field (.ref it) 1) (aw O rfl (x:=rawInt left) rfl ?_);refine aa (m:=field (.ref it) 2) (aw O rfl (x:=rawInt step) rfl ?_);show wpAny _ _ (if left<=0 then _ else _) _ _ s;rw[if_pos U];exact aa (cw (aa (tu Y λh' k=>hQ h' λb o _ e=>k b o e)))
def Ur{x1}(hh:Hq A s.heap)(U:IsTup s.heap t items)
 (hn:(assignEach elts env).length=items.size) (O:(assignEach elts env).findIdx? (·.1)=none)
 (hQ:∀h',fh s.heap.objs.size s.heap h'->wpAny (model prog w) A (assignInOrder ((assignEach elts env).map (·.2)) items.toList) Q E {s with heap:=h'}):
 wpAny (model prog w) A (assign (.Tuple elts x1 d) env (.ref t)) Q E s:=by
 rw[assign_Tuple];refine aa (bx ?_);unfold unpack;rw[hn,O];refine aa (ax ?_);have V:t≠s.heap.objs.size:=by obtain⟨o,S,_⟩:=U;exact bh (af S)
 refine aa (aa (cm U.typeIs slot_tuple_iter.lookup (ag ?_)));simp only[cN,if_false];refine aa (ax (iter_tuple U ?_));refine aa (ax (draw_tuple V items.size 0 _ _ ⟨_,ah _ rfl,rfl,rfl⟩ (U.push _) (by lia) λT Y Z=>?_));rw[List.drop_zero,pU (by simp),if_neg (by simp)];refine aa (ax (OD (hh.keep λh o C c e=>Z.extBut h o (bh (af e)) (ae _ e)) Y ((U.push _).extBut Z.extBut V) (by simp) λW X=>?_));simp only[jK,cN,if_false];exact ag (hQ W λb o hb e=>X b o hb (Z.extBut b o hb (ae _ e)))
end
abbrev Key:=Sum Int Str
noncomputable def yw:Key->Value->Bool
 |.inl k,v=>Value.isInt k v
 |.inr x,v=>Value.isStrOf x v
def ar9(w:d4):Key->Int
 |.inl k=>hashInt k
 |.inr x=>hashStr w x
theorem gb:∀{k:Key}{v:Value},yw k v=true->(∃i t,k=eH i/\v=eJ i t)\/(∃x t,k=fg x/\v=e_ x t)
 |.inl i,v,h=>by
  obtain⟨t,e⟩:=Value.isInt_shape (k:=i) (v:=v) h;exact .inl ⟨i,t,rfl,e⟩
 |.inr x,v,h=>by
  obtain⟨t,e⟩:=Value.isStrOf_shape (x:=x) (v:=v) h;exact .inr ⟨x,t,rfl,e⟩
def MF(i:Int)(t:Tok):yw (.inl i) (.int i t)=true:=by simp[yw,Value.isInt]
def MJ(x:Str)(t:Tok):yw (.inr x) (.str x t)=true:=by simp[yw,Value.isStrOf]
def Yb(a b:Int):decide ((eH a:Key)=eH b)=(a==b):=by
 by_cases e:a=b
 .subst e;simp
 .have h:¬(eH a:Key)=eH b:=λq=>e (Sum.inl.inj q)
  rw[dFa h];exact(beq_eq_false_iff_ne.mpr e).symm
def Yc(a b:Str):decide ((fg a:Key)=fg b)=decide (a=b):=by
 by_cases e:a=b
 .subst e;simp
 .have h:¬(fg a:Key)=fg b:=λq=>e (Sum.inr.inj q)
  rw[dFa h,dFa e]
def Yd(a:Int)(b:Str):decide ((eH a:Key)=fg b)=false:=dFa (λq=>nomatch q)
def Ye(a:Str)(b:Int):decide ((fg a:Key)=eH b)=false:=dFa (λq=>nomatch q)
def b_(prog:dA)(w:d4):PySem.KeyKind prog w Key where
 is:=yw
 hash:=ar9 w
 inj:=λv a b ha hb=>by
  rcases gb ha with⟨i,t,rfl,rfl⟩|⟨x,t,rfl,rfl⟩
  .rcases gb hb with⟨j,u,rfl,e⟩|⟨y,u,rfl,e⟩
   .injection e with Z _;rw[Z]
   .exact nomatch e
  .rcases gb hb with⟨j,u,rfl,e⟩|⟨y,u,rfl,e⟩
   .exact nomatch e
   .injection e with Z _;rw[Z]
 byValue:=λk v h=>by
  rcases gb h with⟨i,t,rfl,rfl⟩|⟨x,t,rfl,rfl⟩<;>rfl
 pyHash:=λY h=>by
  rcases gb Y with⟨i,t,rfl,rfl⟩|⟨x,t,rfl,rfl⟩
  .exact wpAny_pyHash_int h
  .exact wpAny_pyHash_str h
 eqBool:=λX Y h=>by
  rcases gb X with⟨i,t,rfl,rfl⟩|⟨x,t,rfl,rfl⟩
  .rcases gb Y with⟨j,u,rfl,rfl⟩|⟨y,u,rfl,rfl⟩
   .rw[Yb]at h;exact wpAny_eqBool_int h
   .rw[Yd]at h;exact SeqAt.EqAt.int_str i t y u _ _ _ _ h
  .rcases gb Y with⟨j,u,rfl,rfl⟩|⟨y,u,rfl,rfl⟩
   .rw[Ye]at h;exact SeqAt.EqAt.str_int x t j u _ _ _ _ h
   .rw[Yc]at h;exact wpAny_eqBool_str h
 «strs»:=λk x t v h=>by
  rcases gb h with⟨i,u,rfl,e⟩|⟨y,u,rfl,e⟩
  .exact nomatch e
  .injection e with Z _
   subst Z
   cases v<;>rfl
def yx(prog:dA)(w:d4)(k:Key)(v:Value):(b_ prog w).is k v=yw k v:=rfl
def Ey(prog:dA)(w:d4)(i:Int)(t:Tok):(b_ prog w).is (.inl i) (.int i t)=true:=MF i t
def Ez(prog:dA)(w:d4)(x:Str)(t:Tok):(b_ prog w).is (.inr x) (.str x t)=true:=MJ x t
end L2
variable{us:List Value}{b:Addr}{P:dA}{w:d4}
namespace L2
inductive V where
 |non|bl (b:Bool)|int (i:Int)|str (x:Str)|byt (b:Array UInt8)|flt (b:UInt64)|ref (a:Addr)|ty (n:String)
 deriving DecidableEq
def RelV:V->Value->Prop
 |.non,u=>u=d5
 |.bl b,u=>u=eP b
 |.int i,u=>∃t,u=eJ i t
 |.str x,u=>∃t,u=e_ x t
 |.byt b,u=>∃t,u=Value.bytes b t
 |.flt b,u=>∃t,u=Value.float b t
 |.ref a,u=>u=dE a
 |.ty n,u=>u=fA n
abbrev Vals:List V->List Value->Prop:=Paired RelV
def Vals.length{xs:List V}(r:Vals xs us):xs.length=us.length:=Paired.length r
theorem Vals.get:∀{xs:List V}{us:List Value}{i:Nat}{x:V},Vals xs us->xs[i]?=some x->∃u,us[i]?=some u/\RelV x u
 |_,_,_,_,.nil,e=>by simp at e
 |_,_,0,_,.cons r _,e=>by simp at e;subst e;exact⟨_,rfl,r⟩
 |_,_,i+1,x,.cons _ t,e=>by
  obtain⟨u,h1,h2⟩:=Vals.get (i:=i) (x:=x) t (by simpa using e);exact⟨u,by simpa using h1,h2⟩
theorem Vals.set(r:RelV x c):∀{xs:List V}{us:List Value}(i:Nat),Vals xs us->Vals (xs.set i x) (us.set i c)
 |_,_,_,.nil=>.nil
 |_,_,0,.cons _ t=>.cons r t
 |_,_,i+1,.cons q t=>.cons q (Vals.set r i t)
theorem Vals.append:∀{xs ys:List V}{us ws:List Value},Vals xs us->Vals ys ws->Vals (xs++ys) (us++ws)
 |_,_,_,_,.nil,s=>s
 |_,_,_,_,.cons r t,s=>.cons r (Vals.append t s)
theorem Vals.take:∀{xs:List V}{us:List Value}(n:Nat),Vals xs us->Vals (xs.take n) (us.take n)
 |_,_,0,_=>.nil
 |_,_,_+1,.nil=>.nil
 |_,_,n+1,.cons r t=>.cons r (Vals.take n t)
theorem Vals.drop:∀{xs:List V}{us:List Value}(n:Nat),Vals xs us->Vals (xs.drop n) (us.drop n)
 |_,_,0,r=>r
 |_,_,_+1,.nil=>.nil
 |_,_,n+1,.cons _ t=>Vals.drop n t
def rD:Option V->Option Value->Prop
 |some v,some u=>RelV v u
 |none,none=>True
 |_,_=>False
def KV : List (κ×V)->List (κ×Value)->Prop:=Paired λ(p:κ×V)(q:κ×Value)=>p.1=q.1/\RelV p.2 q.2
noncomputable def kV:Key->V
 |.inl i=>.int i
 |.inr x=>.str x
inductive HO where
 |lst (xs:List V)
 |tup (xs:List V)
 |dK (kvs:List (Key×V))|dT (kvs:List (List Key×V))
 |set (S:Int->Bool) (n:Nat)
 |ins (C dx:Addr) (fs:List (Str×V))
 |own (x:Addr)
 |xd (fs:List (Str×V))
 |met (f x:Addr)
 |rng (lo hi:Int)
 |frz (o:Obj) (u:HO)
 |tbl (q:Str) (p:Pos)
 |ext (φ:eg->Prop)
noncomputable abbrev Hp:=Addr->Option HO
noncomputable def upd(H:Hp)(a:Addr)(o:HO):Hp:=λb=>if b=a then some o else H b
def aW{o:HO}: upd H a o a=some o:=by unfold upd;rw[if_pos rfl]
def aL{o:HO}(h:b≠a):upd H a o b=H b:=by unfold upd;rw[if_neg h]
def cF{H:Hp}(h:H a=some c)(h':H b=some f)(d:c≠f):a≠b:=by
 intro e;subst e;rw[h]at h';exact d (cG.inj h')
def k_{H:Hp}(h:H a=some c)(h':H b=none):a≠b:=by
 intro e;subst e;rw[h]at h';cases h'
section
variable(P:dA)(w:d4)
def gO(H:Hp)(h:eg)(a:Addr):HO->Prop
 |.lst xs=>xs.length<=sizeLine/\∃(its:List Value)(n:Nat),Vals xs its/\h.get? a=some {cls:=.type "list", data:=.seq its.toArray n}
 |.tup xs=>xs.length<=sizeLine/\∃its:List Value,Vals xs its/\IsTup h a its.toArray
 |.dK kvs=>kvs.length<=sizeLine/\(a==sysModules)=false/\∃vs,KV kvs vs/\h.DictOf (b_ P w) a vs
 |.dT kvs=>kvs.length<=sizeLine/\(a==sysModules)=false/\∃xs:List (List Key×Addr×Value),
  Paired (λ(p:List Key×V)(q:List Key×Addr×Value)=>p.1=q.1/\H q.2.1=some (.tup (p.1.map kV))/\RelV p.2 q.2.2) kvs xs /\
  ∃o es Z,h.get? a=some o/\o.ExactDict/\o.data=.dict es Z/\es.toList=xs.map (entryOfKey (tupleKind (b_ P w)))/\(xs.map (·.1)).Nodup
 |.set S n=>h.SetOf (intKind P w) a S n
 |.ins C dx fs=>H dx=some (.own a)/\fs.length<=1000/\dx≠a/\h.get? a=some (aak C dx) /\
  ∃mA,h.Ns1 dx mA/\(∀f,rD (fs.lookup f) (mA f))/\aaY mA (fs.map (·.1))
 |.own _=>∃o,h.get? a=some o
 |.xd fs=>∃mA,h.Ns1 a mA/\∀f,rD (fs.lookup f) (mA f)
 |.rng lo hi=>∃t u v,h.get? a=some {cls:=.type "range", data:=.fields #[.int lo t,.int hi u,.int 1 v]}
 |.frz o u=>h.get? a=some o/\gO H h a u
 |.tbl q p=>∃ps,h.get? a=some {cls:=.none,data:=.fields ps}/\(ps = #[]\/∃c',ps = #[rawInt p.line,rawInt p.col,.ref c']/\H c'=some (.own a)/\h.CodeRec (.ref c') q)
 |.met f x=>h.get? a=some (PySem.W.methodObj (.ref f) (.ref x))
 |.ext φ=>φ h/\(∃o,h.get? a=some o)/\∀h1 h2:eg,φ h1->(∀o,h1.get? a=some o->h2.get? a=some o)->φ h2
def HOk(H:Hp)(h:eg):Prop:=∀a o,H a=some o->gO P w H h a o
end
section
variable{H H':Hp}{o:HO}
theorem gO.lt(x:gO P w H h a o):a<h.objs.size:=by
 cases o with
 |lst xs=>obtain⟨_,_,_,_,e⟩:=x;exact af e
 |tup xs=>obtain⟨_,_,_,p⟩:=x;exact p.lt
 |dK kvs=>obtain⟨_,_,_,_,o,_,_,e,_⟩:=x;exact af e
 |dT kvs=>obtain⟨_,_,_,_,o,_,_,e,_⟩:=x;exact af e
 |set S n=>obtain⟨o,_,_,_,e,_⟩:=x;exact af e
 |ins C dx fs=>obtain⟨_,_,_,e,_⟩:=x;exact af e
 |own y=>obtain⟨_,e⟩:=x;exact af e
 |xd fs=>obtain⟨_,⟨_,_,_,e,_⟩,_⟩:=x;exact af e
 |rng lo hi=>obtain⟨_,_,_,e⟩:=x;exact af e
 |frz Z u=>obtain⟨e,_⟩:=x;exact af e
 |tbl q p=>obtain⟨_,e,_⟩:=x;exact af e
 |met f y=>exact af (show h.get? a=some _ from x)
 |ext φ=>obtain⟨_,⟨_,e⟩,_⟩:=x;exact af e
theorem Paired.mapP:∀{U:List α}{O:List β},Paired F U O->(∀a b,F a b->G a b)->Paired G U O
 |_,_,.nil,_=>.nil
 |_,_,.cons r t,f=>.cons (f _ _ r) (Paired.mapP t f)
theorem gO.stay(x:gO P w H h a o)(k:∀b u,(b=a\/H b=some (.own a))->h.get? b=some u->h'.get? b=some u)
 (O:∀b,H b=some (.own a)->H' b=some (.own a)) (ht:∀b xs,H b=some (.tup xs)->H' b=some (.tup xs)):gO P w H' h' a o:=by
 induction o with
 |lst xs=>obtain⟨z,its,n,r,e⟩:=x;exact⟨z,its,n,r,k _ _ (.inl rfl) e⟩
 |tup xs=>obtain⟨z,its,r,Z,e,c⟩:=x;exact⟨z,its,r,Z,k _ _ (.inl rfl) e,c⟩
 |dK kvs=>obtain⟨z,y,vs,r,Z,es,Y,e,c⟩:=x;exact⟨z,y,vs,r,Z,es,Y,k _ _ (.inl rfl) e,c⟩
 |dT kvs=>
  obtain⟨z,y,xs,r,Z,es,Y,e,c⟩:=x;exact⟨z,y,xs,Paired.mapP r λp q z=>⟨z.1,ht _ _ z.2.1,z.2.2⟩,Z,es,Y,k _ _ (.inl rfl) e,c⟩
 |set S n=>obtain⟨Z,es,Y,t,e,c⟩:=x;exact⟨Z,es,Y,t,k _ _ (.inl rfl) e,c⟩
 |ins C dx fs=>
  obtain⟨d,z,ne,e,mA,⟨od,es,Y,L,c⟩,r⟩:=x;exact⟨O _ d,z,ne,k _ _ (.inl rfl) e,mA,⟨od,es,Y,k _ _ (.inr d) L,c⟩,r⟩
 |own y=>obtain⟨Z,e⟩:=x;exact⟨Z,k _ _ (.inl rfl) e⟩
 |xd fs=>obtain⟨mA,⟨od,es,Y,e,c⟩,r⟩:=x;exact⟨mA,⟨od,es,Y,k _ _ (.inl rfl) e,c⟩,r⟩
 |rng lo hi=>obtain⟨t,u,v,e⟩:=x;exact⟨t,u,v,k _ _ (.inl rfl) e⟩
 |frz Z u M=>obtain⟨e,q⟩:=x;exact⟨k _ _ (.inl rfl) e,M q⟩
 |tbl q p=>
  obtain⟨ps,e,z⟩:=x;refine⟨ps,k a _ (.inl rfl) e,?_⟩;rcases z with z|⟨c',Q,U,R⟩
  .exact .inl z
  .obtain⟨c,oc,vs,N,T,X,W,hq⟩:=R;have V:c'=c:=by injection T
   exact .inr ⟨c',Q,O _ U,c,oc,vs,N,T,k _ _ (.inr (V▸U)) X,W,hq⟩
 |met f y=>
  have e:=x;exact k a _ (.inl rfl) e
 |ext φ=>obtain⟨p,⟨o,e⟩,st⟩:=x;exact⟨st _ _ p λo q=>k _ _ (.inl rfl) q,⟨o,k _ _ (.inl rfl) e⟩,st⟩
def HOk.lt(x:HOk P w H h)(e:H a=some o):a<h.objs.size:=(x a o e).lt
theorem HOk.fresh(x:HOk P w H h)(e:h.objs.size<=a):H a=none:=by
 cases q:H a with
 |none=>rfl
 |some u=>exact absurd (bG (x.lt q) e) (dB _)
def HOk.kept(x:HOk P w H h)(k:∀b u,h.get? b=some u->h'.get? b=some u):HOk P w H h':=λa o e=>
 (x a o e).stay (λb u _ q=>k b u q) (λ_ q=>q) λ_ _ q=>q
def HOk.laid(x:HOk P w H h)(k:∀b u,h.get? b=some u->h'.get? b=some u)(O:h.objs.size<=a)(new:gO P w (upd H a o) h' a o):HOk P w (upd H a o) h':=λb u e=>by
 have hn:=x.fresh O;by_cases hb:b=a
 .subst hb;rw[aW]at e;cases e;exact new
 .rw[aL hb]at e;exact(x b u e).stay (λc v _ q=>k c v q) (λc q=>by rwa[aL (k_ q hn)]) λc xs q=>by rwa[aL (k_ q hn)]
end
def Rd(H:Hp)(a:Addr)(u:HO):Prop:=H a=some u\/∃o,H a=some (.frz o u)
def Rd.ok{u:HO}(r:Rd H a u)(x:HOk P w H h):gO P w H h a u:=by
 rcases r with r|⟨o,r⟩
 .exact x a u r
 .obtain⟨_,q⟩:=x a _ r;exact q
def Mut:Option HO->Prop
 |some (.lst _)=>True
 |some (.dK _)=>True
 |some (.dT _)=>True
 |some (.set _ _)=>True
 |some (.ins _ _ _)=>True
 |some (.ext _)=>True
 |_=>False
section
variable{H:Hp}{x e:Addr}{o':HO}
def HOk.write(ok:HOk P w H h)(O:Mut (H x))(he:e=x\/H e=some (.own x))(k:∀b u,b≠e->h.get? b=some u->h'.get? b=some u)(U:∃u,h'.get? e=some u)
 (new:gO P w (upd H x o') h' x o'):HOk P w (upd H x o') h':=λb u q=>by
 have Y:∀c y,H c=some (.own y)->c≠x:=λc y r z=>by subst z;rw[r]at O;exact O
 have X:∀c xs,H c=some (.tup xs)->c≠x:=λc xs r z=>by subst z;rw[r]at O;exact O
 by_cases hb:b=x
 .subst hb;rw[aW]at q;cases q;exact new
 .rw[aL hb]at q;by_cases Z:b=e
  .have V:H b=some (.own x):=by
    rcases he with z|z
    .exact absurd (Z.trans z) hb
    .rwa[Z]
   rw[q]at V;cases V;obtain⟨v,T⟩:=U;exact⟨v,by rwa[Z]⟩
  .refine(ok b u q).stay (λc v W r=>k c v ?_ r) (λc r=>by rwa[aL (Y c b r)]) λc xs r=>by rwa[aL (X c xs r)]
   rcases W with rfl|W
   .exact Z
   .rintro rfl;rcases he with z|z
    .exact Y c b W z
    .rw[W]at z;cases z;exact hb rfl
end
structure Un(fs ex:List Addr)(H H':Hp)(h h':eg):Prop where
 keep:∀b o,h.get? b=some o->H b=none->b∉fs->b∉ex->h'.get? b=some o
 slot:∀b o,h.get? b=some o->H b=none->b∈fs->b∉ex->∃sl,h'.get? b=some {o with slots:=sl}
 free:∀b o,h.get? b=some o->H b=none->b∉ex->H' b=none
 there:∀b o,h.get? b=some o->b∉ex->∃o',h'.get? b=some o'
 tups:∀b xs,H b=some (.tup xs)->H' b=some (.tup xs)
 frzs:∀b o u,H b=some (.frz o u)->H' b=some (.frz o u)
 tbls:∀b q p,H b=some (.tbl q p)->H' b=some (.tbl q p)
section
variable{fs fs' ex ex':List Addr}{H H1 H2:Hp}{h1 h2:eg}{x e:Addr}{o:HO}
def Un.any(u:Un fs ex H H1 h h1)(q:h.get? c=some O)(n:H c=none)(hx:c∉ex):∃sl,h1.get? c=some {O with slots:=sl}:=by
 by_cases hb:c∈fs
 .exact u.slot c O q n hb hx
 .exact⟨O.slots,u.keep c O q n hb hx⟩
def Un.kept(k:∀b u,h.get? b=some u->h'.get? b=some u):Un fs ex H H h h':=
 ⟨λb Z q _ _ _=>k b Z q,λb Z q _ _ _=>⟨Z.slots,k b Z q⟩,λ_ _ _ n _=>n,λb Z q _=>⟨Z,k b Z q⟩,λ_ _ q=>q,λ_ _ _ q=>q,λ_ _ _ q=>q⟩
def Un.refl:Un fs ex H H h h:=Un.kept λ_ _ q=>q
theorem Un.laid(k:∀b u,h.get? b=some u->h'.get? b=some u)(O:h.objs.size<=a)(hn:H a=none):Un fs ex H (upd H a o) h h' where
 keep:=λb u q _ _ _=>k b u q
 slot:=λb u q _ _ _=>⟨u.slots,k b u q⟩
 free:=λb u q n _=>by rwa[aL (bh (bG (af q) O))]
 there:=λb u q _=>⟨u,k b u q⟩
 tups:=λb xs q=>by rwa[aL (k_ q hn)]
 frzs:=λb u xs q=>by rwa[aL (k_ q hn)]
 tbls:=λb q p e=>by rwa[aL (k_ e hn)]
def Un.write(O:Mut (H x))(Y:e=x\/H e=some (.own x))(k:∀b u,b≠e->h.get? b=some u->h'.get? b=some u)(U:∃u,h'.get? e=some u):Un fs ex H (upd H x o) h h':=by
 have hx:∀b,H b=none->b≠x:=λb n z=>by subst z;rw[n]at O;exact O
 have hb:∀b,H b=none->b≠e:=λb n z=>by
  subst z;rcases Y with r|r
  .exact hx b n r
  .rw[n]at r;cases r
 have hm:∀b u,H b=some u->¬Mut (some u)->b≠x:=λb u q nm z=>by subst z;rw[q]at O;exact nm O
 refine⟨λb u q n _ _=>k b u (hb b n) q,λb u q n _ _=>⟨u.slots,k b u (hb b n) q⟩,λb u q n _=>by rwa[aL (hx b n)],λb u q _=>?_,
  λb xs q=>by rwa[aL (hm b _ q λz=>z)],λb u xs q=>by rwa[aL (hm b _ q λz=>z)],λb q p e=>by rwa[aL (hm b _ e λz=>z)]⟩
 by_cases Z:b=e
 .subst Z;exact U
 .exact⟨u,k b u Z q⟩
end
noncomputable def trk(h:eg)(H:Hp):List Addr:=(bC h.objs.size).filter λa=>(H a).isSome
def EY(h:eg)(H:Hp):eg:=PySem.W.hideAll h (trk h H)
def MK(h:eg)(H:Hp):(EY h H).objs.size=h.objs.size:=PySem.W.hideAll_size _ _
def OJ(e:h.get? b=some o)(n:H b=none):(EY h H).get? b=some o:=
 PySem.W.hideAll_get _ e λhm=>by
  have q:=(cQ.mp hm).2;rw[n]at q;simp at q
theorem Us(e:(EY h H).get? b=some o):h.get? b=some o/\H b=none:=by
 have Z:h.get? b=some o:=PySem.W.of_hideAll (trk h H) e;refine⟨Z,?_⟩
 cases q:H b with
 |none=>rfl
 |some x=>
  have hm:b∈trk h H:=cQ.mpr ⟨cI.mpr (af Z),by simp[q]⟩;have z:(EY h H).get? b=none:=PySem.W.hideAll_none (trk h H) hm;rw[z]at e;cases e
end L2
variable{xs dvs:List L2.V}{H H':L2.Hp}
variable{H:L2.Hp}{N:List Str}{x:Str}{v:L2.V}{s:dv}
namespace L2
structure Mod(K:aaa)(mg:Str->Option Value)(base:eg):Prop where
 kin:K.In base
 glob:base.Ns mainGlobals mg
 blt:∃mb,base.Ns builtinsNs mb/\∀x:Str,x≠"__name__"->mb x=bootBuiltins x
 nolimit:base.NoLimit
 bm:∃bm ob,mg "__builtins__"=some (.ref bm)/\bm≠builtinsNs/\base.get? bm=some ob/\ob.cls=.type "module"/\ob.dict=some builtinsNs/\ob.data=.plain
structure Cx where
 prog:dA
 w:d4
 K:aaa
 mg:Str->Option Value
 base:eg
 A:dQ
 N:List Str
 s₀:dv
 H₀:Hp
 env:Env
 outer:List Env
 stack:List Env
 ex:List Addr
 fn:Str->Bool
 calm:Bool
 still:Bool
 pn:List (Addr×Obj)
 xe:Value->dv->Prop
noncomputable def frs(l:List Env):List Addr:=l.filterMap (·.frame)
abbrev Cx.fs(X:Cx):List Addr:=frs X.outer
def Vis(sc:eL)(x:Str):Prop:=sc.names.lookup x=some .local\/sc.names.lookup x=some .cell\/sc.names.lookup x=some .free
def Loc(sc:eL)(x:Str):Prop:=sc.names.lookup x=some .local\/sc.names.lookup x=some .cell
def Look(env:Env)(h:eg)(m:Str->Option Value)(x:Str)(u:Value):Prop:=
 (env.kindOf x=some .local/\m x=some u)\/((env.kindOf x=some .cell\/env.kindOf x=some .free)/\∃c,env.cells.lookup x=some c/\h.IsCell c (some u))
def HqC(A:dQ)(O:eg)(H:Hp)(fs ex:List Addr):Prop:=A.handled=none\/∃h o C vs,A.handled=some (.ref h)/\O.get? h=some o/\H h=none/\h∉fs/\h∉ex/\o.cls=.ref C/\o.data=.fields vs/\vs[2]?=some .none
structure Cx.Ok(X:Cx):Prop where
 mod:Mod X.K X.mg X.base
 kind:X.env.scope.kind=.function
 glob:X.env.globals=mainGlobals
 blt:X.env.builtins=builtinsNs
 above:X.s₀.heap.objs.size<=X.env.locals
 inj:∀x y c,X.env.cells.lookup x=some c->X.env.cells.lookup y=some c->x=y
 has:∀x,(X.env.kindOf x=some .cell\/X.env.kindOf x=some .free)->∃c,X.env.cells.lookup x=some c
 cab:∀x c,X.fn x=true->X.env.cells.lookup x=some c->X.s₀.heap.objs.size<=c
 hd:X.calm=true->HqC X.A X.s₀.heap X.H₀ X.fs X.ex
 hs:X.still=true->X.A.handled=none
 frames:X.A.frames=some X.stack
 stk:X.stack=X.outer\/(X.stack=X.env::X.outer/\X.env.frame=some X.env.locals)
 exf:∀b∈X.ex,b≠X.env.locals/\∀x c,X.env.cells.lookup x=some c->c≠b
 bs:∀b o,X.base.get? b=some o->X.s₀.heap.get? b=some o/\X.H₀ b=none
 bsz:X.base.objs.size<=X.s₀.heap.objs.size
 noex:∀b o,X.base.get? b=some o->b∉X.ex
 exfs:∀b∈X.ex,b∉X.fs
 funs:X.s₀.heap.FunFrames X.base X.outer
 frf:∀b∈X.fs,X.H₀ b=none
structure Inv(X:Cx)(pins:List (Addr×Obj))(σ:List (Option V))(H:Hp)(s:dv):Prop where
 ok:X.Ok
 os:s.os=X.s₀.os
 bare:fy s.gens
 base:Un X.fs X.ex X.H₀ H X.s₀.heap s.heap
 loc:∃m,s.heap.Ns X.env.locals m/\∀(i:Nat)(x:Str)(v:V),X.N[i]?=some x->σ[i]?=some (some v)->Vis X.env.scope x->∃u,RelV v u/\Look X.env s.heap m x u
 cell:∀x c,X.env.cells.lookup x=some c->∃v,s.heap.IsCell c v
 free:H X.env.locals=none
 freeC:∀x c,X.env.cells.lookup x=some c->H c=none
 pin:∀p∈X.pn++pins,s.heap.get? p.1=some p.2/\H p.1=none/\p.1≠X.env.locals/\p.1∉X.fs/\∀v,p.2.data ≠ .cell v
 hok:HOk X.prog X.w H s.heap
 len:σ.length=X.N.length
section
variable{X:Cx}{σ:List (Option V)}{H:Hp}
def Cx.Ok.nofr(ok:X.Ok)(e:X.base.get? c=some d):c∉X.fs:=λhb=>by
 have:=(ok.funs.mem hb).1;rw[e]at this;cases this
def Inv.bs(I:Inv X pins σ H s):∀b o,X.base.get? b=some o->s.heap.get? b=some o/\H b=none:=λb o e=>
 ⟨I.base.keep b o (I.ok.bs b o e).1 (I.ok.bs b o e).2 (I.ok.nofr e) (I.ok.noex b o e),I.base.free b o (I.ok.bs b o e).1 (I.ok.bs b o e).2 (I.ok.noex b o e)⟩
def Inv.hqc(I:Inv X pins σ H s)(hc:X.calm=true)(O:∀b∈fs,b=X.env.locals\/b∈X.fs)(U:∀b∈ex,b∈X.ex\/X.s₀.heap.objs.size<=b):HqC X.A s.heap H fs ex:=by
 rcases I.ok.hd hc with z|⟨h,o,C,vs,W,Z,Y,e4,e5,e6⟩
 .exact .inl z
 .refine .inr ⟨h,o,C,vs,W,I.base.keep h o Z Y e4 e5,I.base.free h o Z Y e5,λz=>?_,λz=>?_,e6⟩
  .rcases O h z with y|y
   .exact absurd (bG (af Z) I.ok.above) (by rw[y];exact dB _)
   .exact e4 y
  .rcases U h z with y|y
   .exact e5 y
   .exact absurd (bG (af Z) y) (dB _)
def HqC.q{O:eg}{fs ex:List Addr}(q:HqC A O H fs ex):Hq A O:=q.imp id λ⟨h,o,C,vs,X,Y,_,_,_,Z⟩=>⟨h,o,C,vs,X,Y,Z⟩
def Inv.hq(I:Inv X pins σ H s)(O:X.calm=true):Hq X.A s.heap:=(I.hqc O (fs:=[]) (ex:=[]) (λb z=>(by cases z)) λb z=>(by cases z)).q
def Inv.bk(I:Inv X pins σ H s):∀b o,X.base.get? b=some o->s.heap.get? b=some o:=λb o e=>(I.bs b o e).1
def Inv.mod(I:Inv X pins σ H s):Mod X.K X.mg X.base:=I.ok.mod
def Inv.kIn(I:Inv X pins σ H s):X.K.In s.heap:=I.ok.mod.kin.keeps I.bk
def Inv.lt(I:Inv X pins σ H s):X.env.locals<s.heap.objs.size:=let⟨_,hn,_⟩:=I.loc;hn.lt
def Inv.sz(I:Inv X pins σ H s):X.s₀.heap.objs.size<=s.heap.objs.size:=bw I.ok.above (fU I.lt)
def Inv.nofs(I:Inv X pins σ H s)(h:s.heap.objs.size<=c):c∉X.fs:=λhb=>by
 obtain⟨_,o,Z,_⟩:=I.ok.funs.mem hb;exact absurd (bG (af Z) (bw I.sz h)) (dB _)
def Inv.cne(I:Inv X pins σ H s):∀x c,X.env.cells.lookup x=some c->c≠X.env.locals:=λx c e z=>by
 obtain⟨v,o,W,hd⟩:=I.cell x c e;obtain⟨m,⟨o',es,V,Z,Y,_⟩,_⟩:=I.loc;rw[z,Z]at W;cases W;rw[Y]at hd;cases hd
def Inv.funs(I:Inv X pins σ H s):s.heap.FunFrames X.base X.outer:=by
 have all:∀(l:List Env),(∀b∈frs l,b∈X.fs)->X.s₀.heap.FunFrames X.base l->s.heap.FunFrames X.base l:=by
  intro l
  induction l with
  |nil=>intro _ _;trivial
  |cons env r W=>
   intro hs T;obtain⟨S,⟨L,o,Z,hn,U,hd⟩,V⟩:=T;have Y:=hs L (by unfold frs;rw[fQ,Z];exact au);obtain⟨sl,e⟩:=I.base.slot L o U (I.ok.frf L Y) Y λz=>I.ok.exfs L z Y
   exact⟨S,⟨L,_,Z,hn,e,hd⟩,W (λb hb=>hs b (by unfold frs;rw[fQ,Z];exact aA _ hb)) V⟩
 exact all X.outer (λ_ hb=>hb) I.ok.funs
def Inv.stack(I:Inv X pins σ H s):s.heap.FunFrames X.base X.stack:=by
 rcases I.ok.stk with e|⟨e,Z⟩
 .rw[e];exact I.funs
 .rw[e];obtain⟨m,hn,_⟩:=I.loc;refine .cons (by rw[I.ok.kind];decide) Z hn ?_ I.funs;exact ce (bw I.ok.bsz I.ok.above)
def Inv.stkSub(I:Inv X pins σ H s):∀b∈frs X.stack,b∈X.env.locals::X.fs:=λb hb=>by
 rcases I.ok.stk with e|⟨e,Z⟩
 .rw[e]at hb;exact aA _ hb
 .rw[e]at hb;unfold frs at hb;rwa[fQ,Z]at hb
def Inv.stkFree(I:Inv X pins σ H s):∀b∈frs X.stack,H b=none:=λb hb=>by
 rcases aC.mp (I.stkSub b hb)with e|hb
 .rw[e];exact I.free
 .obtain⟨_,o,Z,_⟩:=I.ok.funs.mem hb;exact I.base.free b o Z (I.ok.frf b hb) λz=>I.ok.exfs b z hb
def Inv.step{ch:List Addr}(I:Inv X pins σ H s)
 (O:∀b∈ch,(b∈X.ex\/X.s₀.heap.objs.size<=b)/\b≠X.env.locals/\(∀x c,X.env.cells.lookup x=some c->c≠b)/\∀p∈X.pn++pins,p.1≠b)
 (keep:∀b o,b≠X.env.locals->b∉X.fs->b∉ch->s.heap.get? b=some o->H b=none->h'.get? b=some o)
 (slot:∀b o,b≠X.env.locals->b∈X.fs->b∉ch->s.heap.get? b=some o->H b=none->∃sl,h'.get? b=some {o with slots:=sl}) (free:∀b o,b∉ch->s.heap.get? b=some o->H b=none->H' b=none)
 (there:∀b o,b∉ch->s.heap.get? b=some o->∃o',h'.get? b=some o')
 (tups:∀b xs,H b=some (.tup xs)->H' b=some (.tup xs)) (frzs:∀b o u,H b=some (.frz o u)->H' b=some (.frz o u)) (tbls:∀b q p,H b=some (.tbl q p)->H' b=some (.tbl q p))
 (ns:∀m,s.heap.Ns X.env.locals m->h'.Ns X.env.locals m) (hok:HOk X.prog X.w H' h') (hg:fy g'):
 Inv X pins σ H' {s with heap:=h',gens:=g',drawn:=d',toks:=t'}:=by
 have U:∀b o,X.s₀.heap.get? b=some o->b≠X.env.locals:=λb o e=>bh (bG (af e) I.ok.above)
 have Y:∀b o,X.s₀.heap.get? b=some o->b∉X.ex->b∉ch:=λb o e hx hb=>by
  rcases(O b hb).1 with z|z
  .exact hx z
  .exact absurd (bG (af e) z) (dB _)
 have cellK:∀x c,X.env.cells.lookup x=some c->∀v,s.heap.IsCell c v->h'.IsCell c v:=λx c e v ⟨o,V,hd⟩=>by
  have Z:=λz=>(O c z).2.2.1 x c e rfl
  by_cases Q:c∈X.fs
  .obtain⟨sl,q⟩:=slot c o (I.cne x c e) Q Z V (I.freeC x c e);exact⟨_,q,hd⟩
  .exact⟨o,keep c o (I.cne x c e) Q Z V (I.freeC x c e),hd⟩
 refine⟨I.ok,I.os,hg,⟨λb o e n hb hx=>?_,λb o e n hb hx=>?_,λb o e n hx=>?_,λb o e hx=>?_,λb xs e=>tups b xs (I.base.tups b xs e),λb o xs e=>frzs b o xs (I.base.frzs b o xs e),λb q p e=>tbls b q p (I.base.tbls b q p e)⟩,?_,λx c e=>?_,?_,λx c e=>?_,λp R=>?_,hok,I.len⟩
 .exact keep b o (U b o e) hb (Y b o e hx) (I.base.keep b o e n hb hx) (I.base.free b o e n hx)
 .obtain⟨sl,W⟩:=I.base.slot b o e n hb hx;obtain⟨T,S⟩:=slot b _ (U b o e) hb (Y b o e hx) W (I.base.free b o e n hx);exact⟨T,S⟩
 .obtain⟨o',W⟩:=I.base.there b o e hx;exact free b o' (Y b o e hx) W (I.base.free b o e n hx)
 .obtain⟨o',W⟩:=I.base.there b o e hx;exact there b o' (Y b o e hx) W
 .obtain⟨m,hn,P⟩:=I.loc;refine⟨m,ns m hn,λi x v W S N=>?_⟩;obtain⟨u,r,l⟩:=P i x v W S N;refine⟨u,r,?_⟩;rcases l with l|⟨k,c,e,z⟩
  .exact .inl l
  .exact .inr ⟨k,c,e,cellK x c e _ z⟩
 .obtain⟨v,z⟩:=I.cell x c e;exact⟨v,cellK x c e v z⟩
 .obtain⟨m,⟨o,_,_,V,_⟩,_⟩:=I.loc;exact free _ o (λz=>(O _ z).2.1 rfl) V I.free
 .obtain⟨v,o,V,hd⟩:=I.cell x c e;exact free c o (λz=>(O c z).2.2.1 x c e rfl) V (I.freeC x c e)
 .obtain⟨e,n,ne,nf,d⟩:=I.pin p R;have Z:=λz=>(O p.1 z).2.2.2 p R rfl
  exact⟨keep p.1 p.2 ne nf Z e n,free p.1 p.2 Z e n,ne,nf,d⟩
def Inv.un(I:Inv X pins σ H s)(u:Un X.fs [] H H' s.heap h')(hok:HOk X.prog X.w H' h'):Inv X pins σ H' {s with heap:=h',toks:=t'}:=by
 obtain⟨m,⟨o,es,R,V,r⟩,_⟩:=id I.loc;obtain⟨sl,T⟩:=u.any V I.free (by simp);exact I.step (g':=s.gens) (d':=s.drawn) (ch:=[]) (λ_ z=>nomatch z) (λb o _ hb _ e n=>u.keep b o e n hb (by simp)) (λb o _ hb _ e n=>u.slot b o e n hb (by simp)) (λb o _ e n=>u.free b o e n (by simp)) (λb o _ e=>u.there b o e (by simp)) u.tups u.frzs u.tbls (λS hm=>by
  obtain⟨o',Y,W,Z,U⟩:=hm;rw[V]at Z;cases Z;exact⟨_,Y,W,T,U⟩) hok I.bare
def Inv.call(I:Inv X pins σ H s)(u:Un (frs X.stack) ch H H' s.heap h')(hok:HOk X.prog X.w H' h')(hg:fy g')
 (O:∀b∈ch,(b∈X.ex\/X.s₀.heap.objs.size<=b)/\b≠X.env.locals/\(∀x c,X.env.cells.lookup x=some c->c≠b)/\∀p∈X.pn++pins,p.1≠b):
 Inv X pins σ H' {s with heap:=h',gens:=g',drawn:=d',toks:=t'}:=by
 obtain⟨m,⟨o,es,Q,T,r⟩,_⟩:=id I.loc;obtain⟨sl,W⟩:=u.any T I.free λz=>(O _ z).2.1 rfl
 exact I.step (ch:=ch) O (λb o W hb Z e n=>u.keep b o e n (λz=>(aC.mp (I.stkSub b z)).elim W hb) Z) (λb o _ _ Z e n=>u.any e n Z) (λb o Z e n=>u.free b o e n Z) (λb o Z e=>u.there b o e Z) u.tups u.frzs u.tbls (λR hm=>by
  obtain⟨o',V,U,Y,S⟩:=hm;rw[T]at Y;cases Y;exact⟨_,V,U,W,S⟩) hok hg
def Inv.turned(I:Inv X pins σ H s)(k:∀b o,b≠it->s.heap.get? b=some o->h'.get? b=some o)(hn:H it=none)(O:it≠X.env.locals)
 (h1:it∈X.ex\/X.s₀.heap.objs.size<=it) (h2:∀x c,X.env.cells.lookup x=some c->c≠it) (h3:∀p∈X.pn++pins,p.1≠it):Inv X pins σ H {s with heap:=h',toks:=t'}:=by
 have Y:∀b u,H b=some u->b≠it:=λb u e z=>by rw[z,hn]at e;cases e
 refine I.step (g':=s.gens) (d':=s.drawn) (ch:=[it]) (λb hb=>?_) (λb o _ _ Z e _=>k b o (λz=>Z (by simp[z])) e) (λb o _ _ Z e _=>⟨o.slots,k b o (λz=>Z (by simp[z])) e⟩) (λ_ _ _ _ n=>n)
  (λb o Z e=>⟨o,k b o (λz=>Z (by simp[z])) e⟩) (λ_ _ e=>e) (λ_ _ _ e=>e) (λ_ _ _ e=>e) (λm hm=>?_) (λb u e=>?_) I.bare
 .have e:b=it:=by simpa using hb
  subst e;exact⟨h1,O,h2,h3⟩
 .obtain⟨o,es,V,W,r⟩:=hm;exact⟨o,es,V,k _ o (dL O) W,r⟩
 .refine(I.hok b u e).stay (λc v Z q=>k c v ?_ q) (λ_ q=>q) λ_ _ q=>q
  rcases Z with z|z
  .rw[z];exact Y b u e
  .exact Y c _ z
def Inv.tok(I:Inv X pins σ H s)(t:Nat):Inv X pins σ H {s with toks:=t}:=I.un (h':=s.heap) (t':=t) Un.refl I.hok
def Inv.kept(I:Inv X pins σ H s)(k:∀b u,s.heap.get? b=some u->h'.get? b=some u):Inv X pins σ H {s with heap:=h',toks:=t'}:=I.un (Un.kept k) (I.hok.kept k)
def Inv.laid{o:HO}(I:Inv X pins σ H s)(k:∀b u,s.heap.get? b=some u->h'.get? b=some u)(O:s.heap.objs.size<=a)(new:gO X.prog X.w (upd H a o) h' a o):
 Inv X pins σ (upd H a o) {s with heap:=h',toks:=t'}:=I.un (Un.laid k O (I.hok.fresh O)) (I.hok.laid k O new)
def Inv.write{x e:Addr}(I:Inv X pins σ H s)(U:Mut (H x))(Y:e=x\/H e=some (.own x))(k:∀b u,b≠e->s.heap.get? b=some u->h'.get? b=some u)(O:∃u,h'.get? e=some u)
 (new:gO X.prog X.w (upd H x c) h' x c):Inv X pins σ (upd H x c) {s with heap:=h',toks:=t'}:=I.un (Un.write U Y k O) (I.hok.write U Y k O new)
def Inv.pins_of(I:Inv X pins σ H s)(h:∀p∈pins',s.heap.get? p.1=some p.2/\H p.1=none/\p.1≠X.env.locals/\p.1∉X.fs/\∀v,p.2.data ≠ .cell v):Inv X pins' σ H s:=
 ⟨I.ok,I.os,I.bare,I.base,I.loc,I.cell,I.free,I.freeC,λp Z=>(bO.mp Z).elim (λz=>I.pin p (bI _ z)) (h p),I.hok,I.len⟩
def yC(O:N.Nodup){i j:Nat}(a:N[i]?=some c)(b:N[j]?=some c):i=j:=by
 obtain⟨h1,Y⟩:=aH.mp a;obtain⟨h2,Z⟩:=aH.mp b;exact(List.getElem_inj O).mp (Y.trans Z.symm)
def Ax(I:Inv X pins σ H s)(hN:X.N.Nodup)(hi:X.N[i]?=some x)(hx:Loc X.env.scope x)(r:RelV v q1)
 (h:∀s',Inv X pins (σ.set i (some v)) H s'->(∃a,eR a s.heap s'.heap/\(a=X.env.locals\/X.env.cells.lookup x=some a))->Q () s') (hf:X.fn x=true\/X.env.scope.names.lookup x=some .local:=by first|exact .inl rfl|exact .inr rfl|assumption):wpAny M A (storeName X.env x q1) Q q0 s:=by
 obtain⟨m,hn,f⟩:=id I.loc;have O:(X.env.scope.kind == .class||(X.env.scope.kind == .module&&X.env.locals != X.env.globals))=false:=by rw[I.ok.kind];rfl
 have T:i<σ.length:=by rw[I.len];exact(aH.mp hi).1
 have cne:=I.cne;have tracked:∀{a:Addr}{h':eg},(∃o,s.heap.get? a=some o/\H a=none)->eR a s.heap h'->HOk X.prog X.w H h':=λ{a h'} ha hs b ob e=>by
  obtain⟨_,_,W⟩:=ha;refine(I.hok b ob e).stay (λc J Y q=>(hs.2 c ?_).trans q) (λ_ q=>q) λ_ _ q=>q
  rintro rfl;rcases Y with rfl|Y
  .rw[W]at e;cases e
  .rw[W]at Y;cases Y
 rcases hx with U|U
 .refine wpAny_storeName_local U hn (λh' t hs=>?_) O;obtain⟨oL,_,_,B,_⟩:=id hn;refine h _ ⟨I.ok,I.os,I.bare,⟨λb o e n hb hx=>?_,λb o e n hb hx=>?_,I.base.free,λb o e hx=>?_,I.base.tups,I.base.frzs,I.base.tbls⟩,⟨_,t,λj y G Z V l=>?_⟩,λy c e=>?_,I.free,I.freeC,λp C=>?_,tracked ⟨oL,B,I.free⟩ hs,by simpa using I.len⟩ ⟨_,hs,.inl rfl⟩
  .exact(hs.2 b (bh (bG (af e) I.ok.above))).trans (I.base.keep b o e n hb hx)
  .obtain⟨sl,Z⟩:=I.base.slot b o e n hb hx;exact⟨sl,(hs.2 b (bh (bG (af e) I.ok.above))).trans Z⟩
  .obtain⟨o',Z⟩:=I.base.there b o e hx;exact⟨o',(hs.2 b (bh (bG (af e) I.ok.above))).trans Z⟩
  .by_cases S:j=i
   .subst S;rw[hi]at Z;cases Z;rw[bH T]at V
    cases V;exact⟨q1,r,.inl ⟨U,by simp⟩⟩
   .rw[aB (dL S)]at V;obtain⟨F,D,q⟩:=f j y G Z V l;refine⟨F,D,?_⟩;rcases q with⟨k,e⟩|⟨k,c,e,z⟩
    .refine .inl ⟨k,?_⟩;have:y≠x:=λe=>S (yC hN Z (e▸hi))
     simp[this,e]
    .exact .inr ⟨k,c,e,z.sameBut hs (cne y c e)⟩
  .obtain⟨J,z⟩:=I.cell y c e;exact⟨J,z.sameBut hs (cne y c e)⟩
  .obtain⟨e,n,ne,nf,d⟩:=I.pin p C;exact⟨(hs.2 p.1 ne).trans e,n,ne,nf,d⟩
 .have R:X.fn x=true:=by
   rcases hf with z|z
   .exact z
   .rw[z]at U;cases U
  obtain⟨c,Y⟩:=I.ok.has x (.inl U);obtain⟨J,z⟩:=I.cell x c Y;refine wpAny_storeName_cell I.ok.kind U Y z (λh' K hs=>?_);obtain⟨oc,P,g⟩:=id z;refine h {s with heap:=h'} ⟨I.ok,I.os,I.bare,⟨λb o e n hb hx=>?_,λb o e n hb hx=>?_,I.base.free,λb o e hx=>?_,I.base.tups,I.base.frzs,I.base.tbls⟩,⟨m,hn.sameBut hs (dL (cne x c Y)),λj y G Z V l=>?_⟩,λy c' e=>?_,I.free,I.freeC,λp C=>?_,tracked ⟨oc,P,I.freeC x c Y⟩ hs,by simpa using I.len⟩ ⟨c,hs,.inr Y⟩
  .exact(hs.2 b (bh (bG (af e) (I.ok.cab x c R Y)))).trans (I.base.keep b o e n hb hx)
  .obtain⟨sl,Z⟩:=I.base.slot b o e n hb hx;exact⟨sl,(hs.2 b (bh (bG (af e) (I.ok.cab x c R Y)))).trans Z⟩
  .obtain⟨o',Z⟩:=I.base.there b o e hx;exact⟨o',(hs.2 b (bh (bG (af e) (I.ok.cab x c R Y)))).trans Z⟩
  .by_cases S:j=i
   .subst S;rw[hi]at Z;cases Z;rw[bH T]at V
    cases V;exact⟨q1,r,.inr ⟨.inl U,c,Y,K⟩⟩
   .rw[aB (dL S)]at V;obtain⟨F,D,q⟩:=f j y G Z V l;refine⟨F,D,?_⟩;rcases q with q|⟨k,c',e,z'⟩
    .exact .inl q
    .refine .inr ⟨k,c',e,z'.sameBut hs ?_⟩;rintro rfl;exact S (yC hN Z (I.ok.inj _ _ _ e Y▸hi))
  .by_cases L:c'=c
   .subst L;exact⟨_,K⟩
   .obtain⟨w2,z2⟩:=I.cell y c' e;exact⟨w2,z2.sameBut hs L⟩
  .obtain⟨e,n,ne,nf,d⟩:=I.pin p C;refine⟨(hs.2 p.1 ?_).trans e,n,ne,nf,d⟩;intro q;rw[q,P]at e;have q':oc=p.2:=cG.inj e;exact d J (by rwa[<-q'])
def vf(I:Inv X pins σ H s)(U:X.N.Nodup)(hi:X.N[i]?=some x)(hx:Loc X.env.scope x)(r:RelV v d)
 (h:∀s',Inv X pins (σ.set i (some v)) H s'->Q () s') (O:X.fn x=true\/X.env.scope.names.lookup x=some .local:=by first|exact .inl rfl|exact .inr rfl|assumption):wpAny M A (storeName X.env x d) Q c s:=
 Ax I U hi hx r (λs' Z _=>h s' Z) O
def Inv.call'(I:Inv X pins σ H s)(U:s'.os=s.os)(u:Un (frs X.stack) ch H H' s.heap s'.heap)(hok:HOk X.prog X.w H' s'.heap)(Y:fy s'.gens)
 (O:∀b∈ch,(b∈X.ex\/X.s₀.heap.objs.size<=b)/\b≠X.env.locals/\(∀x c,X.env.cells.lookup x=some c->c≠b)/\∀p∈X.pn++pins,p.1≠b):Inv X pins σ H' s':=by
 obtain⟨h',g',W,Z,o'⟩:=s';have e:=U;subst e;exact I.call (g':=g') (t':=Z) (d':=W) u hok Y O
end
abbrev XK:=Value->Option Addr->Hp->Prop
abbrev St:=List (Option V)
abbrev VK:=V->Hp->Prop
abbrev TE:=St->Hp->VK->Prop
abbrev TT:=St->Hp->(Bool->Hp->Prop)->Prop
abbrev TA:=St->Hp->(List V->Hp->Prop)->Prop
structure Ends where
 nx:St->Hp->Prop
 rt:VK
 bk:St->Hp->Prop:=λ_ _=>False
 ct:St->Hp->Prop:=λ_ _=>False
abbrev TS:=Ends->St->Hp->Prop
def EP(X:Cx)(pins:List (Addr×Obj))(σ:St)(Q:VK)(u:Value)(s':dv):Prop:=∃v H',Inv X pins σ H' s'/\RelV v u/\Q v H'
def TP(X:Cx)(pins:List (Addr×Obj))(σ:St)(Q:Bool->Hp->Prop)(b:Bool)(s':dv):Prop:=∃H',Inv X pins σ H' s'/\Q b H'
def AP(X:Cx)(pins:List (Addr×Obj))(σ:St)(Q:List V->Hp->Prop)(us:List Value)(s':dv):Prop:=∃vs H',Inv X pins σ H' s'/\Vals vs us/\Q vs H'
def SP(X:Cx)(pins:List (Addr×Obj))(D:Ends)(f:Flow)(s':dv):Prop:=
 match f with
 |.next=>∃σ' H',Inv X pins σ' H' s'/\D.nx σ' H'
 |.brk=>∃σ' H',Inv X pins σ' H' s'/\D.bk σ' H'
 |.cont=>∃σ' H',Inv X pins σ' H' s'/\D.ct σ' H'
 |.ret u=>∃v σ' H',Inv X pins σ' H' s'/\RelV v u/\D.rt v H'
def PE(X:Cx)(e:Expr)(t:TE):Prop:=
 ∀(pins:List (Addr×Obj))(s:dv)(σ:St)(H:Hp)(Q:VK),Inv X pins σ H s->t σ H Q->wpAny (model X.prog X.w) X.A (eval e X.env) (EP X pins σ Q) X.xe s
def PT(X:Cx)(e:Expr)(t:TT):Prop:=
 ∀(pins:List (Addr×Obj))(s:dv)(σ:St)(H:Hp)(Q:Bool->Hp->Prop),Inv X pins σ H s->t σ H Q->wpAny (model X.prog X.w) X.A (isTrue e X.env (eval e X.env)) (TP X pins σ Q) X.xe s
def PW(X:Cx)(e:Expr)(t:TT):Prop:=
 ∀(whole:Sem Value)(pins:List (Addr×Obj))(s:dv)(σ:St)(H:Hp)(Q:Bool->Hp->Prop),Inv X pins σ H s->t σ H Q->wpAny (model X.prog X.w) X.A (isTrue e X.env whole) (TP X pins σ Q) X.xe s
def PW.pt(h:PW X c t):PT X c t:=h _
def PA(X:Cx)(es:List Expr)(t:TA):Prop:=
 ∀(pos:Pos)(pins:List (Addr×Obj))(s:dv)(σ:St)(H:Hp)(Q:List V->Hp->Prop),Inv X pins σ H s->t σ H Q->wpAny (model X.prog X.w) X.A (spliced (backTo pos (starEach es X.env))) (AP X pins σ Q) X.xe s
def PS(X:Cx)(st:et)(t:TS):Prop:=
 ∀(pins:List (Addr×Obj))(s:dv)(σ:St)(H:Hp)(D:Ends),Inv X pins σ H s->t D σ H->wpAny (model X.prog X.w) X.A (exec st X.env) (SP X pins D) X.xe s
def PSs(X:Cx)(st:List et)(t:TS):Prop:=
 ∀(pins:List (Addr×Obj))(s:dv)(σ:St)(H:Hp)(D:Ends),Inv X pins σ H s->t D σ H->wpAny (model X.prog X.w) X.A (execs st X.env) (SP X pins D) X.xe s
def thn(h:wpAny M A t Q c s)(U:∀a s,Q a s->O a s):wpAny M A t O c s:=av h U λ_ _ x=>x
end L2
variable{X:L2.Cx}
variable{Q:Value->dv->Prop}
namespace L2
section
def as3(i:Nat):TE:=λσ H Q=>∃v,σ[i]?=some (some v)/\Q v H
def tC(v:V):TE:=λ_ H Q=>Q v H
def fW(hN:X.N[i]?=some x)(O:Vis X.env.scope x)(hd:(x==("__debug__":Str))=false:=by decide)(hcd:(x==("__classdict__":Str))=false:=by decide):PE X (.Name x d) (as3 i):=by
 intro pins s σ H Q I h;obtain⟨v,e,h⟩:=h;obtain⟨m,hn,U⟩:=I.loc;obtain⟨u,r,l⟩:=U i x v hN e O;have W:EP X pins σ Q u s:=⟨v,H,I,r,h⟩;rcases l with⟨Y,hm⟩|⟨Y,c,V,Z⟩
 .exact c0 (cz I.ok.kind Y hn hm W) hd
 .rcases Y with Y|Y
  .exact c0 (wpAny_loadName_cell I.ok.kind Y V Z W) hd
  .exact c0 (wpAny_loadName_free I.ok.kind Y V Z W hcd) hd
def Yg{i j pos}:PE X (.Constant (.int i) j pos) (tC (.int i)):=λ_ _ _ H _ I h=>wpAny_Constant_int ⟨.int i,H,I.tok _,⟨_,rfl⟩,h⟩
def ae5{b j pos}:PE X (.Constant (.bool b) j pos) (tC (.bl b)):=λ_ _ _ H _ I h=>Constant_bool ⟨.bl b,H,I,rfl,h⟩
def Yh{j pos}:PE X (.Constant .none j pos) (tC .non):=λ_ _ _ H _ I h=>Constant_none ⟨.non,H,I,rfl,h⟩
def Yi{x j pos}:PE X (.Constant (.str x) j pos) (tC (.str x)):=λ_ _ _ H _ I h=>Calls.Constant_str ⟨.str x,H,I.tok _,⟨_,rfl⟩,h⟩
def Gl(X:Cx)(x:Str):Prop:=X.env.kindOf x=some .globalImplicit
def tE(I:Inv X d σ H s)(O:Gl X x)(hm:X.mg x=some f)(h:Q f s)
 (hd:(x==("__debug__":Str))=false:=by decide):wpAny (model X.prog X.w) X.A (eval (.Name x k) X.env) Q c s:=
 cK I.ok.kind O (Calls.loadGlobal_global (by rw[I.ok.glob];exact I.mod.glob.keeps I.bk) hm h) hd
def oG(I:Inv X d σ H s)(U:Gl X x)(hm:X.mg x=none)(O:bootBuiltins x=some f)(h:Q f s)
 (hn:x≠"__name__" := by decide) (hd:(x==("__debug__":Str))=false:=by decide):wpAny (model X.prog X.w) X.A (eval (.Name x k) X.env) Q c s:=by
 obtain⟨Z,h1,h2⟩:=I.mod.blt;exact cK I.ok.kind U (Calls.loadGlobal_builtin (by rw[I.ok.glob];exact I.mod.glob.keeps I.bk) hm (by rw[I.ok.blt];exact h1.keeps I.bk) ((h2 x hn).trans O) h) hd
def Ut(O:Gl X x)(hm:X.mg x=some c)(r:RelV v c)(hd:(x==("__debug__":Str))=false:=by decide):PE X (.Name x d) (tC v):=
 λ_ _ _ H _ I h=>tE I O hm ⟨v,H,I,r,h⟩ hd
def Uu(U:Gl X x)(hm:X.mg x=none)(O:bootBuiltins x=some c)(r:RelV v c)(hn:x≠"__name__" := by decide)(hd:(x==("__debug__":Str))=false:=by decide):PE X (.Name x d) (tC v):=
 λ_ _ _ H _ I h=>oG I U hm O ⟨v,H,I,r,h⟩ hn hd
variable{a b:Expr}{ta tb:TE}
def PC(X:Cx)(op:fR)(a b:Expr)(t:TE):Prop:=
 ∀(pins:List (Addr×Obj))(s:dv)(σ:St)(H:Hp)(Q:VK),Inv X pins σ H s->t σ H Q ->
  wpAny (model X.prog X.w) X.A (eval a X.env) (λv Y=>wpAny (model X.prog X.w) X.A (eval b X.env) (λu Z=>wpAny (model X.prog X.w) X.A (compareOp op v u) (EP X pins σ Q) X.xe Z) X.xe Y) X.xe s
def E_(b:Expr)(h:op ≠ .In)(h2:op ≠ .NotIn):behindInMarks op b=false:=by
 have Y:(op==CmpOp.In)=false:=by cases op<;>first|rfl|exact absurd rfl h
 have Z:(op==CmpOp.NotIn)=false:=by cases op<;>first|rfl|exact absurd rfl h2
 cases b<;>simp[behindInMarks,Y,Z]
def as4(ta:TE):TE:=λσ H Q=>ta σ H λx H1=>Q (.bl (decide (x=.non))) H1
theorem RelV.none_iff(r:RelV c d):(d==d5)=decide (c=.non):=by
 cases c with
 |non=>cases r;rfl
 |bl _=>cases r;rfl
 |int _=>obtain⟨t,rfl⟩:=r;rfl
 |str _=>obtain⟨t,rfl⟩:=r;rfl
 |byt _=>obtain⟨t,rfl⟩:=r;rfl
 |flt _=>obtain⟨t,rfl⟩:=r;rfl
 |ref _=>cases r;rfl
 |ty _=>cases r;rfl
def O1{j pos'}(ha:PE X a ta):PC X .Is a (.Constant .none j pos') (as4 ta):=by
 intro pins s σ H Q I h;refine thn (ha pins s σ H _ I h) λv s1 ⟨x,H1,Z,r1,q1⟩=>?_
 exact Constant_none (is_none_gen ⟨.bl _,H1,Z,by rw[r1.none_iff];rfl,q1⟩)
def tB(t:TE):TT:=λσ H Q=>t σ H λx H1=>∃c,x=.bl c/\Q c H1
def Yj(h:PC X op a b t)(h1:behindInMarks op b=false:=by first|exact E_ _ (by decide) (by decide)|rfl):PE X (.Compare a [op] [b] pos) t:=λpins s σ H Q I hw=>wpAny_Compare1 (h pins s σ H Q I hw) h1
def Yk(h:PC X op a b t)(h1:behindInMarks op b=false:=by first|exact E_ _ (by decide) (by decide)|rfl):PT X (.Compare a [op] [b] pos) (tB t):=by
 intro pins s σ H Q I hw;refine wpAny_isTrue_Compare1 (thn (h pins s σ H _ I hw) λv s1 h1=>thn h1 λu s2 h2=>thn h2 λc Y ⟨x,H1,Z,r1,q1⟩=>?_) h1;obtain⟨d,rfl,q⟩:=q1
 cases r1;exact aE ⟨H1,Z,q⟩
def O2(h:PE X c t)(O:∀whole,isTrue c X.env whole=(do let v <-whole;standAt c.pos;holding [v] (truthy v)):=by intro _;rfl):PT X c (tB t):=by
 intro pins s σ H Q I hw;refine isTrue_plain (thn (h pins s σ H _ I hw) λv s1 ⟨x,H1,Z,r1,q1⟩=>?_) (O _);obtain⟨d,rfl,q⟩:=q1
 cases r1;exact aE ⟨H1,Z,q⟩
variable{tA tB':TT}
def uz(t u:TT):TT:=λσ H Q=>t σ H λc H1=>if c=true then u σ H1 Q else Q false H1
def tOr(t u:TT):TT:=λσ H Q=>t σ H λc H1=>if c=true then Q true H1 else u σ H1 Q
def lU(t:TT):TT:=λσ H Q=>t σ H λc H1=>Q (!c) H1
theorem Uv(ha:PT X a tA):PW X (.BoolOp .And [a] pos) tA:=by
 intro Z pins s σ H Q I h;refine isTrue_and (thn (ha pins s σ H Q I h) λc s1 e=>?_)
 cases c with
 |true=>exact isTrue_and_nil e
 |false=>exact e
theorem O3(ha:PT X a tA):PW X (.BoolOp .Or [a] pos) tA:=by
 intro Z pins s σ H Q I h;refine isTrue_or (thn (ha pins s σ H Q I h) λc s1 e=>?_)
 cases c with
 |false=>exact isTrue_or_nil e
 |true=>exact e
theorem Yl(ha:PT X a tA)(hb:PW X (.BoolOp .And (b::rest) pos) tB'):PW X (.BoolOp .And (a::b::rest) pos) (uz tA tB'):=by
 intro Y pins s σ H Q I h;refine isTrue_and (thn (ha pins s σ H _ I h) λc s1 ⟨H1,Z,q1⟩=>?_)
 cases c with
 |true=>exact hb Y pins s1 σ H1 Q Z q1
 |false=>exact⟨H1,Z,q1⟩
theorem Xg(ha:PT X a tA)(hb:PW X (.BoolOp .Or (b::rest) pos) tB'):PW X (.BoolOp .Or (a::b::rest) pos) (tOr tA tB'):=by
 intro Y pins s σ H Q I h;refine isTrue_or (thn (ha pins s σ H _ I h) λc s1 ⟨H1,Z,q1⟩=>?_)
 cases c with
 |true=>exact⟨H1,Z,q1⟩
 |false=>exact hb Y pins s1 σ H1 Q Z q1
def O4(ha:PT X a tA):PT X (.UnaryOp .Not a pos) (lU tA):=by
 intro pins s σ H Q I h;exact isTrue_not (ha pins s σ H (λc H1=>Q (!c) H1) I h)
def ae6(ta tb:TE):TE:=λσ H Q=>ta σ H λx H1=>∃c,x=.bl c/\if c=true then tb σ H1 Q else Q (.bl false) H1
def ae7(ta:TE):TE:=λσ H Q=>ta σ H λx H1=>∃c,x=.bl c/\Q (.bl (!c)) H1
def O5{op}(h:PE X a t):PE X (.BoolOp op [a] pos) t:=λpins s σ H Q I hw=>BoolOp_one (h pins s σ H Q I hw)
theorem O6(ha:PE X a ta)(hb:PE X (.BoolOp .And (b::rest) pos) tb):PE X (.BoolOp .And (a::b::rest) pos) (ae6 ta tb):=by
 intro pins s σ H Q I h;refine BoolOp_and (thn (ha pins s σ H _ I h) λv s1 ⟨x,H1,Z,r1,q1⟩=>?_);obtain⟨c,rfl,q1⟩:=q1
 cases r1;refine aE ?_
 cases c with
 |true=>exact hb pins s1 σ H1 Q Z q1
 |false=>exact⟨.bl false,H1,Z,rfl,q1⟩
def Ym(ha:PE X a ta):PE X (.UnaryOp .Not a pos) (ae7 ta):=by
 intro pins s σ H Q I h;refine UnaryOp_ (thn (ha pins s σ H _ I h) λv s1 ⟨x,H1,Z,r1,q1⟩=>?_);obtain⟨c,rfl,q1⟩:=q1
 cases r1;exact not_of (aE ⟨.bl (!c),H1,Z,rfl,q1⟩)
end
end L2
variable{K:aaa}{X:L2.Cx}{n:Nat}{H':L2.Hp}
namespace L2
def SqL(K:aaa)(H:Hp)(a:Addr)(xs:List V):Prop:=
 Rd H a (.lst xs) \/
  ∃(o:Obj)(its:Array Value)(n:Nat),K.lookup a=some o/\o.cls=.type "list"/\o.dict=none/\o.data=.seq its n/\its.size<=sizeLine/\Vals xs its.toList
def SqT(K:aaa)(H:Hp)(a:Addr)(xs:List V):Prop:=
 Rd H a (.tup xs) \/
  ∃(o:Obj)(its:Array Value)(n:Nat),K.lookup a=some o/\o.cls=.type "tuple"/\o.data=.seq its n/\its.size<=sizeLine/\Vals xs its.toList
noncomputable def as5:Value->Option V
 |.none=>some .non
 |.bool b=>some (.bl b)
 |.int i _=>some (.int i)
 |.str x _=>some (.str x)
 |.bytes b _=>some (.byt b)
 |.float b _=>some (.flt b)
 |.ref a=>some (.ref a)
 |.type n=>some (.ty n)
 |_=>none
theorem RelV.abs(r:RelV c d):as5 d=some c:=by
 cases c with
 |non=>cases r;rfl
 |bl _=>cases r;rfl
 |int _=>obtain⟨t,rfl⟩:=r;rfl
 |str _=>obtain⟨t,rfl⟩:=r;rfl
 |byt _=>obtain⟨t,rfl⟩:=r;rfl
 |flt _=>obtain⟨t,rfl⟩:=r;rfl
 |ref _=>cases r;rfl
 |ty _=>cases r;rfl
def RelV.inj(r:RelV c f)(q:RelV d f):c=d:=cG.inj (r.abs.symm.trans q.abs)
theorem Vals.inj:∀{xs ys:List V}{us:List Value},Vals xs us->Vals ys us->xs=ys
 |_,_,_,.nil,.nil=>rfl
 |_,_,_,.cons r t,.cons Y Z=>by rw[r.inj Y,Vals.inj t Z]
section
variable{X:Cx}{σ:St}{H:Hp}{ys:List V}
def SqL.of(h:H a=some (.lst xs)):SqL K H a xs:=.inl (.inl h)
def Inv.list(I:Inv X pins σ H s)(h:SqL X.K H a xs):∃its:List Value,Vals xs its/\PlainL s.heap a its.toArray/\xs.length<=sizeLine:=by
 rcases h with h|⟨o,its,n,Z,Y,hd,hs,W,r⟩
 .obtain⟨z,its,n,r,e⟩:=h.ok I.hok;exact⟨its,r,⟨_,n,e,rfl,rfl,rfl⟩,z⟩
 .refine⟨its.toList,r,⟨o,n,I.kIn a o Z,Y,hd,by simpa using hs⟩,?_⟩;have e:=r.length;simp only[bW]at e;lia
def Inv.tuple(I:Inv X pins σ H s)(h:SqT X.K H a xs):∃its:List Value,Vals xs its/\IsTup s.heap a its.toArray/\xs.length<=sizeLine:=by
 rcases h with h|⟨o,its,n,Z,Y,hs,W,r⟩
 .obtain⟨z,its,r,p⟩:=h.ok I.hok;exact⟨its,r,p,z⟩
 .refine⟨its.toList,r,⟨o,I.kIn a o Z,Y,n,by simpa using hs⟩,?_⟩;have e:=r.length;simp only[bW]at e;lia
def Inv.list_inj(I:Inv X pins σ H s)(h:SqL X.K H a xs)(h':SqL X.K H a ys):xs=ys:=by
 obtain⟨its,r,⟨o,n,e,_,_,d⟩,_⟩:=I.list h;obtain⟨Z,V,⟨o',U,Y,_,_,W⟩,_⟩:=I.list h';rw[e]at Y;cases Y;rw[d]at W;injection W with d1 _
 have:its=Z:=by simpa using congrArg Array.toList d1
 subst this;exact r.inj V
end
abbrev Cx.wish(X:Cx)(E:Value->dv->Prop):Cx:={X with xe:=E}
abbrev Cx.nox(X:Cx):Cx:=X.wish λ_ _=>False
def Cx.Ok.wish(ok:X.Ok)(E:Value->dv->Prop):(X.wish E).Ok:=
 ⟨ok.mod,ok.kind,ok.glob,ok.blt,ok.above,ok.inj,ok.has,ok.cab,ok.hd,ok.hs,ok.frames,ok.stk,ok.exf,ok.bs,ok.bsz,ok.noex,ok.exfs,ok.funs,ok.frf⟩
def Cx.Ok.unwish(ok:(X.wish E).Ok):X.Ok:=
 ⟨ok.mod,ok.kind,ok.glob,ok.blt,ok.above,ok.inj,ok.has,ok.cab,ok.hd,ok.hs,ok.frames,ok.stk,ok.exf,ok.bs,ok.bsz,ok.noex,ok.exfs,ok.funs,ok.frf⟩
section
variable{X:Cx}{σ:St}{H:Hp}
def Inv.wish(I:Inv X pins σ H s)(E:Value->dv->Prop):Inv (X.wish E) pins σ H s:=⟨I.ok.wish E,I.os,I.bare,I.base,I.loc,I.cell,I.free,I.freeC,I.pin,I.hok,I.len⟩
def Inv.unwish(I:Inv (X.wish E) pins σ H s):Inv X pins σ H s:=⟨I.ok.unwish,I.os,I.bare,I.base,I.loc,I.cell,I.free,I.freeC,I.pin,I.hok,I.len⟩
theorem SP.unwish(h:SP (X.wish E) pins c f s'):SP X pins c f s':=by
 cases f with
 |next=>obtain⟨σ',H',I,q⟩:=h;exact⟨σ',H',I.unwish,q⟩
 |brk=>obtain⟨σ',H',I,q⟩:=h;exact⟨σ',H',I.unwish,q⟩
 |cont=>obtain⟨σ',H',I,q⟩:=h;exact⟨σ',H',I.unwish,q⟩
 |ret u=>obtain⟨v,σ',H',I,r,q⟩:=h;exact⟨v,σ',H',I.unwish,r,q⟩
def PE.nox{t:TE}(h:PE X.nox e t):PE X e t:=λpins s σ H Q I hw=>
 av (h pins s σ H Q (I.wish _) hw) (λ_ _ ⟨v,H',Z,r,q⟩=>⟨v,H',Z.unwish,r,q⟩) λ_ _ z=>eB z
def PT.nox{t:TT}(h:PT X.nox e t):PT X e t:=λpins s σ H Q I hw=>
 av (h pins s σ H Q (I.wish _) hw) (λ_ _ ⟨H',Z,q⟩=>⟨H',Z.unwish,q⟩) λ_ _ z=>eB z
def PSs.nox{st:List et}(h:PSs X.nox st t):PSs X st t:=λpins s σ H D I hw=>
 av (h pins s σ H D (I.wish _) hw) (λ_ _ q=>q.unwish) λ_ _ z=>eB z
end
section
variable{X:Cx}{st:et}{rest:List et}{t u:TS}{te:TE}
def ae8:TS:=λD σ H=>D.nx σ H
def as6(t u:TS):TS:=λD σ H=>t {D with nx:=u D} σ H
def xU:PSs X [] ae8:=λ_ _ σ H _ I h=>bj ⟨σ,H,I,h⟩
theorem vg(h1:PS X st t)(h2:PSs X rest u):PSs X (st::rest) (as6 t u):=by
 intro pins s σ H D I h;refine cc (thn (h1 pins s σ H {D with nx:=u D} I h) λf s1 q=>?_)
 cases f with
 |next=>
  obtain⟨σ',H',Z,q⟩:=q;exact h2 pins s1 σ' H' D Z q
 |ret v=>exact q
 |brk=>exact q
 |cont=>exact q
theorem xV(h1:PS X st t):PSs X [st] t:=by
 intro pins s σ H D I h;refine cc (thn (h1 pins s σ H D I h) λf s1 q=>?_)
 cases f with
 |next=>exact bj q
 |ret v=>exact q
 |brk=>exact q
 |cont=>exact q
def Inv.quiet(I:Inv X c σ H s):interactive X.env=false:=by simp[interactive,I.ok.kind]
def ae9(te:TE):TS:=λD σ H=>te σ H λ_ H1=>D.nx σ H1
def nU(O:PE X e te)(hs:swapsWith e none pos.line X.env=pure false:=by rfl):PS X (.Expr e pos) (ae9 te):=by
 intro pins s σ H D I h;exact wpAny_Expr_any (thn (O pins s σ H _ I h) λv s1 ⟨x,H1,Z,r1,q1⟩=>⟨σ,H1,Z,q1⟩) I.quiet hs
def as7(te:TE):TS:=λD σ H=>te σ H D.rt
def yD(O:PE X e te):PS X (.Return (some e) pos) (as7 te):=by
 intro pins s σ H D I h;exact wpAny_Return_some (thn (O pins s σ H _ I h) λv s1 ⟨x,H1,Z,r1,q1⟩=>⟨x,σ,H1,Z,r1,q1⟩)
def as8(c:TT)(t u:TS):TS:=λD σ H=>c σ H λb H1=>if b=true then t D σ H1 else u D σ H1
theorem Fb(O:PT X c tc)(ha:PSs X f t)(hb:PSs X k u):PS X (.If c f k pos) (as8 tc t u):=by
 intro pins s σ H D I h;refine wpAny_If (thn (O pins s σ H _ I h) λd s1 ⟨H1,Z,q1⟩=>?_)
 cases d with
 |true=>exact ha pins s1 σ H1 D Z q1
 |false=>exact hb pins s1 σ H1 D Z q1
def Yn:TS:=λ_ _ _=>False
def O7:PS X st Yn:=λ_ _ _ _ _ _ h=>h.elim
end
abbrev TG:=V->St->Hp->(St->Hp->Prop)->Prop
abbrev TGs:=List V->St->Hp->(St->Hp->Prop)->Prop
def PG(X:Cx)(target:Expr)(t:TG):Prop:=
 ∀(pins:List (Addr×Obj))(s:dv)(σ:St)(H:Hp)(v:V)(u:Value)(Q:St->Hp->Prop),Inv X pins σ H s->RelV v u->t v σ H Q ->
  wpAny (model X.prog X.w) X.A (assign target X.env u) (λ_ s'=>∃σ' H',Inv X pins σ' H' s'/\Q σ' H') X.xe s
def PGs(X:Cx)(ts:List Expr)(t:TGs):Prop:=
 ∀(pins:List (Addr×Obj))(s:dv)(σ:St)(H:Hp)(vs:List V)(us:List Value)(Q:St->Hp->Prop),Inv X pins σ H s->Vals vs us->t vs σ H Q ->
  wpAny (model X.prog X.w) X.A (assignInOrder ((assignEach ts X.env).map (·.2)) us) (λ_ s'=>∃σ' H',Inv X pins σ' H' s'/\Q σ' H') X.xe s
section
variable{X:Cx}
def O8(i:Nat):TG:=λv σ H Q=>Q (σ.set i (some v)) H
def Uw(U:X.N.Nodup)(hi:X.N[i]?=some x)(hx:Loc X.env.scope x)(O:X.fn x=true\/X.env.scope.names.lookup x=some .local:=by first|exact .inl rfl|exact .inr rfl|assumption):PG X (.Name x pos) (O8 i):=by
 intro pins s σ H v u Q I r h;exact wpAny_assign_Name (vf I U hi hx r (λs' Z=>⟨_,H,Z,h⟩) O)
def as9:TGs:=λvs σ H Q=>vs=[]/\Q σ H
def af0(t:TG)(u:TGs):TGs:=λvs σ H Q=>∃v r,vs=v::r/\t v σ H λσ' H'=>u r σ' H' Q
def Ux:PGs X [] as9:=by
 intro pins s σ H vs us Q I r h;obtain⟨e,h⟩:=h;subst e
 cases r;exact assignInOrder_nil ⟨σ,H,I,h⟩
theorem O9(h1:PG X c t)(h2:PGs X d f)
 (hs:(assignEach (c::d) X.env).map (·.2)=assign c X.env::(assignEach d X.env).map (·.2):=by rfl):PGs X (c::d) (af0 t f):=by
 intro pins s σ H vs us Q I r h;obtain⟨v,U,W,h⟩:=h;subst W
 cases r with
 |cons r Y=>
  rw[hs];refine assignInOrder_cons (thn (h1 pins s σ H _ _ _ I r h) λ_ s1 ⟨Z,H1,V,q1⟩=>?_);exact h2 pins s1 Z H1 _ _ Q V Y q1
def at4(K:aaa)(n:Nat)(t:TGs):TG:=λv σ H Q=>∃a xs,v=.ref a/\SqT K H a xs/\xs.length=n/\t xs σ H Q
def Yo(U:X.calm=true)(h:PGs X c t)
 (hn:(assignEach c X.env).length=n:=by rfl) (O:(assignEach c X.env).findIdx? (·.1)=none:=by rfl):PG X (.Tuple c k pos) (at4 X.K n t):=by
 intro pins s σ H v u Q I r hw;obtain⟨a,xs,V,hq,W,hw⟩:=hw;subst V
 cases r;obtain⟨its,Z,Y,S⟩:=I.tuple hq;refine Ur (I.hq U) Y (by simp[hn,<-W,Z.length]) O λh' hx=>?_
 have T:=I.kept (t':=s.toks) λb o e=>hx b o (bh (af e)) e
 exact h pins _ σ H xs _ Q T (by simpa using Z) hw
def Yp(te:TE)(g:TG):TS:=λD σ H=>te σ H λx H1=>g x σ H1 D.nx
def Yq(U:PE X c te)(O:PG X tg d)(hs:swapsWithSole [tg] c pos.line X.env=pure false:=by rfl)(hw:swappedStores [tg] c X.env=pure none:=by rfl)
 (h1:(assignEach [tg] X.env).map (·.2)=[assign tg X.env]:=by rfl):PS X (.Assign [tg] c pos) (Yp te d):=by
 intro pins s σ H D I h;refine wpAny_Assign_stores (thn (U pins s σ H _ I h) λv s1 ⟨x,H1,Z,r1,q1⟩=>?_) hs hw;rw[h1];exact thn (O pins s1 σ H1 x v _ Z r1 q1) λ_ s2 q=>q
def Ig(Y:X.N.Nodup)(hi:X.N[i]?=some x)(hx:Loc X.env.scope x)(U:PE X c te)(hs:swapsWith c (some (.Name x d)) pos.line X.env=pure false:=by rfl)(O:X.fn x=true\/X.env.scope.names.lookup x=some .local:=by first|exact .inl rfl|exact .inr rfl|assumption):
 PS X (.Assign [.Name x d] c pos) (Yp te (O8 i)):=by
 intro pins s σ H D I h;refine wpAny_Assign_Name (thn (U pins s σ H _ I h) λv s1 ⟨y,H1,W,r1,q1⟩=>?_) hs;exact vf W Y hi hx r1 (λs2 Z=>⟨_,H1,Z,q1⟩) O
end
section
variable{X:Cx}
def Yr(c:TT)(tb:TS):TS:=λD σ H=>∃W:Nat->St->Hp->Prop,(∃m,W m σ H)/\∀m σ H,W m σ H ->
 c σ H λb H1=>if b=true then ∃N:St->Hp->Prop,(∀σ' H',N σ' H'->∃Z,Z<m/\W Z σ' H')/\tb {D with nx:=N,ct:=N,bk:=D.nx} σ H1 else D.nx σ H1
theorem O_(O:fE (model X.prog X.w) X.A X.env X.xe)(hc:PT X c tc)(hb:PSs X d tb):PS X (.While c d [] pos) (Yr tc tb):=by
 intro pins s σ H D I h;obtain⟨W,⟨L,M⟩,turn⟩:=h;refine wpAny_While (codeAny_whileLoop (λn s'=>∃σ' H',Inv X pins σ' H' s'/\W n σ' H') ?_ L ⟨σ,H,I,M⟩);rintro n s1 ⟨Y,H1,K,P⟩;refine bi O (thn (hc pins s1 Y H1 _ K (turn n Y H1 P)) λb s2 ⟨H2,Q,q2⟩=>?_)
 cases b with
 |true=>
  obtain⟨N,R,q2⟩:=q2;rw[if_pos rfl];refine bi O (thn (hb pins s2 Y H2 _ Q q2) λf J q3=>?_)
  cases f with
  |next=>
   obtain⟨Z,V,S,n3⟩:=q3;obtain⟨T,hm,U⟩:=R Z V n3;exact⟨T,hm,Z,V,S,U⟩
  |cont=>
   obtain⟨Z,V,S,n3⟩:=q3;obtain⟨T,hm,U⟩:=R Z V n3;exact⟨T,hm,Z,V,S,U⟩
  |brk=>exact q3
  |ret v=>exact q3
 |false=>
  rw[if_neg eY];exact bj ⟨Y,H2,Q,q2⟩
end
structure It where
 go:Nat->Hp->Prop
 yld:Nat->Hp->V->Hp->Prop
 stop:Nat->Hp->Prop
def v9(X:Cx)(pins:List (Addr×Obj))(H:Hp)(b:Addr):Prop:=
 H b=none/\b≠X.env.locals/\b∉X.fs/\(b∈X.ex\/X.s₀.heap.objs.size<=b)/\(∀x c,X.env.cells.lookup x=some c->c≠b)/\∀p∈X.pn++pins,p.1≠b
def Inv.fpOk(I:Inv X d σ H s)(hb:s.heap.objs.size<=b)(hn:H' b=none):v9 X d H' b:=by
 refine⟨hn,pW (bG I.lt hb),I.nofs hb,.inr (bw I.sz hb),λx c e z=>?_,λp Z z=>?_⟩
 .obtain⟨v,q⟩:=I.cell x c e;exact absurd (bG q.lt (by rwa[z])) (dB _)
 .exact absurd (bG (af (I.pin p Z).1) (by rwa[z])) (dB _)
structure Turn(P:dA)(w:d4)(K:aaa)(tg:Expr)(J:It)(fp:List Addr)(it:Addr)(tn:Nat->eg->Prop)(q:Bool):Prop where
 mem:it∈fp
 obj:∀i h,tn i h->∀b∈fp,∃o,h.get? b=some o/\∀v,o.data ≠ .cell v
 keep:∀i h h',tn i h->(∀b∈fp,∀o,h.get? b=some o->h'.get? b=some o)->tn i h'
 item:∀(X:Cx),X.prog=P->X.w=w->X.K=K->X.calm=true->(q=true->X.still=true)->∀(i:Nat)(pins:List (Addr×Obj))(s:dv)(σ:St)(H:Hp)(E:Value->dv->Prop),Inv X pins σ H s->(∀b∈fp,v9 X pins H b)->tn i s.heap->J.go i H ->
  wpAny (model P w) X.A (pyNext (.ref it)) (λr s1=>∃u,r=some u /\
   wpAny (model P w) X.A (letOwnedTupleGo tg (.ref it) u) (λ_ s2=>∃x H',Inv X pins σ H' s2/\RelV x u/\J.yld i H x H'/\tn (i+1) s2.heap/\∀b∈fp,H' b=none) E s1) E s
 done:∀(X:Cx),X.prog=P->X.w=w->X.K=K->X.calm=true->(q=true->X.still=true)->∀(i:Nat)(pins:List (Addr×Obj))(s:dv)(σ:St)(H:Hp)(E:Value->dv->Prop),Inv X pins σ H s->(∀b∈fp,v9 X pins H b)->tn i s.heap->J.stop i H ->
  wpAny (model P w) X.A (pyNext (.ref it)) (λr s1=>r=none/\Inv X pins σ H s1) E s
 self:∀(A:dQ)(i:Nat)(s:dv)(Q:Value->dv->Prop)(E:Value->dv->Prop),tn i s.heap->Q (.ref it) s->wpAny (model P w) A (pyIter (.ref it)) Q E s
abbrev TI:=St->Hp->(It->Hp->Prop)->Prop
def PIE(X:Cx)(pins:List (Addr×Obj))(σ:St)(tg:Expr)(R:It->Hp->Prop)(O:Value)(s2:dv):Prop:=
 ∃(it:Addr)(fp:List Addr)(tn:Nat->eg->Prop)(J:It)(H':Hp),O=.ref it/\Inv X pins σ H' s2/\Turn X.prog X.w X.K tg J fp it tn X.still/\tn 0 s2.heap/\(∀b∈fp,v9 X pins H' b)/\R J H'
def PI(X:Cx)(tg iter:Expr)(wi:TI):Prop:=
 ∀(pins:List (Addr×Obj))(s:dv)(σ:St)(H:Hp)(R:It->Hp->Prop),Inv X pins σ H s->wi σ H R ->
  wpAny (model X.prog X.w) X.A (eval iter X.env) (λv s1=>wpAny (model X.prog X.w) X.A (pyIter v) (PIE X pins σ tg R) X.xe s1) X.xe s
def Fd{n:String}(U:s.heap.get? it=some o)(Y:o.cls=.type n)(hd:o.data=.fields vs)
 (hn:["enumerate","zip","dict_itemiterator","dict_reverseitemiterator","odict_iterator","itertools.zip_longest","itertools.pairwise"].contains n=false) (O:f () s):wpAny M A (letOwnedTupleGo tg (.ref it) d) f c s:=by
 cases tg<;>first
  |exact ag O
  | (cases d<;>first
   |exact ag O
   | (refine aa (wpAny_load U ?_)
      rw[Y,hd];show wpAny M A (if(["enumerate","zip","dict_itemiterator","dict_reverseitemiterator","odict_iterator","itertools.zip_longest","itertools.pairwise"].contains n&&vs[0]? == some (rawInt _))=true then _ else _) f c s;rw[if_neg (by intro h;rw[hn,Bool.false_and]at h;cases h)];exact ag O))
noncomputable def Itl(K:aaa)(a:Addr):It:=
 ⟨λi H=>∃xs x,SqL K H a xs/\xs[i]?=some x,λi H x H'=>H'=H/\∀xs,SqL K H a xs->xs[i]?=some x,λi H=>∃xs,SqL K H a xs/\xs.length<=i⟩
noncomputable def Itr(lo:Int)(n:Nat):It:=⟨λi _=>i<n,λi H x H'=>H'=H/\x=.int (lo+i),λi _=>n<=i⟩
theorem MN{q:Bool}(a it:Addr):Turn P w K tg (Itl K a) [it] it (λi h=>h.IsListIter it a i) q where
 mem:=by simp
 obj:=λi h st b hb=>by
  have e:b=it:=by simpa using hb
  subst e;obtain⟨o,e,c,d⟩:=st;exact⟨o,e,λv z=>by rw[d]at z;cases z⟩
 keep:=λi h h' st k=>st.at λo e=>k it (by simp) o e
 item:=by
  intro X U hw T N _ i pins s σ H E I Y st V;subst U hw T;obtain⟨xs,x,hq,hx⟩:=V;obtain⟨its,W,p,J⟩:=I.list hq;obtain⟨u,F,L⟩:=W.get hx;obtain⟨O,f1,f2,Q,R,S⟩:=Y it (by simp);refine cf st p.isList (x:=u) (by simpa using F) λh' Z M=>?_
  have C:=I.turned (t':=s.toks) (λb o hb e=>(M.2 b hb).trans e) O f1 Q R S;obtain⟨o,e,c,d⟩:=id Z;exact⟨u,rfl,Fd (s:={s with heap:=h'}) e c d (by decide) ⟨x,H,C,L,⟨rfl,λys G=>by rwa[I.list_inj G hq]⟩,Z,λb hb=>(Y b hb).1⟩⟩
 done:=by
  intro X U hw T N _ i pins s σ H E I Y st V;subst U hw T;obtain⟨xs,hq,hx⟩:=V;obtain⟨its,W,p,J⟩:=I.list hq;obtain⟨O,f1,f2,Q,R,S⟩:=Y it (by simp);have B:=W.length;exact v8 (I.hq N) st p.isList (by simp;lia) λh' D=>⟨rfl,I.turned (t':=s.toks) (λb o hb e=>D b o hb e) O f1 Q R S⟩
 self:=λ_ _ _ _ _ st h=>wpAny_pyIter_listiter st h
theorem Ih{q:Bool}(it:Addr)(lo:Int)(n:Nat):Turn P w K tg (Itr lo n) [it] it (λi h=>IsRangeIter h it (lo+(i:Nat)*1) ((n:Int)-(i:Nat)) 1) q where
 mem:=by simp
 obj:=λi h st b hb=>by
  have e:b=it:=by simpa using hb
  subst e;exact⟨_,st,λv z=>by
   have N:Data.fields _=Data.cell v:=z
   cases N⟩
 keep:=λi h h' st k=>k it (by simp) _ st
 item:=by
  intro X V hw U O _ i pins s σ H E I Y st W;subst V hw U;obtain⟨Q,f1,f2,R,S,T⟩:=Y it (by simp);refine wpAny_pyNext_range_item st (by have:i<n:=W;lia) λh' Z M=>?_
  have J:Inv X pins σ H {s with heap:=h',toks:=s.toks+1}:=I.turned (λb o hb e=>M.extBut b o hb e) Q f1 R S T;rw[show lo+(i:Int)*1+1=lo+((i+1:Nat):Int)*1 by lia,show(n:Int)-(i:Int)-1=(n:Int)-((i+1:Nat):Int)by lia]at Z;refine⟨_,rfl,Fd (s:={s with heap:=h',toks:=s.toks+1}) (n := "range_iterator") Z rfl rfl (by decide) ⟨.int (lo+i),H,J,⟨s.toks,?_⟩,⟨rfl,rfl⟩,Z,λb hb=>(Y b hb).1⟩⟩;rw[Int.mul_one]
 done:=by
  intro X V hw U O _ i pins s σ H E I Y st W;subst V hw U;obtain⟨Q,f1,f2,R,S,T⟩:=Y it (by simp);exact Ie (I.hq O) st (by have:n<=i:=W;lia) λh' L=>⟨rfl,I.turned (t':=s.toks) (λb o hb e=>L b o hb e) Q f1 R S T⟩
 self:=λ_ _ _ _ _ st h=>wpAny_pyIter_rangeiter st h
section
variable{X:Cx}
def af2(K:aaa)(tl:TE):TI:=λσ H R=>tl σ H λx H1=>∃a,x=.ref a/\(∃xs,SqL K H1 a xs)/\R (Itl K a) H1
def J5(O:PE X c tl):PI X tg c (af2 X.K tl):=by
 intro pins s σ H R I h;refine thn (O pins s σ H _ I h) λv s1 ⟨x,H1,Z,r1,q1⟩=>?_
 obtain⟨a,e,⟨xs,hq⟩,q⟩:=q1;subst e
 cases r1;obtain⟨its,Y,p,W⟩:=Z.list hq;refine cS p.isList ?_;refine⟨s1.heap.objs.size,[s1.heap.objs.size],_,_,H1,rfl,Z.kept (t':=s1.toks) λb o e=>ae _ e,MN a _,⟨_,ah _ rfl,rfl,rfl⟩,λb hb=>?_,q⟩;have e:b=s1.heap.objs.size:=by simpa using hb
 subst e;exact Z.fpOk (aN _) (Z.hok.fresh (aN _))
def Fe{E:Value->dv->Prop}{lo hi:Int}{t u v:Tok}{tk:Nat}(I:Inv X c σ H s)(h1 : -(2^62)<=lo)(h2:lo<2^62)(h3 : -(2^62)<=hi)(h4:hi<2^62)
 (q:R (Itr lo (hi-lo).toNat) H):wpAny (model X.prog X.w) X.A (pyIter (.ref s.heap.objs.size)) (PIE X c σ tg R) E {s with heap:=s.heap.push {cls:=.type "range", data:=.fields #[.int lo t,.int hi u,.int 1 v]},toks:=tk}:=by
 refine wpAny_pyIter_range (IsRange.new ..) (small_one h1 h2 h3 h4) ?_;have Z:Inv X c σ H {s with heap:=s.heap.push {cls:=.type "range", data:=.fields #[.int lo t,.int hi u,.int 1 v]},toks:=tk}:=I.kept λb o e=>ae _ e
 refine⟨(s.heap.push {cls:=.type "range", data:=.fields #[.int lo t,.int hi u,.int 1 v]}).objs.size,[(s.heap.push {cls:=.type "range", data:=.fields #[.int lo t,.int hi u,.int 1 v]}).objs.size],_,_,H,rfl,
  Z.kept (t':=tk) λb o e=>ae _ e,Ih _ lo (hi-lo).toNat,?_,λb hb=>?_,q⟩
 .have W:lo+((0:Nat):Int)*1=lo:=by simp
  have Y:(((hi-lo).toNat:Nat):Int)-((0:Nat):Int)=Builtin.Range.rangeSize lo hi 1:=by rw[rangeSize_one];split<;>lia
  rw[W,Y];exact ah _ rfl
 .have e:b=(s.heap.push {cls:=.type "range", data:=.fields #[.int lo t,.int hi u,.int 1 v]}).objs.size:=by simpa using hb
  subst e;exact Z.fpOk (aN _) (Z.hok.fresh (aN _))
def af3(ta:TA):TI:=λσ H R=>ta σ H λvs H1=>∃j:Int,vs=[.int j]/\-(2^62)<=j/\j<2^62/\R (Itr 0 j.toNat) H1
def af4(ta:TA):TI:=λσ H R=>ta σ H λvs H1=>∃i j:Int,vs=[.int i,.int j]/\(-(2^62)<=i/\i<2^62/\-(2^62)<=j/\j<2^62)/\R (Itr i (j-i).toNat) H1
theorem MP(O:Gl X "range")(hm:X.mg "range"=none)(ha:PA X [c] ta)(hs:starEach [c] X.env=[(false,eval c X.env)]:=by rfl):PI X tg (.Call (.Name "range" p) [c] [] d) (af3 ta):=by
 intro pins s σ H R I h;refine Call_ (oG I O hm boot_range (er (thn (ha d pins s σ H _ I h) λus s1 ⟨vs,H1,Y,r1,q1⟩=>?_) hs rfl));obtain⟨j,e,q1,q2,q⟩:=q1;subst e
 cases r1 with
 |cons r Z=>
  cases Z;obtain⟨t,rfl⟩:=r;exact call_range_1 (Fe Y (by lia) (by lia) q1 q2 (by simpa using q))
theorem M4(U:Gl X "range")(hm:X.mg "range"=none)(ha:PA X [c,d] ta)(hs:starEach [c,d] X.env=[(false,eval c X.env),(false,eval d X.env)]:=by rfl)(O:starEach [d] X.env=[(false,eval d X.env)]:=by rfl):
 PI X tg (.Call (.Name "range" p) [c,d] [] f) (af4 ta):=by
 intro pins s σ H R I h;refine Call_ (oG I U hm boot_range (er (thn (ha f pins s σ H _ I h) λus s1 ⟨vs,H1,W,r1,q1⟩=>?_) (by rw[hs,O]) (by rw[O];rfl)));obtain⟨i,j,e,⟨q1,q2,q3,q4⟩,q⟩:=q1;subst e
 cases r1 with
 |cons r Z=>
  cases Z with
  |cons Y Z=>
   cases Z;obtain⟨t,rfl⟩:=r;obtain⟨V,rfl⟩:=Y;exact call_range_2 (Fe W q1 q2 q3 q4 q)
def af5(wi:TI)(g:TG)(tb:TS):TS:=λD σ H=>wi σ H λJ H1=>∃W:Nat->Nat->St->Hp->Prop,(∃m,W 0 m σ H1)/\∀i m σ H,W i m σ H ->
 (J.stop i H/\D.nx σ H)\/(J.go i H/\∃N:St->Hp->Prop,(∀σ' H',N σ' H'->∃Y,Y<m/\W (i+1) Y σ' H')/\∀x H',J.yld i H x H'->g x σ H' λZ H2=>tb {D with nx:=N,ct:=N,bk:=D.nx} Z H2)
def yE(fp:List Addr)(h:eg):List (Addr×Obj):=fp.filterMap λb=>(h.get? b).map λo=>(b,o)
def p7(hb:b∈fp)(e:h.get? b=some o):(b,o)∈yE fp h:=uq.mpr ⟨b,hb,by rw[e];rfl⟩
theorem M5(O:c∈yE fp h):c.1∈fp/\h.get? c.1=some c.2:=by
 obtain⟨b,hb,e⟩:=uq.mp O
 cases q:h.get? b with
 |none=>rw[q]at e;cases e
 |some o=>
  rw[q]at e;have Z:(b,o)=c:=cG.inj e;subst Z;exact⟨hb,q⟩
def Inv.pinned(I:Inv X c σ H s)(U:∀b∈fp,v9 X c H b)(O:∀b∈fp,∃o,s.heap.get? b=some o/\∀v,o.data ≠ .cell v):Inv X (c++yE fp s.heap) σ H s:=
 I.pins_of λp Y=>(bO.mp Y).elim (λz=>I.pin p (aP _ z)) λz=>by
  obtain⟨hb,e⟩:=M5 z;obtain⟨W,f1,f2,_⟩:=U p.1 hb;obtain⟨o,Z,d⟩:=O p.1 hb;rw[e]at Z;cases Z;exact⟨e,W,f1,f2,d⟩
def Inv.unpinned(I:Inv X (c++d) σ H s):Inv X c σ H s:=I.pins_of λp Z=>I.pin p (aP _ (bI _ Z))
def B_{pos:Pos}(O:fE (model X.prog X.w) X.A X.env X.xe)(hc:X.calm=true)(hi:PI X tg q0 wi)(hg:PG X tg q2)(hb:PSs X q1 tb)
 (hs:∀x,foldedSetIterable q0 X.env x=pure x:=by intro _;rfl):PS X (.For tg q0 q1 [] pos) (af5 wi q2 tb):=by
 intro pins s σ H D I h;refine wpAny_For (thn (hi pins s σ H _ I h) λv s1 h1=>thn h1 λitv s2 h2=>?_) hs;obtain⟨it,fp,tn,J,H2,e,I2,T,G,f2,W,⟨m0,c⟩,turn⟩:=h2;subst e;have V:∀{H':Hp},(∀b∈fp,H' b=none)->∀b∈fp,v9 X pins H' b:=λhn b hb=>⟨hn b hb,(f2 b hb).2⟩
 refine codeAny_forLoop_any (λn s'=>∃i σ' H',Inv X pins σ' H' s'/\tn i s'.heap/\(∀b∈fp,H' b=none)/\W i n σ' H') ?_ m0 ⟨0,σ,H2,I2,G,λb hb=>(f2 b hb).1,c⟩;rintro n t ⟨i,Y,L,q,Q,M,j⟩;rcases turn i n Y L j with⟨stop,qn⟩|⟨go,N,hN,step⟩
 .refine bi O (thn (T.done X rfl rfl rfl hc (λz=>z) i pins t Y L X.xe q (V M) Q stop) λr s4 ⟨E,I4⟩=>?_);subst E;exact bj ⟨Y,L,I4,qn⟩
 .refine bi O (thn (T.item X rfl rfl rfl hc (λz=>z) i pins t Y L X.xe q (V M) Q go) λr s4 ⟨u,E,h4⟩=>?_);subst E;refine bi O (thn h4 λ_ y ⟨x,p,I5,r5,l,R,C⟩=>?_);have B:=I5.pinned (V C) (T.obj _ _ R);refine bi O (thn (hg _ y Y p x u _ B r5 (step x p l)) λ_ a ⟨K,H6,I6,q6⟩=>?_);refine bi O (thn (hb _ a K H6 _ I6 q6) λf F q7=>?_);have again:∀{Z:St}{S:Hp},Inv X (pins++yE fp y.heap) Z S F->N Z S->∃m,m<n/\∃i σ' H',Inv X pins σ' H' F/\tn i F.heap/\(∀b∈fp,H' b=none)/\W i m σ' H':=λ{Z S} U P=>by
   obtain⟨m',hm,k⟩:=hN Z S P;refine⟨m',hm,i+1,Z,S,U.unpinned,T.keep _ _ _ R λb hb o e=>(U.pin (b,o) (aP _ (aP _ (p7 hb e)))).1,λb hb=>?_,k⟩;obtain⟨o,e,d⟩:=T.obj _ _ R b hb;exact(U.pin (b,o) (aP _ (aP _ (p7 hb e)))).2.1
  cases f with
  |next=>obtain⟨Z,S,U,P⟩:=q7;exact again U P
  |cont=>obtain⟨Z,S,U,P⟩:=q7;exact again U P
  |brk=>obtain⟨Z,S,U,q7⟩:=q7;exact⟨Z,S,U.unpinned,q7⟩
  |ret v=>obtain⟨x7,Z,S,U,r7,q7⟩:=q7;exact⟨x7,Z,S,U.unpinned,r7,q7⟩
end
abbrev R2:=V->V->Hp->VK->Prop
def OpR(X:Cx)(f:Value->Value->Sem Value)(r:R2):Prop:=
 ∀(pins:List (Addr×Obj))(s:dv)(σ:St)(H:Hp)(x y:V)(v u:Value)(Q:VK),Inv X pins σ H s->RelV x v->RelV y u->r x y H Q ->
  wpAny (model X.prog X.w) X.A (f v u) (EP X pins σ Q) X.xe s
def UnR(X:Cx)(f:Value->Sem Value)(r:V->Hp->VK->Prop):Prop:=
 ∀(pins:List (Addr×Obj))(s:dv)(σ:St)(H:Hp)(x:V)(v:Value)(Q:VK),Inv X pins σ H s->RelV x v->r x H Q ->
  wpAny (model X.prog X.w) X.A (f v) (EP X pins σ Q) X.xe s
def mK(X:Cx)(f:Value)(r:List V->Hp->VK->Prop):Prop:=
 ∀(pins:List (Addr×Obj))(s:dv)(σ:St)(H:Hp)(xs:List V)(us:List Value)(Q:VK),Inv X pins σ H s->Vals xs us->r xs H Q ->
  wpAny (model X.prog X.w) X.A (call f us) (EP X pins σ Q) X.xe s
def tOp(r:R2)(ta tb:TE):TE:=λσ H Q=>ta σ H λx H1=>tb σ H1 λy H2=>r x y H2 Q
def tUn(r:V->Hp->VK->Prop)(ta:TE):TE:=λσ H Q=>ta σ H λx H1=>r x H1 Q
def rI(C:Int->Int->Prop)(g:Int->Int->V):R2:=λx y H Q=>∃i j,x=.int i/\y=.int j/\C i j/\Q (g i j) H
def rI0(g:Int->Int->V):R2:=λx y H Q=>∃i j,x=.int i/\y=.int j/\Q (g i j) H
def rU(g:Int->V):V->Hp->VK->Prop:=λx H Q=>∃i,x=.int i/\Q (g i) H
section
variable{X:Cx}{a b c:Expr}{ta tb tc:TE}
def Ys(ha:PE X a ta)(hb:PE X b tb){R:V->V->Hp->Prop}(I:Inv X d σ m k)
 (h:ta σ m λx H1=>tb σ H1 λy H2=>R x y H2) {Q:Value->dv->Prop} {f:Value->Value->Sem Value}
 (Y:∀v u s2 x y H2,Inv X d σ H2 s2->RelV x v->RelV y u->R x y H2->wpAny (model X.prog X.w) X.A (f v u) Q X.xe s2):
 wpAny (model X.prog X.w) X.A (eval a X.env) (λv U=>wpAny (model X.prog X.w) X.A (eval b X.env) (λu O=>wpAny (model X.prog X.w) X.A (f v u) Q X.xe O) X.xe U) X.xe k:=by
 refine thn (ha d k σ m _ I h) λv s1 ⟨x,H1,W,r1,q1⟩=>?_
 refine thn (hb d s1 σ H1 _ W q1) λu s2 ⟨y,H2,Z,r2,q2⟩=>?_
 exact Y v u s2 x y H2 Z r1 r2 q2
def Xh(O:OpR X (binaryOp op) r)(ha:PE X a ta)(hb:PE X b tb):PE X (.BinOp a op b pos) (tOp r ta tb):=by
 intro pins s σ H Q I h;exact wpAny_BinOp (Ys ha hb I h λv u s2 x y H2 W Y Z q=>O pins s2 σ H2 x y v u Q W Y Z q)
def af6(O:UnR X (unaryOp op) r)(ha:PE X a ta):PE X (.UnaryOp op a pos) (tUn r ta):=by
 intro pins s σ H Q I h;exact UnaryOp_ (thn (ha pins s σ H _ I h) λv s1 ⟨x,H1,Z,r1,q1⟩=>O pins s1 σ H1 x v Q Z r1 q1)
def opI{g:Int->Int->Int}
 (rule:∀(i j:Int)(t u:Tok)(s:dv)(Q:Value->dv->Prop)(E:Value->dv->Prop),d i j->Q (.int (g i j) s.toks) {s with toks:=s.toks+1}->wpAny (model X.prog X.w) X.A (f (.int i t) (.int j u)) Q E s):
 OpR X f (rI d λi j=>.int (g i j)):=by
 intro pins s σ H x y v u Q I W Y h;obtain⟨i,j,rfl,rfl,V,q⟩:=h;obtain⟨t,rfl⟩:=W;obtain⟨Z,rfl⟩:=Y;exact rule i j t Z s _ _ V ⟨.int (g i j),H,I.tok _,⟨_,rfl⟩,q⟩
def at5{g:Int->Int->Int}
 (rule:∀(i j:Int)(t u:Tok)(s:dv)(Q:Value->dv->Prop)(E:Value->dv->Prop),Q (.int (g i j) s.toks) {s with toks:=s.toks+1}->wpAny (model X.prog X.w) X.A (f (.int i t) (.int j u)) Q E s):
 OpR X f (rI0 λi j=>.int (g i j)):=by
 intro pins s σ H x y v u Q I W Y h;obtain⟨i,j,rfl,rfl,q⟩:=h;obtain⟨t,rfl⟩:=W;obtain⟨Z,rfl⟩:=Y;exact rule i j t Z s _ _ ⟨.int (g i j),H,I.tok _,⟨_,rfl⟩,q⟩
def Uy{g:Int->Int->Bool}
 (rule:∀(i j:Int)(t u:Tok)(s:dv)(Q:Value->dv->Prop)(E:Value->dv->Prop),Q (.bool (g i j)) s->wpAny (model X.prog X.w) X.A (f (.int i t) (.int j u)) Q E s):
 OpR X f (rI0 λi j=>.bl (g i j)):=by
 intro pins s σ H x y v u Q I W Y h;obtain⟨i,j,rfl,rfl,q⟩:=h;obtain⟨t,rfl⟩:=W;obtain⟨Z,rfl⟩:=Y;exact rule i j t Z s _ _ ⟨.bl (g i j),H,I,rfl,q⟩
def Yt(i j:Int):Prop:=0<=j/\j<=1000000/\i.natAbs<2^64
def jN:OpR X (binaryOp .Add) (rI0 λi j=>.int (i+j)):=at5 λ_ _ _ _ _ _ _ q=>add_int q
def lH:OpR X (binaryOp .Mod) (rI (λ_ j=>j≠0) λi j=>.int (i.fmod j)):=opI λ_ _ _ _ _ _ _ Z q=>mod_int' Z q
def Yu:OpR X (binaryOp .Pow) (rI Yt λi j=>.int (i^j.toNat)):=opI λ_ _ _ _ _ _ _ Z q=>pow_int_small Z.1 Z.2.1 Z.2.2 q
def unI{g:Int->Int}
 (rule:∀(i:Int)(t:Tok)(s:dv)(Q:Value->dv->Prop)(E:Value->dv->Prop),Q (.int (g i) s.toks) {s with toks:=s.toks+1}->wpAny (model X.prog X.w) X.A (f (.int i t)) Q E s):
 UnR X f (rU λi=>.int (g i)):=by
 intro pins s σ H x v Q I Z h;obtain⟨i,rfl,q⟩:=h;obtain⟨t,rfl⟩:=Z;exact rule i t s _ _ ⟨.int (g i),H,I.tok _,⟨_,rfl⟩,q⟩
def Yv:UnR X (unaryOp .USub) (rU λi=>.int (-i)):=unI λ_ _ _ _ _ q=>neg_int q
end
section
variable{X:Cx}{a b c:Expr}{ta tb tc:TE}
def Yw(I:Inv X d σ H s)(q:f (.bl k) H)(e:k=O):EP X d σ f (.bool O) s:=by
 subst e;exact⟨.bl k,H,I,rfl,q⟩
def Ay:OpR X (compareOp .Lt) (rI0 λi j=>.bl (decide (i<j))):=Uy λ_ _ _ _ _ _ _ q=>lt_int q
def Az:OpR X (compareOp .LtE) (rI0 λi j=>.bl (decide (i<=j))):=Uy λ_ _ _ _ _ _ _ q=>le_int q
def af7:OpR X (compareOp .Gt) (rI0 λi j=>.bl (decide (j<i))):=Uy λ_ _ _ _ _ _ _ q=>gt_int q
def rN:OpR X (compareOp .GtE) (rI0 λi j=>.bl (decide (j<=i))):=Uy λ_ _ _ _ _ _ _ q=>ge_int q
def cW(b:Expr)(h:op ≠ .In:=by decide)(h2:op ≠ .NotIn:=by decide):behindInMarks op b=false:=by
 have Y:(op==CmpOp.In)=false:=by cases op<;>first|rfl|exact absurd rfl h
 have Z:(op==CmpOp.NotIn)=false:=by cases op<;>first|rfl|exact absurd rfl h2
 cases b<;>simp[behindInMarks,Y,Z]
def J6(O:OpR X (compareOp op) r)(ha:PE X a ta)(hb:PE X b tb)(hm:behindInMarks op b=false):PE X (.Compare a [op] [b] pos) (tOp r ta tb):=by
 intro pins s σ H Q I h;exact wpAny_Compare1 (Ys ha hb I h λv u s2 x y H2 W Y Z q=>O pins s2 σ H2 x y v u Q W Y Z q) hm
def Xi(t:TE):TT:=λσ H Q=>t σ H λx H'=>∃k,x=.bl k/\Q k H'
def J7(O:OpR X (compareOp op) r)(ha:PE X a ta)(hb:PE X b tb)(hm:behindInMarks op b=false):PT X (.Compare a [op] [b] pos) (Xi (tOp r ta tb)):=by
 intro pins s σ H Q I h;refine wpAny_isTrue_Compare1 (thn (ha pins s σ H _ I h) λv s1 ⟨x,H1,W,r1,q1⟩=>thn (hb pins s1 σ H1 _ W q1) λu s2 ⟨y,H2,Y,r2,q2⟩=>
  thn (O pins s2 σ H2 x y v u _ Y r1 r2 q2) λc U ⟨z,V,Z,r3,k,e,q3⟩=>?_) hm
 subst e
 cases r3;exact aE ⟨V,Z,q3⟩
noncomputable def Pa(r O:R2)(ta tb tc:TE):TE:=λσ H Q=>ta σ H λx H1=>tb σ H1 λy H2=>r x y H2 λz Z=>∃k,z=.bl k /\
 (if k=true then tc σ Z λY X=>O y Y X Q else Q (.bl false) Z)
theorem Pb(ho:OpR X (compareOp op) r)(U:OpR X (compareOp O) Y)(ha:PE X a ta)(hb:PE X b tb)(hc:PE X c tc)
 (hm:lastMarks [op,O] [b,c]=false:=by with_unfolding_all rfl):PE X (.Compare a [op,O] [b,c] pos) (Pa r Y ta tb tc):=by
 intro pins s σ H Q I h;refine Compare_chain (thn (ha pins s σ H _ I h) λv s1 ⟨x,H1,M,r1,q1⟩=>chain_link (thn (hb pins s1 σ H1 _ M q1) λu s2 ⟨y,H2,N,r2,q2⟩=>
  thn (ho pins s2 σ H2 x y v u _ N r1 r2 q2) λd R ⟨z,W,Z,r3,k,e,q3⟩=>?_)) hm
 subst e
 cases r3;refine aE ?_
 cases k with
 |false=>exact ite_ff ⟨.bl false,W,Z,rfl,q3⟩
 |true=>exact ite_tt (chain_last (thn (hc pins R σ W _ Z q3) λT S ⟨V,L,P,r4,q4⟩=>U pins S σ L y V u T Q P r2 r4 q4))
theorem Pg(ho:OpR X (compareOp op) r)(U:OpR X (compareOp O) Y)(ha:PE X a ta)(hb:PE X b tb)(hc:PE X c tc)
 (hm:lastMarks [op,O] [b,c]=false:=by with_unfolding_all rfl):PT X (.Compare a [op,O] [b,c] pos) (Xi (Pa r Y ta tb tc)):=by
 intro pins s σ H Q I h;refine isTrue_chain (thn (ha pins s σ H _ I h) λv s1 ⟨x,H1,F,r1,q1⟩=>test_link (thn (hb pins s1 σ H1 _ F q1) λu s2 ⟨y,H2,G,r2,q2⟩=>
  thn (ho pins s2 σ H2 x y v u _ G r1 r2 q2) λd R ⟨z,W,Z,r3,k,e,q3⟩=>?_)) hm
 subst e
 cases r3;refine aE ?_
 cases k with
 |false=>
  obtain⟨A,L,N⟩:=q3
  cases L;exact ite_ff ⟨W,Z,N⟩
 |true=>
  refine ite_tt (test_last (thn (hc pins R σ W _ Z q3) λT S ⟨V,D,J,r4,q4⟩=>thn (U pins S σ D y V u T _ J r2 r4 q4) λw B ⟨C,E,K,P,k2,M,q5⟩=>?_));subst M
  cases P;exact aE ⟨E,K,q5⟩
def yF:(sizeLine:Nat)<2^63:=by rw[sizeLine_eq];decide
def Ii:OpR X (binaryOp .Add) (λx y H Q=>∃i j,x=.str i/\y=.str j/\i.length+j.length<=sizeLine/\Q (.str (i++j)) H):=by
 intro pins s σ H x y v u Q I W Y h;obtain⟨i,j,rfl,rfl,V,q⟩:=h;obtain⟨t,rfl⟩:=W;obtain⟨Z,rfl⟩:=Y;exact add_str (λZ tk=>⟨.str (i++j),H,I.tok _,⟨_,rfl⟩,q⟩) V
theorem vals1(r:Vals [d] us):∃u,us=[u]/\RelV d u:=by
 cases r with
 |cons r1 r2=>cases r2;exact⟨_,rfl,r1⟩
theorem vals2(r:Vals [d,f] us):∃u O,us=[u,O]/\RelV d u/\RelV f O:=by
 cases r with
 |cons r1 r2=>
  cases r2 with
  |cons r3 r4=>cases r4;exact⟨_,_,rfl,r1,r3⟩
def M6(O:X.still=true):mK X (.builtin "min") (λxs H Q=>∃i j,xs=[.int i,.int j]/\Q (.int (if j<i then j else i)) H):=by
 intro pins s σ H xs us Q I r h;obtain⟨i,j,rfl,q⟩:=h;obtain⟨u,Y,rfl,⟨t,rfl⟩,⟨W,rfl⟩⟩:=vals2 r;refine min_two_ints (I.ok.hs O) λh' tk k=>⟨_,H,I.kept k,?_,q⟩
 by_cases Z:j<i
 .rw[if_pos Z,if_pos Z];exact⟨_,rfl⟩
 .rw[if_neg Z,if_neg Z];exact⟨_,rfl⟩
def M7:mK X (.type "int") (λxs H Q=>(∃i,xs=[.int i]/\Q (.int i) H)\/∃k,xs=[.bl k]/\Q (.int (if k then 1 else 0)) H):=by
 intro pins s σ H xs us Q I r h;rcases h with⟨i,rfl,q⟩|⟨k,rfl,q⟩
 .obtain⟨u,rfl,t,rfl⟩:=vals1 r;exact call_int_int ⟨.int i,H,I,⟨_,rfl⟩,q⟩
 .obtain⟨u,rfl,r1⟩:=vals1 r
  cases r1;exact call_int_bool ⟨.int (if k then 1 else 0),H,I.tok _,⟨_,rfl⟩,q⟩
end
structure ObjM(h:eg)(x dx C:Addr)(mA:Str->Option Value):Prop where
 obj:h.get? x=some (aak C dx)
 ns:h.Ns1 dx mA
 ne:dx≠x
def A_(n:h.Ns1 c mA):∃od,h.get? c=some od/\∀name,aaI name od=some (mA name):=by
 obtain⟨o,es,T,X,hd,V,_,hm⟩:=n;refine⟨o,X,λname=>?_⟩;have e:=hm name;unfold nsFind findBy at e;rw[<-ur]at e;unfold aaI;rw[hd];dsimp only;split
 .rename_i y q;rw[q]at e;exact congrArg some e
 .rename_i q;rw[q]at e;have a:es.toList.any (·.refKey)=false:=by
   rw[List.any_eq_false];intro y Y;obtain⟨z,t,Z⟩:=V y (rJ.mp Y);simp[DictEntry.refKey,Z]
  have U:¬es.toList.any (·.refKey)=true:=by rw[a];exact eY
  rw[if_neg U];exact congrArg some e
def ObjM.look(I:ObjM h c d C mA):∃od,aay h c (aak C d) C (some od)/\∀name,aaI name od=some (mA name):=
 let⟨od,Z,Y⟩:=A_ I.ns
 ⟨od,⟨I.obj,rfl,rfl,Z⟩,Y⟩
section
variable{prog:dA}{x dx f:Addr}{mA:Str->Option Value}{name:Str}{v:Value}
def get_map(X:K.In s.heap)(I:ObjM s.heap x dx C mA)(hg:aaB K C name=true)(Y:aat K C=true)
 (ha:aad K (.ref C) name=some none) (U:mA name=some v) (O:aaC v=true) (h:Q v {s with toks:=s.toks+1}):
 wpAny (model prog w) A (getAttr (.ref x) name expr) Q E s:=by
 obtain⟨od,J,Z⟩:=I.look;exact PySem.W.get_value X J (aaG hg).1 (aaW Y ha rfl (by rw[Z,U])) O h
def Ph(X:K.In s.heap)(I:ObjM s.heap x dx C mA)(O:aaB K C name=true)
 (hf:aad K (.ref C) name=some (some (.ref f))) (Y:aaE K (.ref f)=true) (U:mA name=none) (h:d (.ref f,[.ref x]) s):
 wpAny (model prog w) A (getMethod (.ref x) name c) d E s:=by
 obtain⟨od,J,Z⟩:=I.look;exact PySem.W.method_fn X J (aaG O).1 (aaG O).2 hf (beq_iff_eq.mp Y) (by show(aaI name od).map (·.isSome)=some false;rw[Z,U];rfl) h
def Uz(X:K.In s.heap)(I:ObjM s.heap x dx C mA)
 (hs:aad K (.ref C) "__setattr__"=some (some (.builtin "object.__setattr__"))) (hp:aba K C=true) (O:aaR K C name=some none) (hh:aat K C=true)
 (hw:aaY mA c) (hsz:c.length<=sizeLine)
 (h:∀h',ObjM h' x dx C (λy=>if y=name then some v else mA y)->eR dx s.heap h'->d () {s with heap:=h',toks:=s.toks+2}):
 wpAny (model prog w) A (setAttr (.ref x) name v) d E s:=by
 obtain⟨od,J,M⟩:=I.look;refine PySem.W.set_plain X J hs (PySem.W.osa_open (s:={s with toks:=s.toks+1}) (r:=none) X J hp O λb=>?_);obtain⟨cd,R,T⟩:=PySem.W.any_some hh;have hx:=I.obj;refine aa (ag (aa (aa (wpAny_loadPart hx (aa (abr (s:={s with toks:=s.toks+1}) (PySem.W.looks_clsIn X R) ?_))))));rw[T];refine ag (a:=some dx) (aa (ag (aa ?_)));refine wpAny_nsSet1 (s:={s with toks:=s.toks+1}) I.ns λh' Y Z=>?_
 obtain⟨oD,P,N,V,U,S⟩:=Y.count (abt name v hw);refine aa (wpAny_lookBehind V (by rw[U];exact pastItsLine_dict (bw S (by rw[aO];lia))) ?_);exact ag (h _ ⟨(Z.2 _ (dL I.ne)).trans I.obj,Y,I.ne⟩ Z)
def Pj(X:K.In s.heap)(hm:aaS K C=true)
 (hi:aad K (.ref C) "__init__"=some (some (.ref f))) (O:PySem.W.typeIn K (.ref f)=some (.type "function"))
 (h:codeAny (model prog w) (A.under (.builtin "type.__call__" ⟨.ref C::vs,kw⟩)) (.call (.ref f) ⟨.ref (s.heap.objs.size+1)::vs,kw⟩) (PySem.W.InitBack (s.heap.objs.size+1) R)
  {s with heap:=(s.heap.push aai).push (aak C s.heap.objs.size)}):
 codeAny (model prog w) A (.call (.ref C) ⟨vs,kw⟩) R s:=by
 obtain⟨Z,g,d,t,os⟩:=s;exact PySem.W.make_core (PySem.W.makes_of X hm) (aaF X hi) (λself=>PySem.W.bind_fn X self O) (.inl rfl) h
end
def rO(f:Str)(v:V):List (Str×V)->List (Str×V)
 |[]=>[(f,v)]
 | (g,x)::r=>if g=f then(g,v)::r else(g,x)::rO f v r
theorem wQ(f g:Str)(v:V):∀fs:List (Str×V),(rO f v fs).lookup g=if g=f then some v else fs.lookup g
 |[]=>by
  show iQ g [(f,v)]=_;by_cases h:g=f
  .have hb:=beq_iff_eq.mpr h;simp only[iQ,hb,if_pos h]
  .have hb:=beq_eq_false_iff_ne.mpr h;simp only[iQ,hb,if_neg h]
 | (k,x)::r=>by
  have Y:=wQ f g v r;rw[show rO f v ((k,x)::r)=(if k=f then(k,v)::r else(k,x)::rO f v r)from rfl];by_cases Z:k=f
  .rw[if_pos Z];by_cases h:g=k
   .have hb:=beq_iff_eq.mpr h;simp only[iQ,hb,if_pos (h.trans Z)]
   .have hb:=beq_eq_false_iff_ne.mpr h;simp only[iQ,hb,if_neg (λe:g=f=>h (e.trans Z.symm))]
  .rw[if_neg Z];by_cases h:g=k
   .have hb:=beq_iff_eq.mpr h;simp only[iQ,hb,if_neg (λe:g=f=>Z (h.symm.trans e))]
   .have hb:=beq_eq_false_iff_ne.mpr h;simp only[iQ,hb];exact Y
theorem wg(f:Str)(v:V):∀fs:List (Str×V),f∈(rO f v fs).map (·.1)/\∀g,g∈fs.map (·.1)->g∈(rO f v fs).map (·.1)
 |[]=>⟨by simp[rO],λg h=>by simp at h⟩
 | (k,x)::r=>by
  obtain⟨i1,i2⟩:=wg f v r;rw[show rO f v ((k,x)::r)=(if k=f then(k,v)::r else(k,x)::rO f v r)from rfl];by_cases Z:k=f
  .rw[if_pos Z];subst Z;exact⟨by simp,λg h=>by simpa using h⟩
  .rw[if_neg Z];refine⟨?_,λg h=>?_⟩
   .rw[aD];exact aA _ i1
   .rw[aD]at h ⊢;rcases aC.mp h with e|e
    .exact aC.mpr (.inl e)
    .exact aA _ (i2 g e)
theorem wR(f:Str)(v:V):∀fs:List (Str×V),(rO f v fs).length<=fs.length+1
 |[]=>by simp[rO]
 | (k,x)::r=>by
  have Y:=wR f v r;rw[show rO f v ((k,x)::r)=(if k=f then(k,v)::r else(k,x)::rO f v r)from rfl];by_cases Z:k=f
  .rw[if_pos Z,aO,aO];lia
  .rw[if_neg Z,aO,aO];lia
theorem rD.some_of{o:Option Value}(r:rD (some v) o):∃u,o=some u/\RelV v u:=by
 cases o with
 |none=>exact(show False from r).elim
 |some u=>exact⟨u,rfl,r⟩
theorem rD.none_of(r:rD none c):c=none:=by
 cases c with
 |none=>rfl
 |some u=>exact(show False from r).elim
theorem Ba{u:Value}(r:RelV v u):aaC u=true:=by
 cases v with
 |non=>cases(show u=d5 from r);rfl
 |bl b=>cases(show u=eP b from r);rfl
 |int i=>obtain⟨t,e⟩:=(show ∃t,u=eJ i t from r);cases e;rfl
 |str x=>obtain⟨t,e⟩:=(show ∃t,u=e_ x t from r);cases e;rfl
 |byt b=>obtain⟨t,e⟩:=(show ∃t,u=Value.bytes b t from r);cases e;rfl
 |flt b=>obtain⟨t,e⟩:=(show ∃t,u=Value.float b t from r);cases e;rfl
 |ref a=>cases(show u=dE a from r);rfl
 |ty n=>cases(show u=fA n from r);rfl
section
variable{H H':Hp}{dx:Addr}{fs fs':List (Str×V)}
def xW(hok:HOk P w H h)(e:H a=some (.ins C dx fs)):∃mA,ObjM h a dx C mA/\(∀f,rD (fs.lookup f) (mA f))/\aaY mA (fs.map (·.1))/\fs.length<=1000/\H dx=some (.own a):=by
 obtain⟨d,z,ne,Z,mA,n,r,q⟩:=(show gO P w H h a (.ins C dx fs)from hok a _ e);exact⟨mA,⟨Z,n,ne⟩,r,q,z,d⟩
end
structure Cls(K:aaa)(C:Addr):Prop where
 pg:aaB K C Str.empty=true
 hd:aat K C=true
 po:aba K C=true
 sa:aad K (.ref C) "__setattr__"=some (some (.builtin "object.__setattr__"))
def Cls.get(c:Cls K C)(f:Str):aaB K C f=true:=c.pg
def jD(K:aaa)(C:Addr)(f:Str):Prop:=aad K (.ref C) f=some none
def jD.taker{f:Str}(n:jD K C f):aaR K C f=some none:=by
 unfold aaR;rw[show aad K (.ref C) f=some none from n];rfl
structure Con(K:aaa)(C:Addr)(f:Str)(v:V)(u:Value):Prop where
 at_:aad K (.ref C) f=some (some u)
 rel:RelV v u
 get:aaL K u "__get__"=some none
 cp:PySem.W.copiedNames.contains f=false
structure Meth(K:aaa)(C:Addr)(m:Str)(f:Addr):Prop where
 at_:aad K (.ref C) m=some (some (.ref f))
 fn:aaE K (.ref f)=true
 kp:aae K (.ref f)=true
section
variable{X:Cx}{σ:St}{H:Hp}{dx:Addr}{fs:List (Str×V)}{f:Str}{v:V}
def Ij(I:Inv X pins σ H s)(e:H a=some (.ins C dx fs))(c:Cls X.K C)(n:jD X.K C f)(l:fs.lookup f=some v)
 (h:∀u s',Inv X pins σ H s'->RelV v u->Q u s'):wpAny (model X.prog X.w) A (getAttr (.ref a) f d) Q E s:=by
 obtain⟨mA,O,r,_,_,_⟩:=xW I.hok e;obtain⟨u,Y,Z⟩:=rD.some_of (v:=v) (o:=mA f) (by rw[<-l];exact r f);exact get_map I.kIn O (c.get f) c.hd n Y (Ba Z) (h u _ (I.tok _) Z)
def p8{pl:Sem Bool}(I:Inv X pins σ H s)(e:H a=some (.ins C dx fs))(c:Cls X.K C)(k:Meth X.K C m d)(l:fs.lookup m=none)
 (h:q (.ref d,[.ref a]) s):wpAny (model X.prog X.w) A (getMethod (.ref a) m pl) q E s:=by
 obtain⟨mA,O,r,_,_,_⟩:=xW I.hok e;have hn:=rD.none_of (by rw[<-l];exact r m);exact Ph I.kIn O (c.get m) k.at_ k.fn hn h
def Ik(I:Inv X pins σ H s)(e:H a=some (.ins C dx fs))(c:Cls X.K C)(n:jD X.K C f)(hl:fs.length<1000)(ry:RelV d k)
 (h:∀s',Inv X pins σ (upd H a (.ins C dx (rO f d fs))) s'->m () s'):wpAny (model X.prog X.w) A (setAttr (.ref a) f k) m E s:=by
 obtain⟨mA,O,r,wi,_,U⟩:=xW I.hok e;have W:(fs.map (·.1)).length<=sizeLine:=by rw[ak,sizeLine_eq];lia
 refine Uz I.kIn O c.sa c.po n.taker c.hd wi W λh' Z Y=>h _ ?_
 have hd:∃o,h'.get? dx=some o:=let⟨o,_,_,S,_⟩:=Z.ns;⟨o,S⟩;refine I.write (x:=a) (e:=dx) (by rw[e];exact eC) (.inr U) (λb q hb z=>(Y.2 b hb).trans z) hd ?_;refine⟨by rwa[aL O.ne],?_,O.ne,Z.obj,_,Z.ns,λg=>?_,λg T=>?_⟩
 .have:=wR f d fs;lia
 .rw[wQ];by_cases q:g=f
  .rwa[if_pos q,if_pos q]
  .rw[if_neg q,if_neg q];exact r g
 .by_cases q:g=f
  .rw[q];exact(wg f d fs).1
  .refine(wg f d fs).2 g (wi g λz=>T ?_);show(if g=f then some k else mA g)=none;rwa[if_neg q]
def Inv.made(I:Inv X pins σ H s):Inv X pins σ (upd (upd H s.heap.objs.size (.own (s.heap.objs.size+1))) (s.heap.objs.size+1) (.ins C s.heap.objs.size []))
 {s with heap:=(s.heap.push aai).push (aak C s.heap.objs.size)}:=by
 have Z:(s.heap.push aai).get? s.heap.objs.size=some aai:=ah s.heap rfl;have T:((s.heap.push aai).push (aak C s.heap.objs.size)).get? (s.heap.objs.size+1)=some (aak C s.heap.objs.size):=by
  have:=ah (s.heap.push aai) (o:=aak C s.heap.objs.size) rfl;rwa[bP]at this
 have U:(s.heap.push aai).Ns s.heap.objs.size (λ_=>none):=⟨aai,#[],_,Z,rfl,(λe V=>absurd V (by simp)),λ_=>rfl⟩;have S:=I.laid (a:=s.heap.objs.size) (o:=.own (s.heap.objs.size+1)) (h':=s.heap.push aai) (t':=s.toks) (λb u q=>ae _ q) (aN _) ⟨_,Z⟩;refine S.laid (a:=s.heap.objs.size+1) (o:=.ins C s.heap.objs.size []) (t':=s.toks) (λb u q=>ae _ q) (u5 (bP _ _)) ?_;have ne:s.heap.objs.size≠s.heap.objs.size+1:=bh (gA _);refine⟨by rw[aL ne,aW],f9 _,ne,T,λ_=>none,(dk U).at λo q=>ae _ q,λ_=>eC,λy Y=>absurd rfl Y⟩
def J8(hb:attributeBase c f env (eval c env)=eval c env)
 (h:wpAny (model prog w) A (eval c env) (λo O=>wpAny (model prog w) A (getAttr o f true) Q E O) E s):wpAny (model prog w) A (eval (.Attribute c f d) env) Q E s:=
 Attribute_any_ h (by rw[arm_eval_Attribute,hb])
end
def at6(K:aaa)(ta:TE)(f:Str):TE:=λσ H Q=>ta σ H λx H1=>∃a C dx fs v,x=.ref a/\H1 a=some (.ins C dx fs)/\Cls K C/\jD K C f/\fs.lookup f=some v/\Q v H1
def at7(K:aaa)(ta tv:TE)(f:Str):TS:=λD σ H=>tv σ H λy H1=>ta σ H1 λx H2=>∃a C dx fs,x=.ref a/\H2 a=some (.ins C dx fs)/\Cls K C/\jD K C f/\fs.length<1000 /\
 D.nx σ (upd H2 a (.ins C dx (rO f y fs)))
section
variable{X:Cx}{o value:Expr}{f:Str}{ta tv:TE}
def Ca(O:PE X e ta)(hb:attributeBase e f X.env (eval e X.env)=eval e X.env):PE X (.Attribute e f pos) (at6 X.K ta f):=by
 intro pins s σ H Q I h;refine J8 hb (thn (O pins s σ H _ I h) λu s1 ⟨x,H1,V,Z,a,C,dx,fs,v,ex,ea,c,n,l,q⟩=>?_);subst ex;obtain rfl:u=dE a:=Z;exact Ij V ea c n l λU s2 W Y=>⟨v,H1,W,Y,q⟩
def Yx(ha:PE X o ta)(O:PE X value tv)(hs:swapsWith value (some (.Attribute o f pos')) pos.line X.env=pure false):PS X (.Assign [.Attribute o f pos'] value pos) (at7 X.K ta tv f):=by
 intro pins s σ H D I h;refine c9 (thn (O pins s σ H _ I h) λu s1 ⟨y,H1,T,Z,q⟩=>thn (ha pins s1 σ H1 _ T q) λW s2 ⟨x,H2,U,Y,a,C,dx,fs,ex,ea,c,n,l,q2⟩=>?_) hs;subst ex;obtain rfl:W=dE a:=Y;exact Ik U ea c n l Z λS V=>⟨σ,_,V,q2⟩
end
section
variable{X:Cx}{σ:St}{H:Hp}{c:Value}{b:Bool}
inductive TyOf(K:aaa)(H:Hp):V->Value->Prop where
 |non:TyOf K H .non (.type "NoneType")
 |bl (x:Bool):TyOf K H (.bl x) (.type "bool")
 |int (i:Int):TyOf K H (.int i) (.type "int")
 |str (x:Str):TyOf K H (.str x) (.type "str")
 |flt (x:UInt64):TyOf K H (.flt x) (.type "float")
 |lst {a:Addr} {xs:List V} (e:H a=some (.lst xs)):TyOf K H (.ref a) (.type "list")
 |frz {a:Addr} {o:Obj} {xs:List V} (e:H a=some (.frz o (.lst xs))):TyOf K H (.ref a) (.type "list")
 |tup {a:Addr} {xs:List V} (e:H a=some (.tup xs)):TyOf K H (.ref a) (.type "tuple")
 |dK {a:Addr} {kvs:List (Key×V)} (e:H a=some (.dK kvs)):TyOf K H (.ref a) (.type "dict")
 |dT {a:Addr} {kvs:List (List Key×V)} (e:H a=some (.dT kvs)):TyOf K H (.ref a) (.type "dict")
 |ins {a C dx:Addr} {fs:List (Str×V)} (e:H a=some (.ins C dx fs)) (cl:Cls K C) (ha:aad K (.ref C) "__class__"=some (some (.builtin "object.__class__")))
  (hn:aaL K (.builtin "object.__class__") "__get__"=some (some (.builtin "getset_descriptor.__get__"))) (htk:abh K (.builtin "object.__class__")=some true)
  (hm:aaV K C (.type "object")=some true):TyOf K H (.ref a) (.ref C)
theorem Bb(I:Inv X pins σ H s)(U:RelV d f)(ty:TyOf X.K H d t)(e:aaJ X.K t c=some b)(h:∀tk,Q (.bool b) {s with toks:=tk}):
 wpAny (model X.prog X.w) A (call (.builtin "isinstance") [f,c]) Q E s:=by
 cases ty with
 |non=>cases(show f=d5 from U);exact aab abb I.kIn eC e (λz=>nomatch z) h
 |bl y=>cases(show f=eP y from U);exact aab abc I.kIn eC e (λz=>nomatch z) h
 |int i=>obtain⟨t,q⟩:=(show ∃t,f=eJ i t from U);cases q;exact aab abd I.kIn eC e (λz=>nomatch z) h
 |str y=>obtain⟨t,q⟩:=(show ∃t,f=e_ y t from U);cases q;exact aab abe I.kIn eC e (λz=>nomatch z) h
 |flt y=>obtain⟨t,q⟩:=(show ∃t,f=Value.float y t from U);cases q;exact aab PySem.W.kitx_float I.kIn eC e (λz=>nomatch z) h
 | @lst a xs ea=>
  cases(show f=dE a from U);obtain⟨_,_,n,_,h1⟩:=(show gO X.prog X.w H s.heap a (.lst xs)from I.hok a _ ea);exact aab aaz I.kIn ⟨_,h1,rfl⟩ e (λz=>nomatch z) h
 | @frz a Z xs ea=>
  cases(show f=dE a from U);obtain⟨_,_,_,n,_,h1⟩:=(show gO X.prog X.w H s.heap a (.frz Z (.lst xs))from I.hok a _ ea);exact aab aaz I.kIn ⟨_,h1,rfl⟩ e (λz=>nomatch z) h
 | @tup a xs ea=>
  cases(show f=dE a from U);obtain⟨_,_,_,p⟩:=(show gO X.prog X.w H s.heap a (.tup xs)from I.hok a _ ea);obtain⟨o,h1,h2,_⟩:=p;exact aab aaZ I.kIn ⟨o,h1,h2⟩ e (λz=>nomatch z) h
 | @dK a kvs ea=>
  cases(show f=dE a from U);obtain⟨_,_,vs,_,p⟩:=(show gO X.prog X.w H s.heap a (.dK kvs)from I.hok a _ ea);obtain⟨o,es,Y,h1,h2,_⟩:=p;exact aab aaA I.kIn ⟨o,h1,h2.1⟩ e (λz=>nomatch z) h
 | @dT a kvs ea=>
  cases(show f=dE a from U);obtain⟨_,_,xs,_,o,es,Y,h1,h2,_⟩:=(show gO X.prog X.w H s.heap a (.dT kvs)from I.hok a _ ea);exact aab aaA I.kIn ⟨o,h1,h2.1⟩ e (λz=>nomatch z) h
 | @ins a C dx fs ea cl ha hn htk hm=>
  cases(show f=dE a from U);obtain⟨mA,O,_⟩:=xW I.hok ea;obtain⟨od,J,_⟩:=O.look;exact aab (PySem.W.kitx_own (cl.get _) cl.hd ha hn htk hm) I.kIn J e (λz=>nomatch z) h
end
end L2
variable{mg:Str->Option Value}{base:eg}{f:Addr}{fd:ee}{vs:List L2.V}{cd dV doc pm ct oc:Value}{E:L2.XK}{an od:Option Addr}{osl:Array (Option Value)}
namespace L2
structure Room(k:Nat)(A:dQ):Prop where
 hd:A.handled=none
 dp:A.depth+3*k+5<recursionLimit
 un:A.units+16*k+200<cLine
def Room.mono(r:Room k A)(h:c<=k):Room c A:=⟨r.hd,by have:=r.dp;lia,by have:=r.un;lia⟩
def Room.deeper(r:Room (k+1) A)(env:Env):Room k (A.deeper env):=
 ⟨r.hd,by have:=r.dp;show A.depth+1+3*k+5<_;lia,by have:=r.un;show A.units+3+16*k+200<_;lia⟩
def Il{kw:List (Str×Value)}:(A.under (.builtin "type.__call__" ⟨.ref C::us,kw⟩)).depth=A.depth+1:=by
 first|rfl|simp[Around.under,Code.weight,Code.isCreation,Code.isGuard,Code.isCaller,Code.frames,Code.isFrame,guardIds]
def Im{kw:List (Str×Value)}:(A.under (.builtin "type.__call__" ⟨.ref C::us,kw⟩)).units=A.units+1:=by
 first|rfl|simp[Around.under,Code.cUnits,Code.frames,Code.isFrame]
def Room.make(r:Room (k+1) A)(C:Addr)(us:List Value)(kw:List (Str×Value)):Room k (A.under (.builtin "type.__call__" ⟨.ref C::us,kw⟩)):=
 ⟨r.hd,by have:=r.dp;rw[Il];lia,by have:=r.un;rw[Im];lia⟩
def Room.depth(r:Room k A):A.depth<recursionLimit:=by have:=r.dp;lia
def Room.units(r:Room k A):A.units+64<cLine:=by have:=r.un;lia
def UG:TA:=λ_ H Q=>Q [] H
def Pk(ta:TE)(O:TA):TA:=λσ H Q=>ta σ H λx H1=>O σ H1 λxs H2=>Q (x::xs) H2
section
variable{X:Cx}{te:TE}{t:TA}
def iJ:PA X [] UG:=λ_ _ _ _ H Q I h=>bS ⟨[],H,I,.nil,h⟩
def dO(ha:PE X e te)(O:PA X es t)(hs:starEach (e::es) X.env=(false,eval e X.env)::starEach es X.env:=by rfl):PA X (e::es) (Pk te t):=by
 intro pos pins s σ H Q I h;rw[hs];refine bn (thn (ha pins s σ H _ I h) λu s1 ⟨x,H1,Y,r1,q1⟩=>?_);exact thn (O pos pins s1 σ H1 _ Y q1) λus s2 ⟨xs,H2,Z,r2,q2⟩=>⟨x::xs,H2,Z,.cons r1 r2,q2⟩
def at8(t:TA):TE:=λσ H Q=>t σ H λxs H1=>xs.length<=sizeLine/\∀p,H1 p=none->Q (.ref p) (upd H1 p (.tup xs))
def at9(t:TA):TE:=λσ H Q=>t σ H λxs H1=>xs.length<=sizeLine/\∀p,H1 p=none->Q (.ref p) (upd H1 p (.lst xs))
def Pn{x1}(h:PA X es t):PE X (.Tuple es x1 pos) (at8 t):=by
 intro pins s σ H Q I hq;refine wpAny_Tuple_spliced (thn (h pos pins s σ H _ I hq) λus s1 ⟨xs,H1,Z,r,z,q⟩=>⟨by rwa[<-r.length],?_⟩);have Y:=Z.hok.fresh (aN _);refine⟨.ref s1.heap.objs.size,upd H1 s1.heap.objs.size (.tup xs),Z.laid (t':=s1.toks) (λb u e=>ae _ e) (aN _) ?_,rfl,q _ Y⟩;exact⟨z,us,r,⟨_,ah _ rfl,rfl,_,rfl⟩⟩
def Io(h:PA X es t):PE X (.List es pos) (at9 t):=by
 intro pins s σ H Q I hq;refine wpAny_List_spliced (thn (h pos pins s σ H _ I hq) λus s1 ⟨xs,H1,Z,r,z,q⟩=>⟨by rwa[<-r.length],?_⟩);have Y:=Z.hok.fresh (aN _);refine⟨.ref s1.heap.objs.size,upd H1 s1.heap.objs.size (.lst xs),Z.laid (t':=s1.toks) (λb u e=>ae _ e) (aN _) ?_,rfl,q _ Y⟩;exact⟨z,us,0,r,ah _ rfl⟩
end
abbrev Sp:=List V->Hp->VK->XK->Prop
abbrev CXT:=List Env->Hp->dv->XK->Value->dv->Prop
structure Env0(P:dA)(w:d4)(K:aaa)(mg:Str->Option Value)(base:eg)(A:dQ)(outer:List Env)(s:dv)(H:Hp):Prop where
 frames:A.frames=some outer
 mod:Mod K mg base
 bs:∀b o,base.get? b=some o->s.heap.get? b=some o/\H b=none
 bsz:base.objs.size<=s.heap.objs.size
 funs:s.heap.FunFrames base outer
 frf:∀b∈frs outer,H b=none
 hok:HOk P w H s.heap
 bare:fy s.gens
def CE(outer:List Env)(P:dA)(w:d4)(H:Hp)(s:dv)(Q:VK)(u:Value)(s':dv):Prop:=
 ∃v H',s'.os=s.os/\fy s'.gens/\Un (frs outer) [] H H' s.heap s'.heap/\HOk P w H' s'.heap/\RelV v u/\Q v H'
def CR(CX:CXT)(outer:List Env)(P:dA)(w:d4)(H:Hp)(s:dv)(Q:VK)(E:XK)(r:Result)(s':dv):Prop:=
 match r with
 |.ok (.ret u)=>CE outer P w H s Q u s'
 |.ok _=>False
 |.error e=>CX outer H s E e s'
structure FnOk(P:dA)(w:d4)(K:aaa)(mg:Str->Option Value)(base:eg)(CX:CXT)(k:Nat)(f:Addr)(fd:ee)(ps:List Str)(sp:Sp):Prop where
 len:∀vs H Q E,sp vs H Q E->vs.length=ps.length
 run:∀(A:dQ)(outer:List Env)(s:dv)(H:Hp)(args:Args)(us:List Value)(vs:List V)(Q:VK)(E:XK),Room k A->Env0 P w K mg base A outer s H->BindsTo s fd args (ps.zip us)->Vals vs us->sp vs H Q E ->
  codeAny (model P w) A (.call (.ref f) args) (CR CX outer P w H s Q E) s
def FnOk.mono{CX:CXT}{k:Nat}{sp:Sp}(F:FnOk P w K mg base CX j f fd ps sp)(h:j<=k):
 FnOk P w K mg base CX k f fd ps sp:=⟨F.len,λA outer s H args us vs Q E Z=>F.run A outer s H args us vs Q E (Z.mono h)⟩
def FnOk.imp{CX:CXT}{k:Nat}{sp O:Sp}(F:FnOk P w K mg base CX k f fd ps sp)
 (h:∀vs H Q E,O vs H Q E->sp vs H Q E):FnOk P w K mg base CX k f fd ps O:=
 ⟨λvs H Q E q=>F.len vs H Q E (h _ _ _ _ q),λA outer s H args us vs Q E Y X hb Z hs=>F.run A outer s H args us vs Q E Y X hb Z (h _ _ _ _ hs)⟩
def Env0.make{outer:List Env}(e:Env0 P w K mg base A outer s H)(C:Addr)(us:List Value)(kw:List (Str×Value)):
 Env0 P w K mg base (A.under (.builtin "type.__call__" ⟨.ref C::us,kw⟩)) outer s H:=⟨by first|exact e.frames|(simpa[Around.under,Code.envs,Code.isFrame,pushEnvs]using e.frames),e.mod,e.bs,e.bsz,e.funs,e.frf,e.hok,e.bare⟩
section
variable{X:Cx}{σ:St}{H:Hp}{s':dv}
def Inv.env0(I:Inv X pins σ H s):Env0 X.prog X.w X.K X.mg X.base X.A X.stack s H:=
 ⟨I.ok.frames,I.ok.mod,I.bs,bw I.ok.bsz I.sz,I.stack,I.stkFree,I.hok,I.bare⟩
def Inv.after(I:Inv X pins σ H s)(h:CE X.stack X.prog X.w H s c k s'):EP X pins σ c k s':=by
 obtain⟨v,H',os,bare,un,hok,r,q⟩:=h;obtain⟨Y,g,d,t,Z⟩:=s';obtain rfl:Z=s.os:=os;exact⟨v,H',I.call (h':=Y) (g':=g) (d':=d) (t':=t) (ch:=[]) un hok bare (λb z=>absurd z (by simp)),r,q⟩
end
def Xj(sp:Sp)(dvs:List V)(E:XK)(t:TA):TE:=λσ H Q=>t σ H λvs H1=>sp (vs++dvs) H1 Q E
def Xk(C:Addr)(m:Str)(sp:Sp)(dvs:List V)(E:XK)(ta:TE)(t:TA):TE:=λσ H Q=>ta σ H λx H1=>∃a dx fs,x=.ref a/\H1 a=some (.ins C dx fs)/\fs.lookup m=none /\
 t σ H1 λvs H2=>sp (x::(vs++dvs)) H2 Q E
def af8(C:Addr)(sp:Sp)(dvs:List V)(E:XK)(t:TA):TE:=λσ H Q=>t σ H λvs H1=>∀x dx,H1 x=none->H1 dx=none->dx≠x ->
 sp (.ref x::(vs++dvs)) (upd (upd H1 dx (.own x)) x (.ins C dx [])) (λv H2=>v=.non/\Q (.ref x) H2) E
def Binds(K:aaa)(fd:ee)(ps:List Str)(ds:List Value):Prop:=
 ∀(s:dv)(us:List Value),K.In s.heap->(us++ds).length=ps.length->BindsTo s fd ⟨us,[]⟩ (ps.zip (us++ds))
def Binds.all(h:∀us:List Value,us.length=ps.length->bindArgs fd ⟨us,[]⟩=pure (ps.zip us)):Binds K fd ps []:=λs us _ Z=>by
 rw[cA]at Z ⊢;exact .of_eq (h us Z)
def Passes(CX:CXT)(X:Cx)(E:XK):Prop:=∀(pins:List (Addr×Obj))(σ:St)(H:Hp)(s:dv)(e:Value)(s':dv),Inv X pins σ H s->CX X.stack H s E e s'->X.xe e s'
section
variable{X:Cx}{CX:CXT}{k:Nat}{sp:Sp}{ds:List Value}{E:XK}{m:Str}{o:Expr}{ta:TE}{t:TA}
theorem Ir(F:FnOk X.prog X.w X.K X.mg X.base CX k f fd ps sp)(O:Room k X.A)(hb:Binds X.K fd ps ds)(hd:Vals dvs ds)(hx:Passes CX X E)
 (I:Inv X c σ H s) (r:Vals vs us) (h:sp (vs++dvs) H d E):wpAny (model X.prog X.w) X.A (call (.ref f) us) (EP X c σ d) X.xe s:=by
 have r2:=r.append hd;have Z:(us++ds).length=ps.length:=by rw[<-r2.length];exact F.len _ _ _ _ h
 refine cy (b8 (F.run X.A X.stack s H ⟨us,[]⟩ (us++ds) (vs++dvs) d E O I.env0 (hb s us I.kIn Z) r2 h) λr s' hq=>?_)
 cases r with
 |error e=>exact hx c σ H s e s' I hq
 |ok fl=>
  cases fl with
  |ret u=>exact I.after hq
  |next=>exact eB hq
  |brk=>exact eB hq
  |cont=>exact eB hq
def UJ(F:FnOk X.prog X.w X.K X.mg X.base CX k f fd ps sp)(Y:Room k X.A)(hg:Gl X x)(hm:X.mg x=some (.ref f))(hk:aae X.K (.ref f)=true)(hb:Binds X.K fd ps ds)(hd:Vals dvs ds)(hx:Passes CX X E)
 (ha:PA X (e::es) t) (U:(x==("__debug__":Str))=false:=by decide) (he:starEach (e::es) X.env=(false,eval e X.env)::starEach es X.env:=by rfl) (O:(backTo pos (starEach es X.env)).any (·.1)=false:=by rfl):
 PE X (.Call (.Name x p) (e::es) [] pos) (Xj sp dvs E t):=by
 intro pins s σ H Q I h;refine ay (tE I hg hm ?_ U);refine aaq (h₀:=X.base) I.ok.mod.kin hk (thn (ha pos pins s σ H _ I h) λus s1 ⟨vs,H1,Z,r,q⟩=>⟨Z.kIn,?_⟩) he O;exact Ir F Y hb hd hx Z r q
def J9{pl:Sem Bool}(he:PE X o ta)(c:Cls X.K C)(hm:Meth X.K C m f)(F:FnOk X.prog X.w X.K X.mg X.base CX k f fd ps sp)(hr:Room k X.A)(hb:Binds X.K fd ps ds)(hd:Vals dvs ds)(hx:Passes CX X E)(ha:PA X (e::es) t)
 (O:starEach (e::es) X.env=(false,eval e X.env)::starEach es X.env:=by rfl) (U:(backTo pos (starEach es X.env)).any (·.1)=false:=by rfl)
 (ht:eval (.Call (.Attribute o m apos) (e::es) [] pos) X.env=(do
  let Y <-eval o X.env
  standAt apos.atName
  let(f,fi) <-holding [Y] (getMethod Y m pl)
  callWith pos f fi (backTo pos (starEach (e::es) X.env)) (backToKw pos (keywordEach [] X.env))):=by rfl):
 PE X (.Call (.Attribute o m apos) (e::es) [] pos) (Xk C m sp dvs E ta t):=by
 intro pins s σ H Q I h;refine aau (pl:=pl) (thn (he pins s σ H _ I h) λu s1 ⟨x,H1,V,T,a,dx,fs,ex,ea,l,q⟩=>?_) ht;subst ex;obtain rfl:u=dE a:=T;refine p8 V ea c hm l ?_;refine aaq (first:=[.ref a]) (h₀:=X.base) I.ok.mod.kin hm.kp (thn (ha pos pins s1 σ H1 _ V q) λus s2 ⟨vs,H2,Z,r,q2⟩=>⟨Z.kIn,?_⟩) O U;exact Ir (us:=.ref a::us) (vs:=.ref a::vs) F hr hb hd hx Z (.cons rfl r) q2
def Pq{pl:Sem Bool}(he:PE X o ta)(c:Cls X.K C)(hm:Meth X.K C m f)(F:FnOk X.prog X.w X.K X.mg X.base CX k f fd ps sp)(hr:Room k X.A)(hb:Binds X.K fd ps ds)(hd:Vals dvs ds)(hx:Passes CX X E)
 (U:eval (.Call (.Attribute o m apos) [] [] pos) X.env=(do
  let O <-eval o X.env
  standAt apos.atName
  let(f,fi) <-holding [O] (getMethod O m pl)
  callWith pos f fi (backTo pos (starEach [] X.env)) (backToKw pos (keywordEach [] X.env))):=by rfl):
 PE X (.Call (.Attribute o m apos) [] [] pos) (Xk C m sp dvs E ta UG):=by
 intro pins s σ H Q I h;refine aau (pl:=pl) (thn (he pins s σ H _ I h) λu s1 ⟨x,H1,Z,Y,a,dx,fs,ex,ea,l,q⟩=>?_) U;subst ex;obtain rfl:u=dE a:=Y;refine p8 Z ea c hm l ?_;exact aaX (first:=[.ref a]) Z.kIn hm.kp (Ir (us:=[.ref a]) (vs:=[.ref a]) F hr hb hd hx Z (.cons rfl .nil) q)
structure Mk(K:aaa)(C f:Addr):Prop where
 makes:aaS K C=true
 init:aad K (.ref C) "__init__"=some (some (.ref f))
 fn:aaE K (.ref f)=true
 kp:aae K (.ref C)=true
theorem Pr(M:Mk X.K C f)(F:FnOk X.prog X.w X.K X.mg X.base CX k f fd ps sp)(O:Room (k+1) X.A)(hb:Binds X.K fd ps ds)(hd:Vals dvs ds)
 (hx:Passes CX X E) (I:Inv X c σ H s) (r:Vals vs us)
 (h:∀x dx,H x=none->H dx=none->dx≠x->sp (.ref x::(vs++dvs)) (upd (upd H dx (.own x)) x (.ins C dx [])) (λv H2=>v=.non/\d (.ref x) H2) E):
 wpAny (model X.prog X.w) X.A (call (.ref C) us) (EP X c σ d) X.xe s:=by
 have hq:=h (s.heap.objs.size+1) s.heap.objs.size (I.hok.fresh (rK _)) (I.hok.fresh (aN _)) (bh (gA _));have Y:=Inv.made (C:=C) I;have r2:Vals (V.ref (s.heap.objs.size+1)::(vs++dvs)) (dE (s.heap.objs.size+1)::(us++ds)):=.cons rfl (r.append hd);have U:(dE (s.heap.objs.size+1)::us++ds).length=ps.length:=by
  have e:=r2.length;rw[F.len _ _ _ _ hq]at e;exact e.symm
 refine cy (Pj (f:=f) I.kIn M.makes M.init (beq_iff_eq.mp M.fn) (b8 (F.run _ X.stack _ _ ⟨dE (s.heap.objs.size+1)::us,[]⟩ (dE (s.heap.objs.size+1)::(us++ds)) _ _ E (O.make C us [])
  (Y.env0.make C us []) (hb _ (dE (s.heap.objs.size+1)::us) Y.kIn U) r2 hq) λr s' Z=>?_))
 cases r with
 |error e=>exact hx c σ _ _ e s' Y Z
 |ok fl=>
  cases fl with
  |ret u=>
   obtain⟨v,H',S,W,T,q3⟩:=Y.after Z;subst T;exact⟨W,⟨V.ref (s.heap.objs.size+1),H',S,rfl,q3⟩⟩
  |next=>exact eB Z
  |brk=>exact eB Z
  |cont=>exact eB Z
def UL(M:Mk X.K C f)(F:FnOk X.prog X.w X.K X.mg X.base CX k f fd ps sp)(Y:Room (k+1) X.A)(hg:Gl X x)(hm:X.mg x=some (.ref C))(hb:Binds X.K fd ps ds)(hd:Vals dvs ds)(hx:Passes CX X E)
 (ha:PA X (e::es) t) (U:(x==("__debug__":Str))=false:=by decide) (he:starEach (e::es) X.env=(false,eval e X.env)::starEach es X.env:=by rfl) (O:(backTo pos (starEach es X.env)).any (·.1)=false:=by rfl):
 PE X (.Call (.Name x p) (e::es) [] pos) (af8 C sp dvs E t):=by
 intro pins s σ H Q I h;refine ay (tE I hg hm ?_ U);refine aaq (h₀:=X.base) I.ok.mod.kin M.kp (thn (ha pos pins s σ H _ I h) λus s1 ⟨vs,H1,Z,r,q⟩=>⟨Z.kIn,?_⟩) he O;exact Pr M F Y hb hd hx Z r q
end
def PK(X:Cx)(kws:List eM)(t:TA):Prop:=
 ∀(pos:Pos)(pins:List (Addr×Obj))(s:dv)(σ:St)(H:Hp)(Q:List V->Hp->Prop),Inv X pins σ H s->t σ H Q->wpAny (model X.prog X.w) X.A (evalAll ((backToKw pos (keywordEach kws X.env)).map (·.2))) (AP X pins σ Q) X.xe s
section
variable{X:Cx}{CX:CXT}{k:Nat}{sp:Sp}{E:XK}{m:Str}{kpos:Pos}{o:Expr}{kws:List eM}{te ta:TE}{t tk:TA}{nm:Option Str}
def Yy:PK X [] UG:=λ_ _ _ _ H Q I h=>wpAny_evalAll_nil ⟨[],H,I,.nil,h⟩
def UW(ha:PE X e te)(O:PK X kws t):PK X (⟨nm,e,kpos⟩::kws) (Pk te t):=by
 intro pos pins s σ H Q I h;refine wpAny_evalAll_cons (aa (thn (ha pins s σ H _ I h) λu s1 ⟨x,H1,Y,r1,q1⟩=>aa (bx (ag ?_))));exact thn (O pos pins s1 σ H1 _ Y q1) λus s2 ⟨xs,H2,Z,r2,q2⟩=>⟨x::xs,H2,Z,.cons r1 r2,q2⟩
structure KBinds(K:aaa)(fd:ee)(ps ks:List Str)(g:List Value->List Value->List Value)(gV:List V->List V->List V):Prop where
 to:∀(s:dv)(us ws:List Value),K.In s.heap->(g us ws).length=ps.length->BindsTo s fd ⟨us,ks.zip ws⟩ (ps.zip (g us ws))
 rel:∀{vs:List V}{us:List Value}{zs:List V}{ws:List Value},Vals vs us->Vals zs ws->Vals (gV vs zs) (g us ws)
variable{g:List Value->List Value->List Value}{gV:List V->List V->List V}
end
structure FnScope(N P:List Str)(sc:eL):Prop where
 kind:sc.kind=.function
 co:sc.isCoroutine=false
 gen:sc.isGenerator=false
 nd:N.Nodup
 pre:N.take P.length=P
 par:∀x∈P,sc.names.lookup x=some .local\/sc.names.lookup x=some .cell
 nofree:∀y∈sc.names,y.2 ≠ .free
theorem Bc{kindOf:Str->Option NameKind}:∀{binds:List (Str×Value)}{m:Str->Option Value},(∀v,(x,v)∉binds)->bindL kindOf binds m x=m x
 |[],_,_=>rfl
 | (n,v)::r,m,h=>by
  unfold bindL;rw[Bc λw hw=>h w (aA _ hw)];split
  .have:x≠n:=by rintro rfl;exact h v au
   simp[this]
  .rfl
theorem Bd{kindOf:Str->Option NameKind}:∀{binds:List (Str×Value)}{m:Str->Option Value},(∀v,(x,v)∉binds)->bindC kindOf binds m x=m x
 |[],_,_=>rfl
 | (n,v)::r,m,h=>by
  unfold bindC;rw[Bd λw hw=>h w (aA _ hw)];split
  .rfl
  .have:x≠n:=by rintro rfl;exact h v au
   simp[this]
theorem tG{kindOf:Str->Option NameKind} : ∀{P:List Str}{vs:List Value}{i:Nat}{m:Str->Option Value},P.Nodup->P[i]?=some x->vs[i]?=some c->kindOf x=some .local ->
 bindL kindOf (P.zip vs) m x=some c
 |[],_,_,_,_,h,_,_=>by simp at h
 |_::_,[],_,_,_,_,h,_=>by simp at h
 |p::P,w::vs,0,m,nd,h1,h2,Z=>by
  simp at h1 h2;subst h1;subst h2;show bindL kindOf ((p,w)::P.zip vs) m p=_;unfold bindL;rw[Bc λv Y=>(bK.mp nd).1 (jH Y).1,if_pos Z];simp
 |p::P,w::vs,i+1,m,nd,h1,h2,Z=>by
  show bindL kindOf ((p,w)::P.zip vs) m x=_;unfold bindL;exact tG (i:=i) (bK.mp nd).2 (by simpa using h1) (by simpa using h2) Z
theorem Bf{kindOf:Str->Option NameKind} : ∀{P:List Str}{vs:List Value}{i:Nat}{m:Str->Option Value},P.Nodup->P[i]?=some x->vs[i]?=some c->kindOf x≠some .local ->
 bindC kindOf (P.zip vs) m x=some c
 |[],_,_,_,_,h,_,_=>by simp at h
 |_::_,[],_,_,_,_,h,_=>by simp at h
 |p::P,w::vs,0,m,nd,h1,h2,Z=>by
  simp at h1 h2;subst h1;subst h2;show bindC kindOf ((p,w)::P.zip vs) m p=_;unfold bindC;rw[Bd λv Y=>(bK.mp nd).1 (jH Y).1,if_neg Z];simp
 |p::P,w::vs,i+1,m,nd,h1,h2,Z=>by
  show bindC kindOf ((p,w)::P.zip vs) m x=_;unfold bindC;exact Bf (i:=i) (bK.mp nd).2 (by simpa using h1) (by simpa using h2) Z
def start(N:List Str)(vs:List V):St:=vs.map some++bR (N.length-vs.length) none
noncomputable def nQ(CX:CXT)(P:dA)(w:d4)(K:aaa)(mg:Str->Option Value)(base:eg)(N:List Str)(qual:Str)(scope:eL)(f:Addr)(cd:Value)(A:dQ)(outer:List Env)(s:dv)(H:Hp)(E:XK):Cx where
 prog:=P
 w:=w
 K:=K
 mg:=mg
 base:=base
 A:=A.deeper (envOfC qual scope s.heap.objs.size f cd)
 N:=N
 s₀:=s
 H₀:=H
 env:=envOfC qual scope s.heap.objs.size f cd
 outer:=outer
 stack:=envOfC qual scope s.heap.objs.size f cd::outer
 ex:=[]
 calm:=true
 still:=true
 fn:=λ_=>true
 pn:=[]
 xe:=λe s'=>wpAny (model P w) (A.deeper (envOfC qual scope s.heap.objs.size f cd)) (leaving (envOfC qual scope s.heap.objs.size f cd) e) (λ_ Z=>CX outer H s E e Z) (λY Z=>CX outer H s E Y Z) s'
def Fg{sc:eL}(h:sc.names.lookup x=some .cell):∃c,(cellsFrom n sc.names []).lookup x=some c:=by
 have q:=aar sc.names n [] (.inl h);exact oF.mp q
def Bg{CX:CXT}{outer:List Env}{s1:dv}
 (S:FnScope N ps scope) (hd:A.handled=none) (O:Env0 P w K mg base A outer s H) (hl:vs.length=ps.length) (r:Vals vs us)
 (x:InCallC s s.heap.objs.size (bindL (envOfC qual scope s.heap.objs.size f cd).kindOf (ps.zip us) λ_=>none) (cellsFrom (s.heap.objs.size+1) scope.names []) (bindC (envOfC qual scope s.heap.objs.size f cd).kindOf (ps.zip us) λ_=>none) s1):
 Inv (nQ CX P w K mg base N qual scope f cd A outer s H E) [] (start N vs) H s1:=by
 have R:ps.length<=N.length:=by have:=congrArg lO S.pre;rw[iD]at this;lia
 obtain⟨h1,tk,rfl,U⟩:=x.done;have Z:∀b:Addr,b∉(nQ CX P w K mg base N qual scope f cd A outer s H E).ex:=λb z=>absurd (show b∈([]:List Addr)from z) (by simp)
 refine⟨⟨O.mod,S.kind,rfl,rfl,aN _,λy z c h1 h2=>?_,λy Y=>?_,λy c _ h=>?_,λ_=>.inl hd,λ_=>hd,Around.frames_deeper O.frames,.inr ⟨rfl,rfl⟩,λb z=>absurd z (Z b),O.bs,O.bsz,λb _ _=>Z b,λb z=>absurd z (Z b),O.funs,O.frf⟩,
  rfl,O.bare,Un.kept U,⟨_,x.toInCall.ns,λi y v h1 h2 h3=>?_⟩,λy c h=>⟨_,x.cell y c h⟩,O.hok.fresh (aN _),λy c h=>?_,λp W=>absurd (show p∈([]:List (Addr×Obj))from W) (by simp),O.hok.kept U,?_⟩
 .exact name_of_addr x.apart (aap h1) (aap h2)
 .have Y:=Y;rcases Y with Y|Y
  .exact Fg Y
  .exact absurd rfl (S.nofree _ (aap Y))
 .exact fU (x.above y c (aap h))
 .have hi:i<vs.length:=by
   unfold start at h2;by_cases hi:i<vs.length
   .exact hi
   .rw[bT (by simpa using hi)]at h2;rw[cJ]at h2;split at h2<;>cases h2
  have ha:vs[i]?=some v:=by
   unfold start at h2;rw[bU (by simpa using hi),aF]at h2
   cases e:vs[i]? with
   |none=>rw[e]at h2;cases h2
   |some a=>rw[e]at h2;cases h2;rfl
  obtain⟨u,V,T⟩:=r.get ha;have W:ps[i]?=some y:=by
   rwa[<-S.pre,List.getElem?_take_of_lt (by lia)]
  have X:ps.Nodup:=by rw[<-S.pre];exact S.nd.sublist (u6 _ _)
  refine⟨u,T,?_⟩;rcases S.par y (cY W)with k|k
  .exact .inl ⟨k,tG X W V k⟩
  .obtain⟨c,e⟩:=Fg (n:=s.heap.objs.size+1) k;refine .inr ⟨.inl k,c,e,?_⟩;have q:=x.cell y c e;rwa[Bf X W V (by show scope.names.lookup y≠_;rw[k];decide)]at q
 .exact O.hok.fresh (fU (x.above y c (aap h)))
 .unfold start;show _=N.length;rw[aV,ak,bM];lia
theorem Pu{CX:CXT}{k:Nat}{name:Str}{params:gd}{body:List et}{scope:eL}{kV:Value}
 {sp:Sp} (lk:K.lookup f=some ⟨oc,od,.func (aac name qual params body scope dV kV doc pm an cdv ct),osl⟩) (hcd:aah K cdv qual=true) (S:FnScope N ps scope)
 (len:∀vs H Q E,sp vs H Q E->vs.length=ps.length)
 (O:∀(A:dQ)(outer:List Env)(s:dv)(H:Hp)(vs:List V)(Q:VK)(E:XK),Room k (A.deeper (envOfC qual scope s.heap.objs.size f cdv))->sp vs H Q E ->
  ∃t,PSs (nQ CX P w K mg base N qual scope f cdv A outer s H E) body t/\t {nx:=λ_ H'=>Q .non H',rt:=Q} (start N vs) H):
 FnOk P w K mg base CX (k+1) f (aac name qual params body scope dV kV doc pm an cdv ct) ps sp:=by
 refine⟨len,λA outer s H args us vs Q E M U hb r Y=>?_⟩;have D:=len _ _ _ _ Y;have L:K.In s.heap:=U.mod.kin.keeps λb o e=>(U.bs b o e).1
 have R:s.heap.NoLimit:=U.mod.nolimit.keeps λb o e=>(U.bs b o e).1
 have Z:∀y∈ps.zip us,scope.names.lookup y.1=some .local\/(scope.names.lookup y.1=some .cell/\((cellsFrom (s.heap.objs.size+1) scope.names []).lookup y.1).isSome=true):=λ⟨n,v⟩ G=>by
  rcases S.par n (jH G).1 with q|q
  .exact .inl q
  .exact .inr ⟨q,aar _ _ _ (.inl q)⟩
 refine cr M.depth (L _ _ lk) rfl S.co S.gen rfl (aaK L hcd) (hb _ _ _ _ ?_);refine bX S.kind Z λenv C s1 x=>?_
 subst C;refine⟨R.keeps x.toInCall.keep,codeAny_func ?_⟩;obtain⟨t,F,hq⟩:=O A outer s H vs Q E (M.deeper _) Y;have I:Inv (nQ CX P w K mg base N qual scope f cdv A outer s H E) [] (start N vs) H s1:=Bg S M.hd U D r x;refine av (F [] s1 (start N vs) H _ I hq) (λfl s' hs=>?_) λe s' hs=>hs
 have X:∀{σ':St}{H':Hp}{v:V}{u:Value},Inv (nQ CX P w K mg base N qual scope f cdv A outer s H E) [] σ' H' s'->RelV v u->Q v H'->CE outer P w H s Q u s':=
  λ{σ' H' v u} J T q=>⟨v,H',J.os,J.bare,J.base,J.hok,T,q⟩
 cases fl with
 |ret u=>
  obtain⟨v,σ',H',J,T,q⟩:=hs;exact X J T q
 |next=>
  obtain⟨σ',H',J,q⟩:=hs;exact X (v:=V.non) (u:=d5) J rfl q
 |brk=>
  obtain⟨_,_,_,q⟩:=hs;exact eB q
 |cont=>
  obtain⟨_,_,_,q⟩:=hs;exact eB q
section
variable{X:Cx}{t:TA}{id T:String}{r:List V->Hp->VK->Prop}
def tCB(r:List V->Hp->VK->Prop)(t:TA):TE:=λσ H Q=>t σ H λvs H1=>r vs H1 Q
def yG(hc:mK X (.builtin id) r)(Z:Gl X x)(hm:X.mg x=none)(Y:bootBuiltins x=some (.builtin id))(ha:PA X (e::es) t)(hn:x≠"__name__" := by decide)(U:(x==("__debug__":Str))=false:=by decide)
 (he:starEach (e::es) X.env=(false,eval e X.env)::starEach es X.env:=by rfl) (O:(backTo pos (starEach es X.env)).any (·.1)=false:=by rfl):PE X (.Call (.Name x p) (e::es) [] pos) (tCB r t):=by
 intro pins s σ H Q I h;refine ay (oG I Z hm Y ?_ hn U);exact PyProof.Rows.callWith_builtin1 (thn (ha pos pins s σ H _ I h) λus s1 ⟨vs,H1,W,r1,q1⟩=>hc pins s1 σ H1 vs us Q W r1 q1) he O
def jT(hc:mK X (.type T) r)(Z:Gl X x)(hm:X.mg x=none)(Y:bootBuiltins x=some (.type T))(ha:PA X (e::es) t)(hn:x≠"__name__" := by decide)(U:(x==("__debug__":Str))=false:=by decide)
 (he:starEach (e::es) X.env=(false,eval e X.env)::starEach es X.env:=by rfl) (O:(backTo pos (starEach es X.env)).any (·.1)=false:=by rfl):PE X (.Call (.Name x p) (e::es) [] pos) (tCB r t):=by
 intro pins s σ H Q I h;refine ay (oG I Z hm Y ?_ hn U);exact er (thn (ha pos pins s σ H _ I h) λus s1 ⟨vs,H1,W,r1,q1⟩=>hc pins s1 σ H1 vs us Q W r1 q1) he O
end
end L2
namespace HT
section
open PySem.SeqAt
open PySem.AutoSeq1 (wpAny_loadPart')
open PySem.MeetsSeq PySem.MeetsSeq2 PySem.MeetsSeq3
end
section
variable{prog:dA}{E:Value->dv->Prop}
noncomputable def sIx(n d:Nat):Option Int->Nat
 |none=>d
 |some v=>if v<0 then(v+(n:Int)).toNat else min v.toNat n
end
end HT
namespace L2
abbrev TO:=St->Hp->(Option Int->Hp->Prop)->Prop
def PO(X:Cx)(e:Option Expr)(t:TO):Prop:=
 ∀(pins:List (Addr×Obj))(s:dv)(σ:St)(H:Hp)(Q:Option Int->Hp->Prop),Inv X pins σ H s->t σ H Q ->
  wpAny (model X.prog X.w) X.A (evalPart e X.env) (λu s'=>∃o H',Inv X pins σ H' s'/\IsPart u o/\Q o H') X.xe s
def U0:TO:=λ_ H Q=>Q none H
def af9(t:TE):TO:=λσ H Q=>t σ H λx H1=>∃i,x=.int i/\Q (some i) H1
section
variable{X:Cx}{te:TE}{lo hi:Option Expr}{tl th:TO}
def U3:PO X none U0:=by
 intro pins s σ H Q I h;rw[evalPart_none];exact ag ⟨none,H,I,.none,h⟩
def U4(h:PE X e te):PO X (some e) (af9 te):=by
 intro pins s σ H Q I hw;rw[evalPart_some];refine thn (h pins s σ H _ I hw) λu s1 ⟨x,H1,Z,r1,q1⟩=>?_
 obtain⟨i,rfl,q⟩:=q1;obtain⟨t,rfl⟩:=r1;exact⟨some i,H1,Z,.int i t,q⟩
def SlR(X:Cx)(r:V->Option Int->Option Int->Hp->VK->Prop):Prop:=
 ∀(pins:List (Addr×Obj))(s:dv)(σ:St)(H:Hp)(x:V)(v Y Z:Value)(lo hi:Option Int)(sl:Addr)(Q:VK),Inv X pins σ H s->RelV x v->s.heap.IsSliceOf sl Y Z .none->IsPart Y lo->IsPart Z hi->r x lo hi H Q ->
  ∃T id,typeLookup (.type T) "__getitem__"=pure (some (.builtin id))/\s.TypeIs v T/\wpAny (model X.prog X.w) X.A (getItem v (.ref sl)) (EP X pins σ Q) X.xe s
noncomputable def tSl(r:V->Option Int->Option Int->Hp->VK->Prop)(te:TE)(tl th:TO):TE:=λσ H Q=>te σ H λx H1=>tl σ H1 λl H2=>th σ H2 λu Z=>r x l u Z Q
def Px(hr:SlR X r)(he:PE X e te)(hl:PO X lo tl)(O:PO X hi th):PE X (.Subscript e (.Slice lo hi none p2) pos) (tSl r te tl th):=by
 intro pins s σ H Q I h;refine Subscript_ (thn (he pins s σ H _ I h) λv s1 ⟨x,H1,J,r1,q1⟩=>?_);refine wpAny_Slice (thn (hl pins s1 σ H1 _ J q1) λW s2 ⟨l,H2,K,pl,q2⟩=>thn (O pins s2 σ H2 _ K q2) λY Z ⟨u,U,L,S,q3⟩=>?_);rw[evalPart_none];refine ag ?_;have M:Inv X pins σ U {Z with heap:=Z.heap.push {cls:=.type "slice", data:=.fields #[W,Y,.none]} }:=L.kept (t':=Z.toks) λb G q=>ae _ q
 obtain⟨T,id,N,R,P⟩:=hr pins {Z with heap:=Z.heap.push {cls:=.type "slice", data:=.fields #[W,Y,.none]} } σ U x v W Y l u Z.heap.objs.size Q M r1 (Heap.IsSliceOf.new ..) pl S q3;exact tail_any (ops:=[.ref Z.heap.objs.size,v]) R N P (by with_unfolding_all rfl)
def M8(xs:List V)(lo hi:Option Int):List V:=(xs.drop (HT.sIx xs.length 0 lo)).take (HT.sIx xs.length xs.length hi-HT.sIx xs.length 0 lo)
def Fi(xs:List V)(lo hi:Option Int):(M8 xs lo hi).length<=xs.length:=by
 unfold M8;rw[iD,List.length_drop];lia
end
noncomputable def ixN(n:Nat)(i:Int):Option Nat:=if 0<=i then(if i<n then some i.toNat else none)else if -(n:Int)<=i then some (i+n).toNat else none
def atI(xs:List α)(i:Int):Option α:=(ixN xs.length i).bind λj=>xs[j]?
def U5(h:ixN n c=some d):seqIndex? c n=some d/\d<n/\-(n:Int)<=c/\c<n:=by
 unfold ixN at h;by_cases Z:0<=c
 .rw[if_pos Z]at h;by_cases h1:c<n
  .rw[if_pos h1]at h;have e:=cG.inj h;exact⟨by rw[seqIndex_of Z h1,e],by lia,by lia,h1⟩
  .rw[if_neg h1]at h;cases h
 .rw[if_neg Z]at h;by_cases h1 : -(n:Int)<=c
  .rw[if_pos h1]at h;have e:=cG.inj h;exact⟨by rw[seqIndex_neg (by lia) h1,e],by lia,h1,by lia⟩
  .rw[if_neg h1]at h;cases h
theorem Cd(h:atI c d=some k):∃j,seqIndex? d c.length=some j/\c[j]?=some k/\j<c.length/\-(c.length:Int)<=d/\d<c.length:=by
 unfold atI at h
 cases e:ixN c.length d with
 |none=>rw[e]at h;cases h
 |some j=>
  rw[e]at h;obtain⟨h1,h2,h3,h4⟩:=U5 e;exact⟨j,h1,h,h2,h3,h4⟩
def j6(b:Expr):Prop:=∀o i,subscripted b false o i=operate [o,i] (getItem o i)
def IxR(X:Cx)(r:R2):Prop:=
 ∀(value slice:Expr)(pins:List (Addr×Obj))(s:dv)(σ:St)(H:Hp)(x y:V)(v u:Value)(Q:VK),Inv X pins σ H s->RelV x v->RelV y u->r x y H Q ->
  subscripted slice false v u=operate [v,u] (getItem v u)->wpAny (model X.prog X.w) X.A (subscriptTail value slice v u) (EP X pins σ Q) X.xe s
def MtR(X:Cx)(id:String)(r:V->List V->Hp->VK->Prop):Prop:=
 ∀(pins:List (Addr×Obj))(s:dv)(σ:St)(H:Hp)(x:V)(xs:List V)(v:Value)(us:List Value)(Q:VK),Inv X pins σ H s->RelV x v->Vals xs us->r x xs H Q ->
  wpAny (model X.prog X.w) X.A (call (.builtin id) (v::us)) (EP X pins σ Q) X.xe s
section
variable{X:Cx}{a b:Expr}{ta tb:TE}
def IxR.or(h:IxR X r)(h':IxR X O):IxR X (λx y H Q=>r x y H Q\/O x y H Q):=by
 intro value slice pins s σ H x y v u Q I Y Z q hs;rcases q with q|q
 .exact h value slice pins s σ H x y v u Q I Y Z q hs
 .exact h' value slice pins s σ H x y v u Q I Y Z q hs
def vh(O:IxR X r)(ha:PE X a ta)(hb:PE X b tb)(hs:j6 b):PE X (.Subscript a b pos) (tOp r ta tb):=by
 intro pins s σ H Q I h;exact Subscript_ (Ys ha hb I h λv u s2 x y H2 W Y Z q=>O a b pins s2 σ H2 x y v u Q W Y Z q (hs _ _))
def ag0(K:aaa):R2:=λx y H Q=>∃p xs i v,x=.ref p/\y=.int i/\SqL K H p xs/\atI xs i=some v/\Q v H
def ag1(K:aaa):R2:=λx y H Q=>∃p xs i v,x=.ref p/\y=.int i/\SqT K H p xs/\atI xs i=some v/\Q v H
def ag2:R2:=λx y H Q=>∃z i c,x=.str z/\y=.int i/\z.length<=sizeLine/\atI z.cps.toList i=some c/\Q (.str ⟨#[c]⟩) H
def U6:IxR X (ag0 X.K):=by
 intro value slice pins s σ H x y v u Q I S T h hs;obtain⟨p,xs,i,z,rfl,rfl,hq,P,q⟩:=h
 cases S;obtain⟨t,rfl⟩:=T;obtain⟨its,r,pl,O⟩:=I.list hq;obtain⟨j,h1,h2,h3,h4,h5⟩:=Cd P;obtain⟨w,U,Y⟩:=r.get h2;have R:=r.length;have hn:=yF;have Z:EP X pins σ Q w s:=⟨z,H,I,Y,q⟩;by_cases V:0<=i
 .have W:i.toNat=j:=by
   rw[seqIndex_of V h5]at h1;exact cG.inj h1
  exact item_listR pl.isList V (by lia) (by rw[W];simpa using U) Z hs
 .have W:(i+(its.toArray.size:Int)).toNat=j:=by
   rw[seqIndex_neg (by lia) h4]at h1;rw[bQ,<-R];exact cG.inj h1
  exact subscriptTail_builtinR (x:=w) pl.isList.typeIs slot_list_getitem.lookup
   (wpAny_getItem_list_neg (Q:=λr s'=>r=w/\EP X pins σ Q r s') pl.isList (by lia) (by rw[bQ]<;>lia) (by lia) (by rw[W];simpa using U) ⟨rfl,Z⟩) hs
def Yz:IxR X (ag1 X.K):=by
 intro value slice pins s σ H x y v u Q I V W h hs;obtain⟨p,xs,i,z,rfl,rfl,hq,T,q⟩:=h
 cases V;obtain⟨t,rfl⟩:=W;obtain⟨its,r,pl,R⟩:=I.tuple hq;obtain⟨j,h1,h2,h3,h4,h5⟩:=Cd T;obtain⟨w,S,Z⟩:=r.get h2;have U:=r.length;have hn:=yF;have Y:EP X pins σ Q w s:=⟨z,H,I,Z,q⟩;exact subscriptTail_builtinR (x:=w) pl.typeIs slot_tuple_getitem.lookup
  (getItem_tuple (j:=j) (Q:=λr s'=>r=w/\EP X pins σ Q r s') pl (by lia) (by lia) (by rwa[bQ,<-U]) (by simpa using S) ⟨rfl,Y⟩) hs
def Py:IxR X ag2:=by
 intro value slice pins s σ H x y v u Q I Y Z h hs;obtain⟨z,i,c,rfl,rfl,R,V,q⟩:=h;obtain⟨t,rfl⟩:=Y;obtain⟨S,rfl⟩:=Z;obtain⟨j,h1,h2,h3,h4,h5⟩:=Cd V;have W:z.cps.toList.length=z.length:=by simp[Str.length]
 rw[W]at h1 h4 h5;have hn:=yF;exact tail_any (typeIs_str s z t) slot_str_getitem.lookup (getItem_str (c:=c) (by
  have T:decide (i < -(2^63:Int))=false:=dFa (by lia);have U:decide (i≥2^63)=false:=dFa (by lia);rw[T,U,Bool.or_false]) (by rw[h1];simpa using h2) ⟨.str ⟨#[c]⟩,H,I.tok _,⟨_,rfl⟩,q⟩) hs
def rIx(K:aaa):R2:=λx y H Q=>ag0 K x y H Q\/ag1 K x y H Q\/ag2 x y H Q
def rP:IxR X (rIx X.K):=U6.or (Yz.or Py)
def Inv.lst{σ:St}{H:Hp}{p:Addr}(I:Inv X pins σ H s)(h:H p=some (.lst xs)):
 ∃(its:List Value)(n:Nat),Vals xs its/\s.heap.get? p=some {cls:=.type "list", data:=.seq its.toArray n}/\xs.length<=sizeLine:=by
 obtain⟨z,its,n,r,e⟩:=I.hok p _ h;exact⟨its,n,r,e,z⟩
def Ce(lo hi:Option Int)(n:Nat):(sliceBounds lo hi none n).1=((HT.sIx n 0 lo:Nat):Int)/\(sliceBounds lo hi none n).2.1=((HT.sIx n n hi:Nat):Int)/\(sliceBounds lo hi none n).2.2=1:=by
 refine⟨?_,?_,rfl⟩
 .cases lo with
  |none=>simp[sliceBounds,HT.sIx]
  |some i=>
   simp only[sliceBounds,HT.sIx,Option.getD_none,show(1:Int)>0 by decide,if_true];by_cases h:i<0
   .simp only[h,if_true]<;>lia
   .simp only[h,if_false]<;>lia
 .cases hi with
  |none=>simp[sliceBounds,HT.sIx]
  |some i=>
   simp only[sliceBounds,HT.sIx,Option.getD_none,show(1:Int)>0 by decide,if_true];by_cases h:i<0
   .simp only[h,if_true]<;>lia
   .simp only[h,if_false]<;>lia
def Ab(its:List Value)(lo hi:Option Int):slicePick its.toArray lo hi none=((its.drop (HT.sIx its.length 0 lo)).take (HT.sIx its.length its.length hi-HT.sIx its.length 0 lo)).toArray:=by
 obtain⟨h1,h2,h3⟩:=Ce lo hi its.toArray.size;unfold slicePick;rw[h1,h2,h3];simp only[sliceRange_one,pick_run,bQ]<;>rfl
def au0(K:aaa):V->Option Int->Option Int->Hp->VK->Prop:=λx lo hi H Q=>∃a xs,x=.ref a/\SqL K H a xs/\∀p,H p=none->Q (.ref p) (upd H p (.lst (M8 xs lo hi)))
def U7:SlR X (au0 X.K):=by
 intro pins s σ H x v T U lo hi sl Q I Y hs pl W h;obtain⟨a,xs,rfl,hx,q⟩:=h
 cases Y;obtain⟨its,r,Z,V⟩:=I.list hx;have hlen:=r.length;refine⟨"list", _,slot_list_getitem.lookup,Z.isList.typeIs,?_⟩;refine wpAny_getItem_list_slice Z.isList hs pl W .none (by simp) ?_ (by rw[bQ]<;>lia);rw[Ab,<-hlen];refine⟨.ref s.heap.objs.size,_,I.laid (t':=s.toks) (o:=.lst (M8 xs lo hi)) (λb S q=>ae _ q) (aN _) ?_,rfl,q _ (I.hok.fresh (aN _))⟩;exact⟨bw (Fi xs lo hi) V,_,0,(r.drop (HT.sIx xs.length 0 lo)).take (HT.sIx xs.length xs.length hi-HT.sIx xs.length 0 lo),ah _ rfl⟩
def cP:mK X (.builtin "len") (λxs H Q=>∃p ys,xs=[.ref p]/\(SqL X.K H p ys\/SqT X.K H p ys)/\Q (.int ys.length) H):=by
 intro pins s σ H xs us Q I r h;obtain⟨p,ys,rfl,hq,q⟩:=h;obtain⟨u,rfl,Y⟩:=vals1 r
 cases Y;have hn:=yF;rcases hq with hq|hq
 .obtain⟨its,Z,pl,W⟩:=I.list hq;have hlen:=Z.length;exact Calls.call_len_list pl.isList (by simp only[bQ]<;>lia) ⟨.int ys.length,H,I.tok _,⟨s.toks+1,by rw[bQ,hlen]⟩,q⟩
 .obtain⟨its,Z,pl,W⟩:=I.tuple hq;have hlen:=Z.length;exact len_tuple pl (by simp only[bQ]<;>lia) ⟨.int ys.length,H,I.tok _,⟨s.toks+1,by rw[bQ,hlen]⟩,q⟩
def Cg:mK X (.builtin "len") (λxs H Q=>∃z,xs=[.str z]/\z.length<=sizeLine/\Q (.int z.length) H):=by
 intro pins s σ H xs us Q I r h;obtain⟨z,rfl,Z,q⟩:=h;obtain⟨u,rfl,t,rfl⟩:=vals1 r;have hn:=yF;exact len_str (by lia) ⟨.int z.length,H,I.tok _,⟨_,rfl⟩,q⟩
def vm:mK X (.type "list") (λxs H Q=>∃p ys,xs=[.ref p]/\(SqL X.K H p ys\/SqT X.K H p ys)/\∀l,H l=none->Q (.ref l) (upd H l (.lst ys))):=by
 intro pins s σ H xs us Q I r h;obtain⟨p,ys,rfl,hq,q⟩:=h;obtain⟨u,rfl,T⟩:=vals1 r
 cases T;have W:∀(its:List Value),Vals ys its->ys.length<=sizeLine->∀(h':eg)(c':Nat),(∀b o',s.heap.get? b=some o'->h'.get? b=some o') ->
  h'.get? s.heap.objs.size=some {cls:=.type "list", dict:=none,data:=.seq its.toArray c',slots:=#[]}->EP X pins σ Q (.ref s.heap.objs.size) {s with heap:=h'}:=λits Z Y h' c' kp e=>
  ⟨.ref s.heap.objs.size,_,I.laid (t':=s.toks) kp (aN _) (show gO X.prog X.w _ h' _ (.lst ys)from⟨Y,its,c',Z,e⟩),rfl,q _ (I.hok.fresh (aN _))⟩
 rcases hq with hq|hq
 .obtain⟨its,Z,pl,Y⟩:=I.list hq;have hlen:=Z.length;obtain⟨o,V,U,n,hd⟩:=pl.isList;exact call_list_seq p (.inl rfl) V U hd (λh' c' kp e=>W its Z Y h' c' kp e) (by simp only[bQ]<;>lia)
 .obtain⟨its,Z,pl,Y⟩:=I.tuple hq;have hlen:=Z.length;obtain⟨o,V,U,n,hd⟩:=pl;exact call_list_seq p (.inr rfl) V U hd (λh' c' kp e=>W its Z Y h' c' kp e) (by simp only[bQ]<;>lia)
def tyV(K:aaa)(T:String)(x:V)(H:Hp):Prop:=match x with
 |.str _=>T="str"
 |.int _=>T="int"
 |.ref p=>(T="list" /\ ∃xs,SqL K H p xs)\/(T="tuple" /\ ∃o,K.lookup p=some o/\o.cls=.type "tuple"/\o.dict=none) \/
  (T="dict"/\((∃kvs,H p=some (.dK kvs))\/∃kvs,H p=some (.dT kvs)))\/(T="set" /\ ∃S n,H p=some (.set S n))
 |_=>False
theorem YB(I:Inv X d σ H s)(r:RelV k m)(ty:tyV X.K T k H):
 s.TypeIs m T/\∀a,m=.ref a->∃O,s.heap.get? a=some O/\O.dict=none:=by
 cases k with
 |str z=>
  obtain⟨t,rfl⟩:=r
  cases(show T="str"from ty);exact⟨typeIs_str s z t,λ_ e=>nomatch e⟩
 |int i=>
  obtain⟨t,rfl⟩:=r
  cases(show T="int"from ty);exact⟨typeIs_int s i t,λ_ e=>nomatch e⟩
 |ref p=>
  cases r;rcases ty with⟨rfl,xs,hq⟩|⟨rfl,o,Z,W,hd⟩|⟨rfl,Z⟩|⟨rfl,S,n,Z⟩
  .obtain⟨its,_,pl,_⟩:=I.list hq;refine⟨pl.isList.typeIs,λa e=>?_⟩
   cases e;obtain⟨o,n,e,c,hd,_⟩:=pl;exact⟨o,e,hd⟩
  .refine⟨⟨o,I.kIn p o Z,W⟩,λa e=>?_⟩
   cases e;exact⟨o,I.kIn _ o Z,hd⟩
  .have z:∃o,s.heap.get? p=some o/\o.ExactDict:=by
    rcases Z with⟨kvs,Z⟩|⟨kvs,Z⟩
    .obtain⟨_,_,_,_,o,_,_,e,ex,_⟩:=I.hok p _ Z;exact⟨o,e,ex⟩
    .obtain⟨_,_,_,_,o,_,_,e,ex,_⟩:=I.hok p _ Z;exact⟨o,e,ex⟩
   obtain⟨o,e,ex⟩:=z;refine⟨⟨o,e,ex.1⟩,λa Y=>?_⟩
   cases Y;exact⟨o,e,ex.2.1⟩
  .obtain⟨o,_,_,_,e,ex,_⟩:=I.hok p _ Z;refine⟨⟨o,e,ex.1⟩,λa Y=>?_⟩
   cases Y;exact⟨o,e,ex.2.1⟩
 |_=>exact eB ty
noncomputable def tBM(K:aaa)(T:String)(r:V->List V->Hp->VK->Prop)(to:TE)(t:TA):TE:=λσ H Q=>to σ H λx H1=>tyV K T x H1/\t σ H1 λxs H2=>r x xs H2 Q
variable{o:Expr}{to:TE}{t:TA}{name:Str}{T id:String}{r:V->List V->Hp->VK->Prop}
def Fj(pa:PlainAttrs T)(slot:Slot T name id)(hty:typeOf (.builtin id)=pure (.type "method_descriptor"))(hm:MtR X id r)(ho:PE X o to)(ha:PA X (e::es) t)
 (Y:attributeBase o name X.env (eval o X.env)=eval o X.env:=by rfl)
 (Z:((backTo cpos (starEach (e::es) X.env)).all (λx=>!x.1)&&(backToKw cpos (keywordEach [] X.env)).all (λx=>x.1.isSome)
  && decide ((e::es).length+([]:List eM).length+(if([]:List eM).isEmpty then 0 else 1)<30))=true:=by rfl)
 (U:(apos.endLine==cpos.line)=true:=by rfl) (hs:starEach (e::es) X.env=(false,eval e X.env)::starEach es X.env:=by rfl) (O:(backTo cpos (starEach es X.env)).any (·.1)=false:=by rfl):
 PE X (.Call (.Attribute o name apos) (e::es) [] cpos) (tBM X.K T r to t):=by
 intro pins s σ H Q I h;refine wpAny_Call_method_late Y Z U rfl (thn (ho pins s σ H _ I h) λv s1 ⟨x,H1,V,r1,ty,q1⟩=>?_);obtain⟨h1,h2⟩:=YB V r1 ty;refine⟨T,id,pa,slot,hty,h1,h2,?_⟩;have W:=ha cpos pins s1 σ H1 _ V q1;rw[hs]at W ⊢;refine aS (by show(false||(backTo cpos (starEach es X.env)).any (·.1))=false;rw[O]<;>rfl) (cb ?_);exact thn W λus s2 ⟨vs,H2,S,r2,q2⟩=>hm pins s2 σ H2 x vs v us Q S r1 r2 q2
/- xs.append(e),list.index on a module's tuple .. are MtR facts of 06m -/
end
def MtM(X:Cx)(id:String)(r:V->List V->Hp->VK->Prop):Prop:=
 ∀(pins:List (Addr×Obj))(s:dv)(σ:St)(H:Hp)(x:V)(xs:List V)(v:Value)(us:List Value)(Q:VK),Inv X pins σ H s->RelV x v->Vals xs us->r x xs H Q ->
  wpAny (model X.prog X.w) X.A (call (.builtin id) (v::us)) (EP X pins σ Q) X.xe s
theorem Vals.one:∀{x:V}{us:List Value},Vals [x] us->∃u,us=[u]/\RelV x u
 |_,_,.cons r .nil=>⟨_,rfl,r⟩
theorem Vals.zero:∀{us:List Value},Vals [] us->us=[]
 |_,.nil=>rfl
theorem Vals.dropLast(h:Vals c us):Vals c.dropLast us.dropLast:=by
 induction h with
 |nil=>exact .nil
 |cons r t Z=>
  cases t with
  |nil=>exact .nil
  |cons q Y=>exact .cons r Z
theorem Vals.reverse(h:Vals c us):Vals c.reverse us.reverse:=by
 induction h with
 |nil=>exact .nil
 |cons r t Z=>rw[ji,ji];exact Vals.append Z (.cons r .nil)
section
variable{X:Cx}{σ:St}{H:Hp}{l:Addr}{ys zs:List V}
def Inv.lset{its its':List Value}(I:Inv X pins σ H s)(Y:H l=some (.lst xs))
 (e:s.heap.get? l=some {cls:=.type "list", data:=.seq its.toArray n}) (U:c its.toArray=its'.toArray) (O:Vals ys its') (hz:ys.length<=sizeLine):
 Inv X pins σ (upd H l (.lst ys)) {s with heap:=s.heap.update l (eI c),toks:=t'}:=by
 have q:=PySem.IsL.update e c;rw[U]at q;refine I.write (x:=l) (e:=l) (by rw[Y];exact trivial) (.inl rfl) (λW u hb Z=>(am s.heap (eI c) (dL hb)).trans Z) ⟨_,q⟩ ?_;exact⟨hz,its',_,O,q⟩
def Inv.lnew(I:Inv X pins σ H s)(O:Vals ys its)(hz:ys.length<=sizeLine):
 Inv X pins σ (upd H s.heap.objs.size (.lst ys)) {s with heap:=s.heap.push {cls:=.type "list", data:=.seq its.toArray},toks:=t'}:=
 I.laid (λ_ _ q=>ae _ q) (aN _) ⟨hz,its,0,O,ah _ rfl⟩
def Inv.fresh(I:Inv X pins σ H s):H s.heap.objs.size=none:=I.hok.fresh (aN _)
def Inv.lstM(I:Inv X pins σ H s)(O:H l=some (.lst xs)):xs.length<=sizeLine/\∃(its:List Value)(n:Nat),Vals xs its/\xs.length=its.length/\s.heap.get? l=some {cls:=.type "list", data:=.seq its.toArray n}:=by
 obtain⟨z,its,n,r,e⟩:=I.hok l _ O;exact⟨z,its,n,r,r.length,e⟩
end
section
variable{X:Cx}
def J_:V->List V->Hp->VK->Prop:=λx vs H Q=>∃l xs y,x=.ref l/\vs=[y]/\H l=some (.lst xs)/\xs.length<sizeLine/\Q .non (upd H l (.lst (xs++[y])))
def mV:MtM X "list.append" J_:=by
 intro pins s σ H x vs v us Q I Y W h;obtain⟨l,xs,y,rfl,rfl,Z,U,q⟩:=h
 cases Y;obtain⟨u,rfl,V⟩:=W.one;obtain⟨z,its,n,r,T,e⟩:=I.lstM Z;refine call_meets F.slot_list_append ⟨_,e,rfl⟩ F.entry_list_append (F.args_list_append_2 _ _) (PySem.list_append l its.toArray n u (by rw[bQ];lia)) ⟨e,?_⟩;refine⟨.non,_,I.lset (its':=its++[u]) Z e (by simp) (r.append (.cons V .nil)) ?_,rfl,q⟩;rw[aV,jg];lia
end
section
variable{prog:dA}{E:Value->dv->Prop}
set_option maxRecDepth 100000 in
end
section
variable{X:Cx}
end
end L2
variable{YP:d4->eg->Prop}
namespace Att
open PySem.W PySem.Calls
theorem xG:∀(ns:List Int)(vs:List Value),WellAll c h vs (ns.map WData.int)->fT vs ns:=by
 intro ns
 induction ns with
 |nil=>
  intro vs w;rw[cO]at w
  cases w;exact .nil
 |cons n ns Z=>
  intro vs w;rw[aD]at w
  cases w with
  |cons a b=>
   cases a;exact .cons _ _ (Z _ b)
theorem M9{l:OpenLaw}(hn:l.most=some n){P:Params}{h:eg}{args:List WData}{vals:List Value}
 (O:l.row.toRowW.claim.pre args=true) (U:WellAll P h vals args):
 ∃a vs ns,vals=[dE a]/\args=[WData.list (ns.map WData.int)]/\h.get? a=some {cls:=.type "list", data:=.seq vs.toArray}/\fT vs ns/\ns.length<=n:=by
 have Y:=(pre_splitW O).1;have S:=(pre_splitW O).2;obtain⟨d,r,rfl,h1,h2⟩:=hasAllW_cons Y;obtain rfl:=hasAllW_nil h2;obtain⟨xs,rfl,h3⟩:=hasW_list h1;obtain⟨ns,rfl⟩:=items_int h3;have hlen:ns.length<=n:=by
  have h4:(WTm.not (.lt (.lit (.int (n:Int))) (.len (.arg 0)))).holds [] {args:=[.list (ns.map .int)]}=true:=by
   have h4:=(holds_andW S).1;rwa[hn]at h4
  have h5:=condW_of h4 (w_not (w_lt w_lit (w_len_list (w_arg rfl))));rw[ak]at h5;refine Nat.le_of_not_lt λq=>?_
  have V:(n:Int)<((ns.length:Nat):Int):=by lia
  first
   | (rw[dTr V]at h5;exact absurd h5 (by decide))
   | (simp at h5;lia)
 cases U with
 |cons W X=>
  cases X
  cases W with
  |list T Z=>exact⟨_,_,ns,rfl,rfl,T,xG ns _ Z,hlen⟩
def M_(l:OpenLaw)(args:List WData):l.row.toRowW.claim.post args (.bool true) args=true:=
 postW_of (r:=l.row.toRowW) (X:=(true==true))
  (show WShape.has [] (.bool true) .bool=true by first|rfl|decide|simp[WShape.has,WShape.arms,WShape.armsAll])
  (show(WTm.eq .res (.lit (.bool true))).value [] {args:=args,res:=some (.bool true),after:=args}=some (.bool (true==true))from w_eq_bool (w_res rfl) w_lit) rfl
def Fp{l:OpenLaw}{d:DefRec}
 (hn:l.most=some n) (hdf:d.params.defaults=[])
 (call:∀(w:d4)(s₀ O:dv)(mg U:Str->Option Value)(fa:Addr)(o:Obj)(pm cd doc:Value)(a:Addr)(vs:List Value)(ns:List Int),
  Ground q loose [] c w s₀ mg U O.heap->YP w O.heap ->
  O.heap.get? fa=some o->o.data=.func (docDef d.name d.params d.body d.scope pm cd doc)->O.heap.CodeRec cd d.name->mg d.name=some (.ref fa) ->
  O.heap.get? a=some {cls:=.type "list", data:=.seq vs.toArray}->fT vs ns->ns.length<=n->O.gens = #[] ->
  codeAny (model l.prog w) callerA (.call (.ref fa) ⟨[.ref a],[]⟩) (λr s'=>r=.ok (.ret (.bool true))/\OldK O.heap s'.heap/\s'.os=O.os/\fy s'.gens) O):
 WalkO q loose c YP l.row.toRowW d [] (λf vs=>aax f vs):=by
 intro w s₀ O mg U G Y fa o pm cd doc dV kV R hd hcd hD V P args vals as Z T S W Q;obtain rfl:dV=.none:=Dflts.none hD hdf;obtain rfl:kV=.none:=Dflts.noKw hD;obtain⟨a,vs,ns,rfl,rfl,X,hints,hlen⟩:=M9 hn Z W;refine enter_call (b8 (call w s₀ O mg U fa o pm cd doc a vs ns G Y R (fd_plain hd) hcd V X hints hlen P) λr s' hq=>?_);obtain⟨rfl,h2,h3,h4⟩:=hq;exact⟨.inl ⟨.bool true,.bool true,[],rfl,λ_=>rfl,.bool true,M_ l _,λ_=>⟨List.Pairwise.nil,λ_ hm=>(nomatch hm)⟩⟩,h2,h3,h4⟩
section
variable{prog:dA}{E:Value->dv->Prop}{K:Frag}
end
end Att
variable{CX:L2.CXT}{sp:L2.Sp}{ns:List Int}
namespace L2
theorem oY:∀{vs:List Value}{ns:List Int},fT vs ns->Vals (ns.map V.int) vs
 |_,_,.nil=>.nil
 |_,_,.cons n t h=>.cons ⟨t,rfl⟩ (oY h)
def Only(H:Hp):Prop:=∀b,H b=none\/∃o xs,H b=some (.frz o (.lst xs))
noncomputable def Fq(ts:List (Addr×Str×Pos))(H:Hp):Hp:=λb=>match ts.find? (λt=>t.1==b)with
 |some t=>some (.tbl t.2.1 t.2.2)
 |none=>H b
theorem Pz(ts:List (Addr×Str×Pos))(H:Hp)(b:Addr):(Fq ts H b=H b/\∀t∈ts,t.1≠b)\/∃t∈ts,t.1=b/\Fq ts H b=some (.tbl t.2.1 t.2.2):=by
 unfold Fq
 cases e:ts.find? (λt=>t.1==b)with
 |none=>exact .inl ⟨rfl,λt Z z=>by have:=m9.mp e t Z;simp[z]at this⟩
 |some t=>
  have h1:=nP e;have h2:=List.find?_some e;exact .inr ⟨t,h1,by simpa using h2,rfl⟩
theorem PB{mb:Str->Option Value}{k:Nat}{fa:Addr}{O:dv}{vs:List Value}
 (KX:K.In O.heap) (hns:O.heap.Ns mainGlobals mg) (hb:O.heap.Ns builtinsNs mb) (hbb:∀x:Str,x≠"__name__"->mb x=bootBuiltins x) (hlim:O.heap.NoLimit) (hbm:∃bm ob,mg "__builtins__"=some (.ref bm)/\bm≠builtinsNs/\O.heap.get? bm=some ob/\ob.cls=.type "module"/\ob.dict=some builtinsNs/\ob.data=.plain) (hg:O.gens = #[])
 (ha:O.heap.get? a=some {cls:=.type "list", data:=.seq vs.toArray}) (hi:fT vs ns) (hl:ns.length<=sizeLine) (hr:Room k callerA)
 (F:∀base:eg,K.In base->base.Ns mainGlobals mg->FnOk P w K mg base CX k fa fd [x] sp) (hbind:∀(s:dv)(u:Value),BindsTo s fd ⟨[u],[]⟩ [(x,u)])
 (ts:List (Addr×Str×Pos)) (U:∀t∈ts,O.heap.get? t.1=some {cls:=.none,data:=.fields #[]}) (hCT:∀t∈ts,isCodeTable O.heap t.1) (hKt:∀t∈ts,K.lookup t.1=none) (htu:∀t∈ts,∀t'∈ts,t.1=t'.1->t=t')
 (hsp:∀H:Hp,(∀t∈ts,H t.1=some (.tbl t.2.1 t.2.2))->SqL K H a (ns.map V.int)->sp [.ref a] H (λv _=>v=.bl true) λ_ _ _=>False)
 (hCX:∀H e s',CX [] H O (λ_ _ _=>False) e s'->False):
 codeAny (model P w) callerA (.call (.ref fa) ⟨[.ref a],[]⟩) (λr s'=>r=.ok (.ret (.bool true))/\OldK O.heap s'.heap/\s'.os=O.os/\fy s'.gens) O:=by
 have rv:=oY hi;have I:=hi.length;have core:∀H:Hp,(∀b,H b=none\/(∃o xs,H b=some (.frz o (.lst xs)))\/∃t∈ts,t.1=b/\H b=some (.tbl t.2.1 t.2.2))->(∀t∈ts,H t.1=some (.tbl t.2.1 t.2.2))->SqL K H a (ns.map V.int)->HOk P w H O.heap->(∀b,H b≠none->b=a\/∃t∈ts,t.1=b)->(H a≠none->K.lookup a=none) ->
  codeAny (model P w) callerA (.call (.ref fa) ⟨[.ref a],[]⟩) (λr s'=>r=.ok (.ret (.bool true))/\OldK O.heap s'.heap/\s'.os=O.os/\fy s'.gens) O:=by
  intro H G hT l hok D j;have Z:∀{b:Addr}{o:Obj},O.heap.get? b=some o->H b=none->(EY O.heap H).get? b=some o:=λe n=>OJ e n
  have C:∀{b:Addr}{o:Obj}{es:Array DictEntry}{L:Nat},O.heap.get? b=some o->o.data=.dict es L->H b=none:=λ{b o es L} e d=>by
   cases q:H b with
   |none=>rfl
   |some u=>
    rcases D b (by rw[q];simp)with W|⟨t,Y,W⟩
    case inr=>
     subst W;rw[U t Y]at e;cases e;have f:Data.fields #[]=Data.dict es L:=d
     cases f
    subst W;rw[ha]at e;cases e;have f:Data.seq vs.toArray _=Data.dict es L:=d
    cases f
  have S:∀{b:Addr}{m:Str->Option Value},O.heap.Ns b m->(EY O.heap H).Ns b m:=λ{b m} ⟨o,es,L,e,d,r⟩=>⟨o,es,L,Z e (C e d),d,r⟩
  have E:=λb o e=>Z (KX b o e) (by
   cases q:H b with
   |none=>rfl
   |some u=>
    rcases D b (by rw[q];simp)with W|⟨t,Y,W⟩
    .subst W;rw[j (by rw[q];simp)]at e;cases e
    .subst W;rw[hKt t Y]at e;cases e)
  have hM:Mod K mg (EY O.heap H):=⟨E,S hns,⟨mb,S hb,hbb⟩,let⟨mc,h1,h2⟩:=hlim;⟨mc,S h1,h2⟩,let⟨bm,ob,g1,g2,g3,i,g5,g6⟩:=hbm;⟨bm,ob,g1,g2,Z g3 (by
   cases q:H bm with
   |none=>rfl
   |some u=>
    rcases D bm (by rw[q];simp)with W|⟨t,Y,W⟩
    .rw[W,ha]at g3;cases g3;have z:=i;injection z with z
     exact absurd z (by decide)
    .rw[<-W,U t Y]at g3;cases g3
     cases i),i,g5,g6⟩⟩
  have e0:Env0 P w K mg (EY O.heap H) callerA [] O H:=⟨rfl,hM,λb o e=>Us e,u5 (MK _ _),trivial,λb hb=>absurd (show b∈([]:List Addr)from hb) (by simp),hok,.of_eq hg⟩;refine b8 ((F _ E (S hns)).run callerA [] O H ⟨[.ref a],[]⟩ [.ref a] [.ref a] _ _ hr e0 (hbind O (.ref a)) (.cons rfl .nil) (hsp H hT l)) λr s' h=>?_
  cases r with
  |error e=>exact(hCX H e s' h).elim
  |ok fl=>
   cases fl with
   |next=>exact eB h
   |brk=>exact eB h
   |cont=>exact eB h
   |ret u=>
    obtain⟨v,H',os,bare,un,R,r',q⟩:=h;have q':v=.bl true:=q;subst q';obtain rfl:u=eP true:=r';refine⟨rfl,⟨λb o e=>?_,λb o e=>un.there b o e (by simp)⟩,os,bare⟩
    cases q:H b with
    |none=>exact .inl <| un.keep b o e q (by intro z;exact absurd (show b∈([]:List Addr)from z) (by simp)) (by simp)
    |some u=>
     rcases G b with z|⟨ob,xs,z⟩|⟨t,Y,rfl,z⟩
     case inr.inr=>
      have X:=un.tbls _ _ _ z;obtain⟨ps,g,_⟩:=R _ _ X;rw[U t Y]at e;cases e;exact .inr (.inl ⟨hCT t Y,rfl,#[],ps,rfl,by rw[g];simp⟩)
     .rw[q]at z;cases z
     .have X:=un.frzs b ob _ z;obtain⟨e1,_⟩:=hok b _ z;obtain⟨g,_⟩:=R b _ X;rw[e]at e1;cases e1;exact .inl g
 have T:∀H:Hp,Only H->SqL K H a (ns.map V.int)->HOk P w H O.heap->(∀b,H b≠none->b=a)->(H a≠none->K.lookup a=none) ->
  codeAny (model P w) callerA (.call (.ref fa) ⟨[.ref a],[]⟩) (λr s'=>r=.ok (.ret (.bool true))/\OldK O.heap s'.heap/\s'.os=O.os/\fy s'.gens) O:=by
  intro H G l hok D j;have na:∀t∈ts,t.1≠a:=λt Y z=>by
   have X:=U t Y;rw[z,ha]at X
   cases X
  have cs:=Pz ts H;have B:Fq ts H a=H a:=by
   rcases cs a with z|⟨t,Y,z,_⟩
   .exact z.1
   .exact absurd z (na t Y)
  have M:∀b x,H b≠some (.own x):=λb x z=>by rcases G b with y|⟨_,_,y⟩<;>(rw[y]at z;cases z)
  have N:∀b x,H b≠some (.tup x):=λb x z=>by rcases G b with y|⟨_,_,y⟩<;>(rw[y]at z;cases z)
  refine core (Fq ts H) (λb=>?_) (λt Y=>?_) ?_ (λb u z=>?_) (λb z=>?_) (λz=>j (by rwa[<-B]))
  .rcases cs b with z|⟨t,Y,Q,X⟩
   .rcases G b with y|y
    .exact .inl (z.1.trans y)
    .obtain⟨o,xs,y⟩:=y;exact .inr (.inl ⟨o,xs,z.1.trans y⟩)
   .exact .inr (.inr ⟨t,Y,Q,X⟩)
  .rcases cs t.1 with z|⟨t',A,Q,X⟩
   .exact absurd rfl (z.2 t Y)
   .have:=htu t' A t Y Q;subst this;exact X
  .rcases l with(z|⟨o,z⟩)|z
   .exact .inl (.inl (by rwa[B]))
   .exact .inl (.inr ⟨o,by rwa[B]⟩)
   .exact .inr z
  .rcases cs b with y|⟨t,Y,Q,X⟩
   .rw[y.1]at z;exact(hok b u z).stay (λ_ _ _ q=>q) (λc q=>absurd q (M c b)) λc xs q=>absurd q (N c xs)
   .rw[X]at z
    cases z;subst Q;exact⟨#[],U t Y,.inl rfl⟩
  .rcases cs b with y|⟨t,Y,Q,X⟩
   .exact .inl (D b (by rwa[<-y.1]))
   .exact .inr ⟨t,Y,Q⟩
 cases p:K.lookup a with
 |some o=>
  have e:=KX a o p;rw[ha]at e
  cases e;refine T (λ_=>none) (λ_=>.inl rfl) (.inr ⟨_,vs.toArray,_,p,rfl,rfl,rfl,by rwa[bQ,I],by simpa using rv⟩) (λb u z=>by have J:(none:Option HO)=some u:=z;cases J) (λb z=>absurd rfl z) λz=>absurd rfl z
 |none=>
  refine T (λb=>if b=a then some (.frz {cls:=.type "list", data:=.seq vs.toArray} (.lst (ns.map V.int)))else none) (λb=>?_) (.inl (.inr ⟨{cls:=.type "list", data:=.seq vs.toArray},if_pos rfl⟩)) (λb u z=>?_) (λb z=>?_) λ_=>p
  .by_cases hb:b=a
   .exact .inr ⟨_,_,if_pos hb⟩
   .exact .inl (if_neg hb)
  .by_cases hb:b=a
   .have J:=(if_pos hb).symm.trans z
    cases J;subst hb;exact⟨ha,by rwa[ak],vs,_,rv,ha⟩
   .have J:=(if_neg hb).symm.trans z
    cases J
  .by_cases hb:b=a
   .exact hb
   .exact absurd (if_neg hb) z
abbrev KOf(_:K.In h):aaa:=K
def U8{l:abi}{q:dA}{d:DefRec}{K:Params->aaa}{CX:d4->CXT}{sp:d4->Sp}
 (hn:l.most=some n) (hn2:n<=sizeLine) (hdf:d.params.defaults=[]) (hr:Room k callerA)
 (hY:∀(w:d4)(h:eg),YP w h->(K w.params).In h)
 (F:∀(w:d4)(mg:Str->Option Value)(fa:Addr)(h:eg),(K w.params).In h->h.Ns mainGlobals mg->mg d.name=some (.ref fa) ->
  ∃fd:ee,(∀(s:dv)(u:Value),BindsTo s fd ⟨[u],[]⟩ [(x,u)]) /\
   ∀base:eg,(K w.params).In base->base.Ns mainGlobals mg->FnOk l.prog w (K w.params) mg base (CX w) k fa fd [x] (sp w))
 (ts:List (Addr×Str×Pos)) (O:∀(w:d4)(h:eg),YP w h->(∀t∈ts,h.get? t.1=some {cls:=.none,data:=.fields #[]})/\(∀t∈ts,isCodeTable h t.1)/\∀t∈ts,(K w.params).lookup t.1=none) (U:∀t∈ts,∀t'∈ts,t.1=t'.1->t=t')
 (hsp:∀(w:d4)(H:Hp)(a:Addr)(ns:List Int),ns.length<=n->(∀t∈ts,H t.1=some (.tbl t.2.1 t.2.2))->SqL (K w.params) H a (ns.map V.int)->sp w [.ref a] H (λv _=>v=.bl true) λ_ _ _=>False)
 (hCX:∀(w:d4)(H:Hp)(s:dv)(e:Value)(s':dv),CX w [] H s (λ_ _ _=>False) e s'->False):
 abn q loose c YP l.row.toRowW d [] (λf vs=>aax f vs):=by
 refine Att.Fp hn hdf λw s₀ Z mg L fa o pm cd doc a vs ns G Y J hd hcd S X hints hlen Q=>?_
 have R:=hY w _ Y;obtain⟨fd,hb,M⟩:=F w mg fa _ R G.T.g S;exact PB R G.T.g G.T.b G.T.builtins G.T.nolimit G.T.bmain Q X hints (bw hlen hn2) hr M hb ts (O w _ Y).1 (O w _ Y).2.1 (O w _ Y).2.2 U (λH N P=>hsp w H a ns hlen N P) λH e s'=>hCX w H Z e s'
def PJ{l:abi}{d:DefRec}{K:Params->aaa}{sp:aaa->Sp}
 (hn:l.most=some n) (Z:n<=sizeLine) (hdf:d.params.defaults=[]) (hr:Room k callerA)
 (hY:∀(w:d4)(h:eg),YP w h->(K w.params).In h)
 (F:∀(w:d4)(mg:Str->Option Value)(fa:Addr)(h:eg),(K w.params).In h->h.Ns mainGlobals mg->mg d.name=some (.ref fa) ->
  ∃fd:ee,(∀(s:dv)(u:Value),BindsTo s fd ⟨[u],[]⟩ [(x,u)]) /\
   ∀base:eg,(K w.params).In base->base.Ns mainGlobals mg->FnOk l.prog w (K w.params) mg base CX k fa fd [x] (sp (K w.params)))
 (ts:List (Addr×Str×Pos)) (U:∀(w:d4)(h:eg),YP w h->(∀t∈ts,h.get? t.1=some {cls:=.none,data:=.fields #[]})/\(∀t∈ts,isCodeTable h t.1)/\∀t∈ts,(K w.params).lookup t.1=none) (O:∀t∈ts,∀t'∈ts,t.1=t'.1->t=t')
 (Y:∀(K:aaa)(H:Hp)(a:Addr)(ns:List Int),ns.length<=n->(∀t∈ts,H t.1=some (.tbl t.2.1 t.2.2))->SqL K H a (ns.map V.int)->sp K [.ref a] H (λv _=>v=.bl true) λ_ _ _=>False)
 (hCX:∀(H:Hp)(s:dv)(e:Value)(s':dv),CX [] H s (λ_ _ _=>False) e s'->False):
 abn q loose c YP l.row.toRowW d [] (λf vs=>aax f vs):=
 U8 (K:=K) (CX:=λ_=>CX) (sp:=λw=>sp (K w.params)) hn Z hdf hr hY F ts U O (λw H a ns h1 h2 h3=>Y (K w.params) H a ns h1 h2 h3) λ_ H s e s'=>hCX H s e s'
end L2
/- THE LAST THEOREM (shape;LID,My.* are yours):
   My.Adr: a structure of the addresses that your layer names (classes,functions);My.Txt K t: a structure (Prop) of the equations over K;
   My.txt_mk:{K} {implicit addresses ..} (e1:nsIn K mainGlobals "law"=some (some (.ref f))) (e2:K.lookup f=some ⟨oc,od,.func (fnOf "law" "law" params body scope dV kV doc pm an cdv ct),sl⟩) (e3:codeIn K cdv "law"=true) .. : ∃t,My.Txt K t
set_option maxRecDepth 100000 in
set_option maxHeartbeats 0 in
(the tactic k_is has no namespace: write k_is) -/
variable{H1:L2.Hp}
namespace L2
noncomputable def j7(s:et):gd:=match s with
 |.FunctionDef _ a _ _ _ _ _ _ _ _=>a
 |_=>{posonlyargs:=[],args:=[],vararg:=none,kwonlyargs:=[],kw_defaults:=[],kwarg:=none,defaults:=[]}
def dR(s:et):List et:=match s with
 |.FunctionDef _ _ b _ _ _ _ _ _ _=>b
 |_=>[]
noncomputable def aR(s:et):eL:=match s with
 |.FunctionDef _ _ _ _ _ _ sc _ _ _=>sc
 |_=>{kind:=.function,names:=[],isGenerator:=false,isCoroutine:=false}
abbrev CX0:CXT:=λ_ _ _ _ _ _=>False
abbrev E0:XK:=λ_ _ _=>False
def Ft:Passes CX0 X E0:=λ_ _ _ _ _ _ _ h=>h.elim
structure Fun(K:aaa)(x qual:Str)(st:et)(f:Addr)(fd:ee):Prop where
 ex:∃(oc:Value)(od:Option Addr)(kV doc pm:Value)(an:Option Addr)(cdv ct:Value)(osl:Array (Option Value)),
  fd=aac x qual (j7 st) (dR st) (aR st) .none kV doc pm an cdv ct/\K.lookup f=some ⟨oc,od,.func fd,osl⟩/\aah K cdv qual=true
 kp:aae K (.ref f)=true
section
end
section
variable{X:Cx}
end
def xH{A B:Prop}(h:B):if false=true then A else B:=by
 rwa[if_neg eY]
def xJ{A B:Prop}(h:A):if true=true then A else B:=by
 rwa[if_pos rfl]
def Same(H H':Hp):Prop:=∀b o,H b=some o->H' b=some o
def Same.refl(H:Hp):Same H H:=λ_ _ h=>h
def Same.trans(a:Same H H1)(b:Same H1 H2):Same H H2:=λc o h=>b c o (a c o h)
theorem Same.free(e:Same H H')(h:H' c=Option.none):H c=Option.none:=by
 cases q:H c with
 |none=>rfl
 |some o=>
  rw[e c o q]at h
  cases h
def Same.seq(e:Same H H')(h:SqL K H a c):SqL K H' a c:=by
 rcases h with(h|⟨o,h⟩)|h
 .exact .inl (.inl (e _ _ h))
 .exact .inl (.inr ⟨o,e _ _ h⟩)
 .exact .inr h
end L2
namespace My
open L2
abbrev St:=L2.St
def cC(h:H c=none)(o:HO):Same H (upd H c o):=λb u q=>by rwa[aL (k_ q h)]
def rQ(e:Same H H')(h:SqT K H a c):SqT K H' a c:=by
 rcases h with(h|⟨o,h⟩)|h
 .exact .inl (.inl (e _ _ h))
 .exact .inl (.inr ⟨o,e _ _ h⟩)
 .exact .inr h
structure Df(K:aaa)(mg:Str->Option Value)(x:Str)(st:et)(ps:List Str):Prop where
 ex:∃(f:Addr)(fd:ee),Fun K x x st f fd/\Binds K fd ps []/\mg x=some (.ref f)
structure Has(P:dA)(w:d4)(K:aaa)(mg:Str->Option Value)(base:eg)(n:Nat)(x:Str)(ps:List Str)(sp:Sp):Prop where
 ex:∃(f:Addr)(fd:ee),FnOk P w K mg base CX0 n f fd ps sp/\Binds K fd ps []/\aae K (.ref f)=true/\mg x=some (.ref f)
section
variable{sp:Sp}{st:et}{k:Nat}
def Has.mono(h:Has P w K mg base k x ps sp)(l:k<=n):Has P w K mg base n x ps sp:=by
 obtain⟨f,fd,F,b,kp,m⟩:=h.ex;exact⟨f,fd,F.mono l,b,kp,m⟩
end
section
variable{X:Cx}{sp:Sp}{t:TA}
def Fv(h:Has X.prog X.w X.K X.mg X.base n x ps sp)(Y:Room n X.A)(ha:PA X (e::es) t)(Z:Gl X x:=by rfl)(U:(x==("__debug__":Str))=false:=by decide)
 (he:starEach (e::es) X.env=(false,eval e X.env)::starEach es X.env:=by rfl) (O:(backTo pos (starEach es X.env)).any (·.1)=false:=by rfl):
 PE X (.Call (.Name x p) (e::es) [] pos) (Xj sp [] E0 t):=by
 obtain⟨f,fd,F,b,kp,m⟩:=h.ex;exact UJ F Y Z m kp b .nil Ft ha U he O
end
mutual
inductive RdV(K:aaa)(H:Hp):V->PyData->Prop
 |non:RdV K H .non .none
 |bl (b:Bool):RdV K H (.bl b) (.bool b)
 |int (i:Int):RdV K H (.int i) (.int i)
 |str (x:Str):RdV K H (.str x) (.str x)
 |lst {a:Addr} {xs:List V} {ds:List PyData}:SqL K H a xs->RdVs K H xs ds->RdV K H (.ref a) (.list ds)
 |tup {a:Addr} {xs:List V} {ds:List PyData}:SqT K H a xs->RdVs K H xs ds->RdV K H (.ref a) (.tuple ds)
inductive RdVs(K:aaa)(H:Hp):List V->List PyData->Prop
 |nil:RdVs K H [] []
 |cons {v:V} {d:PyData} {vs:List V} {ds:List PyData}:RdV K H v d->RdVs K H vs ds->RdVs K H (v::vs) (d::ds)
end
section
variable{X:Cx}{σ:St}{H:Hp}
mutual
theorem RdV.reads(I:Inv X pins σ H s):∀{v:V}{d:PyData},RdV X.K H v d->∀{u:Value},RelV v u->∃as,Reads s.heap u d as
 |_,_,.non,_,r=>by cases r;exact⟨_,.none⟩
 |_,_,.bl b,_,r=>by cases r;exact⟨_,.bool b⟩
 |_,_,.int i,_,r=>by obtain⟨t,rfl⟩:=r;exact⟨_,.int i t⟩
 |_,_,.str x,_,r=>by obtain⟨t,rfl⟩:=r;exact⟨_,.str x t⟩
 |_,_,.lst h q,_,r=>by
  cases r;obtain⟨its,rv,⟨o,n,e,c,_,d⟩,_⟩:=I.list h;obtain⟨as,z⟩:=RdVs.reads I q rv;exact⟨_,.list e c d (by simpa using z)⟩
 |_,_,.tup h q,_,r=>by
  cases r;obtain⟨its,rv,⟨o,e,c,n,d⟩,_⟩:=I.tuple h;obtain⟨as,z⟩:=RdVs.reads I q rv;exact⟨_,.tuple e c d (by simpa using z)⟩
theorem RdVs.reads(I:Inv X pins σ H s):∀{vs:List V}{ds:List PyData},RdVs X.K H vs ds->∀{us:List Value},Vals vs us->∃as,ReadsAll s.heap us ds as
 |_,_,.nil,_,r=>by cases r;exact⟨_,.nil⟩
 |_,_,.cons h q,_,r=>by
  cases r with
  |cons r1 r2=>
   obtain⟨as,z⟩:=RdV.reads I h r1;obtain⟨bs,y⟩:=RdVs.reads I q r2;exact⟨_,.cons z y⟩
end
end
section
variable{X:Cx}
noncomputable def ag3(K:aaa):R2:=λx y H Q=>∃Y Z,RdV K H x Y/\RdV K H y Z/\dy Y=true/\dy Z=true/\Q (.bl (eb Y Z)) H
noncomputable def ag4(K:aaa):R2:=λx y H Q=>∃Y Z,RdV K H x Y/\RdV K H y Z/\dy Y=true/\dy Z=true/\Q (.bl (!PyData.eqv Y Z)) H
def oH(O:X.A.units+64<cLine):OpR X (compareOp .Eq) (ag3 X.K):=by
 intro pins s σ H x y v u Q I U V h;obtain⟨S,T,ha,hb,sa,W,q⟩:=h;obtain⟨as,Y⟩:=ha.reads I U;obtain⟨bs,Z⟩:=hb.reads I V;exact SeqAt.compareEq_shaped Y Z sa W O ⟨.bl _,H,I,rfl,q⟩
def qb(O:X.A.units+64<cLine):OpR X (compareOp .NotEq) (ag4 X.K):=by
 intro pins s σ H x y v u Q I U V h;obtain⟨S,T,ha,hb,sa,W,q⟩:=h;obtain⟨as,Y⟩:=ha.reads I U;obtain⟨bs,Z⟩:=hb.reads I V;exact SeqAt.compareNe_shaped Y Z sa W O ⟨.bl _,H,I,rfl,q⟩
end
def isT(c T:String):Bool:=T==c||(T=="bool"&&c=="int")
section
def YC(h:c="int"\/c="bool"\/c="tuple"\/c="list"\/c="str")(g:T="NoneType"\/T="bool"\/T="int"\/T="str"\/T="list"\/T="tuple"\/T="dict"):
 aaJ K (.type T) (.type c)=some (isT c T):=by
 rcases h with rfl|rfl|rfl|rfl|rfl<;>rcases g with rfl|rfl|rfl|rfl|rfl|rfl|rfl<;>kernel_rfl
end
section
variable{X:Cx}
end
def big(I:Inv X c σ H s):sysModules<s.heap.objs.size:=by
 have h:=(I.mod.glob.keeps I.bk).lt;exact fV (by decide) h
def PN(h:eg)(hb:sysModules<h.objs.size):gO P w H (h.push {cls:=.type "dict", data:=.dict #[]}) h.objs.size (.dK []):=
 ⟨f9 _,beq_eq_false_iff_ne.mpr (dL (bh hb)),[],.nil,Heap.DictOf.new h⟩
def YD:TE:=λ_ H Q=>∀p,H p=none->Q (.ref p) (upd H p (.dK []))
def PX : PE X (.Dict [] [] c) YD:=λpins s σ H Q I h=>
 wpAny_Dict_empty ⟨.ref s.heap.objs.size,_,I.laid (a:=s.heap.objs.size) (o:=.dK []) (t':=s.toks) (λ_ _ q=>ae _ q) (aN _) (PN s.heap (big I)),rfl,h _ (I.hok.fresh (aN _))⟩
section
variable{X:Cx}{a b c d:Expr}{ta tb tc td:TE}
end
structure Blt(mg:Str->Option Value):Prop where
 len_:mg "len"=none
 range_:mg "range"=none
 abs_:mg "abs"=none
 isinstance_:mg "isinstance"=none
 int_:mg "int"=none
 bool_:mg "bool"=none
 tuple_:mg "tuple"=none
 max_:mg "max"=none
 min_:mg "min"=none
abbrev cx(P:dA)(w:d4)(K:aaa)(mg:Str->Option Value)(base:eg)(N:List Str)(x:Str)(st:et)(f:Addr)(cdv:Value)(A:dQ)(outer:List Env)(s:dv)(H:Hp)(E:XK):Cx:=
 (nQ CX0 P w K mg base N x (aR st) f cdv A outer s H E).nox
noncomputable def qd(env:Env):List (Str×NameKind)->List (Str×Addr)->List (Str×Addr)
 |[],cs=>cs
 | (n,k)::r,cs=>if(k==eh)=true then qd env r ((n,(env.cells.lookup n).getD 0)::cs)else qd env r cs
theorem uD:∀(l:List (Str×NameKind))(cs:List (Str×Addr)),(∀x∈l,x.2=.free->∃c,env.cells.lookup x.1=some c) ->
 (forIn l cs λ(x:Str×NameKind)(r:List (Str×Addr))=>(if(x.2==eh)=true then(do let c <-cellOf env x.1;pure (eK ((x.1,c)::r)))else pure (eK r):Sem (ForInStep (List (Str×Addr)))))=pure (qd env l cs)
 |[],_,_=>rfl
 | (n,k)::r,cs,h=>by
  rw[qY];by_cases Z:(k==eh)=true
  .obtain⟨c,X⟩:=h (n,k) au (beq_iff_eq.mp Z);have Y:cellOf env n=pure c:=by
    unfold cellOf;rw[show env.cells.lookup n=some c from X]
   rw[if_pos Z,Y];have W:=uD r ((n,c)::cs) λx hx=>h x (aA _ hx)
   rwa[qd,if_pos Z,show env.cells.lookup n=some c from X]
  .rw[if_neg Z];have W:=uD r cs λx hx=>h x (aA _ hx)
   rwa[qd,if_neg Z]
def Iu(h:∀x∈d.names,x.2=.free->∃c,env.cells.lookup x.1=some c):closureFor d env=pure (qd env d.names []):=by
 have z:=uD (env:=env) d.names [] h;show(forIn d.names [] λ(x:Str×NameKind)(r:List (Str×Addr))=>(if(x.2==eh)=true then(do let c <-cellOf env x.1;pure (eK ((x.1,c)::r)))else pure (eK r):Sem (ForInStep (List (Str×Addr))))) >>= (λcs=>pure cs)=_;rw[z];rfl
theorem yH:∀(l:List (Str×NameKind))(cs:List (Str×Addr)),(∀x∈l,x.2=.free->∃c,env.cells.lookup x.1=some c)->(∀x c,cs.lookup x=some c->env.cells.lookup x=some c) ->
 ∀x c,(qd env l cs).lookup x=some c->env.cells.lookup x=some c
 |[],_,_,Y,x,c,e=>Y x c e
 | (n,k)::r,cs,h,Y,x,c,e=>by
  rw[qd]at e;by_cases W:(k==eh)=true
  .rw[if_pos W]at e;obtain⟨d,hd⟩:=h (n,k) au (beq_iff_eq.mp W);refine yH r _ (λx hx=>h x (aA _ hx)) (λy c' Z=>?_) x c e;rw[cj]at Z
   cases X:y==n with
   |true=>
    rw[X]at Z;have:y=n:=beq_iff_eq.mp X;subst this;rw[show env.cells.lookup y=some d from hd]at Z ⊢;exact Z
   |false=>
    rw[X]at Z;exact Y y c' Z
  .rw[if_neg W]at e;exact yH r cs (λx hx=>h x (aA _ hx)) Y x c e
theorem rR:∀(l:List (Str×NameKind))(cs:List (Str×Addr))(x:Str),((x,eh)∈l\/∃c,cs.lookup x=some c)->∃c,(qd env l cs).lookup x=some c
 |[],_,x,h=>by
  rcases h with h|h
  .exact absurd h (by simp)
  .exact h
 | (n,k)::r,cs,x,h=>by
  rw[qd];by_cases Z:(k==eh)=true
  .rw[if_pos Z];refine rR r _ x ?_;by_cases e:x=n
   .subst e;exact .inr ⟨_,by rw[cj,beq_self_eq_true]⟩
   .rcases h with h|⟨c,h⟩
    .rcases aC.mp h with h|h
     .exact absurd (congrArg Prod.fst h) e
     .exact .inl h
    .exact .inr ⟨c,by rwa[cj,beq_eq_false_iff_ne.mpr e]⟩
  .rw[if_neg Z];refine rR r cs x ?_;rcases h with h|h
   .rcases aC.mp h with h|h
    .have:k=.free:=(congrArg Prod.snd h).symm;subst this;exact absurd rfl Z
    .exact .inl h
   .exact .inr h
noncomputable abbrev blk(X:Cx)(U:List Str)(scope:eL)(cl:List (Str×Addr))(C:Addr)(O:dv)(Y:Hp)(fp:List Addr):Cx:=
 {X with N:=U,s₀:=O,H₀:=Y,env:=compEnvC scope cl C X.env,outer:=X.stack,ex:=fp,fn:=λ_=>false,xe:=λ_ _=>False}
noncomputable def uE(N:List Str)(kinds sn:List (Str×NameKind)):List Str->List Nat->Bool
 |[],[]=>true
 |x::V,j::ix=>(N[j]? == some x)&&((kinds.lookup x==some e9)&&((sn.lookup x==some eh)&&uE N kinds sn V ix))
 |_,_=>false
def oJ(t:Nat)(ix:List Nat)(σ:St):St:=bR t none++ix.map λj=>(σ[j]?).getD none
theorem yI:∀{V:List Str}{ix:List Nat},uE N kinds sn V ix=true->ix.length=V.length/\∀(k:Nat)(x:Str),V[k]?=some x->∃j,ix[k]?=some j/\N[j]?=some x/\kinds.lookup x=some .cell/\sn.lookup x=some .free
 |[],[],_=>⟨rfl,λk x h=>by simp at h⟩
 |x::V,j::ix,h=>by
  rw[uE,aK,aK,aK]at h;obtain⟨h1,h2,h3,h4⟩:=h;obtain⟨l,r⟩:=yI h4;refine⟨by simp[l],λk y Z=>?_⟩
  cases k with
  |zero=>
   simp at Z;subst Z;exact⟨j,rfl,beq_iff_eq.mp h1,beq_iff_eq.mp h2,beq_iff_eq.mp h3⟩
  |succ k=>exact r k y (by simpa using Z)
 |[],_::_,h=>by simp[uE]at h
 |_::_,[],h=>by simp[uE]at h
theorem vo{env:Env}(O:env.scope.kind=.function):∀{names:List (Str×NameKind)}{x:Str},names.lookup x=some .free->env.kindOf x=some .cell ->
 (names.map λ(n,k)=>if(k==eh&&env.scope.kind == .function&&env.kindOf n==some .cell)then(n,e9)else(n,k)).lookup x=some .cell
 |[],_,h,_=>by simp at h
 | (n,k)::r,x,h,Z=>by
  have Y:=@vo env O r x;show iQ x ((if(k==eh&&env.scope.kind == .function&&env.kindOf n==some .cell)=true then(n,e9)else(n,k))::_)=_
  cases hx:x==n with
  |true=>
   have e:=beq_iff_eq.mp hx;subst e;simp only[cj,hx]at h
   cases h;rw[if_pos (by rw[O,Z];rfl)];simp[cj]
  |false=>
   simp only[cj,hx]at h;by_cases hq:(k==eh&&env.scope.kind == .function&&env.kindOf n==some .cell)=true
   .rw[if_pos hq];simp only[cj,hx];exact Y h Z
   .rw[if_neg hq];simp only[cj,hx];exact Y h Z
theorem qe{env:Env}:∀{names:List (Str×NameKind)}{x:Str}{k:NameKind},(∀y∈names,y.2 ≠ .cell)->(k=.cell\/k=.free) ->
 (names.map λ(n,k)=>if(k==eh&&env.scope.kind == .function&&env.kindOf n==some .cell)then(n,e9)else(n,k)).lookup x=some k->(x,eh)∈names
 |[],_,_,_,_,h=>by simp at h
 | (n,Y)::r,x,k,W,Z,h=>by
  have X:=@qe env r x k (λy U=>W y (aA _ U)) Z;have h':iQ x ((if(Y==eh&&env.scope.kind == .function&&env.kindOf n==some .cell)=true then(n,e9)else(n,Y))::(r.map λ(n,k)=>if(k==eh&&env.scope.kind == .function&&env.kindOf n==some .cell)then(n,e9)else(n,k)))=some k:=h;by_cases hq:(Y==eh&&env.scope.kind == .function&&env.kindOf n==some .cell)=true
  .rw[if_pos hq]at h';have V:Y=.free:=by
    rw[aK,aK]at hq;exact beq_iff_eq.mp hq.1.1
   cases hx:x==n with
   |true=>
    have e:=beq_iff_eq.mp hx;subst e;subst V;exact au
   |false=>
    simp only[cj,hx]at h';exact aA _ (X h')
  .rw[if_neg hq]at h'
   cases hx:x==n with
   |true=>
    have e:=beq_iff_eq.mp hx;subst e;simp only[cj,hx]at h'
    cases h';rcases Z with Z|Z
    .exact absurd Z (W _ au)
    .subst Z;exact au
   |false=>
    simp only[cj,hx]at h';exact aA _ (X h')
section
variable{X:Cx}{σ:St}{H:Hp}
def Inv.forget(I:Inv X pins σ H s)(O:σ'.length=X.N.length)(h:∀(i:Nat)(v:V),σ'[i]?=some (some v)->σ[i]?=some (some v)):Inv X pins σ' H s:=by
 obtain⟨m,hn,hx⟩:=I.loc;exact⟨I.ok,I.os,I.bare,I.base,⟨m,hn,λi x v W Y Z=>hx i x v W (h i v Y) Z⟩,I.cell,I.free,I.freeC,I.pin,I.hok,O⟩
end
end My
variable{spos:Pos}
namespace My
open L2
theorem Fw(I:Nat->dv->Prop)
 (turn:∀n s,I n s->wpAny (model prog w) A (pyNext B) (λr Y=>match r with
  |none=>R (.ok .next) Y
  |some v=>wpAny (model prog w) A (letOwnedTupleGo target B v) (λ_ U=>wpAny (model prog w) A (assign target env v) (λ_ s₂=>
   wpAny (model prog w) A (forIn q true λc r=>if r=true then do let ok <-isTrue c env (eval c env);pure (eK ok)else pure (eK r)) (λok O=>
    if ok=true then wpAny (model prog w) A (eval d env) (λx s₄=>
     wpAny (model prog w) A (call (.builtin "list.append") [acc,x]) (λ_ Z=>∃m,m<n/\I m Z) (λ_ _=>False) s₄) (λ_ _=>False) O
    else ∃m,m<n/\I m O) (λ_ _=>False) s₂) (λ_ _=>False) U) (λ_ _=>False) Y) (λ_ _=>False) s)
 (n:Nat) (h:I n s):
 codeAny (model prog w) A (.compLoop (.ListComp d [⟨target,k,q,0⟩] t z) 0 B acc env) R s:=by
 refine codeAny_loop rfl I (λn s P=>?_) n h;refine wpAny_noted ?_;rw[compTurn_list];refine aa (bx (aa (av (turn n s P) (λr Y W=>?_) λ_ _ h'=>h'.elim)))
 cases r with
 |none=>exact ag W
 |some v=>
  refine aa (av W (λ_ U V=>?_) λ_ _ h'=>h'.elim);refine aa (av V (λ_ s₂ Q=>aa (av Q (λok O X=>?_) λ_ _ h'=>h'.elim)) λ_ _ h'=>h'.elim)
  cases ok with
  |false=>exact ag ⟨rfl,X⟩
  |true=>
   exact aa (aa (av X (λx s₄ S=>aa (av S (λ_ Z T=>ag (ag ⟨rfl,T⟩)) λ_ _ h'=>h'.elim)) λ_ _ h'=>h'.elim))
section
variable{X:Cx}{σ:St}{H:Hp}
def Nb{T V:List Str}{s3:dv}{fp:List Addr}{O:eg}{tk:Nat}{m:Str->Option Value}
 (I:Inv X pins σ H s3) (hf:∀b∈fp,v9 X pins H b) (ho:∀b∈fp,∃o,s3.heap.get? b=some o)
 (hk:scope.kind=.function) (U:∀y∈scope.names,y.2 ≠ .cell) (hfr:∀x∈scope.names,x.2=.free->x.1∈V) (hB:uE X.N X.env.scope.names scope.names V ix=true)
 (hns:O.Ns s3.heap.objs.size m) (keep:∀b o,s3.heap.get? b=some o->O.get? b=some o):
 Inv (blk X (T++V) scope (qd X.env scope.names []) s3.heap.objs.size s3 H fp) pins (oJ T.length ix σ) H {s3 with heap:=O,toks:=tk}:=by
 obtain⟨E,R⟩:=yI hB;have K:∀x∈scope.names,x.2=.free->∃c,X.env.cells.lookup x.1=some c:=λx hx e=>by
  obtain⟨k,t⟩:=gZ (hfr x hx e);obtain⟨j,_,_,Q,_⟩:=R k _ t;exact I.ok.has _ (.inl Q)
 have sub:=yH (env:=X.env) scope.names [] K (λx c e=>by simp at e);have stkSub:=λb z=>aC.mp (I.stkSub b z)
 have lt:∀b o,s3.heap.get? b=some o->b≠s3.heap.objs.size:=λb o e=>bh (af e)
 have cellK:∀c v,s3.heap.IsCell c v->O.IsCell c v:=λc v ⟨o,e,d⟩=>⟨o,keep c o e,d⟩
 refine⟨⟨I.ok.mod,hk,I.ok.glob,I.ok.blt,aN _,λx y c G L=>I.ok.inj x y c (sub x c G) (sub y c L),λx hx=>?_,λx c hx=>?_,λQ=>I.hqc Q stkSub (λb hb=>(hf b hb).2.2.2.1),I.ok.hs,I.ok.frames,.inl rfl,λb hb=>⟨?_,λx c e=>?_⟩,I.bs,bw I.ok.bsz I.sz,λb o e hb=>?_,λb hb z=>?_,I.stack,I.stkFree⟩,
  rfl,I.bare,Un.kept keep,⟨m,hns,λi x v G L g=>?_⟩,λx c e=>?_,I.hok.fresh (aN _),λx c e=>I.freeC x c (sub x c e),λp D=>?_,I.hok.kept keep,?_⟩
 .rcases hx with hx|hx
  .exact rR _ _ x (.inl (qe U (.inl rfl) hx))
  .exact rR _ _ x (.inl (qe U (.inr rfl) hx))
 .exact absurd hx (by simp)
 .obtain⟨o,e⟩:=ho b hb;exact lt b o e
 .exact(hf b hb).2.2.2.2.1 x c (sub x c e)
 .rcases(hf b hb).2.2.2.1 with z|z
  .exact I.ok.noex b o e z
  .exact absurd (bG (af e) (bw I.ok.bsz z)) (dB _)
 .rcases stkSub b z with z|z
  .exact(hf b hb).2.1 z
  .exact(hf b hb).2.2.1 z
 .by_cases hi:i<T.length
  .have W:(bR T.length none++ix.map λj=>(σ[j]?).getD none)[i]?=some (some v):=L;rw[bU (by rwa[bM]),cJ,if_pos hi]at W;exact absurd W (by simp)
  .have M:(T++V)[i]?=some x:=G;rw[bT (by lia)]at M;obtain⟨j,A,w,Q,Y⟩:=R _ x M;have W:(bR T.length none++ix.map λj=>(σ[j]?).getD none)[i]?=some (some v):=L;rw[bT (by rw[bM];lia),bM,aF,A]at W;have Z:(σ[j]?).getD none=some v:=by simpa using W
   have J:σ[j]?=some (some v):=by
    cases q:σ[j]? with
    |none=>rw[q]at Z;exact absurd Z (by simp)
    |some o=>rw[q]at Z;simp at Z;rw[Z]
   obtain⟨h,C,B⟩:=I.loc;obtain⟨u,r,l⟩:=B j x v w J (.inr (.inl Q));rcases l with⟨z,_⟩|⟨_,c,s,S⟩
   .have F:X.env.scope.names.lookup x=some .local:=z;rw[Q]at F;exact absurd F (by simp)
   .obtain⟨c',P⟩:=rR (env:=X.env) scope.names [] x (.inl (aap Y));have:c'=c:=by
     have q:=sub x c' P;rw[s]at q;exact(cG.inj q).symm
    subst this;exact⟨u,r,.inr ⟨.inl (vo I.ok.kind Y Q),c',P,cellK _ _ S⟩⟩
 .obtain⟨v,z⟩:=I.cell x c (sub x c e);exact⟨v,cellK c v z⟩
 .obtain⟨e,n,ne,nf,d⟩:=I.pin p D;refine⟨keep _ _ e,n,lt _ _ e,λz=>?_,d⟩;rcases stkSub p.1 z with z|z
  .exact ne z
  .exact nf z
 .show(bR T.length none++ix.map λj=>(σ[j]?).getD none).length=(T++V).length;rw[aV,bM,ak,aV,E]
def vq(I3:Inv X pins σ H3 O)(Y:∀b∈fp,v9 X pins H3 b)
 (U:Inv (blk X N' c cl O.heap.objs.size O H3 fp) pins' σ' H' s'):Inv X pins σ H' s'/\v9 X pins H' O.heap.objs.size:=by
 have fr:=U.free;refine⟨?_,I3.fpOk (aN _) fr⟩;have os:=U.os;have u:=U.base;have V:=U.hok;have hb:=U.bare;obtain⟨T,g,d,t,W⟩:=s';obtain rfl:W=O.os:=os;exact I3.call (h':=T) (g':=g) (d':=d) (t':=t) (ch:=fp) u V hb λb Z=>⟨(Y b Z).2.2.2.1,(Y b Z).2.1,(Y b Z).2.2.2.2.1,(Y b Z).2.2.2.2.2⟩
end
def PTs(X:Cx)(ifs:List Expr)(t:TT):Prop:=
 ∀(pins:List (Addr×Obj))(s:dv)(σ:St)(H:Hp)(Q:Bool->Hp->Prop),Inv X pins σ H s->t σ H Q ->
  wpAny (model X.prog X.w) X.A (forIn ifs true λc r=>if r=true then do let ok <-isTrue c X.env (eval c X.env);pure (eK ok)else pure (eK r)) (TP X pins σ Q) X.xe s
def rE:TT:=λ_ H Q=>Q true H
def U9:PTs X [] rE:=λ_ _ _ H _ I h=>wpAny_tests_nil ⟨H,I,h⟩
def jJ(h:PT X c t):PTs X [c] t:=λpins s σ H Q I q=>wpAny_tests_one (h pins s σ H Q I q)
def yJ(wi:TI)(g:TG)(tt:TT)(te:TE)(t:Nat)(O:St->St):TE:=λσ H Q=>wi σ H λJ H1=>∀D,H1 D=none->∃W:Nat->Nat->List V->Hp->Prop,(∃m,W 0 m [] (upd H1 D (.lst []))) /\
 ∀i m xs H2,W i m xs H2->H2 D=some (.lst xs)/\((J.stop i H2/\Q (.ref D) H2)\/(J.go i H2/\xs.length<sizeLine/\∀x T,J.yld i H2 x T->g x (O σ) T λZ S=>Z.drop t=(O σ).drop t /\
  tt Z S λb U=>if b=true then te Z U λv X=>X D=some (.lst xs)/\∃Y,Y<m/\W (i+1) Y (xs++[v]) (upd X D (.lst (xs++[v])))else ∃Y,Y<m/\W (i+1) Y xs U))
section
variable{X:Cx}{iter:Expr}{T V:List Str}{wi:TI}{g:TG}{tt:TT}{te:TE}
def Bh(hc:X.calm=true)(hi:PI X tg iter wi)
 (hg:∀cl C O U fp,PG (blk X (T++V) scope cl C O U fp) tg g) (ht:∀cl C O U fp,PTs (blk X (T++V) scope cl C O U fp) ifs tt) (he:∀cl C O U fp,PE (blk X (T++V) scope cl C O U fp) elt te)
 (hB:uE X.N X.env.scope.names scope.names V ix=true) (hk:scope.kind=.function) (Y:∀y∈scope.names,y.2 ≠ .cell) (hnames:∀x∈scope.names,x.2=.local->scope.names.lookup x.1=some .local)
 (hfr:∀x∈scope.names,x.2=.free->x.1∈V) (hs:∀x,foldedSetIterable iter X.env x=pure x) 
 (I:Inv X q1 σ q3 q2) (h:yJ wi g tt te T.length (oJ T.length ix) σ q3 Qv)
 (fin:∀(D C:Addr)(H':Hp)(s':dv)(m:Str->Option Value),Inv X q1 σ H' s'->v9 X q1 H' C->s'.heap.Ns C m->Qv (.ref D) H'->compPost (model X.prog X.w) X.A X.xe use Qp (.ref D) C (.ok .next) s'):
 wpAny (model X.prog X.w) X.A (comprehension (.ListComp elt [⟨tg,iter,ifs,0⟩] scope pos) scope X.env q0 (newList []) false (eval iter X.env) use) Qp X.xe q2:=by
 obtain⟨lV,capV⟩:=yI hB;have hcl:∀x∈scope.names,x.2=.free->∃c,X.env.cells.lookup x.1=some c:=λx hx e=>by
  obtain⟨k,ek⟩:=gZ (hfr x hx e);obtain⟨j,_,_,hc',_⟩:=capV k _ ek;exact I.ok.has _ (.inl hc')
 refine wpAny_comprehension_free rfl hs (Iu hcl) hk hnames ?_;refine thn (hi q1 q2 σ q3 _ I h) λv s1 h1=>thn h1 λitv s2 h2=>?_
 obtain⟨it,fp,tn,J,H2,e,I2,S,l,f2,R⟩:=h2;subst e;refine ba (hd:=by size_fits) ?_;have hD:=I2.hok.fresh (aN _);have I3:Inv X q1 σ (upd H2 s2.heap.objs.size (.lst [])) {s2 with heap:=s2.heap.push {cls:=.type "list", dict:=none,data:=.seq ([]:List Value).toArray} }:=
  I2.laid (t':=s2.toks) (λb o e=>ae _ e) (aN _) ⟨f9 _,[],0,.nil,ah _ rfl⟩
 obtain⟨W,⟨m0,w0⟩,turn⟩:=R s2.heap.objs.size hD;generalize hs3:({s2 with heap:=s2.heap.push {cls:=.type "list", dict:=none,data:=.seq ([]:List Value).toArray} }:dv)=O at I3 ⊢;have t:tn 0 O.heap:=by
  rw[<-hs3];exact S.keep 0 s2.heap _ l λb hb o e=>ae _ e
 have f3:∀b∈fp,v9 X q1 (upd H2 s2.heap.objs.size (.lst [])) b:=λb hb=>by
  obtain⟨z0,z1⟩:=f2 b hb;refine⟨?_,z1⟩;obtain⟨o,eo,_⟩:=S.obj 0 _ l b hb;rwa[aL (bh (af eo))]
 generalize hH3:upd H2 s2.heap.objs.size (.lst [])=U at I3 f3 w0;generalize hDn:s2.heap.objs.size=D at turn;refine wpAny_newFunctionEnv Y (by intro y hy;simp at hy) (λf M P=>?_) hk;have keep:=λb o e=>P.extBut b o (bh (af e)) (ae _ e)
 have I4:=Nb (T:=T) (tk:=O.toks+([]:List (Str×Value)).length) I3 f3 (λb hb=>let⟨o,eo,_⟩:=S.obj 0 _ t b hb;⟨o,eo⟩) hk Y hfr hB M keep;have B:=S.keep 0 _ _ t λb hb o e=>keep b o e
 have loop:codeAny (model X.prog X.w) X.A (.compLoop (.ListComp elt [⟨tg,iter,ifs,0⟩] scope pos) 0 (.ref it) (.ref D) (compEnvC scope (qd X.env scope.names []) O.heap.objs.size X.env))
  (compPost (model X.prog X.w) X.A X.xe use Qp (.ref D) O.heap.objs.size) {O with heap:=f,toks:=O.toks+([]:List (Str×Value)).length}:=by
  refine Fw (λn s'=>∃i xs H',Inv (blk X (T++V) scope (qd X.env scope.names []) O.heap.objs.size O U fp) q1 (oJ T.length ix σ) H' s'/\tn i s'.heap/\(∀b∈fp,H' b=none)/\W i n xs H') ?_ m0
   ⟨0,[],U,I4,B,λb hb=>(f3 b hb).1,w0⟩
  rintro n s5 ⟨i,xs,H5,I5,E,fr5,w5⟩;have Z:∀{H':Hp}{pins':List (Addr×Obj)}{σ':St}{s':dv},Inv (blk X (T++V) scope (qd X.env scope.names []) O.heap.objs.size O U fp) q1 σ' H' s'->(∀b∈fp,H' b=none)->∀b∈fp,v9 (blk X (T++V) scope (qd X.env scope.names []) O.heap.objs.size O U fp) q1 H' b:=λI' hn b hb=>by
   obtain⟨x1,x2⟩:=I'.ok.exf b hb;refine⟨hn b hb,x1,I'.ok.exfs b hb,.inl hb,x2,λq hq=>?_⟩;exact(f3 b hb).2.2.2.2.2 q hq
  obtain⟨hD5,r5⟩:=turn i n xs H5 w5;rcases r5 with⟨stop,q⟩|⟨go,hz,step⟩
  .refine thn (S.done (blk X (T++V) scope (qd X.env scope.names []) O.heap.objs.size O U fp) rfl rfl rfl hc (λz=>z) i q1 s5 _ H5 _ I5 (Z (pins':=q1) I5 fr5) E stop) λr s6 ⟨hr,I6⟩=>?_
   subst hr;obtain⟨Ib,fC⟩:=vq I3 f3 I6;obtain⟨m,hn,_⟩:=I6.loc;exact fin D _ H5 s6 m Ib fC hn q
  .refine thn (S.item (blk X (T++V) scope (qd X.env scope.names []) O.heap.objs.size O U fp) rfl rfl rfl hc (λz=>z) i q1 s5 _ H5 _ I5 (Z (pins':=q1) I5 fr5) E go) λr s6 ⟨u,hr,h6⟩=>?_
   subst hr;refine thn h6 λ_ s7 ⟨x,H7,I7,rx,y7,L,fr7⟩=>?_
   have I7':=I7.pinned (Z (pins':=q1) I7 fr7) (S.obj _ _ L);refine thn (hg _ _ _ _ _ _ s7 _ H7 x u _ I7' rx (step x H7 y7)) λ_ s8 ⟨Q,H8,I8,k8,q8⟩=>?_
   have again:∀{K:Hp}{G:dv},Inv (blk X (T++V) scope (qd X.env scope.names []) O.heap.objs.size O U fp) (q1++yE fp s7.heap) Q K G ->
    Inv (blk X (T++V) scope (qd X.env scope.names []) O.heap.objs.size O U fp) q1 (oJ T.length ix σ) K G/\tn (i+1) G.heap/\∀b∈fp,K b=none:=λ{K G} F=>by
    refine⟨Inv.forget F.unpinned I4.len λj v e=>?_,S.keep _ _ _ L λb hb o e=>(F.pin (b,o) (aP _ (aP _ (p7 hb e)))).1,λb hb=>?_⟩
    .by_cases hj:j<T.length
     .have e':(bR T.length none++ix.map λj=>(σ[j]?).getD none)[j]?=some (some v):=e;rw[bU (by rw[bM];exact hj),cJ,if_pos hj]at e';exact absurd e' (by simp)
     .have ej:j=T.length+(j-T.length):=by lia
      rw[ej,<-iV]at e ⊢;rwa[k8]
    .obtain⟨o,e,d⟩:=S.obj _ _ L b hb;exact(F.pin (b,o) (aP _ (aP _ (p7 hb e)))).2.1
   refine thn (ht _ _ _ _ _ _ s8 Q H8 _ I8 q8) λok G ⟨K,F,q9⟩=>?_
   cases ok with
   |false=>
    obtain⟨m',lm,w9⟩:=q9;obtain⟨a1,a2,a3⟩:=again F;exact⟨m',lm,i+1,xs,K,a1,a2,a3,w9⟩
   |true=>
    refine thn (he _ _ _ _ _ _ G Q K _ F q9) λy s10 ⟨v,H10,I10,ry,a,m',lm,w10⟩=>?_
    refine thn (mV _ s10 Q H10 (.ref D) [v] (.ref D) [y] (λ_ Hn=>Hn=upd H10 D (.lst (xs++[v]))) I10 rfl (.cons ry .nil) ⟨D,xs,v,rfl,rfl,a,hz,rfl⟩) λ_ s11 ⟨_,H11,I11,_,e11⟩=>?_
    subst e11;obtain⟨a1,a2,a3⟩:=again I11;exact⟨m',lm,i+1,_,_,a1,a2,a3,w10⟩
 exact codeAny_compStart_list loop (S.self _ 0 _ _ _ B loop)
def Ci(hc:X.calm=true)(T V:List Str)(ix:List Nat)(hi:PI X tg iter wi)
 (hg:∀cl C Y Z fp,PG (blk X (T++V) scope cl C Y Z fp) tg g) (ht:∀cl C Y Z fp,PTs (blk X (T++V) scope cl C Y Z fp) ifs tt) (he:∀cl C Y Z fp,PE (blk X (T++V) scope cl C Y Z fp) elt te)
 (hB:uE X.N X.env.scope.names scope.names V ix=true:=by rfl) (hk:scope.kind=.function:=by rfl) (U:∀y∈scope.names,y.2 ≠ .cell:=by decide +kernel)
 (O:∀x∈scope.names,x.2=.local->scope.names.lookup x.1=some .local:=by decide +kernel)
 (hfr:∀x∈scope.names,x.2=.free->x.1∈V:=by decide +kernel) (hs:∀x,foldedSetIterable iter X.env x=pure x:=by intro _;rfl):
 PE X (.ListComp elt [⟨tg,iter,ifs,0⟩] scope pos) (yJ wi g tt te T.length (oJ T.length ix)):=by
 intro pins s σ H Q I h;rw[eval_ListComp];refine Bh (use:=none) hc hi hg ht he hB hk U O hfr hs I h λD C H' s' m J K hn q=>⟨m,hn,λh' L=>⟨.ref D,H',?_,rfl,q⟩⟩
 obtain⟨M,P,G,R,S,W⟩:=K;exact J.turned (t':=s'.toks) (λb o hb e=>L.extBut b o hb e) M P R S W
def Cj(hN:X.N.Nodup)(hi':X.N[i]?=some x)(hx:X.env.scope.names.lookup x=some .local)(hc:X.calm=true)(T V:List Str)(ix:List Nat)(hi:PI X tg iter wi)
 (hg:∀cl C Y Z fp,PG (blk X (T++V) scope cl C Y Z fp) tg g) (ht:∀cl C Y Z fp,PTs (blk X (T++V) scope cl C Y Z fp) ifs tt) (he:∀cl C Y Z fp,PE (blk X (T++V) scope cl C Y Z fp) elt te)
 (hsw:swapsWith (.ListComp elt [⟨tg,iter,ifs,0⟩] scope pos) (some (.Name x c)) spos.line X.env=pure true:=by rfl)
 (hB:uE X.N X.env.scope.names scope.names V ix=true:=by rfl) (hk:scope.kind=.function:=by rfl) (U:∀y∈scope.names,y.2 ≠ .cell:=by decide +kernel)
 (O:∀x∈scope.names,x.2=.local->scope.names.lookup x.1=some .local:=by decide +kernel)
 (hfr:∀x∈scope.names,x.2=.free->x.1∈V:=by decide +kernel) (hs:∀x,foldedSetIterable iter X.env x=pure x:=by intro _;rfl):
 PS X (.Assign [.Name x c] (.ListComp elt [⟨tg,iter,ifs,0⟩] scope pos) spos) (Yp (yJ wi g tt te T.length (oJ T.length ix)) (O8 i)):=by
 intro pins s σ H D I h;rw[exec_Assign_Name_used _ _ _ _ hsw];refine aa (bx (aa ?_));refine aa (av (Bh (use:=some (assign (.Name x c) X.env)) (Qp:=λ_ s'=>SP X pins D .next s') hc hi hg ht he hB hk U O hfr hs I h λE C H' s' m F G hn q=>?_) (λ_ s' hq=>ag (ag hq)) λ_ _ e=>e);obtain⟨K,L,B,M,Q,P⟩:=G;refine wpAny_assign_Name (Ax F hN hi' (.inl hx) (v:=.ref E) rfl (λS R ⟨a,J,ha⟩=>⟨m,hn.sameBut J ?_,λh' W=>⟨_,H',?_,q⟩⟩) (.inr hx))
 .rcases ha with ha|ha
  .rwa[ha]
  .exact dL (Q x a ha)
 .exact R.turned (t':=S.toks) (λb o hb e=>W.extBut b o hb e) K L M Q P
end
section
variable{X:Cx}
end
end My
namespace D3
def ex2{A B C:α->β->Prop}{G:Prop}(h:∃a b,A a b/\B a b/\C a b)(k:∀a b,A a b->B a b->C a b->G):G:=h.elim λa h=>h.elim λb z=>k a b z.1 z.2.1 z.2.2
def ex1{α:Type _}{A B:α->Prop}{G:Prop}(h:∃a,A a/\B a)(k:∀a,A a->B a->G):G:=h.elim λa z=>k a z.1 z.2
def bV{α β U O:Type _}{A B C:α->β->U->O->Prop}{G:Prop}(h:∃a b c d,A a b c d/\B a b c d/\C a b c d)(k:∀a b c d,A a b c d->B a b c d->C a b c d->G):G:=h.elim λa h=>h.elim λb h=>h.elim λc h=>h.elim λd z=>k a b c d z.1 z.2.1 z.2.2
noncomputable abbrev D:=PyData
inductive U where
 |d (x:D)
 |x (c f:Str) (v:D)
noncomputable abbrev DS:=List (Option U)
inductive Oc where
 |nx (δ:DS)
 |rt (d:D)
 |bk (δ:DS)
 |ct (δ:DS)
 |ex (c f:Str) (v:D)
abbrev FE:=DS->Option D
abbrev FA:=DS->Option (List D)
abbrev FT:=DS->Option Bool
abbrev FS:=DS->Option Oc
abbrev FG:=D->DS->Option DS
def isI:List (D×D)->Bool
 | (.none,.tuple _)::_=>true
 |_=>false
noncomputable def Ck:List Str->List D->List (D×D)
 |n::ns,d::ds=>(.str n,d)::Ck ns ds
 |_,_=>[]
def tZ(C:Addr)(ns:List Str)(ds:List D):List (D×D):=(.none,.tuple [.int (C:Int)])::Ck ns ds
mutual
def flat:D->Bool
 |.none=>true
 |.bool _=>true
 |.int _=>true
 |.str _=>true
 |.list _=>false
 |.tuple xs=>flats xs
 |.dict _=>false
def flats:List D->Bool
 |[]=>true
 |x::r=>flat x&&flats r
end
mutual
def nl:D->Nat
 |.none=>0
 |.bool _=>0
 |.int _=>0
 |.str _=>0
 |.list xs=>nls xs+1
 |.tuple xs=>nls xs
 |.dict kvs=>cond (isI kvs) (nlk kvs) 1
def nls:List D->Nat
 |[]=>0
 |x::r=>nl x+nls r
def nlk:List (D×D)->Nat
 |[]=>0
 | (_,x)::r=>nl x+nlk r
end
def fl1:D->Bool
 |.list xs=>flats xs
 |d=>flat d
noncomputable def ao(i:Nat):FE:=λδ=>match δ[i]? with
 |some (some (.d x))=>some x
 |_=>none
def dC(d:D):FE:=λ_=>some d
def dOp(g:D->D->Option D)(fa fb:FE):FE:=λδ=>(fa δ).bind λx=>(fb δ).bind λy=>g x y
def dUn(g:D->Option D)(fa:FE):FE:=λδ=>(fa δ).bind g
def aX:FA:=λ_=>some []
def aq(fa:FE)(fr:FA):FA:=λδ=>(fa δ).bind λx=>(fr δ).bind λr=>some (x::r)
def dTup(fa:FA):FE:=λδ=>(fa δ).bind λl=>if l.length<=sizeLine then some (.tuple l)else none
def jY(fa:FA):FE:=λδ=>(fa δ).bind λl=>if l.length<=sizeLine then some (.list l)else none
def dCall(F:List D->Option D)(fa:FA):FE:=λδ=>(fa δ).bind F
def eN(fa:FE):FE:=λδ=>(fa δ).bind λd=>if flat d=true then some d else none
def dN1(fa:FE):FE:=λδ=>(fa δ).bind λd=>if decide (nl d<=1)=true then some d else none
def uF(fa:FE):FE:=λδ=>(fa δ).bind λd=>if fl1 d=true then some d else none
def Cm(fa fb:FE):FE:=λδ=>(fa δ).bind λx=>match x with
 |.bool true=>fb δ
 |.bool false=>some (.bool false)
 |_=>none
def dOr(fa fb:FE):FE:=λδ=>(fa δ).bind λx=>match x with
 |.bool true=>some (.bool true)
 |.bool false=>fb δ
 |_=>none
def U_(fa:FE):FE:=λδ=>(fa δ).bind λx=>match x with
 |.bool b=>some (.bool (!b))
 |_=>none
def dIf(c:FT)(fa fb:FE):FE:=λδ=>(c δ).bind λb=>if b=true then fa δ else fb δ
def bA(fa:FE):FT:=λδ=>(fa δ).bind λx=>match x with
 |.bool b=>some b
 |_=>none
def uz(a b:FT):FT:=λδ=>(a δ).bind λx=>if x=true then b δ else some false
def tOr(a b:FT):FT:=λδ=>(a δ).bind λx=>if x=true then some true else b δ
def lU(a:FT):FT:=λδ=>(a δ).map λx=>!x
def gJ:FS:=λδ=>some (.nx δ)
def bZ(a b:FS):FS:=λδ=>(a δ).bind λo=>match o with
 |.nx δ'=>b δ'
 |o=>some o
noncomputable def au1(i:Nat)(fe:FE):FS:=λδ=>(fe δ).bind λd=>some (.nx (δ.set i (some (.d d))))
def sIf(c:FT)(a b:FS):FS:=λδ=>(c δ).bind λt=>if t=true then a δ else b δ
def fO(fe:FE):FS:=λδ=>(fe δ).bind λd=>some (.rt d)
def ag5:FS:=λ_=>some (.rt .none)
def yK(fe:FE):FS:=λδ=>(fe δ).bind λ_=>some (.nx δ)
def sBk:FS:=λδ=>some (.bk δ)
def sCt:FS:=λδ=>some (.ct δ)
def gN(i:Nat):FG:=λd δ=>some (δ.set i (some (.d d)))
def kO:List D->DS->Option DS:=λl δ=>match l with
 |[]=>some δ
 |_=>none
noncomputable def dF(g:FG)(r:List D->DS->Option DS):List D->DS->Option DS:=λl δ=>match l with
 |d::Z=>(g d δ).bind λδ'=>r Z δ'
 |[]=>none
def P0(fe:FE)(g:FG):FS:=λδ=>(fe δ).bind λd=>(g d δ).bind λδ'=>some (.nx δ')
noncomputable def lq(g:FG)(b:FS):List D->DS->Option Oc
 |[],δ=>some (.nx δ)
 |d::r,δ=>(g d δ).bind λZ=>(b Z).bind λo=>match o with
  |.nx δ'=>lq g b r δ'
  |.ct δ'=>lq g b r δ'
  |.bk δ'=>some (.nx δ')
  |.rt v=>some (.rt v)
  |.ex c f v=>some (.ex c f v)
def rT(fi:FA)(g:FG)(b:FS):FS:=λδ=>(fi δ).bind λl=>lq g b l δ
noncomputable def dM(c:FT)(b:FS):Nat->DS->Option Oc
 |0,_=>none
 |n+1,δ=>(c δ).bind λt=>if t=true then(b δ).bind λo=>match o with
     |.nx δ'=>dM c b n δ'
     |.ct δ'=>dM c b n δ'
     |.bk δ'=>some (.nx δ')
     |.rt v=>some (.rt v)
     |.ex c f v=>some (.ex c f v)
  else some (.nx δ)
theorem nW:∀{n:Nat}{δ:DS}{o:Oc},dM c d n δ=some o->∀{m:Nat},n<=m->dM c d m δ=some o
 |0,_,_,h,_,_=>by simp[dM]at h
 |n+1,δ,o,h,0,l=>by lia
 |n+1,δ,o,h,m+1,l=>by
  rw[dM]at h ⊢
  cases Z:c δ with
  |none=>rw[Z]at h;simp at h
  |some t=>
   rw[Z]at h;simp only[aj]at h ⊢
   cases t with
   |false=>exact h
   |true=>
    simp only[if_pos]at h ⊢
    cases hb:d δ with
    |none=>rw[hb]at h;simp at h
    |some q=>
     rw[hb]at h;simp only[aj]at h ⊢
     cases q with
     |nx δ'=>exact nW h (by lia)
     |ct δ'=>exact nW h (by lia)
     |bk δ'=>exact h
     |rt v=>exact h
     |ex c f v=>exact h
def Iv(h:dM c d n δ=some k)(h':dM c d m δ=some o'):k=o':=by
 have a:=nW h (Nat.le_max_left n m);have Z:=nW h' (Nat.le_max_right n m);rw[a]at Z;exact cG.inj Z
open Classical in
def uG(c:FT)(b:FS):FS:=λδ=>if h:∃o n,dM c b n δ=some o then some (Classical.choose h)else none
def tH(h:dM c d n δ=some k):uG c d δ=some k:=by
 have e:∃k n,dM c d n δ=some k:=⟨k,n,h⟩;unfold uG;rw[dif_pos e];obtain⟨m,hm⟩:=fo e;rw[Iv hm h]
def Iw(h:uG c d δ=some k):∃n,dM c d n δ=some k:=by
 unfold uG at h;by_cases e:∃k n,dM c d n δ=some k
 .rw[dif_pos e]at h;have:=fo e;rwa[cG.inj h]at this
 .rw[dif_neg e]at h
  cases h
noncomputable def fnD(p q:Nat)(b:FS):List D->Option D:=λds=>if ds.length=p then match b (ds.map (λd=>some (.d d))++bR q none)with
 |some (.rt d)=>some d
 |some (.nx _)=>some .none
 |_=>none
 else none
def iw(t:Nat)(ix:List Nat)(δ:DS):DS:=bR t none++ix.map λj=>(δ[j]?).getD none
noncomputable def fD(g:FG)(c:FT)(e:FE)(δ:DS):List D->Option (List D)
 |[]=>some []
 |d::r=>(g d δ).bind λZ=>(c Z).bind λb=>if b=true then(e Z).bind λx=>(fD g c e δ r).bind λl=>some (x::l)else fD g c e δ r
def dN(fi:FA)(g:FG)(c:FT)(e:FE)(t:Nat)(ix:List Nat):FE:=λδ=>(fi δ).bind λl=>if l.length<=100000 then(fD g c e (iw t ix δ) l).bind λr=>some (.list r)else none
def rE:FT:=λ_=>some true
noncomputable def gI(g:Int->Int->Option D):D->D->Option D:=λx y=>match x,y with
 |.int i,.int j=>g i j
 |_,_=>none
noncomputable def pIx(n:Nat)(i:Int):Option Nat:=if 0<=i then(if i<n then some i.toNat else none)else if -(n:Int)<=i then some (i+n).toNat else none
def pAt(xs:List D)(i:Int):Option D:=(pIx xs.length i).bind λj=>xs[j]?
def isT(c T:String):Bool:=T==c||(T=="bool"&&c=="int")
def bY(i:Nat)(fe:FE):FS:=λδ=>if i<δ.length then au1 i fe δ else none
def lu:D->D->Option D:=gI λi j=>some (.int (i+j))
def au2:D->D->Option D:=gI λi j=>some (.int (i-j))
def yL(i j:Int):Bool:=decide (i.natAbs<2^64)||decide (j.natAbs<2^64)||(decide (i.natAbs<2^30000)&&decide (j.natAbs<2^30000))
def qg:D->D->Option D:=gI λi j=>if yL i j=true then some (.int (i*j))else none
def Iz(_ j:Int):Bool:=decide (j≠0)&&decide (j.natAbs<2^9000)
def Fx:D->D->Option D:=gI λi j=>if Iz i j=true then some (.int (i.fdiv j))else none
def rF:D->D->Option D:=gI λi j=>if decide (j≠0)=true then some (.int (i.fmod j))else none
def YF(i j:Int):Bool:=decide (0<=j)&&decide (j<=1000)&&decide (i.natAbs<2^64)
def YG:D->D->Option D:=gI λi j=>if YF i j=true then some (.int (i^j.toNat))else none
def gLt:D->D->Option D:=gI λi j=>some (.bool (decide (i<j)))
def gLe:D->D->Option D:=gI λi j=>some (.bool (decide (i<=j)))
def gGt:D->D->Option D:=gI λi j=>some (.bool (decide (j<i)))
def gGe:D->D->Option D:=gI λi j=>some (.bool (decide (j<=i)))
def gEq:D->D->Option D:=λx y=>if(dy x&&dy y)=true then some (.bool (eb x y))else none
def gNe:D->D->Option D:=λx y=>if(dy x&&dy y)=true then some (.bool (!PyData.eqv x y))else none
def gNl(i:Nat):FG:=λd δ=>if i<δ.length then gN i d δ else none
def gTn(n:Nat)(g:List D->DS->Option DS):FG:=λd δ=>match d with
 |.tuple l=>if l.length=n then g l δ else none
 |_=>none
def t_(i:Nat)(f:FE):FS:=λδ=>(ao i δ).bind λx=>(f δ).bind λd=>match x with
 |.list l=>if l.length<1000000 then some (.nx (δ.set i (some (.d (.list (l++[d]))))))else none
 |_=>none
def au3(i:Nat)(fk f:FE):FS:=λδ=>(f δ).bind λd=>(ao i δ).bind λx=>(fk δ).bind λk=>match x,k with
 |.list l,.int j=>(pIx l.length j).bind λn=>some (.nx (δ.set i (some (.d (.list (l.set n d))))))
 |_,_=>none
def IK:D->Option (List D)
 |.list l=>some l
 |.tuple l=>some l
 |_=>none
def putAt(x:D)(n:Nat)(d:D):D:=match x with
 |.list l=>.list (l.set n d)
 |.tuple l=>.tuple (l.set n d)
 |x=>x
def YH(g:List D->D->Option (List D))(i:Nat)(fk f:FE):FS:=λδ=>(ao i δ).bind λx=>(fk δ).bind λk=>(f δ).bind λd=>(IK x).bind λl=>match k with
 |.int j=>(pIx l.length j).bind λn=>match l[n]? with
  |some (.list m)=>(g m d).bind λZ=>some (.nx (δ.set i (some (.d (putAt x n (.list Z))))))
  |_=>none
 |_=>none
def Ka:Nat->FE->FE->FS:=YH λm d=>if flat d=true/\m.length<1000000 then some (m++[d])else none
noncomputable def asList:D->Option (List D)
 |.list l=>some l
 |_=>none
def Ac(f:FE):FA:=λδ=>(f δ).bind asList
noncomputable def gM(lo hi:Int):List D:=(bC (hi-lo).toNat).map λ(k:Nat)=>.int (lo+(k:Int))
def uc(i:Int):Bool:=decide (-(2^62)<=i)&&decide (i<2^62)
def mL(fa:FA):FA:=λδ=>(fa δ).bind λl=>match l with
 |[.int j]=>if uc j=true then some (gM 0 j)else none
 |_=>none
def Fy(fa:FA):FA:=λδ=>(fa δ).bind λl=>match l with
 |[.int i,.int j]=>if(uc i&&uc j)=true then some (gM i j)else none
 |_=>none
def gIx:D->D->Option D:=λx y=>match x,y with
 |.list l,.int i=>pAt l i
 |.tuple l,.int i=>pAt l i
 |_,_=>none
noncomputable def mF(g g':D->D->Option D)(fa fb fc:FE):FE:=λδ=>(fa δ).bind λx=>(fb δ).bind λy=>(g x y).bind λz=>match z with
 |.bool true=>(fc δ).bind λw=>g' y w
 |.bool false=>some (.bool false)
 |_=>none
noncomputable def Kc(g g' O:D->D->Option D)(fa fb fc fd:FE):FE:=λδ=>(fa δ).bind λx=>(fb δ).bind λy=>(g x y).bind λz=>match z with
 |.bool true=>(fc δ).bind λw=>(g' y w).bind λZ=>match Z with
  |.bool true=>(fd δ).bind λu=>O w u
  |.bool false=>some (.bool false)
  |_=>none
 |.bool false=>some (.bool false)
 |_=>none
noncomputable def isNone:D->Bool
 |.none=>true
 |_=>false
def Cp:D->Option D:=λx=>some (.bool (isNone x))
def ag6:D->Option D:=λx=>some (.bool (!isNone x))
def lA:List D->Option D
 |[.list l]=>some (.int l.length)
 |[.tuple l]=>some (.int l.length)
 |_=>none
noncomputable def j8:List D->Option (List Int)
 |[]=>some []
 |.int i::r=>(j8 r).map (i :: ·)
 |_=>none
def mxI(i:Int)(r:List Int):Int:=r.foldl (λa b=>if a<b then b else a) i
def Fz:List D->Option D
 |[.list l]=>match j8 l with
  |some (i::r)=>some (.int (mxI i r))
  |_=>none
 |_=>none
noncomputable def insI(x:Int):List Int->List Int
 |[]=>[x]
 |y::r=>if x<=y then x::y::r else y::insI x r
def xK:List Int->List Int
 |[]=>[]
 |x::r=>insI x (xK r)
def IV:List D->Option D
 |[.int i]=>some (.int i)
 |[.bool b]=>some (.int (if b then 1 else 0))
 |_=>none
def au4:List D->Option D
 |[.int i]=>some (.int (if i<0 then -i else i))
 |_=>none
def ag7:List D->Option D
 |[.int i,.int j]=>some (.int (if j>i then j else i))
 |_=>none
def Ke:List D->Option D
 |[.int i,.int j]=>some (.int (if j<i then j else i))
 |_=>none
noncomputable def tyD:D->String
 |.none=>"NoneType"
 |.bool _=>"bool"
 |.int _=>"int"
 |.str _=>"str"
 |.list _=>"list"
 |.tuple _=>"tuple"
 |.dict _=>"dict"
def noI:D->Bool
 |.dict kvs=>!isI kvs
 |_=>true
def gIs(c:String):D->Option D:=λd=>if noI d=true then some (.bool (isT c (tyD d)))else none
def iM:D->Option D
 |.int i=>some (.int (-i))
 |_=>none
noncomputable def FJ:D->D->Option D:=λx y=>match x,y with
 |.list l,.list m=>if l.length+m.length<=1000000 then some (.list (l++m))else none
 |_,_=>none
def vC:D->Option D
 |.list l=>some (.list l)
 |.tuple l=>some (.list l)
 |_=>none
abbrev FO:=DS->Option (Option Int)
def P_:FO:=λ_=>some none
def Qa(f:FE):FO:=λδ=>(f δ).bind λx=>match x with
 |.int i=>some (some i)
 |_=>none
noncomputable def pSx(n d:Nat):Option Int->Nat
 |none=>d
 |some i=>if i<0 then(i+n).toNat else min i.toNat n
def cuD(xs:List D)(lo hi:Option Int):List D:=(xs.drop (pSx xs.length 0 lo)).take (pSx xs.length xs.length hi-pSx xs.length 0 lo)
def dSl(f:FE)(lo hi:FO):FE:=λδ=>(f δ).bind λx=>(lo δ).bind λa=>(hi δ).bind λb=>match x with
 |.list l=>some (.list (cuD l a b))
 |_=>none
noncomputable def au5(i j:Nat)(fa:FA):FS:=λδ=>(fa δ).bind λl=>match l with
 |[x,y]=>if i<δ.length/\j<δ.length then some (.nx ((δ.set i (some (.d x))).set j (some (.d y))))else none
 |_=>none
noncomputable def rW(l:List D):List D:=l.mapIdx λi x=>.tuple [.int (i:Int),x]
def Kf(f:FE):FA:=λδ=>(f δ).bind λd=>match d with
 |.list l=>some (rW l)
 |_=>none
def mnI(i:Int)(r:List Int):Int:=r.foldl (λa b=>if b<a then b else a) i
def lW:List D->Option D
 |[.list l]=>match j8 l with
  |some (i::r)=>some (.int (mnI i r))
  |_=>none
 |_=>none
noncomputable def oK:List D->Option (List Bool)
 |[]=>some []
 |.bool b::r=>(oK r).map (b :: ·)
 |_=>none
def FP:List D->Option D
 |[.list l]=>(oK l).map λbs=>.bool (bs.all id)
 |_=>none
noncomputable def uH:List D->List D->List D
 |x::r,y::s=>.tuple [x,y]::uH r s
 |_,_=>[]
def au6(f g:FE):FA:=λδ=>(f δ).bind λd=>(g δ).bind λe=>match d,e with
 |.list l,.list m=>some (uH l m)
 |_,_=>none
def Va(f:FE):FA:=λδ=>(f δ).bind λd=>match d with
 |.list l=>some l.reverse
 |_=>none
theorem lX:∀(r:List Int)(i:Int),mnI i r∈i::r/\∀a∈i::r,mnI i r<=a
 |[],i=>⟨au,λa h=>by rw[bJ.mp h];exact lQ _⟩
 |b::r,i=>by
  have Z:=lX r (if b<i then b else i);have e:mnI i (b::r)=mnI (if b<i then b else i) r:=rfl;rw[e]
  constructor
  .rcases aC.mp Z.1 with z|z
   .rw[z];split<;>simp
   .exact aA _ (aA _ z)
  .intro a h;have Y:=Z.2 _ au;have hb:(if b<i then b else i)<=i/\(if b<i then b else i)<=b:=by split<;>lia
   rcases aC.mp h with rfl|h
   .exact mO Y hb.1
   .rcases aC.mp h with rfl|h
    .exact mO Y hb.2
    .exact Z.2 a (aA _ h)
theorem yM:∀(r:List Int)(i:Int),mxI i r∈i::r/\∀a∈i::r,a<=mxI i r
 |[],i=>⟨au,λa h=>by rw[bJ.mp h];exact lQ _⟩
 |b::r,i=>by
  have Z:=yM r (if i<b then b else i);have e:mxI i (b::r)=mxI (if i<b then b else i) r:=rfl;rw[e]
  constructor
  .rcases aC.mp Z.1 with z|z
   .rw[z];split<;>simp
   .exact aA _ (aA _ z)
  .intro a h;have Y:=Z.2 _ au;have hb:i<=(if i<b then b else i)/\b<=(if i<b then b else i):=by split<;>lia
   rcases aC.mp h with rfl|h
   .exact mO hb.1 Y
   .rcases aC.mp h with rfl|h
    .exact mO hb.2 Y
    .exact Z.2 a (aA _ h)
theorem insI_perm(x:Int):∀l,(insI x l).Perm (x::l)
 |[]=>.refl _
 |y::r=>by
  unfold insI;split
  .exact .refl _
  .exact((insI_perm x r).cons y).trans (.swap x y r)
theorem lB:∀l,(xK l).Perm l
 |[]=>.refl _
 |x::r=>(insI_perm x _).trans ((lB r).cons x)
theorem wU(x:Int):∀l,l.Pairwise (· <= ·)->(insI x l).Pairwise (· <= ·)
 |[],_=>by simp[insI]
 |y::r,h=>by
  obtain⟨h1,h2⟩:=eZ.mp h;unfold insI;split
  .next c=>
   refine eZ.mpr ⟨λa ha=>?_,h⟩;rcases aC.mp ha with rfl|z
   .exact c
   .exact mO c (h1 a z)
  .next c=>
   refine eZ.mpr ⟨λa ha=>?_,wU x r h2⟩;rcases aC.mp ((insI_perm x r).mem_iff.mp ha)with rfl|z
   .lia
   .exact h1 a z
theorem wV:∀l,(xK l).Pairwise (· <= ·)
 |[]=>.nil
 |x::r=>wU x _ (wV r)
end D3
variable{fa fi:D3.FA}{δ:D3.DS}{fb fc fk fe:D3.FE}{ft gt:D3.FT}{dd:List D3.D}
variable{u:L2.HO}{d y:D3.D}{ds:List D3.D}{δ:D3.DS}{L:List Nat}
namespace D3
open L2 My
abbrev Ok:=Addr->Prop
abbrev St:=L2.St
class Chg (u:HO):Prop where
 ch:(∃xs,u=.lst xs)\/(∃kvs,u=.dK kvs)\/∃kvs,u=.dT kvs
instance (xs:List V):Chg (.lst xs):=⟨.inl ⟨xs,rfl⟩⟩
instance (kvs:List (Key×V)):Chg (.dK kvs):=⟨.inr (.inl ⟨kvs,rfl⟩)⟩
instance (kvs:List (List Key×V)):Chg (.dT kvs):=⟨.inr (.inr ⟨kvs,rfl⟩)⟩
def Chg.frz{u:HO}(h:Chg (.frz o u)):False:=by
 rcases h.ch with⟨_,z⟩|⟨_,z⟩|⟨_,z⟩<;>cases z
def Chg.tup(h:Chg (.tup xs)):False:=by
 rcases h.ch with⟨_,z⟩|⟨_,z⟩|⟨_,z⟩<;>cases z
def Chg.ins{dx:Addr}{fs:List (Str×V)}(h:Chg (.ins C dx fs)):False:=by
 rcases h.ch with⟨_,z⟩|⟨_,z⟩|⟨_,z⟩<;>cases z
def Chg.own(h:Chg (.own c)):False:=by
 rcases h.ch with⟨_,z⟩|⟨_,z⟩|⟨_,z⟩<;>cases z
def Chd(o:Option HO):Prop:=∃u,o=some u/\Chg u
def Chd.ne{o:Option HO}(h:Chd o):o≠none:=by
 obtain⟨u,rfl,_⟩:=h;simp
def SqK(K:aaa)(H:Hp)(a:Addr)(xs:List V):Prop:=(∃o,H a=some (.frz o (.lst xs))) \/
 ∃(o:Obj)(its:Array Value)(n:Nat),K.lookup a=some o/\o.cls=.type "list"/\o.dict=none/\o.data=.seq its n/\its.size<=sizeLine/\Vals xs its.toList
def SqK.sq(h:SqK K H a c):SqL K H a c:=by
 rcases h with⟨o,h⟩|h
 .exact .inl (.inr ⟨o,h⟩)
 .exact .inr h
def dU(H:Hp)(a:Addr)(xs:List V):Prop:=H a=some (.tup xs)
def dU.sq(h:dU H a c):SqT K H a c:=.inl (.inl h)
def dU.same(e:Same H H')(h:dU H a c):dU H' a c:=e _ _ h
def dU.upd{o:HO}[O:Chg u](h:H a=some u)(q:dU H b c):dU (upd H a o) b c:=by
 unfold dU;rwa[aL (cF q h (by intro z;subst z;exact O.tup))]
noncomputable def dk0:List (D×D)->List (Key×V)
 |[]=>[]
 | (.int i,.int j)::r=>(.inl i,.int j)::dk0 r
 | (.int i,.bool true)::r=>(.inl i,.bl true)::dk0 r
 | (.str x,.int j)::r=>(.inr x,.int j)::dk0 r
 |_::r=>(.inl 0,.non)::dk0 r
noncomputable def tkK:List D->Option (List Key)
 |[]=>some []
 |.int i::r=>(tkK r).map (.inl i :: ·)
 |_=>none
def tkD:List (D×D)->Option (List (List Key×V))
 |[]=>some []
 | (.tuple l,.bool true)::r=>(tkK l).bind λk=>(tkD r).map ((k,.bl true) :: ·)
 |_=>none
def dh0(kvs:List (D×D)):HO:=match kvs with
 |[]=>.dK []
 |q::r=>match tkD (q::r)with
  |some ts=>.dT ts
  |none=>.dK (dk0 (q::r))
theorem Qc(kvs:List (D×D)):(∃ks,dh0 kvs=.dK ks)\/∃ks,dh0 kvs=.dT ks:=by
 cases kvs with
 |nil=>exact .inl ⟨_,rfl⟩
 |cons q r=>
  unfold dh0;dsimp only;split
  .exact .inr ⟨_,rfl⟩
  .exact .inl ⟨_,rfl⟩
instance (kvs:List (D×D)):Chg (dh0 kvs):=⟨by
 rcases Qc kvs with⟨ks,z⟩|⟨ks,z⟩
 .exact .inr (.inl ⟨ks,z⟩)
 .exact .inr (.inr ⟨ks,z⟩)⟩
def scV:D->V
 |.int i=>.int i
 |_=>.non
def scs:List D->Bool
 |[]=>true
 |.int _::r=>scs r
 |.none::r=>scs r
 |_=>false
def TV(H:Hp)(v:V)(d:D):Prop:=(v=.non/\d=.none)\/∃b ds,v=.ref b/\d=.tuple ds/\dU H b (ds.map scV)/\scs ds=true
inductive TVs(H:Hp):List (Key×V)->List (D×D)->Prop
 |nil:TVs H [] []
 |cons {i:Int} {v:V} {d:D} {r:List (Key×V)} {r':List (D×D)}:TV H v d->TVs H r r'->TVs H ((.inl i,v)::r) ((.int i,d)::r')
 |cons2 {x:Str} {v:V} {d:D} {r:List (Key×V)} {r':List (D×D)}:TV H v d->TVs H r r'->TVs H ((.inr x,v)::r) ((.str x,d)::r')
def TV.imp(h:∀b xs,dU H b xs->dU H' b xs){v:V}(q:TV H v c):TV H' v c:=by
 rcases q with q|⟨b,ds,h1,h2,h3,h4⟩
 .exact .inl q
 .exact .inr ⟨b,ds,h1,h2,h _ _ h3,h4⟩
theorem TVs.imp(h:∀b xs,dU H b xs->dU H' b xs)(q:TVs H c kvs):TVs H' c kvs:=by
 induction q with
 |nil=>exact .nil
 |cons t _ Z=>exact .cons (t.imp h) Z
 |cons2 t _ Z=>exact .cons2 (t.imp h) Z
def yN:List (D×D)->Bool
 |[]=>true
 | (_,.int _)::r=>yN r
 | (_,.bool _)::r=>yN r
 |_=>false
def TW(H:Hp)(v:V)(m:List Int)(z:Int):Prop:=∃b c,v=.ref b/\dU H b [.ref c,.int z]/\dU H c (m.map V.int)
inductive TTs(H:Hp):List (List Key×V)->List (D×D)->Prop
 |nil:TTs H [] []
 |cons {k m:List Int} {z:Int} {v:V} {r:List (List Key×V)} {r':List (D×D)}:TW H v m z->TTs H r r'->TTs H ((k.map eH,v)::r) ((.tuple (k.map .int),.tuple [.tuple (m.map .int),.int z])::r')
theorem TTs.imp(h:∀b xs,dU H b xs->dU H' b xs)(q:TTs H k kvs):TTs H' k kvs:=by
 induction q with
 |nil=>exact .nil
 |cons t _ Z=>
  obtain⟨b,c,h1,h2,h3⟩:=t;exact .cons ⟨b,c,h1,h _ _ h2,h _ _ h3⟩ Z
def DH(H:Hp)(u:HO)(kvs:List (D×D)):Prop:=(yN kvs=true/\u=dh0 kvs)\/(∃ks,u=.dK ks/\TVs H ks kvs)\/∃q ks,u=.dT (q::ks)/\TTs H (q::ks) kvs
def DH.imp(h:∀b xs,dU H b xs->dU H' b xs)(q:DH H c kvs):DH H' c kvs:=by
 rcases q with q|⟨ks,q1,q2⟩|⟨k,ks,q1,q2⟩
 .exact .inl q
 .exact .inr (.inl ⟨ks,q1,q2.imp h⟩)
 .exact .inr (.inr ⟨k,ks,q1,q2.imp h⟩)
def DH.same(q:DH H u kvs)(e:Same H H'):DH H' u kvs:=q.imp λ_ _ h=>dU.same e h
def DH.upd{o:HO}[U:Chg u](q:DH H O kvs)(h:H a=some u):DH (upd H a o) O kvs:=q.imp λ_ _ z=>dU.upd h z
def DH.or(q:DH H u kvs):(∃ks,u=.dK ks)\/∃ks,u=.dT ks:=by
 rcases q with⟨_,rfl⟩|⟨ks,rfl,_⟩|⟨k,ks,rfl,_⟩
 .exact Qc kvs
 .exact .inl ⟨ks,rfl⟩
 .exact .inr ⟨_,rfl⟩
def DH.chg(q:DH H u kvs):Chg u:=⟨.inr q.or⟩
def DH.old(q:DH H u kvs)(h:yN kvs=true):u=dh0 kvs:=by
 rcases q with q|⟨ks,rfl,q⟩|⟨k,ks,rfl,q⟩
 .exact q.2
 .cases q with
  |nil=>rfl
  |cons t _=>
   rcases t with⟨_,rfl⟩|⟨_,_,_,rfl,_,_⟩<;>cases h
  |cons2 t _=>
   rcases t with⟨_,rfl⟩|⟨_,_,_,rfl,_,_⟩<;>cases h
 .cases q with
  |cons _ _=>cases h
def Qd(h:isI kvs=true):∃x r,kvs=(.none,.tuple x)::r:=by
 unfold isI at h;split at h
 .exact⟨_,_,rfl⟩
 .cases h
theorem Cq(h:yN kvs=true):isI kvs=false:=by
 cases q:isI kvs with
 |false=>rfl
 |true=>
  obtain⟨x,r,rfl⟩:=Qd q
  cases h
theorem DH.isI(q:DH H u kvs):D3.isI kvs=false:=by
 cases h:D3.isI kvs with
 |false=>rfl
 |true=>
  obtain⟨x,r,rfl⟩:=Qd h;rcases q with⟨z,_⟩|⟨ks,_,z⟩|⟨k,ks,_,z⟩
  .cases z
  .cases z
  .generalize k::ks=l at z;generalize Z:((PyData.none,ec x)::r:List (D×D))=m at z
   cases z with
   |nil=>cases Z
   |cons _ _=>cases Z
theorem Qe:∀{ns:List Str}{ds:List D},ns.length=ds.length->nlk (Ck ns ds)=nls ds
 |[],[],_=>rfl
 |n::ns,d::ds,h=>by
  rw[Ck,nlk,nls,Qe (Nat.succ.inj h)]
mutual
inductive RA(K:aaa)(ok:Ok)(pl:Bool)(H:Hp):V->D->Prop
 |non:RA K ok pl H .non .none
 |bl (b:Bool):RA K ok pl H (.bl b) (.bool b)
 |int (i:Int):RA K ok pl H (.int i) (.int i)
 |str (x:Str):RA K ok pl H (.str x) (.str x)
 |lst {a:Addr} {xs:List V} {ds:List D}:H a=some (.lst xs)->ok a->RAs K ok pl H xs ds->RA K ok pl H (.ref a) (.list ds)
 |lsk {a:Addr} {xs:List V} {ds:List D}:SqK K H a xs->pl=true->RAs K ok pl H xs ds->RA K ok pl H (.ref a) (.list ds)
 |tup {a:Addr} {xs:List V} {ds:List D}:dU H a xs->RAs K ok pl H xs ds->RA K ok pl H (.ref a) (.tuple ds)
 |dic {a:Addr} {u:HO} {kvs:List (D×D)}:H a=some u->DH H u kvs->ok a->RA K ok pl H (.ref a) (.dict kvs)
 |dik {a:Addr} {u:HO} {kvs:List (D×D)} {o:Obj}:H a=some (.frz o u)->DH H u kvs->pl=true->RA K ok pl H (.ref a) (.dict kvs)
 |ins {a C dx:Addr} {fs:List (Str×V)} {ds:List D} {kvs:List (D×D)}:H a=some (.ins C dx fs)->H dx=some (.own a)->RAs K ok pl H (fs.map (·.2)) ds->kvs=tZ C (fs.map (·.1)) ds->RA K ok pl H (.ref a) (.dict kvs)
inductive RAs(K:aaa)(ok:Ok)(pl:Bool)(H:Hp):List V->List D->Prop
 |nil:RAs K ok pl H [] []
 |cons {v:V} {d:D} {vs:List V} {ds:List D}:RA K ok pl H v d->RAs K ok pl H vs ds->RAs K ok pl H (v::vs) (d::ds)
end
section
variable{ok ok':Ok}{pl':Bool}{H H':Hp}
def RA.ind{P:V->D->Prop}{Q:List V->List D->Prop}(c1:P .non .none)(c2:∀b,P (.bl b) (.bool b))(c3:∀i,P (.int i) (.int i))(c4:∀x,P (.str x) (.str x))
 (c5:∀{a:Addr}{xs:List V}{ds:List D},H a=some (.lst xs)->ok a->Q xs ds->P (.ref a) (.list ds)) (c6:∀{a:Addr}{xs:List V}{ds:List D},SqK K H a xs->pl=true->Q xs ds->P (.ref a) (.list ds)) (c7:∀{a:Addr}{xs:List V}{ds:List D},dU H a xs->Q xs ds->P (.ref a) (.tuple ds))
 (c8:∀{a:Addr}{u:HO}{kvs:List (D×D)},H a=some u->DH H u kvs->ok a->P (.ref a) (.dict kvs)) (Z:∀{a:Addr}{u:HO}{kvs:List (D×D)}{o:Obj},H a=some (.frz o u)->DH H u kvs->pl=true->P (.ref a) (.dict kvs)) (O:∀{a C dx:Addr}{fs:List (Str×V)}{ds:List D}{kvs:List (D×D)},H a=some (.ins C dx fs)->H dx=some (.own a)->Q (fs.map (·.2)) ds->kvs=tZ C (fs.map (·.1)) ds->P (.ref a) (.dict kvs)) (Y:Q [] []) (U:∀{v:V}{d:D}{vs:List V}{ds:List D},P v d->Q vs ds->Q (v::vs) (d::ds)):
 (∀{v:V}{d:D},RA K ok pl H v d->P v d)/\∀{v:List V}{d:List D},RAs K ok pl H v d->Q v d:=
 ⟨λh=>RA.rec (motive_1:=λv d _=>P v d) (motive_2:=λv d _=>Q v d) c1 c2 c3 c4 (λh o _ q=>c5 h o q) (λh o _ q=>c6 h o q) (λh _ q=>c7 h q) (λh g o=>c8 h g o) (λh g o=>Z h g o) (λh g _ e q=>O h g q e) Y (λ_ _ a q=>U a q) h,
  λh=>RAs.rec (motive_1:=λv d _=>P v d) (motive_2:=λv d _=>Q v d) c1 c2 c3 c4 (λh o _ q=>c5 h o q) (λh o _ q=>c6 h o q) (λh _ q=>c7 h q) (λh g o=>c8 h g o) (λh g o=>Z h g o) (λh g _ e q=>O h g q e) Y (λ_ _ a q=>U a q) h⟩
def RA.imp2(U:∀a,ok a->ok' a)(O:pl=true->pl'=true):(∀{v:V}{d:D},RA K ok pl H v d->RA K ok' pl' H v d)/\∀{v:List V}{d:List D},RAs K ok pl H v d->RAs K ok' pl' H v d:=
 RA.ind .non .bl .int .str (λh o q=>.lst h (U _ o) q) (λh o q=>.lsk h (O o) q) (λh q=>.tup h q) (λh g o=>.dic h g (U _ o)) (λh g o=>.dik h g (O o)) (λh g q e=>.ins h g q e) .nil .cons
def RA.imp(U:∀a,ok a->ok' a)(O:pl=true->pl'=true){v:V}{d:D}(h:RA K ok pl H v d):RA K ok' pl' H v d:=(RA.imp2 U O).1 h
def RAs.imp(U:∀a,ok a->ok' a)(O:pl=true->pl'=true){v:List V}(h:RAs K ok pl H v c):RAs K ok' pl' H v c:=(RA.imp2 U O).2 h
def SqK.same(e:Same H H')(h:SqK K H a c):SqK K H' a c:=by
 rcases h with⟨o,h⟩|h
 .exact .inl ⟨o,e _ _ h⟩
 .exact .inr h
def RA.same2(e:Same H H'):(∀{v:V}{d:D},RA K ok pl H v d->RA K ok pl H' v d)/\∀{v:List V}{d:List D},RAs K ok pl H v d->RAs K ok pl H' v d:=
 RA.ind .non .bl .int .str (λh o q=>.lst (e _ _ h) o q) (λh o q=>.lsk (h.same e) o q) (λh q=>.tup (dU.same e h) q) (λh g o=>.dic (e _ _ h) (g.same e) o) (λh g o=>.dik (e _ _ h) (g.same e) o) (λh g q Z=>.ins (e _ _ h) (e _ _ g) q Z) .nil .cons
def RA.same(e:Same H H')(h:RA K ok pl H c k):RA K ok pl H' c k:=(RA.same2 e).1 h
def RAs.same(e:Same H H')(h:RAs K ok pl H c k):RAs K ok pl H' c k:=(RA.same2 e).2 h
def RA.flat2:(∀{v:V}{d:D},RA K ok pl H v d->flat d=true->RA K ok' pl' H v d)/\∀{v:List V}{d:List D},RAs K ok pl H v d->flats d=true->RAs K ok' pl' H v d:=
 RA.ind (λ_=>.non) (λb _=>.bl b) (λi _=>.int i) (λx _=>.str x) (λ_ _ _ h=>by simp[D3.flat]at h) (λ_ _ _ h=>by simp[D3.flat]at h) (λt q h=>.tup t (q (by simpa[D3.flat]using h))) (λ_ _ _ h=>by simp[D3.flat]at h) (λ_ _ _ h=>by simp[D3.flat]at h) (λ_ _ _ _ h=>by simp[D3.flat]at h) (λ_=>.nil) λa q h=>by
  rw[flats,aK]at h;exact .cons (a h.1) (q h.2)
def RA.flat(O:flat d=true)(h:RA K ok pl H v d):RA K ok' pl' H v d:=RA.flat2.1 h O
def RAs.flat(O:flats k=true)(h:RAs K ok pl H c k):RAs K ok' pl' H c k:=RA.flat2.2 h O
def SqK.upd{o:HO}[O:Chg u](h:H a=some u)(q:SqK K H b c):SqK K (upd H a o) b c:=by
 rcases q with⟨o',q⟩|q
 .refine .inl ⟨o',?_⟩;rwa[aL (cF q h (by intro z;subst z;first|exact O.frz|exact O.tup))]
 .exact .inr q
def RA.upd2[O:Chg u](h:H a=some u)(U:¬ok a):(∀{v:V}{d:D},RA K ok pl H v d->RA K ok pl (upd H a c) v d)/\∀{v:List V}{d:List D},RAs K ok pl H v d->RAs K ok pl (upd H a c) v d:=
 RA.ind .non .bl .int .str (λe k q=>.lst (by rwa[aL (by intro z;subst z;exact U k)]) k q) (λe k q=>.lsk (e.upd h) k q) (λe q=>.tup (dU.upd h e) q) (λe g k=>.dic (by rwa[aL (by intro z;subst z;exact U k)]) (g.upd h) k) (λe g k=>.dik (by rwa[aL (cF e h (by intro z;subst z;exact O.frz))]) (g.upd h) k) (λe g q Z=>.ins (by rwa[aL (cF e h (by intro z;subst z;exact O.ins))]) (by rwa[aL (cF g h (by intro z;subst z;exact O.own))]) q Z) .nil .cons
def RA.upd{o:HO}[U:Chg u](h:H a=some u)(O:¬ok a)(r:RA K ok pl H c k):RA K ok pl (upd H a o) c k:=(RA.upd2 h O).1 r
def RAs.upd{o:HO}[U:Chg u](h:H a=some u)(O:¬ok a)(r:RAs K ok pl H c k):RAs K ok pl (upd H a o) c k:=(RA.upd2 h O).2 r
def RA.track2:(∀{v:V}{d:D},RA K ok pl H v d->RA K (λb=>ok b/\H b≠none) pl H v d)/\∀{v:List V}{d:List D},RAs K ok pl H v d->RAs K (λb=>ok b/\H b≠none) pl H v d:=
 RA.ind .non .bl .int .str (λe k q=>.lst e ⟨k,by rw[e];simp⟩ q) (λe k q=>.lsk e k q) (λe q=>.tup e q) (λe g k=>.dic e g ⟨k,by rw[e];simp⟩) (λe g k=>.dik e g k) (λh g q e=>.ins h g q e) .nil .cons
def RA.track(h:RA K ok pl H v d):RA K (λb=>ok b/\H b≠none) pl H v d:=RA.track2.1 h
def RAs.track(h:RAs K ok pl H c k):RAs K (λb=>ok b/\H b≠none) pl H c k:=RA.track2.2 h
theorem RAs.length:∀{v:List V}{d:List D},RAs K ok pl H v d->v.length=d.length
 |_,_,.nil=>rfl
 |_,_,.cons _ q=>by simp[RAs.length q]
theorem RAs.get:∀{v:List V}{d:List D}{i:Nat}{x:D},RAs K ok pl H v d->d[i]?=some x->∃y,v[i]?=some y/\RA K ok pl H y x
 |_,_,_,_,.nil,h=>by simp at h
 |_,_,0,_,.cons a _,h=>by simp at h;subst h;exact⟨_,rfl,a⟩
 |_,_,i+1,_,.cons _ q,h=>by
  obtain⟨y,e,r⟩:=RAs.get (i:=i) q (by simpa using h);exact⟨y,by simpa using e,r⟩
theorem RAs.append:∀{v O:List V}{d d':List D},RAs K ok pl H v d->RAs K ok pl H O d'->RAs K ok pl H (v++O) (d++d')
 |_,_,_,_,.nil,q=>q
 |_,_,_,_,.cons a r,q=>.cons a (RAs.append r q)
theorem RAs.set(r:RA K ok pl H c y):∀{v:List V}{d:List D}(i:Nat),RAs K ok pl H v d->RAs K ok pl H (v.set i c) (d.set i y)
 |_,_,_,.nil=>.nil
 |_,_,0,.cons _ q=>.cons r q
 |_,_,i+1,.cons a q=>.cons a (RAs.set r i q)
theorem RAs.take:∀{v:List V}{d:List D}(n:Nat),RAs K ok pl H v d->RAs K ok pl H (v.take n) (d.take n)
 |_,_,0,_=>by simp;exact .nil
 |_,_,_+1,.nil=>.nil
 |_,_,n+1,.cons a q=>.cons a (RAs.take n q)
theorem RAs.drop:∀{v:List V}{d:List D}(n:Nat),RAs K ok pl H v d->RAs K ok pl H (v.drop n) (d.drop n)
 |_,_,0,q=>q
 |_,_,_+1,.nil=>.nil
 |_,_,n+1,.cons _ q=>RAs.drop n q
theorem RAs.reverse:∀{v:List V}{d:List D},RAs K ok pl H v d->RAs K ok pl H v.reverse d.reverse
 |_,_,.nil=>.nil
 |_,_,.cons a q=>by
  rw[ji,ji];exact(RAs.reverse q).append (.cons a .nil)
def RA.rd2:(∀{v:V}{d:D},RA K ok pl H v d->d.canLay0=true->RdV K H v d)/\∀{v:List V}{d:List D},RAs K ok pl H v d->ew d=true->RdVs K H v d:=
 RA.ind (λ_=>.non) (λb _=>.bl b) (λi _=>.int i) (λx _=>.str x) (λe _ q h=>.lst (SqL.of e) (q (by simpa[ef]using h))) (λe _ q h=>.lst e.sq (q (by simpa[ef]using h))) (λe q h=>.tup e.sq (q (by simpa[ef]using h))) (λ_ _ _ h=>by simp[ef]at h) (λ_ _ _ h=>by simp[ef]at h) (λ_ _ _ _ h=>by simp[ef]at h) (λ_=>.nil) λa q h=>by
  rw[ew,aK]at h;exact .cons (a h.1) (q h.2)
def RA.rd(O:d.canLay0=true)(h:RA K ok pl H v d):RdV K H v d:=RA.rd2.1 h O
def RA.intE(h:RA K ok pl H v (.int c)):v=.int c:=by cases h;rfl
def RA.blE(h:RA K ok pl H v (.bool c)):v=.bl c:=by cases h;rfl
def RA.strE(h:RA K ok pl H v (.str x)):v=.str x:=by cases h;rfl
theorem RA.lstE(h:RA K ok pl H v (.list ds)):∃a xs,v=.ref a/\SqL K H a xs/\RAs K ok pl H xs ds:=by
 cases h with
 |lst e k q=>exact⟨_,_,rfl,SqL.of e,q⟩
 |lsk e k q=>exact⟨_,_,rfl,e.sq,q⟩
theorem RA.dicU(h:RA K ok pl H v (.dict kvs))(hx:isI kvs=false):∃a u,v=.ref a/\L2.Rd H a u/\DH H u kvs:=by
 cases h with
 |dic e g k=>exact⟨_,_,rfl,.inl e,g⟩
 |dik e g k=>exact⟨_,_,rfl,.inr ⟨_,e⟩,g⟩
 |ins _ _ _ e=>rw[e]at hx;cases hx
def RA.dicE(h:RA K ok pl H v (.dict kvs))(O:yN kvs=true):∃a,v=.ref a/\L2.Rd H a (dh0 kvs):=by
 obtain⟨a,u,h1,h2,h3⟩:=h.dicU (Cq O);rw[h3.old O]at h2;exact⟨a,h1,h2⟩
theorem RA.tupE(h:RA K ok pl H v (.tuple ds)):∃a xs,v=.ref a/\SqT K H a xs/\RAs K ok pl H xs ds:=by
 cases h with
 |tup e q=>exact⟨_,_,rfl,e.sq,q⟩
theorem RA.tupE0(h:RA K ok pl H v (.tuple ds)):∃a xs,v=.ref a/\dU H a xs/\RAs K ok pl H xs ds:=by
 cases h with
 |tup e q=>exact⟨_,_,rfl,e,q⟩
end
inductive Fl where
 |A
 |O
 |L
 |N
 |M
 |W
 deriving DecidableEq
def isN:Option Fl->Bool
 |some .N=>true
 |some .M=>true
 |some .W=>true
 |_=>false
mutual
inductive RT(K:aaa)(H:Hp):V->D->List Addr->Prop
 |non:RT K H .non .none []
 |bl (b:Bool):RT K H (.bl b) (.bool b) []
 |int (i:Int):RT K H (.int i) (.int i) []
 |str (x:Str):RT K H (.str x) (.str x) []
 |lst {a:Addr} {xs:List V} {ds:List D} {as:List Addr}:H a=some (.lst xs)->RTs K H xs ds as->RT K H (.ref a) (.list ds) (a::as)
 |tup {a:Addr} {xs:List V} {ds:List D} {as:List Addr}:dU H a xs->RTs K H xs ds as->RT K H (.ref a) (.tuple ds) as
 |dic {a:Addr} {u:HO} {kvs:List (D×D)}:H a=some u->DH H u kvs->RT K H (.ref a) (.dict kvs) [a]
 |ins {a C dx:Addr} {fs:List (Str×V)} {ds:List D} {kvs:List (D×D)} {as:List Addr}:H a=some (.ins C dx fs)->H dx=some (.own a)->RTs K H (fs.map (·.2)) ds as->kvs=tZ C (fs.map (·.1)) ds->RT K H (.ref a) (.dict kvs) as
inductive RTs(K:aaa)(H:Hp):List V->List D->List Addr->Prop
 |nil:RTs K H [] [] []
 |cons {v:V} {d:D} {vs:List V} {ds:List D} {as bs:List Addr}:RT K H v d as->RTs K H vs ds bs->RTs K H (v::vs) (d::ds) (as++bs)
end
section
variable{H H':Hp}
def RT.ind{P:V->D->List Addr->Prop}{Q:List V->List D->List Addr->Prop}(c1:P .non .none [])(c2:∀b,P (.bl b) (.bool b) [])(c3:∀i,P (.int i) (.int i) [])(c4:∀x,P (.str x) (.str x) [])
 (c5:∀{a:Addr}{xs:List V}{ds:List D}{as:List Addr},H a=some (.lst xs)->Q xs ds as->P (.ref a) (.list ds) (a::as)) (c7:∀{a:Addr}{xs:List V}{ds:List D}{as:List Addr},dU H a xs->Q xs ds as->P (.ref a) (.tuple ds) as)
 (Z:∀{a:Addr}{u:HO}{kvs:List (D×D)},H a=some u->DH H u kvs->P (.ref a) (.dict kvs) [a]) (O:∀{a C dx:Addr}{fs:List (Str×V)}{ds:List D}{kvs:List (D×D)}{as:List Addr},H a=some (.ins C dx fs)->H dx=some (.own a)->RTs K H (fs.map (·.2)) ds as->Q (fs.map (·.2)) ds as->kvs=tZ C (fs.map (·.1)) ds->P (.ref a) (.dict kvs) as) (Y:Q [] [] []) (U:∀{v:V}{d:D}{vs:List V}{ds:List D}{as bs:List Addr},P v d as->Q vs ds bs->Q (v::vs) (d::ds) (as++bs)):
 (∀{v:V}{d:D}{as:List Addr},RT K H v d as->P v d as)/\∀{v:List V}{d:List D}{as:List Addr},RTs K H v d as->Q v d as:=
 ⟨λh=>RT.rec (motive_1:=λv d as _=>P v d as) (motive_2:=λv d as _=>Q v d as) c1 c2 c3 c4 (λh _ q=>c5 h q) (λh _ q=>c7 h q) (λh g=>Z h g) (λh g r e q=>O h g r q e) Y (λ_ _ a q=>U a q) h,
  λh=>RTs.rec (motive_1:=λv d as _=>P v d as) (motive_2:=λv d as _=>Q v d as) c1 c2 c3 c4 (λh _ q=>c5 h q) (λh _ q=>c7 h q) (λh g=>Z h g) (λh g r e q=>O h g r q e) Y (λ_ _ a q=>U a q) h⟩
theorem RTs.len:∀{v:List V}{d:List D}{as:List Addr},RTs K H v d as->v.length=d.length
 |_,_,_,.nil=>rfl
 |_,_,_,.cons _ q=>by rw[aO,aO,RTs.len q]
def RT.ra2 : (∀{v:V}{d:D}{as:List Addr},RT K H v d as->(∀a∈as,ok a)->RA K ok pl H v d)/\∀{v:List V}{d:List D}{as:List Addr},RTs K H v d as->(∀a∈as,ok a)->RAs K ok pl H v d:=
 RT.ind (λ_=>.non) (λb _=>.bl b) (λi _=>.int i) (λx _=>.str x) (λe q h=>.lst e (h _ au) (q λa ha=>h a (aA _ ha))) (λe q h=>.tup e (q h)) (λe g h=>.dic e g (h _ au)) (λe g _ q Z h=>.ins e g (q h) Z) (λ_=>.nil) λe q h=>.cons (e λa ha=>h a (bI _ ha)) (q λa ha=>h a (aP _ ha))
def RT.ra(r:RT K H v d c)(h:∀a∈c,ok a):RA K ok pl H v d:=RT.ra2.1 r h
def RTs.ra(r:RTs K H c k m)(h:∀a∈m,ok a):RAs K ok pl H c k:=RT.ra2.2 r h
def RT.same2(s:Same H H'):(∀{v:V}{d:D}{as:List Addr},RT K H v d as->RT K H' v d as)/\∀{v:List V}{d:List D}{as:List Addr},RTs K H v d as->RTs K H' v d as:=
 RT.ind .non .bl .int .str (λe q=>.lst (s _ _ e) q) (λe q=>.tup (dU.same s e) q) (λe g=>.dic (s _ _ e) (g.same s)) (λe g _ q Z=>.ins (s _ _ e) (s _ _ g) q Z) .nil .cons
def RT.same(s:Same H H'){as:List Addr}(h:RT K H c k as):RT K H' c k as:=(RT.same2 s).1 h
def RTs.same(s:Same H H'){as:List Addr}(h:RTs K H c k as):RTs K H' c k as:=(RT.same2 s).2 h
def RT.upd2[O:Chg u](h:H a=some u):(∀{v:V}{d:D}{as:List Addr},RT K H v d as->a∉as->RT K (upd H a c) v d as)/\∀{v:List V}{d:List D}{as:List Addr},RTs K H v d as->a∉as->RTs K (upd H a c) v d as:=
 RT.ind (λ_=>.non) (λb _=>.bl b) (λi _=>.int i) (λx _=>.str x) (λe q Z=>.lst (by rwa[aL (λz=>Z (by rw[<-z];exact au))]) (q λz=>Z (aA _ z))) (λe q Z=>.tup (dU.upd h e) (q Z)) (λe g Z=>.dic (by rwa[aL (λz=>Z (by rw[<-z];exact au))]) (g.upd h)) (λe g _ q Y Z=>.ins (by rwa[aL (cF e h (by intro z;subst z;exact O.ins))]) (by rwa[aL (cF g h (by intro z;subst z;exact O.own))]) (q Z) Y) (λ_=>.nil) λe q Z=>.cons (e λz=>Z (bI _ z)) (q λz=>Z (aP _ z))
def RT.upd{o:HO}[U:Chg u](h:H a=some u)(O:a∉m)(r:RT K H c k m):RT K (upd H a o) c k m:=(RT.upd2 h).1 r O
def RTs.upd{o:HO}[U:Chg u](h:H a=some u)(O:a∉m)(r:RTs K H c k m):RTs K (upd H a o) c k m:=(RT.upd2 h).2 r O
def RT.chd2:(∀{v:V}{d:D}{as:List Addr},RT K H v d as->∀a∈as,Chd (H a))/\∀{v:List V}{d:List D}{as:List Addr},RTs K H v d as->∀a∈as,Chd (H a):=
 RT.ind (λ_ h=>by cases h) (λ_ _ h=>by cases h) (λ_ _ h=>by cases h) (λ_ _ h=>by cases h) (λe q a h=>by
  rcases aC.mp h with rfl|z
  .exact⟨_,e,inferInstance⟩
  .exact q a z) (λ_ q=>q) (λe g a h=>by rw[bJ.mp h];exact⟨_,e,g.chg⟩) (λ_ _ _ q _=>q) (λ_ h=>by cases h) λe q a h=>by
  rcases bO.mp h with z|z
  .exact e a z
  .exact q a z
def RT.chd(r:RT K H v d c):∀a∈c,Chd (H a):=RT.chd2.1 r
def RTs.chd(r:RTs K H c k m):∀a∈m,Chd (H a):=RT.chd2.2 r
def RT.tracked(h:RT K H v d c)(a:Addr)(ha:a∈c):H a≠none:=(h.chd a ha).ne
def RTs.tracked(h:RTs K H c k m)(a:Addr)(ha:a∈m):H a≠none:=(h.chd a ha).ne
def RA.rt2{ok:Ok}:(∀{v:V}{d:D},RA K ok false H v d->∃as,RT K H v d as/\as.length=nl d/\∀a∈as,ok a)/\∀{v:List V}{d:List D},RAs K ok false H v d->∃as,RTs K H v d as/\as.length=nls d/\∀a∈as,ok a:=
 RA.ind ⟨[],.non,rfl,λ_ h=>by cases h⟩ (λb=>⟨[],.bl b,rfl,λ_ h=>by cases h⟩) (λi=>⟨[],.int i,rfl,λ_ h=>by cases h⟩) (λx=>⟨[],.str x,rfl,λ_ h=>by cases h⟩) (λe k q=>by
  obtain⟨as,h1,h2,h3⟩:=q;refine⟨_::as,.lst e h1,by rw[aO,h2,nl],λa ha=>?_⟩;rcases aC.mp ha with rfl|z
  .exact k
  .exact h3 a z) (λ_ k _=>by cases k) (λe q=>by
  obtain⟨as,h1,h2,h3⟩:=q;exact⟨as,.tup e h1,by rw[h2,nl],h3⟩) (λe g k=>⟨[_],.dic e g,by rw[nl,g.isI];rfl,λa ha=>by rwa[bJ.mp ha]⟩) (λ_ _ k=>by cases k) (λ{a C dx fs ds kvs} e g q Z=>by
  obtain⟨as,h1,h2,h3⟩:=q;have Y:(fs.map (·.1)).length=ds.length:=by rw[<-RTs.len h1,ak,ak]
  exact⟨as,.ins e g h1 Z,by rw[h2,Z,nl];show _=nl (.tuple [.int (C:Int)])+nlk (Ck _ _);rw[Qe Y];simp[nl,nls],h3⟩) ⟨[],.nil,rfl,λ_ h=>by cases h⟩ λe q=>by
  obtain⟨as,h1,h2,h3⟩:=e;obtain⟨bs,g1,g2,g3⟩:=q;refine⟨as++bs,.cons h1 g1,by rw[aV,h2,g2,nls],λa ha=>?_⟩;rcases bO.mp ha with z|z
  .exact h3 a z
  .exact g3 a z
def RA.rt(h:RA K ok false H v d):∃as,RT K H v d as/\as.length=nl d/\∀a∈as,ok a:=RA.rt2.1 h
end
def tabs:List (Addr×Str×Pos):=[]
def Tb(H:Hp):Prop:=∀t∈tabs,H t.1=some (.tbl t.2.1 t.2.2)
def Tb.same(t:Tb H)(s:Same H H'):Tb H':=λx hx=>s _ _ (t x hx)
structure Gh where
 H0:Hp
 HF:Hp
 pk:Nat->Option Addr
 pn:Nat->List Addr
 tb:Tb H0
 fv:Nat->Option V
structure Ow where
 s:Nat->Option Addr
 n:Nat->List Addr:=λ_=>[]
instance:CoeFun Ow (λ_=>Nat->Option Addr):=⟨Ow.s⟩
abbrev ow0:Ow:=⟨λ_=>none,λ_=>[]⟩
noncomputable def okA(ow:Ow):Ok:=λa=>(∀i,ow i≠some a)/\∀i,a∉ow.n i
structure Rel(K:aaa)(fl:List Fl)(G:Gh)(ow:Ow)(σ:St)(H:Hp)(δ:DS):Prop where
 s0:Same G.H0 G.HF
 s1:Same G.HF H
 len:σ.length=δ.length
 own:∀i a,ow i=some a->G.H0 a=none/\((fl[i]?=some .O/\G.HF a=none)\/(fl[i]?=some .L/\∃xs,G.HF a=some (.lst xs))) /\
  ∃xs ds,σ[i]?=some (some (.ref a))/\H a=some (.lst xs)/\RAs K (okA ow) true H xs ds/\δ[i]?=some (some (.d (.list ds)))
 inj:∀i j a,ow i=some a->ow j=some a->i=j
 pin:∀i,fl[i]?=some .L->ow i=G.pk i
 dat:∀i d,δ[i]?=some (some (.d d))->isN fl[i]?=false->ow i=none->∃v,σ[i]?=some (some v)/\RA K (okA ow) true H v d
 oo:∀i d,δ[i]?=some (some (.d d))->isN fl[i]?=false->fl[i]? ≠ some .A->ow i=none->flat d=true
 nt:∀i a,a∈ow.n i->G.H0 a=none/\Chd (H a)/\(((fl[i]?=some .N\/fl[i]?=some .W)/\G.HF a=none)\/fl[i]?=some .M)
 nd:∀i j a,a∈ow.n i->a∈ow.n j->i=j
 ns:∀i j a,a∈ow.n i->ow j≠some a
 np:∀i,fl[i]?=some .M->ow.n i=G.pn i
 nr:∀i d,isN fl[i]?=true->δ[i]?=some (some (.d d))->∃v,σ[i]?=some (some v)/\RT K H v d (ow.n i)/\(ow.n i).Nodup
 fx:∀i v,fl[i]?=some .W->G.fv i=some v->σ[i]?=some (some v)
def Rel.tb{fl:List Fl}{G:Gh}{ow:Ow}{σ:St}(R:Rel K fl G ow σ H δ):Tb H:=G.tb.same (R.s0.trans R.s1)
def Rel.same0(R:Rel K fl G ow σ H δ):Same G.H0 H:=R.s0.trans R.s1
def Rel.grow{fl:List Fl}{G:Gh}{ow:Ow}{σ:St}(R:Rel K fl G ow σ H δ)(e:Same H H'):Rel K fl G ow σ H' δ:=
 ⟨R.s0,R.s1.trans e,R.len,λi a h=>by
  obtain⟨Y,Z,xs,ds,h1,h2,h3,h4⟩:=R.own i a h;exact⟨Y,Z,xs,ds,h1,e _ _ h2,h3.same e,h4⟩,R.inj,R.pin,λi d h1 hn h2=>by
  obtain⟨v,h3,h4⟩:=R.dat i d h1 hn h2;exact⟨v,h3,h4.same e⟩,R.oo,λi a h=>by
  obtain⟨h1,h2,h3⟩:=R.nt i a h;exact⟨h1,(let⟨u,z,c⟩:=h2;⟨u,e _ _ z,c⟩),h3⟩,R.nd,R.ns,R.np,λi d h1 h2=>by
  obtain⟨v,h3,h4,h5⟩:=R.nr i d h1 h2;exact⟨v,h3,h4.same e,h5⟩,R.fx⟩
inductive Kd where
 |P
 |B (L:List Nat)
 |A
 |R
 |F
 |C
 |FC
 |T
noncomputable def ok1:Ok:=λ_=>True
noncomputable def ok0:Ok:=λ_=>False
def okN(H:Hp):Ok:=λa=>H a=none
def Rs(K:aaa)(H0:Hp)(ow:Ow)(Hb H:Hp):Kd->V->D->Prop
 |.P,v,d=>RA K ok1 true H v d
 |.B L,v,d=>RA K (okA ow) true H v d\/∃i∈L,∃a xs ds,ow i=some a/\v=.ref a/\d=.list ds/\H a=some (.lst xs)/\RAs K (okA ow) true H xs ds
 |.A,v,d=>RA K (okA ow) true H v d
 |.R,v,d=>RA K (okN H0) false H v d
 |.F,v,d=>(flat d=true/\RA K ok0 false H v d)\/∃a xs ds,v=.ref a/\d=.list ds/\Hb a=none/\H a=some (.lst xs)/\RAs K (λb=>okA ow b/\b≠a) true H xs ds
 |.C,v,d=>RA K (okN Hb) false H v d
 |.T,v,d=>∃as,RT K H v d as/\as.Nodup/\∀a∈as,Hb a=none
 |.FC,v,d=>(flat d=true/\RA K ok0 false H v d)\/∃a xs ds,v=.ref a/\d=.list ds/\Hb a=none/\H a=some (.lst xs)/\RAs K (λb=>okN Hb b/\b≠a) false H xs ds
section
variable{Hb H H':Hp}{fl:List Fl}{G:Gh}{ow:Ow}{σ:St}{δ:DS}{v:V}{d:D}
def Cr(R:Rel K fl G ow σ Hb δ)(h:Hb c=none):okA ow c:=⟨λi e=>(by
 obtain⟨_,_,xs,_,_,h2,_⟩:=R.own i c e;rw[h]at h2
 cases h2),λi e=>(R.nt i c e).2.1.ne h⟩
def ag8(R:Rel K fl G ow σ Hb δ)(h:Hb c=none):okN G.H0 c:=R.same0.free h
def Rs.FC_F(R:Rel K fl G ow σ Hb δ)(h:Rs K G.H0 ow Hb H .FC v d):Rs K G.H0 ow Hb H .F v d:=by
 rcases h with h|⟨a,xs,ds,h1,h2,h3,h4,h5⟩
 .exact .inl h
 .exact .inr ⟨a,xs,ds,h1,h2,h3,h4,h5.imp (λb z=>⟨Cr R z.1,z.2⟩) (λ_=>rfl)⟩
def Rs.FC_C(h:Rs K G.H0 ow Hb H .FC v d):Rs K G.H0 ow Hb H .C v d:=by
 rcases h with h|⟨a,xs,ds,rfl,rfl,h3,h4,h5⟩
 .exact RA.flat h.1 h.2
 .exact .lst h4 h3 (h5.imp (λb z=>z.1) (λz=>z))
def Rs.F_A(R:Rel K fl G ow σ Hb δ)(h:Rs K G.H0 ow Hb H .F v d):Rs K G.H0 ow Hb H .A v d:=by
 rcases h with h|⟨a,xs,ds,rfl,rfl,h3,h4,h5⟩
 .exact RA.flat h.1 h.2
 .exact .lst h4 (Cr R h3) (h5.imp (λb z=>z.1) (λz=>z))
def Rs.C_A(R:Rel K fl G ow σ Hb δ)(h:Rs K G.H0 ow Hb H .C v d):Rs K G.H0 ow Hb H .A v d:=RA.imp (λ_ z=>Cr R z) (λ_=>rfl) h
def Rs.C_R(R:Rel K fl G ow σ Hb δ)(h:Rs K G.H0 ow Hb H .C v d):Rs K G.H0 ow Hb H .R v d:=RA.imp (λ_ z=>ag8 R z) (λz=>z) h
def Rs.A_B(L:List Nat)(h:Rs K G.H0 ow Hb H .A v d):Rs K G.H0 ow Hb H (.B L) v d:=.inl h
def Rs.B_P(h:Rs K G.H0 ow Hb H (.B L) v d):Rs K G.H0 ow Hb H .P v d:=by
 rcases h with h|⟨i,_,a,xs,ds,_,rfl,rfl,h4,h5⟩
 .exact RA.imp (λ_ _=>trivial) (λz=>z) h
 .exact .lst h4 trivial (h5.imp (λ_ _=>trivial) (λz=>z))
def Rs.P_flat(O:flat d=true)(h:Rs K G.H0 ow Hb H .P v d):Rs K G.H0 ow Hb H .FC v d:=.inl ⟨O,RA.flat O h⟩
def Rs.C_fl1(O:fl1 d=true)(h:Rs K G.H0 ow Hb H .C v d):Rs K G.H0 ow Hb H .FC v d:=by
 by_cases e:∃ds,d=.list ds
 .obtain⟨ds,rfl⟩:=e
  cases h with
  |lst e k q=>exact .inr ⟨_,_,_,rfl,rfl,k,e,RAs.flat O q⟩
  |lsk e k q=>cases k
 .have Z:flat d=true:=by
   cases d<;>first|exact O|exact absurd ⟨_,rfl⟩ e
  exact .inl ⟨Z,RA.flat Z h⟩
def Rs.F_fl1(O:fl1 d=true)(h:Rs K G.H0 ow Hb H .F v d):Rs K G.H0 ow Hb H .FC v d:=by
 rcases h with h|⟨a,xs,ds,h1,h2,h3,h4,h5⟩
 .exact .inl h
 .subst h2;exact .inr ⟨a,xs,ds,h1,rfl,h3,h4,RAs.flat O h5⟩
end
noncomputable def tD(K:aaa)(fl:List Fl)(k:Kd)(f:FE):TE:=λσ H Q=>∃G ow δ d,Rel K fl G ow σ H δ/\f δ=some d/\∀v H',Same H H'->Rs K G.H0 ow H H' k v d->Q v H'
abbrev DE(X:Cx)(fl:List Fl)(k:Kd)(e:Expr)(f:FE):Prop:=PE X e (tD X.K fl k f)
def tDA(K:aaa)(fl:List Fl)(f:FA):TA:=λσ H Q=>∃G ow δ ds,Rel K fl G ow σ H δ/\f δ=some ds/\∀vs H',Same H H'->RAs K ok1 true H' vs ds->Q vs H'
abbrev DA(X:Cx)(fl:List Fl)(es:List Expr)(f:FA):Prop:=PA X es (tDA X.K fl f)
def tDT(K:aaa)(fl:List Fl)(f:FT):TT:=λσ H Q=>∃G ow δ b,Rel K fl G ow σ H δ/\f δ=some b/\∀H',Same H H'->Q b H'
abbrev DT(X:Cx)(fl:List Fl)(e:Expr)(f:FT):Prop:=PT X e (tDT X.K fl f)
abbrev DW(X:Cx)(fl:List Fl)(e:Expr)(f:FT):Prop:=PW X e (tDT X.K fl f)
def yO(K:aaa)(fl:List Fl)(G:Gh)(O:Ends):Oc->Prop
 |.nx δ'=>∀ow' σ' H',Rel K fl G ow' σ' H' δ'->O.nx σ' H'
 |.rt d=>∀v H',Same G.H0 H'->RA K (okN G.H0) false H' v d->O.rt v H'
 |.bk δ'=>∀ow' σ' H',Rel K fl G ow' σ' H' δ'->O.bk σ' H'
 |.ct δ'=>∀ow' σ' H',Rel K fl G ow' σ' H' δ'->O.ct σ' H'
 |.ex _ _ d=>∀v H',Same G.H0 H'->RA K ok1 true H' v d->O.rt v H'
def tDS(K:aaa)(fl:List Fl)(f:FS):TS:=λZ σ H=>∃G ow δ o,Rel K fl G ow σ H δ/\f δ=some o/\yO K fl G Z o
abbrev DS1(X:Cx)(fl:List Fl)(s:et)(f:FS):Prop:=PS X s (tDS X.K fl f)
abbrev DSs(X:Cx)(fl:List Fl)(s:List et)(f:FS):Prop:=PSs X s (tDS X.K fl f)
def tDG(K:aaa)(fl:List Fl)(tg:List Nat)(g:FG):TG:=λv σ H Q=>∃G ow δ d δ',Rel K fl G ow σ H δ/\RA K (okA ow) true H v d/\g d δ=some δ'/\∀σ',Rel K fl G ow σ' H δ'->(∀j,j∉tg->σ'[j]?=σ[j]?)->Q σ' H
abbrev DG(X:Cx)(fl:List Fl)(tg:List Nat)(e:Expr)(g:FG):Prop:=PG X e (tDG X.K fl tg g)
section
variable{X:Cx}{st:et}
def PE.imp(h:PE X e t)(i:∀σ H Q,t' σ H Q->t σ H Q):PE X e t':=λpins s σ H Q I q=>h pins s σ H Q I (i σ H Q q)
def PT.imp(h:PT X e t)(i:∀σ H Q,t' σ H Q->t σ H Q):PT X e t':=λpins s σ H Q I q=>h pins s σ H Q I (i σ H Q q)
def PW.imp(h:PW X e t)(i:∀σ H Q,t' σ H Q->t σ H Q):PW X e t':=λw pins s σ H Q I q=>h w pins s σ H Q I (i σ H Q q)
def PA.imp(h:PA X es t)(i:∀σ H Q,t' σ H Q->t σ H Q):PA X es t':=λp pins s σ H Q I q=>h p pins s σ H Q I (i σ H Q q)
def PS.imp(h:PS X st t)(i:∀D σ H,t' D σ H->t D σ H):PS X st t':=λpins s σ H D I q=>h pins s σ H D I (i D σ H q)
def PSs.imp(h:PSs X sts t)(i:∀D σ H,t' D σ H->t D σ H):PSs X sts t':=λpins s σ H D I q=>h pins s σ H D I (i D σ H q)
def PG.imp(h:PG X e t)(i:∀v σ H Q,t' v σ H Q->t v σ H Q):PG X e t':=λpins s σ H v u Q I r q=>h pins s σ H v u Q I r (i v σ H Q q)
end
end D3
variable{G:D3.Gh}{ow:D3.Ow}{fl':List D3.Fl}
variable{g:D3.D->D3.D->Option D3.D}{j:Int}
namespace D3
open L2 My
section
variable{X:Cx}{fl:List Fl}{a b c:Expr}{k:Kd}{f fa:FE}
def eX(h:ao i δ=some d):δ[i]?=some (some (.d d)):=by
 unfold ao at h;split at h
 .next x e=>rw[e];cases h;rfl
 .cases h
theorem oM(i:Nat)(U:X.N[i]?=some m:=by rfl)(O:Vis X.env.scope m:=by first|exact Or.inl rfl|exact Or.inr (Or.inl rfl)|exact Or.inr (Or.inr rfl))(hd:(m==("__debug__":Str))=false:=by decide)
 (hcd:(m==("__classdict__":Str))=false:=by decide) (hn:isN fl[i]?=false:=by rfl):DE X fl (.B [i]) (.Name m pos) (ao i):=by
 refine PE.imp (fW U O hd hcd) λσ H Q h=>?_
 refine bV h λG ow δ d R Y q=>?_
 have e:=eX Y
 cases Z:ow i with
 |none=>
  obtain⟨v,h1,h2⟩:=R.dat i d e hn Z;exact⟨v,h1,q v H (Same.refl H) (.inl h2)⟩
 |some a=>
  obtain⟨W,_,xs,ds,h1,h2,h3,h4⟩:=R.own i a Z;rw[e]at h4
  cases h4;exact⟨_,h1,q _ H (Same.refl H) (.inr ⟨i,bJ.mpr rfl,a,xs,ds,Z,rfl,rfl,h2,h3⟩)⟩
theorem Cu(i:Nat)(O:fl[i]?=some .A)(hN:X.N[i]?=some m:=by rfl)(U:Vis X.env.scope m:=by first|exact Or.inl rfl|exact Or.inr (Or.inl rfl)|exact Or.inr (Or.inr rfl))(hd:(m==("__debug__":Str))=false:=by decide)
 (hcd:(m==("__classdict__":Str))=false:=by decide):DE X fl .A (.Name m pos) (ao i):=by
 refine PE.imp (fW hN U hd hcd) λσ H Q h=>?_
 refine bV h λG ow δ d R W q=>?_
 have e:=eX W
 cases Y:ow i with
 |none=>
  obtain⟨v,h1,h2⟩:=R.dat i d e (by rw[O];rfl) Y;exact⟨v,h1,q v H (Same.refl H) h2⟩
 |some a=>
  obtain⟨V,Z,_⟩:=R.own i a Y;rw[O]at Z;rcases Z with⟨z,_⟩|⟨z,_⟩<;>cases z
theorem vD(i:Nat)(O:fl[i]? ≠ some .A)(hN:X.N[i]?=some m:=by rfl)(U:Vis X.env.scope m:=by first|exact Or.inl rfl|exact Or.inr (Or.inl rfl)|exact Or.inr (Or.inr rfl))(hd:(m==("__debug__":Str))=false:=by decide)
 (hcd:(m==("__classdict__":Str))=false:=by decide) (hn:isN fl[i]?=false:=by rfl):DE X fl .R (.Name m pos) (uF (ao i)):=by
 refine PE.imp (fW hN U hd hcd) λσ H Q h=>?_
 refine bV h λG ow δ d R Z q=>?_
 unfold uF at Z
 cases Y:ao i δ with
 |none=>rw[Y]at Z;cases Z
 |some S=>
  rw[Y,aj]at Z;by_cases V:fl1 S=true
  .rw[if_pos V]at Z
   cases Z;have e:=eX Y
   cases W:ow i with
   |none=>
    obtain⟨v,h1,h2⟩:=R.dat i d e hn W;exact⟨v,h1,q v H (Same.refl H) (RA.flat (R.oo i d e hn O W) h2)⟩
   |some a=>
    obtain⟨T,_,xs,ds,h1,h2,h3,h4⟩:=R.own i a W;rw[e]at h4
    cases h4;exact⟨_,h1,q _ H (Same.refl H) (.lst h2 T (RAs.flat V h3))⟩
  .rw[if_neg V]at Z
   cases Z
def qj(h:DE X fl k e f)(U:∀(Hb H:Hp)(G:Gh)(ow:Ow)(σ:St)(δ:DS)(v:V)(d:D),Rel X.K fl G ow σ Hb δ->Rs X.K G.H0 ow Hb H k v d->Rs X.K G.H0 ow Hb H O v d):DE X fl O e f:=by
 refine PE.imp h λσ H Q h=>?_
 refine bV h λG ow δ d R Z q=>?_
 exact⟨G,ow,δ,d,R,Z,λv H' s r=>q v H' s (U _ _ G ow σ δ v d R r)⟩
theorem rY{p:D->Bool}(h:DE X fl k e f)(U:∀(Hb H:Hp)(G:Gh)(ow:Ow)(σ:St)(δ:DS)(v:V)(d:D),p d=true->Rel X.K fl G ow σ Hb δ->Rs X.K G.H0 ow Hb H k v d->Rs X.K G.H0 ow Hb H O v d):
 DE X fl O e (λδ=>(f δ).bind λd=>if p d=true then some d else none):=by
 refine PE.imp h λσ H Q h=>?_
 refine bV h λG ow δ d R Z q=>?_
 dsimp only at Z
 cases Y:f δ with
 |none=>rw[Y]at Z;cases Z
 |some T=>
  rw[Y,aj]at Z;by_cases W:p T=true
  .rw[if_pos W]at Z
   cases Z;exact⟨G,ow,δ,d,R,Y,λv H' s r=>q v H' s (U _ _ G ow σ δ v d W R r)⟩
  .rw[if_neg W]at Z
   cases Z
def yP(h:DE X fl .FC e f):DE X fl .F e f:=qj h λ_ _ _ _ _ _ _ _ R r=>r.FC_F R
def fj(h:DE X fl .FC e f):DE X fl .C e f:=qj h λ_ _ _ _ _ _ _ _ R r=>r.FC_C
def Qf(h:DE X fl .F e f):DE X fl .A e f:=qj h λ_ _ _ _ _ _ _ _ R r=>r.F_A R
def wW(h:DE X fl .C e f):DE X fl .A e f:=qj h λ_ _ _ _ _ _ _ _ R r=>r.C_A R
def Xl(h:DE X fl .C e f):DE X fl .R e f:=qj h λ_ _ _ _ _ _ _ _ R r=>r.C_R R
def nj(h:DE X fl .A e f):DE X fl (.B []) e f:=qj h λ_ _ _ _ _ _ _ _ R r=>Rs.A_B [] r
def FQ(h:DE X fl (.B L) e f):DE X fl .P e f:=qj h λ_ _ _ _ _ _ _ _ R r=>r.B_P
def jE(h:DE X fl .P e f):DE X fl .FC e (eN f):=rY h λ_ _ _ _ _ _ _ _ Z R r=>r.P_flat Z
def Qg(h:DE X fl .C e f):DE X fl .FC e (uF f):=rY h λ_ _ _ _ _ _ _ _ Z R r=>r.C_fl1 Z
def YJ(h:DE X fl .F e f):DE X fl .FC e (uF f):=rY h λ_ _ _ _ _ _ _ _ Z R r=>r.F_fl1 Z
def fu(h:DE X fl .FC e f):DE X fl .A e f:=Qf (yP h)
def dg(h:DE X fl .FC e f):DE X fl .R e f:=Xl (fj h)
def dY(h:DE X fl .A e f):DE X fl .P e f:=FQ (nj h)
def gF(h:DE X fl .C e f):DE X fl .P e f:=dY (wW h)
def aZ(h:DE X fl .FC e f):DE X fl .P e f:=dY (fu h)
def Xm(h:DE X fl .F e f):DE X fl .P e f:=dY (Qf h)
def yQ(h:PE X e (tC v))(U:flat d=true)(O:∀H,RA X.K ok0 false H v d):DE X fl .FC e (dC d):=by
 refine PE.imp h λσ H Q h=>?_
 refine bV h λG ow δ Z R hd q=>?_
 cases hd;exact q v H (Same.refl H) (.inl ⟨U,O H⟩)
def Cv{i j pos}:DE X fl .FC (.Constant (.int i) j pos) (dC (.int i)):=yQ Yg rfl λ_=>.int _
def j9{b j pos}:DE X fl .FC (.Constant (.bool b) j pos) (dC (.bool b)):=yQ ae5 rfl λ_=>.bl _
def Cw{j pos}:DE X fl .FC (.Constant .none j pos) (dC .none):=yQ Yh rfl λ_=>.non
def qp{x j pos}:DE X fl .FC (.Constant (.str x) j pos) (dC (.str x)):=yQ Yi rfl λ_=>.str _
def Kg(h:∃t,X.mg x=some (.int m t))(O:Gl X x:=by rfl)(hd:(x==("__debug__":Str))=false:=by decide):DE X fl .FC (.Name x pos) (dC (.int m)):=by
 obtain⟨t,h⟩:=h;exact yQ (Ut (v:=.int m) O h ⟨t,rfl⟩ hd) rfl λ_=>.int _
def BrO(K:aaa)(r:R2)(g:D->D->Option D):Prop:=∀(H:Hp)(x y:V)(dx Z d:D)(Q:VK),RA K ok1 true H x dx->RA K ok1 true H y Z->g dx Z=some d->(∀v,flat d=true->RA K ok0 false H v d->Q v H)->r x y H Q
theorem ug(h:dOp g fa fb δ=some d):∃x y,fa δ=some x/\fb δ=some y/\g x y=some d:=by
 unfold dOp at h
 cases ha:fa δ with
 |none=>rw[ha]at h;cases h
 |some x=>
  rw[ha,aj]at h
  cases hb:fb δ with
  |none=>rw[hb]at h;cases h
  |some y=>
   rw[hb,aj]at h;exact⟨x,y,rfl,rfl,h⟩
theorem bind1(h:m.bind q=some r):∃y,m=some y/\q y=some r:=by
 cases m with
 |none=>cases h
 |some y=>exact⟨y,rfl,h⟩
def aQ{α β:Type}{x:Option α}{g:α->Option β}{d:β}{G:Prop}(h:x.bind g=some d)(k:∀y,x=some y->g y=some d->G):G:=ex1 (bind1 h) k
def wj{σ:St}(hb:BrO X.K r g)(h:tD X.K fl .FC (dOp g fa fb) σ H m):tOp r (tD X.K fl .P fa) (tD X.K fl .P fb) σ H m:=by
 refine bV h λG ow δ d R W q=>?_
 refine D3.ex2 (ug W) λx y T U V=>?_
 refine⟨G,ow,δ,x,R,T,λv H1 s1 r1=>⟨G,ow,δ,y,R.grow s1,U,λu H2 s2 r2=>?_⟩⟩;exact hb H2 v u x y d m (RA.same s2 r1) r2 V λz Y Z=>q z H2 (s1.trans s2) (.inl ⟨Y,Z⟩)
def eO(O:OpR X (binaryOp op) r)(hb:BrO X.K r g)(h1:DE X fl .P a fa)(h2:DE X fl .P b fb):DE X fl .FC (.BinOp a op b pos) (dOp g fa fb):=
 PE.imp (Xh O h1 h2) λ_ _ _ h=>wj hb h
def IW(O:OpR X (compareOp op) r)(hb:BrO X.K r g)(h1:DE X fl .P a fa)(h2:DE X fl .P b fb)(hm:behindInMarks op b=false):DE X fl .FC (.Compare a [op] [b] pos) (dOp g fa fb):=
 PE.imp (J6 O h1 h2 hm) λ_ _ _ h=>wj hb h
def cM(O:OpR X (compareOp op) r)(hb:BrO X.K r g)(h1:DE X fl .P a fa)(h2:DE X fl .P b fb)(hm:behindInMarks op b=false):DT X fl (.Compare a [op] [b] pos) (bA (dOp g fa fb)):=by
 refine PT.imp (J7 O h1 h2 hm) λσ H Q h=>?_
 refine bV h λG ow δ c R Y q=>?_
 refine aQ Y λd W Z=>?_
 cases d<;>first|(cases Z;done)|skip
 cases Z;refine wj (fl:=fl) (fa:=fa) (fb:=fb) hb ⟨G,ow,δ,_,R,W,λv H' s r=>?_⟩;obtain rfl:=(Rs.FC_C r).blE;exact⟨_,rfl,q H' s⟩
def j_(h:DE X fl .P e f)(O:∀whole,isTrue e X.env whole=(do let v <-whole;standAt e.pos;holding [v] (truthy v)):=by intro _;rfl):DT X fl e (bA f):=by
 refine PT.imp (O2 h O) λσ H Q h=>?_
 refine bV h λG ow δ c R Y q=>?_
 refine aQ Y λd W Z=>?_
 cases d<;>first|(cases Z;done)|skip
 cases Z;refine⟨G,ow,δ,_,R,W,λv H' s r=>?_⟩;obtain rfl:=RA.blE r;exact⟨_,rfl,q H' s⟩
def FZ{g:Int->Int->D}(U:∀i j,flat (g i j)=true)(O:∀H i j,RA K ok0 false H (m i j) (g i j)):BrO K (rI0 m) (gI λi j=>some (g i j)):=by
 intro H x y dx X d Q Y Z e q;unfold gI at e;split at e
 .next i j=>
  cases e;exact⟨i,j,Y.intE,Z.intE,q _ (U i j) (O H i j)⟩
 .cases e
def Vb{g:Int->Int->D}{c:Int->Int->Bool}(hc:∀i j,c i j=true->m i j)(U:∀i j,flat (g i j)=true)(O:∀H i j,RA K ok0 false H (r i j) (g i j)):
 BrO K (rI m r) (gI λi j=>if c i j=true then some (g i j)else none):=by
 intro H x y dx X d Q Y Z e q;unfold gI at e;split at e
 .next i j=>
  dsimp only at e;by_cases z:c i j=true
  .rw[if_pos z]at e
   cases e;exact⟨i,j,Y.intE,Z.intE,hc i j z,q _ (U i j) (O H i j)⟩
  .rw[if_neg z]at e
   cases e
 .cases e
end
section
variable{X:Cx}
def Vc(h:yL c j=true):IntMulOk c j:=by
 unfold yL at h;rw[Bool.or_eq_true,Bool.or_eq_true,aK]at h;rcases h with(h|h)|⟨h1,h2⟩
 .exact IntMulOk.of_left (aav.mpr (of_decide_eq_true h))
 .exact IntMulOk.of_right (aav.mpr (of_decide_eq_true h))
 .exact abp (aav.mpr (of_decide_eq_true h1)) (aav.mpr (of_decide_eq_true h2)) (by decide)
def mQ:OpR X (binaryOp .Mult) (rI (λi j=>yL i j=true) λi j=>.int (i*j)):=opI λ_ _ _ _ _ _ _ Z q=>mul_int q (Vc Z)
def Kh:OpR X (binaryOp .FloorDiv) (rI (λi j=>Iz i j=true) λi j=>.int (i.fdiv j)):=opI λi j _ _ _ _ _ Z q=>by
 unfold Iz at Z;rw[aK]at Z;have h1:=of_decide_eq_true Z.1;have h2:=of_decide_eq_true Z.2;refine floordiv_int h1 q (.inl (PyProof.noPylong_of_log2 ?_));exact(Nat.log2_lt (by lia)).mpr h2
def Vd(h:YF c j=true):Yt c j:=by
 unfold YF at h;rw[aK,aK]at h;have h1:=of_decide_eq_true h.1.1;have h2:=of_decide_eq_true h.1.2;exact⟨h1,by lia,of_decide_eq_true h.2⟩
def nu:BrO K (rI0 λi j=>.int (i+j)) lu:=FZ (λ_ _=>rfl) λ_ _ _=>.int _
def vG:BrO K (rI (λi j=>yL i j=true) λi j=>.int (i*j)) qg:=Vb (λ_ _ h=>h) (λ_ _=>rfl) λ_ _ _=>.int _
def Xn:BrO K (rI (λi j=>Iz i j=true) λi j=>.int (i.fdiv j)) Fx:=Vb (λ_ _ h=>h) (λ_ _=>rfl) λ_ _ _=>.int _
def uh:BrO K (rI (λ_ j=>j≠0) λi j=>.int (i.fmod j)) rF:=Vb (λ_ _ h=>of_decide_eq_true h) (λ_ _=>rfl) λ_ _ _=>.int _
def ag9:BrO K (rI Yt λi j=>.int (i^j.toNat)) YG:=Vb (λ_ _ h=>Vd h) (λ_ _=>rfl) λ_ _ _=>.int _
def b_lt:BrO K (rI0 λi j=>.bl (decide (i<j))) gLt:=FZ (λ_ _=>rfl) λ_ _ _=>.bl _
def Nf:BrO K (rI0 λi j=>.bl (decide (i<=j))) gLe:=FZ (λ_ _=>rfl) λ_ _ _=>.bl _
def au7:BrO K (rI0 λi j=>.bl (decide (j<i))) gGt:=FZ (λ_ _=>rfl) λ_ _ _=>.bl _
def yR:BrO K (rI0 λi j=>.bl (decide (j<=i))) gGe:=FZ (λ_ _=>rfl) λ_ _ _=>.bl _
def Ad:BrO K (ag3 K) gEq:=by
 intro H x y dx Z d Q X Y e q;unfold gEq at e;by_cases z:(dy dx&&dy Z)=true
 .rw[if_pos z]at e
  cases e;rw[aK]at z;exact⟨dx,Z,X.rd (ai z.1),Y.rd (ai z.2),z.1,z.2,q _ rfl (.bl _)⟩
 .rw[if_neg z]at e
  cases e
def Cy:BrO K (ag4 K) gNe:=by
 intro H x y dx Z d Q X Y e q;unfold gNe at e;by_cases z:(dy dx&&dy Z)=true
 .rw[if_pos z]at e
  cases e;rw[aK]at z;exact⟨dx,Z,X.rd (ai z.1),Y.rd (ai z.2),z.1,z.2,q _ rfl (.bl _)⟩
 .rw[if_neg z]at e
  cases e
end
end D3
variable{G:D3.Gh}{ow:D3.Ow}{gs:List D3.D->D3.DS->Option D3.DS}
namespace D3
open L2 My
section
variable{X:Cx}{fl:List Fl}{a b c:Expr}{st:et}{k:Kd}{f fa:FE}{fs gs:FS}
theorem yO.nx_imp(h:yO K fl G O q)(hn:∀δ',q ≠ .nx δ'):yO K fl G {O with nx:=m} q:=by
 cases q with
 |nx δ'=>exact absurd rfl (hn δ')
 |rt d=>exact h
 |bk δ'=>exact h
 |ct δ'=>exact h
 |ex c f v=>exact h
def iB:DSs X fl [] gJ:=PSs.imp xU λY σ H h=>by
 refine bV h λG ow δ o R Z q=>?_
 cases Z;exact q ow σ H R
theorem bB(h1:DS1 X fl st fs)(h2:DSs X fl sts gs):DSs X fl (st::sts) (bZ fs gs):=PSs.imp (vg h1 h2) λU σ H h=>by
 refine bV h λG ow δ o R W q=>?_
 refine aQ W λY V Z=>?_
 refine⟨G,ow,δ,Y,R,V,?_⟩
 cases Y with
 |nx δ'=>exact λow' σ' H' R'=>⟨G,ow',δ',o,R',Z,q⟩
 |rt d=>cases Z;exact yO.nx_imp q (λ_ z=>by cases z)
 |bk d=>cases Z;exact yO.nx_imp q (λ_ z=>by cases z)
 |ct d=>cases Z;exact yO.nx_imp q (λ_ z=>by cases z)
 |ex c f v=>cases Z;exact q
def bN(h1:DS1 X fl st fs):DSs X fl [st] fs:=PSs.imp (xV h1) λ_ _ _ h=>h
def cR(h:DE X fl .R e f):DS1 X fl (.Return (some e) pos) (fO f):=PS.imp (yD h) λV σ H h=>by
 refine bV h λG ow δ o R Z q=>?_
 refine aQ Z λd W Y=>?_
 cases Y;exact⟨G,ow,δ,d,R,W,λv H' s r=>q v H' (R.same0.trans s) r⟩
def Cz(h:DE X fl .P e f)(hs:swapsWith e none pos.line X.env=pure false:=by rfl):DS1 X fl (.Expr e pos) (yK f):=PS.imp (nU h hs) λV σ H h=>by
 refine bV h λG ow δ o R Z q=>?_
 refine aQ Z λd W Y=>?_
 cases Y;exact⟨G,ow,δ,d,R,W,λv H' s r=>q ow σ H' (R.grow s)⟩
theorem nA(O:DT X fl c ft)(h1:DSs X fl body fs)(h2:DSs X fl orelse gs):DS1 X fl (.If c body orelse pos) (sIf ft fs gs):=PS.imp (Fb O h1 h2) λV σ H h=>by
 refine bV h λG ow δ o R Y q=>?_
 refine aQ Y λt W Z=>?_
 refine⟨G,ow,δ,t,R,W,λH' s=>?_⟩
 cases t with
 |true=>exact xJ ⟨G,ow,δ,o,R.grow s,Z,q⟩
 |false=>exact xH ⟨G,ow,δ,o,R.grow s,Z,q⟩
def fK{l:List (Option α)}{x y:α}(h:(l.set i (some x))[m]?=some (some y)):(m=i/\x=y)\/(m≠i/\l[m]?=some (some y)):=by
 rw[List.getElem?_set]at h;by_cases e:i=m
 .subst e;rw[if_pos rfl]at h;by_cases z:i<l.length
  .rw[if_pos z]at h
   cases h;exact .inl ⟨rfl,rfl⟩
  .rw[if_neg z]at h
   cases h
 .rw[if_neg e]at h;exact .inr ⟨λz=>e z.symm,h⟩
def Rel.setA{σ:St}(R:Rel K fl G ow σ H δ)(O:fl[i]?=some .A)(hi:i<σ.length)(r:RA K (okA ow) true H v d):
 Rel K fl G ow (σ.set i (some v)) H (δ.set i (some (.d d))):=by
 have no:∀a,ow i≠some a:=λa z=>by
  obtain⟨_,W,_⟩:=R.own i a z;rw[O]at W;rcases W with⟨z,_⟩|⟨z,_⟩<;>cases z
 refine⟨R.s0,R.s1,by rw[bL,bL];exact R.len,λj a h=>?_,R.inj,R.pin,λj Y h1 hn h2=>?_,λj Y h1 hn h2 h3=>?_,R.nt,R.nd,R.ns,R.np,λj Y hn h1=>?_,λj u h e=>by rw[aB (λz=>by subst z;rw[O]at h;cases h)];exact R.fx j u h e⟩
 .have Z:j≠i:=λz=>no a (z▸h)
  obtain⟨U,V,xs,ds,h1,h2,h3,h4⟩:=R.own j a h;exact⟨U,V,xs,ds,by rwa[aB (dL Z)],h2,h3,by rwa[aB (dL Z)]⟩
 .rcases fK h1 with⟨rfl,e⟩|⟨Z,e⟩
  .cases e;exact⟨v,by rw[bH hi],r⟩
  .obtain⟨X,h3,h4⟩:=R.dat j Y e hn h2;exact⟨X,by rwa[aB (dL Z)],h4⟩
 .rcases fK h1 with⟨rfl,e⟩|⟨Z,e⟩
  .exact absurd O h2
  .exact R.oo j Y e hn h2 h3
 .rcases fK h1 with⟨rfl,e⟩|⟨Z,e⟩
  .rw[O]at hn;cases hn
  .obtain⟨X,h3,h4⟩:=R.nr j Y hn e;exact⟨X,by rwa[aB (dL Z)],h4⟩
def wX(ow:Ow)(i:Nat)(a:Option Addr):Ow:=⟨λj=>if j=i then a else ow j,ow.n⟩
def je{a:Option Addr}:wX ow i a i=a:=if_pos rfl
def fG{a:Option Addr}(h:m≠i):wX ow i a m=ow m:=if_neg h
def Rel.setO{σ:St}(R:Rel K fl G ow σ H δ)(s:Same H H')(U:fl[i]?=some .O)(hi:i<σ.length)(r:Rs K G.H0 ow H H' .F v d):
 ∃ow',Rel K fl G ow' (σ.set i (some v)) H' (δ.set i (some (.d d))):=by
 have R':=R.grow s;have T:∀b,okA ow b->okA (wX ow i none) b:=λb z=>⟨λj e=>by
  by_cases Z:j=i
  .subst Z;rw[je]at e;cases e
  .rw[fG Z]at e;exact z.1 j e,z.2⟩
 have Q:∀j X,isN fl[j]?=true->(δ.set i (some (.d d)))[j]?=some (some (.d X))->∃W,(σ.set i (some v))[j]?=some (some W)/\RT K H' W X (ow.n j)/\(ow.n j).Nodup:=λj X hn h1=>by
  rcases fK h1 with⟨rfl,e⟩|⟨Z,e⟩
  .rw[U]at hn;cases hn
  .obtain⟨W,h3,h4⟩:=R'.nr j X hn e;exact⟨W,by rwa[aB (dL Z)],h4⟩
 rcases r with⟨P,r⟩|⟨a,xs,ds,rfl,rfl,ha,hx,J⟩
 .refine⟨wX ow i none,R'.s0,R'.s1,by rw[bL,bL];exact R.len,λj a h=>?_,λj j' a h h'=>?_,λj h=>?_,λj X h1 hn h2=>?_,λj X h1 hn h2 h3=>?_,R'.nt,R'.nd,λj j' a h h'=>?_,R'.np,Q,λj u h e=>by rw[aB (λz=>by subst z;rw[U]at h;cases h)];exact R.fx j u h e⟩
  .have Z:j≠i:=λz=>by subst z;rw[je]at h;cases h
   rw[fG Z]at h;obtain⟨M,N,xs,ds,h1,h2,h3,h4⟩:=R'.own j a h;exact⟨M,N,xs,ds,by rwa[aB (dL Z)],h2,h3.imp T (λz=>z),by rw[aB (dL Z)];exact h4⟩
  .have Z:j≠i:=λz=>by subst z;rw[je]at h;cases h
   have Y:j'≠i:=λz=>by subst z;rw[je]at h';cases h'
   rw[fG Z]at h;rw[fG Y]at h';exact R.inj j j' a h h'
  .have Z:j≠i:=λz=>by subst z;rw[U]at h;cases h
   rw[fG Z];exact R.pin j h
  .rcases fK h1 with⟨rfl,e⟩|⟨Z,e⟩
   .cases e;exact⟨v,by rw[bH hi],RA.flat P r⟩
   .rw[fG Z]at h2;obtain⟨W,h3,h4⟩:=R'.dat j X e hn h2;exact⟨W,by rw[aB (dL Z)];exact h3,h4.imp T (λz=>z)⟩
  .rcases fK h1 with⟨rfl,e⟩|⟨Z,e⟩
   .cases e;exact P
   .rw[fG Z]at h3;exact R.oo j X e hn h2 h3
  .by_cases Z:j'=i
   .subst Z;rw[je]at h';cases h'
   .rw[fG Z]at h';exact R.ns j j' a h h'
 .have sub:∀b,okA ow b/\b≠a->okA (wX ow i (some a)) b:=λb z=>⟨λj e=>by
   by_cases Z:j=i
   .subst Z;rw[je]at e;exact z.2 (cG.inj e).symm
   .rw[fG Z]at e;exact z.1.1 j e,z.1.2⟩
  have old:∀{v:V}{d:D},RA K (okA ow) true H v d->RA K (okA (wX ow i (some a))) true H' v d:=λr=>(r.track.imp (λb z=>sub b ⟨z.1,λe=>z.2 (e▸ha)⟩) (λz=>z)).same s
  have olds:∀{v:List V}{d:List D},RAs K (okA ow) true H v d->RAs K (okA (wX ow i (some a))) true H' v d:=λr=>(r.track.imp (λb z=>sub b ⟨z.1,λe=>z.2 (e▸ha)⟩) (λz=>z)).same s
  have S:∀j,ow j≠some a:=λj z=>by
   obtain⟨_,_,_,_,_,h2,_⟩:=R.own j a z;rw[ha]at h2
   cases h2
  have I:G.HF a=none:=R.s1.free ha;refine⟨wX ow i (some a),R'.s0,R'.s1,by rw[bL,bL];exact R.len,λj b h=>?_,λj j' b h h'=>?_,λj h=>?_,λj X h1 hn h2=>?_,λj X h1 hn h2 h3=>?_,R'.nt,R'.nd,λj j' b h h'=>?_,R'.np,Q,λj u h e=>by rw[aB (λz=>by subst z;rw[U]at h;cases h)];exact R.fx j u h e⟩
  .by_cases Z:j=i
   .subst Z;rw[je]at h
    cases h;exact⟨R.same0.free ha,.inl ⟨U,I⟩,xs,ds,by rw[bH hi],hx,J.imp sub (λz=>z),by rw[bH (by rw[<-R.len];exact hi)]⟩
   .rw[fG Z]at h;obtain⟨M,N,ys,L,h1,h2,h3,h4⟩:=R.own j b h;exact⟨M,N,ys,L,by rw[aB (dL Z)];exact h1,s _ _ h2,olds h3,by rw[aB (dL Z)];exact h4⟩
  .by_cases Z:j=i
   .by_cases Y:j'=i
    .rw[Z,Y]
    .subst Z;rw[je]at h
     cases h;rw[fG Y]at h';exact absurd h' (S j')
   .rw[fG Z]at h;by_cases Y:j'=i
    .subst Y;rw[je]at h'
     cases h';exact absurd h (S j)
    .rw[fG Y]at h';exact R.inj j j' b h h'
  .have Z:j≠i:=λz=>by subst z;rw[U]at h;cases h
   rw[fG Z];exact R.pin j h
  .rcases fK h1 with⟨rfl,e⟩|⟨Z,e⟩
   .rw[je]at h2;cases h2
   .rw[fG Z]at h2;obtain⟨W,h3,h4⟩:=R.dat j X e hn h2;exact⟨W,by rw[aB (dL Z)];exact h3,old h4⟩
  .rcases fK h1 with⟨rfl,e⟩|⟨Z,e⟩
   .rw[je]at h3;cases h3
   .rw[fG Z]at h3;exact R.oo j X e hn h2 h3
  .by_cases Z:j'=i
   .subst Z;rw[je]at h'
    cases h';exact(R.nt j a h).2.1.ne ha
   .rw[fG Z]at h';exact R.ns j j' b h h'
def Rel.mut{σ:St}{a:Addr}{ys:List V}(R:Rel K fl G ow σ H δ)(Y:fl[i]?=some .O)(U:ow i=some a)(r:RAs K (okA ow) true H ys ds):
 Rel K fl G ow σ (upd H a (.lst ys)) (δ.set i (some (.d (.list ds)))):=by
 obtain⟨J,M,xs,F,I,W,E,e4⟩:=R.own i a U;have S:¬okA ow a:=λz=>z.1 i U
 have L:G.HF a=none:=by
  rcases M with⟨_,z⟩|⟨z,_⟩
  .exact z
  .rw[Y]at z;cases z
 have hi:i<δ.length:=by
  rcases jt i δ.length with z|z
  .exact z
  .rw[bf z]at e4;cases e4
 refine⟨R.s0,λb o hb=>?_,by rw[bL];exact R.len,λj b h=>?_,R.inj,R.pin,λj X h1 hn h2=>?_,λj X h1 hn h2 h3=>?_,λj b h=>?_,R.nd,R.ns,R.np,λj X hn h1=>?_,R.fx⟩
 .rw[aL (λz=>by subst z;rw[L]at hb;cases hb)];exact R.s1 b o hb
 .by_cases Z:j=i
  .subst Z;rw[U]at h
   cases h;exact⟨J,M,ys,ds,I,aW,r.upd W S,by rw[bH hi]⟩
  .obtain⟨P,Q,zs,N,h1,h2,h3,h4⟩:=R.own j b h;have hb:b≠a:=λz=>Z (R.inj j i a (z▸h) U)
   exact⟨P,Q,zs,N,h1,by rwa[aL hb],h3.upd W S,by rwa[aB (dL Z)]⟩
 .rcases fK h1 with⟨rfl,e⟩|⟨Z,e⟩
  .rw[U]at h2;cases h2
  .obtain⟨T,h3,h4⟩:=R.dat j X e hn h2;exact⟨T,h3,h4.upd W S⟩
 .rcases fK h1 with⟨rfl,e⟩|⟨Z,e⟩
  .rw[U]at h3;cases h3
  .exact R.oo j X e hn h2 h3
 .obtain⟨g1,g2,g3⟩:=R.nt j b h;refine⟨g1,?_,g3⟩;by_cases hb:b=a
  .rw[hb,aW];exact⟨_,rfl,inferInstance⟩
  .rwa[aL hb]
 .rcases fK h1 with⟨rfl,e⟩|⟨Z,e⟩
  .rw[Y]at hn;cases hn
  .obtain⟨T,h3,h4,h5⟩:=R.nr j X hn e;exact⟨T,h3,h4.upd W (λz=>R.ns j i a z U),h5⟩
def qt(R:Rel K fl G ow σ H δ)(h:i<δ.length):i<σ.length:=by rwa[R.len]
def Ve(U:fl[i]?=some .A)(hN:X.N.Nodup)(hi:X.N[i]?=some x)(hv:X.env.scope.names.lookup x=some .local\/X.env.scope.names.lookup x=some .cell)(h:DE X fl .A e f)
 (hs:swapsWith e (some (.Name x m)) pos.line X.env=pure false:=by rfl) (O:X.fn x=true\/X.env.scope.names.lookup x=some .local:=by first|exact .inl rfl|exact .inr rfl):
 DS1 X fl (.Assign [.Name x m] e pos) (bY i f):=PS.imp (Ig (i:=i) hN hi hv h hs O) λT σ H h=>by
 refine bV h λG ow δ o R Z q=>?_
 unfold bY at Z;by_cases Y:i<δ.length
 .rw[if_pos Y]at Z;refine aQ Z λd V W=>?_
  cases W;exact⟨G,ow,δ,d,R,V,λv H' s r=>q ow _ H' ((R.grow s).setA U (qt R Y) r)⟩
 .rw[if_neg Y]at Z
  cases Z
def qu(hfl:fl[i]?=some .O)(hN:X.N.Nodup)(hi:X.N[i]?=some x)(hv:X.env.scope.names.lookup x=some .local\/X.env.scope.names.lookup x=some .cell)(h:DE X fl .F e f)
 (hs:swapsWith e (some (.Name x m)) pos.line X.env=pure false:=by rfl) (U:X.fn x=true\/X.env.scope.names.lookup x=some .local:=by first|exact .inl rfl|exact .inr rfl):
 DS1 X fl (.Assign [.Name x m] e pos) (bY i f):=PS.imp (Ig (i:=i) hN hi hv h hs U) λT σ H h=>by
 refine bV h λG ow δ o R Z q=>?_
 unfold bY at Z;by_cases Y:i<δ.length
 .rw[if_pos Y]at Z;refine aQ Z λd V W=>?_
  cases W;refine⟨G,ow,δ,d,R,V,λv H' s r=>?_⟩;obtain⟨ow',R'⟩:=R.setO s hfl (qt R Y) r;exact q ow' _ H' R'
 .rw[if_neg Y]at Z
  cases Z
def Vf(U:fl[i]?=some .A)(hN:X.N.Nodup)(hi:X.N[i]?=some x)(hv:X.env.scope.names.lookup x=some .local\/X.env.scope.names.lookup x=some .cell)
 (O:X.fn x=true\/X.env.scope.names.lookup x=some .local:=by first|exact .inl rfl|exact .inr rfl):DG X fl [i] (.Name x pos) (gNl i):=
 PG.imp (Uw (i:=i) hN hi hv O) λv σ H Q h=>by
 obtain⟨G,ow,δ,d,δ',R,r,Z,q⟩:=h;unfold gNl at Z;by_cases Y:i<δ.length
 .rw[if_pos Y]at Z
  cases Z;exact q _ (R.setA U (qt R Y) r) λj W=>aB (λz=>W (by rw[z];exact bJ.mpr rfl))
 .rw[if_neg Y]at Z
  cases Z
def au8(K:aaa)(fl:List Fl)(tg:List Nat)(g:List D->DS->Option DS):TGs:=λvs σ H Q=>∃G ow δ ds δ',Rel K fl G ow σ H δ/\RAs K (okA ow) true H vs ds/\g ds δ=some δ'/\∀σ',Rel K fl G ow σ' H δ'->(∀j,j∉tg->σ'[j]?=σ[j]?)->Q σ' H
def PGs.imp(h:PGs X es t)(i:∀v σ H Q,t' v σ H Q->t v σ H Q):PGs X es t':=λpins s σ H v u Q I r q=>h pins s σ H v u Q I r (i v σ H Q q)
abbrev DGs(X:Cx)(fl:List Fl)(tg:List Nat)(es:List Expr)(g:List D->DS->Option DS):Prop:=PGs X es (au8 X.K fl tg g)
theorem qw:DGs X fl [] [] kO:=PGs.imp Ux λvs σ H Q h=>by
 obtain⟨G,ow,δ,ds,δ',R,r,Z,q⟩:=h
 cases r with
 |nil=>cases Z;exact⟨rfl,q σ R λ_ _=>rfl⟩
 |cons _ _=>cases Z
theorem h_{g:FG}{gs:List D->DS->Option DS}(h1:DG X fl m e g)(h2:DGs X fl O es gs)(hs:(assignEach (e::es) X.env).map (·.2)=assign e X.env::(assignEach es X.env).map (·.2):=by rfl):
 DGs X fl (m++O) (e::es) (dF g gs):=PGs.imp (O9 h1 h2 hs) λvs σ H Q h=>by
 obtain⟨G,ow,δ,ds,δ',R,r,U,q⟩:=h
 cases r with
 |nil=>cases U
 |cons r1 r2=>
  refine aQ U λY S T=>?_
  refine⟨_,_,rfl,G,ow,δ,_,Y,R,r1,S,λσ' R' k1=>⟨G,ow,Y,_,δ',R',r2,T,λZ W k2=>q Z W λj V=>?_⟩⟩;rw[k2 j λz=>V (aP _ z),k1 j λz=>V (bI _ z)]
def uI{gs:List D->DS->Option DS}{k:Nat}(U:X.calm=true)(h:DGs X fl m es gs)(hn:(assignEach es X.env).length=n:=by rfl)(O:(assignEach es X.env).findIdx? (·.1)=none:=by rfl):
 DG X fl m (.Tuple es k pos) (gTn n gs):=PG.imp (Yo (n:=n) U h hn O) λv σ H Q h=>by
 obtain⟨G,ow,δ,d,δ',R,r,Z,q⟩:=h;unfold gTn at Z;split at Z
 .next l=>
  by_cases z:l.length=n
  .rw[if_pos z]at Z;obtain⟨a,xs,rfl,hx,Y⟩:=r.tupE;exact⟨a,xs,rfl,hx,by rwa[Y.length],G,ow,δ,l,δ',R,Y,Z,q⟩
  .rw[if_neg z]at Z
   cases Z
 .cases Z
def YK(h:DE X fl .A e f)(O:DG X fl m t z)(hs:swapsWithSole [t] e pos.line X.env=pure false:=by rfl)(hw:swappedStores [t] e X.env=pure none:=by rfl)
 (h1:(assignEach [t] X.env).map (·.2)=[assign t X.env]:=by rfl):DS1 X fl (.Assign [t] e pos) (P0 f z):=PS.imp (Yq h O hs hw h1) λU σ H h=>by
 refine bV h λG ow δ o R Z q=>?_
 refine aQ Z λd V W=>?_
 refine aQ W λδ' Y e4=>?_
 cases e4;exact⟨G,ow,δ,d,R,V,λv H' s r=>⟨G,ow,δ,d,δ',R.grow s,r,Y,λσ' R' _=>q ow σ' H' R'⟩⟩
end
end D3
variable{l:List D3.D}{vpos:Pos}{fa:D3.FA}{δ':D3.DS}{J:L2.It}
namespace D3
open L2 My
section
variable{X:Cx}{fl:List Fl}{a b c:Expr}{st:et}{k:Kd}{f fa:FE}{fs gs:FS}
theorem YL(R:Rel K fl G ow σ H δ)(U:fl[i]?=some .O)(h:ao i δ=some (.list l)):
 ∃a xs,ow i=some a/\σ[i]?=some (some (.ref a))/\H a=some (.lst xs)/\RAs K (okA ow) true H xs l:=by
 have e:=eX h
 cases Z:ow i with
 |none=>
  have z:=R.oo i _ e (by rw[U];rfl) (by rw[U];simp) Z;simp[flat]at z
 |some a=>
  obtain⟨Y,_,xs,ds,h1,h2,h3,h4⟩:=R.own i a Z;rw[e]at h4
  cases h4;exact⟨a,xs,rfl,h1,h2,h3⟩
def mW(hfl:fl[i]?=some .O)(h:DE X fl .A e f)(hN:X.N[i]?=some x)(hv:Vis X.env.scope x:=by first|exact Or.inl rfl|exact Or.inr (Or.inl rfl)|exact Or.inr (Or.inr rfl))(hd:(x==("__debug__":Str))=false:=by decide)
 (hcd:(x==("__classdict__":Str))=false:=by decide)
 (hs:swapsWith (.Call (.Attribute (.Name x vpos) "append" m) [e] [] t) none pos.line X.env=pure false:=by rfl)
 (hbase:attributeBase (.Name x vpos) "append" X.env (eval (.Name x vpos) X.env)=eval (.Name x vpos) X.env:=by rfl)
 (hfew:((backTo t (starEach [e] X.env)).all (λx=>!x.1)&&(backToKw t (keywordEach [] X.env)).all (λx=>x.1.isSome)
  && decide (([e]:List Expr).length+([]:List eM).length+(if([]:List eM).isEmpty then 0 else 1)<30))=true:=by rfl)
 (Y:(m.endLine==t.line)=true:=by rfl) (hst:starEach [e] X.env=(false,eval e X.env)::starEach [] X.env:=by rfl) (U:(backTo t (starEach [] X.env)).any (·.1)=false:=by rfl):
 DS1 X fl (.Expr (.Call (.Attribute (.Name x vpos) "append" m) [e] [] t) pos) (t_ i f):=
 PS.imp (nU (Fj aan aal aam mV (fW hN hv hd hcd) (dO h iJ hst) hbase hfew Y hst U) hs) λM σ H h=>by
 refine bV h λG ow δ o R Z q=>?_
 refine aQ Z λx P T=>?_
 refine aQ T λd Q V=>?_
 have Z:=V;split at Z
 case h_2=>cases Z
 next l=>
 by_cases W:l.length<1000000
 .rw[if_pos W]at Z
  cases Z;obtain⟨a,xs,S,h1,h2,h3⟩:=YL R hfl P;refine⟨_,h1,.inl ⟨rfl,_,SqL.of h2⟩,G,ow,δ,d,R,Q,λv H' s r=>?_⟩;have R':=R.grow s;refine⟨a,xs,v,rfl,rfl,s _ _ h2,by rw[h3.length];exact fV W (by decide),?_⟩;exact q ow σ _ (R'.mut hfl S ((h3.same s).append (.cons r .nil)))
 .rw[if_neg W]at Z
  cases Z
def Kl(K:aaa)(ow:Ow)(L:List Nat)(H1:Hp)(J:It)(l:List D):Prop:=∀H2:Hp,(∀b o,H1 b=some o->(∀i,ow i=some b->i∈L)->(∀i,b∉ow.n i)->H2 b=some o)->∀i:Nat,
 (∀d,l[i]?=some d->J.go i H2/\∀x Z,J.yld i H2 x Z->Same H2 Z/\RA K (λb=>okA ow b/\H1 b≠none) true Z x d)/\(l.length<=i->J.stop i H2)
noncomputable def tDI(K:aaa)(fl:List Fl)(L:List Nat)(fi:FA):TI:=λσ H R'=>∃G ow δ l,Rel K fl G ow σ H δ/\fi δ=some l/\∀J H1,Same H H1->Kl K ow L H1 J l->R' J H1
abbrev DI(X:Cx)(fl:List Fl)(L:List Nat)(tg iter:Expr)(fi:FA):Prop:=PI X tg iter (tDI X.K fl L fi)
def PI.imp(h:PI X tg m t)(i:∀σ H R',t' σ H R'->t σ H R'):PI X tg m t':=λpins s σ H R' I q=>h pins s σ H R' I (i σ H R' q)
section
variable{ok:Ok}{H1 H2:Hp}{ow:Ow}
def nm{b:Addr}(O:∀i b,ow i=some b->∃xs,H1 b=some (.lst xs))(h:H1 b=some m)(hn:∀xs,m ≠ .lst xs):∀i,ow i=some b->i∈L:=λi e=>by
 obtain⟨xs,z⟩:=O i b e;rw[h]at z;exact absurd (cG.inj z) (hn xs)
def nm2{b:Addr}(O:∀i b,b∈ow.n i->Chd (H1 b))(h:H1 b=some m)(hn:Chg m->False):∀i,b∉ow.n i:=λi e=>by
 obtain⟨u,z,c⟩:=O i b e;rw[h]at z
 cases z;exact hn c
mutual
theorem RA.keep(hk:∀b o,H1 b=some o->(∀i,ow i=some b->i∈L)->(∀i,b∉ow.n i)->H2 b=some o)(hl:∀i b,ow i=some b->∃xs,H1 b=some (.lst xs))(hm:∀i b,b∈ow.n i->Chd (H1 b))(ho:∀b,ok b->okA ow b):∀{v:V}{d:D},RA K ok pl H1 v d->RA K ok pl H2 v d
 |_,_,.non=>.non
 |_,_,.bl b=>.bl b
 |_,_,.int i=>.int i
 |_,_,.str x=>.str x
 |_,_,.lst e k q=>.lst (hk _ _ e (λi z=>absurd z ((ho _ k).1 i)) (ho _ k).2) k (RAs.keep hk hl hm ho q)
 |_,_,.lsk e k q=>.lsk (by
  rcases e with⟨o,e⟩|e
  .exact .inl ⟨o,hk _ _ e (nm hl e (by intro xs z;cases z)) (nm2 hm e Chg.frz)⟩
  .exact .inr e) k (RAs.keep hk hl hm ho q)
 |_,_,.tup e q=>.tup (hk _ _ e (nm hl e (by intro xs z;cases z)) (nm2 hm e Chg.tup)) (RAs.keep hk hl hm ho q)
 |_,_,.dic e g k=>.dic (hk _ _ e (λi z=>absurd z ((ho _ k).1 i)) (ho _ k).2) (g.imp λ_ _ t=>hk _ _ t (nm hl t (by intro xs z;cases z)) (nm2 hm t Chg.tup)) k
 |_,_,.dik e g k=>.dik (hk _ _ e (nm hl e (by intro xs z;cases z)) (nm2 hm e Chg.frz)) (g.imp λ_ _ t=>hk _ _ t (nm hl t (by intro xs z;cases z)) (nm2 hm t Chg.tup)) k
 |_,_,.ins e g q z=>.ins (hk _ _ e (nm hl e (by intro xs z;cases z)) (nm2 hm e Chg.ins)) (hk _ _ g (nm hl g (by intro xs z;cases z)) (nm2 hm g Chg.own)) (RAs.keep hk hl hm ho q) z
theorem RAs.keep(hk:∀b o,H1 b=some o->(∀i,ow i=some b->i∈L)->(∀i,b∉ow.n i)->H2 b=some o)(hl:∀i b,ow i=some b->∃xs,H1 b=some (.lst xs))(hm:∀i b,b∈ow.n i->Chd (H1 b))(ho:∀b,ok b->okA ow b):∀{v:List V}{d:List D},RAs K ok pl H1 v d->RAs K ok pl H2 v d
 |_,_,.nil=>.nil
 |_,_,.cons e q=>.cons (RA.keep hk hl hm ho e) (RAs.keep hk hl hm ho q)
end
end
def Rel.ownL(R:Rel K fl G ow σ H δ):∀i b,ow i=some b->∃xs,H b=some (.lst xs):=λi b e=>by
 obtain⟨_,_,xs,_,_,h2,_⟩:=R.own i b e;exact⟨xs,h2⟩
def Rel.ownC(R:Rel K fl G ow σ H δ):∀i b,b∈ow.n i->Chd (H b):=λi b e=>(R.nt i b e).2.1
def I_(R:Rel K fl G ow σ H δ)(r:Rs K G.H0 ow Hb H (.B L) v (.list l)):∃a xs,v=.ref a/\SqL K H a xs /\
 ∀H2:Hp,(∀b o,H b=some o->(∀i,ow i=some b->i∈L)->(∀i,b∉ow.n i)->H2 b=some o)->SqL K H2 a xs/\RAs K (λb=>okA ow b/\H b≠none) true H2 xs l:=by
 rcases r with r|⟨i,hi,a,xs,ds,Y,rfl,e,hx,X⟩
 .cases r with
  |lst e k q=>exact⟨_,_,rfl,SqL.of e,λH2 Z=>⟨SqL.of (Z _ _ e (λi z=>absurd z (k.1 i)) k.2),RAs.keep Z R.ownL R.ownC (λb z=>z.1) q.track⟩⟩
  |lsk e k q=>exact⟨_,_,rfl,e.sq,λH2 Z=>⟨SqK.sq (by
   rcases e with⟨o,e⟩|e
   .exact .inl ⟨o,Z _ _ e (nm R.ownL e (by intro xs z;cases z)) (nm2 R.ownC e Chg.frz)⟩
   .exact .inr e),RAs.keep Z R.ownL R.ownC (λb z=>z.1) q.track⟩⟩
 .cases e;exact⟨a,xs,rfl,SqL.of hx,λH2 Z=>⟨SqL.of (Z _ _ hx (λj z=>by rwa[R.inj j i a z Y]) (λj z=>R.ns j i a z Y)),RAs.keep Z R.ownL R.ownC (λb z=>z.1) X.track⟩⟩
def tK(h:DE X fl (.B L) e f):DI X fl L tg e (Ac f):=PI.imp (J5 h) λσ H R' h=>by
 refine bV h λG ow δ l R S q=>?_
 refine aQ S λd Q V=>?_
 cases d<;>first|(cases V;done)|skip
 cases V;refine⟨G,ow,δ,_,R,Q,λv H1 s r=>?_⟩;obtain⟨a,xs,rfl,hx,keep⟩:=I_ (R.grow s) r;refine⟨a,rfl,⟨xs,hx⟩,q _ _ s λH2 k2 i=>?_⟩;obtain⟨k3,Y⟩:=keep H2 k2;refine⟨λd hd=>?_,λP=>⟨xs,k3,by rwa[Y.length]⟩⟩;obtain⟨y,W,U⟩:=Y.get hd;refine⟨⟨xs,y,k3,W⟩,λx O Z=>?_⟩;obtain⟨e,T⟩:=Z;subst e;have:some y=some x:=W.symm.trans (T xs k3)
 cases this;exact⟨Same.refl _,U⟩
def Qh(lo hi:Int):(gM lo hi).length=(hi-lo).toNat:=by simp[gM]
def Ga(lo hi:Int):Kl K ow L H1 (Itr lo (hi-lo).toNat) (gM lo hi):=by
 intro H2 _ i;refine⟨λd hd=>?_,λY=>by rw[Qh]at Y;exact Y⟩;unfold gM at hd;rw[aF]at hd;by_cases Z:i<(hi-lo).toNat
 .rw[jB Z]at hd
  cases hd;refine⟨Z,λx V X=>?_⟩;obtain⟨e,W⟩:=X;subst e W;exact⟨Same.refl _,.int _⟩
 .rw[bf (by simpa using Z)]at hd
  cases hd
def tL(h:uc m=true) : -(2^62)<=m/\m<2^62:=by
 unfold uc at h;rw[aK]at h;exact⟨of_decide_eq_true h.1,of_decide_eq_true h.2⟩
def jU{fa:FA}(O:Gl X "range")(hm:X.mg "range"=none)(h:DA X fl [a] fa)(hs:starEach [a] X.env=[(false,eval a X.env)]:=by rfl):DI X fl L tg (.Call (.Name "range" p) [a] [] pos) (mL fa):=
 PI.imp (MP O hm h hs) λσ H R' h=>by
 refine bV h λG ow δ l R Y q=>?_
 refine aQ Y λds W Z=>?_
 split at Z
 .next j=>
  by_cases z:uc j=true
  .rw[if_pos z]at Z
   cases Z;refine⟨G,ow,δ,_,R,W,λvs H1 s r=>?_⟩
   cases r with
   |cons r1 r2=>
    cases r2;obtain rfl:=r1.intE;refine⟨j,rfl,(tL z).1,(tL z).2,?_⟩;have w:=Ga (K:=X.K) (ow:=ow) (L:=L) (H1:=H1) 0 j;rw[u9]at w;exact q _ _ s w
  .rw[if_neg z]at Z
   cases Z
 .cases Z
def wu{fa:FA}(U:Gl X "range")(hm:X.mg "range"=none)(h:DA X fl [a,b] fa)(hs:starEach [a,b] X.env=[(false,eval a X.env),(false,eval b X.env)]:=by rfl)(O:starEach [b] X.env=[(false,eval b X.env)]:=by rfl):
 DI X fl L tg (.Call (.Name "range" p) [a,b] [] pos) (Fy fa):=PI.imp (M4 U hm h hs O) λσ H R' h=>by
 refine bV h λG ow δ l R Y q=>?_
 refine aQ Y λds W Z=>?_
 split at Z
 .next i j=>
  by_cases z:(uc i&&uc j)=true
  .rw[if_pos z]at Z
   cases Z;rw[aK]at z;refine⟨G,ow,δ,_,R,W,λvs H1 s r=>?_⟩
   cases r with
   |cons r1 r2=>
    cases r2 with
    |cons r2 r3=>
     cases r3;obtain rfl:=r1.intE;obtain rfl:=r2.intE;exact⟨i,j,rfl,⟨(tL z.1).1,(tL z.1).2,(tL z.2).1,(tL z.2).2⟩,q _ _ s (Ga i j)⟩
  .rw[if_neg z]at Z
   cases Z
 .cases Z
def lock(L:List Nat)(fl:List Fl):List Fl:=fl.mapIdx λi x=>if x = .O/\i∈L then .L else x
def kh:(lock L fl)[i]?=(fl[i]?).map λx=>if x = .O/\i∈L then .L else x:=by
 unfold lock;rw[lR]
theorem Qi:(lock L fl)[i]?=some .A<->fl[i]?=some .A:=by
 rw[kh]
 cases h:fl[i]? with
 |none=>simp
 |some x=>
  cases x<;>simp
  by_cases z:i∈L<;>simp[z]
theorem CG(h:(lock L fl)[i]?=some .O):fl[i]?=some .O/\i∉L:=by
 rw[kh]at h
 cases e:fl[i]? with
 |none=>rw[e]at h;simp at h
 |some x=>
  rw[e]at h
  cases x<;>simp at h
  by_cases z:i∈L
  .simp[z]at h
  .exact⟨rfl,z⟩
def Ja(h:fl[i]?=some .L):(lock L fl)[i]?=some .L:=by
 rw[kh,h];simp
def Km(h:fl[i]?=some .O)(hi:i∈L):(lock L fl)[i]?=some .L:=by
 rw[kh,h];simp[hi]
def Ko(h:fl[i]?=some .O)(hi:i∉L):(lock L fl)[i]?=some .O:=by
 rw[kh,h];simp[hi]
theorem CJ:(lock L fl)[i]?=some .N<->fl[i]?=some .N:=by
 rw[kh]
 cases h:fl[i]? with
 |none=>simp
 |some x=>
  cases x<;>simp
  by_cases z:i∈L<;>simp[z]
theorem Jb:(lock L fl)[i]?=some .M<->fl[i]?=some .M:=by
 rw[kh]
 cases h:fl[i]? with
 |none=>simp
 |some x=>
  cases x<;>simp
  by_cases z:i∈L<;>simp[z]
theorem wz:(lock L fl)[i]?=some .W<->fl[i]?=some .W:=by
 rw[kh]
 cases h:fl[i]? with
 |none=>simp
 |some x=>
  cases x<;>simp
  by_cases z:i∈L<;>simp[z]
theorem oZ:isN (lock L fl)[i]?=isN fl[i]?:=by
 rw[kh]
 cases h:fl[i]? with
 |none=>rfl
 |some x=>
  cases x<;>simp[isN]
  by_cases z:i∈L<;>simp[z]
def Let(fl':List Fl)(ow:Ow)(b:Addr):Prop:=(∃j,ow j=some b/\fl'[j]?=some .O)\/∃j,b∈ow.n j/\(fl'[j]?=some .N\/fl'[j]?=some .W)
open Classical in
def ghL(fl':List Fl)(G:Gh)(ow:Ow)(H:Hp):Gh:=⟨G.H0,λb=>if Let fl' ow b then none else H b,ow,ow.n,G.tb,G.fv⟩
open Classical in
def lJ{b:Addr}(h:¬Let m ow b):(ghL m G ow H).HF b=H b:=by
 unfold ghL;dsimp only;rw[if_neg h]
open Classical in
def Jc{b:Addr}(h:Let m ow b):(ghL m G ow H).HF b=none:=by
 unfold ghL;dsimp only;rw[if_pos h]
def Rel.lock{σ:St}(L:List Nat)(R:Rel K fl G ow σ H δ):Rel K (lock L fl) (ghL (lock L fl) G ow H) ow σ H δ:=by
 refine⟨λb o hb=>?_,λb o hb=>?_,R.len,λi a h=>?_,R.inj,λi h=>rfl,λi d h1 hn h2=>R.dat i d h1 (by rw[oZ]at hn;exact hn) h2,λi d h1 hn h2 h3=>R.oo i d h1 (by rw[oZ]at hn;exact hn) (λz=>h2 (Qi.mpr z)) h3,λi a h=>?_,R.nd,R.ns,λi h=>rfl,λi d hn h1=>R.nr i d (by rw[oZ]at hn;exact hn) h1,λi u h e=>R.fx i u (wz.mp h) e⟩
 .have Y:G.H0 b=some o:=hb;rw[lJ]
  .exact R.same0 b o Y
  .rintro(⟨j,e,_⟩|⟨j,e,_⟩)
   .have:=(R.own j b e).1;rw[Y]at this
    cases this
   .have:=(R.nt j b e).1;rw[Y]at this
    cases this
 .by_cases z:Let (D3.lock L fl) ow b
  .rw[Jc z]at hb;cases hb
  .rw[lJ z]at hb;exact hb
 .obtain⟨V,Z,xs,ds,h1,h2,h3,h4⟩:=R.own i a h;refine⟨V,?_,xs,ds,h1,h2,h3,h4⟩;have out:(D3.lock L fl)[i]?=some .L->(ghL (D3.lock L fl) G ow H).HF a=H a:=λW=>lJ (by
   rintro(⟨j,e,X⟩|⟨j,e,X⟩)
   .rw[R.inj j i a e h,W]at X
    cases X
   .exact R.ns j i a e h)
  rcases Z with⟨Z,_⟩|⟨Z,_⟩
  .by_cases hi:i∈L
   .exact .inr ⟨Km Z hi,xs,by rwa[out (Km Z hi)]⟩
   .exact .inl ⟨Ko Z hi,Jc (.inl ⟨i,h,Ko Z hi⟩)⟩
  .exact .inr ⟨Ja Z,xs,by rwa[out (Ja Z)]⟩
 .obtain⟨g1,g2,g3⟩:=R.nt i a h;refine⟨g1,g2,?_⟩;rcases g3 with⟨z,_⟩|z
  .have z:=z.imp (CJ (L:=L)).mpr (wz (L:=L)).mpr;exact .inl ⟨z,Jc (.inr ⟨i,h,z⟩)⟩
  .exact .inr (Jb.mpr z)
def Rel.unlock{ow':Ow}{σ σ':St}(R:Rel K fl G ow σ H δ)(R':Rel K (D3.lock L fl) (ghL (D3.lock L fl) G ow H) ow' σ' H' δ'):Rel K fl G ow' σ' H' δ':=by
 have sub:Same G.HF (ghL (D3.lock L fl) G ow H).HF:=λb o hb=>by
  rw[lJ]
  .exact R.s1 b o hb
  .rintro(⟨j,e,Z⟩|⟨j,e,Z⟩)
   .rcases(R.own j b e).2.1 with⟨_,z⟩|⟨z,_⟩
    .rw[hb]at z;cases z
    .have:=(CG Z).1;rw[z]at this
     cases this
   .rcases(R.nt j b e).2.2 with⟨_,z⟩|z
    .rw[hb]at z;cases z
    .rcases Z with Z|Z
     .have:=CJ.mp Z;rw[z]at this
      cases this
     .have:=wz.mp Z;rw[z]at this
      cases this
 refine⟨R.s0,sub.trans R'.s1,R'.len,λi a h=>?_,R'.inj,λi h=>?_,λi d h1 hn h2=>R'.dat i d h1 (by rwa[oZ]) h2,λi d h1 hn h2 h3=>R'.oo i d h1 (by rwa[oZ]) (λz=>h2 (Qi.mp z)) h3,λi a h=>?_,R'.nd,R'.ns,λi h=>?_,λi d hn h1=>R'.nr i d (by rwa[oZ]) h1,λi u h e=>R'.fx i u (wz.mpr h) e⟩
 .obtain⟨W,Y,rest⟩:=R'.own i a h;refine⟨W,?_,rest⟩;rcases Y with⟨Y,X⟩|⟨Y,_⟩
  .exact .inl ⟨(CG Y).1,sub.free X⟩
  .have e:=R'.pin i Y;rw[e]at h;exact(R.own i a h).2.1
 .have e:=R'.pin i (Ja h);rw[e];exact R.pin i h
 .obtain⟨g1,g2,g3⟩:=R'.nt i a h;rcases g3 with⟨z,X⟩|z
  .exact⟨g1,g2,.inl ⟨z.imp CJ.mp wz.mp,sub.free X⟩⟩
  .exact⟨g1,g2,.inr (Jb.mp z)⟩
 .have e:=R'.np i (Jb.mpr h);rw[e];exact R.np i h
def Qj(K:aaa)(fl:List Fl)(ow:Ow)(L:List Nat)(H1:Hp)(J:It)(l:List D):Prop:=∀H2:Hp,(∀b o,H1 b=some o->(∀i,ow i=some b->i∈L)->(∀i,b∈ow.n i->fl[i]?=some .M)->H2 b=some o)->∀i:Nat,
 (∀d,l[i]?=some d->J.go i H2/\∀x Z,J.yld i H2 x Z->Same H2 Z/\RA K (λb=>okA ow b/\H1 b≠none) true Z x d)/\(l.length<=i->J.stop i H2)
def Kl.m(w:Kl K ow L H1 J l):Qj K fl ow L H1 J l:=λH2 Z=>w H2 λb o h1 h2 h3=>Z b o h1 h2 λi z=>absurd z (h3 i)
def xX(R1:Rel X.K fl G ow σ H1 δ)(wk:Qj X.K fl ow L H1 J l)(e2:lq q1 fs l δ=some q0)(q:yO X.K fl G Dn q0):
 af5 (λ_ H R=>R J H) (tDG X.K (lock L fl) T q1) (tDS X.K (lock L fl) fs) Dn σ H1:=by
 have r:=R1.lock L;refine⟨λi m σ' H'=>m=l.length-i/\∃ow' δ',Rel X.K (lock L fl) (ghL (lock L fl) G ow H1) ow' σ' H' δ'/\lq q1 fs (l.drop i) δ'=some q0,⟨_,rfl,ow,δ,r,by simpa using e2⟩,?_⟩;rintro i m σ' H' ⟨rfl,ow',δ',R',hd⟩;have kept:∀b q0,H1 b=some q0->(∀i,ow i=some b->i∈L)->(∀i,b∈ow.n i->fl[i]?=some .M)->H' b=some q0:=λb q0 hb t hn=>R'.s1 b q0 (by
  rw[lJ]
  .exact hb
  .rintro(⟨j,e,N⟩|⟨j,e,N⟩)
   .exact(CG N).2 (t j e)
   .have z:=hn j e;rcases N with y|y
    .rw[CJ.mp y]at z;cases z
    .rw[wz.mp y]at z;cases z)
 obtain⟨B,C⟩:=wk H' kept i;by_cases O:i<l.length
 .have S:=gP O;rw[S,lq]at hd;refine aQ hd λP s hd=>?_
  refine aQ hd λF e4 hd=>?_
  obtain⟨go,D⟩:=B l[i] (aG O);refine .inr ⟨go,λσ' H'=>∃ow' δ',Rel X.K (lock L fl) (ghL (lock L fl) G ow H1) ow' σ' H' δ'/\lq q1 fs (l.drop (i+1)) δ'=some q0,λV H2 ⟨Z,Y,R2,h2⟩=>⟨l.length-(i+1),by lia,rfl,Z,Y,R2,h2⟩,λx k u=>?_⟩;obtain⟨A,r3⟩:=D x k u;have sub:∀b,okA ow b/\H1 b≠none->okA ow' b:=λb z=>by
   obtain⟨Q,I⟩:=z;refine⟨λj e=>?_,λj e=>?_⟩
   .rcases(R'.own j b e).2.1 with⟨_,U⟩|⟨U,_⟩
    .have:(ghL (lock L fl) G ow H1).HF b=H1 b:=lJ (by rintro(⟨j',W,_⟩|⟨j',W,_⟩);exact Q.1 j' W;exact Q.2 j' W);rw[this]at U;exact I U
    .have W:ow' j=ow j:=R'.pin j U;rw[W]at e;exact Q.1 j e
   .rcases(R'.nt j b e).2.2 with⟨_,U⟩|w
    .have:(ghL (lock L fl) G ow H1).HF b=H1 b:=lJ (by rintro(⟨j',W,_⟩|⟨j',W,_⟩);exact Q.1 j' W;exact Q.2 j' W);rw[this]at U;exact I U
    .have W:ow'.n j=ow.n j:=R'.np j w;rw[W]at e;exact Q.2 j e
  refine⟨_,ow',δ',_,P,R'.grow A,r3.imp sub (λz=>z),s,λE p _=>⟨_,ow',P,F,p,e4,?_⟩⟩
  .cases F with
   |nx Y=>exact λZ V H2 R2=>⟨Z,Y,R2,hd⟩
   |ct Y=>exact λZ V H2 R2=>⟨Z,Y,R2,hd⟩
   |bk Y=>cases hd;exact λZ V H2 R2=>q Z V H2 (R1.unlock R2)
   |rt d=>cases hd;exact q
   |ex c f v=>cases hd;exact q
 .have e:l.drop i=[]:=iW (by lia);rw[e,lq]at hd
  cases hd;exact .inl ⟨C (by lia),q ow' σ' H' (R1.unlock R')⟩
def uJ{iter:Expr}{T:List Nat}{g:FG}(O:fE (model X.prog X.w) X.A X.env X.xe)(hc:X.calm=true)(hi:DI X fl L tg iter fi)(U:DG X (lock L fl) T tg g)(hb:DSs X (lock L fl) body fs)
 (hs:∀x,foldedSetIterable iter X.env x=pure x:=by intro _;rfl):DS1 X fl (.For tg iter body [] pos) (rT fi g fs):=PS.imp (B_ O hc hi U hb hs) λR σ H h=>by
 refine bV h λG ow δ o Z W q=>?_
 refine aQ W λl S V=>?_
 exact⟨G,ow,δ,l,Z,S,λJ H1 s Y=>xX (Z.grow s) Y.m V q⟩
theorem Gb(O:fE (model X.prog X.w) X.A X.env X.xe)(hc:DT X fl c ft)(hb:DSs X fl body fs):DS1 X fl (.While c body [] pos) (uG ft fs):=PS.imp (O_ O hc hb) λQ σ H h=>by
 refine bV h λG ow δ o R U q=>?_
 obtain⟨n,hn⟩:=Iw U;refine⟨λm σ' H'=>∃ow' δ',Rel X.K fl G ow' σ' H' δ'/\dM ft fs m δ'=some o,⟨n,ow,δ,R,hn⟩,?_⟩;rintro m σ' H' ⟨ow',δ',R',hw⟩
 cases m with
 |zero=>simp[dM]at hw
 |succ m=>
  rw[dM]at hw;refine aQ hw λt S hw=>?_
  refine⟨G,ow',δ',t,R',S,λH1 s=>?_⟩
  cases t with
  |false=>
   rw[if_neg eY]at hw ⊢
   cases hw;exact q ow' σ' H1 (R'.grow s)
  |true=>
   rw[if_pos rfl]at hw ⊢;refine aQ hw λV T hw=>?_
   refine⟨λW H2=>∃Y Z,Rel X.K fl G Y W H2 Z/\dM ft fs m Z=some o,λW H2 ⟨Y,Z,R2,h2⟩=>⟨m,gA m,Y,Z,R2,h2⟩,G,ow',δ',V,R'.grow s,T,?_⟩
   cases V with
   |nx Z=>exact λY W H2 R2=>⟨Y,Z,R2,hw⟩
   |ct Z=>exact λY W H2 R2=>⟨Y,Z,R2,hw⟩
   |bk Z=>cases hw;exact q
   |rt d=>cases hw;exact q
   |ex c f v=>cases hw;exact q
end
end D3
variable{g':D3.D->D3.D->Option D3.D}
namespace D3
open L2 My
def notStar:Expr->Bool
 |.Starred _ _=>false
 |_=>true
def fX(h:notStar c=true):starEach (c::k) env=(false,eval c env)::starEach k env:=by
 cases c<;>first|rfl|cases h
theorem vH(h:c.all notStar=true):(backTo k (starEach c env)).any (·.1)=false:=by
 induction c with
 |nil=>rfl
 |cons e c Z=>
  rw[jG,aK]at h;rw[fX h.1];have:=Z h.2;unfold backTo at this ⊢;rw[aD,jf,this];rfl
def isR:Kd->Bool
 |.P=>true
 |.A=>true
 |.R=>true
 |.C=>true
 |_=>false
def Qk(H0:Hp)(ow:Ow)(Hb:Hp):Kd->Ok
 |.P=>ok1
 |.A=>okA ow
 |.R=>okN H0
 |_=>okN Hb
def YM:Kd->Bool
 |.P=>true
 |.A=>true
 |_=>false
section
variable{H0 Hb Hc H:Hp}{ow:Ow}{v:V}{d:D}{k:Kd}
def Rs.ra(O:isR k=true)(h:Rs K H0 ow Hb H k v d):RA K (Qk H0 ow Hb k) (YM k) H v d:=by
 cases k<;>first|exact h|cases O
def Rs.of_ra(O:isR k=true)(h:RA K (Qk H0 ow Hb k) (YM k) H v d):Rs K H0 ow Hb H k v d:=by
 cases k<;>first|exact h|cases O
def Ng(s:Same Hb Hc)(O:isR k=true):∀a,Qk H0 ow Hc k a->Qk H0 ow Hb k a:=λa z=>by
 cases k<;>first|exact z|exact s.free z|cases O
theorem Rs.of_flat(O:flat d=true)(h:RA K ok0 false H v d):Rs K H0 ow Hb H k v d:=by
 cases k with
 |P=>exact RA.flat O h
 |B L=>exact .inl (RA.flat O h)
 |A=>exact RA.flat O h
 |R=>exact RA.flat O h
 |F=>exact .inl ⟨O,h⟩
 |C=>exact RA.flat O h
 |FC=>exact .inl ⟨O,h⟩
 |T=>
  obtain⟨as,h1,_,h3⟩:=RA.rt h
  cases as with
  |nil=>exact⟨[],h1,.nil,λ_ z=>by cases z⟩
  |cons a r=>exact(h3 a au).elim
theorem Rs.back(s:Same Hb Hc)(h:Rs K H0 ow Hc H k v d):Rs K H0 ow Hb H k v d:=by
 cases k with
 |P=>exact h
 |B L=>exact h
 |A=>exact h
 |R=>exact h
 |F=>
  rcases h with h|⟨a,xs,ds,h1,h2,h3,h4⟩
  .exact .inl h
  .exact .inr ⟨a,xs,ds,h1,h2,s.free h3,h4⟩
 |C=>exact RA.imp (λa z=>s.free z) (λz=>z) h
 |FC=>
  rcases h with h|⟨a,xs,ds,h1,h2,h3,h4,h5⟩
  .exact .inl h
  .exact .inr ⟨a,xs,ds,h1,h2,s.free h3,h4,h5.imp (λb z=>⟨s.free z.1,z.2⟩) (λz=>z)⟩
 |T=>
  obtain⟨as,h1,h2,h3⟩:=h;exact⟨as,h1,h2,λa z=>s.free (h3 a z)⟩
end
def tDB(K:aaa)(fl:List Fl)(k:Kd)(f:FA):TA:=λσ H Q=>∃G ow δ ds,Rel K fl G ow σ H δ/\f δ=some ds/\∀vs H',Same H H'->RAs K (Qk G.H0 ow H k) (YM k) H' vs ds->Q vs H'
abbrev DB(X:Cx)(fl:List Fl)(k:Kd)(es:List Expr)(f:FA):Prop:=PA X es (tDB X.K fl k f)
section
variable{X:Cx}{fl:List Fl}{a b c:Expr}{k:Kd}{f fa:FE}
def YQ:DB X fl k [] aX:=PA.imp iJ λσ H Q h=>by
 refine bV h λG ow δ ds R Z q=>?_
 cases Z;exact q [] H (Same.refl H) .nil
def Vg(O:isR k=true)(h:DE X fl k e f)(U:DB X fl k es fr)(hs:starEach (e::es) X.env=(false,eval e X.env)::starEach es X.env:=by exact fX rfl):DB X fl k (e::es) (aq f fr):=PA.imp (dO h U hs) λσ H Q h=>by
 refine bV h λG ow δ ds R Z q=>?_
 refine aQ Z λd W Z=>?_
 refine aQ Z λr Y Z=>?_
 cases Z;refine⟨G,ow,δ,d,R,W,λv H1 s1 r1=>⟨G,ow,δ,r,R.grow s1,Y,λvs H2 s2 r2=>?_⟩⟩;exact q _ H2 (s1.trans s2) (.cons ((r1.ra O).same s2) (r2.imp (Ng s1 O) (λz=>z)))
def rZ(h:DB X fl .P es fa'):DA X fl es fa':=PA.imp h λσ H Q h=>by
 refine bV h λG ow δ ds R Z q=>?_
 exact⟨G,ow,δ,ds,R,Z,λvs H' s r=>q vs H' s r⟩
def mG{x1}{fa:FA}(O:isR k=true)(h:DB X fl k es fa):DE X fl k (.Tuple es x1 pos) (dTup fa):=PE.imp (Pn h) λσ H Q h=>by
 refine bV h λG ow δ d R W q=>?_
 refine aQ W λl V Z=>?_
 by_cases z:l.length<=sizeLine
 .rw[if_pos z]at Z
  cases Z;refine⟨G,ow,δ,l,R,V,λvs H' s r=>⟨by rwa[r.length],λp Y=>?_⟩⟩;have g:=cC Y (.tup vs);exact q _ _ (s.trans g) (Rs.of_ra O (.tup aW (r.same g)))
 .rw[if_neg z]at Z
  cases Z
def CK{fa:FA}(h:DB X fl .A es fa):DE X fl .F (.List es pos) (jY fa):=PE.imp (Io h) λσ H Q h=>by
 refine bV h λG ow δ d R W q=>?_
 refine aQ W λl V Z=>?_
 by_cases z:l.length<=sizeLine
 .rw[if_pos z]at Z
  cases Z;refine⟨G,ow,δ,l,R,V,λvs H' s r=>⟨by rwa[r.length],λp Y=>?_⟩⟩;have g:=cC Y (.lst vs);exact q _ _ (s.trans g) (.inr ⟨p,vs,l,rfl,rfl,s.free Y,aW,(r.track.imp (λb w=>⟨w.1,λe=>w.2 (e▸Y)⟩) (λz=>z)).same g⟩)
 .rw[if_neg z]at Z
  cases Z
def lK{fa:FA}(h:DB X fl .C es fa):DE X fl .FC (.List es pos) (jY fa):=PE.imp (Io h) λσ H Q h=>by
 refine bV h λG ow δ d R W q=>?_
 refine aQ W λl V Z=>?_
 by_cases z:l.length<=sizeLine
 .rw[if_pos z]at Z
  cases Z;refine⟨G,ow,δ,l,R,V,λvs H' s r=>⟨by rwa[r.length],λp Y=>?_⟩⟩;have g:=cC Y (.lst vs);exact q _ _ (s.trans g) (.inr ⟨p,vs,l,rfl,rfl,s.free Y,aW,(r.track.imp (λb w=>⟨w.1,λe=>w.2 (e▸Y)⟩) (λz=>z)).same g⟩)
 .rw[if_neg z]at Z
  cases Z
def RAs.at{ok:Ok}{i:Int}(r:RAs K ok pl H vs l)(h:pAt l i=some d):∃v,atI vs i=some v/\RA K ok pl H v d:=by
 unfold atI;refine aQ h λj X Y=>?_
 obtain⟨y,W,Z⟩:=r.get Y;exact⟨y,by rwa[r.length,show ixN l.length i=some j from X],Z⟩
def ah0(ha:DE X fl (.B L) a fa)(hb:DE X fl .P b fb)(hs:j6 b):DE X fl .A (.Subscript a b pos) (dOp gIx fa fb):=PE.imp (vh rP ha hb hs) λσ H Q h=>by
 refine bV h λG ow δ d R S q=>?_
 refine D3.ex2 (ug S) λx y N O W=>?_
 refine⟨G,ow,δ,x,R,N,λv H1 s1 r1=>⟨G,ow,δ,y,R.grow s1,O,λu H2 s2 r2=>?_⟩⟩;unfold gIx at W;split at W
 .next l i=>
  obtain rfl:=RA.intE r2;rcases r1 with r1|⟨U,_,p,xs,ds,T,rfl,Z,hx,Y⟩
  .obtain⟨p,xs,rfl,hx,Y⟩:=RA.lstE (RA.same s2 r1);obtain⟨z,Z,V⟩:=Y.at W;exact .inl ⟨p,xs,i,z,rfl,rfl,hx,Z,q z H2 (s1.trans s2) V⟩
  .cases Z;obtain⟨z,Z,V⟩:=(Y.same s2).at W;exact .inl ⟨p,xs,i,z,rfl,rfl,SqL.of (s2 _ _ hx),Z,q z H2 (s1.trans s2) V⟩
 .next l i=>
  obtain rfl:=RA.intE r2;rcases r1 with r1|⟨U,_,p,xs,ds,T,rfl,Z,hx,Y⟩
  .obtain⟨p,xs,rfl,hx,Y⟩:=RA.tupE (RA.same s2 r1);obtain⟨z,Z,V⟩:=Y.at W;exact .inr (.inl ⟨p,xs,i,z,rfl,rfl,hx,Z,q z H2 (s1.trans s2) V⟩)
  .cases Z
 .cases W
def Jd(h:DE X fl k a f):DE X fl k (.BoolOp op [a] pos) f:=O5 h
def Je(h1:DE X fl .P a fa)(h2:DE X fl k (.BoolOp .And (b::rest) pos) fb):DE X fl k (.BoolOp .And (a::b::rest) pos) (Cm fa fb):=PE.imp (O6 h1 h2) λσ H Q h=>by
 refine bV h λG ow δ d R Y q=>?_
 refine aQ Y λx W Z=>?_
 refine⟨G,ow,δ,x,R,W,λv H1 s1 r1=>?_⟩;split at Z
 .obtain rfl:=RA.blE r1;exact⟨true,rfl,xJ ⟨G,ow,δ,d,R.grow s1,Z,λu H2 s2 r2=>q u H2 (s1.trans s2) (r2.back s1)⟩⟩
 .obtain rfl:=RA.blE r1
  cases Z;exact⟨false,rfl,xH (q _ H1 s1 (Rs.of_flat rfl (.bl _)))⟩
 .cases Z
def Ql(h1:DE X fl .P a fa):DE X fl .FC (.UnaryOp .Not a pos) (U_ fa):=PE.imp (Ym h1) λσ H Q h=>by
 refine bV h λG ow δ d R Y q=>?_
 refine aQ Y λx W Z=>?_
 refine⟨G,ow,δ,x,R,W,λv H1 s1 r1=>?_⟩;split at Z
 .next c=>
  obtain rfl:=RA.blE r1
  cases Z;exact⟨c,rfl,q _ H1 s1 (Rs.of_flat rfl (.bl _))⟩
 .cases Z
theorem jO(h:DT X fl a ft):DT X fl (.UnaryOp .Not a pos) (lU ft):=PT.imp (O4 h) λσ H Q h=>by
 refine bV h λG ow δ t R Z q=>?_
 unfold lU at Z
 cases e:ft δ with
 |none=>rw[e]at Z;cases Z
 |some x=>
  rw[e]at Z
  cases Z;exact⟨G,ow,δ,x,R,e,λH' s=>q H' s⟩
def xY(h:DT X fl a ft):DW X fl (.BoolOp .And [a] pos) ft:=Uv h
def qx(h:DT X fl a ft):DW X fl (.BoolOp .Or [a] pos) ft:=O3 h
theorem CN(h1:DT X fl a ft)(h2:DW X fl (.BoolOp .And (b::rest) pos) gt):DW X fl (.BoolOp .And (a::b::rest) pos) (uz ft gt):=PW.imp (Yl h1 h2) λσ H Q h=>by
 refine bV h λG ow δ t R Y q=>?_
 refine aQ Y λx W Z=>?_
 refine⟨G,ow,δ,x,R,W,λH1 s1=>?_⟩
 cases x with
 |true=>exact xJ ⟨G,ow,δ,t,R.grow s1,Z,λH2 s2=>q H2 (s1.trans s2)⟩
 |false=>cases Z;exact xH (q H1 s1)
theorem nY(h1:DT X fl a ft)(h2:DW X fl (.BoolOp .Or (b::rest) pos) gt):DW X fl (.BoolOp .Or (a::b::rest) pos) (tOr ft gt):=PW.imp (Xg h1 h2) λσ H Q h=>by
 refine bV h λG ow δ t R Y q=>?_
 refine aQ Y λx W Z=>?_
 refine⟨G,ow,δ,x,R,W,λH1 s1=>?_⟩
 cases x with
 |true=>cases Z;exact xJ (q H1 s1)
 |false=>exact xH ⟨G,ow,δ,t,R.grow s1,Z,λH2 s2=>q H2 (s1.trans s2)⟩
def wA(h:DW X fl a ft):DT X fl a ft:=PW.pt h
def Gd{op O:fR}{r r':R2}(ho:OpR X (compareOp op) r)(U:OpR X (compareOp O) r')(hb:BrO X.K r g)(hb':BrO X.K r' g')(h1:DE X fl .P a fa)(h2:DE X fl .P b fb)(h3:DE X fl .P c fc)
 (hm:lastMarks [op,O] [b,c]=false:=by with_unfolding_all rfl):DE X fl .FC (.Compare a [op,O] [b,c] pos) (mF g g' fa fb fc):=PE.imp (Pb ho U h1 h2 h3 hm) λσ H Q h=>by
 refine bV h λG ow δ d R Z q=>?_
 refine aQ Z λx L Z=>?_
 refine aQ Z λy M Z=>?_
 refine aQ Z λz N Z=>?_
 refine⟨G,ow,δ,x,R,L,λv H1 s1 r1=>⟨G,ow,δ,y,R.grow s1,M,λu H2 s2 r2=>?_⟩⟩;refine hb H2 v u x y z _ (RA.same s2 r1) r2 N λJ V Y=>?_
 split at Z
 .obtain rfl:=Y.blE;refine aQ Z λw e4 e5=>?_
  refine⟨true,rfl,xJ ⟨G,ow,δ,w,R.grow (s1.trans s2),e4,λS T W r3=>?_⟩⟩;exact hb' T u S y w d Q (RA.same W r2) r3 e5 λz V Y=>q z T (s1.trans (s2.trans W)) (.inl ⟨V,Y⟩)
 .obtain rfl:=Y.blE
  cases Z;exact⟨false,rfl,xH (q _ H2 (s1.trans s2) (.inl ⟨rfl,.bl _⟩))⟩
 .cases Z
def Qm(r:RA K ok pl H v d):decide (v=.non)=isNone d:=by
 cases r<;>rfl
def YS{j pos'}(h:DE X fl .P a f):DE X fl .FC (.Compare a [.Is] [.Constant .none j pos'] pos) (dUn Cp f):=PE.imp (Yj (O1 h)) λσ H Q h=>by
 refine bV h λG ow δ d R Z q=>?_
 refine aQ Z λx W Y=>?_
 cases Y;refine⟨G,ow,δ,x,R,W,λv H1 s1 r1=>?_⟩;show Q (.bl (decide (v=.non))) H1;rw[Qm (RA.same (Same.refl H1) r1)];exact q _ H1 s1 (.inl ⟨rfl,.bl _⟩)
def BrC(K:aaa)(r:List V->Hp->VK->Prop)(g:List D->Option D):Prop:=∀(H:Hp)(xs:List V)(ds:List D)(d:D)(Q:VK),RAs K ok1 true H xs ds->g ds=some d->(∀v,flat d=true->RA K ok0 false H v d->Q v H)->r xs H Q
def gQ{id:String}{r:List V->Hp->VK->Prop}{g:List D->Option D}{fa:FA}(hc:mK X (.builtin id) r)(hb:BrC X.K r g)(hg:Gl X x)(hm:X.mg x=none)(O:bootBuiltins x=some (.builtin id))(ha:DB X fl .P (e::es) fa)(hn:x≠"__name__" := by decide)(Y:(x==("__debug__":Str))=false:=by decide)
 (he:starEach (e::es) X.env=(false,eval e X.env)::starEach es X.env:=by exact fX rfl) (U:(backTo pos (starEach es X.env)).any (·.1)=false:=by exact vH rfl):DE X fl .FC (.Call (.Name x p) (e::es) [] pos) (dCall g fa):=
 PE.imp (yG hc hg hm O ha hn Y he U) λσ H Q h=>by
 refine bV h λG ow δ d R T q=>?_
 refine aQ T λds N S=>?_
 exact⟨G,ow,δ,ds,R,N,λvs H' s W=>hb H' vs ds d Q W S λv O Z=>q v H' s (.inl ⟨O,Z⟩)⟩
def nC:BrC K (λxs H Q=>∃p ys,xs=[.ref p]/\(SqL K H p ys\/SqT K H p ys)/\Q (.int ys.length) H) lA:=by
 intro H xs ds d Q r e q;unfold lA at e;split at e
 .next l=>
  cases e
  cases r with
  |cons r1 r2=>
   cases r2;obtain⟨a,ys,rfl,hx,Z⟩:=r1.lstE;refine⟨a,ys,rfl,.inl hx,?_⟩;rw[Z.length];exact q _ rfl (.int _)
 .next l=>
  cases e
  cases r with
  |cons r1 r2=>
   cases r2;obtain⟨a,ys,rfl,hx,Z⟩:=r1.tupE;refine⟨a,ys,rfl,.inr hx,?_⟩;rw[Z.length];exact q _ rfl (.int _)
 .cases e
def YT:BrC K (λxs H Q=>∃i j,xs=[.int i,.int j]/\Q (.int (if j<i then j else i)) H) Ke:=by
 intro H xs ds d Q r e q;unfold Ke at e;split at e
 .cases e
  cases r with
  |cons r1 r2=>
   cases r2 with
   |cons r2 r3=>
    cases r3;obtain rfl:=r1.intE;obtain rfl:=r2.intE;exact⟨_,_,rfl,q _ rfl (.int _)⟩
 .cases e
def Vh(d:D):tyD d="NoneType"\/tyD d="bool"\/tyD d="int"\/tyD d="str"\/tyD d="list"\/tyD d="tuple"\/tyD d="dict" := by
 cases d<;>simp[tyD]
def au9(K:aaa):List V->Hp->VK->Prop:=λxs H Q=>∃x c d,xs=[x,.ty c]/\(c="int"\/c="bool"\/c="tuple"\/c="list"\/c="str")/\RA K ok1 true H x d/\noI d=true/\Q (.bl (isT c (tyD d))) H
theorem Qn:mK X (.builtin "isinstance") (au9 X.K):=by
 intro pins s σ H xs us Q I r h;obtain⟨x,c,d,rfl,N,ra,hx,q⟩:=h;obtain⟨u,M,rfl,Y,P⟩:=vals2 r
 cases P;have kn:=YC (K:=X.K) N (Vh d);have Z:∀tk,EP X pins σ Q (.bool (isT c (tyD d))) {s with toks:=tk}:=λtk=>⟨.bl _,H,I.tok _,rfl,q⟩
 cases ra with
 |non=>cases(show u=d5 from Y);exact aab abb I.kIn eC kn (λz=>nomatch z) Z
 |bl b=>cases(show u=eP b from Y);exact aab abc I.kIn eC kn (λz=>nomatch z) Z
 |int i=>obtain⟨t,z⟩:=(show ∃t,u=eJ i t from Y);cases z;exact aab abd I.kIn eC kn (λz=>nomatch z) Z
 |str y=>obtain⟨t,z⟩:=(show ∃t,u=e_ y t from Y);cases z;exact aab abe I.kIn eC kn (λz=>nomatch z) Z
 | @lst a xs ds e k R=>
  cases(show u=dE a from Y);obtain⟨its,_,⟨o,n,T,U,_⟩,_⟩:=I.list (SqL.of e);exact aab aaz I.kIn ⟨_,T,U⟩ kn (λz=>nomatch z) Z
 | @lsk a xs ds e k R=>
  cases(show u=dE a from Y);obtain⟨its,_,⟨o,n,T,U,_⟩,_⟩:=I.list e.sq;exact aab aaz I.kIn ⟨_,T,U⟩ kn (λz=>nomatch z) Z
 | @tup a xs ds e R=>
  cases(show u=dE a from Y);obtain⟨its,_,⟨o,T,U,_⟩,_⟩:=I.tuple e.sq;exact aab aaZ I.kIn ⟨_,T,U⟩ kn (λz=>nomatch z) Z
 | @dic a S kvs e g k=>
  rcases g.or with⟨ks,z⟩|⟨ks,z⟩
  .rw[z]at e;exact Bb I Y (TyOf.dK e) kn Z
  .rw[z]at e;exact Bb I Y (TyOf.dT e) kn Z
 | @dik a S kvs V e g k=>
  cases(show u=dE a from Y);have V:=(show gO X.prog X.w H s.heap a S from(show L2.Rd H a S from .inr ⟨_,e⟩).ok I.hok);rcases g.or with⟨ks,z⟩|⟨ks,z⟩
  .rw[z]at V;obtain⟨_,_,vs,_,dd⟩:=V;obtain⟨O,_,_,h1,h2,_⟩:=dd;exact aab aaA I.kIn ⟨_,h1,h2.1⟩ kn (λz=>nomatch z) Z
  .rw[z]at V;obtain⟨_,_,xs,_,O,_,_,h1,h2,_⟩:=V;exact aab aaA I.kIn ⟨_,h1,h2.1⟩ kn (λz=>nomatch z) Z
 |ins _ _ _ z=>rw[z]at hx;cases hx
def sy{T:String}{O:Pos}(hc:T="int"\/T="bool"\/T="tuple"\/T="list"\/T="str")(h:DE X fl .P a f)(hg:Gl X "isinstance")(hm:X.mg "isinstance"=none)(hg':Gl X x)(hm':X.mg x=none)(U:bootBuiltins x=some (.type T))
 (hn':x≠"__name__" := by decide) (hd':(x==("__debug__":Str))=false:=by decide)
 (he:starEach [a,.Name x O] X.env=(false,eval a X.env)::starEach [.Name x O] X.env:=by rfl) (he2:starEach [.Name x O] X.env=(false,eval (.Name x O) X.env)::starEach [] X.env:=by rfl) (Y:(backTo pos (starEach [.Name x O] X.env)).any (·.1)=false:=by rfl):
 DE X fl .FC (.Call (.Name "isinstance" p) [a,.Name x O] [] pos) (dUn (gIs T) f):=
 PE.imp (yG Qn hg hm boot_isinstance (dO h (dO (Uu (v:=.ty T) hg' hm' U rfl hn' hd') iJ he2) he) (by decide) (by decide) he Y) λσ H Q h=>by
 refine bV h λG ow δ d R W q=>?_
 refine aQ W λx V Z=>?_
 unfold gIs at Z;split at Z
 .rename_i hx
  cases Z;exact⟨G,ow,δ,x,R,V,λv H1 s1 r1=>⟨v,T,x,rfl,hc,r1,hx,q _ H1 s1 (.inl ⟨rfl,.bl _⟩)⟩⟩
 .cases Z
def qy(h:DE X fl .P a f):DE X fl .FC (.UnaryOp .USub a pos) (dUn iM f):=PE.imp (af6 Yv h) λσ H Q h=>by
 refine bV h λG ow δ d R Y q=>?_
 refine aQ Y λx W Z=>?_
 refine⟨G,ow,δ,x,R,W,λv H1 s1 r1=>?_⟩;unfold iM at Z;split at Z
 .cases Z;obtain rfl:=RA.intE r1;exact⟨_,rfl,q _ H1 s1 (.inl ⟨rfl,.int _⟩)⟩
 .cases Z
end
def spD(K:aaa)(F:List D->Option D):Sp:=λvs H Q _=>∃ds d,(Tb H/\RAs K ok1 true H vs ds)/\F ds=some d/\∀v H',Same H H'->RA K (okN H) false H' v d->Q v H'
section
variable{st:et}{k:Nat}{fs:FS}{fl:List Fl}
def mX(p:Nat)(hp:∀i,i<p->fl[i]?=some .A)(O:ds.length=p)(hN:p<=N.length)(Y:Tb H/\RAs K ok1 true H vs ds):
 Rel K fl ⟨H,H,λ_=>none,λ_=>[],Y.1,λ_=>none⟩ ow0 (L2.start N vs) H (ds.map (λd=>some (.d d))++bR (N.length-p) none):=by
 have r:=Y.2;have Z:vs.length=p:=by rwa[r.length]
 have get:∀i d,(ds.map (λd=>some (U.d d))++bR (N.length-p) none)[i]?=some (some (.d d))->i<p/\ds[i]?=some d:=λi d h=>by
  by_cases hi:i<p
  .rw[bU (by rwa[ak,O]),aF]at h
   cases e:ds[i]? with
   |none=>rw[e]at h;cases h
   |some z=>rw[e]at h;cases h;exact⟨hi,rfl⟩
  .rw[bT (by rw[ak,O];lia),cJ]at h;split at h<;>cases h
 refine⟨Same.refl H,Same.refl H,?_,λi a h=>(by cases h),λi j a h=>(by cases h),λi h=>rfl,λi d h _ _=>?_,λi d h _ h2 _=>?_,λi a h=>(by cases h),λi j a h=>(by cases h),λi j a h=>(by cases h),λi h=>rfl,λi d hn h=>?_,λi u h e=>(by cases e)⟩
 .unfold L2.start;simp only[aV,ak,bM,Z,O]
 .obtain⟨hi,e⟩:=get i d h;obtain⟨v,W,X⟩:=r.get e;refine⟨v,?_,X.imp (λ_ _=>⟨λi z=>(by cases z),λi z=>(by cases z)⟩) (λz=>z)⟩;unfold L2.start;rw[bU (by rwa[ak,Z]),aF,W];rfl
 .exact absurd (hp i (get i d h).1) h2
 .rw[hp i (get i d h).1]at hn
  cases hn
end
section
variable{X:Cx}{fl:List Fl}{F:List D->Option D}{fa:FA}
def cU(h:Has X.prog X.w X.K X.mg X.base n x ps (spD X.K F))(Y:Room n X.A)(ha:DB X fl .P (e::es) fa)(Z:Gl X x:=by rfl)(U:(x==("__debug__":Str))=false:=by decide)
 (he:starEach (e::es) X.env=(false,eval e X.env)::starEach es X.env:=by exact fX rfl) (O:(backTo pos (starEach es X.env)).any (·.1)=false:=by exact vH rfl):
 DE X fl .C (.Call (.Name x p) (e::es) [] pos) (dCall F fa):=PE.imp (Fv h Y ha Z U he O) λσ H Q h=>by
 refine bV h λG ow δ d R W q=>?_
 refine aQ W λds T V=>?_
 refine⟨G,ow,δ,ds,R,T,λvs H' s r=>?_⟩;show spD X.K F (vs++[]) H' Q E0;rw[cA];exact⟨ds,d,⟨R.tb.same s,r⟩,V,λv H2 s2 r2=>q v H2 (s.trans s2) (RA.imp (λa z=>s.free z) (λz=>z) r2)⟩
end
end D3
variable{st:et}
namespace D3
open L2 My
section
variable{X:Cx}{fl:List Fl}{a b c iter:Expr}{k:Kd}{f fa:FE}{TT:List Nat}{g:FG}
def tM:PTs X [] (tDT X.K fl D3.rE):=λpins s σ H Q I h=>by
 refine bV h λG ow δ b R Z q=>?_
 cases Z;exact U9 pins s σ H Q I (q H (Same.refl H))
def xZ{σ:St}(t:Nat)(ix:List Nat)(O:∀i,i<t+ix.length->fl'[i]?=some .A)(R:Rel K fl G ow σ H δ)(s:Same H H1):
 Rel K fl' ⟨H,H,λ_=>none,λ_=>[],R.tb,λ_=>none⟩ ow0 (oJ t ix σ) H1 (iw t ix δ):=by
 have get:∀i d,(iw t ix δ)[i]?=some (some (.d d))->i<t+ix.length/\∃j,ix[i-t]?=some j/\t<=i/\δ[j]?=some (some (.d d)):=λi d h=>by
  unfold iw at h;by_cases hi:i<t
  .rw[bU (by rwa[bM]),cJ,if_pos hi]at h
   cases h
  .rw[bT (by rw[bM];lia),bM,aF]at h
   cases e:ix[i-t]? with
   |none=>rw[e]at h;cases h
   |some j=>
    rw[e]at h;have T:i-t<ix.length:=by
     rcases jt (i-t) ix.length with z|z
     .exact z
     .rw[bf z]at e;cases e
    refine⟨by lia,j,rfl,by lia,?_⟩;have h':(δ[j]?).getD none=some (.d d):=by simpa using h
    cases q:δ[j]? with
    |none=>rw[q]at h';cases h'
    |some o=>rw[q]at h';simp at h';rw[h']
 refine⟨Same.refl H,s,?_,λi a h=>(by cases h),λi j a h=>(by cases h),λi h=>rfl,λi d h _ _=>?_,λi d h _ h2 _=>absurd (O i (get i d h).1) h2,λi a h=>(by cases h),λi j a h=>(by cases h),λi j a h=>(by cases h),λi h=>rfl,λi d hn h=>(by rw[O i (get i d h).1]at hn;cases hn),λi u h e=>(by cases e)⟩
 .unfold oJ iw;simp
 .obtain⟨hi,j,V,U,Y⟩:=get i d h;have Z:∃v,σ[j]?=some (some v)/\RA K ok1 true H v d:=by
   cases W:isN fl[j]? with
   |true=>
    obtain⟨v,h1,h2,_⟩:=R.nr j d W Y;exact⟨v,h1,h2.ra λ_ _=>trivial⟩
   |false=>
   cases X:ow j with
   |none=>
    obtain⟨v,h1,h2⟩:=R.dat j d Y W X;exact⟨v,h1,h2.imp (λ_ _=>trivial) (λz=>z)⟩
   |some a=>
    obtain⟨_,_,xs,ds,h1,h2,h3,h4⟩:=R.own j a X;rw[Y]at h4
    cases h4;exact⟨_,h1,.lst h2 trivial (h3.imp (λ_ _=>trivial) (λz=>z))⟩
  obtain⟨v,h1,h2⟩:=Z;refine⟨v,?_,(h2.imp (λ_ _=>⟨λi z=>(by cases z),λi z=>(by cases z)⟩) (λz=>z)).same s⟩;unfold oJ;rw[bT (by rw[bM];lia),bM,aF,V];show some ((σ[j]?).getD none)=_;rw[h1];rfl
def wY{σ:St}{H:Hp}{Q:VK}{t:Nat}(hfl:∀i,i<t+ix.length->fl'[i]?=some .A)(htg:∀j∈TT,j<t)
 (h:tD X.K fl .FC (dN fi g ft f t ix) σ H Q):yJ (tDI X.K fl L fi) (tDG X.K fl' TT g) (tDT X.K fl' ft) (tD X.K fl' .C f) t (oJ t ix) σ H Q:=by
 refine bV h λG ow δ d R hf q=>?_
 refine aQ hf λl e1 N=>?_
 by_cases w:l.length<=100000
 case neg=>rw[if_neg w]at N;cases N
 rw[if_pos w]at N;refine aQ N λr e3 e4=>?_
 cases e4;refine⟨G,ow,δ,l,R,e1,λJ H1 s1 a Dl hD=>?_⟩;have R1:=R.grow s1
 let S:Ok:=λb=>okN H b/\b≠Dl
 refine⟨λi m xs H2=>m=l.length-i/\H2 Dl=some (.lst xs)/\Same H1 H2/\xs.length<=i/\i<=l.length/\∃ds rest,RAs X.K S false H2 xs ds/\fD g ft f (iw t ix δ) (l.drop i)=some rest/\r=ds++rest,
  ⟨_,rfl,aW,cC hD _,aN _,f9 _,[],r,.nil,by simpa using e3,rfl⟩,?_⟩
 rintro i m xs H2 ⟨rfl,W,s2,D,u,ds,rest,B,Y,rfl⟩;refine⟨W,?_⟩;obtain⟨w1,w2⟩:=a H2 (λb o hb _ _=>s2 b o hb) i;by_cases U:i<l.length
 .have O:=gP U;rw[O,fD]at Y;refine aQ Y λT e5 Y=>?_
  refine aQ Y λs e6 Y=>?_
  obtain⟨go,c⟩:=w1 l[i] (aG U);refine .inr ⟨go,uw (bw D (bw u w)) (by decide),λx H3 hy=>?_⟩;obtain⟨I,r3⟩:=c x H3 hy;have F:=s2.trans I;have Rb:=(xZ t ix hfl R1 (Same.refl H1)).grow F;refine⟨_,_,_,_,T,Rb,r3.imp (λ_ _=>⟨λi z=>(by cases z),λi z=>(by cases z)⟩) (λz=>z),e5,λk p P=>⟨?_,?_⟩⟩
  .apply jk;intro n;rw[iV,iV];exact P (t+n) λz=>absurd (htg _ z) (by lia)
  .refine⟨_,_,T,s,p,e6,λH5 M=>?_⟩
   cases s with
   |false=>
    rw[if_neg eY]at Y ⊢;have Z:=I.trans M;exact⟨l.length-(i+1),by lia,rfl,Z _ _ W,s2.trans Z,by lia,U,ds,rest,B.same Z,Y,rfl⟩
   |true=>
    rw[if_pos rfl]at Y ⊢;refine aQ Y λy e7 Y=>?_
    refine aQ Y λl' e8 Y=>?_
    cases Y;refine⟨_,_,T,y,p.grow M,e7,λv H6 s6 r6=>?_⟩;have Z:=I.trans M;have V:=Z.trans s6;refine⟨V _ _ W,l.length-(i+1),by lia,rfl,aW,?_,by rw[aV,jg];lia,U,ds++[y],l',?_,e8,by simp⟩
    .intro b o hb;rw[aL (λz=>by subst z;rw[hD]at hb;cases hb)];exact(s2.trans V) b o hb
    .have nd:¬S Dl:=λz=>z.2 rfl
     have E:=s1.trans (s2.trans Z);have ry:RA X.K S false H6 v y:=RA.imp (λb z=>⟨E.free z,λe=>by subst e;rw[okN,Z _ _ W]at z;cases z⟩) (λz=>z) r6;exact((B.same V).append (.cons ry .nil)).upd (V _ _ W) nd
 .have ed:l.drop i=[]:=iW (by lia);rw[ed,fD]at Y
  cases Y;refine .inl ⟨w2 (by lia),?_⟩;rw[cA]at q;exact q (.ref Dl) H2 (s1.trans s2) (.inr ⟨Dl,xs,ds,rfl,rfl,s1.free hD,W,B⟩)
def kj(hc:X.calm=true)(T Y:List Str)(ix:List Nat)(hi:DI X fl L tg iter fi)
 (hg:∀cl C Z H3 fp,DG (blk X (T++Y) scope cl C Z H3 fp) fl' TT tg g) (ht:∀cl C Z H3 fp,PTs (blk X (T++Y) scope cl C Z H3 fp) ifs (tDT X.K fl' ft)) (he:∀cl C Z H3 fp,DE (blk X (T++Y) scope cl C Z H3 fp) fl' .C elt f)
 (hfl:∀i,i<T.length+ix.length->fl'[i]?=some .A:=by decide) (htg:∀j∈TT,j<T.length:=by decide)
 (hB:uE X.N X.env.scope.names scope.names Y ix=true:=by rfl) (hk:scope.kind=.function:=by rfl) (U:∀y∈scope.names,y.2 ≠ .cell:=by decide +kernel)
 (O:∀x∈scope.names,x.2=.local->scope.names.lookup x.1=some .local:=by decide +kernel)
 (hfr:∀x∈scope.names,x.2=.free->x.1∈Y:=by decide +kernel) (hs:∀x,foldedSetIterable iter X.env x=pure x:=by intro _;rfl):
 DE X fl .FC (.ListComp elt [⟨tg,iter,ifs,0⟩] scope pos) (dN fi g ft f T.length ix):=
 PE.imp (Ci hc T Y ix hi hg ht he hB hk U O hfr hs) λ_ _ _ h=>wY hfl htg h
def Ge(hfx:fl[i]?=some .A)(hN:X.N.Nodup)(hi':X.N[i]?=some x)(hx:X.env.scope.names.lookup x=some .local)(hc:X.calm=true)(T Y:List Str)(ix:List Nat)(hi:DI X fl L tg iter fi)
 (hg:∀cl C Z H3 fp,DG (blk X (T++Y) scope cl C Z H3 fp) fl' TT tg g) (ht:∀cl C Z H3 fp,PTs (blk X (T++Y) scope cl C Z H3 fp) ifs (tDT X.K fl' ft)) (he:∀cl C Z H3 fp,DE (blk X (T++Y) scope cl C Z H3 fp) fl' .C elt f)
 (hfl:∀i,i<T.length+ix.length->fl'[i]?=some .A:=by decide) (htg:∀j∈TT,j<T.length:=by decide)
 (hsw:swapsWith (.ListComp elt [⟨tg,iter,ifs,0⟩] scope pos) (some (.Name x m)) spos.line X.env=pure true:=by rfl)
 (hB:uE X.N X.env.scope.names scope.names Y ix=true:=by rfl) (hk:scope.kind=.function:=by rfl) (U:∀y∈scope.names,y.2 ≠ .cell:=by decide +kernel)
 (O:∀x∈scope.names,x.2=.local->scope.names.lookup x.1=some .local:=by decide +kernel)
 (hfr:∀x∈scope.names,x.2=.free->x.1∈Y:=by decide +kernel) (hs:∀x,foldedSetIterable iter X.env x=pure x:=by intro _;rfl):
 DS1 X fl (.Assign [.Name x m] (.ListComp elt [⟨tg,iter,ifs,0⟩] scope pos) spos) (bY i (dN fi g ft f T.length ix)):=
 PS.imp (Cj hN hi' hx hc T Y ix hi hg ht he hsw hB hk U O hfr hs) λP σ H h=>by
 refine bV h λG ow δ o R W q=>?_
 unfold bY at W;by_cases V:i<δ.length
 .rw[if_pos V]at W;refine aQ W λd Q S=>?_
  cases S;exact wY (fl:=fl) hfl htg ⟨G,ow,δ,d,R,Q,λv H' s r=>q ow _ H' ((R.grow s).setA hfx (qt R V) ((r.FC_F R).F_A R))⟩
 .rw[if_neg V]at W
  cases W
def Kp(s:Same H H1)(O:H1 m=none)(r:RAs K (okA ow) true H1 vs l):Rs K G.H0 ow H (upd H1 m (.lst vs)) .F (.ref m) (.list l):=
 .inr ⟨m,vs,l,rfl,rfl,s.free O,aW,(r.track.imp (λb w=>⟨w.1,λe=>w.2 (e▸O)⟩) (λz=>z)).same (cC O _)⟩
def CP(r:Rs K H0 ow Hb H (.B L) v (.list l)):∃a xs,v=.ref a/\SqL K H a xs/\RAs K (okA ow) true H xs l:=by
 rcases r with r|⟨i,hi,a,xs,ds,Y,rfl,e,hx,Z⟩
 .exact r.lstE
 .cases e;exact⟨a,xs,rfl,SqL.of hx,Z⟩
def ah1(K:aaa):R2:=λx y H Q=>∃l b xs zs,x=.ref l/\y=.ref b/\SqL K H l xs/\SqL K H b zs/\xs.length+zs.length<=sizeLine/\∀p,H p=none->Q (.ref p) (upd H p (.lst (xs++zs)))
def Vi:OpR X (binaryOp .Add) (ah1 X.K):=by
 intro pins s σ H x y v u Q I N O h;obtain⟨l,b,xs,zs,rfl,rfl,M,hB,L,q⟩:=h
 cases N
 cases O;obtain⟨its,r,p,_⟩:=I.list M;obtain⟨Z,r2,p2,_⟩:=I.list hB;obtain⟨⟨cls,dd,data,sl⟩,S,R,n,hd⟩:=p.isList;obtain⟨⟨P,T,data2,U⟩,Y,V,n2,W⟩:=p2.isList;simp only at R hd V W;subst R hd V W;have G:=r.length;have J:=r2.length;have e:its.toArray++Z.toArray=(its++Z).toArray:=by simp
 refine concat_meets ⟨_,S,rfl⟩ ⟨_,Y,rfl⟩ noFill_list_add seq_list_add PySem.F.slot_list_add PySem.F.entry_list_add (PySem.F.args_list_add_2 _ _) (list_addW l b its.toArray Z.toArray n n2 dd T sl U (by simp;lia)) ⟨S,Y,?_⟩;rw[e];exact⟨.ref _,_,I.lnew (t':=s.toks) (r.append r2) (by rw[aV];lia),rfl,q _ I.fresh⟩
def YW{L':List Nat}(h1:DE X fl (.B L) a fa)(h2:DE X fl (.B L') b fb):DE X fl .F (.BinOp a .Add b pos) (dOp FJ fa fb):=PE.imp (Xh Vi h1 h2) λσ H Q h=>by
 refine bV h λG ow δ d R S q=>?_
 refine D3.ex2 (ug S) λx y O P Z=>?_
 refine⟨G,ow,δ,x,R,O,λv H1 s1 r1=>⟨G,ow,δ,y,R.grow s1,P,λu H2 s2 r2=>?_⟩⟩;unfold FJ at Z;split at Z
 .next l m=>
  by_cases z:l.length+m.length<=1000000
  .rw[if_pos z]at Z
   cases Z;obtain⟨p,xs,rfl,hx,W⟩:=CP r1;obtain⟨U,ys,rfl,T,Y⟩:=CP r2;refine⟨p,U,xs,ys,rfl,rfl,s2.seq hx,T,?_,λpn V=>q _ _ ((s1.trans s2).trans (cC V _)) (Kp (G:=G) (s1.trans s2) V ((W.same s2).append Y))⟩;rw[W.length,Y.length];exact bw z (by decide)
  .rw[if_neg z]at Z
   cases Z
 .cases Z
def Kq(h:DE X fl (.B L) a f)(hg:Gl X "list")(hm:X.mg "list"=none)
 (U:starEach [a] X.env=(false,eval a X.env)::starEach [] X.env:=by rfl) (O:(backTo pos (starEach [] X.env)).any (·.1)=false:=by rfl):DE X fl .F (.Call (.Name "list" p) [a] [] pos) (dUn vC f):=
 PE.imp (jT vm hg hm cv (dO h iJ U) (by decide) (by decide) U O) λσ H Q h=>by
 refine bV h λG ow δ d R V q=>?_
 refine aQ V λx T Y=>?_
 refine⟨G,ow,δ,x,R,T,λv H1 s1 r1=>?_⟩;unfold vC at Y;split at Y
 .cases Y;obtain⟨p,xs,rfl,hx,W⟩:=CP r1;exact⟨p,xs,rfl,.inl hx,λpn Z=>q _ _ (s1.trans (cC Z _)) (Kp (G:=G) s1 Z W)⟩
 .cases Y;rcases r1 with r1|⟨i,hi,a,xs,ds,S,rfl,e,hx,W⟩
  .obtain⟨p,xs,rfl,hx,W⟩:=r1.tupE;exact⟨p,xs,rfl,.inr hx,λpn Z=>q _ _ (s1.trans (cC Z _)) (Kp (G:=G) s1 Z W)⟩
  .cases e
 .cases Y
def tDO(K:aaa)(fl:List Fl)(f:FO):TO:=λσ H Q=>∃G ow δ o,Rel K fl G ow σ H δ/\f δ=some o/\∀H',Same H H'->Q o H'
def PO.imp(h:PO X m t)(i:∀σ H Q,t' σ H Q->t σ H Q):PO X m t':=λpins s σ H Q I q=>h pins s σ H Q I (i σ H Q q)
def Vj:PO X none (tDO X.K fl P_):=PO.imp U3 λσ H Q h=>by
 refine bV h λG ow δ o R Z q=>?_
 cases Z;exact q H (Same.refl H)
def Vk(h:DE X fl .P e f):PO X (some e) (tDO X.K fl (Qa f)):=PO.imp (U4 h) λσ H Q h=>by
 refine bV h λG ow δ o R Y q=>?_
 refine aQ Y λd W Z=>?_
 split at Z
 .cases Z;refine⟨G,ow,δ,_,R,W,λv H1 s1 r1=>?_⟩;obtain rfl:=RA.intE r1;exact⟨_,rfl,q H1 s1⟩
 .cases Z
def Qo(n d:Nat)(o:Option Int):HT.sIx n d o=pSx n d o:=by
 cases o<;>rfl
def RAs.cut(r:RAs K ok pl H vs l)(lo hi:Option Int):RAs K ok pl H (M8 vs lo hi) (cuD l lo hi):=by
 unfold M8 cuD;rw[r.length,Qo,Qo];exact(r.drop _).take _
def ah2{lo hi:Option Expr}{fl1 O:FO}(h:DE X fl (.B L) a f)(h1:PO X lo (tDO X.K fl fl1))(h2:PO X hi (tDO X.K fl O)):DE X fl .F (.Subscript a (.Slice lo hi none p2) pos) (dSl f fl1 O):=PE.imp (Px U7 h h1 h2) λσ H Q h=>by
 refine bV h λG ow δ d R Y q=>?_
 refine aQ Y λx M Y=>?_
 refine aQ Y λV N Y=>?_
 refine aQ Y λW P e4=>?_
 refine⟨G,ow,δ,x,R,M,λv H1 s1 r1=>⟨G,ow,δ,V,R.grow s1,N,λH2 s2=>⟨G,ow,δ,W,R.grow (s1.trans s2),P,λJ T=>?_⟩⟩⟩;split at e4
 .cases e4;obtain⟨p,xs,rfl,hx,S⟩:=CP r1;have Z:=s2.trans T;exact⟨p,xs,rfl,Z.seq hx,λpn U=>q _ _ ((s1.trans Z).trans (cC U _)) (Kp (G:=G) (s1.trans Z) U ((S.same Z).cut V W))⟩
 .cases e4
def Qq:DS1 X fl st (λ_=>none):=PS.imp O7 λY σ H h=>by
 refine bV h λG ow δ o R Z q=>?_
 cases Z
end
section
variable{X:Cx}{σ:St}{H:Hp}
def Inv.turnedL{ch:List Addr}(I:Inv X pins σ H s)(k:∀b o,b∉ch->s.heap.get? b=some o->h'.get? b=some o)(O:∀b∈ch,v9 X pins H b):Inv X pins σ H {s with heap:=h',toks:=t'}:=by
 have Y:∀b u,H b=some u->b∉ch:=λb u e z=>by rw[(O b z).1]at e;cases e
 refine I.step (g':=s.gens) (d':=s.drawn) (ch:=ch) (λb hb=>?_) (λb o _ _ Z e _=>k b o Z e) (λb o _ _ Z e _=>⟨o.slots,k b o Z e⟩) (λ_ _ _ _ n=>n)
  (λb o Z e=>⟨o,k b o Z e⟩) (λ_ _ e=>e) (λ_ _ _ e=>e) (λ_ _ _ e=>e) (λm hm=>?_) (λb u e=>?_) I.bare
 .obtain⟨R,f1,f2,T,U,V⟩:=O b hb;exact⟨T,f1,U,V⟩
 .obtain⟨o,es,S,W,r⟩:=hm;exact⟨o,es,S,k _ o (λz=>(O _ z).2.1 rfl) W,r⟩
 .refine(I.hok b u e).stay (λc v Z q=>k c v ?_ q) (λ_ q=>q) λ_ _ q=>q
  rcases Z with z|z
  .rw[z];exact Y b u e
  .exact Y c _ z
end
def Ite(K:aaa)(a:Addr):It:=
 ⟨λi H=>∃xs x,SqL K H a xs/\xs[i]?=some x,λi H x H'=>∃p y,H p=none/\H'=upd H p (.tup [.int i,y])/\x=.ref p/\∀xs,SqL K H a xs->xs[i]?=some y,λi H=>∃xs,SqL K H a xs/\xs.length<=i⟩
def vI{fp:List Addr}{tn:Nat->eg->Prop}(h:X.still=true)(T:Turn P w K tg J fp it tn true):Turn P w K tg J fp it tn X.still:=by rwa[h]
theorem Nh{x1}(a it:Addr):
 Turn P w K (.Tuple elts x1 tpos) (Ite K a) [it+1,it] (it+1) (λi h=>∃old,IsEnum h (it+1) it (i:Int) old/\h.IsListIter it a i) true where
 mem:=by simp
 obj:=λi h st b hb=>by
  obtain⟨old,Y,o,e,c,d⟩:=st;rcases aC.mp hb with z|z
  .subst z;exact⟨_,Y,λv z=>by cases z⟩
  .have z:b=it:=by simpa using z
   subst z;exact⟨o,e,λv z=>by rw[d]at z;cases z⟩
 keep:=λi h h' st k=>by
  obtain⟨old,Y,hi⟩:=st;exact⟨old,k _ (by simp) _ Y,hi.at λo e=>k it (by simp) o e⟩
 item:=by
  intro X N hw M t W i pins s σ H E I U st Q;subst N hw M;obtain⟨xs,x,hq,hx⟩:=Q;obtain⟨its,S,p,G⟩:=I.list hq;obtain⟨u,D,J⟩:=S.get hx;obtain⟨old,Y,hi⟩:=st;have V:=af Y;refine wpAny_pyNext_enum_item Y hi p.isList (x:=u) (by simpa using D) (Nat.succ_ne_self it) λh1 A R C B y=>?_
  refine⟨_,rfl,wpAny_letOwnedTupleGo_enum A λh2 O Z=>?_⟩
  replace Z:eR (it+1) h1 h2:=Z
  have hn:=I.hok.fresh (aN _);have I0:Inv X pins σ (upd H s.heap.objs.size (.tup [.int (i:Int),x])) {s with heap:=s.heap.push {cls:=.type "tuple", data:=.seq #[.int (i:Int) s.toks,u]} }:=
   I.laid (t':=s.toks) (λb o e=>ae _ e) (aN _) ⟨show 2<=sizeLine by decide,[.int (i:Int) s.toks,u],.cons ⟨_,rfl⟩ (.cons J .nil),⟨_,ah _ rfl,rfl,_,rfl⟩⟩
  have ne:∀b,b∈[it+1,it]->b≠s.heap.objs.size:=λb hb=>by
   rcases aC.mp hb with T|T
   .rw[T];exact bh V
   .rw[show b=it by simpa using T];exact bh (Nat.lt_of_succ_lt V)
  have n:Inv X pins σ (upd H s.heap.objs.size (.tup [.int (i:Int),x])) {s with heap:=h2,toks:=s.toks+1}:=by
   refine Inv.turnedL (s:={s with heap:=s.heap.push {cls:=.type "tuple", data:=.seq #[.int (i:Int) s.toks,u]} }) (ch:=[it+1,it]) I0 (λb o hb e=>?_) λb hb=>⟨by rw[aL (ne b hb)];exact(U b hb).1,(U b hb).2⟩
   have b1:b≠it+1:=λz=>hb (by simp[z])
   have b2:b≠it:=λz=>hb (by simp[z])
   rcases dm e with⟨L,q⟩|L
   .subst L q;exact(Z.2 _ b1).trans C
   .exact(Z.2 _ b1).trans (y b o b1 b2 L)
  refine⟨.ref s.heap.objs.size,_,n,rfl,⟨_,x,hn,rfl,rfl,λys F=>by rwa[I.list_inj F hq]⟩,⟨_,O,R.at λo e=>(Z.2 _ (bh (gA it))).trans e⟩,λb hb=>?_⟩;rw[aL (ne b hb)];exact(U b hb).1
 done:=by
  intro X N hw M t W i pins s σ H E I U st Q;subst N hw M;obtain⟨xs,hq,hx⟩:=Q;obtain⟨its,S,p,G⟩:=I.list hq;obtain⟨old,Y,hi⟩:=st;have m:=S.length;refine wpAny_pyNext_enum_end (I.ok.hs (W rfl)) Y hi p.isList (by simp;lia) λh' r=>⟨rfl,Inv.turnedL (t':=s.toks) (ch:=[it+1,it]) I (λb o hb e=>r b o (λz=>hb (by simp[z])) e) U⟩
 self:=λ_ _ _ _ _ st h=>by
  obtain⟨old,Y,_⟩:=st;exact wpAny_pyIter_enum Y h
section
variable{X:Cx}{fl:List Fl}{a:Expr}{f:FE}
def ah3(K:aaa)(tl:TE):TI:=λσ H R=>tl σ H λx H1=>∃a,x=.ref a/\(∃xs,SqL K H1 a xs)/\R (Ite K a) H1
theorem Vl{x1}(hg:Gl X "enumerate")(hm:X.mg "enumerate"=none)(hl:PE X a tl)(he:starEach [a] X.env=(false,eval a X.env)::starEach [] X.env:=by rfl)
 (U:(backTo pos (starEach [] X.env)).any (·.1)=false:=by rfl) (O:X.still=true:=by rfl):PI X (.Tuple elts x1 tpos) (.Call (.Name "enumerate" p) [a] [] pos) (ah3 X.K tl):=by
 intro pins s σ H R I h;refine ay (oG I hg hm boot_enumerate (er (thn ((dO hl iJ he) pos pins s σ H (λvs H1=>match vs with|[x]=>∃a,x=.ref a/\(∃xs,SqL X.K H1 a xs)/\R (Ite X.K a) H1|_=>False) I h) λus s1 ⟨vs,H1,W,r1,q1⟩=>?_) he U))
 cases r1 with
 |nil=>exact q1.elim
 |cons r T=>
  cases T with
  |cons _ _=>exact q1.elim
  |nil=>
  obtain⟨l,e,⟨xs,hq⟩,q⟩:=q1;subst e
  cases r;obtain⟨its,N,pl,M⟩:=W.list hq;refine call_enumerate_list pl.isList λh' Z V S Q=>?_
  have P:=W.kept (t':=s1.toks) Q;refine wpAny_pyIter_enum (s:={s1 with heap:=h'}) Z ?_;refine⟨s1.heap.objs.size+1,[s1.heap.objs.size+1,s1.heap.objs.size],_,_,H1,rfl,P,(vI O <| Nh l s1.heap.objs.size),⟨_,Z,V⟩,λb hb=>?_,q⟩;have Y:s1.heap.objs.size<=b:=by
   rcases aC.mp hb with z|z
   .rw[z];exact rK _
   .rw[show b=s1.heap.objs.size by simpa using z];exact aN _
  exact W.fpOk Y (W.hok.fresh Y)
theorem Kr{x1}(h:DE X fl (.B L) a f)(hg:Gl X "enumerate")(hm:X.mg "enumerate"=none)(he:starEach [a] X.env=(false,eval a X.env)::starEach [] X.env:=by rfl)
 (U:(backTo pos (starEach [] X.env)).any (·.1)=false:=by rfl) (O:X.still=true:=by rfl):DI X fl L (.Tuple elts x1 tpos) (.Call (.Name "enumerate" p) [a] [] pos) (Kf f):=PI.imp (Vl hg hm h he U O) λσ H R' h=>by
 refine bV h λG ow δ l R J q=>?_
 refine aQ J λd I S=>?_
 cases d<;>first|(cases S;done)|skip
 next W=>
 cases S;refine⟨G,ow,δ,_,R,I,λv H1 s r=>?_⟩;obtain⟨a,xs,rfl,hx,keep⟩:=I_ (R.grow s) r;refine⟨a,rfl,⟨xs,hx⟩,q _ _ s λH2 k2 i=>?_⟩;obtain⟨k3,V⟩:=keep H2 k2;refine⟨λd hd=>?_,λK=>⟨xs,k3,by rw[V.length];simpa[rW]using K⟩⟩;have Z:(W[i]?).map (λx=>ec [.int (i:Int),x])=some d:=by
  have:=hd;unfold rW at this;rwa[lR]at this
 cases e:W[i]? with
 |none=>rw[e]at Z;cases Z
 |some x0=>
  rw[e]at Z
  cases Z;obtain⟨y,T,P⟩:=V.get e;refine⟨⟨xs,y,k3,T⟩,λx F Y=>?_⟩;obtain⟨p,Q,M,rfl,rfl,N⟩:=Y;have:some y=some Q:=T.symm.trans (N xs k3)
  cases this;have g:=cC M (.tup [.int (i:Int),y]);exact⟨g,.tup aW (.cons (.int _) (.cons (P.same g) .nil))⟩
end
structure Bl(mg:Str->Option Value):Prop where
 len_:mg "len"=none
 range_:mg "range"=none
 abs_:mg "abs"=none
 isinstance_:mg "isinstance"=none
 int_:mg "int"=none
 bool_:mg "bool"=none
 tuple_:mg "tuple"=none
 list_:mg "list"=none
 str_:mg "str"=none
 max_:mg "max"=none
 min_:mg "min"=none
 sorted_:mg "sorted"=none
 sum_:mg "sum"=none
 reversed_:mg "reversed"=none
 enumerate_:mg "enumerate"=none
 zip_:mg "zip"=none
 set_:mg "set"=none
 any_:mg "any"=none
 all_:mg "all"=none
 dict_:mg "dict"=none
end D3
variable{dc:Value}{sl:Array (Option Value)}
namespace D3
open L2 My
structure FunD(K:aaa)(x:Str)(st:et)(f:Addr)(fd:ee):Prop where
 ex:∃(oc:Value)(od:Option Addr)(dV kV doc pm:Value)(an:Option Addr)(cdv ct:Value)(osl:Array (Option Value)),
  fd=aac x x (j7 st) (dR st) (aR st) dV kV doc pm an cdv ct/\K.lookup f=some ⟨oc,od,.func fd,osl⟩/\aah K cdv x=true
 kp:aae K (.ref f)=true
structure Dg(K:aaa)(mg:Str->Option Value)(x:Str)(st:et)(ps:List Str):Prop where
 ex:∃(f:Addr)(fd:ee),FunD K x st f fd/\Binds K fd ps []/\mg x=some (.ref f)
def ah4{kV:Value}(X:K.In h)(G:h.Ns mainGlobals mg)
 (hb:∀(kV doc pm:Value)(an:Option Addr)(cdv ct:Value)(us:List Value),us.length=ps.length->bindArgs (aac x x (j7 st) (dR st) (aR st) .none kV doc pm an cdv ct) ⟨us,[]⟩=pure (ps.zip us))
 (a:aaj K mainGlobals x=some (some (.ref f))) (l:K.lookup f=some ⟨oc,od,.func (aac x x (j7 st) (dR st) (aR st) .none kV dc pm an cd ct),sl⟩) (c:aah K cd x=true) (k:aae K (.ref f)=true):Dg K mg x st ps:=
 ⟨_,_,⟨⟨oc,od,.none,kV,dc,pm,an,cd,ct,sl,rfl,l,c⟩,k⟩,.all (hb kV dc pm an cd ct),aaw X G a⟩
structure Dl(K:aaa)(mg:Str->Option Value)(x y:Str)(st:et):Prop where
 ex:∃(f:Addr)(fd:ee),FunD K x st f fd/\(∀(s:dv)(u:Value),BindsTo s fd ⟨[u],[]⟩ [(y,u)])/\mg x=some (.ref f)
def ah5{kV:Value}{y:Str}(X:K.In h)(G:h.Ns mainGlobals mg)
 (hb:∀(kV doc pm:Value)(an:Option Addr)(cdv ct:Value)(u:Value),bindArgs (aac x x (j7 st) (dR st) (aR st) .none kV doc pm an cdv ct) ⟨[u],[]⟩=pure [(y,u)])
 (a:aaj K mainGlobals x=some (some (.ref f))) (l:K.lookup f=some ⟨oc,od,.func (aac x x (j7 st) (dR st) (aR st) .none kV dc pm an cd ct),sl⟩) (c:aah K cd x=true) (k:aae K (.ref f)=true):Dl K mg x y st:=
 ⟨_,_,⟨⟨oc,od,.none,kV,dc,pm,an,cd,ct,sl,rfl,l,c⟩,k⟩,λs u=>.of_eq (hb kV dc pm an cd ct u),aaw X G a⟩
section
variable{k:Nat}{fs:FS}{fl:List Fl}
def FunD.ok(F:FunD K x st f fd)(S:FnScope N ps (aR st))(len:∀vs H Q E,sp vs H Q E->vs.length=ps.length)
 (O:∀(cdv:Value)(A:dQ)(outer:List Env)(s:dv)(H:Hp)(vs:List V)(Q:VK)(E:XK),Room k (A.deeper (envOfC x (aR st) s.heap.objs.size f cdv))->sp vs H Q E ->
  ∃t,PSs (nQ CX0 P w K mg base N x (aR st) f cdv A outer s H E).nox (dR st) t/\t {nx:=λ_ H'=>Q .non H',rt:=Q} (L2.start N vs) H):FnOk P w K mg base CX0 (k+1) f fd ps sp:=by
 obtain⟨oc,od,dV,kV,doc,pm,an,cdv,ct,osl,rfl,lk,hcd⟩:=F.ex;refine Pu lk hcd S len λA outer s H vs Q E Y Z=>?_
 obtain⟨t,h,q⟩:=O cdv A outer s H vs Q E Y Z;exact⟨t,h.nox,q⟩
def Qs(Fn:FunD K x st f fd)(S:FnScope N ps (aR st))(U:∀i,i<ps.length->fl[i]?=some .A)(Y:ps.length<=N.length)
 (O:∀(f:Addr)(cdv:Value)(A:dQ)(outer:List Env)(s:dv)(H:Hp)(E:XK),Room k (A.deeper (envOfC x (aR st) s.heap.objs.size f cdv))->DSs (cx P w K mg base N x st f cdv A outer s H E) fl (dR st) fs):
 FnOk P w K mg base CX0 (k+1) f fd ps (spD K (fnD ps.length (N.length-ps.length) fs)):=by
 refine Fn.ok S (λvs H Q E h=>?_) (λcdv A outer s H vs Q E X h=>?_)
 .obtain⟨ds,d,r,Z,_⟩:=h;unfold fnD at Z;by_cases z:ds.length=ps.length
  .rwa[r.2.length]
  .rw[if_neg z]at Z;cases Z
 .obtain⟨ds,d,r,Z,q⟩:=h;refine⟨_,O f cdv A outer s H E X,?_⟩;unfold fnD at Z;by_cases z:ds.length=ps.length
  .rw[if_pos z]at Z;split at Z
   .next W e=>
    cases Z;exact⟨_,_,_,_,mX ps.length U z Y r,e,λv H' s r=>q v H' s r⟩
   .next δ' e=>
    cases Z;exact⟨_,_,_,_,mX ps.length U z Y r,e,λow' σ' H' R'=>q .non H' R'.same0 .non⟩
   .cases Z
  .rw[if_neg z]at Z;cases Z
def lY(Dd:Dg K mg x st ps)(S:FnScope N ps (aR st))(U:∀i,i<ps.length->fl[i]?=some .A)(Y:ps.length<=N.length)
 (O:∀(f:Addr)(cdv:Value)(A:dQ)(outer:List Env)(s:dv)(H:Hp)(E:XK),Room k (A.deeper (envOfC x (aR st) s.heap.objs.size f cdv))->DSs (cx P w K mg base N x st f cdv A outer s H E) fl (dR st) fs):
 Has P w K mg base (k+1) x ps (spD K (fnD ps.length (N.length-ps.length) fs)):=by
 obtain⟨f,fd,Z,b,m⟩:=Dd.ex;exact⟨f,fd,Qs Z S U Y O,b,Z.kp,m⟩
end
noncomputable def Qt(K:aaa):Sp:=λvs H Q _=>∃(a:Addr)(ns:List Int),Tb H/\vs=[.ref a]/\SqL K H a (ns.map V.int)/\ns.length<=63/\∀H',Q (.bl true) H'
theorem tO:∀ns:List Int,RAs K ok pl H (ns.map V.int) (ns.map du)
 |[]=>.nil
 |n::r=>.cons (.int n) (tO r)
def Vm(O:∀ns:List Int,ns.length<=63->F [.list (ns.map .int)]=some (.bool true))(vs:List V)(H:Hp)(Q:VK)(E:XK)(h:Qt K vs H Q E):spD K F vs H Q E:=by
 obtain⟨a,ns,tb,rfl,Y,Z,q⟩:=h;refine⟨_,_,⟨tb,.cons ?_ .nil⟩,O ns Z,λv H' s r=>?_⟩
 .rcases Y with(h|⟨o,h⟩)|h
  .exact .lst h trivial (tO ns)
  .exact .lsk (.inl ⟨o,h⟩) rfl (tO ns)
  .exact .lsk (.inr h) rfl (tO ns)
 .obtain rfl:=r.blE;exact q H'
section
variable{prog:dA}{E:Value->dv->Prop}
end
section
variable{X:Cx}{fl:List Fl}{a:Expr}{f:FE}
end
section
variable{X:Cx}{fl:List Fl}{a b:Expr}{fa:FA}
end
section
variable{X:Cx}
theorem vJ:∀{ns:List Int}{its:List Value},Vals (ns.map V.int) its->fT its ns
 |[],_,.nil=>.nil
 |n::r,_,.cons h t=>by
  obtain⟨k,rfl⟩:=h;exact .cons _ _ (vJ t)
theorem o7:∀{l:List D}{ns:List Int}{ys:List V},j8 l=some ns->RAs K ok pl H ys l->ys=ns.map V.int
 |[],_,_,e,.nil=>by cases e;rfl
 |d::r,ns,_,e,.cons h t=>by
  cases d<;>first|(cases e;done)|skip
  obtain rfl:=h.intE
  cases Z:j8 r with
  |none=>rw[j8,Z]at e;cases e
  |some m=>
   rw[j8,Z]at e
   cases e;rw[o7 Z t];rfl
def Ni(hc:X.still=true):mK X (.builtin "max") (λxs H Q=>∃(p:Addr)(i:Int)(r:List Int),xs=[.ref p]/\SqL X.K H p ((i::r).map V.int)/\Q (.int (mxI i r)) H):=by
 intro pins s σ H xs us Q I r h;obtain⟨p,i,Y,rfl,hx,q⟩:=h;obtain⟨u,rfl,T⟩:=vals1 r
 cases T;obtain⟨its,W,pl,L⟩:=I.list hx;have hi:=vJ W;obtain⟨xs,e⟩:=hi.allInts.items;have Z:i::Y=xs.toList.map (·.1):=by rw[<-hi.numsOf,<-nums_intItems,<-e]
 have U:0<xs.size:=by
  have h3:0<(i::Y).length:=by simp
  rw[Z,ak,bW]at h3;exact h3
 have O:=e▸pl.isList;refine max_intList (I.ok.hs hc) O U λv h' tk P N=>?_
 obtain⟨t,rfl⟩:=di P;obtain⟨h1,h2⟩:=argBest_gt (numAt xs) (xs.size-1);have R:numAt xs (argBest (λi j=>decide (numAt xs i>numAt xs j)) (xs.size-1))∈i::Y:=by
  rw[Z,de];exact getD_mem (by rw[ak,bW];lia)
 have S:∀a∈i::Y,a<=numAt xs (argBest (λi j=>decide (numAt xs i>numAt xs j)) (xs.size-1)):=λa ha=>by
  rw[Z]at ha;obtain⟨j,M,rfl⟩:=mem_getD ha;rw[ak,bW]at M;rw[<-de];exact h2 j (by lia)
 have sp:=yM Y i;have eq:=jc (sp.2 _ R) (S _ sp.1);rw[eq];exact⟨.int _,H,I.kept N,⟨_,rfl⟩,q⟩
def YX:BrC K (λxs H Q=>∃(p:Addr)(i:Int)(r:List Int),xs=[.ref p]/\SqL K H p ((i::r).map V.int)/\Q (.int (mxI i r)) H) Fz:=by
 intro H xs ds d Q r e q;unfold Fz at e;split at e
 .next l=>
  split at e
  .next i Z X=>
   cases e
   cases r with
   |cons r1 r2=>
    cases r2;obtain⟨a,ys,rfl,hx,Y⟩:=r1.lstE;obtain rfl:=o7 X Y;exact⟨a,i,Z,rfl,hx,q _ rfl (.int _)⟩
  .cases e
 .cases e
theorem Bj:∀{l m:List Int},l.Perm m->l.Pairwise (· <= ·)->m.Pairwise (· <= ·)->l=m
 |[],m,p,_,_=>p.nil_eq
 |a::l,m,p,h1,h2=>by
  cases m with
  |nil=>exact absurd p.length_eq (by simp)
  |cons b m=>
   obtain⟨a1,a2⟩:=eZ.mp h1;obtain⟨b1,b2⟩:=eZ.mp h2;have e:a=b:=by
    have x1:=p.mem_iff.mp au;have x2:=p.mem_iff.mpr au;rcases aC.mp x1 with z|z
    .exact z
    .rcases aC.mp x2 with y|y
     .exact y.symm
     .exact jc (a1 b y) (b1 a z)
   subst e;rw[Bj (List.Perm.cons_inv p) a2 b2]
theorem oY:∀{ns:List Int}{its:List Value},fT its ns->Vals (ns.map V.int) its
 |_,_,.nil=>.nil
 |_,_,.cons n t r=>.cons ⟨t,rfl⟩ (oY r)
end
def gK(n:Nat)(us ws:List α):List α:=if ws.length=n then us++ws else []
structure HasD(P:dA)(w:d4)(K:aaa)(mg:Str->Option Value)(base:eg)(n:Nat)(x:Str)(ps:List Str)(sp:Sp)(dvs:List V)(ks:List Str):Prop where
 ex:∃(f:Addr)(fd:ee)(ds:List Value),FnOk P w K mg base CX0 n f fd ps sp/\Binds K fd ps ds/\Vals dvs ds/\KBinds K fd ps ks (gK ks.length) (gK ks.length)/\aae K (.ref f)=true/\mg x=some (.ref f)
structure DgD(K:aaa)(mg:Str->Option Value)(x:Str)(st:et)(ps:List Str)(dvs:List V)(ks:List Str):Prop where
 ex:∃(f:Addr)(fd:ee)(ds:List Value),FunD K x st f fd/\Binds K fd ps ds/\Vals dvs ds/\KBinds K fd ps ks (gK ks.length) (gK ks.length)/\mg x=some (.ref f)
section
variable{k:Nat}{fs:FS}{fl:List Fl}
end
section
variable{X:Cx}{fl:List Fl}{kpos:Pos}{kn:Str}{F:List D->Option D}{fa:FA}{i:Int}
def YZ:BrC K (λxs H Q=>(∃i,xs=[.int i]/\Q (.int i) H)\/∃k,xs=[.bl k]/\Q (.int (if k then 1 else 0)) H) IV:=by
 intro H xs ds d Q r e q;unfold IV at e;split at e
 .cases e
  cases r with
  |cons r1 r2=>
   cases r2;obtain rfl:=r1.intE;exact .inl ⟨_,rfl,q _ rfl (.int _)⟩
 .cases e
  cases r with
  |cons r1 r2=>
   cases r2;obtain rfl:=r1.blE;exact .inr ⟨_,rfl,q _ rfl (.int _)⟩
 .cases e
def Qu{j pos'}(h:DE X fl .P k m):DT X fl (.Compare k [.Is] [.Constant .none j pos'] pos) (bA (dUn Cp m)):=PT.imp (Yk (O1 h)) λσ H Q h=>by
 refine bV h λG ow δ c R Z q=>?_
 refine aQ Z λd V W=>?_
 refine aQ V λx Y e4=>?_
 cases e4
 cases W;refine⟨G,ow,δ,x,R,Y,λv H1 s1 r1=>?_⟩;refine⟨decide (v=.non),rfl,?_⟩;rw[Qm (RA.same (Same.refl H1) r1)];exact q H1 s1
def Vo(ha:DB X fl .P [e] fa)(U:Gl X "int")(hm:X.mg "int"=none)
 (he:starEach [e] X.env=(false,eval e X.env)::starEach [] X.env:=by rfl) (O:(backTo pos (starEach [] X.env)).any (·.1)=false:=by rfl):DE X fl .FC (.Call (.Name "int" p) [e] [] pos) (dCall IV fa):=
 PE.imp (jT M7 U hm boot_int ha (by decide) (by decide) he O) λσ H Q h=>by
 refine bV h λG ow δ d R V q=>?_
 refine aQ V λds S T=>?_
 exact⟨G,ow,δ,ds,R,S,λvs H' s Y=>YZ H' vs ds d Q Y T λv W Z=>q v H' s (.inl ⟨W,Z⟩)⟩
end
section
variable{X:Cx}
def Nj(hc:X.still=true):mK X (.builtin "min") (λxs H Q=>∃(p:Addr)(i:Int)(r:List Int),xs=[.ref p]/\SqL X.K H p ((i::r).map V.int)/\Q (.int (mnI i r)) H):=by
 intro pins s σ H xs us Q I r h;obtain⟨p,i,Y,rfl,hx,q⟩:=h;obtain⟨u,rfl,T⟩:=vals1 r
 cases T;obtain⟨its,W,pl,L⟩:=I.list hx;have hi:=vJ W;obtain⟨xs,e⟩:=hi.allInts.items;have Z:i::Y=xs.toList.map (·.1):=by rw[<-hi.numsOf,<-nums_intItems,<-e]
 have U:0<xs.size:=by
  have h3:0<(i::Y).length:=by simp
  rw[Z,ak,bW]at h3;exact h3
 have O:=e▸pl.isList;refine min_intList (I.ok.hs hc) O U λv h' tk P N=>?_
 obtain⟨t,rfl⟩:=di P;obtain⟨h1,h2⟩:=argBest_lt (numAt xs) (xs.size-1);have R:numAt xs (argBest (λi j=>decide (numAt xs i<numAt xs j)) (xs.size-1))∈i::Y:=by
  rw[Z,de];exact getD_mem (by rw[ak,bW];lia)
 have S:∀a∈i::Y,numAt xs (argBest (λi j=>decide (numAt xs i<numAt xs j)) (xs.size-1))<=a:=λa ha=>by
  rw[Z]at ha;obtain⟨j,M,rfl⟩:=mem_getD ha;rw[ak,bW]at M;rw[<-de];exact h2 j (by lia)
 have sp:=lX Y i;have eq:=jc (S _ sp.1) (sp.2 _ R);rw[eq];exact⟨.int _,H,I.kept N,⟨_,rfl⟩,q⟩
def Y0:BrC K (λxs H Q=>∃(p:Addr)(i:Int)(r:List Int),xs=[.ref p]/\SqL K H p ((i::r).map V.int)/\Q (.int (mnI i r)) H) lW:=by
 intro H xs ds d Q r e q;unfold lW at e;split at e
 .next l=>
  split at e
  .next i Z X=>
   cases e
   cases r with
   |cons r1 r2=>
    cases r2;obtain⟨a,ys,rfl,hx,Y⟩:=r1.lstE;obtain rfl:=o7 X Y;exact⟨a,i,Z,rfl,hx,q _ rfl (.int _)⟩
  .cases e
 .cases e
theorem Gf:∀{bs:List Bool}{its:List Value},Vals (bs.map V.bl) its->its=bs.map eP
 |[],_,.nil=>rfl
 |b::r,_,.cons h t=>by
  cases h;rw[Gf t];rfl
def all_range(bs:List Bool):(bC bs.length).all (λi=>bs.getD i false)=bs.all id:=by
 rw[Bool.eq_iff_iff,gB,gB]
 constructor
 .intro h b hb;obtain⟨i,hi,rfl⟩:=List.getElem_of_mem hb;have:=h i (cI.mpr hi);rwa[cZ,aG hi]at this
 .intro h i hi;have hi:=cI.mp hi;rw[cZ,aG hi];exact h _ (ju hi)
theorem Gg(bs:List Bool):TruthOf prog w A (λi v=>(bs.map eP).toArray[i]?=some v) (λi=>bs.getD i false):=by
 intro i v s Q E X W;have Z:(bs.map eP)[i]?=some v:=by simpa using X
 rw[aF]at Z
 cases e:bs[i]? with
 |none=>rw[e]at Z;cases Z
 |some b=>
  rw[e]at Z
  cases Z;have V:bs.getD i false=b:=by rw[cZ,e];rfl
  have Y:Q (bs.getD i false) s:=W;rw[V]at Y;exact aE Y
def hAd(A:dQ):List Addr:=match A.handled with
 |some (.ref h)=>[h]
 |_=>[]
theorem Jf{prog:dA}(I O:Addr)(U:O≠I)(items:Array Value):
 Walks prog w A I ([I,O]++hAd A) [I] items.size (λi v=>items[i]?=some v) (λi h=>h.IsListIter I O i/\h.IsList O items/\Hq A h) where
 sub:=λb hb=>by simp at hb;simp[hb]
 frame:=λ_ _ _ st W=>⟨st.1.at λo e=>W I (by simp) o e,st.2.1.at λo e=>W O (by simp) o e,by
  rcases st.2.2 with z|⟨h,o,C,vs,T,P,R⟩
  .exact .inl z
  .exact .inr ⟨h,o,C,vs,T,W h (by simp[hAd,T]) o P,R⟩⟩
 item:=λi s Q E hi st X=>by
  obtain⟨M,S,N,_⟩:=id st.1;refine cf st.1 st.2.1 (x:=items[i]) (by simp[hi]) λh' Y Z=>?_
  exact X _ h' s.toks (by simp[hi]) ⟨Y,st.2.1.extBut Z.extBut U,st.2.2.keep λh o C c e=>Z.extBut h o (BX S N e c) e⟩ λb o hb e=>Z.extBut b o (λh=>hb (by simp[h])) e
 done:=λs Q E st X=>v8 st.2.2 st.1 st.2.1 (by simp) λh' V=>X h' s.toks λb o hb e=>V b o (λh=>hb (by simp[h])) e
 self:=λ_ _ _ _ st X=>wpAny_pyIter_listiter st.1 X
def wB(O:X.calm=true):mK X (.builtin "all") (λxs H Q=>∃(p:Addr)(bs:List Bool),xs=[.ref p]/\SqL X.K H p (bs.map V.bl)/\Q (.bl (bs.all id)) H):=by
 intro pins s σ H xs us Q I r h;obtain⟨p,bs,rfl,hx,q⟩:=h;obtain⟨u,rfl,U⟩:=vals1 r
 cases U;obtain⟨its,Z,pl,S⟩:=I.list hx;obtain rfl:=Gf Z;have W:=pl.isList;have Y:p<s.heap.objs.size:=by obtain⟨_,e,_⟩:=id W;exact af e
 refine call_all_walk (cS W ?_);refine⟨_,_,_,_,_,_,_,rfl,Jf (A:=X.A.in1) _ p (bh Y) (bs.map eP).toArray,⟨⟨_,ah _ rfl,rfl,rfl⟩,W.push _,(I.hq O).keep λ_ _ _ _ e=>ae _ e⟩,Gg bs,λh' tk T=>?_⟩;have e:(bs.map eP).toArray.size=bs.length:=by simp
 rw[e,all_range];exact⟨.bl _,H,I.kept (old_kept T),rfl,q⟩
theorem Bk:∀{l:List D}{bs:List Bool}{ys:List V},oK l=some bs->RAs K ok pl H ys l->ys=bs.map V.bl
 |[],_,_,e,.nil=>by cases e;rfl
 |d::r,bs,_,e,.cons h t=>by
  cases d<;>first|(cases e;done)|skip
  obtain rfl:=h.blE
  cases Z:oK r with
  |none=>rw[oK,Z]at e;cases e
  |some m=>
   rw[oK,Z]at e
   cases e;rw[Bk Z t];rfl
def Qw:BrC K (λxs H Q=>∃(p:Addr)(bs:List Bool),xs=[.ref p]/\SqL K H p (bs.map V.bl)/\Q (.bl (bs.all id)) H) FP:=by
 intro H xs ds d Q r e q;unfold FP at e;split at e
 .next l=>
  cases Z:oK l with
  |none=>rw[Z]at e;cases e
  |some bs=>
   rw[Z]at e
   cases e
   cases r with
   |cons r1 r2=>
    cases r2;obtain⟨a,ys,rfl,hx,Y⟩:=r1.lstE;obtain rfl:=Bk Z Y;exact⟨a,bs,rfl,hx,q _ rfl (.bl _)⟩
 .cases e
end
section
variable{X:Cx}{fl:List Fl}{a:Expr}{f:FE}{ta:TE}
end
section
variable{X:Cx}{fl:List Fl}{a b c:Expr}{f fa:FE}
def yS(ho:OpR X (compareOp op) r)(U:OpR X (compareOp O) r')(hb:BrO X.K r g)(hb':BrO X.K r' g')(h1:DE X fl .P a fa)(h2:DE X fl .P b fb)(h3:DE X fl .P c fc)
 (hm:lastMarks [op,O] [b,c]=false:=by with_unfolding_all rfl):DT X fl (.Compare a [op,O] [b,c] pos) (bA (mF g g' fa fb fc)):=PT.imp (Pg ho U h1 h2 h3 hm) λσ H Q h=>by
 refine bV h λG ow δ I R Z q=>?_
 refine aQ Z λd Z hd=>?_
 have W:d=.bool I:=by cases d<;>first|(cases hd;rfl)|(cases hd;done)
 subst W;refine aQ Z λx J Z=>?_
 refine aQ Z λy L Z=>?_
 refine aQ Z λz M Z=>?_
 refine⟨G,ow,δ,x,R,J,λv H1 s1 r1=>⟨G,ow,δ,y,R.grow s1,L,λu H2 s2 r2=>?_⟩⟩;refine hb H2 v u x y z _ (RA.same s2 r1) r2 M λF N Y=>?_
 split at Z
 .obtain rfl:=Y.blE;refine aQ Z λw e4 e5=>?_
  refine⟨true,rfl,xJ ⟨G,ow,δ,w,R.grow (s1.trans s2),e4,λS T V r3=>?_⟩⟩;refine hb' T u S y w _ _ (RA.same V r2) r3 e5 λz N Y=>?_
  obtain rfl:=Y.blE;exact⟨_,rfl,q T (s1.trans (s2.trans V))⟩
 .obtain rfl:=Y.blE
  cases Z;exact⟨false,rfl,xH ⟨_,rfl,q H2 (s1.trans s2)⟩⟩
 .cases Z
end
def Nk{z TI TO i1 i2 l1 l2:Addr}{xs ys:Array Value}(hz:IsZip h z TI TO f0)(U:eV h TI m q)(O:eV h TO c k)(h1:h.IsListIter i1 l1 k1)(h2:h.IsListIter i2 l2 k2)(hl1:h.IsList l1 xs)(hl2:h.IsList l2 ys)(nT:TI≠TO)(ni:i1≠i2):
 gc z TI TO i1 i2 l1 l2:=by
 obtain⟨S,Y,W,d1⟩:=h1;obtain⟨T,Z,X,d2⟩:=h2;obtain⟨p1,g1,k1,Q⟩:=hl1;obtain⟨p2,g2,k2,R⟩:=hl2;have ne:∀{u v:Addr}{o o':Obj},h.get? u=some o->h.get? v=some o'->o.cls≠o'.cls->u≠v:=λe V n z=>by
  subst z;rw[e]at V
  cases V;exact n rfl
 exact⟨ne U hz (by simp),ne O hz (by simp),ne Y hz (by rw[W];simp),ne Z hz (by rw[X];simp),nT,ne U Y (by rw[W];simp),ne U Z (by rw[X];simp),ne O Y (by rw[W];simp),ne O Z (by rw[X];simp),ni,
  ne g1 hz (by rw[k1];simp),ne g1 O (by rw[k1];simp),ne g1 Y (by rw[k1,W];simp),ne g1 Z (by rw[k1,X];simp),ne g2 hz (by rw[k2];simp),ne g2 O (by rw[k2];simp),ne g2 Y (by rw[k2,W];simp),ne g2 Z (by rw[k2,X];simp)⟩
section
variable{X:Cx}{fl:List Fl}{a b:Expr}{f g:FE}
def boot_zip:bootBuiltins "zip"=some (.type "zip"):=by decide +kernel
theorem Gi:∀(l m:List D)(i:Nat),(uH l m)[i]?=(l[i]?).bind λx=>(m[i]?).map λy=>ec [x,y]
 |[],_,i=>by simp[uH]
 |_::_,[],i=>by cases i<;>simp[uH]
 |x::l,y::m,0=>by simp[uH]
 |x::l,y::m,i+1=>by simp[uH,Gi l m i]
end
noncomputable def av0(K:aaa)(fl:List Fl)(f:FA):TA:=λσ H Q=>∃G ow δ ds,Rel K fl G ow σ H δ/\f δ=some ds/\∀vs H',Same H H'->(∃as,RTs K H' vs ds as/\as.Nodup/\∀a∈as,H a=none)->Q vs H'
abbrev DBT(X:Cx)(fl:List Fl)(es:List Expr)(f:FA):Prop:=PA X es (av0 X.K fl f)
theorem RTs.length:∀{v:List V}{d:List D}{as:List Addr},RTs K H v d as->v.length=d.length
 |_,_,_,.nil=>rfl
 |_,_,_,.cons _ q=>by simp[RTs.length q]
section
variable{X:Cx}{fl:List Fl}{a b c:Expr}{k:Kd}{f fa:FE}
def Ks:DBT X fl [] aX:=PA.imp iJ λσ H Q h=>by
 refine bV h λG ow δ ds R Z q=>?_
 cases Z;exact q [] H (Same.refl H) ⟨[],.nil,.nil,λ_ z=>by cases z⟩
def Ku{fa:FA}(h:DBT X fl es fa):DE X fl .T (.List es pos) (jY fa):=PE.imp (Io h) λσ H Q h=>by
 refine bV h λG ow δ d R W q=>?_
 refine aQ W λl V Z=>?_
 by_cases z:l.length<=sizeLine
 .rw[if_pos z]at Z
  cases Z;refine⟨G,ow,δ,l,R,V,λvs H' s r=>?_⟩;obtain⟨as,h1,h2,h3⟩:=r;refine⟨by rwa[h1.length],λp Y=>?_⟩;have g:=cC Y (.lst vs);refine q _ _ (s.trans g) ⟨p::as,.lst aW (h1.same g),bK.mpr ⟨λw=>h1.tracked p w Y,h2⟩,λx hx=>?_⟩;rcases aC.mp hx with rfl|w
  .exact s.free Y
  .exact h3 x w
 .rw[if_neg z]at Z
  cases Z
def yc:DE X fl .T (.Dict [] [] pos) (dC (.dict [])):=PE.imp PX λσ H Q h=>by
 refine bV h λG ow δ d R Y q=>?_
 cases Y;intro p Z;exact q _ _ (cC Z _) ⟨[p],.dic aW (.inl ⟨rfl,rfl⟩),bK.mpr ⟨dD,.nil⟩,λx hx=>by rwa[bJ.mp hx]⟩
theorem Kv(h:DE X fl .C e f):DE X fl .T e (dN1 f):=rY h λHb H G ow σ δ v d Z R r=>by
 obtain⟨as,h1,h2,h3⟩:=RA.rt r;have Y:as.length<=1:=by rw[h2];exact of_decide_eq_true Z
 refine⟨as,h1,?_,h3⟩
 cases as with
 |nil=>exact .nil
 |cons x r=>
  cases r with
  |nil=>exact bK.mpr ⟨dD,.nil⟩
  |cons y r=>simp at Y
def cX(i:Nat)(hn:isN fl[i]?=true)(U:X.N[i]?=some m:=by rfl)(O:Vis X.env.scope m:=by first|exact Or.inl rfl|exact Or.inr (Or.inl rfl)|exact Or.inr (Or.inr rfl))(hd:(m==("__debug__":Str))=false:=by decide)
 (hcd:(m==("__classdict__":Str))=false:=by decide):DE X fl .P (.Name m pos) (ao i):=by
 refine PE.imp (fW U O hd hcd) λσ H Q h=>?_
 refine bV h λG ow δ d R Z q=>?_
 obtain⟨v,h1,h2,_⟩:=R.nr i d hn (eX Z);exact⟨v,h1,q v H (Same.refl H) (h2.ra λ_ _=>trivial)⟩
def Gj(i:Nat)(hn:isN fl[i]?=true)(U:X.N[i]?=some m:=by rfl)(O:Vis X.env.scope m:=by first|exact Or.inl rfl|exact Or.inr (Or.inl rfl)|exact Or.inr (Or.inr rfl))(hd:(m==("__debug__":Str))=false:=by decide)
 (hcd:(m==("__classdict__":Str))=false:=by decide):DE X fl .R (.Name m pos) (ao i):=by
 refine PE.imp (fW U O hd hcd) λσ H Q h=>?_
 refine bV h λG ow δ d R Z q=>?_
 obtain⟨v,h1,h2,_⟩:=R.nr i d hn (eX Z);exact⟨v,h1,q v H (Same.refl H) (h2.ra λa ha=>(R.nt i a ha).1)⟩
def uK(O:isR k=true)(ha:DE X fl k a fa)(hb:DE X fl .P b fb)(hs:j6 b):DE X fl k (.Subscript a b pos) (dOp gIx fa fb):=PE.imp (vh rP ha hb hs) λσ H Q h=>by
 refine bV h λG ow δ d R U q=>?_
 refine D3.ex2 (ug U) λx y S T Z=>?_
 refine⟨G,ow,δ,x,R,S,λv H1 s1 r1=>⟨G,ow,δ,y,R.grow s1,T,λu H2 s2 r2=>?_⟩⟩;have q1:=(r1.ra O).same s2;unfold gIx at Z;split at Z
 .next l i=>
  obtain rfl:=RA.intE r2;obtain⟨p,xs,rfl,hx,W⟩:=q1.lstE;obtain⟨z,V,Y⟩:=W.at Z;exact .inl ⟨p,xs,i,z,rfl,rfl,hx,V,q z H2 (s1.trans s2) (Rs.of_ra O Y)⟩
 .next l i=>
  obtain rfl:=RA.intE r2;obtain⟨p,xs,rfl,hx,W⟩:=q1.tupE;obtain⟨z,V,Y⟩:=W.at Z;exact .inr (.inl ⟨p,xs,i,z,rfl,rfl,hx,V,q z H2 (s1.trans s2) (Rs.of_ra O Y)⟩)
 .cases Z
end
section
variable{fl:List Fl}
def owN(ow:Ow)(i:Nat)(as:List Addr):Ow:=⟨ow.s,λj=>if j=i then as else ow.n j⟩
def gG : (owN ow i c).n i=c:=if_pos rfl
def dW(h:c≠i):(owN ow i k).n c=ow.n c:=if_neg h
def Rel.setN{σ:St}(R:Rel K fl G ow σ H δ)(s:Same H H')(O:fl[i]?=some .N)(hi:i<σ.length)(r:Rs K G.H0 ow H H' .T v d):
 ∃ow',Rel K fl G ow' (σ.set i (some v)) H' (δ.set i (some (.d d))):=by
 have R':=R.grow s;obtain⟨as,h1,h2,h3⟩:=r;have no:∀a,ow i≠some a:=λa z=>by
  obtain⟨_,Q,_⟩:=R.own i a z;rw[O]at Q;rcases Q with⟨z,_⟩|⟨z,_⟩<;>cases z
 have sub:∀b,okA ow b/\H b≠none->okA (owN ow i as) b:=λb z=>⟨z.1.1,λj e=>by
  by_cases Z:j=i
  .subst Z;rw[gG]at e;exact z.2 (h3 b e)
  .rw[dW Z]at e;exact z.1.2 j e⟩
 have old:∀{v:V}{d:D},RA K (okA ow) true H v d->RA K (okA (owN ow i as)) true H' v d:=λr=>(r.track.imp sub (λz=>z)).same s
 have olds:∀{v:List V}{d:List D},RAs K (okA ow) true H v d->RAs K (okA (owN ow i as)) true H' v d:=λr=>(r.track.imp sub (λz=>z)).same s
 refine⟨owN ow i as,R'.s0,R'.s1,by rw[bL,bL];exact R.len,λj a h=>?_,R.inj,R.pin,λj U g1 X g2=>?_,λj U g1 X g2 g3=>?_,λj a h=>?_,λj j' a h h'=>?_,λj j' a h=>?_,λj h=>?_,λj U X g1=>?_,λj u h e=>by rw[aB (λz=>by subst z;rw[O]at h;cases h)];exact R.fx j u h e⟩
 .have Z:j≠i:=λz=>no a (z▸h)
  obtain⟨M,P,xs,ds,g1,g2,g3,W⟩:=R.own j a h;exact⟨M,P,xs,ds,by rw[aB (dL Z)];exact g1,s _ _ g2,olds g3,by rw[aB (dL Z)];exact W⟩
 .rcases fK g1 with⟨rfl,e⟩|⟨Z,e⟩
  .rw[O]at X;cases X
  .obtain⟨S,g3,W⟩:=R.dat j U e X g2;exact⟨S,by rw[aB (dL Z)];exact g3,old W⟩
 .rcases fK g1 with⟨rfl,e⟩|⟨Z,e⟩
  .rw[O]at X;cases X
  .exact R.oo j U e X g2 g3
 .by_cases Z:j=i
  .subst Z;rw[gG]at h;exact⟨R.same0.free (h3 a h),h1.chd a h,.inl ⟨.inl O,R.s1.free (h3 a h)⟩⟩
  .rw[dW Z]at h;exact R'.nt j a h
 .by_cases Z:j=i
  .by_cases Y:j'=i
   .rw[Z,Y]
   .subst Z;rw[gG]at h;rw[dW Y]at h';exact absurd (h3 a h) (R.nt j' a h').2.1.ne
  .rw[dW Z]at h;by_cases Y:j'=i
   .subst Y;rw[gG]at h';exact absurd (h3 a h') (R.nt j a h).2.1.ne
   .rw[dW Y]at h';exact R.nd j j' a h h'
 .by_cases Z:j=i
  .subst Z;rw[gG]at h;exact λz=>by
    obtain⟨_,_,_,_,_,g2,_⟩:=R.own j' a z;rw[h3 a h]at g2
    cases g2
  .rw[dW Z]at h;exact R.ns j j' a h
 .have Z:j≠i:=λz=>by subst z;rw[O]at h;cases h
  rw[dW Z];exact R.np j h
 .rcases fK g1 with⟨rfl,e⟩|⟨Z,e⟩
  .cases e;exact⟨v,by rw[bH hi],by rw[gG];exact h1,by rw[gG];exact h2⟩
  .obtain⟨S,g3,W⟩:=R'.nr j U X e;exact⟨S,by rw[aB (dL Z)];exact g3,by rw[dW Z];exact W⟩
def Rel.mutN[cu:Chg u][cu':Chg c](R:Rel K fl G ow σ H δ)(O:fl[i]?=some .N)(hi:i<δ.length)(ha:a∈ow.n i)(hx:H a=some u)(hv:σ[i]?=some (some m))
 (hr:RT K (upd H a c) m k q) (hs:∀b∈q,b∈ow.n i) (hd:q.Nodup):∃ow',Rel K fl G ow' σ (upd H a c) (δ.set i (some (.d k))):=by
 have Q:¬okA ow a:=λz=>z.2 i ha
 have L:G.HF a=none:=by
  rcases(R.nt i a ha).2.2 with⟨_,z⟩|z
  .exact z
  .rw[O]at z;cases z
 have no:∀a,ow i≠some a:=λa z=>by
  obtain⟨_,P,_⟩:=R.own i a z;rw[O]at P;rcases P with⟨z,_⟩|⟨z,_⟩<;>cases z
 have sub:∀b,okA ow b->okA (owN ow i q) b:=λb z=>⟨z.1,λj e=>by
  by_cases Z:j=i
  .subst Z;rw[gG]at e;exact z.2 j (hs b e)
  .rw[dW Z]at e;exact z.2 j e⟩
 have S:∀b,Chd (H b)->Chd (upd H a c b):=λb z=>by
  by_cases hb:b=a
  .rw[hb,aW];exact⟨_,rfl,cu'⟩
  .rwa[aL hb]
 refine⟨owN ow i q,R.s0,λb o hb=>?_,by rw[bL];exact R.len,λj b h=>?_,R.inj,R.pin,λj W g1 Y g2=>?_,λj W g1 Y g2 g3=>?_,λj b h=>?_,λj j' b h h'=>?_,λj j' b h=>?_,λj h=>?_,λj W Y g1=>?_,R.fx⟩
 .rw[aL (λz=>by subst z;rw[L]at hb;cases hb)];exact R.s1 b o hb
 .have Z:j≠i:=λz=>no b (z▸h)
  obtain⟨J,M,zs,ds,g1,g2,g3,X⟩:=R.own j b h;have hb:b≠a:=λz=>R.ns i j a ha (z▸h)
  exact⟨J,M,zs,ds,g1,by rw[aL hb];exact g2,(g3.upd hx Q).imp sub (λz=>z),by rw[aB (dL Z)];exact X⟩
 .rcases fK g1 with⟨rfl,e⟩|⟨Z,e⟩
  .rw[O]at Y;cases Y
  .obtain⟨T,g3,X⟩:=R.dat j W e Y g2;exact⟨T,g3,(X.upd hx Q).imp sub (λz=>z)⟩
 .rcases fK g1 with⟨rfl,e⟩|⟨Z,e⟩
  .rw[O]at Y;cases Y
  .exact R.oo j W e Y g2 g3
 .by_cases Z:j=i
  .subst Z;rw[gG]at h;obtain⟨g1,g2,g3⟩:=R.nt j b (hs b h);exact⟨g1,S b g2,g3⟩
  .rw[dW Z]at h;obtain⟨g1,g2,g3⟩:=R.nt j b h;exact⟨g1,S b g2,g3⟩
 .have old:∀j b,b∈(owN ow i q).n j->b∈ow.n j:=λj b h=>by
   by_cases Z:j=i
   .subst Z;rw[gG]at h;exact hs b h
   .rw[dW Z]at h;exact h
  exact R.nd j j' b (old j b h) (old j' b h')
 .by_cases Z:j=i
  .subst Z;rw[gG]at h;exact R.ns j j' b (hs b h)
  .rw[dW Z]at h;exact R.ns j j' b h
 .have Z:j≠i:=λz=>by subst z;rw[O]at h;cases h
  rw[dW Z];exact R.np j h
 .rcases fK g1 with⟨rfl,e⟩|⟨Z,e⟩
  .cases e;exact⟨m,hv,by rw[gG];exact hr,by rw[gG];exact hd⟩
  .obtain⟨T,g3,X,I⟩:=R.nr j W Y e;exact⟨T,g3,by rw[dW Z];exact X.upd hx (λz=>Z (R.nd j i a z ha)),by rw[dW Z];exact I⟩
end
section
variable{H:Hp}
theorem RTs.snoc(r:RT K H c d []):∀{vs:List V}{ds:List D}{as:List Addr},RTs K H vs ds as->RTs K H (vs++[c]) (ds++[d]) as
 |_,_,_,.nil=>by
  have:=RTs.cons r (.nil (K:=K) (H:=H));simpa using this
 |_,_,_,.cons e q=>.cons e (RTs.snoc r q)
theorem RTs.part:∀{vs:List V}{ds:List D}{as:List Addr}{k:Nat},RTs K H vs ds as->ds[k]?=some (.list m)->∃a xs bs,vs[k]?=some (.ref a)/\H a=some (.lst xs)/\RTs K H xs m bs/\a∈as/\(∀b∈bs,b∈as) /\
 (as.Nodup->a∉bs/\bs.Nodup/\∀ys Y O,RTs K (L2.upd H a (.lst ys)) ys Y O->(∀b∈O,b∈bs)->O.Nodup->∃U,RTs K (L2.upd H a (.lst ys)) vs (ds.set k (.list Y)) U/\U.Nodup/\∀b∈U,b∈as)
 |_,_,_,_,.nil,h=>by simp at h
 |_,_,_,0,.cons e q,h=>by
  simp at h;subst h
  cases e with
  |lst hx r=>
   rename_i Z a xs as;refine⟨a,xs,as,rfl,hx,r,by simp,λb hb=>by simp[hb],λnd=>?_⟩;obtain⟨n1,n2,n3⟩:=cL.mp nd;obtain⟨T,S⟩:=bK.mp n1;refine⟨T,S,λys Y O h1 h2 h3=>⟨(a::O)++Z,?_,?_,?_⟩⟩
   .exact .cons (.lst aW h1) (RTs.upd hx (λz=>n3 a au a z rfl) q)
   .refine cL.mpr ⟨bK.mpr ⟨λz=>T (h2 a z),h3⟩,n2,λx hx y X=>?_⟩;rcases aC.mp hx with rfl|z
    .exact n3 x au y X
    .exact n3 x (aA _ (h2 x z)) y X
   .intro b hb;rcases bO.mp hb with z|z
    .rcases aC.mp z with rfl|z
     .simp
     .simp[h2 b z]
    .simp[z]
 |_,_,_,k+1,.cons (as:=W) (bs:=Z) e q,h=>by
  obtain⟨a,xs,bs,h1,h2,h3,h4,h5,h6⟩:=RTs.part (k:=k) q (by simpa using h);refine⟨a,xs,bs,by simpa using h1,h2,h3,aP _ h4,λb hb=>aP _ (h5 b hb),λnd=>?_⟩;obtain⟨n1,n2,n3⟩:=cL.mp nd;obtain⟨g1,g2,g3⟩:=h6 n2;refine⟨g1,g2,λys Y O k1 k2 k3=>?_⟩;obtain⟨U,r1,r2,r3⟩:=g3 ys Y O k1 k2 k3;refine⟨W++U,.cons (RT.upd h2 (λz=>n3 a z a h4 rfl) e) r1,cL.mpr ⟨n1,r2,λx hx y X=>n3 x hx y (r3 y X)⟩,λb hb=>?_⟩;rcases bO.mp hb with z|z
  .exact bI _ z
  .exact aP _ (r3 b z)
theorem RT.flat0(O:flat d=true)(h:RA K ok pl H v d):RT K H v d []:=by
 obtain⟨as,h1,_,h3⟩:=RA.rt (RA.flat (ok':=ok0) (pl':=false) O h)
 cases as with
 |nil=>exact h1
 |cons a r=>exact(h3 a au).elim
end
section
variable{X:Cx}{fl:List Fl}{f:FE}
def nZ(U:fl[i]?=some .N)(hN:X.N.Nodup)(hi:X.N[i]?=some x)(hv:X.env.scope.names.lookup x=some .local\/X.env.scope.names.lookup x=some .cell)(h:DE X fl .T e f)
 (hs:swapsWith e (some (.Name x pos')) pos.line X.env=pure false:=by rfl) (O:X.fn x=true\/X.env.scope.names.lookup x=some .local:=by first|exact .inl rfl|exact .inr rfl):
 DS1 X fl (.Assign [.Name x pos'] e pos) (bY i f):=PS.imp (Ig (i:=i) hN hi hv h hs O) λS σ H h=>by
 refine bV h λG ow δ o R Z q=>?_
 unfold bY at Z;by_cases Y:i<δ.length
 .rw[if_pos Y]at Z;refine aQ Z λd V W=>?_
  cases W;refine⟨G,ow,δ,d,R,V,λv H' s r=>?_⟩;obtain⟨ow',R'⟩:=R.setN s U (qt R Y) r;exact q ow' _ H' R'
 .rw[if_neg Y]at Z
  cases Z
theorem Rel.part{σ:St}{x:D}{m:List D}(R:Rel K fl G ow σ H δ)(Y:fl[i]?=some .N)(hx:ao i δ=some x)(U:IK x=some l)(hm:l[n]?=some (.list m)):
 ∃p vs a xs,σ[i]?=some (some (.ref p))/\vs.length=l.length/\(∀H',Same H H'->SqL K H' p vs\/SqT K H' p vs)/\vs[n]?=some (.ref a)/\(∀H',Same H H'->H' a=some (.lst xs))/\xs.length=m.length /\
  ∀H',Same H H'->∃bs,RTs K H' xs m bs/\a∉bs/\bs.Nodup/\∀ys m' O,RTs K (L2.upd H' a (.lst ys)) ys m' O->(∀b∈O,b∈bs)->O.Nodup->∃ow',Rel K fl G ow' σ (L2.upd H' a (.lst ys)) (δ.set i (some (.d (putAt x n (.list m'))))):=by
 have e:=eX hx;have hi:i<δ.length:=by
  rcases jt i δ.length with z|z
  .exact z
  .rw[bf z]at e;cases e
 obtain⟨v,h1,h2,h3⟩:=R.nr i x (by rw[Y];rfl) e;generalize W:ow.n i=as at h2 h3
 cases h2 with
 |lst X r=>
  rename_i p vs ds E
  cases U;obtain⟨n1,n2⟩:=bK.mp h3;obtain⟨a,xs,bs,g1,g2,g3,T,J,L⟩:=r.part hm;have M:p≠a:=λz=>n1 (z▸T)
  refine⟨p,vs,a,xs,h1,r.length,λH' s=>.inl (SqL.of (s _ _ X)),g1,λH' s=>s _ _ g2,g3.length,λH' s=>?_⟩;obtain⟨C,V,O,f1,f2,Q,F,I,S⟩:=(r.same s).part hm;rw[g1]at f1
  cases f1;rw[s _ _ g2]at f2
  cases f2;obtain⟨k1,k2,k3⟩:=S n2;refine⟨O,Q,k1,k2,λys m' Z q1 q2 q3=>?_⟩;obtain⟨P,r1,r2,r3⟩:=k3 ys m' Z q1 q2 q3;refine(R.grow s).mutN Y hi (by rw[W];exact aA _ T) (s _ _ g2) h1 (.lst (by rw[aL M];exact s _ _ X) r1) (λb hb=>?_) (bK.mpr ⟨λz=>n1 (r3 p z),r2⟩);rw[W];rcases aC.mp hb with rfl|z
  .exact au
  .exact aA _ (r3 b z)
 |tup X r=>
  rename_i p vs ds
  cases U;obtain⟨a,xs,bs,g1,g2,g3,T,J,L⟩:=r.part hm;refine⟨p,vs,a,xs,h1,r.length,λH' s=>.inr (rQ s X.sq),g1,λH' s=>s _ _ g2,g3.length,λH' s=>?_⟩;obtain⟨C,V,O,f1,f2,Q,F,I,S⟩:=(r.same s).part hm;rw[g1]at f1
  cases f1;rw[s _ _ g2]at f2
  cases f2;obtain⟨k1,k2,k3⟩:=S h3;refine⟨O,Q,k1,k2,λys m' Z q1 q2 q3=>?_⟩;obtain⟨P,r1,r2,r3⟩:=k3 ys m' Z q1 q2 q3;exact(R.grow s).mutN Y hi (by rwa[W]) (s _ _ g2) h1 (.tup (dU.upd (s _ _ g2) (dU.same s X)) r1) (λb hb=>by rw[W];exact r3 b hb) r2
 |non=>cases U
 |bl _=>cases U
 |int _=>cases U
 |str _=>cases U
 |dic _ _=>cases U
 |ins _ _ _ _=>cases U
def Qx(O:pIx vs.length j=some n)(h:vs[n]?=some v):atI vs j=some v:=by
 unfold atI;rwa[show ixN vs.length j=some n from O]
theorem Qy(h:YH c i fk f δ=some k):∃y j d l n m O,ao i δ=some y/\fk δ=some (.int j)/\f δ=some d/\IK y=some l/\pIx l.length j=some n/\l[n]?=some (.list m)/\c m d=some O/\k=.nx (δ.set i (some (.d (putAt y n (.list O))))):=by
 refine aQ h λy V h=>?_
 refine aQ h λZ W h=>?_
 refine aQ h λd X h=>?_
 refine aQ h λl e4 h=>?_
 obtain⟨j,rfl⟩:∃j,Z=.int j:=by cases Z<;>first|exact⟨_,rfl⟩|(cases h;done)
 refine aQ h λn e5 h=>?_
 cases e6:l[n]? with
 |none=>rw[e6]at h;cases h
 |some z=>
  rw[e6]at h;obtain⟨m,rfl⟩:∃m,z=.list m:=by cases z<;>first|exact⟨_,rfl⟩|(cases h;done)
  refine aQ h λO Y h=>?_
  cases h;exact⟨y,j,d,l,n,m,O,V,W,X,e4,e5,e6,Y,rfl⟩
def Vp(hfl:fl[i]?=some .N)(hk:DE X fl .P ke fk)(h:DE X fl .P e f)(hN:X.N[i]?=some x)(hsx:j6 ke)(hv:Vis X.env.scope x:=by first|exact Or.inl rfl|exact Or.inr (Or.inl rfl)|exact Or.inr (Or.inr rfl))(hd:(x==("__debug__":Str))=false:=by decide)
 (hcd:(x==("__classdict__":Str))=false:=by decide)
 (hs:swapsWith (.Call (.Attribute (.Subscript (.Name x vpos) ke spos) "append" c) [e] [] k) none pos.line X.env=pure false:=by rfl)
 (Y:attributeBase (.Subscript (.Name x vpos) ke spos) "append" X.env (eval (.Subscript (.Name x vpos) ke spos) X.env)=eval (.Subscript (.Name x vpos) ke spos) X.env:=by rfl)
 (hfew:((backTo k (starEach [e] X.env)).all (λx=>!x.1)&&(backToKw k (keywordEach [] X.env)).all (λx=>x.1.isSome)
  && decide (([e]:List Expr).length+([]:List eM).length+(if([]:List eM).isEmpty then 0 else 1)<30))=true:=by rfl)
 (U:(c.endLine==k.line)=true:=by rfl) (Z:starEach [e] X.env=(false,eval e X.env)::starEach [] X.env:=by rfl) (O:(backTo k (starEach [] X.env)).any (·.1)=false:=by rfl):
 DS1 X fl (.Expr (.Call (.Attribute (.Subscript (.Name x vpos) ke spos) "append" c) [e] [] k) pos) (Ka i fk f):=
 PS.imp (nU (Fj aan aal aam mV (vh rP (fW hN hv hd hcd) hk hsx) (dO h iJ Z) Y hfew U Z O) hs) λs σ H L=>by
 refine bV L λG ow δ o R J q=>?_
 obtain⟨y,Q,d,l,n,m,r,E,I,M,e4,e5,em,e6,rfl⟩:=Qy J;by_cases T:flat d=true/\m.length<1000000
 case neg=>rw[if_neg T]at e6;cases e6
 rw[if_pos T]at e6
 cases e6;obtain⟨p,vs,a,xs,v,z,A,B,V,C,D⟩:=R.part hfl E e4 em;refine⟨_,v,G,ow,δ,_,R,I,λu H1 s1 r1=>?_⟩;obtain rfl:=RA.intE r1;have at1:=Qx (by rwa[z]) B;have W:∀w H2,Same H1 H2->RA X.K ok1 true H2 w d->J_ (.ref a) [w] H2 λ_ t=>s.nx σ t:=λw H2 s2 r2=>by
  obtain⟨bs,d7,d8,d9,S⟩:=D H2 (s1.trans s2);refine⟨a,xs,w,rfl,rfl,V H2 (s1.trans s2),by rw[C];exact fV T.2 (by decide),?_⟩;obtain⟨ow',R'⟩:=S (xs++[w]) (m++[d]) bs ((RTs.upd (V H2 (s1.trans s2)) d8 d7).snoc (RT.upd (V H2 (s1.trans s2)) dD (RT.flat0 T.1 r2))) (λb hb=>hb) d9;exact q ow' σ _ R'
 rcases A H1 s1 with b3|b3
 .exact .inl ⟨p,vs,Q,.ref a,rfl,rfl,b3,at1,.inl ⟨rfl,_,SqL.of (V H1 s1)⟩,G,ow,δ,d,R.grow s1,M,W⟩
 .exact .inr (.inl ⟨p,vs,Q,.ref a,rfl,rfl,b3,at1,.inl ⟨rfl,_,SqL.of (V H1 s1)⟩,G,ow,δ,d,R.grow s1,M,W⟩)
end
noncomputable def iiD:List (D×D)->Option (List (Int×Int))
 |[]=>some []
 | (.int i,.int j)::r=>(iiD r).map ((i,j) :: ·)
 |_=>none
noncomputable def gIn:D->D->Option D:=λx y=>match y with
 |.list l=>if(dy x&&dy (.list l))=true then some (.bool (l.any λz=>eb z x))else none
 |.tuple l=>if(dy x&&dy (.tuple l))=true then some (.bool (l.any λz=>eb z x))else none
 |_=>none
noncomputable def CQ:D->D->Option D:=λx y=>match y with
 |.list l=>if(dy x&&dy (.list l))=true then some (.bool (!l.any λz=>eb z x))else none
 |.tuple l=>if(dy x&&dy (.tuple l))=true then some (.bool (!l.any λz=>eb z x))else none
 |_=>none
section
variable{X:Cx}
end
section
variable{X:Cx}{fl:List Fl}{f:FE}
end
section
variable{X:Cx}{fl:List Fl}{a:Expr}{fa:FA}
end
end D3
variable{qs:List (Int×Int)}
namespace D3
open L2 My
section
variable{X:Cx}{σ:L2.St}{H:Hp}
theorem yU:∀{kvs:List (D×D)}{qs:List (Int×Int)},iiD kvs=some qs->dk0 kvs=qs.map λq=>(.inl q.1,.int q.2)
 |[],_,e=>by cases e;rfl
 | (k,v)::r,qs,e=>by
  unfold iiD at e;split at e
  .next h=>cases h
  .next i j Y h=>
   cases h
   cases Z:iiD r with
   |none=>rw[Z]at e;cases e
   |some q2=>
    rw[Z]at e
    cases e;rw[dk0,yU Z];rfl
  .cases e
theorem wC:∀{kvs:List (D×D)}{qs:List (Int×Int)},iiD kvs=some qs->yN kvs=true
 |[],_,_=>rfl
 | (a,b)::r,qs,h=>by
  unfold iiD at h;split at h
  .next e=>cases e
  .next e=>
   cases e
   cases Z:iiD r with
   |none=>rw[Z]at h;cases h
   |some S=>exact(show yN r=true from wC Z)
  .cases h
def Kw(h:(iiD kvs).isSome=true):yN kvs=true:=by
 obtain⟨_,h⟩:=oF.mp h;exact wC h
theorem yV(h:iiD kvs=some qs):dh0 kvs=.dK (dk0 kvs):=by
 cases kvs with
 |nil=>rfl
 |cons q r=>
  obtain⟨k,v⟩:=q
  cases k with
  |int i=>rfl
  |_=>unfold iiD at h;cases h
theorem Bm:∀{es:List DictEntry}{kvs:List (Key×Value)},Pairs (b_ P w) es kvs->Pairs (b_ c O) es kvs
 |_,_,.nil=>.nil
 |_,_,.cons h1 h2 q=>.cons h1 h2 (Bm q)
theorem Bo:∀{es:List DictEntry}{kvs:List (Key×Value)},Pairs (b_ P w) es kvs->∀x∈es,∃O∈kvs,(b_ P w).is O.1 x.key=true
 |_,_,.nil,_,h=>by cases h
 |_,_,.cons h1 h2 q,x,h=>by
  rcases aC.mp h with rfl|z
  .exact⟨_,au,h1⟩
  .obtain⟨O,m,e⟩:=Bo q x z;exact⟨O,aA _ m,e⟩
def Jg{P':dA}{U:d4}{kvs:List (Key×Value)}(hi:∀O∈kvs,∃i,O.1=.inl i)(d:h.DictOf (b_ P w) a kvs):h.DictOf (b_ P' U) a kvs:=by
 obtain⟨o,es,Y,e,R,S,T,Z,V⟩:=d;refine⟨o,es,Y,e,R,S,λx hx=>?_,Bm Z,V⟩;obtain⟨k,k1,k2⟩:=T x hx;obtain⟨O,m,k3⟩:=Bo Z x (Array.mem_def.mp hx);have X:=(b_ P w).inj _ _ _ k1 k3;obtain⟨i,W⟩:=hi O m;rw[X,W]at k1 k2;exact⟨.inl i,k1,k2⟩
theorem lM:∀{qs:List (Int×Int)}{vs:List (Key×Value)},KV (qs.map λq=>((.inl q.1,.int q.2):Key×V)) vs->vs.map (·.1)=qs.map (λq=>.inl q.1)/\∀k v,(k,v)∈vs->∃i j t,k=.inl i/\v=.int j t/\(i,j)∈qs
 |[],_,h=>by cases h;exact⟨rfl,λ_ _ h=>by cases h⟩
 |q::qs,_,h=>by
  cases h with
  |cons h1 h2=>
   rename_i b bs;obtain⟨S,T⟩:=lM h2;obtain⟨Z,e4⟩:=h1;obtain⟨t,e4⟩:=e4;refine⟨by rw[aD,aD,S,<-Z],λk v hm=>?_⟩;rcases aC.mp hm with z|z
   .subst z;exact⟨q.1,q.2,t,Z.symm,e4,au⟩
   .obtain⟨i,j,U,W,X,Y⟩:=T k v z;exact⟨i,j,U,W,X,aA _ Y⟩
def Xo(I:L2.Inv X pins σ H s)(hq:iiD kvs=some k)(h:L2.Rd H c (dh0 kvs)):(c==sysModules)=false/\∃vs,KV (k.map λq=>((.inl q.1,.int q.2):Key×V)) vs/\∀P w,s.heap.DictOf (b_ P w) c vs:=by
 rw[yV hq,yU hq]at h;obtain⟨_,hs,vs,Z,hd⟩:=(show gO X.prog X.w H s.heap c (.dK _)from h.ok I.hok);exact⟨hs,vs,Z,λP w=>Jg (λx hx=>by obtain⟨i,_,_,z,_⟩:=(lM Z).2 x.1 x.2 hx;exact⟨i,z⟩) hd⟩
def Qz{U O:List (Key×Value)}(ra:KV (qs.map λq=>((.inl q.1,.int q.2):Key×V)) U)(rb:KV (qs.map λq=>((.inl q.1,.int q.2):Key×V)) O)(hn:(O.map (·.1)).Nodup):abj A s O U true:=by
 have S:(qs.map λq=>(eH q.1:Key)).Nodup:=by rwa[<-(lM rb).1]
 have step:∀(l:List (Key×Value)),(∀x∈l,x∈U)->abj A s O l true:=by
  intro l
  induction l with
  |nil=>intro _;exact .nil
  |cons x l T=>
   intro M;obtain⟨k,v⟩:=x;obtain⟨i,j,t,rfl,rfl,hm⟩:=(lM ra).2 k v (M _ au);have J:(eH i:Key)∈O.map (·.1):=by rw[(lM rb).1];exact aY.mpr ⟨(i,j),hm,rfl⟩
   obtain⟨⟨G,y⟩,N,P⟩:=aY.mp J;have P:=P;subst P;obtain⟨F,j',L,H,rfl,Q⟩:=(lM rb).2 _ y N
   cases H;have I:j'=j:=by
    have inj:∀{l:List (Int×Int)},(l.map λq=>(eH q.1:Key)).Nodup->(i,j)∈l->(i,j')∈l->j'=j:=by
     intro l Z h1 h2
     induction l with
     |nil=>cases h1
     |cons p l T=>
      rw[aD,bK]at Z;rcases aC.mp h1 with X|X<;>rcases aC.mp h2 with Y|Y
      .rw[<-X]at Y;cases Y;rfl
      .subst X;exact absurd (aY.mpr ⟨_,Y,rfl⟩) Z.1
      .subst Y;exact absurd (aY.mpr ⟨_,X,rfl⟩) Z.1
      .exact T Z.2 X Y
    exact inj S hm Q
   subst I;obtain⟨n,R,en⟩:=rM.mp N;have K:=valueAt_of_get hn (i:=n) (by rw[aG R,en]);have:=SeqAt.EqAt.int_int (A:=A) (s:=s) j' t j' L;rw[beq_self_eq_true]at this;have q:=abq K this (T λx hx=>M x (aA _ hx));rwa[Bool.and_true]at q
 exact step U λ_ h=>h
end
section
variable{X:Cx}
end
section
variable{X:Cx}{fl:List Fl}
end
section
variable{X:Cx}{fl:List Fl}{f:FE}
end
section
variable{X:Cx}{fl:List Fl}{a:Expr}{f:FE}
end
section
variable{X:Cx}{fl:List Fl}{a b:Expr}{fa:FE}
end
section
variable{X:Cx}
noncomputable def ah6(K:aaa):R2:=λx y H Q=>∃Z l,RdV K H x Z/\((RdV K H y (.list l)/\dy (.list l)=true)\/(RdV K H y (.tuple l)/\dy (.tuple l)=true))/\dy Z=true/\Q (.bl (l.any λz=>eb z Z)) H
noncomputable def Ky(K:aaa):R2:=λx y H Q=>∃Z l,RdV K H x Z/\((RdV K H y (.list l)/\dy (.list l)=true)\/(RdV K H y (.tuple l)/\dy (.tuple l)=true))/\dy Z=true/\Q (.bl (!l.any λz=>eb z Z)) H
def yd(O:A.units+64<cLine)(h:eD l+1<=64):A.units+1+min (eD l) d.depth<cLine:=by
 have:=q_ (eD l) d.depth;lia
def n6(h:dy (.list l)=true):ew l=true/\eD l+1<=64:=by
 unfold dy at h;rw[aK]at h;refine⟨by simpa[ef]using h.1,?_⟩;have:=of_decide_eq_true h.2;simpa[eQ]using this
def mR(h:dy (.tuple l)=true):ew l=true/\eD l+1<=64:=by
 unfold dy at h;rw[aK]at h;refine⟨by simpa[ef]using h.1,?_⟩;have:=of_decide_eq_true h.2;simpa[eQ]using this
def QB(O:X.A.units+64<cLine):OpR X (compareOp .In) (ah6 X.K):=by
 intro pins s σ H x y v u Q I U V h;obtain⟨T,l,ha,hb,sa,q⟩:=h;obtain⟨as,W⟩:=ha.reads I U;rcases hb with⟨hb,Z⟩|⟨hb,Z⟩
 .obtain⟨bs,Y⟩:=hb.reads I V;exact SeqAt.in_list_reads Y W (n6 Z).1 (ai sa) (yd O (n6 Z).2) ⟨.bl _,H,I,rfl,q⟩
 .obtain⟨bs,Y⟩:=hb.reads I V;exact SeqAt.in_tuple_reads Y W (mR Z).1 (ai sa) (yd O (mR Z).2) ⟨.bl _,H,I,rfl,q⟩
def Nm(O:X.A.units+64<cLine):OpR X (compareOp .NotIn) (Ky X.K):=by
 intro pins s σ H x y v u Q I U V h;obtain⟨T,l,ha,hb,sa,q⟩:=h;obtain⟨as,W⟩:=ha.reads I U;rcases hb with⟨hb,Z⟩|⟨hb,Z⟩
 .obtain⟨bs,Y⟩:=hb.reads I V;exact SeqAt.notIn_list_reads Y W (n6 Z).1 (ai sa) (yd O (n6 Z).2) ⟨.bl _,H,I,rfl,q⟩
 .obtain⟨bs,Y⟩:=hb.reads I V;exact SeqAt.notIn_tuple_reads Y W (mR Z).1 (ai sa) (yd O (mR Z).2) ⟨.bl _,H,I,rfl,q⟩
theorem ah7:BrO K (ah6 K) gIn:=by
 intro H x y dx X d Q Y Z e q
 cases X with
 |list l=>
  by_cases z:(dy dx&&dy (.list l))=true
  .have e:(if(dy dx&&dy (.list l))=true then some (ei (l.any λz=>eb z dx))else none)=some d:=e;rw[if_pos z]at e
   cases e;rw[aK]at z;exact⟨dx,l,Y.rd (ai z.1),.inl ⟨Z.rd (ai z.2),z.2⟩,z.1,q _ rfl (.bl _)⟩
  .have e:(if(dy dx&&dy (.list l))=true then some (ei (l.any λz=>eb z dx))else none)=some d:=e;rw[if_neg z]at e
   cases e
 |tuple l=>
  by_cases z:(dy dx&&dy (.tuple l))=true
  .have e:(if(dy dx&&dy (.tuple l))=true then some (ei (l.any λz=>eb z dx))else none)=some d:=e;rw[if_pos z]at e
   cases e;rw[aK]at z;exact⟨dx,l,Y.rd (ai z.1),.inr ⟨Z.rd (ai z.2),z.2⟩,z.1,q _ rfl (.bl _)⟩
  .have e:(if(dy dx&&dy (.tuple l))=true then some (ei (l.any λz=>eb z dx))else none)=some d:=e;rw[if_neg z]at e
   cases e
 |_=>cases e
theorem Vq:BrO K (Ky K) CQ:=by
 intro H x y dx X d Q Y Z e q
 cases X with
 |list l=>
  by_cases z:(dy dx&&dy (.list l))=true
  .have e:(if(dy dx&&dy (.list l))=true then some (ei (!l.any λz=>eb z dx))else none)=some d:=e;rw[if_pos z]at e
   cases e;rw[aK]at z;exact⟨dx,l,Y.rd (ai z.1),.inl ⟨Z.rd (ai z.2),z.2⟩,z.1,q _ rfl (.bl _)⟩
  .have e:(if(dy dx&&dy (.list l))=true then some (ei (!l.any λz=>eb z dx))else none)=some d:=e;rw[if_neg z]at e
   cases e
 |tuple l=>
  by_cases z:(dy dx&&dy (.tuple l))=true
  .have e:(if(dy dx&&dy (.tuple l))=true then some (ei (!l.any λz=>eb z dx))else none)=some d:=e;rw[if_pos z]at e
   cases e;rw[aK]at z;exact⟨dx,l,Y.rd (ai z.1),.inr ⟨Z.rd (ai z.2),z.2⟩,z.1,q _ rfl (.bl _)⟩
  .have e:(if(dy dx&&dy (.tuple l))=true then some (ei (!l.any λz=>eb z dx))else none)=some d:=e;rw[if_neg z]at e
   cases e
 |_=>cases e
end
noncomputable def Itv(K:aaa)(a:Addr)(n:Nat):It:=
 ⟨λi H=>i<n/\∃xs x,SqL K H a xs/\xs.length=n/\xs[n-1-i]?=some x,λi H x H'=>H'=H/\∀xs,SqL K H a xs->xs[n-1-i]?=some x,λi _=>n<=i⟩
theorem QC(a it:Addr)(n:Nat):Turn P w K tg (Itv K a n) [it] it (λi h=>i<=n/\h.IsRevIter it a ((n:Int)-1-(i:Int))) true where
 mem:=by simp
 obj:=λi h st b hb=>by
  have e:b=it:=by simpa using hb
  subst e;obtain⟨_,o,e,c,d⟩:=st;exact⟨o,e,λv z=>by rw[d]at z;cases z⟩
 keep:=λi h h' st k=>⟨st.1,st.2.at λo e=>k it (by simp) o e⟩
 item:=by
  intro X T hw S D W i pins s σ H E I U st V;subst T hw S;obtain⟨hi,xs,x,hq,hn,hx⟩:=V;obtain⟨its,L,p,A⟩:=I.list hq;obtain⟨u,F,J⟩:=L.get hx;obtain⟨N,f1,f2,O,Q,R⟩:=U it (by simp);have Z:=st.2;rw[show(n:Int)-1-(i:Int)=((n-1-i:Nat):Int)by lia]at Z;refine wpAny_pyNext_rev_item Z p.isList (x:=u) (by simpa using F) λh' Y M=>?_
  rw[show((n-1-i:Nat):Int)-1=(n:Int)-1-((i+1:Nat):Int)by lia]at Y;have B:=I.turned (t':=s.toks) (λb o hb e=>(M.2 b hb).trans e) N f1 O Q R;obtain⟨o,e,c,d⟩:=id Y;exact⟨u,rfl,Fd (s:={s with heap:=h'}) e c d (by decide) ⟨x,H,B,J,⟨rfl,λys G=>by rwa[I.list_inj G hq]⟩,⟨by lia,Y⟩,λb hb=>(U b hb).1⟩⟩
 done:=by
  intro X T hw S D W i pins s σ H E I U st V;subst T hw S;obtain⟨N,f1,f2,O,Q,R⟩:=U it (by simp);have V:n<=i:=V;have Z:=st.2;rw[show(n:Int)-1-(i:Int) = -1 by lia]at Z;exact wpAny_pyNext_rev_end (I.ok.hs (W rfl)) Z λh' C=>⟨rfl,I.turned (t':=s.toks) (λb o hb e=>C b o hb e) N f1 O Q R⟩
 self:=λ_ _ _ _ _ st h=>wpAny_pyIter_revIter st.2 h
section
variable{X:Cx}{fl:List Fl}{a:Expr}{f:FE}
def av1(K:aaa)(ta:TE):TI:=λσ H R=>ta σ H λx H1=>∃p xs,x=.ref p/\SqL K H1 p xs/\R (Itv K p xs.length) H1
theorem Y4(hg:Gl X "reversed")(hm:X.mg "reversed"=none)(ha:PE X a ta)(he:starEach [a] X.env=(false,eval a X.env)::starEach [] X.env:=by rfl)
 (U:(backTo pos (starEach [] X.env)).any (·.1)=false:=by rfl) (O:X.still=true:=by rfl):PI X tg (.Call (.Name "reversed" p) [a] [] pos) (av1 X.K ta):=by
 intro pins s σ H R I h;refine ay (oG I hg hm boot_reversed (er (thn ((dO ha iJ he) pos pins s σ H (λvs H1=>match vs with|[x]=>∃p xs,x=.ref p/\SqL X.K H1 p xs/\R (Itv X.K p xs.length) H1|_=>False) I h) λus s1 ⟨vs,H1,Y,r1,q1⟩=>?_) he U))
 cases r1 with
 |nil=>exact q1.elim
 |cons r T=>
  cases T with
  |cons _ _=>exact q1.elim
  |nil=>
  obtain⟨l,xs,e,hq,q⟩:=q1;subst e
  cases r;obtain⟨its,V,pl,Q⟩:=Y.list hq;have P:=V.length;refine call_reversed_list pl.isList ?_;have S:Inv X pins σ H1 {s1 with heap:=s1.heap.push (revObj l ((its.toArray.size:Int)-1))}:=Y.kept (t':=s1.toks) λb o e=>ae _ e
  have Z:(s1.heap.push (revObj l ((its.toArray.size:Int)-1))).IsRevIter s1.heap.objs.size l ((its.toArray.size:Int)-1):=⟨_,ah _ rfl,rfl,rfl⟩;refine wpAny_pyIter_revIter (s:={s1 with heap:=s1.heap.push (revObj l ((its.toArray.size:Int)-1))}) Z ?_;have W:=Z;rw[show(its.toArray.size:Int)-1=(xs.length:Int)-1-((0:Nat):Int)by rw[bQ];lia]at W;refine⟨s1.heap.objs.size,[s1.heap.objs.size],_,_,H1,rfl,S,(vI O <| QC l s1.heap.objs.size xs.length),⟨f9 _,by rwa[show(xs.length:Int)-1-((0:Nat):Int)=(its.toArray.size:Int)-1 by rw[bQ];lia]⟩,λb hb=>?_,q⟩;have e:b=s1.heap.objs.size:=by simpa using hb
  subst e;exact Y.fpOk (aN _) (Y.hok.fresh (aN _))
def Y5(h:DE X fl (.B L) a f)(hg:Gl X "reversed")(hm:X.mg "reversed"=none)(he:starEach [a] X.env=(false,eval a X.env)::starEach [] X.env:=by rfl)
 (U:(backTo pos (starEach [] X.env)).any (·.1)=false:=by rfl) (O:X.still=true:=by rfl):DI X fl L tg (.Call (.Name "reversed" p) [a] [] pos) (Va f):=PI.imp (Y4 hg hm h he U O) λσ H R' h=>by
 refine bV h λG ow δ l R M q=>?_
 refine aQ M λd K T=>?_
 obtain⟨Z,rfl⟩:∃Z,d=.list Z:=by cases d<;>first|exact⟨_,rfl⟩|(cases T;done)
 cases T;refine⟨G,ow,δ,_,R,K,λv H1 s r=>?_⟩;obtain⟨a,xs,rfl,hx,keep⟩:=I_ (R.grow s) r;refine⟨a,xs,rfl,hx,q _ _ s λH2 k2 i=>?_⟩;obtain⟨k3,V⟩:=keep H2 k2;have Q:=V.length;refine⟨λd hd=>?_,λN=>by rw[jC]at N;show xs.length<=i;lia⟩;have hi:i<Z.length:=by
  have:=(aH.mp hd).1;rwa[jC]at this
 rw[List.getElem?_reverse hi]at hd;obtain⟨y,W,S⟩:=V.get hd;rw[<-Q]at W;refine⟨⟨by lia,xs,y,k3,rfl,W⟩,λx J Y=>?_⟩;obtain⟨e,P⟩:=Y;subst e;have:some y=some x:=W.symm.trans (P xs k3)
 cases this;exact⟨Same.refl _,S⟩
end
section
variable{X:Cx}{fl:List Fl}{f:FE}{F:List D->Option D}{fa:FA}
end
section
variable{k:Nat}{fs:FS}{fl:List Fl}
end
section
end
section
variable{fl flA:List Fl}{G:Gh}{ow:Ow}{σ σ':St}{H H1:Hp}{δ:DS}{T:List Nat}
end
section
variable{X:Cx}{fl flA:List Fl}{f:FE}{fa:FA}
end
section
variable{X:Cx}{fl:List Fl}
end
end D3
namespace XC
open Sem (wp)
structure Two(h:eg)(C N I:Addr)(bmB:List Value)(mN mI:Str->Option Value)(B newId:String):Prop where
 ex:∃(nm q:Str)(bs:List Value)(sn:List Str)(sub:List Value)(ab:Bool)(col:Option Bool)(dd:Option Addr)(k0 k1 k2 k3 k5:Option Value),
  h.get? C=some (excClassObj nm q C N bs (.ref I::bmB) true sn sub ab col dd k0 k1 k2 k3 k5 newId)
 nsC:h.Ns N mN
 up:∃(nm q:Str)(NI:Addr)(bs:List Value)(sn:List Str)(sub:List Value)(ab:Bool)(col:Option Bool)(dd:Option Addr)(k0 k1 k2 k3 k5:Option Value)(nid:String),
  h.get? I=some (excClassObj nm q I NI bs bmB true sn sub ab col dd k0 k1 k2 k3 k5 nid)/\h.Ns NI mI
 mro:mroOf (.type B)=pure bmB
section
variable{M:fN}{E:Value->dv->Prop}{g:Array fF}{d:Drawn}{t:Nat}{os:OsState}
variable{N:Addr}{mN mI:Str->Option Value}{B newId initId:String}
def Two.keeps(T:Two h C N I bmB mN mI B newId)(k:∀b o,h.get? b=some o->c.get? b=some o):Two c C N I bmB mN mI B newId:=by
 obtain⟨⟨nm,q,bs,sn,sub,ab,col,dd,k0,k1,k2,k3,k5,hC⟩,hn,⟨W,R,NI,U,X,Z,S,Y,V,j0,j1,j2,P,Q,nid,O,hm⟩,hb⟩:=T;exact⟨⟨nm,q,bs,sn,sub,ab,col,dd,k0,k1,k2,k3,k5,k _ _ hC⟩,hn.keeps k,⟨W,R,NI,U,X,Z,S,Y,V,j0,j1,j2,P,Q,nid,k _ _ O,hm.keeps k⟩,hb⟩
def Two.tail(T:Two h C N I bmB mN mI B newId)(hi:mI "__init__"=none):OwnTail h bmB (.ref I::bmB):=by
 obtain⟨W,Q,NI,U,X,Z,S,Y,V,j0,j1,j2,O,P,nid,R,hm⟩:=T.up;exact .own R hm hi .base
theorem Two.look(T:Two h C N I bmB mN mI B newId)(hB:typeLookup (.type B) name=pure c)
 (hq:k (match mN name with
  |some v=>some v
  |none=>match mI name with
   |some v=>some v
   |none=>c) ⟨h,g,d,t,os⟩):wpAny M A (typeLookup (.ref C) name) k E ⟨h,g,d,t,os⟩:=by
 obtain⟨⟨nm,q,bs,sn,sub,ab,col,dd,k0,k1,k2,k3,k5,hC⟩,hn,⟨U,L,NI,R,V,Z,P,Y,S,j0,j1,j2,J,K,nid,O,hm⟩,hb⟩:=T;have rest:lookupAlong bmB name=pure c:=by
  rwa[typeLookup_eq,hb]at hB
 rw[typeLookup_eq];refine aa (wpAny_mroOf_exc hC ?_);rw[lookupAlong_cons];refine aa (wpAny_classOwn_exc hC hn ?_)
 cases W:mN name with
 |some v=>
  rw[W]at hq;exact ag hq
 |none=>
  rw[W]at hq;rw[lookupAlong_cons];refine aa (wpAny_classOwn_cls O hm ?_)
  cases X:mI name with
  |some v=>
   rw[X]at hq;exact ag hq
  |none=>
   rw[X]at hq;rw[rest];exact ag hq
end
section
variable{prog:dA}{E:Value->dv->Prop}{g:Array fF}{d:Drawn}{t:Nat}{os:OsState}
variable{N:Addr}{mN mI:Str->Option Value}{B newId initId:String}
def Two.make(T:Two h C N I bmB mN mI B newId)(F:ExcBaseFacts B newId initId bmB)(hi:mI "__init__"=none)(hN:mN "__init__"=some (.ref fI))
 (hf:h.get? fI=some oI) (U:oI.cls=.type "function") (O:c.length<=sizeLine)
 (hq:∀h' e,h.objs.size<=e->Heap.MadeExcOf h h' e (.ref C) c->wpAny (model prog w) A (call (.ref fI) (.ref e::c)) (λr s'=>r=.none/\k (.done (.ret (.ref e))) s') E ⟨h',g,d,t,os⟩):
 wpAny (model prog w) A (eT.«type.__call__» ⟨.ref C::c,[]⟩) k E ⟨h,g,d,t,os⟩:=by
 have TT:=T.tail hi;have T0:=T;obtain⟨⟨nm,q,bs,sn,sub,ab,col,dd,k0,k1,k2,k3,k5,hC⟩,hn,⟨S,G,NI,P,V,X,M,W,R,j0,j1,j2,y,D,nid,x,hm⟩,hb⟩:=T
 repeat(first
  |with_reducible refine az hC ?_
  |with_reducible refine wpAny_madeBy_exc hC ?_
  |wp_step)
 refine codeAny_call_builtin_code (Code.quiet_builtin _ F.quiet) (wpAny_check_new_subT F TT hC ?_);refine codeAny_exc_new_subT F TT hC ?_ O;obtain⟨h2,Z⟩:∃h2,h2=(h.push {cls:=.type "tuple", data:=.seq c.toArray}).push {cls:=.ref C,data:=.fields #[.ref h.objs.size,.none,.none,.none,.bool false,.none]}:=⟨_,rfl⟩;rw[<-Z];have kp:∀b o,h.get? b=some o->h2.get? b=some o:=λb o z=>by
  rw[Z];exact ae _ (ae _ z)
 have hx:h2.get? (h.objs.size+1)=some {cls:=.ref C,data:=.fields #[.ref h.objs.size,.none,.none,.none,.bool false,.none]}:=by
  rw[Z];heap_get
 have L:h2.get? h.objs.size=some {cls:=.type "tuple", data:=.seq c.toArray}:=by
  rw[Z];exact ae _ (Heap.get?_push_at rfl rfl)
 have Y:=kp _ _ hC;have H:(dE C :: .ref I::bmB).contains (.ref C)=true:=by simp
 repeat(first
  |with_reducible refine az hx ?_
  | (with_reducible refine bo Y ?_;rw[H])
  |wp_step)
 refine(T0.keeps kp).look F.init.lookup ?_;rw[hN];refine ax (aa ?_);refine aa (da (T := "function") ⟨_,kp _ _ hf,U⟩ ?_);rw[if_pos (by decide)];refine ag (aa (av (hq h2 (h.objs.size+1) (rK _) ⟨kp,ce (rK _),h.objs.size,hx,ce (aN _),L⟩) (λr s' K=>?_) λ_ _ z=>z));obtain⟨rfl,J⟩:=K
 wp_walk
 exact J
end
open Builtin Builtin.ObjectAttr
open Sem (wp)
section
variable{prog:dA}{E:Value->dv->Prop}{g:Array fF}{d:Drawn}{t:Nat}{os:OsState}
variable{N x:Addr}{mN mI:Str->Option Value}{B newId initId sa owner:String}{name:Str}{v:Value}
def Two.store0(T:Two h C N I bmB mN mI B newId)(SF:StoreFacts B bmB sa owner)(n1:mN name=none)(n2:mI name=none)(hB:typeLookup (.type B) name=pure none)
 (hx:h.get? x=some o) (hc:o.cls=.ref C) (U:∀c,o.data ≠ .cls c) (hdn:o.dict=none)
 (hq:∀h' O dx,h'.get? x=some {o with dict:=some dx}->h.objs.size<=dx->dx≠x->h'.Ns1 dx (λy=>if y=name then some v else none)->(∀b u,b≠x->h.get? b=some u->h'.get? b=some u)->k (.done (.ret .none)) ⟨h',g,d,O,os⟩):
 wpAny (model prog w) A (eT.«object.__setattr__» ⟨[.ref x,.str name tk,v],[]⟩) k E ⟨h,g,d,t,os⟩:=by
 have T0:=T;obtain⟨⟨nm,q,bs,sn,sub,ab,col,dd,k0,k1,k2,k3,k5,hC⟩,hn,⟨P,G,NI,L,R,W,K,V,M,j0,j1,j2,D,F,nid,s,hm⟩,hb⟩:=T;have pass:refuseLoop (.ref x) "__setattr__" (.ref C :: .ref I::bmB)=pure ():=by
  rw[refuseLoop_ref,refuseLoop_ref];exact SF.passes _
 unfold eT.«object.__setattr__»
 repeat(first
  |rw[refuse_eq]
  |rw[pass]
  | (with_reducible refine az hx ?_;rw[hc])
  |with_reducible refine wpAny_mroOf_exc hC ?_
  | (with_reducible refine T0.look hB ?_;rw[n1,n2])
  |wp_step)
 rw[hdn,if_neg (by simp[typeHasDict])];split
 .rename_i z
  cases z
 split
 .rename_i c z;exact absurd z (U c)
 obtain⟨h1,Y⟩:∃h1,h1=h.push {cls:=.type "dict", data:=.dict #[]}:=⟨_,rfl⟩;have x1:h1.get? x=some o:=by rw[Y];exact ae _ hx
 have ne:=bh (af hx);refine aa (wpAny_alloc' ?_);rw[<-Y];refine aa (wpAny_update' x1 (ag ?_));obtain⟨h2,Z⟩:∃h2,h2=h1.update x λo=>{cls:=o.cls,dict:=some h.objs.size,data:=o.data,slots:=o.slots}:=⟨_,rfl⟩
 rw[<-Z];have d2:h2.get? h.objs.size=some {cls:=.type "dict", data:=.dict #[]}:=by
  rw[Z,Y];exact(dr _ _ _ _ ne.symm).trans (Heap.get?_push_at rfl rfl)
 have x2:h2.get? x=some {cls:=o.cls,dict:=some h.objs.size,data:=o.data,slots:=o.slots}:=by
  rw[Z];refine ar _ x1 ?_;have fr:=(Heap.get?_some_iff.mp hx).2;obtain⟨oc,od,X,osl⟩:=o
  cases X<;>first|rfl|exact fr
 have k2:∀b u,b≠x->h.get? b=some u->h2.get? b=some u:=λb u z q=>by
  rw[Z,Y];exact(dr _ _ _ _ z).trans (ae _ q)
 have S:h2.Ns h.objs.size (λ_=>none):=⟨_,#[],_,d2,rfl,λe z=>absurd z (by simp),λ_=>rfl⟩;refine aa (ag (aa (wpAny_nsSet1 (dk S) λh3 n3 hs=>?_)));obtain⟨oD,J,H,a1,a2,a3⟩:=n3.count (Within.cons name v Within.nil);refine aa (wpAny_lookBehind a1 (by rw[a2];exact pastItsLine_dict (bw a3 (show 1<=sizeLine+1 by decide))) ?_)
 wp_walk
 exact hq h3 _ h.objs.size ((hs.2 x ne).trans x2) (aN _) ne.symm n3 λb u z q=>(hs.2 b (bh (af q))).trans (k2 b u z q)
def Two.set0(T:Two h C N I bmB mN mI B newId)(O:StoreFacts B bmB sa owner)(s1:mN "__setattr__"=none)(s2:mI "__setattr__"=none)(n1:mN name=none)(n2:mI name=none)(hB:typeLookup (.type B) name=pure none)
 (hx:h.get? x=some o) (hc:o.cls=.ref C) (Y:∀c,o.data ≠ .cls c) (hdn:o.dict=none)
 (hq:∀h' U dx,h'.get? x=some {o with dict:=some dx}->h.objs.size<=dx->dx≠x->h'.Ns1 dx (λy=>if y=name then some v else none)->(∀b u,b≠x->h.get? b=some u->h'.get? b=some u)->k () ⟨h',g,d,U,os⟩):
 wpAny (model prog w) A (setAttr (.ref x) name v) k E ⟨h,g,d,t,os⟩:=by
 have T0:=T;obtain⟨⟨nm,q,bs,sn,sub,ab,col,dd,k0,k1,k2,k3,k5,hC⟩,hn,⟨J,s,NI,G,K,X,F,W,H,j0,j1,j2,p,r,nid,n,hm⟩,hb⟩:=T;have m:=O.slot.bind (.ref x);have own:(dE C :: .ref I::bmB).contains (.type owner)=true:=by
  rw[gC,gC,O.hasOwner,jw,jw]
 unfold setAttr callSpecial? specialOf
 repeat(any_goals(first
  |assumption
  | (with_reducible refine az hx ?_;rw[hc])
  | (with_reducible refine T0.look O.slot.lookup ?_;rw[s1,s2])
  |wp_step))
 refine codeAny_call_builtin O.slot.plain O.entry ?_;have D:∀{A:dQ}{E:Value->dv->Prop}(tk:Tok)(k:Unit->dv->Prop)(t:Nat),k () ⟨h,g,d,t,os⟩->wpAny (model prog w) A (checkBuiltinCall sa ⟨[.ref x,.str name tk,v],[]⟩) k E ⟨h,g,d,t,os⟩:=by
  intro A E tk k t z;have ha:=O.args (.ref x) (.str name tk) v;simp only[checkBuiltinCall,O.kind,O.split];refine aa ?_
  repeat(first
   | (with_reducible refine az hx ?_;rw[hc])
   | (with_reducible refine bo hC ?_;rw[own])
   |wp_step)
  cases L:Manifest.signature? sa with
  |none=>exact ag z
  |some Z=>
   simp only[argsOk,L]at ha;have ha:=ha;show wpAny _ _ (Bind.checkArgs sa Z ⟨[.ref x,.str name tk,v],[]⟩) _ _ _;rw[ha];exact ag z
 refine D _ _ _ (T0.store0 O n1 n2 hB hx hc Y hdn λh' U dx M P R S V=>?_)
 repeat(any_goals(first|assumption|wp_step))
 exact hq h' U dx M P R S V
end
open L2 My
section
variable{N x:Addr}{mN mI:Str->Option Value}{B newId initId sa owner:String}
def QD{k:Nat}{fI:Addr}{name f:Str}{params:gd}{kV:Value}{p1 p3 p4:Pos}
 (lk:K.lookup fI=some ⟨oc,od,.func (aac name qual params [.Assign [.Attribute (.Name "self" p1) f p2] (.Name f p3) p4] scope dV kV doc pm an cdv ct),osl⟩) (hcd:aah K cdv qual=true)
 (S:FnScope ["self", f] ["self", f] scope) (l1:scope.names.lookup ("self":Str)=some NameKind.local) (l2:scope.names.lookup f=some .local) (fs:("self":Str)≠f) (fd:(f==("__debug__":Str))=false) (fc:(f==("__classdict__":Str))=false)
 (hb:Binds K (aac name qual params [.Assign [.Attribute (.Name "self" p1) f p2] (.Name f p3) p4] scope dV kV doc pm an cdv ct) ["self", f] [])
 {A:dQ} {outer:List Env} {s:dv} {H:Hp} (hr:Room (k+1) A) (Y:Env0 P w K mg base A outer s H)
 (T:Two s.heap C N I bmB mN mI B newId) (SF:StoreFacts B bmB sa owner) (s1:mN "__setattr__"=none) (s2:mI "__setattr__"=none) (n1:mN f=none) (n2:mI f=none) (hB:typeLookup (.type B) f=pure none)
 {o:Obj} (hx:s.heap.get? x=some o) (hc:o.cls=.ref C) (hnc:∀c,o.data ≠ .cls c) (hdn:o.dict=none) {v:V} {u:Value} (rv:RelV v u) {R:Result->dv->Prop}
 (hq:∀h' O dx,h'.get? x=some {o with dict:=some dx}->s.heap.objs.size<=dx->dx≠x->h'.Ns1 dx (λy=>if y=f then some u else none)->(∀b U,b≠x->s.heap.get? b=some U->h'.get? b=some U)->R (.ok (.ret .none)) {s with heap:=h',toks:=O}):
 codeAny (model P w) A (.call (.ref fI) ⟨[.ref x,u],[]⟩) R s:=by
 have X:=Y.mod.kin.keeps λb o e=>(Y.bs b o e).1
 have Z:=Y.mod.nolimit.keeps λb o e=>(Y.bs b o e).1
 have kinds:∀y∈(["self", f]:List Str).zip [dE x,u],scope.names.lookup y.1=some .local\/(scope.names.lookup y.1=some .cell/\((cellsFrom (s.heap.objs.size+1) scope.names []).lookup y.1).isSome=true):=by
  rintro⟨n,z⟩ t;rcases S.par n (jH t).1 with q|q
  .exact .inl q
  .exact .inr ⟨q,aar _ _ _ (.inl q)⟩
 refine cr hr.depth (X _ _ lk) rfl S.co S.gen rfl (aaK X hcd) (hb s [.ref x,u] X rfl _ _ _ _ ?_);refine bX S.kind kinds λenv r p y=>?_
 subst r;refine⟨Z.keeps y.toInCall.keep,codeAny_func ?_⟩;obtain⟨h3,F,rfl,kp⟩:=y.done;have ns:=y.toInCall.ns;have D:bindL (envOfC qual scope s.heap.objs.size fI cdv).kindOf ((["self", f]:List Str).zip [dE x,u]) (λ_=>none) "self"=some (.ref x):=
  tG S.nd (i:=0) rfl rfl l1
 have E:bindL (envOfC qual scope s.heap.objs.size fI cdv).kindOf ((["self", f]:List Str).zip [dE x,u]) (λ_=>none) f=some u:=
  tG S.nd (i:=1) rfl rfl l2
 refine cc (c9 (c0 (cz S.kind l2 ns E (c0 (cz S.kind l1 ns D ?_))) fd));refine(T.keeps kp).set0 SF s1 s2 n1 n2 hB (kp _ _ hx) hc hnc hdn λh' O dx G J L M Q=>?_
 refine bj ?_;exact hq h' O dx G (bw (bw y.toInCall.fresh (fU ns.lt)) J) L M λb U e q=>Q b U e (kp _ _ q)
end
structure Fly(h:eg)(a C dx:Addr)(f:Str)(u:Value)(tb:Option Addr):Prop where
 obj:∃vs sl,h.get? a=some ⟨.ref C,some dx,.fields vs,sl⟩/\vs[1]?=some (tb.elim .none .ref)/\vs[2]?=some .none
 dic:h.Ns1 dx (λy=>if y=f then some u else none)
 ne:dx≠a
 hd:∀T,tb=some T->T≠a/\T≠dx/\∃oT ts,h.get? T=some oT/\oT.data=.fields ts/\ts[3]?=some .none
section
variable{M:fN}{E:Value->dv->Prop}
def Bp 
 (O:A.frames=some (env::outer)) (hl:s.heap.FunFrames base (env::outer)) (hf:env.frame=some c) (he:s.heap.get? a=some oe) (hd:oe.data=.fields k) (hsz:1<k.size)
 (h:∀h' T,s.heap.objs.size<=T->h'.get? a=some (oe.mapFields (·.setIfInBounds 1 (.ref T)))->(∃oT ts,h'.get? T=some oT/\oT.data=.fields ts/\ts[3]?=some .none) ->
  (∀b o,b≠a->b∉frs (env::outer)->s.heap.get? b=some o->h'.get? b=some o)->(∀b o,b≠a->s.heap.get? b=some o->∃sl,h'.get? b=some {o with slots:=sl})->r () {s with heap:=h'}):
 wpAny M A (do let z <-frameOf env;let pl <-entryPlaceOf c hn;let b <-EntryCells.newEntry m z .none (rawInt c) .none pl;setField (.ref a) 1 b) (λ_ s'=>wpAny M A (setFlight (.ref a) none) r E s') E s:=by
 have nf:a∉(env::outer).filterMap (·.frame):=λz=>by
  obtain⟨_,o,J,q⟩:=hl.mem z;rw[he]at J
  cases J;exact q k hd
 refine aa (wpAny_frameOf_fun O hl hf λh1 hs=>?_);refine aa (wpAny_entryPlaceOf λpl V=>?_);refine aa (ba ?_ (V.sizeOk5 _ _ _ _ _));obtain⟨Z,Y⟩:∃Z:Obj,Z={cls:=.type "traceback", dict:=none,data:=.fields ([m,.ref c,.none,rawInt c,.none]++(if pl.isEmpty then bR 6 d5 else pl)).toArray}:=⟨_,rfl⟩;rw[<-Y];have od:Z.data=.fields ([m,.ref c,.none,rawInt c,.none]++(if pl.isEmpty then bR 6 d5 else pl)).toArray:=by rw[Y]
 have R:Z.isFreed=false:=by rw[Y];rfl
 have a1:=(hs.2.1 a nf).trans he;have a2:(h1.push Z).get? a=some oe:=ae _ a1;refine be a2 hd hsz ?_;have sz:=hs.1;have ne:=pW (af a1);have d3:=bE hd (·.setIfInBounds 1 (dE h1.objs.size));obtain⟨h3,U⟩:∃h3,h3=(h1.push Z).update a (f6 (·.setIfInBounds 1 (dE h1.objs.size))):=⟨_,rfl⟩;rw[<-U];have a3:h3.get? a=some (oe.mapFields (·.setIfInBounds 1 (.ref h1.objs.size))):=by
  rw[U];exact ar _ a2 (bq d3)
 have N:h3.get? h1.objs.size=some Z:=by
  rw[U];exact(am _ _ ne.symm).trans (ah h1 R)
 have K:∀b,b≠a->b≠h1.objs.size->h3.get? b=h1.get? b:=λb W S=>by
  rw[U,am _ _ (dL W)];exact Heap.get?_push_ne _ _ _ S
 refine aa (aw a3 d3 (x:=.ref h1.objs.size) (by simp[hsz]) ?_);rw[if_pos (show(dE h1.objs.size != d5)=true by simp)];have I:=bE od (·.setIfInBounds 3 ((none:Option Addr).elim d5 λf=>rawInt f));refine be N od (by simp only[bQ,aV,aO,fL]<;>lia) ?_;obtain⟨h4,e4⟩:∃h4,h4=h3.update h1.objs.size (f6 (·.setIfInBounds 3 ((none:Option Addr).elim d5 λf=>rawInt f))):=⟨_,rfl⟩;rw[<-e4];have P:∀b,b≠h1.objs.size->h4.get? b=h3.get? b:=λb z=>by rw[e4];exact am _ _ (dL z)
 refine h h4 h1.objs.size (u5 sz.symm) ((P a (dL ne)).trans a3) ⟨_,_,by rw[e4];exact ar _ N (bq I),I,?_⟩ (λb o W S q=>?_) λb o W q=>?_
 .rcases V with rfl|⟨_,_,_,_,_,_,_,rfl⟩<;>simp
 .have q1:=(hs.2.1 b S).trans q;have X:=bh (af q1);exact(P b X).trans ((K b W X).trans q1)
 .obtain⟨sl,q1⟩:=hs.2.2 b o q;have X:=bh (af q1);exact⟨sl,(P b X).trans ((K b W X).trans q1)⟩
end
section
variable{M:fN}{E:Value->dv->Prop}
theorem QF 
 (O:A.frames=some (env::outer)) (hl:s.heap.FunFrames base (env::outer)) (hf:env.frame=some c) (F:Fly s.heap a C k q0 q5 tb) (nd:k∉frs (env::outer))
 (h:∀h' T,s.heap.objs.size<=T->Fly h' a C k q0 q5 (some T)->(∀b o,b≠a->tb≠some b->b∉frs (env::outer)->s.heap.get? b=some o->h'.get? b=some o) ->
  (∀b o,b≠a->tb≠some b->s.heap.get? b=some o->∃sl,h'.get? b=some {o with slots:=sl})->q6 () {s with heap:=h'}):
 wpAny M A (noteFrame (.ref a) env) (λ_ s'=>wpAny M A (setFlight (.ref a) none) q6 E s') E s:=by
 obtain⟨⟨vs,sl,ea,y,v⟩,Z,W,G⟩:=F;have X:=(gD.mp y).1;have P:k<s.heap.objs.size:=by
  obtain⟨o,_,_,q,_⟩:=Z;exact af q
 unfold noteFrame;simp only[hf]
 cases tb with
 |none=>
  refine aa (aw ea rfl y ?_);rw[if_neg (by decide)];refine Bp O hl hf ea rfl X λh' T Y q1 q2 q3 q4=>h h' T Y ⟨⟨_,sl,q1,by simp[X],by simp[v]⟩,?_,W,λT' z=>?_⟩ (λb o U _ V J=>q3 b o U V J) λb o U _ V=>q4 b o U V
  .obtain⟨o,es,D,r1,r2⟩:=Z;exact⟨o,es,D,q3 k o W nd r1,r2⟩
  .cases z;refine⟨λz=>?_,λz=>?_,q2⟩
   .rw[z]at Y;exact absurd (af ea) (dG.mpr Y)
   .rw[z]at Y;exact absurd P (dG.mpr Y)
 |some T=>
  obtain⟨r,t,p,ts,K,N,x⟩:=G T rfl;refine aa (aw ea rfl y ?_);rw[if_pos (show((Option.elim (some T) d5 dE) != d5)=true by simp)];refine aa (aw K N x ?_);rw[if_neg (show ¬((d5==rawInt c)=true)by simp[rawInt])];refine aa (be K N (gD.mp x).1 ?_);obtain⟨h2,B⟩:∃h2,h2=s.heap.update T (f6 (·.setIfInBounds 3 d5)):=⟨_,rfl⟩;rw[<-B];have R:∀b,b≠T->h2.get? b=s.heap.get? b:=λb z=>by rw[B];exact am _ _ (dL z)
  have S:h2.objs.size=s.heap.objs.size:=by rw[B];exact br ..
  have n:T∉frs (env::outer):=λz=>by
   obtain⟨_,o,w,q⟩:=hl.mem z;rw[K]at w
   cases w;exact q ts N
  have H:=hl.of_keeps λb o hb q=>⟨o,(R b λz=>by rw[z,K]at hb;cases hb;exact q ts N).trans hb,rfl⟩
  refine Bp (s:={s with heap:=h2}) O H hf ((R a (dL r)).trans ea) rfl X λh' T' Y q1 q2 q3 q4=>h h' T' (by rwa[<-S]) ⟨⟨_,sl,q1,by simp[X],by simp[v]⟩,?_,W,λm z=>?_⟩
   (λb o U I V J=>q3 b o U V ((R b λz=>I (by rw[z])).trans J)) λb o U I V=>q4 b o U ((R b λz=>I (by rw[z])).trans V)
  .obtain⟨o,es,D,r1,r2⟩:=Z;exact⟨o,es,D,q3 k o W nd ((R k (dL t)).trans r1),r2⟩
  .cases z;have Y:s.heap.objs.size<=T':=by rwa[<-S]
   refine⟨λz=>?_,λz=>?_,q2⟩
   .rw[z]at Y;exact absurd (af ea) (dG.mpr Y)
   .rw[z]at Y;exact absurd P (dG.mpr Y)
end
structure Loose(X:Cx)(pins:List (Addr×Obj))(H:Hp)(b:Addr):Prop where
 new:X.s₀.heap.objs.size<=b
 loc:b≠X.env.locals
 cel:∀x c,X.env.cells.lookup x=some c->c≠b
 pin:∀p∈X.pn++pins,p.1≠b
 out:H b=none
section
variable{X:Cx}{σ:L2.St}{H H':Hp}
def Loose.of(I:Inv X pins σ H s)(hb:s.heap.objs.size<=k)(O:H' k=none):Loose X pins H' k:=by
 refine⟨bw I.sz hb,λz=>?_,λx c e z=>?_,λp Y z=>?_,O⟩
 .rw[z]at hb;exact absurd I.lt (dG.mpr hb)
 .obtain⟨v,o,Z,_⟩:=I.cell x c e;rw[z]at Z;exact absurd (af Z) (dG.mpr hb)
 .have:=(I.pin p Y).1;rw[z]at this;exact absurd (af this) (dG.mpr hb)
def Loose.nofs(I:Inv X pins σ H s)(L:Loose X pins H' c):c∉X.env.locals::X.fs:=λz=>by
 rcases aC.mp z with e|e
 .exact L.loc e
 .obtain⟨_,o,Z,_⟩:=I.ok.funs.mem e;exact absurd (af Z) (dG.mpr L.new)
def Gk(hA:A.frames=X.A.frames)(I:Inv X pins σ H s)(O:X.stack=X.env::X.outer)(hfr:X.env.frame=some X.env.locals)
 (F:Fly s.heap a C t q0 q1 tb) (U:Loose X pins H a) (Ld:Loose X pins H t) (Lt:∀T,tb=some T->Loose X pins H T)
 (h:∀s' T,Inv X pins σ H s'->Fly s'.heap a C t q0 q1 (some T)->s'.os=s.os->s'.gens=s.gens->Loose X pins H T->q2 () s'):
 wpAny M A (noteFrame (.ref a) X.env) (λ_ s'=>wpAny M A (setFlight (.ref a) none) q2 k s') k s:=by
 have fl:=I.stack;rw[O]at fl;have fe:frs (X.env::X.outer)=X.env.locals::X.fs:=by unfold frs;rw[fQ,hfr];rfl
 refine QF (hA.trans (I.ok.frames.trans (by rw[O]))) fl hfr F (by rw[fe];exact Ld.nofs I) λh' T N G k1 k2=>?_
 have LT:=Loose.of I N (I.hok.fresh N);refine h _ T ?_ G rfl rfl LT;rw[fe]at k1;have ex:∀b,H b≠none->b≠a/\tb≠some b/\b∉X.env.locals::X.fs:=λb hb=>by
  refine⟨λz=>hb (by rw[z];exact U.out),λz=>hb (Lt b z).out,λz=>hb ?_⟩;exact I.stkFree b (by rwa[O,fe])
 obtain⟨m,⟨o,es,B,P,r⟩,_⟩:=id I.loc;obtain⟨sl,J⟩:=k2 _ o (dL U.loc) (λz=>(Lt _ z).loc rfl) P;refine I.step (g':=s.gens) (d':=s.drawn) (t':=s.toks) (ch:=a::tb.toList) (λb hb=>?_) (λb o V W Z q _=>k1 b o (λz=>Z (by rw[z];exact au)) (λz=>Z (aA _ (by rw[z];exact bJ.mpr rfl))) (λz=>(aC.mp z).elim V W) q)
  (λb o V W Z q _=>k2 b o (λz=>Z (by rw[z];exact au)) (λz=>Z (aA _ (by rw[z];exact bJ.mpr rfl))) q) (λ_ _ _ _ z=>z)
  (λb o Z q=>let⟨_,w⟩:=k2 b o (λz=>Z (by rw[z];exact au)) (λz=>Z (aA _ (by rw[z];exact bJ.mpr rfl))) q;⟨_,w⟩) (λ_ _ e=>e) (λ_ _ _ e=>e) (λ_ _ _ e=>e) (λD hm=>?_) (λb w e=>?_) I.bare
 .rcases aC.mp hb with e|e
  .rw[e];exact⟨.inr U.new,U.loc,U.cel,U.pin⟩
  .cases tb with
   |none=>cases e
   |some T0=>
    have e:b=T0:=by simpa using e
    have:=Lt T0 rfl;rw[e];exact⟨.inr this.new,this.loc,this.cel,this.pin⟩
 .obtain⟨o',S,R,Y,L⟩:=hm;rw[P]at Y;cases Y;exact⟨_,S,R,J,L⟩
 .refine(I.hok b w e).stay (λc v K q=>?_) (λ_ q=>q) λ_ _ q=>q
  obtain⟨V,W,Z⟩:=ex c (by
   rcases K with z|z
   .rw[z,e];simp
   .rw[z];simp)
  exact k1 c v V W Z q
end
section
variable{prog:dA}{E:Value->dv->Prop}{g:Array fF}{d:Drawn}{t:Nat}{os:OsState}
variable{N:Addr}{mN mI:Str->Option Value}{B newId initId:String}
def Two.call(T:Two h C N I bmB mN mI B newId)(F:ExcBaseFacts B newId initId bmB)(hi:mI "__init__"=none)(hN:mN "__init__"=some (.ref fI))
 (hf:h.get? fI=some Y) (U:Y.cls=.type "function") (O:c.length<=sizeLine)
 (hq:∀h' e,h.objs.size<=e->Heap.MadeExcOf h h' e (.ref C) c->wpAny (model prog w) (A.under (.builtin "type.__call__" ⟨.ref C::c,[]⟩)) (call (.ref fI) (.ref e::c)) (λr s'=>r=.none/\Q (.ref e) s') E ⟨h',g,d,t,os⟩):
 wpAny (model prog w) A (call (.ref C) c) Q E ⟨h,g,d,t,os⟩:=by
 have T0:=T;obtain⟨⟨nm,q,bs,sn,sub,ab,col,dd,k0,k1,k2,k3,k5,hC⟩,hn,⟨V,L,NI,R,W,Z,P,X,S,j0,j1,j2,J,K,nid,H,hm⟩,hb⟩:=T;have g1:=tc_lookup;have g2:=tc_bind (.ref C);refine cy (codeAny_of_tree ?_)
 repeat(any_goals(first
  |assumption
  |with_reducible refine az hC ?_
  |wp_step))
 refine⟨rfl,?_⟩;refine codeAny_call_builtin_at (Code.quiet_builtin _ (by decide +kernel)) entry_typeCall (wpAny_check_type_call_sub hC (T0.make F hi hN hf U O λh' e M hm=>?_));exact hq h' e M hm
def Jh(hh:A.handled=none)(U:bmB.contains (.type "BaseException")=true)
 (h:wpAny M A c (λv O=>∃e oe,v=.ref e/\Two O.heap C N I bmB mN mI B newId/\O.heap.get? e=some oe/\oe.cls=.ref C/\(∃vs,oe.data=.fields vs/\vs[1]?=some .none)/\E (.ref e) O) E s):
 wpAny M A (raiseStmt env (some c) none) k E s:=by
 have J:(dE C :: .ref I::bmB).contains (.type "BaseException")=true:=by
  rw[gC,gC,U,jw,jw]
 refine aa (av h (λv O q=>?_) λ_ _ z=>z);obtain⟨e,oe,rfl,T,X,L,⟨vs,hd,h1⟩,K⟩:=q;obtain⟨⟨nm,q,bs,sn,sub,ab,col,dd,k0,k1,k2,k3,k5,hC⟩,hn,⟨V,H,NI,R,W,Z,P,Y,S,j0,j1,j2,F,G,nid,y,hm⟩,hb⟩:=T;obtain⟨D,g,d,tk,os⟩:=O
 repeat(first
  | (with_reducible refine az X ?_;rw[L])
  |with_reducible refine az hC ?_
  | (with_reducible refine bo hC ?_;rw[J])
  | (with_reducible refine aw X hd h1 ?_)
  |wp_step)
 exact wpAny_raiseNew_none hh K
end
abbrev bmV:List Value:=[.type "ValueError", .type "Exception", .type "BaseException", .type "object"]
structure Init(K:aaa)(f:Str)(fI:Addr):Prop where
 ex:∃(name qual:Str)(params:gd)(scope:eL)(dV kV doc pm cdv ct:Value)(an od:Option Addr)(osl:Array (Option Value))(p1 p2 p3 p4:Pos),
  K.lookup fI=some ⟨.type "function", od,.func (aac name qual params [.Assign [.Attribute (.Name "self" p1) f p2] (.Name f p3) p4] scope dV kV doc pm an cdv ct),osl⟩/\aah K cdv qual=true /\
  FnScope ["self", f] ["self", f] scope/\scope.names.lookup ("self":Str)=some NameKind.local/\scope.names.lookup f=some NameKind.local /\
  Binds K (aac name qual params [.Assign [.Attribute (.Name "self" p1) f p2] (.Name f p3) p4] scope dV kV doc pm an cdv ct) ["self", f] []
 ne:("self":Str)≠f
 nd:(f==("__debug__":Str))=false
 nc:(f==("__classdict__":Str))=false
structure Exc(K:aaa)(mg:Str->Option Value)(cn f:Str)(C I:Addr):Prop where
 mgC:mg cn=some (.ref C)
 kp:aae K (.ref C)=true
 hB:typeLookup (.type "ValueError") f=pure none
 ex:∃(N fI:Addr)(mN mI:Str->Option Value),(∀h,K.In h->Two h C N I bmV mN mI "ValueError" "ValueError.__new__")/\mN "__init__"=some (.ref fI)/\mI "__init__"=none/\mN "__setattr__"=none/\mI "__setattr__"=none/\mN f=none/\mI f=none/\Init K f fI
section
variable{X:Cx}{σ:L2.St}{H:Hp}{f:Str}{ta:TE}{k:Nat}
def QG(Ex:Exc X.K X.mg cn f C I)(hr:Room (k+2) X.A)(hg:Gl X cn)(hdb:(cn==("__debug__":Str))=false)(ha:PE X arg ta)(J:Inv X pins σ H s)(h:ta σ H R)
 (he:starEach [arg] X.env=(false,eval arg X.env)::starEach [] X.env:=by rfl) (O:(backTo pos (starEach [] X.env)).any (·.1)=false:=by rfl):
 wpAny (model X.prog X.w) X.A (eval (.Call (.Name cn p) [arg] [] pos) X.env) (λr s'=>∃(v:V)(H1:Hp)(a dx:Addr)(u:Value),r=.ref a/\R v H1/\RelV v u/\Inv X pins σ H1 s'/\Fly s'.heap a C dx f u none/\Loose X pins H1 a/\Loose X pins H1 dx) X.xe s:=by
 obtain⟨mgC,kp,hB,N,fI,mN,mI,L,i1,i2,s1,s2,n1,n2,⟨⟨name,qual,params,scope,dV,kV,doc,pm,cdv,ct,an,od,osl,p1,p2,p3,p4,lk,hcd,S,l1,l2,hb⟩,ne,nd,nc⟩⟩:=Ex;refine ay (tE J hg mgC ?_ hdb);have h':Pk ta UG σ H λvs H1=>match vs with
  |[v]=>R v H1
  |_=>False:=h
 refine aaq (h₀:=X.base) J.ok.mod.kin kp (thn (dO ha iJ he pos pins s σ H _ J h') λus z ⟨vs,H1,Z,r,q⟩=>⟨Z.kIn,?_⟩) he O;obtain⟨v,u,rfl,rfl,P⟩:∃v u,vs=[v]/\us=[u]/\RelV v u:=by
  cases r with
  |nil=>exact q.elim
  |cons a b=>cases b with
   |nil=>exact⟨_,_,rfl,rfl,a⟩
   |cons _ _=>exact q.elim
 obtain⟨l,g,d,tk,os⟩:=z;refine(L _ Z.kIn).call PySem.F.excBase_ValueError i2 i1 (Z.kIn _ _ lk) rfl (show 1<=sizeLine by decide) λh' e U hm=>?_
 have G:=Z.kept (t':=tk) hm.keeps;obtain⟨t,M,_,_⟩:=hm.there;refine cy (QD (x:=e) lk hcd S l1 l2 ne nd nc hb (hr.make C [u] []) (G.env0.make C [u] []) (L _ G.kIn) PySem.F.store_ValueError s1 s2 n1 n2 hB M rfl (λc z=>by cases z) rfl P λh3 Q dx n o B D E=>?_);have k3:=λb m w=>E b m (λy=>by
  rw[y]at w;exact absurd (af w) (dG.mpr U)) (hm.keeps _ _ w)
 have i:=Z.kept (t':=Q) k3;have Y:l.objs.size<=dx:=by
  have j:=af M;exact bw U (bw (fU j) o)
 exact⟨rfl,v,H1,e,dx,u,rfl,q,P,i,⟨⟨_,_,n,rfl,rfl⟩,D,B,λT y=>by cases y⟩,Loose.of Z U (Z.hok.fresh U),Loose.of Z Y (Z.hok.fresh Y)⟩
end
end XC
variable{fld:Addr->Str}
namespace XC
open L2 My
def CXE(P:dA)(w:d4)(fld:Addr->Str):CXT:=λouter H s E e s'=>∃(a C dx T:Addr)(u:Value)(H':Hp),e=.ref a/\s'.os=s.os/\fy s'.gens/\Un (frs outer) [] H H' s.heap s'.heap/\HOk P w H' s'.heap/\Fly s'.heap a C dx (fld C) u (some T) /\
 s.heap.objs.size<=a/\s.heap.objs.size<=dx/\s.heap.objs.size<=T/\H' a=none/\H' dx=none/\H' T=none/\E u (some C) H'
def CXE.no(h:CXE P w fld outer H s E0 c s'):False:=by
 obtain⟨_,_,_,_,_,_,_,_,_,_,_,_,_,_,_,_,_,_,z⟩:=h;exact z
section
variable{fa:Addr}{outer:List Env}{s₀:dv}{H₀:Hp}{E:XK}
variable{σ:L2.St}{H:Hp}
def ah8(I:Inv (nQ (CXE P w fld) P w K mg base N qual scope fa cdv A outer s₀ H₀ E) pins σ H s)(F:Fly s.heap a C c (fld C) k tb)
 (U:Loose (nQ (CXE P w fld) P w K mg base N qual scope fa cdv A outer s₀ H₀ E) pins H a) (O:Loose (nQ (CXE P w fld) P w K mg base N qual scope fa cdv A outer s₀ H₀ E) pins H c)
 (Y:∀T,tb=some T->Loose (nQ (CXE P w fld) P w K mg base N qual scope fa cdv A outer s₀ H₀ E) pins H T) (q:E k (some C) H):(nQ (CXE P w fld) P w K mg base N qual scope fa cdv A outer s₀ H₀ E).xe (.ref a) s:=by
 refine aa (Gk rfl I rfl rfl F U O Y λs' T Z X V W LT=>?_);exact⟨a,C,c,T,k,H,rfl,Z.os,Z.bare,Z.base,Z.hok,X,U.new,O.new,LT.new,U.out,O.out,LT.out,q⟩
end
section
variable{X:Cx}{σ:L2.St}{H:Hp}{f:Str}{ta:TE}{k:Nat}
def QH(Ex:Exc X.K X.mg cn f C I)(Y:Room (k+2) X.A)(hg:Gl X cn)(U:(cn==("__debug__":Str))=false)(ha:PE X arg ta)(J:Inv X pins σ H s)(h:ta σ H R)
 (hx:∀(v:V)(H1:Hp)(a dx:Addr)(u:Value)(s':dv),R v H1->RelV v u->Inv X pins σ H1 s'->Fly s'.heap a C dx f u none->Loose X pins H1 a->Loose X pins H1 dx->X.xe (.ref a) s')
 (he:starEach [arg] X.env=(false,eval arg X.env)::starEach [] X.env:=by rfl) (O:(backTo pos (starEach [] X.env)).any (·.1)=false:=by rfl):
 wpAny (model X.prog X.w) X.A (exec (.Raise (some (.Call (.Name cn p) [arg] [] pos)) none rpos) X.env) c X.xe s:=by
 have Z:=Ex;obtain⟨mgC,kp,hB,N,fI,mN,mI,M,i1,i2,s1,s2,n1,n2,_⟩:=Ex;rw[arm_exec_Raise];simp only[evalOpt,Option.map];refine aa (bx (Jh (C:=C) (N:=N) (I:=I) (bmB:=bmV) (mN:=mN) (mI:=mI) (B := "ValueError") (newId := "ValueError.__new__") Y.hd (by decide) ?_));refine aa (av (QG Z Y hg U ha J h he O) (λr s' q=>?_) λ_ _ z=>z);obtain⟨v,H1,a,dx,u,rfl,q,T,W,F,G,L⟩:=q;refine aa (bx (ag ?_));obtain⟨vs,sl,P,S,_⟩:=F.obj;exact⟨a,_,rfl,M _ W.kIn,P,rfl,⟨vs,rfl,S⟩,hx v H1 a dx u s' q T W F G L⟩
end
section
variable{M:fN}{E:Value->dv->Prop}{g:Array fF}{d:Drawn}{t:Nat}{os:OsState}
variable{N:Addr}{mN mI:Str->Option Value}{B newId:String}{oe:Obj}
def Two.match_up(T:Two h C N I bmB mN mI B newId)(he:h.get? a=some oe)(hc:oe.cls=.ref C)(O:bmB.contains (.type "BaseException")=true)(hq:c true ⟨h,g,d,t,os⟩):
 wpAny M A (excMatches (.ref a) (.ref I)) c E ⟨h,g,d,t,os⟩:=by
 obtain⟨⟨nm,q,bs,sn,sub,ab,col,dd,k0,k1,k2,k3,k5,hC⟩,hn,⟨V,K,NI,S,W,Z,R,Y,U,j0,j1,j2,H,J,nid,X,hm⟩,hb⟩:=T;have L:(dE I::bmB).contains (.type "BaseException")=true:=by rw[gC,O,jw]
 have P:(dE C :: .ref I::bmB).contains (.ref I)=true:=by simp
 have f:=tc_notTuple
 repeat(first
  | (with_reducible refine az he ?_;rw[hc])
  |with_reducible refine az X ?_
  |with_reducible refine az hC ?_
  | (with_reducible refine bo X ?_;rw[L])
  | (with_reducible refine bo hC ?_;rw[P])
  |wp_step)
 exact hq
def Two.match_self(T:Two h C N I bmB mN mI B newId)(U:h.get? a=some oe)(Y:oe.cls=.ref C)(O:bmB.contains (.type "BaseException")=true)(hq:c true ⟨h,g,d,t,os⟩):
 wpAny M A (excMatches (.ref a) (.ref C)) c E ⟨h,g,d,t,os⟩:=by
 obtain⟨⟨nm,q,bs,sn,sub,ab,col,dd,k0,k1,k2,k3,k5,hC⟩,hn,_,hb⟩:=T;exact wpAny_excMatches_sub_self hC U Y (by rw[gC,O,jw]) hq
end
section
variable{prog:dA}{E:Value->dv->Prop}{g:Array fF}{d:Drawn}{t:Nat}{os:OsState}
variable{N D:Addr}{mN mI:Str->Option Value}{B newId:String}{oe oD:Obj}
end
noncomputable def ig(X:Cx)(a:Addr)(oa:Obj)(dx:Addr)(od:Obj):Cx:={X with A:=X.A.mark (some (.ref a)),calm:=false,still:=false,pn:=X.pn++[(a,oa),(dx,od)],xe:=λ_ _=>False}
section
variable{X:Cx}{σ:L2.St}{H:Hp}{dx:Addr}{f:Str}{u:Value}{tb:Option Addr}
def Np(I:Inv X pins σ H s)(F:Fly s.heap a C dx f u tb)(U:Loose X pins H a)(O:Loose X pins H dx):∃oa od,s.heap.get? a=some oa/\s.heap.get? dx=some od/\Inv (ig X a oa dx od) pins σ H s:=by
 obtain⟨vs,sl,W,_⟩:=F.obj;obtain⟨od,es,T,Y,V,_⟩:=F.dic;refine⟨_,od,W,Y,⟨⟨I.ok.mod,I.ok.kind,I.ok.glob,I.ok.blt,I.ok.above,I.ok.inj,I.ok.has,I.ok.cab,λz=>(by cases z),λz=>(by cases z),I.ok.frames,I.ok.stk,I.ok.exf,I.ok.bs,I.ok.bsz,I.ok.noex,I.ok.exfs,I.ok.funs,I.ok.frf⟩,I.os,I.bare,I.base,I.loc,I.cell,I.free,I.freeC,λp Z=>?_,I.hok,I.len⟩⟩;have Z:=Z;rcases bO.mp Z with Z|Z
 .rcases bO.mp Z with Z|Z
  .exact I.pin p (bI _ Z)
  .rcases aC.mp Z with rfl|Z
   .exact⟨W,U.out,U.loc,λz=>U.nofs I (aA _ z),λv z=>by cases z⟩
   .rw[bJ.mp Z];exact⟨Y,O.out,O.loc,λz=>O.nofs I (aA _ z),λv z=>by rw[V]at z;cases z⟩
 .exact I.pin p (aP _ Z)
def vq(ok:X.Ok)(I:Inv (ig X a c dx k) pins σ' H' s'):Inv X pins σ' H' s':=by
 refine⟨ok,I.os,I.bare,I.base,I.loc,I.cell,I.free,I.freeC,λp Z=>?_,I.hok,I.len⟩;rcases bO.mp Z with Z|Z
 .exact I.pin p (bI _ (bI _ Z))
 .exact I.pin p (aP _ Z)
end
section
variable{X:Cx}{σ:L2.St}{H:Hp}{dx T:Addr}{f:Str}{u:Value}
def Ji(I:Inv X pins σ H s)(F:Fly s.heap a C dx f u (some T))(hn:H T=none)(hL:T≠X.env.locals)(h1:X.s₀.heap.objs.size<=T)(h2:∀x c,X.env.cells.lookup x=some c->c≠T)(h3:∀p∈X.pn++pins,p.1≠T)
 (h:∀s',Inv X pins σ H s'->Fly s'.heap a C dx f u (some T)->m () s'):wpAny M A (setFlight (.ref a) none) m k s:=by
 obtain⟨⟨vs,sl,ea,O,B⟩,Z,W,V⟩:=F;obtain⟨K,L,G,ts,P,R,S⟩:=V T rfl;refine aa (aw ea rfl O ?_);rw[if_pos (show((Option.elim (some T) d5 dE) != d5)=true by simp)];refine be P R (gD.mp S).1 ?_;obtain⟨h',U⟩:∃h',h'=s.heap.update T (f6 (·.setIfInBounds 3 ((none:Option Addr).elim d5 λf=>rawInt f))):=⟨_,rfl⟩;rw[<-U];have Y:∀b,b≠T->h'.get? b=s.heap.get? b:=λb z=>by rw[U];exact am _ _ (dL z)
 have N:=bE R (·.setIfInBounds 3 ((none:Option Addr).elim d5 λf=>rawInt f));have J:h'.get? T=some (G.mapFields (·.setIfInBounds 3 ((none:Option Addr).elim d5 λf=>rawInt f))):=by
  rw[U];exact ar _ P (bq N)
 have y:Inv X pins σ H {s with heap:=h',toks:=s.toks}:=Inv.turned (t':=s.toks) I (λb o z q=>(Y b z).trans q) hn hL (.inr h1) h2 h3;refine h _ y ⟨⟨vs,sl,(Y a (dL K)).trans ea,O,B⟩,?_,W,λT' z=>?_⟩
 .obtain⟨o,es,D,r1,r2⟩:=Z;exact⟨o,es,D,(Y dx (dL L)).trans r1,r2⟩
 .cases z;refine⟨K,L,_,_,J,N,?_⟩;have:=(gD.mp S).1;simp[this]
end
section
variable{X:Cx}{σ:L2.St}{H:Hp}{I0 dx T D:Addr}{f n:Str}{u:Value}{np:Pos}
def name_goes(I:Inv X pins σ H s)(hl:X.env.scope.names.lookup n=some .local)
 (h:∀s',Inv X pins (bR σ.length none) H s'->r () s'):wpAny M A (do bindName X.env n .none;unbindBehindTheSuite X.env n hpos) r k s:=by
 obtain⟨m,hn,_⟩:=id I.loc;have cls:(X.env.scope.kind == .class||(X.env.scope.kind == .module&&X.env.locals != X.env.globals))=false:=by rw[I.ok.kind];rfl
 refine wpAny_nameGoes hl hn cls λh' P U hs=>h _ ?_
 have Y:∀b o,X.s₀.heap.get? b=some o->b≠X.env.locals:=λb o e z=>by
  rw[z]at e;exact absurd (af e) (dG.mpr I.ok.above)
 refine⟨I.ok,I.os,I.bare,⟨λb o e Z W V=>(hs.2 b (Y b o e)).trans (I.base.keep b o e Z W V),λb o e Z W V=>?_,I.base.free,λb o e Z=>?_,I.base.tups,I.base.frzs,I.base.tbls⟩,⟨P,U,λj y v L T _=>?_⟩,λy c e=>?_,I.free,I.freeC,λp O=>?_,λb R e=>?_,by rw[bM];exact I.len⟩
 .obtain⟨sl,w⟩:=I.base.slot b o e Z W V;exact⟨sl,(hs.2 b (Y b o e)).trans w⟩
 .obtain⟨o',w⟩:=I.base.there b o e Z;exact⟨o',(hs.2 b (Y b o e)).trans w⟩
 .rw[cJ]at T;split at T<;>cases T
 .obtain⟨w,z⟩:=I.cell y c e;exact⟨w,z.sameBut hs (I.cne y c e)⟩
 .obtain⟨e,Z,W,V,S⟩:=I.pin p O;exact⟨(hs.2 p.1 W).trans e,Z,W,V,S⟩
 .refine(I.hok b R e).stay (λc w N q=>(hs.2 c λz=>?_).trans q) (λ_ q=>q) λ_ _ q=>q
  rcases N with y|y
  .rw[<-y,z,I.free]at e;cases e
  .rw[z,I.free]at y;cases y
end
def XP(fld:Addr->Str)(X:Cx)(pins:List (Addr×Obj))(σ:L2.St)(EX:XK)(e:Value)(s':dv):Prop:=∃(a C dx T:Addr)(u:Value)(H':Hp),e=.ref a/\Inv X pins σ H' s'/\Fly s'.heap a C dx (fld C) u (some T)/\Loose X pins H' a/\Loose X pins H' dx/\Loose X pins H' T/\EX u (some C) H'
section
variable{X:Cx}{σ:L2.St}{H:Hp}{k:Nat}{sp:Sp}{ds:List Value}{EX:XK}
theorem Vr(F:FnOk X.prog X.w X.K X.mg X.base (CXE X.prog X.w fld) k f fd ps sp)(O:Room k X.A)(hb:Binds X.K fd ps ds)(hd:Vals dvs ds)(J:Inv X pins σ H s)(r:Vals vs us)(h:sp (vs++dvs) H c EX):
 wpAny (model X.prog X.w) X.A (aax (.ref f) us) (EP X pins σ c) (XP fld X pins σ EX) s:=by
 have Z:=r.append hd;have S:(us++ds).length=ps.length:=by
  rw[<-Z.length];exact F.len _ _ _ _ h
 refine cy (b8 (F.run X.A X.stack s H ⟨us,[]⟩ (us++ds) (vs++dvs) c EX O J.env0 (hb s us J.kIn S) Z h) λW s' q=>?_)
 cases W with
 |error e=>
  obtain⟨a,C,dx,T,u,H',rfl,os,bare,un,hok,Fl,ha,Y,R,V,nd,U,q⟩:=q;exact⟨a,C,dx,T,u,H',rfl,Inv.call' (ch:=[]) J os un hok bare (λb z=>absurd z (by simp)),Fl,Loose.of J ha V,Loose.of J Y nd,Loose.of J R U,q⟩
 |ok fl=>
  cases fl with
  |ret u=>exact J.after q
  |next=>exact q.elim
  |brk=>exact q.elim
  |cont=>exact q.elim
def PSE(fld:Addr->Str)(X:Cx)(st:et)(t:Ends->XK->L2.St->Hp->Prop):Prop:=
 ∀(pins:List (Addr×Obj))(s:dv)(σ:L2.St)(H:Hp)(D:Ends)(EX:XK),Inv X pins σ H s->t D EX σ H->wpAny (model X.prog X.w) X.A (exec st X.env) (SP X pins D) (XP fld X pins σ EX) s
section
variable{ta:TA}
end
end
end XC
namespace D3
inductive Or where
 |o (x:Oc)
 |ex (c:Str) (v:D)
abbrev FX:=DS->Option Or
def xOf(f:FS):FX:=λδ=>(f δ).bind λo=>some (.o o)
def Ae(f g:FX):FX:=λδ=>(f δ).bind λo=>match o with
 |.o (.nx δ')=>g δ'
 |o=>some o
def xIf(c:FT)(f g:FX):FX:=λδ=>(c δ).bind λb=>if b=true then f δ else g δ
end D3
namespace XC
open L2 My D3
section
variable{X:Cx}{E:XK}{fl:List Fl}{c:Expr}{fs:FS}{f g:FX}
theorem PS.nox{t:TS}(h:PS X.nox st t):PS X st t:=λpins s σ H D I hw=>by
 refine av (h pins s σ H D (I.wish _) hw) (λfl s' q=>?_) λ_ _ z=>z.elim
 cases fl with
 |next=>obtain⟨σ',H',J,q⟩:=q;exact⟨σ',H',J.wish _,q⟩
 |ret u=>obtain⟨v,σ',H',J,r,q⟩:=q;exact⟨v,σ',H',J.wish _,r,q⟩
 |brk=>obtain⟨σ',H',J,q⟩:=q;exact⟨σ',H',J.wish _,q⟩
 |cont=>obtain⟨σ',H',J,q⟩:=q;exact⟨σ',H',J.wish _,q⟩
end
structure ExcF(K:aaa)(mg:Str->Option Value)(fld:Addr->Str)(cn f:Str):Prop where
 ex:∃C I,Exc K mg cn f C I/\fld C=f
section
variable{fa:Addr}{outer:List Env}{s₀:dv}{H₀:Hp}{E:XK}
variable{fl:List Fl}{f:Str}{k:Nat}
end
structure HasX(P:dA)(w:d4)(K:aaa)(mg:Str->Option Value)(base:eg)(fld:Addr->Str)(n:Nat)(x:Str)(ps:List Str)(sp:Sp)(dvs:List V):Prop where
 ex:∃(f:Addr)(fd:ee)(ds:List Value),FnOk P w K mg base (CXE P w fld) n f fd ps sp/\Binds K fd ps ds/\Vals dvs ds/\aae K (.ref f)=true/\mg x=some (.ref f)
section
variable{k:Nat}{f:FX}{fl:List Fl}{sp:Sp}
end
section
variable{X:Cx}{I0 dx D:Addr}{f n:Str}{od:Obj}{cond a1 b1:Expr}{p1 np:Pos}
end
section
variable{X:Cx}{fl:List Fl}{F:List D->Option Or}{cond:Expr}{fa:FA}{np:Pos}
end
def Vs(es:Array DictEntry):Bool:=es.toList.all λe=>match e.key with | .str _ _=>true|_=>false
theorem Vt(h:Vs c=true):StrKeys c:=λe Z=>by
 have:=gB.mp h e (rJ.mpr Z)
 cases q:e.key with
 |str n t=>exact⟨n,t,rfl⟩
 |_=>rw[q]at this;cases this
def Xp{N:Addr}{c:Value}{d:Option Addr}{es:Array DictEntry}(l:K.lookup N=some ⟨c,d,.dict es n,sl⟩)(ok:Vs es=true)(h:eg)(X:K.In h):h.Ns N (nsFind es):=
 ⟨_,es,n,X _ _ l,rfl,Vt ok,λ_=>rfl⟩
def tQ{N:Addr}{c:Value}{d:Option Addr}{es:Array DictEntry}{r:Option Value}(l:K.lookup N=some ⟨c,d,.dict es n,sl⟩)(e:aaj K N x=some r):nsFind es x=r:=by
 unfold aaj at e;rw[l]at e;dsimp only at e;unfold nsFind findBy;rw[<-ur];split at e
 .next en Z=>
  cases e;rw[Z];rfl
 .next Z=>
  rw[Z];split at e
  .cases e
  .cases e;rfl
def Y6{f:Str}{N NI fI:Addr}(X:K.In h)(G:h.Ns mainGlobals mg)
 {nm q:Str} {bs:List Value} {sn:List Str} {sub:List Value} {ab:Bool} {col:Option Bool} {dd:Option Addr} {k0 k1 k2 k3 k5:Option Value}
 {nm' q':Str} {bs':List Value} {Z:List Str} {U:List Value} {ab':Bool} {Y:Option Bool} {dd':Option Addr} {j0 j1 j2 j3 j5:Option Value} {nid:String}
 {c c':Value} {d d':Option Addr} {es O:Array DictEntry} {n n':Nat} {sl sl':Array (Option Value)}
 {name qual:Str} {params:gd} {scope:eL} {dV kV doc pm cdv ct:Value} {an od:Option Addr} {osl:Array (Option Value)} {p1 p2 p3 p4:Pos}
 (a:aaj K mainGlobals cn=some (some (.ref C))) (kp:aae K (.ref C)=true)
 (lC:K.lookup C=some (excClassObj nm q C N bs (.ref I::bmV) true sn sub ab col dd k0 k1 k2 k3 k5 "ValueError.__new__"))
 (lI:K.lookup I=some (excClassObj nm' q' I NI bs' bmV true Z U ab' Y dd' j0 j1 j2 j3 j5 nid))
 (lN:K.lookup N=some ⟨c,d,.dict es n,sl⟩) (oN:Vs es=true) (lNI:K.lookup NI=some ⟨c',d',.dict O n',sl'⟩) (oNI:Vs O=true)
 (i1:aaj K N "__init__"=some (some (.ref fI))) (i2:aaj K NI "__init__"=some none) (s1:aaj K N "__setattr__"=some none) (s2:aaj K NI "__setattr__"=some none)
 (n1:aaj K N f=some none) (n2:aaj K NI f=some none) (hB:typeLookup (.type "ValueError") f=pure none)
 (lk:K.lookup fI=some ⟨.type "function", od,.func (aac name qual params [.Assign [.Attribute (.Name "self" p1) f p2] (.Name f p3) p4] scope dV kV doc pm an cdv ct),osl⟩) (hcd:aah K cdv qual=true)
 (S:FnScope ["self", f] ["self", f] scope) (l1:scope.names.lookup ("self":Str)=some NameKind.local) (l2:scope.names.lookup f=some NameKind.local)
 (hb:∀u v,bindArgs (aac name qual params [.Assign [.Attribute (.Name "self" p1) f p2] (.Name f p3) p4] scope dV kV doc pm an cdv ct) ⟨[u,v],[]⟩=pure [(("self":Str),u),(f,v)])
 (ne:("self":Str)≠f) (nd:(f==("__debug__":Str))=false) (nc:(f==("__classdict__":Str))=false):Exc K mg cn f C I:=
 ⟨aaw X G a,kp,hB,N,fI,nsFind es,nsFind O,λh X=>⟨⟨_,_,_,_,_,_,_,_,_,_,_,_,_,X _ _ lC⟩,Xp lN oN h X,⟨_,_,_,_,_,_,_,_,_,_,_,_,_,_,_,X _ _ lI,Xp lNI oNI h X⟩,by rfl⟩,tQ lN i1,tQ lNI i2,tQ lN s1,tQ lNI s2,tQ lN n1,tQ lNI n2,
  ⟨⟨name,qual,params,scope,dV,kV,doc,pm,cdv,ct,an,od,osl,p1,p2,p3,p4,lk,hcd,S,l1,l2,.all λus V=>match us,V with|[u,v],_=>hb u v⟩,ne,nd,nc⟩⟩
structure ExcG(K:aaa)(mg:Str->Option Value)(fld:Addr->Str)(cn f ic:Str):Prop where
 ex:∃C I,Exc K mg cn f C I/\fld C=f/\mg ic=some (.ref I)
def ExcG.fly{f:Str}(h:ExcG K mg fld cn f ic):ExcF K mg fld cn f:=by
 obtain⟨C,I,E,Z,_⟩:=h.ex;exact⟨C,I,E,Z⟩
section
variable{X:Cx}{c f:Str}{cond:Expr}
end
structure FlyN(h:eg)(a C dx:Addr)(f:Str)(u:Value)(T L:Addr):Prop where
 obj:∃vs sl,h.get? a=some ⟨.ref C,some dx,.fields vs,sl⟩/\vs[1]?=some (.ref T)/\vs[2]?=some .none
 dic:h.Ns1 dx (λy=>if y=f then some u else none)
 ne:dx≠a
 hd:T≠a/\T≠dx/\∃oT ts,h.get? T=some oT/\oT.data=.fields ts/\ts[3]?=some (rawInt L)
section
variable{M:fN}{E:Value->dv->Prop}
end
section
variable{X:Cx}{σ:L2.St}{H H':Hp}
end
section
variable{fa:Addr}{outer:List Env}{s₀:dv}{H₀:Hp}{E:XK}
end
section
variable{X:Cx}{E:XK}{fl:List Fl}{fx:FX}
end
section
variable{fa:Addr}{outer:List Env}{s₀:dv}{H₀:Hp}{E:XK}
variable{fl:List Fl}{f:Str}{k:Nat}
end
section
variable{k:Nat}{f:FX}{fl:List Fl}{sp:Sp}
end
section
variable{fa:Addr}{outer:List Env}{s₀:dv}{H₀:Hp}{E:XK}
variable{fl:List Fl}{F:List D->Option Or}{fs:FA}
end
section
variable{X:Cx}{σ:L2.St}{H:Hp}{k:Nat}{sp:Sp}{ds:List Value}{EX:XK}
variable{y:Str}{np:Pos}{ta:TA}
end
section
variable{X:Cx}{fl:List Fl}{j:Nat}{y:Str}{F:List D->Option Or}{fa:FA}{yp np:Pos}{fS:Str->D->DS->Option D}
end
structure RoomQ(k:Nat)(A:dQ):Prop where
 dp:A.depth+3*k+5<recursionLimit
 un:A.units+16*k+200<cLine
def RoomQ.mono(r:RoomQ k A)(h:c<=k):RoomQ c A:=⟨by have:=r.dp;lia,by have:=r.un;lia⟩
def RoomQ.deeper{k:Nat}(r:RoomQ (k+1) A)(env:Env):RoomQ k (A.deeper env):=
 ⟨by have:=r.dp;show A.depth+1+3*k+5<_;lia,by have:=r.un;show A.units+3+16*k+200<_;lia⟩
def RoomQ.depth(r:RoomQ k A):A.depth<recursionLimit:=by have:=r.dp;lia
def RoomQ.units(r:RoomQ k A):A.units+64<cLine:=by have:=r.un;lia
structure FnOkP(P:dA)(w:d4)(K:aaa)(mg:Str->Option Value)(base:eg)(Pre:dQ->List Env->dv->Hp->Prop)(k:Nat)(f:Addr)(fd:ee)(ps:List Str)(sp:Sp):Prop where
 len:∀vs H Q E,sp vs H Q E->vs.length=ps.length
 run:∀(A:dQ)(outer:List Env)(s:dv)(H:Hp)(args:Args)(us:List Value)(vs:List V)(Q:VK)(E:XK),RoomQ k A->Env0 P w K mg base A outer s H->BindsTo s fd args (ps.zip us)->Vals vs us->Pre A outer s H->sp vs H Q E ->
  codeAny (model P w) A (.call (.ref f) args) (CR CX0 outer P w H s Q E) s
abbrev ah9(P:dA)(w:d4)(K:aaa)(mg:Str->Option Value)(base:eg)(k:Nat)(f:Addr)(fd:ee)(ps:List Str)(sp:Sp):Prop:=FnOkP P w K mg base (λ_ _ _ _=>True) k f fd ps sp
section
variable{X:Cx}{σ:L2.St}{H:Hp}{k:Nat}{sp:Sp}
theorem Kz(F:FnOkP X.prog X.w X.K X.mg X.base Pre k f fd ps sp)(U:RoomQ k X.A)(hb:Binds X.K fd ps [])(J:Inv X pins σ H s)(r:Vals vs us)(O:Pre X.A X.stack s H)(h:sp vs H c (λ_ _ _=>False)):
 wpAny (model X.prog X.w) X.A (aax (.ref f) us) (EP X pins σ c) E' s:=by
 have W:us.length=ps.length:=by
  rw[<-r.length];exact F.len _ _ _ _ h
 have Z:=hb s us J.kIn (by rwa[cA]);rw[cA]at Z;refine cy (b8 (F.run X.A X.stack s H ⟨us,[]⟩ us vs c (λ_ _ _=>False) U J.env0 Z r O h) λY s' q=>?_)
 cases Y with
 |error e=>exact eB q
 |ok fl=>
  cases fl with
  |ret u=>exact J.after q
  |next=>exact q.elim
  |brk=>exact q.elim
  |cont=>exact q.elim
end
structure HasQ(P:dA)(w:d4)(K:aaa)(mg:Str->Option Value)(base:eg)(n:Nat)(x:Str)(ps:List Str)(sp:Sp):Prop where
 ex:∃(f:Addr)(fd:ee),ah9 P w K mg base n f fd ps sp/\Binds K fd ps []/\aae K (.ref f)=true/\mg x=some (.ref f)
section
variable{k:Nat}{fs:FS}{fl:List Fl}
end
section
variable{X:Cx}{fl:List Fl}{t:TA}{fa:FA}{sp:Sp}{F:List D->Option D}
end
structure ExA(K:aaa)(C:Addr):Prop where
 ga:aad K (.ref C) "__getattribute__"=some (some (.builtin "BaseException.__getattribute__"))
 gh:aad K (.ref C) "__getattr__"=some none
 hb:aaV K C (.type "BaseException")=some true
section
variable{prog:dA}{E:Value->dv->Prop}{x:Addr}{ox:Obj}{od:Option Obj}{name:Str}{v:Value}
def Nq(N:ExA K C)(X:K.In s.heap)(I:aay s.heap x ox C od)(hq:c () s):wpAny M A (checkBuiltinCall "BaseException.__getattribute__" ⟨[.ref x,O],[]⟩) c E s:=by
 have Y:builtinKind "BaseException.__getattribute__"=some .slot:=by decide +kernel
 have Z:splitId "BaseException.__getattribute__"=some ("BaseException","__getattribute__"):=by decide +kernel
 obtain⟨T,g,d,t,os⟩:=s;have U:=I.type (M:=M);have V:=PySem.W.looks_mroIn (M:=M) X N.hb;simp only[checkBuiltinCall,Y,Z];refine aa ?_
 repeat(first|(with_reducible refine U.at ?_)|(with_reducible refine V.at ?_)|wp_step)
 exact hq
def Vu(X:K.In s.heap)(I:aay s.heap x ox C od)(O:abk K C od name=some (.value v))(hq:c (.done (.ret v)) s):
 wpAny (model prog w) A (eT.«object.__getattribute__» ⟨[.ref x,.str name tk],[]⟩) c E s:=by
 obtain⟨V,g,d,t,os⟩:=s;have Y:=I.type (M:=model prog w);have Z:=PySem.W.looks_find (M:=model prog w) X I O;unfold eT.«object.__getattribute__»;refine aa ?_;refine ag ?_;refine aa (ag (aa (Y.at (aa (Z.at ?_)))));exact ag hq
def Y7{O:Value}{fill expr:Bool}(N:ExA K C)(X:K.In s.heap)(I:aay s.heap x ox C od)(U:aaC v=true)
 (Y:∀{A:dQ}{E:Value->dv->Prop}{Q:Fin->dv->Prop},Q (.done (.ret v)) s->wpAny (model prog w) A (eT.«object.__getattribute__» ⟨[.ref x,O],[]⟩) Q E s) (hq:Q v s):
 wpAny (model prog w) A (getAttrBy (.ref x) O fill expr) Q E s:=by
 obtain⟨V,g,d,t,os⟩:=s;have S:=I.type (M:=model prog w);have T:=aaF (M:=model prog w) X N.ga;have L2:=aaF (M:=model prog w) X N.gh;have R:=aaQ.ga.bind (.ref x);have Z:(expr&&onTheHeap (Value.builtin "BaseException.__getattribute__"))=false:=by cases expr<;>rfl
 repeat(any_goals(first|assumption|(with_reducible refine S.at ?_)|(with_reducible refine T.at ?_)|(with_reducible refine L2.at ?_)|wp_step))
 refine codeAny_call_builtin aaQ.ga.plain PySem.F.entry_bexc_ga (Nq (s:=⟨V,g,d,t,os⟩) N X I (Y ?_))
 repeat(any_goals(first|assumption|(with_reducible exact PySem.W.handed_on U hq)|wp_step))
def QJ(N:ExA K C)(X:K.In s.heap)(I:aay s.heap x ox C od)(U:abk K C od name=some (.value v))(O:aaC v=true)(hq:Q v {s with toks:=s.toks+1}):
 wpAny (model prog w) A (getAttr (.ref x) name expr) Q E s:=by
 obtain⟨Z,g,d,t,os⟩:=s;refine aa (wpAny_mkText ?_);exact Y7 (s:=⟨Z,g,d,t+1,os⟩) N X I O (λz=>Vu (s:=⟨Z,g,d,t+1,os⟩) X I U z) hq
end
structure AttE(K:aaa)(C:Addr)(f:Str):Prop where
 ea:ExA K C
 hd:aat K C=true
 no:aad K (.ref C) f=some none
section
variable{X:Cx}{D dx:Addr}{od:Obj}{u:Value}{v:V}{f n:Str}{p1:Pos}
def ai0(N:AttE X.K C f)(U:oa.cls=.ref C)(O:oa.dict=some dx)(Y:abl oa=true)(hdx:∀h:eg,h.get? dx=some od->h.Ns1 dx (λz=>if z=f then some u else none))(rv:RelV v u)
 (hi:X.N[i]?=some n) (hv:Vis X.env.scope n) (hdn:(n==("__debug__":Str))=false:=by decide) (hcn:(n==("__classdict__":Str))=false:=by decide) (hb:attributeBase (.Name n p1) f X.env (eval (.Name n p1) X.env)=eval (.Name n p1) X.env:=by rfl):
 PE (ig X a oa dx od) (.Attribute (.Name n p1) f pos) (λσ H Q=>σ[i]?=some (some (.ref a))/\Q v H):=by
 intro pins s σ H Q I h;refine J8 hb (thn ((fW (X:=ig X a oa dx od) hi hv hdn hcn) pins s σ H (λx H1=>x=.ref a/\Q v H1) I ⟨_,h.1,rfl,h.2⟩) λw s1 ⟨x,H1,Z,T,ex,q⟩=>?_);subst ex
 cases T;have ha:=(Z.pin (a,oa) (bI _ (aP _ au))).1;have hd:=(Z.pin (dx,od) (bI _ (aP _ (aA _ au)))).1;obtain⟨S,V,R⟩:=A_ (hdx _ hd);rw[hd]at V
 cases V;refine QJ (ox:=oa) (od:=some od) N.ea Z.kIn ⟨ha,U,Y,?_⟩ (aaW N.hd N.no rfl (by rw[R,if_pos rfl])) (Ba rv) ⟨v,H1,Z.tok _,rv,q⟩;rwa[O]
end
structure KitE(K:aaa)(C:Addr):Prop where
 ea:ExA K C
 hd:aat K C=true
 fd:aad K (.ref C) "__class__"=some (some (.builtin "object.__class__"))
 sp:aaL K (.builtin "object.__class__") "__get__"=some (some (.builtin "getset_descriptor.__get__"))
 tk:abh K (.builtin "object.__class__")=some true
 mr:aaV K C (.type "object")=some true
section
variable{X:Cx}{D dx:Addr}{od:Obj}{b:Bool}
end
end XC
variable{fl:List D3.Fl}
namespace XC
open L2 My D3
def CT{j:Nat}{x:U}(h:(δ.set i none)[j]?=some (some x)):j≠i/\δ[j]?=some (some x):=by
 by_cases e:j=i
 .subst e;by_cases l:j<δ.length
  .rw[bH l]at h;cases h
  .rw[bf (by rw[bL];lia)]at h;cases h
 .rw[aB (dL e)]at h;exact⟨e,h⟩
def Rel.forget{σ:L2.St}{x:Option V}(R:Rel K fl G ow σ H δ)(O:fl[i]?=some .A):Rel K fl G ow (σ.set i x) H (δ.set i none):=by
 have no:∀a,ow i≠some a:=λa z=>by
  obtain⟨_,W,_⟩:=R.own i a z;rw[O]at W;rcases W with⟨z,_⟩|⟨z,_⟩<;>cases z
 refine⟨R.s0,R.s1,by rw[bL,bL];exact R.len,λj a h=>?_,R.inj,R.pin,λj X h1 hn h2=>?_,λj X h1 hn h2 h3=>?_,R.nt,R.nd,R.ns,R.np,λj X hn h1=>?_,λj Y h1 h2=>by rw[aB (λz=>by rw[<-z,O]at h1;cases h1)];exact R.fx j Y h1 h2⟩
 .have Z:j≠i:=λz=>no a (z▸h)
  obtain⟨T,U,xs,ds,h1,h2,h3,h4⟩:=R.own j a h;exact⟨T,U,xs,ds,by rwa[aB (dL Z)],h2,h3,by rwa[aB (dL Z)]⟩
 .obtain⟨Z,e⟩:=CT h1;obtain⟨Y,h3,h4⟩:=R.dat j X e hn h2;exact⟨Y,by rwa[aB (dL Z)],h4⟩
 .obtain⟨Z,e⟩:=CT h1;exact R.oo j X e hn h2 h3
 .obtain⟨Z,e⟩:=CT h1;obtain⟨Y,h3,h4⟩:=R.nr j X hn e;exact⟨Y,by rwa[aB (dL Z)],h4⟩
def tEt(i:Nat)(a:Addr)(b:Bool):TE:=λσ H Q=>σ[i]?=some (some (.ref a))/\∀H',Same H H'->Q (.bl b) H'
section
variable{X S:Cx}{I0 D dx:Addr}{od:Obj}{u:Value}{v:V}{f n:Str}{j:Nat}{p1:Pos}{cond a1 b1:Expr}{b:Bool}{k:Nat}
end
structure SuiG(K:aaa)(mg:Str->Option Value)(fld:Addr->Str)(cn f ic n1 n2 n3:Str):Prop where
 ex:∃C I D1 D2 D3,Exc K mg cn f C I/\fld C=f/\mg ic=some (.ref I)/\KitE K C/\AttE K C f/\mg n1=some (.ref D1)/\mg n2=some (.ref D2)/\mg n3=some (.ref D3)/\abm K (.ref C) [.ref D1,.ref D2,.ref D3]=some false
section
variable{X:Cx}{fl:List Fl}{c f n1 n2 n3 n y g s0 s1:Str}{gp:List Str}{j k:Nat}{W:List D->Option D}{rowE:Expr}{fr:FE}
variable{yp ap a1 a2 a3 a4 a5 a6 a7 a8 a9 b1 b2 b3 b4 b5 b6 b7 q0 q1 q2 q3 q4 q5 q6 q7 q8 q9 q10 q11 q12 q13 q14:Pos}{x1 j0 j1:Nat}
end
section
variable{X:Cx}{fl:List Fl}{j:Nat}{y:Str}{F:List D->Option Or}{c:Expr}{fa:FA}{f f1 f2:FX}{yp np:Pos}{s1 s2:et}{fS:Str->D->DS->Option D}
end
section
variable{k:Nat}{f:FX}{fl:List Fl}
end
structure SuiH(K:aaa)(mg:Str->Option Value)(fld:Addr->Str)(cn f ic n1 n2:Str):Prop where
 ex:∃C I D1 D2,Exc K mg cn f C I/\fld C=f/\mg ic=some (.ref I)/\KitE K C/\AttE K C f/\mg n1=some (.ref D1)/\mg n2=some (.ref D2)/\abm K (.ref C) [.ref D1,.ref D2]=some false/\aaJ K (.ref C) (.ref I)=some true
structure SuiA(K:aaa)(mg:Str->Option Value)(fld:Addr->Str)(cn f ic:Str):Prop where
 ex:∃C I,Exc K mg cn f C I/\fld C=f/\mg ic=some (.ref I)/\AttE K C f
def Vv{f:Str}(E:Exc K mg cn f C I)(O:fld C=f)(m:mg ic=some (.ref I))(a:AttE K C f):SuiA K mg fld cn f ic:=⟨C,I,E,O,m,a⟩
def SuiA.up{f:Str}(h:SuiA K mg fld cn f ic):ExcG K mg fld cn f ic:=by
 obtain⟨C,I,E,Z,m,_⟩:=h.ex;exact⟨C,I,E,Z,m⟩
section
variable{X:Cx}{D dx:Addr}{od:Obj}{n:Str}{p1:Pos}{b:Bool}
end
section
variable{X:Cx}{fl:List Fl}{c f n1 n2 n g s0 s1:Str}{gp:List Str}{k:Nat}{W:List D->Option D}
variable{ap a1 a2 a3 a4 a5 b1 b2 b3 b4 b6 b7 q0 q1 q2 q3 q4 q5 q6 q7 q8 q9 q10 q11 rp2:Pos}{x1 x2 x3 j0 j1 j2:Nat}
end
section
variable{fa:Addr}{outer:List Env}{s₀:dv}{H₀:Hp}{E:XK}
variable{fl:List Fl}{F:List D->Option Or}{fs:FA}
end
structure At(K:aaa)(i:Nat)(a:Addr)(v:V)(d:D)(σ:L2.St)(H:Hp):Prop where
 sl:σ[i]?=some (some (.ref a))
 ra:RA K ok0 false H v d
 fl:flat d=true
section
variable{fl:List Fl}{v:V}{d:D}{σ:L2.St}{H H':Hp}
def At.set(h:At K i a v d σ H)(n:i≠c):At K i a v d (σ.set c k) H:=⟨by rw[aB (dL n)];exact h.sl,h.ra,h.fl⟩
end
structure Sc where
 i:Nat
 a:Addr
 v:V
 d:D
section
variable{X:Cx}{fl:List Fl}{z:Sc}{a b c:Expr}{k:Kd}{f fa:FE}{fs gs:FS}{fr:FA}
end
end XC
namespace D3
end D3
namespace XC
open L2 My D3
section
variable{X:Cx}{σ:L2.St}{H:Hp}{I0 dx T D:Addr}{f n:Str}{u:Value}{np:Pos}
def Jj(I:Inv X pins σ H s)(hi:X.N[i]?=some n)(hN:X.N.Nodup)(hl:X.env.scope.names.lookup n=some .local)
 (h:∀s',Inv X pins (σ.set i none) H s'->t () s'):wpAny M A (do bindName X.env n .none;unbindBehindTheSuite X.env n hpos) t r s:=by
 obtain⟨m,hn,hm⟩:=id I.loc;have cls:(X.env.scope.kind == .class||(X.env.scope.kind == .module&&X.env.locals != X.env.globals))=false:=by rw[I.ok.kind];rfl
 refine wpAny_nameGoes_keeps hl hn cls λh' D T hs=>h _ ?_
 have Y:∀b o,X.s₀.heap.get? b=some o->b≠X.env.locals:=λb o e z=>by
  rw[z]at e;exact absurd (af e) (dG.mpr I.ok.above)
 refine⟨I.ok,I.os,I.bare,⟨λb o e Z W U=>(hs.2 b (Y b o e)).trans (I.base.keep b o e Z W U),λb o e Z W U=>?_,I.base.free,λb o e Z=>?_,I.base.tups,I.base.frzs,I.base.tbls⟩,⟨_,T,λj y v R V F=>?_⟩,λy c e=>?_,I.free,I.freeC,λp J=>?_,λb K e=>?_,by rw[bL];exact I.len⟩
 .obtain⟨sl,w⟩:=I.base.slot b o e Z W U;exact⟨sl,(hs.2 b (Y b o e)).trans w⟩
 .obtain⟨o',w⟩:=I.base.there b o e Z;exact⟨o',(hs.2 b (Y b o e)).trans w⟩
 .have S:j≠i:=λz=>by
   subst z;by_cases l:j<σ.length
   .rw[bH l]at V;cases V
   .rw[bf (by rw[bL];lia)]at V;cases V
  rw[aB (dL S)]at V;obtain⟨O,L,q⟩:=hm j y v R V F;refine⟨O,L,?_⟩;rcases q with⟨k,e⟩|⟨k,c,e,z⟩
  .refine .inl ⟨k,?_⟩;have:y≠n:=λe=>S (yC hN R (e▸hi))
   simp[this,e]
  .exact .inr ⟨k,c,e,z.sameBut hs (I.cne y c e)⟩
 .obtain⟨w,z⟩:=I.cell y c e;exact⟨w,z.sameBut hs (I.cne y c e)⟩
 .obtain⟨e,Z,W,U,P⟩:=I.pin p J;exact⟨(hs.2 p.1 W).trans e,Z,W,U,P⟩
 .refine(I.hok b K e).stay (λc w G q=>(hs.2 c λz=>?_).trans q) (λ_ q=>q) λ_ _ q=>q
  rcases G with y|y
  .rw[<-y,z,I.free]at e;cases e
  .rw[z,I.free]at y;cases y
theorem ai1(I:Inv X pins σ H s)(F:Fly s.heap a C dx f u (some T))(La:Loose X pins H a)(Ld:Loose X pins H dx)(LT:Loose X pins H T)(Ex:Exc X.K X.mg cn f C I0)(hD:D=C\/D=I0)(U:X.mg ic=some (.ref D))(hg:Gl X ic)(hdb:(ic==("__debug__":Str))=false)
 (hi:X.N[i]?=some n) (hN:X.N.Nodup) (O:X.env.scope.names.lookup n=some .local)
 (hs:∀oa od,s.heap.get? a=some oa->s.heap.get? dx=some od->PSs (ig X a oa dx od) (b0::suite) ts/\ts {nx:=λσ' H'=>Dn.nx (σ'.set i none) H',rt:=Dn.rt} (σ.set i (some (.ref a))) H):
 wpAny (model X.prog X.w) X.A (handleBy (.ref a) X.env [.ExceptHandler (some (.Name ic np)) (some n) (b0::suite) hpos]) (SP X pins Dn) X.xe s:=by
 obtain⟨oa,od,ea,y,M⟩:=Np I F La Ld;obtain⟨Y,B⟩:=hs oa od ea y;obtain⟨mgC,kp,hB,N,fI,mN,mI,r,_⟩:=Ex;have TT:=r _ I.kIn;obtain⟨vs,sl,P,_⟩:=F.obj;refine wpAny_handleBy_cons (codeAny_handlers_test (tE (X:=ig X a oa dx od) M hg U ?_ hdb)) (by intro q;cases q);have go:∀{L:Value->dv->Prop}{W:Bool->dv->Prop},W true s->wpAny (model X.prog X.w) (X.A.mark (some (.ref a))) (excMatches (.ref a) (.ref D)) W L s:=λ{L W} q=>by
  obtain⟨Z,g,d,tk,os⟩:=s;rcases hD with rfl|rfl
  .exact TT.match_self P rfl (by decide) q
  .exact TT.match_up P rfl (by decide) q
 refine go ?_;refine codeAny_handlers_suite_as ?_;have S:∀p∈(ig X a oa dx od).pn++pins,p.1≠T:=λp Z=>by
  obtain⟨t,x,_⟩:=F.hd T rfl;have Z:=Z;rcases bO.mp Z with Z|Z
  .rcases bO.mp Z with Z|Z
   .exact LT.pin p (bI _ Z)
   .rcases aC.mp Z with rfl|Z
    .exact dL t
    .rw[bJ.mp Z];exact dL x
  .exact LT.pin p (aP _ Z)
 refine Ji M F LT.out LT.loc LT.new LT.cel S λs1 m _=>?_
 refine vf (X:=ig X a oa dx od) (i:=i) (v:=V.ref a) m hN hi (.inl O) rfl (λs2 o=>?_) (.inr O);refine av (Y pins s2 _ H _ o B) (λfl l q=>?_) λ_ _ z=>z.elim
 cases fl with
 |ret v=>
  obtain⟨J,σ',H',Q,E,q3⟩:=q;exact name_goes (vq I.ok Q) O λG R=>⟨J,_,H',R,E,q3⟩
 |next=>
  obtain⟨σ',H',Q,q3⟩:=q;exact Jj (vq I.ok Q) hi hN O λG R=>⟨_,H',R,q3⟩
 |brk=>
  obtain⟨_,_,_,z⟩:=q;exact z.elim
 |cont=>
  obtain⟨_,_,_,z⟩:=q;exact z.elim
end
section
variable{X:Cx}{fl:List Fl}{f:FX}{np:Pos}{fS:Str->D->FS}
end
structure SuiU(K:aaa)(mg:Str->Option Value)(fld:Addr->Str)(cn f ic:Str)(ts:List (Str×Bool)):Prop where
 ex:∃C I,Exc K mg cn f C I/\fld C=f/\mg ic=some (.ref I)/\KitE K C/\AttE K C f/\∀t∈ts,∃D,mg t.1=some (.ref D)/\aaJ K (.ref C) (.ref D)=some t.2
structure SuK(X:Cx)(f:Str)(ts:List (Str×Bool))(i:Nat)(n:Str)(a:Addr)(oa:Obj)(dx:Addr)(od:Obj)(v:V):Prop where
 is:∀(t:Str×Bool),t∈ts->Gl X t.1->(t.1==("__debug__":Str))=false->∀p p1 p2 pos,PE (ig X a oa dx od) (.Call (.Name "isinstance" p) [.Name n p1,.Name t.1 p2] [] pos) (tEt i a t.2)
 isv:X.mg "ValueError"=none->Gl X "ValueError" -> ∀p p1 p2 pos,PE (ig X a oa dx od) (.Call (.Name "isinstance" p) [.Name n p1,.Name "ValueError" p2] [] pos) (tEt i a true)
 att:∀p1 pos,PE (ig X a oa dx od) (.Attribute (.Name n p1) f pos) (λσ H Q=>σ[i]?=some (some (.ref a))/\Q v H)
section
variable{X:Cx}{fl:List Fl}{c f n g:Str}{ts:List (Str×Bool)}{k:Nat}{dx:Addr}{od:Obj}{v:V}{d:D}{fS:Str->D->FS}{gp:List Str}{W:List D->Option D}
end
end XC
namespace XS
open PySem.W
section
variable{α β:Type}{R:α->Prop}{R':β->Prop}{lt:Nat->Nat->Bool}
end
def good(n:Nat)(p:Array Nat):Prop:=p.Perm (bC n).toArray
section
variable{p:Array Nat}
def good.mem(g:good n p)(h:c∈p.toList):c<n:=by
 have:c∈(bC n):=by
  have:=(Array.perm_iff_toList_perm.mp g).mem_iff.mp h;simpa using this
 exact cI.mp this
end
open D3
noncomputable def Jk:List D->Option (List (Int×Int))
 |[]=>some []
 |.tuple [.int i,.int j]::r=>(Jk r).map ((i,j) :: ·)
 |_=>none
def yW:List D->Option D
 |[.list l]=>(Jk l).bind λqs=>if l.length<=1000/\(qs.map (·.1)).Nodup then some (.dict (qs.map λq=>(.int q.1,.int q.2)))else none
 |_=>none
open L2 My
section
variable{X:Cx}{σ:L2.St}{H:Hp}
end
section
variable{prog:dA}{E:Value->dv->Prop}
end
def ai2(K:aaa)(H:Hp)(y:V)(q:Int×Int):Prop:=∃a,y=.ref a/\SqT K H a [.int q.1,.int q.2]
abbrev Prs(K:aaa)(H:Hp):List V->List (Int×Int)->Prop:=Paired (ai2 K H)
section
variable{X:Cx}{σ:L2.St}{H:Hp}
theorem Vw(I:Inv X pins σ H s)(h:ai2 X.K H c q)(r:RelV c k):∃a U O,k=.ref a/\IsTup s.heap a #[.int q.1 U,.int q.2 O]:=by
 obtain⟨a,rfl,hq⟩:=h
 cases r;obtain⟨its,Z,p,_⟩:=I.tuple hq
 cases Z with
 |cons r1 Z=>cases Z with
  |cons r2 Z=>
   cases Z;obtain⟨U,rfl⟩:=r1;obtain⟨O,rfl⟩:=r2;exact⟨a,U,O,rfl,p⟩
end
section
variable{prog:dA}{E:Value->dv->Prop}
end
section
variable{X:Cx}
end
section
variable{H:Hp}
theorem QK:∀{l:List D}{qs:List (Int×Int)}{ys:List V},Jk l=some qs->RAs K ok1 true H ys l->Prs K H ys qs/\l=qs.map λq=>.tuple [.int q.1,.int q.2]
 |[],qs,ys,e,r=>by
  cases e;cases r;exact⟨.nil,rfl⟩
 |d::l,qs,ys,e,r=>by
  cases r with
  |cons r1 r2=>
   unfold Jk at e;split at e
   .next h=>cases h
   .next i j t h=>
    cases h
    cases Y:Jk l with
    |none=>rw[Y]at e;cases e
    |some q2=>
     rw[Y]at e
     cases e;obtain⟨p,X⟩:=QK Y r2;obtain⟨a,xs,rfl,hs,Z⟩:=r1.tupE
     cases Z with
     |cons h1 Z=>cases Z with
      |cons h2 Z=>
       cases Z;obtain rfl:=h1.intE;obtain rfl:=h2.intE;exact⟨.cons ⟨a,rfl,hs⟩ p,by rw[aD,<-X]⟩
   .cases e
end
section
variable{prog:dA}{E:Value->dv->Prop}
def Nr(hh:L2.Hq A s.heap)(h:∀h' tk e oe,(∀b O,s.heap.get? b=some O->h'.get? b=some O)->h'.get? e=some oe->oe.cls=.type "AttributeError"->E (.ref e) {s with heap:=h',toks:=tk})(hm:q.length<=sizeLine):
 wpAny (model prog w) A (raiseAttrError c name q:Sem α) r E s:=by
 refine aa (wpAny_mkStr (aa ?_) hm);refine aa (ba ?_ (by size_fits));refine aa (m:=firstArgMember _ _) (wpAny_of_eq (a:=d5) (by simp only[firstArgMember,attrError_no_first];rfl) ?_);rw[ownMembersOf_AttributeError];refine ba ?_ (by size_fits);obtain⟨Y,g,d,tk,os⟩:=s;have f1:=sub_AttributeError
 repeat(any_goals(first|assumption|wp_step))
 have k:∀(f:Obj->Obj)(Z X:Obj) b O,Y.get? b=some O->(((Y.push Z).push X).update (Y.push Z).objs.size f).get? b=some O:=λf Z X b O hb=>by
  refine(am _ _ ?_).trans (ae _ (ae _ hb));simp only[bP];exact pW (j4 (af hb))
 refine L2.yu (hh.keep λ_ _ _ _ e=>k _ _ _ _ _ e) (ar _ (ah _ rfl) rfl) rfl (by simp) (λC z=>by cases z) λh' o' W T V=>h _ _ _ o' (λb O hb=>(W.2 b ?_).trans (k _ _ _ _ _ hb)) T V
 simp only[bP];exact bh (j4 (af hb))
def Jl(a:Addr)(xs:Array Value)(k:Nat)(sl:Array (Option Value))(name:Str)(u:Tok)(U:typeLookup (.type "list") name=pure none)(O:(["__module__","__name__","__qualname__","__doc__","__annotations__"]:List Str).contains name=false)(hsz:name.length+100<=sizeLine):
 Meets (eT.«object.__getattribute__» ⟨[.ref a,.str name u],[]⟩) (λA R s=>s.heap.get? a=some {cls:=.type "list", dict:=none,data:=.seq xs k,slots:=sl}/\L2.Hq A s.heap/\∀h' tk e oe,(∀b Y,s.heap.get? b=some Y->h'.get? b=some Y)->h'.get? e=some oe->oe.cls=.type "AttributeError"->R (.error (.ref e)) {s with heap:=h',toks:=tk}):=
 Meets.of_wp λprog w A R s hs=>by
  obtain⟨Z,g,d,tk,os⟩:=s;obtain⟨hx,hs⟩:=hs;unfold eT.«object.__getattribute__»
  repeat(any_goals(first|assumption|wp_step))
  simp only[O,cN,if_false]
  repeat(any_goals(first|assumption|wp_step))
  exact Nr hs.1 hs.2 (attrMsg_fits (by decide +kernel) hsz)
def Vx:typeLookup (.type "list") "keys"=pure none:=by rw[cq,bv];kernel_rfl
def Nt(hx:s.heap.get? a=some {cls:=.type "list", dict:=none,data:=.seq m k,slots:=sl})(O:L2.Hq A s.heap)
 (h:∀h' tk,(∀b o,s.heap.get? b=some o->h'.get? b=some o)->q none {s with heap:=h',toks:=tk}):wpAny (model prog w) A (getAttr? (.ref a) "keys") q E s:=by
 obtain⟨X,g,d,tk,os⟩:=s;have Y:∀Z,(⟨X,g,d,Z,os⟩:dv).TypeIs (.ref a) "list" := λ_=>⟨_,hx,rfl⟩
 have f1:=sub_AttributeError;have P:=F.slot_list_getattribute.lookup;have R:=F.slot_list_getattribute.bind (.ref a);have S:=am_list_getattr_none;unfold getAttr? getAttrBy? getAttrBy
 repeat(any_goals(first|assumption|exact Y _|((with_reducible show wpAny _ _ (call (Value.builtin "list.__getattribute__") _ _) _ _ _);refine call_meets F.slot_list_getattribute (Y _) am_entry_list_getattribute (F.args_list_getattribute_2 _ _) (Jl a m k sl "keys" _ Vx (by decide) (by size_fits)) ⟨hx,O,λh' Z e oe W T V=>?_⟩)|wp_step))
 obtain⟨c,od,N,U⟩:=oe;obtain rfl:c=.type "AttributeError" := V;show wpAny _ _ (getattributeRaised _ _ _ _ _ _ _) _ _ _;unfold getattributeRaised
 repeat(any_goals(first|assumption|wp_step))
 exact h _ _ W
def Bq:entryFor table "dict.update.loop"=some eT.«dict.update.loop»:=entryFor_of_tree (by kernel_rfl)
def tR:plainId "dict.update.loop"=true:=by decide +kernel
structure PL(h:eg)(D I l:Addr)(its:Array Value)(vs:List (L2.Key×Value))(i:Nat):Prop where
 iter:h.IsListIter I l i
 lst:h.IsList l its
 prs:∀(j:Nat)(u:Value),its[j]?=some u->∃(a:Addr)(n:Int)(t:Tok)(v:Value),u=dE a/\IsTup h a #[eJ n t,v]/\vs[j]?=some (eH n,v)/\a≠D/\a≠I
 ne:l≠D/\l≠I/\D≠I
theorem QL{D l:Addr}{its:Array Value}{vs:List (L2.Key×Value)}{R:Result->dv->Prop}(hn:(vs.map (·.1)).Nodup)(hz:vs.length=its.size)(hs:its.size<=1000):
 ∀(m i:Nat)(tk:Tok)(s:dv),its.size-i=m->i<=its.size->L2.Hq A s.heap->PL s.heap D I l its vs i->s.heap.DictOf (L2.b_ prog w) D (vs.take i) ->
  (∀h' tk,(∀b o,b≠D->b≠I->s.heap.get? b=some o->h'.get? b=some o)->h'.DictOf (L2.b_ prog w) D vs->R (.ok (.ret .none)) {s with heap:=h',toks:=tk}) ->
  codeAny (model prog w) A (.builtin "dict.update.loop" ⟨[.ref D,.ref I,.int i tk,.none],[]⟩) R s:=by
 intro m
 induction m with
 |zero=>
  intro i tk s hm hi y P hd B;have e:i=its.size:=by lia
  subst e;refine bb Bq ?_;rw[aI tR _];have:its[its.size]?=none:=by simp
  refine aa (L2.v8 (A:=A.in1) y P.iter P.lst this λh' hx=>?_);refine aa (ag (ag ?_));have M:h'.DictOf (L2.b_ prog w) D vs:=by
   have:=hd.extBut hx P.ne.2.2;rwa[<-hz,oU]at this
  exact B h' s.toks (λb o _ z q=>hx b o z q) M
 |succ m ih=>
  intro i tk s hm hi y P hd B;have T:i<its.size:=by lia
  obtain⟨u,f⟩:∃u,its[i]?=some u:=⟨its[i],by simp[T]⟩;obtain⟨a,n,t,v,rfl,hp,g,na,ni⟩:=P.prs i u f;refine bb Bq ?_;rw[aI tR _];refine aa (cf P.iter P.lst f λh1 N V=>?_);have k1:=λb z=>V.2 b z
  have J:IsTup h1 a #[.int n t,v]:=by
   obtain⟨o,e,c⟩:=hp;exact⟨o,(k1 a ni).trans e,c⟩
  have E:=hd.sameBut V P.ne.2.2;refine aa (ax ?_);have K:(vs.take i).length<=sizeLine:=by
   rw[iD];exact bw (q_ _ _) (bw (fU T) (bw hs (by decide)))
  have U:stored (vs.take i) (eH n) v=vs.take (i+1):=by
   have F:i<vs.length:=by lia
   have L:vs[i]=(eH n,v):=by
    have:=aG F;rw[g]at this;exact(cG.inj this).symm
   have no:¬((vs.take i).any λO=>decide (O.1=eH n))=true:=by
    intro z;obtain⟨O,hk,e⟩:=iG.mp z;have e:=of_decide_eq_true e;obtain⟨j,G,S⟩:=rM.mp hk;have H:j<i:=by
     have:j<(vs.take i).length:=G;rw[iD]at this;lia
    have e3:vs[j]=O:=by
     rw[<-S,List.getElem_take]
    have:=List.pairwise_iff_getElem.mp hn j i (by rw[ak];lia) (by rwa[ak]) H;apply this;rw[List.getElem_map,List.getElem_map,e3,L,e]
   unfold stored;rw[if_neg no,nR,g];rfl
  obtain⟨o2,S,c2,n2,d2⟩:=id J;have hT:Shared.TypeIs {s with heap:=h1} (.ref a) "tuple" := ⟨o2,S,c2⟩;refine aa (bu ?_);refine aa (da hT ?_);rw[if_pos (by decide)];refine aa (a_ S d2 (ag ?_));refine ax (wpAny_dictSet_pairs (knd:=L2.b_ prog w) (k:=eH n) (hsz:=K) (by show Value.isInt n (.int n t)=true;simp[Value.isInt]) E λh2 dd W=>?_);rw[U]at dd;refine ag ⟨bc tR _,?_⟩;have k2:∀b o,b≠D->b≠I->s.heap.get? b=some o->h2.get? b=some o:=λb o Y Z q=>(W.2 b Y).trans ((k1 b Z).trans q)
  have X:∀b x,b≠D->b≠I->IsTup s.heap b x->IsTup h2 b x:=λb x Y Z ⟨o,e,c⟩=>⟨o,k2 b o Y Z e,c⟩
  refine ih (i+1) 0 _ (by lia) (by lia) (y.keep λh o C c e=>k2 h o (let⟨_,r,p⟩:=hd.typeIs;L2.BX r p e c) (let⟨_,r,p,_⟩:=P.iter;L2.BX r p e c) e) ⟨?_,?_,λj u G=>?_,P.ne⟩ dd λh3 Q k3 d3=>?_
  .obtain⟨o,e,c⟩:=N;exact⟨o,(W.2 I (dL P.ne.2.2)).trans e,c⟩
  .obtain⟨o,e,c⟩:=P.lst;exact⟨o,k2 l o P.ne.1 P.ne.2.1 e,c⟩
  .obtain⟨d,n',t',v',rfl,q1,q2,q3,q4⟩:=P.prs j u G;exact⟨d,n',t',v',rfl,X d _ q3 q4 q1,q2,q3,q4⟩
  .exact B h3 Q (λb o Y Z q=>k3 b o Y Z (k2 b o Y Z q)) d3
end
section
variable{prog:dA}{E:Value->dv->Prop}
def CV{vs:List (L2.Key×Value)}(hA:L2.Hq A s.heap)(O:s.heap.get? k=some {cls:=.type "list", dict:=none,data:=.seq its n,slots:=sl})
 (hp:∀(j:Nat)(u:Value),its[j]?=some u->∃(a:Addr)(n:Int)(t:Tok)(v:Value),u=dE a/\IsTup s.heap a #[eJ n t,v]/\vs[j]?=some (eH n,v)) (hn:(vs.map (·.1)).Nodup) (hz:vs.length=its.size) (hs:its.size<=1000)
 (h:∀h' tk,h'.DictOf (L2.b_ prog w) s.heap.objs.size vs->(∀b o,s.heap.get? b=some o->h'.get? b=some o)->Q (.ref s.heap.objs.size) {s with heap:=h',toks:=tk}):
 wpAny (model prog w) A (aax (.type "dict") [.ref k]) Q E s:=by
 refine callType_codes (Q₁:=λobj Y=>obj=.ref s.heap.objs.size/\Y={s with heap:=s.heap.push {cls:=.type "dict", data:=.dict #[]} }) F.kt_called_dict (F.kt_typeCall_dict_1 _) F.entry_dict_init (kt_code_dict_new _ ⟨rfl,rfl⟩) ?_;rintro obj Y ⟨rfl,rfl⟩;obtain⟨g,P⟩:∃g,g=s.heap.push {cls:=.type "dict", data:=.dict #[]}:=⟨_,rfl⟩;rw[<-P];have V:g.DictOf (L2.b_ prog w) s.heap.objs.size []:=by rw[P];exact Heap.DictOf.new s.heap
 have W:∀b o,s.heap.get? b=some o->g.get? b=some o:=λb o q=>by rw[P];exact ae _ q
 have S:=W _ _ O;have J:Shared.TypeIs {s with heap:=g} (.ref k) "list" := ⟨_,S,rfl⟩;refine⟨V.typeIs,F.args_dict_init_2 _ _,?_⟩;unfold eT.«dict.__init__»;refine aa ?_;refine aa (wpAny_notOrdered_dict V.typeIs ?_);refine ag ?_;show wpAny _ _ (Builtin.Dict.updateFrom "dict.__init__" s.heap.objs.size (.ref k) [] .none) _ _ _;refine aa (da J ?_);rw[if_pos (by decide)];have R:L2.Hq A.in1.in1 g:=hA.keep λ_ _ _ _ e=>W _ _ e
 refine aa (Nt (s:={s with heap:=g}) S R λh1 X k1=>?_);rw[if_pos (by rfl)];refine aa (cw ?_);have l1:=k1 _ _ S;have il:h1.IsList k its:=⟨_,l1,rfl,n,rfl⟩;refine aa (cS (s:={s with heap:=h1,toks:=X}) il ?_);refine ag ⟨bc tR _,?_⟩;obtain⟨g2,Z⟩:∃g2,g2=h1.push {cls:=.type "list_iterator", data:=.fields #[.ref k,.int 0 0]}:=⟨_,rfl⟩;have k2:∀b o,s.heap.get? b=some o->g2.get? b=some o:=λb o q=>by rw[Z];exact ae _ (k1 _ _ (W _ _ q))
 have old:∀b o,s.heap.get? b=some o->b≠s.heap.objs.size/\b≠h1.objs.size:=λb o q=>by
  have lt:=af q;have T:=af (k1 _ _ (W _ _ q));exact⟨bh lt,bh T⟩
 have N:s.heap.objs.size≠h1.objs.size:=by
  obtain⟨o,_,_,e,_⟩:=V;exact bh (af (k1 _ _ e))
 have dd:g2.DictOf (L2.b_ prog w) s.heap.objs.size (vs.take 0):=by
  obtain⟨o,es,I,e,r⟩:=V;exact⟨o,es,I,by rw[Z];exact ae _ (k1 _ _ e),r⟩
 have L:=old _ _ O;show codeAny (model prog w) A.in1 (Code.builtin "dict.update.loop" ⟨[dE s.heap.objs.size,dE h1.objs.size,eJ ((0:Nat):Int) 0,d5],[]⟩) _ {s with heap:=h1.push {cls:=.type "list_iterator", data:=.fields #[.ref k,.int 0 0]},toks:=X};rw[<-Z];refine QL (s:={s with heap:=g2,toks:=X}) (A:=A.in1) hn hz hs its.size 0 0 rfl (f9 _) (hA.keep λ_ _ _ _ e=>k2 _ _ e) ⟨⟨_,by rw[Z];exact ah _ rfl,rfl,rfl⟩,⟨_,k2 _ _ O,rfl,n,rfl⟩,λj u K=>?_,⟨L.1,L.2,N⟩⟩ dd λh3 U k3 d3=>?_
 .obtain⟨a,m,t,v,rfl,⟨o,e,c⟩,q⟩:=hp j u K;have M:=old _ _ e;exact⟨a,m,t,v,rfl,⟨o,k2 _ _ e,c⟩,q,M.1,M.2⟩
 .exact⟨rfl,h h3 U d3 λb o q=>k3 b o (old b o q).1 (old b o q).2 (k2 b o q)⟩
end
theorem KC:∀{ys:List V}{qs:List (Int×Int)},Prs K H ys qs->ys.length=qs.length
 |_,_,.nil=>rfl
 |_,_,.cons _ r=>by simp[KC r]
section
variable{X:Cx}{σ:L2.St}{H:Hp}
theorem Gm(I:L2.Inv X pins σ H s):∀{ys:List V}{us:List Value}{qs:List (Int×Int)},Prs X.K H ys qs->Vals ys us->∃vs:List (L2.Key×Value),vs.length=us.length/\(vs.map (·.1))=qs.map (λq=>eH q.1)/\KV (qs.map λq=>(eH q.1,V.int q.2)) vs /\
 ∀(j:Nat)(u:Value),us[j]?=some u->∃(a:Addr)(n:Int)(t:Tok)(v:Value),u=dE a/\IsTup s.heap a #[eJ n t,v]/\vs[j]?=some (eH n,v)
 |_,_,_,.nil,.nil=>⟨[],rfl,rfl,.nil,λj u h=>by simp at h⟩
 |_,_,_,.cons p ps,.cons r rs=>by
  obtain⟨vs,h1,h2,h3,h4⟩:=Gm I ps rs;obtain⟨a,W,Y,rfl,U⟩:=Vw I p r;refine⟨(eH _,.int _ Y)::vs,by simp[h1],by simp[h2],.cons ⟨rfl,⟨Y,rfl⟩⟩ h3,λj u Z=>?_⟩
  cases j with
  |zero=>
   simp at Z;subst Z;exact⟨a,_,W,_,rfl,U,rfl⟩
  |succ j=>exact h4 j u (by simpa using Z)
def Jm(hc:X.calm=true):mK X (.type "dict") (λxs H Q=>∃(p:Addr)(ys:List V)(qs:List (Int×Int)),xs=[.ref p]/\SqL X.K H p ys/\ys.length<=1000/\Prs X.K H ys qs/\(qs.map (·.1)).Nodup/\∀l,H l=none->Q (.ref l) (upd H l (.dK (qs.map λq=>(eH q.1,V.int q.2))))):=by
 intro pins s σ H xs us Q I r h;obtain⟨p,ys,qs,rfl,hx,O,Y,hn,q⟩:=h;obtain⟨u,rfl,P⟩:=vals1 r
 cases P;obtain⟨its,Z,pl,L⟩:=I.list hx;obtain⟨⟨c,d,J,sl⟩,n,e,rfl,rfl,rfl⟩:=pl;obtain⟨vs,R,T,U,W⟩:=Gm I Y Z;have len:its.length=ys.length:=Z.length.symm;have nd:(vs.map (·.1)).Nodup:=by
  rw[T];have:List.Pairwise (· ≠ ·) ((qs.map (·.1)).map (eH:Int->L2.Key)):=List.Pairwise.map (S:=(· ≠ ·)) (eH:Int->L2.Key) (λa b ne e=>ne (Sum.inl.inj e)) hn;rwa[bD]at this
 refine CV (vs:=vs) (I.hq hc) e (λj u N=>W j u (by simpa using N)) nd (by simpa using R) (by simp;lia) λh' tk dd k=>?_
 have hq:=I.hok.fresh (aN _);have M:=I.laid (h':=h') (t':=tk) (a:=s.heap.objs.size) (o:=.dK (qs.map λq=>(eH q.1,V.int q.2))) k (aN _)
  ⟨by rw[ak,<-KC Y];exact bw O (by decide),beq_eq_false_iff_ne.mpr (dL (bh (big I))),vs,U,dd⟩
 exact⟨.ref _,_,M,rfl,q _ hq⟩
end
theorem KD:∀qs:List (Int×Int),dk0 (qs.map λq=>(.int q.1,.int q.2))=qs.map λq=>(eH q.1,V.int q.2)
 |[]=>rfl
 |q::qs=>by rw[aD,dk0,KD qs];rfl
theorem KH:∀qs:List (Int×Int),yN (qs.map λq=>((.int q.1,.int q.2):D×D))=true
 |[]=>rfl
 |_::r=>KH r
theorem Vy(qs:List (Int×Int)):dh0 (qs.map λq=>(.int q.1,.int q.2))=.dK (qs.map λq=>(eH q.1,V.int q.2)):=by
 cases qs with
 |nil=>rfl
 |cons q r=>exact congrArg HO.dK (KD (q::r))
def QM(hA:X.calm=true)(ha:DB X fl .P [c] fa)(hg:Gl X "dict")(hm:X.mg "dict"=none)
 (he:starEach [c] X.env=(false,eval c X.env)::starEach [] X.env:=by rfl) (O:(backTo k (starEach [] X.env)).any (·.1)=false:=by rfl):DE X fl .C (.Call (.Name "dict" p) [c] [] k) (dCall yW fa):=
 PE.imp (jT (Jm hA) hg hm (show bootBuiltins "dict"=some (.type "dict")by decide +kernel) ha (by decide) (by decide) he O) λσ H Q h=>by
 refine bV h λG ow δ d R T q=>?_
 refine aQ T λds S Y=>?_
 refine⟨G,ow,δ,ds,R,S,λvs H' sm V=>?_⟩;unfold yW at Y;split at Y
 .next l=>
  refine aQ Y λqs e4 e5=>?_
  by_cases Z:l.length<=1000/\(qs.map (·.1)).Nodup
  .rw[if_pos Z]at e5
   cases e5
   cases V with
   |cons r1 r2=>
    cases r2;obtain⟨a,ys,rfl,hx,W⟩:=r1.lstE;obtain⟨U,M⟩:=QK e4 W;refine⟨a,ys,qs,rfl,hx,by rw[W.length];exact Z.1,U,Z.2,λN hn=>q _ _ (sm.trans (cC hn _)) (.dic aW (.inl ⟨KH qs,?_⟩) (sm.free hn))⟩;rw[Vy]
  .rw[if_neg Z]at e5;cases e5
 .cases Y
end XS
namespace D3
noncomputable def dX(qs:List (Int×Int))(i:Int):Option Int:=(qs.find? λq=>decide (q.1=i)).map (·.2)
noncomputable def Gn(qs:List (Int×Int))(i j:Int):List (Int×Int):=if(qs.any λq=>decide (q.1=i))=true then qs.map (λq=>if q.1=i then(q.1,j)else q)else qs++[(i,j)]
def dcD(qs:List (Int×Int)):D:=.dict (qs.map λq=>(.int q.1,.int q.2))
theorem yX:∀qs:List (Int×Int),iiD (qs.map λq=>((.int q.1,.int q.2):D×D))=some qs
 |[]=>rfl
 |q::r=>by
  rw[aD,iiD,yX r];rfl
def n8:D->Option (List (Int×Int))
 |.dict kvs=>iiD kvs
 |_=>none
def o8(qs:List (Int×Int)):n8 (dcD qs)=some qs:=yX qs
def o9:D->D->Option D:=λx y=>(n8 x).bind λqs=>match y with
 |.int i=>(dX qs i).map .int
 |_=>none
def jx:D->D->Option D:=λy x=>(n8 x).bind λqs=>match y with
 |.int i=>some (.bool (!(dX qs i).isSome))
 |_=>none
def yZ:List D->Option D
 |[x]=>(n8 x).bind λqs=>if qs.length<64 then some (.list ((xK (qs.map (·.1))).map .int))else none
 |_=>none
def sE(fx fk fz:FE):FE:=λδ=>(fx δ).bind λx=>(fk δ).bind λk=>(fz δ).bind λz=>(n8 x).bind λqs=>match k,z with
 |.int i,.int j=>some (.int ((dX qs i).getD j))
 |_,_=>none
def Gp(i:Nat)(fk f:FE):FS:=λδ=>(f δ).bind λd=>(ao i δ).bind λx=>(fk δ).bind λk=>match d,k with
 |.int v,.int j=>(n8 x).bind λqs=>if qs.length<1000000 then some (.nx (δ.set i (some (.d (dcD (Gn qs j v))))))else none
 |_,_=>none
def sG(f:FE):FA:=λδ=>(f δ).bind λx=>(n8 x).map λqs=>qs.map λq=>.int q.1
def KJ(fa:FA)(fz:FE):FE:=λδ=>(fa δ).bind λl=>(fz δ).bind λz=>match l with
 |[.list m]=>match j8 m with
  |some (i::r)=>lW [.list m]
  |some []=>if flat z=true then some z else none
  |none=>none
 |_=>none
def Gq:D->D->Option D:=λx y=>match x,y with
 |.list l,.list m=>(j8 l).bind λns=>(j8 m).bind λZ=>if ns.length<=1000 then some (.list (uH l m))else none
 |_,_=>none
noncomputable def Vz:D->Option Nat
 |.list l=>some l.length
 |_=>none
def ndT:D->Bool
 |.tuple ds=>ds.all fl1&&decide ((ds.filterMap Vz).Nodup)
 |_=>false
def dNd(fa:FE):FE:=λδ=>(fa δ).bind λd=>if ndT d=true then some d else none
end D3
variable{kvs:List (List L2.Key×L2.V)}
namespace L2
section
variable{κ:Type}[DecidableEq κ]
def sH(kvs:List (κ×V))(k:κ):Option V:=(kvs.find? λZ=>decide (Z.1=k)).map (·.2)
noncomputable def putK(kvs:List (κ×V))(k:κ)(v:V):List (κ×V):=
 if(kvs.any λZ=>decide (Z.1=k))=true then kvs.map (λZ=>if Z.1=k then(Z.1,v)else Z)else kvs++[(k,v)]
def o_(kvs:List (κ×V))(k:κ):List (κ×V):=kvs.filter λZ=>decide (Z.1≠k)
def pA{p:κ×V}{r:List (κ×V)}{k:κ}(e:p.1=k):sH (p::r) k=some p.2:=by simp[sH,e]
def pB{p:κ×V}{r:List (κ×V)}{k:κ}(e:¬p.1=k):sH (p::r) k=sH r k:=by simp[sH,e]
theorem Gr(k:κ):∀kvs:List (κ×V),(kvs.any λO=>decide (O.1=k))=(sH kvs k).isSome
 |[]=>rfl
 |p::r=>by
  rw[jf];by_cases e:p.1=k
  .simp only[pA e,dTr e,Bool.true_or,m_]
  .rw[pB e,dFa e,Bool.false_or];exact Gr k r
def wZ(kvs:List (κ×V))(k:κ)(v:V):(putK kvs k v).length<=kvs.length+1:=by
 unfold putK;split
 .rw[ak];lia
 .rw[aV,aO,fL];lia
theorem rD.isSome_eq(r:rD c k):c.isSome=k.isSome:=by
 cases c with
 |none=>cases k with
  |none=>rfl
  |some _=>exact(show False from r).elim
 |some _=>cases k with
  |none=>exact(show False from r).elim
  |some _=>rfl
theorem rD.getD(r:rD c k)(rd:RelV m d'):RelV (c.getD m) (k.getD d'):=by
 cases c with
 |none=>cases k with
  |none=>exact rd
  |some _=>exact(show False from r).elim
 |some _=>cases k with
  |none=>exact(show False from r).elim
  |some _=>exact r
theorem KV.val(r:KV c m)(k:κ):rD (sH c k) (valueAt m k):=by
 induction r with
 |nil=>exact eC
 | @cons p q ps qs h t Y=>
  obtain⟨h1,h2⟩:=h;by_cases e:p.1=k
  .have Z:q.1=k:=h1.symm.trans e;have b:valueAt (q::qs) k=some q.2:=by simp[valueAt,Z]
   rwa[pA e,b]
  .have Z:¬q.1=k:=λz=>e (h1.trans z)
   have b:valueAt (q::qs) k=valueAt qs k:=by simp[valueAt,Z]
   rwa[pB e,b]
theorem KV.any(r:KV c m)(k:κ):(c.any λO=>decide (O.1=k))=m.any λO=>decide (O.1=k):=by
 induction r with
 |nil=>rfl
 |cons h t Z=>rw[jf,jf,Z,h.1]
theorem KV.repl(r:KV c m)(k:κ)(U:RelV B F):
 KV (c.map λO=>if O.1=k then(O.1,B)else O) (m.map λO=>if O.1=k then(O.1,F)else O):=by
 unfold KV at r ⊢
 induction r with
 |nil=>exact .nil
 | @cons p q ps qs h t Z=>
  rw[aD,aD];refine .cons ?_ Z;obtain⟨h1,h2⟩:=h;by_cases e:p.1=k
  .rw[if_pos e,if_pos (h1.symm.trans e)];exact⟨h1,U⟩
  .rw[if_neg e,if_neg (λz=>e (h1.trans z))];exact⟨h1,h2⟩
def KV.put(r:KV c m)(k:κ)(O:RelV q t):KV (putK c k q) (stored m k t):=by
 unfold putK stored;rw[r.any k];by_cases e:(m.any λZ=>decide (Z.1=k))=true
 .rw[if_pos e,if_pos e];exact r.repl k O
 .rw[if_neg e,if_neg e];exact Paired.snoc r ⟨rfl,O⟩
theorem KV.drop(r:KV c m)(k:κ):KV (o_ c k) (without m k):=by
 unfold KV at r ⊢;unfold o_ without
 induction r with
 |nil=>exact .nil
 | @cons p q ps qs h t Z=>
  obtain⟨h1,h2⟩:=h;rw[kY,kY];by_cases e:p.1=k
  .have a:¬decide (p.1≠k)=true:=by simp[e]
   have b:¬decide (q.1≠k)=true:=by simp[h1.symm.trans e]
   rwa[if_neg a,if_neg b]
  .have Y:¬q.1=k:=λz=>e (h1.trans z)
   have a:decide (p.1≠k)=true:=by simp[e]
   have b:decide (q.1≠k)=true:=by simp[Y]
   rw[if_pos a,if_pos b];exact .cons ⟨h1,h2⟩ Z
theorem KV.keys{kvs:List (κ×V)}{vs:List (κ×Value)}(r:KV kvs vs):kvs.map (·.1)=vs.map (·.1):=by
 induction r with
 |nil=>rfl
 |cons h t Z=>rw[aD,aD,Z,h.1]
def KV.length{kvs:List (κ×V)}{vs:List (κ×Value)}(r:KV kvs vs):kvs.length=vs.length:=Paired.length r
def QS(kvs:List (κ×V))(k:κ):(o_ kvs k).length<=kvs.length:=gH _ _
end
theorem zc(r:RelV (kV k) c):(b_ P w).is k c=true:=by
 cases k with
 |inl i=>obtain⟨t,e⟩:=(show ∃t,c=eJ i t from r);subst e;exact Ey P w i t
 |inr x=>obtain⟨t,e⟩:=(show ∃t,c=e_ x t from r);subst e;exact Ez P w x t
theorem Br:∀{ks:List Key}{us:List Value},Vals (ks.map kV) us->ItemsAre (b_ P w) ks us
 |[],_,r=>by rw[cO]at r;cases r;exact .nil
 |k::ks,_,r=>by
  rw[aD]at r
  cases r with
  |cons h t=>exact .cons (zc h) (Br t)
abbrev KT(H:Hp):List (List Key×V)->List (List Key×Addr×Value)->Prop:=Paired λp q=>p.1=q.1/\H q.2.1=some (.tup (p.1.map kV))/\RelV p.2 q.2.2
theorem KT.val{xs:List (List Key×Addr×Value)}(r:KT H kvs xs)(k:List Key):rD (sH kvs k) ((atKey xs k).map (·.2)):=by
 induction r with
 |nil=>exact eC
 | @cons p q ps qs h t Y=>
  obtain⟨h1,_,h2⟩:=h;by_cases e:p.1=k
  .have Z:q.1=k:=h1.symm.trans e;have b:atKey (q::qs) k=some q.2:=by simp[atKey,Z]
   rwa[pA e,b]
  .have Z:¬q.1=k:=λz=>e (h1.trans z)
   have b:atKey (q::qs) k=atKey qs k:=by simp[atKey,Z]
   rwa[pB e,b]
theorem KT.repl(r:KT H kvs c)(k:List Key)(U:RelV m B):
 KT H (kvs.map λO=>if O.1=k then(O.1,m)else O) (c.map (putAt k B)):=by
 induction r with
 |nil=>exact .nil
 | @cons p q ps qs h t Z=>
  rw[aD,aD];refine .cons ?_ Z;obtain⟨h1,h2,h3⟩:=h;unfold putAt;by_cases e:p.1=k
  .rw[if_pos e,if_pos (h1.symm.trans e)];exact⟨h1,h2,U⟩
  .rw[if_neg e,if_neg (λz=>e (h1.trans z))];exact⟨h1,h2,h3⟩
def KT.put(r:KT H kvs c)(k:List Key)(hb:H m=some (.tup (k.map kV)))(O:RelV t z):
 KT H (putK kvs k t) (storedH c k m z):=by
 have e:(kvs.any λZ=>decide (Z.1=k))=(atKey c k).isSome:=by
  rw[Gr,(r.val k).isSome_eq,g8]
 unfold putK storedH;rw[e];by_cases q:(atKey c k).isSome=true
 .rw[if_pos q,if_pos q];exact r.repl k O
 .rw[if_neg q,if_neg q];exact Paired.snoc r ⟨rfl,hb,O⟩
def KT.keeps(r:KT H kvs c)(O:∀b ys,H b=some (.tup ys)->H' b=some (.tup ys)):KT H' kvs c:=
 Paired.mapP r λ_ _ z=>⟨z.1,O _ _ z.2.1,z.2.2⟩
section
variable{H:Hp}
def Xq(ok:HOk P w H h)(e:Rd H a u):gO P w H h a u:=e.ok ok
def n_{kvs:List (Key×V)}(ok:HOk P w H h)(e:Rd H a (.dK kvs)):kvs.length<=sizeLine/\(a==sysModules)=false/\∃vs,KV kvs vs/\h.DictOf (b_ P w) a vs:=
 show gO P w H h a (.dK kvs)from Xq ok e
def QT(ok:HOk P w H h)(e:H a=some (.dK c)):c.length<=sizeLine/\(a==sysModules)=false/\∃vs,KV c vs/\h.DictOf (b_ P w) a vs:=n_ ok (.inl e)
def jP(ok:HOk P w H h)(e:H a=some (.tup (c.map kV))):(tupleKind (b_ P w)).is h c a:=by
 obtain⟨_,its,r,o,h1,h2,n,h3⟩:=(show gO P w H h a (.tup (c.map kV))from ok a _ e);exact⟨o,its.toArray,n,h1,h2,h3,by simpa using Br r⟩
def zf(ok:HOk P w H h)(e:Rd H a (.dT kvs)):kvs.length<=sizeLine/\(a==sysModules)=false /\
 ∃xs,KT H kvs xs/\h.DictOfH (tupleKind (b_ P w)) a xs:=by
 obtain⟨z,y,xs,r,o,es,Y,h1,h2,h3,h4,h5⟩:=(show gO P w H h a (.dT kvs)from Xq ok e);refine⟨z,y,xs,r,o,es,Y,h1,h2,h3,h4,λx hx=>?_,h5⟩;have all:∀{l:List (List Key×V)}{m:List (List Key×Addr×Value)},KT H l m->∀x∈m,(tupleKind (b_ P w)).is h x.1 x.2.1:=by
  intro l m q
  induction q with
  |nil=>intro x hx;exact nomatch hx
  | @cons p q ps qs hq t Z=>
   intro x hx;rcases aC.mp hx with e|hx
   .subst e;exact jP ok (by rw[<-hq.1];exact hq.2.1)
   .exact Z x hx
 exact all r x hx
def ai3(ok:HOk P w H h)(e:H a=some (.dT kvs)):kvs.length<=sizeLine/\(a==sysModules)=false /\
 ∃xs,KT H kvs xs/\h.DictOfH (tupleKind (b_ P w)) a xs:=zf ok (.inl e)
end
def wD(H:Hp)(a:Addr)(y:V)(r:Option V):Prop:=
 (∃kvs k,Rd H a (.dK kvs)/\y=kV k/\r=sH kvs k)\/∃kvs k b,Rd H a (.dT kvs)/\y=.ref b/\H b=some (.tup (k.map kV))/\r=sH kvs k
def CW(H:Hp)(a:Addr)(y v:V)(H':Hp):Prop:=
 (∃kvs k,H a=some (.dK kvs)/\y=kV k/\kvs.length<sizeLine/\H'=upd H a (.dK (putK kvs k v))) \/
 ∃kvs k b,H a=some (.dT kvs)/\y=.ref b/\H b=some (.tup (k.map kV))/\kvs.length<sizeLine/\H'=upd H a (.dT (putK kvs k v))
def wD.t{k:List Key}(e:H a=some (.dT kvs))(O:H b=some (.tup (k.map kV))):wD H a (.ref b) (sH kvs k):=.inr ⟨kvs,k,b,.inl e,rfl,O,rfl⟩
def CW.k{k:Key}(e:H a=some (.dK c))(O:c.length<sizeLine):CW H a (kV k) v (upd H a (.dK (putK c k v))):=.inl ⟨c,k,e,rfl,O,rfl⟩
def CW.t{k:List Key}(e:H a=some (.dT kvs))(U:H b=some (.tup (k.map kV)))(O:kvs.length<sizeLine):
 CW H a (.ref b) v (upd H a (.dT (putK kvs k v))):=.inr ⟨kvs,k,b,e,rfl,U,O,rfl⟩
section
variable{X:Cx}{σ:St}{H:Hp}{y v:V}{u r:Value}{o:Option V}{E:Value->dv->Prop}
def Nu(hu:A.units+1<cLine)(I:Inv X pins σ H s)(g:wD H a y (some v))(U:RelV y u)(h:∀O s',Inv X pins σ H s'->RelV v O->Q O s'):
 wpAny (model X.prog X.w) A (getItem (.ref a) u) Q E s:=by
 rcases g with⟨kvs,k,e,W,l⟩|⟨kvs,k,b,e,W,T,l⟩
 .subst W;obtain⟨z,hd,vs,rel,dd⟩:=n_ I.hok e;obtain⟨O,hw,Z⟩:=rD.some_of (v:=v) (o:=valueAt vs k) (by rw[l];exact rel.val k);exact wpAny_getItem_of (zc U) dd.mapOf hw (h O _ (I.tok _) Z)
 .subst W
  cases(show u=dE b from U);obtain⟨z,hd,xs,rel,dd⟩:=zf I.hok e;obtain⟨O,hw,Z⟩:=rD.some_of (v:=v) (o:=(atKey xs k).map (·.2)) (by rw[l];exact rel.val k);obtain⟨p,V,Y⟩:=iY.mp hw;refine wpAny_getItem_heap (bp hu) (jP I.hok T) dd V ?_;rw[Y];exact h O _ (I.tok _) Z
def av2(U:A.units+1<cLine)(I:Inv X pins σ H s)(g:wD H a y o)(O:RelV y u)(h:∀s',Inv X pins σ H s'->Q (.bool o.isSome) s'):
 wpAny (model X.prog X.w) A (compareOp .In u (.ref a)) Q E s:=by
 rcases g with⟨kvs,k,e,Z,l⟩|⟨kvs,k,b,e,Z,Y,l⟩
 .subst Z;obtain⟨z,hd,vs,rel,dd⟩:=n_ I.hok e;refine wpAny_in_of (zc O) hd dd.mapOf ?_;rw[<-(rel.val k).isSome_eq,<-l];exact h _ (I.tok _)
 .subst Z
  cases(show u=dE b from O);obtain⟨z,hd,xs,rel,dd⟩:=zf I.hok e;refine wpAny_in_heap (bp U) (jP I.hok Y) hd dd ?_;have q:=(rel.val k).isSome_eq;rw[g8]at q;rw[<-q,<-l];exact h _ (I.tok _)
def VB(U:A.units+1<cLine)(I:Inv X pins σ H s)(g:wD H a y o)(O:RelV y u)(h:∀s',Inv X pins σ H s'->Q (.bool (!o.isSome)) s'):
 wpAny (model X.prog X.w) A (compareOp .NotIn u (.ref a)) Q E s:=by
 rcases g with⟨kvs,k,e,Z,l⟩|⟨kvs,k,b,e,Z,Y,l⟩
 .subst Z;obtain⟨z,hd,vs,rel,dd⟩:=n_ I.hok e;refine wpAny_notIn_of (zc O) hd dd.mapOf ?_;rw[<-(rel.val k).isSome_eq,<-l];exact h _ (I.tok _)
 .subst Z
  cases(show u=dE b from O);obtain⟨z,hd,xs,rel,dd⟩:=zf I.hok e;refine wpAny_notIn_heap (bp U) (jP I.hok Y) hd dd ?_;have q:=(rel.val k).isSome_eq;rw[g8]at q;rw[<-q,<-l];exact h _ (I.tok _)
def yg(I:Inv X pins σ H s)(U:Mut (H a))(hs:eR a s.heap c)(Y:∃q,c.get? a=some q)(new:gO X.prog X.w (upd H a O) c a O):
 Inv X pins σ (upd H a O) {s with heap:=c,toks:=t'}:=
 I.write (x:=a) (e:=a) U (.inl rfl) (λb q hb z=>(hs.2 b hb).trans z) Y new
def Jo(z:k.length<=sizeLine)(hd:(a==sysModules)=false)(rel:KV k m)(dd:c.DictOf (b_ P w) a m):
 gO P w H' c a (.dK k):=⟨z,hd,m,rel,dd⟩
def Nv(hu:A.units+1<cLine)(I:Inv X pins σ H s)(g:CW H a y v H')(O:RelV y u)(rv:RelV v r)(h:∀s',Inv X pins σ H' s'->m () s'):
 wpAny (model X.prog X.w) A (setItem (.ref a) u r) m E s:=by
 rcases g with⟨kvs,k,e,V,l,U⟩|⟨kvs,k,b,e,V,T,l,U⟩
 .subst V U;obtain⟨z,hd,vs,rel,dd⟩:=QT I.hok e;have Y:vs.length<=sizeLine:=by rwa[<-rel.length]
  have W:(putK kvs k v).length<=sizeLine:=by have:=wZ kvs k v;lia
  refine wpAny_setItem_pairs (hsz:=Y) (zc O) dd λh' Z hs=>h _ ?_
  have S:∃q,h'.get? a=some q:=let⟨q,_,_,hq,_⟩:=Z;⟨q,hq⟩;exact yg I (by rw[e];exact eC) hs S (Jo W hd (rel.put k rv) Z)
 .subst V U
  cases(show u=dE b from O);obtain⟨z,hd,xs,rel,dd⟩:=ai3 I.hok e;have Y:xs.length<=sizeLine:=by rwa[<-Paired.length rel]
  have W:(putK kvs k v).length<=sizeLine:=by have:=wZ kvs k v;lia
  refine wpAny_setItem_heap (hsz:=Y) (bp hu) (jP I.hok T) dd λh' Z hs=>h _ ?_
  obtain⟨q,es,R,hq,h2,h3,h4,_,h5⟩:=Z;refine yg I (by rw[e];exact eC) hs ⟨q,hq⟩ ⟨W,hd,_,(rel.put k T rv).keeps λc ys P=>?_,q,es,R,hq,h2,h3,h4,h5⟩;rwa[aL (cF P e (λz=>nomatch z))]
end
section
variable{X:Cx}{σ:St}{H:Hp}{kvs:List (Key×V)}{k:Key}{u:Value}{E:Value->dv->Prop}
def ai4(I:Inv X pins σ H s)(e:H a=some (.dK kvs))(U:RelV (kV k) u)(l:sH kvs k=some v)(hm:more=[]\/∃x,more=[x])
 (h:∀O s',Inv X pins σ (upd H a (.dK (o_ kvs k))) s'->RelV v O->Q O s'):wpAny (model X.prog X.w) A (call (.builtin "dict.pop") (.ref a::u::more)) Q E s:=by
 obtain⟨z,hd,vs,rel,dd⟩:=QT I.hok e;obtain⟨O,hw,Y⟩:=rD.some_of (v:=v) (o:=valueAt vs k) (by rw[<-l];exact rel.val k);have W:(keyPart u).isSome=true:=by
  cases k with
  |inl i=>obtain⟨t,q⟩:=(show ∃t,u=eJ i t from U);subst q;rfl
  |inr x=>obtain⟨t,q⟩:=(show ∃t,u=e_ x t from U);subst q;rfl
 have ha:argsOk "dict.pop" ⟨.ref a::u::more,[]⟩:=by
  rcases hm with q|⟨x,q⟩
  .subst q;exact PySem.F.args_dict_pop_2 _ _
  .subst q;exact PySem.F.args_dict_pop_3 _ _ _
 refine b9 aaU dd.typeIs PySem.F.entry_dict_pop ha (meets_dict_pop_there (b_ X.prog X.w) a (zc U) more hm W)
  ⟨vs,O,dd,by rwa[<-rel.length],hw,λh' Z hs=>h O _ ?_ Y⟩
 have V:∃q,h'.get? a=some q:=let⟨q,_,_,hq,_⟩:=Z;⟨q,hq⟩;exact yg I (by rw[e];exact eC) hs V (Jo (bw (QS kvs k) z) hd (rel.drop k) Z)
def VD(I:Inv X pins σ H s)(e:H a=some (.dK kvs))(h:∀s',Inv X pins σ (upd H a (.dK [])) s'->Q .none s'):wpAny (model X.prog X.w) A (call (.builtin "dict.clear") [.ref a]) Q E s:=by
 obtain⟨z,hd,vs,rel,dd⟩:=QT I.hok e;refine b9 aaN dd.typeIs PySem.F.entry_dict_clear (PySem.F.args_dict_clear_1 _) (meets_dict_clear (b_ X.prog X.w) a) ⟨vs,dd,by rwa[<-rel.length],λh' Z hs=>h _ ?_⟩;have Y:∃q,h'.get? a=some q:=let⟨q,_,_,hq,_⟩:=Z;⟨q,hq⟩;exact yg (t':=s.toks) I (by rw[e];exact eC) hs Y (Jo (f9 _) hd .nil Z)
end
def QV(i:Expr):Prop:=∀Z Y,subscripted i false Z Y=operate [Z,Y] (getItem Z Y)
def VF{env:Env}{value slice:Expr}{pos:Pos}{T id:String}
 (hl:typeLookup (.type T) "__getitem__"=pure (some (.builtin id))) (hs:QV slice)
 (h:wpAny (model prog w) A (eval value env) (λo U=>wpAny (model prog w) A (eval slice env) (λi O=>O.TypeIs o T/\wpAny (model prog w) A (getItem o i) Q c O) c U) c s):
 wpAny (model prog w) A (eval (.Subscript value slice pos) env) Q c s:=by
 refine Subscript_ (av h (λo U V=>av V (λi O Z=>?_) λ_ _ x=>x) λ_ _ x=>x);obtain⟨S,Z⟩:=Z;refine aa ?_;rw[getitemInPython_of_ne S.not_modules];refine aa (cm S hl ?_);have X:wpAny (model prog w) A (subscripted slice false o i) (λr Y=>wpAny (model prog w) A (letTemporaryGo value o r >>= λ_=>pure r) Q c Y) c O:=by
  rw[hs o i];exact wpAny_operating (av Z (λr Y W=>aa (wpAny_letTemporaryGo (ag W))) λ_ _ x=>x)
 first
  |exact ag (aa X)
  |exact aa (ag (aa X))
  |exact aa X
def Gs(I:Inv X c σ H s)(g:wD H a m q):s.TypeIs (.ref a) "dict" := by
 rcases g with⟨kvs,k,e,_,_⟩|⟨kvs,k,b,e,_,_,_⟩
 .obtain⟨_,_,vs,_,dd⟩:=n_ I.hok e;exact dd.typeIs
 .obtain⟨_,_,xs,_,dd⟩:=zf I.hok e;exact dd.typeIs
def ai5(td ty:TE):TE:=λσ H Q=>td σ H λx H1=>ty σ H1 λy H2=>∃a v,x=.ref a/\wD H2 a y (some v)/\Q v H2
def ai6(td ty tv:TE):TS:=λD σ H=>tv σ H λv H1=>td σ H1 λx H2=>ty σ H2 λy Y=>∃a Z,x=.ref a/\CW Y a y v Z/\D.nx σ Z
section
variable{X:Cx}{o i value:Expr}{td ty tv:TE}
def CZ(O:X.A.units+1<cLine)(U:PE X o td)(hi:PE X i ty)(hs:QV i):PE X (.Subscript o i pos) (ai5 td ty):=by
 intro pins s σ H Q I h;refine VF PySem.F.slot_dict_getitem.lookup hs (thn (U pins s σ H _ I h) λu s1 ⟨x,H1,S,V,q1⟩=>thn (hi pins s1 σ H1 _ S q1) λN s2 ⟨y,H2,Y,W,a,v,ex,g,q2⟩=>?_);subst ex;obtain rfl:u=dE a:=V;exact⟨Gs Y g,Nu O Y g W λR P T Z=>⟨v,H2,T,Z,q2⟩⟩
def C_(U:X.A.units+1<cLine)(ho:PE X o td)(hi:PE X i ty)(O:PE X value tv)(hs:swapsWith value (some (.Subscript o i pos')) pos.line X.env=pure false):
 PS X (.Assign [.Subscript o i pos'] value pos) (ai6 td ty tv):=by
 intro pins s σ H D I h;refine wpAny_Assign_Subscript (thn (O pins s σ H _ I h) λr s1 ⟨v,H1,R,W,q1⟩=>thn (ho pins s1 σ H1 _ R q1) λu s2 ⟨x,H2,S,Y,q2⟩=>thn (hi pins s2 σ H2 _ S q2) λM N ⟨y,L,T,Z,a,Q,ex,g,q3⟩=>?_) hs;subst ex;obtain rfl:u=dE a:=Y;exact Nv U T g Z W λP V=>⟨σ,Q,V,q3⟩
end
section
variable{X:Cx}
end
structure M1(X:Cx)(o:Expr)(m:Str)(apos:Pos)(e:Expr)(cpos:Pos):Prop where
 base:attributeBase o m X.env (eval o X.env)=eval o X.env
 few:((backTo cpos (starEach [e] X.env)).all (λx=>!x.1)&&(backToKw cpos (keywordEach [] X.env)).all (λx=>x.1.isSome)
  && decide (([e]:List Expr).length+([]:List eM).length+(if([]:List eM).isEmpty then 0 else 1)<30))=true
 line:(apos.endLine==cpos.line)=true
 trees:backTo cpos (starEach [e] X.env)=[(false,eval e X.env)]
structure M2(X:Cx)(o:Expr)(m:Str)(apos:Pos)(e f:Expr)(cpos:Pos):Prop where
 base:attributeBase o m X.env (eval o X.env)=eval o X.env
 few:((backTo cpos (starEach [e,f] X.env)).all (λx=>!x.1)&&(backToKw cpos (keywordEach [] X.env)).all (λx=>x.1.isSome)
  && decide (([e,f]:List Expr).length+([]:List eM).length+(if([]:List eM).isEmpty then 0 else 1)<30))=true
 line:(apos.endLine==cpos.line)=true
 trees:backTo cpos (starEach [e,f] X.env)=[(false,eval e X.env),(false,eval f X.env)]
def IsD(H:Hp)(a:Addr):Prop:=(∃kvs,Rd H a (.dK kvs))\/∃kvs,Rd H a (.dT kvs)
def zj(I:Inv X c σ H s)(d:IsD H a):
 s.TypeIs (.ref a) "dict"/\(∀b,dE a=.ref b->∃O,s.heap.get? b=some O/\O.dict=none)/\(a==sysModules)=false:=by
 rcases d with⟨kvs,e⟩|⟨kvs,e⟩
 .obtain⟨_,hd,vs,_,dd⟩:=n_ I.hok e;refine⟨dd.typeIs,λb q=>?_,hd⟩
  cases q;obtain⟨O,_,_,h1,h2,_⟩:=dd;exact⟨O,h1,h2.2.1⟩
 .obtain⟨_,hd,xs,_,dd⟩:=zf I.hok e;refine⟨dd.typeIs,λb q=>?_,hd⟩
  cases q;obtain⟨O,_,_,h1,h2,_⟩:=dd;exact⟨O,h1,h2.2.1⟩
section
variable{X:Cx}{σ:St}{H:Hp}{y d:V}{u r:Value}{o:Option V}{E:Value->dv->Prop}
def Y8(Y:A.units+1<cLine)(I:Inv X pins σ H s)(g:wD H a y o)(U:RelV y u)(rd:RelV d r)(h:∀O s',Inv X pins σ H s'->RelV (o.getD d) O->Q O s'):
 wpAny (model X.prog X.w) A (call (.builtin "dict.get") [.ref a,u,r]) Q E s:=by
 rcases g with⟨kvs,k,e,Z,l⟩|⟨kvs,k,b,e,Z,W,l⟩
 .subst Z;obtain⟨z,hd,vs,rel,dd⟩:=n_ I.hok e;refine b9 aaD dd.typeIs aaT (aaO _ _ _) (meets_dict_get_default (b_ X.prog X.w) a (zc U) hd r) ⟨_,dd.mapOf,h _ _ (I.tok _) ?_⟩;rw[l];exact(rel.val k).getD rd
 .subst Z
  cases(show u=dE b from U);obtain⟨z,hd,xs,rel,dd⟩:=zf I.hok e;refine b9 aaD dd.typeIs aaT (aaO _ _ _) (meetsH_dict_get_default (tupleKind (b_ X.prog X.w)) a b hd r) ⟨bp Y,k,xs,jP I.hok W,dd,h _ _ (I.tok _) ?_⟩;rw[l];exact(rel.val k).getD rd
end
noncomputable def Y9(td ty tx:TE):TE:=λσ H Q=>td σ H λx H1=>∃a,x=.ref a/\IsD H1 a/\ty σ H1 λy H2=>tx σ H2 λz Z=>∃o,wD Z a y o/\Q (o.getD z) Z
def Y_(td ty:TE):TE:=λσ H Q=>td σ H λx H1=>∃a,x=.ref a/\IsD H1 a/\ty σ H1 λy H2=>∃kvs k v,H2 a=some (.dK kvs)/\y=kV k/\sH kvs k=some v/\Q v (upd H2 a (.dK (o_ kvs k)))
section
variable{X:Cx}{o f:Expr}{td ty tx:TE}
def QW(O:X.A.units+1<cLine)(ho:PE X o td)(he:PE X e ty)(hf:PE X f tx)(m:M2 X o "get" apos e f cpos):PE X (.Call (.Attribute o "get" apos) [e,f] [] cpos) (Y9 td ty tx):=by
 intro pins s σ H Q I h;refine wpAny_Call_method m.base m.few m.line aao aaD PySem.F.type_dict_get (thn (ho pins s σ H _ I h) λu s1 ⟨x,H1,Y,S,a,ex,d,q1⟩=>?_);subst ex;obtain rfl:u=dE a:=S;obtain⟨V,W,_⟩:=zj Y d;refine⟨V,W,?_⟩;rw[m.trees];refine aS rfl (cb (bn (thn (he pins s1 σ H1 _ Y q1) λE s2 ⟨y,H2,N,T,q2⟩=>
  bn (thn (hf pins s2 σ H2 _ N q2) λfv J ⟨z,M,P,U,G,g,q3⟩=>bS ?_))))
 exact Y8 O P g T U λL K R Z=>⟨_,M,R,Z,q3⟩
def Gv(O:PE X o td)(he:PE X e ty)(m:M1 X o "pop" apos e cpos):PE X (.Call (.Attribute o "pop" apos) [e] [] cpos) (Y_ td ty):=by
 intro pins s σ H Q I h;refine wpAny_Call_method m.base m.few m.line aao aaU PySem.F.type_dict_pop (thn (O pins s σ H _ I h) λu s1 ⟨x,H1,Y,T,a,ex,d,q1⟩=>?_);subst ex;obtain rfl:u=dE a:=T;obtain⟨V,W,_⟩:=zj Y d;refine⟨V,W,?_⟩;rw[m.trees];refine aS rfl (cb (bn (thn (he pins s1 σ H1 _ Y q1) λL s2 ⟨y,H2,P,U,kvs,k,v,ea,S,l,q2⟩=>bS ?_)));subst S;exact ai4 P ea U l (.inl rfl) λN M R Z=>⟨v,_,R,Z,q2⟩
end
section
variable{X:Cx}{σ:St}{H:Hp}{kvs:List (Key×V)}{E:Value->dv->Prop}
end
section
variable{X:Cx}{σ:St}{H:Hp}{y:V}{u:Value}{E:Value->dv->Prop}
end
section
variable{κ:Type}[DecidableEq κ]
end
end L2
namespace XK
open L2 My D3
section
variable{H:Hp}
theorem KN:∀(qs:List (Int×Int))(i:Int),sH (qs.map λq=>((.inl q.1,.int q.2):Key×V)) (.inl i)=(dX qs i).map V.int
 |[],i=>rfl
 |q::r,i=>by
  rw[aD];by_cases h:q.1=i
  .rw[pA (by rw[h])];simp[dX,h]
  .rw[pB (λz=>h (by injection z)),KN r i];simp[dX,h]
def tU(s:Same H H')(h:L2.Rd H a u):L2.Rd H' a u:=by
 rcases h with h|⟨o,h⟩
 .exact .inl (s _ _ h)
 .exact .inr ⟨o,s _ _ h⟩
theorem pC{x:D}(e:n8 x=some qs)(r:RA K ok pl H v x):∃a,v=.ref a/\L2.Rd H a (.dK (qs.map λq=>(.inl q.1,.int q.2))):=by
 cases x with
 |dict kvs=>
  obtain⟨a,rfl,h⟩:=r.dicE (wC e);rw[yV e,yU e]at h;exact⟨a,rfl,h⟩
 |none=>cases e
 |bool _=>cases e
 |int _=>cases e
 |str _=>cases e
 |list _=>cases e
 |tuple _=>cases e
def Dh(i:Int)(h:L2.Rd H a (.dK (qs.map λq=>(.inl q.1,.int q.2)))):wD H a (.int i) ((dX qs i).map V.int):=
 .inl ⟨_,.inl i,h,rfl,(KN qs i).symm⟩
def Za(qs:List (Int×Int)):dh0 (qs.map λq=>((.int q.1,.int q.2):D×D))=.dK (qs.map λq=>(.inl q.1,.int q.2)):=by rw[yV (yX qs),yU (yX qs)]
end
section
variable{X:Cx}{fl:List Fl}{a b c:Expr}{f fa:FE}
def Di(O:X.A.units+1<cLine)(ha:DE X fl .P a fa)(hb:DE X fl .P b fb)(hs:QV b):DE X fl .FC (.Subscript a b pos) (dOp o9 fa fb):=PE.imp (CZ O ha hb hs) λσ H Q h=>by
 refine bV h λG ow δ d R Y q=>?_
 refine D3.ex2 (ug Y) λx y U V W=>?_
 refine⟨G,ow,δ,x,R,U,λv H1 s1 r1=>⟨G,ow,δ,y,R.grow s1,V,λu H2 s2 r2=>?_⟩⟩;refine aQ W λqs e4 e5=>?_
 obtain⟨p,rfl,Z⟩:=pC e4 r1;split at e5
 .next i=>
  obtain rfl:=RA.intE r2
  cases e6:dX qs i with
  |none=>rw[e6]at e5;cases e5
  |some j=>
   rw[e6]at e5
   cases e5;have g:=Dh i (tU s2 Z);rw[e6]at g;exact⟨p,.int j,rfl,g,q _ H2 (s1.trans s2) (.inl ⟨rfl,.int j⟩)⟩
 .cases e5
def Zb:R2:=λx y H Q=>∃p o,y=.ref p/\wD H p x o/\Q (.bl o.isSome) H
def Dj:R2:=λx y H Q=>∃p o,y=.ref p/\wD H p x o/\Q (.bl (!o.isSome)) H
def QX(O:X.A.units+64<cLine):OpR X (compareOp .In) Zb:=by
 intro pins s σ H x y v u Q I Y Z h;obtain⟨p,o,rfl,g,q⟩:=h;obtain rfl:u=dE p:=Z;exact av2 (by lia) I g Y λs' W=>⟨.bl o.isSome,H,W,rfl,q⟩
def tW(O:X.A.units+64<cLine):OpR X (compareOp .NotIn) Dj:=by
 intro pins s σ H x y v u Q I Y Z h;obtain⟨p,o,rfl,g,q⟩:=h;obtain rfl:u=dE p:=Z;exact VB (by lia) I g Y λs' W=>⟨.bl (!o.isSome),H,W,rfl,q⟩
def zm:BrO K Dj jx:=by
 intro H x y dx W d Q Y Z e q;refine aQ e λqs e4 e5=>?_
 obtain⟨p,rfl,X⟩:=pC e4 Z;split at e5
 .next i=>
  cases e5;obtain rfl:=RA.intE Y;refine⟨p,_,rfl,Dh i X,?_⟩;rw[g8];exact q _ rfl (.bl _)
 .cases e5
theorem KQ:∀(l:List Value)(ns:List Int),l.length=ns.length->(∀(j:Nat)(v:Value),l[j]?=some v->∃n t,ns[j]?=some n/\v=eJ n t)->fT l ns
 |[],[],_,_=>.nil
 |[],_::_,h,_=>by simp at h
 |_::_,[],h,_=>by simp at h
 |v::l,n::ns,h,g=>by
  obtain⟨W,t,X,Y⟩:=g 0 v rfl
  cases X;subst Y;exact .cons _ _ (KQ l ns (by simpa using h) λj v Z=>by simpa using g (j+1) v (by simpa using Z))
def Dk(hc:X.still=true):mK X (.builtin "sorted") (λxs H Q=>∃(p:Addr)(qs:List (Int×Int)),xs=[.ref p]/\L2.Rd H p (.dK (qs.map λq=>(.inl q.1,.int q.2)))/\qs.length<64/\∀l,H l=none->Q (.ref l) (upd H l (.lst ((xK (qs.map (·.1))).map V.int)))):=by
 intro pins s σ H xs us Q I r h;obtain⟨p,qs,rfl,hx,U,q⟩:=h;obtain⟨u,rfl,K⟩:=vals1 r
 cases K;obtain⟨_,hd,vs,rel,dd⟩:=n_ I.hok hx;obtain⟨C,N⟩:=dd.dictAt;have hlen:vs.length=qs.length:=by rw[<-rel.length,ak]
 refine Calls.call_function_entry kind_sorted plain_sorted entry_sorted (args_sorted1 _) ?_;unfold eT.«sorted»;refine aa (m:=checkCount "sorted" 1 1 _) (ag ?_);refine aa (PySem.W.kdu_collect (A:=X.A.in1) (abf (knd:=b_ X.prog X.w) (kvs:=vs) (ep:=C) hd) (I.ok.hs hc) N (by rw[hlen];exact bw (fU U) (by decide)) λh' tk acc F Z=>?_);have O:acc.toList.length=qs.length:=by rw[bW,Z.1,hlen]
 have D:fT acc.toList (qs.map (·.1)):=KQ _ _ (by rw[O,ak]) λj v y=>by
  obtain⟨k,x,S,R⟩:=Z.2 j v (by rwa[<-jh]);obtain⟨i,j',t,rfl,_,_⟩:=(lM rel).2 k x (cY S);have P:(vs.map (·.1))[j]?=some (.inl i):=by rw[aF,S];rfl
  rw[(lM rel).1,aF]at P
  cases M:qs[j]? with
  |none=>rw[M]at P;cases P
  |some q0=>
   rw[M]at P;have B:q0.1=i:=by simpa using P
   rw[yx]at R;obtain⟨t,rfl⟩:∃t,v=eJ i t:=Value.isInt_shape R;exact⟨i,t,by rw[aF,M,<-B];rfl,rfl⟩
 have L:L2.Inv X pins σ H {s with heap:=h',toks:=tk}:=I.kept F;refine aa (wpAny_newList ?_ (by rw[O];exact bw (fU U) (by decide)));have Y:(h'.push (seqObj "list" acc.toList.toArray 0)).get? h'.objs.size=some (seqObj "list" acc.toList.toArray 0):=ah _ rfl;refine aa (ax (bd slot_list_sort ⟨_,Y,rfl⟩ entry_list_sort (list_sort_tree Y D (by rwa[O]) λout J a1 a2 a3=>⟨_,rfl,?_⟩) (args_list_sort _)));refine ag ⟨_,rfl,?_⟩;obtain rfl:=Bj (a2.trans (lB _).symm) a3 (wV _);obtain⟨e,E⟩:=sortedHeap_at (out:=out) Y;have hn:=L.hok.fresh (aN _);have G:(xK (qs.map (·.1))).length=qs.length:=by rw[(lB _).length_eq,ak]
 have z:=L.laid (h':=sortedHeap (h'.push (seqObj "list" acc.toList.toArray 0)) h'.objs.size acc.toList out) (t':=tk) (a:=h'.objs.size) (o:=.lst ((xK (qs.map (·.1))).map V.int)) (λb u e=>by
  have T:=af e;rw[sortedHeap_old (bh T) (by rw[size_push'];exact j4 T)];exact ae _ e) (aN _)
  ⟨by rw[ak,G];exact bw (fU U) (by decide),out.toList,e,D3.oY a1,by simpa[seqObj]using E⟩
 exact⟨.ref _,_,z,rfl,q _ hn⟩
end
def hu1(h:n+64<cLine):n+1<cLine:=by lia
abbrev dkI(qs:List (Int×Int)):List (Key×V):=qs.map λq=>(.inl q.1,.int q.2)
def Zc(qs:List (Int×Int))(j v:Int):putK (dkI qs) (.inl j) (.int v)=dkI (Gn qs j v):=by
 have h:((dkI qs).any λZ=>decide (Z.1=.inl j))=qs.any λq=>decide (q.1=j):=by
  rw[List.any_map];congr 1
  funext q
  by_cases z:q.1=j<;>simp[z]
 unfold putK Gn;rw[h];split
 .unfold dkI;rw[bD,bD];refine cT λq _=>?_
  by_cases z:q.1=j<;>simp[z]
 .simp[dkI]
section
variable{X:Cx}{fl:List Fl}{a b c:Expr}{f fa:FE}
def QZ(hc:X.still=true){fa:FA}{p:Pos}(ha:DB X fl .P [e] fa)(U:Gl X "sorted")(hm:X.mg "sorted"=none)
 (he:starEach [e] X.env=(false,eval e X.env)::starEach [] X.env:=by rfl) (O:(backTo pos (starEach [] X.env)).any (·.1)=false:=by rfl):DE X fl .FC (.Call (.Name "sorted" p) [e] [] pos) (dCall yZ fa):=
 PE.imp (yG (Dk hc) U hm (show bootBuiltins "sorted"=some (.builtin "sorted")by decide +kernel) ha (by decide) (by decide) he O) λσ H Q h=>by
 refine bV h λG ow δ d R V q=>?_
 refine aQ V λds S Y=>?_
 refine⟨G,ow,δ,ds,R,S,λvs H' s W=>?_⟩;unfold yZ at Y;split at Y
 .next x=>
  refine aQ Y λqs T e4=>?_
  by_cases Z:qs.length<64
  .rw[if_pos Z]at e4
   cases e4
   cases W with
   |cons r1 r2=>
    cases r2;obtain⟨a,rfl,hx⟩:=pC T r1;exact⟨a,qs,rfl,hx,Z,λl hn=>q _ _ (s.trans (cC hn _)) (.inr ⟨_,_,_,rfl,rfl,s.free hn,aW,tO _⟩)⟩
  .rw[if_neg Z]at e4;cases e4
 .cases Y
def Gw(O:X.A.units+1<cLine)(ha:DE X fl .P a fa)(hb:DE X fl .P b fb)(hc:DE X fl .P c fc)(hm:M2 X a "get" m b c r):DE X fl .FC (.Call (.Attribute a "get" m) [b,c] [] r) (sE fa fb fc):=
 PE.imp (QW O ha hb hc hm) λσ H Q h=>by
 refine bV h λG ow δ d R Z q=>?_
 refine aQ Z λx N Y=>?_
 clear Z;have Z:=Y;clear Y;refine aQ Z λk S Y=>?_
 clear Z;have Z:=Y;clear Y;refine aQ Z λz T Y=>?_
 clear Z;have Z:=Y;clear Y;refine aQ Z λqs e4 Y=>?_
 clear Z;have Z:=Y;clear Y;split at Z
 case h_2=>cases Z
 next i j=>
 cases Z;refine⟨G,ow,δ,x,R,N,λv H1 s1 r1=>?_⟩;obtain⟨p,rfl,U⟩:=pC e4 r1;refine⟨p,rfl,.inl ⟨_,U⟩,G,ow,δ,_,R.grow s1,S,λu H2 s2 r2=>⟨G,ow,δ,_,R.grow (s1.trans s2),T,λw M W r3=>?_⟩⟩;obtain rfl:=RA.intE r2;obtain rfl:=RA.intE r3;refine⟨_,Dh i (tU (s2.trans W) U),?_⟩;have e:((dX qs i).map V.int).getD (.int j)=.int ((dX qs i).getD j):=by cases dX qs i<;>rfl
 rw[e];exact q _ M ((s1.trans s2).trans W) (.inl ⟨rfl,.int _⟩)
end
def Dm(X:Cx)(a:Addr):Prop:=(∀xs,X.H₀ a≠some (.tup xs))/\(∀o u,X.H₀ a≠some (.frz o u))/\∀q p,X.H₀ a≠some (.tbl q p)
section
variable{X:Cx}{σ:L2.St}{H H':Hp}{kvs:List (Key×V)}
def Dp(I:L2.Inv X pins σ H s)(h:H a=some (.dK kvs)):Dm X a:=
 ⟨λxs z=>(by rw[I.base.tups a xs z]at h;cases h),λo u z=>(by rw[I.base.frzs a o u z]at h;cases h),λq p z=>(by
  rw[I.base.tbls a q p z]at h;cases h)⟩
def Q5(I:L2.Inv X pins σ H s)(hn:Dm X a)(ha:H a≠none)(hb:∀b,b≠a->H' b=H b)(hok:HOk X.prog X.w H' s.heap):L2.Inv X pins σ H' s:=by
 have no:∀b,H b=none->H' b=none:=λb z=>by
  rw[hb b (λe=>ha (by rwa[<-e]))];exact z
 refine⟨I.ok,I.os,I.bare,⟨I.base.keep,I.base.slot,λb o e n hx=>no b (I.base.free b o e n hx),I.base.there,λb xs e=>?_,λb o u e=>?_,λb q p e=>?_⟩,I.loc,I.cell,no _ I.free,λx c e=>no _ (I.freeC x c e),λp Z=>?_,hok,I.len⟩
 .rw[hb b (λz=>hn.1 xs (by rwa[<-z]))];exact I.base.tups b xs e
 .rw[hb b (λz=>hn.2.1 o u (by rwa[<-z]))];exact I.base.frzs b o u e
 .rw[hb b (λz=>hn.2.2 q p (by rwa[<-z]))];exact I.base.tbls b q p e
 .obtain⟨h1,h2,h3⟩:=I.pin p Z;exact⟨h1,no _ h2,h3⟩
def KR(I:L2.Inv X pins σ H s)(h:H a=some (.dK kvs))(O:s.heap.get? a=some o):L2.Inv X pins σ (upd H a (.frz o (.dK kvs))) s:=by
 have Z:Mut (H a):=by rw[h];exact eC
 refine Q5 I (Dp I h) (by rw[h];simp) (λb hb=>aL hb) (I.hok.write Z (.inl rfl) (λ_ _ _ q=>q) ⟨o,O⟩ ⟨O,?_⟩);exact(I.hok a _ h).stay (λ_ _ _ q=>q) (λb q=>by rwa[aL (cF q h (by intro z;cases z))]) (λb xs q=>by rwa[aL (cF q h (by intro z;cases z))])
def pD(I:L2.Inv X pins σ H s)(hn:Dm X a)(h:H a=some (.frz o (.dK kvs))):L2.Inv X pins σ (upd H a (.dK kvs)) s:=by
 have st:∀b u,gO X.prog X.w H s.heap b u->gO X.prog X.w (upd H a (.dK kvs)) s.heap b u:=λb u z=>
  z.stay (λ_ _ _ q=>q) (λc q=>by rwa[aL (cF q h (by intro z;cases z))]) (λc xs q=>by rwa[aL (cF q h (by intro z;cases z))])
 refine Q5 I hn (by rw[h];simp) (λb hb=>aL hb) λb u e=>?_
 by_cases hb:b=a
 .subst hb;rw[aW]at e
  cases e;exact st _ _ (I.hok b _ h).2
 .rw[aL hb]at e;exact st b u (I.hok b u e)
end
def Itk(o:Obj)(a:Addr)(kvs:List (Key×V)):It:=
 ⟨λi H=>H a=some (.frz o (.dK kvs))/\i<kvs.length,λi H x H'=>H'=H/\∃k v,kvs[i]?=some (k,v)/\x=kV k,λi H=>H a=some (.frz o (.dK kvs))/\kvs.length<=i⟩
def Dq(I:L2.Inv X c σ H s)(h:H a=some (.frz o (.dK k)))(hd:o.data=.dict m ep):
 ∃vs,KV k vs/\s.heap.DictAt (b_ X.prog X.w) a vs ep:=by
 obtain⟨Z,_,_,vs,rel,o',U,T,Y,R,W,S⟩:=I.hok a _ h;rw[Z]at Y
 cases Y;rw[hd]at W
 cases W;exact⟨vs,rel,o,m,Z,R,hd,S⟩
def Jp(h:(b_ P w).is k c=true):RelV (kV k) c:=by
 rw[yx]at h;rcases gb h with⟨i,t,rfl,rfl⟩|⟨x,t,rfl,rfl⟩
 .exact⟨t,rfl⟩
 .exact⟨t,rfl⟩
theorem Gx(o:Obj)(a it:Addr)(kvs:List (Key×V)){es:Array DictEntry}{ep:Nat}(hd:o.data=.dict es ep):Turn P w K tg (Itk o a kvs) [it] it (λi h=>h.IsKeyIter it a i kvs.length ep) true where
 mem:=by simp
 obj:=λi h st b hb=>by
  have e:b=it:=by simpa using hb
  subst e;obtain⟨o,e,c,d⟩:=st;exact⟨o,e,λv z=>by rw[d]at z;cases z⟩
 keep:=λi h h' st k=>by
  obtain⟨o,e,r⟩:=st;exact⟨o,k it (by simp) o e,r⟩
 item:=by
  intro X N hw M B Y i pins s σ H E I T st O;subst N hw M;obtain⟨hq,hi⟩:=O;obtain⟨vs,rel,dat⟩:=Dq I hq hd;have ln:=rel.length;rw[ln]at hi;obtain⟨F,f1,f2,G,J,L⟩:=T it (by simp);obtain⟨⟨k,x⟩,hx⟩:∃p,vs[i]?=some p:=⟨vs[i],by simp[hi]⟩;have Q:∃v,kvs[i]?=some (k,v):=by
   have U:(vs.map (·.1))[i]?=some k:=by rw[aF,hx];rfl
   rw[<-rel.keys,aF]at U
   cases D:kvs[i]? with
   |none=>rw[D]at U;cases U
   |some p=>
    rw[D]at U;obtain⟨C,v⟩:=p;have:C=k:=by simpa using U
    subst this;exact⟨v,rfl⟩
  obtain⟨v,Q⟩:=Q;rw[ln]at st;refine wpAny_pyNext_dict_item st dat hx λS h' W Z R=>?_
  have y:=I.turned (t':=s.toks) (λb o hb e=>(R.2 b hb).trans e) F f1 G J L;obtain⟨u,e,c,d⟩:=id Z;exact⟨S,rfl,Fd (s:={s with heap:=h'}) e c d (by decide) ⟨kV k,H,y,Jp W,⟨rfl,k,v,Q,rfl⟩,by rw[ln];exact Z,λb hb=>(T b hb).1⟩⟩
 done:=by
  intro X N hw M B Y i pins s σ H E I T st O;subst N hw M;obtain⟨hq,hi⟩:=O;obtain⟨vs,rel,dat⟩:=Dq I hq hd;have ln:=rel.length;rw[ln]at st hi;obtain⟨F,f1,f2,G,J,L⟩:=T it (by simp);exact wpAny_pyNext_dict_end (I.ok.hs (Y rfl)) st dat (bf hi) λh' A=>⟨rfl,I.turned (t':=s.toks) (λb o hb e=>A b o hb e) F f1 G J L⟩
 self:=λ_ _ _ _ _ st h=>wpAny_pyIter_keyiter st h
def Zd(X:Cx)(tl:TE):TI:=λσ H R=>tl σ H λx H1=>∃a kvs,x=.ref a/\((H1 a=some (.dK kvs)/\∀o,Dm X a->R (Itk o a kvs) (upd H1 a (.frz o (.dK kvs))))\/∃o,H1 a=some (.frz o (.dK kvs))/\R (Itk o a kvs) H1)
def Dr(hl:PE X c tl)(O:X.still=true:=by rfl):PI X tg c (Zd X tl):=by
 intro pins s σ H R I h;refine thn (hl pins s σ H _ I h) λv s1 ⟨x,H1,Z,r1,q1⟩=>?_
 obtain⟨a,kvs,e,q⟩:=q1;subst e
 cases r1;have rd:L2.Rd H1 a (.dK kvs):=q.elim (λz=>.inl z.1) (λ⟨o,z,_⟩=>.inr ⟨o,z⟩);obtain⟨_,lo,vs,rel,Y,es,W,V,S,hd,T⟩:=n_ Z.hok rd;have dat:s1.heap.DictAt (b_ X.prog X.w) a vs W:=⟨Y,es,V,S,hd,T⟩;refine wpAny_pyIter_dict lo dat ?_;have U:L2.Inv X pins σ H1 {s1 with heap:=s1.heap.push {cls:=.type "dict_keyiterator", data:=.fields #[.ref a,.int 0 0,.int vs.length 0,.int W 0]} }:=Z.kept (t':=s1.toks) λb o e=>ae _ e
 have st:(s1.heap.push {cls:=.type "dict_keyiterator", data:=.fields #[.ref a,.int 0 0,.int vs.length 0,.int W 0]}).IsKeyIter s1.heap.objs.size a 0 kvs.length W:=⟨_,ah _ rfl,rfl,by rw[rel.length];rfl⟩;have fr:=Z.hok.fresh (aN _);rcases q with⟨hq,q⟩|⟨o,hq,q⟩
 .refine⟨s1.heap.objs.size,[s1.heap.objs.size],_,_,_,rfl,KR U hq (ae _ V),(vI O <| Gx Y a _ kvs hd),st,λb hb=>?_,q Y (Dp Z hq)⟩;have e:b=s1.heap.objs.size:=by simpa using hb
  subst e;refine Z.fpOk (aN _) ?_;rw[aL (λz=>by rw[z,hq]at fr;cases fr)];exact fr
 .have eq:Y=o:=by
   have:=(Z.hok a _ hq).1;rw[V]at this;exact cG.inj this
  subst eq;refine⟨s1.heap.objs.size,[s1.heap.objs.size],_,_,_,rfl,U,(vI O <| Gx Y a _ kvs hd),st,λb hb=>?_,q⟩;have e:b=s1.heap.objs.size:=by simpa using hb
  subst e;exact Z.fpOk (aN _) fr
section
variable{H:Hp}{kvs:List (Key×V)}
mutual
theorem zp(h:H a=some (.dK kvs)):∀{v:V}{d:D},RA K ok true H v d->RA K ok true (upd H a (.frz o (.dK kvs))) v d
 |_,_,.non=>.non
 |_,_,.bl b=>.bl b
 |_,_,.int i=>.int i
 |_,_,.str x=>.str x
 |_,_,.lst e k q=>.lst (by rwa[aL (cF e h (by intro z;cases z))]) k (tX h q)
 |_,_,.lsk e k q=>.lsk (by
  rcases e with⟨o',e⟩|e
  .exact .inl ⟨o',by rwa[aL (cF e h (by intro z;cases z))]⟩
  .exact .inr e) k (tX h q)
 |_,_,.tup e q=>.tup (by unfold dU;rwa[aL (cF e h (by intro z;cases z))]) (tX h q)
 |_,_,.dic (a:=b) e g k=>by
  by_cases hb:b=a
  .subst hb;have g':=g.upd (o:=.frz o (.dK kvs)) h;rw[h]at e;exact .dik (by rw[aW];injection e with e;rw[e]) g' rfl
  .exact .dic (by rwa[aL hb]) (g.upd h) k
 |_,_,.dik e g k=>.dik (by rwa[aL (cF e h (by intro z;cases z))]) (g.upd h) k
 |_,_,.ins e g q z=>.ins (by rwa[aL (cF e h (by intro z;cases z))]) (by rwa[aL (cF g h (by intro z;cases z))]) (tX h q) z
theorem tX(h:H a=some (.dK kvs)):∀{v:List V}{d:List D},RAs K ok true H v d->RAs K ok true (upd H a (.frz o (.dK kvs))) v d
 |_,_,.nil=>.nil
 |_,_,.cons e q=>.cons (zp h e) (tX h q)
end
mutual
theorem KY(h:H a=some (.frz o (.dK kvs))):∀{v:V}{d:D},RA K ok false H v d->RA K ok false (upd H a (.dK kvs)) v d
 |_,_,.non=>.non
 |_,_,.bl b=>.bl b
 |_,_,.int i=>.int i
 |_,_,.str x=>.str x
 |_,_,.lst e k q=>.lst (by rwa[aL (cF e h (by intro z;cases z))]) k (nD h q)
 |_,_,.lsk e k q=>by cases k
 |_,_,.tup e q=>.tup (by unfold dU;rwa[aL (cF e h (by intro z;cases z))]) (nD h q)
 |_,_,.dic e g k=>.dic (by rwa[aL (cF e h (by intro z;rcases g.or with⟨ks,y⟩|⟨ks,y⟩<;>(rw[y]at z;cases z)))]) (g.imp λ_ _ t=>by unfold dU;rwa[aL (cF t h (by intro z;cases z))]) k
 |_,_,.dik e _ k=>by cases k
 |_,_,.ins e g q z=>.ins (by rwa[aL (cF e h (by intro z;cases z))]) (by rwa[aL (cF g h (by intro z;cases z))]) (nD h q) z
theorem nD(h:H a=some (.frz o (.dK kvs))):∀{v:List V}{d:List D},RAs K ok false H v d->RAs K ok false (upd H a (.dK kvs)) v d
 |_,_,.nil=>.nil
 |_,_,.cons e q=>.cons (KY h e) (nD h q)
end
end
section
variable{X:Cx}{fl:List Fl}{b c iter:Expr}{k:Kd}{f fa fx:FE}{TT:List Nat}{g:FG}
def pF{σ:L2.St}{Q:VK}{t:Nat}{r:List D}{Dl:Addr}{tb:Tb H1}(htg:∀j∈TT,j<t)(R:Rel X.K fl' ⟨H1,H1,λ_=>none,λ_=>[],tb,λ_=>none⟩ ow0 (oJ t ix σ) H1 (iw t ix δ))
 (hl:l.length<=100000) (e3:fD g ft f (iw t ix δ) l=some r) (hD:H1 Dl=none)
 (wk:∀H2,Same H1 H2->∀i:Nat,(∀d,l[i]?=some d->J.go i H2/\∀x H3,J.yld i H2 x H3->Same H2 H3/\RA X.K ok1 true H3 x d)/\(l.length<=i->J.stop i H2))
 (q:∀H2 xs,Same H1 H2->H2 Dl=some (.lst xs)->RAs X.K (λb=>okN H1 b/\b≠Dl) false H2 xs r->Q (.ref Dl) H2):
 ∃W:Nat->Nat->List V->Hp->Prop,(∃m,W 0 m [] (upd H1 Dl (.lst []))) /\
  ∀i m xs H2,W i m xs H2->H2 Dl=some (.lst xs)/\((J.stop i H2/\Q (.ref Dl) H2)\/(J.go i H2/\xs.length<sizeLine/\∀x H3,J.yld i H2 x H3->tDG X.K fl' TT g x (oJ t ix σ) H3 λO H4=>O.drop t=(oJ t ix σ).drop t /\
   tDT X.K fl' ft O H4 λb H5=>if b=true then tD X.K fl' .C f O H5 λv H6=>H6 Dl=some (.lst xs)/\∃m',m'<m/\W (i+1) m' (xs++[v]) (upd H6 Dl (.lst (xs++[v])))else ∃m',m'<m/\W (i+1) m' xs H5)):=by
 let N:Ok:=λb=>okN H1 b/\b≠Dl
 refine⟨λi m xs H2=>m=l.length-i/\H2 Dl=some (.lst xs)/\Same H1 H2/\xs.length<=i/\i<=l.length/\∃ds rest,RAs X.K N false H2 xs ds/\fD g ft f (iw t ix δ) (l.drop i)=some rest/\r=ds++rest,
  ⟨_,rfl,aW,cC hD _,aN _,f9 _,[],r,.nil,by simpa using e3,rfl⟩,?_⟩
 rintro i m xs H2 ⟨rfl,U,s2,E,A,ds,rest,B,Y,rfl⟩;refine⟨U,?_⟩;obtain⟨k,p⟩:=wk H2 s2 i;by_cases S:i<l.length
 .have L:=gP S;rw[L,fD]at Y;refine aQ Y λP e5 Y=>?_
  refine aQ Y λw e6 Y=>?_
  obtain⟨go,s⟩:=k l[i] (aG S);refine .inr ⟨go,uw (bw E (bw A hl)) (by decide),λx H3 hy=>?_⟩;obtain⟨H,r3⟩:=s x H3 hy;have G:=s2.trans H;have Rb:=R.grow G;refine⟨_,_,_,_,P,Rb,r3.imp (λ_ _=>⟨λi z=>(by cases z),λi z=>(by cases z)⟩) (λz=>z),e5,λO u M=>⟨?_,?_⟩⟩
  .apply jk;intro n;rw[iV,iV];exact M (t+n) λz=>absurd (htg _ z) (by lia)
  .refine⟨_,_,P,w,u,e6,λH5 I=>?_⟩
   cases w with
   |false=>
    rw[if_neg eY]at Y ⊢;have Z:=H.trans I;exact⟨l.length-(i+1),by lia,rfl,Z _ _ U,s2.trans Z,by lia,S,ds,rest,B.same Z,Y,rfl⟩
   |true=>
    rw[if_pos rfl]at Y ⊢;refine aQ Y λy e7 Y=>?_
    refine aQ Y λl' e8 Y=>?_
    cases Y;refine⟨_,_,P,y,u.grow I,e7,λv H6 h a=>?_⟩;have Z:=H.trans I;have T:=Z.trans h;refine⟨T _ _ U,l.length-(i+1),by lia,rfl,aW,?_,by rw[aV,jg];lia,S,ds++[y],l',?_,e8,by simp⟩
    .intro b o hb;rw[aL (λz=>by subst z;rw[hD]at hb;cases hb)];exact(s2.trans T) b o hb
    .have nd:¬N Dl:=λz=>z.2 rfl
     have F:=s2.trans Z;have c:RA X.K N false H6 v y:=RA.imp (λb z=>⟨F.free z,λe=>by subst e;rw[okN,Z _ _ U]at z;cases z⟩) (λz=>z) a;exact((B.same T).append (.cons c .nil)).upd (T _ _ U) nd
 .have ed:l.drop i=[]:=iW (by lia);rw[ed,fD]at Y
  cases Y;refine .inl ⟨p (by lia),?_⟩;rw[cA]at q;exact q H2 xs s2 U B
theorem Q6(h:H1 a=some (.frz o (.dK (dkI qs)))):∀H2,Same H1 H2->∀i:Nat,(∀d,(qs.map λq=>(.int q.1:D))[i]?=some d->(Itk o a (dkI qs)).go i H2/\∀x O,(Itk o a (dkI qs)).yld i H2 x O->Same H2 O/\RA K ok1 true O x d)/\((qs.map λq=>(.int q.1:D)).length<=i->(Itk o a (dkI qs)).stop i H2):=by
 intro H2 s2 i;refine⟨λd hd=>?_,λhi=>⟨s2 _ _ h,by simpa using hi⟩⟩;rw[aF]at hd
 cases e:qs[i]? with
 |none=>rw[e]at hd;cases hd
 |some p=>
  rw[e]at hd
  cases hd;have hi:i<qs.length:=by
   rcases jt i qs.length with z|z
   .exact z
   .rw[bf z]at e;cases e
  refine⟨⟨s2 _ _ h,by simpa using hi⟩,λx O Y=>?_⟩;obtain⟨rfl,k,v,Z,rfl⟩:=Y;rw[aF,e]at Z
  cases Z;exact⟨Same.refl _,.int _⟩
def sI(X:Cx)(Q:VK):VK:=λv H2=>Q v H2\/∃a o kvs,Dm X a/\H2 a=some (.frz o (.dK kvs))/\Q v (upd H2 a (.dK kvs))
theorem KZ{σ:L2.St}{H:Hp}{Q:VK}{T:List Str}(U:∀i,i<T.length+ix.length->fl'[i]?=some .A)(O:∀j∈TT,j<T.length)(h:tD X.K fl .FC (dN (sG fx) g ft f T.length ix) σ H Q):
 yJ (Zd X (tD X.K fl .P fx)) (tDG X.K fl' TT g) (tDT X.K fl' ft) (tD X.K fl' .C f) T.length (oJ T.length ix) σ H (sI X Q):=by
 refine bV h λG ow δ d R D q=>?_
 refine aQ D λl B M=>?_
 by_cases N:l.length<=100000
 case neg=>rw[if_neg N]at M;cases M
 rw[if_pos N]at M;refine aQ M λr E e4=>?_
 cases e4;refine aQ B λx e5 e6=>?_
 cases J:n8 x with
 |none=>rw[J]at e6;cases e6
 |some qs=>
 rw[J]at e6
 cases e6;refine⟨G,ow,δ,x,R,e5,λv H1 s1 r1=>?_⟩;have y:=R.grow s1;have Y:=xZ (fl':=fl') T.length ix U y (Same.refl H1);obtain⟨a,rfl,Z⟩:=pC J r1;refine⟨a,dkI qs,rfl,?_⟩;rcases Z with Z|⟨o,Z⟩
 .refine .inl ⟨Z,λo lo Dl hD=>?_⟩;have S:Dl≠a:=λz=>by rw[z,aW]at hD;cases hD
  have L:Tb (upd H1 a (.frz o (.dK (dkI qs)))):=λt F=>by rw[aL (cF (Y.tb t F) Z (by simp))];exact Y.tb t F
  have I:Rel X.K fl' ⟨upd H1 a (.frz o (.dK (dkI qs))),upd H1 a (.frz o (.dK (dkI qs))),λ_=>none,λ_=>[],L,λ_=>none⟩ ow0 (oJ T.length ix σ) (upd H1 a (.frz o (.dK (dkI qs)))) (iw T.length ix δ):=by
   refine⟨Same.refl _,Same.refl _,Y.len,λi b h=>(by cases h),λi j b h=>(by cases h),λi h=>rfl,λi d h1 hn h2=>?_,Y.oo,λi b h=>(by cases h),λi j b h=>(by cases h),λi j b h=>(by cases h),λi h=>rfl,λi d hn h1=>?_,λi u h e=>(by cases e)⟩
   .obtain⟨v,h3,h4⟩:=Y.dat i d h1 hn h2;exact⟨v,h3,zp Z h4⟩
   .have hi:i<T.length+ix.length:=by
     have h2:i<(iw T.length ix δ).length:=by
      rcases jt i (iw T.length ix δ).length with z|z
      .exact z
      .rw[bf z]at h1;cases h1
     unfold iw at h2;simpa using h2
    rw[U i hi]at hn
    cases hn
  refine pF (Q:=sI X Q) O I N E hD (Q6 aW) λH2 xs s2 V rs=>Or.inr ⟨a,o,dkI qs,lo,s2 _ _ aW,?_⟩
  have sm:Same H (upd H2 a (.dK (dkI qs))):=λb u hb=>by
   by_cases z:b=a
   .subst z;have:=s1 _ _ hb;rw[Z]at this;rwa[aW]
   .rw[aL z];exact s2 b u (by rw[aL z];exact s1 b u hb)
  refine q _ _ sm (.inr ⟨Dl,xs,r,rfl,rfl,s1.free (by rw[aL S]at hD;exact hD),by rwa[aL S],?_⟩);refine(nD (s2 _ _ aW) rs).imp (λb z=>⟨?_,z.2⟩) (λz=>z);have W:=z.1;unfold okN at W ⊢;have hb:b≠a:=λw=>by rw[w,aW]at W;cases W
  rw[aL hb]at W;exact s1.free W
 .refine .inr ⟨o,Z,λDl hD=>?_⟩;have I:Rel X.K fl' ⟨H1,H1,λ_=>none,λ_=>[],Y.tb,λ_=>none⟩ ow0 (oJ T.length ix σ) H1 (iw T.length ix δ):=Y;refine pF (Q:=sI X Q) O I N E hD (Q6 Z) λH2 xs s2 V rs=>Or.inl (q _ _ (s1.trans s2) (.inr ⟨Dl,xs,r,rfl,rfl,s1.free hD,V,rs.imp (λb z=>⟨s1.free z.1,z.2⟩) (λz=>z)⟩))
def Q7(hc:X.calm=true)(T Y:List Str)(ix:List Nat)(hi:DE X fl .P iter fx)
 (hg:∀cl C Z H3 fp,DG (blk X (T++Y) scope cl C Z H3 fp) fl' TT tg g) (ht:∀cl C Z H3 fp,PTs (blk X (T++Y) scope cl C Z H3 fp) ifs (tDT X.K fl' ft)) (he:∀cl C Z H3 fp,DE (blk X (T++Y) scope cl C Z H3 fp) fl' .C elt f)
 (hfl:∀i,i<T.length+ix.length->fl'[i]?=some .A:=by decide) (htg:∀j∈TT,j<T.length:=by decide)
 (hB:uE X.N X.env.scope.names scope.names Y ix=true:=by rfl) (hk:scope.kind=.function:=by rfl) (U:∀y∈scope.names,y.2 ≠ .cell:=by decide +kernel)
 (O:∀x∈scope.names,x.2=.local->scope.names.lookup x.1=some .local:=by decide +kernel)
 (hfr:∀x∈scope.names,x.2=.free->x.1∈Y:=by decide +kernel) (hs:∀x,foldedSetIterable iter X.env x=pure x:=by intro _;rfl) (hst:X.still=true:=by rfl):
 DE X fl .FC (.ListComp elt [⟨tg,iter,ifs,0⟩] scope pos) (dN (sG fx) g ft f T.length ix):=by
 intro pins s σ H Q I h;have run:=Ci (g:=tDG X.K fl' TT g) (tt:=tDT X.K fl' ft) (te:=tD X.K fl' .C f) (pos:=pos) hc T Y ix (Dr hi hst) hg ht he hB hk U O hfr hs pins s σ H (sI X Q) I (KZ hfl htg h);refine thn run λv s' ⟨x,H2,V,W,hq⟩=>?_
 rcases hq with hq|⟨a,o,kvs,lo,ha,hq⟩
 .exact⟨x,H2,V,W,hq⟩
 .exact⟨x,_,pD V lo ha,W,hq⟩
theorem Nx(hfx:fl[i]?=some .A)(hN:X.N.Nodup)(hi':X.N[i]?=some x)(hx:X.env.scope.names.lookup x=some .local)(hc:X.calm=true)(T Y:List Str)(ix:List Nat)(hi:DE X fl .P iter fx)
 (hg:∀cl C s3 H3 fp,DG (blk X (T++Y) scope cl C s3 H3 fp) fl' TT tg g) (ht:∀cl C s3 H3 fp,PTs (blk X (T++Y) scope cl C s3 H3 fp) ifs (tDT X.K fl' ft)) (he:∀cl C s3 H3 fp,DE (blk X (T++Y) scope cl C s3 H3 fp) fl' .C elt f)
 (hfl:∀i,i<T.length+ix.length->fl'[i]?=some .A:=by decide) (htg:∀j∈TT,j<T.length:=by decide)
 (hsw:swapsWith (.ListComp elt [⟨tg,iter,ifs,0⟩] scope pos) (some (.Name x m)) spos.line X.env=pure true:=by rfl)
 (hB:uE X.N X.env.scope.names scope.names Y ix=true:=by rfl) (hk:scope.kind=.function:=by rfl) (U:∀y∈scope.names,y.2 ≠ .cell:=by decide +kernel)
 (O:∀x∈scope.names,x.2=.local->scope.names.lookup x.1=some .local:=by decide +kernel)
 (hfr:∀x∈scope.names,x.2=.free->x.1∈Y:=by decide +kernel) (hs:∀x,foldedSetIterable iter X.env x=pure x:=by intro _;rfl) (hst:X.still=true:=by rfl):
 DS1 X fl (.Assign [.Name x m] (.ListComp elt [⟨tg,iter,ifs,0⟩] scope pos) spos) (bY i (dN (sG fx) g ft f T.length ix)):=by
 intro pins s σ H Z I h;refine bV h λG ow δ o R W q=>?_
 unfold bY at W;by_cases V:i<δ.length
 case neg=>rw[if_neg V]at W;cases W
 rw[if_pos V]at W;refine aQ W λd L M=>?_
 cases M
 let F:Ends:=⟨λσ' H'=>Z.nx σ' H'\/∃a o kvs,Dm X a/\H' a=some (.frz o (.dK kvs))/\Z.nx σ' (upd H' a (.dK kvs)),Z.rt,Z.bk,Z.ct⟩
 have J:=KZ (X:=X) (fl:=fl) (fl':=fl') (TT:=TT) (ix:=ix) (T:=T) (σ:=σ) (H:=H) (fx:=fx) (g:=g) (ft:=ft) (f:=f) (Q:=λv H'=>Z.nx (σ.set i (some v)) H') hfl htg ⟨G,ow,δ,d,R,L,λv H' s r=>q ow _ H' ((R.grow s).setA hfx (qt R V) ((r.FC_F R).F_A R))⟩;have run:=Cj (g:=tDG X.K fl' TT g) (tt:=tDT X.K fl' ft) (te:=tD X.K fl' .C f) (pos:=pos) hN hi' hx hc T Y ix (Dr hi hst) hg ht he hsw hB hk U O hfr hs pins s σ H F I J;refine thn run λfw s' hq=>?_
 cases fw with
 |next=>
  obtain⟨σ',H',S,h'⟩:=hq;rcases h' with h'|⟨a,o,kvs,lo,ha,h'⟩
  .exact⟨σ',H',S,h'⟩
  .exact⟨σ',_,pD S lo ha,h'⟩
 |brk=>exact hq
 |cont=>exact hq
 |ret u=>exact hq
end
def Gy(h:k (s.heap.get? a) s):wpAny M A (loadIfAlive a) k c s:=λ_ _ _=>h
abbrev Af(h:eg)(z O TI TO:Addr)(b:Bool):Prop:=
 h.get? z=some {cls:=.type "zip", dict:=none,data:=.fields #[rawInt O,.bool b,.bool false,.ref TI,.ref TO],slots:=#[]}
section
variable{prog:dA}{E:Value->dv->Prop}
theorem zq(hz:Af s.heap z O c k m)(h0:s.heap.get? O=some o0)(U:∀h',Af h' z O c k true->eR z s.heap h'->q false {s with heap:=h'}):
 wpAny (model prog w) A (Builtin.SmallTypes.ownedTupleIsFree (.ref z)) q E s:=by
 refine aa (aw hz rfl (x:=rawInt O) rfl ?_);refine aa (Gy ?_);rw[dH,h0];refine aa (aw hz rfl (x:=.bool m) rfl ?_)
 cases m with
 |true=>
  exact ag (U s.heap hz ⟨rfl,λ_ _=>rfl⟩)
 |false=>
  refine aa (wpAny_setField_rec hz (by simp) λX Z Y=>ag (U X Z Y))
def Q8{x:Value}{o0:Obj}(D:gc z k m i1 i2 l1 l2)
 (hz:Af s.heap z a0 k m t) (h0:s.heap.get? a0=some o0) (hTI:eV s.heap k (.ref i1) (.ref i2))
 (h1:s.heap.IsListIter i1 l1 k1) (h2:s.heap.IsListIter i2 l2 k2) (hl1:s.heap.IsList l1 q) (O:s.heap.IsList l2 ys) (hx:q[k1]?=some x) (hy:ys[k2]?=some r)
 (hQ:∀h',Af h' z a0 k m true->h'.IsListIter i1 l1 (k1+1)->h'.IsListIter i2 l2 (k2+1)->eV h' s.heap.objs.size x r ->
  (∀c o,c≠z->c≠i1->c≠i2->s.heap.get? c=some o->h'.get? c=some o)->Q (.ref s.heap.objs.size) {s with heap:=h'}):
 wpAny (model prog w) A (eT.«zip.__next__» ⟨[.ref z],[]⟩) (λfin s'=>∃v,fin=.done (.ret v)/\Q v s') E s:=by
 show wpAny _ _ (field (.ref z) 2 >>= _) _ _ _;refine aa (aw hz rfl (x:=.bool false) rfl ?_);refine aa (aw hz rfl (x:=.ref k) rfl ?_);refine aa (a_ hTI rfl ?_);refine aa (zq hz h0 λK U Z=>?_);simp only[cN,if_false];refine aa ?_;simp only[<-ux,qY,List.forIn_nil];refine aa (aa (ax ?_));refine aa (ci (h1.extBut Z.extBut D.i1z) (hl1.extBut Z.extBut D.l1z) hx λL S Y=>ag (ag ?_));refine aa (aa (ax ?_));refine aa (ci ((h2.extBut Z.extBut D.i2z).extBut Y.extBut D.i12.symm) ((O.extBut Z.extBut D.l2z).extBut Y.extBut D.l2i1) hy λW T X=>ag (ag (ag ?_)));show wpAny _ _ (newTuple [x,r] >>= _) _ _ _;refine aa (wpAny_newTuple (ag ⟨_,rfl,?_⟩));have R:W.objs.size=s.heap.objs.size:=by rw[X.1,Y.1,Z.1]
 have k3:∀c o,c≠z->c≠i1->c≠i2->s.heap.get? c=some o->W.get? c=some o:=λc o M N P e=>X.extBut _ _ P (Y.extBut _ _ N (Z.extBut _ _ M e))
 have V:=X.extBut _ _ D.i2z.symm (Y.extBut _ _ D.i1z.symm U);have up:∀c o,W.get? c=some o->(W.push {cls:=.type "tuple", data:=.seq #[x,r]}).get? c=some o:=λc o e=>ae _ e
 rw[R];refine hQ _ (up _ _ V) (((S.extBut X.extBut D.i12)).at λo e=>up _ o e) (T.at λo e=>up _ o e) ?_ λc o M N P e=>up c o (k3 c o M N P e)
 rw[<-R];exact ah _ rfl
theorem Q9(hh:A.handled=none)(D:gc z k m i1 i2 l1 l2)
 (hz:Af s.heap z a0 k m r) (h0:s.heap.get? a0=some o0) (hTI:eV s.heap k (.ref i1) (.ref i2))
 (h1:s.heap.IsListIter i1 l1 k1) (h2:s.heap.IsListIter i2 l2 k2) (O:s.heap.IsList l1 q) (hl2:s.heap.IsList l2 ys) (U:q[k1]?=none\/ys[k2]?=none)
 (hE:∀h' e,(∀c o,c≠z->c≠i1->c≠i2->s.heap.get? c=some o->h'.get? c=some o)->(∃o,h'.get? e=some o/\o.cls=.type "StopIteration")->E (.ref e) {s with heap:=h'}):
 wpAny (model prog w) A (eT.«zip.__next__» ⟨[.ref z],[]⟩) t E s:=by
 show wpAny _ _ (field (.ref z) 2 >>= _) _ _ _;refine aa (aw hz rfl (x:=.bool false) rfl ?_);refine aa (aw hz rfl (x:=.ref k) rfl ?_);refine aa (a_ hTI rfl ?_);refine aa (zq hz h0 λM T Z=>?_);simp only[cN,if_false];refine aa ?_;simp only[<-ux,qY,List.forIn_nil];refine aa (aa (ax ?_))
 cases hx:q[k1]? with
 |none=>
  refine aa (wpAny_nextOf_list_end hh (h1.extBut Z.extBut D.i1z) (O.extBut Z.extBut D.l1z) hx λX e Y S=>?_);exact hE X e (λc o N P _ x=>Y _ _ P (Z.extBut _ _ N x)) S
 |some x=>
  have L:ys[k2]?=none:=by rcases U with h|h;rw[hx]at h;cases h;exact h
  refine aa (ci (h1.extBut Z.extBut D.i1z) (O.extBut Z.extBut D.l1z) hx λX R Y=>ag (ag ?_));refine aa (aa (ax ?_));refine aa (wpAny_nextOf_list_end hh ((h2.extBut Z.extBut D.i2z).extBut Y.extBut D.i12.symm) ((hl2.extBut Z.extBut D.l2z).extBut Y.extBut D.l2i1) L λV e W S=>?_);exact hE V e (λc o N P K x=>W _ _ K (Y.extBut _ _ P (Z.extBut _ _ N x))) S
def Ny(D:gc z k m i1 i2 l1 l2)
 (hz:Af s.heap z Z k m B) (h0:s.heap.get? Z=some o0) (Y:eV s.heap k (.ref i1) (.ref i2))
 (h1:s.heap.IsListIter i1 l1 k1) (h2:s.heap.IsListIter i2 l2 k2) (U:s.heap.IsList l1 q) (O:s.heap.IsList l2 ys) (hx:q[k1]?=some r) (hy:ys[k2]?=some t)
 (hQ:∀h',Af h' z Z k m true->h'.IsListIter i1 l1 (k1+1)->h'.IsListIter i2 l2 (k2+1)->eV h' s.heap.objs.size r t ->
  (∀c o,c≠z->c≠i1->c≠i2->s.heap.get? c=some o->h'.get? c=some o)->M (some (.ref s.heap.objs.size)) {s with heap:=h'}):
 wpAny (model prog w) A (pyNext (.ref z)) M E s:=by
 have X:s.TypeIs (.ref z) "zip" := ⟨_,hz,rfl⟩;exact aa (bz (aT (name:=eA "__next__") X ck
  (bd ck X F.entry_zip_next (Q8 D hz h0 Y h1 h2 U O hx hy λh' a1 a2 a3 a4 a5=>ag (hQ h' a1 a2 a3 a4 a5)) (F.args_zip_next_1 _))))
def Nz{b:Bool}(hh:A.handled=none)(D:gc z k m i1 i2 l1 l2)
 (hz:Af s.heap z a0 k m b) (h0:s.heap.get? a0=some o0) (Z:eV s.heap k (.ref i1) (.ref i2))
 (h1:s.heap.IsListIter i1 l1 k1) (h2:s.heap.IsListIter i2 l2 k2) (Y:s.heap.IsList l1 q) (U:s.heap.IsList l2 ys) (O:q[k1]?=none\/ys[k2]?=none)
 (hQ:∀h',(∀c o,c≠z->c≠i1->c≠i2->s.heap.get? c=some o->h'.get? c=some o)->r none {s with heap:=h'}):wpAny (model prog w) A (pyNext (.ref z)) r E s:=by
 have X:s.TypeIs (.ref z) "zip" := ⟨_,hz,rfl⟩;refine aa (bz (aT (name:=eA "__next__") X ck
  (bd ck X F.entry_zip_next (Q9 hh D hz h0 Z h1 h2 Y U O λh' e V S=>?_) (F.args_zip_next_1 _))))
 obtain⟨o,W,R⟩:=S;refine aa (wpAny_isInstance (T := "StopIteration") (b:=true) ⟨o,W,R⟩ isSubtype_stop ?_);exact ag (hQ _ V)
end
structure LZ(h:eg)(base:Nat)(z TI TO i1 i2 l1 l2 S:Addr)(xs ys:Array Value)(i:Nat)(acc:Array Value):Prop where
 ti:eV h TI (.ref i1) (.ref i2)
 j1:h.IsListIter i1 l1 i
 j2:h.IsListIter i2 l2 i
 q1:h.IsList l1 xs
 q2:h.IsList l2 ys
 zz:(i=0/\IsZip h z TI TO .none/\∃a b,eV h TO a b)\/∃a0 b o0,base<=a0/\Af h z a0 TI TO b/\h.get? a0=some o0
 sz:base<=h.objs.size
 al:acc.size=i
 ac:∀j,j<i->∃a x y,acc[j]?=some (.ref a)/\base<=a/\xs[j]?=some x/\ys[j]?=some y/\eV h a x y
 inj:∀(j j':Nat)(a:Addr),acc[j]?=some (.ref a)->acc[j']?=some (.ref a)->j=j'
 ss:∃c,h.get? S=some {cls:=.type "list", dict:=none,data:=.seq acc c,slots:=#[]}
section
variable{prog:dA}{R:Result->dv->Prop}{z TI TO i1 i2 l1 l2 S:Addr}{xs ys:Array Value}{base:Nat}
theorem VG(hh:A.in1.handled=none)(D:gc z TI TO i1 i2 l1 l2)(res:Value)(hb:∀c,c∈[z,TI,TO,i1,i2,l1,l2,S]->c<base)(hS:S∉[z,TI,TO,i1,i2,l1,l2])(hn:xs.size<=sizeLine):
 ∀(k i:Nat)(s:dv)(acc:Array Value),min xs.size ys.size-i=k->i<=min xs.size ys.size->LZ s.heap base z TI TO i1 i2 l1 l2 S xs ys i acc ->
 (∀h' O,(∀c o,c∉[z,TO,i1,i2,S]->s.heap.get? c=some o->h'.get? c=some o)->O.size=min xs.size ys.size ->
  (∀j,j<min xs.size ys.size->∃a x y,O[j]?=some (.ref a)/\base<=a/\xs[j]?=some x/\ys[j]?=some y/\eV h' a x y)->(∀(j j':Nat)(a:Addr),O[j]?=some (.ref a)->O[j']?=some (.ref a)->j=j') ->
  (∃c,h'.get? S=some {cls:=.type "list", dict:=none,data:=.seq O c,slots:=#[]})->R (.ok (.ret res)) {s with heap:=h'}) ->
 codeAny (model prog w) A (.builtin "list.extend.loop" ⟨[.ref S,.ref z,res],[]⟩) R s:=by
 have J:S≠z:=λe=>hS (by simp[e])
 have h:S≠TI:=λe=>hS (by simp[e])
 have B:S≠TO:=λe=>hS (by simp[e])
 have H:S≠i1:=λe=>hS (by simp[e])
 have I:S≠i2:=λe=>hS (by simp[e])
 have l:S≠l1:=λe=>hS (by simp[e])
 have m:S≠l2:=λe=>hS (by simp[e])
 have ne:∀c,c∈[z,TI,TO,i1,i2,l1,l2,S]->∀a:Addr,base<=a->a≠c:=λc Y a ha q=>dG.mpr ha (by rw[q];exact hb c Y)
 intro k
 induction k with
 |zero=>
  intro i s acc hk hi L g;have hin:i=min xs.size ys.size:=by lia
  have P:xs[i]?=none\/ys[i]?=none:=by
   rcases Nat.le_total xs.size ys.size with z|z
   .exact .inl (dZ (by lia))
   .exact .inr (dZ (by lia))
  refine bb F.entry_extend_loop ?_;rw[aI cB _];have T:∀h',(∀c o,c≠z->c≠TO->c≠i1->c≠i2->s.heap.get? c=some o->h'.get? c=some o)->R (.ok (.ret res)) {s with heap:=h'}:=λh' X=>by
   have up:=λa o ha e=>X a o (ne z (by simp) _ ha) (ne TO (by simp) _ ha) (ne i1 (by simp) _ ha) (ne i2 (by simp) _ ha) e
   obtain⟨c,Y⟩:=L.ss;have V:=X S _ J B H I Y;refine g h' acc (λc o Y e=>X c o (λq=>Y (by simp[q])) (λq=>Y (by simp[q])) (λq=>Y (by simp[q])) (λq=>Y (by simp[q])) e) (by rwa[L.al]) (λj t=>?_) L.inj ⟨c,V⟩
   .obtain⟨a,x,y,h1,h2,h3,h4,h5⟩:=L.ac j (by lia);exact⟨a,x,y,h1,h2,h3,h4,up a _ h2 h5⟩
  rcases L.zz with⟨E,M,a,b,K⟩|⟨Q,b,N,_,M,E⟩
  .exact aa (wpAny_pyNext_zip_end hh D M L.ti K L.j1 L.j2 L.q1 L.q2 P λh' X=>ag (T h' X))
  .exact aa (Nz hh D M E L.ti L.j1 L.j2 L.q1 L.q2 P λh' X=>ag (T h' λc o c1 _ c3 c4 e=>X c o c1 c3 c4 e))
 |succ k ih=>
  intro i s acc hk hi L g;have hlt:i<min xs.size ys.size:=by lia
  obtain⟨x,hx⟩:∃x,xs[i]?=some x:=⟨_,jA (by lia)⟩;obtain⟨y,p⟩:∃y,ys[i]?=some y:=⟨_,jA (by lia)⟩;refine bb F.entry_extend_loop ?_;rw[aI cB _];show wpAny _ A.in1 (pyNext (.ref z) >>= _) _ _ s;have step:∀(h':eg),(∃Q b N,base<=Q/\Af h' z Q TI TO b/\h'.get? Q=some N)->h'.IsListIter i1 l1 (i+1)->h'.IsListIter i2 l2 (i+1)->eV h' s.heap.objs.size x y ->
   (∀c o,c≠z->c≠TO->c≠i1->c≠i2->s.heap.get? c=some o->h'.get? c=some o) ->
   wpAny (model prog w) A.in1 (updateSeq S (·.push (.ref s.heap.objs.size)) >>= λ_=>again (.builtin "list.extend.loop" ⟨[.ref S,.ref z,res],[]⟩)) (λT s'=>match T with | .done f=>R (.ok f) s' | .again c'=>c'.quiet=true/\codeAny (model prog w) A c' R s') (λe s'=>R (.error e) s') {s with heap:=h'}:=λh' g1 g3 v G W=>by
   obtain⟨c,Y⟩:=L.ss;have V:=W S _ J B H I Y;have up:∀a o,base<=a->s.heap.get? a=some o->h'.get? a=some o:=λa o ha e=>W a o (ne z (by simp) _ ha) (ne TO (by simp) _ ha) (ne i1 (by simp) _ ha) (ne i2 (by simp) _ ha) e
   have Z:∀b o,b≠S->h'.get? b=some o->(h'.update S (eI (·.push (.ref s.heap.objs.size)))).get? b=some o:=λb o hb e=>(am _ _ (dL hb)).trans e
   refine aa ?_;refine bg V rfl (ag ⟨bc cB _,ih (i+1) _ (acc.push (.ref s.heap.objs.size)) (by lia) (by lia) ⟨?_,?_,?_,?_,?_,?_,?_,?_,?_,?_,?_⟩ λd O C e2 e3 e4 e5=>?_⟩)
    (by rw[L.al];lia) (by show(acc.push _).size<=sizeLine+1;rw[Array.size_push,L.al];lia)
   .exact Z _ _ (dL h) (W _ _ D.TIz D.TITO D.TIi1 D.TIi2 L.ti)
   .exact g3.at λo e=>Z _ o (dL H) e
   .exact v.at λo e=>Z _ o (dL I) e
   .obtain⟨o,n,r⟩:=L.q1;exact⟨o,Z _ _ (dL l) (W _ _ D.l1z D.l1TO D.l1i1 D.l1i2 n),r⟩
   .obtain⟨o,n,r⟩:=L.q2;exact⟨o,Z _ _ (dL m) (W _ _ D.l2z D.l2TO D.l2i1 D.l2i2 n),r⟩
   .obtain⟨Q,b,N,k1,k2,k3⟩:=g1;exact .inr ⟨Q,b,N,k1,Z _ _ (dL J) k2,Z _ _ (ne S (by simp) _ k1) k3⟩
   .show base<=(h'.update S _).objs.size;rw[br];exact bw L.sz (fU (af G))
   .rw[Array.size_push,L.al]
   .intro j t;by_cases q:j=i
    .subst q;exact⟨_,x,y,by rw[<-L.al];simp,L.sz,hx,p,Z _ _ (ne S (by simp) _ L.sz) G⟩
    .obtain⟨a,x',y',k1,k2,k3,k4,k5⟩:=L.ac j (by lia);refine⟨a,x',y',?_,k2,k3,k4,Z _ _ (ne S (by simp) _ k2) (up a _ k2 k5)⟩;rw[Array.getElem?_push_lt (by rw[L.al];lia)];rw[jA (by rw[L.al];lia)]at k1;exact k1
   .have lt:∀(j:Nat)(a:Addr),acc[j]?=some (.ref a)->a<s.heap.objs.size/\j<i:=λj a e=>by
     have t:j<i:=by
      rcases jt j acc.size with q|q
      .rw[L.al]at q;exact q
      .rw[dZ q]at e;cases e
     obtain⟨a',x',y',k1,k2,k3,k4,k5⟩:=L.ac j t;rw[e]at k1
     cases k1;exact⟨af k5,t⟩
    have cs:∀(j:Nat)(a:Addr),(acc.push (.ref s.heap.objs.size))[j]?=some (.ref a)->(acc[j]?=some (.ref a))\/(j=i/\a=s.heap.objs.size):=λj a e=>by
     rw[Array.getElem?_push]at e;by_cases q:j=acc.size
     .rw[if_pos q]at e
      cases e;exact .inr ⟨by rw[q,L.al],rfl⟩
     .rw[if_neg q]at e;exact .inl e
    intro j j' a e e';rcases cs j a e with q|⟨q,r⟩<;>rcases cs j' a e' with u|⟨u,r'⟩
    .exact L.inj j j' a q u
    .exact absurd (lt j a q).1 (by rw[r'];exact dB _)
    .exact absurd (lt j' a u).1 (by rw[r];exact dB _)
    .rw[q,u]
   .exact⟨_,ar _ V rfl⟩
   .exact g d O (λc o Y e=>C c o Y (Z c o (λq=>Y (by simp[q])) (W c o (λq=>Y (by simp[q])) (λq=>Y (by simp[q])) (λq=>Y (by simp[q])) (λq=>Y (by simp[q])) e))) e2 e3 e4 e5
  rcases L.zz with⟨E,M,a,b,K⟩|⟨Q,b,N,U,M,E⟩
  .refine aa (wpAny_pyNext_zip_item D M L.ti K L.j1 L.j2 L.q1 L.q2 hx p λh' g1 g2 g3 v G g6 W=>?_);exact step h' ⟨s.heap.objs.size,false,_,L.sz,g1,G⟩ g3 v G W
  .refine aa (Ny D M E L.ti L.j1 L.j2 L.q1 L.q2 hx p λh' g1 g3 v G W=>?_);exact step h' ⟨Q,true,N,U,g1,W Q N (ne z (by simp) _ U) (ne i1 (by simp) _ U) (ne i2 (by simp) _ U) E⟩ g3 v G λc o c1 _ c3 c4 e=>W c o c1 c3 c4 e
end
def Jq:typeLookup (.type "zip") "__len__"=pure none:=by rw[cq,bv];kernel_rfl
def Gz:typeLookup (.type "zip") "__length_hint__"=pure none:=by rw[cq,bv];kernel_rfl
section
variable{prog:dA}{E:Value->dv->Prop}
def Q_(O:s.TypeIs (.ref z) "zip")(h:c true s):wpAny (model prog w) A (Builtin.List.listLengthHint (.ref z)) c E s:=by
 refine aa (cm O Jq ?_);exact aa (cm O Gz (ag h))
def Ra{xs:Array Value}(hh:A.handled=none)(D:gc z k m i1 i2 l1 l2)(hz:IsZip s.heap z k m .none)(hTI:eV s.heap k (.ref i1) (.ref i2))(hTO:eV s.heap m t q0)
 (h1:s.heap.IsListIter i1 l1 0) (h2:s.heap.IsListIter i2 l2 0) (hl1:s.heap.IsList l1 xs) (O:s.heap.IsList l2 ys) (hn:xs.size<=sizeLine)
 (hQ:∀h' acc c,(∀c o,c∉[z,m,i1,i2]->s.heap.get? c=some o->h'.get? c=some o)->acc.size=min xs.size ys.size ->
  (∀j,j<min xs.size ys.size->∃t x y,acc[j]?=some (.ref t)/\s.heap.objs.size<t/\xs[j]?=some x/\ys[j]?=some y/\eV h' t x y)->(∀(j j':Nat)(t:Addr),acc[j]?=some (.ref t)->acc[j']?=some (.ref t)->j=j') ->
  h'.get? s.heap.objs.size=some {cls:=.type "list", dict:=none,data:=.seq acc c,slots:=#[]}->Q (.ref s.heap.objs.size) {s with heap:=h'}):
 wpAny (model prog w) A (call (.type "list") [.ref z]) Q E s:=by
 refine callType_codes (Q₁:=λobj Y=>obj=.ref s.heap.objs.size/\Y={s with heap:=s.heap.push {cls:=.type "list", data:=.seq #[]} }) PySem.F.called_list (PySem.F.typeCall_list_1 _) PySem.F.entry_list_init (code_list_new _ ⟨rfl,rfl⟩) λobj Y g=>?_
 obtain⟨rfl,rfl⟩:=g;have N:(s.heap.push {cls:=.type "list", data:=.seq #[]}).get? s.heap.objs.size=some {cls:=.type "list", data:=.seq #[]}:=ah _ rfl;refine⟨⟨_,N,rfl⟩,PySem.F.args_list_init_2 _ _,?_⟩;refine aa ?_;refine aa (a_ N rfl (ag ?_));refine aa (bg N rfl ?_);have U:=ar (eI (λ_=>(#[]:Array Value))) N rfl;refine aa (cE ?_);have old:∀c o,s.heap.get? c=some o->c≠s.heap.objs.size:=λc o e=>bh (af e)
 have k2:∀c o,s.heap.get? c=some o->((s.heap.push {cls:=.type "list", data:=.seq #[]}).update s.heap.objs.size (eI (λ_=>(#[]:Array Value)))).get? c=some o:=λc o e=>
  (am _ _ (dL (old c o e))).trans (ae _ e)
 have W:((s.heap.push {cls:=.type "list", data:=.seq #[]}).update s.heap.objs.size (eI (λ_=>(#[]:Array Value)))).objs.size=s.heap.objs.size+1:=by rw[br,bP]
 generalize (s.heap.push {cls:=.type "list", data:=.seq #[]}).update s.heap.objs.size (eI (λ_=>(#[]:Array Value)))=M at U k2 W;refine aa (da (T := "zip") ⟨_,k2 _ _ hz,rfl⟩ ?_);have v:f8 (.ref s.heap.objs.size) (.ref z)=false:=by simp[f8,dL (old z _ hz)]
 have B:(fA "zip"==fA "list")=false:=by decide
 have C:(fA "zip"==fA "tuple")=false:=by decide
 simp only[v,B,C,Bool.or_false,cN,if_false];refine aa (wpAny_pyIter_zip (k2 _ _ hz) ?_);refine aa (ax (Q_ ⟨_,k2 _ _ hz,rfl⟩ ?_));rw[if_pos (Bool.true_or _)];refine aa (cw ?_);refine aa ?_;refine aa (bg U rfl ?_);have R:=ar (eI (·.push d5)) U rfl;refine bg (hz:=by seq_fits) R rfl ?_;have S:=ar (eI (·.pop)) R rfl;have Z:∀c o,s.heap.get? c=some o->((M.update s.heap.objs.size (eI (·.push d5))).update s.heap.objs.size (eI (·.pop))).get? c=some o:=λc o e=>
  (am _ _ (dL (old c o e))).trans ((am _ _ (dL (old c o e))).trans (k2 c o e))
 have X:((M.update s.heap.objs.size (eI (·.push d5))).update s.heap.objs.size (eI (·.pop))).objs.size=s.heap.objs.size+1:=by rw[br,br,W]
 generalize (M.update s.heap.objs.size (eI (·.push d5))).update s.heap.objs.size (eI (·.pop))=hq at S Z X;have lt:∀c∈[z,k,m,i1,i2,l1,l2],c<s.heap.objs.size:=λc V=>by
  simp only[aC,dD,or_false]at V;rcases V with rfl|rfl|rfl|rfl|rfl|rfl|rfl
  .exact af hz
  .exact af hTI
  .exact af hTO
  .obtain⟨o,e,_⟩:=h1;exact af e
  .obtain⟨o,e,_⟩:=h2;exact af e
  .obtain⟨o,e,_⟩:=hl1;exact af e
  .obtain⟨o,e,_⟩:=O;exact af e
 refine ag ⟨bc PySem.F.plain_extend_loop _,VG (base:=s.heap.objs.size+1) (A:=A.in1) (xs:=xs) (ys:=ys) hh D .none (λc V=>?_) (λV=>dB _ (lt _ V)) hn _ 0 _ #[] rfl (f9 _) ⟨Z _ _ hTI,h1.at λo e=>Z _ o e,h2.at λo e=>Z _ o e,?_,?_,.inl ⟨rfl,Z _ _ hz,t,q0,Z _ _ hTO⟩,by rw[X];exact aN _,rfl,λj H=>absurd H (Nat.not_lt_zero _),λj j' c e=>by simp at e,⟨_,S⟩⟩ λh' P I f1 f2 G J=>?_⟩
 .have K:c∈[z,k,m,i1,i2,l1,l2]\/c=s.heap.objs.size:=by
   simp only[aC,dD,or_false]at V ⊢;rcases V with h|h|h|h|h|h|h|h<;>simp[h]
  rcases K with h|h
  .exact j4 (lt c h)
  .rw[h];exact gA _
 .obtain⟨o,L,r⟩:=hl1;exact⟨o,Z _ _ L,r⟩
 .obtain⟨o,L,r⟩:=O;exact⟨o,Z _ _ L,r⟩
 .obtain⟨c,J⟩:=J;refine⟨rfl,hQ h' P c (λd o hd e=>I d o (λq=>?_) (Z d o e)) f1 f2 G J⟩;simp only[aC,dD,or_false]at q hd;rcases q with q|q|q|q|q
  .exact hd (.inl q)
  .exact hd (.inr (.inl q))
  .exact hd (.inr (.inr (.inl q)))
  .exact hd (.inr (.inr (.inr q)))
  .exact old d o e q
end
def Rc(I:L2.Inv X c σ H s)(k:∀b u,s.heap.get? b=some u->m.get? b=some u)(hb:∀b,b<s.heap.objs.size->H' b=H b)(hok:HOk X.prog X.w H' m):
 L2.Inv X c σ H' {s with heap:=m,toks:=t'}:=I.un {
 keep:=λb u q _ _ _=>k b u q
 slot:=λb u q _ _ _=>⟨u.slots,k b u q⟩
 free:=λb u q n _=>by rwa[hb b (af q)]
 there:=λb u q _=>⟨u,k b u q⟩
 tups:=λb xs q=>by rwa[hb b (I.hok.lt q)]
 frzs:=λb u xs q=>by rwa[hb b (I.hok.lt q)]
 tbls:=λb q p e=>by rw[hb b (I.hok.lt e)];exact e} hok
theorem Xr{P:Nat->Addr->Int->Int->Prop}:∀n,(∀j,j<n->∃a i k,P j a i k)->∃ts:List (Addr×Int×Int),ts.length=n/\∀j t,ts[j]?=some t->P j t.1 t.2.1 t.2.2
 |0,_=>⟨[],rfl,λj t h=>by simp at h⟩
 |n+1,h=>by
  obtain⟨ts,h1,h2⟩:=Xr n λj Y=>h j (by lia)
  obtain⟨a,i,k,X⟩:=h n (by lia);refine⟨ts++[(a,i,k)],by simp[h1],λj t e=>?_⟩;by_cases Y:j<ts.length
  .rw[bU Y]at e;exact h2 j t e
  .rw[bT (by lia)]at e;have Z:j-ts.length=0:=by
    rcases uy (j-ts.length)with z|z
    .exact z
    .rw[bf (by simp;lia)]at e;cases e
   rw[Z]at e
   cases e;rwa[show j=n by lia]
noncomputable def Ds(H:Hp)(S:Addr)(vs:List V)(ts:List (Addr×Int×Int)):Hp:=λb=>if b=S then some (.lst vs)else match ts.find? (λt=>decide (t.1=b))with
 |some t=>some (.tup [.int t.2.1,.int t.2.2])
 |none=>H b
def Rf : Ds H S vs ts S=some (.lst vs):=by unfold Ds;rw[if_pos rfl]
theorem Rg(hi:∀(j j':Nat)(t t':Addr×Int×Int),ts[j]?=some t->ts[j']?=some t'->t.1=t'.1->j=j')(O:t∈ts)(U:t.1≠S):Ds H S vs ts t.1=some (.tup [.int t.2.1,.int t.2.2]):=by
 unfold Ds;rw[if_neg U]
 cases e:ts.find? (λu=>decide (u.1=t.1))with
 |none=>
  have:=m9.mp e t O;simp at this
 |some t'=>
  have h1:=nP e;have h2:=of_decide_eq_true (List.find?_some (p:=λu:Addr×Int×Int=>decide (u.1=t.1)) e);obtain⟨j,Y⟩:=gZ O;obtain⟨j',Z⟩:=gZ h1;have:=hi j j' t t' Y Z h2.symm;subst this;rw[Y]at Z
  cases Z;rfl
def Rh(h1:b≠S)(h2:∀t∈ts,t.1≠b):Ds H S vs ts b=H b:=by
 unfold Ds;rw[if_neg h1,m9.mpr λt Z=>by simp[h2 t Z]]
theorem zu:∀{l:List D}{ns:List Int},j8 l=some ns->l=ns.map .int
 |[],_,e=>by cases e;rfl
 |d::r,ns,e=>by
  cases d<;>first|(cases e;done)|skip
  rename_i i;unfold j8 at e
  cases Z:j8 r with
  |none=>rw[Z]at e;cases e
  |some m=>
   rw[Z]at e
   cases e;rw[aD,zu Z]
theorem K1{α:Type}{ok:Ok}(f:α->V)(g:α->D):∀l:List α,(∀a∈l,RA K ok pl H (f a) (g a))->RAs K ok pl H (l.map f) (l.map g)
 |[],_=>.nil
 |a::l,h=>.cons (h a au) (K1 f g l λb hb=>h b (aA _ hb))
section
variable{X:Cx}{fl:List Fl}{a b:Expr}{f g:FE}
theorem VH(ha:DE X fl .P a f)(hb:DE X fl .P b g)(hc:X.still=true)(hg:Gl X "list")(hm:X.mg "list"=none)(hg2:Gl X "zip")(hm2:X.mg "zip"=none)
 (he:starEach [a,b] X.env=(false,eval a X.env)::starEach [b] X.env:=by rfl) (heb:starEach [b] X.env=(false,eval b X.env)::starEach [] X.env:=by rfl) (hpl:(backTo pos2 (starEach [b] X.env)).any (·.1)=false:=by rfl)
 (he2:starEach [.Call (.Name "zip" p2) [a,b] [] pos2] X.env=(false,eval (.Call (.Name "zip" p2) [a,b] [] pos2) X.env)::starEach [] X.env:=by rfl) (hpl2:(backTo pos (starEach [] X.env)).any (·.1)=false:=by rfl):
 DE X fl .FC (.Call (.Name "list" p) [.Call (.Name "zip" p2) [a,b] [] pos2] [] pos) (dOp Gq f g):=by
 intro pins s σ H Q I hq;refine bV hq λG ow δ d R hf q=>?_
 refine D3.ex2 (ug hf) λx y e1 e2 e3=>?_
 unfold Gq at e3;split at e3
 case h_2=>cases e3
 next l m=>
 refine aQ e3 λns e4 e5=>?_
 refine aQ e5 λU e6 e7=>?_
 by_cases hl:ns.length<=1000
 case neg=>rw[if_neg hl]at e7;cases e7
 rw[if_pos hl]at e7
 cases e7;refine ay (oG I hg hm cv (er ?_ he2 hpl2));rw[he2];refine bn ?_;refine ay (oG I hg2 hm2 D3.boot_zip (er (thn ((dO ha (dO hb iJ heb) he) pos2 pins s σ H (λvs H1=>∃v u,vs=[v,u]/\Same H H1/\RA X.K ok1 true H1 v (.list l)/\RA X.K ok1 true H1 u (.list m)) I
  ⟨G,ow,δ,_,R,e1,λv H1 s1 r1=>⟨G,ow,δ,_,R.grow s1,e2,λu H2 s2 r2=>⟨v,u,rfl,s1.trans s2,RA.same s2 r1,r2⟩⟩⟩) λus s1 ⟨vs,H1,M,r1,v,u,ev,E,rv,ru⟩=>?_) he hpl))
 subst ev;obtain⟨l1,xs,rfl,hx,hr⟩:=rv.lstE;obtain⟨l2,ys,rfl,hy,hr'⟩:=ru.lstE;obtain rfl:=o7 e4 hr;obtain rfl:=o7 e6 hr'
 cases r1 with
 |cons ra rb=>
 cases rb with
 |cons rb rc=>
 cases rc
 cases ra
 cases rb;obtain⟨its,C,pl,hz⟩:=M.list hx;obtain⟨Z,L,pl',hz'⟩:=M.list hy;have il:its.length=ns.length:=by rw[<-C.length,ak]
 have il':Z.length=U.length:=by rw[<-L.length,ak]
 refine call_zip_2 pl.isList pl'.isList λh' g1 g2 g3 g4 g5 g6 hk=>?_
 refine bS ?_;have q1:h'.IsList l1 its.toArray:=by
  obtain⟨o,ho,r⟩:=pl.isList;exact⟨o,hk _ _ ho,r⟩
 have q2:h'.IsList l2 Z.toArray:=by
  obtain⟨o,ho,r⟩:=pl'.isList;exact⟨o,hk _ _ ho,r⟩
 have Dz:=Nk g1 g2 g3 g4 g5 q1 q2 (bh (gA _)) (bh (gA _));refine Ra (s:={s1 with heap:=h'}) (M.ok.hs hc) Dz g1 g2 g3 g4 g5 q1 q2 (by rw[bQ,il];exact bw hl (by decide)) λW acc c kk f1 f2 f3 f4=>?_
 replace kk:∀c o,c∉[s1.heap.objs.size+4,s1.heap.objs.size+3,s1.heap.objs.size,s1.heap.objs.size+1]->h'.get? c=some o->W.get? c=some o:=kk
 replace f4:W.get? h'.objs.size=some {cls:=.type "list", dict:=none,data:=.seq acc c,slots:=#[]}:=f4
 replace f2:∀j,j<min its.toArray.size Z.toArray.size->∃a x y,acc[j]?=some (.ref a)/\h'.objs.size<a/\its.toArray[j]?=some x/\Z.toArray[j]?=some y/\eV W a x y:=f2
 have fr:∀c,s1.heap.objs.size<=c->H1 c=none:=λc hc=>M.hok.fresh hc
 have kept:=λb u e=>kk b u (λz=>by
  have S:=af e;simp only[aC,dD,or_false]at z;rcases z with z|z|z|z<;>rw[z]at S
  .exact dG.mpr (oV _ _) S
  .exact dG.mpr (oV _ _) S
  .exact dB _ S
  .exact dG.mpr (oV _ _) S) (hk b u e)
 have sS:s1.heap.objs.size<=h'.objs.size:=by rw[g6];lia
 simp only[bQ,il,il']at f1 f2;obtain⟨ts,tl,F⟩:=Xr (P:=λj a i k=>acc[j]?=some (.ref a)/\h'.objs.size<a/\ns[j]?=some i/\U[j]?=some k/\∃t u,eV W a (.int i t) (.int k u)) (min ns.length U.length) (λj N=>by
  obtain⟨a,x,y,k1,k2,k3,k4,k5⟩:=f2 j N;have A:j<ns.length:=by lia
  have B:j<U.length:=by lia
  have n1:(ns.map V.int)[j]?=some (.int ns[j]):=by rw[aF,aG A];rfl
  have n2:(U.map V.int)[j]?=some (.int U[j]):=by rw[aF,aG B];rfl
  obtain⟨u1,w1,r1⟩:=C.get n1;obtain⟨u2,w2,r2⟩:=L.get n2;obtain⟨t1,rfl⟩:=(show ∃t,u1=eJ ns[j] t from r1);obtain⟨t2,rfl⟩:=(show ∃t,u2=eJ U[j] t from r2);have ex:x=.int ns[j] t1:=by
   have:its[j]?=some x:=by simpa using k3
   rw[w1]at this;exact(cG.inj this).symm
  have ey:y=.int U[j] t2:=by
   have:Z[j]?=some y:=by simpa using k4
   rw[w2]at this;exact(cG.inj this).symm
  subst ex ey;exact⟨a,ns[j],U[j],k1,k2,aG A,aG B,t1,t2,k5⟩)
 have inj:∀(j j':Nat)(t t':Addr×Int×Int),ts[j]?=some t->ts[j']?=some t'->t.1=t'.1->j=j':=λj j' t t' h1 h2 h3=>by
  have a1:=(F j t h1).1;have a2:=(F j' t' h2).1;rw[<-h3]at a2;exact f3 j j' t.1 a1 a2
 have O:∀t∈ts,h'.objs.size<t.1/\∃u v,eV W t.1 (.int t.2.1 u) (.int t.2.2 v):=λt Y=>by
  obtain⟨j,N⟩:=gZ Y;obtain⟨_,k2,_,_,k5⟩:=F j t N;exact⟨k2,k5⟩
 have J:acc.toList=ts.map λt=>dE t.1:=by
  apply jk;intro j;rw[jh,aF];by_cases N:j<ts.length
  .rw[aG N];exact(F j _ (aG N)).1
  .rw[bf (by lia),dZ (by lia)];rfl
 have tn:=λt Y=>pW (O t Y).1
 have T:∀b,b<s1.heap.objs.size->Ds H1 h'.objs.size (ts.map λt=>V.ref t.1) ts b=H1 b:=λb hb=>Rh (λz=>by rw[z]at hb;exact dG.mpr sS hb) λt Y z=>by
  have:=(O t Y).1;rw[z]at this;exact dG.mpr sS (fV this hb)
 have hok:HOk X.prog X.w (Ds H1 h'.objs.size (ts.map λt=>V.ref t.1) ts) W:=λb u e=>by
  by_cases h:b=h'.objs.size
  .subst h;rw[Rf]at e
   cases e;refine⟨by rw[ak,tl];exact bw (bw (q_ _ _) hl) (by decide),acc.toList,c,?_,by simpa using f4⟩;rw[J];clear F tl inj O J tn T
   induction ts with
   |nil=>exact .nil
   |cons t ts ih=>exact .cons rfl ih
  .by_cases n:∃t∈ts,t.1=b
   .obtain⟨t,Y,rfl⟩:=n;rw[Rg inj Y (tn t Y)]at e
    cases e;obtain⟨_,v1,v2,k5⟩:=O t Y;exact⟨show 2<=sizeLine by decide,[.int t.2.1 v1,.int t.2.2 v2],.cons ⟨v1,rfl⟩ (.cons ⟨v2,rfl⟩ .nil),⟨_,k5,rfl,_,rfl⟩⟩
   .rw[Rh h λt Y z=>n ⟨t,Y,z⟩]at e;exact(M.hok b u e).stay (λc v _ r=>kept c v r) (λc r=>by rw[T c (M.hok.lt r)];exact r) λc xs r=>by rwa[T c (M.hok.lt r)]
 have sm:Same H1 (Ds H1 h'.objs.size (ts.map λt=>V.ref t.1) ts):=λb u e=>by rw[T b (M.hok.lt e)];exact e
 have I2:=Rc (t':=s1.toks) M kept T hok;have zl:uH l m=ts.map λt=>(.tuple [.int t.2.1,.int t.2.2]:D):=by
  have el:l=ns.map .int:=zu e4;have em:m=U.map .int:=zu e6;apply jk;intro j;rw[Gi,el,em,aF,aF,aF];by_cases N:j<ts.length
  .obtain⟨_,_,k3,k4,_⟩:=F j _ (aG N);rw[k3,k4,aG N];rfl
  .rw[bf (by lia:ts.length<=j)];rcases Nat.le_total ns.length U.length with z|z
   .rw[bf (by lia:ns.length<=j)];rfl
   .rw[bf (by lia:U.length<=j)]
    cases ns[j]? <;> rfl
 refine⟨.ref h'.objs.size,_,I2,rfl,q _ _ (E.trans sm) (.inr ⟨h'.objs.size,_,_,rfl,rfl,E.free (fr _ sS),Rf,?_⟩)⟩;rw[zl];refine K1 _ _ ts λt Y=>.tup (Rg inj Y (tn t Y)) (.cons (.int _) (.cons (.int _) .nil))
end
def NK(a v:Value):argsOk "min" ⟨[a],[(eA "default", v)]⟩:=by unfold argsOk;kernel_rfl
section
variable{prog:dA}{R:Result->dv->Prop}{fp wr:List Addr}{P:Nat->Value->Prop}{St:Nat->eg->Prop}{kw:List (Str×Value)}
theorem NP(W:Walks prog w A.in1 I fp wr n P St)(bt:Nat->Nat->Bool)(hcmp:CmpOf prog w A.in1 .Lt P bt)(S:Addr)(hSf:S∉fp):
 ∀(k j:Nat)(s:dv)(O:Value)(c:Nat),n-(j+1)=k->j+1<=n->St (j+1) s.heap->P (argBest bt j) O ->
 s.heap.get? S=some {cls:=.type "list", dict:=none,data:=.seq #[O,O] c,slots:=#[]} ->
 (∀v h' tk,P (argBest bt (n-1)) v->(∀b o,b∉wr->b≠S->s.heap.get? b=some o->h'.get? b=some o)->R (.ok (.ret v)) {s with heap:=h',toks:=tk}) ->
 codeAny (model prog w) A (.builtin "min.loop" ⟨[.ref I,.none,.ref S],kw⟩) R s:=by
 have E:=λh=>hSf (W.sub _ h)
 have U:(toString "min"++toString ".loop":String)="min.loop" := by decide
 intro k
 induction k with
 |zero=>
  intro j s O c x u M K D C;have G:j+1=n:=by lia
  refine bb aas ?_;rw[aI aag _];refine aa (a_ D rfl ?_);refine aa (bu (W.done s _ _ (G▸M) λh' tk Y=>?_));have Q:=Y S _ E D;refine aa ?_;refine bg Q rfl (aa (cE (ag ?_)));refine C O _ tk (by rwa[<-G]) λb o Z X e=>(am _ _ (dL X)).trans (Y b o Z e)
 |succ k z=>
  intro j s O c x u M K D C;have L:j+1<n:=by lia
  refine bb aas ?_;rw[aI aag _];refine aa (a_ D rfl ?_);refine aa (bu (W.item (j+1) s _ _ L M λv h' tk y N Y=>?_));have Q:=Y S _ E D;show wpAny _ A.in1 (tryCatch (holding [v,v] (richCompare .Lt v O >>= _)) _ >>= _) _ _ _;refine aa (bu (ax (aa (hcmp (j+1) (argBest bt j) v O _ _ _ y K ?_))));refine aa (ax (aE ?_));refine aa (cE (ag ?_))
  cases hb:bt (j+1) (argBest bt j)with
  |true=>
   simp only[if_true];refine aa ?_;refine bg Q rfl (aa (cE ?_));rw[U];refine ag ⟨bc aag _,z (j+1) _ v _ (by lia) L (W.frame _ _ _ N λb t o e=>?_) (by simp only[argBest,hb,if_true];exact y) (ar _ Q rfl)
    λB H V J T=>?_⟩
   .exact(am _ _ (λh:S=b=>hSf (by rwa[h]))).trans e
   .exact C B H V J λb o Z X e=>T b o Z X ((am _ _ (dL X)).trans (Y b o Z e))
  |false=>
   simp only[cN,if_false];refine aa (cE ?_);rw[U];refine ag ⟨bc aag _,z (j+1) _ O c (by lia) L N (by simp only[argBest,hb,cN,if_false];exact K) Q λB H V J T=>?_⟩;exact C B H V J λb o Z X e=>T b o Z X (Y b o Z e)
def Jr(W:Walks prog w A.in1 I fp wr n P St)(bt:Nat->Nat->Bool)(hcmp:CmpOf prog w A.in1 .Lt P bt)(S:Addr)(O:S∉fp)(hn:0<n)(hst:St 0 k.heap)
 (hS:k.heap.get? S=some {cls:=.type "list", dict:=none,data:=.seq #[] c,slots:=#[]})
 (hR:∀v h' tk,P (argBest bt (n-1)) v->(∀b o,b∉wr->b≠S->k.heap.get? b=some o->h'.get? b=some o)->R (.ok (.ret v)) {k with heap:=h',toks:=tk}):
 codeAny (model prog w) A (.builtin "min.loop" ⟨[.ref I,.none,.ref S],kw⟩) R k:=by
 have M:=λh=>O (W.sub _ h)
 have Z:(toString "min"++toString ".loop":String)="min.loop" := by decide
 refine bb aas ?_;rw[aI aag _];refine aa (a_ hS rfl ?_);refine aa (bu (W.item 0 k _ _ hn hst λv h' tk G X U=>?_));have N:=U S _ M hS;show wpAny _ A.in1 (updateSeq S (λ_=>#[v,v]) >>= _) _ _ _;refine aa ?_;refine bg N rfl ?_;rw[Z];refine ag ⟨bc aag _,NP W bt hcmp S O _ 0 _ v _ rfl hn (W.frame _ _ _ X λb H o e=>?_) G (ar _ N rfl) λJ K Y L V=>?_⟩
 .exact(am _ _ (λh:S=b=>O (by rwa[h]))).trans e
 .exact hR J K Y L λb o T Q e=>V b o T Q ((am _ _ (dL Q)).trans (U b o T e))
def NQ(W:Walks prog w A.in1 I fp wr 0 P St)(S:Addr)(U:S∉fp)(O:St 0 q.heap)
 (hS:q.heap.get? S=some {cls:=.type "list", dict:=none,data:=.seq #[] c,slots:=#[]})
 (hR:∀h' tk,(∀b o,b∉wr->b≠S->q.heap.get? b=some o->h'.get? b=some o)->R (.ok (.ret k)) {q with heap:=h',toks:=tk}):
 codeAny (model prog w) A (.builtin "min.loop" ⟨[.ref I,.none,.ref S],[(m,k)]⟩) R q:=by
 refine bb aas ?_;rw[aI aag _];refine aa (a_ hS rfl ?_);refine aa (bu (W.done q _ _ O λh' tk Z=>?_));exact aa (cw (ag (hR h' tk λb o Y X e=>Z b o Y e)))
end
section
variable{prog:dA}{E:Value->dv->Prop}
def NT 
 (h:wpAny (model prog w) A.in1 (pyIter c) (λit O=>∃I fp wr n P St bt,it=.ref I/\Walks prog w A.in1 I fp wr n P St/\St 0 O.heap/\(∀b∈fp,b<O.heap.objs.size)/\CmpOf prog w A.in1 .Lt P bt /\
  (0<n->∀v h' tk,P (argBest bt (n-1)) v->(∀b o,b∉wr->O.heap.get? b=some o->h'.get? b=some o)->Q v {O with heap:=h',toks:=tk}) /\
  (n=0->∀h' tk,(∀b o,b∉wr->O.heap.get? b=some o->h'.get? b=some o)->Q k {O with heap:=h',toks:=tk})) E s):
 wpAny (model prog w) A (call (.builtin "min") [c] [(eA "default", k)]) Q E s:=by
 have Z:(toString "min"++toString ".loop":String)="min.loop" := by decide
 refine PyProof.Rows.kmb_tree PySem.F.kind_min PySem.F.plain_min PySem.F.entry_min (NK _ _) ?_;refine aa (wpAny_of_eq (show Builtin.Builtins.bindParams "min" ["key","default"] 0 ⟨[],[(eA "default", k)]⟩=pure [none,some k]from rfl) ?_);refine aa (ag ?_);refine aa (av h (λit O X=>?_) λ_ _ e=>e);obtain⟨I,fp,wr,n,P,St,bt,rfl,W,V,R,U,M,N⟩:=X;refine aa (ba ?_);have T:=λhm=>dB _ (R _ hm)
 rw[Z];rcases uy n with hn|hn
 .subst hn;refine ag ⟨bc aag _,NQ W O.heap.objs.size T (W.frame _ _ _ V λb _ o e=>ae _ e) (ah _ rfl) λh' tk S=>?_⟩;exact N rfl h' tk λb o Y e=>S b o Y (bh (af e)) (ae _ e)
 .refine ag ⟨bc aag _,Jr W bt U O.heap.objs.size T hn (W.frame _ _ _ V λb _ o e=>ae _ e) (ah _ rfl) λv h' tk L S=>?_⟩;exact M hn v h' tk L λb o Y e=>S b o Y (bh (af e)) (ae _ e)
end
def ai7(e:Same H H')(h:SqL K H a xs):SqL K H' a xs:=by
 rcases h with(h|⟨o,h⟩)|h
 .exact .inl (.inl (e _ _ h))
 .exact .inl (.inr ⟨o,e _ _ h⟩)
 .exact .inr h
section
variable{X:Cx}{fl:List Fl}{z:Expr}{fa:FA}{fz:FE}{kpos:Pos}
def VJ(hc:X.still=true)(I:L2.Inv X c σ m k)(hx:SqL X.K m q (q0.map V.int))(rz:RelV O q1)(h1:∀i r,q0=i::r->q2 (.int (mnI i r)) m)(h0:q0=[]->q2 O m):
 wpAny (model X.prog X.w) X.A (aax (.builtin "min") [.ref q] [(eA "default", q1)]) (EP X c σ q2) X.xe k:=by
 obtain⟨its,S,pl,B⟩:=I.list hx;have hi:=vJ S;obtain⟨xs,e⟩:=hi.allInts.items;have Z:q0=xs.toList.map (·.1):=by rw[<-hi.numsOf,<-nums_intItems,<-e]
 have W:q0.length=xs.size:=by rw[Z,ak,bW]
 have F:=e▸pl.isList;refine NT (iter_intList F λM C st N R=>?_);subst C;refine⟨_,_,_,_,_,_,_,rfl,Walks.list (A:=X.A.in1) (I.ok.hs hc) _ q R (intItems xs),st,N,CmpOf.ints_lt (numAt xs) (λ_ _=>di),λhn v h' tk D P=>?_,λhn h' tk P=>?_⟩
 .have Y:0<xs.size:=by simpa[intItems]using hn
  obtain⟨i,T,U⟩:∃i r,q0=i::r:=by
   cases q0 with
   |nil=>simp at W;lia
   |cons i r=>exact⟨i,r,rfl⟩
  have G:(intItems xs)[argBest (λi j=>decide (numAt xs i<numAt xs j)) (xs.size-1)]?=some v:=by simpa[intItems]using D
  obtain⟨t,rfl⟩:=di G;obtain⟨g1,g2⟩:=argBest_lt (numAt xs) (xs.size-1);rw[U]at Z;have J:numAt xs (argBest (λi j=>decide (numAt xs i<numAt xs j)) (xs.size-1))∈i::T:=by
   rw[Z,de];exact getD_mem (by rw[ak,bW];lia)
  have L:∀a∈i::T,numAt xs (argBest (λi j=>decide (numAt xs i<numAt xs j)) (xs.size-1))<=a:=λa ha=>by
   rw[Z]at ha;obtain⟨j,E,rfl⟩:=mem_getD ha;rw[ak,bW]at E;rw[<-de];exact g2 j (by lia)
  have sp:=lX T i;have eq:=jc (L _ sp.1) (sp.2 _ J);rw[eq];exact⟨.int _,m,I.kept (old_kept P),⟨_,rfl⟩,h1 i T U⟩
 .have Y:xs.size=0:=by simpa[intItems]using hn
  exact⟨O,m,I.kept (old_kept P),rz,h0 (List.eq_nil_of_length_eq_zero (by rw[W,Y]))⟩
theorem VL(hc:X.still=true)(ha:DB X fl .P [e] fa)(hz:DE X fl .P z fz)(hg:Gl X "min")(hm:X.mg "min"=none)
 (he:backTo pos (starEach [e] X.env)=(false,eval e X.env)::backTo pos (starEach [] X.env):=by rfl) (hpl:(backTo pos (starEach [e] X.env)).any (·.1)=false:=by rfl)
 (O:(backToKw pos (keywordEach [⟨some (eA "default"),z,kpos⟩] X.env)).all (·.1.isSome)=true:=by rfl) (hkw:(backToKw pos (keywordEach [⟨some (eA "default"),z,kpos⟩] X.env)).any (·.1.isNone)=false:=by rfl)
 (hks:(backToKw pos (keywordEach [⟨some (eA "default"),z,kpos⟩] X.env)).filterMap (·.1)=[eA "default"]:=by rfl):
 DE X fl .FC (.Call (.Name "min" p) [e] [⟨some (eA "default"),z,kpos⟩] pos) (KJ fa fz):=by
 intro pins s σ H Q I hq;refine bV hq λG ow δ d R D q=>?_
 refine aQ D λl A L=>?_
 refine aQ L λJ B Z=>?_
 refine ay (oG I hg hm ff ?_);refine PyProof.Rows.callWith_kw ?_ he hpl O hkw;refine thn (ha pos pins s σ H (λvs H1=>Same H H1/\RAs X.K ok1 true H1 vs l) I ⟨G,ow,δ,_,R,A,λvs H' s' F=>⟨s',F⟩⟩) λus s1 ⟨vs,H1,u,r1,V,ra⟩=>?_
 refine thn ((UW hz Yy) pos pins s1 σ H1 (λws H2=>∃w,ws=[w]/\Same H1 H2/\RA X.K ok1 true H2 w J) u ⟨G,ow,δ,_,R.grow V,B,λw H2 s2 r2=>⟨w,rfl,s2,r2⟩⟩) λkvs s2 ⟨ws,H2,v,r2,w,C,W,S⟩=>?_
 subst C;rw[hks];obtain⟨t,rfl,N⟩:=vals1 r2;obtain⟨m,rfl⟩:∃m,l=[.list m]:=by
  match l,Z with
  |[.list m],_=>exact⟨m,rfl⟩
 dsimp only at Z
 cases ra with
 |cons M ra2=>
 cases ra2;obtain⟨a,ys,rfl,hx,E⟩:=M.lstE
 cases r1 with
 |cons x y=>
 cases y
 cases x
 cases T:j8 m with
 |none=>rw[T]at Z;cases Z
 |some ns=>
 obtain rfl:=o7 T E;refine VJ hc v (ai7 W hx) N (λi r U=>?_) λU=>?_
 .subst U;rw[T]at Z;unfold lW at Z;dsimp only at Z;rw[T]at Z
  cases Z;exact q _ H2 (V.trans W) (.inl ⟨rfl,.int _⟩)
 .subst U;rw[T]at Z;by_cases Y:flat J=true
  .rw[if_pos Y]at Z
   cases Z;exact q _ H2 (V.trans W) (.inl ⟨Y,RA.flat Y S⟩)
  .rw[if_neg Y]at Z;cases Z
variable{a:Expr}{f:FE}{ta:TE}
end
end XK
namespace D3
noncomputable def zx:D->D->Option D:=λx y=>match x,y with
 |.str i,.str j=>if i.length+j.length<=1000000 then some (.str (i++j))else none
 |_,_=>none
def GC:D->D->Option D:=λx y=>match x,y with
 |.str z,.int i=>if z.length<=1000000 then(L2.atI z.cps.toList i).map λc=>.str ⟨#[c]⟩else none
 |_,_=>none
def K3:List D->Option D
 |[.str z]=>if z.length<=1000000 then some (.int z.length)else none
 |_=>none
end D3
namespace XW
open L2 My D3
section
variable{X:Cx}{fl:List Fl}{a b:Expr}{fa f:FE}
def Ze:BrO K (λx y H Q=>∃i j,x=.str i/\y=.str j/\i.length+j.length<=sizeLine/\Q (.str (i++j)) H) zx:=by
 intro H x y dx W d Q Y Z e q;unfold zx at e;split at e
 .split at e
  .next X=>
   cases e;obtain rfl:=RA.strE Y;obtain rfl:=RA.strE Z;exact⟨_,_,rfl,rfl,bw X (by decide),q _ rfl (.str _)⟩
  .cases e
 .cases e
def Zf:BrC K (λxs H Q=>∃z,xs=[.str z]/\z.length<=sizeLine/\Q (.int z.length) H) K3:=by
 intro H xs ds d Q r e q;unfold K3 at e;split at e
 .split at e
  .next Z=>
   cases e
   cases r with
   |cons r1 r2=>
    cases r2;obtain rfl:=RA.strE r1;exact⟨_,rfl,bw Z (by decide),q _ rfl (.int _)⟩
  .cases e
 .cases e
def Zg(ha:DE X fl .P a fa)(hb:DE X fl .P b fb)(hs:j6 b):DE X fl .FC (.Subscript a b pos) (dOp GC fa fb):=PE.imp (vh Py ha hb hs) λσ H Q h=>by
 refine bV h λG ow δ d R V q=>?_
 refine D3.ex2 (ug V) λx y T U Z=>?_
 refine⟨G,ow,δ,x,R,T,λv H1 s1 r1=>⟨G,ow,δ,y,R.grow s1,U,λu H2 s2 r2=>?_⟩⟩;unfold GC at Z;split at Z
 .next z i=>
  split at Z
  .next W=>
   obtain rfl:=RA.intE r2;obtain rfl:=RA.strE r1
   cases Y:atI z.cps.toList i with
   |none=>rw[Y]at Z;cases Z
   |some c=>
    rw[Y]at Z
    cases Z;exact⟨z,i,c,rfl,rfl,bw W (by decide),Y,q _ H2 (s1.trans s2) (.inl ⟨rfl,.str _⟩)⟩
  .cases Z
 .cases Z
end
end XW
namespace D3
end D3
namespace XW
open L2 My D3
section
variable{X:Cx}{fl:List Fl}{a b:Expr}{fa f:FE}
end
end XW
namespace D3
noncomputable def vK:D->Option (List D)
 |.str z=>if(z.cps.all λx=>decide (x<128))=true then some (z.cps.toList.map λc=>.str ⟨#[c]⟩)else none
 |_=>none
def Zh(f:FE):FA:=λδ=>(f δ).bind vK
end D3
namespace XW
open L2 My D3
noncomputable def Its(z:Str):It where
 go:=λi _=>∃c,z.cps[i]?=some c
 yld:=λi H x H'=>H=H'/\∃c,z.cps[i]?=some c/\x=.str ⟨#[c]⟩
 stop:=λi _=>z.cps.size<=i
theorem Ri(z:Str)(t:Tok)(it:Addr):Turn P w K tg (Its z) [it] it (λi h=>h.IsStrIter it "str_ascii_iterator" z t i) true where
 mem:=by simp
 obj:=λi h st b hb=>by
  have e:b=it:=by simpa using hb
  subst e;obtain⟨o,e,c,d⟩:=st;exact⟨o,e,λv z=>by rw[d]at z;cases z⟩
 keep:=λi h h' st k=>by
  obtain⟨o,e,c,d⟩:=st;exact⟨o,k it (by simp) o e,c,d⟩
 item:=by
  intro X U hw T M Y i pins s σ H E I W st V;subst U hw T;obtain⟨c,hx⟩:=V;obtain⟨O,f1,f2,Q,R,S⟩:=W it (by simp);refine wpAny_pyNext_ascii_item st hx λh' Z N=>?_
  have J:=I.turned (t':=s.toks+1) (λb o hb e=>(N.2 b hb).trans e) O f1 Q R S;obtain⟨o,e,c',d⟩:=id Z;exact⟨_,rfl,Fd (s:={s with heap:=h',toks:=s.toks+1}) e c' d (by decide) ⟨.str ⟨#[c]⟩,H,J,⟨_,rfl⟩,⟨rfl,c,hx,rfl⟩,Z,λb hb=>(W b hb).1⟩⟩
 done:=by
  intro X U hw T M Y i pins s σ H E I W st V;subst U hw T;obtain⟨O,f1,f2,Q,R,S⟩:=W it (by simp);exact wpAny_pyNext_ascii_end (I.ok.hs (Y rfl)) st (dZ V) λh' L=>⟨rfl,I.turned (t':=s.toks) (λb o hb e=>L b o hb e) O f1 Q R S⟩
 self:=λ_ _ _ _ _ st h=>wpAny_pyIter_striter_ascii st h
def av3(tl:TE):TI:=λσ H R=>tl σ H λx H1=>∃z:Str,x=.str z/\(z.cps.all λx=>decide (x<128))=true/\R (Its z) H1
section
variable{X:Cx}{fl:List Fl}{a b:Expr}{f:FE}
def Zi{l:Expr}{tl:TE}(U:PE X l tl)(O:X.still=true:=by rfl):PI X tg l (av3 tl):=by
 intro pins s σ H R I h;refine thn (U pins s σ H _ I h) λv s1 ⟨x,H1,Z,r1,q1⟩=>?_
 obtain⟨z,e,ha,q⟩:=q1;subst e;obtain⟨t,rfl⟩:=(show ∃t,v=e_ z t from r1);have ty:strIterType z="str_ascii_iterator" := by
  unfold strIterType;rw[if_pos ha]
 refine wpAny_pyIter_strU ?_;rw[ty];refine⟨s1.heap.objs.size,[s1.heap.objs.size],_,_,H1,rfl,Z.kept (t':=s1.toks) λb o e=>ae _ e,(vI O <| Ri z t _),⟨_,ah _ rfl,rfl,rfl⟩,λb hb=>?_,q⟩;have e:b=s1.heap.objs.size:=by simpa using hb
 subst e;exact Z.fpOk (aN _) (Z.hok.fresh (aN _))
def Zj(h:DE X fl .P e f)(O:X.still=true:=by rfl):DI X fl L tg e (Zh f):=PI.imp (Zi h O) λσ H R' h=>by
 refine bV h λG ow δ l R T q=>?_
 refine aQ T λd S Z=>?_
 unfold vK at Z;split at Z
 .next z=>
  split at Z
  .next ha=>
   cases Z;refine⟨G,ow,δ,_,R,S,λv H1 s r=>?_⟩;obtain rfl:=RA.strE r;refine⟨z,rfl,ha,q _ _ s λH2 k2 i=>?_⟩;refine⟨λd hd=>?_,λV=>?_⟩
   .rw[aF]at hd
    cases W:z.cps.toList[i]? with
    |none=>rw[W]at hd;cases hd
    |some c=>
     rw[W]at hd
     cases hd;have Y:z.cps[i]?=some c:=by rw[<-W];simp
     refine⟨⟨c,Y⟩,λx Q U=>?_⟩;obtain⟨e,c',h1,rfl⟩:=U;subst e;rw[Y]at h1
     cases h1;exact⟨Same.refl _,.str _⟩
   .show z.cps.size<=i;rw[ak]at V;simpa using V
  .cases Z
 .cases Z
end
end XW
namespace XI
open L2 My D3
def less(H:Hp)(as:List Addr):Hp:=λb=>if b∈as then none else H b
def VN(h:a∈c):less H c a=none:=if_pos h
def nF(h:a∉c):less H c a=H a:=if_neg h
def lD(O:∀b∈k,Chd (H b))(h:H a=some m)(hn:Chg m->False):less H k a=some m:=by
 rw[nF λz=>?_]
 .exact h
 .obtain⟨u,e,c⟩:=O a z;rw[h]at e
  cases e;exact hn c
def sJ(O:∀b∈c,Chd (H b))(h:dU H a k):dU (less H c) a k:=lD O h Chg.tup
section
variable{H:Hp}{ok:Ok}
def GD(O:∀b∈as,Chd (H b))(U:∀b,ok b->b∉as):(∀{v:V}{d:D},RA K ok pl H v d->RA K ok pl (less H as) v d)/\∀{v:List V}{d:List D},RAs K ok pl H v d->RAs K ok pl (less H as) v d:=
 RA.ind .non .bl .int .str (λe k q=>.lst (by rwa[nF (U _ k)]) k q) (λe k q=>.lsk (by
  rcases e with⟨o,e⟩|e
  .exact .inl ⟨o,lD O e Chg.frz⟩
  .exact .inr e) k q) (λe q=>.tup (sJ O e) q) (λe g k=>.dic (by rwa[nF (U _ k)]) (g.imp λ_ _ t=>sJ O t) k) (λe g k=>.dik (lD O e Chg.frz) (g.imp λ_ _ t=>sJ O t) k)
  (λe g q z=>.ins (lD O e Chg.ins) (lD O g Chg.own) q z) .nil .cons
def Rj(O:∀b∈as,Chd (H b)):(∀{v:V}{d:D}{bs:List Addr},RT K H v d bs->(∀b∈bs,b∉as)->RT K (less H as) v d bs)/\∀{v:List V}{d:List D}{bs:List Addr},RTs K H v d bs->(∀b∈bs,b∉as)->RTs K (less H as) v d bs:=
 RT.ind (λ_=>.non) (λb _=>.bl b) (λi _=>.int i) (λx _=>.str x) (λe q Z=>.lst (by rwa[nF (Z _ au)]) (q λb hb=>Z b (aA _ hb))) (λe q Z=>.tup (sJ O e) (q Z))
  (λe g Z=>.dic (by rwa[nF (Z _ au)]) (g.imp λ_ _ t=>sJ O t)) (λe g _ q z Z=>.ins (lD O e Chg.ins) (lD O g Chg.own) (q Z) z) (λ_=>.nil)
  λe q Z=>.cons (e λb hb=>Z b (bI _ hb)) (q λb hb=>Z b (aP _ hb))
end
variable{fl:List Fl}
def xg{σ:D3.St}(R:Rel K fl G ow σ H δ)(O:fl[i]?=some .N\/fl[i]?=some .W)(hi:i<δ.length)(hv:σ[i]?=some (some v))(s:Same (less H (ow.n i)) H')
 (hr:RT K H' v d as) (hs:∀b∈as,b∈ow.n i\/H b=none) (hd:as.Nodup):Rel K fl G (owN ow i as) σ H' (δ.set i (some (.d d))):=by
 have P:=λb hb=>(R.nt i b hb).2.1
 have I:∀b∈ow.n i,G.HF b=none:=λb hb=>by
  rcases(R.nt i b hb).2.2 with⟨_,z⟩|z
  .exact z
  .rcases O with y|y<;>(rw[y]at z;cases z)
 have no:∀a,ow i≠some a:=λa z=>by
  obtain⟨_,L,_⟩:=R.own i a z;rcases O with y|y<;>(rw[y]at L;rcases L with⟨z,_⟩|⟨z,_⟩<;>cases z)
 have out:=λb o hb e=>s b o (by rwa[nF hb])
 have sub:∀b,okA ow b/\H b≠none->okA (owN ow i as) b:=λb z=>⟨z.1.1,λj e=>by
  by_cases Z:j=i
  .subst Z;rw[gG]at e;rcases hs b e with y|y
   .exact z.1.2 j y
   .exact z.2 y
  .rw[dW Z]at e;exact z.1.2 j e⟩
 have Q:∀{v:V}{d:D},RA K (okA ow) true H v d->RA K (okA (owN ow i as)) true H' v d:=λr=>
  (((GD (as:=ow.n i) P (λb z=>z.1.2 i)).1 r.track).same s).imp sub (λz=>z)
 have U:∀{v:List V}{d:List D},RAs K (okA ow) true H v d->RAs K (okA (owN ow i as)) true H' v d:=λr=>
  (((GD (as:=ow.n i) P (λb z=>z.1.2 i)).2 r.track).same s).imp sub (λz=>z)
 have fresh:∀b,H b=none->∀j,b∉ow.n j/\ow j≠some b:=λb e j=>⟨λz=>(R.nt j b z).2.1.ne e,λz=>by
  obtain⟨_,_,xs,ds,_,g2,_⟩:=R.own j b z;rw[e]at g2
  cases g2⟩
 refine⟨R.s0,λb o hb=>?_,by rw[bL];exact R.len,λj b h=>?_,R.inj,R.pin,λj T g1 X g2=>?_,λj T g1 X g2 g3=>?_,λj b h=>?_,λj j' b h h'=>?_,λj j' b h=>?_,λj h=>?_,λj T X g1=>?_,R.fx⟩
 .exact out b o (λz=>by rw[I b z]at hb;cases hb) (R.s1 b o hb)
 .have Z:j≠i:=λz=>no b (z▸h)
  obtain⟨F,J,zs,ds,g1,g2,g3,M⟩:=R.own j b h;exact⟨F,J,zs,ds,g1,out b _ (λz=>R.ns i j b z h) g2,U g3,by rw[aB (dL Z)];exact M⟩
 .rcases fK g1 with⟨rfl,e⟩|⟨Z,e⟩
  .rcases O with y|y<;>(rw[y]at X;cases X)
  .obtain⟨S,g3,M⟩:=R.dat j T e X g2;exact⟨S,g3,Q M⟩
 .rcases fK g1 with⟨rfl,e⟩|⟨Z,e⟩
  .rcases O with y|y<;>(rw[y]at X;cases X)
  .exact R.oo j T e X g2 g3
 .by_cases Z:j=i
  .subst Z;rw[gG]at h;rcases hs b h with y|y
   .obtain⟨g1,_,g3⟩:=R.nt j b y;exact⟨g1,hr.chd b h,g3⟩
   .refine⟨?_,hr.chd b h,.inl ⟨O,?_⟩⟩
    .cases z:G.H0 b with
     |none=>rfl
     |some o=>rw[R.same0 b o z]at y;cases y
    .cases z:G.HF b with
     |none=>rfl
     |some o=>rw[R.s1 b o z]at y;cases y
  .rw[dW Z]at h;obtain⟨g1,g2,g3⟩:=R.nt j b h;obtain⟨u,e,c⟩:=g2;exact⟨g1,⟨u,out b u (λz=>Z (R.nd j i b h z)) e,c⟩,g3⟩
 .by_cases Z:j=i
  .by_cases Y:j'=i
   .rw[Z,Y]
   .rw[Z,gG]at h;rw[dW Y]at h';rcases hs b h with y|y
    .rw[Z];exact R.nd i j' b y h'
    .exact absurd h' (fresh b y j').1
  .rw[dW Z]at h;by_cases Y:j'=i
   .rw[Y,gG]at h';rcases hs b h' with y|y
    .rw[Y];exact R.nd j i b h y
    .exact absurd h (fresh b y j).1
   .rw[dW Y]at h';exact R.nd j j' b h h'
 .by_cases Z:j=i
  .rw[Z,gG]at h;rcases hs b h with y|y
   .exact R.ns i j' b y
   .exact(fresh b y j').2
  .rw[dW Z]at h;exact R.ns j j' b h
 .have Z:j≠i:=λz=>by rcases O with y|y<;>(rw[z,y]at h;cases h)
  rw[dW Z];exact R.np j h
 .rcases fK g1 with⟨rfl,e⟩|⟨Z,e⟩
  .cases e;exact⟨v,hv,by rw[gG];exact hr,by rw[gG];exact hd⟩
  .obtain⟨S,h1,h2,h3⟩:=R.nr j T X e;rw[dW Z];exact⟨S,h1,((Rj P).1 h2 λb hb z=>Z (R.nd j i b hb z)).same s,h3⟩
end XI
namespace XI
open L2 My D3
open Classical in
def jV(H:Hp)(p:Addr->Prop):Hp:=λb=>if p b then none else H b
section
variable{H:Hp}{p:Addr->Prop}
def vL(h:p a):jV H p a=none:=by unfold jV;rw[if_pos h]
def gR(h:¬p a):jV H p a=H a:=by unfold jV;rw[if_neg h]
def Js:Same (jV H p) H:=λb o h=>by
 by_cases z:p b
 .rw[vL z]at h;cases h
 .rw[gR z]at h;exact h
def jm(O:∀b,p b->Chd (H b))(h:H a=some k)(hn:Chg k->False):jV H p a=some k:=by
 rw[gR λz=>?_]
 .exact h
 .obtain⟨u,e,c⟩:=O a z;rw[h]at e
  cases e;exact hn c
def pG(O:∀b,p b->Chd (H b))(h:dU H a c):dU (jV H p) a c:=jm O h Chg.tup
def Rk(O:∀b,p b->Chd (H b))(t:Tb H):Tb (jV H p):=λx hx=>jm O (t x hx) λc=>by
 rcases c.ch with⟨_,z⟩|⟨_,z⟩|⟨_,z⟩<;>cases z
variable{ok:Ok}
def Bs(O:∀b,p b->Chd (H b))(U:∀b,ok b->¬p b):(∀{v:V}{d:D},RA K ok pl H v d->RA K ok pl (jV H p) v d)/\∀{v:List V}{d:List D},RAs K ok pl H v d->RAs K ok pl (jV H p) v d:=
 RA.ind .non .bl .int .str (λe k q=>.lst (by rwa[gR (U _ k)]) k q) (λe k q=>.lsk (by
  rcases e with⟨o,e⟩|e
  .exact .inl ⟨o,jm O e Chg.frz⟩
  .exact .inr e) k q) (λe q=>.tup (pG O e) q) (λe g k=>.dic (by rwa[gR (U _ k)]) (g.imp λ_ _ t=>pG O t) k) (λe g k=>.dik (jm O e Chg.frz) (g.imp λ_ _ t=>pG O t) k)
  (λe g q z=>.ins (jm O e Chg.ins) (jm O g Chg.own) q z) .nil .cons
def NZ(O:∀b,p b->Chd (H b)):(∀{v:V}{d:D}{bs:List Addr},RT K H v d bs->(∀b∈bs,¬p b)->RT K (jV H p) v d bs)/\∀{v:List V}{d:List D}{bs:List Addr},RTs K H v d bs->(∀b∈bs,¬p b)->RTs K (jV H p) v d bs:=
 RT.ind (λ_=>.non) (λb _=>.bl b) (λi _=>.int i) (λx _=>.str x) (λe q Z=>.lst (by rwa[gR (Z _ au)]) (q λb hb=>Z b (aA _ hb))) (λe q Z=>.tup (pG O e) (q Z))
  (λe g Z=>.dic (by rwa[gR (Z _ au)]) (g.imp λ_ _ t=>pG O t)) (λe g _ q z Z=>.ins (jm O e Chg.ins) (jm O g Chg.own) (q Z) z) (λ_=>.nil)
  λe q Z=>.cons (e λb hb=>Z b (bI _ hb)) (q λb hb=>Z b (aP _ hb))
end
def ofJ(J:Nat->Bool)(n:Nat->List Addr)(b:Addr):Prop:=∃j,J j=true/\b∈n j
def Jt(ow:Ow)(J:Nat->Bool)(as:Nat->List Addr):Ow:=⟨ow.s,λj=>if J j=true then as j else ow.n j⟩
def uL(h:c m=true):(Jt ow c k).n m=k m:=if_pos h
def sO(h:c m=false):(Jt ow c k).n m=ow.n m:=if_neg (by rw[h];decide)
variable{fl:List Fl}
def Xu{J:Nat->Bool}{as:Nat->List Addr}(R:Rel K fl G ow σ H δ)(O:∀j,J j=true->fl[j]?=some .N\/fl[j]?=some .W)(hl:δ'.length=δ.length)(he:∀j,J j=false->δ'[j]?=δ[j]?)
 (s:Same (jV H (ofJ J ow.n)) H') (hr:∀j,J j=true->∃v d,σ[j]?=some (some v)/\δ'[j]?=some (some (.d d))/\RT K H' v d (as j)/\(as j).Nodup) (hs:∀j,J j=true->∀b∈as j,ofJ J ow.n b\/H b=none)
 (hd:∀i j,J i=true->J j=true->∀b,b∈as i->b∈as j->i=j):Rel K fl G (Jt ow J as) σ H' δ':=by
 have M:∀b,ofJ J ow.n b->Chd (H b):=λb ⟨j,_,hb⟩=>(R.nt j b hb).2.1
 have L:∀b,ofJ J ow.n b->G.HF b=none/\G.H0 b=none:=λb ⟨j,Z,hb⟩=>by
  refine⟨?_,(R.nt j b hb).1⟩;rcases(R.nt j b hb).2.2 with⟨_,z⟩|z
  .exact z
  .rcases O j Z with y|y<;>(rw[y]at z;cases z)
 have no:∀j,J j=true->∀a,ow j≠some a:=λj Z a z=>by
  obtain⟨_,E,_⟩:=R.own j a z;rcases O j Z with y|y<;>(rw[y]at E;rcases E with⟨z,_⟩|⟨z,_⟩<;>cases z)
 have isT:∀j,J j=true->isN fl[j]?=true:=λj Z=>by rcases O j Z with y|y<;>(rw[y];rfl)
 have out:=λb o hb e=>s b o (by rw[gR hb];exact e)
 have sub:∀b,okA ow b/\H b≠none->okA (Jt ow J as) b:=λb z=>⟨z.1.1,λj e=>by
  cases Z:J j with
  |true=>
   rw[uL Z]at e;rcases hs j Z b e with⟨i,_,y⟩|y
   .exact z.1.2 i y
   .exact z.2 y
  |false=>
   rw[sO Z]at e;exact z.1.2 j e⟩
 have F:∀b,okA ow b/\H b≠none->¬ofJ J ow.n b:=λb z ⟨j,_,y⟩=>z.1.2 j y
 have P:∀{v:V}{d:D},RA K (okA ow) true H v d->RA K (okA (Jt ow J as)) true H' v d:=λr=>(((Bs M F).1 r.track).same s).imp sub (λz=>z)
 have U:∀{v:List V}{d:List D},RAs K (okA ow) true H v d->RAs K (okA (Jt ow J as)) true H' v d:=λr=>(((Bs M F).2 r.track).same s).imp sub (λz=>z)
 have fresh:∀b,H b=none->∀j,b∉ow.n j/\ow j≠some b:=λb e j=>⟨λz=>(R.nt j b z).2.1.ne e,λz=>by
  obtain⟨_,_,xs,ds,_,g2,_⟩:=R.own j b z;rw[e]at g2
  cases g2⟩
 have T:∀i j b,J i=true->J j=false->b∈as i->b∉ow.n j:=λi j b hi Z hb z=>by
  rcases hs i hi b hb with⟨k,C,y⟩|y
  .have:=R.nd k j b y z;rw[this,Z]at C
   cases C
  .exact(fresh b y j).1 z
 refine⟨R.s0,λb o hb=>?_,by rw[hl];exact R.len,λj b h=>?_,R.inj,R.pin,λj S g1 X g2=>?_,λj S g1 X g2 g3=>?_,λj b h=>?_,λj j' b h h'=>?_,λj j' b h=>?_,λj h=>?_,λj S X g1=>?_,R.fx⟩
 .exact out b o (λz=>by rw[(L b z).1]at hb;cases hb) (R.s1 b o hb)
 .have Z:J j=false:=by
   cases z:J j with
   |false=>rfl
   |true=>exact absurd h (no j z b)
  obtain⟨A,B,zs,ds,g1,g2,g3,I⟩:=R.own j b h;exact⟨A,B,zs,ds,g1,out b _ (λ⟨i,_,z⟩=>R.ns i j b z h) g2,U g3,by rw[he j Z];exact I⟩
 .have Z:J j=false:=by
   cases z:J j with
   |false=>rfl
   |true=>rw[isT j z]at X;cases X
  rw[he j Z]at g1;obtain⟨Q,g3,I⟩:=R.dat j S g1 X g2;exact⟨Q,g3,P I⟩
 .have Z:J j=false:=by
   cases z:J j with
   |false=>rfl
   |true=>rw[isT j z]at X;cases X
  rw[he j Z]at g1;exact R.oo j S g1 X g2 g3
 .cases Z:J j with
  |true=>
   rw[uL Z]at h;obtain⟨_,_,_,_,r,_⟩:=hr j Z;have c:=r.chd b h;rcases hs j Z b h with y|y
   .exact⟨(L b y).2,c,.inl ⟨O j Z,(L b y).1⟩⟩
   .refine⟨?_,c,.inl ⟨O j Z,?_⟩⟩
    .cases z:G.H0 b with
     |none=>rfl
     |some o=>rw[R.same0 b o z]at y;cases y
    .cases z:G.HF b with
     |none=>rfl
     |some o=>rw[R.s1 b o z]at y;cases y
  |false=>
   rw[sO Z]at h;obtain⟨g1,⟨u,e,c⟩,g3⟩:=R.nt j b h;exact⟨g1,⟨u,out b u (λ⟨i,hi,z⟩=>by
    have:=R.nd j i b h z;rw[this,hi]at Z
    cases Z) e,c⟩,g3⟩
 .cases Z:J j with
  |true=>
   rw[uL Z]at h
   cases Y:J j' with
   |true=>rw[uL Y]at h';exact hd j j' Z Y b h h'
   |false=>rw[sO Y]at h';exact absurd h' (T j j' b Z Y h)
  |false=>
   rw[sO Z]at h
   cases Y:J j' with
   |true=>rw[uL Y]at h';exact absurd h (T j' j b Y Z h')
   |false=>rw[sO Y]at h';exact R.nd j j' b h h'
 .cases Z:J j with
  |true=>
   rw[uL Z]at h;rcases hs j Z b h with⟨k,_,y⟩|y
   .exact R.ns k j' b y
   .exact(fresh b y j').2
  |false=>rw[sO Z]at h;exact R.ns j j' b h
 .have Z:J j=false:=by
   cases z:J j with
   |false=>rfl
   |true=>rcases O j z with y|y<;>(rw[y]at h;cases h)
  rw[sO Z];exact R.np j h
 .cases Z:J j with
  |true=>
   obtain⟨v,d,h1,h2,h3,h4⟩:=hr j Z;rw[h2]at g1
   cases g1;rw[uL Z];exact⟨v,h1,h3,h4⟩
  |false=>
   rw[he j Z]at g1;obtain⟨Q,h1,h2,h3⟩:=R.nr j S X g1;rw[sO Z];exact⟨Q,h1,((NZ M).1 h2 λb hb ⟨i,hi,z⟩=>by
    have:=R.nd j i b hb z;rw[this,hi]at Z
    cases Z).same s,h3⟩
end XI
variable{T:Nat->List Addr}
namespace XI
open L2 My D3
def kW:List Nat->DS->Option (List D)
 |[],_=>some []
 |i::l,δ=>(ao i δ).bind λd=>(kW l δ).bind λr=>some (d::r)
def nG(l:List Nat)(f:FE):FS:=λδ=>(f δ).bind λd=>if flat d=true then(kW l δ).bind λr=>some (.ex "" "" (.tuple (d::r)))else none
def Rm(l:List Nat)(o:Option Oc):Option D:=match o with
 |some (.ex _ _ d)=>some d
 |some (.nx δ)=>(kW l δ).bind λr=>some (.tuple (.none::r))
 |_=>none
def fnW(p q:Nat)(l:List Nat)(b:FS):List D->Option D:=λds=>if ds.length=p then Rm l (b (ds.map (λd=>some (.d d))++bR q none))else none
theorem GF:∀{l:List Nat}{δ:DS}{r:List D},kW l δ=some r->∀{k i:Nat},l[k]?=some i->∃d,r[k]?=some d/\δ[i]?=some (some (.d d))
 |[],_,_,_,k,i,h=>by simp at h
 |j::l,δ,r,e,k,i,h=>by
  refine aQ e λd Y e=>?_
  refine aQ e λX Z e=>?_
  cases e
  cases k with
  |zero=>cases h;exact⟨d,rfl,eX Y⟩
  |succ k=>exact GF Z (by simpa using h)
structure EndP(K:aaa)(l:List Nat)(G:Gh)(H':Hp)(T':Nat->List Addr)(ps:List D):Prop where
 sm:Same G.H0 H'
 rt:∀(k i:Nat)(u:V),l[k]?=some i->G.fv i=some u->∃d',ps[k]?=some d'/\RT K H' u d' (T' i)/\(T' i).Nodup
 fr:∀i∈l,∀b∈T' i,G.H0 b=none
 dj:∀i∈l,∀j∈l,∀b,b∈T' i->b∈T' j->i=j
def vM{σ:D3.St}{l:List Nat}{ps:List D}(R:Rel K fl G ow σ H δ)(U:∀i∈l,fl[i]?=some .W)(O:kW l δ=some ps):EndP K l G H ow.n ps:=by
 refine⟨R.same0,λk i u Z Y=>?_,λi _ b hb=>(R.nt i b hb).1,λi _ j _ b h1 h2=>R.nd i j b h1 h2⟩;have hi:=U i (cY Z);obtain⟨d,V,X⟩:=GF O Z;obtain⟨T,g1,g2,g3⟩:=R.nr i d (by rw[hi];rfl) X;have:=R.fx i u hi Y;rw[this]at g1
 cases g1;exact⟨d,V,g2,g3⟩
def VP(K:aaa)(l:List Nat)(G:Gh)(d:D)(Q:V->Hp->Prop):Prop:=∀r ps v H' (T':Nat->List Addr),d=.tuple (r::ps)->flat r=true->RA K ok0 false H' v r->EndP K l G H' T' ps->Q v H'
def zy{σ:D3.St}{l:List Nat}{ps:List D}{r:D}{Q:V->Hp->Prop}(R:Rel K fl G ow σ H δ)(Z:∀i∈l,fl[i]?=some .W)(Y:kW l δ=some ps)(q:VP K l G (.tuple (r::ps)) Q)(U:flat r=true)(O:RA K ok0 false H v r):Q v H:=
 q r ps v H ow.n rfl U O (vM R Z Y)
def av4(K:aaa)(fl:List Fl)(l:List Nat)(G:Gh)(O:Ends):Oc->Prop
 |.ex _ _ d=>VP K l G d O.rt
 |.rt _=>False
 |o=>yO K fl G O o
def tDW(K:aaa)(fl:List Fl)(l:List Nat)(f:FS):TS:=λZ σ H=>∃G ow δ o,Rel K fl G ow σ H δ/\f δ=some o/\av4 K fl l G Z o
abbrev DW1(X:Cx)(fl:List Fl)(l:List Nat)(s:et)(f:FS):Prop:=PS X s (tDW X.K fl l f)
abbrev DWs(X:Cx)(fl:List Fl)(l:List Nat)(s:List et)(f:FS):Prop:=PSs X s (tDW X.K fl l f)
def GoW(f:FS):Prop:=∀δ o,f δ=some o->(∀d,o ≠ .rt d)/\∀c x d,o ≠ .ex c x d
section
variable{X:Cx}{fl:List Fl}{l:List Nat}{c:Expr}{fs gs:FS}{f:FE}
theorem um(h:DS1 X fl st fs)(O:GoW fs):DW1 X fl l st fs:=PS.imp h λY σ H h=>by
 refine bV h λG ow δ o R Z q=>?_
 obtain⟨n1,n2⟩:=O δ o Z;refine⟨G,ow,δ,o,R,Z,?_⟩
 cases o with
 |nx _=>exact q
 |bk _=>exact q
 |ct _=>exact q
 |rt d=>exact absurd rfl (n1 d)
 |ex c x d=>exact absurd rfl (n2 c x d)
theorem dh(h1:DW1 X fl l st fs)(h2:DWs X fl l sts gs):DWs X fl l (st::sts) (bZ fs gs):=PSs.imp (vg h1 h2) λU σ H h=>by
 refine bV h λG ow δ o R W q=>?_
 refine aQ W λY V Z=>?_
 refine⟨G,ow,δ,Y,R,V,?_⟩
 cases Y with
 |nx δ'=>exact λow' σ' H' R'=>⟨G,ow',δ',o,R',Z,q⟩
 |rt d=>cases Z;exact q
 |bk d=>cases Z;exact q
 |ct d=>cases Z;exact q
 |ex c f v=>cases Z;exact q
def jy(h1:DW1 X fl l st fs):DWs X fl l [st] fs:=PSs.imp (xV h1) λ_ _ _ h=>h
def oh:DWs X fl l [] gJ:=PSs.imp xU λY σ H h=>by
 refine bV h λG ow δ o R Z q=>?_
 cases Z;exact q ow σ H R
theorem zA(O:DT X fl c ft)(h1:DWs X fl l body fs)(h2:DWs X fl l orelse gs):DW1 X fl l (.If c body orelse pos) (sIf ft fs gs):=PS.imp (Fb O h1 h2) λV σ H h=>by
 refine bV h λG ow δ o R Y q=>?_
 refine aQ Y λt W Z=>?_
 refine⟨G,ow,δ,t,R,W,λH' s=>?_⟩
 cases t with
 |true=>exact xJ ⟨G,ow,δ,o,R.grow s,Z,q⟩
 |false=>exact xH ⟨G,ow,δ,o,R.grow s,Z,q⟩
def oO(O:∀i∈l,fl[i]?=some .W)(h:DE X fl .P e f):DW1 X fl l (.Return (some e) pos) (nG l f):=PS.imp (yD h) λS σ H h=>by
 refine bV h λG ow δ o R V q=>?_
 refine aQ V λd T Z=>?_
 split at Z
 case isFalse=>cases Z
 next hd=>
 refine aQ Z λr U Z=>?_
 cases Z;exact⟨G,ow,δ,d,R,T,λv H' s Y=>zy (R.grow s) O U q hd (RA.flat hd Y)⟩
end
structure PreW(K:aaa)(l:List Nat)(H:Hp)(vs:List V)(ds:List D)(T:Nat->List Addr):Prop where
 tb:Tb H
 ln:vs.length=ds.length
 il:∀i∈l,i<ds.length
 ra:∀i v x,i∉l->vs[i]?=some v->ds[i]?=some x->RA K (λb=>∀j∈l,b∉T j) true H v x
 rt:∀i v x,i∈l->vs[i]?=some v->ds[i]?=some x->RT K H v x (T i)/\(T i).Nodup
 dj:∀i∈l,∀j∈l,∀b,b∈T i->b∈T j->i=j
structure PostW(K:aaa)(l:List Nat)(H:Hp)(T:Nat->List Addr)(vs:List V)(H':Hp)(T':Nat->List Addr)(ps:List D):Prop where
 sm:Same (jV H λb=>∃j∈l,b∈T j) H'
 rt:∀(k i:Nat)(u:V),l[k]?=some i->vs[i]?=some u->∃d',ps[k]?=some d'/\RT K H' u d' (T' i)/\(T' i).Nodup
 fr:∀i∈l,∀b∈T' i,(∃j∈l,b∈T j)\/H b=none
 dj:∀i∈l,∀j∈l,∀b,b∈T' i->b∈T' j->i=j
def spW(K:aaa)(l:List Nat)(F:List D->Option D):Sp:=λvs H Q _=>∃(ds:List D)(T:Nat->List Addr)(d:D),PreW K l H vs ds T/\F ds=some d /\
 ∀r ps v H' (T':Nat->List Addr),d=.tuple (r::ps)->flat r=true->RA K ok0 false H' v r->PostW K l H T vs H' T' ps->Q v H'
def owT(l:List Nat)(T:Nat->List Addr):Ow:=⟨λ_=>none,λi=>if i∈l then T i else []⟩
def uM : b∈(owT k T).n i<->i∈k/\b∈T i:=by
 show b∈(if i∈k then T i else [])<->_;by_cases c:i∈k
 .rw[if_pos c];exact⟨λh=>⟨c,h⟩,λh=>h.2⟩
 .rw[if_neg c];exact⟨λh=>(by cases h),λh=>absurd h.1 c⟩
def K4{l:List Nat}(r:PreW K l H vs ds T):∀b,(∃j∈l,b∈T j)->Chd (H b):=λb ⟨j,Z,hb⟩=>by
 have h1:=r.il j Z;have h2:=r.ln;exact(r.rt j _ _ Z (aG (by lia)) (aG h1)).1.chd b hb
def gW{l:List Nat}(r:PreW K l H vs ds T):Gh:=⟨jV H λb=>∃j∈l,b∈T j,jV H λb=>∃j∈l,b∈T j,λ_=>none,λ_=>[],Rk (K4 r) r.tb,λi=>vs[i]?⟩
def post_of{l:List Nat}{ps:List D}{T':Nat->List Addr}(r:PreW K l H vs ds T)(e:EndP K l (gW r) H' T' ps):PostW K l H T vs H' T' ps:=
 ⟨e.sm,e.rt,λi hi b hb=>by
  have z:jV H (λb=>∃j∈l,b∈T j) b=none:=e.fr i hi b hb;by_cases y:∃j∈l,b∈T j
  .exact .inl y
  .rw[gR y]at z;exact .inr z,e.dj⟩
def zB{l:List Nat}(p:Nat)(hp:∀i,i<p->i∉l->fl[i]?=some .A)(hw:∀i∈l,fl[i]?=some .W)(O:ds.length=p)(hN:p<=N.length)
 (r:PreW K l H vs ds T):Rel K fl (gW r) (owT l T) (L2.start N vs) H (ds.map (λd=>some (.d d))++bR (N.length-p) none):=by
 have S:=K4 r;obtain⟨tb,R,il,ra,rt,dj⟩:=r;have V:vs.length=p:=by lia
 have get:∀i d,(ds.map (λd=>some (U.d d))++bR (N.length-p) none)[i]?=some (some (.d d))->i<p/\ds[i]?=some d:=λi d h=>by
  by_cases hi:i<p
  .rw[bU (by rwa[ak,O]),aF]at h
   cases e:ds[i]? with
   |none=>rw[e]at h;cases h
   |some z=>rw[e]at h;cases h;exact⟨hi,rfl⟩
  .rw[bT (by rw[ak,O];lia),cJ]at h;split at h<;>cases h
 have st:∀i v,vs[i]?=some v->(L2.start N vs)[i]?=some (some v):=λi v e=>by
  have hi:=(aH.mp e).1;unfold L2.start;rw[bU (by rwa[ak]),aF,e];rfl
 refine⟨Same.refl _,Js,?_,λi b h=>(by cases h),λi X b h=>(by cases h),λi h=>rfl,λi d h hn _=>?_,λi d h hn h2 _=>?_,λi b h=>?_,λi X b h h'=>?_,λi X b _ h=>(by cases h),λi h=>?_,λi d hn h=>?_,λi v _ h=>st i v h⟩
 .unfold L2.start;simp only[aV,ak,bM,V,O]
 .obtain⟨hi,e⟩:=get i d h;have nl:i∉l:=λz=>by rw[hw i z]at hn;cases hn
  have Y:vs[i]?=some (vs[i]'(by lia)):=aG (by lia);exact⟨_,st i _ Y,(ra i _ d nl Y e).imp (λb hb=>⟨λm z=>(by cases z),λm z=>hb m (uM.mp z).1 (uM.mp z).2⟩) (λz=>z)⟩
 .obtain⟨hi,e⟩:=get i d h;have nl:i∉l:=λz=>by rw[hw i z]at hn;cases hn
  exact absurd (hp i hi nl) h2
 .obtain⟨h1,h2⟩:=uM.mp h;have e:jV H (λb=>∃j∈l,b∈T j) b=none:=vL ⟨i,h1,h2⟩;exact⟨e,S b ⟨i,h1,h2⟩,.inl ⟨.inr (hw i h1),e⟩⟩
 .exact dj i (uM.mp h).1 X (uM.mp h').1 b (uM.mp h).2 (uM.mp h').2
 .show(if i∈l then T i else [])=[];rw[if_neg λz=>by rw[hw i z]at h;cases h]
 .obtain⟨hi,e⟩:=get i d h;have Z:i∈l:=by
   by_cases z:i∈l
   .exact z
   .rw[hp i hi z]at hn;cases hn
  have Y:vs[i]?=some (vs[i]'(by lia)):=aG (by lia);obtain⟨r1,r2⟩:=rt i _ d Z Y e;have en:(owT l T).n i=T i:=if_pos Z;rw[en];exact⟨_,st i _ Y,r1,r2⟩
section
variable{k:Nat}{fs:FS}{fl:List Fl}{l:List Nat}
structure FunX(K:aaa)(m x:Str)(st:et)(f:Addr)(fd:ee):Prop where
 ex:∃(oc:Value)(od:Option Addr)(dV kV doc pm:Value)(an:Option Addr)(cdv ct:Value)(osl:Array (Option Value)),
  fd=aac m x (j7 st) (dR st) (aR st) dV kV doc pm an cdv ct/\K.lookup f=some ⟨oc,od,.func fd,osl⟩/\aah K cdv x=true
def FunX.ok{m:Str}(F:FunX K m x st f fd)(S:FnScope N ps (aR st))(len:∀vs H Q E,sp vs H Q E->vs.length=ps.length)
 (O:∀(cdv:Value)(A:dQ)(outer:List Env)(s:dv)(H:Hp)(vs:List V)(Q:VK)(E:XK),Room k (A.deeper (envOfC x (aR st) s.heap.objs.size f cdv))->sp vs H Q E ->
  ∃t,PSs (nQ CX0 P w K mg base N x (aR st) f cdv A outer s H E).nox (dR st) t/\t {nx:=λ_ H'=>Q .non H',rt:=Q} (L2.start N vs) H):FnOk P w K mg base CX0 (k+1) f fd ps sp:=by
 obtain⟨oc,od,dV,kV,doc,pm,an,cdv,ct,osl,rfl,lk,hcd⟩:=F.ex;refine Pu lk hcd S len λA outer s H vs Q E Y Z=>?_
 obtain⟨t,h,q⟩:=O cdv A outer s H vs Q E Y Z;exact⟨t,h.nox,q⟩
def Rn(Fn:FunX K m x st f fd)(S:FnScope N ps (aR st))(hp:∀i,i<ps.length->i∉l->fl[i]?=some .A)(hw:∀i∈l,fl[i]?=some .W)(hN:ps.length<=N.length)
 (O:∀(f:Addr)(cdv:Value)(A:dQ)(outer:List Env)(s:dv)(H:Hp)(E:XK),Room k (A.deeper (envOfC x (aR st) s.heap.objs.size f cdv))->DWs (cx P w K mg base N x st f cdv A outer s H E) fl l (dR st) fs):
 FnOk P w K mg base CX0 (k+1) f fd ps (spW K l (fnW ps.length (N.length-ps.length) l fs)):=by
 refine Fn.ok S (λvs H Q E h=>?_) (λcdv A outer s H vs Q E L h=>?_)
 .obtain⟨ds,T,d,r,Z,_⟩:=h;unfold fnW at Z;by_cases z:ds.length=ps.length
  .rwa[r.ln]
  .rw[if_neg z]at Z;cases Z
 .obtain⟨ds,T,d,r,Z,q⟩:=h;refine⟨_,O f cdv A outer s H E L,?_⟩;unfold fnW at Z;by_cases z:ds.length=ps.length
  .rw[if_pos z]at Z;have R:=zB (K:=K) (N:=N) ps.length hp hw z hN r;have U:=λM Y v H' T' V X J e4=>q M Y v H' T' V X J (post_of r e4)
   unfold Rm at Z;split at Z
   .next c' I G e=>
    cases Z;exact⟨_,_,_,_,R,e,U⟩
   .next δ' e=>
    refine aQ Z λM V X=>?_
    cases X;exact⟨_,_,_,_,R,e,λow' σ' H' R'=>zy R' hw V U rfl .non⟩
   .cases Z
  .rw[if_neg z]at Z;cases Z
def Ro(Dd:Dg K mg x st ps)(S:FnScope N ps (aR st))(U:∀i,i<ps.length->i∉l->fl[i]?=some .A)(hw:∀i∈l,fl[i]?=some .W)(Y:ps.length<=N.length)
 (O:∀(f:Addr)(cdv:Value)(A:dQ)(outer:List Env)(s:dv)(H:Hp)(E:XK),Room k (A.deeper (envOfC x (aR st) s.heap.objs.size f cdv))->DWs (cx P w K mg base N x st f cdv A outer s H E) fl l (dR st) fs):
 Has P w K mg base (k+1) x ps (spW K l (fnW ps.length (N.length-ps.length) l fs)):=by
 obtain⟨f,fd,Z,b,m⟩:=Dd.ex;exact⟨f,fd,Rn ⟨Z.ex⟩ S U hw Y O,b,Z.kp,m⟩
end
def okS(ow:Ow)(S:List (Option Nat)):Ok:=λb=>∀s,some s∈S->b∉ow.n s
inductive AOk(K:aaa)(ow:Ow)(σ:D3.St)(δ:DS)(H:Hp)(S:List (Option Nat)):List (Option Nat)->List V->List D->Prop
 |nil:AOk K ow σ δ H S [] [] []
 |nm {i:Nat} {v:V} {d:D} {sl:List (Option Nat)} {vs:List V} {ds:List D}:σ[i]?=some (some v)->δ[i]?=some (some (.d d))->AOk K ow σ δ H S sl vs ds->AOk K ow σ δ H S (some i::sl) (v::vs) (d::ds)
 |ex {v:V} {d:D} {sl:List (Option Nat)} {vs:List V} {ds:List D}:RA K (okS ow S) true H v d->AOk K ow σ δ H S sl vs ds->AOk K ow σ δ H S (none::sl) (v::vs) (d::ds)
section
variable{ow:Ow}{σ:D3.St}{δ:DS}{H:Hp}{S:List (Option Nat)}
theorem AOk.len:∀{sl:List (Option Nat)}{vs:List V}{ds:List D},AOk K ow σ δ H S sl vs ds->vs.length=ds.length/\sl.length=ds.length
 |_,_,_,.nil=>⟨rfl,rfl⟩
 |_,_,_,.nm _ _ q=>by simp[q.len.1,q.len.2]
 |_,_,_,.ex _ q=>by simp[q.len.1,q.len.2]
theorem AOk.name:∀{sl:List (Option Nat)}{vs:List V}{ds:List D}{i s:Nat},AOk K ow σ δ H S sl vs ds->sl[i]?=some (some s)->∃v d,vs[i]?=some v/\ds[i]?=some d/\σ[s]?=some (some v)/\δ[s]?=some (some (.d d))
 |_,_,_,_,_,.nil,h=>by simp at h
 |_,_,_,0,_,.nm a b _,h=>by cases h;exact⟨_,_,rfl,rfl,a,b⟩
 |_,_,_,0,_,.ex _ _,h=>by cases h
 |_,_,_,i+1,_,.nm _ _ q,h=>by
  obtain⟨v,d,h1,h2,h3⟩:=q.name (i:=i) (by simpa using h);exact⟨v,d,by simpa using h1,by simpa using h2,h3⟩
 |_,_,_,i+1,_,.ex _ q,h=>by
  obtain⟨v,d,h1,h2,h3⟩:=q.name (i:=i) (by simpa using h);exact⟨v,d,by simpa using h1,by simpa using h2,h3⟩
theorem AOk.dat:∀{sl:List (Option Nat)}{vs:List V}{ds:List D}{i:Nat}{v:V}{d:D},AOk K ow σ δ H S sl vs ds->(∀s,sl[i]? ≠ some (some s))->vs[i]?=some v->ds[i]?=some d->RA K (okS ow S) true H v d
 |_,_,_,_,_,_,.nil,_,h,_=>by simp at h
 |_,_,_,0,_,_,.nm _ _ _,n,_,_=>absurd rfl (n _)
 |_,_,_,0,_,_,.ex r _,_,h1,h2=>by cases h1;cases h2;exact r
 |_,_,_,i+1,_,_,.nm _ _ q,n,h1,h2=>q.dat (i:=i) (λs z=>n s (by simpa using z)) (by simpa using h1) (by simpa using h2)
 |_,_,_,i+1,_,_,.ex _ q,n,h1,h2=>q.dat (i:=i) (λs z=>n s (by simpa using z)) (by simpa using h1) (by simpa using h2)
end
noncomputable def tWA(K:aaa)(fl:List Fl)(S sl:List (Option Nat))(f:FA):TA:=λσ H Q=>∃G ow δ ds,Rel K fl G ow σ H δ/\f δ=some ds/\∀vs H',Same H H'->AOk K ow σ δ H' S sl vs ds->Q vs H'
abbrev DWA(X:Cx)(fl:List Fl)(S sl:List (Option Nat))(es:List Expr)(f:FA):Prop:=PA X es (tWA X.K fl S sl f)
noncomputable def uN:List Nat->List D->DS->DS
 |s::l,d::r,δ=>uN l r (δ.set s (some (.d d)))
 |_,_,δ=>δ
theorem vN:∀(l:List Nat)(r:List D)(δ:DS),(uN l r δ).length=δ.length
 |[],_,_=>rfl
 |_::_,[],_=>rfl
 |s::l,d::r,δ=>by rw[uN,vN l r,bL]
theorem yh:∀{l:List Nat}{r:List D}{δ:DS}{j:Nat},j∉l->(uN l r δ)[j]?=δ[j]?
 |[],_,_,_,_=>rfl
 |_::_,[],_,_,_=>rfl
 |s::l,d::r,δ,j,h=>by
  rw[uN,yh λz=>h (aA _ z),aB λz=>h (by rw[z];exact au)]
theorem K5:∀{l:List Nat}{r:List D}{δ:DS}{k s:Nat}{d:D},l.Nodup->(∀i∈l,i<δ.length)->l[k]?=some s->r[k]?=some d->(uN l r δ)[s]?=some (some (.d d))
 |[],_,_,_,_,_,_,_,h,_=>by simp at h
 |_::_,[],_,_,_,_,_,_,_,h=>by simp at h
 |t::l,e::r,δ,0,s,d,nd,lt,h1,h2=>by
  cases h1
  cases h2;rw[uN,yh (bK.mp nd).1,bH (lt _ au)]
 |t::l,e::r,δ,k+1,s,d,nd,lt,h1,h2=>by
  rw[uN];exact K5 (bK.mp nd).2 (λi hi=>by rw[bL];exact lt i (aA _ hi)) (by simpa using h1) (by simpa using h2)
def tEW(K:aaa)(fl:List Fl)(f:DS->Option (D×DS)):TE:=λσ H Q=>∃G ow δ d δ',Rel K fl G ow σ H δ/\f δ=some (d,δ')/\∀v H' ow',Rel K fl G ow' σ H' δ'->flat d=true->RA K ok0 false H' v d->Q v H'
abbrev DEW(X:Cx)(fl:List Fl)(e:Expr)(f:DS->Option (D×DS)):Prop:=PE X e (tEW X.K fl f)
section
variable{X:Cx}{fl:List Fl}{f:FE}{fr:FA}{S sl:List (Option Nat)}
def vO:DWA X fl S [] [] aX:=PA.imp iJ λσ H Q h=>by
 refine bV h λG ow δ ds R Z q=>?_
 cases Z;exact q [] H (Same.refl H) .nil
def mU(h:DE X fl .A e f)(O:DWA X fl S sl es fr)(hs:starEach (e::es) X.env=(false,eval e X.env)::starEach es X.env:=by exact fX rfl):DWA X fl S (none::sl) (e::es) (aq f fr):=PA.imp (dO h O hs) λσ H Q h=>by
 refine bV h λG ow δ ds R Z q=>?_
 refine aQ Z λd W Z=>?_
 refine aQ Z λr Y Z=>?_
 cases Z;exact⟨G,ow,δ,d,R,W,λv H1 s1 r1=>⟨G,ow,δ,r,R.grow s1,Y,λvs H2 s2 r2=>q _ H2 (s1.trans s2) (.ex (RA.imp (λb z s _=>z.2 s) (λz=>z) (RA.same s2 r1)) r2)⟩⟩
def sU(hn:isN fl[i]?=true)(hN:X.N[i]?=some x)(U:DWA X fl S sl es fr)(O:Vis X.env.scope x:=by first|exact Or.inl rfl|exact Or.inr (Or.inl rfl)|exact Or.inr (Or.inr rfl))(hd:(x==("__debug__":Str))=false:=by decide)(hcd:(x==("__classdict__":Str))=false:=by decide)
 (hs:starEach (.Name x p::es) X.env=(false,eval (.Name x p) X.env)::starEach es X.env:=by exact fX rfl):DWA X fl S (some i::sl) (.Name x p::es) (aq (ao i) fr):=PA.imp (dO (fW hN O hd hcd) U hs) λσ H Q h=>by
 refine bV h λG ow δ ds R Z q=>?_
 refine aQ Z λd V Z=>?_
 refine aQ Z λr W Z=>?_
 cases Z;have Y:=eX V;obtain⟨v,h1,_,_⟩:=R.nr i d hn Y;exact⟨v,h1,G,ow,δ,r,R,W,λvs H2 s2 r2=>q _ H2 s2 (.nm h1 Y r2)⟩
end
def N5(d:D)(sw:List Nat)(δ:DS):Option (D×DS):=match d with
 |.tuple (r::ps)=>if flat r=true/\ps.length=sw.length then some (r,uN sw ps δ)else none
 |_=>none
structure SlW(fl:List Fl)(sl:List (Option Nat))(l sw:List Nat):Prop where
 h1:∀(i s:Nat),sl[i]?=some (some s)->i∈l
 h2:∀(i j s:Nat),sl[i]?=some (some s)->sl[j]?=some (some s)->i=j
 h3:sw.length=l.length
 h4:∀(k i s:Nat),l[k]?=some i->sw[k]?=some s->sl[i]?=some (some s)
 h5:sw.Nodup
 h6:∀s∈sw,fl[s]?=some .N\/fl[s]?=some .W
def Rp(K:aaa)(l:List Nat)(fr:Addr->Prop)(H':Hp)(T':Nat->List Addr)(v:V)(r:D):Prop:=∃as,RT K H' v r as/\as.Nodup/\∀a∈as,fr a/\∀i∈l,a∉T' i
def ai8{σ:D3.St}{k:Nat}(R:Rel K fl G ow σ H δ)(O:fl[k]?=some .N)(x:Option V):Rel K fl G (owN ow k []) (σ.set k x) H (δ.set k none):=by
 have sub:∀b,okA ow b->okA (owN ow k []) b:=λb z=>⟨z.1,λj e=>by
  by_cases y:j=k
  .subst y;rw[gG]at e;cases e
  .rw[dW y]at e;exact z.2 j e⟩
 have Z:∀j b,b∈(owN ow k []).n j->j≠k/\b∈ow.n j:=λj b e=>by
  by_cases y:j=k
  .subst y;rw[gG]at e;cases e
  .rw[dW y]at e;exact⟨y,e⟩
 have dd:∀j d,(δ.set k none)[j]?=some (some (.d d))->j≠k/\δ[j]?=some (some (.d d)):=λj d e=>by
  by_cases y:k=j
  .subst y;rw[List.getElem?_set_self']at e
   cases z:δ[k]? <;> (rw[z]at e;cases e)
  .rw[aB y]at e;exact⟨dL y,e⟩
 have ss:∀j,j≠k->(σ.set k x)[j]?=σ[j]?:=λj y=>aB (dL y)
 refine⟨R.s0,R.s1,by rw[bL,bL];exact R.len,λj a h=>?_,R.inj,R.pin,λj d h1 hn h2=>?_,λj d h1 hn h2 h3=>R.oo j d (dd j d h1).2 hn h2 h3,λj a h=>R.nt j a (Z j a h).2,λi j a h1 h2=>R.nd i j a (Z i a h1).2 (Z j a h2).2,λi j a h1=>R.ns i j a (Z i a h1).2,λj h=>?_,λj d hn h1=>?_,λj u h e=>?_⟩
 .obtain⟨X,Y,xs,ds,g1,g2,g3,W⟩:=R.own j a h;have y:j≠k:=λz=>by rw[z,O]at Y;rcases Y with⟨w,_⟩|⟨w,_⟩<;>cases w
  exact⟨X,Y,xs,ds,by rw[ss j y];exact g1,g2,g3.imp sub (λz=>z),by rw[aB (dL y)];exact W⟩
 .obtain⟨y,e⟩:=dd j d h1;obtain⟨v,g1,g2⟩:=R.dat j d e hn h2;exact⟨v,by rw[ss j y];exact g1,g2.imp sub (λz=>z)⟩
 .have y:j≠k:=λz=>by rw[z,O]at h;cases h
  rw[dW y];exact R.np j h
 .obtain⟨y,e⟩:=dd j d h1;obtain⟨v,g1,g2,g3⟩:=R.nr j d hn e;exact⟨v,by rw[ss j y];exact g1,by rw[dW y];exact g2,by rw[dW y];exact g3⟩
 .have y:j≠k:=λz=>by rw[z,O]at h;cases h
  rw[ss j y];exact R.fx j u h e
open Classical in
def Bt{σ:D3.St}{sl:List (Option Nat)}{l:List Nat}(W:SlW fl sl l sw)(R:Rel K fl G ow σ H δ)(s:Same H H1)(a:AOk K ow σ δ H1 sl sl vs ds):
 ∃T:Nat->List Addr,PreW K l H1 vs ds T/\∀H' T' qs,PostW K l H1 T vs H' T' qs->qs.length=sw.length->(∃ow',Rel K fl G ow' σ H' (uN sw qs δ))/\∀k v r,fl[k]?=some .N->k∉sw->k<δ.length->Rp K l (λa=>(∃j∈l,a∈T j)\/H1 a=none) H' T' v r->∃ow',Rel K fl G ow' (σ.set k (some v)) H' ((uN sw qs δ).set k (some (.d r))):=by
 obtain⟨h1,h2,h3,h4,h5,h6⟩:=W;have F:=R.grow s;have L:∀i∈l,∃s,sl[i]?=some (some s)/\s∈sw:=λi hi=>by
  obtain⟨k,S⟩:=rC.mp hi;have Q:k<sw.length:=by rw[h3];exact(aH.mp S).1
  exact⟨_,h4 k i _ S (aG Q),ju Q⟩
 have C:∀s∈sw,∃k i,sw[k]?=some s/\l[k]?=some i/\sl[i]?=some (some s):=λs hs=>by
  obtain⟨k,S⟩:=rC.mp hs;have Q:k<l.length:=by rw[<-h3];exact(aH.mp S).1
  exact⟨k,_,S,aG Q,h4 k _ s (aG Q) S⟩
 have isT:∀s∈sw,isN fl[s]?=true:=λs hs=>by rcases h6 s hs with y|y<;>(rw[y];rfl)
 obtain⟨T,I⟩:∃T:Nat->List Addr,∀(i s:Nat),sl[i]?=some (some s)->T i=ow.n s:=⟨λi=>match sl[i]? with|some (some s)=>ow.n s|_=>[],λi s e=>by dsimp only;rw[e]⟩;have E:(λb=>∃j∈l,b∈T j)=ofJ (λs=>decide (s∈sw)) ow.n:=funext λb=>propext ⟨λ⟨j,V,hb⟩=>by
  obtain⟨s,hs,hw⟩:=L j V;exact⟨s,dTr hw,by rwa[<-I j s hs]⟩,λ⟨s,hs,hb⟩=>by
  obtain⟨k,i,_,X,hi⟩:=C s (of_decide_eq_true hs);exact⟨i,cY X,by rw[I i s hi];exact hb⟩⟩
 refine⟨T,⟨F.tb,a.len.1,λi hi=>?_,λi v y c u hd=>?_,λi v y hi u hd=>?_,λi hi j V b hb Z=>?_⟩,λH' T' qs ⟨g3,g5,g6,g7⟩ ql=>?_⟩
 .obtain⟨s,hs,_⟩:=L i hi;rw[<-a.len.2];exact(aH.mp hs).1
 .refine(a.dat (λs z=>c (h1 i s z)) u hd).imp (λb hb j V z=>?_) (λz=>z);obtain⟨s,hs,_⟩:=L j V;rw[I j s hs]at z;exact hb s (cY hs) z
 .obtain⟨s,hs,hw⟩:=L i hi;obtain⟨U,d',k1,k2,k3,P⟩:=a.name hs;rw[u]at k1;rw[hd]at k2
  cases k1
  cases k2;obtain⟨U,D,A,B⟩:=F.nr s y (isT s hw) P;rw[k3]at D
  cases D;rw[I i s hs];exact⟨A,B⟩
 .obtain⟨s,hs,_⟩:=L i hi;obtain⟨s',Y,_⟩:=L j V;rw[I i s hs]at hb;rw[I j s' Y]at Z;have:=F.nd s s' b hb Z;rw[<-this]at Y;exact h2 i j s hs Y
 .obtain⟨as,p⟩:∃as:Nat->List Addr,∀(i s:Nat),sl[i]?=some (some s)->as s=T' i:=⟨λs=>if z:∃i,sl[i]?=some (some s)then T' (Classical.choose z)else [],λi s e=>by
   have z:∃i,sl[i]?=some (some s):=⟨i,e⟩;dsimp only;rw[dif_pos z,h2 _ i s (fo z) e]⟩
  have lt:∀s∈sw,s<δ.length:=λs hs=>by
   obtain⟨k,i,_,_,hi⟩:=C s hs;obtain⟨_,_,_,_,_,P⟩:=a.name hi;exact(aH.mp P).1
  have fr:∀i,i∈l->∀b,b∈T' i->ofJ (λs=>decide (s∈sw)) ow.n b\/H1 b=none:=λi hi b hb=>by
   have:=g6 i hi b hb;have e:(∃j∈l,b∈T j)=ofJ (λs=>decide (s∈sw)) ow.n b:=congrFun E b;rw[e]at this;exact this
  have at_:∀s,s∈sw->∃i U y,i∈l/\as s=T' i/\sl[i]?=some (some s)/\σ[s]?=some (some U)/\(uN sw qs δ)[s]?=some (some (.d y))/\RT K H' U y (as s)/\(as s).Nodup:=λs hs=>by
   obtain⟨k,i,S,X,hi⟩:=C s hs;obtain⟨U,d',k1,k2,k3,P⟩:=a.name hi;obtain⟨y,D,A,B⟩:=g5 k i U X k1;exact⟨i,U,y,cY X,p i s hi,hi,k3,K5 h5 lt S D,by rw[p i s hi];exact A,by rw[p i s hi];exact B⟩
  have dj:∀s s',s∈sw->s'∈sw->∀b,b∈as s->b∈as s'->s=s':=λs s' hs Y b hb Z=>by
   obtain⟨i,_,_,X,M,hi,_⟩:=at_ s hs;obtain⟨i',_,_,t,e2,q,_⟩:=at_ s' Y;rw[M]at hb;rw[e2]at Z;have:=g7 i X i' t b hb Z;rw[this,q]at hi
   cases hi;rfl
  refine⟨⟨Jt ow (λs=>decide (s∈sw)) as,Xu F (λs hs=>h6 s (of_decide_eq_true hs)) (vN _ _ _) (λs hs=>yh (of_decide_eq_false hs)) (by rw[<-E];exact g3) (λs hs=>?_) (λs hs b hb=>?_) λs s' hs Y=>dj s s' (of_decide_eq_true hs) (of_decide_eq_true Y)⟩,λk v r S f Q ⟨bs,g,h,o⟩=>?_⟩
  .obtain⟨_,U,y,_,_,_,k3,P,k5,x⟩:=at_ s (of_decide_eq_true hs);exact⟨U,y,k3,P,k5,x⟩
  .obtain⟨i,_,_,X,M,_⟩:=at_ s (of_decide_eq_true hs);rw[M]at hb;exact fr i X b hb
  .have pk:ofJ (λs=>decide (s∈sw)||decide (s=k)) (owN ow k []).n=ofJ (λs=>decide (s∈sw)) ow.n:=funext λb=>propext ⟨λ⟨j,V,hb⟩=>by
    by_cases y:j=k
    .subst y;rw[gG]at hb;cases hb
    .rw[dW y]at hb;exact⟨j,by simpa[y]using V,hb⟩,λ⟨j,V,hb⟩=>by
    have y:j≠k:=λz=>f (z▸of_decide_eq_true V)
    have V:=of_decide_eq_true V;exact⟨j,by simp[V],by rw[dW y];exact hb⟩⟩
   have cs:∀s,(decide (s∈sw)||decide (s=k))=true->s=k\/(s≠k/\s∈sw):=λs hs=>by
    by_cases y:s=k
    .exact .inl y
    .exact .inr ⟨y,by simpa[y]using hs⟩
   have kq:k<(uN sw qs δ).length:=by rw[vN];exact Q
   have ks:k<σ.length:=by rw[R.len];exact Q
   refine⟨_,Xu (J:=λs=>decide (s∈sw)||decide (s=k)) (as:=λs=>if s=k then bs else as s) (ai8 F S (some v)) (λs hs=>?_) (by rw[bL,bL,vN]) (λs hs=>?_) (by rw[pk,<-E];exact g3) (λs hs=>?_) (λs hs b hb=>?_) λs s' hs Y b hb Z=>?_⟩
   .rcases cs s hs with y|y
    .rw[y];exact .inl S
    .exact h6 s y.2
   .have y:s≠k:=λz=>by simp[z]at hs
    have m:s∉sw:=λz=>by simp[z]at hs
    rw[aB (dL y),aB (dL y),yh m]
   .rcases cs s hs with y|y
    .subst y;exact⟨v,r,bH ks,bH kq,by rw[if_pos rfl];exact g,by rw[if_pos rfl];exact h⟩
    .obtain⟨_,U,w,_,_,_,k3,P,k5,x⟩:=at_ s y.2;exact⟨U,w,by rw[aB (dL y.1)];exact k3,by rw[aB (dL y.1)];exact P,by rw[if_neg y.1];exact k5,by rw[if_neg y.1];exact x⟩
   .rw[pk];rcases cs s hs with y|y
    .rw[if_pos y]at hb;have:(∃j∈l,b∈T j)\/H1 b=none:=(o b hb).1;have e:(∃j∈l,b∈T j)=ofJ (λs=>decide (s∈sw)) ow.n b:=congrFun E b;rw[e]at this;exact this
    .rw[if_neg y.1]at hb;obtain⟨i,_,_,X,M,_⟩:=at_ s y.2;rw[M]at hb;exact fr i X b hb
   .have no:∀s,s∈sw->b∈as s->b∉bs:=λs hs h1 h2=>by
     obtain⟨i,_,_,X,M,_⟩:=at_ s hs;rw[M]at h1;exact(o b h2).2 i X h1
    rcases cs s hs with y|y<;>rcases cs s' Y with O|O
    .rw[y,O]
    .rw[if_pos y]at hb;rw[if_neg O.1]at Z;exact absurd hb (no s' O.2 Z)
    .rw[if_neg y.1]at hb;rw[if_pos O]at Z;exact absurd Z (no s y.2 hb)
    .rw[if_neg y.1]at hb;rw[if_neg O.1]at Z;exact dj s s' y.2 O.2 b hb Z
def zE{σ:D3.St}{sl:List (Option Nat)}{l:List Nat}{U:D}{F:List D->Option D}{Q:V->Hp->Prop}(W:SlW fl sl l sw)(R:Rel K fl G ow σ H δ)(s:Same H H1)(a:AOk K ow σ δ H1 sl sl vs ds)(e2:F ds=some d)(O:N5 d sw δ=some (U,δ'))
 (q:∀v H' ow',Rel K fl G ow' σ H' δ'->flat U=true->RA K ok0 false H' v U->Q v H'):spW K l F vs H1 Q E:=by
 obtain⟨T,p,g⟩:=Bt W R s a;refine⟨ds,T,d,p,e2,λr qs v H' T' g1 g2 Y Z=>?_⟩;subst g1;unfold N5 at O;dsimp only at O;by_cases c:flat r=true/\qs.length=sw.length
 case neg=>rw[if_neg c]at O;cases O
 rw[if_pos c]at O
 cases O;obtain⟨ow',R'⟩:=(g H' T' qs Z c.2).1;exact q v H' ow' R' c.1 Y
def zF(F:List D->Option D)(fa:FA)(sw:List Nat):DS->Option (D×DS):=λδ=>(fa δ).bind λds=>(F ds).bind λd=>N5 d sw δ
def GJ{sw:List Nat}(h:Has X.prog X.w X.K X.mg X.base n x ps (spW X.K t F))(Y:Room n X.A)(ha:DWA X fl r r (c::k) fa)(W:SlW fl r t sw)
 (hg:Gl X x:=by rfl) (U:(x==("__debug__":Str))=false:=by decide)
 (he:starEach (c::k) X.env=(false,eval c X.env)::starEach k X.env:=by exact fX rfl) (O:(backTo m (starEach k X.env)).any (·.1)=false:=by exact vH rfl):
 DEW X fl (.Call (.Name x p) (c::k) [] m) (zF F fa sw):=PE.imp (Fv h Y ha hg U he O) λσ H Q hq=>by
 obtain⟨G,ow,δ,S,δ',R,Z,q⟩:=hq;refine aQ Z λds T Z=>?_
 refine aQ Z λd V Z=>?_
 refine⟨G,ow,δ,ds,R,T,λvs H1 s a=>?_⟩;show spW X.K t F (vs++[]) H1 Q E0;rw[cA];exact zE W R s a V Z q
noncomputable def nmS:List (D×D)->Option (List Str)
 |[]=>some []
 | (.str x,_)::r=>(nmS r).map (x :: ·)
 |_=>none
def isC(C:Addr)(ns:List Str):D->Option (List D)
 |.dict ((.none,.tuple [.int i])::r)=>if i=(C:Int)/\nmS r=some ns then some (r.map (·.2))else none
 |_=>none
theorem GK:∀{ns:List Str}{ds:List D},ns.length=ds.length->nmS (Ck ns ds)=some ns/\(Ck ns ds).map (·.2)=ds
 |[],[],_=>⟨rfl,rfl⟩
 |n::ns,d::ds,h=>by
  obtain⟨h1,h2⟩:=GK (Nat.succ.inj h);exact⟨by rw[Ck,nmS,h1];rfl,by rw[Ck,aD,h2]⟩
def Rq(Y:O.length=ds.length)(h:isC C m (.dict (tZ k O ds))=some q):k=C/\O=m/\q=ds:=by
 obtain⟨h1,h2⟩:=GK Y;unfold isC tZ at h;dsimp only at h;split at h
 .next c=>
  cases h;rw[h1]at c;exact⟨Int.ofNat.inj c.1,cG.inj c.2,h2⟩
 .cases h
section
variable{H:Hp}{v:V}{d:D}{ns:List Str}{ds:List D}{ok:Ok}
theorem zG(r:RT K H v d as)(h:isC C ns d=some ds):∃a dx fs,v=.ref a/\H a=some (.ins C dx fs)/\H dx=some (.own a)/\fs.map (·.1)=ns/\RTs K H (fs.map (·.2)) ds as:=by
 cases r with
 |ins e g q z=>
  subst z;have Z:=q.len;obtain⟨rfl,h2,rfl⟩:=Rq (by rw[<-Z,ak,ak]) h;exact⟨_,_,_,rfl,e,g,h2,q⟩
 |dic e g=>
  have:=g.isI;unfold isC at h;split at h
  .next z=>cases z;cases this
  .cases h
 |_=>cases h
theorem Dt(r:RA K ok pl H v d)(h:isC C ns d=some ds):∃a dx fs,v=.ref a/\H a=some (.ins C dx fs)/\H dx=some (.own a)/\fs.map (·.1)=ns/\RAs K ok pl H (fs.map (·.2)) ds:=by
 cases r with
 |ins e g q z=>
  subst z;have Z:=q.length;obtain⟨rfl,h2,rfl⟩:=Rq (by rw[<-Z,ak,ak]) h;exact⟨_,_,_,rfl,e,g,h2,q⟩
 |dic e g=>
  have:=g.isI;unfold isC at h;split at h
  .next z=>cases z;cases this
  .cases h
 |dik e g=>
  have:=g.isI;unfold isC at h;split at h
  .next z=>cases z;cases this
  .cases h
 |_=>cases h
end
theorem mY:∀{fs:List (Str×V)}{m:Str},m∉fs.map (·.1)->fs.lookup m=none
 |[],_,_=>rfl
 | (x,v)::fs,m,h=>by
  have h1:m≠x:=λz=>h (by rw[z];exact au)
  rw[cj,show(m==x)=false from by simpa using h1];exact mY λz=>h (aA _ z)
theorem pH:∀{fs:List (Str×V)}{m:Str}{k:Nat},(fs.map (·.1))[k]?=some m->(∀j,j<k->(fs.map (·.1))[j]? ≠ some m)->∃v,fs.lookup m=some v/\(fs.map (·.2))[k]?=some v
 |[],_,_,h,_=>by simp at h
 | (x,v)::fs,m,0,h,_=>by
  have:x=m:=by simpa using h
  subst this;exact⟨v,by rw[cj];simp,rfl⟩
 | (x,v)::fs,m,k+1,h,n=>by
  have h1:m≠x:=λz=>n 0 (Nat.succ_pos _) (by rw[z];rfl)
  obtain⟨w,X,Z⟩:=pH (fs:=fs) (m:=m) (k:=k) (by simpa using h) λj Y z=>n (j+1) (by lia) (by simpa using z)
  exact⟨w,by rwa[cj,show(m==x)=false from by simpa using h1],by simpa using Z⟩
structure HasM(P:dA)(w:d4)(K:aaa)(mg:Str->Option Value)(base:eg)(n:Nat)(C:Addr)(m:Str)(ps:List Str)(sp:Sp):Prop where
 ex:∃(f:Addr)(fd:ee),FnOk P w K mg base CX0 n f fd ps sp/\Binds K fd ps []/\Meth K C m f
 cl:Cls K C
section
variable{X:Cx}{fl:List Fl}{m:Str}{F:List D->Option D}{fa:FA}{ns:List Str}{f:FE}
def iu(F:List D->Option D)(C:Addr)(ns:List Str)(f:FE)(fa:FA):FE:=λδ=>(f δ).bind λd=>(isC C ns d).bind λ_=>(fa δ).bind λds=>F (d::ds)
def sV(F:List D->Option D)(C:Addr)(ns:List Str)(i:Nat)(fa:FA)(sw:List Nat):DS->Option (D×DS):=λδ=>(ao i δ).bind λd=>(isC C ns d).bind λ_=>(fa δ).bind λds=>(F (d::ds)).bind λr=>N5 r sw δ
def vQ{pl:Sem Bool}{o:Expr}(h:HasM X.prog X.w X.K X.mg X.base n C m ps (spD X.K F))(hr:Room n X.A)(hm:m∉ns)(ho:DE X fl .P o f)(ha:DB X fl .P (e::es) fa)
 (he:starEach (e::es) X.env=(false,eval e X.env)::starEach es X.env:=by exact fX rfl) (O:(backTo pos (starEach es X.env)).any (·.1)=false:=by exact vH rfl)
 (ht:eval (.Call (.Attribute o m apos) (e::es) [] pos) X.env=(do
  let U <-eval o X.env
  standAt apos.atName
  let(f,fi) <-holding [U] (getMethod U m pl)
  callWith pos f fi (backTo pos (starEach (e::es) X.env)) (backToKw pos (keywordEach [] X.env))):=by rfl):
 DE X fl .C (.Call (.Attribute o m apos) (e::es) [] pos) (iu F C ns f fa):=by
 obtain⟨g,fd,L,b,M⟩:=h.ex;refine PE.imp (J9 (E:=E0) ho h.cl M L hr b .nil Ft ha he O ht) λσ H Q hq=>?_
 refine bV hq λG ow δ r R Z q=>?_
 refine aQ Z λd N Z=>?_
 refine aQ Z λxs S Z=>?_
 refine aQ Z λds T Z=>?_
 refine⟨G,ow,δ,d,R,N,λv H0 s0 k2=>?_⟩;have k2:=k2;obtain⟨a,dx,fs,rfl,V,J,W,_⟩:=Dt k2 S;refine⟨a,dx,fs,rfl,V,mY (by rwa[W]),G,ow,δ,ds,R.grow s0,T,λvs H' s Y=>?_⟩;show spD X.K F (.ref a::(vs++[])) H' Q E0;rw[cA];exact⟨d::ds,r,⟨(R.grow s0).tb.same s,.cons (k2.same s) Y⟩,Z,λv H2 s2 r2=>q v H2 ((s0.trans s).trans s2) (RA.imp (λa z=>(s0.trans s).free z) (λz=>z) r2)⟩
def GP{sw:List Nat}(h:HasM X.prog X.w X.K X.mg X.base n C m ps (spW X.K t F))(hr:Room n X.A)(hi:isN fl[i]?=true)(hN:X.N[i]?=some x)(hm:m∉ns)(ha:DWA X fl (some i::k) k (e::es) fa)(W:SlW fl (some i::k) t sw)(hv:Vis X.env.scope x:=by first|exact Or.inl rfl|exact Or.inr (Or.inl rfl)|exact Or.inr (Or.inr rfl))(hd:(x==("__debug__":Str))=false:=by decide)(hcd:(x==("__classdict__":Str))=false:=by decide)
 (he:starEach (e::es) X.env=(false,eval e X.env)::starEach es X.env:=by exact fX rfl) (O:(backTo pos (starEach es X.env)).any (·.1)=false:=by exact vH rfl)
 (ht:eval (.Call (.Attribute (.Name x p) m apos) (e::es) [] pos) X.env=(do
  let U <-eval (.Name x p) X.env
  standAt apos.atName
  let(f,fi) <-holding [U] (getMethod U m c)
  callWith pos f fi (backTo pos (starEach (e::es) X.env)) (backToKw pos (keywordEach [] X.env))):=by rfl):
 DEW X fl (.Call (.Attribute (.Name x p) m apos) (e::es) [] pos) (sV F C ns i fa sw):=by
 obtain⟨g,fd,I,b,M⟩:=h.ex;refine PE.imp (J9 (E:=E0) (fW hN hv hd hcd) h.cl M I hr b .nil Ft ha he O ht) λσ H Q hq=>?_
 obtain⟨G,ow,δ,B,δ',R,Z,q⟩:=hq;refine aQ Z λd J Z=>?_
 refine aQ Z λxs L Z=>?_
 refine aQ Z λds P Z=>?_
 refine aQ Z λr e4 Z=>?_
 have Y:=eX J;obtain⟨v,k1,k2,k3⟩:=R.nr i d hi Y;obtain⟨a,dx,fs,rfl,S,D,T,_⟩:=zG k2 L;refine⟨_,k1,a,dx,fs,rfl,S,mY (by rwa[T]),G,ow,δ,ds,R,P,λvs H' s V=>?_⟩;show spW X.K t F (.ref a::(vs++[])) H' Q E0;rw[cA];exact zE W R s (.nm k1 Y V) e4 Z q
def rG(C:Addr)(ns:List Str)(k:Nat)(f:FE):FE:=λδ=>(f δ).bind λd=>(isC C ns d).bind λds=>ds[k]?
def mH(he:DE X fl .P e f)(c:Cls X.K C)(O:jD X.K C m)(hk:ns[k]?=some m)(hn:∀j,j<k->ns[j]? ≠ some m)(hb:attributeBase e m X.env (eval e X.env)=eval e X.env):DE X fl .P (.Attribute e m pos) (rG C ns k f):=PE.imp (Ca he hb) λσ H Q hq=>by
 refine bV hq λG ow δ r R Z q=>?_
 refine aQ Z λd N Z=>?_
 refine aQ Z λds S Z=>?_
 refine⟨G,ow,δ,d,R,N,λv H' s r1=>?_⟩;have r1:=r1;obtain⟨a,dx,fs,rfl,V,M,Y,W⟩:=Dt r1 S;obtain⟨w,g1,g2⟩:=pH (fs:=fs) (m:=m) (k:=k) (by rwa[Y]) λj U=>by rw[Y];exact hn j U
 obtain⟨y,g3,T⟩:=W.get Z;rw[g2]at g3
 cases g3;exact⟨a,C,dx,fs,w,rfl,V,c,O,g1,q w H' s T⟩
end
abbrev FW:=DS->Option (D×DS)
abbrev FTW:=DS->Option (Bool×DS)
def wF(f:FW):FS:=λδ=>(f δ).bind λp=>some (.nx p.2)
def VR(f:FT):FTW:=λδ=>(f δ).map λb=>(b,δ)
def oR(f:FW):FTW:=λδ=>(f δ).bind λp=>match p.1 with
 |.bool b=>some (b,p.2)
 |_=>none
def Bu(f:FTW):FTW:=λδ=>(f δ).map λp=>(!p.1,p.2)
def Zk(f g:FTW):FTW:=λδ=>(f δ).bind λp=>if p.1=true then some (true,p.2)else g p.2
def GQ(f:FTW)(a b:FS):FS:=λδ=>(f δ).bind λp=>if p.1=true then a p.2 else b p.2
noncomputable def tTW(K:aaa)(fl:List Fl)(f:FTW):TT:=λσ H Q=>∃G ow δ b δ',Rel K fl G ow σ H δ/\f δ=some (b,δ')/\∀H' ow',Rel K fl G ow' σ H' δ'->Q b H'
abbrev DTW(X:Cx)(fl:List Fl)(e:Expr)(f:FTW):Prop:=PT X e (tTW X.K fl f)
abbrev DWW(X:Cx)(fl:List Fl)(e:Expr)(f:FTW):Prop:=PW X e (tTW X.K fl f)
section
variable{X:Cx}{fl:List Fl}{a b c:Expr}{f:FW}{fw gw:FTW}{fs gs:FS}{l:List Nat}
def GR(h:DEW X fl e f)(hs:swapsWith e none pos.line X.env=pure false:=by rfl):DS1 X fl (.Expr e pos) (wF f):=PS.imp (nU h hs) λV σ H h=>by
 refine bV h λG ow δ o R Z q=>?_
 obtain⟨⟨d,δ'⟩,W,Y⟩:=bind1 Z
 cases Y;exact⟨G,ow,δ,d,δ',R,W,λv H' ow' R' _ _=>q ow' σ H' R'⟩
theorem tw_of(h:DT X fl e ft):DTW X fl e (VR ft):=PT.imp h λσ H Q h=>by
 obtain⟨G,ow,δ,b,δ',R,Z,q⟩:=h;unfold VR at Z
 cases Y:ft δ with
 |none=>rw[Y]at Z;cases Z
 |some t=>
  rw[Y]at Z
  cases Z;exact⟨G,ow,δ,_,R,Y,λH' s=>q H' ow (R.grow s)⟩
def tw_val(h:DEW X fl e f)(O:∀whole,isTrue e X.env whole=(do let v <-whole;standAt e.pos;holding [v] (truthy v)):=by intro _;rfl):DTW X fl e (oR f):=PT.imp (O2 h O) λσ H Q h=>by
 obtain⟨G,ow,δ,b,δ',R,W,q⟩:=h;obtain⟨⟨d,Y⟩,V,Z⟩:=bind1 W;dsimp only at Z;split at Z
 .next k=>
  cases Z;exact⟨G,ow,δ,_,_,R,V,λv H' ow' R' hd r=>⟨_,RA.blE r,q H' ow' R'⟩⟩
 .cases Z
theorem tw_not(h:DTW X fl a fw):DTW X fl (.UnaryOp .Not a pos) (Bu fw):=PT.imp (O4 h) λσ H Q h=>by
 obtain⟨G,ow,δ,b,δ',R,Z,q⟩:=h;unfold Bu at Z
 cases Y:fw δ with
 |none=>rw[Y]at Z;cases Z
 |some t=>
  rw[Y]at Z
  cases Z;exact⟨G,ow,δ,t.1,t.2,R,Y,λH' ow' R'=>q H' ow' R'⟩
def tw_w(h:DWW X fl a fw):DTW X fl a fw:=PW.pt h
theorem Rr(O:DTW X fl c fw)(h1:DSs X fl body fs)(h2:DSs X fl orelse gs):DS1 X fl (.If c body orelse pos) (GQ fw fs gs):=PS.imp (Fb O h1 h2) λV σ H h=>by
 refine bV h λG ow δ o R Y q=>?_
 obtain⟨⟨t,δ'⟩,W,Z⟩:=bind1 Y;refine⟨G,ow,δ,t,δ',R,W,λH' ow' R'=>?_⟩
 cases t with
 |true=>exact xJ ⟨G,ow',δ',o,R',Z,q⟩
 |false=>exact xH ⟨G,ow',δ',o,R',Z,q⟩
end
def K6(C:Addr)(ns:List Str)(k i:Nat)(f:FE):FS:=λδ=>(ao i δ).bind λy=>(isC C ns y).bind λds=>(f δ).bind λd=>match ds[k]? with
 |some (.list m)=>if flat d=true/\m.length<1000000 then some (.nx (δ.set i (some (.d (.dict (tZ C ns (ds.set k (.list (m++[d])))))))))else none
 |_=>none
def lZ(h:a∈c):Same (less H c) (L2.upd H a u):=λb o e=>by
 by_cases z:b∈c
 .rw[VN z]at e;cases e
 .rw[nF z]at e;rw[aL λy=>z (by rwa[y])];exact e
section
variable{X:Cx}{fl:List Fl}{m:Str}{k:Nat}{f:FE}{ns:List Str}
def V0{O:Pos}(hfl:fl[i]?=some .N\/fl[i]?=some .W)(h:DE X fl .P e f)(hN:X.N[i]?=some x)(c:Cls X.K C)(na:jD X.K C m)(hk:ns[k]?=some m)(hn:∀j,j<k->ns[j]? ≠ some m)
 (hv:Vis X.env.scope x:=by first|exact Or.inl rfl|exact Or.inr (Or.inl rfl)|exact Or.inr (Or.inr rfl)) (hd:(x==("__debug__":Str))=false:=by decide) (hcd:(x==("__classdict__":Str))=false:=by decide)
 (hb:attributeBase (.Name x vpos) m X.env (eval (.Name x vpos) X.env)=eval (.Name x vpos) X.env:=by rfl)
 (hs:swapsWith (.Call (.Attribute (.Attribute (.Name x vpos) m O) "append" apos) [e] [] cpos) none pos.line X.env=pure false:=by rfl)
 (hbase:attributeBase (.Attribute (.Name x vpos) m O) "append" X.env (eval (.Attribute (.Name x vpos) m O) X.env)=eval (.Attribute (.Name x vpos) m O) X.env:=by rfl)
 (hfew:((backTo cpos (starEach [e] X.env)).all (λx=>!x.1)&&(backToKw cpos (keywordEach [] X.env)).all (λx=>x.1.isSome)
  && decide (([e]:List Expr).length+([]:List eM).length+(if([]:List eM).isEmpty then 0 else 1)<30))=true:=by rfl)
 (Y:(apos.endLine==cpos.line)=true:=by rfl) (hst:starEach [e] X.env=(false,eval e X.env)::starEach [] X.env:=by rfl) (U:(backTo cpos (starEach [] X.env)).any (·.1)=false:=by rfl):
 DS1 X fl (.Expr (.Call (.Attribute (.Attribute (.Name x vpos) m O) "append" apos) [e] [] cpos) pos) (K6 C ns k i f):=
 PS.imp (nU (Fj aan aal aam mV (Ca (fW hN hv hd hcd) hb) (dO h iJ hst) hbase hfew Y hst U) hs) λDn σ H t=>by
 refine bV t λG ow δ o R Z q=>?_
 refine aQ Z λy e1 Z=>?_
 refine aQ Z λds e2 Z=>?_
 refine aQ Z λd g Z=>?_
 split at Z
 case h_2=>cases Z
 next l em=>
 by_cases V:flat d=true/\l.length<1000000
 case neg=>rw[if_neg V]at Z;cases Z
 rw[if_pos V]at Z
 cases Z;have isT:isN fl[i]?=true:=by rcases hfl with y|y<;>(rw[y];rfl)
 have E:=eX e1;have hi:=(aH.mp E).1;obtain⟨v,D,c2,c3⟩:=R.nr i y isT E;obtain⟨p,dx,fs,rfl,Q,I,S,J⟩:=zG c2 e2;obtain⟨a,xs,bs,g1,g2,g3,g4,g5,_⟩:=J.part em;obtain⟨w,l1,l2⟩:=pH (fs:=fs) (m:=m) (k:=k) (by rwa[S]) λj A=>by rw[S];exact hn j A
 rw[g1]at l2
 cases l2;refine⟨_,D,p,C,dx,fs,.ref a,rfl,Q,c,na,l1,.inl ⟨rfl,_,SqL.of g2⟩,G,ow,δ,d,R,g,λu H2 s2 r2=>?_⟩;have h2:=s2 _ _ g2;obtain⟨a',B,M,f1,f2,n,r,f5,s⟩:=(J.same s2).part em;rw[g1]at f1
 cases f1;rw[h2]at f2
 cases f2;obtain⟨n1,n2,n3⟩:=s c3;refine⟨a,xs,u,rfl,rfl,h2,by rw[g3.length];exact fV V.2 (by decide),?_⟩;obtain⟨L,r1,T,r3⟩:=n3 (xs++[u]) (l++[d]) M ((RTs.upd h2 n1 n).snoc (RT.upd h2 dD (RT.flat0 V.1 r2))) (λb hb=>hb) n2;refine q (owN ow i L) σ _ (xg (R.grow s2) hfl hi D (lZ r) (.ins (by rw[aL (cF (s2 _ _ Q) h2 (by intro z;cases z))];exact s2 _ _ Q) (by rw[aL (cF (s2 _ _ I) h2 (by intro z;cases z))];exact s2 _ _ I) r1 (by rw[S])) (λb hb=>.inl (r3 b hb)) T)
end
def ssP(S:List (Str×Int)):List (D×D):=S.map λq=>(.str q.1,.int q.2)
noncomputable def ssD:List (D×D)->Option (List (Str×Int))
 |[]=>some []
 | (.str x,.int i)::r=>(ssD r).map ((x,i) :: ·)
 |_=>none
theorem Du:∀{kvs:List (D×D)}{S:List (Str×Int)},ssD kvs=some S->kvs=ssP S
 |[],S,h=>by cases h;rfl
 | (k,v)::r,S,h=>by
  unfold ssD at h;split at h
  .next e=>cases e
  .next x i Z e=>
   cases e
   cases q:ssD r with
   |none=>rw[q]at h;cases h
   |some Y=>
    rw[q]at h
    cases h;rw[Du q];rfl
  .cases h
def iy(S:List (Str×Int)):List (Key×V):=S.map λq=>(.inr q.1,.int q.2)
theorem uO:∀S:List (Str×Int),yN (ssP S)=true
 |[]=>rfl
 |_::S=>uO S
theorem Rt:∀S:List (Str×Int),dk0 (ssP S)=iy S
 |[]=>rfl
 | (x,i)::S=>by
  show(.inr x,.int i)::dk0 (ssP S)=_;rw[Rt S];rfl
theorem zH(S:List (Str×Int)):dh0 (ssP S)=.dK (iy S):=by
 cases S with
 |nil=>rfl
 |cons q S=>
  show(match tkD ((.str q.1,.int q.2)::ssP S)with|some ts=>HO.dT ts|none=>.dK (dk0 (ssP (q::S))))=_;rw[Rt];rfl
def Dv(S:List (Str×Int)):isI (ssP S)=false:=Cq (uO S)
noncomputable def ou(S:List (Str×Int))(k:Str)(v:Int):List (Str×Int):=if(S.any λq=>decide (q.1=k))=true then S.map (λq=>if q.1=k then(q.1,v)else q)else S++[(k,v)]
def Zm(S:List (Str×Int))(k:Str)(v:Int):iy (ou S k v)=putK (iy S) (.inr k) (.int v):=by
 have e:((iy S).any λZ=>decide (Z.1=(.inr k:Key)))=S.any λq=>decide (q.1=k):=by
  unfold iy;rw[List.any_map];congr 1
  funext q
  simp
 unfold ou putK;rw[e];split
 .unfold iy;rw[bD,bD];refine cT λq _=>?_
  show(fg (if q.1=k then(q.1,v)else q).1,V.int (if q.1=k then(q.1,v)else q).2)=if(fg q.1:Key)=.inr k then(fg q.1,V.int v)else(fg q.1,V.int q.2)
  by_cases c:q.1=k
  .rw[if_pos c,if_pos (by rw[c])]
  .rw[if_neg c,if_neg λz=>c (by injection z)]
 .unfold iy;rw[bF];rfl
section
variable{H:Hp}
theorem GX(Y:isI c=false):∀{vs:List V}{ds:List D}{as:List Addr}{k:Nat},RTs K H vs ds as->ds[k]?=some (.dict c)->∃a u,vs[k]?=some (.ref a)/\H a=some u/\DH H u c/\a∈as /\
 (as.Nodup->∀U O,DH (L2.upd H a U) U O->RTs K (L2.upd H a U) vs (ds.set k (.dict O)) as)
 |_,_,_,_,.nil,h=>by simp at h
 |_,_,_,0,.cons e q,h=>by
  simp at h;subst h
  cases e with
  |dic hx g=>
   rename_i T a u;have W:=g.chg;refine⟨a,u,rfl,hx,g,by simp,λnd U O g'=>?_⟩;obtain⟨_,_,n3⟩:=cL.mp nd;exact .cons (.dic aW g') (RTs.upd hx (λz=>n3 a au a z rfl) q)
  |ins _ _ _ z=>rw[z]at Y;cases Y
 |_,_,_,k+1,.cons e q,h=>by
  rename_i v d vs ds as bs;obtain⟨a,u,g1,g2,g3,Z,X⟩:=GX Y (k:=k) q (by simpa using h);have W:=g3.chg;refine⟨a,u,by simpa using g1,g2,g3,aP _ Z,λnd U O g'=>?_⟩;obtain⟨n1,n2,n3⟩:=cL.mp nd;exact .cons (RT.upd g2 (λz=>n3 a z a Z rfl) e) (X n2 U O g')
end
def Bv(C:Addr)(ns:List Str)(k i:Nat)(fk f:FE):FS:=λδ=>(f δ).bind λd=>(ao i δ).bind λy=>(isC C ns y).bind λds=>(fk δ).bind λZ=>match ds[k]?,Z,d with
 |some (.dict kvs),.str x,.int v=>(ssD kvs).bind λS=>if S.length<1000 then some (.nx (δ.set i (some (.d (.dict (tZ C ns (ds.set k (.dict (ssP (ou S x v))))))))))else none
 |_,_,_=>none
section
variable{X:Cx}{fl:List Fl}{m:Str}{k:Nat}{f:FE}{ns:List Str}
def Dw{O:Pos}(hu:X.A.units+1<cLine)(U:fl[i]?=some .N\/fl[i]?=some .W)(h:DE X fl .P e f)(hke:DE X fl .P ke fk)(hN:X.N[i]?=some x)(c:Cls X.K C)(na:jD X.K C m)(hk:ns[k]?=some m)(hn:∀j,j<k->ns[j]? ≠ some m)
 (hv:Vis X.env.scope x:=by first|exact Or.inl rfl|exact Or.inr (Or.inl rfl)|exact Or.inr (Or.inr rfl)) (hd:(x==("__debug__":Str))=false:=by decide) (hcd:(x==("__classdict__":Str))=false:=by decide)
 (hb:attributeBase (.Name x vpos) m X.env (eval (.Name x vpos) X.env)=eval (.Name x vpos) X.env:=by rfl)
 (hs:swapsWith e (some (.Subscript (.Attribute (.Name x vpos) m O) ke spos)) pos.line X.env=pure false:=by rfl):
 DS1 X fl (.Assign [.Subscript (.Attribute (.Name x vpos) m O) ke spos] e pos) (Bv C ns k i fk f):=
 PS.imp (C_ hu (Ca (fW hN hv hd hcd) hb) hke h hs) λDn σ H g=>by
 refine bV g λG ow δ o R Z q=>?_
 refine aQ Z λd e3 t=>?_
 refine aQ t λy e1 B=>?_
 refine aQ B λds e2 D=>?_
 refine aQ D λkd e4 V=>?_
 split at V
 case h_2=>cases V
 next kvs Y n em=>
 refine aQ V λS eS Z=>?_
 by_cases M:S.length<1000
 case neg=>rw[if_neg M]at Z;cases Z
 rw[if_pos M]at Z
 cases Z;obtain rfl:=Du eS;have isT:isN fl[i]?=true:=by rcases U with y|y<;>(rw[y];rfl)
 have I:=eX e1;have hi:=(aH.mp I).1;obtain⟨v,E,c2,F⟩:=R.nr i y isT I;obtain⟨p,dx,fs,rfl,Q,J,T,L⟩:=zG c2 e2;obtain⟨a,u,g1,g2,g3,g4,g5⟩:=GX (Dv S) L em;have eu:u=.dK (iy S):=by rw[g3.old (uO S),zH]
 subst eu;obtain⟨w,l1,l2⟩:=pH (fs:=fs) (m:=m) (k:=k) (by rwa[T]) λj l=>by rw[T];exact hn j l
 rw[g1]at l2
 cases l2;refine⟨G,ow,δ,_,R,e3,λv1 H1 s1 r1=>?_⟩;obtain rfl:=RA.intE r1;refine⟨_,E,p,C,dx,fs,.ref a,rfl,s1 _ _ Q,c,na,l1,G,ow,δ,_,R.grow s1,e4,λu2 H3 r r3=>?_⟩;obtain rfl:=RA.strE r3;have s:=s1.trans r;have h3:=s _ _ g2;obtain⟨a',u',f1,f2,f3,f4,f5⟩:=GX (Dv S) (L.same s) em;rw[g1]at f1
 cases f1;refine⟨a,_,rfl,CW.k (k:=.inr Y) h3 (by unfold iy;rw[ak];exact fV M (by decide)),?_⟩;have g':DH (L2.upd H3 a (.dK (putK (iy S) (.inr Y) (.int n)))) (.dK (putK (iy S) (.inr Y) (.int n))) (ssP (ou S Y n)):=.inl ⟨uO _,by rw[zH,Zm]⟩;exact q (owN ow i (ow.n i)) σ _ (xg (R.grow s) U hi E (lZ f4) (.ins (by rw[aL (cF (s _ _ Q) h3 (by intro z;cases z))];exact s _ _ Q) (by rw[aL (cF (s _ _ J) h3 (by intro z;cases z))];exact s _ _ J) (f5 F _ _ g') (by rw[T])) (λb hb=>.inl hb) F)
end
def jZ(S:List (Str×Int))(k:Str):Option Int:=(S.find? λq=>decide (q.1=k)).map (·.2)
def pI(S:List (Str×Int))(k:Str):List (Str×Int):=S.filter λq=>decide (q.1≠k)
theorem Ju:∀(S:List (Str×Int))(k:Str),sH (iy S) (.inr k)=(jZ S k).map V.int
 |[],_=>rfl
 |q::S,k=>by
  by_cases c:q.1=k
  .rw[show iy (q::S)=(.inr q.1,.int q.2)::iy S from rfl,pA (by rw[c])];simp[jZ,c]
  .rw[show iy (q::S)=(.inr q.1,.int q.2)::iy S from rfl,pB (λz=>c (by injection z)),Ju S k];simp[jZ,c]
def V1(S:List (Str×Int))(k:Str):iy (pI S k)=o_ (iy S) (.inr k):=by
 unfold iy pI o_;rw[rm];congr 1;refine u_ λq _=>?_
 simp
def K7(C:Addr)(ns:List Str)(k i:Nat)(fk:FE):FW:=λδ=>(ao i δ).bind λy=>(isC C ns y).bind λds=>(fk δ).bind λZ=>match ds[k]?,Z with
 |some (.dict kvs),.str x=>(ssD kvs).bind λS=>(jZ S x).bind λv=>some (.int v,δ.set i (some (.d (.dict (tZ C ns (ds.set k (.dict (ssP (pI S x)))))))))
 |_,_=>none
section
variable{X:Cx}{fl:List Fl}{m:Str}{k:Nat}{f:FE}{fw:FW}{ns:List Str}{l:List Nat}
def K8(U:fl[i]?=some .N\/fl[i]?=some .W)(hke:DE X fl .P ke fk)(hN:X.N[i]?=some x)(c:Cls X.K C)(na:jD X.K C m)(hk:ns[k]?=some m)(hn:∀j,j<k->ns[j]? ≠ some m)(hm:M1 X (.Attribute (.Name x vpos) m O) "pop" q0 ke q1)
 (hv:Vis X.env.scope x:=by first|exact Or.inl rfl|exact Or.inr (Or.inl rfl)|exact Or.inr (Or.inr rfl)) (hd:(x==("__debug__":Str))=false:=by decide) (hcd:(x==("__classdict__":Str))=false:=by decide)
 (hb:attributeBase (.Name x vpos) m X.env (eval (.Name x vpos) X.env)=eval (.Name x vpos) X.env:=by rfl):
 DEW X fl (.Call (.Attribute (.Attribute (.Name x vpos) m O) "pop" q0) [ke] [] q1) (K7 C ns k i fk):=
 PE.imp (Gv (Ca (fW hN hv hd hcd) hb) hke hm) λσ H Q r=>by
 obtain⟨G,ow,δ,d0,δ',R,o,q⟩:=r;refine aQ o λy e1 A=>?_
 refine aQ A λds d B=>?_
 refine aQ B λkd e4 Y=>?_
 split at Y
 case h_2=>cases Y
 next kvs Z em=>
 refine aQ Y λS e D=>?_
 refine aQ D λn f E=>?_
 cases E;obtain rfl:=Du e;have isT:isN fl[i]?=true:=by rcases U with y|y<;>(rw[y];rfl)
 have J:=eX e1;have hi:=(aH.mp J).1;obtain⟨v,F,c2,I⟩:=R.nr i y isT J;obtain⟨p,dx,fs,rfl,T,L,V,M⟩:=zG c2 d;obtain⟨a,u,g1,g2,g3,g4,g5⟩:=GX (Dv S) M em;have g:u=.dK (iy S):=by rw[g3.old (uO S),zH]
 subst g;obtain⟨w,l1,l2⟩:=pH (fs:=fs) (m:=m) (k:=k) (by rwa[V]) λj t=>by rw[V];exact hn j t
 rw[g1]at l2
 cases l2;refine⟨_,F,p,C,dx,fs,.ref a,rfl,T,c,na,l1,a,rfl,.inl ⟨_,.inl g2⟩,G,ow,δ,_,R,e4,λu2 H3 s r3=>?_⟩;obtain rfl:=RA.strE r3;have h3:=s _ _ g2;obtain⟨a',u',f1,f2,f3,h,l⟩:=GX (Dv S) (M.same s) em;rw[g1]at f1
 cases f1;refine⟨iy S,.inr Z,.int n,h3,rfl,by rw[Ju,f];rfl,?_⟩;have g':DH (L2.upd H3 a (.dK (o_ (iy S) (.inr Z)))) (.dK (o_ (iy S) (.inr Z))) (ssP (pI S Z)):=.inl ⟨uO _,by rw[zH,V1]⟩;exact q _ _ (owN ow i (ow.n i)) (xg (R.grow s) U hi F (lZ h) (.ins (by rw[aL (cF (s _ _ T) h3 (by intro z;cases z))];exact s _ _ T) (by rw[aL (cF (s _ _ L) h3 (by intro z;cases z))];exact s _ _ L) (l I _ _ g') (by rw[V])) (λb hb=>.inl hb) I) rfl (.int n)
def Jv(l:List Nat)(f:FW):FS:=λδ=>(f δ).bind λp=>(kW l p.2).bind λr=>some (.ex "" "" (.tuple (p.1::r)))
def V2(O:∀i∈l,fl[i]?=some .W)(h:DEW X fl e fw):DW1 X fl l (.Return (some e) pos) (Jv l fw):=PS.imp (yD h) λT σ H h=>by
 refine bV h λG ow δ o R Y q=>?_
 obtain⟨⟨d,δ'⟩,U,t⟩:=bind1 Y;refine aQ t λr V t=>?_
 cases t;exact⟨G,ow,δ,d,δ',R,U,λv H' ow' R' hd Z=>zy R' O V q hd Z⟩
end
def wG{ok:Ok}{kvs:List (D×D)}{S:List (Str×Int)}(e:ssD kvs=some S)(r:RA K ok pl H v (.dict kvs)):∃a,v=.ref a/\L2.Rd H a (.dK (iy S)):=by
 obtain rfl:=Du e;obtain⟨a,rfl,h⟩:=r.dicE (uO S);rw[zH]at h;exact⟨a,rfl,h⟩
open XK
section
variable{X:Cx}{fl:List Fl}{m:Str}{F:List D->Option D}{ns:List Str}
def mj(h:HasM X.prog X.w X.K X.mg X.base n C m ps (spD X.K F))(hr:Room n X.A)(hm:m∉ns)(ho:DE X fl .P k t)
 (U:eval (.Call (.Attribute k m apos) [] [] pos) X.env=(do
  let O <-eval k X.env
  standAt apos.atName
  let(t,fi) <-holding [O] (getMethod O m c)
  callWith pos t fi (backTo pos (starEach [] X.env)) (backToKw pos (keywordEach [] X.env))):=by rfl):
 DE X fl .C (.Call (.Attribute k m apos) [] [] pos) (iu F C ns t aX):=by
 obtain⟨g,fd,N,b,M⟩:=h.ex;refine PE.imp (Pq (E:=E0) ho h.cl M N hr b .nil Ft U) λσ H Q hq=>?_
 refine bV hq λG ow δ r R Z q=>?_
 refine aQ Z λd S Z=>?_
 refine aQ Z λxs T Z=>?_
 refine aQ Z λds V Z=>?_
 cases V;refine⟨G,ow,δ,d,R,S,λv H0 s0 k2=>?_⟩;have k2:=k2;obtain⟨a,dx,fs,rfl,W,L,Y,_⟩:=Dt k2 T;refine⟨a,dx,fs,rfl,W,mY (by rwa[Y]),?_⟩;exact⟨[d],r,⟨(R.grow s0).tb,.cons k2 .nil⟩,Z,λv H2 s2 r2=>q v H2 (s0.trans s2) (RA.imp (λa z=>s0.free z) (λz=>z) r2)⟩
end
def V3:D->D->Option D:=λx y=>match x,y with
 |.str k,.dict kvs=>(ssD kvs).bind λS=>some (.bool (jZ S k).isSome)
 |_,_=>none
def yj:D->D->Option D:=λx y=>match x,y with
 |.str k,.dict kvs=>(ssD kvs).bind λS=>some (.bool (!(jZ S k).isSome))
 |_,_=>none
def zJ:D->D->Option D:=λy x=>match x,y with
 |.str k,.dict kvs=>(ssD kvs).bind λS=>(jZ S k).bind λv=>some (.int v)
 |_,_=>none
def Dy(k:Str)(h:L2.Rd H a (.dK (iy S))):wD H a (.str k) ((jZ S k).map V.int):=.inl ⟨_,.inr k,h,rfl,(Ju S k).symm⟩
def ai9:BrO K Zb V3:=by
 intro H x y dx V d Q Y Z e q;unfold V3 at e;split at e
 .next k kvs=>
  refine aQ e λS W X=>?_
  cases X;obtain rfl:=RA.strE Y;obtain⟨a,rfl,h⟩:=wG W Z;refine⟨a,_,rfl,Dy k h,?_⟩;rw[g8];exact q _ rfl (.bl _)
 .cases e
def Ru:BrO K Dj yj:=by
 intro H x y dx V d Q Y Z e q;unfold yj at e;split at e
 .next k kvs=>
  refine aQ e λS W X=>?_
  cases X;obtain rfl:=RA.strE Y;obtain⟨a,rfl,h⟩:=wG W Z;refine⟨a,_,rfl,Dy k h,?_⟩;rw[g8];exact q _ rfl (.bl _)
 .cases e
section
variable{X:Cx}{fl:List Fl}{a b:Expr}{fa:FE}
def DK(O:X.A.units+1<cLine)(ha:DE X fl .P a fa)(hb:DE X fl .P b fb)(hs:QV b):DE X fl .FC (.Subscript a b pos) (dOp zJ fa fb):=PE.imp (CZ O ha hb hs) λσ H Q h=>by
 refine bV h λG ow δ d R W q=>?_
 refine D3.ex2 (ug W) λx y T U Z=>?_
 refine⟨G,ow,δ,x,R,T,λv H1 s1 r1=>⟨G,ow,δ,y,R.grow s1,U,λu H2 s2 r2=>?_⟩⟩;unfold zJ at Z;split at Z
 .next k kvs=>
  refine aQ Z λS e4 e5=>?_
  refine aQ e5 λn e6 V=>?_
  cases V;obtain rfl:=RA.strE r2;obtain⟨p,rfl,Y⟩:=wG e4 r1;have g:=Dy k (tU s2 Y);rw[e6]at g;exact⟨p,.int n,rfl,g,q _ H2 (s1.trans s2) (.inl ⟨rfl,.int n⟩)⟩
 .cases Z
end
section
variable{X:Cx}{fl:List Fl}{f:FE}
end
def av5{σ:D3.St}(tb:Tb H)(Z:σ.length=δ.length)(O:∀(i:Nat) (d:D),δ[i]?=some (some (U.d d))->fl[i]?=some Fl.A)(Y:∀(i:Nat) (d:D),δ[i]?=some (some (U.d d))->∃v,σ[i]?=some (some v)/\RA K ok1 true H v d):
 Rel K fl ⟨H,H,λ_=>none,λ_=>[],tb,λ_=>none⟩ ow0 σ H δ:=by
 refine⟨Same.refl _,Same.refl _,Z,λi a h=>(by cases h),λi j a h=>(by cases h),λi h=>rfl,λi d h _ _=>?_,λi d h _ h2 _=>absurd (O i d h) h2,λi a h=>(by cases h),λi j a h=>(by cases h),λi j a h=>(by cases h),λi h=>rfl,λi d hn h=>(by rw[O i d h]at hn;cases hn),λi u h e=>(by cases e)⟩;obtain⟨v,h1,h2⟩:=Y i d h;exact⟨v,h1,h2.imp (λ_ _=>⟨λi z=>(by cases z),λi z=>(by cases z)⟩) (λz=>z)⟩
structure Ini(K:aaa)(H0:Hp)(x dx C:Addr)(H:Hp)(fs:List (Str×V))(ds:List D)(as:List Addr):Prop where
 hx:H x=some (.ins C dx fs)
 hd:H dx=some (.own x)
 rt:RTs K H (fs.map (·.2)) ds as
 nd:as.Nodup
 fr:∀a∈as,H0 a=none
 sm:Same (jV H0 (· = x)) H
 hn:H0 x≠none
theorem GZ:∀{fs:List (Str×V)}{f:Str}{y:V},f∉fs.map (·.1)->rO f y fs=fs++[(f,y)]
 |[],_,_,_=>rfl
 | (g,x)::r,f,y,h=>by
  have h1:g≠f:=λz=>h (by rw[z];exact au)
  rw[rO,if_neg h1,GZ λz=>h (aA _ z)];rfl
mutual
def iz:D->Bool
 |.list xs=>iz.noIns xs
 |.tuple xs=>iz.noIns xs
 |.dict kvs=>!isI kvs
 |_=>true
def iz.noIns:List D->Bool
 |[]=>true
 |x::r=>iz x&&iz.noIns r
end
def G3{x dx:Addr}{fs:List (Str×V)}(hx:H x=some (.ins C dx fs)):(∀{v:V}{d:D}{bs:List Addr},RT K H v d bs->iz d=true->RT K (L2.upd H x u) v d bs)/\∀{v:List V}{d:List D}{bs:List Addr},RTs K H v d bs->iz.noIns d=true->RTs K (L2.upd H x u) v d bs:=
 RT.ind (λ_=>.non) (λb _=>.bl b) (λi _=>.int i) (λx _=>.str x) (λe q h=>.lst (by rwa[aL (cF e hx (by intro z;cases z))]) (q (by rw[iz]at h;exact h))) (λe q h=>.tup (by unfold dU;rwa[aL (cF e hx (by intro z;cases z))]) (q (by rw[iz]at h;exact h)))
  (λe g _=>.dic (by rwa[aL (cF e hx (by intro z;subst z;exact g.chg.ins))]) (g.imp λ_ _ t=>by unfold dU;rwa[aL (cF t hx (by intro z;cases z))])) (λ_ _ _ _ z h=>by rw[z]at h;cases h) (λ_=>.nil)
  λe q h=>by
   rw[iz.noIns,aK]at h;exact .cons (e h.1) (q h.2)
def Rv{ok:Ok}{x dx:Addr}{fs:List (Str×V)}(hx:H x=some (.ins C dx fs)):(∀{v:V}{d:D},RA K ok pl H v d->iz d=true->RA K ok pl (L2.upd H x u) v d)/\∀{v:List V}{d:List D},RAs K ok pl H v d->iz.noIns d=true->RAs K ok pl (L2.upd H x u) v d:=
 RA.ind (λ_=>.non) (λb _=>.bl b) (λi _=>.int i) (λx _=>.str x) (λe k q h=>.lst (by rwa[aL (cF e hx (by intro z;cases z))]) k (q (by rw[iz]at h;exact h))) (λe k q h=>.lsk (by
  rcases e with⟨o,e⟩|e
  .exact .inl ⟨o,by rwa[aL (cF e hx (by intro z;cases z))]⟩
  .exact .inr e) k (q (by rw[iz]at h;exact h))) (λe q h=>.tup (by unfold dU;rwa[aL (cF e hx (by intro z;cases z))]) (q (by rw[iz]at h;exact h)))
  (λe g k _=>.dic (by rwa[aL (cF e hx (by intro z;subst z;exact g.chg.ins))]) (g.imp λ_ _ t=>by unfold dU;rwa[aL (cF t hx (by intro z;cases z))]) k) (λe g k _=>.dik (by rwa[aL (cF e hx (by intro z;cases z))]) (g.imp λ_ _ t=>by unfold dU;rwa[aL (cF t hx (by intro z;cases z))]) k)
  (λ_ _ _ z h=>by rw[z]at h;cases h) (λ_=>.nil)
  λe q h=>by
   rw[iz.noIns,aK]at h;exact .cons (e h.1) (q h.2)
theorem K9{bs:List Addr}(r:RT K H v d bs):∀{vs:List V}{ds:List D}{as:List Addr},RTs K H vs ds as->RTs K H (vs++[v]) (ds++[d]) (as++bs)
 |_,_,_,.nil=>by
  have:=RTs.cons r (.nil (K:=K) (H:=H));simpa using this
 |_,_,_,.cons e q=>by
  rw[d_];exact .cons e (K9 r q)
def tIS(K:aaa)(fl:List Fl)(C:Addr)(f:Str)(fe:FE):TS:=λY σ H=>∃(H0:Hp)(x dx:Addr)(fs:List (Str×V))(ds:List D)(as:List Addr)(δ:DS)(d:D),Ini K H0 x dx C H fs ds as/\σ[0]?=some (some (.ref x))/\Tb H/\σ.length=δ.length /\
 (∀(i:Nat)(d:D),δ[i]?=some (some (U.d d))->fl[i]?=some Fl.A/\∃v,σ[i]?=some (some v)/\RA K ok1 true H v d)/\f∉fs.map (·.1)/\fs.length<1000/\iz.noIns ds=true/\iz d=true/\fe δ=some d /\
 ∀H' fs' Z,Ini K H0 x dx C H' fs' (ds++[d]) Z->fs'.map (·.1)=fs.map (·.1)++[f]->(∀v d,RA K ok1 true H v d->iz d=true->RA K ok1 true H' v d)->Tb H'->Y.nx σ H'
def V4(h:DE X fl .T B m)(hN:X.N[0]?=some s0)(c:Cls X.K C)(O:jD X.K C k)
 (U:Vis X.env.scope s0:=by first|exact Or.inl rfl|exact Or.inr (Or.inl rfl)|exact Or.inr (Or.inr rfl)) (hd:(s0==("__debug__":Str))=false:=by decide) (hcd:(s0==("__classdict__":Str))=false:=by decide)
 (hs:swapsWith B (some (.Attribute (.Name s0 vpos) k F)) q0.line X.env=pure false:=by rfl):PS X (.Assign [.Attribute (.Name s0 vpos) k F] B q0) (tIS X.K fl C k m):=
 PS.imp (Yx (fW hN U hd hcd) h hs) λJ σ H R=>by
 obtain⟨H0,x,dx,fs,ds,as,δ,d,I,L,tb,gl,ga,P,Q,nd,Z,M,q⟩:=R;refine⟨_,_,δ,d,av5 tb gl (λi d h=>(ga i d h).1) (λi d h=>(ga i d h).2),M,λv H1 s r=>?_⟩;obtain⟨bs,r1,r2,r3⟩:=r;have hx:=s _ _ I.hx;have Y:=cF I.hd I.hx (by intro z;cases z);refine⟨_,L,x,C,dx,fs,rfl,hx,c,O,Q,?_⟩;rw[GZ P];refine q _ (fs++[(k,v)]) (as++bs) ⟨aW,by rw[aL Y];exact s _ _ I.hd,?_,?_,?_,?_,I.hn⟩ (by rw[bF];rfl) (λv d r hd=>(Rv hx).1 (r.same s) hd) ?_
 .rw[bF];exact K9 ((G3 hx).1 r1 Z) ((G3 hx).2 (I.rt.same s) nd)
 .refine cL.mpr ⟨I.nd,r2,λa ha b hb z=>?_⟩;rw[z]at ha;exact I.rt.tracked b ha (r3 b hb)
 .intro a ha;rcases bO.mp ha with y|y
  .exact I.fr a y
  .cases z:H0 a with
   |none=>rfl
   |some o=>
    have B:=r3 a y;by_cases V:a=x
    .rw[V,I.hx]at B;cases B
    .rw[I.sm a o (by rwa[gR (p:=(· = x)) V])]at B;cases B
 .intro b o hb;by_cases W:b=x
  .rw[vL (p:=(· = x)) W]at hb;cases hb
  .rw[aL W];exact s _ _ (I.sm b o hb)
 .intro t S;have B:=tb t S;rw[aL (cF (s _ _ B) hx (by intro z;cases z))];exact s _ _ B
section
variable{X:Cx}{o:Expr}{to:TE}
theorem K_:∀{kvs:List (Key×V)}{vs:List (Key×Value)},KV kvs vs->Vals (kvs.map (·.2)) (vs.map (·.2))
 |_,_,.nil=>.nil
 |_,_,.cons h t=>.cons h.2 (K_ t)
theorem Lb:∀(kvs:List (Key×V))(us:List Value),us.length=kvs.length->(∀(j:Nat)(u:Value),us[j]?=some u->∃k v,kvs[j]?=some (k,v)/\RelV (kV k) u)->Vals (kvs.map λq=>kV q.1) us
 |[],[],_,_=>.nil
 |[],_::_,h,_=>by simp at h
 |_::_,[],h,_=>by simp at h
 | (k,v)::r,u::us,h,g=>by
  obtain⟨W,X,Y,Z⟩:=g 0 u rfl
  cases Y;exact .cons Z (Lb r us (by simpa using h) λj w hw=>by simpa using g (j+1) w (by simpa using hw))
def zK(hc:X.still=true):mK X (.type "list") (λxs H Q=>∃(a:Addr)(kvs:List (Key×V)),xs=[.ref a]/\L2.Rd H a (.dK kvs)/\∀l,H l=none->Q (.ref l) (upd H l (.lst (kvs.map λq=>kV q.1)))):=by
 intro pins s σ H xs us Q I r h;obtain⟨a,kvs,rfl,hx,q⟩:=h;obtain⟨u,rfl,P⟩:=vals1 r
 cases P;obtain⟨K,hd,vs,rel,dd⟩:=n_ I.hok hx;obtain⟨M,S⟩:=dd.dictAt;have hlen:=rel.length;refine abg (abf (knd:=b_ X.prog X.w) (kvs:=vs) (ep:=M) hd) (I.ok.hs hc) S (by rwa[<-hlen]) λh' tk acc c' O N Z=>?_
 have hn:=I.hok.fresh (aN _);have L:=I.laid (h':=h') (t':=tk) (a:=s.heap.objs.size) (o:=.lst (kvs.map λq=>kV q.1)) O (aN _) ⟨by rwa[ak],acc.toList,c',Lb kvs acc.toList (by rw[bW,Z.1,hlen]) λj u J=>?_,by simpa using N⟩
 .exact⟨.ref _,_,L,rfl,q _ hn⟩
 .obtain⟨k,x,U,T⟩:=Z.2 j u (by rwa[<-jh]);have Y:(vs.map (·.1))[j]?=some k:=by rw[aF,U];rfl
  rw[<-rel.keys,aF]at Y
  cases R:kvs[j]? with
  |none=>rw[R]at Y;cases Y
  |some q0=>
   rw[R]at Y
   cases Y;exact⟨q0.1,q0.2,rfl,Jp T⟩
def G4(r a:Addr):HO:=.ext λh=>h.IsValuesView r a
def Le(ho:PE X o to)(U:attributeBase o "values" X.env (eval o X.env)=eval o X.env:=by rfl)(O:(apos.endLine==cpos.line)=true:=by rfl):
 PE X (.Call (.Attribute o "values" apos) [] [] cpos) (λσ H Q=>to σ H λx H1=>∃a kvs,x=.ref a/\L2.Rd H1 a (.dK kvs)/\∀r,H1 r=none->Q (.ref r) (upd H1 r (G4 r a))):=by
 intro pins s σ H Q I h;refine ca U O (thn (ho pins s σ H _ I h) λv s1 ⟨x,H1,Z,r1,a,kvs,ex,hx,q⟩=>?_);subst ex;obtain rfl:v=dE a:=r1;obtain⟨Y,T,V⟩:=zj Z (.inl ⟨kvs,hx⟩);obtain⟨S,hd,vs,rel,dd⟩:=n_ Z.hok hx;have hn:=Z.hok.fresh (aN _);refine⟨"dict","dict.values", aao,aaM,PySem.F.type_dict_values,Y,T,aS rfl (aaH ?_)⟩;refine b9 aaM Y PySem.F.entry_dict_values (PySem.F.args_dict_values_1 _) (meets_dict_values (b_ X.prog X.w) a V) ⟨⟨vs,dd⟩,?_⟩;have W:(s1.heap.push {cls:=.type "dict_values", data:=.fields #[.ref a]}).get? s1.heap.objs.size=some {cls:=.type "dict_values", data:=.fields #[.ref a]}:=ah _ rfl;refine⟨.ref _,_,Z.laid (t':=s1.toks) (a:=s1.heap.objs.size) (o:=G4 s1.heap.objs.size a) (λb u e=>ae _ e) (aN _) ⟨⟨_,W,rfl,rfl⟩,⟨_,W⟩,λh1 h2 ⟨o,g1,g2⟩ k=>⟨o,k o g1,g2⟩⟩,rfl,q _ hn⟩
def zL(O:X.still=true):mK X (.type "list") (λxs H Q=>∃(r a:Addr)(kvs:List (Key×V)),xs=[.ref r]/\H r=some (G4 r a)/\L2.Rd H a (.dK kvs)/\∀l,H l=none->Q (.ref l) (upd H l (.lst (kvs.map (·.2))))):=by
 intro pins s σ H xs us Q I T h;obtain⟨r,a,kvs,rfl,R,hx,q⟩:=h;obtain⟨u,rfl,U⟩:=vals1 T
 cases U;obtain⟨K,hd,vs,rel,dd⟩:=n_ I.hok hx;obtain⟨M,Y⟩:=dd.dictAt;have hlen:=rel.length;have S:=(I.hok r _ R).1;refine abg (PySem.W.kdl_values (knd:=b_ X.prog X.w) (kvs:=vs) (ep:=M)) (I.ok.hs O) ⟨S,Y⟩ (by rwa[<-hlen]) λh' tk acc c' P N Z=>?_
 have hn:=I.hok.fresh (aN _);have ea:=PySem.W.kdl_vals_eq _ (by rw[bW];exact Z.1) λj v e=>Z.2 j v (by rwa[<-jh])
 have L:=I.laid (h':=h') (t':=tk) (a:=s.heap.objs.size) (o:=.lst (kvs.map (·.2))) P (aN _) ⟨by rwa[ak],acc.toList,c',by rw[ea];exact K_ rel,by simpa using N⟩;exact⟨.ref _,_,L,rfl,q _ hn⟩
end
def DN:D->Option D
 |.dict kvs=>(ssD kvs).bind λS=>some (.list (S.map λq=>.str q.1))
 |_=>none
def Lf:D->Option (List Int)
 |.dict kvs=>match ssD kvs with
  |some S=>some (S.map (·.2))
  |none=>(iiD kvs).map λq=>q.map (·.2)
 |_=>none
def DP:D->Option D:=λx=>(Lf x).bind λl=>some (.list (l.map .int))
theorem Lg{ok:Ok}:∀S:List (Str×Int),RAs K ok pl H ((iy S).map λq=>kV q.1) (S.map λq=>.str q.1)
 |[]=>.nil
 |q::S=>.cons (.str q.1) (Lg S)
def Rw{ok:Ok}{x:D}{l:List Int}(e:Lf x=some l)(r:RA K ok pl H v x):∃a kvs,v=.ref a/\L2.Rd H a (.dK kvs)/\kvs.map (·.2)=l.map V.int:=by
 unfold Lf at e;split at e
 .next kvs=>
  split at e
  .next S Z=>
   cases e;obtain⟨a,rfl,h⟩:=wG Z r;exact⟨a,_,rfl,h,by unfold iy;rw[bD,bD];rfl⟩
  .next Z=>
   cases eq:iiD kvs with
   |none=>rw[eq]at e;cases e
   |some qs=>
    rw[eq]at e
    cases e;obtain⟨a,rfl,h⟩:=pC (x:=.dict kvs) (qs:=qs) eq r;exact⟨a,_,rfl,h,by rw[bD,bD];rfl⟩
 .cases e
section
variable{X:Cx}{fl:List Fl}{f:FE}
def Rx(hc:X.still=true)(h:DE X fl .P e f)(Y:Gl X "list")(hm:X.mg "list"=none)
 (U:starEach [e] X.env=(false,eval e X.env)::starEach [] X.env:=by rfl) (O:(backTo pos (starEach [] X.env)).any (·.1)=false:=by rfl):DE X fl .FC (.Call (.Name "list" p) [e] [] pos) (dUn DN f):=
 PE.imp (jT (zK hc) Y hm cv (dO h iJ U) (by decide) (by decide) U O) λσ H Q h=>by
 refine bV h λG ow δ d R W q=>?_
 refine aQ W λx N Z=>?_
 refine⟨G,ow,δ,x,R,N,λv H1 s1 r1=>?_⟩;unfold DN at Z;split at Z
 .next kvs=>
  refine aQ Z λS V T=>?_
  cases T;obtain⟨a,rfl,hx⟩:=wG V r1;exact⟨a,iy S,rfl,hx,λl hn=>q _ _ (s1.trans (cC hn _)) (.inr ⟨l,_,_,rfl,rfl,s1.free hn,aW,Lg S⟩)⟩
 .cases Z
def Ry(hc:X.still=true)(h:DE X fl .P e f)(hg:Gl X "list")(hm:X.mg "list"=none)
 (U:attributeBase e "values" X.env (eval e X.env)=eval e X.env:=by rfl) (O:(apos.endLine==cpos.line)=true:=by rfl)
 (he:starEach [.Call (.Attribute e "values" apos) [] [] cpos] X.env=(false,eval (.Call (.Attribute e "values" apos) [] [] cpos) X.env)::starEach [] X.env:=by exact fX rfl) (Y:(backTo pos (starEach [] X.env)).any (·.1)=false:=by rfl):DE X fl .FC (.Call (.Name "list" p) [.Call (.Attribute e "values" apos) [] [] cpos] [] pos) (dUn DP f):=
 PE.imp (jT (zL hc) hg hm cv (dO (Le h U O) iJ he) (by decide) (by decide) he Y) λσ H Q h=>by
 refine bV h λG ow δ d R V q=>?_
 refine aQ V λx M N=>?_
 refine aQ N λl S e4=>?_
 cases e4;refine⟨G,ow,δ,x,R,M,λv H1 s1 r1=>?_⟩;obtain⟨a,kvs,rfl,hx,T⟩:=Rw S r1;refine⟨a,kvs,rfl,hx,λr Z=>⟨r,a,kvs,rfl,aW,tU (cC Z _) hx,λW hn=>?_⟩⟩;have sm:=s1.trans ((cC Z (G4 r a)).trans (cC hn (.lst (kvs.map (·.2)))));refine q _ _ sm (.inr ⟨W,_,_,rfl,rfl,(s1.trans (cC Z _)).free hn,aW,?_⟩);rw[T];exact tO l
end
theorem Rz:∀{kvs:List (Key×V)}{vs:List (Key×Value)}{i:Nat}{k:Key}{u:Value},KV kvs vs->vs[i]?=some (k,u)->∃v,kvs[i]?=some (k,v)/\RelV v u
 |_,_,_,_,_,.nil,h=>by simp at h
 | (Y,Z)::_,_,0,_,_,.cons h _,e=>by
  simp at e;subst e;obtain⟨h1,h2⟩:=h
  cases h1;exact⟨Z,rfl,h2⟩
 |_,_,i+1,k,u,.cons _ t,e=>by
  obtain⟨v,h1,h2⟩:=Rz (i:=i) t (by simpa using e);exact⟨v,by simpa using h1,h2⟩
def Iti(o:Obj)(a:Addr)(kvs:List (Key×V)):It:=
 ⟨λi H=>H a=some (.frz o (.dK kvs))/\i<kvs.length,λi H x H'=>∃p k v,kvs[i]?=some (k,v)/\H p=none/\H'=upd H p (.tup [kV k,v])/\x=.ref p,λi H=>H a=some (.frz o (.dK kvs))/\kvs.length<=i⟩
def Jw(hh:L2.Hq A s.heap)(O:IsItemIter s.heap it q i r.length ep ok ov)
 (hm:s.heap.DictAt (b_ prog w) q r ep) (hx:r[i]?=none) (hQ:∀h',fh it s.heap h'->t none {s with heap:=h'}):wpAny (model prog w) A (pyNext (.ref it)) t c s:=by
 obtain⟨od,es,X,hcd,W,T,V,hn⟩:=id hm;have Z:s.TypeIs (.ref it) "dict_itemiterator" := ⟨_,O,rfl⟩;have Y:es.size=r.length:=by rw[<-V.length];simp
 have U:es.size<=i:=by rw[Y];simpa using hx
 refine aa (bz (aT (name:=eA "__next__") Z c_ (bd c_ Z F.entry_dict_itemiterator_next ?_ (F.args_dict_itemiterator_next_1 _))));refine aa (ag (aa (aa ?_)))
 first|refine aa (db Z (ag ?_))|refine aa (dLq Z (ag ?_))
 refine aa (wpAny_fieldsOf O rfl ?_);simp only[show Builtin.Dict_items.ownsTuple "dict_itemiterator"=true by decide,if_true];show wpAny _ _ (if(dE q==d5)=true then _ else _) _ _ s;rw[if_neg (show ¬((dE q==d5)=true)from eY)];refine aa (ag (aa (wpAny_dictEntries X W ?_)));rw[if_neg (by rw[Y];simp)];refine aa (ag (aa (wpAny_dictEpoch X W ?_)));rw[if_neg (by simp)];refine ag ?_;simp only[show ¬((i:Int)<0)from by lia,if_false,dH,dZ U];refine aa ?_
 first|refine aa (db Z (ag ?_))|refine aa (dLq Z (ag ?_))
 exact aa (m:=setField (.ref it) 2 .none) (be O rfl (by simp) (tu (Ia hh O rfl) λh' k=>hQ h' (BZ k)))
theorem zM{x1}{q:Bool}(o:Obj)(a it:Addr)(kvs:List (Key×V)){es:Array DictEntry}{ep:Nat}(hd:o.data=.dict es ep):
 Turn P w K (.Tuple elts x1 tpos) (Iti o a kvs) [it] it (λi h=>∃ok O,IsItemIter h it a i kvs.length ep ok O) q where
 mem:=by simp
 obj:=λi h st b hb=>by
  have e:b=it:=by simpa using hb
  subst e;obtain⟨ok,O,e⟩:=st;exact⟨_,e,λv z=>by cases z⟩
 keep:=λi h h' st k=>by
  obtain⟨ok,O,e⟩:=st;exact⟨ok,O,k it (by simp) _ e⟩
 item:=by
  intro X N hw M J _ i pins s σ H E I T st Q;subst N hw M;obtain⟨hq,hi⟩:=Q;obtain⟨vs,rel,dat⟩:=Dq I hq hd;have ln:=rel.length;rw[ln]at hi;obtain⟨⟨k,u⟩,hx⟩:∃p,vs[i]?=some p:=⟨vs[i],by simp[hi]⟩;obtain⟨v,B,G⟩:=Rz rel hx;obtain⟨ok,O,st⟩:=st;rw[ln]at st;have S:=af st;refine wpAny_pyNext_items_item st dat hx λY h1 U C F D R=>?_
  refine⟨_,rfl,wpAny_letOwnedTupleGo_items C λh2 A Z=>?_⟩
  replace Z:eR it h1 h2:=Z
  have hn:=I.hok.fresh (aN _);have I0:L2.Inv X pins σ (upd H s.heap.objs.size (.tup [kV k,v])) {s with heap:=s.heap.push {cls:=.type "tuple", data:=.seq #[Y,u]} }:=
   I.laid (t':=s.toks) (λb o e=>ae _ e) (aN _) ⟨show 2<=sizeLine by decide,[Y,u],.cons (Jp U) (.cons G .nil),⟨_,ah _ rfl,rfl,_,rfl⟩⟩
  have ne:∀b,b∈[it]->b≠s.heap.objs.size:=λb hb=>by
   rw[show b=it by simpa using hb];exact bh S
  have t:L2.Inv X pins σ (upd H s.heap.objs.size (.tup [kV k,v])) {s with heap:=h2}:=by
   refine D3.Inv.turnedL (s:={s with heap:=s.heap.push {cls:=.type "tuple", data:=.seq #[Y,u]} }) (t':=s.toks) (ch:=[it]) I0 (λb o hb e=>?_) λb hb=>⟨by rw[aL (ne b hb)];exact(T b hb).1,(T b hb).2⟩
   have b1:b≠it:=λz=>hb (by simp[z])
   rcases dm e with⟨L,x⟩|L
   .subst L x;exact(Z.2 _ b1).trans F
   .exact(Z.2 _ b1).trans (R b o b1 L)
  refine⟨.ref s.heap.objs.size,_,t,rfl,⟨_,k,v,B,hn,rfl,rfl⟩,⟨_,_,by rwa[ln]⟩,λb hb=>?_⟩;rw[aL (ne b hb)];exact(T b hb).1
 done:=by
  intro X N hw M J _ i pins s σ H E I T st Q;subst N hw M;obtain⟨hq,hi⟩:=Q;obtain⟨vs,rel,dat⟩:=Dq I hq hd;have ln:=rel.length;rw[ln]at hi;obtain⟨ok,O,st⟩:=st;rw[ln]at st;exact Jw (I.hq J) st dat (bf hi) λh' y=>⟨rfl,D3.Inv.turnedL (t':=s.toks) (ch:=[it]) I (λb o hb e=>y b o (λz=>hb (by simp[z])) e) T⟩
 self:=λ_ _ _ _ _ st h=>by
  obtain⟨ok,O,st⟩:=st;exact PySem.W.kcp_self st h
def aj0(X:Cx)(tl:TE):TI:=λσ H R=>tl σ H λx H1=>∃a kvs,x=.ref a/\((H1 a=some (.dK kvs)/\∀o,Dm X a->R (Iti o a kvs) (upd H1 a (.frz o (.dK kvs))))\/∃o,H1 a=some (.frz o (.dK kvs))/\R (Iti o a kvs) H1)
def RB{x1}(hl:PE X m tl)(U:attributeBase m "items" X.env (eval m X.env)=eval m X.env:=by rfl)(O:(c.endLine==k.line)=true:=by rfl):
 PI X (.Tuple elts x1 tpos) (.Call (.Attribute m "items" c) [] [] k) (aj0 X tl):=by
 intro pins s σ H R I h;refine ca U O (thn (hl pins s σ H _ I h) λv s1 ⟨x,H1,S,r1,q1⟩=>?_);obtain⟨a,kvs,e,q⟩:=q1;subst e;obtain rfl:v=dE a:=r1;have rd:L2.Rd H1 a (.dK kvs):=q.elim (λz=>.inl z.1) (λ⟨o,z,_⟩=>.inr ⟨o,z⟩);obtain⟨Q,M,N⟩:=zj S (.inl ⟨kvs,rd⟩);obtain⟨_,lo,vs,rel,dd⟩:=n_ S.hok rd;refine⟨"dict","dict.items", aao,aaP,PySem.F.type_dict_items,Q,M,aS rfl (aaH ?_)⟩;refine b9 aaP Q PySem.F.entry_dict_items (PySem.F.args_dict_items_1 _) (meets_dict_items (b_ X.prog X.w) a N) ⟨⟨vs,dd⟩,?_⟩;have Z:L2.Inv X pins σ H1 {s1 with heap:=s1.heap.push {cls:=.type "dict_items", data:=.fields #[.ref a]} }:=S.kept (t':=s1.toks) λb o e=>ae _ e
 generalize V:({s1 with heap:=s1.heap.push {cls:=.type "dict_items", data:=.fields #[.ref a]} }:dv)=s2 at Z;have K:s2.heap.IsItemsView s1.heap.objs.size a:=by rw[<-V];exact⟨_,ah _ rfl,rfl,rfl⟩
 obtain⟨_,lo,vs,rel,Y,es,W,T,G,hd,J⟩:=n_ Z.hok rd;have dat:s2.heap.DictAt (b_ X.prog X.w) a vs W:=⟨Y,es,T,G,hd,J⟩;refine wpAny_pyIter_items K dat ?_;have P:L2.Inv X pins σ H1 {s2 with heap:=s2.heap.push {cls:=.type "dict_itemiterator", data:=.fields #[.none,.bool false,.ref a,.int 0 0,.int vs.length 0,.int W 0,.none,.none]} }:=Z.kept (t':=s2.toks) λb o e=>ae _ e
 have st:∃ok L,IsItemIter (s2.heap.push {cls:=.type "dict_itemiterator", data:=.fields #[.none,.bool false,.ref a,.int 0 0,.int vs.length 0,.int W 0,.none,.none]}) s2.heap.objs.size a 0 kvs.length W ok L:=⟨_,_,by rw[rel.length];exact ah _ rfl⟩;have fr:H1 s2.heap.objs.size=none:=Z.hok.fresh (aN _);rcases q with⟨hq,q⟩|⟨o,hq,q⟩
 .refine⟨s2.heap.objs.size,[s2.heap.objs.size],_,_,_,rfl,KR P hq (ae _ T),zM Y a _ kvs hd,st,λb hb=>?_,q Y (Dp Z hq)⟩;have e:b=s2.heap.objs.size:=by simpa using hb
  subst e;refine Z.fpOk (aN _) ?_;rw[aL (λz=>by rw[z,hq]at fr;cases fr)];exact fr
 .have eq:Y=o:=by
   have:=(Z.hok a _ hq).1;rw[T]at this;exact cG.inj this
  subst eq;refine⟨s2.heap.objs.size,[s2.heap.objs.size],_,_,_,rfl,P,zM Y a _ kvs hd,st,λb hb=>?_,q⟩;have e:b=s2.heap.objs.size:=by simpa using hb
  subst e;exact Z.fpOk (aN _) fr
def itS(S:List (Str×Int)):List D:=S.map λq=>.tuple [.str q.1,.int q.2]
def RD(f:FE):FA:=λδ=>(f δ).bind λx=>match x with
 |.dict kvs=>(ssD kvs).bind λS=>some (itS S)
 |_=>none
theorem RG{S:List (Str×Int)}(h:H1 a=some (.frz o (.dK (iy S)))):∀H2,Same H1 H2->∀i:Nat,(∀d,(itS S)[i]?=some d->(Iti o a (iy S)).go i H2/\∀x O,(Iti o a (iy S)).yld i H2 x O->Same H2 O/\RA K ok1 true O x d)/\((itS S).length<=i->(Iti o a (iy S)).stop i H2):=by
 intro H2 s2 i;refine⟨λd hd=>?_,λhi=>⟨s2 _ _ h,by unfold iy;simpa[itS]using hi⟩⟩;unfold itS at hd;rw[aF]at hd
 cases e:S[i]? with
 |none=>rw[e]at hd;cases hd
 |some p=>
  rw[e]at hd
  cases hd;have hi:=(aH.mp e).1;refine⟨⟨s2 _ _ h,by unfold iy;simpa using hi⟩,λx O Y=>?_⟩;obtain⟨c,k,v,Z,hn,rfl,rfl⟩:=Y;unfold iy at Z;rw[aF,e]at Z
  cases Z;exact⟨cC hn _,.tup aW (.cons (.str _) (.cons (.int _) .nil))⟩
section
variable{X:Cx}{fl:List Fl}{f fx:FE}{TT:List Nat}{g:FG}{x1:Nat}{iter:Expr}
def V5{σ:L2.St}{Q:VK}{T:List Str}(U:∀i,i<T.length+ix.length->fl'[i]?=some .A)(O:∀j∈TT,j<T.length)(h:tD X.K fl .FC (dN (RD fx) g ft f T.length ix) σ H Q):
 yJ (aj0 X (tD X.K fl .P fx)) (tDG X.K fl' TT g) (tDT X.K fl' ft) (tD X.K fl' .C f) T.length (oJ T.length ix) σ H (sI X Q):=by
 refine bV h λG ow δ d R E q=>?_
 refine aQ E λl B L=>?_
 by_cases M:l.length<=100000
 case neg=>rw[if_neg M]at L;cases L
 rw[if_pos M]at L;refine aQ L λr F e4=>?_
 cases e4;refine aQ B λx e5 e6=>?_
 split at e6
 case h_2=>cases e6
 next kvs=>
 refine aQ e6 λS D e6=>?_
 cases e6;refine⟨G,ow,δ,_,R,e5,λv H1 s1 r1=>?_⟩;have y:=R.grow s1;have Y:=xZ (fl':=fl') T.length ix U y (Same.refl H1);obtain⟨a,rfl,Z⟩:=wG D r1;refine⟨a,iy S,rfl,?_⟩;rcases Z with Z|⟨o,Z⟩
 .refine .inl ⟨Z,λo lo Dl hD=>?_⟩;have N:Dl≠a:=λz=>by rw[z,aW]at hD;cases hD
  have J:Tb (upd H1 a (.frz o (.dK (iy S)))):=λt I=>by rw[aL (cF (Y.tb t I) Z (by simp))];exact Y.tb t I
  have s:Rel X.K fl' ⟨upd H1 a (.frz o (.dK (iy S))),upd H1 a (.frz o (.dK (iy S))),λ_=>none,λ_=>[],J,λ_=>none⟩ ow0 (oJ T.length ix σ) (upd H1 a (.frz o (.dK (iy S)))) (iw T.length ix δ):=by
   refine⟨Same.refl _,Same.refl _,Y.len,λi b h=>(by cases h),λi j b h=>(by cases h),λi h=>rfl,λi d h1 hn h2=>?_,Y.oo,λi b h=>(by cases h),λi j b h=>(by cases h),λi j b h=>(by cases h),λi h=>rfl,λi d hn h1=>?_,λi u h e=>(by cases e)⟩
   .obtain⟨v,h3,h4⟩:=Y.dat i d h1 hn h2;exact⟨v,h3,zp Z h4⟩
   .have hi:i<T.length+ix.length:=by
     have h2:=(aH.mp h1).1;unfold iw at h2;simpa using h2
    rw[U i hi]at hn
    cases hn
  refine pF (Q:=sI X Q) O s M F hD (RG aW) λH2 xs s2 V rs=>Or.inr ⟨a,o,iy S,lo,s2 _ _ aW,?_⟩
  have sm:Same H (upd H2 a (.dK (iy S))):=λb u hb=>by
   by_cases z:b=a
   .subst z;have:=s1 _ _ hb;rw[Z]at this;rwa[aW]
   .rw[aL z];exact s2 b u (by rw[aL z];exact s1 b u hb)
  refine q _ _ sm (.inr ⟨Dl,xs,r,rfl,rfl,s1.free (by rw[aL N]at hD;exact hD),by rwa[aL N],?_⟩);refine(nD (s2 _ _ aW) rs).imp (λb z=>⟨?_,z.2⟩) (λz=>z);have W:=z.1;unfold okN at W ⊢;have hb:b≠a:=λw=>by rw[w,aW]at W;cases W
  rw[aL hb]at W;exact s1.free W
 .refine .inr ⟨o,Z,λDl hD=>?_⟩;refine pF (Q:=sI X Q) O Y M F hD (RG Z) λH2 xs s2 V rs=>Or.inl (q _ _ (s1.trans s2) (.inr ⟨Dl,xs,r,rfl,rfl,s1.free hD,V,rs.imp (λb z=>⟨s1.free z.1,z.2⟩) (λz=>z)⟩))
def G5(hc:X.calm=true)(T Vn:List Str)(ix:List Nat)(hi:DE X fl .P iter fx)
 (hg:∀cl C s3 H3 fp,DG (blk X (T++Vn) scope cl C s3 H3 fp) fl' TT (.Tuple elts x1 tpos) g) (ht:∀cl C s3 H3 fp,PTs (blk X (T++Vn) scope cl C s3 H3 fp) ifs (tDT X.K fl' ft)) (he:∀cl C s3 H3 fp,DE (blk X (T++Vn) scope cl C s3 H3 fp) fl' .C elt f)
 (hfl:∀i,i<T.length+ix.length->fl'[i]?=some .A:=by decide) (htg:∀j∈TT,j<T.length:=by decide)
 (hB:uE X.N X.env.scope.names scope.names Vn ix=true:=by rfl) (hk:scope.kind=.function:=by rfl) (Y:∀y∈scope.names,y.2 ≠ .cell:=by decide +kernel)
 (O:∀x∈scope.names,x.2=.local->scope.names.lookup x.1=some .local:=by decide +kernel)
 (hfr:∀x∈scope.names,x.2=.free->x.1∈Vn:=by decide +kernel) (Z:attributeBase iter "items" X.env (eval iter X.env)=eval iter X.env:=by rfl) (U:(apos.endLine==cpos.line)=true:=by rfl) (hs:∀x,foldedSetIterable (.Call (.Attribute iter "items" apos) [] [] cpos) X.env x=pure x:=by intro _;rfl):
 DE X fl .FC (.ListComp elt [⟨.Tuple elts x1 tpos,.Call (.Attribute iter "items" apos) [] [] cpos,ifs,0⟩] scope pos) (dN (RD fx) g ft f T.length ix):=by
 intro pins s σ H Q I h;have run:=Ci (g:=tDG X.K fl' TT g) (tt:=tDT X.K fl' ft) (te:=tD X.K fl' .C f) (pos:=pos) hc T Vn ix (RB hi Z U) hg ht he hB hk Y O hfr hs pins s σ H (sI X Q) I (V5 hfl htg h);refine thn run λv s' ⟨x,H2,V,W,hq⟩=>?_
 rcases hq with hq|⟨a,o,kvs,lo,ha,hq⟩
 .exact⟨x,H2,V,W,hq⟩
 .exact⟨x,_,pD V lo ha,W,hq⟩
end
end XI
variable{c:Str}
namespace XI
open L2 My D3 XK
structure DgM(K:aaa)(C:Addr)(m x:Str)(st:et)(ps:List Str):Prop where
 ex:∃(f:Addr)(fd:ee),FunX K m x st f fd/\Binds K fd ps []/\Meth K C m f
def Zn{kV:Value}{m:Str}
 (hb:∀(kV doc pm:Value)(an:Option Addr)(cdv ct:Value)(us:List Value),us.length=ps.length->bindArgs (aac m x (j7 st) (dR st) (aR st) .none kV doc pm an cdv ct) ⟨us,[]⟩=pure (ps.zip us))
 (a:aad K (.ref C) m=some (some (.ref f))) (l:K.lookup f=some ⟨oc,od,.func (aac m x (j7 st) (dR st) (aR st) .none kV dc pm an cd ct),sl⟩) (c:aah K cd x=true) (fn:aaE K (.ref f)=true) (k:aae K (.ref f)=true):DgM K C m x st ps:=
 ⟨f,_,⟨⟨oc,od,.none,kV,dc,pm,an,cd,ct,sl,rfl,l,c⟩⟩,.all (hb kV dc pm an cd ct),⟨a,fn,k⟩⟩
section
variable{m:Str}{k:Nat}{fs:FS}{fl:List Fl}{l:List Nat}
def Bw(Dd:DgM K C m x st ps)(cl:Cls K C)(S:FnScope N ps (aR st))(U:∀i,i<ps.length->fl[i]?=some .A)(Y:ps.length<=N.length)
 (O:∀(f:Addr)(cdv:Value)(A:dQ)(outer:List Env)(s:dv)(H:Hp)(E:XK),Room k (A.deeper (envOfC x (aR st) s.heap.objs.size f cdv))->DSs (cx P w K mg base N x st f cdv A outer s H E) fl (dR st) fs):
 HasM P w K mg base (k+1) C m ps (spD K (fnD ps.length (N.length-ps.length) fs)):=by
 obtain⟨f,fd,W,b,M⟩:=Dd.ex;refine⟨⟨f,fd,?_,b,M⟩,cl⟩;refine W.ok S (λvs H Q E h=>?_) (λcdv A outer s H vs Q E X h=>?_)
 .obtain⟨ds,d,r,Z,_⟩:=h;unfold fnD at Z;by_cases z:ds.length=ps.length
  .rwa[r.2.length]
  .rw[if_neg z]at Z;cases Z
 .obtain⟨ds,d,r,Z,q⟩:=h;refine⟨_,O f cdv A outer s H E X,?_⟩;unfold fnD at Z;by_cases z:ds.length=ps.length
  .rw[if_pos z]at Z;split at Z
   .next V e=>
    cases Z;exact⟨_,_,_,_,mX ps.length U z Y r,e,λv H' s r=>q v H' s r⟩
   .next δ' e=>
    cases Z;exact⟨_,_,_,_,mX ps.length U z Y r,e,λow' σ' H' R'=>q .non H' R'.same0 .non⟩
   .cases Z
  .rw[if_neg z]at Z;cases Z
def RJ(Dd:DgM K C m x st ps)(cl:Cls K C)(S:FnScope N ps (aR st))(U:∀i,i<ps.length->i∉l->fl[i]?=some .A)(hw:∀i∈l,fl[i]?=some .W)(Y:ps.length<=N.length)
 (O:∀(f:Addr)(cdv:Value)(A:dQ)(outer:List Env)(s:dv)(H:Hp)(E:XK),Room k (A.deeper (envOfC x (aR st) s.heap.objs.size f cdv))->DWs (cx P w K mg base N x st f cdv A outer s H E) fl l (dR st) fs):
 HasM P w K mg base (k+1) C m ps (spW K l (fnW ps.length (N.length-ps.length) l fs)):=by
 obtain⟨f,fd,Z,b,M⟩:=Dd.ex;exact⟨⟨f,fd,Rn Z S U hw Y O,b,M⟩,cl⟩
end
noncomputable def G6:List (Str×FE)->DS->Option (List D)
 |[],_=>some []
 | (_,f)::r,δ=>(f δ).bind λd=>if iz d=true then(G6 r δ).bind λds=>some (d::ds)else none
def tI(K:aaa)(fl:List Fl)(C:Addr)(nf:List (Str×FE)):TS:=λY σ H=>∃(H0:Hp)(x dx:Addr)(fs:List (Str×V))(ds:List D)(as:List Addr)(δ:DS)(rs:List D),Ini K H0 x dx C H fs ds as/\σ[0]?=some (some (.ref x))/\Tb H/\σ.length=δ.length /\
 (∀(i:Nat)(d:D),δ[i]?=some (some (U.d d))->fl[i]?=some Fl.A/\iz d=true/\∃v,σ[i]?=some (some v)/\RA K ok1 true H v d)/\(fs.map (·.1)++nf.map (·.1)).Nodup/\fs.length+nf.length<1000/\iz.noIns ds=true/\G6 nf δ=some rs /\
 ∀H' fs' Z,Ini K H0 x dx C H' fs' (ds++rs) Z->fs'.map (·.1)=fs.map (·.1)++nf.map (·.1)->Y.nx σ H'
theorem Bx:∀{a b:List D},iz.noIns a=true->iz.noIns b=true->iz.noIns (a++b)=true
 |[],_,_,h=>h
 |x::a,b,h,h'=>by
  rw[iz.noIns,aK]at h;rw[kZ,iz.noIns,h.1,Bx h.2 h'];rfl
section
variable{X:Cx}{fl:List Fl}{f s0:Str}{nf:List (Str×FE)}
def Zo:PSs X [] (tI X.K fl C []):=PSs.imp xU λU σ H h=>by
 obtain⟨H0,x,dx,fs,ds,as,δ,rs,I,V,tb,gl,ga,Y,W,nd,Z,q⟩:=h
 cases Z;rw[cA]at q;exact q H fs as I (by simp)
def yq(h:DE X fl .T e fe)(hr:PSs X sts (tI X.K fl C nf))(hN:X.N[0]?=some s0)(c:Cls X.K C)(O:jD X.K C f)
 (hv:Vis X.env.scope s0:=by first|exact Or.inl rfl|exact Or.inr (Or.inl rfl)|exact Or.inr (Or.inr rfl)) (hd:(s0==("__debug__":Str))=false:=by decide) (hcd:(s0==("__classdict__":Str))=false:=by decide)
 (hs:swapsWith e (some (.Attribute (.Name s0 vpos) f p2)) pos.line X.env=pure false:=by rfl):PSs X (.Assign [.Attribute (.Name s0 vpos) f p2] e pos::sts) (tI X.K fl C ((f,fe)::nf)):=
 PSs.imp (vg (V4 h hN c O hv hd hcd hs) hr) λD σ H h=>by
 obtain⟨H0,x,dx,fs,ds,as,δ,rs,I,P,tb,gl,ga,Q,M,nd,L,q⟩:=h;refine aQ L λd G Z=>?_
 by_cases z:iz d=true
 case neg=>rw[if_neg z]at Z;cases Z
 rw[if_pos z]at Z;refine aQ Z λW J e4=>?_
 cases e4;rw[aD]at Q;have fn:=λy=>(cL.mp Q).2.2 f y f au rfl
 rw[aO]at M;refine⟨H0,x,dx,fs,ds,as,δ,d,I,P,tb,gl,λi d h=>⟨(ga i d h).1,(ga i d h).2.2⟩,fn,by lia,nd,z,G,λH' fs' R E en k Y=>?_⟩;have fl':fs'.length=fs.length+1:=by
  have:=congrArg lO en;simpa using this
 refine⟨H0,x,dx,fs',ds++[d],R,δ,W,E,P,Y,gl,λi d h=>?_,by rwa[en,d_],by lia,Bx nd (by rw[iz.noIns,z];rfl),J,λH2 V S F U=>?_⟩
 .obtain⟨h1,h2,v,h3,h4⟩:=ga i d h;exact⟨h1,h2,v,h3,k v d h4 h2⟩
 .refine q H2 V S ?_ ?_
  .rwa[d_]at F
  .rw[U,en,d_];rfl
end
def spI(K:aaa)(C:Addr)(ns:List Str)(F:List D->Option (List D)):Sp:=λvs H Q _=>∃(x dx:Addr)(us:List V)(ds rs:List D),vs=.ref x::us/\H x=some (.ins C dx [])/\H dx=some (.own x)/\Tb H/\RAs K ok1 true H us ds/\iz.noIns ds=true/\F ds=some rs /\
 ∀H' fs as,Ini K H x dx C H' fs rs as->fs.map (·.1)=ns->Q .non H'
structure HasI(P:dA)(w:d4)(K:aaa)(mg:Str->Option Value)(base:eg)(n:Nat)(c:Str)(C:Addr)(ps:List Str)(sp:Sp):Prop where
 ex:∃(f:Addr)(fd:ee),FnOk P w K mg base CX0 n f fd ps sp/\Binds K fd ps []/\Mk K C f
 mg:mg c=some (.ref C)
structure DgI(K:aaa)(mg:Str->Option Value)(c:Str)(C:Addr)(x:Str)(st:et)(ps:List Str):Prop where
 ex:∃(f:Addr)(fd:ee),FunX K "__init__" x st f fd/\Binds K fd ps []/\Mk K C f
 mg:mg c=some (.ref C)
def fnI(p q:Nat)(nf:List (Str×FE)):List D->Option (List D):=λds=>if ds.length=p then G6 nf (none::(ds.map (λd=>some (.d d))++bR q none))else none
theorem RK:∀{ds:List D}{i:Nat}{d:D},iz.noIns ds=true->ds[i]?=some d->iz d=true
 |[],_,_,_,h=>by simp at h
 |x::r,0,d,h,e=>by
  cases e;rw[iz.noIns,aK]at h;exact h.1
 |x::r,i+1,d,h,e=>by
  rw[iz.noIns,aK]at h;exact RK h.2 (by simpa using e)
def Zq{U:Str}{k:Nat}{nf:List (Str×FE)}(Dd:DgI K mg c C x st (U::ps))(S:FnScope N (U::ps) (aR st))(hp:∀i,i<ps.length->fl[i+1]?=some .A)(hN:ps.length+1<=N.length)(hn:(nf.map (·.1)).Nodup)(hl:nf.length<1000)
 (O:∀(f:Addr)(cdv:Value)(A:dQ)(outer:List Env)(s:dv)(H:Hp)(E:XK),Room k (A.deeper (envOfC x (aR st) s.heap.objs.size f cdv))->PSs (cx P w K mg base N x st f cdv A outer s H E) (dR st) (tI K fl C nf)):
 HasI P w K mg base (k+1) c C (U::ps) (spI K C (nf.map (·.1)) (fnI ps.length (N.length-(ps.length+1)) nf)):=by
 obtain⟨⟨f,fd,R,b,M⟩,hm⟩:=Dd;refine⟨⟨f,fd,?_,b,M⟩,hm⟩;refine R.ok S (λvs H Q E h=>?_) (λcdv A outer s H vs Q E W h=>?_)
 .obtain⟨y,dx,us,ds,rs,rfl,_,_,_,r,_,Z,_⟩:=h;unfold fnI at Z;by_cases z:ds.length=ps.length
  .rw[aO,aO,r.length,z]
  .rw[if_neg z]at Z;cases Z
 .obtain⟨y,dx,us,ds,rs,rfl,h1,h2,tb,r,X,Z,q⟩:=h;refine⟨_,O f cdv A outer s H E W,?_⟩;unfold fnI at Z;by_cases z:ds.length=ps.length
  case neg=>rw[if_neg z]at Z;cases Z
  rw[if_pos z]at Z;have Y:us.length=ps.length:=by rwa[r.length]
  refine⟨H,y,dx,[],[],[],_,rs,⟨h1,h2,.nil,.nil,λa ha=>(by cases ha),λb o hb=>?_,by rw[h1];simp⟩,?_,tb,?_,λi d h=>?_,by simpa using hn,by simpa using hl,rfl,Z,λH' fs as I en=>q H' fs as I (by simpa using en)⟩
  .by_cases e:b=y
   .rw[vL (p:=(· = y)) e]at hb;cases hb
   .rw[gR (p:=(· = y)) e]at hb;exact hb
  .rfl
  .unfold L2.start;simp only[aV,ak,bM,aO,Y,z];lia
  .cases i with
   |zero=>simp at h
   |succ i=>
    rw[oW]at h;by_cases hi:i<ps.length
    .rw[bU (by rwa[ak,z]),aF]at h
     cases e:ds[i]? with
     |none=>rw[e]at h;cases h
     |some L=>
      rw[e]at h
      cases h;obtain⟨v,T,V⟩:=r.get e;refine⟨hp i hi,RK X e,v,?_,V⟩;unfold L2.start;rw[bU (by rw[ak,aO,Y];lia),aF,oW,T];rfl
    .rw[bT (by rw[ak,z];lia),cJ]at h;split at h<;>cases h
def RM(C:Addr)(ns:List Str)(F:List D->Option (List D))(fa:FA):FE:=λδ=>(fa δ).bind λds=>if iz.noIns ds=true then(F ds).bind λrs=>some (.dict (tZ C ns rs))else none
def V6{ns:List Str}(h:HasI X.prog X.w X.K X.mg X.base n c C ps (spI X.K C ns F))(hr:Room (n+1) X.A)(ha:DB X fl .P (k::m) fa)(hg:Gl X c:=by rfl)(U:(c==("__debug__":Str))=false:=by decide)
 (he:starEach (k::m) X.env=(false,eval k X.env)::starEach m X.env:=by exact fX rfl) (O:(backTo t (starEach m X.env)).any (·.1)=false:=by exact vH rfl):
 DE X fl .T (.Call (.Name c p) (k::m) [] t) (RM C ns F fa):=by
 obtain⟨⟨f,fd,N,b,M⟩,hm⟩:=h;refine PE.imp (UL (E:=E0) M N hr hg hm b .nil Ft ha U he O) λσ H Q hq=>?_
 refine bV hq λG ow δ d R Z q=>?_
 refine aQ Z λds V Z=>?_
 by_cases z:iz.noIns ds=true
 case neg=>rw[if_neg z]at Z;cases Z
 rw[if_pos z]at Z;refine aQ Z λrs W Z=>?_
 cases Z;refine⟨G,ow,δ,ds,R,V,λvs H1 s1 r x dx hx Y ne=>?_⟩;have s2:Same H1 (upd (upd H1 dx (.own x)) x (.ins C dx [])):=(cC Y _).trans (cC (by rwa[aL (dL ne)]) _);have s:=s1.trans s2;refine⟨x,dx,vs++[],ds,rs,rfl,aW,by rw[aL ne,aW],(R.grow s).tb,?_,z,W,λH' fs as I en=>⟨rfl,?_⟩⟩
 .rw[cA];exact(show RAs X.K ok1 true H1 vs ds from r).same s2
 .have fr:∀b,upd (upd H1 dx (.own x)) x (.ins C dx []) b=none->H b=none:=λb hb=>s.free hb
  have sm:Same H H':=λb o hb=>by
   have S:b≠x:=λk=>by rw[k]at hb;have:=s1 _ _ hb;rw[hx]at this;cases this
   exact I.sm b o (by rw[gR (p:=(· = x)) S];exact s b o hb)
  refine q _ H' sm ⟨as,.ins I.hx I.hd I.rt (by rw[en]),I.nd,λa ha=>fr a (I.fr a ha)⟩
open XC
def DQ(l:List Nat)(c:Str)(f:FE):FX:=λδ=>(f δ).bind λd=>(kW l δ).bind λr=>some (.ex c (.tuple (d::r)))
def Lh(K:aaa)(mg:Str->Option Value)(fl:List Fl)(l:List Nat)(G:Gh)(O:Ends)(E:XK):Or->Prop
 |.o (.ex c _ (.tuple (r::ps)))=>∀v H' T',EndP K l G H' T' ps->(c="T"->Rp K l (λa=>G.H0 a=none) H' T' v r)->O.rt v H'
 |.o (.nx δ')=>yO K fl G O (.nx δ')
 |.ex c (.tuple (d::ps))=>∀(C:Addr)(v:V)(u:Value)(H':Hp) T',mg c=some (.ref C)->EndP K l G H' T' ps->RA K ok1 true H' v d->RelV v u->E u (some C) H'
 |_=>False
theorem Lh.nx{l:List Nat}{O:Ends}{t:D3.St->Hp->Prop}{o:Or}(q:Lh K mg fl l G O E o)(hn:∀δ,o ≠ .o (.nx δ)):Lh K mg fl l G {O with nx:=t} E o:=by
 cases o with
 |ex c d=>
  cases d with
  |tuple xs=>cases xs<;>exact q
  |_=>exact q
 |o x=>
  cases x with
  |nx δ=>exact absurd rfl (hn δ)
  |ex c f d=>
   cases d with
   |tuple xs=>cases xs<;>exact q
   |_=>exact q
  |_=>exact q
noncomputable def aj1(K:aaa)(mg:Str->Option Value)(fl:List Fl)(l:List Nat)(E:XK)(f:FX):TS:=λZ σ H=>∃G ow δ o,Rel K fl G ow σ H δ/\f δ=some o/\Lh K mg fl l G Z E o
abbrev N6(X:Cx)(E:XK)(fl:List Fl)(l:List Nat)(s:et)(f:FX):Prop:=PS X s (aj1 X.K X.mg fl l E f)
abbrev G7(X:Cx)(E:XK)(fl:List Fl)(l:List Nat)(s:List et)(f:FX):Prop:=PSs X s (aj1 X.K X.mg fl l E f)
def GoN(f:FS):Prop:=∀δ o,f δ=some o->∃δ',o=.nx δ'
section
variable{X:Cx}{E:XK}{fl:List Fl}{l:List Nat}{c:Expr}{fs:FS}{f g:FX}
def DR(h:DS1 X.nox fl st fs)(O:GoN fs):N6 X E fl l st (xOf fs):=PS.imp (PS.nox h) λU σ H h=>by
 refine bV h λG ow δ o R W q=>?_
 refine aQ W λY Z V=>?_
 cases V;obtain⟨δ',rfl⟩:=O δ Y Z;exact⟨G,ow,δ,_,R,Z,q⟩
theorem jW(h1:N6 X E fl l st f)(h2:G7 X E fl l sts g):G7 X E fl l (st::sts) (Ae f g):=PSs.imp (vg h1 h2) λU σ H h=>by
 refine bV h λG ow δ o R W q=>?_
 refine aQ W λZ V Y=>?_
 refine⟨G,ow,δ,Z,R,V,?_⟩
 cases Z with
 |ex c d=>cases Y;exact q.nx λ_ z=>by cases z
 |o Z=>
  cases Z with
  |nx δ'=>exact λow' σ' H' R'=>⟨G,ow',δ',o,R',Y,q⟩
  |_=>cases Y;exact q.nx λ_ z=>by cases z
def G8(h1:N6 X E fl l st f):G7 X E fl l [st] f:=PSs.imp (xV h1) λ_ _ _ h=>h
def vR:G7 X E fl l [] (xOf gJ):=PSs.imp xU λY σ H h=>by
 refine bV h λG ow δ o R Z q=>?_
 cases Z;exact q ow σ H R
theorem DX(O:DT X.nox fl c ft)(h1:G7 X E fl l body f)(h2:G7 X E fl l orelse g):N6 X E fl l (.If c body orelse pos) (xIf ft f g):=PS.imp (Fb (PT.nox O) h1 h2) λV σ H h=>by
 refine bV h λG ow δ o R Y q=>?_
 refine aQ Y λt W Z=>?_
 refine⟨G,ow,δ,t,R,W,λH' s=>?_⟩
 cases t with
 |true=>exact xJ ⟨G,ow,δ,o,R.grow s,Z,q⟩
 |false=>exact xH ⟨G,ow,δ,o,R.grow s,Z,q⟩
def uP:G7 X E fl l sts (λ_=>none):=λ_ _ _ _ _ _ h=>by
 obtain⟨_,_,_,_,_,Z,_⟩:=h
 cases Z
end
section
variable{fa:Addr}{outer:List Env}{s₀:dv}{H₀:Hp}{E:XK}
variable{fl:List Fl}{l:List Nat}{f:Str}{k:Nat}
def N7(O:ExcF K mg fld cn f)(hr:Room (k+2) (A.deeper (envOfC qual scope s₀.heap.objs.size fa cdv)))(hw:∀i∈l,fl[i]?=some .W)
 (ha:DE (nQ (CXE P w fld) P w K mg base N qual scope fa cdv A outer s₀ H₀ E).nox fl .P arg fe) (hg:Gl (nQ (CXE P w fld) P w K mg base N qual scope fa cdv A outer s₀ H₀ E) cn:=by rfl) (Y:(cn==("__debug__":Str))=false:=by decide)
 (he:starEach [arg] (nQ (CXE P w fld) P w K mg base N qual scope fa cdv A outer s₀ H₀ E).env=(false,eval arg (nQ (CXE P w fld) P w K mg base N qual scope fa cdv A outer s₀ H₀ E).env)::starEach [] (nQ (CXE P w fld) P w K mg base N qual scope fa cdv A outer s₀ H₀ E).env:=by exact fX rfl)
 (U:(backTo pos (starEach [] (nQ (CXE P w fld) P w K mg base N qual scope fa cdv A outer s₀ H₀ E).env)).any (·.1)=false:=by exact vH rfl):
 N6 (nQ (CXE P w fld) P w K mg base N qual scope fa cdv A outer s₀ H₀ E) E fl l (.Raise (some (.Call (.Name cn p) [arg] [] pos)) none rpos) (DQ l cn fe):=by
 intro pins s σ H F J h;obtain⟨C,I0,O,hC⟩:=O.ex;refine bV h λG ow δ o R V q=>?_
 refine aQ V λd Q Z=>?_
 refine aQ Z λr S Z=>?_
 cases Z;refine QH (R:=λv H1=>Same H H1/\RA K ok1 true H1 v d) O hr hg Y (PE.nox ha) J ⟨G,ow,δ,d,R,Q,λv H' s r=>⟨s,r⟩⟩ (λv H1 a dx u s' r X I Fl L M=>?_) he U;rw[<-hC]at Fl;exact ah8 I Fl L M (λT z=>by cases z) (q C v u H1 ow.n O.mgC (vM (R.grow r.1) hw S) r.2 X)
end
def less_none{p:Addr->Prop}(h:jV H p a=none):p a\/H a=none:=by
 by_cases y:p a
 .exact .inl y
 .rw[gR y]at h;exact .inr h
def V7(K:aaa)(mg:Str->Option Value)(l:List Nat)(F:List D->Option Or):Sp:=λvs H Q E=>∃(ds:List D)(T:Nat->List Addr)(o:Or),PreW K l H vs ds T/\F ds=some o/\match o with
 |.o (.ex c _ (.tuple (r::ps)))=>∀v H' T',PostW K l H T vs H' T' ps->(c="T"->Rp K l (λa=>(∃j∈l,a∈T j)\/H a=none) H' T' v r)->Q v H'
 |.ex c (.tuple (d::ps))=>∀(C:Addr)(v:V)(u:Value)(H':Hp) T',mg c=some (.ref C)->PostW K l H T vs H' T' ps->RA K ok1 true H' v d->RelV v u->E u (some C) H'
 |_=>False
def RN(l:List Nat):Option Or->Option Or
 |some (.o (.nx δ))=>(kW l δ).bind λr=>some (.o (.ex "" "" (.tuple (.none::r))))
 |o=>o
def RP(p q:Nat)(l:List Nat)(b:FX):List D->Option Or:=λds=>if ds.length=p then RN l (b (ds.map (λd=>some (.d d))++bR q none))else none
structure HasMX(P:dA)(w:d4)(K:aaa)(mg:Str->Option Value)(base:eg)(fld:Addr->Str)(n:Nat)(C:Addr)(m:Str)(ps:List Str)(sp:Sp):Prop where
 ex:∃(f:Addr)(fd:ee),FnOk P w K mg base (CXE P w fld) n f fd ps sp/\Binds K fd ps []/\Meth K C m f
 cl:Cls K C
def V8{m:Str}{k:Nat}{f:FX}{l:List Nat}(Dd:DgM K C m x st ps)(cl:Cls K C)(S:FnScope N ps (aR st))(hp:∀i,i<ps.length->i∉l->fl[i]?=some .A)(hw:∀i∈l,fl[i]?=some .W)(hN:ps.length<=N.length)
 (O:∀(fa:Addr)(cdv:Value)(A:dQ)(outer:List Env)(s:dv)(H:Hp)(E:XK),Room k (A.deeper (envOfC x (aR st) s.heap.objs.size fa cdv))->G7 (nQ (CXE P w fld) P w K mg base N x (aR st) fa cdv A outer s H E) E fl l (dR st) f):
 HasMX P w K mg base fld (k+1) C m ps (V7 K mg l (RP ps.length (N.length-ps.length) l f)):=by
 obtain⟨fa,fd,F,b,M⟩:=Dd.ex;refine⟨⟨fa,fd,?_,b,M⟩,cl⟩;obtain⟨oc,od,dV,kV,doc,pm,an,cdv,ct,osl,rfl,lk,hcd⟩:=F.ex;refine Pu lk hcd S (λvs H Q E h=>?_) λA outer s H vs Q E J h=>?_
 .obtain⟨ds,T,o,r,Z,_⟩:=h;unfold RP at Z;by_cases z:ds.length=ps.length
  .rw[r.ln];exact z
  .rw[if_neg z]at Z;cases Z
 .obtain⟨ds,T,o,r,Z,q⟩:=h;refine⟨_,O fa cdv A outer s H E J,?_⟩;unfold RP at Z;by_cases z:ds.length=ps.length
  case neg=>rw[if_neg z]at Z;cases Z
  rw[if_pos z]at Z;have R:=zB (K:=K) (N:=N) ps.length hp hw z hN r;generalize X:f (ds.map (λd=>some (U.d d))++bR (N.length-ps.length) none)=B at Z;unfold RN at Z;split at Z
  .next δ'=>
   refine aQ Z λD G I=>?_
   cases I;exact⟨_,_,_,_,R,X,λow' σ' H' R'=>q .non H' ow'.n (post_of r (vM R' hw G)) (λz=>absurd z (by decide))⟩
  .subst Z;refine⟨_,_,_,_,R,X,?_⟩
   cases o with
   |ex c d=>
    cases d with
    |tuple xs=>
     cases xs with
     |nil=>exact q
     |cons d ps=>exact λC v u H' T' m e=>q C v u H' T' m (post_of r e)
    |_=>exact q
   |o x=>
    cases x with
    |ex c f d=>
     cases d with
     |tuple xs=>
      cases xs with
      |nil=>exact q
      |cons d ps=>exact λv H' T' e t=>q v H' T' (post_of r e) λz=>let⟨as,L,V,Y⟩:=t z;⟨as,L,V,λa ha=>⟨less_none (H:=H) (p:=λb=>∃j∈l,b∈T j) (Y a ha).1,(Y a ha).2⟩⟩
     |_=>exact q
    |nx _=>exact q.elim
    |_=>exact q
inductive OrW where
 |nx (δ:DS)
 |ex (c:Str) (d:D) (δ:DS)
abbrev FXW:=DS->Option OrW
def tXW(K:aaa)(mg:Str->Option Value)(fl:List Fl)(f:FXW):Ends->XK->L2.St->Hp->Prop:=λZ EX σ H=>∃G ow δ o,Rel K fl G ow σ H δ/\f δ=some o/\match o with
 |.nx δ'=>∀ow' σ' H',Rel K fl G ow' σ' H' δ'->Z.nx σ' H'
 |.ex c d δ'=>∀(C:Addr)(v:V)(u:Value)(H':Hp) ow',mg c=some (.ref C)->Rel K fl G ow' σ H' δ'->RA K ok1 true H' v d->RelV v u->EX u (some C) H'
abbrev DXW(X:Cx)(fld:Addr->Str)(fl:List Fl)(st:et)(f:FXW):Prop:=PSE fld X st (tXW X.K X.mg fl f)
section
variable{X:Cx}{σ:L2.St}{H:Hp}{k:Nat}{sp:Sp}{EX:XK}
variable{m:Str}{o:Expr}{to:TE}{ta:TA}
end
section
variable{X:Cx}{fl:List Fl}{j:Nat}{m:Str}{ns:List Str}{F:List D->Option Or}{fa:FA}{f:FXW}{np:Pos}{fS:Str->D->FS}{sl:List (Option Nat)}{l:List Nat}
end
def Ag:D->D->Option D:=λx y=>match x,y with
 |.str i,.str j=>some (.bool (!decide (j.cps.toList<i.cps.toList)))
 |_,_=>none
def aj2:R2:=λx y H Q=>∃i j,x=.str i/\y=.str j/\Q (.bl (!decide (j.cps.toList<i.cps.toList))) H
def RQ:OpR X (compareOp .LtE) aj2:=by
 intro pins s σ H x y v u Q I Y Z h;obtain⟨i,j,rfl,rfl,q⟩:=h;obtain⟨t,rfl⟩:=Y;obtain⟨W,rfl⟩:=Z;exact PySem.P.le_str (Yw I q rfl)
def Xv:BrO K aj2 Ag:=by
 intro H x y dx X d Q Y Z e q;unfold Ag at e;split at e
 .cases e;obtain rfl:=RA.strE Y;obtain rfl:=RA.strE Z;exact⟨_,_,rfl,rfl,q _ rfl (.bl _)⟩
 .cases e
noncomputable def slB(fl:List Fl)(sl:List (Option Nat))(l sw:List Nat):Bool:=
 ((bC sl.length).all λi=>match sl[i]? with|some (some _)=>decide (i∈l)|_=>true) &&
 ((bC sl.length).all λi=>(bC sl.length).all λj=>match sl[i]?,sl[j]? with|some (some s),some (some t)=>decide (s≠t)||decide (i=j)|_,_=>true) &&
 decide (sw.length=l.length)&&((bC l.length).all λk=>match l[k]?,sw[k]? with|some i,some s=>decide (sl[i]?=some (some s))|_,_=>true)&&decide sw.Nodup&&(sw.all λs=>decide (fl[s]?=some .N)||decide (fl[s]?=some .W))
def zN{sw:List Nat}(h:slB fl m q sw=true):SlW fl m q sw:=by
 unfold slB at h;simp only[aK,gB,cI,decide_eq_true_eq]at h;obtain⟨⟨⟨⟨⟨h1,h2⟩,h3⟩,h4⟩,h5⟩,h6⟩:=h;have lt:∀{α:Type}{q:List α}{i:Nat}{x:α},q[i]?=some x->i<q.length:=λe=>(aH.mp e).1
 refine⟨λi s e=>?_,λi j s e Z=>?_,h3,λk i s e Z=>?_,h5,λs hs=>?_⟩
 .have:=h1 i (lt e);rw[e]at this;exact of_decide_eq_true this
 .have:=h2 i (lt e) j (lt Z);rw[e,Z]at this;simpa using this
 .have:=h4 k (lt e);rw[e,Z]at this;exact of_decide_eq_true this
 .have:=h6 s hs;simpa using this
def gow(h:GoN k):GoW k:=λδ o e=>by
 obtain⟨δ',rfl⟩:=h δ o e;exact⟨λd z=>(by cases z),λc x d z=>(by cases z)⟩
section
variable{k:Nat}{f g:FE}{fw:FW}{fs gs:FS}{ns:List Str}
def qz:GoN (bY i f):=λδ o e=>by
 unfold bY at e;split at e
 .refine aQ e λd _ e=>?_
  cases e;exact⟨_,rfl⟩
 .cases e
def V9:GoN (yK f):=λδ o e=>by
 refine aQ e λd _ e=>?_
 cases e;exact⟨_,rfl⟩
def G9:GoN (wF fw):=λδ o e=>by
 refine aQ e λd _ e=>?_
 cases e;exact⟨_,rfl⟩
def DY:GoN (Bv C ns k i fk f):=λδ o e=>by
 refine aQ e λ_ _ e=>?_
 refine aQ e λ_ _ e=>?_
 refine aQ e λ_ _ e=>?_
 refine aQ e λ_ _ e=>?_
 split at e
 .refine aQ e λ_ _ e=>?_
  split at e
  .cases e;exact⟨_,rfl⟩
  .cases e
 .cases e
def V_:GoN (K6 C ns k i f):=λδ o e=>by
 refine aQ e λ_ _ e=>?_
 refine aQ e λ_ _ e=>?_
 refine aQ e λ_ _ e=>?_
 split at e
 .split at e
  .cases e;exact⟨_,rfl⟩
  .cases e
 .cases e
theorem Li{tg:FG}(h:GoN fs):∀(l:List D)(δ:DS)(o:Oc),lq tg fs l δ=some o->∃δ',o=.nx δ'
 |[],δ,o,e=>by cases e;exact⟨_,rfl⟩
 |d::r,δ,o,e=>by
  rw[lq]at e;refine aQ e λY _ e=>?_
  refine aQ e λX W e=>?_
  obtain⟨Z,rfl⟩:=h Y X W;exact Li h r Z o e
def Zr(h:GoN fs):GoN (rT m q fs):=λδ o e=>by
 refine aQ e λl _ e=>?_
 exact Li h l δ o e
end
def D_:D->Option D
 |.list l=>if flats l=true then some (.list l)else none
 |_=>none
def RV(h:DE X fl .P k m)(hg:Gl X "list")(hm:X.mg "list"=none)
 (U:starEach [k] X.env=(false,eval k X.env)::starEach [] X.env:=by rfl) (O:(backTo r (starEach [] X.env)).any (·.1)=false:=by rfl):DE X fl .FC (.Call (.Name "list" p) [k] [] r) (dUn D_ m):=
 PE.imp (jT vm hg hm cv (dO h iJ U) (by decide) (by decide) U O) λσ H Q h=>by
 refine bV h λG ow δ d R V q=>?_
 refine aQ V λx T Z=>?_
 refine⟨G,ow,δ,x,R,T,λv H1 s1 r1=>?_⟩;unfold D_ at Z;split at Z
 .next l=>
  by_cases c:flats l=true
  case neg=>rw[if_neg c]at Z;cases Z
  rw[if_pos c]at Z
  cases Z;have r1:=r1;obtain⟨p,xs,rfl,hx,W⟩:=r1.lstE;exact⟨p,xs,rfl,.inl hx,λpn Y=>q _ _ (s1.trans (cC Y _)) (.inr ⟨pn,xs,l,rfl,rfl,s1.free Y,aW,(RAs.flat c W).same (cC Y _)⟩)⟩
 .cases Z
abbrev aj3(X:Cx)(i:Nat)(n f:Str)(a:Addr)(oa:Obj)(dx:Addr)(od:Obj)(v:V):Prop:=∀p1 pos,PE (XC.ig X a oa dx od) (.Attribute (.Name n p1) f pos) (λσ H Q=>σ[i]?=some (some (.ref a))/\Q v H)
section
variable{fa:Addr}{outer:List Env}{s₀:dv}{H₀:Hp}{E:XK}
variable{fl:List Fl}{l:List Nat}{f:FXW}
end
section
variable{X:Cx}{E:XK}{fl:List Fl}{j:Nat}{m:Str}{ns:List Str}{F:List D->Option Or}{c:Expr}{fa:FA}{f:FW}{f1 f2:FXW}{s1 s2:et}{sl:List (Option Nat)}{l:List Nat}
end
def Lj(l:List Nat)(f:FE):FS:=λδ=>(f δ).bind λd=>(kW l δ).bind λr=>some (.ex "" "" (.tuple (d::r)))
def aj4(K:aaa)(fl:List Fl)(l:List Nat)(G:Gh)(O:Ends):Oc->Prop
 |.ex _ _ (.tuple (r::ps))=>∀v H' T',RA K ok1 true H' v r->EndP K l G H' T' ps->O.rt v H'
 |.nx δ'=>yO K fl G O (.nx δ')
 |_=>False
def av6(K:aaa)(fl:List Fl)(l:List Nat)(f:FS):TS:=λZ σ H=>∃G ow δ o,Rel K fl G ow σ H δ/\f δ=some o/\aj4 K fl l G Z o
abbrev aj5(X:Cx)(fl:List Fl)(l:List Nat)(s:et)(f:FS):Prop:=PS X s (av6 X.K fl l f)
section
variable{X:Cx}{fl:List Fl}{l:List Nat}{fs gs:FS}{f:FE}
end
def tEP(K:aaa)(fl:List Fl)(f:FW):TE:=λσ H Q=>∃G ow δ d δ',Rel K fl G ow σ H δ/\f δ=some (d,δ')/\∀v H' ow',Rel K fl G ow' σ H' δ'->RA K ok1 true H' v d->Q v H'
abbrev DEP(X:Cx)(fl:List Fl)(e:Expr)(f:FW):Prop:=PE X e (tEP X.K fl f)
def RW(g:D->D->Option D)(f:FW)(fb:FE):FW:=λδ=>(f δ).bind λp=>(fb p.2).bind λy=>(g p.1 y).bind λd=>some (d,p.2)
section
variable{X:Cx}{fl:List Fl}{a b:Expr}{F:List D->Option D}{fa:FA}{sl:List (Option Nat)}{l:List Nat}{f:FW}{op:fR}{r:R2}{g:D->D->Option D}
def Zt(h1:DEP X fl a f)(h2:DE X fl .P b fb)(hs:j6 b):DEP X fl (.Subscript a b pos) (RW gIx f fb):=PE.imp (vh rP h1 h2 hs) λσ H Q h=>by
 obtain⟨G,ow,δ,d,δ',R,Y,q⟩:=h;obtain⟨⟨x,O⟩,M,Y⟩:=bind1 Y;refine aQ Y λy N Y=>?_
 refine aQ Y λz W Y=>?_
 cases Y;refine⟨G,ow,δ,x,_,R,M,λv H1 Z S r1=>⟨G,Z,_,y,S,N,λu H2 s2 r2=>?_⟩⟩;have W:gIx x y=some d:=W;unfold gIx at W;split at W
 .next l i _ _=>
  obtain rfl:=RA.intE r2;obtain⟨p,xs,rfl,hx,U⟩:=RA.lstE (RA.same s2 r1);obtain⟨z,T,V⟩:=U.at W;exact .inl ⟨p,xs,_,z,rfl,rfl,hx,T,q z H2 Z (S.grow s2) V⟩
 .next l i _ _=>
  obtain rfl:=RA.intE r2;obtain⟨p,xs,rfl,hx,U⟩:=RA.tupE (RA.same s2 r1);obtain⟨z,T,V⟩:=U.at W;exact .inr (.inl ⟨p,xs,_,z,rfl,rfl,hx,T,q z H2 Z (S.grow s2) V⟩)
 .cases W
end
structure At2(K:aaa)(i:Nat)(a:Addr)(v:V)(d:D)(σ:L2.St)(H:Hp):Prop where
 sl:σ[i]?=some (some (.ref a))
 ra:RA K ok1 true H v d
section
variable{fl:List Fl}{v:V}{d:D}{σ:L2.St}{H H':Hp}
def At2.grow(h:At2 K i a v d σ H)(s:Same H H'):At2 K i a v d σ H':=⟨h.sl,h.ra.same s⟩
def At2.set(h:At2 K i a v d σ H)(n:i≠k):At2 K i a v d (σ.set k m) H:=⟨by rw[aB (dL n)];exact h.sl,h.ra⟩
end
noncomputable def tV(K:aaa)(fl:List Fl)(z:Sc)(k:Kd)(f:FE):TE:=λσ H Q=>∃G ow δ x,Rel K fl G ow σ H δ/\At2 K z.i z.a z.v z.d σ H/\f δ=some x/\∀y H',Same H H'->Rs K G.H0 ow H H' k y x->Q y H'
def av7(K:aaa)(fl:List Fl)(z:Sc)(l:List Nat)(G:Gh)(O:Ends):Oc->Prop
 |.nx δ'=>∀ow' σ' H',Rel K fl G ow' σ' H' δ'->At2 K z.i z.a z.v z.d σ' H'->O.nx σ' H'
 |.ex _ _ (.tuple (r::ps))=>∀y H' T',RA K ok1 true H' y r->EndP K l G H' T' ps->O.rt y H'
 |_=>False
noncomputable def tVS(K:aaa)(fl:List Fl)(z:Sc)(l:List Nat)(f:FS):TS:=λZ σ H=>∃G ow δ o,Rel K fl G ow σ H δ/\At2 K z.i z.a z.v z.d σ H/\f δ=some o/\av7 K fl z l G Z o
abbrev VE(X:Cx)(fl:List Fl)(z:Sc)(k:Kd)(e:Expr)(f:FE):Prop:=PE X e (tV X.K fl z k f)
abbrev VS(X:Cx)(fl:List Fl)(z:Sc)(l:List Nat)(s:et)(f:FS):Prop:=PS X s (tVS X.K fl z l f)
abbrev VSs(X:Cx)(fl:List Fl)(z:Sc)(l:List Nat)(s:List et)(f:FS):Prop:=PSs X s (tVS X.K fl z l f)
section
variable{X:Cx}{fl:List Fl}{z:Sc}{l:List Nat}{a b c:Expr}{k:Kd}{f fa:FE}{fs gs:FS}{fr:FA}
def Xw(h:DE X fl k e f):VE X fl z k e f:=PE.imp h λσ H Q h=>by
 obtain⟨G,ow,δ,x,R,_,Z,q⟩:=h;exact⟨G,ow,δ,x,R,Z,q⟩
def Wa(h:VE X fl z k e f)(U:∀(Hb H:Hp)(G:Gh)(ow:Ow)(σ:L2.St)(δ:DS)(v:V)(d:D),Rel X.K fl G ow σ Hb δ->Rs X.K G.H0 ow Hb H k v d->Rs X.K G.H0 ow Hb H O v d):VE X fl z O e f:=PE.imp h λσ H Q h=>by
 obtain⟨G,ow,δ,x,R,A,Z,q⟩:=h;exact⟨G,ow,δ,x,R,A,Z,λv H' s r=>q v H' s (U _ _ G ow σ δ v x R r)⟩
def Wb(h1:VS X fl z l st fs):VSs X fl z l [st] fs:=PSs.imp (xV h1) λ_ _ _ h=>h
def Zu(O:∀i∈l,fl[i]?=some .W)(h:VE X fl z .P e f):VS X fl z l (.Return (some e) pos) (Lj l f):=PS.imp (yD h) λS σ H h=>by
 obtain⟨G,ow,δ,o,R,A,V,q⟩:=h;refine aQ V λd T Z=>?_
 refine aQ Z λr U Z=>?_
 cases Z;exact⟨G,ow,δ,d,R,A,T,λv H' s Y=>q v H' ow.n Y (vM (R.grow s) O U)⟩
end
def NoC(o:Obj):Prop:=∃C vs,o.cls=.ref C/\o.data=.fields vs/\vs[2]?=some .none
def RX(X:Cx)(fl:List Fl)(fld:Addr->Str)(l:List Nat)(ic:Str)(i:Nat)(b0:et)(suite:List et)(fS:Str->D->FS)(c:Str):Prop:=
 ∃C I0 Z,Exc X.K X.mg c (fld C) C I0/\(Z=C\/Z=I0)/\X.mg ic=some (.ref Z)/\∀(a:Addr)(oa:Obj)(dx:Addr)(od:Obj)(u:Value)(v:V)(d:D),oa.cls=.ref C->oa.dict=some dx->abl oa=true->(∀h:eg,h.get? dx=some od->h.Ns1 dx (λz=>if z=fld C then some u else none))->RelV v u->NoC oa ->
  VSs (ig X a oa dx od) fl ⟨i,a,v,d⟩ l (b0::suite) (fS c d)
noncomputable def BJ(i:Nat)(f:FXW)(cs:List Str)(fS:Str->D->FS):FS:=λδ=>(f δ).bind λo=>match o with
 |.nx δ'=>some (.nx δ')
 |.ex c d Z=>if c∈cs then(fS c d (Z.set i none)).bind λo=>match o with
  |.ex a b (.tuple (r::ps))=>some (.ex a b (.tuple (r::ps)))
  |.nx δ'=>some (.nx (δ'.set i none))
  |_=>none
  else none
section
variable{X:Cx}{fl:List Fl}{f:FXW}{np:Pos}{fS:Str->D->FS}{l:List Nat}
def Wc(h:DXW X fld fl st f)(hcs:∀c∈cs,RX X fl fld l ic i b0 suite fS c)(O:fl[i]?=some .A)
 (hi:X.N[i]?=some en) (hN:X.N.Nodup) (hl:X.env.scope.names.lookup en=some .local) (hst:X.stack=X.env::X.outer:=by rfl) (hfr:X.env.frame=some X.env.locals:=by rfl) (hx:X=X.nox:=by rfl)
 (hgi:Gl X ic:=by rfl) (hdi:(ic==("__debug__":Str))=false:=by decide):
 aj5 X fl l (.Try [st] [.ExceptHandler (some (.Name ic np)) (some en) (b0::suite) hpos] [] [] tpos) (BJ i f cs fS):=by
 intro pins s σ H U J h0;refine bV h0 λG ow δ o R hf q=>?_
 refine aQ hf λo1 b V=>?_
 refine wpAny_Try_except ?_;have one:∀(D:Ends)(EX:XK),(tXW X.K X.mg fl f) D EX σ H->(∀s',SP X pins D .next s'->SP X pins U .next s')->(∀e s',XP fld X pins σ EX e s'->wpAny (model X.prog X.w) X.A (noteFrame e X.env) (λ_ W=>wpAny (model X.prog X.w) X.A (setFlight e none) (λ_ Y=>wpAny (model X.prog X.w) X.A (handleBy e X.env [.ExceptHandler (some (.Name ic np)) (some en) (b0::suite) hpos]) (SP X pins U) X.xe Y) X.xe W) X.xe s')->(D.rt=λ_ _=>False)->(D.bk=λ_ _=>False)->(D.ct=λ_ _=>False)->wpAny (model X.prog X.w) X.A (execs [st] X.env) (λf Z=>match f with | .next=>wpAny (model X.prog X.w) X.A (execs [] X.env) (SP X pins U) X.xe Z|f=>SP X pins U f Z)
  (λe Z=>wpAny (model X.prog X.w) X.A (noteFrame e X.env) (λ_ W=>wpAny (model X.prog X.w) X.A (setFlight e none) (λ_ Y=>wpAny (model X.prog X.w) X.A (handleBy e X.env [.ExceptHandler (some (.Name ic np)) (some en) (b0::suite) hpos]) (SP X pins U) X.xe Y) X.xe W) X.xe Z) s:=λD EX hq hn M x B E=>by
  refine cc (av (h pins s σ H D EX J hq) (λfl' s1 z=>?_) λe s1 z=>M e s1 z)
  cases fl' with
  |next=>exact bj (bj (hn _ z))
  |ret v=>obtain⟨_,_,_,_,_,z⟩:=z;rw[x]at z;exact z.elim
  |brk=>obtain⟨_,_,_,z⟩:=z;rw[B]at z;exact z.elim
  |cont=>obtain⟨_,_,_,z⟩:=z;rw[E]at z;exact z.elim
 split at V
 .next δ'=>
  cases V;refine one {nx:=λσ' H2=>∃ow',Rel X.K fl G ow' σ' H2 δ',rt:=λ_ _=>False,bk:=λ_ _=>False,ct:=λ_ _=>False} (λ_ _ _=>False) ⟨G,ow,δ,_,R,b,λow' σ' H' R'=>⟨ow',R'⟩⟩ (λs' z=>?_) (λe s' z=>?_) rfl rfl rfl
  .obtain⟨σ',H',n,ow',R'⟩:=z;exact⟨σ',H',n,q ow' _ H' R'⟩
  .obtain⟨_,_,_,_,_,_,_,_,_,_,_,_,z⟩:=z;exact z.elim
 .next c d S=>
  by_cases F:c∈cs
  case neg=>rw[if_neg F]at V;cases V
  rw[if_pos F]at V;refine aQ V λo2 e3 e4=>?_
  obtain⟨C,I0,Dc,Ex,hD,I,L⟩:=hcs c F;refine one {nx:=λσ' H2=>False,rt:=λ_ _=>False,bk:=λ_ _=>False,ct:=λ_ _=>False} (λu k H'=>k=some C/\(∃ow',Rel X.K fl G ow' σ H' S)/\∃v,RelV v u/\RA X.K ok1 true H' v d) ⟨G,ow,δ,_,R,b,λk v u H' ow' j R' r' Q=>⟨by rw[Ex.mgC]at j;cases j;rfl,⟨ow',R'⟩,v,Q,r'⟩⟩ (λs' z=>?_) (λe s' z=>?_) rfl rfl rfl
  .obtain⟨_,_,_,z⟩:=z;exact z.elim
  .obtain⟨a,k,dx,T,u,H',rfl,n,Fl,La,Ld,LT,hC,⟨P,R1⟩,v,Q,rd⟩:=z
   cases hC;refine Gk rfl n hst hfr Fl La Ld (λT' z=>by cases z;exact LT) λs2 T2 I2 m o1 o2 p=>?_
   obtain⟨vs,sl,w1,_,w0⟩:=m.obj;obtain⟨od,t,r,w2,w3⟩:=m.dic;have t1:=L a ⟨.ref C,some dx,.fields vs,sl⟩ dx od u v d rfl rfl rfl (λh' z=>⟨od,t,r,z,w3⟩) Q ⟨C,vs,rfl,rfl,w0⟩;have li:i<σ.length:=by
    rw[I2.len];exact(aH.mp hi).1
   refine ai1 (D:=Dc) (i:=i) (ts:=tVS X.K fl ⟨i,a,v,d⟩ l (fS c d)) I2 m La Ld p Ex hD I hgi hdi hi hN hl λoa od' ea g=>?_
   rw[w1]at ea;rw[w2]at g
   cases ea
   cases g;refine⟨t1,G,P,_,_,Rel.forget R1 O,⟨bH li,rd⟩,e3,?_⟩;split at e4
   .cases e4;exact λy H2 T' r2 V=>q y H2 T' r2 V
   .next δ'=>
    cases e4;exact λow' σ' H2 R' _=>q ow' _ H2 (Rel.forget R' O)
   .cases e4
end
section
variable{X:Cx}{fl:List Fl}{f n:Str}{ts:List (Str×Bool)}{dx:Addr}{od:Obj}{v:V}{d:D}{fS:Str->D->FS}{l:List Nat}
end
end XI
namespace D3
end D3
namespace XN
open L2 My D3
section
variable{X:Cx}
end
end XN
namespace D3
end D3
namespace XW
open L2 My D3
section
variable{prog:dA}{E:Value->dv->Prop}
end
section
variable{X:Cx}{fl:List Fl}{a b:Expr}{fa f:FE}
end
end XW
namespace XI
open L2 My D3
section
variable{X:Cx}
end
section
variable{X:Cx}{fl:List Fl}{l:List Nat}{a b c:Expr}{fw gw:FTW}{fs gs:FS}
def Zv(h:DTW X fl a fw):DWW X fl (.BoolOp .Or [a] pos) fw:=O3 h
theorem aj6(h1:DTW X fl a fw)(h2:DWW X fl (.BoolOp .Or (b::rest) pos) gw):DWW X fl (.BoolOp .Or (a::b::rest) pos) (Zk fw gw):=PW.imp (Xg h1 h2) λσ H Q h=>by
 obtain⟨G,ow,δ,k,δ',R,W,q⟩:=h;obtain⟨⟨t,Z⟩,V,Y⟩:=bind1 W;refine⟨G,ow,δ,t,Z,R,V,λH' ow' R'=>?_⟩
 cases t with
 |true=>cases Y;exact xJ (q H' ow' R')
 |false=>exact xH ⟨G,ow',Z,k,δ',R',Y,q⟩
theorem Zw(O:DTW X fl c fw)(h1:DWs X fl l body fs)(h2:DWs X fl l orelse gs):DW1 X fl l (.If c body orelse pos) (GQ fw fs gs):=PS.imp (Fb O h1 h2) λV σ H h=>by
 refine bV h λG ow δ o R Y q=>?_
 obtain⟨⟨t,δ'⟩,W,Z⟩:=bind1 Y;refine⟨G,ow,δ,t,δ',R,W,λH' ow' R'=>?_⟩
 cases t with
 |true=>exact xJ ⟨G,ow',δ',o,R',Z,q⟩
 |false=>exact xH ⟨G,ow',δ',o,R',Z,q⟩
end
end XI
namespace D3
end D3
namespace XI
open L2 My D3 XK
end XI
namespace XC
open L2 My D3
def Wd(A:dQ)(outer:List Env)(s:dv)(H:Hp):Prop:=HqC A s.heap H (frs outer) []
def cxH(P:dA)(w:d4)(K:aaa)(mg:Str->Option Value)(base:eg)(N:List Str)(qual:Str)(scope:eL)(f:Addr)(cd:Value)(A:dQ)(outer:List Env)(s:dv)(H:Hp)(E:XK):Cx:=
 {nQ CX0 P w K mg base N qual scope f cd A outer s H E with still:=false}
def Jx{outer:List Env}{s1:dv}
 (S:FnScope N ps scope) (U:Wd A outer s H) (O:Env0 P w K mg base A outer s H) (Y:vs.length=ps.length) (r:Vals vs us)
 (x:InCallC s s.heap.objs.size (bindL (envOfC qual scope s.heap.objs.size f cd).kindOf (ps.zip us) λ_=>none) (cellsFrom (s.heap.objs.size+1) scope.names []) (bindC (envOfC qual scope s.heap.objs.size f cd).kindOf (ps.zip us) λ_=>none) s1):
 Inv (cxH P w K mg base N qual scope f cd A outer s H E) [] (start N vs) H s1:=by
 have Z:Env0 P w K mg base {A with handled:=none} outer s H:=⟨O.frames,O.mod,O.bs,O.bsz,O.funs,O.frf,O.hok,O.bare⟩;have I:=Bg (CX:=CX0) (E:=E) (qual:=qual) (f:=f) (cd:=cd) S (A:={A with handled:=none}) rfl Z Y r x;exact⟨⟨I.ok.mod,I.ok.kind,I.ok.glob,I.ok.blt,I.ok.above,I.ok.inj,I.ok.has,I.ok.cab,λ_=>U,λz=>(by cases z),I.ok.frames,I.ok.stk,I.ok.exf,I.ok.bs,I.ok.bsz,I.ok.noex,I.ok.exfs,I.ok.funs,I.ok.frf⟩,I.os,I.bare,I.base,I.loc,I.cell,I.free,I.freeC,I.pin,I.hok,I.len⟩
theorem Zx{k:Nat}{name:Str}{params:gd}{body:List et}{scope:eL}{kV:Value}
 (lk:K.lookup f=some ⟨oc,od,.func (aac name qual params body scope dV kV doc pm an cdv ct),osl⟩) (hcd:aah K cdv qual=true) (S:FnScope N ps scope)
 (len:∀vs H Q E,sp vs H Q E->vs.length=ps.length)
 (O:∀(A:dQ)(outer:List Env)(s:dv)(H:Hp)(vs:List V)(Q:VK)(E:XK),RoomQ k (A.deeper (envOfC qual scope s.heap.objs.size f cdv))->Wd A outer s H->sp vs H Q E ->
  ∃t,PSs (cxH P w K mg base N qual scope f cdv A outer s H E) body t/\t {nx:=λ_ H'=>Q .non H',rt:=Q} (start N vs) H):
 FnOkP P w K mg base Wd (k+1) f (aac name qual params body scope dV kV doc pm an cdv ct) ps sp:=by
 refine⟨len,λA outer s H args us vs Q E L T hb r X Y=>?_⟩;have C:=len _ _ _ _ Y;have G:K.In s.heap:=T.mod.kin.keeps λb o e=>(T.bs b o e).1
 have M:s.heap.NoLimit:=T.mod.nolimit.keeps λb o e=>(T.bs b o e).1
 have Z:∀y∈ps.zip us,scope.names.lookup y.1=some .local\/(scope.names.lookup y.1=some .cell/\((cellsFrom (s.heap.objs.size+1) scope.names []).lookup y.1).isSome=true):=λ⟨n,v⟩ F=>by
  rcases S.par n (jH F).1 with q|q
  .exact .inl q
  .exact .inr ⟨q,aar _ _ _ (.inl q)⟩
 refine cr L.depth (G _ _ lk) rfl S.co S.gen rfl (aaK G hcd) (hb _ _ _ _ ?_);refine bX S.kind Z λenv B s1 x=>?_
 subst B;refine⟨M.keeps x.toInCall.keep,codeAny_func ?_⟩;obtain⟨t,D,hq⟩:=O A outer s H vs Q E (L.deeper _) X Y;have I:Inv (cxH P w K mg base N qual scope f cdv A outer s H E) [] (start N vs) H s1:=Jx S X T C r x;refine av (D [] s1 (start N vs) H _ I hq) (λfl s' hs=>?_) λe s' hs=>hs
 have U:∀{σ':L2.St}{H':Hp}{v:V}{u:Value},Inv (cxH P w K mg base N qual scope f cdv A outer s H E) [] σ' H' s'->RelV v u->Q v H'->CE outer P w H s Q u s':=
  λ{σ' H' v u} J R q=>⟨v,H',J.os,J.bare,J.base,J.hok,R,q⟩
 cases fl with
 |ret u=>
  obtain⟨v,σ',H',J,R,q⟩:=hs;exact U J R q
 |next=>
  obtain⟨σ',H',J,q⟩:=hs;exact U (v:=V.non) (u:=d5) J rfl q
 |brk=>
  obtain⟨_,_,_,q⟩:=hs;exact eB q
 |cont=>
  obtain⟨_,_,_,q⟩:=hs;exact eB q
end XC
namespace XI
open L2 My D3 XK XC
abbrev Lk(P:dA)(w:d4)(K:aaa)(mg:Str->Option Value)(base:eg)(k:Nat)(f:Addr)(fd:ee)(ps:List Str)(sp:Sp):Prop:=FnOkP P w K mg base Wd k f fd ps sp
structure HasH(P:dA)(w:d4)(K:aaa)(mg:Str->Option Value)(base:eg)(n:Nat)(x:Str)(ps:List Str)(sp:Sp):Prop where
 ex:∃(f:Addr)(fd:ee),Lk P w K mg base n f fd ps sp/\Binds K fd ps []/\aae K (.ref f)=true/\mg x=some (.ref f)
structure HasMH(P:dA)(w:d4)(K:aaa)(mg:Str->Option Value)(base:eg)(n:Nat)(C:Addr)(m:Str)(ps:List Str)(sp:Sp):Prop where
 ex:∃(f:Addr)(fd:ee),Lk P w K mg base n f fd ps sp/\Binds K fd ps []/\Meth K C m f
 cl:Cls K C
section
variable{m:Str}{k:Nat}{fs:FS}{fl:List Fl}{sp:Sp}
def Wf(h:Lk P w K mg base n f fd ps sp):FnOk P w K mg base CX0 n f fd ps sp:=
 ⟨h.len,λA outer s H args us vs Q E Z Y hb r q=>h.run A outer s H args us vs Q E ⟨Z.dp,Z.un⟩ Y hb r (.inl Z.hd) q⟩
def HasMH.has(h:HasMH P w K mg base n C m ps sp):HasM P w K mg base n C m ps sp:=let⟨f,fd,F,b,M⟩:=h.ex;⟨⟨f,fd,Wf F,b,M⟩,h.cl⟩
def RZ(Fn:FunX K m x st f fd)(S:FnScope N ps (aR st))(U:∀i,i<ps.length->fl[i]?=some .A)(Y:ps.length<=N.length)
 (O:∀(f:Addr)(cdv:Value)(A:dQ)(outer:List Env)(s:dv)(H:Hp)(E:XK),RoomQ k (A.deeper (envOfC x (aR st) s.heap.objs.size f cdv))->DSs (cxH P w K mg base N x (aR st) f cdv A outer s H E).nox fl (dR st) fs):
 Lk P w K mg base (k+1) f fd ps (spD K (fnD ps.length (N.length-ps.length) fs)):=by
 obtain⟨oc,od,dV,kV,doc,pm,an,cdv,ct,osl,rfl,lk,hcd⟩:=Fn.ex;refine Zx lk hcd S (λvs H Q E h=>?_) λA outer s H vs Q E X _ h=>?_
 .obtain⟨ds,d,r,Z,_⟩:=h;unfold fnD at Z;by_cases z:ds.length=ps.length
  .rw[r.2.length];exact z
  .rw[if_neg z]at Z;cases Z
 .obtain⟨ds,d,r,Z,q⟩:=h;refine⟨_,(O f cdv A outer s H E X).nox,?_⟩;unfold fnD at Z;by_cases z:ds.length=ps.length
  .rw[if_pos z]at Z;split at Z
   .next W e=>
    cases Z;exact⟨_,_,_,_,mX ps.length U z Y r,e,λv H' s r=>q v H' s r⟩
   .next δ' e=>
    cases Z;exact⟨_,_,_,_,mX ps.length U z Y r,e,λow' σ' H' R'=>q .non H' R'.same0 .non⟩
   .cases Z
  .rw[if_neg z]at Z;cases Z
def Zy(Dd:Dg K mg x st ps)(S:FnScope N ps (aR st))(U:∀i,i<ps.length->fl[i]?=some .A)(Y:ps.length<=N.length)
 (O:∀(f:Addr)(cdv:Value)(A:dQ)(outer:List Env)(s:dv)(H:Hp)(E:XK),RoomQ k (A.deeper (envOfC x (aR st) s.heap.objs.size f cdv))->DSs (cxH P w K mg base N x (aR st) f cdv A outer s H E).nox fl (dR st) fs):
 HasH P w K mg base (k+1) x ps (spD K (fnD ps.length (N.length-ps.length) fs)):=by
 obtain⟨f,fd,Z,b,m⟩:=Dd.ex;exact⟨f,fd,RZ ⟨Z.ex⟩ S U Y O,b,Z.kp,m⟩
def Zz(Dd:DgM K C m x st ps)(cl:Cls K C)(S:FnScope N ps (aR st))(U:∀i,i<ps.length->fl[i]?=some .A)(Y:ps.length<=N.length)
 (O:∀(f:Addr)(cdv:Value)(A:dQ)(outer:List Env)(s:dv)(H:Hp)(E:XK),RoomQ k (A.deeper (envOfC x (aR st) s.heap.objs.size f cdv))->DSs (cxH P w K mg base N x (aR st) f cdv A outer s H E).nox fl (dR st) fs):
 HasMH P w K mg base (k+1) C m ps (spD K (fnD ps.length (N.length-ps.length) fs)):=by
 obtain⟨f,fd,Z,b,M⟩:=Dd.ex;exact⟨⟨f,fd,RZ Z S U Y O,b,M⟩,cl⟩
end
def HqX(X:Cx):Prop:=∀pins σ H s,Inv X pins σ H s->HqC X.A s.heap H (frs X.stack) []
def N8(h:NoC m):HqX (ig X a m k q):=λpins σ H s J=>by
 obtain⟨C,vs,W,Y,Z⟩:=h;obtain⟨p1,p2,p3,p4,_⟩:=J.pin (a,m) (bI _ (aP _ au));refine .inr ⟨a,m,C,vs,rfl,p1,p2,λz=>?_,λz=>(by cases z),W,Y,Z⟩;rcases aC.mp (J.stkSub a z)with y|y
 .exact p3 y
 .exact p4 y
section
variable{X:Cx}{fl:List Fl}{o:Expr}{fa:FA}{f:FE}{m:Str}{ns:List Str}{F:List D->Option D}
def R3(h:HasH X.prog X.w X.K X.mg X.base n x ps (spD X.K F))(hq:HqX X)(hr:RoomQ n X.A)(ha:DB X fl .P (e::es) fa)(hg:Gl X x:=by rfl)(U:(x==("__debug__":Str))=false:=by decide)
 (he:starEach (e::es) X.env=(false,eval e X.env)::starEach es X.env:=by exact fX rfl) (O:(backTo pos (starEach es X.env)).any (·.1)=false:=by exact vH rfl):
 DE X fl .C (.Call (.Name x p) (e::es) [] pos) (dCall F fa):=by
 obtain⟨g,fd,M,b,kp,Y⟩:=h.ex;intro pins s σ H Q J V;refine bV V λG ow δ d R T q=>?_
 refine aQ T λds N S=>?_
 refine ay (tE J hg Y ?_ U);refine aaq (h₀:=X.base) J.ok.mod.kin kp (thn (ha pos pins s σ H (λvs H1=>Same H H1/\RAs X.K ok1 true H1 vs ds) J ⟨G,ow,δ,ds,R,N,λvs H' s r=>⟨s,r⟩⟩) λus s1 ⟨vs,H1,Z,r,sm,ra⟩=>?_) he O;exact⟨Z.kIn,Kz M hr b Z r (hq _ _ _ _ Z) ⟨ds,d,⟨(R.grow sm).tb,ra⟩,S,λv H2 s2 r2=>q v H2 (sm.trans s2) (RA.imp (λa z=>sm.free z) (λz=>z) r2)⟩⟩
def N_{pl:Sem Bool}(h:HasMH X.prog X.w X.K X.mg X.base n C m ps (spD X.K F))(hq:HqX X)(hr:RoomQ n X.A)(hm:m∉ns)(ho:DE X fl .P o f)
 (ht:eval (.Call (.Attribute o m apos) [] [] pos) X.env=(do
  let O <-eval o X.env
  standAt apos.atName
  let(f,fi) <-holding [O] (getMethod O m pl)
  callWith pos f fi (backTo pos (starEach [] X.env)) (backToKw pos (keywordEach [] X.env))):=by rfl):
 DE X fl .C (.Call (.Attribute o m apos) [] [] pos) (iu F C ns f aX):=by
 obtain⟨g,fd,E,b,M⟩:=h.ex;intro pins s σ H Q J S;refine bV S λG ow δ r R Z q=>?_
 refine aQ Z λd I Z=>?_
 refine aQ Z λxs L Z=>?_
 refine aQ Z λds N Z=>?_
 cases N;refine aau (pl:=pl) (thn (ho pins s σ H (λv H0=>Same H H0/\RA X.K ok1 true H0 v d) J ⟨G,ow,δ,d,R,I,λv H0 s0 k2=>⟨s0,k2⟩⟩) λu s1 ⟨v,H1,Y,V,sm,k2⟩=>?_) ht;obtain⟨a,dx,fs,rfl,T,D,U,_⟩:=Dt k2 L;obtain rfl:u=dE a:=V;refine p8 Y T h.cl M (mY (by rwa[U])) ?_;exact aaX (first:=[.ref a]) Y.kIn M.kp (Kz (us:=[.ref a]) (vs:=[.ref a]) E hr b Y (.cons rfl .nil) (hq _ _ _ _ Y) ⟨[d],r,⟨(R.grow sm).tb,.cons k2 .nil⟩,Z,λv H2 s2 r2=>q v H2 (sm.trans s2) (RA.imp (λa z=>sm.free z) (λz=>z) r2)⟩)
end
section
variable{X:Cx}{fl:List Fl}{z:Sc}{a b:Expr}{fa:FE}
def ZC(O:OpR X (compareOp op) r)(hb:BrO X.K r g)(h1:VE X fl z .P a fa)(h2:VE X fl z .P b fb)(hm:behindInMarks op b=false):VE X fl z .FC (.Compare a [op] [b] pos) (dOp g fa fb):=PE.imp (J6 O h1 h2 hm) λσ H Q h=>by
 obtain⟨G,ow,δ,d,R,A,W,q⟩:=h;refine D3.ex2 (ug W) λx y T U V=>?_
 refine⟨G,ow,δ,x,R,A,T,λv H1 s1 r1=>⟨G,ow,δ,y,R.grow s1,A.grow s1,U,λu H2 s2 r2=>?_⟩⟩;exact hb H2 v u x y d Q (RA.same s2 r1) r2 V λz Y Z=>q z H2 (s1.trans s2) (.inl ⟨Y,Z⟩)
def ZD(h1:VE X fl z .P a fa)(h2:VE X fl z .FC (.BoolOp .And (b::rest) pos) fb):VE X fl z .FC (.BoolOp .And (a::b::rest) pos) (Cm fa fb):=PE.imp (O6 h1 h2) λσ H Q h=>by
 obtain⟨G,ow,δ,d,R,A,Y,q⟩:=h;refine aQ Y λx W Z=>?_
 refine⟨G,ow,δ,x,R,A,W,λv H1 s1 r1=>?_⟩;split at Z
 .obtain rfl:=RA.blE r1;exact⟨true,rfl,xJ ⟨G,ow,δ,d,R.grow s1,A.grow s1,Z,λu H2 s2 r2=>q u H2 (s1.trans s2) (r2.back s1)⟩⟩
 .obtain rfl:=RA.blE r1
  cases Z;exact⟨false,rfl,xH (q _ H1 s1 (Rs.of_flat rfl (.bl _)))⟩
 .cases Z
end
end XI
variable{ks:List (L2.Key×L2.V)}
namespace XI
open L2 My D3 XK
abbrev T3:=List (Str×Int×Int)
def ptP(S:T3):List (D×D):=S.map λq=>(.str q.1,.tuple [.int q.2.1,.int q.2.2])
noncomputable def ptD:List (D×D)->Option T3
 |[]=>some []
 | (.str x,.tuple [.int i,.int j])::r=>(ptD r).map ((x,i,j) :: ·)
 |_=>none
theorem Ea:∀{kvs:List (D×D)}{S:T3},ptD kvs=some S->kvs=ptP S
 |[],S,h=>by cases h;rfl
 | (k,v)::r,S,h=>by
  unfold ptD at h;split at h
  .next e=>cases e
  .next x i j Z e=>
   cases e
   cases q:ptD r with
   |none=>rw[q]at h;cases h
   |some Y=>
    rw[q]at h
    cases h;rw[Ea q];rfl
  .cases h
def R5(S:T3):isI (ptP S)=false:=by cases S<;>rfl
theorem qH(h:TVs H ks (ptP (q::S))):∃b r,ks=(.inr q.1,.ref b)::r/\dU H b [.int q.2.1,.int q.2.2]/\TVs H r (ptP S):=by
 have h:=h
 cases h with
 |cons2 t r=>
  rcases t with⟨_,e⟩|⟨b,ds,rfl,e,h3,h4⟩
  .cases e
  .cases e;exact⟨b,_,rfl,h3,r⟩
def G_(h:dU H b [.int q.2.1,.int q.2.2])(g:TVs H r (ptP S)):TVs H ((.inr q.1,.ref b)::r) (ptP (q::S)):=
 TVs.cons2 (.inr ⟨b,_,rfl,rfl,h,rfl⟩) g
def Xx(g:DH H u (ptP S)):∃ks,u=.dK ks/\TVs H ks (ptP S):=by
 rcases g with⟨h,rfl⟩|⟨ks,rfl,q⟩|⟨k,ks,rfl,q⟩
 .cases S with
  |nil=>exact⟨[],rfl,.nil⟩
  |cons q S=>cases h
 .exact⟨ks,rfl,q⟩
 .cases S with
  |nil=>cases q
  |cons p S=>
   have q:=q
   cases q
def ud(S:T3)(k:Str):Option (Int×Int):=(S.find? λq=>decide (q.1=k)).map (·.2)
def Ln(S:T3)(k:Str):T3:=S.filter λq=>decide (q.1≠k)
noncomputable def uo(S:T3)(k:Str)(v:Int×Int):T3:=if(S.any λq=>decide (q.1=k))=true then S.map (λq=>if q.1=k then(q.1,v)else q)else S++[(k,v)]
def pJ : ud (q::S) k=if q.1=k then some q.2 else ud S k:=by
 unfold ud;rw[rA];by_cases c:q.1=k<;>simp[c]
theorem Eb(k:Str):∀{S:T3}{ks:List (Key×V)},TVs H ks (ptP S)->(sH ks (.inr k)).isSome=(ud S k).isSome/\∀p,ud S k=some p->∃b,sH ks (.inr k)=some (.ref b)/\dU H b [.int p.1,.int p.2]
 |[],ks,h=>by
  have h:=h
  cases h;exact⟨rfl,λp e=>by cases e⟩
 |q::S,ks,h=>by
  obtain⟨b,r,rfl,hb,g⟩:=qH h;by_cases c:q.1=k
  .rw[pA (by rw[c]),pJ,if_pos c];exact⟨rfl,λp e=>by cases e;exact⟨b,rfl,hb⟩⟩
  .rw[pB (λz=>c (by injection z)),pJ,if_neg c];exact Eb k g
theorem R6:∀{S:T3}{ks:List (Key×V)},TVs H ks (ptP S)->(ks.any λO=>decide (O.1=(.inr k:Key)))=S.any λq=>decide (q.1=k)
 |[],ks,h=>by
  have h:=h
  cases h;rfl
 |q::S,ks,h=>by
  obtain⟨b,r,rfl,hb,g⟩:=qH h;rw[jf,jf,R6 g];congr 1;simp
theorem Jy(hb:dU H b [.int m,.int j]):∀{S:T3}{ks:List (Key×V)},TVs H ks (ptP S)->TVs H (ks.map λO=>if O.1=(.inr k:Key)then(O.1,.ref b)else O) (ptP (S.map λq=>if q.1=k then(q.1,(m,j))else q))
 |[],ks,h=>by
  have h:=h
  cases h;exact .nil
 |q::S,ks,h=>by
  obtain⟨Y,r,rfl,Z,g⟩:=qH h;rw[aD,aD];by_cases c:q.1=k
  .rw[if_pos (by rw[c]),if_pos c];exact G_ (q:=(q.1,(m,j))) hb (Jy hb g)
  .rw[if_neg (λz=>c (by injection z)),if_neg c];exact G_ Z (Jy hb g)
theorem R7(hb:dU H b [.int m,.int j]):∀{S:T3}{ks:List (Key×V)},TVs H ks (ptP S)->TVs H (ks++[(.inr k,.ref b)]) (ptP (S++[(k,(m,j))]))
 |[],ks,h=>by
  have h:=h
  cases h;exact G_ (q:=(k,(m,j))) hb .nil
 |q::S,ks,h=>by
  obtain⟨Y,r,rfl,Z,g⟩:=qH h;exact G_ Z (R7 hb g)
def ZF(hb:dU H b [.int m,.int j])(h:TVs H q (ptP S)):TVs H (putK q (.inr k) (.ref b)) (ptP (uo S k (m,j))):=by
 unfold putK uo;rw[R6 h];split
 .exact Jy hb h
 .exact R7 hb h
theorem Lp:∀{S:T3}{ks:List (Key×V)},TVs H ks (ptP S)->TVs H (o_ ks (.inr k)) (ptP (Ln S k))
 |[],ks,h=>by
  have h:=h
  cases h;exact .nil
 |q::S,ks,h=>by
  obtain⟨X,r,rfl,Z,g⟩:=qH h;have Y:=Lp (k:=k) g;unfold o_ Ln at Y ⊢;by_cases c:q.1=k
  .rwa[iH (by simpa using c),iH (by simpa using c)]
  .rw[iI (by simpa using c),iI (by simpa using c)];exact G_ Z Y
theorem Xy{S:T3}{as:List Addr}(r:RT K H v (.dict (ptP S)) as):∃a ks,v=.ref a/\H a=some (.dK ks)/\TVs H ks (ptP S)/\as=[a]:=by
 cases r with
 |dic e g=>
  obtain⟨ks,rfl,q⟩:=Xx g;exact⟨_,ks,rfl,e,q,rfl⟩
 |ins _ _ _ z=>have:=R5 S;rw[z]at this;cases this
def wH{ok:Ok}{kvs:List (D×D)}{S:T3}(e:ptD kvs=some S)(r:RA K ok pl H v (.dict kvs)):∃a ks,v=.ref a/\L2.Rd H a (.dK ks)/\TVs H ks (ptP S):=by
 obtain rfl:=Ea e;obtain⟨a,u,rfl,h1,h2⟩:=r.dicU (R5 S);obtain⟨ks,rfl,q⟩:=Xx h2;exact⟨a,ks,rfl,h1,q⟩
def TVs.same(q:TVs H ks k)(e:Same H H'):TVs H' ks k:=q.imp λ_ _ h=>dU.same e h
def Ec{ok:Ok}{i:Int}(h:dU H b [.int i,.int j]):RA K ok pl H (.ref b) (.tuple [.int i,.int j]):=.tup h (.cons (.int i) (.cons (.int j) .nil))
theorem Wg{ok:Ok}{i:Int}(r:RA K ok pl H v (.tuple [.int i,.int j])):∃b,v=.ref b/\dU H b [.int i,.int j]:=by
 obtain⟨b,xs,rfl,h,q⟩:=r.tupE0
 cases q with
 |cons a q=>
  cases q with
  |cons c q=>
   cases q;obtain rfl:=RA.intE a;obtain rfl:=RA.intE c;exact⟨b,rfl,h⟩
def R8:D->D->Option D:=λx y=>match x,y with
 |.str k,.dict kvs=>(ptD kvs).bind λS=>some (.bool (ud S k).isSome)
 |_,_=>none
def oA:D->D->Option D:=λy x=>match x,y with
 |.str k,.dict kvs=>(ptD kvs).bind λS=>(ud S k).bind λv=>some (.tuple [.int v.1,.int v.2])
 |_,_=>none
def aj7:BrO K Zb R8:=by
 intro H x y dx V d Q Y Z e q;unfold R8 at e;split at e
 .next k kvs=>
  refine aQ e λS W X=>?_
  cases X;obtain rfl:=RA.strE Y;obtain⟨a,ks,rfl,h,g⟩:=wH W Z;refine⟨a,_,rfl,.inl ⟨_,.inr k,h,rfl,rfl⟩,?_⟩;rw[(Eb k g).1];exact q _ rfl (.bl _)
 .cases e
section
variable{X:Cx}{fl:List Fl}{a b:Expr}{fa f:FE}
def yr(O:X.A.units+1<cLine)(ha:DE X fl .P a fa)(hb:DE X fl .P b fb)(hs:QV b):DE X fl .FC (.Subscript a b pos) (dOp oA fa fb):=PE.imp (CZ O ha hb hs) λσ H Q h=>by
 refine bV h λG ow δ d R W q=>?_
 refine D3.ex2 (ug W) λx y N T Z=>?_
 refine⟨G,ow,δ,x,R,N,λv H1 s1 r1=>⟨G,ow,δ,y,R.grow s1,T,λu H2 s2 r2=>?_⟩⟩;unfold oA at Z;split at Z
 .next k kvs=>
  refine aQ Z λS e4 e5=>?_
  refine aQ e5 λn e6 U=>?_
  cases U;obtain rfl:=RA.strE r2;obtain⟨p,ks,rfl,Y,g⟩:=wH e4 r1;obtain⟨c,V,hb⟩:=(Eb k g).2 n e6;exact⟨p,.ref c,rfl,.inl ⟨_,.inr k,tU s2 Y,rfl,V.symm⟩,q _ H2 (s1.trans s2) (.inl ⟨rfl,Ec (dU.same s2 hb)⟩)⟩
 .cases Z
def zO(i:Nat)(fk f:FE):FS:=λδ=>(f δ).bind λd=>(ao i δ).bind λy=>(fk δ).bind λZ=>match y,Z,d with
 |.dict kvs,.str x,.tuple [.int v,.int w]=>(ptD kvs).bind λS=>if S.length<1000 then some (.nx (δ.set i (some (.d (.dict (ptP (uo S x (v,w))))))))else none
 |_,_,_=>none
def Hf(i:Nat)(fk:FE):FW:=λδ=>(ao i δ).bind λy=>(fk δ).bind λZ=>match y,Z with
 |.dict kvs,.str x=>(ptD kvs).bind λS=>(ud S x).bind λv=>some (.tuple [.int v.1,.int v.2],δ.set i (some (.d (.dict (ptP (Ln S x))))))
 |_,_=>none
theorem Jz:∀{S:T3}{ks:List (Key×V)},TVs H ks (ptP S)->ks.length=S.length
 |[],ks,h=>by
  have h:=h
  cases h;rfl
 |q::S,ks,h=>by
  obtain⟨Y,r,rfl,Z,g⟩:=qH h;rw[aO,aO,Jz g]
def Lq(hu:X.A.units+1<cLine)(O:fl[i]?=some .N\/fl[i]?=some .W)(h:DE X fl .P e f)(U:DE X fl .P ke fk)(hN:X.N[i]?=some x)
 (hv:Vis X.env.scope x:=by first|exact Or.inl rfl|exact Or.inr (Or.inl rfl)|exact Or.inr (Or.inr rfl)) (hd:(x==("__debug__":Str))=false:=by decide) (hcd:(x==("__classdict__":Str))=false:=by decide)
 (hs:swapsWith e (some (.Subscript (.Name x vpos) ke spos)) pos.line X.env=pure false:=by rfl):
 DS1 X fl (.Assign [.Subscript (.Name x vpos) ke spos] e pos) (zO i fk f):=
 PS.imp (C_ hu (fW hN hv hd hcd) U h hs) λm σ H F=>by
 refine bV F λG ow δ o R E q=>?_
 refine aQ E λd B I=>?_
 refine aQ I λy z J=>?_
 refine aQ J λr e4 V=>?_
 split at V
 case h_2=>cases V
 next kvs Z n n2=>
 refine aQ V λS C Y=>?_
 by_cases T:S.length<1000
 case neg=>rw[if_neg T]at Y;cases Y
 rw[if_pos T]at Y
 cases Y;obtain rfl:=Ea C;have isT:isN fl[i]?=true:=by rcases O with y|y<;>(rw[y];rfl)
 have M:=eX z;have hi:=(aH.mp M).1;obtain⟨v,L,w,p⟩:=R.nr i _ isT M;obtain⟨a,ks,rfl,g2,g3,ea⟩:=Xy w;refine⟨G,ow,δ,_,R,B,λu H1 s1 r1=>?_⟩;obtain⟨b,rfl,hb⟩:=Wg r1;refine⟨_,L,G,ow,δ,_,R.grow s1,e4,λt K Q r3=>?_⟩;obtain rfl:=RA.strE r3;have s:=s1.trans Q;have h3:=s _ _ g2;refine⟨a,_,rfl,CW.k (k:=.inr Z) h3 (by rw[Jz g3];exact fV T (by decide)),?_⟩;have D:TVs K (putK ks (.inr Z) (.ref b)) (ptP (uo S Z (n,n2))):=ZF (dU.same Q hb) (TVs.same g3 s);have g':DH (L2.upd K a (.dK (putK ks (.inr Z) (.ref b)))) (.dK (putK ks (.inr Z) (.ref b))) (ptP (uo S Z (n,n2))):=DH.upd (.inr (.inl ⟨_,rfl,D⟩)) h3;exact q (owN ow i [a]) σ _ (xg (R.grow s) O hi L (lZ (by rw[ea];exact au)) (.dic aW g') (λb hb=>.inl (by rwa[ea])) (by simp))
def Wh(O:fl[i]?=some .N\/fl[i]?=some .W)(U:DE X fl .P ke fk)(hN:X.N[i]?=some x)(hm:M1 X (.Name x vpos) "pop" k ke m)
 (hv:Vis X.env.scope x:=by first|exact Or.inl rfl|exact Or.inr (Or.inl rfl)|exact Or.inr (Or.inr rfl)) (hd:(x==("__debug__":Str))=false:=by decide) (hcd:(x==("__classdict__":Str))=false:=by decide):
 DEP X fl (.Call (.Attribute (.Name x vpos) "pop" k) [ke] [] m) (Hf i fk):=
 PE.imp (Gv (fW hN hv hd hcd) U hm) λσ H Q I=>by
 obtain⟨G,ow,δ,t,δ',R,F,q⟩:=I;refine aQ F λy B J=>?_
 refine aQ J λu e4 Y=>?_
 split at Y
 case h_2=>cases Y
 next kvs Z=>
 refine aQ Y λS C K=>?_
 refine aQ K λn D L=>?_
 cases L;obtain rfl:=Ea C;have isT:isN fl[i]?=true:=by rcases O with y|y<;>(rw[y];rfl)
 have T:=eX B;have hi:=(aH.mp T).1;obtain⟨v,M,A,r⟩:=R.nr i _ isT T;obtain⟨a,ks,rfl,g2,g3,ea⟩:=Xy A;refine⟨_,M,a,rfl,.inl ⟨_,.inl g2⟩,G,ow,δ,_,R,e4,λw z s r3=>?_⟩;obtain rfl:=RA.strE r3;have h3:=s _ _ g2;have V:=TVs.same g3 s;obtain⟨b,E,hb⟩:=(Eb Z V).2 n D;refine⟨ks,.inr Z,.ref b,h3,rfl,E,?_⟩;have g':DH (L2.upd z a (.dK (o_ ks (.inr Z)))) (.dK (o_ ks (.inr Z))) (ptP (Ln S Z)):=DH.upd (.inr (.inl ⟨_,rfl,Lp V⟩)) h3;exact q _ _ (owN ow i [a]) (xg (R.grow s) O hi M (lZ (by rw[ea];exact au)) (.dic aW g') (λb hb=>.inl (by rwa[ea])) (by simp)) (Ec (dU.upd h3 hb))
end
def R9{l:List Nat}{Q:V->Hp->Prop}(q:VP K l G d Q):VP K l (ghL fl' G ow H) d Q:=λr ps v H' T' X Y Z e4=>q r ps v H' T' X Y Z ⟨e4.sm,e4.rt,e4.fr,e4.dj⟩
def ZG{T:List Nat}(hp:fE (model X.prog X.w) X.A X.env X.xe)(hc:X.calm=true)(hi:DI X fl L tg q3 q4)(hg:DG X (lock L fl) T tg q5)(hb:DWs X (lock L fl) q0 q1 fs)
 (hs:∀x,foldedSetIterable q3 X.env x=pure x:=by intro _;rfl):DW1 X fl q0 (.For tg q3 q1 [] q2) (rT q4 q5 fs):=PS.imp (B_ hp hc hi hg hb hs) λDn σ H h=>by
 refine bV h λG ow δ o F k q=>?_
 refine aQ k λU e1 e2=>?_
 refine⟨G,ow,δ,U,F,e1,λJ H1 s C=>?_⟩;have N:=F.grow s;have RL:=N.lock L;refine⟨λi m σ' H'=>m=U.length-i/\∃ow' δ',Rel X.K (lock L fl) (ghL (lock L fl) G ow H1) ow' σ' H' δ'/\lq q5 fs (U.drop i) δ'=some o,⟨_,rfl,ow,δ,RL,by simpa using e2⟩,?_⟩;rintro i m σ' H' ⟨rfl,ow',δ',R',hd⟩;have kept:∀b o,H1 b=some o->(∀i,ow i=some b->i∈L)->(∀i,b∉ow.n i)->H' b=some o:=λb o hb r hn=>R'.s1 b o (by
  rw[lJ]
  .exact hb
  .rintro(⟨j,e,p⟩|⟨j,e,_⟩)
   .exact(CG p).2 (r j e)
   .exact hn j e)
 obtain⟨y,B⟩:=C H' kept i;by_cases O:i<U.length
 .have R:=gP O;rw[R,lq]at hd;refine aQ hd λP a hd=>?_
  refine aQ hd λI e4 hd=>?_
  obtain⟨go,D⟩:=y U[i] (aG O);refine .inr ⟨go,λσ' H'=>∃ow' δ',Rel X.K (lock L fl) (ghL (lock L fl) G ow H1) ow' σ' H' δ'/\lq q5 fs (U.drop (i+1)) δ'=some o,λV H2 ⟨Z,Y,R2,h2⟩=>⟨U.length-(i+1),by lia,rfl,Z,Y,R2,h2⟩,λx H3 t=>?_⟩;obtain⟨u,r3⟩:=D x H3 t;have sub:∀b,okA ow b/\H1 b≠none->okA ow' b:=λb z=>by
   obtain⟨Q,M⟩:=z;refine⟨λj e=>?_,λj e=>?_⟩
   .rcases(R'.own j b e).2.1 with⟨_,S⟩|⟨S,_⟩
    .have:(ghL (lock L fl) G ow H1).HF b=H1 b:=lJ (by rintro(⟨j',W,_⟩|⟨j',W,_⟩);exact Q.1 j' W;exact Q.2 j' W);rw[this]at S;exact M S
    .have W:ow' j=ow j:=R'.pin j S;rw[W]at e;exact Q.1 j e
   .rcases(R'.nt j b e).2.2 with⟨_,S⟩|w
    .have:(ghL (lock L fl) G ow H1).HF b=H1 b:=lJ (by rintro(⟨j',W,_⟩|⟨j',W,_⟩);exact Q.1 j' W;exact Q.2 j' W);rw[this]at S;exact M S
    .have W:ow'.n j=ow.n j:=R'.np j w;rw[W]at e;exact Q.2 j e
  refine⟨_,ow',δ',_,P,R'.grow u,r3.imp sub (λz=>z),a,λE R4 _=>⟨_,ow',P,I,R4,e4,?_⟩⟩
  .cases I with
   |nx Y=>exact λZ V H2 R2=>⟨Z,Y,R2,hd⟩
   |ct Y=>exact λZ V H2 R2=>⟨Z,Y,R2,hd⟩
   |bk Y=>cases hd;exact λZ V H2 R2=>q Z V H2 (N.unlock R2)
   |rt d=>cases hd;exact q
   |ex c f v=>cases hd;exact R9 q
 .have e:U.drop i=[]:=iW (by lia);rw[e,lq]at hd
  cases hd;exact .inl ⟨B (by lia),q ow' σ' H' (N.unlock R')⟩
def Ed:D->Option D
 |.dict kvs=>(ptD kvs).bind λS=>some (.list (S.map λq=>.str q.1))
 |_=>none
def uQ:D->Option D
 |.dict kvs=>(ptD kvs).bind λS=>some (.list (S.map λq=>.tuple [.int q.2.1,.int q.2.2]))
 |_=>none
theorem R_{ok:Ok}:∀{S:T3}{ks:List (Key×V)},TVs H ks (ptP S)->RAs K ok pl H' (ks.map λq=>kV q.1) (S.map λq=>.str q.1)
 |[],ks,h=>by
  have h:=h
  cases h;exact .nil
 |q::S,ks,h=>by
  obtain⟨b,r,rfl,hb,g⟩:=qH h;exact .cons (.str q.1) (R_ g)
theorem Sd{ok:Ok}(s:Same H H'):∀{S:T3}{ks:List (Key×V)},TVs H ks (ptP S)->RAs K ok pl H' (ks.map (·.2)) (S.map λq=>.tuple [.int q.2.1,.int q.2.2])
 |[],ks,h=>by
  have h:=h
  cases h;exact .nil
 |q::S,ks,h=>by
  obtain⟨b,r,rfl,hb,g⟩:=qH h;exact .cons (Ec (dU.same s hb)) (Sd s g)
section
variable{X:Cx}{fl:List Fl}{f:FE}
def Sg(hc:X.still=true)(h:DE X fl .P e f)(Y:Gl X "list")(hm:X.mg "list"=none)
 (U:starEach [e] X.env=(false,eval e X.env)::starEach [] X.env:=by rfl) (O:(backTo pos (starEach [] X.env)).any (·.1)=false:=by rfl):DE X fl .FC (.Call (.Name "list" p) [e] [] pos) (dUn Ed f):=
 PE.imp (jT (zK hc) Y hm cv (dO h iJ U) (by decide) (by decide) U O) λσ H Q h=>by
 refine bV h λG ow δ d R W q=>?_
 refine aQ W λx N Z=>?_
 refine⟨G,ow,δ,x,R,N,λv H1 s1 r1=>?_⟩;unfold Ed at Z;split at Z
 .next kvs=>
  refine aQ Z λS V T=>?_
  cases T;obtain⟨a,ks,rfl,hx,g⟩:=wH V r1;exact⟨a,ks,rfl,hx,λl hn=>q _ _ (s1.trans (cC hn _)) (.inr ⟨l,_,_,rfl,rfl,s1.free hn,aW,R_ g⟩)⟩
 .cases Z
def zP(hc:X.still=true)(h:DE X fl .P e f)(hg:Gl X "list")(hm:X.mg "list"=none)
 (U:attributeBase e "values" X.env (eval e X.env)=eval e X.env:=by rfl) (O:(apos.endLine==cpos.line)=true:=by rfl)
 (he:starEach [.Call (.Attribute e "values" apos) [] [] cpos] X.env=(false,eval (.Call (.Attribute e "values" apos) [] [] cpos) X.env)::starEach [] X.env:=by exact fX rfl) (hpl:(backTo pos (starEach [] X.env)).any (·.1)=false:=by rfl):DE X fl .FC (.Call (.Name "list" p) [.Call (.Attribute e "values" apos) [] [] cpos] [] pos) (dUn uQ f):=
 PE.imp (jT (zL hc) hg hm cv (dO (Le h U O) iJ he) (by decide) (by decide) he hpl) λσ H Q h=>by
 refine bV h λG ow δ d R V q=>?_
 refine aQ V λx M Z=>?_
 refine⟨G,ow,δ,x,R,M,λv H1 s1 r1=>?_⟩;unfold uQ at Z;split at Z
 .next kvs=>
  refine aQ Z λS T N=>?_
  cases N;obtain⟨a,ks,rfl,hx,g⟩:=wH T r1;refine⟨a,ks,rfl,hx,λr Y=>⟨r,a,ks,rfl,aW,tU (cC Y _) hx,λW hn=>?_⟩⟩;have sm:=(cC Y (G4 r a)).trans (cC hn (.lst (ks.map (·.2))));exact q _ _ (s1.trans sm) (.inr ⟨W,_,_,rfl,rfl,(s1.trans (cC Y _)).free hn,aW,Sd sm g⟩)
 .cases Z
end
def Hg(i:Nat)(f:FE):FS:=λδ=>(ao i δ).bind λy=>(f δ).bind λd=>match y with
 |.list m=>if flat d=true/\m.length<1000000 then some (.nx (δ.set i (some (.d (.list (m++[d]))))))else none
 |_=>none
theorem Wi(hfl:fl[i]?=some .N\/fl[i]?=some .W)(h:DE X fl .P k r)(hN:X.N[i]?=some x)
 (hv:Vis X.env.scope x:=by first|exact Or.inl rfl|exact Or.inr (Or.inl rfl)|exact Or.inr (Or.inr rfl)) (hd:(x==("__debug__":Str))=false:=by decide) (hcd:(x==("__classdict__":Str))=false:=by decide)
 (hs:swapsWith (.Call (.Attribute (.Name x vpos) "append" t) [k] [] z) none m.line X.env=pure false:=by rfl)
 (Y:attributeBase (.Name x vpos) "append" X.env (eval (.Name x vpos) X.env)=eval (.Name x vpos) X.env:=by rfl)
 (hfew:((backTo z (starEach [k] X.env)).all (λx=>!x.1)&&(backToKw z (keywordEach [] X.env)).all (λx=>x.1.isSome)
  && decide (([k]:List Expr).length+([]:List eM).length+(if([]:List eM).isEmpty then 0 else 1)<30))=true:=by rfl)
 (U:(t.endLine==z.line)=true:=by rfl) (hst:starEach [k] X.env=(false,eval k X.env)::starEach [] X.env:=by rfl) (O:(backTo z (starEach [] X.env)).any (·.1)=false:=by rfl):
 DS1 X fl (.Expr (.Call (.Attribute (.Name x vpos) "append" t) [k] [] z) m) (Hg i r):=
 PS.imp (nU (Fj aan aal aam mV (fW hN hv hd hcd) (dO h iJ hst) Y hfew U hst O) hs) λD σ H J=>by
 refine bV J λG ow δ o R Z q=>?_
 refine aQ Z λy E K=>?_
 refine aQ K λd I L=>?_
 have Z:=L;split at Z
 case h_2=>cases Z
 next l=>
 by_cases V:flat d=true/\l.length<1000000
 case neg=>rw[if_neg V]at Z;cases Z
 rw[if_pos V]at Z
 cases Z;have isT:isN fl[i]?=true:=by rcases hfl with y|y<;>(rw[y];rfl)
 have S:=eX E;have hi:=(aH.mp S).1;obtain⟨v,M,Q,T⟩:=R.nr i _ isT S;generalize hw:ow.n i=as at Q T
 cases Q with
 |lst g2 g3=>
  rename_i a xs bs;obtain⟨n1,n2⟩:=bK.mp T;refine⟨_,M,.inl ⟨rfl,_,SqL.of g2⟩,G,ow,δ,d,R,I,λu H2 s2 r2=>?_⟩;have h2:=s2 _ _ g2;refine⟨a,xs,u,rfl,rfl,h2,by rw[g3.length];exact fV V.2 (by decide),?_⟩;refine q (owN ow i (a::bs)) σ _ (xg (R.grow s2) hfl hi M (lZ (by rw[hw];exact au)) (.lst aW ?_) (λb hb=>.inl (by rwa[hw])) T);have:=(RTs.upd (o:=.lst (xs++[u])) h2 n1 (g3.same s2)).snoc (RT.upd (o:=.lst (xs++[u])) h2 dD (RT.flat0 V.1 r2));simpa using this
noncomputable def qJ(f g:FE):FS:=λδ=>(f δ).bind λx=>(g δ).bind λ_=>match x with
 |.list l=>if l.length<1000000 then some (.nx δ)else none
 |_=>none
theorem BK(ho:DE X fl .C k t)(h:DE X fl .P m B)
 (hs:swapsWith (.Call (.Attribute k "append" q0) [m] [] q1) none r.line X.env=pure false:=by rfl)
 (Y:attributeBase k "append" X.env (eval k X.env)=eval k X.env:=by rfl)
 (hfew:((backTo q1 (starEach [m] X.env)).all (λx=>!x.1)&&(backToKw q1 (keywordEach [] X.env)).all (λx=>x.1.isSome)
  && decide (([m]:List Expr).length+([]:List eM).length+(if([]:List eM).isEmpty then 0 else 1)<30))=true:=by rfl)
 (U:(q0.endLine==q1.line)=true:=by rfl) (hst:starEach [m] X.env=(false,eval m X.env)::starEach [] X.env:=by rfl) (O:(backTo q1 (starEach [] X.env)).any (·.1)=false:=by rfl):
 DS1 X fl (.Expr (.Call (.Attribute k "append" q0) [m] [] q1) r) (qJ t B):=
 PS.imp (nU (Fj aan aal aam mV ho (dO h iJ hst) Y hfew U hst O) hs) λK σ H N=>by
 refine bV N λG ow δ oo R Z q=>?_
 refine aQ Z λy L S=>?_
 refine aQ S λd M T=>?_
 have Z:=T;split at Z
 case h_2=>cases Z
 next l=>
 by_cases W:l.length<1000000
 case neg=>rw[if_neg W]at Z;cases Z
 rw[if_pos W]at Z
 cases Z;refine⟨G,ow,δ,_,R,L,λv H1 s1 r1=>?_⟩;have r1:=r1
 cases r1 with
 |lsk _ z _=>cases z
 |lst g2 hn g3=>
  rename_i a xs;refine⟨.inl ⟨rfl,_,SqL.of g2⟩,G,ow,δ,d,R.grow s1,M,λu H2 s2 r2=>?_⟩;have h2:=s2 _ _ g2;refine⟨a,xs,u,rfl,rfl,h2,by rw[g3.length];exact fV W (by decide),?_⟩;refine q ow σ _ (R.grow λb Q V=>?_);have hn:=hn;rw[aL (λz=>by rw[z,hn]at V;cases V)];exact(s1.trans s2) b Q V
def ZJ(i:Nat):FS:=λδ=>(ao i δ).bind λy=>match y with
 |.dict kvs=>(iiD kvs).bind λ_=>some (.nx (δ.set i (some (.d (.dict [])))))
 |_=>none
section
variable{X:Cx}{fl:List Fl}{o:Expr}{to:TE}
def Sh(ho:PE X o to)(U:attributeBase o "clear" X.env (eval o X.env)=eval o X.env:=by rfl)(O:(apos.endLine==cpos.line)=true:=by rfl):
 PE X (.Call (.Attribute o "clear" apos) [] [] cpos) (λσ H Q=>to σ H λx H1=>∃a kvs,x=.ref a/\H1 a=some (.dK kvs)/\Q .non (upd H1 a (.dK []))):=by
 intro pins s σ H Q I h;refine ca U O (thn (ho pins s σ H _ I h) λv s1 ⟨x,H1,Z,r1,a,kvs,ex,hx,q⟩=>?_);subst ex;obtain rfl:v=dE a:=r1;obtain⟨W,Y,T⟩:=zj Z (.inl ⟨kvs,.inl hx⟩);refine⟨"dict","dict.clear", aao,aaN,PySem.F.type_dict_clear,W,Y,aS rfl (aaH ?_)⟩;exact VD Z hx λs' V=>⟨.non,_,V,rfl,q⟩
theorem ZK(Y:fl[i]?=some .N\/fl[i]?=some .W)(hN:X.N[i]?=some x)
 (hv:Vis X.env.scope x:=by first|exact Or.inl rfl|exact Or.inr (Or.inl rfl)|exact Or.inr (Or.inr rfl)) (hd:(x==("__debug__":Str))=false:=by decide) (hcd:(x==("__classdict__":Str))=false:=by decide)
 (U:attributeBase (.Name x vpos) "clear" X.env (eval (.Name x vpos) X.env)=eval (.Name x vpos) X.env:=by rfl) (O:(apos.endLine==cpos.line)=true:=by rfl)
 (hs:swapsWith (.Call (.Attribute (.Name x vpos) "clear" apos) [] [] cpos) none pos.line X.env=pure false:=by rfl):
 DS1 X fl (.Expr (.Call (.Attribute (.Name x vpos) "clear" apos) [] [] cpos) pos) (ZJ i):=
 PS.imp (nU (Sh (fW hN hv hd hcd) U O) hs) λE σ H L=>by
 refine bV L λG ow δ oo R Z q=>?_
 refine aQ Z λy I P=>?_
 have Z:=P;split at Z
 case h_2=>cases Z
 next kvs=>
 refine aQ Z λqs eq J=>?_
 cases J;have isT:isN fl[i]?=true:=by rcases Y with y|y<;>(rw[y];rfl)
 have T:=eX I;have hi:=(aH.mp T).1;obtain⟨v,Q,S,F⟩:=R.nr i _ isT T;have V:=wC eq;generalize hw:ow.n i=as at S F
 cases S with
 |dic e g=>
  rename_i a u;have K:=g.old V;have M:∃ks,u=.dK ks:=⟨_,K.trans (yV eq)⟩;obtain⟨ks,rfl⟩:=M;refine⟨_,Q,a,ks,rfl,e,?_⟩;exact q (owN ow i [a]) σ _ (xg R Y hi Q (lZ (by rw[hw];exact au)) (.dic aW (.inl ⟨rfl,rfl⟩)) (λb hb=>.inl (by rwa[hw])) (by simp))
 |ins _ _ _ z=>
  have:=Cq V;rw[z]at this
  cases this
end
def Sq:D->D->Option D:=λx y=>match x,y with
 |.dict k1,.dict k2=>(iiD k1).bind λq1=>(iiD k2).bind λq2=>if q1=q2 then some (.bool false)else none
 |_,_=>none
def aj8(K:aaa):R2:=λx y H Q=>∃kvs Z qs,iiD kvs=some qs/\iiD Z=some qs/\RA K ok1 true H x (.dict kvs)/\RA K ok1 true H y (.dict Z)/\Q (.bl false) H
theorem Ss:∀{k1 k2:List (D×D)}{qs:List (Int×Int)},iiD k1=some qs->iiD k2=some qs->k1=k2
 |[],[],_,_,_=>rfl
 |[],(a,b)::r,qs,h1,h2=>by
  cases h1;unfold iiD at h2;split at h2
  .next e=>cases e
  .next i j Z e=>
   cases q:iiD Z with
   |none=>rw[q]at h2;cases h2
   |some s=>rw[q]at h2;cases h2
  .cases h2
 | (a,b)::r,[],qs,h1,h2=>by
  cases h2;unfold iiD at h1;split at h1
  .next e=>cases e
  .next i j Z e=>
   cases q:iiD Z with
   |none=>rw[q]at h1;cases h1
   |some s=>rw[q]at h1;cases h1
  .cases h1
 | (a,b)::r,(a2,b2)::r2,qs,h1,h2=>by
  unfold iiD at h1 h2;split at h1
  .next e=>cases e
  .next i j Z e=>
   cases e;split at h2
   .next e=>cases e
   .next i2 j2 Y X=>
    cases X
    cases q:iiD r with
    |none=>rw[q]at h1;cases h1
    |some s=>
     cases q2:iiD r2 with
     |none=>rw[q2]at h2;cases h2
     |some s2=>
      rw[q]at h1;rw[q2]at h2
      cases h1
      cases h2;rw[Ss q q2]
   .cases h2
  .cases h1
def ZL(hu:X.A.units+64<cLine):OpR X (compareOp .NotEq) (aj8 X.K):=by
 intro pins s σ H x y v u Q I N O h;obtain⟨kvs,V,qs,hq,Z,r1,r2,q⟩:=h;obtain rfl:=Ss hq Z;have S:(iiD kvs).isSome=true:=by rw[hq];rfl
 obtain⟨a,rfl,ha⟩:=r1.dicE (Kw S);obtain⟨b,rfl,hb⟩:=r2.dicE (Kw S)
 cases N;cases O;obtain⟨L,P,T,J⟩:=Xo I hq ha;obtain⟨M,Y,U,R⟩:=Xo I hq hb;have hn:(Y.map (·.1)).Nodup:=by obtain⟨_,_,_,_,_,_,_,_,c⟩:=R X.prog X.w;exact c
 refine PySem.W.keq_ne (knd:=b_ X.prog X.w) (r:=true) L M (J X.prog X.w) (R X.prog X.w) (by lia) (λ_=>Qz T U hn) ?_;have e:P.length=Y.length:=by
  have h1:=congrArg lO (lM T).1;have h2:=congrArg lO (lM U).1;simp at h1 h2;lia
 rw[e,beq_self_eq_true,Bool.true_and];exact⟨.bl false,H,I,rfl,q⟩
def aj9:BrO K (aj8 K) Sq:=by
 intro H x y dx U d Q Y Z e q;unfold Sq at e;split at e
 .next k1 k2=>
  refine aQ e λq1 V W=>?_
  refine aQ W λq2 X e4=>?_
  by_cases c:q1=q2
  case neg=>rw[if_neg c]at e4;cases e4
  rw[if_pos c]at e4
  cases e4;subst c;exact⟨k1,k2,q1,V,X,Y,Z,q _ rfl (.bl _)⟩
 .cases e
noncomputable def Hh(g:D->D->Option D)(f h:FW):FW:=λδ=>(f δ).bind λp=>match p.1 with
 |.int i=>(h p.2).bind λr=>(g (.int i) r.1).bind λd=>some (d,r.2)
 |_=>none
def tw_cmpWW(O:OpR X (compareOp op) r)(hb:BrO X.K r g)(h1:DEW X fl k F)(h2:DEP X fl m q0)(hm:behindInMarks op m=false):DTW X fl (.Compare k [op] [m] B) (oR (Hh g F q0)):=PT.imp (J7 O h1 h2 hm) λσ H Q N=>by
 obtain⟨G,ow,δ,t,δ',R,Z,q⟩:=N;obtain⟨⟨d,U⟩,I,Z⟩:=bind1 Z;obtain⟨⟨x,T⟩,J,Y⟩:=bind1 I;dsimp only at Y;split at Y
 case h_2=>cases Y
 next i=>
 obtain⟨⟨y,V⟩,L,P⟩:=bind1 Y;refine aQ P λz M S=>?_
 cases S;dsimp only at Z;split at Z
 .cases Z;refine⟨G,ow,δ,_,_,R,J,λv H' ow' R' hd r1=>⟨G,ow',_,y,_,R',L,λu H2 W R2 r2=>?_⟩⟩;obtain rfl:=RA.intE r1;exact hb H2 _ u _ y _ _ (.int i) r2 M λw hw rw=>⟨_,RA.blE rw,q H2 W R2⟩
 .cases Z
end XI
variable{S:XI.T3}
namespace XI
open L2 My D3 XK
def uR(f:FE):FA:=λδ=>(f δ).bind λx=>match x with
 |.dict kvs=>(ptD kvs).bind λS=>some (S.map λq=>.str q.1)
 |_=>none
theorem Sv:∀{S:T3}{ks:List (Key×V)},TVs H ks (ptP S)->ks.map (·.1)=S.map λq=>(.inr q.1:Key)
 |[],ks,h=>by
  have h:=h
  cases h;rfl
 |q::S,ks,h=>by
  obtain⟨b,r,rfl,hb,g⟩:=qH h;rw[aD,aD,Sv g]
theorem JB{U:Hp}(tv:TVs U ks (ptP S))(h:H1 a=some (.frz o (.dK ks))):∀H2,Same H1 H2->∀i:Nat,(∀d,(S.map λq=>(.str q.1:D))[i]?=some d->(Itk o a ks).go i H2/\∀x O,(Itk o a ks).yld i H2 x O->Same H2 O/\RA K ok1 true O x d)/\((S.map λq=>(.str q.1:D)).length<=i->(Itk o a ks).stop i H2):=by
 intro H2 s2 i;have Z:=Jz tv;refine⟨λd hd=>?_,λhi=>⟨s2 _ _ h,by rw[Z];simpa using hi⟩⟩;rw[aF]at hd
 cases e:S[i]? with
 |none=>rw[e]at hd;cases hd
 |some p=>
  rw[e]at hd
  cases hd;have hi:=(aH.mp e).1;refine⟨⟨s2 _ _ h,by rwa[Z]⟩,λx O Y=>?_⟩;obtain⟨rfl,k,v,X,rfl⟩:=Y;have z:(ks.map (·.1))[i]?=some k:=by rw[aF,X];rfl
  rw[Sv tv,aF,e]at z
  cases z;exact⟨Same.refl _,.str _⟩
section
variable{X:Cx}{fl:List Fl}{b c iter:Expr}{k:Kd}{f fa fx:FE}{TT:List Nat}{g:FG}
def Wj{σ:L2.St}{Q:VK}{T:List Str}(U:∀i,i<T.length+ix.length->fl'[i]?=some .A)(O:∀j∈TT,j<T.length)(h:tD X.K fl .FC (dN (uR fx) g ft f T.length ix) σ H Q):
 yJ (Zd X (tD X.K fl .P fx)) (tDG X.K fl' TT g) (tDT X.K fl' ft) (tD X.K fl' .C f) T.length (oJ T.length ix) σ H (sI X Q):=by
 refine bV h λG ow δ d R B q=>?_
 refine aQ B λl p L=>?_
 by_cases M:l.length<=100000
 case neg=>rw[if_neg M]at L;cases L
 rw[if_pos M]at L;refine aQ L λr D e4=>?_
 cases e4;refine aQ p λx e5 e6=>?_
 split at e6
 case h_2=>cases e6
 next F=>
 refine aQ e6 λS s y=>?_
 cases y;refine⟨G,ow,δ,_,R,e5,λv H1 s1 r1=>?_⟩;have n:=R.grow s1;have Y:=xZ (fl':=fl') T.length ix U n (Same.refl H1);obtain⟨a,ks,rfl,Z,tv⟩:=wH s r1;refine⟨a,ks,rfl,?_⟩;rcases Z with Z|⟨o,Z⟩
 .refine .inl ⟨Z,λo lo Dl hD=>?_⟩;have N:Dl≠a:=λz=>by rw[z,aW]at hD;cases hD
  have J:Tb (upd H1 a (.frz o (.dK ks))):=λt E=>by rw[aL (cF (Y.tb t E) Z (by simp))];exact Y.tb t E
  have I:Rel X.K fl' ⟨upd H1 a (.frz o (.dK ks)),upd H1 a (.frz o (.dK ks)),λ_=>none,λ_=>[],J,λ_=>none⟩ ow0 (oJ T.length ix σ) (upd H1 a (.frz o (.dK ks))) (iw T.length ix δ):=by
   refine⟨Same.refl _,Same.refl _,Y.len,λi b h=>(by cases h),λi j b h=>(by cases h),λi h=>rfl,λi d h1 hn h2=>?_,Y.oo,λi b h=>(by cases h),λi j b h=>(by cases h),λi j b h=>(by cases h),λi h=>rfl,λi d hn h1=>?_,λi u h e=>(by cases e)⟩
   .obtain⟨v,h3,h4⟩:=Y.dat i d h1 hn h2;exact⟨v,h3,zp Z h4⟩
   .have hi:i<T.length+ix.length:=by
     have h2:i<(iw T.length ix δ).length:=by
      rcases jt i (iw T.length ix δ).length with z|z
      .exact z
      .rw[bf z]at h1;cases h1
     unfold iw at h2;simpa using h2
    rw[U i hi]at hn
    cases hn
  refine pF (Q:=sI X Q) O I M D hD (JB tv aW) λH2 xs s2 V rs=>Or.inr ⟨a,o,ks,lo,s2 _ _ aW,?_⟩
  have sm:Same H (upd H2 a (.dK ks)):=λb u hb=>by
   by_cases z:b=a
   .subst z;have:=s1 _ _ hb;rw[Z]at this;rwa[aW]
   .rw[aL z];exact s2 b u (by rw[aL z];exact s1 b u hb)
  refine q _ _ sm (.inr ⟨Dl,xs,r,rfl,rfl,s1.free (by rw[aL N]at hD;exact hD),by rwa[aL N],?_⟩);refine(nD (s2 _ _ aW) rs).imp (λb z=>⟨?_,z.2⟩) (λz=>z);have W:=z.1;unfold okN at W ⊢;have hb:b≠a:=λw=>by rw[w,aW]at W;cases W
  rw[aL hb]at W;exact s1.free W
 .refine .inr ⟨o,Z,λDl hD=>?_⟩;have I:Rel X.K fl' ⟨H1,H1,λ_=>none,λ_=>[],Y.tb,λ_=>none⟩ ow0 (oJ T.length ix σ) H1 (iw T.length ix δ):=Y;refine pF (Q:=sI X Q) O I M D hD (JB tv Z) λH2 xs s2 V rs=>Or.inl (q _ _ (s1.trans s2) (.inr ⟨Dl,xs,r,rfl,rfl,s1.free hD,V,rs.imp (λb z=>⟨s1.free z.1,z.2⟩) (λz=>z)⟩))
end
end XI
namespace XK
open L2 My D3
def lenOf(H:Hp)(a:Addr):Nat:=match H a with
 |some (.lst xs)=>xs.length
 |_=>0
section
variable{H:Hp}
theorem Lr:∀{vs:List V}{ds:List D},RAs K ok false H vs ds->ds.all fl1=true->∃as,RTs K H vs ds as/\(∀a∈as,ok a)/\as.map (lenOf H)=ds.filterMap Vz
 |_,_,.nil,_=>⟨[],.nil,λ_ h=>(by cases h),rfl⟩
 |_,_,.cons (d:=d) (ds:=ds) r q,h=>by
  rw[jG,aK]at h;obtain⟨as,h1,h2,h3⟩:=Lr q h.2;by_cases e:∃l,d=.list l
  .obtain⟨l,rfl⟩:=e
   cases r with
   |lst hx k rs=>
    rename_i a xs;have Z:flats l=true:=h.1;have X:RTs K H xs l []:=by
     clear h1 h2 h3 h hx q
     induction l generalizing xs with
     |nil=>cases rs;exact .nil
     |cons d l Y=>
      cases rs with
      |cons r1 r2=>
       rw[flats,aK]at Z;have:=RTs.cons (RT.flat0 Z.1 r1) (Y r2 Z.2);simpa using this
    refine⟨(a::[])++as,.cons (.lst hx X) h1,λb hb=>?_,?_⟩
    .rcases bO.mp hb with z|z
     .rwa[bJ.mp z]
     .exact h2 b z
    .rw[bF,h3];show lenOf H a::_=_;rw[fQ];have:lenOf H a=l.length:=by
      unfold lenOf;rw[hx];exact rs.length
     rw[this];rfl
   |lsk _ z _=>cases z
  .have Z:flat d=true:=by
    have h1:=h.1
    cases d<;>first|exact h1|exact absurd ⟨_,rfl⟩ e
   refine⟨[]++as,.cons (RT.flat0 Z r) h1,λb hb=>h2 b (by simpa using hb),?_⟩;rw[jd,h3,fQ];have:Vz d=none:=by cases d<;>first|rfl|exact absurd ⟨_,rfl⟩ e
   rw[this]
end
section
variable{X:Cx}{fl:List Fl}{f:FE}
theorem ZM(h:DE X fl .C e f):DE X fl .T e (dNd f):=rY h λHb H G ow σ δ v d Z R r=>by
 cases d with
 |tuple ds=>
  rw[show ndT (.tuple ds)=(ds.all fl1&&decide ((ds.filterMap Vz).Nodup))from rfl,aK]at Z
  cases r with
  |tup hx rs=>
   obtain⟨as,g1,g2,g3⟩:=Lr rs Z.1;refine⟨as,.tup hx g1,?_,g2⟩;have nd:(as.map (lenOf H)).Nodup:=by rw[g3];exact of_decide_eq_true Z.2
   exact List.Pairwise.of_map (lenOf H) (λa b (h:lenOf H a≠lenOf H b) z=>h (by rw[z])) nd
 |none=>cases Z
 |bool _=>cases Z
 |int _=>cases Z
 |str _=>cases Z
 |list _=>cases Z
 |dict _=>cases Z
end
end XK
namespace XI
open L2 My D3 XK XC
section
variable{fl:List Fl}{G:Gh}{ow ow':Ow}{σ σ':D3.St}{H H':Hp}{δ δ':DS}
def lE(h:fl[i]?=some .N)(j:Nat):(j=i/\(fl.set i .M)[j]?=some .M)\/(j≠i/\(fl.set i .M)[j]?=fl[j]?):=by
 by_cases y:j=i
 .subst y;exact .inl ⟨rfl,bH (aH.mp h).1⟩
 .exact .inr ⟨y,aB (dL y)⟩
def tY(h:fl[i]?=some .N)(j:Nat):isN (fl.set i .M)[j]?=isN fl[j]?:=by
 rcases lE h j with⟨rfl,e⟩|⟨_,e⟩
 .rw[e,h];rfl
 .rw[e]
def ghM(G:Gh)(i:Nat)(as:List Addr):Gh:=⟨G.H0,G.HF,G.pk,λj=>if j=i then as else G.pn j,G.tb,G.fv⟩
def Wk(h:fl[i]?=some .N)(R:Rel K fl G ow σ H δ):Rel K (fl.set i .M) (ghM G i (ow.n i)) ow σ H δ:=by
 refine⟨R.s0,R.s1,R.len,λj a Z=>?_,R.inj,λj Z=>?_,λj d h1 hn h2=>R.dat j d h1 (by rw[tY h]at hn;exact hn) h2,λj d h1 hn h2 h3=>?_,λj a Z=>?_,R.nd,R.ns,λj Z=>?_,λj d hn h1=>R.nr j d (by rw[tY h]at hn;exact hn) h1,λj u Z e=>?_⟩
 .obtain⟨W,Y,r⟩:=R.own j a Z;rcases lE h j with⟨rfl,e⟩|⟨_,e⟩
  .rw[h]at Y;rcases Y with⟨w,_⟩|⟨w,_⟩<;>cases w
  .rw[e];exact⟨W,Y,r⟩
 .rcases lE h j with⟨rfl,e⟩|⟨_,e⟩
  .rw[e]at Z;cases Z
  .rw[e]at Z;exact R.pin j Z
 .rw[tY h]at hn;rcases lE h j with⟨rfl,e⟩|⟨_,e⟩
  .rw[h]at hn;cases hn
  .rw[e]at h2;exact R.oo j d h1 hn h2 h3
 .obtain⟨g1,g2,g3⟩:=R.nt j a Z;rcases lE h j with⟨rfl,e⟩|⟨_,e⟩
  .exact⟨g1,g2,.inr e⟩
  .rw[e];exact⟨g1,g2,g3⟩
 .rcases lE h j with⟨rfl,e⟩|⟨y,e⟩
  .exact(if_pos rfl).symm
  .rw[e]at Z;exact(R.np j Z).trans (if_neg y).symm
 .rcases lE h j with⟨rfl,X⟩|⟨_,X⟩
  .rw[X]at Z;cases Z
  .rw[X]at Z;exact R.fx j u Z e
def Ef(h:fl[i]?=some .N)(R:Rel K fl G ow σ H δ)(R':Rel K (fl.set i .M) (ghM G i (ow.n i)) ow' σ' H' δ'):Rel K fl G ow' σ' H' δ':=by
 refine⟨R'.s0,R'.s1,R'.len,λj a Z=>?_,R'.inj,λj Z=>?_,λj d h1 hn h2=>R'.dat j d h1 (by rwa[tY h]) h2,λj d h1 hn h2 h3=>?_,λj a Z=>?_,R'.nd,R'.ns,λj Z=>?_,λj d hn h1=>R'.nr j d (by rwa[tY h]) h1,λj u Z e=>?_⟩
 .obtain⟨W,Y,r⟩:=R'.own j a Z;rcases lE h j with⟨rfl,e⟩|⟨_,e⟩
  .rw[e]at Y;rcases Y with⟨w,_⟩|⟨w,_⟩<;>cases w
  .rw[e]at Y;exact⟨W,Y,r⟩
 .rcases lE h j with⟨rfl,e⟩|⟨_,e⟩
  .rw[h]at Z;cases Z
  .exact R'.pin j (by rwa[e])
 .rcases lE h j with⟨rfl,e⟩|⟨_,e⟩
  .rw[h]at hn;cases hn
  .exact R'.oo j d h1 (by rwa[tY h]) (by rwa[e]) h3
 .obtain⟨g1,g2,g3⟩:=R'.nt j a Z;rcases lE h j with⟨rfl,e⟩|⟨_,e⟩
  .have:ow'.n j=ow.n j:=(R'.np j e).trans (if_pos rfl);rw[this]at Z;rcases(R.nt j a Z).2.2 with z|z
   .exact⟨g1,g2,.inl z⟩
   .rw[h]at z;cases z
  .rw[e]at g3;exact⟨g1,g2,g3⟩
 .rcases lE h j with⟨rfl,e⟩|⟨y,e⟩
  .rw[h]at Z;cases Z
  .exact(R'.np j (by rwa[e])).trans (if_neg y)
 .rcases lE h j with⟨rfl,X⟩|⟨_,X⟩
  .rw[h]at Z;cases Z
  .exact R'.fx j u (by rwa[X]) e
end
def Ls(i n:Nat):FA:=λδ=>(ao i δ).bind λx=>match x with
 |.tuple l=>match l[n]? with
  |some (.list m)=>if flats m=true then some m else none
  |_=>none
 |_=>none
section
variable{X:Cx}{fl:List Fl}{fs:FS}{vp sp:Pos}{T:List Nat}{g:FG}
theorem ZP(i:Nat)(O:fl[i]?=some .N)(h:DS1 X (fl.set i .M) st fs):DS1 X fl st fs:=PS.imp h λY σ H h=>by
 refine bV h λG ow δ o R Z q=>?_
 refine⟨_,ow,δ,o,Wk O R,Z,?_⟩
 cases o with
 |nx _=>exact λow' σ' H' R'=>q ow' σ' H' (Ef O R R')
 |bk _=>exact λow' σ' H' R'=>q ow' σ' H' (Ef O R R')
 |ct _=>exact λow' σ' H' R'=>q ow' σ' H' (Ef O R R')
 |rt d=>exact q
 |ex c f d=>exact q
def Sw(h:Ls i n δ=some m):∃l,δ[i]?=some (some (.d (.tuple l)))/\l[n]?=some (.list m)/\flats m=true:=by
 refine aQ h λy X h=>?_
 split at h
 case h_2=>cases h
 next l=>
 split at h
 case h_2=>cases h
 next W Y=>
 split at h
 case isFalse=>cases h
 next Z=>
 cases h;exact⟨l,eX X,Y,Z⟩
def yt(h:vs[n]?=some v):L2.atI vs (n:Int)=some v:=by
 refine Qx ?_ h;have lt:n<vs.length:=(aH.mp h).1;unfold pIx;rw[if_pos (Int.natCast_nonneg n),if_pos (by lia)];rfl
theorem Wl(hfl:fl[i]?=some .M)(O:X.N[i]?=some x)(hk:DE X fl .P ke (dC (.int n)))(U:j6 ke)(hp:fE (model X.prog X.w) X.A X.env X.xe)(hc:X.calm=true)(hg:DG X (lock [] fl) T tg g)(hb:DSs X (lock [] fl) body fs)
 (hv:Vis X.env.scope x:=by first|exact Or.inl rfl|exact Or.inr (Or.inl rfl)|exact Or.inr (Or.inr rfl)) (hd:(x==("__debug__":Str))=false:=by decide) (hcd:(x==("__classdict__":Str))=false:=by decide)
 (hs:∀z,foldedSetIterable (.Subscript (.Name x vp) ke sp) X.env z=pure z:=by intro _;rfl):DS1 X fl (.For tg (.Subscript (.Name x vp) ke sp) body [] pos) (rT (Ls i n) g fs):=PS.imp (B_ hp hc (J5 (vh rP (fW O hv hd hcd) hk U)) hg hb hs) λDn σ H h=>by
 refine bV h λG ow δ o R D q=>?_
 refine aQ D λm t B=>?_
 obtain⟨l,d1,d2,d3⟩:=Sw t;obtain⟨v,h1,h2,h3⟩:=R.nr i _ (by rw[hfl];rfl) d1;generalize O:ow.n i=as at h2
 cases h2 with
 |tup E r=>
 rename_i p vs;obtain⟨a,xs,bs,g1,g2,g3,C,_,_⟩:=r.part d2;refine⟨_,h1,G,ow,δ,_,R,rfl,λu H2 s2 r2=>?_⟩;obtain rfl:=RA.intE r2;have R2:=R.grow s2;refine .inr (.inl ⟨p,vs,n,.ref a,rfl,rfl,rQ s2 E.sq,yt g1,a,rfl,⟨xs,SqL.of (s2 _ _ g2)⟩,xX R2 (λc Z k=>?_) B q⟩);have a3:=Z a _ (s2 _ _ g2) (λj e=>absurd e (R.ns i j a (by rwa[O]))) λj e=>by rwa[<-R.nd i j a (by rw[O];exact C) e]
 have fx:RAs X.K ok0 false H2 xs m:=((g3.ra (ok:=ok1) (pl:=true) λ_ _=>trivial).same s2).flat d3;have V:=RAs.keep (ow:=ow) (L:=[]) (λb o J Q S=>Z b o J Q λi z=>absurd z (S i)) R2.ownL R2.ownC (λb z=>z.elim) fx;refine⟨λd hd=>?_,λs=>⟨xs,SqL.of a3,by rwa[V.length]⟩⟩;obtain⟨y,W,I⟩:=V.get hd;refine⟨⟨xs,y,SqL.of a3,W⟩,λw f Y=>?_⟩;obtain⟨e,F⟩:=Y;subst e;have:some y=some w:=W.symm.trans (F xs (SqL.of a3))
 cases this;exact⟨Same.refl _,I.imp (λ_ z=>z.elim) (λz=>(by cases z))⟩
end
def Sx(l:List Nat)(i n1 n2:Nat):FX:=λδ=>(ao i δ).bind λx=>match x with
 |.tuple ds=>match ds[n1]?,ds[n2]? with
  |some a,some (.list m)=>if flat a=true/\flats m=true then(kW l δ).bind λr=>some (.o (.ex "T" "" (.tuple (.tuple [a,.list m]::r))))else none
  |_,_=>none
 |_=>none
theorem Hi:∀{xs:List V}{m:List D}{ok:Ok}{pl:Bool},RAs K ok pl H xs m->flats m=true->RTs K H xs m []
 |_,_,_,_,.nil,_=>.nil
 |_,_,_,_,.cons r q,h=>by
  rw[flats,aK]at h;have:=RTs.cons (RT.flat0 h.1 r) (Hi q h.2);simpa using this
section
variable{X:Cx}{E:XK}{fl:List Fl}{l:List Nat}{n1 n2:Nat}{k1 k2:Expr}{p1 s1 s2:Pos}{x1:Nat}
theorem Sy(hl:∀i∈l,fl[i]?=some .W)(O:fl[i]?=some .N)(hN:X.N[i]?=some x)(h1:DE X.nox fl .P k1 (dC (.int n1)))(h2:DE X.nox fl .P k2 (dC (.int n2)))(hx1:j6 k1)(U:j6 k2)
 (hv:Vis X.env.scope x:=by first|exact Or.inl rfl|exact Or.inr (Or.inl rfl)|exact Or.inr (Or.inr rfl)) (hd:(x==("__debug__":Str))=false:=by decide) (hcd:(x==("__classdict__":Str))=false:=by decide)
 (he:starEach [.Subscript (.Name x p1) k1 s1,.Subscript (.Name x p2) k2 s2] X.env=(false,eval (.Subscript (.Name x p1) k1 s1) X.env)::starEach [.Subscript (.Name x p2) k2 s2] X.env:=by exact fX rfl) (he2:starEach [.Subscript (.Name x p2) k2 s2] X.env=(false,eval (.Subscript (.Name x p2) k2 s2) X.env)::starEach [] X.env:=by exact fX rfl):
 N6 X E fl l (.Return (some (.Tuple [.Subscript (.Name x p1) k1 s1,.Subscript (.Name x p2) k2 s2] x1 tpos)) pos) (Sx l i n1 n2):=
 PS.imp (yD (PE.nox (Pn (X:=X.nox) (dO (vh rP (fW (X:=X.nox) hN hv hd hcd) h1 hx1) (dO (vh rP (fW (X:=X.nox) hN hv hd hcd) h2 U) iJ he2) he)))) λDn σ H h=>by
 refine bV h λG ow δ o R Z q=>?_
 refine aQ Z λy t Z=>?_
 split at Z
 case h_2=>cases Z
 next ds=>
 split at Z
 case h_2=>cases Z
 next a m k s=>
 split at Z
 case isFalse=>cases Z
 next M=>
 refine aQ Z λr A e4=>?_
 cases e4;obtain⟨v,g1,g2,g3⟩:=R.nr i _ (by rw[O];rfl) (eX t);generalize hw:ow.n i=as at g2 g3
 cases g2 with
 |tup Q rt=>
 rename_i p vs;obtain⟨b,xs,bs,F,I,J,w4,d,e⟩:=rt.part s;obtain⟨u,C,D⟩:=(rt.ra (ok:=ok1) (pl:=true) λ_ _=>trivial).get k;refine⟨_,g1,G,ow,δ,_,R,rfl,λf H1 Y r1=>?_⟩;obtain rfl:=RA.intE r1;refine .inr (.inl ⟨p,vs,n1,u,rfl,rfl,rQ Y Q.sq,yt C,_,g1,G,ow,δ,_,R.grow Y,rfl,λg H2 S r2=>?_⟩);obtain rfl:=RA.intE r2;refine .inr (.inl ⟨p,vs,n2,.ref b,rfl,rfl,rQ (Y.trans S) Q.sq,yt F,(show 2<=sizeLine by decide),λc T=>?_⟩);have V:=(Y.trans S).trans (cC T (.tup [u,.ref b]));refine q _ _ ow.n (vM (R.grow V) hl A) λ_=>⟨[b],.tup aW ?_,by simp,λc T=>?_⟩
 .have f1:=RT.flat0 M.1 (D.same V);have f2:RT X.K _ (.ref b) (.list m) [b]:=.lst (V _ _ I) (Hi ((J.ra (ok:=ok1) (pl:=true) λ_ _=>trivial).same V) M.2);simpa using RTs.cons f1 (RTs.cons f2 .nil)
 .rw[bJ.mp T];have L:b∈ow.n i:=by rwa[hw]
  refine⟨(R.nt i b L).1,λj B z=>?_⟩;have:=R.nd i j b L z;have w:=hl j B;rw[<-this,O]at w
  cases w
end
section
variable{X:Cx}{k:Nat}{sp:Sp}{m y:Str}{np:Pos}{o:Expr}{to:TE}{ta:TA}
def Oa{pl:Sem Bool}(F:FnOk X.prog X.w X.K X.mg X.base (CXE X.prog X.w fld) k f fd ps sp)(hr:Room k X.A)(c:Cls X.K C)(M:Meth X.K C m f)(hb:Binds X.K fd ps [])(he:PE X.nox o to)(ha:PA X.nox (e::es) ta)(hN:X.N.Nodup)(hi:X.N[i]?=some y)(hx:Loc X.env.scope y)
 (O:starEach (e::es) X.env=(false,eval e X.env)::starEach es X.env) (U:(backTo pos (starEach es X.env)).any (·.1)=false)
 (ht:eval (.Call (.Attribute o m apos) (e::es) [] pos) X.env=(do
  let ov <-eval o X.env
  standAt apos.atName
  let(f,fi) <-holding [ov] (getMethod ov m pl)
  callWith pos f fi (backTo pos (starEach (e::es) X.env)) (backToKw pos (keywordEach [] X.env))))
 (hs:swapsWith (.Call (.Attribute o m apos) (e::es) [] pos) (some (.Name y np)) pos2.line X.env=pure false) (hf:X.fn y=true\/X.env.scope.names.lookup y=some .local):
 PSE fld X (.Assign [.Name y np] (.Call (.Attribute o m apos) (e::es) [] pos) pos2) (λD EX σ H=>to σ H λx H1=>∃a dx fs,x=.ref a/\H1 a=some (.ins C dx fs)/\fs.lookup m=none/\ta σ H1 λvs H2=>sp (x::vs) H2 (λv H3=>D.nx (σ.set i (some v)) H3) EX):=by
 intro pins s σ H D EX J h;refine wpAny_Assign_Name ?_ hs;refine aau (pl:=pl) (av (he pins s σ H _ (J.wish _) h) (λu s1 q=>?_) λ_ _ z=>z.elim) ht;obtain⟨x,H1,Y,V,a,dx,fs,ex,ea,l,q⟩:=q;have Y:Inv X pins σ H1 s1:=Y.wish _;subst ex;obtain rfl:u=dE a:=V;refine p8 Y ea c M l ?_;refine aaq (first:=[.ref a]) (h₀:=X.base) J.ok.mod.kin M.kp (av (ha pos pins s1 σ H1 _ (Y.wish _) q) (λus s2 q2=>?_) λ_ _ z=>z.elim) O U;obtain⟨vs,H2,Z,r,q2⟩:=q2;have Z:Inv X pins σ H2 s2:=Z.wish _;refine⟨Z.kIn,av (Vr (us:=.ref a::us) (vs:=.ref a::vs) (dvs:=[]) (ds:=[]) F hr hb .nil Z (.cons rfl r) (by rwa[cA])) (λu P w=>?_) λ_ _ z=>z⟩;obtain⟨v,H3,R,T,q3⟩:=w;exact vf R hN hi hx T (λQ S=>⟨_,H3,S,q3⟩) hf
end
def wI(F:List D->Option Or)(C:Addr)(ns:List Str)(i:Nat)(fa:FA)(sw:List Nat)(k:Nat):FXW:=λδ=>(ao i δ).bind λd=>(isC C ns d).bind λ_=>(fa δ).bind λds=>match F (d::ds)with
 |some (.o (.ex c _ (.tuple (r::ps))))=>if c="T"/\ps.length=sw.length/\k<δ.length then some (.nx ((uN sw ps δ).set k (some (.d r))))else none
 |some (.ex c (.tuple (x::ps)))=>if ps.length=sw.length then some (.ex c x (uN sw ps δ))else none
 |_=>none
section
variable{X:Cx}{fl:List Fl}{j k:Nat}{m y:Str}{ns:List Str}{F:List D->Option Or}{fa:FA}{np:Pos}{sl:List (Option Nat)}{l:List Nat}
def Ob{pl:Sem Bool}(h:HasMX X.prog X.w X.K X.mg X.base fld n C m ps (V7 X.K X.mg l F))(hr:Room n X.A)(hi:isN fl[j]?=true)(hN:X.N[j]?=some x)(hm:m∉ns)(ha:DWA X.nox fl (some j::sl) sl (e::es) fa)(W:SlW fl (some j::sl) l sw)(hk:fl[k]?=some .N)(U:k∉sw)(hNd:X.N.Nodup)(hy:X.N[k]?=some y)(hx:Loc X.env.scope y)
 (hv:Vis X.env.scope x:=by first|exact Or.inl rfl|exact Or.inr (Or.inl rfl)|exact Or.inr (Or.inr rfl)) (hd:(x==("__debug__":Str))=false:=by decide) (hcd:(x==("__classdict__":Str))=false:=by decide)
 (he:starEach (e::es) X.env=(false,eval e X.env)::starEach es X.env:=by exact fX rfl) (O:(backTo pos (starEach es X.env)).any (·.1)=false:=by exact vH rfl)
 (ht:eval (.Call (.Attribute (.Name x p) m apos) (e::es) [] pos) X.env=(do
  let ov <-eval (.Name x p) X.env
  standAt apos.atName
  let(f,fi) <-holding [ov] (getMethod ov m pl)
  callWith pos f fi (backTo pos (starEach (e::es) X.env)) (backToKw pos (keywordEach [] X.env))):=by rfl)
 (hs:swapsWith (.Call (.Attribute (.Name x p) m apos) (e::es) [] pos) (some (.Name y np)) pos2.line X.env=pure false:=by rfl) (hf:X.fn y=true\/X.env.scope.names.lookup y=some .local:=by first|exact .inl rfl|exact .inr rfl):
 DXW X fld fl (.Assign [.Name y np] (.Call (.Attribute (.Name x p) m apos) (e::es) [] pos) pos2) (wI F C ns j fa sw k):=by
 intro pins s σ H Dn EX J r;refine bV r λG ow δ o R Z q=>?_
 refine aQ Z λd e1 Z=>?_
 refine aQ Z λxs c Z=>?_
 refine aQ Z λds i Z=>?_
 obtain⟨g,fd,FN,b,M⟩:=h.ex;have S:=eX e1;obtain⟨v,k1,k2,k3⟩:=R.nr j d hi S;obtain⟨a,dx,fs,rfl,B,m2,D,_⟩:=zG k2 c;refine Oa (X:=X) FN hr h.cl M b (fW (X:=X.nox) hN hv hd hcd) ha hNd hy hx he O ht hs hf pins s σ H Dn EX J ⟨_,k1,a,dx,fs,rfl,B,mY (by rwa[D]),G,ow,δ,ds,R,i,λvs H' sm I=>?_⟩;obtain⟨T,pre,g⟩:=Bt W R sm (.nm k1 S I);split at Z
 .next Q f0 L Y V=>
  by_cases z:Q="T"/\Y.length=sw.length/\k<δ.length
  case neg=>rw[if_neg z]at Z;cases Z
  rw[if_pos z]at Z
  cases Z;exact⟨d::ds,T,_,pre,V,λv H2 T' po t=>by
   obtain⟨ow',R'⟩:=(g H2 T' Y po z.2.1).2 k v L hk U z.2.2 (t z.1);exact q ow' _ H2 R'⟩
 .next Q x0 Y V=>
  by_cases z:Y.length=sw.length
  case neg=>rw[if_neg z]at Z;cases Z
  rw[if_pos z]at Z
  cases Z;exact⟨d::ds,T,_,pre,V,λC' v u H2 T' E po rd P=>by
   obtain⟨ow',R'⟩:=(g H2 T' Y po z).1;exact q C' v u H2 ow' E R' rd P⟩
 .cases Z
end
def SJ(i n:Nat):FE:=λδ=>(ao i δ).bind λx=>match x with
 |.tuple l=>l[n]?
 |_=>none
section
variable{X:Cx}{fl:List Fl}{S sl:List (Option Nat)}{fr:FA}{vp sp:Pos}
theorem SM(hn:isN fl[i]?=true)(hN:X.N[i]?=some x)(hk:DE X fl .P ke (dC (.int n)))(O:j6 ke)(hr:DWA X fl S sl es fr)(hS:some i∉S)(U:Vis X.env.scope x:=by first|exact Or.inl rfl|exact Or.inr (Or.inl rfl)|exact Or.inr (Or.inr rfl))(hd:(x==("__debug__":Str))=false:=by decide)(hcd:(x==("__classdict__":Str))=false:=by decide)
 (hs:starEach (.Subscript (.Name x vp) ke sp::es) X.env=(false,eval (.Subscript (.Name x vp) ke sp) X.env)::starEach es X.env:=by exact fX rfl):DWA X fl S (none::sl) (.Subscript (.Name x vp) ke sp::es) (aq (SJ i n) fr):=PA.imp (dO (vh rP (fW hN U hd hcd) hk O) hr hs) λσ H Q h=>by
 refine bV h λG ow δ ds R Z q=>?_
 refine aQ Z λd Y Z=>?_
 refine aQ Z λr K Z=>?_
 cases Z;refine aQ Y λy L Y=>?_
 split at Y
 case h_2=>cases Y
 next l=>
 obtain⟨v,g1,g2,g3⟩:=R.nr i _ hn (eX L);generalize hw:ow.n i=as at g2 g3
 cases g2 with
 |tup M rt=>
 rename_i p vs;obtain⟨u,T,V⟩:=(rt.ra (ok:=okS ow S) (pl:=true) λb hb s hs z=>hS (R.nd s i b z (by rwa[hw])▸hs)).get Y;refine⟨_,g1,G,ow,δ,_,R,rfl,λJ H1 W r1=>?_⟩;obtain rfl:=RA.intE r1;exact .inr (.inl ⟨p,vs,n,u,rfl,rfl,rQ W M.sq,yt T,G,ow,δ,r,R.grow W,K,λvs H2 s2 r2=>q _ H2 (W.trans s2) (.ex (V.same (W.trans s2)) r2)⟩)
end
def flS(fs:FS):FS:=λδ=>(fs δ).bind λo=>match o with
 |.nx δ'=>some (.nx δ')
 |.ex c f (.tuple (r::ps))=>if flat r=true then some (.ex c f (.tuple (r::ps)))else none
 |_=>none
def ZQ{l:List Nat}{fs:FS}(h:aj5 X fl l st fs):DW1 X fl l st (flS fs):=PS.imp h λQ σ H h=>by
 refine bV h λG ow δ o R U q=>?_
 refine aQ U λV S Z=>?_
 refine⟨G,ow,δ,V,R,S,?_⟩;split at Z
 .cases Z;exact q
 .next c f r ps=>
  split at Z
  case isFalse=>cases Z
  next Y=>
  cases Z;exact λv H' T' W T=>q r ps v H' T' rfl Y (RA.flat Y W) T
 .cases Z
section
variable{H:Hp}{ks:List (Key×V)}
def pK(h:H a=some (.frz o (.dK ks)))(t:dU H k m):dU (L2.upd H a (.dK ks)) k m:=by
 unfold dU;rwa[aL (cF t h (by intro z;cases z))]
def zQ(h:H a=some (.frz o (.dK ks)))(O:ok a):(∀{v:V}{d:D},RA K ok true H v d->RA K ok true (L2.upd H a (.dK ks)) v d)/\∀{v:List V}{d:List D},RAs K ok true H v d->RAs K ok true (L2.upd H a (.dK ks)) v d:=
 RA.ind .non .bl .int .str (λe k q=>.lst (by rwa[aL (cF e h (by intro z;cases z))]) k q) (λe k q=>.lsk (by
  rcases e with⟨o',e⟩|e
  .exact .inl ⟨o',by rwa[aL (cF e h (by intro z;cases z))]⟩
  .exact .inr e) k q) (λe q=>.tup (pK h e) q)
  (λe g k=>.dic (by rwa[aL (cF e h (by intro z;rcases g.or with⟨_,y⟩|⟨_,y⟩<;>(rw[y]at z;cases z)))]) (g.imp λ_ _ t=>pK h t) k)
  (λ{b u kvs o'} e g k=>by
   by_cases y:b=a
   .subst y;rw[h]at e
    cases e;exact .dic aW (g.imp λ_ _ t=>pK h t) O
   .exact .dik (by rwa[aL y]) (g.imp λ_ _ t=>pK h t) k)
  (λe g q z=>.ins (by rwa[aL (cF e h (by intro z;cases z))]) (by rwa[aL (cF g h (by intro z;cases z))]) q z) .nil .cons
def Wm(h:H a=some (.frz o (.dK ks))):(∀{v:V}{d:D}{as:List Addr},RT K H v d as->RT K (L2.upd H a (.dK ks)) v d as)/\∀{v:List V}{d:List D}{as:List Addr},RTs K H v d as->RTs K (L2.upd H a (.dK ks)) v d as:=
 RT.ind .non .bl .int .str (λe q=>.lst (by rwa[aL (cF e h (by intro z;cases z))]) q) (λe q=>.tup (pK h e) q)
  (λe g=>.dic (by rwa[aL (cF e h (by intro z;rcases g.or with⟨_,y⟩|⟨_,y⟩<;>(rw[y]at z;cases z)))]) (g.imp λ_ _ t=>pK h t))
  (λe g _ q z=>.ins (by rwa[aL (cF e h (by intro z;cases z))]) (by rwa[aL (cF g h (by intro z;cases z))]) q z) .nil .cons
end
theorem ZR{ok:Ok}{kvs:List (D×D)}(r:RA K ok pl H (.ref a) (.dict kvs))(e:H a=some (.dK ks)):ok a:=by
 cases r with
 |dic _ _ k=>exact k
 |dik h _ _=>rw[e]at h;cases h
 |ins h _ _ _=>rw[e]at h;cases h
def ghF(G:Gh)(a:Addr)(u:HO)(tb:Tb (L2.upd G.H0 a u)):Gh:=⟨L2.upd G.H0 a u,L2.upd G.HF a u,G.pk,G.pn,tb,G.fv⟩
def BL(s:Same H H'):Same (L2.upd H a u) (L2.upd H' a u):=λb o e=>by
 by_cases y:b=a
 .subst y;rw[aW]at e ⊢;exact e
 .rw[aL y]at e ⊢;exact s b o e
def nH(h:L2.upd H a u b=none):b≠a/\H b=none:=by
 by_cases y:b=a
 .subst y;rw[aW]at h;cases h
 .rw[aL y]at h;exact⟨y,h⟩
section
variable{fl:List Fl}{G:Gh}{ow ow':Ow}{σ σ':D3.St}{H H':Hp}{δ δ':DS}{ks:List (Key×V)}
def ZS(R:Rel K fl G ow σ H δ)(ha:H a=some (.dK ks)) : Tb (L2.upd G.H0 a k):=λt Z=>by
 have e:=G.tb t Z;rwa[aL (cF (R.same0 _ _ e) ha (by intro z;cases z))]
def Wn(R:Rel K fl G ow σ H δ)(ha:H a=some (.dK ks))(O:okA ow a):Rel K fl (ghF G a (.frz o (.dK ks)) (ZS R ha)) ow σ (L2.upd H a (.frz o (.dK ks))) δ:=by
 have n1:∀i b,ow i=some b->b≠a:=λi b e z=>O.1 i (z▸e)
 have n2:∀i b,b∈ow.n i->b≠a:=λi b e z=>O.2 i (z▸e)
 refine⟨BL R.s0,BL R.s1,R.len,λi b h=>?_,R.inj,R.pin,λi d h1 hn h2=>?_,R.oo,λi b h=>?_,R.nd,R.ns,R.np,λi d hn h1=>?_,R.fx⟩
 .obtain⟨X,Y,xs,ds,g1,g2,g3,Z⟩:=R.own i b h;have y:=n1 i b h;exact⟨(aL y).trans X,Y.imp (λz=>⟨z.1,(aL y).trans z.2⟩) (λz=>⟨z.1,z.2.imp λ_ w=>(aL y).trans w⟩),xs,ds,g1,(aL y).trans g2,tX ha g3,Z⟩
 .obtain⟨v,g1,g2⟩:=R.dat i d h1 hn h2;exact⟨v,g1,zp ha g2⟩
 .obtain⟨g1,⟨u,g2,g3⟩,Z⟩:=R.nt i b h;have y:=n2 i b h;exact⟨(aL y).trans g1,⟨u,(aL y).trans g2,g3⟩,Z.imp (λz=>⟨z.1,(aL y).trans z.2⟩) id⟩
 .obtain⟨v,g1,g2,g3⟩:=R.nr i d hn h1;exact⟨v,g1,RT.upd ha (λz=>n2 i a z rfl) g2,g3⟩
def zR(R:Rel K fl G ow σ H δ)(ha:H a=some (.dK ks))(R':Rel K fl (ghF G a (.frz o (.dK ks)) tb) ow' σ' H' δ'):Rel K fl G ow' σ' (L2.upd H' a (.dK ks)) δ':=by
 have hb:=R'.s1 a _ aW;have Z:okA ow' a:=⟨λi e=>(nH (R'.own i a e).1).1 rfl,λi e=>(nH (R'.nt i a e).1).1 rfl⟩;have n1:∀i b,ow' i=some b->b≠a:=λi b e z=>Z.1 i (z▸e)
 have n2:∀i b,b∈ow'.n i->b≠a:=λi b e z=>Z.2 i (z▸e)
 refine⟨R.s0,λb u e=>?_,R'.len,λi b h=>?_,R'.inj,R'.pin,λi d h1 hn h2=>?_,R'.oo,λi b h=>?_,R'.nd,R'.ns,R'.np,λi d hn h1=>?_,R'.fx⟩
 .by_cases y:b=a
  .subst y;rw[aW];exact ha.symm.trans (R.s1 _ _ e)
  .rw[aL y];exact R'.s1 b u ((aL y).trans e)
 .obtain⟨W,X,xs,ds,g1,g2,g3,Y⟩:=R'.own i b h;have y:=n1 i b h;exact⟨(nH W).2,X.imp (λz=>⟨z.1,(nH z.2).2⟩) (λz=>⟨z.1,z.2.imp λ_ w=>(aL y).symm.trans w⟩),xs,ds,g1,(aL y).trans g2,(zQ hb Z).2 g3,Y⟩
 .obtain⟨v,g1,g2⟩:=R'.dat i d h1 hn h2;exact⟨v,g1,(zQ hb Z).1 g2⟩
 .obtain⟨g1,⟨u,g2,g3⟩,Y⟩:=R'.nt i b h;have y:=n2 i b h;exact⟨(nH g1).2,⟨u,(aL y).trans g2,g3⟩,Y.imp (λz=>⟨z.1,(nH z.2).2⟩) id⟩
 .obtain⟨v,g1,g2,g3⟩:=R'.nr i d hn h1;exact⟨v,g1,(Wm hb).1 g2,g3⟩
end
theorem Lw{U:Hp}(tv:TVs U ks (ptP S))(h:H1 a=some (.frz o (.dK ks)))(O:okA ow a):Qj K fl ow [] H1 (Itk o a ks) (S.map λq=>.str q.1):=λH2 W i=>by
 have h2:=W a _ h (λi e=>absurd e (O.1 i)) (λi e=>absurd e (O.2 i));obtain⟨Y,Z⟩:=JB (K:=K) tv h2 H2 (Same.refl _) i;refine⟨λd hd=>?_,Z⟩;obtain⟨g1,g2⟩:=Y d hd;refine⟨g1,λx V X=>?_⟩;obtain⟨s,r⟩:=g2 x V X;rw[aF]at hd
 cases e:S[i]? with
 |none=>rw[e]at hd;cases hd
 |some q=>rw[e]at hd;cases hd;exact⟨s,RA.flat rfl r⟩
section
variable{X:Cx}{fl:List Fl}{iter:Expr}{fx:FE}{T:List Nat}{g:FG}{fs:FS}
def Lx(X:Cx)(Q:Hp->Prop)(H:Hp):Prop:=Q H\/∃a o ks,Dm X a/\H a=some (.frz o (.dK ks))/\Q (L2.upd H a (.dK ks))
theorem Wo(hi:DE X fl .A iter fx)(hp:fE (model X.prog X.w) X.A X.env X.xe)(hc:X.calm=true)(O:X.still=true)(hg:DG X (lock [] fl) T tg g)(hb:DSs X (lock [] fl) body fs)(hs:∀x,foldedSetIterable iter X.env x=pure x:=by intro _;rfl):
 DS1 X fl (.For tg iter body [] pos) (rT (uR fx) g fs):=by
 intro pins s σ H P J K;refine bV K λG ow δ o R L q=>?_
 refine aQ L λl E M=>?_
 refine aQ E λx e5 e6=>?_
 split at e6
 case h_2=>cases e6
 next kvs=>
 refine aQ e6 λS F I=>?_
 cases I
 let D:Ends:=⟨λσ' H'=>Lx X (P.nx σ') H',λv H'=>Lx X (P.rt v) H',λσ' H'=>Lx X (P.bk σ') H',λσ' H'=>Lx X (P.ct σ') H'⟩
 have run:=B_ hp hc (Dr hi O) hg hb hs (pos:=pos) pins s σ H D J ⟨G,ow,δ,_,R,e5,λv H1 s1 r1=>by
  have W:=R.grow s1;have r1:=r1;obtain⟨a,ks,rfl,Z,tv⟩:=wH F r1;refine⟨a,ks,rfl,?_⟩;have Q:∀V,H1 a=some (.dK V)->okA ow a:=λV e=>ZR r1 e
  rcases Z with Z|⟨Y,Z⟩
  .refine .inl ⟨Z,λY lo=>xX (Wn W Z (Q _ Z)) (Lw tv aW (Q _ Z)) M ?_⟩;have sm:∀H',Same (L2.upd G.H0 a (.frz Y (.dK ks))) H'->Same G.H0 (L2.upd H' a (.dK ks)):=λH' z b u e=>by
    by_cases y:b=a
    .subst y;rw[aW];exact Z.symm.trans (W.same0 _ _ e)
    .rw[aL y];exact z b u ((aL y).trans e)
   cases o with
   |nx δ'=>exact λow' σ' H' R'=>.inr ⟨a,Y,ks,lo,R'.s1 a _ aW,q ow' σ' _ (zR W Z R')⟩
   |bk δ'=>exact λow' σ' H' R'=>.inr ⟨a,Y,ks,lo,R'.s1 a _ aW,q ow' σ' _ (zR W Z R')⟩
   |ct δ'=>exact λow' σ' H' R'=>.inr ⟨a,Y,ks,lo,R'.s1 a _ aW,q ow' σ' _ (zR W Z R')⟩
   |rt d=>exact λv H' z r=>.inr ⟨a,Y,ks,lo,z a _ aW,q v _ (sm H' z) (RA.imp (λb w=>(nH w).2) (λz=>z) (KY (z a _ aW) r))⟩
   |ex c f d=>exact λv H' z r=>.inr ⟨a,Y,ks,lo,z a _ aW,q v _ (sm H' z) ((zQ (z a _ aW) trivial).1 r)⟩
  .have Q:okA ow a:=⟨λi e=>(by
    obtain⟨_,_,_,_,_,g2,_⟩:=W.own i a e;rw[Z]at g2
    cases g2),λi e=>(by
    obtain⟨u,g2,c⟩:=(W.nt i a e).2.1;rw[Z]at g2
    cases g2;exact c.frz)⟩
   refine .inr ⟨Y,Z,xX W (Lw tv Z Q) M ?_⟩
   cases o with
   |nx δ'=>exact λow' σ' H' R'=>.inl (q ow' σ' _ R')
   |bk δ'=>exact λow' σ' H' R'=>.inl (q ow' σ' _ R')
   |ct δ'=>exact λow' σ' H' R'=>.inl (q ow' σ' _ R')
   |rt d=>exact λv H' z r=>.inl (q v _ z r)
   |ex c f d=>exact λv H' z r=>.inl (q v _ z r)⟩
 refine av run (λfw s' z=>?_) λ_ _ z=>z
 cases fw with
 |ret u=>
  obtain⟨v,σ',H',U,N,z⟩:=z;rcases z with z|⟨a,Y,ks,lo,ha,z⟩
  .exact⟨v,σ',H',U,N,z⟩
  .exact⟨v,σ',_,pD U lo ha,N,z⟩
 |_=>
  obtain⟨σ',H',U,z⟩:=z;rcases z with z|⟨a,Y,ks,lo,ha,z⟩
  .exact⟨σ',H',U,z⟩
  .exact⟨σ',_,pD U lo ha,z⟩
end
def goN(fs:FS):FS:=λδ=>(fs δ).bind λo=>match o with
 |.nx δ'=>some (.nx δ')
 |_=>none
def zT{l:List Nat}{fs:FS}(h:DS1 X fl st fs):DW1 X fl l st (goN fs):=PS.imp h λU σ H h=>by
 refine bV h λG ow δ o R Y q=>?_
 refine aQ Y λV W Z=>?_
 split at Z
 .cases Z;exact⟨G,ow,δ,_,R,W,q⟩
 .cases Z
def ZV(h:VE X fl z .FC k m):VE X fl z .P k m:=Wa h λ_ _ _ _ _ _ _ _ R r=>Rs.B_P (L:=[]) (Rs.A_B [] (Rs.C_A R r.FC_C))
def JC{f n:Str}{fS:Str->D->FS}{l:List Nat}{g:D->FS}(Z:XC.SuiA X.K X.mg fld c f ic)(hi:X.N[i]?=some n)(hS:∀d,fS c d=g d)
 (hs:∀a oa dx od v d,aj3 X i n f a oa dx od v->NoC oa->VSs (XC.ig X a oa dx od) fl ⟨i,a,v,d⟩ l (b0::suite) (g d))
 (hv:Vis X.env.scope n:=by first|exact Or.inl rfl|exact Or.inr (Or.inl rfl)|exact Or.inr (Or.inr rfl)) (O:(n==("__debug__":Str))=false:=by decide) (hcn:(n==("__classdict__":Str))=false:=by decide)
 (hb:∀p1,attributeBase (.Name n p1) f X.env (eval (.Name n p1) X.env)=eval (.Name n p1) X.env:=by intro _;rfl):RX X fl fld l c i b0 suite fS c:=by
 obtain⟨C,I0,Q,S,mI,At⟩:=Z.ex;exact⟨C,I0,C,by rwa[S],.inl rfl,Q.mgC,λa oa dx od u v d V W T Y R U=>by rw[hS];exact hs a oa dx od v d (λp1 pos=>XC.ai0 At V W T (by rw[S]at Y;exact Y) R hi hv O hcn (hb p1)) U⟩
def Wq(S:aj3 X i m k a t r z v) : VE (XC.ig X a t r z) fl ⟨i,a,v,d⟩ .P (.Attribute (.Name m p1) k B) (dC d):=PE.imp (S p1 B) λσ H Q h=>by
 obtain⟨G,ow,δ,x,R,A,Z,q⟩:=h
 cases Z;exact⟨A.sl,q v H (Same.refl H) A.ra⟩
section
variable{X:Cx}{fl:List Fl}{iter:Expr}{f fx:FE}{TT:List Nat}{g:FG}
theorem Od{pos':Pos}(hfx:fl[i]?=some .A)(hN:X.N.Nodup)(hi':X.N[i]?=some x)(hx:X.env.scope.names.lookup x=some .local)(hc:X.calm=true)(T Y:List Str)(ix:List Nat)(hi:DE X fl .P iter fx)
 (hg:∀cl C s3 H3 fp,DG (blk X (T++Y) scope cl C s3 H3 fp) fl' TT tg g) (ht:∀cl C s3 H3 fp,PTs (blk X (T++Y) scope cl C s3 H3 fp) ifs (tDT X.K fl' ft)) (he:∀cl C s3 H3 fp,DE (blk X (T++Y) scope cl C s3 H3 fp) fl' .C elt f)
 (hfl:∀i,i<T.length+ix.length->fl'[i]?=some .A:=by decide) (htg:∀j∈TT,j<T.length:=by decide)
 (hsw:swapsWith (.ListComp elt [⟨tg,iter,ifs,0⟩] scope pos) (some (.Name x pos')) spos.line X.env=pure true:=by rfl)
 (hB:uE X.N X.env.scope.names scope.names Y ix=true:=by rfl) (hk:scope.kind=.function:=by rfl) (U:∀y∈scope.names,y.2 ≠ .cell:=by decide +kernel)
 (O:∀x∈scope.names,x.2=.local->scope.names.lookup x.1=some .local:=by decide +kernel)
 (hfr:∀x∈scope.names,x.2=.free->x.1∈Y:=by decide +kernel) (hs:∀x,foldedSetIterable iter X.env x=pure x:=by intro _;rfl) (hst:X.still=true:=by rfl):
 DS1 X fl (.Assign [.Name x pos'] (.ListComp elt [⟨tg,iter,ifs,0⟩] scope pos) spos) (bY i (dN (uR fx) g ft f T.length ix)):=by
 intro pins s σ H Z I h;refine bV h λG ow δ o R W q=>?_
 unfold bY at W;by_cases V:i<δ.length
 case neg=>rw[if_neg V]at W;cases W
 rw[if_pos V]at W;refine aQ W λd L M=>?_
 cases M
 let F:Ends:=⟨λσ' H'=>Z.nx σ' H'\/∃a o kvs,Dm X a/\H' a=some (.frz o (.dK kvs))/\Z.nx σ' (upd H' a (.dK kvs)),Z.rt,Z.bk,Z.ct⟩
 have J:=Wj (X:=X) (fl:=fl) (fl':=fl') (TT:=TT) (ix:=ix) (T:=T) (σ:=σ) (H:=H) (fx:=fx) (g:=g) (ft:=ft) (f:=f) (Q:=λv H'=>Z.nx (σ.set i (some v)) H') hfl htg ⟨G,ow,δ,d,R,L,λv H' s r=>q ow _ H' ((R.grow s).setA hfx (qt R V) ((r.FC_F R).F_A R))⟩;have run:=Cj (g:=tDG X.K fl' TT g) (tt:=tDT X.K fl' ft) (te:=tD X.K fl' .C f) (pos:=pos) hN hi' hx hc T Y ix (Dr hi hst) hg ht he hsw hB hk U O hfr hs pins s σ H F I J;refine thn run λfw s' hq=>?_
 cases fw with
 |next=>
  obtain⟨σ',H',S,h'⟩:=hq;rcases h' with h'|⟨a,o,kvs,lo,ha,h'⟩
  .exact⟨σ',H',S,h'⟩
  .exact⟨σ',_,pD S lo ha,h'⟩
 |brk=>exact hq
 |cont=>exact hq
 |ret u=>exact hq
end
section
variable{X:Cx}{fl:List Fl}{f:FE}
theorem Wr(hu:X.A.units+1<cLine)(O:fl[i]?=some .N)(h:DE X fl .P e f)(hke:DE X fl .P ke fk)(hN:X.N[i]?=some x)
 (hv:Vis X.env.scope x:=by first|exact Or.inl rfl|exact Or.inr (Or.inl rfl)|exact Or.inr (Or.inr rfl)) (hd:(x==("__debug__":Str))=false:=by decide) (hcd:(x==("__classdict__":Str))=false:=by decide)
 (hs:swapsWith e (some (.Subscript (.Name x vpos) ke spos)) pos.line X.env=pure false:=by rfl):
 DS1 X fl (.Assign [.Subscript (.Name x vpos) ke spos] e pos) (Gp i fk f):=
 PS.imp (C_ hu (fW hN hv hd hcd) hke h hs) λm σ H I=>by
 refine bV I λG ow δ o R E q=>?_
 refine aQ E λd D K=>?_
 refine aQ K λy C L=>?_
 refine aQ L λp e4 U=>?_
 split at U
 case h_2=>cases U
 next n V=>
 refine aQ U λqs Z W=>?_
 by_cases T:qs.length<1000000
 case neg=>rw[if_neg T]at W;cases W
 rw[if_pos T]at W
 cases W;have S:=eX C;have hi:=(aH.mp S).1;obtain⟨v,M,Q,B⟩:=R.nr i _ (by rw[O];rfl) S;generalize hw:ow.n i=as at Q B
 cases Q with
 |dic ha F=>
  rename_i a u kvs;rw[F.old (wC Z)]at ha;have Y:=ha;rw[yV Z,yU Z]at Y;refine⟨G,ow,δ,_,R,D,λt H1 s1 r1=>?_⟩;obtain rfl:=RA.intE r1;refine⟨_,M,G,ow,δ,_,R.grow s1,e4,λr w J r3=>?_⟩;obtain rfl:=RA.intE r3;have s:=s1.trans J;refine⟨a,_,rfl,CW.k (k:=.inl V) (s _ _ Y) (by rw[ak];exact fV T (by decide)),?_⟩;have g':DH (L2.upd w a (.dK (putK (dkI qs) (.inl V) (.int n)))) (.dK (putK (dkI qs) (.inl V) (.int n))) ((Gn qs V n).map λq=>(.int q.1,.int q.2)):=.inl ⟨wC (yX _),by rw[Zc,Za]⟩;exact q (owN ow i [a]) σ _ (xg (R.grow s) (.inl O) hi M (lZ (by rw[hw];exact au)) (.dic aW g') (λb hb=>.inl (by rwa[hw])) (by simp))
 |ins _ _ _ z=>subst z;cases Z
 |non=>cases Z
 |bl _=>cases Z
 |int _=>cases Z
 |str _=>cases Z
 |lst _ _=>cases Z
 |tup _ _=>cases Z
end
def rq(h:XC.RoomQ n X.A):XC.RoomQ n (XC.ig X a m k q).A:=⟨h.dp,h.un⟩
end XI
namespace D3
open L2 My
section
variable{X:Cx}{fl:List Fl}{a b:Expr}{f fa:FE}{fr:FA}{k:Kd}
def vA(i:Nat)(O:fl[i]?=some .A:=by rfl)(Y:X.N[i]?=some m:=by rfl)(U:Vis X.env.scope m:=by first|exact Or.inl rfl|exact Or.inr (Or.inl rfl)|exact Or.inr (Or.inr rfl))(hd:(m==("__debug__":Str))=false:=by decide)
 (hcd:(m==("__classdict__":Str))=false:=by decide):DE X fl .A (.Name m pos) (ao i):=Cu i O Y U hd hcd
def vP(i:Nat)(O:fl[i]?=some .A:=by rfl)(Y:X.N[i]?=some m:=by rfl)(U:Vis X.env.scope m:=by first|exact Or.inl rfl|exact Or.inr (Or.inl rfl)|exact Or.inr (Or.inr rfl))(hd:(m==("__debug__":Str))=false:=by decide)
 (hcd:(m==("__classdict__":Str))=false:=by decide):DE X fl .P (.Name m pos) (ao i):=dY (Cu i O Y U hd hcd)
def vB(i:Nat)(O:fl[i]?=some .A:=by rfl)(Y:X.N[i]?=some m:=by rfl)(U:Vis X.env.scope m:=by first|exact Or.inl rfl|exact Or.inr (Or.inl rfl)|exact Or.inr (Or.inr rfl))(hd:(m==("__debug__":Str))=false:=by decide)
 (hcd:(m==("__classdict__":Str))=false:=by decide):DE X fl (.B []) (.Name m pos) (ao i):=nj (Cu i O Y U hd hcd)
def iP{i j pos}:DE X fl .P (.Constant (.int i) j pos) (dC (.int i)):=aZ Cv
def iC{i j pos}:DE X fl .C (.Constant (.int i) j pos) (dC (.int i)):=fj Cv
def dz:DB X fl k [] aX:=YQ
def dq(h:DE X fl k e f)(O:DB X fl k es fr)(U:isR k=true:=by rfl)(hs:starEach (e::es) X.env=(false,eval e X.env)::starEach es X.env:=by exact fX rfl):DB X fl k (e::es) (aq f fr):=Vg U h O hs
def dx(ha:DE X fl (.B L) a fa)(hb:DE X fl .P b fb)(hs:j6 b:=by exact λ_ _=>rfl):DE X fl .A (.Subscript a b pos) (dOp gIx fa fb):=ah0 ha hb hs
def sA(Z:X.N.Nodup)(h:DE X fl .A e f)(U:fl[i]?=some .A:=by rfl)(hi:X.N[i]?=some x:=by rfl)(Y:X.env.scope.names.lookup x=some .local\/X.env.scope.names.lookup x=some .cell:=by first|exact Or.inl rfl|exact Or.inr rfl)
 (hs:swapsWith e (some (.Name x m)) pos.line X.env=pure false:=by rfl) (O:X.fn x=true\/X.env.scope.names.lookup x=some .local:=by first|exact .inl rfl|exact .inr rfl):
 DS1 X fl (.Assign [.Name x m] e pos) (bY i f):=Ve U Z hi Y h hs O
def gN'(Z:X.N.Nodup)(U:fl[i]?=some .A:=by rfl)(hi:X.N[i]?=some x:=by rfl)(Y:X.env.scope.names.lookup x=some .local\/X.env.scope.names.lookup x=some .cell:=by first|exact Or.inl rfl|exact Or.inr rfl)
 (O:X.fn x=true\/X.env.scope.names.lookup x=some .local:=by first|exact .inl rfl|exact .inr rfl):DG X fl [i] (.Name x pos) (gNl i):=Vf U Z hi Y O
end
def fsc(a:sc.kind=.function:=by rfl)(b:sc.isCoroutine=false:=by rfl)(c:sc.isGenerator=false:=by rfl)(d:N.Nodup:=by decide +kernel)(e:N.take k.length=k:=by rfl)(f:∀x∈k,sc.names.lookup x=some .local\/sc.names.lookup x=some .cell:=by decide +kernel)(g:∀y∈sc.names,y.2 ≠ .free:=by decide +kernel):FnScope N k sc:=⟨a,b,c,d,e,f,g⟩
end D3
variable{r:D3.DS}{x0 x1 x2 x3 x4 x5 x6 x7 x8 x9 x10:Option D3.U}
namespace D3
def qS(o:Option Oc)(b:FS):Option Oc:=o.bind λo=>match o with
 |.nx δ'=>b δ'
 |o=>some o
def qI(o:Option Bool)(a b:FS)(δ:DS):Option Oc:=o.bind λt=>if t=true then a δ else b δ
noncomputable def qO(g:D->D->Option D)(a b:Option D):Option D:=a.bind λx=>b.bind λy=>g x y
def qU(g:D->Option D)(a:Option D):Option D:=a.bind g
def qC(a:Option D)(r:Option (List D)):Option (List D):=a.bind λx=>r.bind λr=>some (x::r)
def qF(F:List D->Option D)(l:Option (List D)):Option D:=l.bind F
def qR(a:Option D):Option Oc:=a.bind λd=>some (.rt d)
def vU(i:Nat)(a:Option D)(δ:DS):Option Oc:=if i<δ.length then a.bind λd=>some (.nx (δ.set i (some (.d d))))else none
noncomputable def SN(a:Option D)(fb:FE)(δ:DS):Option D:=a.bind λx=>match x with
 |.bool true=>fb δ
 |.bool false=>some (.bool false)
 |_=>none
def qOr(a:Option D)(fb:FE)(δ:DS):Option D:=a.bind λx=>match x with
 |.bool true=>some (.bool true)
 |.bool false=>fb δ
 |_=>none
def qN(a:Option D):Option D:=a.bind λx=>match x with
 |.bool b=>some (.bool (!b))
 |_=>none
def qB(a:Option D):Option Bool:=a.bind λx=>match x with
 |.bool b=>some b
 |_=>none
def qTA(a:Option Bool)(b:FT)(δ:DS):Option Bool:=a.bind λx=>if x=true then b δ else some false
def qTO(a:Option Bool)(b:FT)(δ:DS):Option Bool:=a.bind λx=>if x=true then some true else b δ
def qTN(a:Option Bool):Option Bool:=a.map λx=>!x
def qE(a:Option Bool)(fa fb:FE)(δ:DS):Option D:=a.bind λb=>if b=true then fa δ else fb δ
def qL(a:Option D):Option (List D):=a.bind asList
def ak0(a:Option (List D))(g:FG)(b:FS)(δ:DS):Option Oc:=a.bind λl=>lq g b l δ
def qD(a:Option DS):Option Oc:=a.bind λδ'=>some (.nx δ')
def qG(a:Option D)(g:FG)(δ:DS):Option Oc:=a.bind λd=>(g d δ).bind λδ'=>some (.nx δ')
def qGs(a:Option DS)(r:List D->DS->Option DS)(l:List D):Option DS:=a.bind λδ'=>r l δ'
def qT(a:Option (List D)):Option D:=a.bind λl=>if l.length<=sizeLine then some (.tuple l)else none
def qK(a:Option (List D)):Option D:=a.bind λl=>if l.length<=sizeLine then some (.list l)else none
def qFl(p:D->Bool)(a:Option D):Option D:=a.bind λd=>if p d=true then some d else none
noncomputable def qA(i:Nat)(x a:Option D)(δ:DS):Option Oc:=x.bind λx=>a.bind λd=>match x with
 |.list l=>if l.length<1000000 then some (.nx (δ.set i (some (.d (.list (l++[d]))))))else none
 |_=>none
def qP(i:Nat)(a x k:Option D)(δ:DS):Option Oc:=a.bind λd=>x.bind λx=>k.bind λk=>match x,k with
 |.list l,.int j=>(pIx l.length j).bind λn=>some (.nx (δ.set i (some (.d (.list (l.set n d))))))
 |_,_=>none
def qCh(g':D->D->Option D)(z:Option D)(y:Option D)(fc:FE)(δ:DS):Option D:=z.bind λz=>match z with
 |.bool true=>qO g' y (fc δ)
 |.bool false=>some (.bool false)
 |_=>none
noncomputable def qC0(g g':D->D->Option D)(a b:Option D)(fc:FE)(δ:DS):Option D:=a.bind λx=>b.bind λy=>(g x y).bind λz=>match z with
 |.bool true=>(fc δ).bind λw=>g' y w
 |.bool false=>some (.bool false)
 |_=>none
def qFn(o:Option Oc):Option D:=match o with
 |some (.rt d)=>some d
 |some (.nx _)=>some .none
 |_=>none
def qLs(a:Option (List D)):Option D:=a.bind λr=>some (.list r)
def qCo(a:Option (List D))(g:FG)(c:FT)(e:FE)(t:Nat)(ix:List Nat)(δ:DS):Option D:=a.bind λl=>if l.length<=100000 then(fD g c e (iw t ix δ) l).bind λr=>some (.list r)else none
section
variable{a b:FS}{c c':FT}{fa:FE}{fr:FA}{δ:DS}{g:D->D->Option D}{h:D->Option D}{F:List D->Option D}{G:FG}{d:D}
theorem ak1:bZ a b δ=qS (a δ) b:=rfl
theorem SQ:qS (some (.nx δ')) b=b δ':=(rfl)
theorem SX:qS (some (.rt d)) b=some (.rt d):=rfl
theorem S5:qS (some (.bk δ')) b=some (.bk δ'):=rfl
theorem S6:qS (some (.ct δ')) b=some (.ct δ'):=rfl
theorem ak2:gJ δ=some (.nx δ):=rfl
theorem av8:sBk δ=some (.bk δ):=rfl
theorem av9:sCt δ=some (.ct δ):=rfl
theorem aw0:sIf c a b δ=qI (c δ) a b δ:=rfl
theorem ZW:qI (some true) a b δ=a δ:=(rfl)
theorem ZX:qI (some false) a b δ=b δ:=(rfl)
theorem v_op:dOp g fa fb δ=qO g (fa δ) (fb δ):=rfl
theorem Z0{x:D}:qO g (some x) (some y)=g x y:=(rfl)
theorem aw1:dUn h fa δ=qU h (fa δ):=rfl
theorem Z1{x:D}:qU h (some x)=h x:=(rfl)
theorem Z2:aX δ=some []:=rfl
theorem Ws:aq fa fr δ=qC (fa δ) (fr δ):=rfl
theorem Oe{x:D}:qC (some x) (some l)=some (x::l):=rfl
theorem Z4:dCall F fr δ=qF F (fr δ):=rfl
theorem S7:qF F (some l)=F l:=(rfl)
theorem ak3:fO fa δ=qR (fa δ):=rfl
theorem Wt:qR (some d)=some (.rt d):=rfl
theorem Z5:ag5 δ=some (.rt .none):=rfl
theorem ak4:bY i fa δ=vU i (fa δ) δ:=rfl
theorem aw2:vU (i+12) (some d) δ=if i+12<δ.length then some (.nx (δ.set (i+12) (some (.d d))))else none:=(rfl)
theorem v_c:dC d δ=some d:=rfl
theorem v_and:Cm fa fb δ=SN (fa δ) fb δ:=rfl
theorem Wu:SN (some (.bool true)) fb δ=fb δ:=(rfl)
theorem Wv:SN (some (.bool false)) fb δ=some (.bool false):=rfl
theorem v_or:dOr fa fb δ=qOr (fa δ) fb δ:=rfl
theorem Z6:qOr (some (.bool true)) fb δ=some (.bool true):=rfl
theorem Z7:qOr (some (.bool false)) fb δ=fb δ:=(rfl)
theorem v_not:U_ fa δ=qN (fa δ):=rfl
theorem Ww{b:Bool}:qN (some (.bool b))=some (.bool (!b)):=rfl
theorem aw3:bA fa δ=qB (fa δ):=rfl
theorem Z8{b:Bool}:qB (some (.bool b))=some b:=rfl
theorem Z9:D3.uz c c' δ=qTA (c δ) c' δ:=rfl
theorem S8:qTA (some true) c δ=c δ:=(rfl)
theorem S9:qTA (some false) c δ=some false:=rfl
theorem ak5:D3.tOr c c' δ=qTO (c δ) c' δ:=rfl
theorem Wx:qTO (some true) c δ=some true:=rfl
theorem Wy:qTO (some false) c δ=c δ:=(rfl)
theorem Z_:D3.lU c δ=qTN (c δ):=rfl
theorem S_{b:Bool}:qTN (some b)=some (!b):=rfl
theorem v_ite:dIf c fa fb δ=qE (c δ) fa fb δ:=rfl
theorem Wz:qE (some true) fa fb δ=fa δ:=(rfl)
theorem WD:qE (some false) fa fb δ=fb δ:=(rfl)
theorem ak6:Ac fa δ=qL (fa δ):=rfl
theorem WK:qL (some (.list l))=some l:=rfl
theorem ak7:rT fr G b δ=ak0 (fr δ) G b δ:=rfl
theorem WL:ak0 (some l) G b δ=lq G b l δ:=(rfl)
theorem Og:lq G b [] δ=some (.nx δ):=rfl
theorem ak8:P0 fa G δ=qG (fa δ) G δ:=rfl
theorem WM:qG (some d) G δ=qD (G d δ):=(rfl)
theorem WQ:qD (some δ')=some (.nx δ'):=rfl
theorem aw4:gNl (i+12) d δ=if i+12<δ.length then some (δ.set (i+12) (some (.d d)))else none:=(rfl)
theorem aw5:gTn n gs (.tuple l) δ=if l.length=n then gs l δ else none:=(rfl)
theorem ak9:kO [] δ=some δ:=rfl
theorem al0:dF G gs (d::l) δ=qGs (G d δ) gs l:=rfl
theorem WR:qGs (some δ') gs l=gs l δ':=(rfl)
theorem al1:dTup fr δ=qT (fr δ):=rfl
theorem WT:qT (some l)=if l.length<=sizeLine then some (.tuple l)else none:=(rfl)
theorem aw6:jY fr δ=qK (fr δ):=rfl
theorem aa0:qK (some l)=if l.length<=sizeLine then some (.list l)else none:=(rfl)
theorem aa1:eN fa δ=qFl flat (fa δ):=rfl
theorem al2:uF fa δ=qFl fl1 (fa δ):=rfl
theorem aa2{p:D->Bool}:qFl p (some d)=if p d=true then some d else none:=(rfl)
theorem al3:t_ i fa δ=qA i (ao i δ) (fa δ) δ:=rfl
theorem WW:qA i (some (.list l)) (some d) δ=if l.length<1000000 then some (.nx (δ.set i (some (.d (.list (l++[d]))))))else none:=(rfl)
theorem al4:au3 i fk fa δ=qP i (fa δ) (ao i δ) (fk δ) δ:=rfl
theorem WX:qP i (some d) (some (.list l)) (some (.int j)) δ=(pIx l.length j).bind λn=>some (.nx (δ.set i (some (.d (.list (l.set n d)))))):=(rfl)
theorem WY:mF g g' fa fb fc δ=qC0 g g' (fa δ) (fb δ) fc δ:=rfl
theorem Oh{x:D}:qC0 g g' (some x) (some y) fc δ=qCh g' (g x y) (some y) fc δ:=(rfl)
theorem Oi{y:Option D}:qCh g' (some (.bool true)) y fc δ=qO g' y (fc δ):=(rfl)
theorem Oj{y:Option D}:qCh g' (some (.bool false)) y fc δ=some (.bool false):=rfl
theorem al5{p q:Nat}:fnD p q b ds=if ds.length=p then qFn (b (ds.map (λd=>some (.d d))++bR q none))else none:=(rfl)
theorem W0:qFn (some (.rt d))=some d:=rfl
theorem W2:qFn (some (.nx δ'))=some .none:=rfl
theorem aa3{t:Nat}:dN fr G c fa t ix δ=qCo (fr δ) G c fa t ix δ:=rfl
theorem Tc{t:Nat}:qCo (some l) G c fa t ix δ=if l.length<=100000 then qLs (fD G c fa (iw t ix δ) l)else none:=(rfl)
theorem aw7:qLs (some l)=some (.list l):=rfl
theorem al6:D3.rE δ=some true:=rfl
theorem aa4{x:D}:ao 0 (some (.d x)::r)=some x:=rfl
theorem aa5{y:Option U}:ao (i+1) (y::r)=ao i r:=rfl
theorem aw8:vU 0 (some d) (x0::r)=some (.nx (some (.d d)::r)):=rfl
theorem aw9:gNl 0 d (x0::r)=some (some (.d d)::r):=rfl
theorem ax0:vU 1 (some d) (x0::x1::r)=some (.nx (x0::some (.d d)::r)):=rfl
theorem ax1:gNl 1 d (x0::x1::r)=some (x0::some (.d d)::r):=rfl
theorem ax2:vU 2 (some d) (x0::x1::x2::r)=some (.nx (x0::x1::some (.d d)::r)):=rfl
theorem ax3:gNl 2 d (x0::x1::x2::r)=some (x0::x1::some (.d d)::r):=rfl
theorem ax4:vU 3 (some d) (x0::x1::x2::x3::r)=some (.nx (x0::x1::x2::some (.d d)::r)):=rfl
theorem ax5:gNl 3 d (x0::x1::x2::x3::r)=some (x0::x1::x2::some (.d d)::r):=rfl
theorem ax6:vU 4 (some d) (x0::x1::x2::x3::x4::r)=some (.nx (x0::x1::x2::x3::some (.d d)::r)):=rfl
theorem ax7:gNl 4 d (x0::x1::x2::x3::x4::r)=some (x0::x1::x2::x3::some (.d d)::r):=rfl
theorem ax8:vU 5 (some d) (x0::x1::x2::x3::x4::x5::r)=some (.nx (x0::x1::x2::x3::x4::some (.d d)::r)):=rfl
theorem ax9:gNl 5 d (x0::x1::x2::x3::x4::x5::r)=some (x0::x1::x2::x3::x4::some (.d d)::r):=rfl
theorem ay0:vU 6 (some d) (x0::x1::x2::x3::x4::x5::x6::r)=some (.nx (x0::x1::x2::x3::x4::x5::some (.d d)::r)):=rfl
theorem ay1:gNl 6 d (x0::x1::x2::x3::x4::x5::x6::r)=some (x0::x1::x2::x3::x4::x5::some (.d d)::r):=rfl
theorem ay2:vU 7 (some d) (x0::x1::x2::x3::x4::x5::x6::x7::r)=some (.nx (x0::x1::x2::x3::x4::x5::x6::some (.d d)::r)):=rfl
theorem ay3:gNl 7 d (x0::x1::x2::x3::x4::x5::x6::x7::r)=some (x0::x1::x2::x3::x4::x5::x6::some (.d d)::r):=rfl
theorem ay4:vU 8 (some d) (x0::x1::x2::x3::x4::x5::x6::x7::x8::r)=some (.nx (x0::x1::x2::x3::x4::x5::x6::x7::some (.d d)::r)):=rfl
theorem ay5:gNl 8 d (x0::x1::x2::x3::x4::x5::x6::x7::x8::r)=some (x0::x1::x2::x3::x4::x5::x6::x7::some (.d d)::r):=rfl
theorem ay6:vU 9 (some d) (x0::x1::x2::x3::x4::x5::x6::x7::x8::x9::r)=some (.nx (x0::x1::x2::x3::x4::x5::x6::x7::x8::some (.d d)::r)):=rfl
theorem ay7:gNl 9 d (x0::x1::x2::x3::x4::x5::x6::x7::x8::x9::r)=some (x0::x1::x2::x3::x4::x5::x6::x7::x8::some (.d d)::r):=rfl
theorem al7:vU 10 (some d) (x0::x1::x2::x3::x4::x5::x6::x7::x8::x9::x10::r)=some (.nx (x0::x1::x2::x3::x4::x5::x6::x7::x8::x9::some (.d d)::r)):=rfl
theorem al8:gNl 10 d (x0::x1::x2::x3::x4::x5::x6::x7::x8::x9::x10::r)=some (x0::x1::x2::x3::x4::x5::x6::x7::x8::x9::some (.d d)::r):=rfl
theorem al9{O:Option U}:vU 11 (some d) (x0::x1::x2::x3::x4::x5::x6::x7::x8::x9::x10::O::r)=some (.nx (x0::x1::x2::x3::x4::x5::x6::x7::x8::x9::x10::some (.d d)::r)):=rfl
theorem am0{O:Option U}:gNl 11 d (x0::x1::x2::x3::x4::x5::x6::x7::x8::x9::x10::O::r)=some (x0::x1::x2::x3::x4::x5::x6::x7::x8::x9::x10::some (.d d)::r):=rfl
end
section
variable{i:Int}{l m:List D}{d:D}
theorem am1:lu (.int i) (.int j)=some (.int (i+j)):=rfl
theorem am2:au2 (.int i) (.int j)=some (.int (i-j)):=rfl
theorem ay8:gLt (.int i) (.int j)=some (.bool (decide (i<j))):=rfl
theorem ay9:gLe (.int i) (.int j)=some (.bool (decide (i<=j))):=rfl
theorem az0:gGt (.int i) (.int j)=some (.bool (decide (j<i))):=rfl
theorem az1:gGe (.int i) (.int j)=some (.bool (decide (j<=i))):=rfl
theorem Ly:gEq (.int i) (.int j)=some (.bool (decide (i=j))):=rfl
theorem am3:gNe (.int i) (.int j)=some (.bool (!decide (i=j))):=rfl
theorem am4:lA [.list l]=some (.int l.length):=rfl
theorem aa6:lA [.tuple l]=some (.int l.length):=rfl
theorem lF:∀ns:List Int,j8 (ns.map .int)=some ns
 |[]=>rfl
 |n::r=>by rw[aD,j8,lF r];rfl
theorem am5:au4 [.int i]=some (.int (if i<0 then -i else i)):=rfl
theorem am6:ag7 [.int i,.int j]=some (.int (if j>i then j else i)):=rfl
theorem am7:Ke [.int i,.int j]=some (.int (if j<i then j else i)):=rfl
theorem am8:iM (.int i)=some (.int (-i)):=rfl
theorem az2:gIx (.list l) (.int i)=pAt l i:=(rfl)
theorem am9:gIx (.tuple l) (.int i)=pAt l i:=(rfl)
theorem an0:FJ (.list l) (.list m)=if l.length+m.length<=1000000 then some (.list (l++m))else none:=(rfl)
theorem Te:vC (.list l)=some (.list l):=rfl
theorem W3:vC (.tuple l)=some (.list l):=rfl
theorem an1:pAt (d::l) 0=some d:=by
 unfold pAt pIx;rw[if_pos (by decide),if_pos (by simp)];rfl
end
noncomputable def an2(i j:Nat)(a:Option (List D))(δ:DS):Option Oc:=a.bind λl=>match l with
 |[x,y]=>if i<δ.length/\j<δ.length then some (.nx ((δ.set i (some (.d x))).set j (some (.d y))))else none
 |_=>none
def Xz(a:Option (List D)):Option (List D):=a.bind λl=>match l with
 |[.int j]=>if uc j=true then some (gM 0 j)else none
 |_=>none
def Tf(a:Option (List D)):Option (List D):=a.bind λl=>match l with
 |[.int i,.int j]=>if(uc i&&uc j)=true then some (gM i j)else none
 |_=>none
def qSl(x:Option D)(a b:Option (Option Int)):Option D:=x.bind λx=>a.bind λa=>b.bind λb=>match x with
 |.list l=>some (.list (cuD l a b))
 |_=>none
def qOP(x:Option D):Option (Option Int):=x.bind λx=>match x with
 |.int i=>some (some i)
 |_=>none
def qEn(x:Option D):Option (List D):=x.bind λd=>match d with
 |.list l=>some (rW l)
 |_=>none
section
variable{a b:FS}{fa:FE}{fr:FA}{δ:DS}{j:Nat}{g:FG}
theorem an3:au5 i j fr δ=an2 i j (fr δ) δ:=rfl
theorem W4{x:D}:an2 i j (some [x,y]) δ=if i<δ.length/\j<δ.length then some (.nx ((δ.set i (some (.d x))).set j (some (.d y))))else none:=(rfl)
theorem aa7:mL fr δ=Xz (fr δ):=rfl
def xM(h : -(2^62)<=k)(h2:k<2^62):Xz (some [.int k])=some (gM 0 k):=by
 show(if uc k=true then some (gM 0 k)else none)=_;rw[if_pos];unfold uc;rw[dTr h,dTr h2];rfl
theorem aa8:Fy fr δ=Tf (fr δ):=rfl
def aa9{i k:Int}(h : -(2^62)<=k)(h2:k<2^62)(h3 : -(2^62)<=i)(h4:i<2^62):Tf (some [.int i,.int k])=some (gM i k):=by
 show(if(uc i&&uc k)=true then some (gM i k)else none)=_;rw[if_pos];unfold uc;rw[dTr h,dTr h2,dTr h3,dTr h4];rfl
theorem az3{lo hi:FO}:dSl fa lo hi δ=qSl (fa δ) (lo δ) (hi δ):=rfl
theorem ab0{p r:Option Int}:qSl (some (.list l)) (some p) (some r)=some (.list (cuD l p r)):=rfl
theorem az4:P_ δ=some none:=rfl
theorem az5:Qa fa δ=qOP (fa δ):=rfl
theorem ab1{k:Int}:qOP (some (.int k))=some (some k):=rfl
theorem ab2:Kf fa δ=qEn (fa δ):=rfl
theorem Tg:qEn (some (.list l))=some (rW l):=rfl
def qM(Inv:Nat->DS->Prop):∀(l:List D)(δ:DS),Inv 0 δ->(∀i d δ,l[i]?=some d->Inv i δ->∃O δ',g d δ=some O/\(b O=some (.nx δ')\/b O=some (.ct δ'))/\Inv (i+1) δ')->∃δ',lq g b l δ=some (.nx δ')/\Inv l.length δ':=by
 have W:∀(l:List D)(k:Nat)(δ:DS),Inv k δ->(∀i d δ,l[i]?=some d->Inv (k+i) δ->∃O δ',g d δ=some O/\(b O=some (.nx δ')\/b O=some (.ct δ'))/\Inv (k+i+1) δ')->∃δ',lq g b l δ=some (.nx δ')/\Inv (k+l.length) δ':=by
  intro l
  induction l with
  |nil=>exact λk δ h _=>⟨δ,rfl,h⟩
  |cons d r V=>
   intro k δ h hs;obtain⟨O,δ',T,Y,U⟩:=hs 0 d δ rfl h;obtain⟨X,e4,e5⟩:=V (k+1) δ' U λi S Z hd hi=>by
    have:=hs (i+1) S Z (by simpa using hd) (by rwa[show k+(i+1)=k+1+i by lia]);rwa[show k+(i+1)+1=k+1+i+1 by lia]at this
   refine⟨X,?_,by rwa[aO,show k+(r.length+1)=k+1+r.length by lia]⟩;rw[lq,T,aj];rcases Y with Y|Y
   .rwa[Y]
   .rwa[Y]
 intro l δ h hs;have:=W l 0 δ h λi d δ hd hi=>by
  have:=hs i d δ hd (by rw[pX]at hi;exact hi);rwa[pX]
 rwa[pX]at this
end
def qX(a:Option D)(δ:DS):Option Oc:=a.bind λ_=>some (.nx δ)
theorem ab3{fa:FE}:yK fa δ=qX (fa δ) δ:=rfl
theorem Ti:qX (some d) δ=some (.nx δ):=rfl
theorem Tj{O:D->D->Option D}{fa fb fc fd:FE}:Kc g g' O fa fb fc fd δ=SN (qO g (fa δ) (fb δ)) (mF g' O fb fc fd) δ:=by
 unfold Kc SN mF qO
 cases fa δ with
 |none=>rfl
 |some x=>cases fb δ<;>rfl
def qZ(a b:Option D):Option (List D):=a.bind λd=>b.bind λe=>match d,e with
 |.list l,.list m=>some (uH l m)
 |_,_=>none
theorem an4{f g:FE}:au6 f g δ=qZ (f δ) (g δ):=rfl
theorem W5{m:List D}:qZ (some (.list l)) (some (.list m))=some (uH l m):=rfl
theorem az6{fa:FE}:dN1 fa δ=qFl (λd=>decide (nl d<=1)) (fa δ):=rfl
theorem an5:flat .none=true:=rfl
theorem az7{b:Bool}:flat (.bool b)=true:=rfl
theorem f_int{i:Int}:flat (.int i)=true:=rfl
theorem an6:flat (.str x)=true:=rfl
theorem an7:flat (.list l)=false:=rfl
theorem f_tup:flat (.tuple l)=flats l:=rfl
theorem an8:flats []=true:=rfl
theorem ab4:flats (d::l)=(flat d&&flats l):=rfl
theorem ab5:fl1 .none=true:=rfl
theorem an9{b:Bool}:fl1 (.bool b)=true:=rfl
theorem ab6{i:Int}:fl1 (.int i)=true:=rfl
theorem ab7:fl1 (.str x)=true:=rfl
theorem ab8:fl1 (.list l)=flats l:=rfl
theorem ab9:fl1 (.tuple l)=flats l:=rfl
theorem az8{c:String}{i:Int}:gIs c (.int i)=some (.bool (isT c (tyD (.int i)))):=rfl
theorem ao0{c:String}:gIs c (.str x)=some (.bool (isT c (tyD (.str x)))):=rfl
theorem ao1:Cp d=some (.bool (isNone d)):=rfl
theorem ac0:ag6 d=some (.bool (!isNone d)):=rfl
theorem ao2:isNone .none=true:=rfl
theorem az9{b:Bool}:isNone (.bool b)=false:=rfl
theorem ao3{i:Int}:isNone (.int i)=false:=rfl
theorem ao4:isNone (.str x)=false:=rfl
theorem ao5:isNone (.list l)=false:=rfl
theorem ao6:isNone (.tuple l)=false:=rfl
theorem ao7{l:List (D×D)}:isNone (.dict l)=false:=rfl
end D3
local macro_rules|`(tactic|simp![$xs,*]$[$l:location]?)=>do let a←("D3.ao0 D3.an5 D3.az7 D3.f_int D3.an6 D3.an7 D3.f_tup D3.an8 D3.ab4 D3.ab5 D3.an9 D3.ab6 D3.ab7 D3.ab8 D3.ab9 D3.az8 D3.ao1 D3.ac0 D3.ao2 D3.az9 D3.ao3 D3.ao4 D3.ao5 D3.ao6 D3.ao7 List.length_cons List.length_nil List.map_cons List.map_nil List.replicate_succ List.replicate_zero List.cons_append List.nil_append List.append_nil List.set_cons_zero List.set_cons_succ Nat.zero_add if_true decide_true decide_false Int.cast_ofNat_Int Bool.not_true Bool.not_false Bool.and_self D3.aw8 D3.aw9 D3.ax0 D3.ax1 D3.ax2 D3.ax3 D3.ax4 D3.ax5 D3.ax6 D3.ax7 D3.ax8 D3.ax9 D3.ay0 D3.ay1 D3.ay2 D3.ay3 D3.ay4 D3.ay5 D3.ay6 D3.ay7 D3.al7 D3.al8 D3.al9 D3.am0 D3.az6 D3.an4 D3.W5 D3.ab3 D3.Ti D3.Tj D3.ak1 D3.SQ D3.SX D3.S5 D3.S6 D3.ak2 D3.av8 D3.av9 D3.aw0 D3.ZW D3.ZX D3.v_op D3.Z0 D3.aw1 D3.Z1 D3.Z2 D3.Ws D3.Oe D3.Z4 D3.S7 D3.ak3 D3.Wt D3.Z5 D3.ak4 D3.aw2 D3.v_c D3.v_and D3.Wu D3.Wv D3.v_or D3.Z6 D3.Z7 D3.v_not D3.Ww D3.aw3 D3.Z8 D3.Z9 D3.S8 D3.S9 D3.ak5 D3.Wx D3.Wy D3.Z_ D3.S_ D3.v_ite D3.Wz D3.WD D3.ak6 D3.WK D3.ak7 D3.WL D3.Og D3.ak8 D3.WM D3.WQ D3.aw4 D3.aw5 D3.ak9 D3.al0 D3.WR D3.al1 D3.WT D3.aw6 D3.aa0 D3.aa1 D3.al2 D3.aa2 D3.al3 D3.WW D3.al4 D3.WX D3.WY D3.Oi D3.Oj D3.al5 D3.W0 D3.W2 D3.aa3 D3.Tc D3.aw7 D3.Oh D3.al6 D3.aa4 D3.aa5 D3.am1 D3.am2 D3.ay8 D3.ay9 D3.az0 D3.az1 D3.Ly D3.am3 D3.am4 D3.aa6 D3.am5 D3.am6 D3.am7 D3.am8 D3.az2 D3.am9 D3.an0 D3.Te D3.W3 D3.an1 D3.an3 D3.W4 D3.aa7 D3.aa8 D3.az3 D3.ab0 D3.az4 D3.az5 D3.ab1 D3.ab2 D3.Tg Int.reduceEq Int.reduceLE Int.reduceLT Nat.reduceAdd Nat.reduceEqDiff Nat.reduceLT Nat.reduceLeDiff reduceIte".splitOn " ").toArray.mapM λs=>`(Lean.Parser.Tactic.simpLemma|$(Lean.mkIdent s.toName):ident);`(tactic|simp only[$a,*,$xs,*]$[$l]?)
namespace My
noncomputable def xq(ns:List Int)(i:Int):Int:=
 if i<(ns.length:Int)then ns.getD i.toNat 0%1000000007
 else if ns=[]then 7919*i+5000011
 else ns.getD (i*7%(ns.length:Int)).toNat 0%1000000007+7919*i
def divs(n:Int):Nat->Int
 |0=>n
 |k+1=>divs n k/1000003
noncomputable def Lz(c i k m:Int):Int:=
 (((c+65537*i+3)*(1299709+15485863*k)%2147483629*((c+65537*i+3)*(1299709+15485863*k)%2147483629)%1500450271+104729) *
  ((c+65537*i+3)*(1299709+15485863*k)%2147483629*((c+65537*i+3)*(1299709+15485863*k)%2147483629)%1500450271+104729))%715827883/64%m
def jl(ns:List Int)(i k m:Int):Int:=
 if i<(ns.length:Int)/\10^40<=ns.getD i.toNat 0/\0<divs (ns.getD i.toNat 0) k.toNat then divs (ns.getD i.toNat 0) k.toNat%1000003%m
 else Lz (xq ns i) i k m
def jX(ns:List Int)(i k:Int)(h:0<m):0<=jl ns i k m/\jl ns i k m<m:=by
 unfold jl Lz;split
 .exact⟨mD _ (by lia),jL _ h⟩
 .exact⟨mD _ (by lia),jL _ h⟩
def Ol(h1:q<(ns.length:Int))(h2:10^40<=ns.getD q.toNat 0)(h3:0<divs (ns.getD q.toNat 0) k.toNat):
 jl ns q k m=divs (ns.getD q.toNat 0) k.toNat%1000003%m:=by
 unfold jl;rw[if_pos ⟨h1,h2,h3⟩]
def uT(h:¬(q<(ns.length:Int)/\10^40<=ns.getD q.toNat 0/\0<divs (ns.getD q.toNat 0) k.toNat)):
 jl ns q k m=Lz (xq ns q) q k m:=by
 unfold jl;rw[if_neg h]
end My
namespace Com
open D3
abbrev _root_.D3.sdq(d:D):Option U:=some (.d d)
def jQ:List D->Option D:=fnD 1 0 (fO (Cm (dUn (gIs "int") (ao 0)) (U_ (dUn (gIs "bool") (ao 0)))))
def iR:List D->Option D:=fnD 2 0 (bZ (sIf (bA (dOp gLt (ao 1) (dCall lA (aq (ao 0) (aX))))) (fO (dOp rF (dOp gIx (ao 0) (ao 1)) (dC (.int 1000000007)))) (gJ))
    (bZ (sIf (bA (dOp gEq (ao 0) (jY (aX)))) (fO (dOp lu (dOp qg (dC (.int 7919)) (ao 1)) (dC (.int 5000011)))) (gJ))
    (fO (dOp lu (dOp rF (dOp gIx (ao 0) (dOp rF (dOp qg (ao 1) (dC (.int 7))) (dCall lA (aq (ao 0) (aX))))) (dC (.int 1000000007))) (dOp qg (dC (.int 7919)) (ao 1))))))
def cg:List D->Option D:=fnD 4 2 (bZ (sIf (D3.uz (bA (dOp gLt (ao 1) (dCall lA (aq (ao 0) (aX))))) (bA (dOp gGe (dOp gIx (ao 0) (ao 1)) (dOp YG (dC (.int 10)) (dC (.int 40)))))) (bZ (bY 4 (dOp gIx (ao 0) (ao 1)))
    (bZ (rT (mL (aq (ao 2) (aX))) (gNl 5) (bY 4 (dOp Fx (ao 4) (dC (.int 1000003)))))
    (sIf (bA (dOp gGt (ao 4) (dC (.int 0)))) (fO (dOp rF (dOp rF (ao 4) (dC (.int 1000003))) (ao 3))) (gJ)))) (gJ))
    (bZ (bY 4 (dOp rF (dOp qg (dOp lu (dOp lu (dCall iR (aq (ao 0) (aq (ao 1) (aX)))) (dOp qg (dC (.int 65537)) (ao 1))) (dC (.int 3))) (dOp lu (dC (.int 1299709)) (dOp qg (dC (.int 15485863)) (ao 2)))) (dC (.int 2147483629))))
    (bZ (bY 4 (dOp lu (dOp rF (dOp qg (ao 4) (ao 4)) (dC (.int 1500450271))) (dC (.int 104729))))
    (fO (dOp rF (dOp Fx (dOp rF (dOp qg (ao 4) (ao 4)) (dC (.int 715827883))) (dC (.int 64))) (ao 3))))))
def cV:List D->Option D:=fnD 1 0 (fO (Cm (dUn (gIs "int") (ao 0)) (U_ (dUn (gIs "bool") (ao 0)))))
def iZ:List D->Option D:=fnD 3 1 (bZ (bY 3 (dOp gIx (jY (aq (jY (aq (dC (.int 1)) (aq (dC (.int 2)) (aq (dC (.int 3)) (aq (dC (.int 4)) (aX)))))) (aq (jY (aq (dC (.int 1)) (aq (dC (.int 1)) (aq (dC (.int 2)) (aq (dC (.int 2)) (aX)))))) (aq (jY (aq (dC (.int 2)) (aq (dC (.int 3)) (aq (dC (.int 3)) (aq (dC (.int 4)) (aX)))))) (aq (jY (aq (dC (.int 1)) (aq (dC (.int 2)) (aq (dC (.int 2)) (aq (dC (.int 3)) (aX)))))) (aX)))))) (dCall cg (aq (ao 0) (aq (ao 1) (aq (dC (.int 1)) (aq (dC (.int 4)) (aX))))))))
    (fO (dN (mL (aq (dCall cg (aq (ao 0) (aq (ao 1) (aq (dC (.int 0)) (aq (dOp lu (ao 2) (dC (.int 1))) (aX)))))) (aX))) (gNl 0) (rE) (eN (dOp gIx (ao 1) (dCall cg (aq (ao 2) (aq (dOp lu (ao 3) (dC (.int 1))) (aq (ao 0) (aq (dC (.int 4)) (aX)))))))) 1 [3,0,1])))
def fH:List D->Option D:=fnD 3 0 (fO (dN (Kf (ao 0)) (gTn 2 (dF (gNl 0) (dF (gNl 1) (kO)))) (D3.uz (bA (dOp gGe (ao 1) (ao 2))) (bA (dOp jx (ao 0) (ao 3)))) (eN (ao 0)) 2 [2,1]))
def eG:List D->Option D:=fnD 3 0 (fO (KJ (aq (dN (sG (ao 1)) (gNl 0) (bA (dOp gGe (dOp gIx (ao 3) (ao 0)) (ao 2))) (dOp o9 (ao 1) (ao 0)) 1 [1,2,0]) (aX)) (ao 2)))
def i_:List D->Option D:=fnD 3 2 (bZ (bY 3 (jY (aq (ao 2) (aX))))
    (bZ (uG (bA (dOp gEq (dCall fH (aq (ao 0) (aq (ao 1) (aq (dOp gIx (ao 3) (dUn iM (dC (.int 1)))) (aX))))) (jY (aX)))) (bZ (bY 4 (dCall eG (aq (ao 0) (aq (ao 1) (aq (dOp gIx (ao 3) (dUn iM (dC (.int 1)))) (aX))))))
    (bZ (sIf (bA (dOp gGe (ao 4) (dOp gIx (ao 3) (dUn iM (dC (.int 1)))))) (fO (dC (.none))) (gJ))
    (t_ 3 (ao 4)))))
    (fO (uF (ao 3)))))
def eU:List D->Option D:=fnD 4 0 (fO (eN (dOp gIx (dN (Ac (dCall yZ (aq (ao 1) (aX)))) (gNl 0) (D3.uz (bA (dOp gGe (dOp gIx (ao 3) (ao 0)) (ao 1))) (bA (dOp gEq (dOp o9 (ao 4) (ao 0)) (ao 2)))) (eN (ao 0)) 1 [2,3,0,1]) (dC (.int 0)))))
def jR:List D->Option D:=fnD 3 5 (bZ (bY 3 (dOp gIx (dCall fH (aq (ao 0) (aq (ao 1) (aq (dOp gIx (ao 2) (dUn iM (dC (.int 1)))) (aX))))) (dC (.int 0))))
    (bZ (bY 4 (jY (aX)))
    (bZ (rT (Va (dOp Gq (ao 2) (dSl (ao 2) (Qa (dC (.int 1))) P_))) (gTn 2 (dF (gNl 5) (dF (gNl 6) (kO)))) (bZ (bY 7 (dCall eU (aq (ao 0) (aq (ao 1) (aq (ao 5) (aq (ao 6) (aX)))))))
    (bZ (t_ 4 (dTup (aq (ao 7) (aq (ao 3) (aX)))))
    (bY 3 (ao 7)))))
    (fO (dTup (aq (uF (ao 4)) (aq (eN (ao 3)) (aX))))))))
def jo:List D->Option D:=fnD 3 0 (fO (dCall FP (aq (dN (Kf (ao 0)) (gTn 2 (dF (gNl 0) (dF (gNl 1) (kO)))) (bA (dOp gGe (ao 1) (ao 2))) (dOp gGe (sE (ao 3) (ao 0) (dC (.int 0))) (ao 2)) 2 [2,1]) (aX))))
def fP:List D->Option D:=fnD 3 2 (bZ (bY 3 (uF (dCall i_ (aq (ao 0) (aq (ao 1) (aq (ao 2) (aX)))))))
    (bZ (sIf (bA (dUn Cp (ao 3))) (fO (dTup (aq (dC (.str "full")) (aq (dCall Fz (aq (dN (Fy (aq (dC (.int 1)) (aq (dOp lu (ao 2) (dC (.int 1))) (aX)))) (gNl 0) (bA (dCall jo (aq (ao 1) (aq (ao 2) (aq (ao 0) (aX)))))) (eN (ao 0)) 1 [0,1]) (aX))) (aX))))) (gJ))
    (bZ (bY 4 (dN1 (dCall jR (aq (ao 0) (aq (ao 1) (aq (ao 3) (aX)))))))
    (fO (dTup (aq (dC (.str "in")) (aq (dOp gIx (ao 4) (dC (.int 0))) (aq (dOp gIx (ao 4) (dC (.int 1))) (aq (uF (ao 3)) (aX))))))))))
def fY:List D->Option D:=fnD 3 3 (bZ (bY 3 (dC (.none)))
    (bZ (rT (Fy (aq (dC (.int 1)) (aq (dOp lu (ao 2) (dC (.int 1))) (aX)))) (gNl 4) (bZ (bY 5 (dN (mL (aq (dCall lA (aq (ao 0) (aX))) (aX))) (gNl 0) (bA (dOp gGe (dOp gIx (ao 3) (ao 0)) (ao 2))) (sE (ao 1) (ao 0) (dC (.int 0))) 1 [1,4,0]))
    (sIf (bA (dCall FP (aq (dN (Ac (ao 5)) (gNl 0) (rE) (dOp gGe (ao 0) (ao 1)) 1 [4]) (aX)))) (bY 3 (ao 4)) (gJ))))
    (fO (eN (ao 3)))))
def fZ:List D->Option D:=fnD 3 2 (bZ (bY 3 (jY (aq (ao 2) (aX))))
    (bZ (uG (bA (dOp gEq (dN (mL (aq (dCall lA (aq (ao 0) (aX))) (aX))) (gNl 0) (D3.uz (bA (dOp gGe (dOp gIx (ao 2) (ao 0)) (dOp gIx (ao 3) (dUn iM (dC (.int 1)))))) (bA (dOp jx (ao 0) (ao 1)))) (eN (ao 0)) 1 [1,0,3]) (jY (aX)))) (bZ (bY 4 (dN (sG (ao 1)) (gNl 0) (bA (dOp gGe (dOp gIx (ao 2) (ao 0)) (dOp gIx (ao 3) (dUn iM (dC (.int 1)))))) (dOp o9 (ao 1) (ao 0)) 1 [1,0,3]))
    (bZ (t_ 3 (dCall lW (aq (dOp FJ (ao 4) (jY (aq (dOp gIx (ao 3) (dUn iM (dC (.int 1)))) (aX)))) (aX))))
    (sIf (bA (dOp gEq (dOp gIx (ao 3) (dUn iM (dC (.int 1)))) (dOp gIx (ao 3) (dUn iM (dC (.int 2)))))) (fO (dC (.none))) (gJ)))))
    (fO (uF (ao 3)))))
def dI:List D->Option D:=fnD 3 0 (fO (Cm (dCall jQ (aq (ao 0) (aX))) (mF gLe gLe (ao 1) (ao 0) (ao 2))))
open My
def mq{i:Int}(O:0<=i)(h1:i<ns.length):pAt (ns.map du) i=some (.int (ns.getD i.toNat 0)):=by
 unfold pAt pIx;rw[ak,if_pos O,if_pos h1,aj,aF];have h:i.toNat<ns.length:=by lia
 rw[aG h];simp[List.getD,h]
def vV{k:Nat}:pAt l (k:Int)=l[k]?:=by
 unfold pAt pIx;rw[if_pos (by lia)];by_cases h:k<l.length
 .rw[if_pos (by lia),aj];simp
 .rw[if_neg (by lia),bf (by lia)];rfl
def at0 : pAt (m::l) 0=some m:=vV (k:=0)
def at1{b:D}: pAt (m::b::l) 1=some b:=vV (k:=1)
def Ah{i:Int}(h:0<j):rF (.int i) (.int j)=some (.int (i%j)):=by
 show(if decide (j≠0)=true then some (du (i.fmod j))else none)=_;rw[if_pos (dTr (by lia)),Int.fmod_eq_emod_of_nonneg i (by lia)]
def Tp(h:j.natAbs<2^64):j.natAbs<2^9000:=bG h (Nat.pow_le_pow_right (by decide) (by decide))
def aA0(h:0<j)(h2:j.natAbs<2^9000):Fx (.int k) (.int j)=some (.int (k/j)):=by
 show(if Iz k j=true then some (du (k.fdiv j))else none)=_;have e:Iz k j=true:=by
  unfold Iz;rw[aK];exact⟨dTr (by lia),dTr h2⟩
 rw[if_pos e,Int.fdiv_eq_ediv_of_nonneg k (by lia)]
def ao8(h:0<j)(h2:j<18446744073709551616):Fx (.int k) (.int j)=some (.int (k/j)):=aA0 h (Tp (by lia))
def mulL{i:Int}(h1 : -18446744073709551616<i)(h2:i<18446744073709551616):qg (.int i) (.int j)=some (.int (i*j)):=by
 show(if yL i j=true then some (du (i*j))else none)=_;have e:yL i j=true:=by
  unfold yL;rw[dTr (show i.natAbs<2^64 by lia)];rfl
 rw[if_pos e]
def mulR{i:Int}(h1 : -18446744073709551616<j)(h2:j<18446744073709551616):qg (.int i) (.int j)=some (.int (i*j)):=by
 show(if yL i j=true then some (du (i*j))else none)=_;have e:yL i j=true:=by
  unfold yL;rw[dTr (show j.natAbs<2^64 by lia),jw];rfl
 rw[if_pos e]
def XD:YG (.int 10) (.int 40)=some (.int (10^40)):=rfl
def sz(h:n<=1000000):n<=sizeLine:=bw h (by decide)
def shaped_ints(ns:List Int):dy (.list (ns.map du))=true:=by
 have h1:∀ns:List Int,ew (ns.map du)=true:=λns=>by
  induction ns with
  |nil=>rfl
  |cons a r Z=>simp[ew,ef,Z]
 have h2:∀ns:List Int,eD (ns.map du)<=1:=λns=>by
  induction ns with
  |nil=>simp[eD]
  |cons a r Z=>simp[eD,eQ];lia
 unfold dy;rw[aK];refine⟨by simp[ef,h1],dTr ?_⟩;have:=h2 ns;simp only[eQ];lia
theorem eq_empty(ns:List Int):gEq (.list (ns.map du)) (.list [])=some (.bool (decide (ns=[]))):=by
 unfold gEq;rw[shaped_ints ns]
 cases ns with
 |nil=>rfl
 |cons a r=>rfl
def Om(O:0<=k):iR [.list (ns.map .int),.int k]=some (.int (xq ns k)):=by
 unfold iR xq;by_cases h:k<(ns.length:Int)
 .rw[if_pos h];simp![lMp,dTr h,mq O h,Ah (show(0:Int)<1000000007 by decide)]
 .rw[if_neg h];by_cases hn:ns=[]
  .rw[if_pos hn];simp![lMp,dFa h,eq_empty,dTr hn,f9,mulL (show(-18446744073709551616:Int)<7919 by decide) (show(7919:Int)<18446744073709551616 by decide)]
  .rw[if_neg hn];have X:0<ns.length:=by
    cases ns with
    |nil=>exact absurd rfl hn
    |cons _ _=>simp
   have Y:0<=k*7%(ns.length:Int):=mD _ (by lia);have Z:k*7%(ns.length:Int)<(ns.length:Int):=jL _ (by lia);simp![lMp,dFa h,eq_empty,dFa hn,f9,mulL (show(-18446744073709551616:Int)<7919 by decide) (show(7919:Int)<18446744073709551616 by decide),mulR (show(-18446744073709551616:Int)<7 by decide) (show(7:Int)<18446744073709551616 by decide),Ah (show(0:Int)<1000000007 by decide),Ah (show(0:Int)<ns.length by lia),mq Y Z]
theorem BP{l:D}{i:D}(n:Int):∀(O:List D)(c:Nat)(y:Option U),(∀j∈O,∃x,j=.int x)->∃Y,lq (gNl 5) (bY 4 (dOp Fx (ao 4) (dC (.int 1000003)))) O [sdq l,sdq i,sdq k,sdq m,sdq (.int (divs n c)),y] =
 some (.nx [sdq l,sdq i,sdq k,sdq m,sdq (.int (divs n (c+O.length))),Y])
 |[],c,y,_=>⟨y,rfl⟩
 |j::O,c,y,h=>by
  obtain⟨Y,e⟩:=BP (l:=l) (i:=i) (k:=k) (m:=m) n O (c+1) (sdq j) λj' Z=>h j' (aA _ Z)
  refine⟨Y,?_⟩;rw[lq];simp![ao8 (show(0:Int)<1000003 by decide) (show(1000003:Int)<18446744073709551616 by decide),aj];rw[show c+(O.length+1)=c+1+O.length by lia,<-e];rfl
def Oo(lo hi:Int):∀j∈gM lo hi,∃x,j=.int x:=by
 intro j Z;obtain⟨k,_,rfl⟩:=aY.mp Z;exact⟨_,rfl⟩
def pL{i:Int}(O:0<=i)(Y:0<=k)(hk:k<=1000)(hm:0<m):cg [.list (ns.map .int),.int i,.int k,.int m]=some (.int (jl ns i k m)):=by
 have rest:∀x y:Option U,qFn ((bZ (bY 4 (dOp rF (dOp qg (dOp lu (dOp lu (dCall iR (aq (ao 0) (aq (ao 1) (aX)))) (dOp qg (dC (.int 65537)) (ao 1))) (dC (.int 3))) (dOp lu (dC (.int 1299709)) (dOp qg (dC (.int 15485863)) (ao 2)))) (dC (.int 2147483629))))
  (bZ (bY 4 (dOp lu (dOp rF (dOp qg (ao 4) (ao 4)) (dC (.int 1500450271))) (dC (.int 104729))))
  (fO (dOp rF (dOp Fx (dOp rF (dOp qg (ao 4) (ao 4)) (dC (.int 715827883))) (dC (.int 64))) (ao 3))))) [sdq (.list (ns.map .int)),sdq (.int i),sdq (.int k),sdq (.int m),x,y])=some (.int (Lz (xq ns i) i k m)):=by
  intro x y;simp![Om O,mulL (show(-18446744073709551616:Int)<65537 by decide) (show(65537:Int)<18446744073709551616 by decide),mulL (show(-18446744073709551616:Int)<15485863 by decide) (show(15485863:Int)<18446744073709551616 by decide),mulR (i:=xq ns i+65537*i+3) (show(-18446744073709551616:Int)<1299709+15485863*k by lia) (show 1299709+15485863*k<(18446744073709551616:Int)by lia),Ah (show(0:Int)<2147483629 by decide)]
  simp only[mulL (show(-18446744073709551616:Int)<(xq ns i+65537*i+3)*(1299709+15485863*k)%2147483629 by lia) (show(xq ns i+65537*i+3)*(1299709+15485863*k)%2147483629<(18446744073709551616:Int)by lia)];simp![Ah (show(0:Int)<1500450271 by decide)];rw[mulL (by lia) (by lia)];simp![Ah (show(0:Int)<715827883 by decide),ao8 (show(0:Int)<64 by decide) (show(64:Int)<18446744073709551616 by decide),Ah hm];rfl
 unfold cg;rw[al5];simp![];by_cases h:i<(ns.length:Int)
 .by_cases h2:10^40<=ns.getD i.toNat 0
  .simp![lMp,dTr h,mq O h,XD,dTr h2];obtain⟨Z,e⟩:=BP (l:=.list (ns.map .int)) (i:=.int i) (k:=.int k) (m:=.int m) (ns.getD i.toNat 0) (gM 0 k) 0 none (Oo 0 k);have X:0+(gM 0 k).length=k.toNat:=by simp[gM]
   rw[X]at e;have W:lq (gNl 5) (bY 4 (dOp Fx (ao 4) (dC (.int 1000003)))) (gM 0 k) [sdq (.list (ns.map .int)),sdq (.int i),sdq (.int k),sdq (.int m),sdq (.int (ns.getD i.toNat 0)),none] =
    some (.nx [sdq (.list (ns.map .int)),sdq (.int i),sdq (.int k),sdq (.int m),sdq (.int (divs (ns.getD i.toNat 0) k.toNat)),Z]):=e
   rw[xM (by lia) (by lia)];simp![W];by_cases h3:0<divs (ns.getD i.toNat 0) k.toNat
   .simp![dTr h3,Ah (show(0:Int)<1000003 by decide),Ah hm];rw[Ol h h2 h3]
   .simp![dFa h3];rw[uT (λz=>h3 z.2.2)];have:=rest (sdq (.int (divs (ns.getD i.toNat 0) k.toNat))) Z;simp![]at this;exact this
  .simp![lMp,dTr h,mq O h,XD,dFa h2];rw[uT (λz=>h2 z.2.1)];have:=rest none none;simp![]at this;exact this
 .simp![lMp,dFa h];rw[uT (λz=>h z.1)];have:=rest none none;simp![]at this;exact this
theorem cEx{g:FG}{c:FT}{e:FE}(f:α->D)(P:α->Prop):∀l:List D,(∀d∈l,∃O x,g d δ=some O/\c O=some true/\P x/\e O=some (f x))->∃xs:List α,xs.length=l.length/\(∀x∈xs,P x)/\fD g c e δ l=some (xs.map f)
 |[],_=>⟨[],rfl,(λ_ h=>by cases h),rfl⟩
 |d::r,hs=>by
  obtain⟨O,x,V,W,Y,X⟩:=hs d au;obtain⟨xs,l1,h1,e4⟩:=cEx f P r λx hx=>hs x (aA _ hx)
  refine⟨x::xs,by simp[l1],λy Z=>?_,?_⟩
  .rcases aC.mp Z with rfl|z
   .exact Y
   .exact h1 y z
  .rw[fD,V,aj,W,aj,if_pos rfl,X,aj,e4];rfl
theorem wJ{g:FG}{c:FT}{e:FE}(f:α->D)(p:α->Bool)(h:α->D):∀l:List α,(∀s∈l,∃O,g (f s) δ=some O/\c O=some (p s)/\(p s=true->e O=some (h s)))->fD g c e δ (l.map f)=some ((l.filter p).map h)
 |[],_=>rfl
 |s::r,hs=>by
  obtain⟨O,W,X,Y⟩:=hs s au;have Z:=wJ f p h r λx hx=>hs x (aA _ hx)
  rw[aD,fD,W,aj,X,aj];by_cases c:p s=true
  .rw[if_pos c,Y c,aj,Z,kY,if_pos c];rfl
  .rw[if_neg c,Z,kY,if_neg c]
theorem Oq(f:α->D)(h:α->D):∀l:List α,(∀s∈l,∃O,k (f s) δ=some O/\m O=some true/\q O=some (h s))->fD k m q δ (l.map f)=some (l.map h)
 |[],_=>rfl
 |s::r,hs=>by
  obtain⟨O,X,Y,Z⟩:=hs s au;rw[aD,fD,X,aj,Y,aj,if_pos rfl,Z,aj,Oq f h r λx hx=>hs x (aA _ hx)];rfl
theorem pN(f:α->D)(h:∀a,flat (f a)=true):∀l:List α,flats (l.map f)=true
 |[]=>rfl
 |a::r=>by rw[aD,flats,h,pN f h r];rfl
def nM(l:List Int):flats (l.map du)=true:=pN _ (λ_=>rfl) l
def at2{a b c:D}:pAt (a::b::c::l) 2=some c:=vV (k:=2)
def at3 : pAt (m::q::t::d::l) 3=some d:=vV (k:=3)
def LC{α:Type}(f:α->D){l:List α}{i:Int}(O:0<=i)(h1:i<l.length):∃a∈l,pAt (l.map f) i=some (f a):=by
 have Z:i.toNat<l.length:=by lia
 refine⟨l[i.toNat],ju Z,?_⟩;obtain⟨k,rfl⟩:∃k:Nat,i=(k:Int):=⟨i.toNat,by lia⟩;rw[vV,aF];simp only[dH]at Z ⊢;rw[aG Z];rfl
def oE : (gM 0 m).length=m.toNat:=by unfold gM;rw[ak,eE,u9]
def W6(h:d∈gM 0 m):∃k:Nat,(k:Int)<m/\d=.int (k:Int):=by
 obtain⟨k,Z,rfl⟩:=aY.mp h;have:=cI.mp Z;exact⟨k,by lia,by rw[Int.zero_add]⟩
def vW(m:Int):gM 0 m=(bC m.toNat).map λk:Nat=>du (k:Int):=by
 unfold gM;rw[u9];apply cT;intro k _;rw[Int.zero_add]
def Tq{m:Int}(h:(gM 0 m)[i]?=some d):(i:Int)<m/\d=.int (i:Int):=by
 rw[vW,aF]at h;by_cases hi:i<m.toNat
 .rw[jB hi]at h
  cases h;exact⟨by lia,rfl⟩
 .rw[bf (by simpa using hi)]at h
  cases h
def aA1{i:Int}(h:0<j):0<=i%j/\i%j<j:=⟨mD _ (by lia),jL _ h⟩
def ao9(h:0<=k):cuD l (some k) none=l.drop k.toNat:=by
 unfold cuD;have e:pSx l.length 0 (some k)=min k.toNat l.length:=by
  show(if k<0 then _ else _)=_;rw[if_neg (by lia)]
 rw[e,show pSx l.length l.length none=l.length from rfl];by_cases c:k.toNat<=l.length
 .rw[show min k.toNat l.length=k.toNat by lia,pU (by rw[List.length_drop];lia)]
 .rw[show min k.toNat l.length=l.length by lia,pY (by lia),pY (by lia)];simp
def isList:D3.isT "list" "list"=true:=rfl
mutual
theorem eqv_refl:∀d:D,d.canLay0=true->eb d d=true
 |.none,_=>by simp[eb]
 |.bool b,_=>by simp[eb]
 |.int i,_=>by simp[eb]
 |.str x,_=>by simp[eb]
 |.list l,h=>by
  have:=eqvAll_refl l (by simpa[ef]using h);simpa[eb]using this
 |.tuple l,h=>by
  have:=eqvAll_refl l (by simpa[ef]using h);simpa[eb]using this
 |.dict l,h=>by simp[ef]at h
theorem eqvAll_refl:∀l:List D,ew l=true->PyData.eqvAll l l=true
 |[],_=>by simp[PyData.eqvAll]
 |d::r,h=>by
  rw[ew,aK]at h;rw[PyData.eqvAll,eqv_refl d h.1,eqvAll_refl r h.2];rfl
end
def ly(n:Nat)(d:D):Prop:=d.canLay0=true/\d.depth<=n
def lys(n:Nat)(l:List D):Prop:=ew l=true/\eD l<=n
def sW(h:ly n d)(l:n<=m):ly m d:=⟨h.1,bw h.2 l⟩
def vX:lys n []:=⟨by simp[ew],by simp[eD]⟩
def mz(h:ly n d)(q:lys n l):lys n (d::l):=
 ⟨by rw[ew,h.1,q.1];rfl,by have:=h.2;have:=q.2;simp only[eD];lia⟩
theorem LK(f:α->D)(h:∀a,ly n (f a)):∀l:List α,lys n (l.map f)
 |[]=>vX
 |a::r=>mz (h a) (LK f h r)
def Eh(h:lys n l):ly (n+1) (.list l):=⟨by simp[ef,h.1],by have:=h.2;simp only[eQ];lia⟩
def Tr(h:lys n l):ly (n+1) (.tuple l):=⟨by simp[ef,h.1],by have:=h.2;simp only[eQ];lia⟩
def qQ : ly (n+1) (.int k):=⟨rfl,by simp[eQ]⟩
def mZ(h:ly 60 d):dy d=true:=by
 unfold dy;rw[aK];exact⟨h.1,dTr (by have:=h.2;lia)⟩
def eq_self(h:ly 60 d):gEq d d=some (.bool true):=by
 unfold gEq;rw[mZ h,eqv_refl d h.1];rfl
def ne_self(h:ly 60 d):gNe d d=some (.bool false):=by
 unfold gNe;rw[mZ h,eqv_refl d h.1];rfl
end Com
variable{rs:List Int}
namespace Com
open D3 My
def JD : o9 (dcD qs) (.int k)=(dX qs k).map .int:=by
 unfold o9;rw[o8];rfl
def zU : jx (.int k) (dcD qs)=some (.bool (!(dX qs k).isSome)):=by
 unfold jx;rw[o8];rfl
def W7(h:qs.length<64):yZ [dcD qs]=some (.list ((xK (qs.map (·.1))).map .int)):=by
 unfold yZ;dsimp only;rw[o8,aj,if_pos h]
def qKG(x k z:Option D):Option D:=match x,k,z with
 |some x,some (.int i),some (.int j)=>(n8 x).map λqs=>.int ((dX qs i).getD j)
 |_,_,_=>none
theorem LQ : sE fx m fz δ=qKG (fx δ) (m δ) (fz δ):=by
 unfold sE qKG
 cases fx δ with
 |none=>rfl
 |some x=>
  rw[aj]
  cases m δ with
  |none=>rfl
  |some k=>
   rw[aj]
   cases fz δ with
   |none=>cases k<;>rfl
   |some z=>
    rw[aj]
    cases k<;>cases z<;>first|(cases n8 x<;>rfl;done)|(dsimp only;cases n8 x<;>rfl)
def BR : qKG (some (dcD qs)) (some (.int k)) (some (.int j))=some (.int ((dX qs k).getD j)):=by
 unfold qKG;dsimp only;rw[o8];rfl
def qKP(n:Nat)(v x k:Option D)(δ:DS):Option Oc:=match v,x,k with
 |some (.int v),some x,some (.int j)=>(n8 x).bind λqs=>if qs.length<1000000 then some (.nx (δ.set n (some (.d (dcD (Gn qs j v))))))else none
 |_,_,_=>none
theorem ac1 : Gp n m q δ=qKP n (q δ) (ao n δ) (m δ) δ:=by
 unfold Gp qKP
 cases q δ with
 |none=>rfl
 |some v=>
  rw[aj]
  cases ao n δ with
  |none=>cases v<;>rfl
  |some x=>
   rw[aj]
   cases m δ with
   |none=>cases v<;>rfl
   |some k=>cases v<;>cases k<;>rfl
def Tt : qKP n (some (.int k)) (some (dcD qs)) (some (.int j)) δ=if qs.length<1000000 then some (.nx (δ.set n (sdq (dcD (Gn qs j k)))))else none:=by
 unfold qKP;dsimp only;rw[o8,aj]
def LR : dX [] k=none:=rfl
def pO : dX (q::qs) k=if q.1=k then some q.2 else dX qs k:=by
 unfold dX;rw[rA];by_cases h:q.1=k
 .simp[h]
 .simp[h]
theorem Ei:∀{qs:List (Int×Int)},dX qs k=some j->(k,j)∈qs
 |[],h=>by cases h
 |q::qs,h=>by
  rw[pO]at h;by_cases c:q.1=k
  .rw[if_pos c]at h
   cases h;rw[<-c];exact au
  .rw[if_neg c]at h;exact aA _ (Ei h)
theorem jP:∀{qs:List (Int×Int)},(qs.map (·.1)).Nodup->(k,j)∈qs->dX qs k=some j
 |[],_,h=>by cases h
 |q::qs,nd,h=>by
  rw[aD,bK]at nd;rw[pO];rcases aC.mp h with z|z
  .rw[<-z,if_pos rfl]
  .rw[if_neg (λe=>nd.1 (aY.mpr ⟨_,z,e.symm⟩))];exact jP nd.2 z
theorem pP : (dX qs k).isSome=true<->k∈qs.map (·.1):=by
 induction qs with
 |nil=>simp[dX]
 |cons q qs Z=>
  rw[pO,aD,aC];by_cases c:q.1=k
  .rw[if_pos c];simp[c]
  .rw[if_neg c,Z]
   constructor
   .exact .inr
   .rintro(z|z)
    .exact absurd z.symm c
    .exact z
structure Gst(rs:List Int)(qs:List (Int×Int)):Prop where
 nd:(qs.map (·.1)).Nodup
 rg:∀q∈qs,0<=q.1/\q.1<rs.length/\1<=q.2/\q.2<=rs.getD q.1.toNat 0
def Gst.len(h:Gst rs qs):qs.length<=rs.length:=by
 have h1:=h.nd;have h2:(qs.map λq=>q.1.toNat).Nodup:=by
  have:(qs.map λq=>q.1.toNat)=(qs.map (·.1)).map Int.toNat:=by rw[bD];rfl
  rw[this];refine List.Pairwise.map _ (λa b Z=>Z) (f7 (S:=λa b=>a.toNat≠b.toNat) ?_ h1);intro a b ha hb Z e;obtain⟨q,hq,rfl⟩:=aY.mp ha;obtain⟨r,Y,rfl⟩:=aY.mp hb;have:=h.rg q hq;have:=h.rg r Y;lia
 have:(qs.map λq=>q.1.toNat) ⊆ bC rs.length:=λx hx=>by
  obtain⟨q,hq,rfl⟩:=aY.mp hx;have:=h.rg q hq;exact cI.mpr (by lia)
 have:=List.Nodup.length_le_of_subset h2 this;simpa using this
def Gst.nil(rs:List Int):Gst rs []:=⟨List.nodup_nil,λ_ h=>by cases h⟩
def Ej(fs:List Int):rW (fs.map .int)=(bC fs.length).map λk:Nat=>ec [.int (k:Int),.int (fs.getD k 0)]:=by
 unfold rW;apply jk;intro i;rw[lR,aF,aF];by_cases h:i<fs.length
 .have e:fs.getD i 0=fs[i]:=by rw[cZ,aG h];rfl
  rw[jB h,aG h,dJ,dJ,dJ,e]
 .rw[bf (by simpa using h),bf (by simpa using h)];rfl
def frR(rs:List Int)(qs:List (Int×Int))(k:Int):List Nat:=(bC rs.length).filter λr=>decide (k<=rs.getD r 0) && !(dX qs (r:Int)).isSome
def pQ(O:rs.length<=1000):fH [.list (rs.map .int),dcD qs,.int k]=some (.list ((frR rs qs k).map λr:Nat=>du (r:Int))):=by
 have e:fD (gTn 2 (dF (gNl 0) (dF (gNl 1) (kO)))) (D3.uz (bA (dOp gGe (ao 1) (ao 2))) (bA (dOp jx (ao 0) (ao 3)))) (eN (ao 0)) (iw 2 [2,1] [sdq (.list (rs.map .int)),sdq (dcD qs),sdq (.int k)]) (rW (rs.map .int))=some ((frR rs qs k).map λr:Nat=>du (r:Int)):=by
  rw[Ej];refine wJ (λr:Nat=>ec [.int (r:Int),.int (rs.getD r 0)]) _ (λr:Nat=>du (r:Int)) (bC rs.length) λr Y=>?_
  refine⟨[sdq (.int (r:Int)),sdq (.int (rs.getD r 0)),sdq (.int k),sdq (dcD qs)],rfl,?_,λ_=>?_⟩
  .by_cases c:k<=rs.getD r 0
   .simp![dTr c,zU];rfl
   .simp![dFa c];rfl
  .simp![]
 have Z:(rW (rs.map .int)).length<=100000:=by rw[Ej,ak,eE];lia
 unfold fH;simp![Z,e]
def JF{a m:Int}(ha:0<=a)(hm:0<=m)(O:m<=100):∃rs:List Int,iZ [.list (ns.map .int),.int a,.int m]=some (.list (rs.map .int))/\(rs.length:Int)<=m/\∀r∈rs,1<=r/\r<=4:=by
 have p1:=jX ns a 1 (m:=4) (by decide);have S:=jX ns a 0 (m:=m+1) (by lia);obtain⟨ks,V,X,Y⟩:∃ks:List Int,pAt ([[1,2,3,4],[1,1,2,2],[2,3,3,4],[1,2,2,3]].map λl:List Int=>ge (l.map .int)) (jl ns a 1 4)=some (.list (ks.map .int))/\(∀r∈ks,1<=r/\r<=4)/\ks.length=4:=by
  obtain⟨ks,hm,e⟩:=LC (λl:List Int=>ge (l.map .int)) (l:=[[1,2,3,4],[1,1,2,2],[2,3,3,4],[1,2,2,3]]) p1.1 (by simpa using p1.2);refine⟨ks,e,?_⟩;simp only[aC,dD,or_false]at hm;rcases hm with rfl|rfl|rfl|rfl<;>exact⟨by simp,rfl⟩
 obtain⟨rs,h1,h2,h3⟩:=cEx (g:=(gNl 0)) (c:=(D3.rE)) (e:=(eN (dOp gIx (ao 1) (dCall cg (aq (ao 2) (aq (dOp lu (ao 3) (dC (.int 1))) (aq (ao 0) (aq (dC (.int 4)) (aX))))))))) (δ:=iw 1 [3,0,1] [sdq (.list (ns.map .int)),sdq (.int a),sdq (.int m),sdq (.list (ks.map .int))]) du (λr=>1<=r/\r<=4) (gM 0 (jl ns a 0 (m+1))) (by
  intro d hd;obtain⟨k,W,rfl⟩:=W6 hd;have p:=jX ns (a+1) (k:Int) (m:=4) (by decide);have U:=mq p.1 (by rw[Y];exact p.2);have hx:ks.getD (jl ns (a+1) (k:Int) 4).toNat 0∈ks:=by
   have Z:(jl ns (a+1) (k:Int) 4).toNat<ks.length:=by rw[Y];lia
   rw[cZ,aG Z];exact ju Z
  refine⟨[sdq (.int (k:Int)),sdq (.list (ks.map .int)),sdq (.list (ns.map .int)),sdq (.int a)],_,rfl,rfl,X _ hx,?_⟩;simp![pL (ns:=ns) (i:=a+1) (k:=(k:Int)) (m:=4) (by lia) (by lia) (by lia) (by decide),U])
 refine⟨rs,?_,?_,h2⟩
 .unfold iZ;have T:(gM 0 (jl ns a 0 (m+1))).length<=100000:=by rw[oE];lia
  have es:pAt [ge [.int 1,.int 2,.int 3,.int 4],.list [.int 1,.int 1,.int 2,.int 2],.list [.int 2,.int 3,.int 3,.int 4],.list [.int 1,.int 2,.int 2,.int 3]] (jl ns a 1 4)=some (.list (ks.map .int)):=V;simp![pL (ns:=ns) (i:=a) (k:=1) (m:=4) ha (by decide) (by decide) (by decide),pL (ns:=ns) (i:=a) (k:=0) (m:=m+1) ha (by decide) (by decide) (by lia),es,sz (show 0+1+1+1+1<=1000000 by decide),xM (show -(2^62)<=jl ns a 0 (m+1)by lia) (show jl ns a 0 (m+1)<2^62 by lia),T,h3]
 .rw[h1,oE];lia
def getD_mem{r:Nat}(h:r<rs.length):rs.getD r 0∈rs:=by
 rw[cZ,aG h];exact ju h
def Ek(f:α->Bool)(l:List α):FP [.list (l.map λa=>ei (f a))]=some (.bool (l.all f)):=by
 have:oK (l.map λa=>ei (f a))=some (l.map f):=by
  induction l with
  |nil=>rfl
  |cons a r Z=>rw[aD,oK,Z];rfl
 show(oK (l.map λa=>ei (f a))).map _=_;rw[this,dJ,List.all_map];rfl
def rB:pAt (l++[d]) (-1)=some d:=by
 unfold pAt pIx;rw[aV,jg,if_neg (by decide),if_pos (by lia)];show(l++[d])[(-1+((l.length+1:Nat):Int)).toNat]?=some d;rw[show(-1+((l.length+1:Nat):Int)).toNat=l.length by lia,bT (aN _),Nat.sub_self];rfl
def vY{i:Int}(O:0<=i)(h1:i<rs.length):pAt (rs.map du) i=some (.int (rs.getD i.toNat 0)):=mq O h1
def qMD(l:Option (List D))(z:Option D):Option D:=match l,z with
 |some [.list m],some z=>match j8 m with
  |some (i::r)=>some (.int (mnI i r))
  |some []=>if flat z=true then some z else none
  |none=>none
 |_,_=>none
theorem ac2 : KJ fa fz δ=qMD (fa δ) (fz δ):=by
 unfold KJ qMD
 cases fa δ with
 |none=>rfl
 |some l=>
  rw[aj]
  cases fz δ with
  |none=>
   match l with
   |[]=>rfl
   |[.list m]=>rfl
   |[.none]=>rfl
   |[.bool _]=>rfl
   |[.int _]=>rfl
   |[.str _]=>rfl
   |[.tuple _]=>rfl
   |[.dict _]=>rfl
   |a::b::r=>cases a<;>rfl
  |some z=>
   rw[aj]
   match l with
   |[]=>rfl
   |[.list m]=>
    dsimp only
    cases e:j8 m with
    |none=>rfl
    |some ns=>
     cases ns with
     |nil=>rfl
     |cons i r=>
      unfold lW;dsimp only;rw[e]
   |[.none]=>rfl
   |[.bool _]=>rfl
   |[.int _]=>rfl
   |[.str _]=>rfl
   |[.tuple _]=>rfl
   |[.dict _]=>rfl
   |a::b::r=>cases a<;>rfl
noncomputable def wsR(rs:List Int)(qs:List (Int×Int))(k:Int):List Int:=(qs.filter λq=>decide (k<=rs.getD q.1.toNat 0)).map (·.2)
def lwR(rs:List Int)(qs:List (Int×Int))(k:Int):Int:=match wsR rs qs k with
 |[]=>k
 |i::r=>mnI i r
def qKy(x:Option D):Option (List D):=match x with
 |some x=>(n8 x).map λqs=>qs.map λq=>.int q.1
 |none=>none
def v_keys : sG k δ=qKy (k δ):=by
 unfold sG qKy
 cases k δ<;>rfl
def vZ:qKy (some (dcD qs))=some (qs.map λq=>.int q.1):=by
 unfold qKy;dsimp only;rw[o8];rfl
theorem uU(G:Gst rs qs)(O:rs.length<=1000):eG [.list (rs.map .int),dcD qs,.int k]=some (.int (lwR rs qs k)):=by
 have e:fD (gNl 0) (bA (dOp gGe (dOp gIx (ao 3) (ao 0)) (ao 2))) (dOp o9 (ao 1) (ao 0)) (iw 1 [1,2,0] [sdq (.list (rs.map .int)),sdq (dcD qs),sdq (.int k)]) (qs.map λq=>du q.1)=some ((wsR rs qs k).map du):=by
  rw[wJ (λq:Int×Int=>du q.1) (λq=>decide (k<=rs.getD q.1.toNat 0)) (λq=>du q.2) qs λq hq=>?_]
  .unfold wsR;rw[bD];rfl
  .obtain⟨Z,g1,g2,g3⟩:=G.rg q hq;have Y:=vY (rs:=rs) Z g1;have W:=jP G.nd hq;refine⟨[sdq (.int q.1),sdq (dcD qs),sdq (.int k),sdq (.list (rs.map .int))],rfl,?_,λ_=>?_⟩
   .simp![Y]
   .simp![JD,W,dJ]
 have X:(qs.map λq=>du q.1).length<=100000:=by rw[ak];have:=G.len;lia
 unfold eG;simp![ac2,v_keys,vZ,X,e];unfold lwR qMD;dsimp only;rw[lF]
 cases wsR rs qs k with
 |nil=>rfl
 |cons i r=>rfl
def JG : j∈wsR rs qs k<->∃i,(i,j)∈qs/\k<=rs.getD i.toNat 0:=by
 unfold wsR;rw[aY]
 constructor
 .rintro⟨q,hq,rfl⟩;obtain⟨h1,h2⟩:=cQ.mp hq;exact⟨q.1,h1,of_decide_eq_true h2⟩
 .rintro⟨i,h1,h2⟩;exact⟨(i,j),cQ.mpr ⟨h1,dTr h2⟩,rfl⟩
theorem L_(h:lwR rs qs k<k):lwR rs qs k∈wsR rs qs k:=by
 unfold lwR at h ⊢
 cases e:wsR rs qs k with
 |nil=>rw[e]at h;simp at h
 |cons i r=>exact(lX r i).1
theorem XF(h:j∈wsR rs qs k):lwR rs qs k<=j:=by
 unfold lwR
 cases e:wsR rs qs k with
 |nil=>rw[e]at h;cases h
 |cons i r=>rw[e]at h;exact(lX r i).2 j h
def uV(G:Gst rs qs)(h:lwR rs qs k<k):1<=lwR rs qs k:=by
 obtain⟨i,h1,_⟩:=JG.mp (L_ h);exact(G.rg _ h1).2.2.1
inductive Ch(rs:List Int)(qs:List (Int×Int)):Int->List Int->Prop
 |stop {f:Int}:frR rs qs f≠[]->Ch rs qs f []
 |step {f:Int} {r:List Int}:frR rs qs f=[]->lwR rs qs f<f->Ch rs qs (lwR rs qs f) r->Ch rs qs f (lwR rs qs f::r)
inductive Dead(rs:List Int)(qs:List (Int×Int)):Int->Prop
 |here {f:Int}:frR rs qs f=[]->f<=lwR rs qs f->Dead rs qs f
 |step {f:Int}:frR rs qs f=[]->lwR rs qs f<f->Dead rs qs (lwR rs qs f)->Dead rs qs f
theorem XH(G:Gst rs qs):∀(n:Nat)(f:Int),f.toNat<=n->1<=f->(∃r,Ch rs qs f r)\/Dead rs qs f
 |0,f,h,h1=>by lia
 |n+1,f,h,h1=>by
  by_cases c:frR rs qs f=[]
  .by_cases Z:lwR rs qs f<f
   .have:=uV G Z;rcases XH G n (lwR rs qs f) (by lia) this with⟨r,Y⟩|hd
    .exact .inl ⟨_,.step c Z Y⟩
    .exact .inr (.step c Z hd)
   .exact .inr (.here c (by lia))
  .exact .inl ⟨[],.stop c⟩
def Tv{k:Int}{r:Nat}:r∈frR rs qs k<->r<rs.length/\k<=rs.getD r 0/\dX qs (r:Int)=none:=by
 unfold frR;rw[cQ,cI,aK,decide_eq_true_eq]
 cases dX qs (r:Int)<;>simp
def mC(l:List Nat):gEq (.list (l.map λr:Nat=>du (r:Int))) (.list [])=some (.bool (decide (l=[]))):=by
 have:=eq_empty (l.map λr:Nat=>(r:Int));rw[bD]at this;rw[show(l.map λr:Nat=>du (r:Int))=l.map (du∘λr:Nat=>(r:Int))from rfl,this]
 cases l<;>simp
theorem ap0(G:Gst rs qs)(Y:rs.length<=1000)(h:Ch rs qs k m):∀(pre:List Int)(y:Option U),(pre.length:Int)+k<=1000->1<=k ->
 ∃n O,dM (bA (dOp gEq (dCall fH (aq (ao 0) (aq (ao 1) (aq (dOp gIx (ao 3) (dUn iM (dC (.int 1)))) (aX))))) (jY (aX)))) (bZ (bY 4 (dCall eG (aq (ao 0) (aq (ao 1) (aq (dOp gIx (ao 3) (dUn iM (dC (.int 1)))) (aX)))))) (bZ (sIf (bA (dOp gGe (ao 4) (dOp gIx (ao 3) (dUn iM (dC (.int 1)))))) (fO (dC (.none))) (gJ)) (t_ 3 (ao 4)))) n [sdq (.list (rs.map .int)),sdq (dcD qs),sdq k0,sdq (.list ((pre++[k]).map .int)),y]=some (.nx [sdq (.list (rs.map .int)),sdq (dcD qs),sdq k0,sdq (.list ((pre++k::m).map .int)),O]):=by
 induction h with
 |stop c=>
  rename_i k;intro pre y W V;have Z:pAt (pre.map du++[.int k]) (-1)=some (.int k):=rB;refine⟨1,y,?_⟩;rw[dM,bF,aD,cO];simp![Z,pQ Y,mC,dFa c,sz (show 0<=1000000 by decide),aj,cN]
 |step c S R X=>
  rename_i k m;intro pre y W V;have Z:pAt (pre.map du++[.int k]) (-1)=some (.int k):=rB;have p1:=uV G S;obtain⟨n,O,e⟩:=X (pre++[k]) (sdq (.int (lwR rs qs k))) (by rw[aV];simp;lia) p1;refine⟨n+1,O,?_⟩;have T:¬k<=lwR rs qs k:=by lia
  have hlen:(pre.map du++[du k]).length<1000000:=by rw[aV,ak];simp;lia
  rw[dM,bF,aD,cO];simp![Z,pQ Y,mC,dTr c,uU G Y,dFa T,hlen,sz (show 0<=1000000 by decide),aj];rw[bF,bF,aD,aD,cO]at e;rw[show pre++k::lwR rs qs k::m=(pre++[k])++lwR rs qs k::m by simp];exact e
theorem W8(G:Gst rs qs)(O:rs.length<=1000)(h:Dead rs qs k):∀(pre:List Int)(y:Option U),(pre.length:Int)+k<=1000->1<=k ->
 ∃n,dM (bA (dOp gEq (dCall fH (aq (ao 0) (aq (ao 1) (aq (dOp gIx (ao 3) (dUn iM (dC (.int 1)))) (aX))))) (jY (aX)))) (bZ (bY 4 (dCall eG (aq (ao 0) (aq (ao 1) (aq (dOp gIx (ao 3) (dUn iM (dC (.int 1)))) (aX)))))) (bZ (sIf (bA (dOp gGe (ao 4) (dOp gIx (ao 3) (dUn iM (dC (.int 1)))))) (fO (dC (.none))) (gJ)) (t_ 3 (ao 4)))) n [sdq (.list (rs.map .int)),sdq (dcD qs),sdq k0,sdq (.list ((pre++[k]).map .int)),y]=some (.rt .none):=by
 induction h with
 |here c Y=>
  rename_i k;intro pre y W V;have Z:pAt (pre.map du++[.int k]) (-1)=some (.int k):=rB;refine⟨1,?_⟩;rw[dM,bF,aD,cO];simp![Z,pQ O,mC,dTr c,uU G O,dTr Y,sz (show 0<=1000000 by decide),aj]
 |step c Y S X=>
  rename_i k;intro pre y W V;have Z:pAt (pre.map du++[.int k]) (-1)=some (.int k):=rB;have p1:=uV G Y;obtain⟨n,e⟩:=X (pre++[k]) (sdq (.int (lwR rs qs k))) (by rw[aV];simp;lia) p1;refine⟨n+1,?_⟩;have T:¬k<=lwR rs qs k:=by lia
  have hlen:(pre.map du++[du k]).length<1000000:=by rw[aV,ak];simp;lia
  rw[dM,bF,aD,cO];simp![Z,pQ O,mC,dTr c,uU G O,dFa T,hlen,sz (show 0<=1000000 by decide),aj];rwa[bF,bF,aD,aD,cO]at e
def Tw(G:Gst rs qs)(O:rs.length<=1000)(Y:1<=k)(U:k<=900)(h:Ch rs qs k m):i_ [.list (rs.map .int),dcD qs,.int k]=some (.list ((k::m).map .int)):=by
 obtain⟨n,X,e⟩:=ap0 (k0:=.int k) G O h [] none (by simp;lia) Y;have Z:=tH e;simp only[jd,aD,cO]at Z;have fl:flats (du k::m.map du)=true:=nM (k::m);unfold i_;simp![sz (show 0+1<=1000000 by decide)];rw[Z];simp![fl]
def JH(G:Gst rs qs)(O:rs.length<=1000)(Y:1<=k)(U:k<=900)(h:Dead rs qs k):i_ [.list (rs.map .int),dcD qs,.int k]=some .none:=by
 obtain⟨n,e⟩:=W8 (k0:=.int k) G O h [] none (by simp;lia) Y;have Z:=tH e;simp only[jd,aD,cO]at Z;unfold i_;simp![sz (show 0+1<=1000000 by decide)];rw[Z];simp![]
def lvR(rs:List Int)(qs:List (Int×Int))(L:Int):Bool:=((bC rs.length).filter λr=>decide (L<=rs.getD r 0)).all λr=>decide (L<=(dX qs ((r:Nat):Int)).getD 0)
def ac3 : lvR rs qs k=true<->∀r:Nat,r<rs.length->k<=rs.getD r 0->k<=(dX qs (r:Int)).getD 0:=by
 unfold lvR;rw[gB]
 constructor
 .intro h r Z Y;exact of_decide_eq_true (h r (cQ.mpr ⟨cI.mpr Z,dTr Y⟩))
 .intro h r Z;obtain⟨h1,h2⟩:=cQ.mp Z;exact dTr (h r (cI.mp h1) (of_decide_eq_true h2))
def Ai(O:rs.length<=1000):jo [.list (rs.map .int),dcD qs,.int k]=some (.bool (lvR rs qs k)):=by
 have e:fD (gTn 2 (dF (gNl 0) (dF (gNl 1) (kO)))) (bA (dOp gGe (ao 1) (ao 2))) (dOp gGe (sE (ao 3) (ao 0) (dC (.int 0))) (ao 2)) (iw 2 [2,1] [sdq (.list (rs.map .int)),sdq (dcD qs),sdq (.int k)]) (rW (rs.map .int))=some (((bC rs.length).filter λr=>decide (k<=rs.getD r 0)).map λr:Nat=>ei (decide (k<=(dX qs ((r:Nat):Int)).getD 0))):=by
  rw[Ej];refine wJ (λr:Nat=>ec [.int (r:Int),.int (rs.getD r 0)]) _ (λr:Nat=>ei (decide (k<=(dX qs ((r:Nat):Int)).getD 0))) (bC rs.length) λr Y=>?_
  refine⟨[sdq (.int (r:Int)),sdq (.int (rs.getD r 0)),sdq (.int k),sdq (dcD qs)],rfl,?_,λ_=>?_⟩
  .simp![]
  .simp![LQ,BR]
 have Z:(rW (rs.map .int)).length<=100000:=by rw[Ej,ak,eE];lia
 unfold jo;simp![Z,e,Ek];rfl
theorem JK(G:Gst rs qs)(h:Dead rs qs k):1<=k->∃L,1<=L/\L<=k/\lvR rs qs L=true:=by
 induction h with
 |here c W=>
  rename_i k;intro Y;refine⟨k,Y,lQ _,ac3.mpr λr Z X=>?_⟩
  cases e:dX qs (r:Int)with
  |none=>
   have:r∈frR rs qs k:=Tv.mpr ⟨Z,X,e⟩;rw[c]at this
   cases this
  |some j=>
   have:j∈wsR rs qs k:=JG.mpr ⟨(r:Int),Ei e,by simpa using X⟩;have:=XF this;simp;lia
 |step c W Z V=>
  intro Y;obtain⟨L,h1,h2,h3⟩:=V (uV G W);exact⟨L,h1,by lia,h3⟩
def lvM(rs:List Int)(qs:List (Int×Int)):Nat->Option Int
 |0=>none
 |k+1=>if lvR rs qs ((k:Int)+1)=true then some ((k:Int)+1)else lvM rs qs k
theorem Hj:∀{k:Nat}{L:Int},lvM rs qs k=some L->1<=L/\L<=k/\lvR rs qs L=true/\∀M,L<M->M<=k->lvR rs qs M=false
 |0,L,h=>by cases h
 |k+1,L,h=>by
  rw[lvM]at h;by_cases c:lvR rs qs ((k:Int)+1)=true
  .rw[if_pos c]at h
   cases h;exact⟨by lia,by lia,c,λM h1 h2=>by lia⟩
  .rw[if_neg c]at h;obtain⟨h1,h2,h3,h4⟩:=Hj h;refine⟨h1,by lia,h3,λM g1 g2=>?_⟩;by_cases e:M=(k:Int)+1
   .rw[e];simpa using c
   .exact h4 M g1 (by lia)
theorem Hl:∀{k:Nat},lvM rs qs k=none->∀M:Int,1<=M->M<=(k:Int)->lvR rs qs M=false
 |0,_,M,h1,h2=>by lia
 |k+1,h,M,h1,h2=>by
  rw[lvM]at h;by_cases c:lvR rs qs ((k:Int)+1)=true
  .rw[if_pos c]at h;cases h
  .rw[if_neg c]at h;by_cases e:M=(k:Int)+1
   .rw[e];simpa using c
   .exact Hl h M h1 (by lia)
def JL:Option Int->D
 |none=>.none
 |some i=>.int i
def v5(k:Nat):gM 1 ((k:Int)+1)=(bC k).map λi:Nat=>du ((i:Int)+1):=by
 unfold gM;rw[show((k:Int)+1-1).toNat=k by lia];apply cT;intro i _;rw[Int.add_comm]
def zV{k:Nat}(O:rs.length<=1000)(hk:k<=1000):fY [.list (rs.map .int),dcD qs,.int (k:Int)]=some (JL (lvM rs qs k)):=by
 have V:∀o:Nat,o<rs.length->pAt (rs.map du) (o:Int)=some (.int (rs.getD o 0)):=λo U=>by rw[mq (by lia) (by lia)];simp
 obtain⟨δ',e,x,y,rfl⟩:=qM (g:=(gNl 4)) (b:=(bZ (bY 5 (dN (mL (aq (dCall lA (aq (ao 0) (aX))) (aX))) (gNl 0) (bA (dOp gGe (dOp gIx (ao 3) (ao 0)) (ao 2))) (sE (ao 1) (ao 0) (dC (.int 0))) 1 [1,4,0])) (sIf (bA (dCall FP (aq (dN (Ac (ao 5)) (gNl 0) (D3.rE) (dOp gGe (ao 0) (ao 1)) 1 [4]) (aX)))) (bY 3 (ao 4)) (gJ))))
  (λi δ=>∃x y,δ=[sdq (.list (rs.map .int)),sdq (dcD qs),sdq (.int (k:Int)),sdq (JL (lvM rs qs i)),x,y]) (gM 1 ((k:Int)+1))
  [sdq (.list (rs.map .int)),sdq (dcD qs),sdq (.int (k:Int)),some (.d .none),none,none] ⟨none,none,rfl⟩ (by
   rintro i d δ hd ⟨x,y,rfl⟩;rw[v5,aF]at hd;by_cases hi:i<k
   case neg=>rw[bf (by simpa using hi)]at hd;cases hd
   rw[jB hi]at hd
   cases hd;have Y:fD (gNl 0) (bA (dOp gGe (dOp gIx (ao 3) (ao 0)) (ao 2))) (sE (ao 1) (ao 0) (dC (.int 0))) (iw 1 [1,4,0] [sdq (.list (rs.map .int)),sdq (dcD qs),sdq (.int (k:Int)),sdq (JL (lvM rs qs i)),sdq (.int ((i:Int)+1)),y]) (gM 0 (rs.length:Int)) =
    some ((((bC rs.length).filter λr=>decide ((i:Int)+1<=rs.getD r 0)).map λr:Nat=>(dX qs ((r:Nat):Int)).getD 0).map du):=by
    rw[vW,dH,bD];refine wJ (λr:Nat=>du (r:Int)) (λr=>decide ((i:Int)+1<=rs.getD r 0)) _ (bC rs.length) λr X=>?_
    have W:=V r (cI.mp X);refine⟨[sdq (.int (r:Int)),sdq (dcD qs),sdq (.int ((i:Int)+1)),sdq (.list (rs.map .int))],rfl,?_,λ_=>?_⟩
    .simp![W]
    .simp![LQ,BR];rfl
   have Z:∀(ws:List Int)(z:D),fD (gNl 0) (D3.rE) (dOp gGe (ao 0) (ao 1)) (iw 1 [4] [sdq (.list (rs.map .int)),sdq (dcD qs),sdq (.int (k:Int)),sdq (JL (lvM rs qs i)),sdq (.int ((i:Int)+1)),sdq z]) (ws.map du) =
    some (ws.map λw=>ei (decide ((i:Int)+1<=w))):=λws z=>Oq du _ ws λw hw=>⟨[sdq (.int w),sdq (.int ((i:Int)+1))],rfl,rfl,by simp![]⟩
   have l1:(gM 0 (rs.length:Int)).length<=100000:=by rw[oE];lia
   have l2:((((bC rs.length).filter λr=>decide ((i:Int)+1<=rs.getD r 0)).map λr:Nat=>(dX qs ((r:Nat):Int)).getD 0).map du).length<=100000:=by
    rw[ak,ak];have:=gH (λr=>decide ((i:Int)+1<=rs.getD r 0)) (bC rs.length);rw[eE]at this;lia
   have al:((((bC rs.length).filter λr=>decide ((i:Int)+1<=rs.getD r 0)).map λr:Nat=>(dX qs ((r:Nat):Int)).getD 0)).all (λw=>decide ((i:Int)+1<=w))=lvR rs qs ((i:Int)+1):=by
    rw[List.all_map];rfl
   cases c:lvR rs qs ((i:Int)+1)with
   |true=>
    refine⟨_,[sdq (.list (rs.map .int)),sdq (dcD qs),sdq (.int (k:Int)),sdq (.int ((i:Int)+1)),sdq (.int ((i:Int)+1)),sdq (.list ((((bC rs.length).filter λr=>decide ((i:Int)+1<=rs.getD r 0)).map λr:Nat=>(dX qs ((r:Nat):Int)).getD 0).map du))],rfl,.inl ?_,⟨_,_,by rw[lvM,if_pos c];rfl⟩⟩;simp![lMp,xM (show -(2^62)<=(rs.length:Int)by lia) (show(rs.length:Int)<2^62 by lia),l1,Y];rw[Z];rw[ak,ak]at l2;simp![l2,Ek,al,c]
   |false=>
    refine⟨_,[sdq (.list (rs.map .int)),sdq (dcD qs),sdq (.int (k:Int)),sdq (JL (lvM rs qs i)),sdq (.int ((i:Int)+1)),sdq (.list ((((bC rs.length).filter λr=>decide ((i:Int)+1<=rs.getD r 0)).map λr:Nat=>(dX qs ((r:Nat):Int)).getD 0).map du))],rfl,.inl ?_,⟨_,_,by rw[lvM,if_neg (by rw[c];decide)]⟩⟩;simp![lMp,xM (show -(2^62)<=(rs.length:Int)by lia) (show(rs.length:Int)<2^62 by lia),l1,Y];rw[Z];rw[ak,ak]at l2;simp![l2,Ek,al,c])
 have ln:(gM 1 ((k:Int)+1)).length=k:=by rw[v5,ak,eE]
 rw[ln]at e;have fl:flat (JL (lvM rs qs k))=true:=by cases lvM rs qs k<;>rfl
 unfold fY;simp![aa9 (show -(2^62)<=(k:Int)+1 by lia) (show(k:Int)+1<2^62 by lia) (show -(2^62)<=(1:Int)by decide) (show(1:Int)<2^62 by decide)];rw[e];simp![fl]
def gmL(rs:List Int)(qs:List (Int×Int))(f w:Int):List Int:=(xK (qs.map (·.1))).filter λk=>decide (f<=rs.getD k.toNat 0)&&decide ((dX qs k).getD 0=w)
def gmR(rs:List Int)(qs:List (Int×Int))(f w:Int):Int:=(gmL rs qs f w).headD 0
theorem Tz(G:Gst rs qs)(h:m∈wsR rs qs k):∃r,gmL rs qs k m=gmR rs qs k m::r/\(gmR rs qs k m,m)∈qs/\k<=rs.getD (gmR rs qs k m).toNat 0:=by
 obtain⟨i,h1,h2⟩:=JG.mp h;have hi:i∈gmL rs qs k m:=by
  refine cQ.mpr ⟨(lB _).mem_iff.mpr (aY.mpr ⟨_,h1,rfl⟩),?_⟩;rw[dTr h2,jP G.nd h1];simp
 cases e:gmL rs qs k m with
 |nil=>rw[e]at hi;cases hi
 |cons a r=>
  have ea:gmR rs qs k m=a:=by unfold gmR;rw[e];rfl
  rw[ea];have ha:a∈gmL rs qs k m:=by rw[e];exact au
  obtain⟨Y,Z⟩:=cQ.mp ha;rw[aK]at Z;obtain⟨q,hq,rfl⟩:=aY.mp ((lB _).mem_iff.mp Y);have X:=jP G.nd (show(q.1,q.2)∈qs from hq);have hw:=of_decide_eq_true Z.2;rw[X]at hw;simp at hw;refine⟨r,rfl,?_,of_decide_eq_true Z.1⟩;rwa[<-hw]
def JM(G:Gst rs qs)(O:rs.length<=60)(h:t∈wsR rs qs m):eU [.list (rs.map .int),dcD qs,.int m,.int t]=some (.int (gmR rs qs m t)):=by
 obtain⟨r,Z,_,_⟩:=Tz G h;have hq:qs.length<64:=by have:=G.len;lia
 have e:fD (gNl 0) (D3.uz (bA (dOp gGe (dOp gIx (ao 3) (ao 0)) (ao 1))) (bA (dOp gEq (dOp o9 (ao 4) (ao 0)) (ao 2)))) (eN (ao 0)) (iw 1 [2,3,0,1] [sdq (.list (rs.map .int)),sdq (dcD qs),sdq (.int m),sdq (.int t)]) ((xK (qs.map (·.1))).map du)=some ((gmL rs qs m t).map du):=by
  refine wJ du _ du (xK (qs.map (·.1))) λk Y=>?_
  obtain⟨q,hq,rfl⟩:=aY.mp ((lB _).mem_iff.mp Y);obtain⟨X,g1,_,_⟩:=G.rg q hq;have Z:=vY (rs:=rs) X g1;have V:=jP G.nd (show(q.1,q.2)∈qs from hq);refine⟨[sdq (.int q.1),sdq (.int m),sdq (.int t),sdq (.list (rs.map .int)),sdq (dcD qs)],rfl,?_,λ_=>?_⟩
  .by_cases c:m<=rs.getD q.1.toNat 0
   .simp![Z,dTr c,JD,V,dJ];simp
   .simp![Z,dFa c];simp
  .simp![]
 have W:((xK (qs.map (·.1))).map du).length<=100000:=by rw[ak,(lB _).length_eq,ak];lia
 rw[Z,aD]at e;unfold eU;simp![W7 hq,W,e]
def mpD(p:Int×Int):D:=.tuple [.int p.1,.int p.2]
def mvF(rs:List Int)(qs:List (Int×Int))(ps:List (Int×Int))(g:Int):List (Int×Int)×Int:=ps.foldl (λs p=>(s.1++[(gmR rs qs p.1 p.2,s.2)],gmR rs qs p.1 p.2)) ([],g)
def Ho : mvF rs qs (k++[q]) m=((mvF rs qs k m).1++[(gmR rs qs q.1 q.2,(mvF rs qs k m).2)],gmR rs qs q.1 q.2):=by
 unfold mvF;rw[List.foldl_append];rfl
theorem Ma:∀(n:Nat)(ps:List (Int×Int)),ps.length=n->(mvF rs qs ps k).1.length=n
 |0,ps,h=>by rw[List.length_eq_zero_iff.mp h];rfl
 |n+1,ps,h=>by
  have Z:ps≠[]:=λz=>by rw[z]at h;cases h
  rw[<-List.dropLast_concat_getLast Z,Ho];simp only[aV,aO,fL];rw[Ma n ps.dropLast (by rw[List.length_dropLast,h];rfl)]
def qRv(x:Option D):Option (List D):=match x with
 |some (.list l)=>some l.reverse
 |_=>none
theorem ap1 : Va k δ=qRv (k δ):=by
 unfold Va qRv
 cases k δ with
 |none=>rfl
 |some d=>cases d<;>rfl
def W9:qRv (some (.list l))=some l.reverse:=rfl
theorem Hr:∀(ns ms:List Int),uH (ns.map du) (ms.map du)=(ns.zip ms).map mpD
 |[],ms=>by simp[uH]
 |_::_,[]=>by simp[uH]
 |a::ns,b::ms=>by
  rw[aD,aD,uH,Hr ns ms,jM,aD];rfl
def ac4{ms:List Int}(h:ns.length<=1000):Gq (.list (ns.map .int)) (.list (ms.map .int))=some (.list ((ns.zip ms).map mpD)):=by
 unfold Gq;dsimp only;rw[lF,lF,aj,aj,if_pos h,Hr]
theorem TF(h:Ch rs qs k m):∀p∈(k::m).zip m,frR rs qs p.1=[]/\p.2=lwR rs qs p.1/\p.2<p.1/\p.2∈wsR rs qs p.1:=by
 induction h with
 |stop c=>intro p Z;simp at Z
 |step c Y W X=>
  intro p Z;rw[jM]at Z;rcases aC.mp Z with rfl|z
  .exact⟨c,rfl,Y,L_ Y⟩
  .exact X p z
theorem W_(h:Ch rs qs k m):∃pre l,k::m=pre++[l]/\frR rs qs l≠[]:=by
 induction h with
 |stop c=>exact⟨[],_,rfl,c⟩
 |step c X Y Z=>
  obtain⟨pre,l,e,h⟩:=Z;exact⟨_::pre,l,by rw[e];rfl,h⟩
def JN(G:Gst rs qs)(hl:rs.length<=60)(hc:Ch rs qs m t)(he:m::t=pre++[q])(hn:(m::t).length<=1000)(hg:frR rs qs q=O::B):
 jR [.list (rs.map .int),dcD qs,.list ((m::t).map .int)]=some (.tuple [.list ((mvF rs qs ((m::t).zip t).reverse (O:Int)).1.map mpD),.int (mvF rs qs ((m::t).zip t).reverse (O:Int)).2]):=by
 generalize Z:((m::t).zip t).reverse=ps;have U:=TF hc;have pl:ps.length<=1000:=by rw[<-Z,jC,List.length_zip];simp only[aO]at hn ⊢;lia
 have T:∀p∈ps,p.2∈wsR rs qs p.1:=λp h=>(U p (by rw[<-Z]at h;exact List.mem_reverse.mp h)).2.2.2
 obtain⟨δ',e,x,y,z,rfl⟩:=qM (g:=(gTn 2 (dF (gNl 5) (dF (gNl 6) (kO))))) (b:=(bZ (bY 7 (dCall eU (aq (ao 0) (aq (ao 1) (aq (ao 5) (aq (ao 6) (aX))))))) (bZ (t_ 4 (dTup (aq (ao 7) (aq (ao 3) (aX))))) (bY 3 (ao 7)))))
  (λi δ=>∃x y z,δ=[sdq (.list (rs.map .int)),sdq (dcD qs),sdq (.list ((m::t).map .int)),sdq (.int (mvF rs qs (ps.take i) (O:Int)).2),sdq (.list ((mvF rs qs (ps.take i) (O:Int)).1.map mpD)),x,y,z]) (ps.map mpD)
  [sdq (.list (rs.map .int)),sdq (dcD qs),sdq (.list ((m::t).map .int)),sdq (.int (O:Int)),sdq (.list []),none,none,none] ⟨none,none,none,rfl⟩ (by
   rintro i d δ hd ⟨x,y,z,rfl⟩;rw[aF]at hd
   cases hi:ps[i]? with
   |none=>rw[hi]at hd;cases hd
   |some p=>
    rw[hi]at hd
    cases hd;have es:ps.take (i+1)=ps.take i++[p]:=by rw[nR,hi];rfl
    have B:=JM G hl (T p (cY hi));have hlen:((mvF rs qs (ps.take i) (O:Int)).1.map mpD).length<1000000:=by
     rw[ak,Ma _ _ rfl,iD];lia
    refine⟨_,[sdq (.list (rs.map .int)),sdq (dcD qs),sdq (.list ((m::t).map .int)),sdq (.int (gmR rs qs p.1 p.2)),sdq (.list ((mvF rs qs (ps.take i) (O:Int)).1.map mpD++[mpD (gmR rs qs p.1 p.2,(mvF rs qs (ps.take i) (O:Int)).2)])),sdq (.int p.1),sdq (.int p.2),sdq (.int (gmR rs qs p.1 p.2))],rfl,.inl ?_,⟨_,_,_,by rw[es,Ho,bF];rfl⟩⟩;simp![B,hlen,sz (show 0+1+1<=1000000 by decide)];rfl)
 rw[ak,oU]at e;have X:pAt ((m::t).map du) (-1)=some (.int q):=by rw[he,bF,aD,cO];exact rB
 have V:cuD ((m::t).map du) (some 1) none=t.map du:=by rw[ao9 (by decide)];simp
 have Y:=ac4 (ns:=m::t) (ms:=t) hn;have S:(((m::t).zip t).map mpD).reverse=ps.map mpD:=by rw[<-Z,List.map_reverse]
 have W:=pQ (rs:=rs) (qs:=qs) (k:=q) (by lia);rw[hg,aD]at W;have fl:flats ((mvF rs qs ps (O:Int)).1.map mpD)=true:=pN _ (λ_=>rfl) _;generalize (m::t).map du=R at e X V Y ⊢;unfold jR;simp![X,W,sz (show 0<=1000000 by decide),ap1,V,Y,W9,S];rw[e];simp![fl,sz (show 0+1+1<=1000000 by decide)]
theorem TJ:∀l:List (Int×Int),nls (l.map mpD)=0
 |[]=>rfl
 |a::r=>by rw[aD,nls,TJ r];rfl
def Hs(G:Gst rs qs)(hl:rs.length<=60)(hf:1<=k)(U:k<=900)(Y:Ch rs qs k t)(he:k::t=pre++[q])(hn:(k::t).length<=1000)(hg:frR rs qs q=O::z):
 fP [.list (rs.map .int),dcD qs,.int k]=some (.tuple [.str "in", .list ((mvF rs qs ((k::t).zip t).reverse (O:Int)).1.map mpD),.int (mvF rs qs ((k::t).zip t).reverse (O:Int)).2,.list ((k::t).map .int)]):=by
 have X:=Tw G (by lia) hf U Y;have Z:=JN G hl Y he hn hg;have fl:flats ((k::t).map du)=true:=nM _;generalize (k::t).map du=W at X Z fl ⊢;generalize mvF rs qs ((k::t).zip t).reverse (O:Int)=m at Z ⊢;have n1:decide (nl (.tuple [.list (m.1.map mpD),.int m.2])<=1)=true:=dTr (by rw[nl,nls,nl,TJ,nls,nls];show 0+1+(0+0)<=1;decide);unfold fP;simp![X,fl,Z,n1,at1,sz (show 0+1+1+1+1<=1000000 by decide)]
def TQ : Fz [.list (du k::m.map du)]=some (.int (mxI k m)):=by
 have:j8 (du k::m.map du)=some (k::m):=lF (k::m);unfold Fz;dsimp only;rw[this]
theorem Aj{k:Nat}{L:Int}(G:Gst rs qs)(O:rs.length<=1000)(hk:1<=k)(U:k<=900)(hd:Dead rs qs (k:Int))(hL:lvM rs qs k=some L):
 fP [.list (rs.map .int),dcD qs,.int (k:Int)]=some (.tuple [.str "full", .int L]):=by
 have W:=JH G O (by lia:(1:Int)<=k) (by lia) hd;obtain⟨h1,h2,h3,h4⟩:=Hj hL;have Z:fD (gNl 0) (bA (dCall jo (aq (ao 1) (aq (ao 2) (aq (ao 0) (aX)))))) (eN (ao 0)) (iw 1 [0,1] [sdq (.list (rs.map .int)),sdq (dcD qs),sdq (.int (k:Int)),some (.d .none),none]) (gM 1 ((k:Int)+1))=some ((((bC k).filter λi=>lvR rs qs ((i:Nat)+1)).map λi:Nat=>(i:Int)+1).map du):=by
  rw[v5,bD];refine wJ (λi:Nat=>du ((i:Int)+1)) (λi=>lvR rs qs ((i:Nat)+1)) _ (bC k) λi hi=>?_
  refine⟨[sdq (.int ((i:Int)+1)),sdq (.list (rs.map .int)),sdq (dcD qs)],rfl,?_,λ_=>?_⟩
  .simp![Ai O]
  .simp![];rfl
 have X:(gM 1 ((k:Int)+1)).length<=100000:=by rw[v5,ak,eE];lia
 have mem:∀x,x∈((bC k).filter λi=>lvR rs qs ((i:Nat)+1)).map (λi:Nat=>(i:Int)+1)<->1<=x/\x<=k/\lvR rs qs x=true:=λx=>by
  rw[aY]
  constructor
  .rintro⟨i,hi,rfl⟩;obtain⟨g1,g2⟩:=cQ.mp hi;have:=cI.mp g1;exact⟨by lia,by lia,g2⟩
  .rintro⟨g1,g2,g3⟩;refine⟨(x-1).toNat,cQ.mpr ⟨cI.mpr (by lia),?_⟩,by lia⟩;rwa[show(((x-1).toNat:Nat):Int)+1=x by lia]
 cases e:((bC k).filter λi=>lvR rs qs ((i:Nat)+1)).map (λi:Nat=>(i:Int)+1)with
 |nil=>
  have:=(mem L).mpr ⟨h1,h2,h3⟩;rw[e]at this
  cases this
 |cons i r=>
  rw[e]at Z mem;have sp:=yM r i;obtain⟨g1,g2,g3⟩:=(mem _).mp sp.1;have Y:=sp.2 L ((mem L).mpr ⟨h1,h2,h3⟩);have eq:mxI i r=L:=by
   by_cases c:L<mxI i r
   .rw[h4 _ c g2]at g3;cases g3
   .lia
  unfold fP;simp![W,aa9 (show -(2^62)<=(k:Int)+1 by lia) (show(k:Int)+1<2^62 by lia) (show -(2^62)<=(1:Int)by decide) (show(1:Int)<2^62 by decide),X,Z,TQ,eq,sz (show 0+1+1<=1000000 by decide)]
def mvs(rs:List Int)(qs:List (Int×Int)):List (Int×Int)->Int->List (Int×Int)
 |[],_=>[]
 |p::ps,g=>(gmR rs qs p.1 p.2,g)::mvs rs qs ps (gmR rs qs p.1 p.2)
def gl(rs:List Int)(qs:List (Int×Int)):List (Int×Int)->Int->Int
 |[],g=>g
 |p::ps,_=>gl rs qs ps (gmR rs qs p.1 p.2)
def ac5:∀(ps:List (Int×Int))(g:Int),mvF rs qs ps g=(mvs rs qs ps g,gl rs qs ps g):=by
 have Z:∀(ps:List (Int×Int))(acc:List (Int×Int))(g:Int),ps.foldl (λ(s:List (Int×Int)×Int) p=>(s.1++[(gmR rs qs p.1 p.2,s.2)],gmR rs qs p.1 p.2)) (acc,g)=(acc++mvs rs qs ps g,gl rs qs ps g):=by
  intro ps
  induction ps with
  |nil=>intro acc g;simp[mvs,gl]
  |cons p ps Y=>
   intro acc g;rw[List.foldl_cons,Y];simp[mvs,gl]
 intro ps g;unfold mvF;rw[Z];rfl
theorem Mf:∀(ps:List (Int×Int))(g:Int),(mvs rs qs ps g).length=ps.length
 |[],_=>rfl
 |p::ps,g=>by rw[mvs,aO,Mf,aO]
inductive LkR:List (Int×Int)->Int->Int->Prop
 |nil (b:Int):LkR [] b b
 |cons {p:Int×Int} {ps:List (Int×Int)} {b e:Int}:p.2<=b->LkR ps p.1 e->LkR (p::ps) b e
theorem LkR.snoc(h:LkR k m t)(hq:q.2<=t):LkR (k++[q]) m q.1:=by
 induction h with
 |nil m=>exact .cons hq (.nil _)
 |cons h1 h2 Z=>exact .cons h1 (Z hq)
theorem ap2(h:Ch rs qs k m):∀pre l b,k::m=pre++[l]->l<=b->∃e,LkR ((k::m).zip m).reverse b e/\k<=e:=by
 induction h with
 |stop c=>
  rename_i k;intro pre l b e hb
  cases pre with
  |nil=>
   cases e;exact⟨b,.nil b,hb⟩
  |cons a pre=>simp at e
 |step c U X Z=>
  rename_i k m;intro pre l b e hb
  cases pre with
  |nil=>simp at e
  |cons a pre=>
   rw[kZ]at e;injection e with W Y
   obtain⟨V,h1,h2⟩:=Z pre l b Y hb;rw[jM,ji];exact⟨k,h1.snoc h2,lQ _⟩
theorem ac6(h:Ch rs qs k m):(∀x∈m,x<k)/\m.Pairwise (λa b=>b<a):=by
 induction h with
 |stop c=>exact⟨λ_ h=>(by cases h),.nil⟩
 |step c Y X Z=>
  rename_i k m;refine⟨λx hx=>?_,eZ.mpr ⟨Z.1,Z.2⟩⟩;rcases aC.mp hx with rfl|z
  .exact Y
  .have:=Z.1 x z;lia
theorem Mg:∀(f:Int)(r:List Int),((f::r).zip r).map (·.2)=r
 |_,[]=>rfl
 |f,a::r=>by rw[jM,aD,Mg a r]
def ac7(h:Ch rs qs k m):(((k::m).zip m).reverse).Pairwise (λp q=>p.2<q.2):=by
 rw[List.pairwise_reverse];have:=(ac6 h).2;rwa[<-Mg k m,vd]at this
def XJ : pAt (l++[d,k]) (-2)=some d:=by
 unfold pAt pIx;rw[aV,if_neg (by decide),if_pos (by simp only[aO,fL];lia)];show(l++[d,k])[(-2+((l.length+[d,k].length:Nat):Int)).toNat]?=some d;rw[show(-2+((l.length+[d,k].length:Nat):Int)).toNat=l.length by simp only[aO,fL];lia,bT (aN _),Nat.sub_self];rfl
def Mh(h:mnI k m<q):lW [.list ((k::m).map du++[.int q])]=some (.int (mnI k m)):=by
 have e:(k::m).map du++[du q]=(k::(m++[q])).map du:=by simp
 rw[e];unfold lW;dsimp only;rw[lF];dsimp only;have s1:=lX m k;have s2:=lX (m++[q]) k;have a1:mnI k (m++[q])<=mnI k m:=s2.2 _ (by
  rcases aC.mp s1.1 with z|z
  .rw[z];exact au
  .exact aA _ (bI _ z))
 have a2:mnI k m<=mnI k (m++[q]):=by
  rcases aC.mp s2.1 with z|z
  .rw[z];exact s1.2 _ au
  .rcases bO.mp z with z|z
   .exact s1.2 _ (aA _ z)
   .rw[bJ.mp z];lia
 rw[jc a1 a2]
def El{k f:Int}{pre:List Int}{y:Option U}(O:rs.length<=1000):fD (gNl 0) (D3.uz (bA (dOp gGe (dOp gIx (ao 2) (ao 0)) (dOp gIx (ao 3) (dUn iM (dC (.int 1)))))) (bA (dOp jx (ao 0) (ao 1)))) (eN (ao 0)) (iw 1 [1,0,3] [sdq (.list (rs.map .int)),sdq (dcD qs),sdq (.int k),sdq (.list (pre.map du++[.int f])),y]) (gM 0 (rs.length:Int))=some ((frR rs qs f).map λr:Nat=>du (r:Int)):=by
 have X:∀o:Nat,o<rs.length->pAt (rs.map du) (o:Int)=some (.int (rs.getD o 0)):=λo W=>by rw[mq (by lia) (by lia)];simp
 rw[vW,dH];refine wJ (λr:Nat=>du (r:Int)) _ (λr:Nat=>du (r:Int)) (bC rs.length) λr Y=>?_
 have Z:=X r (cI.mp Y);refine⟨[sdq (.int (r:Int)),sdq (dcD qs),sdq (.list (rs.map .int)),sdq (.list (pre.map du++[.int f]))],rfl,?_,λ_=>?_⟩
 .by_cases c:f<=rs.getD r 0
  .simp![Z,rB,dTr c,zU];simp
  .simp![Z,rB,dFa c];simp
 .simp![]
def XM{k f:Int}{pre:List Int}{y:Option U}(G:Gst rs qs):fD (gNl 0) (bA (dOp gGe (dOp gIx (ao 2) (ao 0)) (dOp gIx (ao 3) (dUn iM (dC (.int 1)))))) (dOp o9 (ao 1) (ao 0)) (iw 1 [1,0,3] [sdq (.list (rs.map .int)),sdq (dcD qs),sdq (.int k),sdq (.list (pre.map du++[.int f])),y]) (qs.map λq=>du q.1)=some ((wsR rs qs f).map du):=by
 rw[wJ (λq:Int×Int=>du q.1) (λq=>decide (f<=rs.getD q.1.toNat 0)) (λq=>du q.2) qs λq hq=>?_]
 .unfold wsR;rw[bD];rfl
 .obtain⟨Z,g1,g2,g3⟩:=G.rg q hq;have Y:=vY (rs:=rs) Z g1;have X:=jP G.nd hq;refine⟨[sdq (.int q.1),sdq (dcD qs),sdq (.list (rs.map .int)),sdq (.list (pre.map du++[.int f]))],rfl,?_,λ_=>?_⟩
  .simp![Y,rB]
  .simp![JD,X,dJ]
theorem ap3{f:Int}(G:Gst rs qs)(hl:rs.length<=1000)(h:Ch rs qs f m):∀(pre:List Int)(y:Option U),(pre.length:Int)+f<=1000->1<=f ->
 ∃n O,dM (bA (dOp gEq (dN (mL (aq (dCall lA (aq (ao 0) (aX))) (aX))) (gNl 0) (D3.uz (bA (dOp gGe (dOp gIx (ao 2) (ao 0)) (dOp gIx (ao 3) (dUn iM (dC (.int 1)))))) (bA (dOp jx (ao 0) (ao 1)))) (eN (ao 0)) 1 [1,0,3]) (jY (aX)))) (bZ (bY 4 (dN (sG (ao 1)) (gNl 0) (bA (dOp gGe (dOp gIx (ao 2) (ao 0)) (dOp gIx (ao 3) (dUn iM (dC (.int 1)))))) (dOp o9 (ao 1) (ao 0)) 1 [1,0,3])) (bZ (t_ 3 (dCall lW (aq (dOp FJ (ao 4) (jY (aq (dOp gIx (ao 3) (dUn iM (dC (.int 1)))) (aX)))) (aX)))) (sIf (bA (dOp gEq (dOp gIx (ao 3) (dUn iM (dC (.int 1)))) (dOp gIx (ao 3) (dUn iM (dC (.int 2)))))) (fO (dC (.none))) (gJ)))) n [sdq (.list (rs.map .int)),sdq (dcD qs),sdq (.int k),sdq (.list (pre.map du++[.int f])),y]=some (.nx [sdq (.list (rs.map .int)),sdq (dcD qs),sdq (.int k),sdq (.list (pre.map du++(f::m).map du)),O]):=by
 have l1:(gM 0 (rs.length:Int)).length<=100000:=by rw[oE];lia
 have W:(qs.map λq=>du q.1).length<=100000:=by rw[ak];have:=G.len;lia
 induction h with
 |stop c=>
  rename_i f;intro pre y R Q;refine⟨1,y,?_⟩;rw[dM];simp![lMp,xM (show -(2^62)<=(rs.length:Int)by lia) (show(rs.length:Int)<2^62 by lia),l1,El hl,mC,dFa c,sz (show 0<=1000000 by decide),aj,cN]
 |step c V N S=>
  rename_i f m;intro pre y R Q;have p1:=uV G V;obtain⟨n,O,e⟩:=S (pre++[f]) (sdq (.list ((wsR rs qs f).map .int))) (by rw[aV];simp;lia) p1;refine⟨n+1,O,?_⟩;have hlen:(pre.map du++[du f]).length<1000000:=by rw[aV,ak];simp;lia
  obtain⟨i,w,hw⟩:∃i w,wsR rs qs f=i::w:=by
   have:=L_ V
   cases e:wsR rs qs f with
   |nil=>rw[e]at this;cases this
   |cons i w=>exact⟨i,w,rfl⟩
  have hm:lwR rs qs f=mnI i w:=by unfold lwR;rw[hw]
  have em:lW [.list ((wsR rs qs f).map du++[.int f])]=some (.int (lwR rs qs f)):=by rw[hw,hm];exact Mh (by lia)
  have Z:((wsR rs qs f).map du).length+(0+1)<=1000000:=by
   rw[ak];unfold wsR;rw[ak];have:=gH (λq:Int×Int=>decide (f<=rs.getD q.1.toNat 0)) qs;have:=G.len;lia
  have a1:pAt (pre.map du++[du f]++[du (lwR rs qs f)]) (-1)=some (.int (lwR rs qs f)):=rB;have a2:pAt (pre.map du++[du f]++[du (lwR rs qs f)]) (-2)=some (.int f):=by rw[d_];exact XJ
  have P:¬lwR rs qs f=f:=by lia
  have X:gEq (.int (lwR rs qs f)) (.int f)=some (.bool false):=by rw[Ly,dFa P]
  rw[bF,aD,cO]at e;generalize Y:pre.map du++[du f]=M at hlen a1 a2 e ⊢;have f1:=El (rs:=rs) (qs:=qs) (k:=k) (f:=f) (pre:=pre) (y:=y) hl;have f2:=XM (rs:=rs) (qs:=qs) (k:=k) (f:=f) (pre:=pre) (y:=y) G;have T:pAt M (-1)=some (.int f):=by rw[<-Y];exact rB
  rw[Y]at f1 f2;rw[dM];simp![lMp,xM (show -(2^62)<=(rs.length:Int)by lia) (show(rs.length:Int)<2^62 by lia),l1,f1,mC,dTr c,sz (show 0<=1000000 by decide),aj,v_keys,vZ];rw[ak]at W;simp![W,f2,T,sz (show 0+1<=1000000 by decide)];have Z:(wsR rs qs f).length<=999999:=by rw[ak]at Z;lia
  simp![Z,lMp,em,hlen,a1,a2,X,aj];rw[e,<-Y];simp
def Em(G:Gst rs qs)(O:rs.length<=1000)(Y:1<=m)(U:m<=900)(h:Ch rs qs m q):fZ [.list (rs.map .int),dcD qs,.int m]=some (.list ((m::q).map .int)):=by
 obtain⟨n,X,e⟩:=ap3 (k:=m) G O h [] none (by simp;lia) Y;have Z:=tH e;simp only[jd,cO]at Z;have fl:=nM (m::q);unfold fZ;generalize (m::q).map du=W at Z fl ⊢;simp![sz (show 0+1<=1000000 by decide)];rw[Z];simp![fl]
theorem TX{ws:List Int}{f:Int}(h:∀w∈ws,f<=w):lW [.list (ws.map du++[.int f])]=some (.int f):=by
 have e:ws.map du++[du f]=(ws++[f]).map du:=by simp
 rw[e]
 cases ws with
 |nil=>rfl
 |cons i r=>
  unfold lW;dsimp only;rw[lF];dsimp only[kZ];have s2:=lX (r++[f]) i;have a1:mnI i (r++[f])<=f:=s2.2 _ (by simp);have a2:f<=mnI i (r++[f]):=by
   rcases aC.mp s2.1 with z|z
   .rw[z];exact h _ au
   .rcases bO.mp z with z|z
    .exact h _ (aA _ z)
    .rw[bJ.mp z];exact lQ _
  rw[jc a1 a2]
def ac8{f:Int}(G:Gst rs qs)(O:rs.length<=1000):(wsR rs qs f).length<=1000:=by
 unfold wsR;rw[ak];have:=gH (λq:Int×Int=>decide (f<=rs.getD q.1.toNat 0)) qs;have:=G.len;lia
theorem Xa{k f:Int}(G:Gst rs qs)(O:rs.length<=1000)(h:Dead rs qs f):∀(pre:List Int)(y:Option U),(pre.length:Int)+f<=1000->1<=f ->
 ∃n,dM (bA (dOp gEq (dN (mL (aq (dCall lA (aq (ao 0) (aX))) (aX))) (gNl 0) (D3.uz (bA (dOp gGe (dOp gIx (ao 2) (ao 0)) (dOp gIx (ao 3) (dUn iM (dC (.int 1)))))) (bA (dOp jx (ao 0) (ao 1)))) (eN (ao 0)) 1 [1,0,3]) (jY (aX)))) (bZ (bY 4 (dN (sG (ao 1)) (gNl 0) (bA (dOp gGe (dOp gIx (ao 2) (ao 0)) (dOp gIx (ao 3) (dUn iM (dC (.int 1)))))) (dOp o9 (ao 1) (ao 0)) 1 [1,0,3])) (bZ (t_ 3 (dCall lW (aq (dOp FJ (ao 4) (jY (aq (dOp gIx (ao 3) (dUn iM (dC (.int 1)))) (aX)))) (aX)))) (sIf (bA (dOp gEq (dOp gIx (ao 3) (dUn iM (dC (.int 1)))) (dOp gIx (ao 3) (dUn iM (dC (.int 2)))))) (fO (dC (.none))) (gJ)))) n [sdq (.list (rs.map .int)),sdq (dcD qs),sdq (.int k),sdq (.list (pre.map du++[.int f])),y]=some (.rt .none):=by
 have l1:(gM 0 (rs.length:Int)).length<=100000:=by rw[oE];lia
 have P:qs.length<=100000:=by have:=G.len;lia
 have Y:∀(f:Int)(pre:List Int)(y:Option U)(m:Int),frR rs qs f=[]->(pre.length:Int)+f<=1000->1<=f->lW [.list ((wsR rs qs f).map du++[.int f])]=some (.int m)->∀n,
  dM (bA (dOp gEq (dN (mL (aq (dCall lA (aq (ao 0) (aX))) (aX))) (gNl 0) (D3.uz (bA (dOp gGe (dOp gIx (ao 2) (ao 0)) (dOp gIx (ao 3) (dUn iM (dC (.int 1)))))) (bA (dOp jx (ao 0) (ao 1)))) (eN (ao 0)) 1 [1,0,3]) (jY (aX)))) (bZ (bY 4 (dN (sG (ao 1)) (gNl 0) (bA (dOp gGe (dOp gIx (ao 2) (ao 0)) (dOp gIx (ao 3) (dUn iM (dC (.int 1)))))) (dOp o9 (ao 1) (ao 0)) 1 [1,0,3])) (bZ (t_ 3 (dCall lW (aq (dOp FJ (ao 4) (jY (aq (dOp gIx (ao 3) (dUn iM (dC (.int 1)))) (aX)))) (aX)))) (sIf (bA (dOp gEq (dOp gIx (ao 3) (dUn iM (dC (.int 1)))) (dOp gIx (ao 3) (dUn iM (dC (.int 2)))))) (fO (dC (.none))) (gJ)))) (n+1) [sdq (.list (rs.map .int)),sdq (dcD qs),sdq (.int k),sdq (.list (pre.map du++[.int f])),y] =
  if m=f then some (.rt .none)else dM (bA (dOp gEq (dN (mL (aq (dCall lA (aq (ao 0) (aX))) (aX))) (gNl 0) (D3.uz (bA (dOp gGe (dOp gIx (ao 2) (ao 0)) (dOp gIx (ao 3) (dUn iM (dC (.int 1)))))) (bA (dOp jx (ao 0) (ao 1)))) (eN (ao 0)) 1 [1,0,3]) (jY (aX)))) (bZ (bY 4 (dN (sG (ao 1)) (gNl 0) (bA (dOp gGe (dOp gIx (ao 2) (ao 0)) (dOp gIx (ao 3) (dUn iM (dC (.int 1)))))) (dOp o9 (ao 1) (ao 0)) 1 [1,0,3])) (bZ (t_ 3 (dCall lW (aq (dOp FJ (ao 4) (jY (aq (dOp gIx (ao 3) (dUn iM (dC (.int 1)))) (aX)))) (aX)))) (sIf (bA (dOp gEq (dOp gIx (ao 3) (dUn iM (dC (.int 1)))) (dOp gIx (ao 3) (dUn iM (dC (.int 2)))))) (fO (dC (.none))) (gJ)))) n [sdq (.list (rs.map .int)),sdq (dcD qs),sdq (.int k),sdq (.list (pre.map du++[.int f]++[.int m])),sdq (.list ((wsR rs qs f).map .int))]:=by
  intro f pre y m c X W em n;have hlen:(pre.map du++[du f]).length<1000000:=by rw[aV,ak];simp;lia
  have a1:pAt (pre.map du++[du f]++[du m]) (-1)=some (.int m):=rB;have a2:pAt (pre.map du++[du f]++[du m]) (-2)=some (.int f):=by rw[d_];exact XJ
  have R:(wsR rs qs f).length<=999999:=by have:=ac8 (f:=f) G O;lia
  generalize Q:pre.map du++[du f]=M at hlen a1 a2 ⊢;have f1:=El (rs:=rs) (qs:=qs) (k:=k) (f:=f) (pre:=pre) (y:=y) O;have f2:=XM (rs:=rs) (qs:=qs) (k:=k) (f:=f) (pre:=pre) (y:=y) G;have S:pAt M (-1)=some (.int f):=by rw[<-Q];exact rB
  rw[Q]at f1 f2;by_cases V:m=f
  .have Z:gEq (.int m) (.int f)=some (.bool true):=by rw[Ly,dTr V]
   rw[if_pos V,dM];simp![lMp,xM (show -(2^62)<=(rs.length:Int)by lia) (show(rs.length:Int)<2^62 by lia),l1,f1,mC,dTr c,sz (show 0<=1000000 by decide),aj,v_keys,vZ];simp![P,f2,S,sz (show 0+1<=1000000 by decide)];simp![R,lMp,em,hlen,a1,a2,Z,aj]
  .have Z:gEq (.int m) (.int f)=some (.bool false):=by rw[Ly,dFa V]
   rw[if_neg V,dM];simp![lMp,xM (show -(2^62)<=(rs.length:Int)by lia) (show(rs.length:Int)<2^62 by lia),l1,f1,mC,dTr c,sz (show 0<=1000000 by decide),aj,v_keys,vZ];simp![P,f2,S,sz (show 0+1<=1000000 by decide)];simp![R,lMp,em,hlen,a1,a2,Z,aj]
 induction h with
 |here c T=>
  rename_i f;intro pre y X W;refine⟨1,?_⟩;rw[Y f pre y f c X W (TX λw hw=>by have:=XF hw;lia) 0,if_pos rfl]
 |step c T L N=>
  rename_i f;intro pre y X W;have p1:=uV G T;obtain⟨n,e⟩:=N (pre++[f]) (sdq (.list ((wsR rs qs f).map .int))) (by rw[aV];simp;lia) p1;obtain⟨i,w,hw⟩:∃i w,wsR rs qs f=i::w:=by
   have:=L_ T
   cases e:wsR rs qs f with
   |nil=>rw[e]at this;cases this
   |cons i w=>exact⟨i,w,rfl⟩
  have hm:lwR rs qs f=mnI i w:=by unfold lwR;rw[hw]
  have em:lW [.list ((wsR rs qs f).map du++[.int f])]=some (.int (lwR rs qs f)):=by rw[hw,hm];exact Mh (by lia)
  refine⟨n+1,?_⟩;rw[Y f pre y _ c X W em n,if_neg (by lia)];rwa[bF,aD,cO]at e
def zW(G:Gst rs qs)(O:rs.length<=1000)(Y:1<=m)(U:m<=900)(h:Dead rs qs m):fZ [.list (rs.map .int),dcD qs,.int m]=some .none:=by
 obtain⟨n,e⟩:=Xa (k:=m) G O h [] none (by simp;lia) Y;have Z:=tH e;simp only[jd,cO]at Z;unfold fZ;simp![sz (show 0+1<=1000000 by decide)];rw[Z];simp![]
end Com
namespace K66
open D3 XK
abbrev aM:Addr:=261
abbrev aJ:List Str:=["rooms","places","wished","moves_done"]
abbrev jQ:List D->Option D:=Com.jQ
abbrev dI:List D->Option D:=Com.dI
abbrev fH:List D->Option D:=Com.fH
abbrev eG:List D->Option D:=Com.eG
abbrev i_:List D->Option D:=Com.i_
abbrev eU:List D->Option D:=Com.eU
abbrev jR:List D->Option D:=Com.jR
abbrev jo:List D->Option D:=Com.jo
abbrev fP:List D->Option D:=Com.fP
def lG:List D->Option D:=fnD 1 0 (bZ (sIf (D3.tOr (D3.lU (bA (dUn (gIs "str") (ao 0)))) (D3.lU (bA (mF gLe gLe (dC (.int 1)) (dCall K3 (aq (ao 0) (aX))) (dC (.int 8)))))) (fO (dC (.bool false))) (gJ))
    (fO (dCall FP (aq (dN (Zh (ao 0)) (gNl 0) (rE) (mF XI.Ag XI.Ag (dC (.str "a")) (ao 0) (dC (.str "z"))) 1 []) (aX)))))
abbrev iR:List D->Option D:=Com.iR
abbrev cg:List D->Option D:=Com.cg
abbrev cV:List D->Option D:=Com.cV
abbrev iZ:List D->Option D:=Com.iZ
abbrev fY:List D->Option D:=Com.fY
def kE:List D->Option D:=fnD 2 7 (bZ (bY 2 (dC (.str "qwertyuiopasdghjklzxcvbnm")))
    (bZ (bY 3 (dOp lu (dC (.int 1)) (dCall cg (aq (ao 0) (aq (ao 1) (aq (dC (.int 0)) (aq (dC (.int 8)) (aX))))))))
    (bZ (bY 4 (dCall cg (aq (ao 0) (aq (ao 1) (aq (dC (.int 1)) (aq (ao 3) (aX)))))))
    (bZ (bY 5 (jY (aX)))
    (bZ (rT (mL (aq (dC (.int 12)) (aX))) (gNl 6) (bZ (bY 7 (dC (.str "")))
    (bZ (rT (mL (aq (ao 3) (aX))) (gNl 8) (bY 7 (dOp zx (ao 7) (dOp GC (ao 2) (dOp rF (dOp lu (dCall cg (aq (ao 0) (aq (dOp lu (ao 1) (dC (.int 1))) (aq (ao 8) (aq (dC (.int 25)) (aX)))))) (dOp qg (ao 6) (dCall IV (aq (dOp gEq (ao 8) (ao 4)) (aX))))) (dC (.int 25)))))))
    (t_ 5 (ao 7)))))
    (fO (uF (ao 5))))))))
abbrev fZ:List D->Option D:=Com.fZ
def jz:List D->Option (List D):=XI.fnI 1 0 [("rooms", dN1 (uF (dUn vC (ao 1)))),("places", dC (.dict [])),("wished", dC (.dict [])),("moves_done", jY (aX))]
def gj:List D->Option D:=fnD 1 0 (fO (dUn XI.DN (XI.rG aM aJ 1 (ao 0))))
def gq:List D->Option D:=fnD 1 0 (fO (dUn XI.D_ (XI.rG aM aJ 3 (ao 0))))
def cD:List D->Option D:=fnD 1 0 (fO (dCall XS.yW (aq (dN (XI.RD (XI.rG aM aJ 1 (ao 0))) (gTn 2 (dF (gNl 0) (dF (gNl 1) (kO)))) (rE) (eN (dTup (aq (ao 1) (aq (dOp XI.zJ (XI.rG aM aJ 2 (ao 2)) (ao 0)) (aX))))) 2 [0]) (aX))))
def kI:List D->Option D:=fnD 1 1 (bZ (bY 1 (dUn XI.DP (XI.rG aM aJ 1 (ao 0))))
    (fO (dN (mL (aq (dCall lA (aq (XI.rG aM aJ 0 (ao 0)) (aX))) (aX))) (gNl 0) (bA (dOp CQ (ao 0) (ao 1))) (eN (ao 0)) 1 [1])))
def cH:List D->Option D:=fnD 2 0 (sIf (D3.tOr (D3.lU (bA (dCall lG (aq (ao 1) (aX))))) (bA (dOp XI.yj (ao 1) (XI.rG aM aJ 1 (ao 0))))) ((λ_=>none)) (gJ))
def gU:List D->Option D:=fnD 2 0 (bZ (yK (XI.iu cH aM aJ (ao 0) (aq (ao 1) (aX))))
    (fO (dOp XI.zJ (XI.rG aM aJ 1 (ao 0)) (ao 1))))
def gY:List D->Option D:=fnD 2 0 (bZ (yK (XI.iu cH aM aJ (ao 0) (aq (ao 1) (aX))))
    (fO (dOp XI.zJ (XI.rG aM aJ 2 (ao 0)) (ao 1))))
def iT:List D->Option D:=XI.fnW 2 0 [0] (bZ (yK (XI.iu cH aM aJ (ao 0) (aq (ao 1) (aX))))
    (bZ (XI.wF (XI.K7 aM aJ 2 0 (ao 1)))
    (XI.Jv [0] (XI.K7 aM aJ 1 0 (ao 1)))))
def fB:List D->Option D:=XI.fnW 3 1 [0] (bZ (bY 3 (dOp gIx (dN (XI.RD (XI.rG aM aJ 1 (ao 0))) (gTn 2 (dF (gNl 0) (dF (gNl 1) (kO)))) (bA (dOp gEq (ao 1) (ao 2))) (eN (ao 0)) 2 [1]) (dC (.int 0))))
    (bZ (XI.Bv aM aJ 1 0 (ao 3) (ao 2))
    (XI.K6 aM aJ 3 0 (dTup (aq (ao 3) (aq (ao 1) (aq (ao 2) (aX))))))))
def dw:List D->Option Or:=XI.RP 3 3 [0] (Ae (xIf (D3.lU (bA (dCall lG (aq (ao 1) (aX))))) ((λ_=>none)) (xOf gJ))
    (Ae (xIf (bA (dOp XI.V3 (ao 1) (XI.rG aM aJ 1 (ao 0)))) ((λ_=>none)) (xOf gJ))
    (Ae (xIf (D3.lU (bA (dCall dI (aq (ao 2) (aq (dC (.int 1)) (aq (dC (.int 4)) (aX))))))) ((λ_=>none)) (xOf gJ))
    (Ae (xOf (bY 3 (dNd (dCall fP (aq (XI.rG aM aJ 0 (ao 0)) (aq (XI.iu cD aM aJ (ao 0) (aX)) (aq (ao 2) (aX))))))))
    (Ae (xIf (bA (dOp gEq (dOp gIx (ao 3) (dC (.int 0))) (dC (.str "full")))) (XI.DQ [0] "Full" (dOp gIx (ao 3) (dC (.int 1)))) (xOf gJ))
    (Ae (xOf (rT (XI.Ls 3 1) (gTn 2 (dF (gNl 4) (dF (gNl 5) (kO)))) (XI.wF (XI.sV fB aM aJ 0 (aq (ao 4) (aq (ao 5) (aX))) [0]))))
    (Ae (xOf (XI.Bv aM aJ 1 0 (ao 1) (dOp gIx (ao 3) (dC (.int 2)))))
    (Ae (xOf (XI.Bv aM aJ 2 0 (ao 1) (ao 2)))
    (XI.Sx [0] 3 2 1)))))))))
def kJ:List D->Option D:=XI.fnW 4 5 [1,3] (bZ (sIf (D3.lU (bA (dUn (gIs "list") (ao 2)))) (XI.nG [1,3] (dC (.bool false))) (gJ))
    (bZ (rT (Ac (ao 2)) (gNl 4) (bZ (sIf (D3.tOr (D3.lU (bA (dUn (gIs "tuple") (ao 4)))) (D3.tOr (bA (dOp gNe (dCall lA (aq (ao 4) (aX))) (dC (.int 2)))) (D3.tOr (D3.lU (bA (dCall cV (aq (dOp gIx (ao 4) (dC (.int 0))) (aX))))) (D3.lU (bA (dCall cV (aq (dOp gIx (ao 4) (dC (.int 1))) (aX)))))))) (XI.nG [1,3] (dC (.bool false))) (gJ))
    (bZ (XI.goN (P0 (ao 4) (gTn 2 (dF (gNl 5) (dF (gNl 6) (kO))))))
    (bZ (bY 7 (dN (XI.uR (ao 1)) (gNl 0) (bA (dOp gEq (dOp gIx (dOp XI.oA (ao 2) (ao 0)) (dC (.int 0))) (ao 1))) (eN (ao 0)) 1 [5,1]))
    (bZ (bY 8 (dN (Ac (dUn XI.uQ (ao 1))) (gNl 0) (rE) (eN (dOp gIx (ao 0) (dC (.int 0)))) 1 []))
    (bZ (sIf (D3.tOr (bA (dOp gNe (dCall lA (aq (ao 7) (aX))) (dC (.int 1)))) (D3.tOr (bA (dOp gIn (ao 6) (ao 8))) (D3.lU (bA (mF gLe gLt (dC (.int 0)) (ao 6) (dCall lA (aq (ao 0) (aX)))))))) (XI.nG [1,3] (dC (.bool false))) (gJ))
    (bZ (sIf (bA (dOp gLt (dOp gIx (ao 0) (ao 6)) (dOp gIx (dOp XI.oA (ao 1) (dOp gIx (ao 7) (dC (.int 0)))) (dC (.int 1))))) (XI.nG [1,3] (dC (.bool false))) (gJ))
    (bZ (XI.goN (XI.zO 1 (dOp gIx (ao 7) (dC (.int 0))) (dTup (aq (ao 6) (aq (dOp gIx (dOp XI.oA (ao 1) (dOp gIx (ao 7) (dC (.int 0)))) (dC (.int 1))) (aX))))))
    (XI.goN (XI.Hg 3 (dTup (aq (dOp gIx (ao 7) (dC (.int 0))) (aq (ao 5) (aq (ao 6) (aX)))))))))))))))
    (XI.nG [1,3] (dC (.bool true)))))
def iU:Str->D->FS:=λc d=>if c="Full"then XI.Lj [0,2,3] (Cm (dUn Cp (ao 7)) (dOp gEq (dC d) (dCall fY (aq (ao 1) (aq (XI.iu cD aM aJ (ao 0) (aX)) (aq (ao 5) (aX)))))))else(λ_=>none)
def jr:List D->Option D:=XI.fnW 6 4 [0,2,3] (bZ (bY 6 (dN1 (dC (.none))))
    (bZ (bY 7 (dCall fZ (aq (ao 1) (aq (XI.iu cD aM aJ (ao 0) (aX)) (aq (ao 5) (aX))))))
    (bZ (XI.flS (XI.BJ 8 (XI.wI dw aM aJ 0 (aq (ao 4) (aq (ao 5) (aX))) [0] 6) ["Full"] iU))
    (bZ (sIf (D3.tOr (bA (dUn Cp (ao 7))) (D3.tOr (D3.lU (bA (dUn (gIs "tuple") (ao 6)))) (bA (dOp gNe (dCall lA (aq (ao 6) (aX))) (dC (.int 2)))))) (XI.nG [0,2,3] (dC (.bool false))) (gJ))
    (bZ (XI.GQ (XI.Zk (XI.Bu (XI.oR (XI.zF kJ (aq (ao 1) (aq (ao 2) (aq (XI.SJ 6 1) (aq (ao 3) (aX))))) [2,3]))) (XI.VR (bA (dOp gNe (dOp lu (dCall lA (aq (dOp gIx (ao 6) (dC (.int 1))) (aX))) (dC (.int 1))) (dCall lA (aq (ao 7) (aX))))))) (XI.nG [0,2,3] (dC (.bool false))) (gJ))
    (bZ (bY 9 (eN (dOp gIx (ao 6) (dC (.int 0)))))
    (bZ (sIf (D3.tOr (D3.lU (bA (dCall cV (aq (ao 9) (aX))))) (D3.tOr (D3.lU (bA (mF gLe gLt (dC (.int 0)) (ao 9) (dCall lA (aq (ao 1) (aX)))))) (bA (dOp gLt (dOp gIx (ao 1) (ao 9)) (ao 5))))) (XI.nG [0,2,3] (dC (.bool false))) (gJ))
    (bZ (sIf (bA (dOp gIn (ao 9) (dN (Ac (dUn XI.uQ (ao 2))) (gNl 0) (rE) (eN (dOp gIx (ao 0) (dC (.int 0)))) 1 []))) (XI.nG [0,2,3] (dC (.bool false))) (gJ))
    (bZ (XI.goN (XI.zO 2 (ao 4) (dTup (aq (ao 9) (aq (ao 5) (aX))))))
    (bZ (XI.goN (Ka 6 (dC (.int 1)) (dTup (aq (dC (.int 0)) (aq (dC (.int 0)) (aX))))))
    (XI.nG [0,2,3] (dC (.bool true)))))))))))))
def fJ:List D->Option D:=fnD 4 5 (bZ (sIf (D3.tOr (bA (dOp gNe (XI.iu gj aM aJ (ao 0) (aX)) (dUn XI.Ed (ao 2)))) (bA (dOp gNe (XI.iu gq aM aJ (ao 0) (aX)) (ao 3)))) (fO (dC (.bool false))) (gJ))
    (bZ (rT (XI.uR (ao 2)) (gNl 4) (sIf (bA (dOp gNe (dTup (aq (XI.iu gU aM aJ (ao 0) (aq (ao 4) (aX))) (aq (XI.iu gY aM aJ (ao 0) (aq (ao 4) (aX))) (aX)))) (dOp XI.oA (ao 2) (ao 4)))) (fO (dC (.bool false))) (gJ)))
    (bZ (bY 5 (dN1 (XI.iu cD aM aJ (ao 0) (aX))))
    (bZ (bY 6 (dC (.dict [])))
    (bZ (rT (Ac (dUn XI.uQ (ao 2))) (gNl 7) (Gp 6 (dOp gIx (ao 7) (dC (.int 0))) (dOp gIx (ao 7) (dC (.int 1)))))
    (bZ (bY 8 (uF (XI.iu kI aM aJ (ao 0) (aX))))
    (bZ (sIf (D3.tOr (bA (dOp XI.Sq (ao 5) (ao 6))) (bA (dOp gNe (ao 8) (dN (mL (aq (dCall lA (aq (ao 1) (aX))) (aX))) (gNl 0) (bA (dOp jx (ao 0) (ao 1))) (eN (ao 0)) 1 [6])))) (fO (dC (.bool false))) (gJ))
    (bZ (XI.ZJ 5)
    (bZ (t_ 8 (dC (.int 0)))
    (bZ (XI.qJ (XI.iu gj aM aJ (ao 0) (aX)) (dC (.str "x")))
    (bZ (XI.qJ (XI.iu gq aM aJ (ao 0) (aX)) (dTup (aq (dC (.str "x")) (aq (dC (.int 0)) (aq (dC (.int 0)) (aX))))))
    (fO (dC (.bool true))))))))))))))
def TY:List D->Option D:=fnD 1 8 (bZ (bY 1 (dCall iZ (aq (ao 0) (aq (dC (.int 0)) (aq (dC (.int 12)) (aX))))))
    (bZ (bY 2 (dUn vC (ao 1)))
    (bZ (bY 3 (XI.RM aM aJ jz (aq (ao 2) (aX))))
    (bZ (t_ 2 (dC (.int 4)))
    (bZ (bY 4 (dCall kE (aq (ao 0) (aq (dC (.int 2)) (aX)))))
    (bZ (bY 5 (dC (.dict [])))
    (bZ (bY 6 (jY (aX)))
    (bZ (rT (Fy (aq (dC (.int 4)) (aq (dCall Ke (aq (dCall lA (aq (ao 0) (aX))) (aq (dC (.int 32)) (aX)))) (aX)))) (gNl 7) (bZ (bY 8 (dOp gIx (ao 4) (dCall cg (aq (ao 0) (aq (ao 7) (aq (dC (.int 0)) (aq (dC (.int 12)) (aX))))))))
    (bZ (sIf (bA (dOp XI.R8 (ao 8) (ao 5))) (XI.GQ (XI.oR (XI.Hh gNe (XI.sV iT aM aJ 3 (aq (ao 8) (aX)) [3]) (XI.RW gIx (XI.Hf 5 (ao 8)) (dC (.int 0))))) (fO (dC (.bool false))) (gJ)) (XI.GQ (XI.Bu (XI.oR (XI.zF jr (aq (ao 3) (aq (ao 1) (aq (ao 5) (aq (ao 6) (aq (ao 8) (aq (dOp lu (dC (.int 1)) (dCall cg (aq (ao 0) (aq (ao 7) (aq (dC (.int 1)) (aq (dC (.int 4)) (aX))))))) (aX))))))) [3,5,6]))) (fO (dC (.bool false))) (gJ)))
    (sIf (D3.tOr (D3.lU (bA (dCall fJ (aq (ao 3) (aq (ao 1) (aq (ao 5) (aq (ao 6) (aX)))))))) (D3.lU (bA (dCall fJ (aq (ao 3) (aq (ao 1) (aq (ao 5) (aq (ao 6) (aX))))))))) (fO (dC (.bool false))) (gJ)))))
    (fO (dC (.bool true)))))))))))
open My Com XI
abbrev Gu:=Str×Int×Int
def SP(P:List Gu):List (Str×Int):=P.map λq=>(q.1,q.2.1)
def TP(P:List Gu):List (Str×Int):=P.map λq=>(q.1,q.2.2)
def QP(P:List Gu):List (Int×Int):=P.map λq=>(q.2.1,q.2.2)
def dS(S:List (Str×Int)):D:=.dict (ssP S)
def hD(rs:List Int)(S T:List (Str×Int))(M:List D):D:=.dict (tZ aM aJ [.list (rs.map .int),dS S,dS T,.list M])
section
variable{S T:List (Str×Int)}{M:List D}{f g fa':FE}{fa:FA}{δ:DS}{k:Nat}{F:List D->Option D}{v:Int}{d:D}{l:List Nat}
theorem sX:∀S:List (Str×Int),ssD (ssP S)=some S
 |[]=>rfl
 |q::S=>by
  show(ssD (ssP S)).map _=_;rw[sX S];rfl
def hC:isC aM aJ (hD rs S T M)=some [.list (rs.map .int),dS S,dS T,.list M]:=by
 unfold hD tZ isC;exact if_pos ⟨rfl,rfl⟩
def qFd(k:Nat)(x:Option D):Option D:=x.bind λd=>(isC aM aJ d).bind λds=>ds[k]?
def pR:rG aM aJ k f δ=qFd k (f δ):=rfl
def fd0:qFd 0 (some (hD rs S T M))=some (.list (rs.map .int)):=by unfold qFd;rw[aj,hC];rfl
def fd1:qFd 1 (some (hD rs S T M))=some (dS S):=by unfold qFd;rw[aj,hC];rfl
def fd2:qFd 2 (some (hD rs S T M))=some (dS T):=by unfold qFd;rw[aj,hC];rfl
def fd3:qFd 3 (some (hD rs S T M))=some (.list M):=by unfold qFd;rw[aj,hC];rfl
def qMe(F:List D->Option D)(x:Option D)(a:Option (List D)):Option D:=x.bind λd=>(isC aM aJ d).bind λ_=>a.bind λds=>F (d::ds)
def mJ:iu F aM aJ f fa δ=qMe F (f δ) (fa δ):=rfl
def xO:qMe F (some (hD rs S T M)) (some ds)=F (hD rs S T M::ds):=by unfold qMe;rw[aj,hC];rfl
def qFP(k i:Nat)(v y O:Option D)(δ:DS):Option Oc:=v.bind λd=>y.bind λy=>(isC aM aJ y).bind λds=>O.bind λO=>match ds[k]?,O,d with
 |some (.dict kvs),.str x,.int v=>(ssD kvs).bind λS=>if S.length<1000 then some (.nx (δ.set i (some (.d (.dict (tZ aM aJ (ds.set k (.dict (ssP (ou S x v))))))))))else none
 |_,_,_=>none
def T4:Bv aM aJ k i f g δ=qFP k i (g δ) (ao i δ) (f δ) δ:=rfl
def fp1(h:S.length<1000):qFP 1 i (some (.int v)) (some (hD rs S T M)) (some (.str x)) δ=some (.nx (δ.set i (sdq (hD rs (ou S x v) T M)))):=by
 unfold qFP;rw[aj,aj,hC,aj,aj];show(ssD (ssP S)).bind _=_;rw[sX,aj,if_pos h];rfl
def fp2(h:T.length<1000):qFP 2 i (some (.int v)) (some (hD rs S T M)) (some (.str x)) δ=some (.nx (δ.set i (sdq (hD rs S (ou T x v) M)))):=by
 unfold qFP;rw[aj,aj,hC,aj,aj];show(ssD (ssP T)).bind _=_;rw[sX,aj,if_pos h];rfl
def qFA(k i:Nat)(y d:Option D)(δ:DS):Option Oc:=y.bind λy=>(isC aM aJ y).bind λds=>d.bind λd=>match ds[k]? with
 |some (.list m)=>if flat d=true/\m.length<1000000 then some (.nx (δ.set i (some (.d (.dict (tZ aM aJ (ds.set k (.list (m++[d])))))))))else none
 |_=>none
def ac9:K6 aM aJ k i f δ=qFA k i (ao i δ) (f δ) δ:=rfl
def fa3(h:flat d=true)(h':M.length<1000000):qFA 3 i (some (hD rs S T M)) (some d) δ=some (.nx (δ.set i (sdq (hD rs S T (M++[d]))))):=by
 unfold qFA;rw[aj,hC,aj,aj];show(if flat d=true/\M.length<1000000 then _ else _)=_;rw[if_pos ⟨h,h'⟩];rfl
def qFo(k i:Nat)(y O:Option D)(δ:DS):Option (D×DS):=y.bind λy=>(isC aM aJ y).bind λds=>O.bind λO=>match ds[k]?,O with
 |some (.dict kvs),.str x=>(ssD kvs).bind λS=>(jZ S x).bind λv=>some (.int v,δ.set i (some (.d (.dict (tZ aM aJ (ds.set k (.dict (ssP (pI S x)))))))))
 |_,_=>none
def ad0:K7 aM aJ k i f δ=qFo k i (ao i δ) (f δ) δ:=rfl
def fo1(h:jZ S x=some v):qFo 1 i (some (hD rs S T M)) (some (.str x)) δ=some (.int v,δ.set i (sdq (hD rs (pI S x) T M))):=by
 unfold qFo;rw[aj,hC,aj,aj];show(ssD (ssP S)).bind _=_;rw[sX,aj,h];rfl
def fo2(h:jZ T x=some v):qFo 2 i (some (hD rs S T M)) (some (.str x)) δ=some (.int v,δ.set i (sdq (hD rs S (pI T x) M))):=by
 unfold qFo;rw[aj,hC,aj,aj];show(ssD (ssP T)).bind _=_;rw[sX,aj,h];rfl
def qEW(a:Option (D×DS)):Option Oc:=a.bind λp=>some (.nx p.2)
def Mi : wF fw δ=qEW (fw δ):=rfl
def ap4 : qEW (some m)=some (.nx m.2):=rfl
def qMW(F:List D->Option D)(x:Option D)(a:Option (List D))(sw:List Nat)(δ:DS):Option (D×DS):=x.bind λd=>(isC aM aJ d).bind λ_=>a.bind λds=>(F (d::ds)).bind λr=>N5 r sw δ
def Mj:sV F aM aJ i fa sw δ=qMW F (ao i δ) (fa δ) sw δ:=rfl
def ap5(h:F (hD rs S T M::ds)=some (.tuple [m,y]))(O:flat m=true):qMW F (some (hD rs S T M)) (some ds) [i] δ=some (m,δ.set i (sdq y)):=by
 unfold qMW;rw[aj,hC,aj,aj,h,aj];show(if flat m=true/\_ then _ else _)=_;rw[if_pos ⟨O,rfl⟩];rfl
def qPk(x:Option D)(r:Option (List D)):Option (List D):=x.bind λd=>r.bind λr=>some (d::r)
def zX:kW [] δ=some []:=rfl
def v7:kW (i::l) δ=qPk (ao i δ) (kW l δ):=rfl
def T5:qPk (some d) (some ds)=some (d::ds):=rfl
def qRW(d:Option D)(r:Option (List D)):Option Oc:=d.bind λd=>if flat d=true then r.bind λr=>some (.ex "" "" (.tuple (d::r)))else none
def T6:nG l f δ=qRW (f δ) (kW l δ):=rfl
def ap6 : qRW (some d) (some m)=if flat d=true then some (.ex "" "" (.tuple (d::m)))else none:=rfl
def Xb : Jv l fw δ=(fw δ).bind λp=>(kW l p.2).bind λr=>some (.ex "" "" (.tuple (p.1::r))):=rfl
def Ht : fnW m q l t ds=if ds.length=m then Rm l (t (ds.map (λd=>sdq d)++bR q none))else none:=rfl
def Ml : Rm l (some (.ex c m d))=some d:=rfl
def ap7:Rm l (some (.nx δ'))=(kW l δ').bind λr=>some (.tuple (.none::r)):=rfl
def T7 : qS (some (.ex c m d)) q=some (.ex c m d):=rfl
def ar8:yK f δ=(f δ).bind λ_=>some (.nx δ):=rfl
def XQ:V3 (.str x) (dS S)=some (.bool (jZ S x).isSome):=by
 show(ssD (ssP S)).bind _=_;rw[sX];rfl
def T8:yj (.str x) (dS S)=some (.bool (!(jZ S x).isSome)):=by
 show(ssD (ssP S)).bind _=_;rw[sX];rfl
def JQ:zJ (dS S) (.str x)=(jZ S x).map .int:=by
 show(ssD (ssP S)).bind _=_;rw[sX,aj]
 cases jZ S x<;>rfl
def ad1:DN (dS S)=some (.list (S.map λq=>.str q.1)):=by
 show(ssD (ssP S)).bind _=_;rw[sX];rfl
def ad2:DP (dS S)=some (.list ((S.map (·.2)).map .int)):=by
 unfold DP Lf dS;dsimp only;rw[sX];rfl
def qIt(x:Option D):Option (List D):=x.bind λx=>match x with
 |.dict kvs=>(ssD kvs).bind λS=>some (itS S)
 |_=>none
def XR:RD f δ=qIt (f δ):=rfl
def ap8:qIt (some (dS S))=some (itS S):=by
 show(ssD (ssP S)).bind _=_;rw[sX];rfl
end
section
variable{S:List (Str×Int)}{y:Str}{v:Int}
def Hu : jZ (q::S) x=if q.1=x then some q.2 else jZ S x:=by
 unfold jZ;rw[rA];by_cases c:q.1=x<;>simp[c]
theorem uW:∀{S:List (Str×Int)},(S.map (·.1)).Nodup->(x,v)∈S->jZ S x=some v
 |[],_,h=>by cases h
 |q::S,hn,h=>by
  rw[Hu];obtain⟨n1,n2⟩:=bK.mp hn;rcases aC.mp h with z|z
  .rw[<-z,if_pos rfl]
  .rw[if_neg λe=>n1 (by show q.1∈_;rw[e];exact aY.mpr ⟨_,z,rfl⟩),uW n2 z]
theorem Hv:∀{S:List (Str×Int)},jZ S x=none<->x∉S.map (·.1)
 |[]=>by simp[jZ]
 |q::S=>by
  rw[Hu,aD,aC,not_or];by_cases c:q.1=x
  .rw[if_pos c];exact⟨λh=>(by cases h),λh=>absurd c.symm h.1⟩
  .rw[if_neg c,Hv (S:=S)];exact⟨λh=>⟨λe=>c e.symm,h⟩,λh=>h.2⟩
def Mp(h:x∉S.map (·.1)):ou S x v=S++[(x,v)]:=by
 unfold ou;rw[if_neg];intro z;obtain⟨q,h1,h2⟩:=iG.mp z;exact h (aY.mpr ⟨q,h1,of_decide_eq_true h2⟩)
def Xc(h:x∈S.map (·.1)):ou S x v=S.map λq=>if q.1=x then(q.1,v)else q:=by
 unfold ou;rw[if_pos];obtain⟨q,h1,h2⟩:=aY.mp h;exact iG.mpr ⟨q,h1,dTr h2⟩
end
def wK(P:List Gu):(SP P).map (·.1)=P.map (·.1):=by unfold SP;rw[bD];rfl
def En(P:List Gu):(TP P).map (·.1)=P.map (·.1):=by unfold TP;rw[bD];rfl
def nO(P:List Gu):(QP P).map (·.1)=P.map (·.2.1):=by unfold QP;rw[bD];rfl
def JR{S T:List (Str×Int)}: gj [hD rs S T M]=some (.list (S.map λq=>.str q.1)):=by
 unfold gj;simp![pR,fd1,ad1]
def JT{S T:List (Str×Int)}(h:flats M=true):gq [hD rs S T M]=some (.list M):=by
 have e:D_ (.list M)=some (.list M):=if_pos h;unfold gq;simp![pR,fd3,e]
theorem Mq:∀qs:List (Int×Int),XS.Jk (qs.map mpD)=some qs
 |[]=>rfl
 |q::qs=>by
  show(XS.Jk (qs.map mpD)).map _=_;rw[Mq qs];rfl
def sY(hn:(k.map (·.1)).Nodup)(O:(k.map (·.2.1)).Nodup)(U:k.length<=1000):cD [hD rs (SP k) (TP k) M]=some (dcD (QP k)):=by
 have e:fD (gTn 2 (dF (gNl 0) (dF (gNl 1) (kO)))) (D3.rE) (eN (dTup (aq (ao 1) (aq (dOp XI.zJ (XI.rG aM aJ 2 (ao 2)) (ao 0)) (aX))))) (iw 2 [0] [sdq (hD rs (SP k) (TP k) M)]) (itS (SP k))=some ((QP k).map mpD):=by
  have V:itS (SP k)=k.map λq=>ec [.str q.1,.int q.2.1]:=by unfold itS SP;rw[bD];rfl
  have W:(QP k).map mpD=k.map λq=>ec [.int q.2.1,.int q.2.2]:=by unfold QP;rw[bD];rfl
  rw[V,W];refine Oq (λq:Gu=>ec [.str q.1,.int q.2.1]) (λq:Gu=>ec [.int q.2.1,.int q.2.2]) k λq hq=>?_
  refine⟨[sdq (.str q.1),sdq (.int q.2.1),sdq (hD rs (SP k) (TP k) M)],rfl,rfl,?_⟩;have Z:jZ (TP k) q.1=some q.2.2:=uW (by rwa[En]) (aY.mpr ⟨q,hq,rfl⟩);simp![pR,fd2,JQ,Z,dJ,sz (show 0+1+1<=1000000 by decide)]
 have Y:(itS (SP k)).length<=100000:=by unfold itS SP;rw[ak,ak];lia
 have X:XS.yW [.list ((QP k).map mpD)]=some (dcD (QP k)):=by
  unfold XS.yW;dsimp only;rw[Mq,aj,if_pos]
  .rfl
  .refine⟨?_,by rwa[nO]⟩;unfold QP;rwa[ak,ak]
 unfold cD;simp![XR,pR,fd1,ap8,Y,e,X]
def rH(x:Str):Prop:=(∀c∈x.cps.toList,97<=c/\c<=122)/\1<=x.length/\x.length<=8
def T9 : ([k]:List Nat) < [m]<->k<m:=by simp[List.cons_lt_cons_iff]
def aA2(h:97<=k):Ag (.str "a") (.str ⟨#[k]⟩)=some (.bool true):=by
 unfold Ag;dsimp only;have:¬((⟨#[k]⟩:Str).cps.toList<("a":Str).cps.toList):=λz=>by
  have z:([k]:List Nat) < [97]:=z;have:=T9.mp z;lia
 rw[dFa this];rfl
def aA3(h:k<=122):Ag (.str ⟨#[k]⟩) (.str "z")=some (.bool true):=by
 unfold Ag;dsimp only;have:¬(("z":Str).cps.toList<(⟨#[k]⟩:Str).cps.toList):=λz=>by
  have z:([122]:List Nat) < [k]:=z;have:=T9.mp z;lia
 rw[dFa this];rfl
def qSg(x:Option D):Option (List D):=x.bind vK
def ad3 : Zh k δ=qSg (k δ):=rfl
def aA4(h:∀c∈x.cps.toList,97<=c/\c<=122):qSg (some (.str x))=some (x.cps.toList.map λc=>.str ⟨#[c]⟩):=by
 show vK (.str x)=_;unfold vK;dsimp only;rw[if_pos];rw[<-Array.all_toList,gB];intro c Z;have:=h c Z;exact dTr (by lia)
def qW(h:rH x):lG [.str x]=some (.bool true):=by
 obtain⟨h1,h2,h3⟩:=h;have Z:D3.isT "str" "str"=true:=rfl;have X:K3 [.str x]=some (.int x.length):=if_pos (by lia);have U:(1:Int)<=x.length:=by lia
 have V:(x.length:Int)<=8:=by lia
 have W:fD (gNl 0) (D3.rE) (mF XI.Ag XI.Ag (dC (.str "a")) (ao 0) (dC (.str "z"))) (iw 1 [] [sdq (.str x)]) (x.cps.toList.map λc=>eF ⟨#[c]⟩)=some (x.cps.toList.map λ_=>ei true):=by
  refine Oq (λc:Nat=>eF ⟨#[c]⟩) (λ_=>ei true) x.cps.toList λc Y=>?_
  obtain⟨a,b⟩:=h1 c Y;refine⟨[sdq (.str ⟨#[c]⟩)],rfl,rfl,?_⟩;simp![aA2 a,aA3 b]
 have ln:(x.cps.toList.map λc=>eF ⟨#[c]⟩).length<=100000:=by
  rw[ak];have:x.cps.toList.length=x.length:=rfl;lia
 have ea:FP [.list (x.cps.toList.map λ_=>ei true)]=some (.bool true):=by
  rw[Ek (λ_=>true)];simp
 unfold lG;simp![tyD,Z,X,dTr U,dTr V,ad3,aA4 h1,ln,W,ea]
def uX(h:rH x)(O:jZ k x=some q):cH [hD rs k m M,.str x]=some .none:=by
 unfold cH;simp![qW h,pR,fd1,T8,O,m_]
def Ot{S T:List (Str×Int)}{v:Int}(h:rH x)(O:jZ S x=some v)(hw:jZ T x=some k):gY [hD rs S T M,.str x]=some (.int k):=by
 unfold gY;simp![mJ,xO,uX h O,pR,fd2,JQ,hw,dJ]
def T_(h:rH x)(O:jZ k x=some q)(hw:jZ m x=some t):iT [hD rs k m M,.str x]=some (.tuple [.int q,hD rs (pI k x) (pI m x) M]):=by
 unfold iT;simp![Ht,mJ,xO,uX h O,aj,Mi,ad0,fo2 hw,ap4,Xb,fo1 O,v7,zX,T5,Ml]
noncomputable def mv(P:List Gu)(a b:Int):List Gu:=P.map λq=>if q.2.1=a then(q.1,b,q.2.2)else q
def JV(P:List Gu)(a b:Int):(mv P a b).map (·.1)=P.map (·.1):=by
 unfold mv;rw[bD];refine cT λq _=>?_
 show(if q.2.1=a then(q.1,b,q.2.2)else q).1=q.1;split<;>rfl
def X3(P:List Gu)(a b:Int):TP (mv P a b)=TP P:=by
 unfold TP mv;rw[bD];refine cT λq _=>?_
 show((if q.2.1=a then(q.1,b,q.2.2)else q).1,(if q.2.1=a then(q.1,b,q.2.2)else q).2.2)=_;split<;>rfl
theorem Ua:∀(P:List Gu)(a b:Int),(P.map (·.2.1)).Nodup->b∉P.map (·.2.1)->∀x,dX (QP (mv P a b)) x=if x=b then dX (QP P) a else if x=a then none else dX (QP P) x
 |[],a,b,_,_,x=>by
  show dX [] x=if x=b then dX [] a else if x=a then none else dX [] x
  rw[LR,LR];split
  .rfl
  .split<;>rfl
 |q::P,a,b,hn,hb,x=>by
  obtain⟨n1,n2⟩:=bK.mp hn;have Z:=Ua P a b n2 (λz=>hb (aA _ z)) x;show dX (((if q.2.1=a then(q.1,b,q.2.2)else q).2.1,(if q.2.1=a then(q.1,b,q.2.2)else q).2.2)::QP (mv P a b)) x=if x=b then dX ((q.2.1,q.2.2)::QP P) a else if x=a then none else dX ((q.2.1,q.2.2)::QP P) x
  rw[pO,pO,pO,Z];by_cases c:q.2.1=a
  .have Y:dX (QP P) a=none:=by
    cases e:dX (QP P) a with
    |none=>rfl
    |some w=>exact absurd (by show q.2.1∈_;rw[c,<-nO];exact pP.mp (by rw[e];rfl)) n1
   simp only[c,if_true]
   grind
  .simp only[c,if_false]
   grind
def Mr{b:Int}(hn:(k.map (·.2.1)).Nodup)(hb:b∉k.map (·.2.1)):((mv k m b).map (·.2.1)).Nodup:=by
 unfold mv;rw[bD];have:k.map ((λq:Gu=>q.2.1)∘λq=>if q.2.1=m then(q.1,b,q.2.2)else q)=(k.map (·.2.1)).map λr=>if r=m then b else r:=by
  rw[bD];refine cT λq _=>?_
  show(if q.2.1=m then(q.1,b,q.2.2)else q).2.1=if q.2.1=m then b else q.2.1
  split<;>rfl
 rw[this];generalize k.map (·.2.1)=l at hn hb;unfold List.Nodup at hn ⊢;rw[vd];refine f7 ?_ hn;intro x y hx Z ne;by_cases c:x=m
 .rw[if_pos c];by_cases d:y=m
  .exact absurd (c.trans d.symm) ne
  .rw[if_neg d];exact λe=>hb (by rwa[e])
 .rw[if_neg c];by_cases d:y=m
  .rw[if_pos d];exact λe=>hb (by rwa[<-e])
  .rwa[if_neg d]
theorem zY:∀{l:List α}{x y:α},(l.map k).Nodup->x∈l->y∈l->k x=k y->x=y
 |[],_,_,_,h,_,_=>by cases h
 |z::l,x,y,hn,hx,Z,e=>by
  obtain⟨n1,n2⟩:=bK.mp hn;rcases aC.mp hx with a|a
  .rcases aC.mp Z with b|b
   .rw[a,b]
   .exact absurd (by rw[<-a,e];exact aY.mpr ⟨y,b,rfl⟩) n1
  .rcases aC.mp Z with b|b
   .exact absurd (by rw[<-b,<-e];exact aY.mpr ⟨x,a,rfl⟩) n1
   .exact zY n2 a b e
def Xd{b:Int}(hn:(k.map (·.1)).Nodup)(Y:(k.map (·.2.1)).Nodup)(hl:k.length<1000)(hM:M.length<1000000)(O:q0∈k)(ha:q0.2.1=m):
 fB [hD rs (SP k) (TP k) M,.int m,.int b]=some (.tuple [.none,hD rs (SP (mv k m b)) (TP (mv k m b)) (M++[.tuple [.str q0.1,.int m,.int b]])]):=by
 have S:k.filter (λq=>decide (q.2.1=m))=[q0]:=by
  have Z:∀k:List Gu,(k.map (·.2.1)).Nodup->q0∈k->k.filter (λq=>decide (q.2.1=m))=[q0]:=by
   intro k
   induction k with
   |nil=>intro _ h;cases h
   |cons q k X=>
    intro Y O;obtain⟨n1,n2⟩:=bK.mp Y;rcases aC.mp O with z|z
    .subst z;rw[iI (by simpa using ha),pZ.mpr];intro x hx e;exact n1 (by show q0.2.1∈_;rw[ha,<-of_decide_eq_true e];exact aY.mpr ⟨x,hx,rfl⟩)
    .rw[iH,X n2 z];intro e;exact n1 (by show q.2.1∈_;rw[of_decide_eq_true e,<-ha];exact aY.mpr ⟨q0,z,rfl⟩)
  exact Z k Y O
 have e:∀y:Option U,fD (gTn 2 (dF (gNl 0) (dF (gNl 1) (kO)))) (bA (dOp gEq (ao 1) (ao 2))) (eN (ao 0)) (iw 2 [1] [sdq (hD rs (SP k) (TP k) M),sdq (.int m),sdq (.int b),y]) (itS (SP k))=some [.str q0.1]:=λy=>by
  have R:itS (SP k)=k.map λq=>ec [.str q.1,.int q.2.1]:=by unfold itS SP;rw[bD];rfl
  have:=wJ (g:=(gTn 2 (dF (gNl 0) (dF (gNl 1) (kO))))) (c:=(bA (dOp gEq (ao 1) (ao 2)))) (e:=(eN (ao 0))) (δ:=iw 2 [1] [sdq (hD rs (SP k) (TP k) M),sdq (.int m),sdq (.int b),y]) (λq:Gu=>ec [.str q.1,.int q.2.1]) (λq=>decide (q.2.1=m)) (λq:Gu=>eF q.1) k λq hq=>?_
  .rw[R,this,S];rfl
  .refine⟨[sdq (.str q.1),sdq (.int q.2.1),sdq (.int m)],rfl,?_,λ_=>?_⟩
   .simp![]
   .simp![]
 have T:(itS (SP k)).length<=100000:=by unfold itS SP;rw[ak,ak];lia
 have V:ou (SP k) q0.1 b=SP (mv k m b):=by
  rw[Xc (by rw[wK];exact aY.mpr ⟨q0,O,rfl⟩)];unfold SP mv;rw[bD,bD];refine cT λq hq=>?_
  show(if q.1=q0.1 then(q.1,b)else(q.1,q.2.1))=((if q.2.1=m then(q.1,b,q.2.2)else q).1,(if q.2.1=m then(q.1,b,q.2.2)else q).2.1);have:q.1=q0.1<->q.2.1=m:=by
   constructor
   .intro z;have:q=q0:=zY hn hq O z;rw[this,ha]
   .intro z;have:q=q0:=zY Y hq O (z.trans ha.symm);rw[this]
  by_cases c:q.2.1=m
  .rw[if_pos (this.mpr c),if_pos c]
  .rw[if_neg (λz=>c (this.mp z)),if_neg c]
 have W:(SP k).length<1000:=by unfold SP;rwa[ak]
 have ft:flat (.tuple [.str q0.1,.int m,.int b])=true:=rfl;rw[X3];unfold fB;simp![Ht,XR,pR,fd1,ap8,T,e,T4,fp1 W,V,ac9,sz (show 0+1+1+1<=1000000 by decide),fa3 ft hM,ap7,v7,zX,T5,aj]
section
variable{f g:FX}{fs:FS}{δ δ':DS}{l:List Nat}{y:Str}{d:D}{o:Oc}
def qXS(o:Option Or)(g:FX):Option Or:=o.bind λo=>match o with
 |.o (.nx δ')=>g δ'
 |o=>some o
def X4:Ae f g δ=qXS (f δ) g:=rfl
def X5:qXS (some (.o (.nx δ'))) g=g δ':=(rfl)
def ap9:qXS (some (.ex c d)) g=some (.ex c d):=rfl
def qXI(t:Option Bool)(f g:FX)(δ:DS):Option Or:=t.bind λb=>if b=true then f δ else g δ
def aq0:xIf ft f g δ=qXI (ft δ) f g δ:=rfl
def aA5:qXI (some true) f g δ=f δ:=(rfl)
def aq1:qXI (some false) f g δ=g δ:=(rfl)
def qXO(o:Option Oc):Option Or:=o.bind λo=>some (.o o)
def aq2:xOf fs δ=qXO (fs δ):=rfl
def aq3:qXO (some o)=some (.o o):=rfl
def x_raise:DQ l c fe δ=(fe δ).bind λd=>(kW l δ).bind λr=>some (.ex c (.tuple (d::r))):=rfl
def aq4 : RP k q l f ds=if ds.length=k then RN l (f (ds.map (λd=>sdq d)++bR q none))else none:=rfl
def aq5:RN l (some (.ex c d))=some (.ex c d):=rfl
def aA6:RN l (some (.o (.ex c y d)))=some (.o (.ex c y d)):=rfl
end
def Gmv(G:Gst rs (QP k))(ha:dX (QP k) m=some B)(hb:dX (QP k) t=none)(b0:0<=t)(b1:t<rs.length)(hw:B<=rs.getD t.toNat 0):Gst rs (QP (mv k m t)):=by
 have nr:(k.map (·.2.1)).Nodup:=by rw[<-nO];exact G.nd
 have Y:t∉k.map (·.2.1):=λz=>by
  rw[<-nO]at z;have:=pP.mpr z;rw[hb]at this
  cases this
 refine⟨by rw[nO];exact Mr nr Y,λq hq=>?_⟩;unfold QP mv at hq;rw[bD]at hq;obtain⟨p,X,rfl⟩:=aY.mp hq;have Z:(p.2.1,p.2.2)∈QP k:=aY.mpr ⟨p,X,rfl⟩;obtain⟨g1,g2,g3,W⟩:=G.rg _ Z;dsimp only[Function.comp];by_cases c:p.2.1=m
 .rw[if_pos c];have:=jP G.nd Z;rw[c,ha]at this
  cases this;exact⟨b0,b1,g3,hw⟩
 .rw[if_neg c];exact⟨g1,g2,g3,W⟩
def Mv(d:D):Prop:=∃n a b,d=.tuple [.str n,.int a,.int b]
theorem Hw:∀{M:List D},(∀d∈M,Mv d)->flats M=true
 |[],_=>rfl
 |d::M,h=>by
  obtain⟨n,a,b,rfl⟩:=h d au;rw[flats,Hw λd hd=>h d (aA _ hd)];rfl
theorem ad4(ha:q0.2.1=k):∀{P:List Gu},(P.map (·.2.1)).Nodup->q0∈P->P.filter (λq=>decide (q.2.1=k))=[q0]
 |[],_,h=>by cases h
 |q::P,Z,Y=>by
  obtain⟨n1,n2⟩:=bK.mp Z;rcases aC.mp Y with z|z
  .subst z;rw[iI (by simpa using ha),pZ.mpr];intro x hx e;exact n1 (by show q0.2.1∈_;rw[ha,<-of_decide_eq_true e];exact aY.mpr ⟨x,hx,rfl⟩)
  .rw[iH,ad4 ha n2 z];intro e;exact n1 (by show q.2.1∈_;rw[of_decide_eq_true e,<-ha];exact aY.mpr ⟨q0,z,rfl⟩)
noncomputable def mvN(P:List Gu)(a:Int):Str:=((P.filter λq=>decide (q.2.1=a)).map (·.1)).headD ""
def mvD(P:List Gu)(p:Int×Int):D:=.tuple [.str (mvN P p.1),.int p.1,.int p.2]
def iK:List (Int×Int)->List Gu->List Gu
 |[],P=>P
 |p::r,P=>iK r (mv P p.1 p.2)
def runM:List (Int×Int)->List Gu->List D
 |[],_=>[]
 |p::r,P=>mvD P p::runM r (mv P p.1 p.2)
def OkR(rs:List Int):List (Int×Int)->List Gu->Prop
 |[],_=>True
 |p::r,P=>(∃q∈P,q.2.1=p.1/\q.2.2<=rs.getD p.2.toNat 0)/\p.2∉P.map (·.2.1)/\0<=p.2/\p.2<rs.length/\OkR rs r (mv P p.1 p.2)
theorem Hy:∀(r:List (Int×Int))(P:List Gu),(runM r P).length=r.length
 |[],_=>rfl
 |p::r,P=>by rw[runM,aO,Hy r,aO]
theorem Ms:∀(r:List (Int×Int))(P:List Gu),∀d∈runM r P,Mv d
 |[],_,_,h=>by cases h
 |p::r,P,d,h=>by
  rcases aC.mp h with z|z
  .exact⟨_,_,_,z⟩
  .exact Ms r _ d z
theorem Hz:∀(ps:List (Int×Int))(P:List Gu)(g b e:Int),Gst rs (QP P)->dX (QP P) g=none->0<=g->g<rs.length->b<=rs.getD g.toNat 0->LkR ps b e ->
 (∀p∈ps,dX (QP P) (gmR rs qs p.1 p.2)=some p.2/\p.1<=rs.getD (gmR rs qs p.1 p.2).toNat 0)->ps.Pairwise (λp q=>p.2<q.2) ->
 OkR rs (mvs rs qs ps g) P/\(iK (mvs rs qs ps g) P).map (·.1)=P.map (·.1)/\TP (iK (mvs rs qs ps g) P)=TP P/\Gst rs (QP (iK (mvs rs qs ps g) P))/\dX (QP (iK (mvs rs qs ps g) P)) (gl rs qs ps g)=none/\0<=gl rs qs ps g/\gl rs qs ps g<rs.length/\e<=rs.getD (gl rs qs ps g).toNat 0
 |[],P,g,b,e,G,k0,g1,g2,hb,lk,_,_=>by
  cases lk;exact⟨trivial,rfl,rfl,G,k0,g1,g2,hb⟩
 |p::ps,P,g,b,e,G,k0,g1,g2,hb,lk,S,W=>by
  cases lk with
  |cons l1 l2=>
  obtain⟨kp,Q⟩:=S p au;obtain⟨i1,i2⟩:=eZ.mp W;have mem:=Ei kp;obtain⟨q1,q2,q3,q4⟩:=G.rg _ mem;simp only at q1 q2 q3 q4;have nr:(P.map (·.2.1)).Nodup:=by rw[<-nO];exact G.nd
  have T:g∉P.map (·.2.1):=λz=>by
   rw[<-nO]at z;have:=pP.mpr z;rw[k0]at this
   cases this
  have O:gmR rs qs p.1 p.2≠g:=λz=>by rw[z,k0]at kp;cases kp
  have kn:=Ua P (gmR rs qs p.1 p.2) g nr T;have H:=Gmv G kp k0 g1 g2 (by lia);obtain⟨q0,N,R⟩:=aY.mp mem;have V:=congrArg Prod.fst R;have M:q0.2.2=p.2:=(Prod.mk.inj R).2;obtain⟨I,J,K,L⟩:=Hz ps (mv P (gmR rs qs p.1 p.2) g) (gmR rs qs p.1 p.2) p.1 e H (by rw[kn,if_neg O,if_pos rfl]) q1 q2 Q l2 (λU Y=>by
   obtain⟨Z,X⟩:=S U (aA _ Y);refine⟨?_,X⟩;have lt:=i1 U Y;rw[kn,if_neg (λz=>by rw[z,k0]at Z;cases Z),if_neg (λz=>by rw[z,kp]at Z;injection Z with F;lia)];exact Z) i2
  rw[mvs,gl,iK];exact⟨⟨⟨q0,N,V,by show q0.2.2<=rs.getD g.toNat 0;lia⟩,T,g1,g2,I⟩,by rw[J,JV],by rw[K,X3],L⟩
def JW(O:(k.map (·.2.1)).Nodup)(U:q0∈k)(ha:q0.2.1=m):mvN k m=q0.1:=by unfold mvN;rw[ad4 ha O U];rfl
theorem Ub:∀(ps:List (Int×Int))(P:List Gu)(M:List D)(y z:Option U),(P.map (·.1)).Nodup->(P.map (·.2.1)).Nodup->P.length<1000->M.length+ps.length<1000000->OkR rs ps P ->
 ∃Y O,lq (gTn 2 (dF (gNl 4) (dF (gNl 5) (kO)))) (XI.wF (XI.sV fB aM aJ 0 (aq (ao 4) (aq (ao 5) (aX))) [0])) (ps.map mpD) [sdq (hD rs (SP P) (TP P) M),sdq d1,sdq d2,sdq d3,y,z]=some (.nx [sdq (hD rs (SP (iK ps P)) (TP (iK ps P)) (M++runM ps P)),sdq d1,sdq d2,sdq d3,Y,O])
 |[],P,M,y,z,_,_,_,_,_=>⟨y,z,by rw[runM,cA];rfl⟩
 |p::ps,P,M,y,z,hn,nr,ln,T,⟨⟨q0,X,W,_⟩,V,_,_,ok⟩=>by
  rw[aO]at T;have em:=Xd (rs:=rs) (M:=M) (b:=p.2) hn nr ln (by lia) X W;rw[<-JW nr X W]at em;obtain⟨Y,O,Z⟩:=Ub (d1:=d1) (d2:=d2) (d3:=d3) ps (mv P p.1 p.2) (M++[mvD P p]) (sdq (.int p.1)) (sdq (.int p.2)) (by rwa[JV]) (Mr nr V) (by unfold mv;rwa[ak]) (by rw[aV];simp only[aO,fL];lia) ok;refine⟨Y,O,?_⟩;rw[d_]at Z;rw[aD,lq,iK,runM];have fn:flat .none=true:=rfl;unfold mpD at Z ⊢;simp![aj,Mi,Mj,ap5 em fn,ap4];exact Z
theorem ad5(G:Gst rs qs)(h:Ch rs qs k m):1<=k->(m.length:Int)<k:=by
 induction h with
 |stop c=>intro Y;simp;lia
 |step c X W Z=>
  intro Y;have:=Z (uV G X);simp only[aO];lia
def Xe{s:Str}(h:eW s=true):ly 1 (.str s):=⟨by rwa[ef],by simp[eQ]⟩
def Mt:ly 1 (.str "full"):=Xe (by decide +kernel)
def aq6:gEq (.str "full") (.str "full")=some (.bool true):=Com.eq_self (sW Mt (by decide))
def eq_if:gEq (.str "in") (.str "full")=some (.bool false):=by
 unfold gEq;rw[mZ (sW (Xe (s := "in") (by decide +kernel)) (by decide)),mZ (sW Mt (by decide)),if_pos (by rfl)];have:eb (.str "in") (.str "full")=false:=by rw[eb];decide +kernel
 rw[this]
def xr{k:Nat}(h1:1<=k)(h2:k<=4):dI [.int (k:Int),.int 1,.int 4]=some (.bool true):=by
 have a:(1:Int)<=k:=by lia
 have b:(k:Int)<=4:=by lia
 have w:Com.jQ [.int (k:Int)]=some (.bool true):=by
  unfold Com.jQ;simp![];rfl
 show Com.dI _=_;unfold Com.dI;simp![w,dTr a,dTr b]
structure Hou(rs:List Int)(P:List Gu)(M:List D):Prop where
 rl:rs.length<=12
 rk:∀r∈rs,1<=r/\r<=4
 nd:(P.map (·.1)).Nodup
 gs:Gst rs (QP P)
 fM:∀d∈M,Mv d
def Hou.nr(h:Hou rs k M):(k.map (·.2.1)).Nodup:=by rw[<-nO];exact h.gs.nd
def Hou.len(h:Hou rs k M):k.length<=12:=by
 have:=h.gs.len;unfold QP at this;rw[ak]at this;have:=h.rl;lia
theorem zZ:∀l:List (Int×Int),flats (l.map mpD)=true
 |[]=>rfl
 |p::l=>by rw[aD,flats,zZ l];rfl
def HB{P:List Gu}{M:List D}{k:Nat}(h:Hou rs P M)(hx:rH x)(nx:x∉P.map (·.1))(h1:1<=k)(h2:k<=4)(hM:M.length<900000):
 (∃L,Dead rs (QP P) (k:Int)/\lvM rs (QP P) k=some L/\dw [hD rs (SP P) (TP P) M,.str x,.int (k:Int)]=some (.ex "Full" (.tuple [.int L,hD rs (SP P) (TP P) M]))) \/
 ∃r ms g,Ch rs (QP P) (k:Int) r/\ms.length=r.length/\r.length<4/\OkR rs ms P/\dw [hD rs (SP P) (TP P) M,.str x,.int (k:Int)]=some (.o (.ex "T" "" (.tuple [.tuple [.int g,.list (ms.map mpD)],hD rs (SP (iK ms P++[(x,g,(k:Int))])) (TP (iK ms P++[(x,g,(k:Int))])) (M++runM ms P)])))/\(iK ms P).map (·.1)=P.map (·.1)/\g∉(iK ms P).map (·.2.1)/\0<=g/\g<rs.length/\(k:Int)<=rs.getD g.toNat 0/\Hou rs (iK ms P++[(x,g,(k:Int))]) (M++runM ms P):=by
 have G:=h.gs;have hl:=h.rl;have N:rs.length<=60:=by lia
 have I:=sY (rs:=rs) (M:=M) h.nd h.nr (by have:=h.len;lia);have n:=Hv.mpr (by rwa[wK]);rcases XH G k (k:Int) (by lia) (by lia)with⟨r,S⟩|hd
 .right
  obtain⟨pre,l,c,u⟩:=W_ S;obtain⟨R,gs,f⟩:∃R gs,frR rs (QP P) l=R::gs:=by
   cases e:frR rs (QP P) l with
   |nil=>exact absurd e u
   |cons a b=>exact⟨a,b,rfl⟩
  have hrl:=ad5 G S (by lia);have hlen:((k:Int)::r).length<=1000:=by simp only[aO];lia
  have ad:=Hs G N (by lia) (by lia) S c hlen f;rw[ac5]at ad;obtain⟨f1,f2,f3⟩:=Tv.mp (show R∈frR rs (QP P) l by rw[f];exact au);obtain⟨e,lk,hfe⟩:=ap2 S pre l l c (lQ _);have hz:=TF S;have s:(((k:Int)::r).zip r).reverse.length=r.length:=by
   rw[jC,List.length_zip];simp only[aO];lia
  generalize J:(((k:Int)::r).zip r).reverse=ps at ad lk s;obtain⟨v,T,m3,y,H,A,B,m8⟩:=Hz (qs:=QP P) ps P (R:Int) l e G f3 (by lia) (by lia) (by simpa using f2) lk (λp i=>by
   rw[<-J]at i;obtain⟨_,_,_,z4⟩:=hz p (List.mem_reverse.mp i);obtain⟨_,_,w,T⟩:=Tz G z4;exact⟨jP G.nd w,T⟩) (by rw[<-J];exact ac7 S)
  have pl:=h.len;have m:=Mf (rs:=rs) (qs:=QP P) ps (R:Int);generalize hgl:gl rs (QP P) ps (R:Int)=Z at ad H A B m8;generalize hmm:mvs rs (QP P) ps (R:Int)=ms at ad v T m3 y H m;have t:(((k:Int)::r).map du).length=r.length+1:=by rw[ak,aO]
  have K:ndT (.tuple [.str "in", .list (ms.map mpD),.int Z,.list (((k:Int)::r).map du)])=true:=by
   have a1:fl1 (.list (ms.map mpD))=true:=zZ ms;have a2:fl1 (.list (((k:Int)::r).map du))=true:=nM _;show(List.all _ fl1&&decide _)=true;rw[aK];refine⟨?_,dTr ?_⟩
   .rw[jG,jG,jG,jG,a1,a2];rfl
   .show [(ms.map mpD).length,(((k:Int)::r).map du).length].Nodup;rw[t,ak,m,s];simp
  generalize ((k:Int)::r).map du=O at ad K;have dn:∀(fe:FE)(δ:DS),fe δ=some (.tuple [.str "in", .list (ms.map mpD),.int Z,.list O])->dNd fe δ=some (.tuple [.str "in", .list (ms.map mpD),.int Z,.list O]):=λfe δ e=>by
   show(fe δ).bind _=_;rw[e,aj,if_pos K]
  obtain⟨y',z',w⟩:=Ub (rs:=rs) (d1:=.str x) (d2:=.int (k:Int)) (d3:=.tuple [.str "in", .list (ms.map mpD),.int Z,.list O]) ms P M none none h.nd h.nr (by lia) (by lia) v;have V:x∉(iK ms P).map (·.1):=by rw[T];exact nx
  have l1:(iK ms P).length=P.length:=by
   have:=congrArg lO T;simpa using this
  have s1:(SP (iK ms P)).length<1000:=by unfold SP;rw[ak];lia
  have t1:(TP (iK ms P)).length<1000:=by unfold TP;rw[ak];lia
  have C:ou (SP (iK ms P)) x Z=SP (iK ms P++[(x,Z,(k:Int))]):=by rw[Mp (by rw[wK];exact V)];unfold SP;rw[bF];rfl
  have E:ou (TP (iK ms P)) x (k:Int)=TP (iK ms P++[(x,Z,(k:Int))]):=by rw[Mp (by rw[En];exact V)];unfold TP;rw[bF];rfl
  have gn:Z∉(iK ms P).map (·.2.1):=λz=>by
   rw[<-nO]at z;have:=pP.mpr z;rw[H]at this
   cases this
  refine⟨r,ms,Z,S,by lia,by lia,v,?_,T,gn,A,B,by lia,⟨hl,h.rk,?_,?_,λd hd=>?_⟩⟩
  .have fm:=zZ ms;have fa:flat (.int Z)=true:=rfl;have pr:∀(Y d1 d2 W X:Option U),Ls 3 1 [Y,d1,d2,sdq (.tuple [.str "in", .list (ms.map mpD),.int Z,.list O]),W,X]=some (ms.map mpD):=λY d1 d2 W X=>by
    show(if flats (ms.map mpD)=true then some (ms.map mpD)else none)=_;rw[if_pos fm]
   have rt:∀(Y:D)(d1 d2 W X:Option U),Sx [0] 3 2 1 [sdq Y,d1,d2,sdq (.tuple [.str "in", .list (ms.map mpD),.int Z,.list O]),W,X]=some (.o (.ex "T" "" (.tuple [.tuple [.int Z,.list (ms.map mpD)],Y]))):=λY d1 d2 W X=>by
    show(if flat (.int Z)=true/\flats (ms.map mpD)=true then _ else none)=_;rw[if_pos ⟨fa,fm⟩];rfl
   have Q:∀(Y W X:Option U),(dNd (dCall fP (aq (rG aM aJ 0 (ao 0)) (aq (iu cD aM aJ (ao 0) aX) (aq (ao 2) aX))))) [sdq (hD rs (SP P) (TP P) M),sdq (.str x),sdq (.int (k:Int)),Y,W,X]=some (.tuple [.str "in", .list (ms.map mpD),.int Z,.list O]):=λY W X=>dn _ _ (by
    simp![pR,fd0,mJ,xO,I,ad])
   unfold dw;simp![aq4,X4,aq0,aq2,qW hx,aq1,aq3,X5,pR,fd1,XQ,n,jK,xr h1 h2,Q,eq_if,at2,pr,w,T4,fp1 s1,C,fp2 t1,E,rt,aA6]
  .rw[bF];exact cL.mpr ⟨by rw[T];exact h.nd,by simp,λa ha b hb e=>by simp at hb;rw[e,hb]at ha;exact V ha⟩
  .have e1:QP (iK ms P++[(x,Z,(k:Int))])=QP (iK ms P)++[(Z,(k:Int))]:=by unfold QP;rw[bF];rfl
   rw[e1];refine⟨?_,λq hq=>?_⟩
   .rw[bF];exact cL.mpr ⟨y.nd,by simp,λa ha b hb e=>by
     simp at hb;have:=pP.mpr (show Z∈(QP (iK ms P)).map (·.1)by rw[<-hb,<-e];exact ha);rw[H]at this
     cases this⟩
   .rcases bO.mp hq with z|z
    .exact y.rg q z
    .simp at z;subst z;exact⟨A,B,by show(1:Int)<=k;lia,by show(k:Int)<=rs.getD Z.toNat 0;lia⟩
  .rcases bO.mp hd with z|z
   .exact h.fM d z
   .exact Ms _ _ d z
 .left
  obtain⟨L0,l1,l2,j⟩:=JK G hd (by lia);have F:∃L,lvM rs (QP P) k=some L:=by
   cases e:lvM rs (QP P) k with
   |some L=>exact⟨L,rfl⟩
   |none=>rw[Hl e L0 l1 l2]at j;cases j
  obtain⟨L,F⟩:=F;have ad:=Aj G (by lia) h1 (by lia) hd F;refine⟨L,hd,F,?_⟩;have Q:∀(Y W X:Option U),(dNd (dCall fP (aq (rG aM aJ 0 (ao 0)) (aq (iu cD aM aJ (ao 0) aX) (aq (ao 2) aX))))) [sdq (hD rs (SP P) (TP P) M),sdq (.str x),sdq (.int (k:Int)),Y,W,X]=some (.tuple [.str "full", .int L]):=λY W X=>by
   have:(dCall fP (aq (rG aM aJ 0 (ao 0)) (aq (iu cD aM aJ (ao 0) aX) (aq (ao 2) aX)))) [sdq (hD rs (SP P) (TP P) M),sdq (.str x),sdq (.int (k:Int)),Y,W,X]=some (.tuple [.str "full", .int L]):=by
    simp![pR,fd0,mJ,xO,I,ad]
   show(g_ _ _)=_;rw[this];rfl
  unfold dw;simp![aq4,X4,aq0,aq2,qW hx,aq1,aA5,aq3,X5,ap9,pR,fd1,XQ,n,jK,xr h1 h2,Q,aq6,at1,x_raise,aj,v7,zX,T5,aq5]
def lwh : cV [.int k]=some (.bool true):=by
 rfl
def X6(h:rH x):eW x=true:=by
 unfold eW;rw[<-Array.all_toList,gB];intro c Z;have:=h.1 c Z;exact dTr (by lia)
theorem X7:∀{xs:List Str},(∀x∈xs,eW x=true)->lys 1 (xs.map .str)
 |[],_=>vX
 |x::xs,h=>mz (Xe (h x au)) (X7 λy Z=>h y (aA _ Z))
def tOK : IV [.bool k]=some (.int (if k then 1 else 0)):=rfl
def letter{i:Int}(O:0<=i)(h1:i<25):∃c:Nat,GC (.str "qwertyuiopasdghjklzxcvbnm") (.int i)=some (.str ⟨#[c]⟩)/\97<=c/\c<=122:=by
 have Z:∀n:Nat,n<25->∃c:Nat,GC (.str "qwertyuiopasdghjklzxcvbnm") (.int (n:Int))=some (.str ⟨#[c]⟩)/\97<=c/\c<=122:=by
  have k2:∀n:Fin 25,∃c:Fin 123,L2.atI ("qwertyuiopasdghjklzxcvbnm":Str).cps.toList ((n:Nat):Int)=some (c:Nat)/\97<=(c:Nat):=by decide +kernel
  intro n hn;obtain⟨c,e,h⟩:=k2 ⟨n,hn⟩;refine⟨c,?_,h,by lia⟩;unfold GC;dsimp only at e ⊢;rw[if_pos (by decide +kernel),e];rfl
 have:=Z i.toNat (by lia);rwa[Int.toNat_of_nonneg O]at this
def Uc{s:Str}{c:Nat}(h:s.length<=100):zx (.str s) (.str ⟨#[c]⟩)=some (.str (s++⟨#[c]⟩)):=by
 unfold zx;dsimp only;rw[if_pos];have e:(⟨#[c]⟩:Str).length=1:=rfl;rw[e];have:1000000<=sizeLine:=by decide
 lia
def Ud(ns:List Int):∃xs:List Str,kE [.list (ns.map .int),.int 2]=some (.list (xs.map .str))/\xs.length=12/\∀x∈xs,rH x:=by
 have P:=jX ns 2 0 (m:=8) (by decide);have pt:=λ(i k m:Int)(M:0<=i)(h1:0<=k)(h2:k<=1000)(h3:0<m)=>pL (ns:=ns) M h1 h2 h3
 have Q:=pt 2 0 8 (by decide) (by decide) (by decide) (by decide);have S:=pt 2 1 (1+jl ns 2 0 8) (by decide) (by decide) (by decide) (by lia);generalize jl ns 2 1 (1+jl ns 2 0 8)=at1 at S;generalize jl ns 2 0 8=z at P Q S;obtain⟨δ',e,xs,V,W,Z,rfl,T,hx⟩:=qM (g:=(gNl 6)) (b:=(bZ (bY 7 (dC (.str ""))) (bZ (rT (mL (aq (ao 3) (aX))) (gNl 8) (bY 7 (dOp zx (ao 7) (dOp GC (ao 2) (dOp rF (dOp lu (dCall cg (aq (ao 0) (aq (dOp lu (ao 1) (dC (.int 1))) (aq (ao 8) (aq (dC (.int 25)) (aX)))))) (dOp qg (ao 6) (dCall IV (aq (dOp gEq (ao 8) (ao 4)) (aX))))) (dC (.int 25))))))) (t_ 5 (ao 7)))))
  (λi δ=>∃(xs:List Str)(V W Z:Option U),δ=[sdq (.list (ns.map .int)),sdq (.int 2),sdq (.str "qwertyuiopasdghjklzxcvbnm"),sdq (.int (1+z)),sdq (.int at1),sdq (.list (xs.map .str)),V,W,Z]/\xs.length=i/\∀x∈xs,rH x)
  (gM 0 12) [sdq (.list (ns.map .int)),sdq (.int 2),sdq (.str "qwertyuiopasdghjklzxcvbnm"),sdq (.int (1+z)),sdq (.int at1),sdq (.list []),none,none,none] ⟨[],none,none,none,rfl,rfl,by simp⟩ (by
  rintro i d δ hd ⟨xs,V,W,Z,rfl,T,hx⟩;obtain⟨hi,rfl⟩:=Tq hd;obtain⟨δ',e,s,X,rfl,sl,sc⟩:=qM (g:=(gNl 8)) (b:=(bY 7 (dOp zx (ao 7) (dOp GC (ao 2) (dOp rF (dOp lu (dCall cg (aq (ao 0) (aq (dOp lu (ao 1) (dC (.int 1))) (aq (ao 8) (aq (dC (.int 25)) (aX)))))) (dOp qg (ao 6) (dCall IV (aq (dOp gEq (ao 8) (ao 4)) (aX))))) (dC (.int 25)))))))
   (λj δ=>∃(s:Str)(Z:Option U),δ=[sdq (.list (ns.map .int)),sdq (.int 2),sdq (.str "qwertyuiopasdghjklzxcvbnm"),sdq (.int (1+z)),sdq (.int at1),sdq (.list (xs.map .str)),sdq (.int (i:Int)),sdq (.str s),Z]/\s.length=j/\∀c∈s.cps.toList,97<=c/\c<=122)
   (gM 0 (1+z)) [sdq (.list (ns.map .int)),sdq (.int 2),sdq (.str "qwertyuiopasdghjklzxcvbnm"),sdq (.int (1+z)),sdq (.int at1),sdq (.list (xs.map .str)),sdq (.int (i:Int)),sdq (.str ""),Z] ⟨"", Z,rfl,rfl,by intro c N;cases N⟩ (by
   rintro j d δ hd ⟨s,Z,rfl,sl,sc⟩;obtain⟨H,rfl⟩:=Tq hd;have R:=aA1 (i:=jl ns 3 (j:Int) 25+(i:Int)*(if decide ((j:Int)=at1)=true then 1 else 0)) (j:=25) (by decide);obtain⟨c,K,I,J⟩:=letter R.1 R.2;refine⟨_,[sdq (.list (ns.map .int)),sdq (.int 2),sdq (.str "qwertyuiopasdghjklzxcvbnm"),sdq (.int (1+z)),sdq (.int at1),sdq (.list (xs.map .str)),sdq (.int (i:Int)),sdq (.str (s++⟨#[c]⟩)),sdq (.int (j:Int))],rfl,.inl ?_,s++⟨#[c]⟩,_,rfl,?_,?_⟩
   .simp![show(2:Int)+1=3 from rfl,pt 3 (j:Int) 25 (by decide) (by lia) (by lia) (by decide),tOK,mulL (i:=(i:Int)) (j:=(if decide ((j:Int)=at1)=true then 1 else 0)) (by lia) (by lia),Ah (i:=jl ns 3 (j:Int) 25+(i:Int)*(if decide ((j:Int)=at1)=true then 1 else 0)) (j:=25) (by decide),K,Uc (s:=s) (c:=c) (by lia)]
   .show(s.cps++#[c]).size=j+1;rw[Array.size_append,show s.cps.size=j from sl];rfl
   .intro y Y;have e:(s++(⟨#[c]⟩:Str)).cps.toList=s.cps.toList++[c]:=by
     show(s.cps++#[c]).toList=_;simp
    rw[e]at Y;rcases bO.mp Y with q|q
    .exact sc y q
    .rw[bJ.mp q];exact⟨I,J⟩)
  rw[oE]at sl;refine⟨_,[sdq (.list (ns.map .int)),sdq (.int 2),sdq (.str "qwertyuiopasdghjklzxcvbnm"),sdq (.int (1+z)),sdq (.int at1),sdq (.list ((xs++[s]).map .str)),sdq (.int (i:Int)),sdq (.str s),X],rfl,.inl ?_,xs++[s],_,_,_,rfl,by rw[aV,T];rfl,?_⟩
  .have O:(xs.map eF).length<1000000:=by rw[ak];lia
   simp![xM (show -(2^62)<=1+z by lia) (show 1+z<2^62 by lia),e,O,bF]
  .intro y Y;rcases bO.mp Y with q|q
   .exact hx y q
   .rw[bJ.mp q];exact⟨sc,by lia,by lia⟩)
 refine⟨xs,?_,by rw[T];rfl,hx⟩;have L:fl1 (.list (xs.map .str))=true:=pN _ (λ_=>rfl) xs;unfold kE;simp![Q,S,sz (show 0<=1000000 by decide),xM (show -(2^62)<=(12:Int)by decide) (show(12:Int)<2^62 by decide),e,L]
theorem uY:∀l:List Int,iz.noIns (l.map .int)=true
 |[]=>rfl
 |x::l=>by rw[aD,iz.noIns,uY l];rfl
theorem HD:∀l:List Int,nls (l.map .int)=0
 |[]=>rfl
 |x::l=>by rw[aD,nls,HD l];rfl
def Ou:jz [.list (rs.map .int)]=some [.list (rs.map .int),.dict [],.dict [],.list []]:=by
 unfold jz fnI;rw[if_pos (by rfl)];have a:(dN1 (uF (dUn vC (ao 1)))) [none,sdq (.list (rs.map .int))]=some (.list (rs.map .int)):=by
  have f:fl1 (.list (rs.map .int))=true:=nM rs;have n:nl (.list (rs.map .int))<=1:=by rw[nl,HD];decide
  show(((some (ge (rs.map .int))).bind vC).bind _).bind _=_;rw[aj,Te,aj,if_pos f,aj,if_pos (dTr n)]
 have i1:iz (.list (rs.map .int))=true:=uY rs;show G6 _ [none,sdq (.list (rs.map .int))]=_;unfold G6;rw[a,aj,if_pos i1];rfl
def qMk(F:List D->Option (List D))(a:Option (List D)):Option D:=a.bind λds=>if iz.noIns ds=true then(F ds).bind λrs=>some (.dict (tZ aM aJ rs))else none
def aA7 : RM aM aJ F fa δ=qMk F (fa δ):=rfl
def aA8:qMk jz (some [.list (rs.map .int)])=some (hD rs [] [] []):=by
 have i1:iz.noIns [.list (rs.map .int)]=true:=by
  rw[iz.noIns,show iz (.list (rs.map .int))=true from uY rs];rfl
 unfold qMk;rw[aj,if_pos i1,Ou];rfl
def rmv(P:List Gu)(x:Str):List Gu:=P.filter λq=>decide (q.1≠x)
def ad6(P:List Gu)(x:Str):pI (SP P) x=SP (rmv P x):=by
 unfold pI SP rmv;rw[rm];rfl
def ad7(P:List Gu)(x:Str):pI (TP P) x=TP (rmv P x):=by
 unfold pI TP rmv;rw[rm];rfl
def Hou.out(h:Hou rs k M):Hou rs (rmv k x) M:=by
 have s:(rmv k x).Sublist k:=List.filter_sublist;refine⟨h.rl,h.rk,h.nd.sublist (s.map _),⟨?_,λq hq=>h.gs.rg q ((s.map _).subset hq)⟩,h.fM⟩;rw[nO];exact h.nr.sublist (s.map _)
section
variable{f:FTW}{g:FTW}{fw:FW}{a b:FS}{δ δ':DS}{c:Bool}{F:List D->Option D}{fa:FA}
def qIW(t:Option (Bool×DS))(a b:FS):Option Oc:=t.bind λp=>if p.1=true then a p.2 else b p.2
def Ue:GQ f a b δ=qIW (f δ) a b:=rfl
def ad8:qIW (some (false,δ)) a b=b δ:=(rfl)
def qOW(b:Option Bool)(δ:DS):Option (Bool×DS):=b.map λb=>(b,δ)
def aq7:VR ft δ=qOW (ft δ) δ:=rfl
def aA9:qOW (some c) δ=some (c,δ):=rfl
def qNW(t:Option (Bool×DS)):Option (Bool×DS):=t.map λp=>(!p.1,p.2)
def Ug:Bu f δ=qNW (f δ):=rfl
def aq8:qNW (some (true,δ))=some (false,δ):=rfl
def qBW(t:Option (D×DS)):Option (Bool×DS):=t.bind λp=>match p.1 with
 |.bool b=>some (b,p.2)
 |_=>none
def Mu:oR fw δ=qBW (fw δ):=rfl
def aq9:qBW (some (.bool c,δ))=some (c,δ):=rfl
def qCW(F:List D->Option D)(a:Option (List D))(sw:List Nat)(δ:DS):Option (D×DS):=a.bind λds=>(F ds).bind λd=>N5 d sw δ
def Mw:zF F fa sw δ=qCW F (fa δ) sw δ:=rfl
def aB0(h:F ds=some (.tuple [.bool c,k,y])):qCW F (some ds) [i,m] δ=some (.bool c,(δ.set i (sdq k)).set m (sdq y)):=by
 unfold qCW;rw[aj,h,aj];rfl
end
def Uh{a b:Int}(h:(gM a b)[i]?=some d):d=.int (a+i)/\(i:Int)<b-a:=by
 unfold gM at h;rw[aF]at h;obtain⟨k,Z,rfl⟩:=iY.mp h;obtain⟨h1,h2⟩:=aH.mp Z;rw[List.getElem_range]at h2;rw[eE]at h1;subst h2;exact⟨rfl,by lia⟩
def dP(P:List Gu):D:=.dict (ptP P)
theorem xu:∀P:List Gu,ptD (ptP P)=some P
 |[]=>rfl
 |q::P=>by
  show(ptD (ptP P)).map _=_;rw[xu P];rfl
theorem Eo:∀{P:List Gu}{x:Str}{q:Int×Int},(P.map (·.1)).Nodup->(x,q)∈P->ud P x=some q
 |[],_,_,_,h=>by cases h
 |p::P,x,q,hn,h=>by
  obtain⟨n1,n2⟩:=bK.mp hn;rw[pJ];rcases aC.mp h with z|z
  .rw[<-z,if_pos rfl]
  .rw[if_neg λe=>n1 (aY.mpr ⟨(x,q),z,e.symm⟩)];exact Eo n2 z
def X8 : R8 (.str x) (dP k)=some (.bool (ud k x).isSome):=by
 show(ptD (ptP k)).bind _=_;rw[xu];rfl
def JX(h:ud k x=some q):oA (dP k) (.str x)=some (.tuple [.int q.1,.int q.2]):=by
 show(ptD (ptP k)).bind _=_;rw[xu,aj];rw[h];rfl
def Xf : Ed (dP k)=some (.list (k.map λq=>.str q.1)):=by
 show(ptD (ptP k)).bind _=_;rw[xu];rfl
def Ep : uQ (dP k)=some (.list (k.map λq=>.tuple [.int q.2.1,.int q.2.2])):=by
 show(ptD (ptP k)).bind _=_;rw[xu];rfl
def qPK(x:Option D):Option (List D):=x.bind λx=>match x with
 |.dict kvs=>(ptD kvs).bind λS=>some (S.map λq=>.str q.1)
 |_=>none
def X_ : uR k δ=qPK (k δ):=rfl
def ar0 : qPK (some (dP k))=some (k.map λq=>.str q.1):=by
 show(ptD (ptP k)).bind _=_;rw[xu];rfl
def ar3{P:List Gu}{a b:Int}{fk f:FE}(h1:f δ=some (.tuple [.int a,.int b]))(h2:ao i δ=some (dP P))(h3:fk δ=some (.str x))(O:P.length<1000):goN (zO i fk f) δ=some (.nx (δ.set i (sdq (dP (uo P x (a,b)))))):=by
 unfold goN zO;rw[h1,aj,h2,aj,h3,aj];show g_ ((ptD (ptP P)).bind _) _=_;rw[xu,aj,if_pos O];rfl
def aB1{f:FE}(h1:ao i δ=some (.list M))(h2:f δ=some d)(hd:flat d=true)(O:M.length<1000000):goN (Hg i f) δ=some (.nx (δ.set i (sdq (.list (M++[d]))))):=by
 unfold goN Hg;rw[h1,aj,h2,aj];show g_ (if flat d=true/\M.length<1000000 then _ else none) _=_;rw[if_pos ⟨hd,O⟩];rfl
def ad9(hn:(k.map (·.1)).Nodup)(U:(k.map (·.2.1)).Nodup)(O:q0∈k)(ha:q0.2.1=m):uo k q0.1 (t,q0.2.2)=mv k m t:=by
 unfold uo mv;rw[if_pos (iG.mpr ⟨q0,O,dTr rfl⟩)];refine cT λq hq=>?_
 by_cases c:q.1=q0.1
 .have:q=q0:=zY hn hq O c;subst this;rw[if_pos rfl,if_pos ha]
 .rw[if_neg c,if_neg];intro z;exact c (congrArg Prod.fst (zY U hq O (z.trans ha.symm)))
theorem Ui:∀{l:List Int},((l.map du).any λz=>eb z (.int k))=decide (k∈l)
 |[]=>by simp
 |y::l=>by
  rw[aD,jf,Ui (l:=l)];show(decide (y=k)||_)=_;by_cases c:y=k
  .subst c;simp
  .have c':¬k=y:=λz=>c z.symm
   simp[c,c']
def Mx{b:Int}{l:List Int}:gIn (.int b) (.list (l.map .int))=some (.bool (decide (b∈l))):=by
 show(if(dy (.int b)&&dy (.list (l.map .int)))=true then some (ei ((l.map du).any λz=>eb z (.int b)))else none)=_;rw[shaped_ints,mZ (sW (qQ (n:=0)) (by decide)),if_pos (by rfl),Ui]
def JZ{b:Int}{l:List Int}:CQ (.int b) (.list (l.map .int))=some (.bool (!decide (b∈l))):=by
 show(if(dy (.int b)&&dy (.list (l.map .int)))=true then some (ei (!(l.map du).any λz=>eb z (.int b)))else none)=_;rw[shaped_ints,mZ (sW (qQ (n:=0)) (by decide)),if_pos (by rfl),Ui]
theorem Uj:∀(ps:List (Int×Int))(P:List Gu)(M:List D)(y4 y5 y6 y7 O:Option U),(P.map (·.1)).Nodup->(P.map (·.2.1)).Nodup->P.length<1000->M.length+ps.length<1000000->OkR rs ps P ->
 ∃z4 z5 z6 z7 z8,lq (gNl 4) (bZ (sIf (D3.tOr (D3.lU (bA (dUn (gIs "tuple") (ao 4)))) (D3.tOr (bA (dOp gNe (dCall lA (aq (ao 4) (aX))) (dC (.int 2)))) (D3.tOr (D3.lU (bA (dCall cV (aq (dOp gIx (ao 4) (dC (.int 0))) (aX))))) (D3.lU (bA (dCall cV (aq (dOp gIx (ao 4) (dC (.int 1))) (aX)))))))) (XI.nG [1,3] (dC (.bool false))) (gJ)) (bZ (XI.goN (P0 (ao 4) (gTn 2 (dF (gNl 5) (dF (gNl 6) (kO)))))) (bZ (bY 7 (dN (XI.uR (ao 1)) (gNl 0) (bA (dOp gEq (dOp gIx (dOp XI.oA (ao 2) (ao 0)) (dC (.int 0))) (ao 1))) (eN (ao 0)) 1 [5,1])) (bZ (bY 8 (dN (Ac (dUn XI.uQ (ao 1))) (gNl 0) (D3.rE) (eN (dOp gIx (ao 0) (dC (.int 0)))) 1 [])) (bZ (sIf (D3.tOr (bA (dOp gNe (dCall lA (aq (ao 7) (aX))) (dC (.int 1)))) (D3.tOr (bA (dOp gIn (ao 6) (ao 8))) (D3.lU (bA (mF gLe gLt (dC (.int 0)) (ao 6) (dCall lA (aq (ao 0) (aX)))))))) (XI.nG [1,3] (dC (.bool false))) (gJ)) (bZ (sIf (bA (dOp gLt (dOp gIx (ao 0) (ao 6)) (dOp gIx (dOp XI.oA (ao 1) (dOp gIx (ao 7) (dC (.int 0)))) (dC (.int 1))))) (XI.nG [1,3] (dC (.bool false))) (gJ)) (bZ (XI.goN (XI.zO 1 (dOp gIx (ao 7) (dC (.int 0))) (dTup (aq (ao 6) (aq (dOp gIx (dOp XI.oA (ao 1) (dOp gIx (ao 7) (dC (.int 0)))) (dC (.int 1))) (aX)))))) (XI.goN (XI.Hg 3 (dTup (aq (dOp gIx (ao 7) (dC (.int 0))) (aq (ao 5) (aq (ao 6) (aX)))))))))))))) (ps.map mpD) [sdq (.list (rs.map .int)),sdq (dP P),sdq d2,sdq (.list M),y4,y5,y6,y7,O]=some (.nx [sdq (.list (rs.map .int)),sdq (dP (iK ps P)),sdq d2,sdq (.list (M++runM ps P)),z4,z5,z6,z7,z8])
 |[],P,M,y4,y5,y6,y7,O,_,_,_,_,_=>⟨y4,y5,y6,y7,O,by rw[runM,cA];rfl⟩
 |p::ps,P,M,y4,y5,y6,y7,O,hn,nr,ln,A,⟨⟨q0,W,Q,hw⟩,K,b0,b1,ok⟩=>by
  rw[aO]at A;obtain⟨z4,z5,z6,z7,z8,V⟩:=Uj (d2:=d2) ps (mv P p.1 p.2) (M++[mvD P p]) (sdq (mpD p)) (sdq (.int p.1)) (sdq (.int p.2)) (sdq (.list [.str q0.1])) (sdq (.list ((P.map (·.2.1)).map .int))) (by rwa[JV]) (Mr nr K) (by unfold mv;rwa[ak]) (by rw[aV];simp only[aO,fL];lia) ok;refine⟨z4,z5,z6,z7,z8,?_⟩;rw[d_]at V;have nm:mvD P p=.tuple [.str q0.1,.int p.1,.int p.2]:=by unfold mvD;rw[JW nr W Q]
  have F:=Eo hn W;have pg:=JX F;have B:(P.map λq=>(eF q.1)).length<=100000:=by rw[ak];lia
  have T:∀Y Z X,fD (gNl 0) (bA (dOp gEq (dOp gIx (dOp XI.oA (ao 2) (ao 0)) (dC (.int 0))) (ao 1))) (eN (ao 0)) (iw 1 [5,1] [sdq (.list (rs.map .int)),sdq (dP P),sdq d2,sdq (.list M),X,sdq (.int p.1),sdq (.int p.2),Y,Z]) (P.map λq=>(eF q.1))=some [.str q0.1]:=λY Z X=>by
   have:=wJ (g:=(gNl 0)) (c:=(bA (dOp gEq (dOp gIx (dOp XI.oA (ao 2) (ao 0)) (dC (.int 0))) (ao 1)))) (e:=(eN (ao 0))) (δ:=iw 1 [5,1] [sdq (.list (rs.map .int)),sdq (dP P),sdq d2,sdq (.list M),X,sdq (.int p.1),sdq (.int p.2),Y,Z]) (λq:Gu=>eF q.1) (λq=>decide (q.2.1=p.1)) (λq:Gu=>eF q.1) P λq hq=>?_
   .rw[this,ad4 Q nr W];rfl
   .refine⟨[sdq (.str q.1),sdq (.int p.1),sdq (dP P)],rfl,?_,λ_=>?_⟩
    .have E:=JX (Eo hn (show(q.1,q.2)∈P from hq));simp![E]
    .simp![]
  have G:(P.map λq=>(ec [.int q.2.1,.int q.2.2])).length<=100000:=by rw[ak];lia
  have tk:∀δ:DS,fD (gNl 0) (D3.rE) (eN (dOp gIx (ao 0) (dC (.int 0)))) (iw 1 [] δ) (P.map λq=>(ec [.int q.2.1,.int q.2.2]))=some ((P.map (·.2.1)).map .int):=λδ=>by
   rw[bD];refine Oq (λq:Gu=>ec [.int q.2.1,.int q.2.2]) (λq:Gu=>du q.2.1) P λq hq=>⟨[sdq (.tuple [.int q.2.1,.int q.2.2])],rfl,rfl,?_⟩
   simp![]
  have z:¬rs.getD p.2.toNat 0<q0.2.2:=by lia
  have y:=vY (rs:=rs) b0 b1;have C:=dFa K;have L:(decide ((0:Int)<=p.2))=true:=dTr b0;have N:(decide (p.2<((rs.map du).length:Int)))=true:=dTr (by rw[ak];exact b1);have R:0+1+1<=sizeLine:=Com.sz (by decide);have S:0+1+1+1<=sizeLine:=Com.sz (by decide);have H:cV [.int p.1]=some (.bool true):=lwh;have I:cV [.int p.2]=some (.bool true):=lwh;rw[aD,lq,iK,runM,nm];have as:=λy5 y6 y7 O=>show goN (P0 (ao 4) (gTn 2 (dF (gNl 5) (dF (gNl 6) kO)))) [sdq (.list (rs.map .int)),sdq (dP P),sdq d2,sdq (.list M),sdq (.tuple [.int p.1,.int p.2]),y5,y6,y7,O]=some (.nx [sdq (.list (rs.map .int)),sdq (dP P),sdq d2,sdq (.list M),sdq (.tuple [.int p.1,.int p.2]),sdq (.int p.1),sdq (.int p.2),y7,O])from rfl
  have pp:=ar3 (P:=P) (x:=q0.1) (a:=p.2) (b:=q0.2.2) (i:=1) (δ:=[sdq (.list (rs.map .int)),sdq (dP P),sdq d2,sdq (.list M),sdq (.tuple [.int p.1,.int p.2]),sdq (.int p.1),sdq (.int p.2),sdq (.list [.str q0.1]),sdq (.list ((P.map (·.2.1)).map .int))]) (fk:=dOp gIx (ao 7) (dC (.int 0))) (f:=dTup (aq (ao 6) (aq (dOp gIx (dOp oA (ao 1) (dOp gIx (ao 7) (dC (.int 0)))) (dC (.int 1))) aX))) (by
   simp![at1,pg,R]) rfl (by
   simp![]) ln
  rw[ad9 hn nr W Q]at pp;have J:=aB1 (M:=M) (d:=.tuple [.str q0.1,.int p.1,.int p.2]) (i:=3) (δ:=[sdq (.list (rs.map .int)),sdq (dP (mv P p.1 p.2)),sdq d2,sdq (.list M),sdq (.tuple [.int p.1,.int p.2]),sdq (.int p.1),sdq (.int p.2),sdq (.list [.str q0.1]),sdq (.list ((P.map (·.2.1)).map .int))]) (f:=dTup (aq (dOp gIx (ao 7) (dC (.int 0))) (aq (ao 5) (aq (ao 6) aX)))) rfl (by
   simp![S]) rfl (by lia)
  have it:gIs "tuple" (.tuple [.int p.1,.int p.2])=some (.bool true):=rfl;unfold mpD at V ⊢;simp![aj,it,at1,H,I,as,X_,ar0,B,T,Ep,G,tk,Mx,C,L,N,y,pg,dFa z,pp,J];rw[nm]at V;exact V
def Ov(hn:(m.map (·.1)).Nodup)(nr:(m.map (·.2.1)).Nodup)(ln:m.length<1000)(O:M.length+k.length<1000000)(ok:OkR rs k m):
 kJ [.list (rs.map .int),dP m,.list (k.map mpD),.list M]=some (.tuple [.bool true,dP (iK k m),.list (M++runM k m)]):=by
 obtain⟨V,W,X,Y,Z,e⟩:=Uj (d2:=.list (k.map mpD)) k m M none none none none none hn nr ln O ok;have il:gIs "list" (.list (k.map mpD))=some (.bool true):=rfl;have fb:flat (.bool true)=true:=rfl;unfold kJ;simp![Ht,il,e,T6,v7,zX,T5,ap6,fb,Ml]
def J0{S T:List (Str×Int)}(O:rs.length<=1000):kI [hD rs S T M]=some (.list (((bC rs.length).filter λr:Nat=>!decide ((r:Int)∈S.map (·.2))).map λr:Nat=>du (r:Int))):=by
 have e:fD (gNl 0) (bA (dOp CQ (ao 0) (ao 1))) (eN (ao 0)) (iw 1 [1] [sdq (hD rs S T M),sdq (.list ((S.map (·.2)).map .int))]) (gM 0 (rs.length:Int))=some (((bC rs.length).filter λr:Nat=>!decide ((r:Int)∈S.map (·.2))).map λr:Nat=>du (r:Int)):=by
  rw[vW,dH];refine wJ (λi:Nat=>du (i:Int)) _ (λi:Nat=>du (i:Int)) (bC rs.length) λr _=>?_
  refine⟨[sdq (.int (r:Int)),sdq (.list ((S.map (·.2)).map .int))],rfl,?_,λ_=>?_⟩
  .simp![JZ]
  .simp![]
 have Z:(gM 0 (rs.length:Int)).length<=100000:=by rw[oE];lia
 unfold kI;simp![pR,fd1,fd0,ad2,lMp,xM (show -(2^62)<=(rs.length:Int)by lia) (show(rs.length:Int)<2^62 by lia),Z,e]
def Ox{S T:List (Str×Int)}{v:Int}(h:rH x)(O:jZ S x=some v):gU [hD rs S T M,.str x]=some (.int v):=by
 unfold gU;simp![mJ,xO,uX h O,pR,fd1,JQ,O,dJ]
theorem Uk:∀{M:List D},(∀d∈M,∃n a b,d=.tuple [.str n,.int a,.int b]/\eW n=true)->lys 2 M
 |[],_=>vX
 |d::M,h=>by
  obtain⟨n,a,b,rfl,hn⟩:=h d au;exact mz (Tr (mz (Xe hn) (mz qQ (mz qQ vX)))) (Uk λd hd=>h d (aA _ hd))
def Ul:Sq (dcD qs) (dcD qs)=some (.bool false):=by
 unfold Sq dcD;dsimp only;rw[yX,aj];rw[aj,if_pos rfl]
def BW(h:Hou rs q0 M)(hq:∀q∈q0,rH q.1)(hm:∀d∈M,∃n a b,d=.tuple [.str n,.int a,.int b]/\eW n=true)(hM:M.length<900000):
 fJ [hD rs (SP q0) (TP q0) M,.list (rs.map .int),dP q0,.list M]=some (.bool true):=by
 have pl:=h.len;have rl:=h.rl;have J:=JR (rs:=rs) (S:=SP q0) (T:=TP q0) (M:=M);have en:(SP q0).map (λq=>eF q.1)=q0.map λq=>eF q.1:=by unfold SP;rw[bD];rfl
 rw[en]at J;have F:=JT (rs:=rs) (S:=SP q0) (T:=TP q0) (Hw h.fM);have n1:gNe (.list (q0.map λq=>eF q.1)) (.list (q0.map λq=>eF q.1))=some (.bool false):=by
  have:=X7 (xs:=q0.map (·.1)) λx hx=>by
   obtain⟨q,Z,rfl⟩:=aY.mp hx;exact X6 (hq q Z)
  rw[bD]at this;exact Com.ne_self (sW (Eh this) (by decide))
 have n2:=Com.ne_self (sW (Eh (Uk hm)) (by decide));have N:0+1+1<=sizeLine:=Com.sz (by decide);have O:0+1+1+1<=sizeLine:=Com.sz (by decide);obtain⟨B,l1,V,rfl⟩:=qM (g:=(gNl 4)) (b:=(sIf (bA (dOp gNe (dTup (aq (XI.iu gU aM aJ (ao 0) (aq (ao 4) (aX))) (aq (XI.iu gY aM aJ (ao 0) (aq (ao 4) (aX))) (aX)))) (dOp XI.oA (ao 2) (ao 4)))) (fO (dC (.bool false))) (gJ))) (λ_ δ=>∃V:Option U,δ=[sdq (hD rs (SP q0) (TP q0) M),sdq (.list (rs.map .int)),sdq (dP q0),sdq (.list M),V,none,none,none,none])
  (q0.map λq=>eF q.1) [sdq (hD rs (SP q0) (TP q0) M),sdq (.list (rs.map .int)),sdq (dP q0),sdq (.list M),none,none,none,none,none] ⟨none,rfl⟩ (by
  rintro i d δ hd ⟨V,rfl⟩;rw[aF]at hd;obtain⟨q,Z,rfl⟩:=iY.mp hd;have Y:=cY Z;have r1:=Ox (rs:=rs) (T:=TP q0) (M:=M) (hq q Y) (uW (S:=SP q0) (v:=q.2.1) (by rw[wK];exact h.nd) (aY.mpr ⟨q,Y,rfl⟩));have r2:=Ot (rs:=rs) (M:=M) (hq q Y) (uW (S:=SP q0) (v:=q.2.1) (by rw[wK];exact h.nd) (aY.mpr ⟨q,Y,rfl⟩)) (uW (S:=TP q0) (v:=q.2.2) (by rw[En];exact h.nd) (aY.mpr ⟨q,Y,rfl⟩));have pg:=JX (Eo h.nd (show(q.1,q.2)∈q0 from Y));have ns:gNe (.tuple [.int q.2.1,.int q.2.2]) (.tuple [.int q.2.1,.int q.2.2])=some (.bool false):=Com.ne_self (sW (Tr (n:=1) (mz qQ (mz qQ vX))) (by decide));refine⟨_,_,rfl,.inl ?_,sdq (.str q.1),rfl⟩;simp![mJ,xO,r1,r2,N,pg,ns])
 have o:=sY (rs:=rs) (M:=M) h.nd h.nr (by lia);obtain⟨C,l2,Q,rfl⟩:=qM (g:=(gNl 7)) (b:=(Gp 6 (dOp gIx (ao 7) (dC (.int 0))) (dOp gIx (ao 7) (dC (.int 1))))) (λi δ=>∃Q:Option U,δ=[sdq (hD rs (SP q0) (TP q0) M),sdq (.list (rs.map .int)),sdq (dP q0),sdq (.list M),V,sdq (dcD (QP q0)),sdq (dcD (QP (q0.take i))),Q,none])
  (q0.map λq=>ec [.int q.2.1,.int q.2.2]) [sdq (hD rs (SP q0) (TP q0) M),sdq (.list (rs.map .int)),sdq (dP q0),sdq (.list M),V,sdq (dcD (QP q0)),sdq (.dict []),none,none] ⟨none,rfl⟩ (by
  rintro i d δ hd ⟨Q,rfl⟩;rw[aF]at hd;obtain⟨q,Z,rfl⟩:=iY.mp hd;have il:i<q0.length:=(aH.mp Z).1;have w:Gn (QP (q0.take i)) q.2.1 q.2.2=QP (q0.take (i+1)):=by
   have tk:q0.take (i+1)=q0.take i++[q]:=by rw[nR,Z];rfl
   have R:((q0.take (i+1)).map (·.2.1)).Nodup:=h.nr.sublist ((u6 _ _).map _);rw[tk,bF]at R;have u:¬((QP (q0.take i)).any λz=>decide (z.1=q.2.1))=true:=λe=>by
    obtain⟨z,t,e⟩:=iG.mp e;exact(cL.mp R).2.2 z.1 (by rw[<-nO];exact aY.mpr ⟨z,t,rfl⟩) q.2.1 (by simp) (of_decide_eq_true e)
   unfold Gn;rw[if_neg u,tk];unfold QP;rw[bF];rfl
  have ln:(QP (q0.take i)).length<1000000:=by unfold QP;rw[ak,iD];lia
  refine⟨_,_,rfl,.inl ?_,sdq (.tuple [.int q.2.1,.int q.2.2]),rfl⟩;simp![at1,ac1,Tt,ln,w])
 rw[ak,oU]at l2;have K:=J0 (rs:=rs) (S:=SP q0) (T:=TP q0) (M:=M) (by lia);have L:(SP q0).map (·.2)=(QP q0).map (·.1):=by unfold SP QP;rw[bD,bD];rfl
 have s:((bC rs.length).filter λr:Nat=>!decide ((r:Int)∈(SP q0).map (·.2)))=(bC rs.length).filter λr:Nat=>!(dX (QP q0) (r:Int)).isSome:=by
  refine u_ λr _=>?_
  rw[L];congr 1;rw[Bool.eq_iff_iff,decide_eq_true_iff,pP]
 rw[s]at K;have G:∀(W d1 d2 d3 X E d7 d8:Option U),fD (gNl 0) (bA (dOp jx (ao 0) (ao 1))) (eN (ao 0)) (iw 1 [6] [W,d1,d2,d3,X,E,sdq (dcD (QP q0)),d7,d8]) (gM 0 (rs.length:Int))=some (((bC rs.length).filter λr:Nat=>!(dX (QP q0) (r:Int)).isSome).map λr:Nat=>du (r:Int)):=λW d1 d2 d3 X E d7 d8=>by
  rw[vW,dH];refine wJ (λi:Nat=>du (i:Int)) _ (λi:Nat=>du (i:Int)) (bC rs.length) λr _=>?_
  refine⟨[sdq (.int (r:Int)),sdq (dcD (QP q0))],rfl,?_,λ_=>?_⟩
  .simp![zU]
  .simp![]
 have p:(gM 0 (rs.length:Int)).length<=100000:=by rw[oE];lia
 have I:(((bC rs.length).filter λr:Nat=>!(dX (QP q0) (r:Int)).isSome).map λr:Nat=>du (r:Int)).length<1000000:=by
  rw[ak];have:=gH (λr:Nat=>!(dX (QP q0) (r:Int)).isSome) (bC rs.length);rw[eE]at this;lia
 have H:fl1 (.list (((bC rs.length).filter λr:Nat=>!(dX (QP q0) (r:Int)).isSome).map λr:Nat=>du (r:Int)))=true:=pN _ (λ_=>rfl) _;have n3:gNe (.list (((bC rs.length).filter λr:Nat=>!(dX (QP q0) (r:Int)).isSome).map λr:Nat=>du (r:Int))) (.list (((bC rs.length).filter λr:Nat=>!(dX (QP q0) (r:Int)).isSome).map λr:Nat=>du (r:Int)))=some (.bool false):=Com.ne_self (sW (Eh (LK (λr:Nat=>du (r:Int)) (λ_=>qQ (n:=0)) _)) (by decide));generalize (((bC rs.length).filter λr:Nat=>!(dX (QP q0) (r:Int)).isSome).map λr:Nat=>du (r:Int))=k at K G I H n3;have R:(decide (nl (dcD (QP q0))<=1))=true:=dTr (by
  unfold dcD
  cases QP q0<;>exact aN 1)
 have cl:∀(W d1 d2 d3 X d6 d7 d8:Option U),XI.ZJ 5 [W,d1,d2,d3,X,sdq (dcD (QP q0)),d6,d7,d8]=some (.nx [W,d1,d2,d3,X,sdq (.dict []),d6,d7,d8]):=λW d1 d2 d3 X d6 d7 d8=>by
  show g_ (iiD _) _=_;rw[yX];rfl
 have y:∀δ:DS,qJ (iu gj aM aJ (ao 0) aX) (dC (.str "x")) (sdq (hD rs (SP q0) (TP q0) M)::δ)=some (.nx (sdq (hD rs (SP q0) (TP q0) M)::δ)):=λδ=>by
  have:(iu gj aM aJ (ao 0) aX) (sdq (hD rs (SP q0) (TP q0) M)::δ)=some (.list (q0.map λq=>eF q.1)):=by
   simp![mJ,xO,J]
  unfold qJ;rw[this,aj];exact if_pos (by rw[ak];lia)
 have A:∀δ:DS,qJ (iu gq aM aJ (ao 0) aX) (dTup (aq (dC (.str "x")) (aq (dC (.int 0)) (aq (dC (.int 0)) aX)))) (sdq (hD rs (SP q0) (TP q0) M)::δ)=some (.nx (sdq (hD rs (SP q0) (TP q0) M)::δ)):=λδ=>by
  have a:(iu gq aM aJ (ao 0) aX) (sdq (hD rs (SP q0) (TP q0) M)::δ)=some (.list M):=by
   simp![mJ,xO,F]
  have b:(dTup (aq (dC (.str "x")) (aq (dC (.int 0)) (aq (dC (.int 0)) aX)))) (sdq (hD rs (SP q0) (TP q0) M)::δ)=some (.tuple [.str "x", .int 0,.int 0]):=by
   simp![O]
  unfold qJ;rw[a,aj,b,aj];exact if_pos (by lia)
 have l:(q0.map λq=>eF q.1).length<=100000:=by rw[ak];lia
 have m:(q0.map λq=>(ec [.int q.2.1,.int q.2.2])).length<=100000:=by rw[ak];lia
 unfold fJ;simp![mJ,xO,J,F,Xf,n1,n2,X_,ar0,l1,o,R,Ep,l2,K,H,Ul,lMp,xM (show -(2^62)<=(rs.length:Int)by lia) (show(rs.length:Int)<2^62 by lia),p,G,n3,cl,I,y,A]
def MvO(d:D):Prop:=∃n a b,d=.tuple [.str n,.int a,.int b]/\eW n=true
theorem Mz:∀(r:List (Int×Int))(P:List Gu),(P.map (·.2.1)).Nodup->(∀q∈P,rH q.1)->OkR rs r P->(∀d∈runM r P,MvO d)/\∀q∈iK r P,rH q.1
 |[],_,_,hq,_=>⟨λ_ h=>(by cases h),hq⟩
 |p::r,P,nr,hq,⟨⟨q0,W,U,_⟩,V,_,_,ok⟩=>by
  have Y:∀q∈mv P p.1 p.2,rH q.1:=λq Z=>by
   obtain⟨z,X,e⟩:=aY.mp Z;subst e;by_cases c:z.2.1=p.1
   .rw[if_pos c];exact hq z X
   .rw[if_neg c];exact hq z X
  obtain⟨a,b⟩:=Mz r _ (Mr nr V) Y ok;refine⟨λd hd=>?_,b⟩;rcases aC.mp hd with z|z
  .exact⟨_,_,_,z,by rw[JW nr W U];exact X6 (hq q0 W)⟩
  .exact a d z
section
variable{S T:List (Str×Int)}{M:List D}{d1 d2 d3 d6 d7 d8 d9:Option U}{k L:Int}{r y r2 r3:D}
def Um(h:dw [hD rs S T M,.str x,.int k]=some (.ex "Full" (.tuple [.int L,y])))(hs:iU "Full" (.int L) [sdq y,d1,d2,d3,sdq (.str x),sdq (.int k),d6,d7,none,d9]=some (.ex "" "" (.tuple [.bool true,r,r2,r3]))):
 flS (BJ 8 (wI dw aM aJ 0 (aq (ao 4) (aq (ao 5) (aX))) [0] 6) ["Full"] iU) [sdq (hD rs S T M),d1,d2,d3,sdq (.str x),sdq (.int k),d6,d7,d8,d9]=some (.ex "" "" (.tuple [.bool true,r,r2,r3])):=by
 unfold flS BJ wI;rw[show ao 0 [sdq (hD rs S T M),d1,d2,d3,sdq (.str x),sdq (.int k),d6,d7,d8,d9]=some (hD rs S T M)from rfl,aj,hC,aj];rw[show(aq (ao 4) (aq (ao 5) (aX))) [sdq (hD rs S T M),d1,d2,d3,sdq (.str x),sdq (.int k),d6,d7,d8,d9]=some [.str x,.int k]from rfl,aj,h];show g_ (if "Full"∈["Full"]then g_ (iU "Full" (.int L) [sdq y,d1,d2,d3,sdq (.str x),sdq (.int k),d6,d7,none,d9]) _ else none) _=_;rw[hs,if_pos (by simp)];rfl
def ae0(h:dw [hD rs S T M,.str x,.int k]=some (.o (.ex "T" "" (.tuple [r,y])))):
 flS (BJ 8 (wI dw aM aJ 0 (aq (ao 4) (aq (ao 5) (aX))) [0] 6) ["Full"] iU) [sdq (hD rs S T M),d1,d2,d3,sdq (.str x),sdq (.int k),d6,d7,d8,d9]=some (.nx [sdq y,d1,d2,d3,sdq (.str x),sdq (.int k),sdq r,d7,d8,d9]):=by
 unfold flS BJ wI;rw[show ao 0 [sdq (hD rs S T M),d1,d2,d3,sdq (.str x),sdq (.int k),d6,d7,d8,d9]=some (hD rs S T M)from rfl,aj,hC,aj];rw[show(aq (ao 4) (aq (ao 5) (aX))) [sdq (hD rs S T M),d1,d2,d3,sdq (.str x),sdq (.int k),d6,d7,d8,d9]=some [.str x,.int k]from rfl,aj,h];show g_ (g_ (if "T"="T"/\1=1/\6<10 then _ else none) _) _=_;rw[if_pos ⟨rfl,rfl,by decide⟩];rfl
end
section
variable{f:FTW}{g:FTW}{δ:DS}{F:List D->Option D}
def ar4(t:Option (Bool×DS))(g:FTW):Option (Bool×DS):=t.bind λp=>if p.1=true then some (true,p.2)else g p.2
def ar5:Zk f g δ=ar4 (f δ) g:=rfl
def ar6:ar4 (some (false,δ)) g=g δ:=(rfl)
def ar7(h:F ds=some (.tuple [.bool m,q,y,z])):qCW F (some ds) [i,t,k] δ=some (.bool m,((δ.set i (sdq q)).set t (sdq y)).set k (sdq z)):=by
 unfold qCW;rw[aj,h,aj];rfl
end
def Oz{P:List Gu}{M:List D}{k:Nat}(h:Hou rs P M)(hq:∀q∈P,rH q.1)(hm:∀d∈M,MvO d)(hx:rH x)(nx:x∉P.map (·.1))(h1:1<=k)(h2:k<=4)(hM:M.length<800000):
 ∃O M2,jr [hD rs (SP P) (TP P) M,.list (rs.map .int),dP P,.list M,.str x,.int (k:Int)]=some (.tuple [.bool true,hD rs (SP O) (TP O) M2,dP O,.list M2])/\Hou rs O M2/\(∀q∈O,rH q.1)/\(∀d∈M2,MvO d)/\M2.length<=M.length+4:=by
 have pl:=h.len;have rl:=h.rl;have Q:=sY (rs:=rs) (M:=M) h.nd h.nr (by lia);have X:0+1+1<=sizeLine:=Com.sz (by decide);have fb:flat (.bool true)=true:=rfl;have K:(dN1 (dC .none))=dC .none:=rfl;rcases HB h hx nx h1 h2 (by lia)with⟨L,hd,t,e⟩|⟨r,Z,g,u,j,C,ok,e,n1,o,I,g1,f,s⟩
 .have W:=zW h.gs (by lia) (by lia) (by lia) hd;have H:=zV (rs:=rs) (qs:=QP P) (k:=k) (by lia) (by lia);rw[t]at H;have E:∀(d1 d6 d8 d9:Option U),iU "Full" (.int L) [sdq (hD rs (SP P) (TP P) M),sdq (.list (rs.map .int)),sdq (dP P),sdq (.list M),sdq (.str x),sdq (.int (k:Int)),d6,some (.d .none),d8,d9]=some (.ex "" "" (.tuple [.bool true,hD rs (SP P) (TP P) M,dP P,.list M])):=λd1 d6 d8 d9=>by
   have:(Cm (dUn Cp (ao 7)) (dOp gEq (dC (.int L)) (dCall fY (aq (ao 1) (aq (iu cD aM aJ (ao 0) (aX)) (aq (ao 5) (aX))))))) [sdq (hD rs (SP P) (TP P) M),sdq (.list (rs.map .int)),sdq (dP P),sdq (.list M),sdq (.str x),sdq (.int (k:Int)),d6,some (.d .none),d8,d9]=some (.bool true):=by
    simp![mJ,xO,Q,H,JL]
   unfold iU Lj;rw[if_pos rfl,this];rfl
  refine⟨P,M,?_,h,hq,hm,by lia⟩;unfold jr;simp![Ht,K,mJ,xO,Q,W,Um e (E none _ _ _),T7,Ml]
 .have W:=Em h.gs (by lia) (by lia) (by lia) u;obtain⟨y,B⟩:=Mz Z P h.nr hq ok;have em:=Ov (M:=M) h.nd h.nr (by lia) (by lia) ok;have w:(M++runM Z P).length<=M.length+4:=by rw[aV,Hy];lia
  have i:(iK Z P).length=P.length:=by
   have:=congrArg lO n1;simpa using this
  refine⟨iK Z P++[(x,g,(k:Int))],M++runM Z P,?_,s,λq R=>?_,λd hd=>?_,w⟩
  .have l:=vY (rs:=rs) I g1;have m:¬rs.getD g.toNat 0<(k:Int):=by lia
   have b0:(decide ((0:Int)<=g))=true:=dTr I;have b1:(decide (g<((rs.map du).length:Int)))=true:=dTr (by rw[ak];exact g1);have G:cV [.int g]=some (.bool true):=lwh;have it:∀a b:D,gIs "tuple" (.tuple [a,b])=some (.bool true):=λ_ _=>rfl
   have F:((iK Z P).map λq=>(ec [.int q.2.1,.int q.2.2])).length<=100000:=by rw[ak];lia
   have tk:∀δ:DS,fD (gNl 0) (D3.rE) (eN (dOp gIx (ao 0) (dC (.int 0)))) (iw 1 [] δ) ((iK Z P).map λq=>(ec [.int q.2.1,.int q.2.2]))=some (((iK Z P).map (·.2.1)).map .int):=λδ=>by
    rw[bD];refine Oq (λq:Gu=>ec [.int q.2.1,.int q.2.2]) (λq:Gu=>du q.2.1) (iK Z P) λq hq=>⟨[sdq (.tuple [.int q.2.1,.int q.2.2])],rfl,rfl,?_⟩
    simp![]
   have A:=dFa o;have fi:∀(Y d1 d2 d3 T V d7 d8 d9:Option U),SJ 6 1 [Y,d1,d2,d3,T,V,sdq (.tuple [.int g,.list (Z.map mpD)]),d7,d8,d9]=some (.list (Z.map mpD)):=λ_ _ _ _ _ _ _ _ _=>rfl
   have ln:gNe (.int ((Z.map mpD).length+1:Int)) (.int ((((k:Int)::r).map du).length:Int))=some (.bool false):=by
    rw[show((Z.map mpD).length+1:Int)=((((k:Int)::r).map du).length:Int)by rw[ak,ak,aO];lia];exact Com.ne_self (sW (qQ (n:=0)) (by decide))
   have fz:(flat (ec [.int 0,.int 0]))=true:=rfl;have S:(Z.map mpD).length<1000000:=by rw[ak];lia
   have J:∀(Y d1 d2 d3 T V d7 d8 d9:Option U),goN (Ka 6 (dC (.int 1)) (dTup (aq (dC (.int 0)) (aq (dC (.int 0)) (aX))))) [Y,d1,d2,d3,T,V,sdq (.tuple [.int g,.list (Z.map mpD)]),d7,d8,d9]=some (.nx [Y,d1,d2,d3,T,V,sdq (.tuple [.int g,.list (Z.map mpD++[.tuple [.int 0,.int 0]])]),d7,d8,d9]):=λ_ _ _ _ _ _ _ _ _=>by
    have:∀δ:DS,(dTup (aq (dC (.int 0)) (aq (dC (.int 0)) (aX)))) δ=some (.tuple [.int 0,.int 0]):=λδ=>by
     simp![X]
    unfold goN Ka YH;rw[this];show g_ (g_ (if flat (ec [.int 0,.int 0])=true/\(Z.map mpD).length<1000000 then _ else none) _) _=_;rw[if_pos ⟨fz,S⟩];rfl
   have pn:uo (iK Z P) x (g,(k:Int))=iK Z P++[(x,g,(k:Int))]:=by
    unfold uo;rw[if_neg];intro e;obtain⟨z,v,e⟩:=iG.mp e;exact nx (by rw[<-n1,<-of_decide_eq_true e];exact aY.mpr ⟨z,v,rfl⟩)
   have pp:∀(Y d1 d3 d6 d7 d8:Option U),goN (zO 2 (ao 4) (dTup (aq (ao 9) (aq (ao 5) (aX))))) [Y,d1,sdq (dP (iK Z P)),d3,sdq (.str x),sdq (.int (k:Int)),d6,d7,d8,sdq (.int g)]=some (.nx [Y,d1,sdq (dP (iK Z P++[(x,g,(k:Int))])),d3,sdq (.str x),sdq (.int (k:Int)),d6,d7,d8,sdq (.int g)]):=λY d1 d3 d6 d7 d8=>by
    rw[ar3 (P:=iK Z P) (x:=x) (a:=g) (b:=(k:Int)) (by simp![X]) rfl rfl (by lia),pn];rfl
   have N:Cp (.list (((k:Int)::r).map du))=some (.bool false):=rfl;generalize p:((k:Int)::r).map du=FF at W ln N;generalize Z.map mpD=c at e em fi ln J;unfold jr;simp![Ht,K,mJ,xO,Q,W,ae0 e,it,Ue,ar5,Ug,Mu,Mw,fi,aB0 em,aq9,aq8,ar6,aq7,at1,ln,aA9,ad8,G,b0,b1,l,dFa m,Ep,F,tk,Mx,A,pp,J,T6,v7,zX,T5,ap6,fb,Ml]
  .rcases bO.mp R with z|z
   .exact B q z
   .simp at z;subst z;exact hx
  .rcases bO.mp hd with z|z
   .exact hm d z
   .exact y d z
theorem HJ:∀{P:List Gu}{x:Str}{q:Int×Int},ud P x=some q->(x,q)∈P
 |[],_,_,h=>by cases h
 |p::P,x,q,h=>by
  rw[pJ]at h;by_cases c:p.1=x
  .rw[if_pos c]at h;injection h with h
   rw[<-h,<-c];exact au
  .rw[if_neg c]at h;exact aA _ (HJ h)
def Uo(h:ud k x=none):x∉k.map (·.1):=λz=>by
 obtain⟨q,hq,rfl⟩:=aY.mp z;have:∀{k:List Gu},q∈k->(ud k q.1).isSome=true:=by
  intro k
  induction k with
  |nil=>intro h;cases h
  |cons p k Z=>
   intro h;rw[pJ];by_cases c:p.1=q.1
   .rw[if_pos c];rfl
   .rw[if_neg c];rcases aC.mp h with z|z
    .exact absurd (by rw[z]) c
    .exact Z z
 have:=this hq;rw[h]at this
 cases this
def Uq(ns:List Int)(h:ns.length<=63):TY [.list (ns.map .int)]=some (.bool true):=by
 obtain⟨rs,z,rl,rk⟩:=JF (ns:=ns) (a:=0) (m:=12) (by decide) (by decide) (by decide);obtain⟨xs,ex,H,Q⟩:=Ud ns;have pt:=λ(i k m:Int)(B:0<=i)(h1:0<=k)(h2:k<=1000)(h3:0<m)=>pL (ns:=ns) B h1 h2 h3
 obtain⟨δ',e,P,M,R,S,rfl,_⟩:=qM (g:=(gNl 7)) (b:=(bZ (bY 8 (dOp gIx (ao 4) (dCall cg (aq (ao 0) (aq (ao 7) (aq (dC (.int 0)) (aq (dC (.int 12)) (aX)))))))) (bZ (sIf (bA (dOp XI.R8 (ao 8) (ao 5))) (XI.GQ (XI.oR (XI.Hh gNe (XI.sV iT aM aJ 3 (aq (ao 8) (aX)) [3]) (XI.RW gIx (XI.Hf 5 (ao 8)) (dC (.int 0))))) (fO (dC (.bool false))) (gJ)) (XI.GQ (XI.Bu (XI.oR (XI.zF jr (aq (ao 3) (aq (ao 1) (aq (ao 5) (aq (ao 6) (aq (ao 8) (aq (dOp lu (dC (.int 1)) (dCall cg (aq (ao 0) (aq (ao 7) (aq (dC (.int 1)) (aq (dC (.int 4)) (aX))))))) (aX))))))) [3,5,6]))) (fO (dC (.bool false))) (gJ))) (sIf (D3.tOr (D3.lU (bA (dCall fJ (aq (ao 3) (aq (ao 1) (aq (ao 5) (aq (ao 6) (aX)))))))) (D3.lU (bA (dCall fJ (aq (ao 3) (aq (ao 1) (aq (ao 5) (aq (ao 6) (aX))))))))) (fO (dC (.bool false))) (gJ)))))
  (λi δ=>∃(P:List Gu)(M:List D)(R S:Option U),δ=[sdq (.list (ns.map .int)),sdq (.list (rs.map .int)),sdq (.list (rs.map .int++[.int 4])),sdq (hD rs (SP P) (TP P) M),sdq (.list (xs.map .str)),sdq (dP P),sdq (.list M),R,S]/\Hou rs P M/\(∀q∈P,rH q.1)/\(∀d∈M,MvO d)/\M.length<=4*i)
  (gM 4 (if(32:Int)<ns.length then 32 else ns.length)) [sdq (.list (ns.map .int)),sdq (.list (rs.map .int)),sdq (.list (rs.map .int++[.int 4])),sdq (hD rs [] [] []),sdq (.list (xs.map .str)),sdq (.dict []),sdq (.list []),none,none]
  ⟨[],[],none,none,rfl,⟨by lia,rk,List.nodup_nil,Gst.nil rs,λ_ h=>by cases h⟩,(λ_ h=>by cases h),(λ_ h=>by cases h),by simp⟩ (by
  rintro i d δ hd ⟨P,M,R,S,rfl,V,hq,hm,w⟩;obtain⟨rfl,hi⟩:=Uh hd;have L:=jX ns (4+i) 0 (m:=12) (by decide);obtain⟨x,I,ea⟩:=LC eF (l:=xs) L.1 (by rw[H];exact L.2);have hx:=Q x I;have X:=pt (4+i) 0 12 (by lia) (by decide) (by decide) (by decide);have p1:=pt (4+i) 1 4 (by lia) (by decide) (by decide) (by decide);have k1:=jX ns (4+i) 1 (m:=4) (by decide);obtain⟨k,C⟩:∃k:Nat,(k:Int)=1+jl ns (4+i) 1 4:=⟨(1+jl ns (4+i) 1 4).toNat,by lia⟩
  cases W:ud P x with
  |some q=>
   have N:=HJ W;have es:jZ (SP P) x=some q.1:=uW (by rw[wK];exact V.nd) (aY.mpr ⟨(x,q),N,rfl⟩);have A:jZ (TP P) x=some q.2:=uW (by rw[En];exact V.nd) (aY.mpr ⟨(x,q),N,rfl⟩);have J:=T_ (rs:=rs) (M:=M) hx es A;rw[ad6,ad7]at J;have H2:Hou rs (rmv P x) M:=V.out;have q2:∀q∈rmv P x,rH q.1:=λq O=>hq q (cQ.mp O).1
   have ke:=BW H2 q2 hm (by lia);have fi:flat (.int q.1)=true:=rfl;have F:gNe (.int q.1) (.int q.1)=some (.bool false):=Com.ne_self (sW (qQ (n:=0)) (by decide));have G:∀(Y d1 d2 Z d6 d7:Option U),(XI.oR (XI.Hh gNe (XI.sV iT aM aJ 3 (aq (ao 8) (aX)) [3]) (XI.RW gIx (XI.Hf 5 (ao 8)) (dC (.int 0))))) [Y,d1,d2,sdq (hD rs (SP P) (TP P) M),Z,sdq (dP P),d6,d7,sdq (.str x)]=some (false,[Y,d1,d2,sdq (hD rs (SP (rmv P x)) (TP (rmv P x)) M),Z,sdq (dP (rmv P x)),d6,d7,sdq (.str x)]):=λY d1 d2 Z d6 d7=>by
    have a1:XI.sV iT aM aJ 3 (aq (ao 8) (aX)) [3] [Y,d1,d2,sdq (hD rs (SP P) (TP P) M),Z,sdq (dP P),d6,d7,sdq (.str x)]=some (.int q.1,[Y,d1,d2,sdq (hD rs (SP (rmv P x)) (TP (rmv P x)) M),Z,sdq (dP P),d6,d7,sdq (.str x)]):=by
     simp![Mj,ap5 J fi]
    have a2:XI.Hf 5 (ao 8) [Y,d1,d2,sdq (hD rs (SP (rmv P x)) (TP (rmv P x)) M),Z,sdq (dP P),d6,d7,sdq (.str x)]=some (.tuple [.int q.1,.int q.2],[Y,d1,d2,sdq (hD rs (SP (rmv P x)) (TP (rmv P x)) M),Z,sdq (dP (rmv P x)),d6,d7,sdq (.str x)]):=by
     show(ptD (ptP P)).bind _=_;rw[xu,aj];show(ud P x).bind _=_;rw[W];rfl
    have a3:gIx (.tuple [.int q.1,.int q.2]) (.int 0)=some (.int q.1):=at0;unfold oR Hh RW;rw[a1,aj];dsimp only;rw[a2,aj];dsimp only[dC];rw[aj,a3,aj,aj];dsimp only;rw[F];rfl
   refine⟨_,[sdq (.list (ns.map .int)),sdq (.list (rs.map .int)),sdq (.list (rs.map .int++[.int 4])),sdq (hD rs (SP (rmv P x)) (TP (rmv P x)) M),sdq (.list (xs.map .str)),sdq (dP (rmv P x)),sdq (.list M),sdq (.int (4+i)),sdq (.str x)],rfl,.inl ?_,rmv P x,M,_,_,rfl,H2,q2,hm,by lia⟩;simp![X,ea,X8,W,m_,Ue,G,ad8,ke]
  |none=>
   have nx:=Uo W;obtain⟨T,M2,y,H2,q2,K,l2⟩:=Oz (k:=k) V hq hm hx nx (by lia) (by lia) (by lia);have ke:=BW H2 q2 K (by lia);refine⟨_,[sdq (.list (ns.map .int)),sdq (.list (rs.map .int)),sdq (.list (rs.map .int++[.int 4])),sdq (hD rs (SP T) (TP T) M2),sdq (.list (xs.map .str)),sdq (dP T),sdq (.list M2),sdq (.int (4+i)),sdq (.str x)],rfl,.inl ?_,T,M2,_,_,rfl,H2,q2,K,by lia⟩;simp![X,ea,X8,W,jK,p1,<-C,Ue,Ug,Mu,Mw,ar7 y,aq9,aq8,ad8,ke])
 have r2:Tf (some [.int 4,.int (if(32:Int)<ns.length then 32 else ns.length)])=some (gM 4 (if(32:Int)<ns.length then 32 else ns.length)):=aa9 (by split<;>lia) (by split<;>lia) (by decide) (by decide);have E:rs.length<1000000:=by lia
 unfold TY;simp![z,aA7,aA8,E,ex,sz (show 0<=1000000 by decide),r2,lMp,e]
open L2 XC XS
noncomputable def top(i:Nat):et:=PySem.Challenge.pw_nightbook_k66_whole_evenings.main.body.getD i (.Pass ⟨0,0,0,0⟩)
def jF(i j:Nat):et:=match top i with
 |.ClassDef _ _ _ b _ _ _ _ _ _ _=>b.getD j (.Pass ⟨0,0,0,0⟩)
 |s=>s
section
seal PE PT PW PA PS PSs PG PGs PI PO PTs
structure HC_House(K:aaa):Prop where
 cl:Cls K aM
 n_rooms:jD K aM "rooms"
 n_places:jD K aM "places"
 n_wished:jD K aM "wished"
 n_moves_done:jD K aM "moves_done"
def HN(D:Dg K mg "is_whole" (top 8) ["thing"])(B:Bl mg):Has P w K mg base (n+1) "is_whole" ["thing"] (spD K jQ):=by
 have sc:FnScope ["thing"] ["thing"] (aR (top 8)):=fsc;exact lY (fl:=[.A]) D sc (by decide) (by decide) λf cdv A outer s H E Z=>bN (cR (dg (Je (aZ (sy (T := "int") (by decide) (vP 0) (by rfl) B.isinstance_ (by rfl) B.int_ PyProof.Rows.boot_int)) (Jd (Ql (aZ (sy (T := "bool") (by decide) (vP 0) (by rfl) B.isinstance_ (by rfl) B.bool_ gf)))))))
def uZ(D:Dg K mg "is_whole_within" (top 9) ["thing","least","most"])(B:Bl mg)(O:Has P w K mg base n "is_whole" ["thing"] (spD K jQ)):Has P w K mg base (n+1) "is_whole_within" ["thing","least","most"] (spD K dI):=by
 have sc:FnScope ["thing","least","most"] ["thing","least","most"] (aR (top 9)):=fsc;exact lY (fl:=[.A,.A,.A]) D sc (by decide) (by decide) λf cdv A outer s H E Z=>bN (cR (dg (Je (gF (cU O Z (dq (vP 0) dz))) (Jd (Gd Az Az Nf Nf (vP 1) (vP 0) (vP 2))))))
def Er(D:Dg K mg "free_from" (top 11) ["rooms","guests","kind"])(B:Bl mg):Has P w K mg base (n+1) "free_from" ["rooms","guests","kind"] (spD K fH):=by
 have sc:FnScope ["rooms","guests","kind"] ["rooms","guests","kind"] (aR (top 11)):=fsc;exact lY (fl:=[.A,.A,.A]) D sc (by decide) (by decide) λf cdv A outer s H E Z=>bN (cR (dg (kj (L:=[]) (fl':=[.A,.A,.A,.A]) rfl ["room","own"] ["kind","guests"] [2,1] (Kr (vB 0) (by rfl) B.enumerate_) (λ_ _ _ _ _=>uI rfl (h_ (gN' (i:=0) (show(["room","own","kind","guests"]:List Str).Nodup by decide +kernel)) (h_ (gN' (i:=1) (show(["room","own","kind","guests"]:List Str).Nodup by decide +kernel)) (qw)))) (λ_ _ _ _ _=>jJ (wA (CN (cM rN yR (vP 1) (vP 2) (cW _)) (xY (cM (tW Z.units) zm (vP 0) (vP 3) (by with_unfolding_all rfl)))))) (λ_ _ _ _ _=>fj (jE (vP 0))))))
def xP(D:Dg K mg "least_wished" (top 12) ["rooms","guests","kind"])(B:Bl mg):Has P w K mg base (n+1) "least_wished" ["rooms","guests","kind"] (spD K eG):=by
 have sc:FnScope ["rooms","guests","kind"] ["rooms","guests","kind"] (aR (top 12)):=fsc;exact lY (fl:=[.A,.A,.A]) D sc (by decide) (by decide) λf cdv A outer s H E Z=>bN (cR (dg (VL rfl (dq (aZ (Q7 (fl':=[.A,.A,.A,.A]) rfl ["room"] ["guests","kind","rooms"] [1,2,0] (vP 1) (λ_ _ _ _ _=>gN' (i:=0) (show(["room","guests","kind","rooms"]:List Str).Nodup by decide +kernel)) (λ_ _ _ _ _=>jJ (cM rN yR (dY (dx (vB 3) (vP 0))) (vP 2) (cW _))) (λ_ _ _ _ _=>fj (Di (hu1 Z.units) (vP 1) (vP 0) (λ_ _=>rfl))))) dz) (vP 2) (by rfl) B.min_)))
def HS(D:Dg K mg "falls_of" (top 13) ["rooms","guests","kind"])(B:Bl mg)(Y:Has P w K mg base n "free_from" ["rooms","guests","kind"] (spD K fH))(U:Has P w K mg base n "least_wished" ["rooms","guests","kind"] (spD K eG)):Has P w K mg base (n+1) "falls_of" ["rooms","guests","kind"] (spD K i_):=by
 have sc:FnScope ["rooms","guests","kind","falls","least"] ["rooms","guests","kind"] (aR (top 13)):=fsc;exact lY (fl:=[.A,.A,.A,.O,.A]) D sc (by decide) (by decide) λf cdv A outer s H E Z=>bB (qu (i:=3) rfl sc.nd rfl (by first|exact Or.inl rfl|exact Or.inr rfl) (CK (dq (vA 2) dz)))
  (bB (Gb ez (cM (oH Z.units) Ad (gF (cU Y Z (dq (vP 0) (dq (vP 1) (dq (dY (dx (oM 3) (aZ (qy iP)))) dz))))) (aZ (lK dz)) (cW _)) (bB (sA (i:=4) sc.nd (wW (cU U Z (dq (vP 0) (dq (vP 1) (dq (dY (dx (oM 3) (aZ (qy iP)))) dz))))))
  (bB (nA (cM rN yR (vP 4) (dY (dx (oM 3) (aZ (qy iP)))) (cW _)) (bN (cR (dg (Cw)))) (iB))
  (bN (mW (i:=3) rfl (vA 4) rfl)))))
  (bN (cR (vD 3 (by decide)))))
def wL(D:Dg K mg "guest_to_move" (top 14) ["rooms","guests","kind","wished"])(B:Bl mg):Has P w K mg base (n+1) "guest_to_move" ["rooms","guests","kind","wished"] (spD K eU):=by
 have sc:FnScope ["rooms","guests","kind","wished"] ["rooms","guests","kind","wished"] (aR (top 14)):=fsc;exact lY (fl:=[.A,.A,.A,.A]) D sc (by decide) (by decide) λf cdv A outer s H E Z=>bN (cR (dg (jE (dY (dx (nj (fu (kj (L:=[]) (fl':=[.A,.A,.A,.A,.A]) rfl ["room"] ["kind","wished","rooms","guests"] [2,3,0,1] (tK (nj (fu (QZ rfl (dq (vP 1) dz) (by rfl) B.sorted_)))) (λ_ _ _ _ _=>gN' (i:=0) (show(["room","kind","wished","rooms","guests"]:List Str).Nodup by decide +kernel)) (λ_ _ _ _ _=>jJ (wA (CN (cM rN yR (dY (dx (vB 3) (vP 0))) (vP 1) (cW _)) (xY (cM (oH Z.units) Ad (aZ (Di (hu1 Z.units) (vP 4) (vP 0) (λ_ _=>rfl))) (vP 2) (cW _)))))) (λ_ _ _ _ _=>fj (jE (vP 0)))))) iP)))))
def HW(D:Dg K mg "moves_by" (top 15) ["rooms","guests","falls"])(B:Bl mg)(Y:Has P w K mg base n "free_from" ["rooms","guests","kind"] (spD K fH))(U:Has P w K mg base n "guest_to_move" ["rooms","guests","kind","wished"] (spD K eU)):Has P w K mg base (n+1) "moves_by" ["rooms","guests","falls"] (spD K jR):=by
 have sc:FnScope ["rooms","guests","falls","goal","moves","kind","wished","room"] ["rooms","guests","falls"] (aR (top 15)):=fsc;exact lY (fl:=[.A,.A,.A,.A,.O,.A,.A,.A]) D sc (by decide) (by decide) λf cdv A outer s H E Z=>bB (sA (i:=3) sc.nd (dx (nj (wW (cU Y Z (dq (vP 0) (dq (vP 1) (dq (dY (dx (vB 2) (aZ (qy iP)))) dz)))))) iP))
  (bB (qu (i:=4) rfl sc.nd rfl (by first|exact Or.inl rfl|exact Or.inr rfl) (yP (lK dz)))
  (bB (uJ (L:=[]) ez rfl (Y5 (nj (fu (VH (vP 2) (Xm (ah2 (vB 2) (Vk iP) Vj)) rfl (by rfl) B.list_ (by rfl) B.zip_))) (by rfl) B.reversed_) (uI rfl (h_ (gN' (i:=5) sc.nd) (h_ (gN' (i:=6) sc.nd) (qw)))) (bB (sA (i:=7) sc.nd (wW (cU U Z (dq (vP 0) (dq (vP 1) (dq (vP 5) (dq (vP 6) dz)))))))
  (bB (mW (i:=4) rfl (mG rfl (dq (vA 7) (dq (vA 3) dz))) rfl)
  (bN (sA (i:=3) sc.nd (vA 7))))))
  (bN (cR (mG rfl (dq (vD 4 (by decide)) (dq (dg (jE (vP 3))) dz)))))))
def HX(D:Dg K mg "is_level" (top 16) ["rooms","guests","level"])(B:Bl mg):Has P w K mg base (n+1) "is_level" ["rooms","guests","level"] (spD K jo):=by
 have sc:FnScope ["rooms","guests","level"] ["rooms","guests","level"] (aR (top 16)):=fsc;exact lY (fl:=[.A,.A,.A]) D sc (by decide) (by decide) λf cdv A outer s H E Z=>bN (cR (dg (gQ (wB rfl) Qw (by rfl) B.all_ (show bootBuiltins "all"=some (.builtin "all")by decide +kernel) (dq (aZ (kj (L:=[]) (fl':=[.A,.A,.A,.A]) rfl ["room","own"] ["level","guests"] [2,1] (Kr (vB 0) (by rfl) B.enumerate_) (λ_ _ _ _ _=>uI rfl (h_ (gN' (i:=0) (show(["room","own","level","guests"]:List Str).Nodup by decide +kernel)) (h_ (gN' (i:=1) (show(["room","own","level","guests"]:List Str).Nodup by decide +kernel)) (qw)))) (λ_ _ _ _ _=>jJ (cM rN yR (vP 1) (vP 2) (cW _))) (λ_ _ _ _ _=>fj (IW rN yR (aZ (Gw (hu1 Z.units) (vP 3) (vP 0) iP ⟨rfl,rfl,rfl,rfl⟩)) (vP 2) (cW _))))) dz))))
def HY(D:Dg K mg "admitted" (top 17) ["rooms","guests","kind"])(B:Bl mg)(Z:Has P w K mg base n "falls_of" ["rooms","guests","kind"] (spD K i_))(U:Has P w K mg base n "moves_by" ["rooms","guests","falls"] (spD K jR))(Y:Has P w K mg base n "is_level" ["rooms","guests","level"] (spD K jo)):Has P w K mg base (n+1) "admitted" ["rooms","guests","kind"] (spD K fP):=by
 have sc:FnScope ["rooms","guests","kind","falls","found"] ["rooms","guests","kind"] (aR (top 17)):=fsc;exact lY (fl:=[.A,.A,.A,.O,.N]) D sc (by decide) (by decide) λf cdv A outer s H E X=>bB (qu (i:=3) rfl sc.nd rfl (by first|exact Or.inl rfl|exact Or.inr rfl) (yP (Qg (cU Z X (dq (vP 0) (dq (vP 1) (dq (vP 2) dz)))))))
  (bB (nA (Qu (FQ (oM 3))) (bN (cR (mG rfl (dq (dg (qp)) (dq (dg (gQ (Ni rfl) YX (by rfl) B.max_ PyProof.Rows.boot_max (dq (aZ (kj (L:=[]) (fl':=[.A,.A,.A]) rfl ["level"] ["rooms","guests"] [0,1] (wu (by rfl) B.range_ (rZ (dq iP (dq (aZ (eO jN nu (vP 2) iP)) dz)))) (λ_ _ _ _ _=>gN' (i:=0) (show(["level","rooms","guests"]:List Str).Nodup by decide +kernel)) (λ_ _ _ _ _=>jJ (j_ (gF (cU Y X (dq (vP 1) (dq (vP 2) (dq (vP 0) dz))))))) (λ_ _ _ _ _=>fj (jE (vP 0))))) dz))) dz))))) (iB))
  (bB (nZ (i:=4) rfl sc.nd rfl (by first|exact Or.inl rfl|exact Or.inr rfl) (Kv (cU U X (dq (vP 0) (dq (vP 1) (dq (FQ (oM 3)) dz))))))
  (bN (cR (mG rfl (dq (dg (qp)) (dq (uK rfl (Gj 4 rfl) iP (λ_ _=>rfl)) (dq (uK rfl (Gj 4 rfl) iP (λ_ _=>rfl)) (dq (vD 3 (by decide)) dz)))))))))
def J4(D:Dg K mg "is_name" (top 21) ["thing"])(B:Bl mg)(O:∃t,mg "MOST_SIGNS"=some (.int 8 t)):Has P w K mg base (n+1) "is_name" ["thing"] (spD K lG):=by
 have sc:FnScope ["thing"] ["thing"] (aR (top 21)):=fsc;exact lY (fl:=[.A]) D sc (by decide) (by decide) λf cdv A outer s H E Z=>bB (nA (wA (nY (jO (j_ (aZ (sy (T := "str") (by decide) (vP 0) (by rfl) B.isinstance_ (by rfl) B.str_ PyProof.Rows.boot_str)))) (qx (jO (yS Az Az Nf Nf iP (aZ (gQ Cg XW.Zf (by rfl) B.len_ aaf (dq (vP 0) dz))) (aZ (Kg O))))))) (bN (cR (dg (j9)))) (iB))
  (bN (cR (dg (gQ (wB rfl) Qw (by rfl) B.all_ (show bootBuiltins "all"=some (.builtin "all")by decide +kernel) (dq (aZ (kj (L:=[]) (fl':=[.A]) rfl ["sign"] [] [] (XW.Zj (vP 0)) (λ_ _ _ _ _=>gN' (i:=0) (show(["sign"]:List Str).Nodup by decide +kernel)) (λ_ _ _ _ _=>tM) (λ_ _ _ _ _=>fj (Gd XI.RQ XI.RQ XI.Xv XI.Xv (aZ (qp)) (vP 0) (aZ (qp)))))) dz)))))
def Es(D:Dg K mg "_law_cell" (top 24) ["_law_script","_law_at"])(B:Bl mg):Has P w K mg base (n+1) "_law_cell" ["_law_script","_law_at"] (spD K iR):=by
 have sc:FnScope ["_law_script","_law_at"] ["_law_script","_law_at"] (aR (top 24)):=fsc;exact lY (fl:=[.A,.A]) D sc (by decide) (by decide) λf cdv A outer s H E Z=>bB (nA (cM Ay b_lt (vP 1) (aZ (gQ cP nC (by rfl) B.len_ aaf (dq (vP 0) dz))) (cW _)) (bN (cR (dg (eO lH uh (dY (dx (vB 0) (vP 1))) iP)))) (iB))
  (bB (nA (cM (oH Z.units) Ad (vP 0) (aZ (lK dz)) (cW _)) (bN (cR (dg (eO jN nu (aZ (eO mQ vG iP (vP 1))) iP)))) (iB))
  (bN (cR (dg (eO jN nu (aZ (eO lH uh (dY (dx (vB 0) (aZ (eO lH uh (aZ (eO mQ vG (vP 1) iP)) (aZ (gQ cP nC (by rfl) B.len_ aaf (dq (vP 0) dz))))))) iP)) (aZ (eO mQ vG iP (vP 1))))))))
def Et(D:Dg K mg "_law_part" (top 25) ["_law_script","_law_at","_law_k","_law_many"])(B:Bl mg)(O:Has P w K mg base n "_law_cell" ["_law_script","_law_at"] (spD K iR)):Has P w K mg base (n+1) "_law_part" ["_law_script","_law_at","_law_k","_law_many"] (spD K cg):=by
 have sc:FnScope ["_law_script","_law_at","_law_k","_law_many","_law_number","_law_j"] ["_law_script","_law_at","_law_k","_law_many"] (aR (top 25)):=fsc;exact lY (fl:=[.A,.A,.A,.A,.A,.A]) D sc (by decide) (by decide) λf cdv A outer s H E Z=>bB (nA (wA (CN (cM Ay b_lt (vP 1) (aZ (gQ cP nC (by rfl) B.len_ aaf (dq (vP 0) dz))) (cW _)) (xY (cM rN yR (dY (dx (vB 0) (vP 1))) (aZ (eO Yu ag9 iP iP)) (cW _))))) (bB (sA (i:=4) sc.nd (dx (vB 0) (vP 1)))
  (bB (uJ (L:=[]) ez rfl (jU (by rfl) B.range_ (rZ (dq (vP 2) dz))) (gN' (i:=5) sc.nd) (bN (sA (i:=4) sc.nd (fu (eO Kh Xn (vP 4) iP)))))
  (bN (nA (cM af7 au7 (vP 4) iP (cW _)) (bN (cR (dg (eO lH uh (aZ (eO lH uh (vP 4) iP)) (vP 3))))) (iB))))) (iB))
  (bB (sA (i:=4) sc.nd (fu (eO lH uh (aZ (eO mQ vG (aZ (eO jN nu (aZ (eO jN nu (gF (cU O Z (dq (vP 0) (dq (vP 1) dz)))) (aZ (eO mQ vG iP (vP 1))))) iP)) (aZ (eO jN nu iP (aZ (eO mQ vG iP (vP 2))))))) iP)))
  (bB (sA (i:=4) sc.nd (fu (eO jN nu (aZ (eO lH uh (aZ (eO mQ vG (vP 4) (vP 4))) iP)) iP)))
  (bN (cR (dg (eO lH uh (aZ (eO Kh Xn (aZ (eO lH uh (aZ (eO mQ vG (vP 4) (vP 4))) iP)) iP)) (vP 3)))))))
def Ak(D:Dg K mg "_law_whole" (top 26) ["_law_found"])(B:Bl mg):Has P w K mg base (n+1) "_law_whole" ["_law_found"] (spD K cV):=by
 have sc:FnScope ["_law_found"] ["_law_found"] (aR (top 26)):=fsc;exact lY (fl:=[.A]) D sc (by decide) (by decide) λf cdv A outer s H E Z=>bN (cR (dg (Je (aZ (sy (T := "int") (by decide) (vP 0) (by rfl) B.isinstance_ (by rfl) B.int_ PyProof.Rows.boot_int)) (Jd (Ql (aZ (sy (T := "bool") (by decide) (vP 0) (by rfl) B.isinstance_ (by rfl) B.bool_ gf)))))))
def Al(D:Dg K mg "_law_rooms" (top 27) ["_law_script","_law_at","_law_most"])(B:Bl mg)(O:Has P w K mg base n "_law_part" ["_law_script","_law_at","_law_k","_law_many"] (spD K cg)):Has P w K mg base (n+1) "_law_rooms" ["_law_script","_law_at","_law_most"] (spD K iZ):=by
 have sc:FnScope ["_law_script","_law_at","_law_most","_law_kinds"] ["_law_script","_law_at","_law_most"] (aR (top 27)):=fsc;exact lY (fl:=[.A,.A,.A,.A]) D sc (by decide) (by decide) λf cdv A outer s H E Z=>bB (sA (i:=3) sc.nd (dx (nj (fu (lK (dq (fj (lK (dq iC (dq iC (dq iC (dq iC dz)))))) (dq (fj (lK (dq iC (dq iC (dq iC (dq iC dz)))))) (dq (fj (lK (dq iC (dq iC (dq iC (dq iC dz)))))) (dq (fj (lK (dq iC (dq iC (dq iC (dq iC dz)))))) dz))))))) (gF (cU O Z (dq (vP 0) (dq (vP 1) (dq iP (dq iP dz))))))))
  (bN (cR (dg (kj (L:=[]) (fl':=[.A,.A,.A,.A]) rfl ["_law_k"] ["_law_kinds","_law_script","_law_at"] [3,0,1] (jU (by rfl) B.range_ (rZ (dq (gF (cU O Z (dq (vP 0) (dq (vP 1) (dq iP (dq (aZ (eO jN nu (vP 2) iP)) dz)))))) dz))) (λ_ _ _ _ _=>gN' (i:=0) (show(["_law_k","_law_kinds","_law_script","_law_at"]:List Str).Nodup by decide +kernel)) (λ_ _ _ _ _=>tM) (λ_ _ _ _ _=>fj (jE (dY (dx (vB 1) (gF (cU O Z (dq (vP 2) (dq (aZ (eO jN nu (vP 3) iP)) (dq (vP 0) (dq iP dz))))))))))))))
def Am(D:Dg K mg "_law_level" (top 29) ["_law_rooms_here","_law_guests_here","_law_kind"])(B:Bl mg):XI.HasH P w K mg base (n+1) "_law_level" ["_law_rooms_here","_law_guests_here","_law_kind"] (spD K fY):=by
 have sc:FnScope ["_law_rooms_here","_law_guests_here","_law_kind","_law_found","_law_level_here","_law_some"] ["_law_rooms_here","_law_guests_here","_law_kind"] (aR (top 29)):=fsc;exact XI.Zy (fl:=[.A,.A,.A,.A,.A,.A]) D sc (by decide) (by decide) λf cdv A outer s H E Z=>bB (sA (i:=3) sc.nd (fu (Cw)))
  (bB (uJ (L:=[]) ez rfl (wu (by rfl) B.range_ (rZ (dq iP (dq (aZ (eO jN nu (vP 2) iP)) dz)))) (gN' (i:=4) sc.nd) (bB (Ge (i:=5) (L:=[]) (fl':=[.A,.A,.A,.A]) rfl sc.nd rfl rfl rfl ["_law_room"] ["_law_guests_here","_law_level_here","_law_rooms_here"] [1,4,0] (jU (by rfl) B.range_ (rZ (dq (aZ (gQ cP nC (by rfl) B.len_ aaf (dq (vP 0) dz))) dz))) (λ_ _ _ _ _=>gN' (i:=0) (show(["_law_room","_law_guests_here","_law_level_here","_law_rooms_here"]:List Str).Nodup by decide +kernel)) (λ_ _ _ _ _=>jJ (cM rN yR (dY (dx (vB 3) (vP 0))) (vP 2) (cW _))) (λ_ _ _ _ _=>fj (Gw (hu1 Z.units) (vP 1) (vP 0) iP ⟨rfl,rfl,rfl,rfl⟩)))
  (bN (nA (j_ (aZ (gQ (wB rfl) Qw (by rfl) B.all_ (show bootBuiltins "all"=some (.builtin "all")by decide +kernel) (dq (aZ (kj (L:=[]) (fl':=[.A,.A]) rfl ["_law_wished"] ["_law_level_here"] [4] (tK (vB 5)) (λ_ _ _ _ _=>gN' (i:=0) (show(["_law_wished","_law_level_here"]:List Str).Nodup by decide +kernel)) (λ_ _ _ _ _=>tM) (λ_ _ _ _ _=>fj (IW rN yR (vP 0) (vP 1) (cW _))))) dz)))) (bN (sA (i:=3) sc.nd (vA 4))) (iB)))))
  (bN (cR (dg (jE (vP 3))))))
def Ao(D:Dg K mg "_law_names" (top 30) ["_law_script","_law_at"])(B:Bl mg)(U:Has P w K mg base n "_law_part" ["_law_script","_law_at","_law_k","_law_many"] (spD K cg)):Has P w K mg base (n+1) "_law_names" ["_law_script","_law_at"] (spD K kE):=by
 have sc:FnScope ["_law_script","_law_at","_law_letters","_law_size","_law_place","_law_names_here","_law_k","_law_name","_law_j"] ["_law_script","_law_at"] (aR (top 30)):=fsc;exact lY (fl:=[.A,.A,.A,.A,.A,.O,.A,.A,.A]) D sc (by decide) (by decide) λf cdv A outer s H E Z=>bB (sA (i:=2) sc.nd (fu (qp)))
  (bB (sA (i:=3) sc.nd (fu (eO jN nu iP (gF (cU U Z (dq (vP 0) (dq (vP 1) (dq iP (dq iP dz)))))))))
  (bB (sA (i:=4) sc.nd (wW (cU U Z (dq (vP 0) (dq (vP 1) (dq iP (dq (vP 3) dz)))))))
  (bB (qu (i:=5) rfl sc.nd rfl (by first|exact Or.inl rfl|exact Or.inr rfl) (yP (lK dz)))
  (bB (uJ (L:=[]) ez rfl (jU (by rfl) B.range_ (rZ (dq iP dz))) (gN' (i:=6) sc.nd) (bB (sA (i:=7) sc.nd (fu (qp)))
  (bB (uJ (L:=[]) ez rfl (jU (by rfl) B.range_ (rZ (dq (vP 3) dz))) (gN' (i:=8) sc.nd) (bN (sA (i:=7) sc.nd (fu (eO Ii XW.Ze (vP 7) (aZ (XW.Zg (vP 2) (aZ (eO lH uh (aZ (eO jN nu (gF (cU U Z (dq (vP 0) (dq (aZ (eO jN nu (vP 1) iP)) (dq (vP 8) (dq iP dz)))))) (aZ (eO mQ vG (vP 6) (aZ (Vo (dq (aZ (IW (oH Z.units) Ad (vP 8) (vP 4) (cW _))) dz) (by rfl) B.int_)))))) iP)) (λ_ _=>rfl))))))))
  (bN (mW (i:=5) rfl (vA 7) rfl)))))
  (bN (cR (vD 5 (by decide))))))))
def Aq(D:Dg K mg "_law_falls" (top 32) ["_law_rooms_here","_law_guests_here","_law_kind"])(B:Bl mg):Has P w K mg base (n+1) "_law_falls" ["_law_rooms_here","_law_guests_here","_law_kind"] (spD K fZ):=by
 have sc:FnScope ["_law_rooms_here","_law_guests_here","_law_kind","_law_falls_here","_law_least"] ["_law_rooms_here","_law_guests_here","_law_kind"] (aR (top 32)):=fsc;exact lY (fl:=[.A,.A,.A,.O,.A]) D sc (by decide) (by decide) λf cdv A outer s H E Z=>bB (qu (i:=3) rfl sc.nd rfl (by first|exact Or.inl rfl|exact Or.inr rfl) (CK (dq (vA 2) dz)))
  (bB (Gb ez (cM (oH Z.units) Ad (aZ (kj (L:=[]) (fl':=[.A,.A,.A,.A]) rfl ["_law_room"] ["_law_guests_here","_law_rooms_here","_law_falls_here"] [1,0,3] (jU (by rfl) B.range_ (rZ (dq (aZ (gQ cP nC (by rfl) B.len_ aaf (dq (vP 0) dz))) dz))) (λ_ _ _ _ _=>gN' (i:=0) (show(["_law_room","_law_guests_here","_law_rooms_here","_law_falls_here"]:List Str).Nodup by decide +kernel)) (λ_ _ _ _ _=>jJ (wA (CN (cM rN yR (dY (dx (vB 2) (vP 0))) (dY (dx (vB 3) (aZ (qy iP)))) (cW _)) (xY (cM (tW Z.units) zm (vP 0) (vP 1) (by with_unfolding_all rfl)))))) (λ_ _ _ _ _=>fj (jE (vP 0))))) (aZ (lK dz)) (cW _)) (bB (Nx (i:=4) (fl':=[.A,.A,.A,.A]) rfl sc.nd rfl rfl rfl ["_law_room"] ["_law_guests_here","_law_rooms_here","_law_falls_here"] [1,0,3] (vP 1) (λ_ _ _ _ _=>gN' (i:=0) (show(["_law_room","_law_guests_here","_law_rooms_here","_law_falls_here"]:List Str).Nodup by decide +kernel)) (λ_ _ _ _ _=>jJ (cM rN yR (dY (dx (vB 2) (vP 0))) (dY (dx (vB 3) (aZ (qy iP)))) (cW _))) (λ_ _ _ _ _=>fj (Di (hu1 Z.units) (vP 1) (vP 0) (λ_ _=>rfl))))
  (bB (mW (i:=3) rfl (fu (gQ (Nj rfl) Y0 (by rfl) B.min_ ff (dq (Xm (YW (vB 4) (nj (Qf (CK (dq (dx (oM 3) (aZ (qy iP))) dz)))))) dz))) rfl)
  (bN (nA (cM (oH Z.units) Ad (dY (dx (oM 3) (aZ (qy iP)))) (dY (dx (oM 3) (aZ (qy iP)))) (cW _)) (bN (cR (dg (Cw)))) (iB))))))
  (bN (cR (vD 3 (by decide)))))
def Ar(D:XI.DgI K mg "House" aM "House.__init__" (jF 22 0) ["self","rooms"])(B:Bl mg)(O:HC_House K):XI.HasI P w K mg base (n+1) "House" aM ["self","rooms"] (XI.spI K aM aJ jz):=by
 have sc:FnScope ["self","rooms"] ["self","rooms"] (aR (jF 22 0)):=fsc;exact XI.Zq (fl:=[.A,.A]) (nf:=[("rooms", dN1 (uF (dUn vC (ao 1)))),("places", dC (.dict [])),("wished", dC (.dict [])),("moves_done", jY (aX))]) D sc (by decide) (by decide) (by decide) (by decide) λf cdv A outer s H E Z=>XI.yq (Kv (fj (YJ (Kq (vB 1) (by rfl) B.list_)))) (XI.yq (yc) (XI.yq (yc) (XI.yq (Ku (Ks)) (XI.Zo) rfl O.cl O.n_moves_done) rfl O.cl O.n_wished) rfl O.cl O.n_places) rfl O.cl O.n_rooms
def z9(D:XI.DgM K aM "names" "House.names" (jF 22 7) ["self"])(B:Bl mg)(O:HC_House K):XI.HasM P w K mg base (n+1) aM "names" ["self"] (spD K gj):=by
 have sc:FnScope ["self"] ["self"] (aR (jF 22 7)):=fsc;exact XI.Bw (fl:=[.A]) D O.cl sc (by decide) (by decide) λf cdv A outer s H E Z=>bN (cR (dg (XI.Rx rfl (XI.mH (ns:=aJ) (k:=1) (vP 0) O.cl O.n_places rfl (by decide) rfl) (by rfl) B.list_)))
def z_(D:XI.DgM K aM "moved" "House.moved" (jF 22 10) ["self"])(B:Bl mg)(O:HC_House K):XI.HasM P w K mg base (n+1) aM "moved" ["self"] (spD K gq):=by
 have sc:FnScope ["self"] ["self"] (aR (jF 22 10)):=fsc;exact XI.Bw (fl:=[.A]) D O.cl sc (by decide) (by decide) λf cdv A outer s H E Z=>bN (cR (dg (XI.RV (XI.mH (ns:=aJ) (k:=3) (vP 0) O.cl O.n_moves_done rfl (by decide) rfl) (by rfl) B.list_)))
def xQ(D:XI.DgM K aM "guests" "House.guests" (jF 22 8) ["self"])(B:Bl mg)(O:HC_House K):XI.HasMH P w K mg base (n+1) aM "guests" ["self"] (spD K cD):=by
 have sc:FnScope ["self"] ["self"] (aR (jF 22 8)):=fsc;exact XI.Zz (fl:=[.A]) D O.cl sc (by decide) (by decide) λf cdv A outer s H E Z=>bN (cR (Xl (QM rfl (dq (aZ (XI.G5 (fl':=[.A,.A,.A]) rfl ["name","room"] ["self"] [0] (XI.mH (ns:=aJ) (k:=1) (vP 0) O.cl O.n_places rfl (by decide) rfl) (λ_ _ _ _ _=>uI rfl (h_ (gN' (i:=0) (show(["name","room","self"]:List Str).Nodup by decide +kernel)) (h_ (gN' (i:=1) (show(["name","room","self"]:List Str).Nodup by decide +kernel)) (qw)))) (λ_ _ _ _ _=>tM) (λ_ _ _ _ _=>fj (jE (dY (mG rfl (dq (vA 1) (dq (fu (XI.DK (XK.hu1 Z.units) (XI.mH (ns:=aJ) (k:=2) (vP 2) O.cl O.n_wished rfl (by decide) rfl) (vP 0) (λ_ _=>rfl))) dz)))))))) dz) (by rfl) B.dict_)))
def Av(D:XI.DgM K aM "free" "House.free" (jF 22 9) ["self"])(B:Bl mg)(O:HC_House K):XI.HasM P w K mg base (n+1) aM "free" ["self"] (spD K kI):=by
 have sc:FnScope ["self","held"] ["self"] (aR (jF 22 9)):=fsc;exact XI.Bw (fl:=[.A,.A]) D O.cl sc (by decide) (by decide) λf cdv A outer s H E Z=>bB (sA (i:=1) sc.nd (fu (XI.Ry rfl (XI.mH (ns:=aJ) (k:=1) (vP 0) O.cl O.n_places rfl (by decide) rfl) (by rfl) B.list_)))
  (bN (cR (dg (kj (L:=[]) (fl':=[.A,.A]) rfl ["room"] ["held"] [1] (jU (by rfl) B.range_ (rZ (dq (aZ (gQ cP nC (by rfl) B.len_ aaf (dq (XI.mH (ns:=aJ) (k:=0) (vP 0) O.cl O.n_rooms rfl (by decide) rfl) dz))) dz))) (λ_ _ _ _ _=>gN' (i:=0) (show(["room","held"]:List Str).Nodup by decide +kernel)) (λ_ _ _ _ _=>jJ (cM (Nm Z.units) Vq (vP 0) (vP 1) (by with_unfolding_all rfl))) (λ_ _ _ _ _=>fj (jE (vP 0)))))))
def sZ(D:XI.DgM K aM "check_guest" "House.check_guest" (jF 22 3) ["self","name"])(B:Bl mg)(O:HC_House K)(U:Has P w K mg base n "is_name" ["thing"] (spD K lG)):XI.HasM P w K mg base (n+1) aM "check_guest" ["self","name"] (spD K cH):=by
 have sc:FnScope ["self","name"] ["self","name"] (aR (jF 22 3)):=fsc;exact XI.Bw (fl:=[.A,.A]) D O.cl sc (by decide) (by decide) λf cdv A outer s H E Z=>bN (nA (wA (nY (jO (j_ (gF (cU U Z (dq (vP 1) dz))))) (qx (cM (XK.tW Z.units) XI.Ru (vP 1) (XI.mH (ns:=aJ) (k:=1) (vP 0) O.cl O.n_places rfl (by decide) rfl) (by with_unfolding_all rfl))))) (bN (Qq)) (iB))
def wM(D:XI.DgM K aM "room_of" "House.room_of" (jF 22 5) ["self","name"])(B:Bl mg)(U:HC_House K)(O:XI.HasM P w K mg base n aM "check_guest" ["self","name"] (spD K cH)):XI.HasM P w K mg base (n+1) aM "room_of" ["self","name"] (spD K gU):=by
 have sc:FnScope ["self","name"] ["self","name"] (aR (jF 22 5)):=fsc;exact XI.Bw (fl:=[.A,.A]) D U.cl sc (by decide) (by decide) λf cdv A outer s H E Z=>bB (Cz (gF (XI.vQ (ns:=aJ) O Z (by decide) (vP 0) (dq (vP 1) dz))))
  (bN (cR (dg (XI.DK (XK.hu1 Z.units) (XI.mH (ns:=aJ) (k:=1) (vP 0) U.cl U.n_places rfl (by decide) rfl) (vP 1) (λ_ _=>rfl)))))
def wO(D:XI.DgM K aM "kind_of" "House.kind_of" (jF 22 6) ["self","name"])(B:Bl mg)(U:HC_House K)(O:XI.HasM P w K mg base n aM "check_guest" ["self","name"] (spD K cH)):XI.HasM P w K mg base (n+1) aM "kind_of" ["self","name"] (spD K gY):=by
 have sc:FnScope ["self","name"] ["self","name"] (aR (jF 22 6)):=fsc;exact XI.Bw (fl:=[.A,.A]) D U.cl sc (by decide) (by decide) λf cdv A outer s H E Z=>bB (Cz (gF (XI.vQ (ns:=aJ) O Z (by decide) (vP 0) (dq (vP 1) dz))))
  (bN (cR (dg (XI.DK (XK.hu1 Z.units) (XI.mH (ns:=aJ) (k:=2) (vP 0) U.cl U.n_wished rfl (by decide) rfl) (vP 1) (λ_ _=>rfl)))))
def Eu(D:XI.DgM K aM "out" "House.out" (jF 22 4) ["self","name"])(B:Bl mg)(U:HC_House K)(O:XI.HasM P w K mg base n aM "check_guest" ["self","name"] (spD K cH)):XI.HasM P w K mg base (n+1) aM "out" ["self","name"] (XI.spW K [0] iT):=by
 have sc:FnScope ["self","name"] ["self","name"] (aR (jF 22 4)):=fsc;exact XI.RJ (fl:=[.W,.A]) D U.cl sc (by decide) (by decide) (by decide) λf cdv A outer s H E Z=>XI.dh (XI.um (Cz (gF (XI.vQ (ns:=aJ) O Z (by decide) (cX 0 rfl) (dq (vP 1) dz)))) (XI.gow XI.V9))
  (XI.dh (XI.um (XI.GR (XI.K8 (i:=0) (ns:=aJ) (k:=2) (Or.inr rfl) (vP 1) rfl U.cl U.n_wished rfl (by decide) ⟨rfl,rfl,rfl,rfl⟩)) (XI.gow XI.G9))
  (XI.jy (XI.V2 (by decide) (XI.K8 (i:=0) (ns:=aJ) (k:=1) (Or.inr rfl) (vP 1) rfl U.cl U.n_places rfl (by decide) ⟨rfl,rfl,rfl,rfl⟩))))
def uf(D:XI.DgM K aM "move_guest" "House.move_guest" (jF 22 2) ["self","room","other"])(B:Bl mg)(O:HC_House K):XI.HasM P w K mg base (n+1) aM "move_guest" ["self","room","other"] (XI.spW K [0] fB):=by
 have sc:FnScope ["self","room","other","name"] ["self","room","other"] (aR (jF 22 2)):=fsc;exact XI.RJ (fl:=[.W,.A,.A,.A]) D O.cl sc (by decide) (by decide) (by decide) λf cdv A outer s H E Z=>XI.dh (XI.um (sA (i:=3) sc.nd (dx (nj (fu (XI.G5 (fl':=[.A,.A,.A]) rfl ["guest","place"] ["room"] [1] (XI.mH (ns:=aJ) (k:=1) (cX 0 rfl) O.cl O.n_places rfl (by decide) rfl) (λ_ _ _ _ _=>uI rfl (h_ (gN' (i:=0) (show(["guest","place","room"]:List Str).Nodup by decide +kernel)) (h_ (gN' (i:=1) (show(["guest","place","room"]:List Str).Nodup by decide +kernel)) (qw)))) (λ_ _ _ _ _=>jJ (cM (oH Z.units) Ad (vP 1) (vP 2) (cW _))) (λ_ _ _ _ _=>fj (jE (vP 0)))))) iP)) (XI.gow XI.qz))
  (XI.dh (XI.um (XI.Dw (XK.hu1 Z.units) (i:=0) (ns:=aJ) (k:=1) (Or.inr rfl) (vP 2) (vP 3) rfl O.cl O.n_places rfl (by decide)) (XI.gow XI.DY))
  (XI.jy (XI.um (XI.V0 (i:=0) (ns:=aJ) (k:=3) (Or.inr rfl) (dY (mG rfl (dq (vA 3) (dq (vA 1) (dq (vA 2) dz))))) rfl O.cl O.n_moves_done rfl (by decide)) (XI.gow XI.V_))))
def xR(D:XI.DgM K aM "let_in" "House.let_in" (jF 22 1) ["self","name","kind"])(B:Bl mg)(O:HC_House K)(Y:Has P w K mg base (n+2) "is_whole_within" ["thing","least","most"] (spD K dI))(hadmitted:Has P w K mg base (n+2) "admitted" ["rooms","guests","kind"] (spD K fP))(his_name:Has P w K mg base (n+2) "is_name" ["thing"] (spD K lG))(gBEST_KIND:∃t,mg "BEST_KIND"=some (.int 4 t))(Z:XI.HasMH P w K mg base (n+2) aM "guests" ["self"] (spD K cD))(U:XI.HasM P w K mg base (n+2) aM "move_guest" ["self","room","other"] (XI.spW K [0] fB))(zFull:XC.ExcG K mg fld "Full" "kind" "InnError"):XI.HasMX P w K mg base fld (n+3) aM "let_in" ["self","name","kind"] (XI.V7 K mg [0] dw):=by
 have sc:FnScope ["self","name","kind","found","room","other"] ["self","name","kind"] (aR (jF 22 1)):=fsc;exact XI.V8 (fl:=[.W,.A,.A,.N,.A,.A]) D O.cl sc (by decide) (by decide) (by decide) λf cdv A outer s H E X=>XI.jW (XI.DX (jO (j_ (gF (cU his_name X (dq (vP 1) dz))))) (XI.uP) (XI.vR))
  (XI.jW (XI.DX (cM (XK.QX X.units) XI.ai9 (vP 1) (XI.mH (ns:=aJ) (k:=1) (cX 0 rfl) O.cl O.n_places rfl (by decide) rfl) (by with_unfolding_all rfl)) (XI.uP) (XI.vR))
  (XI.jW (XI.DX (jO (j_ (gF (cU Y X (dq (vP 2) (dq iP (dq (aZ (Kg gBEST_KIND)) dz))))))) (XI.uP) (XI.vR))
  (XI.jW (XI.DR (nZ (i:=3) rfl sc.nd rfl (by first|exact Or.inl rfl|exact Or.inr rfl) (ZM (cU hadmitted X (dq (XI.mH (ns:=aJ) (k:=0) (cX 0 rfl) O.cl O.n_rooms rfl (by decide) rfl) (dq (gF (XI.mj (ns:=aJ) Z.has X (by decide) (cX 0 rfl))) (dq (vP 2) dz)))))) XI.qz)
  (XI.jW (XI.DX (cM (oH X.units) Ad (uK rfl (cX 3 rfl) iP (λ_ _=>rfl)) (aZ (qp)) (cW _)) (XI.G8 (XI.N7 zFull.fly X (by decide) (uK rfl (cX 3 rfl) iP (λ_ _=>rfl)))) (XI.vR))
  (XI.jW (XI.DR (XI.ZP 3 rfl (XI.Wl (i:=3) (n:=1) rfl rfl iP (λ_ _=>rfl) ez rfl (uI rfl (h_ (gN' (i:=4) sc.nd) (h_ (gN' (i:=5) sc.nd) (qw)))) (bN (XI.GR (XI.GP (ns:=aJ) (sw:=[0]) U X rfl rfl (by decide) (XI.mU (vA 4) (XI.mU (vA 5) (XI.vO))) (XI.zN rfl)))))) (XI.Zr XI.G9))
  (XI.jW (XI.DR (XI.Dw (XK.hu1 X.units) (i:=0) (ns:=aJ) (k:=1) (Or.inr rfl) (uK rfl (cX 3 rfl) iP (λ_ _=>rfl)) (vP 1) rfl O.cl O.n_places rfl (by decide)) XI.DY)
  (XI.jW (XI.DR (XI.Dw (XK.hu1 X.units) (i:=0) (ns:=aJ) (k:=2) (Or.inr rfl) (vP 2) (vP 1) rfl O.cl O.n_wished rfl (by decide)) XI.DY)
  (XI.G8 (XI.Sy (i:=3) (n1:=2) (n2:=1) (by decide) rfl rfl iP iP (λ_ _=>rfl) (λ_ _=>rfl))))))))))
def Aw(D:Dg K mg "_law_moved" (top 31) ["_law_rooms_here","_law_seats","_law_moves","_law_walks"])(B:Bl mg)(O:Has P w K mg base n "_law_whole" ["_law_found"] (spD K cV)):Has P w K mg base (n+1) "_law_moved" ["_law_rooms_here","_law_seats","_law_moves","_law_walks"] (XI.spW K [1,3] kJ):=by
 have sc:FnScope ["_law_rooms_here","_law_seats","_law_moves","_law_walks","_law_move","_law_room","_law_other","_law_who","_law_taken"] ["_law_rooms_here","_law_seats","_law_moves","_law_walks"] (aR (top 31)):=fsc;exact XI.Ro (fl:=[.A,.W,.A,.W,.A,.A,.A,.A,.A]) D sc (by decide) (by decide) (by decide) λf cdv A outer s H E Z=>XI.dh (XI.zA (jO (j_ (aZ (sy (T := "list") (by decide) (vP 2) (by rfl) B.isinstance_ (by rfl) B.list_ PyProof.Rows.boot_list)))) (XI.jy (XI.oO (by decide) (aZ (j9)))) (XI.oh))
  (XI.dh (XI.ZG (L:=[]) ez rfl (tK (vB 2)) (gN' (i:=4) sc.nd) (XI.dh (XI.zA (wA (nY (jO (j_ (aZ (sy (T := "tuple") (by decide) (vP 4) (by rfl) B.isinstance_ (by rfl) B.tuple_ f_)))) (nY (cM (qb Z.units) Cy (aZ (gQ cP nC (by rfl) B.len_ aaf (dq (vP 4) dz))) iP (cW _)) (nY (jO (j_ (gF (cU O Z (dq (dY (dx (vB 4) iP)) dz))))) (qx (jO (j_ (gF (cU O Z (dq (dY (dx (vB 4) iP)) dz)))))))))) (XI.jy (XI.oO (by decide) (aZ (j9)))) (XI.oh))
  (XI.dh (XI.zT (YK (vA 4) (uI rfl (h_ (gN' (i:=5) sc.nd) (h_ (gN' (i:=6) sc.nd) (qw))))))
  (XI.dh (XI.um (XI.Od (i:=7) (fl':=[.A,.A,.A]) rfl sc.nd rfl rfl rfl ["_law_name"] ["_law_room","_law_seats"] [5,1] (cX 1 rfl) (λ_ _ _ _ _=>gN' (i:=0) (show(["_law_name","_law_room","_law_seats"]:List Str).Nodup by decide +kernel)) (λ_ _ _ _ _=>jJ (cM (oH Z.units) Ad (dY (dx (nj (fu (XI.yr (XK.hu1 Z.units) (vP 2) (vP 0) (λ_ _=>rfl)))) iP)) (vP 1) (cW _))) (λ_ _ _ _ _=>fj (jE (vP 0)))) (XI.gow XI.qz))
  (XI.dh (XI.um (Ge (i:=8) (L:=[]) (fl':=[.A]) rfl sc.nd rfl rfl rfl ["_law_seat"] [] [] (tK (nj (fu (XI.zP rfl (cX 1 rfl) (by rfl) B.list_)))) (λ_ _ _ _ _=>gN' (i:=0) (show(["_law_seat"]:List Str).Nodup by decide +kernel)) (λ_ _ _ _ _=>tM) (λ_ _ _ _ _=>fj (jE (dY (dx (vB 0) iP))))) (XI.gow XI.qz))
  (XI.dh (XI.zA (wA (nY (cM (qb Z.units) Cy (aZ (gQ cP nC (by rfl) B.len_ aaf (dq (vP 7) dz))) iP (cW _)) (nY (cM (QB Z.units) ah7 (vP 6) (vP 8) (by with_unfolding_all rfl)) (qx (jO (yS Az Ay Nf b_lt iP (vP 6) (aZ (gQ cP nC (by rfl) B.len_ aaf (dq (vP 0) dz))))))))) (XI.jy (XI.oO (by decide) (aZ (j9)))) (XI.oh))
  (XI.dh (XI.zA (cM Ay b_lt (dY (dx (vB 0) (vP 6))) (dY (dx (nj (fu (XI.yr (XK.hu1 Z.units) (cX 1 rfl) (dY (dx (vB 7) iP)) (λ_ _=>rfl)))) iP)) (cW _)) (XI.jy (XI.oO (by decide) (aZ (j9)))) (XI.oh))
  (XI.dh (XI.zT (XI.Lq (XK.hu1 Z.units) (i:=1) (Or.inr rfl) (dY (mG rfl (dq (vA 6) (dq (dx (nj (fu (XI.yr (XK.hu1 Z.units) (cX 1 rfl) (dY (dx (vB 7) iP)) (λ_ _=>rfl)))) iP) dz)))) (dY (dx (vB 7) iP)) rfl))
  (XI.jy (XI.zT (XI.Wi (i:=3) (Or.inr rfl) (dY (mG rfl (dq (dx (vB 7) iP) (dq (vA 5) (dq (vA 6) dz))))) rfl)))))))))))
  (XI.jy (XI.oO (by decide) (aZ (j9)))))
def Ew(D:Dg K mg "_law_came" (top 33) ["_law_house","_law_rooms_here","_law_seats","_law_walks","_law_name","_law_kind"])(B:Bl mg)(hHouse:HC_House K)(h_law_level:XI.HasH P w K mg base n "_law_level" ["_law_rooms_here","_law_guests_here","_law_kind"] (spD K fY))(Y:Has P w K mg base n "_law_whole" ["_law_found"] (spD K cV))(h_law_falls:Has P w K mg base n "_law_falls" ["_law_rooms_here","_law_guests_here","_law_kind"] (spD K fZ))(O:XI.HasMH P w K mg base n aM "guests" ["self"] (spD K cD))(U:XI.HasMX P w K mg base fld n aM "let_in" ["self","name","kind"] (XI.V7 K mg [0] dw))(sFull:XC.SuiA K mg fld "Full" "kind" "InnError")(Z:Has P w K mg base n "_law_moved" ["_law_rooms_here","_law_seats","_law_moves","_law_walks"] (XI.spW K [1,3] kJ)):Has P w K mg base (n+1) "_law_came" ["_law_house","_law_rooms_here","_law_seats","_law_walks","_law_name","_law_kind"] (XI.spW K [0,2,3] jr):=by
 have sc:FnScope ["_law_house","_law_rooms_here","_law_seats","_law_walks","_law_name","_law_kind","_law_told","_law_falls_here","e","_law_room"] ["_law_house","_law_rooms_here","_law_seats","_law_walks","_law_name","_law_kind"] (aR (top 33)):=fsc;exact XI.Ro (fl:=[.W,.A,.W,.W,.A,.A,.N,.A,.A,.A]) D sc (by decide) (by decide) (by decide) λf cdv A outer s H E X=>XI.dh (XI.um (nZ (i:=6) rfl sc.nd rfl (by first|exact Or.inl rfl|exact Or.inr rfl) (Kv (fj (Cw)))) (XI.gow XI.qz))
  (XI.dh (XI.um (sA (i:=7) sc.nd (wW (cU h_law_falls X (dq (vP 1) (dq (gF (XI.mj (ns:=aJ) O.has X (by decide) (cX 0 rfl))) (dq (vP 5) dz)))))) (XI.gow XI.qz))
  (XI.dh (XI.ZQ (have V:XC.RoomQ n _:=⟨X.dp,X.un⟩;XI.Wc (i:=8) (cs:=["Full"]) (fS:=iU) (XI.Ob (fld:=fld) (ns:=aJ) (sw:=[0]) (k:=6) U X rfl rfl (by decide) (XI.mU (vA 4) (XI.mU (vA 5) (XI.vO))) (XI.zN rfl) rfl (by decide) sc.nd rfl (by first|exact Or.inl rfl|exact Or.inr rfl)) (List.forall_mem_cons.mpr ⟨XI.JC (i:=8) (g:=λd=>XI.Lj [0,2,3] (Cm (dUn Cp (ao 7)) (dOp gEq (dC d) (dCall fY (aq (ao 1) (aq (XI.iu cD aM aJ (ao 0) (aX)) (aq (ao 5) (aX)))))))) sFull rfl (λ_=>rfl) λa oa xd od v d S Q=>have R:=XI.N8 Q;XI.Wb (XI.Zu (by decide) (XI.ZV (XI.ZD (XI.Xw (aZ (YS (vP 7)))) (O5 (XI.ZC (oH (XI.rq V).units) Ad (XI.Wq S) (XI.Xw (gF (XI.R3 h_law_level R (XI.rq V) (dq (vP 1) (dq (gF (XI.N_ (ns:=aJ) O R (XI.rq V) (by decide) (cX 0 rfl))) (dq (vP 5) dz)))))) (cW _)))))),List.forall_mem_nil _⟩) rfl rfl sc.nd rfl))
  (XI.dh (XI.zA (wA (nY (Qu (vP 7)) (nY (jO (j_ (aZ (sy (T := "tuple") (by decide) (cX 6 rfl) (by rfl) B.isinstance_ (by rfl) B.tuple_ f_)))) (qx (cM (qb X.units) Cy (aZ (gQ cP nC (by rfl) B.len_ aaf (dq (cX 6 rfl) dz))) iP (cW _)))))) (XI.jy (XI.oO (by decide) (aZ (j9)))) (XI.oh))
  (XI.dh (XI.Zw (XI.tw_w (XI.aj6 (XI.tw_not (XI.tw_val (XI.GJ (sw:=[2,3]) Z X (XI.mU (vA 1) (XI.sU (i:=2) rfl rfl (XI.SM (i:=6) (n:=1) rfl rfl iP (λ_ _=>rfl) (XI.sU (i:=3) rfl rfl (XI.vO)) (by decide)))) (XI.zN rfl)))) (XI.Zv (XI.tw_of (cM (qb X.units) Cy (aZ (eO jN nu (aZ (gQ cP nC (by rfl) B.len_ aaf (dq (uK rfl (cX 6 rfl) iP (λ_ _=>rfl)) dz))) iP)) (aZ (gQ cP nC (by rfl) B.len_ aaf (dq (vP 7) dz))) (cW _)))))) (XI.jy (XI.oO (by decide) (aZ (j9)))) (XI.oh))
  (XI.dh (XI.um (sA (i:=9) sc.nd (fu (jE (uK rfl (cX 6 rfl) iP (λ_ _=>rfl))))) (XI.gow XI.qz))
  (XI.dh (XI.zA (wA (nY (jO (j_ (gF (cU Y X (dq (vP 9) dz))))) (nY (jO (yS Az Ay Nf b_lt iP (vP 9) (aZ (gQ cP nC (by rfl) B.len_ aaf (dq (vP 1) dz))))) (qx (cM Ay b_lt (dY (dx (vB 1) (vP 9))) (vP 5) (cW _)))))) (XI.jy (XI.oO (by decide) (aZ (j9)))) (XI.oh))
  (XI.dh (XI.zA (cM (QB X.units) ah7 (vP 9) (aZ (kj (L:=[]) (fl':=[.A]) rfl ["_law_seat"] [] [] (tK (nj (fu (XI.zP rfl (cX 2 rfl) (by rfl) B.list_)))) (λ_ _ _ _ _=>gN' (i:=0) (show(["_law_seat"]:List Str).Nodup by decide +kernel)) (λ_ _ _ _ _=>tM) (λ_ _ _ _ _=>fj (jE (dY (dx (vB 0) iP)))))) (by with_unfolding_all rfl)) (XI.jy (XI.oO (by decide) (aZ (j9)))) (XI.oh))
  (XI.dh (XI.zT (XI.Lq (XK.hu1 X.units) (i:=2) (Or.inr rfl) (dY (mG rfl (dq (vA 9) (dq (vA 5) dz)))) (vP 4) rfl))
  (XI.dh (XI.zT (Vp (i:=6) rfl iP (gF (mG rfl (dq iC (dq iC dz)))) rfl (λ_ _=>rfl)))
  (XI.jy (XI.oO (by decide) (aZ (j9)))))))))))))
def xT(D:Dg K mg "_law_as_kept" (top 34) ["_law_house","_law_rooms_here","_law_seats","_law_walks"])(B:Bl mg)(hHouse:HC_House K)(U:XI.HasM P w K mg base n aM "names" ["self"] (spD K gj))(Y:XI.HasM P w K mg base n aM "moved" ["self"] (spD K gq))(mHouse_guests:XI.HasMH P w K mg base n aM "guests" ["self"] (spD K cD))(mHouse_free:XI.HasM P w K mg base n aM "free" ["self"] (spD K kI))(Z:XI.HasM P w K mg base n aM "room_of" ["self","name"] (spD K gU))(mHouse_kind_of:XI.HasM P w K mg base n aM "kind_of" ["self","name"] (spD K gY)):Has P w K mg base (n+1) "_law_as_kept" ["_law_house","_law_rooms_here","_law_seats","_law_walks"] (spD K fJ):=by
 have sc:FnScope ["_law_house","_law_rooms_here","_law_seats","_law_walks","_law_name","_law_guests_here","_law_due","_law_seat","_law_free"] ["_law_house","_law_rooms_here","_law_seats","_law_walks"] (aR (top 34)):=fsc;exact lY (fl:=[.A,.A,.A,.A,.A,.N,.N,.A,.O]) D sc (by decide) (by decide) λf cdv A outer s H E X=>bB (nA (wA (nY (cM (qb X.units) Cy (gF (XI.mj (ns:=aJ) U X (by decide) (vP 0))) (aZ (XI.Sg rfl (vP 2) (by rfl) B.list_)) (cW _)) (qx (cM (qb X.units) Cy (gF (XI.mj (ns:=aJ) Y X (by decide) (vP 0))) (vP 3) (cW _))))) (bN (cR (dg (j9)))) (iB))
  (bB (XI.Wo (vA 2) ez rfl rfl (gN' (i:=4) sc.nd) (bN (nA (cM (qb X.units) Cy (gF (mG rfl (dq (XI.vQ (ns:=aJ) Z X (by decide) (vP 0) (dq (vP 4) dz)) (dq (XI.vQ (ns:=aJ) mHouse_kind_of X (by decide) (vP 0) (dq (vP 4) dz)) dz)))) (aZ (XI.yr (XK.hu1 X.units) (vP 2) (vP 4) (λ_ _=>rfl))) (cW _)) (bN (cR (dg (j9)))) (iB))))
  (bB (nZ (i:=5) rfl sc.nd rfl (by first|exact Or.inl rfl|exact Or.inr rfl) (Kv (XI.mj (ns:=aJ) mHouse_guests.has X (by decide) (vP 0))))
  (bB (nZ (i:=6) rfl sc.nd rfl (by first|exact Or.inl rfl|exact Or.inr rfl) (yc))
  (bB (uJ (L:=[]) ez rfl (tK (nj (fu (XI.zP rfl (vP 2) (by rfl) B.list_)))) (gN' (i:=7) sc.nd) (bN (XI.Wr (hu1 X.units) (i:=6) rfl (dY (dx (vB 7) iP)) (dY (dx (vB 7) iP)) rfl)))
  (bB (qu (i:=8) rfl sc.nd rfl (by first|exact Or.inl rfl|exact Or.inr rfl) (yP (Qg (XI.mj (ns:=aJ) mHouse_free X (by decide) (vP 0)))))
  (bB (nA (wA (nY (cM (XI.ZL X.units) XI.aj9 (cX 5 rfl) (cX 6 rfl) (cW _)) (qx (cM (qb X.units) Cy (FQ (oM 8)) (aZ (kj (L:=[]) (fl':=[.A,.A]) rfl ["_law_room"] ["_law_due"] [6] (jU (by rfl) B.range_ (rZ (dq (aZ (gQ cP nC (by rfl) B.len_ aaf (dq (vP 1) dz))) dz))) (λ_ _ _ _ _=>gN' (i:=0) (show(["_law_room","_law_due"]:List Str).Nodup by decide +kernel)) (λ_ _ _ _ _=>jJ (cM (tW X.units) zm (vP 0) (vP 1) (by with_unfolding_all rfl))) (λ_ _ _ _ _=>fj (jE (vP 0))))) (cW _))))) (bN (cR (dg (j9)))) (iB))
  (bB (XI.ZK (i:=5) (Or.inl rfl) rfl)
  (bB (mW (i:=8) rfl (fu (Cv)) rfl)
  (bB (XI.BK (XI.mj (ns:=aJ) U X (by decide) (vP 0)) (aZ (qp)))
  (bB (XI.BK (XI.mj (ns:=aJ) Y X (by decide) (vP 0)) (gF (mG rfl (dq (fj (qp)) (dq iC (dq iC dz))))))
  (bN (cR (dg (j9))))))))))))))
def ae1(Fn:FunD K "law" (top 35) f fd)(B:Bl mg)(hHouse:HC_House K)(Y:Has P w K mg base n "_law_part" ["_law_script","_law_at","_law_k","_law_many"] (spD K cg))(Z:Has P w K mg base n "_law_rooms" ["_law_script","_law_at","_law_most"] (spD K iZ))(h_law_names:Has P w K mg base n "_law_names" ["_law_script","_law_at"] (spD K kE)){m0:Nat}(iHouse:XI.HasI P w K mg base m0 "House" aM ["self","rooms"] (XI.spI K aM aJ jz))(hmn:m0+1<=n)(mHouse_out:XI.HasM P w K mg base n aM "out" ["self","name"] (XI.spW K [0] iT))(h_law_came:Has P w K mg base n "_law_came" ["_law_house","_law_rooms_here","_law_seats","_law_walks","_law_name","_law_kind"] (XI.spW K [0,2,3] jr))(U:Has P w K mg base n "_law_as_kept" ["_law_house","_law_rooms_here","_law_seats","_law_walks"] (spD K fJ)):FnOk P w K mg base CX0 (n+1) f fd ["_law_script"] (spD K TY):=by
 have sc:FnScope ["_law_script","_law_rooms_here","_law_handed","_law_house","_law_names_here","_law_seats","_law_walks","_law_at","_law_name"] ["_law_script"] (aR (top 35)):=fsc;exact Qs (fl:=[.A,.A,.O,.N,.A,.N,.N,.A,.A]) Fn sc (by decide) (by decide) λf cdv A outer s H E X=>bB (sA (i:=1) sc.nd (wW (cU Z X (dq (vP 0) (dq iP (dq iP dz))))))
  (bB (qu (i:=2) rfl sc.nd rfl (by first|exact Or.inl rfl|exact Or.inr rfl) (Kq (vB 1) (by rfl) B.list_))
  (bB (nZ (i:=3) rfl sc.nd rfl (by first|exact Or.inl rfl|exact Or.inr rfl) (XI.V6 (ns:=aJ) iHouse (X.mono hmn) (dq (FQ (oM 2)) dz)))
  (bB (mW (i:=2) rfl (fu (Cv)) rfl)
  (bB (sA (i:=4) sc.nd (wW (cU h_law_names X (dq (vP 0) (dq iP dz)))))
  (bB (nZ (i:=5) rfl sc.nd rfl (by first|exact Or.inl rfl|exact Or.inr rfl) (yc))
  (bB (nZ (i:=6) rfl sc.nd rfl (by first|exact Or.inl rfl|exact Or.inr rfl) (Ku (Ks)))
  (bB (uJ (L:=[]) ez rfl (wu (by rfl) B.range_ (rZ (dq iP (dq (aZ (gQ (M6 rfl) YT (by rfl) B.min_ ff (dq (aZ (gQ cP nC (by rfl) B.len_ aaf (dq (vP 0) dz))) (dq iP dz)))) dz)))) (gN' (i:=7) sc.nd) (bB (sA (i:=8) sc.nd (dx (vB 4) (gF (cU Y X (dq (vP 0) (dq (vP 7) (dq iP (dq iP dz))))))))
  (bB (nA (cM (XK.QX X.units) XI.aj7 (vP 8) (cX 5 rfl) (by with_unfolding_all rfl)) (bN (XI.Rr (XI.tw_cmpWW (qb X.units) Cy (XI.GP (ns:=aJ) (sw:=[3]) mHouse_out X rfl rfl (by decide) (XI.mU (vA 8) (XI.vO)) (XI.zN rfl)) (XI.Zt (XI.Wh (i:=5) (Or.inl rfl) (vP 8) rfl ⟨rfl,rfl,rfl,rfl⟩) iP (λ_ _=>rfl)) (cW _)) (bN (cR (dg (j9)))) (iB))) (bN (XI.Rr (XI.tw_not (XI.tw_val (XI.GJ (sw:=[3,5,6]) h_law_came X (XI.sU (i:=3) rfl rfl (XI.mU (vA 1) (XI.sU (i:=5) rfl rfl (XI.sU (i:=6) rfl rfl (XI.mU (vA 8) (XI.mU (fu (eO jN nu iP (gF (cU Y X (dq (vP 0) (dq (vP 7) (dq iP (dq iP dz)))))))) (XI.vO))))))) (XI.zN rfl)))) (bN (cR (dg (j9)))) (iB))))
  (bN (nA (wA (nY (jO (j_ (gF (cU U X (dq (cX 3 rfl) (dq (vP 1) (dq (cX 5 rfl) (dq (cX 6 rfl) dz)))))))) (qx (jO (j_ (gF (cU U X (dq (cX 3 rfl) (dq (vP 1) (dq (cX 5 rfl) (dq (cX 6 rfl) dz))))))))))) (bN (cR (dg (j9)))) (iB))))))
  (bN (cR (dg (j9)))))))))))
end
end K66
namespace D3
theorem len0{p:List abo->Prop}(h:p []):∀us,us.length=0->p us:=λus Z=>by
 cases us with
 |nil=>exact h
 |cons _ _=>cases Z
theorem ae2{p:List abo->Prop}(h:∀a us,us.length=n->p (a::us)):∀us,us.length=n+1->p us:=λus Z=>by
 cases us with
 |nil=>cases Z
 |cons a r=>exact h a r (Nat.succ.inj Z)
end D3
namespace XI
open L2 My D3
variable{k:Nat}{m:Str}{sp:Sp}
def HasM.mono(h:HasM P w K mg base k C m ps sp)(l:k<=n):HasM P w K mg base n C m ps sp:=by
 obtain⟨⟨f,fd,F,b,M⟩,c⟩:=h;exact⟨⟨f,fd,F.mono l,b,M⟩,c⟩
def HasMX.mono(h:HasMX P w K mg base fld k C m ps sp)(l:k<=n):HasMX P w K mg base fld n C m ps sp:=by
 obtain⟨⟨f,fd,F,b,M⟩,c⟩:=h;exact⟨⟨f,fd,F.mono l,b,M⟩,c⟩
def HasH.mono(h:HasH P w K mg base k x ps sp)(l:k<=n):HasH P w K mg base n x ps sp:=by
 obtain⟨f,fd,F,r⟩:=h;exact⟨f,fd,⟨F.len,λA outer s H args us vs Q E Z=>F.run A outer s H args us vs Q E (Z.mono l)⟩,r⟩
def HasMH.mono(h:HasMH P w K mg base k C m ps sp)(l:k<=n):HasMH P w K mg base n C m ps sp:=by
 obtain⟨⟨f,fd,F,r⟩,c⟩:=h;exact⟨⟨f,fd,⟨F.len,λA outer s H args us vs Q E Z=>F.run A outer s H args us vs Q E (Z.mono l)⟩,r⟩,c⟩
def ae3{kV:Value}(X:K.In h)(G:h.Ns mainGlobals mg)
 (hb:∀(kV doc pm:Value)(an:Option Addr)(cdv ct:Value)(us:List Value),us.length=ps.length->bindArgs (aac "__init__" x (j7 st) (dR st) (aR st) .none kV doc pm an cdv ct) ⟨us,[]⟩=pure (ps.zip us))
 (mk:aaS K C=true) (a:aad K (.ref C) "__init__"=some (some (.ref f))) (l:K.lookup f=some ⟨oc,od,.func (aac "__init__" x (j7 st) (dR st) (aR st) .none kV dc pm an cd ct),sl⟩) (O:aah K cd x=true) (fn:aaE K (.ref f)=true) (k:aae K (.ref C)=true)
 (g:aaj K mainGlobals c=some (some (.ref C))):DgI K mg c C x st ps:=
 ⟨⟨f,_,⟨⟨oc,od,.none,kV,dc,pm,an,cd,ct,sl,rfl,l,O⟩⟩,.all (hb kV dc pm an cd ct),⟨mk,a,fn,k⟩⟩,aaw X G g⟩
end XI
namespace K66
open L2 My D3
structure Txt(K:aaa)(mg:Str->Option Value):Prop where
 d_is_whole:Dg K mg "is_whole" (top 8) ["thing"]
 d_is_whole_within:Dg K mg "is_whole_within" (top 9) ["thing","least","most"]
 d_free_from:Dg K mg "free_from" (top 11) ["rooms","guests","kind"]
 d_least_wished:Dg K mg "least_wished" (top 12) ["rooms","guests","kind"]
 d_falls_of:Dg K mg "falls_of" (top 13) ["rooms","guests","kind"]
 d_guest_to_move:Dg K mg "guest_to_move" (top 14) ["rooms","guests","kind","wished"]
 d_moves_by:Dg K mg "moves_by" (top 15) ["rooms","guests","falls"]
 d_is_level:Dg K mg "is_level" (top 16) ["rooms","guests","level"]
 d_admitted:Dg K mg "admitted" (top 17) ["rooms","guests","kind"]
 d_is_name:Dg K mg "is_name" (top 21) ["thing"]
 d__law_cell:Dg K mg "_law_cell" (top 24) ["_law_script","_law_at"]
 d__law_part:Dg K mg "_law_part" (top 25) ["_law_script","_law_at","_law_k","_law_many"]
 d__law_whole:Dg K mg "_law_whole" (top 26) ["_law_found"]
 d__law_rooms:Dg K mg "_law_rooms" (top 27) ["_law_script","_law_at","_law_most"]
 d__law_level:Dg K mg "_law_level" (top 29) ["_law_rooms_here","_law_guests_here","_law_kind"]
 d__law_names:Dg K mg "_law_names" (top 30) ["_law_script","_law_at"]
 d__law_falls:Dg K mg "_law_falls" (top 32) ["_law_rooms_here","_law_guests_here","_law_kind"]
 d_House_init:XI.DgI K mg "House" aM "House.__init__" (jF 22 0) ["self","rooms"]
 d_House_names:XI.DgM K aM "names" "House.names" (jF 22 7) ["self"]
 d_House_moved:XI.DgM K aM "moved" "House.moved" (jF 22 10) ["self"]
 d_House_guests:XI.DgM K aM "guests" "House.guests" (jF 22 8) ["self"]
 d_House_free:XI.DgM K aM "free" "House.free" (jF 22 9) ["self"]
 d_House_check_guest:XI.DgM K aM "check_guest" "House.check_guest" (jF 22 3) ["self","name"]
 d_House_room_of:XI.DgM K aM "room_of" "House.room_of" (jF 22 5) ["self","name"]
 d_House_kind_of:XI.DgM K aM "kind_of" "House.kind_of" (jF 22 6) ["self","name"]
 d_House_out:XI.DgM K aM "out" "House.out" (jF 22 4) ["self","name"]
 d_House_move_guest:XI.DgM K aM "move_guest" "House.move_guest" (jF 22 2) ["self","room","other"]
 d_House_let_in:XI.DgM K aM "let_in" "House.let_in" (jF 22 1) ["self","name","kind"]
 d__law_moved:Dg K mg "_law_moved" (top 31) ["_law_rooms_here","_law_seats","_law_moves","_law_walks"]
 d__law_came:Dg K mg "_law_came" (top 33) ["_law_house","_law_rooms_here","_law_seats","_law_walks","_law_name","_law_kind"]
 d__law_as_kept:Dg K mg "_law_as_kept" (top 34) ["_law_house","_law_rooms_here","_law_seats","_law_walks"]
 d_law:Dl K mg "law" "_law_script" (top 35)
 c_House:HC_House K
 s_Full:XC.SuiA K mg (λ_=>"kind") "Full" "kind" "InnError"
 g_MOST_SIGNS:∃t,mg "MOST_SIGNS"=some (.int 8 t)
 g_BEST_KIND:∃t,mg "BEST_KIND"=some (.int 4 t)
 blt:Bl mg
def ae4(T:Txt K mg){f:Addr}{fd:ee}(F:FunD K "law" (top 35) f fd):FnOk P w K mg base CX0 65 f fd ["_law_script"] (Qt K):=by
 have t:=HN (P:=P) (w:=w) (base:=base) (n:=0) T.d_is_whole T.blt;have U:=uZ (P:=P) (w:=w) (base:=base) (n:=1) T.d_is_whole_within T.blt (t.mono (by decide));have S:=Er (P:=P) (w:=w) (base:=base) (n:=0) T.d_free_from T.blt;have N:=xP (P:=P) (w:=w) (base:=base) (n:=0) T.d_least_wished T.blt;have r:=HS (P:=P) (w:=w) (base:=base) (n:=1) T.d_falls_of T.blt (S.mono (by decide)) (N.mono (by decide));have R:=wL (P:=P) (w:=w) (base:=base) (n:=0) T.d_guest_to_move T.blt;have u:=HW (P:=P) (w:=w) (base:=base) (n:=1) T.d_moves_by T.blt (S.mono (by decide)) (R.mono (by decide));have s:=HX (P:=P) (w:=w) (base:=base) (n:=0) T.d_is_level T.blt;have q:=HY (P:=P) (w:=w) (base:=base) (n:=2) T.d_admitted T.blt (r.mono (by decide)) (u.mono (by decide)) (s.mono (by decide));have J:=J4 (P:=P) (w:=w) (base:=base) (n:=0) T.d_is_name T.blt T.g_MOST_SIGNS;have y:=Es (P:=P) (w:=w) (base:=base) (n:=0) T.d__law_cell T.blt;have X:=Et (P:=P) (w:=w) (base:=base) (n:=1) T.d__law_part T.blt (y.mono (by decide));have V:=Ak (P:=P) (w:=w) (base:=base) (n:=0) T.d__law_whole T.blt;have G:=Al (P:=P) (w:=w) (base:=base) (n:=2) T.d__law_rooms T.blt (X.mono (by decide));have C:=Am (P:=P) (w:=w) (base:=base) (n:=0) T.d__law_level T.blt;have E:=Ao (P:=P) (w:=w) (base:=base) (n:=2) T.d__law_names T.blt (X.mono (by decide));have B:=Aq (P:=P) (w:=w) (base:=base) (n:=0) T.d__law_falls T.blt;have A:=Ar (P:=P) (w:=w) (base:=base) (n:=0) T.d_House_init T.blt T.c_House;have I:=z9 (P:=P) (w:=w) (base:=base) (n:=0) T.d_House_names T.blt T.c_House;have H:=z_ (P:=P) (w:=w) (base:=base) (n:=0) T.d_House_moved T.blt T.c_House;have Y:=xQ (P:=P) (w:=w) (base:=base) (n:=0) T.d_House_guests T.blt T.c_House;have z:=Av (P:=P) (w:=w) (base:=base) (n:=0) T.d_House_free T.blt T.c_House;have Z:=sZ (P:=P) (w:=w) (base:=base) (n:=1) T.d_House_check_guest T.blt T.c_House (J.mono (by decide));have Q:=wM (P:=P) (w:=w) (base:=base) (n:=2) T.d_House_room_of T.blt T.c_House (Z.mono (by decide));have O:=wO (P:=P) (w:=w) (base:=base) (n:=2) T.d_House_kind_of T.blt T.c_House (Z.mono (by decide));have v:=Eu (P:=P) (w:=w) (base:=base) (n:=2) T.d_House_out T.blt T.c_House (Z.mono (by decide));have W:=uf (P:=P) (w:=w) (base:=base) (n:=0) T.d_House_move_guest T.blt T.c_House;have L:=xR (P:=P) (w:=w) (base:=base) (fld:=(λ_=>"kind")) (n:=1) T.d_House_let_in T.blt T.c_House (U.mono (by decide)) (q.mono (by decide)) (J.mono (by decide)) T.g_BEST_KIND (Y.mono (by decide)) (W.mono (by decide)) (XC.SuiA.up T.s_Full);have D:=Aw (P:=P) (w:=w) (base:=base) (n:=1) T.d__law_moved T.blt (V.mono (by decide));have x:=Ew (P:=P) (w:=w) (base:=base) (fld:=(λ_=>"kind")) (n:=4) T.d__law_came T.blt T.c_House (C.mono (by decide)) (V.mono (by decide)) (B.mono (by decide)) (Y.mono (by decide)) (L.mono (by decide)) T.s_Full (D.mono (by decide));have M:=xT (P:=P) (w:=w) (base:=base) (n:=3) T.d__law_as_kept T.blt T.c_House (I.mono (by decide)) (H.mono (by decide)) (Y.mono (by decide)) (z.mono (by decide)) (Q.mono (by decide)) (O.mono (by decide));exact((ae1 (P:=P) (w:=w) (base:=base) (n:=5) F T.blt T.c_House (X.mono (by decide)) (G.mono (by decide)) (E.mono (by decide)) A (by decide) (v.mono (by decide)) (x.mono (by decide)) (M.mono (by decide))).mono (by decide)).imp (Vm K66.Uq)
end K66
namespace PySem.W.Fast
def tw9676924170774975272:=0
def tw3041895776914853118:=0
def tw13572203279375798516:=0
def tw8887974952863114255:=0
def tw15066222803478453970:=0
def tw3604761322730265746:=0
def tw17325200329668232610:=0
def tw4592280107575639970:=0
def tw5493080863580850519:=0
def tw6588531327438737032:=0
def tw5667609678784758315:=0
def tw14238670510642259374:=0
def tw13450363410418438839:=0
def tw7650762915048296913:=0
def tw15165478750115533147:=0
def tw14801935530397539257:=0
def tw12421190918125330365:=0
def tw205089532617279617:=0
def tw7566870675274467993:=0
def tw18243903462599507424:=0
def tw14046732785962577742:=0
def tw9883438951497052186:=0
def tw17047342050796167901:=0
def tw4540980808176890048:=0
def tw8892608394060116479:=0
def tw406709239220477526:=0
def tw16641084429737972364:=0
def tw1525241078401718760:=0
def tw18345336759552531935:=0
def tw193950917080632918:=0
def tw18391685425350081547:=0
def tw11965359470918574538:=0
def tw12735382635029888784:=0
def tw12445283197302952990:=0
def tw13429190320749511713:=0
def tw8914679562649537913:=0
def tw6307134529953837106:=0
def tw9338628141593932331:=0
def tw17825816120466554080:=0
def tw947072926973159166:=0
def tw6276589262661244837:=0
def tw13131580280216097551:=0
def tw17278526167303164288:=0
def tw7918694707579186379:=0
def tw2523750916638628872:=0
def tw4063519125509718237:=0
def tw2940577619576980627:=0
def tw5970145291372496896:=0
def tw4249676816436777172:=0
def tw8854716176849196220:=0
def tw13592485256205213236:=0
def tw7678790169281691167:=0
def tw597970580249800603:=0
def tw5827084100685125046:=0
def tw9751786597383307730:=0
def tw12409000732142624425:=0
def tw13901643180328952813:=0
def tw10962149017759733438:=0
end PySem.W.Fast
open PySem PySem.W PyProof.Rows
set_option maxRecDepth 100000 in
set_option maxHeartbeats 0 in
theorem PySem.Challenge.cw_nightbook_k66_whole_evenings_holds : PySem.Challenge.rw_nightbook_k66_whole_evenings.Holds := by
 w_on;o_law;k_head;(case hw=>w_witness2)
 k_fill
 refine L2.PJ (l:=PySem.Challenge.rw_nightbook_k66_whole_evenings) (n:=63) (k:=65) (x := "_law_script") (CX:=L2.CX0) (sp:=D3.Qt) rfl (by decide) rfl ⟨rfl,by decide,by decide⟩ (λw h Y=>PySem.W.kIn_of Y) ?F D3.tabs (λ_ _ _=>⟨(λ_ h=>nomatch (show _∈([]:List (Addr×Str×Pos))from h)),(λ_ h=>nomatch (show _∈([]:List (Addr×Str×Pos))from h)),(λ_ h=>nomatch (show _∈([]:List (Addr×Str×Pos))from h))⟩) (λ_ h=>nomatch (show _∈([]:List (Addr×Str×Pos))from h)) ?S ?C
 case F=>
  intro w mg fa h Z G X;have T:K66.Txt (L2.KOf Z) mg:=by
   constructor
   (case blt=>constructor<;>(refine' PySem.W.mg_none_of Z G ?z;(case z=>k_is)))
   all_goals try dsimp only[L2.KOf]
   all_goals first
    | (refine' D3.ah4 Z G ?b ?a ?l ?c ?k;(case a=>k_is);(case l=>k_is);(case c=>k_is);(case k=>k_is);(case b=>intro _ _ _ _ _ _;repeat(first|exact D3.len0 rfl|exact D3.len0 ⟨_,rfl,rfl⟩|refine D3.ae2 λ_=>?_)))
    | (refine' D3.ah5 Z G ?b ?a ?l ?c ?k;(case a=>k_is);(case l=>k_is);(case c=>k_is);(case k=>k_is);(case b=>exact λ_ _ _ _ _ _ u=>rfl))
    | (refine' XI.Zn ?b ?a ?l ?c ?f ?k;(case a=>k_is);(case l=>k_is);(case c=>k_is);(case k=>k_is);(case f=>k_is);(case b=>intro _ _ _ _ _ _;repeat(first|exact D3.len0 rfl|exact D3.len0 ⟨_,rfl,rfl⟩|refine D3.ae2 λ_=>?_)))
    | (refine' XI.ae3 Z G ?b ?mk ?a ?l ?c ?f ?k ?g;(case a=>k_is);(case l=>k_is);(case c=>k_is);(case k=>k_is);(case mk=>k_is);(case f=>k_is);(case g=>k_is);(case b=>intro _ _ _ _ _ _;repeat(first|exact D3.len0 rfl|exact D3.len0 ⟨_,rfl,rfl⟩|refine D3.ae2 λ_=>?_)))
    | (refine' XC.Vv (XC.Y6 Z G ?a ?kp ?lC ?lI ?lN ?oN ?lNI ?oNI ?i1 ?i2 ?s1 ?s2 ?n1 ?n2 ?hB ?lk ?hcd ?sc ?l1 ?l2 ?hb ?ne ?nd ?nc) rfl (aaw Z G ?m) ⟨⟨?e4,?e5,?e6⟩,?a2,?a3⟩;(case a=>k_is);(case kp=>k_is);(case lC=>k_is);(case lI=>k_is);(case lN=>k_is);(case lNI=>k_is);(case oN=>rfl);(case oNI=>rfl);(case i1=>k_is);(case i2=>k_is);(case s1=>k_is);(case s2=>k_is);(case n1=>k_is);(case n2=>k_is);(case hB=>rw[cq,bv];kernel_rfl);(case lk=>k_is);(case hcd=>k_is);(case sc=>exact⟨rfl,rfl,rfl,by decide +kernel,rfl,by decide +kernel,by decide +kernel⟩);(case l1=>rfl);(case l2=>rfl);(case hb=>exact λ_ _=>rfl);(case ne=>decide);(case nd=>decide);(case nc=>decide);(case m=>k_is);(case e4=>kernel_rfl);(case e5=>kernel_rfl);(case e6=>kernel_rfl);(case a2=>kernel_rfl);(case a3=>kernel_rfl))
    | (exact⟨_,aaw Z G rfl⟩)
    | (refine'⟨⟨?q1,?q2,?q3,?q4⟩,?r1,?r2,?r3,?r4⟩<;>(first|kernel_rfl|(show aad _ _ _=_;kernel_rfl)))
  obtain⟨f,fd,F,b,m⟩:=T.d_law.ex;have Q:=X.symm.trans m
  cases Q;exact⟨fd,b,λbase O P=>K66.ae4 T F⟩
 case S=>exact λK H a ns V R U=>⟨a,ns,R,rfl,U,V,λ_=>rfl⟩
 case C=>exact λ_ _ _ _ z=>z
