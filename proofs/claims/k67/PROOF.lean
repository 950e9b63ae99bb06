import PyProof.Rows.All
import Wide.All
import OpenK.AllK
import Wide.FinOn
import Lean
import PyProof.EqAt
import PyProof.EqKinds
import PyProof.TupleCall
import PyProof.EqLayable
import KE.KDictList
import KE.KDictOf
import KE.KDictSum
import KE.KEqDict
import KE.KIsAll
import KE.KMinBuiltin
import KE.KPairComp
import KE.KRevIter
import KE.KSortTup
import KE.KxText
import PyProof.AttrMissHeap
import PyProof.DictTable
import PyProof.DictWalks
import PyProof.ExcAttrAll.ValueError
import PyProof.ExcBaseAll.ValueError
import PyProof.ExcClass2
import PyProof.ExcInit
import PyProof.FString5
import PyProof.InstStore
import PyProof.InstStoreFacts
import PyProof.NeKinds
import PyProof.NsDelKeeps
import PyProof.P3In
import PyProof.RaisesMany
import PyProof.Rows.SortRev
import PyProof.Rows.SortWalk
import PyProof.RulesAs
import PyProof.RulesTry
import PySem.Sem
import PySem.Challenge.RW_nightbook_k67_whole_let_in_where_any_sea
set_option Elab.async false
set_option linter.all false
set_option maxRecDepth 100000
set_option maxHeartbeats 4000000
set_option exponentiation.threshold 40000
set_option genSizeOf false
set_option genSizeOfSpec false
set_option genInjectivity false
set_option bootstrap.genMatcherCode false
noncomputable section
open PySem renaming wpAny_bind->aa,wpAny_pure->ag,wpAny_mono->ar,wpAny_Call_Name_kw->av,wpAny_loadPart_at->aw,wpAny_truthy_bool->ax,wpAny_holding->az,wpAny_field->aE,codeAny_builtin->aI,plainId_quiet->a_,wpAny_seqItems->ba,wpAny_updateSeq->bb,wpAny_passesOwn->bc,wpAny_execs_nil->bd,wpAny_isSubtype_exc->bg,tupleKind_room_in1->bi,wpAny_tryCatch->bn,builtinLookup_eq_fast->bo,wpAny_execs_cons->bx,wpAny_nextOf_list_item->bE,typeLookup_type->bS,codeAny_mono->bX,call_meetsIn->b8,wpAny_loadName_local->b9,wpAny_setField->cc,wpAny_letGo->cd,wpAny_standAt->ce,wpAny_pyIter_list->ci,wpAny_newObj_type->ck,wpAny_call->cm,wpAny_Name->cq,plainObj_wpAny_Assign_Attribute->cr,wpAny_typeOf->cu,wpAny_call_entry->cw,wpAny_specialOf->cz,wpAny_newFunctionEnv_cells->cE
open PySem.Heap renaming get?_push_of_some->ae,lt_size->af,get?_push_size->ah,get?_update_other->ai,get?_update_self->am,size_update->bj,get?_none_of_le->bz,size_push->cv,get?_push_cases->cS,get?_update_ne->c0
open PySem.Around renaming under_plainId->ay,in1_units->bq
open PySem.SeqAt renaming canLay_of_shaped->aS
open PySem.Calls renaming callWith_builtin->aT,spliced_cons->be,spliced_nil->bp,evalArgs_plain->bv,Name_function_global->cf
open PySem.SeqAt.EqAt renaming of_refs->br,int_int->cy
open PySem.Obj renaming isFreed_of_fields->bu,data_mapFields->ca
open PySem.F renaming slot_zip_next->bP,plain_extend_loop->cb
open PyProof.Rows renaming boot_list->cB
open PySem.Heap.Ns1 renaming of_empty->cK
open List renaming length_map->ak,mem_cons_of_mem->au,mem_cons_self->aA,getElem?_eq_getElem->aF,getElem?_set_ne->aL,map_cons->aM,mem_cons->aN,getElem?_map->aO,getElem?_eq_some_iff->aQ,mem_append_right->aR,mem_map->aV,length_cons->aW,length_append->bw,getElem?_eq_none->bA,size_toArray->bC,length_replicate->bF,range->bH,map_append->bI,mem_singleton->bJ,replicate->bK,getD_eq_getElem?_getD->bL,map_map->bO,getElem?_append_left->bR,mem_append_left->bT,getElem?_set_self->bU,getElem?_append_right->bV,nodup_cons->bW,mem_filter->bZ,mem_append->b_,length_set->cg,mem_range->cA,mem_of_getElem?->cD,lookup_cons->cF,set_cons_zero->cJ,getElem?_replicate->cM,nodup_append->cO,append_nil->cR,map_nil->cZ,pairwise_cons->dg,map_congr_left->dF,not_mem_nil->dJ,set_cons_succ->dM,length_nil->dZ,length_reverse->eG,all_eq_true->eY,contains_cons->fj,getElem?_of_mem->fO,lookup->gj,getElem?_drop->gC,length_singleton->g8,pairwise_reverse->h_,reverse_cons->iu,ext_getElem?->iw,length_range->iy,length_take->iQ,getElem_mem->iR,drop_eq_getElem_cons->iV,filterMap_cons->iZ,filter_map->jg,zip_cons_cons->jk,getElem?_cons_succ->jr,drop_eq_nil_of_le->jB,append_assoc->jD,filter_cons->jR,getElem?_mapIdx->j8,of_mem_zip->kI,find?_cons->kJ,getElem?_range->kY,find?_eq_none->lE,mem_of_find?_eq_some->lO,length->lQ,reverse_perm->lR,pairwise_map->lU,any_cons->mz,any_eq_true->mO,cons_append->mR,filter_cons_of_pos->mU,filter_cons_of_neg->mV,drop_of_length_le->nO,forIn_cons->ou,nil_append->oE,length_filter_le->oG,mem_iff_getElem?->oH,mem_iff_getElem->oO,filter_sublist->pW,mem_filterMap->qd,take_add_one->rE,filter_congr->rG
open Nat renaming reduceLeDiff->ao,reduceEqDiff->aq,reduceAdd->aC,reduceLT->aG,le_refl->aP,le_trans->aZ,ne_of_lt->bB,lt_of_lt_of_le->bQ,not_lt->cV,lt_irrefl->dw,le_of_lt->dB,lt_succ_self->eX,zero_le->fL,le_succ->iD,eq_zero_or_pos->ji,lt_trans->jA,zero_add->jE,lt_or_ge->lu,le_add_right->mQ,lt_of_le_of_lt->qg,ne_of_gt->rB,le_of_eq->rC,lt_succ_of_lt->rF
open Int renaming reduceEq->aH,reduceLT->aJ,reduceLE->aK,le_refl->gq,emod_lt_of_pos->jj,toNat_natCast->jC,emod_nonneg->kO,le_trans->lq,le_antisymm->oA,sub_zero->rD
open Option renaming bind_some->aj,some->cL,map_some->d9,isSome_map->fP,isSome_iff_exists->fV,isSome_some->jh,isSome_none->lF,map_eq_some_iff->nM
open Bool renaming and_eq_true->aX,false_ne_true->eZ,false_eq_true->fB,not_true->gU,or_true->iT
open Array renaming length_toList->cH,getElem?_eq_none->eN,getElem?_eq_some_iff->fu,getElem?_toList->g_,getElem?_eq_getElem->iW,mem_toList_iff->oM,find?_toList->qe,forIn_toList->qj
open And renaming intro->c8
open PySem renaming Shared->c9,Program->c_,Around->dc,World->de,FuncData->dk,Heap->dl,Stmt->dy,Scope->er,IsPair->et,Keyword->eD,Builtin->eF,GenState->eQ,Model->eR,ZipApart->fg
open PySem.PyData renaming int->da,depthAll->di,canLay0->dv,tuple->dA,canLayAll0->dL,depth->dQ,eqv->ef,bool->eh,list->eI,str->eL
open PySem.Value renaming ref->db,none->dm,int->ec,bool->ei,str->eC,type->eM,builtin->eT
open Ne renaming symm->df
open PySem.Str renaming ofString->dn
open PySem.SeqAt renaming shaped->dr
open PySem.NameKind renaming free->dt,cell->ez
open PyProof.Rows renaming callWith_type1->du,AllBare->eK,IntsAre->eV,callWith_kw->e9,boot_bool->fh
open True renaming intro->dE
open Sum renaming inl->dP,inr->eH
open List.Nodup renaming length_le_of_subset->d4
open False renaming elim->d8
open PySem.Obj renaming mapSeq->eb,mapFields->eW
open ForInStep renaming yield->ee
open PySem.PassesOwn renaming never->eg
open PySem.Heap renaming SameBut->ew
open PySem.SeqAt.EqAt renaming same->eA
open List.Pairwise renaming imp_of_mem->eB
open Classical renaming choose_spec->eJ
open PySem.Builtin.Builtins renaming bindParams->eP
open PySem.Builtin.List renaming listSameRef->e_
open PySem.Builtin.Dict renaming updateFrom->ff
open PySem PySem.Spec PyProof.Rows
theorem dTr{p:Prop}[Decidable p](h:p):decide p=true:=decide_eq_true h
theorem dFa{p:Prop}[Decidable p](h:¬p):decide p=false:=decide_eq_false h
theorem lMp{α β:Type}{f:α->β}{l:List α}:(l.map f).length=l.length:=ak f

namespace L2
abbrev Key:=Sum Int Str
noncomputable def vq:Key->Value->Bool
 | .inl k,v=>Value.isInt k v
 | .inr x,v=>Value.isStrOf x v
def Z_(w:de):Key->Int
 | .inl k=>hashInt k
 | .inr x=>hashStr w x
theorem eU:∀{k:Key}{v:Value},vq k v=true->(∃i t,k=dP i/\v=ec i t)\/(∃x t,k=eH x/\v=eC x t)
 | .inl i,v,h=>by
  obtain⟨t,e⟩:=Value.isInt_shape (k:=i) (v:=v) h;exact .inl ⟨i,t,rfl,e⟩
 | .inr x,v,h=>by
  obtain⟨t,e⟩:=Value.isStrOf_shape (x:=x) (v:=v) h;exact .inr ⟨x,t,rfl,e⟩
theorem Io(i:Int)(t:Tok):vq (.inl i) (.int i t)=true:=by simp[vq,Value.isInt]
theorem Ir(x:Str)(t:Tok):vq (.inr x) (.str x t)=true:=by simp[vq,Value.isStrOf]
theorem Uy(a b:Int):decide ((dP a:Key)=dP b)=(a==b):=by
 by_cases e:a=b
 ·subst e;simp
 ·have h:¬(dP a:Key)=dP b:=λq=>e (Sum.inl.inj q)
  rw[dFa h];exact(beq_eq_false_iff_ne.mpr e).symm
theorem Uz(a b:Str):decide ((eH a:Key)=eH b)=decide (a=b):=by
 by_cases e:a=b
 ·subst e;simp
 ·have h:¬(eH a:Key)=eH b:=λq=>e (Sum.inr.inj q)
  rw[dFa h,dFa e]
theorem UG(a:Int)(b:Str):decide ((dP a:Key)=eH b)=false:=dFa (λq=>nomatch q)
theorem UJ(a:Str)(b:Int):decide ((eH a:Key)=dP b)=false:=dFa (λq=>nomatch q)
def cj(prog:c_)(w:de):PySem.KeyKind prog w Key where
 is:=vq
 hash:=Z_ w
 inj:=λv a b ha hb=>by
  rcases eU ha with⟨i,t,rfl,rfl⟩|⟨x,t,rfl,rfl⟩
  ·rcases eU hb with⟨j,u,rfl,e⟩|⟨y,u,rfl,e⟩
   ·injection e with Z _;rw[Z]
   ·exact nomatch e
  ·rcases eU hb with⟨j,u,rfl,e⟩|⟨y,u,rfl,e⟩
   ·exact nomatch e
   ·injection e with Z _;rw[Z]
 byValue:=λk v h=>by
  rcases eU h with⟨i,t,rfl,rfl⟩|⟨x,t,rfl,rfl⟩<;>rfl
 pyHash:=λY h=>by
  rcases eU Y with⟨i,t,rfl,rfl⟩|⟨x,t,rfl,rfl⟩
  ·exact wpAny_pyHash_int h
  ·exact wpAny_pyHash_str h
 eqBool:=λX Y h=>by
  rcases eU X with⟨i,t,rfl,rfl⟩|⟨x,t,rfl,rfl⟩
  ·rcases eU Y with⟨j,u,rfl,rfl⟩|⟨y,u,rfl,rfl⟩
   ·rw[Uy]at h;exact wpAny_eqBool_int h
   ·rw[UG]at h;exact SeqAt.EqAt.int_str i t y u _ _ _ _ h
  ·rcases eU Y with⟨j,u,rfl,rfl⟩|⟨y,u,rfl,rfl⟩
   ·rw[UJ]at h;exact SeqAt.EqAt.str_int x t j u _ _ _ _ h
   ·rw[Uz]at h;exact wpAny_eqBool_str h
 «strs»:=λk x t v h=>by
  rcases eU h with⟨i,u,rfl,e⟩|⟨y,u,rfl,e⟩
  ·exact nomatch e
  ·injection e with Z _
   subst Z
   cases v<;>rfl
theorem vC(prog:c_)(w:de)(k:Key)(v:Value):(cj prog w).is k v=vq k v:=rfl
theorem Ao(prog:c_)(w:de)(i:Int)(t:Tok):(cj prog w).is (.inl i) (.int i t)=true:=Io i t
theorem Aq(prog:c_)(w:de)(x:Str)(t:Tok):(cj prog w).is (.inr x) (.str x t)=true:=Ir x t
end L2
namespace L2
inductive V where
 |non|bl (b:Bool)|int (i:Int)|str (x:Str)|byt (b:Array UInt8)|flt (b:UInt64)|ref (a:Addr)|ty (n:String)
 deriving DecidableEq
def RelV:V->Value->Prop
 | .non,u=>u=dm
 | .bl b,u=>u=ei b
 | .int i,u=>∃t,u=ec i t
 | .str x,u=>∃t,u=eC x t
 | .byt b,u=>∃t,u=Value.bytes b t
 | .flt b,u=>∃t,u=Value.float b t
 | .ref a,u=>u=db a
 | .ty n,u=>u=eM n
abbrev Vals:List V->List Value->Prop:=Paired RelV
theorem Vals.length{xs:List V}{us:List Value}(r:Vals xs us):xs.length=us.length:=Paired.length r
theorem Vals.get:∀{xs:List V}{us:List Value}{i:Nat}{x:V},Vals xs us->xs[i]? = some x->∃u,us[i]? = some u/\RelV x u
 |_,_,_,_,.nil,e=>by simp at e
 |_,_,0,_,.cons r _,e=>by simp at e;subst e;exact⟨_,rfl,r⟩
 |_,_,i+1,x,.cons _ t,e=>by
  obtain⟨u,h1,h2⟩:=Vals.get (i:=i) (x:=x) t (by simpa using e);exact⟨u,by simpa using h1,h2⟩
theorem Vals.append:∀{xs ys:List V}{us ws:List Value},Vals xs us->Vals ys ws->Vals (xs++ys) (us++ws)
 |_,_,_,_,.nil,s=>s
 |_,_,_,_,.cons r t,s=>.cons r (Vals.append t s)
theorem Vals.take:∀{xs:List V}{us:List Value}(n:Nat),Vals xs us->Vals (xs.take n) (us.take n)
 |_,_,0,_=>.nil
 |_,_,_+1,.nil=>.nil
 |_,_,n+1,.cons r t=>.cons r (Vals.take n t)
theorem Vals.drop:∀{xs:List V}{us:List Value}(n:Nat),Vals xs us->Vals (xs.drop n) (us.drop n)
 |_,_,0,r=>r
 |_,_,_+1,.nil=>.nil
 |_,_,n+1,.cons _ t=>Vals.drop n t
def nP:Option V->Option Value->Prop
 |some v,some u=>RelV v u
 |none,none=>True
 |_,_=>False
def KV{κ:Type}:List (κ×V)->List (κ×Value)->Prop:=Paired λ(p:κ×V)(q:κ×Value)=>p.1=q.1/\RelV p.2 q.2
noncomputable def kV:Key->V
 | .inl i=>.int i
 | .inr x=>.str x
inductive HO where
 |lst (xs:List V)
 |tup (xs:List V)
 |dK (kvs:List (Key×V))|dT (kvs:List (List Key×V))
 |set (S:Int->Bool) (n:Nat)
 |ins (C dx:Addr) (fs:List (Str×V))
 |own (x:Addr)
 |xd (fs:List (Str×V))
 |met (f x:Addr)
 |rng (lo hi:Int)
 |frz (o:Obj) (u:HO)
 |tbl (q:Str) (p:Pos)
 |ext (φ:dl->Prop)
noncomputable abbrev Hp:=Addr->Option HO
noncomputable def upd(H:Hp)(a:Addr)(o:HO):Hp:=λb=>if b=a then some o else H b
theorem bG{H:Hp}{a:Addr}{o:HO}:upd H a o a=some o:=by unfold upd;rw[if_pos rfl]
theorem bf{H:Hp}{a b:Addr}{o:HO}(h:b≠a):upd H a o b=H b:=by unfold upd;rw[if_neg h]
theorem cU{H:Hp}{a b:Addr}{o u:HO}(h:H a=some o)(h':H b=some u)(d:o≠u):a≠b:=by
 intro e;subst e;rw[h]at h';exact d (cL.inj h')
theorem jT{H:Hp}{a b:Addr}{o:HO}(h:H a=some o)(h':H b=none):a≠b:=by
 intro e;subst e;rw[h]at h';cases h'
section
variable(P:c_)(w:de)
def fJ(H:Hp)(h:dl)(a:Addr):HO->Prop
 | .lst xs=>xs.length<=sizeLine/\∃(its:List Value)(n:Nat),Vals xs its/\h.get? a=some {cls:=.type "list", data:=.seq its.toArray n}
 | .tup xs=>xs.length<=sizeLine/\∃its:List Value,Vals xs its/\IsTup h a its.toArray
 | .dK kvs=>kvs.length<=sizeLine/\(a==sysModules)=false/\∃vs,KV kvs vs/\h.DictOf (cj P w) a vs
 | .dT kvs=>kvs.length<=sizeLine/\(a==sysModules)=false/\∃xs:List (List Key×Addr×Value),
  Paired (λ(p:List Key×V)(q:List Key×Addr×Value)=>p.1=q.1/\H q.2.1=some (.tup (p.1.map kV))/\RelV p.2 q.2.2) kvs xs /\
  ∃o es Z,h.get? a=some o/\o.ExactDict/\o.data = .dict es Z/\es.toList=xs.map (entryOfKey (tupleKind (cj P w)))/\(xs.map (·.1)).Nodup
 | .set S n=>h.SetOf (intKind P w) a S n
 | .ins C dx fs=>H dx=some (.own a)/\fs.length<=1000/\dx≠a/\h.get? a=some (PySem.W.instObj C dx) /\
  ∃mA,h.Ns1 dx mA/\(∀f,nP (fs.lookup f) (mA f))/\PySem.Within mA (fs.map (·.1))
 | .own _=>∃o,h.get? a=some o
 | .xd fs=>∃mA,h.Ns1 a mA/\∀f,nP (fs.lookup f) (mA f)
 | .rng lo hi=>∃t u v,h.get? a=some {cls:=.type "range", data:=.fields #[.int lo t,.int hi u,.int 1 v]}
 | .frz o u=>h.get? a=some o/\fJ H h a u
 | .tbl q p=>∃ps,h.get? a=some {cls:=.none,data:=.fields ps}/\(ps = #[]\/∃c',ps = #[rawInt p.line,rawInt p.col,.ref c']/\H c'=some (.own a)/\h.CodeRec (.ref c') q)
 | .met f x=>h.get? a=some (PySem.W.methodObj (.ref f) (.ref x))
 | .ext φ=>φ h/\(∃o,h.get? a=some o)/\∀h1 h2:dl,φ h1->(∀o,h1.get? a=some o->h2.get? a=some o)->φ h2
def HOk(H:Hp)(h:dl):Prop:=∀a o,H a=some o->fJ P w H h a o
end
section
variable{P:c_}{w:de}{H H':Hp}{h h':dl}{a:Addr}{o:HO}
theorem fJ.lt(x:fJ P w H h a o):a<h.objs.size:=by
 cases o with
 |lst xs=>obtain⟨_,_,_,_,e⟩:=x;exact af e
 |tup xs=>obtain⟨_,_,_,p⟩:=x;exact p.lt
 |dK kvs=>obtain⟨_,_,_,_,o,_,_,e,_⟩:=x;exact af e
 |dT kvs=>obtain⟨_,_,_,_,o,_,_,e,_⟩:=x;exact af e
 |set S n=>obtain⟨o,_,_,_,e,_⟩:=x;exact af e
 |ins C dx fs=>obtain⟨_,_,_,e,_⟩:=x;exact af e
 |own y=>obtain⟨_,e⟩:=x;exact af e
 |xd fs=>obtain⟨_,⟨_,_,_,e,_⟩,_⟩:=x;exact af e
 |rng lo hi=>obtain⟨_,_,_,e⟩:=x;exact af e
 |frz Z u=>obtain⟨e,_⟩:=x;exact af e
 |tbl q p=>obtain⟨_,e,_⟩:=x;exact af e
 |met f y=>exact af (show h.get? a=some _ from x)
 |ext φ=>obtain⟨_,⟨_,e⟩,_⟩:=x;exact af e
theorem Paired.mapP{α β:Type}{F G:α->β->Prop}:∀{J:List α}{q:List β},Paired F J q->(∀a b,F a b->G a b)->Paired G J q
 |_,_,.nil,_=>.nil
 |_,_,.cons r t,f=>.cons (f _ _ r) (Paired.mapP t f)
theorem fJ.stay(x:fJ P w H h a o)(k:∀b u,(b=a\/H b=some (.own a))->h.get? b=some u->h'.get? b=some u)
 (J:∀b,H b=some (.own a)->H' b=some (.own a)) (ht:∀b xs,H b=some (.tup xs)->H' b=some (.tup xs)):fJ P w H' h' a o:=by
 induction o with
 |lst xs=>obtain⟨z,its,n,r,e⟩:=x;exact⟨z,its,n,r,k _ _ (.inl rfl) e⟩
 |tup xs=>obtain⟨z,its,r,Z,e,c⟩:=x;exact⟨z,its,r,Z,k _ _ (.inl rfl) e,c⟩
 |dK kvs=>obtain⟨z,y,vs,r,Z,es,Y,e,c⟩:=x;exact⟨z,y,vs,r,Z,es,Y,k _ _ (.inl rfl) e,c⟩
 |dT kvs=>
  obtain⟨z,y,xs,r,Z,es,Y,e,c⟩:=x;exact⟨z,y,xs,Paired.mapP r λp q z=>⟨z.1,ht _ _ z.2.1,z.2.2⟩,Z,es,Y,k _ _ (.inl rfl) e,c⟩
 |set S n=>obtain⟨Z,es,Y,t,e,c⟩:=x;exact⟨Z,es,Y,t,k _ _ (.inl rfl) e,c⟩
 |ins C dx fs=>
  obtain⟨d,z,ne,e,mA,⟨od,es,Y,L,c⟩,r⟩:=x;exact⟨J _ d,z,ne,k _ _ (.inl rfl) e,mA,⟨od,es,Y,k _ _ (.inr d) L,c⟩,r⟩
 |own y=>obtain⟨Z,e⟩:=x;exact⟨Z,k _ _ (.inl rfl) e⟩
 |xd fs=>obtain⟨mA,⟨od,es,Y,e,c⟩,r⟩:=x;exact⟨mA,⟨od,es,Y,k _ _ (.inl rfl) e,c⟩,r⟩
 |rng lo hi=>obtain⟨t,u,v,e⟩:=x;exact⟨t,u,v,k _ _ (.inl rfl) e⟩
 |frz Z u N=>obtain⟨e,q⟩:=x;exact⟨k _ _ (.inl rfl) e,N q⟩
 |tbl q p=>
  obtain⟨ps,e,z⟩:=x;refine⟨ps,k a _ (.inl rfl) e,?_⟩;rcases z with z|⟨c',Q,U,R⟩
  ·exact .inl z
  ·obtain⟨c,oc,vs,O,T,X,W,M⟩:=R;have V:c'=c:=by injection T
   exact .inr ⟨c',Q,J _ U,c,oc,vs,O,T,k _ _ (.inr (V▸U)) X,W,M⟩
 |met f y=>
  have e:=x;exact k a _ (.inl rfl) e
 |ext φ=>obtain⟨p,⟨o,e⟩,st⟩:=x;exact⟨st _ _ p λo q=>k _ _ (.inl rfl) q,⟨o,k _ _ (.inl rfl) e⟩,st⟩
theorem HOk.lt(x:HOk P w H h)(e:H a=some o):a<h.objs.size:=(x a o e).lt
theorem HOk.fresh(x:HOk P w H h)(e:h.objs.size<=a):H a=none:=by
 cases q:H a with
 |none=>rfl
 |some u=>exact absurd (bQ (x.lt q) e) (dw _)
theorem HOk.kept(x:HOk P w H h)(k:∀b u,h.get? b=some u->h'.get? b=some u):HOk P w H h':=λa o e=>
 (x a o e).stay (λb u _ q=>k b u q) (λ_ q=>q) λ_ _ q=>q
theorem HOk.laid(x:HOk P w H h)(k:∀b u,h.get? b=some u->h'.get? b=some u)(J:h.objs.size<=a)(new:fJ P w (upd H a o) h' a o):HOk P w (upd H a o) h':=λb u e=>by
 have hn:=x.fresh J;by_cases hb:b=a
 ·subst hb;rw[bG]at e;cases e;exact new
 ·rw[bf hb]at e;exact(x b u e).stay (λc v _ q=>k c v q) (λc q=>by rwa[bf (jT q hn)]) λc xs q=>by rwa[bf (jT q hn)]
end
def Rd(H:Hp)(a:Addr)(u:HO):Prop:=H a=some u\/∃o,H a=some (.frz o u)
theorem Rd.ok{P:c_}{w:de}{H:Hp}{h:dl}{a:Addr}{u:HO}(r:Rd H a u)(x:HOk P w H h):fJ P w H h a u:=by
 rcases r with r|⟨o,r⟩
 ·exact x a u r
 ·obtain⟨_,q⟩:=x a _ r;exact q
def Mut:Option HO->Prop
 |some (.lst _)=>True
 |some (.dK _)=>True
 |some (.dT _)=>True
 |some (.set _ _)=>True
 |some (.ins _ _ _)=>True
 |some (.ext _)=>True
 |_=>False
section
variable{P:c_}{w:de}{H:Hp}{h h':dl}{x e:Addr}{o':HO}
theorem HOk.write(ok:HOk P w H h)(J:Mut (H x))(U:e=x\/H e=some (.own x))(k:∀b u,b≠e->h.get? b=some u->h'.get? b=some u)(O:∃u,h'.get? e=some u)
 (new:fJ P w (upd H x o') h' x o'):HOk P w (upd H x o') h':=λb u q=>by
 have Y:∀c y,H c=some (.own y)->c≠x:=λc y r z=>by subst z;rw[r]at J;exact J
 have X:∀c xs,H c=some (.tup xs)->c≠x:=λc xs r z=>by subst z;rw[r]at J;exact J
 by_cases hb:b=x
 ·subst hb;rw[bG]at q;cases q;exact new
 ·rw[bf hb]at q;by_cases Z:b=e
  ·have V:H b=some (.own x):=by
    rcases U with z|z
    ·exact absurd (Z.trans z) hb
    ·rwa[Z]
   rw[q]at V;cases V;obtain⟨v,T⟩:=O;exact⟨v,by rwa[Z]⟩
  ·refine(ok b u q).stay (λc v W r=>k c v ?_ r) (λc r=>by rwa[bf (Y c b r)]) λc xs r=>by rwa[bf (X c xs r)]
   rcases W with rfl|W
   ·exact Z
   ·rintro rfl;rcases U with z|z
    ·exact Y c b W z
    ·rw[W]at z;cases z;exact hb rfl
end
structure Un(fs ex:List Addr)(H H':Hp)(h h':dl):Prop where
 keep:∀b o,h.get? b=some o->H b=none->b∉fs->b∉ex->h'.get? b=some o
 slot:∀b o,h.get? b=some o->H b=none->b∈fs->b∉ex->∃sl,h'.get? b=some {o with slots:=sl}
 free:∀b o,h.get? b=some o->H b=none->b∉ex->H' b=none
 there:∀b o,h.get? b=some o->b∉ex->∃o',h'.get? b=some o'
 tups:∀b xs,H b=some (.tup xs)->H' b=some (.tup xs)
 frzs:∀b o u,H b=some (.frz o u)->H' b=some (.frz o u)
 tbls:∀b q p,H b=some (.tbl q p)->H' b=some (.tbl q p)
section
variable{fs fs' ex ex':List Addr}{H H1 H2:Hp}{h h1 h2 h':dl}{a x e:Addr}{o:HO}
theorem Un.any(u:Un fs ex H H1 h h1){b:Addr}{J:Obj}(q:h.get? b=some J)(n:H b=none)(hx:b∉ex):∃sl,h1.get? b=some {J with slots:=sl}:=by
 by_cases hb:b∈fs
 ·exact u.slot b J q n hb hx
 ·exact⟨J.slots,u.keep b J q n hb hx⟩
theorem Un.kept(k:∀b u,h.get? b=some u->h'.get? b=some u):Un fs ex H H h h':=
 ⟨λb Z q _ _ _=>k b Z q,λb Z q _ _ _=>⟨Z.slots,k b Z q⟩,λ_ _ _ n _=>n,λb Z q _=>⟨Z,k b Z q⟩,λ_ _ q=>q,λ_ _ _ q=>q,λ_ _ _ q=>q⟩
theorem Un.refl:Un fs ex H H h h:=Un.kept λ_ _ q=>q
theorem Un.laid(k:∀b u,h.get? b=some u->h'.get? b=some u)(J:h.objs.size<=a)(hn:H a=none):Un fs ex H (upd H a o) h h' where
 keep:=λb u q _ _ _=>k b u q
 slot:=λb u q _ _ _=>⟨u.slots,k b u q⟩
 free:=λb u q n _=>by rwa[bf (bB (bQ (af q) J))]
 there:=λb u q _=>⟨u,k b u q⟩
 tups:=λb xs q=>by rwa[bf (jT q hn)]
 frzs:=λb u xs q=>by rwa[bf (jT q hn)]
 tbls:=λb q p e=>by rwa[bf (jT e hn)]
theorem Un.write(J:Mut (H x))(U:e=x\/H e=some (.own x))(k:∀b u,b≠e->h.get? b=some u->h'.get? b=some u)(O:∃u,h'.get? e=some u):Un fs ex H (upd H x o) h h':=by
 have hx:∀b,H b=none->b≠x:=λb n z=>by subst z;rw[n]at J;exact J
 have hb:∀b,H b=none->b≠e:=λb n z=>by
  subst z;rcases U with r|r
  ·exact hx b n r
  ·rw[n]at r;cases r
 have hm:∀b u,H b=some u->¬Mut (some u)->b≠x:=λb u q nm z=>by subst z;rw[q]at J;exact nm J
 refine⟨λb u q n _ _=>k b u (hb b n) q,λb u q n _ _=>⟨u.slots,k b u (hb b n) q⟩,λb u q n _=>by rwa[bf (hx b n)],λb u q _=>?_,
  λb xs q=>by rwa[bf (hm b _ q λz=>z)],λb u xs q=>by rwa[bf (hm b _ q λz=>z)],λb q p e=>by rwa[bf (hm b _ e λz=>z)]⟩
 by_cases Z:b=e
 ·subst Z;exact O
 ·exact⟨u,k b u Z q⟩
end
noncomputable def trk(h:dl)(H:Hp):List Addr:=(bH h.objs.size).filter λa=>(H a).isSome
def Ar(h:dl)(H:Hp):dl:=PySem.W.hideAll h (trk h H)
theorem Iu(h:dl)(H:Hp):(Ar h H).objs.size=h.objs.size:=PySem.W.hideAll_size _ _
theorem J8{h:dl}{H:Hp}{b:Addr}{o:Obj}(e:h.get? b=some o)(n:H b=none):(Ar h H).get? b=some o:=
 PySem.W.hideAll_get _ e λhm=>by
  have q:=(bZ.mp hm).2;rw[n]at q;simp at q
theorem Qa{h:dl}{H:Hp}{b:Addr}{o:Obj}(e:(Ar h H).get? b=some o):h.get? b=some o/\H b=none:=by
 have Z:h.get? b=some o:=PySem.W.of_hideAll (trk h H) e;refine⟨Z,?_⟩
 cases q:H b with
 |none=>rfl
 |some x=>
  have hm:b∈trk h H:=bZ.mpr ⟨cA.mpr (af Z),by simp[q]⟩;have z:(Ar h H).get? b=none:=PySem.W.hideAll_none (trk h H) hm;rw[z]at e;cases e
end L2
namespace L2
structure Mod(K:PySem.W.Frag)(mg:Str->Option Value)(base:dl):Prop where
 kin:K.In base
 glob:base.Ns mainGlobals mg
 blt:∃mb,base.Ns builtinsNs mb/\∀x:Str,x≠"__name__"->mb x=bootBuiltins x
 nolimit:base.NoLimit
 bm:∃bm ob,mg "__builtins__"=some (.ref bm)/\bm≠builtinsNs/\base.get? bm=some ob/\ob.cls = .type "module"/\ob.dict=some builtinsNs/\ob.data = .plain
structure Cx where
 prog:c_
 w:de
 K:PySem.W.Frag
 mg:Str->Option Value
 base:dl
 A:dc
 N:List Str
 s₀:c9
 H₀:Hp
 env:Env
 outer:List Env
 stack:List Env
 ex:List Addr
 fn:Str->Bool
 calm:Bool
 pn:List (Addr×Obj)
 xe:Value->c9->Prop
noncomputable def frs(l:List Env):List Addr:=l.filterMap (·.frame)
abbrev Cx.fs(X:Cx):List Addr:=frs X.outer
def Vis(sc:er)(x:Str):Prop:=sc.names.lookup x=some .local\/sc.names.lookup x=some .cell\/sc.names.lookup x=some .free
def Loc(sc:er)(x:Str):Prop:=sc.names.lookup x=some .local\/sc.names.lookup x=some .cell
def Look(env:Env)(h:dl)(m:Str->Option Value)(x:Str)(u:Value):Prop:=
 (env.kindOf x=some .local/\m x=some u)\/((env.kindOf x=some .cell\/env.kindOf x=some .free)/\∃c,env.cells.lookup x=some c/\h.IsCell c (some u))
structure Cx.Ok(X:Cx):Prop where
 mod:Mod X.K X.mg X.base
 kind:X.env.scope.kind = .function
 glob:X.env.globals=mainGlobals
 blt:X.env.builtins=builtinsNs
 above:X.s₀.heap.objs.size<=X.env.locals
 inj:∀x y c,X.env.cells.lookup x=some c->X.env.cells.lookup y=some c->x=y
 has:∀x,(X.env.kindOf x=some .cell\/X.env.kindOf x=some .free)->∃c,X.env.cells.lookup x=some c
 cab:∀x c,X.fn x=true->X.env.cells.lookup x=some c->X.s₀.heap.objs.size<=c
 hd:X.calm=true->X.A.handled=none
 frames:X.A.frames=some X.stack
 stk:X.stack=X.outer\/(X.stack=X.env::X.outer/\X.env.frame=some X.env.locals)
 exf:∀b∈X.ex,b≠X.env.locals/\∀x c,X.env.cells.lookup x=some c->c≠b
 bs:∀b o,X.base.get? b=some o->X.s₀.heap.get? b=some o/\X.H₀ b=none
 bsz:X.base.objs.size<=X.s₀.heap.objs.size
 noex:∀b o,X.base.get? b=some o->b∉X.ex
 exfs:∀b∈X.ex,b∉X.fs
 funs:X.s₀.heap.FunFrames X.base X.outer
 frf:∀b∈X.fs,X.H₀ b=none
structure Inv(X:Cx)(pins:List (Addr×Obj))(σ:List (Option V))(H:Hp)(s:c9):Prop where
 ok:X.Ok
 os:s.os=X.s₀.os
 bare:eK s.gens
 base:Un X.fs X.ex X.H₀ H X.s₀.heap s.heap
 loc:∃m,s.heap.Ns X.env.locals m/\∀(i:Nat)(x:Str)(v:V),X.N[i]? = some x->σ[i]? = some (some v)->Vis X.env.scope x->∃u,RelV v u/\Look X.env s.heap m x u
 cell:∀x c,X.env.cells.lookup x=some c->∃v,s.heap.IsCell c v
 free:H X.env.locals=none
 freeC:∀x c,X.env.cells.lookup x=some c->H c=none
 pin:∀p∈X.pn++pins,s.heap.get? p.1=some p.2/\H p.1=none/\p.1≠X.env.locals/\p.1∉X.fs/\∀v,p.2.data ≠ .cell v
 hok:HOk X.prog X.w H s.heap
 len:σ.length=X.N.length
section
variable{X:Cx}{pins:List (Addr×Obj)}{σ:List (Option V)}{H H':Hp}{s:c9}{h':dl}
theorem Cx.Ok.nofr(ok:X.Ok){b:Addr}{o:Obj}(e:X.base.get? b=some o):b∉X.fs:=λhb=>by
 have:=(ok.funs.mem hb).1;rw[e]at this;cases this
theorem Inv.bs(I:Inv X pins σ H s):∀b o,X.base.get? b=some o->s.heap.get? b=some o/\H b=none:=λb o e=>
 ⟨I.base.keep b o (I.ok.bs b o e).1 (I.ok.bs b o e).2 (I.ok.nofr e) (I.ok.noex b o e),I.base.free b o (I.ok.bs b o e).1 (I.ok.bs b o e).2 (I.ok.noex b o e)⟩
theorem Inv.bk(I:Inv X pins σ H s):∀b o,X.base.get? b=some o->s.heap.get? b=some o:=λb o e=>(I.bs b o e).1
theorem Inv.mod(I:Inv X pins σ H s):Mod X.K X.mg X.base:=I.ok.mod
theorem Inv.kIn(I:Inv X pins σ H s):X.K.In s.heap:=I.ok.mod.kin.keeps I.bk
theorem Inv.lt(I:Inv X pins σ H s):X.env.locals<s.heap.objs.size:=let⟨_,hn,_⟩:=I.loc;hn.lt
theorem Inv.sz(I:Inv X pins σ H s):X.s₀.heap.objs.size<=s.heap.objs.size:=aZ I.ok.above (dB I.lt)
theorem Inv.nofs(I:Inv X pins σ H s){a:Addr}(h:s.heap.objs.size<=a):a∉X.fs:=λhb=>by
 obtain⟨_,o,Z,_⟩:=I.ok.funs.mem hb;exact absurd (bQ (af Z) (aZ I.sz h)) (dw _)
theorem Inv.cne(I:Inv X pins σ H s):∀x c,X.env.cells.lookup x=some c->c≠X.env.locals:=λx c e z=>by
 obtain⟨v,o,W,hd⟩:=I.cell x c e;obtain⟨m,⟨o',es,V,Z,Y,_⟩,_⟩:=I.loc;rw[z,Z]at W;cases W;rw[Y]at hd;cases hd
theorem Inv.funs(I:Inv X pins σ H s):s.heap.FunFrames X.base X.outer:=by
 have all:∀(l:List Env),(∀b∈frs l,b∈X.fs)->X.s₀.heap.FunFrames X.base l->s.heap.FunFrames X.base l:=by
  intro l
  induction l with
  |nil=>intro _ _;trivial
  |cons env r V=>
   intro W S;obtain⟨R,⟨L,o,Z,hn,T,hd⟩,U⟩:=S;have Y:=W L (by unfold frs;rw[iZ,Z];exact aA);obtain⟨sl,e⟩:=I.base.slot L o T (I.ok.frf L Y) Y λz=>I.ok.exfs L z Y
   exact⟨R,⟨L,_,Z,hn,e,hd⟩,V (λb hb=>W b (by unfold frs;rw[iZ,Z];exact au _ hb)) U⟩
 exact all X.outer (λ_ hb=>hb) I.ok.funs
theorem Inv.stack(I:Inv X pins σ H s):s.heap.FunFrames X.base X.stack:=by
 rcases I.ok.stk with e|⟨e,Z⟩
 ·rw[e];exact I.funs
 ·rw[e];obtain⟨m,hn,_⟩:=I.loc;refine .cons (by rw[I.ok.kind];decide) Z hn ?_ I.funs;exact bz (aZ I.ok.bsz I.ok.above)
theorem Inv.stkSub(I:Inv X pins σ H s):∀b∈frs X.stack,b∈X.env.locals::X.fs:=λb hb=>by
 rcases I.ok.stk with e|⟨e,Z⟩
 ·rw[e]at hb;exact au _ hb
 ·rw[e]at hb;unfold frs at hb;rwa[iZ,Z]at hb
theorem Inv.stkFree(I:Inv X pins σ H s):∀b∈frs X.stack,H b=none:=λb hb=>by
 rcases aN.mp (I.stkSub b hb)with e|hb
 ·rw[e];exact I.free
 ·obtain⟨_,o,Z,_⟩:=I.ok.funs.mem hb;exact I.base.free b o Z (I.ok.frf b hb) λz=>I.ok.exfs b z hb
theorem Inv.step{g':Array eQ}{t':Nat}{d':Drawn}{ch:List Addr}(I:Inv X pins σ H s)
 (J:∀b∈ch,(b∈X.ex\/X.s₀.heap.objs.size<=b)/\b≠X.env.locals/\(∀x c,X.env.cells.lookup x=some c->c≠b)/\∀p∈X.pn++pins,p.1≠b)
 (keep:∀b o,b≠X.env.locals->b∉X.fs->b∉ch->s.heap.get? b=some o->H b=none->h'.get? b=some o)
 (slot:∀b o,b≠X.env.locals->b∈X.fs->b∉ch->s.heap.get? b=some o->H b=none->∃sl,h'.get? b=some {o with slots:=sl}) (free:∀b o,b∉ch->s.heap.get? b=some o->H b=none->H' b=none)
 (there:∀b o,b∉ch->s.heap.get? b=some o->∃o',h'.get? b=some o')
 (tups:∀b xs,H b=some (.tup xs)->H' b=some (.tup xs)) (frzs:∀b o u,H b=some (.frz o u)->H' b=some (.frz o u)) (tbls:∀b q p,H b=some (.tbl q p)->H' b=some (.tbl q p))
 (ns:∀m,s.heap.Ns X.env.locals m->h'.Ns X.env.locals m) (hok:HOk X.prog X.w H' h') (O:eK g') :
 Inv X pins σ H' {s with heap:=h',gens:=g',drawn:=d',toks:=t'}:=by
 have U:∀b o,X.s₀.heap.get? b=some o->b≠X.env.locals:=λb o e=>bB (bQ (af e) I.ok.above)
 have Y:∀b o,X.s₀.heap.get? b=some o->b∉X.ex->b∉ch:=λb o e hx hb=>by
  rcases(J b hb).1 with z|z
  ·exact hx z
  ·exact absurd (bQ (af e) z) (dw _)
 have cellK:∀x c,X.env.cells.lookup x=some c->∀v,s.heap.IsCell c v->h'.IsCell c v:=λx c e v ⟨o,V,hd⟩=>by
  have Z:=λz=>(J c z).2.2.1 x c e rfl
  by_cases Q:c∈X.fs
  ·obtain⟨sl,q⟩:=slot c o (I.cne x c e) Q Z V (I.freeC x c e);exact⟨_,q,hd⟩
  ·exact⟨o,keep c o (I.cne x c e) Q Z V (I.freeC x c e),hd⟩
 refine⟨I.ok,I.os,O,⟨λb o e n hb hx=>?_,λb o e n hb hx=>?_,λb o e n hx=>?_,λb o e hx=>?_,λb xs e=>tups b xs (I.base.tups b xs e),λb o xs e=>frzs b o xs (I.base.frzs b o xs e),λb q p e=>tbls b q p (I.base.tbls b q p e)⟩,?_,λx c e=>?_,?_,λx c e=>?_,λp R=>?_,hok,I.len⟩
 ·exact keep b o (U b o e) hb (Y b o e hx) (I.base.keep b o e n hb hx) (I.base.free b o e n hx)
 ·obtain⟨sl,W⟩:=I.base.slot b o e n hb hx;obtain⟨T,S⟩:=slot b _ (U b o e) hb (Y b o e hx) W (I.base.free b o e n hx);exact⟨T,S⟩
 ·obtain⟨o',W⟩:=I.base.there b o e hx;exact free b o' (Y b o e hx) W (I.base.free b o e n hx)
 ·obtain⟨o',W⟩:=I.base.there b o e hx;exact there b o' (Y b o e hx) W
 ·obtain⟨m,hn,P⟩:=I.loc;refine⟨m,ns m hn,λi x v W S N=>?_⟩;obtain⟨u,r,l⟩:=P i x v W S N;refine⟨u,r,?_⟩;rcases l with l|⟨k,c,e,z⟩
  ·exact .inl l
  ·exact .inr ⟨k,c,e,cellK x c e _ z⟩
 ·obtain⟨v,z⟩:=I.cell x c e;exact⟨v,cellK x c e v z⟩
 ·obtain⟨m,⟨o,_,_,V,_⟩,_⟩:=I.loc;exact free _ o (λz=>(J _ z).2.1 rfl) V I.free
 ·obtain⟨v,o,V,hd⟩:=I.cell x c e;exact free c o (λz=>(J c z).2.2.1 x c e rfl) V (I.freeC x c e)
 ·obtain⟨e,n,ne,nf,d⟩:=I.pin p R;have Z:=λz=>(J p.1 z).2.2.2 p R rfl
  exact⟨keep p.1 p.2 ne nf Z e n,free p.1 p.2 Z e n,ne,nf,d⟩
theorem Inv.un{t':Nat}(I:Inv X pins σ H s)(u:Un X.fs [] H H' s.heap h')(hok:HOk X.prog X.w H' h'):Inv X pins σ H' {s with heap:=h',toks:=t'}:=by
 obtain⟨m,⟨o,es,R,V,r⟩,_⟩:=id I.loc;obtain⟨sl,T⟩:=u.any V I.free (by simp);exact I.step (g':=s.gens) (d':=s.drawn) (ch:=[]) (λ_ z=>nomatch z) (λb o _ hb _ e n=>u.keep b o e n hb (by simp)) (λb o _ hb _ e n=>u.slot b o e n hb (by simp)) (λb o _ e n=>u.free b o e n (by simp)) (λb o _ e=>u.there b o e (by simp)) u.tups u.frzs u.tbls (λS hm=>by
  obtain⟨o',Y,W,Z,U⟩:=hm;rw[V]at Z;cases Z;exact⟨_,Y,W,T,U⟩) hok I.bare
theorem Inv.call{g':Array eQ}{t':Nat}{d':Drawn}{ch:List Addr}(I:Inv X pins σ H s)(u:Un (frs X.stack) ch H H' s.heap h')(hok:HOk X.prog X.w H' h')(J:eK g')
 (q:∀b∈ch,(b∈X.ex\/X.s₀.heap.objs.size<=b)/\b≠X.env.locals/\(∀x c,X.env.cells.lookup x=some c->c≠b)/\∀p∈X.pn++pins,p.1≠b) :
 Inv X pins σ H' {s with heap:=h',gens:=g',drawn:=d',toks:=t'}:=by
 obtain⟨m,⟨o,es,Q,T,r⟩,_⟩:=id I.loc;obtain⟨sl,W⟩:=u.any T I.free λz=>(q _ z).2.1 rfl
 exact I.step (ch:=ch) q (λb o W hb Z e n=>u.keep b o e n (λz=>(aN.mp (I.stkSub b z)).elim W hb) Z) (λb o _ _ Z e n=>u.any e n Z) (λb o Z e n=>u.free b o e n Z) (λb o Z e=>u.there b o e Z) u.tups u.frzs u.tbls (λR hm=>by
  obtain⟨o',V,U,Y,S⟩:=hm;rw[T]at Y;cases Y;exact⟨_,V,U,W,S⟩) hok J
theorem Inv.turned{t':Nat}{it:Addr}(I:Inv X pins σ H s)(k:∀b o,b≠it->s.heap.get? b=some o->h'.get? b=some o)(hn:H it=none)(J:it≠X.env.locals)
 (h1:it∈X.ex\/X.s₀.heap.objs.size<=it) (h2:∀x c,X.env.cells.lookup x=some c->c≠it) (h3:∀p∈X.pn++pins,p.1≠it):Inv X pins σ H {s with heap:=h',toks:=t'}:=by
 have Y:∀b u,H b=some u->b≠it:=λb u e z=>by rw[z,hn]at e;cases e
 refine I.step (g':=s.gens) (d':=s.drawn) (ch:=[it]) (λb hb=>?_) (λb o _ _ Z e _=>k b o (λz=>Z (by simp[z])) e) (λb o _ _ Z e _=>⟨o.slots,k b o (λz=>Z (by simp[z])) e⟩) (λ_ _ _ _ n=>n)
  (λb o Z e=>⟨o,k b o (λz=>Z (by simp[z])) e⟩) (λ_ _ e=>e) (λ_ _ _ e=>e) (λ_ _ _ e=>e) (λm hm=>?_) (λb u e=>?_) I.bare
 ·have e:b=it:=by simpa using hb
  subst e;exact⟨h1,J,h2,h3⟩
 ·obtain⟨o,es,V,W,r⟩:=hm;exact⟨o,es,V,k _ o (df J) W,r⟩
 ·refine(I.hok b u e).stay (λc v Z q=>k c v ?_ q) (λ_ q=>q) λ_ _ q=>q
  rcases Z with z|z
  ·rw[z];exact Y b u e
  ·exact Y c _ z
theorem Inv.tok(I:Inv X pins σ H s)(t:Nat):Inv X pins σ H {s with toks:=t}:=I.un (h':=s.heap) (t':=t) Un.refl I.hok
theorem Inv.kept{t':Nat}(I:Inv X pins σ H s)(k:∀b u,s.heap.get? b=some u->h'.get? b=some u):Inv X pins σ H {s with heap:=h',toks:=t'}:=I.un (Un.kept k) (I.hok.kept k)
theorem Inv.laid{a:Addr}{o:HO}{t':Nat}(I:Inv X pins σ H s)(k:∀b u,s.heap.get? b=some u->h'.get? b=some u)(q:s.heap.objs.size<=a)(new:fJ X.prog X.w (upd H a o) h' a o):
 Inv X pins σ (upd H a o) {s with heap:=h',toks:=t'}:=I.un (Un.laid k q (I.hok.fresh q)) (I.hok.laid k q new)
theorem Inv.write{x e:Addr}{o:HO}{t':Nat}(I:Inv X pins σ H s)(J:Mut (H x))(O:e=x\/H e=some (.own x))(k:∀b u,b≠e->s.heap.get? b=some u->h'.get? b=some u)(q:∃u,h'.get? e=some u)
 (new:fJ X.prog X.w (upd H x o) h' x o):Inv X pins σ (upd H x o) {s with heap:=h',toks:=t'}:=I.un (Un.write J O k q) (I.hok.write J O k q new)
theorem Inv.pins_of{pins':List (Addr×Obj)}(I:Inv X pins σ H s)(h:∀p∈pins',s.heap.get? p.1=some p.2/\H p.1=none/\p.1≠X.env.locals/\p.1∉X.fs/\∀v,p.2.data ≠ .cell v):Inv X pins' σ H s:=
 ⟨I.ok,I.os,I.bare,I.base,I.loc,I.cell,I.free,I.freeC,λp Z=>(b_.mp Z).elim (λz=>I.pin p (bT _ z)) (h p),I.hok,I.len⟩
theorem vD{N:List Str}(q:N.Nodup){i j:Nat}{x:Str}(a:N[i]? = some x)(b:N[j]? = some x):i=j:=by
 obtain⟨h1,Y⟩:=aQ.mp a;obtain⟨h2,Z⟩:=aQ.mp b;exact(List.getElem_inj q).mp (Y.trans Z.symm)
theorem Iv{M:eR}{A:dc}{E:Value->c9->Prop}{i:Nat}{x:Str}{v:V}{u:Value}{Q:Unit->c9->Prop}(I:Inv X pins σ H s)(hN:X.N.Nodup)(hi:X.N[i]? = some x)(hx:Loc X.env.scope x)(r:RelV v u)
 (h:∀s',Inv X pins (σ.set i (some v)) H s'->(∃a,ew a s.heap s'.heap/\(a=X.env.locals\/X.env.cells.lookup x=some a))->Q () s') (hf:X.fn x=true\/X.env.scope.names.lookup x=some .local:=by first|exact .inl rfl|exact .inr rfl|assumption):wpAny M A (storeName X.env x u) Q E s:=by
 obtain⟨m,hn,hl⟩:=id I.loc;have K:(X.env.scope.kind == .class||(X.env.scope.kind == .module&&X.env.locals != X.env.globals))=false:=by rw[I.ok.kind];rfl
 have R:i<σ.length:=by rw[I.len];exact(aQ.mp hi).1
 have cne:=I.cne;have tracked:∀{a:Addr}{h':dl},(∃o,s.heap.get? a=some o/\H a=none)->ew a s.heap h'->HOk X.prog X.w H h':=λ{a h'} ha Z b ob e=>by
  obtain⟨_,_,U⟩:=ha;refine(I.hok b ob e).stay (λc F W q=>(Z.2 c ?_).trans q) (λ_ q=>q) λ_ _ q=>q
  rintro rfl;rcases W with rfl|W
  ·rw[U]at e;cases e
  ·rw[U]at W;cases W
 rcases hx with S|S
 ·refine wpAny_storeName_local S hn (λh' g Z=>?_) K;obtain⟨oL,_,_,l,_⟩:=id hn;refine h _ ⟨I.ok,I.os,I.bare,⟨λb o e n hb hx=>?_,λb o e n hb hx=>?_,I.base.free,λb o e hx=>?_,I.base.tups,I.base.frzs,I.base.tbls⟩,⟨_,g,λj y D Y T f=>?_⟩,λy c e=>?_,I.free,I.freeC,λp t=>?_,tracked ⟨oL,l,I.free⟩ Z,by simpa using I.len⟩ ⟨_,Z,.inl rfl⟩
  ·exact(Z.2 b (bB (bQ (af e) I.ok.above))).trans (I.base.keep b o e n hb hx)
  ·obtain⟨sl,Y⟩:=I.base.slot b o e n hb hx;exact⟨sl,(Z.2 b (bB (bQ (af e) I.ok.above))).trans Y⟩
  ·obtain⟨o',Y⟩:=I.base.there b o e hx;exact⟨o',(Z.2 b (bB (bQ (af e) I.ok.above))).trans Y⟩
  ·by_cases P:j=i
   ·subst P;rw[hi]at Y;cases Y;rw[bU R]at T
    cases T;exact⟨u,r,.inl ⟨S,by simp⟩⟩
   ·rw[aL (df P)]at T;obtain⟨C,B,q⟩:=hl j y D Y T f;refine⟨C,B,?_⟩;rcases q with⟨k,e⟩|⟨k,c,e,z⟩
    ·refine .inl ⟨k,?_⟩;have:y≠x:=λe=>P (vD hN Y (e▸hi))
     simp[this,e]
    ·exact .inr ⟨k,c,e,z.sameBut Z (cne y c e)⟩
  ·obtain⟨F,z⟩:=I.cell y c e;exact⟨F,z.sameBut Z (cne y c e)⟩
  ·obtain⟨e,n,ne,nf,d⟩:=I.pin p t;exact⟨(Z.2 p.1 ne).trans e,n,ne,nf,d⟩
 ·have O:X.fn x=true:=by
   rcases hf with z|z
   ·exact z
   ·rw[z]at S;cases S
  obtain⟨c,W⟩:=I.ok.has x (.inl S);obtain⟨F,z⟩:=I.cell x c W;refine wpAny_storeName_cell I.ok.kind S W z (λh' G Z=>?_);obtain⟨oc,L,hocd⟩:=id z;refine h {s with heap:=h'} ⟨I.ok,I.os,I.bare,⟨λb o e n hb hx=>?_,λb o e n hb hx=>?_,I.base.free,λb o e hx=>?_,I.base.tups,I.base.frzs,I.base.tbls⟩,⟨m,hn.sameBut Z (df (cne x c W)),λj y D Y T f=>?_⟩,λy c' e=>?_,I.free,I.freeC,λp t=>?_,tracked ⟨oc,L,I.freeC x c W⟩ Z,by simpa using I.len⟩ ⟨c,Z,.inr W⟩
  ·exact(Z.2 b (bB (bQ (af e) (I.ok.cab x c O W)))).trans (I.base.keep b o e n hb hx)
  ·obtain⟨sl,Y⟩:=I.base.slot b o e n hb hx;exact⟨sl,(Z.2 b (bB (bQ (af e) (I.ok.cab x c O W)))).trans Y⟩
  ·obtain⟨o',Y⟩:=I.base.there b o e hx;exact⟨o',(Z.2 b (bB (bQ (af e) (I.ok.cab x c O W)))).trans Y⟩
  ·by_cases P:j=i
   ·subst P;rw[hi]at Y;cases Y;rw[bU R]at T
    cases T;exact⟨u,r,.inr ⟨.inl S,c,W,G⟩⟩
   ·rw[aL (df P)]at T;obtain⟨C,B,q⟩:=hl j y D Y T f;refine⟨C,B,?_⟩;rcases q with q|⟨k,c',e,z'⟩
    ·exact .inl q
    ·refine .inr ⟨k,c',e,z'.sameBut Z ?_⟩;rintro rfl;exact P (vD hN Y (I.ok.inj _ _ _ e W▸hi))
  ·by_cases J:c'=c
   ·subst J;exact⟨_,G⟩
   ·obtain⟨w2,z2⟩:=I.cell y c' e;exact⟨w2,z2.sameBut Z J⟩
  ·obtain⟨e,n,ne,nf,d⟩:=I.pin p t;refine⟨(Z.2 p.1 ?_).trans e,n,ne,nf,d⟩;intro q;rw[q,L]at e;have q':oc=p.2:=cL.inj e;exact d F (by rwa[<-q'])
theorem vG{M:eR}{A:dc}{E:Value->c9->Prop}{i:Nat}{x:Str}{v:V}{u:Value}{Q:Unit->c9->Prop}(I:Inv X pins σ H s)(J:X.N.Nodup)(hi:X.N[i]? = some x)(hx:Loc X.env.scope x)(r:RelV v u)
 (h:∀s',Inv X pins (σ.set i (some v)) H s'->Q () s') (q:X.fn x=true\/X.env.scope.names.lookup x=some .local:=by first|exact .inl rfl|exact .inr rfl|assumption):wpAny M A (storeName X.env x u) Q E s:=
 Iv I J hi hx r (λs' Z _=>h s' Z) q
theorem Inv.call'{s':c9}{ch:List Addr}(I:Inv X pins σ H s)(J:s'.os=s.os)(u:Un (frs X.stack) ch H H' s.heap s'.heap)(hok:HOk X.prog X.w H' s'.heap)(O:eK s'.gens)
 (q:∀b∈ch,(b∈X.ex\/X.s₀.heap.objs.size<=b)/\b≠X.env.locals/\(∀x c,X.env.cells.lookup x=some c->c≠b)/\∀p∈X.pn++pins,p.1≠b):Inv X pins σ H' s':=by
 obtain⟨h',Y,W,Z,o'⟩:=s';have e:=J;subst e;exact I.call (g':=Y) (t':=Z) (d':=W) u hok O q
end
abbrev XK:=Value->Option Addr->Hp->Prop
abbrev St:=List (Option V)
abbrev VK:=V->Hp->Prop
abbrev TE:=St->Hp->VK->Prop
abbrev TT:=St->Hp->(Bool->Hp->Prop)->Prop
abbrev TA:=St->Hp->(List V->Hp->Prop)->Prop
structure Ends where
 nx:St->Hp->Prop
 rt:VK
 bk:St->Hp->Prop:=λ_ _=>False
 ct:St->Hp->Prop:=λ_ _=>False
abbrev TS:=Ends->St->Hp->Prop
def EP(X:Cx)(pins:List (Addr×Obj))(σ:St)(Q:VK)(u:Value)(s':c9):Prop:=∃v H',Inv X pins σ H' s'/\RelV v u/\Q v H'
def TP(X:Cx)(pins:List (Addr×Obj))(σ:St)(Q:Bool->Hp->Prop)(b:Bool)(s':c9):Prop:=∃H',Inv X pins σ H' s'/\Q b H'
def AP(X:Cx)(pins:List (Addr×Obj))(σ:St)(Q:List V->Hp->Prop)(us:List Value)(s':c9):Prop:=∃vs H',Inv X pins σ H' s'/\Vals vs us/\Q vs H'
def SP(X:Cx)(pins:List (Addr×Obj))(D:Ends)(f:Flow)(s':c9):Prop:=
 match f with
 | .next=>∃σ' H',Inv X pins σ' H' s'/\D.nx σ' H'
 | .brk=>∃σ' H',Inv X pins σ' H' s'/\D.bk σ' H'
 | .cont=>∃σ' H',Inv X pins σ' H' s'/\D.ct σ' H'
 | .ret u=>∃v σ' H',Inv X pins σ' H' s'/\RelV v u/\D.rt v H'
def PE(X:Cx)(e:Expr)(t:TE):Prop:=
 ∀(pins:List (Addr×Obj))(s:c9)(σ:St)(H:Hp)(Q:VK),Inv X pins σ H s->t σ H Q->wpAny (model X.prog X.w) X.A (eval e X.env) (EP X pins σ Q) X.xe s
def PT(X:Cx)(e:Expr)(t:TT):Prop:=
 ∀(pins:List (Addr×Obj))(s:c9)(σ:St)(H:Hp)(Q:Bool->Hp->Prop),Inv X pins σ H s->t σ H Q->wpAny (model X.prog X.w) X.A (isTrue e X.env (eval e X.env)) (TP X pins σ Q) X.xe s
def PW(X:Cx)(e:Expr)(t:TT):Prop:=
 ∀(whole:Sem Value)(pins:List (Addr×Obj))(s:c9)(σ:St)(H:Hp)(Q:Bool->Hp->Prop),Inv X pins σ H s->t σ H Q->wpAny (model X.prog X.w) X.A (isTrue e X.env whole) (TP X pins σ Q) X.xe s
theorem PW.pt{X:Cx}{e:Expr}{t:TT}(h:PW X e t):PT X e t:=h _
def PA(X:Cx)(es:List Expr)(t:TA):Prop:=
 ∀(pos:Pos)(pins:List (Addr×Obj))(s:c9)(σ:St)(H:Hp)(Q:List V->Hp->Prop),Inv X pins σ H s->t σ H Q->wpAny (model X.prog X.w) X.A (spliced (backTo pos (starEach es X.env))) (AP X pins σ Q) X.xe s
def PS(X:Cx)(st:dy)(t:TS):Prop:=
 ∀(pins:List (Addr×Obj))(s:c9)(σ:St)(H:Hp)(D:Ends),Inv X pins σ H s->t D σ H->wpAny (model X.prog X.w) X.A (exec st X.env) (SP X pins D) X.xe s
def PSs(X:Cx)(st:List dy)(t:TS):Prop:=
 ∀(pins:List (Addr×Obj))(s:c9)(σ:St)(H:Hp)(D:Ends),Inv X pins σ H s->t D σ H->wpAny (model X.prog X.w) X.A (execs st X.env) (SP X pins D) X.xe s
theorem thn{α:Type}{t:Sem α}{Q q:α->c9->Prop}{M:eR}{A:dc}{E:Value->c9->Prop}{s:c9}(h:wpAny M A t Q E s)(J:∀a s,Q a s->q a s):wpAny M A t q E s:=ar h J λ_ _ x=>x
end L2
namespace L2
section
variable{X:Cx}
def aa0(i:Nat):TE:=λσ H Q=>∃v,σ[i]? = some (some v)/\Q v H
def tC(v:V):TE:=λ_ H Q=>Q v H
theorem i_{i:Nat}{x:Str}{pos:Pos}(J:X.N[i]? = some x)(q:Vis X.env.scope x)(hd:(x==("__debug__":Str))=false:=by decide)(hcd:(x==("__classdict__":Str))=false:=by decide):PE X (.Name x pos) (aa0 i):=by
 intro pins s σ H Q I h;obtain⟨v,e,h⟩:=h;obtain⟨m,hn,U⟩:=I.loc;obtain⟨u,r,l⟩:=U i x v J e q;have W:EP X pins σ Q u s:=⟨v,H,I,r,h⟩;rcases l with⟨Y,hm⟩|⟨Y,c,V,Z⟩
 ·exact cq (b9 I.ok.kind Y hn hm W) hd
 ·rcases Y with Y|Y
  ·exact cq (wpAny_loadName_cell I.ok.kind Y V Z W) hd
  ·exact cq (wpAny_loadName_free I.ok.kind Y V Z W hcd) hd
theorem UL{i j pos}:PE X (.Constant (.int i) j pos) (tC (.int i)):=λ_ _ _ H _ I h=>wpAny_Constant_int ⟨.int i,H,I.tok _,⟨_,rfl⟩,h⟩
theorem TF{b j pos}:PE X (.Constant (.bool b) j pos) (tC (.bl b)):=λ_ _ _ H _ I h=>Constant_bool ⟨.bl b,H,I,rfl,h⟩
theorem UW{j pos}:PE X (.Constant .none j pos) (tC .non):=λ_ _ _ H _ I h=>Constant_none ⟨.non,H,I,rfl,h⟩
theorem U0{x j pos}:PE X (.Constant (.str x) j pos) (tC (.str x)):=λ_ _ _ H _ I h=>Calls.Constant_str ⟨.str x,H,I.tok _,⟨_,rfl⟩,h⟩
def Gl(X:Cx)(x:Str):Prop:=X.env.kindOf x=some .globalImplicit
theorem rH{E:Value->c9->Prop}{pins:List (Addr×Obj)}{s:c9}{σ:St}{H:Hp}{x:Str}{u:Value}{pos:Pos}{Q:Value->c9->Prop}(I:Inv X pins σ H s)(q:Gl X x)(hm:X.mg x=some u)(h:Q u s)
 (hd:(x==("__debug__":Str))=false:=by decide):wpAny (model X.prog X.w) X.A (eval (.Name x pos) X.env) Q E s:=
 cf I.ok.kind q (Calls.loadGlobal_global (by rw[I.ok.glob];exact I.mod.glob.keeps I.bk) hm h) hd
theorem lG{E:Value->c9->Prop}{pins:List (Addr×Obj)}{s:c9}{σ:St}{H:Hp}{x:Str}{u:Value}{pos:Pos}{Q:Value->c9->Prop}(I:Inv X pins σ H s)(J:Gl X x)(hm:X.mg x=none)(q:bootBuiltins x=some u)(h:Q u s)
 (hn:x≠"__name__" := by decide) (hd:(x==("__debug__":Str))=false:=by decide):wpAny (model X.prog X.w) X.A (eval (.Name x pos) X.env) Q E s:=by
 obtain⟨Z,h1,h2⟩:=I.mod.blt;exact cf I.ok.kind J (Calls.loadGlobal_builtin (by rw[I.ok.glob];exact I.mod.glob.keeps I.bk) hm (by rw[I.ok.blt];exact h1.keeps I.bk) ((h2 x hn).trans q) h) hd
theorem Qc{x:Str}{v:V}{u:Value}{pos:Pos}(q:Gl X x)(hm:X.mg x=some u)(r:RelV v u)(hd:(x==("__debug__":Str))=false:=by decide):PE X (.Name x pos) (tC v):=
 λ_ _ _ H _ I h=>rH I q hm ⟨v,H,I,r,h⟩ hd
theorem Qd{x:Str}{v:V}{u:Value}{pos:Pos}(J:Gl X x)(hm:X.mg x=none)(q:bootBuiltins x=some u)(r:RelV v u)(hn:x≠"__name__" := by decide)(hd:(x==("__debug__":Str))=false:=by decide):PE X (.Name x pos) (tC v):=
 λ_ _ _ H _ I h=>lG I J hm q ⟨v,H,I,r,h⟩ hn hd
variable{a b:Expr}{ta tb:TE}{pos:Pos}
def PC(X:Cx)(q:CmpOp)(a b:Expr)(t:TE):Prop:=
 ∀(pins:List (Addr×Obj))(s:c9)(σ:St)(H:Hp)(Q:VK),Inv X pins σ H s->t σ H Q ->
  wpAny (model X.prog X.w) X.A (eval a X.env) (λv Y=>wpAny (model X.prog X.w) X.A (eval b X.env) (λu Z=>wpAny (model X.prog X.w) X.A (compareOp q v u) (EP X pins σ Q) X.xe Z) X.xe Y) X.xe s
theorem J9(b:Expr){q:CmpOp}(h:q ≠ .In)(h2:q ≠ .NotIn):behindInMarks q b=false:=by
 have Y:(q==CmpOp.In)=false:=by cases q<;>first|rfl|exact absurd rfl h
 have Z:(q==CmpOp.NotIn)=false:=by cases q<;>first|rfl|exact absurd rfl h2
 cases b<;>simp[behindInMarks,Y,Z]
def aa1(ta:TE):TE:=λσ H Q=>ta σ H λx H1=>Q (.bl (decide (x = .non))) H1
theorem RelV.none_iff{x:V}{v:Value}(r:RelV x v):(v==dm)=decide (x = .non):=by
 cases x with
 |non=>cases r;rfl
 |bl _=>cases r;rfl
 |int _=>obtain⟨t,rfl⟩:=r;rfl
 |str _=>obtain⟨t,rfl⟩:=r;rfl
 |byt _=>obtain⟨t,rfl⟩:=r;rfl
 |flt _=>obtain⟨t,rfl⟩:=r;rfl
 |ref _=>cases r;rfl
 |ty _=>cases r;rfl
theorem U3{j pos'}(ha:PE X a ta):PC X .Is a (.Constant .none j pos') (aa1 ta):=by
 intro pins s σ H Q I h;refine thn (ha pins s σ H _ I h) λv s1 ⟨x,H1,Z,r1,q1⟩=>?_
 exact Constant_none (is_none_gen ⟨.bl _,H1,Z,by rw[r1.none_iff];rfl,q1⟩)
def tB(t:TE):TT:=λσ H Q=>t σ H λx H1=>∃c,x = .bl c/\Q c H1
theorem U4{J:CmpOp}{t:TE}(h:PC X J a b t)(h1:behindInMarks J b=false:=by first|exact J9 _ (by decide) (by decide)|rfl):PT X (.Compare a [J] [b] pos) (tB t):=by
 intro pins s σ H Q I hw;refine wpAny_isTrue_Compare1 (thn (h pins s σ H _ I hw) λv s1 h1=>thn h1 λu s2 h2=>thn h2 λc Y ⟨x,H1,Z,r1,q1⟩=>?_) h1;obtain⟨d,rfl,q⟩:=q1
 cases r1;exact ax ⟨H1,Z,q⟩
theorem J_{e:Expr}{t:TE}(h:PE X e t)(J:∀whole,isTrue e X.env whole=(do let v <-whole;standAt e.pos;holding [v] (truthy v)):=by intro _;rfl):PT X e (tB t):=by
 intro pins s σ H Q I hw;refine isTrue_plain (thn (h pins s σ H _ I hw) λv s1 ⟨x,H1,Z,r1,q1⟩=>?_) (J _);obtain⟨d,rfl,q⟩:=q1
 cases r1;exact ax ⟨H1,Z,q⟩
variable{tA tB':TT}{rest:List Expr}
def vH(t u:TT):TT:=λσ H Q=>t σ H λc H1=>if c=true then u σ H1 Q else Q false H1
def tOr(t u:TT):TT:=λσ H Q=>t σ H λc H1=>if c=true then Q true H1 else u σ H1 Q
def tG(t:TT):TT:=λσ H Q=>t σ H λc H1=>Q (!c) H1
theorem Gi(ha:PT X a tA):PW X (.BoolOp .And [a] pos) tA:=by
 intro Z pins s σ H Q I h;refine isTrue_and (thn (ha pins s σ H Q I h) λc s1 e=>?_)
 cases c with
 |true=>exact isTrue_and_nil e
 |false=>exact e
theorem U5(ha:PT X a tA):PW X (.BoolOp .Or [a] pos) tA:=by
 intro Z pins s σ H Q I h;refine isTrue_or (thn (ha pins s σ H Q I h) λc s1 e=>?_)
 cases c with
 |false=>exact isTrue_or_nil e
 |true=>exact e
theorem Ka(ha:PT X a tA)(hb:PW X (.BoolOp .And (b::rest) pos) tB'):PW X (.BoolOp .And (a::b::rest) pos) (vH tA tB'):=by
 intro Y pins s σ H Q I h;refine isTrue_and (thn (ha pins s σ H _ I h) λc s1 ⟨H1,Z,q1⟩=>?_)
 cases c with
 |true=>exact hb Y pins s1 σ H1 Q Z q1
 |false=>exact⟨H1,Z,q1⟩
theorem Xn(ha:PT X a tA)(hb:PW X (.BoolOp .Or (b::rest) pos) tB'):PW X (.BoolOp .Or (a::b::rest) pos) (tOr tA tB'):=by
 intro Y pins s σ H Q I h;refine isTrue_or (thn (ha pins s σ H _ I h) λc s1 ⟨H1,Z,q1⟩=>?_)
 cases c with
 |true=>exact⟨H1,Z,q1⟩
 |false=>exact hb Y pins s1 σ H1 Q Z q1
theorem Kc(ha:PT X a tA):PT X (.UnaryOp .Not a pos) (tG tA):=by
 intro pins s σ H Q I h;exact isTrue_not (ha pins s σ H (λc H1=>Q (!c) H1) I h)
def Xo(ta tb:TE):TE:=λσ H Q=>ta σ H λx H1=>∃c,x = .bl c/\if c=true then tb σ H1 Q else Q (.bl false) H1
def Xp(ta:TE):TE:=λσ H Q=>ta σ H λx H1=>∃c,x = .bl c/\Q (.bl (!c)) H1
theorem U6{q}{t:TE}(h:PE X a t):PE X (.BoolOp q [a] pos) t:=λpins s σ H Q I hw=>BoolOp_one (h pins s σ H Q I hw)
theorem U7(ha:PE X a ta)(hb:PE X (.BoolOp .And (b::rest) pos) tb):PE X (.BoolOp .And (a::b::rest) pos) (Xo ta tb):=by
 intro pins s σ H Q I h;refine BoolOp_and (thn (ha pins s σ H _ I h) λv s1 ⟨x,H1,Z,r1,q1⟩=>?_);obtain⟨c,rfl,q1⟩:=q1
 cases r1;refine ax ?_
 cases c with
 |true=>exact hb pins s1 σ H1 Q Z q1
 |false=>exact⟨.bl false,H1,Z,rfl,q1⟩
theorem U8(ha:PE X a ta):PE X (.UnaryOp .Not a pos) (Xp ta):=by
 intro pins s σ H Q I h;refine UnaryOp_ (thn (ha pins s σ H _ I h) λv s1 ⟨x,H1,Z,r1,q1⟩=>?_);obtain⟨c,rfl,q1⟩:=q1
 cases r1;exact not_of (ax ⟨.bl (!c),H1,Z,rfl,q1⟩)
end
end L2
namespace L2
def SqL(K:PySem.W.Frag)(H:Hp)(a:Addr)(xs:List V):Prop:=
 Rd H a (.lst xs) \/
  ∃(o:Obj)(its:Array Value)(n:Nat),K.lookup a=some o/\o.cls = .type "list"/\o.dict=none/\o.data = .seq its n/\its.size<=sizeLine/\Vals xs its.toList
def SqT(K:PySem.W.Frag)(H:Hp)(a:Addr)(xs:List V):Prop:=
 Rd H a (.tup xs) \/
  ∃(o:Obj)(its:Array Value)(n:Nat),K.lookup a=some o/\o.cls = .type "tuple"/\o.data = .seq its n/\its.size<=sizeLine/\Vals xs its.toList
noncomputable def aa2:Value->Option V
 | .none=>some .non
 | .bool b=>some (.bl b)
 | .int i _=>some (.int i)
 | .str x _=>some (.str x)
 | .bytes b _=>some (.byt b)
 | .float b _=>some (.flt b)
 | .ref a=>some (.ref a)
 | .type n=>some (.ty n)
 |_=>none
theorem RelV.abs{x:V}{u:Value}(r:RelV x u):aa2 u=some x:=by
 cases x with
 |non=>cases r;rfl
 |bl _=>cases r;rfl
 |int _=>obtain⟨t,rfl⟩:=r;rfl
 |str _=>obtain⟨t,rfl⟩:=r;rfl
 |byt _=>obtain⟨t,rfl⟩:=r;rfl
 |flt _=>obtain⟨t,rfl⟩:=r;rfl
 |ref _=>cases r;rfl
 |ty _=>cases r;rfl
theorem RelV.inj{x y:V}{u:Value}(r:RelV x u)(q:RelV y u):x=y:=cL.inj (r.abs.symm.trans q.abs)
theorem Vals.inj:∀{xs ys:List V}{us:List Value},Vals xs us->Vals ys us->xs=ys
 |_,_,_,.nil,.nil=>rfl
 |_,_,_,.cons r t,.cons Y Z=>by rw[r.inj Y,Vals.inj t Z]
section
variable{X:Cx}{pins:List (Addr×Obj)}{σ:St}{H:Hp}{s:c9}{a:Addr}{xs ys:List V}
theorem SqL.of{K:PySem.W.Frag}(h:H a=some (.lst xs)):SqL K H a xs:=.inl (.inl h)
theorem Inv.list(I:Inv X pins σ H s)(h:SqL X.K H a xs):∃its:List Value,Vals xs its/\PlainL s.heap a its.toArray/\xs.length<=sizeLine:=by
 rcases h with h|⟨o,its,n,Y,W,hd,Z,V,r⟩
 ·obtain⟨z,its,n,r,e⟩:=h.ok I.hok;exact⟨its,r,⟨_,n,e,rfl,rfl,rfl⟩,z⟩
 ·refine⟨its.toList,r,⟨o,n,I.kIn a o Y,W,hd,by simpa using Z⟩,?_⟩;have e:=r.length;simp only[cH]at e;omega
theorem Inv.tuple(I:Inv X pins σ H s)(h:SqT X.K H a xs):∃its:List Value,Vals xs its/\IsTup s.heap a its.toArray/\xs.length<=sizeLine:=by
 rcases h with h|⟨o,its,n,Y,W,Z,V,r⟩
 ·obtain⟨z,its,r,p⟩:=h.ok I.hok;exact⟨its,r,p,z⟩
 ·refine⟨its.toList,r,⟨o,I.kIn a o Y,W,n,by simpa using Z⟩,?_⟩;have e:=r.length;simp only[cH]at e;omega
theorem Inv.list_inj(I:Inv X pins σ H s)(h:SqL X.K H a xs)(h':SqL X.K H a ys):xs=ys:=by
 obtain⟨its,r,⟨o,n,e,_,_,d⟩,_⟩:=I.list h;obtain⟨Z,V,⟨o',U,Y,_,_,W⟩,_⟩:=I.list h';rw[e]at Y;cases Y;rw[d]at W;injection W with d1 _
 have:its=Z:=by simpa using congrArg Array.toList d1
 subst this;exact r.inj V
end
abbrev Cx.wish(X:Cx)(E:Value->c9->Prop):Cx:={X with xe:=E}
abbrev Cx.nox(X:Cx):Cx:=X.wish λ_ _=>False
theorem Cx.Ok.wish{X:Cx}(ok:X.Ok)(E:Value->c9->Prop):(X.wish E).Ok:=
 ⟨ok.mod,ok.kind,ok.glob,ok.blt,ok.above,ok.inj,ok.has,ok.cab,ok.hd,ok.frames,ok.stk,ok.exf,ok.bs,ok.bsz,ok.noex,ok.exfs,ok.funs,ok.frf⟩
theorem Cx.Ok.unwish{X:Cx}{E:Value->c9->Prop}(ok:(X.wish E).Ok):X.Ok:=
 ⟨ok.mod,ok.kind,ok.glob,ok.blt,ok.above,ok.inj,ok.has,ok.cab,ok.hd,ok.frames,ok.stk,ok.exf,ok.bs,ok.bsz,ok.noex,ok.exfs,ok.funs,ok.frf⟩
section
variable{X:Cx}{pins:List (Addr×Obj)}{σ:St}{H:Hp}{s:c9}{E:Value->c9->Prop}
theorem Inv.wish(I:Inv X pins σ H s)(E:Value->c9->Prop):Inv (X.wish E) pins σ H s:=⟨I.ok.wish E,I.os,I.bare,I.base,I.loc,I.cell,I.free,I.freeC,I.pin,I.hok,I.len⟩
theorem Inv.unwish(I:Inv (X.wish E) pins σ H s):Inv X pins σ H s:=⟨I.ok.unwish,I.os,I.bare,I.base,I.loc,I.cell,I.free,I.freeC,I.pin,I.hok,I.len⟩
theorem SP.unwish{D:Ends}{f:Flow}{s':c9}(h:SP (X.wish E) pins D f s'):SP X pins D f s':=by
 cases f with
 |next=>obtain⟨σ',H',I,q⟩:=h;exact⟨σ',H',I.unwish,q⟩
 |brk=>obtain⟨σ',H',I,q⟩:=h;exact⟨σ',H',I.unwish,q⟩
 |cont=>obtain⟨σ',H',I,q⟩:=h;exact⟨σ',H',I.unwish,q⟩
 |ret u=>obtain⟨v,σ',H',I,r,q⟩:=h;exact⟨v,σ',H',I.unwish,r,q⟩
theorem PE.nox{e:Expr}{t:TE}(h:PE X.nox e t):PE X e t:=λpins s σ H Q I hw=>
 ar (h pins s σ H Q (I.wish _) hw) (λ_ _ ⟨v,H',Z,r,q⟩=>⟨v,H',Z.unwish,r,q⟩) λ_ _ z=>d8 z
theorem PT.nox{e:Expr}{t:TT}(h:PT X.nox e t):PT X e t:=λpins s σ H Q I hw=>
 ar (h pins s σ H Q (I.wish _) hw) (λ_ _ ⟨H',Z,q⟩=>⟨H',Z.unwish,q⟩) λ_ _ z=>d8 z
theorem PSs.nox{st:List dy}{t:TS}(h:PSs X.nox st t):PSs X st t:=λpins s σ H D I hw=>
 ar (h pins s σ H D (I.wish _) hw) (λ_ _ q=>q.unwish) λ_ _ z=>d8 z
end
section
variable{X:Cx}{st:dy}{rest:List dy}{t u:TS}{e:Expr}{te:TE}{pos:Pos}
def Xq:TS:=λD σ H=>D.nx σ H
def aa3(t u:TS):TS:=λD σ H=>t {D with nx:=u D} σ H
theorem uU:PSs X [] Xq:=λ_ _ σ H _ I h=>bd ⟨σ,H,I,h⟩
theorem rJ(h1:PS X st t)(h2:PSs X rest u):PSs X (st::rest) (aa3 t u):=by
 intro pins s σ H D I h;refine bx (thn (h1 pins s σ H {D with nx:=u D} I h) λf s1 q=>?_)
 cases f with
 |next=>
  obtain⟨σ',H',Z,q⟩:=q;exact h2 pins s1 σ' H' D Z q
 |ret v=>exact q
 |brk=>exact q
 |cont=>exact q
theorem uV(h1:PS X st t):PSs X [st] t:=by
 intro pins s σ H D I h;refine bx (thn (h1 pins s σ H D I h) λf s1 q=>?_)
 cases f with
 |next=>exact bd q
 |ret v=>exact q
 |brk=>exact q
 |cont=>exact q
theorem Inv.quiet{pins:List (Addr×Obj)}{σ:St}{H:Hp}{s:c9}(I:Inv X pins σ H s):interactive X.env=false:=by simp[interactive,I.ok.kind]
def Xr(te:TE):TS:=λD σ H=>te σ H λ_ H1=>D.nx σ H1
theorem uW(J:PE X e te)(q:swapsWith e none pos.line X.env=pure false:=by rfl):PS X (.Expr e pos) (Xr te):=by
 intro pins s σ H D I h;exact wpAny_Expr_any (thn (J pins s σ H _ I h) λv s1 ⟨x,H1,Z,r1,q1⟩=>⟨σ,H1,Z,q1⟩) I.quiet q
def aa4(te:TE):TS:=λD σ H=>te σ H D.rt
theorem yM(q:PE X e te):PS X (.Return (some e) pos) (aa4 te):=by
 intro pins s σ H D I h;exact wpAny_Return_some (thn (q pins s σ H _ I h) λv s1 ⟨x,H1,Z,r1,q1⟩=>⟨x,σ,H1,Z,r1,q1⟩)
def aa5(c:TT)(t u:TS):TS:=λD σ H=>c σ H λb H1=>if b=true then t D σ H1 else u D σ H1
theorem Gj{c:Expr}{a b:List dy}{tc:TT}(q:PT X c tc)(ha:PSs X a t)(hb:PSs X b u):PS X (.If c a b pos) (aa5 tc t u):=by
 intro pins s σ H D I h;refine wpAny_If (thn (q pins s σ H _ I h) λd s1 ⟨H1,Z,q1⟩=>?_)
 cases d with
 |true=>exact ha pins s1 σ H1 D Z q1
 |false=>exact hb pins s1 σ H1 D Z q1
def U9:TS:=λ_ _ _=>False
theorem Ke:PS X st U9:=λ_ _ _ _ _ _ h=>h.elim
end
abbrev TG:=V->St->Hp->(St->Hp->Prop)->Prop
abbrev TGs:=List V->St->Hp->(St->Hp->Prop)->Prop
def PG(X:Cx)(target:Expr)(t:TG):Prop:=
 ∀(pins:List (Addr×Obj))(s:c9)(σ:St)(H:Hp)(v:V)(u:Value)(Q:St->Hp->Prop),Inv X pins σ H s->RelV v u->t v σ H Q ->
  wpAny (model X.prog X.w) X.A (assign target X.env u) (λ_ s'=>∃σ' H',Inv X pins σ' H' s'/\Q σ' H') X.xe s
def PGs(X:Cx)(ts:List Expr)(t:TGs):Prop:=
 ∀(pins:List (Addr×Obj))(s:c9)(σ:St)(H:Hp)(vs:List V)(us:List Value)(Q:St->Hp->Prop),Inv X pins σ H s->Vals vs us->t vs σ H Q ->
  wpAny (model X.prog X.w) X.A (assignInOrder ((assignEach ts X.env).map (·.2)) us) (λ_ s'=>∃σ' H',Inv X pins σ' H' s'/\Q σ' H') X.xe s
section
variable{X:Cx}{pos:Pos}
def TJ(i:Nat):TG:=λv σ H Q=>Q (σ.set i (some v)) H
theorem Qe{i:Nat}{x:Str}(J:X.N.Nodup)(hi:X.N[i]? = some x)(hx:Loc X.env.scope x)(q:X.fn x=true\/X.env.scope.names.lookup x=some .local:=by first|exact .inl rfl|exact .inr rfl|assumption):PG X (.Name x pos) (TJ i):=by
 intro pins s σ H v u Q I r h;exact wpAny_assign_Name (vG I J hi hx r (λs' Z=>⟨_,H,Z,h⟩) q)
def aa6:TGs:=λvs σ H Q=>vs=[]/\Q σ H
def Xu(t:TG)(u:TGs):TGs:=λvs σ H Q=>∃v r,vs=v::r/\t v σ H λσ' H'=>u r σ' H' Q
theorem Qf:PGs X [] aa6:=by
 intro pins s σ H vs us Q I r h;obtain⟨e,h⟩:=h;subst e
 cases r;exact assignInOrder_nil ⟨σ,H,I,h⟩
theorem Kf{e:Expr}{es:List Expr}{t:TG}{u:TGs}(h1:PG X e t)(h2:PGs X es u)
 (q:(assignEach (e::es) X.env).map (·.2)=assign e X.env::(assignEach es X.env).map (·.2):=by rfl):PGs X (e::es) (Xu t u):=by
 intro pins s σ H vs us Q I r h;obtain⟨v,U,W,h⟩:=h;subst W
 cases r with
 |cons r Y=>
  rw[q];refine assignInOrder_cons (thn (h1 pins s σ H _ _ _ I r h) λ_ s1 ⟨Z,H1,V,q1⟩=>?_);exact h2 pins s1 Z H1 _ _ Q V Y q1
def aa7(K:PySem.W.Frag)(n:Nat)(t:TGs):TG:=λv σ H Q=>∃a xs,v = .ref a/\SqT K H a xs/\xs.length=n/\t xs σ H Q
theorem U_{es:List Expr}{k:Nat}{t:TGs}{n:Nat}(J:X.calm=true)(h:PGs X es t)
 (hn:(assignEach es X.env).length=n:=by rfl) (q:(assignEach es X.env).findIdx? (·.1)=none:=by rfl):PG X (.Tuple es k pos) (aa7 X.K n t):=by
 intro pins s σ H v u Q I r hw;obtain⟨a,xs,U,W,V,hw⟩:=hw;subst U
 cases r;obtain⟨its,Z,Y,S⟩:=I.tuple W;refine assign_Tuple_tuple (I.ok.hd J) Y (by simp[hn,<-V,Z.length]) q λh' hx=>?_
 have T:=I.kept (t':=s.toks) λb o e=>hx b o (bB (af e)) e
 exact h pins _ σ H xs _ Q T (by simpa using Z) hw
def aa8(te:TE)(g:TG):TS:=λD σ H=>te σ H λx H1=>g x σ H1 D.nx
theorem yN{i:Nat}{x:Str}{e:Expr}{te:TE}{pos':Pos}(U:X.N.Nodup)(hi:X.N[i]? = some x)(hx:Loc X.env.scope x)(O:PE X e te)(q:swapsWith e (some (.Name x pos')) pos.line X.env=pure false:=by rfl)(J:X.fn x=true\/X.env.scope.names.lookup x=some .local:=by first|exact .inl rfl|exact .inr rfl|assumption):
 PS X (.Assign [.Name x pos'] e pos) (aa8 te (TJ i)):=by
 intro pins s σ H D I h;refine wpAny_Assign_Name (thn (O pins s σ H _ I h) λv s1 ⟨y,H1,Y,r1,q1⟩=>?_) q;exact vG Y U hi hx r1 (λs2 Z=>⟨_,H1,Z,q1⟩) J
end
section
variable{X:Cx}{pos:Pos}
def Va(c:TT)(tb:TS):TS:=λD σ H=>∃W:Nat->St->Hp->Prop,(∃m,W m σ H)/\∀m σ H,W m σ H ->
 c σ H λb H1=>if b=true then ∃N:St->Hp->Prop,(∀σ' H',N σ' H'->∃Z,Z<m/\W Z σ' H')/\tb {D with nx:=N,ct:=N,bk:=D.nx} σ H1 else D.nx σ H1
theorem Kg{c:Expr}{body:List dy}{tc:TT}{tb:TS}(q:PassesOwn (model X.prog X.w) X.A X.env X.xe)(J:PT X c tc)(hb:PSs X body tb):PS X (.While c body [] pos) (Va tc tb):=by
 intro pins s σ H D I h;obtain⟨W,⟨M,O⟩,turn⟩:=h;refine wpAny_While (codeAny_whileLoop (λn s'=>∃σ' H',Inv X pins σ' H' s'/\W n σ' H') ?_ M ⟨σ,H,I,O⟩);rintro n s1 ⟨Y,H1,L,P⟩;refine bc q (thn (J pins s1 Y H1 _ L (turn n Y H1 P)) λb s2 ⟨H2,Q,q2⟩=>?_)
 cases b with
 |true=>
  obtain⟨N,R,q2⟩:=q2;rw[if_pos rfl];refine bc q (thn (hb pins s2 Y H2 _ Q q2) λf K q3=>?_)
  cases f with
  |next=>
   obtain⟨Z,V,S,n3⟩:=q3;obtain⟨T,hm,U⟩:=R Z V n3;exact⟨T,hm,Z,V,S,U⟩
  |cont=>
   obtain⟨Z,V,S,n3⟩:=q3;obtain⟨T,hm,U⟩:=R Z V n3;exact⟨T,hm,Z,V,S,U⟩
  |brk=>exact q3
  |ret v=>exact q3
 |false=>
  rw[if_neg eZ];exact bd ⟨Y,H2,Q,q2⟩
end
structure It where
 go:Nat->Hp->Prop
 yld:Nat->Hp->V->Hp->Prop
 stop:Nat->Hp->Prop
def tH(X:Cx)(pins:List (Addr×Obj))(H:Hp)(b:Addr):Prop:=
 H b=none/\b≠X.env.locals/\b∉X.fs/\(b∈X.ex\/X.s₀.heap.objs.size<=b)/\(∀x c,X.env.cells.lookup x=some c->c≠b)/\∀p∈X.pn++pins,p.1≠b
theorem Inv.fpOk{X:Cx}{pins:List (Addr×Obj)}{σ:St}{H H':Hp}{s:c9}{b:Addr}(I:Inv X pins σ H s)(hb:s.heap.objs.size<=b)(hn:H' b=none):tH X pins H' b:=by
 refine⟨hn,rB (bQ I.lt hb),I.nofs hb,.inr (aZ I.sz hb),λx c e z=>?_,λp Z z=>?_⟩
 ·obtain⟨v,q⟩:=I.cell x c e;exact absurd (bQ q.lt (by rwa[z])) (dw _)
 ·exact absurd (bQ (af (I.pin p Z).1) (by rwa[z])) (dw _)
structure Turn(P:c_)(w:de)(K:PySem.W.Frag)(tg:Expr)(J:It)(fp:List Addr)(it:Addr)(tn:Nat->dl->Prop):Prop where
 mem:it∈fp
 obj:∀i h,tn i h->∀b∈fp,∃o,h.get? b=some o/\∀v,o.data ≠ .cell v
 keep:∀i h h',tn i h->(∀b∈fp,∀o,h.get? b=some o->h'.get? b=some o)->tn i h'
 item:∀(X:Cx),X.prog=P->X.w=w->X.K=K->X.calm=true->∀(i:Nat)(pins:List (Addr×Obj))(s:c9)(σ:St)(H:Hp)(E:Value->c9->Prop),Inv X pins σ H s->(∀b∈fp,tH X pins H b)->tn i s.heap->J.go i H ->
  wpAny (model P w) X.A (pyNext (.ref it)) (λr s1=>∃u,r=some u /\
   wpAny (model P w) X.A (letOwnedTupleGo tg (.ref it) u) (λ_ s2=>∃x H',Inv X pins σ H' s2/\RelV x u/\J.yld i H x H'/\tn (i+1) s2.heap/\∀b∈fp,H' b=none) E s1) E s
 done:∀(X:Cx),X.prog=P->X.w=w->X.K=K->X.calm=true->∀(i:Nat)(pins:List (Addr×Obj))(s:c9)(σ:St)(H:Hp)(E:Value->c9->Prop),Inv X pins σ H s->(∀b∈fp,tH X pins H b)->tn i s.heap->J.stop i H ->
  wpAny (model P w) X.A (pyNext (.ref it)) (λr s1=>r=none/\Inv X pins σ H s1) E s
 self:∀(A:dc)(i:Nat)(s:c9)(Q:Value->c9->Prop)(E:Value->c9->Prop),tn i s.heap->Q (.ref it) s->wpAny (model P w) A (pyIter (.ref it)) Q E s
abbrev TI:=St->Hp->(It->Hp->Prop)->Prop
def PIE(X:Cx)(pins:List (Addr×Obj))(σ:St)(tg:Expr)(R:It->Hp->Prop)(q:Value)(s2:c9):Prop:=
 ∃(it:Addr)(fp:List Addr)(tn:Nat->dl->Prop)(J:It)(H':Hp),q = .ref it/\Inv X pins σ H' s2/\Turn X.prog X.w X.K tg J fp it tn/\tn 0 s2.heap/\(∀b∈fp,tH X pins H' b)/\R J H'
def PI(X:Cx)(tg iter:Expr)(wi:TI):Prop:=
 ∀(pins:List (Addr×Obj))(s:c9)(σ:St)(H:Hp)(R:It->Hp->Prop),Inv X pins σ H s->wi σ H R ->
  wpAny (model X.prog X.w) X.A (eval iter X.env) (λv s1=>wpAny (model X.prog X.w) X.A (pyIter v) (PIE X pins σ tg R) X.xe s1) X.xe s
theorem Av{M:eR}{A:dc}{E:Value->c9->Prop}{s:c9}{tg:Expr}{it:Addr}{u:Value}{o:Obj}{n:String}{vs:Array Value}{Q:Unit->c9->Prop}(J:s.heap.get? it=some o)(O:o.cls = .type n)(hd:o.data = .fields vs)
 (hn:["enumerate", "zip", "dict_itemiterator", "dict_reverseitemiterator", "odict_iterator", "itertools.zip_longest", "itertools.pairwise"].contains n=false) (q:Q () s):wpAny M A (letOwnedTupleGo tg (.ref it) u) Q E s:=by
 cases tg<;>first
  |exact ag q
  | (cases u<;>first
   |exact ag q
   | (refine aa (wpAny_load J ?_)
      rw[O,hd];show wpAny M A (if(["enumerate", "zip", "dict_itemiterator", "dict_reverseitemiterator", "odict_iterator", "itertools.zip_longest", "itertools.pairwise"].contains n&&vs[0]? == some (rawInt _))=true then _ else _) Q E s;rw[if_neg (by intro h;rw[hn,Bool.false_and]at h;cases h)];exact ag q))
noncomputable def Itl(K:PySem.W.Frag)(a:Addr):It:=
 ⟨λi H=>∃xs x,SqL K H a xs/\xs[i]? = some x,λi H x H'=>H'=H/\∀xs,SqL K H a xs->xs[i]? = some x,λi H=>∃xs,SqL K H a xs/\xs.length<=i⟩
noncomputable def Itr(lo:Int)(n:Nat):It:=⟨λi _=>i<n,λi H x H'=>H'=H/\x = .int (lo+i),λi _=>n<=i⟩
theorem Iw{P:c_}{w:de}{K:PySem.W.Frag}{tg:Expr}(a it:Addr):Turn P w K tg (Itl K a) [it] it (λi h=>h.IsListIter it a i) where
 mem:=by simp
 obj:=λi h st b hb=>by
  have e:b=it:=by simpa using hb
  subst e;obtain⟨o,e,c,d⟩:=st;exact⟨o,e,λv z=>by rw[d]at z;cases z⟩
 keep:=λi h h' st k=>st.at λo e=>k it (by simp) o e
 item:=by
  intro X S hw R L i pins s σ H E I V st T;subst S hw R;obtain⟨xs,x,Y,hx⟩:=T;obtain⟨its,U,p,F⟩:=I.list Y;obtain⟨u,C,G⟩:=U.get hx;obtain⟨M,f1,f2,N,O,Q⟩:=V it (by simp);refine wpAny_pyNext_list_item st p.isList (x:=u) (by simpa using C) λh' Z J=>?_
  have A:=I.turned (t':=s.toks) (λb o hb e=>(J.2 b hb).trans e) M f1 N O Q;obtain⟨o,e,c,d⟩:=id Z;exact⟨u,rfl,Av (s:={s with heap:=h'}) e c d (by decide) ⟨x,H,A,G,⟨rfl,λys D=>by rwa[I.list_inj D Y]⟩,Z,λb hb=>(V b hb).1⟩⟩
 done:=by
  intro X S hw R L i pins s σ H E I V st T;subst S hw R;obtain⟨xs,Y,hx⟩:=T;obtain⟨its,U,p,F⟩:=I.list Y;obtain⟨M,f1,f2,N,O,Q⟩:=V it (by simp);have y:=U.length;exact wpAny_pyNext_list_end (I.ok.hd L) st p.isList (by simp;omega) λh' B=>⟨rfl,I.turned (t':=s.toks) (λb o hb e=>B b o hb e) M f1 N O Q⟩
 self:=λ_ _ _ _ _ st h=>wpAny_pyIter_listiter st h
theorem DK{P:c_}{w:de}{K:PySem.W.Frag}{tg:Expr}(it:Addr)(lo:Int)(n:Nat):Turn P w K tg (Itr lo n) [it] it (λi h=>IsRangeIter h it (lo+(i:Nat)*1) ((n:Int)-(i:Nat)) 1) where
 mem:=by simp
 obj:=λi h st b hb=>by
  have e:b=it:=by simpa using hb
  subst e;exact⟨_,st,λv z=>by
   have M:Data.fields _=Data.cell v:=z
   cases M⟩
 keep:=λi h h' st k=>k it (by simp) _ st
 item:=by
  intro X T hw S U i pins s σ H E I Y st V;subst T hw S;obtain⟨N,f1,f2,O,Q,R⟩:=Y it (by simp);have W:=Walks.range (prog:=X.prog) (w:=X.w) (I.ok.hd U) it lo 1 n;refine W.item i s _ _ V st λv h' tk J Z L=>?_
  obtain⟨t,rfl⟩:=J;have F:Inv X pins σ H {s with heap:=h',toks:=tk}:=I.turned (λb o hb e=>L b o (by simpa using hb) e) N f1 O Q R;refine⟨_,rfl,Av (s:={s with heap:=h',toks:=tk}) (n := "range_iterator") Z rfl rfl (by decide) ⟨.int (lo+i),H,F,⟨t,?_⟩,⟨rfl,rfl⟩,Z,λb hb=>(Y b hb).1⟩⟩;rw[Int.mul_one]
 done:=by
  intro X T hw S U i pins s σ H E I Y st V;subst T hw S;obtain⟨N,f1,f2,O,Q,R⟩:=Y it (by simp);exact wpAny_pyNext_range_end (I.ok.hd U) st (by have:n<=i:=V;omega) λh' G=>⟨rfl,I.turned (t':=s.toks) (λb o hb e=>G b o hb e) N f1 O Q R⟩
 self:=λ_ _ _ _ _ st h=>wpAny_pyIter_rangeiter st h
end L2
namespace L2
section
variable{X:Cx}{tg:Expr}
def Xv(K:PySem.W.Frag)(tl:TE):TI:=λσ H R=>tl σ H λx H1=>∃a,x = .ref a/\(∃xs,SqL K H1 a xs)/\R (Itl K a) H1
theorem Qg{l:Expr}{tl:TE}(J:PE X l tl):PI X tg l (Xv X.K tl):=by
 intro pins s σ H R I h;refine thn (J pins s σ H _ I h) λv s1 ⟨x,H1,Z,r1,q1⟩=>?_
 obtain⟨a,e,⟨xs,Y⟩,q⟩:=q1;subst e
 cases r1;obtain⟨its,W,p,V⟩:=Z.list Y;refine ci p.isList ?_;refine⟨s1.heap.objs.size,[s1.heap.objs.size],_,_,H1,rfl,Z.kept (t':=s1.toks) λb o e=>ae _ e,Iw a _,⟨_,ah _ rfl,rfl,rfl⟩,λb hb=>?_,q⟩;have e:b=s1.heap.objs.size:=by simpa using hb
 subst e;exact Z.fpOk (aP _) (Z.hok.fresh (aP _))
theorem Aw{pins:List (Addr×Obj)}{σ:St}{H:Hp}{s:c9}{R:It->Hp->Prop}{E:Value->c9->Prop}{lo hi:Int}{t u v:Tok}{tk:Nat}(I:Inv X pins σ H s)(h1 : -(2^62)<=lo)(h2:lo<2^62)(h3 : -(2^62)<=hi)(h4:hi<2^62)
 (q:R (Itr lo (hi-lo).toNat) H):wpAny (model X.prog X.w) X.A (pyIter (.ref s.heap.objs.size)) (PIE X pins σ tg R) E {s with heap:=s.heap.push {cls:=.type "range", data:=.fields #[.int lo t,.int hi u,.int 1 v]},toks:=tk}:=by
 refine wpAny_pyIter_range (IsRange.new ..) (small_one h1 h2 h3 h4) ?_;have Z:Inv X pins σ H {s with heap:=s.heap.push {cls:=.type "range", data:=.fields #[.int lo t,.int hi u,.int 1 v]},toks:=tk}:=I.kept λb o e=>ae _ e
 refine⟨(s.heap.push {cls:=.type "range", data:=.fields #[.int lo t,.int hi u,.int 1 v]}).objs.size,[(s.heap.push {cls:=.type "range", data:=.fields #[.int lo t,.int hi u,.int 1 v]}).objs.size],_,_,H,rfl,
  Z.kept (t':=tk) λb o e=>ae _ e,DK _ lo (hi-lo).toNat,?_,λb hb=>?_,q⟩
 ·have W:lo+((0:Nat):Int)*1=lo:=by simp
  have Y:(((hi-lo).toNat:Nat):Int)-((0:Nat):Int)=Builtin.Range.rangeSize lo hi 1:=by rw[rangeSize_one];split<;>omega
  rw[W,Y];exact ah _ rfl
 ·have e:b=(s.heap.push {cls:=.type "range", data:=.fields #[.int lo t,.int hi u,.int 1 v]}).objs.size:=by simpa using hb
  subst e;exact Z.fpOk (aP _) (Z.hok.fresh (aP _))
def Xw(ta:TA):TI:=λσ H R=>ta σ H λvs H1=>∃j:Int,vs=[.int j]/\-(2^62)<=j/\j<2^62/\R (Itr 0 j.toNat) H1
def Xx(ta:TA):TI:=λσ H R=>ta σ H λvs H1=>∃i j:Int,vs=[.int i,.int j]/\(-(2^62)<=i/\i<2^62/\-(2^62)<=j/\j<2^62)/\R (Itr i (j-i).toNat) H1
theorem Iz{a:Expr}{ta:TA}{p pos:Pos}(O:Gl X "range")(hm:X.mg "range"=none)(ha:PA X [a] ta)(J:starEach [a] X.env=[(false,eval a X.env)]:=by rfl):PI X tg (.Call (.Name "range" p) [a] [] pos) (Xw ta):=by
 intro pins s σ H R I h;refine Call_ (lG I O hm boot_range (du (thn (ha pos pins s σ H _ I h) λus s1 ⟨vs,H1,Y,r1,q1⟩=>?_) J rfl));obtain⟨j,e,q1,q2,q⟩:=q1;subst e
 cases r1 with
 |cons r Z=>
  cases Z;obtain⟨t,rfl⟩:=r;exact call_range_1 (Aw Y (by omega) (by omega) q1 q2 (by simpa using q))
theorem IK{a b:Expr}{ta:TA}{p pos:Pos}(U:Gl X "range")(hm:X.mg "range"=none)(ha:PA X [a,b] ta)(O:starEach [a,b] X.env=[(false,eval a X.env),(false,eval b X.env)]:=by rfl)(J:starEach [b] X.env=[(false,eval b X.env)]:=by rfl):
 PI X tg (.Call (.Name "range" p) [a,b] [] pos) (Xx ta):=by
 intro pins s σ H R I h;refine Call_ (lG I U hm boot_range (du (thn (ha pos pins s σ H _ I h) λus s1 ⟨vs,H1,W,r1,q1⟩=>?_) (by rw[O,J]) (by rw[J];rfl)));obtain⟨i,j,e,⟨q1,q2,q3,q4⟩,q⟩:=q1;subst e
 cases r1 with
 |cons r Z=>
  cases Z with
  |cons Y Z=>
   cases Z;obtain⟨t,rfl⟩:=r;obtain⟨V,rfl⟩:=Y;exact call_range_2 (Aw W q1 q2 q3 q4 q)
def aa9(wi:TI)(g:TG)(tb:TS):TS:=λD σ H=>wi σ H λJ H1=>∃W:Nat->Nat->St->Hp->Prop,(∃m,W 0 m σ H1)/\∀i m σ H,W i m σ H ->
 (J.stop i H/\D.nx σ H)\/(J.go i H/\∃N:St->Hp->Prop,(∀σ' H',N σ' H'->∃Y,Y<m/\W (i+1) Y σ' H')/\∀x H',J.yld i H x H'->g x σ H' λZ H2=>tb {D with nx:=N,ct:=N,bk:=D.nx} Z H2)
def vI(fp:List Addr)(h:dl):List (Addr×Obj):=fp.filterMap λb=>(h.get? b).map λo=>(b,o)
theorem nQ{fp:List Addr}{h:dl}{b:Addr}{o:Obj}(hb:b∈fp)(e:h.get? b=some o):(b,o)∈vI fp h:=qd.mpr ⟨b,hb,by rw[e];rfl⟩
theorem IV{fp:List Addr}{h:dl}{p:Addr×Obj}(J:p∈vI fp h):p.1∈fp/\h.get? p.1=some p.2:=by
 obtain⟨b,hb,e⟩:=qd.mp J
 cases q:h.get? b with
 |none=>rw[q]at e;cases e
 |some o=>
  rw[q]at e;have Z:(b,o)=p:=cL.inj e;subst Z;exact⟨hb,q⟩
theorem Inv.pinned{pins:List (Addr×Obj)}{σ:St}{H:Hp}{s:c9}{fp:List Addr}(I:Inv X pins σ H s)(J:∀b∈fp,tH X pins H b)(q:∀b∈fp,∃o,s.heap.get? b=some o/\∀v,o.data ≠ .cell v):Inv X (pins++vI fp s.heap) σ H s:=
 I.pins_of λp Y=>(b_.mp Y).elim (λz=>I.pin p (aR _ z)) λz=>by
  obtain⟨hb,e⟩:=IV z;obtain⟨W,f1,f2,_⟩:=J p.1 hb;obtain⟨o,Z,d⟩:=q p.1 hb;rw[e]at Z;cases Z;exact⟨e,W,f1,f2,d⟩
theorem Inv.unpinned{pins pl:List (Addr×Obj)}{σ:St}{H:Hp}{s:c9}(I:Inv X (pins++pl) σ H s):Inv X pins σ H s:=I.pins_of λp Z=>I.pin p (aR _ (bT _ Z))
theorem Vb{iter:Expr}{body:List dy}{wi:TI}{g:TG}{tb:TS}{pos:Pos}(q:PassesOwn (model X.prog X.w) X.A X.env X.xe)(hc:X.calm=true)(hi:PI X tg iter wi)(hg:PG X tg g)(hb:PSs X body tb)
 (hs:∀x,foldedSetIterable iter X.env x=pure x:=by intro _;rfl):PS X (.For tg iter body [] pos) (aa9 wi g tb):=by
 intro pins s σ H D I h;refine wpAny_For (thn (hi pins s σ H _ I h) λv s1 h1=>thn h1 λitv s2 h2=>?_) hs;obtain⟨it,fp,tn,J,H2,e,I2,T,K,f2,W,⟨m0,c⟩,turn⟩:=h2;subst e;have V:∀{H':Hp},(∀b∈fp,H' b=none)->∀b∈fp,tH X pins H' b:=λhn b hb=>⟨hn b hb,(f2 b hb).2⟩
 refine codeAny_forLoop_any (λn s'=>∃i σ' H',Inv X pins σ' H' s'/\tn i s'.heap/\(∀b∈fp,H' b=none)/\W i n σ' H') ?_ m0 ⟨0,σ,H2,I2,K,λb hb=>(f2 b hb).1,c⟩;rintro n z ⟨i,Y,M,y,Q,O,j⟩;rcases turn i n Y M j with⟨stop,qn⟩|⟨go,N,hN,step⟩
 ·refine bc q (thn (T.done X rfl rfl rfl hc i pins z Y M X.xe y (V O) Q stop) λr s4 ⟨F,I4⟩=>?_);subst F;exact bd ⟨Y,M,I4,qn⟩
 ·refine bc q (thn (T.item X rfl rfl rfl hc i pins z Y M X.xe y (V O) Q go) λr s4 ⟨u,F,h4⟩=>?_);subst F;refine bc q (thn h4 λ_ B ⟨x,t,I5,r5,p,R,E⟩=>?_);have C:=I5.pinned (V E) (T.obj _ _ R);refine bc q (thn (hg _ B Y t x u _ C r5 (step x t p)) λ_ a ⟨L,H6,I6,q6⟩=>?_);refine bc q (thn (hb _ a L H6 _ I6 q6) λf G q7=>?_);have again:∀{Z:St}{S:Hp},Inv X (pins++vI fp B.heap) Z S G->N Z S->∃m,m<n/\∃i σ' H',Inv X pins σ' H' G/\tn i G.heap/\(∀b∈fp,H' b=none)/\W i m σ' H':=λ{Z S} U P=>by
   obtain⟨m',hm,k⟩:=hN Z S P;refine⟨m',hm,i+1,Z,S,U.unpinned,T.keep _ _ _ R λb hb o e=>(U.pin (b,o) (aR _ (aR _ (nQ hb e)))).1,λb hb=>?_,k⟩;obtain⟨o,e,d⟩:=T.obj _ _ R b hb;exact(U.pin (b,o) (aR _ (aR _ (nQ hb e)))).2.1
  cases f with
  |next=>obtain⟨Z,S,U,P⟩:=q7;exact again U P
  |cont=>obtain⟨Z,S,U,P⟩:=q7;exact again U P
  |brk=>obtain⟨Z,S,U,q7⟩:=q7;exact⟨Z,S,U.unpinned,q7⟩
  |ret v=>obtain⟨l,Z,S,U,r7,q7⟩:=q7;exact⟨l,Z,S,U.unpinned,r7,q7⟩
end
end L2
namespace L2
abbrev R2:=V->V->Hp->VK->Prop
def OpR(X:Cx)(f:Value->Value->Sem Value)(r:R2):Prop:=
 ∀(pins:List (Addr×Obj))(s:c9)(σ:St)(H:Hp)(x y:V)(v u:Value)(Q:VK),Inv X pins σ H s->RelV x v->RelV y u->r x y H Q ->
  wpAny (model X.prog X.w) X.A (f v u) (EP X pins σ Q) X.xe s
def UnR(X:Cx)(f:Value->Sem Value)(r:V->Hp->VK->Prop):Prop:=
 ∀(pins:List (Addr×Obj))(s:c9)(σ:St)(H:Hp)(x:V)(v:Value)(Q:VK),Inv X pins σ H s->RelV x v->r x H Q ->
  wpAny (model X.prog X.w) X.A (f v) (EP X pins σ Q) X.xe s
def kZ(X:Cx)(f:Value)(r:List V->Hp->VK->Prop):Prop:=
 ∀(pins:List (Addr×Obj))(s:c9)(σ:St)(H:Hp)(xs:List V)(us:List Value)(Q:VK),Inv X pins σ H s->Vals xs us->r xs H Q ->
  wpAny (model X.prog X.w) X.A (call f us) (EP X pins σ Q) X.xe s
def tOp(r:R2)(ta tb:TE):TE:=λσ H Q=>ta σ H λx H1=>tb σ H1 λy H2=>r x y H2 Q
def tUn(r:V->Hp->VK->Prop)(ta:TE):TE:=λσ H Q=>ta σ H λx H1=>r x H1 Q
def rI(C:Int->Int->Prop)(g:Int->Int->V):R2:=λx y H Q=>∃i j,x = .int i/\y = .int j/\C i j/\Q (g i j) H
def rI0(g:Int->Int->V):R2:=λx y H Q=>∃i j,x = .int i/\y = .int j/\Q (g i j) H
def rU(g:Int->V):V->Hp->VK->Prop:=λx H Q=>∃i,x = .int i/\Q (g i) H
section
variable{X:Cx}{a b c:Expr}{ta tb tc:TE}{pos:Pos}
theorem Vc(ha:PE X a ta)(hb:PE X b tb){pins:List (Addr×Obj)}{s:c9}{σ:St}{H:Hp}{R:V->V->Hp->Prop}(I:Inv X pins σ H s)
 (h:ta σ H λx H1=>tb σ H1 λy H2=>R x y H2) {Q:Value->c9->Prop} {f:Value->Value->Sem Value}
 (O:∀v u s2 x y H2,Inv X pins σ H2 s2->RelV x v->RelV y u->R x y H2->wpAny (model X.prog X.w) X.A (f v u) Q X.xe s2) :
 wpAny (model X.prog X.w) X.A (eval a X.env) (λv J=>wpAny (model X.prog X.w) X.A (eval b X.env) (λu q=>wpAny (model X.prog X.w) X.A (f v u) Q X.xe q) X.xe J) X.xe s:=by
 refine thn (ha pins s σ H _ I h) λv s1 ⟨x,H1,Y,r1,q1⟩=>?_
 refine thn (hb pins s1 σ H1 _ Y q1) λu s2 ⟨y,H2,Z,r2,q2⟩=>?_
 exact O v u s2 x y H2 Z r1 r2 q2
theorem TQ{J:Operator}{r:R2}(O:OpR X (binaryOp J) r)(ha:PE X a ta)(hb:PE X b tb):PE X (.BinOp a J b pos) (tOp r ta tb):=by
 intro pins s σ H Q I h;exact wpAny_BinOp (Vc ha hb I h λv u s2 x y H2 W Y Z q=>O pins s2 σ H2 x y v u Q W Y Z q)
theorem Xy{q:UnaryOp}{r:V->Hp->VK->Prop}(J:UnR X (unaryOp q) r)(ha:PE X a ta):PE X (.UnaryOp q a pos) (tUn r ta):=by
 intro pins s σ H Q I h;exact UnaryOp_ (thn (ha pins s σ H _ I h) λv s1 ⟨x,H1,Z,r1,q1⟩=>J pins s1 σ H1 x v Q Z r1 q1)
theorem opI{f:Value->Value->Sem Value}{C:Int->Int->Prop}{g:Int->Int->Int}
 (rule:∀(i j:Int)(t u:Tok)(s:c9)(Q:Value->c9->Prop)(E:Value->c9->Prop),C i j->Q (.int (g i j) s.toks) {s with toks:=s.toks+1}->wpAny (model X.prog X.w) X.A (f (.int i t) (.int j u)) Q E s) :
 OpR X f (rI C λi j=>.int (g i j)):=by
 intro pins s σ H x y v u Q I W Y h;obtain⟨i,j,rfl,rfl,V,q⟩:=h;obtain⟨t,rfl⟩:=W;obtain⟨Z,rfl⟩:=Y;exact rule i j t Z s _ _ V ⟨.int (g i j),H,I.tok _,⟨_,rfl⟩,q⟩
theorem ab0{f:Value->Value->Sem Value}{g:Int->Int->Int}
 (rule:∀(i j:Int)(t u:Tok)(s:c9)(Q:Value->c9->Prop)(E:Value->c9->Prop),Q (.int (g i j) s.toks) {s with toks:=s.toks+1}->wpAny (model X.prog X.w) X.A (f (.int i t) (.int j u)) Q E s) :
 OpR X f (rI0 λi j=>.int (g i j)):=by
 intro pins s σ H x y v u Q I W Y h;obtain⟨i,j,rfl,rfl,q⟩:=h;obtain⟨t,rfl⟩:=W;obtain⟨Z,rfl⟩:=Y;exact rule i j t Z s _ _ ⟨.int (g i j),H,I.tok _,⟨_,rfl⟩,q⟩
theorem Qh{f:Value->Value->Sem Value}{g:Int->Int->Bool}
 (rule:∀(i j:Int)(t u:Tok)(s:c9)(Q:Value->c9->Prop)(E:Value->c9->Prop),Q (.bool (g i j)) s->wpAny (model X.prog X.w) X.A (f (.int i t) (.int j u)) Q E s) :
 OpR X f (rI0 λi j=>.bl (g i j)):=by
 intro pins s σ H x y v u Q I W Y h;obtain⟨i,j,rfl,rfl,q⟩:=h;obtain⟨t,rfl⟩:=W;obtain⟨Z,rfl⟩:=Y;exact rule i j t Z s _ _ ⟨.bl (g i j),H,I,rfl,q⟩
def Vd(i j:Int):Prop:=0<=j/\j<=1000000/\i.natAbs<2^64
theorem jU:OpR X (binaryOp .Add) (rI0 λi j=>.int (i+j)):=ab0 λ_ _ _ _ _ _ _ q=>add_int q
theorem j6:OpR X (binaryOp .Mod) (rI (λ_ j=>j≠0) λi j=>.int (i.fmod j)):=opI λ_ _ _ _ _ _ _ Z q=>mod_int' Z q
theorem Ve:OpR X (binaryOp .Pow) (rI Vd λi j=>.int (i^j.toNat)):=opI λ_ _ _ _ _ _ _ Z q=>pow_int_small Z.1 Z.2.1 Z.2.2 q
theorem unI{f:Value->Sem Value}{g:Int->Int}
 (rule:∀(i:Int)(t:Tok)(s:c9)(Q:Value->c9->Prop)(E:Value->c9->Prop),Q (.int (g i) s.toks) {s with toks:=s.toks+1}->wpAny (model X.prog X.w) X.A (f (.int i t)) Q E s) :
 UnR X f (rU λi=>.int (g i)):=by
 intro pins s σ H x v Q I Z h;obtain⟨i,rfl,q⟩:=h;obtain⟨t,rfl⟩:=Z;exact rule i t s _ _ ⟨.int (g i),H,I.tok _,⟨_,rfl⟩,q⟩
theorem Vf:UnR X (unaryOp .USub) (rU λi=>.int (-i)):=unI λ_ _ _ _ _ q=>neg_int q
end
section
variable{X:Cx}{a b c:Expr}{ta tb tc:TE}{pos:Pos}
theorem Vg{pins:List (Addr×Obj)}{σ:St}{H:Hp}{s:c9}{Q:VK}{k J:Bool}(I:Inv X pins σ H s)(q:Q (.bl k) H)(e:k=J):EP X pins σ Q (.bool J) s:=by
 subst e;exact⟨.bl k,H,I,rfl,q⟩
theorem TX:OpR X (compareOp .Lt) (rI0 λi j=>.bl (decide (i<j))):=Qh λ_ _ _ _ _ _ _ q=>lt_int q
theorem vJ:OpR X (compareOp .LtE) (rI0 λi j=>.bl (decide (i<=j))):=Qh λ_ _ _ _ _ _ _ q=>le_int q
theorem TY:OpR X (compareOp .Gt) (rI0 λi j=>.bl (decide (j<i))):=Qh λ_ _ _ _ _ _ _ q=>gt_int q
theorem rK:OpR X (compareOp .GtE) (rI0 λi j=>.bl (decide (j<=i))):=Qh λ_ _ _ _ _ _ _ q=>ge_int q
theorem d_(b:Expr){q:CmpOp}(h:q ≠ .In:=by decide)(h2:q ≠ .NotIn:=by decide):behindInMarks q b=false:=by
 have Y:(q==CmpOp.In)=false:=by cases q<;>first|rfl|exact absurd rfl h
 have Z:(q==CmpOp.NotIn)=false:=by cases q<;>first|rfl|exact absurd rfl h2
 cases b<;>simp[behindInMarks,Y,Z]
theorem Qi{J:CmpOp}{r:R2}(O:OpR X (compareOp J) r)(ha:PE X a ta)(hb:PE X b tb)(hm:behindInMarks J b=false):PE X (.Compare a [J] [b] pos) (tOp r ta tb):=by
 intro pins s σ H Q I h;exact wpAny_Compare1 (Vc ha hb I h λv u s2 x y H2 W Y Z q=>O pins s2 σ H2 x y v u Q W Y Z q) hm
def T3(t:TE):TT:=λσ H Q=>t σ H λx H'=>∃k,x = .bl k/\Q k H'
theorem Qj{q:CmpOp}{r:R2}(J:OpR X (compareOp q) r)(ha:PE X a ta)(hb:PE X b tb)(hm:behindInMarks q b=false):PT X (.Compare a [q] [b] pos) (T3 (tOp r ta tb)):=by
 intro pins s σ H Q I h;refine wpAny_isTrue_Compare1 (thn (ha pins s σ H _ I h) λv s1 ⟨x,H1,W,r1,q1⟩=>thn (hb pins s1 σ H1 _ W q1) λu s2 ⟨y,H2,Y,r2,q2⟩=>
  thn (J pins s2 σ H2 x y v u _ Y r1 r2 q2) λc U ⟨z,V,Z,r3,k,e,q3⟩=>?_) hm
 subst e
 cases r3;exact ax ⟨V,Z,q3⟩
noncomputable def Kh(r q:R2)(ta tb tc:TE):TE:=λσ H Q=>ta σ H λx H1=>tb σ H1 λy H2=>r x y H2 λz Z=>∃k,z = .bl k /\
 (if k=true then tc σ Z λY X=>q y Y X Q else Q (.bl false) Z)
theorem Kl{J q:CmpOp}{r U:R2}(ho:OpR X (compareOp J) r)(O:OpR X (compareOp q) U)(ha:PE X a ta)(hb:PE X b tb)(hc:PE X c tc)
 (hm:lastMarks [J,q] [b,c]=false:=by with_unfolding_all rfl):PE X (.Compare a [J,q] [b,c] pos) (Kh r U ta tb tc):=by
 intro pins s σ H Q I h;refine Compare_chain (thn (ha pins s σ H _ I h) λv s1 ⟨x,H1,N,r1,q1⟩=>chain_link (thn (hb pins s1 σ H1 _ N q1) λu s2 ⟨y,H2,P,r2,q2⟩=>
  thn (ho pins s2 σ H2 x y v u _ P r1 r2 q2) λd S ⟨z,Y,Z,r3,k,e,q3⟩=>?_)) hm
 subst e
 cases r3;refine ax ?_
 cases k with
 |false=>exact ite_ff ⟨.bl false,Y,Z,rfl,q3⟩
 |true=>exact ite_tt (chain_last (thn (hc pins S σ Y _ Z q3) λV T ⟨W,M,R,r4,q4⟩=>O pins T σ M y W u V Q R r2 r4 q4))
theorem Km{J q:CmpOp}{r U:R2}(ho:OpR X (compareOp J) r)(O:OpR X (compareOp q) U)(ha:PE X a ta)(hb:PE X b tb)(hc:PE X c tc)
 (hm:lastMarks [J,q] [b,c]=false:=by with_unfolding_all rfl):PT X (.Compare a [J,q] [b,c] pos) (T3 (Kh r U ta tb tc)):=by
 intro pins s σ H Q I h;refine isTrue_chain (thn (ha pins s σ H _ I h) λv s1 ⟨x,H1,F,r1,q1⟩=>test_link (thn (hb pins s1 σ H1 _ F q1) λu s2 ⟨y,H2,G,r2,q2⟩=>
  thn (ho pins s2 σ H2 x y v u _ G r1 r2 q2) λd S ⟨z,Y,Z,r3,k,e,q3⟩=>?_)) hm
 subst e
 cases r3;refine ax ?_
 cases k with
 |false=>
  obtain⟨A,M,P⟩:=q3
  cases M;exact ite_ff ⟨Y,Z,P⟩
 |true=>
  refine ite_tt (test_last (thn (hc pins S σ Y _ Z q3) λV T ⟨W,D,K,r4,q4⟩=>thn (O pins T σ D y W u V _ K r2 r4 q4) λw B ⟨C,E,L,R,k2,N,q5⟩=>?_));subst N
  cases R;exact ax ⟨E,L,q5⟩
theorem vK:(sizeLine:Nat)<2^63:=by rw[sizeLine_eq];decide
theorem DN:OpR X (binaryOp .Add) (λx y H Q=>∃i j,x = .str i/\y = .str j/\i.length+j.length<=sizeLine/\Q (.str (i++j)) H):=by
 intro pins s σ H x y v u Q I W Y h;obtain⟨i,j,rfl,rfl,V,q⟩:=h;obtain⟨t,rfl⟩:=W;obtain⟨Z,rfl⟩:=Y;exact add_str (λZ tk=>⟨.str (i++j),H,I.tok _,⟨_,rfl⟩,q⟩) V
theorem vals1{x:V}{us:List Value}(r:Vals [x] us):∃u,us=[u]/\RelV x u:=by
 cases r with
 |cons r1 r2=>cases r2;exact⟨_,rfl,r1⟩
theorem vals2{x y:V}{us:List Value}(r:Vals [x,y] us):∃u q,us=[u,q]/\RelV x u/\RelV y q:=by
 cases r with
 |cons r1 r2=>
  cases r2 with
  |cons r3 r4=>cases r4;exact⟨_,_,rfl,r1,r3⟩
theorem IW(J:X.calm=true):kZ X (.builtin "min") (λxs H Q=>∃i j,xs=[.int i,.int j]/\Q (.int (if j<i then j else i)) H):=by
 intro pins s σ H xs us Q I r h;obtain⟨i,j,rfl,q⟩:=h;obtain⟨u,Y,rfl,⟨t,rfl⟩,⟨W,rfl⟩⟩:=vals2 r;refine min_two_ints (I.ok.hd J) λh' tk k=>⟨_,H,I.kept k,?_,q⟩
 by_cases Z:j<i
 ·rw[if_pos Z,if_pos Z];exact⟨_,rfl⟩
 ·rw[if_neg Z,if_neg Z];exact⟨_,rfl⟩
theorem I_:kZ X (.type "int") (λxs H Q=>(∃i,xs=[.int i]/\Q (.int i) H)\/∃k,xs=[.bl k]/\Q (.int (if k then 1 else 0)) H):=by
 intro pins s σ H xs us Q I r h;rcases h with⟨i,rfl,q⟩|⟨k,rfl,q⟩
 ·obtain⟨u,rfl,t,rfl⟩:=vals1 r;exact call_int_int ⟨.int i,H,I,⟨_,rfl⟩,q⟩
 ·obtain⟨u,rfl,r1⟩:=vals1 r
  cases r1;exact call_int_bool ⟨.int (if k then 1 else 0),H,I.tok _,⟨_,rfl⟩,q⟩
end
end L2
namespace L2
structure ObjM(h:dl)(x dx C:Addr)(mA:Str->Option Value):Prop where
 obj:h.get? x=some (PySem.W.instObj C dx)
 ns:h.Ns1 dx mA
 ne:dx≠x
theorem xX{h:dl}{dx:Addr}{mA:Str->Option Value}(n:h.Ns1 dx mA):∃od,h.get? dx=some od/\∀name,PySem.W.lookIn name od=some (mA name):=by
 obtain⟨o,es,T,X,hd,V,_,hm⟩:=n;refine⟨o,X,λname=>?_⟩;have e:=hm name;unfold nsFind findBy at e;rw[<-qe]at e;unfold PySem.W.lookIn;rw[hd];dsimp only;split
 ·rename_i y q;rw[q]at e;exact congrArg some e
 ·rename_i q;rw[q]at e;have a:es.toList.any (·.refKey)=false:=by
   rw[List.any_eq_false];intro y Y;obtain⟨z,t,Z⟩:=V y (oM.mp Y);simp[DictEntry.refKey,Z]
  have U:¬es.toList.any (·.refKey)=true:=by rw[a];exact eZ
  rw[if_neg U];exact congrArg some e
theorem ObjM.look{h:dl}{x dx C:Addr}{mA:Str->Option Value}(I:ObjM h x dx C mA):∃od,PySem.W.InstAt h x (PySem.W.instObj C dx) C (some od)/\∀name,PySem.W.lookIn name od=some (mA name):=
 let⟨od,Z,Y⟩:=xX I.ns
 ⟨od,⟨I.obj,rfl,rfl,Z⟩,Y⟩
section
variable{prog:c_}{w:de}{A:dc}{E:Value->c9->Prop}{s:c9}{K:PySem.W.Frag}{x dx C f:Addr}{mA:Str->Option Value}{name:Str}{v:Value}
theorem get_map{expr:Bool}{Q:Value->c9->Prop}(X:K.In s.heap)(I:ObjM s.heap x dx C mA)(Y:PySem.W.plainGet K C name=true)(U:PySem.W.hasDictIn K C=true)
 (ha:PySem.W.findIn K (.ref C) name=some none) (O:mA name=some v) (q:PySem.W.handedIn v=true) (h:Q v {s with toks:=s.toks+1}) :
 wpAny (model prog w) A (getAttr (.ref x) name expr) Q E s:=by
 obtain⟨od,J,Z⟩:=I.look;exact PySem.W.get_value X J (PySem.W.plainGet_of Y).1 (PySem.W.findObj_own U ha rfl (by rw[Z,O])) q h
theorem Ko{pl:Sem Bool}{Q:Value×List Value->c9->Prop}(X:K.In s.heap)(I:ObjM s.heap x dx C mA)(q:PySem.W.plainGet K C name=true)
 (Y:PySem.W.findIn K (.ref C) name=some (some (.ref f))) (U:PySem.W.isFn K (.ref f)=true) (O:mA name=none) (h:Q (.ref f,[.ref x]) s) :
 wpAny (model prog w) A (getMethod (.ref x) name pl) Q E s:=by
 obtain⟨od,J,Z⟩:=I.look;exact PySem.W.method_fn X J (PySem.W.plainGet_of q).1 (PySem.W.plainGet_of q).2 Y (beq_iff_eq.mp U) (by show(PySem.W.lookIn name od).map (·.isSome)=some false;rw[Z,O];rfl) h
theorem Qk{ns:List Str}{Q:Unit->c9->Prop}(X:K.In s.heap)(I:ObjM s.heap x dx C mA)
 (O:PySem.W.findIn K (.ref C) "__setattr__"=some (some (.builtin "object.__setattr__"))) (hp:PySem.W.plainOver K C=true) (q:PySem.W.takerIn K C name=some none) (hh:PySem.W.hasDictIn K C=true)
 (hw:PySem.Within mA ns) (hsz:ns.length<=sizeLine)
 (h:∀h',ObjM h' x dx C (λy=>if y=name then some v else mA y)->ew dx s.heap h'->Q () {s with heap:=h',toks:=s.toks+2}) :
 wpAny (model prog w) A (setAttr (.ref x) name v) Q E s:=by
 obtain⟨od,J,M⟩:=I.look;refine PySem.W.set_plain X J O (PySem.W.osa_open (s:={s with toks:=s.toks+1}) (r:=none) X J hp q λb=>?_);obtain⟨L,R,T⟩:=PySem.W.any_some hh;have hx:s.heap.get? x=some ⟨.ref C,some dx,.plain,#[]⟩:=I.obj;refine aa (ag (aa (aa (wpAny_loadPart hx (aa (PySem.W.Looks.here (s:={s with toks:=s.toks+1}) (PySem.W.looks_clsIn X R) ?_))))));rw[T];refine ag (a:=some dx) (aa (ag (aa ?_)));refine wpAny_nsSet1 (s:={s with toks:=s.toks+1}) I.ns λh' Y Z=>?_
 obtain⟨oD,P,N,V,U,S⟩:=Y.count (PySem.Within.cons name v hw);refine aa (wpAny_lookBehind V (by rw[U];exact pastItsLine_dict (aZ S (by rw[aW];omega))) ?_);exact ag (h _ ⟨(Z.2 _ (df I.ne)).trans I.obj,Y,I.ne⟩ Z)
theorem Kp{R:Result->c9->Prop}{vs:List Value}{kw:List (Str×Value)}(X:K.In s.heap)(hm:PySem.W.makesIn K C=true)
 (hi:PySem.W.findIn K (.ref C) "__init__"=some (some (.ref f))) (q:PySem.W.typeIn K (.ref f)=some (.type "function"))
 (h:codeAny (model prog w) (A.under (.builtin "type.__call__" ⟨.ref C::vs,kw⟩)) (.call (.ref f) ⟨.ref (s.heap.objs.size+1)::vs,kw⟩) (PySem.W.InitBack (s.heap.objs.size+1) R)
  {s with heap:=(s.heap.push PySem.W.emptyDict).push (PySem.W.instObj C s.heap.objs.size)}) :
 codeAny (model prog w) A (.call (.ref C) ⟨vs,kw⟩) R s:=by
 obtain⟨Z,g,d,t,os⟩:=s;exact PySem.W.make_core (PySem.W.makes_of X hm) (PySem.W.looks_findIn X hi) (λself=>PySem.W.bind_fn X self q) (.inl rfl) h
end
def oJ(f:Str)(v:V):List (Str×V)->List (Str×V)
 |[]=>[(f,v)]
 | (g,x)::r=>if g=f then(g,v)::r else(g,x)::oJ f v r
theorem ux(f g:Str)(v:V):∀fs:List (Str×V),(oJ f v fs).lookup g=if g=f then some v else fs.lookup g
 |[]=>by
  show gj g [(f,v)]=_;by_cases h:g=f
  ·have hb:(g==f)=true:=beq_iff_eq.mpr h;simp only[gj,hb,if_pos h]
  ·have hb:(g==f)=false:=beq_eq_false_iff_ne.mpr h;simp only[gj,hb,if_neg h]
 | (k,x)::r=>by
  have Y:=ux f g v r;rw[show oJ f v ((k,x)::r)=(if k=f then(k,v)::r else(k,x)::oJ f v r)from rfl];by_cases Z:k=f
  ·rw[if_pos Z];by_cases h:g=k
   ·have hb:(g==k)=true:=beq_iff_eq.mpr h;simp only[gj,hb,if_pos (h.trans Z)]
   ·have hb:(g==k)=false:=beq_eq_false_iff_ne.mpr h;simp only[gj,hb,if_neg (λe:g=f=>h (e.trans Z.symm))]
  ·rw[if_neg Z];by_cases h:g=k
   ·have hb:(g==k)=true:=beq_iff_eq.mpr h;simp only[gj,hb,if_neg (λe:g=f=>Z (h.symm.trans e))]
   ·have hb:(g==k)=false:=beq_eq_false_iff_ne.mpr h;simp only[gj,hb];exact Y
theorem tK(f:Str)(v:V):∀fs:List (Str×V),f∈(oJ f v fs).map (·.1)/\∀g,g∈fs.map (·.1)->g∈(oJ f v fs).map (·.1)
 |[]=>⟨by simp[oJ],λg h=>by simp at h⟩
 | (k,x)::r=>by
  obtain⟨i1,i2⟩:=tK f v r;rw[show oJ f v ((k,x)::r)=(if k=f then(k,v)::r else(k,x)::oJ f v r)from rfl];by_cases Z:k=f
  ·rw[if_pos Z];subst Z;exact⟨by simp,λg h=>by simpa using h⟩
  ·rw[if_neg Z];refine⟨?_,λg h=>?_⟩
   ·rw[aM];exact au _ i1
   ·rw[aM]at h ⊢;rcases aN.mp h with e|e
    ·exact aN.mpr (.inl e)
    ·exact au _ (i2 g e)
theorem uy(f:Str)(v:V):∀fs:List (Str×V),(oJ f v fs).length<=fs.length+1
 |[]=>by simp[oJ]
 | (k,x)::r=>by
  have Y:=uy f v r;rw[show oJ f v ((k,x)::r)=(if k=f then(k,v)::r else(k,x)::oJ f v r)from rfl];by_cases Z:k=f
  ·rw[if_pos Z,aW,aW];omega
  ·rw[if_neg Z,aW,aW];omega
theorem nP.some_of{v:V}{o:Option Value}(r:nP (some v) o):∃u,o=some u/\RelV v u:=by
 cases o with
 |none=>exact(show False from r).elim
 |some u=>exact⟨u,rfl,r⟩
theorem nP.none_of{o:Option Value}(r:nP none o):o=none:=by
 cases o with
 |none=>rfl
 |some u=>exact(show False from r).elim
theorem xY{v:V}{u:Value}(r:RelV v u):PySem.W.handedIn u=true:=by
 cases v with
 |non=>cases(show u=dm from r);rfl
 |bl b=>cases(show u=ei b from r);rfl
 |int i=>obtain⟨t,e⟩:=(show ∃t,u=ec i t from r);cases e;rfl
 |str x=>obtain⟨t,e⟩:=(show ∃t,u=eC x t from r);cases e;rfl
 |byt b=>obtain⟨t,e⟩:=(show ∃t,u=Value.bytes b t from r);cases e;rfl
 |flt b=>obtain⟨t,e⟩:=(show ∃t,u=Value.float b t from r);cases e;rfl
 |ref a=>cases(show u=db a from r);rfl
 |ty n=>cases(show u=eM n from r);rfl
section
variable{P:c_}{w:de}{H H':Hp}{h h':dl}{a C dx:Addr}{fs fs':List (Str×V)}
theorem uX(hok:HOk P w H h)(e:H a=some (.ins C dx fs)):∃mA,ObjM h a dx C mA/\(∀f,nP (fs.lookup f) (mA f))/\PySem.Within mA (fs.map (·.1))/\fs.length<=1000/\H dx=some (.own a):=by
 obtain⟨d,z,ne,Z,mA,n,r,q⟩:=(show fJ P w H h a (.ins C dx fs)from hok a _ e);exact⟨mA,⟨Z,n,ne⟩,r,q,z,d⟩
end
structure Cls(K:PySem.W.Frag)(C:Addr):Prop where
 pg:PySem.W.plainGet K C Str.empty=true
 hd:PySem.W.hasDictIn K C=true
 po:PySem.W.plainOver K C=true
 sa:PySem.W.findIn K (.ref C) "__setattr__"=some (some (.builtin "object.__setattr__"))
theorem Cls.get{K:PySem.W.Frag}{C:Addr}(c:Cls K C)(f:Str):PySem.W.plainGet K C f=true:=c.pg
def jc(K:PySem.W.Frag)(C:Addr)(f:Str):Prop:=PySem.W.findIn K (.ref C) f=some none
theorem jc.taker{K:PySem.W.Frag}{C:Addr}{f:Str}(n:jc K C f):PySem.W.takerIn K C f=some none:=by
 unfold PySem.W.takerIn;rw[show PySem.W.findIn K (.ref C) f=some none from n];rfl
structure Con(K:PySem.W.Frag)(C:Addr)(f:Str)(v:V)(u:Value):Prop where
 at_:PySem.W.findIn K (.ref C) f=some (some u)
 rel:RelV v u
 get:PySem.W.specialIn K u "__get__"=some none
 cp:PySem.W.copiedNames.contains f=false
structure Meth(K:PySem.W.Frag)(C:Addr)(m:Str)(f:Addr):Prop where
 at_:PySem.W.findIn K (.ref C) m=some (some (.ref f))
 fn:PySem.W.isFn K (.ref f)=true
 kp:PySem.W.keepIn K (.ref f)=true
section
variable{X:Cx}{pins:List (Addr×Obj)}{σ:St}{H:Hp}{s:c9}{a C dx:Addr}{fs:List (Str×V)}{f:Str}{v:V}{A:dc}{E:Value->c9->Prop}
theorem DP{b:Bool}{Q:Value->c9->Prop}(I:Inv X pins σ H s)(e:H a=some (.ins C dx fs))(c:Cls X.K C)(n:jc X.K C f)(l:fs.lookup f=some v)
 (h:∀u s',Inv X pins σ H s'->RelV v u->Q u s'):wpAny (model X.prog X.w) A (getAttr (.ref a) f b) Q E s:=by
 obtain⟨mA,O,r,_,_,_⟩:=uX I.hok e;obtain⟨u,Y,Z⟩:=nP.some_of (v:=v) (o:=mA f) (by rw[<-l];exact r f);exact get_map I.kIn O (c.get f) c.hd n Y (xY Z) (h u _ (I.tok _) Z)
theorem qm{m:Str}{g:Addr}{pl:Sem Bool}{Q:Value×List Value->c9->Prop}(I:Inv X pins σ H s)(e:H a=some (.ins C dx fs))(c:Cls X.K C)(k:Meth X.K C m g)(l:fs.lookup m=none)
 (h:Q (.ref g,[.ref a]) s):wpAny (model X.prog X.w) A (getMethod (.ref a) m pl) Q E s:=by
 obtain⟨mA,O,r,_,_,_⟩:=uX I.hok e;have hn:mA m=none:=nP.none_of (by rw[<-l];exact r m);exact Ko I.kIn O (c.get m) k.at_ k.fn hn h
theorem DQ{y:V}{u:Value}{Q:Unit->c9->Prop}(I:Inv X pins σ H s)(e:H a=some (.ins C dx fs))(c:Cls X.K C)(n:jc X.K C f)(hl:fs.length<1000)(J:RelV y u)
 (h:∀s',Inv X pins σ (upd H a (.ins C dx (oJ f y fs))) s'->Q () s'):wpAny (model X.prog X.w) A (setAttr (.ref a) f u) Q E s:=by
 obtain⟨mA,O,r,wi,_,Y⟩:=uX I.hok e;have U:(fs.map (·.1)).length<=sizeLine:=by rw[ak,sizeLine_eq];omega
 refine Qk I.kIn O c.sa c.po n.taker c.hd wi U λh' Z W=>h _ ?_
 have hd:∃o,h'.get? dx=some o:=let⟨o,_,_,S,_⟩:=Z.ns;⟨o,S⟩;refine I.write (x:=a) (e:=dx) (by rw[e];exact dE) (.inr Y) (λb q hb z=>(W.2 b hb).trans z) hd ?_;refine⟨by rw[bf O.ne];exact Y,?_,O.ne,Z.obj,_,Z.ns,λg=>?_,λg T=>?_⟩
 ·have:=uy f y fs;omega
 ·show nP ((oJ f y fs).lookup g) (if g=f then some u else mA g);rw[ux];by_cases q:g=f
  ·rw[if_pos q,if_pos q];exact J
  ·rw[if_neg q,if_neg q];exact r g
 ·by_cases q:g=f
  ·rw[q];exact(tK f y fs).1
  ·refine(tK f y fs).2 g (wi g λz=>T ?_);show(if g=f then some u else mA g)=none;rw[if_neg q];exact z
theorem Inv.made(I:Inv X pins σ H s):Inv X pins σ (upd (upd H s.heap.objs.size (.own (s.heap.objs.size+1))) (s.heap.objs.size+1) (.ins C s.heap.objs.size []))
 {s with heap:=(s.heap.push PySem.W.emptyDict).push (PySem.W.instObj C s.heap.objs.size)}:=by
 have Z:(s.heap.push PySem.W.emptyDict).get? s.heap.objs.size=some PySem.W.emptyDict:=ah s.heap rfl;have T:((s.heap.push PySem.W.emptyDict).push (PySem.W.instObj C s.heap.objs.size)).get? (s.heap.objs.size+1)=some (PySem.W.instObj C s.heap.objs.size):=by
  have:=ah (s.heap.push PySem.W.emptyDict) (o:=PySem.W.instObj C s.heap.objs.size) rfl;rwa[cv]at this
 have U:(s.heap.push PySem.W.emptyDict).Ns s.heap.objs.size (λ_=>none):=⟨PySem.W.emptyDict,#[],_,Z,rfl,(λe V=>absurd V (by simp)),λ_=>rfl⟩;have S:=I.laid (a:=s.heap.objs.size) (o:=.own (s.heap.objs.size+1)) (h':=s.heap.push PySem.W.emptyDict) (t':=s.toks) (λb u q=>ae _ q) (aP _) ⟨_,Z⟩;refine S.laid (a:=s.heap.objs.size+1) (o:=.ins C s.heap.objs.size []) (t':=s.toks) (λb u q=>ae _ q) (rC (cv _ _)) ?_;have ne:s.heap.objs.size≠s.heap.objs.size+1:=bB (eX _);refine⟨by rw[bf ne,bG],fL _,ne,T,λ_=>none,(cK U).at λo q=>ae _ q,λ_=>dE,λy Y=>absurd rfl Y⟩
theorem Gk{prog:c_}{w:de}{env:Env}{e:Expr}{f:Str}{pos:Pos}{s:c9}{Q:Value->c9->Prop}(hb:attributeBase e f env (eval e env)=eval e env)
 (h:wpAny (model prog w) A (eval e env) (λo q=>wpAny (model prog w) A (getAttr o f true) Q E q) E s):wpAny (model prog w) A (eval (.Attribute e f pos) env) Q E s:=
 Attribute_any_ h (by rw[arm_eval_Attribute,hb])
end
def ab1(K:PySem.W.Frag)(ta:TE)(f:Str):TE:=λσ H Q=>ta σ H λx H1=>∃a C dx fs v,x = .ref a/\H1 a=some (.ins C dx fs)/\Cls K C/\jc K C f/\fs.lookup f=some v/\Q v H1
def ab2(K:PySem.W.Frag)(ta tv:TE)(f:Str):TS:=λD σ H=>tv σ H λy H1=>ta σ H1 λx H2=>∃a C dx fs,x = .ref a/\H2 a=some (.ins C dx fs)/\Cls K C/\jc K C f/\fs.length<1000 /\
 D.nx σ (upd H2 a (.ins C dx (oJ f y fs)))
section
variable{X:Cx}{o e value:Expr}{f:Str}{pos pos' tpos:Pos}{ta tv:TE}
theorem yO(J:PE X e ta)(hb:attributeBase e f X.env (eval e X.env)=eval e X.env):PE X (.Attribute e f pos) (ab1 X.K ta f):=by
 intro pins s σ H Q I h;refine Gk hb (thn (J pins s σ H _ I h) λu s1 ⟨x,H1,V,Z,a,C,dx,fs,v,ex,ea,c,n,l,q⟩=>?_);subst ex;obtain rfl:u=db a:=Z;exact DP V ea c n l λU s2 W Y=>⟨v,H1,W,Y,q⟩
theorem Vh(ha:PE X o ta)(J:PE X value tv)(O:swapsWith value (some (.Attribute o f pos')) pos.line X.env=pure false):PS X (.Assign [.Attribute o f pos'] value pos) (ab2 X.K ta tv f):=by
 intro pins s σ H D I h;refine cr (thn (J pins s σ H _ I h) λu s1 ⟨y,H1,T,Z,q⟩=>thn (ha pins s1 σ H1 _ T q) λW s2 ⟨x,H2,U,Y,a,C,dx,fs,ex,ea,c,n,l,q2⟩=>?_) O;subst ex;obtain rfl:W=db a:=Y;exact DQ U ea c n l Z λS V=>⟨σ,_,V,q2⟩
end
section
variable{X:Cx}{pins:List (Addr×Obj)}{σ:St}{H:Hp}{s:c9}{A:dc}{E:Value->c9->Prop}{Q:Value->c9->Prop}{c:Value}{b:Bool}
inductive TyOf(K:PySem.W.Frag)(H:Hp):V->Value->Prop where
 |non:TyOf K H .non (.type "NoneType")
 |bl (x:Bool):TyOf K H (.bl x) (.type "bool")
 |int (i:Int):TyOf K H (.int i) (.type "int")
 |str (x:Str):TyOf K H (.str x) (.type "str")
 |flt (x:UInt64):TyOf K H (.flt x) (.type "float")
 |lst {a:Addr} {xs:List V} (e:H a=some (.lst xs)):TyOf K H (.ref a) (.type "list")
 |frz {a:Addr} {o:Obj} {xs:List V} (e:H a=some (.frz o (.lst xs))):TyOf K H (.ref a) (.type "list")
 |tup {a:Addr} {xs:List V} (e:H a=some (.tup xs)):TyOf K H (.ref a) (.type "tuple")
 |dK {a:Addr} {kvs:List (Key×V)} (e:H a=some (.dK kvs)):TyOf K H (.ref a) (.type "dict")
 |dT {a:Addr} {kvs:List (List Key×V)} (e:H a=some (.dT kvs)):TyOf K H (.ref a) (.type "dict")
 |ins {a C dx:Addr} {fs:List (Str×V)} (e:H a=some (.ins C dx fs)) (cl:Cls K C) (ha:PySem.W.findIn K (.ref C) "__class__"=some (some (.builtin "object.__class__")))
  (hn:PySem.W.specialIn K (.builtin "object.__class__") "__get__"=some (some (.builtin "getset_descriptor.__get__"))) (htk:PySem.W.takesIn K (.builtin "object.__class__")=some true)
  (hm:PySem.W.mroIn K C (.type "object")=some true):TyOf K H (.ref a) (.ref C)
theorem xZ{x:V}{u t:Value}(I:Inv X pins σ H s)(U:RelV x u)(ty:TyOf X.K H x t)(e:PySem.W.kitOne X.K t c=some b)(h:∀tk,Q (.bool b) {s with toks:=tk}):
 wpAny (model X.prog X.w) A (call (.builtin "isinstance") [u,c]) Q E s:=by
 cases ty with
 |non=>cases(show u=dm from U);exact PySem.W.kia_one PySem.W.kitx_none I.kIn dE e (λz=>nomatch z) h
 |bl y=>cases(show u=ei y from U);exact PySem.W.kia_one PySem.W.kitx_bool I.kIn dE e (λz=>nomatch z) h
 |int i=>obtain⟨t,q⟩:=(show ∃t,u=ec i t from U);cases q;exact PySem.W.kia_one PySem.W.kitx_int I.kIn dE e (λz=>nomatch z) h
 |str y=>obtain⟨t,q⟩:=(show ∃t,u=eC y t from U);cases q;exact PySem.W.kia_one PySem.W.kitx_str I.kIn dE e (λz=>nomatch z) h
 |flt y=>obtain⟨t,q⟩:=(show ∃t,u=Value.float y t from U);cases q;exact PySem.W.kia_one PySem.W.kitx_float I.kIn dE e (λz=>nomatch z) h
 | @lst a xs ea=>
  cases(show u=db a from U);obtain⟨_,_,n,_,h1⟩:=(show fJ X.prog X.w H s.heap a (.lst xs)from I.hok a _ ea);exact PySem.W.kia_one PySem.W.kitx_list I.kIn ⟨_,h1,rfl⟩ e (λz=>nomatch z) h
 | @frz a Z xs ea=>
  cases(show u=db a from U);obtain⟨_,_,_,n,_,h1⟩:=(show fJ X.prog X.w H s.heap a (.frz Z (.lst xs))from I.hok a _ ea);exact PySem.W.kia_one PySem.W.kitx_list I.kIn ⟨_,h1,rfl⟩ e (λz=>nomatch z) h
 | @tup a xs ea=>
  cases(show u=db a from U);obtain⟨_,_,_,p⟩:=(show fJ X.prog X.w H s.heap a (.tup xs)from I.hok a _ ea);obtain⟨o,h1,h2,_⟩:=p;exact PySem.W.kia_one PySem.W.kitx_tuple I.kIn ⟨o,h1,h2⟩ e (λz=>nomatch z) h
 | @dK a kvs ea=>
  cases(show u=db a from U);obtain⟨_,_,vs,_,p⟩:=(show fJ X.prog X.w H s.heap a (.dK kvs)from I.hok a _ ea);obtain⟨o,es,Y,h1,h2,_⟩:=p;exact PySem.W.kia_one PySem.W.kitx_dict I.kIn ⟨o,h1,h2.1⟩ e (λz=>nomatch z) h
 | @dT a kvs ea=>
  cases(show u=db a from U);obtain⟨_,_,xs,_,o,es,Y,h1,h2,_⟩:=(show fJ X.prog X.w H s.heap a (.dT kvs)from I.hok a _ ea);exact PySem.W.kia_one PySem.W.kitx_dict I.kIn ⟨o,h1,h2.1⟩ e (λz=>nomatch z) h
 | @ins a C dx fs ea cl ha hn htk hm=>
  cases(show u=db a from U);obtain⟨mA,O,_⟩:=uX I.hok ea;obtain⟨od,J,_⟩:=O.look;exact PySem.W.kia_one (PySem.W.kitx_own (cl.get _) cl.hd ha hn htk hm) I.kIn J e (λz=>nomatch z) h
end
end L2
namespace L2
structure Room(k:Nat)(A:dc):Prop where
 hd:A.handled=none
 dp:A.depth+3*k+5<recursionLimit
 un:A.units+16*k+200<cLine
theorem Room.mono{j k:Nat}{A:dc}(r:Room k A)(h:j<=k):Room j A:=⟨r.hd,by have:=r.dp;omega,by have:=r.un;omega⟩
theorem Room.deeper{k:Nat}{A:dc}(r:Room (k+1) A)(env:Env):Room k (A.deeper env):=
 ⟨r.hd,by have:=r.dp;show A.depth+1+3*k+5<_;omega,by have:=r.un;show A.units+3+16*k+200<_;omega⟩
theorem DR{A:dc}{C:Addr}{us:List Value}{kw:List (Str×Value)}:(A.under (.builtin "type.__call__" ⟨.ref C::us,kw⟩)).depth=A.depth+1:=by
 first|rfl|simp[Around.under,Code.weight,Code.isCreation,Code.isGuard,Code.isCaller,Code.frames,Code.isFrame,guardIds]
theorem DX{A:dc}{C:Addr}{us:List Value}{kw:List (Str×Value)}:(A.under (.builtin "type.__call__" ⟨.ref C::us,kw⟩)).units=A.units+1:=by
 first|rfl|simp[Around.under,Code.cUnits,Code.frames,Code.isFrame]
theorem Room.make{k:Nat}{A:dc}(r:Room (k+1) A)(C:Addr)(us:List Value)(kw:List (Str×Value)):Room k (A.under (.builtin "type.__call__" ⟨.ref C::us,kw⟩)):=
 ⟨r.hd,by have:=r.dp;rw[DR];omega,by have:=r.un;rw[DX];omega⟩
theorem Room.depth{k:Nat}{A:dc}(r:Room k A):A.depth<recursionLimit:=by have:=r.dp;omega
theorem Room.units{k:Nat}{A:dc}(r:Room k A):A.units+64<cLine:=by have:=r.un;omega
def Ql:TA:=λ_ H Q=>Q [] H
def Kq(ta:TE)(q:TA):TA:=λσ H Q=>ta σ H λx H1=>q σ H1 λxs H2=>Q (x::xs) H2
section
variable{X:Cx}{e:Expr}{es:List Expr}{te:TE}{t:TA}{pos:Pos}
theorem jF:PA X [] Ql:=λ_ _ _ _ H Q I h=>bp ⟨[],H,I,.nil,h⟩
theorem f9(ha:PE X e te)(J:PA X es t)(q:starEach (e::es) X.env=(false,eval e X.env)::starEach es X.env:=by rfl):PA X (e::es) (Kq te t):=by
 intro pos pins s σ H Q I h;rw[q];refine be (thn (ha pins s σ H _ I h) λu s1 ⟨x,H1,Y,r1,q1⟩=>?_);exact thn (J pos pins s1 σ H1 _ Y q1) λus s2 ⟨xs,H2,Z,r2,q2⟩=>⟨x::xs,H2,Z,.cons r1 r2,q2⟩
def ab3(t:TA):TE:=λσ H Q=>t σ H λxs H1=>xs.length<=sizeLine/\∀p,H1 p=none->Q (.ref p) (upd H1 p (.tup xs))
def ab4(t:TA):TE:=λσ H Q=>t σ H λxs H1=>xs.length<=sizeLine/\∀p,H1 p=none->Q (.ref p) (upd H1 p (.lst xs))
theorem Vi{x1}(h:PA X es t):PE X (.Tuple es x1 pos) (ab3 t):=by
 intro pins s σ H Q I Y;refine wpAny_Tuple_spliced (thn (h pos pins s σ H _ I Y) λus s1 ⟨xs,H1,Z,r,z,q⟩=>⟨by rwa[<-r.length],?_⟩);have W:=Z.hok.fresh (aP _);refine⟨.ref s1.heap.objs.size,upd H1 s1.heap.objs.size (.tup xs),Z.laid (t':=s1.toks) (λb u e=>ae _ e) (aP _) ?_,rfl,q _ W⟩;exact⟨z,us,r,⟨_,ah _ rfl,rfl,_,rfl⟩⟩
theorem DY(h:PA X es t):PE X (.List es pos) (ab4 t):=by
 intro pins s σ H Q I Y;refine wpAny_List_spliced (thn (h pos pins s σ H _ I Y) λus s1 ⟨xs,H1,Z,r,z,q⟩=>⟨by rwa[<-r.length],?_⟩);have W:=Z.hok.fresh (aP _);refine⟨.ref s1.heap.objs.size,upd H1 s1.heap.objs.size (.lst xs),Z.laid (t':=s1.toks) (λb u e=>ae _ e) (aP _) ?_,rfl,q _ W⟩;exact⟨z,us,0,r,ah _ rfl⟩
end
abbrev Sp:=List V->Hp->VK->XK->Prop
abbrev CXT:=List Env->Hp->c9->XK->Value->c9->Prop
structure Env0(P:c_)(w:de)(K:PySem.W.Frag)(mg:Str->Option Value)(base:dl)(A:dc)(outer:List Env)(s:c9)(H:Hp):Prop where
 frames:A.frames=some outer
 mod:Mod K mg base
 bs:∀b o,base.get? b=some o->s.heap.get? b=some o/\H b=none
 bsz:base.objs.size<=s.heap.objs.size
 funs:s.heap.FunFrames base outer
 frf:∀b∈frs outer,H b=none
 hok:HOk P w H s.heap
 bare:eK s.gens
def CE(outer:List Env)(P:c_)(w:de)(H:Hp)(s:c9)(Q:VK)(u:Value)(s':c9):Prop:=
 ∃v H',s'.os=s.os/\eK s'.gens/\Un (frs outer) [] H H' s.heap s'.heap/\HOk P w H' s'.heap/\RelV v u/\Q v H'
def CR(CX:CXT)(outer:List Env)(P:c_)(w:de)(H:Hp)(s:c9)(Q:VK)(E:XK)(r:Result)(s':c9):Prop:=
 match r with
 | .ok (.ret u)=>CE outer P w H s Q u s'
 | .ok _=>False
 | .error e=>CX outer H s E e s'
structure FnOk(P:c_)(w:de)(K:PySem.W.Frag)(mg:Str->Option Value)(base:dl)(CX:CXT)(k:Nat)(f:Addr)(fd:dk)(ps:List Str)(sp:Sp):Prop where
 len:∀vs H Q E,sp vs H Q E->vs.length=ps.length
 run:∀(A:dc)(outer:List Env)(s:c9)(H:Hp)(args:Args)(us:List Value)(vs:List V)(Q:VK)(E:XK),Room k A->Env0 P w K mg base A outer s H->BindsTo s fd args (ps.zip us)->Vals vs us->sp vs H Q E ->
  codeAny (model P w) A (.call (.ref f) args) (CR CX outer P w H s Q E) s
theorem FnOk.mono{P:c_}{w:de}{K:PySem.W.Frag}{mg:Str->Option Value}{base:dl}{CX:CXT}{j k:Nat}{f:Addr}{fd:dk}{ps:List Str}{sp:Sp}(F:FnOk P w K mg base CX j f fd ps sp)(h:j<=k):
 FnOk P w K mg base CX k f fd ps sp:=⟨F.len,λA outer s H args us vs Q E Z=>F.run A outer s H args us vs Q E (Z.mono h)⟩
theorem FnOk.imp{P:c_}{w:de}{K:PySem.W.Frag}{mg:Str->Option Value}{base:dl}{CX:CXT}{k:Nat}{f:Addr}{fd:dk}{ps:List Str}{sp J:Sp}(F:FnOk P w K mg base CX k f fd ps sp)
 (h:∀vs H Q E,J vs H Q E->sp vs H Q E):FnOk P w K mg base CX k f fd ps J:=
 ⟨λvs H Q E q=>F.len vs H Q E (h _ _ _ _ q),λA outer s H args us vs Q E X V hb Z Y=>F.run A outer s H args us vs Q E X V hb Z (h _ _ _ _ Y)⟩
theorem Env0.make{P:c_}{w:de}{K:PySem.W.Frag}{mg:Str->Option Value}{base:dl}{A:dc}{outer:List Env}{s:c9}{H:Hp}(e:Env0 P w K mg base A outer s H)(C:Addr)(us:List Value)(kw:List (Str×Value)):
 Env0 P w K mg base (A.under (.builtin "type.__call__" ⟨.ref C::us,kw⟩)) outer s H:=⟨by first|exact e.frames|(simpa[Around.under,Code.envs,Code.isFrame,pushEnvs]using e.frames),e.mod,e.bs,e.bsz,e.funs,e.frf,e.hok,e.bare⟩
section
variable{X:Cx}{pins:List (Addr×Obj)}{σ:St}{H:Hp}{s s':c9}
theorem Inv.env0(I:Inv X pins σ H s):Env0 X.prog X.w X.K X.mg X.base X.A X.stack s H:=
 ⟨I.ok.frames,I.ok.mod,I.bs,aZ I.ok.bsz I.sz,I.stack,I.stkFree,I.hok,I.bare⟩
theorem Inv.after{Q:VK}{u:Value}(I:Inv X pins σ H s)(h:CE X.stack X.prog X.w H s Q u s'):EP X pins σ Q u s':=by
 obtain⟨v,H',os,bare,un,hok,r,q⟩:=h;obtain⟨Y,g,d,t,Z⟩:=s';obtain rfl:Z=s.os:=os;exact⟨v,H',I.call (h':=Y) (g':=g) (d':=d) (t':=t) (ch:=[]) un hok bare (λb z=>absurd z (by simp)),r,q⟩
end
def T4(sp:Sp)(dvs:List V)(E:XK)(t:TA):TE:=λσ H Q=>t σ H λvs H1=>sp (vs++dvs) H1 Q E
def T5(C:Addr)(m:Str)(sp:Sp)(dvs:List V)(E:XK)(ta:TE)(t:TA):TE:=λσ H Q=>ta σ H λx H1=>∃a dx fs,x = .ref a/\H1 a=some (.ins C dx fs)/\fs.lookup m=none /\
 t σ H1 λvs H2=>sp (x::(vs++dvs)) H2 Q E
def Xz(C:Addr)(sp:Sp)(dvs:List V)(E:XK)(t:TA):TE:=λσ H Q=>t σ H λvs H1=>∀x dx,H1 x=none->H1 dx=none->dx≠x ->
 sp (.ref x::(vs++dvs)) (upd (upd H1 dx (.own x)) x (.ins C dx [])) (λv H2=>v = .non/\Q (.ref x) H2) E
def Binds(K:PySem.W.Frag)(fd:dk)(ps:List Str)(ds:List Value):Prop:=
 ∀(s:c9)(us:List Value),K.In s.heap->(us++ds).length=ps.length->BindsTo s fd ⟨us,[]⟩ (ps.zip (us++ds))
theorem Binds.all{K:PySem.W.Frag}{fd:dk}{ps:List Str}(h:∀us:List Value,us.length=ps.length->bindArgs fd ⟨us,[]⟩=pure (ps.zip us)):Binds K fd ps []:=λs us _ Z=>by
 rw[cR]at Z ⊢;exact .of_eq (h us Z)
def Passes(CX:CXT)(X:Cx)(E:XK):Prop:=∀(pins:List (Addr×Obj))(σ:St)(H:Hp)(s:c9)(e:Value)(s':c9),Inv X pins σ H s->CX X.stack H s E e s'->X.xe e s'
section
variable{X:Cx}{CX:CXT}{k:Nat}{f C:Addr}{fd:dk}{ps:List Str}{sp:Sp}{dvs:List V}{ds:List Value}{E:XK}{x m:Str}{p pos apos:Pos}{e o:Expr}{es:List Expr}{ta:TE}{t:TA}
theorem D_{pins:List (Addr×Obj)}{σ:St}{H:Hp}{s:c9}{Q:VK}{us:List Value}{vs:List V}(F:FnOk X.prog X.w X.K X.mg X.base CX k f fd ps sp)(q:Room k X.A)(hb:Binds X.K fd ps ds)(hd:Vals dvs ds)(hx:Passes CX X E)
 (I:Inv X pins σ H s) (r:Vals vs us) (h:sp (vs++dvs) H Q E):wpAny (model X.prog X.w) X.A (call (.ref f) us) (EP X pins σ Q) X.xe s:=by
 have r2:=r.append hd;have Y:(us++ds).length=ps.length:=by rw[<-r2.length];exact F.len _ _ _ _ h
 refine cm (bX (F.run X.A X.stack s H ⟨us,[]⟩ (us++ds) (vs++dvs) Q E q I.env0 (hb s us I.kIn Y) r2 h) λr s' Z=>?_)
 cases r with
 |error e=>exact hx pins σ H s e s' I Z
 |ok fl=>
  cases fl with
  |ret u=>exact I.after Z
  |next=>exact d8 Z
  |brk=>exact d8 Z
  |cont=>exact d8 Z
theorem Qm(F:FnOk X.prog X.w X.K X.mg X.base CX k f fd ps sp)(U:Room k X.A)(hg:Gl X x)(hm:X.mg x=some (.ref f))(Y:PySem.W.keepIn X.K (.ref f)=true)(hb:Binds X.K fd ps ds)(hd:Vals dvs ds)(hx:Passes CX X E)
 (ha:PA X (e::es) t) (O:(x==("__debug__":Str))=false:=by decide) (he:starEach (e::es) X.env=(false,eval e X.env)::starEach es X.env:=by rfl) (J:(backTo pos (starEach es X.env)).any (·.1)=false:=by rfl) :
 PE X (.Call (.Name x p) (e::es) [] pos) (T4 sp dvs E t):=by
 intro pins s σ H Q I h;refine av (rH I hg hm ?_ O);refine PySem.W.callWith_K (h₀:=X.base) I.ok.mod.kin Y (thn (ha pos pins s σ H _ I h) λus s1 ⟨vs,H1,Z,r,q⟩=>⟨Z.kIn,?_⟩) he J;exact D_ F U hb hd hx Z r q
theorem Gm{pl:Sem Bool}(he:PE X o ta)(c:Cls X.K C)(hm:Meth X.K C m f)(F:FnOk X.prog X.w X.K X.mg X.base CX k f fd ps sp)(hr:Room k X.A)(hb:Binds X.K fd ps ds)(hd:Vals dvs ds)(hx:Passes CX X E)(ha:PA X (e::es) t)
 (J:starEach (e::es) X.env=(false,eval e X.env)::starEach es X.env:=by rfl) (O:(backTo pos (starEach es X.env)).any (·.1)=false:=by rfl)
 (ht:eval (.Call (.Attribute o m apos) (e::es) [] pos) X.env=(do
  let U <-eval o X.env
  standAt apos.atName
  let(f,fi) <-holding [U] (getMethod U m pl)
  callWith pos f fi (backTo pos (starEach (e::es) X.env)) (backToKw pos (keywordEach [] X.env))):=by rfl) :
 PE X (.Call (.Attribute o m apos) (e::es) [] pos) (T5 C m sp dvs E ta t):=by
 intro pins s σ H Q I h;refine PySem.W.methodCall_KW (pl:=pl) (thn (he pins s σ H _ I h) λu s1 ⟨x,H1,Y,V,a,dx,fs,ex,ea,l,q⟩=>?_) ht;subst ex;obtain rfl:u=db a:=V;refine qm Y ea c hm l ?_;refine PySem.W.callWith_K (first:=[.ref a]) (h₀:=X.base) I.ok.mod.kin hm.kp (thn (ha pos pins s1 σ H1 _ Y q) λus s2 ⟨vs,H2,Z,r,q2⟩=>⟨Z.kIn,?_⟩) J O;exact D_ (us:=.ref a::us) (vs:=.ref a::vs) F hr hb hd hx Z (.cons rfl r) q2
theorem Kr{pl:Sem Bool}(he:PE X o ta)(c:Cls X.K C)(hm:Meth X.K C m f)(F:FnOk X.prog X.w X.K X.mg X.base CX k f fd ps sp)(U:Room k X.A)(hb:Binds X.K fd ps ds)(hd:Vals dvs ds)(hx:Passes CX X E)
 (O:eval (.Call (.Attribute o m apos) [] [] pos) X.env=(do
  let J <-eval o X.env
  standAt apos.atName
  let(f,fi) <-holding [J] (getMethod J m pl)
  callWith pos f fi (backTo pos (starEach [] X.env)) (backToKw pos (keywordEach [] X.env))):=by rfl) :
 PE X (.Call (.Attribute o m apos) [] [] pos) (T5 C m sp dvs E ta Ql):=by
 intro pins s σ H Q I h;refine PySem.W.methodCall_KW (pl:=pl) (thn (he pins s σ H _ I h) λu s1 ⟨x,H1,Z,Y,a,dx,fs,ex,ea,l,q⟩=>?_) O;subst ex;obtain rfl:u=db a:=Y;refine qm Z ea c hm l ?_;exact PySem.W.callWith_K0 (first:=[.ref a]) Z.kIn hm.kp (D_ (us:=[.ref a]) (vs:=[.ref a]) F U hb hd hx Z (.cons rfl .nil) q)
structure Mk(K:PySem.W.Frag)(C f:Addr):Prop where
 makes:PySem.W.makesIn K C=true
 init:PySem.W.findIn K (.ref C) "__init__"=some (some (.ref f))
 fn:PySem.W.isFn K (.ref f)=true
 kp:PySem.W.keepIn K (.ref C)=true
theorem Ks{pins:List (Addr×Obj)}{σ:St}{H:Hp}{s:c9}{Q:VK}{us:List Value}{vs:List V}(M:Mk X.K C f)(F:FnOk X.prog X.w X.K X.mg X.base CX k f fd ps sp)(q:Room (k+1) X.A)(hb:Binds X.K fd ps ds)(hd:Vals dvs ds)
 (hx:Passes CX X E) (I:Inv X pins σ H s) (r:Vals vs us)
 (h:∀x dx,H x=none->H dx=none->dx≠x->sp (.ref x::(vs++dvs)) (upd (upd H dx (.own x)) x (.ins C dx [])) (λv H2=>v = .non/\Q (.ref x) H2) E) :
 wpAny (model X.prog X.w) X.A (call (.ref C) us) (EP X pins σ Q) X.xe s:=by
 have W:=h (s.heap.objs.size+1) s.heap.objs.size (I.hok.fresh (iD _)) (I.hok.fresh (aP _)) (bB (eX _));have Y:=Inv.made (C:=C) I;have r2:Vals (V.ref (s.heap.objs.size+1)::(vs++dvs)) (db (s.heap.objs.size+1)::(us++ds)):=.cons rfl (r.append hd);have T:(db (s.heap.objs.size+1)::us++ds).length=ps.length:=by
  have e:=r2.length;rw[F.len _ _ _ _ W]at e;exact e.symm
 refine cm (Kp (f:=f) I.kIn M.makes M.init (beq_iff_eq.mp M.fn) (bX (F.run _ X.stack _ _ ⟨db (s.heap.objs.size+1)::us,[]⟩ (db (s.heap.objs.size+1)::(us++ds)) _ _ E (q.make C us [])
  (Y.env0.make C us []) (hb _ (db (s.heap.objs.size+1)::us) Y.kIn T) r2 W) λr s' Z=>?_))
 cases r with
 |error e=>exact hx pins σ _ _ e s' Y Z
 |ok fl=>
  cases fl with
  |ret u=>
   obtain⟨v,H',R,U,S,q3⟩:=Y.after Z;subst S;exact⟨U,⟨V.ref (s.heap.objs.size+1),H',R,rfl,q3⟩⟩
  |next=>exact d8 Z
  |brk=>exact d8 Z
  |cont=>exact d8 Z
theorem Qn(M:Mk X.K C f)(F:FnOk X.prog X.w X.K X.mg X.base CX k f fd ps sp)(U:Room (k+1) X.A)(Y:Gl X x)(hm:X.mg x=some (.ref C))(hb:Binds X.K fd ps ds)(hd:Vals dvs ds)(hx:Passes CX X E)
 (ha:PA X (e::es) t) (O:(x==("__debug__":Str))=false:=by decide) (he:starEach (e::es) X.env=(false,eval e X.env)::starEach es X.env:=by rfl) (J:(backTo pos (starEach es X.env)).any (·.1)=false:=by rfl) :
 PE X (.Call (.Name x p) (e::es) [] pos) (Xz C sp dvs E t):=by
 intro pins s σ H Q I h;refine av (rH I Y hm ?_ O);refine PySem.W.callWith_K (h₀:=X.base) I.ok.mod.kin M.kp (thn (ha pos pins s σ H _ I h) λus s1 ⟨vs,H1,Z,r,q⟩=>⟨Z.kIn,?_⟩) he J;exact Ks M F U hb hd hx Z r q
end
def PK(X:Cx)(kws:List eD)(t:TA):Prop:=
 ∀(pos:Pos)(pins:List (Addr×Obj))(s:c9)(σ:St)(H:Hp)(Q:List V->Hp->Prop),Inv X pins σ H s->t σ H Q->wpAny (model X.prog X.w) X.A (evalAll ((backToKw pos (keywordEach kws X.env)).map (·.2))) (AP X pins σ Q) X.xe s
section
variable{X:Cx}{CX:CXT}{k:Nat}{f C:Addr}{fd:dk}{ps ks:List Str}{sp:Sp}{E:XK}{x m:Str}{p pos apos kpos:Pos}{e o:Expr}{es:List Expr}{kws:List eD}{te ta:TE}{t tk:TA}{nm:Option Str}
theorem Ku:PK X [] Ql:=λ_ _ _ _ H Q I h=>wpAny_evalAll_nil ⟨[],H,I,.nil,h⟩
theorem Gn(ha:PE X e te)(q:PK X kws t):PK X (⟨nm,e,kpos⟩::kws) (Kq te t):=by
 intro pos pins s σ H Q I h;show wpAny _ _ (evalAll ((do let v <-eval e X.env;standAt pos;pure v)::(backToKw pos (keywordEach kws X.env)).map (·.2))) _ _ s;refine wpAny_evalAll_cons (aa (thn (ha pins s σ H _ I h) λu s1 ⟨x,H1,Y,r1,q1⟩=>aa (ce (ag ?_))));exact thn (q pos pins s1 σ H1 _ Y q1) λus s2 ⟨xs,H2,Z,r2,q2⟩=>⟨x::xs,H2,Z,.cons r1 r2,q2⟩
structure KBinds(K:PySem.W.Frag)(fd:dk)(ps ks:List Str)(g:List Value->List Value->List Value)(gV:List V->List V->List V):Prop where
 to:∀(s:c9)(us ws:List Value),K.In s.heap->(g us ws).length=ps.length->BindsTo s fd ⟨us,ks.zip ws⟩ (ps.zip (g us ws))
 rel:∀{vs:List V}{us:List Value}{zs:List V}{ws:List Value},Vals vs us->Vals zs ws->Vals (gV vs zs) (g us ws)
variable{g:List Value->List Value->List Value}{gV:List V->List V->List V}
end
structure FnScope(N P:List Str)(sc:er):Prop where
 kind:sc.kind = .function
 co:sc.isCoroutine=false
 gen:sc.isGenerator=false
 nd:N.Nodup
 pre:N.take P.length=P
 par:∀x∈P,sc.names.lookup x=some .local\/sc.names.lookup x=some .cell
 nofree:∀y∈sc.names,y.2 ≠ .free
theorem yc{kindOf:Str->Option NameKind}{x:Str}:∀{binds:List (Str×Value)}{m:Str->Option Value},(∀v,(x,v)∉binds)->bindL kindOf binds m x=m x
 |[],_,_=>rfl
 | (n,v)::r,m,h=>by
  unfold bindL;rw[yc λw hw=>h w (au _ hw)];split
  ·have:x≠n:=by rintro rfl;exact h v aA
   simp[this]
  ·rfl
theorem yd{kindOf:Str->Option NameKind}{x:Str}:∀{binds:List (Str×Value)}{m:Str->Option Value},(∀v,(x,v)∉binds)->bindC kindOf binds m x=m x
 |[],_,_=>rfl
 | (n,v)::r,m,h=>by
  unfold bindC;rw[yd λw hw=>h w (au _ hw)];split
  ·rfl
  ·have:x≠n:=by rintro rfl;exact h v aA
   simp[this]
theorem pI{kindOf:Str->Option NameKind}{x:Str}{v:Value}:∀{P:List Str}{vs:List Value}{i:Nat}{m:Str->Option Value},P.Nodup->P[i]? = some x->vs[i]? = some v->kindOf x=some .local ->
 bindL kindOf (P.zip vs) m x=some v
 |[],_,_,_,_,h,_,_=>by simp at h
 |_::_,[],_,_,_,_,h,_=>by simp at h
 |p::P,w::vs,0,m,nd,h1,h2,Z=>by
  simp at h1 h2;subst h1;subst h2;show bindL kindOf ((p,w)::P.zip vs) m p=_;unfold bindL;rw[yc λv Y=>(bW.mp nd).1 (kI Y).1,if_pos Z];simp
 |p::P,w::vs,i+1,m,nd,h1,h2,Z=>by
  show bindL kindOf ((p,w)::P.zip vs) m x=_;unfold bindL;exact pI (i:=i) (bW.mp nd).2 (by simpa using h1) (by simpa using h2) Z
theorem yg{kindOf:Str->Option NameKind}{x:Str}{v:Value}:∀{P:List Str}{vs:List Value}{i:Nat}{m:Str->Option Value},P.Nodup->P[i]? = some x->vs[i]? = some v->kindOf x≠some .local ->
 bindC kindOf (P.zip vs) m x=some v
 |[],_,_,_,_,h,_,_=>by simp at h
 |_::_,[],_,_,_,_,h,_=>by simp at h
 |p::P,w::vs,0,m,nd,h1,h2,Z=>by
  simp at h1 h2;subst h1;subst h2;show bindC kindOf ((p,w)::P.zip vs) m p=_;unfold bindC;rw[yd λv Y=>(bW.mp nd).1 (kI Y).1,if_neg Z];simp
 |p::P,w::vs,i+1,m,nd,h1,h2,Z=>by
  show bindC kindOf ((p,w)::P.zip vs) m x=_;unfold bindC;exact yg (i:=i) (bW.mp nd).2 (by simpa using h1) (by simpa using h2) Z
def start(N:List Str)(vs:List V):St:=vs.map some++bK (N.length-vs.length) none
noncomputable def mC(CX:CXT)(P:c_)(w:de)(K:PySem.W.Frag)(mg:Str->Option Value)(base:dl)(N:List Str)(qual:Str)(scope:er)(f:Addr)(q:Value)(A:dc)(outer:List Env)(s:c9)(H:Hp)(E:XK):Cx where
 prog:=P
 w:=w
 K:=K
 mg:=mg
 base:=base
 A:=A.deeper (envOfC qual scope s.heap.objs.size f q)
 N:=N
 s₀:=s
 H₀:=H
 env:=envOfC qual scope s.heap.objs.size f q
 outer:=outer
 stack:=envOfC qual scope s.heap.objs.size f q::outer
 ex:=[]
 calm:=true
 fn:=λ_=>true
 pn:=[]
 xe:=λe s'=>wpAny (model P w) (A.deeper (envOfC qual scope s.heap.objs.size f q)) (leaving (envOfC qual scope s.heap.objs.size f q) e) (λ_ Z=>CX outer H s E e Z) (λY Z=>CX outer H s E Y Z) s'
theorem Ax{sc:er}{n:Nat}{x:Str}(h:sc.names.lookup x=some .cell):∃c,(cellsFrom n sc.names []).lookup x=some c:=by
 have q:=PySem.W.cellsFrom_some sc.names n [] (.inl h);exact fV.mp q
theorem Ja{CX:CXT}{P:c_}{w:de}{K:PySem.W.Frag}{mg:Str->Option Value}{base:dl}{N ps:List Str}{qual:Str}{scope:er}{f:Addr}{O:Value}{A:dc}{outer:List Env}{s s1:c9}{H:Hp}{E:XK}{us:List Value}{vs:List V}
 (S:FnScope N ps scope) (hd:A.handled=none) (J:Env0 P w K mg base A outer s H) (hl:vs.length=ps.length) (r:Vals vs us)
 (x:InCallC s s.heap.objs.size (bindL (envOfC qual scope s.heap.objs.size f O).kindOf (ps.zip us) λ_=>none) (cellsFrom (s.heap.objs.size+1) scope.names []) (bindC (envOfC qual scope s.heap.objs.size f O).kindOf (ps.zip us) λ_=>none) s1) :
 Inv (mC CX P w K mg base N qual scope f O A outer s H E) [] (start N vs) H s1:=by
 have M:ps.length<=N.length:=by have:=congrArg lQ S.pre;rw[iQ]at this;omega
 obtain⟨h1,tk,rfl,R⟩:=x.done;have Z:∀b:Addr,b∉(mC CX P w K mg base N qual scope f O A outer s H E).ex:=λb z=>absurd (show b∈([]:List Addr)from z) (by simp)
 refine⟨⟨J.mod,S.kind,rfl,rfl,aP _,λy z c h1 h2=>?_,λy Y=>?_,λy c _ h=>?_,λ_=>hd,Around.frames_deeper J.frames,.inr ⟨rfl,rfl⟩,λb z=>absurd z (Z b),J.bs,J.bsz,λb _ _=>Z b,λb z=>absurd z (Z b),J.funs,J.frf⟩,
  rfl,J.bare,Un.kept R,⟨_,x.toInCall.ns,λi y v h1 h2 h3=>?_⟩,λy c h=>⟨_,x.cell y c h⟩,J.hok.fresh (aP _),λy c h=>?_,λp U=>absurd (show p∈([]:List (Addr×Obj))from U) (by simp),J.hok.kept R,?_⟩
 ·exact name_of_addr x.apart (PySem.mem_of_lookup h1) (PySem.mem_of_lookup h2)
 ·have Y:=Y;rcases Y with Y|Y
  ·exact Ax Y
  ·exact absurd rfl (S.nofree _ (PySem.mem_of_lookup Y))
 ·exact dB (x.above y c (PySem.mem_of_lookup h))
 ·have hi:i<vs.length:=by
   unfold start at h2;by_cases hi:i<vs.length
   ·exact hi
   ·rw[bV (by simpa using hi)]at h2;rw[cM]at h2;split at h2<;>cases h2
  have ha:vs[i]? = some v:=by
   unfold start at h2;rw[bR (by simpa using hi),aO]at h2
   cases e:vs[i]? with
   |none=>rw[e]at h2;cases h2
   |some a=>rw[e]at h2;cases h2;rfl
  obtain⟨u,T,Q⟩:=r.get ha;have U:ps[i]? = some y:=by
   rwa[<-S.pre,List.getElem?_take_of_lt (by omega)]
  have X:ps.Nodup:=by rw[<-S.pre];exact S.nd.sublist (List.take_sublist _ _)
  refine⟨u,Q,?_⟩;rcases S.par y (cD U)with k|k
  ·exact .inl ⟨k,pI X U T k⟩
  ·obtain⟨c,e⟩:=Ax (n:=s.heap.objs.size+1) k;refine .inr ⟨.inl k,c,e,?_⟩;have q:=x.cell y c e;rwa[yg X U T (by show scope.names.lookup y≠_;rw[k];decide)]at q
 ·exact J.hok.fresh (dB (x.above y c (PySem.mem_of_lookup h)))
 ·unfold start;show _=N.length;rw[bw,ak,bF];omega
theorem Kv{CX:CXT}{P:c_}{w:de}{K:PySem.W.Frag}{mg:Str->Option Value}{base:dl}{k:Nat}{f:Addr}{name qual:Str}{params:Arguments}{body:List dy}{scope:er}{dV kV doc pm cdv ct oc:Value}{an od:Option Addr}
 {osl:Array (Option Value)} {N ps:List Str} {sp:Sp} (lk:K.lookup f=some ⟨oc,od,.func (PySem.W.fnOf name qual params body scope dV kV doc pm an cdv ct),osl⟩) (hcd:PySem.W.codeIn K cdv qual=true) (S:FnScope N ps scope)
 (len:∀vs H Q E,sp vs H Q E->vs.length=ps.length)
 (O:∀(A:dc)(outer:List Env)(s:c9)(H:Hp)(vs:List V)(Q:VK)(E:XK),Room k (A.deeper (envOfC qual scope s.heap.objs.size f cdv))->sp vs H Q E ->
  ∃t,PSs (mC CX P w K mg base N qual scope f cdv A outer s H E) body t/\t {nx:=λ_ H'=>Q .non H',rt:=Q} (start N vs) H) :
 FnOk P w K mg base CX (k+1) f (PySem.W.fnOf name qual params body scope dV kV doc pm an cdv ct) ps sp:=by
 refine⟨len,λA outer s H args us vs Q E L T hb r X=>?_⟩;have B:=len _ _ _ _ X;have G:K.In s.heap:=T.mod.kin.keeps λb o e=>(T.bs b o e).1
 have M:s.heap.NoLimit:=T.mod.nolimit.keeps λb o e=>(T.bs b o e).1
 have Z:∀y∈ps.zip us,scope.names.lookup y.1=some .local\/(scope.names.lookup y.1=some .cell/\((cellsFrom (s.heap.objs.size+1) scope.names []).lookup y.1).isSome=true):=λ⟨n,v⟩ F=>by
  rcases S.par n (kI F).1 with q|q
  ·exact .inl q
  ·exact .inr ⟨q,PySem.W.cellsFrom_some _ _ _ (.inl q)⟩
 refine codeAny_call_function L.depth (G _ _ lk) rfl S.co S.gen rfl (PySem.W.codeRec_of G hcd) (hb _ _ _ _ ?_);refine cE S.kind Z λenv z s1 x=>?_
 subst z;refine⟨M.keeps x.toInCall.keep,codeAny_func ?_⟩;obtain⟨t,D,C⟩:=O A outer s H vs Q E (L.deeper _) X;have I:Inv (mC CX P w K mg base N qual scope f cdv A outer s H E) [] (start N vs) H s1:=Ja S L.hd T B r x;refine ar (D [] s1 (start N vs) H _ I C) (λfl s' Y=>?_) λe s' Y=>Y
 have U:∀{σ':St}{H':Hp}{v:V}{u:Value},Inv (mC CX P w K mg base N qual scope f cdv A outer s H E) [] σ' H' s'->RelV v u->Q v H'->CE outer P w H s Q u s':=
  λ{σ' H' v u} J R q=>⟨v,H',J.os,J.bare,J.base,J.hok,R,q⟩
 cases fl with
 |ret u=>
  obtain⟨v,σ',H',J,R,q⟩:=Y;exact U J R q
 |next=>
  obtain⟨σ',H',J,q⟩:=Y;exact U (v:=V.non) (u:=dm) J rfl q
 |brk=>
  obtain⟨_,_,_,q⟩:=Y;exact d8 q
 |cont=>
  obtain⟨_,_,_,q⟩:=Y;exact d8 q
end L2
namespace L2
section
variable{X:Cx}{x:Str}{p pos:Pos}{e:Expr}{es:List Expr}{t:TA}{id T:String}{r:List V->Hp->VK->Prop}
def tCB(r:List V->Hp->VK->Prop)(t:TA):TE:=λσ H Q=>t σ H λvs H1=>r vs H1 Q
theorem rM(Z:kZ X (.builtin id) r)(U:Gl X x)(hm:X.mg x=none)(O:bootBuiltins x=some (.builtin id))(ha:PA X (e::es) t)(hn:x≠"__name__" := by decide)(J:(x==("__debug__":Str))=false:=by decide)
 (Y:starEach (e::es) X.env=(false,eval e X.env)::starEach es X.env:=by rfl) (q:(backTo pos (starEach es X.env)).any (·.1)=false:=by rfl):PE X (.Call (.Name x p) (e::es) [] pos) (tCB r t):=by
 intro pins s σ H Q I h;refine av (lG I U hm O ?_ hn J);exact PyProof.Rows.callWith_builtin1 (thn (ha pos pins s σ H _ I h) λus s1 ⟨vs,H1,W,r1,q1⟩=>Z pins s1 σ H1 vs us Q W r1 q1) Y q
theorem lD(Z:kZ X (.type T) r)(U:Gl X x)(hm:X.mg x=none)(O:bootBuiltins x=some (.type T))(ha:PA X (e::es) t)(hn:x≠"__name__" := by decide)(J:(x==("__debug__":Str))=false:=by decide)
 (Y:starEach (e::es) X.env=(false,eval e X.env)::starEach es X.env:=by rfl) (q:(backTo pos (starEach es X.env)).any (·.1)=false:=by rfl):PE X (.Call (.Name x p) (e::es) [] pos) (tCB r t):=by
 intro pins s σ H Q I h;refine av (lG I U hm O ?_ hn J);exact du (thn (ha pos pins s σ H _ I h) λus s1 ⟨vs,H1,W,r1,q1⟩=>Z pins s1 σ H1 vs us Q W r1 q1) Y q
end
end L2
namespace HT
section
open PySem.SeqAt
open PySem.AutoSeq1 (wpAny_loadPart')
open PySem.MeetsSeq PySem.MeetsSeq2 PySem.MeetsSeq3
end
section
variable{prog:c_}{w:de}{A:dc}{E:Value->c9->Prop}{s:c9}
noncomputable def sIx(n d:Nat):Option Int->Nat
 |none=>d
 |some v=>if v<0 then(v+(n:Int)).toNat else min v.toNat n
end
end HT
namespace L2
abbrev TO:=St->Hp->(Option Int->Hp->Prop)->Prop
def PO(X:Cx)(e:Option Expr)(t:TO):Prop:=
 ∀(pins:List (Addr×Obj))(s:c9)(σ:St)(H:Hp)(Q:Option Int->Hp->Prop),Inv X pins σ H s->t σ H Q ->
  wpAny (model X.prog X.w) X.A (evalPart e X.env) (λu s'=>∃o H',Inv X pins σ H' s'/\IsPart u o/\Q o H') X.xe s
def Qo:TO:=λ_ H Q=>Q none H
def XD(t:TE):TO:=λσ H Q=>t σ H λx H1=>∃i,x = .int i/\Q (some i) H1
section
variable{X:Cx}{e:Expr}{te:TE}{lo hi:Option Expr}{tl th:TO}{pos p2:Pos}
theorem Qq:PO X none Qo:=by
 intro pins s σ H Q I h;rw[evalPart_none];exact ag ⟨none,H,I,.none,h⟩
theorem Qs(h:PE X e te):PO X (some e) (XD te):=by
 intro pins s σ H Q I hw;rw[evalPart_some];refine thn (h pins s σ H _ I hw) λu s1 ⟨x,H1,Z,r1,q1⟩=>?_
 obtain⟨i,rfl,q⟩:=q1;obtain⟨t,rfl⟩:=r1;exact⟨some i,H1,Z,.int i t,q⟩
def SlR(X:Cx)(r:V->Option Int->Option Int->Hp->VK->Prop):Prop:=
 ∀(pins:List (Addr×Obj))(s:c9)(σ:St)(H:Hp)(x:V)(v Y Z:Value)(lo hi:Option Int)(sl:Addr)(Q:VK),Inv X pins σ H s->RelV x v->s.heap.IsSliceOf sl Y Z .none->IsPart Y lo->IsPart Z hi->r x lo hi H Q ->
  ∃T id,typeLookup (.type T) "__getitem__"=pure (some (.builtin id))/\s.TypeIs v T/\wpAny (model X.prog X.w) X.A (getItem v (.ref sl)) (EP X pins σ Q) X.xe s
noncomputable def tSl(r:V->Option Int->Option Int->Hp->VK->Prop)(te:TE)(tl th:TO):TE:=λσ H Q=>te σ H λx H1=>tl σ H1 λl H2=>th σ H2 λu Z=>r x l u Z Q
theorem Kw{r:V->Option Int->Option Int->Hp->VK->Prop}(O:SlR X r)(he:PE X e te)(hl:PO X lo tl)(J:PO X hi th):PE X (.Subscript e (.Slice lo hi none p2) pos) (tSl r te tl th):=by
 intro pins s σ H Q I h;refine Subscript_ (thn (he pins s σ H _ I h) λv s1 ⟨x,H1,G,r1,q1⟩=>?_);refine wpAny_Slice (thn (hl pins s1 σ H1 _ G q1) λW s2 ⟨l,H2,K,pl,q2⟩=>thn (J pins s2 σ H2 _ K q2) λY Z ⟨u,U,L,S,q3⟩=>?_);rw[evalPart_none];refine ag ?_;have M:Inv X pins σ U {Z with heap:=Z.heap.push {cls:=.type "slice", data:=.fields #[W,Y,.none]} }:=L.kept (t':=Z.toks) λb F q=>ae _ q
 obtain⟨T,id,N,R,P⟩:=O pins {Z with heap:=Z.heap.push {cls:=.type "slice", data:=.fields #[W,Y,.none]} } σ U x v W Y l u Z.heap.objs.size Q M r1 (Heap.IsSliceOf.new ..) pl S q3;exact tail_any (ops:=[.ref Z.heap.objs.size,v]) R N P (by with_unfolding_all rfl)
def Jb(xs:List V)(lo hi:Option Int):List V:=(xs.drop (HT.sIx xs.length 0 lo)).take (HT.sIx xs.length xs.length hi-HT.sIx xs.length 0 lo)
theorem Ay(xs:List V)(lo hi:Option Int):(Jb xs lo hi).length<=xs.length:=by
 unfold Jb;rw[iQ,List.length_drop];omega
end
end L2
namespace L2
noncomputable def ixN(n:Nat)(i:Int):Option Nat:=if 0<=i then(if i<n then some i.toNat else none)else if -(n:Int)<=i then some (i+n).toNat else none
def atI{α:Type}(xs:List α)(i:Int):Option α:=(ixN xs.length i).bind λj=>xs[j]?
theorem Qt{n:Nat}{i:Int}{j:Nat}(h:ixN n i=some j):seqIndex? i n=some j/\j<n/\-(n:Int)<=i/\i<n:=by
 unfold ixN at h;by_cases Z:0<=i
 ·rw[if_pos Z]at h;by_cases h1:i<n
  ·rw[if_pos h1]at h;have e:=cL.inj h;exact⟨by rw[seqIndex_of Z h1,e],by omega,by omega,h1⟩
  ·rw[if_neg h1]at h;cases h
 ·rw[if_neg Z]at h;by_cases h1 : -(n:Int)<=i
  ·rw[if_pos h1]at h;have e:=cL.inj h;exact⟨by rw[seqIndex_neg (by omega) h1,e],by omega,h1,by omega⟩
  ·rw[if_neg h1]at h;cases h
theorem yP{α:Type}{xs:List α}{i:Int}{v:α}(h:atI xs i=some v):∃j,seqIndex? i xs.length=some j/\xs[j]? = some v/\j<xs.length/\-(xs.length:Int)<=i/\i<xs.length:=by
 unfold atI at h
 cases e:ixN xs.length i with
 |none=>rw[e]at h;cases h
 |some j=>
  rw[e]at h;obtain⟨h1,h2,h3,h4⟩:=Qt e;exact⟨j,h1,h,h2,h3,h4⟩
def rN(b:Expr):Prop:=∀o i,subscripted b false o i=operate [o,i] (getItem o i)
def IxR(X:Cx)(r:R2):Prop:=
 ∀(value slice:Expr)(pins:List (Addr×Obj))(s:c9)(σ:St)(H:Hp)(x y:V)(v u:Value)(Q:VK),Inv X pins σ H s->RelV x v->RelV y u->r x y H Q ->
  subscripted slice false v u=operate [v,u] (getItem v u)->wpAny (model X.prog X.w) X.A (subscriptTail value slice v u) (EP X pins σ Q) X.xe s
def MtR(X:Cx)(id:String)(r:V->List V->Hp->VK->Prop):Prop:=
 ∀(pins:List (Addr×Obj))(s:c9)(σ:St)(H:Hp)(x:V)(xs:List V)(v:Value)(us:List Value)(Q:VK),Inv X pins σ H s->RelV x v->Vals xs us->r x xs H Q ->
  wpAny (model X.prog X.w) X.A (call (.builtin id) (v::us)) (EP X pins σ Q) X.xe s
section
variable{X:Cx}{a b:Expr}{ta tb:TE}{pos:Pos}
theorem IxR.or{r J:R2}(h:IxR X r)(h':IxR X J):IxR X (λx y H Q=>r x y H Q\/J x y H Q):=by
 intro value slice pins s σ H x y v u Q I Y Z q W;rcases q with q|q
 ·exact h value slice pins s σ H x y v u Q I Y Z q W
 ·exact h' value slice pins s σ H x y v u Q I Y Z q W
theorem Ky{r:R2}(O:IxR X r)(ha:PE X a ta)(hb:PE X b tb)(J:rN b):PE X (.Subscript a b pos) (tOp r ta tb):=by
 intro pins s σ H Q I h;exact Subscript_ (Vc ha hb I h λv u s2 x y H2 W Y Z q=>O a b pins s2 σ H2 x y v u Q W Y Z q (J _ _))
def XF(K:PySem.W.Frag):R2:=λx y H Q=>∃p xs i v,x = .ref p/\y = .int i/\SqL K H p xs/\atI xs i=some v/\Q v H
def XH(K:PySem.W.Frag):R2:=λx y H Q=>∃p xs i v,x = .ref p/\y = .int i/\SqT K H p xs/\atI xs i=some v/\Q v H
def XJ:R2:=λx y H Q=>∃z i c,x = .str z/\y = .int i/\z.length<=sizeLine/\atI z.cps.toList i=some c/\Q (.str ⟨#[c]⟩) H
theorem Qu:IxR X (XF X.K):=by
 intro value slice pins s σ H x y v u Q I R S h V;obtain⟨p,xs,i,z,rfl,rfl,P,N,q⟩:=h
 cases R;obtain⟨t,rfl⟩:=S;obtain⟨its,r,pl,M⟩:=I.list P;obtain⟨j,h1,h2,h3,h4,h5⟩:=yP N;obtain⟨w,T,Y⟩:=r.get h2;have O:=r.length;have hn:=vK;have Z:EP X pins σ Q w s:=⟨z,H,I,Y,q⟩;by_cases U:0<=i
 ·have W:i.toNat=j:=by
   rw[seqIndex_of U h5]at h1;exact cL.inj h1
  exact item_listR pl.isList U (by omega) (by rw[W];simpa using T) Z V
 ·have W:(i+(its.toArray.size:Int)).toNat=j:=by
   rw[seqIndex_neg (by omega) h4]at h1;rw[bC,<-O];exact cL.inj h1
  exact subscriptTail_builtinR (x:=w) pl.isList.typeIs slot_list_getitem.lookup
   (wpAny_getItem_list_neg (Q:=λr s'=>r=w/\EP X pins σ Q r s') pl.isList (by omega) (by rw[bC]<;>omega) (by omega) (by rw[W];simpa using T) ⟨rfl,Z⟩) V
theorem Vj:IxR X (XH X.K):=by
 intro value slice pins s σ H x y v u Q I V W h U;obtain⟨p,xs,i,z,rfl,rfl,T,R,q⟩:=h
 cases V;obtain⟨t,rfl⟩:=W;obtain⟨its,r,pl,O⟩:=I.tuple T;obtain⟨j,h1,h2,h3,h4,h5⟩:=yP R;obtain⟨w,P,Z⟩:=r.get h2;have S:=r.length;have hn:=vK;have Y:EP X pins σ Q w s:=⟨z,H,I,Z,q⟩;exact subscriptTail_builtinR (x:=w) pl.typeIs slot_tuple_getitem.lookup
  (getItem_tuple (j:=j) (Q:=λr s'=>r=w/\EP X pins σ Q r s') pl (by omega) (by omega) (by rwa[bC,<-S]) (by simpa using P) ⟨rfl,Y⟩) U
theorem Kz:IxR X XJ:=by
 intro value slice pins s σ H x y v u Q I Y Z h W;obtain⟨z,i,c,rfl,rfl,P,U,q⟩:=h;obtain⟨t,rfl⟩:=Y;obtain⟨R,rfl⟩:=Z;obtain⟨j,h1,h2,h3,h4,h5⟩:=yP U;have V:z.cps.toList.length=z.length:=by simp[Str.length]
 rw[V]at h1 h4 h5;have hn:=vK;exact tail_any (typeIs_str s z t) slot_str_getitem.lookup (getItem_str (c:=c) (by
  have S:decide (i < -(2^63:Int))=false:=dFa (by omega);have T:decide (i≥2^63)=false:=dFa (by omega);rw[S,T,Bool.or_false]) (by rw[h1];simpa using h2) ⟨.str ⟨#[c]⟩,H,I.tok _,⟨_,rfl⟩,q⟩) W
def rIx(K:PySem.W.Frag):R2:=λx y H Q=>XF K x y H Q\/XH K x y H Q\/XJ x y H Q
theorem KC:IxR X (rIx X.K):=Qu.or (Vj.or Kz)
theorem Inv.lst{pins:List (Addr×Obj)}{σ:St}{H:Hp}{s:c9}{p:Addr}{xs:List V}(I:Inv X pins σ H s)(h:H p=some (.lst xs)):
 ∃(its:List Value)(n:Nat),Vals xs its/\s.heap.get? p=some {cls:=.type "list", data:=.seq its.toArray n}/\xs.length<=sizeLine:=by
 obtain⟨z,its,n,r,e⟩:=I.hok p _ h;exact⟨its,n,r,e,z⟩
theorem yQ(lo hi:Option Int)(n:Nat):(sliceBounds lo hi none n).1=((HT.sIx n 0 lo:Nat):Int)/\(sliceBounds lo hi none n).2.1=((HT.sIx n n hi:Nat):Int)/\(sliceBounds lo hi none n).2.2=1:=by
 refine⟨?_,?_,rfl⟩
 ·cases lo with
  |none=>simp[sliceBounds,HT.sIx]
  |some i=>
   simp only[sliceBounds,HT.sIx,Option.getD_none,show(1:Int)>0 by decide,if_true];by_cases h:i<0
   ·simp only[h,if_true]<;>omega
   ·simp only[h,if_false]<;>omega
 ·cases hi with
  |none=>simp[sliceBounds,HT.sIx]
  |some i=>
   simp only[sliceBounds,HT.sIx,Option.getD_none,show(1:Int)>0 by decide,if_true];by_cases h:i<0
   ·simp only[h,if_true]<;>omega
   ·simp only[h,if_false]<;>omega
theorem xr(its:List Value)(lo hi:Option Int):slicePick its.toArray lo hi none=((its.drop (HT.sIx its.length 0 lo)).take (HT.sIx its.length its.length hi-HT.sIx its.length 0 lo)).toArray:=by
 obtain⟨h1,h2,h3⟩:=yQ lo hi its.toArray.size;unfold slicePick;rw[h1,h2,h3];simp only[sliceRange_one,pick_run,bC]<;>rfl
def ab5(K:PySem.W.Frag):V->Option Int->Option Int->Hp->VK->Prop:=λx lo hi H Q=>∃a xs,x = .ref a/\SqL K H a xs/\∀p,H p=none->Q (.ref p) (upd H p (.lst (Jb xs lo hi)))
theorem Qw:SlR X (ab5 X.K):=by
 intro pins s σ H x v S T lo hi sl Q I Y U pl W h;obtain⟨a,xs,rfl,hx,q⟩:=h
 cases Y;obtain⟨its,r,Z,V⟩:=I.list hx;have hlen:=r.length;refine⟨"list", _,slot_list_getitem.lookup,Z.isList.typeIs,?_⟩;refine wpAny_getItem_list_slice Z.isList U pl W .none (by simp) ?_ (by rw[bC]<;>omega);rw[xr,<-hlen];refine⟨.ref s.heap.objs.size,_,I.laid (t':=s.toks) (o:=.lst (Jb xs lo hi)) (λb R q=>ae _ q) (aP _) ?_,rfl,q _ (I.hok.fresh (aP _))⟩;exact⟨aZ (Ay xs lo hi) V,_,0,(r.drop (HT.sIx xs.length 0 lo)).take (HT.sIx xs.length xs.length hi-HT.sIx xs.length 0 lo),ah _ rfl⟩
theorem eO:kZ X (.builtin "len") (λxs H Q=>∃p ys,xs=[.ref p]/\(SqL X.K H p ys\/SqT X.K H p ys)/\Q (.int ys.length) H):=by
 intro pins s σ H xs us Q I r h;obtain⟨p,ys,rfl,Z,q⟩:=h;obtain⟨u,rfl,W⟩:=vals1 r
 cases W;have hn:=vK;rcases Z with Z|Z
 ·obtain⟨its,Y,pl,V⟩:=I.list Z;have hlen:=Y.length;exact Calls.call_len_list pl.isList (by simp only[bC]<;>omega) ⟨.int ys.length,H,I.tok _,⟨s.toks+1,by rw[bC,hlen]⟩,q⟩
 ·obtain⟨its,Y,pl,V⟩:=I.tuple Z;have hlen:=Y.length;exact len_tuple pl (by simp only[bC]<;>omega) ⟨.int ys.length,H,I.tok _,⟨s.toks+1,by rw[bC,hlen]⟩,q⟩
theorem yR:kZ X (.builtin "len") (λxs H Q=>∃z,xs=[.str z]/\z.length<=sizeLine/\Q (.int z.length) H):=by
 intro pins s σ H xs us Q I r h;obtain⟨z,rfl,Z,q⟩:=h;obtain⟨u,rfl,t,rfl⟩:=vals1 r;have hn:=vK;exact len_str (by omega) ⟨.int z.length,H,I.tok _,⟨_,rfl⟩,q⟩
theorem rO:kZ X (.type "list") (λxs H Q=>∃p ys,xs=[.ref p]/\(SqL X.K H p ys\/SqT X.K H p ys)/\∀l,H l=none->Q (.ref l) (upd H l (.lst ys))):=by
 intro pins s σ H xs us Q I r h;obtain⟨p,ys,rfl,W,q⟩:=h;obtain⟨u,rfl,S⟩:=vals1 r
 cases S;have V:∀(its:List Value),Vals ys its->ys.length<=sizeLine->∀(h':dl)(c':Nat),(∀b o',s.heap.get? b=some o'->h'.get? b=some o') ->
  h'.get? s.heap.objs.size=some {cls:=.type "list", dict:=none,data:=.seq its.toArray c',slots:=#[]}->EP X pins σ Q (.ref s.heap.objs.size) {s with heap:=h'}:=λits Z Y h' c' kp e=>
  ⟨.ref s.heap.objs.size,_,I.laid (t':=s.toks) kp (aP _) (show fJ X.prog X.w _ h' _ (.lst ys)from⟨Y,its,c',Z,e⟩),rfl,q _ (I.hok.fresh (aP _))⟩
 rcases W with W|W
 ·obtain⟨its,Z,pl,Y⟩:=I.list W;have hlen:=Z.length;obtain⟨o,U,T,n,hd⟩:=pl.isList;exact call_list_seq p (.inl rfl) U T hd (λh' c' kp e=>V its Z Y h' c' kp e) (by simp only[bC]<;>omega)
 ·obtain⟨its,Z,pl,Y⟩:=I.tuple W;have hlen:=Z.length;obtain⟨o,U,T,n,hd⟩:=pl;exact call_list_seq p (.inr rfl) U T hd (λh' c' kp e=>V its Z Y h' c' kp e) (by simp only[bC]<;>omega)
def tyV(K:PySem.W.Frag)(T:String)(x:V)(H:Hp):Prop:=match x with
 | .str _=>T="str"
 | .int _=>T="int"
 | .ref p=>(T="list" /\ ∃xs,SqL K H p xs)\/(T="tuple" /\ ∃o,K.lookup p=some o/\o.cls = .type "tuple"/\o.dict=none) \/
  (T="dict"/\((∃kvs,H p=some (.dK kvs))\/∃kvs,H p=some (.dT kvs)))\/(T="set" /\ ∃S n,H p=some (.set S n))
 |_=>False
theorem Vk{pins:List (Addr×Obj)}{σ:St}{H:Hp}{s:c9}{T:String}{x:V}{v:Value}(I:Inv X pins σ H s)(r:RelV x v)(ty:tyV X.K T x H):
 s.TypeIs v T/\∀a,v = .ref a->∃q,s.heap.get? a=some q/\q.dict=none:=by
 cases x with
 |str z=>
  obtain⟨t,rfl⟩:=r
  cases(show T="str"from ty);exact⟨typeIs_str s z t,λ_ e=>nomatch e⟩
 |int i=>
  obtain⟨t,rfl⟩:=r
  cases(show T="int"from ty);exact⟨typeIs_int s i t,λ_ e=>nomatch e⟩
 |ref p=>
  cases r;rcases ty with⟨rfl,xs,W⟩|⟨rfl,o,Z,U,hd⟩|⟨rfl,Z⟩|⟨rfl,S,n,Z⟩
  ·obtain⟨its,_,pl,_⟩:=I.list W;refine⟨pl.isList.typeIs,λa e=>?_⟩
   cases e;obtain⟨o,n,e,c,hd,_⟩:=pl;exact⟨o,e,hd⟩
  ·refine⟨⟨o,I.kIn p o Z,U⟩,λa e=>?_⟩
   cases e;exact⟨o,I.kIn _ o Z,hd⟩
  ·have z:∃o,s.heap.get? p=some o/\o.ExactDict:=by
    rcases Z with⟨kvs,Z⟩|⟨kvs,Z⟩
    ·obtain⟨_,_,_,_,o,_,_,e,ex,_⟩:=I.hok p _ Z;exact⟨o,e,ex⟩
    ·obtain⟨_,_,_,_,o,_,_,e,ex,_⟩:=I.hok p _ Z;exact⟨o,e,ex⟩
   obtain⟨o,e,ex⟩:=z;refine⟨⟨o,e,ex.1⟩,λa Y=>?_⟩
   cases Y;exact⟨o,e,ex.2.1⟩
  ·obtain⟨o,_,_,_,e,ex,_⟩:=I.hok p _ Z;refine⟨⟨o,e,ex.1⟩,λa Y=>?_⟩
   cases Y;exact⟨o,e,ex.2.1⟩
 |_=>exact d8 ty
noncomputable def tBM(K:PySem.W.Frag)(T:String)(r:V->List V->Hp->VK->Prop)(to:TE)(t:TA):TE:=λσ H Q=>to σ H λx H1=>tyV K T x H1/\t σ H1 λxs H2=>r x xs H2 Q
variable{o e:Expr}{es:List Expr}{to:TE}{t:TA}{name:Str}{apos cpos:Pos}{T id:String}{r:V->List V->Hp->VK->Prop}
theorem T6(pa:PlainAttrs T)(slot:Slot T name id)(Y:typeOf (.builtin id)=pure (.type "method_descriptor"))(hm:MtR X id r)(ho:PE X o to)(ha:PA X (e::es) t)
 (O:attributeBase o name X.env (eval o X.env)=eval o X.env:=by rfl)
 (U:((backTo cpos (starEach (e::es) X.env)).all (λx=>!x.1)&&(backToKw cpos (keywordEach [] X.env)).all (λx=>x.1.isSome)
  && decide ((e::es).length+([]:List eD).length+(if([]:List eD).isEmpty then 0 else 1)<30))=true:=by rfl)
 (J:(apos.endLine==cpos.line)=true:=by rfl) (hs:starEach (e::es) X.env=(false,eval e X.env)::starEach es X.env:=by rfl) (q:(backTo cpos (starEach es X.env)).any (·.1)=false:=by rfl) :
 PE X (.Call (.Attribute o name apos) (e::es) [] cpos) (tBM X.K T r to t):=by
 intro pins s σ H Q I h;refine wpAny_Call_method_late O U J rfl (thn (ho pins s σ H _ I h) λv s1 ⟨x,H1,W,r1,ty,q1⟩=>?_);obtain⟨h1,h2⟩:=Vk W r1 ty;refine⟨T,id,pa,slot,Y,h1,h2,?_⟩;have Z:=ha cpos pins s1 σ H1 _ W q1;rw[hs]at Z ⊢;refine aT (by show(false||(backTo cpos (starEach es X.env)).any (·.1))=false;rw[q]<;>rfl) (bv ?_);exact thn Z λus s2 ⟨vs,H2,V,r2,q2⟩=>hm pins s2 σ H2 x vs v us Q V r1 r2 q2
/- xs.append(e),list.index on a module's tuple .. are MtR facts of 06m -/
end
end L2
namespace L2
def MtM(X:Cx)(id:String)(r:V->List V->Hp->VK->Prop):Prop:=
 ∀(pins:List (Addr×Obj))(s:c9)(σ:St)(H:Hp)(x:V)(xs:List V)(v:Value)(us:List Value)(Q:VK),Inv X pins σ H s->RelV x v->Vals xs us->r x xs H Q ->
  wpAny (model X.prog X.w) X.A (call (.builtin id) (v::us)) (EP X pins σ Q) X.xe s
theorem Vals.one:∀{x:V}{us:List Value},Vals [x] us->∃u,us=[u]/\RelV x u
 |_,_,.cons r .nil=>⟨_,rfl,r⟩
theorem Vals.zero:∀{us:List Value},Vals [] us->us=[]
 |_,.nil=>rfl
theorem Vals.dropLast{xs:List V}{us:List Value}(h:Vals xs us):Vals xs.dropLast us.dropLast:=by
 induction h with
 |nil=>exact .nil
 |cons r t Z=>
  cases t with
  |nil=>exact .nil
  |cons q Y=>exact .cons r Z
theorem Vals.reverse{xs:List V}{us:List Value}(h:Vals xs us):Vals xs.reverse us.reverse:=by
 induction h with
 |nil=>exact .nil
 |cons r t Z=>rw[iu,iu];exact Vals.append Z (.cons r .nil)
section
variable{X:Cx}{pins:List (Addr×Obj)}{σ:St}{H:Hp}{s:c9}{l b:Addr}{xs ys zs:List V}
theorem Inv.lset{its its':List Value}{n:Nat}{f:Array Value->Array Value}{t':Nat}(I:Inv X pins σ H s)(U:H l=some (.lst xs))
 (e:s.heap.get? l=some {cls:=.type "list", data:=.seq its.toArray n}) (O:f its.toArray=its'.toArray) (J:Vals ys its') (hz:ys.length<=sizeLine) :
 Inv X pins σ (upd H l (.lst ys)) {s with heap:=s.heap.update l (eb f),toks:=t'}:=by
 have q:=PySem.IsL.update e f;rw[O]at q;refine I.write (x:=l) (e:=l) (by rw[U];exact trivial) (.inl rfl) (λY u hb Z=>(ai s.heap (eb f) (df hb)).trans Z) ⟨_,q⟩ ?_;exact⟨hz,its',_,J,q⟩
theorem Inv.lnew{its:List Value}{t':Nat}(I:Inv X pins σ H s)(J:Vals ys its)(hz:ys.length<=sizeLine):
 Inv X pins σ (upd H s.heap.objs.size (.lst ys)) {s with heap:=s.heap.push {cls:=.type "list", data:=.seq its.toArray},toks:=t'}:=
 I.laid (λ_ _ q=>ae _ q) (aP _) ⟨hz,its,0,J,ah _ rfl⟩
theorem Inv.fresh(I:Inv X pins σ H s):H s.heap.objs.size=none:=I.hok.fresh (aP _)
theorem Inv.lstM(I:Inv X pins σ H s)(q:H l=some (.lst xs)):xs.length<=sizeLine/\∃(its:List Value)(n:Nat),Vals xs its/\xs.length=its.length/\s.heap.get? l=some {cls:=.type "list", data:=.seq its.toArray n}:=by
 obtain⟨z,its,n,r,e⟩:=I.hok l _ q;exact⟨z,its,n,r,r.length,e⟩
end
section
variable{X:Cx}
def Qx:V->List V->Hp->VK->Prop:=λx vs H Q=>∃l xs y,x = .ref l/\vs=[y]/\H l=some (.lst xs)/\xs.length<sizeLine/\Q .non (upd H l (.lst (xs++[y])))
theorem tL:MtM X "list.append" Qx:=by
 intro pins s σ H x vs v us Q I Y W h;obtain⟨l,xs,y,rfl,rfl,Z,U,q⟩:=h
 cases Y;obtain⟨u,rfl,V⟩:=W.one;obtain⟨z,its,n,r,T,e⟩:=I.lstM Z;refine call_meets F.slot_list_append ⟨_,e,rfl⟩ F.entry_list_append (F.args_list_append_2 _ _) (PySem.list_append l its.toArray n u (by rw[bC];omega)) ⟨e,?_⟩;refine⟨.non,_,I.lset (its':=its++[u]) Z e (by simp) (r.append (.cons V .nil)) ?_,rfl,q⟩;rw[bw,g8];omega
end
section
variable{prog:c_}{w:de}{A:dc}{E:Value->c9->Prop}{s:c9}
set_option maxRecDepth 100000 in
end
section
variable{X:Cx}
end
end L2
namespace Att
open PySem.W PySem.Calls
theorem uL{P:Params}{h:dl}:∀(ns:List Int)(vs:List Value),WellAll P h vs (ns.map WData.int)->eV vs ns:=by
 intro ns
 induction ns with
 |nil=>
  intro vs w;rw[cZ]at w
  cases w;exact .nil
 |cons n ns Z=>
  intro vs w;rw[aM]at w
  cases w with
  |cons a b=>
   cases a;exact .cons _ _ (Z _ b)
theorem Jc{l:OpenLaw}{n:Nat}(hn:l.most=some n){P:Params}{h:dl}{args:List WData}{vals:List Value}
 (J:l.row.toRowW.claim.pre args=true) (O:WellAll P h vals args) :
 ∃a vs ns,vals=[db a]/\args=[WData.list (ns.map WData.int)]/\h.get? a=some {cls:=.type "list", data:=.seq vs.toArray}/\eV vs ns/\ns.length<=n:=by
 have Y:=(pre_splitW J).1;have T:=(pre_splitW J).2;obtain⟨d,r,rfl,h1,h2⟩:=hasAllW_cons Y;obtain rfl:=hasAllW_nil h2;obtain⟨xs,rfl,h3⟩:=hasW_list h1;obtain⟨ns,rfl⟩:=items_int h3;have hlen:ns.length<=n:=by
  have h4:(WTm.not (.lt (.lit (.int (n:Int))) (.len (.arg 0)))).holds [] {args:=[.list (ns.map .int)]}=true:=by
   have h4:=(holds_andW T).1;rwa[hn]at h4
  have h5:=condW_of h4 (w_not (w_lt w_lit (w_len_list (w_arg rfl))));rw[ak]at h5;refine Nat.le_of_not_lt λq=>?_
  have V:(n:Int)<((ns.length:Nat):Int):=by omega
  first
   | (rw[dTr V]at h5;exact absurd h5 (by decide))
   | (simp at h5;omega)
 cases O with
 |cons W X=>
  cases X
  cases W with
  |list U Z=>exact⟨_,_,ns,rfl,rfl,U,uL ns _ Z,hlen⟩
theorem Jd(l:OpenLaw)(args:List WData):l.row.toRowW.claim.post args (.bool true) args=true:=
 postW_of (r:=l.row.toRowW) (X:=(true==true))
  (show WShape.has [] (.bool true) .bool=true by first|rfl|decide|simp[WShape.has,WShape.arms,WShape.armsAll])
  (show(WTm.eq .res (.lit (.bool true))).value [] {args:=args,res:=some (.bool true),after:=args}=some (.bool (true==true))from w_eq_bool (w_res rfl) w_lit) rfl
theorem Az{l:OpenLaw}{n:Nat}{q:c_}{loose:List Str}{XP:(Str->Option Value)->dl->Prop}{YP:de->dl->Prop}{d:DefRec}
 (hn:l.most=some n) (hdf:d.params.defaults=[])
 (call:∀(w:de)(s₀ J:c9)(mg U:Str->Option Value)(fa:Addr)(o:Obj)(pm O doc:Value)(a:Addr)(vs:List Value)(ns:List Int),
  Ground q loose [] XP w s₀ mg U J.heap->YP w J.heap ->
  J.heap.get? fa=some o->o.data = .func (docDef d.name d.params d.body d.scope pm O doc)->J.heap.CodeRec O d.name->mg d.name=some (.ref fa) ->
  J.heap.get? a=some {cls:=.type "list", data:=.seq vs.toArray}->eV vs ns->ns.length<=n->J.gens = #[] ->
  codeAny (model l.prog w) callerA (.call (.ref fa) ⟨[.ref a],[]⟩) (λr s'=>r = .ok (.ret (.bool true))/\OldK J.heap s'.heap/\s'.os=J.os/\eK s'.gens) J) :
 WalkO q loose XP YP l.row.toRowW d [] (λf vs=>PySem.call f vs):=by
 intro w s₀ J mg U G Y fa o pm O doc dV kV Q hd hcd hD V N args vals as Z T S W P;obtain rfl:dV = .none:=Dflts.none hD hdf;obtain rfl:kV = .none:=Dflts.noKw hD;obtain⟨a,vs,ns,rfl,rfl,X,hints,hlen⟩:=Jc hn Z W;refine enter_call (bX (call w s₀ J mg U fa o pm O doc a vs ns G Y Q (fd_plain hd) hcd V X hints hlen N) λr s' R=>?_);obtain⟨rfl,h2,h3,h4⟩:=R;exact⟨.inl ⟨.bool true,.bool true,[],rfl,λ_=>rfl,.bool true,Jd l _,λ_=>⟨List.Pairwise.nil,λ_ hm=>(nomatch hm)⟩⟩,h2,h3,h4⟩
section
variable{prog:c_}{w:de}{A:dc}{E:Value->c9->Prop}{s:c9}{K:Frag}
end
end Att
namespace L2
theorem jV:∀{vs:List Value}{ns:List Int},eV vs ns->Vals (ns.map V.int) vs
 |_,_,.nil=>.nil
 |_,_,.cons n t h=>.cons ⟨t,rfl⟩ (jV h)
def Only(H:Hp):Prop:=∀b,H b=none\/∃o xs,H b=some (.frz o (.lst xs))
noncomputable def A_(ts:List (Addr×Str×Pos))(H:Hp):Hp:=λb=>match ts.find? (λt=>t.1==b)with
 |some t=>some (.tbl t.2.1 t.2.2)
 |none=>H b
theorem KD(ts:List (Addr×Str×Pos))(H:Hp)(b:Addr):(A_ ts H b=H b/\∀t∈ts,t.1≠b)\/∃t∈ts,t.1=b/\A_ ts H b=some (.tbl t.2.1 t.2.2):=by
 unfold A_
 cases e:ts.find? (λt=>t.1==b)with
 |none=>exact .inl ⟨rfl,λt Z z=>by have:=lE.mp e t Z;simp[z]at this⟩
 |some t=>
  have h1:=lO e;have h2:=List.find?_some e;exact .inr ⟨t,h1,by simpa using h2,rfl⟩
theorem KH{P:c_}{w:de}{K:PySem.W.Frag}{mg mb:Str->Option Value}{CX:CXT}{k:Nat}{fa a:Addr}{fd:dk}{x:Str}{sp:Sp}{J:c9}{vs:List Value}{ns:List Int}
 (KX:K.In J.heap) (hns:J.heap.Ns mainGlobals mg) (hb:J.heap.Ns builtinsNs mb) (hbb:∀x:Str,x≠"__name__"->mb x=bootBuiltins x) (hlim:J.heap.NoLimit) (hbm:∃bm ob,mg "__builtins__"=some (.ref bm)/\bm≠builtinsNs/\J.heap.get? bm=some ob/\ob.cls = .type "module"/\ob.dict=some builtinsNs/\ob.data = .plain) (hg:J.gens = #[])
 (ha:J.heap.get? a=some {cls:=.type "list", data:=.seq vs.toArray}) (hi:eV vs ns) (hl:ns.length<=sizeLine) (hr:Room k callerA)
 (F:∀base:dl,K.In base->base.Ns mainGlobals mg->FnOk P w K mg base CX k fa fd [x] sp) (hbind:∀(s:c9)(u:Value),BindsTo s fd ⟨[u],[]⟩ [(x,u)])
 (ts:List (Addr×Str×Pos)) (O:∀t∈ts,J.heap.get? t.1=some {cls:=.none,data:=.fields #[]}) (hCT:∀t∈ts,isCodeTable J.heap t.1) (hKt:∀t∈ts,K.lookup t.1=none) (htu:∀t∈ts,∀t'∈ts,t.1=t'.1->t=t')
 (hsp:∀H:Hp,(∀t∈ts,H t.1=some (.tbl t.2.1 t.2.2))->SqL K H a (ns.map V.int)->sp [.ref a] H (λv _=>v = .bl true) λ_ _ _=>False)
 (hCX:∀H e s',CX [] H J (λ_ _ _=>False) e s'->False) :
 codeAny (model P w) callerA (.call (.ref fa) ⟨[.ref a],[]⟩) (λr s'=>r = .ok (.ret (.bool true))/\OldK J.heap s'.heap/\s'.os=J.os/\eK s'.gens) J:=by
 have rv:=jV hi;have G:=hi.length;have core:∀H:Hp,(∀b,H b=none\/(∃o xs,H b=some (.frz o (.lst xs)))\/∃t∈ts,t.1=b/\H b=some (.tbl t.2.1 t.2.2))->(∀t∈ts,H t.1=some (.tbl t.2.1 t.2.2))->SqL K H a (ns.map V.int)->HOk P w H J.heap->(∀b,H b≠none->b=a\/∃t∈ts,t.1=b)->(H a≠none->K.lookup a=none) ->
  codeAny (model P w) callerA (.call (.ref fa) ⟨[.ref a],[]⟩) (λr s'=>r = .ok (.ret (.bool true))/\OldK J.heap s'.heap/\s'.os=J.os/\eK s'.gens) J:=by
  intro H E hT j hok C i;have Z:∀{b:Addr}{o:Obj},J.heap.get? b=some o->H b=none->(Ar J.heap H).get? b=some o:=λe n=>J8 e n
  have B:∀{b:Addr}{o:Obj}{es:Array DictEntry}{L:Nat},J.heap.get? b=some o->o.data = .dict es L->H b=none:=λ{b o es L} e d=>by
   cases q:H b with
   |none=>rfl
   |some u=>
    rcases C b (by rw[q];simp)with U|⟨t,Y,U⟩
    case inr=>
     subst U;rw[O t Y]at e;cases e;have d':Data.fields #[]=Data.dict es L:=d
     cases d'
    subst U;rw[ha]at e;cases e;have d':Data.seq vs.toArray _=Data.dict es L:=d
    cases d'
  have S:∀{b:Addr}{m:Str->Option Value},J.heap.Ns b m->(Ar J.heap H).Ns b m:=λ{b m} ⟨o,es,L,e,d,r⟩=>⟨o,es,L,Z e (B e d),d,r⟩
  have D:=λb o e=>Z (KX b o e) (by
   cases q:H b with
   |none=>rfl
   |some u=>
    rcases C b (by rw[q];simp)with U|⟨t,Y,U⟩
    ·subst U;rw[i (by rw[q];simp)]at e;cases e
    ·subst U;rw[hKt t Y]at e;cases e)
  have hM:Mod K mg (Ar J.heap H):=⟨D,S hns,⟨mb,S hb,hbb⟩,let⟨mc,h1,h2⟩:=hlim;⟨mc,S h1,h2⟩,let⟨bm,ob,g1,g2,g3,g,g5,g6⟩:=hbm;⟨bm,ob,g1,g2,Z g3 (by
   cases q:H bm with
   |none=>rfl
   |some u=>
    rcases C bm (by rw[q];simp)with U|⟨t,Y,U⟩
    ·rw[U,ha]at g3;cases g3;have z:=g;injection z with z
     exact absurd z (by decide)
    ·rw[<-U,O t Y]at g3;cases g3
     cases g),g,g5,g6⟩⟩
  have e0:Env0 P w K mg (Ar J.heap H) callerA [] J H:=⟨rfl,hM,λb o e=>Qa e,rC (Iu _ _),trivial,λb hb=>absurd (show b∈([]:List Addr)from hb) (by simp),hok,.of_eq hg⟩;refine bX ((F _ D (S hns)).run callerA [] J H ⟨[.ref a],[]⟩ [.ref a] [.ref a] _ _ hr e0 (hbind J (.ref a)) (.cons rfl .nil) (hsp H hT j)) λr s' h=>?_
  cases r with
  |error e=>exact(hCX H e s' h).elim
  |ok fl=>
   cases fl with
   |next=>exact d8 h
   |brk=>exact d8 h
   |cont=>exact d8 h
   |ret u=>
    obtain⟨v,H',os,bare,un,R,r',q⟩:=h;have q':v = .bl true:=q;subst q';obtain rfl:u=ei true:=r';refine⟨rfl,⟨λb o e=>?_,λb o e=>un.there b o e (by simp)⟩,os,bare⟩
    cases q:H b with
    |none=>exact .inl <| un.keep b o e q (by intro z;exact absurd (show b∈([]:List Addr)from z) (by simp)) (by simp)
    |some u=>
     rcases E b with z|⟨ob,xs,z⟩|⟨t,Y,rfl,z⟩
     case inr.inr=>
      have X:=un.tbls _ _ _ z;obtain⟨ps,f,_⟩:=R _ _ X;rw[O t Y]at e;cases e;exact .inr (.inl ⟨hCT t Y,rfl,#[],ps,rfl,by rw[f];simp⟩)
     ·rw[q]at z;cases z
     ·have X:=un.frzs b ob _ z;obtain⟨e1,_⟩:=hok b _ z;obtain⟨f,_⟩:=R b _ X;rw[e]at e1;cases e1;exact .inl f
 have T:∀H:Hp,Only H->SqL K H a (ns.map V.int)->HOk P w H J.heap->(∀b,H b≠none->b=a)->(H a≠none->K.lookup a=none) ->
  codeAny (model P w) callerA (.call (.ref fa) ⟨[.ref a],[]⟩) (λr s'=>r = .ok (.ret (.bool true))/\OldK J.heap s'.heap/\s'.os=J.os/\eK s'.gens) J:=by
  intro H E j hok C i;have na:∀t∈ts,t.1≠a:=λt Y z=>by
   have X:=O t Y;rw[z,ha]at X
   cases X
  have cs:=KD ts H;have A:A_ ts H a=H a:=by
   rcases cs a with z|⟨t,Y,z,_⟩
   ·exact z.1
   ·exact absurd z (na t Y)
  have M:∀b x,H b≠some (.own x):=λb x z=>by rcases E b with y|⟨_,_,y⟩<;>(rw[y]at z;cases z)
  have N:∀b x,H b≠some (.tup x):=λb x z=>by rcases E b with y|⟨_,_,y⟩<;>(rw[y]at z;cases z)
  refine core (A_ ts H) (λb=>?_) (λt Y=>?_) ?_ (λb u z=>?_) (λb z=>?_) (λz=>i (by rwa[<-A]))
  ·rcases cs b with z|⟨t,Y,Q,X⟩
   ·rcases E b with y|y
    ·exact .inl (z.1.trans y)
    ·obtain⟨o,xs,y⟩:=y;exact .inr (.inl ⟨o,xs,z.1.trans y⟩)
   ·exact .inr (.inr ⟨t,Y,Q,X⟩)
  ·rcases cs t.1 with z|⟨t',p,Q,X⟩
   ·exact absurd rfl (z.2 t Y)
   ·have:=htu t' p t Y Q;subst this;exact X
  ·rcases j with(z|⟨o,z⟩)|z
   ·exact .inl (.inl (by rwa[A]))
   ·exact .inl (.inr ⟨o,by rwa[A]⟩)
   ·exact .inr z
  ·rcases cs b with y|⟨t,Y,Q,X⟩
   ·rw[y.1]at z;exact(hok b u z).stay (λ_ _ _ q=>q) (λc q=>absurd q (M c b)) λc xs q=>absurd q (N c xs)
   ·rw[X]at z
    cases z;subst Q;exact⟨#[],O t Y,.inl rfl⟩
  ·rcases cs b with y|⟨t,Y,Q,X⟩
   ·exact .inl (C b (by rwa[<-y.1]))
   ·exact .inr ⟨t,Y,Q⟩
 cases l:K.lookup a with
 |some o=>
  have e:=KX a o l;rw[ha]at e
  cases e;refine T (λ_=>none) (λ_=>.inl rfl) (.inr ⟨_,vs.toArray,_,l,rfl,rfl,rfl,by rwa[bC,G],by simpa using rv⟩) (λb u z=>by have I:(none:Option HO)=some u:=z;cases I) (λb z=>absurd rfl z) λz=>absurd rfl z
 |none=>
  refine T (λb=>if b=a then some (.frz {cls:=.type "list", data:=.seq vs.toArray} (.lst (ns.map V.int)))else none) (λb=>?_) (.inl (.inr ⟨{cls:=.type "list", data:=.seq vs.toArray},if_pos rfl⟩)) (λb u z=>?_) (λb z=>?_) λ_=>l
  ·by_cases hb:b=a
   ·exact .inr ⟨_,_,if_pos hb⟩
   ·exact .inl (if_neg hb)
  ·by_cases hb:b=a
   ·have I:=(if_pos hb).symm.trans z
    cases I;subst hb;exact⟨ha,by rwa[ak],vs,_,rv,ha⟩
   ·have I:=(if_neg hb).symm.trans z
    cases I
  ·by_cases hb:b=a
   ·exact hb
   ·exact absurd (if_neg hb) z
end L2
namespace L2
abbrev KOf{K:PySem.W.Frag}{h:dl}(_:K.In h):PySem.W.Frag:=K
theorem Qy{l:PySem.W.OpenLaw}{n k:Nat}{q:c_}{loose:List Str}{XP:(Str->Option Value)->dl->Prop}{YP:de->dl->Prop}{d:DefRec}{K:Params->PySem.W.Frag}{CX:de->CXT}{sp:de->Sp}{x:Str}
 (hn:l.most=some n) (hn2:n<=sizeLine) (hdf:d.params.defaults=[]) (hr:Room k callerA)
 (hY:∀(w:de)(h:dl),YP w h->(K w.params).In h)
 (F:∀(w:de)(mg:Str->Option Value)(fa:Addr)(h:dl),(K w.params).In h->h.Ns mainGlobals mg->mg d.name=some (.ref fa) ->
  ∃fd:dk,(∀(s:c9)(u:Value),BindsTo s fd ⟨[u],[]⟩ [(x,u)]) /\
   ∀base:dl,(K w.params).In base->base.Ns mainGlobals mg->FnOk l.prog w (K w.params) mg base (CX w) k fa fd [x] (sp w))
 (ts:List (Addr×Str×Pos)) (J:∀(w:de)(h:dl),YP w h->(∀t∈ts,h.get? t.1=some {cls:=.none,data:=.fields #[]})/\(∀t∈ts,isCodeTable h t.1)/\∀t∈ts,(K w.params).lookup t.1=none) (O:∀t∈ts,∀t'∈ts,t.1=t'.1->t=t')
 (U:∀(w:de)(H:Hp)(a:Addr)(ns:List Int),ns.length<=n->(∀t∈ts,H t.1=some (.tbl t.2.1 t.2.2))->SqL (K w.params) H a (ns.map V.int)->sp w [.ref a] H (λv _=>v = .bl true) λ_ _ _=>False)
 (hCX:∀(w:de)(H:Hp)(s:c9)(e:Value)(s':c9),CX w [] H s (λ_ _ _=>False) e s'->False) :
 PySem.W.WalkO q loose XP YP l.row.toRowW d [] (λf vs=>PySem.call f vs):=by
 refine Att.Az hn hdf λw s₀ Z mg L fa o pm E doc a vs ns G Y I hd hcd S X hints hlen Q=>?_
 have R:=hY w _ Y;obtain⟨fd,hb,M⟩:=F w mg fa _ R G.T.g S;exact KH R G.T.g G.T.b G.T.builtins G.T.nolimit G.T.bmain Q X hints (aZ hlen hn2) hr M hb ts (J w _ Y).1 (J w _ Y).2.1 (J w _ Y).2.2 O (λH N P=>U w H a ns hlen N P) λH e s'=>hCX w H Z e s'
theorem KJ{l:PySem.W.OpenLaw}{n k:Nat}{q:c_}{loose:List Str}{XP:(Str->Option Value)->dl->Prop}{YP:de->dl->Prop}{d:DefRec}{K:Params->PySem.W.Frag}{CX:CXT}{sp:PySem.W.Frag->Sp}{x:Str}
 (hn:l.most=some n) (Y:n<=sizeLine) (Z:d.params.defaults=[]) (hr:Room k callerA)
 (hY:∀(w:de)(h:dl),YP w h->(K w.params).In h)
 (F:∀(w:de)(mg:Str->Option Value)(fa:Addr)(h:dl),(K w.params).In h->h.Ns mainGlobals mg->mg d.name=some (.ref fa) ->
  ∃fd:dk,(∀(s:c9)(u:Value),BindsTo s fd ⟨[u],[]⟩ [(x,u)]) /\
   ∀base:dl,(K w.params).In base->base.Ns mainGlobals mg->FnOk l.prog w (K w.params) mg base CX k fa fd [x] (sp (K w.params)))
 (ts:List (Addr×Str×Pos)) (O:∀(w:de)(h:dl),YP w h->(∀t∈ts,h.get? t.1=some {cls:=.none,data:=.fields #[]})/\(∀t∈ts,isCodeTable h t.1)/\∀t∈ts,(K w.params).lookup t.1=none) (J:∀t∈ts,∀t'∈ts,t.1=t'.1->t=t')
 (U:∀(K:PySem.W.Frag)(H:Hp)(a:Addr)(ns:List Int),ns.length<=n->(∀t∈ts,H t.1=some (.tbl t.2.1 t.2.2))->SqL K H a (ns.map V.int)->sp K [.ref a] H (λv _=>v = .bl true) λ_ _ _=>False)
 (hCX:∀(H:Hp)(s:c9)(e:Value)(s':c9),CX [] H s (λ_ _ _=>False) e s'->False) :
 PySem.W.WalkO q loose XP YP l.row.toRowW d [] (λf vs=>PySem.call f vs):=
 Qy (K:=K) (CX:=λ_=>CX) (sp:=λw=>sp (K w.params)) hn Y Z hr hY F ts O J (λw H a ns h1 h2 h3=>U (K w.params) H a ns h1 h2 h3) λ_ H s e s'=>hCX H s e s'
end L2
/- THE LAST THEOREM (shape;LID,My.* are yours):
   My.Adr: a structure of the addresses that your layer names (classes,functions);My.Txt K t: a structure (Prop) of the equations over K;
   My.txt_mk:{K} {implicit addresses ..} (e1:nsIn K mainGlobals "law"=some (some (.ref f))) (e2:K.lookup f=some ⟨oc,od,.func (fnOf "law" "law" params body scope dV kV doc pm an cdv ct),sl⟩) (e3:codeIn K cdv "law"=true) .. : ∃t,My.Txt K t
set_option maxRecDepth 100000 in
set_option maxHeartbeats 0 in
(the tactic k_is has no namespace: write k_is) -/
namespace L2
noncomputable def jG(s:dy):Arguments:=match s with
 | .FunctionDef _ a _ _ _ _ _ _ _ _=>a
 |_=>{posonlyargs:=[],args:=[],vararg:=none,kwonlyargs:=[],kw_defaults:=[],kwarg:=none,defaults:=[]}
def dR(s:dy):List dy:=match s with
 | .FunctionDef _ _ b _ _ _ _ _ _ _=>b
 |_=>[]
noncomputable def bh(s:dy):er:=match s with
 | .FunctionDef _ _ _ _ _ _ sc _ _ _=>sc
 |_=>{kind:=.function,names:=[],isGenerator:=false,isCoroutine:=false}
abbrev CX0:CXT:=λ_ _ _ _ _ _=>False
abbrev E0:XK:=λ_ _ _=>False
theorem Ba{X:Cx}:Passes CX0 X E0:=λ_ _ _ _ _ _ _ h=>h.elim
structure Fun(K:PySem.W.Frag)(x qual:Str)(st:dy)(f:Addr)(fd:dk):Prop where
 ex:∃(oc:Value)(od:Option Addr)(kV doc pm:Value)(an:Option Addr)(cdv ct:Value)(osl:Array (Option Value)),
  fd=PySem.W.fnOf x qual (jG st) (dR st) (bh st) .none kV doc pm an cdv ct/\K.lookup f=some ⟨oc,od,.func fd,osl⟩/\PySem.W.codeIn K cdv qual=true
 kp:PySem.W.keepIn K (.ref f)=true
section
variable{P:c_}{w:de}{K:PySem.W.Frag}{mg:Str->Option Value}{base:dl}
end
section
variable{X:Cx}
end
theorem xu{A B:Prop}(h:B):if false=true then A else B:=by
 rwa[if_neg eZ]
theorem xG{A B:Prop}(h:A):if true=true then A else B:=by
 rwa[if_pos rfl]
def Same(H H':Hp):Prop:=∀b o,H b=some o->H' b=some o
theorem Same.refl(H:Hp):Same H H:=λ_ _ h=>h
theorem Same.trans{H H1 H2:Hp}(a:Same H H1)(b:Same H1 H2):Same H H2:=λc o h=>b c o (a c o h)
theorem Same.free{H H':Hp}(e:Same H H'){l:Addr}(h:H' l=Option.none):H l=Option.none:=by
 cases q:H l with
 |none=>rfl
 |some o=>
  rw[e l o q]at h
  cases h
theorem Same.seq{K:PySem.W.Frag}{H H':Hp}{a:Addr}{xs:List V}(e:Same H H')(h:SqL K H a xs):SqL K H' a xs:=by
 rcases h with(h|⟨o,h⟩)|h
 ·exact .inl (.inl (e _ _ h))
 ·exact .inl (.inr ⟨o,e _ _ h⟩)
 ·exact .inr h
end L2
namespace My
open L2
abbrev St:=L2.St
theorem cN{H:Hp}{p:Addr}(h:H p=none)(o:HO):Same H (upd H p o):=λb u q=>by rwa[bf (jT q h)]
structure Df(K:PySem.W.Frag)(mg:Str->Option Value)(x:Str)(st:dy)(ps:List Str):Prop where
 ex:∃(f:Addr)(fd:dk),Fun K x x st f fd/\Binds K fd ps []/\mg x=some (.ref f)
structure Has(P:c_)(w:de)(K:PySem.W.Frag)(mg:Str->Option Value)(base:dl)(n:Nat)(x:Str)(ps:List Str)(sp:Sp):Prop where
 ex:∃(f:Addr)(fd:dk),FnOk P w K mg base CX0 n f fd ps sp/\Binds K fd ps []/\PySem.W.keepIn K (.ref f)=true/\mg x=some (.ref f)
section
variable{P:c_}{w:de}{K:PySem.W.Frag}{mg:Str->Option Value}{base:dl}{x:Str}{ps N:List Str}{sp:Sp}{st:dy}{k n:Nat}
theorem Has.mono(h:Has P w K mg base k x ps sp)(l:k<=n):Has P w K mg base n x ps sp:=by
 obtain⟨f,fd,F,b,kp,m⟩:=h.ex;exact⟨f,fd,F.mono l,b,kp,m⟩
end
section
variable{X:Cx}{x:Str}{ps:List Str}{sp:Sp}{n:Nat}{p pos:Pos}{e:Expr}{es:List Expr}{t:TA}
theorem Bb(h:Has X.prog X.w X.K X.mg X.base n x ps sp)(O:Room n X.A)(ha:PA X (e::es) t)(U:Gl X x:=by rfl)(J:(x==("__debug__":Str))=false:=by decide)
 (Y:starEach (e::es) X.env=(false,eval e X.env)::starEach es X.env:=by rfl) (q:(backTo pos (starEach es X.env)).any (·.1)=false:=by rfl) :
 PE X (.Call (.Name x p) (e::es) [] pos) (T4 sp [] E0 t):=by
 obtain⟨f,fd,F,b,kp,m⟩:=h.ex;exact Qm F O U m kp b .nil Ba ha J Y q
end
mutual
inductive RdV(K:PySem.W.Frag)(H:Hp):V->PyData->Prop
 |non:RdV K H .non .none
 |bl (b:Bool):RdV K H (.bl b) (.bool b)
 |int (i:Int):RdV K H (.int i) (.int i)
 |str (x:Str):RdV K H (.str x) (.str x)
 |lst {a:Addr} {xs:List V} {ds:List PyData}:SqL K H a xs->RdVs K H xs ds->RdV K H (.ref a) (.list ds)
 |tup {a:Addr} {xs:List V} {ds:List PyData}:SqT K H a xs->RdVs K H xs ds->RdV K H (.ref a) (.tuple ds)
inductive RdVs(K:PySem.W.Frag)(H:Hp):List V->List PyData->Prop
 |nil:RdVs K H [] []
 |cons {v:V} {d:PyData} {vs:List V} {ds:List PyData}:RdV K H v d->RdVs K H vs ds->RdVs K H (v::vs) (d::ds)
end
section
variable{X:Cx}{pins:List (Addr×Obj)}{σ:St}{H:Hp}{s:c9}
mutual
theorem RdV.reads(I:Inv X pins σ H s):∀{v:V}{d:PyData},RdV X.K H v d->∀{u:Value},RelV v u->∃as,Reads s.heap u d as
 |_,_,.non,_,r=>by cases r;exact⟨_,.none⟩
 |_,_,.bl b,_,r=>by cases r;exact⟨_,.bool b⟩
 |_,_,.int i,_,r=>by obtain⟨t,rfl⟩:=r;exact⟨_,.int i t⟩
 |_,_,.str x,_,r=>by obtain⟨t,rfl⟩:=r;exact⟨_,.str x t⟩
 |_,_,.lst h q,_,r=>by
  cases r;obtain⟨its,rv,⟨o,n,e,c,_,d⟩,_⟩:=I.list h;obtain⟨as,z⟩:=RdVs.reads I q rv;exact⟨_,.list e c d (by simpa using z)⟩
 |_,_,.tup h q,_,r=>by
  cases r;obtain⟨its,rv,⟨o,e,c,n,d⟩,_⟩:=I.tuple h;obtain⟨as,z⟩:=RdVs.reads I q rv;exact⟨_,.tuple e c d (by simpa using z)⟩
theorem RdVs.reads(I:Inv X pins σ H s):∀{vs:List V}{ds:List PyData},RdVs X.K H vs ds->∀{us:List Value},Vals vs us->∃as,ReadsAll s.heap us ds as
 |_,_,.nil,_,r=>by cases r;exact⟨_,.nil⟩
 |_,_,.cons h q,_,r=>by
  cases r with
  |cons r1 r2=>
   obtain⟨as,z⟩:=RdV.reads I h r1;obtain⟨bs,y⟩:=RdVs.reads I q r2;exact⟨_,.cons z y⟩
end
end
section
variable{X:Cx}
noncomputable def Vl(K:PySem.W.Frag):R2:=λx y H Q=>∃Y Z,RdV K H x Y/\RdV K H y Z/\dr Y=true/\dr Z=true/\Q (.bl (ef Y Z)) H
theorem mD(J:X.A.units+64<cLine):OpR X (compareOp .Eq) (Vl X.K):=by
 intro pins s σ H x y v u Q I U V h;obtain⟨S,T,ha,hb,sa,W,q⟩:=h;obtain⟨as,Y⟩:=ha.reads I U;obtain⟨bs,Z⟩:=hb.reads I V;exact SeqAt.compareEq_shaped Y Z sa W J ⟨.bl _,H,I,rfl,q⟩
end
def isT(c T:String):Bool:=T==c||(T=="bool"&&c=="int")
section
variable{K:PySem.W.Frag}
theorem Vm(h:c="int"\/c="bool"\/c="tuple"\/c="list"\/c="str")(g:T="NoneType"\/T="bool"\/T="int"\/T="str"\/T="list"\/T="tuple"\/T="dict"):
 PySem.W.kitOne K (.type T) (.type c)=some (isT c T):=by
 rcases h with rfl|rfl|rfl|rfl|rfl<;>rcases g with rfl|rfl|rfl|rfl|rfl|rfl|rfl<;>kernel_rfl
end
section
variable{X:Cx}
end
theorem big{X:Cx}{pins:List (Addr×Obj)}{σ:St}{H:Hp}{s:c9}(I:Inv X pins σ H s):sysModules<s.heap.objs.size:=by
 have h:=(I.mod.glob.keeps I.bk).lt;exact jA (by decide) h
theorem KN{P:c_}{w:de}{H:Hp}(h:dl)(hb:sysModules<h.objs.size):fJ P w H (h.push {cls:=.type "dict", data:=.dict #[]}) h.objs.size (.dK []):=
 ⟨fL _,beq_eq_false_iff_ne.mpr (df (bB hb)),[],.nil,Heap.DictOf.new h⟩
def Vo:TE:=λ_ H Q=>∀p,H p=none->Q (.ref p) (upd H p (.dK []))
theorem KQ{X:Cx}{pos:Pos}:PE X (.Dict [] [] pos) Vo:=λpins s σ H Q I h=>
 wpAny_Dict_empty ⟨.ref s.heap.objs.size,_,I.laid (a:=s.heap.objs.size) (o:=.dK []) (t':=s.toks) (λ_ _ q=>ae _ q) (aP _) (KN s.heap (big I)),rfl,h _ (I.hok.fresh (aP _))⟩
end My
namespace My
open L2
section
variable{X:Cx}{a b c d:Expr}{ta tb tc td:TE}{pos:Pos}
end
structure Blt(mg:Str->Option Value):Prop where
 len_:mg "len"=none
 range_:mg "range"=none
 abs_:mg "abs"=none
 isinstance_:mg "isinstance"=none
 int_:mg "int"=none
 bool_:mg "bool"=none
 tuple_:mg "tuple"=none
 max_:mg "max"=none
 min_:mg "min"=none
end My
namespace My
open L2
abbrev cx(P:c_)(w:de)(K:PySem.W.Frag)(mg:Str->Option Value)(base:dl)(N:List Str)(x:Str)(st:dy)(f:Addr)(cdv:Value)(A:dc)(outer:List Env)(s:c9)(H:Hp)(E:XK):Cx:=
 (mC CX0 P w K mg base N x (bh st) f cdv A outer s H E).nox
end My
namespace My
open L2
noncomputable def nR(env:Env):List (Str×NameKind)->List (Str×Addr)->List (Str×Addr)
 |[],cs=>cs
 | (n,k)::r,cs=>if(k==dt)=true then nR env r ((n,(env.cells.lookup n).getD 0)::cs)else nR env r cs
theorem qp{env:Env}:∀(l:List (Str×NameKind))(cs:List (Str×Addr)),(∀x∈l,x.2 = .free->∃c,env.cells.lookup x.1=some c) ->
 (forIn l cs λ(x:Str×NameKind)(r:List (Str×Addr))=>(if(x.2==dt)=true then(do let c <-cellOf env x.1;pure (ee ((x.1,c)::r)))else pure (ee r):Sem (ForInStep (List (Str×Addr)))))=pure (nR env l cs)
 |[],_,_=>rfl
 | (n,k)::r,cs,h=>by
  rw[ou];by_cases Z:(k==dt)=true
  ·obtain⟨c,X⟩:=h (n,k) aA (beq_iff_eq.mp Z);have Y:cellOf env n=pure c:=by
    unfold cellOf;rw[show env.cells.lookup n=some c from X]
   rw[if_pos Z,Y];have W:=qp r ((n,c)::cs) λx hx=>h x (au _ hx)
   rwa[nR,if_pos Z,show env.cells.lookup n=some c from X]
  ·rw[if_neg Z];have W:=qp r cs λx hx=>h x (au _ hx)
   rwa[nR,if_neg Z]
theorem Ea{env:Env}{scope:er}(h:∀x∈scope.names,x.2 = .free->∃c,env.cells.lookup x.1=some c):closureFor scope env=pure (nR env scope.names []):=by
 have z:=qp (env:=env) scope.names [] h;show(forIn scope.names [] λ(x:Str×NameKind)(r:List (Str×Addr))=>(if(x.2==dt)=true then(do let c <-cellOf env x.1;pure (ee ((x.1,c)::r)))else pure (ee r):Sem (ForInStep (List (Str×Addr))))) >>= (λcs=>pure cs)=_;rw[z];rfl
theorem vL{env:Env}:∀(l:List (Str×NameKind))(cs:List (Str×Addr)),(∀x∈l,x.2 = .free->∃c,env.cells.lookup x.1=some c)->(∀x c,cs.lookup x=some c->env.cells.lookup x=some c) ->
 ∀x c,(nR env l cs).lookup x=some c->env.cells.lookup x=some c
 |[],_,_,Y,x,c,e=>Y x c e
 | (n,k)::r,cs,h,Y,x,c,e=>by
  rw[nR]at e;by_cases W:(k==dt)=true
  ·rw[if_pos W]at e;obtain⟨d,hd⟩:=h (n,k) aA (beq_iff_eq.mp W);refine vL r _ (λx hx=>h x (au _ hx)) (λy c' Z=>?_) x c e;rw[cF]at Z
   cases X:y==n with
   |true=>
    rw[X]at Z;have:y=n:=beq_iff_eq.mp X;subst this;rw[show env.cells.lookup y=some d from hd]at Z ⊢;exact Z
   |false=>
    rw[X]at Z;exact Y y c' Z
  ·rw[if_neg W]at e;exact vL r cs (λx hx=>h x (au _ hx)) Y x c e
theorem oR{env:Env}:∀(l:List (Str×NameKind))(cs:List (Str×Addr))(x:Str),((x,dt)∈l\/∃c,cs.lookup x=some c)->∃c,(nR env l cs).lookup x=some c
 |[],_,x,h=>by
  rcases h with h|h
  ·exact absurd h (by simp)
  ·exact h
 | (n,k)::r,cs,x,h=>by
  rw[nR];by_cases Z:(k==dt)=true
  ·rw[if_pos Z];refine oR r _ x ?_;by_cases e:x=n
   ·subst e;exact .inr ⟨_,by rw[cF,beq_self_eq_true]⟩
   ·rcases h with h|⟨c,h⟩
    ·rcases aN.mp h with h|h
     ·exact absurd (congrArg Prod.fst h) e
     ·exact .inl h
    ·exact .inr ⟨c,by rwa[cF,beq_eq_false_iff_ne.mpr e]⟩
  ·rw[if_neg Z];refine oR r cs x ?_;rcases h with h|h
   ·rcases aN.mp h with h|h
    ·have:k = .free:=(congrArg Prod.snd h).symm;subst this;exact absurd rfl Z
    ·exact .inl h
   ·exact .inr h
noncomputable abbrev blk(X:Cx)(J:List Str)(scope:er)(cl:List (Str×Addr))(C:Addr)(q:c9)(O:Hp)(fp:List Addr):Cx:=
 {X with N:=J,s₀:=q,H₀:=O,env:=compEnvC scope cl C X.env,outer:=X.stack,ex:=fp,fn:=λ_=>false,xe:=λ_ _=>False}
noncomputable def vM(N:List Str)(kinds sn:List (Str×NameKind)):List Str->List Nat->Bool
 |[],[]=>true
 |x::V,j::ix=>(N[j]? == some x)&&((kinds.lookup x==some ez)&&((sn.lookup x==some dt)&&vM N kinds sn V ix))
 |_,_=>false
def oU(t:Nat)(ix:List Nat)(σ:St):St:=bK t none++ix.map λj=>(σ[j]?).getD none
theorem vN{N:List Str}{kinds sn:List (Str×NameKind)}:∀{V:List Str}{ix:List Nat},vM N kinds sn V ix=true->ix.length=V.length/\∀(k:Nat)(x:Str),V[k]? = some x->∃j,ix[k]? = some j/\N[j]? = some x/\kinds.lookup x=some .cell/\sn.lookup x=some .free
 |[],[],_=>⟨rfl,λk x h=>by simp at h⟩
 |x::V,j::ix,h=>by
  rw[vM,aX,aX,aX]at h;obtain⟨h1,h2,h3,h4⟩:=h;obtain⟨l,r⟩:=vN h4;refine⟨by simp[l],λk y Z=>?_⟩
  cases k with
  |zero=>
   simp at Z;subst Z;exact⟨j,rfl,beq_iff_eq.mp h1,beq_iff_eq.mp h2,beq_iff_eq.mp h3⟩
  |succ k=>exact r k y (by simpa using Z)
 |[],_::_,h=>by simp[vM]at h
 |_::_,[],h=>by simp[vM]at h
theorem rP{env:Env}(q:env.scope.kind = .function):∀{names:List (Str×NameKind)}{x:Str},names.lookup x=some .free->env.kindOf x=some .cell ->
 (names.map λ(n,k)=>if(k==dt&&env.scope.kind == .function&&env.kindOf n==some .cell)then(n,ez)else(n,k)).lookup x=some .cell
 |[],_,h,_=>by simp at h
 | (n,k)::r,x,h,Z=>by
  have Y:=@rP env q r x;show gj x ((if(k==dt&&env.scope.kind == .function&&env.kindOf n==some .cell)=true then(n,ez)else(n,k))::_)=_
  cases hx:x==n with
  |true=>
   have e:=beq_iff_eq.mp hx;subst e;simp only[cF,hx]at h
   cases h;rw[if_pos (by rw[q,Z];rfl)];simp[cF]
  |false=>
   simp only[cF,hx]at h;by_cases X:(k==dt&&env.scope.kind == .function&&env.kindOf n==some .cell)=true
   ·rw[if_pos X];simp only[cF,hx];exact Y h Z
   ·rw[if_neg X];simp only[cF,hx];exact Y h Z
theorem nU{env:Env}:∀{names:List (Str×NameKind)}{x:Str}{k:NameKind},(∀y∈names,y.2 ≠ .cell)->(k = .cell\/k = .free) ->
 (names.map λ(n,k)=>if(k==dt&&env.scope.kind == .function&&env.kindOf n==some .cell)then(n,ez)else(n,k)).lookup x=some k->(x,dt)∈names
 |[],_,_,_,_,h=>by simp at h
 | (n,Y)::r,x,k,V,Z,h=>by
  have W:=@nU env r x k (λy T=>V y (au _ T)) Z;have h':gj x ((if(Y==dt&&env.scope.kind == .function&&env.kindOf n==some .cell)=true then(n,ez)else(n,Y))::(r.map λ(n,k)=>if(k==dt&&env.scope.kind == .function&&env.kindOf n==some .cell)then(n,ez)else(n,k)))=some k:=h;by_cases X:(Y==dt&&env.scope.kind == .function&&env.kindOf n==some .cell)=true
  ·rw[if_pos X]at h';have U:Y = .free:=by
    rw[aX,aX]at X;exact beq_iff_eq.mp X.1.1
   cases hx:x==n with
   |true=>
    have e:=beq_iff_eq.mp hx;subst e;subst U;exact aA
   |false=>
    simp only[cF,hx]at h';exact au _ (W h')
  ·rw[if_neg X]at h'
   cases hx:x==n with
   |true=>
    have e:=beq_iff_eq.mp hx;subst e;simp only[cF,hx]at h'
    cases h';rcases Z with Z|Z
    ·exact absurd Z (V _ aA)
    ·subst Z;exact aA
   |false=>
    simp only[cF,hx]at h';exact au _ (W h')
section
variable{X:Cx}{pins:List (Addr×Obj)}{σ:St}{H:Hp}{s:c9}
theorem Inv.forget{σ':St}(I:Inv X pins σ H s)(q:σ'.length=X.N.length)(h:∀(i:Nat) (v:V),σ'[i]? = some (some v)->σ[i]? = some (some v)):Inv X pins σ' H s:=by
 obtain⟨m,hn,hx⟩:=I.loc;exact⟨I.ok,I.os,I.bare,I.base,⟨m,hn,λi x v W Y Z=>hx i x v W (h i v Y) Z⟩,I.cell,I.free,I.freeC,I.pin,I.hok,q⟩
end
end My
namespace My
open L2
theorem Bc{prog:c_}{w:de}{A:dc}{R:Result->c9->Prop}{elt target iter:Expr}{ifs:List Expr}{scope:er}{pos:Pos}{it acc:Value}{env:Env}{s:c9}(I:Nat->c9->Prop)
 (turn:∀n s,I n s->wpAny (model prog w) A (pyNext it) (λr O=>match r with
  |none=>R (.ok .next) O
  |some v=>wpAny (model prog w) A (letOwnedTupleGo target it v) (λ_ J=>wpAny (model prog w) A (assign target env v) (λ_ Z=>
   wpAny (model prog w) A (forIn ifs true λc r=>if r=true then do let ok <-isTrue c env (eval c env);pure (ee ok)else pure (ee r)) (λok q=>
    if ok=true then wpAny (model prog w) A (eval elt env) (λx Y=>
     wpAny (model prog w) A (call (.builtin "list.append") [acc,x]) (λ_ U=>∃m,m<n/\I m U) (λ_ _=>False) Y) (λ_ _=>False) q
    else ∃m,m<n/\I m q) (λ_ _=>False) Z) (λ_ _=>False) J) (λ_ _=>False) O) (λ_ _=>False) s)
 (n:Nat) (h:I n s) :
 codeAny (model prog w) A (.compLoop (.ListComp elt [⟨target,iter,ifs,0⟩] scope pos) 0 it acc env) R s:=by
 refine codeAny_loop rfl I (λn s P=>?_) n h;refine wpAny_noted ?_;rw[compTurn_list];refine aa (ce (aa (ar (turn n s P) (λr O W=>?_) λ_ _ h'=>h'.elim)))
 cases r with
 |none=>exact ag W
 |some v=>
  refine aa (ar W (λ_ J V=>?_) λ_ _ h'=>h'.elim);refine aa (ar V (λ_ Z Q=>aa (ar Q (λok q X=>?_) λ_ _ h'=>h'.elim)) λ_ _ h'=>h'.elim)
  cases ok with
  |false=>exact ag ⟨rfl,X⟩
  |true=>
   exact aa (aa (ar X (λx Y S=>aa (ar S (λ_ U T=>ag (ag ⟨rfl,T⟩)) λ_ _ h'=>h'.elim)) λ_ _ h'=>h'.elim))
section
variable{X:Cx}{pins:List (Addr×Obj)}{σ:St}{H:Hp}
theorem Je{T V:List Str}{ix:List Nat}{scope:er}{U:c9}{fp:List Addr}{J:dl}{tk:Nat}{m:Str->Option Value}
 (I:Inv X pins σ H U) (hf:∀b∈fp,tH X pins H b) (ho:∀b∈fp,∃o,U.heap.get? b=some o)
 (hk:scope.kind = .function) (O:∀y∈scope.names,y.2 ≠ .cell) (hfr:∀x∈scope.names,x.2 = .free->x.1∈V) (hB:vM X.N X.env.scope.names scope.names V ix=true)
 (hns:J.Ns U.heap.objs.size m) (keep:∀b o,U.heap.get? b=some o->J.get? b=some o) :
 Inv (blk X (T++V) scope (nR X.env scope.names []) U.heap.objs.size U H fp) pins (oU T.length ix σ) H {U with heap:=J,toks:=tk}:=by
 obtain⟨D,R⟩:=vN hB;have K:∀x∈scope.names,x.2 = .free->∃c,X.env.cells.lookup x.1=some c:=λx hx e=>by
  obtain⟨k,s⟩:=fO (hfr x hx e);obtain⟨j,_,_,Q,_⟩:=R k _ s;exact I.ok.has _ (.inl Q)
 have sub:=vL (env:=X.env) scope.names [] K (λx c e=>by simp at e);have stkSub:=λb z=>aN.mp (I.stkSub b z)
 have lt:∀b o,U.heap.get? b=some o->b≠U.heap.objs.size:=λb o e=>bB (af e)
 have cellK:∀c v,U.heap.IsCell c v->J.IsCell c v:=λc v ⟨o,e,d⟩=>⟨o,keep c o e,d⟩
 refine⟨⟨I.ok.mod,hk,I.ok.glob,I.ok.blt,aP _,λx y c F L=>I.ok.inj x y c (sub x c F) (sub y c L),λx hx=>?_,λx c hx=>?_,I.ok.hd,I.ok.frames,.inl rfl,λb hb=>⟨?_,λx c e=>?_⟩,I.bs,aZ I.ok.bsz I.sz,λb o e hb=>?_,λb hb z=>?_,I.stack,I.stkFree⟩,
  rfl,I.bare,Un.kept keep,⟨m,hns,λi x v F L f=>?_⟩,λx c e=>?_,I.hok.fresh (aP _),λx c e=>I.freeC x c (sub x c e),λp C=>?_,I.hok.kept keep,?_⟩
 ·rcases hx with hx|hx
  ·exact oR _ _ x (.inl (nU O (.inl rfl) hx))
  ·exact oR _ _ x (.inl (nU O (.inr rfl) hx))
 ·exact absurd hx (by simp)
 ·obtain⟨o,e⟩:=ho b hb;exact lt b o e
 ·exact(hf b hb).2.2.2.2.1 x c (sub x c e)
 ·rcases(hf b hb).2.2.2.1 with z|z
  ·exact I.ok.noex b o e z
  ·exact absurd (bQ (af e) (aZ I.ok.bsz z)) (dw _)
 ·rcases stkSub b z with z|z
  ·exact(hf b hb).2.1 z
  ·exact(hf b hb).2.2.1 z
 ·by_cases hi:i<T.length
  ·have W:(bK T.length none++ix.map λj=>(σ[j]?).getD none)[i]? = some (some v):=L;rw[bR (by rwa[bF]),cM,if_pos hi]at W;exact absurd W (by simp)
  ·have M:(T++V)[i]? = some x:=F;rw[bV (by omega)]at M;obtain⟨j,w,t,Q,Y⟩:=R _ x M;have W:(bK T.length none++ix.map λj=>(σ[j]?).getD none)[i]? = some (some v):=L;rw[bV (by rw[bF];omega),bF,aO,w]at W;have Z:(σ[j]?).getD none=some v:=by simpa using W
   have G:σ[j]? = some (some v):=by
    cases q:σ[j]? with
    |none=>rw[q]at Z;exact absurd Z (by simp)
    |some o=>rw[q]at Z;simp at Z;rw[Z]
   obtain⟨g,B,A⟩:=I.loc;obtain⟨u,r,l⟩:=A j x v t G (.inr (.inl Q));rcases l with⟨z,_⟩|⟨_,c,h,S⟩
   ·have E:X.env.scope.names.lookup x=some .local:=z;rw[Q]at E;exact absurd E (by simp)
   ·obtain⟨c',P⟩:=oR (env:=X.env) scope.names [] x (.inl (PySem.mem_of_lookup Y));have:c'=c:=by
     have q:=sub x c' P;rw[h]at q;exact(cL.inj q).symm
    subst this;exact⟨u,r,.inr ⟨.inl (rP I.ok.kind Y Q),c',P,cellK _ _ S⟩⟩
 ·obtain⟨v,z⟩:=I.cell x c (sub x c e);exact⟨v,cellK c v z⟩
 ·obtain⟨e,n,ne,nf,d⟩:=I.pin p C;refine⟨keep _ _ e,n,lt _ _ e,λz=>?_,d⟩;rcases stkSub p.1 z with z|z
  ·exact ne z
  ·exact nf z
 ·show(bK T.length none++ix.map λj=>(σ[j]?).getD none).length=(T++V).length;rw[bw,bF,ak,bw,D]
theorem rQ{N':List Str}{scope:er}{cl:List (Str×Addr)}{pins':List (Addr×Obj)}{σ':St}{U H':Hp}{q s':c9}{fp:List Addr}(I3:Inv X pins σ U q)(O:∀b∈fp,tH X pins U b)
 (J:Inv (blk X N' scope cl q.heap.objs.size q U fp) pins' σ' H' s'):Inv X pins σ H' s'/\tH X pins H' q.heap.objs.size:=by
 have fr:=J.free;refine⟨?_,I3.fpOk (aP _) fr⟩;have os:=J.os;have u:=J.base;have W:=J.hok;have hb:=J.bare;obtain⟨V,g,d,t,Y⟩:=s';obtain rfl:Y=q.os:=os;exact I3.call (h':=V) (g':=g) (d':=d) (t':=t) (ch:=fp) u W hb λb Z=>⟨(O b Z).2.2.2.1,(O b Z).2.1,(O b Z).2.2.2.2.1,(O b Z).2.2.2.2.2⟩
end
def PTs(X:Cx)(ifs:List Expr)(t:TT):Prop:=
 ∀(pins:List (Addr×Obj))(s:c9)(σ:St)(H:Hp)(Q:Bool->Hp->Prop),Inv X pins σ H s->t σ H Q ->
  wpAny (model X.prog X.w) X.A (forIn ifs true λc r=>if r=true then do let ok <-isTrue c X.env (eval c X.env);pure (ee ok)else pure (ee r)) (TP X pins σ Q) X.xe s
def uM:TT:=λ_ H Q=>Q true H
theorem Qz{X:Cx}:PTs X [] uM:=λ_ _ _ H _ I h=>wpAny_tests_nil ⟨H,I,h⟩
theorem lW{X:Cx}{c:Expr}{t:TT}(h:PT X c t):PTs X [c] t:=λpins s σ H Q I q=>wpAny_tests_one (h pins s σ H Q I q)
def Bd(wi:TI)(g:TG)(tt:TT)(te:TE)(t:Nat)(q:St->St):TE:=λσ H Q=>wi σ H λJ H1=>∀D,H1 D=none->∃W:Nat->Nat->List V->Hp->Prop,(∃m,W 0 m [] (upd H1 D (.lst []))) /\
 ∀i m xs H2,W i m xs H2->H2 D=some (.lst xs)/\((J.stop i H2/\Q (.ref D) H2)\/(J.go i H2/\xs.length<sizeLine/\∀x T,J.yld i H2 x T->g x (q σ) T λZ S=>Z.drop t=(q σ).drop t /\
  tt Z S λb U=>if b=true then te Z U λv X=>X D=some (.lst xs)/\∃Y,Y<m/\W (i+1) Y (xs++[v]) (upd X D (.lst (xs++[v])))else ∃Y,Y<m/\W (i+1) Y xs U))
section
variable{X:Cx}{elt tg iter:Expr}{ifs:List Expr}{scope:er}{pos:Pos}{T V:List Str}{ix:List Nat}{wi:TI}{g:TG}{tt:TT}{te:TE}
theorem Jf(hc:X.calm=true)(hi:PI X tg iter wi)
 (hg:∀cl C O U fp,PG (blk X (T++V) scope cl C O U fp) tg g) (ht:∀cl C O U fp,PTs (blk X (T++V) scope cl C O U fp) ifs tt) (he:∀cl C O U fp,PE (blk X (T++V) scope cl C O U fp) elt te)
 (hB:vM X.N X.env.scope.names scope.names V ix=true) (hk:scope.kind = .function) (Y:∀y∈scope.names,y.2 ≠ .cell) (hnames:∀x∈scope.names,x.2 = .local->scope.names.lookup x.1=some .local)
 (hfr:∀x∈scope.names,x.2 = .free->x.1∈V) (hs:∀x,foldedSetIterable iter X.env x=pure x) {p:Pos}
 {pins:List (Addr×Obj)} {s:c9} {σ:St} {H:Hp} (I:Inv X pins σ H s) {use:Option (Value->Sem Unit)} {Qp:Value->c9->Prop} {Qv:VK} (h:Bd wi g tt te T.length (oU T.length ix) σ H Qv)
 (fin:∀(D C:Addr)(H':Hp)(s':c9)(m:Str->Option Value),Inv X pins σ H' s'->tH X pins H' C->s'.heap.Ns C m->Qv (.ref D) H'->compPost (model X.prog X.w) X.A X.xe use Qp (.ref D) C (.ok .next) s') :
 wpAny (model X.prog X.w) X.A (comprehension (.ListComp elt [⟨tg,iter,ifs,0⟩] scope pos) scope X.env p (newList []) false (eval iter X.env) use) Qp X.xe s:=by
 obtain⟨lV,capV⟩:=vN hB;have hcl:∀x∈scope.names,x.2 = .free->∃c,X.env.cells.lookup x.1=some c:=λx hx e=>by
  obtain⟨k,ek⟩:=fO (hfr x hx e);obtain⟨j,_,_,hc',_⟩:=capV k _ ek;exact I.ok.has _ (.inl hc')
 refine wpAny_comprehension_free rfl hs (Ea hcl) hk hnames ?_;refine thn (hi pins s σ H _ I h) λv s1 h1=>thn h1 λitv s2 h2=>?_
 obtain⟨it,fp,tn,J,H2,e,I2,S,t,f2,R⟩:=h2;subst e;refine ck (hd:=by size_fits) ?_;have hD:=I2.hok.fresh (aP _);have I3:Inv X pins σ (upd H2 s2.heap.objs.size (.lst [])) {s2 with heap:=s2.heap.push {cls:=.type "list", dict:=none,data:=.seq ([]:List Value).toArray} }:=
  I2.laid (t':=s2.toks) (λb o e=>ae _ e) (aP _) ⟨fL _,[],0,.nil,ah _ rfl⟩
 obtain⟨W,⟨m0,w0⟩,turn⟩:=R s2.heap.objs.size hD;generalize hs3:({s2 with heap:=s2.heap.push {cls:=.type "list", dict:=none,data:=.seq ([]:List Value).toArray} }:c9)=O at I3 ⊢;have z:tn 0 O.heap:=by
  rw[<-hs3];exact S.keep 0 s2.heap _ t λb hb o e=>ae _ e
 have f3:∀b∈fp,tH X pins (upd H2 s2.heap.objs.size (.lst [])) b:=λb hb=>by
  obtain⟨z0,z1⟩:=f2 b hb;refine⟨?_,z1⟩;obtain⟨o,eo,_⟩:=S.obj 0 _ t b hb;rwa[bf (bB (af eo))]
 generalize hH3:upd H2 s2.heap.objs.size (.lst [])=U at I3 f3 w0;generalize hDn:s2.heap.objs.size=D at turn;refine wpAny_newFunctionEnv Y (by intro y hy;simp at hy) (λl M P=>?_) hk;have keep:=λb o e=>P.extBut b o (bB (af e)) (ae _ e)
 have I4:=Je (T:=T) (tk:=O.toks+([]:List (Str×Value)).length) I3 f3 (λb hb=>let⟨o,eo,_⟩:=S.obj 0 _ z b hb;⟨o,eo⟩) hk Y hfr hB M keep;have B:=S.keep 0 _ _ z λb hb o e=>keep b o e
 have loop:codeAny (model X.prog X.w) X.A (.compLoop (.ListComp elt [⟨tg,iter,ifs,0⟩] scope pos) 0 (.ref it) (.ref D) (compEnvC scope (nR X.env scope.names []) O.heap.objs.size X.env))
  (compPost (model X.prog X.w) X.A X.xe use Qp (.ref D) O.heap.objs.size) {O with heap:=l,toks:=O.toks+([]:List (Str×Value)).length}:=by
  refine Bc (λn s'=>∃i xs H',Inv (blk X (T++V) scope (nR X.env scope.names []) O.heap.objs.size O U fp) pins (oU T.length ix σ) H' s'/\tn i s'.heap/\(∀b∈fp,H' b=none)/\W i n xs H') ?_ m0
   ⟨0,[],U,I4,B,λb hb=>(f3 b hb).1,w0⟩
  rintro n s5 ⟨i,xs,H5,I5,E,a,w5⟩;have Z:∀{H':Hp}{pins':List (Addr×Obj)}{σ':St}{s':c9},Inv (blk X (T++V) scope (nR X.env scope.names []) O.heap.objs.size O U fp) pins σ' H' s'->(∀b∈fp,H' b=none)->∀b∈fp,tH (blk X (T++V) scope (nR X.env scope.names []) O.heap.objs.size O U fp) pins H' b:=λI' hn b hb=>by
   obtain⟨x1,x2⟩:=I'.ok.exf b hb;refine⟨hn b hb,x1,I'.ok.exfs b hb,.inl hb,x2,λq hq=>?_⟩;exact(f3 b hb).2.2.2.2.2 q hq
  obtain⟨hD5,r5⟩:=turn i n xs H5 w5;rcases r5 with⟨stop,q⟩|⟨go,hz,step⟩
  ·refine thn (S.done (blk X (T++V) scope (nR X.env scope.names []) O.heap.objs.size O U fp) rfl rfl rfl hc i pins s5 _ H5 _ I5 (Z (pins':=pins) I5 a) E stop) λr s6 ⟨hr,I6⟩=>?_
   subst hr;obtain⟨Ib,fC⟩:=rQ I3 f3 I6;obtain⟨m,hn,_⟩:=I6.loc;exact fin D _ H5 s6 m Ib fC hn q
  ·refine thn (S.item (blk X (T++V) scope (nR X.env scope.names []) O.heap.objs.size O U fp) rfl rfl rfl hc i pins s5 _ H5 _ I5 (Z (pins':=pins) I5 a) E go) λr s6 ⟨u,hr,h6⟩=>?_
   subst hr;refine thn h6 λ_ s7 ⟨x,H7,I7,rx,y7,L,fr7⟩=>?_
   have I7':=I7.pinned (Z (pins':=pins) I7 fr7) (S.obj _ _ L);refine thn (hg _ _ _ _ _ _ s7 _ H7 x u _ I7' rx (step x H7 y7)) λ_ s8 ⟨Q,H8,I8,k8,q8⟩=>?_
   have again:∀{K:Hp}{G:c9},Inv (blk X (T++V) scope (nR X.env scope.names []) O.heap.objs.size O U fp) (pins++vI fp s7.heap) Q K G ->
    Inv (blk X (T++V) scope (nR X.env scope.names []) O.heap.objs.size O U fp) pins (oU T.length ix σ) K G/\tn (i+1) G.heap/\∀b∈fp,K b=none:=λ{K G} F=>by
    refine⟨Inv.forget F.unpinned I4.len λj v e=>?_,S.keep _ _ _ L λb hb o e=>(F.pin (b,o) (aR _ (aR _ (nQ hb e)))).1,λb hb=>?_⟩
    ·by_cases hj:j<T.length
     ·have e':(bK T.length none++ix.map λj=>(σ[j]?).getD none)[j]? = some (some v):=e;rw[bR (by rwa[bF]),cM,if_pos hj]at e';exact absurd e' (by simp)
     ·have ej:j=T.length+(j-T.length):=by omega
      rw[ej,<-gC]at e ⊢;rwa[k8]
    ·obtain⟨o,e,d⟩:=S.obj _ _ L b hb;exact(F.pin (b,o) (aR _ (aR _ (nQ hb e)))).2.1
   refine thn (ht _ _ _ _ _ _ s8 Q H8 _ I8 q8) λok G ⟨K,F,q9⟩=>?_
   cases ok with
   |false=>
    obtain⟨m',lm,w9⟩:=q9;obtain⟨a1,a2,a3⟩:=again F;exact⟨m',lm,i+1,xs,K,a1,a2,a3,w9⟩
   |true=>
    refine thn (he _ _ _ _ _ _ G Q K _ F q9) λy s10 ⟨v,H10,I10,ry,f,m',lm,w10⟩=>?_
    refine thn (tL _ s10 Q H10 (.ref D) [v] (.ref D) [y] (λ_ Hn=>Hn=upd H10 D (.lst (xs++[v]))) I10 rfl (.cons ry .nil) ⟨D,xs,v,rfl,rfl,f,hz,rfl⟩) λ_ s11 ⟨_,H11,I11,_,e11⟩=>?_
    subst e11;obtain⟨a1,a2,a3⟩:=again I11;exact⟨m',lm,i+1,_,_,a1,a2,a3,w10⟩
 exact codeAny_compStart_list loop (S.self _ 0 _ _ _ B loop)
theorem yS(hc:X.calm=true)(T V:List Str)(ix:List Nat)(hi:PI X tg iter wi)
 (hg:∀cl C U Y fp,PG (blk X (T++V) scope cl C U Y fp) tg g) (ht:∀cl C U Y fp,PTs (blk X (T++V) scope cl C U Y fp) ifs tt) (he:∀cl C U Y fp,PE (blk X (T++V) scope cl C U Y fp) elt te)
 (hB:vM X.N X.env.scope.names scope.names V ix=true:=by rfl) (hk:scope.kind = .function:=by rfl) (O:∀y∈scope.names,y.2 ≠ .cell:=by decide +kernel)
 (J:∀x∈scope.names,x.2 = .local->scope.names.lookup x.1=some .local:=by decide +kernel)
 (Z:∀x∈scope.names,x.2 = .free->x.1∈V:=by decide +kernel) (hs:∀x,foldedSetIterable iter X.env x=pure x:=by intro _;rfl) :
 PE X (.ListComp elt [⟨tg,iter,ifs,0⟩] scope pos) (Bd wi g tt te T.length (oU T.length ix)):=by
 intro pins s σ H Q I h;rw[eval_ListComp];refine Jf (use:=none) hc hi hg ht he hB hk O J Z hs I h λD C H' s' m G K hn q=>⟨m,hn,λh' L=>⟨.ref D,H',?_,rfl,q⟩⟩
 obtain⟨M,P,F,R,S,W⟩:=K;exact G.turned (t':=s'.toks) (λb o hb e=>L.extBut b o hb e) M P R S W
end
section
variable{X:Cx}{K:PySem.W.Frag}
end
end My
namespace D3
theorem ex2{α β:Type _}{A B C:α->β->Prop}{G:Prop}(h:∃a b,A a b/\B a b/\C a b)(k:∀a b,A a b->B a b->C a b->G):G:=h.elim λa h=>h.elim λb z=>k a b z.1 z.2.1 z.2.2
theorem ex1{α:Type _}{A B:α->Prop}{G:Prop}(h:∃a,A a/\B a)(k:∀a,A a->B a->G):G:=h.elim λa z=>k a z.1 z.2
theorem ex4{α β J q:Type _}{A B C:α->β->J->q->Prop}{G:Prop}(h:∃a b c d,A a b c d/\B a b c d/\C a b c d)(k:∀a b c d,A a b c d->B a b c d->C a b c d->G):G:=h.elim λa h=>h.elim λb h=>h.elim λc h=>h.elim λd z=>k a b c d z.1 z.2.1 z.2.2
noncomputable abbrev D:=PyData
inductive U where
 |d (x:D)
 |x (c f:Str) (v:D)
noncomputable abbrev DS:=List (Option U)
inductive Oc where
 |nx (δ:DS)
 |rt (d:D)
 |bk (δ:DS)
 |ct (δ:DS)
 |ex (c f:Str) (v:D)
abbrev FE:=DS->Option D
abbrev FA:=DS->Option (List D)
abbrev FT:=DS->Option Bool
abbrev FS:=DS->Option Oc
abbrev FG:=D->DS->Option DS
def isI:List (D×D)->Bool
 | (.none,.tuple _)::_=>true
 |_=>false
noncomputable def yU:List Str->List D->List (D×D)
 |n::ns,d::ds=>(.str n,d)::yU ns ds
 |_,_=>[]
def pX(C:Addr)(ns:List Str)(ds:List D):List (D×D):=(.none,.tuple [.int (C:Int)])::yU ns ds
mutual
def flat:D->Bool
 | .none=>true
 | .bool _=>true
 | .int _=>true
 | .str _=>true
 | .list _=>false
 | .tuple xs=>flats xs
 | .dict _=>false
def flats:List D->Bool
 |[]=>true
 |x::r=>flat x&&flats r
end
mutual
def nl:D->Nat
 | .none=>0
 | .bool _=>0
 | .int _=>0
 | .str _=>0
 | .list xs=>nls xs+1
 | .tuple xs=>nls xs
 | .dict kvs=>cond (isI kvs) (nlk kvs) 1
def nls:List D->Nat
 |[]=>0
 |x::r=>nl x+nls r
def nlk:List (D×D)->Nat
 |[]=>0
 | (_,x)::r=>nl x+nlk r
end
def fl1:D->Bool
 | .list xs=>flats xs
 |d=>flat d
noncomputable def aB(i:Nat):FE:=λδ=>match δ[i]? with
 |some (some (.d x))=>some x
 |_=>none
def dC(d:D):FE:=λ_=>some d
def dOp(g:D->D->Option D)(fa fb:FE):FE:=λδ=>(fa δ).bind λx=>(fb δ).bind λy=>g x y
def dUn(g:D->Option D)(fa:FE):FE:=λδ=>(fa δ).bind g
def bN:FA:=λ_=>some []
def aD(fa:FE)(fr:FA):FA:=λδ=>(fa δ).bind λx=>(fr δ).bind λr=>some (x::r)
def dTup(fa:FA):FE:=λδ=>(fa δ).bind λl=>if l.length<=sizeLine then some (.tuple l)else none
def mF(fa:FA):FE:=λδ=>(fa δ).bind λl=>if l.length<=sizeLine then some (.list l)else none
def dCall(F:List D->Option D)(fa:FA):FE:=λδ=>(fa δ).bind F
def jt(fa:FE):FE:=λδ=>(fa δ).bind λd=>if flat d=true then some d else none
def dN1(fa:FE):FE:=λδ=>(fa δ).bind λd=>if decide (nl d<=1)=true then some d else none
def tM(fa:FE):FE:=λδ=>(fa δ).bind λd=>if fl1 d=true then some d else none
def Jg(fa fb:FE):FE:=λδ=>(fa δ).bind λx=>match x with
 | .bool true=>fb δ
 | .bool false=>some (.bool false)
 |_=>none
def dOr(fa fb:FE):FE:=λδ=>(fa δ).bind λx=>match x with
 | .bool true=>some (.bool true)
 | .bool false=>fb δ
 |_=>none
def QB(fa:FE):FE:=λδ=>(fa δ).bind λx=>match x with
 | .bool b=>some (.bool (!b))
 |_=>none
def dIf(c:FT)(fa fb:FE):FE:=λδ=>(c δ).bind λb=>if b=true then fa δ else fb δ
def cI(fa:FE):FT:=λδ=>(fa δ).bind λx=>match x with
 | .bool b=>some b
 |_=>none
def vH(a b:FT):FT:=λδ=>(a δ).bind λx=>if x=true then b δ else some false
def tOr(a b:FT):FT:=λδ=>(a δ).bind λx=>if x=true then some true else b δ
def tG(a:FT):FT:=λδ=>(a δ).map λx=>!x
def j9:FS:=λδ=>some (.nx δ)
def cP(a b:FS):FS:=λδ=>(a δ).bind λo=>match o with
 | .nx δ'=>b δ'
 |o=>some o
noncomputable def ab6(i:Nat)(fe:FE):FS:=λδ=>(fe δ).bind λd=>some (.nx (δ.set i (some (.d d))))
def sIf(c:FT)(a b:FS):FS:=λδ=>(c δ).bind λt=>if t=true then a δ else b δ
def ig(fe:FE):FS:=λδ=>(fe δ).bind λd=>some (.rt d)
def XM:FS:=λ_=>some (.rt .none)
def yh(fe:FE):FS:=λδ=>(fe δ).bind λ_=>some (.nx δ)
def sBk:FS:=λδ=>some (.bk δ)
def sCt:FS:=λδ=>some (.ct δ)
def gN(i:Nat):FG:=λd δ=>some (δ.set i (some (.d d)))
def lH:List D->DS->Option DS:=λl δ=>match l with
 |[]=>some δ
 |_=>none
noncomputable def dH(g:FG)(r:List D->DS->Option DS):List D->DS->Option DS:=λl δ=>match l with
 |d::Z=>(g d δ).bind λδ'=>r Z δ'
 |[]=>none
def ab7(fe:FE)(g:FG):FS:=λδ=>(fe δ).bind λd=>(g d δ).bind λδ'=>some (.nx δ')
noncomputable def mW(g:FG)(b:FS):List D->DS->Option Oc
 |[],δ=>some (.nx δ)
 |d::r,δ=>(g d δ).bind λZ=>(b Z).bind λo=>match o with
  | .nx δ'=>mW g b r δ'
  | .ct δ'=>mW g b r δ'
  | .bk δ'=>some (.nx δ')
  | .rt v=>some (.rt v)
  | .ex c f v=>some (.ex c f v)
def xH(fi:FA)(g:FG)(b:FS):FS:=λδ=>(fi δ).bind λl=>mW g b l δ
noncomputable def fD(c:FT)(b:FS):Nat->DS->Option Oc
 |0,_=>none
 |n+1,δ=>(c δ).bind λt=>if t=true then(b δ).bind λo=>match o with
     | .nx δ'=>fD c b n δ'
     | .ct δ'=>fD c b n δ'
     | .bk δ'=>some (.nx δ')
     | .rt v=>some (.rt v)
     | .ex c f v=>some (.ex c f v)
  else some (.nx δ)
theorem lX{c:FT}{b:FS}:∀{n:Nat}{δ:DS}{o:Oc},fD c b n δ=some o->∀{m:Nat},n<=m->fD c b m δ=some o
 |0,_,_,h,_,_=>by simp[fD]at h
 |n+1,δ,o,h,0,l=>by omega
 |n+1,δ,o,h,m+1,l=>by
  rw[fD]at h ⊢
  cases Z:c δ with
  |none=>rw[Z]at h;simp at h
  |some t=>
   rw[Z]at h;simp only[aj]at h ⊢
   cases t with
   |false=>exact h
   |true=>
    simp only[if_pos]at h ⊢
    cases hb:b δ with
    |none=>rw[hb]at h;simp at h
    |some q=>
     rw[hb]at h;simp only[aj]at h ⊢
     cases q with
     |nx δ'=>exact lX h (by omega)
     |ct δ'=>exact lX h (by omega)
     |bk δ'=>exact h
     |rt v=>exact h
     |ex c f v=>exact h
theorem Eb{c:FT}{b:FS}{n m:Nat}{δ:DS}{o o':Oc}(h:fD c b n δ=some o)(h':fD c b m δ=some o'):o=o':=by
 have a:=lX h (Nat.le_max_left n m);have Z:=lX h' (Nat.le_max_right n m);rw[a]at Z;exact cL.inj Z
open Classical in
def tO(c:FT)(b:FS):FS:=λδ=>if h:∃o n,fD c b n δ=some o then some (Classical.choose h)else none
theorem yj{c:FT}{b:FS}{n:Nat}{δ:DS}{o:Oc}(h:fD c b n δ=some o):tO c b δ=some o:=by
 have e:∃o n,fD c b n δ=some o:=⟨o,n,h⟩;unfold tO;rw[dif_pos e];obtain⟨m,hm⟩:=eJ e;rw[Eb hm h]
theorem Ec{c:FT}{b:FS}{δ:DS}{o:Oc}(h:tO c b δ=some o):∃n,fD c b n δ=some o:=by
 unfold tO at h;by_cases e:∃o n,fD c b n δ=some o
 ·rw[dif_pos e]at h;have:=eJ e;rwa[cL.inj h]at this
 ·rw[dif_neg e]at h
  cases h
noncomputable def fnD(p q:Nat)(b:FS):List D->Option D:=λds=>if ds.length=p then match b (ds.map (λd=>some (.d d))++bK q none)with
 |some (.rt d)=>some d
 |some (.nx _)=>some .none
 |_=>none
 else none
def jf(t:Nat)(ix:List Nat)(δ:DS):DS:=bK t none++ix.map λj=>(δ[j]?).getD none
noncomputable def fX(g:FG)(c:FT)(e:FE)(δ:DS):List D->Option (List D)
 |[]=>some []
 |d::r=>(g d δ).bind λZ=>(c Z).bind λb=>if b=true then(e Z).bind λx=>(fX g c e δ r).bind λl=>some (x::l)else fX g c e δ r
def jH(fi:FA)(g:FG)(c:FT)(e:FE)(t:Nat)(ix:List Nat):FE:=λδ=>(fi δ).bind λl=>if l.length<=100000 then(fX g c e (jf t ix δ) l).bind λr=>some (.list r)else none
def uM:FT:=λ_=>some true
noncomputable def gI(g:Int->Int->Option D):D->D->Option D:=λx y=>match x,y with
 | .int i,.int j=>g i j
 |_,_=>none
noncomputable def pIx(n:Nat)(i:Int):Option Nat:=if 0<=i then(if i<n then some i.toNat else none)else if -(n:Int)<=i then some (i+n).toNat else none
def pAt(xs:List D)(i:Int):Option D:=(pIx xs.length i).bind λj=>xs[j]?
def isT(c T:String):Bool:=T==c||(T=="bool"&&c=="int")
def cG(i:Nat)(fe:FE):FS:=λδ=>if i<δ.length then ab6 i fe δ else none
def j_:D->D->Option D:=gI λi j=>some (.int (i+j))
def ab8:D->D->Option D:=gI λi j=>some (.int (i-j))
def vO(i j:Int):Bool:=decide (i.natAbs<2^64)||decide (j.natAbs<2^64)||(decide (i.natAbs<2^30000)&&decide (j.natAbs<2^30000))
def nW:D->D->Option D:=gI λi j=>if vO i j=true then some (.int (i*j))else none
def Ed(_ j:Int):Bool:=decide (j≠0)&&decide (j.natAbs<2^9000)
def Bf:D->D->Option D:=gI λi j=>if Ed i j=true then some (.int (i.fdiv j))else none
def oK:D->D->Option D:=gI λi j=>if decide (j≠0)=true then some (.int (i.fmod j))else none
def Vp(i j:Int):Bool:=decide (0<=j)&&decide (j<=1000)&&decide (i.natAbs<2^64)
def Vq:D->D->Option D:=gI λi j=>if Vp i j=true then some (.int (i^j.toNat))else none
def gLt:D->D->Option D:=gI λi j=>some (.bool (decide (i<j)))
def gLe:D->D->Option D:=gI λi j=>some (.bool (decide (i<=j)))
def gGt:D->D->Option D:=gI λi j=>some (.bool (decide (j<i)))
def gGe:D->D->Option D:=gI λi j=>some (.bool (decide (j<=i)))
def gEq:D->D->Option D:=λx y=>if(dr x&&dr y)=true then some (.bool (ef x y))else none
def gNe:D->D->Option D:=λx y=>if(dr x&&dr y)=true then some (.bool (!PyData.eqv x y))else none
def gNl(i:Nat):FG:=λd δ=>if i<δ.length then gN i d δ else none
def gTn(n:Nat)(g:List D->DS->Option DS):FG:=λd δ=>match d with
 | .tuple l=>if l.length=n then g l δ else none
 |_=>none
def yV(i:Nat)(f:FE):FS:=λδ=>(aB i δ).bind λx=>(f δ).bind λd=>match x with
 | .list l=>if l.length<1000000 then some (.nx (δ.set i (some (.d (.list (l++[d]))))))else none
 |_=>none
def ab9(i:Nat)(fk f:FE):FS:=λδ=>(f δ).bind λd=>(aB i δ).bind λx=>(fk δ).bind λk=>match x,k with
 | .list l,.int j=>(pIx l.length j).bind λn=>some (.nx (δ.set i (some (.d (.list (l.set n d))))))
 |_,_=>none
def ac0:D->Option (List D)
 | .list l=>some l
 | .tuple l=>some l
 |_=>none
def putAt(x:D)(n:Nat)(d:D):D:=match x with
 | .list l=>.list (l.set n d)
 | .tuple l=>.tuple (l.set n d)
 |x=>x
noncomputable def asList:D->Option (List D)
 | .list l=>some l
 |_=>none
def Jh(f:FE):FA:=λδ=>(f δ).bind asList
noncomputable def gO(lo hi:Int):List D:=(bH (hi-lo).toNat).map λ(k:Nat)=>.int (lo+(k:Int))
def pY(i:Int):Bool:=decide (-(2^62)<=i)&&decide (i<2^62)
def uz(fa:FA):FA:=λδ=>(fa δ).bind λl=>match l with
 |[.int j]=>if pY j=true then some (gO 0 j)else none
 |_=>none
def Gp(fa:FA):FA:=λδ=>(fa δ).bind λl=>match l with
 |[.int i,.int j]=>if(pY i&&pY j)=true then some (gO i j)else none
 |_=>none
def gIx:D->D->Option D:=λx y=>match x,y with
 | .list l,.int i=>pAt l i
 | .tuple l,.int i=>pAt l i
 |_,_=>none
noncomputable def mG(g g':D->D->Option D)(fa fb fc:FE):FE:=λδ=>(fa δ).bind λx=>(fb δ).bind λy=>(g x y).bind λz=>match z with
 | .bool true=>(fc δ).bind λw=>g' y w
 | .bool false=>some (.bool false)
 |_=>none
noncomputable def Gq(g g' q:D->D->Option D)(fa fb fc fd:FE):FE:=λδ=>(fa δ).bind λx=>(fb δ).bind λy=>(g x y).bind λz=>match z with
 | .bool true=>(fc δ).bind λw=>(g' y w).bind λZ=>match Z with
  | .bool true=>(fd δ).bind λu=>q w u
  | .bool false=>some (.bool false)
  |_=>none
 | .bool false=>some (.bool false)
 |_=>none
noncomputable def isNone:D->Bool
 | .none=>true
 |_=>false
def Ji:D->Option D:=λx=>some (.bool (isNone x))
def XQ:D->Option D:=λx=>some (.bool (!isNone x))
def tQ:List D->Option D
 |[.list l]=>some (.int l.length)
 |[.tuple l]=>some (.int l.length)
 |_=>none
noncomputable def iz:List D->Option (List Int)
 |[]=>some []
 | .int i::r=>(iz r).map (i :: ·)
 |_=>none
def mxI(i:Int)(r:List Int):Int:=r.foldl (λa b=>if a<b then b else a) i
def Bg:List D->Option D
 |[.list l]=>match iz l with
  |some (i::r)=>some (.int (mxI i r))
  |_=>none
 |_=>none
noncomputable def insI(x:Int):List Int->List Int
 |[]=>[x]
 |y::r=>if x<=y then x::y::r else y::insI x r
def jW:List Int->List Int
 |[]=>[]
 |x::r=>insI x (jW r)
def Bh:List D->Option D
 |[.list l]=>(iz l).bind λns=>if ns.length<64 then some (.list ((jW ns).map .int))else none
 |_=>none
def Ef:List D->Option D
 |[.int i]=>some (.int i)
 |[.bool b]=>some (.int (if b then 1 else 0))
 |_=>none
def ac1:List D->Option D
 |[.int i]=>some (.int (if i<0 then -i else i))
 |_=>none
def XR:List D->Option D
 |[.int i,.int j]=>some (.int (if j>i then j else i))
 |_=>none
def Gr:List D->Option D
 |[.int i,.int j]=>some (.int (if j<i then j else i))
 |_=>none
noncomputable def tyD:D->String
 | .none => "NoneType"
 | .bool _ => "bool"
 | .int _ => "int"
 | .str _ => "str"
 | .list _ => "list"
 | .tuple _ => "tuple"
 | .dict _ => "dict"
def noI:D->Bool
 | .dict kvs=>!isI kvs
 |_=>true
def gIs(c:String):D->Option D:=λd=>if noI d=true then some (.bool (isT c (tyD d)))else none
def tR:D->Option D
 | .int i=>some (.int (-i))
 |_=>none
noncomputable def KR:D->D->Option D:=λx y=>match x,y with
 | .list l,.list m=>if l.length+m.length<=1000000 then some (.list (l++m))else none
 |_,_=>none
def rR:D->Option D
 | .list l=>some (.list l)
 | .tuple l=>some (.list l)
 |_=>none
abbrev FO:=DS->Option (Option Int)
def KY:FO:=λ_=>some none
def KZ(f:FE):FO:=λδ=>(f δ).bind λx=>match x with
 | .int i=>some (some i)
 |_=>none
noncomputable def pSx(n d:Nat):Option Int->Nat
 |none=>d
 |some i=>if i<0 then(i+n).toNat else min i.toNat n
def cuD(xs:List D)(lo hi:Option Int):List D:=(xs.drop (pSx xs.length 0 lo)).take (pSx xs.length xs.length hi-pSx xs.length 0 lo)
def dSl(f:FE)(lo hi:FO):FE:=λδ=>(f δ).bind λx=>(lo δ).bind λa=>(hi δ).bind λb=>match x with
 | .list l=>some (.list (cuD l a b))
 |_=>none
noncomputable def ac2(i j:Nat)(fa:FA):FS:=λδ=>(fa δ).bind λl=>match l with
 |[x,y]=>if i<δ.length/\j<δ.length then some (.nx ((δ.set i (some (.d x))).set j (some (.d y))))else none
 |_=>none
noncomputable def oV(l:List D):List D:=l.mapIdx λi x=>.tuple [.int (i:Int),x]
def Gs(f:FE):FA:=λδ=>(f δ).bind λd=>match d with
 | .list l=>some (oV l)
 |_=>none
def mnI(i:Int)(r:List Int):Int:=r.foldl (λa b=>if b<a then b else a) i
def K1:List D->Option D
 |[.list l]=>match iz l with
  |some (i::r)=>some (.int (mnI i r))
  |_=>none
 |_=>none
noncomputable def mH:List D->Option (List Bool)
 |[]=>some []
 | .bool b::r=>(mH r).map (b :: ·)
 |_=>none
def Eh:List D->Option D
 |[.list l]=>(mH l).map λbs=>.bool (bs.all id)
 |_=>none
noncomputable def qt:List D->List D->List D
 |x::r,y::s=>.tuple [x,y]::qt r s
 |_,_=>[]
def ac3(f g:FE):FA:=λδ=>(f δ).bind λd=>(g δ).bind λe=>match d,e with
 | .list l,.list m=>some (qt l m)
 |_,_=>none
def QC(f:FE):FA:=λδ=>(f δ).bind λd=>match d with
 | .list l=>some l.reverse
 |_=>none
theorem rT:∀(r:List Int)(i:Int),mnI i r∈i::r/\∀a∈i::r,mnI i r<=a
 |[],i=>⟨aA,λa h=>by rw[bJ.mp h];exact gq _⟩
 |b::r,i=>by
  have Z:=rT r (if b<i then b else i);have e:mnI i (b::r)=mnI (if b<i then b else i) r:=rfl;rw[e]
  constructor
  ·rcases aN.mp Z.1 with z|z
   ·rw[z];split<;>simp
   ·exact au _ (au _ z)
  ·intro a h;have Y:=Z.2 _ aA;have hb:(if b<i then b else i)<=i/\(if b<i then b else i)<=b:=by split<;>omega
   rcases aN.mp h with rfl|h
   ·exact lq Y hb.1
   ·rcases aN.mp h with rfl|h
    ·exact lq Y hb.2
    ·exact Z.2 a (au _ h)
theorem vQ:∀(r:List Int)(i:Int),mxI i r∈i::r/\∀a∈i::r,a<=mxI i r
 |[],i=>⟨aA,λa h=>by rw[bJ.mp h];exact gq _⟩
 |b::r,i=>by
  have Z:=vQ r (if i<b then b else i);have e:mxI i (b::r)=mxI (if i<b then b else i) r:=rfl;rw[e]
  constructor
  ·rcases aN.mp Z.1 with z|z
   ·rw[z];split<;>simp
   ·exact au _ (au _ z)
  ·intro a h;have Y:=Z.2 _ aA;have hb:i<=(if i<b then b else i)/\b<=(if i<b then b else i):=by split<;>omega
   rcases aN.mp h with rfl|h
   ·exact lq hb.1 Y
   ·rcases aN.mp h with rfl|h
    ·exact lq hb.2 Y
    ·exact Z.2 a (au _ h)
theorem insI_perm(x:Int):∀l,(insI x l).Perm (x::l)
 |[]=>.refl _
 |y::r=>by
  unfold insI;split
  ·exact .refl _
  ·exact((insI_perm x r).cons y).trans (.swap x y r)
theorem dY:∀l,(jW l).Perm l
 |[]=>.refl _
 |x::r=>(insI_perm x _).trans ((dY r).cons x)
theorem uD(x:Int):∀l,l.Pairwise (· <= ·)->(insI x l).Pairwise (· <= ·)
 |[],_=>by simp[insI]
 |y::r,h=>by
  obtain⟨h1,h2⟩:=dg.mp h;unfold insI;split
  ·next c=>
   refine dg.mpr ⟨λa ha=>?_,h⟩;rcases aN.mp ha with rfl|z
   ·exact c
   ·exact lq c (h1 a z)
  ·next c=>
   refine dg.mpr ⟨λa ha=>?_,uD x r h2⟩;rcases aN.mp ((insI_perm x r).mem_iff.mp ha)with rfl|z
   ·omega
   ·exact h1 a z
theorem ju:∀l,(jW l).Pairwise (· <= ·)
 |[]=>.nil
 |x::r=>uD x _ (ju r)
end D3
namespace D3
open L2 My
abbrev Ok:=Addr->Prop
abbrev St:=L2.St
class Chg (u:HO):Prop where
 ch:(∃xs,u = .lst xs)\/(∃kvs,u = .dK kvs)\/∃kvs,u = .dT kvs
instance (xs:List V):Chg (.lst xs):=⟨.inl ⟨xs,rfl⟩⟩
instance (kvs:List (Key×V)):Chg (.dK kvs):=⟨.inr (.inl ⟨kvs,rfl⟩)⟩
instance (kvs:List (List Key×V)):Chg (.dT kvs):=⟨.inr (.inr ⟨kvs,rfl⟩)⟩
theorem Chg.frz{o:Obj}{u:HO}(h:Chg (.frz o u)):False:=by
 rcases h.ch with⟨_,z⟩|⟨_,z⟩|⟨_,z⟩<;>cases z
theorem Chg.tup{xs:List V}(h:Chg (.tup xs)):False:=by
 rcases h.ch with⟨_,z⟩|⟨_,z⟩|⟨_,z⟩<;>cases z
theorem Chg.ins{C dx:Addr}{fs:List (Str×V)}(h:Chg (.ins C dx fs)):False:=by
 rcases h.ch with⟨_,z⟩|⟨_,z⟩|⟨_,z⟩<;>cases z
theorem Chg.own{x:Addr}(h:Chg (.own x)):False:=by
 rcases h.ch with⟨_,z⟩|⟨_,z⟩|⟨_,z⟩<;>cases z
def Chd(o:Option HO):Prop:=∃u,o=some u/\Chg u
theorem Chd.ne{o:Option HO}(h:Chd o):o≠none:=by
 obtain⟨u,rfl,_⟩:=h;simp
def SqK(K:PySem.W.Frag)(H:Hp)(a:Addr)(xs:List V):Prop:=(∃o,H a=some (.frz o (.lst xs))) \/
 ∃(o:Obj)(its:Array Value)(n:Nat),K.lookup a=some o/\o.cls = .type "list"/\o.dict=none/\o.data = .seq its n/\its.size<=sizeLine/\Vals xs its.toList
theorem SqK.sq{K:PySem.W.Frag}{H:Hp}{a:Addr}{xs:List V}(h:SqK K H a xs):SqL K H a xs:=by
 rcases h with⟨o,h⟩|h
 ·exact .inl (.inr ⟨o,h⟩)
 ·exact .inr h
def fZ(H:Hp)(a:Addr)(xs:List V):Prop:=H a=some (.tup xs)
theorem fZ.sq{K:PySem.W.Frag}{H:Hp}{a:Addr}{xs:List V}(h:fZ H a xs):SqT K H a xs:=.inl (.inl h)
theorem fZ.same{H H':Hp}{a:Addr}{xs:List V}(e:Same H H')(h:fZ H a xs):fZ H' a xs:=e _ _ h
theorem fZ.upd{H:Hp}{a b:Addr}{xs:List V}{u o:HO}[J:Chg u](h:H a=some u)(q:fZ H b xs):fZ (upd H a o) b xs:=by
 unfold fZ;rwa[bf (cU q h (by intro z;subst z;exact J.tup))]
noncomputable def dk0:List (D×D)->List (Key×V)
 |[]=>[]
 | (.int i,.int j)::r=>(.inl i,.int j)::dk0 r
 | (.int i,.bool true)::r=>(.inl i,.bl true)::dk0 r
 | (.str x,.int j)::r=>(.inr x,.int j)::dk0 r
 |_::r=>(.inl 0,.non)::dk0 r
noncomputable def tkK:List D->Option (List Key)
 |[]=>some []
 | .int i::r=>(tkK r).map (.inl i :: ·)
 |_=>none
def tkD:List (D×D)->Option (List (List Key×V))
 |[]=>some []
 | (.tuple l,.bool true)::r=>(tkK l).bind λk=>(tkD r).map ((k,.bl true) :: ·)
 |_=>none
def dh0(kvs:List (D×D)):HO:=match kvs with
 |[]=>.dK []
 |q::r=>match tkD (q::r)with
  |some ts=>.dT ts
  |none=>.dK (dk0 (q::r))
theorem K3(kvs:List (D×D)):(∃ks,dh0 kvs = .dK ks)\/∃ks,dh0 kvs = .dT ks:=by
 cases kvs with
 |nil=>exact .inl ⟨_,rfl⟩
 |cons q r=>
  unfold dh0;dsimp only;split
  ·exact .inr ⟨_,rfl⟩
  ·exact .inl ⟨_,rfl⟩
instance (kvs:List (D×D)):Chg (dh0 kvs):=⟨by
 rcases K3 kvs with⟨ks,z⟩|⟨ks,z⟩
 ·exact .inr (.inl ⟨ks,z⟩)
 ·exact .inr (.inr ⟨ks,z⟩)⟩
def scV:D->V
 | .int i=>.int i
 |_=>.non
def scs:List D->Bool
 |[]=>true
 | .int _::r=>scs r
 | .none::r=>scs r
 |_=>false
def TV(H:Hp)(v:V)(d:D):Prop:=(v = .non/\d = .none)\/∃b ds,v = .ref b/\d = .tuple ds/\fZ H b (ds.map scV)/\scs ds=true
inductive TVs(H:Hp):List (Key×V)->List (D×D)->Prop
 |nil:TVs H [] []
 |cons {i:Int} {v:V} {d:D} {r:List (Key×V)} {r':List (D×D)}:TV H v d->TVs H r r'->TVs H ((.inl i,v)::r) ((.int i,d)::r')
theorem TV.imp{H H':Hp}(h:∀b xs,fZ H b xs->fZ H' b xs){v:V}{d:D}(q:TV H v d):TV H' v d:=by
 rcases q with q|⟨b,ds,h1,h2,h3,h4⟩
 ·exact .inl q
 ·exact .inr ⟨b,ds,h1,h2,h _ _ h3,h4⟩
theorem TVs.imp{H H':Hp}(h:∀b xs,fZ H b xs->fZ H' b xs){ks:List (Key×V)}{kvs:List (D×D)}(q:TVs H ks kvs):TVs H' ks kvs:=by
 induction q with
 |nil=>exact .nil
 |cons t _ Z=>exact .cons (t.imp h) Z
def vR:List (D×D)->Bool
 |[]=>true
 | (_,.int _)::r=>vR r
 | (_,.bool _)::r=>vR r
 |_=>false
def TW(H:Hp)(v:V)(m:List Int)(z:Int):Prop:=∃b c,v = .ref b/\fZ H b [.ref c,.int z]/\fZ H c (m.map V.int)
inductive TTs(H:Hp):List (List Key×V)->List (D×D)->Prop
 |nil:TTs H [] []
 |cons {k m:List Int} {z:Int} {v:V} {r:List (List Key×V)} {r':List (D×D)}:TW H v m z->TTs H r r'->TTs H ((k.map dP,v)::r) ((.tuple (k.map .int),.tuple [.tuple (m.map .int),.int z])::r')
theorem TTs.imp{H H':Hp}(h:∀b xs,fZ H b xs->fZ H' b xs){ks:List (List Key×V)}{kvs:List (D×D)}(q:TTs H ks kvs):TTs H' ks kvs:=by
 induction q with
 |nil=>exact .nil
 |cons t _ Z=>
  obtain⟨b,c,h1,h2,h3⟩:=t;exact .cons ⟨b,c,h1,h _ _ h2,h _ _ h3⟩ Z
def DH(H:Hp)(u:HO)(kvs:List (D×D)):Prop:=(vR kvs=true/\u=dh0 kvs)\/(∃ks,u = .dK ks/\TVs H ks kvs)\/∃q ks,u = .dT (q::ks)/\TTs H (q::ks) kvs
theorem DH.imp{H H':Hp}(h:∀b xs,fZ H b xs->fZ H' b xs){u:HO}{kvs:List (D×D)}(q:DH H u kvs):DH H' u kvs:=by
 rcases q with q|⟨ks,q1,q2⟩|⟨k,ks,q1,q2⟩
 ·exact .inl q
 ·exact .inr (.inl ⟨ks,q1,q2.imp h⟩)
 ·exact .inr (.inr ⟨k,ks,q1,q2.imp h⟩)
theorem DH.same{H H':Hp}{u:HO}{kvs:List (D×D)}(q:DH H u kvs)(e:Same H H'):DH H' u kvs:=q.imp λ_ _ h=>fZ.same e h
theorem DH.upd{H:Hp}{a:Addr}{u o J:HO}[O:Chg u]{kvs:List (D×D)}(q:DH H J kvs)(h:H a=some u):DH (upd H a o) J kvs:=q.imp λ_ _ z=>fZ.upd h z
theorem DH.or{H:Hp}{u:HO}{kvs:List (D×D)}(q:DH H u kvs):(∃ks,u = .dK ks)\/∃ks,u = .dT ks:=by
 rcases q with⟨_,rfl⟩|⟨ks,rfl,_⟩|⟨k,ks,rfl,_⟩
 ·exact K3 kvs
 ·exact .inl ⟨ks,rfl⟩
 ·exact .inr ⟨_,rfl⟩
theorem DH.chg{H:Hp}{u:HO}{kvs:List (D×D)}(q:DH H u kvs):Chg u:=⟨.inr q.or⟩
theorem DH.old{H:Hp}{u:HO}{kvs:List (D×D)}(q:DH H u kvs)(h:vR kvs=true):u=dh0 kvs:=by
 rcases q with q|⟨ks,rfl,q⟩|⟨k,ks,rfl,q⟩
 ·exact q.2
 ·cases q with
  |nil=>rfl
  |cons t _=>
   rcases t with⟨_,rfl⟩|⟨_,_,_,rfl,_,_⟩<;>cases h
 ·cases q with
  |cons _ _=>cases h
theorem K4{kvs:List (D×D)}(h:isI kvs=true):∃x r,kvs=(.none,.tuple x)::r:=by
 unfold isI at h;split at h
 ·exact⟨_,_,rfl⟩
 ·cases h
theorem Gv{kvs:List (D×D)}(h:vR kvs=true):isI kvs=false:=by
 cases q:isI kvs with
 |false=>rfl
 |true=>
  obtain⟨x,r,rfl⟩:=K4 q
  cases h
theorem DH.isI{H:Hp}{u:HO}{kvs:List (D×D)}(q:DH H u kvs):D3.isI kvs=false:=by
 cases h:D3.isI kvs with
 |false=>rfl
 |true=>
  obtain⟨x,r,rfl⟩:=K4 h;rcases q with⟨z,_⟩|⟨ks,_,z⟩|⟨k,ks,_,z⟩
  ·cases z
  ·cases z
  ·generalize k::ks=l at z;generalize Z:((PyData.none,dA x)::r:List (D×D))=m at z
   cases z with
   |nil=>cases Z
   |cons _ _=>cases Z
theorem K5{C:Addr}:∀{ns:List Str}{ds:List D},ns.length=ds.length->nlk (yU ns ds)=nls ds
 |[],[],_=>rfl
 |n::ns,d::ds,h=>by
  rw[yU,nlk,nls,K5 (C:=C) (Nat.succ.inj h)]
mutual
inductive RA(K:PySem.W.Frag)(ok:Ok)(pl:Bool)(H:Hp):V->D->Prop
 |non:RA K ok pl H .non .none
 |bl (b:Bool):RA K ok pl H (.bl b) (.bool b)
 |int (i:Int):RA K ok pl H (.int i) (.int i)
 |str (x:Str):RA K ok pl H (.str x) (.str x)
 |lst {a:Addr} {xs:List V} {ds:List D}:H a=some (.lst xs)->ok a->RAs K ok pl H xs ds->RA K ok pl H (.ref a) (.list ds)
 |lsk {a:Addr} {xs:List V} {ds:List D}:SqK K H a xs->pl=true->RAs K ok pl H xs ds->RA K ok pl H (.ref a) (.list ds)
 |tup {a:Addr} {xs:List V} {ds:List D}:fZ H a xs->RAs K ok pl H xs ds->RA K ok pl H (.ref a) (.tuple ds)
 |dic {a:Addr} {u:HO} {kvs:List (D×D)}:H a=some u->DH H u kvs->ok a->RA K ok pl H (.ref a) (.dict kvs)
 |dik {a:Addr} {u:HO} {kvs:List (D×D)} {o:Obj}:H a=some (.frz o u)->DH H u kvs->pl=true->RA K ok pl H (.ref a) (.dict kvs)
 |ins {a C dx:Addr} {fs:List (Str×V)} {ds:List D} {kvs:List (D×D)}:H a=some (.ins C dx fs)->H dx=some (.own a)->RAs K ok pl H (fs.map (·.2)) ds->kvs=pX C (fs.map (·.1)) ds->RA K ok pl H (.ref a) (.dict kvs)
inductive RAs(K:PySem.W.Frag)(ok:Ok)(pl:Bool)(H:Hp):List V->List D->Prop
 |nil:RAs K ok pl H [] []
 |cons {v:V} {d:D} {vs:List V} {ds:List D}:RA K ok pl H v d->RAs K ok pl H vs ds->RAs K ok pl H (v::vs) (d::ds)
end
section
variable{K:PySem.W.Frag}{ok ok':Ok}{pl pl':Bool}{H H':Hp}
theorem RA.ind{P:V->D->Prop}{Q:List V->List D->Prop}(c1:P .non .none)(c2:∀b,P (.bl b) (.bool b))(c3:∀i,P (.int i) (.int i))(c4:∀x,P (.str x) (.str x))
 (c5:∀{a:Addr}{xs:List V}{ds:List D},H a=some (.lst xs)->ok a->Q xs ds->P (.ref a) (.list ds)) (c6:∀{a:Addr}{xs:List V}{ds:List D},SqK K H a xs->pl=true->Q xs ds->P (.ref a) (.list ds)) (c7:∀{a:Addr}{xs:List V}{ds:List D},fZ H a xs->Q xs ds->P (.ref a) (.tuple ds))
 (Z:∀{a:Addr}{u:HO}{kvs:List (D×D)},H a=some u->DH H u kvs->ok a->P (.ref a) (.dict kvs)) (Y:∀{a:Addr}{u:HO}{kvs:List (D×D)}{o:Obj},H a=some (.frz o u)->DH H u kvs->pl=true->P (.ref a) (.dict kvs)) (J:∀{a C dx:Addr}{fs:List (Str×V)}{ds:List D}{kvs:List (D×D)},H a=some (.ins C dx fs)->H dx=some (.own a)->Q (fs.map (·.2)) ds->kvs=pX C (fs.map (·.1)) ds->P (.ref a) (.dict kvs)) (U:Q [] []) (O:∀{v:V}{d:D}{vs:List V}{ds:List D},P v d->Q vs ds->Q (v::vs) (d::ds)) :
 (∀{v:V}{d:D},RA K ok pl H v d->P v d)/\∀{v:List V}{d:List D},RAs K ok pl H v d->Q v d:=
 ⟨λh=>RA.rec (motive_1:=λv d _=>P v d) (motive_2:=λv d _=>Q v d) c1 c2 c3 c4 (λh o _ q=>c5 h o q) (λh o _ q=>c6 h o q) (λh _ q=>c7 h q) (λh g o=>Z h g o) (λh g o=>Y h g o) (λh g _ e q=>J h g q e) U (λ_ _ a q=>O a q) h,
  λh=>RAs.rec (motive_1:=λv d _=>P v d) (motive_2:=λv d _=>Q v d) c1 c2 c3 c4 (λh o _ q=>c5 h o q) (λh o _ q=>c6 h o q) (λh _ q=>c7 h q) (λh g o=>Z h g o) (λh g o=>Y h g o) (λh g _ e q=>J h g q e) U (λ_ _ a q=>O a q) h⟩
theorem RA.imp2(O:∀a,ok a->ok' a)(J:pl=true->pl'=true):(∀{v:V}{d:D},RA K ok pl H v d->RA K ok' pl' H v d)/\∀{v:List V}{d:List D},RAs K ok pl H v d->RAs K ok' pl' H v d:=
 RA.ind .non .bl .int .str (λh o q=>.lst h (O _ o) q) (λh o q=>.lsk h (J o) q) (λh q=>.tup h q) (λh g o=>.dic h g (O _ o)) (λh g o=>.dik h g (J o)) (λh g q e=>.ins h g q e) .nil .cons
theorem RA.imp(J:∀a,ok a->ok' a)(q:pl=true->pl'=true){v:V}{d:D}(h:RA K ok pl H v d):RA K ok' pl' H v d:=(RA.imp2 J q).1 h
theorem RAs.imp(J:∀a,ok a->ok' a)(q:pl=true->pl'=true){v:List V}{d:List D}(h:RAs K ok pl H v d):RAs K ok' pl' H v d:=(RA.imp2 J q).2 h
theorem SqK.same{a:Addr}{xs:List V}(e:Same H H')(h:SqK K H a xs):SqK K H' a xs:=by
 rcases h with⟨o,h⟩|h
 ·exact .inl ⟨o,e _ _ h⟩
 ·exact .inr h
theorem RA.same2(e:Same H H'):(∀{v:V}{d:D},RA K ok pl H v d->RA K ok pl H' v d)/\∀{v:List V}{d:List D},RAs K ok pl H v d->RAs K ok pl H' v d:=
 RA.ind .non .bl .int .str (λh o q=>.lst (e _ _ h) o q) (λh o q=>.lsk (h.same e) o q) (λh q=>.tup (fZ.same e h) q) (λh g o=>.dic (e _ _ h) (g.same e) o) (λh g o=>.dik (e _ _ h) (g.same e) o) (λh g q Z=>.ins (e _ _ h) (e _ _ g) q Z) .nil .cons
theorem RA.same(e:Same H H'){v:V}{d:D}(h:RA K ok pl H v d):RA K ok pl H' v d:=(RA.same2 e).1 h
theorem RAs.same(e:Same H H'){v:List V}{d:List D}(h:RAs K ok pl H v d):RAs K ok pl H' v d:=(RA.same2 e).2 h
theorem RA.flat2:(∀{v:V}{d:D},RA K ok pl H v d->flat d=true->RA K ok' pl' H v d)/\∀{v:List V}{d:List D},RAs K ok pl H v d->flats d=true->RAs K ok' pl' H v d:=
 RA.ind (λ_=>.non) (λb _=>.bl b) (λi _=>.int i) (λx _=>.str x) (λ_ _ _ h=>by simp[D3.flat]at h) (λ_ _ _ h=>by simp[D3.flat]at h) (λt q h=>.tup t (q (by simpa[D3.flat]using h))) (λ_ _ _ h=>by simp[D3.flat]at h) (λ_ _ _ h=>by simp[D3.flat]at h) (λ_ _ _ _ h=>by simp[D3.flat]at h) (λ_=>.nil) λa q h=>by
  rw[flats,aX]at h;exact .cons (a h.1) (q h.2)
theorem RA.flat{v:V}{d:D}(q:flat d=true)(h:RA K ok pl H v d):RA K ok' pl' H v d:=RA.flat2.1 h q
theorem RAs.flat{v:List V}{d:List D}(q:flats d=true)(h:RAs K ok pl H v d):RAs K ok' pl' H v d:=RA.flat2.2 h q
theorem SqK.upd{a b:Addr}{xs:List V}{u o:HO}[J:Chg u](h:H a=some u)(q:SqK K H b xs):SqK K (upd H a o) b xs:=by
 rcases q with⟨o',q⟩|q
 ·refine .inl ⟨o',?_⟩;rwa[bf (cU q h (by intro z;subst z;first|exact J.frz|exact J.tup))]
 ·exact .inr q
theorem RA.upd2{a:Addr}{u o:HO}[J:Chg u](h:H a=some u)(O:¬ok a):(∀{v:V}{d:D},RA K ok pl H v d->RA K ok pl (upd H a o) v d)/\∀{v:List V}{d:List D},RAs K ok pl H v d->RAs K ok pl (upd H a o) v d:=
 RA.ind .non .bl .int .str (λe k q=>.lst (by rw[bf (by intro z;subst z;exact O k)];exact e) k q) (λe k q=>.lsk (e.upd h) k q) (λe q=>.tup (fZ.upd h e) q) (λe g k=>.dic (by rw[bf (by intro z;subst z;exact O k)];exact e) (g.upd h) k) (λe g k=>.dik (by rw[bf (cU e h (by intro z;subst z;exact J.frz))];exact e) (g.upd h) k) (λe g q Z=>.ins (by rw[bf (cU e h (by intro z;subst z;exact J.ins))];exact e) (by rw[bf (cU g h (by intro z;subst z;exact J.own))];exact g) q Z) .nil .cons
theorem RA.upd{a:Addr}{u o:HO}[J:Chg u](h:H a=some u)(q:¬ok a){v:V}{d:D}(r:RA K ok pl H v d):RA K ok pl (upd H a o) v d:=(RA.upd2 h q).1 r
theorem RAs.upd{a:Addr}{u o:HO}[J:Chg u](h:H a=some u)(q:¬ok a){v:List V}{d:List D}(r:RAs K ok pl H v d):RAs K ok pl (upd H a o) v d:=(RA.upd2 h q).2 r
theorem RA.track2:(∀{v:V}{d:D},RA K ok pl H v d->RA K (λb=>ok b/\H b≠none) pl H v d)/\∀{v:List V}{d:List D},RAs K ok pl H v d->RAs K (λb=>ok b/\H b≠none) pl H v d:=
 RA.ind .non .bl .int .str (λe k q=>.lst e ⟨k,by rw[e];simp⟩ q) (λe k q=>.lsk e k q) (λe q=>.tup e q) (λe g k=>.dic e g ⟨k,by rw[e];simp⟩) (λe g k=>.dik e g k) (λh g q e=>.ins h g q e) .nil .cons
theorem RA.track{v:V}{d:D}(h:RA K ok pl H v d):RA K (λb=>ok b/\H b≠none) pl H v d:=RA.track2.1 h
theorem RAs.track{v:List V}{d:List D}(h:RAs K ok pl H v d):RAs K (λb=>ok b/\H b≠none) pl H v d:=RA.track2.2 h
theorem RAs.length:∀{v:List V}{d:List D},RAs K ok pl H v d->v.length=d.length
 |_,_,.nil=>rfl
 |_,_,.cons _ q=>by simp[RAs.length q]
theorem RAs.get:∀{v:List V}{d:List D}{i:Nat}{x:D},RAs K ok pl H v d->d[i]? = some x->∃y,v[i]? = some y/\RA K ok pl H y x
 |_,_,_,_,.nil,h=>by simp at h
 |_,_,0,_,.cons a _,h=>by simp at h;subst h;exact⟨_,rfl,a⟩
 |_,_,i+1,_,.cons _ q,h=>by
  obtain⟨y,e,r⟩:=RAs.get (i:=i) q (by simpa using h);exact⟨y,by simpa using e,r⟩
theorem RAs.append:∀{v J:List V}{d d':List D},RAs K ok pl H v d->RAs K ok pl H J d'->RAs K ok pl H (v++J) (d++d')
 |_,_,_,_,.nil,q=>q
 |_,_,_,_,.cons a r,q=>.cons a (RAs.append r q)
theorem RAs.take:∀{v:List V}{d:List D}(n:Nat),RAs K ok pl H v d->RAs K ok pl H (v.take n) (d.take n)
 |_,_,0,_=>by simp;exact .nil
 |_,_,_+1,.nil=>.nil
 |_,_,n+1,.cons a q=>.cons a (RAs.take n q)
theorem RAs.drop:∀{v:List V}{d:List D}(n:Nat),RAs K ok pl H v d->RAs K ok pl H (v.drop n) (d.drop n)
 |_,_,0,q=>q
 |_,_,_+1,.nil=>.nil
 |_,_,n+1,.cons _ q=>RAs.drop n q
theorem RAs.reverse:∀{v:List V}{d:List D},RAs K ok pl H v d->RAs K ok pl H v.reverse d.reverse
 |_,_,.nil=>.nil
 |_,_,.cons a q=>by
  rw[iu,iu];exact(RAs.reverse q).append (.cons a .nil)
theorem RA.rd2:(∀{v:V}{d:D},RA K ok pl H v d->d.canLay0=true->RdV K H v d)/\∀{v:List V}{d:List D},RAs K ok pl H v d->dL d=true->RdVs K H v d:=
 RA.ind (λ_=>.non) (λb _=>.bl b) (λi _=>.int i) (λx _=>.str x) (λe _ q h=>.lst (SqL.of e) (q (by simpa[dv]using h))) (λe _ q h=>.lst e.sq (q (by simpa[dv]using h))) (λe q h=>.tup e.sq (q (by simpa[dv]using h))) (λ_ _ _ h=>by simp[dv]at h) (λ_ _ _ h=>by simp[dv]at h) (λ_ _ _ _ h=>by simp[dv]at h) (λ_=>.nil) λa q h=>by
  rw[dL,aX]at h;exact .cons (a h.1) (q h.2)
theorem RA.rd{v:V}{d:D}(q:d.canLay0=true)(h:RA K ok pl H v d):RdV K H v d:=RA.rd2.1 h q
theorem RA.intE{v:V}{i:Int}(h:RA K ok pl H v (.int i)):v = .int i:=by cases h;rfl
theorem RA.blE{v:V}{b:Bool}(h:RA K ok pl H v (.bool b)):v = .bl b:=by cases h;rfl
theorem RA.strE{v:V}{x:Str}(h:RA K ok pl H v (.str x)):v = .str x:=by cases h;rfl
theorem RA.lstE{v:V}{ds:List D}(h:RA K ok pl H v (.list ds)):∃a xs,v = .ref a/\SqL K H a xs/\RAs K ok pl H xs ds:=by
 cases h with
 |lst e k q=>exact⟨_,_,rfl,SqL.of e,q⟩
 |lsk e k q=>exact⟨_,_,rfl,e.sq,q⟩
theorem RA.dicU{v:V}{kvs:List (D×D)}(h:RA K ok pl H v (.dict kvs))(hx:isI kvs=false):∃a u,v = .ref a/\L2.Rd H a u/\DH H u kvs:=by
 cases h with
 |dic e g k=>exact⟨_,_,rfl,.inl e,g⟩
 |dik e g k=>exact⟨_,_,rfl,.inr ⟨_,e⟩,g⟩
 |ins _ _ _ e=>rw[e]at hx;cases hx
theorem RA.dicE{v:V}{kvs:List (D×D)}(h:RA K ok pl H v (.dict kvs))(q:vR kvs=true):∃a,v = .ref a/\L2.Rd H a (dh0 kvs):=by
 obtain⟨a,u,h1,h2,h3⟩:=h.dicU (Gv q);rw[h3.old q]at h2;exact⟨a,h1,h2⟩
theorem RA.tupE{v:V}{ds:List D}(h:RA K ok pl H v (.tuple ds)):∃a xs,v = .ref a/\SqT K H a xs/\RAs K ok pl H xs ds:=by
 cases h with
 |tup e q=>exact⟨_,_,rfl,e.sq,q⟩
end
inductive Fl where
 |A
 |O
 |L
 |N
 |M
 |W
 deriving DecidableEq
def isN:Option Fl->Bool
 |some .N=>true
 |some .M=>true
 |some .W=>true
 |_=>false
mutual
inductive RT(K:PySem.W.Frag)(H:Hp):V->D->List Addr->Prop
 |non:RT K H .non .none []
 |bl (b:Bool):RT K H (.bl b) (.bool b) []
 |int (i:Int):RT K H (.int i) (.int i) []
 |str (x:Str):RT K H (.str x) (.str x) []
 |lst {a:Addr} {xs:List V} {ds:List D} {as:List Addr}:H a=some (.lst xs)->RTs K H xs ds as->RT K H (.ref a) (.list ds) (a::as)
 |tup {a:Addr} {xs:List V} {ds:List D} {as:List Addr}:fZ H a xs->RTs K H xs ds as->RT K H (.ref a) (.tuple ds) as
 |dic {a:Addr} {u:HO} {kvs:List (D×D)}:H a=some u->DH H u kvs->RT K H (.ref a) (.dict kvs) [a]
 |ins {a C dx:Addr} {fs:List (Str×V)} {ds:List D} {kvs:List (D×D)} {as:List Addr}:H a=some (.ins C dx fs)->H dx=some (.own a)->RTs K H (fs.map (·.2)) ds as->kvs=pX C (fs.map (·.1)) ds->RT K H (.ref a) (.dict kvs) as
inductive RTs(K:PySem.W.Frag)(H:Hp):List V->List D->List Addr->Prop
 |nil:RTs K H [] [] []
 |cons {v:V} {d:D} {vs:List V} {ds:List D} {as bs:List Addr}:RT K H v d as->RTs K H vs ds bs->RTs K H (v::vs) (d::ds) (as++bs)
end
section
variable{K:PySem.W.Frag}{H H':Hp}
theorem RT.ind{P:V->D->List Addr->Prop}{Q:List V->List D->List Addr->Prop}(c1:P .non .none [])(c2:∀b,P (.bl b) (.bool b) [])(c3:∀i,P (.int i) (.int i) [])(c4:∀x,P (.str x) (.str x) [])
 (c5:∀{a:Addr}{xs:List V}{ds:List D}{as:List Addr},H a=some (.lst xs)->Q xs ds as->P (.ref a) (.list ds) (a::as)) (Z:∀{a:Addr}{xs:List V}{ds:List D}{as:List Addr},fZ H a xs->Q xs ds as->P (.ref a) (.tuple ds) as)
 (Y:∀{a:Addr}{u:HO}{kvs:List (D×D)},H a=some u->DH H u kvs->P (.ref a) (.dict kvs) [a]) (J:∀{a C dx:Addr}{fs:List (Str×V)}{ds:List D}{kvs:List (D×D)}{as:List Addr},H a=some (.ins C dx fs)->H dx=some (.own a)->RTs K H (fs.map (·.2)) ds as->Q (fs.map (·.2)) ds as->kvs=pX C (fs.map (·.1)) ds->P (.ref a) (.dict kvs) as) (U:Q [] [] []) (O:∀{v:V}{d:D}{vs:List V}{ds:List D}{as bs:List Addr},P v d as->Q vs ds bs->Q (v::vs) (d::ds) (as++bs)) :
 (∀{v:V}{d:D}{as:List Addr},RT K H v d as->P v d as)/\∀{v:List V}{d:List D}{as:List Addr},RTs K H v d as->Q v d as:=
 ⟨λh=>RT.rec (motive_1:=λv d as _=>P v d as) (motive_2:=λv d as _=>Q v d as) c1 c2 c3 c4 (λh _ q=>c5 h q) (λh _ q=>Z h q) (λh g=>Y h g) (λh g r e q=>J h g r q e) U (λ_ _ a q=>O a q) h,
  λh=>RTs.rec (motive_1:=λv d as _=>P v d as) (motive_2:=λv d as _=>Q v d as) c1 c2 c3 c4 (λh _ q=>c5 h q) (λh _ q=>Z h q) (λh g=>Y h g) (λh g r e q=>J h g r q e) U (λ_ _ a q=>O a q) h⟩
theorem RTs.len:∀{v:List V}{d:List D}{as:List Addr},RTs K H v d as->v.length=d.length
 |_,_,_,.nil=>rfl
 |_,_,_,.cons _ q=>by rw[aW,aW,RTs.len q]
theorem RT.ra2{ok:Ok}{pl:Bool}:(∀{v:V}{d:D}{as:List Addr},RT K H v d as->(∀a∈as,ok a)->RA K ok pl H v d)/\∀{v:List V}{d:List D}{as:List Addr},RTs K H v d as->(∀a∈as,ok a)->RAs K ok pl H v d:=
 RT.ind (λ_=>.non) (λb _=>.bl b) (λi _=>.int i) (λx _=>.str x) (λe q h=>.lst e (h _ aA) (q λa ha=>h a (au _ ha))) (λe q h=>.tup e (q h)) (λe g h=>.dic e g (h _ aA)) (λe g _ q Z h=>.ins e g (q h) Z) (λ_=>.nil) λe q h=>.cons (e λa ha=>h a (bT _ ha)) (q λa ha=>h a (aR _ ha))
theorem RT.ra{ok:Ok}{pl:Bool}{v:V}{d:D}{as:List Addr}(r:RT K H v d as)(h:∀a∈as,ok a):RA K ok pl H v d:=RT.ra2.1 r h
theorem RT.same2(s:Same H H'):(∀{v:V}{d:D}{as:List Addr},RT K H v d as->RT K H' v d as)/\∀{v:List V}{d:List D}{as:List Addr},RTs K H v d as->RTs K H' v d as:=
 RT.ind .non .bl .int .str (λe q=>.lst (s _ _ e) q) (λe q=>.tup (fZ.same s e) q) (λe g=>.dic (s _ _ e) (g.same s)) (λe g _ q Z=>.ins (s _ _ e) (s _ _ g) q Z) .nil .cons
theorem RT.same(s:Same H H'){v:V}{d:D}{as:List Addr}(h:RT K H v d as):RT K H' v d as:=(RT.same2 s).1 h
theorem RTs.same(s:Same H H'){v:List V}{d:List D}{as:List Addr}(h:RTs K H v d as):RTs K H' v d as:=(RT.same2 s).2 h
theorem RT.upd2{a:Addr}{u o:HO}[J:Chg u](h:H a=some u):(∀{v:V}{d:D}{as:List Addr},RT K H v d as->a∉as->RT K (upd H a o) v d as)/\∀{v:List V}{d:List D}{as:List Addr},RTs K H v d as->a∉as->RTs K (upd H a o) v d as:=
 RT.ind (λ_=>.non) (λb _=>.bl b) (λi _=>.int i) (λx _=>.str x) (λe q Z=>.lst (by rw[bf (λz=>Z (by rw[<-z];exact aA))];exact e) (q λz=>Z (au _ z))) (λe q Z=>.tup (fZ.upd h e) (q Z)) (λe g Z=>.dic (by rw[bf (λz=>Z (by rw[<-z];exact aA))];exact e) (g.upd h)) (λe g _ q Y Z=>.ins (by rw[bf (cU e h (by intro z;subst z;exact J.ins))];exact e) (by rw[bf (cU g h (by intro z;subst z;exact J.own))];exact g) (q Z) Y) (λ_=>.nil) λe q Z=>.cons (e λz=>Z (bT _ z)) (q λz=>Z (aR _ z))
theorem RT.upd{a:Addr}{u o:HO}[J:Chg u](h:H a=some u){v:V}{d:D}{as:List Addr}(q:a∉as)(r:RT K H v d as):RT K (upd H a o) v d as:=(RT.upd2 h).1 r q
theorem RTs.upd{a:Addr}{u o:HO}[J:Chg u](h:H a=some u){v:List V}{d:List D}{as:List Addr}(q:a∉as)(r:RTs K H v d as):RTs K (upd H a o) v d as:=(RT.upd2 h).2 r q
theorem RT.chd2:(∀{v:V}{d:D}{as:List Addr},RT K H v d as->∀a∈as,Chd (H a))/\∀{v:List V}{d:List D}{as:List Addr},RTs K H v d as->∀a∈as,Chd (H a):=
 RT.ind (λ_ h=>by cases h) (λ_ _ h=>by cases h) (λ_ _ h=>by cases h) (λ_ _ h=>by cases h) (λe q a h=>by
  rcases aN.mp h with rfl|z
  ·exact⟨_,e,inferInstance⟩
  ·exact q a z) (λ_ q=>q) (λe g a h=>by rw[bJ.mp h];exact⟨_,e,g.chg⟩) (λ_ _ _ q _=>q) (λ_ h=>by cases h) λe q a h=>by
  rcases b_.mp h with z|z
  ·exact e a z
  ·exact q a z
theorem RT.chd{v:V}{d:D}{as:List Addr}(r:RT K H v d as):∀a∈as,Chd (H a):=RT.chd2.1 r
theorem RTs.chd{v:List V}{d:List D}{as:List Addr}(r:RTs K H v d as):∀a∈as,Chd (H a):=RT.chd2.2 r
theorem RT.tracked{v:V}{d:D}{as:List Addr}(h:RT K H v d as)(a:Addr)(ha:a∈as):H a≠none:=(h.chd a ha).ne
theorem RTs.tracked{v:List V}{d:List D}{as:List Addr}(h:RTs K H v d as)(a:Addr)(ha:a∈as):H a≠none:=(h.chd a ha).ne
theorem RA.rt2{ok:Ok}:(∀{v:V}{d:D},RA K ok false H v d->∃as,RT K H v d as/\as.length=nl d/\∀a∈as,ok a)/\∀{v:List V}{d:List D},RAs K ok false H v d->∃as,RTs K H v d as/\as.length=nls d/\∀a∈as,ok a:=
 RA.ind ⟨[],.non,rfl,λ_ h=>by cases h⟩ (λb=>⟨[],.bl b,rfl,λ_ h=>by cases h⟩) (λi=>⟨[],.int i,rfl,λ_ h=>by cases h⟩) (λx=>⟨[],.str x,rfl,λ_ h=>by cases h⟩) (λe k q=>by
  obtain⟨as,h1,h2,h3⟩:=q;refine⟨_::as,.lst e h1,by rw[aW,h2,nl],λa ha=>?_⟩;rcases aN.mp ha with rfl|z
  ·exact k
  ·exact h3 a z) (λ_ k _=>by cases k) (λe q=>by
  obtain⟨as,h1,h2,h3⟩:=q;exact⟨as,.tup e h1,by rw[h2,nl],h3⟩) (λe g k=>⟨[_],.dic e g,by rw[nl,g.isI];rfl,λa ha=>by rw[bJ.mp ha];exact k⟩) (λ_ _ k=>by cases k) (λ{a C dx fs ds kvs} e g q Z=>by
  obtain⟨as,h1,h2,h3⟩:=q;have Y:(fs.map (·.1)).length=ds.length:=by rw[<-RTs.len h1,ak,ak]
  exact⟨as,.ins e g h1 Z,by rw[h2,Z,nl];show _=nl (.tuple [.int (C:Int)])+nlk (yU _ _);rw[K5 (C:=C) Y];simp[nl,nls],h3⟩) ⟨[],.nil,rfl,λ_ h=>by cases h⟩ λe q=>by
  obtain⟨as,h1,h2,h3⟩:=e;obtain⟨bs,g1,g2,g3⟩:=q;refine⟨as++bs,.cons h1 g1,by rw[bw,h2,g2,nls],λa ha=>?_⟩;rcases b_.mp ha with z|z
  ·exact h3 a z
  ·exact g3 a z
theorem RA.rt{ok:Ok}{v:V}{d:D}(h:RA K ok false H v d):∃as,RT K H v d as/\as.length=nl d/\∀a∈as,ok a:=RA.rt2.1 h
end
def tabs:List (Addr×Str×Pos):=[]
def Tb(H:Hp):Prop:=∀t∈tabs,H t.1=some (.tbl t.2.1 t.2.2)
theorem Tb.same{H H':Hp}(t:Tb H)(s:Same H H'):Tb H':=λx hx=>s _ _ (t x hx)
structure Gh where
 H0:Hp
 HF:Hp
 pk:Nat->Option Addr
 pn:Nat->List Addr
 tb:Tb H0
 fv:Nat->Option V
structure Ow where
 s:Nat->Option Addr
 n:Nat->List Addr:=λ_=>[]
instance:CoeFun Ow (λ_=>Nat->Option Addr):=⟨Ow.s⟩
abbrev ow0:Ow:=⟨λ_=>none,λ_=>[]⟩
noncomputable def okA(ow:Ow):Ok:=λa=>(∀i,ow i≠some a)/\∀i,a∉ow.n i
structure Rel(K:PySem.W.Frag)(fl:List Fl)(G:Gh)(ow:Ow)(σ:St)(H:Hp)(δ:DS):Prop where
 s0:Same G.H0 G.HF
 s1:Same G.HF H
 len:σ.length=δ.length
 own:∀i a,ow i=some a->G.H0 a=none/\((fl[i]? = some .O/\G.HF a=none)\/(fl[i]? = some .L/\∃xs,G.HF a=some (.lst xs))) /\
  ∃xs ds,σ[i]? = some (some (.ref a))/\H a=some (.lst xs)/\RAs K (okA ow) true H xs ds/\δ[i]? = some (some (.d (.list ds)))
 inj:∀i j a,ow i=some a->ow j=some a->i=j
 pin:∀i,fl[i]? = some .L->ow i=G.pk i
 dat:∀i d,δ[i]? = some (some (.d d))->isN fl[i]? = false->ow i=none->∃v,σ[i]? = some (some v)/\RA K (okA ow) true H v d
 oo:∀i d,δ[i]? = some (some (.d d))->isN fl[i]? = false->fl[i]? ≠ some .A->ow i=none->flat d=true
 nt:∀i a,a∈ow.n i->G.H0 a=none/\Chd (H a)/\(((fl[i]? = some .N\/fl[i]? = some .W)/\G.HF a=none)\/fl[i]? = some .M)
 nd:∀i j a,a∈ow.n i->a∈ow.n j->i=j
 ns:∀i j a,a∈ow.n i->ow j≠some a
 np:∀i,fl[i]? = some .M->ow.n i=G.pn i
 nr:∀i d,isN fl[i]? = true->δ[i]? = some (some (.d d))->∃v,σ[i]? = some (some v)/\RT K H v d (ow.n i)/\(ow.n i).Nodup
 fx:∀i v,fl[i]? = some .W->G.fv i=some v->σ[i]? = some (some v)
theorem Rel.tb{K:PySem.W.Frag}{fl:List Fl}{G:Gh}{ow:Ow}{σ:St}{H:Hp}{δ:DS}(R:Rel K fl G ow σ H δ):Tb H:=G.tb.same (R.s0.trans R.s1)
theorem Rel.same0{K:PySem.W.Frag}{fl:List Fl}{G:Gh}{ow:Ow}{σ:St}{H:Hp}{δ:DS}(R:Rel K fl G ow σ H δ):Same G.H0 H:=R.s0.trans R.s1
theorem Rel.grow{K:PySem.W.Frag}{fl:List Fl}{G:Gh}{ow:Ow}{σ:St}{H H':Hp}{δ:DS}(R:Rel K fl G ow σ H δ)(e:Same H H'):Rel K fl G ow σ H' δ:=
 ⟨R.s0,R.s1.trans e,R.len,λi a h=>by
  obtain⟨Y,Z,xs,ds,h1,h2,h3,h4⟩:=R.own i a h;exact⟨Y,Z,xs,ds,h1,e _ _ h2,h3.same e,h4⟩,R.inj,R.pin,λi d h1 hn h2=>by
  obtain⟨v,h3,h4⟩:=R.dat i d h1 hn h2;exact⟨v,h3,h4.same e⟩,R.oo,λi a h=>by
  obtain⟨h1,h2,h3⟩:=R.nt i a h;exact⟨h1,(let⟨u,z,c⟩:=h2;⟨u,e _ _ z,c⟩),h3⟩,R.nd,R.ns,R.np,λi d h1 h2=>by
  obtain⟨v,h3,h4,h5⟩:=R.nr i d h1 h2;exact⟨v,h3,h4.same e,h5⟩,R.fx⟩
inductive Kd where
 |P
 |B (L:List Nat)
 |A
 |R
 |F
 |C
 |FC
 |T
noncomputable def ok1:Ok:=λ_=>True
noncomputable def ok0:Ok:=λ_=>False
def okN(H:Hp):Ok:=λa=>H a=none
def Rs(K:PySem.W.Frag)(H0:Hp)(ow:Ow)(Hb H:Hp):Kd->V->D->Prop
 | .P,v,d=>RA K ok1 true H v d
 | .B L,v,d=>RA K (okA ow) true H v d\/∃i∈L,∃a xs ds,ow i=some a/\v = .ref a/\d = .list ds/\H a=some (.lst xs)/\RAs K (okA ow) true H xs ds
 | .A,v,d=>RA K (okA ow) true H v d
 | .R,v,d=>RA K (okN H0) false H v d
 | .F,v,d=>(flat d=true/\RA K ok0 false H v d)\/∃a xs ds,v = .ref a/\d = .list ds/\Hb a=none/\H a=some (.lst xs)/\RAs K (λb=>okA ow b/\b≠a) true H xs ds
 | .C,v,d=>RA K (okN Hb) false H v d
 | .T,v,d=>∃as,RT K H v d as/\as.Nodup/\∀a∈as,Hb a=none
 | .FC,v,d=>(flat d=true/\RA K ok0 false H v d)\/∃a xs ds,v = .ref a/\d = .list ds/\Hb a=none/\H a=some (.lst xs)/\RAs K (λb=>okN Hb b/\b≠a) false H xs ds
section
variable{K:PySem.W.Frag}{Hb H H':Hp}{fl:List Fl}{G:Gh}{ow:Ow}{σ:St}{δ:DS}{v:V}{d:D}
theorem yW(R:Rel K fl G ow σ Hb δ){a:Addr}(h:Hb a=none):okA ow a:=⟨λi e=>(by
 obtain⟨_,_,xs,_,_,h2,_⟩:=R.own i a e;rw[h]at h2
 cases h2),λi e=>(R.nt i a e).2.1.ne h⟩
theorem X3(R:Rel K fl G ow σ Hb δ){a:Addr}(h:Hb a=none):okN G.H0 a:=R.same0.free h
theorem Rs.FC_F(R:Rel K fl G ow σ Hb δ)(h:Rs K G.H0 ow Hb H .FC v d):Rs K G.H0 ow Hb H .F v d:=by
 rcases h with h|⟨a,xs,ds,h1,h2,h3,h4,h5⟩
 ·exact .inl h
 ·exact .inr ⟨a,xs,ds,h1,h2,h3,h4,h5.imp (λb z=>⟨yW R z.1,z.2⟩) (λ_=>rfl)⟩
theorem Rs.FC_C(h:Rs K G.H0 ow Hb H .FC v d):Rs K G.H0 ow Hb H .C v d:=by
 rcases h with h|⟨a,xs,ds,rfl,rfl,h3,h4,h5⟩
 ·exact RA.flat h.1 h.2
 ·exact .lst h4 h3 (h5.imp (λb z=>z.1) (λz=>z))
theorem Rs.F_A(R:Rel K fl G ow σ Hb δ)(h:Rs K G.H0 ow Hb H .F v d):Rs K G.H0 ow Hb H .A v d:=by
 rcases h with h|⟨a,xs,ds,rfl,rfl,h3,h4,h5⟩
 ·exact RA.flat h.1 h.2
 ·exact .lst h4 (yW R h3) (h5.imp (λb z=>z.1) (λz=>z))
theorem Rs.C_A(R:Rel K fl G ow σ Hb δ)(h:Rs K G.H0 ow Hb H .C v d):Rs K G.H0 ow Hb H .A v d:=RA.imp (λ_ z=>yW R z) (λ_=>rfl) h
theorem Rs.C_R(R:Rel K fl G ow σ Hb δ)(h:Rs K G.H0 ow Hb H .C v d):Rs K G.H0 ow Hb H .R v d:=RA.imp (λ_ z=>X3 R z) (λz=>z) h
theorem Rs.A_B(L:List Nat)(h:Rs K G.H0 ow Hb H .A v d):Rs K G.H0 ow Hb H (.B L) v d:=.inl h
theorem Rs.B_P{L:List Nat}(h:Rs K G.H0 ow Hb H (.B L) v d):Rs K G.H0 ow Hb H .P v d:=by
 rcases h with h|⟨i,_,a,xs,ds,_,rfl,rfl,h4,h5⟩
 ·exact RA.imp (λ_ _=>trivial) (λz=>z) h
 ·exact .lst h4 trivial (h5.imp (λ_ _=>trivial) (λz=>z))
theorem Rs.P_flat(q:flat d=true)(h:Rs K G.H0 ow Hb H .P v d):Rs K G.H0 ow Hb H .FC v d:=.inl ⟨q,RA.flat q h⟩
theorem Rs.C_fl1(J:fl1 d=true)(h:Rs K G.H0 ow Hb H .C v d):Rs K G.H0 ow Hb H .FC v d:=by
 by_cases e:∃ds,d = .list ds
 ·obtain⟨ds,rfl⟩:=e
  cases h with
  |lst e k q=>exact .inr ⟨_,_,_,rfl,rfl,k,e,RAs.flat J q⟩
  |lsk e k q=>cases k
 ·have Z:flat d=true:=by
   cases d<;>first|exact J|exact absurd ⟨_,rfl⟩ e
  exact .inl ⟨Z,RA.flat Z h⟩
theorem Rs.F_fl1(q:fl1 d=true)(h:Rs K G.H0 ow Hb H .F v d):Rs K G.H0 ow Hb H .FC v d:=by
 rcases h with h|⟨a,xs,ds,h1,h2,h3,h4,h5⟩
 ·exact .inl h
 ·subst h2;exact .inr ⟨a,xs,ds,h1,rfl,h3,h4,RAs.flat q h5⟩
end
noncomputable def tD(K:PySem.W.Frag)(fl:List Fl)(k:Kd)(f:FE):TE:=λσ H Q=>∃G ow δ d,Rel K fl G ow σ H δ/\f δ=some d/\∀v H',Same H H'->Rs K G.H0 ow H H' k v d->Q v H'
abbrev DE(X:Cx)(fl:List Fl)(k:Kd)(e:Expr)(f:FE):Prop:=PE X e (tD X.K fl k f)
def tDA(K:PySem.W.Frag)(fl:List Fl)(f:FA):TA:=λσ H Q=>∃G ow δ ds,Rel K fl G ow σ H δ/\f δ=some ds/\∀vs H',Same H H'->RAs K ok1 true H' vs ds->Q vs H'
abbrev DA(X:Cx)(fl:List Fl)(es:List Expr)(f:FA):Prop:=PA X es (tDA X.K fl f)
def tDT(K:PySem.W.Frag)(fl:List Fl)(f:FT):TT:=λσ H Q=>∃G ow δ b,Rel K fl G ow σ H δ/\f δ=some b/\∀H',Same H H'->Q b H'
abbrev DT(X:Cx)(fl:List Fl)(e:Expr)(f:FT):Prop:=PT X e (tDT X.K fl f)
abbrev DW(X:Cx)(fl:List Fl)(e:Expr)(f:FT):Prop:=PW X e (tDT X.K fl f)
def yX(K:PySem.W.Frag)(fl:List Fl)(G:Gh)(q:Ends):Oc->Prop
 | .nx δ'=>∀Z σ' H',Rel K fl G Z σ' H' δ'->q.nx σ' H'
 | .rt d=>∀v H',Same G.H0 H'->RA K (okN G.H0) false H' v d->q.rt v H'
 | .bk δ'=>∀Z σ' H',Rel K fl G Z σ' H' δ'->q.bk σ' H'
 | .ct δ'=>∀Z σ' H',Rel K fl G Z σ' H' δ'->q.ct σ' H'
 | .ex _ _ d=>∀v H',Same G.H0 H'->RA K ok1 true H' v d->q.rt v H'
def tDS(K:PySem.W.Frag)(fl:List Fl)(f:FS):TS:=λZ σ H=>∃G ow δ o,Rel K fl G ow σ H δ/\f δ=some o/\yX K fl G Z o
abbrev DS1(X:Cx)(fl:List Fl)(s:dy)(f:FS):Prop:=PS X s (tDS X.K fl f)
abbrev DSs(X:Cx)(fl:List Fl)(s:List dy)(f:FS):Prop:=PSs X s (tDS X.K fl f)
def tDG(K:PySem.W.Frag)(fl:List Fl)(tg:List Nat)(g:FG):TG:=λv σ H Q=>∃G ow δ d δ',Rel K fl G ow σ H δ/\RA K (okA ow) true H v d/\g d δ=some δ'/\∀σ',Rel K fl G ow σ' H δ'->(∀j,j∉tg->σ'[j]? = σ[j]?)->Q σ' H
abbrev DG(X:Cx)(fl:List Fl)(tg:List Nat)(e:Expr)(g:FG):Prop:=PG X e (tDG X.K fl tg g)
section
variable{X:Cx}{e:Expr}{es:List Expr}{st:dy}{sts:List dy}
theorem PE.imp{t t':TE}(h:PE X e t)(i:∀σ H Q,t' σ H Q->t σ H Q):PE X e t':=λpins s σ H Q I q=>h pins s σ H Q I (i σ H Q q)
theorem PT.imp{t t':TT}(h:PT X e t)(i:∀σ H Q,t' σ H Q->t σ H Q):PT X e t':=λpins s σ H Q I q=>h pins s σ H Q I (i σ H Q q)
theorem PW.imp{t t':TT}(h:PW X e t)(i:∀σ H Q,t' σ H Q->t σ H Q):PW X e t':=λw pins s σ H Q I q=>h w pins s σ H Q I (i σ H Q q)
theorem PA.imp{t t':TA}(h:PA X es t)(i:∀σ H Q,t' σ H Q->t σ H Q):PA X es t':=λp pins s σ H Q I q=>h p pins s σ H Q I (i σ H Q q)
theorem PS.imp{t t':TS}(h:PS X st t)(i:∀D σ H,t' D σ H->t D σ H):PS X st t':=λpins s σ H D I q=>h pins s σ H D I (i D σ H q)
theorem PSs.imp{t t':TS}(h:PSs X sts t)(i:∀D σ H,t' D σ H->t D σ H):PSs X sts t':=λpins s σ H D I q=>h pins s σ H D I (i D σ H q)
theorem PG.imp{t t':TG}(h:PG X e t)(i:∀v σ H Q,t' v σ H Q->t v σ H Q):PG X e t':=λpins s σ H v u Q I r q=>h pins s σ H v u Q I r (i v σ H Q q)
end
end D3
namespace D3
open L2 My
section
variable{X:Cx}{fl:List Fl}{e a b c:Expr}{es:List Expr}{k:Kd}{f fa fb fc:FE}{pos:Pos}
theorem gD{i:Nat}{δ:DS}{d:D}(h:aB i δ=some d):δ[i]? = some (some (.d d)):=by
 unfold aB at h;split at h
 ·next x e=>rw[e];cases h;rfl
 ·cases h
theorem vU(i:Nat){x:Str}(O:X.N[i]? = some x:=by rfl)(J:Vis X.env.scope x:=by first|exact Or.inl rfl|exact Or.inr (Or.inl rfl)|exact Or.inr (Or.inr rfl))(hd:(x==("__debug__":Str))=false:=by decide)
 (hcd:(x==("__classdict__":Str))=false:=by decide) (hn:isN fl[i]? = false:=by rfl):DE X fl (.B [i]) (.Name x pos) (aB i):=by
 refine PE.imp (i_ O J hd hcd) λσ H Q h=>?_
 refine D3.ex4 h λG ow δ d R Y q=>?_
 have e:=gD Y
 cases Z:ow i with
 |none=>
  obtain⟨v,h1,h2⟩:=R.dat i d e hn Z;exact⟨v,h1,q v H (Same.refl H) (.inl h2)⟩
 |some a=>
  obtain⟨W,_,xs,ds,h1,h2,h3,h4⟩:=R.own i a Z;rw[e]at h4
  cases h4;exact⟨_,h1,q _ H (Same.refl H) (.inr ⟨i,bJ.mpr rfl,a,xs,ds,Z,rfl,rfl,h2,h3⟩)⟩
theorem yZ(i:Nat)(J:fl[i]? = some .A){x:Str}(U:X.N[i]? = some x:=by rfl)(O:Vis X.env.scope x:=by first|exact Or.inl rfl|exact Or.inr (Or.inl rfl)|exact Or.inr (Or.inr rfl))(hd:(x==("__debug__":Str))=false:=by decide)
 (hcd:(x==("__classdict__":Str))=false:=by decide):DE X fl .A (.Name x pos) (aB i):=by
 refine PE.imp (i_ U O hd hcd) λσ H Q h=>?_
 refine D3.ex4 h λG ow δ d R W q=>?_
 have e:=gD W
 cases Y:ow i with
 |none=>
  obtain⟨v,h1,h2⟩:=R.dat i d e (by rw[J];rfl) Y;exact⟨v,h1,q v H (Same.refl H) h2⟩
 |some a=>
  obtain⟨V,Z,_⟩:=R.own i a Y;rw[J]at Z;rcases Z with⟨z,_⟩|⟨z,_⟩<;>cases z
theorem uY(i:Nat)(J:fl[i]? ≠ some .A){x:Str}(U:X.N[i]? = some x:=by rfl)(O:Vis X.env.scope x:=by first|exact Or.inl rfl|exact Or.inr (Or.inl rfl)|exact Or.inr (Or.inr rfl))(hd:(x==("__debug__":Str))=false:=by decide)
 (hcd:(x==("__classdict__":Str))=false:=by decide) (hn:isN fl[i]? = false:=by rfl):DE X fl .R (.Name x pos) (tM (aB i)):=by
 refine PE.imp (i_ U O hd hcd) λσ H Q h=>?_
 refine D3.ex4 h λG ow δ d R Z q=>?_
 unfold tM at Z
 cases Y:aB i δ with
 |none=>rw[Y]at Z;cases Z
 |some S=>
  rw[Y,aj]at Z;by_cases V:fl1 S=true
  ·rw[if_pos V]at Z
   cases Z;have e:=gD Y
   cases W:ow i with
   |none=>
    obtain⟨v,h1,h2⟩:=R.dat i d e hn W;exact⟨v,h1,q v H (Same.refl H) (RA.flat (R.oo i d e hn J W) h2)⟩
   |some a=>
    obtain⟨T,_,xs,ds,h1,h2,h3,h4⟩:=R.own i a W;rw[e]at h4
    cases h4;exact⟨_,h1,q _ H (Same.refl H) (.lst h2 T (RAs.flat V h3))⟩
  ·rw[if_neg V]at Z
   cases Z
theorem nY{k J:Kd}(h:DE X fl k e f)(O:∀(Hb H:Hp) (G:Gh) (ow:Ow) (σ:St) (δ:DS) (v:V) (d:D),Rel X.K fl G ow σ Hb δ->Rs X.K G.H0 ow Hb H k v d->Rs X.K G.H0 ow Hb H J v d):DE X fl J e f:=by
 refine PE.imp h λσ H Q h=>?_
 refine D3.ex4 h λG ow δ d R Z q=>?_
 exact⟨G,ow,δ,d,R,Z,λv H' s r=>q v H' s (O _ _ G ow σ δ v d R r)⟩
theorem rW{k J:Kd}{p:D->Bool}(h:DE X fl k e f)(O:∀(Hb H:Hp) (G:Gh) (ow:Ow) (σ:St) (δ:DS) (v:V) (d:D),p d=true->Rel X.K fl G ow σ Hb δ->Rs X.K G.H0 ow Hb H k v d->Rs X.K G.H0 ow Hb H J v d):
 DE X fl J e (λδ=>(f δ).bind λd=>if p d=true then some d else none):=by
 refine PE.imp h λσ H Q h=>?_
 refine D3.ex4 h λG ow δ d R Z q=>?_
 dsimp only at Z
 cases Y:f δ with
 |none=>rw[Y]at Z;cases Z
 |some U=>
  rw[Y,aj]at Z;by_cases W:p U=true
  ·rw[if_pos W]at Z
   cases Z;exact⟨G,ow,δ,d,R,Y,λv H' s r=>q v H' s (O _ _ G ow σ δ v d W R r)⟩
  ·rw[if_neg W]at Z
   cases Z
theorem zc(h:DE X fl .FC e f):DE X fl .F e f:=nY h λ_ _ _ _ _ _ _ _ R r=>r.FC_F R
theorem gF(h:DE X fl .FC e f):DE X fl .C e f:=nY h λ_ _ _ _ _ _ _ _ R r=>r.FC_C
theorem K6(h:DE X fl .F e f):DE X fl .A e f:=nY h λ_ _ _ _ _ _ _ _ R r=>r.F_A R
theorem rY(h:DE X fl .C e f):DE X fl .A e f:=nY h λ_ _ _ _ _ _ _ _ R r=>r.C_A R
theorem T7(h:DE X fl .C e f):DE X fl .R e f:=nY h λ_ _ _ _ _ _ _ _ R r=>r.C_R R
theorem oW(h:DE X fl .A e f):DE X fl (.B []) e f:=nY h λ_ _ _ _ _ _ _ _ R r=>Rs.A_B [] r
theorem K7{L:List Nat}(h:DE X fl (.B L) e f):DE X fl .P e f:=nY h λ_ _ _ _ _ _ _ _ R r=>r.B_P
theorem mJ(h:DE X fl .P e f):DE X fl .FC e (jt f):=rW h λ_ _ _ _ _ _ _ _ Z R r=>r.P_flat Z
theorem Vr(h:DE X fl .C e f):DE X fl .FC e (tM f):=rW h λ_ _ _ _ _ _ _ _ Z R r=>r.C_fl1 Z
theorem Vs(h:DE X fl .F e f):DE X fl .FC e (tM f):=rW h λ_ _ _ _ _ _ _ _ Z R r=>r.F_fl1 Z
theorem fK(h:DE X fl .FC e f):DE X fl .A e f:=K6 (zc h)
theorem dI(h:DE X fl .FC e f):DE X fl .R e f:=T7 (gF h)
theorem iG(h:DE X fl .A e f):DE X fl .P e f:=K7 (oW h)
theorem iY(h:DE X fl .C e f):DE X fl .P e f:=iG (rY h)
theorem bD(h:DE X fl .FC e f):DE X fl .P e f:=iG (fK h)
theorem K8(h:DE X fl .F e f):DE X fl .P e f:=iG (K6 h)
theorem vV{v:V}{d:D}(h:PE X e (tC v))(O:flat d=true)(J:∀H,RA X.K ok0 false H v d):DE X fl .FC e (dC d):=by
 refine PE.imp h λσ H Q h=>?_
 refine D3.ex4 h λG ow δ Z R hd q=>?_
 cases hd;exact q v H (Same.refl H) (.inl ⟨O,J H⟩)
theorem K9{i j pos}:DE X fl .FC (.Constant (.int i) j pos) (dC (.int i)):=vV UL rfl λ_=>.int _
theorem Gw{b j pos}:DE X fl .FC (.Constant (.bool b) j pos) (dC (.bool b)):=vV TF rfl λ_=>.bl _
theorem K_{j pos}:DE X fl .FC (.Constant .none j pos) (dC .none):=vV UW rfl λ_=>.non
theorem qu{x j pos}:DE X fl .FC (.Constant (.str x) j pos) (dC (.str x)):=vV U0 rfl λ_=>.str _
theorem Gx{x:Str}{i:Int}{pos:Pos}(h:∃t,X.mg x=some (.int i t))(q:Gl X x:=by rfl)(hd:(x==("__debug__":Str))=false:=by decide):DE X fl .FC (.Name x pos) (dC (.int i)):=by
 obtain⟨t,h⟩:=h;exact vV (Qc (v:=.int i) q h ⟨t,rfl⟩ hd) rfl λ_=>.int _
def BrO(K:PySem.W.Frag)(r:R2)(g:D->D->Option D):Prop:=∀(H:Hp)(x y:V)(dx Z d:D)(Q:VK),RA K ok1 true H x dx->RA K ok1 true H y Z->g dx Z=some d->(∀v,flat d=true->RA K ok0 false H v d->Q v H)->r x y H Q
theorem uE{fa fb:FE}{g:D->D->Option D}{δ:DS}{d:D}(h:dOp g fa fb δ=some d):∃x y,fa δ=some x/\fb δ=some y/\g x y=some d:=by
 unfold dOp at h
 cases ha:fa δ with
 |none=>rw[ha]at h;cases h
 |some x=>
  rw[ha,aj]at h
  cases hb:fb δ with
  |none=>rw[hb]at h;cases h
  |some y=>
   rw[hb,aj]at h;exact⟨x,y,rfl,rfl,h⟩
theorem bind1{α β:Type}{x:Option α}{g:α->Option β}{d:β}(h:x.bind g=some d):∃y,x=some y/\g y=some d:=by
 cases x with
 |none=>cases h
 |some y=>exact⟨y,rfl,h⟩
theorem tV{r:R2}{g:D->D->Option D}{σ:St}{H:Hp}{Q:VK}(hb:BrO X.K r g)(h:tD X.K fl .FC (dOp g fa fb) σ H Q):tOp r (tD X.K fl .P fa) (tD X.K fl .P fb) σ H Q:=by
 refine D3.ex4 h λG ow δ d R W q=>?_
 refine D3.ex2 (uE W) λx y T U V=>?_
 refine⟨G,ow,δ,x,R,T,λv H1 s1 r1=>⟨G,ow,δ,y,R.grow s1,U,λu H2 s2 r2=>?_⟩⟩;exact hb H2 v u x y d Q (RA.same s2 r1) r2 V λz Y Z=>q z H2 (s1.trans s2) (.inl ⟨Y,Z⟩)
theorem dO{q:Operator}{r:R2}{g:D->D->Option D}(J:OpR X (binaryOp q) r)(hb:BrO X.K r g)(h1:DE X fl .P a fa)(h2:DE X fl .P b fb):DE X fl .FC (.BinOp a q b pos) (dOp g fa fb):=
 PE.imp (TQ J h1 h2) λ_ _ _ h=>tV hb h
theorem qw{q:CmpOp}{r:R2}{g:D->D->Option D}(J:OpR X (compareOp q) r)(hb:BrO X.K r g)(h1:DE X fl .P a fa)(h2:DE X fl .P b fb)(hm:behindInMarks q b=false):DE X fl .FC (.Compare a [q] [b] pos) (dOp g fa fb):=
 PE.imp (Qi J h1 h2 hm) λ_ _ _ h=>tV hb h
theorem fG{J:CmpOp}{r:R2}{g:D->D->Option D}(O:OpR X (compareOp J) r)(hb:BrO X.K r g)(h1:DE X fl .P a fa)(h2:DE X fl .P b fb)(hm:behindInMarks J b=false):DT X fl (.Compare a [J] [b] pos) (cI (dOp g fa fb)):=by
 refine PT.imp (Qj O h1 h2 hm) λσ H Q h=>?_
 refine D3.ex4 h λG ow δ c R Y q=>?_
 refine D3.ex1 (bind1 Y) λd W Z=>?_
 cases d<;>first|(cases Z;done)|skip
 cases Z;refine tV (fl:=fl) (fa:=fa) (fb:=fb) hb ⟨G,ow,δ,_,R,W,λv H' s r=>?_⟩;obtain rfl:=(Rs.FC_C r).blE;exact⟨_,rfl,q H' s⟩
theorem oX(h:DE X fl .P e f)(J:∀whole,isTrue e X.env whole=(do let v <-whole;standAt e.pos;holding [v] (truthy v)):=by intro _;rfl):DT X fl e (cI f):=by
 refine PT.imp (J_ h J) λσ H Q h=>?_
 refine D3.ex4 h λG ow δ c R Y q=>?_
 refine D3.ex1 (bind1 Y) λd W Z=>?_
 cases d<;>first|(cases Z;done)|skip
 cases Z;refine⟨G,ow,δ,_,R,W,λv H' s r=>?_⟩;obtain rfl:=RA.blE r;exact⟨_,rfl,q H' s⟩
theorem Bj{K:PySem.W.Frag}{h:Int->Int->V}{g:Int->Int->D}(O:∀i j,flat (g i j)=true)(J:∀H i j,RA K ok0 false H (h i j) (g i j)):BrO K (rI0 h) (gI λi j=>some (g i j)):=by
 intro H x y dx X d Q Y Z e q;unfold gI at e;split at e
 ·next i j=>
  cases e;exact⟨i,j,Y.intE,Z.intE,q _ (O i j) (J H i j)⟩
 ·cases e
theorem QD{K:PySem.W.Frag}{C:Int->Int->Prop}{h:Int->Int->V}{g:Int->Int->D}{c:Int->Int->Bool}(U:∀i j,c i j=true->C i j)(O:∀i j,flat (g i j)=true)(J:∀H i j,RA K ok0 false H (h i j) (g i j)):
 BrO K (rI C h) (gI λi j=>if c i j=true then some (g i j)else none):=by
 intro H x y dx X d Q Y Z e q;unfold gI at e;split at e
 ·next i j=>
  dsimp only at e;by_cases z:c i j=true
  ·rw[if_pos z]at e
   cases e;exact⟨i,j,Y.intE,Z.intE,U i j z,q _ (O i j) (J H i j)⟩
  ·rw[if_neg z]at e
   cases e
 ·cases e
end
section
variable{X:Cx}{K:PySem.W.Frag}
theorem QF{i j:Int}(h:vO i j=true):IntMulOk i j:=by
 unfold vO at h;rw[Bool.or_eq_true,Bool.or_eq_true,aX]at h;rcases h with(h|h)|⟨h1,h2⟩
 ·exact IntMulOk.of_left (PySem.intBits_le_iff.mpr (of_decide_eq_true h))
 ·exact IntMulOk.of_right (PySem.intBits_le_iff.mpr (of_decide_eq_true h))
 ·exact PySem.IntMulOk.of_le (PySem.intBits_le_iff.mpr (of_decide_eq_true h1)) (PySem.intBits_le_iff.mpr (of_decide_eq_true h2)) (by decide)
theorem lA:OpR X (binaryOp .Mult) (rI (λi j=>vO i j=true) λi j=>.int (i*j)):=opI λ_ _ _ _ _ _ _ Z q=>mul_int q (QF Z)
theorem Gy:OpR X (binaryOp .FloorDiv) (rI (λi j=>Ed i j=true) λi j=>.int (i.fdiv j)):=opI λi j _ _ _ _ _ Z q=>by
 unfold Ed at Z;rw[aX]at Z;have h1:=of_decide_eq_true Z.1;have h2:=of_decide_eq_true Z.2;refine floordiv_int h1 q (.inl (PyProof.noPylong_of_log2 ?_));exact(Nat.log2_lt (by omega)).mpr h2
theorem QG{i j:Int}(h:Vp i j=true):Vd i j:=by
 unfold Vp at h;rw[aX,aX]at h;have h1:=of_decide_eq_true h.1.1;have h2:=of_decide_eq_true h.1.2;exact⟨h1,by omega,of_decide_eq_true h.2⟩
theorem mX:BrO K (rI0 λi j=>.int (i+j)) j_:=Bj (λ_ _=>rfl) λ_ _ _=>.int _
theorem rZ:BrO K (rI (λi j=>vO i j=true) λi j=>.int (i*j)) nW:=QD (λ_ _ h=>h) (λ_ _=>rfl) λ_ _ _=>.int _
theorem T8:BrO K (rI (λi j=>Ed i j=true) λi j=>.int (i.fdiv j)) Bf:=QD (λ_ _ h=>h) (λ_ _=>rfl) λ_ _ _=>.int _
theorem p7:BrO K (rI (λ_ j=>j≠0) λi j=>.int (i.fmod j)) oK:=QD (λ_ _ h=>of_decide_eq_true h) (λ_ _=>rfl) λ_ _ _=>.int _
theorem X4:BrO K (rI Vd λi j=>.int (i^j.toNat)) Vq:=QD (λ_ _ h=>QG h) (λ_ _=>rfl) λ_ _ _=>.int _
theorem b_lt:BrO K (rI0 λi j=>.bl (decide (i<j))) gLt:=Bj (λ_ _=>rfl) λ_ _ _=>.bl _
theorem Ei:BrO K (rI0 λi j=>.bl (decide (i<=j))) gLe:=Bj (λ_ _=>rfl) λ_ _ _=>.bl _
theorem X5:BrO K (rI0 λi j=>.bl (decide (j<i))) gGt:=Bj (λ_ _=>rfl) λ_ _ _=>.bl _
theorem zf:BrO K (rI0 λi j=>.bl (decide (j<=i))) gGe:=Bj (λ_ _=>rfl) λ_ _ _=>.bl _
theorem zj:BrO K (Vl K) gEq:=by
 intro H x y dx Z d Q X Y e q;unfold gEq at e;by_cases z:(dr dx&&dr Z)=true
 ·rw[if_pos z]at e
  cases e;rw[aX]at z;exact⟨dx,Z,X.rd (aS z.1),Y.rd (aS z.2),z.1,z.2,q _ rfl (.bl _)⟩
 ·rw[if_neg z]at e
  cases e
end
end D3
namespace D3
open L2 My
section
variable{X:Cx}{fl:List Fl}{e a b c:Expr}{es:List Expr}{st:dy}{sts body orelse:List dy}{k:Kd}{f fa fb fc:FE}{fs gs:FS}{ft gt:FT}{pos:Pos}
theorem yX.nx_imp{K:PySem.W.Frag}{G:Gh}{q:Ends}{N:St->Hp->Prop}{o:Oc}(h:yX K fl G q o)(hn:∀δ',o ≠ .nx δ'):yX K fl G {q with nx:=N} o:=by
 cases o with
 |nx δ'=>exact absurd rfl (hn δ')
 |rt d=>exact h
 |bk δ'=>exact h
 |ct δ'=>exact h
 |ex c f v=>exact h
theorem jJ:DSs X fl [] j9:=PSs.imp uU λY σ H h=>by
 refine D3.ex4 h λG ow δ o R Z q=>?_
 cases Z;exact q ow σ H R
theorem bM(h1:DS1 X fl st fs)(h2:DSs X fl sts gs):DSs X fl (st::sts) (cP fs gs):=PSs.imp (rJ h1 h2) λT σ H h=>by
 refine D3.ex4 h λG ow δ o R V q=>?_
 refine D3.ex1 (bind1 V) λW U Z=>?_
 refine⟨G,ow,δ,W,R,U,?_⟩
 cases W with
 |nx δ'=>exact λY σ' H' R'=>⟨G,Y,δ',o,R',Z,q⟩
 |rt d=>cases Z;exact yX.nx_imp q (λ_ z=>by cases z)
 |bk d=>cases Z;exact yX.nx_imp q (λ_ z=>by cases z)
 |ct d=>cases Z;exact yX.nx_imp q (λ_ z=>by cases z)
 |ex c f v=>cases Z;exact q
theorem cC(h1:DS1 X fl st fs):DSs X fl [st] fs:=PSs.imp (uV h1) λ_ _ _ h=>h
theorem dh(h:DE X fl .R e f):DS1 X fl (.Return (some e) pos) (ig f):=PS.imp (yM h) λV σ H h=>by
 refine D3.ex4 h λG ow δ o R Z q=>?_
 refine D3.ex1 (bind1 Z) λd W Y=>?_
 cases Y;exact⟨G,ow,δ,d,R,W,λv H' s r=>q v H' (R.same0.trans s) r⟩
theorem Gz(h:DE X fl .P e f)(J:swapsWith e none pos.line X.env=pure false:=by rfl):DS1 X fl (.Expr e pos) (yh f):=PS.imp (uW h J) λV σ H h=>by
 refine D3.ex4 h λG ow δ o R Z q=>?_
 refine D3.ex1 (bind1 Z) λd W Y=>?_
 cases Y;exact⟨G,ow,δ,d,R,W,λv H' s r=>q ow σ H' (R.grow s)⟩
theorem p8(J:DT X fl c ft)(h1:DSs X fl body fs)(h2:DSs X fl orelse gs):DS1 X fl (.If c body orelse pos) (sIf ft fs gs):=PS.imp (Gj J h1 h2) λV σ H h=>by
 refine D3.ex4 h λG ow δ o R Y q=>?_
 refine D3.ex1 (bind1 Y) λt W Z=>?_
 refine⟨G,ow,δ,t,R,W,λH' s=>?_⟩
 cases t with
 |true=>exact xG ⟨G,ow,δ,o,R.grow s,Z,q⟩
 |false=>exact xu ⟨G,ow,δ,o,R.grow s,Z,q⟩
theorem fQ{α:Type}{l:List (Option α)}{i j:Nat}{x y:α}(h:(l.set i (some x))[j]? = some (some y)):(j=i/\x=y)\/(j≠i/\l[j]? = some (some y)):=by
 rw[List.getElem?_set]at h;by_cases e:i=j
 ·subst e;rw[if_pos rfl]at h;by_cases z:i<l.length
  ·rw[if_pos z]at h
   cases h;exact .inl ⟨rfl,rfl⟩
  ·rw[if_neg z]at h
   cases h
 ·rw[if_neg e]at h;exact .inr ⟨λz=>e z.symm,h⟩
theorem Rel.setA{K:PySem.W.Frag}{G:Gh}{ow:Ow}{σ:St}{H:Hp}{δ:DS}{i:Nat}{v:V}{d:D}(R:Rel K fl G ow σ H δ)(q:fl[i]? = some .A)(hi:i<σ.length)(r:RA K (okA ow) true H v d):
 Rel K fl G ow (σ.set i (some v)) H (δ.set i (some (.d d))):=by
 have no:∀a,ow i≠some a:=λa z=>by
  obtain⟨_,U,_⟩:=R.own i a z;rw[q]at U;rcases U with⟨z,_⟩|⟨z,_⟩<;>cases z
 refine⟨R.s0,R.s1,by rw[cg,cg];exact R.len,λj a h=>?_,R.inj,R.pin,λj Y h1 hn h2=>?_,λj Y h1 hn h2 h3=>?_,R.nt,R.nd,R.ns,R.np,λj Y hn h1=>?_,λj u h e=>by rw[aL (λz=>by subst z;rw[q]at h;cases h)];exact R.fx j u h e⟩
 ·have Z:j≠i:=λz=>no a (z▸h)
  obtain⟨S,T,xs,ds,h1,h2,h3,h4⟩:=R.own j a h;exact⟨S,T,xs,ds,by rw[aL (df Z)];exact h1,h2,h3,by rw[aL (df Z)];exact h4⟩
 ·rcases fQ h1 with⟨rfl,e⟩|⟨Z,e⟩
  ·cases e;exact⟨v,by rw[bU hi],r⟩
  ·obtain⟨X,h3,h4⟩:=R.dat j Y e hn h2;exact⟨X,by rw[aL (df Z)];exact h3,h4⟩
 ·rcases fQ h1 with⟨rfl,e⟩|⟨Z,e⟩
  ·exact absurd q h2
  ·exact R.oo j Y e hn h2 h3
 ·rcases fQ h1 with⟨rfl,e⟩|⟨Z,e⟩
  ·rw[q]at hn;cases hn
  ·obtain⟨X,h3,h4⟩:=R.nr j Y hn e;exact⟨X,by rw[aL (df Z)];exact h3,h4⟩
def uF(ow:Ow)(i:Nat)(a:Option Addr):Ow:=⟨λj=>if j=i then a else ow j,ow.n⟩
theorem gP{ow:Ow}{i:Nat}{a:Option Addr}:uF ow i a i=a:=if_pos rfl
theorem dW{ow:Ow}{i j:Nat}{a:Option Addr}(h:j≠i):uF ow i a j=ow j:=if_neg h
theorem Rel.setO{K:PySem.W.Frag}{G:Gh}{ow:Ow}{σ:St}{H H':Hp}{δ:DS}{i:Nat}{v:V}{d:D}(R:Rel K fl G ow σ H δ)(s:Same H H')(q:fl[i]? = some .O)(hi:i<σ.length)(r:Rs K G.H0 ow H H' .F v d):
 ∃J,Rel K fl G J (σ.set i (some v)) H' (δ.set i (some (.d d))):=by
 have R':=R.grow s;have T:∀b,okA ow b->okA (uF ow i none) b:=λb z=>⟨λj e=>by
  by_cases Z:j=i
  ·subst Z;rw[gP]at e;cases e
  ·rw[dW Z]at e;exact z.1 j e,z.2⟩
 have Q:∀j X,isN fl[j]? = true->(δ.set i (some (.d d)))[j]? = some (some (.d X))->∃U,(σ.set i (some v))[j]? = some (some U)/\RT K H' U X (ow.n j)/\(ow.n j).Nodup:=λj X hn h1=>by
  rcases fQ h1 with⟨rfl,e⟩|⟨Z,e⟩
  ·rw[q]at hn;cases hn
  ·obtain⟨U,h3,h4⟩:=R'.nr j X hn e;exact⟨U,by rw[aL (df Z)];exact h3,h4⟩
 rcases r with⟨P,r⟩|⟨a,xs,ds,rfl,rfl,ha,hx,I⟩
 ·refine⟨uF ow i none,R'.s0,R'.s1,by rw[cg,cg];exact R.len,λj a h=>?_,λj j' a h h'=>?_,λj h=>?_,λj X h1 hn h2=>?_,λj X h1 hn h2 h3=>?_,R'.nt,R'.nd,λj j' a h h'=>?_,R'.np,Q,λj u h e=>by rw[aL (λz=>by subst z;rw[q]at h;cases h)];exact R.fx j u h e⟩
  ·have Z:j≠i:=λz=>by subst z;rw[gP]at h;cases h
   rw[dW Z]at h;obtain⟨M,N,xs,ds,h1,h2,h3,h4⟩:=R'.own j a h;exact⟨M,N,xs,ds,by rw[aL (df Z)];exact h1,h2,h3.imp T (λz=>z),by rw[aL (df Z)];exact h4⟩
  ·have Z:j≠i:=λz=>by subst z;rw[gP]at h;cases h
   have Y:j'≠i:=λz=>by subst z;rw[gP]at h';cases h'
   rw[dW Z]at h;rw[dW Y]at h';exact R.inj j j' a h h'
  ·have Z:j≠i:=λz=>by subst z;rw[q]at h;cases h
   rw[dW Z];exact R.pin j h
  ·rcases fQ h1 with⟨rfl,e⟩|⟨Z,e⟩
   ·cases e;exact⟨v,by rw[bU hi],RA.flat P r⟩
   ·rw[dW Z]at h2;obtain⟨U,h3,h4⟩:=R'.dat j X e hn h2;exact⟨U,by rw[aL (df Z)];exact h3,h4.imp T (λz=>z)⟩
  ·rcases fQ h1 with⟨rfl,e⟩|⟨Z,e⟩
   ·cases e;exact P
   ·rw[dW Z]at h3;exact R.oo j X e hn h2 h3
  ·by_cases Z:j'=i
   ·subst Z;rw[gP]at h';cases h'
   ·rw[dW Z]at h';exact R.ns j j' a h h'
 ·have sub:∀b,okA ow b/\b≠a->okA (uF ow i (some a)) b:=λb z=>⟨λj e=>by
   by_cases Z:j=i
   ·subst Z;rw[gP]at e;exact z.2 (cL.inj e).symm
   ·rw[dW Z]at e;exact z.1.1 j e,z.1.2⟩
  have old:∀{v:V}{d:D},RA K (okA ow) true H v d->RA K (okA (uF ow i (some a))) true H' v d:=λr=>(r.track.imp (λb z=>sub b ⟨z.1,λe=>z.2 (e▸ha)⟩) (λz=>z)).same s
  have olds:∀{v:List V}{d:List D},RAs K (okA ow) true H v d->RAs K (okA (uF ow i (some a))) true H' v d:=λr=>(r.track.imp (λb z=>sub b ⟨z.1,λe=>z.2 (e▸ha)⟩) (λz=>z)).same s
  have S:∀j,ow j≠some a:=λj z=>by
   obtain⟨_,_,_,_,_,h2,_⟩:=R.own j a z;rw[ha]at h2
   cases h2
  have E:G.HF a=none:=R.s1.free ha;refine⟨uF ow i (some a),R'.s0,R'.s1,by rw[cg,cg];exact R.len,λj b h=>?_,λj j' b h h'=>?_,λj h=>?_,λj X h1 hn h2=>?_,λj X h1 hn h2 h3=>?_,R'.nt,R'.nd,λj j' b h h'=>?_,R'.np,Q,λj u h e=>by rw[aL (λz=>by subst z;rw[q]at h;cases h)];exact R.fx j u h e⟩
  ·by_cases Z:j=i
   ·subst Z;rw[gP]at h
    cases h;exact⟨R.same0.free ha,.inl ⟨q,E⟩,xs,ds,by rw[bU hi],hx,I.imp sub (λz=>z),by rw[bU (by rw[<-R.len];exact hi)]⟩
   ·rw[dW Z]at h;obtain⟨M,N,ys,L,h1,h2,h3,h4⟩:=R.own j b h;exact⟨M,N,ys,L,by rw[aL (df Z)];exact h1,s _ _ h2,olds h3,by rw[aL (df Z)];exact h4⟩
  ·by_cases Z:j=i
   ·by_cases Y:j'=i
    ·rw[Z,Y]
    ·subst Z;rw[gP]at h
     cases h;rw[dW Y]at h';exact absurd h' (S j')
   ·rw[dW Z]at h;by_cases Y:j'=i
    ·subst Y;rw[gP]at h'
     cases h';exact absurd h (S j)
    ·rw[dW Y]at h';exact R.inj j j' b h h'
  ·have Z:j≠i:=λz=>by subst z;rw[q]at h;cases h
   rw[dW Z];exact R.pin j h
  ·rcases fQ h1 with⟨rfl,e⟩|⟨Z,e⟩
   ·rw[gP]at h2;cases h2
   ·rw[dW Z]at h2;obtain⟨U,h3,h4⟩:=R.dat j X e hn h2;exact⟨U,by rw[aL (df Z)];exact h3,old h4⟩
  ·rcases fQ h1 with⟨rfl,e⟩|⟨Z,e⟩
   ·rw[gP]at h3;cases h3
   ·rw[dW Z]at h3;exact R.oo j X e hn h2 h3
  ·by_cases Z:j'=i
   ·subst Z;rw[gP]at h'
    cases h';exact(R.nt j a h).2.1.ne ha
   ·rw[dW Z]at h';exact R.ns j j' b h h'
theorem Rel.mut{K:PySem.W.Frag}{G:Gh}{ow:Ow}{σ:St}{H:Hp}{δ:DS}{i:Nat}{a:Addr}{ys:List V}{ds:List D}(R:Rel K fl G ow σ H δ)(J:fl[i]? = some .O)(q:ow i=some a)(r:RAs K (okA ow) true H ys ds):
 Rel K fl G ow σ (upd H a (.lst ys)) (δ.set i (some (.d (.list ds)))):=by
 obtain⟨L,N,xs,F,I,X,E,e4⟩:=R.own i a q;have T:¬okA ow a:=λz=>z.1 i q
 have M:G.HF a=none:=by
  rcases N with⟨_,z⟩|⟨z,_⟩
  ·exact z
  ·rw[J]at z;cases z
 have hi:i<δ.length:=by
  rcases lu i δ.length with z|z
  ·exact z
  ·rw[bA z]at e4;cases e4
 refine⟨R.s0,λb o hb=>?_,by rw[cg];exact R.len,λj b h=>?_,R.inj,R.pin,λj Y h1 hn h2=>?_,λj Y h1 hn h2 h3=>?_,λj b h=>?_,R.nd,R.ns,R.np,λj Y hn h1=>?_,R.fx⟩
 ·rw[bf (λz=>by subst z;rw[M]at hb;cases hb)];exact R.s1 b o hb
 ·by_cases Z:j=i
  ·subst Z;rw[q]at h
   cases h;exact⟨L,N,ys,ds,I,bG,r.upd X T,by rw[bU hi]⟩
  ·obtain⟨Q,S,zs,P,h1,h2,h3,h4⟩:=R.own j b h;have hb:b≠a:=λz=>Z (R.inj j i a (z▸h) q)
   exact⟨Q,S,zs,P,h1,by rw[bf hb];exact h2,h3.upd X T,by rw[aL (df Z)];exact h4⟩
 ·rcases fQ h1 with⟨rfl,e⟩|⟨Z,e⟩
  ·rw[q]at h2;cases h2
  ·obtain⟨U,h3,h4⟩:=R.dat j Y e hn h2;exact⟨U,h3,h4.upd X T⟩
 ·rcases fQ h1 with⟨rfl,e⟩|⟨Z,e⟩
  ·rw[q]at h3;cases h3
  ·exact R.oo j Y e hn h2 h3
 ·obtain⟨g1,g2,g3⟩:=R.nt j b h;refine⟨g1,?_,g3⟩;by_cases hb:b=a
  ·rw[hb,bG];exact⟨_,rfl,inferInstance⟩
  ·rw[bf hb];exact g2
 ·rcases fQ h1 with⟨rfl,e⟩|⟨Z,e⟩
  ·rw[J]at hn;cases hn
  ·obtain⟨U,h3,h4,h5⟩:=R.nr j Y hn e;exact⟨U,h3,h4.upd X (λz=>R.ns j i a z q),h5⟩
theorem su{K:PySem.W.Frag}{G:Gh}{ow:Ow}{σ:St}{H:Hp}{δ:DS}{i:Nat}(R:Rel K fl G ow σ H δ)(h:i<δ.length):i<σ.length:=by rwa[R.len]
theorem QH{i:Nat}{x:Str}{pos':Pos}(O:fl[i]? = some .A)(hN:X.N.Nodup)(hi:X.N[i]? = some x)(U:X.env.scope.names.lookup x=some .local\/X.env.scope.names.lookup x=some .cell)(h:DE X fl .A e f)
 (hs:swapsWith e (some (.Name x pos')) pos.line X.env=pure false:=by rfl) (J:X.fn x=true\/X.env.scope.names.lookup x=some .local:=by first|exact .inl rfl|exact .inr rfl) :
 DS1 X fl (.Assign [.Name x pos'] e pos) (cG i f):=PS.imp (yN (i:=i) hN hi U h hs J) λT σ H h=>by
 refine D3.ex4 h λG ow δ o R Z q=>?_
 unfold cG at Z;by_cases Y:i<δ.length
 ·rw[if_pos Y]at Z;refine D3.ex1 (bind1 Z) λd V W=>?_
  cases W;exact⟨G,ow,δ,d,R,V,λv H' s r=>q ow _ H' ((R.grow s).setA O (su R Y) r)⟩
 ·rw[if_neg Y]at Z
  cases Z
theorem uZ{i:Nat}{x:Str}{pos':Pos}(U:fl[i]? = some .O)(hN:X.N.Nodup)(hi:X.N[i]? = some x)(hv:X.env.scope.names.lookup x=some .local\/X.env.scope.names.lookup x=some .cell)(h:DE X fl .F e f)
 (hs:swapsWith e (some (.Name x pos')) pos.line X.env=pure false:=by rfl) (J:X.fn x=true\/X.env.scope.names.lookup x=some .local:=by first|exact .inl rfl|exact .inr rfl) :
 DS1 X fl (.Assign [.Name x pos'] e pos) (cG i f):=PS.imp (yN (i:=i) hN hi hv h hs J) λS σ H h=>by
 refine D3.ex4 h λG ow δ o R Z q=>?_
 unfold cG at Z;by_cases W:i<δ.length
 ·rw[if_pos W]at Z;refine D3.ex1 (bind1 Z) λd T V=>?_
  cases V;refine⟨G,ow,δ,d,R,T,λv H' s r=>?_⟩;obtain⟨Y,R'⟩:=R.setO s U (su R W) r;exact q Y _ H' R'
 ·rw[if_neg W]at Z
  cases Z
theorem QJ{i:Nat}{x:Str}{pos:Pos}(O:fl[i]? = some .A)(hN:X.N.Nodup)(hi:X.N[i]? = some x)(U:X.env.scope.names.lookup x=some .local\/X.env.scope.names.lookup x=some .cell)
 (J:X.fn x=true\/X.env.scope.names.lookup x=some .local:=by first|exact .inl rfl|exact .inr rfl):DG X fl [i] (.Name x pos) (gNl i):=
 PG.imp (Qe (i:=i) hN hi U J) λv σ H Q h=>by
 obtain⟨G,ow,δ,d,δ',R,r,Z,q⟩:=h;unfold gNl at Z;by_cases Y:i<δ.length
 ·rw[if_pos Y]at Z
  cases Z;exact q _ (R.setA O (su R Y) r) λj W=>aL (λz=>W (by rw[z];exact bJ.mpr rfl))
 ·rw[if_neg Y]at Z
  cases Z
def ac4(K:PySem.W.Frag)(fl:List Fl)(tg:List Nat)(g:List D->DS->Option DS):TGs:=λvs σ H Q=>∃G ow δ ds δ',Rel K fl G ow σ H δ/\RAs K (okA ow) true H vs ds/\g ds δ=some δ'/\∀σ',Rel K fl G ow σ' H δ'->(∀j,j∉tg->σ'[j]? = σ[j]?)->Q σ' H
theorem PGs.imp{t t':TGs}(h:PGs X es t)(i:∀v σ H Q,t' v σ H Q->t v σ H Q):PGs X es t':=λpins s σ H v u Q I r q=>h pins s σ H v u Q I r (i v σ H Q q)
abbrev DGs(X:Cx)(fl:List Fl)(tg:List Nat)(es:List Expr)(g:List D->DS->Option DS):Prop:=PGs X es (ac4 X.K fl tg g)
theorem pJ:DGs X fl [] [] lH:=PGs.imp Qf λvs σ H Q h=>by
 obtain⟨G,ow,δ,ds,δ',R,r,Z,q⟩:=h
 cases r with
 |nil=>cases Z;exact⟨rfl,q σ R λ_ _=>rfl⟩
 |cons _ _=>cases Z
theorem gQ{tg J:List Nat}{g:FG}{gs:List D->DS->Option DS}(h1:DG X fl tg e g)(h2:DGs X fl J es gs)(O:(assignEach (e::es) X.env).map (·.2)=assign e X.env::(assignEach es X.env).map (·.2):=by rfl):
 DGs X fl (tg++J) (e::es) (dH g gs):=PGs.imp (Kf h1 h2 O) λvs σ H Q h=>by
 obtain⟨G,ow,δ,ds,δ',R,r,U,q⟩:=h
 cases r with
 |nil=>cases U
 |cons r1 r2=>
  refine D3.ex1 (bind1 U) λY S T=>?_
  refine⟨_,_,rfl,G,ow,δ,_,Y,R,r1,S,λσ' R' k1=>⟨G,ow,Y,_,δ',R',r2,T,λZ W k2=>q Z W λj V=>?_⟩⟩;rw[k2 j λz=>V (aR _ z),k1 j λz=>V (bT _ z)]
theorem tW{tg:List Nat}{gs:List D->DS->Option DS}{k n:Nat}(O:X.calm=true)(h:DGs X fl tg es gs)(hn:(assignEach es X.env).length=n:=by rfl)(J:(assignEach es X.env).findIdx? (·.1)=none:=by rfl):
 DG X fl tg (.Tuple es k pos) (gTn n gs):=PG.imp (U_ (n:=n) O h hn J) λv σ H Q h=>by
 obtain⟨G,ow,δ,d,δ',R,r,Z,q⟩:=h;unfold gTn at Z;split at Z
 ·next l=>
  by_cases z:l.length=n
  ·rw[if_pos z]at Z;obtain⟨a,xs,rfl,hx,Y⟩:=r.tupE;exact⟨a,xs,rfl,hx,by rwa[Y.length],G,ow,δ,l,δ',R,Y,Z,q⟩
  ·rw[if_neg z]at Z
   cases Z
 ·cases Z
end
end D3
namespace D3
open L2 My
section
variable{X:Cx}{fl:List Fl}{e a b c:Expr}{es:List Expr}{st:dy}{sts body orelse:List dy}{k:Kd}{f fa fb fc:FE}{fs gs:FS}{ft gt:FT}{pos:Pos}
theorem Vt{K:PySem.W.Frag}{G:Gh}{ow:Ow}{σ:St}{H:Hp}{δ:DS}{i:Nat}{l:List D}(R:Rel K fl G ow σ H δ)(q:fl[i]? = some .O)(h:aB i δ=some (.list l)):
 ∃a xs,ow i=some a/\σ[i]? = some (some (.ref a))/\H a=some (.lst xs)/\RAs K (okA ow) true H xs l:=by
 have e:=gD h
 cases Z:ow i with
 |none=>
  have z:=R.oo i _ e (by rw[q];rfl) (by rw[q];simp) Z;simp[flat]at z
 |some a=>
  obtain⟨Y,_,xs,ds,h1,h2,h3,h4⟩:=R.own i a Z;rw[e]at h4
  cases h4;exact⟨a,xs,rfl,h1,h2,h3⟩
theorem tX{i:Nat}{x:Str}{vpos apos cpos:Pos}(hfl:fl[i]? = some .O)(h:DE X fl .A e f)(hN:X.N[i]? = some x)(hv:Vis X.env.scope x:=by first|exact Or.inl rfl|exact Or.inr (Or.inl rfl)|exact Or.inr (Or.inr rfl))(hd:(x==("__debug__":Str))=false:=by decide)
 (hcd:(x==("__classdict__":Str))=false:=by decide)
 (hs:swapsWith (.Call (.Attribute (.Name x vpos) "append" apos) [e] [] cpos) none pos.line X.env=pure false:=by rfl)
 (Y:attributeBase (.Name x vpos) "append" X.env (eval (.Name x vpos) X.env)=eval (.Name x vpos) X.env:=by rfl)
 (hfew:((backTo cpos (starEach [e] X.env)).all (λx=>!x.1)&&(backToKw cpos (keywordEach [] X.env)).all (λx=>x.1.isSome)
  && decide (([e]:List Expr).length+([]:List eD).length+(if([]:List eD).isEmpty then 0 else 1)<30))=true:=by rfl)
 (U:(apos.endLine==cpos.line)=true:=by rfl) (hst:starEach [e] X.env=(false,eval e X.env)::starEach [] X.env:=by rfl) (J:(backTo cpos (starEach [] X.env)).any (·.1)=false:=by rfl) :
 DS1 X fl (.Expr (.Call (.Attribute (.Name x vpos) "append" apos) [e] [] cpos) pos) (yV i f):=
 PS.imp (uW (T6 PySem.F.plainAttrs_list PySem.F.slot_list_append PySem.F.type_list_append tL (i_ hN hv hd hcd) (f9 h jF hst) Y hfew U hst J) hs) λM σ H h=>by
 refine D3.ex4 h λG ow δ o R Z q=>?_
 refine D3.ex1 (bind1 Z) λx P T=>?_
 refine D3.ex1 (bind1 T) λd Q V=>?_
 have Z:=V;split at Z
 case h_2=>cases Z
 next l=>
 by_cases W:l.length<1000000
 ·rw[if_pos W]at Z
  cases Z;obtain⟨a,xs,S,h1,h2,h3⟩:=Vt R hfl P;refine⟨_,h1,.inl ⟨rfl,_,SqL.of h2⟩,G,ow,δ,d,R,Q,λv H' s r=>?_⟩;have R':=R.grow s;refine⟨a,xs,v,rfl,rfl,s _ _ h2,by rw[h3.length];exact jA W (by decide),?_⟩;exact q ow σ _ (R'.mut hfl S ((h3.same s).append (.cons r .nil)))
 ·rw[if_neg W]at Z
  cases Z
def T9(K:PySem.W.Frag)(ow:Ow)(L:List Nat)(H1:Hp)(J:It)(l:List D):Prop:=∀H2:Hp,(∀b o,H1 b=some o->(∀i,ow i=some b->i∈L)->(∀i,b∉ow.n i)->H2 b=some o)->∀i:Nat,
 (∀d,l[i]? = some d->J.go i H2/\∀x Z,J.yld i H2 x Z->Same H2 Z/\RA K (λb=>okA ow b/\H1 b≠none) true Z x d)/\(l.length<=i->J.stop i H2)
noncomputable def tDI(K:PySem.W.Frag)(fl:List Fl)(L:List Nat)(fi:FA):TI:=λσ H R'=>∃G ow δ l,Rel K fl G ow σ H δ/\fi δ=some l/\∀J H1,Same H H1->T9 K ow L H1 J l->R' J H1
abbrev DI(X:Cx)(fl:List Fl)(L:List Nat)(tg iter:Expr)(fi:FA):Prop:=PI X tg iter (tDI X.K fl L fi)
theorem PI.imp{tg iter:Expr}{t t':TI}(h:PI X tg iter t)(i:∀σ H R',t' σ H R'->t σ H R'):PI X tg iter t':=λpins s σ H R' I q=>h pins s σ H R' I (i σ H R' q)
section
variable{K:PySem.W.Frag}{ok:Ok}{pl:Bool}{H1 H2:Hp}{ow:Ow}{L:List Nat}
theorem nm{b:Addr}{o:HO}(q:∀i b,ow i=some b->∃xs,H1 b=some (.lst xs))(h:H1 b=some o)(hn:∀xs,o ≠ .lst xs):∀i,ow i=some b->i∈L:=λi e=>by
 obtain⟨xs,z⟩:=q i b e;rw[h]at z;exact absurd (cL.inj z) (hn xs)
theorem nm2{b:Addr}{o:HO}(q:∀i b,b∈ow.n i->Chd (H1 b))(h:H1 b=some o)(hn:Chg o->False):∀i,b∉ow.n i:=λi e=>by
 obtain⟨u,z,c⟩:=q i b e;rw[h]at z
 cases z;exact hn c
mutual
theorem RA.keep(hk:∀b o,H1 b=some o->(∀i,ow i=some b->i∈L)->(∀i,b∉ow.n i)->H2 b=some o)(hl:∀i b,ow i=some b->∃xs,H1 b=some (.lst xs))(hm:∀i b,b∈ow.n i->Chd (H1 b))(ho:∀b,ok b->okA ow b):∀{v:V}{d:D},RA K ok pl H1 v d->RA K ok pl H2 v d
 |_,_,.non=>.non
 |_,_,.bl b=>.bl b
 |_,_,.int i=>.int i
 |_,_,.str x=>.str x
 |_,_,.lst e k q=>.lst (hk _ _ e (λi z=>absurd z ((ho _ k).1 i)) (ho _ k).2) k (RAs.keep hk hl hm ho q)
 |_,_,.lsk e k q=>.lsk (by
  rcases e with⟨o,e⟩|e
  ·exact .inl ⟨o,hk _ _ e (nm hl e (by intro xs z;cases z)) (nm2 hm e Chg.frz)⟩
  ·exact .inr e) k (RAs.keep hk hl hm ho q)
 |_,_,.tup e q=>.tup (hk _ _ e (nm hl e (by intro xs z;cases z)) (nm2 hm e Chg.tup)) (RAs.keep hk hl hm ho q)
 |_,_,.dic e g k=>.dic (hk _ _ e (λi z=>absurd z ((ho _ k).1 i)) (ho _ k).2) (g.imp λ_ _ t=>hk _ _ t (nm hl t (by intro xs z;cases z)) (nm2 hm t Chg.tup)) k
 |_,_,.dik e g k=>.dik (hk _ _ e (nm hl e (by intro xs z;cases z)) (nm2 hm e Chg.frz)) (g.imp λ_ _ t=>hk _ _ t (nm hl t (by intro xs z;cases z)) (nm2 hm t Chg.tup)) k
 |_,_,.ins e g q z=>.ins (hk _ _ e (nm hl e (by intro xs z;cases z)) (nm2 hm e Chg.ins)) (hk _ _ g (nm hl g (by intro xs z;cases z)) (nm2 hm g Chg.own)) (RAs.keep hk hl hm ho q) z
theorem RAs.keep(hk:∀b o,H1 b=some o->(∀i,ow i=some b->i∈L)->(∀i,b∉ow.n i)->H2 b=some o)(hl:∀i b,ow i=some b->∃xs,H1 b=some (.lst xs))(hm:∀i b,b∈ow.n i->Chd (H1 b))(ho:∀b,ok b->okA ow b):∀{v:List V}{d:List D},RAs K ok pl H1 v d->RAs K ok pl H2 v d
 |_,_,.nil=>.nil
 |_,_,.cons e q=>.cons (RA.keep hk hl hm ho e) (RAs.keep hk hl hm ho q)
end
end
theorem Rel.ownL{K:PySem.W.Frag}{G:Gh}{ow:Ow}{σ:St}{H:Hp}{δ:DS}(R:Rel K fl G ow σ H δ):∀i b,ow i=some b->∃xs,H b=some (.lst xs):=λi b e=>by
 obtain⟨_,_,xs,_,_,h2,_⟩:=R.own i b e;exact⟨xs,h2⟩
theorem Rel.ownC{K:PySem.W.Frag}{G:Gh}{ow:Ow}{σ:St}{H:Hp}{δ:DS}(R:Rel K fl G ow σ H δ):∀i b,b∈ow.n i->Chd (H b):=λi b e=>(R.nt i b e).2.1
theorem Ej{K:PySem.W.Frag}{G:Gh}{ow:Ow}{σ:St}{H Hb:Hp}{δ:DS}{L:List Nat}{v:V}{l:List D}(R:Rel K fl G ow σ H δ)(r:Rs K G.H0 ow Hb H (.B L) v (.list l)):∃a xs,v = .ref a/\SqL K H a xs /\
 ∀H2:Hp,(∀b o,H b=some o->(∀i,ow i=some b->i∈L)->(∀i,b∉ow.n i)->H2 b=some o)->SqL K H2 a xs/\RAs K (λb=>okA ow b/\H b≠none) true H2 xs l:=by
 rcases r with r|⟨i,hi,a,xs,ds,Y,rfl,e,hx,X⟩
 ·cases r with
  |lst e k q=>exact⟨_,_,rfl,SqL.of e,λH2 Z=>⟨SqL.of (Z _ _ e (λi z=>absurd z (k.1 i)) k.2),RAs.keep Z R.ownL R.ownC (λb z=>z.1) q.track⟩⟩
  |lsk e k q=>exact⟨_,_,rfl,e.sq,λH2 Z=>⟨SqK.sq (by
   rcases e with⟨o,e⟩|e
   ·exact .inl ⟨o,Z _ _ e (nm R.ownL e (by intro xs z;cases z)) (nm2 R.ownC e Chg.frz)⟩
   ·exact .inr e),RAs.keep Z R.ownL R.ownC (λb z=>z.1) q.track⟩⟩
 ·cases e;exact⟨a,xs,rfl,SqL.of hx,λH2 Z=>⟨SqL.of (Z _ _ hx (λj z=>by rwa[R.inj j i a z Y]) (λj z=>R.ns j i a z Y)),RAs.keep Z R.ownL R.ownC (λb z=>z.1) X.track⟩⟩
theorem u5{tg:Expr}{L:List Nat}(h:DE X fl (.B L) e f):DI X fl L tg e (Jh f):=PI.imp (Qg h) λσ H R' h=>by
 refine D3.ex4 h λG ow δ l R S q=>?_
 refine D3.ex1 (bind1 S) λd Q V=>?_
 cases d<;>first|(cases V;done)|skip
 cases V;refine⟨G,ow,δ,_,R,Q,λv H1 s r=>?_⟩;obtain⟨a,xs,rfl,hx,keep⟩:=Ej (R.grow s) r;refine⟨a,rfl,⟨xs,hx⟩,q _ _ s λH2 k2 i=>?_⟩;obtain⟨k3,Y⟩:=keep H2 k2;refine⟨λd hd=>?_,λP=>⟨xs,k3,by rwa[Y.length]⟩⟩;obtain⟨y,W,U⟩:=Y.get hd;refine⟨⟨xs,y,k3,W⟩,λx O Z=>?_⟩;obtain⟨e,T⟩:=Z;subst e;have:some y=some x:=W.symm.trans (T xs k3)
 cases this;exact⟨Same.refl _,U⟩
theorem Lb(lo hi:Int):(gO lo hi).length=(hi-lo).toNat:=by simp[gO]
theorem Bk{K:PySem.W.Frag}{ow:Ow}{L:List Nat}{H1:Hp}(lo hi:Int):T9 K ow L H1 (Itr lo (hi-lo).toNat) (gO lo hi):=by
 intro H2 _ i;refine⟨λd hd=>?_,λY=>by rw[Lb]at Y;exact Y⟩;unfold gO at hd;rw[aO]at hd;by_cases Z:i<(hi-lo).toNat
 ·rw[kY Z]at hd
  cases hd;refine⟨Z,λx U X=>?_⟩;obtain⟨e,V⟩:=X;subst e V;exact⟨Same.refl _,.int _⟩
 ·rw[bA (by simpa using Z)]at hd
  cases hd
theorem pK{i:Int}(h:pY i=true): -(2^62)<=i/\i<2^62:=by
 unfold pY at h;rw[aX]at h;exact⟨of_decide_eq_true h.1,of_decide_eq_true h.2⟩
theorem mY{tg:Expr}{L:List Nat}{p:Pos}{fa:FA}(O:Gl X "range")(hm:X.mg "range"=none)(h:DA X fl [a] fa)(J:starEach [a] X.env=[(false,eval a X.env)]:=by rfl):DI X fl L tg (.Call (.Name "range" p) [a] [] pos) (uz fa):=
 PI.imp (Iz O hm h J) λσ H R' h=>by
 refine D3.ex4 h λG ow δ l R Y q=>?_
 refine D3.ex1 (bind1 Y) λds W Z=>?_
 split at Z
 ·next j=>
  by_cases z:pY j=true
  ·rw[if_pos z]at Z
   cases Z;refine⟨G,ow,δ,_,R,W,λvs H1 s r=>?_⟩
   cases r with
   |cons r1 r2=>
    cases r2;obtain rfl:=r1.intE;refine⟨j,rfl,(pK z).1,(pK z).2,?_⟩;have w:=Bk (K:=X.K) (ow:=ow) (L:=L) (H1:=H1) 0 j;rw[rD]at w;exact q _ _ s w
  ·rw[if_neg z]at Z
   cases Z
 ·cases Z
theorem yq{tg:Expr}{L:List Nat}{p:Pos}{fa:FA}(U:Gl X "range")(hm:X.mg "range"=none)(h:DA X fl [a,b] fa)(O:starEach [a,b] X.env=[(false,eval a X.env),(false,eval b X.env)]:=by rfl)(J:starEach [b] X.env=[(false,eval b X.env)]:=by rfl):
 DI X fl L tg (.Call (.Name "range" p) [a,b] [] pos) (Gp fa):=PI.imp (IK U hm h O J) λσ H R' h=>by
 refine D3.ex4 h λG ow δ l R Y q=>?_
 refine D3.ex1 (bind1 Y) λds W Z=>?_
 split at Z
 ·next i j=>
  by_cases z:(pY i&&pY j)=true
  ·rw[if_pos z]at Z
   cases Z;rw[aX]at z;refine⟨G,ow,δ,_,R,W,λvs H1 s r=>?_⟩
   cases r with
   |cons r1 r2=>
    cases r2 with
    |cons r2 r3=>
     cases r3;obtain rfl:=r1.intE;obtain rfl:=r2.intE;exact⟨i,j,rfl,⟨(pK z.1).1,(pK z.1).2,(pK z.2).1,(pK z.2).2⟩,q _ _ s (Bk i j)⟩
  ·rw[if_neg z]at Z
   cases Z
 ·cases Z
def lock(L:List Nat)(fl:List Fl):List Fl:=fl.mapIdx λi x=>if x = .O/\i∈L then .L else x
theorem jK{L:List Nat}{i:Nat}:(lock L fl)[i]? = (fl[i]?).map λx=>if x = .O/\i∈L then .L else x:=by
 unfold lock;rw[j8]
theorem Le{L:List Nat}{i:Nat}:(lock L fl)[i]? = some .A<->fl[i]? = some .A:=by
 rw[jK]
 cases h:fl[i]? with
 |none=>simp
 |some x=>
  cases x<;>simp
  by_cases z:i∈L<;>simp[z]
theorem Ek{L:List Nat}{i:Nat}(h:(lock L fl)[i]? = some .O):fl[i]? = some .O/\i∉L:=by
 rw[jK]at h
 cases e:fl[i]? with
 |none=>rw[e]at h;simp at h
 |some x=>
  rw[e]at h
  cases x<;>simp at h
  by_cases z:i∈L
  ·simp[z]at h
  ·exact⟨rfl,z⟩
theorem El{L:List Nat}{i:Nat}(h:fl[i]? = some .L):(lock L fl)[i]? = some .L:=by
 rw[jK,h];simp
theorem GC{L:List Nat}{i:Nat}(h:fl[i]? = some .O)(hi:i∈L):(lock L fl)[i]? = some .L:=by
 rw[jK,h];simp[hi]
theorem GD{L:List Nat}{i:Nat}(h:fl[i]? = some .O)(hi:i∉L):(lock L fl)[i]? = some .O:=by
 rw[jK,h];simp[hi]
theorem Em{L:List Nat}{i:Nat}:(lock L fl)[i]? = some .N<->fl[i]? = some .N:=by
 rw[jK]
 cases h:fl[i]? with
 |none=>simp
 |some x=>
  cases x<;>simp
  by_cases z:i∈L<;>simp[z]
theorem En{L:List Nat}{i:Nat}:(lock L fl)[i]? = some .M<->fl[i]? = some .M:=by
 rw[jK]
 cases h:fl[i]? with
 |none=>simp
 |some x=>
  cases x<;>simp
  by_cases z:i∈L<;>simp[z]
theorem vW{L:List Nat}{i:Nat}:(lock L fl)[i]? = some .W<->fl[i]? = some .W:=by
 rw[jK]
 cases h:fl[i]? with
 |none=>simp
 |some x=>
  cases x<;>simp
  by_cases z:i∈L<;>simp[z]
theorem mZ{L:List Nat}{i:Nat}:isN (lock L fl)[i]? = isN fl[i]?:=by
 rw[jK]
 cases h:fl[i]? with
 |none=>rfl
 |some x=>
  cases x<;>simp[isN]
  by_cases z:i∈L<;>simp[z]
def Let(fl':List Fl)(ow:Ow)(b:Addr):Prop:=(∃j,ow j=some b/\fl'[j]? = some .O)\/∃j,b∈ow.n j/\(fl'[j]? = some .N\/fl'[j]? = some .W)
open Classical in
def ghL(fl':List Fl)(G:Gh)(ow:Ow)(H:Hp):Gh:=⟨G.H0,λb=>if Let fl' ow b then none else H b,ow,ow.n,G.tb,G.fv⟩
open Classical in
theorem nZ{fl':List Fl}{G:Gh}{ow:Ow}{H:Hp}{b:Addr}(h:¬Let fl' ow b):(ghL fl' G ow H).HF b=H b:=by
 unfold ghL;dsimp only;rw[if_neg h]
open Classical in
theorem Eo{fl':List Fl}{G:Gh}{ow:Ow}{H:Hp}{b:Addr}(h:Let fl' ow b):(ghL fl' G ow H).HF b=none:=by
 unfold ghL;dsimp only;rw[if_pos h]
theorem Rel.lock{K:PySem.W.Frag}{G:Gh}{ow:Ow}{σ:St}{H:Hp}{δ:DS}(L:List Nat)(R:Rel K fl G ow σ H δ):Rel K (lock L fl) (ghL (lock L fl) G ow H) ow σ H δ:=by
 refine⟨λb o hb=>?_,λb o hb=>?_,R.len,λi a h=>?_,R.inj,λi h=>rfl,λi d h1 hn h2=>R.dat i d h1 (by rw[mZ]at hn;exact hn) h2,λi d h1 hn h2 h3=>R.oo i d h1 (by rw[mZ]at hn;exact hn) (λz=>h2 (Le.mpr z)) h3,λi a h=>?_,R.nd,R.ns,λi h=>rfl,λi d hn h1=>R.nr i d (by rw[mZ]at hn;exact hn) h1,λi u h e=>R.fx i u (vW.mp h) e⟩
 ·have Y:G.H0 b=some o:=hb;rw[nZ]
  ·exact R.same0 b o Y
  ·rintro(⟨j,e,_⟩|⟨j,e,_⟩)
   ·have:=(R.own j b e).1;rw[Y]at this
    cases this
   ·have:=(R.nt j b e).1;rw[Y]at this
    cases this
 ·by_cases z:Let (D3.lock L fl) ow b
  ·rw[Eo z]at hb;cases hb
  ·rw[nZ z]at hb;exact hb
 ·obtain⟨U,Z,xs,ds,h1,h2,h3,h4⟩:=R.own i a h;refine⟨U,?_,xs,ds,h1,h2,h3,h4⟩;have out:(D3.lock L fl)[i]? = some .L->(ghL (D3.lock L fl) G ow H).HF a=H a:=λV=>nZ (by
   rintro(⟨j,e,X⟩|⟨j,e,X⟩)
   ·rw[R.inj j i a e h,V]at X
    cases X
   ·exact R.ns j i a e h)
  rcases Z with⟨Z,_⟩|⟨Z,_⟩
  ·by_cases hi:i∈L
   ·exact .inr ⟨GC Z hi,xs,by rw[out (GC Z hi)];exact h2⟩
   ·exact .inl ⟨GD Z hi,Eo (.inl ⟨i,h,GD Z hi⟩)⟩
  ·exact .inr ⟨El Z,xs,by rw[out (El Z)];exact h2⟩
 ·obtain⟨g1,g2,g3⟩:=R.nt i a h;refine⟨g1,g2,?_⟩;rcases g3 with⟨z,_⟩|z
  ·have z:=z.imp (Em (L:=L)).mpr (vW (L:=L)).mpr;exact .inl ⟨z,Eo (.inr ⟨i,h,z⟩)⟩
  ·exact .inr (En.mpr z)
theorem Rel.unlock{K:PySem.W.Frag}{G:Gh}{ow q:Ow}{σ σ':St}{H H':Hp}{δ δ':DS}{L:List Nat}(R:Rel K fl G ow σ H δ)(R':Rel K (D3.lock L fl) (ghL (D3.lock L fl) G ow H) q σ' H' δ'):Rel K fl G q σ' H' δ':=by
 have sub:Same G.HF (ghL (D3.lock L fl) G ow H).HF:=λb o hb=>by
  rw[nZ]
  ·exact R.s1 b o hb
  ·rintro(⟨j,e,Z⟩|⟨j,e,Z⟩)
   ·rcases(R.own j b e).2.1 with⟨_,z⟩|⟨z,_⟩
    ·rw[hb]at z;cases z
    ·have:=(Ek Z).1;rw[z]at this
     cases this
   ·rcases(R.nt j b e).2.2 with⟨_,z⟩|z
    ·rw[hb]at z;cases z
    ·rcases Z with Z|Z
     ·have:=Em.mp Z;rw[z]at this
      cases this
     ·have:=vW.mp Z;rw[z]at this
      cases this
 refine⟨R.s0,sub.trans R'.s1,R'.len,λi a h=>?_,R'.inj,λi h=>?_,λi d h1 hn h2=>R'.dat i d h1 (by rw[mZ];exact hn) h2,λi d h1 hn h2 h3=>R'.oo i d h1 (by rw[mZ];exact hn) (λz=>h2 (Le.mp z)) h3,λi a h=>?_,R'.nd,R'.ns,λi h=>?_,λi d hn h1=>R'.nr i d (by rw[mZ];exact hn) h1,λi u h e=>R'.fx i u (vW.mpr h) e⟩
 ·obtain⟨V,Y,rest⟩:=R'.own i a h;refine⟨V,?_,rest⟩;rcases Y with⟨Y,X⟩|⟨Y,_⟩
  ·exact .inl ⟨(Ek Y).1,sub.free X⟩
  ·have e:q i=ow i:=R'.pin i Y;rw[e]at h;exact(R.own i a h).2.1
 ·have e:q i=ow i:=R'.pin i (El h);rw[e];exact R.pin i h
 ·obtain⟨g1,g2,g3⟩:=R'.nt i a h;rcases g3 with⟨z,X⟩|z
  ·exact⟨g1,g2,.inl ⟨z.imp Em.mp vW.mp,sub.free X⟩⟩
  ·exact⟨g1,g2,.inr (En.mp z)⟩
 ·have e:q.n i=ow.n i:=R'.np i (En.mpr h);rw[e];exact R.np i h
theorem tY{tg iter:Expr}{L:List Nat}{T:List Nat}{fi:FA}{g:FG}(hp:PassesOwn (model X.prog X.w) X.A X.env X.xe)(hc:X.calm=true)(hi:DI X fl L tg iter fi)(hg:DG X (lock L fl) T tg g)(hb:DSs X (lock L fl) body fs)
 (hs:∀x,foldedSetIterable iter X.env x=pure x:=by intro _;rfl):DS1 X fl (.For tg iter body [] pos) (xH fi g fs):=PS.imp (Vb hp hc hi hg hb hs) λDn σ H h=>by
 refine D3.ex4 h λG ow δ o F k q=>?_
 refine D3.ex1 (bind1 k) λl e1 e2=>?_
 refine⟨G,ow,δ,l,F,e1,λJ H1 s C=>?_⟩;have N:=F.grow s;have RL:=N.lock L;refine⟨λi m σ' H'=>m=l.length-i/\∃Z δ',Rel X.K (lock L fl) (ghL (lock L fl) G ow H1) Z σ' H' δ'/\mW g fs (l.drop i) δ'=some o,⟨_,rfl,ow,δ,RL,by simpa using e2⟩,?_⟩;rintro i m σ' H' ⟨rfl,Z,δ',R',hd⟩;have kept:∀b o,H1 b=some o->(∀i,ow i=some b->i∈L)->(∀i,b∉ow.n i)->H' b=some o:=λb o hb r hn=>R'.s1 b o (by
  rw[nZ]
  ·exact hb
  ·rintro(⟨j,e,p⟩|⟨j,e,_⟩)
   ·exact(Ek p).2 (r j e)
   ·exact hn j e)
 obtain⟨y,B⟩:=C H' kept i;by_cases O:i<l.length
 ·have R:=iV O;rw[R,mW]at hd;refine D3.ex1 (bind1 hd) λP a hd=>?_
  refine D3.ex1 (bind1 hd) λI e4 hd=>?_
  obtain⟨go,D⟩:=y l[i] (aF O);refine .inr ⟨go,λσ' H'=>∃Z δ',Rel X.K (lock L fl) (ghL (lock L fl) G ow H1) Z σ' H' δ'/\mW g fs (l.drop (i+1)) δ'=some o,λU H2 ⟨Y,W,R2,h2⟩=>⟨l.length-(i+1),by omega,rfl,Y,W,R2,h2⟩,λx H3 t=>?_⟩;obtain⟨u,r3⟩:=D x H3 t;have sub:∀b,okA ow b/\H1 b≠none->okA Z b:=λb z=>by
   obtain⟨Q,M⟩:=z;refine⟨λj e=>?_,λj e=>?_⟩
   ·rcases(R'.own j b e).2.1 with⟨_,S⟩|⟨S,_⟩
    ·have:(ghL (lock L fl) G ow H1).HF b=H1 b:=nZ (by rintro(⟨j',V,_⟩|⟨j',V,_⟩);exact Q.1 j' V;exact Q.2 j' V);rw[this]at S;exact M S
    ·have V:Z j=ow j:=R'.pin j S;rw[V]at e;exact Q.1 j e
   ·rcases(R'.nt j b e).2.2 with⟨_,S⟩|w
    ·have:(ghL (lock L fl) G ow H1).HF b=H1 b:=nZ (by rintro(⟨j',V,_⟩|⟨j',V,_⟩);exact Q.1 j' V;exact Q.2 j' V);rw[this]at S;exact M S
    ·have V:Z.n j=ow.n j:=R'.np j w;rw[V]at e;exact Q.2 j e
  refine⟨_,Z,δ',_,P,R'.grow u,r3.imp sub (λz=>z),a,λE R4 _=>⟨_,Z,P,I,R4,e4,?_⟩⟩
  ·cases I with
   |nx W=>exact λY U H2 R2=>⟨Y,W,R2,hd⟩
   |ct W=>exact λY U H2 R2=>⟨Y,W,R2,hd⟩
   |bk W=>cases hd;exact λY U H2 R2=>q Y U H2 (N.unlock R2)
   |rt d=>cases hd;exact q
   |ex c f v=>cases hd;exact q
 ·have e:l.drop i=[]:=jB (by omega);rw[e,mW]at hd
  cases hd;exact .inl ⟨B (by omega),q Z σ' H' (N.unlock R')⟩
theorem Lf(J:PassesOwn (model X.prog X.w) X.A X.env X.xe)(O:DT X fl c ft)(hb:DSs X fl body fs):DS1 X fl (.While c body [] pos) (tO ft fs):=PS.imp (Kg J O hb) λP σ H h=>by
 refine D3.ex4 h λG ow δ o Q T q=>?_
 obtain⟨n,hn⟩:=Ec T;refine⟨λm σ' H'=>∃W δ',Rel X.K fl G W σ' H' δ'/\fD ft fs m δ'=some o,⟨n,ow,δ,Q,hn⟩,?_⟩;rintro m σ' H' ⟨W,δ',R',hw⟩
 cases m with
 |zero=>simp[fD]at hw
 |succ m=>
  rw[fD]at hw;refine D3.ex1 (bind1 hw) λt R hw=>?_
  refine⟨G,W,δ',t,R',R,λH1 s=>?_⟩
  cases t with
  |false=>
   rw[if_neg eZ]at hw ⊢
   cases hw;exact q W σ' H1 (R'.grow s)
  |true=>
   rw[if_pos rfl]at hw ⊢;refine D3.ex1 (bind1 hw) λU S hw=>?_
   refine⟨λV H2=>∃Y Z,Rel X.K fl G Y V H2 Z/\fD ft fs m Z=some o,λV H2 ⟨Y,Z,R2,h2⟩=>⟨m,eX m,Y,Z,R2,h2⟩,G,W,δ',U,R'.grow s,S,?_⟩
   cases U with
   |nx Z=>exact λY V H2 R2=>⟨Y,Z,R2,hw⟩
   |ct Z=>exact λY V H2 R2=>⟨Y,Z,R2,hw⟩
   |bk Z=>cases hw;exact q
   |rt d=>cases hw;exact q
   |ex c f v=>cases hw;exact q
end
end D3
namespace D3
open L2 My
def notStar:Expr->Bool
 | .Starred _ _=>false
 |_=>true
theorem iB{e:Expr}{es:List Expr}{env:Env}(h:notStar e=true):starEach (e::es) env=(false,eval e env)::starEach es env:=by
 cases e<;>first|rfl|cases h
theorem uG{es:List Expr}{env:Env}{pos:Pos}(h:es.all notStar=true):(backTo pos (starEach es env)).any (·.1)=false:=by
 induction es with
 |nil=>rfl
 |cons e es Z=>
  rw[List.all_cons,aX]at h;rw[iB h.1];have:=Z h.2;unfold backTo at this ⊢;rw[aM,mz,this];rfl
def isR:Kd->Bool
 | .P=>true
 | .A=>true
 | .R=>true
 | .C=>true
 |_=>false
def Lg(H0:Hp)(ow:Ow)(Hb:Hp):Kd->Ok
 | .P=>ok1
 | .A=>okA ow
 | .R=>okN H0
 |_=>okN Hb
def Vu:Kd->Bool
 | .P=>true
 | .A=>true
 |_=>false
section
variable{K:PySem.W.Frag}{H0 Hb Hc H:Hp}{ow:Ow}{v:V}{d:D}{k:Kd}
theorem Rs.ra(q:isR k=true)(h:Rs K H0 ow Hb H k v d):RA K (Lg H0 ow Hb k) (Vu k) H v d:=by
 cases k<;>first|exact h|cases q
theorem Rs.of_ra(q:isR k=true)(h:RA K (Lg H0 ow Hb k) (Vu k) H v d):Rs K H0 ow Hb H k v d:=by
 cases k<;>first|exact h|cases q
theorem Jj(s:Same Hb Hc)(q:isR k=true):∀a,Lg H0 ow Hc k a->Lg H0 ow Hb k a:=λa z=>by
 cases k<;>first|exact z|exact s.free z|cases q
theorem Rs.of_flat(q:flat d=true)(h:RA K ok0 false H v d):Rs K H0 ow Hb H k v d:=by
 cases k with
 |P=>exact RA.flat q h
 |B L=>exact .inl (RA.flat q h)
 |A=>exact RA.flat q h
 |R=>exact RA.flat q h
 |F=>exact .inl ⟨q,h⟩
 |C=>exact RA.flat q h
 |FC=>exact .inl ⟨q,h⟩
 |T=>
  obtain⟨as,h1,_,h3⟩:=RA.rt h
  cases as with
  |nil=>exact⟨[],h1,.nil,λ_ z=>by cases z⟩
  |cons a r=>exact(h3 a aA).elim
theorem Rs.back(s:Same Hb Hc)(h:Rs K H0 ow Hc H k v d):Rs K H0 ow Hb H k v d:=by
 cases k with
 |P=>exact h
 |B L=>exact h
 |A=>exact h
 |R=>exact h
 |F=>
  rcases h with h|⟨a,xs,ds,h1,h2,h3,h4⟩
  ·exact .inl h
  ·exact .inr ⟨a,xs,ds,h1,h2,s.free h3,h4⟩
 |C=>exact RA.imp (λa z=>s.free z) (λz=>z) h
 |FC=>
  rcases h with h|⟨a,xs,ds,h1,h2,h3,h4,h5⟩
  ·exact .inl h
  ·exact .inr ⟨a,xs,ds,h1,h2,s.free h3,h4,h5.imp (λb z=>⟨s.free z.1,z.2⟩) (λz=>z)⟩
 |T=>
  obtain⟨as,h1,h2,h3⟩:=h;exact⟨as,h1,h2,λa z=>s.free (h3 a z)⟩
end
def tDB(K:PySem.W.Frag)(fl:List Fl)(k:Kd)(f:FA):TA:=λσ H Q=>∃G ow δ ds,Rel K fl G ow σ H δ/\f δ=some ds/\∀vs H',Same H H'->RAs K (Lg G.H0 ow H k) (Vu k) H' vs ds->Q vs H'
abbrev DB(X:Cx)(fl:List Fl)(k:Kd)(es:List Expr)(f:FA):Prop:=PA X es (tDB X.K fl k f)
section
variable{X:Cx}{fl:List Fl}{e a b c:Expr}{es rest:List Expr}{k:Kd}{f fa fb fc:FE}{ft gt:FT}{pos:Pos}
theorem Vv:DB X fl k [] bN:=PA.imp jF λσ H Q h=>by
 refine D3.ex4 h λG ow δ ds R Z q=>?_
 cases Z;exact q [] H (Same.refl H) .nil
theorem QK{fr:FA}(J:isR k=true)(h:DE X fl k e f)(U:DB X fl k es fr)(O:starEach (e::es) X.env=(false,eval e X.env)::starEach es X.env:=by exact iB rfl):DB X fl k (e::es) (aD f fr):=PA.imp (f9 h U O) λσ H Q h=>by
 refine D3.ex4 h λG ow δ ds R Z q=>?_
 refine D3.ex1 (bind1 Z) λd W Z=>?_
 refine D3.ex1 (bind1 Z) λr Y Z=>?_
 cases Z;refine⟨G,ow,δ,d,R,W,λv H1 s1 r1=>⟨G,ow,δ,r,R.grow s1,Y,λvs H2 s2 r2=>?_⟩⟩;exact q _ H2 (s1.trans s2) (.cons ((r1.ra J).same s2) (r2.imp (Jj s1 J) (λz=>z)))
theorem vX(h:DB X fl .P es fa'):DA X fl es fa':=PA.imp h λσ H Q h=>by
 refine D3.ex4 h λG ow δ ds R Z q=>?_
 exact⟨G,ow,δ,ds,R,Z,λvs H' s r=>q vs H' s r⟩
theorem qx{x1}{fa:FA}(J:isR k=true)(h:DB X fl k es fa):DE X fl k (.Tuple es x1 pos) (dTup fa):=PE.imp (Vi h) λσ H Q h=>by
 refine D3.ex4 h λG ow δ d R W q=>?_
 refine D3.ex1 (bind1 W) λl V Z=>?_
 by_cases z:l.length<=sizeLine
 ·rw[if_pos z]at Z
  cases Z;refine⟨G,ow,δ,l,R,V,λvs H' s r=>⟨by rwa[r.length],λp Y=>?_⟩⟩;have g:=cN Y (.tup vs);exact q _ _ (s.trans g) (Rs.of_ra J (.tup bG (r.same g)))
 ·rw[if_neg z]at Z
  cases Z
theorem GF{fa:FA}(h:DB X fl .A es fa):DE X fl .F (.List es pos) (mF fa):=PE.imp (DY h) λσ H Q h=>by
 refine D3.ex4 h λG ow δ d R W q=>?_
 refine D3.ex1 (bind1 W) λl V Z=>?_
 by_cases z:l.length<=sizeLine
 ·rw[if_pos z]at Z
  cases Z;refine⟨G,ow,δ,l,R,V,λvs H' s r=>⟨by rwa[r.length],λp Y=>?_⟩⟩;have g:=cN Y (.lst vs);exact q _ _ (s.trans g) (.inr ⟨p,vs,l,rfl,rfl,s.free Y,bG,(r.track.imp (λb w=>⟨w.1,λe=>w.2 (e▸Y)⟩) (λz=>z)).same g⟩)
 ·rw[if_neg z]at Z
  cases Z
theorem jL{fa:FA}(h:DB X fl .C es fa):DE X fl .FC (.List es pos) (mF fa):=PE.imp (DY h) λσ H Q h=>by
 refine D3.ex4 h λG ow δ d R W q=>?_
 refine D3.ex1 (bind1 W) λl V Z=>?_
 by_cases z:l.length<=sizeLine
 ·rw[if_pos z]at Z
  cases Z;refine⟨G,ow,δ,l,R,V,λvs H' s r=>⟨by rwa[r.length],λp Y=>?_⟩⟩;have g:=cN Y (.lst vs);exact q _ _ (s.trans g) (.inr ⟨p,vs,l,rfl,rfl,s.free Y,bG,(r.track.imp (λb w=>⟨w.1,λe=>w.2 (e▸Y)⟩) (λz=>z)).same g⟩)
 ·rw[if_neg z]at Z
  cases Z
theorem RAs.at{K:PySem.W.Frag}{ok:Ok}{pl:Bool}{H:Hp}{vs:List V}{l:List D}{i:Int}{d:D}(r:RAs K ok pl H vs l)(h:pAt l i=some d):∃v,atI vs i=some v/\RA K ok pl H v d:=by
 unfold atI;refine D3.ex1 (bind1 h) λj X Y=>?_
 obtain⟨y,U,Z⟩:=r.get Y;exact⟨y,by rwa[r.length,show ixN l.length i=some j from X],Z⟩
theorem X6{L:List Nat}(ha:DE X fl (.B L) a fa)(hb:DE X fl .P b fb)(J:rN b):DE X fl .A (.Subscript a b pos) (dOp gIx fa fb):=PE.imp (Ky KC ha hb J) λσ H Q h=>by
 refine D3.ex4 h λG ow δ d R S q=>?_
 refine D3.ex2 (uE S) λx y N O W=>?_
 refine⟨G,ow,δ,x,R,N,λv H1 s1 r1=>⟨G,ow,δ,y,R.grow s1,O,λu H2 s2 r2=>?_⟩⟩;unfold gIx at W;split at W
 ·next l i=>
  obtain rfl:=RA.intE r2;rcases r1 with r1|⟨U,_,p,xs,ds,T,rfl,Z,hx,Y⟩
  ·obtain⟨p,xs,rfl,hx,Y⟩:=RA.lstE (RA.same s2 r1);obtain⟨z,Z,V⟩:=Y.at W;exact .inl ⟨p,xs,i,z,rfl,rfl,hx,Z,q z H2 (s1.trans s2) V⟩
  ·cases Z;obtain⟨z,Z,V⟩:=(Y.same s2).at W;exact .inl ⟨p,xs,i,z,rfl,rfl,SqL.of (s2 _ _ hx),Z,q z H2 (s1.trans s2) V⟩
 ·next l i=>
  obtain rfl:=RA.intE r2;rcases r1 with r1|⟨U,_,p,xs,ds,T,rfl,Z,hx,Y⟩
  ·obtain⟨p,xs,rfl,hx,Y⟩:=RA.tupE (RA.same s2 r1);obtain⟨z,Z,V⟩:=Y.at W;exact .inr (.inl ⟨p,xs,i,z,rfl,rfl,hx,Z,q z H2 (s1.trans s2) V⟩)
  ·cases Z
 ·cases W
theorem zm{q:BoolOp}(h:DE X fl k a f):DE X fl k (.BoolOp q [a] pos) f:=U6 h
theorem zp(h1:DE X fl .P a fa)(h2:DE X fl k (.BoolOp .And (b::rest) pos) fb):DE X fl k (.BoolOp .And (a::b::rest) pos) (Jg fa fb):=PE.imp (U7 h1 h2) λσ H Q h=>by
 refine D3.ex4 h λG ow δ d R Y q=>?_
 refine D3.ex1 (bind1 Y) λx W Z=>?_
 refine⟨G,ow,δ,x,R,W,λv H1 s1 r1=>?_⟩;split at Z
 ·obtain rfl:=RA.blE r1;exact⟨true,rfl,xG ⟨G,ow,δ,d,R.grow s1,Z,λu H2 s2 r2=>q u H2 (s1.trans s2) (r2.back s1)⟩⟩
 ·obtain rfl:=RA.blE r1
  cases Z;exact⟨false,rfl,xu (q _ H1 s1 (Rs.of_flat rfl (.bl _)))⟩
 ·cases Z
theorem Lh(h1:DE X fl .P a fa):DE X fl .FC (.UnaryOp .Not a pos) (QB fa):=PE.imp (U8 h1) λσ H Q h=>by
 refine D3.ex4 h λG ow δ d R Y q=>?_
 refine D3.ex1 (bind1 Y) λx W Z=>?_
 refine⟨G,ow,δ,x,R,W,λv H1 s1 r1=>?_⟩;split at Z
 ·next c=>
  obtain rfl:=RA.blE r1
  cases Z;exact⟨c,rfl,q _ H1 s1 (Rs.of_flat rfl (.bl _))⟩
 ·cases Z
theorem oY(h:DT X fl a ft):DT X fl (.UnaryOp .Not a pos) (tG ft):=PT.imp (Kc h) λσ H Q h=>by
 refine D3.ex4 h λG ow δ t R Z q=>?_
 unfold tG at Z
 cases e:ft δ with
 |none=>rw[e]at Z;cases Z
 |some x=>
  rw[e]at Z
  cases Z;exact⟨G,ow,δ,x,R,e,λH' s=>q H' s⟩
theorem u6(h:DT X fl a ft):DW X fl (.BoolOp .And [a] pos) ft:=Gi h
theorem Ep(h:DT X fl a ft):DW X fl (.BoolOp .Or [a] pos) ft:=U5 h
theorem zq(h1:DT X fl a ft)(h2:DW X fl (.BoolOp .And (b::rest) pos) gt):DW X fl (.BoolOp .And (a::b::rest) pos) (vH ft gt):=PW.imp (Ka h1 h2) λσ H Q h=>by
 refine D3.ex4 h λG ow δ t R Y q=>?_
 refine D3.ex1 (bind1 Y) λx W Z=>?_
 refine⟨G,ow,δ,x,R,W,λH1 s1=>?_⟩
 cases x with
 |true=>exact xG ⟨G,ow,δ,t,R.grow s1,Z,λH2 s2=>q H2 (s1.trans s2)⟩
 |false=>cases Z;exact xu (q H1 s1)
theorem Bm(h1:DT X fl a ft)(h2:DW X fl (.BoolOp .Or (b::rest) pos) gt):DW X fl (.BoolOp .Or (a::b::rest) pos) (tOr ft gt):=PW.imp (Xn h1 h2) λσ H Q h=>by
 refine D3.ex4 h λG ow δ t R Y q=>?_
 refine D3.ex1 (bind1 Y) λx W Z=>?_
 refine⟨G,ow,δ,x,R,W,λH1 s1=>?_⟩
 cases x with
 |true=>cases Z;exact xG (q H1 s1)
 |false=>exact xu ⟨G,ow,δ,t,R.grow s1,Z,λH2 s2=>q H2 (s1.trans s2)⟩
theorem Er(h:DW X fl a ft):DT X fl a ft:=PW.pt h
theorem Bo{O J:CmpOp}{r r':R2}{g g':D->D->Option D}(ho:OpR X (compareOp O) r)(U:OpR X (compareOp J) r')(hb:BrO X.K r g)(hb':BrO X.K r' g')(h1:DE X fl .P a fa)(h2:DE X fl .P b fb)(h3:DE X fl .P c fc)
 (hm:lastMarks [O,J] [b,c]=false:=by with_unfolding_all rfl):DE X fl .FC (.Compare a [O,J] [b,c] pos) (mG g g' fa fb fc):=PE.imp (Kl ho U h1 h2 h3 hm) λσ H Q h=>by
 refine D3.ex4 h λG ow δ d R Z q=>?_
 refine D3.ex1 (bind1 Z) λx L Z=>?_
 refine D3.ex1 (bind1 Z) λy M Z=>?_
 refine D3.ex1 (bind1 Z) λz N Z=>?_
 refine⟨G,ow,δ,x,R,L,λv H1 s1 r1=>⟨G,ow,δ,y,R.grow s1,M,λu H2 s2 r2=>?_⟩⟩;refine hb H2 v u x y z _ (RA.same s2 r1) r2 N λI V Y=>?_
 split at Z
 ·obtain rfl:=Y.blE;refine D3.ex1 (bind1 Z) λw e4 e5=>?_
  refine⟨true,rfl,xG ⟨G,ow,δ,w,R.grow (s1.trans s2),e4,λS T W r3=>?_⟩⟩;exact hb' T u S y w d Q (RA.same W r2) r3 e5 λz V Y=>q z T (s1.trans (s2.trans W)) (.inl ⟨V,Y⟩)
 ·obtain rfl:=Y.blE
  cases Z;exact⟨false,rfl,xu (q _ H2 (s1.trans s2) (.inl ⟨rfl,.bl _⟩))⟩
 ·cases Z
theorem Vw{K:PySem.W.Frag}{ok:Ok}{pl:Bool}{H:Hp}{v:V}{d:D}(r:RA K ok pl H v d):decide (v = .non)=isNone d:=by
 cases r<;>rfl
def BrC(K:PySem.W.Frag)(r:List V->Hp->VK->Prop)(g:List D->Option D):Prop:=∀(H:Hp)(xs:List V)(ds:List D)(d:D)(Q:VK),RAs K ok1 true H xs ds->g ds=some d->(∀v,flat d=true->RA K ok0 false H v d->Q v H)->r xs H Q
theorem jl{id:String}{r:List V->Hp->VK->Prop}{g:List D->Option D}{x:Str}{p:Pos}{fa:FA}(hc:kZ X (.builtin id) r)(hb:BrC X.K r g)(hg:Gl X x)(hm:X.mg x=none)(J:bootBuiltins x=some (.builtin id))(ha:DB X fl .P (e::es) fa)(hn:x≠"__name__" := by decide)(U:(x==("__debug__":Str))=false:=by decide)
 (he:starEach (e::es) X.env=(false,eval e X.env)::starEach es X.env:=by exact iB rfl) (O:(backTo pos (starEach es X.env)).any (·.1)=false:=by exact uG rfl):DE X fl .FC (.Call (.Name x p) (e::es) [] pos) (dCall g fa):=
 PE.imp (rM hc hg hm J ha hn U he O) λσ H Q h=>by
 refine D3.ex4 h λG ow δ d R W q=>?_
 refine D3.ex1 (bind1 W) λds S T=>?_
 exact⟨G,ow,δ,ds,R,S,λvs H' s Y=>hb H' vs ds d Q Y T λv J Z=>q v H' s (.inl ⟨J,Z⟩)⟩
theorem sy{K:PySem.W.Frag}:BrC K (λxs H Q=>∃p ys,xs=[.ref p]/\(SqL K H p ys\/SqT K H p ys)/\Q (.int ys.length) H) tQ:=by
 intro H xs ds d Q r e q;unfold tQ at e;split at e
 ·next l=>
  cases e
  cases r with
  |cons r1 r2=>
   cases r2;obtain⟨a,ys,rfl,hx,Z⟩:=r1.lstE;refine⟨a,ys,rfl,.inl hx,?_⟩;rw[Z.length];exact q _ rfl (.int _)
 ·next l=>
  cases e
  cases r with
  |cons r1 r2=>
   cases r2;obtain⟨a,ys,rfl,hx,Z⟩:=r1.tupE;refine⟨a,ys,rfl,.inr hx,?_⟩;rw[Z.length];exact q _ rfl (.int _)
 ·cases e
theorem Vx{K:PySem.W.Frag}:BrC K (λxs H Q=>∃i j,xs=[.int i,.int j]/\Q (.int (if j<i then j else i)) H) Gr:=by
 intro H xs ds d Q r e q;unfold Gr at e;split at e
 ·cases e
  cases r with
  |cons r1 r2=>
   cases r2 with
   |cons r2 r3=>
    cases r3;obtain rfl:=r1.intE;obtain rfl:=r2.intE;exact⟨_,_,rfl,q _ rfl (.int _)⟩
 ·cases e
theorem QL(d:D):tyD d="NoneType"\/tyD d="bool"\/tyD d="int"\/tyD d="str"\/tyD d="list"\/tyD d="tuple"\/tyD d="dict" := by
 cases d<;>simp[tyD]
def ac5(K:PySem.W.Frag):List V->Hp->VK->Prop:=λxs H Q=>∃x c d,xs=[x,.ty c]/\(c="int"\/c="bool"\/c="tuple"\/c="list"\/c="str")/\RA K ok1 true H x d/\noI d=true/\Q (.bl (isT c (tyD d))) H
theorem Li:kZ X (.builtin "isinstance") (ac5 X.K):=by
 intro pins s σ H xs us Q I r h;obtain⟨x,c,d,rfl,N,ra,hx,q⟩:=h;obtain⟨u,M,rfl,Y,P⟩:=vals2 r
 cases P;have kn:=Vm (K:=X.K) N (QL d);have Z:∀tk,EP X pins σ Q (.bool (isT c (tyD d))) {s with toks:=tk}:=λtk=>⟨.bl _,H,I.tok _,rfl,q⟩
 cases ra with
 |non=>cases(show u=dm from Y);exact PySem.W.kia_one PySem.W.kitx_none I.kIn dE kn (λz=>nomatch z) Z
 |bl b=>cases(show u=ei b from Y);exact PySem.W.kia_one PySem.W.kitx_bool I.kIn dE kn (λz=>nomatch z) Z
 |int i=>obtain⟨t,z⟩:=(show ∃t,u=ec i t from Y);cases z;exact PySem.W.kia_one PySem.W.kitx_int I.kIn dE kn (λz=>nomatch z) Z
 |str y=>obtain⟨t,z⟩:=(show ∃t,u=eC y t from Y);cases z;exact PySem.W.kia_one PySem.W.kitx_str I.kIn dE kn (λz=>nomatch z) Z
 | @lst a xs ds e k R=>
  cases(show u=db a from Y);obtain⟨its,_,⟨o,n,T,U,_⟩,_⟩:=I.list (SqL.of e);exact PySem.W.kia_one PySem.W.kitx_list I.kIn ⟨_,T,U⟩ kn (λz=>nomatch z) Z
 | @lsk a xs ds e k R=>
  cases(show u=db a from Y);obtain⟨its,_,⟨o,n,T,U,_⟩,_⟩:=I.list e.sq;exact PySem.W.kia_one PySem.W.kitx_list I.kIn ⟨_,T,U⟩ kn (λz=>nomatch z) Z
 | @tup a xs ds e R=>
  cases(show u=db a from Y);obtain⟨its,_,⟨o,T,U,_⟩,_⟩:=I.tuple e.sq;exact PySem.W.kia_one PySem.W.kitx_tuple I.kIn ⟨_,T,U⟩ kn (λz=>nomatch z) Z
 | @dic a S kvs e g k=>
  rcases g.or with⟨ks,z⟩|⟨ks,z⟩
  ·rw[z]at e;exact xZ I Y (TyOf.dK e) kn Z
  ·rw[z]at e;exact xZ I Y (TyOf.dT e) kn Z
 | @dik a S kvs V e g k=>
  cases(show u=db a from Y);have V:=(show fJ X.prog X.w H s.heap a S from(show L2.Rd H a S from .inr ⟨_,e⟩).ok I.hok);rcases g.or with⟨ks,z⟩|⟨ks,z⟩
  ·rw[z]at V;obtain⟨_,_,vs,_,dd⟩:=V;obtain⟨O,_,_,h1,h2,_⟩:=dd;exact PySem.W.kia_one PySem.W.kitx_dict I.kIn ⟨_,h1,h2.1⟩ kn (λz=>nomatch z) Z
  ·rw[z]at V;obtain⟨_,_,xs,_,O,_,_,h1,h2,_⟩:=V;exact PySem.W.kia_one PySem.W.kitx_dict I.kIn ⟨_,h1,h2.1⟩ kn (λz=>nomatch z) Z
 |ins _ _ _ z=>rw[z]at hx;cases hx
theorem vY{T:String}{x:Str}{p J:Pos}(hc:T="int"\/T="bool"\/T="tuple"\/T="list"\/T="str")(h:DE X fl .P a f)(hg:Gl X "isinstance")(hm:X.mg "isinstance"=none)(hg':Gl X x)(hm':X.mg x=none)(O:bootBuiltins x=some (.type T))
 (Y:x≠"__name__" := by decide) (hd':(x==("__debug__":Str))=false:=by decide)
 (he:starEach [a,.Name x J] X.env=(false,eval a X.env)::starEach [.Name x J] X.env:=by rfl) (he2:starEach [.Name x J] X.env=(false,eval (.Name x J) X.env)::starEach [] X.env:=by rfl) (U:(backTo pos (starEach [.Name x J] X.env)).any (·.1)=false:=by rfl) :
 DE X fl .FC (.Call (.Name "isinstance" p) [a,.Name x J] [] pos) (dUn (gIs T) f):=
 PE.imp (rM Li hg hm boot_isinstance (f9 h (f9 (Qd (v:=.ty T) hg' hm' O rfl Y hd') jF he2) he) (by decide) (by decide) he U) λσ H Q h=>by
 refine D3.ex4 h λG ow δ d R W q=>?_
 refine D3.ex1 (bind1 W) λx V Z=>?_
 unfold gIs at Z;split at Z
 ·rename_i hx
  cases Z;exact⟨G,ow,δ,x,R,V,λv H1 s1 r1=>⟨v,T,x,rfl,hc,r1,hx,q _ H1 s1 (.inl ⟨rfl,.bl _⟩)⟩⟩
 ·cases Z
theorem zu(h:DE X fl .P a f):DE X fl .FC (.UnaryOp .USub a pos) (dUn tR f):=PE.imp (Xy Vf h) λσ H Q h=>by
 refine D3.ex4 h λG ow δ d R Y q=>?_
 refine D3.ex1 (bind1 Y) λx W Z=>?_
 refine⟨G,ow,δ,x,R,W,λv H1 s1 r1=>?_⟩;unfold tR at Z;split at Z
 ·cases Z;obtain rfl:=RA.intE r1;exact⟨_,rfl,q _ H1 s1 (.inl ⟨rfl,.int _⟩)⟩
 ·cases Z
end
def spD(K:PySem.W.Frag)(F:List D->Option D):Sp:=λvs H Q _=>∃ds d,(Tb H/\RAs K ok1 true H vs ds)/\F ds=some d/\∀v H',Same H H'->RA K (okN H) false H' v d->Q v H'
section
variable{P:c_}{w:de}{K:PySem.W.Frag}{mg:Str->Option Value}{base:dl}{x:Str}{ps N:List Str}{st:dy}{k n:Nat}{fs:FS}{fl:List Fl}
theorem pL{vs:List V}{ds:List D}{H:Hp}(p:Nat)(O:∀i,i<p->fl[i]? = some .A)(q:ds.length=p)(hN:p<=N.length)(J:Tb H/\RAs K ok1 true H vs ds):
 Rel K fl ⟨H,H,λ_=>none,λ_=>[],J.1,λ_=>none⟩ ow0 (L2.start N vs) H (ds.map (λd=>some (.d d))++bK (N.length-p) none):=by
 have r:=J.2;have Z:vs.length=p:=by rw[r.length];exact q
 have get:∀i d,(ds.map (λd=>some (U.d d))++bK (N.length-p) none)[i]? = some (some (.d d))->i<p/\ds[i]? = some d:=λi d h=>by
  by_cases hi:i<p
  ·rw[bR (by rw[ak,q];exact hi),aO]at h
   cases e:ds[i]? with
   |none=>rw[e]at h;cases h
   |some z=>rw[e]at h;cases h;exact⟨hi,rfl⟩
  ·rw[bV (by rw[ak,q];omega),cM]at h;split at h<;>cases h
 refine⟨Same.refl H,Same.refl H,?_,λi a h=>(by cases h),λi j a h=>(by cases h),λi h=>rfl,λi d h _ _=>?_,λi d h _ h2 _=>?_,λi a h=>(by cases h),λi j a h=>(by cases h),λi j a h=>(by cases h),λi h=>rfl,λi d hn h=>?_,λi u h e=>(by cases e)⟩
 ·unfold L2.start;simp only[bw,ak,bF,Z,q]
 ·obtain⟨hi,e⟩:=get i d h;obtain⟨v,X,Y⟩:=r.get e;refine⟨v,?_,Y.imp (λ_ _=>⟨λi z=>(by cases z),λi z=>(by cases z)⟩) (λz=>z)⟩;unfold L2.start;rw[bR (by rw[ak,Z];exact hi),aO,X];rfl
 ·exact absurd (O i (get i d h).1) h2
 ·rw[O i (get i d h).1]at hn
  cases hn
end
section
variable{X:Cx}{fl:List Fl}{e:Expr}{es:List Expr}{pos p:Pos}{x:Str}{ps:List Str}{n:Nat}{F:List D->Option D}{fa:FA}
theorem cT(h:Has X.prog X.w X.K X.mg X.base n x ps (spD X.K F))(U:Room n X.A)(ha:DB X fl .P (e::es) fa)(Y:Gl X x:=by rfl)(O:(x==("__debug__":Str))=false:=by decide)
 (he:starEach (e::es) X.env=(false,eval e X.env)::starEach es X.env:=by exact iB rfl) (J:(backTo pos (starEach es X.env)).any (·.1)=false:=by exact uG rfl) :
 DE X fl .C (.Call (.Name x p) (e::es) [] pos) (dCall F fa):=PE.imp (Bb h U ha Y O he J) λσ H Q h=>by
 refine D3.ex4 h λG ow δ d R Z q=>?_
 refine D3.ex1 (bind1 Z) λds V W=>?_
 refine⟨G,ow,δ,ds,R,V,λvs H' s r=>?_⟩;show spD X.K F (vs++[]) H' Q E0;rw[cR];exact⟨ds,d,⟨R.tb.same s,r⟩,W,λv H2 s2 r2=>q v H2 (s.trans s2) (RA.imp (λa z=>s.free z) (λz=>z) r2)⟩
end
end D3
namespace D3
open L2 My
section
variable{X:Cx}{fl fl':List Fl}{e a b c elt tg iter:Expr}{es ifs:List Expr}{k:Kd}{f fa fb fc:FE}{ft gt:FT}{pos:Pos}{scope:er}{ix L TT:List Nat}{fi:FA}{g:FG}
theorem u9:PTs X [] (tDT X.K fl D3.uM):=λpins s σ H Q I h=>by
 refine D3.ex4 h λG ow δ b R Z q=>?_
 cases Z;exact Qz pins s σ H Q I (q H (Same.refl H))
theorem zx{K:PySem.W.Frag}{G:Gh}{ow:Ow}{σ:St}{H H1:Hp}{δ:DS}(t:Nat)(ix:List Nat)(J:∀i,i<t+ix.length->fl'[i]? = some .A)(R:Rel K fl G ow σ H δ)(s:Same H H1):
 Rel K fl' ⟨H,H,λ_=>none,λ_=>[],R.tb,λ_=>none⟩ ow0 (oU t ix σ) H1 (jf t ix δ):=by
 have get:∀i d,(jf t ix δ)[i]? = some (some (.d d))->i<t+ix.length/\∃j,ix[i-t]? = some j/\t<=i/\δ[j]? = some (some (.d d)):=λi d h=>by
  unfold jf at h;by_cases hi:i<t
  ·rw[bR (by rw[bF];exact hi),cM,if_pos hi]at h
   cases h
  ·rw[bV (by rw[bF];omega),bF,aO]at h
   cases e:ix[i-t]? with
   |none=>rw[e]at h;cases h
   |some j=>
    rw[e]at h;have S:i-t<ix.length:=by
     rcases lu (i-t) ix.length with z|z
     ·exact z
     ·rw[bA z]at e;cases e
    refine⟨by omega,j,rfl,by omega,?_⟩;have h':(δ[j]?).getD none=some (.d d):=by simpa using h
    cases q:δ[j]? with
    |none=>rw[q]at h';cases h'
    |some o=>rw[q]at h';simp at h';rw[h']
 refine⟨Same.refl H,s,?_,λi a h=>(by cases h),λi j a h=>(by cases h),λi h=>rfl,λi d h _ _=>?_,λi d h _ h2 _=>absurd (J i (get i d h).1) h2,λi a h=>(by cases h),λi j a h=>(by cases h),λi j a h=>(by cases h),λi h=>rfl,λi d hn h=>(by rw[J i (get i d h).1]at hn;cases hn),λi u h e=>(by cases e)⟩
 ·unfold oU jf;simp
 ·obtain⟨hi,j,U,T,Y⟩:=get i d h;have Z:∃v,σ[j]? = some (some v)/\RA K ok1 true H v d:=by
   cases V:isN fl[j]? with
   |true=>
    obtain⟨v,h1,h2,_⟩:=R.nr j d V Y;exact⟨v,h1,h2.ra λ_ _=>trivial⟩
   |false=>
   cases X:ow j with
   |none=>
    obtain⟨v,h1,h2⟩:=R.dat j d Y V X;exact⟨v,h1,h2.imp (λ_ _=>trivial) (λz=>z)⟩
   |some a=>
    obtain⟨_,_,xs,ds,h1,h2,h3,h4⟩:=R.own j a X;rw[Y]at h4
    cases h4;exact⟨_,h1,.lst h2 trivial (h3.imp (λ_ _=>trivial) (λz=>z))⟩
  obtain⟨v,h1,h2⟩:=Z;refine⟨v,?_,(h2.imp (λ_ _=>⟨λi z=>(by cases z),λi z=>(by cases z)⟩) (λz=>z)).same s⟩;unfold oU;rw[bV (by rw[bF];omega),bF,aO,U];show some ((σ[j]?).getD none)=_;rw[h1];rfl
theorem Bp{σ:St}{H:Hp}{Q:VK}{t:Nat}(hfl:∀i,i<t+ix.length->fl'[i]? = some .A)(htg:∀j∈TT,j<t)
 (h:tD X.K fl .FC (jH fi g ft f t ix) σ H Q):Bd (tDI X.K fl L fi) (tDG X.K fl' TT g) (tDT X.K fl' ft) (tD X.K fl' .C f) t (oU t ix) σ H Q:=by
 refine D3.ex4 h λG ow δ d R hf q=>?_
 refine D3.ex1 (bind1 hf) λl e1 N=>?_
 by_cases w:l.length<=100000
 case neg=>rw[if_neg w]at N;cases N
 rw[if_pos w]at N;refine D3.ex1 (bind1 N) λr e3 e4=>?_
 cases e4;refine⟨G,ow,δ,l,R,e1,λJ H1 s1 a Dl hD=>?_⟩;have R1:=R.grow s1
 let S:Ok:=λb=>okN H b/\b≠Dl
 refine⟨λi m xs H2=>m=l.length-i/\H2 Dl=some (.lst xs)/\Same H1 H2/\xs.length<=i/\i<=l.length/\∃ds rest,RAs X.K S false H2 xs ds/\fX g ft f (jf t ix δ) (l.drop i)=some rest/\r=ds++rest,
  ⟨_,rfl,bG,cN hD _,aP _,fL _,[],r,.nil,by simpa using e3,rfl⟩,?_⟩
 rintro i m xs H2 ⟨rfl,W,s2,D,u,ds,rest,B,Y,rfl⟩;refine⟨W,?_⟩;obtain⟨w1,w2⟩:=a H2 (λb o hb _ _=>s2 b o hb) i;by_cases U:i<l.length
 ·have O:=iV U;rw[O,fX]at Y;refine D3.ex1 (bind1 Y) λT e5 Y=>?_
  refine D3.ex1 (bind1 Y) λs e6 Y=>?_
  obtain⟨go,c⟩:=w1 l[i] (aF U);refine .inr ⟨go,qg (aZ D (aZ u w)) (by decide),λx H3 hy=>?_⟩;obtain⟨I,r3⟩:=c x H3 hy;have F:=s2.trans I;have Rb:=(zx t ix hfl R1 (Same.refl H1)).grow F;refine⟨_,_,_,_,T,Rb,r3.imp (λ_ _=>⟨λi z=>(by cases z),λi z=>(by cases z)⟩) (λz=>z),e5,λk p P=>⟨?_,?_⟩⟩
  ·apply iw;intro n;rw[gC,gC];exact P (t+n) λz=>absurd (htg _ z) (by omega)
  ·refine⟨_,_,T,s,p,e6,λH5 M=>?_⟩
   cases s with
   |false=>
    rw[if_neg eZ]at Y ⊢;have Z:=I.trans M;exact⟨l.length-(i+1),by omega,rfl,Z _ _ W,s2.trans Z,by omega,U,ds,rest,B.same Z,Y,rfl⟩
   |true=>
    rw[if_pos rfl]at Y ⊢;refine D3.ex1 (bind1 Y) λy e7 Y=>?_
    refine D3.ex1 (bind1 Y) λl' e8 Y=>?_
    cases Y;refine⟨_,_,T,y,p.grow M,e7,λv H6 s6 r6=>?_⟩;have Z:=I.trans M;have V:=Z.trans s6;refine⟨V _ _ W,l.length-(i+1),by omega,rfl,bG,?_,by rw[bw,g8];omega,U,ds++[y],l',?_,e8,by simp⟩
    ·intro b o hb;rw[bf (λz=>by subst z;rw[hD]at hb;cases hb)];exact(s2.trans V) b o hb
    ·have nd:¬S Dl:=λz=>z.2 rfl
     have E:=s1.trans (s2.trans Z);have ry:RA X.K S false H6 v y:=RA.imp (λb z=>⟨E.free z,λe=>by subst e;rw[okN,Z _ _ W]at z;cases z⟩) (λz=>z) r6;exact((B.same V).append (.cons ry .nil)).upd (V _ _ W) nd
 ·have ed:l.drop i=[]:=jB (by omega);rw[ed,fX]at Y
  cases Y;refine .inl ⟨w2 (by omega),?_⟩;rw[cR]at q;exact q (.ref Dl) H2 (s1.trans s2) (.inr ⟨Dl,xs,ds,rfl,rfl,s1.free hD,W,B⟩)
theorem lB(hc:X.calm=true)(T O:List Str)(ix:List Nat)(hi:DI X fl L tg iter fi)
 (hg:∀cl C U Y fp,DG (blk X (T++O) scope cl C U Y fp) fl' TT tg g) (ht:∀cl C U Y fp,PTs (blk X (T++O) scope cl C U Y fp) ifs (tDT X.K fl' ft)) (he:∀cl C U Y fp,DE (blk X (T++O) scope cl C U Y fp) fl' .C elt f)
 (hfl:∀i,i<T.length+ix.length->fl'[i]? = some .A:=by decide) (Z:∀j∈TT,j<T.length:=by decide)
 (hB:vM X.N X.env.scope.names scope.names O ix=true:=by rfl) (hk:scope.kind = .function:=by rfl) (J:∀y∈scope.names,y.2 ≠ .cell:=by decide +kernel)
 (q:∀x∈scope.names,x.2 = .local->scope.names.lookup x.1=some .local:=by decide +kernel)
 (hfr:∀x∈scope.names,x.2 = .free->x.1∈O:=by decide +kernel) (hs:∀x,foldedSetIterable iter X.env x=pure x:=by intro _;rfl) :
 DE X fl .FC (.ListComp elt [⟨tg,iter,ifs,0⟩] scope pos) (jH fi g ft f T.length ix):=
 PE.imp (yS hc T O ix hi hg ht he hB hk J q hfr hs) λ_ _ _ h=>Bp hfl Z h
theorem GJ{K:PySem.W.Frag}{G:Gh}{ow:Ow}{H H1:Hp}{p:Addr}{vs:List V}{l:List D}(s:Same H H1)(q:H1 p=none)(r:RAs K (okA ow) true H1 vs l):Rs K G.H0 ow H (upd H1 p (.lst vs)) .F (.ref p) (.list l):=
 .inr ⟨p,vs,l,rfl,rfl,s.free q,bG,(r.track.imp (λb w=>⟨w.1,λe=>w.2 (e▸q)⟩) (λz=>z)).same (cN q _)⟩
theorem zy{K:PySem.W.Frag}{H0:Hp}{ow:Ow}{Hb H:Hp}{L:List Nat}{v:V}{l:List D}(r:Rs K H0 ow Hb H (.B L) v (.list l)):∃a xs,v = .ref a/\SqL K H a xs/\RAs K (okA ow) true H xs l:=by
 rcases r with r|⟨i,hi,a,xs,ds,Y,rfl,e,hx,Z⟩
 ·exact r.lstE
 ·cases e;exact⟨a,xs,rfl,SqL.of hx,Z⟩
def X7(K:PySem.W.Frag):R2:=λx y H Q=>∃l b xs zs,x = .ref l/\y = .ref b/\SqL K H l xs/\SqL K H b zs/\xs.length+zs.length<=sizeLine/\∀p,H p=none->Q (.ref p) (upd H p (.lst (xs++zs)))
theorem QM:OpR X (binaryOp .Add) (X7 X.K):=by
 intro pins s σ H x y v u Q I N O h;obtain⟨l,b,xs,zs,rfl,rfl,M,hB,L,q⟩:=h
 cases N
 cases O;obtain⟨its,r,p,_⟩:=I.list M;obtain⟨Z,r2,p2,_⟩:=I.list hB;obtain⟨⟨cls,dd,data,sl⟩,S,R,n,hd⟩:=p.isList;obtain⟨⟨P,T,data2,U⟩,Y,V,n2,W⟩:=p2.isList;simp only at R hd V W;subst R hd V W;have G:=r.length;have J:=r2.length;have e:its.toArray++Z.toArray=(its++Z).toArray:=by simp
 refine concat_meets ⟨_,S,rfl⟩ ⟨_,Y,rfl⟩ noFill_list_add seq_list_add PySem.F.slot_list_add PySem.F.entry_list_add (PySem.F.args_list_add_2 _ _) (list_addW l b its.toArray Z.toArray n n2 dd T sl U (by simp;omega)) ⟨S,Y,?_⟩;rw[e];exact⟨.ref _,_,I.lnew (t':=s.toks) (r.append r2) (by rw[bw];omega),rfl,q _ I.fresh⟩
theorem Vy{L J:List Nat}(h1:DE X fl (.B L) a fa)(h2:DE X fl (.B J) b fb):DE X fl .F (.BinOp a .Add b pos) (dOp KR fa fb):=PE.imp (TQ QM h1 h2) λσ H Q h=>by
 refine D3.ex4 h λG ow δ d R S q=>?_
 refine D3.ex2 (uE S) λx y O P Z=>?_
 refine⟨G,ow,δ,x,R,O,λv H1 s1 r1=>⟨G,ow,δ,y,R.grow s1,P,λu H2 s2 r2=>?_⟩⟩;unfold KR at Z;split at Z
 ·next l m=>
  by_cases z:l.length+m.length<=1000000
  ·rw[if_pos z]at Z
   cases Z;obtain⟨p,xs,rfl,hx,W⟩:=zy r1;obtain⟨U,ys,rfl,T,Y⟩:=zy r2;refine⟨p,U,xs,ys,rfl,rfl,s2.seq hx,T,?_,λpn V=>q _ _ ((s1.trans s2).trans (cN V _)) (GJ (G:=G) (s1.trans s2) V ((W.same s2).append Y))⟩;rw[W.length,Y.length];exact aZ z (by decide)
  ·rw[if_neg z]at Z
   cases Z
 ·cases Z
theorem GK{L:List Nat}{p:Pos}(h:DE X fl (.B L) a f)(U:Gl X "list")(hm:X.mg "list"=none)
 (O:starEach [a] X.env=(false,eval a X.env)::starEach [] X.env:=by rfl) (J:(backTo pos (starEach [] X.env)).any (·.1)=false:=by rfl):DE X fl .F (.Call (.Name "list" p) [a] [] pos) (dUn rR f):=
 PE.imp (lD rO U hm cB (f9 h jF O) (by decide) (by decide) O J) λσ H Q h=>by
 refine D3.ex4 h λG ow δ d R V q=>?_
 refine D3.ex1 (bind1 V) λx T Y=>?_
 refine⟨G,ow,δ,x,R,T,λv H1 s1 r1=>?_⟩;unfold rR at Y;split at Y
 ·cases Y;obtain⟨p,xs,rfl,hx,W⟩:=zy r1;exact⟨p,xs,rfl,.inl hx,λpn Z=>q _ _ (s1.trans (cN Z _)) (GJ (G:=G) s1 Z W)⟩
 ·cases Y;rcases r1 with r1|⟨i,hi,a,xs,ds,S,rfl,e,hx,W⟩
  ·obtain⟨p,xs,rfl,hx,W⟩:=r1.tupE;exact⟨p,xs,rfl,.inr hx,λpn Z=>q _ _ (s1.trans (cN Z _)) (GJ (G:=G) s1 Z W)⟩
  ·cases e
 ·cases Y
def tDO(K:PySem.W.Frag)(fl:List Fl)(f:FO):TO:=λσ H Q=>∃G ow δ o,Rel K fl G ow σ H δ/\f δ=some o/\∀H',Same H H'->Q o H'
theorem PO.imp{o:Option Expr}{t t':TO}(h:PO X o t)(i:∀σ H Q,t' σ H Q->t σ H Q):PO X o t':=λpins s σ H Q I q=>h pins s σ H Q I (i σ H Q q)
theorem QS:PO X none (tDO X.K fl KY):=PO.imp Qq λσ H Q h=>by
 refine D3.ex4 h λG ow δ o R Z q=>?_
 cases Z;exact q H (Same.refl H)
theorem QT(h:DE X fl .P e f):PO X (some e) (tDO X.K fl (KZ f)):=PO.imp (Qs h) λσ H Q h=>by
 refine D3.ex4 h λG ow δ o R Y q=>?_
 refine D3.ex1 (bind1 Y) λd W Z=>?_
 split at Z
 ·cases Z;refine⟨G,ow,δ,_,R,W,λv H1 s1 r1=>?_⟩;obtain rfl:=RA.intE r1;exact⟨_,rfl,q H1 s1⟩
 ·cases Z
theorem Lj(n d:Nat)(o:Option Int):HT.sIx n d o=pSx n d o:=by
 cases o<;>rfl
theorem RAs.cut{K:PySem.W.Frag}{ok:Ok}{pl:Bool}{H:Hp}{vs:List V}{l:List D}(r:RAs K ok pl H vs l)(lo hi:Option Int):RAs K ok pl H (Jb vs lo hi) (cuD l lo hi):=by
 unfold Jb cuD;rw[r.length,Lj,Lj];exact(r.drop _).take _
theorem X8{L:List Nat}{lo hi:Option Expr}{p2:Pos}{fl1 J:FO}(h:DE X fl (.B L) a f)(h1:PO X lo (tDO X.K fl fl1))(h2:PO X hi (tDO X.K fl J)):DE X fl .F (.Subscript a (.Slice lo hi none p2) pos) (dSl f fl1 J):=PE.imp (Kw Qw h h1 h2) λσ H Q h=>by
 refine D3.ex4 h λG ow δ d R Y q=>?_
 refine D3.ex1 (bind1 Y) λx N Y=>?_
 refine D3.ex1 (bind1 Y) λV O Y=>?_
 refine D3.ex1 (bind1 Y) λW P e4=>?_
 refine⟨G,ow,δ,x,R,N,λv H1 s1 r1=>⟨G,ow,δ,V,R.grow s1,O,λH2 s2=>⟨G,ow,δ,W,R.grow (s1.trans s2),P,λM T=>?_⟩⟩⟩;split at e4
 ·cases e4;obtain⟨p,xs,rfl,hx,S⟩:=zy r1;have Z:=s2.trans T;exact⟨p,xs,rfl,Z.seq hx,λpn U=>q _ _ ((s1.trans Z).trans (cN U _)) (GJ (G:=G) (s1.trans Z) U ((S.same Z).cut V W))⟩
 ·cases e4
theorem Lk{st:dy}:DS1 X fl st (λ_=>none):=PS.imp Ke λY σ H h=>by
 refine D3.ex4 h λG ow δ o R Z q=>?_
 cases Z
end
end D3
namespace D3
open L2 My
section
variable{X:Cx}{pins:List (Addr×Obj)}{σ:St}{H:Hp}{s:c9}{h':dl}
theorem Inv.turnedL{t':Nat}{ch:List Addr}(I:Inv X pins σ H s)(k:∀b o,b∉ch->s.heap.get? b=some o->h'.get? b=some o)(J:∀b∈ch,tH X pins H b):Inv X pins σ H {s with heap:=h',toks:=t'}:=by
 have Y:∀b u,H b=some u->b∉ch:=λb u e z=>by rw[(J b z).1]at e;cases e
 refine I.step (g':=s.gens) (d':=s.drawn) (ch:=ch) (λb hb=>?_) (λb o _ _ Z e _=>k b o Z e) (λb o _ _ Z e _=>⟨o.slots,k b o Z e⟩) (λ_ _ _ _ n=>n)
  (λb o Z e=>⟨o,k b o Z e⟩) (λ_ _ e=>e) (λ_ _ _ e=>e) (λ_ _ _ e=>e) (λm hm=>?_) (λb u e=>?_) I.bare
 ·obtain⟨R,f1,f2,T,U,V⟩:=J b hb;exact⟨T,f1,U,V⟩
 ·obtain⟨o,es,S,W,r⟩:=hm;exact⟨o,es,S,k _ o (λz=>(J _ z).2.1 rfl) W,r⟩
 ·refine(I.hok b u e).stay (λc v Z q=>k c v ?_ q) (λ_ q=>q) λ_ _ q=>q
  rcases Z with z|z
  ·rw[z];exact Y b u e
  ·exact Y c _ z
end
def Ite(K:PySem.W.Frag)(a:Addr):It:=
 ⟨λi H=>∃xs x,SqL K H a xs/\xs[i]? = some x,λi H x H'=>∃p y,H p=none/\H'=upd H p (.tup [.int i,y])/\x = .ref p/\∀xs,SqL K H a xs->xs[i]? = some y,λi H=>∃xs,SqL K H a xs/\xs.length<=i⟩
theorem Jk{P:c_}{w:de}{K:PySem.W.Frag}{elts:List Expr}{x1}{tpos:Pos}(a it:Addr):
 Turn P w K (.Tuple elts x1 tpos) (Ite K a) [it+1,it] (it+1) (λi h=>∃old,IsEnum h (it+1) it (i:Int) old/\h.IsListIter it a i) where
 mem:=by simp
 obj:=λi h st b hb=>by
  obtain⟨old,Y,o,e,c,d⟩:=st;rcases aN.mp hb with z|z
  ·subst z;exact⟨_,Y,λv z=>by cases z⟩
  ·have z:b=it:=by simpa using z
   subst z;exact⟨o,e,λv z=>by rw[d]at z;cases z⟩
 keep:=λi h h' st k=>by
  obtain⟨old,Y,hi⟩:=st;exact⟨old,k _ (by simp) _ Y,hi.at λo e=>k it (by simp) o e⟩
 item:=by
  intro X M hw L G i pins s σ H E I U st O;subst M hw L;obtain⟨xs,x,T,hx⟩:=O;obtain⟨its,R,p,D⟩:=I.list T;obtain⟨u,B,F⟩:=R.get hx;obtain⟨old,Y,hi⟩:=st;have V:=af Y;refine wpAny_pyNext_enum_item Y hi p.isList (x:=u) (by simpa using B) (Nat.succ_ne_self it) λh1 t Q A y r=>?_
  refine⟨_,rfl,wpAny_letOwnedTupleGo_enum t λh2 N Z=>?_⟩
  replace Z:ew (it+1) h1 h2:=Z
  have hn:=I.hok.fresh (aP _);have I0:Inv X pins σ (upd H s.heap.objs.size (.tup [.int (i:Int),x])) {s with heap:=s.heap.push {cls:=.type "tuple", data:=.seq #[.int (i:Int) s.toks,u]} }:=
   I.laid (t':=s.toks) (λb o e=>ae _ e) (aP _) ⟨show 2<=sizeLine by decide,[.int (i:Int) s.toks,u],.cons ⟨_,rfl⟩ (.cons F .nil),⟨_,ah _ rfl,rfl,_,rfl⟩⟩
  have ne:∀b,b∈[it+1,it]->b≠s.heap.objs.size:=λb hb=>by
   rcases aN.mp hb with S|S
   ·rw[S];exact bB V
   ·rw[show b=it by simpa using S];exact bB (Nat.lt_of_succ_lt V)
  have m:Inv X pins σ (upd H s.heap.objs.size (.tup [.int (i:Int),x])) {s with heap:=h2,toks:=s.toks+1}:=by
   refine Inv.turnedL (s:={s with heap:=s.heap.push {cls:=.type "tuple", data:=.seq #[.int (i:Int) s.toks,u]} }) (ch:=[it+1,it]) I0 (λb o hb e=>?_) λb hb=>⟨by rw[bf (ne b hb)];exact(U b hb).1,(U b hb).2⟩
   have b1:b≠it+1:=λz=>hb (by simp[z])
   have b2:b≠it:=λz=>hb (by simp[z])
   rcases cS e with⟨J,n⟩|J
   ·subst J n;exact(Z.2 _ b1).trans A
   ·exact(Z.2 _ b1).trans (r b o b1 b2 J)
  refine⟨.ref s.heap.objs.size,_,m,rfl,⟨_,x,hn,rfl,rfl,λys C=>by rwa[I.list_inj C T]⟩,⟨_,N,Q.at λo e=>(Z.2 _ (bB (eX it))).trans e⟩,λb hb=>?_⟩;rw[bf (ne b hb)];exact(U b hb).1
 done:=by
  intro X M hw L G i pins s σ H E I U st O;subst M hw L;obtain⟨xs,T,hx⟩:=O;obtain⟨its,R,p,D⟩:=I.list T;obtain⟨old,Y,hi⟩:=st;have l:=R.length;refine wpAny_pyNext_enum_end (I.ok.hd G) Y hi p.isList (by simp;omega) λh' q=>⟨rfl,Inv.turnedL (t':=s.toks) (ch:=[it+1,it]) I (λb o hb e=>q b o (λz=>hb (by simp[z])) e) U⟩
 self:=λ_ _ _ _ _ st h=>by
  obtain⟨old,Y,_⟩:=st;exact wpAny_pyIter_enum Y h
section
variable{X:Cx}{fl:List Fl}{a:Expr}{f:FE}{pos:Pos}
def X_(K:PySem.W.Frag)(tl:TE):TI:=λσ H R=>tl σ H λx H1=>∃a,x = .ref a/\(∃xs,SqL K H1 a xs)/\R (Ite K a) H1
theorem QV{elts:List Expr}{x1}{tpos p:Pos}{tl:TE}(hg:Gl X "enumerate")(hm:X.mg "enumerate"=none)(hl:PE X a tl)(O:starEach [a] X.env=(false,eval a X.env)::starEach [] X.env:=by rfl)
 (J:(backTo pos (starEach [] X.env)).any (·.1)=false:=by rfl):PI X (.Tuple elts x1 tpos) (.Call (.Name "enumerate" p) [a] [] pos) (X_ X.K tl):=by
 intro pins s σ H R I h;refine av (lG I hg hm boot_enumerate (du (thn ((f9 hl jF O) pos pins s σ H (λvs H1=>match vs with|[x]=>∃a,x = .ref a/\(∃xs,SqL X.K H1 a xs)/\R (Ite X.K a) H1|_=>False) I h) λus s1 ⟨vs,H1,W,r1,q1⟩=>?_) O J))
 cases r1 with
 |nil=>exact q1.elim
 |cons r U=>
  cases U with
  |cons _ _=>exact q1.elim
  |nil=>
  obtain⟨l,e,⟨xs,S⟩,q⟩:=q1;subst e
  cases r;obtain⟨its,N,pl,M⟩:=W.list S;refine call_enumerate_list pl.isList λh' Z V T Q=>?_
  have P:=W.kept (t':=s1.toks) Q;refine wpAny_pyIter_enum (s:={s1 with heap:=h'}) Z ?_;refine⟨s1.heap.objs.size+1,[s1.heap.objs.size+1,s1.heap.objs.size],_,_,H1,rfl,P,Jk l s1.heap.objs.size,⟨_,Z,V⟩,λb hb=>?_,q⟩;have Y:s1.heap.objs.size<=b:=by
   rcases aN.mp hb with z|z
   ·rw[z];exact iD _
   ·rw[show b=s1.heap.objs.size by simpa using z];exact aP _
  exact W.fpOk Y (W.hok.fresh Y)
theorem GP{elts:List Expr}{x1}{tpos p:Pos}{L:List Nat}(h:DE X fl (.B L) a f)(hg:Gl X "enumerate")(hm:X.mg "enumerate"=none)(he:starEach [a] X.env=(false,eval a X.env)::starEach [] X.env:=by rfl)
 (J:(backTo pos (starEach [] X.env)).any (·.1)=false:=by rfl):DI X fl L (.Tuple elts x1 tpos) (.Call (.Name "enumerate" p) [a] [] pos) (Gs f):=PI.imp (QV hg hm h he J) λσ H R' h=>by
 refine D3.ex4 h λG ow δ l R M q=>?_
 refine D3.ex1 (bind1 M) λd K T=>?_
 cases d<;>first|(cases T;done)|skip
 next W=>
 cases T;refine⟨G,ow,δ,_,R,K,λv H1 s r=>?_⟩;obtain⟨a,xs,rfl,hx,keep⟩:=Ej (R.grow s) r;refine⟨a,rfl,⟨xs,hx⟩,q _ _ s λH2 k2 i=>?_⟩;obtain⟨k3,V⟩:=keep H2 k2;refine⟨λd hd=>?_,λN=>⟨xs,k3,by rw[V.length];simpa[oV]using N⟩⟩;have Z:(W[i]?).map (λx=>dA [.int (i:Int),x])=some d:=by
  have:=hd;unfold oV at this;rwa[j8]at this
 cases e:W[i]? with
 |none=>rw[e]at Z;cases Z
 |some I=>
  rw[e]at Z
  cases Z;obtain⟨y,U,Q⟩:=V.get e;refine⟨⟨xs,y,k3,U⟩,λx F Y=>?_⟩;obtain⟨p,S,O,rfl,rfl,P⟩:=Y;have:some y=some S:=U.symm.trans (P xs k3)
  cases this;have g:=cN O (.tup [.int (i:Int),y]);exact⟨g,.tup bG (.cons (.int _) (.cons (Q.same g) .nil))⟩
end
structure Bl(mg:Str->Option Value):Prop where
 len_:mg "len"=none
 range_:mg "range"=none
 abs_:mg "abs"=none
 isinstance_:mg "isinstance"=none
 int_:mg "int"=none
 bool_:mg "bool"=none
 tuple_:mg "tuple"=none
 list_:mg "list"=none
 str_:mg "str"=none
 max_:mg "max"=none
 min_:mg "min"=none
 sorted_:mg "sorted"=none
 sum_:mg "sum"=none
 reversed_:mg "reversed"=none
 enumerate_:mg "enumerate"=none
 zip_:mg "zip"=none
 set_:mg "set"=none
 any_:mg "any"=none
 all_:mg "all"=none
 dict_:mg "dict"=none
end D3
namespace D3
open L2 My
structure FunD(K:PySem.W.Frag)(x:Str)(st:dy)(f:Addr)(fd:dk):Prop where
 ex:∃(oc:Value)(od:Option Addr)(dV kV doc pm:Value)(an:Option Addr)(cdv ct:Value)(osl:Array (Option Value)),
  fd=PySem.W.fnOf x x (jG st) (dR st) (bh st) dV kV doc pm an cdv ct/\K.lookup f=some ⟨oc,od,.func fd,osl⟩/\PySem.W.codeIn K cdv x=true
 kp:PySem.W.keepIn K (.ref f)=true
structure Dg(K:PySem.W.Frag)(mg:Str->Option Value)(x:Str)(st:dy)(ps:List Str):Prop where
 ex:∃(f:Addr)(fd:dk),FunD K x st f fd/\Binds K fd ps []/\mg x=some (.ref f)
theorem Yb{K:PySem.W.Frag}{h:dl}{mg:Str->Option Value}{f:Addr}{oc kV J pm q ct:Value}{od an:Option Addr}{sl:Array (Option Value)}{x:Str}{st:dy}{ps:List Str}(X:K.In h)(G:h.Ns mainGlobals mg)
 (hb:∀(kV doc pm:Value)(an:Option Addr)(cdv ct:Value)(us:List Value),us.length=ps.length->bindArgs (PySem.W.fnOf x x (jG st) (dR st) (bh st) .none kV doc pm an cdv ct) ⟨us,[]⟩=pure (ps.zip us))
 (a:PySem.W.nsIn K mainGlobals x=some (some (.ref f))) (l:K.lookup f=some ⟨oc,od,.func (PySem.W.fnOf x x (jG st) (dR st) (bh st) .none kV J pm an q ct),sl⟩) (c:PySem.W.codeIn K q x=true) (k:PySem.W.keepIn K (.ref f)=true):Dg K mg x st ps:=
 ⟨_,_,⟨⟨oc,od,.none,kV,J,pm,an,q,ct,sl,rfl,l,c⟩,k⟩,.all (hb kV J pm an q ct),PySem.W.mg_of X G a⟩
structure Dl(K:PySem.W.Frag)(mg:Str->Option Value)(x y:Str)(st:dy):Prop where
 ex:∃(f:Addr)(fd:dk),FunD K x st f fd/\(∀(s:c9)(u:Value),BindsTo s fd ⟨[u],[]⟩ [(y,u)])/\mg x=some (.ref f)
theorem Yc{K:PySem.W.Frag}{h:dl}{mg:Str->Option Value}{f:Addr}{oc kV J pm q ct:Value}{od an:Option Addr}{sl:Array (Option Value)}{x y:Str}{st:dy}(X:K.In h)(G:h.Ns mainGlobals mg)
 (hb:∀(kV doc pm:Value)(an:Option Addr)(cdv ct:Value)(u:Value),bindArgs (PySem.W.fnOf x x (jG st) (dR st) (bh st) .none kV doc pm an cdv ct) ⟨[u],[]⟩=pure [(y,u)])
 (a:PySem.W.nsIn K mainGlobals x=some (some (.ref f))) (l:K.lookup f=some ⟨oc,od,.func (PySem.W.fnOf x x (jG st) (dR st) (bh st) .none kV J pm an q ct),sl⟩) (c:PySem.W.codeIn K q x=true) (k:PySem.W.keepIn K (.ref f)=true):Dl K mg x y st:=
 ⟨_,_,⟨⟨oc,od,.none,kV,J,pm,an,q,ct,sl,rfl,l,c⟩,k⟩,λs u=>.of_eq (hb kV J pm an q ct u),PySem.W.mg_of X G a⟩
section
variable{P:c_}{w:de}{K:PySem.W.Frag}{mg:Str->Option Value}{base:dl}{x:Str}{ps N:List Str}{st:dy}{k n:Nat}{fs:FS}{fl:List Fl}
theorem FunD.ok{f:Addr}{fd:dk}{sp:Sp}(F:FunD K x st f fd)(S:FnScope N ps (bh st))(len:∀vs H Q E,sp vs H Q E->vs.length=ps.length)
 (J:∀(cdv:Value)(A:dc)(outer:List Env)(s:c9)(H:Hp)(vs:List V)(Q:VK)(E:XK),Room k (A.deeper (envOfC x (bh st) s.heap.objs.size f cdv))->sp vs H Q E ->
  ∃t,PSs (mC CX0 P w K mg base N x (bh st) f cdv A outer s H E).nox (dR st) t/\t {nx:=λ_ H'=>Q .non H',rt:=Q} (L2.start N vs) H):FnOk P w K mg base CX0 (k+1) f fd ps sp:=by
 obtain⟨oc,od,dV,kV,doc,pm,an,cdv,ct,osl,rfl,lk,hcd⟩:=F.ex;refine Kv lk hcd S len λA outer s H vs Q E Y Z=>?_
 obtain⟨t,h,q⟩:=J cdv A outer s H vs Q E Y Z;exact⟨t,h.nox,q⟩
theorem Ln{f:Addr}{fd:dk}(Fn:FunD K x st f fd)(S:FnScope N ps (bh st))(O:∀i,i<ps.length->fl[i]? = some .A)(U:ps.length<=N.length)
 (J:∀(f:Addr)(cdv:Value)(A:dc)(outer:List Env)(s:c9)(H:Hp)(E:XK),Room k (A.deeper (envOfC x (bh st) s.heap.objs.size f cdv))->DSs (cx P w K mg base N x st f cdv A outer s H E) fl (dR st) fs) :
 FnOk P w K mg base CX0 (k+1) f fd ps (spD K (fnD ps.length (N.length-ps.length) fs)):=by
 refine Fn.ok S (λvs H Q E h=>?_) (λcdv A outer s H vs Q E X h=>?_)
 ·obtain⟨ds,d,r,Z,_⟩:=h;unfold fnD at Z;by_cases z:ds.length=ps.length
  ·rwa[r.2.length]
  ·rw[if_neg z]at Z;cases Z
 ·obtain⟨ds,d,r,Z,q⟩:=h;refine⟨_,J f cdv A outer s H E X,?_⟩;unfold fnD at Z;by_cases z:ds.length=ps.length
  ·rw[if_pos z]at Z;split at Z
   ·next W e=>
    cases Z;exact⟨_,_,_,_,pL ps.length O z U r,e,λv H' s r=>q v H' s r⟩
   ·next δ' e=>
    cases Z;exact⟨_,_,_,_,pL ps.length O z U r,e,λY σ' H' R'=>q .non H' R'.same0 .non⟩
   ·cases Z
  ·rw[if_neg z]at Z;cases Z
theorem kh(U:Dg K mg x st ps)(S:FnScope N ps (bh st))(J:∀i,i<ps.length->fl[i]? = some .A)(O:ps.length<=N.length)
 (q:∀(f:Addr)(cdv:Value)(A:dc)(outer:List Env)(s:c9)(H:Hp)(E:XK),Room k (A.deeper (envOfC x (bh st) s.heap.objs.size f cdv))->DSs (cx P w K mg base N x st f cdv A outer s H E) fl (dR st) fs) :
 Has P w K mg base (k+1) x ps (spD K (fnD ps.length (N.length-ps.length) fs)):=by
 obtain⟨f,fd,Z,b,m⟩:=U.ex;exact⟨f,fd,Ln Z S J O q,b,Z.kp,m⟩
end
noncomputable def Lp(K:PySem.W.Frag):Sp:=λvs H Q _=>∃(a:Addr)(ns:List Int),Tb H/\vs=[.ref a]/\SqL K H a (ns.map V.int)/\ns.length<=63/\∀H',Q (.bl true) H'
theorem lY{K:PySem.W.Frag}{ok:Ok}{pl:Bool}{H:Hp}:∀ns:List Int,RAs K ok pl H (ns.map V.int) (ns.map da)
 |[]=>.nil
 |n::r=>.cons (.int n) (lY r)
theorem QW{K:PySem.W.Frag}{F:List D->Option D}(J:∀ns:List Int,ns.length<=63->F [.list (ns.map .int)]=some (.bool true))(vs:List V)(H:Hp)(Q:VK)(E:XK)(h:Lp K vs H Q E):spD K F vs H Q E:=by
 obtain⟨a,ns,tb,rfl,Y,Z,q⟩:=h;refine⟨_,_,⟨tb,.cons ?_ .nil⟩,J ns Z,λv H' s r=>?_⟩
 ·rcases Y with(h|⟨o,h⟩)|h
  ·exact .lst h trivial (lY ns)
  ·exact .lsk (.inl ⟨o,h⟩) rfl (lY ns)
  ·exact .lsk (.inr h) rfl (lY ns)
 ·obtain rfl:=r.blE;exact q H'
end D3
namespace D3
open L2 My
section
variable{prog:c_}{w:de}{A:dc}{E:Value->c9->Prop}{s:c9}
end
section
variable{X:Cx}{fl:List Fl}{a:Expr}{f:FE}{pos p p2 pos2:Pos}
end
section
variable{X:Cx}{fl:List Fl}{a b:Expr}{pos p p2 pos2:Pos}{fa:FA}
end
end D3
namespace D3
open L2 My
section
variable{X:Cx}
theorem oZ:∀{ns:List Int}{its:List Value},Vals (ns.map V.int) its->eV its ns
 |[],_,.nil=>.nil
 |n::r,_,.cons h t=>by
  obtain⟨k,rfl⟩:=h;exact .cons _ _ (oZ t)
theorem lJ{K:PySem.W.Frag}{ok:Ok}{pl:Bool}{H:Hp}:∀{l:List D}{ns:List Int}{ys:List V},iz l=some ns->RAs K ok pl H ys l->ys=ns.map V.int
 |[],_,_,e,.nil=>by cases e;rfl
 |d::r,ns,_,e,.cons h t=>by
  cases d<;>first|(cases e;done)|skip
  obtain rfl:=h.intE
  cases Z:iz r with
  |none=>rw[iz,Z]at e;cases e
  |some m=>
   rw[iz,Z]at e
   cases e;rw[lJ Z t];rfl
theorem Jl(J:X.calm=true):kZ X (.builtin "max") (λxs H Q=>∃(p:Addr)(i:Int)(r:List Int),xs=[.ref p]/\SqL X.K H p ((i::r).map V.int)/\Q (.int (mxI i r)) H):=by
 intro pins s σ H xs us Q I r h;obtain⟨p,i,Y,rfl,hx,q⟩:=h;obtain⟨u,rfl,T⟩:=vals1 r
 cases T;obtain⟨its,W,pl,L⟩:=I.list hx;have hi:=oZ W;obtain⟨xs,e⟩:=hi.allInts.items;have Z:i::Y=xs.toList.map (·.1):=by rw[<-hi.numsOf,<-nums_intItems,<-e]
 have U:0<xs.size:=by
  have h3:0<(i::Y).length:=by simp
  rw[Z,ak,cH]at h3;exact h3
 have O:=e▸pl.isList;refine max_intList (I.ok.hd J) O U λv h' tk P N=>?_
 obtain⟨t,rfl⟩:=intItems_at P;obtain⟨h1,h2⟩:=argBest_gt (numAt xs) (xs.size-1);have R:numAt xs (argBest (λi j=>decide (numAt xs i>numAt xs j)) (xs.size-1))∈i::Y:=by
  rw[Z,numAt_eq];exact getD_mem (by rw[ak,cH];omega)
 have S:∀a∈i::Y,a<=numAt xs (argBest (λi j=>decide (numAt xs i>numAt xs j)) (xs.size-1)):=λa ha=>by
  rw[Z]at ha;obtain⟨j,M,rfl⟩:=mem_getD ha;rw[ak,cH]at M;rw[<-numAt_eq];exact h2 j (by omega)
 have sp:=vQ Y i;have eq:=oA (sp.2 _ R) (S _ sp.1);rw[eq];exact⟨.int _,H,I.kept N,⟨_,rfl⟩,q⟩
theorem Vz{K:PySem.W.Frag}:BrC K (λxs H Q=>∃(p:Addr)(i:Int)(r:List Int),xs=[.ref p]/\SqL K H p ((i::r).map V.int)/\Q (.int (mxI i r)) H) Bg:=by
 intro H xs ds d Q r e q;unfold Bg at e;split at e
 ·next l=>
  split at e
  ·next i Z X=>
   cases e
   cases r with
   |cons r1 r2=>
    cases r2;obtain⟨a,ys,rfl,hx,Y⟩:=r1.lstE;obtain rfl:=lJ X Y;exact⟨a,i,Z,rfl,hx,q _ rfl (.int _)⟩
  ·cases e
 ·cases e
theorem pN:∀{l m:List Int},l.Perm m->l.Pairwise (· <= ·)->m.Pairwise (· <= ·)->l=m
 |[],m,p,_,_=>p.nil_eq
 |a::l,m,p,h1,h2=>by
  cases m with
  |nil=>exact absurd p.length_eq (by simp)
  |cons b m=>
   obtain⟨a1,a2⟩:=dg.mp h1;obtain⟨b1,b2⟩:=dg.mp h2;have e:a=b:=by
    have x1:=p.mem_iff.mp aA;have x2:=p.mem_iff.mpr aA;rcases aN.mp x1 with z|z
    ·exact z
    ·rcases aN.mp x2 with y|y
     ·exact y.symm
     ·exact oA (a1 b y) (b1 a z)
   subst e;rw[pN (List.Perm.cons_inv p) a2 b2]
theorem jV:∀{ns:List Int}{its:List Value},eV its ns->Vals (ns.map V.int) its
 |_,_,.nil=>.nil
 |_,_,.cons n t r=>.cons ⟨t,rfl⟩ (jV r)
theorem zA:kZ X (.builtin "sorted") (λxs H Q=>∃(p:Addr)(ns:List Int),xs=[.ref p]/\SqL X.K H p (ns.map V.int)/\ns.length<64/\∀l,H l=none->Q (.ref l) (upd H l (.lst ((jW ns).map V.int)))):=by
 intro pins s σ H xs us Q I r h;obtain⟨p,ns,rfl,hx,Y,q⟩:=h;obtain⟨u,rfl,W⟩:=vals1 r
 cases W;obtain⟨its,Z,pl,P⟩:=I.list hx;have hi:=oZ Z;refine sorted_ints pl.isList hi (by rwa[hi.length]) λout U a1 a2 a3=>?_
 obtain rfl:=pN (a2.trans (dY ns).symm) a3 (ju ns);obtain⟨e,S⟩:=sortedAll_at s.heap its out;have hn:=I.hok.fresh (iD _);have T:=(dY ns).length_eq;have R:=I.laid (h':=sortedAll s.heap its out) (t':=s.toks) (a:=s.heap.objs.size+1) (o:=.lst ((jW ns).map V.int)) (λb u e=>sortedAll_old e) (iD _)
  ⟨by rw[ak,T];exact aZ (dB Y) (by decide),out.toList,e,jV a1,by simpa[seqObj]using S⟩
 exact⟨.ref _,_,R,rfl,q _ hn⟩
theorem yr{fl:List Fl}{e:Expr}{fa:FA}{p pos:Pos}(ha:DB X fl .P [e] fa)(O:Gl X "sorted")(hm:X.mg "sorted"=none)
 (he:starEach [e] X.env=(false,eval e X.env)::starEach [] X.env:=by rfl) (J:(backTo pos (starEach [] X.env)).any (·.1)=false:=by rfl):DE X fl .FC (.Call (.Name "sorted" p) [e] [] pos) (dCall Bh fa):=
 PE.imp (rM zA O hm (show bootBuiltins "sorted"=some (.builtin "sorted")by decide +kernel) ha (by decide) (by decide) he J) λσ H Q h=>by
 refine D3.ex4 h λG ow δ d R T q=>?_
 refine D3.ex1 (bind1 T) λds S Z=>?_
 refine⟨G,ow,δ,ds,R,S,λvs H' s V=>?_⟩;unfold Bh at Z;split at Z
 ·next l=>
  cases W:iz l with
  |none=>rw[W]at Z;cases Z
  |some ns=>
   rw[W,aj]at Z;by_cases Y:ns.length<64
   ·rw[if_pos Y]at Z
    cases Z
    cases V with
    |cons r1 r2=>
     cases r2;obtain⟨a,ys,rfl,hx,U⟩:=r1.lstE;obtain rfl:=lJ W U;exact⟨a,ns,rfl,hx,Y,λl hn=>q _ _ (s.trans (cN hn _)) (.inr ⟨_,_,_,rfl,rfl,s.free hn,bG,lY _⟩)⟩
   ·rw[if_neg Y]at Z;cases Z
 ·cases Z
end
end D3
namespace D3
open L2 My
def gK(n:Nat)(us ws:List α):List α:=if ws.length=n then us++ws else []
structure HasD(P:c_)(w:de)(K:PySem.W.Frag)(mg:Str->Option Value)(base:dl)(n:Nat)(x:Str)(ps:List Str)(sp:Sp)(dvs:List V)(ks:List Str):Prop where
 ex:∃(f:Addr)(fd:dk)(ds:List Value),FnOk P w K mg base CX0 n f fd ps sp/\Binds K fd ps ds/\Vals dvs ds/\KBinds K fd ps ks (gK ks.length) (gK ks.length)/\PySem.W.keepIn K (.ref f)=true/\mg x=some (.ref f)
structure DgD(K:PySem.W.Frag)(mg:Str->Option Value)(x:Str)(st:dy)(ps:List Str)(dvs:List V)(ks:List Str):Prop where
 ex:∃(f:Addr)(fd:dk)(ds:List Value),FunD K x st f fd/\Binds K fd ps ds/\Vals dvs ds/\KBinds K fd ps ks (gK ks.length) (gK ks.length)/\mg x=some (.ref f)
section
variable{P:c_}{w:de}{K:PySem.W.Frag}{mg:Str->Option Value}{base:dl}{x:Str}{ps N ks:List Str}{st:dy}{k n:Nat}{fs:FS}{fl:List Fl}{dvs:List V}
end
section
variable{X:Cx}{fl:List Fl}{e ke:Expr}{es:List Expr}{pos p kpos:Pos}{x kn:Str}{ps:List Str}{n:Nat}{F:List D->Option D}{fa:FA}{fk:FE}{i:Int}{dvs:List V}
theorem VB{K:PySem.W.Frag}:BrC K (λxs H Q=>(∃i,xs=[.int i]/\Q (.int i) H)\/∃k,xs=[.bl k]/\Q (.int (if k then 1 else 0)) H) Ef:=by
 intro H xs ds d Q r e q;unfold Ef at e;split at e
 ·cases e
  cases r with
  |cons r1 r2=>
   cases r2;obtain rfl:=r1.intE;exact .inl ⟨_,rfl,q _ rfl (.int _)⟩
 ·cases e
  cases r with
  |cons r1 r2=>
   cases r2;obtain rfl:=r1.blE;exact .inr ⟨_,rfl,q _ rfl (.int _)⟩
 ·cases e
theorem Lq{j pos'}{a:Expr}{f:FE}(h:DE X fl .P a f):DT X fl (.Compare a [.Is] [.Constant .none j pos'] pos) (cI (dUn Ji f)):=PT.imp (U4 (U3 h)) λσ H Q h=>by
 refine D3.ex4 h λG ow δ c R Z q=>?_
 refine D3.ex1 (bind1 Z) λd V W=>?_
 refine D3.ex1 (bind1 V) λx Y e4=>?_
 cases e4
 cases W;refine⟨G,ow,δ,x,R,Y,λv H1 s1 r1=>?_⟩;refine⟨decide (v = .non),rfl,?_⟩;rw[Vw (RA.same (Same.refl H1) r1)];exact q H1 s1
theorem QX{p:Pos}(ha:DB X fl .P [e] fa)(O:Gl X "int")(hm:X.mg "int"=none)
 (U:starEach [e] X.env=(false,eval e X.env)::starEach [] X.env:=by rfl) (J:(backTo pos (starEach [] X.env)).any (·.1)=false:=by rfl):DE X fl .FC (.Call (.Name "int" p) [e] [] pos) (dCall Ef fa):=
 PE.imp (lD I_ O hm boot_int ha (by decide) (by decide) U J) λσ H Q h=>by
 refine D3.ex4 h λG ow δ d R V q=>?_
 refine D3.ex1 (bind1 V) λds S T=>?_
 exact⟨G,ow,δ,ds,R,S,λvs H' s Y=>VB H' vs ds d Q Y T λv W Z=>q v H' s (.inl ⟨W,Z⟩)⟩
end
end D3
namespace D3
open L2 My
section
variable{X:Cx}
theorem Bq:∀{bs:List Bool}{its:List Value},Vals (bs.map V.bl) its->its=bs.map ei
 |[],_,.nil=>rfl
 |b::r,_,.cons h t=>by
  cases h;rw[Bq t];rfl
theorem all_range(bs:List Bool):(bH bs.length).all (λi=>bs.getD i false)=bs.all id:=by
 rw[Bool.eq_iff_iff,eY,eY]
 constructor
 ·intro h b hb;obtain⟨i,hi,rfl⟩:=List.getElem_of_mem hb;have:=h i (cA.mpr hi);rwa[bL,aF hi]at this
 ·intro h i hi;have hi:=cA.mp hi;rw[bL,aF hi];exact h _ (iR hi)
theorem Br{prog:c_}{w:de}{A:dc}(bs:List Bool):TruthOf prog w A (λi v=>(bs.map ei).toArray[i]? = some v) (λi=>bs.getD i false):=by
 intro i v s Q E X W;have Z:(bs.map ei)[i]? = some v:=by simpa using X
 rw[aO]at Z
 cases e:bs[i]? with
 |none=>rw[e]at Z;cases Z
 |some b=>
  rw[e]at Z
  cases Z;have V:bs.getD i false=b:=by rw[bL,e];rfl
  have Y:Q (bs.getD i false) s:=W;rw[V]at Y;exact ax Y
theorem tZ(J:X.calm=true):kZ X (.builtin "all") (λxs H Q=>∃(p:Addr)(bs:List Bool),xs=[.ref p]/\SqL X.K H p (bs.map V.bl)/\Q (.bl (bs.all id)) H):=by
 intro pins s σ H xs us Q I r h;obtain⟨p,bs,rfl,hx,q⟩:=h;obtain⟨u,rfl,U⟩:=vals1 r
 cases U;obtain⟨its,Z,pl,S⟩:=I.list hx;obtain rfl:=Bq Z;have W:=pl.isList;have Y:p<s.heap.objs.size:=by obtain⟨_,e,_⟩:=id W;exact af e
 refine call_all_walk (ci W ?_);refine⟨_,_,_,_,_,_,_,rfl,Walks.list (A:=X.A.in1) (I.ok.hd J) _ p (bB Y) (bs.map ei).toArray,⟨⟨_,ah _ rfl,rfl,rfl⟩,W.push _⟩,Br bs,λh' tk T=>?_⟩;have e:(bs.map ei).toArray.size=bs.length:=by simp
 rw[e,all_range];exact⟨.bl _,H,I.kept (old_kept T),rfl,q⟩
theorem yt{K:PySem.W.Frag}{ok:Ok}{pl:Bool}{H:Hp}:∀{l:List D}{bs:List Bool}{ys:List V},mH l=some bs->RAs K ok pl H ys l->ys=bs.map V.bl
 |[],_,_,e,.nil=>by cases e;rfl
 |d::r,bs,_,e,.cons h t=>by
  cases d<;>first|(cases e;done)|skip
  obtain rfl:=h.blE
  cases Z:mH r with
  |none=>rw[mH,Z]at e;cases e
  |some m=>
   rw[mH,Z]at e
   cases e;rw[yt Z t];rfl
theorem Lr{K:PySem.W.Frag}:BrC K (λxs H Q=>∃(p:Addr)(bs:List Bool),xs=[.ref p]/\SqL K H p (bs.map V.bl)/\Q (.bl (bs.all id)) H) Eh:=by
 intro H xs ds d Q r e q;unfold Eh at e;split at e
 ·next l=>
  cases Z:mH l with
  |none=>rw[Z]at e;cases e
  |some bs=>
   rw[Z]at e
   cases e
   cases r with
   |cons r1 r2=>
    cases r2;obtain⟨a,ys,rfl,hx,Y⟩:=r1.lstE;obtain rfl:=yt Z Y;exact⟨a,bs,rfl,hx,q _ rfl (.bl _)⟩
 ·cases e
end
section
variable{X:Cx}{fl:List Fl}{a:Expr}{f:FE}{pos:Pos}{ta:TE}
end
section
variable{X:Cx}{fl:List Fl}{a b c:Expr}{f fa fb fc:FE}{pos:Pos}
theorem Bs{O J:CmpOp}{r r':R2}{g g':D->D->Option D}(ho:OpR X (compareOp O) r)(U:OpR X (compareOp J) r')(hb:BrO X.K r g)(hb':BrO X.K r' g')(h1:DE X fl .P a fa)(h2:DE X fl .P b fb)(h3:DE X fl .P c fc)
 (hm:lastMarks [O,J] [b,c]=false:=by with_unfolding_all rfl):DT X fl (.Compare a [O,J] [b,c] pos) (cI (mG g g' fa fb fc)):=PT.imp (Km ho U h1 h2 h3 hm) λσ H Q h=>by
 refine D3.ex4 h λG ow δ F R Z q=>?_
 refine D3.ex1 (bind1 Z) λd Z hd=>?_
 have W:d = .bool F:=by cases d<;>first|(cases hd;rfl)|(cases hd;done)
 subst W;refine D3.ex1 (bind1 Z) λx I Z=>?_
 refine D3.ex1 (bind1 Z) λy L Z=>?_
 refine D3.ex1 (bind1 Z) λz M Z=>?_
 refine⟨G,ow,δ,x,R,I,λv H1 s1 r1=>⟨G,ow,δ,y,R.grow s1,L,λu H2 s2 r2=>?_⟩⟩;refine hb H2 v u x y z _ (RA.same s2 r1) r2 M λE N Y=>?_
 split at Z
 ·obtain rfl:=Y.blE;refine D3.ex1 (bind1 Z) λw e4 e5=>?_
  refine⟨true,rfl,xG ⟨G,ow,δ,w,R.grow (s1.trans s2),e4,λS T V r3=>?_⟩⟩;refine hb' T u S y w _ _ (RA.same V r2) r3 e5 λz N Y=>?_
  obtain rfl:=Y.blE;exact⟨_,rfl,q T (s1.trans (s2.trans V))⟩
 ·obtain rfl:=Y.blE
  cases Z;exact⟨false,rfl,xu ⟨_,rfl,q H2 (s1.trans s2)⟩⟩
 ·cases Z
end
theorem Jm{h:dl}{z TI TO i1 i2 l1 l2:Addr}{k1 k2:Nat}{f0 a b:Value}{x y:Value}{xs ys:Array Value}(hz:IsZip h z TI TO f0)(J:et h TI x y)(q:et h TO a b)(h1:h.IsListIter i1 l1 k1)(h2:h.IsListIter i2 l2 k2)(U:h.IsList l1 xs)(O:h.IsList l2 ys)(nT:TI≠TO)(ni:i1≠i2):
 fg z TI TO i1 i2 l1 l2:=by
 obtain⟨S,Y,W,d1⟩:=h1;obtain⟨T,Z,X,d2⟩:=h2;obtain⟨p1,g1,k1,Q⟩:=U;obtain⟨p2,g2,k2,R⟩:=O;have ne:∀{u v:Addr}{o o':Obj},h.get? u=some o->h.get? v=some o'->o.cls≠o'.cls->u≠v:=λe V n z=>by
  subst z;rw[e]at V
  cases V;exact n rfl
 exact⟨ne J hz (by simp),ne q hz (by simp),ne Y hz (by rw[W];simp),ne Z hz (by rw[X];simp),nT,ne J Y (by rw[W];simp),ne J Z (by rw[X];simp),ne q Y (by rw[W];simp),ne q Z (by rw[X];simp),ni,
  ne g1 hz (by rw[k1];simp),ne g1 q (by rw[k1];simp),ne g1 Y (by rw[k1,W];simp),ne g1 Z (by rw[k1,X];simp),ne g2 hz (by rw[k2];simp),ne g2 q (by rw[k2];simp),ne g2 Y (by rw[k2,W];simp),ne g2 Z (by rw[k2,X];simp)⟩
section
variable{X:Cx}{fl:List Fl}{a b:Expr}{f g:FE}{pos:Pos}
theorem boot_zip:bootBuiltins "zip"=some (.type "zip"):=by decide +kernel
theorem Bt:∀(l m:List D)(i:Nat),(qt l m)[i]? = (l[i]?).bind λx=>(m[i]?).map λy=>dA [x,y]
 |[],_,i=>by simp[qt]
 |_::_,[],i=>by cases i<;>simp[qt]
 |x::l,y::m,0=>by simp[qt]
 |x::l,y::m,i+1=>by simp[qt,Bt l m i]
end
end D3
namespace D3
open L2 My
noncomputable def ac6(K:PySem.W.Frag)(fl:List Fl)(f:FA):TA:=λσ H Q=>∃G ow δ ds,Rel K fl G ow σ H δ/\f δ=some ds/\∀vs H',Same H H'->(∃as,RTs K H' vs ds as/\as.Nodup/\∀a∈as,H a=none)->Q vs H'
abbrev DBT(X:Cx)(fl:List Fl)(es:List Expr)(f:FA):Prop:=PA X es (ac6 X.K fl f)
theorem RTs.length{K:PySem.W.Frag}{H:Hp}:∀{v:List V}{d:List D}{as:List Addr},RTs K H v d as->v.length=d.length
 |_,_,_,.nil=>rfl
 |_,_,_,.cons _ q=>by simp[RTs.length q]
section
variable{X:Cx}{fl:List Fl}{e a b c:Expr}{es rest:List Expr}{k:Kd}{f fa fb fc:FE}{ft gt:FT}{pos:Pos}
theorem QZ:DBT X fl [] bN:=PA.imp jF λσ H Q h=>by
 refine D3.ex4 h λG ow δ ds R Z q=>?_
 cases Z;exact q [] H (Same.refl H) ⟨[],.nil,.nil,λ_ z=>by cases z⟩
theorem Q0{fa:FA}(h:DBT X fl es fa):DE X fl .T (.List es pos) (mF fa):=PE.imp (DY h) λσ H Q h=>by
 refine D3.ex4 h λG ow δ d R W q=>?_
 refine D3.ex1 (bind1 W) λl V Z=>?_
 by_cases z:l.length<=sizeLine
 ·rw[if_pos z]at Z
  cases Z;refine⟨G,ow,δ,l,R,V,λvs H' s r=>?_⟩;obtain⟨as,h1,h2,h3⟩:=r;refine⟨by rwa[h1.length],λp Y=>?_⟩;have g:=cN Y (.lst vs);refine q _ _ (s.trans g) ⟨p::as,.lst bG (h1.same g),bW.mpr ⟨λw=>h1.tracked p w Y,h2⟩,λx hx=>?_⟩;rcases aN.mp hx with rfl|w
  ·exact s.free Y
  ·exact h3 x w
 ·rw[if_neg z]at Z
  cases Z
theorem zB:DE X fl .T (.Dict [] [] pos) (dC (.dict [])):=PE.imp KQ λσ H Q h=>by
 refine D3.ex4 h λG ow δ d R Y q=>?_
 cases Y;intro p Z;exact q _ _ (cN Z _) ⟨[p],.dic bG (.inl ⟨rfl,rfl⟩),bW.mpr ⟨dJ,.nil⟩,λx hx=>by rwa[bJ.mp hx]⟩
theorem T_(h:DE X fl .C e f):DE X fl .T e (dN1 f):=rW h λHb H G ow σ δ v d Z R r=>by
 obtain⟨as,h1,h2,h3⟩:=RA.rt r;have Y:as.length<=1:=by rw[h2];exact of_decide_eq_true Z
 refine⟨as,h1,?_,h3⟩
 cases as with
 |nil=>exact .nil
 |cons x r=>
  cases r with
  |nil=>exact bW.mpr ⟨dJ,.nil⟩
  |cons y r=>simp at Y
theorem fH(i:Nat)(hn:isN fl[i]? = true){x:Str}(O:X.N[i]? = some x:=by rfl)(J:Vis X.env.scope x:=by first|exact Or.inl rfl|exact Or.inr (Or.inl rfl)|exact Or.inr (Or.inr rfl))(hd:(x==("__debug__":Str))=false:=by decide)
 (hcd:(x==("__classdict__":Str))=false:=by decide):DE X fl .P (.Name x pos) (aB i):=by
 refine PE.imp (i_ O J hd hcd) λσ H Q h=>?_
 refine D3.ex4 h λG ow δ d R Z q=>?_
 obtain⟨v,h1,h2,_⟩:=R.nr i d hn (gD Z);exact⟨v,h1,q v H (Same.refl H) (h2.ra λ_ _=>trivial)⟩
theorem Bu(i:Nat)(hn:isN fl[i]? = true){x:Str}(O:X.N[i]? = some x:=by rfl)(J:Vis X.env.scope x:=by first|exact Or.inl rfl|exact Or.inr (Or.inl rfl)|exact Or.inr (Or.inr rfl))(hd:(x==("__debug__":Str))=false:=by decide)
 (hcd:(x==("__classdict__":Str))=false:=by decide):DE X fl .R (.Name x pos) (aB i):=by
 refine PE.imp (i_ O J hd hcd) λσ H Q h=>?_
 refine D3.ex4 h λG ow δ d R Z q=>?_
 obtain⟨v,h1,h2,_⟩:=R.nr i d hn (gD Z);exact⟨v,h1,q v H (Same.refl H) (h2.ra λa ha=>(R.nt i a ha).1)⟩
theorem Ls(J:isR k=true)(ha:DE X fl k a fa)(hb:DE X fl .P b fb)(O:rN b):DE X fl k (.Subscript a b pos) (dOp gIx fa fb):=PE.imp (Ky KC ha hb O) λσ H Q h=>by
 refine D3.ex4 h λG ow δ d R U q=>?_
 refine D3.ex2 (uE U) λx y S T Z=>?_
 refine⟨G,ow,δ,x,R,S,λv H1 s1 r1=>⟨G,ow,δ,y,R.grow s1,T,λu H2 s2 r2=>?_⟩⟩;have q1:=(r1.ra J).same s2;unfold gIx at Z;split at Z
 ·next l i=>
  obtain rfl:=RA.intE r2;obtain⟨p,xs,rfl,hx,W⟩:=q1.lstE;obtain⟨z,V,Y⟩:=W.at Z;exact .inl ⟨p,xs,i,z,rfl,rfl,hx,V,q z H2 (s1.trans s2) (Rs.of_ra J Y)⟩
 ·next l i=>
  obtain rfl:=RA.intE r2;obtain⟨p,xs,rfl,hx,W⟩:=q1.tupE;obtain⟨z,V,Y⟩:=W.at Z;exact .inr (.inl ⟨p,xs,i,z,rfl,rfl,hx,V,q z H2 (s1.trans s2) (Rs.of_ra J Y)⟩)
 ·cases Z
end
section
variable{K:PySem.W.Frag}{fl:List Fl}
def owN(ow:Ow)(i:Nat)(as:List Addr):Ow:=⟨ow.s,λj=>if j=i then as else ow.n j⟩
theorem jM{ow:Ow}{i:Nat}{as:List Addr}:(owN ow i as).n i=as:=if_pos rfl
theorem jd{ow:Ow}{i j:Nat}{as:List Addr}(h:j≠i):(owN ow i as).n j=ow.n j:=if_neg h
theorem Rel.setN{G:Gh}{ow:Ow}{σ:St}{H H':Hp}{δ:DS}{i:Nat}{v:V}{d:D}(R:Rel K fl G ow σ H δ)(s:Same H H')(q:fl[i]? = some .N)(hi:i<σ.length)(r:Rs K G.H0 ow H H' .T v d):
 ∃J,Rel K fl G J (σ.set i (some v)) H' (δ.set i (some (.d d))):=by
 have R':=R.grow s;obtain⟨as,h1,h2,h3⟩:=r;have no:∀a,ow i≠some a:=λa z=>by
  obtain⟨_,Q,_⟩:=R.own i a z;rw[q]at Q;rcases Q with⟨z,_⟩|⟨z,_⟩<;>cases z
 have sub:∀b,okA ow b/\H b≠none->okA (owN ow i as) b:=λb z=>⟨z.1.1,λj e=>by
  by_cases Z:j=i
  ·subst Z;rw[jM]at e;exact z.2 (h3 b e)
  ·rw[jd Z]at e;exact z.1.2 j e⟩
 have old:∀{v:V}{d:D},RA K (okA ow) true H v d->RA K (okA (owN ow i as)) true H' v d:=λr=>(r.track.imp sub (λz=>z)).same s
 have olds:∀{v:List V}{d:List D},RAs K (okA ow) true H v d->RAs K (okA (owN ow i as)) true H' v d:=λr=>(r.track.imp sub (λz=>z)).same s
 refine⟨owN ow i as,R'.s0,R'.s1,by rw[cg,cg];exact R.len,λj a h=>?_,R.inj,R.pin,λj U g1 X g2=>?_,λj U g1 X g2 g3=>?_,λj a h=>?_,λj j' a h h'=>?_,λj j' a h=>?_,λj h=>?_,λj U X g1=>?_,λj u h e=>by rw[aL (λz=>by subst z;rw[q]at h;cases h)];exact R.fx j u h e⟩
 ·have Z:j≠i:=λz=>no a (z▸h)
  obtain⟨O,P,xs,ds,g1,g2,g3,W⟩:=R.own j a h;exact⟨O,P,xs,ds,by rw[aL (df Z)];exact g1,s _ _ g2,olds g3,by rw[aL (df Z)];exact W⟩
 ·rcases fQ g1 with⟨rfl,e⟩|⟨Z,e⟩
  ·rw[q]at X;cases X
  ·obtain⟨S,g3,W⟩:=R.dat j U e X g2;exact⟨S,by rw[aL (df Z)];exact g3,old W⟩
 ·rcases fQ g1 with⟨rfl,e⟩|⟨Z,e⟩
  ·rw[q]at X;cases X
  ·exact R.oo j U e X g2 g3
 ·by_cases Z:j=i
  ·subst Z;rw[jM]at h;exact⟨R.same0.free (h3 a h),h1.chd a h,.inl ⟨.inl q,R.s1.free (h3 a h)⟩⟩
  ·rw[jd Z]at h;exact R'.nt j a h
 ·by_cases Z:j=i
  ·by_cases Y:j'=i
   ·rw[Z,Y]
   ·subst Z;rw[jM]at h;rw[jd Y]at h';exact absurd (h3 a h) (R.nt j' a h').2.1.ne
  ·rw[jd Z]at h;by_cases Y:j'=i
   ·subst Y;rw[jM]at h';exact absurd (h3 a h') (R.nt j a h).2.1.ne
   ·rw[jd Y]at h';exact R.nd j j' a h h'
 ·by_cases Z:j=i
  ·subst Z;rw[jM]at h;exact λz=>by
    obtain⟨_,_,_,_,_,g2,_⟩:=R.own j' a z;rw[h3 a h]at g2
    cases g2
  ·rw[jd Z]at h;exact R.ns j j' a h
 ·have Z:j≠i:=λz=>by subst z;rw[q]at h;cases h
  rw[jd Z];exact R.np j h
 ·rcases fQ g1 with⟨rfl,e⟩|⟨Z,e⟩
  ·cases e;exact⟨v,by rw[bU hi],by rw[jM];exact h1,by rw[jM];exact h2⟩
  ·obtain⟨S,g3,W⟩:=R'.nr j U X e;exact⟨S,by rw[aL (df Z)];exact g3,by rw[jd Z];exact W⟩
end
section
variable{K:PySem.W.Frag}{H:Hp}
theorem RTs.snoc{w:V}{d:D}(r:RT K H w d []):∀{vs:List V}{ds:List D}{as:List Addr},RTs K H vs ds as->RTs K H (vs++[w]) (ds++[d]) as
 |_,_,_,.nil=>by
  have:=RTs.cons r (.nil (K:=K) (H:=H));simpa using this
 |_,_,_,.cons e q=>.cons e (RTs.snoc r q)
theorem RTs.part{m:List D}:∀{vs:List V}{ds:List D}{as:List Addr}{k:Nat},RTs K H vs ds as->ds[k]? = some (.list m)->∃a xs bs,vs[k]? = some (.ref a)/\H a=some (.lst xs)/\RTs K H xs m bs/\a∈as/\(∀b∈bs,b∈as) /\
 (as.Nodup->a∉bs/\bs.Nodup/\∀ys U J,RTs K (L2.upd H a (.lst ys)) ys U J->(∀b∈J,b∈bs)->J.Nodup->∃O,RTs K (L2.upd H a (.lst ys)) vs (ds.set k (.list U)) O/\O.Nodup/\∀b∈O,b∈as)
 |_,_,_,_,.nil,h=>by simp at h
 |_,_,_,0,.cons e q,h=>by
  simp at h;subst h
  cases e with
  |lst hx r=>
   rename_i Z a xs as;refine⟨a,xs,as,rfl,hx,r,by simp,λb hb=>by simp[hb],λnd=>?_⟩;obtain⟨n1,n2,n3⟩:=cO.mp nd;obtain⟨W,T⟩:=bW.mp n1;refine⟨W,T,λys U J h1 h2 h3=>⟨(a::J)++Z,?_,?_,?_⟩⟩
   ·exact .cons (.lst bG h1) (RTs.upd hx (λz=>n3 a aA a z rfl) q)
   ·refine cO.mpr ⟨bW.mpr ⟨λz=>W (h2 a z),h3⟩,n2,λx hx y Y=>?_⟩;rcases aN.mp hx with rfl|z
    ·exact n3 x aA y Y
    ·exact n3 x (au _ (h2 x z)) y Y
   ·intro b hb;rcases b_.mp hb with z|z
    ·rcases aN.mp z with rfl|z
     ·simp
     ·simp[h2 b z]
    ·simp[z]
 |_,_,_,k+1,.cons (as:=X) (bs:=Z) e q,h=>by
  obtain⟨a,xs,bs,h1,h2,h3,h4,h5,h6⟩:=RTs.part (k:=k) q (by simpa using h);refine⟨a,xs,bs,by simpa using h1,h2,h3,aR _ h4,λb hb=>aR _ (h5 b hb),λnd=>?_⟩;obtain⟨n1,n2,n3⟩:=cO.mp nd;obtain⟨g1,g2,g3⟩:=h6 n2;refine⟨g1,g2,λys U J k1 k2 k3=>?_⟩;obtain⟨O,r1,r2,r3⟩:=g3 ys U J k1 k2 k3;refine⟨X++O,.cons (RT.upd h2 (λz=>n3 a z a h4 rfl) e) r1,cO.mpr ⟨n1,r2,λx hx y Y=>n3 x hx y (r3 y Y)⟩,λb hb=>?_⟩;rcases b_.mp hb with z|z
  ·exact bT _ z
  ·exact aR _ (r3 b z)
theorem RT.flat0{ok:Ok}{pl:Bool}{v:V}{d:D}(q:flat d=true)(h:RA K ok pl H v d):RT K H v d []:=by
 obtain⟨as,h1,_,h3⟩:=RA.rt (RA.flat (ok':=ok0) (pl':=false) q h)
 cases as with
 |nil=>exact h1
 |cons a r=>exact(h3 a aA).elim
end
section
variable{X:Cx}{fl:List Fl}{e ke:Expr}{f fk:FE}{pos:Pos}
theorem zE{i:Nat}{x:Str}{pos':Pos}(O:fl[i]? = some .N)(hN:X.N.Nodup)(hi:X.N[i]? = some x)(U:X.env.scope.names.lookup x=some .local\/X.env.scope.names.lookup x=some .cell)(h:DE X fl .T e f)
 (hs:swapsWith e (some (.Name x pos')) pos.line X.env=pure false:=by rfl) (J:X.fn x=true\/X.env.scope.names.lookup x=some .local:=by first|exact .inl rfl|exact .inr rfl) :
 DS1 X fl (.Assign [.Name x pos'] e pos) (cG i f):=PS.imp (yN (i:=i) hN hi U h hs J) λQ σ H h=>by
 refine D3.ex4 h λG ow δ o R Z q=>?_
 unfold cG at Z;by_cases W:i<δ.length
 ·rw[if_pos W]at Z;refine D3.ex1 (bind1 Z) λd S V=>?_
  cases V;refine⟨G,ow,δ,d,R,S,λv H' s r=>?_⟩;obtain⟨Y,R'⟩:=R.setN s O (su R W) r;exact q Y _ H' R'
 ·rw[if_neg W]at Z
  cases Z
end
end D3
namespace D3
noncomputable def qM(g:List D->Option (List D))(i:Nat)(x:Option D)(δ:DS):Option Oc:=match x with
 |some (.list l)=>match g l with
  |some m=>some (.nx (δ.set i (some (.d (.list m)))))
  |none=>none
 |_=>none
def Bv:D->Bool
 | .list _=>true
 | .tuple _=>true
 | .dict _=>true
 |_=>false
noncomputable def iiD:List (D×D)->Option (List (Int×Int))
 |[]=>some []
 | (.int i,.int j)::r=>(iiD r).map ((i,j) :: ·)
 |_=>none
mutual
def noK:D->Bool
 | .none=>true
 | .bool _=>true
 | .int _=>true
 | .str _=>true
 | .list xs=>xJ xs
 | .tuple xs=>xJ xs
 | .dict kvs=>(iiD kvs).isSome
def xJ:List D->Bool
 |[]=>true
 |x::r=>noK x&&xJ r
end
theorem vZ:∀l:List D,(∀d∈l,noK d=true)->xJ l=true
 |[],_=>rfl
 |a::r,h=>by
  rw[xJ,h a (aA ..),vZ r λd hd=>h d (au _ hd)];rfl
def v5:D->D->Option D:=λx y=>if(dr x&&dr y)=true then some (.bool (ef x y))else @ite _ (x=y/\Bv x=true/\x.depth<=64/\noK x=true) (Classical.propDecidable _) (some (.bool true)) none
theorem GQ{x y d:D}(h:gEq x y=some d):v5 x y=some d:=by
 unfold gEq at h;unfold v5;split at h
 ·next z=>rwa[if_pos z]
 ·cases h
theorem Lw{x:D}(q:dr x=false)(hb:Bv x=true)(hd:x.depth<=64)(hn:noK x=true):v5 x x=some (.bool true):=by
 unfold v5;rw[q,if_neg (by decide),if_pos ⟨rfl,hb,hd,hn⟩]
end D3
namespace D3
open L2 My
section
variable{X:Cx}
end
section
variable{X:Cx}{fl:List Fl}{e ke:Expr}{f fk:FE}{pos:Pos}
end
section
variable{X:Cx}{fl:List Fl}{a:Expr}{pos p p2 pos2:Pos}{fa:FA}
end
end D3
namespace D3
open L2 My
section
variable{X:Cx}{pins:List (Addr×Obj)}{σ:L2.St}{H:Hp}{s:c9}
theorem Es:∀{kvs:List (D×D)}{qs:List (Int×Int)},iiD kvs=some qs->dk0 kvs=qs.map λq=>(.inl q.1,.int q.2)
 |[],_,e=>by cases e;rfl
 | (k,v)::r,qs,e=>by
  unfold iiD at e;split at e
  ·next h=>cases h
  ·next i j Y h=>
   cases h
   cases Z:iiD r with
   |none=>rw[Z]at e;cases e
   |some q2=>
    rw[Z]at e
    cases e;rw[dk0,Es Z];rfl
  ·cases e
theorem Et:∀{kvs:List (D×D)}{qs:List (Int×Int)},iiD kvs=some qs->vR kvs=true
 |[],_,_=>rfl
 | (a,b)::r,qs,h=>by
  unfold iiD at h;split at h
  ·next e=>cases e
  ·next e=>
   cases e
   cases Z:iiD r with
   |none=>rw[Z]at h;cases h
   |some S=>exact(show vR r=true from Et Z)
  ·cases h
theorem u_{kvs:List (D×D)}(h:(iiD kvs).isSome=true):vR kvs=true:=by
 obtain⟨_,h⟩:=fV.mp h;exact Et h
theorem Lx{kvs:List (D×D)}{qs:List (Int×Int)}(h:iiD kvs=some qs):dh0 kvs = .dK (dk0 kvs):=by
 cases kvs with
 |nil=>rfl
 |cons q r=>
  obtain⟨k,v⟩:=q
  cases k with
  |int i=>rfl
  |_=>unfold iiD at h;cases h
theorem yu{P O:c_}{w J:de}:∀{es:List DictEntry}{kvs:List (Key×Value)},Pairs (cj P w) es kvs->Pairs (cj O J) es kvs
 |_,_,.nil=>.nil
 |_,_,.cons h1 h2 q=>.cons h1 h2 (yu q)
theorem yw{P:c_}{w:de}:∀{es:List DictEntry}{kvs:List (Key×Value)},Pairs (cj P w) es kvs->∀x∈es,∃J∈kvs,(cj P w).is J.1 x.key=true
 |_,_,.nil,_,h=>by cases h
 |_,_,.cons h1 h2 q,x,h=>by
  rcases aN.mp h with rfl|z
  ·exact⟨_,aA,h1⟩
  ·obtain⟨J,m,e⟩:=yw q x z;exact⟨J,au _ m,e⟩
theorem Eu{h:dl}{a:Addr}{P O:c_}{w J:de}{kvs:List (Key×Value)}(hi:∀q∈kvs,∃i,q.1 = .inl i)(d:h.DictOf (cj P w) a kvs):h.DictOf (cj O J) a kvs:=by
 obtain⟨o,es,Y,e,S,T,U,Z,V⟩:=d;refine⟨o,es,Y,e,S,T,λx hx=>?_,yu Z,V⟩;obtain⟨k,k1,k2⟩:=U x hx;obtain⟨q,m,k3⟩:=yw Z x (Array.mem_def.mp hx);have X:=(cj P w).inj _ _ _ k1 k3;obtain⟨i,W⟩:=hi q m;rw[X,W]at k1 k2;exact⟨.inl i,k1,k2⟩
theorem j7:∀{qs:List (Int×Int)}{vs:List (Key×Value)},KV (qs.map λq=>((.inl q.1,.int q.2):Key×V)) vs->vs.map (·.1)=qs.map (λq=>.inl q.1)/\∀k v,(k,v)∈vs->∃i j t,k = .inl i/\v = .int j t/\(i,j)∈qs
 |[],_,h=>by cases h;exact⟨rfl,λ_ _ h=>by cases h⟩
 |q::qs,_,h=>by
  cases h with
  |cons h1 h2=>
   rename_i b bs;obtain⟨S,T⟩:=j7 h2;obtain⟨Z,e4⟩:=h1;obtain⟨t,e4⟩:=e4;refine⟨by rw[aM,aM,S,<-Z],λk v hm=>?_⟩;rcases aN.mp hm with z|z
   ·subst z;exact⟨q.1,q.2,t,Z.symm,e4,aA⟩
   ·obtain⟨i,j,U,W,X,Y⟩:=T k v z;exact⟨i,j,U,W,X,au _ Y⟩
theorem Ua(I:L2.Inv X pins σ H s){a:Addr}{kvs:List (D×D)}{qs:List (Int×Int)}(J:iiD kvs=some qs)(h:L2.Rd H a (dh0 kvs)):(a==sysModules)=false/\∃vs,KV (qs.map λq=>((.inl q.1,.int q.2):Key×V)) vs/\∀P w,s.heap.DictOf (cj P w) a vs:=by
 rw[Lx J,Es J]at h;obtain⟨_,Y,vs,Z,hd⟩:=(show fJ X.prog X.w H s.heap a (.dK _)from h.ok I.hok);exact⟨Y,vs,Z,λP w=>Eu (λx hx=>by obtain⟨i,_,_,z,_⟩:=(j7 Z).2 x.1 x.2 hx;exact⟨i,z⟩) hd⟩
theorem Ly{A:dc}{s:c9}{qs:List (Int×Int)}{O J:List (Key×Value)}(ra:KV (qs.map λq=>((.inl q.1,.int q.2):Key×V)) O)(U:KV (qs.map λq=>((.inl q.1,.int q.2):Key×V)) J)(hn:(J.map (·.1)).Nodup):PySem.W.KeqHits A s J O true:=by
 have S:(qs.map λq=>(dP q.1:Key)).Nodup:=by rwa[<-(j7 U).1]
 have step:∀(l:List (Key×Value)),(∀x∈l,x∈O)->PySem.W.KeqHits A s J l true:=by
  intro l
  induction l with
  |nil=>intro _;exact .nil
  |cons x l T=>
   intro M;obtain⟨k,v⟩:=x;obtain⟨i,j,t,rfl,rfl,hm⟩:=(j7 ra).2 k v (M _ aA);have I:(dP i:Key)∈J.map (·.1):=by rw[(j7 U).1];exact aV.mpr ⟨(i,j),hm,rfl⟩
   obtain⟨⟨F,y⟩,N,P⟩:=aV.mp I;have P:=P;subst P;obtain⟨E,j',L,G,rfl,Q⟩:=(j7 U).2 _ y N
   cases G;have H:j'=j:=by
    have inj:∀{l:List (Int×Int)},(l.map λq=>(dP q.1:Key)).Nodup->(i,j)∈l->(i,j')∈l->j'=j:=by
     intro l Z h1 h2
     induction l with
     |nil=>cases h1
     |cons p l T=>
      rw[aM,bW]at Z;rcases aN.mp h1 with X|X<;>rcases aN.mp h2 with Y|Y
      ·rw[<-X]at Y;cases Y;rfl
      ·subst X;exact absurd (aV.mpr ⟨_,Y,rfl⟩) Z.1
      ·subst Y;exact absurd (aV.mpr ⟨_,X,rfl⟩) Z.1
      ·exact T Z.2 X Y
    exact inj S hm Q
   subst H;obtain⟨n,R,en⟩:=oO.mp N;have K:=valueAt_of_get hn (i:=n) (by rw[aF R,en]);have:=cy (A:=A) (s:=s) j' t j' L;rw[beq_self_eq_true]at this;have q:=PySem.W.KeqHits.hit K this (T λx hx=>M x (au _ hx));rwa[Bool.and_true]at q
 exact step O λ_ h=>h
theorem yx(I:L2.Inv X pins σ H s){a b:Addr}{kvs:List (D×D)}(J:(iiD kvs).isSome=true)(ha:L2.Rd H a (dh0 kvs))(hb:L2.Rd H b (dh0 kvs)){A:dc}(q:A.units<cLine):SeqAt.RcAt A s (.ref a) (.ref b) true:=by
 obtain⟨qs,U⟩:=fV.mp J;obtain⟨P,S,V,O⟩:=Ua I U ha;obtain⟨R,Z,Y,T⟩:=Ua I U hb;intro prog w E Q h;have hn:(Z.map (·.1)).Nodup:=by obtain⟨_,_,_,_,_,_,_,_,c⟩:=T prog w;exact c
 refine PySem.W.keq_eq (knd:=cj prog w) (r:=true) P R (O prog w) (T prog w) q (λ_=>Ly V Y hn) ?_;have e:S.length=Z.length:=by
  have h1:=congrArg lQ (j7 V).1;have h2:=congrArg lQ (j7 Y).1;simp at h1 h2;omega
 rwa[e,beq_self_eq_true,Bool.true_and]
theorem Jo(I:L2.Inv X pins σ H s){a b:Addr}{kvs:List (D×D)}(J:(iiD kvs).isSome=true)(ha:L2.Rd H a (dh0 kvs))(hb:L2.Rd H b (dh0 kvs)){A:dc}(q:A.units<cLine):SeqAt.EqAt A s (.ref a) (.ref b) true:=by
 by_cases e:a=b
 ·subst e;exact eA _
 ·exact br e (yx I J ha hb q)
mutual
theorem Q5(I:L2.Inv X pins σ H s){ok ok':Ok}{pl pl':Bool}:∀(d:D){x y:V}(r1:RA X.K ok pl H x d)(r2:RA X.K ok' pl' H y d){v u:Value}(_:RelV x v)(_:RelV y u)(A:dc)(hu:A.units+d.depth<cLine)(hn:noK d=true),SeqAt.EqAt A s v u true
 | .none,_,_,r1,r2,_,_,h1,h2,A,hu,hn=>by cases r1;cases r2;cases h1;cases h2;exact eA _
 | .bool b,_,_,r1,r2,_,_,h1,h2,A,hu,hn=>by cases r1;cases r2;cases h1;cases h2;exact eA _
 | .int i,_,_,r1,r2,_,_,h1,h2,A,hu,hn=>by
  cases r1;cases r2;obtain⟨t,rfl⟩:=h1;obtain⟨t',rfl⟩:=h2;have:=cy (A:=A) (s:=s) i t i t';rwa[beq_self_eq_true]at this
 | .str z,_,_,r1,r2,_,_,h1,h2,A,hu,hn=>by
  cases r1;cases r2;obtain⟨t,rfl⟩:=h1;obtain⟨t',rfl⟩:=h2;have:=SeqAt.EqAt.str_str (A:=A) (s:=s) z t z t';rwa[beq_self_eq_true]at this
 | .list ds,_,_,r1,r2,_,_,h1,h2,A,hu,hn=>by
  obtain⟨a,xs,rfl,s1,q1⟩:=r1.lstE;obtain⟨b,ys,rfl,s2,q2⟩:=r2.lstE
  cases h1;cases h2;by_cases e:a=b
  ·subst e;exact eA _
  obtain⟨its,v1,p1,z1⟩:=I.list s1;obtain⟨its2,v2,p2,z2⟩:=I.list s2;have hd:(eI ds).depth=di ds+1:=by simp[dQ]
  have l1:its.length=ds.length:=by rw[<-v1.length,q1.length]
  have l2:its2.length=ds.length:=by rw[<-v2.length,q2.length]
  refine br e ?_;have R:=SeqAt.RcAt.lists (A:=A) (e:=λ_=>true) p1.isList p2.isList (by rw[bC,bC,l1,l2]) (by omega) (λj g1 g2=>o7 I ds q1 q2 v1 v2 A.in1 (by simp only[bq];omega) hn j (by simpa using g1) (by simpa using g2));rwa[show(bH its.toArray.size).all (λ_=>true)=true by simp]at R
 | .tuple ds,_,_,r1,r2,_,_,h1,h2,A,hu,hn=>by
  obtain⟨a,xs,rfl,s1,q1⟩:=r1.tupE;obtain⟨b,ys,rfl,s2,q2⟩:=r2.tupE
  cases h1;cases h2;by_cases e:a=b
  ·subst e;exact eA _
  obtain⟨its,v1,p1,z1⟩:=I.tuple s1;obtain⟨its2,v2,p2,z2⟩:=I.tuple s2;have hd:(dA ds).depth=di ds+1:=by simp[dQ]
  have l1:its.length=ds.length:=by rw[<-v1.length,q1.length]
  have l2:its2.length=ds.length:=by rw[<-v2.length,q2.length]
  refine br e ?_;have R:=SeqAt.RcAt.tuples (A:=A) (e:=λ_=>true) p1 p2 (by omega) (λj g1 g2=>o7 I ds q1 q2 v1 v2 A.in1 (by simp only[bq];omega) hn j (by simpa using g1) (by simpa using g2));rwa[show((bH (min its.toArray.size its2.toArray.size)).all (λ_=>true)&&its.toArray.size==its2.toArray.size)=true by simp[l1,l2]]at R
 | .dict kvs,_,_,r1,r2,_,_,h1,h2,A,hu,hn=>by
  obtain⟨a,rfl,ha⟩:=r1.dicE (u_ hn);obtain⟨b,rfl,hb⟩:=r2.dicE (u_ hn)
  cases h1;cases h2;exact Jo I hn ha hb (by omega)
theorem o7(I:L2.Inv X pins σ H s){ok ok':Ok}{pl pl':Bool}:∀(ds:List D){xs ys:List V}(_:RAs X.K ok pl H xs ds)(_:RAs X.K ok' pl' H ys ds){us ws:List Value}(_:Vals xs us)(_:Vals ys ws)(A:dc)(_:A.units+di ds<cLine)(_:xJ ds=true)(j:Nat)(g1:j<us.length)(g2:j<ws.length),SeqAt.EqAt A s us[j] ws[j] true
 |[],_,_,q1,q2,_,_,v1,v2,A,hu,hn,j,g1,g2=>by
  cases q1;cases v1;exact absurd g1 (Nat.not_lt_zero _)
 |d::ds,_,_,q1,q2,_,_,v1,v2,A,hu,hn,j,g1,g2=>by
  cases q1 with
  |cons a1 b1=>
   cases q2 with
   |cons a2 b2=>
    cases v1 with
    |cons c1 d1=>
     cases v2 with
     |cons c2 d2=>
      have hd:di (d::ds)=max d.depth (di ds):=by simp[di]
      rw[xJ,aX]at hn
      cases j with
      |zero=>exact Q5 I d a1 a2 c1 c2 A (by omega) hn.1
      |succ j=>exact o7 I ds b1 b2 d1 d2 A (by omega) hn.2 j (by simpa using g1) (by simpa using g2)
end
end
section
variable{X:Cx}{K:PySem.W.Frag}
theorem Q6{pins:List (Addr×Obj)}{σ:L2.St}{H:Hp}{s:c9}(I:L2.Inv X pins σ H s){ok ok':Ok}{pl pl':Bool}{d:D}{x y:V}(r1:RA X.K ok pl H x d)(r2:RA X.K ok' pl' H y d){v u:Value}(h1:RelV x v)(h2:RelV y u)(hb:Bv d=true)(hn:noK d=true)(A:dc)(q:A.units+d.depth<cLine):SeqAt.RcAt A s v u true:=by
 cases d with
 |none=>cases hb
 |bool _=>cases hb
 |int _=>cases hb
 |str _=>cases hb
 |list ds=>
  obtain⟨a,xs,rfl,s1,q1⟩:=r1.lstE;obtain⟨b,ys,rfl,s2,q2⟩:=r2.lstE
  cases h1;cases h2;obtain⟨its,W,p1,S⟩:=I.list s1;obtain⟨Z,Y,p2,T⟩:=I.list s2;have hd:(eI ds).depth=di ds+1:=by simp[dQ]
  have l1:its.length=ds.length:=by rw[<-W.length,q1.length]
  have l2:Z.length=ds.length:=by rw[<-Y.length,q2.length]
  have R:=SeqAt.RcAt.lists (A:=A) (e:=λ_=>true) p1.isList p2.isList (by rw[bC,bC,l1,l2]) (by omega) (λj g1 g2=>o7 I ds q1 q2 W Y A.in1 (by simp only[bq];omega) hn j (by simpa using g1) (by simpa using g2));rwa[show(bH its.toArray.size).all (λ_=>true)=true by simp]at R
 |tuple ds=>
  obtain⟨a,xs,rfl,s1,q1⟩:=r1.tupE;obtain⟨b,ys,rfl,s2,q2⟩:=r2.tupE
  cases h1;cases h2;obtain⟨its,W,p1,S⟩:=I.tuple s1;obtain⟨Z,Y,p2,T⟩:=I.tuple s2;have hd:(dA ds).depth=di ds+1:=by simp[dQ]
  have l1:its.length=ds.length:=by rw[<-W.length,q1.length]
  have l2:Z.length=ds.length:=by rw[<-Y.length,q2.length]
  have R:=SeqAt.RcAt.tuples (A:=A) (e:=λ_=>true) p1 p2 (by omega) (λj g1 g2=>o7 I ds q1 q2 W Y A.in1 (by simp only[bq];omega) hn j (by simpa using g1) (by simpa using g2));rwa[show((bH (min its.toArray.size Z.toArray.size)).all (λ_=>true)&&its.toArray.size==Z.toArray.size)=true by simp[l1,l2]]at R
 |dict kvs=>
  obtain⟨a,rfl,ha⟩:=r1.dicE (u_ hn);obtain⟨b,rfl,U⟩:=r2.dicE (u_ hn)
  cases h1;cases h2;exact yx I hn ha U (by omega)
def Yd(K:PySem.W.Frag):R2:=λx y H Q=>Vl K x y H Q\/∃d,RA K ok1 true H x d/\RA K ok1 true H y d/\Bv d=true/\d.depth<=64/\noK d=true/\Q (.bl true) H
theorem Lz(J:X.A.units+64<cLine):OpR X (compareOp .Eq) (Yd X.K):=by
 intro pins s σ H x y v u Q I Y Z h;rcases h with h|⟨d,r1,r2,hb,hd,hn,q⟩
 ·exact mD J pins s σ H x y v u Q I Y Z h
 ·exact Q6 I r1 r2 Y Z hb hn X.A (by omega) _ _ _ _ ⟨.bl true,H,I,rfl,q⟩
theorem Ub:BrO K (Yd K) v5:=by
 intro H x y dx X d Q Y Z e q;unfold v5 at e;by_cases z:(dr dx&&dr X)=true
 ·rw[if_pos z]at e
  cases e;rw[aX]at z;exact .inl ⟨dx,X,Y.rd (aS z.1),Z.rd (aS z.2),z.1,z.2,q _ rfl (.bl _)⟩
 ·rw[if_neg z]at e;split at e
  ·next c=>
   obtain⟨T,U,V,W⟩:=c;subst T
   cases e;exact .inr ⟨dx,Y,Z,U,V,W,q _ rfl (.bl _)⟩
  ·cases e
end
section
variable{X:Cx}{fl:List Fl}{es:List Expr}{pos:Pos}
end
section
variable{X:Cx}{fl:List Fl}{e:Expr}{f:FE}
end
section
variable{X:Cx}{fl:List Fl}{a:Expr}{f:FE}{pos p:Pos}
end
section
variable{X:Cx}{fl:List Fl}{a b:Expr}{fa fb:FE}{pos:Pos}
end
end D3
namespace D3
open L2 My
section
variable{X:Cx}{K:PySem.W.Frag}
end
noncomputable def Itv(K:PySem.W.Frag)(a:Addr)(n:Nat):It:=
 ⟨λi H=>i<n/\∃xs x,SqL K H a xs/\xs.length=n/\xs[n-1-i]? = some x,λi H x H'=>H'=H/\∀xs,SqL K H a xs->xs[n-1-i]? = some x,λi _=>n<=i⟩
theorem LC{P:c_}{w:de}{K:PySem.W.Frag}{tg:Expr}(a it:Addr)(n:Nat):Turn P w K tg (Itv K a n) [it] it (λi h=>i<=n/\h.IsRevIter it a ((n:Int)-1-(i:Int))) where
 mem:=by simp
 obj:=λi h st b hb=>by
  have e:b=it:=by simpa using hb
  subst e;obtain⟨_,o,e,c,d⟩:=st;exact⟨o,e,λv z=>by rw[d]at z;cases z⟩
 keep:=λi h h' st k=>⟨st.1,st.2.at λo e=>k it (by simp) o e⟩
 item:=by
  intro X T hw S L i pins s σ H E I U st V;subst T hw S;obtain⟨hi,xs,x,M,hn,hx⟩:=V;obtain⟨its,G,p,y⟩:=I.list M;obtain⟨u,C,F⟩:=G.get hx;obtain⟨N,f1,f2,O,Q,R⟩:=U it (by simp);have Z:=st.2;rw[show(n:Int)-1-(i:Int)=((n-1-i:Nat):Int)by omega]at Z;refine wpAny_pyNext_rev_item Z p.isList (x:=u) (by simpa using C) λh' Y J=>?_
  rw[show((n-1-i:Nat):Int)-1=(n:Int)-1-((i+1:Nat):Int)by omega]at Y;have A:=I.turned (t':=s.toks) (λb o hb e=>(J.2 b hb).trans e) N f1 O Q R;obtain⟨o,e,c,d⟩:=id Y;exact⟨u,rfl,Av (s:={s with heap:=h'}) e c d (by decide) ⟨x,H,A,F,⟨rfl,λys D=>by rwa[I.list_inj D M]⟩,⟨by omega,Y⟩,λb hb=>(U b hb).1⟩⟩
 done:=by
  intro X T hw S L i pins s σ H E I U st V;subst T hw S;obtain⟨N,f1,f2,O,Q,R⟩:=U it (by simp);have V:n<=i:=V;have Z:=st.2;rw[show(n:Int)-1-(i:Int) = -1 by omega]at Z;exact wpAny_pyNext_rev_end (I.ok.hd L) Z λh' B=>⟨rfl,I.turned (t':=s.toks) (λb o hb e=>B b o hb e) N f1 O Q R⟩
 self:=λ_ _ _ _ _ st h=>wpAny_pyIter_revIter st.2 h
section
variable{X:Cx}{fl:List Fl}{a:Expr}{f:FE}{pos:Pos}
def ac7(K:PySem.W.Frag)(ta:TE):TI:=λσ H R=>ta σ H λx H1=>∃p xs,x = .ref p/\SqL K H1 p xs/\R (Itv K p xs.length) H1
theorem VD{tg:Expr}{p:Pos}{ta:TE}(hg:Gl X "reversed")(hm:X.mg "reversed"=none)(ha:PE X a ta)(O:starEach [a] X.env=(false,eval a X.env)::starEach [] X.env:=by rfl)
 (J:(backTo pos (starEach [] X.env)).any (·.1)=false:=by rfl):PI X tg (.Call (.Name "reversed" p) [a] [] pos) (ac7 X.K ta):=by
 intro pins s σ H R I h;refine av (lG I hg hm boot_reversed (du (thn ((f9 ha jF O) pos pins s σ H (λvs H1=>match vs with|[x]=>∃p xs,x = .ref p/\SqL X.K H1 p xs/\R (Itv X.K p xs.length) H1|_=>False) I h) λus s1 ⟨vs,H1,Y,r1,q1⟩=>?_) O J))
 cases r1 with
 |nil=>exact q1.elim
 |cons r U=>
  cases U with
  |cons _ _=>exact q1.elim
  |nil=>
  obtain⟨l,xs,e,T,q⟩:=q1;subst e
  cases r;obtain⟨its,V,pl,Q⟩:=Y.list T;have P:=V.length;refine call_reversed_list pl.isList ?_;have S:Inv X pins σ H1 {s1 with heap:=s1.heap.push (revObj l ((its.toArray.size:Int)-1))}:=Y.kept (t':=s1.toks) λb o e=>ae _ e
  have Z:(s1.heap.push (revObj l ((its.toArray.size:Int)-1))).IsRevIter s1.heap.objs.size l ((its.toArray.size:Int)-1):=⟨_,ah _ rfl,rfl,rfl⟩;refine wpAny_pyIter_revIter (s:={s1 with heap:=s1.heap.push (revObj l ((its.toArray.size:Int)-1))}) Z ?_;have W:=Z;rw[show(its.toArray.size:Int)-1=(xs.length:Int)-1-((0:Nat):Int)by rw[bC];omega]at W;refine⟨s1.heap.objs.size,[s1.heap.objs.size],_,_,H1,rfl,S,LC l s1.heap.objs.size xs.length,⟨fL _,by rwa[show(xs.length:Int)-1-((0:Nat):Int)=(its.toArray.size:Int)-1 by rw[bC];omega]⟩,λb hb=>?_,q⟩;have e:b=s1.heap.objs.size:=by simpa using hb
  subst e;exact Y.fpOk (aP _) (Y.hok.fresh (aP _))
theorem VF{tg:Expr}{p:Pos}{L:List Nat}(h:DE X fl (.B L) a f)(O:Gl X "reversed")(hm:X.mg "reversed"=none)(he:starEach [a] X.env=(false,eval a X.env)::starEach [] X.env:=by rfl)
 (J:(backTo pos (starEach [] X.env)).any (·.1)=false:=by rfl):DI X fl L tg (.Call (.Name "reversed" p) [a] [] pos) (QC f):=PI.imp (VD O hm h he J) λσ H R' h=>by
 refine D3.ex4 h λG ow δ l R N q=>?_
 refine D3.ex1 (bind1 N) λd M U=>?_
 obtain⟨Z,rfl⟩:∃Z,d = .list Z:=by cases d<;>first|exact⟨_,rfl⟩|(cases U;done)
 cases U;refine⟨G,ow,δ,_,R,M,λv H1 s r=>?_⟩;obtain⟨a,xs,rfl,hx,keep⟩:=Ej (R.grow s) r;refine⟨a,xs,rfl,hx,q _ _ s λH2 k2 i=>?_⟩;obtain⟨k3,V⟩:=keep H2 k2;have S:=V.length;refine⟨λd hd=>?_,λP=>by rw[eG]at P;show xs.length<=i;omega⟩;have hi:i<Z.length:=by
  have:=(aQ.mp hd).1;rwa[eG]at this
 rw[List.getElem?_reverse hi]at hd;obtain⟨y,W,T⟩:=V.get hd;rw[<-S]at W;refine⟨⟨by omega,xs,y,k3,rfl,W⟩,λx K Y=>?_⟩;obtain⟨e,Q⟩:=Y;subst e;have:some y=some x:=W.symm.trans (Q xs k3)
 cases this;exact⟨Same.refl _,T⟩
end
section
variable{X:Cx}{fl:List Fl}{e:Expr}{es:List Expr}{f:FE}{pos p:Pos}{x:Str}{n:Nat}{F:List D->Option D}{fa:FA}
end
section
variable{P:c_}{w:de}{K:PySem.W.Frag}{mg:Str->Option Value}{base:dl}{x:Str}{ps N:List Str}{st:dy}{k n:Nat}{fs:FS}{fl:List Fl}
end
section
variable{P:c_}{w:de}{K:PySem.W.Frag}{mg:Str->Option Value}{base:dl}{x:Str}{ps:List Str}{st:dy}{n:Nat}
end
end D3
namespace D3
open L2 My
section
variable{K:PySem.W.Frag}{fl flA:List Fl}{G:Gh}{ow:Ow}{σ σ':St}{H H1:Hp}{δ:DS}{T:List Nat}
end
section
variable{X:Cx}{fl flA:List Fl}{e:Expr}{es:List Expr}{f:FE}{fa:FA}{pos:Pos}
end
section
variable{X:Cx}{fl:List Fl}{pos:Pos}
end
end D3
namespace XC
open Sem (wp)
structure Two(h:dl)(C N I:Addr)(bmB:List Value)(mN mI:Str->Option Value)(B newId:String):Prop where
 ex:∃(nm q:Str)(bs:List Value)(sn:List Str)(sub:List Value)(ab:Bool)(col:Option Bool)(dd:Option Addr)(k0 k1 k2 k3 k5:Option Value),
  h.get? C=some (excClassObj nm q C N bs (.ref I::bmB) true sn sub ab col dd k0 k1 k2 k3 k5 newId)
 nsC:h.Ns N mN
 up:∃(nm q:Str)(NI:Addr)(bs:List Value)(sn:List Str)(sub:List Value)(ab:Bool)(col:Option Bool)(dd:Option Addr)(k0 k1 k2 k3 k5:Option Value)(nid:String),
  h.get? I=some (excClassObj nm q I NI bs bmB true sn sub ab col dd k0 k1 k2 k3 k5 nid)/\h.Ns NI mI
 mro:mroOf (.type B)=pure bmB
section
variable{M:eR}{A:dc}{E:Value->c9->Prop}{h:dl}{g:Array eQ}{d:Drawn}{t:Nat}{os:OsState}
variable{C N I:Addr}{bmB:List Value}{mN mI:Str->Option Value}{B newId initId:String}
theorem Two.keeps{h':dl}(T:Two h C N I bmB mN mI B newId)(k:∀b o,h.get? b=some o->h'.get? b=some o):Two h' C N I bmB mN mI B newId:=by
 obtain⟨⟨nm,q,bs,sn,sub,ab,col,dd,k0,k1,k2,k3,k5,hC⟩,hn,⟨W,R,NI,U,X,Z,S,Y,V,j0,j1,j2,P,Q,nid,O,hm⟩,hb⟩:=T;exact⟨⟨nm,q,bs,sn,sub,ab,col,dd,k0,k1,k2,k3,k5,k _ _ hC⟩,hn.keeps k,⟨W,R,NI,U,X,Z,S,Y,V,j0,j1,j2,P,Q,nid,k _ _ O,hm.keeps k⟩,hb⟩
theorem Two.tail(T:Two h C N I bmB mN mI B newId)(hi:mI "__init__"=none):OwnTail h bmB (.ref I::bmB):=by
 obtain⟨W,Q,NI,U,X,Z,S,Y,V,j0,j1,j2,O,P,nid,R,hm⟩:=T.up;exact .own R hm hi .base
theorem Two.look{name:Str}{y:Option Value}{Q:Option Value->c9->Prop}(T:Two h C N I bmB mN mI B newId)(hB:typeLookup (.type B) name=pure y)
 (J:Q (match mN name with
  |some v=>some v
  |none=>match mI name with
   |some v=>some v
   |none=>y) ⟨h,g,d,t,os⟩):wpAny M A (typeLookup (.ref C) name) Q E ⟨h,g,d,t,os⟩:=by
 obtain⟨⟨nm,q,bs,sn,sub,ab,col,dd,k0,k1,k2,k3,k5,hC⟩,hn,⟨U,L,NI,R,V,Z,P,Y,S,j0,j1,j2,H,K,nid,O,hm⟩,hb⟩:=T;have rest:lookupAlong bmB name=pure y:=by
  rwa[typeLookup_eq,hb]at hB
 rw[typeLookup_eq];refine aa (wpAny_mroOf_exc hC ?_);rw[lookupAlong_cons];refine aa (wpAny_classOwn_exc hC hn ?_)
 cases W:mN name with
 |some v=>
  rw[W]at J;exact ag J
 |none=>
  rw[W]at J;rw[lookupAlong_cons];refine aa (wpAny_classOwn_cls O hm ?_)
  cases X:mI name with
  |some v=>
   rw[X]at J;exact ag J
  |none=>
   rw[X]at J;rw[rest];exact ag J
end
section
variable{prog:c_}{w:de}{A:dc}{E:Value->c9->Prop}{h:dl}{g:Array eQ}{d:Drawn}{t:Nat}{os:OsState}
variable{C N I:Addr}{bmB:List Value}{mN mI:Str->Option Value}{B newId initId:String}
theorem Two.make{rest:List Value}{fI:Addr}{U:Obj}{Q:Fin->c9->Prop}(T:Two h C N I bmB mN mI B newId)(F:ExcBaseFacts B newId initId bmB)(hi:mI "__init__"=none)(hN:mN "__init__"=some (.ref fI))
 (hf:h.get? fI=some U) (O:U.cls = .type "function") (J:rest.length<=sizeLine)
 (hq:∀h' e,h.objs.size<=e->Heap.MadeExcOf h h' e (.ref C) rest->wpAny (model prog w) A (call (.ref fI) (.ref e::rest)) (λr s'=>r = .none/\Q (.done (.ret (.ref e))) s') E ⟨h',g,d,t,os⟩) :
 wpAny (model prog w) A (eF.«type.__call__» ⟨.ref C::rest,[]⟩) Q E ⟨h,g,d,t,os⟩:=by
 have TT:=T.tail hi;have T0:=T;obtain⟨⟨nm,q,bs,sn,sub,ab,col,dd,k0,k1,k2,k3,k5,hC⟩,hn,⟨S,D,NI,P,V,X,M,W,R,j0,j1,j2,x,y,nid,v,hm⟩,hb⟩:=T
 repeat(first
  |with_reducible refine aw hC ?_
  |with_reducible refine wpAny_madeBy_exc hC ?_
  |wp_step)
 refine codeAny_call_builtin_code (Code.quiet_builtin _ F.quiet) (wpAny_check_new_subT F TT hC ?_);refine codeAny_exc_new_subT F TT hC ?_ J;obtain⟨h2,Z⟩:∃h2,h2=(h.push {cls:=.type "tuple", data:=.seq rest.toArray}).push {cls:=.ref C,data:=.fields #[.ref h.objs.size,.none,.none,.none,.bool false,.none]}:=⟨_,rfl⟩;rw[<-Z];have kp:∀b o,h.get? b=some o->h2.get? b=some o:=λb o z=>by
  rw[Z];exact ae _ (ae _ z)
 have hx:h2.get? (h.objs.size+1)=some {cls:=.ref C,data:=.fields #[.ref h.objs.size,.none,.none,.none,.bool false,.none]}:=by
  rw[Z];heap_get
 have L:h2.get? h.objs.size=some {cls:=.type "tuple", data:=.seq rest.toArray}:=by
  rw[Z];exact ae _ (Heap.get?_push_at rfl rfl)
 have Y:=kp _ _ hC;have G:(db C :: .ref I::bmB).contains (.ref C)=true:=by simp
 repeat(first
  |with_reducible refine aw hx ?_
  | (with_reducible refine bg Y ?_;rw[G])
  |wp_step)
 refine(T0.keeps kp).look F.init.lookup ?_;rw[hN];refine az (aa ?_);refine aa (cu (T := "function") ⟨_,kp _ _ hf,O⟩ ?_);rw[if_pos (by decide)];refine ag (aa (ar (hq h2 (h.objs.size+1) (iD _) ⟨kp,bz (iD _),h.objs.size,hx,bz (aP _),L⟩) (λr s' K=>?_) λ_ _ z=>z));obtain⟨rfl,H⟩:=K
 wp_walk
 exact H
end
end XC
namespace XC
open Builtin Builtin.ObjectAttr
open Sem (wp)
section
variable{prog:c_}{w:de}{A:dc}{E:Value->c9->Prop}{h:dl}{g:Array eQ}{d:Drawn}{t:Nat}{os:OsState}
variable{C N I x:Addr}{bmB:List Value}{mN mI:Str->Option Value}{B newId initId sa owner:String}{name:Str}{v:Value}
theorem Two.store0{tk:Tok}{o:Obj}{Q:Fin->c9->Prop}(T:Two h C N I bmB mN mI B newId)(SF:StoreFacts B bmB sa owner)(n1:mN name=none)(n2:mI name=none)(hB:typeLookup (.type B) name=pure none)
 (hx:h.get? x=some o) (hc:o.cls = .ref C) (O:∀c,o.data ≠ .cls c) (U:o.dict=none)
 (hq:∀h' J dx,h'.get? x=some {o with dict:=some dx}->h.objs.size<=dx->dx≠x->h'.Ns1 dx (λy=>if y=name then some v else none)->(∀b u,b≠x->h.get? b=some u->h'.get? b=some u)->Q (.done (.ret .none)) ⟨h',g,d,J,os⟩) :
 wpAny (model prog w) A (eF.«object.__setattr__» ⟨[.ref x,.str name tk,v],[]⟩) Q E ⟨h,g,d,t,os⟩:=by
 have T0:=T;obtain⟨⟨nm,q,bs,sn,sub,ab,col,dd,k0,k1,k2,k3,k5,hC⟩,hn,⟨M,D,NI,K,P,W,H,V,L,j0,j1,j2,r,s,nid,p,hm⟩,hb⟩:=T;have pass:refuseLoop (.ref x) "__setattr__" (.ref C :: .ref I::bmB)=pure ():=by
  rw[refuseLoop_ref,refuseLoop_ref];exact SF.passes _
 unfold eF.«object.__setattr__»
 repeat(first
  |rw[refuse_eq]
  |rw[pass]
  | (with_reducible refine aw hx ?_;rw[hc])
  |with_reducible refine wpAny_mroOf_exc hC ?_
  | (with_reducible refine T0.look hB ?_;rw[n1,n2])
  |wp_step)
 rw[U,if_neg (by simp[typeHasDict])];split
 ·rename_i z
  cases z
 split
 ·rename_i c z;exact absurd z (O c)
 obtain⟨h1,Y⟩:∃h1,h1=h.push {cls:=.type "dict", data:=.dict #[]}:=⟨_,rfl⟩;have x1:h1.get? x=some o:=by rw[Y];exact ae _ hx
 have ne:=bB (af hx);refine aa (wpAny_alloc' ?_);rw[<-Y];refine aa (wpAny_update' x1 (ag ?_));obtain⟨h2,Z⟩:∃h2,h2=h1.update x λo=>{cls:=o.cls,dict:=some h.objs.size,data:=o.data,slots:=o.slots}:=⟨_,rfl⟩
 rw[<-Z];have d2:h2.get? h.objs.size=some {cls:=.type "dict", data:=.dict #[]}:=by
  rw[Z,Y];exact(c0 _ _ _ _ ne.symm).trans (Heap.get?_push_at rfl rfl)
 have x2:h2.get? x=some {cls:=o.cls,dict:=some h.objs.size,data:=o.data,slots:=o.slots}:=by
  rw[Z];refine am _ x1 ?_;have fr:=(Heap.get?_some_iff.mp hx).2;obtain⟨oc,od,X,osl⟩:=o
  cases X<;>first|rfl|exact fr
 have k2:∀b u,b≠x->h.get? b=some u->h2.get? b=some u:=λb u z q=>by
  rw[Z,Y];exact(c0 _ _ _ _ z).trans (ae _ q)
 have R:h2.Ns h.objs.size (λ_=>none):=⟨_,#[],_,d2,rfl,λe z=>absurd z (by simp),λ_=>rfl⟩;refine aa (ag (aa (wpAny_nsSet1 (cK R) λh3 n3 S=>?_)));obtain⟨oD,G,F,a1,a2,a3⟩:=n3.count (Within.cons name v Within.nil);refine aa (wpAny_lookBehind a1 (by rw[a2];exact pastItsLine_dict (aZ a3 (show 1<=sizeLine+1 by decide))) ?_)
 wp_walk
 exact hq h3 _ h.objs.size ((S.2 x ne).trans x2) (aP _) ne.symm n3 λb u z q=>(S.2 b (bB (af q))).trans (k2 b u z q)
theorem Two.set0{o:Obj}{Q:Unit->c9->Prop}(T:Two h C N I bmB mN mI B newId)(J:StoreFacts B bmB sa owner)(s1:mN "__setattr__"=none)(s2:mI "__setattr__"=none)(n1:mN name=none)(n2:mI name=none)(hB:typeLookup (.type B) name=pure none)
 (hx:h.get? x=some o) (hc:o.cls = .ref C) (U:∀c,o.data ≠ .cls c) (Y:o.dict=none)
 (hq:∀h' O dx,h'.get? x=some {o with dict:=some dx}->h.objs.size<=dx->dx≠x->h'.Ns1 dx (λy=>if y=name then some v else none)->(∀b u,b≠x->h.get? b=some u->h'.get? b=some u)->Q () ⟨h',g,d,O,os⟩) :
 wpAny (model prog w) A (setAttr (.ref x) name v) Q E ⟨h,g,d,t,os⟩:=by
 have T0:=T;obtain⟨⟨nm,q,bs,sn,sub,ab,col,dd,k0,k1,k2,k3,k5,hC⟩,hn,⟨H,r,NI,F,K,X,D,W,G,j0,j1,j2,n,p,nid,m,hm⟩,hb⟩:=T;have l:=J.slot.bind (.ref x);have own:(db C :: .ref I::bmB).contains (.type owner)=true:=by
  rw[fj,fj,J.hasOwner,iT,iT]
 unfold setAttr callSpecial? specialOf
 repeat(any_goals(first
  |assumption
  | (with_reducible refine aw hx ?_;rw[hc])
  | (with_reducible refine T0.look J.slot.lookup ?_;rw[s1,s2])
  |wp_step))
 refine codeAny_call_builtin J.slot.plain J.entry ?_;have s:∀{A:dc}{E:Value->c9->Prop}(tk:Tok)(Q:Unit->c9->Prop)(t:Nat),Q () ⟨h,g,d,t,os⟩->wpAny (model prog w) A (checkBuiltinCall sa ⟨[.ref x,.str name tk,v],[]⟩) Q E ⟨h,g,d,t,os⟩:=by
  intro A E tk Q t z;have ha:=J.args (.ref x) (.str name tk) v;simp only[checkBuiltinCall,J.kind,J.split];refine aa ?_
  repeat(first
   | (with_reducible refine aw hx ?_;rw[hc])
   | (with_reducible refine bg hC ?_;rw[own])
   |wp_step)
  cases L:Manifest.signature? sa with
  |none=>exact ag z
  |some Z=>
   simp only[argsOk,L]at ha;have ha:=ha;show wpAny _ _ (Bind.checkArgs sa Z ⟨[.ref x,.str name tk,v],[]⟩) _ _ _;rw[ha];exact ag z
 refine s _ _ _ (T0.store0 J n1 n2 hB hx hc U Y λh' O dx M P R S V=>?_)
 repeat(any_goals(first|assumption|wp_step))
 exact hq h' O dx M P R S V
end
end XC
namespace XC
open L2 My
section
variable{P:c_}{w:de}{K:PySem.W.Frag}{mg:Str->Option Value}{base:dl}
variable{C N I x:Addr}{bmB:List Value}{mN mI:Str->Option Value}{B newId initId sa owner:String}
theorem LK{k:Nat}{fI:Addr}{name qual f:Str}{params:Arguments}{scope:er}{dV kV doc pm cdv ct oc:Value}{an od:Option Addr}{osl:Array (Option Value)}{p1 p2 p3 p4:Pos}
 (lk:K.lookup fI=some ⟨oc,od,.func (PySem.W.fnOf name qual params [.Assign [.Attribute (.Name "self" p1) f p2] (.Name f p3) p4] scope dV kV doc pm an cdv ct),osl⟩) (hcd:PySem.W.codeIn K cdv qual=true)
 (S:FnScope ["self", f] ["self", f] scope) (l1:scope.names.lookup ("self":Str)=some NameKind.local) (l2:scope.names.lookup f=some .local) (fs:("self":Str)≠f) (fd:(f==("__debug__":Str))=false) (fc:(f==("__classdict__":Str))=false)
 (hb:Binds K (PySem.W.fnOf name qual params [.Assign [.Attribute (.Name "self" p1) f p2] (.Name f p3) p4] scope dV kV doc pm an cdv ct) ["self", f] [])
 {A:dc} {outer:List Env} {s:c9} {H:Hp} (hr:Room (k+1) A) (U:Env0 P w K mg base A outer s H)
 (T:Two s.heap C N I bmB mN mI B newId) (SF:StoreFacts B bmB sa owner) (s1:mN "__setattr__"=none) (s2:mI "__setattr__"=none) (n1:mN f=none) (n2:mI f=none) (hB:typeLookup (.type B) f=pure none)
 {o:Obj} (hx:s.heap.get? x=some o) (hc:o.cls = .ref C) (Y:∀c,o.data ≠ .cls c) (hdn:o.dict=none) {v:V} {u:Value} (rv:RelV v u) {R:Result->c9->Prop}
 (hq:∀h' J dx,h'.get? x=some {o with dict:=some dx}->s.heap.objs.size<=dx->dx≠x->h'.Ns1 dx (λy=>if y=f then some u else none)->(∀b O,b≠x->s.heap.get? b=some O->h'.get? b=some O)->R (.ok (.ret .none)) {s with heap:=h',toks:=J}) :
 codeAny (model P w) A (.call (.ref fI) ⟨[.ref x,u],[]⟩) R s:=by
 have X:=U.mod.kin.keeps λb o e=>(U.bs b o e).1
 have Z:=U.mod.nolimit.keeps λb o e=>(U.bs b o e).1
 have kinds:∀y∈(["self", f]:List Str).zip [db x,u],scope.names.lookup y.1=some .local\/(scope.names.lookup y.1=some .cell/\((cellsFrom (s.heap.objs.size+1) scope.names []).lookup y.1).isSome=true):=by
  rintro⟨n,z⟩ r;rcases S.par n (kI r).1 with q|q
  ·exact .inl q
  ·exact .inr ⟨q,PySem.W.cellsFrom_some _ _ _ (.inl q)⟩
 refine codeAny_call_function hr.depth (X _ _ lk) rfl S.co S.gen rfl (PySem.W.codeRec_of X hcd) (hb s [.ref x,u] X rfl _ _ _ _ ?_);refine cE S.kind kinds λenv p m y=>?_
 subst p;refine⟨Z.keeps y.toInCall.keep,codeAny_func ?_⟩;obtain⟨h3,E,rfl,kp⟩:=y.done;have ns:=y.toInCall.ns;have t:bindL (envOfC qual scope s.heap.objs.size fI cdv).kindOf ((["self", f]:List Str).zip [db x,u]) (λ_=>none) "self"=some (.ref x):=
  pI S.nd (i:=0) rfl rfl l1
 have D:bindL (envOfC qual scope s.heap.objs.size fI cdv).kindOf ((["self", f]:List Str).zip [db x,u]) (λ_=>none) f=some u:=
  pI S.nd (i:=1) rfl rfl l2
 refine bx (cr (cq (b9 S.kind l2 ns D (cq (b9 S.kind l1 ns t ?_))) fd));refine(T.keeps kp).set0 SF s1 s2 n1 n2 hB (kp _ _ hx) hc Y hdn λh' J dx F G L M Q=>?_
 refine bd ?_;exact hq h' J dx F (aZ (aZ y.toInCall.fresh (dB ns.lt)) G) L M λb O e q=>Q b O e (kp _ _ q)
end
end XC
namespace XC
open L2 My
structure Fly(h:dl)(a C dx:Addr)(f:Str)(u:Value)(tb:Option Addr):Prop where
 obj:∃vs sl,h.get? a=some ⟨.ref C,some dx,.fields vs,sl⟩/\vs[1]? = some (tb.elim .none .ref)
 dic:h.Ns1 dx (λy=>if y=f then some u else none)
 ne:dx≠a
 hd:∀T,tb=some T->T≠a/\T≠dx/\∃oT ts,h.get? T=some oT/\oT.data = .fields ts/\ts[3]? = some .none
section
variable{M:eR}{A:dc}{E:Value->c9->Prop}{s:c9}
theorem yC{base:dl}{env:Env}{outer:List Env}{L a:Addr}{oe:Obj}{vs:Array Value}{head:Value}{hn:Bool}{Q:Unit->c9->Prop}
 (J:A.frames=some (env::outer)) (hl:s.heap.FunFrames base (env::outer)) (hf:env.frame=some L) (he:s.heap.get? a=some oe) (hd:oe.data = .fields vs) (hsz:1<vs.size)
 (h:∀h' T,s.heap.objs.size<=T->h'.get? a=some (oe.mapFields (·.setIfInBounds 1 (.ref T)))->(∃oT ts,h'.get? T=some oT/\oT.data = .fields ts/\ts[3]? = some .none) ->
  (∀b o,b≠a->b∉frs (env::outer)->s.heap.get? b=some o->h'.get? b=some o)->(∀b o,b≠a->s.heap.get? b=some o->∃sl,h'.get? b=some {o with slots:=sl})->Q () {s with heap:=h'}) :
 wpAny M A (do let z <-frameOf env;let pl <-entryPlaceOf L hn;let b <-EntryCells.newEntry head z .none (rawInt L) .none pl;setField (.ref a) 1 b) (λ_ s'=>wpAny M A (setFlight (.ref a) none) Q E s') E s:=by
 have nf:a∉(env::outer).filterMap (·.frame):=λz=>by
  obtain⟨_,o,I,q⟩:=hl.mem z;rw[he]at I
  cases I;exact q vs hd
 refine aa (wpAny_frameOf_fun J hl hf λh1 U=>?_);refine aa (wpAny_entryPlaceOf λpl V=>?_);refine aa (ck ?_ (V.sizeOk5 _ _ _ _ _));obtain⟨Z,Y⟩:∃Z:Obj,Z={cls:=.type "traceback", dict:=none,data:=.fields ([head,.ref L,.none,rawInt L,.none]++(if pl.isEmpty then bK 6 dm else pl)).toArray}:=⟨_,rfl⟩;rw[<-Y];have od:Z.data = .fields ([head,.ref L,.none,rawInt L,.none]++(if pl.isEmpty then bK 6 dm else pl)).toArray:=by rw[Y]
 have P:Z.isFreed=false:=by rw[Y];rfl
 have a1:=(U.2.1 a nf).trans he;have a2:(h1.push Z).get? a=some oe:=ae _ a1;refine cc a2 hd hsz ?_;have sz:=U.1;have ne:=rB (af a1);have G:=ca hd (·.setIfInBounds 1 (db h1.objs.size));obtain⟨h3,S⟩:∃h3,h3=(h1.push Z).update a (eW (·.setIfInBounds 1 (db h1.objs.size))):=⟨_,rfl⟩;rw[<-S];have a3:h3.get? a=some (oe.mapFields (·.setIfInBounds 1 (.ref h1.objs.size))):=by
  rw[S];exact am _ a2 (bu G)
 have N:h3.get? h1.objs.size=some Z:=by
  rw[S];exact(ai _ _ ne.symm).trans (ah h1 P)
 have K:∀b,b≠a->b≠h1.objs.size->h3.get? b=h1.get? b:=λb W R=>by
  rw[S,ai _ _ (df W)];exact Heap.get?_push_ne _ _ _ R
 refine aa (aE a3 G (x:=.ref h1.objs.size) (by simp[hsz]) ?_);rw[if_pos (show(db h1.objs.size != dm)=true by simp)];have H:=ca od (·.setIfInBounds 3 ((none:Option Addr).elim dm λf=>rawInt f));refine cc N od (by simp only[bC,bw,aW,dZ]<;>omega) ?_;obtain⟨h4,e4⟩:∃h4,h4=h3.update h1.objs.size (eW (·.setIfInBounds 3 ((none:Option Addr).elim dm λf=>rawInt f))):=⟨_,rfl⟩;rw[<-e4];have O:∀b,b≠h1.objs.size->h4.get? b=h3.get? b:=λb z=>by rw[e4];exact ai _ _ (df z)
 refine h h4 h1.objs.size (rC sz.symm) ((O a (df ne)).trans a3) ⟨_,_,by rw[e4];exact am _ N (bu H),H,?_⟩ (λb o W R q=>?_) λb o W q=>?_
 ·rcases V with rfl|⟨_,_,_,_,_,_,_,rfl⟩<;>simp
 ·have q1:=(U.2.1 b R).trans q;have X:=bB (af q1);exact(O b X).trans ((K b W X).trans q1)
 ·obtain⟨sl,q1⟩:=U.2.2 b o q;have X:=bB (af q1);exact⟨sl,(O b X).trans ((K b W X).trans q1)⟩
end
end XC
namespace XC
open L2 My
section
variable{M:eR}{A:dc}{E:Value->c9->Prop}{s:c9}
theorem LQ{base:dl}{env:Env}{outer:List Env}{L a C dx:Addr}{f:Str}{u:Value}{tb:Option Addr}{Q:Unit->c9->Prop}
 (J:A.frames=some (env::outer)) (hl:s.heap.FunFrames base (env::outer)) (hf:env.frame=some L) (F:Fly s.heap a C dx f u tb) (nd:dx∉frs (env::outer))
 (h:∀h' T,s.heap.objs.size<=T->Fly h' a C dx f u (some T)->(∀b o,b≠a->tb≠some b->b∉frs (env::outer)->s.heap.get? b=some o->h'.get? b=some o) ->
  (∀b o,b≠a->tb≠some b->s.heap.get? b=some o->∃sl,h'.get? b=some {o with slots:=sl})->Q () {s with heap:=h'}) :
 wpAny M A (noteFrame (.ref a) env) (λ_ s'=>wpAny M A (setFlight (.ref a) none) Q E s') E s:=by
 obtain⟨⟨vs,sl,ea,y⟩,Z,W,G⟩:=F;have X:=(fu.mp y).1;have P:dx<s.heap.objs.size:=by
  obtain⟨o,_,_,q,_⟩:=Z;exact af q
 unfold noteFrame;simp only[hf]
 cases tb with
 |none=>
  refine aa (aE ea rfl y ?_);rw[if_neg (by decide)];refine yC J hl hf ea rfl X λh' T Y q1 q2 q3 q4=>h h' T Y ⟨⟨_,sl,q1,by simp[X]⟩,?_,W,λT' z=>?_⟩ (λb o U _ V K=>q3 b o U V K) λb o U _ V=>q4 b o U V
  ·obtain⟨o,es,D,r1,r2⟩:=Z;exact⟨o,es,D,q3 dx o W nd r1,r2⟩
  ·cases z;refine⟨λz=>?_,λz=>?_,q2⟩
   ·rw[z]at Y;exact absurd (af ea) (cV.mpr Y)
   ·rw[z]at Y;exact absurd P (cV.mpr Y)
 |some T=>
  obtain⟨t,v,r,ts,N,O,x⟩:=G T rfl;refine aa (aE ea rfl y ?_);rw[if_pos (show((Option.elim (some T) dm db) != dm)=true by simp)];refine aa (aE N O x ?_);rw[if_neg (show ¬((dm==rawInt L)=true)by simp[rawInt])];refine aa (cc N O (fu.mp x).1 ?_);obtain⟨h2,B⟩:∃h2,h2=s.heap.update T (eW (·.setIfInBounds 3 dm)):=⟨_,rfl⟩;rw[<-B];have R:∀b,b≠T->h2.get? b=s.heap.get? b:=λb z=>by rw[B];exact ai _ _ (df z)
  have S:h2.objs.size=s.heap.objs.size:=by rw[B];exact bj ..
  have p:T∉frs (env::outer):=λz=>by
   obtain⟨_,o,w,q⟩:=hl.mem z;rw[N]at w
   cases w;exact q ts O
  have H:=hl.of_keeps λb o hb q=>⟨o,(R b λz=>by rw[z,N]at hb;cases hb;exact q ts O).trans hb,rfl⟩
  refine yC (s:={s with heap:=h2}) J H hf ((R a (df t)).trans ea) rfl X λh' T' Y q1 q2 q3 q4=>h h' T' (by rwa[<-S]) ⟨⟨_,sl,q1,by simp[X]⟩,?_,W,λn z=>?_⟩
   (λb o U I V K=>q3 b o U V ((R b λz=>I (by rw[z])).trans K)) λb o U I V=>q4 b o U ((R b λz=>I (by rw[z])).trans V)
  ·obtain⟨o,es,D,r1,r2⟩:=Z;exact⟨o,es,D,q3 dx o W nd ((R dx (df v)).trans r1),r2⟩
  ·cases z;have Y:s.heap.objs.size<=T':=by rwa[<-S]
   refine⟨λz=>?_,λz=>?_,q2⟩
   ·rw[z]at Y;exact absurd (af ea) (cV.mpr Y)
   ·rw[z]at Y;exact absurd P (cV.mpr Y)
end
end XC
namespace XC
open L2 My
structure Loose(X:Cx)(pins:List (Addr×Obj))(H:Hp)(b:Addr):Prop where
 new:X.s₀.heap.objs.size<=b
 loc:b≠X.env.locals
 cel:∀x c,X.env.cells.lookup x=some c->c≠b
 pin:∀p∈X.pn++pins,p.1≠b
 out:H b=none
section
variable{X:Cx}{pins:List (Addr×Obj)}{σ:L2.St}{H H':Hp}{s:c9}
theorem Loose.of(I:Inv X pins σ H s){b:Addr}(hb:s.heap.objs.size<=b)(q:H' b=none):Loose X pins H' b:=by
 refine⟨aZ I.sz hb,λz=>?_,λx c e z=>?_,λp Y z=>?_,q⟩
 ·rw[z]at hb;exact absurd I.lt (cV.mpr hb)
 ·obtain⟨v,o,Z,_⟩:=I.cell x c e;rw[z]at Z;exact absurd (af Z) (cV.mpr hb)
 ·have:=(I.pin p Y).1;rw[z]at this;exact absurd (af this) (cV.mpr hb)
theorem Loose.nofs(I:Inv X pins σ H s){b:Addr}(L:Loose X pins H' b):b∉X.env.locals::X.fs:=λz=>by
 rcases aN.mp z with e|e
 ·exact L.loc e
 ·obtain⟨_,o,Z,_⟩:=I.ok.funs.mem e;exact absurd (af Z) (cV.mpr L.new)
theorem Bw{M:eR}{A:dc}{E:Value->c9->Prop}{a C dx:Addr}{f:Str}{u:Value}{tb:Option Addr}{Q:Unit->c9->Prop}(hA:A.frames=X.A.frames)(I:Inv X pins σ H s)(J:X.stack=X.env::X.outer)(U:X.env.frame=some X.env.locals)
 (F:Fly s.heap a C dx f u tb) (O:Loose X pins H a) (Ld:Loose X pins H dx) (Lt:∀T,tb=some T->Loose X pins H T)
 (h:∀s' T,Inv X pins σ H s'->Fly s'.heap a C dx f u (some T)->s'.os=s.os->s'.gens=s.gens->Loose X pins H T->Q () s') :
 wpAny M A (noteFrame (.ref a) X.env) (λ_ s'=>wpAny M A (setFlight (.ref a) none) Q E s') E s:=by
 have fl:=I.stack;rw[J]at fl;have fe:frs (X.env::X.outer)=X.env.locals::X.fs:=by unfold frs;rw[iZ,U];rfl
 refine LQ (hA.trans (I.ok.frames.trans (by rw[J]))) fl U F (by rw[fe];exact Ld.nofs I) λh' T N D k1 k2=>?_
 have LT:=Loose.of I N (I.hok.fresh N);refine h _ T ?_ D rfl rfl LT;rw[fe]at k1;have ex:∀b,H b≠none->b≠a/\tb≠some b/\b∉X.env.locals::X.fs:=λb hb=>by
  refine⟨λz=>hb (by rw[z];exact O.out),λz=>hb (Lt b z).out,λz=>hb ?_⟩;exact I.stkFree b (by rwa[J,fe])
 obtain⟨m,⟨o,es,y,P,r⟩,_⟩:=id I.loc;obtain⟨sl,G⟩:=k2 _ o (df O.loc) (λz=>(Lt _ z).loc rfl) P;refine I.step (g':=s.gens) (d':=s.drawn) (t':=s.toks) (ch:=a::tb.toList) (λb hb=>?_) (λb o V W Z q _=>k1 b o (λz=>Z (by rw[z];exact aA)) (λz=>Z (au _ (by rw[z];exact bJ.mpr rfl))) (λz=>(aN.mp z).elim V W) q)
  (λb o V W Z q _=>k2 b o (λz=>Z (by rw[z];exact aA)) (λz=>Z (au _ (by rw[z];exact bJ.mpr rfl))) q) (λ_ _ _ _ z=>z)
  (λb o Z q=>let⟨_,w⟩:=k2 b o (λz=>Z (by rw[z];exact aA)) (λz=>Z (au _ (by rw[z];exact bJ.mpr rfl))) q;⟨_,w⟩) (λ_ _ e=>e) (λ_ _ _ e=>e) (λ_ _ _ e=>e) (λB hm=>?_) (λb w e=>?_) I.bare
 ·rcases aN.mp hb with e|e
  ·rw[e];exact⟨.inr O.new,O.loc,O.cel,O.pin⟩
  ·cases tb with
   |none=>cases e
   |some T0=>
    have e:b=T0:=by simpa using e
    have:=Lt T0 rfl;rw[e];exact⟨.inr this.new,this.loc,this.cel,this.pin⟩
 ·obtain⟨o',S,R,Y,L⟩:=hm;rw[P]at Y;cases Y;exact⟨_,S,R,G,L⟩
 ·refine(I.hok b w e).stay (λc v K q=>?_) (λ_ q=>q) λ_ _ q=>q
  obtain⟨V,W,Z⟩:=ex c (by
   rcases K with z|z
   ·rw[z,e];simp
   ·rw[z];simp)
  exact k1 c v V W Z q
end
end XC
namespace XC
open L2 My
section
variable{prog:c_}{w:de}{A:dc}{E:Value->c9->Prop}{h:dl}{g:Array eQ}{d:Drawn}{t:Nat}{os:OsState}
variable{C N I:Addr}{bmB:List Value}{mN mI:Str->Option Value}{B newId initId:String}
theorem Two.call{rest:List Value}{fI:Addr}{U:Obj}{Q:Value->c9->Prop}(T:Two h C N I bmB mN mI B newId)(F:ExcBaseFacts B newId initId bmB)(hi:mI "__init__"=none)(hN:mN "__init__"=some (.ref fI))
 (hf:h.get? fI=some U) (O:U.cls = .type "function") (J:rest.length<=sizeLine)
 (hq:∀h' e,h.objs.size<=e->Heap.MadeExcOf h h' e (.ref C) rest->wpAny (model prog w) (A.under (.builtin "type.__call__" ⟨.ref C::rest,[]⟩)) (call (.ref fI) (.ref e::rest)) (λr s'=>r = .none/\Q (.ref e) s') E ⟨h',g,d,t,os⟩) :
 wpAny (model prog w) A (call (.ref C) rest) Q E ⟨h,g,d,t,os⟩:=by
 have T0:=T;obtain⟨⟨nm,q,bs,sn,sub,ab,col,dd,k0,k1,k2,k3,k5,hC⟩,hn,⟨W,M,NI,S,X,Z,R,Y,V,j0,j1,j2,K,L,nid,H,hm⟩,hb⟩:=T;have g1:=tc_lookup;have g2:=tc_bind (.ref C);refine cm (codeAny_of_tree ?_)
 repeat(any_goals(first
  |assumption
  |with_reducible refine aw hC ?_
  |wp_step))
 refine⟨rfl,?_⟩;refine codeAny_call_builtin_at (Code.quiet_builtin _ (by decide +kernel)) entry_typeCall (wpAny_check_type_call_sub hC (T0.make F hi hN hf O J λh' e P hm=>?_));exact hq h' e P hm
theorem Ew{M:eR}{A:dc}{s:c9}{env:Env}{x:Sem Value}{Q:Flow->c9->Prop}(hh:A.handled=none)(O:bmB.contains (.type "BaseException")=true)
 (h:wpAny M A x (λv J=>∃e oe,v = .ref e/\Two J.heap C N I bmB mN mI B newId/\J.heap.get? e=some oe/\oe.cls = .ref C/\(∃vs,oe.data = .fields vs/\vs[1]? = some .none)/\E (.ref e) J) E s) :
 wpAny M A (raiseStmt env (some x) none) Q E s:=by
 have K:(db C :: .ref I::bmB).contains (.type "BaseException")=true:=by
  rw[fj,fj,O,iT,iT]
 refine aa (ar h (λv J q=>?_) λ_ _ z=>z);obtain⟨e,oe,rfl,T,X,P,⟨vs,hd,h1⟩,L⟩:=q;obtain⟨⟨nm,q,bs,sn,sub,ab,col,dd,k0,k1,k2,k3,k5,hC⟩,hn,⟨V,H,NI,S,W,Z,R,Y,U,j0,j1,j2,F,G,nid,y,hm⟩,hb⟩:=T;obtain⟨D,g,d,tk,os⟩:=J
 repeat(first
  | (with_reducible refine aw X ?_;rw[P])
  |with_reducible refine aw hC ?_
  | (with_reducible refine bg hC ?_;rw[K])
  | (with_reducible refine aE X hd h1 ?_)
  |wp_step)
 exact wpAny_raiseNew_none hh L
end
end XC
namespace XC
open L2 My
abbrev bmV:List Value:=[.type "ValueError", .type "Exception", .type "BaseException", .type "object"]
structure Init(K:PySem.W.Frag)(f:Str)(fI:Addr):Prop where
 ex:∃(name qual:Str)(params:Arguments)(scope:er)(dV kV doc pm cdv ct:Value)(an od:Option Addr)(osl:Array (Option Value))(p1 p2 p3 p4:Pos),
  K.lookup fI=some ⟨.type "function", od,.func (PySem.W.fnOf name qual params [.Assign [.Attribute (.Name "self" p1) f p2] (.Name f p3) p4] scope dV kV doc pm an cdv ct),osl⟩/\PySem.W.codeIn K cdv qual=true /\
  FnScope ["self", f] ["self", f] scope/\scope.names.lookup ("self":Str)=some NameKind.local/\scope.names.lookup f=some NameKind.local /\
  Binds K (PySem.W.fnOf name qual params [.Assign [.Attribute (.Name "self" p1) f p2] (.Name f p3) p4] scope dV kV doc pm an cdv ct) ["self", f] []
 ne:("self":Str)≠f
 nd:(f==("__debug__":Str))=false
 nc:(f==("__classdict__":Str))=false
structure Exc(K:PySem.W.Frag)(mg:Str->Option Value)(cn f:Str)(C I:Addr):Prop where
 mgC:mg cn=some (.ref C)
 kp:PySem.W.keepIn K (.ref C)=true
 hB:typeLookup (.type "ValueError") f=pure none
 ex:∃(N fI:Addr)(mN mI:Str->Option Value),(∀h,K.In h->Two h C N I bmV mN mI "ValueError" "ValueError.__new__")/\mN "__init__"=some (.ref fI)/\mI "__init__"=none/\mN "__setattr__"=none/\mI "__setattr__"=none/\mN f=none/\mI f=none/\Init K f fI
section
variable{X:Cx}{pins:List (Addr×Obj)}{σ:L2.St}{H:Hp}{s:c9}{cn f:Str}{C I:Addr}{arg:Expr}{ta:TE}{p pos:Pos}{k:Nat}
theorem LR{R:V->Hp->Prop}(Ex:Exc X.K X.mg cn f C I)(hr:Room (k+2) X.A)(hg:Gl X cn)(hdb:(cn==("__debug__":Str))=false)(ha:PE X arg ta)(J:Inv X pins σ H s)(h:ta σ H R)
 (he:starEach [arg] X.env=(false,eval arg X.env)::starEach [] X.env:=by rfl) (O:(backTo pos (starEach [] X.env)).any (·.1)=false:=by rfl) :
 wpAny (model X.prog X.w) X.A (eval (.Call (.Name cn p) [arg] [] pos) X.env) (λr s'=>∃(v:V)(H1:Hp)(a dx:Addr)(u:Value),r = .ref a/\R v H1/\RelV v u/\Inv X pins σ H1 s'/\Fly s'.heap a C dx f u none/\Loose X pins H1 a/\Loose X pins H1 dx) X.xe s:=by
 obtain⟨mgC,kp,hB,N,fI,mN,mI,L,i1,i2,s1,s2,n1,n2,⟨⟨name,qual,params,scope,dV,kV,doc,pm,cdv,ct,an,od,osl,p1,p2,p3,p4,lk,hcd,S,l1,l2,hb⟩,ne,nd,nc⟩⟩:=Ex;refine av (rH J hg mgC ?_ hdb);have h':Kq ta Ql σ H λvs H1=>match vs with
  |[v]=>R v H1
  |_=>False:=h
 refine PySem.W.callWith_K (h₀:=X.base) J.ok.mod.kin kp (thn (f9 ha jF he pos pins s σ H _ J h') λus z ⟨vs,H1,Z,r,q⟩=>⟨Z.kIn,?_⟩) he O;obtain⟨v,u,rfl,rfl,P⟩:∃v u,vs=[v]/\us=[u]/\RelV v u:=by
  cases r with
  |nil=>exact q.elim
  |cons a b=>cases b with
   |nil=>exact⟨_,_,rfl,rfl,a⟩
   |cons _ _=>exact q.elim
 obtain⟨l,g,d,tk,os⟩:=z;refine(L _ Z.kIn).call PySem.F.excBase_ValueError i2 i1 (Z.kIn _ _ lk) rfl (show 1<=sizeLine by decide) λh' e U hm=>?_
 have G:=Z.kept (t':=tk) hm.keeps;obtain⟨t,M,_,_⟩:=hm.there;refine cm (LK (x:=e) lk hcd S l1 l2 ne nd nc hb (hr.make C [u] []) (G.env0.make C [u] []) (L _ G.kIn) PySem.F.store_ValueError s1 s2 n1 n2 hB M rfl (λc z=>by cases z) rfl P λh3 Q dx n o B D E=>?_);have k3:=λb m w=>E b m (λy=>by
  rw[y]at w;exact absurd (af w) (cV.mpr U)) (hm.keeps _ _ w)
 have i:=Z.kept (t':=Q) k3;have Y:l.objs.size<=dx:=by
  have j:=af M;exact aZ U (aZ (dB j) o)
 exact⟨rfl,v,H1,e,dx,u,rfl,q,P,i,⟨⟨_,_,n,rfl⟩,D,B,λT y=>by cases y⟩,Loose.of Z U (Z.hok.fresh U),Loose.of Z Y (Z.hok.fresh Y)⟩
end
end XC
namespace XC
open L2 My
def CXE(P:c_)(w:de)(fld:Addr->Str):CXT:=λouter H s E e s'=>∃(a C dx T:Addr)(u:Value)(H':Hp),e = .ref a/\s'.os=s.os/\eK s'.gens/\Un (frs outer) [] H H' s.heap s'.heap/\HOk P w H' s'.heap/\Fly s'.heap a C dx (fld C) u (some T) /\
 s.heap.objs.size<=a/\s.heap.objs.size<=dx/\s.heap.objs.size<=T/\H' a=none/\H' dx=none/\H' T=none/\E u (some C) H'
theorem CXE.no{P:c_}{w:de}{fld:Addr->Str}{outer:List Env}{H:Hp}{s s':c9}{e:Value}(h:CXE P w fld outer H s E0 e s'):False:=by
 obtain⟨_,_,_,_,_,_,_,_,_,_,_,_,_,_,_,_,_,_,z⟩:=h;exact z
section
variable{P:c_}{w:de}{K:PySem.W.Frag}{mg:Str->Option Value}{base:dl}{N:List Str}{qual:Str}{scope:er}{fa:Addr}{cdv:Value}{A:dc}{outer:List Env}{s₀:c9}{H₀:Hp}{E:XK}{fld:Addr->Str}
variable{pins:List (Addr×Obj)}{σ:L2.St}{H:Hp}{s:c9}
theorem Ye{a C dx:Addr}{u:Value}{tb:Option Addr}(I:Inv (mC (CXE P w fld) P w K mg base N qual scope fa cdv A outer s₀ H₀ E) pins σ H s)(F:Fly s.heap a C dx (fld C) u tb)
 (O:Loose (mC (CXE P w fld) P w K mg base N qual scope fa cdv A outer s₀ H₀ E) pins H a) (J:Loose (mC (CXE P w fld) P w K mg base N qual scope fa cdv A outer s₀ H₀ E) pins H dx)
 (U:∀T,tb=some T->Loose (mC (CXE P w fld) P w K mg base N qual scope fa cdv A outer s₀ H₀ E) pins H T) (q:E u (some C) H):(mC (CXE P w fld) P w K mg base N qual scope fa cdv A outer s₀ H₀ E).xe (.ref a) s:=by
 show wpAny _ _ (leaving _ (.ref a)) _ _ s;refine aa (Bw rfl I rfl rfl F O J U λs' T Z Y W X LT=>?_);exact⟨a,C,dx,T,u,H,rfl,Z.os,Z.bare,Z.base,Z.hok,Y,O.new,J.new,LT.new,O.out,J.out,LT.out,q⟩
end
section
variable{X:Cx}{pins:List (Addr×Obj)}{σ:L2.St}{H:Hp}{s:c9}{cn f:Str}{C I:Addr}{arg:Expr}{ta:TE}{p pos rpos:Pos}{k:Nat}
theorem L_{Q:Flow->c9->Prop}{R:V->Hp->Prop}(Ex:Exc X.K X.mg cn f C I)(Y:Room (k+2) X.A)(hg:Gl X cn)(U:(cn==("__debug__":Str))=false)(ha:PE X arg ta)(J:Inv X pins σ H s)(h:ta σ H R)
 (hx:∀(v:V)(H1:Hp)(a dx:Addr)(u:Value)(s':c9),R v H1->RelV v u->Inv X pins σ H1 s'->Fly s'.heap a C dx f u none->Loose X pins H1 a->Loose X pins H1 dx->X.xe (.ref a) s')
 (he:starEach [arg] X.env=(false,eval arg X.env)::starEach [] X.env:=by rfl) (O:(backTo pos (starEach [] X.env)).any (·.1)=false:=by rfl) :
 wpAny (model X.prog X.w) X.A (exec (.Raise (some (.Call (.Name cn p) [arg] [] pos)) none rpos) X.env) Q X.xe s:=by
 have Z:=Ex;obtain⟨mgC,kp,hB,N,fI,mN,mI,M,i1,i2,s1,s2,n1,n2,_⟩:=Ex;rw[arm_exec_Raise];simp only[evalOpt,Option.map];refine aa (ce (Ew (C:=C) (N:=N) (I:=I) (bmB:=bmV) (mN:=mN) (mI:=mI) (B := "ValueError") (newId := "ValueError.__new__") Y.hd (by decide) ?_));refine aa (ar (LR Z Y hg U ha J h he O) (λr s' q=>?_) λ_ _ z=>z);obtain⟨v,H1,a,dx,u,rfl,q,T,W,F,G,L⟩:=q;refine aa (ce (ag ?_));obtain⟨vs,sl,P,S⟩:=F.obj;exact⟨a,_,rfl,M _ W.kIn,P,rfl,⟨vs,rfl,S⟩,hx v H1 a dx u s' q T W F G L⟩
end
end XC
namespace XC
open L2 My
section
variable{M:eR}{A:dc}{E:Value->c9->Prop}{h:dl}{g:Array eQ}{d:Drawn}{t:Nat}{os:OsState}
variable{C N I a:Addr}{bmB:List Value}{mN mI:Str->Option Value}{B newId:String}{oe:Obj}
theorem Two.match_up{Q:Bool->c9->Prop}(T:Two h C N I bmB mN mI B newId)(he:h.get? a=some oe)(hc:oe.cls = .ref C)(J:bmB.contains (.type "BaseException")=true)(O:Q true ⟨h,g,d,t,os⟩):
 wpAny M A (excMatches (.ref a) (.ref I)) Q E ⟨h,g,d,t,os⟩:=by
 obtain⟨⟨nm,q,bs,sn,sub,ab,col,dd,k0,k1,k2,k3,k5,hC⟩,hn,⟨V,K,NI,S,W,Z,R,Y,U,j0,j1,j2,G,H,nid,X,hm⟩,hb⟩:=T;have L:(db I::bmB).contains (.type "BaseException")=true:=by rw[fj,J,iT]
 have P:(db C :: .ref I::bmB).contains (.ref I)=true:=by simp
 have f:=tc_notTuple
 repeat(first
  | (with_reducible refine aw he ?_;rw[hc])
  |with_reducible refine aw X ?_
  |with_reducible refine aw hC ?_
  | (with_reducible refine bg X ?_;rw[L])
  | (with_reducible refine bg hC ?_;rw[P])
  |wp_step)
 exact O
theorem Two.match_self{Q:Bool->c9->Prop}(T:Two h C N I bmB mN mI B newId)(U:h.get? a=some oe)(Y:oe.cls = .ref C)(J:bmB.contains (.type "BaseException")=true)(O:Q true ⟨h,g,d,t,os⟩):
 wpAny M A (excMatches (.ref a) (.ref C)) Q E ⟨h,g,d,t,os⟩:=by
 obtain⟨⟨nm,q,bs,sn,sub,ab,col,dd,k0,k1,k2,k3,k5,hC⟩,hn,_,hb⟩:=T;exact wpAny_excMatches_sub_self hC U Y (by rw[fj,J,iT]) O
end
end XC
namespace XC
open L2 My
section
variable{prog:c_}{w:de}{A:dc}{E:Value->c9->Prop}{h:dl}{g:Array eQ}{d:Drawn}{t:Nat}{os:OsState}
variable{C N I a D:Addr}{bmB:List Value}{mN mI:Str->Option Value}{B newId:String}{oe oD:Obj}
end
end XC
namespace XC
open L2 My
noncomputable def gG(X:Cx)(a:Addr)(oa:Obj)(dx:Addr)(od:Obj):Cx:={X with A:=X.A.mark (some (.ref a)),calm:=false,pn:=X.pn++[(a,oa),(dx,od)],xe:=λ_ _=>False}
section
variable{X:Cx}{pins:List (Addr×Obj)}{σ:L2.St}{H:Hp}{s:c9}{a C dx:Addr}{f:Str}{u:Value}{tb:Option Addr}
theorem Jp(I:Inv X pins σ H s)(F:Fly s.heap a C dx f u tb)(J:Loose X pins H a)(q:Loose X pins H dx):∃oa od,s.heap.get? a=some oa/\s.heap.get? dx=some od/\Inv (gG X a oa dx od) pins σ H s:=by
 obtain⟨vs,sl,W,_⟩:=F.obj;obtain⟨od,es,U,Y,V,_⟩:=F.dic;refine⟨_,od,W,Y,⟨⟨I.ok.mod,I.ok.kind,I.ok.glob,I.ok.blt,I.ok.above,I.ok.inj,I.ok.has,I.ok.cab,λz=>(by cases z),I.ok.frames,I.ok.stk,I.ok.exf,I.ok.bs,I.ok.bsz,I.ok.noex,I.ok.exfs,I.ok.funs,I.ok.frf⟩,I.os,I.bare,I.base,I.loc,I.cell,I.free,I.freeC,λp Z=>?_,I.hok,I.len⟩⟩;have Z:=Z;rcases b_.mp Z with Z|Z
 ·rcases b_.mp Z with Z|Z
  ·exact I.pin p (bT _ Z)
  ·rcases aN.mp Z with rfl|Z
   ·exact⟨W,J.out,J.loc,λz=>J.nofs I (au _ z),λv z=>by cases z⟩
   ·rw[bJ.mp Z];exact⟨Y,q.out,q.loc,λz=>q.nofs I (au _ z),λv z=>by rw[V]at z;cases z⟩
 ·exact I.pin p (aR _ Z)
theorem rQ{σ':L2.St}{H':Hp}{s':c9}{oa od:Obj}(ok:X.Ok)(I:Inv (gG X a oa dx od) pins σ' H' s'):Inv X pins σ' H' s':=by
 refine⟨ok,I.os,I.bare,I.base,I.loc,I.cell,I.free,I.freeC,λp Z=>?_,I.hok,I.len⟩;rcases b_.mp Z with Z|Z
 ·exact I.pin p (bT _ (bT _ Z))
 ·exact I.pin p (aR _ Z)
end
end XC
namespace XC
open L2 My
section
variable{X:Cx}{pins:List (Addr×Obj)}{σ:L2.St}{H:Hp}{s:c9}{a C dx T:Addr}{f:Str}{u:Value}
theorem Ey{M:eR}{A:dc}{E:Value->c9->Prop}{Q:Unit->c9->Prop}(I:Inv X pins σ H s)(F:Fly s.heap a C dx f u (some T))(hn:H T=none)(hL:T≠X.env.locals)(h1:X.s₀.heap.objs.size<=T)(h2:∀x c,X.env.cells.lookup x=some c->c≠T)(h3:∀p∈X.pn++pins,p.1≠T)
 (h:∀s',Inv X pins σ H s'->Fly s'.heap a C dx f u (some T)->Q () s'):wpAny M A (setFlight (.ref a) none) Q E s:=by
 obtain⟨⟨vs,sl,ea,O⟩,Z,W,V⟩:=F;obtain⟨K,L,G,ts,P,R,S⟩:=V T rfl;refine aa (aE ea rfl O ?_);rw[if_pos (show((Option.elim (some T) dm db) != dm)=true by simp)];refine cc P R (fu.mp S).1 ?_;obtain⟨h',U⟩:∃h',h'=s.heap.update T (eW (·.setIfInBounds 3 ((none:Option Addr).elim dm λf=>rawInt f))):=⟨_,rfl⟩;rw[<-U];have Y:∀b,b≠T->h'.get? b=s.heap.get? b:=λb z=>by rw[U];exact ai _ _ (df z)
 have N:=ca R (·.setIfInBounds 3 ((none:Option Addr).elim dm λf=>rawInt f));have J:h'.get? T=some (G.mapFields (·.setIfInBounds 3 ((none:Option Addr).elim dm λf=>rawInt f))):=by
  rw[U];exact am _ P (bu N)
 have B:Inv X pins σ H {s with heap:=h',toks:=s.toks}:=Inv.turned (t':=s.toks) I (λb o z q=>(Y b z).trans q) hn hL (.inr h1) h2 h3;refine h _ B ⟨⟨vs,sl,(Y a (df K)).trans ea,O⟩,?_,W,λT' z=>?_⟩
 ·obtain⟨o,es,D,r1,r2⟩:=Z;exact⟨o,es,D,(Y dx (df L)).trans r1,r2⟩
 ·cases z;refine⟨K,L,_,_,J,N,?_⟩;have:=(fu.mp S).1;simp[this]
end
end XC
namespace XC
open L2 My
section
variable{X:Cx}{pins:List (Addr×Obj)}{σ:L2.St}{H:Hp}{s:c9}{a C I0 dx T D:Addr}{cn f ic n:Str}{u:Value}{i:Nat}{b0:dy}{suite:List dy}{np hpos:Pos}
theorem name_goes{M:eR}{A:dc}{E:Value->c9->Prop}{Q:Unit->c9->Prop}(I:Inv X pins σ H s)(J:X.env.scope.names.lookup n=some .local)
 (h:∀s',Inv X pins (bK σ.length none) H s'->Q () s'):wpAny M A (do bindName X.env n .none;unbindBehindTheSuite X.env n hpos) Q E s:=by
 obtain⟨m,hn,_⟩:=id I.loc;have cls:(X.env.scope.kind == .class||(X.env.scope.kind == .module&&X.env.locals != X.env.globals))=false:=by rw[I.ok.kind];rfl
 refine wpAny_nameGoes J hn cls λh' O T V=>h _ ?_
 have Y:∀b o,X.s₀.heap.get? b=some o->b≠X.env.locals:=λb o e z=>by
  rw[z]at e;exact absurd (af e) (cV.mpr I.ok.above)
 refine⟨I.ok,I.os,I.bare,⟨λb o e Z W U=>(V.2 b (Y b o e)).trans (I.base.keep b o e Z W U),λb o e Z W U=>?_,I.base.free,λb o e Z=>?_,I.base.tups,I.base.frzs,I.base.tbls⟩,⟨O,T,λj y v K S _=>?_⟩,λy c e=>?_,I.free,I.freeC,λp N=>?_,λb P e=>?_,by rw[bF];exact I.len⟩
 ·obtain⟨sl,w⟩:=I.base.slot b o e Z W U;exact⟨sl,(V.2 b (Y b o e)).trans w⟩
 ·obtain⟨o',w⟩:=I.base.there b o e Z;exact⟨o',(V.2 b (Y b o e)).trans w⟩
 ·rw[cM]at S;split at S<;>cases S
 ·obtain⟨w,z⟩:=I.cell y c e;exact⟨w,z.sameBut V (I.cne y c e)⟩
 ·obtain⟨e,Z,W,U,R⟩:=I.pin p N;exact⟨(V.2 p.1 W).trans e,Z,W,U,R⟩
 ·refine(I.hok b P e).stay (λc w L q=>(V.2 c λz=>?_).trans q) (λ_ q=>q) λ_ _ q=>q
  rcases L with y|y
  ·rw[<-y,z,I.free]at e;cases e
  ·rw[z,I.free]at y;cases y
end
end XC
namespace XC
open L2 My
def XP(fld:Addr->Str)(X:Cx)(pins:List (Addr×Obj))(σ:L2.St)(EX:XK)(e:Value)(s':c9):Prop:=∃(a C dx T:Addr)(u:Value)(H':Hp),e = .ref a/\Inv X pins σ H' s'/\Fly s'.heap a C dx (fld C) u (some T)/\Loose X pins H' a/\Loose X pins H' dx/\Loose X pins H' T/\EX u (some C) H'
section
variable{X:Cx}{pins:List (Addr×Obj)}{σ:L2.St}{H:Hp}{s:c9}{fld:Addr->Str}{k:Nat}{f:Addr}{fd:dk}{ps:List Str}{sp:Sp}{dvs:List V}{ds:List Value}{EX:XK}
theorem Q7{Q:VK}{us:List Value}{vs:List V}(F:FnOk X.prog X.w X.K X.mg X.base (CXE X.prog X.w fld) k f fd ps sp)(O:Room k X.A)(hb:Binds X.K fd ps ds)(hd:Vals dvs ds)(J:Inv X pins σ H s)(r:Vals vs us)(h:sp (vs++dvs) H Q EX):
 wpAny (model X.prog X.w) X.A (PySem.call (.ref f) us) (EP X pins σ Q) (XP fld X pins σ EX) s:=by
 have Z:=r.append hd;have R:(us++ds).length=ps.length:=by
  rw[<-Z.length];exact F.len _ _ _ _ h
 refine cm (bX (F.run X.A X.stack s H ⟨us,[]⟩ (us++ds) (vs++dvs) Q EX O J.env0 (hb s us J.kIn R) Z h) λW s' q=>?_)
 cases W with
 |error e=>
  obtain⟨a,C,dx,T,u,H',rfl,os,bare,un,hok,Fl,ha,Y,P,U,nd,S,q⟩:=q;exact⟨a,C,dx,T,u,H',rfl,Inv.call' (ch:=[]) J os un hok bare (λb z=>absurd z (by simp)),Fl,Loose.of J ha U,Loose.of J Y nd,Loose.of J P S,q⟩
 |ok fl=>
  cases fl with
  |ret u=>exact J.after q
  |next=>exact q.elim
  |brk=>exact q.elim
  |cont=>exact q.elim
def PSE(fld:Addr->Str)(X:Cx)(st:dy)(t:Ends->XK->L2.St->Hp->Prop):Prop:=
 ∀(pins:List (Addr×Obj))(s:c9)(σ:L2.St)(H:Hp)(D:Ends)(EX:XK),Inv X pins σ H s->t D EX σ H->wpAny (model X.prog X.w) X.A (exec st X.env) (SP X pins D) (XP fld X pins σ EX) s
section
variable{x:Str}{p pos pos2:Pos}{e:Expr}{es:List Expr}{ta:TA}
end
end
end XC
namespace D3
inductive Or where
 |o (x:Oc)
 |ex (c:Str) (v:D)
abbrev FX:=DS->Option Or
def xOf(f:FS):FX:=λδ=>(f δ).bind λo=>some (.o o)
def xK(f g:FX):FX:=λδ=>(f δ).bind λo=>match o with
 | .o (.nx δ')=>g δ'
 |o=>some o
def xIf(c:FT)(f g:FX):FX:=λδ=>(c δ).bind λb=>if b=true then f δ else g δ
end D3
namespace XC
open L2 My D3
section
variable{X:Cx}{E:XK}{fl:List Fl}{c:Expr}{st:dy}{sts body orelse:List dy}{fs:FS}{f g:FX}{ft:FT}{pos:Pos}
theorem PS.nox{t:TS}(h:PS X.nox st t):PS X st t:=λpins s σ H D I hw=>by
 refine ar (h pins s σ H D (I.wish _) hw) (λfl s' q=>?_) λ_ _ z=>z.elim
 cases fl with
 |next=>obtain⟨σ',H',J,q⟩:=q;exact⟨σ',H',J.wish _,q⟩
 |ret u=>obtain⟨v,σ',H',J,r,q⟩:=q;exact⟨v,σ',H',J.wish _,r,q⟩
 |brk=>obtain⟨σ',H',J,q⟩:=q;exact⟨σ',H',J.wish _,q⟩
 |cont=>obtain⟨σ',H',J,q⟩:=q;exact⟨σ',H',J.wish _,q⟩
end
structure ExcF(K:PySem.W.Frag)(mg:Str->Option Value)(fld:Addr->Str)(cn f:Str):Prop where
 ex:∃C I,Exc K mg cn f C I/\fld C=f
section
variable{P:c_}{w:de}{K:PySem.W.Frag}{mg:Str->Option Value}{base:dl}{N:List Str}{qual:Str}{scope:er}{fa:Addr}{cdv:Value}{A:dc}{outer:List Env}{s₀:c9}{H₀:Hp}{E:XK}{fld:Addr->Str}
variable{fl:List Fl}{cn f:Str}{arg:Expr}{fe:FE}{p pos rpos:Pos}{k:Nat}
end
structure HasX(P:c_)(w:de)(K:PySem.W.Frag)(mg:Str->Option Value)(base:dl)(fld:Addr->Str)(n:Nat)(x:Str)(ps:List Str)(sp:Sp)(dvs:List V):Prop where
 ex:∃(f:Addr)(fd:dk)(ds:List Value),FnOk P w K mg base (CXE P w fld) n f fd ps sp/\Binds K fd ps ds/\Vals dvs ds/\PySem.W.keepIn K (.ref f)=true/\mg x=some (.ref f)
section
variable{P:c_}{w:de}{K:PySem.W.Frag}{mg:Str->Option Value}{base:dl}{fld:Addr->Str}{x:Str}{ps N ks:List Str}{st:dy}{k n:Nat}{f:FX}{fl:List Fl}{dvs:List V}{sp:Sp}
end
end XC
namespace XC
open L2 My D3
section
variable{X:Cx}{a C I0 dx D:Addr}{cn f ic n:Str}{oa od:Obj}{i:Nat}{cond a1 b1:Expr}{rest:List Expr}{p p1 p2 pos np hpos rpos:Pos}
end
end XC
namespace XC
open L2 My D3
section
variable{X:Cx}{fl:List Fl}{fld:Addr->Str}{n i:Nat}{x ic en:Str}{ps cs:List Str}{F:List D->Option Or}{dvs:List V}{dd:List D}{e cond:Expr}{es:List Expr}{fa:FA}{p pos pos2 np rpos hpos tpos:Pos}
end
end XC
namespace XC
open L2 My D3
def Q8(es:Array DictEntry):Bool:=es.toList.all λe=>match e.key with | .str _ _=>true|_=>false
theorem Q9{es:Array DictEntry}(h:Q8 es=true):StrKeys es:=λe Z=>by
 have:=eY.mp h e (oM.mpr Z)
 cases q:e.key with
 |str n t=>exact⟨n,t,rfl⟩
 |_=>rw[q]at this;cases this
theorem Uc{K:PySem.W.Frag}{N:Addr}{c:Value}{d:Option Addr}{es:Array DictEntry}{n:Nat}{sl:Array (Option Value)}(l:K.lookup N=some ⟨c,d,.dict es n,sl⟩)(ok:Q8 es=true)(h:dl)(X:K.In h):h.Ns N (nsFind es):=
 ⟨_,es,n,X _ _ l,rfl,Q9 ok,λ_=>rfl⟩
theorem pO{K:PySem.W.Frag}{N:Addr}{c:Value}{d:Option Addr}{es:Array DictEntry}{n:Nat}{sl:Array (Option Value)}{x:Str}{r:Option Value}(l:K.lookup N=some ⟨c,d,.dict es n,sl⟩)(e:PySem.W.nsIn K N x=some r):nsFind es x=r:=by
 unfold PySem.W.nsIn at e;rw[l]at e;dsimp only at e;unfold nsFind findBy;rw[<-qe];split at e
 ·next en Z=>
  cases e;rw[Z];rfl
 ·next Z=>
  rw[Z];split at e
  ·cases e
  ·cases e;rfl
theorem VG{K:PySem.W.Frag}{h:dl}{mg:Str->Option Value}{cn f:Str}{C I N NI fI:Addr}(X:K.In h)(G:h.Ns mainGlobals mg)
 {nm q:Str} {bs:List Value} {sn:List Str} {sub:List Value} {ab:Bool} {col:Option Bool} {dd:Option Addr} {k0 k1 k2 k3 k5:Option Value}
 {nm' q':Str} {bs':List Value} {Y:List Str} {O:List Value} {ab':Bool} {U:Option Bool} {dd':Option Addr} {j0 j1 j2 j3 j5:Option Value} {nid:String}
 {c c':Value} {d d':Option Addr} {es J:Array DictEntry} {n n':Nat} {sl Z:Array (Option Value)}
 {name qual:Str} {params:Arguments} {scope:er} {dV kV doc pm cdv ct:Value} {an od:Option Addr} {osl:Array (Option Value)} {p1 p2 p3 p4:Pos}
 (a:PySem.W.nsIn K mainGlobals cn=some (some (.ref C))) (kp:PySem.W.keepIn K (.ref C)=true)
 (lC:K.lookup C=some (excClassObj nm q C N bs (.ref I::bmV) true sn sub ab col dd k0 k1 k2 k3 k5 "ValueError.__new__"))
 (lI:K.lookup I=some (excClassObj nm' q' I NI bs' bmV true Y O ab' U dd' j0 j1 j2 j3 j5 nid))
 (lN:K.lookup N=some ⟨c,d,.dict es n,sl⟩) (oN:Q8 es=true) (lNI:K.lookup NI=some ⟨c',d',.dict J n',Z⟩) (oNI:Q8 J=true)
 (i1:PySem.W.nsIn K N "__init__"=some (some (.ref fI))) (i2:PySem.W.nsIn K NI "__init__"=some none) (s1:PySem.W.nsIn K N "__setattr__"=some none) (s2:PySem.W.nsIn K NI "__setattr__"=some none)
 (n1:PySem.W.nsIn K N f=some none) (n2:PySem.W.nsIn K NI f=some none) (hB:typeLookup (.type "ValueError") f=pure none)
 (lk:K.lookup fI=some ⟨.type "function", od,.func (PySem.W.fnOf name qual params [.Assign [.Attribute (.Name "self" p1) f p2] (.Name f p3) p4] scope dV kV doc pm an cdv ct),osl⟩) (hcd:PySem.W.codeIn K cdv qual=true)
 (S:FnScope ["self", f] ["self", f] scope) (l1:scope.names.lookup ("self":Str)=some NameKind.local) (l2:scope.names.lookup f=some NameKind.local)
 (hb:∀u v,bindArgs (PySem.W.fnOf name qual params [.Assign [.Attribute (.Name "self" p1) f p2] (.Name f p3) p4] scope dV kV doc pm an cdv ct) ⟨[u,v],[]⟩=pure [(("self":Str),u),(f,v)])
 (ne:("self":Str)≠f) (nd:(f==("__debug__":Str))=false) (nc:(f==("__classdict__":Str))=false):Exc K mg cn f C I:=
 ⟨PySem.W.mg_of X G a,kp,hB,N,fI,nsFind es,nsFind J,λh X=>⟨⟨_,_,_,_,_,_,_,_,_,_,_,_,_,X _ _ lC⟩,Uc lN oN h X,⟨_,_,_,_,_,_,_,_,_,_,_,_,_,_,_,X _ _ lI,Uc lNI oNI h X⟩,by rfl⟩,pO lN i1,pO lNI i2,pO lN s1,pO lNI s2,pO lN n1,pO lNI n2,
  ⟨⟨name,qual,params,scope,dV,kV,doc,pm,cdv,ct,an,od,osl,p1,p2,p3,p4,lk,hcd,S,l1,l2,.all λus V=>match us,V with|[u,v],_=>hb u v⟩,ne,nd,nc⟩⟩
end XC
namespace XC
open L2 My D3
structure ExcG(K:PySem.W.Frag)(mg:Str->Option Value)(fld:Addr->Str)(cn f ic:Str):Prop where
 ex:∃C I,Exc K mg cn f C I/\fld C=f/\mg ic=some (.ref I)
theorem ExcG.fly{K:PySem.W.Frag}{mg:Str->Option Value}{fld:Addr->Str}{cn f ic:Str}(h:ExcG K mg fld cn f ic):ExcF K mg fld cn f:=by
 obtain⟨C,I,E,Z,_⟩:=h.ex;exact⟨C,I,E,Z⟩
section
variable{X:Cx}{fld:Addr->Str}{c f ic:Str}{i:Nat}{cond:Expr}
end
end XC
namespace XC
open L2 My
structure FlyN(h:dl)(a C dx:Addr)(f:Str)(u:Value)(T L:Addr):Prop where
 obj:∃vs sl,h.get? a=some ⟨.ref C,some dx,.fields vs,sl⟩/\vs[1]? = some (.ref T)
 dic:h.Ns1 dx (λy=>if y=f then some u else none)
 ne:dx≠a
 hd:T≠a/\T≠dx/\∃oT ts,h.get? T=some oT/\oT.data = .fields ts/\ts[3]? = some (rawInt L)
section
variable{M:eR}{A:dc}{E:Value->c9->Prop}{s:c9}
end
end XC
namespace XC
open L2 My
section
variable{X:Cx}{pins:List (Addr×Obj)}{σ:L2.St}{H H':Hp}{s:c9}
end
section
variable{P:c_}{w:de}{K:PySem.W.Frag}{mg:Str->Option Value}{base:dl}{N:List Str}{qual:Str}{scope:er}{fa:Addr}{cdv:Value}{A:dc}{outer:List Env}{s₀:c9}{H₀:Hp}{E:XK}{fld:Addr->Str}
end
end XC
namespace XC
open L2 My D3
section
variable{X:Cx}{E:XK}{fl:List Fl}{body:List dy}{fx:FX}{pos:Pos}
end
section
variable{P:c_}{w:de}{K:PySem.W.Frag}{mg:Str->Option Value}{base:dl}{N:List Str}{qual:Str}{scope:er}{fa:Addr}{cdv:Value}{A:dc}{outer:List Env}{s₀:c9}{H₀:Hp}{E:XK}{fld:Addr->Str}
variable{fl:List Fl}{cn f:Str}{arg:Expr}{fe:FE}{p pos rpos:Pos}{k:Nat}
end
section
variable{P:c_}{w:de}{K:PySem.W.Frag}{mg:Str->Option Value}{base:dl}{fld:Addr->Str}{x:Str}{ps N ks:List Str}{st:dy}{k n:Nat}{f:FX}{fl:List Fl}{dvs:List V}{sp:Sp}
end
end XC
namespace XC
open L2 My D3
section
variable{P:c_}{w:de}{K:PySem.W.Frag}{mg:Str->Option Value}{base:dl}{N:List Str}{qual:Str}{scope:er}{fa:Addr}{cdv:Value}{A:dc}{outer:List Env}{s₀:c9}{H₀:Hp}{E:XK}{fld:Addr->Str}
variable{fl:List Fl}{n:Nat}{x:Str}{ps:List Str}{F:List D->Option Or}{dvs:List V}{dd:List D}{e:Expr}{es:List Expr}{fs:FA}{p pos pos2:Pos}
end
end XC
namespace XC
open L2 My D3
section
variable{X:Cx}{pins:List (Addr×Obj)}{σ:L2.St}{H:Hp}{s:c9}{fld:Addr->Str}{k:Nat}{f:Addr}{fd:dk}{ps:List Str}{sp:Sp}{dvs:List V}{ds:List Value}{EX:XK}
variable{x y:Str}{p np pos pos2:Pos}{e:Expr}{es:List Expr}{ta:TA}{i:Nat}
end
end XC
namespace XC
open L2 My D3
section
variable{X:Cx}{fl:List Fl}{fld:Addr->Str}{n i j:Nat}{x y ic en:Str}{ps cs:List Str}{F:List D->Option Or}{dvs:List V}{dd:List D}{e:Expr}{es:List Expr}{fa:FA}{p yp pos pos2 np hpos tpos:Pos}{b0:dy}{suite:List dy}{fS:Str->D->DS->Option D}
end
end XC
namespace XC
open L2 My D3
structure RoomQ(k:Nat)(A:dc):Prop where
 dp:A.depth+3*k+5<recursionLimit
 un:A.units+16*k+200<cLine
structure FnOkP(P:c_)(w:de)(K:PySem.W.Frag)(mg:Str->Option Value)(base:dl)(Pre:dc->List Env->c9->Hp->Prop)(k:Nat)(f:Addr)(fd:dk)(ps:List Str)(sp:Sp):Prop where
 len:∀vs H Q E,sp vs H Q E->vs.length=ps.length
 run:∀(A:dc)(outer:List Env)(s:c9)(H:Hp)(args:Args)(us:List Value)(vs:List V)(Q:VK)(E:XK),RoomQ k A->Env0 P w K mg base A outer s H->BindsTo s fd args (ps.zip us)->Vals vs us->Pre A outer s H->sp vs H Q E ->
  codeAny (model P w) A (.call (.ref f) args) (CR CX0 outer P w H s Q E) s
abbrev Yg(P:c_)(w:de)(K:PySem.W.Frag)(mg:Str->Option Value)(base:dl)(k:Nat)(f:Addr)(fd:dk)(ps:List Str)(sp:Sp):Prop:=FnOkP P w K mg base (λ_ _ _ _=>True) k f fd ps sp
section
variable{X:Cx}{pins:List (Addr×Obj)}{σ:L2.St}{H:Hp}{s:c9}{k:Nat}{f:Addr}{fd:dk}{ps:List Str}{sp:Sp}
end
end XC
namespace XC
open L2 My D3
structure HasQ(P:c_)(w:de)(K:PySem.W.Frag)(mg:Str->Option Value)(base:dl)(n:Nat)(x:Str)(ps:List Str)(sp:Sp):Prop where
 ex:∃(f:Addr)(fd:dk),Yg P w K mg base n f fd ps sp/\Binds K fd ps []/\PySem.W.keepIn K (.ref f)=true/\mg x=some (.ref f)
section
variable{P:c_}{w:de}{K:PySem.W.Frag}{mg:Str->Option Value}{base:dl}{x:Str}{ps N:List Str}{st:dy}{k n:Nat}{fs:FS}{fl:List Fl}
end
section
variable{X:Cx}{fl:List Fl}{e:Expr}{es:List Expr}{t:TA}{fa:FA}{pos p:Pos}{x:Str}{n:Nat}{ps:List Str}{sp:Sp}{F:List D->Option D}
end
end XC
namespace XC
open L2 My D3
structure ExA(K:PySem.W.Frag)(C:Addr):Prop where
 ga:PySem.W.findIn K (.ref C) "__getattribute__"=some (some (.builtin "BaseException.__getattribute__"))
 gh:PySem.W.findIn K (.ref C) "__getattr__"=some none
 hb:PySem.W.mroIn K C (.type "BaseException")=some true
section
variable{prog:c_}{w:de}{A:dc}{E:Value->c9->Prop}{s:c9}{K:PySem.W.Frag}{x C:Addr}{ox:Obj}{od:Option Obj}{name:Str}{v:Value}
theorem Jq{M:eR}{q:Value}{Q:Unit->c9->Prop}(N:ExA K C)(X:K.In s.heap)(I:PySem.W.InstAt s.heap x ox C od)(J:Q () s):wpAny M A (checkBuiltinCall "BaseException.__getattribute__" ⟨[.ref x,q],[]⟩) Q E s:=by
 have Y:builtinKind "BaseException.__getattribute__"=some .slot:=by decide +kernel
 have Z:splitId "BaseException.__getattribute__"=some ("BaseException", "__getattribute__"):=by decide +kernel
 obtain⟨T,g,d,t,os⟩:=s;have U:=I.type (M:=M);have V:=PySem.W.looks_mroIn (M:=M) X N.hb;simp only[checkBuiltinCall,Y,Z];refine aa ?_
 repeat(first|(with_reducible refine U.at ?_)|(with_reducible refine V.at ?_)|wp_step)
 exact J
theorem Q_{tk:Tok}{Q:Fin->c9->Prop}(X:K.In s.heap)(I:PySem.W.InstAt s.heap x ox C od)(J:PySem.W.findObj K C od name=some (.value v))(q:Q (.done (.ret v)) s):
 wpAny (model prog w) A (eF.«object.__getattribute__» ⟨[.ref x,.str name tk],[]⟩) Q E s:=by
 obtain⟨V,g,d,t,os⟩:=s;have Y:=I.type (M:=model prog w);have Z:=PySem.W.looks_find (M:=model prog w) X I J;unfold eF.«object.__getattribute__»;refine aa ?_;refine ag ?_;refine aa (ag (aa (Y.at (aa (Z.at ?_)))));exact ag q
theorem VH{q:Value}{fill expr:Bool}{Q:Value->c9->Prop}(N:ExA K C)(X:K.In s.heap)(I:PySem.W.InstAt s.heap x ox C od)(O:PySem.W.handedIn v=true)
 (U:∀{A:dc}{E:Value->c9->Prop}{Q:Fin->c9->Prop},Q (.done (.ret v)) s->wpAny (model prog w) A (eF.«object.__getattribute__» ⟨[.ref x,q],[]⟩) Q E s) (J:Q v s) :
 wpAny (model prog w) A (getAttrBy (.ref x) q fill expr) Q E s:=by
 obtain⟨V,g,d,t,os⟩:=s;have S:=I.type (M:=model prog w);have T:=PySem.W.looks_findIn (M:=model prog w) X N.ga;have L2:=PySem.W.looks_findIn (M:=model prog w) X N.gh;have R:=PySem.F.attr_ValueError.ga.bind (.ref x);have Y:(expr&&onTheHeap (eT "BaseException.__getattribute__"))=false:=by cases expr<;>rfl
 have Z:(eT "BaseException.__getattribute__"==eT "object.__getattribute__")=false:=by decide +kernel
 repeat(any_goals(first|assumption|(with_reducible refine S.at ?_)|(with_reducible refine T.at ?_)|(with_reducible refine L2.at ?_)|wp_step))
 refine codeAny_call_builtin PySem.F.attr_ValueError.ga.plain PySem.F.entry_bexc_ga (Jq (s:=⟨V,g,d,t,os⟩) N X I (U ?_))
 repeat(any_goals(first|assumption|(with_reducible exact PySem.W.handed_on O J)|wp_step))
theorem Ma{expr:Bool}{Q:Value->c9->Prop}(N:ExA K C)(X:K.In s.heap)(I:PySem.W.InstAt s.heap x ox C od)(O:PySem.W.findObj K C od name=some (.value v))(J:PySem.W.handedIn v=true)(q:Q v {s with toks:=s.toks+1}):
 wpAny (model prog w) A (getAttr (.ref x) name expr) Q E s:=by
 obtain⟨Z,g,d,t,os⟩:=s;refine aa (wpAny_mkText ?_);exact VH (s:=⟨Z,g,d,t+1,os⟩) N X I J (λz=>Q_ (s:=⟨Z,g,d,t+1,os⟩) X I O z) q
end
end XC
namespace XC
open L2 My D3
structure AttE(K:PySem.W.Frag)(C:Addr)(f:Str):Prop where
 ea:ExA K C
 hd:PySem.W.hasDictIn K C=true
 no:PySem.W.findIn K (.ref C) f=some none
section
variable{X:Cx}{a C D dx:Addr}{oa od:Obj}{u:Value}{v:V}{f n:Str}{i:Nat}{p1 pos:Pos}
theorem Yh(N:AttE X.K C f)(O:oa.cls = .ref C)(J:oa.dict=some dx)(U:PySem.W.notCls oa=true)(Y:∀h:dl,h.get? dx=some od->h.Ns1 dx (λz=>if z=f then some u else none))(rv:RelV v u)
 (hi:X.N[i]? = some n) (hv:Vis X.env.scope n) (hdn:(n==("__debug__":Str))=false:=by decide) (hcn:(n==("__classdict__":Str))=false:=by decide) (hb:attributeBase (.Name n p1) f X.env (eval (.Name n p1) X.env)=eval (.Name n p1) X.env:=by rfl) :
 PE (gG X a oa dx od) (.Attribute (.Name n p1) f pos) (λσ H Q=>σ[i]? = some (some (.ref a))/\Q v H):=by
 intro pins s σ H Q I h;refine Gk hb (thn ((i_ (X:=gG X a oa dx od) hi hv hdn hcn) pins s σ H (λx H1=>x = .ref a/\Q v H1) I ⟨_,h.1,rfl,h.2⟩) λw s1 ⟨x,H1,Z,T,ex,q⟩=>?_);subst ex
 cases T;have ha:=(Z.pin (a,oa) (bT _ (aR _ aA))).1;have hd:=(Z.pin (dx,od) (bT _ (aR _ (au _ aA)))).1;obtain⟨S,V,R⟩:=xX (Y _ hd);rw[hd]at V
 cases V;refine Ma (ox:=oa) (od:=some od) N.ea Z.kIn ⟨ha,O,U,?_⟩ (PySem.W.findObj_own N.hd N.no rfl (by rw[R,if_pos rfl])) (xY rv) ⟨v,H1,Z.tok _,rv,q⟩;rwa[J]
end
end XC
namespace XC
open L2 My D3
structure KitE(K:PySem.W.Frag)(C:Addr):Prop where
 ea:ExA K C
 hd:PySem.W.hasDictIn K C=true
 fd:PySem.W.findIn K (.ref C) "__class__"=some (some (.builtin "object.__class__"))
 sp:PySem.W.specialIn K (.builtin "object.__class__") "__get__"=some (some (.builtin "getset_descriptor.__get__"))
 tk:PySem.W.takesIn K (.builtin "object.__class__")=some true
 mr:PySem.W.mroIn K C (.type "object")=some true
section
variable{X:Cx}{a C D dx:Addr}{oa od:Obj}{b:Bool}
end
end XC
namespace XC
open L2 My D3
theorem zF{δ:DS}{i j:Nat}{x:U}(h:(δ.set i none)[j]? = some (some x)):j≠i/\δ[j]? = some (some x):=by
 by_cases e:j=i
 ·subst e;by_cases l:j<δ.length
  ·rw[bU l]at h;cases h
  ·rw[bA (by rw[cg];omega)]at h;cases h
 ·rw[aL (df e)]at h;exact⟨e,h⟩
theorem Rel.forget{K:PySem.W.Frag}{fl:List Fl}{G:Gh}{ow:Ow}{σ:L2.St}{H:Hp}{δ:DS}{i:Nat}{x:Option V}(R:Rel K fl G ow σ H δ)(q:fl[i]? = some .A):Rel K fl G ow (σ.set i x) H (δ.set i none):=by
 have no:∀a,ow i≠some a:=λa z=>by
  obtain⟨_,U,_⟩:=R.own i a z;rw[q]at U;rcases U with⟨z,_⟩|⟨z,_⟩<;>cases z
 refine⟨R.s0,R.s1,by rw[cg,cg];exact R.len,λj a h=>?_,R.inj,R.pin,λj X h1 hn h2=>?_,λj X h1 hn h2 h3=>?_,R.nt,R.nd,R.ns,R.np,λj X hn h1=>?_,λj Y h1 h2=>by rw[aL (λz=>by rw[<-z,q]at h1;cases h1)];exact R.fx j Y h1 h2⟩
 ·have Z:j≠i:=λz=>no a (z▸h)
  obtain⟨S,T,xs,ds,h1,h2,h3,h4⟩:=R.own j a h;exact⟨S,T,xs,ds,by rw[aL (df Z)];exact h1,h2,h3,by rw[aL (df Z)];exact h4⟩
 ·obtain⟨Z,e⟩:=zF h1;obtain⟨Y,h3,h4⟩:=R.dat j X e hn h2;exact⟨Y,by rw[aL (df Z)];exact h3,h4⟩
 ·obtain⟨Z,e⟩:=zF h1;exact R.oo j X e hn h2 h3
 ·obtain⟨Z,e⟩:=zF h1;obtain⟨Y,h3,h4⟩:=R.nr j X hn e;exact⟨Y,by rw[aL (df Z)];exact h3,h4⟩
def tEt(i:Nat)(a:Addr)(b:Bool):TE:=λσ H Q=>σ[i]? = some (some (.ref a))/\∀H',Same H H'->Q (.bl b) H'
section
variable{X S:Cx}{a C I0 D dx:Addr}{oa od:Obj}{u:Value}{v:V}{f n cn:Str}{i j:Nat}{p p1 p2 pos:Pos}{cond a1 b1:Expr}{rest es:List Expr}{b:Bool}{k:Nat}
end
end XC
namespace XC
open L2 My D3
structure SuiG(K:PySem.W.Frag)(mg:Str->Option Value)(fld:Addr->Str)(cn f ic n1 n2 n3:Str):Prop where
 ex:∃C I D1 D2 D3,Exc K mg cn f C I/\fld C=f/\mg ic=some (.ref I)/\KitE K C/\AttE K C f/\mg n1=some (.ref D1)/\mg n2=some (.ref D2)/\mg n3=some (.ref D3)/\PySem.W.kitAny K (.ref C) [.ref D1,.ref D2,.ref D3]=some false
theorem Room.q{k:Nat}{A:dc}{o:Option Value}(r:Room k A):RoomQ k (A.mark o):=⟨r.dp,r.un⟩
section
variable{X:Cx}{fl:List Fl}{fld:Addr->Str}{c f ic n1 n2 n3 n y g s0 s1:Str}{gp:List Str}{i j k:Nat}{W:List D->Option D}{rowE:Expr}{fr:FE}
variable{yp ap spos a1 a2 a3 a4 a5 a6 a7 a8 a9 b1 b2 b3 b4 b5 b6 b7 q0 q1 q2 q3 q4 q5 q6 q7 q8 q9 q10 q11 q12 q13 q14 rpos:Pos}{x1 j0 j1:Nat}
end
end XC
namespace XC
open L2 My D3
section
variable{X:Cx}{fl:List Fl}{fld:Addr->Str}{n i j:Nat}{x y ic en:Str}{ps cs:List Str}{F:List D->Option Or}{dvs:List V}{dd:List D}{e c:Expr}{es:List Expr}{fa:FA}{ft:FT}{f f1 f2:FX}{p yp pos pos2 np hpos tpos:Pos}{b0 st s1 s2:dy}{suite:List dy}{fS:Str->D->DS->Option D}
end
section
variable{P:c_}{w:de}{K:PySem.W.Frag}{mg:Str->Option Value}{base:dl}{fld:Addr->Str}{x:Str}{ps N ks:List Str}{st:dy}{k n:Nat}{f:FX}{fl:List Fl}{dvs:List V}
end
end XC
namespace XC
open L2 My D3
structure SuiH(K:PySem.W.Frag)(mg:Str->Option Value)(fld:Addr->Str)(cn f ic n1 n2:Str):Prop where
 ex:∃C I D1 D2,Exc K mg cn f C I/\fld C=f/\mg ic=some (.ref I)/\KitE K C/\AttE K C f/\mg n1=some (.ref D1)/\mg n2=some (.ref D2)/\PySem.W.kitAny K (.ref C) [.ref D1,.ref D2]=some false/\PySem.W.kitOne K (.ref C) (.ref I)=some true
structure SuiA(K:PySem.W.Frag)(mg:Str->Option Value)(fld:Addr->Str)(cn f ic:Str):Prop where
 ex:∃C I,Exc K mg cn f C I/\fld C=f/\mg ic=some (.ref I)/\AttE K C f
theorem Ra{K:PySem.W.Frag}{mg:Str->Option Value}{fld:Addr->Str}{cn f ic:Str}{C I:Addr}(E:Exc K mg cn f C I)(q:fld C=f)(m:mg ic=some (.ref I))(a:AttE K C f):SuiA K mg fld cn f ic:=⟨C,I,E,q,m,a⟩
theorem SuiA.up{K:PySem.W.Frag}{mg:Str->Option Value}{fld:Addr->Str}{cn f ic:Str}(h:SuiA K mg fld cn f ic):ExcG K mg fld cn f ic:=by
 obtain⟨C,I,E,Z,m,_⟩:=h.ex;exact⟨C,I,E,Z,m⟩
section
variable{X:Cx}{a C D dx:Addr}{oa od:Obj}{ic n:Str}{i:Nat}{p p1 p2 pos:Pos}{b:Bool}
end
section
variable{X:Cx}{fl:List Fl}{fld:Addr->Str}{c f ic n1 n2 n g s0 s1:Str}{gp:List Str}{i k:Nat}{W:List D->Option D}
variable{ap spos a1 a2 a3 a4 a5 b1 b2 b3 b4 b6 b7 q0 q1 q2 q3 q4 q5 q6 q7 q8 q9 q10 q11 rpos rp2:Pos}{x1 x2 x3 j0 j1 j2:Nat}
end
end XC
namespace XC
open L2 My D3
section
variable{P:c_}{w:de}{K:PySem.W.Frag}{mg:Str->Option Value}{base:dl}{N:List Str}{qual:Str}{scope:er}{fa:Addr}{cdv:Value}{A:dc}{outer:List Env}{s₀:c9}{H₀:Hp}{E:XK}{fld:Addr->Str}
variable{fl:List Fl}{n:Nat}{x:Str}{ps:List Str}{F:List D->Option Or}{dvs:List V}{dd:List D}{e:Expr}{es:List Expr}{fs:FA}{p pos pos2:Pos}
end
end XC
namespace XC
open L2 My D3
structure At(K:PySem.W.Frag)(i:Nat)(a:Addr)(v:V)(d:D)(σ:L2.St)(H:Hp):Prop where
 sl:σ[i]? = some (some (.ref a))
 ra:RA K ok0 false H v d
 fl:flat d=true
section
variable{K:PySem.W.Frag}{fl:List Fl}{i:Nat}{a:Addr}{v:V}{d:D}{σ:L2.St}{H H':Hp}
theorem At.grow(h:At K i a v d σ H)(s:Same H H'):At K i a v d σ H':=⟨h.sl,h.ra.same s,h.fl⟩
theorem At.set{j:Nat}{x:Option V}(h:At K i a v d σ H)(n:i≠j):At K i a v d (σ.set j x) H:=⟨by rw[aL (df n)];exact h.sl,h.ra,h.fl⟩
end
noncomputable def tU(K:PySem.W.Frag)(fl:List Fl)(i:Nat)(a:Addr)(v:V)(d:D)(k:Kd)(f:FE):TE:=λσ H Q=>∃G ow δ x,Rel K fl G ow σ H δ/\At K i a v d σ H/\f δ=some x/\∀y H',Same H H'->Rs K G.H0 ow H H' k y x->Q y H'
def ac8(K:PySem.W.Frag)(fl:List Fl)(i:Nat)(a:Addr)(v:V)(d:D)(G:Gh)(q:Ends):Oc->Prop
 | .nx δ'=>∀Z σ' H',Rel K fl G Z σ' H' δ'->At K i a v d σ' H'->q.nx σ' H'
 | .rt r=>∀y H',Same G.H0 H'->RA K (okN G.H0) false H' y r->q.rt y H'
 |_=>False
noncomputable def tUS(K:PySem.W.Frag)(fl:List Fl)(i:Nat)(a:Addr)(v:V)(d:D)(f:FS):TS:=λZ σ H=>∃G ow δ o,Rel K fl G ow σ H δ/\At K i a v d σ H/\f δ=some o/\ac8 K fl i a v d G Z o
structure Sc where
 i:Nat
 a:Addr
 v:V
 d:D
abbrev UE(X:Cx)(fl:List Fl)(z:Sc)(k:Kd)(e:Expr)(f:FE):Prop:=PE X e (tU X.K fl z.i z.a z.v z.d k f)
abbrev US(X:Cx)(fl:List Fl)(z:Sc)(s:dy)(f:FS):Prop:=PS X s (tUS X.K fl z.i z.a z.v z.d f)
abbrev USs(X:Cx)(fl:List Fl)(z:Sc)(s:List dy)(f:FS):Prop:=PSs X s (tUS X.K fl z.i z.a z.v z.d f)
section
variable{X:Cx}{fl:List Fl}{z:Sc}{e a b c:Expr}{es rest:List Expr}{st:dy}{sts body orelse:List dy}{k:Kd}{f fa fb:FE}{fs gs:FS}{ft gt:FT}{fr:FA}{pos:Pos}
theorem GR{J:Kd}(h:UE X fl z k e f)(O:∀(Hb H:Hp) (G:Gh) (ow:Ow) (σ:L2.St) (δ:DS) (v:V) (d:D),Rel X.K fl G ow σ Hb δ->Rs X.K G.H0 ow Hb H k v d->Rs X.K G.H0 ow Hb H J v d):UE X fl z J e f:=PE.imp h λσ H Q h=>by
 obtain⟨G,ow,δ,x,R,A,Z,q⟩:=h;exact⟨G,ow,δ,x,R,A,Z,λv H' s r=>q v H' s (O _ _ G ow σ δ v x R r)⟩
theorem VJ(h:UE X fl z .FC e f):UE X fl z .C e f:=GR h λ_ _ _ _ _ _ _ _ R r=>r.FC_C
theorem Yi(h:UE X fl z .C e f):UE X fl z .A e f:=GR h λ_ _ _ _ _ _ _ _ R r=>r.C_A R
theorem VL(h:UE X fl z .FC e f):UE X fl z .A e f:=Yi (VJ h)
theorem Rc(h1:US X fl z st fs):USs X fl z [st] fs:=PSs.imp (uV h1) λ_ _ _ h=>h
theorem Rf{j:Nat}{x:Str}{pos':Pos}(J:z.i≠j)(U:fl[j]? = some .A)(hN:X.N.Nodup)(hi:X.N[j]? = some x)(hv:X.env.scope.names.lookup x=some .local\/X.env.scope.names.lookup x=some .cell)(h:UE X fl z .A e f)
 (hs:swapsWith e (some (.Name x pos')) pos.line X.env=pure false:=by rfl) (O:X.fn x=true\/X.env.scope.names.lookup x=some .local:=by first|exact .inl rfl|exact .inr rfl) :
 US X fl z (.Assign [.Name x pos'] e pos) (cG j f):=PS.imp (yN (i:=j) hN hi hv h hs O) λT σ H h=>by
 obtain⟨G,ow,δ,o,R,A,Z,q⟩:=h;unfold cG at Z;by_cases Y:j<δ.length
 ·rw[if_pos Y]at Z;refine D3.ex1 (bind1 Z) λd V W=>?_
  cases W;exact⟨G,ow,δ,d,R,A,V,λv H' s r=>q ow _ H' ((R.grow s).setA U (su R Y) r) ((A.grow s).set J)⟩
 ·rw[if_neg Y]at Z
  cases Z
end
end XC
namespace D3
end D3
namespace XC
open L2 My D3
section
variable{X:Cx}{pins:List (Addr×Obj)}{σ:L2.St}{H:Hp}{s:c9}{a C I0 dx T D:Addr}{cn f ic n:Str}{u:Value}{i:Nat}{b0:dy}{suite:List dy}{np hpos:Pos}
theorem Ez{M:eR}{A:dc}{E:Value->c9->Prop}{Q:Unit->c9->Prop}(I:Inv X pins σ H s)(hi:X.N[i]? = some n)(hN:X.N.Nodup)(hl:X.env.scope.names.lookup n=some .local)
 (h:∀s',Inv X pins (σ.set i none) H s'->Q () s'):wpAny M A (do bindName X.env n .none;unbindBehindTheSuite X.env n hpos) Q E s:=by
 obtain⟨m,hn,hm⟩:=id I.loc;have cls:(X.env.scope.kind == .class||(X.env.scope.kind == .module&&X.env.locals != X.env.globals))=false:=by rw[I.ok.kind];rfl
 refine wpAny_nameGoes_keeps hl hn cls λh' C S W=>h _ ?_
 have Y:∀b o,X.s₀.heap.get? b=some o->b≠X.env.locals:=λb o e z=>by
  rw[z]at e;exact absurd (af e) (cV.mpr I.ok.above)
 refine⟨I.ok,I.os,I.bare,⟨λb o e Z V T=>(W.2 b (Y b o e)).trans (I.base.keep b o e Z V T),λb o e Z V T=>?_,I.base.free,λb o e Z=>?_,I.base.tups,I.base.frzs,I.base.tbls⟩,⟨_,S,λj y v P U D=>?_⟩,λy c e=>?_,I.free,I.freeC,λp G=>?_,λb J e=>?_,by rw[cg];exact I.len⟩
 ·obtain⟨sl,w⟩:=I.base.slot b o e Z V T;exact⟨sl,(W.2 b (Y b o e)).trans w⟩
 ·obtain⟨o',w⟩:=I.base.there b o e Z;exact⟨o',(W.2 b (Y b o e)).trans w⟩
 ·have R:j≠i:=λz=>by
   subst z;by_cases l:j<σ.length
   ·rw[bU l]at U;cases U
   ·rw[bA (by rw[cg];omega)]at U;cases U
  rw[aL (df R)]at U;obtain⟨L,K,q⟩:=hm j y v P U D;refine⟨L,K,?_⟩;rcases q with⟨k,e⟩|⟨k,c,e,z⟩
  ·refine .inl ⟨k,?_⟩;have:y≠n:=λe=>R (vD hN P (e▸hi))
   simp[this,e]
  ·exact .inr ⟨k,c,e,z.sameBut W (I.cne y c e)⟩
 ·obtain⟨w,z⟩:=I.cell y c e;exact⟨w,z.sameBut W (I.cne y c e)⟩
 ·obtain⟨e,Z,V,T,O⟩:=I.pin p G;exact⟨(W.2 p.1 V).trans e,Z,V,T,O⟩
 ·refine(I.hok b J e).stay (λc w F q=>(W.2 c λz=>?_).trans q) (λ_ q=>q) λ_ _ q=>q
  rcases F with y|y
  ·rw[<-y,z,I.free]at e;cases e
  ·rw[z,I.free]at y;cases y
theorem Yj{Dn:Ends}{ts:TS}(I:Inv X pins σ H s)(F:Fly s.heap a C dx f u (some T))(La:Loose X pins H a)(Ld:Loose X pins H dx)(LT:Loose X pins H T)(Ex:Exc X.K X.mg cn f C I0)(hD:D=C\/D=I0)(O:X.mg ic=some (.ref D))(hg:Gl X ic)(U:(ic==("__debug__":Str))=false)
 (hi:X.N[i]? = some n) (hN:X.N.Nodup) (J:X.env.scope.names.lookup n=some .local)
 (hs:∀oa od,s.heap.get? a=some oa->s.heap.get? dx=some od->PSs (gG X a oa dx od) (b0::suite) ts/\ts {nx:=λσ' H'=>Dn.nx (σ'.set i none) H',rt:=Dn.rt} (σ.set i (some (.ref a))) H) :
 wpAny (model X.prog X.w) X.A (handleBy (.ref a) X.env [.ExceptHandler (some (.Name ic np)) (some n) (b0::suite) hpos]) (SP X pins Dn) X.xe s:=by
 obtain⟨oa,od,ea,x,M⟩:=Jp I F La Ld;obtain⟨Y,y⟩:=hs oa od ea x;obtain⟨mgC,kp,hB,N,fI,mN,mI,o,_⟩:=Ex;have TT:=o _ I.kIn;obtain⟨vs,sl,P,_⟩:=F.obj;refine wpAny_handleBy_cons (codeAny_handlers_test (rH (X:=gG X a oa dx od) M hg O ?_ U)) (by intro q;cases q);have go:∀{L:Value->c9->Prop}{W:Bool->c9->Prop},W true s->wpAny (model X.prog X.w) (X.A.mark (some (.ref a))) (excMatches (.ref a) (.ref D)) W L s:=λ{L W} q=>by
  obtain⟨Z,g,d,tk,os⟩:=s;rcases hD with rfl|rfl
  ·exact TT.match_self P rfl (by decide) q
  ·exact TT.match_up P rfl (by decide) q
 refine go ?_;refine codeAny_handlers_suite_as ?_;have S:∀p∈(gG X a oa dx od).pn++pins,p.1≠T:=λp Z=>by
  obtain⟨r,t,_⟩:=F.hd T rfl;have Z:=Z;rcases b_.mp Z with Z|Z
  ·rcases b_.mp Z with Z|Z
   ·exact LT.pin p (bT _ Z)
   ·rcases aN.mp Z with rfl|Z
    ·exact df r
    ·rw[bJ.mp Z];exact df t
  ·exact LT.pin p (aR _ Z)
 refine Ey M F LT.out LT.loc LT.new LT.cel S λs1 l _=>?_
 refine vG (X:=gG X a oa dx od) (i:=i) (v:=V.ref a) l hN hi (.inl J) rfl (λs2 m=>?_) (.inr J);refine ar (Y pins s2 _ H _ m y) (λfl k q=>?_) λ_ _ z=>z.elim
 cases fl with
 |ret v=>
  obtain⟨G,σ',H',Q,B,q3⟩:=q;exact name_goes (rQ I.ok Q) J λE R=>⟨G,_,H',R,B,q3⟩
 |next=>
  obtain⟨σ',H',Q,q3⟩:=q;exact Ez (rQ I.ok Q) hi hN J λE R=>⟨_,H',R,q3⟩
 |brk=>
  obtain⟨_,_,_,z⟩:=q;exact z.elim
 |cont=>
  obtain⟨_,_,_,z⟩:=q;exact z.elim
end
def Mf(X:Cx)(fl:List Fl)(fld:Addr->Str)(ic:Str)(i:Nat)(b0:dy)(suite:List dy)(fS:Str->D->FS)(c:Str):Prop:=
 ∃C I0 Z,Exc X.K X.mg c (fld C) C I0/\(Z=C\/Z=I0)/\X.mg ic=some (.ref Z)/\∀(a:Addr)(oa:Obj)(dx:Addr)(od:Obj)(u:Value)(v:V)(d:D),oa.cls = .ref C->oa.dict=some dx->PySem.W.notCls oa=true->(∀h:dl,h.get? dx=some od->h.Ns1 dx (λz=>if z=fld C then some u else none))->RelV v u->flat d=true ->
  USs (gG X a oa dx od) fl ⟨i,a,v,d⟩ (b0::suite) (fS c d)
section
variable{X:Cx}{fl:List Fl}{fld:Addr->Str}{i:Nat}{ic en:Str}{cs:List Str}{f:FX}{np hpos tpos:Pos}{b0 st:dy}{suite:List dy}{fS:Str->D->FS}
end
structure SuiU(K:PySem.W.Frag)(mg:Str->Option Value)(fld:Addr->Str)(cn f ic:Str)(ts:List (Str×Bool)):Prop where
 ex:∃C I,Exc K mg cn f C I/\fld C=f/\mg ic=some (.ref I)/\KitE K C/\AttE K C f/\∀t∈ts,∃D,mg t.1=some (.ref D)/\PySem.W.kitOne K (.ref C) (.ref D)=some t.2
structure SuK(X:Cx)(f:Str)(ts:List (Str×Bool))(i:Nat)(n:Str)(a:Addr)(oa:Obj)(dx:Addr)(od:Obj)(v:V):Prop where
 is:∀(t:Str×Bool),t∈ts->Gl X t.1->(t.1==("__debug__":Str))=false->∀p p1 p2 pos,PE (gG X a oa dx od) (.Call (.Name "isinstance" p) [.Name n p1,.Name t.1 p2] [] pos) (tEt i a t.2)
 isv:X.mg "ValueError"=none->Gl X "ValueError" -> ∀p p1 p2 pos,PE (gG X a oa dx od) (.Call (.Name "isinstance" p) [.Name n p1,.Name "ValueError" p2] [] pos) (tEt i a true)
 att:∀p1 pos,PE (gG X a oa dx od) (.Attribute (.Name n p1) f pos) (λσ H Q=>σ[i]? = some (some (.ref a))/\Q v H)
section
variable{X:Cx}{fl:List Fl}{fld:Addr->Str}{c f ic n g:Str}{ts:List (Str×Bool)}{i k:Nat}{a dx:Addr}{oa od:Obj}{v:V}{d:D}{b0:dy}{suite:List dy}{fS:Str->D->FS}{gp:List Str}{W:List D->Option D}
end
end XC
namespace XS
open PySem.W
section
variable{α β:Type}{n:Nat}{R:α->Prop}{R':β->Prop}{lt:Nat->Nat->Bool}
end
def good(n:Nat)(p:Array Nat):Prop:=p.Perm (bH n).toArray
section
variable{n:Nat}{p:Array Nat}
theorem good.mem(g:good n p){x:Nat}(h:x∈p.toList):x<n:=by
 have:x∈(bH n):=by
  have:=(Array.perm_iff_toList_perm.mp g).mem_iff.mp h;simpa using this
 exact cA.mp this
end
open D3
noncomputable def EY:List D->Option (List (Int×Int))
 |[]=>some []
 | .tuple [.int i,.int j]::r=>(EY r).map ((i,j) :: ·)
 |_=>none
def v7:List D->Option D
 |[.list l]=>(EY l).bind λqs=>if l.length<=1000/\(qs.map (·.1)).Nodup then some (.dict (qs.map λq=>(.int q.1,.int q.2)))else none
 |_=>none
end XS
namespace XS
open PySem.W L2 My D3
section
variable{X:Cx}{pins:List (Addr×Obj)}{σ:L2.St}{H:Hp}{s:c9}
end
section
variable{prog:c_}{w:de}{A:dc}{E:Value->c9->Prop}{s:c9}
end
end XS
namespace XS
open PySem.W L2 My D3
def Yk(K:PySem.W.Frag)(H:Hp)(y:V)(q:Int×Int):Prop:=∃a,y = .ref a/\SqT K H a [.int q.1,.int q.2]
abbrev Prs(K:PySem.W.Frag)(H:Hp):List V->List (Int×Int)->Prop:=Paired (Yk K H)
section
variable{X:Cx}{pins:List (Addr×Obj)}{σ:L2.St}{H:Hp}{s:c9}
theorem Rg(I:Inv X pins σ H s){y:V}{u:Value}{q:Int×Int}(h:Yk X.K H y q)(r:RelV y u):∃a O J,u = .ref a/\IsTup s.heap a #[.int q.1 O,.int q.2 J]:=by
 obtain⟨a,rfl,Y⟩:=h
 cases r;obtain⟨its,Z,p,_⟩:=I.tuple Y
 cases Z with
 |cons r1 Z=>cases Z with
  |cons r2 Z=>
   cases Z;obtain⟨O,rfl⟩:=r1;obtain⟨J,rfl⟩:=r2;exact⟨a,O,J,rfl,p⟩
end
end XS
namespace XS
open PySem.W L2 My D3
section
variable{prog:c_}{w:de}{A:dc}{E:Value->c9->Prop}{s:c9}
end
section
variable{X:Cx}
end
end XS
namespace XS
open PySem.W L2 My D3
section
variable{K:PySem.W.Frag}{H:Hp}
theorem Mg:∀{l:List D}{qs:List (Int×Int)}{ys:List V},EY l=some qs->RAs K ok1 true H ys l->Prs K H ys qs/\l=qs.map λq=>.tuple [.int q.1,.int q.2]
 |[],qs,ys,e,r=>by
  cases e;cases r;exact⟨.nil,rfl⟩
 |d::l,qs,ys,e,r=>by
  cases r with
  |cons r1 r2=>
   unfold EY at e;split at e
   ·next h=>cases h
   ·next i j t h=>
    cases h
    cases Y:EY l with
    |none=>rw[Y]at e;cases e
    |some q2=>
     rw[Y]at e
     cases e;obtain⟨p,W⟩:=Mg Y r2;obtain⟨a,xs,rfl,X,Z⟩:=r1.tupE
     cases Z with
     |cons h1 Z=>cases Z with
      |cons h2 Z=>
       cases Z;obtain rfl:=h1.intE;obtain rfl:=h2.intE;exact⟨.cons ⟨a,rfl,X⟩ p,by rw[aM,<-W]⟩
   ·cases e
end
end XS
namespace XS
open PySem.W
section
variable{prog:c_}{w:de}{A:dc}{E:Value->c9->Prop}{s:c9}
theorem Rh:typeLookup (.type "list") "keys"=pure none:=by rw[bS,bo];kernel_rfl
theorem Jr{a:Addr}{xs:Array Value}{k:Nat}{sl:Array (Option Value)}{Q:Option Value->c9->Prop}(hx:s.heap.get? a=some {cls:=.type "list", dict:=none,data:=.seq xs k,slots:=sl})(q:A.handled=none)
 (h:∀h' tk,(∀b o,s.heap.get? b=some o->h'.get? b=some o)->Q none {s with heap:=h',toks:=tk}):wpAny (model prog w) A (getAttr? (.ref a) "keys") Q E s:=by
 obtain⟨W,g,d,tk,os⟩:=s;have X:∀Z,(⟨W,g,d,Z,os⟩:c9).TypeIs (.ref a) "list" := λ_=>⟨_,hx,rfl⟩
 have f1:=sub_AttributeError;have P:=F.slot_list_getattribute.lookup;have R:=F.slot_list_getattribute.bind (.ref a);have S:=am_list_getattr_none;unfold getAttr? getAttrBy? getAttrBy
 repeat(any_goals(first|assumption|exact X _|((with_reducible show wpAny _ _ (call (eT "list.__getattribute__") _ _) _ _ _);refine call_meets F.slot_list_getattribute (X _) am_entry_list_getattribute (F.args_list_getattribute_2 _ _) (meets_getattribute_miss_list a xs k sl "keys" _ Rh (by decide) (by decide)) ⟨hx,q,λh' Z e Y=>?_⟩)|wp_step))
 obtain⟨U,V,T⟩:=Y.there;unfold getattributeRaised
 repeat(any_goals(first|assumption|wp_step))
 exact h _ _ Y.keeps
theorem yD:entryFor table "dict.update.loop"=some eF.«dict.update.loop»:=entryFor_of_tree (by kernel_rfl)
theorem pP:plainId "dict.update.loop"=true:=by decide +kernel
structure PL(h:dl)(D I l:Addr)(its:Array Value)(vs:List (L2.Key×Value))(i:Nat):Prop where
 iter:h.IsListIter I l i
 lst:h.IsList l its
 prs:∀(j:Nat)(u:Value),its[j]? = some u->∃(a:Addr)(n:Int)(t:Tok)(v:Value),u=db a/\IsTup h a #[ec n t,v]/\vs[j]? = some (dP n,v)/\a≠D/\a≠I
 ne:l≠D/\l≠I/\D≠I
theorem Mh{D I l:Addr}{its:Array Value}{vs:List (L2.Key×Value)}{R:Result->c9->Prop}(hA:A.handled=none)(hn:(vs.map (·.1)).Nodup)(hz:vs.length=its.size)(hs:its.size<=1000):
 ∀(m i:Nat)(tk:Tok)(s:c9),its.size-i=m->i<=its.size->PL s.heap D I l its vs i->s.heap.DictOf (L2.cj prog w) D (vs.take i) ->
  (∀h' tk,(∀b o,b≠D->b≠I->s.heap.get? b=some o->h'.get? b=some o)->h'.DictOf (L2.cj prog w) D vs->R (.ok (.ret .none)) {s with heap:=h',toks:=tk}) ->
  codeAny (model prog w) A (.builtin "dict.update.loop" ⟨[.ref D,.ref I,.int i tk,.none],[]⟩) R s:=by
 intro m
 induction m with
 |zero=>
  intro i tk s hm hi P hd C;have e:i=its.size:=by omega
  subst e;refine aI yD ?_;rw[ay pP _];have:its[its.size]? = none:=by simp
  show wpAny _ A.in1 (pyNext (.ref I) >>= _) _ _ s;refine aa (wpAny_pyNext_list_end (by simpa using hA) P.iter P.lst this λh' hx=>?_);show wpAny _ A.in1 (Builtin.Dict.addKeywords D [] >>= _) _ _ _;refine aa (ag (ag ?_));have L:h'.DictOf (L2.cj prog w) D vs:=by
   have:=hd.extBut hx P.ne.2.2;rwa[<-hz,List.take_length]at this
  exact C h' s.toks (λb o _ z q=>hx b o z q) L
 |succ m ih=>
  intro i tk s hm hi P hd C;have T:i<its.size:=by omega
  obtain⟨u,y⟩:∃u,its[i]? = some u:=⟨its[i],by simp[T]⟩;obtain⟨a,n,t,v,rfl,hp,B,na,f⟩:=P.prs i u y;refine aI yD ?_;rw[ay pP _];show wpAny _ A.in1 (pyNext (.ref I) >>= _) _ _ s;refine aa (wpAny_pyNext_list_item P.iter P.lst y λh1 M V=>?_);have k1:∀b,b≠I->h1.get? b=s.heap.get? b:=λb z=>V.2 b z
  have H:IsTup h1 a #[.int n t,v]:=by
   obtain⟨o,e,c⟩:=hp;exact⟨o,(k1 a f).trans e,c⟩
  have E:h1.DictOf (L2.cj prog w) D (vs.take i):=hd.sameBut V P.ne.2.2;show wpAny _ A.in1 (holding [db a] _ >>= _) _ _ _;refine aa (az ?_);have J:(vs.take i).length<=sizeLine:=by
   rw[iQ];exact aZ (Nat.min_le_left _ _) (aZ (dB T) (aZ hs (by decide)))
  have U:stored (vs.take i) (dP n) v=vs.take (i+1):=by
   have S:i<vs.length:=by omega
   have K:vs[i]=(dP n,v):=by
    have:=aF S;rw[B]at this;exact(cL.inj this).symm
   have no:¬((vs.take i).any λN=>decide (N.1=dP n))=true:=by
    intro z;obtain⟨N,hk,e⟩:=mO.mp z;have e:=of_decide_eq_true e;obtain⟨j,F,Q⟩:=oO.mp hk;have G:j<i:=by
     have:j<(vs.take i).length:=F;rw[iQ]at this;omega
    have e3:vs[j]=N:=by
     rw[<-Q,List.getElem_take]
    have:=List.pairwise_iff_getElem.mp hn j i (by rw[ak];omega) (by rw[ak];exact S) G;apply this;rw[List.getElem_map,List.getElem_map,e3,K,e]
   unfold stored;rw[if_neg no,rE,B];rfl
  obtain⟨g,Q,c2,n2,d2⟩:=id H;have hT:Shared.TypeIs {s with heap:=h1} (.ref a) "tuple" := ⟨g,Q,c2⟩;refine aa (bn ?_);unfold Builtin.Dict.pairItems;refine aa (cu hT ?_);rw[if_pos (by decide)];refine aa (ba Q d2 (ag ?_));show wpAny _ _ (holding [ec n t,v] (dictSet D (.int n t) v)) _ _ _;refine az (wpAny_dictSet_pairs (knd:=L2.cj prog w) (k:=dP n) (hsz:=J) (by show Value.isInt n (.int n t)=true;simp[Value.isInt]) E λh2 dd W=>?_);rw[U]at dd;refine ag ⟨a_ pP _,?_⟩;have k2:∀b o,b≠D->b≠I->s.heap.get? b=some o->h2.get? b=some o:=λb o Y Z q=>(W.2 b Y).trans ((k1 b Z).trans q)
  have X:∀b x,b≠D->b≠I->IsTup s.heap b x->IsTup h2 b x:=λb x Y Z ⟨o,e,c⟩=>⟨o,k2 b o Y Z e,c⟩
  refine ih (i+1) 0 _ (by omega) (by omega) ⟨?_,?_,λj u F=>?_,P.ne⟩ dd λh3 O k3 d3=>?_
  ·obtain⟨o,e,c⟩:=M;exact⟨o,(W.2 I (df P.ne.2.2)).trans e,c⟩
  ·obtain⟨o,e,c⟩:=P.lst;exact⟨o,k2 l o P.ne.1 P.ne.2.1 e,c⟩
  ·obtain⟨r,d,h,p,rfl,q1,q2,q3,q4⟩:=P.prs j u F;exact⟨r,d,h,p,rfl,X r _ q3 q4 q1,q2,q3,q4⟩
  ·exact C h3 O (λb o Y Z q=>k3 b o Y Z (k2 b o Y Z q)) d3
end
end XS
namespace XS
open PySem.W
section
variable{prog:c_}{w:de}{A:dc}{E:Value->c9->Prop}{s:c9}
theorem zG{l:Addr}{its:Array Value}{n:Nat}{sl:Array (Option Value)}{vs:List (L2.Key×Value)}{Q:Value->c9->Prop}(hA:A.handled=none)(J:s.heap.get? l=some {cls:=.type "list", dict:=none,data:=.seq its n,slots:=sl})
 (hp:∀(j:Nat)(u:Value),its[j]? = some u->∃(a:Addr)(n:Int)(t:Tok)(v:Value),u=db a/\IsTup s.heap a #[ec n t,v]/\vs[j]? = some (dP n,v)) (hn:(vs.map (·.1)).Nodup) (hz:vs.length=its.size) (hs:its.size<=1000)
 (h:∀h' tk,h'.DictOf (L2.cj prog w) s.heap.objs.size vs->(∀b o,s.heap.get? b=some o->h'.get? b=some o)->Q (.ref s.heap.objs.size) {s with heap:=h',toks:=tk}) :
 wpAny (model prog w) A (PySem.call (.type "dict") [.ref l]) Q E s:=by
 refine callType_codes (Q₁:=λobj Y=>obj = .ref s.heap.objs.size/\Y={s with heap:=s.heap.push {cls:=.type "dict", data:=.dict #[]} }) F.kt_called_dict (F.kt_typeCall_dict_1 _) F.entry_dict_init (kt_code_dict_new _ ⟨rfl,rfl⟩) ?_;rintro obj Y ⟨rfl,rfl⟩;obtain⟨g,P⟩:∃g,g=s.heap.push {cls:=.type "dict", data:=.dict #[]}:=⟨_,rfl⟩;rw[<-P];have W:g.DictOf (L2.cj prog w) s.heap.objs.size []:=by rw[P];exact Heap.DictOf.new s.heap
 have S:∀b o,s.heap.get? b=some o->g.get? b=some o:=λb o q=>by rw[P];exact ae _ q
 have T:=S _ _ J;have K:Shared.TypeIs {s with heap:=g} (.ref l) "list" := ⟨_,T,rfl⟩;refine⟨W.typeIs,F.args_dict_init_2 _ _,?_⟩;unfold eF.«dict.__init__»;refine aa ?_;unfold Builtin.Dict.selfAndRest;refine aa (wpAny_notOrdered_dict W.typeIs ?_);show wpAny _ _ (pure (s.heap.objs.size,[db l])) _ _ _;refine ag ?_;show wpAny _ _ (ff "dict.__init__" s.heap.objs.size (.ref l) [] .none) _ _ _;unfold ff;refine aa (cu K ?_);rw[if_pos (by decide)];have R:A.in1.in1.handled=none:=by simpa using hA
 refine aa (Jr (s:={s with heap:=g}) T R λh1 X k1=>?_);rw[if_pos (by rfl)];refine aa (wpAny_rule ?_);have l1:h1.get? l=_:=k1 _ _ T;have il:h1.IsList l its:=⟨_,l1,rfl,n,rfl⟩;refine aa (ci (s:={s with heap:=h1,toks:=X}) il ?_);refine ag ⟨a_ pP _,?_⟩;obtain⟨g2,Z⟩:∃g2,g2=h1.push {cls:=.type "list_iterator", data:=.fields #[.ref l,.int 0 0]}:=⟨_,rfl⟩;have k2:∀b o,s.heap.get? b=some o->g2.get? b=some o:=λb o q=>by rw[Z];exact ae _ (k1 _ _ (S _ _ q))
 have old:∀b o,s.heap.get? b=some o->b≠s.heap.objs.size/\b≠h1.objs.size:=λb o q=>by
  have lt:=af q;have U:=af (k1 _ _ (S _ _ q));exact⟨bB lt,bB U⟩
 have O:s.heap.objs.size≠h1.objs.size:=by
  obtain⟨o,_,_,e,_⟩:=W;exact bB (af (k1 _ _ e))
 have dd:g2.DictOf (L2.cj prog w) s.heap.objs.size (vs.take 0):=by
  obtain⟨o,es,I,e,r⟩:=W;exact⟨o,es,I,by rw[Z];exact ae _ (k1 _ _ e),r⟩
 have M:=old _ _ J;show codeAny (model prog w) A.in1 (Code.builtin "dict.update.loop" ⟨[db s.heap.objs.size,db h1.objs.size,ec ((0:Nat):Int) 0,dm],[]⟩) _ {s with heap:=h1.push {cls:=.type "list_iterator", data:=.fields #[.ref l,.int 0 0]},toks:=X};rw[<-Z];refine Mh (s:={s with heap:=g2,toks:=X}) (A:=A.in1) (by simpa using hA) hn hz hs its.size 0 0 rfl (fL _) ⟨⟨_,by rw[Z];exact ah _ rfl,rfl,rfl⟩,⟨_,k2 _ _ J,rfl,n,rfl⟩,λj u L=>?_,⟨M.1,M.2,O⟩⟩ dd λh3 V k3 H=>?_
 ·obtain⟨a,m,t,v,rfl,⟨o,e,c⟩,q⟩:=hp j u L;have N:=old _ _ e;exact⟨a,m,t,v,rfl,⟨o,k2 _ _ e,c⟩,q,N.1,N.2⟩
 ·exact⟨rfl,h h3 V H λb o q=>k3 b o (old b o q).1 (old b o q).2 (k2 b o q)⟩
end
end XS
namespace XS
open PySem.W L2 My D3
theorem GX{K:PySem.W.Frag}{H:Hp}:∀{ys:List V}{qs:List (Int×Int)},Prs K H ys qs->ys.length=qs.length
 |_,_,.nil=>rfl
 |_,_,.cons _ r=>by simp[GX r]
section
variable{X:Cx}{pins:List (Addr×Obj)}{σ:L2.St}{H:Hp}{s:c9}
theorem Bx(I:L2.Inv X pins σ H s):∀{ys:List V}{us:List Value}{qs:List (Int×Int)},Prs X.K H ys qs->Vals ys us->∃vs:List (L2.Key×Value),vs.length=us.length/\(vs.map (·.1))=qs.map (λq=>dP q.1)/\KV (qs.map λq=>(dP q.1,V.int q.2)) vs /\
 ∀(j:Nat)(u:Value),us[j]? = some u->∃(a:Addr)(n:Int)(t:Tok)(v:Value),u=db a/\IsTup s.heap a #[ec n t,v]/\vs[j]? = some (dP n,v)
 |_,_,_,.nil,.nil=>⟨[],rfl,rfl,.nil,λj u h=>by simp at h⟩
 |_,_,_,.cons p ps,.cons r rs=>by
  obtain⟨vs,h1,h2,h3,h4⟩:=Bx I ps rs;obtain⟨a,W,Y,rfl,U⟩:=Rg I p r;refine⟨(dP _,.int _ Y)::vs,by simp[h1],by simp[h2],.cons ⟨rfl,⟨Y,rfl⟩⟩ h3,λj u Z=>?_⟩
  cases j with
  |zero=>
   simp at Z;subst Z;exact⟨a,_,W,_,rfl,U,rfl⟩
  |succ j=>exact h4 j u (by simpa using Z)
theorem E_(J:X.A.handled=none):kZ X (.type "dict") (λxs H Q=>∃(p:Addr)(ys:List V)(qs:List (Int×Int)),xs=[.ref p]/\SqL X.K H p ys/\ys.length<=1000/\Prs X.K H ys qs/\(qs.map (·.1)).Nodup/\∀l,H l=none->Q (.ref l) (upd H l (.dK (qs.map λq=>(dP q.1,V.int q.2))))):=by
 intro pins s σ H xs us Q I r h;obtain⟨p,ys,qs,rfl,hx,N,Y,hn,q⟩:=h;obtain⟨u,rfl,P⟩:=vals1 r
 cases P;obtain⟨its,Z,pl,G⟩:=I.list hx;obtain⟨⟨c,d,F,sl⟩,n,e,rfl,rfl,rfl⟩:=pl;obtain⟨vs,R,T,U,W⟩:=Bx I Y Z;have len:its.length=ys.length:=Z.length.symm;have nd:(vs.map (·.1)).Nodup:=by
  rw[T];have:List.Pairwise (· ≠ ·) ((qs.map (·.1)).map (dP:Int->L2.Key)):=List.Pairwise.map (S:=(· ≠ ·)) (dP:Int->L2.Key) (λa b ne e=>ne (Sum.inl.inj e)) hn;rwa[bO]at this
 refine zG (vs:=vs) J e (λj u M=>W j u (by simpa using M)) nd (by simpa using R) (by simp;omega) λh' tk dd k=>?_
 have O:H s.heap.objs.size=none:=I.hok.fresh (aP _);have L:=I.laid (h':=h') (t':=tk) (a:=s.heap.objs.size) (o:=.dK (qs.map λq=>(dP q.1,V.int q.2))) k (aP _)
  ⟨by rw[ak,<-GX Y];exact aZ N (by decide),beq_eq_false_iff_ne.mpr (df (bB (big I))),vs,U,dd⟩
 exact⟨.ref _,_,L,rfl,q _ O⟩
end
theorem GZ:∀qs:List (Int×Int),dk0 (qs.map λq=>(.int q.1,.int q.2))=qs.map λq=>(dP q.1,V.int q.2)
 |[]=>rfl
 |q::qs=>by rw[aM,dk0,GZ qs];rfl
theorem G3:∀qs:List (Int×Int),vR (qs.map λq=>((.int q.1,.int q.2):D×D))=true
 |[]=>rfl
 |_::r=>G3 r
theorem Ri(qs:List (Int×Int)):dh0 (qs.map λq=>(.int q.1,.int q.2)) = .dK (qs.map λq=>(dP q.1,V.int q.2)):=by
 cases qs with
 |nil=>rfl
 |cons q r=>exact congrArg HO.dK (GZ (q::r))
theorem Mi{X:Cx}{fl:List Fl}{e:Expr}{fa:FA}{p pos:Pos}(hA:X.A.handled=none)(ha:DB X fl .P [e] fa)(O:Gl X "dict")(hm:X.mg "dict"=none)
 (he:starEach [e] X.env=(false,eval e X.env)::starEach [] X.env:=by rfl) (J:(backTo pos (starEach [] X.env)).any (·.1)=false:=by rfl):DE X fl .C (.Call (.Name "dict" p) [e] [] pos) (dCall v7 fa):=
 PE.imp (lD (E_ hA) O hm (show bootBuiltins "dict"=some (.type "dict")by decide +kernel) ha (by decide) (by decide) he J) λσ H Q h=>by
 refine D3.ex4 h λG ow δ d R T q=>?_
 refine D3.ex1 (bind1 T) λds S Y=>?_
 refine⟨G,ow,δ,ds,R,S,λvs H' sm V=>?_⟩;unfold v7 at Y;split at Y
 ·next l=>
  refine D3.ex1 (bind1 Y) λqs e4 e5=>?_
  by_cases Z:l.length<=1000/\(qs.map (·.1)).Nodup
  ·rw[if_pos Z]at e5
   cases e5
   cases V with
   |cons r1 r2=>
    cases r2;obtain⟨a,ys,rfl,hx,W⟩:=r1.lstE;obtain⟨U,M⟩:=Mg e4 W;refine⟨a,ys,qs,rfl,hx,by rw[W.length];exact Z.1,U,Z.2,λN hn=>q _ _ (sm.trans (cN hn _)) (.dic bG (.inl ⟨G3 qs,?_⟩) (sm.free hn))⟩;rw[Ri]
  ·rw[if_neg Z]at e5;cases e5
 ·cases Y
end XS
namespace D3
noncomputable def eE(qs:List (Int×Int))(i:Int):Option Int:=(qs.find? λq=>decide (q.1=i)).map (·.2)
def dcD(qs:List (Int×Int)):D:=.dict (qs.map λq=>(.int q.1,.int q.2))
theorem G4:∀qs:List (Int×Int),iiD (qs.map λq=>((.int q.1,.int q.2):D×D))=some qs
 |[]=>rfl
 |q::r=>by
  rw[aM,iiD,G4 r];rfl
def oF:D->Option (List (Int×Int))
 | .dict kvs=>iiD kvs
 |_=>none
theorem o8(qs:List (Int×Int)):oF (dcD qs)=some qs:=G4 qs
def v8:D->D->Option D:=λx y=>(oF x).bind λqs=>match y with
 | .int i=>(eE qs i).map .int
 |_=>none
def sE:D->D->Option D:=λy x=>(oF x).bind λqs=>match y with
 | .int i=>some (.bool (!(eE qs i).isSome))
 |_=>none
def v9:List D->Option D
 |[x]=>(oF x).bind λqs=>if qs.length<64 then some (.list ((jW (qs.map (·.1))).map .int))else none
 |_=>none
def wg(fx fk fz:FE):FE:=λδ=>(fx δ).bind λx=>(fk δ).bind λk=>(fz δ).bind λz=>(oF x).bind λqs=>match k,z with
 | .int i,.int j=>some (.int ((eE qs i).getD j))
 |_,_=>none
def BJ(f:FE):FA:=λδ=>(f δ).bind λx=>(oF x).map λqs=>qs.map λq=>.int q.1
def G5(fa:FA)(fz:FE):FE:=λδ=>(fa δ).bind λl=>(fz δ).bind λz=>match l with
 |[.list m]=>match iz m with
  |some (i::r)=>K1 [.list m]
  |some []=>if flat z=true then some z else none
  |none=>none
 |_=>none
end D3
namespace D3
end D3
namespace D3
def BK:D->D->Option D:=λx y=>match x,y with
 | .list l,.list m=>(iz l).bind λns=>(iz m).bind λZ=>if ns.length<=1000 then some (.list (qt l m))else none
 |_,_=>none
end D3
namespace D3
end D3
namespace L2
section
variable{κ:Type}[DecidableEq κ]
def qy(kvs:List (κ×V))(k:κ):Option V:=(kvs.find? λZ=>decide (Z.1=k)).map (·.2)
noncomputable def putK(kvs:List (κ×V))(k:κ)(v:V):List (κ×V):=
 if(kvs.any λZ=>decide (Z.1=k))=true then kvs.map (λZ=>if Z.1=k then(Z.1,v)else Z)else kvs++[(k,v)]
def o9(kvs:List (κ×V))(k:κ):List (κ×V):=kvs.filter λZ=>decide (Z.1≠k)
theorem o_{p:κ×V}{r:List (κ×V)}{k:κ}(e:p.1=k):qy (p::r) k=some p.2:=by simp[qy,e]
theorem pq{p:κ×V}{r:List (κ×V)}{k:κ}(e:¬p.1=k):qy (p::r) k=qy r k:=by simp[qy,e]
theorem BL(k:κ):∀kvs:List (κ×V),(kvs.any λq=>decide (q.1=k))=(qy kvs k).isSome
 |[]=>rfl
 |p::r=>by
  rw[mz];by_cases e:p.1=k
  ·simp only[o_ e,dTr e,Bool.true_or,jh]
  ·rw[pq e,dFa e,Bool.false_or];exact BL k r
theorem uH(kvs:List (κ×V))(k:κ)(v:V):(putK kvs k v).length<=kvs.length+1:=by
 unfold putK;split
 ·rw[ak];omega
 ·rw[bw,aW,dZ];omega
theorem nP.isSome_eq{o:Option V}{u:Option Value}(r:nP o u):o.isSome=u.isSome:=by
 cases o with
 |none=>cases u with
  |none=>rfl
  |some _=>exact(show False from r).elim
 |some _=>cases u with
  |none=>exact(show False from r).elim
  |some _=>rfl
theorem nP.getD{o:Option V}{u:Option Value}{d:V}{d':Value}(r:nP o u)(rd:RelV d d'):RelV (o.getD d) (u.getD d'):=by
 cases o with
 |none=>cases u with
  |none=>exact rd
  |some _=>exact(show False from r).elim
 |some _=>cases u with
  |none=>exact(show False from r).elim
  |some _=>exact r
theorem KV.val{kvs:List (κ×V)}{vs:List (κ×Value)}(r:KV kvs vs)(k:κ):nP (qy kvs k) (valueAt vs k):=by
 induction r with
 |nil=>exact dE
 | @cons p q ps qs h t Y=>
  obtain⟨h1,h2⟩:=h;by_cases e:p.1=k
  ·have Z:q.1=k:=h1.symm.trans e;have b:valueAt (q::qs) k=some q.2:=by simp[valueAt,Z]
   rwa[o_ e,b]
  ·have Z:¬q.1=k:=λz=>e (h1.trans z)
   have b:valueAt (q::qs) k=valueAt qs k:=by simp[valueAt,Z]
   rwa[pq e,b]
theorem KV.any{kvs:List (κ×V)}{vs:List (κ×Value)}(r:KV kvs vs)(k:κ):(kvs.any λq=>decide (q.1=k))=vs.any λq=>decide (q.1=k):=by
 induction r with
 |nil=>rfl
 |cons h t Z=>rw[mz,mz,Z,h.1]
theorem KV.repl{kvs:List (κ×V)}{vs:List (κ×Value)}(r:KV kvs vs)(k:κ){y:V}{u:Value}(O:RelV y u):
 KV (kvs.map λJ=>if J.1=k then(J.1,y)else J) (vs.map λJ=>if J.1=k then(J.1,u)else J):=by
 unfold KV at r ⊢
 induction r with
 |nil=>exact .nil
 | @cons p q ps qs h t Z=>
  rw[aM,aM];refine .cons ?_ Z;obtain⟨h1,h2⟩:=h;by_cases e:p.1=k
  ·rw[if_pos e,if_pos (h1.symm.trans e)];exact⟨h1,O⟩
  ·rw[if_neg e,if_neg (λz=>e (h1.trans z))];exact⟨h1,h2⟩
theorem KV.put{kvs:List (κ×V)}{vs:List (κ×Value)}(r:KV kvs vs)(k:κ){y:V}{u:Value}(q:RelV y u):KV (putK kvs k y) (stored vs k u):=by
 unfold putK stored;rw[r.any k];by_cases e:(vs.any λZ=>decide (Z.1=k))=true
 ·rw[if_pos e,if_pos e];exact r.repl k q
 ·rw[if_neg e,if_neg e];exact Paired.snoc r ⟨rfl,q⟩
theorem KV.drop{kvs:List (κ×V)}{vs:List (κ×Value)}(r:KV kvs vs)(k:κ):KV (o9 kvs k) (without vs k):=by
 unfold KV at r ⊢;unfold o9 without
 induction r with
 |nil=>exact .nil
 | @cons p q ps qs h t Z=>
  obtain⟨h1,h2⟩:=h;rw[jR,jR];by_cases e:p.1=k
  ·have a:¬decide (p.1≠k)=true:=by simp[e]
   have b:¬decide (q.1≠k)=true:=by simp[h1.symm.trans e]
   rw[if_neg a,if_neg b];exact Z
  ·have Y:¬q.1=k:=λz=>e (h1.trans z)
   have a:decide (p.1≠k)=true:=by simp[e]
   have b:decide (q.1≠k)=true:=by simp[Y]
   rw[if_pos a,if_pos b];exact .cons ⟨h1,h2⟩ Z
theorem KV.keys{kvs:List (κ×V)}{vs:List (κ×Value)}(r:KV kvs vs):kvs.map (·.1)=vs.map (·.1):=by
 induction r with
 |nil=>rfl
 |cons h t Z=>rw[aM,aM,Z,h.1]
theorem KV.length{kvs:List (κ×V)}{vs:List (κ×Value)}(r:KV kvs vs):kvs.length=vs.length:=Paired.length r
theorem Mj(kvs:List (κ×V))(k:κ):(o9 kvs k).length<=kvs.length:=oG _ _
end
theorem wj{P:c_}{w:de}{k:Key}{u:Value}(r:RelV (kV k) u):(cj P w).is k u=true:=by
 cases k with
 |inl i=>obtain⟨t,e⟩:=(show ∃t,u=ec i t from r);subst e;exact Ao P w i t
 |inr x=>obtain⟨t,e⟩:=(show ∃t,u=eC x t from r);subst e;exact Aq P w x t
theorem yE{P:c_}{w:de}:∀{ks:List Key}{us:List Value},Vals (ks.map kV) us->ItemsAre (cj P w) ks us
 |[],_,r=>by rw[cZ]at r;cases r;exact .nil
 |k::ks,_,r=>by
  rw[aM]at r
  cases r with
  |cons h t=>exact .cons (wj h) (yE t)
abbrev KT(H:Hp):List (List Key×V)->List (List Key×Addr×Value)->Prop:=Paired λp q=>p.1=q.1/\H q.2.1=some (.tup (p.1.map kV))/\RelV p.2 q.2.2
theorem KT.val{H:Hp}{kvs:List (List Key×V)}{xs:List (List Key×Addr×Value)}(r:KT H kvs xs)(k:List Key):nP (qy kvs k) ((atKey xs k).map (·.2)):=by
 induction r with
 |nil=>exact dE
 | @cons p q ps qs h t Y=>
  obtain⟨h1,_,h2⟩:=h;by_cases e:p.1=k
  ·have Z:q.1=k:=h1.symm.trans e;have b:atKey (q::qs) k=some q.2:=by simp[atKey,Z]
   rwa[o_ e,b]
  ·have Z:¬q.1=k:=λz=>e (h1.trans z)
   have b:atKey (q::qs) k=atKey qs k:=by simp[atKey,Z]
   rwa[pq e,b]
theorem KT.repl{H:Hp}{kvs:List (List Key×V)}{xs:List (List Key×Addr×Value)}(r:KT H kvs xs)(k:List Key){y:V}{u:Value}(O:RelV y u):
 KT H (kvs.map λJ=>if J.1=k then(J.1,y)else J) (xs.map (putAt k u)):=by
 induction r with
 |nil=>exact .nil
 | @cons p q ps qs h t Z=>
  rw[aM,aM];refine .cons ?_ Z;obtain⟨h1,h2,h3⟩:=h;unfold putAt;by_cases e:p.1=k
  ·rw[if_pos e,if_pos (h1.symm.trans e)];exact⟨h1,h2,O⟩
  ·rw[if_neg e,if_neg (λz=>e (h1.trans z))];exact⟨h1,h2,h3⟩
theorem KT.put{H:Hp}{kvs:List (List Key×V)}{xs:List (List Key×Addr×Value)}(r:KT H kvs xs)(k:List Key){b:Addr}{y:V}{u:Value}(hb:H b=some (.tup (k.map kV)))(J:RelV y u):
 KT H (putK kvs k y) (storedH xs k b u):=by
 have e:(kvs.any λZ=>decide (Z.1=k))=(atKey xs k).isSome:=by
  rw[BL,(r.val k).isSome_eq,fP]
 unfold putK storedH;rw[e];by_cases q:(atKey xs k).isSome=true
 ·rw[if_pos q,if_pos q];exact r.repl k J
 ·rw[if_neg q,if_neg q];exact Paired.snoc r ⟨rfl,hb,J⟩
theorem KT.keeps{H H':Hp}{kvs:List (List Key×V)}{xs:List (List Key×Addr×Value)}(r:KT H kvs xs)(q:∀b ys,H b=some (.tup ys)->H' b=some (.tup ys)):KT H' kvs xs:=
 Paired.mapP r λ_ _ z=>⟨z.1,q _ _ z.2.1,z.2.2⟩
section
variable{P:c_}{w:de}{H:Hp}{h:dl}{a:Addr}
theorem Ud{u:HO}(ok:HOk P w H h)(e:Rd H a u):fJ P w H h a u:=e.ok ok
theorem lZ{kvs:List (Key×V)}(ok:HOk P w H h)(e:Rd H a (.dK kvs)):kvs.length<=sizeLine/\(a==sysModules)=false/\∃vs,KV kvs vs/\h.DictOf (cj P w) a vs:=
 show fJ P w H h a (.dK kvs)from Ud ok e
theorem Ue{kvs:List (Key×V)}(ok:HOk P w H h)(e:H a=some (.dK kvs)):kvs.length<=sizeLine/\(a==sysModules)=false/\∃vs,KV kvs vs/\h.DictOf (cj P w) a vs:=lZ ok (.inl e)
theorem je{ks:List Key}(ok:HOk P w H h)(e:H a=some (.tup (ks.map kV))):(tupleKind (cj P w)).is h ks a:=by
 obtain⟨_,its,r,o,h1,h2,n,h3⟩:=(show fJ P w H h a (.tup (ks.map kV))from ok a _ e);exact⟨o,its.toArray,n,h1,h2,h3,by simpa using yE r⟩
theorem wu{kvs:List (List Key×V)}(ok:HOk P w H h)(e:Rd H a (.dT kvs)):kvs.length<=sizeLine/\(a==sysModules)=false /\
 ∃xs,KT H kvs xs/\h.DictOfH (tupleKind (cj P w)) a xs:=by
 obtain⟨z,y,xs,r,o,es,X,h1,h2,h3,h4,h5⟩:=(show fJ P w H h a (.dT kvs)from Ud ok e);refine⟨z,y,xs,r,o,es,X,h1,h2,h3,h4,λx hx=>?_,h5⟩;have all:∀{l:List (List Key×V)}{m:List (List Key×Addr×Value)},KT H l m->∀x∈m,(tupleKind (cj P w)).is h x.1 x.2.1:=by
  intro l m q
  induction q with
  |nil=>intro x hx;exact nomatch hx
  | @cons p q ps qs Z t Y=>
   intro x hx;rcases aN.mp hx with e|hx
   ·subst e;exact je ok (by rw[<-Z.1];exact Z.2.1)
   ·exact Y x hx
 exact all r x hx
theorem Yl{kvs:List (List Key×V)}(ok:HOk P w H h)(e:H a=some (.dT kvs)):kvs.length<=sizeLine/\(a==sysModules)=false /\
 ∃xs,KT H kvs xs/\h.DictOfH (tupleKind (cj P w)) a xs:=wu ok (.inl e)
end
def t_(H:Hp)(a:Addr)(y:V)(r:Option V):Prop:=
 (∃kvs k,Rd H a (.dK kvs)/\y=kV k/\r=qy kvs k)\/∃kvs k b,Rd H a (.dT kvs)/\y = .ref b/\H b=some (.tup (k.map kV))/\r=qy kvs k
def BP(H:Hp)(a:Addr)(y v:V)(H':Hp):Prop:=
 (∃kvs k,H a=some (.dK kvs)/\y=kV k/\kvs.length<sizeLine/\H'=upd H a (.dK (putK kvs k v))) \/
 ∃kvs k b,H a=some (.dT kvs)/\y = .ref b/\H b=some (.tup (k.map kV))/\kvs.length<sizeLine/\H'=upd H a (.dT (putK kvs k v))
theorem t_.t{H:Hp}{a b:Addr}{kvs:List (List Key×V)}{k:List Key}(e:H a=some (.dT kvs))(q:H b=some (.tup (k.map kV))):t_ H a (.ref b) (qy kvs k):=.inr ⟨kvs,k,b,.inl e,rfl,q,rfl⟩
theorem BP.k{H:Hp}{a:Addr}{kvs:List (Key×V)}{k:Key}{v:V}(e:H a=some (.dK kvs))(q:kvs.length<sizeLine):BP H a (kV k) v (upd H a (.dK (putK kvs k v))):=.inl ⟨kvs,k,e,rfl,q,rfl⟩
theorem BP.t{H:Hp}{a b:Addr}{kvs:List (List Key×V)}{k:List Key}{v:V}(e:H a=some (.dT kvs))(J:H b=some (.tup (k.map kV)))(q:kvs.length<sizeLine):
 BP H a (.ref b) v (upd H a (.dT (putK kvs k v))):=.inr ⟨kvs,k,b,e,rfl,J,q,rfl⟩
section
variable{X:Cx}{pins:List (Addr×Obj)}{σ:St}{H:Hp}{s:c9}{a:Addr}{y v:V}{u r:Value}{o:Option V}{A:dc}{E:Value->c9->Prop}
theorem Js{Q:Value->c9->Prop}(O:A.units+1<cLine)(I:Inv X pins σ H s)(g:t_ H a y (some v))(J:RelV y u)(h:∀q s',Inv X pins σ H s'->RelV v q->Q q s'):
 wpAny (model X.prog X.w) A (getItem (.ref a) u) Q E s:=by
 rcases g with⟨kvs,k,e,W,l⟩|⟨kvs,k,b,e,W,U,l⟩
 ·subst W;obtain⟨z,hd,vs,rel,dd⟩:=lZ I.hok e;obtain⟨q,hw,Z⟩:=nP.some_of (v:=v) (o:=valueAt vs k) (by rw[l];exact rel.val k);exact wpAny_getItem_of (wj J) dd.mapOf hw (h q _ (I.tok _) Z)
 ·subst W
  cases(show u=db b from J);obtain⟨z,hd,xs,rel,dd⟩:=wu I.hok e;obtain⟨q,hw,Z⟩:=nP.some_of (v:=v) (o:=(atKey xs k).map (·.2)) (by rw[l];exact rel.val k);obtain⟨p,V,Y⟩:=nM.mp hw;refine wpAny_getItem_heap (bi O) (je I.hok U) dd V ?_;rw[Y];exact h q _ (I.tok _) Z
theorem ac9{Q:Value->c9->Prop}(O:A.units+1<cLine)(I:Inv X pins σ H s)(g:t_ H a y o)(J:RelV y u)(h:∀s',Inv X pins σ H s'->Q (.bool o.isSome) s'):
 wpAny (model X.prog X.w) A (compareOp .In u (.ref a)) Q E s:=by
 rcases g with⟨kvs,k,e,Z,l⟩|⟨kvs,k,b,e,Z,Y,l⟩
 ·subst Z;obtain⟨z,hd,vs,rel,dd⟩:=lZ I.hok e;refine wpAny_in_of (wj J) hd dd.mapOf ?_;rw[<-(rel.val k).isSome_eq,<-l];exact h _ (I.tok _)
 ·subst Z
  cases(show u=db b from J);obtain⟨z,hd,xs,rel,dd⟩:=wu I.hok e;refine wpAny_in_heap (bi O) (je I.hok Y) hd dd ?_;have q:=(rel.val k).isSome_eq;rw[fP]at q;rw[<-q,<-l];exact h _ (I.tok _)
theorem Rj{Q:Value->c9->Prop}(O:A.units+1<cLine)(I:Inv X pins σ H s)(g:t_ H a y o)(J:RelV y u)(h:∀s',Inv X pins σ H s'->Q (.bool (!o.isSome)) s'):
 wpAny (model X.prog X.w) A (compareOp .NotIn u (.ref a)) Q E s:=by
 rcases g with⟨kvs,k,e,Z,l⟩|⟨kvs,k,b,e,Z,Y,l⟩
 ·subst Z;obtain⟨z,hd,vs,rel,dd⟩:=lZ I.hok e;refine wpAny_notIn_of (wj J) hd dd.mapOf ?_;rw[<-(rel.val k).isSome_eq,<-l];exact h _ (I.tok _)
 ·subst Z
  cases(show u=db b from J);obtain⟨z,hd,xs,rel,dd⟩:=wu I.hok e;refine wpAny_notIn_heap (bi O) (je I.hok Y) hd dd ?_;have q:=(rel.val k).isSome_eq;rw[fP]at q;rw[<-q,<-l];exact h _ (I.tok _)
theorem zH{h':dl}{t':Nat}{J:HO}(I:Inv X pins σ H s)(O:Mut (H a))(U:ew a s.heap h')(Y:∃q,h'.get? a=some q)(new:fJ X.prog X.w (upd H a J) h' a J):
 Inv X pins σ (upd H a J) {s with heap:=h',toks:=t'}:=
 I.write (x:=a) (e:=a) O (.inl rfl) (λb q hb z=>(U.2 b hb).trans z) Y new
theorem Ml{P:c_}{w:de}{H':Hp}{h':dl}{kvs:List (Key×V)}{vs:List (Key×Value)}(z:kvs.length<=sizeLine)(hd:(a==sysModules)=false)(rel:KV kvs vs)(dd:h'.DictOf (cj P w) a vs):
 fJ P w H' h' a (.dK kvs):=⟨z,hd,vs,rel,dd⟩
theorem Jt{H':Hp}{Q:Unit->c9->Prop}(hu:A.units+1<cLine)(I:Inv X pins σ H s)(g:BP H a y v H')(J:RelV y u)(O:RelV v r)(h:∀s',Inv X pins σ H' s'->Q () s'):
 wpAny (model X.prog X.w) A (setItem (.ref a) u r) Q E s:=by
 rcases g with⟨kvs,k,e,T,l,S⟩|⟨kvs,k,b,e,T,R,l,S⟩
 ·subst T S;obtain⟨z,hd,vs,rel,dd⟩:=Ue I.hok e;have W:vs.length<=sizeLine:=by rwa[<-rel.length]
  have U:(putK kvs k v).length<=sizeLine:=by have:=uH kvs k v;omega
  refine wpAny_setItem_pairs (hsz:=W) (wj J) dd λh' Z V=>h _ ?_
  have P:∃q,h'.get? a=some q:=let⟨q,_,_,Y,_⟩:=Z;⟨q,Y⟩;exact zH I (by rw[e];exact dE) V P (Ml U hd (rel.put k O) Z)
 ·subst T S
  cases(show u=db b from J);obtain⟨z,hd,xs,rel,dd⟩:=Yl I.hok e;have W:xs.length<=sizeLine:=by rwa[<-Paired.length rel]
  have U:(putK kvs k v).length<=sizeLine:=by have:=uH kvs k v;omega
  refine wpAny_setItem_heap (hsz:=W) (bi hu) (je I.hok R) dd λh' Z V=>h _ ?_
  obtain⟨q,es,N,Y,h2,h3,h4,_,h5⟩:=Z;refine zH I (by rw[e];exact dE) V ⟨q,Y⟩ ⟨U,hd,_,(rel.put k R O).keeps λc ys M=>?_,q,es,N,Y,h2,h3,h4,h5⟩;rwa[bf (cU M e (λz=>nomatch z))]
end
section
variable{X:Cx}{pins:List (Addr×Obj)}{σ:St}{H:Hp}{s:c9}{a:Addr}{kvs:List (Key×V)}{k:Key}{u:Value}{A:dc}{E:Value->c9->Prop}
theorem Ym{v:V}{more:List Value}{Q:Value->c9->Prop}(I:Inv X pins σ H s)(e:H a=some (.dK kvs))(O:RelV (kV k) u)(l:qy kvs k=some v)(hm:more=[]\/∃x,more=[x])
 (h:∀J s',Inv X pins σ (upd H a (.dK (o9 kvs k))) s'->RelV v J->Q J s'):wpAny (model X.prog X.w) A (call (.builtin "dict.pop") (.ref a::u::more)) Q E s:=by
 obtain⟨z,hd,vs,rel,dd⟩:=Ue I.hok e;obtain⟨J,hw,Y⟩:=nP.some_of (v:=v) (o:=valueAt vs k) (by rw[<-l];exact rel.val k);have T:(keyPart u).isSome=true:=by
  cases k with
  |inl i=>obtain⟨t,q⟩:=(show ∃t,u=ec i t from O);subst q;rfl
  |inr x=>obtain⟨t,q⟩:=(show ∃t,u=eC x t from O);subst q;rfl
 have ha:argsOk "dict.pop" ⟨.ref a::u::more,[]⟩:=by
  rcases hm with q|⟨x,q⟩
  ·subst q;exact PySem.F.args_dict_pop_2 _ _
  ·subst q;exact PySem.F.args_dict_pop_3 _ _ _
 refine b8 PySem.F.slot_dict_pop dd.typeIs PySem.F.entry_dict_pop ha (meets_dict_pop_there (cj X.prog X.w) a (wj O) more hm T)
  ⟨vs,J,dd,by rw[<-rel.length];exact z,hw,λh' Z W=>h J _ ?_ Y⟩
 have S:∃q,h'.get? a=some q:=let⟨q,_,_,U,_⟩:=Z;⟨q,U⟩;exact zH I (by rw[e];exact dE) W S (Ml (aZ (Mj kvs k) z) hd (rel.drop k) Z)
end
def Rk(i:Expr):Prop:=∀Z Y,subscripted i false Z Y=operate [Z,Y] (getItem Z Y)
theorem Rm{prog:c_}{w:de}{A:dc}{E:Value->c9->Prop}{s:c9}{env:Env}{value slice:Expr}{pos:Pos}{T id:String}{Q:Value->c9->Prop}
 (hl:typeLookup (.type T) "__getitem__"=pure (some (.builtin id))) (O:Rk slice)
 (h:wpAny (model prog w) A (eval value env) (λo J=>wpAny (model prog w) A (eval slice env) (λi q=>q.TypeIs o T/\wpAny (model prog w) A (getItem o i) Q E q) E J) E s) :
 wpAny (model prog w) A (eval (.Subscript value slice pos) env) Q E s:=by
 refine Subscript_ (ar h (λo J V=>ar V (λi q Z=>?_) λ_ _ x=>x) λ_ _ x=>x);obtain⟨U,Z⟩:=Z;refine aa ?_;rw[getitemInPython_of_ne U.not_modules];refine aa (cz U hl ?_);have X:wpAny (model prog w) A (subscripted slice false o i) (λr Y=>wpAny (model prog w) A (letTemporaryGo value o r >>= λ_=>pure r) Q E Y) E q:=by
  rw[O o i];exact wpAny_operating (ar Z (λr Y W=>aa (wpAny_letTemporaryGo (ag W))) λ_ _ x=>x)
 first
  |exact ag (aa X)
  |exact aa (ag (aa X))
  |exact aa X
theorem BR{X:Cx}{pins:List (Addr×Obj)}{σ:St}{H:Hp}{s:c9}{a:Addr}{y:V}{o:Option V}(I:Inv X pins σ H s)(g:t_ H a y o):s.TypeIs (.ref a) "dict" := by
 rcases g with⟨kvs,k,e,_,_⟩|⟨kvs,k,b,e,_,_,_⟩
 ·obtain⟨_,_,vs,_,dd⟩:=lZ I.hok e;exact dd.typeIs
 ·obtain⟨_,_,xs,_,dd⟩:=wu I.hok e;exact dd.typeIs
def Yn(td ty:TE):TE:=λσ H Q=>td σ H λx H1=>ty σ H1 λy H2=>∃a v,x = .ref a/\t_ H2 a y (some v)/\Q v H2
def Yo(td ty tv:TE):TS:=λD σ H=>tv σ H λv H1=>td σ H1 λx H2=>ty σ H2 λy Y=>∃a Z,x = .ref a/\BP Y a y v Z/\D.nx σ Z
section
variable{X:Cx}{o i e value:Expr}{pos pos' tpos:Pos}{td ty tv:TE}
theorem G6(q:X.A.units+1<cLine)(O:PE X o td)(hi:PE X i ty)(J:Rk i):PE X (.Subscript o i pos) (Yn td ty):=by
 intro pins s σ H Q I h;refine Rm PySem.F.slot_dict_getitem.lookup J (thn (O pins s σ H _ I h) λu s1 ⟨x,H1,T,V,q1⟩=>thn (hi pins s1 σ H1 _ T q1) λP s2 ⟨y,H2,Y,W,a,v,ex,g,q2⟩=>?_);subst ex;obtain rfl:u=db a:=V;exact⟨BR Y g,Js q Y g W λS R U Z=>⟨v,H2,U,Z,q2⟩⟩
theorem G7(J:X.A.units+1<cLine)(U:PE X o td)(hi:PE X i ty)(q:PE X value tv)(O:swapsWith value (some (.Subscript o i pos')) pos.line X.env=pure false):
 PS X (.Assign [.Subscript o i pos'] value pos) (Yo td ty tv):=by
 intro pins s σ H D I h;refine wpAny_Assign_Subscript (thn (q pins s σ H _ I h) λr s1 ⟨v,H1,R,W,q1⟩=>thn (U pins s1 σ H1 _ R q1) λu s2 ⟨x,H2,S,Y,q2⟩=>thn (hi pins s2 σ H2 _ S q2) λM N ⟨y,L,T,Z,a,Q,ex,g,q3⟩=>?_) O;subst ex;obtain rfl:u=db a:=Y;exact Jt J T g Z W λP V=>⟨σ,Q,V,q3⟩
end
section
variable{X:Cx}{pos:Pos}
end
structure M1(X:Cx)(o:Expr)(m:Str)(apos:Pos)(e:Expr)(cpos:Pos):Prop where
 base:attributeBase o m X.env (eval o X.env)=eval o X.env
 few:((backTo cpos (starEach [e] X.env)).all (λx=>!x.1)&&(backToKw cpos (keywordEach [] X.env)).all (λx=>x.1.isSome)
  && decide (([e]:List Expr).length+([]:List eD).length+(if([]:List eD).isEmpty then 0 else 1)<30))=true
 line:(apos.endLine==cpos.line)=true
 trees:backTo cpos (starEach [e] X.env)=[(false,eval e X.env)]
structure M2(X:Cx)(o:Expr)(m:Str)(apos:Pos)(e f:Expr)(cpos:Pos):Prop where
 base:attributeBase o m X.env (eval o X.env)=eval o X.env
 few:((backTo cpos (starEach [e,f] X.env)).all (λx=>!x.1)&&(backToKw cpos (keywordEach [] X.env)).all (λx=>x.1.isSome)
  && decide (([e,f]:List Expr).length+([]:List eD).length+(if([]:List eD).isEmpty then 0 else 1)<30))=true
 line:(apos.endLine==cpos.line)=true
 trees:backTo cpos (starEach [e,f] X.env)=[(false,eval e X.env),(false,eval f X.env)]
def IsD(H:Hp)(a:Addr):Prop:=(∃kvs,Rd H a (.dK kvs))\/∃kvs,Rd H a (.dT kvs)
theorem zJ{X:Cx}{pins:List (Addr×Obj)}{σ:St}{H:Hp}{s:c9}{a:Addr}(I:Inv X pins σ H s)(d:IsD H a):
 s.TypeIs (.ref a) "dict"/\(∀b,db a = .ref b->∃J,s.heap.get? b=some J/\J.dict=none)/\(a==sysModules)=false:=by
 rcases d with⟨kvs,e⟩|⟨kvs,e⟩
 ·obtain⟨_,hd,vs,_,dd⟩:=lZ I.hok e;refine⟨dd.typeIs,λb q=>?_,hd⟩
  cases q;obtain⟨J,_,_,h1,h2,_⟩:=dd;exact⟨J,h1,h2.2.1⟩
 ·obtain⟨_,hd,xs,_,dd⟩:=wu I.hok e;refine⟨dd.typeIs,λb q=>?_,hd⟩
  cases q;obtain⟨J,_,_,h1,h2,_⟩:=dd;exact⟨J,h1,h2.2.1⟩
section
variable{X:Cx}{pins:List (Addr×Obj)}{σ:St}{H:Hp}{s:c9}{a:Addr}{y d:V}{u r:Value}{o:Option V}{A:dc}{E:Value->c9->Prop}
theorem VN{Q:Value->c9->Prop}(O:A.units+1<cLine)(I:Inv X pins σ H s)(g:t_ H a y o)(J:RelV y u)(rd:RelV d r)(h:∀q s',Inv X pins σ H s'->RelV (o.getD d) q->Q q s'):
 wpAny (model X.prog X.w) A (call (.builtin "dict.get") [.ref a,u,r]) Q E s:=by
 rcases g with⟨kvs,k,e,Z,l⟩|⟨kvs,k,b,e,Z,Y,l⟩
 ·subst Z;obtain⟨z,hd,vs,rel,dd⟩:=lZ I.hok e;refine b8 PySem.F.slot_dict_get dd.typeIs PySem.F.entry_dict_get (PySem.F.args_dict_get_3 _ _ _) (meets_dict_get_default (cj X.prog X.w) a (wj J) hd r) ⟨_,dd.mapOf,h _ _ (I.tok _) ?_⟩;rw[l];exact(rel.val k).getD rd
 ·subst Z
  cases(show u=db b from J);obtain⟨z,hd,xs,rel,dd⟩:=wu I.hok e;refine b8 PySem.F.slot_dict_get dd.typeIs PySem.F.entry_dict_get (PySem.F.args_dict_get_3 _ _ _) (meetsH_dict_get_default (tupleKind (cj X.prog X.w)) a b hd r) ⟨bi O,k,xs,je I.hok Y,dd,h _ _ (I.tok _) ?_⟩;rw[l];exact(rel.val k).getD rd
end
noncomputable def VP(td ty tx:TE):TE:=λσ H Q=>td σ H λx H1=>∃a,x = .ref a/\IsD H1 a/\ty σ H1 λy H2=>tx σ H2 λz Z=>∃o,t_ Z a y o/\Q (o.getD z) Z
def VR(td ty:TE):TE:=λσ H Q=>td σ H λx H1=>∃a,x = .ref a/\IsD H1 a/\ty σ H1 λy H2=>∃kvs k v,H2 a=some (.dK kvs)/\y=kV k/\qy kvs k=some v/\Q v (upd H2 a (.dK (o9 kvs k)))
section
variable{X:Cx}{o e f:Expr}{apos cpos:Pos}{td ty tx:TE}
theorem Mp(q:X.A.units+1<cLine)(J:PE X o td)(he:PE X e ty)(O:PE X f tx)(m:M2 X o "get" apos e f cpos):PE X (.Call (.Attribute o "get" apos) [e,f] [] cpos) (VP td ty tx):=by
 intro pins s σ H Q I h;refine wpAny_Call_method m.base m.few m.line PySem.F.plainAttrs_dict PySem.F.slot_dict_get PySem.F.type_dict_get (thn (J pins s σ H _ I h) λu s1 ⟨x,H1,Y,S,a,ex,d,q1⟩=>?_);subst ex;obtain rfl:u=db a:=S;obtain⟨V,W,_⟩:=zJ Y d;refine⟨V,W,?_⟩;rw[m.trees];refine aT rfl (bv (be (thn (he pins s1 σ H1 _ Y q1) λD s2 ⟨y,H2,N,T,q2⟩=>
  be (thn (O pins s2 σ H2 _ N q2) λfv G ⟨z,M,P,U,E,g,q3⟩=>bp ?_))))
 exact VN q P g T U λL K R Z=>⟨_,M,R,Z,q3⟩
theorem BW(q:PE X o td)(J:PE X e ty)(m:M1 X o "pop" apos e cpos):PE X (.Call (.Attribute o "pop" apos) [e] [] cpos) (VR td ty):=by
 intro pins s σ H Q I h;refine wpAny_Call_method m.base m.few m.line PySem.F.plainAttrs_dict PySem.F.slot_dict_pop PySem.F.type_dict_pop (thn (q pins s σ H _ I h) λu s1 ⟨x,H1,Y,T,a,ex,d,q1⟩=>?_);subst ex;obtain rfl:u=db a:=T;obtain⟨V,W,_⟩:=zJ Y d;refine⟨V,W,?_⟩;rw[m.trees];refine aT rfl (bv (be (thn (J pins s1 σ H1 _ Y q1) λM s2 ⟨y,H2,P,U,kvs,k,v,ea,S,l,q2⟩=>bp ?_)));subst S;exact Ym P ea U l (.inl rfl) λO N R Z=>⟨v,_,R,Z,q2⟩
end
section
variable{X:Cx}{pins:List (Addr×Obj)}{σ:St}{H:Hp}{s:c9}{a:Addr}{kvs:List (Key×V)}{A:dc}{E:Value->c9->Prop}
end
section
variable{X:Cx}{pins:List (Addr×Obj)}{σ:St}{H:Hp}{s:c9}{a:Addr}{y:V}{u:Value}{A:dc}{E:Value->c9->Prop}
end
section
variable{κ:Type}[DecidableEq κ]
end
end L2
namespace XK
open L2 My D3
section
variable{K:PySem.W.Frag}{H:Hp}
theorem G8:∀(qs:List (Int×Int))(i:Int),qy (qs.map λq=>((.inl q.1,.int q.2):Key×V)) (.inl i)=(eE qs i).map V.int
 |[],i=>rfl
 |q::r,i=>by
  rw[aM];by_cases h:q.1=i
  ·rw[o_ (by rw[h])];simp[eE,h]
  ·rw[pq (λz=>h (by injection z)),G8 r i];simp[eE,h]
theorem vd{H H':Hp}{a:Addr}{u:HO}(s:Same H H')(h:L2.Rd H a u):L2.Rd H' a u:=by
 rcases h with h|⟨o,h⟩
 ·exact .inl (s _ _ h)
 ·exact .inr ⟨o,s _ _ h⟩
theorem m_{ok:Ok}{pl:Bool}{v:V}{x:D}{qs:List (Int×Int)}(e:oF x=some qs)(r:RA K ok pl H v x):∃a,v = .ref a/\L2.Rd H a (.dK (qs.map λq=>(.inl q.1,.int q.2))):=by
 cases x with
 |dict kvs=>
  obtain⟨a,rfl,h⟩:=r.dicE (Et e);rw[Lx e,Es e]at h;exact⟨a,rfl,h⟩
 |none=>cases e
 |bool _=>cases e
 |int _=>cases e
 |str _=>cases e
 |list _=>cases e
 |tuple _=>cases e
theorem zK{a:Addr}{qs:List (Int×Int)}(i:Int)(h:L2.Rd H a (.dK (qs.map λq=>(.inl q.1,.int q.2)))):t_ H a (.int i) ((eE qs i).map V.int):=
 .inl ⟨_,.inl i,h,rfl,(G8 qs i).symm⟩
end
section
variable{X:Cx}{fl:List Fl}{e a b c ke:Expr}{f fa fb fc fk:FE}{pos:Pos}
theorem G9(J:X.A.units+1<cLine)(ha:DE X fl .P a fa)(hb:DE X fl .P b fb)(O:Rk b):DE X fl .FC (.Subscript a b pos) (dOp v8 fa fb):=PE.imp (G6 J ha hb O) λσ H Q h=>by
 refine D3.ex4 h λG ow δ d R Y q=>?_
 refine D3.ex2 (uE Y) λx y U V W=>?_
 refine⟨G,ow,δ,x,R,U,λv H1 s1 r1=>⟨G,ow,δ,y,R.grow s1,V,λu H2 s2 r2=>?_⟩⟩;refine D3.ex1 (bind1 W) λqs e4 e5=>?_
 obtain⟨p,rfl,Z⟩:=m_ e4 r1;split at e5
 ·next i=>
  obtain rfl:=RA.intE r2
  cases e6:eE qs i with
  |none=>rw[e6]at e5;cases e5
  |some j=>
   rw[e6]at e5
   cases e5;have g:=zK i (vd s2 Z);rw[e6]at g;exact⟨p,.int j,rfl,g,q _ H2 (s1.trans s2) (.inl ⟨rfl,.int j⟩)⟩
 ·cases e5
def Yp:R2:=λx y H Q=>∃p o,y = .ref p/\t_ H p x o/\Q (.bl o.isSome) H
def zL:R2:=λx y H Q=>∃p o,y = .ref p/\t_ H p x o/\Q (.bl (!o.isSome)) H
theorem Mq(J:X.A.units+64<cLine):OpR X (compareOp .In) Yp:=by
 intro pins s σ H x y v u Q I Y Z h;obtain⟨p,o,rfl,g,q⟩:=h;obtain rfl:u=db p:=Z;exact ac9 (by omega) I g Y λs' W=>⟨.bl o.isSome,H,W,rfl,q⟩
theorem uc(J:X.A.units+64<cLine):OpR X (compareOp .NotIn) zL:=by
 intro pins s σ H x y v u Q I Y Z h;obtain⟨p,o,rfl,g,q⟩:=h;obtain rfl:u=db p:=Z;exact Rj (by omega) I g Y λs' W=>⟨.bl (!o.isSome),H,W,rfl,q⟩
theorem Mr{K:PySem.W.Frag}:BrO K zL sE:=by
 intro H x y dx V d Q Y Z e q;refine D3.ex1 (bind1 e) λqs e4 e5=>?_
 obtain⟨p,rfl,X⟩:=m_ e4 Z;split at e5
 ·next i=>
  cases e5;obtain rfl:=RA.intE Y;refine⟨p,_,rfl,zK i X,?_⟩;rw[fP];exact q _ rfl (.bl _)
 ·cases e5
theorem G_:∀(l:List Value)(ns:List Int),l.length=ns.length->(∀(j:Nat)(v:Value),l[j]? = some v->∃n t,ns[j]? = some n/\v=ec n t)->eV l ns
 |[],[],_,_=>.nil
 |[],_::_,h,_=>by simp at h
 |_::_,[],h,_=>by simp at h
 |v::l,n::ns,h,g=>by
  obtain⟨W,t,X,Y⟩:=g 0 v rfl
  cases X;subst Y;exact .cons _ _ (G_ l ns (by simpa using h) λj v Z=>by simpa using g (j+1) v (by simpa using Z))
theorem zM(hc:X.calm=true):kZ X (.builtin "sorted") (λxs H Q=>∃(p:Addr)(qs:List (Int×Int)),xs=[.ref p]/\L2.Rd H p (.dK (qs.map λq=>(.inl q.1,.int q.2)))/\qs.length<64/\∀l,H l=none->Q (.ref l) (upd H l (.lst ((jW (qs.map (·.1))).map V.int)))):=by
 intro pins s σ H xs us Q I r h;obtain⟨p,qs,rfl,hx,Z,q⟩:=h;obtain⟨u,rfl,K⟩:=vals1 r
 cases K;obtain⟨_,hd,vs,rel,dd⟩:=lZ I.hok hx;obtain⟨B,N⟩:=dd.dictAt;have hlen:vs.length=qs.length:=by rw[<-rel.length,ak]
 refine Calls.call_function_entry kind_sorted plain_sorted entry_sorted (args_sorted1 _) ?_;unfold eF.«sorted»;refine aa (m:=checkCount "sorted" 1 1 _) (ag ?_);refine aa (PySem.W.kdu_collect (A:=X.A.in1) (PySem.W.kdl_dict (knd:=cj X.prog X.w) (kvs:=vs) (ep:=B) hd) (I.ok.hd hc) N (by rw[hlen];exact aZ (dB Z) (by decide)) λh' tk acc E Y=>?_);have O:acc.toList.length=qs.length:=by rw[cH,Y.1,hlen]
 have C:eV acc.toList (qs.map (·.1)):=G_ _ _ (by rw[O,ak]) λj v F=>by
  obtain⟨k,x,S,R⟩:=Y.2 j v (by rw[<-g_];exact F);obtain⟨i,j',t,rfl,_,_⟩:=(j7 rel).2 k x (cD S);have P:(vs.map (·.1))[j]? = some (.inl i):=by rw[aO,S];rfl
  rw[(j7 rel).1,aO]at P
  cases M:qs[j]? with
  |none=>rw[M]at P;cases P
  |some q0=>
   rw[M]at P;have z:q0.1=i:=by simpa using P
   rw[vC]at R;obtain⟨t,rfl⟩:∃t,v=ec i t:=Value.isInt_shape R;exact⟨i,t,by rw[aO,M,<-z];rfl,rfl⟩
 have L:L2.Inv X pins σ H {s with heap:=h',toks:=tk}:=I.kept E;refine aa (wpAny_newList ?_ (by rw[O];exact aZ (dB Z) (by decide)));have U:(h'.push (seqObj "list" acc.toList.toArray 0)).get? h'.objs.size=some (seqObj "list" acc.toList.toArray 0):=ah _ rfl;show wpAny _ _ _ _ _ {s with heap:=h'.push (seqObj "list" acc.toList.toArray 0),toks:=tk};refine aa (az (cw slot_list_sort ⟨_,U,rfl⟩ entry_list_sort (list_sort_tree U C (by rw[O];exact Z) λout J a1 a2 a3=>⟨_,rfl,?_⟩) (args_list_sort _)));refine ag ⟨_,rfl,?_⟩;obtain rfl:=pN (a2.trans (dY _).symm) a3 (ju _);obtain⟨e,D⟩:=sortedHeap_at (out:=out) U;have hn:H h'.objs.size=none:=L.hok.fresh (aP _);have G:(jW (qs.map (·.1))).length=qs.length:=by rw[(dY _).length_eq,ak]
 have y:=L.laid (h':=sortedHeap (h'.push (seqObj "list" acc.toList.toArray 0)) h'.objs.size acc.toList out) (t':=tk) (a:=h'.objs.size) (o:=.lst ((jW (qs.map (·.1))).map V.int)) (λb u e=>by
  have T:=af e;rw[sortedHeap_old (bB T) (by rw[size_push'];exact rF T)];exact ae _ e) (aP _)
  ⟨by rw[ak,G];exact aZ (dB Z) (by decide),out.toList,e,D3.jV a1,by simpa[seqObj]using D⟩
 exact⟨.ref _,_,y,rfl,q _ hn⟩
end
end XK
namespace XK
open L2 My D3
theorem hu1{n:Nat}(h:n+64<cLine):n+1<cLine:=by omega
abbrev dkI(qs:List (Int×Int)):List (Key×V):=qs.map λq=>(.inl q.1,.int q.2)
section
variable{X:Cx}{fl:List Fl}{e a b c ke:Expr}{f fa fb fc fk:FE}{pos:Pos}
theorem Ms(hc:X.calm=true){fa:FA}{p:Pos}(ha:DB X fl .P [e] fa)(O:Gl X "sorted")(hm:X.mg "sorted"=none)
 (U:starEach [e] X.env=(false,eval e X.env)::starEach [] X.env:=by rfl) (J:(backTo pos (starEach [] X.env)).any (·.1)=false:=by rfl):DE X fl .FC (.Call (.Name "sorted" p) [e] [] pos) (dCall v9 fa):=
 PE.imp (rM (zM hc) O hm (show bootBuiltins "sorted"=some (.builtin "sorted")by decide +kernel) ha (by decide) (by decide) U J) λσ H Q h=>by
 refine D3.ex4 h λG ow δ d R V q=>?_
 refine D3.ex1 (bind1 V) λds S Y=>?_
 refine⟨G,ow,δ,ds,R,S,λvs H' s W=>?_⟩;unfold v9 at Y;split at Y
 ·next x=>
  refine D3.ex1 (bind1 Y) λqs T e4=>?_
  by_cases Z:qs.length<64
  ·rw[if_pos Z]at e4
   cases e4
   cases W with
   |cons r1 r2=>
    cases r2;obtain⟨a,rfl,hx⟩:=m_ T r1;exact⟨a,qs,rfl,hx,Z,λl hn=>q _ _ (s.trans (cN hn _)) (.inr ⟨_,_,_,rfl,rfl,s.free hn,bG,lY _⟩)⟩
  ·rw[if_neg Z]at e4;cases e4
 ·cases Y
theorem Mt(J:X.A.units+1<cLine){apos cpos:Pos}(ha:DE X fl .P a fa)(hb:DE X fl .P b fb)(O:DE X fl .P c fc)(hm:M2 X a "get" apos b c cpos):DE X fl .FC (.Call (.Attribute a "get" apos) [b,c] [] cpos) (wg fa fb fc):=
 PE.imp (Mp J ha hb O hm) λσ H Q h=>by
 refine D3.ex4 h λG ow δ d R Z q=>?_
 refine D3.ex1 (bind1 Z) λx N Y=>?_
 clear Z;have Z:=Y;clear Y;refine D3.ex1 (bind1 Z) λk S Y=>?_
 clear Z;have Z:=Y;clear Y;refine D3.ex1 (bind1 Z) λz T Y=>?_
 clear Z;have Z:=Y;clear Y;refine D3.ex1 (bind1 Z) λqs e4 Y=>?_
 clear Z;have Z:=Y;clear Y;split at Z
 case h_2=>cases Z
 next i j=>
 cases Z;refine⟨G,ow,δ,x,R,N,λv H1 s1 r1=>?_⟩;obtain⟨p,rfl,U⟩:=m_ e4 r1;refine⟨p,rfl,.inl ⟨_,U⟩,G,ow,δ,_,R.grow s1,S,λu H2 s2 r2=>⟨G,ow,δ,_,R.grow (s1.trans s2),T,λw M W r3=>?_⟩⟩;obtain rfl:=RA.intE r2;obtain rfl:=RA.intE r3;refine⟨_,zK i (vd (s2.trans W) U),?_⟩;have e:((eE qs i).map V.int).getD (.int j) = .int ((eE qs i).getD j):=by cases eE qs i<;>rfl
 rw[e];exact q _ M ((s1.trans s2).trans W) (.inl ⟨rfl,.int _⟩)
end
end XK
namespace XK
open L2 My D3
def Ju(X:Cx)(a:Addr):Prop:=(∀xs,X.H₀ a≠some (.tup xs))/\(∀o u,X.H₀ a≠some (.frz o u))/\∀q p,X.H₀ a≠some (.tbl q p)
section
variable{X:Cx}{pins:List (Addr×Obj)}{σ:L2.St}{H H':Hp}{s:c9}{a:Addr}{kvs:List (Key×V)}{o:Obj}
theorem zN(I:L2.Inv X pins σ H s)(h:H a=some (.dK kvs)):Ju X a:=
 ⟨λxs z=>(by rw[I.base.tups a xs z]at h;cases h),λo u z=>(by rw[I.base.frzs a o u z]at h;cases h),λq p z=>(by
  rw[I.base.tbls a q p z]at h;cases h)⟩
theorem Mu(I:L2.Inv X pins σ H s)(hn:Ju X a)(ha:H a≠none)(hb:∀b,b≠a->H' b=H b)(hok:HOk X.prog X.w H' s.heap):L2.Inv X pins σ H' s:=by
 have no:∀b,H b=none->H' b=none:=λb z=>by
  rw[hb b (λe=>ha (by rwa[<-e]))];exact z
 refine⟨I.ok,I.os,I.bare,⟨I.base.keep,I.base.slot,λb o e n hx=>no b (I.base.free b o e n hx),I.base.there,λb xs e=>?_,λb o u e=>?_,λb q p e=>?_⟩,I.loc,I.cell,no _ I.free,λx c e=>no _ (I.freeC x c e),λp Z=>?_,hok,I.len⟩
 ·rw[hb b (λz=>hn.1 xs (by rwa[<-z]))];exact I.base.tups b xs e
 ·rw[hb b (λz=>hn.2.1 o u (by rwa[<-z]))];exact I.base.frzs b o u e
 ·rw[hb b (λz=>hn.2.2 q p (by rwa[<-z]))];exact I.base.tbls b q p e
 ·obtain⟨h1,h2,h3⟩:=I.pin p Z;exact⟨h1,no _ h2,h3⟩
theorem Hf(I:L2.Inv X pins σ H s)(h:H a=some (.dK kvs))(J:s.heap.get? a=some o):L2.Inv X pins σ (upd H a (.frz o (.dK kvs))) s:=by
 have Z:Mut (H a):=by rw[h];exact dE
 refine Mu I (zN I h) (by rw[h];simp) (λb hb=>bf hb) (I.hok.write Z (.inl rfl) (λ_ _ _ q=>q) ⟨o,J⟩ ⟨J,?_⟩);exact(I.hok a _ h).stay (λ_ _ _ q=>q) (λb q=>by rw[bf (cU q h (by intro z;cases z))];exact q) (λb xs q=>by rw[bf (cU q h (by intro z;cases z))];exact q)
theorem BX(I:L2.Inv X pins σ H s)(hn:Ju X a)(h:H a=some (.frz o (.dK kvs))):L2.Inv X pins σ (upd H a (.dK kvs)) s:=by
 have st:∀b u,fJ X.prog X.w H s.heap b u->fJ X.prog X.w (upd H a (.dK kvs)) s.heap b u:=λb u z=>
  z.stay (λ_ _ _ q=>q) (λc q=>by rw[bf (cU q h (by intro z;cases z))];exact q) (λc xs q=>by rw[bf (cU q h (by intro z;cases z))];exact q)
 refine Mu I hn (by rw[h];simp) (λb hb=>bf hb) λb u e=>?_
 by_cases hb:b=a
 ·subst hb;rw[bG]at e
  cases e;exact st _ _ (I.hok b _ h).2
 ·rw[bf hb]at e;exact st b u (I.hok b u e)
end
def Itk(o:Obj)(a:Addr)(kvs:List (Key×V)):It:=
 ⟨λi H=>H a=some (.frz o (.dK kvs))/\i<kvs.length,λi H x H'=>H'=H/\∃k v,kvs[i]? = some (k,v)/\x=kV k,λi H=>H a=some (.frz o (.dK kvs))/\kvs.length<=i⟩
theorem zO{X:Cx}{pins:List (Addr×Obj)}{σ:L2.St}{H:Hp}{s:c9}{a:Addr}{kvs:List (Key×V)}{o:Obj}{es:Array DictEntry}{ep:Nat}(I:L2.Inv X pins σ H s)(h:H a=some (.frz o (.dK kvs)))(hd:o.data = .dict es ep):
 ∃vs,KV kvs vs/\s.heap.DictAt (cj X.prog X.w) a vs ep:=by
 obtain⟨Z,_,_,vs,rel,o',U,T,Y,R,W,S⟩:=I.hok a _ h;rw[Z]at Y
 cases Y;rw[hd]at W
 cases W;exact⟨vs,rel,o,es,Z,R,hd,S⟩
theorem Fb{P:c_}{w:de}{k:Key}{v:Value}(h:(cj P w).is k v=true):RelV (kV k) v:=by
 rw[vC]at h;rcases eU h with⟨i,t,rfl,rfl⟩|⟨x,t,rfl,rfl⟩
 ·exact⟨t,rfl⟩
 ·exact⟨t,rfl⟩
theorem BZ{P:c_}{w:de}{K:PySem.W.Frag}{tg:Expr}(o:Obj)(a it:Addr)(kvs:List (Key×V)){es:Array DictEntry}{ep:Nat}(hd:o.data = .dict es ep):Turn P w K tg (Itk o a kvs) [it] it (λi h=>h.IsKeyIter it a i kvs.length ep) where
 mem:=by simp
 obj:=λi h st b hb=>by
  have e:b=it:=by simpa using hb
  subst e;obtain⟨o,e,c,d⟩:=st;exact⟨o,e,λv z=>by rw[d]at z;cases z⟩
 keep:=λi h h' st k=>by
  obtain⟨o,e,r⟩:=st;exact⟨o,k it (by simp) o e,r⟩
 item:=by
  intro X M hw L C i pins s σ H E I T st N;subst M hw L;obtain⟨Q,hi⟩:=N;obtain⟨vs,rel,dat⟩:=zO I Q hd;have ln:=rel.length;rw[ln]at hi;obtain⟨D,f1,f2,F,G,J⟩:=T it (by simp);obtain⟨⟨k,x⟩,hx⟩:∃p,vs[i]? = some p:=⟨vs[i],by simp[hi]⟩;have O:∃v,kvs[i]? = some (k,v):=by
   have U:(vs.map (·.1))[i]? = some k:=by rw[aO,hx];rfl
   rw[<-rel.keys,aO]at U
   cases B:kvs[i]? with
   |none=>rw[B]at U;cases U
   |some p=>
    rw[B]at U;obtain⟨A,v⟩:=p;have:A=k:=by simpa using U
    subst this;exact⟨v,rfl⟩
  obtain⟨v,O⟩:=O;rw[ln]at st;refine wpAny_pyNext_dict_item st dat hx λS h' Y Z R=>?_
  have u:L2.Inv X pins σ H {s with heap:=h'}:=I.turned (t':=s.toks) (λb o hb e=>(R.2 b hb).trans e) D f1 F G J;obtain⟨t,e,c,d⟩:=id Z;exact⟨S,rfl,Av (s:={s with heap:=h'}) e c d (by decide) ⟨kV k,H,u,Fb Y,⟨rfl,k,v,O,rfl⟩,by rw[ln];exact Z,λb hb=>(T b hb).1⟩⟩
 done:=by
  intro X M hw L C i pins s σ H E I T st N;subst M hw L;obtain⟨Q,hi⟩:=N;obtain⟨vs,rel,dat⟩:=zO I Q hd;have ln:=rel.length;rw[ln]at st hi;obtain⟨D,f1,f2,F,G,J⟩:=T it (by simp);exact wpAny_pyNext_dict_end (I.ok.hd C) st dat (bA hi) λh' y=>⟨rfl,I.turned (t':=s.toks) (λb o hb e=>y b o hb e) D f1 F G J⟩
 self:=λ_ _ _ _ _ st h=>wpAny_pyIter_keyiter st h
def Yq(X:Cx)(tl:TE):TI:=λσ H R=>tl σ H λx H1=>∃a kvs,x = .ref a/\((H1 a=some (.dK kvs)/\∀o,Ju X a->R (Itk o a kvs) (upd H1 a (.frz o (.dK kvs))))\/∃o,H1 a=some (.frz o (.dK kvs))/\R (Itk o a kvs) H1)
theorem V0{X:Cx}{tg l:Expr}{tl:TE}(J:PE X l tl):PI X tg l (Yq X tl):=by
 intro pins s σ H R I h;refine thn (J pins s σ H _ I h) λv s1 ⟨x,H1,Z,r1,q1⟩=>?_
 obtain⟨a,kvs,e,q⟩:=q1;subst e
 cases r1;have rd:L2.Rd H1 a (.dK kvs):=q.elim (λz=>.inl z.1) (λ⟨o,z,_⟩=>.inr ⟨o,z⟩);obtain⟨_,lo,vs,rel,Y,es,V,U,Q,hd,S⟩:=lZ Z.hok rd;have dat:s1.heap.DictAt (cj X.prog X.w) a vs V:=⟨Y,es,U,Q,hd,S⟩;refine wpAny_pyIter_dict lo dat ?_;have T:L2.Inv X pins σ H1 {s1 with heap:=s1.heap.push {cls:=.type "dict_keyiterator", data:=.fields #[.ref a,.int 0 0,.int vs.length 0,.int V 0]} }:=Z.kept (t':=s1.toks) λb o e=>ae _ e
 have st:(s1.heap.push {cls:=.type "dict_keyiterator", data:=.fields #[.ref a,.int 0 0,.int vs.length 0,.int V 0]}).IsKeyIter s1.heap.objs.size a 0 kvs.length V:=⟨_,ah _ rfl,rfl,by rw[rel.length];rfl⟩;have fr:H1 s1.heap.objs.size=none:=Z.hok.fresh (aP _);rcases q with⟨W,q⟩|⟨o,W,q⟩
 ·refine⟨s1.heap.objs.size,[s1.heap.objs.size],_,_,_,rfl,Hf T W (ae _ U),BZ Y a _ kvs hd,st,λb hb=>?_,q Y (zN Z W)⟩;have e:b=s1.heap.objs.size:=by simpa using hb
  subst e;refine Z.fpOk (aP _) ?_;rw[bf (λz=>by rw[z,W]at fr;cases fr)];exact fr
 ·have eq:Y=o:=by
   have:=(Z.hok a _ W).1;rw[U]at this;exact cL.inj this
  subst eq;refine⟨s1.heap.objs.size,[s1.heap.objs.size],_,_,_,rfl,T,BZ Y a _ kvs hd,st,λb hb=>?_,q⟩;have e:b=s1.heap.objs.size:=by simpa using hb
  subst e;exact Z.fpOk (aP _) fr
section
variable{K:PySem.W.Frag}{H:Hp}{a:Addr}{kvs:List (Key×V)}{o:Obj}
mutual
theorem Fd{ok:Ok}(h:H a=some (.dK kvs)):∀{v:V}{d:D},RA K ok true H v d->RA K ok true (upd H a (.frz o (.dK kvs))) v d
 |_,_,.non=>.non
 |_,_,.bl b=>.bl b
 |_,_,.int i=>.int i
 |_,_,.str x=>.str x
 |_,_,.lst e k q=>.lst (by rw[bf (cU e h (by intro z;cases z))];exact e) k (sG h q)
 |_,_,.lsk e k q=>.lsk (by
  rcases e with⟨o',e⟩|e
  ·exact .inl ⟨o',by rw[bf (cU e h (by intro z;cases z))];exact e⟩
  ·exact .inr e) k (sG h q)
 |_,_,.tup e q=>.tup (by unfold fZ;rw[bf (cU e h (by intro z;cases z))];exact e) (sG h q)
 |_,_,.dic (a:=b) e g k=>by
  by_cases hb:b=a
  ·subst hb;have g':=g.upd (o:=.frz o (.dK kvs)) h;rw[h]at e;exact .dik (by rw[bG];injection e with e;rw[e]) g' rfl
  ·exact .dic (by rw[bf hb];exact e) (g.upd h) k
 |_,_,.dik e g k=>.dik (by rw[bf (cU e h (by intro z;cases z))];exact e) (g.upd h) k
 |_,_,.ins e g q z=>.ins (by rw[bf (cU e h (by intro z;cases z))];exact e) (by rw[bf (cU g h (by intro z;cases z))];exact g) (sG h q) z
theorem sG{ok:Ok}(h:H a=some (.dK kvs)):∀{v:List V}{d:List D},RAs K ok true H v d->RAs K ok true (upd H a (.frz o (.dK kvs))) v d
 |_,_,.nil=>.nil
 |_,_,.cons e q=>.cons (Fd h e) (sG h q)
end
mutual
theorem Rn{ok:Ok}(h:H a=some (.frz o (.dK kvs))):∀{v:V}{d:D},RA K ok false H v d->RA K ok false (upd H a (.dK kvs)) v d
 |_,_,.non=>.non
 |_,_,.bl b=>.bl b
 |_,_,.int i=>.int i
 |_,_,.str x=>.str x
 |_,_,.lst e k q=>.lst (by rw[bf (cU e h (by intro z;cases z))];exact e) k (nj h q)
 |_,_,.lsk e k q=>by cases k
 |_,_,.tup e q=>.tup (by unfold fZ;rw[bf (cU e h (by intro z;cases z))];exact e) (nj h q)
 |_,_,.dic e g k=>.dic (by rw[bf (cU e h (by intro z;rcases g.or with⟨ks,y⟩|⟨ks,y⟩<;>(rw[y]at z;cases z)))];exact e) (g.imp λ_ _ t=>by unfold fZ;rw[bf (cU t h (by intro z;cases z))];exact t) k
 |_,_,.dik e _ k=>by cases k
 |_,_,.ins e g q z=>.ins (by rw[bf (cU e h (by intro z;cases z))];exact e) (by rw[bf (cU g h (by intro z;cases z))];exact g) (nj h q) z
theorem nj{ok:Ok}(h:H a=some (.frz o (.dK kvs))):∀{v:List V}{d:List D},RAs K ok false H v d->RAs K ok false (upd H a (.dK kvs)) v d
 |_,_,.nil=>.nil
 |_,_,.cons e q=>.cons (Rn h e) (nj h q)
end
end
section
variable{X:Cx}{fl fl':List Fl}{e b c elt tg iter:Expr}{es ifs:List Expr}{k:Kd}{f fa fb fc fx:FE}{ft gt:FT}{pos:Pos}{scope:er}{ix L TT:List Nat}{fi:FA}{g:FG}
theorem sH{σ:L2.St}{H1:Hp}{Q:VK}{t:Nat}{δ:DS}{l r:List D}{J:It}{Dl:Addr}{tb:Tb H1}(htg:∀j∈TT,j<t)(R:Rel X.K fl' ⟨H1,H1,λ_=>none,λ_=>[],tb,λ_=>none⟩ ow0 (oU t ix σ) H1 (jf t ix δ))
 (hl:l.length<=100000) (e3:fX g ft f (jf t ix δ) l=some r) (hD:H1 Dl=none)
 (wk:∀H2,Same H1 H2->∀i:Nat,(∀d,l[i]? = some d->J.go i H2/\∀x H3,J.yld i H2 x H3->Same H2 H3/\RA X.K ok1 true H3 x d)/\(l.length<=i->J.stop i H2))
 (q:∀H2 xs,Same H1 H2->H2 Dl=some (.lst xs)->RAs X.K (λb=>okN H1 b/\b≠Dl) false H2 xs r->Q (.ref Dl) H2) :
 ∃W:Nat->Nat->List V->Hp->Prop,(∃m,W 0 m [] (upd H1 Dl (.lst []))) /\
  ∀i m xs H2,W i m xs H2->H2 Dl=some (.lst xs)/\((J.stop i H2/\Q (.ref Dl) H2)\/(J.go i H2/\xs.length<sizeLine/\∀x H3,J.yld i H2 x H3->tDG X.K fl' TT g x (oU t ix σ) H3 λO H4=>O.drop t=(oU t ix σ).drop t /\
   tDT X.K fl' ft O H4 λb H5=>if b=true then tD X.K fl' .C f O H5 λv H6=>H6 Dl=some (.lst xs)/\∃m',m'<m/\W (i+1) m' (xs++[v]) (upd H6 Dl (.lst (xs++[v])))else ∃m',m'<m/\W (i+1) m' xs H5)):=by
 let N:Ok:=λb=>okN H1 b/\b≠Dl
 refine⟨λi m xs H2=>m=l.length-i/\H2 Dl=some (.lst xs)/\Same H1 H2/\xs.length<=i/\i<=l.length/\∃ds rest,RAs X.K N false H2 xs ds/\fX g ft f (jf t ix δ) (l.drop i)=some rest/\r=ds++rest,
  ⟨_,rfl,bG,cN hD _,aP _,fL _,[],r,.nil,by simpa using e3,rfl⟩,?_⟩
 rintro i m xs H2 ⟨rfl,U,s2,E,A,ds,rest,B,Y,rfl⟩;refine⟨U,?_⟩;obtain⟨k,p⟩:=wk H2 s2 i;by_cases S:i<l.length
 ·have L:l.drop i=l[i]::l.drop (i+1):=iV S;rw[L,fX]at Y;refine D3.ex1 (bind1 Y) λP e5 Y=>?_
  refine D3.ex1 (bind1 Y) λw e6 Y=>?_
  obtain⟨go,s⟩:=k l[i] (aF S);refine .inr ⟨go,qg (aZ E (aZ A hl)) (by decide),λx H3 hy=>?_⟩;obtain⟨H,r3⟩:=s x H3 hy;have G:=s2.trans H;have Rb:=R.grow G;refine⟨_,_,_,_,P,Rb,r3.imp (λ_ _=>⟨λi z=>(by cases z),λi z=>(by cases z)⟩) (λz=>z),e5,λO u M=>⟨?_,?_⟩⟩
  ·apply iw;intro n;rw[gC,gC];exact M (t+n) λz=>absurd (htg _ z) (by omega)
  ·refine⟨_,_,P,w,u,e6,λH5 I=>?_⟩
   cases w with
   |false=>
    rw[if_neg eZ]at Y ⊢;have Z:=H.trans I;exact⟨l.length-(i+1),by omega,rfl,Z _ _ U,s2.trans Z,by omega,S,ds,rest,B.same Z,Y,rfl⟩
   |true=>
    rw[if_pos rfl]at Y ⊢;refine D3.ex1 (bind1 Y) λy e7 Y=>?_
    refine D3.ex1 (bind1 Y) λl' e8 Y=>?_
    cases Y;refine⟨_,_,P,y,u.grow I,e7,λv H6 h a=>?_⟩;have Z:=H.trans I;have T:=Z.trans h;refine⟨T _ _ U,l.length-(i+1),by omega,rfl,bG,?_,by rw[bw,g8];omega,S,ds++[y],l',?_,e8,by simp⟩
    ·intro b o hb;rw[bf (λz=>by subst z;rw[hD]at hb;cases hb)];exact(s2.trans T) b o hb
    ·have nd:¬N Dl:=λz=>z.2 rfl
     have F:Same H1 H5:=s2.trans Z;have c:RA X.K N false H6 v y:=RA.imp (λb z=>⟨F.free z,λe=>by subst e;rw[okN,Z _ _ U]at z;cases z⟩) (λz=>z) a;exact((B.same T).append (.cons c .nil)).upd (T _ _ U) nd
 ·have ed:l.drop i=[]:=jB (by omega);rw[ed,fX]at Y
  cases Y;refine .inl ⟨p (by omega),?_⟩;rw[cR]at q;exact q H2 xs s2 U B
theorem Mw{K:PySem.W.Frag}{H1:Hp}{a:Addr}{o:Obj}{qs:List (Int×Int)}(h:H1 a=some (.frz o (.dK (dkI qs)))):∀H2,Same H1 H2->∀i:Nat,(∀d,(qs.map λq=>(.int q.1:D))[i]? = some d->(Itk o a (dkI qs)).go i H2/\∀x J,(Itk o a (dkI qs)).yld i H2 x J->Same H2 J/\RA K ok1 true J x d)/\((qs.map λq=>(.int q.1:D)).length<=i->(Itk o a (dkI qs)).stop i H2):=by
 intro H2 s2 i;refine⟨λd hd=>?_,λhi=>⟨s2 _ _ h,by simpa using hi⟩⟩;rw[aO]at hd
 cases e:qs[i]? with
 |none=>rw[e]at hd;cases hd
 |some p=>
  rw[e]at hd
  cases hd;have hi:i<qs.length:=by
   rcases lu i qs.length with z|z
   ·exact z
   ·rw[bA z]at e;cases e
  refine⟨⟨s2 _ _ h,by simpa using hi⟩,λx J Y=>?_⟩;obtain⟨rfl,k,v,Z,rfl⟩:=Y;rw[aO,e]at Z
  cases Z;exact⟨Same.refl _,.int _⟩
def uI(X:Cx)(Q:VK):VK:=λv H2=>Q v H2\/∃a o kvs,Ju X a/\H2 a=some (.frz o (.dK kvs))/\Q v (upd H2 a (.dK kvs))
theorem Ro{σ:L2.St}{H:Hp}{Q:VK}{T:List Str}(O:∀i,i<T.length+ix.length->fl'[i]? = some .A)(J:∀j∈TT,j<T.length)(h:tD X.K fl .FC (jH (BJ fx) g ft f T.length ix) σ H Q):
 Bd (Yq X (tD X.K fl .P fx)) (tDG X.K fl' TT g) (tDT X.K fl' ft) (tD X.K fl' .C f) T.length (oU T.length ix) σ H (uI X Q):=by
 refine D3.ex4 h λG ow δ d R D q=>?_
 refine D3.ex1 (bind1 D) λl B N=>?_
 by_cases S:l.length<=100000
 case neg=>rw[if_neg S]at N;cases N
 rw[if_pos S]at N;refine D3.ex1 (bind1 N) λr E e4=>?_
 cases e4;refine D3.ex1 (bind1 B) λx e5 e6=>?_
 cases L:oF x with
 |none=>rw[L]at e6;cases e6
 |some qs=>
 rw[L]at e6
 cases e6;refine⟨G,ow,δ,x,R,e5,λv H1 s1 r1=>?_⟩;have y:=R.grow s1;have W:=zx (fl':=fl') T.length ix O y (Same.refl H1);obtain⟨a,rfl,Z⟩:=m_ L r1;refine⟨a,dkI qs,rfl,?_⟩;rcases Z with Z|⟨o,Z⟩
 ·refine .inl ⟨Z,λo lo Dl hD=>?_⟩;have U:Dl≠a:=λz=>by rw[z,bG]at hD;cases hD
  have M:Tb (upd H1 a (.frz o (.dK (dkI qs)))):=λt F=>by rw[bf (cU (W.tb t F) Z (by simp))];exact W.tb t F
  have I:Rel X.K fl' ⟨upd H1 a (.frz o (.dK (dkI qs))),upd H1 a (.frz o (.dK (dkI qs))),λ_=>none,λ_=>[],M,λ_=>none⟩ ow0 (oU T.length ix σ) (upd H1 a (.frz o (.dK (dkI qs)))) (jf T.length ix δ):=by
   refine⟨Same.refl _,Same.refl _,W.len,λi b h=>(by cases h),λi j b h=>(by cases h),λi h=>rfl,λi d h1 hn h2=>?_,W.oo,λi b h=>(by cases h),λi j b h=>(by cases h),λi j b h=>(by cases h),λi h=>rfl,λi d hn h1=>?_,λi u h e=>(by cases e)⟩
   ·obtain⟨v,h3,h4⟩:=W.dat i d h1 hn h2;exact⟨v,h3,Fd Z h4⟩
   ·have hi:i<T.length+ix.length:=by
     have h2:i<(jf T.length ix δ).length:=by
      rcases lu i (jf T.length ix δ).length with z|z
      ·exact z
      ·rw[bA z]at h1;cases h1
     unfold jf at h2;simpa using h2
    rw[O i hi]at hn
    cases hn
  refine sH (Q:=uI X Q) J I S E hD (Mw bG) λH2 xs s2 Y rs=>Or.inr ⟨a,o,dkI qs,lo,s2 _ _ bG,?_⟩
  have sm:Same H (upd H2 a (.dK (dkI qs))):=λb u hb=>by
   by_cases z:b=a
   ·subst z;have:=s1 _ _ hb;rw[Z]at this;rw[bG];exact this
   ·rw[bf z];exact s2 b u (by rw[bf z];exact s1 b u hb)
  refine q _ _ sm (.inr ⟨Dl,xs,r,rfl,rfl,s1.free (by rw[bf U]at hD;exact hD),by rw[bf U];exact Y,?_⟩);refine(nj (s2 _ _ bG) rs).imp (λb z=>⟨?_,z.2⟩) (λz=>z);have V:=z.1;unfold okN at V ⊢;have hb:b≠a:=λw=>by rw[w,bG]at V;cases V
  rw[bf hb]at V;exact s1.free V
 ·refine .inr ⟨o,Z,λDl hD=>?_⟩;have I:Rel X.K fl' ⟨H1,H1,λ_=>none,λ_=>[],W.tb,λ_=>none⟩ ow0 (oU T.length ix σ) H1 (jf T.length ix δ):=W;refine sH (Q:=uI X Q) J I S E hD (Mw Z) λH2 xs s2 Y rs=>Or.inl (q _ _ (s1.trans s2) (.inr ⟨Dl,xs,r,rfl,rfl,s1.free hD,Y,rs.imp (λb z=>⟨s1.free z.1,z.2⟩) (λz=>z)⟩))
theorem Mx(hc:X.calm=true)(T O:List Str)(ix:List Nat)(hi:DE X fl .P iter fx)
 (hg:∀cl C U Y fp,DG (blk X (T++O) scope cl C U Y fp) fl' TT tg g) (ht:∀cl C U Y fp,PTs (blk X (T++O) scope cl C U Y fp) ifs (tDT X.K fl' ft)) (he:∀cl C U Y fp,DE (blk X (T++O) scope cl C U Y fp) fl' .C elt f)
 (hfl:∀i,i<T.length+ix.length->fl'[i]? = some .A:=by decide) (htg:∀j∈TT,j<T.length:=by decide)
 (hB:vM X.N X.env.scope.names scope.names O ix=true:=by rfl) (hk:scope.kind = .function:=by rfl) (J:∀y∈scope.names,y.2 ≠ .cell:=by decide +kernel)
 (q:∀x∈scope.names,x.2 = .local->scope.names.lookup x.1=some .local:=by decide +kernel)
 (hfr:∀x∈scope.names,x.2 = .free->x.1∈O:=by decide +kernel) (hs:∀x,foldedSetIterable iter X.env x=pure x:=by intro _;rfl) :
 DE X fl .FC (.ListComp elt [⟨tg,iter,ifs,0⟩] scope pos) (jH (BJ fx) g ft f T.length ix):=by
 intro pins s σ H Q I h;have run:=yS (g:=tDG X.K fl' TT g) (tt:=tDT X.K fl' ft) (te:=tD X.K fl' .C f) (pos:=pos) hc T O ix (V0 hi) hg ht he hB hk J q hfr hs pins s σ H (uI X Q) I (Ro hfl htg h);refine thn run λv s' ⟨x,H2,V,W,Z⟩=>?_
 rcases Z with Z|⟨a,o,kvs,lo,ha,Z⟩
 ·exact⟨x,H2,V,W,Z⟩
 ·exact⟨x,_,BX V lo ha,W,Z⟩
end
end XK
namespace XK
theorem B_{M:eR}{A:dc}{E:Value->c9->Prop}{s:c9}{a:Addr}{Q:Option Obj->c9->Prop}(h:Q (s.heap.get? a) s):wpAny M A (loadIfAlive a) Q E s:=λ_ _ _=>h
abbrev xM(h:dl)(z q TI TO:Addr)(b:Bool):Prop:=
 h.get? z=some {cls:=.type "zip", dict:=none,data:=.fields #[rawInt q,.bool b,.bool false,.ref TI,.ref TO],slots:=#[]}
section
variable{prog:c_}{w:de}{A:dc}{E:Value->c9->Prop}{s:c9}
theorem wz{z q TI TO:Addr}{b:Bool}{O:Obj}{Q:Bool->c9->Prop}(hz:xM s.heap z q TI TO b)(U:s.heap.get? q=some O)(J:∀h',xM h' z q TI TO true->ew z s.heap h'->Q false {s with heap:=h'}):
 wpAny (model prog w) A (Builtin.SmallTypes.ownedTupleIsFree (.ref z)) Q E s:=by
 refine aa (aE hz rfl (x:=rawInt q) rfl ?_);refine aa (B_ ?_);rw[jC,U];refine aa (aE hz rfl (x:=.bool b) rfl ?_)
 cases b with
 |true=>
  exact ag (J s.heap hz ⟨rfl,λ_ _=>rfl⟩)
 |false=>
  refine aa (wpAny_setField_rec hz (by simp) λX Z Y=>ag (J X Z Y))
theorem Mz{z a0 TI TO i1 i2 l1 l2:Addr}{k1 k2:Nat}{xs ys:Array Value}{x y:Value}{b:Bool}{o0:Obj}{Q:Value->c9->Prop}(D:fg z TI TO i1 i2 l1 l2)
 (hz:xM s.heap z a0 TI TO b) (h0:s.heap.get? a0=some o0) (O:et s.heap TI (.ref i1) (.ref i2))
 (h1:s.heap.IsListIter i1 l1 k1) (h2:s.heap.IsListIter i2 l2 k2) (J:s.heap.IsList l1 xs) (q:s.heap.IsList l2 ys) (hx:xs[k1]? = some x) (hy:ys[k2]? = some y)
 (hQ:∀h',xM h' z a0 TI TO true->h'.IsListIter i1 l1 (k1+1)->h'.IsListIter i2 l2 (k2+1)->et h' s.heap.objs.size x y ->
  (∀c o,c≠z->c≠i1->c≠i2->s.heap.get? c=some o->h'.get? c=some o)->Q (.ref s.heap.objs.size) {s with heap:=h'}) :
 wpAny (model prog w) A (eF.«zip.__next__» ⟨[.ref z],[]⟩) (λfin s'=>∃v,fin = .done (.ret v)/\Q v s') E s:=by
 show wpAny _ _ (field (.ref z) 2 >>= _) _ _ _;refine aa (aE hz rfl (x:=.bool false) rfl ?_);refine aa (aE hz rfl (x:=.ref TI) rfl ?_);refine aa (ba O rfl ?_);refine aa (wz hz h0 λK U Z=>?_);simp only[fB,if_false];refine aa ?_;simp only[<-qj,ou,List.forIn_nil];refine aa (aa (az ?_));refine aa (bE (h1.extBut Z.extBut D.i1z) (J.extBut Z.extBut D.l1z) hx λL S Y=>ag (ag ?_));refine aa (aa (az ?_));refine aa (bE ((h2.extBut Z.extBut D.i2z).extBut Y.extBut D.i12.symm) ((q.extBut Z.extBut D.l2z).extBut Y.extBut D.l2i1) hy λW T X=>ag (ag (ag ?_)));show wpAny _ _ (newTuple [x,y] >>= _) _ _ _;refine aa (wpAny_newTuple (ag ⟨_,rfl,?_⟩));have R:W.objs.size=s.heap.objs.size:=by rw[X.1,Y.1,Z.1]
 have k3:∀c o,c≠z->c≠i1->c≠i2->s.heap.get? c=some o->W.get? c=some o:=λc o M N P e=>X.extBut _ _ P (Y.extBut _ _ N (Z.extBut _ _ M e))
 have V:=X.extBut _ _ D.i2z.symm (Y.extBut _ _ D.i1z.symm U);have up:∀c o,W.get? c=some o->(W.push {cls:=.type "tuple", data:=.seq #[x,y]}).get? c=some o:=λc o e=>ae _ e
 rw[R];refine hQ _ (up _ _ V) (((S.extBut X.extBut D.i12)).at λo e=>up _ o e) (T.at λo e=>up _ o e) ?_ λc o M N P e=>up c o (k3 c o M N P e)
 rw[<-R];exact ah _ rfl
theorem MF{z a0 TI TO i1 i2 l1 l2:Addr}{k1 k2:Nat}{xs ys:Array Value}{b:Bool}{o0:Obj}{Q:Fin->c9->Prop}(hh:A.handled=none)(D:fg z TI TO i1 i2 l1 l2)
 (hz:xM s.heap z a0 TI TO b) (h0:s.heap.get? a0=some o0) (hTI:et s.heap TI (.ref i1) (.ref i2))
 (h1:s.heap.IsListIter i1 l1 k1) (h2:s.heap.IsListIter i2 l2 k2) (q:s.heap.IsList l1 xs) (O:s.heap.IsList l2 ys) (J:xs[k1]? = none\/ys[k2]? = none)
 (hE:∀h' e,(∀c o,c≠z->c≠i1->c≠i2->s.heap.get? c=some o->h'.get? c=some o)->(∃o,h'.get? e=some o/\o.cls = .type "StopIteration")->E (.ref e) {s with heap:=h'}) :
 wpAny (model prog w) A (eF.«zip.__next__» ⟨[.ref z],[]⟩) Q E s:=by
 show wpAny _ _ (field (.ref z) 2 >>= _) _ _ _;refine aa (aE hz rfl (x:=.bool false) rfl ?_);refine aa (aE hz rfl (x:=.ref TI) rfl ?_);refine aa (ba hTI rfl ?_);refine aa (wz hz h0 λN U Z=>?_);simp only[fB,if_false];refine aa ?_;simp only[<-qj,ou,List.forIn_nil];refine aa (aa (az ?_))
 cases hx:xs[k1]? with
 |none=>
  refine aa (wpAny_nextOf_list_end hh (h1.extBut Z.extBut D.i1z) (q.extBut Z.extBut D.l1z) hx λX e Y T=>?_);exact hE X e (λc o P R _ x=>Y _ _ R (Z.extBut _ _ P x)) T
 |some x=>
  have M:ys[k2]? = none:=by rcases J with h|h;rw[hx]at h;cases h;exact h
  refine aa (bE (h1.extBut Z.extBut D.i1z) (q.extBut Z.extBut D.l1z) hx λX S Y=>ag (ag ?_));refine aa (aa (az ?_));refine aa (wpAny_nextOf_list_end hh ((h2.extBut Z.extBut D.i2z).extBut Y.extBut D.i12.symm) ((O.extBut Z.extBut D.l2z).extBut Y.extBut D.l2i1) M λV e W T=>?_);exact hE V e (λc o P R L x=>W _ _ L (Y.extBut _ _ R (Z.extBut _ _ P x))) T
theorem Jv{z U TI TO i1 i2 l1 l2:Addr}{k1 k2:Nat}{xs ys:Array Value}{x y:Value}{b:Bool}{Y:Obj}{Q:Option Value->c9->Prop}(D:fg z TI TO i1 i2 l1 l2)
 (hz:xM s.heap z U TI TO b) (h0:s.heap.get? U=some Y) (O:et s.heap TI (.ref i1) (.ref i2))
 (h1:s.heap.IsListIter i1 l1 k1) (h2:s.heap.IsListIter i2 l2 k2) (J:s.heap.IsList l1 xs) (q:s.heap.IsList l2 ys) (hx:xs[k1]? = some x) (hy:ys[k2]? = some y)
 (hQ:∀h',xM h' z U TI TO true->h'.IsListIter i1 l1 (k1+1)->h'.IsListIter i2 l2 (k2+1)->et h' s.heap.objs.size x y ->
  (∀c o,c≠z->c≠i1->c≠i2->s.heap.get? c=some o->h'.get? c=some o)->Q (some (.ref s.heap.objs.size)) {s with heap:=h'}) :
 wpAny (model prog w) A (pyNext (.ref z)) Q E s:=by
 have Z:s.TypeIs (.ref z) "zip" := ⟨_,hz,rfl⟩;exact aa (wpAny_attempt (wpAny_callSpecial?_slot (name:=dn "__next__") Z bP
  (cw bP Z F.entry_zip_next (Mz D hz h0 O h1 h2 J q hx hy λh' a1 a2 a3 a4 a5=>ag (hQ h' a1 a2 a3 a4 a5)) (F.args_zip_next_1 _))))
theorem Jw{z Y TI TO i1 i2 l1 l2:Addr}{k1 k2:Nat}{xs ys:Array Value}{b:Bool}{o0:Obj}{Q:Option Value->c9->Prop}(hh:A.handled=none)(D:fg z TI TO i1 i2 l1 l2)
 (hz:xM s.heap z Y TI TO b) (h0:s.heap.get? Y=some o0) (U:et s.heap TI (.ref i1) (.ref i2))
 (h1:s.heap.IsListIter i1 l1 k1) (h2:s.heap.IsListIter i2 l2 k2) (O:s.heap.IsList l1 xs) (J:s.heap.IsList l2 ys) (q:xs[k1]? = none\/ys[k2]? = none)
 (hQ:∀h',(∀c o,c≠z->c≠i1->c≠i2->s.heap.get? c=some o->h'.get? c=some o)->Q none {s with heap:=h'}):wpAny (model prog w) A (pyNext (.ref z)) Q E s:=by
 have Z:s.TypeIs (.ref z) "zip" := ⟨_,hz,rfl⟩;refine aa (wpAny_attempt (wpAny_callSpecial?_slot (name:=dn "__next__") Z bP
  (cw bP Z F.entry_zip_next (MF hh D hz h0 U h1 h2 O J q λh' e W V=>?_) (F.args_zip_next_1 _))))
 obtain⟨o,X,S⟩:=V;refine aa (wpAny_isInstance (T := "StopIteration") (b:=true) ⟨o,X,S⟩ isSubtype_stop ?_);exact ag (hQ _ W)
end
end XK
namespace XK
structure LZ(h:dl)(base:Nat)(z TI TO i1 i2 l1 l2 S:Addr)(xs ys:Array Value)(i:Nat)(acc:Array Value):Prop where
 ti:et h TI (.ref i1) (.ref i2)
 j1:h.IsListIter i1 l1 i
 j2:h.IsListIter i2 l2 i
 q1:h.IsList l1 xs
 q2:h.IsList l2 ys
 zz:(i=0/\IsZip h z TI TO .none/\∃a b,et h TO a b)\/∃a0 b o0,base<=a0/\xM h z a0 TI TO b/\h.get? a0=some o0
 sz:base<=h.objs.size
 al:acc.size=i
 ac:∀j,j<i->∃a x y,acc[j]? = some (.ref a)/\base<=a/\xs[j]? = some x/\ys[j]? = some y/\et h a x y
 inj:∀(j j':Nat)(a:Addr),acc[j]? = some (.ref a)->acc[j']? = some (.ref a)->j=j'
 ss:∃c,h.get? S=some {cls:=.type "list", dict:=none,data:=.seq acc c,slots:=#[]}
section
variable{prog:c_}{w:de}{A:dc}{R:Result->c9->Prop}{z TI TO i1 i2 l1 l2 S:Addr}{xs ys:Array Value}{base:Nat}
theorem Rp(hh:A.in1.handled=none)(D:fg z TI TO i1 i2 l1 l2)(res:Value)(hb:∀c,c∈[z,TI,TO,i1,i2,l1,l2,S]->c<base)(hS:S∉[z,TI,TO,i1,i2,l1,l2])(hn:xs.size<=sizeLine):
 ∀(k i:Nat)(s:c9)(acc:Array Value),min xs.size ys.size-i=k->i<=min xs.size ys.size->LZ s.heap base z TI TO i1 i2 l1 l2 S xs ys i acc ->
 (∀h' J,(∀c o,c∉[z,TO,i1,i2,S]->s.heap.get? c=some o->h'.get? c=some o)->J.size=min xs.size ys.size ->
  (∀j,j<min xs.size ys.size->∃a x y,J[j]? = some (.ref a)/\base<=a/\xs[j]? = some x/\ys[j]? = some y/\et h' a x y)->(∀(j j':Nat)(a:Addr),J[j]? = some (.ref a)->J[j']? = some (.ref a)->j=j') ->
  (∃c,h'.get? S=some {cls:=.type "list", dict:=none,data:=.seq J c,slots:=#[]})->R (.ok (.ret res)) {s with heap:=h'}) ->
 codeAny (model prog w) A (.builtin "list.extend.loop" ⟨[.ref S,.ref z,res],[]⟩) R s:=by
 have K:S≠z:=λe=>hS (by simp[e])
 have h:S≠TI:=λe=>hS (by simp[e])
 have B:S≠TO:=λe=>hS (by simp[e])
 have H:S≠i1:=λe=>hS (by simp[e])
 have I:S≠i2:=λe=>hS (by simp[e])
 have l:S≠l1:=λe=>hS (by simp[e])
 have m:S≠l2:=λe=>hS (by simp[e])
 have ne:∀c,c∈[z,TI,TO,i1,i2,l1,l2,S]->∀a:Addr,base<=a->a≠c:=λc Y a ha q=>cV.mpr ha (by rw[q];exact hb c Y)
 intro k
 induction k with
 |zero=>
  intro i s acc hk hi L g;have hin:i=min xs.size ys.size:=by omega
  have P:xs[i]? = none\/ys[i]? = none:=by
   rcases Nat.le_total xs.size ys.size with z|z
   ·exact .inl (eN (by omega))
   ·exact .inr (eN (by omega))
  refine aI F.entry_extend_loop ?_;rw[ay cb _];have T:∀h',(∀c o,c≠z->c≠TO->c≠i1->c≠i2->s.heap.get? c=some o->h'.get? c=some o)->R (.ok (.ret res)) {s with heap:=h'}:=λh' X=>by
   have up:=λa o ha e=>X a o (ne z (by simp) _ ha) (ne TO (by simp) _ ha) (ne i1 (by simp) _ ha) (ne i2 (by simp) _ ha) e
   obtain⟨c,Y⟩:=L.ss;have V:=X S _ K B H I Y;refine g h' acc (λc o Y e=>X c o (λq=>Y (by simp[q])) (λq=>Y (by simp[q])) (λq=>Y (by simp[q])) (λq=>Y (by simp[q])) e) (by rwa[L.al]) (λj t=>?_) L.inj ⟨c,V⟩
   ·obtain⟨a,x,y,h1,h2,h3,h4,h5⟩:=L.ac j (by omega);exact⟨a,x,y,h1,h2,h3,h4,up a _ h2 h5⟩
  rcases L.zz with⟨E,N,a,b,M⟩|⟨Q,b,O,_,N,E⟩
  ·exact aa (wpAny_pyNext_zip_end hh D N L.ti M L.j1 L.j2 L.q1 L.q2 P λh' X=>ag (T h' X))
  ·exact aa (Jw hh D N E L.ti L.j1 L.j2 L.q1 L.q2 P λh' X=>ag (T h' λc o c1 _ c3 c4 e=>X c o c1 c3 c4 e))
 |succ k ih=>
  intro i s acc hk hi L g;have hlt:i<min xs.size ys.size:=by omega
  obtain⟨x,hx⟩:∃x,xs[i]? = some x:=⟨_,iW (by omega)⟩;obtain⟨y,p⟩:∃y,ys[i]? = some y:=⟨_,iW (by omega)⟩;refine aI F.entry_extend_loop ?_;rw[ay cb _];show wpAny _ A.in1 (pyNext (.ref z) >>= _) _ _ s;have step:∀(h':dl),(∃Q b O,base<=Q/\xM h' z Q TI TO b/\h'.get? Q=some O)->h'.IsListIter i1 l1 (i+1)->h'.IsListIter i2 l2 (i+1)->et h' s.heap.objs.size x y ->
   (∀c o,c≠z->c≠TO->c≠i1->c≠i2->s.heap.get? c=some o->h'.get? c=some o) ->
   wpAny (model prog w) A.in1 (updateSeq S (·.push (.ref s.heap.objs.size)) >>= λ_=>again (.builtin "list.extend.loop" ⟨[.ref S,.ref z,res],[]⟩)) (λT s'=>match T with | .done f=>R (.ok f) s' | .again c'=>c'.quiet=true/\codeAny (model prog w) A c' R s') (λe s'=>R (.error e) s') {s with heap:=h'}:=λh' g1 g3 v G W=>by
   obtain⟨c,Y⟩:=L.ss;have V:=W S _ K B H I Y;have up:∀a o,base<=a->s.heap.get? a=some o->h'.get? a=some o:=λa o ha e=>W a o (ne z (by simp) _ ha) (ne TO (by simp) _ ha) (ne i1 (by simp) _ ha) (ne i2 (by simp) _ ha) e
   have Z:∀b o,b≠S->h'.get? b=some o->(h'.update S (eb (·.push (.ref s.heap.objs.size)))).get? b=some o:=λb o hb e=>(ai _ _ (df hb)).trans e
   refine aa ?_;refine bb V rfl (ag ⟨a_ cb _,ih (i+1) _ (acc.push (.ref s.heap.objs.size)) (by omega) (by omega) ⟨?_,?_,?_,?_,?_,?_,?_,?_,?_,?_,?_⟩ λd J C e2 e3 e4 e5=>?_⟩)
    (by rw[L.al];omega) (by show(acc.push _).size<=sizeLine+1;rw[Array.size_push,L.al];omega)
   ·exact Z _ _ (df h) (W _ _ D.TIz D.TITO D.TIi1 D.TIi2 L.ti)
   ·exact g3.at λo e=>Z _ o (df H) e
   ·exact v.at λo e=>Z _ o (df I) e
   ·obtain⟨o,n,r⟩:=L.q1;exact⟨o,Z _ _ (df l) (W _ _ D.l1z D.l1TO D.l1i1 D.l1i2 n),r⟩
   ·obtain⟨o,n,r⟩:=L.q2;exact⟨o,Z _ _ (df m) (W _ _ D.l2z D.l2TO D.l2i1 D.l2i2 n),r⟩
   ·obtain⟨Q,b,O,k1,k2,k3⟩:=g1;exact .inr ⟨Q,b,O,k1,Z _ _ (df K) k2,Z _ _ (ne S (by simp) _ k1) k3⟩
   ·show base<=(h'.update S _).objs.size;rw[bj];exact aZ L.sz (dB (af G))
   ·rw[Array.size_push,L.al]
   ·intro j t;by_cases q:j=i
    ·subst q;exact⟨_,x,y,by rw[<-L.al];simp,L.sz,hx,p,Z _ _ (ne S (by simp) _ L.sz) G⟩
    ·obtain⟨a,x',y',k1,k2,k3,k4,k5⟩:=L.ac j (by omega);refine⟨a,x',y',?_,k2,k3,k4,Z _ _ (ne S (by simp) _ k2) (up a _ k2 k5)⟩;rw[Array.getElem?_push_lt (by rw[L.al];omega)];rw[iW (by rw[L.al];omega)]at k1;exact k1
   ·have lt:∀(j:Nat)(a:Addr),acc[j]? = some (.ref a)->a<s.heap.objs.size/\j<i:=λj a e=>by
     have t:j<i:=by
      rcases lu j acc.size with q|q
      ·rw[L.al]at q;exact q
      ·rw[eN q]at e;cases e
     obtain⟨a',x',y',k1,k2,k3,k4,k5⟩:=L.ac j t;rw[e]at k1
     cases k1;exact⟨af k5,t⟩
    have cs:∀(j:Nat)(a:Addr),(acc.push (.ref s.heap.objs.size))[j]? = some (.ref a)->(acc[j]? = some (.ref a))\/(j=i/\a=s.heap.objs.size):=λj a e=>by
     rw[Array.getElem?_push]at e;by_cases q:j=acc.size
     ·rw[if_pos q]at e
      cases e;exact .inr ⟨by rw[q,L.al],rfl⟩
     ·rw[if_neg q]at e;exact .inl e
    intro j j' a e e';rcases cs j a e with q|⟨q,r⟩<;>rcases cs j' a e' with u|⟨u,r'⟩
    ·exact L.inj j j' a q u
    ·exact absurd (lt j a q).1 (by rw[r'];exact dw _)
    ·exact absurd (lt j' a u).1 (by rw[r];exact dw _)
    ·rw[q,u]
   ·exact⟨_,am _ V rfl⟩
   ·exact g d J (λc o Y e=>C c o Y (Z c o (λq=>Y (by simp[q])) (W c o (λq=>Y (by simp[q])) (λq=>Y (by simp[q])) (λq=>Y (by simp[q])) (λq=>Y (by simp[q])) e))) e2 e3 e4 e5
  rcases L.zz with⟨E,N,a,b,M⟩|⟨Q,b,O,U,N,E⟩
  ·refine aa (wpAny_pyNext_zip_item D N L.ti M L.j1 L.j2 L.q1 L.q2 hx p λh' g1 g2 g3 v G g6 W=>?_);exact step h' ⟨s.heap.objs.size,false,_,L.sz,g1,G⟩ g3 v G W
  ·refine aa (Jv D N E L.ti L.j1 L.j2 L.q1 L.q2 hx p λh' g1 g3 v G W=>?_);exact step h' ⟨Q,true,O,U,g1,W Q O (ne z (by simp) _ U) (ne i1 (by simp) _ U) (ne i2 (by simp) _ U) E⟩ g3 v G λc o c1 _ c3 c4 e=>W c o c1 c3 c4 e
end
end XK
namespace XK
theorem Fe:typeLookup (.type "zip") "__len__"=pure none:=by rw[bS,bo];kernel_rfl
theorem Ca:typeLookup (.type "zip") "__length_hint__"=pure none:=by rw[bS,bo];kernel_rfl
section
variable{prog:c_}{w:de}{A:dc}{E:Value->c9->Prop}{s:c9}
theorem MJ{z:Addr}{Q:Bool->c9->Prop}(q:s.TypeIs (.ref z) "zip")(h:Q true s):wpAny (model prog w) A (Builtin.List.listLengthHint (.ref z)) Q E s:=by
 refine aa (cz q Fe ?_);exact aa (cz q Ca (ag h))
theorem MK{z TI TO i1 i2 l1 l2:Addr}{xs ys:Array Value}{a b:Value}{Q:Value->c9->Prop}(hh:A.handled=none)(D:fg z TI TO i1 i2 l1 l2)(hz:IsZip s.heap z TI TO .none)(hTI:et s.heap TI (.ref i1) (.ref i2))(hTO:et s.heap TO a b)
 (h1:s.heap.IsListIter i1 l1 0) (h2:s.heap.IsListIter i2 l2 0) (O:s.heap.IsList l1 xs) (J:s.heap.IsList l2 ys) (hn:xs.size<=sizeLine)
 (hQ:∀h' acc c,(∀c o,c∉[z,TO,i1,i2]->s.heap.get? c=some o->h'.get? c=some o)->acc.size=min xs.size ys.size ->
  (∀j,j<min xs.size ys.size->∃a x y,acc[j]? = some (.ref a)/\s.heap.objs.size<a/\xs[j]? = some x/\ys[j]? = some y/\et h' a x y)->(∀(j j':Nat)(a:Addr),acc[j]? = some (.ref a)->acc[j']? = some (.ref a)->j=j') ->
  h'.get? s.heap.objs.size=some {cls:=.type "list", dict:=none,data:=.seq acc c,slots:=#[]}->Q (.ref s.heap.objs.size) {s with heap:=h'}) :
 wpAny (model prog w) A (call (.type "list") [.ref z]) Q E s:=by
 refine callType_codes (Q₁:=λobj Y=>obj = .ref s.heap.objs.size/\Y={s with heap:=s.heap.push {cls:=.type "list", data:=.seq #[]} }) PySem.F.called_list (PySem.F.typeCall_list_1 _) PySem.F.entry_list_init (code_list_new _ ⟨rfl,rfl⟩) λobj Y g=>?_
 obtain⟨rfl,rfl⟩:=g;have N:(s.heap.push {cls:=.type "list", data:=.seq #[]}).get? s.heap.objs.size=some {cls:=.type "list", data:=.seq #[]}:=ah _ rfl;refine⟨⟨_,N,rfl⟩,PySem.F.args_list_init_2 _ _,?_⟩;refine aa ?_;refine aa (ba N rfl (ag ?_));refine aa (bb N rfl ?_);have U:=am (eb (λ_=>(#[]:Array Value))) N rfl;refine aa (cd ?_);have old:∀c o,s.heap.get? c=some o->c≠s.heap.objs.size:=λc o e=>bB (af e)
 have k2:∀c o,s.heap.get? c=some o->((s.heap.push {cls:=.type "list", data:=.seq #[]}).update s.heap.objs.size (eb (λ_=>(#[]:Array Value)))).get? c=some o:=λc o e=>
  (ai _ _ (df (old c o e))).trans (ae _ e)
 have W:((s.heap.push {cls:=.type "list", data:=.seq #[]}).update s.heap.objs.size (eb (λ_=>(#[]:Array Value)))).objs.size=s.heap.objs.size+1:=by rw[bj,cv]
 generalize (s.heap.push {cls:=.type "list", data:=.seq #[]}).update s.heap.objs.size (eb (λ_=>(#[]:Array Value)))=M at U k2 W;refine aa (cu (T := "zip") ⟨_,k2 _ _ hz,rfl⟩ ?_);have u:e_ (.ref s.heap.objs.size) (.ref z)=false:=by simp[e_,df (old z _ hz)]
 have v:(eM "zip"==eM "list")=false:=by decide
 have B:(eM "zip"==eM "tuple")=false:=by decide
 simp only[u,v,B,Bool.or_false,fB,if_false];refine aa (wpAny_pyIter_zip (k2 _ _ hz) ?_);refine aa (az (MJ ⟨_,k2 _ _ hz,rfl⟩ ?_));rw[if_pos (Bool.true_or _)];refine aa (wpAny_rule ?_);refine aa ?_;refine aa (bb U rfl ?_);have R:=am (eb (·.push dm)) U rfl;refine bb (hz:=by seq_fits) R rfl ?_;have S:=am (eb (·.pop)) R rfl;have Z:∀c o,s.heap.get? c=some o->((M.update s.heap.objs.size (eb (·.push dm))).update s.heap.objs.size (eb (·.pop))).get? c=some o:=λc o e=>
  (ai _ _ (df (old c o e))).trans ((ai _ _ (df (old c o e))).trans (k2 c o e))
 have X:((M.update s.heap.objs.size (eb (·.push dm))).update s.heap.objs.size (eb (·.pop))).objs.size=s.heap.objs.size+1:=by rw[bj,bj,W]
 generalize (M.update s.heap.objs.size (eb (·.push dm))).update s.heap.objs.size (eb (·.pop))=t at S Z X;have lt:∀c∈[z,TI,TO,i1,i2,l1,l2],c<s.heap.objs.size:=λc V=>by
  simp only[aN,dJ,or_false]at V;rcases V with rfl|rfl|rfl|rfl|rfl|rfl|rfl
  ·exact af hz
  ·exact af hTI
  ·exact af hTO
  ·obtain⟨o,e,_⟩:=h1;exact af e
  ·obtain⟨o,e,_⟩:=h2;exact af e
  ·obtain⟨o,e,_⟩:=O;exact af e
  ·obtain⟨o,e,_⟩:=J;exact af e
 refine ag ⟨a_ PySem.F.plain_extend_loop _,Rp (base:=s.heap.objs.size+1) (A:=A.in1) (xs:=xs) (ys:=ys) hh D .none (λc V=>?_) (λV=>dw _ (lt _ V)) hn _ 0 _ #[] rfl (fL _) ⟨Z _ _ hTI,h1.at λo e=>Z _ o e,h2.at λo e=>Z _ o e,?_,?_,.inl ⟨rfl,Z _ _ hz,a,b,Z _ _ hTO⟩,by rw[X];exact aP _,rfl,λj G=>absurd G (Nat.not_lt_zero _),λj j' c e=>by simp at e,⟨_,S⟩⟩ λh' P H f1 f2 C I=>?_⟩
 ·have K:c∈[z,TI,TO,i1,i2,l1,l2]\/c=s.heap.objs.size:=by
   simp only[aN,dJ,or_false]at V ⊢;rcases V with h|h|h|h|h|h|h|h<;>simp[h]
  rcases K with h|h
  ·exact rF (lt c h)
  ·rw[h];exact eX _
 ·obtain⟨o,L,r⟩:=O;exact⟨o,Z _ _ L,r⟩
 ·obtain⟨o,L,r⟩:=J;exact⟨o,Z _ _ L,r⟩
 ·obtain⟨c,I⟩:=I;refine⟨rfl,hQ h' P c (λd o hd e=>H d o (λq=>?_) (Z d o e)) f1 f2 C I⟩;simp only[aN,dJ,or_false]at q hd;rcases q with q|q|q|q|q
  ·exact hd (.inl q)
  ·exact hd (.inr (.inl q))
  ·exact hd (.inr (.inr (.inl q)))
  ·exact hd (.inr (.inr (.inr q)))
  ·exact old d o e q
end
end XK
namespace XK
open L2 My D3
theorem MN{X:Cx}{pins:List (Addr×Obj)}{σ:L2.St}{H H':Hp}{s:c9}{h':dl}{t':Nat}(I:L2.Inv X pins σ H s)(k:∀b u,s.heap.get? b=some u->h'.get? b=some u)(hb:∀b,b<s.heap.objs.size->H' b=H b)(hok:HOk X.prog X.w H' h'):
 L2.Inv X pins σ H' {s with heap:=h',toks:=t'}:=I.un {
 keep:=λb u q _ _ _=>k b u q
 slot:=λb u q _ _ _=>⟨u.slots,k b u q⟩
 free:=λb u q n _=>by rwa[hb b (af q)]
 there:=λb u q _=>⟨u,k b u q⟩
 tups:=λb xs q=>by rwa[hb b (I.hok.lt q)]
 frzs:=λb u xs q=>by rwa[hb b (I.hok.lt q)]
 tbls:=λb q p e=>by rw[hb b (I.hok.lt e)];exact e} hok
theorem Ug{P:Nat->Addr->Int->Int->Prop}:∀n,(∀j,j<n->∃a i k,P j a i k)->∃ts:List (Addr×Int×Int),ts.length=n/\∀j t,ts[j]? = some t->P j t.1 t.2.1 t.2.2
 |0,_=>⟨[],rfl,λj t h=>by simp at h⟩
 |n+1,h=>by
  obtain⟨ts,h1,h2⟩:=Ug n λj Y=>h j (by omega)
  obtain⟨a,i,k,X⟩:=h n (by omega);refine⟨ts++[(a,i,k)],by simp[h1],λj t e=>?_⟩;by_cases Y:j<ts.length
  ·rw[bR Y]at e;exact h2 j t e
  ·rw[bV (by omega)]at e;have Z:j-ts.length=0:=by
    rcases ji (j-ts.length)with z|z
    ·exact z
    ·rw[bA (by simp;omega)]at e;cases e
   rw[Z]at e
   cases e;rw[show j=n by omega];exact X
noncomputable def zP(H:Hp)(S:Addr)(vs:List V)(ts:List (Addr×Int×Int)):Hp:=λb=>if b=S then some (.lst vs)else match ts.find? (λt=>decide (t.1=b))with
 |some t=>some (.tup [.int t.2.1,.int t.2.2])
 |none=>H b
theorem MP{H:Hp}{S:Addr}{vs:List V}{ts:List (Addr×Int×Int)}:zP H S vs ts S=some (.lst vs):=by unfold zP;rw[if_pos rfl]
theorem M4{H:Hp}{S:Addr}{vs:List V}{ts:List (Addr×Int×Int)}(hi:∀(j j':Nat) (t t':Addr×Int×Int),ts[j]? = some t->ts[j']? = some t'->t.1=t'.1->j=j'){t:Addr×Int×Int}(q:t∈ts)(J:t.1≠S):zP H S vs ts t.1=some (.tup [.int t.2.1,.int t.2.2]):=by
 unfold zP;rw[if_neg J]
 cases e:ts.find? (λu=>decide (u.1=t.1))with
 |none=>
  have:=lE.mp e t q;simp at this
 |some t'=>
  have h1:=lO e;have h2:t'.1=t.1:=of_decide_eq_true (List.find?_some (p:=λu:Addr×Int×Int=>decide (u.1=t.1)) e);obtain⟨j,Y⟩:=fO q;obtain⟨j',Z⟩:=fO h1;have:=hi j j' t t' Y Z h2.symm;subst this;rw[Y]at Z
  cases Z;rfl
theorem M5{H:Hp}{S:Addr}{vs:List V}{ts:List (Addr×Int×Int)}{b:Addr}(h1:b≠S)(h2:∀t∈ts,t.1≠b):zP H S vs ts b=H b:=by
 unfold zP;rw[if_neg h1,lE.mpr λt Z=>by simp[h2 t Z]]
theorem wA:∀{l:List D}{ns:List Int},iz l=some ns->l=ns.map .int
 |[],_,e=>by cases e;rfl
 |d::r,ns,e=>by
  cases d<;>first|(cases e;done)|skip
  rename_i i;unfold iz at e
  cases Z:iz r with
  |none=>rw[Z]at e;cases e
  |some m=>
   rw[Z]at e
   cases e;rw[aM,wA Z]
theorem Hg{α:Type}{K:PySem.W.Frag}{ok:Ok}{pl:Bool}{H:Hp}(f:α->V)(g:α->D):∀l:List α,(∀a∈l,RA K ok pl H (f a) (g a))->RAs K ok pl H (l.map f) (l.map g)
 |[],_=>.nil
 |a::l,h=>.cons (h a aA) (Hg f g l λb hb=>h b (au _ hb))
section
variable{X:Cx}{fl:List Fl}{a b:Expr}{f g:FE}{p p2 pos pos2:Pos}
theorem Rq(ha:DE X fl .P a f)(hb:DE X fl .P b g)(hc:X.calm=true)(hg:Gl X "list")(hm:X.mg "list"=none)(hg2:Gl X "zip")(hm2:X.mg "zip"=none)
 (he:starEach [a,b] X.env=(false,eval a X.env)::starEach [b] X.env:=by rfl) (heb:starEach [b] X.env=(false,eval b X.env)::starEach [] X.env:=by rfl) (hpl:(backTo pos2 (starEach [b] X.env)).any (·.1)=false:=by rfl)
 (he2:starEach [.Call (.Name "zip" p2) [a,b] [] pos2] X.env=(false,eval (.Call (.Name "zip" p2) [a,b] [] pos2) X.env)::starEach [] X.env:=by rfl) (hpl2:(backTo pos (starEach [] X.env)).any (·.1)=false:=by rfl) :
 DE X fl .FC (.Call (.Name "list" p) [.Call (.Name "zip" p2) [a,b] [] pos2] [] pos) (dOp BK f g):=by
 intro pins s σ H Q I hq;refine D3.ex4 hq λG ow δ d R hf q=>?_
 refine D3.ex2 (uE hf) λx y e1 e2 e3=>?_
 unfold BK at e3;split at e3
 case h_2=>cases e3
 next l m=>
 refine D3.ex1 (bind1 e3) λns e4 e5=>?_
 refine D3.ex1 (bind1 e5) λU e6 e7=>?_
 by_cases hl:ns.length<=1000
 case neg=>rw[if_neg hl]at e7;cases e7
 rw[if_pos hl]at e7
 cases e7;refine av (lG I hg hm cB (du ?_ he2 hpl2));rw[he2];show wpAny _ _ (spliced ((false,eval (.Call (.Name "zip" p2) [a,b] [] pos2) X.env)::backTo pos (starEach [] X.env))) _ _ s;refine be ?_;refine av (lG I hg2 hm2 D3.boot_zip (du (thn ((f9 ha (f9 hb jF heb) he) pos2 pins s σ H (λvs H1=>∃v u,vs=[v,u]/\Same H H1/\RA X.K ok1 true H1 v (.list l)/\RA X.K ok1 true H1 u (.list m)) I
  ⟨G,ow,δ,_,R,e1,λv H1 s1 r1=>⟨G,ow,δ,_,R.grow s1,e2,λu H2 s2 r2=>⟨v,u,rfl,s1.trans s2,RA.same s2 r1,r2⟩⟩⟩) λus s1 ⟨vs,H1,M,r1,v,u,ev,E,rv,ru⟩=>?_) he hpl))
 subst ev;obtain⟨l1,xs,rfl,hx,hr⟩:=rv.lstE;obtain⟨l2,ys,rfl,hy,hr'⟩:=ru.lstE;obtain rfl:=lJ e4 hr;obtain rfl:=lJ e6 hr'
 cases r1 with
 |cons ra rb=>
 cases rb with
 |cons rb rc=>
 cases rc
 cases ra
 cases rb;obtain⟨its,C,pl,hz⟩:=M.list hx;obtain⟨Z,L,pl',hz'⟩:=M.list hy;have il:its.length=ns.length:=by rw[<-C.length,ak]
 have il':Z.length=U.length:=by rw[<-L.length,ak]
 refine call_zip_2 pl.isList pl'.isList λh' g1 g2 g3 g4 g5 g6 hk=>?_
 refine bp ?_;have q1:h'.IsList l1 its.toArray:=by
  obtain⟨o,ho,r⟩:=pl.isList;exact⟨o,hk _ _ ho,r⟩
 have q2:h'.IsList l2 Z.toArray:=by
  obtain⟨o,ho,r⟩:=pl'.isList;exact⟨o,hk _ _ ho,r⟩
 have Dz:=Jm g1 g2 g3 g4 g5 q1 q2 (bB (eX _)) (bB (eX _));refine MK (s:={s1 with heap:=h'}) (M.ok.hd hc) Dz g1 g2 g3 g4 g5 q1 q2 (by rw[bC,il];exact aZ hl (by decide)) λY acc c kk f1 f2 f3 f4=>?_
 replace kk:∀c o,c∉[s1.heap.objs.size+4,s1.heap.objs.size+3,s1.heap.objs.size,s1.heap.objs.size+1]->h'.get? c=some o->Y.get? c=some o:=kk
 replace f4:Y.get? h'.objs.size=some {cls:=.type "list", dict:=none,data:=.seq acc c,slots:=#[]}:=f4
 replace f2:∀j,j<min its.toArray.size Z.toArray.size->∃a x y,acc[j]? = some (.ref a)/\h'.objs.size<a/\its.toArray[j]? = some x/\Z.toArray[j]? = some y/\et Y a x y:=f2
 have fr:∀c,s1.heap.objs.size<=c->H1 c=none:=λc hc=>M.hok.fresh hc
 have kept:∀b u,s1.heap.get? b=some u->Y.get? b=some u:=λb u e=>kk b u (λz=>by
  have S:=af e;simp only[aN,bJ,dJ,or_false]at z;rcases z with z|z|z|z<;>rw[z]at S
  ·exact cV.mpr (mQ _ _) S
  ·exact cV.mpr (mQ _ _) S
  ·exact dw _ S
  ·exact cV.mpr (mQ _ _) S) (hk b u e)
 have sS:s1.heap.objs.size<=h'.objs.size:=by rw[g6];omega
 simp only[bC,il,il']at f1 f2;obtain⟨ts,tl,F⟩:=Ug (P:=λj a i k=>acc[j]? = some (.ref a)/\h'.objs.size<a/\ns[j]? = some i/\U[j]? = some k/\∃t u,et Y a (.int i t) (.int k u)) (min ns.length U.length) (λj N=>by
  obtain⟨a,x,y,k1,k2,k3,k4,k5⟩:=f2 j N;have A:j<ns.length:=by omega
  have B:j<U.length:=by omega
  have n1:(ns.map V.int)[j]? = some (.int ns[j]):=by rw[aO,aF A];rfl
  have n2:(U.map V.int)[j]? = some (.int U[j]):=by rw[aO,aF B];rfl
  obtain⟨u1,w1,r1⟩:=C.get n1;obtain⟨u2,w2,r2⟩:=L.get n2;obtain⟨t1,rfl⟩:=(show ∃t,u1=ec ns[j] t from r1);obtain⟨t2,rfl⟩:=(show ∃t,u2=ec U[j] t from r2);have ex:x = .int ns[j] t1:=by
   have:its[j]? = some x:=by simpa using k3
   rw[w1]at this;exact(cL.inj this).symm
  have ey:y = .int U[j] t2:=by
   have:Z[j]? = some y:=by simpa using k4
   rw[w2]at this;exact(cL.inj this).symm
  subst ex ey;exact⟨a,ns[j],U[j],k1,k2,aF A,aF B,t1,t2,k5⟩)
 have inj:∀(j j':Nat)(t t':Addr×Int×Int),ts[j]? = some t->ts[j']? = some t'->t.1=t'.1->j=j':=λj j' t t' h1 h2 h3=>by
  have a1:=(F j t h1).1;have a2:=(F j' t' h2).1;rw[<-h3]at a2;exact f3 j j' t.1 a1 a2
 have O:∀t∈ts,h'.objs.size<t.1/\∃u v,et Y t.1 (.int t.2.1 u) (.int t.2.2 v):=λt W=>by
  obtain⟨j,N⟩:=fO W;obtain⟨_,k2,_,_,k5⟩:=F j t N;exact⟨k2,k5⟩
 have J:acc.toList=ts.map λt=>db t.1:=by
  apply iw;intro j;rw[g_,aO];by_cases N:j<ts.length
  ·rw[aF N];exact(F j _ (aF N)).1
  ·rw[bA (by omega),eN (by omega)];rfl
 have tn:∀t∈ts,t.1≠h'.objs.size:=λt W=>rB (O t W).1
 have T:∀b,b<s1.heap.objs.size->zP H1 h'.objs.size (ts.map λt=>V.ref t.1) ts b=H1 b:=λb hb=>M5 (λz=>by rw[z]at hb;exact cV.mpr sS hb) λt W z=>by
  have:=(O t W).1;rw[z]at this;exact cV.mpr sS (jA this hb)
 have hok:HOk X.prog X.w (zP H1 h'.objs.size (ts.map λt=>V.ref t.1) ts) Y:=λb u e=>by
  by_cases h:b=h'.objs.size
  ·subst h;rw[MP]at e
   cases e;refine⟨by rw[ak,tl];exact aZ (aZ (Nat.min_le_left _ _) hl) (by decide),acc.toList,c,?_,by simpa using f4⟩;rw[J];clear F tl inj O J tn T
   induction ts with
   |nil=>exact .nil
   |cons t ts ih=>exact .cons rfl ih
  ·by_cases n:∃t∈ts,t.1=b
   ·obtain⟨t,W,rfl⟩:=n;rw[M4 inj W (tn t W)]at e
    cases e;obtain⟨_,v1,v2,k5⟩:=O t W;exact⟨show 2<=sizeLine by decide,[.int t.2.1 v1,.int t.2.2 v2],.cons ⟨v1,rfl⟩ (.cons ⟨v2,rfl⟩ .nil),⟨_,k5,rfl,_,rfl⟩⟩
   ·rw[M5 h λt W z=>n ⟨t,W,z⟩]at e;exact(M.hok b u e).stay (λc v _ r=>kept c v r) (λc r=>by rw[T c (M.hok.lt r)];exact r) λc xs r=>by rw[T c (M.hok.lt r)];exact r
 have sm:Same H1 (zP H1 h'.objs.size (ts.map λt=>V.ref t.1) ts):=λb u e=>by rw[T b (M.hok.lt e)];exact e
 have I2:=MN (t':=s1.toks) M kept T hok;have zl:qt l m=ts.map λt=>(.tuple [.int t.2.1,.int t.2.2]:D):=by
  have el:l=ns.map .int:=wA e4;have em:m=U.map .int:=wA e6;apply iw;intro j;rw[Bt,el,em,aO,aO,aO];by_cases N:j<ts.length
  ·obtain⟨_,_,k3,k4,_⟩:=F j _ (aF N);rw[k3,k4,aF N];rfl
  ·rw[bA (by omega:ts.length<=j)];rcases Nat.le_total ns.length U.length with z|z
   ·rw[bA (by omega:ns.length<=j)];rfl
   ·rw[bA (by omega:U.length<=j)]
    cases ns[j]? <;> rfl
 refine⟨.ref h'.objs.size,_,I2,rfl,q _ _ (E.trans sm) (.inr ⟨h'.objs.size,_,_,rfl,rfl,E.free (fr _ sS),MP,?_⟩)⟩;rw[zl];refine Hg _ _ ts λt W=>.tup (M4 inj W (tn t W)) (.cons (.int _) (.cons (.int _) .nil))
end
end XK
namespace XK
theorem Jx(a v:Value):argsOk "min" ⟨[a],[(dn "default", v)]⟩:=by unfold argsOk;kernel_rfl
section
variable{prog:c_}{w:de}{A:dc}{R:Result->c9->Prop}{I:Addr}{fp wr:List Addr}{n:Nat}{P:Nat->Value->Prop}{St:Nat->dl->Prop}{kw:List (Str×Value)}
theorem Jy(W:Walks prog w A.in1 I fp wr n P St)(bt:Nat->Nat->Bool)(hcmp:CmpOf prog w A.in1 .Lt P bt)(S:Addr)(hSf:S∉fp):
 ∀(k j:Nat)(s:c9)(q:Value)(c:Nat),n-(j+1)=k->j+1<=n->St (j+1) s.heap->P (argBest bt j) q ->
 s.heap.get? S=some {cls:=.type "list", dict:=none,data:=.seq #[q,q] c,slots:=#[]} ->
 (∀v h' tk,P (argBest bt (n-1)) v->(∀b o,b∉wr->b≠S->s.heap.get? b=some o->h'.get? b=some o)->R (.ok (.ret v)) {s with heap:=h',toks:=tk}) ->
 codeAny (model prog w) A (.builtin "min.loop" ⟨[.ref I,.none,.ref S],kw⟩) R s:=by
 have G:S∉wr:=λh=>hSf (W.sub _ h)
 have U:(toString "min"++toString ".loop":String)="min.loop" := by decide
 intro k
 induction k with
 |zero=>
  intro j s q c x u M O E D;have H:j+1=n:=by omega
  refine aI PySem.F.entry_min_loop ?_;rw[ay PySem.F.plain_min_loop _];show wpAny _ A.in1 (seqItems? (.ref S) >>= _) _ _ s;refine aa (ba E rfl ?_);show wpAny _ A.in1 (tryCatch (pyNext (.ref I)) _ >>= _) _ _ s;refine aa (bn (W.done s _ _ (H▸M) λh' tk Y=>?_));have Q:=Y S _ G E;show wpAny _ A.in1 (updateSeq S (λ_=>#[]) >>= _) _ _ _;refine aa ?_;refine bb Q rfl (aa (cd (ag ?_)));refine D q _ tk (by rw[<-H];exact O) λb o Z X e=>(ai _ _ (df X)).trans (Y b o Z e)
 |succ k z=>
  intro j s q c x u M O E D;have L:j+1<n:=by omega
  refine aI PySem.F.entry_min_loop ?_;rw[ay PySem.F.plain_min_loop _];show wpAny _ A.in1 (seqItems? (.ref S) >>= _) _ _ s;refine aa (ba E rfl ?_);show wpAny _ A.in1 (tryCatch (pyNext (.ref I)) _ >>= _) _ _ s;refine aa (bn (W.item (j+1) s _ _ L M λv h' tk y N Y=>?_));have Q:=Y S _ G E;show wpAny _ A.in1 (tryCatch (holding [v,v] (richCompare .Lt v q >>= _)) _ >>= _) _ _ _;refine aa (bn (az (aa (hcmp (j+1) (argBest bt j) v q _ _ _ y O ?_))));refine aa (az (ax ?_));refine aa (cd (ag ?_))
  cases hb:bt (j+1) (argBest bt j)with
  |true=>
   simp only[if_true];refine aa ?_;refine bb Q rfl (aa (cd ?_));rw[U];refine ag ⟨a_ PySem.F.plain_min_loop _,z (j+1) _ v _ (by omega) L (W.frame _ _ _ N λb B o e=>?_) (by simp only[argBest,hb,if_true];exact y) (am _ Q rfl)
    λC J V K T=>?_⟩
   ·exact(ai _ _ (λh:S=b=>hSf (by rw[h];exact B))).trans e
   ·exact D C J V K λb o Z X e=>T b o Z X ((ai _ _ (df X)).trans (Y b o Z e))
  |false=>
   simp only[fB,if_false];refine aa (cd ?_);rw[U];refine ag ⟨a_ PySem.F.plain_min_loop _,z (j+1) _ q c (by omega) L N (by simp only[argBest,hb,fB,if_false];exact O) Q λC J V K T=>?_⟩;exact D C J V K λb o Z X e=>T b o Z X (Y b o Z e)
theorem Fg(W:Walks prog w A.in1 I fp wr n P St)(bt:Nat->Nat->Bool)(J:CmpOf prog w A.in1 .Lt P bt)(S:Addr)(q:S∉fp)(hn:0<n){s:c9}{c:Nat}(hst:St 0 s.heap)
 (hS:s.heap.get? S=some {cls:=.type "list", dict:=none,data:=.seq #[] c,slots:=#[]})
 (hR:∀v h' tk,P (argBest bt (n-1)) v->(∀b o,b∉wr->b≠S->s.heap.get? b=some o->h'.get? b=some o)->R (.ok (.ret v)) {s with heap:=h',toks:=tk}) :
 codeAny (model prog w) A (.builtin "min.loop" ⟨[.ref I,.none,.ref S],kw⟩) R s:=by
 have M:S∉wr:=λh=>q (W.sub _ h)
 have Z:(toString "min"++toString ".loop":String)="min.loop" := by decide
 refine aI PySem.F.entry_min_loop ?_;rw[ay PySem.F.plain_min_loop _];show wpAny _ A.in1 (seqItems? (.ref S) >>= _) _ _ s;refine aa (ba hS rfl ?_);show wpAny _ A.in1 (tryCatch (pyNext (.ref I)) _ >>= _) _ _ s;refine aa (bn (W.item 0 s _ _ hn hst λv h' tk G X U=>?_));have O:=U S _ M hS;show wpAny _ A.in1 (updateSeq S (λ_=>#[v,v]) >>= _) _ _ _;refine aa ?_;refine bb O rfl ?_;rw[Z];refine ag ⟨a_ PySem.F.plain_min_loop _,Jy W bt J S q _ 0 _ v _ rfl hn (W.frame _ _ _ X λb N o e=>?_) G (am _ O rfl) λH K Y L V=>?_⟩
 ·exact(ai _ _ (λh:S=b=>q (by rw[h];exact N))).trans e
 ·exact hR H K Y L λb o T Q e=>V b o T Q ((ai _ _ (df Q)).trans (U b o T e))
theorem Jz{d:Value}{nm:Str}(W:Walks prog w A.in1 I fp wr 0 P St)(S:Addr)(J:S∉fp){s:c9}{c:Nat}(q:St 0 s.heap)
 (O:s.heap.get? S=some {cls:=.type "list", dict:=none,data:=.seq #[] c,slots:=#[]})
 (U:∀h' tk,(∀b o,b∉wr->b≠S->s.heap.get? b=some o->h'.get? b=some o)->R (.ok (.ret d)) {s with heap:=h',toks:=tk}) :
 codeAny (model prog w) A (.builtin "min.loop" ⟨[.ref I,.none,.ref S],[(nm,d)]⟩) R s:=by
 refine aI PySem.F.entry_min_loop ?_;rw[ay PySem.F.plain_min_loop _];show wpAny _ A.in1 (seqItems? (.ref S) >>= _) _ _ s;refine aa (ba O rfl ?_);show wpAny _ A.in1 (tryCatch (pyNext (.ref I)) _ >>= _) _ _ s;refine aa (bn (W.done s _ _ q λh' tk Z=>?_));show wpAny _ A.in1 (rule _ >>= λ_=>ret d) _ _ _;exact aa (wpAny_rule (ag (U h' tk λb o Y X e=>Z b o Y e)))
end
section
variable{prog:c_}{w:de}{A:dc}{E:Value->c9->Prop}{s:c9}
theorem JB{x d:Value}{Q:Value->c9->Prop}
 (h:wpAny (model prog w) A.in1 (pyIter x) (λit q=>∃I fp wr n P St J,it = .ref I/\Walks prog w A.in1 I fp wr n P St/\St 0 q.heap/\(∀b∈fp,b<q.heap.objs.size)/\CmpOf prog w A.in1 .Lt P J /\
  (0<n->∀v h' tk,P (argBest J (n-1)) v->(∀b o,b∉wr->q.heap.get? b=some o->h'.get? b=some o)->Q v {q with heap:=h',toks:=tk}) /\
  (n=0->∀h' tk,(∀b o,b∉wr->q.heap.get? b=some o->h'.get? b=some o)->Q d {q with heap:=h',toks:=tk})) E s) :
 wpAny (model prog w) A (call (.builtin "min") [x] [(dn "default", d)]) Q E s:=by
 have Z:(toString "min"++toString ".loop":String)="min.loop" := by decide
 refine PyProof.Rows.kmb_tree PySem.F.kind_min PySem.F.plain_min PySem.F.entry_min (Jx _ _) ?_;show wpAny _ A.in1 (eP "min" ["key", "default"] 0 ⟨[],[(dn "default", d)]⟩ >>= _) _ _ s;refine aa (wpAny_of_eq (show eP "min" ["key", "default"] 0 ⟨[],[(dn "default", d)]⟩=pure [none,some d]from rfl) ?_);refine aa (ag ?_);refine aa (ar h (λit q X=>?_) λ_ _ e=>e);obtain⟨I,fp,wr,n,P,St,J,rfl,W,V,R,U,N,O⟩:=X;refine aa (ck ?_);have T:q.heap.objs.size∉fp:=λhm=>dw _ (R _ hm)
 rw[Z];rcases ji n with hn|hn
 ·subst hn;refine ag ⟨a_ PySem.F.plain_min_loop _,Jz W q.heap.objs.size T (W.frame _ _ _ V λb _ o e=>ae _ e) (ah _ rfl) λh' tk S=>?_⟩;exact O rfl h' tk λb o Y e=>S b o Y (bB (af e)) (ae _ e)
 ·refine ag ⟨a_ PySem.F.plain_min_loop _,Fg W J U q.heap.objs.size T hn (W.frame _ _ _ V λb _ o e=>ae _ e) (ah _ rfl) λv h' tk M S=>?_⟩;exact N hn v h' tk M λb o Y e=>S b o Y (bB (af e)) (ae _ e)
end
end XK
namespace XK
open L2 My D3
theorem Yr{K:PySem.W.Frag}{H H':Hp}{a:Addr}{xs:List V}(e:Same H H')(h:SqL K H a xs):SqL K H' a xs:=by
 rcases h with(h|⟨o,h⟩)|h
 ·exact .inl (.inl (e _ _ h))
 ·exact .inl (.inr ⟨o,e _ _ h⟩)
 ·exact .inr h
section
variable{X:Cx}{fl:List Fl}{e z:Expr}{fa:FA}{fz:FE}{p pos kpos:Pos}
theorem Rr(hc:X.calm=true){pins:List (Addr×Obj)}{s:c9}{σ:L2.St}{H:Hp}(I:L2.Inv X pins σ H s){q:Addr}{ns:List Int}(hx:SqL X.K H q (ns.map V.int)){u:Value}{Q:VK}{J:V}(rz:RelV J u)(h1:∀i r,ns=i::r->Q (.int (mnI i r)) H)(h0:ns=[]->Q J H):
 wpAny (model X.prog X.w) X.A (PySem.call (.builtin "min") [.ref q] [(dn "default", u)]) (EP X pins σ Q) X.xe s:=by
 obtain⟨its,S,pl,B⟩:=I.list hx;have hi:=oZ S;obtain⟨xs,e⟩:=hi.allInts.items;have Z:ns=xs.toList.map (·.1):=by rw[<-hi.numsOf,<-nums_intItems,<-e]
 have U:ns.length=xs.size:=by rw[Z,ak,cH]
 have F:s.heap.IsList q (intItems xs):=e▸pl.isList;refine JB (iter_intList F λN C st O R=>?_);subst C;refine⟨_,_,_,_,_,_,_,rfl,Walks.list (A:=X.A.in1) (I.ok.hd hc) _ q R (intItems xs),st,O,CmpOf.ints_lt (numAt xs) (λ_ _=>intItems_at),λhn v h' tk D P=>?_,λhn h' tk P=>?_⟩
 ·have W:0<xs.size:=by simpa[intItems]using hn
  obtain⟨i,Y,T⟩:∃i r,ns=i::r:=by
   cases ns with
   |nil=>simp at U;omega
   |cons i r=>exact⟨i,r,rfl⟩
  have G:(intItems xs)[argBest (λi j=>decide (numAt xs i<numAt xs j)) (xs.size-1)]? = some v:=by simpa[intItems]using D
  obtain⟨t,rfl⟩:=intItems_at G;obtain⟨g1,g2⟩:=argBest_lt (numAt xs) (xs.size-1);rw[T]at Z;have L:numAt xs (argBest (λi j=>decide (numAt xs i<numAt xs j)) (xs.size-1))∈i::Y:=by
   rw[Z,numAt_eq];exact getD_mem (by rw[ak,cH];omega)
  have M:∀a∈i::Y,numAt xs (argBest (λi j=>decide (numAt xs i<numAt xs j)) (xs.size-1))<=a:=λa ha=>by
   rw[Z]at ha;obtain⟨j,E,rfl⟩:=mem_getD ha;rw[ak,cH]at E;rw[<-numAt_eq];exact g2 j (by omega)
  have sp:=rT Y i;have eq:numAt xs (argBest (λi j=>decide (numAt xs i<numAt xs j)) (xs.size-1))=mnI i Y:=oA (M _ sp.1) (sp.2 _ L);rw[eq];exact⟨.int _,H,I.kept (old_kept P),⟨_,rfl⟩,h1 i Y T⟩
 ·have W:xs.size=0:=by simpa[intItems]using hn
  exact⟨J,H,I.kept (old_kept P),rz,h0 (List.eq_nil_of_length_eq_zero (by rw[U,W]))⟩
theorem Rt(hc:X.calm=true)(ha:DB X fl .P [e] fa)(hz:DE X fl .P z fz)(hg:Gl X "min")(hm:X.mg "min"=none)
 (he:backTo pos (starEach [e] X.env)=(false,eval e X.env)::backTo pos (starEach [] X.env):=by rfl) (hpl:(backTo pos (starEach [e] X.env)).any (·.1)=false:=by rfl)
 (J:(backToKw pos (keywordEach [⟨some (dn "default"),z,kpos⟩] X.env)).all (·.1.isSome)=true:=by rfl) (hkw:(backToKw pos (keywordEach [⟨some (dn "default"),z,kpos⟩] X.env)).any (·.1.isNone)=false:=by rfl)
 (hks:(backToKw pos (keywordEach [⟨some (dn "default"),z,kpos⟩] X.env)).filterMap (·.1)=[dn "default"]:=by rfl) :
 DE X fl .FC (.Call (.Name "min" p) [e] [⟨some (dn "default"),z,kpos⟩] pos) (G5 fa fz):=by
 intro pins s σ H Q I C;refine D3.ex4 C λG ow δ d R B q=>?_
 refine D3.ex1 (bind1 B) λl x M=>?_
 refine D3.ex1 (bind1 M) λL y Z=>?_
 refine av (lG I hg hm PyProof.Rows.boot_min ?_);refine e9 ?_ he hpl J hkw;refine thn (ha pos pins s σ H (λvs H1=>Same H H1/\RAs X.K ok1 true H1 vs l) I ⟨G,ow,δ,_,R,x,λvs H' s' F=>⟨s',F⟩⟩) λus s1 ⟨vs,H1,o,r1,V,ra⟩=>?_
 refine thn ((Gn hz Ku) pos pins s1 σ H1 (λws H2=>∃w,ws=[w]/\Same H1 H2/\RA X.K ok1 true H2 w L) o ⟨G,ow,δ,_,R.grow V,y,λw H2 s2 r2=>⟨w,rfl,s2,r2⟩⟩) λkvs s2 ⟨ws,H2,t,r2,w,A,W,S⟩=>?_
 subst A;rw[hks];obtain⟨E,rfl,O⟩:=vals1 r2;show wpAny _ _ (PySem.call (.builtin "min") us [(dn "default", E)]) _ _ _;obtain⟨m,rfl⟩:∃m,l=[.list m]:=by
  match l,Z with
  |[.list m],_=>exact⟨m,rfl⟩
 dsimp only at Z
 cases ra with
 |cons N ra2=>
 cases ra2;obtain⟨a,ys,rfl,hx,D⟩:=N.lstE
 cases r1 with
 |cons u v=>
 cases v
 cases u
 cases T:iz m with
 |none=>rw[T]at Z;cases Z
 |some ns=>
 obtain rfl:=lJ T D;refine Rr hc t (Yr W hx) O (λi r U=>?_) λU=>?_
 ·subst U;rw[T]at Z;dsimp only at Z;unfold K1 at Z;dsimp only at Z;rw[T]at Z
  cases Z;exact q _ H2 (V.trans W) (.inl ⟨rfl,.int _⟩)
 ·subst U;rw[T]at Z;dsimp only at Z;by_cases Y:flat L=true
  ·rw[if_pos Y]at Z
   cases Z;exact q _ H2 (V.trans W) (.inl ⟨Y,RA.flat Y S⟩)
  ·rw[if_neg Y]at Z;cases Z
variable{a:Expr}{f:FE}{ta:TE}
end
end XK
namespace D3
noncomputable def wB:D->D->Option D:=λx y=>match x,y with
 | .str i,.str j=>if i.length+j.length<=1000000 then some (.str (i++j))else none
 |_,_=>none
def Cd:D->D->Option D:=λx y=>match x,y with
 | .str z,.int i=>if z.length<=1000000 then(L2.atI z.cps.toList i).map λc=>.str ⟨#[c]⟩else none
 |_,_=>none
def Hh:List D->Option D
 |[.str z]=>if z.length<=1000000 then some (.int z.length)else none
 |_=>none
end D3
namespace XW
open L2 My D3
section
variable{X:Cx}{fl:List Fl}{a b e:Expr}{fa fb fe f:FE}{pos apos cpos:Pos}
theorem V1{K:PySem.W.Frag}:BrO K (λx y H Q=>∃i j,x = .str i/\y = .str j/\i.length+j.length<=sizeLine/\Q (.str (i++j)) H) wB:=by
 intro H x y dx V d Q Y Z e q;unfold wB at e;split at e
 ·split at e
  ·next X=>
   cases e;obtain rfl:=RA.strE Y;obtain rfl:=RA.strE Z;exact⟨_,_,rfl,rfl,aZ X (by decide),q _ rfl (.str _)⟩
  ·cases e
 ·cases e
theorem V2{K:PySem.W.Frag}:BrC K (λxs H Q=>∃z,xs=[.str z]/\z.length<=sizeLine/\Q (.int z.length) H) Hh:=by
 intro H xs ds d Q r e q;unfold Hh at e;split at e
 ·split at e
  ·next Z=>
   cases e
   cases r with
   |cons r1 r2=>
    cases r2;obtain rfl:=RA.strE r1;exact⟨_,rfl,aZ Z (by decide),q _ rfl (.int _)⟩
  ·cases e
 ·cases e
theorem V3(ha:DE X fl .P a fa)(hb:DE X fl .P b fb)(J:rN b):DE X fl .FC (.Subscript a b pos) (dOp Cd fa fb):=PE.imp (Ky Kz ha hb J) λσ H Q h=>by
 refine D3.ex4 h λG ow δ d R V q=>?_
 refine D3.ex2 (uE V) λx y T U Z=>?_
 refine⟨G,ow,δ,x,R,T,λv H1 s1 r1=>⟨G,ow,δ,y,R.grow s1,U,λu H2 s2 r2=>?_⟩⟩;unfold Cd at Z;split at Z
 ·next z i=>
  split at Z
  ·next W=>
   obtain rfl:=RA.intE r2;obtain rfl:=RA.strE r1
   cases Y:atI z.cps.toList i with
   |none=>rw[Y]at Z;cases Z
   |some c=>
    rw[Y]at Z
    cases Z;exact⟨z,i,c,rfl,rfl,aZ W (by decide),Y,q _ H2 (s1.trans s2) (.inl ⟨rfl,.str _⟩)⟩
  ·cases Z
 ·cases Z
end
end XW
namespace D3
end D3
namespace XW
open L2 My D3
section
variable{X:Cx}{fl:List Fl}{a b e:Expr}{fa fb fe f:FE}{pos apos cpos:Pos}
end
end XW
namespace D3
noncomputable def sI:D->Option (List D)
 | .str z=>if(z.cps.all λx=>decide (x<128))=true then some (z.cps.toList.map λc=>.str ⟨#[c]⟩)else none
 |_=>none
def V4(f:FE):FA:=λδ=>(f δ).bind sI
end D3
namespace XW
open L2 My D3
noncomputable def Its(z:Str):It where
 go:=λi _=>∃c,z.cps[i]? = some c
 yld:=λi H x H'=>H=H'/\∃c,z.cps[i]? = some c/\x = .str ⟨#[c]⟩
 stop:=λi _=>z.cps.size<=i
theorem M6{P:c_}{w:de}{K:PySem.W.Frag}{tg:Expr}(z:Str)(t:Tok)(it:Addr):Turn P w K tg (Its z) [it] it (λi h=>h.IsStrIter it "str_ascii_iterator" z t i) where
 mem:=by simp
 obj:=λi h st b hb=>by
  have e:b=it:=by simpa using hb
  subst e;obtain⟨o,e,c,d⟩:=st;exact⟨o,e,λv z=>by rw[d]at z;cases z⟩
 keep:=λi h h' st k=>by
  obtain⟨o,e,c,d⟩:=st;exact⟨o,k it (by simp) o e,c,d⟩
 item:=by
  intro X U hw T N i pins s σ H E I Y st V;subst U hw T;obtain⟨c,hx⟩:=V;obtain⟨O,f1,f2,Q,R,S⟩:=Y it (by simp);refine wpAny_pyNext_ascii_item st hx λh' Z M=>?_
  have J:Inv X pins σ H {s with heap:=h',toks:=s.toks+1}:=I.turned (t':=s.toks+1) (λb o hb e=>(M.2 b hb).trans e) O f1 Q R S;obtain⟨o,e,c',d⟩:=id Z;exact⟨_,rfl,Av (s:={s with heap:=h',toks:=s.toks+1}) e c' d (by decide) ⟨.str ⟨#[c]⟩,H,J,⟨_,rfl⟩,⟨rfl,c,hx,rfl⟩,Z,λb hb=>(Y b hb).1⟩⟩
 done:=by
  intro X U hw T N i pins s σ H E I Y st V;subst U hw T;obtain⟨O,f1,f2,Q,R,S⟩:=Y it (by simp);exact wpAny_pyNext_ascii_end (I.ok.hd N) st (eN V) λh' L=>⟨rfl,I.turned (t':=s.toks) (λb o hb e=>L b o hb e) O f1 Q R S⟩
 self:=λ_ _ _ _ _ st h=>wpAny_pyIter_striter_ascii st h
def ad0(tl:TE):TI:=λσ H R=>tl σ H λx H1=>∃z:Str,x = .str z/\(z.cps.all λx=>decide (x<128))=true/\R (Its z) H1
section
variable{X:Cx}{fl:List Fl}{a b e tg:Expr}{f:FE}
theorem V5{l:Expr}{tl:TE}(J:PE X l tl):PI X tg l (ad0 tl):=by
 intro pins s σ H R I h;refine thn (J pins s σ H _ I h) λv s1 ⟨x,H1,Z,r1,q1⟩=>?_
 obtain⟨z,e,ha,q⟩:=q1;subst e;obtain⟨t,rfl⟩:=(show ∃t,v=eC z t from r1);have ty:strIterType z="str_ascii_iterator" := by
  unfold strIterType;rw[if_pos ha]
 refine wpAny_pyIter_strU ?_;rw[ty];refine⟨s1.heap.objs.size,[s1.heap.objs.size],_,_,H1,rfl,Z.kept (t':=s1.toks) λb o e=>ae _ e,M6 z t _,⟨_,ah _ rfl,rfl,rfl⟩,λb hb=>?_,q⟩;have e:b=s1.heap.objs.size:=by simpa using hb
 subst e;exact Z.fpOk (aP _) (Z.hok.fresh (aP _))
theorem V6{L:List Nat}(h:DE X fl .P e f):DI X fl L tg e (V4 f):=PI.imp (V5 h) λσ H R' h=>by
 refine D3.ex4 h λG ow δ l R T q=>?_
 refine D3.ex1 (bind1 T) λd S Z=>?_
 unfold sI at Z;split at Z
 ·next z=>
  split at Z
  ·next ha=>
   cases Z;refine⟨G,ow,δ,_,R,S,λv H1 s r=>?_⟩;obtain rfl:=RA.strE r;refine⟨z,rfl,ha,q _ _ s λH2 k2 i=>?_⟩;refine⟨λd hd=>?_,λV=>?_⟩
   ·rw[aO]at hd
    cases W:z.cps.toList[i]? with
    |none=>rw[W]at hd;cases hd
    |some c=>
     rw[W]at hd
     cases hd;have Y:z.cps[i]? = some c:=by rw[<-W];simp
     refine⟨⟨c,Y⟩,λx Q U=>?_⟩;obtain⟨e,c',h1,rfl⟩:=U;subst e;rw[Y]at h1
     cases h1;exact⟨Same.refl _,.str _⟩
   ·show z.cps.size<=i;rw[ak]at V;simpa using V
  ·cases Z
 ·cases Z
end
end XW
namespace XI
open L2 My D3
def less(H:Hp)(as:List Addr):Hp:=λb=>if b∈as then none else H b
theorem Ru{H:Hp}{as:List Addr}{a:Addr}(h:a∈as):less H as a=none:=if_pos h
theorem lK{H:Hp}{as:List Addr}{a:Addr}(h:a∉as):less H as a=H a:=if_neg h
theorem jX{H:Hp}{as:List Addr}{a:Addr}{o:HO}(q:∀b∈as,Chd (H b))(h:H a=some o)(hn:Chg o->False):less H as a=some o:=by
 rw[lK λz=>?_]
 ·exact h
 ·obtain⟨u,e,c⟩:=q a z;rw[h]at e
  cases e;exact hn c
theorem pA{H:Hp}{as:List Addr}{a:Addr}{xs:List V}(q:∀b∈as,Chd (H b))(h:fZ H a xs):fZ (less H as) a xs:=jX q h Chg.tup
section
variable{K:PySem.W.Frag}{H:Hp}{ok:Ok}{pl:Bool}{as:List Addr}
theorem Ce(J:∀b∈as,Chd (H b))(O:∀b,ok b->b∉as):(∀{v:V}{d:D},RA K ok pl H v d->RA K ok pl (less H as) v d)/\∀{v:List V}{d:List D},RAs K ok pl H v d->RAs K ok pl (less H as) v d:=
 RA.ind .non .bl .int .str (λe k q=>.lst (by rw[lK (O _ k)];exact e) k q) (λe k q=>.lsk (by
  rcases e with⟨o,e⟩|e
  ·exact .inl ⟨o,jX J e Chg.frz⟩
  ·exact .inr e) k q) (λe q=>.tup (pA J e) q) (λe g k=>.dic (by rw[lK (O _ k)];exact e) (g.imp λ_ _ t=>pA J t) k) (λe g k=>.dik (jX J e Chg.frz) (g.imp λ_ _ t=>pA J t) k)
  (λe g q z=>.ins (jX J e Chg.ins) (jX J g Chg.own) q z) .nil .cons
theorem M7(J:∀b∈as,Chd (H b)):(∀{v:V}{d:D}{bs:List Addr},RT K H v d bs->(∀b∈bs,b∉as)->RT K (less H as) v d bs)/\∀{v:List V}{d:List D}{bs:List Addr},RTs K H v d bs->(∀b∈bs,b∉as)->RTs K (less H as) v d bs:=
 RT.ind (λ_=>.non) (λb _=>.bl b) (λi _=>.int i) (λx _=>.str x) (λe q Z=>.lst (by rw[lK (Z _ aA)];exact e) (q λb hb=>Z b (au _ hb))) (λe q Z=>.tup (pA J e) (q Z))
  (λe g Z=>.dic (by rw[lK (Z _ aA)];exact e) (g.imp λ_ _ t=>pA J t)) (λe g _ q z Z=>.ins (jX J e Chg.ins) (jX J g Chg.own) (q Z) z) (λ_=>.nil)
  λe q Z=>.cons (e λb hb=>Z b (bT _ hb)) (q λb hb=>Z b (aR _ hb))
end
variable{K:PySem.W.Frag}{fl:List Fl}
theorem Cg{G:Gh}{ow:Ow}{σ:D3.St}{H H':Hp}{δ:DS}{i:Nat}{d:D}{v:V}{as:List Addr}(R:Rel K fl G ow σ H δ)(q:fl[i]? = some .N\/fl[i]? = some .W)(hi:i<δ.length)(hv:σ[i]? = some (some v))(s:Same (less H (ow.n i)) H')
 (O:RT K H' v d as) (J:∀b∈as,b∈ow.n i\/H b=none) (hd:as.Nodup):Rel K fl G (owN ow i as) σ H' (δ.set i (some (.d d))):=by
 have P:∀b∈ow.n i,Chd (H b):=λb hb=>(R.nt i b hb).2.1
 have F:∀b∈ow.n i,G.HF b=none:=λb hb=>by
  rcases(R.nt i b hb).2.2 with⟨_,z⟩|z
  ·exact z
  ·rcases q with y|y<;>(rw[y]at z;cases z)
 have no:∀a,ow i≠some a:=λa z=>by
  obtain⟨_,L,_⟩:=R.own i a z;rcases q with y|y<;>(rw[y]at L;rcases L with⟨z,_⟩|⟨z,_⟩<;>cases z)
 have out:∀b o,b∉ow.n i->H b=some o->H' b=some o:=λb o hb e=>s b o (by rw[lK hb];exact e)
 have sub:∀b,okA ow b/\H b≠none->okA (owN ow i as) b:=λb z=>⟨z.1.1,λj e=>by
  by_cases Z:j=i
  ·subst Z;rw[jM]at e;rcases J b e with y|y
   ·exact z.1.2 j y
   ·exact z.2 y
  ·rw[jd Z]at e;exact z.1.2 j e⟩
 have Q:∀{v:V}{d:D},RA K (okA ow) true H v d->RA K (okA (owN ow i as)) true H' v d:=λr=>
  (((Ce (as:=ow.n i) P (λb z=>z.1.2 i)).1 r.track).same s).imp sub (λz=>z)
 have U:∀{v:List V}{d:List D},RAs K (okA ow) true H v d->RAs K (okA (owN ow i as)) true H' v d:=λr=>
  (((Ce (as:=ow.n i) P (λb z=>z.1.2 i)).2 r.track).same s).imp sub (λz=>z)
 have fresh:∀b,H b=none->∀j,b∉ow.n j/\ow j≠some b:=λb e j=>⟨λz=>(R.nt j b z).2.1.ne e,λz=>by
  obtain⟨_,_,xs,ds,_,g2,_⟩:=R.own j b z;rw[e]at g2
  cases g2⟩
 refine⟨R.s0,λb o hb=>?_,by rw[cg];exact R.len,λj b h=>?_,R.inj,R.pin,λj T g1 X g2=>?_,λj T g1 X g2 g3=>?_,λj b h=>?_,λj j' b h h'=>?_,λj j' b h=>?_,λj h=>?_,λj T X g1=>?_,R.fx⟩
 ·exact out b o (λz=>by rw[F b z]at hb;cases hb) (R.s1 b o hb)
 ·have Z:j≠i:=λz=>no b (z▸h)
  obtain⟨E,I,zs,ds,g1,g2,g3,M⟩:=R.own j b h;exact⟨E,I,zs,ds,g1,out b _ (λz=>R.ns i j b z h) g2,U g3,by rw[aL (df Z)];exact M⟩
 ·rcases fQ g1 with⟨rfl,e⟩|⟨Z,e⟩
  ·rcases q with y|y<;>(rw[y]at X;cases X)
  ·obtain⟨S,g3,M⟩:=R.dat j T e X g2;exact⟨S,g3,Q M⟩
 ·rcases fQ g1 with⟨rfl,e⟩|⟨Z,e⟩
  ·rcases q with y|y<;>(rw[y]at X;cases X)
  ·exact R.oo j T e X g2 g3
 ·by_cases Z:j=i
  ·subst Z;rw[jM]at h;rcases J b h with y|y
   ·obtain⟨g1,_,g3⟩:=R.nt j b y;exact⟨g1,O.chd b h,g3⟩
   ·refine⟨?_,O.chd b h,.inl ⟨q,?_⟩⟩
    ·cases z:G.H0 b with
     |none=>rfl
     |some o=>rw[R.same0 b o z]at y;cases y
    ·cases z:G.HF b with
     |none=>rfl
     |some o=>rw[R.s1 b o z]at y;cases y
  ·rw[jd Z]at h;obtain⟨g1,g2,g3⟩:=R.nt j b h;obtain⟨u,e,c⟩:=g2;exact⟨g1,⟨u,out b u (λz=>Z (R.nd j i b h z)) e,c⟩,g3⟩
 ·by_cases Z:j=i
  ·by_cases Y:j'=i
   ·rw[Z,Y]
   ·rw[Z,jM]at h;rw[jd Y]at h';rcases J b h with y|y
    ·rw[Z];exact R.nd i j' b y h'
    ·exact absurd h' (fresh b y j').1
  ·rw[jd Z]at h;by_cases Y:j'=i
   ·rw[Y,jM]at h';rcases J b h' with y|y
    ·rw[Y];exact R.nd j i b h y
    ·exact absurd h (fresh b y j).1
   ·rw[jd Y]at h';exact R.nd j j' b h h'
 ·by_cases Z:j=i
  ·rw[Z,jM]at h;rcases J b h with y|y
   ·exact R.ns i j' b y
   ·exact(fresh b y j').2
  ·rw[jd Z]at h;exact R.ns j j' b h
 ·have Z:j≠i:=λz=>by rcases q with y|y<;>(rw[z,y]at h;cases h)
  rw[jd Z];exact R.np j h
 ·rcases fQ g1 with⟨rfl,e⟩|⟨Z,e⟩
  ·cases e;exact⟨v,hv,by rw[jM];exact O,by rw[jM];exact hd⟩
  ·obtain⟨S,h1,h2,h3⟩:=R.nr j T X e;rw[jd Z];exact⟨S,h1,((M7 P).1 h2 λb hb z=>Z (R.nd j i b hb z)).same s,h3⟩
end XI
namespace XI
open L2 My D3
open Classical in
def jN(H:Hp)(p:Addr->Prop):Hp:=λb=>if p b then none else H b
section
variable{H:Hp}{p:Addr->Prop}
theorem sJ{a:Addr}(h:p a):jN H p a=none:=by unfold jN;rw[if_pos h]
theorem gb{a:Addr}(h:¬p a):jN H p a=H a:=by unfold jN;rw[if_neg h]
theorem Fi:Same (jN H p) H:=λb o h=>by
 by_cases z:p b
 ·rw[sJ z]at h;cases h
 ·rw[gb z]at h;exact h
theorem iH{a:Addr}{o:HO}(q:∀b,p b->Chd (H b))(h:H a=some o)(hn:Chg o->False):jN H p a=some o:=by
 rw[gb λz=>?_]
 ·exact h
 ·obtain⟨u,e,c⟩:=q a z;rw[h]at e
  cases e;exact hn c
theorem nq{a:Addr}{xs:List V}(q:∀b,p b->Chd (H b))(h:fZ H a xs):fZ (jN H p) a xs:=iH q h Chg.tup
theorem M8(q:∀b,p b->Chd (H b))(t:Tb H):Tb (jN H p):=λx hx=>iH q (t x hx) λc=>by
 rcases c.ch with⟨_,z⟩|⟨_,z⟩|⟨_,z⟩<;>cases z
variable{K:PySem.W.Frag}{ok:Ok}{pl:Bool}
theorem yF(J:∀b,p b->Chd (H b))(O:∀b,ok b->¬p b):(∀{v:V}{d:D},RA K ok pl H v d->RA K ok pl (jN H p) v d)/\∀{v:List V}{d:List D},RAs K ok pl H v d->RAs K ok pl (jN H p) v d:=
 RA.ind .non .bl .int .str (λe k q=>.lst (by rw[gb (O _ k)];exact e) k q) (λe k q=>.lsk (by
  rcases e with⟨o,e⟩|e
  ·exact .inl ⟨o,iH J e Chg.frz⟩
  ·exact .inr e) k q) (λe q=>.tup (nq J e) q) (λe g k=>.dic (by rw[gb (O _ k)];exact e) (g.imp λ_ _ t=>nq J t) k) (λe g k=>.dik (iH J e Chg.frz) (g.imp λ_ _ t=>nq J t) k)
  (λe g q z=>.ins (iH J e Chg.ins) (iH J g Chg.own) q z) .nil .cons
theorem JC(J:∀b,p b->Chd (H b)):(∀{v:V}{d:D}{bs:List Addr},RT K H v d bs->(∀b∈bs,¬p b)->RT K (jN H p) v d bs)/\∀{v:List V}{d:List D}{bs:List Addr},RTs K H v d bs->(∀b∈bs,¬p b)->RTs K (jN H p) v d bs:=
 RT.ind (λ_=>.non) (λb _=>.bl b) (λi _=>.int i) (λx _=>.str x) (λe q Z=>.lst (by rw[gb (Z _ aA)];exact e) (q λb hb=>Z b (au _ hb))) (λe q Z=>.tup (nq J e) (q Z))
  (λe g Z=>.dic (by rw[gb (Z _ aA)];exact e) (g.imp λ_ _ t=>nq J t)) (λe g _ q z Z=>.ins (iH J e Chg.ins) (iH J g Chg.own) (q Z) z) (λ_=>.nil)
  λe q Z=>.cons (e λb hb=>Z b (bT _ hb)) (q λb hb=>Z b (aR _ hb))
end
def ofJ(J:Nat->Bool)(n:Nat->List Addr)(b:Addr):Prop:=∃j,J j=true/\b∈n j
def Fj(ow:Ow)(J:Nat->Bool)(as:Nat->List Addr):Ow:=⟨ow.s,λj=>if J j=true then as j else ow.n j⟩
theorem qz{ow:Ow}{J:Nat->Bool}{as:Nat->List Addr}{j:Nat}(h:J j=true):(Fj ow J as).n j=as j:=if_pos h
theorem pB{ow:Ow}{J:Nat->Bool}{as:Nat->List Addr}{j:Nat}(h:J j=false):(Fj ow J as).n j=ow.n j:=if_neg (by rw[h];decide)
variable{K:PySem.W.Frag}{fl:List Fl}
theorem Ys{G:Gh}{ow:Ow}{σ:D3.St}{H H':Hp}{δ δ':DS}{J:Nat->Bool}{as:Nat->List Addr}(R:Rel K fl G ow σ H δ)(q:∀j,J j=true->fl[j]? = some .N\/fl[j]? = some .W)(hl:δ'.length=δ.length)(he:∀j,J j=false->δ'[j]? = δ[j]?)
 (s:Same (jN H (ofJ J ow.n)) H') (hr:∀j,J j=true->∃v d,σ[j]? = some (some v)/\δ'[j]? = some (some (.d d))/\RT K H' v d (as j)/\(as j).Nodup) (O:∀j,J j=true->∀b∈as j,ofJ J ow.n b\/H b=none)
 (hd:∀i j,J i=true->J j=true->∀b,b∈as i->b∈as j->i=j):Rel K fl G (Fj ow J as) σ H' δ':=by
 have M:∀b,ofJ J ow.n b->Chd (H b):=λb ⟨j,_,hb⟩=>(R.nt j b hb).2.1
 have L:∀b,ofJ J ow.n b->G.HF b=none/\G.H0 b=none:=λb ⟨j,Z,hb⟩=>by
  refine⟨?_,(R.nt j b hb).1⟩;rcases(R.nt j b hb).2.2 with⟨_,z⟩|z
  ·exact z
  ·rcases q j Z with y|y<;>(rw[y]at z;cases z)
 have no:∀j,J j=true->∀a,ow j≠some a:=λj Z a z=>by
  obtain⟨_,E,_⟩:=R.own j a z;rcases q j Z with y|y<;>(rw[y]at E;rcases E with⟨z,_⟩|⟨z,_⟩<;>cases z)
 have isT:∀j,J j=true->isN fl[j]? = true:=λj Z=>by rcases q j Z with y|y<;>(rw[y];rfl)
 have out:∀b o,¬ofJ J ow.n b->H b=some o->H' b=some o:=λb o hb e=>s b o (by rw[gb hb];exact e)
 have sub:∀b,okA ow b/\H b≠none->okA (Fj ow J as) b:=λb z=>⟨z.1.1,λj e=>by
  cases Z:J j with
  |true=>
   rw[qz Z]at e;rcases O j Z b e with⟨i,_,y⟩|y
   ·exact z.1.2 i y
   ·exact z.2 y
  |false=>
   rw[pB Z]at e;exact z.1.2 j e⟩
 have F:∀b,okA ow b/\H b≠none->¬ofJ J ow.n b:=λb z ⟨j,_,y⟩=>z.1.2 j y
 have P:∀{v:V}{d:D},RA K (okA ow) true H v d->RA K (okA (Fj ow J as)) true H' v d:=λr=>(((yF M F).1 r.track).same s).imp sub (λz=>z)
 have U:∀{v:List V}{d:List D},RAs K (okA ow) true H v d->RAs K (okA (Fj ow J as)) true H' v d:=λr=>(((yF M F).2 r.track).same s).imp sub (λz=>z)
 have fresh:∀b,H b=none->∀j,b∉ow.n j/\ow j≠some b:=λb e j=>⟨λz=>(R.nt j b z).2.1.ne e,λz=>by
  obtain⟨_,_,xs,ds,_,g2,_⟩:=R.own j b z;rw[e]at g2
  cases g2⟩
 have T:∀i j b,J i=true->J j=false->b∈as i->b∉ow.n j:=λi j b hi Z hb z=>by
  rcases O i hi b hb with⟨k,C,y⟩|y
  ·have:=R.nd k j b y z;rw[this,Z]at C
   cases C
  ·exact(fresh b y j).1 z
 refine⟨R.s0,λb o hb=>?_,by rw[hl];exact R.len,λj b h=>?_,R.inj,R.pin,λj S g1 X g2=>?_,λj S g1 X g2 g3=>?_,λj b h=>?_,λj j' b h h'=>?_,λj j' b h=>?_,λj h=>?_,λj S X g1=>?_,R.fx⟩
 ·exact out b o (λz=>by rw[(L b z).1]at hb;cases hb) (R.s1 b o hb)
 ·have Z:J j=false:=by
   cases z:J j with
   |false=>rfl
   |true=>exact absurd h (no j z b)
  obtain⟨A,B,zs,ds,g1,g2,g3,I⟩:=R.own j b h;exact⟨A,B,zs,ds,g1,out b _ (λ⟨i,_,z⟩=>R.ns i j b z h) g2,U g3,by rw[he j Z];exact I⟩
 ·have Z:J j=false:=by
   cases z:J j with
   |false=>rfl
   |true=>rw[isT j z]at X;cases X
  rw[he j Z]at g1;obtain⟨Q,g3,I⟩:=R.dat j S g1 X g2;exact⟨Q,g3,P I⟩
 ·have Z:J j=false:=by
   cases z:J j with
   |false=>rfl
   |true=>rw[isT j z]at X;cases X
  rw[he j Z]at g1;exact R.oo j S g1 X g2 g3
 ·cases Z:J j with
  |true=>
   rw[qz Z]at h;obtain⟨_,_,_,_,r,_⟩:=hr j Z;have c:=r.chd b h;rcases O j Z b h with y|y
   ·exact⟨(L b y).2,c,.inl ⟨q j Z,(L b y).1⟩⟩
   ·refine⟨?_,c,.inl ⟨q j Z,?_⟩⟩
    ·cases z:G.H0 b with
     |none=>rfl
     |some o=>rw[R.same0 b o z]at y;cases y
    ·cases z:G.HF b with
     |none=>rfl
     |some o=>rw[R.s1 b o z]at y;cases y
  |false=>
   rw[pB Z]at h;obtain⟨g1,⟨u,e,c⟩,g3⟩:=R.nt j b h;exact⟨g1,⟨u,out b u (λ⟨i,hi,z⟩=>by
    have:=R.nd j i b h z;rw[this,hi]at Z
    cases Z) e,c⟩,g3⟩
 ·cases Z:J j with
  |true=>
   rw[qz Z]at h
   cases Y:J j' with
   |true=>rw[qz Y]at h';exact hd j j' Z Y b h h'
   |false=>rw[pB Y]at h';exact absurd h' (T j j' b Z Y h)
  |false=>
   rw[pB Z]at h
   cases Y:J j' with
   |true=>rw[qz Y]at h';exact absurd h (T j' j b Y Z h')
   |false=>rw[pB Y]at h';exact R.nd j j' b h h'
 ·cases Z:J j with
  |true=>
   rw[qz Z]at h;rcases O j Z b h with⟨k,_,y⟩|y
   ·exact R.ns k j' b y
   ·exact(fresh b y j').2
  |false=>rw[pB Z]at h;exact R.ns j j' b h
 ·have Z:J j=false:=by
   cases z:J j with
   |false=>rfl
   |true=>rcases q j z with y|y<;>(rw[y]at h;cases h)
  rw[pB Z];exact R.np j h
 ·cases Z:J j with
  |true=>
   obtain⟨v,d,h1,h2,h3,h4⟩:=hr j Z;rw[h2]at g1
   cases g1;rw[qz Z];exact⟨v,h1,h3,h4⟩
  |false=>
   rw[he j Z]at g1;obtain⟨Q,h1,h2,h3⟩:=R.nr j S X g1;rw[pB Z];exact⟨Q,h1,((JC M).1 h2 λb hb ⟨i,hi,z⟩=>by
    have:=R.nd j i b hb z;rw[this,hi]at Z
    cases Z).same s,h3⟩
end XI
namespace XI
open L2 My D3
def jP:List Nat->DS->Option (List D)
 |[],_=>some []
 |i::l,δ=>(aB i δ).bind λd=>(jP l δ).bind λr=>some (d::r)
def Ci(l:List Nat)(f:FE):FS:=λδ=>(f δ).bind λd=>if flat d=true then(jP l δ).bind λr=>some (.ex "" "" (.tuple (d::r)))else none
def M9(l:List Nat)(o:Option Oc):Option D:=match o with
 |some (.ex _ _ d)=>some d
 |some (.nx δ)=>(jP l δ).bind λr=>some (.tuple (.none::r))
 |_=>none
def fnW(p q:Nat)(l:List Nat)(b:FS):List D->Option D:=λds=>if ds.length=p then M9 l (b (ds.map (λd=>some (.d d))++bK q none))else none
theorem Cj:∀{l:List Nat}{δ:DS}{r:List D},jP l δ=some r->∀{k i:Nat},l[k]? = some i->∃d,r[k]? = some d/\δ[i]? = some (some (.d d))
 |[],_,_,_,k,i,h=>by simp at h
 |j::l,δ,r,e,k,i,h=>by
  refine D3.ex1 (bind1 e) λd Y e=>?_
  refine D3.ex1 (bind1 e) λX Z e=>?_
  cases e
  cases k with
  |zero=>cases h;exact⟨d,rfl,gD Y⟩
  |succ k=>exact Cj Z (by simpa using h)
structure EndP(K:PySem.W.Frag)(l:List Nat)(G:Gh)(H':Hp)(T':Nat->List Addr)(ps:List D):Prop where
 sm:Same G.H0 H'
 rt:∀(k i:Nat)(u:V),l[k]? = some i->G.fv i=some u->∃d',ps[k]? = some d'/\RT K H' u d' (T' i)/\(T' i).Nodup
 fr:∀i∈l,∀b∈T' i,G.H0 b=none
 dj:∀i∈l,∀j∈l,∀b,b∈T' i->b∈T' j->i=j
theorem vf{K:PySem.W.Frag}{fl:List Fl}{G:Gh}{ow:Ow}{σ:D3.St}{H:Hp}{δ:DS}{l:List Nat}{ps:List D}(R:Rel K fl G ow σ H δ)(J:∀i∈l,fl[i]? = some .W)(q:jP l δ=some ps):EndP K l G H ow.n ps:=by
 refine⟨R.same0,λk i u Z Y=>?_,λi _ b hb=>(R.nt i b hb).1,λi _ j _ b h1 h2=>R.nd i j b h1 h2⟩;have hi:=J i (cD Z);obtain⟨d,V,X⟩:=Cj q Z;obtain⟨U,g1,g2,g3⟩:=R.nr i d (by rw[hi];rfl) X;have:=R.fx i u hi Y;rw[this]at g1
 cases g1;exact⟨d,V,g2,g3⟩
def V7(K:PySem.W.Frag)(l:List Nat)(G:Gh)(d:D)(Q:V->Hp->Prop):Prop:=∀r ps v H' (T':Nat->List Addr),d = .tuple (r::ps)->flat r=true->RA K ok0 false H' v r->EndP K l G H' T' ps->Q v H'
theorem wC{K:PySem.W.Frag}{fl:List Fl}{G:Gh}{ow:Ow}{σ:D3.St}{H:Hp}{δ:DS}{l:List Nat}{ps:List D}{r:D}{v:V}{Q:V->Hp->Prop}(R:Rel K fl G ow σ H δ)(Y:∀i∈l,fl[i]? = some .W)(U:jP l δ=some ps)(q:V7 K l G (.tuple (r::ps)) Q)(O:flat r=true)(J:RA K ok0 false H v r):Q v H:=
 q r ps v H ow.n rfl O J (vf R Y U)
def ad1(K:PySem.W.Frag)(fl:List Fl)(l:List Nat)(G:Gh)(q:Ends):Oc->Prop
 | .ex _ _ d=>V7 K l G d q.rt
 | .rt _=>False
 |o=>yX K fl G q o
def tDW(K:PySem.W.Frag)(fl:List Fl)(l:List Nat)(f:FS):TS:=λZ σ H=>∃G ow δ o,Rel K fl G ow σ H δ/\f δ=some o/\ad1 K fl l G Z o
abbrev DW1(X:Cx)(fl:List Fl)(l:List Nat)(s:dy)(f:FS):Prop:=PS X s (tDW X.K fl l f)
abbrev DWs(X:Cx)(fl:List Fl)(l:List Nat)(s:List dy)(f:FS):Prop:=PSs X s (tDW X.K fl l f)
def GoW(f:FS):Prop:=∀δ o,f δ=some o->(∀d,o ≠ .rt d)/\∀c x d,o ≠ .ex c x d
section
variable{X:Cx}{fl:List Fl}{l:List Nat}{st:dy}{sts body orelse:List dy}{c e:Expr}{pos:Pos}{fs gs:FS}{ft:FT}{f:FE}
theorem qb(h:DS1 X fl st fs)(J:GoW fs):DW1 X fl l st fs:=PS.imp h λY σ H h=>by
 refine D3.ex4 h λG ow δ o R Z q=>?_
 obtain⟨n1,n2⟩:=J δ o Z;refine⟨G,ow,δ,o,R,Z,?_⟩
 cases o with
 |nx _=>exact q
 |bk _=>exact q
 |ct _=>exact q
 |rt d=>exact absurd rfl (n1 d)
 |ex c x d=>exact absurd rfl (n2 c x d)
theorem iI(h1:DW1 X fl l st fs)(h2:DWs X fl l sts gs):DWs X fl l (st::sts) (cP fs gs):=PSs.imp (rJ h1 h2) λT σ H h=>by
 refine D3.ex4 h λG ow δ o R V q=>?_
 refine D3.ex1 (bind1 V) λW U Z=>?_
 refine⟨G,ow,δ,W,R,U,?_⟩
 cases W with
 |nx δ'=>exact λY σ' H' R'=>⟨G,Y,δ',o,R',Z,q⟩
 |rt d=>cases Z;exact q
 |bk d=>cases Z;exact q
 |ct d=>cases Z;exact q
 |ex c f v=>cases Z;exact q
theorem sO(h1:DW1 X fl l st fs):DWs X fl l [st] fs:=PSs.imp (uV h1) λ_ _ _ h=>h
theorem Hi:DWs X fl l [] j9:=PSs.imp uU λY σ H h=>by
 refine D3.ex4 h λG ow δ o R Z q=>?_
 cases Z;exact q ow σ H R
theorem Uh(J:DT X fl c ft)(h1:DWs X fl l body fs)(h2:DWs X fl l orelse gs):DW1 X fl l (.If c body orelse pos) (sIf ft fs gs):=PS.imp (Gj J h1 h2) λV σ H h=>by
 refine D3.ex4 h λG ow δ o R Y q=>?_
 refine D3.ex1 (bind1 Y) λt W Z=>?_
 refine⟨G,ow,δ,t,R,W,λH' s=>?_⟩
 cases t with
 |true=>exact xG ⟨G,ow,δ,o,R.grow s,Z,q⟩
 |false=>exact xu ⟨G,ow,δ,o,R.grow s,Z,q⟩
theorem Fp(J:∀i∈l,fl[i]? = some .W)(h:DE X fl .P e f):DW1 X fl l (.Return (some e) pos) (Ci l f):=PS.imp (yM h) λS σ H h=>by
 refine D3.ex4 h λG ow δ o R V q=>?_
 refine D3.ex1 (bind1 V) λd T Z=>?_
 split at Z
 case isFalse=>cases Z
 next hd=>
 refine D3.ex1 (bind1 Z) λr U Z=>?_
 cases Z;exact⟨G,ow,δ,d,R,T,λv H' s Y=>wC (R.grow s) J U q hd (RA.flat hd Y)⟩
end
structure PreW(K:PySem.W.Frag)(l:List Nat)(H:Hp)(vs:List V)(ds:List D)(T:Nat->List Addr):Prop where
 tb:Tb H
 ln:vs.length=ds.length
 il:∀i∈l,i<ds.length
 ra:∀i v x,i∉l->vs[i]? = some v->ds[i]? = some x->RA K (λb=>∀j∈l,b∉T j) true H v x
 rt:∀i v x,i∈l->vs[i]? = some v->ds[i]? = some x->RT K H v x (T i)/\(T i).Nodup
 dj:∀i∈l,∀j∈l,∀b,b∈T i->b∈T j->i=j
structure PostW(K:PySem.W.Frag)(l:List Nat)(H:Hp)(T:Nat->List Addr)(vs:List V)(H':Hp)(T':Nat->List Addr)(ps:List D):Prop where
 sm:Same (jN H λb=>∃j∈l,b∈T j) H'
 rt:∀(k i:Nat)(u:V),l[k]? = some i->vs[i]? = some u->∃d',ps[k]? = some d'/\RT K H' u d' (T' i)/\(T' i).Nodup
 fr:∀i∈l,∀b∈T' i,(∃j∈l,b∈T j)\/H b=none
 dj:∀i∈l,∀j∈l,∀b,b∈T' i->b∈T' j->i=j
def spW(K:PySem.W.Frag)(l:List Nat)(F:List D->Option D):Sp:=λvs H Q _=>∃(ds:List D)(T:Nat->List Addr)(d:D),PreW K l H vs ds T/\F ds=some d /\
 ∀r ps v H' (T':Nat->List Addr),d = .tuple (r::ps)->flat r=true->RA K ok0 false H' v r->PostW K l H T vs H' T' ps->Q v H'
def owT(l:List Nat)(T:Nat->List Addr):Ow:=⟨λ_=>none,λi=>if i∈l then T i else []⟩
theorem qH{l:List Nat}{T:Nat->List Addr}{i:Nat}{b:Addr}:b∈(owT l T).n i<->i∈l/\b∈T i:=by
 show b∈(if i∈l then T i else [])<->_;by_cases c:i∈l
 ·rw[if_pos c];exact⟨λh=>⟨c,h⟩,λh=>h.2⟩
 ·rw[if_neg c];exact⟨λh=>(by cases h),λh=>absurd h.1 c⟩
theorem Hj{K:PySem.W.Frag}{l:List Nat}{H:Hp}{vs:List V}{ds:List D}{T:Nat->List Addr}(r:PreW K l H vs ds T):∀b,(∃j∈l,b∈T j)->Chd (H b):=λb ⟨j,Z,hb⟩=>by
 have h1:=r.il j Z;have h2:=r.ln;exact(r.rt j _ _ Z (aF (by omega)) (aF h1)).1.chd b hb
def gW{K:PySem.W.Frag}{l:List Nat}{H:Hp}{vs:List V}{ds:List D}{T:Nat->List Addr}(r:PreW K l H vs ds T):Gh:=⟨jN H λb=>∃j∈l,b∈T j,jN H λb=>∃j∈l,b∈T j,λ_=>none,λ_=>[],M8 (Hj r) r.tb,λi=>vs[i]?⟩
theorem post_of{K:PySem.W.Frag}{l:List Nat}{H H':Hp}{vs:List V}{ds ps:List D}{T T':Nat->List Addr}(r:PreW K l H vs ds T)(e:EndP K l (gW r) H' T' ps):PostW K l H T vs H' T' ps:=
 ⟨e.sm,e.rt,λi hi b hb=>by
  have z:jN H (λb=>∃j∈l,b∈T j) b=none:=e.fr i hi b hb;by_cases y:∃j∈l,b∈T j
  ·exact .inl y
  ·rw[gb y]at z;exact .inr z,e.dj⟩
theorem wD{K:PySem.W.Frag}{fl:List Fl}{N:List Str}{l:List Nat}{vs:List V}{ds:List D}{H:Hp}{T:Nat->List Addr}(p:Nat)(J:∀i,i<p->i∉l->fl[i]? = some .A)(hw:∀i∈l,fl[i]? = some .W)(q:ds.length=p)(O:p<=N.length)
 (r:PreW K l H vs ds T):Rel K fl (gW r) (owT l T) (L2.start N vs) H (ds.map (λd=>some (.d d))++bK (N.length-p) none):=by
 have R:=Hj r;obtain⟨tb,Q,il,ra,rt,dj⟩:=r;have S:vs.length=p:=by omega
 have get:∀i d,(ds.map (λd=>some (U.d d))++bK (N.length-p) none)[i]? = some (some (.d d))->i<p/\ds[i]? = some d:=λi d h=>by
  by_cases hi:i<p
  ·rw[bR (by rw[ak,q];exact hi),aO]at h
   cases e:ds[i]? with
   |none=>rw[e]at h;cases h
   |some z=>rw[e]at h;cases h;exact⟨hi,rfl⟩
  ·rw[bV (by rw[ak,q];omega),cM]at h;split at h<;>cases h
 have st:∀i v,vs[i]? = some v->(L2.start N vs)[i]? = some (some v):=λi v e=>by
  have hi:=(aQ.mp e).1;unfold L2.start;rw[bR (by rw[ak];exact hi),aO,e];rfl
 refine⟨Same.refl _,Fi,?_,λi b h=>(by cases h),λi X b h=>(by cases h),λi h=>rfl,λi d h hn _=>?_,λi d h hn h2 _=>?_,λi b h=>?_,λi X b h h'=>?_,λi X b _ h=>(by cases h),λi h=>?_,λi d hn h=>?_,λi v _ h=>st i v h⟩
 ·unfold L2.start;simp only[bw,ak,bF,S,q]
 ·obtain⟨hi,e⟩:=get i d h;have nl:i∉l:=λz=>by rw[hw i z]at hn;cases hn
  have Y:vs[i]? = some (vs[i]'(by omega)):=aF (by omega);exact⟨_,st i _ Y,(ra i _ d nl Y e).imp (λb hb=>⟨λm z=>(by cases z),λm z=>hb m (qH.mp z).1 (qH.mp z).2⟩) (λz=>z)⟩
 ·obtain⟨hi,e⟩:=get i d h;have nl:i∉l:=λz=>by rw[hw i z]at hn;cases hn
  exact absurd (J i hi nl) h2
 ·obtain⟨h1,h2⟩:=qH.mp h;have e:jN H (λb=>∃j∈l,b∈T j) b=none:=sJ ⟨i,h1,h2⟩;exact⟨e,R b ⟨i,h1,h2⟩,.inl ⟨.inr (hw i h1),e⟩⟩
 ·exact dj i (qH.mp h).1 X (qH.mp h').1 b (qH.mp h).2 (qH.mp h').2
 ·show(if i∈l then T i else [])=[];rw[if_neg λz=>by rw[hw i z]at h;cases h]
 ·obtain⟨hi,e⟩:=get i d h;have Z:i∈l:=by
   by_cases z:i∈l
   ·exact z
   ·rw[J i hi z]at hn;cases hn
  have Y:vs[i]? = some (vs[i]'(by omega)):=aF (by omega);obtain⟨r1,r2⟩:=rt i _ d Z Y e;have en:(owT l T).n i=T i:=if_pos Z;rw[en];exact⟨_,st i _ Y,r1,r2⟩
section
variable{P:c_}{w:de}{K:PySem.W.Frag}{mg:Str->Option Value}{base:dl}{x:Str}{ps N:List Str}{st:dy}{k n:Nat}{fs:FS}{fl:List Fl}{l:List Nat}
structure FunX(K:PySem.W.Frag)(m x:Str)(st:dy)(f:Addr)(fd:dk):Prop where
 ex:∃(oc:Value)(od:Option Addr)(dV kV doc pm:Value)(an:Option Addr)(cdv ct:Value)(osl:Array (Option Value)),
  fd=PySem.W.fnOf m x (jG st) (dR st) (bh st) dV kV doc pm an cdv ct/\K.lookup f=some ⟨oc,od,.func fd,osl⟩/\PySem.W.codeIn K cdv x=true
theorem FunX.ok{m:Str}{f:Addr}{fd:dk}{sp:Sp}(F:FunX K m x st f fd)(S:FnScope N ps (bh st))(len:∀vs H Q E,sp vs H Q E->vs.length=ps.length)
 (J:∀(cdv:Value)(A:dc)(outer:List Env)(s:c9)(H:Hp)(vs:List V)(Q:VK)(E:XK),Room k (A.deeper (envOfC x (bh st) s.heap.objs.size f cdv))->sp vs H Q E ->
  ∃t,PSs (mC CX0 P w K mg base N x (bh st) f cdv A outer s H E).nox (dR st) t/\t {nx:=λ_ H'=>Q .non H',rt:=Q} (L2.start N vs) H):FnOk P w K mg base CX0 (k+1) f fd ps sp:=by
 obtain⟨oc,od,dV,kV,doc,pm,an,cdv,ct,osl,rfl,lk,hcd⟩:=F.ex;refine Kv lk hcd S len λA outer s H vs Q E Y Z=>?_
 obtain⟨t,h,q⟩:=J cdv A outer s H vs Q E Y Z;exact⟨t,h.nox,q⟩
theorem M_{m:Str}{f:Addr}{fd:dk}(Fn:FunX K m x st f fd)(S:FnScope N ps (bh st))(hp:∀i,i<ps.length->i∉l->fl[i]? = some .A)(hw:∀i∈l,fl[i]? = some .W)(hN:ps.length<=N.length)
 (J:∀(f:Addr)(cdv:Value)(A:dc)(outer:List Env)(s:c9)(H:Hp)(E:XK),Room k (A.deeper (envOfC x (bh st) s.heap.objs.size f cdv))->DWs (cx P w K mg base N x st f cdv A outer s H E) fl l (dR st) fs) :
 FnOk P w K mg base CX0 (k+1) f fd ps (spW K l (fnW ps.length (N.length-ps.length) l fs)):=by
 refine Fn.ok S (λvs H Q E h=>?_) (λcdv A outer s H vs Q E L h=>?_)
 ·obtain⟨ds,T,d,r,Z,_⟩:=h;unfold fnW at Z;by_cases z:ds.length=ps.length
  ·rw[r.ln];exact z
  ·rw[if_neg z]at Z;cases Z
 ·obtain⟨ds,T,d,r,Z,q⟩:=h;refine⟨_,J f cdv A outer s H E L,?_⟩;unfold fnW at Z;by_cases z:ds.length=ps.length
  ·rw[if_pos z]at Z;have R:=wD (K:=K) (N:=N) ps.length hp hw z hN r;have U:V7 K l (gW r) d Q:=λO Y v H' T' V X I e4=>q O Y v H' T' V X I (post_of r e4)
   unfold M9 at Z;split at Z
   ·next c' G F e=>
    cases Z;exact⟨_,_,_,_,R,e,U⟩
   ·next δ' e=>
    refine D3.ex1 (bind1 Z) λO V X=>?_
    cases X;exact⟨_,_,_,_,R,e,λM σ' H' R'=>wC R' hw V U rfl .non⟩
   ·cases Z
  ·rw[if_neg z]at Z;cases Z
theorem V8(U:Dg K mg x st ps)(S:FnScope N ps (bh st))(J:∀i,i<ps.length->i∉l->fl[i]? = some .A)(hw:∀i∈l,fl[i]? = some .W)(O:ps.length<=N.length)
 (q:∀(f:Addr)(cdv:Value)(A:dc)(outer:List Env)(s:c9)(H:Hp)(E:XK),Room k (A.deeper (envOfC x (bh st) s.heap.objs.size f cdv))->DWs (cx P w K mg base N x st f cdv A outer s H E) fl l (dR st) fs) :
 Has P w K mg base (k+1) x ps (spW K l (fnW ps.length (N.length-ps.length) l fs)):=by
 obtain⟨f,fd,Z,b,m⟩:=U.ex;exact⟨f,fd,M_ ⟨Z.ex⟩ S J hw O q,b,Z.kp,m⟩
end
end XI
namespace XI
open L2 My D3
inductive AOk(K:PySem.W.Frag)(ow:Ow)(σ:D3.St)(δ:DS)(H:Hp):List (Option Nat)->List V->List D->Prop
 |nil:AOk K ow σ δ H [] [] []
 |nm {i:Nat} {v:V} {d:D} {sl:List (Option Nat)} {vs:List V} {ds:List D}:σ[i]? = some (some v)->δ[i]? = some (some (.d d))->AOk K ow σ δ H sl vs ds->AOk K ow σ δ H (some i::sl) (v::vs) (d::ds)
 |ex {v:V} {d:D} {sl:List (Option Nat)} {vs:List V} {ds:List D}:RA K (okA ow) true H v d->AOk K ow σ δ H sl vs ds->AOk K ow σ δ H (none::sl) (v::vs) (d::ds)
section
variable{K:PySem.W.Frag}{ow:Ow}{σ:D3.St}{δ:DS}{H:Hp}
theorem AOk.len:∀{sl:List (Option Nat)}{vs:List V}{ds:List D},AOk K ow σ δ H sl vs ds->vs.length=ds.length/\sl.length=ds.length
 |_,_,_,.nil=>⟨rfl,rfl⟩
 |_,_,_,.nm _ _ q=>by simp[q.len.1,q.len.2]
 |_,_,_,.ex _ q=>by simp[q.len.1,q.len.2]
theorem AOk.name:∀{sl:List (Option Nat)}{vs:List V}{ds:List D}{i s:Nat},AOk K ow σ δ H sl vs ds->sl[i]? = some (some s)->∃v d,vs[i]? = some v/\ds[i]? = some d/\σ[s]? = some (some v)/\δ[s]? = some (some (.d d))
 |_,_,_,_,_,.nil,h=>by simp at h
 |_,_,_,0,_,.nm a b _,h=>by cases h;exact⟨_,_,rfl,rfl,a,b⟩
 |_,_,_,0,_,.ex _ _,h=>by cases h
 |_,_,_,i+1,_,.nm _ _ q,h=>by
  obtain⟨v,d,h1,h2,h3⟩:=q.name (i:=i) (by simpa using h);exact⟨v,d,by simpa using h1,by simpa using h2,h3⟩
 |_,_,_,i+1,_,.ex _ q,h=>by
  obtain⟨v,d,h1,h2,h3⟩:=q.name (i:=i) (by simpa using h);exact⟨v,d,by simpa using h1,by simpa using h2,h3⟩
theorem AOk.dat:∀{sl:List (Option Nat)}{vs:List V}{ds:List D}{i:Nat}{v:V}{d:D},AOk K ow σ δ H sl vs ds->(∀s,sl[i]? ≠ some (some s))->vs[i]? = some v->ds[i]? = some d->RA K (okA ow) true H v d
 |_,_,_,_,_,_,.nil,_,h,_=>by simp at h
 |_,_,_,0,_,_,.nm _ _ _,n,_,_=>absurd rfl (n _)
 |_,_,_,0,_,_,.ex r _,_,h1,h2=>by cases h1;cases h2;exact r
 |_,_,_,i+1,_,_,.nm _ _ q,n,h1,h2=>q.dat (i:=i) (λs z=>n s (by simpa using z)) (by simpa using h1) (by simpa using h2)
 |_,_,_,i+1,_,_,.ex _ q,n,h1,h2=>q.dat (i:=i) (λs z=>n s (by simpa using z)) (by simpa using h1) (by simpa using h2)
end
noncomputable def tWA(K:PySem.W.Frag)(fl:List Fl)(sl:List (Option Nat))(f:FA):TA:=λσ H Q=>∃G ow δ ds,Rel K fl G ow σ H δ/\f δ=some ds/\∀vs H',Same H H'->AOk K ow σ δ H' sl vs ds->Q vs H'
abbrev DWA(X:Cx)(fl:List Fl)(sl:List (Option Nat))(es:List Expr)(f:FA):Prop:=PA X es (tWA X.K fl sl f)
noncomputable def uN:List Nat->List D->DS->DS
 |s::l,d::r,δ=>uN l r (δ.set s (some (.d d)))
 |_,_,δ=>δ
theorem Ck:∀(l:List Nat)(r:List D)(δ:DS),(uN l r δ).length=δ.length
 |[],_,_=>rfl
 |_::_,[],_=>rfl
 |s::l,d::r,δ=>by rw[uN,Ck l r,cg]
theorem zQ:∀{l:List Nat}{r:List D}{δ:DS}{j:Nat},j∉l->(uN l r δ)[j]? = δ[j]?
 |[],_,_,_,_=>rfl
 |_::_,[],_,_,_=>rfl
 |s::l,d::r,δ,j,h=>by
  rw[uN,zQ λz=>h (au _ z),aL λz=>h (by rw[z];exact aA)]
theorem Hl:∀{l:List Nat}{r:List D}{δ:DS}{k s:Nat}{d:D},l.Nodup->(∀i∈l,i<δ.length)->l[k]? = some s->r[k]? = some d->(uN l r δ)[s]? = some (some (.d d))
 |[],_,_,_,_,_,_,_,h,_=>by simp at h
 |_::_,[],_,_,_,_,_,_,_,h=>by simp at h
 |t::l,e::r,δ,0,s,d,nd,lt,h1,h2=>by
  cases h1
  cases h2;rw[uN,zQ (bW.mp nd).1,bU (lt _ aA)]
 |t::l,e::r,δ,k+1,s,d,nd,lt,h1,h2=>by
  rw[uN];exact Hl (bW.mp nd).2 (λi hi=>by rw[cg];exact lt i (au _ hi)) (by simpa using h1) (by simpa using h2)
def tEW(K:PySem.W.Frag)(fl:List Fl)(f:DS->Option (D×DS)):TE:=λσ H Q=>∃G ow δ d δ',Rel K fl G ow σ H δ/\f δ=some (d,δ')/\∀v H' Z,Rel K fl G Z σ H' δ'->flat d=true->RA K ok0 false H' v d->Q v H'
abbrev DEW(X:Cx)(fl:List Fl)(e:Expr)(f:DS->Option (D×DS)):Prop:=PE X e (tEW X.K fl f)
section
variable{X:Cx}{fl:List Fl}{e:Expr}{es:List Expr}{pos p:Pos}{x:Str}{f:FE}{fr:FA}{sl:List (Option Nat)}{i:Nat}
theorem vg:DWA X fl [] [] bN:=PA.imp jF λσ H Q h=>by
 refine D3.ex4 h λG ow δ ds R Z q=>?_
 cases Z;exact q [] H (Same.refl H) .nil
theorem mj(h:DE X fl .A e f)(O:DWA X fl sl es fr)(J:starEach (e::es) X.env=(false,eval e X.env)::starEach es X.env:=by exact iB rfl):DWA X fl (none::sl) (e::es) (aD f fr):=PA.imp (f9 h O J) λσ H Q h=>by
 refine D3.ex4 h λG ow δ ds R Z q=>?_
 refine D3.ex1 (bind1 Z) λd W Z=>?_
 refine D3.ex1 (bind1 Z) λr Y Z=>?_
 cases Z;exact⟨G,ow,δ,d,R,W,λv H1 s1 r1=>⟨G,ow,δ,r,R.grow s1,Y,λvs H2 s2 r2=>q _ H2 (s1.trans s2) (.ex (RA.same s2 r1) r2)⟩⟩
theorem Cm(hn:isN fl[i]? = true)(hN:X.N[i]? = some x)(U:DWA X fl sl es fr)(J:Vis X.env.scope x:=by first|exact Or.inl rfl|exact Or.inr (Or.inl rfl)|exact Or.inr (Or.inr rfl))(hd:(x==("__debug__":Str))=false:=by decide)(hcd:(x==("__classdict__":Str))=false:=by decide)
 (O:starEach (.Name x p::es) X.env=(false,eval (.Name x p) X.env)::starEach es X.env:=by exact iB rfl):DWA X fl (some i::sl) (.Name x p::es) (aD (aB i) fr):=PA.imp (f9 (i_ hN J hd hcd) U O) λσ H Q h=>by
 refine D3.ex4 h λG ow δ ds R Z q=>?_
 refine D3.ex1 (bind1 Z) λd V Z=>?_
 refine D3.ex1 (bind1 Z) λr W Z=>?_
 cases Z;have Y:=gD V;obtain⟨v,h1,_,_⟩:=R.nr i d hn Y;exact⟨v,h1,G,ow,δ,r,R,W,λvs H2 s2 r2=>q _ H2 s2 (.nm h1 Y r2)⟩
end
def JD(d:D)(sw:List Nat)(δ:DS):Option (D×DS):=match d with
 | .tuple (r::ps)=>if flat r=true/\ps.length=sw.length then some (r,uN sw ps δ)else none
 |_=>none
structure SlW(fl:List Fl)(sl:List (Option Nat))(l sw:List Nat):Prop where
 h1:∀(i s:Nat),sl[i]? = some (some s)->i∈l
 h2:∀(i j s:Nat),sl[i]? = some (some s)->sl[j]? = some (some s)->i=j
 h3:sw.length=l.length
 h4:∀(k i s:Nat),l[k]? = some i->sw[k]? = some s->sl[i]? = some (some s)
 h5:sw.Nodup
 h6:∀s∈sw,fl[s]? = some .N\/fl[s]? = some .W
open Classical in
theorem yG{K:PySem.W.Frag}{fl:List Fl}{G:Gh}{ow:Ow}{σ:D3.St}{H H1:Hp}{δ:DS}{sl:List (Option Nat)}{l sw:List Nat}{vs:List V}{ds:List D}(W:SlW fl sl l sw)(R:Rel K fl G ow σ H δ)(s:Same H H1)(a:AOk K ow σ δ H1 sl vs ds):
 ∃T:Nat->List Addr,PreW K l H1 vs ds T/\∀H' T' qs,PostW K l H1 T vs H' T' qs->qs.length=sw.length->∃q,Rel K fl G q σ H' (uN sw qs δ):=by
 obtain⟨h1,h2,h3,h4,h5,h6⟩:=W;have C:=R.grow s;have P:∀i∈l,∃s,sl[i]? = some (some s)/\s∈sw:=λi hi=>by
  obtain⟨k,U⟩:=oH.mp hi;have N:k<sw.length:=by rw[h3];exact(aQ.mp U).1
  exact⟨_,h4 k i _ U (aF N),iR N⟩
 have Q:∀s∈sw,∃k i,sw[k]? = some s/\l[k]? = some i/\sl[i]? = some (some s):=λs Z=>by
  obtain⟨k,U⟩:=oH.mp Z;have N:k<l.length:=by rw[<-h3];exact(aQ.mp U).1
  exact⟨k,_,U,aF N,h4 k _ s (aF N) U⟩
 have isT:∀s∈sw,isN fl[s]? = true:=λs Z=>by rcases h6 s Z with y|y<;>(rw[y];rfl)
 obtain⟨T,O⟩:∃T:Nat->List Addr,∀(i s:Nat),sl[i]? = some (some s)->T i=ow.n s:=⟨λi=>match sl[i]? with|some (some s)=>ow.n s|_=>[],λi s e=>by dsimp only;rw[e]⟩;have u:(λb=>∃j∈l,b∈T j)=ofJ (λs=>decide (s∈sw)) ow.n:=funext λb=>propext ⟨λ⟨j,M,hb⟩=>by
  obtain⟨s,Z,hw⟩:=P j M;exact⟨s,dTr hw,by rw[<-O j s Z];exact hb⟩,λ⟨s,Z,hb⟩=>by
  obtain⟨k,i,_,S,hi⟩:=Q s (of_decide_eq_true Z);exact⟨i,cD S,by rw[O i s hi];exact hb⟩⟩
 refine⟨T,⟨C.tb,a.len.1,λi hi=>?_,λi v y r x hd=>?_,λi v y hi x hd=>?_,λi hi j M b hb X=>?_⟩,λH' T' qs ⟨g3,h,m,o⟩ f=>?_⟩
 ·obtain⟨s,Z,_⟩:=P i hi;rw[<-a.len.2];exact(aQ.mp Z).1
 ·refine(a.dat (λs z=>r (h1 i s z)) x hd).imp (λb hb j M z=>?_) (λz=>z);obtain⟨s,Z,_⟩:=P j M;rw[O j s Z]at z;exact hb.2 s z
 ·obtain⟨s,Z,hw⟩:=P i hi;obtain⟨J,g,k1,k2,k3,F⟩:=a.name Z;rw[x]at k1;rw[hd]at k2
  cases k1
  cases k2;obtain⟨J,I,A,B⟩:=C.nr s y (isT s hw) F;rw[k3]at I
  cases I;rw[O i s Z];exact⟨A,B⟩
 ·obtain⟨s,Z,_⟩:=P i hi;obtain⟨s',Y,_⟩:=P j M;rw[O i s Z]at hb;rw[O j s' Y]at X;have:=C.nd s s' b hb X;rw[<-this]at Y;exact h2 i j s Z Y
 ·obtain⟨as,E⟩:∃as:Nat->List Addr,∀(i s:Nat),sl[i]? = some (some s)->as s=T' i:=⟨λs=>if z:∃i,sl[i]? = some (some s)then T' (Classical.choose z)else [],λi s e=>by
   have z:∃i,sl[i]? = some (some s):=⟨i,e⟩;dsimp only;rw[dif_pos z,h2 _ i s (eJ z) e]⟩
  have lt:∀s∈sw,s<δ.length:=λs Z=>by
   obtain⟨k,i,_,_,hi⟩:=Q s Z;obtain⟨_,_,_,_,_,F⟩:=a.name hi;exact(aQ.mp F).1
  refine⟨Fj ow (λs=>decide (s∈sw)) as,Ys C (λs Z=>h6 s (of_decide_eq_true Z)) (Ck _ _ _) (λs Z=>zQ (of_decide_eq_false Z)) (by rw[<-u];exact g3) (λs Z=>?_) (λs Z b hb=>?_) λs s' Z Y b hb X=>?_⟩
  ·obtain⟨k,i,U,S,hi⟩:=Q s (of_decide_eq_true Z);obtain⟨J,g,k1,k2,k3,F⟩:=a.name hi;obtain⟨y,I,A,B⟩:=h k i J S k1;rw[E i s hi];exact⟨J,y,k3,Hl h5 lt U I,A,B⟩
  ·obtain⟨k,i,U,S,hi⟩:=Q s (of_decide_eq_true Z);rw[E i s hi]at hb;have:=m i (cD S) b hb;have e:(∃j∈l,b∈T j)=ofJ (λs=>decide (s∈sw)) ow.n b:=congrFun u b;rw[e]at this;exact this
  ·obtain⟨k,i,U,S,hi⟩:=Q s (of_decide_eq_true Z);obtain⟨d,t,p,w,L⟩:=Q s' (of_decide_eq_true Y);rw[E i s hi]at hb;rw[E t s' L]at X;have:=o i (cD S) t (cD w) b hb X;rw[this,L]at hi
   cases hi;rfl
theorem wF{K:PySem.W.Frag}{fl:List Fl}{G:Gh}{ow:Ow}{σ:D3.St}{H H1:Hp}{δ δ':DS}{sl:List (Option Nat)}{l sw:List Nat}{vs:List V}{ds:List D}{d U:D}{F:List D->Option D}{Q:V->Hp->Prop}{E:XK}(W:SlW fl sl l sw)(R:Rel K fl G ow σ H δ)(s:Same H H1)(a:AOk K ow σ δ H1 sl vs ds)(e2:F ds=some d)(O:JD d sw δ=some (U,δ'))
 (q:∀v H' J,Rel K fl G J σ H' δ'->flat U=true->RA K ok0 false H' v U->Q v H'):spW K l F vs H1 Q E:=by
 obtain⟨T,p,g⟩:=yG W R s a;refine⟨ds,T,d,p,e2,λr qs v H' T' g1 g2 Y Z=>?_⟩;subst g1;unfold JD at O;dsimp only at O;by_cases c:flat r=true/\qs.length=sw.length
 case neg=>rw[if_neg c]at O;cases O
 rw[if_pos c]at O
 cases O;obtain⟨J,R'⟩:=g H' T' qs Z c.2;exact q v H' J R' c.1 Y
def wG(F:List D->Option D)(fa:FA)(sw:List Nat):DS->Option (D×DS):=λδ=>(fa δ).bind λds=>(F ds).bind λd=>JD d sw δ
theorem Nb{X:Cx}{fl:List Fl}{e:Expr}{es:List Expr}{pos p:Pos}{x:Str}{ps:List Str}{n:Nat}{F:List D->Option D}{fa:FA}{sl:List (Option Nat)}{l sw:List Nat}(h:Has X.prog X.w X.K X.mg X.base n x ps (spW X.K l F))(U:Room n X.A)(ha:DWA X fl sl (e::es) fa)(W:SlW fl sl l sw)
 (hg:Gl X x:=by rfl) (O:(x==("__debug__":Str))=false:=by decide)
 (he:starEach (e::es) X.env=(false,eval e X.env)::starEach es X.env:=by exact iB rfl) (J:(backTo pos (starEach es X.env)).any (·.1)=false:=by exact uG rfl) :
 DEW X fl (.Call (.Name x p) (e::es) [] pos) (wG F fa sw):=PE.imp (Bb h U ha hg O he J) λσ H Q Y=>by
 obtain⟨G,ow,δ,S,δ',R,Z,q⟩:=Y;refine D3.ex1 (bind1 Z) λds T Z=>?_
 refine D3.ex1 (bind1 Z) λd V Z=>?_
 refine⟨G,ow,δ,ds,R,T,λvs H1 s a=>?_⟩;show spW X.K l F (vs++[]) H1 Q E0;rw[cR];exact wF W R s a V Z q
end XI
namespace XI
open L2 My D3
noncomputable def nmS:List (D×D)->Option (List Str)
 |[]=>some []
 | (.str x,_)::r=>(nmS r).map (x :: ·)
 |_=>none
def isC(C:Addr)(ns:List Str):D->Option (List D)
 | .dict ((.none,.tuple [.int i])::r)=>if i=(C:Int)/\nmS r=some ns then some (r.map (·.2))else none
 |_=>none
theorem Cp:∀{ns:List Str}{ds:List D},ns.length=ds.length->nmS (yU ns ds)=some ns/\(yU ns ds).map (·.2)=ds
 |[],[],_=>⟨rfl,rfl⟩
 |n::ns,d::ds,h=>by
  obtain⟨h1,h2⟩:=Cp (Nat.succ.inj h);exact⟨by rw[yU,nmS,h1];rfl,by rw[yU,aM,h2]⟩
theorem Nf{C J:Addr}{ns q:List Str}{ds xs:List D}(O:q.length=ds.length)(h:isC C ns (.dict (pX J q ds))=some xs):J=C/\q=ns/\xs=ds:=by
 obtain⟨h1,h2⟩:=Cp O;unfold isC pX at h;dsimp only at h;split at h
 ·next c=>
  cases h;rw[h1]at c;exact⟨Int.ofNat.inj c.1,cL.inj c.2,h2⟩
 ·cases h
section
variable{K:PySem.W.Frag}{H:Hp}{v:V}{d:D}{as:List Addr}{C:Addr}{ns:List Str}{ds:List D}{ok:Ok}{pl:Bool}
theorem wH(r:RT K H v d as)(h:isC C ns d=some ds):∃a dx fs,v = .ref a/\H a=some (.ins C dx fs)/\H dx=some (.own a)/\fs.map (·.1)=ns/\RTs K H (fs.map (·.2)) ds as:=by
 cases r with
 |ins e g q z=>
  subst z;have Z:=q.len;obtain⟨rfl,h2,rfl⟩:=Nf (by rw[<-Z,ak,ak]) h;exact⟨_,_,_,rfl,e,g,h2,q⟩
 |dic e g=>
  have:=g.isI;unfold isC at h;split at h
  ·next z=>cases z;cases this
  ·cases h
 |_=>cases h
theorem Fq(r:RA K ok pl H v d)(h:isC C ns d=some ds):∃a dx fs,v = .ref a/\H a=some (.ins C dx fs)/\H dx=some (.own a)/\fs.map (·.1)=ns/\RAs K ok pl H (fs.map (·.2)) ds:=by
 cases r with
 |ins e g q z=>
  subst z;have Z:=q.length;obtain⟨rfl,h2,rfl⟩:=Nf (by rw[<-Z,ak,ak]) h;exact⟨_,_,_,rfl,e,g,h2,q⟩
 |dic e g=>
  have:=g.isI;unfold isC at h;split at h
  ·next z=>cases z;cases this
  ·cases h
 |dik e g=>
  have:=g.isI;unfold isC at h;split at h
  ·next z=>cases z;cases this
  ·cases h
 |_=>cases h
end
theorem nu:∀{fs:List (Str×V)}{m:Str},m∉fs.map (·.1)->fs.lookup m=none
 |[],_,_=>rfl
 | (x,v)::fs,m,h=>by
  have h1:m≠x:=λz=>h (by rw[z];exact aA)
  rw[cF,show(m==x)=false from by simpa using h1];exact nu λz=>h (au _ z)
theorem nC:∀{fs:List (Str×V)}{m:Str}{k:Nat},(fs.map (·.1))[k]? = some m->(∀j,j<k->(fs.map (·.1))[j]? ≠ some m)->∃v,fs.lookup m=some v/\(fs.map (·.2))[k]? = some v
 |[],_,_,h,_=>by simp at h
 | (x,v)::fs,m,0,h,_=>by
  have:x=m:=by simpa using h
  subst this;exact⟨v,by rw[cF];simp,rfl⟩
 | (x,v)::fs,m,k+1,h,n=>by
  have h1:m≠x:=λz=>n 0 (Nat.succ_pos _) (by rw[z];rfl)
  obtain⟨w,Y,Z⟩:=nC (fs:=fs) (m:=m) (k:=k) (by simpa using h) λj X z=>n (j+1) (by omega) (by simpa using z)
  exact⟨w,by rw[cF,show(m==x)=false from by simpa using h1];exact Y,by simpa using Z⟩
structure HasM(P:c_)(w:de)(K:PySem.W.Frag)(mg:Str->Option Value)(base:dl)(n:Nat)(C:Addr)(m:Str)(ps:List Str)(sp:Sp):Prop where
 ex:∃(f:Addr)(fd:dk),FnOk P w K mg base CX0 n f fd ps sp/\Binds K fd ps []/\Meth K C m f
 cl:Cls K C
section
variable{X:Cx}{fl:List Fl}{e:Expr}{es:List Expr}{pos apos p:Pos}{x m:Str}{ps:List Str}{n i:Nat}{F:List D->Option D}{fa:FA}{C:Addr}{ns:List Str}{f:FE}
def mq(F:List D->Option D)(C:Addr)(ns:List Str)(f:FE)(fa:FA):FE:=λδ=>(f δ).bind λd=>(isC C ns d).bind λ_=>(fa δ).bind λds=>F (d::ds)
def ud(F:List D->Option D)(C:Addr)(ns:List Str)(i:Nat)(fa:FA)(sw:List Nat):DS->Option (D×DS):=λδ=>(aB i δ).bind λd=>(isC C ns d).bind λ_=>(fa δ).bind λds=>(F (d::ds)).bind λr=>JD r sw δ
theorem zR{pl:Sem Bool}{o:Expr}(h:HasM X.prog X.w X.K X.mg X.base n C m ps (spD X.K F))(hr:Room n X.A)(hm:m∉ns)(ho:DE X fl .P o f)(ha:DB X fl .P (e::es) fa)
 (he:starEach (e::es) X.env=(false,eval e X.env)::starEach es X.env:=by exact iB rfl) (J:(backTo pos (starEach es X.env)).any (·.1)=false:=by exact uG rfl)
 (U:eval (.Call (.Attribute o m apos) (e::es) [] pos) X.env=(do
  let O <-eval o X.env
  standAt apos.atName
  let(f,fi) <-holding [O] (getMethod O m pl)
  callWith pos f fi (backTo pos (starEach (e::es) X.env)) (backToKw pos (keywordEach [] X.env))):=by rfl) :
 DE X fl .C (.Call (.Attribute o m apos) (e::es) [] pos) (mq F C ns f fa):=by
 obtain⟨g,fd,I,b,M⟩:=h.ex;refine PE.imp (Gm (E:=E0) ho h.cl M I hr b .nil Ba ha he J U) λσ H Q T=>?_
 refine D3.ex4 T λG ow δ r R Z q=>?_
 refine D3.ex1 (bind1 Z) λd L Z=>?_
 refine D3.ex1 (bind1 Z) λxs N Z=>?_
 refine D3.ex1 (bind1 Z) λds S Z=>?_
 refine⟨G,ow,δ,d,R,L,λv H0 s0 k2=>?_⟩;have k2:RA X.K ok1 true H0 v d:=k2;obtain⟨a,dx,fs,rfl,V,D,W,_⟩:=Fq k2 N;refine⟨a,dx,fs,rfl,V,nu (by rw[W];exact hm),G,ow,δ,ds,R.grow s0,S,λvs H' s Y=>?_⟩;show spD X.K F (.ref a::(vs++[])) H' Q E0;rw[cR];exact⟨d::ds,r,⟨(R.grow s0).tb.same s,.cons (k2.same s) Y⟩,Z,λv H2 s2 r2=>q v H2 ((s0.trans s).trans s2) (RA.imp (λa z=>(s0.trans s).free z) (λz=>z) r2)⟩
theorem Cq{pl:Sem Bool}{sl:List (Option Nat)}{l sw:List Nat}(h:HasM X.prog X.w X.K X.mg X.base n C m ps (spW X.K l F))(hr:Room n X.A)(hi:isN fl[i]? = true)(hN:X.N[i]? = some x)(hm:m∉ns)(ha:DWA X fl sl (e::es) fa)(W:SlW fl (some i::sl) l sw)(hv:Vis X.env.scope x:=by first|exact Or.inl rfl|exact Or.inr (Or.inl rfl)|exact Or.inr (Or.inr rfl))(hd:(x==("__debug__":Str))=false:=by decide)(hcd:(x==("__classdict__":Str))=false:=by decide)
 (he:starEach (e::es) X.env=(false,eval e X.env)::starEach es X.env:=by exact iB rfl) (J:(backTo pos (starEach es X.env)).any (·.1)=false:=by exact uG rfl)
 (ht:eval (.Call (.Attribute (.Name x p) m apos) (e::es) [] pos) X.env=(do
  let O <-eval (.Name x p) X.env
  standAt apos.atName
  let(f,fi) <-holding [O] (getMethod O m pl)
  callWith pos f fi (backTo pos (starEach (e::es) X.env)) (backToKw pos (keywordEach [] X.env))):=by rfl) :
 DEW X fl (.Call (.Attribute (.Name x p) m apos) (e::es) [] pos) (ud F C ns i fa sw):=by
 obtain⟨g,fd,D,b,M⟩:=h.ex;refine PE.imp (Gm (E:=E0) (i_ hN hv hd hcd) h.cl M D hr b .nil Ba ha he J ht) λσ H Q S=>?_
 obtain⟨G,ow,δ,z,δ',R,Z,q⟩:=S;refine D3.ex1 (bind1 Z) λd I Z=>?_
 refine D3.ex1 (bind1 Z) λxs L Z=>?_
 refine D3.ex1 (bind1 Z) λds P Z=>?_
 refine D3.ex1 (bind1 Z) λr e4 Z=>?_
 have Y:=gD I;obtain⟨v,k1,k2,k3⟩:=R.nr i d hi Y;obtain⟨a,dx,fs,rfl,T,B,U,_⟩:=wH k2 L;refine⟨_,k1,a,dx,fs,rfl,T,nu (by rw[U];exact hm),G,ow,δ,ds,R,P,λvs H' s V=>?_⟩;show spW X.K l F (.ref a::(vs++[])) H' Q E0;rw[cR];exact wF W R s (.nm k1 Y V) e4 Z q
def uO(C:Addr)(ns:List Str)(k:Nat)(f:FE):FE:=λδ=>(f δ).bind λd=>(isC C ns d).bind λds=>ds[k]?
theorem n6{k:Nat}(he:DE X fl .P e f)(c:Cls X.K C)(J:jc X.K C m)(O:ns[k]? = some m)(hn:∀j,j<k->ns[j]? ≠ some m)(hb:attributeBase e m X.env (eval e X.env)=eval e X.env):DE X fl .P (.Attribute e m pos) (uO C ns k f):=PE.imp (yO he hb) λσ H Q U=>by
 refine D3.ex4 U λG ow δ r R Z q=>?_
 refine D3.ex1 (bind1 Z) λd M Z=>?_
 refine D3.ex1 (bind1 Z) λds N Z=>?_
 refine⟨G,ow,δ,d,R,M,λv H' s r1=>?_⟩;have r1:RA X.K ok1 true H' v d:=r1;obtain⟨a,dx,fs,rfl,V,L,Y,W⟩:=Fq r1 N;obtain⟨w,g1,g2⟩:=nC (fs:=fs) (m:=m) (k:=k) (by rw[Y];exact O) λj T=>by rw[Y];exact hn j T
 obtain⟨y,g3,S⟩:=W.get Z;rw[g2]at g3
 cases g3;exact⟨a,C,dx,fs,w,rfl,V,c,J,g1,q w H' s S⟩
end
end XI
namespace XI
open L2 My D3
abbrev FW:=DS->Option (D×DS)
abbrev FTW:=DS->Option (Bool×DS)
def mK(f:FW):FS:=λδ=>(f δ).bind λp=>some (.nx p.2)
def JF(f:FT):FTW:=λδ=>(f δ).map λb=>(b,δ)
def wI(f:FW):FTW:=λδ=>(f δ).bind λp=>match p.1 with
 | .bool b=>some (b,p.2)
 |_=>none
def yH(f:FTW):FTW:=λδ=>(f δ).map λp=>(!p.1,p.2)
def Cr(f g:FTW):FTW:=λδ=>(f δ).bind λp=>if p.1=true then g p.2 else some (false,p.2)
def Ng(f:FTW)(a b:FS):FS:=λδ=>(f δ).bind λp=>if p.1=true then a p.2 else b p.2
noncomputable def tTW(K:PySem.W.Frag)(fl:List Fl)(f:FTW):TT:=λσ H Q=>∃G ow δ b δ',Rel K fl G ow σ H δ/\f δ=some (b,δ')/\∀H' Z,Rel K fl G Z σ H' δ'->Q b H'
abbrev DTW(X:Cx)(fl:List Fl)(e:Expr)(f:FTW):Prop:=PT X e (tTW X.K fl f)
abbrev DWW(X:Cx)(fl:List Fl)(e:Expr)(f:FTW):Prop:=PW X e (tTW X.K fl f)
section
variable{X:Cx}{fl:List Fl}{e a b c:Expr}{rest:List Expr}{body orelse:List dy}{pos pos':Pos}{x:Str}{i:Nat}{f:FW}{ft:FT}{fw gw:FTW}{fs gs:FS}{l:List Nat}
theorem sU(h:DEW X fl e f)(J:swapsWith e none pos.line X.env=pure false:=by rfl):DS1 X fl (.Expr e pos) (mK f):=PS.imp (uW h J) λU σ H h=>by
 refine D3.ex4 h λG ow δ o R Y q=>?_
 obtain⟨⟨d,δ'⟩,V,W⟩:=bind1 Y
 cases W;exact⟨G,ow,δ,d,δ',R,V,λv H' Z R' _ _=>q Z σ H' R'⟩
theorem tw_of(h:DT X fl e ft):DTW X fl e (JF ft):=PT.imp h λσ H Q h=>by
 obtain⟨G,ow,δ,b,δ',R,Z,q⟩:=h;unfold JF at Z
 cases Y:ft δ with
 |none=>rw[Y]at Z;cases Z
 |some t=>
  rw[Y]at Z
  cases Z;exact⟨G,ow,δ,_,R,Y,λH' s=>q H' ow (R.grow s)⟩
theorem tw_val(h:DEW X fl e f)(J:∀whole,isTrue e X.env whole=(do let v <-whole;standAt e.pos;holding [v] (truthy v)):=by intro _;rfl):DTW X fl e (wI f):=PT.imp (J_ h J) λσ H Q h=>by
 obtain⟨G,ow,δ,b,δ',R,V,q⟩:=h;obtain⟨⟨d,W⟩,U,Z⟩:=bind1 V;dsimp only at Z;split at Z
 ·next k=>
  cases Z;exact⟨G,ow,δ,_,_,R,U,λv H' Y R' hd r=>⟨_,RA.blE r,q H' Y R'⟩⟩
 ·cases Z
theorem tw_not(h:DTW X fl a fw):DTW X fl (.UnaryOp .Not a pos) (yH fw):=PT.imp (Kc h) λσ H Q h=>by
 obtain⟨G,ow,δ,b,δ',R,Z,q⟩:=h;unfold yH at Z
 cases W:fw δ with
 |none=>rw[W]at Z;cases Z
 |some t=>
  rw[W]at Z
  cases Z;exact⟨G,ow,δ,t.1,t.2,R,W,λH' Y R'=>q H' Y R'⟩
theorem Rv(h:DTW X fl a fw):DWW X fl (.BoolOp .And [a] pos) fw:=Gi h
theorem V9(h1:DTW X fl a fw)(h2:DWW X fl (.BoolOp .And (b::rest) pos) gw):DWW X fl (.BoolOp .And (a::b::rest) pos) (Cr fw gw):=PW.imp (Ka h1 h2) λσ H Q h=>by
 obtain⟨G,ow,δ,k,δ',R,V,q⟩:=h;obtain⟨⟨t,Z⟩,U,W⟩:=bind1 V;refine⟨G,ow,δ,t,Z,R,U,λH' Y R'=>?_⟩
 cases t with
 |true=>exact xG ⟨G,Y,Z,k,δ',R',W,q⟩
 |false=>cases W;exact xu (q H' Y R')
theorem tw_w(h:DWW X fl a fw):DTW X fl a fw:=PW.pt h
theorem V_(J:DTW X fl c fw)(h1:DSs X fl body fs)(h2:DSs X fl orelse gs):DS1 X fl (.If c body orelse pos) (Ng fw fs gs):=PS.imp (Gj J h1 h2) λU σ H h=>by
 refine D3.ex4 h λG ow δ o R W q=>?_
 obtain⟨⟨t,δ'⟩,V,Y⟩:=bind1 W;refine⟨G,ow,δ,t,δ',R,V,λH' Z R'=>?_⟩
 cases t with
 |true=>exact xG ⟨G,Z,δ',o,R',Y,q⟩
 |false=>exact xu ⟨G,Z,δ',o,R',Y,q⟩
end
end XI
namespace XI
open L2 My D3
def Hq(C:Addr)(ns:List Str)(k i:Nat)(f:FE):FS:=λδ=>(aB i δ).bind λy=>(isC C ns y).bind λds=>(f δ).bind λd=>match ds[k]? with
 |some (.list m)=>if flat d=true/\m.length<1000000 then some (.nx (δ.set i (some (.d (.dict (pX C ns (ds.set k (.list (m++[d])))))))))else none
 |_=>none
theorem pC{H:Hp}{as:List Addr}{a:Addr}{u:HO}(h:a∈as):Same (less H as) (L2.upd H a u):=λb o e=>by
 by_cases z:b∈as
 ·rw[Ru z]at e;cases e
 ·rw[lK z]at e;rw[bf λy=>z (by rw[y];exact h)];exact e
section
variable{X:Cx}{fl:List Fl}{e:Expr}{pos:Pos}{x m:Str}{i k:Nat}{f:FE}{C:Addr}{ns:List Str}
theorem Rw{vpos J apos cpos:Pos}(hfl:fl[i]? = some .N\/fl[i]? = some .W)(h:DE X fl .P e f)(hN:X.N[i]? = some x)(c:Cls X.K C)(na:jc X.K C m)(hk:ns[k]? = some m)(hn:∀j,j<k->ns[j]? ≠ some m)
 (hv:Vis X.env.scope x:=by first|exact Or.inl rfl|exact Or.inr (Or.inl rfl)|exact Or.inr (Or.inr rfl)) (hd:(x==("__debug__":Str))=false:=by decide) (hcd:(x==("__classdict__":Str))=false:=by decide)
 (hb:attributeBase (.Name x vpos) m X.env (eval (.Name x vpos) X.env)=eval (.Name x vpos) X.env:=by rfl)
 (hs:swapsWith (.Call (.Attribute (.Attribute (.Name x vpos) m J) "append" apos) [e] [] cpos) none pos.line X.env=pure false:=by rfl)
 (Y:attributeBase (.Attribute (.Name x vpos) m J) "append" X.env (eval (.Attribute (.Name x vpos) m J) X.env)=eval (.Attribute (.Name x vpos) m J) X.env:=by rfl)
 (hfew:((backTo cpos (starEach [e] X.env)).all (λx=>!x.1)&&(backToKw cpos (keywordEach [] X.env)).all (λx=>x.1.isSome)
  && decide (([e]:List Expr).length+([]:List eD).length+(if([]:List eD).isEmpty then 0 else 1)<30))=true:=by rfl)
 (U:(apos.endLine==cpos.line)=true:=by rfl) (hst:starEach [e] X.env=(false,eval e X.env)::starEach [] X.env:=by rfl) (O:(backTo cpos (starEach [] X.env)).any (·.1)=false:=by rfl) :
 DS1 X fl (.Expr (.Call (.Attribute (.Attribute (.Name x vpos) m J) "append" apos) [e] [] cpos) pos) (Hq C ns k i f):=
 PS.imp (uW (T6 PySem.F.plainAttrs_list PySem.F.slot_list_append PySem.F.type_list_append tL (yO (i_ hN hv hd hcd) hb) (f9 h jF hst) Y hfew U hst O) hs) λDn σ H s=>by
 refine D3.ex4 s λG ow δ o R Z q=>?_
 refine D3.ex1 (bind1 Z) λy e1 Z=>?_
 refine D3.ex1 (bind1 Z) λds e2 Z=>?_
 refine D3.ex1 (bind1 Z) λd e3 Z=>?_
 split at Z
 case h_2=>cases Z
 next l em=>
 by_cases V:flat d=true/\l.length<1000000
 case neg=>rw[if_neg V]at Z;cases Z
 rw[if_pos V]at Z
 cases Z;have isT:isN fl[i]? = true:=by rcases hfl with y|y<;>(rw[y];rfl)
 have D:=gD e1;have hi:i<δ.length:=(aQ.mp D).1;obtain⟨v,B,c2,c3⟩:=R.nr i y isT D;obtain⟨p,dx,fs,rfl,Q,E,S,I⟩:=wH c2 e2;obtain⟨a,xs,bs,g1,g2,g3,g4,g5,_⟩:=I.part em;obtain⟨w,l1,l2⟩:=nC (fs:=fs) (m:=m) (k:=k) (by rw[S];exact hk) λj t=>by rw[S];exact hn j t
 rw[g1]at l2
 cases l2;refine⟨_,B,p,C,dx,fs,.ref a,rfl,Q,c,na,l1,.inl ⟨rfl,_,SqL.of g2⟩,G,ow,δ,d,R,e3,λu H2 s2 r2=>?_⟩;have h2:H2 a=some (.lst xs):=s2 _ _ g2;obtain⟨a',A,M,f1,f2,g,n,f5,r⟩:=(I.same s2).part em;rw[g1]at f1
 cases f1;rw[h2]at f2
 cases f2;obtain⟨n1,n2,n3⟩:=r c3;refine⟨a,xs,u,rfl,rfl,h2,by rw[g3.length];exact jA V.2 (by decide),?_⟩;obtain⟨L,r1,T,r3⟩:=n3 (xs++[u]) (l++[d]) M ((RTs.upd h2 n1 g).snoc (RT.upd h2 dJ (RT.flat0 V.1 r2))) (λb hb=>hb) n2;refine q (owN ow i L) σ _ (Cg (R.grow s2) hfl hi B (pC n) (.ins (by rw[bf (cU (s2 _ _ Q) h2 (by intro z;cases z))];exact s2 _ _ Q) (by rw[bf (cU (s2 _ _ E) h2 (by intro z;cases z))];exact s2 _ _ E) r1 (by rw[S])) (λb hb=>.inl (r3 b hb)) T)
end
end XI
namespace XI
open L2 My D3
def ssP(S:List (Str×Int)):List (D×D):=S.map λq=>(.str q.1,.int q.2)
noncomputable def ssD:List (D×D)->Option (List (Str×Int))
 |[]=>some []
 | (.str x,.int i)::r=>(ssD r).map ((x,i) :: ·)
 |_=>none
theorem uf:∀{kvs:List (D×D)}{S:List (Str×Int)},ssD kvs=some S->kvs=ssP S
 |[],S,h=>by cases h;rfl
 | (k,v)::r,S,h=>by
  unfold ssD at h;split at h
  ·next e=>cases e
  ·next x i Z e=>
   cases e
   cases q:ssD r with
   |none=>rw[q]at h;cases h
   |some Y=>
    rw[q]at h
    cases h;rw[uf q];rfl
  ·cases h
def dU(S:List (Str×Int)):List (Key×V):=S.map λq=>(.inr q.1,.int q.2)
theorem mL:∀S:List (Str×Int),vR (ssP S)=true
 |[]=>rfl
 |_::S=>mL S
theorem Nh:∀S:List (Str×Int),dk0 (ssP S)=dU S
 |[]=>rfl
 | (x,i)::S=>by
  show(.inr x,.int i)::dk0 (ssP S)=_;rw[Nh S];rfl
theorem pD(S:List (Str×Int)):dh0 (ssP S) = .dK (dU S):=by
 cases S with
 |nil=>rfl
 |cons q S=>
  unfold dh0;show(match tkD ((.str q.1,.int q.2)::ssP S)with|some ts=>HO.dT ts|none=>.dK (dk0 (ssP (q::S))))=_;rw[Nh];rfl
theorem wJ(S:List (Str×Int)):isI (ssP S)=false:=Gv (mL S)
noncomputable def jQ(S:List (Str×Int))(k:Str)(v:Int):List (Str×Int):=if(S.any λq=>decide (q.1=k))=true then S.map (λq=>if q.1=k then(q.1,v)else q)else S++[(k,v)]
theorem Ni(S:List (Str×Int))(k:Str)(v:Int):dU (jQ S k v)=putK (dU S) (.inr k) (.int v):=by
 have e:((dU S).any λZ=>decide (Z.1=(.inr k:Key)))=S.any λq=>decide (q.1=k):=by
  unfold dU;rw[List.any_map];congr 1
  funext q
  simp
 unfold jQ putK;rw[e];split
 ·unfold dU;rw[bO,bO];refine dF λq _=>?_
  show(eH (if q.1=k then(q.1,v)else q).1,V.int (if q.1=k then(q.1,v)else q).2)=if(eH q.1:Key) = .inr k then(eH q.1,V.int v)else(eH q.1,V.int q.2)
  by_cases c:q.1=k
  ·rw[if_pos c,if_pos (by rw[c])]
  ·rw[if_neg c,if_neg λz=>c (by injection z)]
 ·unfold dU;rw[bI];rfl
section
variable{K:PySem.W.Frag}{H:Hp}
theorem Cu{kvs:List (D×D)}(U:isI kvs=false):∀{vs:List V}{ds:List D}{as:List Addr}{k:Nat},RTs K H vs ds as->ds[k]? = some (.dict kvs)->∃a u,vs[k]? = some (.ref a)/\H a=some u/\DH H u kvs/\a∈as /\
 (as.Nodup->∀O J,DH (L2.upd H a O) O J->RTs K (L2.upd H a O) vs (ds.set k (.dict J)) as)
 |_,_,_,_,.nil,h=>by simp at h
 |_,_,_,0,.cons e q,h=>by
  simp at h;subst h
  cases e with
  |dic hx g=>
   rename_i T a u;have W:=g.chg;refine⟨a,u,rfl,hx,g,by simp,λnd O J Z=>?_⟩;obtain⟨_,_,n3⟩:=cO.mp nd;exact .cons (.dic bG Z) (RTs.upd hx (λz=>n3 a aA a z rfl) q)
  |ins _ _ _ z=>rw[z]at U;cases U
 |_,_,_,k+1,.cons e q,h=>by
  rename_i v d vs ds as bs;obtain⟨a,u,g1,g2,g3,Y,X⟩:=Cu U (k:=k) q (by simpa using h);have W:=g3.chg;refine⟨a,u,by simpa using g1,g2,g3,aR _ Y,λnd O J Z=>?_⟩;obtain⟨n1,n2,n3⟩:=cO.mp nd;exact .cons (RT.upd g2 (λz=>n3 a z a Y rfl) e) (X n2 O J Z)
end
def yI(C:Addr)(ns:List Str)(k i:Nat)(fk f:FE):FS:=λδ=>(f δ).bind λd=>(aB i δ).bind λy=>(isC C ns y).bind λds=>(fk δ).bind λZ=>match ds[k]?,Z,d with
 |some (.dict kvs),.str x,.int v=>(ssD kvs).bind λS=>if S.length<1000 then some (.nx (δ.set i (some (.d (.dict (pX C ns (ds.set k (.dict (ssP (jQ S x v))))))))))else none
 |_,_,_=>none
section
variable{X:Cx}{fl:List Fl}{e ke:Expr}{pos:Pos}{x m:Str}{i k:Nat}{f fk:FE}{C:Addr}{ns:List Str}
theorem zT{vpos J spos:Pos}(hu:X.A.units+1<cLine)(O:fl[i]? = some .N\/fl[i]? = some .W)(h:DE X fl .P e f)(hke:DE X fl .P ke fk)(hN:X.N[i]? = some x)(c:Cls X.K C)(na:jc X.K C m)(hk:ns[k]? = some m)(hn:∀j,j<k->ns[j]? ≠ some m)
 (hv:Vis X.env.scope x:=by first|exact Or.inl rfl|exact Or.inr (Or.inl rfl)|exact Or.inr (Or.inr rfl)) (hd:(x==("__debug__":Str))=false:=by decide) (hcd:(x==("__classdict__":Str))=false:=by decide)
 (hb:attributeBase (.Name x vpos) m X.env (eval (.Name x vpos) X.env)=eval (.Name x vpos) X.env:=by rfl)
 (hs:swapsWith e (some (.Subscript (.Attribute (.Name x vpos) m J) ke spos)) pos.line X.env=pure false:=by rfl) :
 DS1 X fl (.Assign [.Subscript (.Attribute (.Name x vpos) m J) ke spos] e pos) (yI C ns k i fk f):=
 PS.imp (G7 hu (yO (i_ hN hv hd hcd) hb) hke h hs) λDn σ H hh=>by
 refine D3.ex4 hh λG ow δ o R Z q=>?_
 refine D3.ex1 (bind1 Z) λd e3 I=>?_
 refine D3.ex1 (bind1 I) λy e1 L=>?_
 refine D3.ex1 (bind1 L) λds e2 M=>?_
 refine D3.ex1 (bind1 M) λkd e4 V=>?_
 clear Z I L M;split at V
 case h_2=>cases V
 next kvs Y n em=>
 refine D3.ex1 (bind1 V) λS eS Z=>?_
 by_cases Q:S.length<1000
 case neg=>rw[if_neg Q]at Z;cases Z
 rw[if_pos Q]at Z
 cases Z;obtain rfl:=uf eS;have isT:isN fl[i]? = true:=by rcases O with y|y<;>(rw[y];rfl)
 have D:=gD e1;have hi:i<δ.length:=(aQ.mp D).1;obtain⟨v,t,c2,B⟩:=R.nr i y isT D;obtain⟨p,dx,fs,rfl,T,E,U,F⟩:=wH c2 e2;obtain⟨a,u,g1,g2,g3,g4,g5⟩:=Cu (wJ S) F em;have eu:u = .dK (dU S):=by rw[g3.old (mL S),pD]
 subst eu;obtain⟨w,l1,l2⟩:=nC (fs:=fs) (m:=m) (k:=k) (by rw[U];exact hk) λj g=>by rw[U];exact hn j g
 rw[g1]at l2
 cases l2;refine⟨G,ow,δ,_,R,e3,λv1 H1 s1 r1=>?_⟩;obtain rfl:=RA.intE r1;refine⟨_,t,p,C,dx,fs,.ref a,rfl,s1 _ _ T,c,na,l1,G,ow,δ,_,R.grow s1,e4,λu2 r l r3=>?_⟩;obtain rfl:=RA.strE r3;have s:=s1.trans l;have h3:r a=some (.dK (dU S)):=s _ _ g2;obtain⟨a',u',f1,f2,f3,f4,f5⟩:=Cu (wJ S) (F.same s) em;rw[g1]at f1
 cases f1;refine⟨a,_,rfl,BP.k (k:=.inr Y) h3 (by unfold dU;rw[ak];exact jA Q (by decide)),?_⟩;have g':DH (L2.upd r a (.dK (putK (dU S) (.inr Y) (.int n)))) (.dK (putK (dU S) (.inr Y) (.int n))) (ssP (jQ S Y n)):=.inl ⟨mL _,by rw[pD,Ni]⟩;exact q (owN ow i (ow.n i)) σ _ (Cg (R.grow s) O hi t (pC f4) (.ins (by rw[bf (cU (s _ _ T) h3 (by intro z;cases z))];exact s _ _ T) (by rw[bf (cU (s _ _ E) h3 (by intro z;cases z))];exact s _ _ E) (f5 B _ _ g') (by rw[U])) (λb hb=>.inl hb) B)
end
end XI
namespace XI
open L2 My D3
def iJ(S:List (Str×Int))(k:Str):Option Int:=(S.find? λq=>decide (q.1=k)).map (·.2)
def k_(S:List (Str×Int))(k:Str):List (Str×Int):=S.filter λq=>decide (q.1≠k)
theorem zU:∀(S:List (Str×Int))(k:Str),qy (dU S) (.inr k)=(iJ S k).map V.int
 |[],_=>rfl
 |q::S,k=>by
  by_cases c:q.1=k
  ·rw[show dU (q::S)=(.inr q.1,.int q.2)::dU S from rfl,o_ (by rw[c])];simp[iJ,kJ,c]
  ·rw[show dU (q::S)=(.inr q.1,.int q.2)::dU S from rfl,pq (λz=>c (by injection z)),zU S k];simp[iJ,kJ,c]
theorem Hr(S:List (Str×Int))(k:Str):dU (k_ S k)=o9 (dU S) (.inr k):=by
 unfold dU k_ o9;rw[jg];congr 1;refine rG λq _=>?_
 simp
def Hs(C:Addr)(ns:List Str)(k i:Nat)(fk:FE):FW:=λδ=>(aB i δ).bind λy=>(isC C ns y).bind λds=>(fk δ).bind λZ=>match ds[k]?,Z with
 |some (.dict kvs),.str x=>(ssD kvs).bind λS=>(iJ S x).bind λv=>some (.int v,δ.set i (some (.d (.dict (pX C ns (ds.set k (.dict (ssP (k_ S x)))))))))
 |_,_=>none
section
variable{X:Cx}{fl:List Fl}{e ke:Expr}{pos:Pos}{x m:Str}{i k:Nat}{f fk:FE}{fw:FW}{C:Addr}{ns:List Str}{l:List Nat}
theorem Ht{vpos J apos cpos:Pos}(O:fl[i]? = some .N\/fl[i]? = some .W)(hke:DE X fl .P ke fk)(hN:X.N[i]? = some x)(c:Cls X.K C)(na:jc X.K C m)(hk:ns[k]? = some m)(hn:∀j,j<k->ns[j]? ≠ some m)(hm:M1 X (.Attribute (.Name x vpos) m J) "pop" apos ke cpos)
 (hv:Vis X.env.scope x:=by first|exact Or.inl rfl|exact Or.inr (Or.inl rfl)|exact Or.inr (Or.inr rfl)) (hd:(x==("__debug__":Str))=false:=by decide) (hcd:(x==("__classdict__":Str))=false:=by decide)
 (hb:attributeBase (.Name x vpos) m X.env (eval (.Name x vpos) X.env)=eval (.Name x vpos) X.env:=by rfl) :
 DEW X fl (.Call (.Attribute (.Attribute (.Name x vpos) m J) "pop" apos) [ke] [] cpos) (Hs C ns k i fk):=
 PE.imp (BW (yO (i_ hN hv hd hcd) hb) hke hm) λσ H Q l=>by
 obtain⟨G,ow,δ,d0,δ',R,F,q⟩:=l;refine D3.ex1 (bind1 F) λy e1 M=>?_
 refine D3.ex1 (bind1 M) λds e2 T=>?_
 refine D3.ex1 (bind1 T) λkd e4 Y=>?_
 clear F M T;split at Y
 case h_2=>cases Y
 next kvs Z em=>
 refine D3.ex1 (bind1 Y) λS eS r=>?_
 refine D3.ex1 (bind1 r) λn d t=>?_
 cases t;obtain rfl:=uf eS;have isT:isN fl[i]? = true:=by rcases O with y|y<;>(rw[y];rfl)
 have E:=gD e1;have hi:i<δ.length:=(aQ.mp E).1;obtain⟨v,B,c2,D⟩:=R.nr i y isT E;obtain⟨p,dx,fs,rfl,U,I,V,L⟩:=wH c2 e2;obtain⟨a,u,g1,g2,g3,g4,g5⟩:=Cu (wJ S) L em;have e:u = .dK (dU S):=by rw[g3.old (mL S),pD]
 subst e;obtain⟨w,l1,l2⟩:=nC (fs:=fs) (m:=m) (k:=k) (by rw[V];exact hk) λj o=>by rw[V];exact hn j o
 rw[g1]at l2
 cases l2;refine⟨_,B,p,C,dx,fs,.ref a,rfl,U,c,na,l1,a,rfl,.inl ⟨_,.inl g2⟩,G,ow,δ,_,R,e4,λu2 A s r3=>?_⟩;obtain rfl:=RA.strE r3;have h3:A a=some (.dK (dU S)):=s _ _ g2;obtain⟨a',u',f1,f2,f3,f,g⟩:=Cu (wJ S) (L.same s) em;rw[g1]at f1
 cases f1;refine⟨dU S,.inr Z,.int n,h3,rfl,by rw[zU,d];rfl,?_⟩;have h:DH (L2.upd A a (.dK (o9 (dU S) (.inr Z)))) (.dK (o9 (dU S) (.inr Z))) (ssP (k_ S Z)):=.inl ⟨mL _,by rw[pD,Hr]⟩;exact q _ _ (owN ow i (ow.n i)) (Cg (R.grow s) O hi B (pC f) (.ins (by rw[bf (cU (s _ _ U) h3 (by intro z;cases z))];exact s _ _ U) (by rw[bf (cU (s _ _ I) h3 (by intro z;cases z))];exact s _ _ I) (g D _ _ h) (by rw[V])) (λb hb=>.inl hb) D) rfl (.int n)
def Ft(l:List Nat)(f:FW):FS:=λδ=>(f δ).bind λp=>(jP l p.2).bind λr=>some (.ex "" "" (.tuple (p.1::r)))
theorem Rx(J:∀i∈l,fl[i]? = some .W)(h:DEW X fl e fw):DW1 X fl l (.Return (some e) pos) (Ft l fw):=PS.imp (yM h) λS σ H h=>by
 refine D3.ex4 h λG ow δ o R V q=>?_
 obtain⟨⟨d,δ'⟩,T,t⟩:=bind1 V;refine D3.ex1 (bind1 t) λr U t=>?_
 cases t;exact⟨G,ow,δ,d,δ',R,T,λv H' Y R' hd Z=>wC R' J U q hd Z⟩
end
theorem ug{K:PySem.W.Frag}{H:Hp}{ok:Ok}{pl:Bool}{v:V}{kvs:List (D×D)}{S:List (Str×Int)}(e:ssD kvs=some S)(r:RA K ok pl H v (.dict kvs)):∃a,v = .ref a/\L2.Rd H a (.dK (dU S)):=by
 obtain rfl:=uf e;obtain⟨a,rfl,h⟩:=r.dicE (mL S);rw[pD]at h;exact⟨a,rfl,h⟩
end XI
namespace XI
open L2 My D3 XK
section
variable{X:Cx}{fl:List Fl}{pos apos p:Pos}{x m:Str}{ps:List Str}{n i:Nat}{F:List D->Option D}{C:Addr}{ns:List Str}
theorem kj{pl:Sem Bool}{o:Expr}{f:FE}(h:HasM X.prog X.w X.K X.mg X.base n C m ps (spD X.K F))(U:Room n X.A)(hm:m∉ns)(ho:DE X fl .P o f)
 (O:eval (.Call (.Attribute o m apos) [] [] pos) X.env=(do
  let J <-eval o X.env
  standAt apos.atName
  let(f,fi) <-holding [J] (getMethod J m pl)
  callWith pos f fi (backTo pos (starEach [] X.env)) (backToKw pos (keywordEach [] X.env))):=by rfl) :
 DE X fl .C (.Call (.Attribute o m apos) [] [] pos) (mq F C ns f bN):=by
 obtain⟨g,fd,L,b,M⟩:=h.ex;refine PE.imp (Kr (E:=E0) ho h.cl M L U b .nil Ba O) λσ H Q V=>?_
 refine D3.ex4 V λG ow δ r R Z q=>?_
 refine D3.ex1 (bind1 Z) λd N Z=>?_
 refine D3.ex1 (bind1 Z) λxs S Z=>?_
 refine D3.ex1 (bind1 Z) λds T Z=>?_
 cases T;refine⟨G,ow,δ,d,R,N,λv H0 s0 k2=>?_⟩;have k2:RA X.K ok1 true H0 v d:=k2;obtain⟨a,dx,fs,rfl,W,I,Y,_⟩:=Fq k2 S;refine⟨a,dx,fs,rfl,W,nu (by rw[Y];exact hm),?_⟩;show spD X.K F [.ref a] H0 Q E0;exact⟨[d],r,⟨(R.grow s0).tb,.cons k2 .nil⟩,Z,λv H2 s2 r2=>q v H2 (s0.trans s2) (RA.imp (λa z=>s0.free z) (λz=>z) r2)⟩
end
def JG:D->D->Option D:=λx y=>match x,y with
 | .str k,.dict kvs=>(ssD kvs).bind λS=>some (.bool (iJ S k).isSome)
 |_,_=>none
def n8:D->D->Option D:=λx y=>match x,y with
 | .str k,.dict kvs=>(ssD kvs).bind λS=>some (.bool (!(iJ S k).isSome))
 |_,_=>none
def yJ:D->D->Option D:=λy x=>match x,y with
 | .str k,.dict kvs=>(ssD kvs).bind λS=>(iJ S k).bind λv=>some (.int v)
 |_,_=>none
theorem zV{H:Hp}{a:Addr}{S:List (Str×Int)}(k:Str)(h:L2.Rd H a (.dK (dU S))):t_ H a (.str k) ((iJ S k).map V.int):=.inl ⟨_,.inr k,h,rfl,(zU S k).symm⟩
theorem Ui{K:PySem.W.Frag}:BrO K Yp JG:=by
 intro H x y dx U d Q Y Z e q;unfold JG at e;split at e
 ·next k kvs=>
  refine D3.ex1 (bind1 e) λS V X=>?_
  cases X;obtain rfl:=RA.strE Y;obtain⟨a,rfl,h⟩:=ug V Z;refine⟨a,_,rfl,zV k h,?_⟩;rw[fP];exact q _ rfl (.bl _)
 ·cases e
theorem Cv{K:PySem.W.Frag}:BrO K zL n8:=by
 intro H x y dx U d Q Y Z e q;unfold n8 at e;split at e
 ·next k kvs=>
  refine D3.ex1 (bind1 e) λS V X=>?_
  cases X;obtain rfl:=RA.strE Y;obtain⟨a,rfl,h⟩:=ug V Z;refine⟨a,_,rfl,zV k h,?_⟩;rw[fP];exact q _ rfl (.bl _)
 ·cases e
section
variable{X:Cx}{fl:List Fl}{a b:Expr}{fa fb:FE}{pos:Pos}
theorem Hu(J:X.A.units+1<cLine)(ha:DE X fl .P a fa)(hb:DE X fl .P b fb)(O:Rk b):DE X fl .FC (.Subscript a b pos) (dOp yJ fa fb):=PE.imp (G6 J ha hb O) λσ H Q h=>by
 refine D3.ex4 h λG ow δ d R W q=>?_
 refine D3.ex2 (uE W) λx y T U Z=>?_
 refine⟨G,ow,δ,x,R,T,λv H1 s1 r1=>⟨G,ow,δ,y,R.grow s1,U,λu H2 s2 r2=>?_⟩⟩;unfold yJ at Z;split at Z
 ·next k kvs=>
  refine D3.ex1 (bind1 Z) λS e4 e5=>?_
  refine D3.ex1 (bind1 e5) λn e6 V=>?_
  cases V;obtain rfl:=RA.strE r2;obtain⟨p,rfl,Y⟩:=ug e4 r1;have g:=zV k (vd s2 Y);rw[e6]at g;exact⟨p,.int n,rfl,g,q _ H2 (s1.trans s2) (.inl ⟨rfl,.int n⟩)⟩
 ·cases Z
end
end XI
namespace XI
open L2 My D3 XK
def Cw(i:Nat)(fk f:FE):FS:=λδ=>(f δ).bind λd=>(aB i δ).bind λy=>(fk δ).bind λZ=>match y,Z,d with
 | .dict kvs,.str x,.int v=>(ssD kvs).bind λS=>if S.length<1000 then some (.nx (δ.set i (some (.d (.dict (ssP (jQ S x v)))))))else none
 |_,_,_=>none
def Cy(i:Nat)(fk:FE):FW:=λδ=>(aB i δ).bind λy=>(fk δ).bind λZ=>match y,Z with
 | .dict kvs,.str x=>(ssD kvs).bind λS=>(iJ S x).bind λv=>some (.int v,δ.set i (some (.d (.dict (ssP (k_ S x))))))
 |_,_=>none
theorem Uj{K:PySem.W.Frag}{H:Hp}{v:V}{S:List (Str×Int)}{as:List Addr}(r:RT K H v (.dict (ssP S)) as):∃a,v = .ref a/\H a=some (.dK (dU S))/\as=[a]:=by
 cases r with
 |dic e g=>exact⟨_,rfl,by rw[e,g.old (mL S),pD],rfl⟩
 |ins _ _ _ z=>have:=wJ S;rw[z]at this;cases this
section
variable{X:Cx}{fl:List Fl}{e ke:Expr}{pos:Pos}{x:Str}{i:Nat}{f fk:FE}
theorem Ry{vpos spos:Pos}(hu:X.A.units+1<cLine)(J:fl[i]? = some .N\/fl[i]? = some .W)(h:DE X fl .P e f)(O:DE X fl .P ke fk)(hN:X.N[i]? = some x)
 (hv:Vis X.env.scope x:=by first|exact Or.inl rfl|exact Or.inr (Or.inl rfl)|exact Or.inr (Or.inr rfl)) (hd:(x==("__debug__":Str))=false:=by decide) (hcd:(x==("__classdict__":Str))=false:=by decide)
 (hs:swapsWith e (some (.Subscript (.Name x vpos) ke spos)) pos.line X.env=pure false:=by rfl) :
 DS1 X fl (.Assign [.Subscript (.Name x vpos) ke spos] e pos) (Cw i fk f):=
 PS.imp (G7 hu (i_ hN hv hd hcd) O h hs) λm σ H E=>by
 refine D3.ex4 E λG ow δ o R M q=>?_
 refine D3.ex1 (bind1 M) λd B Q=>?_
 refine D3.ex1 (bind1 Q) λy z T=>?_
 refine D3.ex1 (bind1 T) λr e4 V=>?_
 clear M Q T;split at V
 case h_2=>cases V
 next kvs Y n=>
 refine D3.ex1 (bind1 V) λS C Z=>?_
 by_cases U:S.length<1000
 case neg=>rw[if_neg U]at Z;cases Z
 rw[if_pos U]at Z
 cases Z;obtain rfl:=uf C;have isT:isN fl[i]? = true:=by rcases J with y|y<;>(rw[y];rfl)
 have L:=gD z;have hi:i<δ.length:=(aQ.mp L).1;obtain⟨v,K,w,p⟩:=R.nr i _ isT L;obtain⟨a,rfl,g2,ea⟩:=Uj w;refine⟨G,ow,δ,_,R,B,λu H1 s1 r1=>?_⟩;obtain rfl:=RA.intE r1;refine⟨_,K,G,ow,δ,_,R.grow s1,e4,λt I F r3=>?_⟩;obtain rfl:=RA.strE r3;have s:=s1.trans F;have h3:I a=some (.dK (dU S)):=s _ _ g2;refine⟨a,_,rfl,BP.k (k:=.inr Y) h3 (by unfold dU;rw[ak];exact jA U (by decide)),?_⟩;have D:DH (L2.upd I a (.dK (putK (dU S) (.inr Y) (.int n)))) (.dK (putK (dU S) (.inr Y) (.int n))) (ssP (jQ S Y n)):=.inl ⟨mL _,by rw[pD,Ni]⟩;exact q (owN ow i [a]) σ _ (Cg (R.grow s) J hi K (pC (by rw[ea];exact aA)) (.dic bG D) (λb hb=>.inl (by rw[ea];exact hb)) (by simp))
theorem Rz{vpos apos cpos:Pos}(J:fl[i]? = some .N\/fl[i]? = some .W)(O:DE X fl .P ke fk)(hN:X.N[i]? = some x)(hm:M1 X (.Name x vpos) "pop" apos ke cpos)
 (hv:Vis X.env.scope x:=by first|exact Or.inl rfl|exact Or.inr (Or.inl rfl)|exact Or.inr (Or.inr rfl)) (hd:(x==("__debug__":Str))=false:=by decide) (hcd:(x==("__classdict__":Str))=false:=by decide) :
 DEW X fl (.Call (.Attribute (.Name x vpos) "pop" apos) [ke] [] cpos) (Cy i fk):=
 PE.imp (BW (i_ hN hv hd hcd) O hm) λσ H Q F=>by
 obtain⟨G,ow,δ,u,δ',R,U,q⟩:=F;refine D3.ex1 (bind1 U) λy B V=>?_
 refine D3.ex1 (bind1 V) λw e4 Y=>?_
 clear U V;split at Y
 case h_2=>cases Y
 next kvs Z=>
 refine D3.ex1 (bind1 Y) λS C I=>?_
 refine D3.ex1 (bind1 I) λn D K=>?_
 cases K;obtain rfl:=uf C;have isT:isN fl[i]? = true:=by rcases J with y|y<;>(rw[y];rfl)
 have T:=gD B;have hi:i<δ.length:=(aQ.mp T).1;obtain⟨v,M,A,t⟩:=R.nr i _ isT T;obtain⟨a,rfl,g2,ea⟩:=Uj A;refine⟨_,M,a,rfl,.inl ⟨_,.inl g2⟩,G,ow,δ,_,R,e4,λz L s r3=>?_⟩;obtain rfl:=RA.strE r3;have h3:L a=some (.dK (dU S)):=s _ _ g2;refine⟨dU S,.inr Z,.int n,h3,rfl,by rw[zU,D];rfl,?_⟩;have E:DH (L2.upd L a (.dK (o9 (dU S) (.inr Z)))) (.dK (o9 (dU S) (.inr Z))) (ssP (k_ S Z)):=.inl ⟨mL _,by rw[pD,Hr]⟩;exact q _ _ (owN ow i [a]) (Cg (R.grow s) J hi M (pC (by rw[ea];exact aA)) (.dic bG E) (λb hb=>.inl (by rw[ea];exact hb)) (by simp)) rfl (.int n)
end
end XI
namespace XI
open L2 My D3 XK
theorem ad2{K:PySem.W.Frag}{fl:List Fl}{σ:D3.St}{H:Hp}{δ:DS}(tb:Tb H)(O:σ.length=δ.length)(q:∀(i:Nat) (d:D),δ[i]? = some (some (U.d d))->fl[i]? = some Fl.A)(J:∀(i:Nat) (d:D),δ[i]? = some (some (U.d d))->∃v,σ[i]? = some (some v)/\RA K ok1 true H v d):
 Rel K fl ⟨H,H,λ_=>none,λ_=>[],tb,λ_=>none⟩ ow0 σ H δ:=by
 refine⟨Same.refl _,Same.refl _,O,λi a h=>(by cases h),λi j a h=>(by cases h),λi h=>rfl,λi d h _ _=>?_,λi d h _ h2 _=>absurd (q i d h) h2,λi a h=>(by cases h),λi j a h=>(by cases h),λi j a h=>(by cases h),λi h=>rfl,λi d hn h=>(by rw[q i d h]at hn;cases hn),λi u h e=>(by cases e)⟩;obtain⟨v,h1,h2⟩:=J i d h;exact⟨v,h1,h2.imp (λ_ _=>⟨λi z=>(by cases z),λi z=>(by cases z)⟩) (λz=>z)⟩
structure Ini(K:PySem.W.Frag)(H0:Hp)(x dx C:Addr)(H:Hp)(fs:List (Str×V))(ds:List D)(as:List Addr):Prop where
 hx:H x=some (.ins C dx fs)
 hd:H dx=some (.own x)
 rt:RTs K H (fs.map (·.2)) ds as
 nd:as.Nodup
 fr:∀a∈as,H0 a=none
 sm:Same (jN H0 (· = x)) H
 hn:H0 x≠none
theorem Cz:∀{fs:List (Str×V)}{f:Str}{y:V},f∉fs.map (·.1)->oJ f y fs=fs++[(f,y)]
 |[],_,_,_=>rfl
 | (g,x)::r,f,y,h=>by
  have h1:g≠f:=λz=>h (by rw[z];exact aA)
  rw[oJ,if_neg h1,Cz λz=>h (au _ z)];rfl
mutual
def fW:D->Bool
 | .list xs=>fW.noIns xs
 | .tuple xs=>fW.noIns xs
 | .dict kvs=>!isI kvs
 |_=>true
def fW.noIns:List D->Bool
 |[]=>true
 |x::r=>fW x&&fW.noIns r
end
theorem CG{K:PySem.W.Frag}{H:Hp}{x dx C:Addr}{fs:List (Str×V)}{u:HO}(hx:H x=some (.ins C dx fs)):(∀{v:V}{d:D}{bs:List Addr},RT K H v d bs->fW d=true->RT K (L2.upd H x u) v d bs)/\∀{v:List V}{d:List D}{bs:List Addr},RTs K H v d bs->fW.noIns d=true->RTs K (L2.upd H x u) v d bs:=
 RT.ind (λ_=>.non) (λb _=>.bl b) (λi _=>.int i) (λx _=>.str x) (λe q h=>.lst (by rw[bf (cU e hx (by intro z;cases z))];exact e) (q (by rw[fW]at h;exact h))) (λe q h=>.tup (by unfold fZ;rw[bf (cU e hx (by intro z;cases z))];exact e) (q (by rw[fW]at h;exact h)))
  (λe g _=>.dic (by rw[bf (cU e hx (by intro z;subst z;exact g.chg.ins))];exact e) (g.imp λ_ _ t=>by unfold fZ;rw[bf (cU t hx (by intro z;cases z))];exact t)) (λ_ _ _ _ z h=>by rw[z]at h;cases h) (λ_=>.nil)
  λe q h=>by
   rw[fW.noIns,aX]at h;exact .cons (e h.1) (q h.2)
end XI
namespace XI
open L2 My D3 XK
theorem Nj{K:PySem.W.Frag}{ok:Ok}{pl:Bool}{H:Hp}{x dx C:Addr}{fs:List (Str×V)}{u:HO}(hx:H x=some (.ins C dx fs)):(∀{v:V}{d:D},RA K ok pl H v d->fW d=true->RA K ok pl (L2.upd H x u) v d)/\∀{v:List V}{d:List D},RAs K ok pl H v d->fW.noIns d=true->RAs K ok pl (L2.upd H x u) v d:=
 RA.ind (λ_=>.non) (λb _=>.bl b) (λi _=>.int i) (λx _=>.str x) (λe k q h=>.lst (by rw[bf (cU e hx (by intro z;cases z))];exact e) k (q (by rw[fW]at h;exact h))) (λe k q h=>.lsk (by
  rcases e with⟨o,e⟩|e
  ·exact .inl ⟨o,by rw[bf (cU e hx (by intro z;cases z))];exact e⟩
  ·exact .inr e) k (q (by rw[fW]at h;exact h))) (λe q h=>.tup (by unfold fZ;rw[bf (cU e hx (by intro z;cases z))];exact e) (q (by rw[fW]at h;exact h)))
  (λe g k _=>.dic (by rw[bf (cU e hx (by intro z;subst z;exact g.chg.ins))];exact e) (g.imp λ_ _ t=>by unfold fZ;rw[bf (cU t hx (by intro z;cases z))];exact t) k) (λe g k _=>.dik (by rw[bf (cU e hx (by intro z;cases z))];exact e) (g.imp λ_ _ t=>by unfold fZ;rw[bf (cU t hx (by intro z;cases z))];exact t) k)
  (λ_ _ _ z h=>by rw[z]at h;cases h) (λ_=>.nil)
  λe q h=>by
   rw[fW.noIns,aX]at h;exact .cons (e h.1) (q h.2)
theorem Hv{K:PySem.W.Frag}{H:Hp}{v:V}{d:D}{bs:List Addr}(r:RT K H v d bs):∀{vs:List V}{ds:List D}{as:List Addr},RTs K H vs ds as->RTs K H (vs++[v]) (ds++[d]) (as++bs)
 |_,_,_,.nil=>by
  have:=RTs.cons r (.nil (K:=K) (H:=H));simpa using this
 |_,_,_,.cons e q=>by
  rw[jD];exact .cons e (Hv r q)
def tIS(K:PySem.W.Frag)(fl:List Fl)(C:Addr)(f:Str)(fe:FE):TS:=λY σ H=>∃(H0:Hp)(x dx:Addr)(fs:List (Str×V))(ds:List D)(as:List Addr)(δ:DS)(d:D),Ini K H0 x dx C H fs ds as/\σ[0]? = some (some (.ref x))/\Tb H/\σ.length=δ.length /\
 (∀(i:Nat)(d:D),δ[i]? = some (some (U.d d))->fl[i]? = some Fl.A/\∃v,σ[i]? = some (some v)/\RA K ok1 true H v d)/\f∉fs.map (·.1)/\fs.length<1000/\fW.noIns ds=true/\fW d=true/\fe δ=some d /\
 ∀H' fs' Z,Ini K H0 x dx C H' fs' (ds++[d]) Z->fs'.map (·.1)=fs.map (·.1)++[f]->(∀v d,RA K ok1 true H v d->fW d=true->RA K ok1 true H' v d)->Tb H'->Y.nx σ H'
theorem RB{X:Cx}{fl:List Fl}{C:Addr}{f s0:Str}{fe:FE}{e:Expr}{vpos p2 pos:Pos}(h:DE X fl .T e fe)(hN:X.N[0]? = some s0)(c:Cls X.K C)(J:jc X.K C f)
 (O:Vis X.env.scope s0:=by first|exact Or.inl rfl|exact Or.inr (Or.inl rfl)|exact Or.inr (Or.inr rfl)) (hd:(s0==("__debug__":Str))=false:=by decide) (hcd:(s0==("__classdict__":Str))=false:=by decide)
 (hs:swapsWith e (some (.Attribute (.Name s0 vpos) f p2)) pos.line X.env=pure false:=by rfl):PS X (.Assign [.Attribute (.Name s0 vpos) f p2] e pos) (tIS X.K fl C f fe):=
 PS.imp (Vh (i_ hN O hd hcd) h hs) λM σ H S=>by
 obtain⟨H0,x,dx,fs,ds,as,δ,d,I,P,tb,gl,ga,Q,R,nd,Z,ge,q⟩:=S;refine⟨_,_,δ,d,ad2 tb gl (λi d h=>(ga i d h).1) (λi d h=>(ga i d h).2),ge,λv H1 s r=>?_⟩;obtain⟨bs,r1,r2,r3⟩:=r;have hx:=s _ _ I.hx;have Y:dx≠x:=cU I.hd I.hx (by intro z;cases z);refine⟨_,P,x,C,dx,fs,rfl,hx,c,J,R,?_⟩;rw[Cz Q];refine q _ (fs++[(f,v)]) (as++bs) ⟨bG,by rw[bf Y];exact s _ _ I.hd,?_,?_,?_,?_,I.hn⟩ (by rw[bI];rfl) (λv d r hd=>(Nj hx).1 (r.same s) hd) ?_
 ·rw[bI];exact Hv ((CG hx).1 r1 Z) ((CG hx).2 (I.rt.same s) nd)
 ·refine cO.mpr ⟨I.nd,r2,λa ha b hb z=>?_⟩;rw[z]at ha;exact I.rt.tracked b ha (r3 b hb)
 ·intro a ha;rcases b_.mp ha with y|y
  ·exact I.fr a y
  ·cases z:H0 a with
   |none=>rfl
   |some o=>
    have e:=r3 a y;by_cases V:a=x
    ·rw[V,I.hx]at e;cases e
    ·rw[I.sm a o (by rw[gb (p:=(· = x)) V];exact z)]at e;cases e
 ·intro b o hb;by_cases W:b=x
  ·rw[sJ (p:=(· = x)) W]at hb;cases hb
  ·rw[bf W];exact s _ _ (I.sm b o hb)
 ·intro t U;have e:=tb t U;rw[bf (cU (s _ _ e) hx (by intro z;cases z))];exact s _ _ e
end XI
namespace XI
open L2 My D3 XK
section
variable{X:Cx}{o:Expr}{to:TE}{apos cpos pos p:Pos}
theorem Hw:∀{kvs:List (Key×V)}{vs:List (Key×Value)},KV kvs vs->Vals (kvs.map (·.2)) (vs.map (·.2))
 |_,_,.nil=>.nil
 |_,_,.cons h t=>.cons h.2 (Hw t)
theorem Hx:∀(kvs:List (Key×V))(us:List Value),us.length=kvs.length->(∀(j:Nat)(u:Value),us[j]? = some u->∃k v,kvs[j]? = some (k,v)/\RelV (kV k) u)->Vals (kvs.map λq=>kV q.1) us
 |[],[],_,_=>.nil
 |[],_::_,h,_=>by simp at h
 |_::_,[],h,_=>by simp at h
 | (k,v)::r,u::us,h,g=>by
  obtain⟨W,X,Y,Z⟩:=g 0 u rfl
  cases Y;exact .cons Z (Hx r us (by simpa using h) λj w hw=>by simpa using g (j+1) w (by simpa using hw))
theorem Fv(J:X.calm=true):kZ X (.type "list") (λxs H Q=>∃(a:Addr)(kvs:List (Key×V)),xs=[.ref a]/\L2.Rd H a (.dK kvs)/\∀l,H l=none->Q (.ref l) (upd H l (.lst (kvs.map λq=>kV q.1)))):=by
 intro pins s σ H xs us Q I r h;obtain⟨a,kvs,rfl,hx,q⟩:=h;obtain⟨u,rfl,O⟩:=vals1 r
 cases O;obtain⟨R,hd,vs,rel,dd⟩:=lZ I.hok hx;obtain⟨K,S⟩:=dd.dictAt;have hlen:=rel.length;refine PySem.W.kdl_call (PySem.W.kdl_dict (knd:=cj X.prog X.w) (kvs:=vs) (ep:=K) hd) (I.ok.hd J) S (by rw[<-hlen];exact R) λh' tk acc c' M L Z=>?_
 have hn:H s.heap.objs.size=none:=I.hok.fresh (aP _);have G:=I.laid (h':=h') (t':=tk) (a:=s.heap.objs.size) (o:=.lst (kvs.map λq=>kV q.1)) M (aP _) ⟨by rw[ak];exact R,acc.toList,c',Hx kvs acc.toList (by rw[cH,Z.1,hlen]) λj u N=>?_,by simpa using L⟩
 ·exact⟨.ref _,_,G,rfl,q _ hn⟩
 ·obtain⟨k,x,U,T⟩:=Z.2 j u (by rw[<-g_];exact N);have Y:(vs.map (·.1))[j]? = some k:=by rw[aO,U];rfl
  rw[<-rel.keys,aO]at Y
  cases P:kvs[j]? with
  |none=>rw[P]at Y;cases Y
  |some q0=>
   rw[P]at Y
   cases Y;exact⟨q0.1,q0.2,rfl,Fb T⟩
def Hy(r a:Addr):HO:=.ext λh=>h.IsValuesView r a
theorem RD(ho:PE X o to)(O:attributeBase o "values" X.env (eval o X.env)=eval o X.env:=by rfl)(J:(apos.endLine==cpos.line)=true:=by rfl):
 PE X (.Call (.Attribute o "values" apos) [] [] cpos) (λσ H Q=>to σ H λx H1=>∃a kvs,x = .ref a/\L2.Rd H1 a (.dK kvs)/\∀r,H1 r=none->Q (.ref r) (upd H1 r (Hy r a))):=by
 intro pins s σ H Q I h;refine wpAny_Call_method0_late O J (thn (ho pins s σ H _ I h) λv s1 ⟨x,H1,Z,r1,a,kvs,ex,hx,q⟩=>?_);subst ex;obtain rfl:v=db a:=r1;obtain⟨Y,U,V⟩:=zJ Z (.inl ⟨kvs,hx⟩);obtain⟨T,hd,vs,rel,dd⟩:=lZ Z.hok hx;have hn:H1 s1.heap.objs.size=none:=Z.hok.fresh (aP _);refine⟨"dict", "dict.values", PySem.F.plainAttrs_dict,PySem.F.slot_dict_values,PySem.F.type_dict_values,Y,U,aT rfl (PySem.evalArgs_none ?_)⟩;refine b8 PySem.F.slot_dict_values Y PySem.F.entry_dict_values (PySem.F.args_dict_values_1 _) (meets_dict_values (cj X.prog X.w) a V) ⟨⟨vs,dd⟩,?_⟩;have W:(s1.heap.push {cls:=.type "dict_values", data:=.fields #[.ref a]}).get? s1.heap.objs.size=some {cls:=.type "dict_values", data:=.fields #[.ref a]}:=ah _ rfl;refine⟨.ref _,_,Z.laid (t':=s1.toks) (a:=s1.heap.objs.size) (o:=Hy s1.heap.objs.size a) (λb u e=>ae _ e) (aP _) ⟨⟨_,W,rfl,rfl⟩,⟨_,W⟩,λh1 h2 ⟨o,g1,g2⟩ k=>⟨o,k o g1,g2⟩⟩,rfl,q _ hn⟩
theorem Fw(J:X.calm=true):kZ X (.type "list") (λxs H Q=>∃(r a:Addr)(kvs:List (Key×V)),xs=[.ref r]/\H r=some (Hy r a)/\L2.Rd H a (.dK kvs)/\∀l,H l=none->Q (.ref l) (upd H l (.lst (kvs.map (·.2))))):=by
 intro pins s σ H xs us Q I S h;obtain⟨r,a,kvs,rfl,P,hx,q⟩:=h;obtain⟨u,rfl,T⟩:=vals1 S
 cases T;obtain⟨U,hd,vs,rel,dd⟩:=lZ I.hok hx;obtain⟨M,Y⟩:=dd.dictAt;have hlen:=rel.length;have R:s.heap.IsValuesView r a:=(I.hok r _ P).1;refine PySem.W.kdl_call (PySem.W.kdl_values (knd:=cj X.prog X.w) (kvs:=vs) (ep:=M)) (I.ok.hd J) ⟨R,Y⟩ (by rw[<-hlen];exact U) λh' tk acc c' O N Z=>?_
 have hn:H s.heap.objs.size=none:=I.hok.fresh (aP _);have ea:acc.toList=vs.map (·.2):=PySem.W.kdl_vals_eq _ (by rw[cH];exact Z.1) λj v e=>Z.2 j v (by rw[<-g_];exact e)
 have L:=I.laid (h':=h') (t':=tk) (a:=s.heap.objs.size) (o:=.lst (kvs.map (·.2))) O (aP _) ⟨by rw[ak];exact U,acc.toList,c',by rw[ea];exact Hw rel,by simpa using N⟩;exact⟨.ref _,_,L,rfl,q _ hn⟩
end
def zW:D->Option D
 | .dict kvs=>(ssD kvs).bind λS=>some (.list (S.map λq=>.str q.1))
 |_=>none
def CJ:D->Option (List Int)
 | .dict kvs=>match ssD kvs with
  |some S=>some (S.map (·.2))
  |none=>(iiD kvs).map λq=>q.map (·.2)
 |_=>none
def kW:D->Option D:=λx=>(CJ x).bind λl=>some (.list (l.map .int))
theorem Hz{K:PySem.W.Frag}{ok:Ok}{pl:Bool}{H:Hp}:∀S:List (Str×Int),RAs K ok pl H ((dU S).map λq=>kV q.1) (S.map λq=>.str q.1)
 |[]=>.nil
 |q::S=>.cons (.str q.1) (Hz S)
theorem Nk{K:PySem.W.Frag}{ok:Ok}{pl:Bool}{H:Hp}{v:V}{x:D}{l:List Int}(e:CJ x=some l)(r:RA K ok pl H v x):∃a kvs,v = .ref a/\L2.Rd H a (.dK kvs)/\kvs.map (·.2)=l.map V.int:=by
 unfold CJ at e;split at e
 ·next kvs=>
  split at e
  ·next S Z=>
   cases e;obtain⟨a,rfl,h⟩:=ug Z r;exact⟨a,_,rfl,h,by unfold dU;rw[bO,bO];rfl⟩
  ·next Z=>
   cases eq:iiD kvs with
   |none=>rw[eq]at e;cases e
   |some qs=>
    rw[eq]at e
    cases e;obtain⟨a,rfl,h⟩:=m_ (x:=.dict kvs) (qs:=qs) eq r;exact⟨a,_,rfl,h,by rw[bO,bO];rfl⟩
 ·cases e
section
variable{X:Cx}{fl:List Fl}{e:Expr}{f:FE}{apos cpos pos p:Pos}
theorem Nm(hc:X.calm=true)(h:DE X fl .P e f)(U:Gl X "list")(hm:X.mg "list"=none)
 (O:starEach [e] X.env=(false,eval e X.env)::starEach [] X.env:=by rfl) (J:(backTo pos (starEach [] X.env)).any (·.1)=false:=by rfl):DE X fl .FC (.Call (.Name "list" p) [e] [] pos) (dUn zW f):=
 PE.imp (lD (Fv hc) U hm cB (f9 h jF O) (by decide) (by decide) O J) λσ H Q h=>by
 refine D3.ex4 h λG ow δ d R Y q=>?_
 refine D3.ex1 (bind1 Y) λx T Z=>?_
 refine⟨G,ow,δ,x,R,T,λv H1 s1 r1=>?_⟩;unfold zW at Z;split at Z
 ·next kvs=>
  refine D3.ex1 (bind1 Z) λS W V=>?_
  cases V;obtain⟨a,rfl,hx⟩:=ug W r1;exact⟨a,dU S,rfl,hx,λl hn=>q _ _ (s1.trans (cN hn _)) (.inr ⟨l,_,_,rfl,rfl,s1.free hn,bG,Hz S⟩)⟩
 ·cases Z
theorem sV(hc:X.calm=true)(h:DE X fl .P e f)(hg:Gl X "list")(hm:X.mg "list"=none)
 (O:attributeBase e "values" X.env (eval e X.env)=eval e X.env:=by rfl) (J:(apos.endLine==cpos.line)=true:=by rfl)
 (Y:starEach [.Call (.Attribute e "values" apos) [] [] cpos] X.env=(false,eval (.Call (.Attribute e "values" apos) [] [] cpos) X.env)::starEach [] X.env:=by exact iB rfl) (U:(backTo pos (starEach [] X.env)).any (·.1)=false:=by rfl):DE X fl .FC (.Call (.Name "list" p) [.Call (.Attribute e "values" apos) [] [] cpos] [] pos) (dUn kW f):=
 PE.imp (lD (Fw hc) hg hm cB (f9 (RD h O J) jF Y) (by decide) (by decide) Y U) λσ H Q h=>by
 refine D3.ex4 h λG ow δ d R V q=>?_
 refine D3.ex1 (bind1 V) λx M N=>?_
 refine D3.ex1 (bind1 N) λl S e4=>?_
 cases e4;refine⟨G,ow,δ,x,R,M,λv H1 s1 r1=>?_⟩;obtain⟨a,kvs,rfl,hx,T⟩:=Nk S r1;refine⟨a,kvs,rfl,hx,λr Z=>⟨r,a,kvs,rfl,bG,vd (cN Z _) hx,λW hn=>?_⟩⟩;have sm:=s1.trans ((cN Z (Hy r a)).trans (cN hn (.lst (kvs.map (·.2)))));refine q _ _ sm (.inr ⟨W,_,_,rfl,rfl,(s1.trans (cN Z _)).free hn,bG,?_⟩);rw[T];exact lY l
end
end XI
namespace XI
open L2 My D3 XK
theorem Np:∀{kvs:List (Key×V)}{vs:List (Key×Value)}{i:Nat}{k:Key}{u:Value},KV kvs vs->vs[i]? = some (k,u)->∃v,kvs[i]? = some (k,v)/\RelV v u
 |_,_,_,_,_,.nil,h=>by simp at h
 | (Y,Z)::_,_,0,_,_,.cons h _,e=>by
  simp at e;subst e;obtain⟨h1,h2⟩:=h
  cases h1;exact⟨Z,rfl,h2⟩
 |_,_,i+1,k,u,.cons _ t,e=>by
  obtain⟨v,h1,h2⟩:=Np (i:=i) t (by simpa using e);exact⟨v,by simpa using h1,h2⟩
def Iti(o:Obj)(a:Addr)(kvs:List (Key×V)):It:=
 ⟨λi H=>H a=some (.frz o (.dK kvs))/\i<kvs.length,λi H x H'=>∃p k v,kvs[i]? = some (k,v)/\H p=none/\H'=upd H p (.tup [kV k,v])/\x = .ref p,λi H=>H a=some (.frz o (.dK kvs))/\kvs.length<=i⟩
theorem wK{P:c_}{w:de}{K:PySem.W.Frag}{elts:List Expr}{x1}{tpos:Pos}(o:Obj)(a it:Addr)(kvs:List (Key×V)){es:Array DictEntry}{ep:Nat}(hd:o.data = .dict es ep):
 Turn P w K (.Tuple elts x1 tpos) (Iti o a kvs) [it] it (λi h=>∃ok q,IsItemIter h it a i kvs.length ep ok q) where
 mem:=by simp
 obj:=λi h st b hb=>by
  have e:b=it:=by simpa using hb
  subst e;obtain⟨ok,q,e⟩:=st;exact⟨_,e,λv z=>by cases z⟩
 keep:=λi h h' st k=>by
  obtain⟨ok,q,e⟩:=st;exact⟨ok,q,k it (by simp) _ e⟩
 item:=by
  intro X M hw L G i pins s σ H E I T st O;subst M hw L;obtain⟨S,hi⟩:=O;obtain⟨vs,rel,dat⟩:=zO I S hd;have ln:=rel.length;rw[ln]at hi;obtain⟨⟨k,u⟩,hx⟩:∃p,vs[i]? = some p:=⟨vs[i],by simp[hi]⟩;obtain⟨v,A,F⟩:=Np rel hx;obtain⟨ok,q,st⟩:=st;rw[ln]at st;have R:it<s.heap.objs.size:=af st;refine wpAny_pyNext_items_item st dat hx λY h1 U B D C Q=>?_
  refine⟨_,rfl,wpAny_letOwnedTupleGo_items B λh2 N Z=>?_⟩
  replace Z:ew it h1 h2:=Z
  have hn:H s.heap.objs.size=none:=I.hok.fresh (aP _);have I0:L2.Inv X pins σ (upd H s.heap.objs.size (.tup [kV k,v])) {s with heap:=s.heap.push {cls:=.type "tuple", data:=.seq #[Y,u]} }:=
   I.laid (t':=s.toks) (λb o e=>ae _ e) (aP _) ⟨show 2<=sizeLine by decide,[Y,u],.cons (Fb U) (.cons F .nil),⟨_,ah _ rfl,rfl,_,rfl⟩⟩
  have ne:∀b,b∈[it]->b≠s.heap.objs.size:=λb hb=>by
   rw[show b=it by simpa using hb];exact bB R
  have t:L2.Inv X pins σ (upd H s.heap.objs.size (.tup [kV k,v])) {s with heap:=h2}:=by
   refine D3.Inv.turnedL (s:={s with heap:=s.heap.push {cls:=.type "tuple", data:=.seq #[Y,u]} }) (t':=s.toks) (ch:=[it]) I0 (λb o hb e=>?_) λb hb=>⟨by rw[bf (ne b hb)];exact(T b hb).1,(T b hb).2⟩
   have b1:b≠it:=λz=>hb (by simp[z])
   rcases cS e with⟨J,x⟩|J
   ·subst J x;exact(Z.2 _ b1).trans D
   ·exact(Z.2 _ b1).trans (Q b o b1 J)
  refine⟨.ref s.heap.objs.size,_,t,rfl,⟨_,k,v,A,hn,rfl,rfl⟩,⟨_,_,by rw[ln];exact N⟩,λb hb=>?_⟩;rw[bf (ne b hb)];exact(T b hb).1
 done:=by
  intro X M hw L G i pins s σ H E I T st O;subst M hw L;obtain⟨S,hi⟩:=O;obtain⟨vs,rel,dat⟩:=zO I S hd;have ln:=rel.length;rw[ln]at hi;obtain⟨ok,q,st⟩:=st;rw[ln]at st;exact wpAny_pyNext_items_end (I.ok.hd G) st dat (bA hi) λh' y=>⟨rfl,D3.Inv.turnedL (t':=s.toks) (ch:=[it]) I (λb o hb e=>y b o (λz=>hb (by simp[z])) e) T⟩
 self:=λ_ _ _ _ _ st h=>by
  obtain⟨ok,q,st⟩:=st;exact PySem.W.kcp_self st h
def Yt(X:Cx)(tl:TE):TI:=λσ H R=>tl σ H λx H1=>∃a kvs,x = .ref a/\((H1 a=some (.dK kvs)/\∀o,Ju X a->R (Iti o a kvs) (upd H1 a (.frz o (.dK kvs))))\/∃o,H1 a=some (.frz o (.dK kvs))/\R (Iti o a kvs) H1)
theorem Nq{X:Cx}{elts:List Expr}{x1}{tpos apos cpos:Pos}{l:Expr}{tl:TE}(hl:PE X l tl)(O:attributeBase l "items" X.env (eval l X.env)=eval l X.env:=by rfl)(J:(apos.endLine==cpos.line)=true:=by rfl):
 PI X (.Tuple elts x1 tpos) (.Call (.Attribute l "items" apos) [] [] cpos) (Yt X tl):=by
 intro pins s σ H R I h;refine wpAny_Call_method0_late O J (thn (hl pins s σ H _ I h) λv s1 ⟨x,H1,S,r1,q1⟩=>?_);obtain⟨a,kvs,e,q⟩:=q1;subst e;obtain rfl:v=db a:=r1;have rd:L2.Rd H1 a (.dK kvs):=q.elim (λz=>.inl z.1) (λ⟨o,z,_⟩=>.inr ⟨o,z⟩);obtain⟨Q,M,N⟩:=zJ S (.inl ⟨kvs,rd⟩);obtain⟨_,lo,vs,rel,dd⟩:=lZ S.hok rd;refine⟨"dict", "dict.items", PySem.F.plainAttrs_dict,PySem.F.slot_dict_items,PySem.F.type_dict_items,Q,M,aT rfl (PySem.evalArgs_none ?_)⟩;refine b8 PySem.F.slot_dict_items Q PySem.F.entry_dict_items (PySem.F.args_dict_items_1 _) (meets_dict_items (cj X.prog X.w) a N) ⟨⟨vs,dd⟩,?_⟩;show wpAny _ _ _ _ _ _;have Z:L2.Inv X pins σ H1 {s1 with heap:=s1.heap.push {cls:=.type "dict_items", data:=.fields #[.ref a]} }:=S.kept (t':=s1.toks) λb o e=>ae _ e
 generalize V:({s1 with heap:=s1.heap.push {cls:=.type "dict_items", data:=.fields #[.ref a]} }:c9)=s2 at Z;have K:s2.heap.IsItemsView s1.heap.objs.size a:=by rw[<-V];exact⟨_,ah _ rfl,rfl,rfl⟩
 clear V;obtain⟨_,lo,vs,rel,Y,es,U,T,E,hd,G⟩:=lZ Z.hok rd;have dat:s2.heap.DictAt (cj X.prog X.w) a vs U:=⟨Y,es,T,E,hd,G⟩;refine wpAny_pyIter_items K dat ?_;have P:L2.Inv X pins σ H1 {s2 with heap:=s2.heap.push {cls:=.type "dict_itemiterator", data:=.fields #[.none,.bool false,.ref a,.int 0 0,.int vs.length 0,.int U 0,.none,.none]} }:=Z.kept (t':=s2.toks) λb o e=>ae _ e
 have st:∃ok L,IsItemIter (s2.heap.push {cls:=.type "dict_itemiterator", data:=.fields #[.none,.bool false,.ref a,.int 0 0,.int vs.length 0,.int U 0,.none,.none]}) s2.heap.objs.size a 0 kvs.length U ok L:=⟨_,_,by rw[rel.length];exact ah _ rfl⟩;have fr:H1 s2.heap.objs.size=none:=Z.hok.fresh (aP _);rcases q with⟨W,q⟩|⟨o,W,q⟩
 ·refine⟨s2.heap.objs.size,[s2.heap.objs.size],_,_,_,rfl,Hf P W (ae _ T),wK Y a _ kvs hd,st,λb hb=>?_,q Y (zN Z W)⟩;have e:b=s2.heap.objs.size:=by simpa using hb
  subst e;refine Z.fpOk (aP _) ?_;rw[bf (λz=>by rw[z,W]at fr;cases fr)];exact fr
 ·have eq:Y=o:=by
   have:=(Z.hok a _ W).1;rw[T]at this;exact cL.inj this
  subst eq;refine⟨s2.heap.objs.size,[s2.heap.objs.size],_,_,_,rfl,P,wK Y a _ kvs hd,st,λb hb=>?_,q⟩;have e:b=s2.heap.objs.size:=by simpa using hb
  subst e;exact Z.fpOk (aP _) fr
def itS(S:List (Str×Int)):List D:=S.map λq=>.tuple [.str q.1,.int q.2]
def Nr(f:FE):FA:=λδ=>(f δ).bind λx=>match x with
 | .dict kvs=>(ssD kvs).bind λS=>some (itS S)
 |_=>none
theorem Nt{K:PySem.W.Frag}{H1:Hp}{a:Addr}{o:Obj}{S:List (Str×Int)}(h:H1 a=some (.frz o (.dK (dU S)))):∀H2,Same H1 H2->∀i:Nat,(∀d,(itS S)[i]? = some d->(Iti o a (dU S)).go i H2/\∀x q,(Iti o a (dU S)).yld i H2 x q->Same H2 q/\RA K ok1 true q x d)/\((itS S).length<=i->(Iti o a (dU S)).stop i H2):=by
 intro H2 s2 i;refine⟨λd hd=>?_,λhi=>⟨s2 _ _ h,by unfold dU;simpa[itS]using hi⟩⟩;unfold itS at hd;rw[aO]at hd
 cases e:S[i]? with
 |none=>rw[e]at hd;cases hd
 |some p=>
  rw[e]at hd
  cases hd;have hi:i<S.length:=(aQ.mp e).1;refine⟨⟨s2 _ _ h,by unfold dU;simpa using hi⟩,λx q Y=>?_⟩;obtain⟨c,k,v,Z,hn,rfl,rfl⟩:=Y;unfold dU at Z;rw[aO,e]at Z
  cases Z;exact⟨cN hn _,.tup bG (.cons (.str _) (.cons (.int _) .nil))⟩
section
variable{X:Cx}{fl fl':List Fl}{elt:Expr}{elts ifs:List Expr}{f fx:FE}{ft:FT}{pos tpos apos cpos:Pos}{scope:er}{ix TT:List Nat}{g:FG}{x1:Nat}{iter:Expr}
theorem RG{σ:L2.St}{H:Hp}{Q:VK}{T:List Str}(O:∀i,i<T.length+ix.length->fl'[i]? = some .A)(J:∀j∈TT,j<T.length)(h:tD X.K fl .FC (jH (Nr fx) g ft f T.length ix) σ H Q):
 Bd (Yt X (tD X.K fl .P fx)) (tDG X.K fl' TT g) (tDT X.K fl' ft) (tD X.K fl' .C f) T.length (oU T.length ix) σ H (uI X Q):=by
 refine D3.ex4 h λG ow δ d R E q=>?_
 refine D3.ex1 (bind1 E) λl B M=>?_
 by_cases N:l.length<=100000
 case neg=>rw[if_neg N]at M;cases M
 rw[if_pos N]at M;refine D3.ex1 (bind1 M) λr F e4=>?_
 cases e4;refine D3.ex1 (bind1 B) λx e5 e6=>?_
 split at e6
 case h_2=>cases e6
 next kvs=>
 refine D3.ex1 (bind1 e6) λS D e6=>?_
 cases e6;refine⟨G,ow,δ,_,R,e5,λv H1 s1 r1=>?_⟩;have y:=R.grow s1;have W:=zx (fl':=fl') T.length ix O y (Same.refl H1);obtain⟨a,rfl,Z⟩:=ug D r1;refine⟨a,dU S,rfl,?_⟩;rcases Z with Z|⟨o,Z⟩
 ·refine .inl ⟨Z,λo lo Dl hD=>?_⟩;have U:Dl≠a:=λz=>by rw[z,bG]at hD;cases hD
  have L:Tb (upd H1 a (.frz o (.dK (dU S)))):=λt I=>by rw[bf (cU (W.tb t I) Z (by simp))];exact W.tb t I
  have s:Rel X.K fl' ⟨upd H1 a (.frz o (.dK (dU S))),upd H1 a (.frz o (.dK (dU S))),λ_=>none,λ_=>[],L,λ_=>none⟩ ow0 (oU T.length ix σ) (upd H1 a (.frz o (.dK (dU S)))) (jf T.length ix δ):=by
   refine⟨Same.refl _,Same.refl _,W.len,λi b h=>(by cases h),λi j b h=>(by cases h),λi h=>rfl,λi d h1 hn h2=>?_,W.oo,λi b h=>(by cases h),λi j b h=>(by cases h),λi j b h=>(by cases h),λi h=>rfl,λi d hn h1=>?_,λi u h e=>(by cases e)⟩
   ·obtain⟨v,h3,h4⟩:=W.dat i d h1 hn h2;exact⟨v,h3,Fd Z h4⟩
   ·have hi:i<T.length+ix.length:=by
     have h2:i<(jf T.length ix δ).length:=(aQ.mp h1).1;unfold jf at h2;simpa using h2
    rw[O i hi]at hn
    cases hn
  refine sH (Q:=uI X Q) J s N F hD (Nt bG) λH2 xs s2 Y rs=>Or.inr ⟨a,o,dU S,lo,s2 _ _ bG,?_⟩
  have sm:Same H (upd H2 a (.dK (dU S))):=λb u hb=>by
   by_cases z:b=a
   ·subst z;have:=s1 _ _ hb;rw[Z]at this;rw[bG];exact this
   ·rw[bf z];exact s2 b u (by rw[bf z];exact s1 b u hb)
  refine q _ _ sm (.inr ⟨Dl,xs,r,rfl,rfl,s1.free (by rw[bf U]at hD;exact hD),by rw[bf U];exact Y,?_⟩);refine(nj (s2 _ _ bG) rs).imp (λb z=>⟨?_,z.2⟩) (λz=>z);have V:=z.1;unfold okN at V ⊢;have hb:b≠a:=λw=>by rw[w,bG]at V;cases V
  rw[bf hb]at V;exact s1.free V
 ·refine .inr ⟨o,Z,λDl hD=>?_⟩;refine sH (Q:=uI X Q) J W N F hD (Nt Z) λH2 xs s2 Y rs=>Or.inl (q _ _ (s1.trans s2) (.inr ⟨Dl,xs,r,rfl,rfl,s1.free hD,Y,rs.imp (λb z=>⟨s1.free z.1,z.2⟩) (λz=>z)⟩))
theorem CK(hc:X.calm=true)(T Y:List Str)(ix:List Nat)(hi:DE X fl .P iter fx)
 (hg:∀cl C Z H3 fp,DG (blk X (T++Y) scope cl C Z H3 fp) fl' TT (.Tuple elts x1 tpos) g) (ht:∀cl C Z H3 fp,PTs (blk X (T++Y) scope cl C Z H3 fp) ifs (tDT X.K fl' ft)) (he:∀cl C Z H3 fp,DE (blk X (T++Y) scope cl C Z H3 fp) fl' .C elt f)
 (hfl:∀i,i<T.length+ix.length->fl'[i]? = some .A:=by decide) (htg:∀j∈TT,j<T.length:=by decide)
 (hB:vM X.N X.env.scope.names scope.names Y ix=true:=by rfl) (hk:scope.kind = .function:=by rfl) (O:∀y∈scope.names,y.2 ≠ .cell:=by decide +kernel)
 (q:∀x∈scope.names,x.2 = .local->scope.names.lookup x.1=some .local:=by decide +kernel)
 (hfr:∀x∈scope.names,x.2 = .free->x.1∈Y:=by decide +kernel) (U:attributeBase iter "items" X.env (eval iter X.env)=eval iter X.env:=by rfl) (J:(apos.endLine==cpos.line)=true:=by rfl) (hs:∀x,foldedSetIterable (.Call (.Attribute iter "items" apos) [] [] cpos) X.env x=pure x:=by intro _;rfl) :
 DE X fl .FC (.ListComp elt [⟨.Tuple elts x1 tpos,.Call (.Attribute iter "items" apos) [] [] cpos,ifs,0⟩] scope pos) (jH (Nr fx) g ft f T.length ix):=by
 intro pins s σ H Q I h;have run:=yS (g:=tDG X.K fl' TT g) (tt:=tDT X.K fl' ft) (te:=tD X.K fl' .C f) (pos:=pos) hc T Y ix (Nq hi U J) hg ht he hB hk O q hfr hs pins s σ H (uI X Q) I (RG hfl htg h);refine thn run λv s' ⟨x,H2,S,V,W⟩=>?_
 rcases W with W|⟨a,o,kvs,lo,ha,W⟩
 ·exact⟨x,H2,S,V,W⟩
 ·exact⟨x,_,BX S lo ha,V,W⟩
end
end XI
namespace XI
open L2 My D3 XK
structure DgM(K:PySem.W.Frag)(C:Addr)(m x:Str)(st:dy)(ps:List Str):Prop where
 ex:∃(f:Addr)(fd:dk),FunX K m x st f fd/\Binds K fd ps []/\Meth K C m f
theorem Wa{K:PySem.W.Frag}{C f:Addr}{oc kV J pm q ct:Value}{od an:Option Addr}{sl:Array (Option Value)}{m x:Str}{st:dy}{ps:List Str}
 (hb:∀(kV doc pm:Value)(an:Option Addr)(cdv ct:Value)(us:List Value),us.length=ps.length->bindArgs (PySem.W.fnOf m x (jG st) (dR st) (bh st) .none kV doc pm an cdv ct) ⟨us,[]⟩=pure (ps.zip us))
 (a:PySem.W.findIn K (.ref C) m=some (some (.ref f))) (l:K.lookup f=some ⟨oc,od,.func (PySem.W.fnOf m x (jG st) (dR st) (bh st) .none kV J pm an q ct),sl⟩) (c:PySem.W.codeIn K q x=true) (fn:PySem.W.isFn K (.ref f)=true) (k:PySem.W.keepIn K (.ref f)=true):DgM K C m x st ps:=
 ⟨f,_,⟨⟨oc,od,.none,kV,J,pm,an,q,ct,sl,rfl,l,c⟩⟩,.all (hb kV J pm an q ct),⟨a,fn,k⟩⟩
section
variable{P:c_}{w:de}{K:PySem.W.Frag}{mg:Str->Option Value}{base:dl}{m x:Str}{ps N:List Str}{st:dy}{k n:Nat}{fs:FS}{fl:List Fl}{l:List Nat}{C:Addr}
theorem CN(Dd:DgM K C m x st ps)(cl:Cls K C)(S:FnScope N ps (bh st))(O:∀i,i<ps.length->fl[i]? = some .A)(U:ps.length<=N.length)
 (J:∀(f:Addr)(cdv:Value)(A:dc)(outer:List Env)(s:c9)(H:Hp)(E:XK),Room k (A.deeper (envOfC x (bh st) s.heap.objs.size f cdv))->DSs (cx P w K mg base N x st f cdv A outer s H E) fl (dR st) fs) :
 HasM P w K mg base (k+1) C m ps (spD K (fnD ps.length (N.length-ps.length) fs)):=by
 obtain⟨f,fd,W,b,M⟩:=Dd.ex;refine⟨⟨f,fd,?_,b,M⟩,cl⟩;refine W.ok S (λvs H Q E h=>?_) (λcdv A outer s H vs Q E X h=>?_)
 ·obtain⟨ds,d,r,Z,_⟩:=h;unfold fnD at Z;by_cases z:ds.length=ps.length
  ·rw[r.2.length];exact z
  ·rw[if_neg z]at Z;cases Z
 ·obtain⟨ds,d,r,Z,q⟩:=h;refine⟨_,J f cdv A outer s H E X,?_⟩;unfold fnD at Z;by_cases z:ds.length=ps.length
  ·rw[if_pos z]at Z;split at Z
   ·next V e=>
    cases Z;exact⟨_,_,_,_,pL ps.length O z U r,e,λv H' s r=>q v H' s r⟩
   ·next δ' e=>
    cases Z;exact⟨_,_,_,_,pL ps.length O z U r,e,λY σ' H' R'=>q .non H' R'.same0 .non⟩
   ·cases Z
  ·rw[if_neg z]at Z;cases Z
theorem Nu(U:DgM K C m x st ps)(cl:Cls K C)(S:FnScope N ps (bh st))(J:∀i,i<ps.length->i∉l->fl[i]? = some .A)(hw:∀i∈l,fl[i]? = some .W)(O:ps.length<=N.length)
 (q:∀(f:Addr)(cdv:Value)(A:dc)(outer:List Env)(s:c9)(H:Hp)(E:XK),Room k (A.deeper (envOfC x (bh st) s.heap.objs.size f cdv))->DWs (cx P w K mg base N x st f cdv A outer s H E) fl l (dR st) fs) :
 HasM P w K mg base (k+1) C m ps (spW K l (fnW ps.length (N.length-ps.length) l fs)):=by
 obtain⟨f,fd,Z,b,M⟩:=U.ex;exact⟨⟨f,fd,M_ Z S J hw O q,b,M⟩,cl⟩
end
noncomputable def CP:List (Str×FE)->DS->Option (List D)
 |[],_=>some []
 | (_,f)::r,δ=>(f δ).bind λd=>if fW d=true then(CP r δ).bind λds=>some (d::ds)else none
def tI(K:PySem.W.Frag)(fl:List Fl)(C:Addr)(nf:List (Str×FE)):TS:=λY σ H=>∃(H0:Hp)(x dx:Addr)(fs:List (Str×V))(ds:List D)(as:List Addr)(δ:DS)(rs:List D),Ini K H0 x dx C H fs ds as/\σ[0]? = some (some (.ref x))/\Tb H/\σ.length=δ.length /\
 (∀(i:Nat)(d:D),δ[i]? = some (some (U.d d))->fl[i]? = some Fl.A/\fW d=true/\∃v,σ[i]? = some (some v)/\RA K ok1 true H v d)/\(fs.map (·.1)++nf.map (·.1)).Nodup/\fs.length+nf.length<1000/\fW.noIns ds=true/\CP nf δ=some rs /\
 ∀H' fs' Z,Ini K H0 x dx C H' fs' (ds++rs) Z->fs'.map (·.1)=fs.map (·.1)++nf.map (·.1)->Y.nx σ H'
theorem yK:∀{a b:List D},fW.noIns a=true->fW.noIns b=true->fW.noIns (a++b)=true
 |[],_,_,h=>h
 |x::a,b,h,h'=>by
  rw[fW.noIns,aX]at h;rw[mR,fW.noIns,h.1,yK h.2 h'];rfl
section
variable{X:Cx}{fl:List Fl}{C:Addr}{f s0:Str}{fe:FE}{e:Expr}{sts:List dy}{nf:List (Str×FE)}{vpos p2 pos:Pos}
theorem Wb:PSs X [] (tI X.K fl C []):=PSs.imp uU λV σ H h=>by
 obtain⟨H0,x,dx,fs,ds,as,δ,rs,I,W,tb,gl,ga,Z,Y,nd,ge,q⟩:=h
 cases ge;rw[cR]at q;exact q H fs as I (by simp)
theorem vh(h:DE X fl .T e fe)(hr:PSs X sts (tI X.K fl C nf))(hN:X.N[0]? = some s0)(c:Cls X.K C)(J:jc X.K C f)
 (hv:Vis X.env.scope s0:=by first|exact Or.inl rfl|exact Or.inr (Or.inl rfl)|exact Or.inr (Or.inr rfl)) (hd:(s0==("__debug__":Str))=false:=by decide) (hcd:(s0==("__classdict__":Str))=false:=by decide)
 (hs:swapsWith e (some (.Attribute (.Name s0 vpos) f p2)) pos.line X.env=pure false:=by rfl):PSs X (.Assign [.Attribute (.Name s0 vpos) f p2] e pos::sts) (tI X.K fl C ((f,fe)::nf)):=
 PSs.imp (rJ (RB h hN c J hv hd hcd hs) hr) λE σ H h=>by
 obtain⟨H0,x,dx,fs,ds,as,δ,rs,I,P,tb,gl,ga,V,M,nd,ge,q⟩:=h;refine D3.ex1 (bind1 ge) λd G Z=>?_
 by_cases z:fW d=true
 case neg=>rw[if_neg z]at Z;cases Z
 rw[if_pos z]at Z;refine D3.ex1 (bind1 Z) λW L e4=>?_
 cases e4;rw[aM]at V;have fn:f∉fs.map (·.1):=λy=>(cO.mp V).2.2 f y f aA rfl
 rw[aW]at M;refine⟨H0,x,dx,fs,ds,as,δ,d,I,P,tb,gl,λi d h=>⟨(ga i d h).1,(ga i d h).2.2⟩,fn,by omega,nd,z,G,λH' fs' Q F en k Y=>?_⟩;have fl':fs'.length=fs.length+1:=by
  have:=congrArg lQ en;simpa using this
 refine⟨H0,x,dx,fs',ds++[d],Q,δ,W,F,P,Y,gl,λi d h=>?_,by rw[en,jD];exact V,by omega,yK nd (by rw[fW.noIns,z];rfl),L,λH2 U R O S=>?_⟩
 ·obtain⟨h1,h2,v,h3,h4⟩:=ga i d h;exact⟨h1,h2,v,h3,k v d h4 h2⟩
 ·refine q H2 U R ?_ ?_
  ·rw[jD]at O;exact O
  ·rw[S,en,jD];rfl
end
def spI(K:PySem.W.Frag)(C:Addr)(ns:List Str)(F:List D->Option (List D)):Sp:=λvs H Q _=>∃(x dx:Addr)(us:List V)(ds rs:List D),vs = .ref x::us/\H x=some (.ins C dx [])/\H dx=some (.own x)/\Tb H/\RAs K ok1 true H us ds/\fW.noIns ds=true/\F ds=some rs /\
 ∀H' fs as,Ini K H x dx C H' fs rs as->fs.map (·.1)=ns->Q .non H'
structure HasI(P:c_)(w:de)(K:PySem.W.Frag)(mg:Str->Option Value)(base:dl)(n:Nat)(c:Str)(C:Addr)(ps:List Str)(sp:Sp):Prop where
 ex:∃(f:Addr)(fd:dk),FnOk P w K mg base CX0 n f fd ps sp/\Binds K fd ps []/\Mk K C f
 mg:mg c=some (.ref C)
structure DgI(K:PySem.W.Frag)(mg:Str->Option Value)(c:Str)(C:Addr)(x:Str)(st:dy)(ps:List Str):Prop where
 ex:∃(f:Addr)(fd:dk),FunX K "__init__" x st f fd/\Binds K fd ps []/\Mk K C f
 mg:mg c=some (.ref C)
def fnI(p q:Nat)(nf:List (Str×FE)):List D->Option (List D):=λds=>if ds.length=p then CP nf (none::(ds.map (λd=>some (.d d))++bK q none))else none
theorem Nv:∀{ds:List D}{i:Nat}{d:D},fW.noIns ds=true->ds[i]? = some d->fW d=true
 |[],_,_,_,h=>by simp at h
 |x::r,0,d,h,e=>by
  cases e;rw[fW.noIns,aX]at h;exact h.1
 |x::r,i+1,d,h,e=>by
  rw[fW.noIns,aX]at h;exact Nv h.2 (by simpa using e)
theorem Wc{P:c_}{w:de}{K:PySem.W.Frag}{mg:Str->Option Value}{base:dl}{c x O:Str}{ps N:List Str}{st:dy}{k:Nat}{fl:List Fl}{C:Addr}{nf:List (Str×FE)}(Dd:DgI K mg c C x st (O::ps))(S:FnScope N (O::ps) (bh st))(U:∀i,i<ps.length->fl[i+1]? = some .A)(hN:ps.length+1<=N.length)(hn:(nf.map (·.1)).Nodup)(hl:nf.length<1000)
 (J:∀(f:Addr)(cdv:Value)(A:dc)(outer:List Env)(s:c9)(H:Hp)(E:XK),Room k (A.deeper (envOfC x (bh st) s.heap.objs.size f cdv))->PSs (cx P w K mg base N x st f cdv A outer s H E) (dR st) (tI K fl C nf)) :
 HasI P w K mg base (k+1) c C (O::ps) (spI K C (nf.map (·.1)) (fnI ps.length (N.length-(ps.length+1)) nf)):=by
 obtain⟨⟨f,fd,L,b,M⟩,hm⟩:=Dd;refine⟨⟨f,fd,?_,b,M⟩,hm⟩;refine L.ok S (λvs H Q E h=>?_) (λcdv A outer s H vs Q E V h=>?_)
 ·obtain⟨y,dx,us,ds,rs,rfl,_,_,_,r,_,Z,_⟩:=h;unfold fnI at Z;by_cases z:ds.length=ps.length
  ·rw[aW,aW,r.length,z]
  ·rw[if_neg z]at Z;cases Z
 ·obtain⟨y,dx,us,ds,rs,rfl,h1,h2,tb,r,X,Z,q⟩:=h;refine⟨_,J f cdv A outer s H E V,?_⟩;unfold fnI at Z;by_cases z:ds.length=ps.length
  case neg=>rw[if_neg z]at Z;cases Z
  rw[if_pos z]at Z;have Y:us.length=ps.length:=by rw[r.length];exact z
  refine⟨H,y,dx,[],[],[],_,rs,⟨h1,h2,.nil,.nil,λa ha=>(by cases ha),λb o hb=>?_,by rw[h1];simp⟩,?_,tb,?_,λi d h=>?_,by simpa using hn,by simpa using hl,rfl,Z,λH' fs as I en=>q H' fs as I (by simpa using en)⟩
  ·by_cases e:b=y
   ·rw[sJ (p:=(· = y)) e]at hb;cases hb
   ·rw[gb (p:=(· = y)) e]at hb;exact hb
  ·unfold L2.start;rfl
  ·unfold L2.start;simp only[bw,ak,bF,aW,Y,z];omega
  ·cases i with
   |zero=>simp at h
   |succ i=>
    rw[jr]at h;by_cases hi:i<ps.length
    ·rw[bR (by rw[ak,z];exact hi),aO]at h
     cases e:ds[i]? with
     |none=>rw[e]at h;cases h
     |some G=>
      rw[e]at h
      cases h;obtain⟨v,R,T⟩:=r.get e;refine⟨U i hi,Nv X e,v,?_,T⟩;unfold L2.start;rw[bR (by rw[ak,aW,Y];omega),aO,jr,R];rfl
    ·rw[bV (by rw[ak,z];omega),cM]at h;split at h<;>cases h
def Nx(C:Addr)(ns:List Str)(F:List D->Option (List D))(fa:FA):FE:=λδ=>(fa δ).bind λds=>if fW.noIns ds=true then(F ds).bind λrs=>some (.dict (pX C ns rs))else none
theorem RJ{X:Cx}{fl:List Fl}{c:Str}{C:Addr}{ns ps:List Str}{e:Expr}{es:List Expr}{n:Nat}{F:List D->Option (List D)}{fa:FA}{p pos:Pos}(h:HasI X.prog X.w X.K X.mg X.base n c C ps (spI X.K C ns F))(U:Room (n+1) X.A)(ha:DB X fl .P (e::es) fa)(hg:Gl X c:=by rfl)(O:(c==("__debug__":Str))=false:=by decide)
 (he:starEach (e::es) X.env=(false,eval e X.env)::starEach es X.env:=by exact iB rfl) (J:(backTo pos (starEach es X.env)).any (·.1)=false:=by exact uG rfl) :
 DE X fl .T (.Call (.Name c p) (e::es) [] pos) (Nx C ns F fa):=by
 obtain⟨⟨f,fd,L,b,M⟩,hm⟩:=h;refine PE.imp (Qn (E:=E0) M L U hg hm b .nil Ba ha O he J) λσ H Q W=>?_
 refine D3.ex4 W λG ow δ d R Z q=>?_
 refine D3.ex1 (bind1 Z) λds S Z=>?_
 by_cases z:fW.noIns ds=true
 case neg=>rw[if_neg z]at Z;cases Z
 rw[if_pos z]at Z;refine D3.ex1 (bind1 Z) λrs V Z=>?_
 cases Z;refine⟨G,ow,δ,ds,R,S,λvs H1 s1 r x dx hx Y ne=>?_⟩;have s2:Same H1 (upd (upd H1 dx (.own x)) x (.ins C dx [])):=(cN Y _).trans (cN (by rw[bf (df ne)];exact hx) _);have s:=s1.trans s2;refine⟨x,dx,vs++[],ds,rs,rfl,bG,by rw[bf ne,bG],(R.grow s).tb,?_,z,V,λH' fs as I en=>⟨rfl,?_⟩⟩
 ·rw[cR];exact(show RAs X.K ok1 true H1 vs ds from r).same s2
 ·have fr:∀b,upd (upd H1 dx (.own x)) x (.ins C dx []) b=none->H b=none:=λb hb=>s.free hb
  have sm:Same H H':=λb o hb=>by
   have N:b≠x:=λe=>by rw[e]at hb;have:=s1 _ _ hb;rw[hx]at this;cases this
   exact I.sm b o (by rw[gb (p:=(· = x)) N];exact s b o hb)
  refine q _ H' sm ⟨as,.ins I.hx I.hd I.rt (by rw[en]),I.nd,λa ha=>fr a (I.fr a ha)⟩
end XI
namespace XI
open L2 My D3 XK XC
def Ny(l:List Nat)(f:FE):FX:=λδ=>(f δ).bind λ_=>(jP l δ).bind λr=>some (.o (.ex "" "" (.tuple (.none::r))))
def zX(l:List Nat)(c:Str)(f:FE):FX:=λδ=>(f δ).bind λd=>(jP l δ).bind λr=>some (.ex c (.tuple (d::r)))
def HB(K:PySem.W.Frag)(mg:Str->Option Value)(fl:List Fl)(l:List Nat)(G:Gh)(q:Ends)(E:XK):Or->Prop
 | .o (.ex _ _ (.tuple (_::ps)))=>∀v H' T',EndP K l G H' T' ps->q.rt v H'
 | .o (.nx δ')=>yX K fl G q (.nx δ')
 | .ex c (.tuple (d::ps))=>∀(C:Addr)(v:V)(u:Value)(H':Hp) T',mg c=some (.ref C)->EndP K l G H' T' ps->RA K ok1 true H' v d->RelV v u->E u (some C) H'
 |_=>False
theorem HB.nx{K:PySem.W.Frag}{mg:Str->Option Value}{fl:List Fl}{l:List Nat}{G:Gh}{J:Ends}{E:XK}{t:D3.St->Hp->Prop}{o:Or}(q:HB K mg fl l G J E o)(hn:∀δ,o ≠ .o (.nx δ)):HB K mg fl l G {J with nx:=t} E o:=by
 cases o with
 |ex c d=>
  cases d with
  |tuple xs=>cases xs<;>exact q
  |_=>exact q
 |o x=>
  cases x with
  |nx δ=>exact absurd rfl (hn δ)
  |ex c f d=>
   cases d with
   |tuple xs=>cases xs<;>exact q
   |_=>exact q
  |_=>exact q
noncomputable def Yu(K:PySem.W.Frag)(mg:Str->Option Value)(fl:List Fl)(l:List Nat)(E:XK)(f:FX):TS:=λZ σ H=>∃G ow δ o,Rel K fl G ow σ H δ/\f δ=some o/\HB K mg fl l G Z E o
abbrev JH(X:Cx)(E:XK)(fl:List Fl)(l:List Nat)(s:dy)(f:FX):Prop:=PS X s (Yu X.K X.mg fl l E f)
abbrev CQ(X:Cx)(E:XK)(fl:List Fl)(l:List Nat)(s:List dy)(f:FX):Prop:=PSs X s (Yu X.K X.mg fl l E f)
def GoN(f:FS):Prop:=∀δ o,f δ=some o->∃δ',o = .nx δ'
section
variable{X:Cx}{E:XK}{fl:List Fl}{l:List Nat}{c e:Expr}{st:dy}{sts body orelse:List dy}{fs:FS}{f g:FX}{fe:FE}{ft:FT}{pos:Pos}
theorem zY(h:DS1 X.nox fl st fs)(J:GoN fs):JH X E fl l st (xOf fs):=PS.imp (PS.nox h) λU σ H h=>by
 refine D3.ex4 h λG ow δ o R W q=>?_
 refine D3.ex1 (bind1 W) λY Z V=>?_
 cases V;obtain⟨δ',rfl⟩:=J δ Y Z;exact⟨G,ow,δ,_,R,Z,q⟩
theorem jw(h1:JH X E fl l st f)(h2:CQ X E fl l sts g):CQ X E fl l (st::sts) (xK f g):=PSs.imp (rJ h1 h2) λT σ H h=>by
 refine D3.ex4 h λG ow δ o R V q=>?_
 refine D3.ex1 (bind1 V) λZ U W=>?_
 refine⟨G,ow,δ,Z,R,U,?_⟩
 cases Z with
 |ex c d=>cases W;exact q.nx λ_ z=>by cases z
 |o Z=>
  cases Z with
  |nx δ'=>exact λY σ' H' R'=>⟨G,Y,δ',o,R',W,q⟩
  |_=>cases W;exact q.nx λ_ z=>by cases z
theorem CT(h1:JH X E fl l st f):CQ X E fl l [st] f:=PSs.imp (uV h1) λ_ _ _ h=>h
theorem sW:CQ X E fl l [] (xOf j9):=PSs.imp uU λY σ H h=>by
 refine D3.ex4 h λG ow δ o R Z q=>?_
 cases Z;exact q ow σ H R
theorem zZ(J:DT X.nox fl c ft)(h1:CQ X E fl l body f)(h2:CQ X E fl l orelse g):JH X E fl l (.If c body orelse pos) (xIf ft f g):=PS.imp (Gj (PT.nox J) h1 h2) λV σ H h=>by
 refine D3.ex4 h λG ow δ o R Y q=>?_
 refine D3.ex1 (bind1 Y) λt W Z=>?_
 refine⟨G,ow,δ,t,R,W,λH' s=>?_⟩
 cases t with
 |true=>exact xG ⟨G,ow,δ,o,R.grow s,Z,q⟩
 |false=>exact xu ⟨G,ow,δ,o,R.grow s,Z,q⟩
theorem qJ:CQ X E fl l sts (λ_=>none):=λ_ _ _ _ _ _ h=>by
 obtain⟨_,_,_,_,_,Z,_⟩:=h
 cases Z
theorem RK(J:∀i∈l,fl[i]? = some .W)(h:DE X.nox fl .P e fe):JH X E fl l (.Return (some e) pos) (Ny l fe):=PS.imp (yM (PE.nox h)) λS σ H h=>by
 refine D3.ex4 h λG ow δ o R Y q=>?_
 refine D3.ex1 (bind1 Y) λd U Z=>?_
 refine D3.ex1 (bind1 Z) λr V Z=>?_
 cases Z;exact⟨G,ow,δ,d,R,U,λv H' s T=>q v H' ow.n (vf (R.grow s) J V)⟩
end
section
variable{P:c_}{w:de}{K:PySem.W.Frag}{mg:Str->Option Value}{base:dl}{N:List Str}{qual:Str}{scope:er}{fa:Addr}{cdv:Value}{A:dc}{outer:List Env}{s₀:c9}{H₀:Hp}{E:XK}{fld:Addr->Str}
variable{fl:List Fl}{l:List Nat}{cn f:Str}{arg:Expr}{fe:FE}{p pos rpos:Pos}{k:Nat}
theorem JK(O:ExcF K mg fld cn f)(hr:Room (k+2) (A.deeper (envOfC qual scope s₀.heap.objs.size fa cdv)))(hw:∀i∈l,fl[i]? = some .W)
 (ha:DE (mC (CXE P w fld) P w K mg base N qual scope fa cdv A outer s₀ H₀ E).nox fl .P arg fe) (hg:Gl (mC (CXE P w fld) P w K mg base N qual scope fa cdv A outer s₀ H₀ E) cn:=by rfl) (Y:(cn==("__debug__":Str))=false:=by decide)
 (he:starEach [arg] (mC (CXE P w fld) P w K mg base N qual scope fa cdv A outer s₀ H₀ E).env=(false,eval arg (mC (CXE P w fld) P w K mg base N qual scope fa cdv A outer s₀ H₀ E).env)::starEach [] (mC (CXE P w fld) P w K mg base N qual scope fa cdv A outer s₀ H₀ E).env:=by exact iB rfl)
 (U:(backTo pos (starEach [] (mC (CXE P w fld) P w K mg base N qual scope fa cdv A outer s₀ H₀ E).env)).any (·.1)=false:=by exact uG rfl) :
 JH (mC (CXE P w fld) P w K mg base N qual scope fa cdv A outer s₀ H₀ E) E fl l (.Raise (some (.Call (.Name cn p) [arg] [] pos)) none rpos) (zX l cn fe):=by
 intro pins s σ H F J h;obtain⟨C,I0,O,hC⟩:=O.ex;refine D3.ex4 h λG ow δ o R V q=>?_
 refine D3.ex1 (bind1 V) λd Q Z=>?_
 refine D3.ex1 (bind1 Z) λr S Z=>?_
 cases Z;refine L_ (R:=λv H1=>Same H H1/\RA K ok1 true H1 v d) O hr hg Y (PE.nox ha) J ⟨G,ow,δ,d,R,Q,λv H' s r=>⟨s,r⟩⟩ (λv H1 a dx u s' r X I Fl L M=>?_) he U;rw[<-hC]at Fl;exact Ye I Fl L M (λT z=>by cases z) (q C v u H1 ow.n O.mgC (vf (R.grow r.1) hw S) r.2 X)
end
def RM(K:PySem.W.Frag)(mg:Str->Option Value)(l:List Nat)(F:List D->Option Or):Sp:=λvs H Q E=>∃(ds:List D)(T:Nat->List Addr)(o:Or),PreW K l H vs ds T/\F ds=some o/\match o with
 | .o (.ex _ _ (.tuple (_::ps)))=>∀v H' T',PostW K l H T vs H' T' ps->Q v H'
 | .ex c (.tuple (d::ps))=>∀(C:Addr)(v:V)(u:Value)(H':Hp) T',mg c=some (.ref C)->PostW K l H T vs H' T' ps->RA K ok1 true H' v d->RelV v u->E u (some C) H'
 |_=>False
def Nz(l:List Nat):Option Or->Option Or
 |some (.o (.nx δ))=>(jP l δ).bind λr=>some (.o (.ex "" "" (.tuple (.none::r))))
 |o=>o
def NK(p q:Nat)(l:List Nat)(b:FX):List D->Option Or:=λds=>if ds.length=p then Nz l (b (ds.map (λd=>some (.d d))++bK q none))else none
structure HasMX(P:c_)(w:de)(K:PySem.W.Frag)(mg:Str->Option Value)(base:dl)(fld:Addr->Str)(n:Nat)(C:Addr)(m:Str)(ps:List Str)(sp:Sp):Prop where
 ex:∃(f:Addr)(fd:dk),FnOk P w K mg base (CXE P w fld) n f fd ps sp/\Binds K fd ps []/\Meth K C m f
 cl:Cls K C
theorem RN{P:c_}{w:de}{K:PySem.W.Frag}{mg:Str->Option Value}{base:dl}{fld:Addr->Str}{m x:Str}{ps N:List Str}{st:dy}{k:Nat}{f:FX}{fl:List Fl}{l:List Nat}{C:Addr}(Dd:DgM K C m x st ps)(cl:Cls K C)(S:FnScope N ps (bh st))(O:∀i,i<ps.length->i∉l->fl[i]? = some .A)(hw:∀i∈l,fl[i]? = some .W)(hN:ps.length<=N.length)
 (J:∀(fa:Addr)(cdv:Value)(A:dc)(outer:List Env)(s:c9)(H:Hp)(E:XK),Room k (A.deeper (envOfC x (bh st) s.heap.objs.size fa cdv))->CQ (mC (CXE P w fld) P w K mg base N x (bh st) fa cdv A outer s H E) E fl l (dR st) f) :
 HasMX P w K mg base fld (k+1) C m ps (RM K mg l (NK ps.length (N.length-ps.length) l f)):=by
 obtain⟨fa,fd,G,b,M⟩:=Dd.ex;refine⟨⟨fa,fd,?_,b,M⟩,cl⟩;obtain⟨oc,od,dV,kV,doc,pm,an,cdv,ct,osl,rfl,lk,hcd⟩:=G.ex;refine Kv lk hcd S (λvs H Q E h=>?_) λA outer s H vs Q E V h=>?_
 ·obtain⟨ds,T,o,r,Z,_⟩:=h;unfold NK at Z;by_cases z:ds.length=ps.length
  ·rw[r.ln];exact z
  ·rw[if_neg z]at Z;cases Z
 ·obtain⟨ds,T,o,r,Z,q⟩:=h;refine⟨_,J fa cdv A outer s H E V,?_⟩;unfold NK at Z;by_cases z:ds.length=ps.length
  case neg=>rw[if_neg z]at Z;cases Z
  rw[if_pos z]at Z;have R:=wD (K:=K) (N:=N) ps.length O hw z hN r;generalize X:f (ds.map (λd=>some (U.d d))++bK (N.length-ps.length) none)=D at Z;unfold Nz at Z;split at Z
  ·next δ'=>
   refine D3.ex1 (bind1 Z) λF I L=>?_
   cases L;exact⟨_,_,_,_,R,X,λY σ' H' R'=>q .non H' Y.n (post_of r (vf R' hw I))⟩
  ·subst Z;refine⟨_,_,_,_,R,X,?_⟩
   cases o with
   |ex c d=>
    cases d with
    |tuple xs=>
     cases xs with
     |nil=>exact q
     |cons d ps=>exact λC v u H' T' m e=>q C v u H' T' m (post_of r e)
    |_=>exact q
   |o x=>
    cases x with
    |ex c f d=>
     cases d with
     |tuple xs=>
      cases xs with
      |nil=>exact q
      |cons d ps=>exact λv H' T' e=>q v H' T' (post_of r e)
     |_=>exact q
    |nx _=>exact q.elim
    |_=>exact q
inductive OrW where
 |nx (δ:DS)
 |ex (c:Str) (d:D) (δ:DS)
abbrev FXW:=DS->Option OrW
def tXW(K:PySem.W.Frag)(mg:Str->Option Value)(fl:List Fl)(f:FXW):Ends->XK->L2.St->Hp->Prop:=λY EX σ H=>∃G ow δ o,Rel K fl G ow σ H δ/\f δ=some o/\match o with
 | .nx δ'=>∀Z σ' H',Rel K fl G Z σ' H' δ'->Y.nx σ' H'
 | .ex c d δ'=>∀(C:Addr)(v:V)(u:Value)(H':Hp) Z,mg c=some (.ref C)->Rel K fl G Z σ H' δ'->RA K ok1 true H' v d->RelV v u->EX u (some C) H'
abbrev DXW(X:Cx)(fld:Addr->Str)(fl:List Fl)(st:dy)(f:FXW):Prop:=PSE fld X st (tXW X.K X.mg fl f)
section
variable{X:Cx}{pins:List (Addr×Obj)}{σ:L2.St}{H:Hp}{s:c9}{fld:Addr->Str}{k:Nat}{f C:Addr}{fd:dk}{ps:List Str}{sp:Sp}{EX:XK}
variable{m:Str}{apos pos pos2:Pos}{o e:Expr}{es:List Expr}{to:TE}{ta:TA}
theorem NP{pl:Sem Bool}(F:FnOk X.prog X.w X.K X.mg X.base (CXE X.prog X.w fld) k f fd ps sp)(hr:Room k X.A)(c:Cls X.K C)(M:Meth X.K C m f)(hb:Binds X.K fd ps [])(he:PE X.nox o to)(ha:PA X.nox (e::es) ta)
 (O:starEach (e::es) X.env=(false,eval e X.env)::starEach es X.env:=by rfl) (U:(backTo pos (starEach es X.env)).any (·.1)=false:=by rfl)
 (ht:eval (.Call (.Attribute o m apos) (e::es) [] pos) X.env=(do
  let ov <-eval o X.env
  standAt apos.atName
  let(f,fi) <-holding [ov] (getMethod ov m pl)
  callWith pos f fi (backTo pos (starEach (e::es) X.env)) (backToKw pos (keywordEach [] X.env))):=by rfl)
 (hs:swapsWith (.Call (.Attribute o m apos) (e::es) [] pos) none pos2.line X.env=pure false:=by rfl) :
 PSE fld X (.Expr (.Call (.Attribute o m apos) (e::es) [] pos) pos2) (λD EX σ H=>to σ H λx H1=>∃a dx fs,x = .ref a/\H1 a=some (.ins C dx fs)/\fs.lookup m=none/\ta σ H1 λvs H2=>sp (x::vs) H2 (λ_ H3=>D.nx σ H3) EX):=by
 intro pins s σ H D EX J h;refine wpAny_Expr_any ?_ J.quiet hs;refine PySem.W.methodCall_KW (pl:=pl) (ar (he pins s σ H _ (J.wish _) h) (λu s1 q=>?_) λ_ _ z=>z.elim) ht;obtain⟨x,H1,Y,V,a,dx,fs,ex,ea,l,q⟩:=q;have Y:Inv X pins σ H1 s1:=Y.wish _;subst ex;obtain rfl:u=db a:=V;refine qm Y ea c M l ?_;refine PySem.W.callWith_K (first:=[.ref a]) (h₀:=X.base) J.ok.mod.kin M.kp (ar (ha pos pins s1 σ H1 _ (Y.wish _) q) (λus s2 q2=>?_) λ_ _ z=>z.elim) O U;obtain⟨vs,H2,Z,r,q2⟩:=q2;have Z:Inv X pins σ H2 s2:=Z.wish _;refine⟨Z.kIn,ar (Q7 (us:=.ref a::us) (vs:=.ref a::vs) (dvs:=[]) (ds:=[]) F hr hb .nil Z (.cons rfl r) (by rw[cR];exact q2)) (λu S w=>?_) λ_ _ z=>z⟩;obtain⟨v,H3,T,R,q3⟩:=w;exact⟨σ,H3,T,q3⟩
end
def uh(F:List D->Option Or)(C:Addr)(ns:List Str)(i:Nat)(fa:FA)(sw:List Nat):FXW:=λδ=>(aB i δ).bind λd=>(isC C ns d).bind λ_=>(fa δ).bind λds=>match F (d::ds)with
 |some (.o (.ex _ _ (.tuple (_::ps))))=>if ps.length=sw.length then some (.nx (uN sw ps δ))else none
 |some (.ex c (.tuple (x::ps)))=>if ps.length=sw.length then some (.ex c x (uN sw ps δ))else none
 |_=>none
noncomputable def wL(i:Nat)(f:FXW)(cs:List Str)(fS:Str->D->FS):FS:=λδ=>(f δ).bind λo=>match o with
 | .nx δ'=>some (.nx δ')
 | .ex c d Z=>if c∈cs/\flat d=true then(fS c d (Z.set i none)).bind λo=>match o with
  | .rt r=>some (.rt r)
  | .nx δ'=>some (.nx (δ'.set i none))
  |_=>none
  else none
section
variable{X:Cx}{fl:List Fl}{fld:Addr->Str}{n i j:Nat}{x m ic en:Str}{ps cs ns:List Str}{F:List D->Option Or}{C:Addr}{e:Expr}{es:List Expr}{fa:FA}{f:FXW}{p apos pos pos2 np hpos tpos:Pos}{b0 st:dy}{suite:List dy}{fS:Str->D->FS}{sl:List (Option Nat)}{l sw:List Nat}
theorem NQ{pl:Sem Bool}(h:HasMX X.prog X.w X.K X.mg X.base fld n C m ps (RM X.K X.mg l F))(hr:Room n X.A)(hi:isN fl[j]? = true)(hN:X.N[j]? = some x)(hm:m∉ns)(ha:DWA X fl sl (e::es) fa)(W:SlW fl (some j::sl) l sw)(hx:X=X.nox:=by rfl)(hv:Vis X.env.scope x:=by first|exact Or.inl rfl|exact Or.inr (Or.inl rfl)|exact Or.inr (Or.inr rfl))(hd:(x==("__debug__":Str))=false:=by decide)(hcd:(x==("__classdict__":Str))=false:=by decide)
 (he:starEach (e::es) X.env=(false,eval e X.env)::starEach es X.env:=by exact iB rfl) (O:(backTo pos (starEach es X.env)).any (·.1)=false:=by exact uG rfl)
 (ht:eval (.Call (.Attribute (.Name x p) m apos) (e::es) [] pos) X.env=(do
  let ov <-eval (.Name x p) X.env
  standAt apos.atName
  let(f,fi) <-holding [ov] (getMethod ov m pl)
  callWith pos f fi (backTo pos (starEach (e::es) X.env)) (backToKw pos (keywordEach [] X.env))):=by rfl)
 (hs:swapsWith (.Call (.Attribute (.Name x p) m apos) (e::es) [] pos) none pos2.line X.env=pure false:=by rfl) :
 DXW X fld fl (.Expr (.Call (.Attribute (.Name x p) m apos) (e::es) [] pos) pos2) (uh F C ns j fa sw):=by
 intro pins s σ H c EX J B;refine D3.ex4 B λG ow δ o R Z q=>?_
 refine D3.ex1 (bind1 Z) λd r Z=>?_
 refine D3.ex1 (bind1 Z) λxs t Z=>?_
 refine D3.ex1 (bind1 Z) λds y Z=>?_
 obtain⟨g,fd,i,b,M⟩:=h.ex;have Q:=gD r;obtain⟨v,k1,k2,k3⟩:=R.nr j d hi Q;obtain⟨a,dx,fs,rfl,D,m2,E,_⟩:=wH k2 t;have U:DWA X.nox fl sl (e::es) fa:=by rw[<-hx];exact ha
 refine NP (X:=X) i hr h.cl M b (i_ (X:=X.nox) hN hv hd hcd) U he O ht hs pins s σ H c EX J ⟨_,k1,a,dx,fs,rfl,D,nu (by rw[E];exact hm),G,ow,δ,ds,R,y,λvs H' sm L=>?_⟩;obtain⟨T,pre,g⟩:=yG W R sm (.nm k1 Q L);split at Z
 ·next k f0 r0 Y S=>
  by_cases z:Y.length=sw.length
  case neg=>rw[if_neg z]at Z;cases Z
  rw[if_pos z]at Z
  cases Z;exact⟨d::ds,T,_,pre,S,λv H2 T' po=>by
   obtain⟨V,R'⟩:=g H2 T' Y po z;exact q V σ H2 R'⟩
 ·next k x0 Y S=>
  by_cases z:Y.length=sw.length
  case neg=>rw[if_neg z]at Z;cases Z
  rw[if_pos z]at Z
  cases Z;exact⟨d::ds,T,_,pre,S,λC' v u H2 T' I po rd P=>by
   obtain⟨V,R'⟩:=g H2 T' Y po z;exact q C' v u H2 V I R' rd P⟩
 ·cases Z
theorem RP(h:DXW X fld fl st f)(hcs:∀c∈cs,Mf X fl fld ic i b0 suite fS c)(O:fl[i]? = some .A)
 (hi:X.N[i]? = some en) (hN:X.N.Nodup) (hl:X.env.scope.names.lookup en=some .local) (hst:X.stack=X.env::X.outer:=by rfl) (hfr:X.env.frame=some X.env.locals:=by rfl) (hx:X=X.nox:=by rfl)
 (hgi:Gl X ic:=by rfl) (hdi:(ic==("__debug__":Str))=false:=by decide) :
 DS1 X fl (.Try [st] [.ExceptHandler (some (.Name ic np)) (some en) (b0::suite) hpos] [] [] tpos) (wL i f cs fS):=by
 intro pins s σ H Q J h0;refine D3.ex4 h0 λG ow δ o R hf q=>?_
 refine D3.ex1 (bind1 hf) λo1 b S=>?_
 refine wpAny_Try_except ?_;have one:∀(D:Ends)(EX:XK),(tXW X.K X.mg fl f) D EX σ H->(∀s',SP X pins D .next s'->SP X pins Q .next s')->(∀e s',XP fld X pins σ EX e s'->wpAny (model X.prog X.w) X.A (noteFrame e X.env) (λ_ V=>wpAny (model X.prog X.w) X.A (setFlight e none) (λ_ W=>wpAny (model X.prog X.w) X.A (handleBy e X.env [.ExceptHandler (some (.Name ic np)) (some en) (b0::suite) hpos]) (SP X pins Q) X.xe W) X.xe V) X.xe s')->(D.rt=λ_ _=>False)->(D.bk=λ_ _=>False)->(D.ct=λ_ _=>False)->wpAny (model X.prog X.w) X.A (execs [st] X.env) (λf Y=>match f with | .next=>wpAny (model X.prog X.w) X.A (execs [] X.env) (SP X pins Q) X.xe Y|f=>SP X pins Q f Y)
  (λe Y=>wpAny (model X.prog X.w) X.A (noteFrame e X.env) (λ_ V=>wpAny (model X.prog X.w) X.A (setFlight e none) (λ_ W=>wpAny (model X.prog X.w) X.A (handleBy e X.env [.ExceptHandler (some (.Name ic np)) (some en) (b0::suite) hpos]) (SP X pins Q) X.xe W) X.xe V) X.xe Y) s:=λD EX hq hn I t x B=>by
  refine bx (ar (h pins s σ H D EX J hq) (λfl' s1 z=>?_) λe s1 z=>I e s1 z)
  cases fl' with
  |next=>exact bd (bd (hn _ z))
  |ret v=>obtain⟨_,_,_,_,_,z⟩:=z;rw[t]at z;exact z.elim
  |brk=>obtain⟨_,_,_,z⟩:=z;rw[x]at z;exact z.elim
  |cont=>obtain⟨_,_,_,z⟩:=z;rw[B]at z;exact z.elim
 split at S
 ·next δ'=>
  cases S;refine one {nx:=λσ' H2=>∃Z,Rel X.K fl G Z σ' H2 δ',rt:=λ_ _=>False,bk:=λ_ _=>False,ct:=λ_ _=>False} (λ_ _ _=>False) ⟨G,ow,δ,_,R,b,λZ σ' H' R'=>⟨Z,R'⟩⟩ (λs' z=>?_) (λe s' z=>?_) rfl rfl rfl
  ·obtain⟨σ',H',m,Z,R'⟩:=z;exact⟨σ',H',m,q Z _ H' R'⟩
  ·obtain⟨_,_,_,_,_,_,_,_,_,_,_,_,z⟩:=z;exact z.elim
 ·next c d P=>
  by_cases U:c∈cs/\flat d=true
  case neg=>rw[if_neg U]at S;cases S
  rw[if_pos U]at S;refine D3.ex1 (bind1 S) λo2 e3 e4=>?_
  obtain⟨C,I0,Dc,Ex,hD,E,F⟩:=hcs c U.1;refine one {nx:=λσ' H2=>False,rt:=λ_ _=>False,bk:=λ_ _=>False,ct:=λ_ _=>False} (λu k H'=>k=some C/\(∃Z,Rel X.K fl G Z σ H' P)/\∃v,RelV v u/\RA X.K ok1 true H' v d) ⟨G,ow,δ,_,R,b,λk v u H' Z j R' r' M=>⟨by rw[Ex.mgC]at j;cases j;rfl,⟨Z,R'⟩,v,M,r'⟩⟩ (λs' z=>?_) (λe s' z=>?_) rfl rfl rfl
  ·obtain⟨_,_,_,z⟩:=z;exact z.elim
  ·obtain⟨a,k,dx,T,u,H',rfl,m,Fl,La,Ld,LT,hC,⟨L,R1⟩,v,M,rd⟩:=z
   cases hC;refine Bw rfl m hst hfr Fl La Ld (λT' z=>by cases z;exact LT) λs2 T2 I2 l o1 o2 n=>?_
   obtain⟨vs,sl,w1,_⟩:=l.obj;obtain⟨od,r,p,w2,w3⟩:=l.dic;have t1:=F a ⟨.ref C,some dx,.fields vs,sl⟩ dx od u v d rfl rfl rfl (λh' z=>⟨od,r,p,z,w3⟩) M U.2;have li:i<σ.length:=by
    rw[I2.len];exact(aQ.mp hi).1
   refine Yj (D:=Dc) (i:=i) (ts:=tUS X.K fl i a v d (fS c d)) I2 l La Ld n Ex hD E hgi hdi hi hN hl λoa od' ea g=>?_
   rw[w1]at ea;rw[w2]at g
   cases ea
   cases g;refine⟨t1,G,L,_,_,Rel.forget R1 O,⟨bU li,RA.flat U.2 rd,U.2⟩,e3,?_⟩;split at e4
   ·cases e4;exact λy H2 s2 r2=>q y H2 s2 r2
   ·next δ'=>
    cases e4;exact λZ σ' H2 R' _=>q Z _ H2 (Rel.forget R' O)
   ·cases e4
end
end XI
namespace XI
open L2 My D3 XK
def xO:D->D->Option D:=λx y=>match x,y with
 | .str i,.str j=>some (.bool (!decide (j.cps.toList<i.cps.toList)))
 |_,_=>none
def Yv:R2:=λx y H Q=>∃i j,x = .str i/\y = .str j/\Q (.bl (!decide (j.cps.toList<i.cps.toList))) H
theorem NT{X:Cx}:OpR X (compareOp .LtE) Yv:=by
 intro pins s σ H x y v u Q I Y Z h;obtain⟨i,j,rfl,rfl,q⟩:=h;obtain⟨t,rfl⟩:=Y;obtain⟨W,rfl⟩:=Z;exact PySem.P.le_str (Vg I q rfl)
theorem Uk{K:PySem.W.Frag}:BrO K Yv xO:=by
 intro H x y dx X d Q Y Z e q;unfold xO at e;split at e
 ·cases e;obtain rfl:=RA.strE Y;obtain rfl:=RA.strE Z;exact⟨_,_,rfl,rfl,q _ rfl (.bl _)⟩
 ·cases e
def wM:List D->Option D
 |[.list l]=>(iz l).bind λns=>if ns.length<64 then some (.list ((jW ns).reverse.map .int))else none
 |_=>none
theorem CV{X:Cx}{fl:List Fl}{e:Expr}{fa:FA}{p pos kpos cp:Pos}{k:Nat}(ha:DB X fl .P [e] fa)(hg:Gl X "sorted")(hm:X.mg "sorted"=none)
 (he:backTo pos (starEach [e] X.env)=(false,eval e X.env)::backTo pos (starEach [] X.env):=by rfl) (hpl:(backTo pos (starEach [e] X.env)).any (·.1)=false:=by rfl)
 (J:(backToKw pos (keywordEach [⟨some (dn "reverse"),.Constant (.bool true) k cp,kpos⟩] X.env)).all (·.1.isSome)=true:=by rfl) (hkw:(backToKw pos (keywordEach [⟨some (dn "reverse"),.Constant (.bool true) k cp,kpos⟩] X.env)).any (·.1.isNone)=false:=by rfl)
 (hks:(backToKw pos (keywordEach [⟨some (dn "reverse"),.Constant (.bool true) k cp,kpos⟩] X.env)).filterMap (·.1)=[dn "reverse"]:=by rfl) :
 DE X fl .FC (.Call (.Name "sorted" p) [e] [⟨some (dn "reverse"),.Constant (.bool true) k cp,kpos⟩] pos) (dCall wM fa):=by
 intro pins s σ H Q I D;refine D3.ex4 D λG ow δ d R C q=>?_
 refine D3.ex1 (bind1 C) λl w Z=>?_
 refine av (lG I hg hm (show bootBuiltins "sorted"=some (.builtin "sorted")by decide +kernel) ?_);refine e9 ?_ he hpl J hkw;refine thn (ha pos pins s σ H (λvs H1=>Same H H1/\RAs X.K ok1 true H1 vs l) I ⟨G,ow,δ,_,R,w,λvs H' s' M=>⟨s',M⟩⟩) λus s1 ⟨vs,H1,n,r1,U,ra⟩=>?_
 refine thn ((Gn TF Ku) pos pins s1 σ H1 (λws H2=>ws=[.bl true]/\H2=H1) n ⟨rfl,rfl⟩) λkvs s2 ⟨ws,H2,N,r2,B,A⟩=>?_
 subst B A;rw[hks];obtain⟨F,rfl,T⟩:=vals1 r2;obtain rfl:F = .bool true:=T;show wpAny _ _ (PySem.call (.builtin "sorted") us [(dn "reverse", .bool true)]) _ _ _;unfold wM at Z;split at Z
 case h_2=>cases Z
 next m=>
 refine D3.ex1 (bind1 Z) λns z Z=>?_
 by_cases W:ns.length<64
 case neg=>rw[if_neg W]at Z;cases Z
 rw[if_pos W]at Z
 cases Z
 cases ra with
 |cons O ra2=>
 cases ra2;obtain⟨a,ys,rfl,hx,E⟩:=O.lstE
 cases r1 with
 |cons t v=>
 cases v
 cases t;obtain rfl:=lJ z E;obtain⟨its,S,pl,j⟩:=N.list hx;have hi:=oZ S;refine sorted_ints_rev pl.isList hi (by rw[hi.length];exact W) λout Y a1 a2 a3=>?_
 have en:Y=(jW ns).reverse:=by
  have h1:Y.reverse=jW ns:=pN ((lR Y).trans (a2.trans (dY ns).symm)) (by
   have:List.Pairwise (λx y=>y<=x) Y:=a3;exact h_.mpr this) (ju ns)
  rw[<-h1,List.reverse_reverse]
 subst en;obtain⟨e,he⟩:=sortedAll_at s2.heap its out;have hn:H2 (s2.heap.objs.size+1)=none:=N.hok.fresh (iD _);have L:(jW ns).length=ns.length:=(dY ns).length_eq;have r:=N.laid (h':=sortedAll s2.heap its out) (t':=s2.toks) (a:=s2.heap.objs.size+1) (o:=.lst ((jW ns).reverse.map V.int)) (λb u e=>sortedAll_old e) (iD _)
  ⟨by rw[ak,eG,L];exact aZ (dB W) (by decide),out.toList,e,D3.jV a1,by simpa[seqObj]using he⟩
 exact⟨.ref _,_,r,rfl,q _ _ (U.trans (cN hn _)) (.inr ⟨_,_,_,rfl,rfl,U.free hn,bG,lY _⟩)⟩
end XI
namespace XI
open L2 My D3 XK
noncomputable def slB(fl:List Fl)(sl:List (Option Nat))(l sw:List Nat):Bool:=
 ((bH sl.length).all λi=>match sl[i]? with|some (some _)=>decide (i∈l)|_=>true) &&
 ((bH sl.length).all λi=>(bH sl.length).all λj=>match sl[i]?,sl[j]? with|some (some s),some (some t)=>decide (s≠t)||decide (i=j)|_,_=>true) &&
 decide (sw.length=l.length)&&((bH l.length).all λk=>match l[k]?,sw[k]? with|some i,some s=>decide (sl[i]? = some (some s))|_,_=>true)&&decide sw.Nodup&&(sw.all λs=>decide (fl[s]? = some .N)||decide (fl[s]? = some .W))
theorem z6{fl:List Fl}{sl:List (Option Nat)}{l sw:List Nat}(h:slB fl sl l sw=true):SlW fl sl l sw:=by
 unfold slB at h;simp only[aX,eY,cA,decide_eq_true_eq]at h;obtain⟨⟨⟨⟨⟨h1,h2⟩,h3⟩,h4⟩,h5⟩,h6⟩:=h;have lt:∀{α:Type}{l:List α}{i:Nat}{x:α},l[i]? = some x->i<l.length:=λe=>(aQ.mp e).1
 refine⟨λi s e=>?_,λi j s e Z=>?_,h3,λk i s e Z=>?_,h5,λs Y=>?_⟩
 ·have:=h1 i (lt e);rw[e]at this;exact of_decide_eq_true this
 ·have:=h2 i (lt e) j (lt Z);rw[e,Z]at this;simpa using this
 ·have:=h4 k (lt e);rw[e,Z]at this;exact of_decide_eq_true this
 ·have:=h6 s Y;simpa using this
theorem gow{f:FS}(h:GoN f):GoW f:=λδ o e=>by
 obtain⟨δ',rfl⟩:=h δ o e;exact⟨λd z=>(by cases z),λc x d z=>(by cases z)⟩
section
variable{i k:Nat}{f g fk:FE}{fw:FW}{fs gs:FS}{ft:FT}{C:Addr}{ns:List Str}
theorem pQ:GoN (cG i f):=λδ o e=>by
 unfold cG at e;split at e
 ·refine D3.ex1 (bind1 e) λd _ e=>?_
  cases e;exact⟨_,rfl⟩
 ·cases e
theorem RQ:GoN (yh f):=λδ o e=>by
 refine D3.ex1 (bind1 e) λd _ e=>?_
 cases e;exact⟨_,rfl⟩
theorem CW:GoN (mK fw):=λδ o e=>by
 refine D3.ex1 (bind1 e) λd _ e=>?_
 cases e;exact⟨_,rfl⟩
theorem z7:GoN (yI C ns k i fk f):=λδ o e=>by
 refine D3.ex1 (bind1 e) λ_ _ e=>?_
 refine D3.ex1 (bind1 e) λ_ _ e=>?_
 refine D3.ex1 (bind1 e) λ_ _ e=>?_
 refine D3.ex1 (bind1 e) λ_ _ e=>?_
 split at e
 ·refine D3.ex1 (bind1 e) λ_ _ e=>?_
  split at e
  ·cases e;exact⟨_,rfl⟩
  ·cases e
 ·cases e
theorem RV:GoN (Hq C ns k i f):=λδ o e=>by
 refine D3.ex1 (bind1 e) λ_ _ e=>?_
 refine D3.ex1 (bind1 e) λ_ _ e=>?_
 refine D3.ex1 (bind1 e) λ_ _ e=>?_
 split at e
 ·split at e
  ·cases e;exact⟨_,rfl⟩
  ·cases e
 ·cases e
theorem RW:GoN (Cw i fk f):=λδ o e=>by
 refine D3.ex1 (bind1 e) λ_ _ e=>?_
 refine D3.ex1 (bind1 e) λ_ _ e=>?_
 refine D3.ex1 (bind1 e) λ_ _ e=>?_
 split at e
 ·refine D3.ex1 (bind1 e) λ_ _ e=>?_
  split at e
  ·cases e;exact⟨_,rfl⟩
  ·cases e
 ·cases e
theorem HD{tg:FG}(h:GoN fs):∀(l:List D)(δ:DS)(o:Oc),mW tg fs l δ=some o->∃δ',o = .nx δ'
 |[],δ,o,e=>by cases e;exact⟨_,rfl⟩
 |d::r,δ,o,e=>by
  rw[mW]at e;refine D3.ex1 (bind1 e) λY _ e=>?_
  refine D3.ex1 (bind1 e) λX W e=>?_
  obtain⟨Z,rfl⟩:=h Y X W;exact HD h r Z o e
theorem Wd{fi:FA}{tg:FG}(h:GoN fs):GoN (xH fi tg fs):=λδ o e=>by
 refine D3.ex1 (bind1 e) λl _ e=>?_
 exact HD h l δ o e
theorem RX{fx:FXW}{cs:List Str}{fS:Str->D->FS}(h:∀c d,GoN (fS c d)):GoN (wL i fx cs fS):=λδ o e=>by
 refine D3.ex1 (bind1 e) λW _ e=>?_
 cases W with
 |nx δ'=>cases e;exact⟨_,rfl⟩
 |ex c d Y=>
  dsimp only at e;split at e
  ·refine D3.ex1 (bind1 e) λX V e=>?_
   obtain⟨Z,rfl⟩:=h c d _ X V
   cases e;exact⟨_,rfl⟩
  ·cases e
end
def z8:D->Option D
 | .list l=>if flats l=true then some (.list l)else none
 |_=>none
theorem NZ{X:Cx}{fl:List Fl}{a:Expr}{f:FE}{pos p:Pos}(h:DE X fl .P a f)(U:Gl X "list")(hm:X.mg "list"=none)
 (O:starEach [a] X.env=(false,eval a X.env)::starEach [] X.env:=by rfl) (J:(backTo pos (starEach [] X.env)).any (·.1)=false:=by rfl):DE X fl .FC (.Call (.Name "list" p) [a] [] pos) (dUn z8 f):=
 PE.imp (lD rO U hm cB (f9 h jF O) (by decide) (by decide) O J) λσ H Q h=>by
 refine D3.ex4 h λG ow δ d R V q=>?_
 refine D3.ex1 (bind1 V) λx T Z=>?_
 refine⟨G,ow,δ,x,R,T,λv H1 s1 r1=>?_⟩;unfold z8 at Z;split at Z
 ·next l=>
  by_cases c:flats l=true
  case neg=>rw[if_neg c]at Z;cases Z
  rw[if_pos c]at Z
  cases Z;have r1:RA X.K ok1 true H1 v (.list l):=r1;obtain⟨p,xs,rfl,hx,W⟩:=r1.lstE;exact⟨p,xs,rfl,.inl hx,λpn Y=>q _ _ (s1.trans (cN Y _)) (.inr ⟨pn,xs,l,rfl,rfl,s1.free Y,bG,(RAs.flat c W).same (cN Y _)⟩)⟩
 ·cases Z
abbrev Yw(X:Cx)(i:Nat)(n f:Str)(a:Addr)(oa:Obj)(dx:Addr)(od:Obj)(v:V):Prop:=∀p1 pos,PE (XC.gG X a oa dx od) (.Attribute (.Name n p1) f pos) (λσ H Q=>σ[i]? = some (some (.ref a))/\Q v H)
theorem JL{X:Cx}{fl:List Fl}{fld:Addr->Str}{c f ic n:Str}{i:Nat}{b0:dy}{suite:List dy}{fS:Str->D->FS}(Z:XC.SuiA X.K X.mg fld c f ic)(hi:X.N[i]? = some n)
 (hs:∀a oa dx od v d,Yw X i n f a oa dx od v->flat d=true->XC.USs (XC.gG X a oa dx od) fl ⟨i,a,v,d⟩ (b0::suite) (fS c d))
 (O:Vis X.env.scope n:=by first|exact Or.inl rfl|exact Or.inr (Or.inl rfl)|exact Or.inr (Or.inr rfl)) (q:(n==("__debug__":Str))=false:=by decide) (J:(n==("__classdict__":Str))=false:=by decide)
 (hb:∀p1,attributeBase (.Name n p1) f X.env (eval (.Name n p1) X.env)=eval (.Name n p1) X.env:=by intro _;rfl):XC.Mf X fl fld c i b0 suite fS c:=by
 obtain⟨C,I0,R,S,mI,At⟩:=Z.ex;exact⟨C,I0,C,by rw[S];exact R,.inl rfl,R.mgC,λa oa dx od u v d V W U Y Q T=>hs a oa dx od v d (λp1 pos=>XC.Yh At V W U (by rw[S]at Y;exact Y) Q hi O q J (hb p1)) T⟩
theorem RZ{X:Cx}{fl:List Fl}{f n:Str}{i:Nat}{a dx:Addr}{oa od:Obj}{v:V}{d:D}(S:Yw X i n f a oa dx od v){p1 pos:Pos}:XC.UE (XC.gG X a oa dx od) fl ⟨i,a,v,d⟩ .FC (.Attribute (.Name n p1) f pos) (dC d):=PE.imp (S p1 pos) λσ H Q h=>by
 obtain⟨G,ow,δ,x,R,A,Z,q⟩:=h
 cases Z;exact⟨A.sl,q v H (Same.refl H) (.inl ⟨A.fl,A.ra⟩)⟩
end XI
namespace D3
end D3
namespace D3
open L2 My
section
variable{X:Cx}{fl:List Fl}{e a b:Expr}{es:List Expr}{f fa fb:FE}{fr:FA}{k:Kd}{pos:Pos}
theorem vA(i:Nat){x:Str}(q:fl[i]? = some .A:=by rfl)(O:X.N[i]? = some x:=by rfl)(J:Vis X.env.scope x:=by first|exact Or.inl rfl|exact Or.inr (Or.inl rfl)|exact Or.inr (Or.inr rfl))(hd:(x==("__debug__":Str))=false:=by decide)
 (hcd:(x==("__classdict__":Str))=false:=by decide):DE X fl .A (.Name x pos) (aB i):=yZ i q O J hd hcd
theorem vP(i:Nat){x:Str}(q:fl[i]? = some .A:=by rfl)(O:X.N[i]? = some x:=by rfl)(J:Vis X.env.scope x:=by first|exact Or.inl rfl|exact Or.inr (Or.inl rfl)|exact Or.inr (Or.inr rfl))(hd:(x==("__debug__":Str))=false:=by decide)
 (hcd:(x==("__classdict__":Str))=false:=by decide):DE X fl .P (.Name x pos) (aB i):=iG (yZ i q O J hd hcd)
theorem vB(i:Nat){x:Str}(q:fl[i]? = some .A:=by rfl)(O:X.N[i]? = some x:=by rfl)(J:Vis X.env.scope x:=by first|exact Or.inl rfl|exact Or.inr (Or.inl rfl)|exact Or.inr (Or.inr rfl))(hd:(x==("__debug__":Str))=false:=by decide)
 (hcd:(x==("__classdict__":Str))=false:=by decide):DE X fl (.B []) (.Name x pos) (aB i):=oW (yZ i q O J hd hcd)
theorem iP{i j pos}:DE X fl .P (.Constant (.int i) j pos) (dC (.int i)):=bD K9
theorem iC{i j pos}:DE X fl .C (.Constant (.int i) j pos) (dC (.int i)):=gF K9
theorem dz:DB X fl k [] bN:=Vv
theorem dq(h:DE X fl k e f)(J:DB X fl k es fr)(O:isR k=true:=by rfl)(q:starEach (e::es) X.env=(false,eval e X.env)::starEach es X.env:=by exact iB rfl):DB X fl k (e::es) (aD f fr):=QK O h J q
theorem dx{L:List Nat}(ha:DE X fl (.B L) a fa)(hb:DE X fl .P b fb)(q:rN b:=by exact λ_ _=>rfl):DE X fl .A (.Subscript a b pos) (dOp gIx fa fb):=X6 ha hb q
theorem sA{i:Nat}{x:Str}{pos':Pos}(Y:X.N.Nodup)(h:DE X fl .A e f)(J:fl[i]? = some .A:=by rfl)(hi:X.N[i]? = some x:=by rfl)(O:X.env.scope.names.lookup x=some .local\/X.env.scope.names.lookup x=some .cell:=by first|exact Or.inl rfl|exact Or.inr rfl)
 (U:swapsWith e (some (.Name x pos')) pos.line X.env=pure false:=by rfl) (q:X.fn x=true\/X.env.scope.names.lookup x=some .local:=by first|exact .inl rfl|exact .inr rfl) :
 DS1 X fl (.Assign [.Name x pos'] e pos) (cG i f):=QH J Y hi O h U q
theorem gN'{i:Nat}{x:Str}{pos:Pos}(U:X.N.Nodup)(J:fl[i]? = some .A:=by rfl)(hi:X.N[i]? = some x:=by rfl)(O:X.env.scope.names.lookup x=some .local\/X.env.scope.names.lookup x=some .cell:=by first|exact Or.inl rfl|exact Or.inr rfl)
 (q:X.fn x=true\/X.env.scope.names.lookup x=some .local:=by first|exact .inl rfl|exact .inr rfl):DG X fl [i] (.Name x pos) (gNl i):=QJ J U hi O q
end
theorem fsc{N P:List Str}{sc:er}(a:sc.kind = .function:=by rfl)(b:sc.isCoroutine=false:=by rfl)(c:sc.isGenerator=false:=by rfl)(d:N.Nodup:=by decide +kernel)(e:N.take P.length=P:=by rfl)(f:∀x∈P,sc.names.lookup x=some .local\/sc.names.lookup x=some .cell:=by decide +kernel)(g:∀y∈sc.names,y.2 ≠ .free:=by decide +kernel):FnScope N P sc:=⟨a,b,c,d,e,f,g⟩
end D3
namespace D3
def qS(o:Option Oc)(b:FS):Option Oc:=o.bind λo=>match o with
 | .nx δ'=>b δ'
 |o=>some o
def qI(o:Option Bool)(a b:FS)(δ:DS):Option Oc:=o.bind λt=>if t=true then a δ else b δ
noncomputable def qO(g:D->D->Option D)(a b:Option D):Option D:=a.bind λx=>b.bind λy=>g x y
def qU(g:D->Option D)(a:Option D):Option D:=a.bind g
def qC(a:Option D)(r:Option (List D)):Option (List D):=a.bind λx=>r.bind λr=>some (x::r)
def qF(F:List D->Option D)(l:Option (List D)):Option D:=l.bind F
def qR(a:Option D):Option Oc:=a.bind λd=>some (.rt d)
def sX(i:Nat)(a:Option D)(δ:DS):Option Oc:=if i<δ.length then a.bind λd=>some (.nx (δ.set i (some (.d d))))else none
noncomputable def N5(a:Option D)(fb:FE)(δ:DS):Option D:=a.bind λx=>match x with
 | .bool true=>fb δ
 | .bool false=>some (.bool false)
 |_=>none
def qOr(a:Option D)(fb:FE)(δ:DS):Option D:=a.bind λx=>match x with
 | .bool true=>some (.bool true)
 | .bool false=>fb δ
 |_=>none
def qN(a:Option D):Option D:=a.bind λx=>match x with
 | .bool b=>some (.bool (!b))
 |_=>none
def qB(a:Option D):Option Bool:=a.bind λx=>match x with
 | .bool b=>some b
 |_=>none
def qTA(a:Option Bool)(b:FT)(δ:DS):Option Bool:=a.bind λx=>if x=true then b δ else some false
def qTO(a:Option Bool)(b:FT)(δ:DS):Option Bool:=a.bind λx=>if x=true then some true else b δ
def qTN(a:Option Bool):Option Bool:=a.map λx=>!x
def qE(a:Option Bool)(fa fb:FE)(δ:DS):Option D:=a.bind λb=>if b=true then fa δ else fb δ
def qL(a:Option D):Option (List D):=a.bind asList
def Yx(a:Option (List D))(g:FG)(b:FS)(δ:DS):Option Oc:=a.bind λl=>mW g b l δ
def qD(a:Option DS):Option Oc:=a.bind λδ'=>some (.nx δ')
def qG(a:Option D)(g:FG)(δ:DS):Option Oc:=a.bind λd=>(g d δ).bind λδ'=>some (.nx δ')
def qGs(a:Option DS)(r:List D->DS->Option DS)(l:List D):Option DS:=a.bind λδ'=>r l δ'
def qT(a:Option (List D)):Option D:=a.bind λl=>if l.length<=sizeLine then some (.tuple l)else none
def qK(a:Option (List D)):Option D:=a.bind λl=>if l.length<=sizeLine then some (.list l)else none
def qFl(p:D->Bool)(a:Option D):Option D:=a.bind λd=>if p d=true then some d else none
noncomputable def qA(i:Nat)(x a:Option D)(δ:DS):Option Oc:=x.bind λx=>a.bind λd=>match x with
 | .list l=>if l.length<1000000 then some (.nx (δ.set i (some (.d (.list (l++[d]))))))else none
 |_=>none
def qP(i:Nat)(a x k:Option D)(δ:DS):Option Oc:=a.bind λd=>x.bind λx=>k.bind λk=>match x,k with
 | .list l,.int j=>(pIx l.length j).bind λn=>some (.nx (δ.set i (some (.d (.list (l.set n d))))))
 |_,_=>none
def qCh(g':D->D->Option D)(z:Option D)(y:Option D)(fc:FE)(δ:DS):Option D:=z.bind λz=>match z with
 | .bool true=>qO g' y (fc δ)
 | .bool false=>some (.bool false)
 |_=>none
noncomputable def qC0(g g':D->D->Option D)(a b:Option D)(fc:FE)(δ:DS):Option D:=a.bind λx=>b.bind λy=>(g x y).bind λz=>match z with
 | .bool true=>(fc δ).bind λw=>g' y w
 | .bool false=>some (.bool false)
 |_=>none
def qFn(o:Option Oc):Option D:=match o with
 |some (.rt d)=>some d
 |some (.nx _)=>some .none
 |_=>none
def qLs(a:Option (List D)):Option D:=a.bind λr=>some (.list r)
def qCo(a:Option (List D))(g:FG)(c:FT)(e:FE)(t:Nat)(ix:List Nat)(δ:DS):Option D:=a.bind λl=>if l.length<=100000 then(fX g c e (jf t ix δ) l).bind λr=>some (.list r)else none
section
variable{a b:FS}{c c':FT}{fa fb fc:FE}{fr:FA}{δ:DS}{g:D->D->Option D}{h:D->Option D}{F:List D->Option D}{i:Nat}{G:FG}{d:D}
theorem Yy:cP a b δ=qS (a δ) b:=rfl
theorem N6{δ':DS}:qS (some (.nx δ')) b=b δ':=(rfl)
theorem N7:qS (some (.rt d)) b=some (.rt d):=rfl
theorem N8{δ':DS}:qS (some (.bk δ')) b=some (.bk δ'):=rfl
theorem N_{δ':DS}:qS (some (.ct δ')) b=some (.ct δ'):=rfl
theorem Yz:j9 δ=some (.nx δ):=rfl
theorem ad3:sBk δ=some (.bk δ):=rfl
theorem ad4:sCt δ=some (.ct δ):=rfl
theorem ad5:sIf c a b δ=qI (c δ) a b δ:=rfl
theorem Wf:qI (some true) a b δ=a δ:=(rfl)
theorem Wg:qI (some false) a b δ=b δ:=(rfl)
theorem v_op:dOp g fa fb δ=qO g (fa δ) (fb δ):=rfl
theorem Wh{x y:D}:qO g (some x) (some y)=g x y:=(rfl)
theorem ad6:dUn h fa δ=qU h (fa δ):=rfl
theorem Wi{x:D}:qU h (some x)=h x:=(rfl)
theorem Wj:bN δ=some []:=rfl
theorem R3:aD fa fr δ=qC (fa δ) (fr δ):=rfl
theorem JM{x:D}{l:List D}:qC (some x) (some l)=some (x::l):=rfl
theorem Wk:dCall F fr δ=qF F (fr δ):=rfl
theorem Oa{l:List D}:qF F (some l)=F l:=(rfl)
theorem YB:ig fa δ=qR (fa δ):=rfl
theorem R5:qR (some d)=some (.rt d):=rfl
theorem Wl:XM δ=some (.rt .none):=rfl
theorem YC:cG i fa δ=sX i (fa δ) δ:=rfl
theorem ad7:sX (i+12) (some d) δ=if i+12<δ.length then some (.nx (δ.set (i+12) (some (.d d))))else none:=(rfl)
theorem v_c:dC d δ=some d:=rfl
theorem v_and:Jg fa fb δ=N5 (fa δ) fb δ:=rfl
theorem R6:N5 (some (.bool true)) fb δ=fb δ:=(rfl)
theorem R7:N5 (some (.bool false)) fb δ=some (.bool false):=rfl
theorem v_or:dOr fa fb δ=qOr (fa δ) fb δ:=rfl
theorem Wm:qOr (some (.bool true)) fb δ=some (.bool true):=rfl
theorem Wn:qOr (some (.bool false)) fb δ=fb δ:=(rfl)
theorem v_not:QB fa δ=qN (fa δ):=rfl
theorem R8{b:Bool}:qN (some (.bool b))=some (.bool (!b)):=rfl
theorem ad8:cI fa δ=qB (fa δ):=rfl
theorem Wo{b:Bool}:qB (some (.bool b))=some b:=rfl
theorem Wq:D3.vH c c' δ=qTA (c δ) c' δ:=rfl
theorem Ob:qTA (some true) c δ=c δ:=(rfl)
theorem Od:qTA (some false) c δ=some false:=rfl
theorem YD:D3.tOr c c' δ=qTO (c δ) c' δ:=rfl
theorem R9:qTO (some true) c δ=some true:=rfl
theorem R_:qTO (some false) c δ=c δ:=(rfl)
theorem Wr:D3.tG c δ=qTN (c δ):=rfl
theorem Oe{b:Bool}:qTN (some b)=some (!b):=rfl
theorem v_ite:dIf c fa fb δ=qE (c δ) fa fb δ:=rfl
theorem Sd:qE (some true) fa fb δ=fa δ:=(rfl)
theorem Sg:qE (some false) fa fb δ=fb δ:=(rfl)
theorem YF:Jh fa δ=qL (fa δ):=rfl
theorem Sh{l:List D}:qL (some (.list l))=some l:=rfl
theorem YG:xH fr G b δ=Yx (fr δ) G b δ:=rfl
theorem Sq{l:List D}:Yx (some l) G b δ=mW G b l δ:=(rfl)
theorem JN:mW G b [] δ=some (.nx δ):=rfl
theorem YH:ab7 fa G δ=qG (fa δ) G δ:=rfl
theorem Ss:qG (some d) G δ=qD (G d δ):=(rfl)
theorem Sv{δ':DS}:qD (some δ')=some (.nx δ'):=rfl
theorem ad9:gNl (i+12) d δ=if i+12<δ.length then some (δ.set (i+12) (some (.d d)))else none:=(rfl)
theorem ae0{n:Nat}{gs:List D->DS->Option DS}{l:List D}:gTn n gs (.tuple l) δ=if l.length=n then gs l δ else none:=(rfl)
theorem YJ:lH [] δ=some δ:=rfl
theorem YK{gs:List D->DS->Option DS}{l:List D}:dH G gs (d::l) δ=qGs (G d δ) gs l:=rfl
theorem Sw{gs:List D->DS->Option DS}{l:List D}{δ':DS}:qGs (some δ') gs l=gs l δ':=(rfl)
theorem YL:dTup fr δ=qT (fr δ):=rfl
theorem Sx{l:List D}:qT (some l)=if l.length<=sizeLine then some (.tuple l)else none:=(rfl)
theorem ae1:mF fr δ=qK (fr δ):=rfl
theorem Ws{l:List D}:qK (some l)=if l.length<=sizeLine then some (.list l)else none:=(rfl)
theorem Wt:jt fa δ=qFl flat (fa δ):=rfl
theorem YM:tM fa δ=qFl fl1 (fa δ):=rfl
theorem Wu{p:D->Bool}:qFl p (some d)=if p d=true then some d else none:=(rfl)
theorem YQ:yV i fa δ=qA i (aB i δ) (fa δ) δ:=rfl
theorem Sy{l:List D}:qA i (some (.list l)) (some d) δ=if l.length<1000000 then some (.nx (δ.set i (some (.d (.list (l++[d]))))))else none:=(rfl)
theorem YS{fk:FE}:ab9 i fk fa δ=qP i (fa δ) (aB i δ) (fk δ) δ:=rfl
theorem SJ{l:List D}{j:Int}:qP i (some d) (some (.list l)) (some (.int j)) δ=(pIx l.length j).bind λn=>some (.nx (δ.set i (some (.d (.list (l.set n d)))))):=(rfl)
theorem SM{g':D->D->Option D}:mG g g' fa fb fc δ=qC0 g g' (fa δ) (fb δ) fc δ:=rfl
theorem JQ{g':D->D->Option D}{x y:D}:qC0 g g' (some x) (some y) fc δ=qCh g' (g x y) (some y) fc δ:=(rfl)
theorem JR{g':D->D->Option D}{y:Option D}:qCh g' (some (.bool true)) y fc δ=qO g' y (fc δ):=(rfl)
theorem JT{g':D->D->Option D}{y:Option D}:qCh g' (some (.bool false)) y fc δ=some (.bool false):=rfl
theorem YT{p q:Nat}{ds:List D}:fnD p q b ds=if ds.length=p then qFn (b (ds.map (λd=>some (.d d))++bK q none))else none:=(rfl)
theorem SN:qFn (some (.rt d))=some d:=rfl
theorem SQ{δ':DS}:qFn (some (.nx δ'))=some .none:=rfl
theorem Wv{t:Nat}{ix:List Nat}:jH fr G c fa t ix δ=qCo (fr δ) G c fa t ix δ:=rfl
theorem Og{t:Nat}{ix:List Nat}{l:List D}:qCo (some l) G c fa t ix δ=if l.length<=100000 then qLs (fX G c fa (jf t ix δ) l)else none:=(rfl)
theorem ae2{l:List D}:qLs (some l)=some (.list l):=rfl
theorem YW:D3.uM δ=some true:=rfl
theorem Ww{r:DS}{x:D}:aB 0 (some (.d x)::r)=some x:=rfl
theorem Wx{r:DS}{y:Option U}:aB (i+1) (y::r)=aB i r:=rfl
theorem ae3{q:Option U}{r:DS}:sX 0 (some d) (q::r)=some (.nx (some (.d d)::r)):=rfl
theorem ae4{q:Option U}{r:DS}:gNl 0 d (q::r)=some (some (.d d)::r):=rfl
theorem ae5{q x1:Option U}{r:DS}:sX 1 (some d) (q::x1::r)=some (.nx (q::some (.d d)::r)):=rfl
theorem ae6{q x1:Option U}{r:DS}:gNl 1 d (q::x1::r)=some (q::some (.d d)::r):=rfl
theorem ae7{q x1 x2:Option U}{r:DS}:sX 2 (some d) (q::x1::x2::r)=some (.nx (q::x1::some (.d d)::r)):=rfl
theorem ae8{q x1 x2:Option U}{r:DS}:gNl 2 d (q::x1::x2::r)=some (q::x1::some (.d d)::r):=rfl
theorem ae9{q x1 x2 x3:Option U}{r:DS}:sX 3 (some d) (q::x1::x2::x3::r)=some (.nx (q::x1::x2::some (.d d)::r)):=rfl
theorem af0{q x1 x2 x3:Option U}{r:DS}:gNl 3 d (q::x1::x2::x3::r)=some (q::x1::x2::some (.d d)::r):=rfl
theorem af2{q x1 x2 x3 J:Option U}{r:DS}:sX 4 (some d) (q::x1::x2::x3::J::r)=some (.nx (q::x1::x2::x3::some (.d d)::r)):=rfl
theorem af3{q x1 x2 x3 J:Option U}{r:DS}:gNl 4 d (q::x1::x2::x3::J::r)=some (q::x1::x2::x3::some (.d d)::r):=rfl
theorem af4{J x1 x2 x3 q O:Option U}{r:DS}:sX 5 (some d) (J::x1::x2::x3::q::O::r)=some (.nx (J::x1::x2::x3::q::some (.d d)::r)):=rfl
theorem af5{J x1 x2 x3 q O:Option U}{r:DS}:gNl 5 d (J::x1::x2::x3::q::O::r)=some (J::x1::x2::x3::q::some (.d d)::r):=rfl
theorem af6{O x1 x2 x3 J q Y:Option U}{r:DS}:sX 6 (some d) (O::x1::x2::x3::J::q::Y::r)=some (.nx (O::x1::x2::x3::J::q::some (.d d)::r)):=rfl
theorem af7{O x1 x2 x3 J q Y:Option U}{r:DS}:gNl 6 d (O::x1::x2::x3::J::q::Y::r)=some (O::x1::x2::x3::J::q::some (.d d)::r):=rfl
theorem af8{Y x1 x2 x3 O J q Z:Option U}{r:DS}:sX 7 (some d) (Y::x1::x2::x3::O::J::q::Z::r)=some (.nx (Y::x1::x2::x3::O::J::q::some (.d d)::r)):=rfl
theorem af9{Y x1 x2 x3 O J q Z:Option U}{r:DS}:gNl 7 d (Y::x1::x2::x3::O::J::q::Z::r)=some (Y::x1::x2::x3::O::J::q::some (.d d)::r):=rfl
theorem ag0{Z x1 x2 x3 Y O J q x8:Option U}{r:DS}:sX 8 (some d) (Z::x1::x2::x3::Y::O::J::q::x8::r)=some (.nx (Z::x1::x2::x3::Y::O::J::q::some (.d d)::r)):=rfl
theorem ag1{Z x1 x2 x3 Y O J q x8:Option U}{r:DS}:gNl 8 d (Z::x1::x2::x3::Y::O::J::q::x8::r)=some (Z::x1::x2::x3::Y::O::J::q::some (.d d)::r):=rfl
theorem ag2{x0 x1 x2 x3 Z Y O J q x9:Option U}{r:DS}:sX 9 (some d) (x0::x1::x2::x3::Z::Y::O::J::q::x9::r)=some (.nx (x0::x1::x2::x3::Z::Y::O::J::q::some (.d d)::r)):=rfl
theorem ag3{x0 x1 x2 x3 Z Y O J q x9:Option U}{r:DS}:gNl 9 d (x0::x1::x2::x3::Z::Y::O::J::q::x9::r)=some (x0::x1::x2::x3::Z::Y::O::J::q::some (.d d)::r):=rfl
theorem YX{x0 x1 x2 x3 x4 x5 Z Y O J q:Option U}{r:DS}:sX 10 (some d) (x0::x1::x2::x3::x4::x5::Z::Y::O::J::q::r)=some (.nx (x0::x1::x2::x3::x4::x5::Z::Y::O::J::some (.d d)::r)):=rfl
theorem YZ{x0 x1 x2 x3 x4 x5 Z Y O J q:Option U}{r:DS}:gNl 10 d (x0::x1::x2::x3::x4::x5::Z::Y::O::J::q::r)=some (x0::x1::x2::x3::x4::x5::Z::Y::O::J::some (.d d)::r):=rfl
theorem Y0{x0 x1 x2 x3 x4 x5 x6 Z Y O q J:Option U}{r:DS}:sX 11 (some d) (x0::x1::x2::x3::x4::x5::x6::Z::Y::O::q::J::r)=some (.nx (x0::x1::x2::x3::x4::x5::x6::Z::Y::O::q::some (.d d)::r)):=rfl
theorem Y4{x0 x1 x2 x3 x4 x5 x6 Z Y O q J:Option U}{r:DS}:gNl 11 d (x0::x1::x2::x3::x4::x5::x6::Z::Y::O::q::J::r)=some (x0::x1::x2::x3::x4::x5::x6::Z::Y::O::q::some (.d d)::r):=rfl
end
section
variable{i j:Int}{l m:List D}{d:D}
theorem Y5:j_ (.int i) (.int j)=some (.int (i+j)):=rfl
theorem Y6:ab8 (.int i) (.int j)=some (.int (i-j)):=rfl
theorem ag4:gLt (.int i) (.int j)=some (.bool (decide (i<j))):=rfl
theorem ag5:gLe (.int i) (.int j)=some (.bool (decide (i<=j))):=rfl
theorem ag6:gGt (.int i) (.int j)=some (.bool (decide (j<i))):=rfl
theorem ag7:gGe (.int i) (.int j)=some (.bool (decide (j<=i))):=rfl
theorem Ul:gEq (.int i) (.int j)=some (.bool (decide (i=j))):=rfl
theorem Y7:gNe (.int i) (.int j)=some (.bool (!decide (i=j))):=rfl
theorem Y8:tQ [.list l]=some (.int l.length):=rfl
theorem Wy:tQ [.tuple l]=some (.int l.length):=rfl
theorem jY:∀ns:List Int,iz (ns.map .int)=some ns
 |[]=>rfl
 |n::r=>by rw[aM,iz,jY r];rfl
theorem Y9:ac1 [.int i]=some (.int (if i<0 then -i else i)):=rfl
theorem Y_:XR [.int i,.int j]=some (.int (if j>i then j else i)):=rfl
theorem Za:Gr [.int i,.int j]=some (.int (if j<i then j else i)):=rfl
theorem Zb:tR (.int i)=some (.int (-i)):=rfl
theorem ag8:gIx (.list l) (.int i)=pAt l i:=(rfl)
theorem Zc:gIx (.tuple l) (.int i)=pAt l i:=(rfl)
theorem Um:KR (.list l) (.list m)=if l.length+m.length<=1000000 then some (.list (l++m))else none:=(rfl)
theorem Oh:rR (.list l)=some (.list l):=rfl
theorem SX:rR (.tuple l)=some (.list l):=rfl
theorem Zd:pAt (d::l) 0=some d:=by
 unfold pAt pIx;rw[if_pos (by decide),if_pos (by simp)];rfl
end
noncomputable def Ze(i j:Nat)(a:Option (List D))(δ:DS):Option Oc:=a.bind λl=>match l with
 |[x,y]=>if i<δ.length/\j<δ.length then some (.nx ((δ.set i (some (.d x))).set j (some (.d y))))else none
 |_=>none
def Uo(a:Option (List D)):Option (List D):=a.bind λl=>match l with
 |[.int j]=>if pY j=true then some (gO 0 j)else none
 |_=>none
def Oi(a:Option (List D)):Option (List D):=a.bind λl=>match l with
 |[.int i,.int j]=>if(pY i&&pY j)=true then some (gO i j)else none
 |_=>none
def qSl(x:Option D)(a b:Option (Option Int)):Option D:=x.bind λx=>a.bind λa=>b.bind λb=>match x with
 | .list l=>some (.list (cuD l a b))
 |_=>none
def qOP(x:Option D):Option (Option Int):=x.bind λx=>match x with
 | .int i=>some (some i)
 |_=>none
def qEn(x:Option D):Option (List D):=x.bind λd=>match d with
 | .list l=>some (oV l)
 |_=>none
section
variable{a b:FS}{fa:FE}{fr:FA}{δ:DS}{i j:Nat}{g:FG}
theorem Zf:ac2 i j fr δ=Ze i j (fr δ) δ:=rfl
theorem S5{x y:D}:Ze i j (some [x,y]) δ=if i<δ.length/\j<δ.length then some (.nx ((δ.set i (some (.d x))).set j (some (.d y))))else none:=(rfl)
theorem Wz:uz fr δ=Uo (fr δ):=rfl
theorem Oj{k:Int}(h : -(2^62)<=k)(h2:k<2^62):Uo (some [.int k])=some (gO 0 k):=by
 show(if pY k=true then some (gO 0 k)else none)=_;rw[if_pos];unfold pY;rw[dTr h,dTr h2];rfl
theorem WD:Gp fr δ=Oi (fr δ):=rfl
theorem Zg{i k:Int}(h : -(2^62)<=k)(h2:k<2^62)(h3 : -(2^62)<=i)(h4:i<2^62):Oi (some [.int i,.int k])=some (gO i k):=by
 show(if(pY i&&pY k)=true then some (gO i k)else none)=_;rw[if_pos];unfold pY;rw[dTr h,dTr h2,dTr h3,dTr h4];rfl
theorem ag9{lo hi:FO}:dSl fa lo hi δ=qSl (fa δ) (lo δ) (hi δ):=rfl
theorem WK{l:List D}{p r:Option Int}:qSl (some (.list l)) (some p) (some r)=some (.list (cuD l p r)):=rfl
theorem ah0:KY δ=some none:=rfl
theorem ah1:KZ fa δ=qOP (fa δ):=rfl
theorem WL{k:Int}:qOP (some (.int k))=some (some k):=rfl
theorem WM:Gs fa δ=qEn (fa δ):=rfl
theorem Ol{l:List D}:qEn (some (.list l))=some (oV l):=rfl
theorem vm(Inv:Nat->DS->Prop):∀(l:List D)(δ:DS),Inv 0 δ->(∀i d δ,l[i]? = some d->Inv i δ->∃q δ',g d δ=some q/\(b q=some (.nx δ')\/b q=some (.ct δ'))/\Inv (i+1) δ')->∃δ',mW g b l δ=some (.nx δ')/\Inv l.length δ':=by
 have V:∀(l:List D)(k:Nat)(δ:DS),Inv k δ->(∀i d δ,l[i]? = some d->Inv (k+i) δ->∃q δ',g d δ=some q/\(b q=some (.nx δ')\/b q=some (.ct δ'))/\Inv (k+i+1) δ')->∃δ',mW g b l δ=some (.nx δ')/\Inv (k+l.length) δ':=by
  intro l
  induction l with
  |nil=>exact λk δ h _=>⟨δ,rfl,h⟩
  |cons d r U=>
   intro k δ h X;obtain⟨q,δ',S,Y,T⟩:=X 0 d δ rfl h;obtain⟨W,e4,e5⟩:=U (k+1) δ' T λi R Z hd hi=>by
    have:=X (i+1) R Z (by simpa using hd) (by rwa[show k+(i+1)=k+1+i by omega]);rwa[show k+(i+1)+1=k+1+i+1 by omega]at this
   refine⟨W,?_,by rwa[aW,show k+(r.length+1)=k+1+r.length by omega]⟩;rw[mW,S,aj];rcases Y with Y|Y
   ·rwa[Y]
   ·rwa[Y]
 intro l δ h X;have:=V l 0 δ h λi d δ hd hi=>by
  have:=X i d δ hd (by rw[jE]at hi;exact hi);rwa[jE]
 rwa[jE]at this
end
def qX(a:Option D)(δ:DS):Option Oc:=a.bind λ_=>some (.nx δ)
theorem WQ{fa:FE}{δ:DS}:yh fa δ=qX (fa δ) δ:=rfl
theorem Om{d:D}{δ:DS}:qX (some d) δ=some (.nx δ):=rfl
theorem Oo{g g' q:D->D->Option D}{fa fb fc fd:FE}{δ:DS}:Gq g g' q fa fb fc fd δ=N5 (qO g (fa δ) (fb δ)) (mG g' q fb fc fd) δ:=by
 unfold Gq N5 mG qO
 cases fa δ with
 |none=>rfl
 |some x=>cases fb δ<;>rfl
def qZ(a b:Option D):Option (List D):=a.bind λd=>b.bind λe=>match d,e with
 | .list l,.list m=>some (qt l m)
 |_,_=>none
theorem Zh{f g:FE}{δ:DS}:ac3 f g δ=qZ (f δ) (g δ):=rfl
theorem S6{l m:List D}:qZ (some (.list l)) (some (.list m))=some (qt l m):=rfl
theorem ah2{fa:FE}{δ:DS}:dN1 fa δ=qFl (λd=>decide (nl d<=1)) (fa δ):=rfl
theorem Zi:flat .none=true:=rfl
theorem ah3{b:Bool}:flat (.bool b)=true:=rfl
theorem f_int{i:Int}:flat (.int i)=true:=rfl
theorem Zj{x:Str}:flat (.str x)=true:=rfl
theorem Zk{l:List D}:flat (.list l)=false:=rfl
theorem f_tup{l:List D}:flat (.tuple l)=flats l:=rfl
theorem Zm:flats []=true:=rfl
theorem WR{d:D}{l:List D}:flats (d::l)=(flat d&&flats l):=rfl
theorem WT:fl1 .none=true:=rfl
theorem Zn{b:Bool}:fl1 (.bool b)=true:=rfl
theorem WW{i:Int}:fl1 (.int i)=true:=rfl
theorem WX{x:Str}:fl1 (.str x)=true:=rfl
theorem WY{l:List D}:fl1 (.list l)=flats l:=rfl
theorem W0{l:List D}:fl1 (.tuple l)=flats l:=rfl
theorem ah4{c:String}{i:Int}:gIs c (.int i)=some (.bool (isT c (tyD (.int i)))):=rfl
theorem Zo{c:String}{x:Str}:gIs c (.str x)=some (.bool (isT c (tyD (.str x)))):=rfl
theorem Zq{d:D}:Ji d=some (.bool (isNone d)):=rfl
theorem W2{d:D}:XQ d=some (.bool (!isNone d)):=rfl
theorem Zr:isNone .none=true:=rfl
theorem ah5{b:Bool}:isNone (.bool b)=false:=rfl
theorem Zt{i:Int}:isNone (.int i)=false:=rfl
theorem Zu{x:Str}:isNone (.str x)=false:=rfl
theorem Zv{l:List D}:isNone (.list l)=false:=rfl
theorem Zw{l:List D}:isNone (.tuple l)=false:=rfl
theorem Zx{l:List (D×D)}:isNone (.dict l)=false:=rfl
end D3
local macro_rules|`(tactic|simp![$xs,*]$[$l:location]?)=>do let a←("D3.Zo D3.Zi D3.ah3 D3.f_int D3.Zj D3.Zk D3.f_tup D3.Zm D3.WR D3.WT D3.Zn D3.WW D3.WX D3.WY D3.W0 D3.ah4 D3.Zq D3.W2 D3.Zr D3.ah5 D3.Zt D3.Zu D3.Zv D3.Zw D3.Zx List.length_cons List.length_nil List.map_cons List.map_nil List.replicate_succ List.replicate_zero List.cons_append List.nil_append List.append_nil List.set_cons_zero List.set_cons_succ Nat.zero_add if_true decide_true decide_false Int.cast_ofNat_Int Bool.not_true Bool.not_false Bool.and_self D3.ae3 D3.ae4 D3.ae5 D3.ae6 D3.ae7 D3.ae8 D3.ae9 D3.af0 D3.af2 D3.af3 D3.af4 D3.af5 D3.af6 D3.af7 D3.af8 D3.af9 D3.ag0 D3.ag1 D3.ag2 D3.ag3 D3.YX D3.YZ D3.Y0 D3.Y4 D3.ah2 D3.Zh D3.S6 D3.WQ D3.Om D3.Oo D3.Yy D3.N6 D3.N7 D3.N8 D3.N_ D3.Yz D3.ad3 D3.ad4 D3.ad5 D3.Wf D3.Wg D3.v_op D3.Wh D3.ad6 D3.Wi D3.Wj D3.R3 D3.JM D3.Wk D3.Oa D3.YB D3.R5 D3.Wl D3.YC D3.ad7 D3.v_c D3.v_and D3.R6 D3.R7 D3.v_or D3.Wm D3.Wn D3.v_not D3.R8 D3.ad8 D3.Wo D3.Wq D3.Ob D3.Od D3.YD D3.R9 D3.R_ D3.Wr D3.Oe D3.v_ite D3.Sd D3.Sg D3.YF D3.Sh D3.YG D3.Sq D3.JN D3.YH D3.Ss D3.Sv D3.ad9 D3.ae0 D3.YJ D3.YK D3.Sw D3.YL D3.Sx D3.ae1 D3.Ws D3.Wt D3.YM D3.Wu D3.YQ D3.Sy D3.YS D3.SJ D3.SM D3.JR D3.JT D3.YT D3.SN D3.SQ D3.Wv D3.Og D3.ae2 D3.JQ D3.YW D3.Ww D3.Wx D3.Y5 D3.Y6 D3.ag4 D3.ag5 D3.ag6 D3.ag7 D3.Ul D3.Y7 D3.Y8 D3.Wy D3.Y9 D3.Y_ D3.Za D3.Zb D3.ag8 D3.Zc D3.Um D3.Oh D3.SX D3.Zd D3.Zf D3.S5 D3.Wz D3.WD D3.ag9 D3.WK D3.ah0 D3.ah1 D3.WL D3.WM D3.Ol Int.reduceEq Int.reduceLE Int.reduceLT Nat.reduceAdd Nat.reduceEqDiff Nat.reduceLT Nat.reduceLeDiff reduceIte".splitOn " ").toArray.mapM λs=>`(Lean.Parser.Tactic.simpLemma|$(Lean.mkIdent s.toName):ident);`(tactic|simp only[$a,*,$xs,*]$[$l]?)
namespace My
noncomputable def uJ(ns:List Int)(i:Int):Int:=
 if i<(ns.length:Int)then ns.getD i.toNat 0%1000000007
 else if ns=[]then 7919*i+5000011
 else ns.getD (i*7%(ns.length:Int)).toNat 0%1000000007+7919*i
def divs(n:Int):Nat->Int
 |0=>n
 |k+1=>divs n k/1000003
noncomputable def HJ(c i k m:Int):Int:=
 (((c+65537*i+3)*(1299709+15485863*k)%2147483629*((c+65537*i+3)*(1299709+15485863*k)%2147483629)%1500450271+104729) *
  ((c+65537*i+3)*(1299709+15485863*k)%2147483629*((c+65537*i+3)*(1299709+15485863*k)%2147483629)%1500450271+104729))%715827883/64%m
def fY(ns:List Int)(i k m:Int):Int:=
 if i<(ns.length:Int)/\10^40<=ns.getD i.toNat 0/\0<divs (ns.getD i.toNat 0) k.toNat then divs (ns.getD i.toNat 0) k.toNat%1000003%m
 else HJ (uJ ns i) i k m
theorem jx(ns:List Int)(i k:Int){m:Int}(h:0<m):0<=fY ns i k m/\fY ns i k m<m:=by
 unfold fY HJ;split
 ·exact⟨kO _ (by omega),jj _ h⟩
 ·exact⟨kO _ (by omega),jj _ h⟩
theorem JV{ns:List Int}{i k m:Int}(h1:i<(ns.length:Int))(h2:10^40<=ns.getD i.toNat 0)(h3:0<divs (ns.getD i.toNat 0) k.toNat):
 fY ns i k m=divs (ns.getD i.toNat 0) k.toNat%1000003%m:=by
 unfold fY;rw[if_pos ⟨h1,h2,h3⟩]
theorem qQ{ns:List Int}{i k m:Int}(h:¬(i<(ns.length:Int)/\10^40<=ns.getD i.toNat 0/\0<divs (ns.getD i.toNat 0) k.toNat)):
 fY ns i k m=HJ (uJ ns i) i k m:=by
 unfold fY;rw[if_neg h]
end My
namespace Com
open D3
def jm:List D->Option D:=fnD 1 0 (ig (Jg (dUn (gIs "int") (aB 0)) (QB (dUn (gIs "bool") (aB 0)))))
def gA:List D->Option D:=fnD 2 0 (cP (sIf (cI (dOp gLt (aB 1) (dCall tQ (aD (aB 0) (bN))))) (ig (dOp oK (dOp gIx (aB 0) (aB 1)) (dC (.int 1000000007)))) (j9))
    (cP (sIf (cI (dOp gEq (aB 0) (mF (bN)))) (ig (dOp j_ (dOp nW (dC (.int 7919)) (aB 1)) (dC (.int 5000011)))) (j9))
    (ig (dOp j_ (dOp oK (dOp gIx (aB 0) (dOp oK (dOp nW (aB 1) (dC (.int 7))) (dCall tQ (aD (aB 0) (bN))))) (dC (.int 1000000007))) (dOp nW (dC (.int 7919)) (aB 1))))))
def bY:List D->Option D:=fnD 4 2 (cP (sIf (D3.vH (cI (dOp gLt (aB 1) (dCall tQ (aD (aB 0) (bN))))) (cI (dOp gGe (dOp gIx (aB 0) (aB 1)) (dOp Vq (dC (.int 10)) (dC (.int 40)))))) (cP (cG 4 (dOp gIx (aB 0) (aB 1)))
    (cP (xH (uz (aD (aB 2) (bN))) (gNl 5) (cG 4 (dOp Bf (aB 4) (dC (.int 1000003)))))
    (sIf (cI (dOp gGt (aB 4) (dC (.int 0)))) (ig (dOp oK (dOp oK (aB 4) (dC (.int 1000003))) (aB 3))) (j9)))) (j9))
    (cP (cG 4 (dOp oK (dOp nW (dOp j_ (dOp j_ (dCall gA (aD (aB 0) (aD (aB 1) (bN)))) (dOp nW (dC (.int 65537)) (aB 1))) (dC (.int 3))) (dOp j_ (dC (.int 1299709)) (dOp nW (dC (.int 15485863)) (aB 2)))) (dC (.int 2147483629))))
    (cP (cG 4 (dOp j_ (dOp oK (dOp nW (aB 4) (aB 4)) (dC (.int 1500450271))) (dC (.int 104729))))
    (ig (dOp oK (dOp Bf (dOp oK (dOp nW (aB 4) (aB 4)) (dC (.int 715827883))) (dC (.int 64))) (aB 3))))))
def fU:List D->Option D:=fnD 1 0 (ig (Jg (dUn (gIs "int") (aB 0)) (QB (dUn (gIs "bool") (aB 0)))))
def gH:List D->Option D:=fnD 3 1 (cP (cG 3 (dOp gIx (mF (aD (mF (aD (dC (.int 1)) (aD (dC (.int 2)) (aD (dC (.int 3)) (aD (dC (.int 4)) (bN)))))) (aD (mF (aD (dC (.int 1)) (aD (dC (.int 1)) (aD (dC (.int 2)) (aD (dC (.int 2)) (bN)))))) (aD (mF (aD (dC (.int 2)) (aD (dC (.int 3)) (aD (dC (.int 3)) (aD (dC (.int 4)) (bN)))))) (aD (mF (aD (dC (.int 1)) (aD (dC (.int 2)) (aD (dC (.int 2)) (aD (dC (.int 3)) (bN)))))) (bN)))))) (dCall bY (aD (aB 0) (aD (aB 1) (aD (dC (.int 1)) (aD (dC (.int 4)) (bN))))))))
    (ig (jH (uz (aD (dCall bY (aD (aB 0) (aD (aB 1) (aD (dC (.int 0)) (aD (dOp j_ (aB 2) (dC (.int 1))) (bN)))))) (bN))) (gNl 0) (uM) (jt (dOp gIx (aB 1) (dCall bY (aD (aB 2) (aD (dOp j_ (aB 3) (dC (.int 1))) (aD (aB 0) (aD (dC (.int 4)) (bN)))))))) 1 [3,0,1])))
def dX:List D->Option D:=fnD 3 0 (ig (jH (Gs (aB 0)) (gTn 2 (dH (gNl 0) (dH (gNl 1) (lH)))) (D3.vH (cI (dOp gGe (aB 1) (aB 2))) (cI (dOp sE (aB 0) (aB 3)))) (jt (aB 0)) 2 [2,1]))
def dD:List D->Option D:=fnD 3 0 (ig (G5 (aD (jH (BJ (aB 1)) (gNl 0) (cI (dOp gGe (dOp gIx (aB 3) (aB 0)) (aB 2))) (dOp v8 (aB 1) (aB 0)) 1 [1,2,0]) (bN)) (aB 2)))
def gJ:List D->Option D:=fnD 3 2 (cP (cG 3 (mF (aD (aB 2) (bN))))
    (cP (tO (cI (dOp gEq (dCall dX (aD (aB 0) (aD (aB 1) (aD (dOp gIx (aB 3) (dUn tR (dC (.int 1)))) (bN))))) (mF (bN)))) (cP (cG 4 (dCall dD (aD (aB 0) (aD (aB 1) (aD (dOp gIx (aB 3) (dUn tR (dC (.int 1)))) (bN))))))
    (cP (sIf (cI (dOp gGe (aB 4) (dOp gIx (aB 3) (dUn tR (dC (.int 1)))))) (ig (dC (.none))) (j9))
    (yV 3 (aB 4)))))
    (ig (tM (aB 3)))))
def dG:List D->Option D:=fnD 4 0 (ig (jt (dOp gIx (jH (Jh (dCall v9 (aD (aB 1) (bN)))) (gNl 0) (D3.vH (cI (dOp gGe (dOp gIx (aB 3) (aB 0)) (aB 1))) (cI (dOp gEq (dOp v8 (aB 4) (aB 0)) (aB 2)))) (jt (aB 0)) 1 [2,3,0,1]) (dC (.int 0)))))
def jo:List D->Option D:=fnD 3 5 (cP (cG 3 (dOp gIx (dCall dX (aD (aB 0) (aD (aB 1) (aD (dOp gIx (aB 2) (dUn tR (dC (.int 1)))) (bN))))) (dC (.int 0))))
    (cP (cG 4 (mF (bN)))
    (cP (xH (QC (dOp BK (aB 2) (dSl (aB 2) (KZ (dC (.int 1))) KY))) (gTn 2 (dH (gNl 5) (dH (gNl 6) (lH)))) (cP (cG 7 (dCall dG (aD (aB 0) (aD (aB 1) (aD (aB 5) (aD (aB 6) (bN)))))))
    (cP (yV 4 (dTup (aD (aB 7) (aD (aB 3) (bN)))))
    (cG 3 (aB 7)))))
    (ig (dTup (aD (tM (aB 4)) (aD (jt (aB 3)) (bN))))))))
def iK:List D->Option D:=fnD 3 0 (ig (dCall Eh (aD (jH (Gs (aB 0)) (gTn 2 (dH (gNl 0) (dH (gNl 1) (lH)))) (cI (dOp gGe (aB 1) (aB 2))) (dOp gGe (wg (aB 3) (aB 0) (dC (.int 0))) (aB 2)) 2 [2,1]) (bN))))
def gM:List D->Option D:=fnD 3 2 (cP (cG 3 (tM (dCall gJ (aD (aB 0) (aD (aB 1) (aD (aB 2) (bN)))))))
    (cP (sIf (cI (dUn Ji (aB 3))) (ig (dTup (aD (dC (.str "full")) (aD (dCall Bg (aD (jH (Gp (aD (dC (.int 1)) (aD (dOp j_ (aB 2) (dC (.int 1))) (bN)))) (gNl 0) (cI (dCall iK (aD (aB 1) (aD (aB 2) (aD (aB 0) (bN)))))) (jt (aB 0)) 1 [0,1]) (bN))) (bN))))) (j9))
    (cP (cG 4 (dN1 (dCall jo (aD (aB 0) (aD (aB 1) (aD (aB 3) (bN)))))))
    (ig (dTup (aD (dC (.str "in")) (aD (dOp gIx (aB 4) (dC (.int 0))) (aD (dOp gIx (aB 4) (dC (.int 1))) (aD (tM (aB 3)) (bN))))))))))
def cX:List D->Option D:=fnD 3 0 (ig (Jg (dCall jm (aD (aB 0) (bN))) (mG gLe gLe (aB 1) (aB 0) (aB 2))))
end Com
namespace Com
open D3 My
theorem kE{ns:List Int}{i:Int}(q:0<=i)(h1:i<ns.length):pAt (ns.map da) i=some (.int (ns.getD i.toNat 0)):=by
 unfold pAt pIx;rw[ak,if_pos q,if_pos h1,aj,aO];have h:i.toNat<ns.length:=by omega
 rw[aF h];simp[List.getD,h]
theorem sY{l:List D}{k:Nat}:pAt l (k:Int)=l[k]?:=by
 unfold pAt pIx;rw[if_pos (by omega)];by_cases h:k<l.length
 ·rw[if_pos (by omega),aj];simp
 ·rw[if_neg (by omega),bA (by omega)];rfl
theorem at0{a:D}{l:List D}:pAt (a::l) 0=some a:=sY (k:=0)
theorem at1{a b:D}{l:List D}:pAt (a::b::l) 1=some b:=sY (k:=1)
theorem xP{i j:Int}(h:0<j):oK (.int i) (.int j)=some (.int (i%j)):=by
 show(if decide (j≠0)=true then some (da (i.fmod j))else none)=_;rw[if_pos (dTr (by omega)),Int.fmod_eq_emod_of_nonneg i (by omega)]
theorem Oq{j:Int}(h:j.natAbs<2^64):j.natAbs<2^9000:=bQ h (Nat.pow_le_pow_right (by decide) (by decide))
theorem ah6{i j:Int}(h:0<j)(h2:j.natAbs<2^9000):Bf (.int i) (.int j)=some (.int (i/j)):=by
 show(if Ed i j=true then some (da (i.fdiv j))else none)=_;have e:Ed i j=true:=by
  unfold Ed;rw[aX];exact⟨dTr (by omega),dTr h2⟩
 rw[if_pos e,Int.fdiv_eq_ediv_of_nonneg i (by omega)]
theorem Zy{i j:Int}(h:0<j)(h2:j<18446744073709551616):Bf (.int i) (.int j)=some (.int (i/j)):=ah6 h (Oq (by omega))
theorem mulL{i j:Int}(h1 : -18446744073709551616<i)(h2:i<18446744073709551616):nW (.int i) (.int j)=some (.int (i*j)):=by
 show(if vO i j=true then some (da (i*j))else none)=_;have e:vO i j=true:=by
  unfold vO;rw[dTr (show i.natAbs<2^64 by omega)];rfl
 rw[if_pos e]
theorem mulR{i j:Int}(h1 : -18446744073709551616<j)(h2:j<18446744073709551616):nW (.int i) (.int j)=some (.int (i*j)):=by
 show(if vO i j=true then some (da (i*j))else none)=_;have e:vO i j=true:=by
  unfold vO;rw[dTr (show j.natAbs<2^64 by omega),iT];rfl
 rw[if_pos e]
theorem Uq:Vq (.int 10) (.int 40)=some (.int (10^40)):=rfl
theorem sz{n:Nat}(h:n<=1000000):n<=sizeLine:=aZ h (by decide)
theorem shaped_ints(ns:List Int):dr (.list (ns.map da))=true:=by
 have h1:∀ns:List Int,dL (ns.map da)=true:=λns=>by
  induction ns with
  |nil=>rfl
  |cons a r Z=>simp[dL,dv,Z]
 have h2:∀ns:List Int,di (ns.map da)<=1:=λns=>by
  induction ns with
  |nil=>simp[di]
  |cons a r Z=>simp[di,dQ];omega
 unfold dr;rw[aX];refine⟨by simp[dv,h1],dTr ?_⟩;have:=h2 ns;simp only[dQ];omega
theorem eq_empty(ns:List Int):gEq (.list (ns.map da)) (.list [])=some (.bool (decide (ns=[]))):=by
 unfold gEq;rw[shaped_ints ns]
 cases ns with
 |nil=>rfl
 |cons a r=>rfl
theorem JW{ns:List Int}{i:Int}(q:0<=i):gA [.list (ns.map .int),.int i]=some (.int (uJ ns i)):=by
 unfold gA uJ;by_cases h:i<(ns.length:Int)
 ·rw[if_pos h];simp![lMp,dTr h,kE q h,xP (show(0:Int)<1000000007 by decide)]
 ·rw[if_neg h];by_cases hn:ns=[]
  ·rw[if_pos hn];simp![lMp,dFa h,eq_empty,dTr hn,fL,mulL (show(-18446744073709551616:Int)<7919 by decide) (show(7919:Int)<18446744073709551616 by decide)]
  ·rw[if_neg hn];have X:0<ns.length:=by
    cases ns with
    |nil=>exact absurd rfl hn
    |cons _ _=>simp
   have Y:0<=i*7%(ns.length:Int):=kO _ (by omega);have Z:i*7%(ns.length:Int)<(ns.length:Int):=jj _ (by omega);simp![lMp,dFa h,eq_empty,dFa hn,fL,mulL (show(-18446744073709551616:Int)<7919 by decide) (show(7919:Int)<18446744073709551616 by decide),mulR (show(-18446744073709551616:Int)<7 by decide) (show(7:Int)<18446744073709551616 by decide),xP (show(0:Int)<1000000007 by decide),xP (show(0:Int)<ns.length by omega),kE Y Z]
theorem yL{l:D}{i k m:D}(n:Int):∀(q:List D)(c:Nat)(y:Option U),(∀j∈q,∃x,j = .int x)->∃J,mW (gNl 5) (cG 4 (dOp Bf (aB 4) (dC (.int 1000003)))) q [some (.d l),some (.d i),some (.d k),some (.d m),some (.d (.int (divs n c))),y] =
 some (.nx [some (.d l),some (.d i),some (.d k),some (.d m),some (.d (.int (divs n (c+q.length)))),J])
 |[],c,y,_=>⟨y,rfl⟩
 |j::q,c,y,h=>by
  obtain⟨J,e⟩:=yL (l:=l) (i:=i) (k:=k) (m:=m) n q (c+1) (some (.d j)) λj' Z=>h j' (au _ Z)
  refine⟨J,?_⟩;rw[mW];simp![Zy (show(0:Int)<1000003 by decide) (show(1000003:Int)<18446744073709551616 by decide),aj];rw[show c+(q.length+1)=c+1+q.length by omega,<-e];rfl
theorem JX(lo hi:Int):∀j∈gO lo hi,∃x,j = .int x:=by
 intro j Z;obtain⟨k,_,rfl⟩:=aV.mp Z;exact⟨_,rfl⟩
theorem nD{ns:List Int}{i k m:Int}(q:0<=i)(J:0<=k)(O:k<=1000)(hm:0<m):bY [.list (ns.map .int),.int i,.int k,.int m]=some (.int (fY ns i k m)):=by
 have rest:∀x y:Option U,qFn ((cP (cG 4 (dOp oK (dOp nW (dOp j_ (dOp j_ (dCall gA (aD (aB 0) (aD (aB 1) (bN)))) (dOp nW (dC (.int 65537)) (aB 1))) (dC (.int 3))) (dOp j_ (dC (.int 1299709)) (dOp nW (dC (.int 15485863)) (aB 2)))) (dC (.int 2147483629))))
  (cP (cG 4 (dOp j_ (dOp oK (dOp nW (aB 4) (aB 4)) (dC (.int 1500450271))) (dC (.int 104729))))
  (ig (dOp oK (dOp Bf (dOp oK (dOp nW (aB 4) (aB 4)) (dC (.int 715827883))) (dC (.int 64))) (aB 3))))) [some (.d (.list (ns.map .int))),some (.d (.int i)),some (.d (.int k)),some (.d (.int m)),x,y])=some (.int (HJ (uJ ns i) i k m)):=by
  intro x y;simp![JW q,mulL (show(-18446744073709551616:Int)<65537 by decide) (show(65537:Int)<18446744073709551616 by decide),mulL (show(-18446744073709551616:Int)<15485863 by decide) (show(15485863:Int)<18446744073709551616 by decide),mulR (i:=uJ ns i+65537*i+3) (show(-18446744073709551616:Int)<1299709+15485863*k by omega) (show 1299709+15485863*k<(18446744073709551616:Int)by omega),xP (show(0:Int)<2147483629 by decide)]
  simp only[mulL (show(-18446744073709551616:Int)<(uJ ns i+65537*i+3)*(1299709+15485863*k)%2147483629 by omega) (show(uJ ns i+65537*i+3)*(1299709+15485863*k)%2147483629<(18446744073709551616:Int)by omega)];simp![xP (show(0:Int)<1500450271 by decide)];rw[mulL (by omega) (by omega)];simp![xP (show(0:Int)<715827883 by decide),Zy (show(0:Int)<64 by decide) (show(64:Int)<18446744073709551616 by decide),xP hm];rfl
 unfold bY;rw[YT];simp![];by_cases h:i<(ns.length:Int)
 ·by_cases h2:10^40<=ns.getD i.toNat 0
  ·simp![lMp,dTr h,kE q h,Uq,dTr h2];obtain⟨Z,e⟩:=yL (l:=.list (ns.map .int)) (i:=.int i) (k:=.int k) (m:=.int m) (ns.getD i.toNat 0) (gO 0 k) 0 none (JX 0 k);have Y:0+(gO 0 k).length=k.toNat:=by simp[gO]
   rw[Y]at e;have X:mW (gNl 5) (cG 4 (dOp Bf (aB 4) (dC (.int 1000003)))) (gO 0 k) [some (.d (.list (ns.map .int))),some (.d (.int i)),some (.d (.int k)),some (.d (.int m)),some (.d (.int (ns.getD i.toNat 0))),none] =
    some (.nx [some (.d (.list (ns.map .int))),some (.d (.int i)),some (.d (.int k)),some (.d (.int m)),some (.d (.int (divs (ns.getD i.toNat 0) k.toNat))),Z]):=e
   rw[Oj (by omega) (by omega)];simp![X];by_cases h3:0<divs (ns.getD i.toNat 0) k.toNat
   ·simp![dTr h3,xP (show(0:Int)<1000003 by decide),xP hm];rw[JV h h2 h3]
   ·simp![dFa h3];rw[qQ (λz=>h3 z.2.2)];have:=rest (some (.d (.int (divs (ns.getD i.toNat 0) k.toNat)))) Z;simp![]at this;exact this
  ·simp![lMp,dTr h,kE q h,Uq,dFa h2];rw[qQ (λz=>h2 z.2.1)];have:=rest none none;simp![]at this;exact this
 ·simp![lMp,dFa h];rw[qQ (λz=>h z.1)];have:=rest none none;simp![]at this;exact this
end Com
namespace Com
open D3 My
theorem cEx{α:Type}{g:FG}{c:FT}{e:FE}{δ:DS}(f:α->D)(P:α->Prop):∀l:List D,(∀d∈l,∃q x,g d δ=some q/\c q=some true/\P x/\e q=some (f x))->∃xs:List α,xs.length=l.length/\(∀x∈xs,P x)/\fX g c e δ l=some (xs.map f)
 |[],_=>⟨[],rfl,(λ_ h=>by cases h),rfl⟩
 |d::r,Z=>by
  obtain⟨q,x,U,V,X,W⟩:=Z d aA;obtain⟨xs,l1,h1,e4⟩:=cEx f P r λx hx=>Z x (au _ hx)
  refine⟨x::xs,by simp[l1],λy Y=>?_,?_⟩
  ·rcases aN.mp Y with rfl|z
   ·exact X
   ·exact h1 y z
  ·rw[fX,U,aj,V,aj,if_pos rfl,W,aj,e4];rfl
theorem CZ{α:Type}{g:FG}{c:FT}{e:FE}{δ:DS}(f:α->D)(p:α->Bool)(h:α->D):∀l:List α,(∀s∈l,∃q,g (f s) δ=some q/\c q=some (p s)/\(p s=true->e q=some (h s)))->fX g c e δ (l.map f)=some ((l.filter p).map h)
 |[],_=>rfl
 |s::r,Y=>by
  obtain⟨q,V,W,X⟩:=Y s aA;have Z:=CZ f p h r λx hx=>Y x (au _ hx)
  rw[aM,fX,V,aj,W,aj];by_cases c:p s=true
  ·rw[if_pos c,X c,aj,Z,jR,if_pos c];rfl
  ·rw[if_neg c,Z,jR,if_neg c]
theorem S7{α:Type}{g:FG}{c:FT}{e:FE}{δ:DS}(f:α->D)(h:α->D):∀l:List α,(∀s∈l,∃q,g (f s) δ=some q/\c q=some true/\e q=some (h s))->fX g c e δ (l.map f)=some (l.map h)
 |[],_=>rfl
 |s::r,Z=>by
  obtain⟨q,W,X,Y⟩:=Z s aA;rw[aM,fX,W,aj,X,aj,if_pos rfl,Y,aj,S7 f h r λx hx=>Z x (au _ hx)];rfl
theorem pR{α:Type}(f:α->D)(h:∀a,flat (f a)=true):∀l:List α,flats (l.map f)=true
 |[]=>rfl
 |a::r=>by rw[aM,flats,h,pR f h r];rfl
theorem qW(l:List Int):flats (l.map da)=true:=pR _ (λ_=>rfl) l
theorem at2{a b c:D}{l:List D}:pAt (a::b::c::l) 2=some c:=sY (k:=2)
theorem at3{a b c d:D}{l:List D}:pAt (a::b::c::d::l) 3=some d:=sY (k:=3)
theorem HN{α:Type}(f:α->D){l:List α}{i:Int}(q:0<=i)(h1:i<l.length):∃a∈l,pAt (l.map f) i=some (f a):=by
 have Z:i.toNat<l.length:=by omega
 refine⟨l[i.toNat],iR Z,?_⟩;obtain⟨k,rfl⟩:∃k:Nat,i=(k:Int):=⟨i.toNat,by omega⟩;rw[sY,aO];simp only[jC]at Z ⊢;rw[aF Z];rfl
theorem vo{m:Int}:(gO 0 m).length=m.toNat:=by unfold gO;rw[ak,iy,rD]
theorem S8{m:Int}{d:D}(h:d∈gO 0 m):∃k:Nat,(k:Int)<m/\d = .int (k:Int):=by
 unfold gO at h;obtain⟨k,Z,rfl⟩:=aV.mp h;have:=cA.mp Z;exact⟨k,by omega,by rw[Int.zero_add]⟩
theorem HS(m:Int):gO 0 m=(bH m.toNat).map λk:Nat=>da (k:Int):=by
 unfold gO;rw[rD];apply dF;intro k _;rw[Int.zero_add]
theorem Ot{m:Int}{i:Nat}{d:D}(h:(gO 0 m)[i]? = some d):(i:Int)<m/\d = .int (i:Int):=by
 rw[HS,aO]at h;by_cases hi:i<m.toNat
 ·rw[kY hi]at h
  cases h;exact⟨by omega,rfl⟩
 ·rw[bA (by simpa using hi)]at h
  cases h
theorem ah7{i j:Int}(h:0<j):0<=i%j/\i%j<j:=⟨kO _ (by omega),jj _ h⟩
theorem Zz{l:List D}{k:Int}(h:0<=k):cuD l (some k) none=l.drop k.toNat:=by
 unfold cuD;have e:pSx l.length 0 (some k)=min k.toNat l.length:=by
  show(if k<0 then _ else _)=_;rw[if_neg (by omega)]
 rw[e,show pSx l.length l.length none=l.length from rfl];by_cases c:k.toNat<=l.length
 ·rw[show min k.toNat l.length=k.toNat by omega,List.take_of_length_le (by rw[List.length_drop];omega)]
 ·rw[show min k.toNat l.length=l.length by omega,nO (by omega),nO (by omega)];simp
theorem isList:D3.isT "list" "list"=true:=rfl
mutual
theorem eqv_refl:∀d:D,d.canLay0=true->ef d d=true
 | .none,_=>by simp[ef]
 | .bool b,_=>by simp[ef]
 | .int i,_=>by simp[ef]
 | .str x,_=>by simp[ef]
 | .list l,h=>by
  have:=eqvAll_refl l (by simpa[dv]using h);simpa[ef]using this
 | .tuple l,h=>by
  have:=eqvAll_refl l (by simpa[dv]using h);simpa[ef]using this
 | .dict l,h=>by simp[dv]at h
theorem eqvAll_refl:∀l:List D,dL l=true->PyData.eqvAll l l=true
 |[],_=>by simp[PyData.eqvAll]
 |d::r,h=>by
  rw[dL,aX]at h;rw[PyData.eqvAll,eqv_refl d h.1,eqvAll_refl r h.2];rfl
end
def ly(n:Nat)(d:D):Prop:=d.canLay0=true/\d.depth<=n
def lys(n:Nat)(l:List D):Prop:=dL l=true/\di l<=n
theorem HW{n m:Nat}{d:D}(h:ly n d)(l:n<=m):ly m d:=⟨h.1,aZ h.2 l⟩
theorem S9{n:Nat}:lys n []:=⟨by simp[dL],by simp[di]⟩
theorem Ou{n:Nat}{d:D}{l:List D}(h:ly n d)(q:lys n l):lys n (d::l):=
 ⟨by rw[dL,h.1,q.1];rfl,by have:=h.2;have:=q.2;simp only[di];omega⟩
theorem HX{α:Type}{n:Nat}(f:α->D)(h:∀a,ly n (f a)):∀l:List α,lys n (l.map f)
 |[]=>S9
 |a::r=>Ou (h a) (HX f h r)
theorem S_{n:Nat}{l:List D}(h:lys n l):ly (n+1) (.list l):=⟨by simp[dv,h.1],by have:=h.2;simp only[dQ];omega⟩
theorem W3{n:Nat}{i:Int}:ly (n+1) (.int i):=⟨rfl,by simp[dQ]⟩
theorem um{d:D}(h:ly 60 d):dr d=true:=by
 unfold dr;rw[aX];exact⟨h.1,dTr (by have:=h.2;omega)⟩
theorem eq_self{d:D}(h:ly 60 d):gEq d d=some (.bool true):=by
 unfold gEq;rw[um h,eqv_refl d h.1];rfl
end Com
namespace Com
open D3 My
theorem Ov{qs:List (Int×Int)}{i:Int}:v8 (dcD qs) (.int i)=(eE qs i).map .int:=by
 unfold v8;rw[o8];rfl
theorem Ox{qs:List (Int×Int)}{i:Int}:sE (.int i) (dcD qs)=some (.bool (!(eE qs i).isSome)):=by
 unfold sE;rw[o8];rfl
theorem Tc{qs:List (Int×Int)}(h:qs.length<64):v9 [dcD qs]=some (.list ((jW (qs.map (·.1))).map .int)):=by
 unfold v9;dsimp only;rw[o8,aj,if_pos h]
def qKG(x k z:Option D):Option D:=match x,k,z with
 |some x,some (.int i),some (.int j)=>(oF x).map λqs=>.int ((eE qs i).getD j)
 |_,_,_=>none
theorem Te{fx fk fz:FE}{δ:DS}:wg fx fk fz δ=qKG (fx δ) (fk δ) (fz δ):=by
 unfold wg qKG
 cases fx δ with
 |none=>rfl
 |some x=>
  rw[aj]
  cases fk δ with
  |none=>rfl
  |some k=>
   rw[aj]
   cases fz δ with
   |none=>cases k<;>rfl
   |some z=>
    rw[aj]
    cases k<;>cases z<;>first|(cases oF x<;>rfl;done)|(dsimp only;cases oF x<;>rfl)
theorem JZ{qs:List (Int×Int)}{i j:Int}:qKG (some (dcD qs)) (some (.int i)) (some (.int j))=some (.int ((eE qs i).getD j)):=by
 unfold qKG;dsimp only;rw[o8];rfl
theorem HY{i:Int}:eE [] i=none:=rfl
theorem nF{q:Int×Int}{qs:List (Int×Int)}{i:Int}:eE (q::qs) i=if q.1=i then some q.2 else eE qs i:=by
 unfold eE;rw[kJ];by_cases h:q.1=i
 ·simp[h]
 ·simp[h]
theorem vp{i j:Int}:∀{qs:List (Int×Int)},eE qs i=some j->(i,j)∈qs
 |[],h=>by cases h
 |q::qs,h=>by
  rw[nF]at h;by_cases c:q.1=i
  ·rw[if_pos c]at h
   cases h;rw[<-c];exact aA
  ·rw[if_neg c]at h;exact au _ (vp h)
theorem je{i j:Int}:∀{qs:List (Int×Int)},(qs.map (·.1)).Nodup->(i,j)∈qs->eE qs i=some j
 |[],_,h=>by cases h
 |q::qs,nd,h=>by
  rw[aM,bW]at nd;rw[nF];rcases aN.mp h with z|z
  ·rw[<-z,if_pos rfl]
  ·rw[if_neg (λe=>nd.1 (aV.mpr ⟨_,z,e.symm⟩))];exact je nd.2 z
theorem sZ{qs:List (Int×Int)}{i:Int}:(eE qs i).isSome=true<->i∈qs.map (·.1):=by
 induction qs with
 |nil=>simp[eE]
 |cons q qs Z=>
  rw[nF,aM,aN];by_cases c:q.1=i
  ·rw[if_pos c];simp[c]
  ·rw[if_neg c,Z]
   constructor
   ·exact .inr
   ·rintro(z|z)
    ·exact absurd z.symm c
    ·exact z
structure Gst(rs:List Int)(qs:List (Int×Int)):Prop where
 nd:(qs.map (·.1)).Nodup
 rg:∀q∈qs,0<=q.1/\q.1<rs.length/\1<=q.2/\q.2<=rs.getD q.1.toNat 0
theorem Gst.len{rs:List Int}{qs:List (Int×Int)}(h:Gst rs qs):qs.length<=rs.length:=by
 have h1:(qs.map (·.1)).Nodup:=h.nd;have h2:(qs.map λq=>q.1.toNat).Nodup:=by
  have:(qs.map λq=>q.1.toNat)=(qs.map (·.1)).map Int.toNat:=by rw[bO];rfl
  rw[this];refine List.Pairwise.map _ (λa b Z=>Z) (eB (S:=λa b=>a.toNat≠b.toNat) ?_ h1);intro a b ha hb Z e;obtain⟨q,Y,rfl⟩:=aV.mp ha;obtain⟨r,X,rfl⟩:=aV.mp hb;have:=h.rg q Y;have:=h.rg r X;omega
 have:(qs.map λq=>q.1.toNat) ⊆ bH rs.length:=λx hx=>by
  obtain⟨q,Y,rfl⟩:=aV.mp hx;have:=h.rg q Y;exact cA.mpr (by omega)
 have:=d4 h2 this;simpa using this
theorem Gst.nil(rs:List Int):Gst rs []:=⟨List.nodup_nil,λ_ h=>by cases h⟩
theorem z9(fs:List Int):oV (fs.map .int)=(bH fs.length).map λk:Nat=>dA [.int (k:Int),.int (fs.getD k 0)]:=by
 unfold oV;apply iw;intro i;rw[j8,aO,aO];by_cases h:i<fs.length
 ·have e:fs.getD i 0=fs[i]:=by rw[bL,aF h];rfl
  rw[kY h,aF h,d9,d9,d9,e]
 ·rw[bA (by simpa using h),bA (by simpa using h)];rfl
def frR(rs:List Int)(qs:List (Int×Int))(k:Int):List Nat:=(bH rs.length).filter λr=>decide (k<=rs.getD r 0) && !(eE qs (r:Int)).isSome
theorem nG{rs:List Int}{qs:List (Int×Int)}{k:Int}(q:rs.length<=1000):dX [.list (rs.map .int),dcD qs,.int k]=some (.list ((frR rs qs k).map λr:Nat=>da (r:Int))):=by
 have e:fX (gTn 2 (dH (gNl 0) (dH (gNl 1) (lH)))) (D3.vH (cI (dOp gGe (aB 1) (aB 2))) (cI (dOp sE (aB 0) (aB 3)))) (jt (aB 0)) (jf 2 [2,1] [some (.d (.list (rs.map .int))),some (.d (dcD qs)),some (.d (.int k))]) (oV (rs.map .int))=some ((frR rs qs k).map λr:Nat=>da (r:Int)):=by
  rw[z9];refine CZ (λr:Nat=>dA [.int (r:Int),.int (rs.getD r 0)]) _ (λr:Nat=>da (r:Int)) (bH rs.length) λr Y=>?_
  refine⟨[some (.d (.int (r:Int))),some (.d (.int (rs.getD r 0))),some (.d (.int k)),some (.d (dcD qs))],rfl,?_,λ_=>?_⟩
  ·by_cases c:k<=rs.getD r 0
   ·simp![dTr c,Ox];rfl
   ·simp![dFa c];rfl
  ·simp![]
 have Z:(oV (rs.map .int)).length<=100000:=by rw[z9,ak,iy];omega
 unfold dX;simp![Z,e]
theorem Fx{ns:List Int}{a m:Int}(ha:0<=a)(hm:0<=m)(q:m<=100):∃rs:List Int,gH [.list (ns.map .int),.int a,.int m]=some (.list (rs.map .int))/\(rs.length:Int)<=m/\∀r∈rs,1<=r/\r<=4:=by
 have p1:=jx ns a 1 (m:=4) (by decide);have S:=jx ns a 0 (m:=m+1) (by omega);obtain⟨ks,V,X,Y⟩:∃ks:List Int,pAt ([[1,2,3,4],[1,1,2,2],[2,3,3,4],[1,2,2,3]].map λl:List Int=>eI (l.map .int)) (fY ns a 1 4)=some (.list (ks.map .int))/\(∀r∈ks,1<=r/\r<=4)/\ks.length=4:=by
  obtain⟨ks,hm,e⟩:=HN (λl:List Int=>eI (l.map .int)) (l:=[[1,2,3,4],[1,1,2,2],[2,3,3,4],[1,2,2,3]]) p1.1 (by simpa using p1.2);refine⟨ks,e,?_⟩;simp only[aN,dJ,or_false]at hm;rcases hm with rfl|rfl|rfl|rfl<;>exact⟨by simp,rfl⟩
 obtain⟨rs,h1,h2,h3⟩:=cEx (g:=(gNl 0)) (c:=(D3.uM)) (e:=(jt (dOp gIx (aB 1) (dCall bY (aD (aB 2) (aD (dOp j_ (aB 3) (dC (.int 1))) (aD (aB 0) (aD (dC (.int 4)) (bN))))))))) (δ:=jf 1 [3,0,1] [some (.d (.list (ns.map .int))),some (.d (.int a)),some (.d (.int m)),some (.d (.list (ks.map .int)))]) da (λr=>1<=r/\r<=4) (gO 0 (fY ns a 0 (m+1))) (by
  intro d hd;obtain⟨k,W,rfl⟩:=S8 hd;have p:=jx ns (a+1) (k:Int) (m:=4) (by decide);have U:pAt (ks.map da) (fY ns (a+1) (k:Int) 4)=some (.int (ks.getD (fY ns (a+1) (k:Int) 4).toNat 0)):=kE p.1 (by rw[Y];exact p.2);have hx:ks.getD (fY ns (a+1) (k:Int) 4).toNat 0∈ks:=by
   have Z:(fY ns (a+1) (k:Int) 4).toNat<ks.length:=by rw[Y];omega
   rw[bL,aF Z];exact iR Z
  refine⟨[some (.d (.int (k:Int))),some (.d (.list (ks.map .int))),some (.d (.list (ns.map .int))),some (.d (.int a))],_,rfl,rfl,X _ hx,?_⟩;simp![nD (ns:=ns) (i:=a+1) (k:=(k:Int)) (m:=4) (by omega) (by omega) (by omega) (by decide),U])
 refine⟨rs,?_,?_,h2⟩
 ·unfold gH;have T:(gO 0 (fY ns a 0 (m+1))).length<=100000:=by rw[vo];omega
  have es:pAt [eI [.int 1,.int 2,.int 3,.int 4],.list [.int 1,.int 1,.int 2,.int 2],.list [.int 2,.int 3,.int 3,.int 4],.list [.int 1,.int 2,.int 2,.int 3]] (fY ns a 1 4)=some (.list (ks.map .int)):=V;simp![nD (ns:=ns) (i:=a) (k:=1) (m:=4) ha (by decide) (by decide) (by decide),nD (ns:=ns) (i:=a) (k:=0) (m:=m+1) ha (by decide) (by decide) (by omega),es,sz (show 0+1+1+1+1<=1000000 by decide),sz (show 4<=1000000 by decide),Oj (show -(2^62)<=fY ns a 0 (m+1)by omega) (show fY ns a 0 (m+1)<2^62 by omega),T,h3]
 ·rw[h1,vo];omega
end Com
namespace Com
open D3 My
theorem getD_mem{rs:List Int}{r:Nat}(h:r<rs.length):rs.getD r 0∈rs:=by
 rw[bL,aF h];exact iR h
end Com
namespace Com
open D3 My
theorem Fy{α:Type}(f:α->Bool)(l:List α):Eh [.list (l.map λa=>eh (f a))]=some (.bool (l.all f)):=by
 have:mH (l.map λa=>eh (f a))=some (l.map f):=by
  induction l with
  |nil=>rfl
  |cons a r Z=>rw[aM,mH,Z];rfl
 show(mH (l.map λa=>eh (f a))).map _=_;rw[this,d9,List.all_map];rfl
theorem C_{l:List D}{d:D}:pAt (l++[d]) (-1)=some d:=by
 unfold pAt pIx;rw[bw,g8,if_neg (by decide),if_pos (by omega)];show(l++[d])[(-1+((l.length+1:Nat):Int)).toNat]? = some d;rw[show(-1+((l.length+1:Nat):Int)).toNat=l.length by omega,bV (aP _),Nat.sub_self];rfl
theorem H_{rs:List Int}{i:Int}(q:0<=i)(h1:i<rs.length):pAt (rs.map da) i=some (.int (rs.getD i.toNat 0)):=kE q h1
def qMD(l:Option (List D))(z:Option D):Option D:=match l,z with
 |some [.list m],some z=>match iz m with
  |some (i::r)=>some (.int (mnI i r))
  |some []=>if flat z=true then some z else none
  |none=>none
 |_,_=>none
theorem W4{fa:FA}{fz:FE}{δ:DS}:G5 fa fz δ=qMD (fa δ) (fz δ):=by
 unfold G5 qMD
 cases fa δ with
 |none=>rfl
 |some l=>
  rw[aj]
  cases fz δ with
  |none=>
   match l with
   |[]=>rfl
   |[.list m]=>rfl
   |[.none]=>rfl
   |[.bool _]=>rfl
   |[.int _]=>rfl
   |[.str _]=>rfl
   |[.tuple _]=>rfl
   |[.dict _]=>rfl
   |a::b::r=>cases a<;>rfl
  |some z=>
   rw[aj]
   match l with
   |[]=>rfl
   |[.list m]=>
    dsimp only
    cases e:iz m with
    |none=>rfl
    |some ns=>
     cases ns with
     |nil=>rfl
     |cons i r=>
      dsimp only;unfold K1;dsimp only;rw[e]
   |[.none]=>rfl
   |[.bool _]=>rfl
   |[.int _]=>rfl
   |[.str _]=>rfl
   |[.tuple _]=>rfl
   |[.dict _]=>rfl
   |a::b::r=>cases a<;>rfl
noncomputable def wsR(rs:List Int)(qs:List (Int×Int))(k:Int):List Int:=(qs.filter λq=>decide (k<=rs.getD q.1.toNat 0)).map (·.2)
def lwR(rs:List Int)(qs:List (Int×Int))(k:Int):Int:=match wsR rs qs k with
 |[]=>k
 |i::r=>mnI i r
def qKy(x:Option D):Option (List D):=match x with
 |some x=>(oF x).map λqs=>qs.map λq=>.int q.1
 |none=>none
theorem v_keys{f:FE}{δ:DS}:BJ f δ=qKy (f δ):=by
 unfold BJ qKy
 cases f δ<;>rfl
theorem Oz{qs:List (Int×Int)}:qKy (some (dcD qs))=some (qs.map λq=>.int q.1):=by
 unfold qKy;dsimp only;rw[o8];rfl
theorem qY{rs:List Int}{qs:List (Int×Int)}{k:Int}(G:Gst rs qs)(J:rs.length<=1000):dD [.list (rs.map .int),dcD qs,.int k]=some (.int (lwR rs qs k)):=by
 have e:fX (gNl 0) (cI (dOp gGe (dOp gIx (aB 3) (aB 0)) (aB 2))) (dOp v8 (aB 1) (aB 0)) (jf 1 [1,2,0] [some (.d (.list (rs.map .int))),some (.d (dcD qs)),some (.d (.int k))]) (qs.map λq=>da q.1)=some ((wsR rs qs k).map da):=by
  rw[CZ (λq:Int×Int=>da q.1) (λq=>decide (k<=rs.getD q.1.toNat 0)) (λq=>da q.2) qs λq Z=>?_]
  ·unfold wsR;rw[bO];rfl
  ·obtain⟨Y,g1,g2,g3⟩:=G.rg q Z;have X:=H_ (rs:=rs) Y g1;have V:eE qs q.1=some q.2:=je G.nd Z;refine⟨[some (.d (.int q.1)),some (.d (dcD qs)),some (.d (.int k)),some (.d (.list (rs.map .int)))],rfl,?_,λ_=>?_⟩
   ·simp![X]
   ·simp![Ov,V,d9]
 have W:(qs.map λq=>da q.1).length<=100000:=by rw[ak];have:=G.len;omega
 unfold dD;simp![W4,v_keys,Oz,W,e];unfold lwR qMD;dsimp only;rw[jY]
 cases wsR rs qs k with
 |nil=>rfl
 |cons i r=>rfl
theorem z_{rs:List Int}{qs:List (Int×Int)}{k j:Int}:j∈wsR rs qs k<->∃i,(i,j)∈qs/\k<=rs.getD i.toNat 0:=by
 unfold wsR;rw[aV]
 constructor
 ·rintro⟨q,Z,rfl⟩;obtain⟨h1,h2⟩:=bZ.mp Z;exact⟨q.1,h1,of_decide_eq_true h2⟩
 ·rintro⟨i,h1,h2⟩;exact⟨(i,j),bZ.mpr ⟨h1,dTr h2⟩,rfl⟩
theorem OD{rs:List Int}{qs:List (Int×Int)}{k:Int}(h:lwR rs qs k<k):lwR rs qs k∈wsR rs qs k:=by
 unfold lwR at h ⊢
 cases e:wsR rs qs k with
 |nil=>rw[e]at h;simp at h
 |cons i r=>exact(rT r i).1
theorem ZC{rs:List Int}{qs:List (Int×Int)}{k j:Int}(h:j∈wsR rs qs k):lwR rs qs k<=j:=by
 unfold lwR
 cases e:wsR rs qs k with
 |nil=>rw[e]at h;cases h
 |cons i r=>rw[e]at h;exact(rT r i).2 j h
theorem wO{rs:List Int}{qs:List (Int×Int)}{k:Int}(G:Gst rs qs)(h:lwR rs qs k<k):1<=lwR rs qs k:=by
 obtain⟨i,h1,_⟩:=z_.mp (OD h);exact(G.rg _ h1).2.2.1
inductive Ch(rs:List Int)(qs:List (Int×Int)):Int->List Int->Prop
 |stop {f:Int}:frR rs qs f≠[]->Ch rs qs f []
 |step {f:Int} {r:List Int}:frR rs qs f=[]->lwR rs qs f<f->Ch rs qs (lwR rs qs f) r->Ch rs qs f (lwR rs qs f::r)
inductive Dead(rs:List Int)(qs:List (Int×Int)):Int->Prop
 |here {f:Int}:frR rs qs f=[]->f<=lwR rs qs f->Dead rs qs f
 |step {f:Int}:frR rs qs f=[]->lwR rs qs f<f->Dead rs qs (lwR rs qs f)->Dead rs qs f
theorem Ur{rs:List Int}{qs:List (Int×Int)}(G:Gst rs qs):∀(n:Nat)(f:Int),f.toNat<=n->1<=f->(∃r,Ch rs qs f r)\/Dead rs qs f
 |0,f,h,h1=>by omega
 |n+1,f,h,h1=>by
  by_cases c:frR rs qs f=[]
  ·by_cases Z:lwR rs qs f<f
   ·have:=wO G Z;rcases Ur G n (lwR rs qs f) (by omega) this with⟨r,Y⟩|hd
    ·exact .inl ⟨_,.step c Z Y⟩
    ·exact .inr (.step c Z hd)
   ·exact .inr (.here c (by omega))
  ·exact .inl ⟨[],.stop c⟩
theorem Fz{rs:List Int}{qs:List (Int×Int)}{k:Int}{r:Nat}:r∈frR rs qs k<->r<rs.length/\k<=rs.getD r 0/\eE qs (r:Int)=none:=by
 unfold frR;rw[bZ,cA,aX,decide_eq_true_eq]
 cases eE qs (r:Int)<;>simp
theorem tu(l:List Nat):gEq (.list (l.map λr:Nat=>da (r:Int))) (.list [])=some (.bool (decide (l=[]))):=by
 have:=eq_empty (l.map λr:Nat=>(r:Int));rw[bO]at this;rw[show(l.map λr:Nat=>da (r:Int))=l.map (da∘λr:Nat=>(r:Int))from rfl,this]
 cases l<;>simp
theorem ZD{rs:List Int}{qs:List (Int×Int)}{k0:D}{f:Int}{r:List Int}(G:Gst rs qs)(J:rs.length<=1000)(h:Ch rs qs f r):∀(pre:List Int)(y:Option U),(pre.length:Int)+f<=1000->1<=f ->
 ∃n q,fD (cI (dOp gEq (dCall dX (aD (aB 0) (aD (aB 1) (aD (dOp gIx (aB 3) (dUn tR (dC (.int 1)))) (bN))))) (mF (bN)))) (cP (cG 4 (dCall dD (aD (aB 0) (aD (aB 1) (aD (dOp gIx (aB 3) (dUn tR (dC (.int 1)))) (bN)))))) (cP (sIf (cI (dOp gGe (aB 4) (dOp gIx (aB 3) (dUn tR (dC (.int 1)))))) (ig (dC (.none))) (j9)) (yV 3 (aB 4)))) n [some (.d (.list (rs.map .int))),some (.d (dcD qs)),some (.d k0),some (.d (.list ((pre++[f]).map .int))),y]=some (.nx [some (.d (.list (rs.map .int))),some (.d (dcD qs)),some (.d k0),some (.d (.list ((pre++f::r).map .int))),q]):=by
 induction h with
 |stop c=>
  rename_i f;intro pre y X W;have Z:pAt (pre.map da++[.int f]) (-1)=some (.int f):=C_;refine⟨1,y,?_⟩;rw[fD,bI,aM,cZ];simp![Z,nG J,tu,dFa c,sz (show 0<=1000000 by decide),aj,fB]
 |step c T S Y=>
  rename_i f r;intro pre y X W;have Z:pAt (pre.map da++[.int f]) (-1)=some (.int f):=C_;have p1:=wO G T;obtain⟨n,q,e⟩:=Y (pre++[f]) (some (.d (.int (lwR rs qs f)))) (by rw[bw];simp;omega) p1;refine⟨n+1,q,?_⟩;have V:¬f<=lwR rs qs f:=by omega
  have hlen:(pre.map da++[da f]).length<1000000:=by rw[bw,ak];simp;omega
  rw[fD,bI,aM,cZ];simp![Z,nG J,tu,dTr c,qY G J,dFa V,hlen,sz (show 0<=1000000 by decide),aj];rw[bI,bI,aM,aM,cZ]at e;rw[show pre++f::lwR rs qs f::r=(pre++[f])++lwR rs qs f::r by simp];exact e
theorem Tf{rs:List Int}{qs:List (Int×Int)}{k0:D}{f:Int}(G:Gst rs qs)(q:rs.length<=1000)(h:Dead rs qs f):∀(pre:List Int)(y:Option U),(pre.length:Int)+f<=1000->1<=f ->
 ∃n,fD (cI (dOp gEq (dCall dX (aD (aB 0) (aD (aB 1) (aD (dOp gIx (aB 3) (dUn tR (dC (.int 1)))) (bN))))) (mF (bN)))) (cP (cG 4 (dCall dD (aD (aB 0) (aD (aB 1) (aD (dOp gIx (aB 3) (dUn tR (dC (.int 1)))) (bN)))))) (cP (sIf (cI (dOp gGe (aB 4) (dOp gIx (aB 3) (dUn tR (dC (.int 1)))))) (ig (dC (.none))) (j9)) (yV 3 (aB 4)))) n [some (.d (.list (rs.map .int))),some (.d (dcD qs)),some (.d k0),some (.d (.list ((pre++[f]).map .int))),y]=some (.rt .none):=by
 induction h with
 |here c Y=>
  rename_i f;intro pre y W V;have Z:pAt (pre.map da++[.int f]) (-1)=some (.int f):=C_;refine⟨1,?_⟩;rw[fD,bI,aM,cZ];simp![Z,nG q,tu,dTr c,qY G q,dTr Y,sz (show 0<=1000000 by decide),aj]
 |step c Y S X=>
  rename_i f;intro pre y W V;have Z:pAt (pre.map da++[.int f]) (-1)=some (.int f):=C_;have p1:=wO G Y;obtain⟨n,e⟩:=X (pre++[f]) (some (.d (.int (lwR rs qs f)))) (by rw[bw];simp;omega) p1;refine⟨n+1,?_⟩;have T:¬f<=lwR rs qs f:=by omega
  have hlen:(pre.map da++[da f]).length<1000000:=by rw[bw,ak];simp;omega
  rw[fD,bI,aM,cZ];simp![Z,nG q,tu,dTr c,qY G q,dFa T,hlen,sz (show 0<=1000000 by decide),aj];rw[bI,bI,aM,aM,cZ]at e;exact e
theorem OJ{rs:List Int}{qs:List (Int×Int)}{f:Int}{r:List Int}(G:Gst rs qs)(q:rs.length<=1000)(O:1<=f)(J:f<=900)(h:Ch rs qs f r):gJ [.list (rs.map .int),dcD qs,.int f]=some (.list ((f::r).map .int)):=by
 obtain⟨n,Y,e⟩:=ZD (k0:=.int f) G q h [] none (by simp;omega) O;have Z:=yj e;simp only[oE,aM,cZ]at Z;have fl:flats (da f::r.map da)=true:=qW (f::r);unfold gJ;simp![sz (show 0+1<=1000000 by decide)];rw[Z];simp![fl]
theorem FJ{rs:List Int}{qs:List (Int×Int)}{f:Int}(G:Gst rs qs)(q:rs.length<=1000)(O:1<=f)(J:f<=900)(h:Dead rs qs f):gJ [.list (rs.map .int),dcD qs,.int f]=some .none:=by
 obtain⟨n,e⟩:=Tf (k0:=.int f) G q h [] none (by simp;omega) O;have Z:=yj e;simp only[oE,aM,cZ]at Z;unfold gJ;simp![sz (show 0+1<=1000000 by decide)];rw[Z];simp![]
end Com
namespace Com
open D3 My
def lvR(rs:List Int)(qs:List (Int×Int))(L:Int):Bool:=((bH rs.length).filter λr=>decide (L<=rs.getD r 0)).all λr=>decide (L<=(eE qs ((r:Nat):Int)).getD 0)
theorem Aa{rs:List Int}{qs:List (Int×Int)}{L:Int}:lvR rs qs L=true<->∀r:Nat,r<rs.length->L<=rs.getD r 0->L<=(eE qs (r:Int)).getD 0:=by
 unfold lvR;rw[eY]
 constructor
 ·intro h r Z Y;exact of_decide_eq_true (h r (bZ.mpr ⟨cA.mpr Z,dTr Y⟩))
 ·intro h r Z;obtain⟨h1,h2⟩:=bZ.mp Z;exact dTr (h r (cA.mp h1) (of_decide_eq_true h2))
theorem xQ{rs:List Int}{qs:List (Int×Int)}{L:Int}(q:rs.length<=1000):iK [.list (rs.map .int),dcD qs,.int L]=some (.bool (lvR rs qs L)):=by
 have e:fX (gTn 2 (dH (gNl 0) (dH (gNl 1) (lH)))) (cI (dOp gGe (aB 1) (aB 2))) (dOp gGe (wg (aB 3) (aB 0) (dC (.int 0))) (aB 2)) (jf 2 [2,1] [some (.d (.list (rs.map .int))),some (.d (dcD qs)),some (.d (.int L))]) (oV (rs.map .int))=some (((bH rs.length).filter λr=>decide (L<=rs.getD r 0)).map λr:Nat=>eh (decide (L<=(eE qs ((r:Nat):Int)).getD 0))):=by
  rw[z9];refine CZ (λr:Nat=>dA [.int (r:Int),.int (rs.getD r 0)]) _ (λr:Nat=>eh (decide (L<=(eE qs ((r:Nat):Int)).getD 0))) (bH rs.length) λr Y=>?_
  refine⟨[some (.d (.int (r:Int))),some (.d (.int (rs.getD r 0))),some (.d (.int L)),some (.d (dcD qs))],rfl,?_,λ_=>?_⟩
  ·simp![]
  ·simp![Te,JZ]
 have Z:(oV (rs.map .int)).length<=100000:=by rw[z9,ak,iy];omega
 unfold iK;simp![Z,e,Fy];rfl
theorem FP{rs:List Int}{qs:List (Int×Int)}{f:Int}(G:Gst rs qs)(h:Dead rs qs f):1<=f->∃L,1<=L/\L<=f/\lvR rs qs L=true:=by
 induction h with
 |here c W=>
  rename_i f;intro Y;refine⟨f,Y,gq _,Aa.mpr λr Z X=>?_⟩
  cases e:eE qs (r:Int)with
  |none=>
   have:r∈frR rs qs f:=Fz.mpr ⟨Z,X,e⟩;rw[c]at this
   cases this
  |some j=>
   have:j∈wsR rs qs f:=z_.mpr ⟨(r:Int),vp e,by simpa using X⟩;have:=ZC this;simp;omega
 |step c W Z V=>
  intro Y;obtain⟨L,h1,h2,h3⟩:=V (wO G W);exact⟨L,h1,by omega,h3⟩
theorem O1{rs:List Int}{qs:List (Int×Int)}{f:Int}{r:List Int}(G:Gst rs qs)(h:Ch rs qs f r):∀L,1<=L->L<=f->lvR rs qs L=false:=by
 induction h with
 |stop c=>
  rename_i f;intro L h1 h2;obtain⟨r,Y⟩:=List.exists_mem_of_ne_nil _ c;obtain⟨g1,g2,g3⟩:=Fz.mp Y
  cases e:lvR rs qs L with
  |false=>rfl
  |true=>
   have:=Aa.mp e r g1 (by omega);rw[g3]at this;simp at this;omega
 |step c U Y X=>
  rename_i f r;intro L h1 h2;by_cases W:L<=lwR rs qs f
  ·exact X L h1 W
  ·cases e:lvR rs qs L with
   |false=>rfl
   |true=>
    obtain⟨i,Z,T⟩:=z_.mp (OD U);obtain⟨V,g1,_,_⟩:=G.rg _ Z;simp only at V g1;have:=Aa.mp e i.toNat (by omega) (by omega);rw[show((i.toNat:Nat):Int)=i by omega,je G.nd Z]at this;simp at this;omega
def lvM(rs:List Int)(qs:List (Int×Int)):Nat->Option Int
 |0=>none
 |k+1=>if lvR rs qs ((k:Int)+1)=true then some ((k:Int)+1)else lvM rs qs k
theorem pF{rs:List Int}{qs:List (Int×Int)}:∀{k:Nat}{L:Int},lvM rs qs k=some L->1<=L/\L<=k/\lvR rs qs L=true/\∀M,L<M->M<=k->lvR rs qs M=false
 |0,L,h=>by cases h
 |k+1,L,h=>by
  rw[lvM]at h;by_cases c:lvR rs qs ((k:Int)+1)=true
  ·rw[if_pos c]at h
   cases h;exact⟨by omega,by omega,c,λM h1 h2=>by omega⟩
  ·rw[if_neg c]at h;obtain⟨h1,h2,h3,h4⟩:=pF h;refine⟨h1,by omega,h3,λM g1 g2=>?_⟩;by_cases e:M=(k:Int)+1
   ·rw[e];simpa using c
   ·exact h4 M g1 (by omega)
theorem wQ{rs:List Int}{qs:List (Int×Int)}:∀{k:Nat},lvM rs qs k=none->∀M:Int,1<=M->M<=(k:Int)->lvR rs qs M=false
 |0,_,M,h1,h2=>by omega
 |k+1,h,M,h1,h2=>by
  rw[lvM]at h;by_cases c:lvR rs qs ((k:Int)+1)=true
  ·rw[if_pos c]at h;cases h
  ·rw[if_neg c]at h;by_cases e:M=(k:Int)+1
   ·rw[e];simpa using c
   ·exact wQ h M h1 (by omega)
theorem Dh(k:Nat):gO 1 ((k:Int)+1)=(bH k).map λi:Nat=>da ((i:Int)+1):=by
 unfold gO;rw[show((k:Int)+1-1).toNat=k by omega];apply dF;intro i _;rw[Int.add_comm]
end Com
namespace Com
open D3 My
def gmL(rs:List Int)(qs:List (Int×Int))(f w:Int):List Int:=(jW (qs.map (·.1))).filter λk=>decide (f<=rs.getD k.toNat 0)&&decide ((eE qs k).getD 0=w)
def gmR(rs:List Int)(qs:List (Int×Int))(f w:Int):Int:=(gmL rs qs f w).headD 0
theorem O2{rs:List Int}{qs:List (Int×Int)}{f w:Int}(G:Gst rs qs)(h:w∈wsR rs qs f):∃r,gmL rs qs f w=gmR rs qs f w::r/\(gmR rs qs f w,w)∈qs/\f<=rs.getD (gmR rs qs f w).toNat 0:=by
 obtain⟨i,h1,h2⟩:=z_.mp h;have hi:i∈gmL rs qs f w:=by
  unfold gmL;refine bZ.mpr ⟨(dY _).mem_iff.mpr (aV.mpr ⟨_,h1,rfl⟩),?_⟩;rw[dTr h2,je G.nd h1];simp
 cases e:gmL rs qs f w with
 |nil=>rw[e]at hi;cases hi
 |cons a r=>
  have ea:gmR rs qs f w=a:=by unfold gmR;rw[e];rfl
  rw[ea];have ha:a∈gmL rs qs f w:=by rw[e];exact aA
  obtain⟨X,Z⟩:=bZ.mp ha;rw[aX]at Z;obtain⟨q,Y,rfl⟩:=aV.mp ((dY _).mem_iff.mp X);have W:=je G.nd (show(q.1,q.2)∈qs from Y);have hw:=of_decide_eq_true Z.2;rw[W]at hw;simp at hw;refine⟨r,rfl,?_,of_decide_eq_true Z.1⟩;rw[<-hw];exact Y
theorem FQ{rs:List Int}{qs:List (Int×Int)}{f w:Int}(G:Gst rs qs)(J:rs.length<=60)(h:w∈wsR rs qs f):dG [.list (rs.map .int),dcD qs,.int f,.int w]=some (.int (gmR rs qs f w)):=by
 obtain⟨r,Y,_,_⟩:=O2 G h;have Z:qs.length<64:=by have:=G.len;omega
 have e:fX (gNl 0) (D3.vH (cI (dOp gGe (dOp gIx (aB 3) (aB 0)) (aB 1))) (cI (dOp gEq (dOp v8 (aB 4) (aB 0)) (aB 2)))) (jt (aB 0)) (jf 1 [2,3,0,1] [some (.d (.list (rs.map .int))),some (.d (dcD qs)),some (.d (.int f)),some (.d (.int w))]) ((jW (qs.map (·.1))).map da)=some ((gmL rs qs f w).map da):=by
  refine CZ da _ da (jW (qs.map (·.1))) λk X=>?_
  obtain⟨q,Z,rfl⟩:=aV.mp ((dY _).mem_iff.mp X);obtain⟨W,g1,_,_⟩:=G.rg q Z;have Y:=H_ (rs:=rs) W g1;have U:=je G.nd (show(q.1,q.2)∈qs from Z);refine⟨[some (.d (.int q.1)),some (.d (.int f)),some (.d (.int w)),some (.d (.list (rs.map .int))),some (.d (dcD qs))],rfl,?_,λ_=>?_⟩
  ·by_cases c:f<=rs.getD q.1.toNat 0
   ·simp![Y,dTr c,Ov,U,d9];simp
   ·simp![Y,dFa c];simp
  ·simp![]
 have V:((jW (qs.map (·.1))).map da).length<=100000:=by rw[ak,(dY _).length_eq,ak];omega
 rw[Y,aM]at e;unfold dG;simp![Tc Z,V,e,at0]
def mpD(p:Int×Int):D:=.tuple [.int p.1,.int p.2]
def mvF(rs:List Int)(qs:List (Int×Int))(ps:List (Int×Int))(g:Int):List (Int×Int)×Int:=ps.foldl (λs p=>(s.1++[(gmR rs qs p.1 p.2,s.2)],gmR rs qs p.1 p.2)) ([],g)
theorem Di{rs:List Int}{qs ps:List (Int×Int)}{g:Int}{p:Int×Int}:mvF rs qs (ps++[p]) g=((mvF rs qs ps g).1++[(gmR rs qs p.1 p.2,(mvF rs qs ps g).2)],gmR rs qs p.1 p.2):=by
 unfold mvF;rw[List.foldl_append];rfl
theorem Ia{rs:List Int}{qs:List (Int×Int)}{g:Int}:∀(n:Nat)(ps:List (Int×Int)),ps.length=n->(mvF rs qs ps g).1.length=n
 |0,ps,h=>by rw[List.length_eq_zero_iff.mp h];rfl
 |n+1,ps,h=>by
  have Z:ps≠[]:=λz=>by rw[z]at h;cases h
  rw[<-List.dropLast_concat_getLast Z,Di];simp only[bw,aW,dZ];rw[Ia n ps.dropLast (by rw[List.length_dropLast,h];rfl)]
def qRv(x:Option D):Option (List D):=match x with
 |some (.list l)=>some l.reverse
 |_=>none
theorem ZF{f:FE}{δ:DS}:QC f δ=qRv (f δ):=by
 unfold QC qRv
 cases f δ with
 |none=>rfl
 |some d=>cases d<;>rfl
theorem Tg{l:List D}:qRv (some (.list l))=some l.reverse:=rfl
theorem Dj:∀(ns ms:List Int),qt (ns.map da) (ms.map da)=(ns.zip ms).map mpD
 |[],ms=>by simp[qt]
 |_::_,[]=>by simp[qt]
 |a::ns,b::ms=>by
  rw[aM,aM,qt,Dj ns ms,jk,aM];rfl
theorem W5{ns ms:List Int}(h:ns.length<=1000):BK (.list (ns.map .int)) (.list (ms.map .int))=some (.list ((ns.zip ms).map mpD)):=by
 unfold BK;dsimp only;rw[jY,jY,aj,aj,if_pos h,Dj]
theorem O3{rs:List Int}{qs:List (Int×Int)}{f:Int}{r:List Int}(h:Ch rs qs f r):∀p∈(f::r).zip r,frR rs qs p.1=[]/\p.2=lwR rs qs p.1/\p.2<p.1/\p.2∈wsR rs qs p.1:=by
 induction h with
 |stop c=>intro p Z;simp at Z
 |step c Y W X=>
  intro p Z;rw[jk]at Z;rcases aN.mp Z with rfl|z
  ·exact⟨c,rfl,Y,OD Y⟩
  ·exact X p z
theorem Ti{rs:List Int}{qs:List (Int×Int)}{f:Int}{r:List Int}(h:Ch rs qs f r):∃pre l,f::r=pre++[l]/\frR rs qs l≠[]:=by
 induction h with
 |stop c=>exact⟨[],_,rfl,c⟩
 |step c X Y Z=>
  obtain⟨pre,l,e,h⟩:=Z;exact⟨_::pre,l,by rw[e];rfl,h⟩
theorem FZ{rs:List Int}{qs:List (Int×Int)}{f l:Int}{r pre:List Int}(G:Gst rs qs)(J:rs.length<=60)(hc:Ch rs qs f r)(he:f::r=pre++[l])(hn:(f::r).length<=1000){q:Nat}{gs:List Nat}(O:frR rs qs l=q::gs):
 jo [.list (rs.map .int),dcD qs,.list ((f::r).map .int)]=some (.tuple [.list ((mvF rs qs ((f::r).zip r).reverse (q:Int)).1.map mpD),.int (mvF rs qs ((f::r).zip r).reverse (q:Int)).2]):=by
 generalize Z:((f::r).zip r).reverse=ps;have U:=O3 hc;have pl:ps.length<=1000:=by rw[<-Z,eG,List.length_zip];simp only[aW]at hn ⊢;omega
 have T:∀p∈ps,p.2∈wsR rs qs p.1:=λp h=>(U p (by rw[<-Z]at h;exact List.mem_reverse.mp h)).2.2.2
 obtain⟨δ',e,x,y,z,rfl⟩:=vm (g:=(gTn 2 (dH (gNl 5) (dH (gNl 6) (lH))))) (b:=(cP (cG 7 (dCall dG (aD (aB 0) (aD (aB 1) (aD (aB 5) (aD (aB 6) (bN))))))) (cP (yV 4 (dTup (aD (aB 7) (aD (aB 3) (bN))))) (cG 3 (aB 7)))))
  (λi δ=>∃x y z,δ=[some (.d (.list (rs.map .int))),some (.d (dcD qs)),some (.d (.list ((f::r).map .int))),some (.d (.int (mvF rs qs (ps.take i) (q:Int)).2)),some (.d (.list ((mvF rs qs (ps.take i) (q:Int)).1.map mpD))),x,y,z]) (ps.map mpD)
  [some (.d (.list (rs.map .int))),some (.d (dcD qs)),some (.d (.list ((f::r).map .int))),some (.d (.int (q:Int))),some (.d (.list [])),none,none,none] ⟨none,none,none,rfl⟩ (by
   rintro i d δ hd ⟨x,y,z,rfl⟩;rw[aO]at hd
   cases hi:ps[i]? with
   |none=>rw[hi]at hd;cases hd
   |some p=>
    rw[hi]at hd
    cases hd;have es:ps.take (i+1)=ps.take i++[p]:=by rw[rE,hi];rfl
    have gs:=FQ G J (T p (cD hi));have hlen:((mvF rs qs (ps.take i) (q:Int)).1.map mpD).length<1000000:=by
     rw[ak,Ia _ _ rfl,iQ];omega
    refine⟨_,[some (.d (.list (rs.map .int))),some (.d (dcD qs)),some (.d (.list ((f::r).map .int))),some (.d (.int (gmR rs qs p.1 p.2))),some (.d (.list ((mvF rs qs (ps.take i) (q:Int)).1.map mpD++[mpD (gmR rs qs p.1 p.2,(mvF rs qs (ps.take i) (q:Int)).2)]))),some (.d (.int p.1)),some (.d (.int p.2)),some (.d (.int (gmR rs qs p.1 p.2)))],rfl,.inl ?_,⟨_,_,_,by rw[es,Di,bI];rfl⟩⟩;simp![gs,hlen,sz (show 0+1+1<=1000000 by decide)];rfl)
 rw[ak,List.take_length]at e;have X:pAt ((f::r).map da) (-1)=some (.int l):=by rw[he,bI,aM,cZ];exact C_
 have V:cuD ((f::r).map da) (some 1) none=r.map da:=by rw[Zz (by decide)];simp
 have Y:=W5 (ns:=f::r) (ms:=r) hn;have S:(((f::r).zip r).map mpD).reverse=ps.map mpD:=by rw[<-Z,List.map_reverse]
 have W:=nG (rs:=rs) (qs:=qs) (k:=l) (by omega);rw[O,aM]at W;have fl:flats ((mvF rs qs ps (q:Int)).1.map mpD)=true:=pR _ (λ_=>rfl) _;generalize (f::r).map da=R at e X V Y ⊢;unfold jo;simp![X,W,at0,sz (show 0<=1000000 by decide),ZF,V,Y,Tg,S];rw[e];simp![fl,sz (show 0+1+1<=1000000 by decide)]
theorem O4:∀l:List (Int×Int),nls (l.map mpD)=0
 |[]=>rfl
 |a::r=>by rw[aM,nls,O4 r];rfl
theorem Dk{rs:List Int}{qs:List (Int×Int)}{f l:Int}{r pre:List Int}(G:Gst rs qs)(U:rs.length<=60)(hf:1<=f)(J:f<=900)(O:Ch rs qs f r)(he:f::r=pre++[l])(hn:(f::r).length<=1000){q:Nat}{gs:List Nat}(hg:frR rs qs l=q::gs):
 gM [.list (rs.map .int),dcD qs,.int f]=some (.tuple [.str "in", .list ((mvF rs qs ((f::r).zip r).reverse (q:Int)).1.map mpD),.int (mvF rs qs ((f::r).zip r).reverse (q:Int)).2,.list ((f::r).map .int)]):=by
 have Y:=OJ G (by omega) hf J O;have Z:=FZ G U O he hn hg;have fl:flats ((f::r).map da)=true:=qW _;generalize (f::r).map da=X at Y Z fl ⊢;generalize mvF rs qs ((f::r).zip r).reverse (q:Int)=m at Z ⊢;have n1:decide (nl (.tuple [.list (m.1.map mpD),.int m.2])<=1)=true:=dTr (by rw[nl,nls,nl,O4,nls,nls];show 0+1+(0+0)<=1;decide);unfold gM;simp![Y,fl,Z,n1,at0,at1,sz (show 0+1+1+1+1<=1000000 by decide)]
theorem O5{i:Int}{r:List Int}:Bg [.list (da i::r.map da)]=some (.int (mxI i r)):=by
 have:iz (da i::r.map da)=some (i::r):=jY (i::r);unfold Bg;dsimp only;rw[this]
theorem xR{rs:List Int}{qs:List (Int×Int)}{k:Nat}{L:Int}(G:Gst rs qs)(q:rs.length<=1000)(U:1<=k)(J:k<=900)(hd:Dead rs qs (k:Int))(O:lvM rs qs k=some L):
 gM [.list (rs.map .int),dcD qs,.int (k:Int)]=some (.tuple [.str "full", .int L]):=by
 have W:=FJ G q (by omega:(1:Int)<=k) (by omega) hd;obtain⟨h1,h2,h3,h4⟩:=pF O;have Z:fX (gNl 0) (cI (dCall iK (aD (aB 1) (aD (aB 2) (aD (aB 0) (bN)))))) (jt (aB 0)) (jf 1 [0,1] [some (.d (.list (rs.map .int))),some (.d (dcD qs)),some (.d (.int (k:Int))),some (.d .none),none]) (gO 1 ((k:Int)+1))=some ((((bH k).filter λi=>lvR rs qs ((i:Nat)+1)).map λi:Nat=>(i:Int)+1).map da):=by
  rw[Dh,bO];refine CZ (λi:Nat=>da ((i:Int)+1)) (λi=>lvR rs qs ((i:Nat)+1)) _ (bH k) λi hi=>?_
  refine⟨[some (.d (.int ((i:Int)+1))),some (.d (.list (rs.map .int))),some (.d (dcD qs))],rfl,?_,λ_=>?_⟩
  ·simp![xQ q]
  ·simp![];rfl
 have X:(gO 1 ((k:Int)+1)).length<=100000:=by rw[Dh,ak,iy];omega
 have mem:∀x,x∈((bH k).filter λi=>lvR rs qs ((i:Nat)+1)).map (λi:Nat=>(i:Int)+1)<->1<=x/\x<=k/\lvR rs qs x=true:=λx=>by
  rw[aV]
  constructor
  ·rintro⟨i,hi,rfl⟩;obtain⟨g1,g2⟩:=bZ.mp hi;have:=cA.mp g1;exact⟨by omega,by omega,g2⟩
  ·rintro⟨g1,g2,g3⟩;refine⟨(x-1).toNat,bZ.mpr ⟨cA.mpr (by omega),?_⟩,by omega⟩;rw[show(((x-1).toNat:Nat):Int)+1=x by omega];exact g3
 cases e:((bH k).filter λi=>lvR rs qs ((i:Nat)+1)).map (λi:Nat=>(i:Int)+1)with
 |nil=>
  have:=(mem L).mpr ⟨h1,h2,h3⟩;rw[e]at this
  cases this
 |cons i r=>
  rw[e]at Z mem;have sp:=vQ r i;obtain⟨g1,g2,g3⟩:=(mem _).mp sp.1;have Y:=sp.2 L ((mem L).mpr ⟨h1,h2,h3⟩);have eq:mxI i r=L:=by
   by_cases c:L<mxI i r
   ·rw[h4 _ c g2]at g3;cases g3
   ·omega
  unfold gM;simp![W,Zg (show -(2^62)<=(k:Int)+1 by omega) (show(k:Int)+1<2^62 by omega) (show -(2^62)<=(1:Int)by decide) (show(1:Int)<2^62 by decide),X,Z,O5,eq,sz (show 0+1+1<=1000000 by decide)]
end Com
namespace Com
open D3 My
def mvs(rs:List Int)(qs:List (Int×Int)):List (Int×Int)->Int->List (Int×Int)
 |[],_=>[]
 |p::ps,g=>(gmR rs qs p.1 p.2,g)::mvs rs qs ps (gmR rs qs p.1 p.2)
def gl(rs:List Int)(qs:List (Int×Int)):List (Int×Int)->Int->Int
 |[],g=>g
 |p::ps,_=>gl rs qs ps (gmR rs qs p.1 p.2)
theorem W6{rs:List Int}{qs:List (Int×Int)}:∀(ps:List (Int×Int))(g:Int),mvF rs qs ps g=(mvs rs qs ps g,gl rs qs ps g):=by
 have Z:∀(ps:List (Int×Int))(acc:List (Int×Int))(g:Int),ps.foldl (λ(s:List (Int×Int)×Int) p=>(s.1++[(gmR rs qs p.1 p.2,s.2)],gmR rs qs p.1 p.2)) (acc,g)=(acc++mvs rs qs ps g,gl rs qs ps g):=by
  intro ps
  induction ps with
  |nil=>intro acc g;simp[mvs,gl]
  |cons p ps Y=>
   intro acc g;rw[List.foldl_cons,Y];simp[mvs,gl]
 intro ps g;unfold mvF;rw[Z];rfl
inductive LkR:List (Int×Int)->Int->Int->Prop
 |nil (b:Int):LkR [] b b
 |cons {p:Int×Int} {ps:List (Int×Int)} {b e:Int}:p.2<=b->LkR ps p.1 e->LkR (p::ps) b e
theorem LkR.snoc{ps:List (Int×Int)}{b e:Int}{q:Int×Int}(h:LkR ps b e)(J:q.2<=e):LkR (ps++[q]) b q.1:=by
 induction h with
 |nil b=>exact .cons J (.nil _)
 |cons h1 h2 Z=>exact .cons h1 (Z J)
theorem ZG{rs:List Int}{qs:List (Int×Int)}{f:Int}{r:List Int}(h:Ch rs qs f r):∀pre l b,f::r=pre++[l]->l<=b->∃e,LkR ((f::r).zip r).reverse b e/\f<=e:=by
 induction h with
 |stop c=>
  rename_i f;intro pre l b e hb
  cases pre with
  |nil=>
   cases e;exact⟨b,.nil b,hb⟩
  |cons a pre=>simp at e
 |step c U X Z=>
  rename_i f r;intro pre l b e hb
  cases pre with
  |nil=>simp at e
  |cons a pre=>
   rw[mR]at e;injection e with W Y
   obtain⟨V,h1,h2⟩:=Z pre l b Y hb;rw[jk,iu];exact⟨f,h1.snoc h2,gq _⟩
theorem W7{rs:List Int}{qs:List (Int×Int)}{f:Int}{r:List Int}(h:Ch rs qs f r):(∀x∈r,x<f)/\r.Pairwise (λa b=>b<a):=by
 induction h with
 |stop c=>exact⟨λ_ h=>(by cases h),.nil⟩
 |step c Y X Z=>
  rename_i f r;refine⟨λx hx=>?_,dg.mpr ⟨Z.1,Z.2⟩⟩;rcases aN.mp hx with rfl|z
  ·exact Y
  ·have:=Z.1 x z;omega
theorem Ie:∀(f:Int)(r:List Int),((f::r).zip r).map (·.2)=r
 |_,[]=>rfl
 |f,a::r=>by rw[jk,aM,Ie a r]
theorem W8{rs:List Int}{qs:List (Int×Int)}{f:Int}{r:List Int}(h:Ch rs qs f r):(((f::r).zip r).reverse).Pairwise (λp q=>p.2<q.2):=by
 rw[h_];have:=(W7 h).2;rw[<-Ie f r,lU]at this;exact this
end Com
namespace Ho
def ge(l:List Int)(L:Int):Nat:=(l.filter λx=>decide (L<=x)).length
theorem Ab(x:Int)(l:List Int)(L:Int):ge (x::l) L=(if L<=x then 1 else 0)+ge l L:=by
 unfold ge;by_cases c:L<=x
 ·rw[mU (by simpa using c),if_pos c,aW];omega
 ·rw[mV (by simpa using c),if_neg c];omega
theorem Ac{l m:List Int}(h:l.Perm m)(L:Int):ge l L=ge m L:=(h.filter _).length_eq
theorem ZJ(l:List Int)(L:Int):ge l L<=l.length:=oG _ _
theorem uo:∀{l:List Int},l.Pairwise (λa b=>b<=a)->∀(L:Int)(i:Nat),i<ge l L<->∃x,l[i]? = some x/\L<=x
 |[],_,L,i=>by simp[ge]
 |x::l,h,L,i=>by
  obtain⟨h1,h2⟩:=dg.mp h;have Y:=uo h2 L;rw[Ab]
  cases i with
  |zero=>
   by_cases c:L<=x
   ·rw[if_pos c];exact⟨λ_=>⟨x,rfl,c⟩,λ_=>by omega⟩
   ·rw[if_neg c,jE,Y 0]
    constructor
    ·rintro⟨y,Z,X⟩;have:=h1 y (cD Z);omega
    ·rintro⟨y,Z,X⟩
     cases Z;exact absurd X c
  |succ i=>
   rw[jr,<-Y i];by_cases c:L<=x
   ·rw[if_pos c];omega
   ·rw[if_neg c,jE]
    constructor
    ·intro z;have:=(Y (i+1)).mp z;obtain⟨y,Z,X⟩:=this;have:=h1 y (cD Z);omega
    ·intro z;obtain⟨y,Z,X⟩:=(Y i).mp z;have:=h1 y (cD Z);omega
theorem O6{W R:List Int}(q:W.Pairwise λa b=>b<=a)(J:R.Pairwise λa b=>b<=a):
 (W.length<=R.length/\∀(i:Nat)(w r:Int),W[i]? = some w->R[i]? = some r->w<=r)<->∀L,ge W L<=ge R L:=by
 constructor
 ·rintro⟨X,h⟩ L;rcases ji (ge W L)with z|z
  ·omega
  ·obtain⟨w,hw,Z⟩:=(uo q L (ge W L-1)).mp (by omega);have hi:ge W L-1<R.length:=by
    have:=(aQ.mp hw).1;omega
   have:=h _ w R[ge W L-1] hw (aF hi);have:=(uo J L (ge W L-1)).mpr ⟨_,aF hi,by omega⟩;omega
 ·intro h;refine⟨?_,λi w r hw Y=>?_⟩
  ·rcases ji W.length with z|z
   ·omega
   ·have hi:W.length-1<W.length:=by omega
    have:=(uo q W[W.length-1] (W.length-1)).mpr ⟨_,aF hi,gq _⟩;have:=h W[W.length-1];have:=ZJ R W[W.length-1];omega
  ·have:=(uo q w i).mpr ⟨w,hw,gq _⟩;have:=h w;obtain⟨x,hx,Z⟩:=(uo J w i).mp (by omega);rw[Y]at hx
   cases hx;exact Z
theorem O7{W R:List Int}{k:Int}(h:∀L,ge W L<=ge R L):(∀L,ge (k::W) L<=ge R L)<->∀L,L<=k->ge W L≠ge R L:=by
 constructor
 ·intro g L Z z;have:=g L;rw[Ab,if_pos Z]at this;omega
 ·intro g L;rw[Ab];by_cases c:L<=k
  ·rw[if_pos c];have:=h L;have:=g L c;omega
  ·rw[if_neg c];have:=h L;omega
end Ho
namespace K67
open D3 XK
abbrev aY:Addr:=270
abbrev aU:List Str:=["rooms", "places", "wished", "moves_done"]
abbrev jm:List D->Option D:=Com.jm
abbrev cX:List D->Option D:=Com.cX
abbrev dX:List D->Option D:=Com.dX
abbrev dD:List D->Option D:=Com.dD
abbrev gJ:List D->Option D:=Com.gJ
abbrev dG:List D->Option D:=Com.dG
abbrev jo:List D->Option D:=Com.jo
abbrev iK:List D->Option D:=Com.iK
abbrev gM:List D->Option D:=Com.gM
def jZ:List D->Option D:=fnD 1 0 (cP (sIf (D3.tOr (D3.tG (cI (dUn (gIs "str") (aB 0)))) (D3.tG (cI (mG gLe gLe (dC (.int 1)) (dCall Hh (aD (aB 0) (bN))) (dC (.int 8)))))) (ig (dC (.bool false))) (j9))
    (ig (dCall Eh (aD (jH (V4 (aB 0)) (gNl 0) (uM) (mG XI.xO XI.xO (dC (.str "a")) (aB 0) (dC (.str "z"))) 1 []) (bN)))))
abbrev gA:List D->Option D:=Com.gA
abbrev bY:List D->Option D:=Com.bY
abbrev fU:List D->Option D:=Com.fU
abbrev gH:List D->Option D:=Com.gH
def jO:List D->Option D:=fnD 2 7 (cP (cG 2 (dC (.str "qwertyuiopasdghjklzxcvbnm")))
    (cP (cG 3 (dOp j_ (dC (.int 1)) (dCall bY (aD (aB 0) (aD (aB 1) (aD (dC (.int 0)) (aD (dC (.int 8)) (bN))))))))
    (cP (cG 4 (dCall bY (aD (aB 0) (aD (aB 1) (aD (dC (.int 1)) (aD (aB 3) (bN)))))))
    (cP (cG 5 (mF (bN)))
    (cP (xH (uz (aD (dC (.int 12)) (bN))) (gNl 6) (cP (cG 7 (dC (.str "")))
    (cP (xH (uz (aD (aB 3) (bN))) (gNl 8) (cG 7 (dOp wB (aB 7) (dOp Cd (aB 2) (dOp oK (dOp j_ (dCall bY (aD (aB 0) (aD (dOp j_ (aB 1) (dC (.int 1))) (aD (aB 8) (aD (dC (.int 25)) (bN)))))) (dOp nW (aB 6) (dCall Ef (aD (dOp gEq (aB 8) (aB 4)) (bN))))) (dC (.int 25)))))))
    (yV 5 (aB 7)))))
    (ig (tM (aB 5))))))))
def jy:List D->Option D:=fnD 2 2 (cP (cG 2 (dCall XI.wM (aD (aB 0) (bN))))
    (cP (cG 3 (dCall XI.wM (aD (aB 1) (bN))))
    (cP (sIf (cI (dOp gGt (dCall tQ (aD (aB 3) (bN))) (dCall tQ (aD (aB 2) (bN))))) (ig (dC (.bool false))) (j9))
    (ig (dCall Eh (aD (jH (uz (aD (dCall tQ (aD (aB 3) (bN))) (bN))) (gNl 0) (uM) (dOp gLe (dOp gIx (aB 1) (aB 0)) (dOp gIx (aB 2) (aB 0))) 1 [3,2]) (bN)))))))
def iM:List D->Option D:=fnD 3 1 (cP (cG 3 (dCall tQ (aD (jH (Jh (aB 1)) (gNl 0) (cI (dOp gGe (aB 0) (aB 1))) (jt (aB 0)) 1 [2]) (bN))))
    (ig (dOp gEq (aB 3) (dCall tQ (aD (jH (Jh (aB 0)) (gNl 0) (cI (dOp gGe (aB 0) (aB 1))) (jt (aB 0)) 1 [2]) (bN))))))
def iU:List D->Option (List D):=XI.fnI 1 0 [("rooms", dN1 (tM (dUn rR (aB 1)))),("places", dC (.dict [])),("wished", dC (.dict [])),("moves_done", mF (bN))]
def gY:List D->Option D:=fnD 1 0 (ig (dUn XI.zW (XI.uO aY aU 1 (aB 0))))
def gZ:List D->Option D:=fnD 1 0 (ig (dUn XI.z8 (XI.uO aY aU 3 (aB 0))))
def cY:List D->Option D:=fnD 1 0 (ig (dCall XS.v7 (aD (jH (XI.Nr (XI.uO aY aU 1 (aB 0))) (gTn 2 (dH (gNl 0) (dH (gNl 1) (lH)))) (uM) (jt (dTup (aD (aB 1) (aD (dOp XI.yJ (XI.uO aY aU 2 (aB 2)) (aB 0)) (bN))))) 2 [0]) (bN))))
def cW:List D->Option D:=fnD 2 0 (sIf (D3.tOr (D3.tG (cI (dCall jZ (aD (aB 1) (bN))))) (cI (dOp XI.n8 (aB 1) (XI.uO aY aU 1 (aB 0))))) ((λ_=>none)) (j9))
def gR:List D->Option D:=fnD 2 0 (cP (yh (XI.mq cW aY aU (aB 0) (aD (aB 1) (bN))))
    (ig (dOp XI.yJ (XI.uO aY aU 2 (aB 0)) (aB 1))))
def jz:List D->Option D:=XI.fnW 2 0 [0] (cP (yh (XI.mq cW aY aU (aB 0) (aD (aB 1) (bN))))
    (cP (XI.mK (XI.Hs aY aU 2 0 (aB 1)))
    (XI.Ft [0] (XI.Hs aY aU 1 0 (aB 1)))))
def dN:List D->Option D:=XI.fnW 3 1 [0] (cP (cG 3 (dOp gIx (jH (XI.Nr (XI.uO aY aU 1 (aB 0))) (gTn 2 (dH (gNl 0) (dH (gNl 1) (lH)))) (cI (dOp gEq (aB 1) (aB 2))) (jt (aB 0)) 2 [1]) (dC (.int 0))))
    (cP (XI.yI aY aU 1 0 (aB 3) (aB 2))
    (XI.Hq aY aU 3 0 (dTup (aD (aB 3) (aD (aB 1) (aD (aB 2) (bN))))))))
def cQ:List D->Option Or:=XI.NK 3 3 [0] (xK (xIf (D3.tG (cI (dCall jZ (aD (aB 1) (bN))))) ((λ_=>none)) (xOf j9))
    (xK (xIf (cI (dOp XI.JG (aB 1) (XI.uO aY aU 1 (aB 0)))) ((λ_=>none)) (xOf j9))
    (xK (xIf (D3.tG (cI (dCall cX (aD (aB 2) (aD (dC (.int 1)) (aD (dC (.int 4)) (bN))))))) ((λ_=>none)) (xOf j9))
    (xK (xOf (cG 3 (dCall gM (aD (XI.uO aY aU 0 (aB 0)) (aD (XI.mq cY aY aU (aB 0) (bN)) (aD (aB 2) (bN)))))))
    (xK (xIf (cI (dOp gEq (dOp gIx (aB 3) (dC (.int 0))) (dC (.str "full")))) (XI.zX [0] "Full" (dOp gIx (aB 3) (dC (.int 1)))) (xOf j9))
    (xK (xOf (xH (Jh (dOp gIx (aB 3) (dC (.int 1)))) (gTn 2 (dH (gNl 4) (dH (gNl 5) (lH)))) (XI.mK (XI.ud dN aY aU 0 (aD (aB 4) (aD (aB 5) (bN))) [0]))))
    (xK (xOf (XI.yI aY aU 1 0 (aB 1) (dOp gIx (aB 3) (dC (.int 2)))))
    (xK (xOf (XI.yI aY aU 2 0 (aB 1) (aB 2)))
    (XI.Ny [0] (dTup (aD (dOp gIx (aB 3) (dC (.int 2))) (aD (dOp gIx (aB 3) (dC (.int 1))) (bN)))))))))))))
def gB:List D->Option D:=XI.fnW 5 4 [0,2] (cP (cG 5 (dCall jy (aD (aB 1) (aD (dOp KR (dUn XI.kW (aB 2)) (mF (aD (aB 4) (bN)))) (bN)))))
    (cP (cG 6 (mF (aD (XI.mq gY aY aU (aB 0) (bN)) (aD (XI.mq cY aY aU (aB 0) (bN)) (aD (XI.mq gZ aY aU (aB 0) (bN)) (bN))))))
    (cP (cG 7 (dC (.none)))
    (cP (XI.wL 8 (XI.uh cQ aY aU 0 (aD (aB 3) (aD (aB 4) (bN))) [0]) ["Full"] (λc d=>cG 7 (dC d)))
    (cP (sIf (cI (dUn Ji (aB 7))) (cP (XI.Cw 2 (aB 3) (aB 4))
    (XI.Ci [0,2] (Jg (aB 5) (dOp v5 (XI.mq gR aY aU (aB 0) (aD (aB 3) (bN))) (aB 4))))) (j9))
    (cP (sIf (D3.tOr (cI (aB 5)) (D3.tOr (D3.tG (cI (dCall fU (aD (aB 7) (bN))))) (D3.tOr (D3.tG (cI (mG gLe gLe (dC (.int 1)) (aB 7) (aB 4)))) (D3.tG (cI (dCall iM (aD (aB 1) (aD (dUn XI.kW (aB 2)) (aD (aB 7) (bN)))))))))) (XI.Ci [0,2] (dC (.bool false))) (j9))
    (XI.Ci [0,2] (dOp v5 (mF (aD (XI.mq gY aY aU (aB 0) (bN)) (aD (XI.mq cY aY aU (aB 0) (bN)) (aD (XI.mq gZ aY aU (aB 0) (bN)) (bN))))) (aB 6)))))))))
def O8:List D->Option D:=fnD 1 8 (cP (cG 1 (dCall gH (aD (aB 0) (aD (dC (.int 0)) (aD (dC (.int 12)) (bN))))))
    (cP (cG 2 (XI.Nx aY aU iU (aD (dUn rR (aB 1)) (bN))))
    (cP (cG 3 (dCall jO (aD (aB 0) (aD (dC (.int 2)) (bN)))))
    (cP (cG 4 (dC (.dict [])))
    (cP (xH (Gp (aD (dC (.int 4)) (aD (dCall Gr (aD (dCall tQ (aD (aB 0) (bN))) (aD (dC (.int 44)) (bN)))) (bN)))) (gNl 5) (cP (cG 6 (dOp gIx (aB 3) (dCall bY (aD (aB 0) (aD (aB 5) (aD (dC (.int 0)) (aD (dC (.int 12)) (bN))))))))
    (cP (sIf (D3.vH (cI (dOp XI.JG (aB 6) (aB 4))) (cI (dOp gEq (dCall bY (aD (aB 0) (aD (aB 5) (aD (dC (.int 2)) (aD (dC (.int 4)) (bN)))))) (dC (.int 1))))) (cP (XI.mK (XI.ud jz aY aU 2 (aD (aB 6) (bN)) [2]))
    (XI.mK (XI.Cy 4 (aB 6)))) (j9))
    (cP (cG 7 (dOp j_ (dC (.int 1)) (dCall bY (aD (aB 0) (aD (aB 5) (aD (dC (.int 1)) (aD (dC (.int 4)) (bN))))))))
    (XI.Ng (XI.Cr (XI.JF (cI (dOp XI.n8 (aB 6) (aB 4)))) (XI.yH (XI.wI (XI.wG gB (aD (aB 2) (aD (aB 1) (aD (aB 4) (aD (aB 6) (aD (aB 7) (bN)))))) [2,4])))) (ig (dC (.bool false))) (j9))))))
    (cP (cG 8 (dCall Bh (aD (dUn XI.kW (XI.mq cY aY aU (aB 2) (bN))) (bN))))
    (ig (dOp gEq (aB 8) (dCall Bh (aD (dUn XI.kW (aB 4)) (bN)))))))))))
end K67
namespace K67
open D3 My Com XI
abbrev Gu:=Str×Int×Int
def SP(P:List Gu):List (Str×Int):=P.map λq=>(q.1,q.2.1)
def TP(P:List Gu):List (Str×Int):=P.map λq=>(q.1,q.2.2)
def QP(P:List Gu):List (Int×Int):=P.map λq=>(q.2.1,q.2.2)
def dS(S:List (Str×Int)):D:=.dict (ssP S)
def hD(rs:List Int)(S T:List (Str×Int))(M:List D):D:=.dict (pX aY aU [.list (rs.map .int),dS S,dS T,.list M])
section
variable{rs:List Int}{S T:List (Str×Int)}{M:List D}{f g fa':FE}{fa:FA}{δ:DS}{k i:Nat}{F:List D->Option D}{x:Str}{v:Int}{d:D}{sw l:List Nat}
theorem nH:∀S:List (Str×Int),ssD (ssP S)=some S
 |[]=>rfl
 |q::S=>by
  show(ssD (ssP S)).map _=_;rw[nH S];rfl
theorem hC:isC aY aU (hD rs S T M)=some [.list (rs.map .int),dS S,dS T,.list M]:=by
 unfold hD pX isC;exact if_pos ⟨rfl,rfl⟩
def qFd(k:Nat)(x:Option D):Option D:=x.bind λd=>(isC aY aU d).bind λds=>ds[k]?
theorem tE:uO aY aU k f δ=qFd k (f δ):=rfl
theorem fd0:qFd 0 (some (hD rs S T M))=some (.list (rs.map .int)):=by unfold qFd;rw[aj,hC];rfl
theorem fd1:qFd 1 (some (hD rs S T M))=some (dS S):=by unfold qFd;rw[aj,hC];rfl
theorem fd2:qFd 2 (some (hD rs S T M))=some (dS T):=by unfold qFd;rw[aj,hC];rfl
theorem fd3:qFd 3 (some (hD rs S T M))=some (.list M):=by unfold qFd;rw[aj,hC];rfl
def qMe(F:List D->Option D)(x:Option D)(a:Option (List D)):Option D:=x.bind λd=>(isC aY aU d).bind λ_=>a.bind λds=>F (d::ds)
theorem q_:mq F aY aU f fa δ=qMe F (f δ) (fa δ):=rfl
theorem Ga{ds:List D}:qMe F (some (hD rs S T M)) (some ds)=F (hD rs S T M::ds):=by unfold qMe;rw[aj,hC];rfl
def qFP(k i:Nat)(v y q:Option D)(δ:DS):Option Oc:=v.bind λd=>y.bind λy=>(isC aY aU y).bind λds=>q.bind λq=>match ds[k]?,q,d with
 |some (.dict kvs),.str x,.int v=>(ssD kvs).bind λS=>if S.length<1000 then some (.nx (δ.set i (some (.d (.dict (pX aY aU (ds.set k (.dict (ssP (jQ S x v))))))))))else none
 |_,_,_=>none
theorem O9:yI aY aU k i f g δ=qFP k i (g δ) (aB i δ) (f δ) δ:=rfl
theorem fp1(h:S.length<1000):qFP 1 i (some (.int v)) (some (hD rs S T M)) (some (.str x)) δ=some (.nx (δ.set i (some (.d (hD rs (jQ S x v) T M))))):=by
 unfold qFP;rw[aj,aj,hC,aj,aj];show(ssD (ssP S)).bind _=_;rw[nH,aj,if_pos h];rfl
theorem fp2(h:T.length<1000):qFP 2 i (some (.int v)) (some (hD rs S T M)) (some (.str x)) δ=some (.nx (δ.set i (some (.d (hD rs S (jQ T x v) M))))):=by
 unfold qFP;rw[aj,aj,hC,aj,aj];show(ssD (ssP T)).bind _=_;rw[nH,aj,if_pos h];rfl
def qFA(k i:Nat)(y d:Option D)(δ:DS):Option Oc:=y.bind λy=>(isC aY aU y).bind λds=>d.bind λd=>match ds[k]? with
 |some (.list m)=>if flat d=true/\m.length<1000000 then some (.nx (δ.set i (some (.d (.dict (pX aY aU (ds.set k (.list (m++[d])))))))))else none
 |_=>none
theorem W9:Hq aY aU k i f δ=qFA k i (aB i δ) (f δ) δ:=rfl
theorem fa3(h:flat d=true)(h':M.length<1000000):qFA 3 i (some (hD rs S T M)) (some d) δ=some (.nx (δ.set i (some (.d (hD rs S T (M++[d])))))):=by
 unfold qFA;rw[aj,hC,aj,aj];show(if flat d=true/\M.length<1000000 then _ else _)=_;rw[if_pos ⟨h,h'⟩];rfl
def qFo(k i:Nat)(y q:Option D)(δ:DS):Option (D×DS):=y.bind λy=>(isC aY aU y).bind λds=>q.bind λq=>match ds[k]?,q with
 |some (.dict kvs),.str x=>(ssD kvs).bind λS=>(iJ S x).bind λv=>some (.int v,δ.set i (some (.d (.dict (pX aY aU (ds.set k (.dict (ssP (k_ S x)))))))))
 |_,_=>none
theorem W_:Hs aY aU k i f δ=qFo k i (aB i δ) (f δ) δ:=rfl
theorem fo1(h:iJ S x=some v):qFo 1 i (some (hD rs S T M)) (some (.str x)) δ=some (.int v,δ.set i (some (.d (hD rs (k_ S x) T M)))):=by
 unfold qFo;rw[aj,hC,aj,aj];show(ssD (ssP S)).bind _=_;rw[nH,aj,h];rfl
theorem fo2(h:iJ T x=some v):qFo 2 i (some (hD rs S T M)) (some (.str x)) δ=some (.int v,δ.set i (some (.d (hD rs S (k_ T x) M)))):=by
 unfold qFo;rw[aj,hC,aj,aj];show(ssD (ssP T)).bind _=_;rw[nH,aj,h];rfl
def qEW(a:Option (D×DS)):Option Oc:=a.bind λp=>some (.nx p.2)
theorem Ad{fw:FW}:mK fw δ=qEW (fw δ):=rfl
theorem Xa{p:D×DS}:qEW (some p)=some (.nx p.2):=rfl
def qMW(F:List D->Option D)(x:Option D)(a:Option (List D))(sw:List Nat)(δ:DS):Option (D×DS):=x.bind λd=>(isC aY aU d).bind λ_=>a.bind λds=>(F (d::ds)).bind λr=>JD r sw δ
theorem Ig:ud F aY aU i fa sw δ=qMW F (aB i δ) (fa δ) sw δ:=rfl
theorem ZK{ds:List D}{r y:D}(h:F (hD rs S T M::ds)=some (.tuple [r,y]))(q:flat r=true):qMW F (some (hD rs S T M)) (some ds) [i] δ=some (r,δ.set i (some (.d y))):=by
 unfold qMW;rw[aj,hC,aj,aj,h,aj];show(if flat r=true/\_ then _ else _)=_;rw[if_pos ⟨q,rfl⟩];rfl
def qPk(x:Option D)(r:Option (List D)):Option (List D):=x.bind λd=>r.bind λr=>some (d::r)
theorem uq:jP [] δ=some []:=rfl
theorem pU:jP (i::l) δ=qPk (aB i δ) (jP l δ):=rfl
theorem J0{ds:List D}:qPk (some d) (some ds)=some (d::ds):=rfl
def qRW(d:Option D)(r:Option (List D)):Option Oc:=d.bind λd=>if flat d=true then r.bind λr=>some (.ex "" "" (.tuple (d::r)))else none
theorem O_:Ci l f δ=qRW (f δ) (jP l δ):=rfl
theorem ZL{r:List D}:qRW (some d) (some r)=if flat d=true then some (.ex "" "" (.tuple (d::r)))else none:=rfl
theorem Tj{fw:FW}:Ft l fw δ=(fw δ).bind λp=>(jP l p.2).bind λr=>some (.ex "" "" (.tuple (p.1::r))):=rfl
theorem Ih{p q:Nat}{b:FS}{ds:List D}:fnW p q l b ds=if ds.length=p then M9 l (b (ds.map (λd=>some (.d d))++bK q none))else none:=rfl
theorem Pa{c y:Str}:M9 l (some (.ex c y d))=some d:=rfl
theorem ZM{δ':DS}:M9 l (some (.nx δ'))=(jP l δ').bind λr=>some (.tuple (.none::r)):=rfl
theorem Pb{c y:Str}{b:FS}:qS (some (.ex c y d)) b=some (.ex c y d):=rfl
theorem Ii:yh f δ=(f δ).bind λ_=>some (.nx δ):=rfl
theorem Dm:JG (.str x) (dS S)=some (.bool (iJ S x).isSome):=by
 show(ssD (ssP S)).bind _=_;rw[nH];rfl
theorem wR:n8 (.str x) (dS S)=some (.bool (!(iJ S x).isSome)):=by
 show(ssD (ssP S)).bind _=_;rw[nH];rfl
theorem Pg:yJ (dS S) (.str x)=(iJ S x).map .int:=by
 show(ssD (ssP S)).bind _=_;rw[nH,aj]
 cases iJ S x<;>rfl
theorem Xb:zW (dS S)=some (.list (S.map λq=>.str q.1)):=by
 show(ssD (ssP S)).bind _=_;rw[nH];rfl
theorem Ph:kW (dS S)=some (.list ((S.map (·.2)).map .int)):=by
 unfold kW CJ dS;dsimp only;rw[nH];rfl
theorem Tp{qs:List (Int×Int)}:kW (dcD qs)=some (.list ((qs.map (·.2)).map .int)):=by
 unfold kW CJ dcD;dsimp only
 cases qs with
 |nil=>rfl
 |cons q qs=>
  show((iiD (((q::qs).map λq=>((.int q.1,.int q.2):D×D)))).map _).bind _=_;rw[G4];rfl
def qIt(x:Option D):Option (List D):=x.bind λx=>match x with
 | .dict kvs=>(ssD kvs).bind λS=>some (itS S)
 |_=>none
theorem Us:Nr f δ=qIt (f δ):=rfl
theorem ZP:qIt (some (dS S))=some (itS S):=by
 show(ssD (ssP S)).bind _=_;rw[nH];rfl
end
section
variable{S:List (Str×Int)}{x y:Str}{v:Int}
theorem wU{q:Str×Int}:iJ (q::S) x=if q.1=x then some q.2 else iJ S x:=by
 unfold iJ;rw[kJ];by_cases c:q.1=x<;>simp[c]
theorem Ij:∀{S:List (Str×Int)},iJ S x=some v->(x,v)∈S
 |[],h=>by cases h
 |q::S,h=>by
  rw[wU]at h;by_cases c:q.1=x
  ·rw[if_pos c]at h;cases h;rw[<-c];exact aA
  ·rw[if_neg c]at h;exact au _ (Ij h)
theorem wV:∀{S:List (Str×Int)},(S.map (·.1)).Nodup->(x,v)∈S->iJ S x=some v
 |[],_,h=>by cases h
 |q::S,hn,h=>by
  rw[wU];obtain⟨n1,n2⟩:=bW.mp hn;rcases aN.mp h with z|z
  ·rw[<-z,if_pos rfl]
  ·rw[if_neg λe=>n1 (by show q.1∈_;rw[e];exact aV.mpr ⟨_,z,rfl⟩),wV n2 z]
theorem wW:∀{S:List (Str×Int)},iJ S x=none<->x∉S.map (·.1)
 |[]=>by simp[iJ]
 |q::S=>by
  rw[wU,aM,aN,not_or];by_cases c:q.1=x
  ·rw[if_pos c];exact⟨λh=>(by cases h),λh=>absurd c.symm h.1⟩
  ·rw[if_neg c,wW (S:=S)];exact⟨λh=>⟨λe=>c e.symm,h⟩,λh=>h.2⟩
theorem Ae(h:x∉S.map (·.1)):jQ S x v=S++[(x,v)]:=by
 unfold jQ;rw[if_neg];intro z;obtain⟨q,h1,h2⟩:=mO.mp z;exact h (aV.mpr ⟨q,h1,of_decide_eq_true h2⟩)
theorem Tq(h:x∈S.map (·.1)):jQ S x v=S.map λq=>if q.1=x then(q.1,v)else q:=by
 unfold jQ;rw[if_pos];obtain⟨q,h1,h2⟩:=aV.mp h;exact mO.mpr ⟨q,h1,dTr h2⟩
end
theorem wX(P:List Gu):(SP P).map (·.1)=P.map (·.1):=by unfold SP;rw[bO];rfl
theorem wY(P:List Gu):(TP P).map (·.1)=P.map (·.1):=by unfold TP;rw[bO];rfl
theorem n_(P:List Gu):(QP P).map (·.1)=P.map (·.2.1):=by unfold QP;rw[bO];rfl
theorem Xc(P:List Gu):(QP P).map (·.2)=P.map (·.2.2):=by unfold QP;rw[bO];rfl
theorem Pj(P:List Gu):(TP P).map (·.2)=P.map (·.2.2):=by unfold TP;rw[bO];rfl
theorem Gb{rs:List Int}{S T:List (Str×Int)}{M:List D}:gY [hD rs S T M]=some (.list (S.map λq=>.str q.1)):=by
 unfold gY;simp![tE,fd1,Xb]
theorem Gd{rs:List Int}{S T:List (Str×Int)}{M:List D}(h:flats M=true):gZ [hD rs S T M]=some (.list M):=by
 have e:z8 (.list M)=some (.list M):=if_pos h;unfold gZ;simp![tE,fd3,e]
theorem Ik:∀qs:List (Int×Int),XS.EY (qs.map mpD)=some qs
 |[]=>rfl
 |q::qs=>by
  show(XS.EY (qs.map mpD)).map _=_;rw[Ik qs];rfl
theorem pG{rs:List Int}{P:List Gu}{M:List D}(hn:(P.map (·.1)).Nodup)(J:(P.map (·.2.1)).Nodup)(O:P.length<=1000):cY [hD rs (SP P) (TP P) M]=some (dcD (QP P)):=by
 have e:fX (gTn 2 (dH (gNl 0) (dH (gNl 1) (lH)))) (D3.uM) (jt (dTup (aD (aB 1) (aD (dOp XI.yJ (XI.uO aY aU 2 (aB 2)) (aB 0)) (bN))))) (jf 2 [0] [some (.d (hD rs (SP P) (TP P) M))]) (itS (SP P))=some ((QP P).map mpD):=by
  have U:itS (SP P)=P.map λq=>dA [.str q.1,.int q.2.1]:=by unfold itS SP;rw[bO];rfl
  have V:(QP P).map mpD=P.map λq=>dA [.int q.2.1,.int q.2.2]:=by unfold QP;rw[bO];rfl
  rw[U,V];refine S7 (λq:Gu=>dA [.str q.1,.int q.2.1]) (λq:Gu=>dA [.int q.2.1,.int q.2.2]) P λq Y=>?_
  refine⟨[some (.d (.str q.1)),some (.d (.int q.2.1)),some (.d (hD rs (SP P) (TP P) M))],rfl,rfl,?_⟩;have Z:iJ (TP P) q.1=some q.2.2:=wV (by rw[wY];exact hn) (aV.mpr ⟨q,Y,rfl⟩);simp![tE,fd2,Pg,Z,d9,sz (show 0+1+1<=1000000 by decide)]
 have X:(itS (SP P)).length<=100000:=by unfold itS SP;rw[ak,ak];omega
 have W:XS.v7 [.list ((QP P).map mpD)]=some (dcD (QP P)):=by
  unfold XS.v7;dsimp only;rw[Ik,aj,if_pos]
  ·rfl
  ·refine⟨?_,by rw[n_];exact J⟩;unfold QP;rw[ak,ak];exact O
 unfold cY;simp![Us,tE,fd1,ZP,X,e,W]
def Dp(x:Str):Prop:=(∀c∈x.cps.toList,97<=c/\c<=122)/\1<=x.length/\x.length<=8
theorem Pk{a b:Nat}:([a]:List Nat) < [b]<->a<b:=by simp[List.cons_lt_cons_iff]
theorem ah8{c:Nat}(h:97<=c):xO (.str "a") (.str ⟨#[c]⟩)=some (.bool true):=by
 unfold xO;dsimp only;have:¬((⟨#[c]⟩:Str).cps.toList<("a":Str).cps.toList):=λz=>by
  have z:([c]:List Nat) < [97]:=z;have:=Pk.mp z;omega
 rw[dFa this];rfl
theorem ah9{c:Nat}(h:c<=122):xO (.str ⟨#[c]⟩) (.str "z")=some (.bool true):=by
 unfold xO;dsimp only;have:¬(("z":Str).cps.toList<(⟨#[c]⟩:Str).cps.toList):=λz=>by
  have z:([122]:List Nat) < [c]:=z;have:=Pk.mp z;omega
 rw[dFa this];rfl
def qSg(x:Option D):Option (List D):=x.bind sI
theorem Xd{f:FE}{δ:DS}:V4 f δ=qSg (f δ):=rfl
theorem ai0{x:Str}(h:∀c∈x.cps.toList,97<=c/\c<=122):qSg (some (.str x))=some (x.cps.toList.map λc=>.str ⟨#[c]⟩):=by
 show sI (.str x)=_;unfold sI;dsimp only;rw[if_pos];rw[<-Array.all_toList,eY];intro c Z;have:=h c Z;exact dTr (by omega)
theorem oh{x:Str}(h:Dp x):jZ [.str x]=some (.bool true):=by
 obtain⟨h1,h2,h3⟩:=h;have Z:D3.isT "str" "str"=true:=rfl;have X:Hh [.str x]=some (.int x.length):=if_pos (by omega);have U:(1:Int)<=x.length:=by omega
 have V:(x.length:Int)<=8:=by omega
 have W:fX (gNl 0) (D3.uM) (mG XI.xO XI.xO (dC (.str "a")) (aB 0) (dC (.str "z"))) (jf 1 [] [some (.d (.str x))]) (x.cps.toList.map λc=>eL ⟨#[c]⟩)=some (x.cps.toList.map λ_=>eh true):=by
  refine S7 (λc:Nat=>eL ⟨#[c]⟩) (λ_=>eh true) x.cps.toList λc Y=>?_
  obtain⟨a,b⟩:=h1 c Y;refine⟨[some (.d (.str ⟨#[c]⟩))],rfl,rfl,?_⟩;simp![ah8 a,ah9 b]
 have ln:(x.cps.toList.map λc=>eL ⟨#[c]⟩).length<=100000:=by
  rw[ak];have:x.cps.toList.length=x.length:=rfl;omega
 have ea:Eh [.list (x.cps.toList.map λ_=>eh true)]=some (.bool true):=by
  rw[Fy (λ_=>true)];simp
 unfold jZ;simp![tyD,Z,gU,X,dTr U,dTr V,Xd,ai0 h1,ln,W,ea]
theorem wZ{rs:List Int}{S T:List (Str×Int)}{M:List D}{x:Str}{v:Int}(h:Dp x)(q:iJ S x=some v):cW [hD rs S T M,.str x]=some .none:=by
 unfold cW;simp![oh h,tE,fd1,wR,q,jh,gU]
theorem J4{rs:List Int}{S T:List (Str×Int)}{M:List D}{x:Str}{v w:Int}(h:Dp x)(q:iJ S x=some v)(hw:iJ T x=some w):gR [hD rs S T M,.str x]=some (.int w):=by
 unfold gR;simp![Ii,q_,Ga,wZ h q,aj,tE,fd2,Pg,hw,d9]
theorem Pn{rs:List Int}{S T:List (Str×Int)}{M:List D}{x:Str}{v w:Int}(h:Dp x)(q:iJ S x=some v)(hw:iJ T x=some w):jz [hD rs S T M,.str x]=some (.tuple [.int v,hD rs (k_ S x) (k_ T x) M]):=by
 unfold jz;simp![Ih,Ii,q_,Ga,wZ h q,aj,Ad,W_,fo2 hw,Xa,cJ,Tj,fo1 q,pU,uq,J0,Pa]
def mv(P:List Gu)(a b:Int):List Gu:=P.map λq=>if q.2.1=a then(q.1,b,q.2.2)else q
theorem Pq(P:List Gu)(a b:Int):(mv P a b).map (·.1)=P.map (·.1):=by
 unfold mv;rw[bO];refine dF λq _=>?_
 show(if q.2.1=a then(q.1,b,q.2.2)else q).1=q.1;split<;>rfl
theorem Ut(P:List Gu)(a b:Int):TP (mv P a b)=TP P:=by
 unfold TP mv;rw[bO];refine dF λq _=>?_
 show((if q.2.1=a then(q.1,b,q.2.2)else q).1,(if q.2.1=a then(q.1,b,q.2.2)else q).2.2)=_;split<;>rfl
theorem Pr:∀(P:List Gu)(a b:Int),(P.map (·.2.1)).Nodup->b∉P.map (·.2.1)->∀x,eE (QP (mv P a b)) x=if x=b then eE (QP P) a else if x=a then none else eE (QP P) x
 |[],a,b,_,_,x=>by
  show eE [] x=if x=b then eE [] a else if x=a then none else eE [] x
  rw[HY,HY];split
  ·rfl
  ·split<;>rfl
 |q::P,a,b,hn,hb,x=>by
  obtain⟨n1,n2⟩:=bW.mp hn;have Y:q.2.1≠b:=λe=>hb (by rw[<-e];exact aA)
  have Z:=Pr P a b n2 (λz=>hb (au _ z)) x;show eE (((if q.2.1=a then(q.1,b,q.2.2)else q).2.1,(if q.2.1=a then(q.1,b,q.2.2)else q).2.2)::QP (mv P a b)) x=if x=b then eE ((q.2.1,q.2.2)::QP P) a else if x=a then none else eE ((q.2.1,q.2.2)::QP P) x
  rw[nF,nF,nF,Z];by_cases c:q.2.1=a
  ·have X:eE (QP P) a=none:=by
    cases e:eE (QP P) a with
    |none=>rfl
    |some w=>exact absurd (by show q.2.1∈_;rw[c,<-n_];exact sZ.mp (by rw[e];rfl)) n1
   simp only[c,if_true]
   grind
  ·simp only[c,if_false]
   grind
theorem ZQ{P:List Gu}{a b:Int}(hn:(P.map (·.2.1)).Nodup)(hb:b∉P.map (·.2.1)):((mv P a b).map (·.2.1)).Nodup:=by
 unfold mv;rw[bO];have:P.map ((λq:Gu=>q.2.1)∘λq=>if q.2.1=a then(q.1,b,q.2.2)else q)=(P.map (·.2.1)).map λr=>if r=a then b else r:=by
  rw[bO];refine dF λq _=>?_
  show(if q.2.1=a then(q.1,b,q.2.2)else q).2.1=if q.2.1=a then b else q.2.1
  split<;>rfl
 rw[this];generalize P.map (·.2.1)=l at hn hb;unfold List.Nodup at hn ⊢;rw[lU];refine eB ?_ hn;intro x y hx Z ne;by_cases c:x=a
 ·rw[if_pos c];by_cases d:y=a
  ·exact absurd (c.trans d.symm) ne
  ·rw[if_neg d];exact λe=>hb (by rw[e];exact Z)
 ·rw[if_neg c];by_cases d:y=a
  ·rw[if_pos d];exact λe=>hb (by rw[<-e];exact hx)
  ·rw[if_neg d];exact ne
theorem Ge{α β:Type}{f:α->β}:∀{l:List α}{x y:α},(l.map f).Nodup->x∈l->y∈l->f x=f y->x=y
 |[],_,_,_,h,_,_=>by cases h
 |z::l,x,y,hn,hx,Z,e=>by
  obtain⟨n1,n2⟩:=bW.mp hn;rcases aN.mp hx with a|a
  ·rcases aN.mp Z with b|b
   ·rw[a,b]
   ·exact absurd (by rw[<-a,e];exact aV.mpr ⟨y,b,rfl⟩) n1
  ·rcases aN.mp Z with b|b
   ·exact absurd (by rw[<-b,<-e];exact aV.mpr ⟨x,a,rfl⟩) n1
   ·exact Ge n2 a b e
theorem Tr{rs:List Int}{P:List Gu}{M:List D}{a b:Int}{q0:Gu}(hn:(P.map (·.1)).Nodup)(O:(P.map (·.2.1)).Nodup)(hl:P.length<1000)(hM:M.length<1000000)(J:q0∈P)(ha:q0.2.1=a):
 dN [hD rs (SP P) (TP P) M,.int a,.int b]=some (.tuple [.none,hD rs (SP (mv P a b)) (TP (mv P a b)) (M++[.tuple [.str q0.1,.int a,.int b]])]):=by
 have S:P.filter (λq=>decide (q.2.1=a))=[q0]:=by
  have Z:∀P:List Gu,(P.map (·.2.1)).Nodup->q0∈P->P.filter (λq=>decide (q.2.1=a))=[q0]:=by
   intro P
   induction P with
   |nil=>intro _ h;cases h
   |cons q P X=>
    intro O J;obtain⟨n1,n2⟩:=bW.mp O;rcases aN.mp J with z|z
    ·subst z;rw[mU (by simpa using ha),List.filter_eq_nil_iff.mpr];intro x hx e;exact n1 (by show q0.2.1∈_;rw[ha,<-of_decide_eq_true e];exact aV.mpr ⟨x,hx,rfl⟩)
    ·rw[mV,X n2 z];intro e;exact n1 (by show q.2.1∈_;rw[of_decide_eq_true e,<-ha];exact aV.mpr ⟨q0,z,rfl⟩)
  exact Z P O J
 have e:∀y:Option U,fX (gTn 2 (dH (gNl 0) (dH (gNl 1) (lH)))) (cI (dOp gEq (aB 1) (aB 2))) (jt (aB 0)) (jf 2 [1] [some (.d (hD rs (SP P) (TP P) M)),some (.d (.int a)),some (.d (.int b)),y]) (itS (SP P))=some [.str q0.1]:=λy=>by
  have R:itS (SP P)=P.map λq=>dA [.str q.1,.int q.2.1]:=by unfold itS SP;rw[bO];rfl
  have:=CZ (g:=(gTn 2 (dH (gNl 0) (dH (gNl 1) (lH))))) (c:=(cI (dOp gEq (aB 1) (aB 2)))) (e:=(jt (aB 0))) (δ:=jf 2 [1] [some (.d (hD rs (SP P) (TP P) M)),some (.d (.int a)),some (.d (.int b)),y]) (λq:Gu=>dA [.str q.1,.int q.2.1]) (λq=>decide (q.2.1=a)) (λq:Gu=>eL q.1) P λq Y=>?_
  ·rw[R,this,S];rfl
  ·refine⟨[some (.d (.str q.1)),some (.d (.int q.2.1)),some (.d (.int a))],rfl,?_,λ_=>?_⟩
   ·simp![]
   ·simp![]
 have T:(itS (SP P)).length<=100000:=by unfold itS SP;rw[ak,ak];omega
 have V:jQ (SP P) q0.1 b=SP (mv P a b):=by
  rw[Tq (by rw[wX];exact aV.mpr ⟨q0,J,rfl⟩)];unfold SP mv;rw[bO,bO];refine dF λq Y=>?_
  show(if q.1=q0.1 then(q.1,b)else(q.1,q.2.1))=((if q.2.1=a then(q.1,b,q.2.2)else q).1,(if q.2.1=a then(q.1,b,q.2.2)else q).2.1);have:q.1=q0.1<->q.2.1=a:=by
   constructor
   ·intro z;have:q=q0:=Ge hn Y J z;rw[this,ha]
   ·intro z;have:q=q0:=Ge O Y J (z.trans ha.symm);rw[this]
  by_cases c:q.2.1=a
  ·rw[if_pos (this.mpr c),if_pos c]
  ·rw[if_neg (λz=>c (this.mp z)),if_neg c]
 have W:(SP P).length<1000:=by unfold SP;rw[ak];exact hl
 have ft:flat (.tuple [.str q0.1,.int a,.int b])=true:=rfl;rw[Ut];unfold dN;simp![Ih,Us,tE,fd1,ZP,T,e,at0,O9,fp1 W,cJ,V,W9,sz (show 0+1+1+1<=1000000 by decide),fa3 ft hM,ZM,pU,uq,J0,aj]
section
variable{f g:FX}{fs:FS}{ft:FT}{fe:FE}{δ δ':DS}{l:List Nat}{c y:Str}{d:D}{o:Oc}
def qXS(o:Option Or)(g:FX):Option Or:=o.bind λo=>match o with
 | .o (.nx δ')=>g δ'
 |o=>some o
theorem Uu:xK f g δ=qXS (f δ) g:=rfl
theorem Uv:qXS (some (.o (.nx δ'))) g=g δ':=(rfl)
theorem ZR:qXS (some (.ex c d)) g=some (.ex c d):=rfl
def qXI(t:Option Bool)(f g:FX)(δ:DS):Option Or:=t.bind λb=>if b=true then f δ else g δ
theorem ZS:xIf ft f g δ=qXI (ft δ) f g δ:=rfl
theorem ai1:qXI (some true) f g δ=f δ:=(rfl)
theorem ZV:qXI (some false) f g δ=g δ:=(rfl)
def qXO(o:Option Oc):Option Or:=o.bind λo=>some (.o o)
theorem ZW:xOf fs δ=qXO (fs δ):=rfl
theorem ZX:qXO (some o)=some (.o o):=rfl
theorem x_raise:zX l c fe δ=(fe δ).bind λd=>(jP l δ).bind λr=>some (.ex c (.tuple (d::r))):=rfl
theorem Xe:Ny l fe δ=(fe δ).bind λ_=>(jP l δ).bind λr=>some (.o (.ex "" "" (.tuple (.none::r)))):=rfl
theorem Z0{p q:Nat}{ds:List D}:NK p q l f ds=if ds.length=p then Nz l (f (ds.map (λd=>some (.d d))++bK q none))else none:=rfl
theorem Z1:Nz l (some (.ex c d))=some (.ex c d):=rfl
theorem ai2:Nz l (some (.o (.ex c y d)))=some (.o (.ex c y d)):=rfl
end
theorem Gmv{rs:List Int}{P:List Gu}{a b w:Int}(G:Gst rs (QP P))(ha:eE (QP P) a=some w)(hb:eE (QP P) b=none)(b0:0<=b)(b1:b<rs.length)(hw:w<=rs.getD b.toNat 0):Gst rs (QP (mv P a b)):=by
 have nr:(P.map (·.2.1)).Nodup:=by rw[<-n_];exact G.nd
 have X:b∉P.map (·.2.1):=λz=>by
  rw[<-n_]at z;have:=sZ.mpr z;rw[hb]at this
  cases this
 refine⟨by rw[n_];exact ZQ nr X,λq Y=>?_⟩;unfold QP mv at Y;rw[bO]at Y;obtain⟨p,W,rfl⟩:=aV.mp Y;have Z:(p.2.1,p.2.2)∈QP P:=aV.mpr ⟨p,W,rfl⟩;obtain⟨g1,g2,g3,V⟩:=G.rg _ Z;dsimp only[Function.comp];by_cases c:p.2.1=a
 ·rw[if_pos c];have:=je G.nd Z;rw[c,ha]at this
  cases this;exact⟨b0,b1,g3,hw⟩
 ·rw[if_neg c];exact⟨g1,g2,g3,V⟩
def Mv(d:D):Prop:=∃n a b,d = .tuple [.str n,.int a,.int b]
theorem Dq:∀{M:List D},(∀d∈M,Mv d)->flats M=true
 |[],_=>rfl
 |d::M,h=>by
  obtain⟨n,a,b,rfl⟩:=h d aA;rw[flats,Dq λd hd=>h d (au _ hd)];rfl
theorem w6{rs:List Int}{qs:List (Int×Int)}{d1 d2 d3:D}(hl:rs.length<=60):∀(ps:List (Int×Int))(P:List Gu)(M:List D)(g b e:Int)(y z:Option U),Gst rs (QP P)->(P.map (·.1)).Nodup->eE (QP P) g=none->0<=g->g<rs.length->b<=rs.getD g.toNat 0->LkR ps b e ->
 (∀p∈ps,eE (QP P) (gmR rs qs p.1 p.2)=some p.2/\p.1<=rs.getD (gmR rs qs p.1 p.2).toNat 0)->ps.Pairwise (λp q=>p.2<q.2)->M.length+ps.length<1000000->(∀d∈M,Mv d) ->
 ∃J O y' z',mW (gTn 2 (dH (gNl 4) (dH (gNl 5) (lH)))) (XI.mK (XI.ud dN aY aU 0 (aD (aB 4) (aD (aB 5) (bN))) [0])) ((mvs rs qs ps g).map mpD) [some (.d (hD rs (SP P) (TP P) M)),some (.d d1),some (.d d2),some (.d d3),y,z]=some (.nx [some (.d (hD rs (SP J) (TP J) O)),some (.d d1),some (.d d2),some (.d d3),y',z']) /\
  J.map (·.1)=P.map (·.1)/\TP J=TP P/\Gst rs (QP J)/\eE (QP J) (gl rs qs ps g)=none/\0<=gl rs qs ps g/\gl rs qs ps g<rs.length/\e<=rs.getD (gl rs qs ps g).toNat 0/\O.length=M.length+ps.length/\∀d∈O,Mv d
 |[],P,M,g,b,e,y,z,G,hn,k0,g1,g2,hb,lk,_,_,Q,fM=>by
  cases lk;exact⟨P,M,y,z,rfl,rfl,rfl,G,k0,g1,g2,hb,rfl,fM⟩
 |p::ps,P,M,g,b,e,y,z,G,hn,k0,g1,g2,hb,lk,R,W,Q,fM=>by
  cases lk with
  |cons l1 l2=>
  obtain⟨kp,L⟩:=R p aA;obtain⟨i1,i2⟩:=dg.mp W;rw[aW]at Q;have mem:=vp kp;obtain⟨q1,q2,q3,q4⟩:=G.rg _ mem;simp only at q1 q2 q3 q4;have nr:(P.map (·.2.1)).Nodup:=by rw[<-n_];exact G.nd
  have I:g∉P.map (·.2.1):=λz=>by
   rw[<-n_]at z;have:=sZ.mpr z;rw[k0]at this
   cases this
  have K:gmR rs qs p.1 p.2≠g:=λz=>by rw[z,k0]at kp;cases kp
  have kn:=Pr P (gmR rs qs p.1 p.2) g nr I;have w:=Gmv G kp k0 g1 g2 (by omega);obtain⟨q0,H,x⟩:=aV.mp mem;have T:q0.2.1=gmR rs qs p.1 p.2:=congrArg Prod.fst x;have ln:P.length<1000:=by
   have:=G.len;unfold QP at this;rw[ak]at this;omega
  have em:=Tr (rs:=rs) (M:=M) (b:=g) hn nr ln (by omega) H T;obtain⟨J,O,y',z',N,A,B,e4,e5,e6,C,E,F,V⟩:=w6 (qs:=qs) (d1:=d1) (d2:=d2) (d3:=d3) hl ps (mv P (gmR rs qs p.1 p.2) g) (M++[.tuple [.str q0.1,.int (gmR rs qs p.1 p.2),.int g]]) (gmR rs qs p.1 p.2) p.1 e (some (.d (.int (gmR rs qs p.1 p.2)))) (some (.d (.int g))) w (by rw[Pq];exact hn) (by rw[kn,if_neg K,if_pos rfl]) q1 q2 L l2 (λS Y=>by
   obtain⟨Z,X⟩:=R S (au _ Y);refine⟨?_,X⟩;have lt:=i1 S Y;rw[kn,if_neg (λz=>by rw[z,k0]at Z;cases Z),if_neg (λz=>by rw[z,kp]at Z;injection Z with v;omega)];exact Z) i2 (by rw[bw];simp only[aW,dZ];omega) (λd hd=>by
    rcases b_.mp hd with z|z
    ·exact fM d z
    ·exact⟨_,_,_,bJ.mp z⟩)
  refine⟨J,O,y',z',?_,by rw[A,Pq],by rw[B,Ut],e4,e5,e6,C,E,by rw[F,bw];simp only[aW,dZ];omega,V⟩;rw[mvs,aM,mW];have fn:flat .none=true:=rfl;unfold mpD at N ⊢;simp![aj,Ad,Ig,ZK em fn,Xa,cJ];exact N
theorem Xf{rs:List Int}{qs:List (Int×Int)}{f:Int}{r:List Int}(G:Gst rs qs)(h:Ch rs qs f r):1<=f->(r.length:Int)<f:=by
 induction h with
 |stop c=>intro Y;simp;omega
 |step c X W Z=>
  intro Y;have:=Z (wO G X);simp only[aW];omega
theorem Z2{s:Str}(h:PyData.strOk s=true):ly 1 (.str s):=⟨by rw[dv];exact h,by simp[dQ]⟩
theorem Il:ly 1 (.str "full"):=Z2 (by decide +kernel)
theorem Z4:gEq (.str "full") (.str "full")=some (.bool true):=Com.eq_self (HW Il (by decide))
theorem eq_if:gEq (.str "in") (.str "full")=some (.bool false):=by
 unfold gEq;rw[um (HW (Z2 (s := "in") (by decide +kernel)) (by decide)),um (HW Il (by decide)),if_pos (by rfl)];have:ef (.str "in") (.str "full")=false:=by rw[ef];decide +kernel
 rw[this]
theorem uK{k:Nat}(h1:1<=k)(h2:k<=4):cX [.int (k:Int),.int 1,.int 4]=some (.bool true):=by
 have a:(1:Int)<=k:=by omega
 have b:(k:Int)<=4:=by omega
 have w:Com.jm [.int (k:Int)]=some (.bool true):=by
  unfold Com.jm;simp![];rfl
 show Com.cX _=_;unfold Com.cX;simp![w,dTr a,dTr b]
structure Hou(rs:List Int)(P:List Gu)(M:List D):Prop where
 rl:rs.length<=12
 rk:∀r∈rs,1<=r/\r<=4
 nd:(P.map (·.1)).Nodup
 gs:Gst rs (QP P)
 fM:∀d∈M,Mv d
theorem Hou.nr{rs:List Int}{P:List Gu}{M:List D}(h:Hou rs P M):(P.map (·.2.1)).Nodup:=by rw[<-n_];exact h.gs.nd
theorem Hou.len{rs:List Int}{P:List Gu}{M:List D}(h:Hou rs P M):P.length<=12:=by
 have:=h.gs.len;unfold QP at this;rw[ak]at this;have:=h.rl;omega
theorem Dr{rs:List Int}{P:List Gu}{M:List D}{x:Str}{k:Nat}(h:Hou rs P M)(hx:Dp x)(nx:x∉P.map (·.1))(h1:1<=k)(h2:k<=4)(hM:M.length<900000):
 (∃L,lvM rs (QP P) k=some L/\cQ [hD rs (SP P) (TP P) M,.str x,.int (k:Int)]=some (.ex "Full" (.tuple [.int L,hD rs (SP P) (TP P) M]))) \/
 (lvM rs (QP P) k=none/\∃J O g,cQ [hD rs (SP P) (TP P) M,.str x,.int (k:Int)]=some (.o (.ex "" "" (.tuple [.none,hD rs (SP (J++[(x,g,(k:Int))])) (TP (J++[(x,g,(k:Int))])) O])))/\TP J=TP P/\Hou rs (J++[(x,g,(k:Int))]) O/\O.length<=M.length+4):=by
 have G:=h.gs;have hl:=h.rl;have Z:rs.length<=60:=by omega
 have R:=pG (rs:=rs) (M:=M) h.nd h.nr (by have:=h.len;omega);have E:iJ (SP P) x=none:=wW.mpr (by rw[wX];exact nx);rcases Ur G k (k:Int) (by omega) (by omega)with⟨r,V⟩|hd
 ·right
  have H:lvM rs (QP P) k=none:=by
   cases e:lvM rs (QP P) k with
   |none=>rfl
   |some L=>
    obtain⟨h1,h2,h3,_⟩:=pF e;rw[O1 G V L h1 h2]at h3
    cases h3
  refine⟨H,?_⟩;obtain⟨pre,l,t,F⟩:=Ti V;obtain⟨X,gs,u⟩:∃X gs,frR rs (QP P) l=X::gs:=by
   cases e:frR rs (QP P) l with
   |nil=>exact absurd e F
   |cons a b=>exact⟨a,b,rfl⟩
  have d:=Xf G V (by omega);have hlen:((k:Int)::r).length<=1000:=by simp only[aW];omega
  have ad:=Dk G Z (by omega) (by omega) V t hlen u;rw[W6]at ad;dsimp only at ad;obtain⟨f1,f2,f3⟩:=Fz.mp (show X∈frR rs (QP P) l by rw[u];exact aA);obtain⟨e,lk,hfe⟩:=ZG V pre l l t (gq _);have f:=O3 V;have s:(((k:Int)::r).zip r).reverse.length<=4:=by
   rw[eG,List.length_zip];simp only[aW];omega
  generalize S:(((k:Int)::r).zip r).reverse=ps at ad lk s;obtain⟨J,O,y',z',U,T,i,y,A,B,C,j,m9,I⟩:=w6 (qs:=QP P) (d1:=.str x) (d2:=.int (k:Int)) (d3:=.tuple [.str "in", .list ((mvs rs (QP P) ps (X:Int)).map mpD),.int (gl rs (QP P) ps (X:Int)),.list (((k:Int)::r).map .int)]) Z ps P M (X:Int) l e none none G h.nd f3 (by omega) (by omega) (by simpa using f2) lk (λp v=>by
   rw[<-S]at v;obtain⟨_,_,_,n⟩:=f p (List.mem_reverse.mp v);obtain⟨_,_,U,T⟩:=O2 G n;exact⟨je G.nd U,T⟩) (by rw[<-S];exact W8 V) (by omega) h.fM
  generalize hgl:gl rs (QP P) ps (X:Int)=Y at ad U A B C j;generalize hmm:(mvs rs (QP P) ps (X:Int)).map mpD=MM at ad U;generalize ((k:Int)::r).map da=FF at ad U;have W:x∉J.map (·.1):=by rw[T];exact nx
  have l1:J.length=P.length:=by
   have:=congrArg lQ T;simpa using this
  have pl:=h.len;have s1:(SP J).length<1000:=by unfold SP;rw[ak];omega
  have m:(TP J).length<1000:=by unfold TP;rw[ak];omega
  have K:jQ (SP J) x Y=SP (J++[(x,Y,(k:Int))]):=by rw[Ae (by rw[wX];exact W)];unfold SP;rw[bI];rfl
  have N:jQ (TP J) x (k:Int)=TP (J++[(x,Y,(k:Int))]):=by rw[Ae (by rw[wY];exact W)];unfold TP;rw[bI];rfl
  refine⟨J,O,Y,?_,i,⟨hl,h.rk,?_,?_,I⟩,by omega⟩
  ·unfold cQ;simp![Z0,Uu,ZS,ZW,oh hx,gU,ZV,ZX,Uv,tE,fd1,Dm,E,lF,uK h1 h2,fd0,q_,Ga,R,ad,at0,eq_if,at1,at2,at3,U,O9,fp1 s1,cJ,K,fp2 m,N,Xe,sz (show 0+1+1<=1000000 by decide),aj,pU,uq,J0,ai2]
  ·rw[bI];exact cO.mpr ⟨by rw[T];exact h.nd,by simp,λa ha b hb e=>by simp at hb;rw[e,hb]at ha;exact W ha⟩
  ·have e1:QP (J++[(x,Y,(k:Int))])=QP J++[(Y,(k:Int))]:=by unfold QP;rw[bI];rfl
   rw[e1];refine⟨?_,λq c=>?_⟩
   ·rw[bI];exact cO.mpr ⟨y.nd,by simp,λa ha b hb e=>by
     simp at hb;have:=sZ.mpr (show Y∈(QP J).map (·.1)by rw[<-hb,<-e];exact ha);rw[A]at this
     cases this⟩
   ·rcases b_.mp c with z|z
    ·exact y.rg q z
    ·simp at z;subst z;exact⟨B,C,by show(1:Int)<=k;omega,by show(k:Int)<=rs.getD Y.toNat 0;omega⟩
 ·left
  obtain⟨L0,l1,l2,w⟩:=FP G hd (by omega);have Q:∃L,lvM rs (QP P) k=some L:=by
   cases e:lvM rs (QP P) k with
   |some L=>exact⟨L,rfl⟩
   |none=>rw[wQ e L0 l1 l2]at w;cases w
  obtain⟨L,Q⟩:=Q;have ad:=xR G (by omega) h1 (by omega) hd Q;refine⟨L,Q,?_⟩;unfold cQ;simp![Z0,Uu,ZS,ZW,oh hx,gU,ZV,ai1,ZX,Uv,ZR,tE,fd1,Dm,E,lF,uK h1 h2,fd0,q_,Ga,R,ad,at0,Z4,at1,x_raise,aj,pU,uq,J0,Z1]
theorem Im{ns:List Int}(h:ns.length<64):wM [.list (ns.map .int)]=some (.list ((jW ns).reverse.map .int)):=by
 show(iz (ns.map .int)).bind _=_;rw[jY,aj,if_pos h]
theorem J5{rs ws:List Int}(h1:rs.length<64)(h2:ws.length<64):∃b,jy [.list (rs.map .int),.list (ws.map .int)]=some (.bool b)/\(b=true<->∀L,Ho.ge ws L<=Ho.ge rs L):=by
 have s1:=Im h1;have s2:=Im h2;have l2:(jW ws).reverse.length=ws.length:=by rw[eG,(dY ws).length_eq]
 have Z:=Ho.O6 (h_.mpr (ju ws)) (h_.mpr (ju rs));simp only[Ho.Ac ((lR _).trans (dY rs)),Ho.Ac ((lR _).trans (dY ws))]at Z;generalize (jW rs).reverse=R at s1 Z;generalize (jW ws).reverse=W at s2 l2 Z;by_cases c:R.length<W.length
 ·refine⟨false,?_,λz=>by(cases z),λz=>by have:=(Z.mpr z).1;omega⟩;unfold jy;simp![s1,s2,lMp,dTr (show(R.length:Int)<W.length by omega)]
 ·have e:fX (gNl 0) (D3.uM) (dOp gLe (dOp gIx (aB 1) (aB 0)) (dOp gIx (aB 2) (aB 0))) (jf 1 [3,2] [some (.d (.list (rs.map .int))),some (.d (.list (ws.map .int))),some (.d (.list (R.map .int))),some (.d (.list (W.map .int)))]) (gO 0 (W.length:Int))=some ((bH W.length).map λi=>eh (decide (W.getD i 0<=R.getD i 0))):=by
   rw[HS,jC];refine S7 (λi:Nat=>da (i:Int)) _ (bH W.length) λi hi=>?_
   have hi:=cA.mp hi;refine⟨[some (.d (.int (i:Int))),some (.d (.list (W.map .int))),some (.d (.list (R.map .int)))],rfl,rfl,?_⟩;simp![kE (ns:=W) (i:=(i:Int)) (by omega) (by omega),kE (ns:=R) (i:=(i:Int)) (by omega) (by omega),jC]
  have X:(gO 0 (W.length:Int)).length<=100000:=by rw[vo];omega
  refine⟨(bH W.length).all λi=>decide (W.getD i 0<=R.getD i 0),?_,?_⟩
  ·unfold jy;simp![s1,s2,lMp,dFa (show ¬(R.length:Int)<W.length by omega),Oj (show -(2^62)<=(W.length:Int)by omega) (show(W.length:Int)<2^62 by omega),X,e,Fy (λi=>decide (W.getD i 0<=R.getD i 0))]
  ·rw[eY,<-Z]
   constructor
   ·intro z;refine⟨by omega,λi w r hw Y=>?_⟩;have:=of_decide_eq_true (z i (cA.mpr (aQ.mp hw).1));rwa[bL,bL,hw,Y]at this
   ·rintro⟨_,z⟩ i hi;have hi:=cA.mp hi;refine dTr (z i _ _ ?_ ?_)
    ·rw[bL,aF hi];rfl
    ·rw[bL,aF (show i<R.length by omega)];rfl
theorem Af{rs ws:List Int}{L:Int}(h1:rs.length<64)(h2:ws.length<64)(h:Ho.ge ws L=Ho.ge rs L):iM [.list (rs.map .int),.list (ws.map .int),.int L]=some (.bool true):=by
 have go:∀(l:List Int)(y:DS),l.length<64->y[2]? = some (some (.d (.int L)))->fX (gNl 0) (cI (dOp gGe (aB 0) (aB 1))) (jt (aB 0)) (jf 1 [2] y) (l.map .int)=some ((l.filter λx=>decide (L<=x)).map .int):=λl y _ Z=>by
  refine CZ da _ da l λx _=>⟨[some (.d (.int x)),some (.d (.int L))],?_,?_,λ_=>?_⟩
  ·unfold jf;simp[Z];rfl
  ·simp![]
  ·simp![]
 have X:ws.length<=100000:=by omega
 have Y:rs.length<=100000:=by omega
 unfold Ho.ge at h;unfold iM;simp![X,Y,go ws [some (.d (.list (rs.map .int))),some (.d (.list (ws.map .int))),some (.d (.int L)),none] h2 rfl,lMp,go rs [some (.d (.list (rs.map .int))),some (.d (.list (ws.map .int))),some (.d (.int L)),some (.d (.int (((rs.filter λx=>decide (L<=x)).length:Nat):Int)))] h1 rfl,h,dTr (Eq.refl _)]
theorem Ag{l:List Int}(h:∀x∈l,1<=x){L:Int}(q:L<=1):Ho.ge l L=Ho.ge l 1:=by
 unfold Ho.ge;rw[rG];intro x hx;have:=h x hx;rw[dTr this,dTr (show L<=x by omega)]
theorem Pu(rs:List Int)(L:Int):Ho.ge rs L=((bH rs.length).filter λr=>decide (L<=rs.getD r 0)).length:=by
 have e:rs=(bH rs.length).map λr=>rs.getD r 0:=by
  refine List.ext_getElem (by simp) λi h1 h2=>?_
  simp[bL,aF h1]
 unfold Ho.ge
 conv=>lhs;rw[e]
 rw[jg,ak];rfl
theorem lM{rs:List Int}{P:List Gu}{M:List D}{L:Int}(h:Hou rs P M)(J:1<=L):Ho.ge (P.map (·.2.2)) L<=Ho.ge rs L/\(lvR rs (QP P) L=true<->Ho.ge (P.map (·.2.2)) L=Ho.ge rs L):=by
 have G:=h.gs;have rg:∀q∈P,0<=q.2.1/\q.2.1<rs.length/\1<=q.2.2/\q.2.2<=rs.getD q.2.1.toNat 0:=λq Z=>G.rg (q.2.1,q.2.2) (aV.mpr ⟨q,Z,rfl⟩)
 have S:Ho.ge (P.map (·.2.2)) L=((P.filter λq=>decide (L<=q.2.2)).map λq=>q.2.1.toNat).length:=by
  unfold Ho.ge;rw[jg,ak,ak];rfl
 have V:((bH rs.length).filter λr=>decide (L<=rs.getD r 0)).Nodup:=List.nodup_range.filter _;have X:((P.filter λq=>decide (L<=q.2.2)).map λq=>q.2.1.toNat).Nodup:=by
  have U:(P.map λq=>q.2.1.toNat).Nodup:=by
   have:=h.nr;unfold List.Nodup at this ⊢;rw[lU]at this ⊢;refine eB ?_ this;intro a b ha hb ne;have:=rg a ha;have:=rg b hb;omega
  exact U.sublist (pW.map _)
 have sub:((P.filter λq=>decide (L<=q.2.2)).map λq=>q.2.1.toNat) ⊆ (bH rs.length).filter λr=>decide (L<=rs.getD r 0):=by
  intro r Y;obtain⟨q,Z,rfl⟩:=aV.mp Y;obtain⟨q1,q2⟩:=bZ.mp Z;have:=rg q q1;have q2:=of_decide_eq_true q2;exact bZ.mpr ⟨cA.mpr (by omega),dTr (by omega)⟩
 rw[S,Pu];refine⟨d4 X sub,?_⟩;have le:=d4 X sub;have W:∀r:Nat,r<rs.length->(L<=(eE (QP P) (r:Int)).getD 0<->r∈(P.filter λq=>decide (L<=q.2.2)).map λq=>q.2.1.toNat):=λr Y=>by
  constructor
  ·intro z
   cases e:eE (QP P) (r:Int)with
   |none=>rw[e]at z;simp at z;omega
   |some w=>
    rw[e]at z;obtain⟨q,Z,eq⟩:=aV.mp (vp e);have Q:q.2.1=r:=congrArg Prod.fst eq;have R:q.2.2=w:=congrArg Prod.snd eq;exact aV.mpr ⟨q,bZ.mpr ⟨Z,dTr (by rw[R];exact z)⟩,by rw[Q];rfl⟩
  ·intro z;obtain⟨q,Z,e⟩:=aV.mp z;obtain⟨q1,q2⟩:=bZ.mp Z;have:=rg q q1;have O:q.2.1=(r:Int):=by omega
   have:=je (i:=(r:Int)) (j:=q.2.2) G.nd (aV.mpr ⟨q,q1,by rw[O]⟩);rw[this];exact of_decide_eq_true q2
 rw[Aa];generalize ((P.filter λq=>decide (L<=q.2.2)).map λq=>q.2.1.toNat)=B at *
 constructor
 ·intro z;have:((bH rs.length).filter λr=>decide (L<=rs.getD r 0)) ⊆ B:=λr Y=>by
   obtain⟨r1,r2⟩:=bZ.mp Y;have r1:=cA.mp r1;exact(W r r1).mp (z r r1 (of_decide_eq_true r2))
  have:=d4 V this;omega
 ·intro z r h1 h2;refine(W r h1).mpr (Classical.byContradiction λc=>?_);have:=d4 (bW.mpr ⟨c,X⟩) (show r::B ⊆ (bH rs.length).filter λr=>decide (L<=rs.getD r 0)from λy T=>by
   rcases aN.mp T with e|e
   ·rw[e];exact bZ.mpr ⟨cA.mpr h1,dTr h2⟩
   ·exact sub e)
  rw[aW]at this;omega
theorem Px{rs:List Int}{P:List Gu}{M:List D}{k:Nat}(h:Hou rs P M)(J:1<=k):(∀L,Ho.ge (P.map (·.2.2)++[(k:Int)]) L<=Ho.ge rs L)<->lvM rs (QP P) k=none:=by
 have lo1:∀x∈P.map (·.2.2),(1:Int)<=x:=λx hx=>by
  obtain⟨q,X,rfl⟩:=aV.mp hx;exact(h.gs.rg (q.2.1,q.2.2) (aV.mpr ⟨q,X,rfl⟩)).2.2.1
 have Z:∀x∈rs,(1:Int)<=x:=λx hx=>(h.rk x hx).1
 have all:∀L,Ho.ge (P.map (·.2.2)) L<=Ho.ge rs L:=λL=>by
  by_cases c:1<=L
  ·exact(lM h c).1
  ·rw[Ag lo1 (by omega),Ag Z (by omega)];exact(lM h (gq 1)).1
 have e:∀L,Ho.ge (P.map (·.2.2)++[(k:Int)]) L=Ho.ge ((k:Int)::P.map (·.2.2)) L:=Ho.Ac List.perm_append_comm;simp only[e];rw[Ho.O7 all]
 constructor
 ·intro z
  cases V:lvM rs (QP P) k with
  |none=>rfl
  |some L=>
   obtain⟨l1,l2,Y,_⟩:=pF V;exact absurd ((lM h l1).2.mp Y) (z L l2)
 ·intro z L W eq;have go:∀L:Int,1<=L->L<=k->Ho.ge (P.map (·.2.2)) L=Ho.ge rs L->False:=λL l1 l2 Y=>by
   have:=(lM h l1).2.mpr Y;rw[wQ z L l1 l2]at this
   cases this
  by_cases c:1<=L
  ·exact go L c W eq
  ·rw[Ag lo1 (by omega),Ag Z (by omega)]at eq;exact go 1 (gq 1) (by omega) eq
theorem Gf{n:Nat}:∀l:List D,(∀d∈l,d.depth<=n)->di l<=n
 |[],_=>by simp[di]
 |a::r,h=>by
  have h1:=h a aA;have h2:=Gf r λd hd=>h d (au _ hd)
  simp only[di];omega
theorem Tt{t:D}(hb:Bv t=true)(hd:t.depth<=60)(hn:noK t=true):v5 t t=some (.bool true):=by
 cases h:dr t with
 |false=>exact Lw h hb (by omega) hn
 |true=>exact GQ (Com.eq_self ⟨aS h,hd⟩)
theorem Py:∀qs:List (Int×Int),PyData.depthKv (qs.map λq=>((.int q.1,.int q.2):D×D))<=1
 |[]=>by simp[PyData.depthKv]
 |q::qs=>by
  have:=Py qs;rw[aM];simp only[PyData.depthKv,dQ];omega
theorem Tv{P:List Gu}{M:List D}(J:∀d∈M,Mv d):v5 (.list [.list ((SP P).map λq=>.str q.1),dcD (QP P),.list M]) (.list [.list ((SP P).map λq=>.str q.1),dcD (QP P),.list M])=some (.bool true):=by
 refine Tt rfl ?_ ?_
 ·have d1:di ((SP P).map λq=>.str q.1)<=1:=Gf _ λd hd=>by
   obtain⟨q,_,rfl⟩:=aV.mp hd;simp[dQ]
  have d2:=Py (QP P);have Z:di M<=5:=Gf _ λd hd=>by
   obtain⟨n,a,b,rfl⟩:=J d hd;simp[dQ,di]
  unfold dcD;simp only[dQ,di];omega
 ·have n1:xJ ((SP P).map λq=>.str q.1)=true:=vZ _ λd hd=>by
   obtain⟨q,_,rfl⟩:=aV.mp hd;rfl
  have n2:noK (dcD (QP P))=true:=by
   unfold dcD;rw[noK,G4];rfl
  have n3:xJ M=true:=vZ _ λd hd=>by
   obtain⟨n,a,b,rfl⟩:=J d hd;rfl
  simp only[noK,xJ,n1,n2,n3,Bool.and_self]
section
variable{H y:D}{rs:List Int}{S T:List (Str×Int)}{M:List D}{d1 d2 d5 d6 y8:Option U}{x:Str}{k L:Int}
theorem Pz(h:cQ [hD rs S T M,.str x,.int k]=some (.ex "Full" (.tuple [.int L,y]))):
 wL 8 (uh cQ aY aU 0 (aD (aB 3) (aD (aB 4) (bN))) [0]) ["Full"] (λc d=>cG 7 (dC d)) [some (.d (hD rs S T M)),d1,d2,some (.d (.str x)),some (.d (.int k)),d5,d6,some (.d .none),y8]=some (.nx [some (.d y),d1,d2,some (.d (.str x)),some (.d (.int k)),d5,d6,some (.d (.int L)),none]):=by
 unfold wL uh;rw[show aB 0 [some (.d (hD rs S T M)),d1,d2,some (.d (.str x)),some (.d (.int k)),d5,d6,some (.d .none),y8]=some (hD rs S T M)from rfl,aj,hC,aj];rw[show(aD (aB 3) (aD (aB 4) (bN))) [some (.d (hD rs S T M)),d1,d2,some (.d (.str x)),some (.d (.int k)),d5,d6,some (.d .none),y8]=some [.str x,.int k]from rfl,aj,h];rfl
theorem Xg(h:cQ [hD rs S T M,.str x,.int k]=some (.o (.ex "" "" (.tuple [.none,y])))):
 wL 8 (uh cQ aY aU 0 (aD (aB 3) (aD (aB 4) (bN))) [0]) ["Full"] (λc d=>cG 7 (dC d)) [some (.d (hD rs S T M)),d1,d2,some (.d (.str x)),some (.d (.int k)),d5,d6,some (.d .none),y8]=some (.nx [some (.d y),d1,d2,some (.d (.str x)),some (.d (.int k)),d5,d6,some (.d .none),y8]):=by
 unfold wL uh;rw[show aB 0 [some (.d (hD rs S T M)),d1,d2,some (.d (.str x)),some (.d (.int k)),d5,d6,some (.d .none),y8]=some (hD rs S T M)from rfl,aj,hC,aj];rw[show(aD (aB 3) (aD (aB 4) (bN))) [some (.d (hD rs S T M)),d1,d2,some (.d (.str x)),some (.d (.int k)),d5,d6,some (.d .none),y8]=some [.str x,.int k]from rfl,aj,h];rfl
theorem ai3{δ:DS}{i:Nat}{fk f:FE}(h1:f δ=some (.int k))(h2:aB i δ=some (dS T))(h3:fk δ=some (.str x))(q:T.length<1000):Cw i fk f δ=some (.nx (δ.set i (some (.d (dS (jQ T x k)))))):=by
 unfold Cw;rw[h1,aj,h2,aj,h3,aj];show(ssD (ssP T)).bind _=_;rw[nH,aj,if_pos q];rfl
theorem ai4{δ:DS}{i:Nat}{fk:FE}(h2:aB i δ=some (dS T))(h3:fk δ=some (.str x))(q:iJ T x=some k):Cy i fk δ=some (.int k,δ.set i (some (.d (dS (k_ T x))))):=by
 unfold Cy;rw[h2,aj,h3,aj];show(ssD (ssP T)).bind _=_;rw[nH,aj,q];rfl
end
theorem Z5:Ji .none=some (.bool true):=rfl
theorem Z6{i:Int}:Ji (.int i)=some (.bool false):=rfl
theorem lwh{i:Int}:fU [.int i]=some (.bool true):=by
 unfold fU Com.fU;rfl
theorem Z7{i:Int}:v5 (.int i) (.int i)=some (.bool true):=GQ (by rw[Ul,dTr rfl])
theorem J6{rs:List Int}{P:List Gu}{M:List D}{x:Str}{k:Nat}(h:Hou rs P M)(hx:Dp x)(nx:x∉P.map (·.1))(h1:1<=k)(h2:k<=4)(hM:M.length<900000):
 ∃q M2,gB [hD rs (SP P) (TP P) M,.list (rs.map .int),dS (TP P),.str x,.int (k:Int)]=some (.tuple [.bool true,hD rs (SP q) (TP q) M2,dS (TP q)])/\Hou rs q M2/\M2.length<=M.length+4:=by
 have pl:=h.len;have rl:=h.rl;have Q:kW (dS (TP P))=some (.list ((P.map (·.2.2)).map .int)):=by rw[Ph,Pj]
 have O:KR (.list ((P.map (·.2.2)).map .int)) (.list [.int (k:Int)])=some (.list ((P.map (·.2.2)++[(k:Int)]).map .int)):=by
  rw[Um,if_pos,bI]
  ·rfl
  ·rw[ak,ak];simp only[aW,dZ];omega
 obtain⟨b,N,hb⟩:=J5 (rs:=rs) (ws:=P.map (·.2.2)++[(k:Int)]) (by omega) (by rw[bw,ak];simp only[aW,dZ];omega);have hb:=hb.trans (Px h h1);have I:=Gb (rs:=rs) (S:=SP P) (T:=TP P) (M:=M);have J:=pG (rs:=rs) (M:=M) h.nd h.nr (by omega);have K:=Gd (rs:=rs) (S:=SP P) (T:=TP P) (Dq h.fM);have Y:0+1<=sizeLine:=Com.sz (by decide);have Z:0+1+1+1<=sizeLine:=Com.sz (by decide);have fb:flat (.bool true)=true:=rfl;rcases Dr h hx nx h1 h2 hM with⟨L,V,R⟩|⟨hn,X,H,g,R,z,U,E⟩
 ·refine⟨P,M,?_,h,by omega⟩;obtain⟨l1,l2,G,_⟩:=pF V;have b0:b=false:=by
   cases b with
   |false=>rfl
   |true=>rw[hb.mp rfl]at V;cases V
  subst b0;have A:=Tv (P:=P) h.fM;have C:=Af (rs:=rs) (ws:=P.map (·.2.2)) (by omega) (by rw[ak];omega) ((lM h l1).2.mp G);have W:=λd1 d2 d5 d6=>Pz (y8:=none) (d1:=d1) (d2:=d2) (d5:=d5) (d6:=d6) R
  unfold gB;simp![Ih,Q,O,Y,N,q_,Ga,I,J,K,Z,W,Z6,lwh,dTr l1,dTr l2,gU,C,O_,A,pU,uq,J0,ZL,fb,Pa]
 ·refine⟨X++[(x,g,(k:Int))],H,?_,U,E⟩;have b0:b=true:=hb.mpr hn;subst b0;have W:=λd1 d2 d5 d6=>Xg (y8:=none) (d1:=d1) (d2:=d2) (d5:=d5) (d6:=d6) R
  have B:jQ (TP P) x (k:Int)=TP (X++[(x,g,(k:Int))]):=by
   rw[Ae (by rw[wY];exact nx),<-z];unfold TP;rw[bI];rfl
  have mem:(x,g,(k:Int))∈X++[(x,g,(k:Int))]:=b_.mpr (.inr (bJ.mpr rfl));have F:=J4 (rs:=rs) (M:=H) hx (wV (S:=SP (X++[(x,g,(k:Int))])) (v:=g) (by rw[wX];exact U.nd) (aV.mpr ⟨_,mem,rfl⟩)) (wV (S:=TP (X++[(x,g,(k:Int))])) (v:=(k:Int)) (by rw[wY];exact U.nd) (aV.mpr ⟨_,mem,rfl⟩));have tl:(TP P).length<1000:=by unfold TP;rw[ak];omega
  have sp:=λu d1 d5 d6 w y=>ai3 (T:=TP P) (x:=x) (k:=(k:Int)) (δ:=[u,d1,some (.d (dS (TP P))),some (.d (.str x)),some (.d (.int (k:Int))),d5,d6,w,y]) (i:=2) (fk:=aB 3) (f:=aB 4) rfl rfl rfl tl
  unfold gB;simp![Ih,Q,O,Y,N,q_,Ga,I,J,K,Z,W,Z5,sp,dM,cJ,B,F,Z7,O_,pU,uq,J0,ZL,fb,Pb,Pa]
theorem tOK{b:Bool}:Ef [.bool b]=some (.int (if b then 1 else 0)):=rfl
theorem letter{i:Int}(q:0<=i)(h1:i<25):∃c:Nat,Cd (.str "qwertyuiopasdghjklzxcvbnm") (.int i)=some (.str ⟨#[c]⟩)/\97<=c/\c<=122:=by
 have Z:∀n:Nat,n<25->∃c:Nat,Cd (.str "qwertyuiopasdghjklzxcvbnm") (.int (n:Int))=some (.str ⟨#[c]⟩)/\97<=c/\c<=122:=by
  have k2:∀n:Fin 25,∃c:Fin 123,L2.atI ("qwertyuiopasdghjklzxcvbnm":Str).cps.toList ((n:Nat):Int)=some (c:Nat)/\97<=(c:Nat):=by decide +kernel
  intro n hn;obtain⟨c,e,h⟩:=k2 ⟨n,hn⟩;refine⟨c,?_,h,by omega⟩;unfold Cd;dsimp only at e ⊢;rw[if_pos (by decide +kernel),e];rfl
 have:=Z i.toNat (by omega);rwa[Int.toNat_of_nonneg q]at this
theorem PB{s:Str}{c:Nat}(h:s.length<=100):wB (.str s) (.str ⟨#[c]⟩)=some (.str (s++⟨#[c]⟩)):=by
 unfold wB;dsimp only;rw[if_pos];have e:(⟨#[c]⟩:Str).length=1:=rfl;rw[e];have:1000000<=sizeLine:=by decide
 omega
theorem PJ(ns:List Int):∃xs:List Str,jO [.list (ns.map .int),.int 2]=some (.list (xs.map .str))/\xs.length=12/\∀x∈xs,Dp x:=by
 have Q:=jx ns 2 0 (m:=8) (by decide);have pt:=λ(i k m:Int)(N:0<=i)(h1:0<=k)(h2:k<=1000)(h3:0<m)=>nD (ns:=ns) N h1 h2 h3
 have R:=pt 2 0 8 (by decide) (by decide) (by decide) (by decide);have T:=pt 2 1 (1+fY ns 2 0 8) (by decide) (by decide) (by decide) (by omega);generalize fY ns 2 1 (1+fY ns 2 0 8)=at1 at T;generalize fY ns 2 0 8=z at Q R T;obtain⟨δ',e,xs,W,X,y8,rfl,V,hx⟩:=vm (g:=(gNl 6)) (b:=(cP (cG 7 (dC (.str ""))) (cP (xH (uz (aD (aB 3) (bN))) (gNl 8) (cG 7 (dOp wB (aB 7) (dOp Cd (aB 2) (dOp oK (dOp j_ (dCall bY (aD (aB 0) (aD (dOp j_ (aB 1) (dC (.int 1))) (aD (aB 8) (aD (dC (.int 25)) (bN)))))) (dOp nW (aB 6) (dCall Ef (aD (dOp gEq (aB 8) (aB 4)) (bN))))) (dC (.int 25))))))) (yV 5 (aB 7)))))
  (λi δ=>∃(xs:List Str)(W X y8:Option U),δ=[some (.d (.list (ns.map .int))),some (.d (.int 2)),some (.d (.str "qwertyuiopasdghjklzxcvbnm")),some (.d (.int (1+z))),some (.d (.int at1)),some (.d (.list (xs.map .str))),W,X,y8]/\xs.length=i/\∀x∈xs,Dp x)
  (gO 0 12) [some (.d (.list (ns.map .int))),some (.d (.int 2)),some (.d (.str "qwertyuiopasdghjklzxcvbnm")),some (.d (.int (1+z))),some (.d (.int at1)),some (.d (.list [])),none,none,none] ⟨[],none,none,none,rfl,rfl,by simp⟩ (by
  rintro i d δ hd ⟨xs,W,X,y8,rfl,V,hx⟩;obtain⟨hi,rfl⟩:=Ot hd;obtain⟨δ',e,s,Y,rfl,sl,sc⟩:=vm (g:=(gNl 8)) (b:=(cG 7 (dOp wB (aB 7) (dOp Cd (aB 2) (dOp oK (dOp j_ (dCall bY (aD (aB 0) (aD (dOp j_ (aB 1) (dC (.int 1))) (aD (aB 8) (aD (dC (.int 25)) (bN)))))) (dOp nW (aB 6) (dCall Ef (aD (dOp gEq (aB 8) (aB 4)) (bN))))) (dC (.int 25)))))))
   (λj δ=>∃(s:Str)(y8:Option U),δ=[some (.d (.list (ns.map .int))),some (.d (.int 2)),some (.d (.str "qwertyuiopasdghjklzxcvbnm")),some (.d (.int (1+z))),some (.d (.int at1)),some (.d (.list (xs.map .str))),some (.d (.int (i:Int))),some (.d (.str s)),y8]/\s.length=j/\∀c∈s.cps.toList,97<=c/\c<=122)
   (gO 0 (1+z)) [some (.d (.list (ns.map .int))),some (.d (.int 2)),some (.d (.str "qwertyuiopasdghjklzxcvbnm")),some (.d (.int (1+z))),some (.d (.int at1)),some (.d (.list (xs.map .str))),some (.d (.int (i:Int))),some (.d (.str "")),y8] ⟨"", y8,rfl,rfl,by intro c O;cases O⟩ (by
   rintro j d δ hd ⟨s,y8,rfl,sl,sc⟩;obtain⟨I,rfl⟩:=Ot hd;have S:=ah7 (i:=fY ns 3 (j:Int) 25+(i:Int)*(if decide ((j:Int)=at1)=true then 1 else 0)) (j:=25) (by decide);obtain⟨c,L,J,K⟩:=letter S.1 S.2;refine⟨_,[some (.d (.list (ns.map .int))),some (.d (.int 2)),some (.d (.str "qwertyuiopasdghjklzxcvbnm")),some (.d (.int (1+z))),some (.d (.int at1)),some (.d (.list (xs.map .str))),some (.d (.int (i:Int))),some (.d (.str (s++⟨#[c]⟩))),some (.d (.int (j:Int)))],rfl,.inl ?_,s++⟨#[c]⟩,_,rfl,?_,?_⟩
   ·simp![show(2:Int)+1=3 from rfl,pt 3 (j:Int) 25 (by decide) (by omega) (by omega) (by decide),tOK,mulL (i:=(i:Int)) (j:=(if decide ((j:Int)=at1)=true then 1 else 0)) (by omega) (by omega),xP (i:=fY ns 3 (j:Int) 25+(i:Int)*(if decide ((j:Int)=at1)=true then 1 else 0)) (j:=25) (by decide),L,PB (s:=s) (c:=c) (by omega)]
   ·show(s.cps++#[c]).size=j+1;rw[Array.size_append,show s.cps.size=j from sl];rfl
   ·intro y Z;have e:(s++(⟨#[c]⟩:Str)).cps.toList=s.cps.toList++[c]:=by
     show(s.cps++#[c]).toList=_;simp
    rw[e]at Z;rcases b_.mp Z with q|q
    ·exact sc y q
    ·rw[bJ.mp q];exact⟨J,K⟩)
  rw[vo]at sl;refine⟨_,[some (.d (.list (ns.map .int))),some (.d (.int 2)),some (.d (.str "qwertyuiopasdghjklzxcvbnm")),some (.d (.int (1+z))),some (.d (.int at1)),some (.d (.list ((xs++[s]).map .str))),some (.d (.int (i:Int))),some (.d (.str s)),Y],rfl,.inl ?_,xs++[s],_,_,_,rfl,by rw[bw,V];rfl,?_⟩
  ·have P:(xs.map eL).length<1000000:=by rw[ak];omega
   simp![Oj (show -(2^62)<=1+z by omega) (show 1+z<2^62 by omega),e,P,dM,cJ,bI,aM,cZ]
  ·intro y Z;rcases b_.mp Z with q|q
   ·exact hx y q
   ·rw[bJ.mp q];exact⟨sc,by omega,by omega⟩)
 refine⟨xs,?_,by rw[V];rfl,hx⟩;have M:fl1 (.list (xs.map .str))=true:=pR _ (λ_=>rfl) xs;unfold jO;simp![R,T,sz (show 0<=1000000 by decide),Oj (show -(2^62)<=(12:Int)by decide) (show(12:Int)<2^62 by decide),e,M]
theorem rm:∀l:List Int,fW.noIns (l.map .int)=true
 |[]=>rfl
 |x::l=>by rw[aM,fW.noIns,rm l];rfl
theorem Ds:∀l:List Int,nls (l.map .int)=0
 |[]=>rfl
 |x::l=>by rw[aM,nls,Ds l];rfl
theorem J7{rs:List Int}:iU [.list (rs.map .int)]=some [.list (rs.map .int),.dict [],.dict [],.list []]:=by
 unfold iU fnI;rw[if_pos (by rfl)];have a:(dN1 (tM (dUn rR (aB 1)))) [none,some (.d (.list (rs.map .int)))]=some (.list (rs.map .int)):=by
  have f:fl1 (.list (rs.map .int))=true:=qW rs;have n:nl (.list (rs.map .int))<=1:=by rw[nl,Ds];decide
  show(((some (eI (rs.map .int))).bind rR).bind _).bind _=_;rw[aj,Oh,aj,if_pos f,aj,if_pos (dTr n)]
 have i1:fW (.list (rs.map .int))=true:=rm rs;show CP _ [none,some (.d (.list (rs.map .int)))]=_;unfold CP;rw[a,aj,if_pos i1];rfl
def qMk(F:List D->Option (List D))(a:Option (List D)):Option D:=a.bind λds=>if fW.noIns ds=true then(F ds).bind λrs=>some (.dict (pX aY aU rs))else none
theorem ai5{F:List D->Option (List D)}{fa:FA}{δ:DS}:Nx aY aU F fa δ=qMk F (fa δ):=rfl
theorem ai6{rs:List Int}:qMk iU (some [.list (rs.map .int)])=some (hD rs [] [] []):=by
 have i1:fW.noIns [.list (rs.map .int)]=true:=by
  rw[fW.noIns,show fW (.list (rs.map .int))=true from rm rs];rfl
 unfold qMk;rw[aj,if_pos i1,J7];rfl
def rmv(P:List Gu)(x:Str):List Gu:=P.filter λq=>decide (q.1≠x)
theorem Xh(P:List Gu)(x:Str):k_ (SP P) x=SP (rmv P x):=by
 unfold k_ SP rmv;rw[jg];rfl
theorem PN(P:List Gu)(x:Str):k_ (TP P) x=TP (rmv P x):=by
 unfold k_ TP rmv;rw[jg];rfl
theorem Hou.out{rs:List Int}{P:List Gu}{M:List D}{x:Str}(h:Hou rs P M):Hou rs (rmv P x) M:=by
 have s:(rmv P x).Sublist P:=pW;refine⟨h.rl,h.rk,h.nd.sublist (s.map _),⟨?_,λq Z=>h.gs.rg q ((s.map _).subset Z)⟩,h.fM⟩;rw[n_];exact h.nr.sublist (s.map _)
section
variable{f:FTW}{g:FTW}{fw:FW}{ft:FT}{a b:FS}{δ δ':DS}{c:Bool}{F:List D->Option D}{fa:FA}{sw:List Nat}
def qIW(t:Option (Bool×DS))(a b:FS):Option Oc:=t.bind λp=>if p.1=true then a p.2 else b p.2
theorem Uw:Ng f a b δ=qIW (f δ) a b:=rfl
theorem Z8:qIW (some (false,δ)) a b=b δ:=(rfl)
def qAW(t:Option (Bool×DS))(g:FTW):Option (Bool×DS):=t.bind λp=>if p.1=true then g p.2 else some (false,p.2)
theorem PX:Cr f g δ=qAW (f δ) g:=rfl
theorem ai7:qAW (some (true,δ)) g=g δ:=(rfl)
theorem ai8:qAW (some (false,δ)) g=some (false,δ):=rfl
def qOW(b:Option Bool)(δ:DS):Option (Bool×DS):=b.map λb=>(b,δ)
theorem Ux:JF ft δ=qOW (ft δ) δ:=rfl
theorem Z9:qOW (some c) δ=some (c,δ):=rfl
def qNW(t:Option (Bool×DS)):Option (Bool×DS):=t.map λp=>(!p.1,p.2)
theorem Xi:yH f δ=qNW (f δ):=rfl
theorem ai9:qNW (some (true,δ))=some (false,δ):=rfl
def qBW(t:Option (D×DS)):Option (Bool×DS):=t.bind λp=>match p.1 with
 | .bool b=>some (b,p.2)
 |_=>none
theorem Tw:wI fw δ=qBW (fw δ):=rfl
theorem aj0:qBW (some (.bool c,δ))=some (c,δ):=rfl
def qCW(F:List D->Option D)(a:Option (List D))(sw:List Nat)(δ:DS):Option (D×DS):=a.bind λds=>(F ds).bind λd=>JD d sw δ
theorem Tz:wG F fa sw δ=qCW F (fa δ) sw δ:=rfl
theorem aj1{ds:List D}{x y:D}{i j:Nat}(h:F ds=some (.tuple [.bool c,x,y])):qCW F (some ds) [i,j] δ=some (.bool c,(δ.set i (some (.d x))).set j (some (.d y))):=by
 unfold qCW;rw[aj,h,aj];rfl
end
theorem P0{a b:Int}{i:Nat}{d:D}(h:(gO a b)[i]? = some d):d = .int (a+i)/\(i:Int)<b-a:=by
 unfold gO at h;rw[aO]at h;obtain⟨k,Z,rfl⟩:=nM.mp h;obtain⟨h1,h2⟩:=aQ.mp Z;rw[List.getElem_range]at h2;rw[iy]at h1;subst h2;exact⟨rfl,by omega⟩
theorem P_(ns:List Int)(h:ns.length<=63):O8 [.list (ns.map .int)]=some (.bool true):=by
 obtain⟨rs,p,rl,rk⟩:=Fx (ns:=ns) (a:=0) (m:=12) (by decide) (by decide) (by decide);obtain⟨xs,ex,B,N⟩:=PJ ns;have pt:=λ(i k m:Int)(r:0<=i)(h1:0<=k)(h2:k<=1000)(h3:0<m)=>nD (ns:=ns) r h1 h2 h3
 obtain⟨δ',e,P,M,O,S,Y,rfl,W,_⟩:=vm (g:=(gNl 5)) (b:=(cP (cG 6 (dOp gIx (aB 3) (dCall bY (aD (aB 0) (aD (aB 5) (aD (dC (.int 0)) (aD (dC (.int 12)) (bN)))))))) (cP (sIf (D3.vH (cI (dOp XI.JG (aB 6) (aB 4))) (cI (dOp gEq (dCall bY (aD (aB 0) (aD (aB 5) (aD (dC (.int 2)) (aD (dC (.int 4)) (bN)))))) (dC (.int 1))))) (cP (XI.mK (XI.ud jz aY aU 2 (aD (aB 6) (bN)) [2])) (XI.mK (XI.Cy 4 (aB 6)))) (j9)) (cP (cG 7 (dOp j_ (dC (.int 1)) (dCall bY (aD (aB 0) (aD (aB 5) (aD (dC (.int 1)) (aD (dC (.int 4)) (bN)))))))) (XI.Ng (XI.Cr (XI.JF (cI (dOp XI.n8 (aB 6) (aB 4)))) (XI.yH (XI.wI (XI.wG gB (aD (aB 2) (aD (aB 1) (aD (aB 4) (aD (aB 6) (aD (aB 7) (bN)))))) [2,4])))) (ig (dC (.bool false))) (j9))))))
  (λi δ=>∃(P:List Gu)(M:List D)(O S Y:Option U),δ=[some (.d (.list (ns.map .int))),some (.d (.list (rs.map .int))),some (.d (hD rs (SP P) (TP P) M)),some (.d (.list (xs.map .str))),some (.d (dS (TP P))),O,S,Y,none]/\Hou rs P M/\M.length<=4*i)
  (gO 4 (if(44:Int)<ns.length then 44 else ns.length)) [some (.d (.list (ns.map .int))),some (.d (.list (rs.map .int))),some (.d (hD rs [] [] [])),some (.d (.list (xs.map .str))),some (.d (.dict [])),none,none,none,none]
  ⟨[],[],none,none,none,rfl,⟨by omega,rk,List.nodup_nil,Gst.nil rs,λ_ h=>by cases h⟩,by simp⟩ (by
  rintro i d δ hd ⟨P,M,O,S,Y,rfl,W,hM⟩;obtain⟨rfl,hi⟩:=P0 hd;have hi:(i:Int)<40:=by split at hi<;>omega
  have H:=jx ns (4+i) 0 (m:=12) (by decide);obtain⟨x,C,ea⟩:=HN eL (l:=xs) H.1 (by rw[B];exact H.2);have hx:=N x C;have X:=pt (4+i) 0 12 (by omega) (by decide) (by decide) (by decide);have p2:=pt (4+i) 2 4 (by omega) (by decide) (by decide) (by decide);have p1:=pt (4+i) 1 4 (by omega) (by decide) (by decide) (by decide);have k1:=jx ns (4+i) 1 (m:=4) (by decide);obtain⟨k,G⟩:∃k:Nat,(k:Int)=1+fY ns (4+i) 1 4:=⟨(1+fY ns (4+i) 1 4).toNat,by omega⟩;have go:∀(V:List Gu)(S Y:Option U),Hou rs V M->∃Z M2,(cP (cG 7 (dOp j_ (dC (.int 1)) (dCall bY (aD (aB 0) (aD (aB 5) (aD (dC (.int 1)) (aD (dC (.int 4)) (bN)))))))) (XI.Ng (XI.Cr (XI.JF (cI (dOp XI.n8 (aB 6) (aB 4)))) (XI.yH (XI.wI (XI.wG gB (aD (aB 2) (aD (aB 1) (aD (aB 4) (aD (aB 6) (aD (aB 7) (bN)))))) [2,4])))) (ig (dC (.bool false))) (j9))) [some (.d (.list (ns.map .int))),some (.d (.list (rs.map .int))),some (.d (hD rs (SP V) (TP V) M)),some (.d (.list (xs.map .str))),some (.d (dS (TP V))),some (.d (.int (4+i))),some (.d (.str x)),Y,none]=some (.nx [some (.d (.list (ns.map .int))),some (.d (.list (rs.map .int))),some (.d (hD rs (SP Z) (TP Z) M2)),some (.d (.list (xs.map .str))),some (.d (dS (TP Z))),some (.d (.int (4+i))),some (.d (.str x)),some (.d (.int (k:Int))),none])/\Hou rs Z M2/\M2.length<=M.length+4:=λV S Y F=>by
   cases K:iJ (TP V) x with
   |some v=>
    refine⟨V,M,?_,F,by omega⟩;simp![p1,<-G,Uw,PX,Ux,wR,K,jh,gU,Z9,ai8,Z8]
   |none=>
    obtain⟨Z,M2,j,h2,L⟩:=J6 (k:=k) F hx (by rw[<-wY];exact wW.mp K) (by omega) (by omega) (by omega);refine⟨Z,M2,?_,h2,L⟩;simp![p1,<-G,Uw,PX,Ux,wR,K,lF,Bool.not_false,Z9,ai7,Xi,Tw,Tz,aj1 j,aj0,ai9,Z8,dM,cJ]
  by_cases c:(iJ (TP P) x).isSome=true/\fY ns (4+i) 2 4=1
  ·obtain⟨w,R⟩:=fV.mp c.1;obtain⟨q,s,eq⟩:=aV.mp (Ij R);have q1:q.1=x:=congrArg Prod.fst eq;have es:iJ (SP P) x=some q.2.1:=wV (by rw[wX];exact W.nd) (aV.mpr ⟨q,s,by rw[q1]⟩);have E:=Pn (rs:=rs) (M:=M) hx es R;rw[Xh,PN]at E;obtain⟨Z,M2,Q,h2,L⟩:=go (rmv P x) none Y W.out;refine⟨_,_,rfl,.inl ?_,Z,M2,some (.d (.int (4+i))),some (.d (.str x)),some (.d (.int (k:Int))),rfl,h2,by omega⟩;have fi:flat (.int q.2.1)=true:=rfl;have I:=λd0 d1 d2 d3 d5 d7 f=>ai4 (T:=TP P) (x:=x) (k:=w) (δ:=[d0,d1,d2,d3,some (.d (dS (TP P))),d5,some (.d (.str x)),d7,f]) (i:=4) (fk:=aB 6) rfl rfl R
   rw[PN]at I;simp![X,ea,Dm,R,jh,p2,dTr c.2,Ad,Ig,ZK E fi,Xa,dM,cJ,I];exact Q
  ·obtain⟨Z,M2,Q,h2,L⟩:=go P none Y W;refine⟨_,_,rfl,.inl ?_,Z,M2,some (.d (.int (4+i))),some (.d (.str x)),some (.d (.int (k:Int))),rfl,h2,by omega⟩
   cases J:(iJ (TP P) x).isSome with
   |false=>
    simp![dM,cJ,X,ea,Dm,J];exact Q
   |true=>
    have c2:¬fY ns (4+i) 2 4=1:=λz=>c ⟨J,z⟩
    simp![dM,cJ,X,ea,Dm,J,p2,dFa c2];exact Q)
 have pl:=W.len;have o:=pG (rs:=rs) (M:=M) W.nd W.nr (by omega);have t:kW (dcD (QP P))=some (.list ((P.map (·.2.2)).map .int)):=by rw[Tp,Xc]
 have u:kW (dS (TP P))=some (.list ((P.map (·.2.2)).map .int)):=by rw[Ph,Pj]
 have y:Bh [.list ((P.map (·.2.2)).map .int)]=some (.list ((jW (P.map (·.2.2))).map .int)):=by
  show(iz ((P.map (·.2.2)).map .int)).bind _=_;rw[jY,aj,if_pos];rw[ak];omega
 have A:gEq (.list ((jW (P.map (·.2.2))).map .int)) (.list ((jW (P.map (·.2.2))).map .int))=some (.bool true):=Com.eq_self (HW (S_ (HX da (λ_=>W3 (n:=0)) _)) (by decide));have r2:Oi (some [.int 4,.int (if(44:Int)<ns.length then 44 else ns.length)])=some (gO 4 (if(44:Int)<ns.length then 44 else ns.length)):=Zg (by split<;>omega) (by split<;>omega) (by decide) (by decide);unfold O8;simp![p,ai5,ai6,ex,lMp,r2,e,q_,Ga,o,t,u,y,A]
end K67
namespace K67
open L2 My D3 XC XS XK
noncomputable def top(i:Nat):dy:=PySem.Challenge.pw_nightbook_k67_whole_let_in_where_any_sea.main.body.getD i (.Pass ⟨0,0,0,0⟩)
def j4(i j:Nat):dy:=match top i with
 | .ClassDef _ _ _ b _ _ _ _ _ _ _=>b.getD j (.Pass ⟨0,0,0,0⟩)
 |s=>s
section
seal PE PT PW PA PS PSs PG PGs PI PO PTs
variable{P:c_}{w:de}{K:PySem.W.Frag}{mg:Str->Option Value}{base:dl}{n:Nat}{fld:Addr->Str}
structure HC_House(K:PySem.W.Frag):Prop where
 cl:Cls K aY
 n_rooms:jc K aY "rooms"
 n_places:jc K aY "places"
 n_wished:jc K aY "wished"
 n_moves_done:jc K aY "moves_done"
theorem Dt(D:Dg K mg "is_whole" (top 9) ["thing"])(B:Bl mg):Has P w K mg base (n+1) "is_whole" ["thing"] (spD K jm):=by
 have sc:FnScope ["thing"] ["thing"] (bh (top 9)):=fsc;exact kh (fl:=[.A]) D sc (by decide) (by decide) λf cdv A outer s H E Z=>cC (dh (dI (zp (bD (vY (T := "int") (by decide) (vP 0) (by rfl) B.isinstance_ (by rfl) B.int_ PyProof.Rows.boot_int)) (zm (Lh (bD (vY (T := "bool") (by decide) (vP 0) (by rfl) B.isinstance_ (by rfl) B.bool_ fh)))))))
theorem rA(D:Dg K mg "is_whole_within" (top 10) ["thing", "least", "most"])(B:Bl mg)(q:Has P w K mg base n "is_whole" ["thing"] (spD K jm)):Has P w K mg base (n+1) "is_whole_within" ["thing", "least", "most"] (spD K cX):=by
 have sc:FnScope ["thing", "least", "most"] ["thing", "least", "most"] (bh (top 10)):=fsc;exact kh (fl:=[.A,.A,.A]) D sc (by decide) (by decide) λf cdv A outer s H E Z=>cC (dh (dI (zp (iY (cT q Z (dq (vP 0) dz))) (zm (Bo vJ vJ Ei Ei (vP 1) (vP 0) (vP 2))))))
theorem Ah(D:Dg K mg "free_from" (top 12) ["rooms", "guests", "kind"])(B:Bl mg):Has P w K mg base (n+1) "free_from" ["rooms", "guests", "kind"] (spD K dX):=by
 have sc:FnScope ["rooms", "guests", "kind"] ["rooms", "guests", "kind"] (bh (top 12)):=fsc;exact kh (fl:=[.A,.A,.A]) D sc (by decide) (by decide) λf cdv A outer s H E Z=>cC (dh (dI (lB (L:=[]) (fl':=[.A,.A,.A,.A]) rfl ["room", "own"] ["kind", "guests"] [2,1] (GP (vB 0) (by rfl) B.enumerate_) (λ_ _ _ _ _=>tW rfl (gQ (gN' (i:=0) (show(["room", "own", "kind", "guests"]:List Str).Nodup by decide +kernel)) (gQ (gN' (i:=1) (show(["room", "own", "kind", "guests"]:List Str).Nodup by decide +kernel)) (pJ)))) (λ_ _ _ _ _=>lW (Er (zq (fG rK zf (vP 1) (vP 2) (d_ _)) (u6 (fG (uc Z.units) Mr (vP 0) (vP 3) (by with_unfolding_all rfl)))))) (λ_ _ _ _ _=>gF (mJ (vP 0))))))
theorem uP(D:Dg K mg "least_wished" (top 13) ["rooms", "guests", "kind"])(B:Bl mg):Has P w K mg base (n+1) "least_wished" ["rooms", "guests", "kind"] (spD K dD):=by
 have sc:FnScope ["rooms", "guests", "kind"] ["rooms", "guests", "kind"] (bh (top 13)):=fsc;exact kh (fl:=[.A,.A,.A]) D sc (by decide) (by decide) λf cdv A outer s H E Z=>cC (dh (dI (Rt rfl (dq (bD (Mx (fl':=[.A,.A,.A,.A]) rfl ["room"] ["guests", "kind", "rooms"] [1,2,0] (vP 1) (λ_ _ _ _ _=>gN' (i:=0) (show(["room", "guests", "kind", "rooms"]:List Str).Nodup by decide +kernel)) (λ_ _ _ _ _=>lW (fG rK zf (iG (dx (vB 3) (vP 0))) (vP 2) (d_ _))) (λ_ _ _ _ _=>gF (G9 (hu1 Z.units) (vP 1) (vP 0) (λ_ _=>rfl))))) dz) (vP 2) (by rfl) B.min_)))
theorem Du(D:Dg K mg "falls_of" (top 14) ["rooms", "guests", "kind"])(B:Bl mg)(J:Has P w K mg base n "free_from" ["rooms", "guests", "kind"] (spD K dX))(q:Has P w K mg base n "least_wished" ["rooms", "guests", "kind"] (spD K dD)):Has P w K mg base (n+1) "falls_of" ["rooms", "guests", "kind"] (spD K gJ):=by
 have sc:FnScope ["rooms", "guests", "kind", "falls", "least"] ["rooms", "guests", "kind"] (bh (top 14)):=fsc;exact kh (fl:=[.A,.A,.A,.O,.A]) D sc (by decide) (by decide) λf cdv A outer s H E Z=>bM (uZ (i:=3) rfl sc.nd rfl (by first|exact Or.inl rfl|exact Or.inr rfl) (GF (dq (vA 2) dz)))
  (bM (Lf eg (fG (mD Z.units) zj (iY (cT J Z (dq (vP 0) (dq (vP 1) (dq (iG (dx (vU 3) (bD (zu iP)))) dz))))) (bD (jL dz)) (d_ _)) (bM (sA (i:=4) sc.nd (rY (cT q Z (dq (vP 0) (dq (vP 1) (dq (iG (dx (vU 3) (bD (zu iP)))) dz))))))
  (bM (p8 (fG rK zf (vP 4) (iG (dx (vU 3) (bD (zu iP)))) (d_ _)) (cC (dh (dI (K_)))) (jJ))
  (cC (tX (i:=3) rfl (vA 4) rfl)))))
  (cC (dh (uY 3 (by decide)))))
theorem ur(D:Dg K mg "guest_to_move" (top 15) ["rooms", "guests", "kind", "wished"])(B:Bl mg):Has P w K mg base (n+1) "guest_to_move" ["rooms", "guests", "kind", "wished"] (spD K dG):=by
 have sc:FnScope ["rooms", "guests", "kind", "wished"] ["rooms", "guests", "kind", "wished"] (bh (top 15)):=fsc;exact kh (fl:=[.A,.A,.A,.A]) D sc (by decide) (by decide) λf cdv A outer s H E Z=>cC (dh (dI (mJ (iG (dx (oW (fK (lB (L:=[]) (fl':=[.A,.A,.A,.A,.A]) rfl ["room"] ["kind", "wished", "rooms", "guests"] [2,3,0,1] (u5 (oW (fK (Ms rfl (dq (vP 1) dz) (by rfl) B.sorted_)))) (λ_ _ _ _ _=>gN' (i:=0) (show(["room", "kind", "wished", "rooms", "guests"]:List Str).Nodup by decide +kernel)) (λ_ _ _ _ _=>lW (Er (zq (fG rK zf (iG (dx (vB 3) (vP 0))) (vP 1) (d_ _)) (u6 (fG (mD Z.units) zj (bD (G9 (hu1 Z.units) (vP 4) (vP 0) (λ_ _=>rfl))) (vP 2) (d_ _)))))) (λ_ _ _ _ _=>gF (mJ (vP 0)))))) iP)))))
theorem Dv(D:Dg K mg "moves_by" (top 16) ["rooms", "guests", "falls"])(B:Bl mg)(J:Has P w K mg base n "free_from" ["rooms", "guests", "kind"] (spD K dX))(q:Has P w K mg base n "guest_to_move" ["rooms", "guests", "kind", "wished"] (spD K dG)):Has P w K mg base (n+1) "moves_by" ["rooms", "guests", "falls"] (spD K jo):=by
 have sc:FnScope ["rooms", "guests", "falls", "goal", "moves", "kind", "wished", "room"] ["rooms", "guests", "falls"] (bh (top 16)):=fsc;exact kh (fl:=[.A,.A,.A,.A,.O,.A,.A,.A]) D sc (by decide) (by decide) λf cdv A outer s H E Z=>bM (sA (i:=3) sc.nd (dx (oW (rY (cT J Z (dq (vP 0) (dq (vP 1) (dq (iG (dx (vB 2) (bD (zu iP)))) dz)))))) iP))
  (bM (uZ (i:=4) rfl sc.nd rfl (by first|exact Or.inl rfl|exact Or.inr rfl) (zc (jL dz)))
  (bM (tY (L:=[]) eg rfl (VF (oW (fK (Rq (vP 2) (K8 (X8 (vB 2) (QT iP) QS)) rfl (by rfl) B.list_ (by rfl) B.zip_))) (by rfl) B.reversed_) (tW rfl (gQ (gN' (i:=5) sc.nd) (gQ (gN' (i:=6) sc.nd) (pJ)))) (bM (sA (i:=7) sc.nd (rY (cT q Z (dq (vP 0) (dq (vP 1) (dq (vP 5) (dq (vP 6) dz)))))))
  (bM (tX (i:=4) rfl (qx rfl (dq (vA 7) (dq (vA 3) dz))) rfl)
  (cC (sA (i:=3) sc.nd (vA 7))))))
  (cC (dh (qx rfl (dq (uY 4 (by decide)) (dq (dI (mJ (vP 3))) dz)))))))
theorem Dw(D:Dg K mg "is_level" (top 17) ["rooms", "guests", "level"])(B:Bl mg):Has P w K mg base (n+1) "is_level" ["rooms", "guests", "level"] (spD K iK):=by
 have sc:FnScope ["rooms", "guests", "level"] ["rooms", "guests", "level"] (bh (top 17)):=fsc;exact kh (fl:=[.A,.A,.A]) D sc (by decide) (by decide) λf cdv A outer s H E Z=>cC (dh (dI (jl (tZ rfl) Lr (by rfl) B.all_ (show bootBuiltins "all"=some (.builtin "all")by decide +kernel) (dq (bD (lB (L:=[]) (fl':=[.A,.A,.A,.A]) rfl ["room", "own"] ["level", "guests"] [2,1] (GP (vB 0) (by rfl) B.enumerate_) (λ_ _ _ _ _=>tW rfl (gQ (gN' (i:=0) (show(["room", "own", "level", "guests"]:List Str).Nodup by decide +kernel)) (gQ (gN' (i:=1) (show(["room", "own", "level", "guests"]:List Str).Nodup by decide +kernel)) (pJ)))) (λ_ _ _ _ _=>lW (fG rK zf (vP 1) (vP 2) (d_ _))) (λ_ _ _ _ _=>gF (qw rK zf (bD (Mt (hu1 Z.units) (vP 3) (vP 0) iP ⟨rfl,rfl,rfl,rfl⟩)) (vP 2) (d_ _))))) dz))))
theorem Dy(D:Dg K mg "admitted" (top 18) ["rooms", "guests", "kind"])(B:Bl mg)(U:Has P w K mg base n "falls_of" ["rooms", "guests", "kind"] (spD K gJ))(q:Has P w K mg base n "moves_by" ["rooms", "guests", "falls"] (spD K jo))(J:Has P w K mg base n "is_level" ["rooms", "guests", "level"] (spD K iK)):Has P w K mg base (n+1) "admitted" ["rooms", "guests", "kind"] (spD K gM):=by
 have sc:FnScope ["rooms", "guests", "kind", "falls", "found"] ["rooms", "guests", "kind"] (bh (top 18)):=fsc;exact kh (fl:=[.A,.A,.A,.O,.N]) D sc (by decide) (by decide) λf cdv A outer s H E Z=>bM (uZ (i:=3) rfl sc.nd rfl (by first|exact Or.inl rfl|exact Or.inr rfl) (zc (Vr (cT U Z (dq (vP 0) (dq (vP 1) (dq (vP 2) dz)))))))
  (bM (p8 (Lq (K7 (vU 3))) (cC (dh (qx rfl (dq (dI (qu)) (dq (dI (jl (Jl rfl) Vz (by rfl) B.max_ PyProof.Rows.boot_max (dq (bD (lB (L:=[]) (fl':=[.A,.A,.A]) rfl ["level"] ["rooms", "guests"] [0,1] (yq (by rfl) B.range_ (vX (dq iP (dq (bD (dO jU mX (vP 2) iP)) dz)))) (λ_ _ _ _ _=>gN' (i:=0) (show(["level", "rooms", "guests"]:List Str).Nodup by decide +kernel)) (λ_ _ _ _ _=>lW (oX (iY (cT J Z (dq (vP 1) (dq (vP 2) (dq (vP 0) dz))))))) (λ_ _ _ _ _=>gF (mJ (vP 0))))) dz))) dz))))) (jJ))
  (bM (zE (i:=4) rfl sc.nd rfl (by first|exact Or.inl rfl|exact Or.inr rfl) (T_ (cT q Z (dq (vP 0) (dq (vP 1) (dq (K7 (vU 3)) dz))))))
  (cC (dh (qx rfl (dq (dI (qu)) (dq (Ls rfl (Bu 4 rfl) iP (λ_ _=>rfl)) (dq (Ls rfl (Bu 4 rfl) iP (λ_ _=>rfl)) (dq (uY 3 (by decide)) dz)))))))))
theorem Gg(D:Dg K mg "is_name" (top 22) ["thing"])(B:Bl mg)(q:∃t,mg "MOST_SIGNS"=some (.int 8 t)):Has P w K mg base (n+1) "is_name" ["thing"] (spD K jZ):=by
 have sc:FnScope ["thing"] ["thing"] (bh (top 22)):=fsc;exact kh (fl:=[.A]) D sc (by decide) (by decide) λf cdv A outer s H E Z=>bM (p8 (Er (Bm (oY (oX (bD (vY (T := "str") (by decide) (vP 0) (by rfl) B.isinstance_ (by rfl) B.str_ PyProof.Rows.boot_str)))) (Ep (oY (Bs vJ vJ Ei Ei iP (bD (jl yR XW.V2 (by rfl) B.len_ PySem.boot_len (dq (vP 0) dz))) (bD (Gx q))))))) (cC (dh (dI (Gw)))) (jJ))
  (cC (dh (dI (jl (tZ rfl) Lr (by rfl) B.all_ (show bootBuiltins "all"=some (.builtin "all")by decide +kernel) (dq (bD (lB (L:=[]) (fl':=[.A]) rfl ["sign"] [] [] (XW.V6 (vP 0)) (λ_ _ _ _ _=>gN' (i:=0) (show(["sign"]:List Str).Nodup by decide +kernel)) (λ_ _ _ _ _=>u9) (λ_ _ _ _ _=>gF (Bo XI.NT XI.NT XI.Uk XI.Uk (bD (qu)) (vP 0) (bD (qu)))))) dz)))))
theorem Ai(D:Dg K mg "_law_cell" (top 25) ["_law_script", "_law_at"])(B:Bl mg):Has P w K mg base (n+1) "_law_cell" ["_law_script", "_law_at"] (spD K gA):=by
 have sc:FnScope ["_law_script", "_law_at"] ["_law_script", "_law_at"] (bh (top 25)):=fsc;exact kh (fl:=[.A,.A]) D sc (by decide) (by decide) λf cdv A outer s H E Z=>bM (p8 (fG TX b_lt (vP 1) (bD (jl eO sy (by rfl) B.len_ PySem.boot_len (dq (vP 0) dz))) (d_ _)) (cC (dh (dI (dO j6 p7 (iG (dx (vB 0) (vP 1))) iP)))) (jJ))
  (bM (p8 (fG (mD Z.units) zj (vP 0) (bD (jL dz)) (d_ _)) (cC (dh (dI (dO jU mX (bD (dO lA rZ iP (vP 1))) iP)))) (jJ))
  (cC (dh (dI (dO jU mX (bD (dO j6 p7 (iG (dx (vB 0) (bD (dO j6 p7 (bD (dO lA rZ (vP 1) iP)) (bD (jl eO sy (by rfl) B.len_ PySem.boot_len (dq (vP 0) dz))))))) iP)) (bD (dO lA rZ iP (vP 1))))))))
theorem Aj(D:Dg K mg "_law_part" (top 26) ["_law_script", "_law_at", "_law_k", "_law_many"])(B:Bl mg)(q:Has P w K mg base n "_law_cell" ["_law_script", "_law_at"] (spD K gA)):Has P w K mg base (n+1) "_law_part" ["_law_script", "_law_at", "_law_k", "_law_many"] (spD K bY):=by
 have sc:FnScope ["_law_script", "_law_at", "_law_k", "_law_many", "_law_number", "_law_j"] ["_law_script", "_law_at", "_law_k", "_law_many"] (bh (top 26)):=fsc;exact kh (fl:=[.A,.A,.A,.A,.A,.A]) D sc (by decide) (by decide) λf cdv A outer s H E Z=>bM (p8 (Er (zq (fG TX b_lt (vP 1) (bD (jl eO sy (by rfl) B.len_ PySem.boot_len (dq (vP 0) dz))) (d_ _)) (u6 (fG rK zf (iG (dx (vB 0) (vP 1))) (bD (dO Ve X4 iP iP)) (d_ _))))) (bM (sA (i:=4) sc.nd (dx (vB 0) (vP 1)))
  (bM (tY (L:=[]) eg rfl (mY (by rfl) B.range_ (vX (dq (vP 2) dz))) (gN' (i:=5) sc.nd) (cC (sA (i:=4) sc.nd (fK (dO Gy T8 (vP 4) iP)))))
  (cC (p8 (fG TY X5 (vP 4) iP (d_ _)) (cC (dh (dI (dO j6 p7 (bD (dO j6 p7 (vP 4) iP)) (vP 3))))) (jJ))))) (jJ))
  (bM (sA (i:=4) sc.nd (fK (dO j6 p7 (bD (dO lA rZ (bD (dO jU mX (bD (dO jU mX (iY (cT q Z (dq (vP 0) (dq (vP 1) dz)))) (bD (dO lA rZ iP (vP 1))))) iP)) (bD (dO jU mX iP (bD (dO lA rZ iP (vP 2))))))) iP)))
  (bM (sA (i:=4) sc.nd (fK (dO jU mX (bD (dO j6 p7 (bD (dO lA rZ (vP 4) (vP 4))) iP)) iP)))
  (cC (dh (dI (dO j6 p7 (bD (dO Gy T8 (bD (dO j6 p7 (bD (dO lA rZ (vP 4) (vP 4))) iP)) iP)) (vP 3)))))))
theorem xT(D:Dg K mg "_law_whole" (top 27) ["_law_found"])(B:Bl mg):Has P w K mg base (n+1) "_law_whole" ["_law_found"] (spD K fU):=by
 have sc:FnScope ["_law_found"] ["_law_found"] (bh (top 27)):=fsc;exact kh (fl:=[.A]) D sc (by decide) (by decide) λf cdv A outer s H E Z=>cC (dh (dI (zp (bD (vY (T := "int") (by decide) (vP 0) (by rfl) B.isinstance_ (by rfl) B.int_ PyProof.Rows.boot_int)) (zm (Lh (bD (vY (T := "bool") (by decide) (vP 0) (by rfl) B.isinstance_ (by rfl) B.bool_ fh)))))))
theorem xU(D:Dg K mg "_law_rooms" (top 28) ["_law_script", "_law_at", "_law_most"])(B:Bl mg)(q:Has P w K mg base n "_law_part" ["_law_script", "_law_at", "_law_k", "_law_many"] (spD K bY)):Has P w K mg base (n+1) "_law_rooms" ["_law_script", "_law_at", "_law_most"] (spD K gH):=by
 have sc:FnScope ["_law_script", "_law_at", "_law_most", "_law_kinds"] ["_law_script", "_law_at", "_law_most"] (bh (top 28)):=fsc;exact kh (fl:=[.A,.A,.A,.A]) D sc (by decide) (by decide) λf cdv A outer s H E Z=>bM (sA (i:=3) sc.nd (dx (oW (fK (jL (dq (gF (jL (dq iC (dq iC (dq iC (dq iC dz)))))) (dq (gF (jL (dq iC (dq iC (dq iC (dq iC dz)))))) (dq (gF (jL (dq iC (dq iC (dq iC (dq iC dz)))))) (dq (gF (jL (dq iC (dq iC (dq iC (dq iC dz)))))) dz))))))) (iY (cT q Z (dq (vP 0) (dq (vP 1) (dq iP (dq iP dz))))))))
  (cC (dh (dI (lB (L:=[]) (fl':=[.A,.A,.A,.A]) rfl ["_law_k"] ["_law_kinds", "_law_script", "_law_at"] [3,0,1] (mY (by rfl) B.range_ (vX (dq (iY (cT q Z (dq (vP 0) (dq (vP 1) (dq iP (dq (bD (dO jU mX (vP 2) iP)) dz)))))) dz))) (λ_ _ _ _ _=>gN' (i:=0) (show(["_law_k", "_law_kinds", "_law_script", "_law_at"]:List Str).Nodup by decide +kernel)) (λ_ _ _ _ _=>u9) (λ_ _ _ _ _=>gF (mJ (iG (dx (vB 1) (iY (cT q Z (dq (vP 2) (dq (bD (dO jU mX (vP 3) iP)) (dq (vP 0) (dq iP dz))))))))))))))
theorem xV(D:Dg K mg "_law_names" (top 31) ["_law_script", "_law_at"])(B:Bl mg)(q:Has P w K mg base n "_law_part" ["_law_script", "_law_at", "_law_k", "_law_many"] (spD K bY)):Has P w K mg base (n+1) "_law_names" ["_law_script", "_law_at"] (spD K jO):=by
 have sc:FnScope ["_law_script", "_law_at", "_law_letters", "_law_size", "_law_place", "_law_names_here", "_law_k", "_law_name", "_law_j"] ["_law_script", "_law_at"] (bh (top 31)):=fsc;exact kh (fl:=[.A,.A,.A,.A,.A,.O,.A,.A,.A]) D sc (by decide) (by decide) λf cdv A outer s H E Z=>bM (sA (i:=2) sc.nd (fK (qu)))
  (bM (sA (i:=3) sc.nd (fK (dO jU mX iP (iY (cT q Z (dq (vP 0) (dq (vP 1) (dq iP (dq iP dz)))))))))
  (bM (sA (i:=4) sc.nd (rY (cT q Z (dq (vP 0) (dq (vP 1) (dq iP (dq (vP 3) dz)))))))
  (bM (uZ (i:=5) rfl sc.nd rfl (by first|exact Or.inl rfl|exact Or.inr rfl) (zc (jL dz)))
  (bM (tY (L:=[]) eg rfl (mY (by rfl) B.range_ (vX (dq iP dz))) (gN' (i:=6) sc.nd) (bM (sA (i:=7) sc.nd (fK (qu)))
  (bM (tY (L:=[]) eg rfl (mY (by rfl) B.range_ (vX (dq (vP 3) dz))) (gN' (i:=8) sc.nd) (cC (sA (i:=7) sc.nd (fK (dO DN XW.V1 (vP 7) (bD (XW.V3 (vP 2) (bD (dO j6 p7 (bD (dO jU mX (iY (cT q Z (dq (vP 0) (dq (bD (dO jU mX (vP 1) iP)) (dq (vP 8) (dq iP dz)))))) (bD (dO lA rZ (vP 6) (bD (QX (dq (bD (qw (mD Z.units) zj (vP 8) (vP 4) (d_ _))) dz) (by rfl) B.int_)))))) iP)) (λ_ _=>rfl))))))))
  (cC (tX (i:=5) rfl (vA 7) rfl)))))
  (cC (dh (uY 5 (by decide))))))))
theorem Ak(D:Dg K mg "_law_fits" (top 32) ["_law_rooms_here", "_law_wishes"])(B:Bl mg):Has P w K mg base (n+1) "_law_fits" ["_law_rooms_here", "_law_wishes"] (spD K jy):=by
 have sc:FnScope ["_law_rooms_here", "_law_wishes", "_law_kinds", "_law_some"] ["_law_rooms_here", "_law_wishes"] (bh (top 32)):=fsc;exact kh (fl:=[.A,.A,.A,.A]) D sc (by decide) (by decide) λf cdv A outer s H E Z=>bM (sA (i:=2) sc.nd (fK (XI.CV (dq (vP 0) dz) (by rfl) B.sorted_)))
  (bM (sA (i:=3) sc.nd (fK (XI.CV (dq (vP 1) dz) (by rfl) B.sorted_)))
  (bM (p8 (fG TY X5 (bD (jl eO sy (by rfl) B.len_ PySem.boot_len (dq (vP 3) dz))) (bD (jl eO sy (by rfl) B.len_ PySem.boot_len (dq (vP 2) dz))) (d_ _)) (cC (dh (dI (Gw)))) (jJ))
  (cC (dh (dI (jl (tZ rfl) Lr (by rfl) B.all_ (show bootBuiltins "all"=some (.builtin "all")by decide +kernel) (dq (bD (lB (L:=[]) (fl':=[.A,.A,.A]) rfl ["_law_k"] ["_law_some", "_law_kinds"] [3,2] (mY (by rfl) B.range_ (vX (dq (bD (jl eO sy (by rfl) B.len_ PySem.boot_len (dq (vP 3) dz))) dz))) (λ_ _ _ _ _=>gN' (i:=0) (show(["_law_k", "_law_some", "_law_kinds"]:List Str).Nodup by decide +kernel)) (λ_ _ _ _ _=>u9) (λ_ _ _ _ _=>gF (qw vJ Ei (iG (dx (vB 1) (vP 0))) (iG (dx (vB 2) (vP 0))) (d_ _))))) dz)))))))
theorem uQ(D:Dg K mg "_law_counted" (top 33) ["_law_rooms_here", "_law_wishes", "_law_kind"])(B:Bl mg):Has P w K mg base (n+1) "_law_counted" ["_law_rooms_here", "_law_wishes", "_law_kind"] (spD K iM):=by
 have sc:FnScope ["_law_rooms_here", "_law_wishes", "_law_kind", "_law_here"] ["_law_rooms_here", "_law_wishes", "_law_kind"] (bh (top 33)):=fsc;exact kh (fl:=[.A,.A,.A,.A]) D sc (by decide) (by decide) λf cdv A outer s H E Z=>bM (sA (i:=3) sc.nd (fK (jl eO sy (by rfl) B.len_ PySem.boot_len (dq (bD (lB (L:=[]) (fl':=[.A,.A]) rfl ["_law_one"] ["_law_kind"] [2] (u5 (vB 1)) (λ_ _ _ _ _=>gN' (i:=0) (show(["_law_one", "_law_kind"]:List Str).Nodup by decide +kernel)) (λ_ _ _ _ _=>lW (fG rK zf (vP 0) (vP 1) (d_ _))) (λ_ _ _ _ _=>gF (mJ (vP 0))))) dz))))
  (cC (dh (dI (qw (mD Z.units) zj (vP 3) (bD (jl eO sy (by rfl) B.len_ PySem.boot_len (dq (bD (lB (L:=[]) (fl':=[.A,.A]) rfl ["_law_one"] ["_law_kind"] [2] (u5 (vB 0)) (λ_ _ _ _ _=>gN' (i:=0) (show(["_law_one", "_law_kind"]:List Str).Nodup by decide +kernel)) (λ_ _ _ _ _=>lW (fG rK zf (vP 0) (vP 1) (d_ _))) (λ_ _ _ _ _=>gF (mJ (vP 0))))) dz))) (d_ _)))))
theorem xW(D:XI.DgI K mg "House" aY "House.__init__" (j4 23 0) ["self", "rooms"])(B:Bl mg)(q:HC_House K):XI.HasI P w K mg base (n+1) "House" aY ["self", "rooms"] (XI.spI K aY aU iU):=by
 have sc:FnScope ["self", "rooms"] ["self", "rooms"] (bh (j4 23 0)):=fsc;exact XI.Wc (fl:=[.A,.A]) (nf:=[("rooms", dN1 (tM (dUn rR (aB 1)))),("places", dC (.dict [])),("wished", dC (.dict [])),("moves_done", mF (bN))]) D sc (by decide) (by decide) (by decide) (by decide) λf cdv A outer s H E Z=>XI.vh (T_ (gF (Vs (GK (vB 1) (by rfl) B.list_)))) (XI.vh (zB) (XI.vh (zB) (XI.vh (Q0 (QZ)) (XI.Wb) rfl q.cl q.n_moves_done) rfl q.cl q.n_wished) rfl q.cl q.n_places) rfl q.cl q.n_rooms
theorem xg(D:XI.DgM K aY "names" "House.names" (j4 23 7) ["self"])(B:Bl mg)(q:HC_House K):XI.HasM P w K mg base (n+1) aY "names" ["self"] (spD K gY):=by
 have sc:FnScope ["self"] ["self"] (bh (j4 23 7)):=fsc;exact XI.CN (fl:=[.A]) D q.cl sc (by decide) (by decide) λf cdv A outer s H E Z=>cC (dh (dI (XI.Nm rfl (XI.n6 (ns:=aU) (k:=1) (vP 0) q.cl q.n_places rfl (by decide) rfl) (by rfl) B.list_)))
theorem xq(D:XI.DgM K aY "moved" "House.moved" (j4 23 10) ["self"])(B:Bl mg)(q:HC_House K):XI.HasM P w K mg base (n+1) aY "moved" ["self"] (spD K gZ):=by
 have sc:FnScope ["self"] ["self"] (bh (j4 23 10)):=fsc;exact XI.CN (fl:=[.A]) D q.cl sc (by decide) (by decide) λf cdv A outer s H E Z=>cC (dh (dI (XI.NZ (XI.n6 (ns:=aU) (k:=3) (vP 0) q.cl q.n_moves_done rfl (by decide) rfl) (by rfl) B.list_)))
theorem uR(D:XI.DgM K aY "guests" "House.guests" (j4 23 8) ["self"])(B:Bl mg)(q:HC_House K):XI.HasM P w K mg base (n+1) aY "guests" ["self"] (spD K cY):=by
 have sc:FnScope ["self"] ["self"] (bh (j4 23 8)):=fsc;exact XI.CN (fl:=[.A]) D q.cl sc (by decide) (by decide) λf cdv A outer s H E Z=>cC (dh (T7 (Mi Z.hd (dq (bD (XI.CK (fl':=[.A,.A,.A]) rfl ["name", "room"] ["self"] [0] (XI.n6 (ns:=aU) (k:=1) (vP 0) q.cl q.n_places rfl (by decide) rfl) (λ_ _ _ _ _=>tW rfl (gQ (gN' (i:=0) (show(["name", "room", "self"]:List Str).Nodup by decide +kernel)) (gQ (gN' (i:=1) (show(["name", "room", "self"]:List Str).Nodup by decide +kernel)) (pJ)))) (λ_ _ _ _ _=>u9) (λ_ _ _ _ _=>gF (mJ (iG (qx rfl (dq (vA 1) (dq (fK (XI.Hu (XK.hu1 Z.units) (XI.n6 (ns:=aU) (k:=2) (vP 2) q.cl q.n_wished rfl (by decide) rfl) (vP 0) (λ_ _=>rfl))) dz)))))))) dz) (by rfl) B.dict_)))
theorem pH(D:XI.DgM K aY "check_guest" "House.check_guest" (j4 23 3) ["self", "name"])(B:Bl mg)(q:HC_House K)(J:Has P w K mg base n "is_name" ["thing"] (spD K jZ)):XI.HasM P w K mg base (n+1) aY "check_guest" ["self", "name"] (spD K cW):=by
 have sc:FnScope ["self", "name"] ["self", "name"] (bh (j4 23 3)):=fsc;exact XI.CN (fl:=[.A,.A]) D q.cl sc (by decide) (by decide) λf cdv A outer s H E Z=>cC (p8 (Er (Bm (oY (oX (iY (cT J Z (dq (vP 1) dz))))) (Ep (fG (XK.uc Z.units) XI.Cv (vP 1) (XI.n6 (ns:=aU) (k:=1) (vP 0) q.cl q.n_places rfl (by decide) rfl) (by with_unfolding_all rfl))))) (cC (Lk)) (jJ))
theorem uw(D:XI.DgM K aY "kind_of" "House.kind_of" (j4 23 6) ["self", "name"])(B:Bl mg)(J:HC_House K)(q:XI.HasM P w K mg base n aY "check_guest" ["self", "name"] (spD K cW)):XI.HasM P w K mg base (n+1) aY "kind_of" ["self", "name"] (spD K gR):=by
 have sc:FnScope ["self", "name"] ["self", "name"] (bh (j4 23 6)):=fsc;exact XI.CN (fl:=[.A,.A]) D J.cl sc (by decide) (by decide) λf cdv A outer s H E Z=>bM (Gz (iY (XI.zR (ns:=aU) q Z (by decide) (vP 0) (dq (vP 1) dz))))
  (cC (dh (dI (XI.Hu (XK.hu1 Z.units) (XI.n6 (ns:=aU) (k:=2) (vP 0) J.cl J.n_wished rfl (by decide) rfl) (vP 1) (λ_ _=>rfl)))))
theorem Al(D:XI.DgM K aY "out" "House.out" (j4 23 4) ["self", "name"])(B:Bl mg)(J:HC_House K)(q:XI.HasM P w K mg base n aY "check_guest" ["self", "name"] (spD K cW)):XI.HasM P w K mg base (n+1) aY "out" ["self", "name"] (XI.spW K [0] jz):=by
 have sc:FnScope ["self", "name"] ["self", "name"] (bh (j4 23 4)):=fsc;exact XI.Nu (fl:=[.W,.A]) D J.cl sc (by decide) (by decide) (by decide) λf cdv A outer s H E Z=>XI.iI (XI.qb (Gz (iY (XI.zR (ns:=aU) q Z (by decide) (fH 0 rfl) (dq (vP 1) dz)))) (XI.gow XI.RQ))
  (XI.iI (XI.qb (XI.sU (XI.Ht (i:=0) (ns:=aU) (k:=2) (Or.inr rfl) (vP 1) rfl J.cl J.n_wished rfl (by decide) ⟨rfl,rfl,rfl,rfl⟩)) (XI.gow XI.CW))
  (XI.sO (XI.Rx (by decide) (XI.Ht (i:=0) (ns:=aU) (k:=1) (Or.inr rfl) (vP 1) rfl J.cl J.n_places rfl (by decide) ⟨rfl,rfl,rfl,rfl⟩))))
theorem pZ(D:XI.DgM K aY "move_guest" "House.move_guest" (j4 23 2) ["self", "room", "other"])(B:Bl mg)(q:HC_House K):XI.HasM P w K mg base (n+1) aY "move_guest" ["self", "room", "other"] (XI.spW K [0] dN):=by
 have sc:FnScope ["self", "room", "other", "name"] ["self", "room", "other"] (bh (j4 23 2)):=fsc;exact XI.Nu (fl:=[.W,.A,.A,.A]) D q.cl sc (by decide) (by decide) (by decide) λf cdv A outer s H E Z=>XI.iI (XI.qb (sA (i:=3) sc.nd (dx (oW (fK (XI.CK (fl':=[.A,.A,.A]) rfl ["guest", "place"] ["room"] [1] (XI.n6 (ns:=aU) (k:=1) (fH 0 rfl) q.cl q.n_places rfl (by decide) rfl) (λ_ _ _ _ _=>tW rfl (gQ (gN' (i:=0) (show(["guest", "place", "room"]:List Str).Nodup by decide +kernel)) (gQ (gN' (i:=1) (show(["guest", "place", "room"]:List Str).Nodup by decide +kernel)) (pJ)))) (λ_ _ _ _ _=>lW (fG (mD Z.units) zj (vP 1) (vP 2) (d_ _))) (λ_ _ _ _ _=>gF (mJ (vP 0)))))) iP)) (XI.gow XI.pQ))
  (XI.iI (XI.qb (XI.zT (XK.hu1 Z.units) (i:=0) (ns:=aU) (k:=1) (Or.inr rfl) (vP 2) (vP 3) rfl q.cl q.n_places rfl (by decide)) (XI.gow XI.z7))
  (XI.sO (XI.qb (XI.Rw (i:=0) (ns:=aU) (k:=3) (Or.inr rfl) (iG (qx rfl (dq (vA 3) (dq (vA 1) (dq (vA 2) dz))))) rfl q.cl q.n_moves_done rfl (by decide)) (XI.gow XI.RV))))
theorem uT(D:XI.DgM K aY "let_in" "House.let_in" (j4 23 1) ["self", "name", "kind"])(B:Bl mg)(q:HC_House K)(O:Has P w K mg base (n+2) "is_whole_within" ["thing", "least", "most"] (spD K cX))(Z:Has P w K mg base (n+2) "admitted" ["rooms", "guests", "kind"] (spD K gM))(his_name:Has P w K mg base (n+2) "is_name" ["thing"] (spD K jZ))(Y:∃t,mg "BEST_KIND"=some (.int 4 t))(U:XI.HasM P w K mg base (n+2) aY "guests" ["self"] (spD K cY))(J:XI.HasM P w K mg base (n+2) aY "move_guest" ["self", "room", "other"] (XI.spW K [0] dN))(zFull:XC.ExcG K mg fld "Full" "kind" "InnError"):XI.HasMX P w K mg base fld (n+3) aY "let_in" ["self", "name", "kind"] (XI.RM K mg [0] cQ):=by
 have sc:FnScope ["self", "name", "kind", "found", "room", "other"] ["self", "name", "kind"] (bh (j4 23 1)):=fsc;exact XI.RN (fl:=[.W,.A,.A,.A,.A,.A]) D q.cl sc (by decide) (by decide) (by decide) λf cdv A outer s H E X=>XI.jw (XI.zZ (oY (oX (iY (cT his_name X (dq (vP 1) dz))))) (XI.qJ) (XI.sW))
  (XI.jw (XI.zZ (fG (XK.Mq X.units) XI.Ui (vP 1) (XI.n6 (ns:=aU) (k:=1) (fH 0 rfl) q.cl q.n_places rfl (by decide) rfl) (by with_unfolding_all rfl)) (XI.qJ) (XI.sW))
  (XI.jw (XI.zZ (oY (oX (iY (cT O X (dq (vP 2) (dq iP (dq (bD (Gx Y)) dz))))))) (XI.qJ) (XI.sW))
  (XI.jw (XI.zY (sA (i:=3) sc.nd (rY (cT Z X (dq (XI.n6 (ns:=aU) (k:=0) (fH 0 rfl) q.cl q.n_rooms rfl (by decide) rfl) (dq (iY (XI.kj (ns:=aU) U X (by decide) (fH 0 rfl))) (dq (vP 2) dz)))))) XI.pQ)
  (XI.jw (XI.zZ (fG (mD X.units) zj (iG (dx (vB 3) iP)) (bD (qu)) (d_ _)) (XI.CT (XI.JK zFull.fly X (by decide) (iG (dx (vB 3) iP)))) (XI.sW))
  (XI.jw (XI.zY (tY (L:=[]) eg rfl (u5 (oW (dx (vB 3) iP))) (tW rfl (gQ (gN' (i:=4) sc.nd) (gQ (gN' (i:=5) sc.nd) (pJ)))) (cC (XI.sU (XI.Cq (ns:=aU) (sw:=[0]) J X rfl rfl (by decide) (XI.mj (vA 4) (XI.mj (vA 5) (XI.vg))) (XI.z6 rfl))))) (XI.Wd XI.CW))
  (XI.jw (XI.zY (XI.zT (XK.hu1 X.units) (i:=0) (ns:=aU) (k:=1) (Or.inr rfl) (iG (dx (vB 3) iP)) (vP 1) rfl q.cl q.n_places rfl (by decide)) XI.z7)
  (XI.jw (XI.zY (XI.zT (XK.hu1 X.units) (i:=0) (ns:=aU) (k:=2) (Or.inr rfl) (vP 2) (vP 1) rfl q.cl q.n_wished rfl (by decide)) XI.z7)
  (XI.CT (XI.RK (by decide) (iG (qx rfl (dq (dx (vB 3) iP) (dq (dx (vB 3) iP) dz)))))))))))))
theorem Am(D:Dg K mg "_law_came" (top 34) ["_law_house", "_law_rooms_here", "_law_wishes", "_law_name", "_law_kind"])(B:Bl mg)(hHouse:HC_House K)(h_law_whole:Has P w K mg base n "_law_whole" ["_law_found"] (spD K fU))(h_law_fits:Has P w K mg base n "_law_fits" ["_law_rooms_here", "_law_wishes"] (spD K jy))(Z:Has P w K mg base n "_law_counted" ["_law_rooms_here", "_law_wishes", "_law_kind"] (spD K iM))(J:XI.HasM P w K mg base n aY "names" ["self"] (spD K gY))(O:XI.HasM P w K mg base n aY "moved" ["self"] (spD K gZ))(q:XI.HasM P w K mg base n aY "guests" ["self"] (spD K cY))(U:XI.HasM P w K mg base n aY "kind_of" ["self", "name"] (spD K gR))(Y:XI.HasMX P w K mg base fld n aY "let_in" ["self", "name", "kind"] (XI.RM K mg [0] cQ))(sFull:XC.SuiA K mg fld "Full" "kind" "InnError"):Has P w K mg base (n+1) "_law_came" ["_law_house", "_law_rooms_here", "_law_wishes", "_law_name", "_law_kind"] (XI.spW K [0,2] gB):=by
 have sc:FnScope ["_law_house", "_law_rooms_here", "_law_wishes", "_law_name", "_law_kind", "_law_fits_here", "_law_kept", "_law_told", "e"] ["_law_house", "_law_rooms_here", "_law_wishes", "_law_name", "_law_kind"] (bh (top 34)):=fsc;exact XI.V8 (fl:=[.W,.A,.W,.A,.A,.A,.A,.A,.A]) D sc (by decide) (by decide) (by decide) λf cdv A outer s H E X=>XI.iI (XI.qb (sA (i:=5) sc.nd (rY (cT h_law_fits X (dq (vP 1) (dq (K8 (Vy (oW (fK (XI.sV rfl (fH 2 rfl) (by rfl) B.list_))) (oW (K6 (GF (dq (vA 4) dz)))))) dz))))) (XI.gow XI.pQ))
  (XI.iI (XI.qb (sA (i:=6) sc.nd (fK (jL (dq (XI.kj (ns:=aU) J X (by decide) (fH 0 rfl)) (dq (XI.kj (ns:=aU) q X (by decide) (fH 0 rfl)) (dq (XI.kj (ns:=aU) O X (by decide) (fH 0 rfl)) dz)))))) (XI.gow XI.pQ))
  (XI.iI (XI.qb (sA (i:=7) sc.nd (fK (K_))) (XI.gow XI.pQ))
  (XI.iI (XI.qb (XI.RP (i:=8) (cs:=["Full"]) (fS:=λc d=>cG 7 (dC d)) (XI.NQ (fld:=fld) (ns:=aU) (sw:=[0]) Y X rfl rfl (by decide) (XI.mj (vA 3) (XI.mj (vA 4) (XI.vg))) (XI.z6 rfl)) (List.forall_mem_cons.mpr ⟨XI.JL (i:=8) sFull rfl λa oa xd od v d S V=>Rc (Rf (j:=7) (show(8:Nat)≠7 by decide) rfl sc.nd rfl (by first|exact Or.inl rfl|exact Or.inr rfl) (VL (XI.RZ S))),List.forall_mem_nil _⟩) rfl rfl sc.nd rfl) (XI.gow (XI.RX λc d=>XI.pQ)))
  (XI.iI (XI.Uh (Lq (vP 7)) (XI.iI (XI.qb (XI.Ry (XK.hu1 X.units) (i:=2) (Or.inr rfl) (vP 4) (vP 3) rfl) (XI.gow XI.RW))
  (XI.sO (XI.Fp (by decide) (bD (zp (vP 5) (zm (qw (Lz X.units) Ub (iY (XI.zR (ns:=aU) U X (by decide) (fH 0 rfl) (dq (vP 3) dz))) (vP 4) (d_ _)))))))) (XI.Hi))
  (XI.iI (XI.Uh (Er (Bm (oX (vP 5)) (Bm (oY (oX (iY (cT h_law_whole X (dq (vP 7) dz))))) (Bm (oY (Bs vJ vJ Ei Ei iP (vP 7) (vP 4))) (Ep (oY (oX (iY (cT Z X (dq (vP 1) (dq (bD (XI.sV rfl (fH 2 rfl) (by rfl) B.list_)) (dq (vP 7) dz)))))))))))) (XI.sO (XI.Fp (by decide) (bD (Gw)))) (XI.Hi))
  (XI.sO (XI.Fp (by decide) (bD (qw (Lz X.units) Ub (bD (jL (dq (XI.kj (ns:=aU) J X (by decide) (fH 0 rfl)) (dq (XI.kj (ns:=aU) q X (by decide) (fH 0 rfl)) (dq (XI.kj (ns:=aU) O X (by decide) (fH 0 rfl)) dz))))) (vP 6) (d_ _))))))))))
theorem Xj{f:Addr}{fd:dk}(Fn:FunD K "law" (top 35) f fd)(B:Bl mg)(hHouse:HC_House K)(q:Has P w K mg base n "_law_part" ["_law_script", "_law_at", "_law_k", "_law_many"] (spD K bY))(O:Has P w K mg base n "_law_rooms" ["_law_script", "_law_at", "_law_most"] (spD K gH))(U:Has P w K mg base n "_law_names" ["_law_script", "_law_at"] (spD K jO)){m0:Nat}(iHouse:XI.HasI P w K mg base m0 "House" aY ["self", "rooms"] (XI.spI K aY aU iU))(hmn:m0+1<=n)(J:XI.HasM P w K mg base n aY "guests" ["self"] (spD K cY))(Y:XI.HasM P w K mg base n aY "out" ["self", "name"] (XI.spW K [0] jz))(Z:Has P w K mg base n "_law_came" ["_law_house", "_law_rooms_here", "_law_wishes", "_law_name", "_law_kind"] (XI.spW K [0,2] gB)):FnOk P w K mg base CX0 (n+1) f fd ["_law_script"] (spD K O8):=by
 have sc:FnScope ["_law_script", "_law_rooms_here", "_law_house", "_law_names_here", "_law_wishes", "_law_at", "_law_name", "_law_kind", "_law_found"] ["_law_script"] (bh (top 35)):=fsc;exact Ln (fl:=[.A,.A,.N,.A,.N,.A,.A,.A,.A]) Fn sc (by decide) (by decide) λf cdv A outer s H E X=>bM (sA (i:=1) sc.nd (rY (cT O X (dq (vP 0) (dq iP (dq iP dz))))))
  (bM (zE (i:=2) rfl sc.nd rfl (by first|exact Or.inl rfl|exact Or.inr rfl) (XI.RJ (ns:=aU) iHouse (X.mono hmn) (dq (K8 (GK (vB 1) (by rfl) B.list_)) dz)))
  (bM (sA (i:=3) sc.nd (rY (cT U X (dq (vP 0) (dq iP dz)))))
  (bM (zE (i:=4) rfl sc.nd rfl (by first|exact Or.inl rfl|exact Or.inr rfl) (zB))
  (bM (tY (L:=[]) eg rfl (yq (by rfl) B.range_ (vX (dq iP (dq (bD (jl (IW rfl) Vx (by rfl) B.min_ PyProof.Rows.boot_min (dq (bD (jl eO sy (by rfl) B.len_ PySem.boot_len (dq (vP 0) dz))) (dq iP dz)))) dz)))) (gN' (i:=5) sc.nd) (bM (sA (i:=6) sc.nd (dx (vB 3) (iY (cT q X (dq (vP 0) (dq (vP 5) (dq iP (dq iP dz))))))))
  (bM (p8 (Er (zq (fG (XK.Mq X.units) XI.Ui (vP 6) (fH 4 rfl) (by with_unfolding_all rfl)) (u6 (fG (mD X.units) zj (iY (cT q X (dq (vP 0) (dq (vP 5) (dq iP (dq iP dz)))))) iP (d_ _))))) (bM (XI.sU (XI.Cq (ns:=aU) (sw:=[2]) Y X rfl rfl (by decide) (XI.mj (vA 6) (XI.vg)) (XI.z6 rfl)))
  (cC (XI.sU (XI.Rz (i:=4) (Or.inl rfl) (vP 6) rfl ⟨rfl,rfl,rfl,rfl⟩)))) (jJ))
  (bM (sA (i:=7) sc.nd (fK (dO jU mX iP (iY (cT q X (dq (vP 0) (dq (vP 5) (dq iP (dq iP dz)))))))))
  (cC (XI.V_ (XI.tw_w (XI.V9 (XI.tw_of (fG (XK.uc X.units) XI.Cv (vP 6) (fH 4 rfl) (by with_unfolding_all rfl))) (XI.Rv (XI.tw_not (XI.tw_val (XI.Nb (sw:=[2,4]) Z X (XI.Cm (i:=2) rfl rfl (XI.mj (vA 1) (XI.Cm (i:=4) rfl rfl (XI.mj (vA 6) (XI.mj (vA 7) (XI.vg)))))) (XI.z6 rfl))))))) (cC (dh (dI (Gw)))) (jJ)))))))
  (bM (sA (i:=8) sc.nd (fK (yr (dq (bD (XI.sV rfl (iY (XI.kj (ns:=aU) J X (by decide) (fH 2 rfl))) (by rfl) B.list_)) dz) (by rfl) B.sorted_)))
  (cC (dh (dI (qw (mD X.units) zj (vP 8) (bD (yr (dq (bD (XI.sV rfl (fH 4 rfl) (by rfl) B.list_)) dz) (by rfl) B.sorted_)) (d_ _))))))))))
end
end K67
namespace D3
theorem len0{p:List PySem.Value->Prop}(h:p []):∀us,us.length=0->p us:=λus Z=>by
 cases us with
 |nil=>exact h
 |cons _ _=>cases Z
theorem Xk{n:Nat}{p:List PySem.Value->Prop}(h:∀a us,us.length=n->p (a::us)):∀us,us.length=n+1->p us:=λus Z=>by
 cases us with
 |nil=>cases Z
 |cons a r=>exact h a r (Nat.succ.inj Z)
end D3
namespace XI
open L2 My D3
variable{P:c_}{w:de}{K:PySem.W.Frag}{mg:Str->Option Value}{base:dl}{n k:Nat}{C:Addr}{m:Str}{ps:List Str}{sp:Sp}{fld:Addr->Str}
theorem HasM.mono(h:HasM P w K mg base k C m ps sp)(l:k<=n):HasM P w K mg base n C m ps sp:=by
 obtain⟨⟨f,fd,F,b,M⟩,c⟩:=h;exact⟨⟨f,fd,F.mono l,b,M⟩,c⟩
theorem HasMX.mono(h:HasMX P w K mg base fld k C m ps sp)(l:k<=n):HasMX P w K mg base fld n C m ps sp:=by
 obtain⟨⟨f,fd,F,b,M⟩,c⟩:=h;exact⟨⟨f,fd,F.mono l,b,M⟩,c⟩
theorem Xl{h:dl}{f:Addr}{oc kV J pm q ct:Value}{od an:Option Addr}{sl:Array (Option Value)}{c x:Str}{st:dy}(X:K.In h)(G:h.Ns mainGlobals mg)
 (hb:∀(kV doc pm:Value)(an:Option Addr)(cdv ct:Value)(us:List Value),us.length=ps.length->bindArgs (PySem.W.fnOf "__init__" x (jG st) (dR st) (bh st) .none kV doc pm an cdv ct) ⟨us,[]⟩=pure (ps.zip us))
 (mk:PySem.W.makesIn K C=true) (a:PySem.W.findIn K (.ref C) "__init__"=some (some (.ref f))) (l:K.lookup f=some ⟨oc,od,.func (PySem.W.fnOf "__init__" x (jG st) (dR st) (bh st) .none kV J pm an q ct),sl⟩) (O:PySem.W.codeIn K q x=true) (fn:PySem.W.isFn K (.ref f)=true) (k:PySem.W.keepIn K (.ref C)=true)
 (g:PySem.W.nsIn K mainGlobals c=some (some (.ref C))):DgI K mg c C x st ps:=
 ⟨⟨f,_,⟨⟨oc,od,.none,kV,J,pm,an,q,ct,sl,rfl,l,O⟩⟩,.all (hb kV J pm an q ct),⟨mk,a,fn,k⟩⟩,PySem.W.mg_of X G g⟩
end XI
namespace K67
open L2 My D3
structure Txt(K:PySem.W.Frag)(mg:Str->Option Value):Prop where
 d_is_whole:Dg K mg "is_whole" (top 9) ["thing"]
 d_is_whole_within:Dg K mg "is_whole_within" (top 10) ["thing", "least", "most"]
 d_free_from:Dg K mg "free_from" (top 12) ["rooms", "guests", "kind"]
 d_least_wished:Dg K mg "least_wished" (top 13) ["rooms", "guests", "kind"]
 d_falls_of:Dg K mg "falls_of" (top 14) ["rooms", "guests", "kind"]
 d_guest_to_move:Dg K mg "guest_to_move" (top 15) ["rooms", "guests", "kind", "wished"]
 d_moves_by:Dg K mg "moves_by" (top 16) ["rooms", "guests", "falls"]
 d_is_level:Dg K mg "is_level" (top 17) ["rooms", "guests", "level"]
 d_admitted:Dg K mg "admitted" (top 18) ["rooms", "guests", "kind"]
 d_is_name:Dg K mg "is_name" (top 22) ["thing"]
 d__law_cell:Dg K mg "_law_cell" (top 25) ["_law_script", "_law_at"]
 d__law_part:Dg K mg "_law_part" (top 26) ["_law_script", "_law_at", "_law_k", "_law_many"]
 d__law_whole:Dg K mg "_law_whole" (top 27) ["_law_found"]
 d__law_rooms:Dg K mg "_law_rooms" (top 28) ["_law_script", "_law_at", "_law_most"]
 d__law_names:Dg K mg "_law_names" (top 31) ["_law_script", "_law_at"]
 d__law_fits:Dg K mg "_law_fits" (top 32) ["_law_rooms_here", "_law_wishes"]
 d__law_counted:Dg K mg "_law_counted" (top 33) ["_law_rooms_here", "_law_wishes", "_law_kind"]
 d_House_init:XI.DgI K mg "House" aY "House.__init__" (j4 23 0) ["self", "rooms"]
 d_House_names:XI.DgM K aY "names" "House.names" (j4 23 7) ["self"]
 d_House_moved:XI.DgM K aY "moved" "House.moved" (j4 23 10) ["self"]
 d_House_guests:XI.DgM K aY "guests" "House.guests" (j4 23 8) ["self"]
 d_House_check_guest:XI.DgM K aY "check_guest" "House.check_guest" (j4 23 3) ["self", "name"]
 d_House_kind_of:XI.DgM K aY "kind_of" "House.kind_of" (j4 23 6) ["self", "name"]
 d_House_out:XI.DgM K aY "out" "House.out" (j4 23 4) ["self", "name"]
 d_House_move_guest:XI.DgM K aY "move_guest" "House.move_guest" (j4 23 2) ["self", "room", "other"]
 d_House_let_in:XI.DgM K aY "let_in" "House.let_in" (j4 23 1) ["self", "name", "kind"]
 d__law_came:Dg K mg "_law_came" (top 34) ["_law_house", "_law_rooms_here", "_law_wishes", "_law_name", "_law_kind"]
 d_law:Dl K mg "law" "_law_script" (top 35)
 c_House:HC_House K
 s_Full:XC.SuiA K mg (λ_ => "kind") "Full" "kind" "InnError"
 g_MOST_SIGNS:∃t,mg "MOST_SIGNS"=some (.int 8 t)
 g_BEST_KIND:∃t,mg "BEST_KIND"=some (.int 4 t)
 blt:Bl mg
theorem Xm{P:c_}{w:de}{K:PySem.W.Frag}{mg:Str->Option Value}{base:dl}(T:Txt K mg){f:Addr}{fd:dk}(F:FunD K "law" (top 35) f fd):FnOk P w K mg base CX0 65 f fd ["_law_script"] (Lp K):=by
 have x:=Dt (P:=P) (w:=w) (base:=base) (n:=0) T.d_is_whole T.blt;have U:=rA (P:=P) (w:=w) (base:=base) (n:=1) T.d_is_whole_within T.blt (x.mono (by decide));have S:=Ah (P:=P) (w:=w) (base:=base) (n:=0) T.d_free_from T.blt;have O:=uP (P:=P) (w:=w) (base:=base) (n:=0) T.d_least_wished T.blt;have u:=Du (P:=P) (w:=w) (base:=base) (n:=1) T.d_falls_of T.blt (S.mono (by decide)) (O.mono (by decide));have R:=ur (P:=P) (w:=w) (base:=base) (n:=0) T.d_guest_to_move T.blt;have y:=Dv (P:=P) (w:=w) (base:=base) (n:=1) T.d_moves_by T.blt (S.mono (by decide)) (R.mono (by decide));have v:=Dw (P:=P) (w:=w) (base:=base) (n:=0) T.d_is_level T.blt;have t:=Dy (P:=P) (w:=w) (base:=base) (n:=2) T.d_admitted T.blt (u.mono (by decide)) (y.mono (by decide)) (v.mono (by decide));have L:=Gg (P:=P) (w:=w) (base:=base) (n:=0) T.d_is_name T.blt T.g_MOST_SIGNS;have B:=Ai (P:=P) (w:=w) (base:=base) (n:=0) T.d__law_cell T.blt;have X:=Aj (P:=P) (w:=w) (base:=base) (n:=1) T.d__law_part T.blt (B.mono (by decide));have H:=xT (P:=P) (w:=w) (base:=base) (n:=0) T.d__law_whole T.blt;have G:=xU (P:=P) (w:=w) (base:=base) (n:=2) T.d__law_rooms T.blt (X.mono (by decide));have E:=xV (P:=P) (w:=w) (base:=base) (n:=2) T.d__law_names T.blt (X.mono (by decide));have C:=Ak (P:=P) (w:=w) (base:=base) (n:=0) T.d__law_fits T.blt;have N:=uQ (P:=P) (w:=w) (base:=base) (n:=0) T.d__law_counted T.blt;have D:=xW (P:=P) (w:=w) (base:=base) (n:=0) T.d_House_init T.blt T.c_House;have J:=xg (P:=P) (w:=w) (base:=base) (n:=0) T.d_House_names T.blt T.c_House;have I:=xq (P:=P) (w:=w) (base:=base) (n:=0) T.d_House_moved T.blt T.c_House;have Y:=uR (P:=P) (w:=w) (base:=base) (n:=0) T.d_House_guests T.blt T.c_House;have Z:=pH (P:=P) (w:=w) (base:=base) (n:=1) T.d_House_check_guest T.blt T.c_House (L.mono (by decide));have Q:=uw (P:=P) (w:=w) (base:=base) (n:=2) T.d_House_kind_of T.blt T.c_House (Z.mono (by decide));have z:=Al (P:=P) (w:=w) (base:=base) (n:=2) T.d_House_out T.blt T.c_House (Z.mono (by decide));have V:=pZ (P:=P) (w:=w) (base:=base) (n:=0) T.d_House_move_guest T.blt T.c_House;have M:=uT (P:=P) (w:=w) (base:=base) (fld:=(λ_ => "kind")) (n:=1) T.d_House_let_in T.blt T.c_House (U.mono (by decide)) (t.mono (by decide)) (L.mono (by decide)) T.g_BEST_KIND (Y.mono (by decide)) (V.mono (by decide)) (XC.SuiA.up T.s_Full);have A:=Am (P:=P) (w:=w) (base:=base) (fld:=(λ_ => "kind")) (n:=4) T.d__law_came T.blt T.c_House (H.mono (by decide)) (C.mono (by decide)) (N.mono (by decide)) (J.mono (by decide)) (I.mono (by decide)) (Y.mono (by decide)) (Q.mono (by decide)) (M.mono (by decide)) T.s_Full;exact((Xj (P:=P) (w:=w) (base:=base) (n:=5) F T.blt T.c_House (X.mono (by decide)) (G.mono (by decide)) (E.mono (by decide)) D (by decide) (Y.mono (by decide)) (z.mono (by decide)) (A.mono (by decide))).mono (by decide)).imp (QW K67.P_)
end K67
namespace PySem.W.Fast
def tw2969935531462635533:=0
def tw1140510530990408770:=0
def tw15306735409351258929:=0
def tw13326849146362505001:=0
def tw17932104894172533382:=0
def tw494051840953778492:=0
def tw4079320234642088638:=0
def tw12164890242001597329:=0
def tw6927256932002239034:=0
def tw2561987272520187033:=0
def tw13718776556805894848:=0
def tw10852598450789205117:=0
def tw16047825870064116407:=0
def tw4643906101598646868:=0
def tw12389729214556597181:=0
def tw3292417267051477946:=0
def tw10370553095374273581:=0
def tw10844028002104755231:=0
def tw10365281445722740732:=0
def tw7675658807565346913:=0
def tw3791493801162708406:=0
def tw6585078984195731286:=0
def tw17099576367376108944:=0
def tw10681836365253314805:=0
def tw1352200949570133048:=0
def tw4773287416959043413:=0
def tw3980280072791974055:=0
def tw4536595988094893309:=0
def tw4918865669323202916:=0
def tw17084661098108957541:=0
def tw12584119958832610522:=0
def tw2408978288644533549:=0
def tw1346159957626535749:=0
def tw6916116436867123704:=0
def tw11056511482119277316:=0
def tw9946935031324418922:=0
def tw3512029761960309337:=0
def tw5225375306862956847:=0
def tw11738500890127031558:=0
def tw15685204777217018145:=0
def tw17868048727709325808:=0
def tw14521048909644764253:=0
def tw2487944976420699980:=0
def tw5228979715676586892:=0
def tw4072033204068683933:=0
def tw1382147460009769205:=0
def tw16311519964987726148:=0
def tw4024790610497017333:=0
def tw13319477153267920917:=0
def tw10666736698224009684:=0
def tw7050025148680905305:=0
def tw16644446804463294047:=0
def tw9858065382760363610:=0
def tw13590893967601558837:=0
def tw1840830033882371953:=0
def tw8820764591932533366:=0
def tw10973734441836511905:=0
def tw4780478445720236410:=0
def tw15963217703525926260:=0
def tw7743420911018021968:=0
def tw12762433561763722941:=0
def tw15670188015428567874:=0
def tw11936548844454817860:=0
def tw15783396467388588598:=0
def tw8103051091810532455:=0
def tw9902196233611093408:=0
def tw2554539385364487836:=0
def tw1741229101667657289:=0
def tw5461263327373328067:=0
def tw17879511417512558521:=0
def tw14415185105585209261:=0
def tw8320578114916182970:=0
def tw9432219316917326138:=0
def tw1573363424000210368:=0
def tw15894182995351494611:=0
def tw7354800471130390591:=0
def tw17496909012510808700:=0
def tw17144670285645580867:=0
def tw11488070551720762688:=0
def tw18125771205246471080:=0
def tw16552067815652437172:=0
def tw14508669517485985058:=0
def tw9626589660950944831:=0
def tw3034004154542310429:=0
def tw6129539420816826624:=0
def tw16662408305916127423:=0
def tw12907509524026778395:=0
def tw14764138450408698740:=0
def tw10749944830148186136:=0
def tw10751957904974897457:=0
def tw12808488018154332059:=0
def tw1675262400618836903:=0
def tw349448860249376825:=0
def tw7415580003674946978:=0
def tw4070657410029324927:=0
def tw9360509910661931619:=0
def tw15465552909291230157:=0
def tw2908710191880364458:=0
def tw6825785506170311316:=0
def tw12485476963549764626:=0
def tw12295705896018918162:=0
def tw8133985925757847460:=0
def tw4655432346403652282:=0
def tw9069586366749398956:=0
def tw11177232320676563560:=0
def tw5838994121679662487:=0
def tw14690819739743841742:=0
def tw6188598302739262370:=0
def tw1208194016332340341:=0
def tw13750911397817802377:=0
def tw16022597157719143175:=0
def tw1192353807493464153:=0
def tw16107989926505326597:=0
def tw4750600316540395261:=0
def tw10050294052901605371:=0
def tw7940878595810763201:=0
def tw15902985146545363854:=0
def tw2296795023676685997:=0
def tw9809202447610227764:=0
def tw3833581858143877624:=0
def tw2095352439861904596:=0
def tw10551784426529462076:=0
def tw8658316738314529863:=0
def tw2088296265222156237:=0
def tw8745484923181050447:=0
def tw1961202883605709171:=0
def tw7184014627253632879:=0
def tw11447585322618498094:=0
def tw17812981153141138739:=0
def tw3715527595345682066:=0
def tw15175752896100555002:=0
def tw12300089634204130569:=0
def tw12914276846031881766:=0
def tw10241970114467576564:=0
def tw9443766935475482823:=0
def tw4255629823558785630:=0
def tw15252442261357875028:=0
def tw15231230018067814043:=0
def tw17666060306547862286:=0
def tw17657317396692558252:=0
def tw9358620884889498147:=0
def tw12457280026435391438:=0
def tw4363749613695683421:=0
def tw11046886157970201480:=0
def tw15708325337455614635:=0
def tw12872346883276654357:=0
def tw15850680180582500176:=0
def tw7250979514621611694:=0
def tw15610115162285421976:=0
def tw1671476344445678005:=0
def tw12812211016116707478:=0
def tw12339769338306837857:=0
def tw2773711257761409852:=0
def tw11461123534466062388:=0
def tw3771233544914698923:=0
def tw13009607669043717171:=0
def tw15490338354414941216:=0
def tw7807325981601313912:=0
def tw10818459787414680698:=0
def tw6632727646643592053:=0
def tw14392559634264874506:=0
def tw17993305787167166367:=0
def tw12388067295521513058:=0
def tw2787570841542547712:=0
def tw13299870413256000917:=0
def tw9717120701431432636:=0
def tw17792810916803862110:=0
def tw12835798885454980137:=0
def tw12725604633621330756:=0
def tw9345083009090606524:=0
def tw14355745956045633197:=0
def tw15872613496124043435:=0
def tw11330831225212234234:=0
def tw15719217936283864711:=0
def tw14565889113187335862:=0
def tw15947859926960537811:=0
def tw13735870420221561600:=0
def tw14521771854929292230:=0
def tw13270384763493834213:=0
def tw14965313316823537665:=0
def tw5752210377909492909:=0
def tw12613872578508023785:=0
def tw7762993436088057122:=0
def tw12482421889211407849:=0
def tw11275476252584548460:=0
def tw17681298219623676411:=0
def tw14279150088660765582:=0
def tw729118578973338941:=0
def tw12066116915437730377:=0
def tw16273507156641007712:=0
def tw7338579119696186495:=0
def tw16952397158751571692:=0
def tw4627140435907320222:=0
def tw16099064896208031173:=0
def tw11028297171863577567:=0
def tw13322228874238911619:=0
def tw10023762223202029729:=0
def tw13523821079909677438:=0
def tw9589092727950302682:=0
def tw17900299155531231741:=0
def tw8697697990350632086:=0
def tw3665021915241535432:=0
def tw14052351788700771929:=0
def tw9562362171227055811:=0
def tw7121292949811827776:=0
def tw1798420992281509477:=0
def tw1292064468789982415:=0
def tw5744696992318589394:=0
def tw13429240644404383642:=0
def tw5891544336738896099:=0
def tw12065758380196385813:=0
def tw3289484293855757297:=0
def tw1484513953313095160:=0
def tw12591602857099100005:=0
def tw12618613550484602180:=0
def tw9208179887848597332:=0
def tw10520951177209684485:=0
def tw17499584066809371513:=0
def tw7684939527931094737:=0
def tw16048382899135320826:=0
def tw4991995686706476140:=0
def tw12735919251421158412:=0
def tw6620756024563973684:=0
def tw664937701178726654:=0
def tw15246305096509042787:=0
def tw1463458501465503231:=0
def tw668883512901863399:=0
def tw17511145485271799728:=0
def tw7195334067657027977:=0
def tw14154644953087329266:=0
def tw15042178565491713258:=0
def tw9413520282925358201:=0
def tw4166982654207850165:=0
end PySem.W.Fast
open PySem PySem.W PyProof.Rows
set_option maxRecDepth 100000 in
set_option maxHeartbeats 0 in
theorem PySem.Challenge.cw_nightbook_k67_whole_let_in_where_any_sea_holds : PySem.Challenge.rw_nightbook_k67_whole_let_in_where_any_sea.Holds := by
 w_on;o_law;k_head;(case hw=>w_witness2)
 k_fill
 refine L2.KJ (l:=PySem.Challenge.rw_nightbook_k67_whole_let_in_where_any_sea) (n:=63) (k:=65) (x := "_law_script") (CX:=L2.CX0) (sp:=D3.Lp) rfl (by decide) rfl ⟨rfl,by decide,by decide⟩ (λw h Y=>PySem.W.kIn_of Y) ?F D3.tabs (λ_ _ _=>⟨(λ_ h=>nomatch (show _∈([]:List (Addr×Str×Pos))from h)),(λ_ h=>nomatch (show _∈([]:List (Addr×Str×Pos))from h)),(λ_ h=>nomatch (show _∈([]:List (Addr×Str×Pos))from h))⟩) (λ_ h=>nomatch (show _∈([]:List (Addr×Str×Pos))from h)) ?S ?C
 case F=>
  intro w mg fa h Z G X;have T:K67.Txt (L2.KOf Z) mg:=by
   constructor
   (case blt=>constructor<;>(refine' PySem.W.mg_none_of Z G ?z;(case z=>k_is)))
   all_goals try dsimp only[L2.KOf]
   all_goals first
    | (refine' D3.Yb Z G ?b ?a ?l ?c ?k;(case a=>k_is);(case l=>k_is);(case c=>k_is);(case k=>k_is);(case b=>intro _ _ _ _ _ _;repeat(first|exact D3.len0 rfl|exact D3.len0 ⟨_,rfl,rfl⟩|refine D3.Xk λ_=>?_)))
    | (refine' D3.Yc Z G ?b ?a ?l ?c ?k;(case a=>k_is);(case l=>k_is);(case c=>k_is);(case k=>k_is);(case b=>exact λ_ _ _ _ _ _ u=>rfl))
    | (refine' XI.Wa ?b ?a ?l ?c ?f ?k;(case a=>k_is);(case l=>k_is);(case c=>k_is);(case k=>k_is);(case f=>k_is);(case b=>intro _ _ _ _ _ _;repeat(first|exact D3.len0 rfl|exact D3.len0 ⟨_,rfl,rfl⟩|refine D3.Xk λ_=>?_)))
    | (refine' XI.Xl Z G ?b ?mk ?a ?l ?c ?f ?k ?g;(case a=>k_is);(case l=>k_is);(case c=>k_is);(case k=>k_is);(case mk=>k_is);(case f=>k_is);(case g=>k_is);(case b=>intro _ _ _ _ _ _;repeat(first|exact D3.len0 rfl|exact D3.len0 ⟨_,rfl,rfl⟩|refine D3.Xk λ_=>?_)))
    | (refine' XC.Ra (XC.VG Z G ?a ?kp ?lC ?lI ?lN ?oN ?lNI ?oNI ?i1 ?i2 ?s1 ?s2 ?n1 ?n2 ?hB ?lk ?hcd ?sc ?l1 ?l2 ?hb ?ne ?nd ?nc) rfl (PySem.W.mg_of Z G ?m) ⟨⟨?e4,?e5,?e6⟩,?a2,?a3⟩;(case a=>k_is);(case kp=>k_is);(case lC=>k_is);(case lI=>k_is);(case lN=>k_is);(case lNI=>k_is);(case oN=>rfl);(case oNI=>rfl);(case i1=>k_is);(case i2=>k_is);(case s1=>k_is);(case s2=>k_is);(case n1=>k_is);(case n2=>k_is);(case hB=>rw[bS,bo];kernel_rfl);(case lk=>k_is);(case hcd=>k_is);(case sc=>exact⟨rfl,rfl,rfl,by decide +kernel,rfl,by decide +kernel,by decide +kernel⟩);(case l1=>rfl);(case l2=>rfl);(case hb=>exact λ_ _=>rfl);(case ne=>decide);(case nd=>decide);(case nc=>decide);(case m=>k_is);(case e4=>kernel_rfl);(case e5=>kernel_rfl);(case e6=>kernel_rfl);(case a2=>kernel_rfl);(case a3=>kernel_rfl))
    | (exact⟨_,PySem.W.mg_of Z G rfl⟩)
    | (refine'⟨⟨?q1,?q2,?q3,?q4⟩,?r1,?r2,?r3,?r4⟩<;>(first|kernel_rfl|(show PySem.W.findIn _ _ _=_;kernel_rfl)))
  obtain⟨f,fd,F,b,m⟩:=T.d_law.ex;have Q:=X.symm.trans m
  cases Q;exact⟨fd,b,λbase O P=>K67.Xm T F⟩
 case S=>exact λK H a ns V R U=>⟨a,ns,R,rfl,U,V,λ_=>rfl⟩
 case C=>exact λ_ _ _ _ z=>z
