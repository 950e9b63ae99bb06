import PyProof.Rows.All
import Wide.All
import OpenK.AllK
import Wide.FinOn
import Lean
import PyProof.EqAt
import PyProof.EqKinds
import PyProof.TupleCall
import PyProof.EqLayable
import KE.KDictList
import KE.KDictOf
import KE.KDictSum
import KE.KEqDict
import KE.KIntText
import KE.KIsAll
import KE.KMinBuiltin
import KE.KPairComp
import KE.KRevIter
import KE.KSortTup
import KE.KxText
import PyProof.AttrMissHeap
import PyProof.CallStr
import PyProof.DictTable
import PyProof.DictWalks
import PyProof.ExcAttrAll.ValueError
import PyProof.ExcBaseAll.ValueError
import PyProof.ExcClass2
import PyProof.ExcInit
import PyProof.FString5
import PyProof.InstStore
import PyProof.InstStoreFacts
import PyProof.NeKinds
import PyProof.NsDelKeeps
import PyProof.P3In
import PyProof.RaisesMany
import PyProof.Rows.CountFlat
import PyProof.Rows.SortRev
import PyProof.Rows.SortWalk
import PyProof.RulesAs
import PyProof.RulesTry
import PySem.Sem
import PySem.Challenge.RW_nightbook_k68_house_refuses
set_option Elab.async false
set_option linter.all false
set_option maxRecDepth 100000
set_option maxHeartbeats 4000000
set_option exponentiation.threshold 40000
set_option genSizeOf false
set_option genSizeOfSpec false
set_option genInjectivity false
set_option bootstrap.genMatcherCode false
noncomputable section
open PySem renaming wpAny_bind->aa,wpAny_pure->ag,wpAny_mono->ar,wpAny_loadPart_at->aw,wpAny_Call_Name_kw->ax,wpAny_truthy_bool->ay,builtinLookup_eq_fast->az,wpAny_holding->aI,wpAny_field->aS,wpAny_execs_nil->aT,typeLookup_type->a_,codeAny_builtin->ba,wpAny_isSubtype_exc->bc,plainId_quiet->bd,wpAny_seqItems->be,wpAny_updateSeq->bg,wpAny_passesOwn->bi,tupleKind_room_in1->bo,wpAny_tryCatch->bq,wpAny_execs_cons->br,wpAny_callSpecial?_slot->bx,wpAny_nextOf_list_item->bS,codeAny_mono->b8,call_meetsIn->b9,wpAny_call->cb,wpAny_loadName_local->cc,wpAny_setField->ci,wpAny_letGo->ck,wpAny_standAt->cm,wpAny_pyIter_list->cr,wpAny_newObj_type->cu,wpAny_Name->cv,typeIs_str->cw,plainObj_wpAny_Assign_Attribute->cy,call_meets->cz,wpAny_typeOf->cB,wpAny_call_entry->cK,wpAny_specialOf->cS,wpAny_newFunctionEnv_cells->c_
open PySem.Heap renaming get?_push_of_some->ae,lt_size->af,get?_push_size->ai,get?_update_other->am,get?_update_self->av,size_update->bp,get?_none_of_le->bP,size_push->cE,get?_push_cases->de,get?_update_ne->df
open PySem.SeqAt renaming canLay_of_shaped->ah
open PySem.Around renaming under_plainId->aE,in1_units->bj
open PySem.Calls renaming callWith_builtin->bb,spliced_cons->bn,spliced_nil->bu,evalArgs_plain->bE,Name_function_global->cq
open PySem.SeqAt.EqAt renaming of_refs->bv,int_int->cQ
open PySem.Obj renaming isFreed_of_fields->bz,data_mapFields->ce
open PySem.F renaming slot_zip_next->bX,plain_extend_loop->cf
open PyProof.Rows renaming boot_list->c0,boot_isinstance->c9
open PySem.Heap.Ns1 renaming of_empty->da
open PySem.Txt renaming slice_le->db
open List renaming length_map->aG,mem_cons_of_mem->aH,mem_cons_self->aJ,getElem?_eq_getElem->aK,mem_cons->aL,getElem?_set_ne->aM,map_cons->aN,getElem?_map->aP,mem_append_right->aU,length_cons->aX,mem_map->aY,getElem?_eq_some_iff->bw,length_append->bB,size_toArray->bC,getElem?_eq_none->bD,mem_append_left->bH,getElem?_set_self->bI,replicate->bK,length_replicate->bL,mem_singleton->bQ,mem_append->bT,getElem?_append_left->bY,map_map->bZ,range->b_,length_set->cg,map_append->cj,getElem?_append_right->cA,nodup_cons->cF,lookup_cons->cL,not_mem_nil->cO,length_nil->cW,getElem?_replicate->cX,mem_of_getElem?->cY,append_nil->cZ,nodup_append->dB,mem_range->dD,getD_eq_getElem?_getD->dF,set_cons_zero->dG,mem_filter->dI,map_nil->dR,contains_cons->dU,cons_append->dW,map_congr_left->eU,nil_append->eX,pairwise_cons->fD,all_eq_true->fG,forall_mem_cons->fL,set_cons_succ->gM,getElem?_of_mem->h_,getElem_mem->iG,lookup->iM,getElem?_drop->iR,length_singleton->jf,reverse_cons->jh,ext_getElem?->ji,length_range->jj,length_take->jx,drop_eq_getElem_cons->jE,filterMap_cons->jH,length_reverse->jJ,zip_cons_cons->jW,drop_eq_nil_of_le->j8,append_assoc->j9,getElem_map->lD,filter_cons->lE,any_cons->lM,getElem?_mapIdx->lX,of_mem_zip->mq,find?_cons->mz,getElem?_range->mK,mem_filterMap->mZ,find?_eq_none->m_,mem_of_find?_eq_some->nP,length->nQ,any_eq_true->oM,getElem?_cons_succ->oR,drop_of_length_le->pO,forIn_cons->qw,mem_iff_getElem?->qJ,mem_iff_getElem->q_,forall_mem_nil->sZ,take_add_one->uM,pairwise_map->uO
open Nat renaming reduceLeDiff->ak,reduceEqDiff->ao,reduceAdd->au,reduceLT->aB,le_refl->aV,le_trans->bf,ne_of_lt->bF,lt_of_lt_of_le->bV,not_lt->dM,lt_irrefl->d7,le_of_lt->gA,lt_succ_self->gG,zero_le->g_,lt_trans->mL,lt_or_ge->mQ,le_add_right->oO,zero_add->pN,min_le_left->qy,le_succ->qY,lt_of_le_of_lt->tW,eq_zero_or_pos->tY,ne_of_gt->uJ,le_of_eq->uK,lt_succ_of_lt->uN
open Int renaming reduceEq->aC,reduceLT->aD,reduceLE->aF,emod_lt_of_pos->jV,emod_nonneg->mC,le_trans->mO,le_refl->nR,toNat_natCast->nU,le_antisymm->qx,sub_zero->uL
open Option renaming bind_some->aq,some->cU,isSome_map->fX,map_some->fZ,isSome_iff_exists->jN,isSome_none->jX,isSome_some->nj,map_eq_some_iff->pL
open Bool renaming and_eq_true->aO,not_true->bO,not_false->cJ,false_eq_true->fH,false_ne_true->gH,or_true->jy
open Array renaming length_toList->cN,getElem?_eq_none->gB,getElem?_eq_some_iff->gJ,getElem?_toList->gQ,getElem?_eq_getElem->jF,all_toList->oU,mem_toList_iff->qW,find?_toList->tU,forIn_toList->tX
open And renaming intro->di
open PySem renaming Shared->dk,Program->dt,Around->dy,World->dE,FuncData->d4,Heap->ec,Scope->eH,Keyword->eI,IsPair->eJ,Builtin->eK,GenState->fg,Model->fh,ZipApart->fF
open PySem.SeqAt renaming shaped->dLq
open PySem.PyData renaming int->dm,depthAll->dn,depth->du,eqv->dA,canLay0->dP,bool->d5,tuple->eb,canLayAll0->ee,strOk->eA,str->eD,list->eF,depthKv->e_
open PySem.Value renaming ref->dr,none->dL,bool->ef,int->ez,str->eQ,type->e9,builtin->fm
open Ne renaming symm->dv
open PySem.NameKind renaming free->dQ,cell->eM
open PyProof.Rows renaming callWith_type1->d6,AllBare->eW,IntsAre->fo
open PySem.Str renaming ofString->eg
open True renaming intro->eh
open Sum renaming inl->ei,inr->eT
open False renaming elim->er
open PySem.Obj renaming mapSeq->et,mapFields->fq
open PySem.PassesOwn renaming never->eB
open ForInStep renaming yield->eC
open PySem.Heap renaming SameBut->eL
open PySem.SeqAt.EqAt renaming same->eP
open Classical renaming propDecidable->eR,choose_spec->eV
open PySem.Builtin.Builtins renaming bindParams->ff
open List.Pairwise renaming imp_of_mem->fy
open PySem.Builtin.List renaming listSameRef->fA
open PySem.Builtin.Dict renaming updateFrom->fE
open PySem PySem.Spec PyProof.Rows
local macro_rules|`(tactic|lia)=>`(tactic|omega)
variable{p pos pos' tpos apos p2 cpos pos2 rpos hpos:Pos}{h h':ec}{e b tg ke arg:Expr}{E:Value->dk->Prop}{pins:List (Addr×Obj)}{rest es ifs:List Expr}{body sts orelse suite:List Stmt}{u cdv:Value}{g:Array fg}{y qual cn ic en:Str}{j:Int}{ps ks cs:List Str}{scope:eH}{l ix sw:List Nat}{pl:Bool}{I:Addr}{bmB:List Value}{oa od:Obj}{b0:Stmt}{r rs:List Int}
def dTr{p:Prop}[Decidable p](h:p):decide p=true:=decide_eq_true h
def dFa{p:Prop}[Decidable p](h:¬p):decide p=false:=decide_eq_false h
def lMp{α β:Type}{f:α->β}{l:List α}:(l.map f).length=l.length:=aG f

namespace L2
abbrev Key:=Sum Int Str
noncomputable def yx:Key->Value->Bool
 | .inl k,v=>Value.isInt k v
 | .inr x,v=>Value.isStrOf x v
def an2(w:dE):Key->Int
 | .inl k=>hashInt k
 | .inr x=>hashStr w x
theorem gC:∀{k:Key}{v:Value},yx k v=true->(∃i t,k=ei i/\v=ez i t)\/(∃x t,k=eT x/\v=eQ x t)
 | .inl i,v,h=>by
  obtain⟨t,e⟩:=Value.isInt_shape (k:=i) (v:=v) h;exact .inl ⟨i,t,rfl,e⟩
 | .inr x,v,h=>by
  obtain⟨t,e⟩:=Value.isStrOf_shape (x:=x) (v:=v) h;exact .inr ⟨x,t,rfl,e⟩
def Le(i:Int)(t:Tok):yx (.inl i) (.int i t)=true:=by simp[yx,Value.isInt]
def Lf(x:Str)(t:Tok):yx (.inr x) (.str x t)=true:=by simp[yx,Value.isStrOf]
def Xk(a b:Int):decide ((ei a:Key)=ei b)=(a==b):=by
 by_cases e:a=b
 .subst e;simp
 .have h:¬(ei a:Key)=ei b:=λq=>e (Sum.inl.inj q)
  rw[dFa h];exact(beq_eq_false_iff_ne.mpr e).symm
def Xl(a b:Str):decide ((eT a:Key)=eT b)=decide (a=b):=by
 by_cases e:a=b
 .subst e;simp
 .have h:¬(eT a:Key)=eT b:=λq=>e (Sum.inr.inj q)
  rw[dFa h,dFa e]
def Xm(a:Int)(b:Str):decide ((ei a:Key)=eT b)=false:=dFa (λq=>nomatch q)
def Xn(a:Str)(b:Int):decide ((eT a:Key)=ei b)=false:=dFa (λq=>nomatch q)
def cG(prog:dt)(w:dE):PySem.KeyKind prog w Key where
 is:=yx
 hash:=an2 w
 inj:=λv a b ha hb=>by
  rcases gC ha with⟨i,t,rfl,rfl⟩|⟨x,t,rfl,rfl⟩
  .rcases gC hb with⟨j,u,rfl,e⟩|⟨y,u,rfl,e⟩
   .injection e with Z _;rw[Z]
   .exact nomatch e
  .rcases gC hb with⟨j,u,rfl,e⟩|⟨y,u,rfl,e⟩
   .exact nomatch e
   .injection e with Z _;rw[Z]
 byValue:=λk v h=>by
  rcases gC h with⟨i,t,rfl,rfl⟩|⟨x,t,rfl,rfl⟩<;>rfl
 pyHash:=λY h=>by
  rcases gC Y with⟨i,t,rfl,rfl⟩|⟨x,t,rfl,rfl⟩
  .exact wpAny_pyHash_int h
  .exact wpAny_pyHash_str h
 eqBool:=λX Y h=>by
  rcases gC X with⟨i,t,rfl,rfl⟩|⟨x,t,rfl,rfl⟩
  .rcases gC Y with⟨j,u,rfl,rfl⟩|⟨y,u,rfl,rfl⟩
   .rw[Xk]at h;exact wpAny_eqBool_int h
   .rw[Xm]at h;exact SeqAt.EqAt.int_str i t y u _ _ _ _ h
  .rcases gC Y with⟨j,u,rfl,rfl⟩|⟨y,u,rfl,rfl⟩
   .rw[Xn]at h;exact SeqAt.EqAt.str_int x t j u _ _ _ _ h
   .rw[Xl]at h;exact wpAny_eqBool_str h
 «strs»:=λk x t v h=>by
  rcases gC h with⟨i,u,rfl,e⟩|⟨y,u,rfl,e⟩
  .exact nomatch e
  .injection e with Z _
   subst Z
   cases v<;>rfl
def yC(prog:dt)(w:dE)(k:Key)(v:Value):(cG prog w).is k v=yx k v:=rfl
def Ed(prog:dt)(w:dE)(i:Int)(t:Tok):(cG prog w).is (.inl i) (.int i t)=true:=Le i t
def Ef(prog:dt)(w:dE)(x:Str)(t:Tok):(cG prog w).is (.inr x) (.str x t)=true:=Lf x t
end L2
variable{us:List Value}{a:Addr}{P:dt}{w:dE}
namespace L2
inductive V where
 |non|bl (b:Bool)|int (i:Int)|str (x:Str)|byt (b:Array UInt8)|flt (b:UInt64)|ref (a:Addr)|ty (n:String)
 deriving DecidableEq
def RelV:V->Value->Prop
 | .non,u=>u=dL
 | .bl b,u=>u=ef b
 | .int i,u=>∃t,u=ez i t
 | .str x,u=>∃t,u=eQ x t
 | .byt b,u=>∃t,u=Value.bytes b t
 | .flt b,u=>∃t,u=Value.float b t
 | .ref a,u=>u=dr a
 | .ty n,u=>u=e9 n
abbrev Vals:List V->List Value->Prop:=Paired RelV
def Vals.length{xs:List V}(r:Vals xs us):xs.length=us.length:=Paired.length r
theorem Vals.get:∀{xs:List V}{us:List Value}{i:Nat}{x:V},Vals xs us->xs[i]? = some x->∃u,us[i]? = some u/\RelV x u
 |_,_,_,_,.nil,e=>by simp at e
 |_,_,0,_,.cons r _,e=>by simp at e;subst e;exact⟨_,rfl,r⟩
 |_,_,i+1,x,.cons _ t,e=>by
  obtain⟨u,h1,h2⟩:=Vals.get (i:=i) (x:=x) t (by simpa using e);exact⟨u,by simpa using h1,h2⟩
theorem Vals.append:∀{xs ys:List V}{us ws:List Value},Vals xs us->Vals ys ws->Vals (xs++ys) (us++ws)
 |_,_,_,_,.nil,s=>s
 |_,_,_,_,.cons r t,s=>.cons r (Vals.append t s)
theorem Vals.take:∀{xs:List V}{us:List Value}(n:Nat),Vals xs us->Vals (xs.take n) (us.take n)
 |_,_,0,_=>.nil
 |_,_,_+1,.nil=>.nil
 |_,_,n+1,.cons r t=>.cons r (Vals.take n t)
theorem Vals.drop:∀{xs:List V}{us:List Value}(n:Nat),Vals xs us->Vals (xs.drop n) (us.drop n)
 |_,_,0,r=>r
 |_,_,_+1,.nil=>.nil
 |_,_,n+1,.cons _ t=>Vals.drop n t
def pP:Option V->Option Value->Prop
 |some v,some u=>RelV v u
 |none,none=>True
 |_,_=>False
def KV : List (κ×V)->List (κ×Value)->Prop:=Paired λ(p:κ×V)(q:κ×Value)=>p.1=q.1/\RelV p.2 q.2
noncomputable def kV:Key->V
 | .inl i=>.int i
 | .inr x=>.str x
inductive HO where
 |lst (xs:List V)
 |tup (xs:List V)
 |dK (kvs:List (Key×V))|dT (kvs:List (List Key×V))
 |set (S:Int->Bool) (n:Nat)
 |ins (C dx:Addr) (fs:List (Str×V))
 |own (x:Addr)
 |xd (fs:List (Str×V))
 |met (f x:Addr)
 |rng (lo hi:Int)
 |frz (o:Obj) (u:HO)
 |tbl (q:Str) (p:Pos)
 |ext (φ:ec->Prop)
noncomputable abbrev Hp:=Addr->Option HO
noncomputable def upd(H:Hp)(a:Addr)(o:HO):Hp:=λb=>if b=a then some o else H b
def bM{H:Hp}{o:HO}:upd H a o a=some o:=by unfold upd;rw[if_pos rfl]
def bA (h:c≠a):upd H a o c=H c:=by unfold upd;rw[if_neg h]
def dJ{H:Hp} (h:H a=some o) (h':H c=some f) (d:o≠f):a≠c:=by
 intro e;subst e;rw[h]at h';exact d (cU.inj h')
def lF{H:Hp} (h:H a=some o) (h':H c=none):a≠c:=by
 intro e;subst e;rw[h]at h';cases h'
section
variable(P:dt)(w:dE)
def gR(H:Hp)(h:ec)(a:Addr):HO->Prop
 | .lst xs=>xs.length<=sizeLine/\∃(its:List Value)(n:Nat),Vals xs its/\h.get? a=some {cls:=.type "list", data:=.seq its.toArray n}
 | .tup xs=>xs.length<=sizeLine/\∃its:List Value,Vals xs its/\IsTup h a its.toArray
 | .dK kvs=>kvs.length<=sizeLine/\(a==sysModules)=false/\∃vs,KV kvs vs/\h.DictOf (cG P w) a vs
 | .dT kvs=>kvs.length<=sizeLine/\(a==sysModules)=false/\∃xs:List (List Key×Addr×Value),
  Paired (λ(p:List Key×V)(q:List Key×Addr×Value)=>p.1=q.1/\H q.2.1=some (.tup (p.1.map kV))/\RelV p.2 q.2.2) kvs xs /\
  ∃o es Z,h.get? a=some o/\o.ExactDict/\o.data = .dict es Z/\es.toList=xs.map (entryOfKey (tupleKind (cG P w)))/\(xs.map (·.1)).Nodup
 | .set S n=>h.SetOf (intKind P w) a S n
 | .ins C dx fs=>H dx=some (.own a)/\fs.length<=1000/\dx≠a/\h.get? a=some (PySem.W.instObj C dx) /\
  ∃mA,h.Ns1 dx mA/\(∀f,pP (fs.lookup f) (mA f))/\PySem.Within mA (fs.map (·.1))
 | .own _=>∃o,h.get? a=some o
 | .xd fs=>∃mA,h.Ns1 a mA/\∀f,pP (fs.lookup f) (mA f)
 | .rng lo hi=>∃t u v,h.get? a=some {cls:=.type "range", data:=.fields #[.int lo t,.int hi u,.int 1 v]}
 | .frz o u=>h.get? a=some o/\gR H h a u
 | .tbl q p=>∃ps,h.get? a=some {cls:=.none,data:=.fields ps}/\(ps = #[]\/∃c',ps = #[rawInt p.line,rawInt p.col,.ref c']/\H c'=some (.own a)/\h.CodeRec (.ref c') q)
 | .met f x=>h.get? a=some (PySem.W.methodObj (.ref f) (.ref x))
 | .ext φ=>φ h/\(∃o,h.get? a=some o)/\∀h1 h2:ec,φ h1->(∀o,h1.get? a=some o->h2.get? a=some o)->φ h2
def HOk(H:Hp)(h:ec):Prop:=∀a o,H a=some o->gR P w H h a o
end
section
variable{H H':Hp}{o:HO}
theorem gR.lt(x:gR P w H h a o):a<h.objs.size:=by
 cases o with
 |lst xs=>obtain⟨_,_,_,_,e⟩:=x;exact af e
 |tup xs=>obtain⟨_,_,_,p⟩:=x;exact p.lt
 |dK kvs=>obtain⟨_,_,_,_,o,_,_,e,_⟩:=x;exact af e
 |dT kvs=>obtain⟨_,_,_,_,o,_,_,e,_⟩:=x;exact af e
 |set S n=>obtain⟨o,_,_,_,e,_⟩:=x;exact af e
 |ins C dx fs=>obtain⟨_,_,_,e,_⟩:=x;exact af e
 |own y=>obtain⟨_,e⟩:=x;exact af e
 |xd fs=>obtain⟨_,⟨_,_,_,e,_⟩,_⟩:=x;exact af e
 |rng lo hi=>obtain⟨_,_,_,e⟩:=x;exact af e
 |frz Z u=>obtain⟨e,_⟩:=x;exact af e
 |tbl q p=>obtain⟨_,e,_⟩:=x;exact af e
 |met f y=>exact af (show h.get? a=some _ from x)
 |ext φ=>obtain⟨_,⟨_,e⟩,_⟩:=x;exact af e
theorem Paired.mapP : ∀{O:List α}{q:List β},Paired F O q->(∀a b,F a b->G a b)->Paired G O q
 |_,_,.nil,_=>.nil
 |_,_,.cons r t,f=>.cons (f _ _ r) (Paired.mapP t f)
theorem gR.stay(x:gR P w H h a o)(k:∀b u,(b=a\/H b=some (.own a))->h.get? b=some u->h'.get? b=some u)
 (O:∀b,H b=some (.own a)->H' b=some (.own a)) (ht:∀b xs,H b=some (.tup xs)->H' b=some (.tup xs)):gR P w H' h' a o:=by
 induction o with
 |lst xs=>obtain⟨z,its,n,r,e⟩:=x;exact⟨z,its,n,r,k _ _ (.inl rfl) e⟩
 |tup xs=>obtain⟨z,its,r,Z,e,c⟩:=x;exact⟨z,its,r,Z,k _ _ (.inl rfl) e,c⟩
 |dK kvs=>obtain⟨z,y,vs,r,Z,es,Y,e,c⟩:=x;exact⟨z,y,vs,r,Z,es,Y,k _ _ (.inl rfl) e,c⟩
 |dT kvs=>
  obtain⟨z,y,xs,r,Z,es,Y,e,c⟩:=x;exact⟨z,y,xs,Paired.mapP r λp q z=>⟨z.1,ht _ _ z.2.1,z.2.2⟩,Z,es,Y,k _ _ (.inl rfl) e,c⟩
 |set S n=>obtain⟨Z,es,Y,t,e,c⟩:=x;exact⟨Z,es,Y,t,k _ _ (.inl rfl) e,c⟩
 |ins C dx fs=>
  obtain⟨d,z,ne,e,mA,⟨od,es,Y,K,c⟩,r⟩:=x;exact⟨O _ d,z,ne,k _ _ (.inl rfl) e,mA,⟨od,es,Y,k _ _ (.inr d) K,c⟩,r⟩
 |own y=>obtain⟨Z,e⟩:=x;exact⟨Z,k _ _ (.inl rfl) e⟩
 |xd fs=>obtain⟨mA,⟨od,es,Y,e,c⟩,r⟩:=x;exact⟨mA,⟨od,es,Y,k _ _ (.inl rfl) e,c⟩,r⟩
 |rng lo hi=>obtain⟨t,u,v,e⟩:=x;exact⟨t,u,v,k _ _ (.inl rfl) e⟩
 |frz Z u M=>obtain⟨e,q⟩:=x;exact⟨k _ _ (.inl rfl) e,M q⟩
 |tbl q p=>
  obtain⟨ps,e,z⟩:=x;refine⟨ps,k a _ (.inl rfl) e,?_⟩;rcases z with z|⟨c',Q,U,R⟩
  .exact .inl z
  .obtain⟨c,oc,vs,N,T,X,W,L⟩:=R;have V:c'=c:=by injection T
   exact .inr ⟨c',Q,O _ U,c,oc,vs,N,T,k _ _ (.inr (V▸U)) X,W,L⟩
 |met f y=>
  have e:=x;exact k a _ (.inl rfl) e
 |ext φ=>obtain⟨p,⟨o,e⟩,st⟩:=x;exact⟨st _ _ p λo q=>k _ _ (.inl rfl) q,⟨o,k _ _ (.inl rfl) e⟩,st⟩
def HOk.lt(x:HOk P w H h)(e:H a=some o):a<h.objs.size:=(x a o e).lt
theorem HOk.fresh(x:HOk P w H h)(e:h.objs.size<=a):H a=none:=by
 cases q:H a with
 |none=>rfl
 |some u=>exact absurd (bV (x.lt q) e) (d7 _)
def HOk.kept(x:HOk P w H h)(k:∀b u,h.get? b=some u->h'.get? b=some u):HOk P w H h':=λa o e=>
 (x a o e).stay (λb u _ q=>k b u q) (λ_ q=>q) λ_ _ q=>q
def HOk.laid(x:HOk P w H h)(k:∀b u,h.get? b=some u->h'.get? b=some u)(O:h.objs.size<=a)(new:gR P w (upd H a o) h' a o):HOk P w (upd H a o) h':=λb u e=>by
 have hn:=x.fresh O;by_cases hb:b=a
 .subst hb;rw[bM]at e;cases e;exact new
 .rw[bA hb]at e;exact(x b u e).stay (λc v _ q=>k c v q) (λc q=>by rwa[bA (lF q hn)]) λc xs q=>by rwa[bA (lF q hn)]
end
def Rd(H:Hp)(a:Addr)(u:HO):Prop:=H a=some u\/∃o,H a=some (.frz o u)
def Rd.ok {u:HO} (r:Rd H a u) (x:HOk P w H h):gR P w H h a u:=by
 rcases r with r|⟨o,r⟩
 .exact x a u r
 .obtain⟨_,q⟩:=x a _ r;exact q
def Mut:Option HO->Prop
 |some (.lst _)=>True
 |some (.dK _)=>True
 |some (.dT _)=>True
 |some (.set _ _)=>True
 |some (.ins _ _ _)=>True
 |some (.ext _)=>True
 |_=>False
section
variable{H:Hp}{x e:Addr}{o':HO}
def HOk.write(ok:HOk P w H h)(O:Mut (H x))(he:e=x\/H e=some (.own x))(k:∀b u,b≠e->h.get? b=some u->h'.get? b=some u)(U:∃u,h'.get? e=some u)
 (new:gR P w (upd H x o') h' x o'):HOk P w (upd H x o') h':=λb u q=>by
 have Y:∀c y,H c=some (.own y)->c≠x:=λc y r z=>by subst z;rw[r]at O;exact O
 have X:∀c xs,H c=some (.tup xs)->c≠x:=λc xs r z=>by subst z;rw[r]at O;exact O
 by_cases hb:b=x
 .subst hb;rw[bM]at q;cases q;exact new
 .rw[bA hb]at q;by_cases Z:b=e
  .have V:H b=some (.own x):=by
    rcases he with z|z
    .exact absurd (Z.trans z) hb
    .rwa[Z]
   rw[q]at V;cases V;obtain⟨v,T⟩:=U;exact⟨v,by rwa[Z]⟩
  .refine(ok b u q).stay (λc v W r=>k c v ?_ r) (λc r=>by rwa[bA (Y c b r)]) λc xs r=>by rwa[bA (X c xs r)]
   rcases W with rfl|W
   .exact Z
   .rintro rfl;rcases he with z|z
    .exact Y c b W z
    .rw[W]at z;cases z;exact hb rfl
end
structure Un(fs ex:List Addr)(H H':Hp)(h h':ec):Prop where
 keep:∀b o,h.get? b=some o->H b=none->b∉fs->b∉ex->h'.get? b=some o
 slot:∀b o,h.get? b=some o->H b=none->b∈fs->b∉ex->∃sl,h'.get? b=some {o with slots:=sl}
 free:∀b o,h.get? b=some o->H b=none->b∉ex->H' b=none
 there:∀b o,h.get? b=some o->b∉ex->∃o',h'.get? b=some o'
 tups:∀b xs,H b=some (.tup xs)->H' b=some (.tup xs)
 frzs:∀b o u,H b=some (.frz o u)->H' b=some (.frz o u)
 tbls:∀b q p,H b=some (.tbl q p)->H' b=some (.tbl q p)
section
variable{fs fs' ex ex':List Addr}{H H1 H2:Hp}{h1 h2:ec}{x e:Addr}{o:HO}
def Un.any(u:Un fs ex H H1 h h1) (q:h.get? c=some O) (n:H c=none) (hx:c∉ex):∃sl,h1.get? c=some {O with slots:=sl}:=by
 by_cases hb:c∈fs
 .exact u.slot c O q n hb hx
 .exact⟨O.slots,u.keep c O q n hb hx⟩
def Un.kept(k:∀b u,h.get? b=some u->h'.get? b=some u):Un fs ex H H h h':=
 ⟨λb Z q _ _ _=>k b Z q,λb Z q _ _ _=>⟨Z.slots,k b Z q⟩,λ_ _ _ n _=>n,λb Z q _=>⟨Z,k b Z q⟩,λ_ _ q=>q,λ_ _ _ q=>q,λ_ _ _ q=>q⟩
def Un.refl:Un fs ex H H h h:=Un.kept λ_ _ q=>q
theorem Un.laid(k:∀b u,h.get? b=some u->h'.get? b=some u)(O:h.objs.size<=a)(hn:H a=none):Un fs ex H (upd H a o) h h' where
 keep:=λb u q _ _ _=>k b u q
 slot:=λb u q _ _ _=>⟨u.slots,k b u q⟩
 free:=λb u q n _=>by rwa[bA (bF (bV (af q) O))]
 there:=λb u q _=>⟨u,k b u q⟩
 tups:=λb xs q=>by rwa[bA (lF q hn)]
 frzs:=λb u xs q=>by rwa[bA (lF q hn)]
 tbls:=λb q p e=>by rwa[bA (lF e hn)]
def Un.write(O:Mut (H x))(Y:e=x\/H e=some (.own x))(k:∀b u,b≠e->h.get? b=some u->h'.get? b=some u)(U:∃u,h'.get? e=some u):Un fs ex H (upd H x o) h h':=by
 have hx:∀b,H b=none->b≠x:=λb n z=>by subst z;rw[n]at O;exact O
 have hb:∀b,H b=none->b≠e:=λb n z=>by
  subst z;rcases Y with r|r
  .exact hx b n r
  .rw[n]at r;cases r
 have hm:∀b u,H b=some u->¬Mut (some u)->b≠x:=λb u q nm z=>by subst z;rw[q]at O;exact nm O
 refine⟨λb u q n _ _=>k b u (hb b n) q,λb u q n _ _=>⟨u.slots,k b u (hb b n) q⟩,λb u q n _=>by rwa[bA (hx b n)],λb u q _=>?_,
  λb xs q=>by rwa[bA (hm b _ q λz=>z)],λb u xs q=>by rwa[bA (hm b _ q λz=>z)],λb q p e=>by rwa[bA (hm b _ e λz=>z)]⟩
 by_cases Z:b=e
 .subst Z;exact U
 .exact⟨u,k b u Z q⟩
end
noncomputable def trk(h:ec)(H:Hp):List Addr:=(b_ h.objs.size).filter λa=>(H a).isSome
def Eh(h:ec)(H:Hp):ec:=PySem.W.hideAll h (trk h H)
def Lg(h:ec)(H:Hp):(Eh h H).objs.size=h.objs.size:=PySem.W.hideAll_size _ _
def Nj (e:h.get? c=some o) (n:H c=none):(Eh h H).get? c=some o:=
 PySem.W.hideAll_get _ e λhm=>by
  have q:=(dI.mp hm).2;rw[n]at q;simp at q
theorem S5 (e:(Eh h H).get? c=some o):h.get? c=some o/\H c=none:=by
 have Z:h.get? c=some o:=PySem.W.of_hideAll (trk h H) e;refine⟨Z,?_⟩
 cases q:H c with
 |none=>rfl
 |some x=>
  have hm:c∈trk h H:=dI.mpr ⟨dD.mpr (af Z),by simp[q]⟩;have z:(Eh h H).get? c=none:=PySem.W.hideAll_none (trk h H) hm;rw[z]at e;cases e
end L2
variable{xs dvs:List L2.V}{H H':L2.Hp}
variable{ch:List Addr}{o:L2.HO}{N:List Str}{A:dy}{x:Str}{v:L2.V}{s' s:dk}
namespace L2
structure Mod(K:PySem.W.Frag)(mg:Str->Option Value)(base:ec):Prop where
 kin:K.In base
 glob:base.Ns mainGlobals mg
 blt:∃mb,base.Ns builtinsNs mb/\∀x:Str,x≠"__name__"->mb x=bootBuiltins x
 nolimit:base.NoLimit
 bm:∃bm ob,mg "__builtins__"=some (.ref bm)/\bm≠builtinsNs/\base.get? bm=some ob/\ob.cls = .type "module"/\ob.dict=some builtinsNs/\ob.data = .plain
structure Cx where
 prog:dt
 w:dE
 K:PySem.W.Frag
 mg:Str->Option Value
 base:ec
 A:dy
 N:List Str
 s₀:dk
 H₀:Hp
 env:Env
 outer:List Env
 stack:List Env
 ex:List Addr
 fn:Str->Bool
 calm:Bool
 pn:List (Addr×Obj)
 xe:Value->dk->Prop
noncomputable def frs(l:List Env):List Addr:=l.filterMap (·.frame)
abbrev Cx.fs(X:Cx):List Addr:=frs X.outer
def Vis(sc:eH)(x:Str):Prop:=sc.names.lookup x=some .local\/sc.names.lookup x=some .cell\/sc.names.lookup x=some .free
def Loc(sc:eH)(x:Str):Prop:=sc.names.lookup x=some .local\/sc.names.lookup x=some .cell
def Look(env:Env)(h:ec)(m:Str->Option Value)(x:Str)(u:Value):Prop:=
 (env.kindOf x=some .local/\m x=some u)\/((env.kindOf x=some .cell\/env.kindOf x=some .free)/\∃c,env.cells.lookup x=some c/\h.IsCell c (some u))
structure Cx.Ok(X:Cx):Prop where
 mod:Mod X.K X.mg X.base
 kind:X.env.scope.kind = .function
 glob:X.env.globals=mainGlobals
 blt:X.env.builtins=builtinsNs
 above:X.s₀.heap.objs.size<=X.env.locals
 inj:∀x y c,X.env.cells.lookup x=some c->X.env.cells.lookup y=some c->x=y
 has:∀x,(X.env.kindOf x=some .cell\/X.env.kindOf x=some .free)->∃c,X.env.cells.lookup x=some c
 cab:∀x c,X.fn x=true->X.env.cells.lookup x=some c->X.s₀.heap.objs.size<=c
 hd:X.calm=true->X.A.handled=none
 frames:X.A.frames=some X.stack
 stk:X.stack=X.outer\/(X.stack=X.env::X.outer/\X.env.frame=some X.env.locals)
 exf:∀b∈X.ex,b≠X.env.locals/\∀x c,X.env.cells.lookup x=some c->c≠b
 bs:∀b o,X.base.get? b=some o->X.s₀.heap.get? b=some o/\X.H₀ b=none
 bsz:X.base.objs.size<=X.s₀.heap.objs.size
 noex:∀b o,X.base.get? b=some o->b∉X.ex
 exfs:∀b∈X.ex,b∉X.fs
 funs:X.s₀.heap.FunFrames X.base X.outer
 frf:∀b∈X.fs,X.H₀ b=none
structure Inv(X:Cx)(pins:List (Addr×Obj))(σ:List (Option V))(H:Hp)(s:dk):Prop where
 ok:X.Ok
 os:s.os=X.s₀.os
 bare:eW s.gens
 base:Un X.fs X.ex X.H₀ H X.s₀.heap s.heap
 loc:∃m,s.heap.Ns X.env.locals m/\∀(i:Nat)(x:Str)(v:V),X.N[i]? = some x->σ[i]? = some (some v)->Vis X.env.scope x->∃u,RelV v u/\Look X.env s.heap m x u
 cell:∀x c,X.env.cells.lookup x=some c->∃v,s.heap.IsCell c v
 free:H X.env.locals=none
 freeC:∀x c,X.env.cells.lookup x=some c->H c=none
 pin:∀p∈X.pn++pins,s.heap.get? p.1=some p.2/\H p.1=none/\p.1≠X.env.locals/\p.1∉X.fs/\∀v,p.2.data ≠ .cell v
 hok:HOk X.prog X.w H s.heap
 len:σ.length=X.N.length
section
variable{X:Cx}{σ:List (Option V)}
def Cx.Ok.nofr(ok:X.Ok) (e:X.base.get? c=some d):c∉X.fs:=λhb=>by
 have:=(ok.funs.mem hb).1;rw[e]at this;cases this
def Inv.bs(I:Inv X pins σ H s):∀b o,X.base.get? b=some o->s.heap.get? b=some o/\H b=none:=λb o e=>
 ⟨I.base.keep b o (I.ok.bs b o e).1 (I.ok.bs b o e).2 (I.ok.nofr e) (I.ok.noex b o e),I.base.free b o (I.ok.bs b o e).1 (I.ok.bs b o e).2 (I.ok.noex b o e)⟩
def Inv.bk(I:Inv X pins σ H s):∀b o,X.base.get? b=some o->s.heap.get? b=some o:=λb o e=>(I.bs b o e).1
def Inv.mod(I:Inv X pins σ H s):Mod X.K X.mg X.base:=I.ok.mod
def Inv.kIn(I:Inv X pins σ H s):X.K.In s.heap:=I.ok.mod.kin.keeps I.bk
def Inv.lt(I:Inv X pins σ H s):X.env.locals<s.heap.objs.size:=let⟨_,hn,_⟩:=I.loc;hn.lt
def Inv.sz(I:Inv X pins σ H s):X.s₀.heap.objs.size<=s.heap.objs.size:=bf I.ok.above (gA I.lt)
def Inv.nofs(I:Inv X pins σ H s) (h:s.heap.objs.size<=c):c∉X.fs:=λhb=>by
 obtain⟨_,o,Z,_⟩:=I.ok.funs.mem hb;exact absurd (bV (af Z) (bf I.sz h)) (d7 _)
def Inv.cne(I:Inv X pins σ H s):∀x c,X.env.cells.lookup x=some c->c≠X.env.locals:=λx c e z=>by
 obtain⟨v,o,W,hd⟩:=I.cell x c e;obtain⟨m,⟨o',es,V,Z,Y,_⟩,_⟩:=I.loc;rw[z,Z]at W;cases W;rw[Y]at hd;cases hd
def Inv.funs(I:Inv X pins σ H s):s.heap.FunFrames X.base X.outer:=by
 have all:∀(l:List Env),(∀b∈frs l,b∈X.fs)->X.s₀.heap.FunFrames X.base l->s.heap.FunFrames X.base l:=by
  intro l
  induction l with
  |nil=>intro _ _;trivial
  |cons env r V=>
   intro W S;obtain⟨R,⟨L,o,Z,hn,T,hd⟩,U⟩:=S;have Y:=W L (by unfold frs;rw[jH,Z];exact aJ);obtain⟨sl,e⟩:=I.base.slot L o T (I.ok.frf L Y) Y λz=>I.ok.exfs L z Y
   exact⟨R,⟨L,_,Z,hn,e,hd⟩,V (λb hb=>W b (by unfold frs;rw[jH,Z];exact aH _ hb)) U⟩
 exact all X.outer (λ_ hb=>hb) I.ok.funs
def Inv.stack(I:Inv X pins σ H s):s.heap.FunFrames X.base X.stack:=by
 rcases I.ok.stk with e|⟨e,Z⟩
 .rw[e];exact I.funs
 .rw[e];obtain⟨m,hn,_⟩:=I.loc;refine .cons (by rw[I.ok.kind];decide) Z hn ?_ I.funs;exact bP (bf I.ok.bsz I.ok.above)
def Inv.stkSub(I:Inv X pins σ H s):∀b∈frs X.stack,b∈X.env.locals::X.fs:=λb hb=>by
 rcases I.ok.stk with e|⟨e,Z⟩
 .rw[e]at hb;exact aH _ hb
 .rw[e]at hb;unfold frs at hb;rwa[jH,Z]at hb
def Inv.stkFree(I:Inv X pins σ H s):∀b∈frs X.stack,H b=none:=λb hb=>by
 rcases aL.mp (I.stkSub b hb)with e|hb
 .rw[e];exact I.free
 .obtain⟨_,o,Z,_⟩:=I.ok.funs.mem hb;exact I.base.free b o Z (I.ok.frf b hb) λz=>I.ok.exfs b z hb
def Inv.step (I:Inv X pins σ H s)
 (O:∀b∈ch,(b∈X.ex\/X.s₀.heap.objs.size<=b)/\b≠X.env.locals/\(∀x c,X.env.cells.lookup x=some c->c≠b)/\∀p∈X.pn++pins,p.1≠b)
 (keep:∀b o,b≠X.env.locals->b∉X.fs->b∉ch->s.heap.get? b=some o->H b=none->h'.get? b=some o)
 (slot:∀b o,b≠X.env.locals->b∈X.fs->b∉ch->s.heap.get? b=some o->H b=none->∃sl,h'.get? b=some {o with slots:=sl}) (free:∀b o,b∉ch->s.heap.get? b=some o->H b=none->H' b=none)
 (there:∀b o,b∉ch->s.heap.get? b=some o->∃o',h'.get? b=some o')
 (tups:∀b xs,H b=some (.tup xs)->H' b=some (.tup xs)) (frzs:∀b o u,H b=some (.frz o u)->H' b=some (.frz o u)) (tbls:∀b q p,H b=some (.tbl q p)->H' b=some (.tbl q p))
 (ns:∀m,s.heap.Ns X.env.locals m->h'.Ns X.env.locals m) (hok:HOk X.prog X.w H' h') (hg:eW g') :
 Inv X pins σ H' {s with heap:=h',gens:=g',drawn:=d',toks:=t'}:=by
 have U:∀b o,X.s₀.heap.get? b=some o->b≠X.env.locals:=λb o e=>bF (bV (af e) I.ok.above)
 have Y:∀b o,X.s₀.heap.get? b=some o->b∉X.ex->b∉ch:=λb o e hx hb=>by
  rcases(O b hb).1 with z|z
  .exact hx z
  .exact absurd (bV (af e) z) (d7 _)
 have cellK:∀x c,X.env.cells.lookup x=some c->∀v,s.heap.IsCell c v->h'.IsCell c v:=λx c e v ⟨o,V,hd⟩=>by
  have Z:=λz=>(O c z).2.2.1 x c e rfl
  by_cases Q:c∈X.fs
  .obtain⟨sl,q⟩:=slot c o (I.cne x c e) Q Z V (I.freeC x c e);exact⟨_,q,hd⟩
  .exact⟨o,keep c o (I.cne x c e) Q Z V (I.freeC x c e),hd⟩
 refine⟨I.ok,I.os,hg,⟨λb o e n hb hx=>?_,λb o e n hb hx=>?_,λb o e n hx=>?_,λb o e hx=>?_,λb xs e=>tups b xs (I.base.tups b xs e),λb o xs e=>frzs b o xs (I.base.frzs b o xs e),λb q p e=>tbls b q p (I.base.tbls b q p e)⟩,?_,λx c e=>?_,?_,λx c e=>?_,λp R=>?_,hok,I.len⟩
 .exact keep b o (U b o e) hb (Y b o e hx) (I.base.keep b o e n hb hx) (I.base.free b o e n hx)
 .obtain⟨sl,W⟩:=I.base.slot b o e n hb hx;obtain⟨T,S⟩:=slot b _ (U b o e) hb (Y b o e hx) W (I.base.free b o e n hx);exact⟨T,S⟩
 .obtain⟨o',W⟩:=I.base.there b o e hx;exact free b o' (Y b o e hx) W (I.base.free b o e n hx)
 .obtain⟨o',W⟩:=I.base.there b o e hx;exact there b o' (Y b o e hx) W
 .obtain⟨m,hn,P⟩:=I.loc;refine⟨m,ns m hn,λi x v W S N=>?_⟩;obtain⟨u,r,l⟩:=P i x v W S N;refine⟨u,r,?_⟩;rcases l with l|⟨k,c,e,z⟩
  .exact .inl l
  .exact .inr ⟨k,c,e,cellK x c e _ z⟩
 .obtain⟨v,z⟩:=I.cell x c e;exact⟨v,cellK x c e v z⟩
 .obtain⟨m,⟨o,_,_,V,_⟩,_⟩:=I.loc;exact free _ o (λz=>(O _ z).2.1 rfl) V I.free
 .obtain⟨v,o,V,hd⟩:=I.cell x c e;exact free c o (λz=>(O c z).2.2.1 x c e rfl) V (I.freeC x c e)
 .obtain⟨e,n,ne,nf,d⟩:=I.pin p R;have Z:=λz=>(O p.1 z).2.2.2 p R rfl
  exact⟨keep p.1 p.2 ne nf Z e n,free p.1 p.2 Z e n,ne,nf,d⟩
def Inv.un (I:Inv X pins σ H s) (u:Un X.fs [] H H' s.heap h') (hok:HOk X.prog X.w H' h'):Inv X pins σ H' {s with heap:=h',toks:=t'}:=by
 obtain⟨m,⟨o,es,R,V,r⟩,_⟩:=id I.loc;obtain⟨sl,T⟩:=u.any V I.free (by simp);exact I.step (g':=s.gens) (d':=s.drawn) (ch:=[]) (λ_ z=>nomatch z) (λb o _ hb _ e n=>u.keep b o e n hb (by simp)) (λb o _ hb _ e n=>u.slot b o e n hb (by simp)) (λb o _ e n=>u.free b o e n (by simp)) (λb o _ e=>u.there b o e (by simp)) u.tups u.frzs u.tbls (λS hm=>by
  obtain⟨o',Y,W,Z,U⟩:=hm;rw[V]at Z;cases Z;exact⟨_,Y,W,T,U⟩) hok I.bare
def Inv.call (I:Inv X pins σ H s) (u:Un (frs X.stack) ch H H' s.heap h') (hok:HOk X.prog X.w H' h') (O:eW g')
 (q:∀b∈ch,(b∈X.ex\/X.s₀.heap.objs.size<=b)/\b≠X.env.locals/\(∀x c,X.env.cells.lookup x=some c->c≠b)/\∀p∈X.pn++pins,p.1≠b) :
 Inv X pins σ H' {s with heap:=h',gens:=g',drawn:=d',toks:=t'}:=by
 obtain⟨m,⟨o,es,Q,T,r⟩,_⟩:=id I.loc;obtain⟨sl,W⟩:=u.any T I.free λz=>(q _ z).2.1 rfl
 exact I.step (ch:=ch) q (λb o W hb Z e n=>u.keep b o e n (λz=>(aL.mp (I.stkSub b z)).elim W hb) Z) (λb o _ _ Z e n=>u.any e n Z) (λb o Z e n=>u.free b o e n Z) (λb o Z e=>u.there b o e Z) u.tups u.frzs u.tbls (λR hm=>by
  obtain⟨o',V,U,Y,S⟩:=hm;rw[T]at Y;cases Y;exact⟨_,V,U,W,S⟩) hok O
def Inv.turned (I:Inv X pins σ H s) (k:∀b o,b≠it->s.heap.get? b=some o->h'.get? b=some o) (hn:H it=none) (O:it≠X.env.locals)
 (h1:it∈X.ex\/X.s₀.heap.objs.size<=it) (h2:∀x c,X.env.cells.lookup x=some c->c≠it) (h3:∀p∈X.pn++pins,p.1≠it):Inv X pins σ H {s with heap:=h',toks:=t'}:=by
 have Y:∀b u,H b=some u->b≠it:=λb u e z=>by rw[z,hn]at e;cases e
 refine I.step (g':=s.gens) (d':=s.drawn) (ch:=[it]) (λb hb=>?_) (λb o _ _ Z e _=>k b o (λz=>Z (by simp[z])) e) (λb o _ _ Z e _=>⟨o.slots,k b o (λz=>Z (by simp[z])) e⟩) (λ_ _ _ _ n=>n)
  (λb o Z e=>⟨o,k b o (λz=>Z (by simp[z])) e⟩) (λ_ _ e=>e) (λ_ _ _ e=>e) (λ_ _ _ e=>e) (λm hm=>?_) (λb u e=>?_) I.bare
 .have e:b=it:=by simpa using hb
  subst e;exact⟨h1,O,h2,h3⟩
 .obtain⟨o,es,V,W,r⟩:=hm;exact⟨o,es,V,k _ o (dv O) W,r⟩
 .refine(I.hok b u e).stay (λc v Z q=>k c v ?_ q) (λ_ q=>q) λ_ _ q=>q
  rcases Z with z|z
  .rw[z];exact Y b u e
  .exact Y c _ z
def Inv.tok(I:Inv X pins σ H s)(t:Nat):Inv X pins σ H {s with toks:=t}:=I.un (h':=s.heap) (t':=t) Un.refl I.hok
def Inv.kept (I:Inv X pins σ H s) (k:∀b u,s.heap.get? b=some u->h'.get? b=some u):Inv X pins σ H {s with heap:=h',toks:=t'}:=I.un (Un.kept k) (I.hok.kept k)
def Inv.laid (I:Inv X pins σ H s) (k:∀b u,s.heap.get? b=some u->h'.get? b=some u) (q:s.heap.objs.size<=a) (new:gR X.prog X.w (upd H a o) h' a o) :
 Inv X pins σ (upd H a o) {s with heap:=h',toks:=t'}:=I.un (Un.laid k q (I.hok.fresh q)) (I.hok.laid k q new)
def Inv.write {x e:Addr}(I:Inv X pins σ H s) (O:Mut (H x)) (U:e=x\/H e=some (.own x)) (k:∀b u,b≠e->s.heap.get? b=some u->h'.get? b=some u) (q:∃u,h'.get? e=some u)
 (new:gR X.prog X.w (upd H x o) h' x o):Inv X pins σ (upd H x o) {s with heap:=h',toks:=t'}:=I.un (Un.write O U k q) (I.hok.write O U k q new)
def Inv.pins_of (I:Inv X pins σ H s) (h:∀p∈pins',s.heap.get? p.1=some p.2/\H p.1=none/\p.1≠X.env.locals/\p.1∉X.fs/\∀v,p.2.data ≠ .cell v):Inv X pins' σ H s:=
 ⟨I.ok,I.os,I.bare,I.base,I.loc,I.cell,I.free,I.freeC,λp Z=>(bT.mp Z).elim (λz=>I.pin p (bH _ z)) (h p),I.hok,I.len⟩
def yD(q:N.Nodup){i j:Nat} (a:N[i]? = some c) (b:N[j]? = some c):i=j:=by
 obtain⟨h1,Y⟩:=bw.mp a;obtain⟨h2,Z⟩:=bw.mp b;exact(List.getElem_inj q).mp (Y.trans Z.symm)
def Lh (I:Inv X pins σ H s) (hN:X.N.Nodup) (hi:X.N[i]? = some x) (hx:Loc X.env.scope x) (r:RelV v q0)
 (h:∀s',Inv X pins (σ.set i (some v)) H s'->(∃a,eL a s.heap s'.heap/\(a=X.env.locals\/X.env.cells.lookup x=some a))->Q () s') (hf:X.fn x=true\/X.env.scope.names.lookup x=some .local:=by first|exact .inl rfl|exact .inr rfl|assumption):wpAny M A (storeName X.env x q0) Q E s:=by
 obtain⟨m,hn,hl⟩:=id I.loc;have L:(X.env.scope.kind == .class||(X.env.scope.kind == .module&&X.env.locals != X.env.globals))=false:=by rw[I.ok.kind];rfl
 have S:i<σ.length:=by rw[I.len];exact(bw.mp hi).1
 have cne:=I.cne;have tracked:∀{a:Addr}{h':ec},(∃o,s.heap.get? a=some o/\H a=none)->eL a s.heap h'->HOk X.prog X.w H h':=λ{a h'} ha Z b ob e=>by
  obtain⟨_,_,V⟩:=ha;refine(I.hok b ob e).stay (λc G W q=>(Z.2 c ?_).trans q) (λ_ q=>q) λ_ _ q=>q
  rintro rfl;rcases W with rfl|W
  .rw[V]at e;cases e
  .rw[V]at W;cases W
 rcases hx with T|T
 .refine wpAny_storeName_local T hn (λh' l Z=>?_) L;obtain⟨oL,_,_,t,_⟩:=id hn;refine h _ ⟨I.ok,I.os,I.bare,⟨λb o e n hb hx=>?_,λb o e n hb hx=>?_,I.base.free,λb o e hx=>?_,I.base.tups,I.base.frzs,I.base.tbls⟩,⟨_,l,λj y F Y U g=>?_⟩,λy c e=>?_,I.free,I.freeC,λp B=>?_,tracked ⟨oL,t,I.free⟩ Z,by simpa using I.len⟩ ⟨_,Z,.inl rfl⟩
  .exact(Z.2 b (bF (bV (af e) I.ok.above))).trans (I.base.keep b o e n hb hx)
  .obtain⟨sl,Y⟩:=I.base.slot b o e n hb hx;exact⟨sl,(Z.2 b (bF (bV (af e) I.ok.above))).trans Y⟩
  .obtain⟨o',Y⟩:=I.base.there b o e hx;exact⟨o',(Z.2 b (bF (bV (af e) I.ok.above))).trans Y⟩
  .by_cases R:j=i
   .subst R;rw[hi]at Y;cases Y;rw[bI S]at U
    cases U;exact⟨q0,r,.inl ⟨T,by simp⟩⟩
   .rw[aM (dv R)]at U;obtain⟨D,C,q⟩:=hl j y F Y U g;refine⟨D,C,?_⟩;rcases q with⟨k,e⟩|⟨k,c,e,z⟩
    .refine .inl ⟨k,?_⟩;have:y≠x:=λe=>R (yD hN Y (e▸hi))
     simp[this,e]
    .exact .inr ⟨k,c,e,z.sameBut Z (cne y c e)⟩
  .obtain⟨G,z⟩:=I.cell y c e;exact⟨G,z.sameBut Z (cne y c e)⟩
  .obtain⟨e,n,ne,nf,d⟩:=I.pin p B;exact⟨(Z.2 p.1 ne).trans e,n,ne,nf,d⟩
 .have P:X.fn x=true:=by
   rcases hf with z|z
   .exact z
   .rw[z]at T;cases T
  obtain⟨c,W⟩:=I.ok.has x (.inl T);obtain⟨G,z⟩:=I.cell x c W;refine wpAny_storeName_cell I.ok.kind T W z (λh' J Z=>?_);obtain⟨oc,O,f⟩:=id z;refine h {s with heap:=h'} ⟨I.ok,I.os,I.bare,⟨λb o e n hb hx=>?_,λb o e n hb hx=>?_,I.base.free,λb o e hx=>?_,I.base.tups,I.base.frzs,I.base.tbls⟩,⟨m,hn.sameBut Z (dv (cne x c W)),λj y F Y U g=>?_⟩,λy c' e=>?_,I.free,I.freeC,λp B=>?_,tracked ⟨oc,O,I.freeC x c W⟩ Z,by simpa using I.len⟩ ⟨c,Z,.inr W⟩
  .exact(Z.2 b (bF (bV (af e) (I.ok.cab x c P W)))).trans (I.base.keep b o e n hb hx)
  .obtain⟨sl,Y⟩:=I.base.slot b o e n hb hx;exact⟨sl,(Z.2 b (bF (bV (af e) (I.ok.cab x c P W)))).trans Y⟩
  .obtain⟨o',Y⟩:=I.base.there b o e hx;exact⟨o',(Z.2 b (bF (bV (af e) (I.ok.cab x c P W)))).trans Y⟩
  .by_cases R:j=i
   .subst R;rw[hi]at Y;cases Y;rw[bI S]at U
    cases U;exact⟨q0,r,.inr ⟨.inl T,c,W,J⟩⟩
   .rw[aM (dv R)]at U;obtain⟨D,C,q⟩:=hl j y F Y U g;refine⟨D,C,?_⟩;rcases q with q|⟨k,c',e,z'⟩
    .exact .inl q
    .refine .inr ⟨k,c',e,z'.sameBut Z ?_⟩;rintro rfl;exact R (yD hN Y (I.ok.inj _ _ _ e W▸hi))
  .by_cases K:c'=c
   .subst K;exact⟨_,J⟩
   .obtain⟨w2,z2⟩:=I.cell y c' e;exact⟨w2,z2.sameBut Z K⟩
  .obtain⟨e,n,ne,nf,d⟩:=I.pin p B;refine⟨(Z.2 p.1 ?_).trans e,n,ne,nf,d⟩;intro q;rw[q,O]at e;have q':oc=p.2:=cU.inj e;exact d G (by rwa[<-q'])
def yE (I:Inv X pins σ H s) (O:X.N.Nodup) (hi:X.N[i]? = some x) (hx:Loc X.env.scope x) (r:RelV v c)
 (h:∀s',Inv X pins (σ.set i (some v)) H s'->Q () s') (q:X.fn x=true\/X.env.scope.names.lookup x=some .local:=by first|exact .inl rfl|exact .inr rfl|assumption):wpAny M A (storeName X.env x c) Q E s:=
 Lh I O hi hx r (λs' Z _=>h s' Z) q
def Inv.call'(I:Inv X pins σ H s)(O:s'.os=s.os)(u:Un (frs X.stack) ch H H' s.heap s'.heap)(hok:HOk X.prog X.w H' s'.heap)(U:eW s'.gens)
 (q:∀b∈ch,(b∈X.ex\/X.s₀.heap.objs.size<=b)/\b≠X.env.locals/\(∀x c,X.env.cells.lookup x=some c->c≠b)/\∀p∈X.pn++pins,p.1≠b):Inv X pins σ H' s':=by
 obtain⟨h',g',Y,Z,o'⟩:=s';have e:=O;subst e;exact I.call (g':=g') (t':=Z) (d':=Y) u hok U q
end
abbrev XK:=Value->Option Addr->Hp->Prop
abbrev St:=List (Option V)
abbrev VK:=V->Hp->Prop
abbrev TE:=St->Hp->VK->Prop
abbrev TT:=St->Hp->(Bool->Hp->Prop)->Prop
abbrev TA:=St->Hp->(List V->Hp->Prop)->Prop
structure Ends where
 nx:St->Hp->Prop
 rt:VK
 bk:St->Hp->Prop:=λ_ _=>False
 ct:St->Hp->Prop:=λ_ _=>False
abbrev TS:=Ends->St->Hp->Prop
def EP(X:Cx)(pins:List (Addr×Obj))(σ:St)(Q:VK)(u:Value)(s':dk):Prop:=∃v H',Inv X pins σ H' s'/\RelV v u/\Q v H'
def TP(X:Cx)(pins:List (Addr×Obj))(σ:St)(Q:Bool->Hp->Prop)(b:Bool)(s':dk):Prop:=∃H',Inv X pins σ H' s'/\Q b H'
def AP(X:Cx)(pins:List (Addr×Obj))(σ:St)(Q:List V->Hp->Prop)(us:List Value)(s':dk):Prop:=∃vs H',Inv X pins σ H' s'/\Vals vs us/\Q vs H'
def SP(X:Cx)(pins:List (Addr×Obj))(D:Ends)(f:Flow)(s':dk):Prop:=
 match f with
 | .next=>∃σ' H',Inv X pins σ' H' s'/\D.nx σ' H'
 | .brk=>∃σ' H',Inv X pins σ' H' s'/\D.bk σ' H'
 | .cont=>∃σ' H',Inv X pins σ' H' s'/\D.ct σ' H'
 | .ret u=>∃v σ' H',Inv X pins σ' H' s'/\RelV v u/\D.rt v H'
def PE(X:Cx)(e:Expr)(t:TE):Prop:=
 ∀(pins:List (Addr×Obj))(s:dk)(σ:St)(H:Hp)(Q:VK),Inv X pins σ H s->t σ H Q->wpAny (model X.prog X.w) X.A (eval e X.env) (EP X pins σ Q) X.xe s
def PT(X:Cx)(e:Expr)(t:TT):Prop:=
 ∀(pins:List (Addr×Obj))(s:dk)(σ:St)(H:Hp)(Q:Bool->Hp->Prop),Inv X pins σ H s->t σ H Q->wpAny (model X.prog X.w) X.A (isTrue e X.env (eval e X.env)) (TP X pins σ Q) X.xe s
def PW(X:Cx)(e:Expr)(t:TT):Prop:=
 ∀(whole:Sem Value)(pins:List (Addr×Obj))(s:dk)(σ:St)(H:Hp)(Q:Bool->Hp->Prop),Inv X pins σ H s->t σ H Q->wpAny (model X.prog X.w) X.A (isTrue e X.env whole) (TP X pins σ Q) X.xe s
def PW.pt (h:PW X e t):PT X e t:=h _
def PA(X:Cx)(es:List Expr)(t:TA):Prop:=
 ∀(pos:Pos)(pins:List (Addr×Obj))(s:dk)(σ:St)(H:Hp)(Q:List V->Hp->Prop),Inv X pins σ H s->t σ H Q->wpAny (model X.prog X.w) X.A (spliced (backTo pos (starEach es X.env))) (AP X pins σ Q) X.xe s
def PS(X:Cx)(st:Stmt)(t:TS):Prop:=
 ∀(pins:List (Addr×Obj))(s:dk)(σ:St)(H:Hp)(D:Ends),Inv X pins σ H s->t D σ H->wpAny (model X.prog X.w) X.A (exec st X.env) (SP X pins D) X.xe s
def PSs(X:Cx)(st:List Stmt)(t:TS):Prop:=
 ∀(pins:List (Addr×Obj))(s:dk)(σ:St)(H:Hp)(D:Ends),Inv X pins σ H s->t D σ H->wpAny (model X.prog X.w) X.A (execs st X.env) (SP X pins D) X.xe s
def thn (h:wpAny M A t Q E s) (O:∀a s,Q a s->q a s):wpAny M A t q E s:=ar h O λ_ _ x=>x
end L2
variable{X:L2.Cx}
variable{H:L2.Hp}{Q:Value->dk->Prop}
namespace L2
section
def an3(i:Nat):TE:=λσ H Q=>∃v,σ[i]? = some (some v)/\Q v H
def tC(v:V):TE:=λ_ H Q=>Q v H
def iT (hN:X.N[i]? = some x) (O:Vis X.env.scope x) (hd:(x==("__debug__":Str))=false:=by decide) (q:(x==("__classdict__":Str))=false:=by decide):PE X (.Name x pos) (an3 i):=by
 intro pins s σ H Q I h;obtain⟨v,e,h⟩:=h;obtain⟨m,hn,U⟩:=I.loc;obtain⟨u,r,l⟩:=U i x v hN e O;have W:EP X pins σ Q u s:=⟨v,H,I,r,h⟩;rcases l with⟨Y,hm⟩|⟨Y,c,V,Z⟩
 .exact cv (cc I.ok.kind Y hn hm W) hd
 .rcases Y with Y|Y
  .exact cv (wpAny_loadName_cell I.ok.kind Y V Z W) hd
  .exact cv (wpAny_loadName_free I.ok.kind Y V Z W q) hd
def Xo{i j pos}:PE X (.Constant (.int i) j pos) (tC (.int i)):=λ_ _ _ H _ I h=>wpAny_Constant_int ⟨.int i,H,I.tok _,⟨_,rfl⟩,h⟩
def aa8{b j pos}:PE X (.Constant (.bool b) j pos) (tC (.bl b)):=λ_ _ _ H _ I h=>Constant_bool ⟨.bl b,H,I,rfl,h⟩
def Xp{j pos}:PE X (.Constant .none j pos) (tC .non):=λ_ _ _ H _ I h=>Constant_none ⟨.non,H,I,rfl,h⟩
def Xq{x j pos}:PE X (.Constant (.str x) j pos) (tC (.str x)):=λ_ _ _ H _ I h=>Calls.Constant_str ⟨.str x,H,I.tok _,⟨_,rfl⟩,h⟩
def Gl(X:Cx)(x:Str):Prop:=X.env.kindOf x=some .globalImplicit
def uP (I:Inv X pins σ H s) (q:Gl X x) (hm:X.mg x=some c) (h:Q c s)
 (hd:(x==("__debug__":Str))=false:=by decide):wpAny (model X.prog X.w) X.A (eval (.Name x pos) X.env) Q E s:=
 cq I.ok.kind q (Calls.loadGlobal_global (by rw[I.ok.glob];exact I.mod.glob.keeps I.bk) hm h) hd
def ou (I:Inv X pins σ H s) (O:Gl X x) (hm:X.mg x=none) (q:bootBuiltins x=some c) (h:Q c s)
 (hn:x≠"__name__" := by decide) (hd:(x==("__debug__":Str))=false:=by decide):wpAny (model X.prog X.w) X.A (eval (.Name x pos) X.env) Q E s:=by
 obtain⟨Z,h1,h2⟩:=I.mod.blt;exact cq I.ok.kind O (Calls.loadGlobal_builtin (by rw[I.ok.glob];exact I.mod.glob.keeps I.bk) hm (by rw[I.ok.blt];exact h1.keeps I.bk) ((h2 x hn).trans q) h) hd
def Jx (q:Gl X x) (hm:X.mg x=some c) (r:RelV v c) (hd:(x==("__debug__":Str))=false:=by decide):PE X (.Name x pos) (tC v):=
 λ_ _ _ H _ I h=>uP I q hm ⟨v,H,I,r,h⟩ hd
def Jy (O:Gl X x) (hm:X.mg x=none) (q:bootBuiltins x=some c) (r:RelV v c) (hn:x≠"__name__" := by decide) (hd:(x==("__debug__":Str))=false:=by decide):PE X (.Name x pos) (tC v):=
 λ_ _ _ H _ I h=>ou I O hm q ⟨v,H,I,r,h⟩ hn hd
variable{a:Expr}{ta tb:TE}
def PC(X:Cx)(op:CmpOp)(a b:Expr)(t:TE):Prop:=
 ∀(pins:List (Addr×Obj))(s:dk)(σ:St)(H:Hp)(Q:VK),Inv X pins σ H s->t σ H Q ->
  wpAny (model X.prog X.w) X.A (eval a X.env) (λv Y=>wpAny (model X.prog X.w) X.A (eval b X.env) (λu Z=>wpAny (model X.prog X.w) X.A (compareOp op v u) (EP X pins σ Q) X.xe Z) X.xe Y) X.xe s
def Nk(b:Expr) (h:op ≠ .In) (h2:op ≠ .NotIn):behindInMarks op b=false:=by
 have Y:(op==CmpOp.In)=false:=by cases op<;>first|rfl|exact absurd rfl h
 have Z:(op==CmpOp.NotIn)=false:=by cases op<;>first|rfl|exact absurd rfl h2
 cases b<;>simp[behindInMarks,Y,Z]
def an4(ta:TE):TE:=λσ H Q=>ta σ H λx H1=>Q (.bl (decide (x = .non))) H1
theorem RelV.none_iff (r:RelV c d):(d==dL)=decide (c = .non):=by
 cases c with
 |non=>cases r;rfl
 |bl _=>cases r;rfl
 |int _=>obtain⟨t,rfl⟩:=r;rfl
 |str _=>obtain⟨t,rfl⟩:=r;rfl
 |byt _=>obtain⟨t,rfl⟩:=r;rfl
 |flt _=>obtain⟨t,rfl⟩:=r;rfl
 |ref _=>cases r;rfl
 |ty _=>cases r;rfl
def Xr{j pos'}(ha:PE X a ta):PC X .Is a (.Constant .none j pos') (an4 ta):=by
 intro pins s σ H Q I h;refine thn (ha pins s σ H _ I h) λv s1 ⟨x,H1,Z,r1,q1⟩=>?_
 exact Constant_none (is_none_gen ⟨.bl _,H1,Z,by rw[r1.none_iff];rfl,q1⟩)
def tB(t:TE):TT:=λσ H Q=>t σ H λx H1=>∃c,x = .bl c/\Q c H1
def Hj (h:PC X op a b t) (h1:behindInMarks op b=false:=by first|exact Nk _ (by decide) (by decide)|rfl):PT X (.Compare a [op] [b] pos) (tB t):=by
 intro pins s σ H Q I hw;refine wpAny_isTrue_Compare1 (thn (h pins s σ H _ I hw) λv s1 h1=>thn h1 λu s2 h2=>thn h2 λc Y ⟨x,H1,Z,r1,q1⟩=>?_) h1;obtain⟨d,rfl,q⟩:=q1
 cases r1;exact ay ⟨H1,Z,q⟩
def Hl (h:PE X e t) (O:∀whole,isTrue e X.env whole=(do let v <-whole;standAt e.pos;holding [v] (truthy v)):=by intro _;rfl):PT X e (tB t):=by
 intro pins s σ H Q I hw;refine isTrue_plain (thn (h pins s σ H _ I hw) λv s1 ⟨x,H1,Z,r1,q1⟩=>?_) (O _);obtain⟨d,rfl,q⟩:=q1
 cases r1;exact ay ⟨H1,Z,q⟩
variable{tA tB':TT}
def vX(t u:TT):TT:=λσ H Q=>t σ H λc H1=>if c=true then u σ H1 Q else Q false H1
def tOr(t u:TT):TT:=λσ H Q=>t σ H λc H1=>if c=true then Q true H1 else u σ H1 Q
def mD(t:TT):TT:=λσ H Q=>t σ H λc H1=>Q (!c) H1
theorem S6(ha:PT X a tA):PW X (.BoolOp .And [a] pos) tA:=by
 intro Z pins s σ H Q I h;refine isTrue_and (thn (ha pins s σ H Q I h) λc s1 e=>?_)
 cases c with
 |true=>exact isTrue_and_nil e
 |false=>exact e
theorem Hq(ha:PT X a tA):PW X (.BoolOp .Or [a] pos) tA:=by
 intro Z pins s σ H Q I h;refine isTrue_or (thn (ha pins s σ H Q I h) λc s1 e=>?_)
 cases c with
 |false=>exact isTrue_or_nil e
 |true=>exact e
theorem Xu(ha:PT X a tA)(hb:PW X (.BoolOp .And (b::rest) pos) tB'):PW X (.BoolOp .And (a::b::rest) pos) (vX tA tB'):=by
 intro Y pins s σ H Q I h;refine isTrue_and (thn (ha pins s σ H _ I h) λc s1 ⟨H1,Z,q1⟩=>?_)
 cases c with
 |true=>exact hb Y pins s1 σ H1 Q Z q1
 |false=>exact⟨H1,Z,q1⟩
theorem Nm(ha:PT X a tA)(hb:PW X (.BoolOp .Or (b::rest) pos) tB'):PW X (.BoolOp .Or (a::b::rest) pos) (tOr tA tB'):=by
 intro Y pins s σ H Q I h;refine isTrue_or (thn (ha pins s σ H _ I h) λc s1 ⟨H1,Z,q1⟩=>?_)
 cases c with
 |true=>exact⟨H1,Z,q1⟩
 |false=>exact hb Y pins s1 σ H1 Q Z q1
def Hr(ha:PT X a tA):PT X (.UnaryOp .Not a pos) (mD tA):=by
 intro pins s σ H Q I h;exact isTrue_not (ha pins s σ H (λc H1=>Q (!c) H1) I h)
def aa9(ta tb:TE):TE:=λσ H Q=>ta σ H λx H1=>∃c,x = .bl c/\if c=true then tb σ H1 Q else Q (.bl false) H1
def ab0(ta:TE):TE:=λσ H Q=>ta σ H λx H1=>∃c,x = .bl c/\Q (.bl (!c)) H1
def Xv{op} (h:PE X a t):PE X (.BoolOp op [a] pos) t:=λpins s σ H Q I hw=>BoolOp_one (h pins s σ H Q I hw)
theorem Xw(ha:PE X a ta)(hb:PE X (.BoolOp .And (b::rest) pos) tb):PE X (.BoolOp .And (a::b::rest) pos) (aa9 ta tb):=by
 intro pins s σ H Q I h;refine BoolOp_and (thn (ha pins s σ H _ I h) λv s1 ⟨x,H1,Z,r1,q1⟩=>?_);obtain⟨c,rfl,q1⟩:=q1
 cases r1;refine ay ?_
 cases c with
 |true=>exact hb pins s1 σ H1 Q Z q1
 |false=>exact⟨.bl false,H1,Z,rfl,q1⟩
def Xx(ha:PE X a ta):PE X (.UnaryOp .Not a pos) (ab0 ta):=by
 intro pins s σ H Q I h;refine UnaryOp_ (thn (ha pins s σ H _ I h) λv s1 ⟨x,H1,Z,r1,q1⟩=>?_);obtain⟨c,rfl,q1⟩:=q1
 cases r1;exact not_of (ay ⟨.bl (!c),H1,Z,rfl,q1⟩)
end
end L2
variable{K:PySem.W.Frag}{X:L2.Cx}{n:Nat}{H':L2.Hp}
namespace L2
def SqL(K:PySem.W.Frag)(H:Hp)(a:Addr)(xs:List V):Prop:=
 Rd H a (.lst xs) \/
  ∃(o:Obj)(its:Array Value)(n:Nat),K.lookup a=some o/\o.cls = .type "list"/\o.dict=none/\o.data = .seq its n/\its.size<=sizeLine/\Vals xs its.toList
def SqT(K:PySem.W.Frag)(H:Hp)(a:Addr)(xs:List V):Prop:=
 Rd H a (.tup xs) \/
  ∃(o:Obj)(its:Array Value)(n:Nat),K.lookup a=some o/\o.cls = .type "tuple"/\o.data = .seq its n/\its.size<=sizeLine/\Vals xs its.toList
noncomputable def an5:Value->Option V
 | .none=>some .non
 | .bool b=>some (.bl b)
 | .int i _=>some (.int i)
 | .str x _=>some (.str x)
 | .bytes b _=>some (.byt b)
 | .float b _=>some (.flt b)
 | .ref a=>some (.ref a)
 | .type n=>some (.ty n)
 |_=>none
theorem RelV.abs (r:RelV c d):an5 d=some c:=by
 cases c with
 |non=>cases r;rfl
 |bl _=>cases r;rfl
 |int _=>obtain⟨t,rfl⟩:=r;rfl
 |str _=>obtain⟨t,rfl⟩:=r;rfl
 |byt _=>obtain⟨t,rfl⟩:=r;rfl
 |flt _=>obtain⟨t,rfl⟩:=r;rfl
 |ref _=>cases r;rfl
 |ty _=>cases r;rfl
def RelV.inj (r:RelV c f) (q:RelV d f):c=d:=cU.inj (r.abs.symm.trans q.abs)
theorem Vals.inj:∀{xs ys:List V}{us:List Value},Vals xs us->Vals ys us->xs=ys
 |_,_,_,.nil,.nil=>rfl
 |_,_,_,.cons r t,.cons Y Z=>by rw[r.inj Y,Vals.inj t Z]
section
variable{X:Cx}{σ:St}{H:Hp}{ys:List V}
def SqL.of(h:H a=some (.lst xs)):SqL K H a xs:=.inl (.inl h)
def Inv.list(I:Inv X pins σ H s)(h:SqL X.K H a xs):∃its:List Value,Vals xs its/\PlainL s.heap a its.toArray/\xs.length<=sizeLine:=by
 rcases h with h|⟨o,its,n,Y,W,hd,Z,V,r⟩
 .obtain⟨z,its,n,r,e⟩:=h.ok I.hok;exact⟨its,r,⟨_,n,e,rfl,rfl,rfl⟩,z⟩
 .refine⟨its.toList,r,⟨o,n,I.kIn a o Y,W,hd,by simpa using Z⟩,?_⟩;have e:=r.length;simp only[cN]at e;lia
def Inv.tuple(I:Inv X pins σ H s)(h:SqT X.K H a xs):∃its:List Value,Vals xs its/\IsTup s.heap a its.toArray/\xs.length<=sizeLine:=by
 rcases h with h|⟨o,its,n,Y,W,Z,V,r⟩
 .obtain⟨z,its,r,p⟩:=h.ok I.hok;exact⟨its,r,p,z⟩
 .refine⟨its.toList,r,⟨o,I.kIn a o Y,W,n,by simpa using Z⟩,?_⟩;have e:=r.length;simp only[cN]at e;lia
def Inv.list_inj(I:Inv X pins σ H s)(h:SqL X.K H a xs)(h':SqL X.K H a ys):xs=ys:=by
 obtain⟨its,r,⟨o,n,e,_,_,d⟩,_⟩:=I.list h;obtain⟨Z,V,⟨o',T,Y,_,_,W⟩,_⟩:=I.list h';rw[e]at Y;cases Y;rw[d]at W;injection W with U _
 have:its=Z:=by simpa using congrArg Array.toList U
 subst this;exact r.inj V
end
abbrev Cx.wish(X:Cx)(E:Value->dk->Prop):Cx:={X with xe:=E}
abbrev Cx.nox(X:Cx):Cx:=X.wish λ_ _=>False
def Cx.Ok.wish(ok:X.Ok)(E:Value->dk->Prop):(X.wish E).Ok:=
 ⟨ok.mod,ok.kind,ok.glob,ok.blt,ok.above,ok.inj,ok.has,ok.cab,ok.hd,ok.frames,ok.stk,ok.exf,ok.bs,ok.bsz,ok.noex,ok.exfs,ok.funs,ok.frf⟩
def Cx.Ok.unwish(ok:(X.wish E).Ok):X.Ok:=
 ⟨ok.mod,ok.kind,ok.glob,ok.blt,ok.above,ok.inj,ok.has,ok.cab,ok.hd,ok.frames,ok.stk,ok.exf,ok.bs,ok.bsz,ok.noex,ok.exfs,ok.funs,ok.frf⟩
section
variable{X:Cx}{σ:St}{H:Hp}
def Inv.wish(I:Inv X pins σ H s)(E:Value->dk->Prop):Inv (X.wish E) pins σ H s:=⟨I.ok.wish E,I.os,I.bare,I.base,I.loc,I.cell,I.free,I.freeC,I.pin,I.hok,I.len⟩
def Inv.unwish(I:Inv (X.wish E) pins σ H s):Inv X pins σ H s:=⟨I.ok.unwish,I.os,I.bare,I.base,I.loc,I.cell,I.free,I.freeC,I.pin,I.hok,I.len⟩
theorem SP.unwish (h:SP (X.wish E) pins c f s'):SP X pins c f s':=by
 cases f with
 |next=>obtain⟨σ',H',I,q⟩:=h;exact⟨σ',H',I.unwish,q⟩
 |brk=>obtain⟨σ',H',I,q⟩:=h;exact⟨σ',H',I.unwish,q⟩
 |cont=>obtain⟨σ',H',I,q⟩:=h;exact⟨σ',H',I.unwish,q⟩
 |ret u=>obtain⟨v,σ',H',I,r,q⟩:=h;exact⟨v,σ',H',I.unwish,r,q⟩
def PE.nox{t:TE}(h:PE X.nox e t):PE X e t:=λpins s σ H Q I hw=>
 ar (h pins s σ H Q (I.wish _) hw) (λ_ _ ⟨v,H',Z,r,q⟩=>⟨v,H',Z.unwish,r,q⟩) λ_ _ z=>er z
def PT.nox{t:TT}(h:PT X.nox e t):PT X e t:=λpins s σ H Q I hw=>
 ar (h pins s σ H Q (I.wish _) hw) (λ_ _ ⟨H',Z,q⟩=>⟨H',Z.unwish,q⟩) λ_ _ z=>er z
def PSs.nox{st:List Stmt} (h:PSs X.nox st t):PSs X st t:=λpins s σ H D I hw=>
 ar (h pins s σ H D (I.wish _) hw) (λ_ _ q=>q.unwish) λ_ _ z=>er z
end
section
variable{X:Cx}{st:Stmt}{rest:List Stmt}{t u:TS}{te:TE}
def ab1:TS:=λD σ H=>D.nx σ H
def an6(t u:TS):TS:=λD σ H=>t {D with nx:=u D} σ H
def uQ:PSs X [] ab1:=λ_ _ σ H _ I h=>aT ⟨σ,H,I,h⟩
theorem lY(h1:PS X st t)(h2:PSs X rest u):PSs X (st::rest) (an6 t u):=by
 intro pins s σ H D I h;refine br (thn (h1 pins s σ H {D with nx:=u D} I h) λf s1 q=>?_)
 cases f with
 |next=>
  obtain⟨σ',H',Z,q⟩:=q;exact h2 pins s1 σ' H' D Z q
 |ret v=>exact q
 |brk=>exact q
 |cont=>exact q
theorem sy(h1:PS X st t):PSs X [st] t:=by
 intro pins s σ H D I h;refine br (thn (h1 pins s σ H D I h) λf s1 q=>?_)
 cases f with
 |next=>exact aT q
 |ret v=>exact q
 |brk=>exact q
 |cont=>exact q
def Inv.quiet (I:Inv X pins σ H s):interactive X.env=false:=by simp[interactive,I.ok.kind]
def ab2(te:TE):TS:=λD σ H=>te σ H λ_ H1=>D.nx σ H1
def uR(O:PE X e te)(q:swapsWith e none pos.line X.env=pure false:=by rfl):PS X (.Expr e pos) (ab2 te):=by
 intro pins s σ H D I h;exact wpAny_Expr_any (thn (O pins s σ H _ I h) λv s1 ⟨x,H1,Z,r1,q1⟩=>⟨σ,H1,Z,q1⟩) I.quiet q
def an7(te:TE):TS:=λD σ H=>te σ H D.rt
def rm(q:PE X e te):PS X (.Return (some e) pos) (an7 te):=by
 intro pins s σ H D I h;exact wpAny_Return_some (thn (q pins s σ H _ I h) λv s1 ⟨x,H1,Z,r1,q1⟩=>⟨x,σ,H1,Z,r1,q1⟩)
def an8(c:TT)(t u:TS):TS:=λD σ H=>c σ H λb H1=>if b=true then t D σ H1 else u D σ H1
theorem Am (q:PT X c tc) (ha:PSs X f t) (hb:PSs X i u):PS X (.If c f i pos) (an8 tc t u):=by
 intro pins s σ H D I h;refine wpAny_If (thn (q pins s σ H _ I h) λd s1 ⟨H1,Z,q1⟩=>?_)
 cases d with
 |true=>exact ha pins s1 σ H1 D Z q1
 |false=>exact hb pins s1 σ H1 D Z q1
def Xy:TS:=λ_ _ _=>False
def Np:PS X st Xy:=λ_ _ _ _ _ _ h=>h.elim
end
abbrev TG:=V->St->Hp->(St->Hp->Prop)->Prop
abbrev TGs:=List V->St->Hp->(St->Hp->Prop)->Prop
def PG(X:Cx)(target:Expr)(t:TG):Prop:=
 ∀(pins:List (Addr×Obj))(s:dk)(σ:St)(H:Hp)(v:V)(u:Value)(Q:St->Hp->Prop),Inv X pins σ H s->RelV v u->t v σ H Q ->
  wpAny (model X.prog X.w) X.A (assign target X.env u) (λ_ s'=>∃σ' H',Inv X pins σ' H' s'/\Q σ' H') X.xe s
def PGs(X:Cx)(ts:List Expr)(t:TGs):Prop:=
 ∀(pins:List (Addr×Obj))(s:dk)(σ:St)(H:Hp)(vs:List V)(us:List Value)(Q:St->Hp->Prop),Inv X pins σ H s->Vals vs us->t vs σ H Q ->
  wpAny (model X.prog X.w) X.A (assignInOrder ((assignEach ts X.env).map (·.2)) us) (λ_ s'=>∃σ' H',Inv X pins σ' H' s'/\Q σ' H') X.xe s
section
variable{X:Cx}
def Wu(i:Nat):TG:=λv σ H Q=>Q (σ.set i (some v)) H
def S7 (O:X.N.Nodup) (hi:X.N[i]? = some x) (hx:Loc X.env.scope x) (q:X.fn x=true\/X.env.scope.names.lookup x=some .local:=by first|exact .inl rfl|exact .inr rfl|assumption):PG X (.Name x pos) (Wu i):=by
 intro pins s σ H v u Q I r h;exact wpAny_assign_Name (yE I O hi hx r (λs' Z=>⟨_,H,Z,h⟩) q)
def an9:TGs:=λvs σ H Q=>vs=[]/\Q σ H
def ab3(t:TG)(u:TGs):TGs:=λvs σ H Q=>∃v r,vs=v::r/\t v σ H λσ' H'=>u r σ' H' Q
def S8:PGs X [] an9:=by
 intro pins s σ H vs us Q I r h;obtain⟨e,h⟩:=h;subst e
 cases r;exact assignInOrder_nil ⟨σ,H,I,h⟩
theorem Nq (h1:PG X e t) (h2:PGs X c d)
 (q:(assignEach (e::c) X.env).map (·.2)=assign e X.env::(assignEach c X.env).map (·.2):=by rfl):PGs X (e::c) (ab3 t d):=by
 intro pins s σ H vs us Q I r h;obtain⟨v,U,W,h⟩:=h;subst W
 cases r with
 |cons r Y=>
  rw[q];refine assignInOrder_cons (thn (h1 pins s σ H _ _ _ I r h) λ_ s1 ⟨Z,H1,V,q1⟩=>?_);exact h2 pins s1 Z H1 _ _ Q V Y q1
def ao0(K:PySem.W.Frag)(n:Nat)(t:TGs):TG:=λv σ H Q=>∃a xs,v = .ref a/\SqT K H a xs/\xs.length=n/\t xs σ H Q
def Xz (O:X.calm=true) (h:PGs X c t)
 (hn:(assignEach c X.env).length=n:=by rfl) (q:(assignEach c X.env).findIdx? (·.1)=none:=by rfl):PG X (.Tuple c k pos) (ao0 X.K n t):=by
 intro pins s σ H v u Q I r hw;obtain⟨a,xs,U,W,V,hw⟩:=hw;subst U
 cases r;obtain⟨its,Z,Y,S⟩:=I.tuple W;refine assign_Tuple_tuple (I.ok.hd O) Y (by simp[hn,<-V,Z.length]) q λh' hx=>?_
 have T:=I.kept (t':=s.toks) λb o e=>hx b o (bF (af e)) e
 exact h pins _ σ H xs _ Q T (by simpa using Z) hw
def ao1(te:TE)(g:TG):TS:=λD σ H=>te σ H λx H1=>g x σ H1 D.nx
def vY (Y:X.N.Nodup) (hi:X.N[i]? = some x) (hx:Loc X.env.scope x) (U:PE X e te) (q:swapsWith e (some (.Name x c)) pos.line X.env=pure false:=by rfl) (O:X.fn x=true\/X.env.scope.names.lookup x=some .local:=by first|exact .inl rfl|exact .inr rfl|assumption) :
 PS X (.Assign [.Name x c] e pos) (ao1 te (Wu i)):=by
 intro pins s σ H D I h;refine wpAny_Assign_Name (thn (U pins s σ H _ I h) λv s1 ⟨y,H1,W,r1,q1⟩=>?_) q;exact yE W Y hi hx r1 (λs2 Z=>⟨_,H1,Z,q1⟩) O
end
section
variable{X:Cx}
def XD(c:TT)(tb:TS):TS:=λD σ H=>∃W:Nat->St->Hp->Prop,(∃m,W m σ H)/\∀m σ H,W m σ H ->
 c σ H λb H1=>if b=true then ∃N:St->Hp->Prop,(∀σ' H',N σ' H'->∃Z,Z<m/\W Z σ' H')/\tb {D with nx:=N,ct:=N,bk:=D.nx} σ H1 else D.nx σ H1
theorem Nr{c:Expr}{body:List Stmt}{tc:TT}{tb:TS}(q:PassesOwn (model X.prog X.w) X.A X.env X.xe)(hc:PT X c tc)(hb:PSs X body tb):PS X (.While c body [] pos) (XD tc tb):=by
 intro pins s σ H D I h;obtain⟨W,⟨M,O⟩,turn⟩:=h;refine wpAny_While (codeAny_whileLoop (λn s'=>∃σ' H',Inv X pins σ' H' s'/\W n σ' H') ?_ M ⟨σ,H,I,O⟩);rintro n s1 ⟨Y,H1,L,P⟩;refine bi q (thn (hc pins s1 Y H1 _ L (turn n Y H1 P)) λb s2 ⟨H2,Q,q2⟩=>?_)
 cases b with
 |true=>
  obtain⟨N,R,q2⟩:=q2;rw[if_pos rfl];refine bi q (thn (hb pins s2 Y H2 _ Q q2) λf K q3=>?_)
  cases f with
  |next=>
   obtain⟨Z,V,S,n3⟩:=q3;obtain⟨T,hm,U⟩:=R Z V n3;exact⟨T,hm,Z,V,S,U⟩
  |cont=>
   obtain⟨Z,V,S,n3⟩:=q3;obtain⟨T,hm,U⟩:=R Z V n3;exact⟨T,hm,Z,V,S,U⟩
  |brk=>exact q3
  |ret v=>exact q3
 |false=>
  rw[if_neg gH];exact aT ⟨Y,H2,Q,q2⟩
end
structure It where
 go:Nat->Hp->Prop
 yld:Nat->Hp->V->Hp->Prop
 stop:Nat->Hp->Prop
def vZ(X:Cx)(pins:List (Addr×Obj))(H:Hp)(b:Addr):Prop:=
 H b=none/\b≠X.env.locals/\b∉X.fs/\(b∈X.ex\/X.s₀.heap.objs.size<=b)/\(∀x c,X.env.cells.lookup x=some c->c≠b)/\∀p∈X.pn++pins,p.1≠b
def Inv.fpOk (I:Inv X pins σ H s) (hb:s.heap.objs.size<=d) (hn:H' d=none):vZ X pins H' d:=by
 refine⟨hn,uJ (bV I.lt hb),I.nofs hb,.inr (bf I.sz hb),λx c e z=>?_,λp Z z=>?_⟩
 .obtain⟨v,q⟩:=I.cell x c e;exact absurd (bV q.lt (by rwa[z])) (d7 _)
 .exact absurd (bV (af (I.pin p Z).1) (by rwa[z])) (d7 _)
structure Turn(P:dt)(w:dE)(K:PySem.W.Frag)(tg:Expr)(J:It)(fp:List Addr)(it:Addr)(tn:Nat->ec->Prop):Prop where
 mem:it∈fp
 obj:∀i h,tn i h->∀b∈fp,∃o,h.get? b=some o/\∀v,o.data ≠ .cell v
 keep:∀i h h',tn i h->(∀b∈fp,∀o,h.get? b=some o->h'.get? b=some o)->tn i h'
 item:∀(X:Cx),X.prog=P->X.w=w->X.K=K->X.calm=true->∀(i:Nat)(pins:List (Addr×Obj))(s:dk)(σ:St)(H:Hp)(E:Value->dk->Prop),Inv X pins σ H s->(∀b∈fp,vZ X pins H b)->tn i s.heap->J.go i H ->
  wpAny (model P w) X.A (pyNext (.ref it)) (λr s1=>∃u,r=some u /\
   wpAny (model P w) X.A (letOwnedTupleGo tg (.ref it) u) (λ_ s2=>∃x H',Inv X pins σ H' s2/\RelV x u/\J.yld i H x H'/\tn (i+1) s2.heap/\∀b∈fp,H' b=none) E s1) E s
 done:∀(X:Cx),X.prog=P->X.w=w->X.K=K->X.calm=true->∀(i:Nat)(pins:List (Addr×Obj))(s:dk)(σ:St)(H:Hp)(E:Value->dk->Prop),Inv X pins σ H s->(∀b∈fp,vZ X pins H b)->tn i s.heap->J.stop i H ->
  wpAny (model P w) X.A (pyNext (.ref it)) (λr s1=>r=none/\Inv X pins σ H s1) E s
 self:∀(A:dy)(i:Nat)(s:dk)(Q:Value->dk->Prop)(E:Value->dk->Prop),tn i s.heap->Q (.ref it) s->wpAny (model P w) A (pyIter (.ref it)) Q E s
abbrev TI:=St->Hp->(It->Hp->Prop)->Prop
def PIE(X:Cx)(pins:List (Addr×Obj))(σ:St)(tg:Expr)(R:It->Hp->Prop)(q:Value)(s2:dk):Prop:=
 ∃(it:Addr)(fp:List Addr)(tn:Nat->ec->Prop)(J:It)(H':Hp),q = .ref it/\Inv X pins σ H' s2/\Turn X.prog X.w X.K tg J fp it tn/\tn 0 s2.heap/\(∀b∈fp,vZ X pins H' b)/\R J H'
def PI(X:Cx)(tg iter:Expr)(wi:TI):Prop:=
 ∀(pins:List (Addr×Obj))(s:dk)(σ:St)(H:Hp)(R:It->Hp->Prop),Inv X pins σ H s->wi σ H R ->
  wpAny (model X.prog X.w) X.A (eval iter X.env) (λv s1=>wpAny (model X.prog X.w) X.A (pyIter v) (PIE X pins σ tg R) X.xe s1) X.xe s
def Ei {n:String}(O:s.heap.get? it=some d) (U:d.cls = .type n) (hd:d.data = .fields vs)
 (hn:["enumerate", "zip", "dict_itemiterator", "dict_reverseitemiterator", "odict_iterator", "itertools.zip_longest", "itertools.pairwise"].contains n=false) (q:f () s):wpAny M A (letOwnedTupleGo tg (.ref it) c) f E s:=by
 cases tg<;>first
  |exact ag q
  | (cases c<;>first
   |exact ag q
   | (refine aa (wpAny_load O ?_)
      rw[U,hd];show wpAny M A (if(["enumerate", "zip", "dict_itemiterator", "dict_reverseitemiterator", "odict_iterator", "itertools.zip_longest", "itertools.pairwise"].contains n&&vs[0]? == some (rawInt _))=true then _ else _) f E s;rw[if_neg (by intro h;rw[hn,Bool.false_and]at h;cases h)];exact ag q))
noncomputable def Itl(K:PySem.W.Frag)(a:Addr):It:=
 ⟨λi H=>∃xs x,SqL K H a xs/\xs[i]? = some x,λi H x H'=>H'=H/\∀xs,SqL K H a xs->xs[i]? = some x,λi H=>∃xs,SqL K H a xs/\xs.length<=i⟩
noncomputable def Itr(lo:Int)(n:Nat):It:=⟨λi _=>i<n,λi H x H'=>H'=H/\x = .int (lo+i),λi _=>n<=i⟩
theorem Li(a it:Addr):Turn P w K tg (Itl K a) [it] it (λi h=>h.IsListIter it a i) where
 mem:=by simp
 obj:=λi h st b hb=>by
  have e:b=it:=by simpa using hb
  subst e;obtain⟨o,e,c,d⟩:=st;exact⟨o,e,λv z=>by rw[d]at z;cases z⟩
 keep:=λi h h' st k=>st.at λo e=>k it (by simp) o e
 item:=by
  intro X T hw S M i pins s σ H E I W st U;subst T hw S;obtain⟨xs,x,Y,hx⟩:=U;obtain⟨its,V,p,G⟩:=I.list Y;obtain⟨u,D,J⟩:=V.get hx;obtain⟨N,f1,f2,O,Q,R⟩:=W it (by simp);refine wpAny_pyNext_list_item st p.isList (x:=u) (by simpa using D) λh' Z L=>?_
  have B:=I.turned (t':=s.toks) (λb o hb e=>(L.2 b hb).trans e) N f1 O Q R;obtain⟨o,e,c,d⟩:=id Z;exact⟨u,rfl,Ei (s:={s with heap:=h'}) e c d (by decide) ⟨x,H,B,J,⟨rfl,λys F=>by rwa[I.list_inj F Y]⟩,Z,λb hb=>(W b hb).1⟩⟩
 done:=by
  intro X T hw S M i pins s σ H E I W st U;subst T hw S;obtain⟨xs,Y,hx⟩:=U;obtain⟨its,V,p,G⟩:=I.list Y;obtain⟨N,f1,f2,O,Q,R⟩:=W it (by simp);have A:=V.length;exact wpAny_pyNext_list_end (I.ok.hd M) st p.isList (by simp;lia) λh' C=>⟨rfl,I.turned (t':=s.toks) (λb o hb e=>C b o hb e) N f1 O Q R⟩
 self:=λ_ _ _ _ _ st h=>wpAny_pyIter_listiter st h
theorem Hs(it:Addr)(lo:Int)(n:Nat):Turn P w K tg (Itr lo n) [it] it (λi h=>IsRangeIter h it (lo+(i:Nat)*1) ((n:Int)-(i:Nat)) 1) where
 mem:=by simp
 obj:=λi h st b hb=>by
  have e:b=it:=by simpa using hb
  subst e;exact⟨_,st,λv z=>by
   have M:Data.fields _=Data.cell v:=z
   cases M⟩
 keep:=λi h h' st k=>k it (by simp) _ st
 item:=by
  intro X T hw S U i pins s σ H E I Y st V;subst T hw S;obtain⟨N,f1,f2,O,Q,R⟩:=Y it (by simp);have W:=Walks.range (prog:=X.prog) (w:=X.w) (I.ok.hd U) it lo 1 n;refine W.item i s _ _ V st λv h' tk J Z L=>?_
  obtain⟨t,rfl⟩:=J;have F:Inv X pins σ H {s with heap:=h',toks:=tk}:=I.turned (λb o hb e=>L b o (by simpa using hb) e) N f1 O Q R;refine⟨_,rfl,Ei (s:={s with heap:=h',toks:=tk}) (n := "range_iterator") Z rfl rfl (by decide) ⟨.int (lo+i),H,F,⟨t,?_⟩,⟨rfl,rfl⟩,Z,λb hb=>(Y b hb).1⟩⟩;rw[Int.mul_one]
 done:=by
  intro X T hw S U i pins s σ H E I Y st V;subst T hw S;obtain⟨N,f1,f2,O,Q,R⟩:=Y it (by simp);exact wpAny_pyNext_range_end (I.ok.hd U) st (by have:n<=i:=V;lia) λh' G=>⟨rfl,I.turned (t':=s.toks) (λb o hb e=>G b o hb e) N f1 O Q R⟩
 self:=λ_ _ _ _ _ st h=>wpAny_pyIter_rangeiter st h
end L2
variable{tl:L2.TE}
namespace L2
section
variable{X:Cx}
def ab4(K:PySem.W.Frag)(tl:TE):TI:=λσ H R=>tl σ H λx H1=>∃a,x = .ref a/\(∃xs,SqL K H1 a xs)/\R (Itl K a) H1
def S9 (O:PE X c tl):PI X tg c (ab4 X.K tl):=by
 intro pins s σ H R I h;refine thn (O pins s σ H _ I h) λv s1 ⟨x,H1,Z,r1,q1⟩=>?_
 obtain⟨a,e,⟨xs,Y⟩,q⟩:=q1;subst e
 cases r1;obtain⟨its,W,p,V⟩:=Z.list Y;refine cr p.isList ?_;refine⟨s1.heap.objs.size,[s1.heap.objs.size],_,_,H1,rfl,Z.kept (t':=s1.toks) λb o e=>ae _ e,Li a _,⟨_,ai _ rfl,rfl,rfl⟩,λb hb=>?_,q⟩;have e:b=s1.heap.objs.size:=by simpa using hb
 subst e;exact Z.fpOk (aV _) (Z.hok.fresh (aV _))
def Ej {lo hi:Int} {t u v:Tok} {tk:Nat} (I:Inv X pins σ H s) (h1 : -(2^62)<=lo) (h2:lo<2^62) (h3 : -(2^62)<=hi) (h4:hi<2^62)
 (q:R (Itr lo (hi-lo).toNat) H):wpAny (model X.prog X.w) X.A (pyIter (.ref s.heap.objs.size)) (PIE X pins σ tg R) E {s with heap:=s.heap.push {cls:=.type "range", data:=.fields #[.int lo t,.int hi u,.int 1 v]},toks:=tk}:=by
 refine wpAny_pyIter_range (IsRange.new ..) (small_one h1 h2 h3 h4) ?_;have Z:Inv X pins σ H {s with heap:=s.heap.push {cls:=.type "range", data:=.fields #[.int lo t,.int hi u,.int 1 v]},toks:=tk}:=I.kept λb o e=>ae _ e
 refine⟨(s.heap.push {cls:=.type "range", data:=.fields #[.int lo t,.int hi u,.int 1 v]}).objs.size,[(s.heap.push {cls:=.type "range", data:=.fields #[.int lo t,.int hi u,.int 1 v]}).objs.size],_,_,H,rfl,
  Z.kept (t':=tk) λb o e=>ae _ e,Hs _ lo (hi-lo).toNat,?_,λb hb=>?_,q⟩
 .have W:lo+((0:Nat):Int)*1=lo:=by simp
  have Y:(((hi-lo).toNat:Nat):Int)-((0:Nat):Int)=Builtin.Range.rangeSize lo hi 1:=by rw[rangeSize_one];split<;>lia
  rw[W,Y];exact ai _ rfl
 .have e:b=(s.heap.push {cls:=.type "range", data:=.fields #[.int lo t,.int hi u,.int 1 v]}).objs.size:=by simpa using hb
  subst e;exact Z.fpOk (aV _) (Z.hok.fresh (aV _))
def ab5(ta:TA):TI:=λσ H R=>ta σ H λvs H1=>∃j:Int,vs=[.int j]/\-(2^62)<=j/\j<2^62/\R (Itr 0 j.toNat) H1
def ab6(ta:TA):TI:=λσ H R=>ta σ H λvs H1=>∃i j:Int,vs=[.int i,.int j]/\(-(2^62)<=i/\i<2^62/\-(2^62)<=j/\j<2^62)/\R (Itr i (j-i).toNat) H1
theorem Lj (U:Gl X "range") (hm:X.mg "range"=none) (ha:PA X [c] ta) (O:starEach [c] X.env=[(false,eval c X.env)]:=by rfl):PI X tg (.Call (.Name "range" p) [c] [] pos) (ab5 ta):=by
 intro pins s σ H R I h;refine Call_ (ou I U hm boot_range (d6 (thn (ha pos pins s σ H _ I h) λus s1 ⟨vs,H1,Y,r1,q1⟩=>?_) O rfl));obtain⟨j,e,q1,q2,q⟩:=q1;subst e
 cases r1 with
 |cons r Z=>
  cases Z;obtain⟨t,rfl⟩:=r;exact call_range_1 (Ej Y (by lia) (by lia) q1 q2 (by simpa using q))
theorem Lk (hg:Gl X "range") (hm:X.mg "range"=none) (ha:PA X [c,d] ta) (U:starEach [c,d] X.env=[(false,eval c X.env),(false,eval d X.env)]:=by rfl) (O:starEach [d] X.env=[(false,eval d X.env)]:=by rfl) :
 PI X tg (.Call (.Name "range" p) [c,d] [] pos) (ab6 ta):=by
 intro pins s σ H R I h;refine Call_ (ou I hg hm boot_range (d6 (thn (ha pos pins s σ H _ I h) λus s1 ⟨vs,H1,W,r1,q1⟩=>?_) (by rw[U,O]) (by rw[O];rfl)));obtain⟨i,j,e,⟨q1,q2,q3,q4⟩,q⟩:=q1;subst e
 cases r1 with
 |cons r Z=>
  cases Z with
  |cons Y Z=>
   cases Z;obtain⟨t,rfl⟩:=r;obtain⟨V,rfl⟩:=Y;exact call_range_2 (Ej W q1 q2 q3 q4 q)
def ao2(wi:TI)(g:TG)(tb:TS):TS:=λD σ H=>wi σ H λJ H1=>∃W:Nat->Nat->St->Hp->Prop,(∃m,W 0 m σ H1)/\∀i m σ H,W i m σ H ->
 (J.stop i H/\D.nx σ H)\/(J.go i H/\∃N:St->Hp->Prop,(∀σ' H',N σ' H'->∃Y,Y<m/\W (i+1) Y σ' H')/\∀x H',J.yld i H x H'->g x σ H' λZ H2=>tb {D with nx:=N,ct:=N,bk:=D.nx} Z H2)
def yF(fp:List Addr)(h:ec):List (Addr×Obj):=fp.filterMap λb=>(h.get? b).map λo=>(b,o)
def pQ (hb:c∈fp) (e:h.get? c=some d):(c,d)∈yF fp h:=mZ.mpr ⟨c,hb,by rw[e];rfl⟩
theorem Ln (O:c∈yF fp h):c.1∈fp/\h.get? c.1=some c.2:=by
 obtain⟨b,hb,e⟩:=mZ.mp O
 cases q:h.get? b with
 |none=>rw[q]at e;cases e
 |some o=>
  rw[q]at e;have Z:(b,o)=c:=cU.inj e;subst Z;exact⟨hb,q⟩
def Inv.pinned (I:Inv X pins σ H s) (O:∀b∈fp,vZ X pins H b) (q:∀b∈fp,∃o,s.heap.get? b=some o/\∀v,o.data ≠ .cell v):Inv X (pins++yF fp s.heap) σ H s:=
 I.pins_of λp Y=>(bT.mp Y).elim (λz=>I.pin p (aU _ z)) λz=>by
  obtain⟨hb,e⟩:=Ln z;obtain⟨W,f1,f2,_⟩:=O p.1 hb;obtain⟨o,Z,d⟩:=q p.1 hb;rw[e]at Z;cases Z;exact⟨e,W,f1,f2,d⟩
def Inv.unpinned (I:Inv X (pins++c) σ H s):Inv X pins σ H s:=I.pins_of λp Z=>I.pin p (aU _ (bH _ Z))
def XF (q:PassesOwn (model X.prog X.w) X.A X.env X.xe) (hc:X.calm=true) (hi:PI X tg q0 wi) (hg:PG X tg q2) (hb:PSs X q1 tb)
 (hs:∀x,foldedSetIterable q0 X.env x=pure x:=by intro _;rfl):PS X (.For tg q0 q1 [] pos) (ao2 wi q2 tb):=by
 intro pins s σ H D I h;refine wpAny_For (thn (hi pins s σ H _ I h) λv s1 h1=>thn h1 λitv s2 h2=>?_) hs;obtain⟨it,fp,tn,J,H2,e,I2,T,K,f2,W,⟨m0,j⟩,turn⟩:=h2;subst e;have V:∀{H':Hp},(∀b∈fp,H' b=none)->∀b∈fp,vZ X pins H' b:=λhn b hb=>⟨hn b hb,(f2 b hb).2⟩
 refine codeAny_forLoop_any (λn s'=>∃i σ' H',Inv X pins σ' H' s'/\tn i s'.heap/\(∀b∈fp,H' b=none)/\W i n σ' H') ?_ m0 ⟨0,σ,H2,I2,K,λb hb=>(f2 b hb).1,j⟩;rintro n z ⟨i,Y,M,y,Q,O,k⟩;rcases turn i n Y M k with⟨stop,qn⟩|⟨go,N,hN,step⟩
 .refine bi q (thn (T.done X rfl rfl rfl hc i pins z Y M X.xe y (V O) Q stop) λr a ⟨F,I4⟩=>?_);subst F;exact aT ⟨Y,M,I4,qn⟩
 .refine bi q (thn (T.item X rfl rfl rfl hc i pins z Y M X.xe y (V O) Q go) λr a ⟨u,F,h4⟩=>?_);subst F;refine bi q (thn h4 λ_ B ⟨x,t,I5,r5,p,R,E⟩=>?_);have C:=I5.pinned (V E) (T.obj _ _ R);refine bi q (thn (hg _ B Y t x u _ C r5 (step x t p)) λ_ c ⟨L,H6,I6,q6⟩=>?_);refine bi q (thn (hb _ c L H6 _ I6 q6) λf G q7=>?_);have again:∀{Z:St}{S:Hp},Inv X (pins++yF fp B.heap) Z S G->N Z S->∃m,m<n/\∃i σ' H',Inv X pins σ' H' G/\tn i G.heap/\(∀b∈fp,H' b=none)/\W i m σ' H':=λ{Z S} U P=>by
   obtain⟨m',hm,l⟩:=hN Z S P;refine⟨m',hm,i+1,Z,S,U.unpinned,T.keep _ _ _ R λb hb o e=>(U.pin (b,o) (aU _ (aU _ (pQ hb e)))).1,λb hb=>?_,l⟩;obtain⟨o,e,d⟩:=T.obj _ _ R b hb;exact(U.pin (b,o) (aU _ (aU _ (pQ hb e)))).2.1
  cases f with
  |next=>obtain⟨Z,S,U,P⟩:=q7;exact again U P
  |cont=>obtain⟨Z,S,U,P⟩:=q7;exact again U P
  |brk=>obtain⟨Z,S,U,q7⟩:=q7;exact⟨Z,S,U.unpinned,q7⟩
  |ret v=>obtain⟨x7,Z,S,U,r7,q7⟩:=q7;exact⟨x7,Z,S,U.unpinned,r7,q7⟩
end
end L2
namespace L2
abbrev R2:=V->V->Hp->VK->Prop
def OpR(X:Cx)(f:Value->Value->Sem Value)(r:R2):Prop:=
 ∀(pins:List (Addr×Obj))(s:dk)(σ:St)(H:Hp)(x y:V)(v u:Value)(Q:VK),Inv X pins σ H s->RelV x v->RelV y u->r x y H Q ->
  wpAny (model X.prog X.w) X.A (f v u) (EP X pins σ Q) X.xe s
def UnR(X:Cx)(f:Value->Sem Value)(r:V->Hp->VK->Prop):Prop:=
 ∀(pins:List (Addr×Obj))(s:dk)(σ:St)(H:Hp)(x:V)(v:Value)(Q:VK),Inv X pins σ H s->RelV x v->r x H Q ->
  wpAny (model X.prog X.w) X.A (f v) (EP X pins σ Q) X.xe s
def lB(X:Cx)(f:Value)(r:List V->Hp->VK->Prop):Prop:=
 ∀(pins:List (Addr×Obj))(s:dk)(σ:St)(H:Hp)(xs:List V)(us:List Value)(Q:VK),Inv X pins σ H s->Vals xs us->r xs H Q ->
  wpAny (model X.prog X.w) X.A (call f us) (EP X pins σ Q) X.xe s
def tOp(r:R2)(ta tb:TE):TE:=λσ H Q=>ta σ H λx H1=>tb σ H1 λy H2=>r x y H2 Q
def tUn(r:V->Hp->VK->Prop)(ta:TE):TE:=λσ H Q=>ta σ H λx H1=>r x H1 Q
def rI(C:Int->Int->Prop)(g:Int->Int->V):R2:=λx y H Q=>∃i j,x = .int i/\y = .int j/\C i j/\Q (g i j) H
def rI0(g:Int->Int->V):R2:=λx y H Q=>∃i j,x = .int i/\y = .int j/\Q (g i j) H
def rU(g:Int->V):V->Hp->VK->Prop:=λx H Q=>∃i,x = .int i/\Q (g i) H
section
variable{X:Cx}{a c:Expr}{ta tb tc:TE}
def XH(ha:PE X a ta)(hb:PE X b tb) {R:V->V->Hp->Prop} (I:Inv X d σ k i)
 (h:ta σ k λx H1=>tb σ H1 λy H2=>R x y H2) {Q:Value->dk->Prop} {f:Value->Value->Sem Value}
 (U:∀v u s2 x y H2,Inv X d σ H2 s2->RelV x v->RelV y u->R x y H2->wpAny (model X.prog X.w) X.A (f v u) Q X.xe s2) :
 wpAny (model X.prog X.w) X.A (eval a X.env) (λv O=>wpAny (model X.prog X.w) X.A (eval b X.env) (λu q=>wpAny (model X.prog X.w) X.A (f v u) Q X.xe q) X.xe O) X.xe i:=by
 refine thn (ha d i σ k _ I h) λv s1 ⟨x,H1,Y,r1,q1⟩=>?_
 refine thn (hb d s1 σ H1 _ Y q1) λu s2 ⟨y,H2,Z,r2,q2⟩=>?_
 exact U v u s2 x y H2 Z r1 r2 q2
def Jz (O:OpR X (binaryOp op) d) (ha:PE X a ta) (hb:PE X b tb):PE X (.BinOp a op b pos) (tOp d ta tb):=by
 intro pins s σ H Q I h;exact wpAny_BinOp (XH ha hb I h λv u s2 x y H2 W Y Z q=>O pins s2 σ H2 x y v u Q W Y Z q)
def ab7 (q:UnR X (unaryOp op) d) (ha:PE X a ta):PE X (.UnaryOp op a pos) (tUn d ta):=by
 intro pins s σ H Q I h;exact UnaryOp_ (thn (ha pins s σ H _ I h) λv s1 ⟨x,H1,Z,r1,q1⟩=>q pins s1 σ H1 x v Q Z r1 q1)
def opI {g:Int->Int->Int}
 (rule:∀(i j:Int)(t u:Tok)(s:dk)(Q:Value->dk->Prop)(E:Value->dk->Prop),C i j->Q (.int (g i j) s.toks) {s with toks:=s.toks+1}->wpAny (model X.prog X.w) X.A (f (.int i t) (.int j u)) Q E s) :
 OpR X f (rI C λi j=>.int (g i j)):=by
 intro pins s σ H x y v u Q I W Y h;obtain⟨i,j,rfl,rfl,V,q⟩:=h;obtain⟨t,rfl⟩:=W;obtain⟨Z,rfl⟩:=Y;exact rule i j t Z s _ _ V ⟨.int (g i j),H,I.tok _,⟨_,rfl⟩,q⟩
def ab8 {g:Int->Int->Int}
 (rule:∀(i j:Int)(t u:Tok)(s:dk)(Q:Value->dk->Prop)(E:Value->dk->Prop),Q (.int (g i j) s.toks) {s with toks:=s.toks+1}->wpAny (model X.prog X.w) X.A (f (.int i t) (.int j u)) Q E s) :
 OpR X f (rI0 λi j=>.int (g i j)):=by
 intro pins s σ H x y v u Q I W Y h;obtain⟨i,j,rfl,rfl,q⟩:=h;obtain⟨t,rfl⟩:=W;obtain⟨Z,rfl⟩:=Y;exact rule i j t Z s _ _ ⟨.int (g i j),H,I.tok _,⟨_,rfl⟩,q⟩
def S_ {g:Int->Int->Bool}
 (rule:∀(i j:Int)(t u:Tok)(s:dk)(Q:Value->dk->Prop)(E:Value->dk->Prop),Q (.bool (g i j)) s->wpAny (model X.prog X.w) X.A (f (.int i t) (.int j u)) Q E s) :
 OpR X f (rI0 λi j=>.bl (g i j)):=by
 intro pins s σ H x y v u Q I W Y h;obtain⟨i,j,rfl,rfl,q⟩:=h;obtain⟨t,rfl⟩:=W;obtain⟨Z,rfl⟩:=Y;exact rule i j t Z s _ _ ⟨.bl (g i j),H,I,rfl,q⟩
def XJ(i j:Int):Prop:=0<=j/\j<=1000000/\i.natAbs<2^64
def j_:OpR X (binaryOp .Add) (rI0 λi j=>.int (i+j)):=ab8 λ_ _ _ _ _ _ _ q=>add_int q
def XM:OpR X (binaryOp .Sub) (rI0 λi j=>.int (i-j)):=ab8 λ_ _ _ _ _ _ _ q=>sub_int q
def jz:OpR X (binaryOp .Mod) (rI (λ_ j=>j≠0) λi j=>.int (i.fmod j)):=opI λ_ _ _ _ _ _ _ Z q=>mod_int' Z q
def Nt:OpR X (binaryOp .Pow) (rI XJ λi j=>.int (i^j.toNat)):=opI λ_ _ _ _ _ _ _ Z q=>pow_int_small Z.1 Z.2.1 Z.2.2 q
def unI {g:Int->Int}
 (rule:∀(i:Int)(t:Tok)(s:dk)(Q:Value->dk->Prop)(E:Value->dk->Prop),Q (.int (g i) s.toks) {s with toks:=s.toks+1}->wpAny (model X.prog X.w) X.A (f (.int i t)) Q E s) :
 UnR X f (rU λi=>.int (g i)):=by
 intro pins s σ H x v Q I Z h;obtain⟨i,rfl,q⟩:=h;obtain⟨t,rfl⟩:=Z;exact rule i t s _ _ ⟨.int (g i),H,I.tok _,⟨_,rfl⟩,q⟩
def XQ:UnR X (unaryOp .USub) (rU λi=>.int (-i)):=unI λ_ _ _ _ _ q=>neg_int q
end
section
variable{X:Cx}{a c:Expr}{ta tb tc:TE}
def XR{σ:St}{Q:VK}{k O:Bool}(I:Inv X pins σ H s)(q:Q (.bl k) H)(e:k=O):EP X pins σ Q (.bool O) s:=by
 subst e;exact⟨.bl k,H,I,rfl,q⟩
def Wv:OpR X (compareOp .Lt) (rI0 λi j=>.bl (decide (i<j))):=S_ λ_ _ _ _ _ _ _ q=>lt_int q
def JB:OpR X (compareOp .LtE) (rI0 λi j=>.bl (decide (i<=j))):=S_ λ_ _ _ _ _ _ _ q=>le_int q
def Ww:OpR X (compareOp .Gt) (rI0 λi j=>.bl (decide (j<i))):=S_ λ_ _ _ _ _ _ _ q=>gt_int q
def yG:OpR X (compareOp .GtE) (rI0 λi j=>.bl (decide (j<=i))):=S_ λ_ _ _ _ _ _ _ q=>ge_int q
def eZ(b:Expr) (h:op ≠ .In:=by decide) (h2:op ≠ .NotIn:=by decide):behindInMarks op b=false:=by
 have Y:(op==CmpOp.In)=false:=by cases op<;>first|rfl|exact absurd rfl h
 have Z:(op==CmpOp.NotIn)=false:=by cases op<;>first|rfl|exact absurd rfl h2
 cases b<;>simp[behindInMarks,Y,Z]
def JC (O:OpR X (compareOp op) d) (ha:PE X a ta) (hb:PE X b tb) (hm:behindInMarks op b=false):PE X (.Compare a [op] [b] pos) (tOp d ta tb):=by
 intro pins s σ H Q I h;exact wpAny_Compare1 (XH ha hb I h λv u s2 x y H2 W Y Z q=>O pins s2 σ H2 x y v u Q W Y Z q) hm
def Wx(t:TE):TT:=λσ H Q=>t σ H λx H'=>∃k,x = .bl k/\Q k H'
def JD (q:OpR X (compareOp op) d) (ha:PE X a ta) (hb:PE X b tb) (hm:behindInMarks op b=false):PT X (.Compare a [op] [b] pos) (Wx (tOp d ta tb)):=by
 intro pins s σ H Q I h;refine wpAny_isTrue_Compare1 (thn (ha pins s σ H _ I h) λv s1 ⟨x,H1,W,r1,q1⟩=>thn (hb pins s1 σ H1 _ W q1) λu s2 ⟨y,H2,Y,r2,q2⟩=>
  thn (q pins s2 σ H2 x y v u _ Y r1 r2 q2) λc U ⟨z,V,Z,r3,k,e,q3⟩=>?_) hm
 subst e
 cases r3;exact ay ⟨V,Z,q3⟩
noncomputable def Nu(r q:R2)(ta tb tc:TE):TE:=λσ H Q=>ta σ H λx H1=>tb σ H1 λy H2=>r x y H2 λz Z=>∃k,z = .bl k /\
 (if k=true then tc σ Z λY X=>q y Y X Q else Q (.bl false) Z)
theorem Nv (ho:OpR X (compareOp op) f) (O:OpR X (compareOp q) i) (ha:PE X a ta) (hb:PE X b tb) (hc:PE X c tc)
 (hm:lastMarks [op,q] [b,c]=false:=by with_unfolding_all rfl):PE X (.Compare a [op,q] [b,c] pos) (Nu f i ta tb tc):=by
 intro pins s σ H Q I h;refine Compare_chain (thn (ha pins s σ H _ I h) λv s1 ⟨x,H1,N,r1,q1⟩=>chain_link (thn (hb pins s1 σ H1 _ N q1) λu s2 ⟨y,H2,P,r2,q2⟩=>
  thn (ho pins s2 σ H2 x y v u _ P r1 r2 q2) λd S ⟨z,Y,Z,r3,k,e,q3⟩=>?_)) hm
 subst e
 cases r3;refine ay ?_
 cases k with
 |false=>exact ite_ff ⟨.bl false,Y,Z,rfl,q3⟩
 |true=>exact ite_tt (chain_last (thn (hc pins S σ Y _ Z q3) λV T ⟨W,M,R,r4,q4⟩=>O pins T σ M y W u V Q R r2 r4 q4))
theorem Nx (ho:OpR X (compareOp op) f) (O:OpR X (compareOp q) i) (ha:PE X a ta) (hb:PE X b tb) (hc:PE X c tc)
 (hm:lastMarks [op,q] [b,c]=false:=by with_unfolding_all rfl):PT X (.Compare a [op,q] [b,c] pos) (Wx (Nu f i ta tb tc)):=by
 intro pins s σ H Q I h;refine isTrue_chain (thn (ha pins s σ H _ I h) λv s1 ⟨x,H1,G,r1,q1⟩=>test_link (thn (hb pins s1 σ H1 _ G q1) λu s2 ⟨y,H2,J,r2,q2⟩=>
  thn (ho pins s2 σ H2 x y v u _ J r1 r2 q2) λd S ⟨z,Y,Z,r3,k,e,q3⟩=>?_)) hm
 subst e
 cases r3;refine ay ?_
 cases k with
 |false=>
  obtain⟨B,M,P⟩:=q3
  cases M;exact ite_ff ⟨Y,Z,P⟩
 |true=>
  refine ite_tt (test_last (thn (hc pins S σ Y _ Z q3) λV T ⟨W,E,K,r4,q4⟩=>thn (O pins T σ E y W u V _ K r2 r4 q4) λA C ⟨D,F,L,R,k2,N,q5⟩=>?_));subst N
  cases R;exact ay ⟨F,L,q5⟩
def yH:(sizeLine:Nat)<2^63:=by rw[sizeLine_eq];decide
def lG:OpR X (binaryOp .Add) (λx y H Q=>∃i j,x = .str i/\y = .str j/\i.length+j.length<=sizeLine/\Q (.str (i++j)) H):=by
 intro pins s σ H x y v u Q I W Y h;obtain⟨i,j,rfl,rfl,V,q⟩:=h;obtain⟨t,rfl⟩:=W;obtain⟨Z,rfl⟩:=Y;exact add_str (λZ tk=>⟨.str (i++j),H,I.tok _,⟨_,rfl⟩,q⟩) V
theorem vals1 (r:Vals [d] us):∃u,us=[u]/\RelV d u:=by
 cases r with
 |cons r1 r2=>cases r2;exact⟨_,rfl,r1⟩
theorem vals2 (r:Vals [d,f] us):∃u q,us=[u,q]/\RelV d u/\RelV f q:=by
 cases r with
 |cons r1 r2=>
  cases r2 with
  |cons r3 r4=>cases r4;exact⟨_,_,rfl,r1,r3⟩
def Lp(O:X.calm=true):lB X (.builtin "max") (λxs H Q=>∃i j,xs=[.int i,.int j]/\Q (.int (if j>i then j else i)) H):=by
 intro pins s σ H xs us Q I r h;obtain⟨i,j,rfl,q⟩:=h;obtain⟨u,Y,rfl,⟨t,rfl⟩,⟨W,rfl⟩⟩:=vals2 r;refine max_two_ints (I.ok.hd O) λh' tk k=>⟨_,H,I.kept k,?_,q⟩
 by_cases Z:j>i
 .rw[if_pos Z,if_pos Z];exact⟨_,rfl⟩
 .rw[if_neg Z,if_neg Z];exact⟨_,rfl⟩
def Lq(O:X.calm=true):lB X (.builtin "min") (λxs H Q=>∃i j,xs=[.int i,.int j]/\Q (.int (if j<i then j else i)) H):=by
 intro pins s σ H xs us Q I r h;obtain⟨i,j,rfl,q⟩:=h;obtain⟨u,Y,rfl,⟨t,rfl⟩,⟨W,rfl⟩⟩:=vals2 r;refine min_two_ints (I.ok.hd O) λh' tk k=>⟨_,H,I.kept k,?_,q⟩
 by_cases Z:j<i
 .rw[if_pos Z,if_pos Z];exact⟨_,rfl⟩
 .rw[if_neg Z,if_neg Z];exact⟨_,rfl⟩
def Lr:lB X (.type "int") (λxs H Q=>(∃i,xs=[.int i]/\Q (.int i) H)\/∃k,xs=[.bl k]/\Q (.int (if k then 1 else 0)) H):=by
 intro pins s σ H xs us Q I r h;rcases h with⟨i,rfl,q⟩|⟨k,rfl,q⟩
 .obtain⟨u,rfl,t,rfl⟩:=vals1 r;exact call_int_int ⟨.int i,H,I,⟨_,rfl⟩,q⟩
 .obtain⟨u,rfl,r1⟩:=vals1 r
  cases r1;exact call_int_bool ⟨.int (if k then 1 else 0),H,I.tok _,⟨_,rfl⟩,q⟩
end
end L2
variable{C:Addr}{expr b:Bool}{pl:Sem Bool}{kw:List (Str×Value)}{m:Str}{env:Env}
namespace L2
structure ObjM(h:ec)(x dx C:Addr)(mA:Str->Option Value):Prop where
 obj:h.get? x=some (PySem.W.instObj C dx)
 ns:h.Ns1 dx mA
 ne:dx≠x
def Ao (n:h.Ns1 c mA):∃od,h.get? c=some od/\∀name,PySem.W.lookIn name od=some (mA name):=by
 obtain⟨o,es,T,X,hd,V,_,hm⟩:=n;refine⟨o,X,λname=>?_⟩;have e:=hm name;unfold nsFind findBy at e;rw[<-tU]at e;unfold PySem.W.lookIn;rw[hd];dsimp only;split
 .rename_i y q;rw[q]at e;exact congrArg some e
 .rename_i q;rw[q]at e;have a:es.toList.any (·.refKey)=false:=by
   rw[List.any_eq_false];intro y Y;obtain⟨z,t,Z⟩:=V y (qW.mp Y);simp[DictEntry.refKey,Z]
  have U:¬es.toList.any (·.refKey)=true:=by rw[a];exact gH
  rw[if_neg U];exact congrArg some e
def ObjM.look (I:ObjM h c d C mA):∃od,PySem.W.InstAt h c (PySem.W.instObj C d) C (some od)/\∀name,PySem.W.lookIn name od=some (mA name):=
 let⟨od,Z,Y⟩:=Ao I.ns
 ⟨od,⟨I.obj,rfl,rfl,Z⟩,Y⟩
section
variable{prog:dt}{x dx f:Addr}{mA:Str->Option Value}{name:Str}{v:Value}
def get_map(X:K.In s.heap)(I:ObjM s.heap x dx C mA)(U:PySem.W.plainGet K C name=true)(hh:PySem.W.hasDictIn K C=true)
 (ha:PySem.W.findIn K (.ref C) name=some none) (O:mA name=some v) (q:PySem.W.handedIn v=true) (h:Q v {s with toks:=s.toks+1}) :
 wpAny (model prog w) A (getAttr (.ref x) name expr) Q E s:=by
 obtain⟨od,J,Z⟩:=I.look;exact PySem.W.get_value X J (PySem.W.plainGet_of U).1 (PySem.W.findObj_own hh ha rfl (by rw[Z,O])) q h
def Ny{Q:Value×List Value->dk->Prop}(X:K.In s.heap)(I:ObjM s.heap x dx C mA)(q:PySem.W.plainGet K C name=true)
 (Y:PySem.W.findIn K (.ref C) name=some (some (.ref f))) (U:PySem.W.isFn K (.ref f)=true) (O:mA name=none) (h:Q (.ref f,[.ref x]) s) :
 wpAny (model prog w) A (getMethod (.ref x) name pl) Q E s:=by
 obtain⟨od,J,Z⟩:=I.look;exact PySem.W.method_fn X J (PySem.W.plainGet_of q).1 (PySem.W.plainGet_of q).2 Y (beq_iff_eq.mp U) (by show(PySem.W.lookIn name od).map (·.isSome)=some false;rw[Z,O];rfl) h
def Tc{ns:List Str}{Q:Unit->dk->Prop}(X:K.In s.heap)(I:ObjM s.heap x dx C mA)
 (O:PySem.W.findIn K (.ref C) "__setattr__"=some (some (.builtin "object.__setattr__"))) (hp:PySem.W.plainOver K C=true) (q:PySem.W.takerIn K C name=some none) (hh:PySem.W.hasDictIn K C=true)
 (hw:PySem.Within mA ns) (hsz:ns.length<=sizeLine)
 (h:∀h',ObjM h' x dx C (λy=>if y=name then some v else mA y)->eL dx s.heap h'->Q () {s with heap:=h',toks:=s.toks+2}) :
 wpAny (model prog w) A (setAttr (.ref x) name v) Q E s:=by
 obtain⟨od,J,M⟩:=I.look;refine PySem.W.set_plain X J O (PySem.W.osa_open (s:={s with toks:=s.toks+1}) (r:=none) X J hp q λb=>?_);obtain⟨cd,R,T⟩:=PySem.W.any_some hh;have hx:s.heap.get? x=some ⟨.ref C,some dx,.plain,#[]⟩:=I.obj;refine aa (ag (aa (aa (wpAny_loadPart hx (aa (PySem.W.Looks.here (s:={s with toks:=s.toks+1}) (PySem.W.looks_clsIn X R) ?_))))));rw[T];refine ag (a:=some dx) (aa (ag (aa ?_)));refine wpAny_nsSet1 (s:={s with toks:=s.toks+1}) I.ns λh' Y Z=>?_
 obtain⟨oD,P,N,V,U,S⟩:=Y.count (PySem.Within.cons name v hw);refine aa (wpAny_lookBehind V (by rw[U];exact pastItsLine_dict (bf S (by rw[aX];lia))) ?_);exact ag (h _ ⟨(Z.2 _ (dv I.ne)).trans I.obj,Y,I.ne⟩ Z)
def Nz{R:Result->dk->Prop}{vs:List Value}(X:K.In s.heap)(hm:PySem.W.makesIn K C=true)
 (hi:PySem.W.findIn K (.ref C) "__init__"=some (some (.ref f))) (q:PySem.W.typeIn K (.ref f)=some (.type "function"))
 (h:codeAny (model prog w) (A.under (.builtin "type.__call__" ⟨.ref C::vs,kw⟩)) (.call (.ref f) ⟨.ref (s.heap.objs.size+1)::vs,kw⟩) (PySem.W.InitBack (s.heap.objs.size+1) R)
  {s with heap:=(s.heap.push PySem.W.emptyDict).push (PySem.W.instObj C s.heap.objs.size)}) :
 codeAny (model prog w) A (.call (.ref C) ⟨vs,kw⟩) R s:=by
 obtain⟨hh,g,d,t,os⟩:=s;exact PySem.W.make_core (PySem.W.makes_of X hm) (PySem.W.looks_findIn X hi) (λself=>PySem.W.bind_fn X self q) (.inl rfl) h
end
def qQ(f:Str)(v:V):List (Str×V)->List (Str×V)
 |[]=>[(f,v)]
 | (g,x)::r=>if g=f then(g,v)::r else(g,x)::qQ f v r
theorem wW(f g:Str)(v:V):∀fs:List (Str×V),(qQ f v fs).lookup g=if g=f then some v else fs.lookup g
 |[]=>by
  show iM g [(f,v)]=_;by_cases h:g=f
  .have hb:(g==f)=true:=beq_iff_eq.mpr h;simp only[iM,hb,if_pos h]
  .have hb:(g==f)=false:=beq_eq_false_iff_ne.mpr h;simp only[iM,hb,if_neg h]
 | (k,x)::r=>by
  have Y:=wW f g v r;rw[show qQ f v ((k,x)::r)=(if k=f then(k,v)::r else(k,x)::qQ f v r)from rfl];by_cases Z:k=f
  .rw[if_pos Z];by_cases h:g=k
   .have hb:(g==k)=true:=beq_iff_eq.mpr h;simp only[iM,hb,if_pos (h.trans Z)]
   .have hb:(g==k)=false:=beq_eq_false_iff_ne.mpr h;simp only[iM,hb,if_neg (λe:g=f=>h (e.trans Z.symm))]
  .rw[if_neg Z];by_cases h:g=k
   .have hb:(g==k)=true:=beq_iff_eq.mpr h;simp only[iM,hb,if_neg (λe:g=f=>Z (h.symm.trans e))]
   .have hb:(g==k)=false:=beq_eq_false_iff_ne.mpr h;simp only[iM,hb];exact Y
theorem v5(f:Str)(v:V):∀fs:List (Str×V),f∈(qQ f v fs).map (·.1)/\∀g,g∈fs.map (·.1)->g∈(qQ f v fs).map (·.1)
 |[]=>⟨by simp[qQ],λg h=>by simp at h⟩
 | (k,x)::r=>by
  obtain⟨i1,i2⟩:=v5 f v r;rw[show qQ f v ((k,x)::r)=(if k=f then(k,v)::r else(k,x)::qQ f v r)from rfl];by_cases Z:k=f
  .rw[if_pos Z];subst Z;exact⟨by simp,λg h=>by simpa using h⟩
  .rw[if_neg Z];refine⟨?_,λg h=>?_⟩
   .rw[aN];exact aH _ i1
   .rw[aN]at h ⊢;rcases aL.mp h with e|e
    .exact aL.mpr (.inl e)
    .exact aH _ (i2 g e)
theorem wX(f:Str)(v:V):∀fs:List (Str×V),(qQ f v fs).length<=fs.length+1
 |[]=>by simp[qQ]
 | (k,x)::r=>by
  have Y:=wX f v r;rw[show qQ f v ((k,x)::r)=(if k=f then(k,v)::r else(k,x)::qQ f v r)from rfl];by_cases Z:k=f
  .rw[if_pos Z,aX,aX];lia
  .rw[if_neg Z,aX,aX];lia
theorem pP.some_of {o:Option Value}(r:pP (some v) o):∃u,o=some u/\RelV v u:=by
 cases o with
 |none=>exact(show False from r).elim
 |some u=>exact⟨u,rfl,r⟩
theorem pP.none_of{o:Option Value}(r:pP none o):o=none:=by
 cases o with
 |none=>rfl
 |some u=>exact(show False from r).elim
theorem Aq{u:Value}(r:RelV v u):PySem.W.handedIn u=true:=by
 cases v with
 |non=>cases(show u=dL from r);rfl
 |bl b=>cases(show u=ef b from r);rfl
 |int i=>obtain⟨t,e⟩:=(show ∃t,u=ez i t from r);cases e;rfl
 |str x=>obtain⟨t,e⟩:=(show ∃t,u=eQ x t from r);cases e;rfl
 |byt b=>obtain⟨t,e⟩:=(show ∃t,u=Value.bytes b t from r);cases e;rfl
 |flt b=>obtain⟨t,e⟩:=(show ∃t,u=Value.float b t from r);cases e;rfl
 |ref a=>cases(show u=dr a from r);rfl
 |ty n=>cases(show u=e9 n from r);rfl
section
variable{H H':Hp}{dx:Addr}{fs fs':List (Str×V)}
def xY(hok:HOk P w H h)(e:H a=some (.ins C dx fs)):∃mA,ObjM h a dx C mA/\(∀f,pP (fs.lookup f) (mA f))/\PySem.Within mA (fs.map (·.1))/\fs.length<=1000/\H dx=some (.own a):=by
 obtain⟨d,z,ne,Z,mA,n,r,q⟩:=(show gR P w H h a (.ins C dx fs)from hok a _ e);exact⟨mA,⟨Z,n,ne⟩,r,q,z,d⟩
end
structure Cls(K:PySem.W.Frag)(C:Addr):Prop where
 pg:PySem.W.plainGet K C Str.empty=true
 hd:PySem.W.hasDictIn K C=true
 po:PySem.W.plainOver K C=true
 sa:PySem.W.findIn K (.ref C) "__setattr__"=some (some (.builtin "object.__setattr__"))
def Cls.get(c:Cls K C)(f:Str):PySem.W.plainGet K C f=true:=c.pg
def jK(K:PySem.W.Frag)(C:Addr)(f:Str):Prop:=PySem.W.findIn K (.ref C) f=some none
def jK.taker{f:Str}(n:jK K C f):PySem.W.takerIn K C f=some none:=by
 unfold PySem.W.takerIn;rw[show PySem.W.findIn K (.ref C) f=some none from n];rfl
structure Con(K:PySem.W.Frag)(C:Addr)(f:Str)(v:V)(u:Value):Prop where
 at_:PySem.W.findIn K (.ref C) f=some (some u)
 rel:RelV v u
 get:PySem.W.specialIn K u "__get__"=some none
 cp:PySem.W.copiedNames.contains f=false
structure Meth(K:PySem.W.Frag)(C:Addr)(m:Str)(f:Addr):Prop where
 at_:PySem.W.findIn K (.ref C) m=some (some (.ref f))
 fn:PySem.W.isFn K (.ref f)=true
 kp:PySem.W.keepIn K (.ref f)=true
section
variable{X:Cx}{σ:St}{H:Hp}{dx:Addr}{fs:List (Str×V)}{f:Str}{v:V}
def Ht(I:Inv X pins σ H s)(e:H a=some (.ins C dx fs))(c:Cls X.K C)(n:jK X.K C f)(l:fs.lookup f=some v)
 (h:∀u s',Inv X pins σ H s'->RelV v u->Q u s'):wpAny (model X.prog X.w) A (getAttr (.ref a) f b) Q E s:=by
 obtain⟨mA,O,r,_,_,_⟩:=xY I.hok e;obtain⟨u,Y,Z⟩:=pP.some_of (v:=v) (o:=mA f) (by rw[<-l];exact r f);exact get_map I.kIn O (c.get f) c.hd n Y (Aq Z) (h u _ (I.tok _) Z)
def tZ{g:Addr}{Q:Value×List Value->dk->Prop}(I:Inv X pins σ H s)(e:H a=some (.ins C dx fs))(c:Cls X.K C)(k:Meth X.K C m g)(l:fs.lookup m=none)
 (h:Q (.ref g,[.ref a]) s):wpAny (model X.prog X.w) A (getMethod (.ref a) m pl) Q E s:=by
 obtain⟨mA,O,r,_,_,_⟩:=xY I.hok e;have hn:mA m=none:=pP.none_of (by rw[<-l];exact r m);exact Ny I.kIn O (c.get m) k.at_ k.fn hn h
def Hu{y:V}{Q:Unit->dk->Prop}(I:Inv X pins σ H s)(e:H a=some (.ins C dx fs))(c:Cls X.K C)(n:jK X.K C f)(hl:fs.length<1000)(U:RelV y u)
 (h:∀s',Inv X pins σ (upd H a (.ins C dx (qQ f y fs))) s'->Q () s'):wpAny (model X.prog X.w) A (setAttr (.ref a) f u) Q E s:=by
 obtain⟨mA,O,r,wi,_,Y⟩:=xY I.hok e;have T:(fs.map (·.1)).length<=sizeLine:=by rw[aG,sizeLine_eq];lia
 refine Tc I.kIn O c.sa c.po n.taker c.hd wi T λh' Z W=>h _ ?_
 have hd:∃o,h'.get? dx=some o:=let⟨o,_,_,R,_⟩:=Z.ns;⟨o,R⟩;refine I.write (x:=a) (e:=dx) (by rw[e];exact eh) (.inr Y) (λb q hb z=>(W.2 b hb).trans z) hd ?_;refine⟨by rw[bA O.ne];exact Y,?_,O.ne,Z.obj,_,Z.ns,λg=>?_,λg S=>?_⟩
 .have:=wX f y fs;lia
 .show pP ((qQ f y fs).lookup g) (if g=f then some u else mA g);rw[wW];by_cases q:g=f
  .rw[if_pos q,if_pos q];exact U
  .rw[if_neg q,if_neg q];exact r g
 .by_cases q:g=f
  .rw[q];exact(v5 f y fs).1
  .refine(v5 f y fs).2 g (wi g λz=>S ?_);show(if g=f then some u else mA g)=none;rw[if_neg q];exact z
def Inv.made(I:Inv X pins σ H s):Inv X pins σ (upd (upd H s.heap.objs.size (.own (s.heap.objs.size+1))) (s.heap.objs.size+1) (.ins C s.heap.objs.size []))
 {s with heap:=(s.heap.push PySem.W.emptyDict).push (PySem.W.instObj C s.heap.objs.size)}:=by
 have Z:(s.heap.push PySem.W.emptyDict).get? s.heap.objs.size=some PySem.W.emptyDict:=ai s.heap rfl;have T:((s.heap.push PySem.W.emptyDict).push (PySem.W.instObj C s.heap.objs.size)).get? (s.heap.objs.size+1)=some (PySem.W.instObj C s.heap.objs.size):=by
  have:=ai (s.heap.push PySem.W.emptyDict) (o:=PySem.W.instObj C s.heap.objs.size) rfl;rwa[cE]at this
 have U:(s.heap.push PySem.W.emptyDict).Ns s.heap.objs.size (λ_=>none):=⟨PySem.W.emptyDict,#[],_,Z,rfl,(λe V=>absurd V (by simp)),λ_=>rfl⟩;have S:=I.laid (a:=s.heap.objs.size) (o:=.own (s.heap.objs.size+1)) (h':=s.heap.push PySem.W.emptyDict) (t':=s.toks) (λb u q=>ae _ q) (aV _) ⟨_,Z⟩;refine S.laid (a:=s.heap.objs.size+1) (o:=.ins C s.heap.objs.size []) (t':=s.toks) (λb u q=>ae _ q) (uK (cE _ _)) ?_;have ne:s.heap.objs.size≠s.heap.objs.size+1:=bF (gG _);refine⟨by rw[bA ne,bM],g_ _,ne,T,λ_=>none,(da U).at λo q=>ae _ q,λ_=>eh,λy Y=>absurd rfl Y⟩
def JF{prog:dt}(hb:attributeBase e f env (eval e env)=eval e env)
 (h:wpAny (model prog w) A (eval e env) (λo q=>wpAny (model prog w) A (getAttr o f true) Q E q) E s):wpAny (model prog w) A (eval (.Attribute e f pos) env) Q E s:=
 Attribute_any_ h (by rw[arm_eval_Attribute,hb])
end
def ao3(K:PySem.W.Frag)(ta:TE)(f:Str):TE:=λσ H Q=>ta σ H λx H1=>∃a C dx fs v,x = .ref a/\H1 a=some (.ins C dx fs)/\Cls K C/\jK K C f/\fs.lookup f=some v/\Q v H1
def ao4(K:PySem.W.Frag)(ta tv:TE)(f:Str):TS:=λD σ H=>tv σ H λy H1=>ta σ H1 λx H2=>∃a C dx fs,x = .ref a/\H2 a=some (.ins C dx fs)/\Cls K C/\jK K C f/\fs.length<1000 /\
 D.nx σ (upd H2 a (.ins C dx (qQ f y fs)))
section
variable{X:Cx}{o value:Expr}{f:Str}{ta tv:TE}
def Bu(O:PE X e ta)(hb:attributeBase e f X.env (eval e X.env)=eval e X.env):PE X (.Attribute e f pos) (ao3 X.K ta f):=by
 intro pins s σ H Q I h;refine JF hb (thn (O pins s σ H _ I h) λu s1 ⟨x,H1,V,Z,a,C,dx,fs,v,ex,ea,c,n,l,q⟩=>?_);subst ex;obtain rfl:u=dr a:=Z;exact Ht V ea c n l λU s2 W Y=>⟨v,H1,W,Y,q⟩
def X3(ha:PE X o ta)(O:PE X value tv)(U:swapsWith value (some (.Attribute o f pos')) pos.line X.env=pure false):PS X (.Assign [.Attribute o f pos'] value pos) (ao4 X.K ta tv f):=by
 intro pins s σ H D I h;refine cy (thn (O pins s σ H _ I h) λu s1 ⟨y,H1,S,Z,q⟩=>thn (ha pins s1 σ H1 _ S q) λW s2 ⟨x,H2,T,Y,a,C,dx,fs,ex,ea,c,n,l,q2⟩=>?_) U;subst ex;obtain rfl:W=dr a:=Y;exact Hu T ea c n l Z λR V=>⟨σ,_,V,q2⟩
end
section
variable{X:Cx}{σ:St}{H:Hp}{c:Value}
inductive TyOf(K:PySem.W.Frag)(H:Hp):V->Value->Prop where
 |non:TyOf K H .non (.type "NoneType")
 |bl (x:Bool):TyOf K H (.bl x) (.type "bool")
 |int (i:Int):TyOf K H (.int i) (.type "int")
 |str (x:Str):TyOf K H (.str x) (.type "str")
 |flt (x:UInt64):TyOf K H (.flt x) (.type "float")
 |lst {a:Addr} {xs:List V} (e:H a=some (.lst xs)):TyOf K H (.ref a) (.type "list")
 |frz {a:Addr} {o:Obj} {xs:List V} (e:H a=some (.frz o (.lst xs))):TyOf K H (.ref a) (.type "list")
 |tup {a:Addr} {xs:List V} (e:H a=some (.tup xs)):TyOf K H (.ref a) (.type "tuple")
 |dK {a:Addr} {kvs:List (Key×V)} (e:H a=some (.dK kvs)):TyOf K H (.ref a) (.type "dict")
 |dT {a:Addr} {kvs:List (List Key×V)} (e:H a=some (.dT kvs)):TyOf K H (.ref a) (.type "dict")
 |ins {a C dx:Addr} {fs:List (Str×V)} (e:H a=some (.ins C dx fs)) (cl:Cls K C) (ha:PySem.W.findIn K (.ref C) "__class__"=some (some (.builtin "object.__class__")))
  (hn:PySem.W.specialIn K (.builtin "object.__class__") "__get__"=some (some (.builtin "getset_descriptor.__get__"))) (htk:PySem.W.takesIn K (.builtin "object.__class__")=some true)
  (hm:PySem.W.mroIn K C (.type "object")=some true):TyOf K H (.ref a) (.ref C)
theorem Ar (I:Inv X pins σ H s) (U:RelV d f) (ty:TyOf X.K H d t) (e:PySem.W.kitOne X.K t c=some b) (h:∀tk,Q (.bool b) {s with toks:=tk}) :
 wpAny (model X.prog X.w) A (call (.builtin "isinstance") [f,c]) Q E s:=by
 cases ty with
 |non=>cases(show f=dL from U);exact PySem.W.kia_one PySem.W.kitx_none I.kIn eh e (λz=>nomatch z) h
 |bl y=>cases(show f=ef y from U);exact PySem.W.kia_one PySem.W.kitx_bool I.kIn eh e (λz=>nomatch z) h
 |int i=>obtain⟨t,q⟩:=(show ∃t,f=ez i t from U);cases q;exact PySem.W.kia_one PySem.W.kitx_int I.kIn eh e (λz=>nomatch z) h
 |str y=>obtain⟨t,q⟩:=(show ∃t,f=eQ y t from U);cases q;exact PySem.W.kia_one PySem.W.kitx_str I.kIn eh e (λz=>nomatch z) h
 |flt y=>obtain⟨t,q⟩:=(show ∃t,f=Value.float y t from U);cases q;exact PySem.W.kia_one PySem.W.kitx_float I.kIn eh e (λz=>nomatch z) h
 | @lst a xs ea=>
  cases(show f=dr a from U);obtain⟨_,_,n,_,h1⟩:=(show gR X.prog X.w H s.heap a (.lst xs)from I.hok a _ ea);exact PySem.W.kia_one PySem.W.kitx_list I.kIn ⟨_,h1,rfl⟩ e (λz=>nomatch z) h
 | @frz a Z xs ea=>
  cases(show f=dr a from U);obtain⟨_,_,_,n,_,h1⟩:=(show gR X.prog X.w H s.heap a (.frz Z (.lst xs))from I.hok a _ ea);exact PySem.W.kia_one PySem.W.kitx_list I.kIn ⟨_,h1,rfl⟩ e (λz=>nomatch z) h
 | @tup a xs ea=>
  cases(show f=dr a from U);obtain⟨_,_,_,p⟩:=(show gR X.prog X.w H s.heap a (.tup xs)from I.hok a _ ea);obtain⟨o,h1,h2,_⟩:=p;exact PySem.W.kia_one PySem.W.kitx_tuple I.kIn ⟨o,h1,h2⟩ e (λz=>nomatch z) h
 | @dK a kvs ea=>
  cases(show f=dr a from U);obtain⟨_,_,vs,_,p⟩:=(show gR X.prog X.w H s.heap a (.dK kvs)from I.hok a _ ea);obtain⟨o,es,Y,h1,h2,_⟩:=p;exact PySem.W.kia_one PySem.W.kitx_dict I.kIn ⟨o,h1,h2.1⟩ e (λz=>nomatch z) h
 | @dT a kvs ea=>
  cases(show f=dr a from U);obtain⟨_,_,xs,_,o,es,Y,h1,h2,_⟩:=(show gR X.prog X.w H s.heap a (.dT kvs)from I.hok a _ ea);exact PySem.W.kia_one PySem.W.kitx_dict I.kIn ⟨o,h1,h2.1⟩ e (λz=>nomatch z) h
 | @ins a C dx fs ea cl ha hn htk hm=>
  cases(show f=dr a from U);obtain⟨mA,O,_⟩:=xY I.hok ea;obtain⟨od,J,_⟩:=O.look;exact PySem.W.kia_one (PySem.W.kitx_own (cl.get _) cl.hd ha hn htk hm) I.kIn J e (λz=>nomatch z) h
end
end L2
variable{j:Nat}{mg:Str->Option Value}{base:ec}{fd:d4}{vs:List L2.V}{cd pm ct oc:Value}{an od:Option Addr}
namespace L2
structure Room(k:Nat)(A:dy):Prop where
 hd:A.handled=none
 dp:A.depth+3*k+5<recursionLimit
 un:A.units+16*k+200<cLine
def Room.mono (r:Room k A) (h:j<=k):Room j A:=⟨r.hd,by have:=r.dp;lia,by have:=r.un;lia⟩
def Room.deeper (r:Room (k+1) A) (env:Env):Room k (A.deeper env):=
 ⟨r.hd,by have:=r.dp;show A.depth+1+3*k+5<_;lia,by have:=r.un;show A.units+3+16*k+200<_;lia⟩
def Hv:(A.under (.builtin "type.__call__" ⟨.ref C::us,kw⟩)).depth=A.depth+1:=by
 first|rfl|simp[Around.under,Code.weight,Code.isCreation,Code.isGuard,Code.isCaller,Code.frames,Code.isFrame,guardIds]
def Hw:(A.under (.builtin "type.__call__" ⟨.ref C::us,kw⟩)).units=A.units+1:=by
 first|rfl|simp[Around.under,Code.cUnits,Code.frames,Code.isFrame]
def Room.make{k:Nat}(r:Room (k+1) A)(C:Addr)(us:List Value)(kw:List (Str×Value)):Room k (A.under (.builtin "type.__call__" ⟨.ref C::us,kw⟩)):=
 ⟨r.hd,by have:=r.dp;rw[Hv];lia,by have:=r.un;rw[Hw];lia⟩
def Room.depth (r:Room k A):A.depth<recursionLimit:=by have:=r.dp;lia
def Room.units (r:Room k A):A.units+64<cLine:=by have:=r.un;lia
def Te:TA:=λ_ H Q=>Q [] H
def NK(ta:TE)(q:TA):TA:=λσ H Q=>ta σ H λx H1=>q σ H1 λxs H2=>Q (x::xs) H2
section
variable{X:Cx}{te:TE}{t:TA}
def iU:PA X [] Te:=λ_ _ _ _ H Q I h=>bu ⟨[],H,I,.nil,h⟩
def d8(ha:PE X e te)(O:PA X es t)(q:starEach (e::es) X.env=(false,eval e X.env)::starEach es X.env:=by rfl):PA X (e::es) (NK te t):=by
 intro pos pins s σ H Q I h;rw[q];refine bn (thn (ha pins s σ H _ I h) λu s1 ⟨x,H1,Y,r1,q1⟩=>?_);exact thn (O pos pins s1 σ H1 _ Y q1) λus s2 ⟨xs,H2,Z,r2,q2⟩=>⟨x::xs,H2,Z,.cons r1 r2,q2⟩
def ao5(t:TA):TE:=λσ H Q=>t σ H λxs H1=>xs.length<=sizeLine/\∀p,H1 p=none->Q (.ref p) (upd H1 p (.tup xs))
def ao6(t:TA):TE:=λσ H Q=>t σ H λxs H1=>xs.length<=sizeLine/\∀p,H1 p=none->Q (.ref p) (upd H1 p (.lst xs))
def NP{x1}(h:PA X es t):PE X (.Tuple es x1 pos) (ao5 t):=by
 intro pins s σ H Q I Y;refine wpAny_Tuple_spliced (thn (h pos pins s σ H _ I Y) λus s1 ⟨xs,H1,Z,r,z,q⟩=>⟨by rwa[<-r.length],?_⟩);have W:=Z.hok.fresh (aV _);refine⟨.ref s1.heap.objs.size,upd H1 s1.heap.objs.size (.tup xs),Z.laid (t':=s1.toks) (λb u e=>ae _ e) (aV _) ?_,rfl,q _ W⟩;exact⟨z,us,r,⟨_,ai _ rfl,rfl,_,rfl⟩⟩
def Bv(h:PA X es t):PE X (.List es pos) (ao6 t):=by
 intro pins s σ H Q I Y;refine wpAny_List_spliced (thn (h pos pins s σ H _ I Y) λus s1 ⟨xs,H1,Z,r,z,q⟩=>⟨by rwa[<-r.length],?_⟩);have W:=Z.hok.fresh (aV _);refine⟨.ref s1.heap.objs.size,upd H1 s1.heap.objs.size (.lst xs),Z.laid (t':=s1.toks) (λb u e=>ae _ e) (aV _) ?_,rfl,q _ W⟩;exact⟨z,us,0,r,ai _ rfl⟩
end
abbrev Sp:=List V->Hp->VK->XK->Prop
abbrev CXT:=List Env->Hp->dk->XK->Value->dk->Prop
structure Env0(P:dt)(w:dE)(K:PySem.W.Frag)(mg:Str->Option Value)(base:ec)(A:dy)(outer:List Env)(s:dk)(H:Hp):Prop where
 frames:A.frames=some outer
 mod:Mod K mg base
 bs:∀b o,base.get? b=some o->s.heap.get? b=some o/\H b=none
 bsz:base.objs.size<=s.heap.objs.size
 funs:s.heap.FunFrames base outer
 frf:∀b∈frs outer,H b=none
 hok:HOk P w H s.heap
 bare:eW s.gens
def CE(outer:List Env)(P:dt)(w:dE)(H:Hp)(s:dk)(Q:VK)(u:Value)(s':dk):Prop:=
 ∃v H',s'.os=s.os/\eW s'.gens/\Un (frs outer) [] H H' s.heap s'.heap/\HOk P w H' s'.heap/\RelV v u/\Q v H'
def CR(CX:CXT)(outer:List Env)(P:dt)(w:dE)(H:Hp)(s:dk)(Q:VK)(E:XK)(r:Result)(s':dk):Prop:=
 match r with
 | .ok (.ret u)=>CE outer P w H s Q u s'
 | .ok _=>False
 | .error e=>CX outer H s E e s'
structure FnOk(P:dt)(w:dE)(K:PySem.W.Frag)(mg:Str->Option Value)(base:ec)(CX:CXT)(k:Nat)(f:Addr)(fd:d4)(ps:List Str)(sp:Sp):Prop where
 len:∀vs H Q E,sp vs H Q E->vs.length=ps.length
 run:∀(A:dy)(outer:List Env)(s:dk)(H:Hp)(args:Args)(us:List Value)(vs:List V)(Q:VK)(E:XK),Room k A->Env0 P w K mg base A outer s H->BindsTo s fd args (ps.zip us)->Vals vs us->sp vs H Q E ->
  codeAny (model P w) A (.call (.ref f) args) (CR CX outer P w H s Q E) s
def FnOk.mono{CX:CXT}{k:Nat}{f:Addr}{sp:Sp}(F:FnOk P w K mg base CX j f fd ps sp)(h:j<=k):
 FnOk P w K mg base CX k f fd ps sp:=⟨F.len,λA outer s H args us vs Q E Z=>F.run A outer s H args us vs Q E (Z.mono h)⟩
def FnOk.imp{CX:CXT}{k:Nat}{f:Addr}{sp O:Sp}(F:FnOk P w K mg base CX k f fd ps sp)
 (h:∀vs H Q E,O vs H Q E->sp vs H Q E):FnOk P w K mg base CX k f fd ps O:=
 ⟨λvs H Q E q=>F.len vs H Q E (h _ _ _ _ q),λA outer s H args us vs Q E X W hb Z Y=>F.run A outer s H args us vs Q E X W hb Z (h _ _ _ _ Y)⟩
def Env0.make{outer:List Env}(e:Env0 P w K mg base A outer s H)(C:Addr)(us:List Value)(kw:List (Str×Value)):
 Env0 P w K mg base (A.under (.builtin "type.__call__" ⟨.ref C::us,kw⟩)) outer s H:=⟨by first|exact e.frames|(simpa[Around.under,Code.envs,Code.isFrame,pushEnvs]using e.frames),e.mod,e.bs,e.bsz,e.funs,e.frf,e.hok,e.bare⟩
section
variable{X:Cx}{σ:St}{H:Hp}
def Inv.env0(I:Inv X pins σ H s):Env0 X.prog X.w X.K X.mg X.base X.A X.stack s H:=
 ⟨I.ok.frames,I.ok.mod,I.bs,bf I.ok.bsz I.sz,I.stack,I.stkFree,I.hok,I.bare⟩
def Inv.after (I:Inv X pins σ H s) (h:CE X.stack X.prog X.w H s c f s'):EP X pins σ c f s':=by
 obtain⟨v,H',os,bare,un,hok,r,q⟩:=h;obtain⟨hh,g,d,t,Z⟩:=s';obtain rfl:Z=s.os:=os;exact⟨v,H',I.call (h':=hh) (g':=g) (d':=d) (t':=t) (ch:=[]) un hok bare (λb z=>absurd z (by simp)),r,q⟩
end
def Wy(sp:Sp)(dvs:List V)(E:XK)(t:TA):TE:=λσ H Q=>t σ H λvs H1=>sp (vs++dvs) H1 Q E
def Wz(C:Addr)(m:Str)(sp:Sp)(dvs:List V)(E:XK)(ta:TE)(t:TA):TE:=λσ H Q=>ta σ H λx H1=>∃a dx fs,x = .ref a/\H1 a=some (.ins C dx fs)/\fs.lookup m=none /\
 t σ H1 λvs H2=>sp (x::(vs++dvs)) H2 Q E
def ab9(C:Addr)(sp:Sp)(dvs:List V)(E:XK)(t:TA):TE:=λσ H Q=>t σ H λvs H1=>∀x dx,H1 x=none->H1 dx=none->dx≠x ->
 sp (.ref x::(vs++dvs)) (upd (upd H1 dx (.own x)) x (.ins C dx [])) (λv H2=>v = .non/\Q (.ref x) H2) E
def Binds(K:PySem.W.Frag)(fd:d4)(ps:List Str)(ds:List Value):Prop:=
 ∀(s:dk)(us:List Value),K.In s.heap->(us++ds).length=ps.length->BindsTo s fd ⟨us,[]⟩ (ps.zip (us++ds))
def Binds.all(h:∀us:List Value,us.length=ps.length->bindArgs fd ⟨us,[]⟩=pure (ps.zip us)):Binds K fd ps []:=λs us _ Z=>by
 rw[cZ]at Z ⊢;exact .of_eq (h us Z)
def Passes(CX:CXT)(X:Cx)(E:XK):Prop:=∀(pins:List (Addr×Obj))(σ:St)(H:Hp)(s:dk)(e:Value)(s':dk),Inv X pins σ H s->CX X.stack H s E e s'->X.xe e s'
section
variable{X:Cx}{CX:CXT}{k:Nat}{f:Addr}{sp:Sp}{ds:List Value}{E:XK}{o:Expr}{ta:TE}{t:TA}
theorem Hx (F:FnOk X.prog X.w X.K X.mg X.base CX k f fd ps sp) (q:Room k X.A) (hb:Binds X.K fd ps ds) (hd:Vals dvs ds) (hx:Passes CX X E)
 (I:Inv X pins σ H s) (r:Vals vs us) (h:sp (vs++dvs) H c E):wpAny (model X.prog X.w) X.A (call (.ref f) us) (EP X pins σ c) X.xe s:=by
 have r2:=r.append hd;have Y:(us++ds).length=ps.length:=by rw[<-r2.length];exact F.len _ _ _ _ h
 refine cb (b8 (F.run X.A X.stack s H ⟨us,[]⟩ (us++ds) (vs++dvs) c E q I.env0 (hb s us I.kIn Y) r2 h) λr s' Z=>?_)
 cases r with
 |error e=>exact hx pins σ H s e s' I Z
 |ok fl=>
  cases fl with
  |ret u=>exact I.after Z
  |next=>exact er Z
  |brk=>exact er Z
  |cont=>exact er Z
def Tf(F:FnOk X.prog X.w X.K X.mg X.base CX k f fd ps sp)(Y:Room k X.A)(hg:Gl X x)(hm:X.mg x=some (.ref f))(hk:PySem.W.keepIn X.K (.ref f)=true)(hb:Binds X.K fd ps ds)(hd:Vals dvs ds)(hx:Passes CX X E)
 (ha:PA X (e::es) t) (U:(x==("__debug__":Str))=false:=by decide) (he:starEach (e::es) X.env=(false,eval e X.env)::starEach es X.env:=by rfl) (O:(backTo pos (starEach es X.env)).any (·.1)=false:=by rfl) :
 PE X (.Call (.Name x p) (e::es) [] pos) (Wy sp dvs E t):=by
 intro pins s σ H Q I h;refine ax (uP I hg hm ?_ U);refine PySem.W.callWith_K (h₀:=X.base) I.ok.mod.kin hk (thn (ha pos pins s σ H _ I h) λus s1 ⟨vs,H1,Z,r,q⟩=>⟨Z.kIn,?_⟩) he O;exact Hx F Y hb hd hx Z r q
def JG(he:PE X o ta)(c:Cls X.K C)(hm:Meth X.K C m f)(F:FnOk X.prog X.w X.K X.mg X.base CX k f fd ps sp)(hr:Room k X.A)(hb:Binds X.K fd ps ds)(hd:Vals dvs ds)(hx:Passes CX X E)(ha:PA X (e::es) t)
 (O:starEach (e::es) X.env=(false,eval e X.env)::starEach es X.env:=by rfl) (U:(backTo pos (starEach es X.env)).any (·.1)=false:=by rfl)
 (ht:eval (.Call (.Attribute o m apos) (e::es) [] pos) X.env=(do
  let Y <-eval o X.env
  standAt apos.atName
  let(f,fi) <-holding [Y] (getMethod Y m pl)
  callWith pos f fi (backTo pos (starEach (e::es) X.env)) (backToKw pos (keywordEach [] X.env))):=by rfl) :
 PE X (.Call (.Attribute o m apos) (e::es) [] pos) (Wz C m sp dvs E ta t):=by
 intro pins s σ H Q I h;refine PySem.W.methodCall_KW (pl:=pl) (thn (he pins s σ H _ I h) λu s1 ⟨x,H1,V,T,a,dx,fs,ex,ea,l,q⟩=>?_) ht;subst ex;obtain rfl:u=dr a:=T;refine tZ V ea c hm l ?_;refine PySem.W.callWith_K (first:=[.ref a]) (h₀:=X.base) I.ok.mod.kin hm.kp (thn (ha pos pins s1 σ H1 _ V q) λus s2 ⟨vs,H2,Z,r,q2⟩=>⟨Z.kIn,?_⟩) O U;exact Hx (us:=.ref a::us) (vs:=.ref a::vs) F hr hb hd hx Z (.cons rfl r) q2
def NQ(he:PE X o ta)(c:Cls X.K C)(hm:Meth X.K C m f)(F:FnOk X.prog X.w X.K X.mg X.base CX k f fd ps sp)(hr:Room k X.A)(hb:Binds X.K fd ps ds)(hd:Vals dvs ds)(hx:Passes CX X E)
 (U:eval (.Call (.Attribute o m apos) [] [] pos) X.env=(do
  let O <-eval o X.env
  standAt apos.atName
  let(f,fi) <-holding [O] (getMethod O m pl)
  callWith pos f fi (backTo pos (starEach [] X.env)) (backToKw pos (keywordEach [] X.env))):=by rfl) :
 PE X (.Call (.Attribute o m apos) [] [] pos) (Wz C m sp dvs E ta Te):=by
 intro pins s σ H Q I h;refine PySem.W.methodCall_KW (pl:=pl) (thn (he pins s σ H _ I h) λu s1 ⟨x,H1,Z,Y,a,dx,fs,ex,ea,l,q⟩=>?_) U;subst ex;obtain rfl:u=dr a:=Y;refine tZ Z ea c hm l ?_;exact PySem.W.callWith_K0 (first:=[.ref a]) Z.kIn hm.kp (Hx (us:=[.ref a]) (vs:=[.ref a]) F hr hb hd hx Z (.cons rfl .nil) q)
structure Mk(K:PySem.W.Frag)(C f:Addr):Prop where
 makes:PySem.W.makesIn K C=true
 init:PySem.W.findIn K (.ref C) "__init__"=some (some (.ref f))
 fn:PySem.W.isFn K (.ref f)=true
 kp:PySem.W.keepIn K (.ref C)=true
theorem NT{σ:St}{Q:VK}(M:Mk X.K C f)(F:FnOk X.prog X.w X.K X.mg X.base CX k f fd ps sp)(q:Room (k+1) X.A)(hb:Binds X.K fd ps ds)(hd:Vals dvs ds)
 (hx:Passes CX X E) (I:Inv X pins σ H s) (r:Vals vs us)
 (h:∀x dx,H x=none->H dx=none->dx≠x->sp (.ref x::(vs++dvs)) (upd (upd H dx (.own x)) x (.ins C dx [])) (λv H2=>v = .non/\Q (.ref x) H2) E) :
 wpAny (model X.prog X.w) X.A (call (.ref C) us) (EP X pins σ Q) X.xe s:=by
 have W:=h (s.heap.objs.size+1) s.heap.objs.size (I.hok.fresh (qY _)) (I.hok.fresh (aV _)) (bF (gG _));have Y:=Inv.made (C:=C) I;have r2:Vals (V.ref (s.heap.objs.size+1)::(vs++dvs)) (dr (s.heap.objs.size+1)::(us++ds)):=.cons rfl (r.append hd);have T:(dr (s.heap.objs.size+1)::us++ds).length=ps.length:=by
  have e:=r2.length;rw[F.len _ _ _ _ W]at e;exact e.symm
 refine cb (Nz (f:=f) I.kIn M.makes M.init (beq_iff_eq.mp M.fn) (b8 (F.run _ X.stack _ _ ⟨dr (s.heap.objs.size+1)::us,[]⟩ (dr (s.heap.objs.size+1)::(us++ds)) _ _ E (q.make C us [])
  (Y.env0.make C us []) (hb _ (dr (s.heap.objs.size+1)::us) Y.kIn T) r2 W) λr s' Z=>?_))
 cases r with
 |error e=>exact hx pins σ _ _ e s' Y Z
 |ok fl=>
  cases fl with
  |ret u=>
   obtain⟨v,H',R,U,S,q3⟩:=Y.after Z;subst S;exact⟨U,⟨V.ref (s.heap.objs.size+1),H',R,rfl,q3⟩⟩
  |next=>exact er Z
  |brk=>exact er Z
  |cont=>exact er Z
def Tg(M:Mk X.K C f)(F:FnOk X.prog X.w X.K X.mg X.base CX k f fd ps sp)(Y:Room (k+1) X.A)(hg:Gl X x)(hm:X.mg x=some (.ref C))(hb:Binds X.K fd ps ds)(hd:Vals dvs ds)(hx:Passes CX X E)
 (ha:PA X (e::es) t) (U:(x==("__debug__":Str))=false:=by decide) (he:starEach (e::es) X.env=(false,eval e X.env)::starEach es X.env:=by rfl) (O:(backTo pos (starEach es X.env)).any (·.1)=false:=by rfl) :
 PE X (.Call (.Name x p) (e::es) [] pos) (ab9 C sp dvs E t):=by
 intro pins s σ H Q I h;refine ax (uP I hg hm ?_ U);refine PySem.W.callWith_K (h₀:=X.base) I.ok.mod.kin M.kp (thn (ha pos pins s σ H _ I h) λus s1 ⟨vs,H1,Z,r,q⟩=>⟨Z.kIn,?_⟩) he O;exact NT M F Y hb hd hx Z r q
end
def PK(X:Cx)(kws:List eI)(t:TA):Prop:=
 ∀(pos:Pos)(pins:List (Addr×Obj))(s:dk)(σ:St)(H:Hp)(Q:List V->Hp->Prop),Inv X pins σ H s->t σ H Q->wpAny (model X.prog X.w) X.A (evalAll ((backToKw pos (keywordEach kws X.env)).map (·.2))) (AP X pins σ Q) X.xe s
section
variable{X:Cx}{CX:CXT}{k:Nat}{f:Addr}{sp:Sp}{E:XK}{kpos:Pos}{o:Expr}{kws:List eI}{te ta:TE}{t tk:TA}{nm:Option Str}
def X4:PK X [] Te:=λ_ _ _ _ H Q I h=>wpAny_evalAll_nil ⟨[],H,I,.nil,h⟩
def Ti(ha:PE X e te)(q:PK X kws t):PK X (⟨nm,e,kpos⟩::kws) (NK te t):=by
 intro pos pins s σ H Q I h;show wpAny _ _ (evalAll ((do let v <-eval e X.env;standAt pos;pure v)::(backToKw pos (keywordEach kws X.env)).map (·.2))) _ _ s;refine wpAny_evalAll_cons (aa (thn (ha pins s σ H _ I h) λu s1 ⟨x,H1,Y,r1,q1⟩=>aa (cm (ag ?_))));exact thn (q pos pins s1 σ H1 _ Y q1) λus s2 ⟨xs,H2,Z,r2,q2⟩=>⟨x::xs,H2,Z,.cons r1 r2,q2⟩
structure KBinds(K:PySem.W.Frag)(fd:d4)(ps ks:List Str)(g:List Value->List Value->List Value)(gV:List V->List V->List V):Prop where
 to:∀(s:dk)(us ws:List Value),K.In s.heap->(g us ws).length=ps.length->BindsTo s fd ⟨us,ks.zip ws⟩ (ps.zip (g us ws))
 rel:∀{vs:List V}{us:List Value}{zs:List V}{ws:List Value},Vals vs us->Vals zs ws->Vals (gV vs zs) (g us ws)
variable{g:List Value->List Value->List Value}{gV:List V->List V->List V}
end
structure FnScope(N P:List Str)(sc:eH):Prop where
 kind:sc.kind = .function
 co:sc.isCoroutine=false
 gen:sc.isGenerator=false
 nd:N.Nodup
 pre:N.take P.length=P
 par:∀x∈P,sc.names.lookup x=some .local\/sc.names.lookup x=some .cell
 nofree:∀y∈sc.names,y.2 ≠ .free
theorem Av{kindOf:Str->Option NameKind}:∀{binds:List (Str×Value)}{m:Str->Option Value},(∀v,(x,v)∉binds)->bindL kindOf binds m x=m x
 |[],_,_=>rfl
 | (n,v)::r,m,h=>by
  unfold bindL;rw[Av λw hw=>h w (aH _ hw)];split
  .have:x≠n:=by rintro rfl;exact h v aJ
   simp[this]
  .rfl
theorem Aw{kindOf:Str->Option NameKind}:∀{binds:List (Str×Value)}{m:Str->Option Value},(∀v,(x,v)∉binds)->bindC kindOf binds m x=m x
 |[],_,_=>rfl
 | (n,v)::r,m,h=>by
  unfold bindC;rw[Aw λw hw=>h w (aH _ hw)];split
  .rfl
  .have:x≠n:=by rintro rfl;exact h v aJ
   simp[this]
theorem sE{kindOf:Str->Option NameKind} : ∀{P:List Str}{vs:List Value}{i:Nat}{m:Str->Option Value},P.Nodup->P[i]? = some x->vs[i]? = some c->kindOf x=some .local ->
 bindL kindOf (P.zip vs) m x=some c
 |[],_,_,_,_,h,_,_=>by simp at h
 |_::_,[],_,_,_,_,h,_=>by simp at h
 |p::P,w::vs,0,m,nd,h1,h2,Z=>by
  simp at h1 h2;subst h1;subst h2;show bindL kindOf ((p,w)::P.zip vs) m p=_;unfold bindL;rw[Av λv Y=>(cF.mp nd).1 (mq Y).1,if_pos Z];simp
 |p::P,w::vs,i+1,m,nd,h1,h2,Z=>by
  show bindL kindOf ((p,w)::P.zip vs) m x=_;unfold bindL;exact sE (i:=i) (cF.mp nd).2 (by simpa using h1) (by simpa using h2) Z
theorem Ax{kindOf:Str->Option NameKind} : ∀{P:List Str}{vs:List Value}{i:Nat}{m:Str->Option Value},P.Nodup->P[i]? = some x->vs[i]? = some c->kindOf x≠some .local ->
 bindC kindOf (P.zip vs) m x=some c
 |[],_,_,_,_,h,_,_=>by simp at h
 |_::_,[],_,_,_,_,h,_=>by simp at h
 |p::P,w::vs,0,m,nd,h1,h2,Z=>by
  simp at h1 h2;subst h1;subst h2;show bindC kindOf ((p,w)::P.zip vs) m p=_;unfold bindC;rw[Aw λv Y=>(cF.mp nd).1 (mq Y).1,if_neg Z];simp
 |p::P,w::vs,i+1,m,nd,h1,h2,Z=>by
  show bindC kindOf ((p,w)::P.zip vs) m x=_;unfold bindC;exact Ax (i:=i) (cF.mp nd).2 (by simpa using h1) (by simpa using h2) Z
def start(N:List Str)(vs:List V):St:=vs.map some++bK (N.length-vs.length) none
noncomputable def nq(CX:CXT)(P:dt)(w:dE)(K:PySem.W.Frag)(mg:Str->Option Value)(base:ec)(N:List Str)(qual:Str)(scope:eH)(f:Addr)(cd:Value)(A:dy)(outer:List Env)(s:dk)(H:Hp)(E:XK):Cx where
 prog:=P
 w:=w
 K:=K
 mg:=mg
 base:=base
 A:=A.deeper (envOfC qual scope s.heap.objs.size f cd)
 N:=N
 s₀:=s
 H₀:=H
 env:=envOfC qual scope s.heap.objs.size f cd
 outer:=outer
 stack:=envOfC qual scope s.heap.objs.size f cd::outer
 ex:=[]
 calm:=true
 fn:=λ_=>true
 pn:=[]
 xe:=λe s'=>wpAny (model P w) (A.deeper (envOfC qual scope s.heap.objs.size f cd)) (leaving (envOfC qual scope s.heap.objs.size f cd) e) (λ_ Z=>CX outer H s E e Z) (λY Z=>CX outer H s E Y Z) s'
def Ek{sc:eH}(h:sc.names.lookup x=some .cell):∃c,(cellsFrom n sc.names []).lookup x=some c:=by
 have q:=PySem.W.cellsFrom_some sc.names n [] (.inl h);exact jN.mp q
def Ls{CX:CXT}{f:Addr}{outer:List Env}{s1:dk}{E:XK}
 (S:FnScope N ps scope) (hd:A.handled=none) (e0:Env0 P w K mg base A outer s H) (O:vs.length=ps.length) (r:Vals vs us)
 (x:InCallC s s.heap.objs.size (bindL (envOfC qual scope s.heap.objs.size f cd).kindOf (ps.zip us) λ_=>none) (cellsFrom (s.heap.objs.size+1) scope.names []) (bindC (envOfC qual scope s.heap.objs.size f cd).kindOf (ps.zip us) λ_=>none) s1) :
 Inv (nq CX P w K mg base N qual scope f cd A outer s H E) [] (start N vs) H s1:=by
 have R:ps.length<=N.length:=by have:=congrArg nQ S.pre;rw[jx]at this;lia
 obtain⟨h1,tk,rfl,U⟩:=x.done;have Z:∀b:Addr,b∉(nq CX P w K mg base N qual scope f cd A outer s H E).ex:=λb z=>absurd (show b∈([]:List Addr)from z) (by simp)
 refine⟨⟨e0.mod,S.kind,rfl,rfl,aV _,λy z c h1 h2=>?_,λy Y=>?_,λy c _ h=>?_,λ_=>hd,Around.frames_deeper e0.frames,.inr ⟨rfl,rfl⟩,λb z=>absurd z (Z b),e0.bs,e0.bsz,λb _ _=>Z b,λb z=>absurd z (Z b),e0.funs,e0.frf⟩,
  rfl,e0.bare,Un.kept U,⟨_,x.toInCall.ns,λi y v h1 h2 h3=>?_⟩,λy c h=>⟨_,x.cell y c h⟩,e0.hok.fresh (aV _),λy c h=>?_,λp W=>absurd (show p∈([]:List (Addr×Obj))from W) (by simp),e0.hok.kept U,?_⟩
 .exact name_of_addr x.apart (PySem.mem_of_lookup h1) (PySem.mem_of_lookup h2)
 .have Y:=Y;rcases Y with Y|Y
  .exact Ek Y
  .exact absurd rfl (S.nofree _ (PySem.mem_of_lookup Y))
 .exact gA (x.above y c (PySem.mem_of_lookup h))
 .have hi:i<vs.length:=by
   unfold start at h2;by_cases hi:i<vs.length
   .exact hi
   .rw[cA (by simpa using hi)]at h2;rw[cX]at h2;split at h2<;>cases h2
  have ha:vs[i]? = some v:=by
   unfold start at h2;rw[bY (by simpa using hi),aP]at h2
   cases e:vs[i]? with
   |none=>rw[e]at h2;cases h2
   |some a=>rw[e]at h2;cases h2;rfl
  obtain⟨u,V,T⟩:=r.get ha;have W:ps[i]? = some y:=by
   rwa[<-S.pre,List.getElem?_take_of_lt (by lia)]
  have X:ps.Nodup:=by rw[<-S.pre];exact S.nd.sublist (List.take_sublist _ _)
  refine⟨u,T,?_⟩;rcases S.par y (cY W)with k|k
  .exact .inl ⟨k,sE X W V k⟩
  .obtain⟨c,e⟩:=Ek (n:=s.heap.objs.size+1) k;refine .inr ⟨.inl k,c,e,?_⟩;have q:=x.cell y c e;rwa[Ax X W V (by show scope.names.lookup y≠_;rw[k];decide)]at q
 .exact e0.hok.fresh (gA (x.above y c (PySem.mem_of_lookup h)))
 .unfold start;show _=N.length;rw[bB,aG,bL];lia
theorem NZ{CX:CXT}{k:Nat}{f:Addr}{name:Str}{params:Arguments}{body:List Stmt}{scope:eH}{dV kV doc cdv:Value}
 {osl:Array (Option Value)} {sp:Sp} (lk:K.lookup f=some ⟨oc,od,.func (PySem.W.fnOf name qual params body scope dV kV doc pm an cdv ct),osl⟩) (hcd:PySem.W.codeIn K cdv qual=true) (S:FnScope N ps scope)
 (len:∀vs H Q E,sp vs H Q E->vs.length=ps.length)
 (O:∀(A:dy)(outer:List Env)(s:dk)(H:Hp)(vs:List V)(Q:VK)(E:XK),Room k (A.deeper (envOfC qual scope s.heap.objs.size f cdv))->sp vs H Q E ->
  ∃t,PSs (nq CX P w K mg base N qual scope f cdv A outer s H E) body t/\t {nx:=λ_ H'=>Q .non H',rt:=Q} (start N vs) H) :
 FnOk P w K mg base CX (k+1) f (PySem.W.fnOf name qual params body scope dV kV doc pm an cdv ct) ps sp:=by
 refine⟨len,λA outer s H args us vs Q E L T hb r X=>?_⟩;have B:=len _ _ _ _ X;have G:K.In s.heap:=T.mod.kin.keeps λb o e=>(T.bs b o e).1
 have M:s.heap.NoLimit:=T.mod.nolimit.keeps λb o e=>(T.bs b o e).1
 have Z:∀y∈ps.zip us,scope.names.lookup y.1=some .local\/(scope.names.lookup y.1=some .cell/\((cellsFrom (s.heap.objs.size+1) scope.names []).lookup y.1).isSome=true):=λ⟨n,v⟩ F=>by
  rcases S.par n (mq F).1 with q|q
  .exact .inl q
  .exact .inr ⟨q,PySem.W.cellsFrom_some _ _ _ (.inl q)⟩
 refine codeAny_call_function L.depth (G _ _ lk) rfl S.co S.gen rfl (PySem.W.codeRec_of G hcd) (hb _ _ _ _ ?_);refine c_ S.kind Z λenv z s1 x=>?_
 subst z;refine⟨M.keeps x.toInCall.keep,codeAny_func ?_⟩;obtain⟨t,D,C⟩:=O A outer s H vs Q E (L.deeper _) X;have I:Inv (nq CX P w K mg base N qual scope f cdv A outer s H E) [] (start N vs) H s1:=Ls S L.hd T B r x;refine ar (D [] s1 (start N vs) H _ I C) (λfl s' Y=>?_) λe s' Y=>Y
 have U:∀{σ':St}{H':Hp}{v:V}{u:Value},Inv (nq CX P w K mg base N qual scope f cdv A outer s H E) [] σ' H' s'->RelV v u->Q v H'->CE outer P w H s Q u s':=
  λ{σ' H' v u} J R q=>⟨v,H',J.os,J.bare,J.base,J.hok,R,q⟩
 cases fl with
 |ret u=>
  obtain⟨v,σ',H',J,R,q⟩:=Y;exact U J R q
 |next=>
  obtain⟨σ',H',J,q⟩:=Y;exact U (v:=V.non) (u:=dL) J rfl q
 |brk=>
  obtain⟨_,_,_,q⟩:=Y;exact er q
 |cont=>
  obtain⟨_,_,_,q⟩:=Y;exact er q
end L2
namespace L2
section
variable{X:Cx}{t:TA}{id T:String}{r:List V->Hp->VK->Prop}
def tCB(r:List V->Hp->VK->Prop)(t:TA):TE:=λσ H Q=>t σ H λvs H1=>r vs H1 Q
def rA(hc:lB X (.builtin id) r)(Y:Gl X x)(hm:X.mg x=none)(U:bootBuiltins x=some (.builtin id))(ha:PA X (e::es) t)(hn:x≠"__name__" := by decide)(O:(x==("__debug__":Str))=false:=by decide)
 (Z:starEach (e::es) X.env=(false,eval e X.env)::starEach es X.env:=by rfl) (q:(backTo pos (starEach es X.env)).any (·.1)=false:=by rfl):PE X (.Call (.Name x p) (e::es) [] pos) (tCB r t):=by
 intro pins s σ H Q I h;refine ax (ou I Y hm U ?_ hn O);exact PyProof.Rows.callWith_builtin1 (thn (ha pos pins s σ H _ I h) λus s1 ⟨vs,H1,W,r1,q1⟩=>hc pins s1 σ H1 vs us Q W r1 q1) Z q
def mW(hc:lB X (.type T) r)(Y:Gl X x)(hm:X.mg x=none)(U:bootBuiltins x=some (.type T))(ha:PA X (e::es) t)(hn:x≠"__name__" := by decide)(O:(x==("__debug__":Str))=false:=by decide)
 (Z:starEach (e::es) X.env=(false,eval e X.env)::starEach es X.env:=by rfl) (q:(backTo pos (starEach es X.env)).any (·.1)=false:=by rfl):PE X (.Call (.Name x p) (e::es) [] pos) (tCB r t):=by
 intro pins s σ H Q I h;refine ax (ou I Y hm U ?_ hn O);exact d6 (thn (ha pos pins s σ H _ I h) λus s1 ⟨vs,H1,W,r1,q1⟩=>hc pins s1 σ H1 vs us Q W r1 q1) Z q
end
end L2
namespace HT
section
open PySem.SeqAt
open PySem.AutoSeq1 (wpAny_loadPart')
open PySem.MeetsSeq PySem.MeetsSeq2 PySem.MeetsSeq3
end
section
variable{prog:dt}
noncomputable def sIx(n d:Nat):Option Int->Nat
 |none=>d
 |some v=>if v<0 then(v+(n:Int)).toNat else min v.toNat n
end
end HT
namespace L2
abbrev TO:=St->Hp->(Option Int->Hp->Prop)->Prop
def PO(X:Cx)(e:Option Expr)(t:TO):Prop:=
 ∀(pins:List (Addr×Obj))(s:dk)(σ:St)(H:Hp)(Q:Option Int->Hp->Prop),Inv X pins σ H s->t σ H Q ->
  wpAny (model X.prog X.w) X.A (evalPart e X.env) (λu s'=>∃o H',Inv X pins σ H' s'/\IsPart u o/\Q o H') X.xe s
def Tj:TO:=λ_ H Q=>Q none H
def ac0(t:TE):TO:=λσ H Q=>t σ H λx H1=>∃i,x = .int i/\Q (some i) H1
section
variable{X:Cx}{te:TE}{lo hi:Option Expr}{tl th:TO}
def Tp:PO X none Tj:=by
 intro pins s σ H Q I h;rw[evalPart_none];exact ag ⟨none,H,I,.none,h⟩
def Tq(h:PE X e te):PO X (some e) (ac0 te):=by
 intro pins s σ H Q I hw;rw[evalPart_some];refine thn (h pins s σ H _ I hw) λu s1 ⟨x,H1,Z,r1,q1⟩=>?_
 obtain⟨i,rfl,q⟩:=q1;obtain⟨t,rfl⟩:=r1;exact⟨some i,H1,Z,.int i t,q⟩
def SlR(X:Cx)(r:V->Option Int->Option Int->Hp->VK->Prop):Prop:=
 ∀(pins:List (Addr×Obj))(s:dk)(σ:St)(H:Hp)(x:V)(v Y Z:Value)(lo hi:Option Int)(sl:Addr)(Q:VK),Inv X pins σ H s->RelV x v->s.heap.IsSliceOf sl Y Z .none->IsPart Y lo->IsPart Z hi->r x lo hi H Q ->
  ∃T id,typeLookup (.type T) "__getitem__"=pure (some (.builtin id))/\s.TypeIs v T/\wpAny (model X.prog X.w) X.A (getItem v (.ref sl)) (EP X pins σ Q) X.xe s
noncomputable def tSl(r:V->Option Int->Option Int->Hp->VK->Prop)(te:TE)(tl th:TO):TE:=λσ H Q=>te σ H λx H1=>tl σ H1 λl H2=>th σ H2 λu Z=>r x l u Z Q
def El (hr:SlR X c) (he:PE X e te) (hl:PO X lo tl) (O:PO X hi th):PE X (.Subscript e (.Slice lo hi none p2) pos) (tSl c te tl th):=by
 intro pins s σ H Q I h;refine Subscript_ (thn (he pins s σ H _ I h) λv s1 ⟨x,H1,J,r1,q1⟩=>?_);refine wpAny_Slice (thn (hl pins s1 σ H1 _ J q1) λW s2 ⟨l,H2,K,pl,q2⟩=>thn (O pins s2 σ H2 _ K q2) λY Z ⟨u,U,L,S,q3⟩=>?_);rw[evalPart_none];refine ag ?_;have M:Inv X pins σ U {Z with heap:=Z.heap.push {cls:=.type "slice", data:=.fields #[W,Y,.none]} }:=L.kept (t':=Z.toks) λb G q=>ae _ q
 obtain⟨T,id,N,R,P⟩:=hr pins {Z with heap:=Z.heap.push {cls:=.type "slice", data:=.fields #[W,Y,.none]} } σ U x v W Y l u Z.heap.objs.size Q M r1 (Heap.IsSliceOf.new ..) pl S q3;exact tail_any (ops:=[.ref Z.heap.objs.size,v]) R N P (by with_unfolding_all rfl)
def Lw(xs:List V)(lo hi:Option Int):List V:=(xs.drop (HT.sIx xs.length 0 lo)).take (HT.sIx xs.length xs.length hi-HT.sIx xs.length 0 lo)
def Em(xs:List V)(lo hi:Option Int):(Lw xs lo hi).length<=xs.length:=by
 unfold Lw;rw[jx,List.length_drop];lia
end
end L2
variable{i:Int}
namespace L2
noncomputable def ixN(n:Nat)(i:Int):Option Nat:=if 0<=i then(if i<n then some i.toNat else none)else if -(n:Int)<=i then some (i+n).toNat else none
def atI (xs:List α) (i:Int):Option α:=(ixN xs.length i).bind λj=>xs[j]?
def Tr(h:ixN n i=some j):seqIndex? i n=some j/\j<n/\-(n:Int)<=i/\i<n:=by
 unfold ixN at h;by_cases Z:0<=i
 .rw[if_pos Z]at h;by_cases h1:i<n
  .rw[if_pos h1]at h;have e:=cU.inj h;exact⟨by rw[seqIndex_of Z h1,e],by lia,by lia,h1⟩
  .rw[if_neg h1]at h;cases h
 .rw[if_neg Z]at h;by_cases h1 : -(n:Int)<=i
  .rw[if_pos h1]at h;have e:=cU.inj h;exact⟨by rw[seqIndex_neg (by lia) h1,e],by lia,h1,by lia⟩
  .rw[if_neg h1]at h;cases h
theorem Bw (h:atI c i=some d):∃j,seqIndex? i c.length=some j/\c[j]? = some d/\j<c.length/\-(c.length:Int)<=i/\i<c.length:=by
 unfold atI at h
 cases e:ixN c.length i with
 |none=>rw[e]at h;cases h
 |some j=>
  rw[e]at h;obtain⟨h1,h2,h3,h4⟩:=Tr e;exact⟨j,h1,h,h2,h3,h4⟩
def pR(b:Expr):Prop:=∀o i,subscripted b false o i=operate [o,i] (getItem o i)
def IxR(X:Cx)(r:R2):Prop:=
 ∀(value slice:Expr)(pins:List (Addr×Obj))(s:dk)(σ:St)(H:Hp)(x y:V)(v u:Value)(Q:VK),Inv X pins σ H s->RelV x v->RelV y u->r x y H Q ->
  subscripted slice false v u=operate [v,u] (getItem v u)->wpAny (model X.prog X.w) X.A (subscriptTail value slice v u) (EP X pins σ Q) X.xe s
def MtR(X:Cx)(id:String)(r:V->List V->Hp->VK->Prop):Prop:=
 ∀(pins:List (Addr×Obj))(s:dk)(σ:St)(H:Hp)(x:V)(xs:List V)(v:Value)(us:List Value)(Q:VK),Inv X pins σ H s->RelV x v->Vals xs us->r x xs H Q ->
  wpAny (model X.prog X.w) X.A (call (.builtin id) (v::us)) (EP X pins σ Q) X.xe s
section
variable{X:Cx}{a b:Expr}{ta tb:TE}
def IxR.or (h:IxR X c) (h':IxR X O):IxR X (λx y H Q=>c x y H Q\/O x y H Q):=by
 intro value slice pins s σ H x y v u Q I Y Z q W;rcases q with q|q
 .exact h value slice pins s σ H x y v u Q I Y Z q W
 .exact h' value slice pins s σ H x y v u Q I Y Z q W
def En (U:IxR X c) (ha:PE X a ta) (hb:PE X b tb) (O:pR b):PE X (.Subscript a b pos) (tOp c ta tb):=by
 intro pins s σ H Q I h;exact Subscript_ (XH ha hb I h λv u s2 x y H2 W Y Z q=>U a b pins s2 σ H2 x y v u Q W Y Z q (O _ _))
def ac1(K:PySem.W.Frag):R2:=λx y H Q=>∃p xs i v,x = .ref p/\y = .int i/\SqL K H p xs/\atI xs i=some v/\Q v H
def ac2(K:PySem.W.Frag):R2:=λx y H Q=>∃p xs i v,x = .ref p/\y = .int i/\SqT K H p xs/\atI xs i=some v/\Q v H
def ac3:R2:=λx y H Q=>∃z i c,x = .str z/\y = .int i/\z.length<=sizeLine/\atI z.cps.toList i=some c/\Q (.str ⟨#[c]⟩) H
def Tt:IxR X (ac1 X.K):=by
 intro value slice pins s σ H x y v u Q I R S h V;obtain⟨p,xs,i,z,rfl,rfl,P,N,q⟩:=h
 cases R;obtain⟨t,rfl⟩:=S;obtain⟨its,r,pl,M⟩:=I.list P;obtain⟨j,h1,h2,h3,h4,h5⟩:=Bw N;obtain⟨w,T,Y⟩:=r.get h2;have O:=r.length;have hn:=yH;have Z:EP X pins σ Q w s:=⟨z,H,I,Y,q⟩;by_cases U:0<=i
 .have W:i.toNat=j:=by
   rw[seqIndex_of U h5]at h1;exact cU.inj h1
  exact item_listR pl.isList U (by lia) (by rw[W];simpa using T) Z V
 .have W:(i+(its.toArray.size:Int)).toNat=j:=by
   rw[seqIndex_neg (by lia) h4]at h1;rw[bC,<-O];exact cU.inj h1
  exact subscriptTail_builtinR (x:=w) pl.isList.typeIs slot_list_getitem.lookup
   (wpAny_getItem_list_neg (Q:=λr s'=>r=w/\EP X pins σ Q r s') pl.isList (by lia) (by rw[bC]<;>lia) (by lia) (by rw[W];simpa using T) ⟨rfl,Z⟩) V
def X5:IxR X (ac2 X.K):=by
 intro value slice pins s σ H x y v u Q I V W h U;obtain⟨p,xs,i,z,rfl,rfl,T,R,q⟩:=h
 cases V;obtain⟨t,rfl⟩:=W;obtain⟨its,r,pl,O⟩:=I.tuple T;obtain⟨j,h1,h2,h3,h4,h5⟩:=Bw R;obtain⟨w,P,Z⟩:=r.get h2;have S:=r.length;have hn:=yH;have Y:EP X pins σ Q w s:=⟨z,H,I,Z,q⟩;exact subscriptTail_builtinR (x:=w) pl.typeIs slot_tuple_getitem.lookup
  (getItem_tuple (j:=j) (Q:=λr s'=>r=w/\EP X pins σ Q r s') pl (by lia) (by lia) (by rwa[bC,<-S]) (by simpa using P) ⟨rfl,Y⟩) U
def N5:IxR X ac3:=by
 intro value slice pins s σ H x y v u Q I Y Z h W;obtain⟨z,i,c,rfl,rfl,P,U,q⟩:=h;obtain⟨t,rfl⟩:=Y;obtain⟨R,rfl⟩:=Z;obtain⟨j,h1,h2,h3,h4,h5⟩:=Bw U;have V:z.cps.toList.length=z.length:=by simp[Str.length]
 rw[V]at h1 h4 h5;have hn:=yH;exact tail_any (cw s z t) slot_str_getitem.lookup (getItem_str (c:=c) (by
  have S:decide (i < -(2^63:Int))=false:=dFa (by lia);have T:decide (i≥2^63)=false:=dFa (by lia);rw[S,T,Bool.or_false]) (by rw[h1];simpa using h2) ⟨.str ⟨#[c]⟩,H,I.tok _,⟨_,rfl⟩,q⟩) W
def rIx(K:PySem.W.Frag):R2:=λx y H Q=>ac1 K x y H Q\/ac2 K x y H Q\/ac3 x y H Q
def Bx:IxR X (rIx X.K):=Tt.or (X5.or N5)
def Inv.lst{σ:St}{H:Hp}{p:Addr}(I:Inv X pins σ H s)(h:H p=some (.lst xs)):
 ∃(its:List Value)(n:Nat),Vals xs its/\s.heap.get? p=some {cls:=.type "list", data:=.seq its.toArray n}/\xs.length<=sizeLine:=by
 obtain⟨z,its,n,r,e⟩:=I.hok p _ h;exact⟨its,n,r,e,z⟩
def BJ(lo hi:Option Int)(n:Nat):(sliceBounds lo hi none n).1=((HT.sIx n 0 lo:Nat):Int)/\(sliceBounds lo hi none n).2.1=((HT.sIx n n hi:Nat):Int)/\(sliceBounds lo hi none n).2.2=1:=by
 refine⟨?_,?_,rfl⟩
 .cases lo with
  |none=>simp[sliceBounds,HT.sIx]
  |some i=>
   simp only[sliceBounds,HT.sIx,Option.getD_none,show(1:Int)>0 by decide,if_true];by_cases h:i<0
   .simp only[h,if_true]<;>lia
   .simp only[h,if_false]<;>lia
 .cases hi with
  |none=>simp[sliceBounds,HT.sIx]
  |some i=>
   simp only[sliceBounds,HT.sIx,Option.getD_none,show(1:Int)>0 by decide,if_true];by_cases h:i<0
   .simp only[h,if_true]<;>lia
   .simp only[h,if_false]<;>lia
def z_(its:List Value)(lo hi:Option Int):slicePick its.toArray lo hi none=((its.drop (HT.sIx its.length 0 lo)).take (HT.sIx its.length its.length hi-HT.sIx its.length 0 lo)).toArray:=by
 obtain⟨h1,h2,h3⟩:=BJ lo hi its.toArray.size;unfold slicePick;rw[h1,h2,h3];simp only[sliceRange_one,pick_run,bC]<;>rfl
def ao7(K:PySem.W.Frag):V->Option Int->Option Int->Hp->VK->Prop:=λx lo hi H Q=>∃a xs,x = .ref a/\SqL K H a xs/\∀p,H p=none->Q (.ref p) (upd H p (.lst (Lw xs lo hi)))
def Tv:SlR X (ao7 X.K):=by
 intro pins s σ H x v S T lo hi sl Q I Y U pl W h;obtain⟨a,xs,rfl,hx,q⟩:=h
 cases Y;obtain⟨its,r,Z,V⟩:=I.list hx;have hlen:=r.length;refine⟨"list", _,slot_list_getitem.lookup,Z.isList.typeIs,?_⟩;refine wpAny_getItem_list_slice Z.isList U pl W .none (by simp) ?_ (by rw[bC]<;>lia);rw[z_,<-hlen];refine⟨.ref s.heap.objs.size,_,I.laid (t':=s.toks) (o:=.lst (Lw xs lo hi)) (λb R q=>ae _ q) (aV _) ?_,rfl,q _ (I.hok.fresh (aV _))⟩;exact⟨bf (Em xs lo hi) V,_,0,(r.drop (HT.sIx xs.length 0 lo)).take (HT.sIx xs.length xs.length hi-HT.sIx xs.length 0 lo),ai _ rfl⟩
def kh:lB X (.builtin "len") (λxs H Q=>∃p ys,xs=[.ref p]/\(SqL X.K H p ys\/SqT X.K H p ys)/\Q (.int ys.length) H):=by
 intro pins s σ H xs us Q I r h;obtain⟨p,ys,rfl,Z,q⟩:=h;obtain⟨u,rfl,W⟩:=vals1 r
 cases W;have hn:=yH;rcases Z with Z|Z
 .obtain⟨its,Y,pl,V⟩:=I.list Z;have hlen:=Y.length;exact Calls.call_len_list pl.isList (by simp only[bC]<;>lia) ⟨.int ys.length,H,I.tok _,⟨s.toks+1,by rw[bC,hlen]⟩,q⟩
 .obtain⟨its,Y,pl,V⟩:=I.tuple Z;have hlen:=Y.length;exact len_tuple pl (by simp only[bC]<;>lia) ⟨.int ys.length,H,I.tok _,⟨s.toks+1,by rw[bC,hlen]⟩,q⟩
def BK:lB X (.builtin "len") (λxs H Q=>∃z,xs=[.str z]/\z.length<=sizeLine/\Q (.int z.length) H):=by
 intro pins s σ H xs us Q I r h;obtain⟨z,rfl,Z,q⟩:=h;obtain⟨u,rfl,t,rfl⟩:=vals1 r;have hn:=yH;exact len_str (by lia) ⟨.int z.length,H,I.tok _,⟨_,rfl⟩,q⟩
def uT:lB X (.type "list") (λxs H Q=>∃p ys,xs=[.ref p]/\(SqL X.K H p ys\/SqT X.K H p ys)/\∀l,H l=none->Q (.ref l) (upd H l (.lst ys))):=by
 intro pins s σ H xs us Q I r h;obtain⟨p,ys,rfl,W,q⟩:=h;obtain⟨u,rfl,S⟩:=vals1 r
 cases S;have V:∀(its:List Value),Vals ys its->ys.length<=sizeLine->∀(h':ec)(c':Nat),(∀b o',s.heap.get? b=some o'->h'.get? b=some o') ->
  h'.get? s.heap.objs.size=some {cls:=.type "list", dict:=none,data:=.seq its.toArray c',slots:=#[]}->EP X pins σ Q (.ref s.heap.objs.size) {s with heap:=h'}:=λits Z Y h' c' kp e=>
  ⟨.ref s.heap.objs.size,_,I.laid (t':=s.toks) kp (aV _) (show gR X.prog X.w _ h' _ (.lst ys)from⟨Y,its,c',Z,e⟩),rfl,q _ (I.hok.fresh (aV _))⟩
 rcases W with W|W
 .obtain⟨its,Z,pl,Y⟩:=I.list W;have hlen:=Z.length;obtain⟨o,U,T,n,hd⟩:=pl.isList;exact call_list_seq p (.inl rfl) U T hd (λh' c' kp e=>V its Z Y h' c' kp e) (by simp only[bC]<;>lia)
 .obtain⟨its,Z,pl,Y⟩:=I.tuple W;have hlen:=Z.length;obtain⟨o,U,T,n,hd⟩:=pl;exact call_list_seq p (.inr rfl) U T hd (λh' c' kp e=>V its Z Y h' c' kp e) (by simp only[bC]<;>lia)
def tyV(K:PySem.W.Frag)(T:String)(x:V)(H:Hp):Prop:=match x with
 | .str _=>T="str"
 | .int _=>T="int"
 | .ref p=>(T="list" /\ ∃xs,SqL K H p xs)\/(T="tuple" /\ ∃o,K.lookup p=some o/\o.cls = .type "tuple"/\o.dict=none) \/
  (T="dict"/\((∃kvs,H p=some (.dK kvs))\/∃kvs,H p=some (.dT kvs)))\/(T="set" /\ ∃S n,H p=some (.set S n))
 |_=>False
theorem X6 (I:Inv X pins σ H s) (r:RelV d f) (ty:tyV X.K T d H) :
 s.TypeIs f T/\∀a,f = .ref a->∃q,s.heap.get? a=some q/\q.dict=none:=by
 cases d with
 |str z=>
  obtain⟨t,rfl⟩:=r
  cases(show T="str"from ty);exact⟨cw s z t,λ_ e=>nomatch e⟩
 |int i=>
  obtain⟨t,rfl⟩:=r
  cases(show T="int"from ty);exact⟨typeIs_int s i t,λ_ e=>nomatch e⟩
 |ref p=>
  cases r;rcases ty with⟨rfl,xs,W⟩|⟨rfl,o,Z,U,hd⟩|⟨rfl,Z⟩|⟨rfl,S,n,Z⟩
  .obtain⟨its,_,pl,_⟩:=I.list W;refine⟨pl.isList.typeIs,λa e=>?_⟩
   cases e;obtain⟨o,n,e,c,hd,_⟩:=pl;exact⟨o,e,hd⟩
  .refine⟨⟨o,I.kIn p o Z,U⟩,λa e=>?_⟩
   cases e;exact⟨o,I.kIn _ o Z,hd⟩
  .have z:∃o,s.heap.get? p=some o/\o.ExactDict:=by
    rcases Z with⟨kvs,Z⟩|⟨kvs,Z⟩
    .obtain⟨_,_,_,_,o,_,_,e,ex,_⟩:=I.hok p _ Z;exact⟨o,e,ex⟩
    .obtain⟨_,_,_,_,o,_,_,e,ex,_⟩:=I.hok p _ Z;exact⟨o,e,ex⟩
   obtain⟨o,e,ex⟩:=z;refine⟨⟨o,e,ex.1⟩,λa Y=>?_⟩
   cases Y;exact⟨o,e,ex.2.1⟩
  .obtain⟨o,_,_,_,e,ex,_⟩:=I.hok p _ Z;refine⟨⟨o,e,ex.1⟩,λa Y=>?_⟩
   cases Y;exact⟨o,e,ex.2.1⟩
 |_=>exact er ty
noncomputable def tBM(K:PySem.W.Frag)(T:String)(r:V->List V->Hp->VK->Prop)(to:TE)(t:TA):TE:=λσ H Q=>to σ H λx H1=>tyV K T x H1/\t σ H1 λxs H2=>r x xs H2 Q
variable{o:Expr}{to:TE}{t:TA}{name:Str}{T id:String}{r:V->List V->Hp->VK->Prop}
def JH(pa:PlainAttrs T)(slot:Slot T name id)(Z:typeOf (.builtin id)=pure (.type "method_descriptor"))(hm:MtR X id r)(ho:PE X o to)(ha:PA X (e::es) t)
 (U:attributeBase o name X.env (eval o X.env)=eval o X.env:=by rfl)
 (Y:((backTo cpos (starEach (e::es) X.env)).all (λx=>!x.1)&&(backToKw cpos (keywordEach [] X.env)).all (λx=>x.1.isSome)
  && decide ((e::es).length+([]:List eI).length+(if([]:List eI).isEmpty then 0 else 1)<30))=true:=by rfl)
 (O:(apos.endLine==cpos.line)=true:=by rfl) (hs:starEach (e::es) X.env=(false,eval e X.env)::starEach es X.env:=by rfl) (q:(backTo cpos (starEach es X.env)).any (·.1)=false:=by rfl) :
 PE X (.Call (.Attribute o name apos) (e::es) [] cpos) (tBM X.K T r to t):=by
 intro pins s σ H Q I h;refine wpAny_Call_method_late U Y O rfl (thn (ho pins s σ H _ I h) λv s1 ⟨x,H1,V,r1,ty,q1⟩=>?_);obtain⟨h1,h2⟩:=X6 V r1 ty;refine⟨T,id,pa,slot,Z,h1,h2,?_⟩;have W:=ha cpos pins s1 σ H1 _ V q1;rw[hs]at W ⊢;refine bb (by show(false||(backTo cpos (starEach es X.env)).any (·.1))=false;rw[q]<;>rfl) (bE ?_);exact thn W λus s2 ⟨vs,H2,S,r2,q2⟩=>hm pins s2 σ H2 x vs v us Q S r1 r2 q2
/- xs.append(e),list.index on a module's tuple .. are MtR facts of 06m -/
end
end L2
variable{xs:List L2.V}
namespace L2
def MtM(X:Cx)(id:String)(r:V->List V->Hp->VK->Prop):Prop:=
 ∀(pins:List (Addr×Obj))(s:dk)(σ:St)(H:Hp)(x:V)(xs:List V)(v:Value)(us:List Value)(Q:VK),Inv X pins σ H s->RelV x v->Vals xs us->r x xs H Q ->
  wpAny (model X.prog X.w) X.A (call (.builtin id) (v::us)) (EP X pins σ Q) X.xe s
theorem Vals.one:∀{x:V}{us:List Value},Vals [x] us->∃u,us=[u]/\RelV x u
 |_,_,.cons r .nil=>⟨_,rfl,r⟩
theorem Vals.zero:∀{us:List Value},Vals [] us->us=[]
 |_,.nil=>rfl
theorem Vals.dropLast(h:Vals xs us):Vals xs.dropLast us.dropLast:=by
 induction h with
 |nil=>exact .nil
 |cons r t Z=>
  cases t with
  |nil=>exact .nil
  |cons q Y=>exact .cons r Z
theorem Vals.reverse(h:Vals xs us):Vals xs.reverse us.reverse:=by
 induction h with
 |nil=>exact .nil
 |cons r t Z=>rw[jh,jh];exact Vals.append Z (.cons r .nil)
section
variable{X:Cx}{σ:St}{H:Hp}{l b:Addr}{xs ys zs:List V}
def Inv.lset{its its':List Value} (I:Inv X pins σ H s) (Y:H l=some (.lst xs))
 (e:s.heap.get? l=some {cls:=.type "list", data:=.seq its.toArray n}) (U:f its.toArray=its'.toArray) (O:Vals ys its') (hz:ys.length<=sizeLine) :
 Inv X pins σ (upd H l (.lst ys)) {s with heap:=s.heap.update l (et f),toks:=t'}:=by
 have q:=PySem.IsL.update e f;rw[U]at q;refine I.write (x:=l) (e:=l) (by rw[Y];exact trivial) (.inl rfl) (λW u hb Z=>(am s.heap (et f) (dv hb)).trans Z) ⟨_,q⟩ ?_;exact⟨hz,its',_,O,q⟩
def Inv.lnew (I:Inv X pins σ H s) (O:Vals ys its) (hz:ys.length<=sizeLine) :
 Inv X pins σ (upd H s.heap.objs.size (.lst ys)) {s with heap:=s.heap.push {cls:=.type "list", data:=.seq its.toArray},toks:=t'}:=
 I.laid (λ_ _ q=>ae _ q) (aV _) ⟨hz,its,0,O,ai _ rfl⟩
def Inv.fresh(I:Inv X pins σ H s):H s.heap.objs.size=none:=I.hok.fresh (aV _)
def Inv.lstM(I:Inv X pins σ H s)(q:H l=some (.lst xs)):xs.length<=sizeLine/\∃(its:List Value)(n:Nat),Vals xs its/\xs.length=its.length/\s.heap.get? l=some {cls:=.type "list", data:=.seq its.toArray n}:=by
 obtain⟨z,its,n,r,e⟩:=I.hok l _ q;exact⟨z,its,n,r,r.length,e⟩
end
section
variable{X:Cx}
def Tw:V->List V->Hp->VK->Prop:=λx vs H Q=>∃l xs y,x = .ref l/\vs=[y]/\H l=some (.lst xs)/\xs.length<sizeLine/\Q .non (upd H l (.lst (xs++[y])))
def v7:MtM X "list.append" Tw:=by
 intro pins s σ H x vs v us Q I Y W h;obtain⟨l,xs,y,rfl,rfl,Z,U,q⟩:=h
 cases Y;obtain⟨u,rfl,V⟩:=W.one;obtain⟨z,its,n,r,T,e⟩:=I.lstM Z;refine cz F.slot_list_append ⟨_,e,rfl⟩ F.entry_list_append (F.args_list_append_2 _ _) (PySem.list_append l its.toArray n u (by rw[bC];lia)) ⟨e,?_⟩;refine⟨.non,_,I.lset (its':=its++[u]) Z e (by simp) (r.append (.cons V .nil)) ?_,rfl,q⟩;rw[bB,jf];lia
end
section
variable{prog:dt}
set_option maxRecDepth 100000 in
end
section
variable{X:Cx}
end
end L2
variable{YP:dE->ec->Prop}
namespace Att
open PySem.W PySem.Calls
theorem xQ : ∀(ns:List Int)(vs:List Value),WellAll c h vs (ns.map WData.int)->fo vs ns:=by
 intro ns
 induction ns with
 |nil=>
  intro vs w;rw[dR]at w
  cases w;exact .nil
 |cons n ns Z=>
  intro vs w;rw[aN]at w
  cases w with
  |cons a b=>
   cases a;exact .cons _ _ (Z _ b)
theorem Lx{l:OpenLaw}(hn:l.most=some n){P:Params}{h:ec}{args:List WData}{vals:List Value}
 (O:l.row.toRowW.claim.pre args=true) (U:WellAll P h vals args) :
 ∃a vs ns,vals=[dr a]/\args=[WData.list (ns.map WData.int)]/\h.get? a=some {cls:=.type "list", data:=.seq vs.toArray}/\fo vs ns/\ns.length<=n:=by
 have Y:=(pre_splitW O).1;have S:=(pre_splitW O).2;obtain⟨d,r,rfl,h1,h2⟩:=hasAllW_cons Y;obtain rfl:=hasAllW_nil h2;obtain⟨xs,rfl,h3⟩:=hasW_list h1;obtain⟨ns,rfl⟩:=items_int h3;have hlen:ns.length<=n:=by
  have h4:(WTm.not (.lt (.lit (.int (n:Int))) (.len (.arg 0)))).holds [] {args:=[.list (ns.map .int)]}=true:=by
   have h4:=(holds_andW S).1;rwa[hn]at h4
  have h5:=condW_of h4 (w_not (w_lt w_lit (w_len_list (w_arg rfl))));rw[aG]at h5;refine Nat.le_of_not_lt λq=>?_
  have V:(n:Int)<((ns.length:Nat):Int):=by lia
  first
   | (rw[dTr V]at h5;exact absurd h5 (by decide))
   | (simp at h5;lia)
 cases U with
 |cons W X=>
  cases X
  cases W with
  |list T Z=>exact⟨_,_,ns,rfl,rfl,T,xQ ns _ Z,hlen⟩
def Ly(l:OpenLaw)(args:List WData):l.row.toRowW.claim.post args (.bool true) args=true:=
 postW_of (r:=l.row.toRowW) (X:=(true==true))
  (show WShape.has [] (.bool true) .bool=true by first|rfl|decide|simp[WShape.has,WShape.arms,WShape.armsAll])
  (show(WTm.eq .res (.lit (.bool true))).value [] {args:=args,res:=some (.bool true),after:=args}=some (.bool (true==true))from w_eq_bool (w_res rfl) w_lit) rfl
def Eo{l:OpenLaw} {d:DefRec}
 (hn:l.most=some n) (hdf:d.params.defaults=[])
 (call:∀(w:dE)(s₀ O:dk)(mg U:Str->Option Value)(fa:Addr)(o:Obj)(pm cd doc:Value)(a:Addr)(vs:List Value)(ns:List Int),
  Ground q loose [] c w s₀ mg U O.heap->YP w O.heap ->
  O.heap.get? fa=some o->o.data = .func (docDef d.name d.params d.body d.scope pm cd doc)->O.heap.CodeRec cd d.name->mg d.name=some (.ref fa) ->
  O.heap.get? a=some {cls:=.type "list", data:=.seq vs.toArray}->fo vs ns->ns.length<=n->O.gens = #[] ->
  codeAny (model l.prog w) callerA (.call (.ref fa) ⟨[.ref a],[]⟩) (λr s'=>r = .ok (.ret (.bool true))/\OldK O.heap s'.heap/\s'.os=O.os/\eW s'.gens) O) :
 WalkO q loose c YP l.row.toRowW d [] (λf vs=>PySem.call f vs):=by
 intro w s₀ O mg U G Y fa o pm cd doc dV kV P hd T hD V M args vals as Z S R W N;obtain rfl:dV = .none:=Dflts.none hD hdf;obtain rfl:kV = .none:=Dflts.noKw hD;obtain⟨a,vs,ns,rfl,rfl,X,hints,hlen⟩:=Lx hn Z W;refine enter_call (b8 (call w s₀ O mg U fa o pm cd doc a vs ns G Y P (fd_plain hd) T V X hints hlen M) λr s' Q=>?_);obtain⟨rfl,h2,h3,h4⟩:=Q;exact⟨.inl ⟨.bool true,.bool true,[],rfl,λ_=>rfl,.bool true,Ly l _,λ_=>⟨List.Pairwise.nil,λ_ hm=>(nomatch hm)⟩⟩,h2,h3,h4⟩
section
variable{prog:dt}{K:Frag}
end
end Att
variable{CX:L2.CXT}{sp:L2.Sp}{ns:List Int}
namespace L2
theorem oV:∀{vs:List Value}{ns:List Int},fo vs ns->Vals (ns.map V.int) vs
 |_,_,.nil=>.nil
 |_,_,.cons n t h=>.cons ⟨t,rfl⟩ (oV h)
def Only(H:Hp):Prop:=∀b,H b=none\/∃o xs,H b=some (.frz o (.lst xs))
noncomputable def Ep(ts:List (Addr×Str×Pos))(H:Hp):Hp:=λb=>match ts.find? (λt=>t.1==b)with
 |some t=>some (.tbl t.2.1 t.2.2)
 |none=>H b
theorem N6(ts:List (Addr×Str×Pos))(H:Hp)(b:Addr):(Ep ts H b=H b/\∀t∈ts,t.1≠b)\/∃t∈ts,t.1=b/\Ep ts H b=some (.tbl t.2.1 t.2.2):=by
 unfold Ep
 cases e:ts.find? (λt=>t.1==b)with
 |none=>exact .inl ⟨rfl,λt Z z=>by have:=m_.mp e t Z;simp[z]at this⟩
 |some t=>
  have h1:=nP e;have h2:=List.find?_some e;exact .inr ⟨t,h1,by simpa using h2,rfl⟩
theorem N7{mb:Str->Option Value}{k:Nat}{fa:Addr}{O:dk}{vs:List Value}
 (KX:K.In O.heap) (hns:O.heap.Ns mainGlobals mg) (hb:O.heap.Ns builtinsNs mb) (hbb:∀x:Str,x≠"__name__"->mb x=bootBuiltins x) (hlim:O.heap.NoLimit) (hbm:∃bm ob,mg "__builtins__"=some (.ref bm)/\bm≠builtinsNs/\O.heap.get? bm=some ob/\ob.cls = .type "module"/\ob.dict=some builtinsNs/\ob.data = .plain) (hg:O.gens = #[])
 (ha:O.heap.get? a=some {cls:=.type "list", data:=.seq vs.toArray}) (hi:fo vs ns) (hl:ns.length<=sizeLine) (hr:Room k callerA)
 (F:∀base:ec,K.In base->base.Ns mainGlobals mg->FnOk P w K mg base CX k fa fd [x] sp) (hbind:∀(s:dk)(u:Value),BindsTo s fd ⟨[u],[]⟩ [(x,u)])
 (ts:List (Addr×Str×Pos)) (U:∀t∈ts,O.heap.get? t.1=some {cls:=.none,data:=.fields #[]}) (hCT:∀t∈ts,isCodeTable O.heap t.1) (hKt:∀t∈ts,K.lookup t.1=none) (htu:∀t∈ts,∀t'∈ts,t.1=t'.1->t=t')
 (hsp:∀H:Hp,(∀t∈ts,H t.1=some (.tbl t.2.1 t.2.2))->SqL K H a (ns.map V.int)->sp [.ref a] H (λv _=>v = .bl true) λ_ _ _=>False)
 (hCX:∀H e s',CX [] H O (λ_ _ _=>False) e s'->False) :
 codeAny (model P w) callerA (.call (.ref fa) ⟨[.ref a],[]⟩) (λr s'=>r = .ok (.ret (.bool true))/\OldK O.heap s'.heap/\s'.os=O.os/\eW s'.gens) O:=by
 have rv:=oV hi;have I:=hi.length;have core:∀H:Hp,(∀b,H b=none\/(∃o xs,H b=some (.frz o (.lst xs)))\/∃t∈ts,t.1=b/\H b=some (.tbl t.2.1 t.2.2))->(∀t∈ts,H t.1=some (.tbl t.2.1 t.2.2))->SqL K H a (ns.map V.int)->HOk P w H O.heap->(∀b,H b≠none->b=a\/∃t∈ts,t.1=b)->(H a≠none->K.lookup a=none) ->
  codeAny (model P w) callerA (.call (.ref fa) ⟨[.ref a],[]⟩) (λr s'=>r = .ok (.ret (.bool true))/\OldK O.heap s'.heap/\s'.os=O.os/\eW s'.gens) O:=by
  intro H G hT l hok D j;have Z:∀{b:Addr}{o:Obj},O.heap.get? b=some o->H b=none->(Eh O.heap H).get? b=some o:=λe n=>Nj e n
  have C:∀{b:Addr}{o:Obj}{es:Array DictEntry}{L:Nat},O.heap.get? b=some o->o.data = .dict es L->H b=none:=λ{b o es L} e d=>by
   cases q:H b with
   |none=>rfl
   |some u=>
    rcases D b (by rw[q];simp)with W|⟨t,Y,W⟩
    case inr=>
     subst W;rw[U t Y]at e;cases e;have f:Data.fields #[]=Data.dict es L:=d
     cases f
    subst W;rw[ha]at e;cases e;have f:Data.seq vs.toArray _=Data.dict es L:=d
    cases f
  have S:∀{b:Addr}{m:Str->Option Value},O.heap.Ns b m->(Eh O.heap H).Ns b m:=λ{b m} ⟨o,es,L,e,d,r⟩=>⟨o,es,L,Z e (C e d),d,r⟩
  have E:=λb o e=>Z (KX b o e) (by
   cases q:H b with
   |none=>rfl
   |some u=>
    rcases D b (by rw[q];simp)with W|⟨t,Y,W⟩
    .subst W;rw[j (by rw[q];simp)]at e;cases e
    .subst W;rw[hKt t Y]at e;cases e)
  have hM:Mod K mg (Eh O.heap H):=⟨E,S hns,⟨mb,S hb,hbb⟩,let⟨mc,h1,h2⟩:=hlim;⟨mc,S h1,h2⟩,let⟨bm,ob,g1,g2,g3,i,g5,g6⟩:=hbm;⟨bm,ob,g1,g2,Z g3 (by
   cases q:H bm with
   |none=>rfl
   |some u=>
    rcases D bm (by rw[q];simp)with W|⟨t,Y,W⟩
    .rw[W,ha]at g3;cases g3;have z:=i;injection z with z
     exact absurd z (by decide)
    .rw[<-W,U t Y]at g3;cases g3
     cases i),i,g5,g6⟩⟩
  have e0:Env0 P w K mg (Eh O.heap H) callerA [] O H:=⟨rfl,hM,λb o e=>S5 e,uK (Lg _ _),trivial,λb hb=>absurd (show b∈([]:List Addr)from hb) (by simp),hok,.of_eq hg⟩;refine b8 ((F _ E (S hns)).run callerA [] O H ⟨[.ref a],[]⟩ [.ref a] [.ref a] _ _ hr e0 (hbind O (.ref a)) (.cons rfl .nil) (hsp H hT l)) λr s' h=>?_
  cases r with
  |error e=>exact(hCX H e s' h).elim
  |ok fl=>
   cases fl with
   |next=>exact er h
   |brk=>exact er h
   |cont=>exact er h
   |ret u=>
    obtain⟨v,H',os,bare,un,R,r',q⟩:=h;have q':v = .bl true:=q;subst q';obtain rfl:u=ef true:=r';refine⟨rfl,⟨λb o e=>?_,λb o e=>un.there b o e (by simp)⟩,os,bare⟩
    cases q:H b with
    |none=>exact .inl <| un.keep b o e q (by intro z;exact absurd (show b∈([]:List Addr)from z) (by simp)) (by simp)
    |some u=>
     rcases G b with z|⟨ob,xs,z⟩|⟨t,Y,rfl,z⟩
     case inr.inr=>
      have X:=un.tbls _ _ _ z;obtain⟨ps,g,_⟩:=R _ _ X;rw[U t Y]at e;cases e;exact .inr (.inl ⟨hCT t Y,rfl,#[],ps,rfl,by rw[g];simp⟩)
     .rw[q]at z;cases z
     .have X:=un.frzs b ob _ z;obtain⟨e1,_⟩:=hok b _ z;obtain⟨g,_⟩:=R b _ X;rw[e]at e1;cases e1;exact .inl g
 have T:∀H:Hp,Only H->SqL K H a (ns.map V.int)->HOk P w H O.heap->(∀b,H b≠none->b=a)->(H a≠none->K.lookup a=none) ->
  codeAny (model P w) callerA (.call (.ref fa) ⟨[.ref a],[]⟩) (λr s'=>r = .ok (.ret (.bool true))/\OldK O.heap s'.heap/\s'.os=O.os/\eW s'.gens) O:=by
  intro H G l hok D j;have na:∀t∈ts,t.1≠a:=λt Y z=>by
   have X:=U t Y;rw[z,ha]at X
   cases X
  have cs:=N6 ts H;have B:Ep ts H a=H a:=by
   rcases cs a with z|⟨t,Y,z,_⟩
   .exact z.1
   .exact absurd z (na t Y)
  have M:∀b x,H b≠some (.own x):=λb x z=>by rcases G b with y|⟨_,_,y⟩<;>(rw[y]at z;cases z)
  have N:∀b x,H b≠some (.tup x):=λb x z=>by rcases G b with y|⟨_,_,y⟩<;>(rw[y]at z;cases z)
  refine core (Ep ts H) (λb=>?_) (λt Y=>?_) ?_ (λb u z=>?_) (λb z=>?_) (λz=>j (by rwa[<-B]))
  .rcases cs b with z|⟨t,Y,Q,X⟩
   .rcases G b with y|y
    .exact .inl (z.1.trans y)
    .obtain⟨o,xs,y⟩:=y;exact .inr (.inl ⟨o,xs,z.1.trans y⟩)
   .exact .inr (.inr ⟨t,Y,Q,X⟩)
  .rcases cs t.1 with z|⟨t',A,Q,X⟩
   .exact absurd rfl (z.2 t Y)
   .have:=htu t' A t Y Q;subst this;exact X
  .rcases l with(z|⟨o,z⟩)|z
   .exact .inl (.inl (by rwa[B]))
   .exact .inl (.inr ⟨o,by rwa[B]⟩)
   .exact .inr z
  .rcases cs b with y|⟨t,Y,Q,X⟩
   .rw[y.1]at z;exact(hok b u z).stay (λ_ _ _ q=>q) (λc q=>absurd q (M c b)) λc xs q=>absurd q (N c xs)
   .rw[X]at z
    cases z;subst Q;exact⟨#[],U t Y,.inl rfl⟩
  .rcases cs b with y|⟨t,Y,Q,X⟩
   .exact .inl (D b (by rwa[<-y.1]))
   .exact .inr ⟨t,Y,Q⟩
 cases p:K.lookup a with
 |some o=>
  have e:=KX a o p;rw[ha]at e
  cases e;refine T (λ_=>none) (λ_=>.inl rfl) (.inr ⟨_,vs.toArray,_,p,rfl,rfl,rfl,by rwa[bC,I],by simpa using rv⟩) (λb u z=>by have J:(none:Option HO)=some u:=z;cases J) (λb z=>absurd rfl z) λz=>absurd rfl z
 |none=>
  refine T (λb=>if b=a then some (.frz {cls:=.type "list", data:=.seq vs.toArray} (.lst (ns.map V.int)))else none) (λb=>?_) (.inl (.inr ⟨{cls:=.type "list", data:=.seq vs.toArray},if_pos rfl⟩)) (λb u z=>?_) (λb z=>?_) λ_=>p
  .by_cases hb:b=a
   .exact .inr ⟨_,_,if_pos hb⟩
   .exact .inl (if_neg hb)
  .by_cases hb:b=a
   .have J:=(if_pos hb).symm.trans z
    cases J;subst hb;exact⟨ha,by rwa[aG],vs,_,rv,ha⟩
   .have J:=(if_neg hb).symm.trans z
    cases J
  .by_cases hb:b=a
   .exact hb
   .exact absurd (if_neg hb) z
end L2
namespace L2
abbrev KOf(_:K.In h):PySem.W.Frag:=K
def Tz{l:PySem.W.OpenLaw} {q:dt} {d:DefRec} {K:Params->PySem.W.Frag} {CX:dE->CXT} {sp:dE->Sp}
 (hn:l.most=some n) (hn2:n<=sizeLine) (hdf:d.params.defaults=[]) (hr:Room k callerA)
 (hY:∀(w:dE)(h:ec),YP w h->(K w.params).In h)
 (F:∀(w:dE)(mg:Str->Option Value)(fa:Addr)(h:ec),(K w.params).In h->h.Ns mainGlobals mg->mg d.name=some (.ref fa) ->
  ∃fd:d4,(∀(s:dk)(u:Value),BindsTo s fd ⟨[u],[]⟩ [(x,u)]) /\
   ∀base:ec,(K w.params).In base->base.Ns mainGlobals mg->FnOk l.prog w (K w.params) mg base (CX w) k fa fd [x] (sp w))
 (ts:List (Addr×Str×Pos)) (O:∀(w:dE)(h:ec),YP w h->(∀t∈ts,h.get? t.1=some {cls:=.none,data:=.fields #[]})/\(∀t∈ts,isCodeTable h t.1)/\∀t∈ts,(K w.params).lookup t.1=none) (U:∀t∈ts,∀t'∈ts,t.1=t'.1->t=t')
 (hsp:∀(w:dE)(H:Hp)(a:Addr)(ns:List Int),ns.length<=n->(∀t∈ts,H t.1=some (.tbl t.2.1 t.2.2))->SqL (K w.params) H a (ns.map V.int)->sp w [.ref a] H (λv _=>v = .bl true) λ_ _ _=>False)
 (hCX:∀(w:dE)(H:Hp)(s:dk)(e:Value)(s':dk),CX w [] H s (λ_ _ _=>False) e s'->False) :
 PySem.W.WalkO q loose c YP l.row.toRowW d [] (λf vs=>PySem.call f vs):=by
 refine Att.Eo hn hdf λw s₀ Z mg J fa o pm cd doc a vs ns G Y I hd P S X hints hlen Q=>?_
 have R:=hY w _ Y;obtain⟨fd,hb,L⟩:=F w mg fa _ R G.T.g S;exact N7 R G.T.g G.T.b G.T.builtins G.T.nolimit G.T.bmain Q X hints (bf hlen hn2) hr L hb ts (O w _ Y).1 (O w _ Y).2.1 (O w _ Y).2.2 U (λH M N=>hsp w H a ns hlen M N) λH e s'=>hCX w H Z e s'
def N8{l:PySem.W.OpenLaw} {d:DefRec} {K:Params->PySem.W.Frag} {sp:PySem.W.Frag->Sp}
 (hn:l.most=some n) (Z:n<=sizeLine) (hdf:d.params.defaults=[]) (hr:Room k callerA)
 (hY:∀(w:dE)(h:ec),YP w h->(K w.params).In h)
 (F:∀(w:dE)(mg:Str->Option Value)(fa:Addr)(h:ec),(K w.params).In h->h.Ns mainGlobals mg->mg d.name=some (.ref fa) ->
  ∃fd:d4,(∀(s:dk)(u:Value),BindsTo s fd ⟨[u],[]⟩ [(x,u)]) /\
   ∀base:ec,(K w.params).In base->base.Ns mainGlobals mg->FnOk l.prog w (K w.params) mg base CX k fa fd [x] (sp (K w.params)))
 (ts:List (Addr×Str×Pos)) (U:∀(w:dE)(h:ec),YP w h->(∀t∈ts,h.get? t.1=some {cls:=.none,data:=.fields #[]})/\(∀t∈ts,isCodeTable h t.1)/\∀t∈ts,(K w.params).lookup t.1=none) (O:∀t∈ts,∀t'∈ts,t.1=t'.1->t=t')
 (Y:∀(K:PySem.W.Frag)(H:Hp)(a:Addr)(ns:List Int),ns.length<=n->(∀t∈ts,H t.1=some (.tbl t.2.1 t.2.2))->SqL K H a (ns.map V.int)->sp K [.ref a] H (λv _=>v = .bl true) λ_ _ _=>False)
 (hCX:∀(H:Hp)(s:dk)(e:Value)(s':dk),CX [] H s (λ_ _ _=>False) e s'->False) :
 PySem.W.WalkO q loose c YP l.row.toRowW d [] (λf vs=>PySem.call f vs):=
 Tz (K:=K) (CX:=λ_=>CX) (sp:=λw=>sp (K w.params)) hn Z hdf hr hY F ts U O (λw H a ns h1 h2 h3=>Y (K w.params) H a ns h1 h2 h3) λ_ H s e s'=>hCX H s e s'
end L2
/- THE LAST THEOREM (shape;LID,My.* are yours):
   My.Adr: a structure of the addresses that your layer names (classes,functions);My.Txt K t: a structure (Prop) of the equations over K;
   My.txt_mk:{K} {implicit addresses ..} (e1:nsIn K mainGlobals "law"=some (some (.ref f))) (e2:K.lookup f=some ⟨oc,od,.func (fnOf "law" "law" params body scope dV kV doc pm an cdv ct),sl⟩) (e3:codeIn K cdv "law"=true) .. : ∃t,My.Txt K t
set_option maxRecDepth 100000 in
set_option maxHeartbeats 0 in
(the tactic k_is has no namespace: write k_is) -/
variable{H1:L2.Hp}
namespace L2
noncomputable def kj(s:Stmt):Arguments:=match s with
 | .FunctionDef _ a _ _ _ _ _ _ _ _=>a
 |_=>{posonlyargs:=[],args:=[],vararg:=none,kwonlyargs:=[],kw_defaults:=[],kwarg:=none,defaults:=[]}
def fu(s:Stmt):List Stmt:=match s with
 | .FunctionDef _ _ b _ _ _ _ _ _ _=>b
 |_=>[]
noncomputable def aZ(s:Stmt):eH:=match s with
 | .FunctionDef _ _ _ _ _ _ sc _ _ _=>sc
 |_=>{kind:=.function,names:=[],isGenerator:=false,isCoroutine:=false}
abbrev CX0:CXT:=λ_ _ _ _ _ _=>False
abbrev E0:XK:=λ_ _ _=>False
def Er:Passes CX0 X E0:=λ_ _ _ _ _ _ _ h=>h.elim
structure Fun(K:PySem.W.Frag)(x qual:Str)(st:Stmt)(f:Addr)(fd:d4):Prop where
 ex:∃(oc:Value)(od:Option Addr)(kV doc pm:Value)(an:Option Addr)(cdv ct:Value)(osl:Array (Option Value)),
  fd=PySem.W.fnOf x qual (kj st) (fu st) (aZ st) .none kV doc pm an cdv ct/\K.lookup f=some ⟨oc,od,.func fd,osl⟩/\PySem.W.codeIn K cdv qual=true
 kp:PySem.W.keepIn K (.ref f)=true
section
end
section
variable{X:Cx}
end
def v8{A B:Prop}(h:B):if false=true then A else B:=by
 rwa[if_neg gH]
def v9{A B:Prop}(h:A):if true=true then A else B:=by
 rwa[if_pos rfl]
def Same(H H':Hp):Prop:=∀b o,H b=some o->H' b=some o
def Same.refl(H:Hp):Same H H:=λ_ _ h=>h
def Same.trans (a:Same H H1) (b:Same H1 H2):Same H H2:=λc o h=>b c o (a c o h)
theorem Same.free(e:Same H H') (h:H' c=Option.none):H c=Option.none:=by
 cases q:H c with
 |none=>rfl
 |some o=>
  rw[e c o q]at h
  cases h
def Same.seq(e:Same H H')(h:SqL K H a xs):SqL K H' a xs:=by
 rcases h with(h|⟨o,h⟩)|h
 .exact .inl (.inl (e _ _ h))
 .exact .inl (.inr ⟨o,e _ _ h⟩)
 .exact .inr h
end L2
namespace My
open L2
abbrev St:=L2.St
def cP (h:H c=none) (o:HO):Same H (upd H c o):=λb u q=>by rwa[bA (lF q h)]
structure Df(K:PySem.W.Frag)(mg:Str->Option Value)(x:Str)(st:Stmt)(ps:List Str):Prop where
 ex:∃(f:Addr)(fd:d4),Fun K x x st f fd/\Binds K fd ps []/\mg x=some (.ref f)
structure Has(P:dt)(w:dE)(K:PySem.W.Frag)(mg:Str->Option Value)(base:ec)(n:Nat)(x:Str)(ps:List Str)(sp:Sp):Prop where
 ex:∃(f:Addr)(fd:d4),FnOk P w K mg base CX0 n f fd ps sp/\Binds K fd ps []/\PySem.W.keepIn K (.ref f)=true/\mg x=some (.ref f)
section
variable{sp:Sp}{st:Stmt}{k:Nat}
def Has.mono(h:Has P w K mg base k x ps sp)(l:k<=n):Has P w K mg base n x ps sp:=by
 obtain⟨f,fd,F,b,kp,m⟩:=h.ex;exact⟨f,fd,F.mono l,b,kp,m⟩
end
section
variable{X:Cx}{sp:Sp}{t:TA}
def yI(h:Has X.prog X.w X.K X.mg X.base n x ps sp)(U:Room n X.A)(ha:PA X (e::es) t)(Y:Gl X x:=by rfl)(O:(x==("__debug__":Str))=false:=by decide)
 (Z:starEach (e::es) X.env=(false,eval e X.env)::starEach es X.env:=by rfl) (q:(backTo pos (starEach es X.env)).any (·.1)=false:=by rfl) :
 PE X (.Call (.Name x p) (e::es) [] pos) (Wy sp [] E0 t):=by
 obtain⟨f,fd,F,b,kp,m⟩:=h.ex;exact Tf F U Y m kp b .nil Er ha O Z q
end
mutual
inductive RdV(K:PySem.W.Frag)(H:Hp):V->PyData->Prop
 |non:RdV K H .non .none
 |bl (b:Bool):RdV K H (.bl b) (.bool b)
 |int (i:Int):RdV K H (.int i) (.int i)
 |str (x:Str):RdV K H (.str x) (.str x)
 |lst {a:Addr} {xs:List V} {ds:List PyData}:SqL K H a xs->RdVs K H xs ds->RdV K H (.ref a) (.list ds)
 |tup {a:Addr} {xs:List V} {ds:List PyData}:SqT K H a xs->RdVs K H xs ds->RdV K H (.ref a) (.tuple ds)
inductive RdVs(K:PySem.W.Frag)(H:Hp):List V->List PyData->Prop
 |nil:RdVs K H [] []
 |cons {v:V} {d:PyData} {vs:List V} {ds:List PyData}:RdV K H v d->RdVs K H vs ds->RdVs K H (v::vs) (d::ds)
end
section
variable{X:Cx}{σ:St}{H:Hp}
mutual
theorem RdV.reads(I:Inv X pins σ H s):∀{v:V}{d:PyData},RdV X.K H v d->∀{u:Value},RelV v u->∃as,Reads s.heap u d as
 |_,_,.non,_,r=>by cases r;exact⟨_,.none⟩
 |_,_,.bl b,_,r=>by cases r;exact⟨_,.bool b⟩
 |_,_,.int i,_,r=>by obtain⟨t,rfl⟩:=r;exact⟨_,.int i t⟩
 |_,_,.str x,_,r=>by obtain⟨t,rfl⟩:=r;exact⟨_,.str x t⟩
 |_,_,.lst h q,_,r=>by
  cases r;obtain⟨its,rv,⟨o,n,e,c,_,d⟩,_⟩:=I.list h;obtain⟨as,z⟩:=RdVs.reads I q rv;exact⟨_,.list e c d (by simpa using z)⟩
 |_,_,.tup h q,_,r=>by
  cases r;obtain⟨its,rv,⟨o,e,c,n,d⟩,_⟩:=I.tuple h;obtain⟨as,z⟩:=RdVs.reads I q rv;exact⟨_,.tuple e c d (by simpa using z)⟩
theorem RdVs.reads(I:Inv X pins σ H s):∀{vs:List V}{ds:List PyData},RdVs X.K H vs ds->∀{us:List Value},Vals vs us->∃as,ReadsAll s.heap us ds as
 |_,_,.nil,_,r=>by cases r;exact⟨_,.nil⟩
 |_,_,.cons h q,_,r=>by
  cases r with
  |cons r1 r2=>
   obtain⟨as,z⟩:=RdV.reads I h r1;obtain⟨bs,y⟩:=RdVs.reads I q r2;exact⟨_,.cons z y⟩
end
end
section
variable{X:Cx}
noncomputable def X7(K:PySem.W.Frag):R2:=λx y H Q=>∃Y Z,RdV K H x Y/\RdV K H y Z/\dLq Y=true/\dLq Z=true/\Q (.bl (dA Y Z)) H
noncomputable def X8(K:PySem.W.Frag):R2:=λx y H Q=>∃Y Z,RdV K H x Y/\RdV K H y Z/\dLq Y=true/\dLq Z=true/\Q (.bl (!PyData.eqv Y Z)) H
def oA(O:X.A.units+64<cLine):OpR X (compareOp .Eq) (X7 X.K):=by
 intro pins s σ H x y v u Q I U V h;obtain⟨S,T,ha,hb,sa,W,q⟩:=h;obtain⟨as,Y⟩:=ha.reads I U;obtain⟨bs,Z⟩:=hb.reads I V;exact SeqAt.compareEq_shaped Y Z sa W O ⟨.bl _,H,I,rfl,q⟩
def wg(O:X.A.units+64<cLine):OpR X (compareOp .NotEq) (X8 X.K):=by
 intro pins s σ H x y v u Q I U V h;obtain⟨S,T,ha,hb,sa,W,q⟩:=h;obtain⟨as,Y⟩:=ha.reads I U;obtain⟨bs,Z⟩:=hb.reads I V;exact SeqAt.compareNe_shaped Y Z sa W O ⟨.bl _,H,I,rfl,q⟩
end
def isT(c T:String):Bool:=T==c||(T=="bool"&&c=="int")
section
def X_(h:c="int"\/c="bool"\/c="tuple"\/c="list"\/c="str")(g:T="NoneType"\/T="bool"\/T="int"\/T="str"\/T="list"\/T="tuple"\/T="dict"):
 PySem.W.kitOne K (.type T) (.type c)=some (isT c T):=by
 rcases h with rfl|rfl|rfl|rfl|rfl<;>rcases g with rfl|rfl|rfl|rfl|rfl|rfl|rfl<;>kernel_rfl
end
section
variable{X:Cx}
end
def big (I:Inv X pins σ H s):sysModules<s.heap.objs.size:=by
 have h:=(I.mod.glob.keeps I.bk).lt;exact mL (by decide) h
def N_(h:ec)(hb:sysModules<h.objs.size):gR P w H (h.push {cls:=.type "dict", data:=.dict #[]}) h.objs.size (.dK []):=
 ⟨g_ _,beq_eq_false_iff_ne.mpr (dv (bF hb)),[],.nil,Heap.DictOf.new h⟩
def Yb:TE:=λ_ H Q=>∀p,H p=none->Q (.ref p) (upd H p (.dK []))
def Oa:PE X (.Dict [] [] pos) Yb:=λpins s σ H Q I h=>
 wpAny_Dict_empty ⟨.ref s.heap.objs.size,_,I.laid (a:=s.heap.objs.size) (o:=.dK []) (t':=s.toks) (λ_ _ q=>ae _ q) (aV _) (N_ s.heap (big I)),rfl,h _ (I.hok.fresh (aV _))⟩
end My
namespace My
open L2
section
variable{X:Cx}{a b c d:Expr}{ta tb tc td:TE}
end
structure Blt(mg:Str->Option Value):Prop where
 len_:mg "len"=none
 range_:mg "range"=none
 abs_:mg "abs"=none
 isinstance_:mg "isinstance"=none
 int_:mg "int"=none
 bool_:mg "bool"=none
 tuple_:mg "tuple"=none
 max_:mg "max"=none
 min_:mg "min"=none
end My
namespace My
open L2
abbrev cx(P:dt)(w:dE)(K:PySem.W.Frag)(mg:Str->Option Value)(base:ec)(N:List Str)(x:Str)(st:Stmt)(f:Addr)(cdv:Value)(A:dy)(outer:List Env)(s:dk)(H:Hp)(E:XK):Cx:=
 (nq CX0 P w K mg base N x (aZ st) f cdv A outer s H E).nox
end My
namespace My
open L2
noncomputable def pU(env:Env):List (Str×NameKind)->List (Str×Addr)->List (Str×Addr)
 |[],cs=>cs
 | (n,k)::r,cs=>if(k==dQ)=true then pU env r ((n,(env.cells.lookup n).getD 0)::cs)else pU env r cs
theorem t_:∀(l:List (Str×NameKind))(cs:List (Str×Addr)),(∀x∈l,x.2 = .free->∃c,env.cells.lookup x.1=some c) ->
 (forIn l cs λ(x:Str×NameKind)(r:List (Str×Addr))=>(if(x.2==dQ)=true then(do let c <-cellOf env x.1;pure (eC ((x.1,c)::r)))else pure (eC r):Sem (ForInStep (List (Str×Addr)))))=pure (pU env l cs)
 |[],_,_=>rfl
 | (n,k)::r,cs,h=>by
  rw[qw];by_cases Z:(k==dQ)=true
  .obtain⟨c,X⟩:=h (n,k) aJ (beq_iff_eq.mp Z);have Y:cellOf env n=pure c:=by
    unfold cellOf;rw[show env.cells.lookup n=some c from X]
   rw[if_pos Z,Y];have W:=t_ r ((n,c)::cs) λx hx=>h x (aH _ hx)
   rwa[pU,if_pos Z,show env.cells.lookup n=some c from X]
  .rw[if_neg Z];have W:=t_ r cs λx hx=>h x (aH _ hx)
   rwa[pU,if_neg Z]
def Hy (h:∀x∈d.names,x.2 = .free->∃c,env.cells.lookup x.1=some c):closureFor d env=pure (pU env d.names []):=by
 have z:=t_ (env:=env) d.names [] h;show(forIn d.names [] λ(x:Str×NameKind)(r:List (Str×Addr))=>(if(x.2==dQ)=true then(do let c <-cellOf env x.1;pure (eC ((x.1,c)::r)))else pure (eC r):Sem (ForInStep (List (Str×Addr))))) >>= (λcs=>pure cs)=_;rw[z];rfl
theorem yJ:∀(l:List (Str×NameKind))(cs:List (Str×Addr)),(∀x∈l,x.2 = .free->∃c,env.cells.lookup x.1=some c)->(∀x c,cs.lookup x=some c->env.cells.lookup x=some c) ->
 ∀x c,(pU env l cs).lookup x=some c->env.cells.lookup x=some c
 |[],_,_,Y,x,c,e=>Y x c e
 | (n,k)::r,cs,h,Y,x,c,e=>by
  rw[pU]at e;by_cases W:(k==dQ)=true
  .rw[if_pos W]at e;obtain⟨d,hd⟩:=h (n,k) aJ (beq_iff_eq.mp W);refine yJ r _ (λx hx=>h x (aH _ hx)) (λy c' Z=>?_) x c e;rw[cL]at Z
   cases X:y==n with
   |true=>
    rw[X]at Z;have:y=n:=beq_iff_eq.mp X;subst this;rw[show env.cells.lookup y=some d from hd]at Z ⊢;exact Z
   |false=>
    rw[X]at Z;exact Y y c' Z
  .rw[if_neg W]at e;exact yJ r cs (λx hx=>h x (aH _ hx)) Y x c e
theorem rB:∀(l:List (Str×NameKind))(cs:List (Str×Addr))(x:Str),((x,dQ)∈l\/∃c,cs.lookup x=some c)->∃c,(pU env l cs).lookup x=some c
 |[],_,x,h=>by
  rcases h with h|h
  .exact absurd h (by simp)
  .exact h
 | (n,k)::r,cs,x,h=>by
  rw[pU];by_cases Z:(k==dQ)=true
  .rw[if_pos Z];refine rB r _ x ?_;by_cases e:x=n
   .subst e;exact .inr ⟨_,by rw[cL,beq_self_eq_true]⟩
   .rcases h with h|⟨c,h⟩
    .rcases aL.mp h with h|h
     .exact absurd (congrArg Prod.fst h) e
     .exact .inl h
    .exact .inr ⟨c,by rwa[cL,beq_eq_false_iff_ne.mpr e]⟩
  .rw[if_neg Z];refine rB r cs x ?_;rcases h with h|h
   .rcases aL.mp h with h|h
    .have:k = .free:=(congrArg Prod.snd h).symm;subst this;exact absurd rfl Z
    .exact .inl h
   .exact .inr h
noncomputable abbrev blk(X:Cx)(O:List Str)(scope:eH)(cl:List (Str×Addr))(C:Addr)(q:dk)(U:Hp)(fp:List Addr):Cx:=
 {X with N:=O,s₀:=q,H₀:=U,env:=compEnvC scope cl C X.env,outer:=X.stack,ex:=fp,fn:=λ_=>false,xe:=λ_ _=>False}
noncomputable def yK(N:List Str)(kinds sn:List (Str×NameKind)):List Str->List Nat->Bool
 |[],[]=>true
 |x::V,j::ix=>(N[j]? == some x)&&((kinds.lookup x==some eM)&&((sn.lookup x==some dQ)&&yK N kinds sn V ix))
 |_,_=>false
def rC(t:Nat)(ix:List Nat)(σ:St):St:=bK t none++ix.map λj=>(σ[j]?).getD none
theorem yL : ∀{V:List Str}{ix:List Nat},yK N kinds sn V ix=true->ix.length=V.length/\∀(k:Nat)(x:Str),V[k]? = some x->∃j,ix[k]? = some j/\N[j]? = some x/\kinds.lookup x=some .cell/\sn.lookup x=some .free
 |[],[],_=>⟨rfl,λk x h=>by simp at h⟩
 |x::V,j::ix,h=>by
  rw[yK,aO,aO,aO]at h;obtain⟨h1,h2,h3,h4⟩:=h;obtain⟨l,r⟩:=yL h4;refine⟨by simp[l],λk y Z=>?_⟩
  cases k with
  |zero=>
   simp at Z;subst Z;exact⟨j,rfl,beq_iff_eq.mp h1,beq_iff_eq.mp h2,beq_iff_eq.mp h3⟩
  |succ k=>exact r k y (by simpa using Z)
 |[],_::_,h=>by simp[yK]at h
 |_::_,[],h=>by simp[yK]at h
theorem uU{env:Env}(q:env.scope.kind = .function):∀{names:List (Str×NameKind)}{x:Str},names.lookup x=some .free->env.kindOf x=some .cell ->
 (names.map λ(n,k)=>if(k==dQ&&env.scope.kind == .function&&env.kindOf n==some .cell)then(n,eM)else(n,k)).lookup x=some .cell
 |[],_,h,_=>by simp at h
 | (n,k)::r,x,h,Z=>by
  have Y:=@uU env q r x;show iM x ((if(k==dQ&&env.scope.kind == .function&&env.kindOf n==some .cell)=true then(n,eM)else(n,k))::_)=_
  cases hx:x==n with
  |true=>
   have e:=beq_iff_eq.mp hx;subst e;simp only[cL,hx]at h
   cases h;rw[if_pos (by rw[q,Z];rfl)];simp[cL]
  |false=>
   simp only[cL,hx]at h;by_cases X:(k==dQ&&env.scope.kind == .function&&env.kindOf n==some .cell)=true
   .rw[if_pos X];simp only[cL,hx];exact Y h Z
   .rw[if_neg X];simp only[cL,hx];exact Y h Z
theorem pW{env:Env}:∀{names:List (Str×NameKind)}{x:Str}{k:NameKind},(∀y∈names,y.2 ≠ .cell)->(k = .cell\/k = .free) ->
 (names.map λ(n,k)=>if(k==dQ&&env.scope.kind == .function&&env.kindOf n==some .cell)then(n,eM)else(n,k)).lookup x=some k->(x,dQ)∈names
 |[],_,_,_,_,h=>by simp at h
 | (n,Y)::r,x,k,V,Z,h=>by
  have W:=@pW env r x k (λy T=>V y (aH _ T)) Z;have h':iM x ((if(Y==dQ&&env.scope.kind == .function&&env.kindOf n==some .cell)=true then(n,eM)else(n,Y))::(r.map λ(n,k)=>if(k==dQ&&env.scope.kind == .function&&env.kindOf n==some .cell)then(n,eM)else(n,k)))=some k:=h;by_cases X:(Y==dQ&&env.scope.kind == .function&&env.kindOf n==some .cell)=true
  .rw[if_pos X]at h';have U:Y = .free:=by
    rw[aO,aO]at X;exact beq_iff_eq.mp X.1.1
   cases hx:x==n with
   |true=>
    have e:=beq_iff_eq.mp hx;subst e;subst U;exact aJ
   |false=>
    simp only[cL,hx]at h';exact aH _ (W h')
  .rw[if_neg X]at h'
   cases hx:x==n with
   |true=>
    have e:=beq_iff_eq.mp hx;subst e;simp only[cL,hx]at h'
    cases h';rcases Z with Z|Z
    .exact absurd Z (V _ aJ)
    .subst Z;exact aJ
   |false=>
    simp only[cL,hx]at h';exact aH _ (W h')
section
variable{X:Cx}{σ:St}{H:Hp}
def Inv.forget (I:Inv X pins σ H s) (q:σ'.length=X.N.length) (h:∀(i:Nat)(v:V),σ'[i]? = some (some v)->σ[i]? = some (some v)):Inv X pins σ' H s:=by
 obtain⟨m,hn,hx⟩:=I.loc;exact⟨I.ok,I.os,I.bare,I.base,⟨m,hn,λi x v W Y Z=>hx i x v W (h i v Y) Z⟩,I.cell,I.free,I.freeC,I.pin,I.hok,q⟩
end
end My
namespace My
open L2
theorem Es (I:Nat->dk->Prop)
 (turn:∀n s,I n s->wpAny (model prog w) A (pyNext it) (λr U=>match r with
  |none=>R (.ok .next) U
  |some v=>wpAny (model prog w) A (letOwnedTupleGo target it v) (λ_ O=>wpAny (model prog w) A (assign target env v) (λ_ s₂=>
   wpAny (model prog w) A (forIn f true λc r=>if r=true then do let ok <-isTrue c env (eval c env);pure (eC ok)else pure (eC r)) (λok q=>
    if ok=true then wpAny (model prog w) A (eval elt env) (λx Z=>
     wpAny (model prog w) A (call (.builtin "list.append") [acc,x]) (λ_ Y=>∃m,m<n/\I m Y) (λ_ _=>False) Z) (λ_ _=>False) q
    else ∃m,m<n/\I m q) (λ_ _=>False) s₂) (λ_ _=>False) O) (λ_ _=>False) U) (λ_ _=>False) s)
 (n:Nat) (h:I n s) :
 codeAny (model prog w) A (.compLoop (.ListComp elt [⟨target,d,f,0⟩] k pos) 0 it acc env) R s:=by
 refine codeAny_loop rfl I (λn s P=>?_) n h;refine wpAny_noted ?_;rw[compTurn_list];refine aa (cm (aa (ar (turn n s P) (λr U W=>?_) λ_ _ h'=>h'.elim)))
 cases r with
 |none=>exact ag W
 |some v=>
  refine aa (ar W (λ_ O V=>?_) λ_ _ h'=>h'.elim);refine aa (ar V (λ_ s₂ Q=>aa (ar Q (λok q X=>?_) λ_ _ h'=>h'.elim)) λ_ _ h'=>h'.elim)
  cases ok with
  |false=>exact ag ⟨rfl,X⟩
  |true=>
   exact aa (aa (ar X (λx Z S=>aa (ar S (λ_ Y T=>ag (ag ⟨rfl,T⟩)) λ_ _ h'=>h'.elim)) λ_ _ h'=>h'.elim))
section
variable{X:Cx}{σ:St}{H:Hp}
def Lz{T V:List Str} {O:ec} {tk:Nat} {m:Str->Option Value}
 (I:Inv X pins σ H s3) (hf:∀b∈fp,vZ X pins H b) (ho:∀b∈fp,∃o,s3.heap.get? b=some o)
 (hk:q0.kind = .function) (U:∀y∈q0.names,y.2 ≠ .cell) (hfr:∀x∈q0.names,x.2 = .free->x.1∈V) (hB:yK X.N X.env.scope.names q0.names V f=true)
 (hns:O.Ns s3.heap.objs.size m) (keep:∀b o,s3.heap.get? b=some o->O.get? b=some o) :
 Inv (blk X (T++V) q0 (pU X.env q0.names []) s3.heap.objs.size s3 H fp) pins (rC T.length f σ) H {s3 with heap:=O,toks:=tk}:=by
 obtain⟨E,R⟩:=yL hB;have K:∀x∈q0.names,x.2 = .free->∃c,X.env.cells.lookup x.1=some c:=λx hx e=>by
  obtain⟨k,t⟩:=h_ (hfr x hx e);obtain⟨j,_,_,Q,_⟩:=R k _ t;exact I.ok.has _ (.inl Q)
 have sub:=yJ (env:=X.env) q0.names [] K (λx c e=>by simp at e);have stkSub:=λb z=>aL.mp (I.stkSub b z)
 have lt:∀b o,s3.heap.get? b=some o->b≠s3.heap.objs.size:=λb o e=>bF (af e)
 have cellK:∀c v,s3.heap.IsCell c v->O.IsCell c v:=λc v ⟨o,e,d⟩=>⟨o,keep c o e,d⟩
 refine⟨⟨I.ok.mod,hk,I.ok.glob,I.ok.blt,aV _,λx y c G L=>I.ok.inj x y c (sub x c G) (sub y c L),λx hx=>?_,λx c hx=>?_,I.ok.hd,I.ok.frames,.inl rfl,λb hb=>⟨?_,λx c e=>?_⟩,I.bs,bf I.ok.bsz I.sz,λb o e hb=>?_,λb hb z=>?_,I.stack,I.stkFree⟩,
  rfl,I.bare,Un.kept keep,⟨m,hns,λi x v G L g=>?_⟩,λx c e=>?_,I.hok.fresh (aV _),λx c e=>I.freeC x c (sub x c e),λp D=>?_,I.hok.kept keep,?_⟩
 .rcases hx with hx|hx
  .exact rB _ _ x (.inl (pW U (.inl rfl) hx))
  .exact rB _ _ x (.inl (pW U (.inr rfl) hx))
 .exact absurd hx (by simp)
 .obtain⟨o,e⟩:=ho b hb;exact lt b o e
 .exact(hf b hb).2.2.2.2.1 x c (sub x c e)
 .rcases(hf b hb).2.2.2.1 with z|z
  .exact I.ok.noex b o e z
  .exact absurd (bV (af e) (bf I.ok.bsz z)) (d7 _)
 .rcases stkSub b z with z|z
  .exact(hf b hb).2.1 z
  .exact(hf b hb).2.2.1 z
 .by_cases hi:i<T.length
  .have W:(bK T.length none++f.map λj=>(σ[j]?).getD none)[i]? = some (some v):=L;rw[bY (by rwa[bL]),cX,if_pos hi]at W;exact absurd W (by simp)
  .have M:(T++V)[i]? = some x:=G;rw[cA (by lia)]at M;obtain⟨j,A,w,Q,Y⟩:=R _ x M;have W:(bK T.length none++f.map λj=>(σ[j]?).getD none)[i]? = some (some v):=L;rw[cA (by rw[bL];lia),bL,aP,A]at W;have Z:(σ[j]?).getD none=some v:=by simpa using W
   have J:σ[j]? = some (some v):=by
    cases q:σ[j]? with
    |none=>rw[q]at Z;exact absurd Z (by simp)
    |some o=>rw[q]at Z;simp at Z;rw[Z]
   obtain⟨h,C,B⟩:=I.loc;obtain⟨u,r,l⟩:=B j x v w J (.inr (.inl Q));rcases l with⟨z,_⟩|⟨_,c,s,S⟩
   .have F:X.env.scope.names.lookup x=some .local:=z;rw[Q]at F;exact absurd F (by simp)
   .obtain⟨c',P⟩:=rB (env:=X.env) q0.names [] x (.inl (PySem.mem_of_lookup Y));have:c'=c:=by
     have q:=sub x c' P;rw[s]at q;exact(cU.inj q).symm
    subst this;exact⟨u,r,.inr ⟨.inl (uU I.ok.kind Y Q),c',P,cellK _ _ S⟩⟩
 .obtain⟨v,z⟩:=I.cell x c (sub x c e);exact⟨v,cellK c v z⟩
 .obtain⟨e,n,ne,nf,d⟩:=I.pin p D;refine⟨keep _ _ e,n,lt _ _ e,λz=>?_,d⟩;rcases stkSub p.1 z with z|z
  .exact ne z
  .exact nf z
 .show(bK T.length none++f.map λj=>(σ[j]?).getD none).length=(T++V).length;rw[bB,bL,aG,bB,E]
def uV (I3:Inv X pins σ H3 q) (U:∀b∈fp,vZ X pins H3 b)
 (O:Inv (blk X N' c cl q.heap.objs.size q H3 fp) pins' σ' H' s'):Inv X pins σ H' s'/\vZ X pins H' q.heap.objs.size:=by
 have fr:=O.free;refine⟨?_,I3.fpOk (aV _) fr⟩;have os:=O.os;have u:=O.base;have W:=O.hok;have hb:=O.bare;obtain⟨hh,g,d,t,Y⟩:=s';obtain rfl:Y=q.os:=os;exact I3.call (h':=hh) (g':=g) (d':=d) (t':=t) (ch:=fp) u W hb λb Z=>⟨(U b Z).2.2.2.1,(U b Z).2.1,(U b Z).2.2.2.2.1,(U b Z).2.2.2.2.2⟩
end
def PTs(X:Cx)(ifs:List Expr)(t:TT):Prop:=
 ∀(pins:List (Addr×Obj))(s:dk)(σ:St)(H:Hp)(Q:Bool->Hp->Prop),Inv X pins σ H s->t σ H Q ->
  wpAny (model X.prog X.w) X.A (forIn ifs true λc r=>if r=true then do let ok <-isTrue c X.env (eval c X.env);pure (eC ok)else pure (eC r)) (TP X pins σ Q) X.xe s
def yM:TT:=λ_ H Q=>Q true H
def TF:PTs X [] yM:=λ_ _ _ H _ I h=>wpAny_tests_nil ⟨H,I,h⟩
def pX (h:PT X c t):PTs X [c] t:=λpins s σ H Q I q=>wpAny_tests_one (h pins s σ H Q I q)
def Et(wi:TI)(g:TG)(tt:TT)(te:TE)(t:Nat)(q:St->St):TE:=λσ H Q=>wi σ H λJ H1=>∀D,H1 D=none->∃W:Nat->Nat->List V->Hp->Prop,(∃m,W 0 m [] (upd H1 D (.lst []))) /\
 ∀i m xs H2,W i m xs H2->H2 D=some (.lst xs)/\((J.stop i H2/\Q (.ref D) H2)\/(J.go i H2/\xs.length<sizeLine/\∀x T,J.yld i H2 x T->g x (q σ) T λZ S=>Z.drop t=(q σ).drop t /\
  tt Z S λb U=>if b=true then te Z U λv X=>X D=some (.lst xs)/\∃Y,Y<m/\W (i+1) Y (xs++[v]) (upd X D (.lst (xs++[v])))else ∃Y,Y<m/\W (i+1) Y xs U))
section
variable{X:Cx}{elt iter:Expr}{T V:List Str}{wi:TI}{g:TG}{tt:TT}{te:TE}
def LC(hc:X.calm=true)(hi:PI X tg iter wi)
 (hg:∀cl C O U fp,PG (blk X (T++V) scope cl C O U fp) tg g) (ht:∀cl C O U fp,PTs (blk X (T++V) scope cl C O U fp) ifs tt) (he:∀cl C O U fp,PE (blk X (T++V) scope cl C O U fp) elt te)
 (hB:yK X.N X.env.scope.names scope.names V ix=true) (hk:scope.kind = .function) (Y:∀y∈scope.names,y.2 ≠ .cell) (hnames:∀x∈scope.names,x.2 = .local->scope.names.lookup x.1=some .local)
 (hfr:∀x∈scope.names,x.2 = .free->x.1∈V) (hs:∀x,foldedSetIterable iter X.env x=pure x) 
 (I:Inv X q1 σ q3 q2) (h:Et wi g tt te T.length (rC T.length ix) σ q3 Qv)
 (fin:∀(D C:Addr)(H':Hp)(s':dk)(m:Str->Option Value),Inv X q1 σ H' s'->vZ X q1 H' C->s'.heap.Ns C m->Qv (.ref D) H'->compPost (model X.prog X.w) X.A X.xe use Qp (.ref D) C (.ok .next) s') :
 wpAny (model X.prog X.w) X.A (comprehension (.ListComp elt [⟨tg,iter,ifs,0⟩] scope pos) scope X.env q0 (newList []) false (eval iter X.env) use) Qp X.xe q2:=by
 obtain⟨lV,capV⟩:=yL hB;have hcl:∀x∈scope.names,x.2 = .free->∃c,X.env.cells.lookup x.1=some c:=λx hx e=>by
  obtain⟨k,ek⟩:=h_ (hfr x hx e);obtain⟨j,_,_,hc',_⟩:=capV k _ ek;exact I.ok.has _ (.inl hc')
 refine wpAny_comprehension_free rfl hs (Hy hcl) hk hnames ?_;refine thn (hi q1 q2 σ q3 _ I h) λv s1 h1=>thn h1 λitv s2 h2=>?_
 obtain⟨it,fp,tn,J,H2,e,I2,S,t,f2,R⟩:=h2;subst e;refine cu (hd:=by size_fits) ?_;have hD:=I2.hok.fresh (aV _);have I3:Inv X q1 σ (upd H2 s2.heap.objs.size (.lst [])) {s2 with heap:=s2.heap.push {cls:=.type "list", dict:=none,data:=.seq ([]:List Value).toArray} }:=
  I2.laid (t':=s2.toks) (λb o e=>ae _ e) (aV _) ⟨g_ _,[],0,.nil,ai _ rfl⟩
 obtain⟨W,⟨m0,w0⟩,turn⟩:=R s2.heap.objs.size hD;generalize hs3:({s2 with heap:=s2.heap.push {cls:=.type "list", dict:=none,data:=.seq ([]:List Value).toArray} }:dk)=O at I3 ⊢;have z:tn 0 O.heap:=by
  rw[<-hs3];exact S.keep 0 s2.heap _ t λb hb o e=>ae _ e
 have f3:∀b∈fp,vZ X q1 (upd H2 s2.heap.objs.size (.lst [])) b:=λb hb=>by
  obtain⟨z0,z1⟩:=f2 b hb;refine⟨?_,z1⟩;obtain⟨o,eo,_⟩:=S.obj 0 _ t b hb;rwa[bA (bF (af eo))]
 generalize hH3:upd H2 s2.heap.objs.size (.lst [])=U at I3 f3 w0;generalize hDn:s2.heap.objs.size=D at turn;refine wpAny_newFunctionEnv Y (by intro y hy;simp at hy) (λl M P=>?_) hk;have keep:=λb o e=>P.extBut b o (bF (af e)) (ae _ e)
 have I4:=Lz (T:=T) (tk:=O.toks+([]:List (Str×Value)).length) I3 f3 (λb hb=>let⟨o,eo,_⟩:=S.obj 0 _ z b hb;⟨o,eo⟩) hk Y hfr hB M keep;have B:=S.keep 0 _ _ z λb hb o e=>keep b o e
 have loop:codeAny (model X.prog X.w) X.A (.compLoop (.ListComp elt [⟨tg,iter,ifs,0⟩] scope pos) 0 (.ref it) (.ref D) (compEnvC scope (pU X.env scope.names []) O.heap.objs.size X.env))
  (compPost (model X.prog X.w) X.A X.xe use Qp (.ref D) O.heap.objs.size) {O with heap:=l,toks:=O.toks+([]:List (Str×Value)).length}:=by
  refine Es (λn s'=>∃i xs H',Inv (blk X (T++V) scope (pU X.env scope.names []) O.heap.objs.size O U fp) q1 (rC T.length ix σ) H' s'/\tn i s'.heap/\(∀b∈fp,H' b=none)/\W i n xs H') ?_ m0
   ⟨0,[],U,I4,B,λb hb=>(f3 b hb).1,w0⟩
  rintro n s5 ⟨i,xs,H5,I5,E,a,w5⟩;have Z:∀{H':Hp}{pins':List (Addr×Obj)}{σ':St}{s':dk},Inv (blk X (T++V) scope (pU X.env scope.names []) O.heap.objs.size O U fp) q1 σ' H' s'->(∀b∈fp,H' b=none)->∀b∈fp,vZ (blk X (T++V) scope (pU X.env scope.names []) O.heap.objs.size O U fp) q1 H' b:=λI' hn b hb=>by
   obtain⟨x1,x2⟩:=I'.ok.exf b hb;refine⟨hn b hb,x1,I'.ok.exfs b hb,.inl hb,x2,λq hq=>?_⟩;exact(f3 b hb).2.2.2.2.2 q hq
  obtain⟨hD5,r5⟩:=turn i n xs H5 w5;rcases r5 with⟨stop,q⟩|⟨go,hz,step⟩
  .refine thn (S.done (blk X (T++V) scope (pU X.env scope.names []) O.heap.objs.size O U fp) rfl rfl rfl hc i q1 s5 _ H5 _ I5 (Z (pins':=q1) I5 a) E stop) λr s6 ⟨hr,I6⟩=>?_
   subst hr;obtain⟨Ib,fC⟩:=uV I3 f3 I6;obtain⟨m,hn,_⟩:=I6.loc;exact fin D _ H5 s6 m Ib fC hn q
  .refine thn (S.item (blk X (T++V) scope (pU X.env scope.names []) O.heap.objs.size O U fp) rfl rfl rfl hc i q1 s5 _ H5 _ I5 (Z (pins':=q1) I5 a) E go) λr s6 ⟨u,hr,h6⟩=>?_
   subst hr;refine thn h6 λ_ s7 ⟨x,H7,I7,rx,y7,L,fr7⟩=>?_
   have I7':=I7.pinned (Z (pins':=q1) I7 fr7) (S.obj _ _ L);refine thn (hg _ _ _ _ _ _ s7 _ H7 x u _ I7' rx (step x H7 y7)) λ_ s8 ⟨Q,H8,I8,k8,q8⟩=>?_
   have again:∀{K:Hp}{G:dk},Inv (blk X (T++V) scope (pU X.env scope.names []) O.heap.objs.size O U fp) (q1++yF fp s7.heap) Q K G ->
    Inv (blk X (T++V) scope (pU X.env scope.names []) O.heap.objs.size O U fp) q1 (rC T.length ix σ) K G/\tn (i+1) G.heap/\∀b∈fp,K b=none:=λ{K G} F=>by
    refine⟨Inv.forget F.unpinned I4.len λj v e=>?_,S.keep _ _ _ L λb hb o e=>(F.pin (b,o) (aU _ (aU _ (pQ hb e)))).1,λb hb=>?_⟩
    .by_cases hj:j<T.length
     .have e':(bK T.length none++ix.map λj=>(σ[j]?).getD none)[j]? = some (some v):=e;rw[bY (by rwa[bL]),cX,if_pos hj]at e';exact absurd e' (by simp)
     .have ej:j=T.length+(j-T.length):=by lia
      rw[ej,<-iR]at e ⊢;rwa[k8]
    .obtain⟨o,e,d⟩:=S.obj _ _ L b hb;exact(F.pin (b,o) (aU _ (aU _ (pQ hb e)))).2.1
   refine thn (ht _ _ _ _ _ _ s8 Q H8 _ I8 q8) λok G ⟨K,F,q9⟩=>?_
   cases ok with
   |false=>
    obtain⟨m',lm,w9⟩:=q9;obtain⟨a1,a2,a3⟩:=again F;exact⟨m',lm,i+1,xs,K,a1,a2,a3,w9⟩
   |true=>
    refine thn (he _ _ _ _ _ _ G Q K _ F q9) λy s10 ⟨v,H10,I10,ry,f,m',lm,w10⟩=>?_
    refine thn (v7 _ s10 Q H10 (.ref D) [v] (.ref D) [y] (λ_ Hn=>Hn=upd H10 D (.lst (xs++[v]))) I10 rfl (.cons ry .nil) ⟨D,xs,v,rfl,rfl,f,hz,rfl⟩) λ_ s11 ⟨_,H11,I11,_,e11⟩=>?_
    subst e11;obtain⟨a1,a2,a3⟩:=again I11;exact⟨m',lm,i+1,_,_,a1,a2,a3,w10⟩
 exact codeAny_compStart_list loop (S.self _ 0 _ _ _ B loop)
def BL(hc:X.calm=true)(T V:List Str)(ix:List Nat)(hi:PI X tg iter wi)
 (hg:∀cl C Y Z fp,PG (blk X (T++V) scope cl C Y Z fp) tg g) (ht:∀cl C Y Z fp,PTs (blk X (T++V) scope cl C Y Z fp) ifs tt) (he:∀cl C Y Z fp,PE (blk X (T++V) scope cl C Y Z fp) elt te)
 (hB:yK X.N X.env.scope.names scope.names V ix=true:=by rfl) (hk:scope.kind = .function:=by rfl) (U:∀y∈scope.names,y.2 ≠ .cell:=by decide +kernel)
 (O:∀x∈scope.names,x.2 = .local->scope.names.lookup x.1=some .local:=by decide +kernel)
 (hfr:∀x∈scope.names,x.2 = .free->x.1∈V:=by decide +kernel) (hs:∀x,foldedSetIterable iter X.env x=pure x:=by intro _;rfl) :
 PE X (.ListComp elt [⟨tg,iter,ifs,0⟩] scope pos) (Et wi g tt te T.length (rC T.length ix)):=by
 intro pins s σ H Q I h;rw[eval_ListComp];refine LC (use:=none) hc hi hg ht he hB hk U O hfr hs I h λD C H' s' m J K hn q=>⟨m,hn,λh' L=>⟨.ref D,H',?_,rfl,q⟩⟩
 obtain⟨M,P,G,R,S,W⟩:=K;exact J.turned (t':=s'.toks) (λb o hb e=>L.extBut b o hb e) M P R S W
end
section
variable{X:Cx}
end
end My
namespace D3
def ex2 {A B C:α->β->Prop} {G:Prop} (h:∃a b,A a b/\B a b/\C a b) (k:∀a b,A a b->B a b->C a b->G):G:=h.elim λa h=>h.elim λb z=>k a b z.1 z.2.1 z.2.2
def ex1{α:Type _}{A B:α->Prop}{G:Prop}(h:∃a,A a/\B a)(k:∀a,A a->B a->G):G:=h.elim λa z=>k a z.1 z.2
def ex4{α β O q:Type _}{A B C:α->β->O->q->Prop}{G:Prop}(h:∃a b c d,A a b c d/\B a b c d/\C a b c d)(k:∀a b c d,A a b c d->B a b c d->C a b c d->G):G:=h.elim λa h=>h.elim λb h=>h.elim λc h=>h.elim λd z=>k a b c d z.1 z.2.1 z.2.2
noncomputable abbrev D:=PyData
inductive U where
 |d (x:D)
 |x (c f:Str) (v:D)
noncomputable abbrev DS:=List (Option U)
inductive Oc where
 |nx (δ:DS)
 |rt (d:D)
 |bk (δ:DS)
 |ct (δ:DS)
 |ex (c f:Str) (v:D)
abbrev FE:=DS->Option D
abbrev FA:=DS->Option (List D)
abbrev FT:=DS->Option Bool
abbrev FS:=DS->Option Oc
abbrev FG:=D->DS->Option DS
def isI:List (D×D)->Bool
 | (.none,.tuple _)::_=>true
 |_=>false
noncomputable def BP:List Str->List D->List (D×D)
 |n::ns,d::ds=>(.str n,d)::BP ns ds
 |_,_=>[]
def uc(C:Addr)(ns:List Str)(ds:List D):List (D×D):=(.none,.tuple [.int (C:Int)])::BP ns ds
mutual
def flat:D->Bool
 | .none=>true
 | .bool _=>true
 | .int _=>true
 | .str _=>true
 | .list _=>false
 | .tuple xs=>flats xs
 | .dict _=>false
def flats:List D->Bool
 |[]=>true
 |x::r=>flat x&&flats r
end
mutual
def nl:D->Nat
 | .none=>0
 | .bool _=>0
 | .int _=>0
 | .str _=>0
 | .list xs=>nls xs+1
 | .tuple xs=>nls xs
 | .dict kvs=>cond (isI kvs) (nlk kvs) 1
def nls:List D->Nat
 |[]=>0
 |x::r=>nl x+nls r
def nlk:List (D×D)->Nat
 |[]=>0
 | (_,x)::r=>nl x+nlk r
end
def fl1:D->Bool
 | .list xs=>flats xs
 |d=>flat d
noncomputable def aA(i:Nat):FE:=λδ=>match δ[i]? with
 |some (some (.d x))=>some x
 |_=>none
def dC(d:D):FE:=λ_=>some d
def dOp(g:D->D->Option D)(fa fb:FE):FE:=λδ=>(fa δ).bind λx=>(fb δ).bind λy=>g x y
def dUn(g:D->Option D)(fa:FE):FE:=λδ=>(fa δ).bind g
def aW:FA:=λ_=>some []
def aj(fa:FE)(fr:FA):FA:=λδ=>(fa δ).bind λx=>(fr δ).bind λr=>some (x::r)
def dTup(fa:FA):FE:=λδ=>(fa δ).bind λl=>if l.length<=sizeLine then some (.tuple l)else none
def d9(fa:FA):FE:=λδ=>(fa δ).bind λl=>if l.length<=sizeLine then some (.list l)else none
def dCall(F:List D->Option D)(fa:FA):FE:=λδ=>(fa δ).bind F
def jG(fa:FE):FE:=λδ=>(fa δ).bind λd=>if flat d=true then some d else none
def dN1(fa:FE):FE:=λδ=>(fa δ).bind λd=>if decide (nl d<=1)=true then some d else none
def wj(fa:FE):FE:=λδ=>(fa δ).bind λd=>if fl1 d=true then some d else none
def TJ(fa fb:FE):FE:=λδ=>(fa δ).bind λx=>match x with
 | .bool true=>fb δ
 | .bool false=>some (.bool false)
 |_=>none
def dOr(fa fb:FE):FE:=λδ=>(fa δ).bind λx=>match x with
 | .bool true=>some (.bool true)
 | .bool false=>fb δ
 |_=>none
def Yc(fa:FE):FE:=λδ=>(fa δ).bind λx=>match x with
 | .bool b=>some (.bool (!b))
 |_=>none
def dIf(c:FT)(fa fb:FE):FE:=λδ=>(c δ).bind λb=>if b=true then fa δ else fb δ
def bG(fa:FE):FT:=λδ=>(fa δ).bind λx=>match x with
 | .bool b=>some b
 |_=>none
def vX(a b:FT):FT:=λδ=>(a δ).bind λx=>if x=true then b δ else some false
def tOr(a b:FT):FT:=λδ=>(a δ).bind λx=>if x=true then some true else b δ
def mD(a:FT):FT:=λδ=>(a δ).map λx=>!x
def fO:FS:=λδ=>some (.nx δ)
def bU(a b:FS):FS:=λδ=>(a δ).bind λo=>match o with
 | .nx δ'=>b δ'
 |o=>some o
noncomputable def ao8(i:Nat)(fe:FE):FS:=λδ=>(fe δ).bind λd=>some (.nx (δ.set i (some (.d d))))
def sIf(c:FT)(a b:FS):FS:=λδ=>(c δ).bind λt=>if t=true then a δ else b δ
def jg(fe:FE):FS:=λδ=>(fe δ).bind λd=>some (.rt d)
def ac4:FS:=λ_=>some (.rt .none)
def JK(fe:FE):FS:=λδ=>(fe δ).bind λ_=>some (.nx δ)
def sBk:FS:=λδ=>some (.bk δ)
def sCt:FS:=λδ=>some (.ct δ)
def gN(i:Nat):FG:=λd δ=>some (δ.set i (some (.d d)))
def nu:List D->DS->Option DS:=λl δ=>match l with
 |[]=>some δ
 |_=>none
noncomputable def fj(g:FG)(r:List D->DS->Option DS):List D->DS->Option DS:=λl δ=>match l with
 |d::Z=>(g d δ).bind λδ'=>r Z δ'
 |[]=>none
def ao9(fe:FE)(g:FG):FS:=λδ=>(fe δ).bind λd=>(g d δ).bind λδ'=>some (.nx δ')
noncomputable def oW(g:FG)(b:FS):List D->DS->Option Oc
 |[],δ=>some (.nx δ)
 |d::r,δ=>(g d δ).bind λZ=>(b Z).bind λo=>match o with
  | .nx δ'=>oW g b r δ'
  | .ct δ'=>oW g b r δ'
  | .bk δ'=>some (.nx δ')
  | .rt v=>some (.rt v)
  | .ex c f v=>some (.ex c f v)
def yN(fi:FA)(g:FG)(b:FS):FS:=λδ=>(fi δ).bind λl=>oW g b l δ
noncomputable def gO(c:FT)(b:FS):Nat->DS->Option Oc
 |0,_=>none
 |n+1,δ=>(c δ).bind λt=>if t=true then(b δ).bind λo=>match o with
     | .nx δ'=>gO c b n δ'
     | .ct δ'=>gO c b n δ'
     | .bk δ'=>some (.nx δ')
     | .rt v=>some (.rt v)
     | .ex c f v=>some (.ex c f v)
  else some (.nx δ)
theorem nW{c:FT}{b:FS}:∀{n:Nat}{δ:DS}{o:Oc},gO c b n δ=some o->∀{m:Nat},n<=m->gO c b m δ=some o
 |0,_,_,h,_,_=>by simp[gO]at h
 |n+1,δ,o,h,0,l=>by lia
 |n+1,δ,o,h,m+1,l=>by
  rw[gO]at h ⊢
  cases Z:c δ with
  |none=>rw[Z]at h;simp at h
  |some t=>
   rw[Z]at h;simp only[aq]at h ⊢
   cases t with
   |false=>exact h
   |true=>
    simp only[if_pos]at h ⊢
    cases hb:b δ with
    |none=>rw[hb]at h;simp at h
    |some q=>
     rw[hb]at h;simp only[aq]at h ⊢
     cases q with
     |nx δ'=>exact nW h (by lia)
     |ct δ'=>exact nW h (by lia)
     |bk δ'=>exact h
     |rt v=>exact h
     |ex c f v=>exact h
def Hz{c:FT}{b:FS}{m:Nat}{δ:DS}{o o':Oc}(h:gO c b n δ=some o)(h':gO c b m δ=some o'):o=o':=by
 have a:=nW h (Nat.le_max_left n m);have Z:=nW h' (Nat.le_max_right n m);rw[a]at Z;exact cU.inj Z
open Classical in
def wu(c:FT)(b:FS):FS:=λδ=>if h:∃o n,gO c b n δ=some o then some (Classical.choose h)else none
def Ay{c:FT}{b:FS}{δ:DS}{o:Oc}(h:gO c b n δ=some o):wu c b δ=some o:=by
 have e:∃o n,gO c b n δ=some o:=⟨o,n,h⟩;unfold wu;rw[dif_pos e];obtain⟨m,hm⟩:=eV e;rw[Hz hm h]
def HB{c:FT}{b:FS}{δ:DS}{o:Oc}(h:wu c b δ=some o):∃n,gO c b n δ=some o:=by
 unfold wu at h;by_cases e:∃o n,gO c b n δ=some o
 .rw[dif_pos e]at h;have:=eV e;rwa[cU.inj h]at this
 .rw[dif_neg e]at h
  cases h
noncomputable def fnD(p q:Nat)(b:FS):List D->Option D:=λds=>if ds.length=p then match b (ds.map (λd=>some (.d d))++bK q none)with
 |some (.rt d)=>some d
 |some (.nx _)=>some .none
 |_=>none
 else none
def jY(t:Nat)(ix:List Nat)(δ:DS):DS:=bK t none++ix.map λj=>(δ[j]?).getD none
noncomputable def iB(g:FG)(c:FT)(e:FE)(δ:DS):List D->Option (List D)
 |[]=>some []
 |d::r=>(g d δ).bind λZ=>(c Z).bind λb=>if b=true then(e Z).bind λx=>(iB g c e δ r).bind λl=>some (x::l)else iB g c e δ r
def lZ(fi:FA)(g:FG)(c:FT)(e:FE)(t:Nat)(ix:List Nat):FE:=λδ=>(fi δ).bind λl=>if l.length<=100000 then(iB g c e (jY t ix δ) l).bind λr=>some (.list r)else none
def yM:FT:=λ_=>some true
noncomputable def gI(g:Int->Int->Option D):D->D->Option D:=λx y=>match x,y with
 | .int i,.int j=>g i j
 |_,_=>none
noncomputable def pIx(n:Nat)(i:Int):Option Nat:=if 0<=i then(if i<n then some i.toNat else none)else if -(n:Int)<=i then some (i+n).toNat else none
def pAt(xs:List D)(i:Int):Option D:=(pIx xs.length i).bind λj=>xs[j]?
def isT(c T:String):Bool:=T==c||(T=="bool"&&c=="int")
def bJ(i:Nat)(fe:FE):FS:=λδ=>if i<δ.length then ao8 i fe δ else none
def lH:D->D->Option D:=gI λi j=>some (.int (i+j))
def TQ:D->D->Option D:=gI λi j=>some (.int (i-j))
def yO(i j:Int):Bool:=decide (i.natAbs<2^64)||decide (j.natAbs<2^64)||(decide (i.natAbs<2^30000)&&decide (j.natAbs<2^30000))
def pY:D->D->Option D:=gI λi j=>if yO i j=true then some (.int (i*j))else none
def HD(_ j:Int):Bool:=decide (j≠0)&&decide (j.natAbs<2^9000)
def Eu:D->D->Option D:=gI λi j=>if HD i j=true then some (.int (i.fdiv j))else none
def mF:D->D->Option D:=gI λi j=>if decide (j≠0)=true then some (.int (i.fmod j))else none
def Yd(i j:Int):Bool:=decide (0<=j)&&decide (j<=1000)&&decide (i.natAbs<2^64)
def Ob:D->D->Option D:=gI λi j=>if Yd i j=true then some (.int (i^j.toNat))else none
def gLt:D->D->Option D:=gI λi j=>some (.bool (decide (i<j)))
def gLe:D->D->Option D:=gI λi j=>some (.bool (decide (i<=j)))
def gGt:D->D->Option D:=gI λi j=>some (.bool (decide (j<i)))
def gGe:D->D->Option D:=gI λi j=>some (.bool (decide (j<=i)))
def gEq:D->D->Option D:=λx y=>if(dLq x&&dLq y)=true then some (.bool (dA x y))else none
def gNe:D->D->Option D:=λx y=>if(dLq x&&dLq y)=true then some (.bool (!PyData.eqv x y))else none
def gNl(i:Nat):FG:=λd δ=>if i<δ.length then gN i d δ else none
def gTn(n:Nat)(g:List D->DS->Option DS):FG:=λd δ=>match d with
 | .tuple l=>if l.length=n then g l δ else none
 |_=>none
def BR(i:Nat)(f:FE):FS:=λδ=>(aA i δ).bind λx=>(f δ).bind λd=>match x with
 | .list l=>if l.length<1000000 then some (.nx (δ.set i (some (.d (.list (l++[d]))))))else none
 |_=>none
def ap0(i:Nat)(fk f:FE):FS:=λδ=>(f δ).bind λd=>(aA i δ).bind λx=>(fk δ).bind λk=>match x,k with
 | .list l,.int j=>(pIx l.length j).bind λn=>some (.nx (δ.set i (some (.d (.list (l.set n d))))))
 |_,_=>none
def ap1:D->Option (List D)
 | .list l=>some l
 | .tuple l=>some l
 |_=>none
def putAt(x:D)(n:Nat)(d:D):D:=match x with
 | .list l=>.list (l.set n d)
 | .tuple l=>.tuple (l.set n d)
 |x=>x
noncomputable def asList:D->Option (List D)
 | .list l=>some l
 |_=>none
def TX(f:FE):FA:=λδ=>(f δ).bind asList
noncomputable def iK(lo hi:Int):List D:=(b_ (hi-lo).toNat).map λ(k:Nat)=>.int (lo+(k:Int))
def tu(i:Int):Bool:=decide (-(2^62)<=i)&&decide (i<2^62)
def uW(fa:FA):FA:=λδ=>(fa δ).bind λl=>match l with
 |[.int j]=>if tu j=true then some (iK 0 j)else none
 |_=>none
def JL(fa:FA):FA:=λδ=>(fa δ).bind λl=>match l with
 |[.int i,.int j]=>if(tu i&&tu j)=true then some (iK i j)else none
 |_=>none
def gIx:D->D->Option D:=λx y=>match x,y with
 | .list l,.int i=>pAt l i
 | .tuple l,.int i=>pAt l i
 |_,_=>none
noncomputable def oE(g g':D->D->Option D)(fa fb fc:FE):FE:=λδ=>(fa δ).bind λx=>(fb δ).bind λy=>(g x y).bind λz=>match z with
 | .bool true=>(fc δ).bind λw=>g' y w
 | .bool false=>some (.bool false)
 |_=>none
noncomputable def JM(g g' q:D->D->Option D)(fa fb fc fd:FE):FE:=λδ=>(fa δ).bind λx=>(fb δ).bind λy=>(g x y).bind λz=>match z with
 | .bool true=>(fc δ).bind λw=>(g' y w).bind λZ=>match Z with
  | .bool true=>(fd δ).bind λu=>q w u
  | .bool false=>some (.bool false)
  |_=>none
 | .bool false=>some (.bool false)
 |_=>none
noncomputable def isNone:D->Bool
 | .none=>true
 |_=>false
def Ye:D->Option D:=λx=>some (.bool (isNone x))
def ac5:D->Option D:=λx=>some (.bool (!isNone x))
def BW:List D->Option D
 |[.list l]=>some (.int l.length)
 |[.tuple l]=>some (.int l.length)
 |_=>none
noncomputable def kE:List D->Option (List Int)
 |[]=>some []
 | .int i::r=>(kE r).map (i :: ·)
 |_=>none
def mxI(i:Int)(r:List Int):Int:=r.foldl (λa b=>if a<b then b else a) i
def Ew:List D->Option D
 |[.list l]=>match kE l with
  |some (i::r)=>some (.int (mxI i r))
  |_=>none
 |_=>none
noncomputable def insI(x:Int):List Int->List Int
 |[]=>[x]
 |y::r=>if x<=y then x::y::r else y::insI x r
def xR:List Int->List Int
 |[]=>[]
 |x::r=>insI x (xR r)
def xT:List D->Option D
 |[.int i]=>some (.int i)
 |[.bool b]=>some (.int (if b then 1 else 0))
 |_=>none
def ap2:List D->Option D
 |[.int i]=>some (.int (if i<0 then -i else i))
 |_=>none
def JN:List D->Option D
 |[.int i,.int j]=>some (.int (if j>i then j else i))
 |_=>none
def JQ:List D->Option D
 |[.int i,.int j]=>some (.int (if j<i then j else i))
 |_=>none
noncomputable def tyD:D->String
 | .none => "NoneType"
 | .bool _ => "bool"
 | .int _ => "int"
 | .str _ => "str"
 | .list _ => "list"
 | .tuple _ => "tuple"
 | .dict _ => "dict"
def noI:D->Bool
 | .dict kvs=>!isI kvs
 |_=>true
def gIs(c:String):D->Option D:=λd=>if noI d=true then some (.bool (isT c (tyD d)))else none
def rD:D->Option D
 | .int i=>some (.int (-i))
 |_=>none
noncomputable def oX:D->D->Option D:=λx y=>match x,y with
 | .list l,.list m=>if l.length+m.length<=1000000 then some (.list (l++m))else none
 |_,_=>none
def wY:D->Option D
 | .list l=>some (.list l)
 | .tuple l=>some (.list l)
 |_=>none
abbrev FO:=DS->Option (Option Int)
def yP:FO:=λ_=>some none
def yQ(f:FE):FO:=λδ=>(f δ).bind λx=>match x with
 | .int i=>some (some i)
 |_=>none
noncomputable def pSx(n d:Nat):Option Int->Nat
 |none=>d
 |some i=>if i<0 then(i+n).toNat else min i.toNat n
def cuD(xs:List D)(lo hi:Option Int):List D:=(xs.drop (pSx xs.length 0 lo)).take (pSx xs.length xs.length hi-pSx xs.length 0 lo)
def dSl(f:FE)(lo hi:FO):FE:=λδ=>(f δ).bind λx=>(lo δ).bind λa=>(hi δ).bind λb=>match x with
 | .list l=>some (.list (cuD l a b))
 |_=>none
noncomputable def ap3(i j:Nat)(fa:FA):FS:=λδ=>(fa δ).bind λl=>match l with
 |[x,y]=>if i<δ.length/\j<δ.length then some (.nx ((δ.set i (some (.d x))).set j (some (.d y))))else none
 |_=>none
noncomputable def rE(l:List D):List D:=l.mapIdx λi x=>.tuple [.int (i:Int),x]
def JR(f:FE):FA:=λδ=>(f δ).bind λd=>match d with
 | .list l=>some (rE l)
 |_=>none
def mnI(i:Int)(r:List Int):Int:=r.foldl (λa b=>if b<a then b else a) i
def Od:List D->Option D
 |[.list l]=>match kE l with
  |some (i::r)=>some (.int (mnI i r))
  |_=>none
 |_=>none
noncomputable def jL:List D->Option (List Bool)
 |[]=>some []
 | .bool b::r=>(jL r).map (b :: ·)
 |_=>none
def HJ:List D->Option D
 |[.list l]=>(jL l).map λbs=>.bool (bs.all id)
 |_=>none
noncomputable def ud:List D->List D->List D
 |x::r,y::s=>.tuple [x,y]::ud r s
 |_,_=>[]
def ap4(f g:FE):FA:=λδ=>(f δ).bind λd=>(g δ).bind λe=>match d,e with
 | .list l,.list m=>some (ud l m)
 |_,_=>none
def TY(f:FE):FA:=λδ=>(f δ).bind λd=>match d with
 | .list l=>some l.reverse
 |_=>none
def T3:D->Option D
 | .bool b=>some (.bool b)
 |_=>none
def JT:D->Option D
 | .bool b=>some (.bool (!b))
 |_=>none
theorem uX:∀(r:List Int)(i:Int),mnI i r∈i::r/\∀a∈i::r,mnI i r<=a
 |[],i=>⟨aJ,λa h=>by rw[bQ.mp h];exact nR _⟩
 |b::r,i=>by
  have Z:=uX r (if b<i then b else i);have e:mnI i (b::r)=mnI (if b<i then b else i) r:=rfl;rw[e]
  constructor
  .rcases aL.mp Z.1 with z|z
   .rw[z];split<;>simp
   .exact aH _ (aH _ z)
  .intro a h;have Y:=Z.2 _ aJ;have hb:(if b<i then b else i)<=i/\(if b<i then b else i)<=b:=by split<;>lia
   rcases aL.mp h with rfl|h
   .exact mO Y hb.1
   .rcases aL.mp h with rfl|h
    .exact mO Y hb.2
    .exact Z.2 a (aH _ h)
theorem yR:∀(r:List Int)(i:Int),mxI i r∈i::r/\∀a∈i::r,a<=mxI i r
 |[],i=>⟨aJ,λa h=>by rw[bQ.mp h];exact nR _⟩
 |b::r,i=>by
  have Z:=yR r (if i<b then b else i);have e:mxI i (b::r)=mxI (if i<b then b else i) r:=rfl;rw[e]
  constructor
  .rcases aL.mp Z.1 with z|z
   .rw[z];split<;>simp
   .exact aH _ (aH _ z)
  .intro a h;have Y:=Z.2 _ aJ;have hb:i<=(if i<b then b else i)/\b<=(if i<b then b else i):=by split<;>lia
   rcases aL.mp h with rfl|h
   .exact mO hb.1 Y
   .rcases aL.mp h with rfl|h
    .exact mO hb.2 Y
    .exact Z.2 a (aH _ h)
theorem insI_perm(x:Int):∀l,(insI x l).Perm (x::l)
 |[]=>.refl _
 |y::r=>by
  unfold insI;split
  .exact .refl _
  .exact((insI_perm x r).cons y).trans (.swap x y r)
theorem lJ:∀l,(xR l).Perm l
 |[]=>.refl _
 |x::r=>(insI_perm x _).trans ((lJ r).cons x)
theorem wZ(x:Int):∀l,l.Pairwise (· <= ·)->(insI x l).Pairwise (· <= ·)
 |[],_=>by simp[insI]
 |y::r,h=>by
  obtain⟨h1,h2⟩:=fD.mp h;unfold insI;split
  .next c=>
   refine fD.mpr ⟨λa ha=>?_,h⟩;rcases aL.mp ha with rfl|z
   .exact c
   .exact mO c (h1 a z)
  .next c=>
   refine fD.mpr ⟨λa ha=>?_,wZ x r h2⟩;rcases aL.mp ((insI_perm x r).mem_iff.mp ha)with rfl|z
   .lia
   .exact h1 a z
theorem w6:∀l,(xR l).Pairwise (· <= ·)
 |[]=>.nil
 |x::r=>wZ x _ (w6 r)
end D3
variable{f fb fc fk fe:D3.FE}{fa:D3.FA}{δ:D3.DS}{ft gt:D3.FT}{dd:List D3.D}
variable{u:L2.HO}{kvs:List (D3.D×D3.D)}{d:D3.D}{ds:List D3.D}{as:List Addr}{δ:D3.DS}{L:List Nat}
namespace D3
open L2 My
abbrev Ok:=Addr->Prop
abbrev St:=L2.St
class Chg (u:HO):Prop where
 ch:(∃xs,u = .lst xs)\/(∃kvs,u = .dK kvs)\/∃kvs,u = .dT kvs
instance (xs:List V):Chg (.lst xs):=⟨.inl ⟨xs,rfl⟩⟩
instance (kvs:List (Key×V)):Chg (.dK kvs):=⟨.inr (.inl ⟨kvs,rfl⟩)⟩
instance (kvs:List (List Key×V)):Chg (.dT kvs):=⟨.inr (.inr ⟨kvs,rfl⟩)⟩
def Chg.frz{o:Obj}{u:HO}(h:Chg (.frz o u)):False:=by
 rcases h.ch with⟨_,z⟩|⟨_,z⟩|⟨_,z⟩<;>cases z
def Chg.tup{xs:List V}(h:Chg (.tup xs)):False:=by
 rcases h.ch with⟨_,z⟩|⟨_,z⟩|⟨_,z⟩<;>cases z
def Chg.ins{dx:Addr}{fs:List (Str×V)}(h:Chg (.ins C dx fs)):False:=by
 rcases h.ch with⟨_,z⟩|⟨_,z⟩|⟨_,z⟩<;>cases z
def Chg.own{x:Addr}(h:Chg (.own x)):False:=by
 rcases h.ch with⟨_,z⟩|⟨_,z⟩|⟨_,z⟩<;>cases z
def Chd(o:Option HO):Prop:=∃u,o=some u/\Chg u
def Chd.ne {o:Option HO}(h:Chd o):o≠none:=by
 obtain⟨u,rfl,_⟩:=h;simp
def SqK(K:PySem.W.Frag)(H:Hp)(a:Addr)(xs:List V):Prop:=(∃o,H a=some (.frz o (.lst xs))) \/
 ∃(o:Obj)(its:Array Value)(n:Nat),K.lookup a=some o/\o.cls = .type "list"/\o.dict=none/\o.data = .seq its n/\its.size<=sizeLine/\Vals xs its.toList
def SqK.sq(h:SqK K H a xs):SqL K H a xs:=by
 rcases h with⟨o,h⟩|h
 .exact .inl (.inr ⟨o,h⟩)
 .exact .inr h
def iD(H:Hp)(a:Addr)(xs:List V):Prop:=H a=some (.tup xs)
def iD.sq(h:iD H a xs):SqT K H a xs:=.inl (.inl h)
def iD.same(e:Same H H')(h:iD H a xs):iD H' a xs:=e _ _ h
def iD.upd [O:Chg u] (h:H a=some u) (q:iD H c xs):iD (upd H a o) c xs:=by
 unfold iD;rwa[bA (dJ q h (by intro z;subst z;exact O.tup))]
noncomputable def dk0:List (D×D)->List (Key×V)
 |[]=>[]
 | (.int i,.int j)::r=>(.inl i,.int j)::dk0 r
 | (.int i,.bool true)::r=>(.inl i,.bl true)::dk0 r
 | (.str x,.int j)::r=>(.inr x,.int j)::dk0 r
 |_::r=>(.inl 0,.non)::dk0 r
noncomputable def tkK:List D->Option (List Key)
 |[]=>some []
 | .int i::r=>(tkK r).map (.inl i :: ·)
 |_=>none
def tkD:List (D×D)->Option (List (List Key×V))
 |[]=>some []
 | (.tuple l,.bool true)::r=>(tkK l).bind λk=>(tkD r).map ((k,.bl true) :: ·)
 |_=>none
def dh0(kvs:List (D×D)):HO:=match kvs with
 |[]=>.dK []
 |q::r=>match tkD (q::r)with
  |some ts=>.dT ts
  |none=>.dK (dk0 (q::r))
theorem Oe(kvs:List (D×D)):(∃ks,dh0 kvs = .dK ks)\/∃ks,dh0 kvs = .dT ks:=by
 cases kvs with
 |nil=>exact .inl ⟨_,rfl⟩
 |cons q r=>
  unfold dh0;dsimp only;split
  .exact .inr ⟨_,rfl⟩
  .exact .inl ⟨_,rfl⟩
instance (kvs:List (D×D)):Chg (dh0 kvs):=⟨by
 rcases Oe kvs with⟨ks,z⟩|⟨ks,z⟩
 .exact .inr (.inl ⟨ks,z⟩)
 .exact .inr (.inr ⟨ks,z⟩)⟩
def scV:D->V
 | .int i=>.int i
 |_=>.non
def scs:List D->Bool
 |[]=>true
 | .int _::r=>scs r
 | .none::r=>scs r
 |_=>false
def TV(H:Hp)(v:V)(d:D):Prop:=(v = .non/\d = .none)\/∃b ds,v = .ref b/\d = .tuple ds/\iD H b (ds.map scV)/\scs ds=true
inductive TVs(H:Hp):List (Key×V)->List (D×D)->Prop
 |nil:TVs H [] []
 |cons {i:Int} {v:V} {d:D} {r:List (Key×V)} {r':List (D×D)}:TV H v d->TVs H r r'->TVs H ((.inl i,v)::r) ((.int i,d)::r')
def TV.imp(h:∀b xs,iD H b xs->iD H' b xs) {v:V}(q:TV H v c):TV H' v c:=by
 rcases q with q|⟨b,ds,h1,h2,h3,h4⟩
 .exact .inl q
 .exact .inr ⟨b,ds,h1,h2,h _ _ h3,h4⟩
theorem TVs.imp(h:∀b xs,iD H b xs->iD H' b xs) (q:TVs H c k):TVs H' c k:=by
 induction q with
 |nil=>exact .nil
 |cons t _ Z=>exact .cons (t.imp h) Z
def yS:List (D×D)->Bool
 |[]=>true
 | (_,.int _)::r=>yS r
 | (_,.bool _)::r=>yS r
 |_=>false
def TW(H:Hp)(v:V)(m:List Int)(z:Int):Prop:=∃b c,v = .ref b/\iD H b [.ref c,.int z]/\iD H c (m.map V.int)
inductive TTs(H:Hp):List (List Key×V)->List (D×D)->Prop
 |nil:TTs H [] []
 |cons {k m:List Int} {z:Int} {v:V} {r:List (List Key×V)} {r':List (D×D)}:TW H v m z->TTs H r r'->TTs H ((k.map ei,v)::r) ((.tuple (k.map .int),.tuple [.tuple (m.map .int),.int z])::r')
theorem TTs.imp(h:∀b xs,iD H b xs->iD H' b xs) (q:TTs H k z):TTs H' k z:=by
 induction q with
 |nil=>exact .nil
 |cons t _ Z=>
  obtain⟨b,c,h1,h2,h3⟩:=t;exact .cons ⟨b,c,h1,h _ _ h2,h _ _ h3⟩ Z
def DH(H:Hp)(u:HO)(kvs:List (D×D)):Prop:=(yS kvs=true/\u=dh0 kvs)\/(∃ks,u = .dK ks/\TVs H ks kvs)\/∃q ks,u = .dT (q::ks)/\TTs H (q::ks) kvs
def DH.imp(h:∀b xs,iD H b xs->iD H' b xs) (q:DH H c t):DH H' c t:=by
 rcases q with q|⟨ks,q1,q2⟩|⟨k,ks,q1,q2⟩
 .exact .inl q
 .exact .inr (.inl ⟨ks,q1,q2.imp h⟩)
 .exact .inr (.inr ⟨k,ks,q1,q2.imp h⟩)
def DH.same(q:DH H u kvs)(e:Same H H'):DH H' u kvs:=q.imp λ_ _ h=>iD.same e h
def DH.upd [U:Chg u] (q:DH H O c) (h:H a=some u):DH (upd H a o) O c:=q.imp λ_ _ z=>iD.upd h z
def DH.or(q:DH H u kvs):(∃ks,u = .dK ks)\/∃ks,u = .dT ks:=by
 rcases q with⟨_,rfl⟩|⟨ks,rfl,_⟩|⟨k,ks,rfl,_⟩
 .exact Oe kvs
 .exact .inl ⟨ks,rfl⟩
 .exact .inr ⟨_,rfl⟩
def DH.chg(q:DH H u kvs):Chg u:=⟨.inr q.or⟩
def DH.old(q:DH H u kvs)(h:yS kvs=true):u=dh0 kvs:=by
 rcases q with q|⟨ks,rfl,q⟩|⟨k,ks,rfl,q⟩
 .exact q.2
 .cases q with
  |nil=>rfl
  |cons t _=>
   rcases t with⟨_,rfl⟩|⟨_,_,_,rfl,_,_⟩<;>cases h
 .cases q with
  |cons _ _=>cases h
def Og(h:isI kvs=true):∃x r,kvs=(.none,.tuple x)::r:=by
 unfold isI at h;split at h
 .exact⟨_,_,rfl⟩
 .cases h
theorem JV(h:yS kvs=true):isI kvs=false:=by
 cases q:isI kvs with
 |false=>rfl
 |true=>
  obtain⟨x,r,rfl⟩:=Og q
  cases h
theorem DH.isI(q:DH H u kvs):D3.isI kvs=false:=by
 cases h:D3.isI kvs with
 |false=>rfl
 |true=>
  obtain⟨x,r,rfl⟩:=Og h;rcases q with⟨z,_⟩|⟨ks,_,z⟩|⟨k,ks,_,z⟩
  .cases z
  .cases z
  .generalize k::ks=l at z;generalize Z:((PyData.none,eb x)::r:List (D×D))=m at z
   cases z with
   |nil=>cases Z
   |cons _ _=>cases Z
theorem Oh:∀{ns:List Str}{ds:List D},ns.length=ds.length->nlk (BP ns ds)=nls ds
 |[],[],_=>rfl
 |n::ns,d::ds,h=>by
  rw[BP,nlk,nls,Oh (Nat.succ.inj h)]
mutual
inductive RA(K:PySem.W.Frag)(ok:Ok)(pl:Bool)(H:Hp):V->D->Prop
 |non:RA K ok pl H .non .none
 |bl (b:Bool):RA K ok pl H (.bl b) (.bool b)
 |int (i:Int):RA K ok pl H (.int i) (.int i)
 |str (x:Str):RA K ok pl H (.str x) (.str x)
 |lst {a:Addr} {xs:List V} {ds:List D}:H a=some (.lst xs)->ok a->RAs K ok pl H xs ds->RA K ok pl H (.ref a) (.list ds)
 |lsk {a:Addr} {xs:List V} {ds:List D}:SqK K H a xs->pl=true->RAs K ok pl H xs ds->RA K ok pl H (.ref a) (.list ds)
 |tup {a:Addr} {xs:List V} {ds:List D}:iD H a xs->RAs K ok pl H xs ds->RA K ok pl H (.ref a) (.tuple ds)
 |dic {a:Addr} {u:HO} {kvs:List (D×D)}:H a=some u->DH H u kvs->ok a->RA K ok pl H (.ref a) (.dict kvs)
 |dik {a:Addr} {u:HO} {kvs:List (D×D)} {o:Obj}:H a=some (.frz o u)->DH H u kvs->pl=true->RA K ok pl H (.ref a) (.dict kvs)
 |ins {a C dx:Addr} {fs:List (Str×V)} {ds:List D} {kvs:List (D×D)}:H a=some (.ins C dx fs)->H dx=some (.own a)->RAs K ok pl H (fs.map (·.2)) ds->kvs=uc C (fs.map (·.1)) ds->RA K ok pl H (.ref a) (.dict kvs)
inductive RAs(K:PySem.W.Frag)(ok:Ok)(pl:Bool)(H:Hp):List V->List D->Prop
 |nil:RAs K ok pl H [] []
 |cons {v:V} {d:D} {vs:List V} {ds:List D}:RA K ok pl H v d->RAs K ok pl H vs ds->RAs K ok pl H (v::vs) (d::ds)
end
section
variable{ok ok':Ok}{pl pl':Bool}{H H':Hp}
def RA.ind{P:V->D->Prop}{Q:List V->List D->Prop}(c1:P .non .none)(c2:∀b,P (.bl b) (.bool b))(c3:∀i,P (.int i) (.int i))(c4:∀x,P (.str x) (.str x))
 (c5:∀{a:Addr}{xs:List V}{ds:List D},H a=some (.lst xs)->ok a->Q xs ds->P (.ref a) (.list ds)) (c6:∀{a:Addr}{xs:List V}{ds:List D},SqK K H a xs->pl=true->Q xs ds->P (.ref a) (.list ds)) (c7:∀{a:Addr}{xs:List V}{ds:List D},iD H a xs->Q xs ds->P (.ref a) (.tuple ds))
 (c8:∀{a:Addr}{u:HO}{kvs:List (D×D)},H a=some u->DH H u kvs->ok a->P (.ref a) (.dict kvs)) (Z:∀{a:Addr}{u:HO}{kvs:List (D×D)}{o:Obj},H a=some (.frz o u)->DH H u kvs->pl=true->P (.ref a) (.dict kvs)) (O:∀{a C dx:Addr}{fs:List (Str×V)}{ds:List D}{kvs:List (D×D)},H a=some (.ins C dx fs)->H dx=some (.own a)->Q (fs.map (·.2)) ds->kvs=uc C (fs.map (·.1)) ds->P (.ref a) (.dict kvs)) (Y:Q [] []) (U:∀{v:V}{d:D}{vs:List V}{ds:List D},P v d->Q vs ds->Q (v::vs) (d::ds)) :
 (∀{v:V}{d:D},RA K ok pl H v d->P v d)/\∀{v:List V}{d:List D},RAs K ok pl H v d->Q v d:=
 ⟨λh=>RA.rec (motive_1:=λv d _=>P v d) (motive_2:=λv d _=>Q v d) c1 c2 c3 c4 (λh o _ q=>c5 h o q) (λh o _ q=>c6 h o q) (λh _ q=>c7 h q) (λh g o=>c8 h g o) (λh g o=>Z h g o) (λh g _ e q=>O h g q e) Y (λ_ _ a q=>U a q) h,
  λh=>RAs.rec (motive_1:=λv d _=>P v d) (motive_2:=λv d _=>Q v d) c1 c2 c3 c4 (λh o _ q=>c5 h o q) (λh o _ q=>c6 h o q) (λh _ q=>c7 h q) (λh g o=>c8 h g o) (λh g o=>Z h g o) (λh g _ e q=>O h g q e) Y (λ_ _ a q=>U a q) h⟩
def RA.imp2(U:∀a,ok a->ok' a)(O:pl=true->pl'=true):(∀{v:V}{d:D},RA K ok pl H v d->RA K ok' pl' H v d)/\∀{v:List V}{d:List D},RAs K ok pl H v d->RAs K ok' pl' H v d:=
 RA.ind .non .bl .int .str (λh o q=>.lst h (U _ o) q) (λh o q=>.lsk h (O o) q) (λh q=>.tup h q) (λh g o=>.dic h g (U _ o)) (λh g o=>.dik h g (O o)) (λh g q e=>.ins h g q e) .nil .cons
def RA.imp(O:∀a,ok a->ok' a)(q:pl=true->pl'=true){v:V}{d:D}(h:RA K ok pl H v d):RA K ok' pl' H v d:=(RA.imp2 O q).1 h
def RAs.imp(O:∀a,ok a->ok' a)(q:pl=true->pl'=true) {v:List V}(h:RAs K ok pl H v c):RAs K ok' pl' H v c:=(RA.imp2 O q).2 h
def SqK.same(e:Same H H')(h:SqK K H a xs):SqK K H' a xs:=by
 rcases h with⟨o,h⟩|h
 .exact .inl ⟨o,e _ _ h⟩
 .exact .inr h
def RA.same2(e:Same H H'):(∀{v:V}{d:D},RA K ok pl H v d->RA K ok pl H' v d)/\∀{v:List V}{d:List D},RAs K ok pl H v d->RAs K ok pl H' v d:=
 RA.ind .non .bl .int .str (λh o q=>.lst (e _ _ h) o q) (λh o q=>.lsk (h.same e) o q) (λh q=>.tup (iD.same e h) q) (λh g o=>.dic (e _ _ h) (g.same e) o) (λh g o=>.dik (e _ _ h) (g.same e) o) (λh g q Z=>.ins (e _ _ h) (e _ _ g) q Z) .nil .cons
def RA.same(e:Same H H') (h:RA K ok pl H c k):RA K ok pl H' c k:=(RA.same2 e).1 h
def RAs.same(e:Same H H') (h:RAs K ok pl H c k):RAs K ok pl H' c k:=(RA.same2 e).2 h
def RA.flat2:(∀{v:V}{d:D},RA K ok pl H v d->flat d=true->RA K ok' pl' H v d)/\∀{v:List V}{d:List D},RAs K ok pl H v d->flats d=true->RAs K ok' pl' H v d:=
 RA.ind (λ_=>.non) (λb _=>.bl b) (λi _=>.int i) (λx _=>.str x) (λ_ _ _ h=>by simp[D3.flat]at h) (λ_ _ _ h=>by simp[D3.flat]at h) (λt q h=>.tup t (q (by simpa[D3.flat]using h))) (λ_ _ _ h=>by simp[D3.flat]at h) (λ_ _ _ h=>by simp[D3.flat]at h) (λ_ _ _ _ h=>by simp[D3.flat]at h) (λ_=>.nil) λa q h=>by
  rw[flats,aO]at h;exact .cons (a h.1) (q h.2)
def RA.flat(q:flat d=true)(h:RA K ok pl H v d):RA K ok' pl' H v d:=RA.flat2.1 h q
def RAs.flat (q:flats k=true) (h:RAs K ok pl H c k):RAs K ok' pl' H c k:=RA.flat2.2 h q
def SqK.upd [O:Chg u] (h:H a=some u) (q:SqK K H c xs):SqK K (upd H a o) c xs:=by
 rcases q with⟨o',q⟩|q
 .refine .inl ⟨o',?_⟩;rwa[bA (dJ q h (by intro z;subst z;first|exact O.frz|exact O.tup))]
 .exact .inr q
def RA.upd2[O:Chg u](h:H a=some u)(U:¬ok a):(∀{v:V}{d:D},RA K ok pl H v d->RA K ok pl (upd H a o) v d)/\∀{v:List V}{d:List D},RAs K ok pl H v d->RAs K ok pl (upd H a o) v d:=
 RA.ind .non .bl .int .str (λe k q=>.lst (by rw[bA (by intro z;subst z;exact U k)];exact e) k q) (λe k q=>.lsk (e.upd h) k q) (λe q=>.tup (iD.upd h e) q) (λe g k=>.dic (by rw[bA (by intro z;subst z;exact U k)];exact e) (g.upd h) k) (λe g k=>.dik (by rw[bA (dJ e h (by intro z;subst z;exact O.frz))];exact e) (g.upd h) k) (λe g q Z=>.ins (by rw[bA (dJ e h (by intro z;subst z;exact O.ins))];exact e) (by rw[bA (dJ g h (by intro z;subst z;exact O.own))];exact g) q Z) .nil .cons
def RA.upd[O:Chg u](h:H a=some u)(q:¬ok a) (r:RA K ok pl H c k):RA K ok pl (upd H a o) c k:=(RA.upd2 h q).1 r
def RAs.upd[O:Chg u](h:H a=some u)(q:¬ok a) (r:RAs K ok pl H c k):RAs K ok pl (upd H a o) c k:=(RA.upd2 h q).2 r
def RA.track2:(∀{v:V}{d:D},RA K ok pl H v d->RA K (λb=>ok b/\H b≠none) pl H v d)/\∀{v:List V}{d:List D},RAs K ok pl H v d->RAs K (λb=>ok b/\H b≠none) pl H v d:=
 RA.ind .non .bl .int .str (λe k q=>.lst e ⟨k,by rw[e];simp⟩ q) (λe k q=>.lsk e k q) (λe q=>.tup e q) (λe g k=>.dic e g ⟨k,by rw[e];simp⟩) (λe g k=>.dik e g k) (λh g q e=>.ins h g q e) .nil .cons
def RA.track(h:RA K ok pl H v d):RA K (λb=>ok b/\H b≠none) pl H v d:=RA.track2.1 h
def RAs.track (h:RAs K ok pl H c k):RAs K (λb=>ok b/\H b≠none) pl H c k:=RA.track2.2 h
theorem RAs.length:∀{v:List V}{d:List D},RAs K ok pl H v d->v.length=d.length
 |_,_,.nil=>rfl
 |_,_,.cons _ q=>by simp[RAs.length q]
theorem RAs.get:∀{v:List V}{d:List D}{i:Nat}{x:D},RAs K ok pl H v d->d[i]? = some x->∃y,v[i]? = some y/\RA K ok pl H y x
 |_,_,_,_,.nil,h=>by simp at h
 |_,_,0,_,.cons a _,h=>by simp at h;subst h;exact⟨_,rfl,a⟩
 |_,_,i+1,_,.cons _ q,h=>by
  obtain⟨y,e,r⟩:=RAs.get (i:=i) q (by simpa using h);exact⟨y,by simpa using e,r⟩
theorem RAs.append:∀{v O:List V}{d d':List D},RAs K ok pl H v d->RAs K ok pl H O d'->RAs K ok pl H (v++O) (d++d')
 |_,_,_,_,.nil,q=>q
 |_,_,_,_,.cons a r,q=>.cons a (RAs.append r q)
theorem RAs.take:∀{v:List V}{d:List D}(n:Nat),RAs K ok pl H v d->RAs K ok pl H (v.take n) (d.take n)
 |_,_,0,_=>by simp;exact .nil
 |_,_,_+1,.nil=>.nil
 |_,_,n+1,.cons a q=>.cons a (RAs.take n q)
theorem RAs.drop:∀{v:List V}{d:List D}(n:Nat),RAs K ok pl H v d->RAs K ok pl H (v.drop n) (d.drop n)
 |_,_,0,q=>q
 |_,_,_+1,.nil=>.nil
 |_,_,n+1,.cons _ q=>RAs.drop n q
theorem RAs.reverse:∀{v:List V}{d:List D},RAs K ok pl H v d->RAs K ok pl H v.reverse d.reverse
 |_,_,.nil=>.nil
 |_,_,.cons a q=>by
  rw[jh,jh];exact(RAs.reverse q).append (.cons a .nil)
def RA.rd2:(∀{v:V}{d:D},RA K ok pl H v d->d.canLay0=true->RdV K H v d)/\∀{v:List V}{d:List D},RAs K ok pl H v d->ee d=true->RdVs K H v d:=
 RA.ind (λ_=>.non) (λb _=>.bl b) (λi _=>.int i) (λx _=>.str x) (λe _ q h=>.lst (SqL.of e) (q (by simpa[dP]using h))) (λe _ q h=>.lst e.sq (q (by simpa[dP]using h))) (λe q h=>.tup e.sq (q (by simpa[dP]using h))) (λ_ _ _ h=>by simp[dP]at h) (λ_ _ _ h=>by simp[dP]at h) (λ_ _ _ _ h=>by simp[dP]at h) (λ_=>.nil) λa q h=>by
  rw[ee,aO]at h;exact .cons (a h.1) (q h.2)
def RA.rd(q:d.canLay0=true)(h:RA K ok pl H v d):RdV K H v d:=RA.rd2.1 h q
def RA.intE(h:RA K ok pl H v (.int i)):v = .int i:=by cases h;rfl
def RA.blE(h:RA K ok pl H v (.bool b)):v = .bl b:=by cases h;rfl
def RA.strE(h:RA K ok pl H v (.str x)):v = .str x:=by cases h;rfl
theorem RA.lstE(h:RA K ok pl H v (.list ds)):∃a xs,v = .ref a/\SqL K H a xs/\RAs K ok pl H xs ds:=by
 cases h with
 |lst e k q=>exact⟨_,_,rfl,SqL.of e,q⟩
 |lsk e k q=>exact⟨_,_,rfl,e.sq,q⟩
theorem RA.dicU(h:RA K ok pl H v (.dict kvs))(hx:isI kvs=false):∃a u,v = .ref a/\L2.Rd H a u/\DH H u kvs:=by
 cases h with
 |dic e g k=>exact⟨_,_,rfl,.inl e,g⟩
 |dik e g k=>exact⟨_,_,rfl,.inr ⟨_,e⟩,g⟩
 |ins _ _ _ e=>rw[e]at hx;cases hx
def RA.dicE(h:RA K ok pl H v (.dict kvs))(q:yS kvs=true):∃a,v = .ref a/\L2.Rd H a (dh0 kvs):=by
 obtain⟨a,u,h1,h2,h3⟩:=h.dicU (JV q);rw[h3.old q]at h2;exact⟨a,h1,h2⟩
theorem RA.tupE(h:RA K ok pl H v (.tuple ds)):∃a xs,v = .ref a/\SqT K H a xs/\RAs K ok pl H xs ds:=by
 cases h with
 |tup e q=>exact⟨_,_,rfl,e.sq,q⟩
end
inductive Fl where
 |A
 |O
 |L
 |N
 |M
 |W
 deriving DecidableEq
def isN:Option Fl->Bool
 |some .N=>true
 |some .M=>true
 |some .W=>true
 |_=>false
mutual
inductive RT(K:PySem.W.Frag)(H:Hp):V->D->List Addr->Prop
 |non:RT K H .non .none []
 |bl (b:Bool):RT K H (.bl b) (.bool b) []
 |int (i:Int):RT K H (.int i) (.int i) []
 |str (x:Str):RT K H (.str x) (.str x) []
 |lst {a:Addr} {xs:List V} {ds:List D} {as:List Addr}:H a=some (.lst xs)->RTs K H xs ds as->RT K H (.ref a) (.list ds) (a::as)
 |tup {a:Addr} {xs:List V} {ds:List D} {as:List Addr}:iD H a xs->RTs K H xs ds as->RT K H (.ref a) (.tuple ds) as
 |dic {a:Addr} {u:HO} {kvs:List (D×D)}:H a=some u->DH H u kvs->RT K H (.ref a) (.dict kvs) [a]
 |ins {a C dx:Addr} {fs:List (Str×V)} {ds:List D} {kvs:List (D×D)} {as:List Addr}:H a=some (.ins C dx fs)->H dx=some (.own a)->RTs K H (fs.map (·.2)) ds as->kvs=uc C (fs.map (·.1)) ds->RT K H (.ref a) (.dict kvs) as
inductive RTs(K:PySem.W.Frag)(H:Hp):List V->List D->List Addr->Prop
 |nil:RTs K H [] [] []
 |cons {v:V} {d:D} {vs:List V} {ds:List D} {as bs:List Addr}:RT K H v d as->RTs K H vs ds bs->RTs K H (v::vs) (d::ds) (as++bs)
end
section
variable{H H':Hp}
def RT.ind{P:V->D->List Addr->Prop}{Q:List V->List D->List Addr->Prop}(c1:P .non .none [])(c2:∀b,P (.bl b) (.bool b) [])(c3:∀i,P (.int i) (.int i) [])(c4:∀x,P (.str x) (.str x) [])
 (c5:∀{a:Addr}{xs:List V}{ds:List D}{as:List Addr},H a=some (.lst xs)->Q xs ds as->P (.ref a) (.list ds) (a::as)) (c7:∀{a:Addr}{xs:List V}{ds:List D}{as:List Addr},iD H a xs->Q xs ds as->P (.ref a) (.tuple ds) as)
 (Z:∀{a:Addr}{u:HO}{kvs:List (D×D)},H a=some u->DH H u kvs->P (.ref a) (.dict kvs) [a]) (O:∀{a C dx:Addr}{fs:List (Str×V)}{ds:List D}{kvs:List (D×D)}{as:List Addr},H a=some (.ins C dx fs)->H dx=some (.own a)->RTs K H (fs.map (·.2)) ds as->Q (fs.map (·.2)) ds as->kvs=uc C (fs.map (·.1)) ds->P (.ref a) (.dict kvs) as) (Y:Q [] [] []) (U:∀{v:V}{d:D}{vs:List V}{ds:List D}{as bs:List Addr},P v d as->Q vs ds bs->Q (v::vs) (d::ds) (as++bs)) :
 (∀{v:V}{d:D}{as:List Addr},RT K H v d as->P v d as)/\∀{v:List V}{d:List D}{as:List Addr},RTs K H v d as->Q v d as:=
 ⟨λh=>RT.rec (motive_1:=λv d as _=>P v d as) (motive_2:=λv d as _=>Q v d as) c1 c2 c3 c4 (λh _ q=>c5 h q) (λh _ q=>c7 h q) (λh g=>Z h g) (λh g r e q=>O h g r q e) Y (λ_ _ a q=>U a q) h,
  λh=>RTs.rec (motive_1:=λv d as _=>P v d as) (motive_2:=λv d as _=>Q v d as) c1 c2 c3 c4 (λh _ q=>c5 h q) (λh _ q=>c7 h q) (λh g=>Z h g) (λh g r e q=>O h g r q e) Y (λ_ _ a q=>U a q) h⟩
theorem RTs.len:∀{v:List V}{d:List D}{as:List Addr},RTs K H v d as->v.length=d.length
 |_,_,_,.nil=>rfl
 |_,_,_,.cons _ q=>by rw[aX,aX,RTs.len q]
def RT.ra2{ok:Ok}{pl:Bool}:(∀{v:V}{d:D}{as:List Addr},RT K H v d as->(∀a∈as,ok a)->RA K ok pl H v d)/\∀{v:List V}{d:List D}{as:List Addr},RTs K H v d as->(∀a∈as,ok a)->RAs K ok pl H v d:=
 RT.ind (λ_=>.non) (λb _=>.bl b) (λi _=>.int i) (λx _=>.str x) (λe q h=>.lst e (h _ aJ) (q λa ha=>h a (aH _ ha))) (λe q h=>.tup e (q h)) (λe g h=>.dic e g (h _ aJ)) (λe g _ q Z h=>.ins e g (q h) Z) (λ_=>.nil) λe q h=>.cons (e λa ha=>h a (bH _ ha)) (q λa ha=>h a (aU _ ha))
def RT.ra (r:RT K H v d as) (h:∀a∈as,ok a):RA K ok c H v d:=RT.ra2.1 r h
def RT.same2(s:Same H H'):(∀{v:V}{d:D}{as:List Addr},RT K H v d as->RT K H' v d as)/\∀{v:List V}{d:List D}{as:List Addr},RTs K H v d as->RTs K H' v d as:=
 RT.ind .non .bl .int .str (λe q=>.lst (s _ _ e) q) (λe q=>.tup (iD.same s e) q) (λe g=>.dic (s _ _ e) (g.same s)) (λe g _ q Z=>.ins (s _ _ e) (s _ _ g) q Z) .nil .cons
def RT.same(s:Same H H') {as:List Addr}(h:RT K H c k as):RT K H' c k as:=(RT.same2 s).1 h
def RTs.same(s:Same H H') {as:List Addr}(h:RTs K H c k as):RTs K H' c k as:=(RT.same2 s).2 h
def RT.upd2[O:Chg u](h:H a=some u):(∀{v:V}{d:D}{as:List Addr},RT K H v d as->a∉as->RT K (upd H a o) v d as)/\∀{v:List V}{d:List D}{as:List Addr},RTs K H v d as->a∉as->RTs K (upd H a o) v d as:=
 RT.ind (λ_=>.non) (λb _=>.bl b) (λi _=>.int i) (λx _=>.str x) (λe q Z=>.lst (by rw[bA (λz=>Z (by rw[<-z];exact aJ))];exact e) (q λz=>Z (aH _ z))) (λe q Z=>.tup (iD.upd h e) (q Z)) (λe g Z=>.dic (by rw[bA (λz=>Z (by rw[<-z];exact aJ))];exact e) (g.upd h)) (λe g _ q Y Z=>.ins (by rw[bA (dJ e h (by intro z;subst z;exact O.ins))];exact e) (by rw[bA (dJ g h (by intro z;subst z;exact O.own))];exact g) (q Z) Y) (λ_=>.nil) λe q Z=>.cons (e λz=>Z (bH _ z)) (q λz=>Z (aU _ z))
def RT.upd[O:Chg u](h:H a=some u) (q:a∉t) (r:RT K H c k t):RT K (upd H a o) c k t:=(RT.upd2 h).1 r q
def RTs.upd[O:Chg u](h:H a=some u) (q:a∉t) (r:RTs K H c k t):RTs K (upd H a o) c k t:=(RT.upd2 h).2 r q
def RT.chd2:(∀{v:V}{d:D}{as:List Addr},RT K H v d as->∀a∈as,Chd (H a))/\∀{v:List V}{d:List D}{as:List Addr},RTs K H v d as->∀a∈as,Chd (H a):=
 RT.ind (λ_ h=>by cases h) (λ_ _ h=>by cases h) (λ_ _ h=>by cases h) (λ_ _ h=>by cases h) (λe q a h=>by
  rcases aL.mp h with rfl|z
  .exact⟨_,e,inferInstance⟩
  .exact q a z) (λ_ q=>q) (λe g a h=>by rw[bQ.mp h];exact⟨_,e,g.chg⟩) (λ_ _ _ q _=>q) (λ_ h=>by cases h) λe q a h=>by
  rcases bT.mp h with z|z
  .exact e a z
  .exact q a z
def RT.chd(r:RT K H v d as):∀a∈as,Chd (H a):=RT.chd2.1 r
def RTs.chd (r:RTs K H c k as):∀a∈as,Chd (H a):=RT.chd2.2 r
def RT.tracked(h:RT K H v d as)(a:Addr)(ha:a∈as):H a≠none:=(h.chd a ha).ne
def RTs.tracked (h:RTs K H c k as) (a:Addr) (ha:a∈as):H a≠none:=(h.chd a ha).ne
def RA.rt2{ok:Ok}:(∀{v:V}{d:D},RA K ok false H v d->∃as,RT K H v d as/\as.length=nl d/\∀a∈as,ok a)/\∀{v:List V}{d:List D},RAs K ok false H v d->∃as,RTs K H v d as/\as.length=nls d/\∀a∈as,ok a:=
 RA.ind ⟨[],.non,rfl,λ_ h=>by cases h⟩ (λb=>⟨[],.bl b,rfl,λ_ h=>by cases h⟩) (λi=>⟨[],.int i,rfl,λ_ h=>by cases h⟩) (λx=>⟨[],.str x,rfl,λ_ h=>by cases h⟩) (λe k q=>by
  obtain⟨as,h1,h2,h3⟩:=q;refine⟨_::as,.lst e h1,by rw[aX,h2,nl],λa ha=>?_⟩;rcases aL.mp ha with rfl|z
  .exact k
  .exact h3 a z) (λ_ k _=>by cases k) (λe q=>by
  obtain⟨as,h1,h2,h3⟩:=q;exact⟨as,.tup e h1,by rw[h2,nl],h3⟩) (λe g k=>⟨[_],.dic e g,by rw[nl,g.isI];rfl,λa ha=>by rw[bQ.mp ha];exact k⟩) (λ_ _ k=>by cases k) (λ{a C dx fs ds kvs} e g q Z=>by
  obtain⟨as,h1,h2,h3⟩:=q;have Y:(fs.map (·.1)).length=ds.length:=by rw[<-RTs.len h1,aG,aG]
  exact⟨as,.ins e g h1 Z,by rw[h2,Z,nl];show _=nl (.tuple [.int (C:Int)])+nlk (BP _ _);rw[Oh Y];simp[nl,nls],h3⟩) ⟨[],.nil,rfl,λ_ h=>by cases h⟩ λe q=>by
  obtain⟨as,h1,h2,h3⟩:=e;obtain⟨bs,g1,g2,g3⟩:=q;refine⟨as++bs,.cons h1 g1,by rw[bB,h2,g2,nls],λa ha=>?_⟩;rcases bT.mp ha with z|z
  .exact h3 a z
  .exact g3 a z
def RA.rt (h:RA K ok false H v d):∃as,RT K H v d as/\as.length=nl d/\∀a∈as,ok a:=RA.rt2.1 h
end
def tabs:List (Addr×Str×Pos):=[]
def Tb(H:Hp):Prop:=∀t∈tabs,H t.1=some (.tbl t.2.1 t.2.2)
def Tb.same(t:Tb H)(s:Same H H'):Tb H':=λx hx=>s _ _ (t x hx)
structure Gh where
 H0:Hp
 HF:Hp
 pk:Nat->Option Addr
 pn:Nat->List Addr
 tb:Tb H0
 fv:Nat->Option V
structure Ow where
 s:Nat->Option Addr
 n:Nat->List Addr:=λ_=>[]
instance:CoeFun Ow (λ_=>Nat->Option Addr):=⟨Ow.s⟩
abbrev ow0:Ow:=⟨λ_=>none,λ_=>[]⟩
noncomputable def okA(ow:Ow):Ok:=λa=>(∀i,ow i≠some a)/\∀i,a∉ow.n i
structure Rel(K:PySem.W.Frag)(fl:List Fl)(G:Gh)(ow:Ow)(σ:St)(H:Hp)(δ:DS):Prop where
 s0:Same G.H0 G.HF
 s1:Same G.HF H
 len:σ.length=δ.length
 own:∀i a,ow i=some a->G.H0 a=none/\((fl[i]? = some .O/\G.HF a=none)\/(fl[i]? = some .L/\∃xs,G.HF a=some (.lst xs))) /\
  ∃xs ds,σ[i]? = some (some (.ref a))/\H a=some (.lst xs)/\RAs K (okA ow) true H xs ds/\δ[i]? = some (some (.d (.list ds)))
 inj:∀i j a,ow i=some a->ow j=some a->i=j
 pin:∀i,fl[i]? = some .L->ow i=G.pk i
 dat:∀i d,δ[i]? = some (some (.d d))->isN fl[i]? = false->ow i=none->∃v,σ[i]? = some (some v)/\RA K (okA ow) true H v d
 oo:∀i d,δ[i]? = some (some (.d d))->isN fl[i]? = false->fl[i]? ≠ some .A->ow i=none->flat d=true
 nt:∀i a,a∈ow.n i->G.H0 a=none/\Chd (H a)/\(((fl[i]? = some .N\/fl[i]? = some .W)/\G.HF a=none)\/fl[i]? = some .M)
 nd:∀i j a,a∈ow.n i->a∈ow.n j->i=j
 ns:∀i j a,a∈ow.n i->ow j≠some a
 np:∀i,fl[i]? = some .M->ow.n i=G.pn i
 nr:∀i d,isN fl[i]? = true->δ[i]? = some (some (.d d))->∃v,σ[i]? = some (some v)/\RT K H v d (ow.n i)/\(ow.n i).Nodup
 fx:∀i v,fl[i]? = some .W->G.fv i=some v->σ[i]? = some (some v)
def Rel.tb{fl:List Fl}{G:Gh}{ow:Ow}{σ:St}(R:Rel K fl G ow σ H δ):Tb H:=G.tb.same (R.s0.trans R.s1)
def Rel.same0 (R:Rel K fl G ow σ H δ):Same G.H0 H:=R.s0.trans R.s1
def Rel.grow{fl:List Fl}{G:Gh}{ow:Ow}{σ:St}(R:Rel K fl G ow σ H δ)(e:Same H H'):Rel K fl G ow σ H' δ:=
 ⟨R.s0,R.s1.trans e,R.len,λi a h=>by
  obtain⟨Y,Z,xs,ds,h1,h2,h3,h4⟩:=R.own i a h;exact⟨Y,Z,xs,ds,h1,e _ _ h2,h3.same e,h4⟩,R.inj,R.pin,λi d h1 hn h2=>by
  obtain⟨v,h3,h4⟩:=R.dat i d h1 hn h2;exact⟨v,h3,h4.same e⟩,R.oo,λi a h=>by
  obtain⟨h1,h2,h3⟩:=R.nt i a h;exact⟨h1,(let⟨u,z,c⟩:=h2;⟨u,e _ _ z,c⟩),h3⟩,R.nd,R.ns,R.np,λi d h1 h2=>by
  obtain⟨v,h3,h4,h5⟩:=R.nr i d h1 h2;exact⟨v,h3,h4.same e,h5⟩,R.fx⟩
inductive Kd where
 |P
 |B (L:List Nat)
 |A
 |R
 |F
 |C
 |FC
 |T
noncomputable def ok1:Ok:=λ_=>True
noncomputable def ok0:Ok:=λ_=>False
def okN(H:Hp):Ok:=λa=>H a=none
def Rs(K:PySem.W.Frag)(H0:Hp)(ow:Ow)(Hb H:Hp):Kd->V->D->Prop
 | .P,v,d=>RA K ok1 true H v d
 | .B L,v,d=>RA K (okA ow) true H v d\/∃i∈L,∃a xs ds,ow i=some a/\v = .ref a/\d = .list ds/\H a=some (.lst xs)/\RAs K (okA ow) true H xs ds
 | .A,v,d=>RA K (okA ow) true H v d
 | .R,v,d=>RA K (okN H0) false H v d
 | .F,v,d=>(flat d=true/\RA K ok0 false H v d)\/∃a xs ds,v = .ref a/\d = .list ds/\Hb a=none/\H a=some (.lst xs)/\RAs K (λb=>okA ow b/\b≠a) true H xs ds
 | .C,v,d=>RA K (okN Hb) false H v d
 | .T,v,d=>∃as,RT K H v d as/\as.Nodup/\∀a∈as,Hb a=none
 | .FC,v,d=>(flat d=true/\RA K ok0 false H v d)\/∃a xs ds,v = .ref a/\d = .list ds/\Hb a=none/\H a=some (.lst xs)/\RAs K (λb=>okN Hb b/\b≠a) false H xs ds
section
variable{Hb H H':Hp}{fl:List Fl}{G:Gh}{ow:Ow}{σ:St}{δ:DS}{v:V}{d:D}
def sG(R:Rel K fl G ow σ Hb δ) (h:Hb c=none):okA ow c:=⟨λi e=>(by
 obtain⟨_,_,xs,_,_,h2,_⟩:=R.own i c e;rw[h]at h2
 cases h2),λi e=>(R.nt i c e).2.1.ne h⟩
def ac6(R:Rel K fl G ow σ Hb δ) (h:Hb c=none):okN G.H0 c:=R.same0.free h
def Rs.FC_F(R:Rel K fl G ow σ Hb δ)(h:Rs K G.H0 ow Hb H .FC v d):Rs K G.H0 ow Hb H .F v d:=by
 rcases h with h|⟨a,xs,ds,h1,h2,h3,h4,h5⟩
 .exact .inl h
 .exact .inr ⟨a,xs,ds,h1,h2,h3,h4,h5.imp (λb z=>⟨sG R z.1,z.2⟩) (λ_=>rfl)⟩
def Rs.FC_C(h:Rs K G.H0 ow Hb H .FC v d):Rs K G.H0 ow Hb H .C v d:=by
 rcases h with h|⟨a,xs,ds,rfl,rfl,h3,h4,h5⟩
 .exact RA.flat h.1 h.2
 .exact .lst h4 h3 (h5.imp (λb z=>z.1) (λz=>z))
def Rs.F_A(R:Rel K fl G ow σ Hb δ)(h:Rs K G.H0 ow Hb H .F v d):Rs K G.H0 ow Hb H .A v d:=by
 rcases h with h|⟨a,xs,ds,rfl,rfl,h3,h4,h5⟩
 .exact RA.flat h.1 h.2
 .exact .lst h4 (sG R h3) (h5.imp (λb z=>z.1) (λz=>z))
def Rs.C_A(R:Rel K fl G ow σ Hb δ)(h:Rs K G.H0 ow Hb H .C v d):Rs K G.H0 ow Hb H .A v d:=RA.imp (λ_ z=>sG R z) (λ_=>rfl) h
def Rs.C_R(R:Rel K fl G ow σ Hb δ)(h:Rs K G.H0 ow Hb H .C v d):Rs K G.H0 ow Hb H .R v d:=RA.imp (λ_ z=>ac6 R z) (λz=>z) h
def Rs.A_B(L:List Nat)(h:Rs K G.H0 ow Hb H .A v d):Rs K G.H0 ow Hb H (.B L) v d:=.inl h
def Rs.B_P(h:Rs K G.H0 ow Hb H (.B L) v d):Rs K G.H0 ow Hb H .P v d:=by
 rcases h with h|⟨i,_,a,xs,ds,_,rfl,rfl,h4,h5⟩
 .exact RA.imp (λ_ _=>trivial) (λz=>z) h
 .exact .lst h4 trivial (h5.imp (λ_ _=>trivial) (λz=>z))
def Rs.P_flat(q:flat d=true)(h:Rs K G.H0 ow Hb H .P v d):Rs K G.H0 ow Hb H .FC v d:=.inl ⟨q,RA.flat q h⟩
def Rs.C_fl1(O:fl1 d=true)(h:Rs K G.H0 ow Hb H .C v d):Rs K G.H0 ow Hb H .FC v d:=by
 by_cases e:∃ds,d = .list ds
 .obtain⟨ds,rfl⟩:=e
  cases h with
  |lst e k q=>exact .inr ⟨_,_,_,rfl,rfl,k,e,RAs.flat O q⟩
  |lsk e k q=>cases k
 .have Z:flat d=true:=by
   cases d<;>first|exact O|exact absurd ⟨_,rfl⟩ e
  exact .inl ⟨Z,RA.flat Z h⟩
def Rs.F_fl1(q:fl1 d=true)(h:Rs K G.H0 ow Hb H .F v d):Rs K G.H0 ow Hb H .FC v d:=by
 rcases h with h|⟨a,xs,ds,h1,h2,h3,h4,h5⟩
 .exact .inl h
 .subst h2;exact .inr ⟨a,xs,ds,h1,rfl,h3,h4,RAs.flat q h5⟩
end
noncomputable def tD(K:PySem.W.Frag)(fl:List Fl)(k:Kd)(f:FE):TE:=λσ H Q=>∃G ow δ d,Rel K fl G ow σ H δ/\f δ=some d/\∀v H',Same H H'->Rs K G.H0 ow H H' k v d->Q v H'
abbrev DE(X:Cx)(fl:List Fl)(k:Kd)(e:Expr)(f:FE):Prop:=PE X e (tD X.K fl k f)
def tDA(K:PySem.W.Frag)(fl:List Fl)(f:FA):TA:=λσ H Q=>∃G ow δ ds,Rel K fl G ow σ H δ/\f δ=some ds/\∀vs H',Same H H'->RAs K ok1 true H' vs ds->Q vs H'
abbrev DA(X:Cx)(fl:List Fl)(es:List Expr)(f:FA):Prop:=PA X es (tDA X.K fl f)
def tDT(K:PySem.W.Frag)(fl:List Fl)(f:FT):TT:=λσ H Q=>∃G ow δ b,Rel K fl G ow σ H δ/\f δ=some b/\∀H',Same H H'->Q b H'
abbrev DT(X:Cx)(fl:List Fl)(e:Expr)(f:FT):Prop:=PT X e (tDT X.K fl f)
abbrev DW(X:Cx)(fl:List Fl)(e:Expr)(f:FT):Prop:=PW X e (tDT X.K fl f)
def Aa(K:PySem.W.Frag)(fl:List Fl)(G:Gh)(Dn:Ends):Oc->Prop
 | .nx δ'=>∀Z σ' H',Rel K fl G Z σ' H' δ'->Dn.nx σ' H'
 | .rt d=>∀v H',Same G.H0 H'->RA K (okN G.H0) false H' v d->Dn.rt v H'
 | .bk δ'=>∀Z σ' H',Rel K fl G Z σ' H' δ'->Dn.bk σ' H'
 | .ct δ'=>∀Z σ' H',Rel K fl G Z σ' H' δ'->Dn.ct σ' H'
 | .ex _ _ d=>∀v H',Same G.H0 H'->RA K ok1 true H' v d->Dn.rt v H'
def tDS(K:PySem.W.Frag)(fl:List Fl)(f:FS):TS:=λDn σ H=>∃G ow δ o,Rel K fl G ow σ H δ/\f δ=some o/\Aa K fl G Dn o
abbrev DS1(X:Cx)(fl:List Fl)(s:Stmt)(f:FS):Prop:=PS X s (tDS X.K fl f)
abbrev DSs(X:Cx)(fl:List Fl)(s:List Stmt)(f:FS):Prop:=PSs X s (tDS X.K fl f)
def tDG(K:PySem.W.Frag)(fl:List Fl)(tg:List Nat)(g:FG):TG:=λv σ H Q=>∃G ow δ d δ',Rel K fl G ow σ H δ/\RA K (okA ow) true H v d/\g d δ=some δ'/\∀σ',Rel K fl G ow σ' H δ'->(∀j,j∉tg->σ'[j]? = σ[j]?)->Q σ' H
abbrev DG(X:Cx)(fl:List Fl)(tg:List Nat)(e:Expr)(g:FG):Prop:=PG X e (tDG X.K fl tg g)
section
variable{X:Cx}{st:Stmt}
def PE.imp (h:PE X e t) (i:∀σ H Q,t' σ H Q->t σ H Q):PE X e t':=λpins s σ H Q I q=>h pins s σ H Q I (i σ H Q q)
def PT.imp (h:PT X e t) (i:∀σ H Q,t' σ H Q->t σ H Q):PT X e t':=λpins s σ H Q I q=>h pins s σ H Q I (i σ H Q q)
def PW.imp (h:PW X e t) (i:∀σ H Q,t' σ H Q->t σ H Q):PW X e t':=λw pins s σ H Q I q=>h w pins s σ H Q I (i σ H Q q)
def PA.imp (h:PA X es t) (i:∀σ H Q,t' σ H Q->t σ H Q):PA X es t':=λp pins s σ H Q I q=>h p pins s σ H Q I (i σ H Q q)
def PS.imp (h:PS X st t) (i:∀D σ H,t' D σ H->t D σ H):PS X st t':=λpins s σ H D I q=>h pins s σ H D I (i D σ H q)
def PSs.imp{t t':TS}(h:PSs X sts t)(i:∀D σ H,t' D σ H->t D σ H):PSs X sts t':=λpins s σ H D I q=>h pins s σ H D I (i D σ H q)
def PG.imp (h:PG X e t) (i:∀v σ H Q,t' v σ H Q->t v σ H Q):PG X e t':=λpins s σ H v u Q I r q=>h pins s σ H v u Q I r (i v σ H Q q)
end
end D3
variable{ow:D3.Ow}
variable{g:D3.D->D3.D->Option D3.D}
namespace D3
open L2 My
section
variable{X:Cx}{fl:List Fl}{a b c:Expr}{k:Kd}{fa:FE}
def jk (h:aA q δ=some d):δ[q]? = some (some (.d d)):=by
 unfold aA at h;split at h
 .next x e=>rw[e];cases h;rfl
 .cases h
theorem yU(i:Nat) (hN:X.N[i]? = some t:=by rfl) (U:Vis X.env.scope t:=by first|exact Or.inl rfl|exact Or.inr (Or.inl rfl)|exact Or.inr (Or.inr rfl)) (hd:(t==("__debug__":Str))=false:=by decide)
 (O:(t==("__classdict__":Str))=false:=by decide) (hn:isN fl[i]? = false:=by rfl):DE X fl (.B [i]) (.Name t pos) (aA i):=by
 refine PE.imp (iT hN U hd O) λσ H Q h=>?_
 refine D3.ex4 h λG ow δ d R Y q=>?_
 have e:=jk Y
 cases Z:ow i with
 |none=>
  obtain⟨v,h1,h2⟩:=R.dat i d e hn Z;exact⟨v,h1,q v H (Same.refl H) (.inl h2)⟩
 |some a=>
  obtain⟨W,_,xs,ds,h1,h2,h3,h4⟩:=R.own i a Z;rw[e]at h4
  cases h4;exact⟨_,h1,q _ H (Same.refl H) (.inr ⟨i,bQ.mpr rfl,a,xs,ds,Z,rfl,rfl,h2,h3⟩)⟩
theorem BX(i:Nat)(O:fl[i]? = some .A) (hN:X.N[i]? = some t:=by rfl) (hv:Vis X.env.scope t:=by first|exact Or.inl rfl|exact Or.inr (Or.inl rfl)|exact Or.inr (Or.inr rfl)) (hd:(t==("__debug__":Str))=false:=by decide)
 (U:(t==("__classdict__":Str))=false:=by decide):DE X fl .A (.Name t pos) (aA i):=by
 refine PE.imp (iT hN hv hd U) λσ H Q h=>?_
 refine D3.ex4 h λG ow δ d R W q=>?_
 have e:=jk W
 cases Y:ow i with
 |none=>
  obtain⟨v,h1,h2⟩:=R.dat i d e (by rw[O];rfl) Y;exact⟨v,h1,q v H (Same.refl H) h2⟩
 |some a=>
  obtain⟨V,Z,_⟩:=R.own i a Y;rw[O]at Z;rcases Z with⟨z,_⟩|⟨z,_⟩<;>cases z
theorem xZ(i:Nat)(O:fl[i]? ≠ some .A) (hN:X.N[i]? = some t:=by rfl) (hv:Vis X.env.scope t:=by first|exact Or.inl rfl|exact Or.inr (Or.inl rfl)|exact Or.inr (Or.inr rfl)) (hd:(t==("__debug__":Str))=false:=by decide)
 (U:(t==("__classdict__":Str))=false:=by decide) (hn:isN fl[i]? = false:=by rfl):DE X fl .R (.Name t pos) (wj (aA i)):=by
 refine PE.imp (iT hN hv hd U) λσ H Q h=>?_
 refine D3.ex4 h λG ow δ d R Z q=>?_
 unfold wj at Z
 cases Y:aA i δ with
 |none=>rw[Y]at Z;cases Z
 |some S=>
  rw[Y,aq]at Z;by_cases V:fl1 S=true
  .rw[if_pos V]at Z
   cases Z;have e:=jk Y
   cases W:ow i with
   |none=>
    obtain⟨v,h1,h2⟩:=R.dat i d e hn W;exact⟨v,h1,q v H (Same.refl H) (RA.flat (R.oo i d e hn O W) h2)⟩
   |some a=>
    obtain⟨T,_,xs,ds,h1,h2,h3,h4⟩:=R.own i a W;rw[e]at h4
    cases h4;exact⟨_,h1,q _ H (Same.refl H) (.lst h2 T (RAs.flat V h3))⟩
  .rw[if_neg V]at Z
   cases Z
def nY (h:DE X fl k e f) (U:∀(Hb H:Hp)(G:Gh)(ow:Ow)(σ:St)(δ:DS)(v:V)(d:D),Rel X.K fl G ow σ Hb δ->Rs X.K G.H0 ow Hb H k v d->Rs X.K G.H0 ow Hb H O v d):DE X fl O e f:=by
 refine PE.imp h λσ H Q h=>?_
 refine D3.ex4 h λG ow δ d R Z q=>?_
 exact⟨G,ow,δ,d,R,Z,λv H' s r=>q v H' s (U _ _ G ow σ δ v d R r)⟩
theorem uY {p:D->Bool} (h:DE X fl k e f) (U:∀(Hb H:Hp)(G:Gh)(ow:Ow)(σ:St)(δ:DS)(v:V)(d:D),p d=true->Rel X.K fl G ow σ Hb δ->Rs X.K G.H0 ow Hb H k v d->Rs X.K G.H0 ow Hb H O v d) :
 DE X fl O e (λδ=>(f δ).bind λd=>if p d=true then some d else none):=by
 refine PE.imp h λσ H Q h=>?_
 refine D3.ex4 h λG ow δ d R Z q=>?_
 dsimp only at Z
 cases Y:f δ with
 |none=>rw[Y]at Z;cases Z
 |some T=>
  rw[Y,aq]at Z;by_cases W:p T=true
  .rw[if_pos W]at Z
   cases Z;exact⟨G,ow,δ,d,R,Y,λv H' s r=>q v H' s (U _ _ G ow σ δ v d W R r)⟩
  .rw[if_neg W]at Z
   cases Z
def BZ(h:DE X fl .FC e f):DE X fl .F e f:=nY h λ_ _ _ _ _ _ _ _ R r=>r.FC_F R
def bN(h:DE X fl .FC e f):DE X fl .C e f:=nY h λ_ _ _ _ _ _ _ _ R r=>r.FC_C
def Ey(h:DE X fl .F e f):DE X fl .A e f:=nY h λ_ _ _ _ _ _ _ _ R r=>r.F_A R
def qz(h:DE X fl .C e f):DE X fl .A e f:=nY h λ_ _ _ _ _ _ _ _ R r=>r.C_A R
def WD(h:DE X fl .C e f):DE X fl .R e f:=nY h λ_ _ _ _ _ _ _ _ R r=>r.C_R R
def kI(h:DE X fl .A e f):DE X fl (.B []) e f:=nY h λ_ _ _ _ _ _ _ _ R r=>Rs.A_B [] r
def Oi(h:DE X fl (.B L) e f):DE X fl .P e f:=nY h λ_ _ _ _ _ _ _ _ R r=>r.B_P
def mG(h:DE X fl .P e f):DE X fl .FC e (jG f):=uY h λ_ _ _ _ _ _ _ _ Z R r=>r.P_flat Z
def Yg(h:DE X fl .C e f):DE X fl .FC e (wj f):=uY h λ_ _ _ _ _ _ _ _ Z R r=>r.C_fl1 Z
def Yh(h:DE X fl .F e f):DE X fl .FC e (wj f):=uY h λ_ _ _ _ _ _ _ _ Z R r=>r.F_fl1 Z
def dg(h:DE X fl .FC e f):DE X fl .A e f:=Ey (BZ h)
def fJ(h:DE X fl .FC e f):DE X fl .R e f:=WD (bN h)
def d_(h:DE X fl .A e f):DE X fl .P e f:=Oi (kI h)
def gD(h:DE X fl .C e f):DE X fl .P e f:=d_ (qz h)
def bh(h:DE X fl .FC e f):DE X fl .P e f:=d_ (dg h)
def ac7(h:DE X fl .F e f):DE X fl .P e f:=d_ (Ey h)
def yV(h:PE X e (tC v))(U:flat d=true)(O:∀H,RA X.K ok0 false H v d):DE X fl .FC e (dC d):=by
 refine PE.imp h λσ H Q h=>?_
 refine D3.ex4 h λG ow δ Z R hd q=>?_
 cases hd;exact q v H (Same.refl H) (.inl ⟨U,O H⟩)
def oF{i j pos}:DE X fl .FC (.Constant (.int i) j pos) (dC (.int i)):=yV Xo rfl λ_=>.int _
def nA{b j pos}:DE X fl .FC (.Constant (.bool b) j pos) (dC (.bool b)):=yV aa8 rfl λ_=>.bl _
def pZ{j pos}:DE X fl .FC (.Constant .none j pos) (dC .none):=yV Xp rfl λ_=>.non
def cM{x j pos}:DE X fl .FC (.Constant (.str x) j pos) (dC (.str x)):=yV Xq rfl λ_=>.str _
def JW(h:∃t,X.mg x=some (.int i t))(q:Gl X x:=by rfl)(hd:(x==("__debug__":Str))=false:=by decide):DE X fl .FC (.Name x pos) (dC (.int i)):=by
 obtain⟨t,h⟩:=h;exact yV (Jx (v:=.int i) q h ⟨t,rfl⟩ hd) rfl λ_=>.int _
def BrO(K:PySem.W.Frag)(r:R2)(g:D->D->Option D):Prop:=∀(H:Hp)(x y:V)(dx Z d:D)(Q:VK),RA K ok1 true H x dx->RA K ok1 true H y Z->g dx Z=some d->(∀v,flat d=true->RA K ok0 false H v d->Q v H)->r x y H Q
theorem rF(h:dOp g fa fb δ=some d):∃x y,fa δ=some x/\fb δ=some y/\g x y=some d:=by
 unfold dOp at h
 cases ha:fa δ with
 |none=>rw[ha]at h;cases h
 |some x=>
  rw[ha,aq]at h
  cases hb:fb δ with
  |none=>rw[hb]at h;cases h
  |some y=>
   rw[hb,aq]at h;exact⟨x,y,rfl,rfl,h⟩
theorem bind1 (h:q.bind t=some z):∃y,q=some y/\t y=some z:=by
 cases q with
 |none=>cases h
 |some y=>exact⟨y,rfl,h⟩
def wz {σ:St} (hb:BrO X.K t g) (h:tD X.K fl .FC (dOp g fa fb) σ H B):tOp t (tD X.K fl .P fa) (tD X.K fl .P fb) σ H B:=by
 refine D3.ex4 h λG ow δ d R W q=>?_
 refine D3.ex2 (rF W) λx y T U V=>?_
 refine⟨G,ow,δ,x,R,T,λv H1 s1 r1=>⟨G,ow,δ,y,R.grow s1,U,λu H2 s2 r2=>?_⟩⟩;exact hb H2 v u x y d B (RA.same s2 r1) r2 V λz Y Z=>q z H2 (s1.trans s2) (.inl ⟨Y,Z⟩)
def dH (q:OpR X (binaryOp op) t) (hb:BrO X.K t g) (h1:DE X fl .P a fa) (h2:DE X fl .P b fb):DE X fl .FC (.BinOp a op b pos) (dOp g fa fb):=
 PE.imp (Jz q h1 h2) λ_ _ _ h=>wz hb h
def B_ (q:OpR X (compareOp op) t) (hb:BrO X.K t g) (h1:DE X fl .P a fa) (h2:DE X fl .P b fb) (hm:behindInMarks op b=false):DE X fl .FC (.Compare a [op] [b] pos) (dOp g fa fb):=
 PE.imp (JC q h1 h2 hm) λ_ _ _ h=>wz hb h
def dZ (O:OpR X (compareOp op) t) (hb:BrO X.K t g) (h1:DE X fl .P a fa) (h2:DE X fl .P b fb) (hm:behindInMarks op b=false):DT X fl (.Compare a [op] [b] pos) (bG (dOp g fa fb)):=by
 refine PT.imp (JD O h1 h2 hm) λσ H Q h=>?_
 refine D3.ex4 h λG ow δ c R Y q=>?_
 refine D3.ex1 (bind1 Y) λd W Z=>?_
 cases d<;>first|(cases Z;done)|skip
 cases Z;refine wz (fl:=fl) (fa:=fa) (fb:=fb) hb ⟨G,ow,δ,_,R,W,λv H' s t=>?_⟩;obtain rfl:=(Rs.FC_C t).blE;exact⟨_,rfl,q H' s⟩
def iV(h:DE X fl .P e f)(O:∀whole,isTrue e X.env whole=(do let v <-whole;standAt e.pos;holding [v] (truthy v)):=by intro _;rfl):DT X fl e (bG f):=by
 refine PT.imp (Hl h O) λσ H Q h=>?_
 refine D3.ex4 h λG ow δ c R Y q=>?_
 refine D3.ex1 (bind1 Y) λd W Z=>?_
 cases d<;>first|(cases Z;done)|skip
 cases Z;refine⟨G,ow,δ,_,R,W,λv H' s r=>?_⟩;obtain rfl:=RA.blE r;exact⟨_,rfl,q H' s⟩
def Az {g:Int->Int->D} (U:∀i j,flat (g i j)=true) (O:∀H i j,RA K ok0 false H (t i j) (g i j)):BrO K (rI0 t) (gI λi j=>some (g i j)):=by
 intro H x y dx X d Q Y Z e q;unfold gI at e;split at e
 .next i j=>
  cases e;exact⟨i,j,Y.intE,Z.intE,q _ (U i j) (O H i j)⟩
 .cases e
def T4 {g:Int->Int->D} {c:Int->Int->Bool} (hc:∀i j,c i j=true->t i j) (U:∀i j,flat (g i j)=true) (O:∀H i j,RA K ok0 false H (B i j) (g i j)) :
 BrO K (rI t B) (gI λi j=>if c i j=true then some (g i j)else none):=by
 intro H x y dx X d Q Y Z e q;unfold gI at e;split at e
 .next i j=>
  dsimp only at e;by_cases z:c i j=true
  .rw[if_pos z]at e
   cases e;exact⟨i,j,Y.intE,Z.intE,hc i j z,q _ (U i j) (O H i j)⟩
  .rw[if_neg z]at e
   cases e
 .cases e
end
section
variable{X:Cx}
def T5 (h:yO i c=true):IntMulOk i c:=by
 unfold yO at h;rw[Bool.or_eq_true,Bool.or_eq_true,aO]at h;rcases h with(h|h)|⟨h1,h2⟩
 .exact IntMulOk.of_left (PySem.intBits_le_iff.mpr (of_decide_eq_true h))
 .exact IntMulOk.of_right (PySem.intBits_le_iff.mpr (of_decide_eq_true h))
 .exact PySem.IntMulOk.of_le (PySem.intBits_le_iff.mpr (of_decide_eq_true h1)) (PySem.intBits_le_iff.mpr (of_decide_eq_true h2)) (by decide)
def mR:OpR X (binaryOp .Mult) (rI (λi j=>yO i j=true) λi j=>.int (i*j)):=opI λ_ _ _ _ _ _ _ Z q=>mul_int q (T5 Z)
def JX:OpR X (binaryOp .FloorDiv) (rI (λi j=>HD i j=true) λi j=>.int (i.fdiv j)):=opI λi j _ _ _ _ _ Z q=>by
 unfold HD at Z;rw[aO]at Z;have h1:=of_decide_eq_true Z.1;have h2:=of_decide_eq_true Z.2;refine floordiv_int h1 q (.inl (PyProof.noPylong_of_log2 ?_));exact(Nat.log2_lt (by lia)).mpr h2
def T6 (h:Yd i c=true):XJ i c:=by
 unfold Yd at h;rw[aO,aO]at h;have h1:=of_decide_eq_true h.1.1;have h2:=of_decide_eq_true h.1.2;exact⟨h1,by lia,of_decide_eq_true h.2⟩
def nZ:BrO K (rI0 λi j=>.int (i+j)) lH:=Az (λ_ _=>rfl) λ_ _ _=>.int _
def ac8:BrO K (rI0 λi j=>.int (i-j)) TQ:=Az (λ_ _=>rfl) λ_ _ _=>.int _
def uZ:BrO K (rI (λi j=>yO i j=true) λi j=>.int (i*j)) pY:=T4 (λ_ _ h=>h) (λ_ _=>rfl) λ_ _ _=>.int _
def WK:BrO K (rI (λi j=>HD i j=true) λi j=>.int (i.fdiv j)) Eu:=T4 (λ_ _ h=>h) (λ_ _=>rfl) λ_ _ _=>.int _
def oY:BrO K (rI (λ_ j=>j≠0) λi j=>.int (i.fmod j)) mF:=T4 (λ_ _ h=>of_decide_eq_true h) (λ_ _=>rfl) λ_ _ _=>.int _
def WL:BrO K (rI XJ λi j=>.int (i^j.toNat)) Ob:=T4 (λ_ _ h=>T6 h) (λ_ _=>rfl) λ_ _ _=>.int _
def b_lt:BrO K (rI0 λi j=>.bl (decide (i<j))) gLt:=Az (λ_ _=>rfl) λ_ _ _=>.bl _
def T7:BrO K (rI0 λi j=>.bl (decide (i<=j))) gLe:=Az (λ_ _=>rfl) λ_ _ _=>.bl _
def ac9:BrO K (rI0 λi j=>.bl (decide (j<i))) gGt:=Az (λ_ _=>rfl) λ_ _ _=>.bl _
def HN:BrO K (rI0 λi j=>.bl (decide (j<=i))) gGe:=Az (λ_ _=>rfl) λ_ _ _=>.bl _
def Ca:BrO K (X7 K) gEq:=by
 intro H x y dx Z d Q X Y e q;unfold gEq at e;by_cases z:(dLq dx&&dLq Z)=true
 .rw[if_pos z]at e
  cases e;rw[aO]at z;exact⟨dx,Z,X.rd (ah z.1),Y.rd (ah z.2),z.1,z.2,q _ rfl (.bl _)⟩
 .rw[if_neg z]at e
  cases e
def Oj:BrO K (X8 K) gNe:=by
 intro H x y dx Z d Q X Y e q;unfold gNe at e;by_cases z:(dLq dx&&dLq Z)=true
 .rw[if_pos z]at e
  cases e;rw[aO]at z;exact⟨dx,Z,X.rd (ah z.1),Y.rd (ah z.2),z.1,z.2,q _ rfl (.bl _)⟩
 .rw[if_neg z]at e
  cases e
end
end D3
variable{G:D3.Gh}{Dn:L2.Ends}{ow:D3.Ow}{gs:List D3.D->D3.DS->Option D3.DS}
namespace D3
open L2 My
section
variable{X:Cx}{fl:List Fl}{a b c:Expr}{st:Stmt}{k:Kd}{fa:FE}{fs gs:FS}
theorem Aa.nx_imp (h:Aa K fl G Dn t) (hn:∀δ',t ≠ .nx δ'):Aa K fl G {Dn with nx:=q} t:=by
 cases t with
 |nx δ'=>exact absurd rfl (hn δ')
 |rt d=>exact h
 |bk δ'=>exact h
 |ct δ'=>exact h
 |ex c f v=>exact h
def kJ:DSs X fl [] fO:=PSs.imp uQ λDn σ H h=>by
 refine D3.ex4 h λG ow δ o R Z q=>?_
 cases Z;exact q ow σ H R
theorem cD(h1:DS1 X fl st fs)(h2:DSs X fl sts gs):DSs X fl (st::sts) (bU fs gs):=PSs.imp (lY h1 h2) λDn σ H h=>by
 refine D3.ex4 h λG ow δ o R V q=>?_
 refine D3.ex1 (bind1 V) λW U Z=>?_
 refine⟨G,ow,δ,W,R,U,?_⟩
 cases W with
 |nx δ'=>exact λY σ' H' R'=>⟨G,Y,δ',o,R',Z,q⟩
 |rt d=>cases Z;exact Aa.nx_imp q (λ_ z=>by cases z)
 |bk d=>cases Z;exact Aa.nx_imp q (λ_ z=>by cases z)
 |ct d=>cases Z;exact Aa.nx_imp q (λ_ z=>by cases z)
 |ex c f v=>cases Z;exact q
def cI(h1:DS1 X fl st fs):DSs X fl [st] fs:=PSs.imp (sy h1) λ_ _ _ h=>h
def eE(h:DE X fl .R e f):DS1 X fl (.Return (some e) pos) (jg f):=PS.imp (rm h) λDn σ H h=>by
 refine D3.ex4 h λG ow δ o R Z q=>?_
 refine D3.ex1 (bind1 Z) λd W Y=>?_
 cases Y;exact⟨G,ow,δ,d,R,W,λv H' s r=>q v H' (R.same0.trans s) r⟩
def T8(h:DE X fl .P e f)(O:swapsWith e none pos.line X.env=pure false:=by rfl):DS1 X fl (.Expr e pos) (JK f):=PS.imp (uR h O) λDn σ H h=>by
 refine D3.ex4 h λG ow δ o R Z q=>?_
 refine D3.ex1 (bind1 Z) λd W Y=>?_
 cases Y;exact⟨G,ow,δ,d,R,W,λv H' s r=>q ow σ H' (R.grow s)⟩
theorem tL(O:DT X fl c ft)(h1:DSs X fl body fs)(h2:DSs X fl orelse gs):DS1 X fl (.If c body orelse pos) (sIf ft fs gs):=PS.imp (Am O h1 h2) λDn σ H h=>by
 refine D3.ex4 h λG ow δ o R Y q=>?_
 refine D3.ex1 (bind1 Y) λt W Z=>?_
 refine⟨G,ow,δ,t,R,W,λH' s=>?_⟩
 cases t with
 |true=>exact v9 ⟨G,ow,δ,o,R.grow s,Z,q⟩
 |false=>exact v8 ⟨G,ow,δ,o,R.grow s,Z,q⟩
def ig {l:List (Option α)} {x y:α} (h:(l.set q (some x))[j]? = some (some y)):(j=q/\x=y)\/(j≠q/\l[j]? = some (some y)):=by
 rw[List.getElem?_set]at h;by_cases e:q=j
 .subst e;rw[if_pos rfl]at h;by_cases z:q<l.length
  .rw[if_pos z]at h
   cases h;exact .inl ⟨rfl,rfl⟩
  .rw[if_neg z]at h
   cases h
 .rw[if_neg e]at h;exact .inr ⟨λz=>e z.symm,h⟩
def Rel.setA{σ:St}{i:Nat}(R:Rel K fl G ow σ H δ)(q:fl[i]? = some .A)(hi:i<σ.length)(r:RA K (okA ow) true H v d):
 Rel K fl G ow (σ.set i (some v)) H (δ.set i (some (.d d))):=by
 have no:∀a,ow i≠some a:=λa z=>by
  obtain⟨_,W,_⟩:=R.own i a z;rw[q]at W;rcases W with⟨z,_⟩|⟨z,_⟩<;>cases z
 refine⟨R.s0,R.s1,by rw[cg,cg];exact R.len,λj a h=>?_,R.inj,R.pin,λj Y h1 hn h2=>?_,λj Y h1 hn h2 h3=>?_,R.nt,R.nd,R.ns,R.np,λj Y hn h1=>?_,λj u h e=>by rw[aM (λz=>by subst z;rw[q]at h;cases h)];exact R.fx j u h e⟩
 .have Z:j≠i:=λz=>no a (z▸h)
  obtain⟨U,V,xs,ds,h1,h2,h3,h4⟩:=R.own j a h;exact⟨U,V,xs,ds,by rw[aM (dv Z)];exact h1,h2,h3,by rw[aM (dv Z)];exact h4⟩
 .rcases ig h1 with⟨rfl,e⟩|⟨Z,e⟩
  .cases e;exact⟨v,by rw[bI hi],r⟩
  .obtain⟨X,h3,h4⟩:=R.dat j Y e hn h2;exact⟨X,by rw[aM (dv Z)];exact h3,h4⟩
 .rcases ig h1 with⟨rfl,e⟩|⟨Z,e⟩
  .exact absurd q h2
  .exact R.oo j Y e hn h2 h3
 .rcases ig h1 with⟨rfl,e⟩|⟨Z,e⟩
  .rw[q]at hn;cases hn
  .obtain⟨X,h3,h4⟩:=R.nr j Y hn e;exact⟨X,by rw[aM (dv Z)];exact h3,h4⟩
def xg(ow:Ow)(i:Nat)(a:Option Addr):Ow:=⟨λj=>if j=i then a else ow j,ow.n⟩
def jc {a:Option Addr}:xg ow q a q=a:=if_pos rfl
def fP {a:Option Addr} (h:j≠q):xg ow q a j=ow j:=if_neg h
def Rel.setO{σ:St}{i:Nat}(R:Rel K fl G ow σ H δ)(s:Same H H')(q:fl[i]? = some .O)(hi:i<σ.length)(r:Rs K G.H0 ow H H' .F v d):
 ∃ow',Rel K fl G ow' (σ.set i (some v)) H' (δ.set i (some (.d d))):=by
 have R':=R.grow s;have U:∀b,okA ow b->okA (xg ow i none) b:=λb z=>⟨λj e=>by
  by_cases Z:j=i
  .subst Z;rw[jc]at e;cases e
  .rw[fP Z]at e;exact z.1 j e,z.2⟩
 have S:∀j X,isN fl[j]? = true->(δ.set i (some (.d d)))[j]? = some (some (.d X))->∃W,(σ.set i (some v))[j]? = some (some W)/\RT K H' W X (ow.n j)/\(ow.n j).Nodup:=λj X hn h1=>by
  rcases ig h1 with⟨rfl,e⟩|⟨Z,e⟩
  .rw[q]at hn;cases hn
  .obtain⟨W,h3,h4⟩:=R'.nr j X hn e;exact⟨W,by rw[aM (dv Z)];exact h3,h4⟩
 rcases r with⟨Q,r⟩|⟨a,xs,ds,rfl,rfl,ha,hx,L⟩
 .refine⟨xg ow i none,R'.s0,R'.s1,by rw[cg,cg];exact R.len,λj a h=>?_,λj j' a h h'=>?_,λj h=>?_,λj X h1 hn h2=>?_,λj X h1 hn h2 h3=>?_,R'.nt,R'.nd,λj j' a h h'=>?_,R'.np,S,λj u h e=>by rw[aM (λz=>by subst z;rw[q]at h;cases h)];exact R.fx j u h e⟩
  .have Z:j≠i:=λz=>by subst z;rw[jc]at h;cases h
   rw[fP Z]at h;obtain⟨N,P,xs,ds,h1,h2,h3,h4⟩:=R'.own j a h;exact⟨N,P,xs,ds,by rw[aM (dv Z)];exact h1,h2,h3.imp U (λz=>z),by rw[aM (dv Z)];exact h4⟩
  .have Z:j≠i:=λz=>by subst z;rw[jc]at h;cases h
   have Y:j'≠i:=λz=>by subst z;rw[jc]at h';cases h'
   rw[fP Z]at h;rw[fP Y]at h';exact R.inj j j' a h h'
  .have Z:j≠i:=λz=>by subst z;rw[q]at h;cases h
   rw[fP Z];exact R.pin j h
  .rcases ig h1 with⟨rfl,e⟩|⟨Z,e⟩
   .cases e;exact⟨v,by rw[bI hi],RA.flat Q r⟩
   .rw[fP Z]at h2;obtain⟨W,h3,h4⟩:=R'.dat j X e hn h2;exact⟨W,by rw[aM (dv Z)];exact h3,h4.imp U (λz=>z)⟩
  .rcases ig h1 with⟨rfl,e⟩|⟨Z,e⟩
   .cases e;exact Q
   .rw[fP Z]at h3;exact R.oo j X e hn h2 h3
  .by_cases Z:j'=i
   .subst Z;rw[jc]at h';cases h'
   .rw[fP Z]at h';exact R.ns j j' a h h'
 .have sub:∀b,okA ow b/\b≠a->okA (xg ow i (some a)) b:=λb z=>⟨λj e=>by
   by_cases Z:j=i
   .subst Z;rw[jc]at e;exact z.2 (cU.inj e).symm
   .rw[fP Z]at e;exact z.1.1 j e,z.1.2⟩
  have old:∀{v:V}{d:D},RA K (okA ow) true H v d->RA K (okA (xg ow i (some a))) true H' v d:=λr=>(r.track.imp (λb z=>sub b ⟨z.1,λe=>z.2 (e▸ha)⟩) (λz=>z)).same s
  have olds:∀{v:List V}{d:List D},RAs K (okA ow) true H v d->RAs K (okA (xg ow i (some a))) true H' v d:=λr=>(r.track.imp (λb z=>sub b ⟨z.1,λe=>z.2 (e▸ha)⟩) (λz=>z)).same s
  have T:∀j,ow j≠some a:=λj z=>by
   obtain⟨_,_,_,_,_,h2,_⟩:=R.own j a z;rw[ha]at h2
   cases h2
  have J:G.HF a=none:=R.s1.free ha;refine⟨xg ow i (some a),R'.s0,R'.s1,by rw[cg,cg];exact R.len,λj b h=>?_,λj j' b h h'=>?_,λj h=>?_,λj X h1 hn h2=>?_,λj X h1 hn h2 h3=>?_,R'.nt,R'.nd,λj j' b h h'=>?_,R'.np,S,λj u h e=>by rw[aM (λz=>by subst z;rw[q]at h;cases h)];exact R.fx j u h e⟩
  .by_cases Z:j=i
   .subst Z;rw[jc]at h
    cases h;exact⟨R.same0.free ha,.inl ⟨q,J⟩,xs,ds,by rw[bI hi],hx,L.imp sub (λz=>z),by rw[bI (by rw[<-R.len];exact hi)]⟩
   .rw[fP Z]at h;obtain⟨N,P,ys,M,h1,h2,h3,h4⟩:=R.own j b h;exact⟨N,P,ys,M,by rw[aM (dv Z)];exact h1,s _ _ h2,olds h3,by rw[aM (dv Z)];exact h4⟩
  .by_cases Z:j=i
   .by_cases Y:j'=i
    .rw[Z,Y]
    .subst Z;rw[jc]at h
     cases h;rw[fP Y]at h';exact absurd h' (T j')
   .rw[fP Z]at h;by_cases Y:j'=i
    .subst Y;rw[jc]at h'
     cases h';exact absurd h (T j)
    .rw[fP Y]at h';exact R.inj j j' b h h'
  .have Z:j≠i:=λz=>by subst z;rw[q]at h;cases h
   rw[fP Z];exact R.pin j h
  .rcases ig h1 with⟨rfl,e⟩|⟨Z,e⟩
   .rw[jc]at h2;cases h2
   .rw[fP Z]at h2;obtain⟨W,h3,h4⟩:=R.dat j X e hn h2;exact⟨W,by rw[aM (dv Z)];exact h3,old h4⟩
  .rcases ig h1 with⟨rfl,e⟩|⟨Z,e⟩
   .rw[jc]at h3;cases h3
   .rw[fP Z]at h3;exact R.oo j X e hn h2 h3
  .by_cases Z:j'=i
   .subst Z;rw[jc]at h'
    cases h';exact(R.nt j a h).2.1.ne ha
   .rw[fP Z]at h';exact R.ns j j' b h h'
def Rel.mut{σ:St}{i:Nat}{a:Addr}{ys:List V}(R:Rel K fl G ow σ H δ)(U:fl[i]? = some .O)(q:ow i=some a)(r:RAs K (okA ow) true H ys ds):
 Rel K fl G ow σ (upd H a (.lst ys)) (δ.set i (some (.d (.list ds)))):=by
 obtain⟨J,N,xs,F,I,X,E,M⟩:=R.own i a q;have T:¬okA ow a:=λz=>z.1 i q
 have L:G.HF a=none:=by
  rcases N with⟨_,z⟩|⟨z,_⟩
  .exact z
  .rw[U]at z;cases z
 have hi:i<δ.length:=by
  rcases mQ i δ.length with z|z
  .exact z
  .rw[bD z]at M;cases M
 refine⟨R.s0,λb o hb=>?_,by rw[cg];exact R.len,λj b h=>?_,R.inj,R.pin,λj Y h1 hn h2=>?_,λj Y h1 hn h2 h3=>?_,λj b h=>?_,R.nd,R.ns,R.np,λj Y hn h1=>?_,R.fx⟩
 .rw[bA (λz=>by subst z;rw[L]at hb;cases hb)];exact R.s1 b o hb
 .by_cases Z:j=i
  .subst Z;rw[q]at h
   cases h;exact⟨J,N,ys,ds,I,bM,r.upd X T,by rw[bI hi]⟩
  .obtain⟨Q,S,zs,P,h1,h2,h3,h4⟩:=R.own j b h;have hb:b≠a:=λz=>Z (R.inj j i a (z▸h) q)
   exact⟨Q,S,zs,P,h1,by rw[bA hb];exact h2,h3.upd X T,by rw[aM (dv Z)];exact h4⟩
 .rcases ig h1 with⟨rfl,e⟩|⟨Z,e⟩
  .rw[q]at h2;cases h2
  .obtain⟨W,h3,h4⟩:=R.dat j Y e hn h2;exact⟨W,h3,h4.upd X T⟩
 .rcases ig h1 with⟨rfl,e⟩|⟨Z,e⟩
  .rw[q]at h3;cases h3
  .exact R.oo j Y e hn h2 h3
 .obtain⟨g1,g2,g3⟩:=R.nt j b h;refine⟨g1,?_,g3⟩;by_cases hb:b=a
  .rw[hb,bM];exact⟨_,rfl,inferInstance⟩
  .rw[bA hb];exact g2
 .rcases ig h1 with⟨rfl,e⟩|⟨Z,e⟩
  .rw[U]at hn;cases hn
  .obtain⟨W,h3,h4,h5⟩:=R.nr j Y hn e;exact⟨W,h3,h4.upd X (λz=>R.ns j i a z q),h5⟩
def n6 {i:Nat} (R:Rel K fl G ow σ H δ) (h:i<δ.length):i<σ.length:=by rwa[R.len]
def T9 {i:Nat}(U:fl[i]? = some .A) (hN:X.N.Nodup) (hi:X.N[i]? = some x) (hv:X.env.scope.names.lookup x=some .local\/X.env.scope.names.lookup x=some .cell) (h:DE X fl .A e f)
 (hs:swapsWith e (some (.Name x t)) pos.line X.env=pure false:=by rfl) (O:X.fn x=true\/X.env.scope.names.lookup x=some .local:=by first|exact .inl rfl|exact .inr rfl) :
 DS1 X fl (.Assign [.Name x t] e pos) (bJ i f):=PS.imp (vY (i:=i) hN hi hv h hs O) λDn σ H h=>by
 refine D3.ex4 h λG ow δ o R Z q=>?_
 unfold bJ at Z;by_cases Y:i<δ.length
 .rw[if_pos Y]at Z;refine D3.ex1 (bind1 Z) λd V W=>?_
  cases W;exact⟨G,ow,δ,d,R,V,λv H' s r=>q ow _ H' ((R.grow s).setA U (n6 R Y) r)⟩
 .rw[if_neg Y]at Z
  cases Z
def yc {i:Nat}(hfl:fl[i]? = some .O) (hN:X.N.Nodup) (hi:X.N[i]? = some x) (hv:X.env.scope.names.lookup x=some .local\/X.env.scope.names.lookup x=some .cell) (h:DE X fl .F e f)
 (hs:swapsWith e (some (.Name x t)) pos.line X.env=pure false:=by rfl) (U:X.fn x=true\/X.env.scope.names.lookup x=some .local:=by first|exact .inl rfl|exact .inr rfl) :
 DS1 X fl (.Assign [.Name x t] e pos) (bJ i f):=PS.imp (vY (i:=i) hN hi hv h hs U) λDn σ H h=>by
 refine D3.ex4 h λG ow δ o R Z q=>?_
 unfold bJ at Z;by_cases W:i<δ.length
 .rw[if_pos W]at Z;refine D3.ex1 (bind1 Z) λd T V=>?_
  cases V;refine⟨G,ow,δ,d,R,T,λv H' s r=>?_⟩;obtain⟨Y,R'⟩:=R.setO s hfl (n6 R W) r;exact q Y _ H' R'
 .rw[if_neg W]at Z
  cases Z
def T_ {i:Nat}(U:fl[i]? = some .A) (hN:X.N.Nodup) (hi:X.N[i]? = some x) (hv:X.env.scope.names.lookup x=some .local\/X.env.scope.names.lookup x=some .cell)
 (O:X.fn x=true\/X.env.scope.names.lookup x=some .local:=by first|exact .inl rfl|exact .inr rfl):DG X fl [i] (.Name x pos) (gNl i):=
 PG.imp (S7 (i:=i) hN hi hv O) λv σ H Q h=>by
 obtain⟨G,ow,δ,d,δ',R,r,Z,q⟩:=h;unfold gNl at Z;by_cases Y:i<δ.length
 .rw[if_pos Y]at Z
  cases Z;exact q _ (R.setA U (n6 R Y) r) λj W=>aM (λz=>W (by rw[z];exact bQ.mpr rfl))
 .rw[if_neg Y]at Z
  cases Z
def ap5(K:PySem.W.Frag)(fl:List Fl)(tg:List Nat)(g:List D->DS->Option DS):TGs:=λvs σ H Q=>∃G ow δ ds δ',Rel K fl G ow σ H δ/\RAs K (okA ow) true H vs ds/\g ds δ=some δ'/\∀σ',Rel K fl G ow σ' H δ'->(∀j,j∉tg->σ'[j]? = σ[j]?)->Q σ' H
def PGs.imp (h:PGs X es t) (i:∀v σ H Q,t' v σ H Q->t v σ H Q):PGs X es t':=λpins s σ H v u Q I r q=>h pins s σ H v u Q I r (i v σ H Q q)
abbrev DGs(X:Cx)(fl:List Fl)(tg:List Nat)(es:List Expr)(g:List D->DS->Option DS):Prop:=PGs X es (ap5 X.K fl tg g)
theorem sH:DGs X fl [] [] nu:=PGs.imp S8 λvs σ H Q h=>by
 obtain⟨G,ow,δ,ds,δ',R,r,Z,q⟩:=h
 cases r with
 |nil=>cases Z;exact⟨rfl,q σ R λ_ _=>rfl⟩
 |cons _ _=>cases Z
theorem jd {g:FG} {gs:List D->DS->Option DS} (h1:DG X fl t e g) (h2:DGs X fl O es gs) (hs:(assignEach (e::es) X.env).map (·.2)=assign e X.env::(assignEach es X.env).map (·.2):=by rfl) :
 DGs X fl (t++O) (e::es) (fj g gs):=PGs.imp (Nq h1 h2 hs) λvs σ H Q h=>by
 obtain⟨G,ow,δ,ds,δ',R,r,U,q⟩:=h
 cases r with
 |nil=>cases U
 |cons r1 r2=>
  refine D3.ex1 (bind1 U) λY S T=>?_
  refine⟨_,_,rfl,G,ow,δ,_,Y,R,r1,S,λσ' R' k1=>⟨G,ow,Y,_,δ',R',r2,T,λZ W k2=>q Z W λj V=>?_⟩⟩;rw[k2 j λz=>V (aU _ z),k1 j λz=>V (bH _ z)]
def wA {gs:List D->DS->Option DS} {k:Nat} (U:X.calm=true) (h:DGs X fl t es gs) (hn:(assignEach es X.env).length=n:=by rfl) (O:(assignEach es X.env).findIdx? (·.1)=none:=by rfl) :
 DG X fl t (.Tuple es k pos) (gTn n gs):=PG.imp (Xz (n:=n) U h hn O) λv σ H Q h=>by
 obtain⟨G,ow,δ,d,δ',R,r,Z,q⟩:=h;unfold gTn at Z;split at Z
 .next l=>
  by_cases z:l.length=n
  .rw[if_pos z]at Z;obtain⟨a,xs,rfl,hx,Y⟩:=r.tupE;exact⟨a,xs,rfl,hx,by rwa[Y.length],G,ow,δ,l,δ',R,Y,Z,q⟩
  .rw[if_neg z]at Z
   cases Z
 .cases Z
end
end D3
variable{l:List D3.D}{vpos:Pos}{fa:D3.FA}{δ':D3.DS}
namespace D3
open L2 My
section
variable{X:Cx}{fl:List Fl}{a b c:Expr}{st:Stmt}{k:Kd}{fa:FE}{fs gs:FS}
theorem Yi {i:Nat} (R:Rel K fl G ow σ H δ) (q:fl[i]? = some .O) (h:aA i δ=some (.list l)) :
 ∃a xs,ow i=some a/\σ[i]? = some (some (.ref a))/\H a=some (.lst xs)/\RAs K (okA ow) true H xs l:=by
 have e:=jk h
 cases Z:ow i with
 |none=>
  have z:=R.oo i _ e (by rw[q];rfl) (by rw[q];simp) Z;simp[flat]at z
 |some a=>
  obtain⟨Y,_,xs,ds,h1,h2,h3,h4⟩:=R.own i a Z;rw[e]at h4
  cases h4;exact⟨a,xs,rfl,h1,h2,h3⟩
def wB{i:Nat}(hfl:fl[i]? = some .O)(h:DE X fl .A e f)(hN:X.N[i]? = some x)(hv:Vis X.env.scope x:=by first|exact Or.inl rfl|exact Or.inr (Or.inl rfl)|exact Or.inr (Or.inr rfl))(hd:(x==("__debug__":Str))=false:=by decide)
 (hcd:(x==("__classdict__":Str))=false:=by decide)
 (hs:swapsWith (.Call (.Attribute (.Name x vpos) "append" apos) [e] [] cpos) none pos.line X.env=pure false:=by rfl)
 (hbase:attributeBase (.Name x vpos) "append" X.env (eval (.Name x vpos) X.env)=eval (.Name x vpos) X.env:=by rfl)
 (hfew:((backTo cpos (starEach [e] X.env)).all (λx=>!x.1)&&(backToKw cpos (keywordEach [] X.env)).all (λx=>x.1.isSome)
  && decide (([e]:List Expr).length+([]:List eI).length+(if([]:List eI).isEmpty then 0 else 1)<30))=true:=by rfl)
 (Y:(apos.endLine==cpos.line)=true:=by rfl) (hst:starEach [e] X.env=(false,eval e X.env)::starEach [] X.env:=by rfl) (U:(backTo cpos (starEach [] X.env)).any (·.1)=false:=by rfl) :
 DS1 X fl (.Expr (.Call (.Attribute (.Name x vpos) "append" apos) [e] [] cpos) pos) (BR i f):=
 PS.imp (uR (JH PySem.F.plainAttrs_list PySem.F.slot_list_append PySem.F.type_list_append v7 (iT hN hv hd hcd) (d8 h iU hst) hbase hfew Y hst U) hs) λDn σ H h=>by
 refine D3.ex4 h λG ow δ o R Z q=>?_
 refine D3.ex1 (bind1 Z) λx P T=>?_
 refine D3.ex1 (bind1 T) λd Q V=>?_
 have Z:=V;split at Z
 case h_2=>cases Z
 next l=>
 by_cases W:l.length<1000000
 .rw[if_pos W]at Z
  cases Z;obtain⟨a,xs,S,h1,h2,h3⟩:=Yi R hfl P;refine⟨_,h1,.inl ⟨rfl,_,SqL.of h2⟩,G,ow,δ,d,R,Q,λv H' s r=>?_⟩;have R':=R.grow s;refine⟨a,xs,v,rfl,rfl,s _ _ h2,by rw[h3.length];exact mL W (by decide),?_⟩;exact q ow σ _ (R'.mut hfl S ((h3.same s).append (.cons r .nil)))
 .rw[if_neg W]at Z
  cases Z
def WM(K:PySem.W.Frag)(ow:Ow)(L:List Nat)(H1:Hp)(J:It)(l:List D):Prop:=∀H2:Hp,(∀b o,H1 b=some o->(∀i,ow i=some b->i∈L)->(∀i,b∉ow.n i)->H2 b=some o)->∀i:Nat,
 (∀d,l[i]? = some d->J.go i H2/\∀x Z,J.yld i H2 x Z->Same H2 Z/\RA K (λb=>okA ow b/\H1 b≠none) true Z x d)/\(l.length<=i->J.stop i H2)
noncomputable def tDI(K:PySem.W.Frag)(fl:List Fl)(L:List Nat)(fi:FA):TI:=λσ H R'=>∃G ow δ l,Rel K fl G ow σ H δ/\fi δ=some l/\∀J H1,Same H H1->WM K ow L H1 J l->R' J H1
abbrev DI(X:Cx)(fl:List Fl)(L:List Nat)(tg iter:Expr)(fi:FA):Prop:=PI X tg iter (tDI X.K fl L fi)
def PI.imp (h:PI X tg z t) (i:∀σ H R',t' σ H R'->t σ H R'):PI X tg z t':=λpins s σ H R' I q=>h pins s σ H R' I (i σ H R' q)
section
variable{ok:Ok}{pl:Bool}{H1 H2:Hp}{ow:Ow}
def nm{b:Addr}(q:∀i b,ow i=some b->∃xs,H1 b=some (.lst xs))(h:H1 b=some o)(hn:∀xs,o ≠ .lst xs):∀i,ow i=some b->i∈L:=λi e=>by
 obtain⟨xs,z⟩:=q i b e;rw[h]at z;exact absurd (cU.inj z) (hn xs)
def nm2{b:Addr}(q:∀i b,b∈ow.n i->Chd (H1 b))(h:H1 b=some o)(hn:Chg o->False):∀i,b∉ow.n i:=λi e=>by
 obtain⟨u,z,c⟩:=q i b e;rw[h]at z
 cases z;exact hn c
mutual
theorem RA.keep(hk:∀b o,H1 b=some o->(∀i,ow i=some b->i∈L)->(∀i,b∉ow.n i)->H2 b=some o)(hl:∀i b,ow i=some b->∃xs,H1 b=some (.lst xs))(hm:∀i b,b∈ow.n i->Chd (H1 b))(ho:∀b,ok b->okA ow b):∀{v:V}{d:D},RA K ok pl H1 v d->RA K ok pl H2 v d
 |_,_,.non=>.non
 |_,_,.bl b=>.bl b
 |_,_,.int i=>.int i
 |_,_,.str x=>.str x
 |_,_,.lst e k q=>.lst (hk _ _ e (λi z=>absurd z ((ho _ k).1 i)) (ho _ k).2) k (RAs.keep hk hl hm ho q)
 |_,_,.lsk e k q=>.lsk (by
  rcases e with⟨o,e⟩|e
  .exact .inl ⟨o,hk _ _ e (nm hl e (by intro xs z;cases z)) (nm2 hm e Chg.frz)⟩
  .exact .inr e) k (RAs.keep hk hl hm ho q)
 |_,_,.tup e q=>.tup (hk _ _ e (nm hl e (by intro xs z;cases z)) (nm2 hm e Chg.tup)) (RAs.keep hk hl hm ho q)
 |_,_,.dic e g k=>.dic (hk _ _ e (λi z=>absurd z ((ho _ k).1 i)) (ho _ k).2) (g.imp λ_ _ t=>hk _ _ t (nm hl t (by intro xs z;cases z)) (nm2 hm t Chg.tup)) k
 |_,_,.dik e g k=>.dik (hk _ _ e (nm hl e (by intro xs z;cases z)) (nm2 hm e Chg.frz)) (g.imp λ_ _ t=>hk _ _ t (nm hl t (by intro xs z;cases z)) (nm2 hm t Chg.tup)) k
 |_,_,.ins e g q z=>.ins (hk _ _ e (nm hl e (by intro xs z;cases z)) (nm2 hm e Chg.ins)) (hk _ _ g (nm hl g (by intro xs z;cases z)) (nm2 hm g Chg.own)) (RAs.keep hk hl hm ho q) z
theorem RAs.keep(hk:∀b o,H1 b=some o->(∀i,ow i=some b->i∈L)->(∀i,b∉ow.n i)->H2 b=some o)(hl:∀i b,ow i=some b->∃xs,H1 b=some (.lst xs))(hm:∀i b,b∈ow.n i->Chd (H1 b))(ho:∀b,ok b->okA ow b):∀{v:List V}{d:List D},RAs K ok pl H1 v d->RAs K ok pl H2 v d
 |_,_,.nil=>.nil
 |_,_,.cons e q=>.cons (RA.keep hk hl hm ho e) (RAs.keep hk hl hm ho q)
end
end
def Rel.ownL (R:Rel K fl G ow σ H δ):∀i b,ow i=some b->∃xs,H b=some (.lst xs):=λi b e=>by
 obtain⟨_,_,xs,_,_,h2,_⟩:=R.own i b e;exact⟨xs,h2⟩
def Rel.ownC (R:Rel K fl G ow σ H δ):∀i b,b∈ow.n i->Chd (H b):=λi b e=>(R.nt i b e).2.1
def HS (R:Rel K fl G ow σ H δ) (r:Rs K G.H0 ow Hb H (.B L) v (.list l)):∃a xs,v = .ref a/\SqL K H a xs /\
 ∀H2:Hp,(∀b o,H b=some o->(∀i,ow i=some b->i∈L)->(∀i,b∉ow.n i)->H2 b=some o)->SqL K H2 a xs/\RAs K (λb=>okA ow b/\H b≠none) true H2 xs l:=by
 rcases r with r|⟨i,hi,a,xs,ds,Y,rfl,e,hx,X⟩
 .cases r with
  |lst e k q=>exact⟨_,_,rfl,SqL.of e,λH2 Z=>⟨SqL.of (Z _ _ e (λi z=>absurd z (k.1 i)) k.2),RAs.keep Z R.ownL R.ownC (λb z=>z.1) q.track⟩⟩
  |lsk e k q=>exact⟨_,_,rfl,e.sq,λH2 Z=>⟨SqK.sq (by
   rcases e with⟨o,e⟩|e
   .exact .inl ⟨o,Z _ _ e (nm R.ownL e (by intro xs z;cases z)) (nm2 R.ownC e Chg.frz)⟩
   .exact .inr e),RAs.keep Z R.ownL R.ownC (λb z=>z.1) q.track⟩⟩
 .cases e;exact⟨a,xs,rfl,SqL.of hx,λH2 Z=>⟨SqL.of (Z _ _ hx (λj z=>by rwa[R.inj j i a z Y]) (λj z=>R.ns j i a z Y)),RAs.keep Z R.ownL R.ownC (λb z=>z.1) X.track⟩⟩
def JZ(h:DE X fl (.B L) e f):DI X fl L tg e (TX f):=PI.imp (S9 h) λσ H R' h=>by
 refine D3.ex4 h λG ow δ l R S q=>?_
 refine D3.ex1 (bind1 S) λd Q V=>?_
 cases d<;>first|(cases V;done)|skip
 cases V;refine⟨G,ow,δ,_,R,Q,λv H1 s r=>?_⟩;obtain⟨a,xs,rfl,hx,keep⟩:=HS (R.grow s) r;refine⟨a,rfl,⟨xs,hx⟩,q _ _ s λH2 k2 i=>?_⟩;obtain⟨k3,Y⟩:=keep H2 k2;refine⟨λd hd=>?_,λP=>⟨xs,k3,by rwa[Y.length]⟩⟩;obtain⟨y,W,U⟩:=Y.get hd;refine⟨⟨xs,y,k3,W⟩,λx O Z=>?_⟩;obtain⟨e,T⟩:=Z;subst e;have:some y=some x:=W.symm.trans (T xs k3)
 cases this;exact⟨Same.refl _,U⟩
def Ol(lo hi:Int):(iK lo hi).length=(hi-lo).toNat:=by simp[iK]
def Ez(lo hi:Int):WM K ow L H1 (Itr lo (hi-lo).toNat) (iK lo hi):=by
 intro H2 _ i;refine⟨λd hd=>?_,λY=>by rw[Ol]at Y;exact Y⟩;unfold iK at hd;rw[aP]at hd;by_cases Z:i<(hi-lo).toNat
 .rw[mK Z]at hd
  cases hd;refine⟨Z,λx V X=>?_⟩;obtain⟨e,W⟩:=X;subst e W;exact⟨Same.refl _,.int _⟩
 .rw[bD (by simpa using Z)]at hd
  cases hd
def sI(h:tu i=true): -(2^62)<=i/\i<2^62:=by
 unfold tu at h;rw[aO]at h;exact⟨of_decide_eq_true h.1,of_decide_eq_true h.2⟩
def mX{fa:FA}(U:Gl X "range")(hm:X.mg "range"=none)(h:DA X fl [a] fa)(O:starEach [a] X.env=[(false,eval a X.env)]:=by rfl):DI X fl L tg (.Call (.Name "range" p) [a] [] pos) (uW fa):=
 PI.imp (Lj U hm h O) λσ H R' h=>by
 refine D3.ex4 h λG ow δ l R Y q=>?_
 refine D3.ex1 (bind1 Y) λds W Z=>?_
 split at Z
 .next j=>
  by_cases z:tu j=true
  .rw[if_pos z]at Z
   cases Z;refine⟨G,ow,δ,_,R,W,λvs H1 s r=>?_⟩
   cases r with
   |cons r1 r2=>
    cases r2;obtain rfl:=r1.intE;refine⟨j,rfl,(sI z).1,(sI z).2,?_⟩;have w:=Ez (K:=X.K) (ow:=ow) (L:=L) (H1:=H1) 0 j;rw[uL]at w;exact q _ _ s w
  .rw[if_neg z]at Z
   cases Z
 .cases Z
def A_{fa:FA}(Y:Gl X "range")(hm:X.mg "range"=none)(h:DA X fl [a,b] fa)(U:starEach [a,b] X.env=[(false,eval a X.env),(false,eval b X.env)]:=by rfl)(O:starEach [b] X.env=[(false,eval b X.env)]:=by rfl):
 DI X fl L tg (.Call (.Name "range" p) [a,b] [] pos) (JL fa):=PI.imp (Lk Y hm h U O) λσ H R' h=>by
 refine D3.ex4 h λG ow δ l R W q=>?_
 refine D3.ex1 (bind1 W) λds V Z=>?_
 split at Z
 .next i j=>
  by_cases z:(tu i&&tu j)=true
  .rw[if_pos z]at Z
   cases Z;rw[aO]at z;refine⟨G,ow,δ,_,R,V,λvs H1 s r=>?_⟩
   cases r with
   |cons r1 r2=>
    cases r2 with
    |cons r2 r3=>
     cases r3;obtain rfl:=r1.intE;obtain rfl:=r2.intE;exact⟨i,j,rfl,⟨(sI z.1).1,(sI z.1).2,(sI z.2).1,(sI z.2).2⟩,q _ _ s (Ez i j)⟩
  .rw[if_neg z]at Z
   cases Z
 .cases Z
def lock(L:List Nat)(fl:List Fl):List Fl:=fl.mapIdx λi x=>if x = .O/\i∈L then .L else x
def kO : (lock L fl)[q]? = (fl[q]?).map λx=>if x = .O/\q∈L then .L else x:=by
 unfold lock;rw[lX]
theorem Om{i:Nat}:(lock L fl)[i]? = some .A<->fl[i]? = some .A:=by
 rw[kO]
 cases h:fl[i]? with
 |none=>simp
 |some x=>
  cases x<;>simp
  by_cases z:i∈L<;>simp[z]
theorem HW (h:(lock L fl)[q]? = some .O):fl[q]? = some .O/\q∉L:=by
 rw[kO]at h
 cases e:fl[q]? with
 |none=>rw[e]at h;simp at h
 |some x=>
  rw[e]at h
  cases x<;>simp at h
  by_cases z:q∈L
  .simp[z]at h
  .exact⟨rfl,z⟩
def HX{i:Nat}(h:fl[i]? = some .L):(lock L fl)[i]? = some .L:=by
 rw[kO,h];simp
def J0 (h:fl[q]? = some .O) (hi:q∈L):(lock L fl)[q]? = some .L:=by
 rw[kO,h];simp[hi]
def J4 (h:fl[q]? = some .O) (hi:q∉L):(lock L fl)[q]? = some .O:=by
 rw[kO,h];simp[hi]
theorem HY{i:Nat}:(lock L fl)[i]? = some .N<->fl[i]? = some .N:=by
 rw[kO]
 cases h:fl[i]? with
 |none=>simp
 |some x=>
  cases x<;>simp
  by_cases z:i∈L<;>simp[z]
theorem H_{i:Nat}:(lock L fl)[i]? = some .M<->fl[i]? = some .M:=by
 rw[kO]
 cases h:fl[i]? with
 |none=>simp
 |some x=>
  cases x<;>simp
  by_cases z:i∈L<;>simp[z]
theorem yW{i:Nat}:(lock L fl)[i]? = some .W<->fl[i]? = some .W:=by
 rw[kO]
 cases h:fl[i]? with
 |none=>simp
 |some x=>
  cases x<;>simp
  by_cases z:i∈L<;>simp[z]
theorem oZ{i:Nat}:isN (lock L fl)[i]? = isN fl[i]?:=by
 rw[kO]
 cases h:fl[i]? with
 |none=>rfl
 |some x=>
  cases x<;>simp[isN]
  by_cases z:i∈L<;>simp[z]
def Let(fl':List Fl)(ow:Ow)(b:Addr):Prop:=(∃j,ow j=some b/\fl'[j]? = some .O)\/∃j,b∈ow.n j/\(fl'[j]? = some .N\/fl'[j]? = some .W)
open Classical in
def ghL(fl':List Fl)(G:Gh)(ow:Ow)(H:Hp):Gh:=⟨G.H0,λb=>if Let fl' ow b then none else H b,ow,ow.n,G.tb,G.fv⟩
open Classical in
def qb {b:Addr} (h:¬Let fl' ow b):(ghL fl' G ow H).HF b=H b:=by
 unfold ghL;dsimp only;rw[if_neg h]
open Classical in
def Ia {b:Addr} (h:Let fl' ow b):(ghL fl' G ow H).HF b=none:=by
 unfold ghL;dsimp only;rw[if_pos h]
def Rel.lock{σ:St}(L:List Nat)(R:Rel K fl G ow σ H δ):Rel K (lock L fl) (ghL (lock L fl) G ow H) ow σ H δ:=by
 refine⟨λb o hb=>?_,λb o hb=>?_,R.len,λi a h=>?_,R.inj,λi h=>rfl,λi d h1 hn h2=>R.dat i d h1 (by rw[oZ]at hn;exact hn) h2,λi d h1 hn h2 h3=>R.oo i d h1 (by rw[oZ]at hn;exact hn) (λz=>h2 (Om.mpr z)) h3,λi a h=>?_,R.nd,R.ns,λi h=>rfl,λi d hn h1=>R.nr i d (by rw[oZ]at hn;exact hn) h1,λi u h e=>R.fx i u (yW.mp h) e⟩
 .have Y:G.H0 b=some o:=hb;rw[qb]
  .exact R.same0 b o Y
  .rintro(⟨j,e,_⟩|⟨j,e,_⟩)
   .have:=(R.own j b e).1;rw[Y]at this
    cases this
   .have:=(R.nt j b e).1;rw[Y]at this
    cases this
 .by_cases z:Let (D3.lock L fl) ow b
  .rw[Ia z]at hb;cases hb
  .rw[qb z]at hb;exact hb
 .obtain⟨V,Z,xs,ds,h1,h2,h3,h4⟩:=R.own i a h;refine⟨V,?_,xs,ds,h1,h2,h3,h4⟩;have out:(D3.lock L fl)[i]? = some .L->(ghL (D3.lock L fl) G ow H).HF a=H a:=λW=>qb (by
   rintro(⟨j,e,X⟩|⟨j,e,X⟩)
   .rw[R.inj j i a e h,W]at X
    cases X
   .exact R.ns j i a e h)
  rcases Z with⟨Z,_⟩|⟨Z,_⟩
  .by_cases hi:i∈L
   .exact .inr ⟨J0 Z hi,xs,by rw[out (J0 Z hi)];exact h2⟩
   .exact .inl ⟨J4 Z hi,Ia (.inl ⟨i,h,J4 Z hi⟩)⟩
  .exact .inr ⟨HX Z,xs,by rw[out (HX Z)];exact h2⟩
 .obtain⟨g1,g2,g3⟩:=R.nt i a h;refine⟨g1,g2,?_⟩;rcases g3 with⟨z,_⟩|z
  .have z:=z.imp (HY (L:=L)).mpr (yW (L:=L)).mpr;exact .inl ⟨z,Ia (.inr ⟨i,h,z⟩)⟩
  .exact .inr (H_.mpr z)
def Rel.unlock{q:Ow}{σ σ':St}(R:Rel K fl G ow σ H δ)(R':Rel K (D3.lock L fl) (ghL (D3.lock L fl) G ow H) q σ' H' δ'):Rel K fl G q σ' H' δ':=by
 have sub:Same G.HF (ghL (D3.lock L fl) G ow H).HF:=λb o hb=>by
  rw[qb]
  .exact R.s1 b o hb
  .rintro(⟨j,e,Z⟩|⟨j,e,Z⟩)
   .rcases(R.own j b e).2.1 with⟨_,z⟩|⟨z,_⟩
    .rw[hb]at z;cases z
    .have:=(HW Z).1;rw[z]at this
     cases this
   .rcases(R.nt j b e).2.2 with⟨_,z⟩|z
    .rw[hb]at z;cases z
    .rcases Z with Z|Z
     .have:=HY.mp Z;rw[z]at this
      cases this
     .have:=yW.mp Z;rw[z]at this
      cases this
 refine⟨R.s0,sub.trans R'.s1,R'.len,λi a h=>?_,R'.inj,λi h=>?_,λi d h1 hn h2=>R'.dat i d h1 (by rw[oZ];exact hn) h2,λi d h1 hn h2 h3=>R'.oo i d h1 (by rw[oZ];exact hn) (λz=>h2 (Om.mp z)) h3,λi a h=>?_,R'.nd,R'.ns,λi h=>?_,λi d hn h1=>R'.nr i d (by rw[oZ];exact hn) h1,λi u h e=>R'.fx i u (yW.mpr h) e⟩
 .obtain⟨W,Y,rest⟩:=R'.own i a h;refine⟨W,?_,rest⟩;rcases Y with⟨Y,X⟩|⟨Y,_⟩
  .exact .inl ⟨(HW Y).1,sub.free X⟩
  .have e:q i=ow i:=R'.pin i Y;rw[e]at h;exact(R.own i a h).2.1
 .have e:q i=ow i:=R'.pin i (HX h);rw[e];exact R.pin i h
 .obtain⟨g1,g2,g3⟩:=R'.nt i a h;rcases g3 with⟨z,X⟩|z
  .exact⟨g1,g2,.inl ⟨z.imp HY.mp yW.mp,sub.free X⟩⟩
  .exact⟨g1,g2,.inr (H_.mp z)⟩
 .have e:q.n i=ow.n i:=R'.np i (H_.mpr h);rw[e];exact R.np i h
def uf{iter:Expr}{T:List Nat} (hp:PassesOwn (model X.prog X.w) X.A X.env X.xe) (hc:X.calm=true) (hi:DI X fl L tg iter fi) (hg:DG X (lock L fl) T tg q0) (hb:DSs X (lock L fl) body fs)
 (hs:∀x,foldedSetIterable iter X.env x=pure x:=by intro _;rfl):DS1 X fl (.For tg iter body [] pos) (yN fi q0 fs):=PS.imp (XF hp hc hi hg hb hs) λDn σ H h=>by
 refine D3.ex4 h λG ow δ o F k q=>?_
 refine D3.ex1 (bind1 k) λl e1 e2=>?_
 refine⟨G,ow,δ,l,F,e1,λJ H1 s C=>?_⟩;have N:=F.grow s;have RL:=N.lock L;refine⟨λi m σ' H'=>m=l.length-i/\∃Z δ',Rel X.K (lock L fl) (ghL (lock L fl) G ow H1) Z σ' H' δ'/\oW q0 fs (l.drop i) δ'=some o,⟨_,rfl,ow,δ,RL,by simpa using e2⟩,?_⟩;rintro i m σ' H' ⟨rfl,Z,δ',R',hd⟩;have kept:∀b o,H1 b=some o->(∀i,ow i=some b->i∈L)->(∀i,b∉ow.n i)->H' b=some o:=λb o hb r hn=>R'.s1 b o (by
  rw[qb]
  .exact hb
  .rintro(⟨j,e,p⟩|⟨j,e,_⟩)
   .exact(HW p).2 (r j e)
   .exact hn j e)
 obtain⟨y,B⟩:=C H' kept i;by_cases O:i<l.length
 .have R:=jE O;rw[R,oW]at hd;refine D3.ex1 (bind1 hd) λP e3 hd=>?_
  refine D3.ex1 (bind1 hd) λI a hd=>?_
  obtain⟨go,D⟩:=y l[i] (aK O);refine .inr ⟨go,λσ' H'=>∃Z δ',Rel X.K (lock L fl) (ghL (lock L fl) G ow H1) Z σ' H' δ'/\oW q0 fs (l.drop (i+1)) δ'=some o,λU H2 ⟨Y,W,R2,h2⟩=>⟨l.length-(i+1),by lia,rfl,Y,W,R2,h2⟩,λx H3 t=>?_⟩;obtain⟨u,r3⟩:=D x H3 t;have sub:∀b,okA ow b/\H1 b≠none->okA Z b:=λb z=>by
   obtain⟨Q,M⟩:=z;refine⟨λj e=>?_,λj e=>?_⟩
   .rcases(R'.own j b e).2.1 with⟨_,S⟩|⟨S,_⟩
    .have:(ghL (lock L fl) G ow H1).HF b=H1 b:=qb (by rintro(⟨j',V,_⟩|⟨j',V,_⟩);exact Q.1 j' V;exact Q.2 j' V);rw[this]at S;exact M S
    .have V:Z j=ow j:=R'.pin j S;rw[V]at e;exact Q.1 j e
   .rcases(R'.nt j b e).2.2 with⟨_,S⟩|w
    .have:(ghL (lock L fl) G ow H1).HF b=H1 b:=qb (by rintro(⟨j',V,_⟩|⟨j',V,_⟩);exact Q.1 j' V;exact Q.2 j' V);rw[this]at S;exact M S
    .have V:Z.n j=ow.n j:=R'.np j w;rw[V]at e;exact Q.2 j e
  refine⟨_,Z,δ',_,P,R'.grow u,r3.imp sub (λz=>z),e3,λE R4 _=>⟨_,Z,P,I,R4,a,?_⟩⟩
  .cases I with
   |nx W=>exact λY U H2 R2=>⟨Y,W,R2,hd⟩
   |ct W=>exact λY U H2 R2=>⟨Y,W,R2,hd⟩
   |bk W=>cases hd;exact λY U H2 R2=>q Y U H2 (N.unlock R2)
   |rt d=>cases hd;exact q
   |ex c f v=>cases hd;exact q
 .have e:l.drop i=[]:=j8 (by lia);rw[e,oW]at hd
  cases hd;exact .inl ⟨B (by lia),q Z σ' H' (N.unlock R')⟩
theorem Oo(O:PassesOwn (model X.prog X.w) X.A X.env X.xe)(hc:DT X fl c ft)(hb:DSs X fl body fs):DS1 X fl (.While c body [] pos) (wu ft fs):=PS.imp (Nr O hc hb) λDn σ H h=>by
 refine D3.ex4 h λG ow δ o Q T q=>?_
 obtain⟨n,hn⟩:=HB T;refine⟨λm σ' H'=>∃W δ',Rel X.K fl G W σ' H' δ'/\gO ft fs m δ'=some o,⟨n,ow,δ,Q,hn⟩,?_⟩;rintro m σ' H' ⟨W,δ',R',hw⟩
 cases m with
 |zero=>simp[gO]at hw
 |succ m=>
  rw[gO]at hw;refine D3.ex1 (bind1 hw) λt R hw=>?_
  refine⟨G,W,δ',t,R',R,λH1 s=>?_⟩
  cases t with
  |false=>
   rw[if_neg gH]at hw ⊢
   cases hw;exact q W σ' H1 (R'.grow s)
  |true=>
   rw[if_pos rfl]at hw ⊢;refine D3.ex1 (bind1 hw) λU S hw=>?_
   refine⟨λV H2=>∃Y Z,Rel X.K fl G Y V H2 Z/\gO ft fs m Z=some o,λV H2 ⟨Y,Z,R2,h2⟩=>⟨m,gG m,Y,Z,R2,h2⟩,G,W,δ',U,R'.grow s,S,?_⟩
   cases U with
   |nx Z=>exact λY V H2 R2=>⟨Y,Z,R2,hw⟩
   |ct Z=>exact λY V H2 R2=>⟨Y,Z,R2,hw⟩
   |bk Z=>cases hw;exact q
   |rt d=>cases hw;exact q
   |ex c f v=>cases hw;exact q
end
end D3
variable{g':D3.D->D3.D->Option D3.D}
namespace D3
open L2 My
def notStar:Expr->Bool
 | .Starred _ _=>false
 |_=>true
def dY (h:notStar e=true):starEach (e::c) env=(false,eval e env)::starEach c env:=by
 cases e<;>first|rfl|cases h
theorem qH (h:c.all notStar=true):(backTo pos (starEach c env)).any (·.1)=false:=by
 induction c with
 |nil=>rfl
 |cons e c Z=>
  rw[List.all_cons,aO]at h;rw[dY h.1];have:=Z h.2;unfold backTo at this ⊢;rw[aN,lM,this];rfl
def isR:Kd->Bool
 | .P=>true
 | .A=>true
 | .R=>true
 | .C=>true
 |_=>false
def LK(H0:Hp)(ow:Ow)(Hb:Hp):Kd->Ok
 | .P=>ok1
 | .A=>okA ow
 | .R=>okN H0
 |_=>okN Hb
def Ua:Kd->Bool
 | .P=>true
 | .A=>true
 |_=>false
section
variable{H0 Hb Hc H:Hp}{ow:Ow}{v:V}{d:D}{k:Kd}
def Rs.ra(q:isR k=true)(h:Rs K H0 ow Hb H k v d):RA K (LK H0 ow Hb k) (Ua k) H v d:=by
 cases k<;>first|exact h|cases q
def Rs.of_ra(q:isR k=true)(h:RA K (LK H0 ow Hb k) (Ua k) H v d):Rs K H0 ow Hb H k v d:=by
 cases k<;>first|exact h|cases q
def Ba(s:Same Hb Hc)(q:isR k=true):∀a,LK H0 ow Hc k a->LK H0 ow Hb k a:=λa z=>by
 cases k<;>first|exact z|exact s.free z|cases q
theorem Rs.of_flat(q:flat d=true)(h:RA K ok0 false H v d):Rs K H0 ow Hb H k v d:=by
 cases k with
 |P=>exact RA.flat q h
 |B L=>exact .inl (RA.flat q h)
 |A=>exact RA.flat q h
 |R=>exact RA.flat q h
 |F=>exact .inl ⟨q,h⟩
 |C=>exact RA.flat q h
 |FC=>exact .inl ⟨q,h⟩
 |T=>
  obtain⟨as,h1,_,h3⟩:=RA.rt h
  cases as with
  |nil=>exact⟨[],h1,.nil,λ_ z=>by cases z⟩
  |cons a r=>exact(h3 a aJ).elim
theorem Rs.back(s:Same Hb Hc)(h:Rs K H0 ow Hc H k v d):Rs K H0 ow Hb H k v d:=by
 cases k with
 |P=>exact h
 |B L=>exact h
 |A=>exact h
 |R=>exact h
 |F=>
  rcases h with h|⟨a,xs,ds,h1,h2,h3,h4⟩
  .exact .inl h
  .exact .inr ⟨a,xs,ds,h1,h2,s.free h3,h4⟩
 |C=>exact RA.imp (λa z=>s.free z) (λz=>z) h
 |FC=>
  rcases h with h|⟨a,xs,ds,h1,h2,h3,h4,h5⟩
  .exact .inl h
  .exact .inr ⟨a,xs,ds,h1,h2,s.free h3,h4,h5.imp (λb z=>⟨s.free z.1,z.2⟩) (λz=>z)⟩
 |T=>
  obtain⟨as,h1,h2,h3⟩:=h;exact⟨as,h1,h2,λa z=>s.free (h3 a z)⟩
end
def tDB(K:PySem.W.Frag)(fl:List Fl)(k:Kd)(f:FA):TA:=λσ H Q=>∃G ow δ ds,Rel K fl G ow σ H δ/\f δ=some ds/\∀vs H',Same H H'->RAs K (LK G.H0 ow H k) (Ua k) H' vs ds->Q vs H'
abbrev DB(X:Cx)(fl:List Fl)(k:Kd)(es:List Expr)(f:FA):Prop:=PA X es (tDB X.K fl k f)
section
variable{X:Cx}{fl:List Fl}{a b c:Expr}{k:Kd}{fa:FE}
def Yj:DB X fl k [] aW:=PA.imp iU λσ H Q h=>by
 refine D3.ex4 h λG ow δ ds R Z q=>?_
 cases Z;exact q [] H (Same.refl H) .nil
def Ub (O:isR k=true) (h:DE X fl k e f) (Y:DB X fl k es fr) (U:starEach (e::es) X.env=(false,eval e X.env)::starEach es X.env:=by exact dY rfl):DB X fl k (e::es) (aj f fr):=PA.imp (d8 h Y U) λσ H Q h=>by
 refine D3.ex4 h λG ow δ ds R Z q=>?_
 refine D3.ex1 (bind1 Z) λd V Z=>?_
 refine D3.ex1 (bind1 Z) λr W Z=>?_
 cases Z;refine⟨G,ow,δ,d,R,V,λv H1 s1 r1=>⟨G,ow,δ,r,R.grow s1,W,λvs H2 s2 r2=>?_⟩⟩;exact q _ H2 (s1.trans s2) (.cons ((r1.ra O).same s2) (r2.imp (Ba s1 O) (λz=>z)))
def xq(h:DB X fl .P es fa'):DA X fl es fa':=PA.imp h λσ H Q h=>by
 refine D3.ex4 h λG ow δ ds R Z q=>?_
 exact⟨G,ow,δ,ds,R,Z,λvs H' s r=>q vs H' s r⟩
def f9{x1}{fa:FA}(O:isR k=true)(h:DB X fl k es fa):DE X fl k (.Tuple es x1 pos) (dTup fa):=PE.imp (NP h) λσ H Q h=>by
 refine D3.ex4 h λG ow δ d R W q=>?_
 refine D3.ex1 (bind1 W) λl V Z=>?_
 by_cases z:l.length<=sizeLine
 .rw[if_pos z]at Z
  cases Z;refine⟨G,ow,δ,l,R,V,λvs H' s r=>⟨by rwa[r.length],λp Y=>?_⟩⟩;have g:=cP Y (.tup vs);exact q _ _ (s.trans g) (Rs.of_ra O (.tup bM (r.same g)))
 .rw[if_neg z]at Z
  cases Z
def Cd{fa:FA}(h:DB X fl .A es fa):DE X fl .F (.List es pos) (d9 fa):=PE.imp (Bv h) λσ H Q h=>by
 refine D3.ex4 h λG ow δ d R W q=>?_
 refine D3.ex1 (bind1 W) λl V Z=>?_
 by_cases z:l.length<=sizeLine
 .rw[if_pos z]at Z
  cases Z;refine⟨G,ow,δ,l,R,V,λvs H' s r=>⟨by rwa[r.length],λp Y=>?_⟩⟩;have g:=cP Y (.lst vs);exact q _ _ (s.trans g) (.inr ⟨p,vs,l,rfl,rfl,s.free Y,bM,(r.track.imp (λb w=>⟨w.1,λe=>w.2 (e▸Y)⟩) (λz=>z)).same g⟩)
 .rw[if_neg z]at Z
  cases Z
def fY{fa:FA}(h:DB X fl .C es fa):DE X fl .FC (.List es pos) (d9 fa):=PE.imp (Bv h) λσ H Q h=>by
 refine D3.ex4 h λG ow δ d R W q=>?_
 refine D3.ex1 (bind1 W) λl V Z=>?_
 by_cases z:l.length<=sizeLine
 .rw[if_pos z]at Z
  cases Z;refine⟨G,ow,δ,l,R,V,λvs H' s r=>⟨by rwa[r.length],λp Y=>?_⟩⟩;have g:=cP Y (.lst vs);exact q _ _ (s.trans g) (.inr ⟨p,vs,l,rfl,rfl,s.free Y,bM,(r.track.imp (λb w=>⟨w.1,λe=>w.2 (e▸Y)⟩) (λz=>z)).same g⟩)
 .rw[if_neg z]at Z
  cases Z
def RAs.at{ok:Ok}{pl:Bool}(r:RAs K ok pl H vs l)(h:pAt l i=some d):∃v,atI vs i=some v/\RA K ok pl H v d:=by
 unfold atI;refine D3.ex1 (bind1 h) λj X Y=>?_
 obtain⟨y,W,Z⟩:=r.get Y;exact⟨y,by rwa[r.length,show ixN l.length i=some j from X],Z⟩
def ad0(ha:DE X fl (.B L) a fa)(hb:DE X fl .P b fb)(O:pR b):DE X fl .A (.Subscript a b pos) (dOp gIx fa fb):=PE.imp (En Bx ha hb O) λσ H Q h=>by
 refine D3.ex4 h λG ow δ d R S q=>?_
 refine D3.ex2 (rF S) λx y M N W=>?_
 refine⟨G,ow,δ,x,R,M,λv H1 s1 r1=>⟨G,ow,δ,y,R.grow s1,N,λu H2 s2 r2=>?_⟩⟩;unfold gIx at W;split at W
 .next l i=>
  obtain rfl:=RA.intE r2;rcases r1 with r1|⟨U,_,p,xs,ds,T,rfl,Z,hx,Y⟩
  .obtain⟨p,xs,rfl,hx,Y⟩:=RA.lstE (RA.same s2 r1);obtain⟨z,Z,V⟩:=Y.at W;exact .inl ⟨p,xs,i,z,rfl,rfl,hx,Z,q z H2 (s1.trans s2) V⟩
  .cases Z;obtain⟨z,Z,V⟩:=(Y.same s2).at W;exact .inl ⟨p,xs,i,z,rfl,rfl,SqL.of (s2 _ _ hx),Z,q z H2 (s1.trans s2) V⟩
 .next l i=>
  obtain rfl:=RA.intE r2;rcases r1 with r1|⟨U,_,p,xs,ds,T,rfl,Z,hx,Y⟩
  .obtain⟨p,xs,rfl,hx,Y⟩:=RA.tupE (RA.same s2 r1);obtain⟨z,Z,V⟩:=Y.at W;exact .inr (.inl ⟨p,xs,i,z,rfl,rfl,hx,Z,q z H2 (s1.trans s2) V⟩)
  .cases Z
 .cases W
def Oq (h:DE X fl k a f):DE X fl k (.BoolOp op [a] pos) f:=Xv h
def Ot(h1:DE X fl .P a fa)(h2:DE X fl k (.BoolOp .And (b::rest) pos) fb):DE X fl k (.BoolOp .And (a::b::rest) pos) (TJ fa fb):=PE.imp (Xw h1 h2) λσ H Q h=>by
 refine D3.ex4 h λG ow δ d R Y q=>?_
 refine D3.ex1 (bind1 Y) λx W Z=>?_
 refine⟨G,ow,δ,x,R,W,λv H1 s1 r1=>?_⟩;split at Z
 .obtain rfl:=RA.blE r1;exact⟨true,rfl,v9 ⟨G,ow,δ,d,R.grow s1,Z,λu H2 s2 r2=>q u H2 (s1.trans s2) (r2.back s1)⟩⟩
 .obtain rfl:=RA.blE r1
  cases Z;exact⟨false,rfl,v8 (q _ H1 s1 (Rs.of_flat rfl (.bl _)))⟩
 .cases Z
def Yk(h1:DE X fl .P a fa):DE X fl .FC (.UnaryOp .Not a pos) (Yc fa):=PE.imp (Xx h1) λσ H Q h=>by
 refine D3.ex4 h λG ow δ d R Y q=>?_
 refine D3.ex1 (bind1 Y) λx W Z=>?_
 refine⟨G,ow,δ,x,R,W,λv H1 s1 r1=>?_⟩;split at Z
 .next c=>
  obtain rfl:=RA.blE r1
  cases Z;exact⟨c,rfl,q _ H1 s1 (Rs.of_flat rfl (.bl _))⟩
 .cases Z
theorem ug(h:DT X fl a ft):DT X fl (.UnaryOp .Not a pos) (mD ft):=PT.imp (Hr h) λσ H Q h=>by
 refine D3.ex4 h λG ow δ t R Z q=>?_
 unfold mD at Z
 cases e:ft δ with
 |none=>rw[e]at Z;cases Z
 |some x=>
  rw[e]at Z
  cases Z;exact⟨G,ow,δ,x,R,e,λH' s=>q H' s⟩
def u5(h:DT X fl a ft):DW X fl (.BoolOp .And [a] pos) ft:=S6 h
def qd(h:DT X fl a ft):DW X fl (.BoolOp .Or [a] pos) ft:=Hq h
theorem yX(h1:DT X fl a ft)(h2:DW X fl (.BoolOp .And (b::rest) pos) gt):DW X fl (.BoolOp .And (a::b::rest) pos) (vX ft gt):=PW.imp (Xu h1 h2) λσ H Q h=>by
 refine D3.ex4 h λG ow δ t R Y q=>?_
 refine D3.ex1 (bind1 Y) λx W Z=>?_
 refine⟨G,ow,δ,x,R,W,λH1 s1=>?_⟩
 cases x with
 |true=>exact v9 ⟨G,ow,δ,t,R.grow s1,Z,λH2 s2=>q H2 (s1.trans s2)⟩
 |false=>cases Z;exact v8 (q H1 s1)
theorem u6(h1:DT X fl a ft)(h2:DW X fl (.BoolOp .Or (b::rest) pos) gt):DW X fl (.BoolOp .Or (a::b::rest) pos) (tOr ft gt):=PW.imp (Nm h1 h2) λσ H Q h=>by
 refine D3.ex4 h λG ow δ t R Y q=>?_
 refine D3.ex1 (bind1 Y) λx W Z=>?_
 refine⟨G,ow,δ,x,R,W,λH1 s1=>?_⟩
 cases x with
 |true=>cases Z;exact v9 (q H1 s1)
 |false=>exact v8 ⟨G,ow,δ,t,R.grow s1,Z,λH2 s2=>q H2 (s1.trans s2)⟩
def u9(h:DW X fl a ft):DT X fl a ft:=PW.pt h
def EY{op O:CmpOp}{r r':R2}(ho:OpR X (compareOp op) r)(U:OpR X (compareOp O) r')(hb:BrO X.K r g)(hb':BrO X.K r' g')(h1:DE X fl .P a fa)(h2:DE X fl .P b fb)(h3:DE X fl .P c fc)
 (hm:lastMarks [op,O] [b,c]=false:=by with_unfolding_all rfl):DE X fl .FC (.Compare a [op,O] [b,c] pos) (oE g g' fa fb fc):=PE.imp (Nv ho U h1 h2 h3 hm) λσ H Q h=>by
 refine D3.ex4 h λG ow δ d R Z q=>?_
 refine D3.ex1 (bind1 Z) λx I Z=>?_
 refine D3.ex1 (bind1 Z) λy J Z=>?_
 refine D3.ex1 (bind1 Z) λz L Z=>?_
 refine⟨G,ow,δ,x,R,I,λv H1 s1 r1=>⟨G,ow,δ,y,R.grow s1,J,λu H2 s2 r2=>?_⟩⟩;refine hb H2 v u x y z _ (RA.same s2 r1) r2 L λF V Y=>?_
 split at Z
 .obtain rfl:=Y.blE;refine D3.ex1 (bind1 Z) λw M N=>?_
  refine⟨true,rfl,v9 ⟨G,ow,δ,w,R.grow (s1.trans s2),M,λS T W r3=>?_⟩⟩;exact hb' T u S y w d Q (RA.same W r2) r3 N λz V Y=>q z T (s1.trans (s2.trans W)) (.inl ⟨V,Y⟩)
 .obtain rfl:=Y.blE
  cases Z;exact⟨false,rfl,v8 (q _ H2 (s1.trans s2) (.inl ⟨rfl,.bl _⟩))⟩
 .cases Z
def Yl (r:RA K ok q H v d):decide (v = .non)=isNone d:=by
 cases r<;>rfl
def BrC(K:PySem.W.Frag)(r:List V->Hp->VK->Prop)(g:List D->Option D):Prop:=∀(H:Hp)(xs:List V)(ds:List D)(d:D)(Q:VK),RAs K ok1 true H xs ds->g ds=some d->(∀v,flat d=true->RA K ok0 false H v d->Q v H)->r xs H Q
def nC{id:String}{r:List V->Hp->VK->Prop}{g:List D->Option D}{fa:FA}(hc:lB X (.builtin id) r)(hb:BrC X.K r g)(hg:Gl X x)(hm:X.mg x=none)(O:bootBuiltins x=some (.builtin id))(ha:DB X fl .P (e::es) fa)(hn:x≠"__name__" := by decide)(Y:(x==("__debug__":Str))=false:=by decide)
 (he:starEach (e::es) X.env=(false,eval e X.env)::starEach es X.env:=by exact dY rfl) (U:(backTo pos (starEach es X.env)).any (·.1)=false:=by exact qH rfl):DE X fl .FC (.Call (.Name x p) (e::es) [] pos) (dCall g fa):=
 PE.imp (rA hc hg hm O ha hn Y he U) λσ H Q h=>by
 refine D3.ex4 h λG ow δ d R T q=>?_
 refine D3.ex1 (bind1 T) λds N S=>?_
 exact⟨G,ow,δ,ds,R,N,λvs H' s W=>hb H' vs ds d Q W S λv O Z=>q v H' s (.inl ⟨O,Z⟩)⟩
def E_:BrC K (λxs H Q=>∃p ys,xs=[.ref p]/\(SqL K H p ys\/SqT K H p ys)/\Q (.int ys.length) H) BW:=by
 intro H xs ds d Q r e q;unfold BW at e;split at e
 .next l=>
  cases e
  cases r with
  |cons r1 r2=>
   cases r2;obtain⟨a,ys,rfl,hx,Z⟩:=r1.lstE;refine⟨a,ys,rfl,.inl hx,?_⟩;rw[Z.length];exact q _ rfl (.int _)
 .next l=>
  cases e
  cases r with
  |cons r1 r2=>
   cases r2;obtain⟨a,ys,rfl,hx,Z⟩:=r1.tupE;refine⟨a,ys,rfl,.inr hx,?_⟩;rw[Z.length];exact q _ rfl (.int _)
 .cases e
def Ym:BrC K (λxs H Q=>∃i j,xs=[.int i,.int j]/\Q (.int (if j>i then j else i)) H) JN:=by
 intro H xs ds d Q r e q;unfold JN at e;split at e
 .cases e
  cases r with
  |cons r1 r2=>
   cases r2 with
   |cons r2 r3=>
    cases r3;obtain rfl:=r1.intE;obtain rfl:=r2.intE;exact⟨_,_,rfl,q _ rfl (.int _)⟩
 .cases e
def Yn:BrC K (λxs H Q=>∃i j,xs=[.int i,.int j]/\Q (.int (if j<i then j else i)) H) JQ:=by
 intro H xs ds d Q r e q;unfold JQ at e;split at e
 .cases e
  cases r with
  |cons r1 r2=>
   cases r2 with
   |cons r2 r3=>
    cases r3;obtain rfl:=r1.intE;obtain rfl:=r2.intE;exact⟨_,_,rfl,q _ rfl (.int _)⟩
 .cases e
def Uc(d:D):tyD d="NoneType"\/tyD d="bool"\/tyD d="int"\/tyD d="str"\/tyD d="list"\/tyD d="tuple"\/tyD d="dict" := by
 cases d<;>simp[tyD]
def ap6(K:PySem.W.Frag):List V->Hp->VK->Prop:=λxs H Q=>∃x c d,xs=[x,.ty c]/\(c="int"\/c="bool"\/c="tuple"\/c="list"\/c="str")/\RA K ok1 true H x d/\noI d=true/\Q (.bl (isT c (tyD d))) H
theorem Ou:lB X (.builtin "isinstance") (ap6 X.K):=by
 intro pins s σ H xs us Q I r h;obtain⟨x,c,d,rfl,N,ra,hx,q⟩:=h;obtain⟨u,M,rfl,Y,P⟩:=vals2 r
 cases P;have kn:=X_ (K:=X.K) N (Uc d);have Z:∀tk,EP X pins σ Q (.bool (isT c (tyD d))) {s with toks:=tk}:=λtk=>⟨.bl _,H,I.tok _,rfl,q⟩
 cases ra with
 |non=>cases(show u=dL from Y);exact PySem.W.kia_one PySem.W.kitx_none I.kIn eh kn (λz=>nomatch z) Z
 |bl b=>cases(show u=ef b from Y);exact PySem.W.kia_one PySem.W.kitx_bool I.kIn eh kn (λz=>nomatch z) Z
 |int i=>obtain⟨t,z⟩:=(show ∃t,u=ez i t from Y);cases z;exact PySem.W.kia_one PySem.W.kitx_int I.kIn eh kn (λz=>nomatch z) Z
 |str y=>obtain⟨t,z⟩:=(show ∃t,u=eQ y t from Y);cases z;exact PySem.W.kia_one PySem.W.kitx_str I.kIn eh kn (λz=>nomatch z) Z
 | @lst a xs ds e k R=>
  cases(show u=dr a from Y);obtain⟨its,_,⟨o,n,T,U,_⟩,_⟩:=I.list (SqL.of e);exact PySem.W.kia_one PySem.W.kitx_list I.kIn ⟨_,T,U⟩ kn (λz=>nomatch z) Z
 | @lsk a xs ds e k R=>
  cases(show u=dr a from Y);obtain⟨its,_,⟨o,n,T,U,_⟩,_⟩:=I.list e.sq;exact PySem.W.kia_one PySem.W.kitx_list I.kIn ⟨_,T,U⟩ kn (λz=>nomatch z) Z
 | @tup a xs ds e R=>
  cases(show u=dr a from Y);obtain⟨its,_,⟨o,T,U,_⟩,_⟩:=I.tuple e.sq;exact PySem.W.kia_one PySem.W.kitx_tuple I.kIn ⟨_,T,U⟩ kn (λz=>nomatch z) Z
 | @dic a S kvs e g k=>
  rcases g.or with⟨ks,z⟩|⟨ks,z⟩
  .rw[z]at e;exact Ar I Y (TyOf.dK e) kn Z
  .rw[z]at e;exact Ar I Y (TyOf.dT e) kn Z
 | @dik a S kvs V e g k=>
  cases(show u=dr a from Y);have V:=(show gR X.prog X.w H s.heap a S from(show L2.Rd H a S from .inr ⟨_,e⟩).ok I.hok);rcases g.or with⟨ks,z⟩|⟨ks,z⟩
  .rw[z]at V;obtain⟨_,_,vs,_,dd⟩:=V;obtain⟨O,_,_,h1,h2,_⟩:=dd;exact PySem.W.kia_one PySem.W.kitx_dict I.kIn ⟨_,h1,h2.1⟩ kn (λz=>nomatch z) Z
  .rw[z]at V;obtain⟨_,_,xs,_,O,_,_,h1,h2,_⟩:=V;exact PySem.W.kia_one PySem.W.kitx_dict I.kIn ⟨_,h1,h2.1⟩ kn (λz=>nomatch z) Z
 |ins _ _ _ z=>rw[z]at hx;cases hx
def Ie{T:String}{O:Pos}(hc:T="int"\/T="bool"\/T="tuple"\/T="list"\/T="str")(h:DE X fl .P a f)(hg:Gl X "isinstance")(hm:X.mg "isinstance"=none)(hg':Gl X x)(hm':X.mg x=none)(U:bootBuiltins x=some (.type T))
 (hn':x≠"__name__" := by decide) (hd':(x==("__debug__":Str))=false:=by decide)
 (he:starEach [a,.Name x O] X.env=(false,eval a X.env)::starEach [.Name x O] X.env:=by rfl) (he2:starEach [.Name x O] X.env=(false,eval (.Name x O) X.env)::starEach [] X.env:=by rfl) (Y:(backTo pos (starEach [.Name x O] X.env)).any (·.1)=false:=by rfl) :
 DE X fl .FC (.Call (.Name "isinstance" p) [a,.Name x O] [] pos) (dUn (gIs T) f):=
 PE.imp (rA Ou hg hm c9 (d8 h (d8 (Jy (v:=.ty T) hg' hm' U rfl hn' hd') iU he2) he) (by decide) (by decide) he Y) λσ H Q h=>by
 refine D3.ex4 h λG ow δ d R W q=>?_
 refine D3.ex1 (bind1 W) λx V Z=>?_
 unfold gIs at Z;split at Z
 .rename_i hx
  cases Z;exact⟨G,ow,δ,x,R,V,λv H1 s1 r1=>⟨v,T,x,rfl,hc,r1,hx,q _ H1 s1 (.inl ⟨rfl,.bl _⟩)⟩⟩
 .cases Z
def rG(h:DE X fl .P a f):DE X fl .FC (.UnaryOp .USub a pos) (dUn rD f):=PE.imp (ab7 XQ h) λσ H Q h=>by
 refine D3.ex4 h λG ow δ d R Y q=>?_
 refine D3.ex1 (bind1 Y) λx W Z=>?_
 refine⟨G,ow,δ,x,R,W,λv H1 s1 r1=>?_⟩;unfold rD at Z;split at Z
 .cases Z;obtain rfl:=RA.intE r1;exact⟨_,rfl,q _ H1 s1 (.inl ⟨rfl,.int _⟩)⟩
 .cases Z
end
def spD(K:PySem.W.Frag)(F:List D->Option D):Sp:=λvs H Q _=>∃ds d,(Tb H/\RAs K ok1 true H vs ds)/\F ds=some d/\∀v H',Same H H'->RA K (okN H) false H' v d->Q v H'
section
variable{st:Stmt}{k:Nat}{fs:FS}{fl:List Fl}
def sJ(p:Nat)(Y:∀i,i<p->fl[i]? = some .A)(q:ds.length=p)(hN:p<=N.length)(O:Tb H/\RAs K ok1 true H vs ds):
 Rel K fl ⟨H,H,λ_=>none,λ_=>[],O.1,λ_=>none⟩ ow0 (L2.start N vs) H (ds.map (λd=>some (.d d))++bK (N.length-p) none):=by
 have r:=O.2;have Z:vs.length=p:=by rw[r.length];exact q
 have get:∀i d,(ds.map (λd=>some (U.d d))++bK (N.length-p) none)[i]? = some (some (.d d))->i<p/\ds[i]? = some d:=λi d h=>by
  by_cases hi:i<p
  .rw[bY (by rw[aG,q];exact hi),aP]at h
   cases e:ds[i]? with
   |none=>rw[e]at h;cases h
   |some z=>rw[e]at h;cases h;exact⟨hi,rfl⟩
  .rw[cA (by rw[aG,q];lia),cX]at h;split at h<;>cases h
 refine⟨Same.refl H,Same.refl H,?_,λi a h=>(by cases h),λi j a h=>(by cases h),λi h=>rfl,λi d h _ _=>?_,λi d h _ h2 _=>?_,λi a h=>(by cases h),λi j a h=>(by cases h),λi j a h=>(by cases h),λi h=>rfl,λi d hn h=>?_,λi u h e=>(by cases e)⟩
 .unfold L2.start;simp only[bB,aG,bL,Z,q]
 .obtain⟨hi,e⟩:=get i d h;obtain⟨v,W,X⟩:=r.get e;refine⟨v,?_,X.imp (λ_ _=>⟨λi z=>(by cases z),λi z=>(by cases z)⟩) (λz=>z)⟩;unfold L2.start;rw[bY (by rw[aG,Z];exact hi),aP,W];rfl
 .exact absurd (Y i (get i d h).1) h2
 .rw[Y i (get i d h).1]at hn
  cases hn
end
section
variable{X:Cx}{fl:List Fl}{F:List D->Option D}{fa:FA}
def cV(h:Has X.prog X.w X.K X.mg X.base n x ps (spD X.K F))(Y:Room n X.A)(ha:DB X fl .P (e::es) fa)(Z:Gl X x:=by rfl)(U:(x==("__debug__":Str))=false:=by decide)
 (he:starEach (e::es) X.env=(false,eval e X.env)::starEach es X.env:=by exact dY rfl) (O:(backTo pos (starEach es X.env)).any (·.1)=false:=by exact qH rfl) :
 DE X fl .C (.Call (.Name x p) (e::es) [] pos) (dCall F fa):=PE.imp (yI h Y ha Z U he O) λσ H Q h=>by
 refine D3.ex4 h λG ow δ d R W q=>?_
 refine D3.ex1 (bind1 W) λds T V=>?_
 refine⟨G,ow,δ,ds,R,T,λvs H' s r=>?_⟩;show spD X.K F (vs++[]) H' Q E0;rw[cZ];exact⟨ds,d,⟨R.tb.same s,r⟩,V,λv H2 s2 r2=>q v H2 (s.trans s2) (RA.imp (λa z=>s.free z) (λz=>z) r2)⟩
end
end D3
variable{st:Stmt}
namespace D3
open L2 My
section
variable{X:Cx}{fl fl':List Fl}{a b c elt iter:Expr}{k:Kd}{fa:FE}{TT:List Nat}{fi:FA}{g:FG}
def Ce:PTs X [] (tDT X.K fl D3.yM):=λpins s σ H Q I h=>by
 refine D3.ex4 h λG ow δ b R Z q=>?_
 cases Z;exact TF pins s σ H Q I (q H (Same.refl H))
def Cg{σ:St}(t:Nat)(ix:List Nat)(O:∀i,i<t+ix.length->fl'[i]? = some .A)(R:Rel K fl G ow σ H δ)(s:Same H H1):
 Rel K fl' ⟨H,H,λ_=>none,λ_=>[],R.tb,λ_=>none⟩ ow0 (rC t ix σ) H1 (jY t ix δ):=by
 have get:∀i d,(jY t ix δ)[i]? = some (some (.d d))->i<t+ix.length/\∃j,ix[i-t]? = some j/\t<=i/\δ[j]? = some (some (.d d)):=λi d h=>by
  unfold jY at h;by_cases hi:i<t
  .rw[bY (by rw[bL];exact hi),cX,if_pos hi]at h
   cases h
  .rw[cA (by rw[bL];lia),bL,aP]at h
   cases e:ix[i-t]? with
   |none=>rw[e]at h;cases h
   |some j=>
    rw[e]at h;have T:i-t<ix.length:=by
     rcases mQ (i-t) ix.length with z|z
     .exact z
     .rw[bD z]at e;cases e
    refine⟨by lia,j,rfl,by lia,?_⟩;have h':(δ[j]?).getD none=some (.d d):=by simpa using h
    cases q:δ[j]? with
    |none=>rw[q]at h';cases h'
    |some o=>rw[q]at h';simp at h';rw[h']
 refine⟨Same.refl H,s,?_,λi a h=>(by cases h),λi j a h=>(by cases h),λi h=>rfl,λi d h _ _=>?_,λi d h _ h2 _=>absurd (O i (get i d h).1) h2,λi a h=>(by cases h),λi j a h=>(by cases h),λi j a h=>(by cases h),λi h=>rfl,λi d hn h=>(by rw[O i (get i d h).1]at hn;cases hn),λi u h e=>(by cases e)⟩
 .unfold rC jY;simp
 .obtain⟨hi,j,V,U,Y⟩:=get i d h;have Z:∃v,σ[j]? = some (some v)/\RA K ok1 true H v d:=by
   cases W:isN fl[j]? with
   |true=>
    obtain⟨v,h1,h2,_⟩:=R.nr j d W Y;exact⟨v,h1,h2.ra λ_ _=>trivial⟩
   |false=>
   cases X:ow j with
   |none=>
    obtain⟨v,h1,h2⟩:=R.dat j d Y W X;exact⟨v,h1,h2.imp (λ_ _=>trivial) (λz=>z)⟩
   |some a=>
    obtain⟨_,_,xs,ds,h1,h2,h3,h4⟩:=R.own j a X;rw[Y]at h4
    cases h4;exact⟨_,h1,.lst h2 trivial (h3.imp (λ_ _=>trivial) (λz=>z))⟩
  obtain⟨v,h1,h2⟩:=Z;refine⟨v,?_,(h2.imp (λ_ _=>⟨λi z=>(by cases z),λi z=>(by cases z)⟩) (λz=>z)).same s⟩;unfold rC;rw[cA (by rw[bL];lia),bL,aP,V];show some ((σ[j]?).getD none)=_;rw[h1];rfl
def Fb{σ:St}{H:Hp}{Q:VK}{t:Nat}(hfl:∀i,i<t+ix.length->fl'[i]? = some .A)(htg:∀j∈TT,j<t)
 (h:tD X.K fl .FC (lZ fi g ft f t ix) σ H Q):Et (tDI X.K fl L fi) (tDG X.K fl' TT g) (tDT X.K fl' ft) (tD X.K fl' .C f) t (rC t ix) σ H Q:=by
 refine D3.ex4 h λG ow δ d R hf q=>?_
 refine D3.ex1 (bind1 hf) λl e1 N=>?_
 by_cases w:l.length<=100000
 case neg=>rw[if_neg w]at N;cases N
 rw[if_pos w]at N;refine D3.ex1 (bind1 N) λr e3 e4=>?_
 cases e4;refine⟨G,ow,δ,l,R,e1,λJ H1 s1 a Dl hD=>?_⟩;have R1:=R.grow s1
 let S:Ok:=λb=>okN H b/\b≠Dl
 refine⟨λi m xs H2=>m=l.length-i/\H2 Dl=some (.lst xs)/\Same H1 H2/\xs.length<=i/\i<=l.length/\∃ds rest,RAs X.K S false H2 xs ds/\iB g ft f (jY t ix δ) (l.drop i)=some rest/\r=ds++rest,
  ⟨_,rfl,bM,cP hD _,aV _,g_ _,[],r,.nil,by simpa using e3,rfl⟩,?_⟩
 rintro i m xs H2 ⟨rfl,W,s2,D,u,ds,rest,B,Y,rfl⟩;refine⟨W,?_⟩;obtain⟨w1,w2⟩:=a H2 (λb o hb _ _=>s2 b o hb) i;by_cases U:i<l.length
 .have O:=jE U;rw[O,iB]at Y;refine D3.ex1 (bind1 Y) λT e5 Y=>?_
  refine D3.ex1 (bind1 Y) λs e6 Y=>?_
  obtain⟨go,c⟩:=w1 l[i] (aK U);refine .inr ⟨go,tW (bf D (bf u w)) (by decide),λx H3 hy=>?_⟩;obtain⟨I,r3⟩:=c x H3 hy;have F:=s2.trans I;have Rb:=(Cg t ix hfl R1 (Same.refl H1)).grow F;refine⟨_,_,_,_,T,Rb,r3.imp (λ_ _=>⟨λi z=>(by cases z),λi z=>(by cases z)⟩) (λz=>z),e5,λk p P=>⟨?_,?_⟩⟩
  .apply ji;intro n;rw[iR,iR];exact P (t+n) λz=>absurd (htg _ z) (by lia)
  .refine⟨_,_,T,s,p,e6,λH5 M=>?_⟩
   cases s with
   |false=>
    rw[if_neg gH]at Y ⊢;have Z:=I.trans M;exact⟨l.length-(i+1),by lia,rfl,Z _ _ W,s2.trans Z,by lia,U,ds,rest,B.same Z,Y,rfl⟩
   |true=>
    rw[if_pos rfl]at Y ⊢;refine D3.ex1 (bind1 Y) λy e7 Y=>?_
    refine D3.ex1 (bind1 Y) λl' e8 Y=>?_
    cases Y;refine⟨_,_,T,y,p.grow M,e7,λv H6 s6 r6=>?_⟩;have Z:=I.trans M;have V:=Z.trans s6;refine⟨V _ _ W,l.length-(i+1),by lia,rfl,bM,?_,by rw[bB,jf];lia,U,ds++[y],l',?_,e8,by simp⟩
    .intro b o hb;rw[bA (λz=>by subst z;rw[hD]at hb;cases hb)];exact(s2.trans V) b o hb
    .have nd:¬S Dl:=λz=>z.2 rfl
     have E:=s1.trans (s2.trans Z);have ry:RA X.K S false H6 v y:=RA.imp (λb z=>⟨E.free z,λe=>by subst e;rw[okN,Z _ _ W]at z;cases z⟩) (λz=>z) r6;exact((B.same V).append (.cons ry .nil)).upd (V _ _ W) nd
 .have ed:l.drop i=[]:=j8 (by lia);rw[ed,iB]at Y
  cases Y;refine .inl ⟨w2 (by lia),?_⟩;rw[cZ]at q;exact q (.ref Dl) H2 (s1.trans s2) (.inr ⟨Dl,xs,ds,rfl,rfl,s1.free hD,W,B⟩)
def qe(hc:X.calm=true)(T U:List Str)(ix:List Nat)(hi:DI X fl L tg iter fi)
 (hg:∀cl C Y Z fp,DG (blk X (T++U) scope cl C Y Z fp) fl' TT tg g) (ht:∀cl C Y Z fp,PTs (blk X (T++U) scope cl C Y Z fp) ifs (tDT X.K fl' ft)) (he:∀cl C Y Z fp,DE (blk X (T++U) scope cl C Y Z fp) fl' .C elt f)
 (hfl:∀i,i<T.length+ix.length->fl'[i]? = some .A:=by decide) (htg:∀j∈TT,j<T.length:=by decide)
 (hB:yK X.N X.env.scope.names scope.names U ix=true:=by rfl) (hk:scope.kind = .function:=by rfl) (O:∀y∈scope.names,y.2 ≠ .cell:=by decide +kernel)
 (q:∀x∈scope.names,x.2 = .local->scope.names.lookup x.1=some .local:=by decide +kernel)
 (hfr:∀x∈scope.names,x.2 = .free->x.1∈U:=by decide +kernel) (hs:∀x,foldedSetIterable iter X.env x=pure x:=by intro _;rfl) :
 DE X fl .FC (.ListComp elt [⟨tg,iter,ifs,0⟩] scope pos) (lZ fi g ft f T.length ix):=
 PE.imp (BL hc T U ix hi hg ht he hB hk O q hfr hs) λ_ _ _ h=>Fb hfl htg h
def Fd (s:Same H H1) (q:H1 t=none) (r:RAs K (okA ow) true H1 vs l):Rs K G.H0 ow H (upd H1 t (.lst vs)) .F (.ref t) (.list l):=
 .inr ⟨t,vs,l,rfl,rfl,s.free q,bM,(r.track.imp (λb w=>⟨w.1,λe=>w.2 (e▸q)⟩) (λz=>z)).same (cP q _)⟩
def wC (r:Rs K H0 ow Hb H (.B L) v (.list l)):∃a xs,v = .ref a/\SqL K H a xs/\RAs K (okA ow) true H xs l:=by
 rcases r with r|⟨i,hi,a,xs,ds,Y,rfl,e,hx,Z⟩
 .exact r.lstE
 .cases e;exact⟨a,xs,rfl,SqL.of hx,Z⟩
def ad1(K:PySem.W.Frag):R2:=λx y H Q=>∃l b xs zs,x = .ref l/\y = .ref b/\SqL K H l xs/\SqL K H b zs/\xs.length+zs.length<=sizeLine/\∀p,H p=none->Q (.ref p) (upd H p (.lst (xs++zs)))
def Ci:OpR X (binaryOp .Add) (ad1 X.K):=by
 intro pins s σ H x y v u Q I N O h;obtain⟨l,b,xs,zs,rfl,rfl,M,hB,L,q⟩:=h
 cases N
 cases O;obtain⟨its,r,p,_⟩:=I.list M;obtain⟨Z,r2,p2,_⟩:=I.list hB;obtain⟨⟨cls,dd,data,sl⟩,S,R,n,hd⟩:=p.isList;obtain⟨⟨P,T,data2,U⟩,Y,V,n2,W⟩:=p2.isList;simp only at R hd V W;subst R hd V W;have G:=r.length;have J:=r2.length;have e:its.toArray++Z.toArray=(its++Z).toArray:=by simp
 refine concat_meets ⟨_,S,rfl⟩ ⟨_,Y,rfl⟩ noFill_list_add seq_list_add PySem.F.slot_list_add PySem.F.entry_list_add (PySem.F.args_list_add_2 _ _) (list_addW l b its.toArray Z.toArray n n2 dd T sl U (by simp;lia)) ⟨S,Y,?_⟩;rw[e];exact⟨.ref _,_,I.lnew (t':=s.toks) (r.append r2) (by rw[bB];lia),rfl,q _ I.fresh⟩
def Yo{L':List Nat}(h1:DE X fl (.B L) a fa)(h2:DE X fl (.B L') b fb):DE X fl .F (.BinOp a .Add b pos) (dOp oX fa fb):=PE.imp (Jz Ci h1 h2) λσ H Q h=>by
 refine D3.ex4 h λG ow δ d R S q=>?_
 refine D3.ex2 (rF S) λx y O P Z=>?_
 refine⟨G,ow,δ,x,R,O,λv H1 s1 r1=>⟨G,ow,δ,y,R.grow s1,P,λu H2 s2 r2=>?_⟩⟩;unfold oX at Z;split at Z
 .next l m=>
  by_cases z:l.length+m.length<=1000000
  .rw[if_pos z]at Z
   cases Z;obtain⟨p,xs,rfl,hx,W⟩:=wC r1;obtain⟨U,ys,rfl,T,Y⟩:=wC r2;refine⟨p,U,xs,ys,rfl,rfl,s2.seq hx,T,?_,λpn V=>q _ _ ((s1.trans s2).trans (cP V _)) (Fd (G:=G) (s1.trans s2) V ((W.same s2).append Y))⟩;rw[W.length,Y.length];exact bf z (by decide)
  .rw[if_neg z]at Z
   cases Z
 .cases Z
def Ud(h:DE X fl (.B L) a f)(hg:Gl X "list")(hm:X.mg "list"=none)
 (U:starEach [a] X.env=(false,eval a X.env)::starEach [] X.env:=by rfl) (O:(backTo pos (starEach [] X.env)).any (·.1)=false:=by rfl):DE X fl .F (.Call (.Name "list" p) [a] [] pos) (dUn wY f):=
 PE.imp (mW uT hg hm c0 (d8 h iU U) (by decide) (by decide) U O) λσ H Q h=>by
 refine D3.ex4 h λG ow δ d R V q=>?_
 refine D3.ex1 (bind1 V) λx T Y=>?_
 refine⟨G,ow,δ,x,R,T,λv H1 s1 r1=>?_⟩;unfold wY at Y;split at Y
 .cases Y;obtain⟨p,xs,rfl,hx,W⟩:=wC r1;exact⟨p,xs,rfl,.inl hx,λpn Z=>q _ _ (s1.trans (cP Z _)) (Fd (G:=G) s1 Z W)⟩
 .cases Y;rcases r1 with r1|⟨i,hi,a,xs,ds,S,rfl,e,hx,W⟩
  .obtain⟨p,xs,rfl,hx,W⟩:=r1.tupE;exact⟨p,xs,rfl,.inr hx,λpn Z=>q _ _ (s1.trans (cP Z _)) (Fd (G:=G) s1 Z W)⟩
  .cases e
 .cases Y
def tDO(K:PySem.W.Frag)(fl:List Fl)(f:FO):TO:=λσ H Q=>∃G ow δ o,Rel K fl G ow σ H δ/\f δ=some o/\∀H',Same H H'->Q o H'
def PO.imp (h:PO X z t) (i:∀σ H Q,t' σ H Q->t σ H Q):PO X z t':=λpins s σ H Q I q=>h pins s σ H Q I (i σ H Q q)
def u_:PO X none (tDO X.K fl yP):=PO.imp Tp λσ H Q h=>by
 refine D3.ex4 h λG ow δ o R Z q=>?_
 cases Z;exact q H (Same.refl H)
def vd(h:DE X fl .P e f):PO X (some e) (tDO X.K fl (yQ f)):=PO.imp (Tq h) λσ H Q h=>by
 refine D3.ex4 h λG ow δ o R Y q=>?_
 refine D3.ex1 (bind1 Y) λd W Z=>?_
 split at Z
 .cases Z;refine⟨G,ow,δ,_,R,W,λv H1 s1 r1=>?_⟩;obtain rfl:=RA.intE r1;exact⟨_,rfl,q H1 s1⟩
 .cases Z
def Ov(n d:Nat)(o:Option Int):HT.sIx n d o=pSx n d o:=by
 cases o<;>rfl
def RAs.cut (r:RAs K ok q H vs l) (lo hi:Option Int):RAs K ok q H (Lw vs lo hi) (cuD l lo hi):=by
 unfold Lw cuD;rw[r.length,Ov,Ov];exact(r.drop _).take _
def ad2{lo hi:Option Expr}{fl1 O:FO}(h:DE X fl (.B L) a f)(h1:PO X lo (tDO X.K fl fl1))(h2:PO X hi (tDO X.K fl O)):DE X fl .F (.Subscript a (.Slice lo hi none p2) pos) (dSl f fl1 O):=PE.imp (El Tv h h1 h2) λσ H Q h=>by
 refine D3.ex4 h λG ow δ d R Y q=>?_
 refine D3.ex1 (bind1 Y) λx J Y=>?_
 refine D3.ex1 (bind1 Y) λU M Y=>?_
 refine D3.ex1 (bind1 Y) λV N W=>?_
 refine⟨G,ow,δ,x,R,J,λv H1 s1 r1=>⟨G,ow,δ,U,R.grow s1,M,λH2 s2=>⟨G,ow,δ,V,R.grow (s1.trans s2),N,λI S=>?_⟩⟩⟩;split at W
 .cases W;obtain⟨p,xs,rfl,hx,P⟩:=wC r1;have Z:=s2.trans S;exact⟨p,xs,rfl,Z.seq hx,λpn T=>q _ _ ((s1.trans Z).trans (cP T _)) (Fd (G:=G) (s1.trans Z) T ((P.same Z).cut U V))⟩
 .cases W
def Ox:DS1 X fl st (λ_=>none):=PS.imp Np λDn σ H h=>by
 refine D3.ex4 h λG ow δ o R Z q=>?_
 cases Z
end
end D3
namespace D3
open L2 My
section
variable{X:Cx}{σ:St}{H:Hp}
def Inv.turnedL (I:Inv X pins σ H s) (k:∀b o,b∉ch->s.heap.get? b=some o->h'.get? b=some o) (O:∀b∈ch,vZ X pins H b):Inv X pins σ H {s with heap:=h',toks:=t'}:=by
 have Y:∀b u,H b=some u->b∉ch:=λb u e z=>by rw[(O b z).1]at e;cases e
 refine I.step (g':=s.gens) (d':=s.drawn) (ch:=ch) (λb hb=>?_) (λb o _ _ Z e _=>k b o Z e) (λb o _ _ Z e _=>⟨o.slots,k b o Z e⟩) (λ_ _ _ _ n=>n)
  (λb o Z e=>⟨o,k b o Z e⟩) (λ_ _ e=>e) (λ_ _ _ e=>e) (λ_ _ _ e=>e) (λm hm=>?_) (λb u e=>?_) I.bare
 .obtain⟨R,f1,f2,T,U,V⟩:=O b hb;exact⟨T,f1,U,V⟩
 .obtain⟨o,es,S,W,r⟩:=hm;exact⟨o,es,S,k _ o (λz=>(O _ z).2.1 rfl) W,r⟩
 .refine(I.hok b u e).stay (λc v Z q=>k c v ?_ q) (λ_ q=>q) λ_ _ q=>q
  rcases Z with z|z
  .rw[z];exact Y b u e
  .exact Y c _ z
end
def Ite(K:PySem.W.Frag)(a:Addr):It:=
 ⟨λi H=>∃xs x,SqL K H a xs/\xs[i]? = some x,λi H x H'=>∃p y,H p=none/\H'=upd H p (.tup [.int i,y])/\x = .ref p/\∀xs,SqL K H a xs->xs[i]? = some y,λi H=>∃xs,SqL K H a xs/\xs.length<=i⟩
theorem LQ {x1} (a it:Addr) :
 Turn P w K (.Tuple elts x1 q0) (Ite K a) [it+1,it] (it+1) (λi h=>∃old,IsEnum h (it+1) it (i:Int) old/\h.IsListIter it a i) where
 mem:=by simp
 obj:=λi h st b hb=>by
  obtain⟨old,Y,o,e,c,d⟩:=st;rcases aL.mp hb with z|z
  .subst z;exact⟨_,Y,λv z=>by cases z⟩
  .have z:b=it:=by simpa using z
   subst z;exact⟨o,e,λv z=>by rw[d]at z;cases z⟩
 keep:=λi h h' st k=>by
  obtain⟨old,Y,hi⟩:=st;exact⟨old,k _ (by simp) _ Y,hi.at λo e=>k it (by simp) o e⟩
 item:=by
  intro X N hw M J i pins s σ H E I V st Q;subst N hw M;obtain⟨xs,x,U,hx⟩:=Q;obtain⟨its,S,p,F⟩:=I.list U;obtain⟨u,C,G⟩:=S.get hx;obtain⟨old,Y,hi⟩:=st;have W:=af Y;refine wpAny_pyNext_enum_item Y hi p.isList (x:=u) (by simpa using C) (Nat.succ_ne_self it) λh1 y R B A t=>?_
  refine⟨_,rfl,wpAny_letOwnedTupleGo_enum y λh2 O Z=>?_⟩
  replace Z:eL (it+1) h1 h2:=Z
  have hn:=I.hok.fresh (aV _);have I0:Inv X pins σ (upd H s.heap.objs.size (.tup [.int (i:Int),x])) {s with heap:=s.heap.push {cls:=.type "tuple", data:=.seq #[.int (i:Int) s.toks,u]} }:=
   I.laid (t':=s.toks) (λb o e=>ae _ e) (aV _) ⟨show 2<=sizeLine by decide,[.int (i:Int) s.toks,u],.cons ⟨_,rfl⟩ (.cons G .nil),⟨_,ai _ rfl,rfl,_,rfl⟩⟩
  have ne:∀b,b∈[it+1,it]->b≠s.heap.objs.size:=λb hb=>by
   rcases aL.mp hb with T|T
   .rw[T];exact bF W
   .rw[show b=it by simpa using T];exact bF (Nat.lt_of_succ_lt W)
  have n:Inv X pins σ (upd H s.heap.objs.size (.tup [.int (i:Int),x])) {s with heap:=h2,toks:=s.toks+1}:=by
   refine Inv.turnedL (s:={s with heap:=s.heap.push {cls:=.type "tuple", data:=.seq #[.int (i:Int) s.toks,u]} }) (ch:=[it+1,it]) I0 (λb o hb e=>?_) λb hb=>⟨by rw[bA (ne b hb)];exact(V b hb).1,(V b hb).2⟩
   have b1:b≠it+1:=λz=>hb (by simp[z])
   have b2:b≠it:=λz=>hb (by simp[z])
   rcases de e with⟨L,q⟩|L
   .subst L q;exact(Z.2 _ b1).trans B
   .exact(Z.2 _ b1).trans (t b o b1 b2 L)
  refine⟨.ref s.heap.objs.size,_,n,rfl,⟨_,x,hn,rfl,rfl,λys D=>by rwa[I.list_inj D U]⟩,⟨_,O,R.at λo e=>(Z.2 _ (bF (gG it))).trans e⟩,λb hb=>?_⟩;rw[bA (ne b hb)];exact(V b hb).1
 done:=by
  intro X N hw M J i pins s σ H E I V st Q;subst N hw M;obtain⟨xs,U,hx⟩:=Q;obtain⟨its,S,p,F⟩:=I.list U;obtain⟨old,Y,hi⟩:=st;have m:=S.length;refine wpAny_pyNext_enum_end (I.ok.hd J) Y hi p.isList (by simp;lia) λh' r=>⟨rfl,Inv.turnedL (t':=s.toks) (ch:=[it+1,it]) I (λb o hb e=>r b o (λz=>hb (by simp[z])) e) V⟩
 self:=λ_ _ _ _ _ st h=>by
  obtain⟨old,Y,_⟩:=st;exact wpAny_pyIter_enum Y h
section
variable{X:Cx}{fl:List Fl}{a:Expr}
def ad3(K:PySem.W.Frag)(tl:TE):TI:=λσ H R=>tl σ H λx H1=>∃a,x = .ref a/\(∃xs,SqL K H1 a xs)/\R (Ite K a) H1
theorem Ue {x1} (hg:Gl X "enumerate") (hm:X.mg "enumerate"=none) (hl:PE X a tl) (U:starEach [a] X.env=(false,eval a X.env)::starEach [] X.env:=by rfl)
 (O:(backTo pos (starEach [] X.env)).any (·.1)=false:=by rfl):PI X (.Tuple elts x1 c) (.Call (.Name "enumerate" p) [a] [] pos) (ad3 X.K tl):=by
 intro pins s σ H R I h;refine ax (ou I hg hm boot_enumerate (d6 (thn ((d8 hl iU U) pos pins s σ H (λvs H1=>match vs with|[x]=>∃a,x = .ref a/\(∃xs,SqL X.K H1 a xs)/\R (Ite X.K a) H1|_=>False) I h) λus s1 ⟨vs,H1,W,r1,q1⟩=>?_) U O))
 cases r1 with
 |nil=>exact q1.elim
 |cons r T=>
  cases T with
  |cons _ _=>exact q1.elim
  |nil=>
  obtain⟨l,e,⟨xs,Q⟩,q⟩:=q1;subst e
  cases r;obtain⟨its,M,pl,L⟩:=W.list Q;refine call_enumerate_list pl.isList λh' Z V S P=>?_
  have N:=W.kept (t':=s1.toks) P;refine wpAny_pyIter_enum (s:={s1 with heap:=h'}) Z ?_;refine⟨s1.heap.objs.size+1,[s1.heap.objs.size+1,s1.heap.objs.size],_,_,H1,rfl,N,LQ l s1.heap.objs.size,⟨_,Z,V⟩,λb hb=>?_,q⟩;have Y:s1.heap.objs.size<=b:=by
   rcases aL.mp hb with z|z
   .rw[z];exact qY _
   .rw[show b=s1.heap.objs.size by simpa using z];exact aV _
  exact W.fpOk Y (W.hok.fresh Y)
theorem J5 {x1} (h:DE X fl (.B L) a f) (hg:Gl X "enumerate") (hm:X.mg "enumerate"=none) (he:starEach [a] X.env=(false,eval a X.env)::starEach [] X.env:=by rfl)
 (O:(backTo pos (starEach [] X.env)).any (·.1)=false:=by rfl):DI X fl L (.Tuple elts x1 c) (.Call (.Name "enumerate" p) [a] [] pos) (JR f):=PI.imp (Ue hg hm h he O) λσ H R' h=>by
 refine D3.ex4 h λG ow δ l R K q=>?_
 refine D3.ex1 (bind1 K) λd J T=>?_
 cases d<;>first|(cases T;done)|skip
 next W=>
 cases T;refine⟨G,ow,δ,_,R,J,λv H1 s r=>?_⟩;obtain⟨a,xs,rfl,hx,keep⟩:=HS (R.grow s) r;refine⟨a,rfl,⟨xs,hx⟩,q _ _ s λH2 k2 i=>?_⟩;obtain⟨k3,V⟩:=keep H2 k2;refine⟨λd hd=>?_,λM=>⟨xs,k3,by rw[V.length];simpa[rE]using M⟩⟩;have Z:(W[i]?).map (λx=>eb [.int (i:Int),x])=some d:=by
  have:=hd;unfold rE at this;rwa[lX]at this
 cases e:W[i]? with
 |none=>rw[e]at Z;cases Z
 |some x0=>
  rw[e]at Z
  cases Z;obtain⟨y,U,Q⟩:=V.get e;refine⟨⟨xs,y,k3,U⟩,λx I Y=>?_⟩;obtain⟨p,S,N,rfl,rfl,P⟩:=Y;have:some y=some S:=U.symm.trans (P xs k3)
  cases this;have g:=cP N (.tup [.int (i:Int),y]);exact⟨g,.tup bM (.cons (.int _) (.cons (Q.same g) .nil))⟩
end
structure Bl(mg:Str->Option Value):Prop where
 len_:mg "len"=none
 range_:mg "range"=none
 abs_:mg "abs"=none
 isinstance_:mg "isinstance"=none
 int_:mg "int"=none
 bool_:mg "bool"=none
 tuple_:mg "tuple"=none
 list_:mg "list"=none
 str_:mg "str"=none
 max_:mg "max"=none
 min_:mg "min"=none
 sorted_:mg "sorted"=none
 sum_:mg "sum"=none
 reversed_:mg "reversed"=none
 enumerate_:mg "enumerate"=none
 zip_:mg "zip"=none
 set_:mg "set"=none
 any_:mg "any"=none
 all_:mg "all"=none
 dict_:mg "dict"=none
end D3
variable{dc:Value}{sl:Array (Option Value)}
namespace D3
open L2 My
structure FunD(K:PySem.W.Frag)(x:Str)(st:Stmt)(f:Addr)(fd:d4):Prop where
 ex:∃(oc:Value)(od:Option Addr)(dV kV doc pm:Value)(an:Option Addr)(cdv ct:Value)(osl:Array (Option Value)),
  fd=PySem.W.fnOf x x (kj st) (fu st) (aZ st) dV kV doc pm an cdv ct/\K.lookup f=some ⟨oc,od,.func fd,osl⟩/\PySem.W.codeIn K cdv x=true
 kp:PySem.W.keepIn K (.ref f)=true
structure Dg(K:PySem.W.Frag)(mg:Str->Option Value)(x:Str)(st:Stmt)(ps:List Str):Prop where
 ex:∃(f:Addr)(fd:d4),FunD K x st f fd/\Binds K fd ps []/\mg x=some (.ref f)
def ad4 {kV:Value} (X:K.In h) (G:h.Ns mainGlobals mg)
 (hb:∀(kV doc pm:Value)(an:Option Addr)(cdv ct:Value)(us:List Value),us.length=ps.length->bindArgs (PySem.W.fnOf x x (kj st) (fu st) (aZ st) .none kV doc pm an cdv ct) ⟨us,[]⟩=pure (ps.zip us))
 (a:PySem.W.nsIn K mainGlobals x=some (some (.ref q))) (l:K.lookup q=some ⟨oc,od,.func (PySem.W.fnOf x x (kj st) (fu st) (aZ st) .none kV dc pm an cd ct),sl⟩) (c:PySem.W.codeIn K cd x=true) (k:PySem.W.keepIn K (.ref q)=true):Dg K mg x st ps:=
 ⟨_,_,⟨⟨oc,od,.none,kV,dc,pm,an,cd,ct,sl,rfl,l,c⟩,k⟩,.all (hb kV dc pm an cd ct),PySem.W.mg_of X G a⟩
structure Dl(K:PySem.W.Frag)(mg:Str->Option Value)(x y:Str)(st:Stmt):Prop where
 ex:∃(f:Addr)(fd:d4),FunD K x st f fd/\(∀(s:dk)(u:Value),BindsTo s fd ⟨[u],[]⟩ [(y,u)])/\mg x=some (.ref f)
def ad5 {kV:Value} {y:Str} (X:K.In h) (G:h.Ns mainGlobals mg)
 (hb:∀(kV doc pm:Value)(an:Option Addr)(cdv ct:Value)(u:Value),bindArgs (PySem.W.fnOf x x (kj st) (fu st) (aZ st) .none kV doc pm an cdv ct) ⟨[u],[]⟩=pure [(y,u)])
 (a:PySem.W.nsIn K mainGlobals x=some (some (.ref q))) (l:K.lookup q=some ⟨oc,od,.func (PySem.W.fnOf x x (kj st) (fu st) (aZ st) .none kV dc pm an cd ct),sl⟩) (c:PySem.W.codeIn K cd x=true) (k:PySem.W.keepIn K (.ref q)=true):Dl K mg x y st:=
 ⟨_,_,⟨⟨oc,od,.none,kV,dc,pm,an,cd,ct,sl,rfl,l,c⟩,k⟩,λs u=>.of_eq (hb kV dc pm an cd ct u),PySem.W.mg_of X G a⟩
section
variable{k:Nat}{fs:FS}{fl:List Fl}
def FunD.ok (F:FunD K x st c fd) (S:FnScope N ps (aZ st)) (len:∀vs H Q E,sp vs H Q E->vs.length=ps.length)
 (O:∀(cdv:Value)(A:dy)(outer:List Env)(s:dk)(H:Hp)(vs:List V)(Q:VK)(E:XK),Room k (A.deeper (envOfC x (aZ st) s.heap.objs.size c cdv))->sp vs H Q E ->
  ∃t,PSs (nq CX0 P w K mg base N x (aZ st) c cdv A outer s H E).nox (fu st) t/\t {nx:=λ_ H'=>Q .non H',rt:=Q} (L2.start N vs) H):FnOk P w K mg base CX0 (k+1) c fd ps sp:=by
 obtain⟨oc,od,dV,kV,doc,pm,an,cdv,ct,osl,rfl,lk,Y⟩:=F.ex;refine NZ lk Y S len λA outer s H vs Q E X Z=>?_
 obtain⟨t,h,q⟩:=O cdv A outer s H vs Q E X Z;exact⟨t,h.nox,q⟩
def Oz (Fn:FunD K x st c fd) (S:FnScope N ps (aZ st)) (U:∀i,i<ps.length->fl[i]? = some .A) (Y:ps.length<=N.length)
 (O:∀(c:Addr)(cdv:Value)(A:dy)(outer:List Env)(s:dk)(H:Hp)(E:XK),Room k (A.deeper (envOfC x (aZ st) s.heap.objs.size c cdv))->DSs (cx P w K mg base N x st c cdv A outer s H E) fl (fu st) fs) :
 FnOk P w K mg base CX0 (k+1) c fd ps (spD K (fnD ps.length (N.length-ps.length) fs)):=by
 refine Fn.ok S (λvs H Q E h=>?_) (λcdv A outer s H vs Q E W h=>?_)
 .obtain⟨ds,d,r,Z,_⟩:=h;unfold fnD at Z;by_cases z:ds.length=ps.length
  .rwa[r.2.length]
  .rw[if_neg z]at Z;cases Z
 .obtain⟨ds,d,r,Z,q⟩:=h;refine⟨_,O c cdv A outer s H E W,?_⟩;unfold fnD at Z;by_cases z:ds.length=ps.length
  .rw[if_pos z]at Z;split at Z
   .next V e=>
    cases Z;exact⟨_,_,_,_,sJ ps.length U z Y r,e,λv H' s r=>q v H' s r⟩
   .next δ' e=>
    cases Z;exact⟨_,_,_,_,sJ ps.length U z Y r,e,λX σ' H' R'=>q .non H' R'.same0 .non⟩
   .cases Z
  .rw[if_neg z]at Z;cases Z
def mj(Y:Dg K mg x st ps)(S:FnScope N ps (aZ st))(O:∀i,i<ps.length->fl[i]? = some .A)(U:ps.length<=N.length)
 (q:∀(f:Addr)(cdv:Value)(A:dy)(outer:List Env)(s:dk)(H:Hp)(E:XK),Room k (A.deeper (envOfC x (aZ st) s.heap.objs.size f cdv))->DSs (cx P w K mg base N x st f cdv A outer s H E) fl (fu st) fs) :
 Has P w K mg base (k+1) x ps (spD K (fnD ps.length (N.length-ps.length) fs)):=by
 obtain⟨f,fd,Z,b,m⟩:=Y.ex;exact⟨f,fd,Oz Z S O U q,b,Z.kp,m⟩
end
noncomputable def OD(K:PySem.W.Frag):Sp:=λvs H Q _=>∃(a:Addr)(ns:List Int),Tb H/\vs=[.ref a]/\SqL K H a (ns.map V.int)/\ns.length<=63/\∀H',Q (.bl true) H'
theorem sO : ∀ns:List Int,RAs K ok c H (ns.map V.int) (ns.map dm)
 |[]=>.nil
 |n::r=>.cons (.int n) (sO r)
def Ug (O:∀ns:List Int,ns.length<=63->F [.list (ns.map .int)]=some (.bool true)) (vs:List V) (H:Hp) (Q:VK) (E:XK) (h:OD K vs H Q E):spD K F vs H Q E:=by
 obtain⟨a,ns,tb,rfl,Y,Z,q⟩:=h;refine⟨_,_,⟨tb,.cons ?_ .nil⟩,O ns Z,λv H' s r=>?_⟩
 .rcases Y with(h|⟨o,h⟩)|h
  .exact .lst h trivial (sO ns)
  .exact .lsk (.inl ⟨o,h⟩) rfl (sO ns)
  .exact .lsk (.inr h) rfl (sO ns)
 .obtain rfl:=r.blE;exact q H'
end D3
namespace D3
open L2 My
section
variable{prog:dt}
end
section
variable{X:Cx}{fl:List Fl}{a:Expr}
end
section
variable{X:Cx}{fl:List Fl}{a b:Expr}{fa:FA}
end
end D3
namespace D3
open L2 My
section
variable{X:Cx}
theorem yZ:∀{ns:List Int}{its:List Value},Vals (ns.map V.int) its->fo its ns
 |[],_,.nil=>.nil
 |n::r,_,.cons h t=>by
  obtain⟨k,rfl⟩:=h;exact .cons _ _ (yZ t)
theorem rH : ∀{l:List D}{ns:List Int}{ys:List V},kE l=some ns->RAs K ok c H ys l->ys=ns.map V.int
 |[],_,_,e,.nil=>by cases e;rfl
 |d::r,ns,_,e,.cons h t=>by
  cases d<;>first|(cases e;done)|skip
  obtain rfl:=h.intE
  cases Z:kE r with
  |none=>rw[kE,Z]at e;cases e
  |some m=>
   rw[kE,Z]at e
   cases e;rw[rH Z t];rfl
def LR(hc:X.calm=true):lB X (.builtin "max") (λxs H Q=>∃(p:Addr)(i:Int)(r:List Int),xs=[.ref p]/\SqL X.K H p ((i::r).map V.int)/\Q (.int (mxI i r)) H):=by
 intro pins s σ H xs us Q I r h;obtain⟨p,i,Y,rfl,hx,q⟩:=h;obtain⟨u,rfl,T⟩:=vals1 r
 cases T;obtain⟨its,W,pl,L⟩:=I.list hx;have hi:=yZ W;obtain⟨xs,e⟩:=hi.allInts.items;have Z:i::Y=xs.toList.map (·.1):=by rw[<-hi.numsOf,<-nums_intItems,<-e]
 have U:0<xs.size:=by
  have h3:0<(i::Y).length:=by simp
  rw[Z,aG,cN]at h3;exact h3
 have O:=e▸pl.isList;refine max_intList (I.ok.hd hc) O U λv h' tk P N=>?_
 obtain⟨t,rfl⟩:=intItems_at P;obtain⟨h1,h2⟩:=argBest_gt (numAt xs) (xs.size-1);have R:numAt xs (argBest (λi j=>decide (numAt xs i>numAt xs j)) (xs.size-1))∈i::Y:=by
  rw[Z,numAt_eq];exact getD_mem (by rw[aG,cN];lia)
 have S:∀a∈i::Y,a<=numAt xs (argBest (λi j=>decide (numAt xs i>numAt xs j)) (xs.size-1)):=λa ha=>by
  rw[Z]at ha;obtain⟨j,M,rfl⟩:=mem_getD ha;rw[aG,cN]at M;rw[<-numAt_eq];exact h2 j (by lia)
 have sp:=yR Y i;have eq:=qx (sp.2 _ R) (S _ sp.1);rw[eq];exact⟨.int _,H,I.kept N,⟨_,rfl⟩,q⟩
def Yp:BrC K (λxs H Q=>∃(p:Addr)(i:Int)(r:List Int),xs=[.ref p]/\SqL K H p ((i::r).map V.int)/\Q (.int (mxI i r)) H) Ew:=by
 intro H xs ds d Q r e q;unfold Ew at e;split at e
 .next l=>
  split at e
  .next i Z X=>
   cases e
   cases r with
   |cons r1 r2=>
    cases r2;obtain⟨a,ys,rfl,hx,Y⟩:=r1.lstE;obtain rfl:=rH X Y;exact⟨a,i,Z,rfl,hx,q _ rfl (.int _)⟩
  .cases e
 .cases e
theorem Bb:∀{l m:List Int},l.Perm m->l.Pairwise (· <= ·)->m.Pairwise (· <= ·)->l=m
 |[],m,p,_,_=>p.nil_eq
 |a::l,m,p,h1,h2=>by
  cases m with
  |nil=>exact absurd p.length_eq (by simp)
  |cons b m=>
   obtain⟨a1,a2⟩:=fD.mp h1;obtain⟨b1,b2⟩:=fD.mp h2;have e:a=b:=by
    have x1:=p.mem_iff.mp aJ;have x2:=p.mem_iff.mpr aJ;rcases aL.mp x1 with z|z
    .exact z
    .rcases aL.mp x2 with y|y
     .exact y.symm
     .exact qx (a1 b y) (b1 a z)
   subst e;rw[Bb (List.Perm.cons_inv p) a2 b2]
theorem oV:∀{ns:List Int}{its:List Value},fo its ns->Vals (ns.map V.int) its
 |_,_,.nil=>.nil
 |_,_,.cons n t r=>.cons ⟨t,rfl⟩ (oV r)
end
end D3
namespace D3
open L2 My
def gK(n:Nat)(us ws:List α):List α:=if ws.length=n then us++ws else []
structure HasD(P:dt)(w:dE)(K:PySem.W.Frag)(mg:Str->Option Value)(base:ec)(n:Nat)(x:Str)(ps:List Str)(sp:Sp)(dvs:List V)(ks:List Str):Prop where
 ex:∃(f:Addr)(fd:d4)(ds:List Value),FnOk P w K mg base CX0 n f fd ps sp/\Binds K fd ps ds/\Vals dvs ds/\KBinds K fd ps ks (gK ks.length) (gK ks.length)/\PySem.W.keepIn K (.ref f)=true/\mg x=some (.ref f)
structure DgD(K:PySem.W.Frag)(mg:Str->Option Value)(x:Str)(st:Stmt)(ps:List Str)(dvs:List V)(ks:List Str):Prop where
 ex:∃(f:Addr)(fd:d4)(ds:List Value),FunD K x st f fd/\Binds K fd ps ds/\Vals dvs ds/\KBinds K fd ps ks (gK ks.length) (gK ks.length)/\mg x=some (.ref f)
section
variable{k:Nat}{fs:FS}{fl:List Fl}
end
section
variable{X:Cx}{fl:List Fl}{kpos:Pos}{kn:Str}{F:List D->Option D}{fa:FA}
def Yq:BrC K (λxs H Q=>(∃i,xs=[.int i]/\Q (.int i) H)\/∃k,xs=[.bl k]/\Q (.int (if k then 1 else 0)) H) xT:=by
 intro H xs ds d Q r e q;unfold xT at e;split at e
 .cases e
  cases r with
  |cons r1 r2=>
   cases r2;obtain rfl:=r1.intE;exact .inl ⟨_,rfl,q _ rfl (.int _)⟩
 .cases e
  cases r with
  |cons r1 r2=>
   cases r2;obtain rfl:=r1.blE;exact .inr ⟨_,rfl,q _ rfl (.int _)⟩
 .cases e
def Yr{j pos'} (h:DE X fl .P k t):DT X fl (.Compare k [.Is] [.Constant .none j pos'] pos) (bG (dUn Ye t)):=PT.imp (Hj (Xr h)) λσ H Q h=>by
 refine D3.ex4 h λG ow δ c R Z q=>?_
 refine D3.ex1 (bind1 Z) λd U V=>?_
 refine D3.ex1 (bind1 U) λx W Y=>?_
 cases Y
 cases V;refine⟨G,ow,δ,x,R,W,λv H1 s1 r1=>?_⟩;refine⟨decide (v = .non),rfl,?_⟩;rw[Yl (RA.same (Same.refl H1) r1)];exact q H1 s1
def Cj(ha:DB X fl .P [e] fa)(U:Gl X "int")(hm:X.mg "int"=none)
 (he:starEach [e] X.env=(false,eval e X.env)::starEach [] X.env:=by rfl) (O:(backTo pos (starEach [] X.env)).any (·.1)=false:=by rfl):DE X fl .FC (.Call (.Name "int" p) [e] [] pos) (dCall xT fa):=
 PE.imp (mW Lr U hm boot_int ha (by decide) (by decide) he O) λσ H Q h=>by
 refine D3.ex4 h λG ow δ d R V q=>?_
 refine D3.ex1 (bind1 V) λds S T=>?_
 exact⟨G,ow,δ,ds,R,S,λvs H' s Y=>Yq H' vs ds d Q Y T λv W Z=>q v H' s (.inl ⟨W,Z⟩)⟩
end
end D3
namespace D3
open L2 My
section
variable{X:Cx}
theorem Fe:∀{bs:List Bool}{its:List Value},Vals (bs.map V.bl) its->its=bs.map ef
 |[],_,.nil=>rfl
 |b::r,_,.cons h t=>by
  cases h;rw[Fe t];rfl
def all_range(bs:List Bool):(b_ bs.length).all (λi=>bs.getD i false)=bs.all id:=by
 rw[Bool.eq_iff_iff,fG,fG]
 constructor
 .intro h b hb;obtain⟨i,hi,rfl⟩:=List.getElem_of_mem hb;have:=h i (dD.mpr hi);rwa[dF,aK hi]at this
 .intro h i hi;have hi:=dD.mp hi;rw[dF,aK hi];exact h _ (iG hi)
theorem Fg (bs:List Bool):TruthOf prog w A (λi v=>(bs.map ef).toArray[i]? = some v) (λi=>bs.getD i false):=by
 intro i v s Q E X W;have Z:(bs.map ef)[i]? = some v:=by simpa using X
 rw[aP]at Z
 cases e:bs[i]? with
 |none=>rw[e]at Z;cases Z
 |some b=>
  rw[e]at Z
  cases Z;have V:bs.getD i false=b:=by rw[dF,e];rfl
  have Y:Q (bs.getD i false) s:=W;rw[V]at Y;exact ay Y
def Bc(O:X.calm=true):lB X (.builtin "all") (λxs H Q=>∃(p:Addr)(bs:List Bool),xs=[.ref p]/\SqL X.K H p (bs.map V.bl)/\Q (.bl (bs.all id)) H):=by
 intro pins s σ H xs us Q I r h;obtain⟨p,bs,rfl,hx,q⟩:=h;obtain⟨u,rfl,U⟩:=vals1 r
 cases U;obtain⟨its,Z,pl,S⟩:=I.list hx;obtain rfl:=Fe Z;have W:=pl.isList;have Y:p<s.heap.objs.size:=by obtain⟨_,e,_⟩:=id W;exact af e
 refine call_all_walk (cr W ?_);refine⟨_,_,_,_,_,_,_,rfl,Walks.list (A:=X.A.in1) (I.ok.hd O) _ p (bF Y) (bs.map ef).toArray,⟨⟨_,ai _ rfl,rfl,rfl⟩,W.push _⟩,Fg bs,λh' tk T=>?_⟩;have e:(bs.map ef).toArray.size=bs.length:=by simp
 rw[e,all_range];exact⟨.bl _,H,I.kept (old_kept T),rfl,q⟩
theorem sU : ∀{l:List D}{bs:List Bool}{ys:List V},jL l=some bs->RAs K ok c H ys l->ys=bs.map V.bl
 |[],_,_,e,.nil=>by cases e;rfl
 |d::r,bs,_,e,.cons h t=>by
  cases d<;>first|(cases e;done)|skip
  obtain rfl:=h.blE
  cases Z:jL r with
  |none=>rw[jL,Z]at e;cases e
  |some m=>
   rw[jL,Z]at e
   cases e;rw[sU Z t];rfl
def WQ:BrC K (λxs H Q=>∃(p:Addr)(bs:List Bool),xs=[.ref p]/\SqL K H p (bs.map V.bl)/\Q (.bl (bs.all id)) H) HJ:=by
 intro H xs ds d Q r e q;unfold HJ at e;split at e
 .next l=>
  cases Z:jL l with
  |none=>rw[Z]at e;cases e
  |some bs=>
   rw[Z]at e
   cases e
   cases r with
   |cons r1 r2=>
    cases r2;obtain⟨a,ys,rfl,hx,Y⟩:=r1.lstE;obtain rfl:=sU Z Y;exact⟨a,bs,rfl,hx,q _ rfl (.bl _)⟩
 .cases e
end
section
variable{X:Cx}{fl:List Fl}{a:Expr}{ta:TE}
def Uh{j pos'}(ha:PE X a ta):PC X .IsNot a (.Constant (.bool true) j pos') (λσ H Q=>ta σ H λx H1=>∃b,x = .bl b/\Q (.bl (!b)) H1):=by
 intro pins s σ H Q I h;refine thn (ha pins s σ H _ I h) λv s1 ⟨x,H1,Z,r1,q1⟩=>?_
 obtain⟨b,rfl,q⟩:=q1
 cases r1;refine Constant_bool ?_
 cases b
 .exact ag ⟨.bl true,H1,Z,rfl,q⟩
 .exact ag ⟨.bl false,H1,Z,rfl,q⟩
end
section
variable{X:Cx}{fl:List Fl}{a b c:Expr}{fa:FE}
def OJ (ho:OpR X (compareOp op) k) (U:OpR X (compareOp O) r') (hb:BrO X.K k g) (hb':BrO X.K r' g') (h1:DE X fl .P a fa) (h2:DE X fl .P b fb) (h3:DE X fl .P c fc)
 (hm:lastMarks [op,O] [b,c]=false:=by with_unfolding_all rfl):DT X fl (.Compare a [op,O] [b,c] pos) (bG (oE g g' fa fb fc)):=PT.imp (Nx ho U h1 h2 h3 hm) λσ H Q h=>by
 refine D3.ex4 h λG ow δ E R Z q=>?_
 refine D3.ex1 (bind1 Z) λd Z hd=>?_
 have W:d = .bool E:=by cases d<;>first|(cases hd;rfl)|(cases hd;done)
 subst W;refine D3.ex1 (bind1 Z) λx F Z=>?_
 refine D3.ex1 (bind1 Z) λy I Z=>?_
 refine D3.ex1 (bind1 Z) λz J Z=>?_
 refine⟨G,ow,δ,x,R,F,λv H1 s1 r1=>⟨G,ow,δ,y,R.grow s1,I,λu H2 s2 r2=>?_⟩⟩;refine hb H2 v u x y z _ (RA.same s2 r1) r2 J λD N Y=>?_
 split at Z
 .obtain rfl:=Y.blE;refine D3.ex1 (bind1 Z) λw L M=>?_
  refine⟨true,rfl,v9 ⟨G,ow,δ,w,R.grow (s1.trans s2),L,λS T V r3=>?_⟩⟩;refine hb' T u S y w _ _ (RA.same V r2) r3 M λz N Y=>?_
  obtain rfl:=Y.blE;exact⟨_,rfl,q T (s1.trans (s2.trans V))⟩
 .obtain rfl:=Y.blE
  cases Z;exact⟨false,rfl,v8 ⟨_,rfl,q H2 (s1.trans s2)⟩⟩
 .cases Z
def Ui{j pos'}(h:DE X fl .P a f):DT X fl (.Compare a [.IsNot] [.Constant (.bool true) j pos'] pos) (bG (dUn JT f)):=PT.imp (Hj (Uh h)) λσ H Q h=>by
 refine D3.ex4 h λG ow δ V R Z q=>?_
 refine D3.ex1 (bind1 Z) λd Z hd=>?_
 refine D3.ex1 (bind1 Z) λx W Y=>?_
 cases x<;>first|(cases Y;done)|skip
 cases Y
 cases hd;refine⟨G,ow,δ,_,R,W,λv H1 s1 r1=>?_⟩;obtain rfl:=RA.blE r1;exact⟨_,rfl,_,rfl,q H1 s1⟩
end
def L_{z TI TO i1 i2 l1 l2:Addr} {xs ys:Array Value} (hz:IsZip h z TI TO f0) (O:eJ h TI t B) (q:eJ h TO c k) (h1:h.IsListIter i1 l1 k1) (h2:h.IsListIter i2 l2 k2) (hl1:h.IsList l1 xs) (U:h.IsList l2 ys) (nT:TI≠TO) (ni:i1≠i2) :
 fF z TI TO i1 i2 l1 l2:=by
 obtain⟨S,Y,W,N⟩:=h1;obtain⟨T,Z,X,P⟩:=h2;obtain⟨p1,g1,k1,Q⟩:=hl1;obtain⟨p2,g2,k2,R⟩:=U;have ne:∀{u v:Addr}{o o':Obj},h.get? u=some o->h.get? v=some o'->o.cls≠o'.cls->u≠v:=λe V n z=>by
  subst z;rw[e]at V
  cases V;exact n rfl
 exact⟨ne O hz (by simp),ne q hz (by simp),ne Y hz (by rw[W];simp),ne Z hz (by rw[X];simp),nT,ne O Y (by rw[W];simp),ne O Z (by rw[X];simp),ne q Y (by rw[W];simp),ne q Z (by rw[X];simp),ni,
  ne g1 hz (by rw[k1];simp),ne g1 q (by rw[k1];simp),ne g1 Y (by rw[k1,W];simp),ne g1 Z (by rw[k1,X];simp),ne g2 hz (by rw[k2];simp),ne g2 q (by rw[k2];simp),ne g2 Y (by rw[k2,W];simp),ne g2 Z (by rw[k2,X];simp)⟩
section
variable{X:Cx}{fl:List Fl}{a b:Expr}{g:FE}
def boot_zip:bootBuiltins "zip"=some (.type "zip"):=by decide +kernel
theorem Fi:∀(l m:List D)(i:Nat),(ud l m)[i]? = (l[i]?).bind λx=>(m[i]?).map λy=>eb [x,y]
 |[],_,i=>by simp[ud]
 |_::_,[],i=>by cases i<;>simp[ud]
 |x::l,y::m,0=>by simp[ud]
 |x::l,y::m,i+1=>by simp[ud,Fi l m i]
end
end D3
namespace D3
open L2 My
noncomputable def ap7(K:PySem.W.Frag)(fl:List Fl)(f:FA):TA:=λσ H Q=>∃G ow δ ds,Rel K fl G ow σ H δ/\f δ=some ds/\∀vs H',Same H H'->(∃as,RTs K H' vs ds as/\as.Nodup/\∀a∈as,H a=none)->Q vs H'
abbrev DBT(X:Cx)(fl:List Fl)(es:List Expr)(f:FA):Prop:=PA X es (ap7 X.K fl f)
theorem RTs.length:∀{v:List V}{d:List D}{as:List Addr},RTs K H v d as->v.length=d.length
 |_,_,_,.nil=>rfl
 |_,_,_,.cons _ q=>by simp[RTs.length q]
section
variable{X:Cx}{fl:List Fl}{a b c:Expr}{k:Kd}{fa:FE}
def Uj:DBT X fl [] aW:=PA.imp iU λσ H Q h=>by
 refine D3.ex4 h λG ow δ ds R Z q=>?_
 cases Z;exact q [] H (Same.refl H) ⟨[],.nil,.nil,λ_ z=>by cases z⟩
def Uk{fa:FA}(h:DBT X fl es fa):DE X fl .T (.List es pos) (d9 fa):=PE.imp (Bv h) λσ H Q h=>by
 refine D3.ex4 h λG ow δ d R W q=>?_
 refine D3.ex1 (bind1 W) λl V Z=>?_
 by_cases z:l.length<=sizeLine
 .rw[if_pos z]at Z
  cases Z;refine⟨G,ow,δ,l,R,V,λvs H' s r=>?_⟩;obtain⟨as,h1,h2,h3⟩:=r;refine⟨by rwa[h1.length],λp Y=>?_⟩;have g:=cP Y (.lst vs);refine q _ _ (s.trans g) ⟨p::as,.lst bM (h1.same g),cF.mpr ⟨λw=>h1.tracked p w Y,h2⟩,λx hx=>?_⟩;rcases aL.mp hx with rfl|w
  .exact s.free Y
  .exact h3 x w
 .rw[if_neg z]at Z
  cases Z
def Ck:DE X fl .T (.Dict [] [] pos) (dC (.dict [])):=PE.imp Oa λσ H Q h=>by
 refine D3.ex4 h λG ow δ d R Y q=>?_
 cases Y;intro p Z;exact q _ _ (cP Z _) ⟨[p],.dic bM (.inl ⟨rfl,rfl⟩),cF.mpr ⟨cO,.nil⟩,λx hx=>by rwa[bQ.mp hx]⟩
theorem WR(h:DE X fl .C e f):DE X fl .T e (dN1 f):=uY h λHb H G ow σ δ v d Z R r=>by
 obtain⟨as,h1,h2,h3⟩:=RA.rt r;have Y:as.length<=1:=by rw[h2];exact of_decide_eq_true Z
 refine⟨as,h1,?_,h3⟩
 cases as with
 |nil=>exact .nil
 |cons x r=>
  cases r with
  |nil=>exact cF.mpr ⟨cO,.nil⟩
  |cons y r=>simp at Y
def ad6(h:DE X fl .T e f):DE X fl .C e f:=nY h λHb H G ow σ δ v d R r=>by
 obtain⟨as,h1,h2,h3⟩:=r;exact h1.ra h3
def jR(i:Nat)(hn:isN fl[i]? = true) (Y:X.N[i]? = some t:=by rfl) (U:Vis X.env.scope t:=by first|exact Or.inl rfl|exact Or.inr (Or.inl rfl)|exact Or.inr (Or.inr rfl)) (hd:(t==("__debug__":Str))=false:=by decide)
 (O:(t==("__classdict__":Str))=false:=by decide):DE X fl .P (.Name t pos) (aA i):=by
 refine PE.imp (iT Y U hd O) λσ H Q h=>?_
 refine D3.ex4 h λG ow δ d R Z q=>?_
 obtain⟨v,h1,h2,_⟩:=R.nr i d hn (jk Z);exact⟨v,h1,q v H (Same.refl H) (h2.ra λ_ _=>trivial)⟩
def Fj(i:Nat)(hn:isN fl[i]? = true) (Y:X.N[i]? = some t:=by rfl) (U:Vis X.env.scope t:=by first|exact Or.inl rfl|exact Or.inr (Or.inl rfl)|exact Or.inr (Or.inr rfl)) (hd:(t==("__debug__":Str))=false:=by decide)
 (O:(t==("__classdict__":Str))=false:=by decide):DE X fl .R (.Name t pos) (aA i):=by
 refine PE.imp (iT Y U hd O) λσ H Q h=>?_
 refine D3.ex4 h λG ow δ d R Z q=>?_
 obtain⟨v,h1,h2,_⟩:=R.nr i d hn (jk Z);exact⟨v,h1,q v H (Same.refl H) (h2.ra λa ha=>(R.nt i a ha).1)⟩
def O1(O:isR k=true)(ha:DE X fl k a fa)(hb:DE X fl .P b fb)(U:pR b):DE X fl k (.Subscript a b pos) (dOp gIx fa fb):=PE.imp (En Bx ha hb U) λσ H Q h=>by
 refine D3.ex4 h λG ow δ d R T q=>?_
 refine D3.ex2 (rF T) λx y N S Z=>?_
 refine⟨G,ow,δ,x,R,N,λv H1 s1 r1=>⟨G,ow,δ,y,R.grow s1,S,λu H2 s2 r2=>?_⟩⟩;have q1:=(r1.ra O).same s2;unfold gIx at Z;split at Z
 .next l i=>
  obtain rfl:=RA.intE r2;obtain⟨p,xs,rfl,hx,W⟩:=q1.lstE;obtain⟨z,V,Y⟩:=W.at Z;exact .inl ⟨p,xs,i,z,rfl,rfl,hx,V,q z H2 (s1.trans s2) (Rs.of_ra O Y)⟩
 .next l i=>
  obtain rfl:=RA.intE r2;obtain⟨p,xs,rfl,hx,W⟩:=q1.tupE;obtain⟨z,V,Y⟩:=W.at Z;exact .inr (.inl ⟨p,xs,i,z,rfl,rfl,hx,V,q z H2 (s1.trans s2) (Rs.of_ra O Y)⟩)
 .cases Z
end
section
variable{fl:List Fl}
def owN(ow:Ow)(i:Nat)(as:List Addr):Ow:=⟨ow.s,λj=>if j=i then as else ow.n j⟩
def kW : (owN ow c as).n c=as:=if_pos rfl
def jM (h:j≠c):(owN ow c as).n j=ow.n j:=if_neg h
def Rel.setN{σ:St}{i:Nat}(R:Rel K fl G ow σ H δ)(s:Same H H')(q:fl[i]? = some .N)(hi:i<σ.length)(r:Rs K G.H0 ow H H' .T v d):
 ∃O,Rel K fl G O (σ.set i (some v)) H' (δ.set i (some (.d d))):=by
 have R':=R.grow s;obtain⟨as,h1,h2,h3⟩:=r;have no:∀a,ow i≠some a:=λa z=>by
  obtain⟨_,Q,_⟩:=R.own i a z;rw[q]at Q;rcases Q with⟨z,_⟩|⟨z,_⟩<;>cases z
 have sub:∀b,okA ow b/\H b≠none->okA (owN ow i as) b:=λb z=>⟨z.1.1,λj e=>by
  by_cases Z:j=i
  .subst Z;rw[kW]at e;exact z.2 (h3 b e)
  .rw[jM Z]at e;exact z.1.2 j e⟩
 have old:∀{v:V}{d:D},RA K (okA ow) true H v d->RA K (okA (owN ow i as)) true H' v d:=λr=>(r.track.imp sub (λz=>z)).same s
 have olds:∀{v:List V}{d:List D},RAs K (okA ow) true H v d->RAs K (okA (owN ow i as)) true H' v d:=λr=>(r.track.imp sub (λz=>z)).same s
 refine⟨owN ow i as,R'.s0,R'.s1,by rw[cg,cg];exact R.len,λj a h=>?_,R.inj,R.pin,λj U g1 X g2=>?_,λj U g1 X g2 g3=>?_,λj a h=>?_,λj j' a h h'=>?_,λj j' a h=>?_,λj h=>?_,λj U X g1=>?_,λj u h e=>by rw[aM (λz=>by subst z;rw[q]at h;cases h)];exact R.fx j u h e⟩
 .have Z:j≠i:=λz=>no a (z▸h)
  obtain⟨M,P,xs,ds,g1,g2,g3,W⟩:=R.own j a h;exact⟨M,P,xs,ds,by rw[aM (dv Z)];exact g1,s _ _ g2,olds g3,by rw[aM (dv Z)];exact W⟩
 .rcases ig g1 with⟨rfl,e⟩|⟨Z,e⟩
  .rw[q]at X;cases X
  .obtain⟨S,g3,W⟩:=R.dat j U e X g2;exact⟨S,by rw[aM (dv Z)];exact g3,old W⟩
 .rcases ig g1 with⟨rfl,e⟩|⟨Z,e⟩
  .rw[q]at X;cases X
  .exact R.oo j U e X g2 g3
 .by_cases Z:j=i
  .subst Z;rw[kW]at h;exact⟨R.same0.free (h3 a h),h1.chd a h,.inl ⟨.inl q,R.s1.free (h3 a h)⟩⟩
  .rw[jM Z]at h;exact R'.nt j a h
 .by_cases Z:j=i
  .by_cases Y:j'=i
   .rw[Z,Y]
   .subst Z;rw[kW]at h;rw[jM Y]at h';exact absurd (h3 a h) (R.nt j' a h').2.1.ne
  .rw[jM Z]at h;by_cases Y:j'=i
   .subst Y;rw[kW]at h';exact absurd (h3 a h') (R.nt j a h).2.1.ne
   .rw[jM Y]at h';exact R.nd j j' a h h'
 .by_cases Z:j=i
  .subst Z;rw[kW]at h;exact λz=>by
    obtain⟨_,_,_,_,_,g2,_⟩:=R.own j' a z;rw[h3 a h]at g2
    cases g2
  .rw[jM Z]at h;exact R.ns j j' a h
 .have Z:j≠i:=λz=>by subst z;rw[q]at h;cases h
  rw[jM Z];exact R.np j h
 .rcases ig g1 with⟨rfl,e⟩|⟨Z,e⟩
  .cases e;exact⟨v,by rw[bI hi],by rw[kW];exact h1,by rw[kW];exact h2⟩
  .obtain⟨S,g3,W⟩:=R'.nr j U X e;exact⟨S,by rw[aM (dv Z)];exact g3,by rw[jM Z];exact W⟩
end
section
variable{H:Hp}
theorem RTs.snoc{w:V}(r:RT K H w d []):∀{vs:List V}{ds:List D}{as:List Addr},RTs K H vs ds as->RTs K H (vs++[w]) (ds++[d]) as
 |_,_,_,.nil=>by
  have:=RTs.cons r (.nil (K:=K) (H:=H));simpa using this
 |_,_,_,.cons e q=>.cons e (RTs.snoc r q)
theorem RTs.part{m:List D}:∀{vs:List V}{ds:List D}{as:List Addr}{k:Nat},RTs K H vs ds as->ds[k]? = some (.list m)->∃a xs bs,vs[k]? = some (.ref a)/\H a=some (.lst xs)/\RTs K H xs m bs/\a∈as/\(∀b∈bs,b∈as) /\
 (as.Nodup->a∉bs/\bs.Nodup/\∀ys Y O,RTs K (L2.upd H a (.lst ys)) ys Y O->(∀b∈O,b∈bs)->O.Nodup->∃U,RTs K (L2.upd H a (.lst ys)) vs (ds.set k (.list Y)) U/\U.Nodup/\∀b∈U,b∈as)
 |_,_,_,_,.nil,h=>by simp at h
 |_,_,_,0,.cons e q,h=>by
  simp at h;subst h
  cases e with
  |lst hx r=>
   rename_i Z a xs as;refine⟨a,xs,as,rfl,hx,r,by simp,λb hb=>by simp[hb],λnd=>?_⟩;obtain⟨n1,n2,n3⟩:=dB.mp nd;obtain⟨T,S⟩:=cF.mp n1;refine⟨T,S,λys Y O h1 h2 h3=>⟨(a::O)++Z,?_,?_,?_⟩⟩
   .exact .cons (.lst bM h1) (RTs.upd hx (λz=>n3 a aJ a z rfl) q)
   .refine dB.mpr ⟨cF.mpr ⟨λz=>T (h2 a z),h3⟩,n2,λx hx y X=>?_⟩;rcases aL.mp hx with rfl|z
    .exact n3 x aJ y X
    .exact n3 x (aH _ (h2 x z)) y X
   .intro b hb;rcases bT.mp hb with z|z
    .rcases aL.mp z with rfl|z
     .simp
     .simp[h2 b z]
    .simp[z]
 |_,_,_,k+1,.cons (as:=W) (bs:=Z) e q,h=>by
  obtain⟨a,xs,bs,h1,h2,h3,h4,h5,h6⟩:=RTs.part (k:=k) q (by simpa using h);refine⟨a,xs,bs,by simpa using h1,h2,h3,aU _ h4,λb hb=>aU _ (h5 b hb),λnd=>?_⟩;obtain⟨n1,n2,n3⟩:=dB.mp nd;obtain⟨g1,g2,g3⟩:=h6 n2;refine⟨g1,g2,λys Y O k1 k2 k3=>?_⟩;obtain⟨U,r1,r2,r3⟩:=g3 ys Y O k1 k2 k3;refine⟨W++U,.cons (RT.upd h2 (λz=>n3 a z a h4 rfl) e) r1,dB.mpr ⟨n1,r2,λx hx y X=>n3 x hx y (r3 y X)⟩,λb hb=>?_⟩;rcases bT.mp hb with z|z
  .exact bH _ z
  .exact aU _ (r3 b z)
theorem RT.flat0{ok:Ok}{pl:Bool}(q:flat d=true)(h:RA K ok pl H v d):RT K H v d []:=by
 obtain⟨as,h1,_,h3⟩:=RA.rt (RA.flat (ok':=ok0) (pl':=false) q h)
 cases as with
 |nil=>exact h1
 |cons a r=>exact(h3 a aJ).elim
end
section
variable{X:Cx}{fl:List Fl}
def J6{i:Nat}(U:fl[i]? = some .N)(hN:X.N.Nodup)(hi:X.N[i]? = some x)(hv:X.env.scope.names.lookup x=some .local\/X.env.scope.names.lookup x=some .cell)(h:DE X fl .T e f)
 (hs:swapsWith e (some (.Name x pos')) pos.line X.env=pure false:=by rfl) (O:X.fn x=true\/X.env.scope.names.lookup x=some .local:=by first|exact .inl rfl|exact .inr rfl) :
 DS1 X fl (.Assign [.Name x pos'] e pos) (bJ i f):=PS.imp (vY (i:=i) hN hi hv h hs O) λDn σ H h=>by
 refine D3.ex4 h λG ow δ o R Z q=>?_
 unfold bJ at Z;by_cases W:i<δ.length
 .rw[if_pos W]at Z;refine D3.ex1 (bind1 Z) λd S V=>?_
  cases V;refine⟨G,ow,δ,d,R,S,λv H' s r=>?_⟩;obtain⟨Y,R'⟩:=R.setN s U (n6 R W) r;exact q Y _ H' R'
 .rw[if_neg W]at Z
  cases Z
end
end D3
variable{y:D3.D}
namespace D3
noncomputable def qM(g:List D->Option (List D))(i:Nat)(x:Option D)(δ:DS):Option Oc:=match x with
 |some (.list l)=>match g l with
  |some m=>some (.nx (δ.set i (some (.d (.list m)))))
  |none=>none
 |_=>none
def O2:D->Bool
 | .list _=>true
 | .tuple _=>true
 | .dict _=>true
 |_=>false
noncomputable def iiD:List (D×D)->Option (List (Int×Int))
 |[]=>some []
 | (.int i,.int j)::r=>(iiD r).map ((i,j) :: ·)
 |_=>none
mutual
def noK:D->Bool
 | .none=>true
 | .bool _=>true
 | .int _=>true
 | .str _=>true
 | .list xs=>tG xs
 | .tuple xs=>tG xs
 | .dict kvs=>(iiD kvs).isSome
def tG:List D->Bool
 |[]=>true
 |x::r=>noK x&&tG r
end
theorem vf:∀l:List D,(∀d∈l,noK d=true)->tG l=true
 |[],_=>rfl
 |a::r,h=>by
  rw[tG,h a (aJ ..),vf r λd hd=>h d (aH _ hd)];rfl
def Ig:D->D->Option D:=λx y=>if(dLq x&&dLq y)=true then some (.bool (dA x y))else @ite _ (x=y/\O2 x=true/\x.depth<=64/\noK x=true) (eR _) (some (.bool true)) none
def Ul{x:D}(h:gEq x y=some d):Ig x y=some d:=by
 unfold gEq at h;unfold Ig;split at h
 .next z=>rwa[if_pos z]
 .cases h
noncomputable def gIn:D->D->Option D:=λx y=>match y with
 | .list l=>if(dLq x&&dLq (.list l))=true then some (.bool (l.any λz=>dA z x))else none
 | .tuple l=>if(dLq x&&dLq (.tuple l))=true then some (.bool (l.any λz=>dA z x))else none
 |_=>none
noncomputable def Cm:D->D->Option D:=λx y=>match y with
 | .list l=>if(dLq x&&dLq (.list l))=true then some (.bool (!l.any λz=>dA z x))else none
 | .tuple l=>if(dLq x&&dLq (.tuple l))=true then some (.bool (!l.any λz=>dA z x))else none
 |_=>none
end D3
namespace D3
open L2 My
section
variable{X:Cx}
end
section
variable{X:Cx}{fl:List Fl}
end
section
variable{X:Cx}{fl:List Fl}{a:Expr}{fa:FA}
end
end D3
variable{qs:List (Int×Int)}
namespace D3
open L2 My
section
variable{X:Cx}{σ:L2.St}{H:Hp}
theorem Ih:∀{kvs:List (D×D)}{qs:List (Int×Int)},iiD kvs=some qs->dk0 kvs=qs.map λq=>(.inl q.1,.int q.2)
 |[],_,e=>by cases e;rfl
 | (k,v)::r,qs,e=>by
  unfold iiD at e;split at e
  .next h=>cases h
  .next i j Y h=>
   cases h
   cases Z:iiD r with
   |none=>rw[Z]at e;cases e
   |some q2=>
    rw[Z]at e
    cases e;rw[dk0,Ih Z];rfl
  .cases e
theorem Ii:∀{kvs:List (D×D)}{qs:List (Int×Int)},iiD kvs=some qs->yS kvs=true
 |[],_,_=>rfl
 | (a,b)::r,qs,h=>by
  unfold iiD at h;split at h
  .next e=>cases e
  .next e=>
   cases e
   cases Z:iiD r with
   |none=>rw[Z]at h;cases h
   |some S=>exact(show yS r=true from Ii Z)
  .cases h
def yd(h:(iiD kvs).isSome=true):yS kvs=true:=by
 obtain⟨_,h⟩:=jN.mp h;exact Ii h
theorem O3(h:iiD kvs=some qs):dh0 kvs = .dK (dk0 kvs):=by
 cases kvs with
 |nil=>rfl
 |cons q r=>
  obtain⟨k,v⟩:=q
  cases k with
  |int i=>rfl
  |_=>unfold iiD at h;cases h
theorem Bd{U:dt}{O:dE}:∀{es:List DictEntry}{kvs:List (Key×Value)},Pairs (cG P w) es kvs->Pairs (cG U O) es kvs
 |_,_,.nil=>.nil
 |_,_,.cons h1 h2 q=>.cons h1 h2 (Bd q)
theorem Bf:∀{es:List DictEntry}{kvs:List (Key×Value)},Pairs (cG P w) es kvs->∀x∈es,∃O∈kvs,(cG P w).is O.1 x.key=true
 |_,_,.nil,_,h=>by cases h
 |_,_,.cons h1 h2 q,x,h=>by
  rcases aL.mp h with rfl|z
  .exact⟨_,aJ,h1⟩
  .obtain⟨O,m,e⟩:=Bf q x z;exact⟨O,aH _ m,e⟩
def Ij{P':dt}{O:dE}{kvs:List (Key×Value)}(hi:∀q∈kvs,∃i,q.1 = .inl i)(d:h.DictOf (cG P w) a kvs):h.DictOf (cG P' O) a kvs:=by
 obtain⟨o,es,Y,e,S,T,U,Z,V⟩:=d;refine⟨o,es,Y,e,S,T,λx hx=>?_,Bd Z,V⟩;obtain⟨k,k1,k2⟩:=U x hx;obtain⟨q,m,k3⟩:=Bf Z x (Array.mem_def.mp hx);have X:=(cG P w).inj _ _ _ k1 k3;obtain⟨i,W⟩:=hi q m;rw[X,W]at k1 k2;exact⟨.inl i,k1,k2⟩
theorem lO:∀{qs:List (Int×Int)}{vs:List (Key×Value)},KV (qs.map λq=>((.inl q.1,.int q.2):Key×V)) vs->vs.map (·.1)=qs.map (λq=>.inl q.1)/\∀k v,(k,v)∈vs->∃i j t,k = .inl i/\v = .int j t/\(i,j)∈qs
 |[],_,h=>by cases h;exact⟨rfl,λ_ _ h=>by cases h⟩
 |q::qs,_,h=>by
  cases h with
  |cons h1 h2=>
   rename_i b bs;obtain⟨R,S⟩:=lO h2;obtain⟨Y,Z⟩:=h1;obtain⟨t,Z⟩:=Z;refine⟨by rw[aN,aN,R,<-Y],λk v hm=>?_⟩;rcases aL.mp hm with z|z
   .subst z;exact⟨q.1,q.2,t,Y.symm,Z,aJ⟩
   .obtain⟨i,j,T,U,W,X⟩:=S k v z;exact⟨i,j,T,U,W,aH _ X⟩
def WT(I:L2.Inv X pins σ H s){a:Addr}{kvs:List (D×D)}{qs:List (Int×Int)}(O:iiD kvs=some qs)(h:L2.Rd H a (dh0 kvs)):(a==sysModules)=false/\∃vs,KV (qs.map λq=>((.inl q.1,.int q.2):Key×V)) vs/\∀P w,s.heap.DictOf (cG P w) a vs:=by
 rw[O3 O,Ih O]at h;obtain⟨_,Y,vs,Z,hd⟩:=(show gR X.prog X.w H s.heap a (.dK _)from h.ok I.hok);exact⟨Y,vs,Z,λP w=>Ij (λx hx=>by obtain⟨i,_,_,z,_⟩:=(lO Z).2 x.1 x.2 hx;exact⟨i,z⟩) hd⟩
def O4{U O:List (Key×Value)}(ra:KV (qs.map λq=>((.inl q.1,.int q.2):Key×V)) U)(rb:KV (qs.map λq=>((.inl q.1,.int q.2):Key×V)) O)(hn:(O.map (·.1)).Nodup):PySem.W.KeqHits A s O U true:=by
 have S:(qs.map λq=>(ei q.1:Key)).Nodup:=by rwa[<-(lO rb).1]
 have step:∀(l:List (Key×Value)),(∀x∈l,x∈U)->PySem.W.KeqHits A s O l true:=by
  intro l
  induction l with
  |nil=>intro _;exact .nil
  |cons x l T=>
   intro M;obtain⟨k,v⟩:=x;obtain⟨i,j,t,rfl,rfl,hm⟩:=(lO ra).2 k v (M _ aJ);have J:(ei i:Key)∈O.map (·.1):=by rw[(lO rb).1];exact aY.mpr ⟨(i,j),hm,rfl⟩
   obtain⟨⟨G,y⟩,N,P⟩:=aY.mp J;have P:=P;subst P;obtain⟨F,j',L,H,rfl,Q⟩:=(lO rb).2 _ y N
   cases H;have I:j'=j:=by
    have inj:∀{l:List (Int×Int)},(l.map λq=>(ei q.1:Key)).Nodup->(i,j)∈l->(i,j')∈l->j'=j:=by
     intro l Z h1 h2
     induction l with
     |nil=>cases h1
     |cons p l T=>
      rw[aN,cF]at Z;rcases aL.mp h1 with X|X<;>rcases aL.mp h2 with Y|Y
      .rw[<-X]at Y;cases Y;rfl
      .subst X;exact absurd (aY.mpr ⟨_,Y,rfl⟩) Z.1
      .subst Y;exact absurd (aY.mpr ⟨_,X,rfl⟩) Z.1
      .exact T Z.2 X Y
    exact inj S hm Q
   subst I;obtain⟨n,R,en⟩:=q_.mp N;have K:=valueAt_of_get hn (i:=n) (by rw[aK R,en]);have:=cQ (A:=A) (s:=s) j' t j' L;rw[beq_self_eq_true]at this;have q:=PySem.W.KeqHits.hit K this (T λx hx=>M x (aH _ hx));rwa[Bool.and_true]at q
 exact step U λ_ h=>h
def Bg(I:L2.Inv X pins σ H s){a b:Addr}{kvs:List (D×D)}(O:(iiD kvs).isSome=true)(ha:L2.Rd H a (dh0 kvs))(hb:L2.Rd H b (dh0 kvs)){A:dy}(q:A.units<cLine):SeqAt.RcAt A s (.ref a) (.ref b) true:=by
 obtain⟨qs,U⟩:=jN.mp O;obtain⟨P,S,V,N⟩:=WT I U ha;obtain⟨R,Z,Y,T⟩:=WT I U hb;intro prog w E Q h;have hn:(Z.map (·.1)).Nodup:=by obtain⟨_,_,_,_,_,_,_,_,c⟩:=T prog w;exact c
 refine PySem.W.keq_eq (knd:=cG prog w) (r:=true) P R (N prog w) (T prog w) q (λ_=>O4 V Y hn) ?_;have e:S.length=Z.length:=by
  have h1:=congrArg nQ (lO V).1;have h2:=congrArg nQ (lO Y).1;simp at h1 h2;lia
 rwa[e,beq_self_eq_true,Bool.true_and]
def Ma(I:L2.Inv X pins σ H s){a b:Addr}{kvs:List (D×D)}(O:(iiD kvs).isSome=true)(ha:L2.Rd H a (dh0 kvs))(hb:L2.Rd H b (dh0 kvs)){A:dy}(q:A.units<cLine):SeqAt.EqAt A s (.ref a) (.ref b) true:=by
 by_cases e:a=b
 .subst e;exact eP _
 .exact bv e (Bg I O ha hb q)
mutual
theorem Um(I:L2.Inv X pins σ H s){ok ok':Ok}{pl pl':Bool}:∀(d:D){x y:V}(r1:RA X.K ok pl H x d)(r2:RA X.K ok' pl' H y d){v u:Value}(_:RelV x v)(_:RelV y u)(A:dy)(hu:A.units+d.depth<cLine)(hn:noK d=true),SeqAt.EqAt A s v u true
 | .none,_,_,r1,r2,_,_,h1,h2,A,hu,hn=>by cases r1;cases r2;cases h1;cases h2;exact eP _
 | .bool b,_,_,r1,r2,_,_,h1,h2,A,hu,hn=>by cases r1;cases r2;cases h1;cases h2;exact eP _
 | .int i,_,_,r1,r2,_,_,h1,h2,A,hu,hn=>by
  cases r1;cases r2;obtain⟨t,rfl⟩:=h1;obtain⟨t',rfl⟩:=h2;have:=cQ (A:=A) (s:=s) i t i t';rwa[beq_self_eq_true]at this
 | .str z,_,_,r1,r2,_,_,h1,h2,A,hu,hn=>by
  cases r1;cases r2;obtain⟨t,rfl⟩:=h1;obtain⟨t',rfl⟩:=h2;have:=SeqAt.EqAt.str_str (A:=A) (s:=s) z t z t';rwa[beq_self_eq_true]at this
 | .list ds,_,_,r1,r2,_,_,h1,h2,A,hu,hn=>by
  obtain⟨a,xs,rfl,s1,q1⟩:=r1.lstE;obtain⟨b,ys,rfl,s2,q2⟩:=r2.lstE
  cases h1;cases h2;by_cases e:a=b
  .subst e;exact eP _
  obtain⟨its,v1,p1,z1⟩:=I.list s1;obtain⟨its2,v2,p2,z2⟩:=I.list s2;have hd:(eF ds).depth=dn ds+1:=by simp[du]
  have l1:its.length=ds.length:=by rw[<-v1.length,q1.length]
  have l2:its2.length=ds.length:=by rw[<-v2.length,q2.length]
  refine bv e ?_;have R:=SeqAt.RcAt.lists (A:=A) (e:=λ_=>true) p1.isList p2.isList (by rw[bC,bC,l1,l2]) (by lia) (λj g1 g2=>nD I ds q1 q2 v1 v2 A.in1 (by simp only[bj];lia) hn j (by simpa using g1) (by simpa using g2));rwa[show(b_ its.toArray.size).all (λ_=>true)=true by simp]at R
 | .tuple ds,_,_,r1,r2,_,_,h1,h2,A,hu,hn=>by
  obtain⟨a,xs,rfl,s1,q1⟩:=r1.tupE;obtain⟨b,ys,rfl,s2,q2⟩:=r2.tupE
  cases h1;cases h2;by_cases e:a=b
  .subst e;exact eP _
  obtain⟨its,v1,p1,z1⟩:=I.tuple s1;obtain⟨its2,v2,p2,z2⟩:=I.tuple s2;have hd:(eb ds).depth=dn ds+1:=by simp[du]
  have l1:its.length=ds.length:=by rw[<-v1.length,q1.length]
  have l2:its2.length=ds.length:=by rw[<-v2.length,q2.length]
  refine bv e ?_;have R:=SeqAt.RcAt.tuples (A:=A) (e:=λ_=>true) p1 p2 (by lia) (λj g1 g2=>nD I ds q1 q2 v1 v2 A.in1 (by simp only[bj];lia) hn j (by simpa using g1) (by simpa using g2));rwa[show((b_ (min its.toArray.size its2.toArray.size)).all (λ_=>true)&&its.toArray.size==its2.toArray.size)=true by simp[l1,l2]]at R
 | .dict kvs,_,_,r1,r2,_,_,h1,h2,A,hu,hn=>by
  obtain⟨a,rfl,ha⟩:=r1.dicE (yd hn);obtain⟨b,rfl,hb⟩:=r2.dicE (yd hn)
  cases h1;cases h2;exact Ma I hn ha hb (by lia)
theorem nD(I:L2.Inv X pins σ H s){ok ok':Ok}{pl pl':Bool}:∀(ds:List D){xs ys:List V}(_:RAs X.K ok pl H xs ds)(_:RAs X.K ok' pl' H ys ds){us ws:List Value}(_:Vals xs us)(_:Vals ys ws)(A:dy)(_:A.units+dn ds<cLine)(_:tG ds=true)(j:Nat)(g1:j<us.length)(g2:j<ws.length),SeqAt.EqAt A s us[j] ws[j] true
 |[],_,_,q1,q2,_,_,v1,v2,A,hu,hn,j,g1,g2=>by
  cases q1;cases v1;exact absurd g1 (Nat.not_lt_zero _)
 |d::ds,_,_,q1,q2,_,_,v1,v2,A,hu,hn,j,g1,g2=>by
  cases q1 with
  |cons a1 b1=>
   cases q2 with
   |cons a2 b2=>
    cases v1 with
    |cons c1 d1=>
     cases v2 with
     |cons c2 d2=>
      have hd:dn (d::ds)=max d.depth (dn ds):=by simp[dn]
      rw[tG,aO]at hn
      cases j with
      |zero=>exact Um I d a1 a2 c1 c2 A (by lia) hn.1
      |succ j=>exact nD I ds b1 b2 d1 d2 A (by lia) hn.2 j (by simpa using g1) (by simpa using g2)
end
end
section
variable{X:Cx}
theorem Uo{σ:L2.St}(I:L2.Inv X pins σ H s){ok ok':Ok}{pl pl':Bool}{d:D}{x y:V}(r1:RA X.K ok pl H x d)(r2:RA X.K ok' pl' H y d){v u:Value}(h1:RelV x v)(h2:RelV y u)(hb:O2 d=true)(hn:noK d=true)(A:dy)(q:A.units+d.depth<cLine):SeqAt.RcAt A s v u true:=by
 cases d with
 |none=>cases hb
 |bool _=>cases hb
 |int _=>cases hb
 |str _=>cases hb
 |list ds=>
  obtain⟨a,xs,rfl,s1,q1⟩:=r1.lstE;obtain⟨b,ys,rfl,s2,q2⟩:=r2.lstE
  cases h1;cases h2;obtain⟨its,W,p1,S⟩:=I.list s1;obtain⟨Z,Y,p2,T⟩:=I.list s2;have hd:(eF ds).depth=dn ds+1:=by simp[du]
  have l1:its.length=ds.length:=by rw[<-W.length,q1.length]
  have l2:Z.length=ds.length:=by rw[<-Y.length,q2.length]
  have R:=SeqAt.RcAt.lists (A:=A) (e:=λ_=>true) p1.isList p2.isList (by rw[bC,bC,l1,l2]) (by lia) (λj g1 g2=>nD I ds q1 q2 W Y A.in1 (by simp only[bj];lia) hn j (by simpa using g1) (by simpa using g2));rwa[show(b_ its.toArray.size).all (λ_=>true)=true by simp]at R
 |tuple ds=>
  obtain⟨a,xs,rfl,s1,q1⟩:=r1.tupE;obtain⟨b,ys,rfl,s2,q2⟩:=r2.tupE
  cases h1;cases h2;obtain⟨its,W,p1,S⟩:=I.tuple s1;obtain⟨Z,Y,p2,T⟩:=I.tuple s2;have hd:(eb ds).depth=dn ds+1:=by simp[du]
  have l1:its.length=ds.length:=by rw[<-W.length,q1.length]
  have l2:Z.length=ds.length:=by rw[<-Y.length,q2.length]
  have R:=SeqAt.RcAt.tuples (A:=A) (e:=λ_=>true) p1 p2 (by lia) (λj g1 g2=>nD I ds q1 q2 W Y A.in1 (by simp only[bj];lia) hn j (by simpa using g1) (by simpa using g2));rwa[show((b_ (min its.toArray.size Z.toArray.size)).all (λ_=>true)&&its.toArray.size==Z.toArray.size)=true by simp[l1,l2]]at R
 |dict kvs=>
  obtain⟨a,rfl,ha⟩:=r1.dicE (yd hn);obtain⟨b,rfl,U⟩:=r2.dicE (yd hn)
  cases h1;cases h2;exact Bg I hn ha U (by lia)
def ad7(K:PySem.W.Frag):R2:=λx y H Q=>X7 K x y H Q\/∃d,RA K ok1 true H x d/\RA K ok1 true H y d/\O2 d=true/\d.depth<=64/\noK d=true/\Q (.bl true) H
def Ys(O:X.A.units+64<cLine):OpR X (compareOp .Eq) (ad7 X.K):=by
 intro pins s σ H x y v u Q I Y Z h;rcases h with h|⟨d,r1,r2,hb,hd,hn,q⟩
 .exact oA O pins s σ H x y v u Q I Y Z h
 .exact Uo I r1 r2 Y Z hb hn X.A (by lia) _ _ _ _ ⟨.bl true,H,I,rfl,q⟩
def ad8:BrO K (ad7 K) Ig:=by
 intro H x y dx X d Q Y Z e q;unfold Ig at e;by_cases z:(dLq dx&&dLq X)=true
 .rw[if_pos z]at e
  cases e;rw[aO]at z;exact .inl ⟨dx,X,Y.rd (ah z.1),Z.rd (ah z.2),z.1,z.2,q _ rfl (.bl _)⟩
 .rw[if_neg z]at e;split at e
  .next c=>
   obtain⟨T,U,V,W⟩:=c;subst T
   cases e;exact .inr ⟨dx,Y,Z,U,V,W,q _ rfl (.bl _)⟩
  .cases e
end
section
variable{X:Cx}{fl:List Fl}
end
section
variable{X:Cx}{fl:List Fl}
end
section
variable{X:Cx}{fl:List Fl}{a:Expr}
end
section
variable{X:Cx}{fl:List Fl}{a b:Expr}{fa:FE}
end
end D3
namespace D3
open L2 My
section
variable{X:Cx}
noncomputable def ad9(K:PySem.W.Frag):R2:=λx y H Q=>∃Z l,RdV K H x Z/\((RdV K H y (.list l)/\dLq (.list l)=true)\/(RdV K H y (.tuple l)/\dLq (.tuple l)=true))/\dLq Z=true/\Q (.bl (l.any λz=>dA z Z)) H
noncomputable def J7(K:PySem.W.Frag):R2:=λx y H Q=>∃Z l,RdV K H x Z/\((RdV K H y (.list l)/\dLq (.list l)=true)\/(RdV K H y (.tuple l)/\dLq (.tuple l)=true))/\dLq Z=true/\Q (.bl (!l.any λz=>dA z Z)) H
def yg(q:A.units+64<cLine)(h:dn l+1<=64):A.units+1+min (dn l) d.depth<cLine:=by
 have:=qy (dn l) d.depth;lia
def n8(h:dLq (.list l)=true):ee l=true/\dn l+1<=64:=by
 unfold dLq at h;rw[aO]at h;refine⟨by simpa[dP]using h.1,?_⟩;have:=of_decide_eq_true h.2;simpa[du]using this
def mU(h:dLq (.tuple l)=true):ee l=true/\dn l+1<=64:=by
 unfold dLq at h;rw[aO]at h;refine⟨by simpa[dP]using h.1,?_⟩;have:=of_decide_eq_true h.2;simpa[du]using this
def O5(O:X.A.units+64<cLine):OpR X (compareOp .In) (ad9 X.K):=by
 intro pins s σ H x y v u Q I U V h;obtain⟨T,l,ha,hb,sa,q⟩:=h;obtain⟨as,W⟩:=ha.reads I U;rcases hb with⟨hb,Z⟩|⟨hb,Z⟩
 .obtain⟨bs,Y⟩:=hb.reads I V;exact SeqAt.in_list_reads Y W (n8 Z).1 (ah sa) (yg O (n8 Z).2) ⟨.bl _,H,I,rfl,q⟩
 .obtain⟨bs,Y⟩:=hb.reads I V;exact SeqAt.in_tuple_reads Y W (mU Z).1 (ah sa) (yg O (mU Z).2) ⟨.bl _,H,I,rfl,q⟩
def Mf(O:X.A.units+64<cLine):OpR X (compareOp .NotIn) (J7 X.K):=by
 intro pins s σ H x y v u Q I U V h;obtain⟨T,l,ha,hb,sa,q⟩:=h;obtain⟨as,W⟩:=ha.reads I U;rcases hb with⟨hb,Z⟩|⟨hb,Z⟩
 .obtain⟨bs,Y⟩:=hb.reads I V;exact SeqAt.notIn_list_reads Y W (n8 Z).1 (ah sa) (yg O (n8 Z).2) ⟨.bl _,H,I,rfl,q⟩
 .obtain⟨bs,Y⟩:=hb.reads I V;exact SeqAt.notIn_tuple_reads Y W (mU Z).1 (ah sa) (yg O (mU Z).2) ⟨.bl _,H,I,rfl,q⟩
theorem ae0:BrO K (ad9 K) gIn:=by
 intro H x y dx X d Q Y Z e q
 cases X with
 |list l=>
  by_cases z:(dLq dx&&dLq (.list l))=true
  .have e:(if(dLq dx&&dLq (.list l))=true then some (d5 (l.any λz=>dA z dx))else none)=some d:=e;rw[if_pos z]at e
   cases e;rw[aO]at z;exact⟨dx,l,Y.rd (ah z.1),.inl ⟨Z.rd (ah z.2),z.2⟩,z.1,q _ rfl (.bl _)⟩
  .have e:(if(dLq dx&&dLq (.list l))=true then some (d5 (l.any λz=>dA z dx))else none)=some d:=e;rw[if_neg z]at e
   cases e
 |tuple l=>
  by_cases z:(dLq dx&&dLq (.tuple l))=true
  .have e:(if(dLq dx&&dLq (.tuple l))=true then some (d5 (l.any λz=>dA z dx))else none)=some d:=e;rw[if_pos z]at e
   cases e;rw[aO]at z;exact⟨dx,l,Y.rd (ah z.1),.inr ⟨Z.rd (ah z.2),z.2⟩,z.1,q _ rfl (.bl _)⟩
  .have e:(if(dLq dx&&dLq (.tuple l))=true then some (d5 (l.any λz=>dA z dx))else none)=some d:=e;rw[if_neg z]at e
   cases e
 |_=>cases e
theorem Uq:BrO K (J7 K) Cm:=by
 intro H x y dx X d Q Y Z e q
 cases X with
 |list l=>
  by_cases z:(dLq dx&&dLq (.list l))=true
  .have e:(if(dLq dx&&dLq (.list l))=true then some (d5 (!l.any λz=>dA z dx))else none)=some d:=e;rw[if_pos z]at e
   cases e;rw[aO]at z;exact⟨dx,l,Y.rd (ah z.1),.inl ⟨Z.rd (ah z.2),z.2⟩,z.1,q _ rfl (.bl _)⟩
  .have e:(if(dLq dx&&dLq (.list l))=true then some (d5 (!l.any λz=>dA z dx))else none)=some d:=e;rw[if_neg z]at e
   cases e
 |tuple l=>
  by_cases z:(dLq dx&&dLq (.tuple l))=true
  .have e:(if(dLq dx&&dLq (.tuple l))=true then some (d5 (!l.any λz=>dA z dx))else none)=some d:=e;rw[if_pos z]at e
   cases e;rw[aO]at z;exact⟨dx,l,Y.rd (ah z.1),.inr ⟨Z.rd (ah z.2),z.2⟩,z.1,q _ rfl (.bl _)⟩
  .have e:(if(dLq dx&&dLq (.tuple l))=true then some (d5 (!l.any λz=>dA z dx))else none)=some d:=e;rw[if_neg z]at e
   cases e
 |_=>cases e
end
noncomputable def Itv(K:PySem.W.Frag)(a:Addr)(n:Nat):It:=
 ⟨λi H=>i<n/\∃xs x,SqL K H a xs/\xs.length=n/\xs[n-1-i]? = some x,λi H x H'=>H'=H/\∀xs,SqL K H a xs->xs[n-1-i]? = some x,λi _=>n<=i⟩
theorem O6(a it:Addr)(n:Nat):Turn P w K tg (Itv K a n) [it] it (λi h=>i<=n/\h.IsRevIter it a ((n:Int)-1-(i:Int))) where
 mem:=by simp
 obj:=λi h st b hb=>by
  have e:b=it:=by simpa using hb
  subst e;obtain⟨_,o,e,c,d⟩:=st;exact⟨o,e,λv z=>by rw[d]at z;cases z⟩
 keep:=λi h h' st k=>⟨st.1,st.2.at λo e=>k it (by simp) o e⟩
 item:=by
  intro X U hw T M i pins s σ H E I V st W;subst U hw T;obtain⟨hi,xs,x,N,hn,hx⟩:=W;obtain⟨its,J,p,A⟩:=I.list N;obtain⟨u,D,G⟩:=J.get hx;obtain⟨O,f1,f2,Q,R,S⟩:=V it (by simp);have Z:=st.2;rw[show(n:Int)-1-(i:Int)=((n-1-i:Nat):Int)by lia]at Z;refine wpAny_pyNext_rev_item Z p.isList (x:=u) (by simpa using D) λh' Y L=>?_
  rw[show((n-1-i:Nat):Int)-1=(n:Int)-1-((i+1:Nat):Int)by lia]at Y;have B:=I.turned (t':=s.toks) (λb o hb e=>(L.2 b hb).trans e) O f1 Q R S;obtain⟨o,e,c,d⟩:=id Y;exact⟨u,rfl,Ei (s:={s with heap:=h'}) e c d (by decide) ⟨x,H,B,G,⟨rfl,λys F=>by rwa[I.list_inj F N]⟩,⟨by lia,Y⟩,λb hb=>(V b hb).1⟩⟩
 done:=by
  intro X U hw T M i pins s σ H E I V st W;subst U hw T;obtain⟨O,f1,f2,Q,R,S⟩:=V it (by simp);have W:n<=i:=W;have Z:=st.2;rw[show(n:Int)-1-(i:Int) = -1 by lia]at Z;exact wpAny_pyNext_rev_end (I.ok.hd M) Z λh' C=>⟨rfl,I.turned (t':=s.toks) (λb o hb e=>C b o hb e) O f1 Q R S⟩
 self:=λ_ _ _ _ _ st h=>wpAny_pyIter_revIter st.2 h
section
variable{X:Cx}{fl:List Fl}{a:Expr}
def ap8(K:PySem.W.Frag)(ta:TE):TI:=λσ H R=>ta σ H λx H1=>∃p xs,x = .ref p/\SqL K H1 p xs/\R (Itv K p xs.length) H1
theorem Yt (hg:Gl X "reversed") (hm:X.mg "reversed"=none) (ha:PE X a ta) (U:starEach [a] X.env=(false,eval a X.env)::starEach [] X.env:=by rfl)
 (O:(backTo pos (starEach [] X.env)).any (·.1)=false:=by rfl):PI X tg (.Call (.Name "reversed" p) [a] [] pos) (ap8 X.K ta):=by
 intro pins s σ H R I h;refine ax (ou I hg hm boot_reversed (d6 (thn ((d8 ha iU U) pos pins s σ H (λvs H1=>match vs with|[x]=>∃p xs,x = .ref p/\SqL X.K H1 p xs/\R (Itv X.K p xs.length) H1|_=>False) I h) λus s1 ⟨vs,H1,Y,r1,q1⟩=>?_) U O))
 cases r1 with
 |nil=>exact q1.elim
 |cons r T=>
  cases T with
  |cons _ _=>exact q1.elim
  |nil=>
  obtain⟨l,xs,e,S,q⟩:=q1;subst e
  cases r;obtain⟨its,V,pl,P⟩:=Y.list S;have N:=V.length;refine call_reversed_list pl.isList ?_;have Q:Inv X pins σ H1 {s1 with heap:=s1.heap.push (revObj l ((its.toArray.size:Int)-1))}:=Y.kept (t':=s1.toks) λb o e=>ae _ e
  have Z:(s1.heap.push (revObj l ((its.toArray.size:Int)-1))).IsRevIter s1.heap.objs.size l ((its.toArray.size:Int)-1):=⟨_,ai _ rfl,rfl,rfl⟩;refine wpAny_pyIter_revIter (s:={s1 with heap:=s1.heap.push (revObj l ((its.toArray.size:Int)-1))}) Z ?_;have W:=Z;rw[show(its.toArray.size:Int)-1=(xs.length:Int)-1-((0:Nat):Int)by rw[bC];lia]at W;refine⟨s1.heap.objs.size,[s1.heap.objs.size],_,_,H1,rfl,Q,O6 l s1.heap.objs.size xs.length,⟨g_ _,by rwa[show(xs.length:Int)-1-((0:Nat):Int)=(its.toArray.size:Int)-1 by rw[bC];lia]⟩,λb hb=>?_,q⟩;have e:b=s1.heap.objs.size:=by simpa using hb
  subst e;exact Y.fpOk (aV _) (Y.hok.fresh (aV _))
def Yu(h:DE X fl (.B L) a f)(hg:Gl X "reversed")(hm:X.mg "reversed"=none)(he:starEach [a] X.env=(false,eval a X.env)::starEach [] X.env:=by rfl)
 (O:(backTo pos (starEach [] X.env)).any (·.1)=false:=by rfl):DI X fl L tg (.Call (.Name "reversed" p) [a] [] pos) (TY f):=PI.imp (Yt hg hm h he O) λσ H R' h=>by
 refine D3.ex4 h λG ow δ l R N q=>?_
 refine D3.ex1 (bind1 N) λd M U=>?_
 obtain⟨Z,rfl⟩:∃Z,d = .list Z:=by cases d<;>first|exact⟨_,rfl⟩|(cases U;done)
 cases U;refine⟨G,ow,δ,_,R,M,λv H1 s r=>?_⟩;obtain⟨a,xs,rfl,hx,keep⟩:=HS (R.grow s) r;refine⟨a,xs,rfl,hx,q _ _ s λH2 k2 i=>?_⟩;obtain⟨k3,V⟩:=keep H2 k2;have S:=V.length;refine⟨λd hd=>?_,λP=>by rw[jJ]at P;show xs.length<=i;lia⟩;have hi:i<Z.length:=by
  have:=(bw.mp hd).1;rwa[jJ]at this
 rw[List.getElem?_reverse hi]at hd;obtain⟨y,W,T⟩:=V.get hd;rw[<-S]at W;refine⟨⟨by lia,xs,y,k3,rfl,W⟩,λx K Y=>?_⟩;obtain⟨e,Q⟩:=Y;subst e;have:some y=some x:=W.symm.trans (Q xs k3)
 cases this;exact⟨Same.refl _,T⟩
end
section
variable{X:Cx}{fl:List Fl}{F:List D->Option D}{fa:FA}
end
section
variable{k:Nat}{fs:FS}{fl:List Fl}
end
section
end
end D3
namespace D3
open L2 My
section
variable{fl flA:List Fl}{G:Gh}{ow:Ow}{σ σ':St}{H H1:Hp}{δ:DS}{T:List Nat}
end
section
variable{X:Cx}{fl flA:List Fl}{fa:FA}
end
section
variable{X:Cx}{fl:List Fl}
end
end D3
variable{fI:Addr}
namespace XC
open Sem (wp)
structure Two(h:ec)(C N I:Addr)(bmB:List Value)(mN mI:Str->Option Value)(B newId:String):Prop where
 ex:∃(nm q:Str)(bs:List Value)(sn:List Str)(sub:List Value)(ab:Bool)(col:Option Bool)(dd:Option Addr)(k0 k1 k2 k3 k5:Option Value),
  h.get? C=some (excClassObj nm q C N bs (.ref I::bmB) true sn sub ab col dd k0 k1 k2 k3 k5 newId)
 nsC:h.Ns N mN
 up:∃(nm q:Str)(NI:Addr)(bs:List Value)(sn:List Str)(sub:List Value)(ab:Bool)(col:Option Bool)(dd:Option Addr)(k0 k1 k2 k3 k5:Option Value)(nid:String),
  h.get? I=some (excClassObj nm q I NI bs bmB true sn sub ab col dd k0 k1 k2 k3 k5 nid)/\h.Ns NI mI
 mro:mroOf (.type B)=pure bmB
section
variable{M:fh}{g:Array fg}{d:Drawn}{t:Nat}{os:OsState}
variable{N:Addr}{mN mI:Str->Option Value}{B newId initId:String}
def Two.keeps(T:Two h C N I bmB mN mI B newId)(k:∀b o,h.get? b=some o->h'.get? b=some o):Two h' C N I bmB mN mI B newId:=by
 obtain⟨⟨nm,q,bs,sn,sub,ab,col,dd,k0,k1,k2,k3,k5,hC⟩,hn,⟨W,R,NI,U,X,Z,S,Y,V,j0,j1,j2,P,Q,nid,O,hm⟩,hb⟩:=T;exact⟨⟨nm,q,bs,sn,sub,ab,col,dd,k0,k1,k2,k3,k5,k _ _ hC⟩,hn.keeps k,⟨W,R,NI,U,X,Z,S,Y,V,j0,j1,j2,P,Q,nid,k _ _ O,hm.keeps k⟩,hb⟩
def Two.tail(T:Two h C N I bmB mN mI B newId)(hi:mI "__init__"=none):OwnTail h bmB (.ref I::bmB):=by
 obtain⟨W,Q,NI,U,X,Z,S,Y,V,j0,j1,j2,O,P,nid,R,hm⟩:=T.up;exact .own R hm hi .base
theorem Two.look{name:Str}{y:Option Value}{Q:Option Value->dk->Prop}(T:Two h C N I bmB mN mI B newId)(hB:typeLookup (.type B) name=pure y)
 (O:Q (match mN name with
  |some v=>some v
  |none=>match mI name with
   |some v=>some v
   |none=>y) ⟨h,g,d,t,os⟩):wpAny M A (typeLookup (.ref C) name) Q E ⟨h,g,d,t,os⟩:=by
 obtain⟨⟨nm,q,bs,sn,sub,ab,col,dd,k0,k1,k2,k3,k5,hC⟩,hn,⟨U,K,NI,R,V,Z,P,Y,S,j0,j1,j2,H,J,nid,L,hm⟩,hb⟩:=T;have rest:lookupAlong bmB name=pure y:=by
  rwa[typeLookup_eq,hb]at hB
 rw[typeLookup_eq];refine aa (wpAny_mroOf_exc hC ?_);rw[lookupAlong_cons];refine aa (wpAny_classOwn_exc hC hn ?_)
 cases W:mN name with
 |some v=>
  rw[W]at O;exact ag O
 |none=>
  rw[W]at O;rw[lookupAlong_cons];refine aa (wpAny_classOwn_cls L hm ?_)
  cases X:mI name with
  |some v=>
   rw[X]at O;exact ag O
  |none=>
   rw[X]at O;rw[rest];exact ag O
end
section
variable{prog:dt}{g:Array fg}{d:Drawn}{t:Nat}{os:OsState}
variable{N:Addr}{mN mI:Str->Option Value}{B newId initId:String}
def Two.make{rest:List Value}{oI:Obj}{Q:Fin->dk->Prop}(T:Two h C N I bmB mN mI B newId)(F:ExcBaseFacts B newId initId bmB)(hi:mI "__init__"=none)(hN:mN "__init__"=some (.ref fI))
 (hf:h.get? fI=some oI) (U:oI.cls = .type "function") (O:rest.length<=sizeLine)
 (hq:∀h' e,h.objs.size<=e->Heap.MadeExcOf h h' e (.ref C) rest->wpAny (model prog w) A (call (.ref fI) (.ref e::rest)) (λr s'=>r = .none/\Q (.done (.ret (.ref e))) s') E ⟨h',g,d,t,os⟩) :
 wpAny (model prog w) A (eK.«type.__call__» ⟨.ref C::rest,[]⟩) Q E ⟨h,g,d,t,os⟩:=by
 have TT:=T.tail hi;have T0:=T;obtain⟨⟨nm,q,bs,sn,sub,ab,col,dd,k0,k1,k2,k3,k5,hC⟩,hn,⟨S,G,NI,P,V,X,M,W,R,j0,j1,j2,y,D,nid,x,hm⟩,hb⟩:=T
 repeat(first
  |with_reducible refine aw hC ?_
  |with_reducible refine wpAny_madeBy_exc hC ?_
  |wp_step)
 refine codeAny_call_builtin_code (Code.quiet_builtin _ F.quiet) (wpAny_check_new_subT F TT hC ?_);refine codeAny_exc_new_subT F TT hC ?_ O;obtain⟨h2,Z⟩:∃h2,h2=(h.push {cls:=.type "tuple", data:=.seq rest.toArray}).push {cls:=.ref C,data:=.fields #[.ref h.objs.size,.none,.none,.none,.bool false,.none]}:=⟨_,rfl⟩;rw[<-Z];have kp:∀b o,h.get? b=some o->h2.get? b=some o:=λb o z=>by
  rw[Z];exact ae _ (ae _ z)
 have hx:h2.get? (h.objs.size+1)=some {cls:=.ref C,data:=.fields #[.ref h.objs.size,.none,.none,.none,.bool false,.none]}:=by
  rw[Z];heap_get
 have L:h2.get? h.objs.size=some {cls:=.type "tuple", data:=.seq rest.toArray}:=by
  rw[Z];exact ae _ (Heap.get?_push_at rfl rfl)
 have Y:=kp _ _ hC;have H:(dr C :: .ref I::bmB).contains (.ref C)=true:=by simp
 repeat(first
  |with_reducible refine aw hx ?_
  | (with_reducible refine bc Y ?_;rw[H])
  |wp_step)
 refine(T0.keeps kp).look F.init.lookup ?_;rw[hN];refine aI (aa ?_);refine aa (cB (T := "function") ⟨_,kp _ _ hf,U⟩ ?_);rw[if_pos (by decide)];refine ag (aa (ar (hq h2 (h.objs.size+1) (qY _) ⟨kp,bP (qY _),h.objs.size,hx,bP (aV _),L⟩) (λr s' K=>?_) λ_ _ z=>z));obtain⟨rfl,J⟩:=K
 wp_walk
 exact J
end
end XC
variable{tk:Tok}
namespace XC
open Builtin Builtin.ObjectAttr
open Sem (wp)
section
variable{prog:dt}{g:Array fg}{d:Drawn}{t:Nat}{os:OsState}
variable{N x:Addr}{mN mI:Str->Option Value}{B newId initId sa owner:String}{name:Str}{v:Value}
def Two.store0{o:Obj}{Q:Fin->dk->Prop}(T:Two h C N I bmB mN mI B newId)(SF:StoreFacts B bmB sa owner)(n1:mN name=none)(n2:mI name=none)(hB:typeLookup (.type B) name=pure none)
 (hx:h.get? x=some o) (hc:o.cls = .ref C) (U:∀c,o.data ≠ .cls c) (hdn:o.dict=none)
 (hq:∀h' O dx,h'.get? x=some {o with dict:=some dx}->h.objs.size<=dx->dx≠x->h'.Ns1 dx (λy=>if y=name then some v else none)->(∀b u,b≠x->h.get? b=some u->h'.get? b=some u)->Q (.done (.ret .none)) ⟨h',g,d,O,os⟩) :
 wpAny (model prog w) A (eK.«object.__setattr__» ⟨[.ref x,.str name tk,v],[]⟩) Q E ⟨h,g,d,t,os⟩:=by
 have T0:=T;obtain⟨⟨nm,q,bs,sn,sub,ab,col,dd,k0,k1,k2,k3,k5,hC⟩,hn,⟨M,D,NI,K,P,W,J,V,L,j0,j1,j2,r,s,nid,p,hm⟩,hb⟩:=T;have pass:refuseLoop (.ref x) "__setattr__" (.ref C :: .ref I::bmB)=pure ():=by
  rw[refuseLoop_ref,refuseLoop_ref];exact SF.passes _
 unfold eK.«object.__setattr__»
 repeat(first
  |rw[refuse_eq]
  |rw[pass]
  | (with_reducible refine aw hx ?_;rw[hc])
  |with_reducible refine wpAny_mroOf_exc hC ?_
  | (with_reducible refine T0.look hB ?_;rw[n1,n2])
  |wp_step)
 rw[hdn,if_neg (by simp[typeHasDict])];split
 .rename_i z
  cases z
 split
 .rename_i c z;exact absurd z (U c)
 obtain⟨h1,Y⟩:∃h1,h1=h.push {cls:=.type "dict", data:=.dict #[]}:=⟨_,rfl⟩;have x1:h1.get? x=some o:=by rw[Y];exact ae _ hx
 have ne:=bF (af hx);refine aa (wpAny_alloc' ?_);rw[<-Y];refine aa (wpAny_update' x1 (ag ?_));obtain⟨h2,Z⟩:∃h2,h2=h1.update x λo=>{cls:=o.cls,dict:=some h.objs.size,data:=o.data,slots:=o.slots}:=⟨_,rfl⟩
 rw[<-Z];have F:h2.get? h.objs.size=some {cls:=.type "dict", data:=.dict #[]}:=by
  rw[Z,Y];exact(df _ _ _ _ ne.symm).trans (Heap.get?_push_at rfl rfl)
 have x2:h2.get? x=some {cls:=o.cls,dict:=some h.objs.size,data:=o.data,slots:=o.slots}:=by
  rw[Z];refine av _ x1 ?_;have fr:=(Heap.get?_some_iff.mp hx).2;obtain⟨oc,od,X,osl⟩:=o
  cases X<;>first|rfl|exact fr
 have k2:∀b u,b≠x->h.get? b=some u->h2.get? b=some u:=λb u z q=>by
  rw[Z,Y];exact(df _ _ _ _ z).trans (ae _ q)
 have R:h2.Ns h.objs.size (λ_=>none):=⟨_,#[],_,F,rfl,λe z=>absurd z (by simp),λ_=>rfl⟩;refine aa (ag (aa (wpAny_nsSet1 (da R) λh3 n3 S=>?_)));obtain⟨oD,H,G,a1,a2,a3⟩:=n3.count (Within.cons name v Within.nil);refine aa (wpAny_lookBehind a1 (by rw[a2];exact pastItsLine_dict (bf a3 (show 1<=sizeLine+1 by decide))) ?_)
 wp_walk
 exact hq h3 _ h.objs.size ((S.2 x ne).trans x2) (aV _) ne.symm n3 λb u z q=>(S.2 b (bF (af q))).trans (k2 b u z q)
def Two.set0{o:Obj}{Q:Unit->dk->Prop}(T:Two h C N I bmB mN mI B newId)(O:StoreFacts B bmB sa owner)(s1:mN "__setattr__"=none)(s2:mI "__setattr__"=none)(n1:mN name=none)(n2:mI name=none)(hB:typeLookup (.type B) name=pure none)
 (hx:h.get? x=some o) (hc:o.cls = .ref C) (Y:∀c,o.data ≠ .cls c) (hdn:o.dict=none)
 (hq:∀h' U dx,h'.get? x=some {o with dict:=some dx}->h.objs.size<=dx->dx≠x->h'.Ns1 dx (λy=>if y=name then some v else none)->(∀b u,b≠x->h.get? b=some u->h'.get? b=some u)->Q () ⟨h',g,d,U,os⟩) :
 wpAny (model prog w) A (setAttr (.ref x) name v) Q E ⟨h,g,d,t,os⟩:=by
 have T0:=T;obtain⟨⟨nm,q,bs,sn,sub,ab,col,dd,k0,k1,k2,k3,k5,hC⟩,hn,⟨J,s,NI,G,K,X,F,W,H,j0,j1,j2,p,r,nid,n,hm⟩,hb⟩:=T;have m:=O.slot.bind (.ref x);have own:(dr C :: .ref I::bmB).contains (.type owner)=true:=by
  rw[dU,dU,O.hasOwner,jy,jy]
 unfold setAttr callSpecial? specialOf
 repeat(any_goals(first
  |assumption
  | (with_reducible refine aw hx ?_;rw[hc])
  | (with_reducible refine T0.look O.slot.lookup ?_;rw[s1,s2])
  |wp_step))
 refine codeAny_call_builtin O.slot.plain O.entry ?_;have D:∀{A:dy}{E:Value->dk->Prop}(tk:Tok)(Q:Unit->dk->Prop)(t:Nat),Q () ⟨h,g,d,t,os⟩->wpAny (model prog w) A (checkBuiltinCall sa ⟨[.ref x,.str name tk,v],[]⟩) Q E ⟨h,g,d,t,os⟩:=by
  intro A E tk Q t z;have ha:=O.args (.ref x) (.str name tk) v;simp only[checkBuiltinCall,O.kind,O.split];refine aa ?_
  repeat(first
   | (with_reducible refine aw hx ?_;rw[hc])
   | (with_reducible refine bc hC ?_;rw[own])
   |wp_step)
  cases L:Manifest.signature? sa with
  |none=>exact ag z
  |some Z=>
   simp only[argsOk,L]at ha;have ha:=ha;show wpAny _ _ (Bind.checkArgs sa Z ⟨[.ref x,.str name tk,v],[]⟩) _ _ _;rw[ha];exact ag z
 refine D _ _ _ (T0.store0 O n1 n2 hB hx hc Y hdn λh' U dx M P R S V=>?_)
 repeat(any_goals(first|assumption|wp_step))
 exact hq h' U dx M P R S V
end
end XC
namespace XC
open L2 My
section
variable{N x:Addr}{mN mI:Str->Option Value}{B newId initId sa owner:String}
def O7{k:Nat}{name f:Str}{params:Arguments}{dV kV doc:Value}{osl:Array (Option Value)}{p1 p3 p4:Pos}
 (lk:K.lookup fI=some ⟨oc,od,.func (PySem.W.fnOf name qual params [.Assign [.Attribute (.Name "self" p1) f p2] (.Name f p3) p4] scope dV kV doc pm an cdv ct),osl⟩) (hcd:PySem.W.codeIn K cdv qual=true)
 (S:FnScope ["self", f] ["self", f] scope) (l1:scope.names.lookup ("self":Str)=some NameKind.local) (l2:scope.names.lookup f=some .local) (fs:("self":Str)≠f) (fd:(f==("__debug__":Str))=false) (fc:(f==("__classdict__":Str))=false)
 (hb:Binds K (PySem.W.fnOf name qual params [.Assign [.Attribute (.Name "self" p1) f p2] (.Name f p3) p4] scope dV kV doc pm an cdv ct) ["self", f] [])
 {A:dy} {outer:List Env} {s:dk} {H:Hp} (hr:Room (k+1) A) (e0:Env0 P w K mg base A outer s H)
 (T:Two s.heap C N I bmB mN mI B newId) (SF:StoreFacts B bmB sa owner) (s1:mN "__setattr__"=none) (s2:mI "__setattr__"=none) (n1:mN f=none) (n2:mI f=none) (hB:typeLookup (.type B) f=pure none)
 {o:Obj} (hx:s.heap.get? x=some o) (hc:o.cls = .ref C) (Y:∀c,o.data ≠ .cls c) (hdn:o.dict=none) {v:V} {u:Value} (rv:RelV v u) {R:Result->dk->Prop}
 (hq:∀h' O dx,h'.get? x=some {o with dict:=some dx}->s.heap.objs.size<=dx->dx≠x->h'.Ns1 dx (λy=>if y=f then some u else none)->(∀b U,b≠x->s.heap.get? b=some U->h'.get? b=some U)->R (.ok (.ret .none)) {s with heap:=h',toks:=O}) :
 codeAny (model P w) A (.call (.ref fI) ⟨[.ref x,u],[]⟩) R s:=by
 have X:=e0.mod.kin.keeps λb o e=>(e0.bs b o e).1
 have Z:=e0.mod.nolimit.keeps λb o e=>(e0.bs b o e).1
 have kinds:∀y∈(["self", f]:List Str).zip [dr x,u],scope.names.lookup y.1=some .local\/(scope.names.lookup y.1=some .cell/\((cellsFrom (s.heap.objs.size+1) scope.names []).lookup y.1).isSome=true):=by
  rintro⟨n,z⟩ t;rcases S.par n (mq t).1 with q|q
  .exact .inl q
  .exact .inr ⟨q,PySem.W.cellsFrom_some _ _ _ (.inl q)⟩
 refine codeAny_call_function hr.depth (X _ _ lk) rfl S.co S.gen rfl (PySem.W.codeRec_of X hcd) (hb s [.ref x,u] X rfl _ _ _ _ ?_);refine c_ S.kind kinds λenv r p y=>?_
 subst r;refine⟨Z.keeps y.toInCall.keep,codeAny_func ?_⟩;obtain⟨h3,F,rfl,kp⟩:=y.done;have ns:=y.toInCall.ns;have D:bindL (envOfC qual scope s.heap.objs.size fI cdv).kindOf ((["self", f]:List Str).zip [dr x,u]) (λ_=>none) "self"=some (.ref x):=
  sE S.nd (i:=0) rfl rfl l1
 have E:bindL (envOfC qual scope s.heap.objs.size fI cdv).kindOf ((["self", f]:List Str).zip [dr x,u]) (λ_=>none) f=some u:=
  sE S.nd (i:=1) rfl rfl l2
 refine br (cy (cv (cc S.kind l2 ns E (cv (cc S.kind l1 ns D ?_))) fd));refine(T.keeps kp).set0 SF s1 s2 n1 n2 hB (kp _ _ hx) hc Y hdn λh' O dx G J L M Q=>?_
 refine aT ?_;exact hq h' O dx G (bf (bf y.toInCall.fresh (gA ns.lt)) J) L M λb U e q=>Q b U e (kp _ _ q)
end
end XC
namespace XC
open L2 My
structure Fly(h:ec)(a C dx:Addr)(f:Str)(u:Value)(tb:Option Addr):Prop where
 obj:∃vs sl,h.get? a=some ⟨.ref C,some dx,.fields vs,sl⟩/\vs[1]? = some (tb.elim .none .ref)
 dic:h.Ns1 dx (λy=>if y=f then some u else none)
 ne:dx≠a
 hd:∀T,tb=some T->T≠a/\T≠dx/\∃oT ts,h.get? T=some oT/\oT.data = .fields ts/\ts[3]? = some .none
section
variable{M:fh}
def Bh{outer:List Env}{L:Addr}{oe:Obj}{vs:Array Value}{head:Value}{hn:Bool}{Q:Unit->dk->Prop}
 (hfr:A.frames=some (env::outer)) (hl:s.heap.FunFrames base (env::outer)) (hf:env.frame=some L) (he:s.heap.get? a=some oe) (hd:oe.data = .fields vs) (hsz:1<vs.size)
 (h:∀h' T,s.heap.objs.size<=T->h'.get? a=some (oe.mapFields (·.setIfInBounds 1 (.ref T)))->(∃oT ts,h'.get? T=some oT/\oT.data = .fields ts/\ts[3]? = some .none) ->
  (∀b o,b≠a->b∉frs (env::outer)->s.heap.get? b=some o->h'.get? b=some o)->(∀b o,b≠a->s.heap.get? b=some o->∃sl,h'.get? b=some {o with slots:=sl})->Q () {s with heap:=h'}) :
 wpAny M A (do let z <-frameOf env;let pl <-entryPlaceOf L hn;let b <-EntryCells.newEntry head z .none (rawInt L) .none pl;setField (.ref a) 1 b) (λ_ s'=>wpAny M A (setFlight (.ref a) none) Q E s') E s:=by
 have nf:a∉(env::outer).filterMap (·.frame):=λz=>by
  obtain⟨_,o,I,q⟩:=hl.mem z;rw[he]at I
  cases I;exact q vs hd
 refine aa (wpAny_frameOf_fun hfr hl hf λh1 U=>?_);refine aa (wpAny_entryPlaceOf λpl V=>?_);refine aa (cu ?_ (V.sizeOk5 _ _ _ _ _));obtain⟨Z,Y⟩:∃Z:Obj,Z={cls:=.type "traceback", dict:=none,data:=.fields ([head,.ref L,.none,rawInt L,.none]++(if pl.isEmpty then bK 6 dL else pl)).toArray}:=⟨_,rfl⟩;rw[<-Y];have od:Z.data = .fields ([head,.ref L,.none,rawInt L,.none]++(if pl.isEmpty then bK 6 dL else pl)).toArray:=by rw[Y]
 have P:Z.isFreed=false:=by rw[Y];rfl
 have a1:=(U.2.1 a nf).trans he;have a2:(h1.push Z).get? a=some oe:=ae _ a1;refine ci a2 hd hsz ?_;have sz:=U.1;have ne:=uJ (af a1);have G:=ce hd (·.setIfInBounds 1 (dr h1.objs.size));obtain⟨h3,S⟩:∃h3,h3=(h1.push Z).update a (fq (·.setIfInBounds 1 (dr h1.objs.size))):=⟨_,rfl⟩;rw[<-S];have a3:h3.get? a=some (oe.mapFields (·.setIfInBounds 1 (.ref h1.objs.size))):=by
  rw[S];exact av _ a2 (bz G)
 have K:h3.get? h1.objs.size=some Z:=by
  rw[S];exact(am _ _ ne.symm).trans (ai h1 P)
 have J:∀b,b≠a->b≠h1.objs.size->h3.get? b=h1.get? b:=λb W R=>by
  rw[S,am _ _ (dv W)];exact Heap.get?_push_ne _ _ _ R
 refine aa (aS a3 G (x:=.ref h1.objs.size) (by simp[hsz]) ?_);rw[if_pos (show(dr h1.objs.size != dL)=true by simp)];have H:=ce od (·.setIfInBounds 3 ((none:Option Addr).elim dL λf=>rawInt f));refine ci K od (by simp only[bC,bB,aX,cW]<;>lia) ?_;obtain⟨h4,N⟩:∃h4,h4=h3.update h1.objs.size (fq (·.setIfInBounds 3 ((none:Option Addr).elim dL λf=>rawInt f))):=⟨_,rfl⟩;rw[<-N];have O:∀b,b≠h1.objs.size->h4.get? b=h3.get? b:=λb z=>by rw[N];exact am _ _ (dv z)
 refine h h4 h1.objs.size (uK sz.symm) ((O a (dv ne)).trans a3) ⟨_,_,by rw[N];exact av _ K (bz H),H,?_⟩ (λb o W R q=>?_) λb o W q=>?_
 .rcases V with rfl|⟨_,_,_,_,_,_,_,rfl⟩<;>simp
 .have q1:=(U.2.1 b R).trans q;have X:=bF (af q1);exact(O b X).trans ((J b W X).trans q1)
 .obtain⟨sl,q1⟩:=U.2.2 b o q;have X:=bF (af q1);exact⟨sl,(O b X).trans ((J b W X).trans q1)⟩
end
end XC
namespace XC
open L2 My
section
variable{M:fh}
theorem O8{outer:List Env}{L dx:Addr}{f:Str}{u:Value}{tb:Option Addr}{Q:Unit->dk->Prop}
 (O:A.frames=some (env::outer)) (hl:s.heap.FunFrames base (env::outer)) (hf:env.frame=some L) (F:Fly s.heap a C dx f u tb) (nd:dx∉frs (env::outer))
 (h:∀h' T,s.heap.objs.size<=T->Fly h' a C dx f u (some T)->(∀b o,b≠a->tb≠some b->b∉frs (env::outer)->s.heap.get? b=some o->h'.get? b=some o) ->
  (∀b o,b≠a->tb≠some b->s.heap.get? b=some o->∃sl,h'.get? b=some {o with slots:=sl})->Q () {s with heap:=h'}) :
 wpAny M A (noteFrame (.ref a) env) (λ_ s'=>wpAny M A (setFlight (.ref a) none) Q E s') E s:=by
 obtain⟨⟨vs,sl,ea,y⟩,Z,W,G⟩:=F;have X:=(gJ.mp y).1;have P:dx<s.heap.objs.size:=by
  obtain⟨o,_,_,q,_⟩:=Z;exact af q
 unfold noteFrame;simp only[hf]
 cases tb with
 |none=>
  refine aa (aS ea rfl y ?_);rw[if_neg (by decide)];refine Bh O hl hf ea rfl X λh' T Y q1 q2 q3 q4=>h h' T Y ⟨⟨_,sl,q1,by simp[X]⟩,?_,W,λT' z=>?_⟩ (λb o U _ V J=>q3 b o U V J) λb o U _ V=>q4 b o U V
  .obtain⟨o,es,D,r1,r2⟩:=Z;exact⟨o,es,D,q3 dx o W nd r1,r2⟩
  .cases z;refine⟨λz=>?_,λz=>?_,q2⟩
   .rw[z]at Y;exact absurd (af ea) (dM.mpr Y)
   .rw[z]at Y;exact absurd P (dM.mpr Y)
 |some T=>
  obtain⟨t,v,r,ts,K,N,x⟩:=G T rfl;refine aa (aS ea rfl y ?_);rw[if_pos (show((Option.elim (some T) dL dr) != dL)=true by simp)];refine aa (aS K N x ?_);rw[if_neg (show ¬((dL==rawInt L)=true)by simp[rawInt])];refine aa (ci K N (gJ.mp x).1 ?_);obtain⟨h2,B⟩:∃h2,h2=s.heap.update T (fq (·.setIfInBounds 3 dL)):=⟨_,rfl⟩;rw[<-B];have R:∀b,b≠T->h2.get? b=s.heap.get? b:=λb z=>by rw[B];exact am _ _ (dv z)
  have S:h2.objs.size=s.heap.objs.size:=by rw[B];exact bp ..
  have p:T∉frs (env::outer):=λz=>by
   obtain⟨_,o,w,q⟩:=hl.mem z;rw[K]at w
   cases w;exact q ts N
  have H:=hl.of_keeps λb o hb q=>⟨o,(R b λz=>by rw[z,K]at hb;cases hb;exact q ts N).trans hb,rfl⟩
  refine Bh (s:={s with heap:=h2}) O H hf ((R a (dv t)).trans ea) rfl X λh' T' Y q1 q2 q3 q4=>h h' T' (by rwa[<-S]) ⟨⟨_,sl,q1,by simp[X]⟩,?_,W,λn z=>?_⟩
   (λb o U I V J=>q3 b o U V ((R b λz=>I (by rw[z])).trans J)) λb o U I V=>q4 b o U ((R b λz=>I (by rw[z])).trans V)
  .obtain⟨o,es,D,r1,r2⟩:=Z;exact⟨o,es,D,q3 dx o W nd ((R dx (dv v)).trans r1),r2⟩
  .cases z;have Y:s.heap.objs.size<=T':=by rwa[<-S]
   refine⟨λz=>?_,λz=>?_,q2⟩
   .rw[z]at Y;exact absurd (af ea) (dM.mpr Y)
   .rw[z]at Y;exact absurd P (dM.mpr Y)
end
end XC
namespace XC
open L2 My
structure Loose(X:Cx)(pins:List (Addr×Obj))(H:Hp)(b:Addr):Prop where
 new:X.s₀.heap.objs.size<=b
 loc:b≠X.env.locals
 cel:∀x c,X.env.cells.lookup x=some c->c≠b
 pin:∀p∈X.pn++pins,p.1≠b
 out:H b=none
section
variable{X:Cx}{σ:L2.St}{H H':Hp}
def Loose.of(I:Inv X pins σ H s){b:Addr}(hb:s.heap.objs.size<=b)(q:H' b=none):Loose X pins H' b:=by
 refine⟨bf I.sz hb,λz=>?_,λx c e z=>?_,λp Y z=>?_,q⟩
 .rw[z]at hb;exact absurd I.lt (dM.mpr hb)
 .obtain⟨v,o,Z,_⟩:=I.cell x c e;rw[z]at Z;exact absurd (af Z) (dM.mpr hb)
 .have:=(I.pin p Y).1;rw[z]at this;exact absurd (af this) (dM.mpr hb)
def Loose.nofs(I:Inv X pins σ H s){b:Addr}(L:Loose X pins H' b):b∉X.env.locals::X.fs:=λz=>by
 rcases aL.mp z with e|e
 .exact L.loc e
 .obtain⟨_,o,Z,_⟩:=I.ok.funs.mem e;exact absurd (af Z) (dM.mpr L.new)
def Fp{M:fh}{dx:Addr}{f:Str}{u:Value}{tb:Option Addr}{Q:Unit->dk->Prop}(hA:A.frames=X.A.frames)(I:Inv X pins σ H s)(O:X.stack=X.env::X.outer)(hfr:X.env.frame=some X.env.locals)
 (F:Fly s.heap a C dx f u tb) (U:Loose X pins H a) (Ld:Loose X pins H dx) (Lt:∀T,tb=some T->Loose X pins H T)
 (h:∀s' T,Inv X pins σ H s'->Fly s'.heap a C dx f u (some T)->s'.os=s.os->s'.gens=s.gens->Loose X pins H T->Q () s') :
 wpAny M A (noteFrame (.ref a) X.env) (λ_ s'=>wpAny M A (setFlight (.ref a) none) Q E s') E s:=by
 have fl:=I.stack;rw[O]at fl;have fe:frs (X.env::X.outer)=X.env.locals::X.fs:=by unfold frs;rw[jH,hfr];rfl
 refine O8 (hA.trans (I.ok.frames.trans (by rw[O]))) fl hfr F (by rw[fe];exact Ld.nofs I) λh' T N G k1 k2=>?_
 have LT:=Loose.of I N (I.hok.fresh N);refine h _ T ?_ G rfl rfl LT;rw[fe]at k1;have ex:∀b,H b≠none->b≠a/\tb≠some b/\b∉X.env.locals::X.fs:=λb hb=>by
  refine⟨λz=>hb (by rw[z];exact U.out),λz=>hb (Lt b z).out,λz=>hb ?_⟩;exact I.stkFree b (by rwa[O,fe])
 obtain⟨m,⟨o,es,B,P,r⟩,_⟩:=id I.loc;obtain⟨sl,J⟩:=k2 _ o (dv U.loc) (λz=>(Lt _ z).loc rfl) P;refine I.step (g':=s.gens) (d':=s.drawn) (t':=s.toks) (ch:=a::tb.toList) (λb hb=>?_) (λb o V W Z q _=>k1 b o (λz=>Z (by rw[z];exact aJ)) (λz=>Z (aH _ (by rw[z];exact bQ.mpr rfl))) (λz=>(aL.mp z).elim V W) q)
  (λb o V W Z q _=>k2 b o (λz=>Z (by rw[z];exact aJ)) (λz=>Z (aH _ (by rw[z];exact bQ.mpr rfl))) q) (λ_ _ _ _ z=>z)
  (λb o Z q=>let⟨_,w⟩:=k2 b o (λz=>Z (by rw[z];exact aJ)) (λz=>Z (aH _ (by rw[z];exact bQ.mpr rfl))) q;⟨_,w⟩) (λ_ _ e=>e) (λ_ _ _ e=>e) (λ_ _ _ e=>e) (λD hm=>?_) (λb w e=>?_) I.bare
 .rcases aL.mp hb with e|e
  .rw[e];exact⟨.inr U.new,U.loc,U.cel,U.pin⟩
  .cases tb with
   |none=>cases e
   |some T0=>
    have e:b=T0:=by simpa using e
    have:=Lt T0 rfl;rw[e];exact⟨.inr this.new,this.loc,this.cel,this.pin⟩
 .obtain⟨o',S,R,Y,L⟩:=hm;rw[P]at Y;cases Y;exact⟨_,S,R,J,L⟩
 .refine(I.hok b w e).stay (λc v K q=>?_) (λ_ q=>q) λ_ _ q=>q
  obtain⟨V,W,Z⟩:=ex c (by
   rcases K with z|z
   .rw[z,e];simp
   .rw[z];simp)
  exact k1 c v V W Z q
end
end XC
namespace XC
open L2 My
section
variable{prog:dt}{g:Array fg}{d:Drawn}{t:Nat}{os:OsState}
variable{N:Addr}{mN mI:Str->Option Value}{B newId initId:String}
def Two.call{rest:List Value}{Y:Obj}(T:Two h C N I bmB mN mI B newId)(F:ExcBaseFacts B newId initId bmB)(hi:mI "__init__"=none)(hN:mN "__init__"=some (.ref fI))
 (hf:h.get? fI=some Y) (U:Y.cls = .type "function") (O:rest.length<=sizeLine)
 (hq:∀h' e,h.objs.size<=e->Heap.MadeExcOf h h' e (.ref C) rest->wpAny (model prog w) (A.under (.builtin "type.__call__" ⟨.ref C::rest,[]⟩)) (call (.ref fI) (.ref e::rest)) (λr s'=>r = .none/\Q (.ref e) s') E ⟨h',g,d,t,os⟩) :
 wpAny (model prog w) A (call (.ref C) rest) Q E ⟨h,g,d,t,os⟩:=by
 have T0:=T;obtain⟨⟨nm,q,bs,sn,sub,ab,col,dd,k0,k1,k2,k3,k5,hC⟩,hn,⟨V,L,NI,R,W,Z,P,X,S,j0,j1,j2,J,K,nid,H,hm⟩,hb⟩:=T;have g1:=tc_lookup;have g2:=tc_bind (.ref C);refine cb (codeAny_of_tree ?_)
 repeat(any_goals(first
  |assumption
  |with_reducible refine aw hC ?_
  |wp_step))
 refine⟨rfl,?_⟩;refine codeAny_call_builtin_at (Code.quiet_builtin _ (by decide +kernel)) entry_typeCall (wpAny_check_type_call_sub hC (T0.make F hi hN hf U O λh' e M hm=>?_));exact hq h' e M hm
def Ik{M:fh}{x:Sem Value}{Q:Flow->dk->Prop}(hh:A.handled=none)(U:bmB.contains (.type "BaseException")=true)
 (h:wpAny M A x (λv O=>∃e oe,v = .ref e/\Two O.heap C N I bmB mN mI B newId/\O.heap.get? e=some oe/\oe.cls = .ref C/\(∃vs,oe.data = .fields vs/\vs[1]? = some .none)/\E (.ref e) O) E s) :
 wpAny M A (raiseStmt env (some x) none) Q E s:=by
 have J:(dr C :: .ref I::bmB).contains (.type "BaseException")=true:=by
  rw[dU,dU,U,jy,jy]
 refine aa (ar h (λv O q=>?_) λ_ _ z=>z);obtain⟨e,oe,rfl,T,X,L,⟨vs,hd,h1⟩,K⟩:=q;obtain⟨⟨nm,q,bs,sn,sub,ab,col,dd,k0,k1,k2,k3,k5,hC⟩,hn,⟨V,H,NI,R,W,Z,P,Y,S,j0,j1,j2,F,G,nid,y,hm⟩,hb⟩:=T;obtain⟨D,g,d,tk,os⟩:=O
 repeat(first
  | (with_reducible refine aw X ?_;rw[L])
  |with_reducible refine aw hC ?_
  | (with_reducible refine bc hC ?_;rw[J])
  | (with_reducible refine aS X hd h1 ?_)
  |wp_step)
 exact wpAny_raiseNew_none hh K
end
end XC
namespace XC
open L2 My
abbrev bmV:List Value:=[.type "ValueError", .type "Exception", .type "BaseException", .type "object"]
structure Init(K:PySem.W.Frag)(f:Str)(fI:Addr):Prop where
 ex:∃(name qual:Str)(params:Arguments)(scope:eH)(dV kV doc pm cdv ct:Value)(an od:Option Addr)(osl:Array (Option Value))(p1 p2 p3 p4:Pos),
  K.lookup fI=some ⟨.type "function", od,.func (PySem.W.fnOf name qual params [.Assign [.Attribute (.Name "self" p1) f p2] (.Name f p3) p4] scope dV kV doc pm an cdv ct),osl⟩/\PySem.W.codeIn K cdv qual=true /\
  FnScope ["self", f] ["self", f] scope/\scope.names.lookup ("self":Str)=some NameKind.local/\scope.names.lookup f=some NameKind.local /\
  Binds K (PySem.W.fnOf name qual params [.Assign [.Attribute (.Name "self" p1) f p2] (.Name f p3) p4] scope dV kV doc pm an cdv ct) ["self", f] []
 ne:("self":Str)≠f
 nd:(f==("__debug__":Str))=false
 nc:(f==("__classdict__":Str))=false
structure Exc(K:PySem.W.Frag)(mg:Str->Option Value)(cn f:Str)(C I:Addr):Prop where
 mgC:mg cn=some (.ref C)
 kp:PySem.W.keepIn K (.ref C)=true
 hB:typeLookup (.type "ValueError") f=pure none
 ex:∃(N fI:Addr)(mN mI:Str->Option Value),(∀h,K.In h->Two h C N I bmV mN mI "ValueError" "ValueError.__new__")/\mN "__init__"=some (.ref fI)/\mI "__init__"=none/\mN "__setattr__"=none/\mI "__setattr__"=none/\mN f=none/\mI f=none/\Init K f fI
section
variable{X:Cx}{σ:L2.St}{H:Hp}{f:Str}{ta:TE}{k:Nat}
def O9{R:V->Hp->Prop}(Ex:Exc X.K X.mg cn f C I)(hr:Room (k+2) X.A)(hg:Gl X cn)(hdb:(cn==("__debug__":Str))=false)(ha:PE X arg ta)(J:Inv X pins σ H s)(h:ta σ H R)
 (he:starEach [arg] X.env=(false,eval arg X.env)::starEach [] X.env:=by rfl) (O:(backTo pos (starEach [] X.env)).any (·.1)=false:=by rfl) :
 wpAny (model X.prog X.w) X.A (eval (.Call (.Name cn p) [arg] [] pos) X.env) (λr s'=>∃(v:V)(H1:Hp)(a dx:Addr)(u:Value),r = .ref a/\R v H1/\RelV v u/\Inv X pins σ H1 s'/\Fly s'.heap a C dx f u none/\Loose X pins H1 a/\Loose X pins H1 dx) X.xe s:=by
 obtain⟨mgC,kp,hB,N,fI,mN,mI,G,i1,i2,s1,s2,n1,n2,⟨⟨name,qual,params,scope,dV,kV,doc,pm,cdv,ct,an,od,osl,p1,p2,p3,p4,lk,P,S,l1,l2,hb⟩,ne,nd,nc⟩⟩:=Ex;refine ax (uP J hg mgC ?_ hdb);have h':NK ta Te σ H λvs H1=>match vs with
  |[v]=>R v H1
  |_=>False:=h
 refine PySem.W.callWith_K (h₀:=X.base) J.ok.mod.kin kp (thn (d8 ha iU he pos pins s σ H _ J h') λus z ⟨vs,H1,Z,r,q⟩=>⟨Z.kIn,?_⟩) he O;obtain⟨v,u,rfl,rfl,M⟩:∃v u,vs=[v]/\us=[u]/\RelV v u:=by
  cases r with
  |nil=>exact q.elim
  |cons a b=>cases b with
   |nil=>exact⟨_,_,rfl,rfl,a⟩
   |cons _ _=>exact q.elim
 obtain⟨j,g,d,tk,os⟩:=z;refine(G _ Z.kIn).call PySem.F.excBase_ValueError i2 i1 (Z.kIn _ _ lk) rfl (show 1<=sizeLine by decide) λh' e U hm=>?_
 have E:=Z.kept (t':=tk) hm.keeps;obtain⟨t,L,_,_⟩:=hm.there;refine cb (O7 (x:=e) lk P S l1 l2 ne nd nc hb (hr.make C [u] []) (E.env0.make C [u] []) (G _ E.kIn) PySem.F.store_ValueError s1 s2 n1 n2 hB L rfl (λc z=>by cases z) rfl M λh3 Q dx m n o B D=>?_);have k3:=λb l w=>D b l (λy=>by
  rw[y]at w;exact absurd (af w) (dM.mpr U)) (hm.keeps _ _ w)
 have J3:=Z.kept (t':=Q) k3;have Y:j.objs.size<=dx:=by
  have i:=af L;exact bf U (bf (gA i) n)
 exact⟨rfl,v,H1,e,dx,u,rfl,q,M,J3,⟨⟨_,_,m,rfl⟩,B,o,λT y=>by cases y⟩,Loose.of Z U (Z.hok.fresh U),Loose.of Z Y (Z.hok.fresh Y)⟩
end
end XC
variable{fld:Addr->Str}
namespace XC
open L2 My
def CXE(P:dt)(w:dE)(fld:Addr->Str):CXT:=λouter H s E e s'=>∃(a C dx T:Addr)(u:Value)(H':Hp),e = .ref a/\s'.os=s.os/\eW s'.gens/\Un (frs outer) [] H H' s.heap s'.heap/\HOk P w H' s'.heap/\Fly s'.heap a C dx (fld C) u (some T) /\
 s.heap.objs.size<=a/\s.heap.objs.size<=dx/\s.heap.objs.size<=T/\H' a=none/\H' dx=none/\H' T=none/\E u (some C) H'
def CXE.no{outer:List Env}{e:Value}(h:CXE P w fld outer H s E0 e s'):False:=by
 obtain⟨_,_,_,_,_,_,_,_,_,_,_,_,_,_,_,_,_,_,z⟩:=h;exact z
section
variable{fa:Addr}{outer:List Env}{s₀:dk}{H₀:Hp}{E:XK}
variable{σ:L2.St}{H:Hp}
def WW{dx:Addr}{u:Value}{tb:Option Addr}(I:Inv (nq (CXE P w fld) P w K mg base N qual scope fa cdv A outer s₀ H₀ E) pins σ H s)(F:Fly s.heap a C dx (fld C) u tb)
 (U:Loose (nq (CXE P w fld) P w K mg base N qual scope fa cdv A outer s₀ H₀ E) pins H a) (O:Loose (nq (CXE P w fld) P w K mg base N qual scope fa cdv A outer s₀ H₀ E) pins H dx)
 (Y:∀T,tb=some T->Loose (nq (CXE P w fld) P w K mg base N qual scope fa cdv A outer s₀ H₀ E) pins H T) (q:E u (some C) H):(nq (CXE P w fld) P w K mg base N qual scope fa cdv A outer s₀ H₀ E).xe (.ref a) s:=by
 show wpAny _ _ (leaving _ (.ref a)) _ _ s;refine aa (Fp rfl I rfl rfl F U O Y λs' T Z X V W LT=>?_);exact⟨a,C,dx,T,u,H,rfl,Z.os,Z.bare,Z.base,Z.hok,X,U.new,O.new,LT.new,U.out,O.out,LT.out,q⟩
end
section
variable{X:Cx}{σ:L2.St}{H:Hp}{f:Str}{ta:TE}{k:Nat}
def O_{Q:Flow->dk->Prop}{R:V->Hp->Prop}(Ex:Exc X.K X.mg cn f C I)(Y:Room (k+2) X.A)(hg:Gl X cn)(U:(cn==("__debug__":Str))=false)(ha:PE X arg ta)(J:Inv X pins σ H s)(h:ta σ H R)
 (hx:∀(v:V)(H1:Hp)(a dx:Addr)(u:Value)(s':dk),R v H1->RelV v u->Inv X pins σ H1 s'->Fly s'.heap a C dx f u none->Loose X pins H1 a->Loose X pins H1 dx->X.xe (.ref a) s')
 (he:starEach [arg] X.env=(false,eval arg X.env)::starEach [] X.env:=by rfl) (O:(backTo pos (starEach [] X.env)).any (·.1)=false:=by rfl) :
 wpAny (model X.prog X.w) X.A (exec (.Raise (some (.Call (.Name cn p) [arg] [] pos)) none rpos) X.env) Q X.xe s:=by
 have Z:=Ex;obtain⟨mgC,kp,hB,N,fI,mN,mI,M,i1,i2,s1,s2,n1,n2,_⟩:=Ex;rw[arm_exec_Raise];simp only[evalOpt,Option.map];refine aa (cm (Ik (C:=C) (N:=N) (I:=I) (bmB:=bmV) (mN:=mN) (mI:=mI) (B := "ValueError") (newId := "ValueError.__new__") Y.hd (by decide) ?_));refine aa (ar (O9 Z Y hg U ha J h he O) (λr s' q=>?_) λ_ _ z=>z);obtain⟨v,H1,a,dx,u,rfl,q,T,W,F,G,L⟩:=q;refine aa (cm (ag ?_));obtain⟨vs,sl,P,S⟩:=F.obj;exact⟨a,_,rfl,M _ W.kIn,P,rfl,⟨vs,rfl,S⟩,hx v H1 a dx u s' q T W F G L⟩
end
end XC
namespace XC
open L2 My
section
variable{M:fh}{g:Array fg}{d:Drawn}{t:Nat}{os:OsState}
variable{N:Addr}{mN mI:Str->Option Value}{B newId:String}{oe:Obj}
def Two.match_up{Q:Bool->dk->Prop}(T:Two h C N I bmB mN mI B newId)(he:h.get? a=some oe)(hc:oe.cls = .ref C)(O:bmB.contains (.type "BaseException")=true)(hq:Q true ⟨h,g,d,t,os⟩):
 wpAny M A (excMatches (.ref a) (.ref I)) Q E ⟨h,g,d,t,os⟩:=by
 obtain⟨⟨nm,q,bs,sn,sub,ab,col,dd,k0,k1,k2,k3,k5,hC⟩,hn,⟨V,K,NI,S,W,Z,R,Y,U,j0,j1,j2,H,J,nid,X,hm⟩,hb⟩:=T;have L:(dr I::bmB).contains (.type "BaseException")=true:=by rw[dU,O,jy]
 have P:(dr C :: .ref I::bmB).contains (.ref I)=true:=by simp
 have f:=tc_notTuple
 repeat(first
  | (with_reducible refine aw he ?_;rw[hc])
  |with_reducible refine aw X ?_
  |with_reducible refine aw hC ?_
  | (with_reducible refine bc X ?_;rw[L])
  | (with_reducible refine bc hC ?_;rw[P])
  |wp_step)
 exact hq
def Two.match_self{Q:Bool->dk->Prop}(T:Two h C N I bmB mN mI B newId)(Y:h.get? a=some oe)(Z:oe.cls = .ref C)(O:bmB.contains (.type "BaseException")=true)(U:Q true ⟨h,g,d,t,os⟩):
 wpAny M A (excMatches (.ref a) (.ref C)) Q E ⟨h,g,d,t,os⟩:=by
 obtain⟨⟨nm,q,bs,sn,sub,ab,col,dd,k0,k1,k2,k3,k5,hC⟩,hn,_,hb⟩:=T;exact wpAny_excMatches_sub_self hC Y Z (by rw[dU,O,jy]) U
end
end XC
variable{T0:String}
namespace XC
open L2 My
section
variable{prog:dt}{g:Array fg}{d:Drawn}{t:Nat}{os:OsState}
variable{N D:Addr}{mN mI:Str->Option Value}{B newId:String}{oe oD:Obj}
def Two.isi_blt(T:Two h C N I bmB mN mI B newId)(Y:h.get? a=some oe)(Z:oe.cls = .ref C)(O:typeOf (.type T0)=pure (.type "type"))(hb:(dr C :: .ref I::bmB).contains (.type T0)=true)(U:Q (.bool true) ⟨h,g,d,t,os⟩):
 wpAny (model prog w) A (PySem.call (.builtin "isinstance") [.ref a,.type T0]) Q E ⟨h,g,d,t,os⟩:=by
 obtain⟨⟨nm,q,bs,sn,sub,ab,col,dd,k0,k1,k2,k3,k5,hC⟩,_⟩:=T;refine call_isinstance_of ?_ (by intro e;cases e);unfold eK.«isinstance.nested»
 repeat(first
  | (with_reducible refine aw Y ?_;rw[Z])
  | (with_reducible refine bc hC ?_;rw[hb])
  |wp_step)
 exact U
end
end XC
namespace XC
open L2 My
noncomputable def dN(X:Cx)(a:Addr)(oa:Obj)(dx:Addr)(od:Obj):Cx:={X with A:=X.A.mark (some (.ref a)),calm:=false,pn:=X.pn++[(a,oa),(dx,od)],xe:=λ_ _=>False}
section
variable{X:Cx}{σ:L2.St}{H:Hp}{dx:Addr}{f:Str}{u:Value}{tb:Option Addr}
def Mg(I:Inv X pins σ H s)(F:Fly s.heap a C dx f u tb)(O:Loose X pins H a)(q:Loose X pins H dx):∃oa od,s.heap.get? a=some oa/\s.heap.get? dx=some od/\Inv (dN X a oa dx od) pins σ H s:=by
 obtain⟨vs,sl,W,_⟩:=F.obj;obtain⟨od,es,U,Y,V,_⟩:=F.dic;refine⟨_,od,W,Y,⟨⟨I.ok.mod,I.ok.kind,I.ok.glob,I.ok.blt,I.ok.above,I.ok.inj,I.ok.has,I.ok.cab,λz=>(by cases z),I.ok.frames,I.ok.stk,I.ok.exf,I.ok.bs,I.ok.bsz,I.ok.noex,I.ok.exfs,I.ok.funs,I.ok.frf⟩,I.os,I.bare,I.base,I.loc,I.cell,I.free,I.freeC,λp Z=>?_,I.hok,I.len⟩⟩;have Z:=Z;rcases bT.mp Z with Z|Z
 .rcases bT.mp Z with Z|Z
  .exact I.pin p (bH _ Z)
  .rcases aL.mp Z with rfl|Z
   .exact⟨W,O.out,O.loc,λz=>O.nofs I (aH _ z),λv z=>by cases z⟩
   .rw[bQ.mp Z];exact⟨Y,q.out,q.loc,λz=>q.nofs I (aH _ z),λv z=>by rw[V]at z;cases z⟩
 .exact I.pin p (aU _ Z)
def uV{σ':L2.St}{od:Obj}(ok:X.Ok)(I:Inv (dN X a oa dx od) pins σ' H' s'):Inv X pins σ' H' s':=by
 refine⟨ok,I.os,I.bare,I.base,I.loc,I.cell,I.free,I.freeC,λp Z=>?_,I.hok,I.len⟩;rcases bT.mp Z with Z|Z
 .exact I.pin p (bH _ (bH _ Z))
 .exact I.pin p (aU _ Z)
end
end XC
namespace XC
open L2 My
section
variable{X:Cx}{σ:L2.St}{H:Hp}{dx T:Addr}{f:Str}{u:Value}
def Il{M:fh}{Q:Unit->dk->Prop}(I:Inv X pins σ H s)(F:Fly s.heap a C dx f u (some T))(hn:H T=none)(hL:T≠X.env.locals)(h1:X.s₀.heap.objs.size<=T)(h2:∀x c,X.env.cells.lookup x=some c->c≠T)(h3:∀p∈X.pn++pins,p.1≠T)
 (h:∀s',Inv X pins σ H s'->Fly s'.heap a C dx f u (some T)->Q () s'):wpAny M A (setFlight (.ref a) none) Q E s:=by
 obtain⟨⟨vs,sl,ea,O⟩,Z,W,V⟩:=F;obtain⟨K,L,G,ts,P,R,S⟩:=V T rfl;refine aa (aS ea rfl O ?_);rw[if_pos (show((Option.elim (some T) dL dr) != dL)=true by simp)];refine ci P R (gJ.mp S).1 ?_;obtain⟨h',U⟩:∃h',h'=s.heap.update T (fq (·.setIfInBounds 3 ((none:Option Addr).elim dL λf=>rawInt f))):=⟨_,rfl⟩;rw[<-U];have Y:∀b,b≠T->h'.get? b=s.heap.get? b:=λb z=>by rw[U];exact am _ _ (dv z)
 have N:=ce R (·.setIfInBounds 3 ((none:Option Addr).elim dL λf=>rawInt f));have J:h'.get? T=some (G.mapFields (·.setIfInBounds 3 ((none:Option Addr).elim dL λf=>rawInt f))):=by
  rw[U];exact av _ P (bz N)
 have B:Inv X pins σ H {s with heap:=h',toks:=s.toks}:=Inv.turned (t':=s.toks) I (λb o z q=>(Y b z).trans q) hn hL (.inr h1) h2 h3;refine h _ B ⟨⟨vs,sl,(Y a (dv K)).trans ea,O⟩,?_,W,λT' z=>?_⟩
 .obtain⟨o,es,D,r1,r2⟩:=Z;exact⟨o,es,D,(Y dx (dv L)).trans r1,r2⟩
 .cases z;refine⟨K,L,_,_,J,N,?_⟩;have:=(gJ.mp S).1;simp[this]
end
end XC
namespace XC
open L2 My
section
variable{X:Cx}{σ:L2.St}{H:Hp}{I0 dx T D:Addr}{f n:Str}{u:Value}{i:Nat}{np:Pos}
def name_goes{M:fh}{Q:Unit->dk->Prop}(I:Inv X pins σ H s)(hl:X.env.scope.names.lookup n=some .local)
 (h:∀s',Inv X pins (bK σ.length none) H s'->Q () s'):wpAny M A (do bindName X.env n .none;unbindBehindTheSuite X.env n hpos) Q E s:=by
 obtain⟨m,hn,_⟩:=id I.loc;have cls:(X.env.scope.kind == .class||(X.env.scope.kind == .module&&X.env.locals != X.env.globals))=false:=by rw[I.ok.kind];rfl
 refine wpAny_nameGoes hl hn cls λh' O T V=>h _ ?_
 have Y:∀b o,X.s₀.heap.get? b=some o->b≠X.env.locals:=λb o e z=>by
  rw[z]at e;exact absurd (af e) (dM.mpr I.ok.above)
 refine⟨I.ok,I.os,I.bare,⟨λb o e Z W U=>(V.2 b (Y b o e)).trans (I.base.keep b o e Z W U),λb o e Z W U=>?_,I.base.free,λb o e Z=>?_,I.base.tups,I.base.frzs,I.base.tbls⟩,⟨O,T,λj y v K S _=>?_⟩,λy c e=>?_,I.free,I.freeC,λp N=>?_,λb P e=>?_,by rw[bL];exact I.len⟩
 .obtain⟨sl,w⟩:=I.base.slot b o e Z W U;exact⟨sl,(V.2 b (Y b o e)).trans w⟩
 .obtain⟨o',w⟩:=I.base.there b o e Z;exact⟨o',(V.2 b (Y b o e)).trans w⟩
 .rw[cX]at S;split at S<;>cases S
 .obtain⟨w,z⟩:=I.cell y c e;exact⟨w,z.sameBut V (I.cne y c e)⟩
 .obtain⟨e,Z,W,U,R⟩:=I.pin p N;exact⟨(V.2 p.1 W).trans e,Z,W,U,R⟩
 .refine(I.hok b P e).stay (λc w L q=>(V.2 c λz=>?_).trans q) (λ_ q=>q) λ_ _ q=>q
  rcases L with y|y
  .rw[<-y,z,I.free]at e;cases e
  .rw[z,I.free]at y;cases y
end
end XC
namespace XC
open L2 My
def XP(fld:Addr->Str)(X:Cx)(pins:List (Addr×Obj))(σ:L2.St)(EX:XK)(e:Value)(s':dk):Prop:=∃(a C dx T:Addr)(u:Value)(H':Hp),e = .ref a/\Inv X pins σ H' s'/\Fly s'.heap a C dx (fld C) u (some T)/\Loose X pins H' a/\Loose X pins H' dx/\Loose X pins H' T/\EX u (some C) H'
section
variable{X:Cx}{σ:L2.St}{H:Hp}{k:Nat}{f:Addr}{sp:Sp}{ds:List Value}{EX:XK}
theorem Ur{Q:VK}(F:FnOk X.prog X.w X.K X.mg X.base (CXE X.prog X.w fld) k f fd ps sp)(O:Room k X.A)(hb:Binds X.K fd ps ds)(hd:Vals dvs ds)(J:Inv X pins σ H s)(r:Vals vs us)(h:sp (vs++dvs) H Q EX):
 wpAny (model X.prog X.w) X.A (PySem.call (.ref f) us) (EP X pins σ Q) (XP fld X pins σ EX) s:=by
 have Z:=r.append hd;have S:(us++ds).length=ps.length:=by
  rw[<-Z.length];exact F.len _ _ _ _ h
 refine cb (b8 (F.run X.A X.stack s H ⟨us,[]⟩ (us++ds) (vs++dvs) Q EX O J.env0 (hb s us J.kIn S) Z h) λW s' q=>?_)
 cases W with
 |error e=>
  obtain⟨a,C,dx,T,u,H',rfl,os,bare,un,hok,Fl,ha,Y,R,V,nd,U,q⟩:=q;exact⟨a,C,dx,T,u,H',rfl,Inv.call' (ch:=[]) J os un hok bare (λb z=>absurd z (by simp)),Fl,Loose.of J ha V,Loose.of J Y nd,Loose.of J R U,q⟩
 |ok fl=>
  cases fl with
  |ret u=>exact J.after q
  |next=>exact q.elim
  |brk=>exact q.elim
  |cont=>exact q.elim
def PSE(fld:Addr->Str)(X:Cx)(st:Stmt)(t:Ends->XK->L2.St->Hp->Prop):Prop:=
 ∀(pins:List (Addr×Obj))(s:dk)(σ:L2.St)(H:Hp)(D:Ends)(EX:XK),Inv X pins σ H s->t D EX σ H->wpAny (model X.prog X.w) X.A (exec st X.env) (SP X pins D) (XP fld X pins σ EX) s
section
variable{ta:TA}
end
end
end XC
namespace D3
inductive Or where
 |o (x:Oc)
 |ex (c:Str) (v:D)
abbrev FX:=DS->Option Or
def xOf(f:FS):FX:=λδ=>(f δ).bind λo=>some (.o o)
def vg(f g:FX):FX:=λδ=>(f δ).bind λo=>match o with
 | .o (.nx δ')=>g δ'
 |o=>some o
def xIf(c:FT)(f g:FX):FX:=λδ=>(c δ).bind λb=>if b=true then f δ else g δ
end D3
namespace XC
open L2 My D3
section
variable{X:Cx}{E:XK}{fl:List Fl}{c:Expr}{fs:FS}{f g:FX}
theorem PS.nox{t:TS}(h:PS X.nox st t):PS X st t:=λpins s σ H D I hw=>by
 refine ar (h pins s σ H D (I.wish _) hw) (λfl s' q=>?_) λ_ _ z=>z.elim
 cases fl with
 |next=>obtain⟨σ',H',J,q⟩:=q;exact⟨σ',H',J.wish _,q⟩
 |ret u=>obtain⟨v,σ',H',J,r,q⟩:=q;exact⟨v,σ',H',J.wish _,r,q⟩
 |brk=>obtain⟨σ',H',J,q⟩:=q;exact⟨σ',H',J.wish _,q⟩
 |cont=>obtain⟨σ',H',J,q⟩:=q;exact⟨σ',H',J.wish _,q⟩
end
structure ExcF(K:PySem.W.Frag)(mg:Str->Option Value)(fld:Addr->Str)(cn f:Str):Prop where
 ex:∃C I,Exc K mg cn f C I/\fld C=f
section
variable{fa:Addr}{outer:List Env}{s₀:dk}{H₀:Hp}{E:XK}
variable{fl:List Fl}{f:Str}{k:Nat}
end
structure HasX(P:dt)(w:dE)(K:PySem.W.Frag)(mg:Str->Option Value)(base:ec)(fld:Addr->Str)(n:Nat)(x:Str)(ps:List Str)(sp:Sp)(dvs:List V):Prop where
 ex:∃(f:Addr)(fd:d4)(ds:List Value),FnOk P w K mg base (CXE P w fld) n f fd ps sp/\Binds K fd ps ds/\Vals dvs ds/\PySem.W.keepIn K (.ref f)=true/\mg x=some (.ref f)
section
variable{k:Nat}{f:FX}{fl:List Fl}{sp:Sp}
end
end XC
namespace XC
open L2 My D3
section
variable{X:Cx}{I0 dx D:Addr}{f n:Str}{od:Obj}{i:Nat}{cond a1 b1:Expr}{p1 np:Pos}
def tE(i:Nat)(a:Addr):TE:=λσ H Q=>σ[i]? = some (some (.ref a))/\Q (.bl true) H
abbrev IsE(S:Cx)(i:Nat)(a:Addr)(cond:Expr):Prop:=PE S cond (tE i a)
def Pa(Ex:Exc X.K X.mg cn f C I0)(O:typeOf (.type T0)=pure (.type "type"))(hb:bmV.contains (.type T0)=true)(U:oa.cls = .ref C):lB (dN X a oa dx od) (.builtin "isinstance") (λxs H Q=>xs=[.ref a,.ty T0]/\Q (.bl true) H):=by
 intro pins s σ H xs us Q I r h;obtain⟨rfl,q⟩:=h;obtain⟨Y,Z,rfl,r1,r2⟩:∃Y Z,us=[Y,Z]/\RelV (.ref a) Y/\RelV (.ty T0) Z:=by
  cases r with
  |cons r1 r=>cases r with
   |cons r2 r=>cases r;exact⟨_,_,rfl,r1,r2⟩
 cases r1;cases r2;obtain⟨mgC,kp,hB,N,fI,mN,mI,S,_⟩:=Ex;have T:=S _ I.kIn;have ha:=(I.pin (a,oa) (bH _ (aU _ aJ))).1;obtain⟨V,g,d,tk,os⟩:=s;have W:EP (dN X a oa dx od) pins σ Q (.bool true) ⟨V,g,d,tk,os⟩:=⟨.bl true,H,I,rfl,q⟩;refine T.isi_blt ha U O ?_ W;rw[dU,dU,hb];simp
def Us(Ex:Exc X.K X.mg cn f C I0)(q:typeOf (.type T0)=pure (.type "type"))(hb:bmV.contains (.type T0)=true)(O:oa.cls = .ref C)(Z:X.mg ic=none)(hbo:bootBuiltins ic=some (.type T0))(hgi:Gl X "isinstance")(Y:X.mg "isinstance"=none)(hg:Gl X ic)(hi:X.N[i]? = some n)(hv:Vis X.env.scope n)
 (U:ic≠"__name__" := by decide) (hdb:(ic==("__debug__":Str))=false:=by decide) (hdn:(n==("__debug__":Str))=false:=by decide) (hcn:(n==("__classdict__":Str))=false:=by decide) :
 IsE (dN X a oa dx od) i a (.Call (.Name "isinstance" p) [.Name n p1,.Name ic p2] [] pos):=
 PE.imp (rA (X:=dN X a oa dx od) (Pa Ex q hb O) hgi Y c9 (d8 (iT (X:=dN X a oa dx od) hi hv hdn hcn) (d8 (Jy (X:=dN X a oa dx od) (v:=.ty T0) hg Z hbo rfl U hdb) iU (by exact dY rfl)) (by exact dY rfl)) (by decide) (by decide) (by exact dY rfl) (by exact qH rfl)) λσ H Q h=>by
  exact⟨_,h.1,rfl,h.2⟩
end
end XC
namespace XC
open L2 My D3
section
variable{X:Cx}{fl:List Fl}{i:Nat}{F:List D->Option Or}{cond:Expr}{fa:FA}{np:Pos}
end
end XC
variable{es:Array DictEntry}
namespace XC
open L2 My D3
def Ut(es:Array DictEntry):Bool:=es.toList.all λe=>match e.key with | .str _ _=>true|_=>false
theorem Uu(h:Ut es=true):StrKeys es:=λe Z=>by
 have:=fG.mp h e (qW.mpr Z)
 cases q:e.key with
 |str n t=>exact⟨n,t,rfl⟩
 |_=>rw[q]at this;cases this
def WX{N:Addr}{c:Value}{d:Option Addr}(l:K.lookup N=some ⟨c,d,.dict es n,sl⟩)(ok:Ut es=true)(h:ec)(X:K.In h):h.Ns N (nsFind es):=
 ⟨_,es,n,X _ _ l,rfl,Uu ok,λ_=>rfl⟩
def sV{N:Addr}{c:Value}{d:Option Addr}{r:Option Value}(l:K.lookup N=some ⟨c,d,.dict es n,sl⟩)(e:PySem.W.nsIn K N x=some r):nsFind es x=r:=by
 unfold PySem.W.nsIn at e;rw[l]at e;dsimp only at e;unfold nsFind findBy;rw[<-tU];split at e
 .next en Z=>
  cases e;rw[Z];rfl
 .next Z=>
  rw[Z];split at e
  .cases e
  .cases e;rfl
def zc{f:Str}{N NI:Addr}(X:K.In h)(G:h.Ns mainGlobals mg)
 {nm q:Str} {bs:List Value} {sn:List Str} {sub:List Value} {ab:Bool} {col:Option Bool} {dd:Option Addr} {k0 k1 k2 k3 k5:Option Value}
 {nm' q':Str} {bs':List Value} {sn':List Str} {Y:List Value} {ab':Bool} {Z:Option Bool} {dd':Option Addr} {j0 j1 j2 j3 j5:Option Value} {nid:String}
 {c c':Value} {d d':Option Addr} {es U:Array DictEntry} {n n':Nat} {sl sl':Array (Option Value)}
 {name qual:Str} {params:Arguments} {scope:eH} {dV kV doc pm cdv ct:Value} {an od:Option Addr} {osl:Array (Option Value)} {p1 p2 p3 p4:Pos}
 (a:PySem.W.nsIn K mainGlobals cn=some (some (.ref C))) (kp:PySem.W.keepIn K (.ref C)=true)
 (lC:K.lookup C=some (excClassObj nm q C N bs (.ref I::bmV) true sn sub ab col dd k0 k1 k2 k3 k5 "ValueError.__new__"))
 (lI:K.lookup I=some (excClassObj nm' q' I NI bs' bmV true sn' Y ab' Z dd' j0 j1 j2 j3 j5 nid))
 (lN:K.lookup N=some ⟨c,d,.dict es n,sl⟩) (oN:Ut es=true) (O:K.lookup NI=some ⟨c',d',.dict U n',sl'⟩) (oNI:Ut U=true)
 (i1:PySem.W.nsIn K N "__init__"=some (some (.ref fI))) (i2:PySem.W.nsIn K NI "__init__"=some none) (s1:PySem.W.nsIn K N "__setattr__"=some none) (s2:PySem.W.nsIn K NI "__setattr__"=some none)
 (n1:PySem.W.nsIn K N f=some none) (n2:PySem.W.nsIn K NI f=some none) (hB:typeLookup (.type "ValueError") f=pure none)
 (lk:K.lookup fI=some ⟨.type "function", od,.func (PySem.W.fnOf name qual params [.Assign [.Attribute (.Name "self" p1) f p2] (.Name f p3) p4] scope dV kV doc pm an cdv ct),osl⟩) (hcd:PySem.W.codeIn K cdv qual=true)
 (S:FnScope ["self", f] ["self", f] scope) (l1:scope.names.lookup ("self":Str)=some NameKind.local) (l2:scope.names.lookup f=some NameKind.local)
 (hb:∀u v,bindArgs (PySem.W.fnOf name qual params [.Assign [.Attribute (.Name "self" p1) f p2] (.Name f p3) p4] scope dV kV doc pm an cdv ct) ⟨[u,v],[]⟩=pure [(("self":Str),u),(f,v)])
 (ne:("self":Str)≠f) (nd:(f==("__debug__":Str))=false) (nc:(f==("__classdict__":Str))=false):Exc K mg cn f C I:=
 ⟨PySem.W.mg_of X G a,kp,hB,N,fI,nsFind es,nsFind U,λh X=>⟨⟨_,_,_,_,_,_,_,_,_,_,_,_,_,X _ _ lC⟩,WX lN oN h X,⟨_,_,_,_,_,_,_,_,_,_,_,_,_,_,_,X _ _ lI,WX O oNI h X⟩,by rfl⟩,sV lN i1,sV O i2,sV lN s1,sV O s2,sV lN n1,sV O n2,
  ⟨⟨name,qual,params,scope,dV,kV,doc,pm,cdv,ct,an,od,osl,p1,p2,p3,p4,lk,hcd,S,l1,l2,.all λus V=>match us,V with|[u,v],_=>hb u v⟩,ne,nd,nc⟩⟩
end XC
namespace XC
open L2 My D3
structure ExcG(K:PySem.W.Frag)(mg:Str->Option Value)(fld:Addr->Str)(cn f ic:Str):Prop where
 ex:∃C I,Exc K mg cn f C I/\fld C=f/\mg ic=some (.ref I)
def ExcG.fly{f:Str}(h:ExcG K mg fld cn f ic):ExcF K mg fld cn f:=by
 obtain⟨C,I,E,Z,_⟩:=h.ex;exact⟨C,I,E,Z⟩
section
variable{X:Cx}{c f:Str}{i:Nat}{cond:Expr}
end
end XC
namespace XC
open L2 My
structure FlyN(h:ec)(a C dx:Addr)(f:Str)(u:Value)(T L:Addr):Prop where
 obj:∃vs sl,h.get? a=some ⟨.ref C,some dx,.fields vs,sl⟩/\vs[1]? = some (.ref T)
 dic:h.Ns1 dx (λy=>if y=f then some u else none)
 ne:dx≠a
 hd:T≠a/\T≠dx/\∃oT ts,h.get? T=some oT/\oT.data = .fields ts/\ts[3]? = some (rawInt L)
section
variable{M:fh}
end
end XC
namespace XC
open L2 My
section
variable{X:Cx}{σ:L2.St}{H H':Hp}
end
section
variable{fa:Addr}{outer:List Env}{s₀:dk}{H₀:Hp}{E:XK}
end
end XC
namespace XC
open L2 My D3
section
variable{X:Cx}{E:XK}{fl:List Fl}{fx:FX}
end
section
variable{fa:Addr}{outer:List Env}{s₀:dk}{H₀:Hp}{E:XK}
variable{fl:List Fl}{f:Str}{k:Nat}
end
section
variable{k:Nat}{f:FX}{fl:List Fl}{sp:Sp}
end
end XC
namespace XC
open L2 My D3
section
variable{fa:Addr}{outer:List Env}{s₀:dk}{H₀:Hp}{E:XK}
variable{fl:List Fl}{F:List D->Option Or}{es:List Expr}{fs:FA}
end
end XC
namespace XC
open L2 My D3
section
variable{X:Cx}{σ:L2.St}{H:Hp}{k:Nat}{f:Addr}{sp:Sp}{ds:List Value}{EX:XK}
variable{y:Str}{np:Pos}{es:List Expr}{ta:TA}{i:Nat}
end
end XC
namespace XC
open L2 My D3
section
variable{X:Cx}{fl:List Fl}{i:Nat}{y:Str}{F:List D->Option Or}{es:List Expr}{fa:FA}{yp np:Pos}{fS:Str->D->DS->Option D}
end
end XC
namespace XC
open L2 My D3
structure RoomQ(k:Nat)(A:dy):Prop where
 dp:A.depth+3*k+5<recursionLimit
 un:A.units+16*k+200<cLine
structure FnOkP(P:dt)(w:dE)(K:PySem.W.Frag)(mg:Str->Option Value)(base:ec)(Pre:dy->List Env->dk->Hp->Prop)(k:Nat)(f:Addr)(fd:d4)(ps:List Str)(sp:Sp):Prop where
 len:∀vs H Q E,sp vs H Q E->vs.length=ps.length
 run:∀(A:dy)(outer:List Env)(s:dk)(H:Hp)(args:Args)(us:List Value)(vs:List V)(Q:VK)(E:XK),RoomQ k A->Env0 P w K mg base A outer s H->BindsTo s fd args (ps.zip us)->Vals vs us->Pre A outer s H->sp vs H Q E ->
  codeAny (model P w) A (.call (.ref f) args) (CR CX0 outer P w H s Q E) s
abbrev ae1(P:dt)(w:dE)(K:PySem.W.Frag)(mg:Str->Option Value)(base:ec)(k:Nat)(f:Addr)(fd:d4)(ps:List Str)(sp:Sp):Prop:=FnOkP P w K mg base (λ_ _ _ _=>True) k f fd ps sp
section
variable{X:Cx}{σ:L2.St}{H:Hp}{k:Nat}{f:Addr}{sp:Sp}
end
end XC
namespace XC
open L2 My D3
structure HasQ(P:dt)(w:dE)(K:PySem.W.Frag)(mg:Str->Option Value)(base:ec)(n:Nat)(x:Str)(ps:List Str)(sp:Sp):Prop where
 ex:∃(f:Addr)(fd:d4),ae1 P w K mg base n f fd ps sp/\Binds K fd ps []/\PySem.W.keepIn K (.ref f)=true/\mg x=some (.ref f)
section
variable{k:Nat}{fs:FS}{fl:List Fl}
end
section
variable{X:Cx}{fl:List Fl}{es:List Expr}{t:TA}{fa:FA}{sp:Sp}{F:List D->Option D}
end
end XC
namespace XC
open L2 My D3
structure ExA(K:PySem.W.Frag)(C:Addr):Prop where
 ga:PySem.W.findIn K (.ref C) "__getattribute__"=some (some (.builtin "BaseException.__getattribute__"))
 gh:PySem.W.findIn K (.ref C) "__getattr__"=some none
 hb:PySem.W.mroIn K C (.type "BaseException")=some true
section
variable{prog:dt}{x:Addr}{ox:Obj}{od:Option Obj}{name:Str}{v:Value}
def Mh{M:fh}{q:Value}{Q:Unit->dk->Prop}(N:ExA K C)(X:K.In s.heap)(I:PySem.W.InstAt s.heap x ox C od)(O:Q () s):wpAny M A (checkBuiltinCall "BaseException.__getattribute__" ⟨[.ref x,q],[]⟩) Q E s:=by
 have Y:builtinKind "BaseException.__getattribute__"=some .slot:=by decide +kernel
 have Z:splitId "BaseException.__getattribute__"=some ("BaseException", "__getattribute__"):=by decide +kernel
 obtain⟨hh,g,d,t,os⟩:=s;have U:=I.type (M:=M);have V:=PySem.W.looks_mroIn (M:=M) X N.hb;simp only[checkBuiltinCall,Y,Z];refine aa ?_
 repeat(first|(with_reducible refine U.at ?_)|(with_reducible refine V.at ?_)|wp_step)
 exact O
def Uv{Q:Fin->dk->Prop}(X:K.In s.heap)(I:PySem.W.InstAt s.heap x ox C od)(O:PySem.W.findObj K C od name=some (.value v))(q:Q (.done (.ret v)) s):
 wpAny (model prog w) A (eK.«object.__getattribute__» ⟨[.ref x,.str name tk],[]⟩) Q E s:=by
 obtain⟨hh,g,d,t,os⟩:=s;have Y:=I.type (M:=model prog w);have Z:=PySem.W.looks_find (M:=model prog w) X I O;unfold eK.«object.__getattribute__»;refine aa ?_;refine ag ?_;refine aa (ag (aa (Y.at (aa (Z.at ?_)))));exact ag q
def Uw{Q:Fin->dk->Prop}(X:K.In s.heap)(I:PySem.W.InstAt s.heap x ox C od)(hm:PySem.W.mroIn K C (.type "object")=some true)
 (O:PySem.W.findObj K C od name=some (.bind (.builtin "getset_descriptor.__get__") (.builtin "object.__class__"))) (q:Q (.done (.ret (.ref C))) s) :
 wpAny (model prog w) A (eK.«object.__getattribute__» ⟨[.ref x,.str name tk],[]⟩) Q E s:=by
 obtain⟨hh,g,d,t,os⟩:=s;have Y:=I.type (M:=model prog w);have Z:=PySem.W.looks_find (M:=model prog w) X I O;unfold eK.«object.__getattribute__»;refine aa ?_;refine ag ?_;refine aa (ag (aa (Y.at (aa (Z.at ?_)))));refine aa (aI (cb (PySem.W.class_get (s:=⟨hh,g,d,t,os⟩) (ox:=ox) (od:=od) X I hm ?_)));exact ag q
def Pb{q:Value}{fill:Bool}(N:ExA K C)(X:K.In s.heap)(I:PySem.W.InstAt s.heap x ox C od)(hh:PySem.W.handedIn v=true)
 (U:∀{A:dy}{E:Value->dk->Prop}{Q:Fin->dk->Prop},Q (.done (.ret v)) s->wpAny (model prog w) A (eK.«object.__getattribute__» ⟨[.ref x,q],[]⟩) Q E s) (O:Q v s) :
 wpAny (model prog w) A (getAttrBy (.ref x) q fill expr) Q E s:=by
 obtain⟨V,g,d,t,os⟩:=s;have S:=I.type (M:=model prog w);have T:=PySem.W.looks_findIn (M:=model prog w) X N.ga;have L2:=PySem.W.looks_findIn (M:=model prog w) X N.gh;have R:=PySem.F.attr_ValueError.ga.bind (.ref x);have Y:(expr&&onTheHeap (fm "BaseException.__getattribute__"))=false:=by cases expr<;>rfl
 have Z:(fm "BaseException.__getattribute__"==fm "object.__getattribute__")=false:=by decide +kernel
 repeat(any_goals(first|assumption|(with_reducible refine S.at ?_)|(with_reducible refine T.at ?_)|(with_reducible refine L2.at ?_)|wp_step))
 refine codeAny_call_builtin PySem.F.attr_ValueError.ga.plain PySem.F.entry_bexc_ga (Mh (s:=⟨V,g,d,t,os⟩) N X I (U ?_))
 repeat(any_goals(first|assumption|(with_reducible exact PySem.W.handed_on hh O)|wp_step))
def Pg(N:ExA K C)(X:K.In s.heap)(I:PySem.W.InstAt s.heap x ox C od)(O:PySem.W.findObj K C od name=some (.value v))(hh:PySem.W.handedIn v=true)(q:Q v {s with toks:=s.toks+1}):
 wpAny (model prog w) A (getAttr (.ref x) name expr) Q E s:=by
 obtain⟨Z,g,d,t,os⟩:=s;refine aa (wpAny_mkText ?_);exact Pb (s:=⟨Z,g,d,t+1,os⟩) N X I hh (λz=>Uv (s:=⟨Z,g,d,t+1,os⟩) X I O z) q
def Mi{Q:Option Value->dk->Prop}(N:ExA K C)(X:K.In s.heap)(I:PySem.W.InstAt s.heap x ox C od)(hm:PySem.W.mroIn K C (.type "object")=some true)
 (O:PySem.W.findObj K C od "__class__"=some (.bind (.builtin "getset_descriptor.__get__") (.builtin "object.__class__"))) (q:Q (some (.ref C)) {s with toks:=s.toks+1}) :
 wpAny (model prog w) A (getAttr? (.ref x) "__class__") Q E s:=by
 obtain⟨Z,g,d,t,os⟩:=s;unfold getAttr? getAttrBy?;refine aa (wpAny_mkText (aa (wpAny_attempt ?_)));refine Pb (s:=⟨Z,g,d,t+1,os⟩) N X I rfl (λz=>Uw (s:=⟨Z,g,d,t+1,os⟩) X I hm O z) ?_;exact ag q
theorem Ph{D:Addr}{od:Obj}(N:ExA K D)(O:PySem.W.hasDictIn K D=true)(ha:PySem.W.findIn K (.ref D) "__class__"=some (some (.builtin "object.__class__")))
 (hn:PySem.W.specialIn K (.builtin "object.__class__") "__get__"=some (some (.builtin "getset_descriptor.__get__"))) (htk:PySem.W.takesIn K (.builtin "object.__class__")=some true) (hm:PySem.W.mroIn K D (.type "object")=some true) :
 PySem.W.KitX K (.ref x) (.ref D) (λh=>PySem.W.InstAt h x ox D (some od)) where
 ty:=λ_ _ _ I=>I.type
 it:=λ_ _ X _=>by
  obtain⟨T,Z,_⟩:=PySem.W.any_some O;unfold PySem.W.clsIn at Z;split at Z
  .rename_i c' Q S Y U;intro J M L s' k q;exact aa (wpAny_loadPart (k _ _ (X _ _ U)) (ag q))
  .cases Z
 ne:=λh P dd its n sl X V=>by
  obtain⟨T,Z,_⟩:=PySem.W.any_some O;refine Bool.eq_false_iff.mpr λq=>?_
  have e:=Value.ref.inj (beq_iff_eq.mp q);subst e;unfold PySem.W.clsIn at Z;split at Z
  .rename_i c' Q S Y U;have z:=(X _ _ U).symm.trans V
   cases z
  .cases Z
 ca:=λX I k=>Mi N X I hm (PySem.W.findObj_data (by obtain⟨cd,R,_⟩:=PySem.W.any_some O;rw[R];rfl) ha hn htk) k
end
end XC
namespace XC
open L2 My D3
structure AttE(K:PySem.W.Frag)(C:Addr)(f:Str):Prop where
 ea:ExA K C
 hd:PySem.W.hasDictIn K C=true
 no:PySem.W.findIn K (.ref C) f=some none
section
variable{X:Cx}{D dx:Addr}{od:Obj}{u:Value}{v:V}{f n:Str}{i:Nat}{p1:Pos}
def ae2(N:AttE X.K C f)(U:oa.cls = .ref C)(O:oa.dict=some dx)(Y:PySem.W.notCls oa=true)(hdx:∀h:ec,h.get? dx=some od->h.Ns1 dx (λz=>if z=f then some u else none))(rv:RelV v u)
 (hi:X.N[i]? = some n) (hv:Vis X.env.scope n) (hdn:(n==("__debug__":Str))=false:=by decide) (hcn:(n==("__classdict__":Str))=false:=by decide) (hb:attributeBase (.Name n p1) f X.env (eval (.Name n p1) X.env)=eval (.Name n p1) X.env:=by rfl) :
 PE (dN X a oa dx od) (.Attribute (.Name n p1) f pos) (λσ H Q=>σ[i]? = some (some (.ref a))/\Q v H):=by
 intro pins s σ H Q I h;refine JF hb (thn ((iT (X:=dN X a oa dx od) hi hv hdn hcn) pins s σ H (λx H1=>x = .ref a/\Q v H1) I ⟨_,h.1,rfl,h.2⟩) λw s1 ⟨x,H1,Z,T,ex,q⟩=>?_);subst ex
 cases T;have ha:=(Z.pin (a,oa) (bH _ (aU _ aJ))).1;have hd:=(Z.pin (dx,od) (bH _ (aU _ (aH _ aJ)))).1;obtain⟨S,V,R⟩:=Ao (hdx _ hd);rw[hd]at V
 cases V;refine Pg (ox:=oa) (od:=some od) N.ea Z.kIn ⟨ha,U,Y,?_⟩ (PySem.W.findObj_own N.hd N.no rfl (by rw[R,if_pos rfl])) (Aq rv) ⟨v,H1,Z.tok _,rv,q⟩;rwa[O]
end
end XC
namespace XC
open L2 My D3
structure KitE(K:PySem.W.Frag)(C:Addr):Prop where
 ea:ExA K C
 hd:PySem.W.hasDictIn K C=true
 fd:PySem.W.findIn K (.ref C) "__class__"=some (some (.builtin "object.__class__"))
 sp:PySem.W.specialIn K (.builtin "object.__class__") "__get__"=some (some (.builtin "getset_descriptor.__get__"))
 tk:PySem.W.takesIn K (.builtin "object.__class__")=some true
 mr:PySem.W.mroIn K C (.type "object")=some true
section
variable{X:Cx}{D dx:Addr}{od:Obj}
def Yv{σ:L2.St}(I:Inv (dN X a oa dx od) pins σ H s)(O:oa.cls = .ref C)(q:oa.dict=some dx)(U:PySem.W.notCls oa=true):PySem.W.InstAt s.heap a oa C (some od):=by
 have ha:=(I.pin (a,oa) (bH _ (aU _ aJ))).1;have hd:=(I.pin (dx,od) (bH _ (aU _ (aH _ aJ)))).1;refine⟨ha,O,U,?_⟩;rwa[q]
def Pj(N:KitE X.K C)(U:oa.cls = .ref C)(O:oa.dict=some dx)(hnc:PySem.W.notCls oa=true):lB (dN X a oa dx od) (.builtin "isinstance") (λxs H Q=>∃(D:Addr),xs=[.ref a,.ref D]/\PySem.W.kitOne X.K (.ref C) (.ref D)=some b/\Q (.bl b) H):=by
 intro pins s σ H xs us Q I r h;obtain⟨D,rfl,e,q⟩:=h;obtain⟨Y,Z,rfl,r1,r2⟩:∃Y Z,us=[Y,Z]/\RelV (.ref a) Y/\RelV (.ref D) Z:=by
  cases r with
  |cons r1 r=>cases r with
   |cons r2 r=>cases r;exact⟨_,_,rfl,r1,r2⟩
 cases r1;cases r2;exact PySem.W.kia_one (Ph (ox:=oa) (od:=od) N.ea N.hd N.fd N.sp N.tk N.mr) I.kIn (Yv I U O hnc) e (λz=>nomatch z) λtk=>⟨.bl b,H,I.tok _,rfl,q⟩
end
end XC
variable{fl:List D3.Fl}
namespace XC
open L2 My D3
def Cp{i:Nat}{x:U}(h:(δ.set i none)[j]? = some (some x)):j≠i/\δ[j]? = some (some x):=by
 by_cases e:j=i
 .subst e;by_cases l:j<δ.length
  .rw[bI l]at h;cases h
  .rw[bD (by rw[cg];lia)]at h;cases h
 .rw[aM (dv e)]at h;exact⟨e,h⟩
def Rel.forget{σ:L2.St}{i:Nat}{x:Option V}(R:Rel K fl G ow σ H δ)(q:fl[i]? = some .A):Rel K fl G ow (σ.set i x) H (δ.set i none):=by
 have no:∀a,ow i≠some a:=λa z=>by
  obtain⟨_,W,_⟩:=R.own i a z;rw[q]at W;rcases W with⟨z,_⟩|⟨z,_⟩<;>cases z
 refine⟨R.s0,R.s1,by rw[cg,cg];exact R.len,λj a h=>?_,R.inj,R.pin,λj X h1 hn h2=>?_,λj X h1 hn h2 h3=>?_,R.nt,R.nd,R.ns,R.np,λj X hn h1=>?_,λj Y h1 h2=>by rw[aM (λz=>by rw[<-z,q]at h1;cases h1)];exact R.fx j Y h1 h2⟩
 .have Z:j≠i:=λz=>no a (z▸h)
  obtain⟨T,U,xs,ds,h1,h2,h3,h4⟩:=R.own j a h;exact⟨T,U,xs,ds,by rw[aM (dv Z)];exact h1,h2,h3,by rw[aM (dv Z)];exact h4⟩
 .obtain⟨Z,e⟩:=Cp h1;obtain⟨Y,h3,h4⟩:=R.dat j X e hn h2;exact⟨Y,by rw[aM (dv Z)];exact h3,h4⟩
 .obtain⟨Z,e⟩:=Cp h1;exact R.oo j X e hn h2 h3
 .obtain⟨Z,e⟩:=Cp h1;obtain⟨Y,h3,h4⟩:=R.nr j X hn e;exact⟨Y,by rw[aM (dv Z)];exact h3,h4⟩
def tEt(i:Nat)(a:Addr)(b:Bool):TE:=λσ H Q=>σ[i]? = some (some (.ref a))/\∀H',Same H H'->Q (.bl b) H'
section
variable{X S:Cx}{I0 D dx:Addr}{od:Obj}{u:Value}{v:V}{f n:Str}{i:Nat}{p1:Pos}{cond a1 b1:Expr}{es:List Expr}{k:Nat}
def Yw(h:IsE S i a cond):PE S cond (tEt i a true):=PE.imp h λσ H Q z=>⟨z.1,z.2 H (Same.refl H)⟩
end
end XC
namespace XC
open L2 My D3
structure SuiG(K:PySem.W.Frag)(mg:Str->Option Value)(fld:Addr->Str)(cn f ic n1 n2 n3:Str):Prop where
 ex:∃C I D1 D2 D3,Exc K mg cn f C I/\fld C=f/\mg ic=some (.ref I)/\KitE K C/\AttE K C f/\mg n1=some (.ref D1)/\mg n2=some (.ref D2)/\mg n3=some (.ref D3)/\PySem.W.kitAny K (.ref C) [.ref D1,.ref D2,.ref D3]=some false
def Room.q{k:Nat}{o:Option Value}(r:Room k A):RoomQ k (A.mark o):=⟨r.dp,r.un⟩
section
variable{X:Cx}{fl:List Fl}{c f n1 n2 n3 n y g s0 s1:Str}{gp:List Str}{i k:Nat}{W:List D->Option D}{rowE:Expr}{fr:FE}
variable{yp ap spos a1 a2 a3 a4 a5 a6 a7 a8 a9 b1 b2 b3 b4 b5 b6 b7 q0 q1 q2 q3 q4 q5 q6 q7 q8 q9 q10 q11 q12 q13 q14:Pos}{x1 j0 j1:Nat}
end
end XC
namespace XC
open L2 My D3
section
variable{X:Cx}{fl:List Fl}{i:Nat}{y:Str}{F:List D->Option Or}{c:Expr}{es:List Expr}{fa:FA}{f f1 f2:FX}{yp np:Pos}{s1 s2:Stmt}{fS:Str->D->DS->Option D}
end
section
variable{k:Nat}{f:FX}{fl:List Fl}
end
end XC
namespace XC
open L2 My D3
structure SuiH(K:PySem.W.Frag)(mg:Str->Option Value)(fld:Addr->Str)(cn f ic n1 n2:Str):Prop where
 ex:∃C I D1 D2,Exc K mg cn f C I/\fld C=f/\mg ic=some (.ref I)/\KitE K C/\AttE K C f/\mg n1=some (.ref D1)/\mg n2=some (.ref D2)/\PySem.W.kitAny K (.ref C) [.ref D1,.ref D2]=some false/\PySem.W.kitOne K (.ref C) (.ref I)=some true
structure SuiA(K:PySem.W.Frag)(mg:Str->Option Value)(fld:Addr->Str)(cn f ic:Str):Prop where
 ex:∃C I,Exc K mg cn f C I/\fld C=f/\mg ic=some (.ref I)/\AttE K C f
section
variable{X:Cx}{D dx:Addr}{od:Obj}{n:Str}{i:Nat}{p1:Pos}
def Yx(N:KitE X.K C)(hk:PySem.W.kitOne X.K (.ref C) (.ref D)=some b)(O:oa.cls = .ref C)(q:oa.dict=some dx)(U:PySem.W.notCls oa=true)(Z:X.mg ic=some (.ref D))(hgi:Gl X "isinstance")(Y:X.mg "isinstance"=none)(hg:Gl X ic)(hi:X.N[i]? = some n)(hv:Vis X.env.scope n)
 (hdb:(ic==("__debug__":Str))=false:=by decide) (hdn:(n==("__debug__":Str))=false:=by decide) (hcn:(n==("__classdict__":Str))=false:=by decide) :
 PE (dN X a oa dx od) (.Call (.Name "isinstance" p) [.Name n p1,.Name ic p2] [] pos) (tEt i a b):=
 PE.imp (rA (X:=dN X a oa dx od) (Pj (b:=b) N O q U) hgi Y c9 (d8 (iT (X:=dN X a oa dx od) hi hv hdn hcn) (d8 (Jx (X:=dN X a oa dx od) (v:=.ref D) hg Z rfl hdb) iU (by exact dY rfl)) (by exact dY rfl)) (by decide) (by decide) (by exact dY rfl) (by exact qH rfl)) λσ H Q h=>by
  exact⟨_,h.1,D,rfl,hk,h.2 H (Same.refl H)⟩
end
section
variable{X:Cx}{fl:List Fl}{c f n1 n2 n g s0 s1:Str}{gp:List Str}{i k:Nat}{W:List D->Option D}
variable{ap spos a1 a2 a3 a4 a5 b1 b2 b3 b4 b6 b7 q0 q1 q2 q3 q4 q5 q6 q7 q8 q9 q10 q11 rp2:Pos}{x1 x2 x3 j0 j1 j2:Nat}
end
end XC
namespace XC
open L2 My D3
section
variable{fa:Addr}{outer:List Env}{s₀:dk}{H₀:Hp}{E:XK}
variable{fl:List Fl}{F:List D->Option Or}{es:List Expr}{fs:FA}
end
end XC
namespace XC
open L2 My D3
structure At(K:PySem.W.Frag)(i:Nat)(a:Addr)(v:V)(d:D)(σ:L2.St)(H:Hp):Prop where
 sl:σ[i]? = some (some (.ref a))
 ra:RA K ok0 false H v d
 fl:flat d=true
section
variable{fl:List Fl}{i:Nat}{v:V}{d:D}{σ:L2.St}{H H':Hp}
end
structure Sc where
 i:Nat
 a:Addr
 v:V
 d:D
section
variable{X:Cx}{fl:List Fl}{z:Sc}{a b c:Expr}{es:List Expr}{k:Kd}{fa:FE}{fs gs:FS}{fr:FA}
end
end XC
namespace D3
end D3
variable{ts:List (Str×Bool)}
namespace XC
open L2 My D3
section
variable{X:Cx}{σ:L2.St}{H:Hp}{I0 dx T D:Addr}{f n:Str}{u:Value}{i:Nat}{np:Pos}
def Im{M:fh}{Q:Unit->dk->Prop}(I:Inv X pins σ H s)(hi:X.N[i]? = some n)(hN:X.N.Nodup)(hl:X.env.scope.names.lookup n=some .local)
 (h:∀s',Inv X pins (σ.set i none) H s'->Q () s'):wpAny M A (do bindName X.env n .none;unbindBehindTheSuite X.env n hpos) Q E s:=by
 obtain⟨m,hn,hm⟩:=id I.loc;have cls:(X.env.scope.kind == .class||(X.env.scope.kind == .module&&X.env.locals != X.env.globals))=false:=by rw[I.ok.kind];rfl
 refine wpAny_nameGoes_keeps hl hn cls λh' C S W=>h _ ?_
 have Y:∀b o,X.s₀.heap.get? b=some o->b≠X.env.locals:=λb o e z=>by
  rw[z]at e;exact absurd (af e) (dM.mpr I.ok.above)
 refine⟨I.ok,I.os,I.bare,⟨λb o e Z V T=>(W.2 b (Y b o e)).trans (I.base.keep b o e Z V T),λb o e Z V T=>?_,I.base.free,λb o e Z=>?_,I.base.tups,I.base.frzs,I.base.tbls⟩,⟨_,S,λj y v P U D=>?_⟩,λy c e=>?_,I.free,I.freeC,λp G=>?_,λb J e=>?_,by rw[cg];exact I.len⟩
 .obtain⟨sl,w⟩:=I.base.slot b o e Z V T;exact⟨sl,(W.2 b (Y b o e)).trans w⟩
 .obtain⟨o',w⟩:=I.base.there b o e Z;exact⟨o',(W.2 b (Y b o e)).trans w⟩
 .have R:j≠i:=λz=>by
   subst z;by_cases l:j<σ.length
   .rw[bI l]at U;cases U
   .rw[bD (by rw[cg];lia)]at U;cases U
  rw[aM (dv R)]at U;obtain⟨L,K,q⟩:=hm j y v P U D;refine⟨L,K,?_⟩;rcases q with⟨k,e⟩|⟨k,c,e,z⟩
  .refine .inl ⟨k,?_⟩;have:y≠n:=λe=>R (yD hN P (e▸hi))
   simp[this,e]
  .exact .inr ⟨k,c,e,z.sameBut W (I.cne y c e)⟩
 .obtain⟨w,z⟩:=I.cell y c e;exact⟨w,z.sameBut W (I.cne y c e)⟩
 .obtain⟨e,Z,V,T,O⟩:=I.pin p G;exact⟨(W.2 p.1 V).trans e,Z,V,T,O⟩
 .refine(I.hok b J e).stay (λc w F q=>(W.2 c λz=>?_).trans q) (λ_ q=>q) λ_ _ q=>q
  rcases F with y|y
  .rw[<-y,z,I.free]at e;cases e
  .rw[z,I.free]at y;cases y
theorem ae3{ts:TS}(I:Inv X pins σ H s)(F:Fly s.heap a C dx f u (some T))(La:Loose X pins H a)(Ld:Loose X pins H dx)(LT:Loose X pins H T)(Ex:Exc X.K X.mg cn f C I0)(hD:D=C\/D=I0)(U:X.mg ic=some (.ref D))(hg:Gl X ic)(hdb:(ic==("__debug__":Str))=false)
 (hi:X.N[i]? = some n) (hN:X.N.Nodup) (O:X.env.scope.names.lookup n=some .local)
 (hs:∀oa od,s.heap.get? a=some oa->s.heap.get? dx=some od->PSs (dN X a oa dx od) (b0::suite) ts/\ts {nx:=λσ' H'=>Dn.nx (σ'.set i none) H',rt:=Dn.rt} (σ.set i (some (.ref a))) H) :
 wpAny (model X.prog X.w) X.A (handleBy (.ref a) X.env [.ExceptHandler (some (.Name ic np)) (some n) (b0::suite) hpos]) (SP X pins Dn) X.xe s:=by
 obtain⟨oa,od,ea,y,M⟩:=Mg I F La Ld;obtain⟨Y,B⟩:=hs oa od ea y;obtain⟨mgC,kp,hB,N,fI,mN,mI,r,_⟩:=Ex;have TT:=r _ I.kIn;obtain⟨vs,sl,P,_⟩:=F.obj;refine wpAny_handleBy_cons (codeAny_handlers_test (uP (X:=dN X a oa dx od) M hg U ?_ hdb)) (by intro q;cases q);have go:∀{L:Value->dk->Prop}{W:Bool->dk->Prop},W true s->wpAny (model X.prog X.w) (X.A.mark (some (.ref a))) (excMatches (.ref a) (.ref D)) W L s:=λ{L W} q=>by
  obtain⟨Z,g,d,tk,os⟩:=s;rcases hD with rfl|rfl
  .exact TT.match_self P rfl (by decide) q
  .exact TT.match_up P rfl (by decide) q
 refine go ?_;refine codeAny_handlers_suite_as ?_;have S:∀p∈(dN X a oa dx od).pn++pins,p.1≠T:=λp Z=>by
  obtain⟨t,x,_⟩:=F.hd T rfl;have Z:=Z;rcases bT.mp Z with Z|Z
  .rcases bT.mp Z with Z|Z
   .exact LT.pin p (bH _ Z)
   .rcases aL.mp Z with rfl|Z
    .exact dv t
    .rw[bQ.mp Z];exact dv x
  .exact LT.pin p (aU _ Z)
 refine Il M F LT.out LT.loc LT.new LT.cel S λs1 m _=>?_
 refine yE (X:=dN X a oa dx od) (i:=i) (v:=V.ref a) m hN hi (.inl O) rfl (λs2 o=>?_) (.inr O);refine ar (Y pins s2 _ H _ o B) (λfl l q=>?_) λ_ _ z=>z.elim
 cases fl with
 |ret v=>
  obtain⟨J,σ',H',Q,E,q3⟩:=q;exact name_goes (uV I.ok Q) O λG R=>⟨J,_,H',R,E,q3⟩
 |next=>
  obtain⟨σ',H',Q,q3⟩:=q;exact Im (uV I.ok Q) hi hN O λG R=>⟨_,H',R,q3⟩
 |brk=>
  obtain⟨_,_,_,z⟩:=q;exact z.elim
 |cont=>
  obtain⟨_,_,_,z⟩:=q;exact z.elim
end
section
variable{X:Cx}{fl:List Fl}{i:Nat}{f:FX}{np:Pos}{fS:Str->D->FS}
end
structure SuiU(K:PySem.W.Frag)(mg:Str->Option Value)(fld:Addr->Str)(cn f ic:Str)(ts:List (Str×Bool)):Prop where
 ex:∃C I,Exc K mg cn f C I/\fld C=f/\mg ic=some (.ref I)/\KitE K C/\AttE K C f/\∀t∈ts,∃D,mg t.1=some (.ref D)/\PySem.W.kitOne K (.ref C) (.ref D)=some t.2
def TsK(K:PySem.W.Frag)(mg:Str->Option Value)(C:Addr)(ts:List (Str×Bool)):Prop:=∀t∈ts,∃D,mg t.1=some (.ref D)/\PySem.W.kitOne K (.ref C) (.ref D)=some t.2
def vh:TsK K mg C []:=sZ _
def dh{D:Addr}{n:Str}(m:mg n=some (.ref D))(k:PySem.W.kitOne K (.ref C) (.ref D)=some b)(r:TsK K mg C ts):TsK K mg C ((n,b)::ts):=fL.mpr ⟨⟨D,m,k⟩,r⟩
def vm{f:Str}(E:Exc K mg cn f C I)(q:fld C=f)(m:mg ic=some (.ref I))(k:KitE K C)(a:AttE K C f)(t:TsK K mg C ts):SuiU K mg fld cn f ic ts:=⟨C,I,E,q,m,k,a,t⟩
def SuiU.up{f:Str}(h:SuiU K mg fld cn f ic ts):ExcG K mg fld cn f ic:=by
 obtain⟨C,I,E,Z,m,_⟩:=h.ex;exact⟨C,I,E,Z,m⟩
structure SuK(X:Cx)(f:Str)(ts:List (Str×Bool))(i:Nat)(n:Str)(a:Addr)(oa:Obj)(dx:Addr)(od:Obj)(v:V):Prop where
 is:∀(t:Str×Bool),t∈ts->Gl X t.1->(t.1==("__debug__":Str))=false->∀p p1 p2 pos,PE (dN X a oa dx od) (.Call (.Name "isinstance" p) [.Name n p1,.Name t.1 p2] [] pos) (tEt i a t.2)
 isv:X.mg "ValueError"=none->Gl X "ValueError" -> ∀p p1 p2 pos,PE (dN X a oa dx od) (.Call (.Name "isinstance" p) [.Name n p1,.Name "ValueError" p2] [] pos) (tEt i a true)
 att:∀p1 pos,PE (dN X a oa dx od) (.Attribute (.Name n p1) f pos) (λσ H Q=>σ[i]? = some (some (.ref a))/\Q v H)
section
variable{X:Cx}{fl:List Fl}{c f n g:Str}{i k:Nat}{dx:Addr}{od:Obj}{v:V}{d:D}{fS:Str->D->FS}{gp:List Str}{W:List D->Option D}
end
end XC
namespace XS
open PySem.W
section
variable{α β:Type}{R:α->Prop}{R':β->Prop}{lt:Nat->Nat->Bool}
end
def good(n:Nat)(p:Array Nat):Prop:=p.Perm (b_ n).toArray
section
variable{p:Array Nat}
def good.mem(g:good n p) (h:c∈p.toList):c<n:=by
 have:c∈(b_ n):=by
  have:=(Array.perm_iff_toList_perm.mp g).mem_iff.mp h;simpa using this
 exact dD.mp this
end
open D3
noncomputable def Io:List D->Option (List (Int×Int))
 |[]=>some []
 | .tuple [.int i,.int j]::r=>(Io r).map ((i,j) :: ·)
 |_=>none
def zf:List D->Option D
 |[.list l]=>(Io l).bind λqs=>if l.length<=1000/\(qs.map (·.1)).Nodup then some (.dict (qs.map λq=>(.int q.1,.int q.2)))else none
 |_=>none
end XS
namespace XS
open PySem.W L2 My D3
section
variable{X:Cx}{σ:L2.St}{H:Hp}
end
section
variable{prog:dt}
end
end XS
namespace XS
open PySem.W L2 My D3
def ae4(K:PySem.W.Frag)(H:Hp)(y:V)(q:Int×Int):Prop:=∃a,y = .ref a/\SqT K H a [.int q.1,.int q.2]
abbrev Prs(K:PySem.W.Frag)(H:Hp):List V->List (Int×Int)->Prop:=Paired (ae4 K H)
section
variable{X:Cx}{σ:L2.St}{H:Hp}
theorem Ux(I:Inv X pins σ H s) (h:ae4 X.K H c q) (r:RelV c k):∃a U O,k = .ref a/\IsTup s.heap a #[.int q.1 U,.int q.2 O]:=by
 obtain⟨a,rfl,Y⟩:=h
 cases r;obtain⟨its,Z,p,_⟩:=I.tuple Y
 cases Z with
 |cons r1 Z=>cases Z with
  |cons r2 Z=>
   cases Z;obtain⟨U,rfl⟩:=r1;obtain⟨O,rfl⟩:=r2;exact⟨a,U,O,rfl,p⟩
end
end XS
namespace XS
open PySem.W L2 My D3
section
variable{prog:dt}
end
section
variable{X:Cx}
end
end XS
namespace XS
open PySem.W L2 My D3
section
variable{H:Hp}
theorem Pk:∀{l:List D}{qs:List (Int×Int)}{ys:List V},Io l=some qs->RAs K ok1 true H ys l->Prs K H ys qs/\l=qs.map λq=>.tuple [.int q.1,.int q.2]
 |[],qs,ys,e,r=>by
  cases e;cases r;exact⟨.nil,rfl⟩
 |d::l,qs,ys,e,r=>by
  cases r with
  |cons r1 r2=>
   unfold Io at e;split at e
   .next h=>cases h
   .next i j t h=>
    cases h
    cases Y:Io l with
    |none=>rw[Y]at e;cases e
    |some q2=>
     rw[Y]at e
     cases e;obtain⟨p,W⟩:=Pk Y r2;obtain⟨a,xs,rfl,X,Z⟩:=r1.tupE
     cases Z with
     |cons h1 Z=>cases Z with
      |cons h2 Z=>
       cases Z;obtain rfl:=h1.intE;obtain rfl:=h2.intE;exact⟨.cons ⟨a,rfl,X⟩ p,by rw[aN,<-W]⟩
   .cases e
end
end XS
namespace XS
open PySem.W
section
variable{prog:dt}
def Uy:typeLookup (.type "list") "keys"=pure none:=by rw[a_,az];kernel_rfl
def Mj (hx:s.heap.get? a=some {cls:=.type "list", dict:=none,data:=.seq c k,slots:=sl}) (q:A.handled=none)
 (h:∀h' tk,(∀b o,s.heap.get? b=some o->h'.get? b=some o)->t none {s with heap:=h',toks:=tk}):wpAny (model prog w) A (getAttr? (.ref a) "keys") t E s:=by
 obtain⟨W,g,d,tk,os⟩:=s;have X:∀Z,(⟨W,g,d,Z,os⟩:dk).TypeIs (.ref a) "list" := λ_=>⟨_,hx,rfl⟩
 have f1:=sub_AttributeError;have P:=F.slot_list_getattribute.lookup;have R:=F.slot_list_getattribute.bind (.ref a);have S:=am_list_getattr_none;unfold getAttr? getAttrBy? getAttrBy
 repeat(any_goals(first|assumption|exact X _|((with_reducible show wpAny _ _ (call (fm "list.__getattribute__") _ _) _ _ _);refine cz F.slot_list_getattribute (X _) am_entry_list_getattribute (F.args_list_getattribute_2 _ _) (meets_getattribute_miss_list a c k sl "keys" _ Uy (by decide) (by decide)) ⟨hx,q,λh' Z e Y=>?_⟩)|wp_step))
 obtain⟨U,V,T⟩:=Y.there;unfold getattributeRaised
 repeat(any_goals(first|assumption|wp_step))
 exact h _ _ Y.keeps
def Bj:entryFor table "dict.update.loop"=some eK.«dict.update.loop»:=entryFor_of_tree (by kernel_rfl)
def sW:plainId "dict.update.loop"=true:=by decide +kernel
structure PL(h:ec)(D I l:Addr)(its:Array Value)(vs:List (L2.Key×Value))(i:Nat):Prop where
 iter:h.IsListIter I l i
 lst:h.IsList l its
 prs:∀(j:Nat)(u:Value),its[j]? = some u->∃(a:Addr)(n:Int)(t:Tok)(v:Value),u=dr a/\IsTup h a #[ez n t,v]/\vs[j]? = some (ei n,v)/\a≠D/\a≠I
 ne:l≠D/\l≠I/\D≠I
theorem Pn{D l:Addr}{its:Array Value}{vs:List (L2.Key×Value)}{R:Result->dk->Prop}(hA:A.handled=none)(hn:(vs.map (·.1)).Nodup)(hz:vs.length=its.size)(hs:its.size<=1000):
 ∀(m i:Nat)(tk:Tok)(s:dk),its.size-i=m->i<=its.size->PL s.heap D I l its vs i->s.heap.DictOf (L2.cG prog w) D (vs.take i) ->
  (∀h' tk,(∀b o,b≠D->b≠I->s.heap.get? b=some o->h'.get? b=some o)->h'.DictOf (L2.cG prog w) D vs->R (.ok (.ret .none)) {s with heap:=h',toks:=tk}) ->
  codeAny (model prog w) A (.builtin "dict.update.loop" ⟨[.ref D,.ref I,.int i tk,.none],[]⟩) R s:=by
 intro m
 induction m with
 |zero=>
  intro i tk s hm hi P hd C;have e:i=its.size:=by lia
  subst e;refine ba Bj ?_;rw[aE sW _];have:its[its.size]? = none:=by simp
  show wpAny _ A.in1 (pyNext (.ref I) >>= _) _ _ s;refine aa (wpAny_pyNext_list_end (by simpa using hA) P.iter P.lst this λh' hx=>?_);show wpAny _ A.in1 (Builtin.Dict.addKeywords D [] >>= _) _ _ _;refine aa (ag (ag ?_));have L:h'.DictOf (L2.cG prog w) D vs:=by
   have:=hd.extBut hx P.ne.2.2;rwa[<-hz,List.take_length]at this
  exact C h' s.toks (λb o _ z q=>hx b o z q) L
 |succ m ih=>
  intro i tk s hm hi P hd C;have T:i<its.size:=by lia
  obtain⟨u,y⟩:∃u,its[i]? = some u:=⟨its[i],by simp[T]⟩;obtain⟨a,n,t,v,rfl,hp,B,na,f⟩:=P.prs i u y;refine ba Bj ?_;rw[aE sW _];show wpAny _ A.in1 (pyNext (.ref I) >>= _) _ _ s;refine aa (wpAny_pyNext_list_item P.iter P.lst y λh1 M V=>?_);have k1:∀b,b≠I->h1.get? b=s.heap.get? b:=λb z=>V.2 b z
  have H:IsTup h1 a #[.int n t,v]:=by
   obtain⟨o,e,c⟩:=hp;exact⟨o,(k1 a f).trans e,c⟩
  have E:h1.DictOf (L2.cG prog w) D (vs.take i):=hd.sameBut V P.ne.2.2;show wpAny _ A.in1 (holding [dr a] _ >>= _) _ _ _;refine aa (aI ?_);have J:(vs.take i).length<=sizeLine:=by
   rw[jx];exact bf (qy _ _) (bf (gA T) (bf hs (by decide)))
  have U:stored (vs.take i) (ei n) v=vs.take (i+1):=by
   have S:i<vs.length:=by lia
   have K:vs[i]=(ei n,v):=by
    have:=aK S;rw[B]at this;exact(cU.inj this).symm
   have no:¬((vs.take i).any λN=>decide (N.1=ei n))=true:=by
    intro z;obtain⟨N,hk,e⟩:=oM.mp z;have e:=of_decide_eq_true e;obtain⟨j,F,Q⟩:=q_.mp hk;have G:j<i:=by
     have:j<(vs.take i).length:=F;rw[jx]at this;lia
    have e3:vs[j]=N:=by
     rw[<-Q,List.getElem_take]
    have:=List.pairwise_iff_getElem.mp hn j i (by rw[aG];lia) (by rw[aG];exact S) G;apply this;rw[lD,lD,e3,K,e]
   unfold stored;rw[if_neg no,uM,B];rfl
  obtain⟨g,Q,c2,n2,d2⟩:=id H;have hT:Shared.TypeIs {s with heap:=h1} (.ref a) "tuple" := ⟨g,Q,c2⟩;refine aa (bq ?_);unfold Builtin.Dict.pairItems;refine aa (cB hT ?_);rw[if_pos (by decide)];refine aa (be Q d2 (ag ?_));show wpAny _ _ (holding [ez n t,v] (dictSet D (.int n t) v)) _ _ _;refine aI (wpAny_dictSet_pairs (knd:=L2.cG prog w) (k:=ei n) (hsz:=J) (by show Value.isInt n (.int n t)=true;simp[Value.isInt]) E λh2 dd W=>?_);rw[U]at dd;refine ag ⟨bd sW _,?_⟩;have k2:∀b o,b≠D->b≠I->s.heap.get? b=some o->h2.get? b=some o:=λb o Y Z q=>(W.2 b Y).trans ((k1 b Z).trans q)
  have X:∀b x,b≠D->b≠I->IsTup s.heap b x->IsTup h2 b x:=λb x Y Z ⟨o,e,c⟩=>⟨o,k2 b o Y Z e,c⟩
  refine ih (i+1) 0 _ (by lia) (by lia) ⟨?_,?_,λj u F=>?_,P.ne⟩ dd λh3 O k3 d3=>?_
  .obtain⟨o,e,c⟩:=M;exact⟨o,(W.2 I (dv P.ne.2.2)).trans e,c⟩
  .obtain⟨o,e,c⟩:=P.lst;exact⟨o,k2 l o P.ne.1 P.ne.2.1 e,c⟩
  .obtain⟨r,d,h,p,rfl,q1,q2,q3,q4⟩:=P.prs j u F;exact⟨r,d,h,p,rfl,X r _ q3 q4 q1,q2,q3,q4⟩
  .exact C h3 O (λb o Y Z q=>k3 b o Y Z (k2 b o Y Z q)) d3
end
end XS
namespace XS
open PySem.W
section
variable{prog:dt}
def Cq{l:Addr}{its:Array Value}{vs:List (L2.Key×Value)}(hA:A.handled=none)(O:s.heap.get? l=some {cls:=.type "list", dict:=none,data:=.seq its n,slots:=sl})
 (hp:∀(j:Nat)(u:Value),its[j]? = some u->∃(a:Addr)(n:Int)(t:Tok)(v:Value),u=dr a/\IsTup s.heap a #[ez n t,v]/\vs[j]? = some (ei n,v)) (hn:(vs.map (·.1)).Nodup) (hz:vs.length=its.size) (hs:its.size<=1000)
 (h:∀h' tk,h'.DictOf (L2.cG prog w) s.heap.objs.size vs->(∀b o,s.heap.get? b=some o->h'.get? b=some o)->Q (.ref s.heap.objs.size) {s with heap:=h',toks:=tk}) :
 wpAny (model prog w) A (PySem.call (.type "dict") [.ref l]) Q E s:=by
 refine callType_codes (Q₁:=λobj Y=>obj = .ref s.heap.objs.size/\Y={s with heap:=s.heap.push {cls:=.type "dict", data:=.dict #[]} }) F.kt_called_dict (F.kt_typeCall_dict_1 _) F.entry_dict_init (kt_code_dict_new _ ⟨rfl,rfl⟩) ?_;rintro obj Y ⟨rfl,rfl⟩;obtain⟨g,P⟩:∃g,g=s.heap.push {cls:=.type "dict", data:=.dict #[]}:=⟨_,rfl⟩;rw[<-P];have W:g.DictOf (L2.cG prog w) s.heap.objs.size []:=by rw[P];exact Heap.DictOf.new s.heap
 have S:∀b o,s.heap.get? b=some o->g.get? b=some o:=λb o q=>by rw[P];exact ae _ q
 have T:=S _ _ O;have J:Shared.TypeIs {s with heap:=g} (.ref l) "list" := ⟨_,T,rfl⟩;refine⟨W.typeIs,F.args_dict_init_2 _ _,?_⟩;unfold eK.«dict.__init__»;refine aa ?_;unfold Builtin.Dict.selfAndRest;refine aa (wpAny_notOrdered_dict W.typeIs ?_);show wpAny _ _ (pure (s.heap.objs.size,[dr l])) _ _ _;refine ag ?_;show wpAny _ _ (fE "dict.__init__" s.heap.objs.size (.ref l) [] .none) _ _ _;unfold fE;refine aa (cB J ?_);rw[if_pos (by decide)];have R:A.in1.in1.handled=none:=by simpa using hA
 refine aa (Mj (s:={s with heap:=g}) T R λh1 X k1=>?_);rw[if_pos (by rfl)];refine aa (wpAny_rule ?_);have l1:h1.get? l=_:=k1 _ _ T;have il:h1.IsList l its:=⟨_,l1,rfl,n,rfl⟩;refine aa (cr (s:={s with heap:=h1,toks:=X}) il ?_);refine ag ⟨bd sW _,?_⟩;obtain⟨g2,Z⟩:∃g2,g2=h1.push {cls:=.type "list_iterator", data:=.fields #[.ref l,.int 0 0]}:=⟨_,rfl⟩;have k2:∀b o,s.heap.get? b=some o->g2.get? b=some o:=λb o q=>by rw[Z];exact ae _ (k1 _ _ (S _ _ q))
 have old:∀b o,s.heap.get? b=some o->b≠s.heap.objs.size/\b≠h1.objs.size:=λb o q=>by
  have lt:=af q;have U:=af (k1 _ _ (S _ _ q));exact⟨bF lt,bF U⟩
 have N:s.heap.objs.size≠h1.objs.size:=by
  obtain⟨o,_,_,e,_⟩:=W;exact bF (af (k1 _ _ e))
 have dd:g2.DictOf (L2.cG prog w) s.heap.objs.size (vs.take 0):=by
  obtain⟨o,es,I,e,r⟩:=W;exact⟨o,es,I,by rw[Z];exact ae _ (k1 _ _ e),r⟩
 have L:=old _ _ O;show codeAny (model prog w) A.in1 (Code.builtin "dict.update.loop" ⟨[dr s.heap.objs.size,dr h1.objs.size,ez ((0:Nat):Int) 0,dL],[]⟩) _ {s with heap:=h1.push {cls:=.type "list_iterator", data:=.fields #[.ref l,.int 0 0]},toks:=X};rw[<-Z];refine Pn (s:={s with heap:=g2,toks:=X}) (A:=A.in1) (by simpa using hA) hn hz hs its.size 0 0 rfl (g_ _) ⟨⟨_,by rw[Z];exact ai _ rfl,rfl,rfl⟩,⟨_,k2 _ _ O,rfl,n,rfl⟩,λj u K=>?_,⟨L.1,L.2,N⟩⟩ dd λh3 V k3 H=>?_
 .obtain⟨a,m,t,v,rfl,⟨o,e,c⟩,q⟩:=hp j u K;have M:=old _ _ e;exact⟨a,m,t,v,rfl,⟨o,k2 _ _ e,c⟩,q,M.1,M.2⟩
 .exact⟨rfl,h h3 V H λb o q=>k3 b o (old b o q).1 (old b o q).2 (k2 b o q)⟩
end
end XS
namespace XS
open PySem.W L2 My D3
theorem J8:∀{ys:List V}{qs:List (Int×Int)},Prs K H ys qs->ys.length=qs.length
 |_,_,.nil=>rfl
 |_,_,.cons _ r=>by simp[J8 r]
section
variable{X:Cx}{σ:L2.St}{H:Hp}
theorem Fq(I:L2.Inv X pins σ H s):∀{ys:List V}{us:List Value}{qs:List (Int×Int)},Prs X.K H ys qs->Vals ys us->∃vs:List (L2.Key×Value),vs.length=us.length/\(vs.map (·.1))=qs.map (λq=>ei q.1)/\KV (qs.map λq=>(ei q.1,V.int q.2)) vs /\
 ∀(j:Nat)(u:Value),us[j]? = some u->∃(a:Addr)(n:Int)(t:Tok)(v:Value),u=dr a/\IsTup s.heap a #[ez n t,v]/\vs[j]? = some (ei n,v)
 |_,_,_,.nil,.nil=>⟨[],rfl,rfl,.nil,λj u h=>by simp at h⟩
 |_,_,_,.cons p ps,.cons r rs=>by
  obtain⟨vs,h1,h2,h3,h4⟩:=Fq I ps rs;obtain⟨a,W,Y,rfl,U⟩:=Ux I p r;refine⟨(ei _,.int _ Y)::vs,by simp[h1],by simp[h2],.cons ⟨rfl,⟨Y,rfl⟩⟩ h3,λj u Z=>?_⟩
  cases j with
  |zero=>
   simp at Z;subst Z;exact⟨a,_,W,_,rfl,U,rfl⟩
  |succ j=>exact h4 j u (by simpa using Z)
def Ir(hA:X.A.handled=none):lB X (.type "dict") (λxs H Q=>∃(p:Addr)(ys:List V)(qs:List (Int×Int)),xs=[.ref p]/\SqL X.K H p ys/\ys.length<=1000/\Prs X.K H ys qs/\(qs.map (·.1)).Nodup/\∀l,H l=none->Q (.ref l) (upd H l (.dK (qs.map λq=>(ei q.1,V.int q.2))))):=by
 intro pins s σ H xs us Q I r h;obtain⟨p,ys,qs,rfl,hx,N,Y,hn,q⟩:=h;obtain⟨u,rfl,P⟩:=vals1 r
 cases P;obtain⟨its,Z,pl,J⟩:=I.list hx;obtain⟨⟨c,d,G,sl⟩,n,e,rfl,rfl,rfl⟩:=pl;obtain⟨vs,R,T,U,W⟩:=Fq I Y Z;have len:its.length=ys.length:=Z.length.symm;have nd:(vs.map (·.1)).Nodup:=by
  rw[T];have:List.Pairwise (· ≠ ·) ((qs.map (·.1)).map (ei:Int->L2.Key)):=List.Pairwise.map (S:=(· ≠ ·)) (ei:Int->L2.Key) (λa b ne e=>ne (Sum.inl.inj e)) hn;rwa[bZ]at this
 refine Cq (vs:=vs) hA e (λj u M=>W j u (by simpa using M)) nd (by simpa using R) (by simp;lia) λh' tk dd k=>?_
 have O:H s.heap.objs.size=none:=I.hok.fresh (aV _);have L:=I.laid (h':=h') (t':=tk) (a:=s.heap.objs.size) (o:=.dK (qs.map λq=>(ei q.1,V.int q.2))) k (aV _)
  ⟨by rw[aG,<-J8 Y];exact bf N (by decide),beq_eq_false_iff_ne.mpr (dv (bF (big I))),vs,U,dd⟩
 exact⟨.ref _,_,L,rfl,q _ O⟩
end
theorem J9:∀qs:List (Int×Int),dk0 (qs.map λq=>(.int q.1,.int q.2))=qs.map λq=>(ei q.1,V.int q.2)
 |[]=>rfl
 |q::qs=>by rw[aN,dk0,J9 qs];rfl
theorem J_:∀qs:List (Int×Int),yS (qs.map λq=>((.int q.1,.int q.2):D×D))=true
 |[]=>rfl
 |_::r=>J_ r
theorem Uz(qs:List (Int×Int)):dh0 (qs.map λq=>(.int q.1,.int q.2)) = .dK (qs.map λq=>(ei q.1,V.int q.2)):=by
 cases qs with
 |nil=>rfl
 |cons q r=>exact congrArg HO.dK (J9 (q::r))
def Pq(hA:X.A.handled=none)(ha:DB X fl .P [e] fa)(hg:Gl X "dict")(hm:X.mg "dict"=none)
 (he:starEach [e] X.env=(false,eval e X.env)::starEach [] X.env:=by rfl) (O:(backTo pos (starEach [] X.env)).any (·.1)=false:=by rfl):DE X fl .C (.Call (.Name "dict" p) [e] [] pos) (dCall zf fa):=
 PE.imp (mW (Ir hA) hg hm (show bootBuiltins "dict"=some (.type "dict")by decide +kernel) ha (by decide) (by decide) he O) λσ H Q h=>by
 refine D3.ex4 h λG ow δ d R S q=>?_
 refine D3.ex1 (bind1 S) λds M W=>?_
 refine⟨G,ow,δ,ds,R,M,λvs H' sm U=>?_⟩;unfold zf at W;split at W
 .next l=>
  refine D3.ex1 (bind1 W) λqs N Y=>?_
  by_cases Z:l.length<=1000/\(qs.map (·.1)).Nodup
  .rw[if_pos Z]at Y
   cases Y
   cases U with
   |cons r1 r2=>
    cases r2;obtain⟨a,ys,rfl,hx,V⟩:=r1.lstE;obtain⟨T,K⟩:=Pk N V;refine⟨a,ys,qs,rfl,hx,by rw[V.length];exact Z.1,T,Z.2,λL hn=>q _ _ (sm.trans (cP hn _)) (.dic bM (.inl ⟨J_ qs,?_⟩) (sm.free hn))⟩;rw[Uz]
  .rw[if_neg Z]at Y;cases Y
 .cases W
end XS
namespace D3
noncomputable def fW(qs:List (Int×Int))(i:Int):Option Int:=(qs.find? λq=>decide (q.1=i)).map (·.2)
def dcD(qs:List (Int×Int)):D:=.dict (qs.map λq=>(.int q.1,.int q.2))
theorem Pr:∀qs:List (Int×Int),iiD (qs.map λq=>((.int q.1,.int q.2):D×D))=some qs
 |[]=>rfl
 |q::r=>by
  rw[aN,iiD,Pr r];rfl
def o7:D->Option (List (Int×Int))
 | .dict kvs=>iiD kvs
 |_=>none
def o8(qs:List (Int×Int)):o7 (dcD qs)=some qs:=Pr qs
def zj:D->D->Option D:=λx y=>(o7 x).bind λqs=>match y with
 | .int i=>(fW qs i).map .int
 |_=>none
def Pu:D->D->Option D:=λy x=>(o7 x).bind λqs=>match y with
 | .int i=>some (.bool (fW qs i).isSome)
 |_=>none
def vo:D->D->Option D:=λy x=>(o7 x).bind λqs=>match y with
 | .int i=>some (.bool (!(fW qs i).isSome))
 |_=>none
def zm:List D->Option D
 |[x]=>(o7 x).bind λqs=>if qs.length<64 then some (.list ((xR (qs.map (·.1))).map .int))else none
 |_=>none
def isL:D->Bool
 | .list _=>true
 |_=>false
def zp(fx fk fz:FE):FE:=λδ=>(fx δ).bind λx=>(fk δ).bind λk=>(fz δ).bind λz=>(o7 x).bind λqs=>match k,z with
 | .int i,.int j=>some (.int ((fW qs i).getD j))
 |_,_=>none
def Ft(f:FE):FA:=λδ=>(f δ).bind λx=>(o7 x).map λqs=>qs.map λq=>.int q.1
def Ka(fa:FA)(fz:FE):FE:=λδ=>(fa δ).bind λl=>(fz δ).bind λz=>match l with
 |[.list m]=>match kE m with
  |some (i::r)=>Od [.list m]
  |some []=>if flat z=true then some z else none
  |none=>none
 |_=>none
end D3
namespace D3
def xU:D->D->Option D:=λx y=>if(dLq x&&dLq y)=true then some (.bool (!PyData.eqv x y))else @ite _ (x=y/\isL x=true/\x.depth<=64/\noK x=true) (eR _) (some (.bool false)) none
def UG{x:D}(h:gNe x y=some d):xU x y=some d:=by
 unfold gNe at h;unfold xU;split at h
 .next z=>rwa[if_pos z]
 .cases h
def Px{x:D}(q:dLq x=false)(hb:isL x=true)(hd:x.depth<=64)(hn:noK x=true):xU x x=some (.bool false):=by
 unfold xU;rw[q,if_neg (by decide),if_pos ⟨rfl,hb,hd,hn⟩]
end D3
namespace D3
def Fv:D->D->Option D:=λx y=>match x,y with
 | .list l,.list m=>(kE l).bind λns=>(kE m).bind λZ=>if ns.length<=1000 then some (.list (ud l m))else none
 |_,_=>none
end D3
namespace D3
end D3
namespace L2
section
variable{κ:Type}[DecidableEq κ]
def uh(kvs:List (κ×V))(k:κ):Option V:=(kvs.find? λZ=>decide (Z.1=k)).map (·.2)
noncomputable def putK(kvs:List (κ×V))(k:κ)(v:V):List (κ×V):=
 if(kvs.any λZ=>decide (Z.1=k))=true then kvs.map (λZ=>if Z.1=k then(Z.1,v)else Z)else kvs++[(k,v)]
def vp(kvs:List (κ×V))(k:κ):List (κ×V):=kvs.filter λZ=>decide (Z.1≠k)
def rJ{p:κ×V}{r:List (κ×V)}{k:κ}(e:p.1=k):uh (p::r) k=some p.2:=by simp[uh,e]
def rK{p:κ×V}{r:List (κ×V)}{k:κ}(e:¬p.1=k):uh (p::r) k=uh r k:=by simp[uh,e]
theorem Fw(k:κ):∀kvs:List (κ×V),(kvs.any λq=>decide (q.1=k))=(uh kvs k).isSome
 |[]=>rfl
 |p::r=>by
  rw[lM];by_cases e:p.1=k
  .simp only[rJ e,dTr e,Bool.true_or,nj]
  .rw[rK e,dFa e,Bool.false_or];exact Fw k r
def xr(kvs:List (κ×V))(k:κ)(v:V):(putK kvs k v).length<=kvs.length+1:=by
 unfold putK;split
 .rw[aG];lia
 .rw[bB,aX,cW];lia
theorem pP.isSome_eq (r:pP c k):c.isSome=k.isSome:=by
 cases c with
 |none=>cases k with
  |none=>rfl
  |some _=>exact(show False from r).elim
 |some _=>cases k with
  |none=>exact(show False from r).elim
  |some _=>rfl
theorem pP.getD (r:pP c k) (rd:RelV q d'):RelV (c.getD q) (k.getD d'):=by
 cases c with
 |none=>cases k with
  |none=>exact rd
  |some _=>exact(show False from r).elim
 |some _=>cases k with
  |none=>exact(show False from r).elim
  |some _=>exact r
theorem KV.val (r:KV c B) (k:κ):pP (uh c k) (valueAt B k):=by
 induction r with
 |nil=>exact eh
 | @cons p q ps qs h t Y=>
  obtain⟨h1,h2⟩:=h;by_cases e:p.1=k
  .have Z:q.1=k:=h1.symm.trans e;have b:valueAt (q::qs) k=some q.2:=by simp[valueAt,Z]
   rwa[rJ e,b]
  .have Z:¬q.1=k:=λz=>e (h1.trans z)
   have b:valueAt (q::qs) k=valueAt qs k:=by simp[valueAt,Z]
   rwa[rK e,b]
theorem KV.any (r:KV c z) (k:κ):(c.any λq=>decide (q.1=k))=z.any λq=>decide (q.1=k):=by
 induction r with
 |nil=>rfl
 |cons h t Z=>rw[lM,lM,Z,h.1]
theorem KV.repl (r:KV c B) (k:κ) (U:RelV F J) :
 KV (c.map λO=>if O.1=k then(O.1,F)else O) (B.map λO=>if O.1=k then(O.1,J)else O):=by
 unfold KV at r ⊢
 induction r with
 |nil=>exact .nil
 | @cons p q ps qs h t Z=>
  rw[aN,aN];refine .cons ?_ Z;obtain⟨h1,h2⟩:=h;by_cases e:p.1=k
  .rw[if_pos e,if_pos (h1.symm.trans e)];exact⟨h1,U⟩
  .rw[if_neg e,if_neg (λz=>e (h1.trans z))];exact⟨h1,h2⟩
def KV.put (r:KV c t) (k:κ) (q:RelV z B):KV (putK c k z) (stored t k B):=by
 unfold putK stored;rw[r.any k];by_cases e:(t.any λZ=>decide (Z.1=k))=true
 .rw[if_pos e,if_pos e];exact r.repl k q
 .rw[if_neg e,if_neg e];exact Paired.snoc r ⟨rfl,q⟩
theorem KV.drop{kvs:List (κ×V)}{vs:List (κ×Value)}(r:KV kvs vs)(k:κ):KV (vp kvs k) (without vs k):=by
 unfold KV at r ⊢;unfold vp without
 induction r with
 |nil=>exact .nil
 | @cons p q ps qs h t Z=>
  obtain⟨h1,h2⟩:=h;rw[lE,lE];by_cases e:p.1=k
  .have a:¬decide (p.1≠k)=true:=by simp[e]
   have b:¬decide (q.1≠k)=true:=by simp[h1.symm.trans e]
   rw[if_neg a,if_neg b];exact Z
  .have Y:¬q.1=k:=λz=>e (h1.trans z)
   have a:decide (p.1≠k)=true:=by simp[e]
   have b:decide (q.1≠k)=true:=by simp[Y]
   rw[if_pos a,if_pos b];exact .cons ⟨h1,h2⟩ Z
theorem KV.keys{kvs:List (κ×V)}{vs:List (κ×Value)}(r:KV kvs vs):kvs.map (·.1)=vs.map (·.1):=by
 induction r with
 |nil=>rfl
 |cons h t Z=>rw[aN,aN,Z,h.1]
def KV.length{kvs:List (κ×V)}{vs:List (κ×Value)}(r:KV kvs vs):kvs.length=vs.length:=Paired.length r
def Py(kvs:List (κ×V))(k:κ):(vp kvs k).length<=kvs.length:=List.length_filter_le _ _
end
theorem zq (r:RelV (kV k) c):(cG P w).is k c=true:=by
 cases k with
 |inl i=>obtain⟨t,e⟩:=(show ∃t,c=ez i t from r);subst e;exact Ed P w i t
 |inr x=>obtain⟨t,e⟩:=(show ∃t,c=eQ x t from r);subst e;exact Ef P w x t
theorem Bk:∀{ks:List Key}{us:List Value},Vals (ks.map kV) us->ItemsAre (cG P w) ks us
 |[],_,r=>by rw[dR]at r;cases r;exact .nil
 |k::ks,_,r=>by
  rw[aN]at r
  cases r with
  |cons h t=>exact .cons (zq h) (Bk t)
abbrev KT(H:Hp):List (List Key×V)->List (List Key×Addr×Value)->Prop:=Paired λp q=>p.1=q.1/\H q.2.1=some (.tup (p.1.map kV))/\RelV p.2 q.2.2
theorem KT.val{kvs:List (List Key×V)}{xs:List (List Key×Addr×Value)}(r:KT H kvs xs)(k:List Key):pP (uh kvs k) ((atKey xs k).map (·.2)):=by
 induction r with
 |nil=>exact eh
 | @cons p q ps qs h t Y=>
  obtain⟨h1,_,h2⟩:=h;by_cases e:p.1=k
  .have Z:q.1=k:=h1.symm.trans e;have b:atKey (q::qs) k=some q.2:=by simp[atKey,Z]
   rwa[rJ e,b]
  .have Z:¬q.1=k:=λz=>e (h1.trans z)
   have b:atKey (q::qs) k=atKey qs k:=by simp[atKey,Z]
   rwa[rK e,b]
theorem KT.repl (r:KT H c B) (k:List Key) (U:RelV F J) :
 KT H (c.map λO=>if O.1=k then(O.1,F)else O) (B.map (putAt k J)):=by
 induction r with
 |nil=>exact .nil
 | @cons p q ps qs h t Z=>
  rw[aN,aN];refine .cons ?_ Z;obtain⟨h1,h2,h3⟩:=h;unfold putAt;by_cases e:p.1=k
  .rw[if_pos e,if_pos (h1.symm.trans e)];exact⟨h1,h2,U⟩
  .rw[if_neg e,if_neg (λz=>e (h1.trans z))];exact⟨h1,h2,h3⟩
def KT.put (r:KT H c t) (k:List Key) (hb:H z=some (.tup (k.map kV))) (O:RelV B F) :
 KT H (putK c k B) (storedH t k z F):=by
 have e:(c.any λZ=>decide (Z.1=k))=(atKey t k).isSome:=by
  rw[Fw,(r.val k).isSome_eq,fX]
 unfold putK storedH;rw[e];by_cases q:(atKey t k).isSome=true
 .rw[if_pos q,if_pos q];exact r.repl k O
 .rw[if_neg q,if_neg q];exact Paired.snoc r ⟨rfl,hb,O⟩
def KT.keeps (r:KT H c k) (q:∀b ys,H b=some (.tup ys)->H' b=some (.tup ys)):KT H' c k:=
 Paired.mapP r λ_ _ z=>⟨z.1,q _ _ z.2.1,z.2.2⟩
section
variable{H:Hp}
def WY(ok:HOk P w H h)(e:Rd H a u):gR P w H h a u:=e.ok ok
def n_ {kvs:List (Key×V)}(ok:HOk P w H h) (e:Rd H a (.dK kvs)):kvs.length<=sizeLine/\(a==sysModules)=false/\∃vs,KV kvs vs/\h.DictOf (cG P w) a vs:=
 show gR P w H h a (.dK kvs)from WY ok e
def W0 (ok:HOk P w H h) (e:H a=some (.dK c)):c.length<=sizeLine/\(a==sysModules)=false/\∃vs,KV c vs/\h.DictOf (cG P w) a vs:=n_ ok (.inl e)
def jZ (ok:HOk P w H h) (e:H a=some (.tup (c.map kV))):(tupleKind (cG P w)).is h c a:=by
 obtain⟨_,its,r,o,h1,h2,n,h3⟩:=(show gR P w H h a (.tup (c.map kV))from ok a _ e);exact⟨o,its.toArray,n,h1,h2,h3,by simpa using Bk r⟩
def zu (ok:HOk P w H h) (e:Rd H a (.dT c)):c.length<=sizeLine/\(a==sysModules)=false /\
 ∃xs,KT H c xs/\h.DictOfH (tupleKind (cG P w)) a xs:=by
 obtain⟨z,y,xs,r,o,es,X,h1,h2,h3,h4,h5⟩:=(show gR P w H h a (.dT c)from WY ok e);refine⟨z,y,xs,r,o,es,X,h1,h2,h3,h4,λx hx=>?_,h5⟩;have all:∀{l:List (List Key×V)}{m:List (List Key×Addr×Value)},KT H l m->∀x∈m,(tupleKind (cG P w)).is h x.1 x.2.1:=by
  intro l m q
  induction q with
  |nil=>intro x hx;exact nomatch hx
  | @cons p q ps qs Z t Y=>
   intro x hx;rcases aL.mp hx with e|hx
   .subst e;exact jZ ok (by rw[<-Z.1];exact Z.2.1)
   .exact Y x hx
 exact all r x hx
def ae5 (ok:HOk P w H h) (e:H a=some (.dT c)):c.length<=sizeLine/\(a==sysModules)=false /\
 ∃xs,KT H c xs/\h.DictOfH (tupleKind (cG P w)) a xs:=zu ok (.inl e)
end
def wD(H:Hp)(a:Addr)(y:V)(r:Option V):Prop:=
 (∃kvs k,Rd H a (.dK kvs)/\y=kV k/\r=uh kvs k)\/∃kvs k b,Rd H a (.dT kvs)/\y = .ref b/\H b=some (.tup (k.map kV))/\r=uh kvs k
def Iu(H:Hp)(a:Addr)(y v:V)(H':Hp):Prop:=
 (∃kvs k,H a=some (.dK kvs)/\y=kV k/\kvs.length<sizeLine/\H'=upd H a (.dK (putK kvs k v))) \/
 ∃kvs k b,H a=some (.dT kvs)/\y = .ref b/\H b=some (.tup (k.map kV))/\kvs.length<sizeLine/\H'=upd H a (.dT (putK kvs k v))
def wD.t{b:Addr}{kvs:List (List Key×V)}{k:List Key}(e:H a=some (.dT kvs))(q:H b=some (.tup (k.map kV))):wD H a (.ref b) (uh kvs k):=.inr ⟨kvs,k,b,.inl e,rfl,q,rfl⟩
def Iu.k {k:Key} (e:H a=some (.dK c)) (q:c.length<sizeLine):Iu H a (kV k) v (upd H a (.dK (putK c k v))):=.inl ⟨c,k,e,rfl,q,rfl⟩
def Iu.t{b:Addr}{kvs:List (List Key×V)}{k:List Key}(e:H a=some (.dT kvs))(O:H b=some (.tup (k.map kV)))(q:kvs.length<sizeLine):
 Iu H a (.ref b) v (upd H a (.dT (putK kvs k v))):=.inr ⟨kvs,k,b,e,rfl,O,q,rfl⟩
section
variable{X:Cx}{σ:St}{H:Hp}{y v:V}{u r:Value}{o:Option V}
def Ml(U:A.units+1<cLine)(I:Inv X pins σ H s)(g:wD H a y (some v))(O:RelV y u)(h:∀q s',Inv X pins σ H s'->RelV v q->Q q s'):
 wpAny (model X.prog X.w) A (getItem (.ref a) u) Q E s:=by
 rcases g with⟨kvs,k,e,W,l⟩|⟨kvs,k,b,e,W,T,l⟩
 .subst W;obtain⟨z,hd,vs,rel,dd⟩:=n_ I.hok e;obtain⟨q,hw,Z⟩:=pP.some_of (v:=v) (o:=valueAt vs k) (by rw[l];exact rel.val k);exact wpAny_getItem_of (zq O) dd.mapOf hw (h q _ (I.tok _) Z)
 .subst W
  cases(show u=dr b from O);obtain⟨z,hd,xs,rel,dd⟩:=zu I.hok e;obtain⟨q,hw,Z⟩:=pP.some_of (v:=v) (o:=(atKey xs k).map (·.2)) (by rw[l];exact rel.val k);obtain⟨p,V,Y⟩:=pL.mp hw;refine wpAny_getItem_heap (bo U) (jZ I.hok T) dd V ?_;rw[Y];exact h q _ (I.tok _) Z
def ap9(U:A.units+1<cLine)(I:Inv X pins σ H s)(g:wD H a y o)(O:RelV y u)(h:∀s',Inv X pins σ H s'->Q (.bool o.isSome) s'):
 wpAny (model X.prog X.w) A (compareOp .In u (.ref a)) Q E s:=by
 rcases g with⟨kvs,k,e,Z,l⟩|⟨kvs,k,b,e,Z,Y,l⟩
 .subst Z;obtain⟨z,hd,vs,rel,dd⟩:=n_ I.hok e;refine wpAny_in_of (zq O) hd dd.mapOf ?_;rw[<-(rel.val k).isSome_eq,<-l];exact h _ (I.tok _)
 .subst Z
  cases(show u=dr b from O);obtain⟨z,hd,xs,rel,dd⟩:=zu I.hok e;refine wpAny_in_heap (bo U) (jZ I.hok Y) hd dd ?_;have q:=(rel.val k).isSome_eq;rw[fX]at q;rw[<-q,<-l];exact h _ (I.tok _)
def UJ(U:A.units+1<cLine)(I:Inv X pins σ H s)(g:wD H a y o)(O:RelV y u)(h:∀s',Inv X pins σ H s'->Q (.bool (!o.isSome)) s'):
 wpAny (model X.prog X.w) A (compareOp .NotIn u (.ref a)) Q E s:=by
 rcases g with⟨kvs,k,e,Z,l⟩|⟨kvs,k,b,e,Z,Y,l⟩
 .subst Z;obtain⟨z,hd,vs,rel,dd⟩:=n_ I.hok e;refine wpAny_notIn_of (zq O) hd dd.mapOf ?_;rw[<-(rel.val k).isSome_eq,<-l];exact h _ (I.tok _)
 .subst Z
  cases(show u=dr b from O);obtain⟨z,hd,xs,rel,dd⟩:=zu I.hok e;refine wpAny_notIn_heap (bo U) (jZ I.hok Y) hd dd ?_;have q:=(rel.val k).isSome_eq;rw[fX]at q;rw[<-q,<-l];exact h _ (I.tok _)
def Cr (I:Inv X pins σ H s) (U:Mut (H a)) (Y:eL a s.heap c) (Z:∃q,c.get? a=some q) (new:gR X.prog X.w (upd H a O) c a O) :
 Inv X pins σ (upd H a O) {s with heap:=c,toks:=t'}:=
 I.write (x:=a) (e:=a) U (.inl rfl) (λb q hb z=>(Y.2 b hb).trans z) Z new
def Pz (z:k.length<=sizeLine) (hd:(a==sysModules)=false) (rel:KV k q) (dd:c.DictOf (cG P w) a q) :
 gR P w H' c a (.dK k):=⟨z,hd,q,rel,dd⟩
def Mp (hu:A.units+1<cLine) (I:Inv X pins σ H s) (g:Iu H a y v H') (O:RelV y u) (rv:RelV v r) (h:∀s',Inv X pins σ H' s'->t () s') :
 wpAny (model X.prog X.w) A (setItem (.ref a) u r) t E s:=by
 rcases g with⟨kvs,k,e,T,l,S⟩|⟨kvs,k,b,e,T,R,l,S⟩
 .subst T S;obtain⟨z,hd,vs,rel,dd⟩:=W0 I.hok e;have W:vs.length<=sizeLine:=by rwa[<-rel.length]
  have U:(putK kvs k v).length<=sizeLine:=by have:=xr kvs k v;lia
  refine wpAny_setItem_pairs (hsz:=W) (zq O) dd λh' Z V=>h _ ?_
  have P:∃q,h'.get? a=some q:=let⟨q,_,_,Y,_⟩:=Z;⟨q,Y⟩;exact Cr I (by rw[e];exact eh) V P (Pz U hd (rel.put k rv) Z)
 .subst T S
  cases(show u=dr b from O);obtain⟨z,hd,xs,rel,dd⟩:=ae5 I.hok e;have W:xs.length<=sizeLine:=by rwa[<-Paired.length rel]
  have U:(putK kvs k v).length<=sizeLine:=by have:=xr kvs k v;lia
  refine wpAny_setItem_heap (hsz:=W) (bo hu) (jZ I.hok R) dd λh' Z V=>h _ ?_
  obtain⟨q,es,N,Y,h2,h3,h4,_,h5⟩:=Z;refine Cr I (by rw[e];exact eh) V ⟨q,Y⟩ ⟨U,hd,_,(rel.put k R rv).keeps λc ys M=>?_,q,es,N,Y,h2,h3,h4,h5⟩;rwa[bA (dJ M e (λz=>nomatch z))]
end
section
variable{X:Cx}{σ:St}{H:Hp}{kvs:List (Key×V)}{k:Key}{u:Value}
def ae6{more:List Value}(I:Inv X pins σ H s)(e:H a=some (.dK kvs))(U:RelV (kV k) u)(l:uh kvs k=some v)(hm:more=[]\/∃x,more=[x])
 (h:∀O s',Inv X pins σ (upd H a (.dK (vp kvs k))) s'->RelV v O->Q O s'):wpAny (model X.prog X.w) A (call (.builtin "dict.pop") (.ref a::u::more)) Q E s:=by
 obtain⟨z,hd,vs,rel,dd⟩:=W0 I.hok e;obtain⟨O,hw,Y⟩:=pP.some_of (v:=v) (o:=valueAt vs k) (by rw[<-l];exact rel.val k);have T:(keyPart u).isSome=true:=by
  cases k with
  |inl i=>obtain⟨t,q⟩:=(show ∃t,u=ez i t from U);subst q;rfl
  |inr x=>obtain⟨t,q⟩:=(show ∃t,u=eQ x t from U);subst q;rfl
 have ha:argsOk "dict.pop" ⟨.ref a::u::more,[]⟩:=by
  rcases hm with q|⟨x,q⟩
  .subst q;exact PySem.F.args_dict_pop_2 _ _
  .subst q;exact PySem.F.args_dict_pop_3 _ _ _
 refine b9 PySem.F.slot_dict_pop dd.typeIs PySem.F.entry_dict_pop ha (meets_dict_pop_there (cG X.prog X.w) a (zq U) more hm T)
  ⟨vs,O,dd,by rw[<-rel.length];exact z,hw,λh' Z W=>h O _ ?_ Y⟩
 have S:∃q,h'.get? a=some q:=let⟨q,_,_,V,_⟩:=Z;⟨q,V⟩;exact Cr I (by rw[e];exact eh) W S (Pz (bf (Py kvs k) z) hd (rel.drop k) Z)
end
def UL(i:Expr):Prop:=∀Z Y,subscripted i false Z Y=operate [Z,Y] (getItem Z Y)
def UW {value slice:Expr} {T id:String}
 (hl:typeLookup (.type T) "__getitem__"=pure (some (.builtin id))) (hs:UL slice)
 (h:wpAny (model prog w) A (eval value env) (λo O=>wpAny (model prog w) A (eval slice env) (λi q=>q.TypeIs o T/\wpAny (model prog w) A (getItem o i) Q E q) E O) E s) :
 wpAny (model prog w) A (eval (.Subscript value slice pos) env) Q E s:=by
 refine Subscript_ (ar h (λo O V=>ar V (λi q Z=>?_) λ_ _ x=>x) λ_ _ x=>x);obtain⟨U,Z⟩:=Z;refine aa ?_;rw[getitemInPython_of_ne U.not_modules];refine aa (cS U hl ?_);have X:wpAny (model prog w) A (subscripted slice false o i) (λr Y=>wpAny (model prog w) A (letTemporaryGo value o r >>= λ_=>pure r) Q E Y) E q:=by
  rw[hs o i];exact wpAny_operating (ar Z (λr Y W=>aa (wpAny_letTemporaryGo (ag W))) λ_ _ x=>x)
 first
  |exact ag (aa X)
  |exact aa (ag (aa X))
  |exact aa X
def Fx (I:Inv X pins σ H s) (g:wD H a c q):s.TypeIs (.ref a) "dict" := by
 rcases g with⟨kvs,k,e,_,_⟩|⟨kvs,k,b,e,_,_,_⟩
 .obtain⟨_,_,vs,_,dd⟩:=n_ I.hok e;exact dd.typeIs
 .obtain⟨_,_,xs,_,dd⟩:=zu I.hok e;exact dd.typeIs
def ae7(td ty:TE):TE:=λσ H Q=>td σ H λx H1=>ty σ H1 λy H2=>∃a v,x = .ref a/\wD H2 a y (some v)/\Q v H2
def ae8(td ty tv:TE):TS:=λD σ H=>tv σ H λv H1=>td σ H1 λx H2=>ty σ H2 λy Y=>∃a Z,x = .ref a/\Iu Y a y v Z/\D.nx σ Z
section
variable{X:Cx}{o i value:Expr}{td ty tv:TE}
def Kc(q:X.A.units+1<cLine)(U:PE X o td)(hi:PE X i ty)(O:UL i):PE X (.Subscript o i pos) (ae7 td ty):=by
 intro pins s σ H Q I h;refine UW PySem.F.slot_dict_getitem.lookup O (thn (U pins s σ H _ I h) λu s1 ⟨x,H1,S,V,q1⟩=>thn (hi pins s1 σ H1 _ S q1) λN s2 ⟨y,H2,Y,W,a,v,ex,g,q2⟩=>?_);subst ex;obtain rfl:u=dr a:=V;exact⟨Fx Y g,Ml q Y g W λR P T Z=>⟨v,H2,T,Z,q2⟩⟩
def U0(O:X.A.units+1<cLine)(ho:PE X o td)(hi:PE X i ty)(q:PE X value tv)(U:swapsWith value (some (.Subscript o i pos')) pos.line X.env=pure false):
 PS X (.Assign [.Subscript o i pos'] value pos) (ae8 td ty tv):=by
 intro pins s σ H D I h;refine wpAny_Assign_Subscript (thn (q pins s σ H _ I h) λr s1 ⟨v,H1,R,W,q1⟩=>thn (ho pins s1 σ H1 _ R q1) λu s2 ⟨x,H2,S,Y,q2⟩=>thn (hi pins s2 σ H2 _ S q2) λM N ⟨y,L,T,Z,a,Q,ex,g,q3⟩=>?_) U;subst ex;obtain rfl:u=dr a:=Y;exact Mp O T g Z W λP V=>⟨σ,Q,V,q3⟩
end
section
variable{X:Cx}
end
structure M1(X:Cx)(o:Expr)(m:Str)(apos:Pos)(e:Expr)(cpos:Pos):Prop where
 base:attributeBase o m X.env (eval o X.env)=eval o X.env
 few:((backTo cpos (starEach [e] X.env)).all (λx=>!x.1)&&(backToKw cpos (keywordEach [] X.env)).all (λx=>x.1.isSome)
  && decide (([e]:List Expr).length+([]:List eI).length+(if([]:List eI).isEmpty then 0 else 1)<30))=true
 line:(apos.endLine==cpos.line)=true
 trees:backTo cpos (starEach [e] X.env)=[(false,eval e X.env)]
structure M2(X:Cx)(o:Expr)(m:Str)(apos:Pos)(e f:Expr)(cpos:Pos):Prop where
 base:attributeBase o m X.env (eval o X.env)=eval o X.env
 few:((backTo cpos (starEach [e,f] X.env)).all (λx=>!x.1)&&(backToKw cpos (keywordEach [] X.env)).all (λx=>x.1.isSome)
  && decide (([e,f]:List Expr).length+([]:List eI).length+(if([]:List eI).isEmpty then 0 else 1)<30))=true
 line:(apos.endLine==cpos.line)=true
 trees:backTo cpos (starEach [e,f] X.env)=[(false,eval e X.env),(false,eval f X.env)]
def IsD(H:Hp)(a:Addr):Prop:=(∃kvs,Rd H a (.dK kvs))\/∃kvs,Rd H a (.dT kvs)
def Cu (I:Inv X pins σ H s) (d:IsD H a) :
 s.TypeIs (.ref a) "dict"/\(∀b,dr a = .ref b->∃O,s.heap.get? b=some O/\O.dict=none)/\(a==sysModules)=false:=by
 rcases d with⟨kvs,e⟩|⟨kvs,e⟩
 .obtain⟨_,hd,vs,_,dd⟩:=n_ I.hok e;refine⟨dd.typeIs,λb q=>?_,hd⟩
  cases q;obtain⟨O,_,_,h1,h2,_⟩:=dd;exact⟨O,h1,h2.2.1⟩
 .obtain⟨_,hd,xs,_,dd⟩:=zu I.hok e;refine⟨dd.typeIs,λb q=>?_,hd⟩
  cases q;obtain⟨O,_,_,h1,h2,_⟩:=dd;exact⟨O,h1,h2.2.1⟩
section
variable{X:Cx}{σ:St}{H:Hp}{y d:V}{u r:Value}{o:Option V}
def Yy(U:A.units+1<cLine)(I:Inv X pins σ H s)(g:wD H a y o)(O:RelV y u)(rd:RelV d r)(h:∀q s',Inv X pins σ H s'->RelV (o.getD d) q->Q q s'):
 wpAny (model X.prog X.w) A (call (.builtin "dict.get") [.ref a,u,r]) Q E s:=by
 rcases g with⟨kvs,k,e,Z,l⟩|⟨kvs,k,b,e,Z,Y,l⟩
 .subst Z;obtain⟨z,hd,vs,rel,dd⟩:=n_ I.hok e;refine b9 PySem.F.slot_dict_get dd.typeIs PySem.F.entry_dict_get (PySem.F.args_dict_get_3 _ _ _) (meets_dict_get_default (cG X.prog X.w) a (zq O) hd r) ⟨_,dd.mapOf,h _ _ (I.tok _) ?_⟩;rw[l];exact(rel.val k).getD rd
 .subst Z
  cases(show u=dr b from O);obtain⟨z,hd,xs,rel,dd⟩:=zu I.hok e;refine b9 PySem.F.slot_dict_get dd.typeIs PySem.F.entry_dict_get (PySem.F.args_dict_get_3 _ _ _) (meetsH_dict_get_default (tupleKind (cG X.prog X.w)) a b hd r) ⟨bo U,k,xs,jZ I.hok Y,dd,h _ _ (I.tok _) ?_⟩;rw[l];exact(rel.val k).getD rd
end
noncomputable def Yz(td ty tx:TE):TE:=λσ H Q=>td σ H λx H1=>∃a,x = .ref a/\IsD H1 a/\ty σ H1 λy H2=>tx σ H2 λz Z=>∃o,wD Z a y o/\Q (o.getD z) Z
def YB(td ty:TE):TE:=λσ H Q=>td σ H λx H1=>∃a,x = .ref a/\IsD H1 a/\ty σ H1 λy H2=>∃kvs k v,H2 a=some (.dK kvs)/\y=kV k/\uh kvs k=some v/\Q v (upd H2 a (.dK (vp kvs k)))
section
variable{X:Cx}{o f:Expr}{td ty tx:TE}
def PB(q:X.A.units+1<cLine)(O:PE X o td)(he:PE X e ty)(hf:PE X f tx)(m:M2 X o "get" apos e f cpos):PE X (.Call (.Attribute o "get" apos) [e,f] [] cpos) (Yz td ty tx):=by
 intro pins s σ H Q I h;refine wpAny_Call_method m.base m.few m.line PySem.F.plainAttrs_dict PySem.F.slot_dict_get PySem.F.type_dict_get (thn (O pins s σ H _ I h) λu s1 ⟨x,H1,Y,S,a,ex,d,q1⟩=>?_);subst ex;obtain rfl:u=dr a:=S;obtain⟨V,W,_⟩:=Cu Y d;refine⟨V,W,?_⟩;rw[m.trees];refine bb rfl (bE (bn (thn (he pins s1 σ H1 _ Y q1) λE s2 ⟨y,H2,N,T,q2⟩=>
  bn (thn (hf pins s2 σ H2 _ N q2) λfv J ⟨z,M,P,U,G,g,q3⟩=>bu ?_))))
 exact Yy q P g T U λL K R Z=>⟨_,M,R,Z,q3⟩
def PJ(q:PE X o td)(O:PE X e ty)(m:M1 X o "pop" apos e cpos):PE X (.Call (.Attribute o "pop" apos) [e] [] cpos) (YB td ty):=by
 intro pins s σ H Q I h;refine wpAny_Call_method m.base m.few m.line PySem.F.plainAttrs_dict PySem.F.slot_dict_pop PySem.F.type_dict_pop (thn (q pins s σ H _ I h) λu s1 ⟨x,H1,Y,T,a,ex,d,q1⟩=>?_);subst ex;obtain rfl:u=dr a:=T;obtain⟨V,W,_⟩:=Cu Y d;refine⟨V,W,?_⟩;rw[m.trees];refine bb rfl (bE (bn (thn (O pins s1 σ H1 _ Y q1) λL s2 ⟨y,H2,P,U,kvs,k,v,ea,S,l,q2⟩=>bu ?_)));subst S;exact ae6 P ea U l (.inl rfl) λN M R Z=>⟨v,_,R,Z,q2⟩
end
section
variable{X:Cx}{σ:St}{H:Hp}{kvs:List (Key×V)}
end
section
variable{X:Cx}{σ:St}{H:Hp}{y:V}{u:Value}
end
section
variable{κ:Type}[DecidableEq κ]
end
end L2
namespace XK
open L2 My D3
section
variable{H:Hp}
theorem Ke:∀(qs:List (Int×Int))(i:Int),uh (qs.map λq=>((.inl q.1,.int q.2):Key×V)) (.inl i)=(fW qs i).map V.int
 |[],i=>rfl
 |q::r,i=>by
  rw[aN];by_cases h:q.1=i
  .rw[rJ (by rw[h])];simp[fW,h]
  .rw[rK (λz=>h (by injection z)),Ke r i];simp[fW,h]
def yh(s:Same H H')(h:L2.Rd H a u):L2.Rd H' a u:=by
 rcases h with h|⟨o,h⟩
 .exact .inl (s _ _ h)
 .exact .inr ⟨o,s _ _ h⟩
theorem nF{ok:Ok}{pl:Bool}{x:D}(e:o7 x=some qs)(r:RA K ok pl H v x):∃a,v = .ref a/\L2.Rd H a (.dK (qs.map λq=>(.inl q.1,.int q.2))):=by
 cases x with
 |dict kvs=>
  obtain⟨a,rfl,h⟩:=r.dicE (Ii e);rw[O3 e,Ih e]at h;exact⟨a,rfl,h⟩
 |none=>cases e
 |bool _=>cases e
 |int _=>cases e
 |str _=>cases e
 |list _=>cases e
 |tuple _=>cases e
def yj(i:Int)(h:L2.Rd H a (.dK (qs.map λq=>(.inl q.1,.int q.2)))):wD H a (.int i) ((fW qs i).map V.int):=
 .inl ⟨_,.inl i,h,rfl,(Ke qs i).symm⟩
end
section
variable{X:Cx}{fl:List Fl}{a b c:Expr}{fa:FE}
def Kf(O:X.A.units+1<cLine)(ha:DE X fl .P a fa)(hb:DE X fl .P b fb)(U:UL b):DE X fl .FC (.Subscript a b pos) (dOp zj fa fb):=PE.imp (Kc O ha hb U) λσ H Q h=>by
 refine D3.ex4 h λG ow δ d R V q=>?_
 refine D3.ex2 (rF V) λx y M N S=>?_
 refine⟨G,ow,δ,x,R,M,λv H1 s1 r1=>⟨G,ow,δ,y,R.grow s1,N,λu H2 s2 r2=>?_⟩⟩;refine D3.ex1 (bind1 S) λqs T Z=>?_
 obtain⟨p,rfl,W⟩:=nF T r1;split at Z
 .next i=>
  obtain rfl:=RA.intE r2
  cases Y:fW qs i with
  |none=>rw[Y]at Z;cases Z
  |some j=>
   rw[Y]at Z
   cases Z;have g:=yj i (yh s2 W);rw[Y]at g;exact⟨p,.int j,rfl,g,q _ H2 (s1.trans s2) (.inl ⟨rfl,.int j⟩)⟩
 .cases Z
def YC:R2:=λx y H Q=>∃p o,y = .ref p/\wD H p x o/\Q (.bl o.isSome) H
def Cv:R2:=λx y H Q=>∃p o,y = .ref p/\wD H p x o/\Q (.bl (!o.isSome)) H
def PN(O:X.A.units+64<cLine):OpR X (compareOp .In) YC:=by
 intro pins s σ H x y v u Q I Y Z h;obtain⟨p,o,rfl,g,q⟩:=h;obtain rfl:u=dr p:=Z;exact ap9 (by lia) I g Y λs' W=>⟨.bl o.isSome,H,W,rfl,q⟩
def wF(O:X.A.units+64<cLine):OpR X (compareOp .NotIn) Cv:=by
 intro pins s σ H x y v u Q I Y Z h;obtain⟨p,o,rfl,g,q⟩:=h;obtain rfl:u=dr p:=Z;exact UJ (by lia) I g Y λs' W=>⟨.bl (!o.isSome),H,W,rfl,q⟩
def ae9:BrO K YC Pu:=by
 intro H x y dx U d Q X Y e q;refine D3.ex1 (bind1 e) λqs V Z=>?_
 obtain⟨p,rfl,W⟩:=nF V Y;split at Z
 .next i=>
  cases Z;obtain rfl:=RA.intE X;refine⟨p,_,rfl,yj i W,?_⟩;rw[fX];exact q _ rfl (.bl _)
 .cases Z
def PX:BrO K Cv vo:=by
 intro H x y dx U d Q X Y e q;refine D3.ex1 (bind1 e) λqs V Z=>?_
 obtain⟨p,rfl,W⟩:=nF V Y;split at Z
 .next i=>
  cases Z;obtain rfl:=RA.intE X;refine⟨p,_,rfl,yj i W,?_⟩;rw[fX];exact q _ rfl (.bl _)
 .cases Z
theorem Kg:∀(l:List Value)(ns:List Int),l.length=ns.length->(∀(j:Nat)(v:Value),l[j]? = some v->∃n t,ns[j]? = some n/\v=ez n t)->fo l ns
 |[],[],_,_=>.nil
 |[],_::_,h,_=>by simp at h
 |_::_,[],h,_=>by simp at h
 |v::l,n::ns,h,g=>by
  obtain⟨W,t,X,Y⟩:=g 0 v rfl
  cases X;subst Y;exact .cons _ _ (Kg l ns (by simpa using h) λj v Z=>by simpa using g (j+1) v (by simpa using Z))
def Cw(hc:X.calm=true):lB X (.builtin "sorted") (λxs H Q=>∃(p:Addr)(qs:List (Int×Int)),xs=[.ref p]/\L2.Rd H p (.dK (qs.map λq=>(.inl q.1,.int q.2)))/\qs.length<64/\∀l,H l=none->Q (.ref l) (upd H l (.lst ((xR (qs.map (·.1))).map V.int)))):=by
 intro pins s σ H xs us Q I r h;obtain⟨p,qs,rfl,hx,Z,q⟩:=h;obtain⟨u,rfl,K⟩:=vals1 r
 cases K;obtain⟨_,hd,vs,rel,dd⟩:=n_ I.hok hx;obtain⟨B,N⟩:=dd.dictAt;have hlen:vs.length=qs.length:=by rw[<-rel.length,aG]
 refine Calls.call_function_entry kind_sorted plain_sorted entry_sorted (args_sorted1 _) ?_;unfold eK.«sorted»;refine aa (m:=checkCount "sorted" 1 1 _) (ag ?_);refine aa (PySem.W.kdu_collect (A:=X.A.in1) (PySem.W.kdl_dict (knd:=cG X.prog X.w) (kvs:=vs) (ep:=B) hd) (I.ok.hd hc) N (by rw[hlen];exact bf (gA Z) (by decide)) λh' tk acc E Y=>?_);have O:acc.toList.length=qs.length:=by rw[cN,Y.1,hlen]
 have C:fo acc.toList (qs.map (·.1)):=Kg _ _ (by rw[O,aG]) λj v F=>by
  obtain⟨k,x,S,R⟩:=Y.2 j v (by rw[<-gQ];exact F);obtain⟨i,j',t,rfl,_,_⟩:=(lO rel).2 k x (cY S);have P:(vs.map (·.1))[j]? = some (.inl i):=by rw[aP,S];rfl
  rw[(lO rel).1,aP]at P
  cases M:qs[j]? with
  |none=>rw[M]at P;cases P
  |some q0=>
   rw[M]at P;have z:q0.1=i:=by simpa using P
   rw[yC]at R;obtain⟨t,rfl⟩:∃t,v=ez i t:=Value.isInt_shape R;exact⟨i,t,by rw[aP,M,<-z];rfl,rfl⟩
 have L:L2.Inv X pins σ H {s with heap:=h',toks:=tk}:=I.kept E;refine aa (wpAny_newList ?_ (by rw[O];exact bf (gA Z) (by decide)));have U:(h'.push (seqObj "list" acc.toList.toArray 0)).get? h'.objs.size=some (seqObj "list" acc.toList.toArray 0):=ai _ rfl;show wpAny _ _ _ _ _ {s with heap:=h'.push (seqObj "list" acc.toList.toArray 0),toks:=tk};refine aa (aI (cK slot_list_sort ⟨_,U,rfl⟩ entry_list_sort (list_sort_tree U C (by rw[O];exact Z) λout J a1 a2 a3=>⟨_,rfl,?_⟩) (args_list_sort _)));refine ag ⟨_,rfl,?_⟩;obtain rfl:=Bb (a2.trans (lJ _).symm) a3 (w6 _);obtain⟨e,D⟩:=sortedHeap_at (out:=out) U;have hn:H h'.objs.size=none:=L.hok.fresh (aV _);have G:(xR (qs.map (·.1))).length=qs.length:=by rw[(lJ _).length_eq,aG]
 have y:=L.laid (h':=sortedHeap (h'.push (seqObj "list" acc.toList.toArray 0)) h'.objs.size acc.toList out) (t':=tk) (a:=h'.objs.size) (o:=.lst ((xR (qs.map (·.1))).map V.int)) (λb u e=>by
  have T:=af e;rw[sortedHeap_old (bF T) (by rw[size_push'];exact uN T)];exact ae _ e) (aV _)
  ⟨by rw[aG,G];exact bf (gA Z) (by decide),out.toList,e,D3.oV a1,by simpa[seqObj]using D⟩
 exact⟨.ref _,_,y,rfl,q _ hn⟩
end
end XK
namespace XK
open L2 My D3
def hu1(h:n+64<cLine):n+1<cLine:=by lia
abbrev dkI(qs:List (Int×Int)):List (Key×V):=qs.map λq=>(.inl q.1,.int q.2)
section
variable{X:Cx}{fl:List Fl}{a b c:Expr}{fa:FE}
def P0(hc:X.calm=true){fa:FA}{p:Pos}(ha:DB X fl .P [e] fa)(U:Gl X "sorted")(hm:X.mg "sorted"=none)
 (he:starEach [e] X.env=(false,eval e X.env)::starEach [] X.env:=by rfl) (O:(backTo pos (starEach [] X.env)).any (·.1)=false:=by rfl):DE X fl .FC (.Call (.Name "sorted" p) [e] [] pos) (dCall zm fa):=
 PE.imp (rA (Cw hc) U hm (show bootBuiltins "sorted"=some (.builtin "sorted")by decide +kernel) ha (by decide) (by decide) he O) λσ H Q h=>by
 refine D3.ex4 h λG ow δ d R T q=>?_
 refine D3.ex1 (bind1 T) λds N W=>?_
 refine⟨G,ow,δ,ds,R,N,λvs H' s V=>?_⟩;unfold zm at W;split at W
 .next x=>
  refine D3.ex1 (bind1 W) λqs S Y=>?_
  by_cases Z:qs.length<64
  .rw[if_pos Z]at Y
   cases Y
   cases V with
   |cons r1 r2=>
    cases r2;obtain⟨a,rfl,hx⟩:=nF S r1;exact⟨a,qs,rfl,hx,Z,λl hn=>q _ _ (s.trans (cP hn _)) (.inr ⟨_,_,_,rfl,rfl,s.free hn,bM,sO _⟩)⟩
  .rw[if_neg Z]at Y;cases Y
 .cases W
def P_(O:X.A.units+1<cLine){apos cpos:Pos}(ha:DE X fl .P a fa)(hb:DE X fl .P b fb)(hc:DE X fl .P c fc)(hm:M2 X a "get" apos b c cpos):DE X fl .FC (.Call (.Attribute a "get" apos) [b,c] [] cpos) (zp fa fb fc):=
 PE.imp (PB O ha hb hc hm) λσ H Q h=>by
 refine D3.ex4 h λG ow δ d R Z q=>?_
 refine D3.ex1 (bind1 Z) λx M Y=>?_
 clear Z;have Z:=Y;clear Y;refine D3.ex1 (bind1 Z) λk N Y=>?_
 clear Z;have Z:=Y;clear Y;refine D3.ex1 (bind1 Z) λz S Y=>?_
 clear Z;have Z:=Y;clear Y;refine D3.ex1 (bind1 Z) λqs T Y=>?_
 clear Z;have Z:=Y;clear Y;split at Z
 case h_2=>cases Z
 next i j=>
 cases Z;refine⟨G,ow,δ,x,R,M,λv H1 s1 r1=>?_⟩;obtain⟨p,rfl,U⟩:=nF T r1;refine⟨p,rfl,.inl ⟨_,U⟩,G,ow,δ,_,R.grow s1,N,λu H2 s2 r2=>⟨G,ow,δ,_,R.grow (s1.trans s2),S,λw L W r3=>?_⟩⟩;obtain rfl:=RA.intE r2;obtain rfl:=RA.intE r3;refine⟨_,yj i (yh (s2.trans W) U),?_⟩;have e:((fW qs i).map V.int).getD (.int j) = .int ((fW qs i).getD j):=by cases fW qs i<;>rfl
 rw[e];exact q _ L ((s1.trans s2).trans W) (.inl ⟨rfl,.int _⟩)
def YD(K:PySem.W.Frag):R2:=λx y H Q=>X8 K x y H Q\/∃ds,RA K ok1 true H x (.list ds)/\RA K ok1 true H y (.list ds)/\(eF ds).depth<=64/\tG ds=true/\Q (.bl false) H
def Qa(O:X.A.units+64<cLine):OpR X (compareOp .NotEq) (YD X.K):=by
 intro pins s σ H x y v u Q I U V h;rcases h with h|⟨ds,r1,r2,hd,hn,q⟩
 .exact wg O pins s σ H x y v u Q I U V h
 .obtain⟨a,xs,rfl,s1,q1⟩:=r1.lstE;obtain⟨b,ys,rfl,s2,q2⟩:=r2.lstE
  cases U;cases V;obtain⟨its,W,p1,P⟩:=I.list s1;obtain⟨Z,Y,p2,S⟩:=I.list s2;have T:(eF ds).depth=dn ds+1:=by simp[du]
  have l1:its.length=ds.length:=by rw[<-W.length,q1.length]
  have l2:Z.length=ds.length:=by rw[<-Y.length,q2.length]
  have R:=SeqAt.RcNeAt.lists (A:=X.A) (e:=λ_=>true) p1.isList p2.isList (by rw[bC,bC,l1,l2]) (by lia) (λj g1 g2=>nD I ds q1 q2 W Y X.A.in1 (by simp only[bj];lia) hn j (by simpa using g1) (by simpa using g2));rw[show(!(b_ its.toArray.size).all (λ_=>true))=false by simp]at R;exact R _ _ _ _ ⟨.bl false,H,I,rfl,q⟩
def W2:BrO K (YD K) xU:=by
 intro H x y dx X d Q Y Z e q;unfold xU at e;by_cases z:(dLq dx&&dLq X)=true
 .rw[if_pos z]at e
  cases e;rw[aO]at z;exact .inl ⟨dx,X,Y.rd (ah z.1),Z.rd (ah z.2),z.1,z.2,q _ rfl (.bl _)⟩
 .rw[if_neg z]at e;split at e
  .next c=>
   obtain⟨T,U,V,W⟩:=c;subst T
   cases e
   cases dx<;>first|(cases U;done)|skip
   exact .inr ⟨_,Y,Z,V,W,q _ rfl (.bl _)⟩
  .cases e
end
end XK
namespace XK
open L2 My D3
def Mq(X:Cx)(a:Addr):Prop:=(∀xs,X.H₀ a≠some (.tup xs))/\(∀o u,X.H₀ a≠some (.frz o u))/\∀q p,X.H₀ a≠some (.tbl q p)
section
variable{X:Cx}{σ:L2.St}{H H':Hp}{kvs:List (Key×V)}{o:Obj}
def Cy(I:L2.Inv X pins σ H s)(h:H a=some (.dK kvs)):Mq X a:=
 ⟨λxs z=>(by rw[I.base.tups a xs z]at h;cases h),λo u z=>(by rw[I.base.frzs a o u z]at h;cases h),λq p z=>(by
  rw[I.base.tbls a q p z]at h;cases h)⟩
def Qc(I:L2.Inv X pins σ H s)(hn:Mq X a)(ha:H a≠none)(hb:∀b,b≠a->H' b=H b)(hok:HOk X.prog X.w H' s.heap):L2.Inv X pins σ H' s:=by
 have no:∀b,H b=none->H' b=none:=λb z=>by
  rw[hb b (λe=>ha (by rwa[<-e]))];exact z
 refine⟨I.ok,I.os,I.bare,⟨I.base.keep,I.base.slot,λb o e n hx=>no b (I.base.free b o e n hx),I.base.there,λb xs e=>?_,λb o u e=>?_,λb q p e=>?_⟩,I.loc,I.cell,no _ I.free,λx c e=>no _ (I.freeC x c e),λp Z=>?_,hok,I.len⟩
 .rw[hb b (λz=>hn.1 xs (by rwa[<-z]))];exact I.base.tups b xs e
 .rw[hb b (λz=>hn.2.1 o u (by rwa[<-z]))];exact I.base.frzs b o u e
 .rw[hb b (λz=>hn.2.2 q p (by rwa[<-z]))];exact I.base.tbls b q p e
 .obtain⟨h1,h2,h3⟩:=I.pin p Z;exact⟨h1,no _ h2,h3⟩
def Kh(I:L2.Inv X pins σ H s)(h:H a=some (.dK kvs))(O:s.heap.get? a=some o):L2.Inv X pins σ (upd H a (.frz o (.dK kvs))) s:=by
 have Z:Mut (H a):=by rw[h];exact eh
 refine Qc I (Cy I h) (by rw[h];simp) (λb hb=>bA hb) (I.hok.write Z (.inl rfl) (λ_ _ _ q=>q) ⟨o,O⟩ ⟨O,?_⟩);exact(I.hok a _ h).stay (λ_ _ _ q=>q) (λb q=>by rw[bA (dJ q h (by intro z;cases z))];exact q) (λb xs q=>by rw[bA (dJ q h (by intro z;cases z))];exact q)
def Fy(I:L2.Inv X pins σ H s)(hn:Mq X a)(h:H a=some (.frz o (.dK kvs))):L2.Inv X pins σ (upd H a (.dK kvs)) s:=by
 have st:∀b u,gR X.prog X.w H s.heap b u->gR X.prog X.w (upd H a (.dK kvs)) s.heap b u:=λb u z=>
  z.stay (λ_ _ _ q=>q) (λc q=>by rw[bA (dJ q h (by intro z;cases z))];exact q) (λc xs q=>by rw[bA (dJ q h (by intro z;cases z))];exact q)
 refine Qc I hn (by rw[h];simp) (λb hb=>bA hb) λb u e=>?_
 by_cases hb:b=a
 .subst hb;rw[bM]at e
  cases e;exact st _ _ (I.hok b _ h).2
 .rw[bA hb]at e;exact st b u (I.hok b u e)
end
def Itk(o:Obj)(a:Addr)(kvs:List (Key×V)):It:=
 ⟨λi H=>H a=some (.frz o (.dK kvs))/\i<kvs.length,λi H x H'=>H'=H/\∃k v,kvs[i]? = some (k,v)/\x=kV k,λi H=>H a=some (.frz o (.dK kvs))/\kvs.length<=i⟩
def Cz{σ:L2.St}{kvs:List (Key×V)}{o:Obj}{ep:Nat}(I:L2.Inv X pins σ H s)(h:H a=some (.frz o (.dK kvs)))(hd:o.data = .dict es ep):
 ∃vs,KV kvs vs/\s.heap.DictAt (cG X.prog X.w) a vs ep:=by
 obtain⟨Z,_,_,vs,rel,o',U,T,Y,R,W,S⟩:=I.hok a _ h;rw[Z]at Y
 cases Y;rw[hd]at W
 cases W;exact⟨vs,rel,o,es,Z,R,hd,S⟩
def Iv{k:Key}{v:Value}(h:(cG P w).is k v=true):RelV (kV k) v:=by
 rw[yC]at h;rcases gC h with⟨i,t,rfl,rfl⟩|⟨x,t,rfl,rfl⟩
 .exact⟨t,rfl⟩
 .exact⟨t,rfl⟩
theorem Fz(o:Obj)(a it:Addr)(kvs:List (Key×V)){es:Array DictEntry}{ep:Nat}(hd:o.data = .dict es ep):Turn P w K tg (Itk o a kvs) [it] it (λi h=>h.IsKeyIter it a i kvs.length ep) where
 mem:=by simp
 obj:=λi h st b hb=>by
  have e:b=it:=by simpa using hb
  subst e;obtain⟨o,e,c,d⟩:=st;exact⟨o,e,λv z=>by rw[d]at z;cases z⟩
 keep:=λi h h' st k=>by
  obtain⟨o,e,r⟩:=st;exact⟨o,k it (by simp) o e,r⟩
 item:=by
  intro X N hw M D i pins s σ H E I U st O;subst N hw M;obtain⟨R,hi⟩:=O;obtain⟨vs,rel,dat⟩:=Cz I R hd;have ln:=rel.length;rw[ln]at hi;obtain⟨F,f1,f2,G,J,L⟩:=U it (by simp);obtain⟨⟨k,x⟩,hx⟩:∃p,vs[i]? = some p:=⟨vs[i],by simp[hi]⟩;have Q:∃v,kvs[i]? = some (k,v):=by
   have W:(vs.map (·.1))[i]? = some k:=by rw[aP,hx];rfl
   rw[<-rel.keys,aP]at W
   cases C:kvs[i]? with
   |none=>rw[C]at W;cases W
   |some p=>
    rw[C]at W;obtain⟨B,v⟩:=p;have:B=k:=by simpa using W
    subst this;exact⟨v,rfl⟩
  obtain⟨v,Q⟩:=Q;rw[ln]at st;refine wpAny_pyNext_dict_item st dat hx λT h' Y Z S=>?_
  have y:L2.Inv X pins σ H {s with heap:=h'}:=I.turned (t':=s.toks) (λb o hb e=>(S.2 b hb).trans e) F f1 G J L;obtain⟨u,e,c,d⟩:=id Z;exact⟨T,rfl,Ei (s:={s with heap:=h'}) e c d (by decide) ⟨kV k,H,y,Iv Y,⟨rfl,k,v,Q,rfl⟩,by rw[ln];exact Z,λb hb=>(U b hb).1⟩⟩
 done:=by
  intro X N hw M D i pins s σ H E I U st O;subst N hw M;obtain⟨R,hi⟩:=O;obtain⟨vs,rel,dat⟩:=Cz I R hd;have ln:=rel.length;rw[ln]at st hi;obtain⟨F,f1,f2,G,J,L⟩:=U it (by simp);exact wpAny_pyNext_dict_end (I.ok.hd D) st dat (bD hi) λh' A=>⟨rfl,I.turned (t':=s.toks) (λb o hb e=>A b o hb e) F f1 G J L⟩
 self:=λ_ _ _ _ _ st h=>wpAny_pyIter_keyiter st h
def af0(X:Cx)(tl:TE):TI:=λσ H R=>tl σ H λx H1=>∃a kvs,x = .ref a/\((H1 a=some (.dK kvs)/\∀o,Mq X a->R (Itk o a kvs) (upd H1 a (.frz o (.dK kvs))))\/∃o,H1 a=some (.frz o (.dK kvs))/\R (Itk o a kvs) H1)
def YF{l:Expr}(O:PE X l tl):PI X tg l (af0 X tl):=by
 intro pins s σ H R I h;refine thn (O pins s σ H _ I h) λv s1 ⟨x,H1,Z,r1,q1⟩=>?_
 obtain⟨a,kvs,e,q⟩:=q1;subst e
 cases r1;have rd:L2.Rd H1 a (.dK kvs):=q.elim (λz=>.inl z.1) (λ⟨o,z,_⟩=>.inr ⟨o,z⟩);obtain⟨_,lo,vs,rel,Y,es,V,U,Q,hd,S⟩:=n_ Z.hok rd;have dat:s1.heap.DictAt (cG X.prog X.w) a vs V:=⟨Y,es,U,Q,hd,S⟩;refine wpAny_pyIter_dict lo dat ?_;have T:L2.Inv X pins σ H1 {s1 with heap:=s1.heap.push {cls:=.type "dict_keyiterator", data:=.fields #[.ref a,.int 0 0,.int vs.length 0,.int V 0]} }:=Z.kept (t':=s1.toks) λb o e=>ae _ e
 have st:(s1.heap.push {cls:=.type "dict_keyiterator", data:=.fields #[.ref a,.int 0 0,.int vs.length 0,.int V 0]}).IsKeyIter s1.heap.objs.size a 0 kvs.length V:=⟨_,ai _ rfl,rfl,by rw[rel.length];rfl⟩;have fr:H1 s1.heap.objs.size=none:=Z.hok.fresh (aV _);rcases q with⟨W,q⟩|⟨o,W,q⟩
 .refine⟨s1.heap.objs.size,[s1.heap.objs.size],_,_,_,rfl,Kh T W (ae _ U),Fz Y a _ kvs hd,st,λb hb=>?_,q Y (Cy Z W)⟩;have e:b=s1.heap.objs.size:=by simpa using hb
  subst e;refine Z.fpOk (aV _) ?_;rw[bA (λz=>by rw[z,W]at fr;cases fr)];exact fr
 .have eq:Y=o:=by
   have:=(Z.hok a _ W).1;rw[U]at this;exact cU.inj this
  subst eq;refine⟨s1.heap.objs.size,[s1.heap.objs.size],_,_,_,rfl,T,Fz Y a _ kvs hd,st,λb hb=>?_,q⟩;have e:b=s1.heap.objs.size:=by simpa using hb
  subst e;exact Z.fpOk (aV _) fr
section
variable{H:Hp}{kvs:List (Key×V)}{o:Obj}
mutual
theorem Iw{ok:Ok}(h:H a=some (.dK kvs)):∀{v:V}{d:D},RA K ok true H v d->RA K ok true (upd H a (.frz o (.dK kvs))) v d
 |_,_,.non=>.non
 |_,_,.bl b=>.bl b
 |_,_,.int i=>.int i
 |_,_,.str x=>.str x
 |_,_,.lst e k q=>.lst (by rw[bA (dJ e h (by intro z;cases z))];exact e) k (vq h q)
 |_,_,.lsk e k q=>.lsk (by
  rcases e with⟨o',e⟩|e
  .exact .inl ⟨o',by rw[bA (dJ e h (by intro z;cases z))];exact e⟩
  .exact .inr e) k (vq h q)
 |_,_,.tup e q=>.tup (by unfold iD;rw[bA (dJ e h (by intro z;cases z))];exact e) (vq h q)
 |_,_,.dic (a:=b) e g k=>by
  by_cases hb:b=a
  .subst hb;have g':=g.upd (o:=.frz o (.dK kvs)) h;rw[h]at e;exact .dik (by rw[bM];injection e with e;rw[e]) g' rfl
  .exact .dic (by rw[bA hb];exact e) (g.upd h) k
 |_,_,.dik e g k=>.dik (by rw[bA (dJ e h (by intro z;cases z))];exact e) (g.upd h) k
 |_,_,.ins e g q z=>.ins (by rw[bA (dJ e h (by intro z;cases z))];exact e) (by rw[bA (dJ g h (by intro z;cases z))];exact g) (vq h q) z
theorem vq (h:H a=some (.dK kvs)):∀{v:List V}{d:List D},RAs K ok true H v d->RAs K ok true (upd H a (.frz o (.dK kvs))) v d
 |_,_,.nil=>.nil
 |_,_,.cons e q=>.cons (Iw h e) (vq h q)
end
mutual
theorem U3{ok:Ok}(h:H a=some (.frz o (.dK kvs))):∀{v:V}{d:D},RA K ok false H v d->RA K ok false (upd H a (.dK kvs)) v d
 |_,_,.non=>.non
 |_,_,.bl b=>.bl b
 |_,_,.int i=>.int i
 |_,_,.str x=>.str x
 |_,_,.lst e k q=>.lst (by rw[bA (dJ e h (by intro z;cases z))];exact e) k (o9 h q)
 |_,_,.lsk e k q=>by cases k
 |_,_,.tup e q=>.tup (by unfold iD;rw[bA (dJ e h (by intro z;cases z))];exact e) (o9 h q)
 |_,_,.dic e g k=>.dic (by rw[bA (dJ e h (by intro z;rcases g.or with⟨ks,y⟩|⟨ks,y⟩<;>(rw[y]at z;cases z)))];exact e) (g.imp λ_ _ t=>by unfold iD;rw[bA (dJ t h (by intro z;cases z))];exact t) k
 |_,_,.dik e _ k=>by cases k
 |_,_,.ins e g q z=>.ins (by rw[bA (dJ e h (by intro z;cases z))];exact e) (by rw[bA (dJ g h (by intro z;cases z))];exact g) (o9 h q) z
theorem o9 (h:H a=some (.frz o (.dK kvs))):∀{v:List V}{d:List D},RAs K ok false H v d->RAs K ok false (upd H a (.dK kvs)) v d
 |_,_,.nil=>.nil
 |_,_,.cons e q=>.cons (U3 h e) (o9 h q)
end
end
section
variable{X:Cx}{fl fl':List Fl}{b c elt iter:Expr}{es:List Expr}{k:Kd}{fa fx:FE}{TT:List Nat}{fi:FA}{g:FG}
def vC{σ:L2.St}{Q:VK}{t:Nat}{r:List D}{J:It}{Dl:Addr}{tb:Tb H1}(htg:∀j∈TT,j<t)(R:Rel X.K fl' ⟨H1,H1,λ_=>none,λ_=>[],tb,λ_=>none⟩ ow0 (rC t ix σ) H1 (jY t ix δ))
 (hl:l.length<=100000) (e3:iB g ft f (jY t ix δ) l=some r) (hD:H1 Dl=none)
 (wk:∀H2,Same H1 H2->∀i:Nat,(∀d,l[i]? = some d->J.go i H2/\∀x H3,J.yld i H2 x H3->Same H2 H3/\RA X.K ok1 true H3 x d)/\(l.length<=i->J.stop i H2))
 (q:∀H2 xs,Same H1 H2->H2 Dl=some (.lst xs)->RAs X.K (λb=>okN H1 b/\b≠Dl) false H2 xs r->Q (.ref Dl) H2) :
 ∃W:Nat->Nat->List V->Hp->Prop,(∃m,W 0 m [] (upd H1 Dl (.lst []))) /\
  ∀i m xs H2,W i m xs H2->H2 Dl=some (.lst xs)/\((J.stop i H2/\Q (.ref Dl) H2)\/(J.go i H2/\xs.length<sizeLine/\∀x H3,J.yld i H2 x H3->tDG X.K fl' TT g x (rC t ix σ) H3 λO H4=>O.drop t=(rC t ix σ).drop t /\
   tDT X.K fl' ft O H4 λb H5=>if b=true then tD X.K fl' .C f O H5 λv H6=>H6 Dl=some (.lst xs)/\∃m',m'<m/\W (i+1) m' (xs++[v]) (upd H6 Dl (.lst (xs++[v])))else ∃m',m'<m/\W (i+1) m' xs H5)):=by
 let N:Ok:=λb=>okN H1 b/\b≠Dl
 refine⟨λi m xs H2=>m=l.length-i/\H2 Dl=some (.lst xs)/\Same H1 H2/\xs.length<=i/\i<=l.length/\∃ds rest,RAs X.K N false H2 xs ds/\iB g ft f (jY t ix δ) (l.drop i)=some rest/\r=ds++rest,
  ⟨_,rfl,bM,cP hD _,aV _,g_ _,[],r,.nil,by simpa using e3,rfl⟩,?_⟩
 rintro i m xs H2 ⟨rfl,U,s2,E,A,ds,rest,B,Y,rfl⟩;refine⟨U,?_⟩;obtain⟨k,p⟩:=wk H2 s2 i;by_cases S:i<l.length
 .have L:l.drop i=l[i]::l.drop (i+1):=jE S;rw[L,iB]at Y;refine D3.ex1 (bind1 Y) λP e5 Y=>?_
  refine D3.ex1 (bind1 Y) λw e6 Y=>?_
  obtain⟨go,s⟩:=k l[i] (aK S);refine .inr ⟨go,tW (bf E (bf A hl)) (by decide),λx H3 hy=>?_⟩;obtain⟨H,r3⟩:=s x H3 hy;have G:=s2.trans H;have Rb:=R.grow G;refine⟨_,_,_,_,P,Rb,r3.imp (λ_ _=>⟨λi z=>(by cases z),λi z=>(by cases z)⟩) (λz=>z),e5,λO u M=>⟨?_,?_⟩⟩
  .apply ji;intro n;rw[iR,iR];exact M (t+n) λz=>absurd (htg _ z) (by lia)
  .refine⟨_,_,P,w,u,e6,λH5 I=>?_⟩
   cases w with
   |false=>
    rw[if_neg gH]at Y ⊢;have Z:=H.trans I;exact⟨l.length-(i+1),by lia,rfl,Z _ _ U,s2.trans Z,by lia,S,ds,rest,B.same Z,Y,rfl⟩
   |true=>
    rw[if_pos rfl]at Y ⊢;refine D3.ex1 (bind1 Y) λy e7 Y=>?_
    refine D3.ex1 (bind1 Y) λl' e8 Y=>?_
    cases Y;refine⟨_,_,P,y,u.grow I,e7,λv H6 h a=>?_⟩;have Z:=H.trans I;have T:=Z.trans h;refine⟨T _ _ U,l.length-(i+1),by lia,rfl,bM,?_,by rw[bB,jf];lia,S,ds++[y],l',?_,e8,by simp⟩
    .intro b o hb;rw[bA (λz=>by subst z;rw[hD]at hb;cases hb)];exact(s2.trans T) b o hb
    .have nd:¬N Dl:=λz=>z.2 rfl
     have F:Same H1 H5:=s2.trans Z;have c:RA X.K N false H6 v y:=RA.imp (λb z=>⟨F.free z,λe=>by subst e;rw[okN,Z _ _ U]at z;cases z⟩) (λz=>z) a;exact((B.same T).append (.cons c .nil)).upd (T _ _ U) nd
 .have ed:l.drop i=[]:=j8 (by lia);rw[ed,iB]at Y
  cases Y;refine .inl ⟨p (by lia),?_⟩;rw[cZ]at q;exact q H2 xs s2 U B
theorem Qd{o:Obj}(h:H1 a=some (.frz o (.dK (dkI qs)))):∀H2,Same H1 H2->∀i:Nat,(∀d,(qs.map λq=>(.int q.1:D))[i]? = some d->(Itk o a (dkI qs)).go i H2/\∀x O,(Itk o a (dkI qs)).yld i H2 x O->Same H2 O/\RA K ok1 true O x d)/\((qs.map λq=>(.int q.1:D)).length<=i->(Itk o a (dkI qs)).stop i H2):=by
 intro H2 s2 i;refine⟨λd hd=>?_,λhi=>⟨s2 _ _ h,by simpa using hi⟩⟩;rw[aP]at hd
 cases e:qs[i]? with
 |none=>rw[e]at hd;cases hd
 |some p=>
  rw[e]at hd
  cases hd;have hi:i<qs.length:=by
   rcases mQ i qs.length with z|z
   .exact z
   .rw[bD z]at e;cases e
  refine⟨⟨s2 _ _ h,by simpa using hi⟩,λx O Y=>?_⟩;obtain⟨rfl,k,v,Z,rfl⟩:=Y;rw[aP,e]at Z
  cases Z;exact⟨Same.refl _,.int _⟩
def xu(X:Cx)(Q:VK):VK:=λv H2=>Q v H2\/∃a o kvs,Mq X a/\H2 a=some (.frz o (.dK kvs))/\Q v (upd H2 a (.dK kvs))
theorem U4{σ:L2.St}{H:Hp}{Q:VK}{T:List Str}(U:∀i,i<T.length+ix.length->fl'[i]? = some .A)(O:∀j∈TT,j<T.length)(h:tD X.K fl .FC (lZ (Ft fx) g ft f T.length ix) σ H Q):
 Et (af0 X (tD X.K fl .P fx)) (tDG X.K fl' TT g) (tDT X.K fl' ft) (tD X.K fl' .C f) T.length (rC T.length ix) σ H (xu X Q):=by
 refine D3.ex4 h λG ow δ d R B q=>?_
 refine D3.ex1 (bind1 B) λl p L=>?_
 by_cases N:l.length<=100000
 case neg=>rw[if_neg N]at L;cases L
 rw[if_pos N]at L;refine D3.ex1 (bind1 L) λr D s=>?_
 cases s;refine D3.ex1 (bind1 p) λx y M=>?_
 cases I:o7 x with
 |none=>rw[I]at M;cases M
 |some qs=>
 rw[I]at M
 cases M;refine⟨G,ow,δ,x,R,y,λv H1 s1 r1=>?_⟩;have n:=R.grow s1;have W:=Cg (fl':=fl') T.length ix U n (Same.refl H1);obtain⟨a,rfl,Z⟩:=nF I r1;refine⟨a,dkI qs,rfl,?_⟩;rcases Z with Z|⟨o,Z⟩
 .refine .inl ⟨Z,λo lo Dl hD=>?_⟩;have S:Dl≠a:=λz=>by rw[z,bM]at hD;cases hD
  have J:Tb (upd H1 a (.frz o (.dK (dkI qs)))):=λt E=>by rw[bA (dJ (W.tb t E) Z (by simp))];exact W.tb t E
  have F:Rel X.K fl' ⟨upd H1 a (.frz o (.dK (dkI qs))),upd H1 a (.frz o (.dK (dkI qs))),λ_=>none,λ_=>[],J,λ_=>none⟩ ow0 (rC T.length ix σ) (upd H1 a (.frz o (.dK (dkI qs)))) (jY T.length ix δ):=by
   refine⟨Same.refl _,Same.refl _,W.len,λi b h=>(by cases h),λi j b h=>(by cases h),λi h=>rfl,λi d h1 hn h2=>?_,W.oo,λi b h=>(by cases h),λi j b h=>(by cases h),λi j b h=>(by cases h),λi h=>rfl,λi d hn h1=>?_,λi u h e=>(by cases e)⟩
   .obtain⟨v,h3,h4⟩:=W.dat i d h1 hn h2;exact⟨v,h3,Iw Z h4⟩
   .have hi:i<T.length+ix.length:=by
     have h2:i<(jY T.length ix δ).length:=by
      rcases mQ i (jY T.length ix δ).length with z|z
      .exact z
      .rw[bD z]at h1;cases h1
     unfold jY at h2;simpa using h2
    rw[U i hi]at hn
    cases hn
  refine vC (Q:=xu X Q) O F N D hD (Qd bM) λH2 xs s2 Y rs=>Or.inr ⟨a,o,dkI qs,lo,s2 _ _ bM,?_⟩
  have sm:Same H (upd H2 a (.dK (dkI qs))):=λb u hb=>by
   by_cases z:b=a
   .subst z;have:=s1 _ _ hb;rw[Z]at this;rw[bM];exact this
   .rw[bA z];exact s2 b u (by rw[bA z];exact s1 b u hb)
  refine q _ _ sm (.inr ⟨Dl,xs,r,rfl,rfl,s1.free (by rw[bA S]at hD;exact hD),by rw[bA S];exact Y,?_⟩);refine(o9 (s2 _ _ bM) rs).imp (λb z=>⟨?_,z.2⟩) (λz=>z);have V:=z.1;unfold okN at V ⊢;have hb:b≠a:=λw=>by rw[w,bM]at V;cases V
  rw[bA hb]at V;exact s1.free V
 .refine .inr ⟨o,Z,λDl hD=>?_⟩;have F:Rel X.K fl' ⟨H1,H1,λ_=>none,λ_=>[],W.tb,λ_=>none⟩ ow0 (rC T.length ix σ) H1 (jY T.length ix δ):=W;refine vC (Q:=xu X Q) O F N D hD (Qd Z) λH2 xs s2 Y rs=>Or.inl (q _ _ (s1.trans s2) (.inr ⟨Dl,xs,r,rfl,rfl,s1.free hD,Y,rs.imp (λb z=>⟨s1.free z.1,z.2⟩) (λz=>z)⟩))
def Qe(hc:X.calm=true)(T U:List Str)(ix:List Nat)(hi:DE X fl .P iter fx)
 (hg:∀cl C Y H3 fp,DG (blk X (T++U) scope cl C Y H3 fp) fl' TT tg g) (ht:∀cl C Y H3 fp,PTs (blk X (T++U) scope cl C Y H3 fp) ifs (tDT X.K fl' ft)) (he:∀cl C Y H3 fp,DE (blk X (T++U) scope cl C Y H3 fp) fl' .C elt f)
 (hfl:∀i,i<T.length+ix.length->fl'[i]? = some .A:=by decide) (htg:∀j∈TT,j<T.length:=by decide)
 (hB:yK X.N X.env.scope.names scope.names U ix=true:=by rfl) (hk:scope.kind = .function:=by rfl) (O:∀y∈scope.names,y.2 ≠ .cell:=by decide +kernel)
 (q:∀x∈scope.names,x.2 = .local->scope.names.lookup x.1=some .local:=by decide +kernel)
 (hfr:∀x∈scope.names,x.2 = .free->x.1∈U:=by decide +kernel) (hs:∀x,foldedSetIterable iter X.env x=pure x:=by intro _;rfl) :
 DE X fl .FC (.ListComp elt [⟨tg,iter,ifs,0⟩] scope pos) (lZ (Ft fx) g ft f T.length ix):=by
 intro pins s σ H Q I h;have run:=BL (g:=tDG X.K fl' TT g) (tt:=tDT X.K fl' ft) (te:=tD X.K fl' .C f) (pos:=pos) hc T U ix (YF hi) hg ht he hB hk O q hfr hs pins s σ H (xu X Q) I (U4 hfl htg h);refine thn run λv s' ⟨x,H2,V,W,Z⟩=>?_
 rcases Z with Z|⟨a,o,kvs,lo,ha,Z⟩
 .exact⟨x,H2,V,W,Z⟩
 .exact⟨x,_,Fy V lo ha,W,Z⟩
end
end XK
namespace XK
def FJ (h:c (s.heap.get? a) s):wpAny M A (loadIfAlive a) c E s:=λ_ _ _=>h
abbrev Ab(h:ec)(z q TI TO:Addr)(b:Bool):Prop:=
 h.get? z=some {cls:=.type "zip", dict:=none,data:=.fields #[rawInt q,.bool b,.bool false,.ref TI,.ref TO],slots:=#[]}
section
variable{prog:dt}
theorem zx (hz:Ab s.heap z q c k b) (h0:s.heap.get? q=some t) (O:∀h',Ab h' z q c k true->eL z s.heap h'->B false {s with heap:=h'}) :
 wpAny (model prog w) A (Builtin.SmallTypes.ownedTupleIsFree (.ref z)) B E s:=by
 refine aa (aS hz rfl (x:=rawInt q) rfl ?_);refine aa (FJ ?_);rw[nU,h0];refine aa (aS hz rfl (x:=.bool b) rfl ?_)
 cases b with
 |true=>
  exact ag (O s.heap hz ⟨rfl,λ_ _=>rfl⟩)
 |false=>
  refine aa (wpAny_setField_rec hz (by simp) λX Z Y=>ag (O X Z Y))
def Qf {x:Value}{o0:Obj} (D:fF z k t i1 i2 l1 l2)
 (hz:Ab s.heap z a0 k t b) (h0:s.heap.get? a0=some o0) (hTI:eJ s.heap k (.ref i1) (.ref i2))
 (h1:s.heap.IsListIter i1 l1 k1) (h2:s.heap.IsListIter i2 l2 k2) (O:s.heap.IsList l1 B) (q:s.heap.IsList l2 ys) (hx:B[k1]? = some x) (hy:ys[k2]? = some F)
 (hQ:∀h',Ab h' z a0 k t true->h'.IsListIter i1 l1 (k1+1)->h'.IsListIter i2 l2 (k2+1)->eJ h' s.heap.objs.size x F ->
  (∀c o,c≠z->c≠i1->c≠i2->s.heap.get? c=some o->h'.get? c=some o)->Q (.ref s.heap.objs.size) {s with heap:=h'}) :
 wpAny (model prog w) A (eK.«zip.__next__» ⟨[.ref z],[]⟩) (λfin s'=>∃v,fin = .done (.ret v)/\Q v s') E s:=by
 show wpAny _ _ (field (.ref z) 2 >>= _) _ _ _;refine aa (aS hz rfl (x:=.bool false) rfl ?_);refine aa (aS hz rfl (x:=.ref k) rfl ?_);refine aa (be hTI rfl ?_);refine aa (zx hz h0 λK U Z=>?_);simp only[fH,if_false];refine aa ?_;simp only[<-tX,qw,List.forIn_nil];refine aa (aa (aI ?_));refine aa (bS (h1.extBut Z.extBut D.i1z) (O.extBut Z.extBut D.l1z) hx λL S Y=>ag (ag ?_));refine aa (aa (aI ?_));refine aa (bS ((h2.extBut Z.extBut D.i2z).extBut Y.extBut D.i12.symm) ((q.extBut Z.extBut D.l2z).extBut Y.extBut D.l2i1) hy λW T X=>ag (ag (ag ?_)));show wpAny _ _ (newTuple [x,F] >>= _) _ _ _;refine aa (wpAny_newTuple (ag ⟨_,rfl,?_⟩));have R:W.objs.size=s.heap.objs.size:=by rw[X.1,Y.1,Z.1]
 have k3:∀c o,c≠z->c≠i1->c≠i2->s.heap.get? c=some o->W.get? c=some o:=λc o M N P e=>X.extBut _ _ P (Y.extBut _ _ N (Z.extBut _ _ M e))
 have V:=X.extBut _ _ D.i2z.symm (Y.extBut _ _ D.i1z.symm U);have up:∀c o,W.get? c=some o->(W.push {cls:=.type "tuple", data:=.seq #[x,F]}).get? c=some o:=λc o e=>ae _ e
 rw[R];refine hQ _ (up _ _ V) (((S.extBut X.extBut D.i12)).at λo e=>up _ o e) (T.at λo e=>up _ o e) ?_ λc o M N P e=>up c o (k3 c o M N P e)
 rw[<-R];exact ai _ rfl
theorem Qg (hh:A.handled=none) (D:fF z k t i1 i2 l1 l2)
 (hz:Ab s.heap z a0 k t b) (h0:s.heap.get? a0=some o0) (hTI:eJ s.heap k (.ref i1) (.ref i2))
 (h1:s.heap.IsListIter i1 l1 k1) (h2:s.heap.IsListIter i2 l2 k2) (q:s.heap.IsList l1 B) (hl2:s.heap.IsList l2 ys) (O:B[k1]? = none\/ys[k2]? = none)
 (hE:∀h' e,(∀c o,c≠z->c≠i1->c≠i2->s.heap.get? c=some o->h'.get? c=some o)->(∃o,h'.get? e=some o/\o.cls = .type "StopIteration")->E (.ref e) {s with heap:=h'}) :
 wpAny (model prog w) A (eK.«zip.__next__» ⟨[.ref z],[]⟩) F E s:=by
 show wpAny _ _ (field (.ref z) 2 >>= _) _ _ _;refine aa (aS hz rfl (x:=.bool false) rfl ?_);refine aa (aS hz rfl (x:=.ref k) rfl ?_);refine aa (be hTI rfl ?_);refine aa (zx hz h0 λN U Z=>?_);simp only[fH,if_false];refine aa ?_;simp only[<-tX,qw,List.forIn_nil];refine aa (aa (aI ?_))
 cases hx:B[k1]? with
 |none=>
  refine aa (wpAny_nextOf_list_end hh (h1.extBut Z.extBut D.i1z) (q.extBut Z.extBut D.l1z) hx λX e Y T=>?_);exact hE X e (λc o P R _ x=>Y _ _ R (Z.extBut _ _ P x)) T
 |some x=>
  have M:ys[k2]? = none:=by rcases O with h|h;rw[hx]at h;cases h;exact h
  refine aa (bS (h1.extBut Z.extBut D.i1z) (q.extBut Z.extBut D.l1z) hx λX S Y=>ag (ag ?_));refine aa (aa (aI ?_));refine aa (wpAny_nextOf_list_end hh ((h2.extBut Z.extBut D.i2z).extBut Y.extBut D.i12.symm) ((hl2.extBut Z.extBut D.l2z).extBut Y.extBut D.l2i1) M λV e W T=>?_);exact hE V e (λc o P R L x=>W _ _ L (Y.extBut _ _ R (Z.extBut _ _ P x))) T
def Mr (D:fF z k t i1 i2 l1 l2)
 (hz:Ab s.heap z Y k t b) (h0:s.heap.get? Y=some o0) (U:eJ s.heap k (.ref i1) (.ref i2))
 (h1:s.heap.IsListIter i1 l1 k1) (h2:s.heap.IsListIter i2 l2 k2) (O:s.heap.IsList l1 B) (q:s.heap.IsList l2 ys) (hx:B[k1]? = some J) (hy:ys[k2]? = some M)
 (hQ:∀h',Ab h' z Y k t true->h'.IsListIter i1 l1 (k1+1)->h'.IsListIter i2 l2 (k2+1)->eJ h' s.heap.objs.size J M ->
  (∀c o,c≠z->c≠i1->c≠i2->s.heap.get? c=some o->h'.get? c=some o)->R (some (.ref s.heap.objs.size)) {s with heap:=h'}) :
 wpAny (model prog w) A (pyNext (.ref z)) R E s:=by
 have Z:s.TypeIs (.ref z) "zip" := ⟨_,hz,rfl⟩;exact aa (wpAny_attempt (bx (name:=eg "__next__") Z bX
  (cK bX Z F.entry_zip_next (Qf D hz h0 U h1 h2 O q hx hy λh' a1 a2 a3 a4 a5=>ag (hQ h' a1 a2 a3 a4 a5)) (F.args_zip_next_1 _))))
def Ms (hh:A.handled=none) (D:fF z k t i1 i2 l1 l2)
 (hz:Ab s.heap z a0 k t b) (h0:s.heap.get? a0=some o0) (Y:eJ s.heap k (.ref i1) (.ref i2))
 (h1:s.heap.IsListIter i1 l1 k1) (h2:s.heap.IsListIter i2 l2 k2) (U:s.heap.IsList l1 B) (O:s.heap.IsList l2 ys) (q:B[k1]? = none\/ys[k2]? = none)
 (hQ:∀h',(∀c o,c≠z->c≠i1->c≠i2->s.heap.get? c=some o->h'.get? c=some o)->J none {s with heap:=h'}):wpAny (model prog w) A (pyNext (.ref z)) J E s:=by
 have Z:s.TypeIs (.ref z) "zip" := ⟨_,hz,rfl⟩;refine aa (wpAny_attempt (bx (name:=eg "__next__") Z bX
  (cK bX Z F.entry_zip_next (Qg hh D hz h0 Y h1 h2 U O q λh' e W V=>?_) (F.args_zip_next_1 _))))
 obtain⟨o,X,S⟩:=V;refine aa (wpAny_isInstance (T := "StopIteration") (b:=true) ⟨o,X,S⟩ isSubtype_stop ?_);exact ag (hQ _ W)
end
end XK
namespace XK
structure LZ(h:ec)(base:Nat)(z TI TO i1 i2 l1 l2 S:Addr)(xs ys:Array Value)(i:Nat)(acc:Array Value):Prop where
 ti:eJ h TI (.ref i1) (.ref i2)
 j1:h.IsListIter i1 l1 i
 j2:h.IsListIter i2 l2 i
 q1:h.IsList l1 xs
 q2:h.IsList l2 ys
 zz:(i=0/\IsZip h z TI TO .none/\∃a b,eJ h TO a b)\/∃a0 b o0,base<=a0/\Ab h z a0 TI TO b/\h.get? a0=some o0
 sz:base<=h.objs.size
 al:acc.size=i
 ac:∀j,j<i->∃a x y,acc[j]? = some (.ref a)/\base<=a/\xs[j]? = some x/\ys[j]? = some y/\eJ h a x y
 inj:∀(j j':Nat)(a:Addr),acc[j]? = some (.ref a)->acc[j']? = some (.ref a)->j=j'
 ss:∃c,h.get? S=some {cls:=.type "list", dict:=none,data:=.seq acc c,slots:=#[]}
section
variable{prog:dt}{R:Result->dk->Prop}{z TI TO i1 i2 l1 l2 S:Addr}{xs ys:Array Value}{base:Nat}
theorem U5(hh:A.in1.handled=none)(D:fF z TI TO i1 i2 l1 l2)(res:Value)(hb:∀c,c∈[z,TI,TO,i1,i2,l1,l2,S]->c<base)(hS:S∉[z,TI,TO,i1,i2,l1,l2])(hn:xs.size<=sizeLine):
 ∀(k i:Nat)(s:dk)(acc:Array Value),min xs.size ys.size-i=k->i<=min xs.size ys.size->LZ s.heap base z TI TO i1 i2 l1 l2 S xs ys i acc ->
 (∀h' O,(∀c o,c∉[z,TO,i1,i2,S]->s.heap.get? c=some o->h'.get? c=some o)->O.size=min xs.size ys.size ->
  (∀j,j<min xs.size ys.size->∃a x y,O[j]? = some (.ref a)/\base<=a/\xs[j]? = some x/\ys[j]? = some y/\eJ h' a x y)->(∀(j j':Nat)(a:Addr),O[j]? = some (.ref a)->O[j']? = some (.ref a)->j=j') ->
  (∃c,h'.get? S=some {cls:=.type "list", dict:=none,data:=.seq O c,slots:=#[]})->R (.ok (.ret res)) {s with heap:=h'}) ->
 codeAny (model prog w) A (.builtin "list.extend.loop" ⟨[.ref S,.ref z,res],[]⟩) R s:=by
 have J:S≠z:=λe=>hS (by simp[e])
 have h:S≠TI:=λe=>hS (by simp[e])
 have B:S≠TO:=λe=>hS (by simp[e])
 have H:S≠i1:=λe=>hS (by simp[e])
 have I:S≠i2:=λe=>hS (by simp[e])
 have l:S≠l1:=λe=>hS (by simp[e])
 have m:S≠l2:=λe=>hS (by simp[e])
 have ne:∀c,c∈[z,TI,TO,i1,i2,l1,l2,S]->∀a:Addr,base<=a->a≠c:=λc Y a ha q=>dM.mpr ha (by rw[q];exact hb c Y)
 intro k
 induction k with
 |zero=>
  intro i s acc hk hi L g;have hin:i=min xs.size ys.size:=by lia
  have P:xs[i]? = none\/ys[i]? = none:=by
   rcases Nat.le_total xs.size ys.size with z|z
   .exact .inl (gB (by lia))
   .exact .inr (gB (by lia))
  refine ba F.entry_extend_loop ?_;rw[aE cf _];have T:∀h',(∀c o,c≠z->c≠TO->c≠i1->c≠i2->s.heap.get? c=some o->h'.get? c=some o)->R (.ok (.ret res)) {s with heap:=h'}:=λh' X=>by
   have up:=λa o ha e=>X a o (ne z (by simp) _ ha) (ne TO (by simp) _ ha) (ne i1 (by simp) _ ha) (ne i2 (by simp) _ ha) e
   obtain⟨c,Y⟩:=L.ss;have V:=X S _ J B H I Y;refine g h' acc (λc o Y e=>X c o (λq=>Y (by simp[q])) (λq=>Y (by simp[q])) (λq=>Y (by simp[q])) (λq=>Y (by simp[q])) e) (by rwa[L.al]) (λj t=>?_) L.inj ⟨c,V⟩
   .obtain⟨a,x,y,h1,h2,h3,h4,h5⟩:=L.ac j (by lia);exact⟨a,x,y,h1,h2,h3,h4,up a _ h2 h5⟩
  rcases L.zz with⟨E,M,a,b,K⟩|⟨Q,b,N,_,M,E⟩
  .exact aa (wpAny_pyNext_zip_end hh D M L.ti K L.j1 L.j2 L.q1 L.q2 P λh' X=>ag (T h' X))
  .exact aa (Ms hh D M E L.ti L.j1 L.j2 L.q1 L.q2 P λh' X=>ag (T h' λc o c1 _ c3 c4 e=>X c o c1 c3 c4 e))
 |succ k ih=>
  intro i s acc hk hi L g;have hlt:i<min xs.size ys.size:=by lia
  obtain⟨x,hx⟩:∃x,xs[i]? = some x:=⟨_,jF (by lia)⟩;obtain⟨y,p⟩:∃y,ys[i]? = some y:=⟨_,jF (by lia)⟩;refine ba F.entry_extend_loop ?_;rw[aE cf _];show wpAny _ A.in1 (pyNext (.ref z) >>= _) _ _ s;have step:∀(h':ec),(∃Q b N,base<=Q/\Ab h' z Q TI TO b/\h'.get? Q=some N)->h'.IsListIter i1 l1 (i+1)->h'.IsListIter i2 l2 (i+1)->eJ h' s.heap.objs.size x y ->
   (∀c o,c≠z->c≠TO->c≠i1->c≠i2->s.heap.get? c=some o->h'.get? c=some o) ->
   wpAny (model prog w) A.in1 (updateSeq S (·.push (.ref s.heap.objs.size)) >>= λ_=>again (.builtin "list.extend.loop" ⟨[.ref S,.ref z,res],[]⟩)) (λT s'=>match T with | .done f=>R (.ok f) s' | .again c'=>c'.quiet=true/\codeAny (model prog w) A c' R s') (λe s'=>R (.error e) s') {s with heap:=h'}:=λh' g1 g3 v G W=>by
   obtain⟨c,Y⟩:=L.ss;have V:=W S _ J B H I Y;have up:∀a o,base<=a->s.heap.get? a=some o->h'.get? a=some o:=λa o ha e=>W a o (ne z (by simp) _ ha) (ne TO (by simp) _ ha) (ne i1 (by simp) _ ha) (ne i2 (by simp) _ ha) e
   have Z:∀b o,b≠S->h'.get? b=some o->(h'.update S (et (·.push (.ref s.heap.objs.size)))).get? b=some o:=λb o hb e=>(am _ _ (dv hb)).trans e
   refine aa ?_;refine bg V rfl (ag ⟨bd cf _,ih (i+1) _ (acc.push (.ref s.heap.objs.size)) (by lia) (by lia) ⟨?_,?_,?_,?_,?_,?_,?_,?_,?_,?_,?_⟩ λd O C e2 e3 e4 e5=>?_⟩)
    (by rw[L.al];lia) (by show(acc.push _).size<=sizeLine+1;rw[Array.size_push,L.al];lia)
   .exact Z _ _ (dv h) (W _ _ D.TIz D.TITO D.TIi1 D.TIi2 L.ti)
   .exact g3.at λo e=>Z _ o (dv H) e
   .exact v.at λo e=>Z _ o (dv I) e
   .obtain⟨o,n,r⟩:=L.q1;exact⟨o,Z _ _ (dv l) (W _ _ D.l1z D.l1TO D.l1i1 D.l1i2 n),r⟩
   .obtain⟨o,n,r⟩:=L.q2;exact⟨o,Z _ _ (dv m) (W _ _ D.l2z D.l2TO D.l2i1 D.l2i2 n),r⟩
   .obtain⟨Q,b,N,k1,k2,k3⟩:=g1;exact .inr ⟨Q,b,N,k1,Z _ _ (dv J) k2,Z _ _ (ne S (by simp) _ k1) k3⟩
   .show base<=(h'.update S _).objs.size;rw[bp];exact bf L.sz (gA (af G))
   .rw[Array.size_push,L.al]
   .intro j t;by_cases q:j=i
    .subst q;exact⟨_,x,y,by rw[<-L.al];simp,L.sz,hx,p,Z _ _ (ne S (by simp) _ L.sz) G⟩
    .obtain⟨a,x',y',k1,k2,k3,k4,k5⟩:=L.ac j (by lia);refine⟨a,x',y',?_,k2,k3,k4,Z _ _ (ne S (by simp) _ k2) (up a _ k2 k5)⟩;rw[Array.getElem?_push_lt (by rw[L.al];lia)];rw[jF (by rw[L.al];lia)]at k1;exact k1
   .have lt:∀(j:Nat)(a:Addr),acc[j]? = some (.ref a)->a<s.heap.objs.size/\j<i:=λj a e=>by
     have t:j<i:=by
      rcases mQ j acc.size with q|q
      .rw[L.al]at q;exact q
      .rw[gB q]at e;cases e
     obtain⟨a',x',y',k1,k2,k3,k4,k5⟩:=L.ac j t;rw[e]at k1
     cases k1;exact⟨af k5,t⟩
    have cs:∀(j:Nat)(a:Addr),(acc.push (.ref s.heap.objs.size))[j]? = some (.ref a)->(acc[j]? = some (.ref a))\/(j=i/\a=s.heap.objs.size):=λj a e=>by
     rw[Array.getElem?_push]at e;by_cases q:j=acc.size
     .rw[if_pos q]at e
      cases e;exact .inr ⟨by rw[q,L.al],rfl⟩
     .rw[if_neg q]at e;exact .inl e
    intro j j' a e e';rcases cs j a e with q|⟨q,r⟩<;>rcases cs j' a e' with u|⟨u,r'⟩
    .exact L.inj j j' a q u
    .exact absurd (lt j a q).1 (by rw[r'];exact d7 _)
    .exact absurd (lt j' a u).1 (by rw[r];exact d7 _)
    .rw[q,u]
   .exact⟨_,av _ V rfl⟩
   .exact g d O (λc o Y e=>C c o Y (Z c o (λq=>Y (by simp[q])) (W c o (λq=>Y (by simp[q])) (λq=>Y (by simp[q])) (λq=>Y (by simp[q])) (λq=>Y (by simp[q])) e))) e2 e3 e4 e5
  rcases L.zz with⟨E,M,a,b,K⟩|⟨Q,b,N,U,M,E⟩
  .refine aa (wpAny_pyNext_zip_item D M L.ti K L.j1 L.j2 L.q1 L.q2 hx p λh' g1 g2 g3 v G g6 W=>?_);exact step h' ⟨s.heap.objs.size,false,_,L.sz,g1,G⟩ g3 v G W
  .refine aa (Mr D M E L.ti L.j1 L.j2 L.q1 L.q2 hx p λh' g1 g3 v G W=>?_);exact step h' ⟨Q,true,N,U,g1,W Q N (ne z (by simp) _ U) (ne i1 (by simp) _ U) (ne i2 (by simp) _ U) E⟩ g3 v G λc o c1 _ c3 c4 e=>W c o c1 c3 c4 e
end
end XK
namespace XK
def Iz:typeLookup (.type "zip") "__len__"=pure none:=by rw[a_,az];kernel_rfl
def FP:typeLookup (.type "zip") "__length_hint__"=pure none:=by rw[a_,az];kernel_rfl
section
variable{prog:dt}
def Qh (q:s.TypeIs (.ref z) "zip") (h:c true s):wpAny (model prog w) A (Builtin.List.listLengthHint (.ref z)) c E s:=by
 refine aa (cS q Iz ?_);exact aa (cS q FP (ag h))
def Qi {xs:Array Value}(hh:A.handled=none) (D:fF z k t i1 i2 l1 l2) (hz:IsZip s.heap z k t .none) (hTI:eJ s.heap k (.ref i1) (.ref i2)) (hTO:eJ s.heap t q0 q1)
 (h1:s.heap.IsListIter i1 l1 0) (h2:s.heap.IsListIter i2 l2 0) (hl1:s.heap.IsList l1 xs) (O:s.heap.IsList l2 ys) (hn:xs.size<=sizeLine)
 (hQ:∀h' acc c,(∀c o,c∉[z,t,i1,i2]->s.heap.get? c=some o->h'.get? c=some o)->acc.size=min xs.size ys.size ->
  (∀j,j<min xs.size ys.size->∃q0 x y,acc[j]? = some (.ref q0)/\s.heap.objs.size<q0/\xs[j]? = some x/\ys[j]? = some y/\eJ h' q0 x y)->(∀(j j':Nat)(q0:Addr),acc[j]? = some (.ref q0)->acc[j']? = some (.ref q0)->j=j') ->
  h'.get? s.heap.objs.size=some {cls:=.type "list", dict:=none,data:=.seq acc c,slots:=#[]}->Q (.ref s.heap.objs.size) {s with heap:=h'}) :
 wpAny (model prog w) A (call (.type "list") [.ref z]) Q E s:=by
 refine callType_codes (Q₁:=λobj Y=>obj = .ref s.heap.objs.size/\Y={s with heap:=s.heap.push {cls:=.type "list", data:=.seq #[]} }) PySem.F.called_list (PySem.F.typeCall_list_1 _) PySem.F.entry_list_init (code_list_new _ ⟨rfl,rfl⟩) λobj Y g=>?_
 obtain⟨rfl,rfl⟩:=g;have N:(s.heap.push {cls:=.type "list", data:=.seq #[]}).get? s.heap.objs.size=some {cls:=.type "list", data:=.seq #[]}:=ai _ rfl;refine⟨⟨_,N,rfl⟩,PySem.F.args_list_init_2 _ _,?_⟩;refine aa ?_;refine aa (be N rfl (ag ?_));refine aa (bg N rfl ?_);have U:=av (et (λ_=>(#[]:Array Value))) N rfl;refine aa (ck ?_);have old:∀c o,s.heap.get? c=some o->c≠s.heap.objs.size:=λc o e=>bF (af e)
 have k2:∀c o,s.heap.get? c=some o->((s.heap.push {cls:=.type "list", data:=.seq #[]}).update s.heap.objs.size (et (λ_=>(#[]:Array Value)))).get? c=some o:=λc o e=>
  (am _ _ (dv (old c o e))).trans (ae _ e)
 have W:((s.heap.push {cls:=.type "list", data:=.seq #[]}).update s.heap.objs.size (et (λ_=>(#[]:Array Value)))).objs.size=s.heap.objs.size+1:=by rw[bp,cE]
 generalize (s.heap.push {cls:=.type "list", data:=.seq #[]}).update s.heap.objs.size (et (λ_=>(#[]:Array Value)))=M at U k2 W;refine aa (cB (T := "zip") ⟨_,k2 _ _ hz,rfl⟩ ?_);have v:fA (.ref s.heap.objs.size) (.ref z)=false:=by simp[fA,dv (old z _ hz)]
 have B:(e9 "zip"==e9 "list")=false:=by decide
 have C:(e9 "zip"==e9 "tuple")=false:=by decide
 simp only[v,B,C,Bool.or_false,fH,if_false];refine aa (wpAny_pyIter_zip (k2 _ _ hz) ?_);refine aa (aI (Qh ⟨_,k2 _ _ hz,rfl⟩ ?_));rw[if_pos (Bool.true_or _)];refine aa (wpAny_rule ?_);refine aa ?_;refine aa (bg U rfl ?_);have R:=av (et (·.push dL)) U rfl;refine bg (hz:=by seq_fits) R rfl ?_;have S:=av (et (·.pop)) R rfl;have Z:∀c o,s.heap.get? c=some o->((M.update s.heap.objs.size (et (·.push dL))).update s.heap.objs.size (et (·.pop))).get? c=some o:=λc o e=>
  (am _ _ (dv (old c o e))).trans ((am _ _ (dv (old c o e))).trans (k2 c o e))
 have X:((M.update s.heap.objs.size (et (·.push dL))).update s.heap.objs.size (et (·.pop))).objs.size=s.heap.objs.size+1:=by rw[bp,bp,W]
 generalize (M.update s.heap.objs.size (et (·.push dL))).update s.heap.objs.size (et (·.pop))=u at S Z X;have lt:∀c∈[z,k,t,i1,i2,l1,l2],c<s.heap.objs.size:=λc V=>by
  simp only[aL,cO,or_false]at V;rcases V with rfl|rfl|rfl|rfl|rfl|rfl|rfl
  .exact af hz
  .exact af hTI
  .exact af hTO
  .obtain⟨o,e,_⟩:=h1;exact af e
  .obtain⟨o,e,_⟩:=h2;exact af e
  .obtain⟨o,e,_⟩:=hl1;exact af e
  .obtain⟨o,e,_⟩:=O;exact af e
 refine ag ⟨bd PySem.F.plain_extend_loop _,U5 (base:=s.heap.objs.size+1) (A:=A.in1) (xs:=xs) (ys:=ys) hh D .none (λc V=>?_) (λV=>d7 _ (lt _ V)) hn _ 0 _ #[] rfl (g_ _) ⟨Z _ _ hTI,h1.at λo e=>Z _ o e,h2.at λo e=>Z _ o e,?_,?_,.inl ⟨rfl,Z _ _ hz,q0,q1,Z _ _ hTO⟩,by rw[X];exact aV _,rfl,λj H=>absurd H (Nat.not_lt_zero _),λj j' c e=>by simp at e,⟨_,S⟩⟩ λh' P I f1 f2 G J=>?_⟩
 .have K:c∈[z,k,t,i1,i2,l1,l2]\/c=s.heap.objs.size:=by
   simp only[aL,cO,or_false]at V ⊢;rcases V with h|h|h|h|h|h|h|h<;>simp[h]
  rcases K with h|h
  .exact uN (lt c h)
  .rw[h];exact gG _
 .obtain⟨o,L,r⟩:=hl1;exact⟨o,Z _ _ L,r⟩
 .obtain⟨o,L,r⟩:=O;exact⟨o,Z _ _ L,r⟩
 .obtain⟨c,J⟩:=J;refine⟨rfl,hQ h' P c (λd o hd e=>I d o (λq=>?_) (Z d o e)) f1 f2 G J⟩;simp only[aL,cO,or_false]at q hd;rcases q with q|q|q|q|q
  .exact hd (.inl q)
  .exact hd (.inr (.inl q))
  .exact hd (.inr (.inr (.inl q)))
  .exact hd (.inr (.inr (.inr q)))
  .exact old d o e q
end
end XK
namespace XK
open L2 My D3
def Qj (I:L2.Inv X pins σ H s) (k:∀b u,s.heap.get? b=some u->c.get? b=some u) (hb:∀b,b<s.heap.objs.size->H' b=H b) (hok:HOk X.prog X.w H' c) :
 L2.Inv X pins σ H' {s with heap:=c,toks:=t'}:=I.un {
 keep:=λb u q _ _ _=>k b u q
 slot:=λb u q _ _ _=>⟨u.slots,k b u q⟩
 free:=λb u q n _=>by rwa[hb b (af q)]
 there:=λb u q _=>⟨u,k b u q⟩
 tups:=λb xs q=>by rwa[hb b (I.hok.lt q)]
 frzs:=λb u xs q=>by rwa[hb b (I.hok.lt q)]
 tbls:=λb q p e=>by rw[hb b (I.hok.lt e)];exact e} hok
theorem W3{P:Nat->Addr->Int->Int->Prop}:∀n,(∀j,j<n->∃a i k,P j a i k)->∃ts:List (Addr×Int×Int),ts.length=n/\∀j t,ts[j]? = some t->P j t.1 t.2.1 t.2.2
 |0,_=>⟨[],rfl,λj t h=>by simp at h⟩
 |n+1,h=>by
  obtain⟨ts,h1,h2⟩:=W3 n λj Y=>h j (by lia)
  obtain⟨a,i,k,X⟩:=h n (by lia);refine⟨ts++[(a,i,k)],by simp[h1],λj t e=>?_⟩;by_cases Y:j<ts.length
  .rw[bY Y]at e;exact h2 j t e
  .rw[cA (by lia)]at e;have Z:j-ts.length=0:=by
    rcases tY (j-ts.length)with z|z
    .exact z
    .rw[bD (by simp;lia)]at e;cases e
   rw[Z]at e
   cases e;rw[show j=n by lia];exact X
noncomputable def CG(H:Hp)(S:Addr)(vs:List V)(ts:List (Addr×Int×Int)):Hp:=λb=>if b=S then some (.lst vs)else match ts.find? (λt=>decide (t.1=b))with
 |some t=>some (.tup [.int t.2.1,.int t.2.2])
 |none=>H b
def Qk{S:Addr}{ts:List (Addr×Int×Int)}:CG H S vs ts S=some (.lst vs):=by unfold CG;rw[if_pos rfl]
theorem Ql{S:Addr}{ts:List (Addr×Int×Int)}(hi:∀(j j':Nat) (t t':Addr×Int×Int),ts[j]? = some t->ts[j']? = some t'->t.1=t'.1->j=j'){t:Addr×Int×Int}(q:t∈ts)(O:t.1≠S):CG H S vs ts t.1=some (.tup [.int t.2.1,.int t.2.2]):=by
 unfold CG;rw[if_neg O]
 cases e:ts.find? (λu=>decide (u.1=t.1))with
 |none=>
  have:=m_.mp e t q;simp at this
 |some t'=>
  have h1:=nP e;have h2:t'.1=t.1:=of_decide_eq_true (List.find?_some (p:=λu:Addr×Int×Int=>decide (u.1=t.1)) e);obtain⟨j,Y⟩:=h_ q;obtain⟨j',Z⟩:=h_ h1;have:=hi j j' t t' Y Z h2.symm;subst this;rw[Y]at Z
  cases Z;rfl
def Qm{S:Addr}{ts:List (Addr×Int×Int)}{b:Addr}(h1:b≠S)(h2:∀t∈ts,t.1≠b):CG H S vs ts b=H b:=by
 unfold CG;rw[if_neg h1,m_.mpr λt Z=>by simp[h2 t Z]]
theorem zy:∀{l:List D}{ns:List Int},kE l=some ns->l=ns.map .int
 |[],_,e=>by cases e;rfl
 |d::r,ns,e=>by
  cases d<;>first|(cases e;done)|skip
  rename_i i;unfold kE at e
  cases Z:kE r with
  |none=>rw[Z]at e;cases e
  |some m=>
   rw[Z]at e
   cases e;rw[aN,zy Z]
theorem Kl{α:Type}{ok:Ok}{pl:Bool}(f:α->V)(g:α->D):∀l:List α,(∀a∈l,RA K ok pl H (f a) (g a))->RAs K ok pl H (l.map f) (l.map g)
 |[],_=>.nil
 |a::l,h=>.cons (h a aJ) (Kl f g l λb hb=>h b (aH _ hb))
section
variable{X:Cx}{fl:List Fl}{a b:Expr}{g:FE}
theorem U6(ha:DE X fl .P a f)(hb:DE X fl .P b g)(hc:X.calm=true)(hg:Gl X "list")(hm:X.mg "list"=none)(hg2:Gl X "zip")(hm2:X.mg "zip"=none)
 (he:starEach [a,b] X.env=(false,eval a X.env)::starEach [b] X.env:=by rfl) (heb:starEach [b] X.env=(false,eval b X.env)::starEach [] X.env:=by rfl) (hpl:(backTo pos2 (starEach [b] X.env)).any (·.1)=false:=by rfl)
 (he2:starEach [.Call (.Name "zip" p2) [a,b] [] pos2] X.env=(false,eval (.Call (.Name "zip" p2) [a,b] [] pos2) X.env)::starEach [] X.env:=by rfl) (hpl2:(backTo pos (starEach [] X.env)).any (·.1)=false:=by rfl) :
 DE X fl .FC (.Call (.Name "list" p) [.Call (.Name "zip" p2) [a,b] [] pos2] [] pos) (dOp Fv f g):=by
 intro pins s σ H Q I hq;refine D3.ex4 hq λG ow δ d R hf q=>?_
 refine D3.ex2 (rF hf) λx y e1 e2 e3=>?_
 unfold Fv at e3;split at e3
 case h_2=>cases e3
 next l m=>
 refine D3.ex1 (bind1 e3) λns e4 e5=>?_
 refine D3.ex1 (bind1 e5) λU e6 e7=>?_
 by_cases hl:ns.length<=1000
 case neg=>rw[if_neg hl]at e7;cases e7
 rw[if_pos hl]at e7
 cases e7;refine ax (ou I hg hm c0 (d6 ?_ he2 hpl2));rw[he2];show wpAny _ _ (spliced ((false,eval (.Call (.Name "zip" p2) [a,b] [] pos2) X.env)::backTo pos (starEach [] X.env))) _ _ s;refine bn ?_;refine ax (ou I hg2 hm2 D3.boot_zip (d6 (thn ((d8 ha (d8 hb iU heb) he) pos2 pins s σ H (λvs H1=>∃v u,vs=[v,u]/\Same H H1/\RA X.K ok1 true H1 v (.list l)/\RA X.K ok1 true H1 u (.list m)) I
  ⟨G,ow,δ,_,R,e1,λv H1 s1 r1=>⟨G,ow,δ,_,R.grow s1,e2,λu H2 s2 r2=>⟨v,u,rfl,s1.trans s2,RA.same s2 r1,r2⟩⟩⟩) λus s1 ⟨vs,H1,M,r1,v,u,ev,E,rv,ru⟩=>?_) he hpl))
 subst ev;obtain⟨l1,xs,rfl,hx,hr⟩:=rv.lstE;obtain⟨l2,ys,rfl,hy,hr'⟩:=ru.lstE;obtain rfl:=rH e4 hr;obtain rfl:=rH e6 hr'
 cases r1 with
 |cons ra rb=>
 cases rb with
 |cons rb rc=>
 cases rc
 cases ra
 cases rb;obtain⟨its,C,pl,hz⟩:=M.list hx;obtain⟨Z,L,pl',hz'⟩:=M.list hy;have il:its.length=ns.length:=by rw[<-C.length,aG]
 have il':Z.length=U.length:=by rw[<-L.length,aG]
 refine call_zip_2 pl.isList pl'.isList λh' g1 g2 g3 g4 g5 g6 hk=>?_
 refine bu ?_;have q1:h'.IsList l1 its.toArray:=by
  obtain⟨o,ho,r⟩:=pl.isList;exact⟨o,hk _ _ ho,r⟩
 have q2:h'.IsList l2 Z.toArray:=by
  obtain⟨o,ho,r⟩:=pl'.isList;exact⟨o,hk _ _ ho,r⟩
 have Dz:=L_ g1 g2 g3 g4 g5 q1 q2 (bF (gG _)) (bF (gG _));refine Qi (s:={s1 with heap:=h'}) (M.ok.hd hc) Dz g1 g2 g3 g4 g5 q1 q2 (by rw[bC,il];exact bf hl (by decide)) λY acc c kk f1 f2 f3 f4=>?_
 replace kk:∀c o,c∉[s1.heap.objs.size+4,s1.heap.objs.size+3,s1.heap.objs.size,s1.heap.objs.size+1]->h'.get? c=some o->Y.get? c=some o:=kk
 replace f4:Y.get? h'.objs.size=some {cls:=.type "list", dict:=none,data:=.seq acc c,slots:=#[]}:=f4
 replace f2:∀j,j<min its.toArray.size Z.toArray.size->∃a x y,acc[j]? = some (.ref a)/\h'.objs.size<a/\its.toArray[j]? = some x/\Z.toArray[j]? = some y/\eJ Y a x y:=f2
 have fr:∀c,s1.heap.objs.size<=c->H1 c=none:=λc hc=>M.hok.fresh hc
 have kept:∀b u,s1.heap.get? b=some u->Y.get? b=some u:=λb u e=>kk b u (λz=>by
  have S:=af e;simp only[aL,bQ,cO,or_false]at z;rcases z with z|z|z|z<;>rw[z]at S
  .exact dM.mpr (oO _ _) S
  .exact dM.mpr (oO _ _) S
  .exact d7 _ S
  .exact dM.mpr (oO _ _) S) (hk b u e)
 have sS:s1.heap.objs.size<=h'.objs.size:=by rw[g6];lia
 simp only[bC,il,il']at f1 f2;obtain⟨ts,tl,F⟩:=W3 (P:=λj a i k=>acc[j]? = some (.ref a)/\h'.objs.size<a/\ns[j]? = some i/\U[j]? = some k/\∃t u,eJ Y a (.int i t) (.int k u)) (min ns.length U.length) (λj N=>by
  obtain⟨a,x,y,k1,k2,k3,k4,k5⟩:=f2 j N;have A:j<ns.length:=by lia
  have B:j<U.length:=by lia
  have n1:(ns.map V.int)[j]? = some (.int ns[j]):=by rw[aP,aK A];rfl
  have n2:(U.map V.int)[j]? = some (.int U[j]):=by rw[aP,aK B];rfl
  obtain⟨u1,w1,r1⟩:=C.get n1;obtain⟨u2,w2,r2⟩:=L.get n2;obtain⟨t1,rfl⟩:=(show ∃t,u1=ez ns[j] t from r1);obtain⟨t2,rfl⟩:=(show ∃t,u2=ez U[j] t from r2);have ex:x = .int ns[j] t1:=by
   have:its[j]? = some x:=by simpa using k3
   rw[w1]at this;exact(cU.inj this).symm
  have ey:y = .int U[j] t2:=by
   have:Z[j]? = some y:=by simpa using k4
   rw[w2]at this;exact(cU.inj this).symm
  subst ex ey;exact⟨a,ns[j],U[j],k1,k2,aK A,aK B,t1,t2,k5⟩)
 have inj:∀(j j':Nat)(t t':Addr×Int×Int),ts[j]? = some t->ts[j']? = some t'->t.1=t'.1->j=j':=λj j' t t' h1 h2 h3=>by
  have a1:=(F j t h1).1;have a2:=(F j' t' h2).1;rw[<-h3]at a2;exact f3 j j' t.1 a1 a2
 have O:∀t∈ts,h'.objs.size<t.1/\∃u v,eJ Y t.1 (.int t.2.1 u) (.int t.2.2 v):=λt W=>by
  obtain⟨j,N⟩:=h_ W;obtain⟨_,k2,_,_,k5⟩:=F j t N;exact⟨k2,k5⟩
 have J:acc.toList=ts.map λt=>dr t.1:=by
  apply ji;intro j;rw[gQ,aP];by_cases N:j<ts.length
  .rw[aK N];exact(F j _ (aK N)).1
  .rw[bD (by lia),gB (by lia)];rfl
 have tn:∀t∈ts,t.1≠h'.objs.size:=λt W=>uJ (O t W).1
 have T:∀b,b<s1.heap.objs.size->CG H1 h'.objs.size (ts.map λt=>V.ref t.1) ts b=H1 b:=λb hb=>Qm (λz=>by rw[z]at hb;exact dM.mpr sS hb) λt W z=>by
  have:=(O t W).1;rw[z]at this;exact dM.mpr sS (mL this hb)
 have hok:HOk X.prog X.w (CG H1 h'.objs.size (ts.map λt=>V.ref t.1) ts) Y:=λb u e=>by
  by_cases h:b=h'.objs.size
  .subst h;rw[Qk]at e
   cases e;refine⟨by rw[aG,tl];exact bf (bf (qy _ _) hl) (by decide),acc.toList,c,?_,by simpa using f4⟩;rw[J];clear F tl inj O J tn T
   induction ts with
   |nil=>exact .nil
   |cons t ts ih=>exact .cons rfl ih
  .by_cases n:∃t∈ts,t.1=b
   .obtain⟨t,W,rfl⟩:=n;rw[Ql inj W (tn t W)]at e
    cases e;obtain⟨_,v1,v2,k5⟩:=O t W;exact⟨show 2<=sizeLine by decide,[.int t.2.1 v1,.int t.2.2 v2],.cons ⟨v1,rfl⟩ (.cons ⟨v2,rfl⟩ .nil),⟨_,k5,rfl,_,rfl⟩⟩
   .rw[Qm h λt W z=>n ⟨t,W,z⟩]at e;exact(M.hok b u e).stay (λc v _ r=>kept c v r) (λc r=>by rw[T c (M.hok.lt r)];exact r) λc xs r=>by rw[T c (M.hok.lt r)];exact r
 have sm:Same H1 (CG H1 h'.objs.size (ts.map λt=>V.ref t.1) ts):=λb u e=>by rw[T b (M.hok.lt e)];exact e
 have I2:=Qj (t':=s1.toks) M kept T hok;have zl:ud l m=ts.map λt=>(.tuple [.int t.2.1,.int t.2.2]:D):=by
  have el:l=ns.map .int:=zy e4;have em:m=U.map .int:=zy e6;apply ji;intro j;rw[Fi,el,em,aP,aP,aP];by_cases N:j<ts.length
  .obtain⟨_,_,k3,k4,_⟩:=F j _ (aK N);rw[k3,k4,aK N];rfl
  .rw[bD (by lia:ts.length<=j)];rcases Nat.le_total ns.length U.length with z|z
   .rw[bD (by lia:ns.length<=j)];rfl
   .rw[bD (by lia:U.length<=j)]
    cases ns[j]? <;> rfl
 refine⟨.ref h'.objs.size,_,I2,rfl,q _ _ (E.trans sm) (.inr ⟨h'.objs.size,_,_,rfl,rfl,E.free (fr _ sS),Qk,?_⟩)⟩;rw[zl];refine Kl _ _ ts λt W=>.tup (Ql inj W (tn t W)) (.cons (.int _) (.cons (.int _) .nil))
end
end XK
namespace XK
def Mt(a v:Value):argsOk "min" ⟨[a],[(eg "default", v)]⟩:=by unfold argsOk;kernel_rfl
section
variable{prog:dt}{R:Result->dk->Prop}{fp wr:List Addr}{P:Nat->Value->Prop}{St:Nat->ec->Prop}
theorem Mu(W:Walks prog w A.in1 I fp wr n P St)(bt:Nat->Nat->Bool)(hcmp:CmpOf prog w A.in1 .Lt P bt)(S:Addr)(hSf:S∉fp):
 ∀(k j:Nat)(s:dk)(q:Value)(c:Nat),n-(j+1)=k->j+1<=n->St (j+1) s.heap->P (argBest bt j) q ->
 s.heap.get? S=some {cls:=.type "list", dict:=none,data:=.seq #[q,q] c,slots:=#[]} ->
 (∀v h' tk,P (argBest bt (n-1)) v->(∀b o,b∉wr->b≠S->s.heap.get? b=some o->h'.get? b=some o)->R (.ok (.ret v)) {s with heap:=h',toks:=tk}) ->
 codeAny (model prog w) A (.builtin "min.loop" ⟨[.ref I,.none,.ref S],kw⟩) R s:=by
 have G:S∉wr:=λh=>hSf (W.sub _ h)
 have U:(toString "min"++toString ".loop":String)="min.loop" := by decide
 intro k
 induction k with
 |zero=>
  intro j s q c x u M O E D;have H:j+1=n:=by lia
  refine ba PySem.F.entry_min_loop ?_;rw[aE PySem.F.plain_min_loop _];show wpAny _ A.in1 (seqItems? (.ref S) >>= _) _ _ s;refine aa (be E rfl ?_);show wpAny _ A.in1 (tryCatch (pyNext (.ref I)) _ >>= _) _ _ s;refine aa (bq (W.done s _ _ (H▸M) λh' tk Y=>?_));have Q:=Y S _ G E;show wpAny _ A.in1 (updateSeq S (λ_=>#[]) >>= _) _ _ _;refine aa ?_;refine bg Q rfl (aa (ck (ag ?_)));refine D q _ tk (by rw[<-H];exact O) λb o Z X e=>(am _ _ (dv X)).trans (Y b o Z e)
 |succ k z=>
  intro j s q c x u M O E D;have L:j+1<n:=by lia
  refine ba PySem.F.entry_min_loop ?_;rw[aE PySem.F.plain_min_loop _];show wpAny _ A.in1 (seqItems? (.ref S) >>= _) _ _ s;refine aa (be E rfl ?_);show wpAny _ A.in1 (tryCatch (pyNext (.ref I)) _ >>= _) _ _ s;refine aa (bq (W.item (j+1) s _ _ L M λv h' tk y N Y=>?_));have Q:=Y S _ G E;show wpAny _ A.in1 (tryCatch (holding [v,v] (richCompare .Lt v q >>= _)) _ >>= _) _ _ _;refine aa (bq (aI (aa (hcmp (j+1) (argBest bt j) v q _ _ _ y O ?_))));refine aa (aI (ay ?_));refine aa (ck (ag ?_))
  cases hb:bt (j+1) (argBest bt j)with
  |true=>
   simp only[if_true];refine aa ?_;refine bg Q rfl (aa (ck ?_));rw[U];refine ag ⟨bd PySem.F.plain_min_loop _,z (j+1) _ v _ (by lia) L (W.frame _ _ _ N λb B o e=>?_) (by simp only[argBest,hb,if_true];exact y) (av _ Q rfl)
    λC J V K T=>?_⟩
   .exact(am _ _ (λh:S=b=>hSf (by rw[h];exact B))).trans e
   .exact D C J V K λb o Z X e=>T b o Z X ((am _ _ (dv X)).trans (Y b o Z e))
  |false=>
   simp only[fH,if_false];refine aa (ck ?_);rw[U];refine ag ⟨bd PySem.F.plain_min_loop _,z (j+1) _ q c (by lia) L N (by simp only[argBest,hb,fH,if_false];exact O) Q λC J V K T=>?_⟩;exact D C J V K λb o Z X e=>T b o Z X (Y b o Z e)
def IK(W:Walks prog w A.in1 I fp wr n P St)(bt:Nat->Nat->Bool)(O:CmpOf prog w A.in1 .Lt P bt)(S:Addr)(q:S∉fp)(hn:0<n){s:dk}{c:Nat}(hst:St 0 s.heap)
 (hS:s.heap.get? S=some {cls:=.type "list", dict:=none,data:=.seq #[] c,slots:=#[]})
 (hR:∀v h' tk,P (argBest bt (n-1)) v->(∀b o,b∉wr->b≠S->s.heap.get? b=some o->h'.get? b=some o)->R (.ok (.ret v)) {s with heap:=h',toks:=tk}) :
 codeAny (model prog w) A (.builtin "min.loop" ⟨[.ref I,.none,.ref S],kw⟩) R s:=by
 have L:S∉wr:=λh=>q (W.sub _ h)
 have Z:(toString "min"++toString ".loop":String)="min.loop" := by decide
 refine ba PySem.F.entry_min_loop ?_;rw[aE PySem.F.plain_min_loop _];show wpAny _ A.in1 (seqItems? (.ref S) >>= _) _ _ s;refine aa (be hS rfl ?_);show wpAny _ A.in1 (tryCatch (pyNext (.ref I)) _ >>= _) _ _ s;refine aa (bq (W.item 0 s _ _ hn hst λv h' tk G X U=>?_));have N:=U S _ L hS;show wpAny _ A.in1 (updateSeq S (λ_=>#[v,v]) >>= _) _ _ _;refine aa ?_;refine bg N rfl ?_;rw[Z];refine ag ⟨bd PySem.F.plain_min_loop _,Mu W bt O S q _ 0 _ v _ rfl hn (W.frame _ _ _ X λb M o e=>?_) G (av _ N rfl) λH J Y K V=>?_⟩
 .exact(am _ _ (λh:S=b=>q (by rw[h];exact M))).trans e
 .exact hR H J Y K λb o T Q e=>V b o T Q ((am _ _ (dv Q)).trans (U b o T e))
def Mw{d:Value}{nm:Str}(W:Walks prog w A.in1 I fp wr 0 P St)(S:Addr)(O:S∉fp){s:dk}{c:Nat}(q:St 0 s.heap)
 (U:s.heap.get? S=some {cls:=.type "list", dict:=none,data:=.seq #[] c,slots:=#[]})
 (hR:∀h' tk,(∀b o,b∉wr->b≠S->s.heap.get? b=some o->h'.get? b=some o)->R (.ok (.ret d)) {s with heap:=h',toks:=tk}) :
 codeAny (model prog w) A (.builtin "min.loop" ⟨[.ref I,.none,.ref S],[(nm,d)]⟩) R s:=by
 refine ba PySem.F.entry_min_loop ?_;rw[aE PySem.F.plain_min_loop _];show wpAny _ A.in1 (seqItems? (.ref S) >>= _) _ _ s;refine aa (be U rfl ?_);show wpAny _ A.in1 (tryCatch (pyNext (.ref I)) _ >>= _) _ _ s;refine aa (bq (W.done s _ _ q λh' tk Z=>?_));show wpAny _ A.in1 (rule _ >>= λ_=>ret d) _ _ _;exact aa (wpAny_rule (ag (hR h' tk λb o Y X e=>Z b o Y e)))
end
section
variable{prog:dt}
def Mx{x d:Value}
 (h:wpAny (model prog w) A.in1 (pyIter x) (λit q=>∃I fp wr n P St O,it = .ref I/\Walks prog w A.in1 I fp wr n P St/\St 0 q.heap/\(∀b∈fp,b<q.heap.objs.size)/\CmpOf prog w A.in1 .Lt P O /\
  (0<n->∀v h' tk,P (argBest O (n-1)) v->(∀b o,b∉wr->q.heap.get? b=some o->h'.get? b=some o)->Q v {q with heap:=h',toks:=tk}) /\
  (n=0->∀h' tk,(∀b o,b∉wr->q.heap.get? b=some o->h'.get? b=some o)->Q d {q with heap:=h',toks:=tk})) E s) :
 wpAny (model prog w) A (call (.builtin "min") [x] [(eg "default", d)]) Q E s:=by
 have Z:(toString "min"++toString ".loop":String)="min.loop" := by decide
 refine PyProof.Rows.kmb_tree PySem.F.kind_min PySem.F.plain_min PySem.F.entry_min (Mt _ _) ?_;show wpAny _ A.in1 (ff "min" ["key", "default"] 0 ⟨[],[(eg "default", d)]⟩ >>= _) _ _ s;refine aa (wpAny_of_eq (show ff "min" ["key", "default"] 0 ⟨[],[(eg "default", d)]⟩=pure [none,some d]from rfl) ?_);refine aa (ag ?_);refine aa (ar h (λit q X=>?_) λ_ _ e=>e);obtain⟨I,fp,wr,n,P,St,O,rfl,W,V,R,U,M,N⟩:=X;refine aa (cu ?_);have T:q.heap.objs.size∉fp:=λhm=>d7 _ (R _ hm)
 rw[Z];rcases tY n with hn|hn
 .subst hn;refine ag ⟨bd PySem.F.plain_min_loop _,Mw W q.heap.objs.size T (W.frame _ _ _ V λb _ o e=>ae _ e) (ai _ rfl) λh' tk S=>?_⟩;exact N rfl h' tk λb o Y e=>S b o Y (bF (af e)) (ae _ e)
 .refine ag ⟨bd PySem.F.plain_min_loop _,IK W O U q.heap.objs.size T hn (W.frame _ _ _ V λb _ o e=>ae _ e) (ai _ rfl) λv h' tk L S=>?_⟩;exact M hn v h' tk L λb o Y e=>S b o Y (bF (af e)) (ae _ e)
end
end XK
namespace XK
open L2 My D3
def af2(e:Same H H')(h:SqL K H a xs):SqL K H' a xs:=by
 rcases h with(h|⟨o,h⟩)|h
 .exact .inl (.inl (e _ _ h))
 .exact .inl (.inr ⟨o,e _ _ h⟩)
 .exact .inr h
section
variable{X:Cx}{fl:List Fl}{z:Expr}{fa:FA}{fz:FE}{kpos:Pos}
def U7(hc:X.calm=true){pins:List (Addr×Obj)}{s:dk}{σ:L2.St}{H:Hp}(I:L2.Inv X pins σ H s){q:Addr}{ns:List Int}(hx:SqL X.K H q (ns.map V.int)){u:Value}{Q:VK}{O:V}(rz:RelV O u)(h1:∀i r,ns=i::r->Q (.int (mnI i r)) H)(h0:ns=[]->Q O H):
 wpAny (model X.prog X.w) X.A (PySem.call (.builtin "min") [.ref q] [(eg "default", u)]) (EP X pins σ Q) X.xe s:=by
 obtain⟨its,S,pl,B⟩:=I.list hx;have hi:=yZ S;obtain⟨xs,e⟩:=hi.allInts.items;have Z:ns=xs.toList.map (·.1):=by rw[<-hi.numsOf,<-nums_intItems,<-e]
 have U:ns.length=xs.size:=by rw[Z,aG,cN]
 have F:s.heap.IsList q (intItems xs):=e▸pl.isList;refine Mx (iter_intList F λM C st N R=>?_);subst C;refine⟨_,_,_,_,_,_,_,rfl,Walks.list (A:=X.A.in1) (I.ok.hd hc) _ q R (intItems xs),st,N,CmpOf.ints_lt (numAt xs) (λ_ _=>intItems_at),λhn v h' tk D P=>?_,λhn h' tk P=>?_⟩
 .have W:0<xs.size:=by simpa[intItems]using hn
  obtain⟨i,Y,T⟩:∃i r,ns=i::r:=by
   cases ns with
   |nil=>simp at U;lia
   |cons i r=>exact⟨i,r,rfl⟩
  have G:(intItems xs)[argBest (λi j=>decide (numAt xs i<numAt xs j)) (xs.size-1)]? = some v:=by simpa[intItems]using D
  obtain⟨t,rfl⟩:=intItems_at G;obtain⟨g1,g2⟩:=argBest_lt (numAt xs) (xs.size-1);rw[T]at Z;have J:numAt xs (argBest (λi j=>decide (numAt xs i<numAt xs j)) (xs.size-1))∈i::Y:=by
   rw[Z,numAt_eq];exact getD_mem (by rw[aG,cN];lia)
  have L:∀a∈i::Y,numAt xs (argBest (λi j=>decide (numAt xs i<numAt xs j)) (xs.size-1))<=a:=λa ha=>by
   rw[Z]at ha;obtain⟨j,E,rfl⟩:=mem_getD ha;rw[aG,cN]at E;rw[<-numAt_eq];exact g2 j (by lia)
  have sp:=uX Y i;have eq:numAt xs (argBest (λi j=>decide (numAt xs i<numAt xs j)) (xs.size-1))=mnI i Y:=qx (L _ sp.1) (sp.2 _ J);rw[eq];exact⟨.int _,H,I.kept (old_kept P),⟨_,rfl⟩,h1 i Y T⟩
 .have W:xs.size=0:=by simpa[intItems]using hn
  exact⟨O,H,I.kept (old_kept P),rz,h0 (List.eq_nil_of_length_eq_zero (by rw[U,W]))⟩
theorem U8(hc:X.calm=true)(ha:DB X fl .P [e] fa)(hz:DE X fl .P z fz)(hg:Gl X "min")(hm:X.mg "min"=none)
 (he:backTo pos (starEach [e] X.env)=(false,eval e X.env)::backTo pos (starEach [] X.env):=by rfl) (hpl:(backTo pos (starEach [e] X.env)).any (·.1)=false:=by rfl)
 (O:(backToKw pos (keywordEach [⟨some (eg "default"),z,kpos⟩] X.env)).all (·.1.isSome)=true:=by rfl) (hkw:(backToKw pos (keywordEach [⟨some (eg "default"),z,kpos⟩] X.env)).any (·.1.isNone)=false:=by rfl)
 (hks:(backToKw pos (keywordEach [⟨some (eg "default"),z,kpos⟩] X.env)).filterMap (·.1)=[eg "default"]:=by rfl) :
 DE X fl .FC (.Call (.Name "min" p) [e] [⟨some (eg "default"),z,kpos⟩] pos) (Ka fa fz):=by
 intro pins s σ H Q I C;refine D3.ex4 C λG ow δ d R B q=>?_
 refine D3.ex1 (bind1 B) λl x L=>?_
 refine D3.ex1 (bind1 L) λJ y Z=>?_
 refine ax (ou I hg hm PyProof.Rows.boot_min ?_);refine PyProof.Rows.callWith_kw ?_ he hpl O hkw;refine thn (ha pos pins s σ H (λvs H1=>Same H H1/\RAs X.K ok1 true H1 vs l) I ⟨G,ow,δ,_,R,x,λvs H' s' F=>⟨s',F⟩⟩) λus s1 ⟨vs,H1,o,r1,V,ra⟩=>?_
 refine thn ((Ti hz X4) pos pins s1 σ H1 (λws H2=>∃w,ws=[w]/\Same H1 H2/\RA X.K ok1 true H2 w J) o ⟨G,ow,δ,_,R.grow V,y,λw H2 s2 r2=>⟨w,rfl,s2,r2⟩⟩) λkvs s2 ⟨ws,H2,t,r2,w,A,W,S⟩=>?_
 subst A;rw[hks];obtain⟨E,rfl,N⟩:=vals1 r2;show wpAny _ _ (PySem.call (.builtin "min") us [(eg "default", E)]) _ _ _;obtain⟨m,rfl⟩:∃m,l=[.list m]:=by
  match l,Z with
  |[.list m],_=>exact⟨m,rfl⟩
 dsimp only at Z
 cases ra with
 |cons M ra2=>
 cases ra2;obtain⟨a,ys,rfl,hx,D⟩:=M.lstE
 cases r1 with
 |cons u v=>
 cases v
 cases u
 cases T:kE m with
 |none=>rw[T]at Z;cases Z
 |some ns=>
 obtain rfl:=rH T D;refine U7 hc t (af2 W hx) N (λi r U=>?_) λU=>?_
 .subst U;rw[T]at Z;dsimp only at Z;unfold Od at Z;dsimp only at Z;rw[T]at Z
  cases Z;exact q _ H2 (V.trans W) (.inl ⟨rfl,.int _⟩)
 .subst U;rw[T]at Z;dsimp only at Z;by_cases Y:flat J=true
  .rw[if_pos Y]at Z
   cases Z;exact q _ H2 (V.trans W) (.inl ⟨Y,RA.flat Y S⟩)
  .rw[if_neg Y]at Z;cases Z
variable{a:Expr}{ta:TE}
def U9{j pos'}(ha:PE X a ta):PC X .IsNot a (.Constant (.bool false) j pos') (λσ H Q=>ta σ H λx H1=>∃b,x = .bl b/\Q (.bl b) H1):=by
 intro pins s σ H Q I h;refine thn (ha pins s σ H _ I h) λv s1 ⟨x,H1,Z,r1,q1⟩=>?_
 obtain⟨b,rfl,q⟩:=q1
 cases r1;refine Constant_bool ?_
 cases b
 .exact ag ⟨.bl false,H1,Z,rfl,q⟩
 .exact ag ⟨.bl true,H1,Z,rfl,q⟩
def U_{j pos'}(h:DE X fl .P a f):DT X fl (.Compare a [.IsNot] [.Constant (.bool false) j pos'] pos) (bG (dUn T3 f)):=PT.imp (Hj (U9 h)) λσ H Q h=>by
 refine D3.ex4 h λG ow δ b R Y q=>?_
 refine D3.ex1 (bind1 Y) λy U W=>?_
 refine D3.ex1 (bind1 U) λx V Z=>?_
 cases x<;>first|(cases Z;done)|skip
 cases Z
 cases W;refine⟨G,ow,δ,_,R,V,λv H1 s1 r1=>?_⟩;obtain rfl:=RA.blE r1;exact⟨_,rfl,_,rfl,q H1 s1⟩
end
end XK
namespace D3
noncomputable def o_:D->D->Option D:=λx y=>match x,y with
 | .str i,.str j=>if i.length+j.length<=1000000 then some (.str (i++j))else none
 |_,_=>none
def FQ:D->D->Option D:=λx y=>match x,y with
 | .str z,.int i=>if z.length<=1000000 then(L2.atI z.cps.toList i).map λc=>.str ⟨#[c]⟩else none
 |_,_=>none
def FZ:List D->Option D
 |[.str z]=>if z.length<=1000000 then some (.int z.length)else none
 |_=>none
end D3
namespace XW
open L2 My D3
section
variable{X:Cx}{fl:List Fl}{a b:Expr}{fa:FE}
def wG:BrO K (λx y H Q=>∃i j,x = .str i/\y = .str j/\i.length+j.length<=sizeLine/\Q (.str (i++j)) H) o_:=by
 intro H x y dx W d Q Y Z e q;unfold o_ at e;split at e
 .split at e
  .next X=>
   cases e;obtain rfl:=RA.strE Y;obtain rfl:=RA.strE Z;exact⟨_,_,rfl,rfl,bf X (by decide),q _ rfl (.str _)⟩
  .cases e
 .cases e
def YG:BrC K (λxs H Q=>∃z,xs=[.str z]/\z.length<=sizeLine/\Q (.int z.length) H) FZ:=by
 intro H xs ds d Q r e q;unfold FZ at e;split at e
 .split at e
  .next Z=>
   cases e
   cases r with
   |cons r1 r2=>
    cases r2;obtain rfl:=RA.strE r1;exact⟨_,rfl,bf Z (by decide),q _ rfl (.int _)⟩
  .cases e
 .cases e
def YH(ha:DE X fl .P a fa)(hb:DE X fl .P b fb)(O:pR b):DE X fl .FC (.Subscript a b pos) (dOp FQ fa fb):=PE.imp (En N5 ha hb O) λσ H Q h=>by
 refine D3.ex4 h λG ow δ d R V q=>?_
 refine D3.ex2 (rF V) λx y T U Z=>?_
 refine⟨G,ow,δ,x,R,T,λv H1 s1 r1=>⟨G,ow,δ,y,R.grow s1,U,λu H2 s2 r2=>?_⟩⟩;unfold FQ at Z;split at Z
 .next z i=>
  split at Z
  .next W=>
   obtain rfl:=RA.intE r2;obtain rfl:=RA.strE r1
   cases Y:atI z.cps.toList i with
   |none=>rw[Y]at Z;cases Z
   |some c=>
    rw[Y]at Z
    cases Z;exact⟨z,i,c,rfl,rfl,bf W (by decide),Y,q _ H2 (s1.trans s2) (.inl ⟨rfl,.str _⟩)⟩
  .cases Z
 .cases Z
end
end XW
namespace D3
end D3
namespace XW
open L2 My D3
section
variable{X:Cx}{fl:List Fl}{a b:Expr}{fa:FE}
end
end XW
namespace D3
noncomputable def qg:D->Option (List D)
 | .str z=>if(z.cps.all λx=>decide (x<128))=true then some (z.cps.toList.map λc=>.str ⟨#[c]⟩)else none
 |_=>none
def YJ(f:FE):FA:=λδ=>(f δ).bind qg
end D3
namespace XW
open L2 My D3
noncomputable def Its(z:Str):It where
 go:=λi _=>∃c,z.cps[i]? = some c
 yld:=λi H x H'=>H=H'/\∃c,z.cps[i]? = some c/\x = .str ⟨#[c]⟩
 stop:=λi _=>z.cps.size<=i
theorem Qn(z:Str)(t:Tok)(it:Addr):Turn P w K tg (Its z) [it] it (λi h=>h.IsStrIter it "str_ascii_iterator" z t i) where
 mem:=by simp
 obj:=λi h st b hb=>by
  have e:b=it:=by simpa using hb
  subst e;obtain⟨o,e,c,d⟩:=st;exact⟨o,e,λv z=>by rw[d]at z;cases z⟩
 keep:=λi h h' st k=>by
  obtain⟨o,e,c,d⟩:=st;exact⟨o,k it (by simp) o e,c,d⟩
 item:=by
  intro X V hw U O i pins s σ H E I Y st W;subst V hw U;obtain⟨c,hx⟩:=W;obtain⟨Q,f1,f2,R,S,T⟩:=Y it (by simp);refine wpAny_pyNext_ascii_item st hx λh' Z N=>?_
  have L:Inv X pins σ H {s with heap:=h',toks:=s.toks+1}:=I.turned (t':=s.toks+1) (λb o hb e=>(N.2 b hb).trans e) Q f1 R S T;obtain⟨o,e,c',d⟩:=id Z;exact⟨_,rfl,Ei (s:={s with heap:=h',toks:=s.toks+1}) e c' d (by decide) ⟨.str ⟨#[c]⟩,H,L,⟨_,rfl⟩,⟨rfl,c,hx,rfl⟩,Z,λb hb=>(Y b hb).1⟩⟩
 done:=by
  intro X V hw U O i pins s σ H E I Y st W;subst V hw U;obtain⟨Q,f1,f2,R,S,T⟩:=Y it (by simp);exact wpAny_pyNext_ascii_end (I.ok.hd O) st (gB W) λh' M=>⟨rfl,I.turned (t':=s.toks) (λb o hb e=>M b o hb e) Q f1 R S T⟩
 self:=λ_ _ _ _ _ st h=>wpAny_pyIter_striter_ascii st h
def aq0(tl:TE):TI:=λσ H R=>tl σ H λx H1=>∃z:Str,x = .str z/\(z.cps.all λx=>decide (x<128))=true/\R (Its z) H1
section
variable{X:Cx}{fl:List Fl}{a b:Expr}
def YK{l:Expr}(O:PE X l tl):PI X tg l (aq0 tl):=by
 intro pins s σ H R I h;refine thn (O pins s σ H _ I h) λv s1 ⟨x,H1,Z,r1,q1⟩=>?_
 obtain⟨z,e,ha,q⟩:=q1;subst e;obtain⟨t,rfl⟩:=(show ∃t,v=eQ z t from r1);have ty:strIterType z="str_ascii_iterator" := by
  unfold strIterType;rw[if_pos ha]
 refine wpAny_pyIter_strU ?_;rw[ty];refine⟨s1.heap.objs.size,[s1.heap.objs.size],_,_,H1,rfl,Z.kept (t':=s1.toks) λb o e=>ae _ e,Qn z t _,⟨_,ai _ rfl,rfl,rfl⟩,λb hb=>?_,q⟩;have e:b=s1.heap.objs.size:=by simpa using hb
 subst e;exact Z.fpOk (aV _) (Z.hok.fresh (aV _))
def YL(h:DE X fl .P e f):DI X fl L tg e (YJ f):=PI.imp (YK h) λσ H R' h=>by
 refine D3.ex4 h λG ow δ l R T q=>?_
 refine D3.ex1 (bind1 T) λd S Z=>?_
 unfold qg at Z;split at Z
 .next z=>
  split at Z
  .next ha=>
   cases Z;refine⟨G,ow,δ,_,R,S,λv H1 s r=>?_⟩;obtain rfl:=RA.strE r;refine⟨z,rfl,ha,q _ _ s λH2 k2 i=>?_⟩;refine⟨λd hd=>?_,λV=>?_⟩
   .rw[aP]at hd
    cases W:z.cps.toList[i]? with
    |none=>rw[W]at hd;cases hd
    |some c=>
     rw[W]at hd
     cases hd;have Y:z.cps[i]? = some c:=by rw[<-W];simp
     refine⟨⟨c,Y⟩,λx Q U=>?_⟩;obtain⟨e,c',h1,rfl⟩:=U;subst e;rw[Y]at h1
     cases h1;exact⟨Same.refl _,.str _⟩
   .show z.cps.size<=i;rw[aG]at V;simpa using V
  .cases Z
 .cases Z
end
end XW
namespace XI
open L2 My D3
def less(H:Hp)(as:List Addr):Hp:=λb=>if b∈as then none else H b
def Va(h:a∈as):less H as a=none:=if_pos h
def nG(h:a∉as):less H as a=H a:=if_neg h
def lK(q:∀b∈as,Chd (H b))(h:H a=some o)(hn:Chg o->False):less H as a=some o:=by
 rw[nG λz=>?_]
 .exact h
 .obtain⟨u,e,c⟩:=q a z;rw[h]at e
  cases e;exact hn c
def rM(q:∀b∈as,Chd (H b))(h:iD H a xs):iD (less H as) a xs:=lK q h Chg.tup
section
variable{H:Hp}{ok:Ok}{pl:Bool}
def Ga(O:∀b∈as,Chd (H b))(U:∀b,ok b->b∉as):(∀{v:V}{d:D},RA K ok pl H v d->RA K ok pl (less H as) v d)/\∀{v:List V}{d:List D},RAs K ok pl H v d->RAs K ok pl (less H as) v d:=
 RA.ind .non .bl .int .str (λe k q=>.lst (by rw[nG (U _ k)];exact e) k q) (λe k q=>.lsk (by
  rcases e with⟨o,e⟩|e
  .exact .inl ⟨o,lK O e Chg.frz⟩
  .exact .inr e) k q) (λe q=>.tup (rM O e) q) (λe g k=>.dic (by rw[nG (U _ k)];exact e) (g.imp λ_ _ t=>rM O t) k) (λe g k=>.dik (lK O e Chg.frz) (g.imp λ_ _ t=>rM O t) k)
  (λe g q z=>.ins (lK O e Chg.ins) (lK O g Chg.own) q z) .nil .cons
def Qo(O:∀b∈as,Chd (H b)):(∀{v:V}{d:D}{bs:List Addr},RT K H v d bs->(∀b∈bs,b∉as)->RT K (less H as) v d bs)/\∀{v:List V}{d:List D}{bs:List Addr},RTs K H v d bs->(∀b∈bs,b∉as)->RTs K (less H as) v d bs:=
 RT.ind (λ_=>.non) (λb _=>.bl b) (λi _=>.int i) (λx _=>.str x) (λe q Z=>.lst (by rw[nG (Z _ aJ)];exact e) (q λb hb=>Z b (aH _ hb))) (λe q Z=>.tup (rM O e) (q Z))
  (λe g Z=>.dic (by rw[nG (Z _ aJ)];exact e) (g.imp λ_ _ t=>rM O t)) (λe g _ q z Z=>.ins (lK O e Chg.ins) (lK O g Chg.own) (q Z) z) (λ_=>.nil)
  λe q Z=>.cons (e λb hb=>Z b (bH _ hb)) (q λb hb=>Z b (aU _ hb))
end
variable{fl:List Fl}
def Qq{σ:D3.St}{i:Nat}(R:Rel K fl G ow σ H δ)(q:fl[i]? = some .N\/fl[i]? = some .W)(hi:i<δ.length)(hv:σ[i]? = some (some v))(s:Same (less H (ow.n i)) H')
 (hr:RT K H' v d as) (O:∀b∈as,b∈ow.n i\/H b=none) (hd:as.Nodup):Rel K fl G (owN ow i as) σ H' (δ.set i (some (.d d))):=by
 have P:∀b∈ow.n i,Chd (H b):=λb hb=>(R.nt i b hb).2.1
 have I:∀b∈ow.n i,G.HF b=none:=λb hb=>by
  rcases(R.nt i b hb).2.2 with⟨_,z⟩|z
  .exact z
  .rcases q with y|y<;>(rw[y]at z;cases z)
 have no:∀a,ow i≠some a:=λa z=>by
  obtain⟨_,L,_⟩:=R.own i a z;rcases q with y|y<;>(rw[y]at L;rcases L with⟨z,_⟩|⟨z,_⟩<;>cases z)
 have out:∀b o,b∉ow.n i->H b=some o->H' b=some o:=λb o hb e=>s b o (by rw[nG hb];exact e)
 have sub:∀b,okA ow b/\H b≠none->okA (owN ow i as) b:=λb z=>⟨z.1.1,λj e=>by
  by_cases Z:j=i
  .subst Z;rw[kW]at e;rcases O b e with y|y
   .exact z.1.2 j y
   .exact z.2 y
  .rw[jM Z]at e;exact z.1.2 j e⟩
 have Q:∀{v:V}{d:D},RA K (okA ow) true H v d->RA K (okA (owN ow i as)) true H' v d:=λr=>
  (((Ga (as:=ow.n i) P (λb z=>z.1.2 i)).1 r.track).same s).imp sub (λz=>z)
 have U:∀{v:List V}{d:List D},RAs K (okA ow) true H v d->RAs K (okA (owN ow i as)) true H' v d:=λr=>
  (((Ga (as:=ow.n i) P (λb z=>z.1.2 i)).2 r.track).same s).imp sub (λz=>z)
 have fresh:∀b,H b=none->∀j,b∉ow.n j/\ow j≠some b:=λb e j=>⟨λz=>(R.nt j b z).2.1.ne e,λz=>by
  obtain⟨_,_,xs,ds,_,g2,_⟩:=R.own j b z;rw[e]at g2
  cases g2⟩
 refine⟨R.s0,λb o hb=>?_,by rw[cg];exact R.len,λj b h=>?_,R.inj,R.pin,λj T g1 X g2=>?_,λj T g1 X g2 g3=>?_,λj b h=>?_,λj j' b h h'=>?_,λj j' b h=>?_,λj h=>?_,λj T X g1=>?_,R.fx⟩
 .exact out b o (λz=>by rw[I b z]at hb;cases hb) (R.s1 b o hb)
 .have Z:j≠i:=λz=>no b (z▸h)
  obtain⟨F,J,zs,ds,g1,g2,g3,M⟩:=R.own j b h;exact⟨F,J,zs,ds,g1,out b _ (λz=>R.ns i j b z h) g2,U g3,by rw[aM (dv Z)];exact M⟩
 .rcases ig g1 with⟨rfl,e⟩|⟨Z,e⟩
  .rcases q with y|y<;>(rw[y]at X;cases X)
  .obtain⟨S,g3,M⟩:=R.dat j T e X g2;exact⟨S,g3,Q M⟩
 .rcases ig g1 with⟨rfl,e⟩|⟨Z,e⟩
  .rcases q with y|y<;>(rw[y]at X;cases X)
  .exact R.oo j T e X g2 g3
 .by_cases Z:j=i
  .subst Z;rw[kW]at h;rcases O b h with y|y
   .obtain⟨g1,_,g3⟩:=R.nt j b y;exact⟨g1,hr.chd b h,g3⟩
   .refine⟨?_,hr.chd b h,.inl ⟨q,?_⟩⟩
    .cases z:G.H0 b with
     |none=>rfl
     |some o=>rw[R.same0 b o z]at y;cases y
    .cases z:G.HF b with
     |none=>rfl
     |some o=>rw[R.s1 b o z]at y;cases y
  .rw[jM Z]at h;obtain⟨g1,g2,g3⟩:=R.nt j b h;obtain⟨u,e,c⟩:=g2;exact⟨g1,⟨u,out b u (λz=>Z (R.nd j i b h z)) e,c⟩,g3⟩
 .by_cases Z:j=i
  .by_cases Y:j'=i
   .rw[Z,Y]
   .rw[Z,kW]at h;rw[jM Y]at h';rcases O b h with y|y
    .rw[Z];exact R.nd i j' b y h'
    .exact absurd h' (fresh b y j').1
  .rw[jM Z]at h;by_cases Y:j'=i
   .rw[Y,kW]at h';rcases O b h' with y|y
    .rw[Y];exact R.nd j i b h y
    .exact absurd h (fresh b y j).1
   .rw[jM Y]at h';exact R.nd j j' b h h'
 .by_cases Z:j=i
  .rw[Z,kW]at h;rcases O b h with y|y
   .exact R.ns i j' b y
   .exact(fresh b y j').2
  .rw[jM Z]at h;exact R.ns j j' b h
 .have Z:j≠i:=λz=>by rcases q with y|y<;>(rw[z,y]at h;cases h)
  rw[jM Z];exact R.np j h
 .rcases ig g1 with⟨rfl,e⟩|⟨Z,e⟩
  .cases e;exact⟨v,hv,by rw[kW];exact hr,by rw[kW];exact hd⟩
  .obtain⟨S,h1,h2,h3⟩:=R.nr j T X e;rw[jM Z];exact⟨S,h1,((Qo P).1 h2 λb hb z=>Z (R.nd j i b hb z)).same s,h3⟩
end XI
variable{J:Nat->Bool}
namespace XI
open L2 My D3
open Classical in
def kY(H:Hp)(p:Addr->Prop):Hp:=λb=>if p b then none else H b
section
variable{H:Hp}{p:Addr->Prop}
def vD(h:p a):kY H p a=none:=by unfold kY;rw[if_pos h]
def iH(h:¬p a):kY H p a=H a:=by unfold kY;rw[if_neg h]
def IV:Same (kY H p) H:=λb o h=>by
 by_cases z:p b
 .rw[vD z]at h;cases h
 .rw[iH z]at h;exact h
def jo(q:∀b,p b->Chd (H b))(h:H a=some o)(hn:Chg o->False):kY H p a=some o:=by
 rw[iH λz=>?_]
 .exact h
 .obtain⟨u,e,c⟩:=q a z;rw[h]at e
  cases e;exact hn c
def pq(q:∀b,p b->Chd (H b))(h:iD H a xs):iD (kY H p) a xs:=jo q h Chg.tup
def Qs(q:∀b,p b->Chd (H b))(t:Tb H):Tb (kY H p):=λx hx=>jo q (t x hx) λc=>by
 rcases c.ch with⟨_,z⟩|⟨_,z⟩|⟨_,z⟩<;>cases z
variable{ok:Ok}{pl:Bool}
def Bm(O:∀b,p b->Chd (H b))(U:∀b,ok b->¬p b):(∀{v:V}{d:D},RA K ok pl H v d->RA K ok pl (kY H p) v d)/\∀{v:List V}{d:List D},RAs K ok pl H v d->RAs K ok pl (kY H p) v d:=
 RA.ind .non .bl .int .str (λe k q=>.lst (by rw[iH (U _ k)];exact e) k q) (λe k q=>.lsk (by
  rcases e with⟨o,e⟩|e
  .exact .inl ⟨o,jo O e Chg.frz⟩
  .exact .inr e) k q) (λe q=>.tup (pq O e) q) (λe g k=>.dic (by rw[iH (U _ k)];exact e) (g.imp λ_ _ t=>pq O t) k) (λe g k=>.dik (jo O e Chg.frz) (g.imp λ_ _ t=>pq O t) k)
  (λe g q z=>.ins (jo O e Chg.ins) (jo O g Chg.own) q z) .nil .cons
def Mz(O:∀b,p b->Chd (H b)):(∀{v:V}{d:D}{bs:List Addr},RT K H v d bs->(∀b∈bs,¬p b)->RT K (kY H p) v d bs)/\∀{v:List V}{d:List D}{bs:List Addr},RTs K H v d bs->(∀b∈bs,¬p b)->RTs K (kY H p) v d bs:=
 RT.ind (λ_=>.non) (λb _=>.bl b) (λi _=>.int i) (λx _=>.str x) (λe q Z=>.lst (by rw[iH (Z _ aJ)];exact e) (q λb hb=>Z b (aH _ hb))) (λe q Z=>.tup (pq O e) (q Z))
  (λe g Z=>.dic (by rw[iH (Z _ aJ)];exact e) (g.imp λ_ _ t=>pq O t)) (λe g _ q z Z=>.ins (jo O e Chg.ins) (jo O g Chg.own) (q Z) z) (λ_=>.nil)
  λe q Z=>.cons (e λb hb=>Z b (bH _ hb)) (q λb hb=>Z b (aU _ hb))
end
def ofJ(J:Nat->Bool)(n:Nat->List Addr)(b:Addr):Prop:=∃j,J j=true/\b∈n j
def IW(ow:Ow)(J:Nat->Bool)(as:Nat->List Addr):Ow:=⟨ow.s,λj=>if J j=true then as j else ow.n j⟩
def um{as:Nat->List Addr}(h:J j=true):(IW ow J as).n j=as j:=if_pos h
def rN{as:Nat->List Addr}(h:J j=false):(IW ow J as).n j=ow.n j:=if_neg (by rw[h];decide)
variable{fl:List Fl}
def af3{σ:D3.St}{as:Nat->List Addr}(R:Rel K fl G ow σ H δ)(q:∀j,J j=true->fl[j]? = some .N\/fl[j]? = some .W)(hl:δ'.length=δ.length)(he:∀j,J j=false->δ'[j]? = δ[j]?)
 (s:Same (kY H (ofJ J ow.n)) H') (hr:∀j,J j=true->∃v d,σ[j]? = some (some v)/\δ'[j]? = some (some (.d d))/\RT K H' v d (as j)/\(as j).Nodup) (O:∀j,J j=true->∀b∈as j,ofJ J ow.n b\/H b=none)
 (hd:∀i j,J i=true->J j=true->∀b,b∈as i->b∈as j->i=j):Rel K fl G (IW ow J as) σ H' δ':=by
 have M:∀b,ofJ J ow.n b->Chd (H b):=λb ⟨j,_,hb⟩=>(R.nt j b hb).2.1
 have L:∀b,ofJ J ow.n b->G.HF b=none/\G.H0 b=none:=λb ⟨j,Z,hb⟩=>by
  refine⟨?_,(R.nt j b hb).1⟩;rcases(R.nt j b hb).2.2 with⟨_,z⟩|z
  .exact z
  .rcases q j Z with y|y<;>(rw[y]at z;cases z)
 have no:∀j,J j=true->∀a,ow j≠some a:=λj Z a z=>by
  obtain⟨_,E,_⟩:=R.own j a z;rcases q j Z with y|y<;>(rw[y]at E;rcases E with⟨z,_⟩|⟨z,_⟩<;>cases z)
 have isT:∀j,J j=true->isN fl[j]? = true:=λj Z=>by rcases q j Z with y|y<;>(rw[y];rfl)
 have out:∀b o,¬ofJ J ow.n b->H b=some o->H' b=some o:=λb o hb e=>s b o (by rw[iH hb];exact e)
 have sub:∀b,okA ow b/\H b≠none->okA (IW ow J as) b:=λb z=>⟨z.1.1,λj e=>by
  cases Z:J j with
  |true=>
   rw[um Z]at e;rcases O j Z b e with⟨i,_,y⟩|y
   .exact z.1.2 i y
   .exact z.2 y
  |false=>
   rw[rN Z]at e;exact z.1.2 j e⟩
 have F:∀b,okA ow b/\H b≠none->¬ofJ J ow.n b:=λb z ⟨j,_,y⟩=>z.1.2 j y
 have P:∀{v:V}{d:D},RA K (okA ow) true H v d->RA K (okA (IW ow J as)) true H' v d:=λr=>(((Bm M F).1 r.track).same s).imp sub (λz=>z)
 have U:∀{v:List V}{d:List D},RAs K (okA ow) true H v d->RAs K (okA (IW ow J as)) true H' v d:=λr=>(((Bm M F).2 r.track).same s).imp sub (λz=>z)
 have fresh:∀b,H b=none->∀j,b∉ow.n j/\ow j≠some b:=λb e j=>⟨λz=>(R.nt j b z).2.1.ne e,λz=>by
  obtain⟨_,_,xs,ds,_,g2,_⟩:=R.own j b z;rw[e]at g2
  cases g2⟩
 have T:∀i j b,J i=true->J j=false->b∈as i->b∉ow.n j:=λi j b hi Z hb z=>by
  rcases O i hi b hb with⟨k,C,y⟩|y
  .have:=R.nd k j b y z;rw[this,Z]at C
   cases C
  .exact(fresh b y j).1 z
 refine⟨R.s0,λb o hb=>?_,by rw[hl];exact R.len,λj b h=>?_,R.inj,R.pin,λj S g1 X g2=>?_,λj S g1 X g2 g3=>?_,λj b h=>?_,λj j' b h h'=>?_,λj j' b h=>?_,λj h=>?_,λj S X g1=>?_,R.fx⟩
 .exact out b o (λz=>by rw[(L b z).1]at hb;cases hb) (R.s1 b o hb)
 .have Z:J j=false:=by
   cases z:J j with
   |false=>rfl
   |true=>exact absurd h (no j z b)
  obtain⟨A,B,zs,ds,g1,g2,g3,I⟩:=R.own j b h;exact⟨A,B,zs,ds,g1,out b _ (λ⟨i,_,z⟩=>R.ns i j b z h) g2,U g3,by rw[he j Z];exact I⟩
 .have Z:J j=false:=by
   cases z:J j with
   |false=>rfl
   |true=>rw[isT j z]at X;cases X
  rw[he j Z]at g1;obtain⟨Q,g3,I⟩:=R.dat j S g1 X g2;exact⟨Q,g3,P I⟩
 .have Z:J j=false:=by
   cases z:J j with
   |false=>rfl
   |true=>rw[isT j z]at X;cases X
  rw[he j Z]at g1;exact R.oo j S g1 X g2 g3
 .cases Z:J j with
  |true=>
   rw[um Z]at h;obtain⟨_,_,_,_,r,_⟩:=hr j Z;have c:=r.chd b h;rcases O j Z b h with y|y
   .exact⟨(L b y).2,c,.inl ⟨q j Z,(L b y).1⟩⟩
   .refine⟨?_,c,.inl ⟨q j Z,?_⟩⟩
    .cases z:G.H0 b with
     |none=>rfl
     |some o=>rw[R.same0 b o z]at y;cases y
    .cases z:G.HF b with
     |none=>rfl
     |some o=>rw[R.s1 b o z]at y;cases y
  |false=>
   rw[rN Z]at h;obtain⟨g1,⟨u,e,c⟩,g3⟩:=R.nt j b h;exact⟨g1,⟨u,out b u (λ⟨i,hi,z⟩=>by
    have:=R.nd j i b h z;rw[this,hi]at Z
    cases Z) e,c⟩,g3⟩
 .cases Z:J j with
  |true=>
   rw[um Z]at h
   cases Y:J j' with
   |true=>rw[um Y]at h';exact hd j j' Z Y b h h'
   |false=>rw[rN Y]at h';exact absurd h' (T j j' b Z Y h)
  |false=>
   rw[rN Z]at h
   cases Y:J j' with
   |true=>rw[um Y]at h';exact absurd h (T j' j b Y Z h')
   |false=>rw[rN Y]at h';exact R.nd j j' b h h'
 .cases Z:J j with
  |true=>
   rw[um Z]at h;rcases O j Z b h with⟨k,_,y⟩|y
   .exact R.ns k j' b y
   .exact(fresh b y j').2
  |false=>rw[rN Z]at h;exact R.ns j j' b h
 .have Z:J j=false:=by
   cases z:J j with
   |false=>rfl
   |true=>rcases q j z with y|y<;>(rw[y]at h;cases h)
  rw[rN Z];exact R.np j h
 .cases Z:J j with
  |true=>
   obtain⟨v,d,h1,h2,h3,h4⟩:=hr j Z;rw[h2]at g1
   cases g1;rw[um Z];exact⟨v,h1,h3,h4⟩
  |false=>
   rw[he j Z]at g1;obtain⟨Q,h1,h2,h3⟩:=R.nr j S X g1;rw[rN Z];exact⟨Q,h1,((Mz M).1 h2 λb hb ⟨i,hi,z⟩=>by
    have:=R.nd j i b hb z;rw[this,hi]at Z
    cases Z).same s,h3⟩
end XI
variable{T:Nat->List Addr}
namespace XI
open L2 My D3
def jr:List Nat->DS->Option (List D)
 |[],_=>some []
 |i::l,δ=>(aA i δ).bind λd=>(jr l δ).bind λr=>some (d::r)
def xG(l:List Nat)(f:FE):FS:=λδ=>(f δ).bind λd=>if flat d=true then(jr l δ).bind λr=>some (.ex "" "" (.tuple (d::r)))else none
def Qt(l:List Nat)(o:Option Oc):Option D:=match o with
 |some (.ex _ _ d)=>some d
 |some (.nx δ)=>(jr l δ).bind λr=>some (.tuple (.none::r))
 |_=>none
def fnW(p q:Nat)(l:List Nat)(b:FS):List D->Option D:=λds=>if ds.length=p then Qt l (b (ds.map (λd=>some (.d d))++bK q none))else none
theorem Gb:∀{l:List Nat}{δ:DS}{r:List D},jr l δ=some r->∀{k i:Nat},l[k]? = some i->∃d,r[k]? = some d/\δ[i]? = some (some (.d d))
 |[],_,_,_,k,i,h=>by simp at h
 |j::l,δ,r,e,k,i,h=>by
  refine D3.ex1 (bind1 e) λd Y e=>?_
  refine D3.ex1 (bind1 e) λX Z e=>?_
  cases e
  cases k with
  |zero=>cases h;exact⟨d,rfl,jk Y⟩
  |succ k=>exact Gb Z (by simpa using h)
structure EndP(K:PySem.W.Frag)(l:List Nat)(G:Gh)(H':Hp)(T':Nat->List Addr)(ps:List D):Prop where
 sm:Same G.H0 H'
 rt:∀(k i:Nat)(u:V),l[k]? = some i->G.fv i=some u->∃d',ps[k]? = some d'/\RT K H' u d' (T' i)/\(T' i).Nodup
 fr:∀i∈l,∀b∈T' i,G.H0 b=none
 dj:∀i∈l,∀j∈l,∀b,b∈T' i->b∈T' j->i=j
def mV{σ:D3.St}{l:List Nat}{ps:List D}(R:Rel K fl G ow σ H δ)(O:∀i∈l,fl[i]? = some .W)(q:jr l δ=some ps):EndP K l G H ow.n ps:=by
 refine⟨R.same0,λk i u Z Y=>?_,λi _ b hb=>(R.nt i b hb).1,λi _ j _ b h1 h2=>R.nd i j b h1 h2⟩;have hi:=O i (cY Z);obtain⟨d,V,X⟩:=Gb q Z;obtain⟨U,g1,g2,g3⟩:=R.nr i d (by rw[hi];rfl) X;have:=R.fx i u hi Y;rw[this]at g1
 cases g1;exact⟨d,V,g2,g3⟩
def YM(K:PySem.W.Frag)(l:List Nat)(G:Gh)(d:D)(Q:V->Hp->Prop):Prop:=∀r ps v H' (T':Nat->List Addr),d = .tuple (r::ps)->flat r=true->RA K ok0 false H' v r->EndP K l G H' T' ps->Q v H'
def zA{σ:D3.St}{l:List Nat}{ps:List D}{r:D}{Q:V->Hp->Prop}(R:Rel K fl G ow σ H δ)(Z:∀i∈l,fl[i]? = some .W)(Y:jr l δ=some ps)(q:YM K l G (.tuple (r::ps)) Q)(U:flat r=true)(O:RA K ok0 false H v r):Q v H:=
 q r ps v H ow.n rfl U O (mV R Z Y)
def aq1(K:PySem.W.Frag)(fl:List Fl)(l:List Nat)(G:Gh)(Dn:Ends):Oc->Prop
 | .ex _ _ d=>YM K l G d Dn.rt
 | .rt _=>False
 |o=>Aa K fl G Dn o
def tDW(K:PySem.W.Frag)(fl:List Fl)(l:List Nat)(f:FS):TS:=λDn σ H=>∃G ow δ o,Rel K fl G ow σ H δ/\f δ=some o/\aq1 K fl l G Dn o
abbrev DW1(X:Cx)(fl:List Fl)(l:List Nat)(s:Stmt)(f:FS):Prop:=PS X s (tDW X.K fl l f)
abbrev DWs(X:Cx)(fl:List Fl)(l:List Nat)(s:List Stmt)(f:FS):Prop:=PSs X s (tDW X.K fl l f)
def GoW(f:FS):Prop:=∀δ o,f δ=some o->(∀d,o ≠ .rt d)/\∀c x d,o ≠ .ex c x d
section
variable{X:Cx}{fl:List Fl}{l:List Nat}{c:Expr}{fs gs:FS}
theorem pA(h:DS1 X fl st fs)(O:GoW fs):DW1 X fl l st fs:=PS.imp h λDn σ H h=>by
 refine D3.ex4 h λG ow δ o R Z q=>?_
 obtain⟨n1,n2⟩:=O δ o Z;refine⟨G,ow,δ,o,R,Z,?_⟩
 cases o with
 |nx _=>exact q
 |bk _=>exact q
 |ct _=>exact q
 |rt d=>exact absurd rfl (n1 d)
 |ex c x d=>exact absurd rfl (n2 c x d)
theorem gP(h1:DW1 X fl l st fs)(h2:DWs X fl l sts gs):DWs X fl l (st::sts) (bU fs gs):=PSs.imp (lY h1 h2) λDn σ H h=>by
 refine D3.ex4 h λG ow δ o R V q=>?_
 refine D3.ex1 (bind1 V) λW U Z=>?_
 refine⟨G,ow,δ,W,R,U,?_⟩
 cases W with
 |nx δ'=>exact λY σ' H' R'=>⟨G,Y,δ',o,R',Z,q⟩
 |rt d=>cases Z;exact q
 |bk d=>cases Z;exact q
 |ct d=>cases Z;exact q
 |ex c f v=>cases Z;exact q
def vG(h1:DW1 X fl l st fs):DWs X fl l [st] fs:=PSs.imp (sy h1) λ_ _ _ h=>h
def CJ:DWs X fl l [] fO:=PSs.imp uQ λDn σ H h=>by
 refine D3.ex4 h λG ow δ o R Z q=>?_
 cases Z;exact q ow σ H R
theorem W4(O:DT X fl c ft)(h1:DWs X fl l body fs)(h2:DWs X fl l orelse gs):DW1 X fl l (.If c body orelse pos) (sIf ft fs gs):=PS.imp (Am O h1 h2) λDn σ H h=>by
 refine D3.ex4 h λG ow δ o R Y q=>?_
 refine D3.ex1 (bind1 Y) λt W Z=>?_
 refine⟨G,ow,δ,t,R,W,λH' s=>?_⟩
 cases t with
 |true=>exact v9 ⟨G,ow,δ,o,R.grow s,Z,q⟩
 |false=>exact v8 ⟨G,ow,δ,o,R.grow s,Z,q⟩
def I_(O:∀i∈l,fl[i]? = some .W)(h:DE X fl .P e f):DW1 X fl l (.Return (some e) pos) (xG l f):=PS.imp (rm h) λDn σ H h=>by
 refine D3.ex4 h λG ow δ o R V q=>?_
 refine D3.ex1 (bind1 V) λd T Z=>?_
 split at Z
 case isFalse=>cases Z
 next hd=>
 refine D3.ex1 (bind1 Z) λr U Z=>?_
 cases Z;exact⟨G,ow,δ,d,R,T,λv H' s Y=>zA (R.grow s) O U q hd (RA.flat hd Y)⟩
end
structure PreW(K:PySem.W.Frag)(l:List Nat)(H:Hp)(vs:List V)(ds:List D)(T:Nat->List Addr):Prop where
 tb:Tb H
 ln:vs.length=ds.length
 il:∀i∈l,i<ds.length
 ra:∀i v x,i∉l->vs[i]? = some v->ds[i]? = some x->RA K (λb=>∀j∈l,b∉T j) true H v x
 rt:∀i v x,i∈l->vs[i]? = some v->ds[i]? = some x->RT K H v x (T i)/\(T i).Nodup
 dj:∀i∈l,∀j∈l,∀b,b∈T i->b∈T j->i=j
structure PostW(K:PySem.W.Frag)(l:List Nat)(H:Hp)(T:Nat->List Addr)(vs:List V)(H':Hp)(T':Nat->List Addr)(ps:List D):Prop where
 sm:Same (kY H λb=>∃j∈l,b∈T j) H'
 rt:∀(k i:Nat)(u:V),l[k]? = some i->vs[i]? = some u->∃d',ps[k]? = some d'/\RT K H' u d' (T' i)/\(T' i).Nodup
 fr:∀i∈l,∀b∈T' i,(∃j∈l,b∈T j)\/H b=none
 dj:∀i∈l,∀j∈l,∀b,b∈T' i->b∈T' j->i=j
def spW(K:PySem.W.Frag)(l:List Nat)(F:List D->Option D):Sp:=λvs H Q _=>∃(ds:List D)(T:Nat->List Addr)(d:D),PreW K l H vs ds T/\F ds=some d /\
 ∀r ps v H' (T':Nat->List Addr),d = .tuple (r::ps)->flat r=true->RA K ok0 false H' v r->PostW K l H T vs H' T' ps->Q v H'
def owT(l:List Nat)(T:Nat->List Addr):Ow:=⟨λ_=>none,λi=>if i∈l then T i else []⟩
def uo{l:List Nat}{i:Nat}{b:Addr}:b∈(owT l T).n i<->i∈l/\b∈T i:=by
 show b∈(if i∈l then T i else [])<->_;by_cases c:i∈l
 .rw[if_pos c];exact⟨λh=>⟨c,h⟩,λh=>h.2⟩
 .rw[if_neg c];exact⟨λh=>(by cases h),λh=>absurd h.1 c⟩
def Km{l:List Nat}(r:PreW K l H vs ds T):∀b,(∃j∈l,b∈T j)->Chd (H b):=λb ⟨j,Z,hb⟩=>by
 have h1:=r.il j Z;have h2:=r.ln;exact(r.rt j _ _ Z (aK (by lia)) (aK h1)).1.chd b hb
def gW{l:List Nat}(r:PreW K l H vs ds T):Gh:=⟨kY H λb=>∃j∈l,b∈T j,kY H λb=>∃j∈l,b∈T j,λ_=>none,λ_=>[],Qs (Km r) r.tb,λi=>vs[i]?⟩
def post_of{l:List Nat}{ps:List D}{T':Nat->List Addr}(r:PreW K l H vs ds T)(e:EndP K l (gW r) H' T' ps):PostW K l H T vs H' T' ps:=
 ⟨e.sm,e.rt,λi hi b hb=>by
  have z:kY H (λb=>∃j∈l,b∈T j) b=none:=e.fr i hi b hb;by_cases y:∃j∈l,b∈T j
  .exact .inl y
  .rw[iH y]at z;exact .inr z,e.dj⟩
def uq{l:List Nat}(p:Nat)(O:∀i,i<p->i∉l->fl[i]? = some .A)(hw:∀i∈l,fl[i]? = some .W)(q:ds.length=p)(hN:p<=N.length)
 (r:PreW K l H vs ds T):Rel K fl (gW r) (owT l T) (L2.start N vs) H (ds.map (λd=>some (.d d))++bK (N.length-p) none):=by
 have S:=Km r;obtain⟨tb,R,il,ra,rt,dj⟩:=r;have V:vs.length=p:=by lia
 have get:∀i d,(ds.map (λd=>some (U.d d))++bK (N.length-p) none)[i]? = some (some (.d d))->i<p/\ds[i]? = some d:=λi d h=>by
  by_cases hi:i<p
  .rw[bY (by rw[aG,q];exact hi),aP]at h
   cases e:ds[i]? with
   |none=>rw[e]at h;cases h
   |some z=>rw[e]at h;cases h;exact⟨hi,rfl⟩
  .rw[cA (by rw[aG,q];lia),cX]at h;split at h<;>cases h
 have st:∀i v,vs[i]? = some v->(L2.start N vs)[i]? = some (some v):=λi v e=>by
  have hi:=(bw.mp e).1;unfold L2.start;rw[bY (by rw[aG];exact hi),aP,e];rfl
 refine⟨Same.refl _,IV,?_,λi b h=>(by cases h),λi X b h=>(by cases h),λi h=>rfl,λi d h hn _=>?_,λi d h hn h2 _=>?_,λi b h=>?_,λi X b h h'=>?_,λi X b _ h=>(by cases h),λi h=>?_,λi d hn h=>?_,λi v _ h=>st i v h⟩
 .unfold L2.start;simp only[bB,aG,bL,V,q]
 .obtain⟨hi,e⟩:=get i d h;have nl:i∉l:=λz=>by rw[hw i z]at hn;cases hn
  have Y:vs[i]? = some (vs[i]'(by lia)):=aK (by lia);exact⟨_,st i _ Y,(ra i _ d nl Y e).imp (λb hb=>⟨λm z=>(by cases z),λm z=>hb m (uo.mp z).1 (uo.mp z).2⟩) (λz=>z)⟩
 .obtain⟨hi,e⟩:=get i d h;have nl:i∉l:=λz=>by rw[hw i z]at hn;cases hn
  exact absurd (O i hi nl) h2
 .obtain⟨h1,h2⟩:=uo.mp h;have e:kY H (λb=>∃j∈l,b∈T j) b=none:=vD ⟨i,h1,h2⟩;exact⟨e,S b ⟨i,h1,h2⟩,.inl ⟨.inr (hw i h1),e⟩⟩
 .exact dj i (uo.mp h).1 X (uo.mp h').1 b (uo.mp h).2 (uo.mp h').2
 .show(if i∈l then T i else [])=[];rw[if_neg λz=>by rw[hw i z]at h;cases h]
 .obtain⟨hi,e⟩:=get i d h;have Z:i∈l:=by
   by_cases z:i∈l
   .exact z
   .rw[O i hi z]at hn;cases hn
  have Y:vs[i]? = some (vs[i]'(by lia)):=aK (by lia);obtain⟨r1,r2⟩:=rt i _ d Z Y e;have en:(owT l T).n i=T i:=if_pos Z;rw[en];exact⟨_,st i _ Y,r1,r2⟩
section
variable{k:Nat}{fs:FS}{fl:List Fl}{l:List Nat}
structure FunX(K:PySem.W.Frag)(m x:Str)(st:Stmt)(f:Addr)(fd:d4):Prop where
 ex:∃(oc:Value)(od:Option Addr)(dV kV doc pm:Value)(an:Option Addr)(cdv ct:Value)(osl:Array (Option Value)),
  fd=PySem.W.fnOf m x (kj st) (fu st) (aZ st) dV kV doc pm an cdv ct/\K.lookup f=some ⟨oc,od,.func fd,osl⟩/\PySem.W.codeIn K cdv x=true
def FunX.ok{f:Addr}(F:FunX K m x st f fd)(S:FnScope N ps (aZ st))(len:∀vs H Q E,sp vs H Q E->vs.length=ps.length)
 (O:∀(cdv:Value)(A:dy)(outer:List Env)(s:dk)(H:Hp)(vs:List V)(Q:VK)(E:XK),Room k (A.deeper (envOfC x (aZ st) s.heap.objs.size f cdv))->sp vs H Q E ->
  ∃t,PSs (nq CX0 P w K mg base N x (aZ st) f cdv A outer s H E).nox (fu st) t/\t {nx:=λ_ H'=>Q .non H',rt:=Q} (L2.start N vs) H):FnOk P w K mg base CX0 (k+1) f fd ps sp:=by
 obtain⟨oc,od,dV,kV,doc,pm,an,cdv,ct,osl,rfl,lk,Y⟩:=F.ex;refine NZ lk Y S len λA outer s H vs Q E X Z=>?_
 obtain⟨t,h,q⟩:=O cdv A outer s H vs Q E X Z;exact⟨t,h.nox,q⟩
def Qu{f:Addr}(Fn:FunX K m x st f fd)(S:FnScope N ps (aZ st))(hp:∀i,i<ps.length->i∉l->fl[i]? = some .A)(hw:∀i∈l,fl[i]? = some .W)(hN:ps.length<=N.length)
 (O:∀(f:Addr)(cdv:Value)(A:dy)(outer:List Env)(s:dk)(H:Hp)(E:XK),Room k (A.deeper (envOfC x (aZ st) s.heap.objs.size f cdv))->DWs (cx P w K mg base N x st f cdv A outer s H E) fl l (fu st) fs) :
 FnOk P w K mg base CX0 (k+1) f fd ps (spW K l (fnW ps.length (N.length-ps.length) l fs)):=by
 refine Fn.ok S (λvs H Q E h=>?_) (λcdv A outer s H vs Q E J h=>?_)
 .obtain⟨ds,T,d,r,Z,_⟩:=h;unfold fnW at Z;by_cases z:ds.length=ps.length
  .rw[r.ln];exact z
  .rw[if_neg z]at Z;cases Z
 .obtain⟨ds,T,d,r,Z,q⟩:=h;refine⟨_,O f cdv A outer s H E J,?_⟩;unfold fnW at Z;by_cases z:ds.length=ps.length
  .rw[if_pos z]at Z;have R:=uq (K:=K) (N:=N) ps.length hp hw z hN r;have U:YM K l (gW r) d Q:=λM Y v H' T' V X G I=>q M Y v H' T' V X G (post_of r I)
   unfold Qt at Z;split at Z
   .next c' F D e=>
    cases Z;exact⟨_,_,_,_,R,e,U⟩
   .next δ' e=>
    refine D3.ex1 (bind1 Z) λM V X=>?_
    cases X;exact⟨_,_,_,_,R,e,λL σ' H' R'=>zA R' hw V U rfl .non⟩
   .cases Z
  .rw[if_neg z]at Z;cases Z
def YQ(Y:Dg K mg x st ps)(S:FnScope N ps (aZ st))(O:∀i,i<ps.length->i∉l->fl[i]? = some .A)(hw:∀i∈l,fl[i]? = some .W)(U:ps.length<=N.length)
 (q:∀(f:Addr)(cdv:Value)(A:dy)(outer:List Env)(s:dk)(H:Hp)(E:XK),Room k (A.deeper (envOfC x (aZ st) s.heap.objs.size f cdv))->DWs (cx P w K mg base N x st f cdv A outer s H E) fl l (fu st) fs) :
 Has P w K mg base (k+1) x ps (spW K l (fnW ps.length (N.length-ps.length) l fs)):=by
 obtain⟨f,fd,Z,b,m⟩:=Y.ex;exact⟨f,fd,Qu ⟨Z.ex⟩ S O hw U q,b,Z.kp,m⟩
end
end XI
namespace XI
open L2 My D3
inductive AOk(K:PySem.W.Frag)(ow:Ow)(σ:D3.St)(δ:DS)(H:Hp):List (Option Nat)->List V->List D->Prop
 |nil:AOk K ow σ δ H [] [] []
 |nm {i:Nat} {v:V} {d:D} {sl:List (Option Nat)} {vs:List V} {ds:List D}:σ[i]? = some (some v)->δ[i]? = some (some (.d d))->AOk K ow σ δ H sl vs ds->AOk K ow σ δ H (some i::sl) (v::vs) (d::ds)
 |ex {v:V} {d:D} {sl:List (Option Nat)} {vs:List V} {ds:List D}:RA K (okA ow) true H v d->AOk K ow σ δ H sl vs ds->AOk K ow σ δ H (none::sl) (v::vs) (d::ds)
section
variable{ow:Ow}{σ:D3.St}{δ:DS}{H:Hp}
theorem AOk.len:∀{sl:List (Option Nat)}{vs:List V}{ds:List D},AOk K ow σ δ H sl vs ds->vs.length=ds.length/\sl.length=ds.length
 |_,_,_,.nil=>⟨rfl,rfl⟩
 |_,_,_,.nm _ _ q=>by simp[q.len.1,q.len.2]
 |_,_,_,.ex _ q=>by simp[q.len.1,q.len.2]
theorem AOk.name:∀{sl:List (Option Nat)}{vs:List V}{ds:List D}{i s:Nat},AOk K ow σ δ H sl vs ds->sl[i]? = some (some s)->∃v d,vs[i]? = some v/\ds[i]? = some d/\σ[s]? = some (some v)/\δ[s]? = some (some (.d d))
 |_,_,_,_,_,.nil,h=>by simp at h
 |_,_,_,0,_,.nm a b _,h=>by cases h;exact⟨_,_,rfl,rfl,a,b⟩
 |_,_,_,0,_,.ex _ _,h=>by cases h
 |_,_,_,i+1,_,.nm _ _ q,h=>by
  obtain⟨v,d,h1,h2,h3⟩:=q.name (i:=i) (by simpa using h);exact⟨v,d,by simpa using h1,by simpa using h2,h3⟩
 |_,_,_,i+1,_,.ex _ q,h=>by
  obtain⟨v,d,h1,h2,h3⟩:=q.name (i:=i) (by simpa using h);exact⟨v,d,by simpa using h1,by simpa using h2,h3⟩
theorem AOk.dat:∀{sl:List (Option Nat)}{vs:List V}{ds:List D}{i:Nat}{v:V}{d:D},AOk K ow σ δ H sl vs ds->(∀s,sl[i]? ≠ some (some s))->vs[i]? = some v->ds[i]? = some d->RA K (okA ow) true H v d
 |_,_,_,_,_,_,.nil,_,h,_=>by simp at h
 |_,_,_,0,_,_,.nm _ _ _,n,_,_=>absurd rfl (n _)
 |_,_,_,0,_,_,.ex r _,_,h1,h2=>by cases h1;cases h2;exact r
 |_,_,_,i+1,_,_,.nm _ _ q,n,h1,h2=>q.dat (i:=i) (λs z=>n s (by simpa using z)) (by simpa using h1) (by simpa using h2)
 |_,_,_,i+1,_,_,.ex _ q,n,h1,h2=>q.dat (i:=i) (λs z=>n s (by simpa using z)) (by simpa using h1) (by simpa using h2)
end
noncomputable def tWA(K:PySem.W.Frag)(fl:List Fl)(sl:List (Option Nat))(f:FA):TA:=λσ H Q=>∃G ow δ ds,Rel K fl G ow σ H δ/\f δ=some ds/\∀vs H',Same H H'->AOk K ow σ δ H' sl vs ds->Q vs H'
abbrev DWA(X:Cx)(fl:List Fl)(sl:List (Option Nat))(es:List Expr)(f:FA):Prop:=PA X es (tWA X.K fl sl f)
noncomputable def wH:List Nat->List D->DS->DS
 |s::l,d::r,δ=>wH l r (δ.set s (some (.d d)))
 |_,_,δ=>δ
theorem Gd:∀(l:List Nat)(r:List D)(δ:DS),(wH l r δ).length=δ.length
 |[],_,_=>rfl
 |_::_,[],_=>rfl
 |s::l,d::r,δ=>by rw[wH,Gd l r,cg]
theorem CK:∀{l:List Nat}{r:List D}{δ:DS}{j:Nat},j∉l->(wH l r δ)[j]? = δ[j]?
 |[],_,_,_,_=>rfl
 |_::_,[],_,_,_=>rfl
 |s::l,d::r,δ,j,h=>by
  rw[wH,CK λz=>h (aH _ z),aM λz=>h (by rw[z];exact aJ)]
theorem Ko:∀{l:List Nat}{r:List D}{δ:DS}{k s:Nat}{d:D},l.Nodup->(∀i∈l,i<δ.length)->l[k]? = some s->r[k]? = some d->(wH l r δ)[s]? = some (some (.d d))
 |[],_,_,_,_,_,_,_,h,_=>by simp at h
 |_::_,[],_,_,_,_,_,_,_,h=>by simp at h
 |t::l,e::r,δ,0,s,d,nd,lt,h1,h2=>by
  cases h1
  cases h2;rw[wH,CK (cF.mp nd).1,bI (lt _ aJ)]
 |t::l,e::r,δ,k+1,s,d,nd,lt,h1,h2=>by
  rw[wH];exact Ko (cF.mp nd).2 (λi hi=>by rw[cg];exact lt i (aH _ hi)) (by simpa using h1) (by simpa using h2)
def tEW(K:PySem.W.Frag)(fl:List Fl)(f:DS->Option (D×DS)):TE:=λσ H Q=>∃G ow δ d δ',Rel K fl G ow σ H δ/\f δ=some (d,δ')/\∀v H' Z,Rel K fl G Z σ H' δ'->flat d=true->RA K ok0 false H' v d->Q v H'
abbrev DEW(X:Cx)(fl:List Fl)(e:Expr)(f:DS->Option (D×DS)):Prop:=PE X e (tEW X.K fl f)
section
variable{X:Cx}{fl:List Fl}{es:List Expr}{fr:FA}{sl:List (Option Nat)}{i:Nat}
def jT:DWA X fl [] [] aW:=PA.imp iU λσ H Q h=>by
 refine D3.ex4 h λG ow δ ds R Z q=>?_
 cases Z;exact q [] H (Same.refl H) .nil
def fB(h:DE X fl .A e f)(U:DWA X fl sl es fr)(O:starEach (e::es) X.env=(false,eval e X.env)::starEach es X.env:=by exact dY rfl):DWA X fl (none::sl) (e::es) (aj f fr):=PA.imp (d8 h U O) λσ H Q h=>by
 refine D3.ex4 h λG ow δ ds R Z q=>?_
 refine D3.ex1 (bind1 Z) λd W Z=>?_
 refine D3.ex1 (bind1 Z) λr Y Z=>?_
 cases Z;exact⟨G,ow,δ,d,R,W,λv H1 s1 r1=>⟨G,ow,δ,r,R.grow s1,Y,λvs H2 s2 r2=>q _ H2 (s1.trans s2) (.ex (RA.same s2 r1) r2)⟩⟩
def vH(hn:isN fl[i]? = true)(hN:X.N[i]? = some x)(hr:DWA X fl sl es fr)(U:Vis X.env.scope x:=by first|exact Or.inl rfl|exact Or.inr (Or.inl rfl)|exact Or.inr (Or.inr rfl))(hd:(x==("__debug__":Str))=false:=by decide)(O:(x==("__classdict__":Str))=false:=by decide)
 (hs:starEach (.Name x p::es) X.env=(false,eval (.Name x p) X.env)::starEach es X.env:=by exact dY rfl):DWA X fl (some i::sl) (.Name x p::es) (aj (aA i) fr):=PA.imp (d8 (iT hN U hd O) hr hs) λσ H Q h=>by
 refine D3.ex4 h λG ow δ ds R Z q=>?_
 refine D3.ex1 (bind1 Z) λd V Z=>?_
 refine D3.ex1 (bind1 Z) λr W Z=>?_
 cases Z;have Y:=jk V;obtain⟨v,h1,_,_⟩:=R.nr i d hn Y;exact⟨v,h1,G,ow,δ,r,R,W,λvs H2 s2 r2=>q _ H2 s2 (.nm h1 Y r2)⟩
end
def MF(d:D)(sw:List Nat)(δ:DS):Option (D×DS):=match d with
 | .tuple (r::ps)=>if flat r=true/\ps.length=sw.length then some (r,wH sw ps δ)else none
 |_=>none
structure SlW(fl:List Fl)(sl:List (Option Nat))(l sw:List Nat):Prop where
 h1:∀(i s:Nat),sl[i]? = some (some s)->i∈l
 h2:∀(i j s:Nat),sl[i]? = some (some s)->sl[j]? = some (some s)->i=j
 h3:sw.length=l.length
 h4:∀(k i s:Nat),l[k]? = some i->sw[k]? = some s->sl[i]? = some (some s)
 h5:sw.Nodup
 h6:∀s∈sw,fl[s]? = some .N\/fl[s]? = some .W
open Classical in
def sX{σ:D3.St}{sl:List (Option Nat)}{l:List Nat}(W:SlW fl sl l sw)(R:Rel K fl G ow σ H δ)(s:Same H H1)(a:AOk K ow σ δ H1 sl vs ds):
 ∃T:Nat->List Addr,PreW K l H1 vs ds T/\∀H' T' qs,PostW K l H1 T vs H' T' qs->qs.length=sw.length->∃q,Rel K fl G q σ H' (wH sw qs δ):=by
 obtain⟨h1,h2,h3,h4,h5,h6⟩:=W;have E:=R.grow s;have Q:∀i∈l,∃s,sl[i]? = some (some s)/\s∈sw:=λi hi=>by
  obtain⟨k,V⟩:=qJ.mp hi;have O:k<sw.length:=by rw[h3];exact(bw.mp V).1
  exact⟨_,h4 k i _ V (aK O),iG O⟩
 have S:∀s∈sw,∃k i,sw[k]? = some s/\l[k]? = some i/\sl[i]? = some (some s):=λs Z=>by
  obtain⟨k,V⟩:=qJ.mp Z;have O:k<l.length:=by rw[<-h3];exact(bw.mp V).1
  exact⟨k,_,V,aK O,h4 k _ s (aK O) V⟩
 have isT:∀s∈sw,isN fl[s]? = true:=λs Z=>by rcases h6 s Z with y|y<;>(rw[y];rfl)
 obtain⟨T,P⟩:∃T:Nat->List Addr,∀(i s:Nat),sl[i]? = some (some s)->T i=ow.n s:=⟨λi=>match sl[i]? with|some (some s)=>ow.n s|_=>[],λi s e=>by dsimp only;rw[e]⟩;have x:(λb=>∃j∈l,b∈T j)=ofJ (λs=>decide (s∈sw)) ow.n:=funext λb=>propext ⟨λ⟨j,N,hb⟩=>by
  obtain⟨s,Z,hw⟩:=Q j N;exact⟨s,dTr hw,by rw[<-P j s Z];exact hb⟩,λ⟨s,Z,hb⟩=>by
  obtain⟨k,i,_,U,hi⟩:=S s (of_decide_eq_true Z);exact⟨i,cY U,by rw[P i s hi];exact hb⟩⟩
 refine⟨T,⟨E.tb,a.len.1,λi hi=>?_,λi v y u B hd=>?_,λi v y hi B hd=>?_,λi hi j N b hb X=>?_⟩,λH' T' qs ⟨g3,o,p,r⟩ h=>?_⟩
 .obtain⟨s,Z,_⟩:=Q i hi;rw[<-a.len.2];exact(bw.mp Z).1
 .refine(a.dat (λs z=>u (h1 i s z)) B hd).imp (λb hb j N z=>?_) (λz=>z);obtain⟨s,Z,_⟩:=Q j N;rw[P j s Z]at z;exact hb.2 s z
 .obtain⟨s,Z,hw⟩:=Q i hi;obtain⟨L,m,k1,k2,k3,I⟩:=a.name Z;rw[B]at k1;rw[hd]at k2
  cases k1
  cases k2;obtain⟨L,J,C,D⟩:=E.nr s y (isT s hw) I;rw[k3]at J
  cases J;rw[P i s Z];exact⟨C,D⟩
 .obtain⟨s,Z,_⟩:=Q i hi;obtain⟨s',Y,_⟩:=Q j N;rw[P i s Z]at hb;rw[P j s' Y]at X;have:=E.nd s s' b hb X;rw[<-this]at Y;exact h2 i j s Z Y
 .obtain⟨as,F⟩:∃as:Nat->List Addr,∀(i s:Nat),sl[i]? = some (some s)->as s=T' i:=⟨λs=>if z:∃i,sl[i]? = some (some s)then T' (Classical.choose z)else [],λi s e=>by
   have z:∃i,sl[i]? = some (some s):=⟨i,e⟩;dsimp only;rw[dif_pos z,h2 _ i s (eV z) e]⟩
  have lt:∀s∈sw,s<δ.length:=λs Z=>by
   obtain⟨k,i,_,_,hi⟩:=S s Z;obtain⟨_,_,_,_,_,I⟩:=a.name hi;exact(bw.mp I).1
  refine⟨IW ow (λs=>decide (s∈sw)) as,af3 E (λs Z=>h6 s (of_decide_eq_true Z)) (Gd _ _ _) (λs Z=>CK (of_decide_eq_false Z)) (by rw[<-x];exact g3) (λs Z=>?_) (λs Z b hb=>?_) λs s' Z Y b hb X=>?_⟩
  .obtain⟨k,i,V,U,hi⟩:=S s (of_decide_eq_true Z);obtain⟨L,m,k1,k2,k3,I⟩:=a.name hi;obtain⟨y,J,C,D⟩:=o k i L U k1;rw[F i s hi];exact⟨L,y,k3,Ko h5 lt V J,C,D⟩
  .obtain⟨k,i,V,U,hi⟩:=S s (of_decide_eq_true Z);rw[F i s hi]at hb;have:=p i (cY U) b hb;have e:(∃j∈l,b∈T j)=ofJ (λs=>decide (s∈sw)) ow.n b:=congrFun x b;rw[e]at this;exact this
  .obtain⟨k,i,V,U,hi⟩:=S s (of_decide_eq_true Z);obtain⟨g,w,t,A,M⟩:=S s' (of_decide_eq_true Y);rw[F i s hi]at hb;rw[F w s' M]at X;have:=r i (cY U) w (cY A) b hb X;rw[this,M]at hi
   cases hi;rfl
def zB{σ:D3.St}{sl:List (Option Nat)}{l:List Nat}{d0:D}{F:List D->Option D}{Q:V->Hp->Prop}{E:XK}(W:SlW fl sl l sw)(R:Rel K fl G ow σ H δ)(s:Same H H1)(a:AOk K ow σ δ H1 sl vs ds)(e2:F ds=some d)(U:MF d sw δ=some (d0,δ'))
 (q:∀v H' O,Rel K fl G O σ H' δ'->flat d0=true->RA K ok0 false H' v d0->Q v H'):spW K l F vs H1 Q E:=by
 obtain⟨T,p,g⟩:=sX W R s a;refine⟨ds,T,d,p,e2,λr qs v H' T' g1 g2 Y Z=>?_⟩;subst g1;unfold MF at U;dsimp only at U;by_cases c:flat r=true/\qs.length=sw.length
 case neg=>rw[if_neg c]at U;cases U
 rw[if_pos c]at U
 cases U;obtain⟨O,R'⟩:=g H' T' qs Z c.2;exact q v H' O R' c.1 Y
def CN(F:List D->Option D)(fa:FA)(sw:List Nat):DS->Option (D×DS):=λδ=>(fa δ).bind λds=>(F ds).bind λd=>MF d sw δ
def Qw{es:List Expr}{F:List D->Option D}{sl:List (Option Nat)}{l:List Nat}(h:Has X.prog X.w X.K X.mg X.base n x ps (spW X.K l F))(Y:Room n X.A)(ha:DWA X fl sl (e::es) fa)(W:SlW fl sl l sw)
 (hg:Gl X x:=by rfl) (U:(x==("__debug__":Str))=false:=by decide)
 (he:starEach (e::es) X.env=(false,eval e X.env)::starEach es X.env:=by exact dY rfl) (O:(backTo pos (starEach es X.env)).any (·.1)=false:=by exact qH rfl) :
 DEW X fl (.Call (.Name x p) (e::es) [] pos) (CN F fa sw):=PE.imp (yI h Y ha hg U he O) λσ H Q V=>by
 obtain⟨G,ow,δ,P,δ',R,Z,q⟩:=V;refine D3.ex1 (bind1 Z) λds S Z=>?_
 refine D3.ex1 (bind1 Z) λd T Z=>?_
 refine⟨G,ow,δ,ds,R,S,λvs H1 s a=>?_⟩;show spW X.K l F (vs++[]) H1 Q E0;rw[cZ];exact zB W R s a T Z q
end XI
namespace XI
open L2 My D3
noncomputable def nmS:List (D×D)->Option (List Str)
 |[]=>some []
 | (.str x,_)::r=>(nmS r).map (x :: ·)
 |_=>none
def isC(C:Addr)(ns:List Str):D->Option (List D)
 | .dict ((.none,.tuple [.int i])::r)=>if i=(C:Int)/\nmS r=some ns then some (r.map (·.2))else none
 |_=>none
theorem Ge:∀{ns:List Str}{ds:List D},ns.length=ds.length->nmS (BP ns ds)=some ns/\(BP ns ds).map (·.2)=ds
 |[],[],_=>⟨rfl,rfl⟩
 |n::ns,d::ds,h=>by
  obtain⟨h1,h2⟩:=Ge (Nat.succ.inj h);exact⟨by rw[BP,nmS,h1];rfl,by rw[BP,aN,h2]⟩
def Qx{O:Addr}{ns q:List Str}{xs:List D}(U:q.length=ds.length)(h:isC C ns (.dict (uc O q ds))=some xs):O=C/\q=ns/\xs=ds:=by
 obtain⟨h1,h2⟩:=Ge U;unfold isC uc at h;dsimp only at h;split at h
 .next c=>
  cases h;rw[h1]at c;exact⟨Int.ofNat.inj c.1,cU.inj c.2,h2⟩
 .cases h
section
variable{H:Hp}{v:V}{d:D}{ns:List Str}{ds:List D}{ok:Ok}{pl:Bool}
theorem wI(r:RT K H v d as)(h:isC C ns d=some ds):∃a dx fs,v = .ref a/\H a=some (.ins C dx fs)/\H dx=some (.own a)/\fs.map (·.1)=ns/\RTs K H (fs.map (·.2)) ds as:=by
 cases r with
 |ins e g q z=>
  subst z;have Z:=q.len;obtain⟨rfl,h2,rfl⟩:=Qx (by rw[<-Z,aG,aG]) h;exact⟨_,_,_,rfl,e,g,h2,q⟩
 |dic e g=>
  have:=g.isI;unfold isC at h;split at h
  .next z=>cases z;cases this
  .cases h
 |_=>cases h
theorem Ja(r:RA K ok pl H v d)(h:isC C ns d=some ds):∃a dx fs,v = .ref a/\H a=some (.ins C dx fs)/\H dx=some (.own a)/\fs.map (·.1)=ns/\RAs K ok pl H (fs.map (·.2)) ds:=by
 cases r with
 |ins e g q z=>
  subst z;have Z:=q.length;obtain⟨rfl,h2,rfl⟩:=Qx (by rw[<-Z,aG,aG]) h;exact⟨_,_,_,rfl,e,g,h2,q⟩
 |dic e g=>
  have:=g.isI;unfold isC at h;split at h
  .next z=>cases z;cases this
  .cases h
 |dik e g=>
  have:=g.isI;unfold isC at h;split at h
  .next z=>cases z;cases this
  .cases h
 |_=>cases h
end
theorem mY:∀{fs:List (Str×V)}{m:Str},m∉fs.map (·.1)->fs.lookup m=none
 |[],_,_=>rfl
 | (x,v)::fs,m,h=>by
  have h1:m≠x:=λz=>h (by rw[z];exact aJ)
  rw[cL,show(m==x)=false from by simpa using h1];exact mY λz=>h (aH _ z)
theorem pB:∀{fs:List (Str×V)}{m:Str}{k:Nat},(fs.map (·.1))[k]? = some m->(∀j,j<k->(fs.map (·.1))[j]? ≠ some m)->∃v,fs.lookup m=some v/\(fs.map (·.2))[k]? = some v
 |[],_,_,h,_=>by simp at h
 | (x,v)::fs,m,0,h,_=>by
  have:x=m:=by simpa using h
  subst this;exact⟨v,by rw[cL];simp,rfl⟩
 | (x,v)::fs,m,k+1,h,n=>by
  have h1:m≠x:=λz=>n 0 (Nat.succ_pos _) (by rw[z];rfl)
  obtain⟨w,Y,Z⟩:=pB (fs:=fs) (m:=m) (k:=k) (by simpa using h) λj X z=>n (j+1) (by lia) (by simpa using z)
  exact⟨w,by rw[cL,show(m==x)=false from by simpa using h1];exact Y,by simpa using Z⟩
structure HasM(P:dt)(w:dE)(K:PySem.W.Frag)(mg:Str->Option Value)(base:ec)(n:Nat)(C:Addr)(m:Str)(ps:List Str)(sp:Sp):Prop where
 ex:∃(f:Addr)(fd:d4),FnOk P w K mg base CX0 n f fd ps sp/\Binds K fd ps []/\Meth K C m f
 cl:Cls K C
section
variable{X:Cx}{fl:List Fl}{es:List Expr}{i:Nat}{F:List D->Option D}{fa:FA}{ns:List Str}
def nH(F:List D->Option D)(C:Addr)(ns:List Str)(f:FE)(fa:FA):FE:=λδ=>(f δ).bind λd=>(isC C ns d).bind λ_=>(fa δ).bind λds=>F (d::ds)
def CP(F:List D->Option D)(C:Addr)(ns:List Str)(i:Nat)(fa:FA)(sw:List Nat):DS->Option (D×DS):=λδ=>(aA i δ).bind λd=>(isC C ns d).bind λ_=>(fa δ).bind λds=>(F (d::ds)).bind λr=>MF r sw δ
def Kp{o:Expr}(h:HasM X.prog X.w X.K X.mg X.base n C m ps (spD X.K F))(hr:Room n X.A)(hm:m∉ns)(ho:DE X fl .P o f)(ha:DB X fl .P (e::es) fa)
 (he:starEach (e::es) X.env=(false,eval e X.env)::starEach es X.env:=by exact dY rfl) (O:(backTo pos (starEach es X.env)).any (·.1)=false:=by exact qH rfl)
 (ht:eval (.Call (.Attribute o m apos) (e::es) [] pos) X.env=(do
  let U <-eval o X.env
  standAt apos.atName
  let(f,fi) <-holding [U] (getMethod U m pl)
  callWith pos f fi (backTo pos (starEach (e::es) X.env)) (backToKw pos (keywordEach [] X.env))):=by rfl) :
 DE X fl .C (.Call (.Attribute o m apos) (e::es) [] pos) (nH F C ns f fa):=by
 obtain⟨g,fd,J,b,M⟩:=h.ex;refine PE.imp (JG (E:=E0) ho h.cl M J hr b .nil Er ha he O ht) λσ H Q T=>?_
 refine D3.ex4 T λG ow δ r R Z q=>?_
 refine D3.ex1 (bind1 Z) λd L Z=>?_
 refine D3.ex1 (bind1 Z) λxs N Z=>?_
 refine D3.ex1 (bind1 Z) λds S Z=>?_
 refine⟨G,ow,δ,d,R,L,λv H0 s0 k2=>?_⟩;have k2:RA X.K ok1 true H0 v d:=k2;obtain⟨a,dx,fs,rfl,V,I,W,_⟩:=Ja k2 N;refine⟨a,dx,fs,rfl,V,mY (by rw[W];exact hm),G,ow,δ,ds,R.grow s0,S,λvs H' s Y=>?_⟩;show spD X.K F (.ref a::(vs++[])) H' Q E0;rw[cZ];exact⟨d::ds,r,⟨(R.grow s0).tb.same s,.cons (k2.same s) Y⟩,Z,λv H2 s2 r2=>q v H2 ((s0.trans s).trans s2) (RA.imp (λa z=>(s0.trans s).free z) (λz=>z) r2)⟩
def Qy{sl:List (Option Nat)}{l:List Nat}(h:HasM X.prog X.w X.K X.mg X.base n C m ps (spW X.K l F))(hr:Room n X.A)(hi:isN fl[i]? = true)(hN:X.N[i]? = some x)(hm:m∉ns)(ha:DWA X fl sl (e::es) fa)(W:SlW fl (some i::sl) l sw)(hv:Vis X.env.scope x:=by first|exact Or.inl rfl|exact Or.inr (Or.inl rfl)|exact Or.inr (Or.inr rfl))(hd:(x==("__debug__":Str))=false:=by decide)(U:(x==("__classdict__":Str))=false:=by decide)
 (he:starEach (e::es) X.env=(false,eval e X.env)::starEach es X.env:=by exact dY rfl) (O:(backTo pos (starEach es X.env)).any (·.1)=false:=by exact qH rfl)
 (ht:eval (.Call (.Attribute (.Name x p) m apos) (e::es) [] pos) X.env=(do
  let Y <-eval (.Name x p) X.env
  standAt apos.atName
  let(f,fi) <-holding [Y] (getMethod Y m pl)
  callWith pos f fi (backTo pos (starEach (e::es) X.env)) (backToKw pos (keywordEach [] X.env))):=by rfl) :
 DEW X fl (.Call (.Attribute (.Name x p) m apos) (e::es) [] pos) (CP F C ns i fa sw):=by
 obtain⟨g,fd,z,b,M⟩:=h.ex;refine PE.imp (JG (E:=E0) (iT hN hv hd U) h.cl M z hr b .nil Er ha he O ht) λσ H Q L=>?_
 obtain⟨G,ow,δ,u,δ',R,Z,q⟩:=L;refine D3.ex1 (bind1 Z) λd B Z=>?_
 refine D3.ex1 (bind1 Z) λxs D Z=>?_
 refine D3.ex1 (bind1 Z) λds I Z=>?_
 refine D3.ex1 (bind1 Z) λr J Z=>?_
 have V:=jk B;obtain⟨v,k1,k2,k3⟩:=R.nr i d hi V;obtain⟨a,dx,fs,rfl,P,y,S,_⟩:=wI k2 D;refine⟨_,k1,a,dx,fs,rfl,P,mY (by rw[S];exact hm),G,ow,δ,ds,R,I,λvs H' s T=>?_⟩;show spW X.K l F (.ref a::(vs++[])) H' Q E0;rw[cZ];exact zB W R s (.nm k1 V T) J Z q
def rO(C:Addr)(ns:List Str)(k:Nat)(f:FE):FE:=λδ=>(f δ).bind λd=>(isC C ns d).bind λds=>ds[k]?
def kZ{k:Nat}(he:DE X fl .P e f)(c:Cls X.K C)(O:jK X.K C m)(hk:ns[k]? = some m)(hn:∀j,j<k->ns[j]? ≠ some m)(hb:attributeBase e m X.env (eval e X.env)=eval e X.env):DE X fl .P (.Attribute e m pos) (rO C ns k f):=PE.imp (Bu he hb) λσ H Q U=>by
 refine D3.ex4 U λG ow δ r R Z q=>?_
 refine D3.ex1 (bind1 Z) λd M Z=>?_
 refine D3.ex1 (bind1 Z) λds N Z=>?_
 refine⟨G,ow,δ,d,R,M,λv H' s r1=>?_⟩;have r1:RA X.K ok1 true H' v d:=r1;obtain⟨a,dx,fs,rfl,V,L,Y,W⟩:=Ja r1 N;obtain⟨w,g1,g2⟩:=pB (fs:=fs) (m:=m) (k:=k) (by rw[Y];exact hk) λj T=>by rw[Y];exact hn j T
 obtain⟨y,g3,S⟩:=W.get Z;rw[g2]at g3
 cases g3;exact⟨a,C,dx,fs,w,rfl,V,c,O,g1,q w H' s S⟩
end
end XI
namespace XI
open L2 My D3
abbrev FW:=DS->Option (D×DS)
abbrev FTW:=DS->Option (Bool×DS)
def qj(f:FW):FS:=λδ=>(f δ).bind λp=>some (.nx p.2)
def Qz(f:FT):FTW:=λδ=>(f δ).map λb=>(b,δ)
def ur(f:FW):FTW:=λδ=>(f δ).bind λp=>match p.1 with
 | .bool b=>some (b,p.2)
 |_=>none
def Gf(f:FTW):FTW:=λδ=>(f δ).map λp=>(!p.1,p.2)
def Vb(f g:FTW):FTW:=λδ=>(f δ).bind λp=>if p.1=true then some (true,p.2)else g p.2
def Jb(f:FTW)(a b:FS):FS:=λδ=>(f δ).bind λp=>if p.1=true then a p.2 else b p.2
noncomputable def tTW(K:PySem.W.Frag)(fl:List Fl)(f:FTW):TT:=λσ H Q=>∃G ow δ b δ',Rel K fl G ow σ H δ/\f δ=some (b,δ')/\∀H' Z,Rel K fl G Z σ H' δ'->Q b H'
abbrev DTW(X:Cx)(fl:List Fl)(e:Expr)(f:FTW):Prop:=PT X e (tTW X.K fl f)
abbrev DWW(X:Cx)(fl:List Fl)(e:Expr)(f:FTW):Prop:=PW X e (tTW X.K fl f)
section
variable{X:Cx}{fl:List Fl}{a b c:Expr}{i:Nat}{f:FW}{fw gw:FTW}{fs gs:FS}{l:List Nat}
def Gg(h:DEW X fl e f)(O:swapsWith e none pos.line X.env=pure false:=by rfl):DS1 X fl (.Expr e pos) (qj f):=PS.imp (uR h O) λDn σ H h=>by
 refine D3.ex4 h λG ow δ o R Y q=>?_
 obtain⟨⟨d,δ'⟩,V,W⟩:=bind1 Y
 cases W;exact⟨G,ow,δ,d,δ',R,V,λv H' Z R' _ _=>q Z σ H' R'⟩
theorem tw_of(h:DT X fl e ft):DTW X fl e (Qz ft):=PT.imp h λσ H Q h=>by
 obtain⟨G,ow,δ,b,δ',R,Z,q⟩:=h;unfold Qz at Z
 cases Y:ft δ with
 |none=>rw[Y]at Z;cases Z
 |some t=>
  rw[Y]at Z
  cases Z;exact⟨G,ow,δ,_,R,Y,λH' s=>q H' ow (R.grow s)⟩
def tw_val(h:DEW X fl e f)(O:∀whole,isTrue e X.env whole=(do let v <-whole;standAt e.pos;holding [v] (truthy v)):=by intro _;rfl):DTW X fl e (ur f):=PT.imp (Hl h O) λσ H Q h=>by
 obtain⟨G,ow,δ,b,δ',R,V,q⟩:=h;obtain⟨⟨d,W⟩,U,Z⟩:=bind1 V;dsimp only at Z;split at Z
 .next k=>
  cases Z;exact⟨G,ow,δ,_,_,R,U,λv H' Y R' hd r=>⟨_,RA.blE r,q H' Y R'⟩⟩
 .cases Z
theorem tw_not(h:DTW X fl a fw):DTW X fl (.UnaryOp .Not a pos) (Gf fw):=PT.imp (Hr h) λσ H Q h=>by
 obtain⟨G,ow,δ,b,δ',R,Z,q⟩:=h;unfold Gf at Z
 cases W:fw δ with
 |none=>rw[W]at Z;cases Z
 |some t=>
  rw[W]at Z
  cases Z;exact⟨G,ow,δ,t.1,t.2,R,W,λH' Y R'=>q H' Y R'⟩
def tw_w(h:DWW X fl a fw):DTW X fl a fw:=PW.pt h
theorem YS(O:DTW X fl c fw)(h1:DSs X fl body fs)(h2:DSs X fl orelse gs):DS1 X fl (.If c body orelse pos) (Jb fw fs gs):=PS.imp (Am O h1 h2) λDn σ H h=>by
 refine D3.ex4 h λG ow δ o R W q=>?_
 obtain⟨⟨t,δ'⟩,V,Y⟩:=bind1 W;refine⟨G,ow,δ,t,δ',R,V,λH' Z R'=>?_⟩
 cases t with
 |true=>exact v9 ⟨G,Z,δ',o,R',Y,q⟩
 |false=>exact v8 ⟨G,Z,δ',o,R',Y,q⟩
end
end XI
variable{fpos:Pos}
namespace XI
open L2 My D3
def Kq(C:Addr)(ns:List Str)(k i:Nat)(f:FE):FS:=λδ=>(aA i δ).bind λy=>(isC C ns y).bind λds=>(f δ).bind λd=>match ds[k]? with
 |some (.list m)=>if flat d=true/\m.length<1000000 then some (.nx (δ.set i (some (.d (.dict (uc C ns (ds.set k (.list (m++[d])))))))))else none
 |_=>none
def zE(h:a∈as):Same (less H as) (L2.upd H a u):=λb o e=>by
 by_cases z:b∈as
 .rw[Va z]at e;cases e
 .rw[nG z]at e;rw[bA λy=>z (by rw[y];exact h)];exact e
section
variable{X:Cx}{fl:List Fl}{i k:Nat}{ns:List Str}
def Vc(hfl:fl[i]? = some .N\/fl[i]? = some .W)(h:DE X fl .P e f)(hN:X.N[i]? = some x)(c:Cls X.K C)(na:jK X.K C m)(hk:ns[k]? = some m)(hn:∀j,j<k->ns[j]? ≠ some m)
 (hv:Vis X.env.scope x:=by first|exact Or.inl rfl|exact Or.inr (Or.inl rfl)|exact Or.inr (Or.inr rfl)) (hd:(x==("__debug__":Str))=false:=by decide) (hcd:(x==("__classdict__":Str))=false:=by decide)
 (hb:attributeBase (.Name x vpos) m X.env (eval (.Name x vpos) X.env)=eval (.Name x vpos) X.env:=by rfl)
 (hs:swapsWith (.Call (.Attribute (.Attribute (.Name x vpos) m fpos) "append" apos) [e] [] cpos) none pos.line X.env=pure false:=by rfl)
 (Y:attributeBase (.Attribute (.Name x vpos) m fpos) "append" X.env (eval (.Attribute (.Name x vpos) m fpos) X.env)=eval (.Attribute (.Name x vpos) m fpos) X.env:=by rfl)
 (hfew:((backTo cpos (starEach [e] X.env)).all (λx=>!x.1)&&(backToKw cpos (keywordEach [] X.env)).all (λx=>x.1.isSome)
  && decide (([e]:List Expr).length+([]:List eI).length+(if([]:List eI).isEmpty then 0 else 1)<30))=true:=by rfl)
 (U:(apos.endLine==cpos.line)=true:=by rfl) (hst:starEach [e] X.env=(false,eval e X.env)::starEach [] X.env:=by rfl) (O:(backTo cpos (starEach [] X.env)).any (·.1)=false:=by rfl) :
 DS1 X fl (.Expr (.Call (.Attribute (.Attribute (.Name x vpos) m fpos) "append" apos) [e] [] cpos) pos) (Kq C ns k i f):=
 PS.imp (uR (JH PySem.F.plainAttrs_list PySem.F.slot_list_append PySem.F.type_list_append v7 (Bu (iT hN hv hd hcd) hb) (d8 h iU hst) Y hfew U hst O) hs) λDn σ H hh=>by
 refine D3.ex4 hh λG ow δ o R Z q=>?_
 refine D3.ex1 (bind1 Z) λy e1 Z=>?_
 refine D3.ex1 (bind1 Z) λds g Z=>?_
 refine D3.ex1 (bind1 Z) λd n Z=>?_
 split at Z
 case h_2=>cases Z
 next l em=>
 by_cases V:flat d=true/\l.length<1000000
 case neg=>rw[if_neg V]at Z;cases Z
 rw[if_pos V]at Z
 cases Z;have isT:isN fl[i]? = true:=by rcases hfl with y|y<;>(rw[y];rfl)
 have E:=jk e1;have hi:i<δ.length:=(bw.mp E).1;obtain⟨v,D,c2,c3⟩:=R.nr i y isT E;obtain⟨p,dx,fs,rfl,Q,I,S,J⟩:=wI c2 g;obtain⟨a,xs,bs,g1,g2,g3,g4,g5,_⟩:=J.part em;obtain⟨w,l1,l2⟩:=pB (fs:=fs) (m:=m) (k:=k) (by rw[S];exact hk) λj A=>by rw[S];exact hn j A
 rw[g1]at l2
 cases l2;refine⟨_,D,p,C,dx,fs,.ref a,rfl,Q,c,na,l1,.inl ⟨rfl,_,SqL.of g2⟩,G,ow,δ,d,R,n,λu H2 s2 r2=>?_⟩;have h2:H2 a=some (.lst xs):=s2 _ _ g2;obtain⟨a',B,M,f1,f2,r,s,f5,t⟩:=(J.same s2).part em;rw[g1]at f1
 cases f1;rw[h2]at f2
 cases f2;obtain⟨n1,n2,n3⟩:=t c3;refine⟨a,xs,u,rfl,rfl,h2,by rw[g3.length];exact mL V.2 (by decide),?_⟩;obtain⟨L,r1,T,r3⟩:=n3 (xs++[u]) (l++[d]) M ((RTs.upd h2 n1 r).snoc (RT.upd h2 cO (RT.flat0 V.1 r2))) (λb hb=>hb) n2;refine q (owN ow i L) σ _ (Qq (R.grow s2) hfl hi D (zE s) (.ins (by rw[bA (dJ (s2 _ _ Q) h2 (by intro z;cases z))];exact s2 _ _ Q) (by rw[bA (dJ (s2 _ _ I) h2 (by intro z;cases z))];exact s2 _ _ I) r1 (by rw[S])) (λb hb=>.inl (r3 b hb)) T)
end
end XI
namespace XI
open L2 My D3
def ssP(S:List (Str×Int)):List (D×D):=S.map λq=>(.str q.1,.int q.2)
noncomputable def ssD:List (D×D)->Option (List (Str×Int))
 |[]=>some []
 | (.str x,.int i)::r=>(ssD r).map ((x,i) :: ·)
 |_=>none
theorem CQ:∀{kvs:List (D×D)}{S:List (Str×Int)},ssD kvs=some S->kvs=ssP S
 |[],S,h=>by cases h;rfl
 | (k,v)::r,S,h=>by
  unfold ssD at h;split at h
  .next e=>cases e
  .next x i Z e=>
   cases e
   cases q:ssD r with
   |none=>rw[q]at h;cases h
   |some Y=>
    rw[q]at h
    cases h;rw[CQ q];rfl
  .cases h
def gU(S:List (Str×Int)):List (Key×V):=S.map λq=>(.inr q.1,.int q.2)
theorem uw:∀S:List (Str×Int),yS (ssP S)=true
 |[]=>rfl
 |_::S=>uw S
theorem QB:∀S:List (Str×Int),dk0 (ssP S)=gU S
 |[]=>rfl
 | (x,i)::S=>by
  show(.inr x,.int i)::dk0 (ssP S)=_;rw[QB S];rfl
theorem zF(S:List (Str×Int)):dh0 (ssP S) = .dK (gU S):=by
 cases S with
 |nil=>rfl
 |cons q S=>
  unfold dh0;show(match tkD ((.str q.1,.int q.2)::ssP S)with|some ts=>HO.dT ts|none=>.dK (dk0 (ssP (q::S))))=_;rw[QB];rfl
def CT(S:List (Str×Int)):isI (ssP S)=false:=JV (uw S)
noncomputable def oh(S:List (Str×Int))(k:Str)(v:Int):List (Str×Int):=if(S.any λq=>decide (q.1=k))=true then S.map (λq=>if q.1=k then(q.1,v)else q)else S++[(k,v)]
def YT(S:List (Str×Int))(k:Str)(v:Int):gU (oh S k v)=putK (gU S) (.inr k) (.int v):=by
 have e:((gU S).any λZ=>decide (Z.1=(.inr k:Key)))=S.any λq=>decide (q.1=k):=by
  unfold gU;rw[List.any_map];congr 1
  funext q
  simp
 unfold oh putK;rw[e];split
 .unfold gU;rw[bZ,bZ];refine eU λq _=>?_
  show(eT (if q.1=k then(q.1,v)else q).1,V.int (if q.1=k then(q.1,v)else q).2)=if(eT q.1:Key) = .inr k then(eT q.1,V.int v)else(eT q.1,V.int q.2)
  by_cases c:q.1=k
  .rw[if_pos c,if_pos (by rw[c])]
  .rw[if_neg c,if_neg λz=>c (by injection z)]
 .unfold gU;rw[cj];rfl
section
variable{H:Hp}
theorem Gi(Y:isI kvs=false):∀{vs:List V}{ds:List D}{as:List Addr}{k:Nat},RTs K H vs ds as->ds[k]? = some (.dict kvs)->∃a u,vs[k]? = some (.ref a)/\H a=some u/\DH H u kvs/\a∈as /\
 (as.Nodup->∀U O,DH (L2.upd H a U) U O->RTs K (L2.upd H a U) vs (ds.set k (.dict O)) as)
 |_,_,_,_,.nil,h=>by simp at h
 |_,_,_,0,.cons e q,h=>by
  simp at h;subst h
  cases e with
  |dic hx g=>
   rename_i T a u;have W:=g.chg;refine⟨a,u,rfl,hx,g,by simp,λnd U O g'=>?_⟩;obtain⟨_,_,n3⟩:=dB.mp nd;exact .cons (.dic bM g') (RTs.upd hx (λz=>n3 a aJ a z rfl) q)
  |ins _ _ _ z=>rw[z]at Y;cases Y
 |_,_,_,k+1,.cons e q,h=>by
  rename_i v d vs ds as bs;obtain⟨a,u,g1,g2,g3,Z,X⟩:=Gi Y (k:=k) q (by simpa using h);have W:=g3.chg;refine⟨a,u,by simpa using g1,g2,g3,aU _ Z,λnd U O g'=>?_⟩;obtain⟨n1,n2,n3⟩:=dB.mp nd;exact .cons (RT.upd g2 (λz=>n3 a z a Z rfl) e) (X n2 U O g')
end
def Bo(C:Addr)(ns:List Str)(k i:Nat)(fk f:FE):FS:=λδ=>(f δ).bind λd=>(aA i δ).bind λy=>(isC C ns y).bind λds=>(fk δ).bind λZ=>match ds[k]?,Z,d with
 |some (.dict kvs),.str x,.int v=>(ssD kvs).bind λS=>if S.length<1000 then some (.nx (δ.set i (some (.d (.dict (uc C ns (ds.set k (.dict (ssP (oh S x v))))))))))else none
 |_,_,_=>none
section
variable{X:Cx}{fl:List Fl}{i k:Nat}{ns:List Str}
def CV{spos:Pos}(hu:X.A.units+1<cLine)(O:fl[i]? = some .N\/fl[i]? = some .W)(h:DE X fl .P e f)(hke:DE X fl .P ke fk)(hN:X.N[i]? = some x)(c:Cls X.K C)(na:jK X.K C m)(hk:ns[k]? = some m)(hn:∀j,j<k->ns[j]? ≠ some m)
 (hv:Vis X.env.scope x:=by first|exact Or.inl rfl|exact Or.inr (Or.inl rfl)|exact Or.inr (Or.inr rfl)) (hd:(x==("__debug__":Str))=false:=by decide) (hcd:(x==("__classdict__":Str))=false:=by decide)
 (hb:attributeBase (.Name x vpos) m X.env (eval (.Name x vpos) X.env)=eval (.Name x vpos) X.env:=by rfl)
 (hs:swapsWith e (some (.Subscript (.Attribute (.Name x vpos) m fpos) ke spos)) pos.line X.env=pure false:=by rfl) :
 DS1 X fl (.Assign [.Subscript (.Attribute (.Name x vpos) m fpos) ke spos] e pos) (Bo C ns k i fk f):=
 PS.imp (U0 hu (Bu (iT hN hv hd hcd) hb) hke h hs) λDn σ H hh=>by
 refine D3.ex4 hh λG ow δ o R Z q=>?_
 refine D3.ex1 (bind1 Z) λd e3 J=>?_
 refine D3.ex1 (bind1 J) λy e1 L=>?_
 refine D3.ex1 (bind1 L) λds e2 M=>?_
 refine D3.ex1 (bind1 M) λkd e4 V=>?_
 clear Z J L M;split at V
 case h_2=>cases V
 next kvs Y n em=>
 refine D3.ex1 (bind1 V) λS eS Z=>?_
 by_cases Q:S.length<1000
 case neg=>rw[if_neg Q]at Z;cases Z
 rw[if_pos Q]at Z
 cases Z;obtain rfl:=CQ eS;have isT:isN fl[i]? = true:=by rcases O with y|y<;>(rw[y];rfl)
 have E:=jk e1;have hi:i<δ.length:=(bw.mp E).1;obtain⟨v,B,c2,D⟩:=R.nr i y isT E;obtain⟨p,dx,fs,rfl,T,F,U,I⟩:=wI c2 e2;obtain⟨a,u,g1,g2,g3,g4,g5⟩:=Gi (CT S) I em;have eu:u = .dK (gU S):=by rw[g3.old (uw S),zF]
 subst eu;obtain⟨w,l1,l2⟩:=pB (fs:=fs) (m:=m) (k:=k) (by rw[U];exact hk) λj l=>by rw[U];exact hn j l
 rw[g1]at l2
 cases l2;refine⟨G,ow,δ,_,R,e3,λv1 H1 s1 r1=>?_⟩;obtain rfl:=RA.intE r1;refine⟨_,B,p,C,dx,fs,.ref a,rfl,s1 _ _ T,c,na,l1,G,ow,δ,_,R.grow s1,e4,λu2 t r r3=>?_⟩;obtain rfl:=RA.strE r3;have s:=s1.trans r;have h3:t a=some (.dK (gU S)):=s _ _ g2;obtain⟨a',u',f1,f2,f3,f4,g⟩:=Gi (CT S) (I.same s) em;rw[g1]at f1
 cases f1;refine⟨a,_,rfl,Iu.k (k:=.inr Y) h3 (by unfold gU;rw[aG];exact mL Q (by decide)),?_⟩;have g':DH (L2.upd t a (.dK (putK (gU S) (.inr Y) (.int n)))) (.dK (putK (gU S) (.inr Y) (.int n))) (ssP (oh S Y n)):=.inl ⟨uw _,by rw[zF,YT]⟩;exact q (owN ow i (ow.n i)) σ _ (Qq (R.grow s) O hi B (zE f4) (.ins (by rw[bA (dJ (s _ _ T) h3 (by intro z;cases z))];exact s _ _ T) (by rw[bA (dJ (s _ _ F) h3 (by intro z;cases z))];exact s _ _ F) (g D _ _ g') (by rw[U])) (λb hb=>.inl hb) D)
end
end XI
variable{S:List (Str×Int)}
namespace XI
open L2 My D3
def jO(S:List (Str×Int))(k:Str):Option Int:=(S.find? λq=>decide (q.1=k)).map (·.2)
def Kr(S:List (Str×Int))(k:Str):List (Str×Int):=S.filter λq=>decide (q.1≠k)
theorem Jc:∀(S:List (Str×Int))(k:Str),uh (gU S) (.inr k)=(jO S k).map V.int
 |[],_=>rfl
 |q::S,k=>by
  by_cases c:q.1=k
  .rw[show gU (q::S)=(.inr q.1,.int q.2)::gU S from rfl,rJ (by rw[c])];simp[jO,mz,c]
  .rw[show gU (q::S)=(.inr q.1,.int q.2)::gU S from rfl,rK (λz=>c (by injection z)),Jc S k];simp[jO,mz,c]
def Vd(S:List (Str×Int))(k:Str):gU (Kr S k)=vp (gU S) (.inr k):=by
 unfold gU Kr vp;rw[List.filter_map];congr 1;refine List.filter_congr λq _=>?_
 simp
def QC(C:Addr)(ns:List Str)(k i:Nat)(fk:FE):FW:=λδ=>(aA i δ).bind λy=>(isC C ns y).bind λds=>(fk δ).bind λZ=>match ds[k]?,Z with
 |some (.dict kvs),.str x=>(ssD kvs).bind λS=>(jO S x).bind λv=>some (.int v,δ.set i (some (.d (.dict (uc C ns (ds.set k (.dict (ssP (Kr S x)))))))))
 |_,_=>none
section
variable{X:Cx}{fl:List Fl}{i k:Nat}{fw:FW}{ns:List Str}{l:List Nat}
def Ks(O:fl[i]? = some .N\/fl[i]? = some .W)(hke:DE X fl .P ke fk)(hN:X.N[i]? = some x)(c:Cls X.K C)(na:jK X.K C m)(hk:ns[k]? = some m)(hn:∀j,j<k->ns[j]? ≠ some m)(hm:M1 X (.Attribute (.Name x vpos) m fpos) "pop" apos ke cpos)
 (hv:Vis X.env.scope x:=by first|exact Or.inl rfl|exact Or.inr (Or.inl rfl)|exact Or.inr (Or.inr rfl)) (hd:(x==("__debug__":Str))=false:=by decide) (hcd:(x==("__classdict__":Str))=false:=by decide)
 (hb:attributeBase (.Name x vpos) m X.env (eval (.Name x vpos) X.env)=eval (.Name x vpos) X.env:=by rfl) :
 DEW X fl (.Call (.Attribute (.Attribute (.Name x vpos) m fpos) "pop" apos) [ke] [] cpos) (QC C ns k i fk):=
 PE.imp (PJ (Bu (iT hN hv hd hcd) hb) hke hm) λσ H Q hh=>by
 obtain⟨G,ow,δ,d0,δ',R,I,q⟩:=hh;refine D3.ex1 (bind1 I) λy e1 M=>?_
 refine D3.ex1 (bind1 M) λds d T=>?_
 refine D3.ex1 (bind1 T) λkd e Y=>?_
 clear I M T;split at Y
 case h_2=>cases Y
 next kvs Z em=>
 refine D3.ex1 (bind1 Y) λS f t=>?_
 refine D3.ex1 (bind1 t) λn g A=>?_
 cases A;obtain rfl:=CQ f;have isT:isN fl[i]? = true:=by rcases O with y|y<;>(rw[y];rfl)
 have F:=jk e1;have hi:i<δ.length:=(bw.mp F).1;obtain⟨v,D,c2,E⟩:=R.nr i y isT F;obtain⟨p,dx,fs,rfl,U,J,V,L⟩:=wI c2 d;obtain⟨a,u,g1,g2,g3,g4,g5⟩:=Gi (CT S) L em;have h:u = .dK (gU S):=by rw[g3.old (uw S),zF]
 subst h;obtain⟨w,l1,l2⟩:=pB (fs:=fs) (m:=m) (k:=k) (by rw[V];exact hk) λj r=>by rw[V];exact hn j r
 rw[g1]at l2
 cases l2;refine⟨_,D,p,C,dx,fs,.ref a,rfl,U,c,na,l1,a,rfl,.inl ⟨_,.inl g2⟩,G,ow,δ,_,R,e,λu2 B s r3=>?_⟩;obtain rfl:=RA.strE r3;have h3:B a=some (.dK (gU S)):=s _ _ g2;obtain⟨a',u',f1,f2,f3,l,o⟩:=Gi (CT S) (L.same s) em;rw[g1]at f1
 cases f1;refine⟨gU S,.inr Z,.int n,h3,rfl,by rw[Jc,g];rfl,?_⟩;have g':DH (L2.upd B a (.dK (vp (gU S) (.inr Z)))) (.dK (vp (gU S) (.inr Z))) (ssP (Kr S Z)):=.inl ⟨uw _,by rw[zF,Vd]⟩;exact q _ _ (owN ow i (ow.n i)) (Qq (R.grow s) O hi D (zE l) (.ins (by rw[bA (dJ (s _ _ U) h3 (by intro z;cases z))];exact s _ _ U) (by rw[bA (dJ (s _ _ J) h3 (by intro z;cases z))];exact s _ _ J) (o E _ _ g') (by rw[V])) (λb hb=>.inl hb) E) rfl (.int n)
def CW(l:List Nat)(f:FW):FS:=λδ=>(f δ).bind λp=>(jr l p.2).bind λr=>some (.ex "" "" (.tuple (p.1::r)))
def Ve(O:∀i∈l,fl[i]? = some .W)(h:DEW X fl e fw):DW1 X fl l (.Return (some e) pos) (CW l fw):=PS.imp (rm h) λDn σ H h=>by
 refine D3.ex4 h λG ow δ o R V q=>?_
 obtain⟨⟨d,δ'⟩,T,t⟩:=bind1 V;refine D3.ex1 (bind1 t) λr U t=>?_
 cases t;exact⟨G,ow,δ,d,δ',R,T,λv H' Y R' hd Z=>zA R' O U q hd Z⟩
end
def wJ{ok:Ok}{pl:Bool}(e:ssD kvs=some S)(r:RA K ok pl H v (.dict kvs)):∃a,v = .ref a/\L2.Rd H a (.dK (gU S)):=by
 obtain rfl:=CQ e;obtain⟨a,rfl,h⟩:=r.dicE (uw S);rw[zF]at h;exact⟨a,rfl,h⟩
end XI
namespace XI
open L2 My D3 XK
section
variable{X:Cx}{fl:List Fl}{i:Nat}{F:List D->Option D}{ns:List Str}
def nM{o:Expr}(h:HasM X.prog X.w X.K X.mg X.base n C m ps (spD X.K F))(hr:Room n X.A)(hm:m∉ns)(ho:DE X fl .P o f)
 (U:eval (.Call (.Attribute o m apos) [] [] pos) X.env=(do
  let O <-eval o X.env
  standAt apos.atName
  let(f,fi) <-holding [O] (getMethod O m pl)
  callWith pos f fi (backTo pos (starEach [] X.env)) (backToKw pos (keywordEach [] X.env))):=by rfl) :
 DE X fl .C (.Call (.Attribute o m apos) [] [] pos) (nH F C ns f aW):=by
 obtain⟨g,fd,L,b,M⟩:=h.ex;refine PE.imp (NQ (E:=E0) ho h.cl M L hr b .nil Er U) λσ H Q V=>?_
 refine D3.ex4 V λG ow δ r R Z q=>?_
 refine D3.ex1 (bind1 Z) λd N Z=>?_
 refine D3.ex1 (bind1 Z) λxs S Z=>?_
 refine D3.ex1 (bind1 Z) λds T Z=>?_
 cases T;refine⟨G,ow,δ,d,R,N,λv H0 s0 k2=>?_⟩;have k2:RA X.K ok1 true H0 v d:=k2;obtain⟨a,dx,fs,rfl,W,J,Y,_⟩:=Ja k2 S;refine⟨a,dx,fs,rfl,W,mY (by rw[Y];exact hm),?_⟩;show spD X.K F [.ref a] H0 Q E0;exact⟨[d],r,⟨(R.grow s0).tb,.cons k2 .nil⟩,Z,λv H2 s2 r2=>q v H2 (s0.trans s2) (RA.imp (λa z=>s0.free z) (λz=>z) r2)⟩
end
def Vf:D->D->Option D:=λx y=>match x,y with
 | .str k,.dict kvs=>(ssD kvs).bind λS=>some (.bool (jO S k).isSome)
 |_,_=>none
def vI:D->D->Option D:=λx y=>match x,y with
 | .str k,.dict kvs=>(ssD kvs).bind λS=>some (.bool (!(jO S k).isSome))
 |_,_=>none
def xH:D->D->Option D:=λy x=>match x,y with
 | .str k,.dict kvs=>(ssD kvs).bind λS=>(jO S k).bind λv=>some (.int v)
 |_,_=>none
def CZ(k:Str)(h:L2.Rd H a (.dK (gU S))):wD H a (.str k) ((jO S k).map V.int):=.inl ⟨_,.inr k,h,rfl,(Jc S k).symm⟩
def af4:BrO K YC Vf:=by
 intro H x y dx V d Q Y Z e q;unfold Vf at e;split at e
 .next k kvs=>
  refine D3.ex1 (bind1 e) λS W X=>?_
  cases X;obtain rfl:=RA.strE Y;obtain⟨a,rfl,h⟩:=wJ W Z;refine⟨a,_,rfl,CZ k h,?_⟩;rw[fX];exact q _ rfl (.bl _)
 .cases e
def Gj:BrO K Cv vI:=by
 intro H x y dx V d Q Y Z e q;unfold vI at e;split at e
 .next k kvs=>
  refine D3.ex1 (bind1 e) λS W X=>?_
  cases X;obtain rfl:=RA.strE Y;obtain⟨a,rfl,h⟩:=wJ W Z;refine⟨a,_,rfl,CZ k h,?_⟩;rw[fX];exact q _ rfl (.bl _)
 .cases e
section
variable{X:Cx}{fl:List Fl}{a b:Expr}{fa:FE}
def yq(O:X.A.units+1<cLine)(ha:DE X fl .P a fa)(hb:DE X fl .P b fb)(U:UL b):DE X fl .FC (.Subscript a b pos) (dOp xH fa fb):=PE.imp (Kc O ha hb U) λσ H Q h=>by
 refine D3.ex4 h λG ow δ d R W q=>?_
 refine D3.ex2 (rF W) λx y K L Z=>?_
 refine⟨G,ow,δ,x,R,K,λv H1 s1 r1=>⟨G,ow,δ,y,R.grow s1,L,λu H2 s2 r2=>?_⟩⟩;unfold xH at Z;split at Z
 .next k kvs=>
  refine D3.ex1 (bind1 Z) λS M N=>?_
  refine D3.ex1 (bind1 N) λn T V=>?_
  cases V;obtain rfl:=RA.strE r2;obtain⟨p,rfl,Y⟩:=wJ M r1;have g:=CZ k (yh s2 Y);rw[T]at g;exact⟨p,.int n,rfl,g,q _ H2 (s1.trans s2) (.inl ⟨rfl,.int n⟩)⟩
 .cases Z
end
end XI
namespace XI
open L2 My D3 XK
section
variable{X:Cx}{fl:List Fl}{i:Nat}
end
end XI
namespace XI
open L2 My D3 XK
def aq2{σ:D3.St}(tb:Tb H)(Y:σ.length=δ.length)(q:∀(i:Nat) (d:D),δ[i]? = some (some (U.d d))->fl[i]? = some Fl.A)(O:∀(i:Nat) (d:D),δ[i]? = some (some (U.d d))->∃v,σ[i]? = some (some v)/\RA K ok1 true H v d):
 Rel K fl ⟨H,H,λ_=>none,λ_=>[],tb,λ_=>none⟩ ow0 σ H δ:=by
 refine⟨Same.refl _,Same.refl _,Y,λi a h=>(by cases h),λi j a h=>(by cases h),λi h=>rfl,λi d h _ _=>?_,λi d h _ h2 _=>absurd (q i d h) h2,λi a h=>(by cases h),λi j a h=>(by cases h),λi j a h=>(by cases h),λi h=>rfl,λi d hn h=>(by rw[q i d h]at hn;cases hn),λi u h e=>(by cases e)⟩;obtain⟨v,h1,h2⟩:=O i d h;exact⟨v,h1,h2.imp (λ_ _=>⟨λi z=>(by cases z),λi z=>(by cases z)⟩) (λz=>z)⟩
structure Ini(K:PySem.W.Frag)(H0:Hp)(x dx C:Addr)(H:Hp)(fs:List (Str×V))(ds:List D)(as:List Addr):Prop where
 hx:H x=some (.ins C dx fs)
 hd:H dx=some (.own x)
 rt:RTs K H (fs.map (·.2)) ds as
 nd:as.Nodup
 fr:∀a∈as,H0 a=none
 sm:Same (kY H0 (· = x)) H
 hn:H0 x≠none
theorem Gk:∀{fs:List (Str×V)}{f:Str}{y:V},f∉fs.map (·.1)->qQ f y fs=fs++[(f,y)]
 |[],_,_,_=>rfl
 | (g,x)::r,f,y,h=>by
  have h1:g≠f:=λz=>h (by rw[z];exact aJ)
  rw[qQ,if_neg h1,Gk λz=>h (aH _ z)];rfl
mutual
def iz:D->Bool
 | .list xs=>iz.noIns xs
 | .tuple xs=>iz.noIns xs
 | .dict kvs=>!isI kvs
 |_=>true
def iz.noIns:List D->Bool
 |[]=>true
 |x::r=>iz x&&iz.noIns r
end
def Gm{x dx:Addr}{fs:List (Str×V)}(hx:H x=some (.ins C dx fs)):(∀{v:V}{d:D}{bs:List Addr},RT K H v d bs->iz d=true->RT K (L2.upd H x u) v d bs)/\∀{v:List V}{d:List D}{bs:List Addr},RTs K H v d bs->iz.noIns d=true->RTs K (L2.upd H x u) v d bs:=
 RT.ind (λ_=>.non) (λb _=>.bl b) (λi _=>.int i) (λx _=>.str x) (λe q h=>.lst (by rw[bA (dJ e hx (by intro z;cases z))];exact e) (q (by rw[iz]at h;exact h))) (λe q h=>.tup (by unfold iD;rw[bA (dJ e hx (by intro z;cases z))];exact e) (q (by rw[iz]at h;exact h)))
  (λe g _=>.dic (by rw[bA (dJ e hx (by intro z;subst z;exact g.chg.ins))];exact e) (g.imp λ_ _ t=>by unfold iD;rw[bA (dJ t hx (by intro z;cases z))];exact t)) (λ_ _ _ _ z h=>by rw[z]at h;cases h) (λ_=>.nil)
  λe q h=>by
   rw[iz.noIns,aO]at h;exact .cons (e h.1) (q h.2)
end XI
variable{fe:D3.FE}
namespace XI
open L2 My D3 XK
def QD{ok:Ok}{pl:Bool}{x dx:Addr}{fs:List (Str×V)}(hx:H x=some (.ins C dx fs)):(∀{v:V}{d:D},RA K ok pl H v d->iz d=true->RA K ok pl (L2.upd H x u) v d)/\∀{v:List V}{d:List D},RAs K ok pl H v d->iz.noIns d=true->RAs K ok pl (L2.upd H x u) v d:=
 RA.ind (λ_=>.non) (λb _=>.bl b) (λi _=>.int i) (λx _=>.str x) (λe k q h=>.lst (by rw[bA (dJ e hx (by intro z;cases z))];exact e) k (q (by rw[iz]at h;exact h))) (λe k q h=>.lsk (by
  rcases e with⟨o,e⟩|e
  .exact .inl ⟨o,by rw[bA (dJ e hx (by intro z;cases z))];exact e⟩
  .exact .inr e) k (q (by rw[iz]at h;exact h))) (λe q h=>.tup (by unfold iD;rw[bA (dJ e hx (by intro z;cases z))];exact e) (q (by rw[iz]at h;exact h)))
  (λe g k _=>.dic (by rw[bA (dJ e hx (by intro z;subst z;exact g.chg.ins))];exact e) (g.imp λ_ _ t=>by unfold iD;rw[bA (dJ t hx (by intro z;cases z))];exact t) k) (λe g k _=>.dik (by rw[bA (dJ e hx (by intro z;cases z))];exact e) (g.imp λ_ _ t=>by unfold iD;rw[bA (dJ t hx (by intro z;cases z))];exact t) k)
  (λ_ _ _ z h=>by rw[z]at h;cases h) (λ_=>.nil)
  λe q h=>by
   rw[iz.noIns,aO]at h;exact .cons (e h.1) (q h.2)
theorem Ku{bs:List Addr}(r:RT K H v d bs):∀{vs:List V}{ds:List D}{as:List Addr},RTs K H vs ds as->RTs K H (vs++[v]) (ds++[d]) (as++bs)
 |_,_,_,.nil=>by
  have:=RTs.cons r (.nil (K:=K) (H:=H));simpa using this
 |_,_,_,.cons e q=>by
  rw[j9];exact .cons e (Ku r q)
def tIS(K:PySem.W.Frag)(fl:List Fl)(C:Addr)(f:Str)(fe:FE):TS:=λDn σ H=>∃(H0:Hp)(x dx:Addr)(fs:List (Str×V))(ds:List D)(as:List Addr)(δ:DS)(d:D),Ini K H0 x dx C H fs ds as/\σ[0]? = some (some (.ref x))/\Tb H/\σ.length=δ.length /\
 (∀(i:Nat)(d:D),δ[i]? = some (some (U.d d))->fl[i]? = some Fl.A/\∃v,σ[i]? = some (some v)/\RA K ok1 true H v d)/\f∉fs.map (·.1)/\fs.length<1000/\iz.noIns ds=true/\iz d=true/\fe δ=some d /\
 ∀H' fs' Z,Ini K H0 x dx C H' fs' (ds++[d]) Z->fs'.map (·.1)=fs.map (·.1)++[f]->(∀v d,RA K ok1 true H v d->iz d=true->RA K ok1 true H' v d)->Tb H'->Dn.nx σ H'
def Vg{f s0:Str}(h:DE X fl .T e fe)(hN:X.N[0]? = some s0)(c:Cls X.K C)(U:jK X.K C f)
 (hv:Vis X.env.scope s0:=by first|exact Or.inl rfl|exact Or.inr (Or.inl rfl)|exact Or.inr (Or.inr rfl)) (hd:(s0==("__debug__":Str))=false:=by decide) (O:(s0==("__classdict__":Str))=false:=by decide)
 (hs:swapsWith e (some (.Attribute (.Name s0 vpos) f p2)) pos.line X.env=pure false:=by rfl):PS X (.Assign [.Attribute (.Name s0 vpos) f p2] e pos) (tIS X.K fl C f fe):=
 PS.imp (X3 (iT hN hv hd O) h hs) λDn σ H hh=>by
 obtain⟨H0,x,dx,fs,ds,as,δ,d,I,P,tb,gl,ga,Q,R,nd,Z,ge,q⟩:=hh;refine⟨_,_,δ,d,aq2 tb gl (λi d h=>(ga i d h).1) (λi d h=>(ga i d h).2),ge,λv H1 s r=>?_⟩;obtain⟨bs,r1,r2,r3⟩:=r;have hx:=s _ _ I.hx;have Y:dx≠x:=dJ I.hd I.hx (by intro z;cases z);refine⟨_,P,x,C,dx,fs,rfl,hx,c,U,R,?_⟩;rw[Gk Q];refine q _ (fs++[(f,v)]) (as++bs) ⟨bM,by rw[bA Y];exact s _ _ I.hd,?_,?_,?_,?_,I.hn⟩ (by rw[cj];rfl) (λv d r hd=>(QD hx).1 (r.same s) hd) ?_
 .rw[cj];exact Ku ((Gm hx).1 r1 Z) ((Gm hx).2 (I.rt.same s) nd)
 .refine dB.mpr ⟨I.nd,r2,λa ha b hb z=>?_⟩;rw[z]at ha;exact I.rt.tracked b ha (r3 b hb)
 .intro a ha;rcases bT.mp ha with y|y
  .exact I.fr a y
  .cases z:H0 a with
   |none=>rfl
   |some o=>
    have e:=r3 a y;by_cases V:a=x
    .rw[V,I.hx]at e;cases e
    .rw[I.sm a o (by rw[iH (p:=(· = x)) V];exact z)]at e;cases e
 .intro b o hb;by_cases W:b=x
  .rw[vD (p:=(· = x)) W]at hb;cases hb
  .rw[bA W];exact s _ _ (I.sm b o hb)
 .intro t S;have e:=tb t S;rw[bA (dJ (s _ _ e) hx (by intro z;cases z))];exact s _ _ e
end XI
namespace XI
open L2 My D3 XK
section
variable{X:Cx}{o:Expr}{to:TE}
theorem Kv:∀{kvs:List (Key×V)}{vs:List (Key×Value)},KV kvs vs->Vals (kvs.map (·.2)) (vs.map (·.2))
 |_,_,.nil=>.nil
 |_,_,.cons h t=>.cons h.2 (Kv t)
theorem Kw:∀(kvs:List (Key×V))(us:List Value),us.length=kvs.length->(∀(j:Nat)(u:Value),us[j]? = some u->∃k v,kvs[j]? = some (k,v)/\RelV (kV k) u)->Vals (kvs.map λq=>kV q.1) us
 |[],[],_,_=>.nil
 |[],_::_,h,_=>by simp at h
 |_::_,[],h,_=>by simp at h
 | (k,v)::r,u::us,h,g=>by
  obtain⟨W,X,Y,Z⟩:=g 0 u rfl
  cases Y;exact .cons Z (Kw r us (by simpa using h) λj w hw=>by simpa using g (j+1) w (by simpa using hw))
def Jd(hc:X.calm=true):lB X (.type "list") (λxs H Q=>∃(a:Addr)(kvs:List (Key×V)),xs=[.ref a]/\L2.Rd H a (.dK kvs)/\∀l,H l=none->Q (.ref l) (upd H l (.lst (kvs.map λq=>kV q.1)))):=by
 intro pins s σ H xs us Q I r h;obtain⟨a,kvs,rfl,hx,q⟩:=h;obtain⟨u,rfl,O⟩:=vals1 r
 cases O;obtain⟨R,hd,vs,rel,dd⟩:=n_ I.hok hx;obtain⟨K,S⟩:=dd.dictAt;have hlen:=rel.length;refine PySem.W.kdl_call (PySem.W.kdl_dict (knd:=cG X.prog X.w) (kvs:=vs) (ep:=K) hd) (I.ok.hd hc) S (by rw[<-hlen];exact R) λh' tk acc c' M L Z=>?_
 have hn:H s.heap.objs.size=none:=I.hok.fresh (aV _);have J:=I.laid (h':=h') (t':=tk) (a:=s.heap.objs.size) (o:=.lst (kvs.map λq=>kV q.1)) M (aV _) ⟨by rw[aG];exact R,acc.toList,c',Kw kvs acc.toList (by rw[cN,Z.1,hlen]) λj u N=>?_,by simpa using L⟩
 .exact⟨.ref _,_,J,rfl,q _ hn⟩
 .obtain⟨k,x,U,T⟩:=Z.2 j u (by rw[<-gQ];exact N);have Y:(vs.map (·.1))[j]? = some k:=by rw[aP,U];rfl
  rw[<-rel.keys,aP]at Y
  cases P:kvs[j]? with
  |none=>rw[P]at Y;cases Y
  |some q0=>
   rw[P]at Y
   cases Y;exact⟨q0.1,q0.2,rfl,Iv T⟩
def Ky(r a:Addr):HO:=.ext λh=>h.IsValuesView r a
def Vh(ho:PE X o to)(U:attributeBase o "values" X.env (eval o X.env)=eval o X.env:=by rfl)(O:(apos.endLine==cpos.line)=true:=by rfl):
 PE X (.Call (.Attribute o "values" apos) [] [] cpos) (λσ H Q=>to σ H λx H1=>∃a kvs,x = .ref a/\L2.Rd H1 a (.dK kvs)/\∀r,H1 r=none->Q (.ref r) (upd H1 r (Ky r a))):=by
 intro pins s σ H Q I h;refine wpAny_Call_method0_late U O (thn (ho pins s σ H _ I h) λv s1 ⟨x,H1,Z,r1,a,kvs,ex,hx,q⟩=>?_);subst ex;obtain rfl:v=dr a:=r1;obtain⟨Y,T,V⟩:=Cu Z (.inl ⟨kvs,hx⟩);obtain⟨S,hd,vs,rel,dd⟩:=n_ Z.hok hx;have hn:H1 s1.heap.objs.size=none:=Z.hok.fresh (aV _);refine⟨"dict", "dict.values", PySem.F.plainAttrs_dict,PySem.F.slot_dict_values,PySem.F.type_dict_values,Y,T,bb rfl (PySem.evalArgs_none ?_)⟩;refine b9 PySem.F.slot_dict_values Y PySem.F.entry_dict_values (PySem.F.args_dict_values_1 _) (meets_dict_values (cG X.prog X.w) a V) ⟨⟨vs,dd⟩,?_⟩;have W:(s1.heap.push {cls:=.type "dict_values", data:=.fields #[.ref a]}).get? s1.heap.objs.size=some {cls:=.type "dict_values", data:=.fields #[.ref a]}:=ai _ rfl;refine⟨.ref _,_,Z.laid (t':=s1.toks) (a:=s1.heap.objs.size) (o:=Ky s1.heap.objs.size a) (λb u e=>ae _ e) (aV _) ⟨⟨_,W,rfl,rfl⟩,⟨_,W⟩,λh1 h2 ⟨o,g1,g2⟩ k=>⟨o,k o g1,g2⟩⟩,rfl,q _ hn⟩
def Je(hc:X.calm=true):lB X (.type "list") (λxs H Q=>∃(r a:Addr)(kvs:List (Key×V)),xs=[.ref r]/\H r=some (Ky r a)/\L2.Rd H a (.dK kvs)/\∀l,H l=none->Q (.ref l) (upd H l (.lst (kvs.map (·.2))))):=by
 intro pins s σ H xs us Q I S h;obtain⟨r,a,kvs,rfl,P,hx,q⟩:=h;obtain⟨u,rfl,T⟩:=vals1 S
 cases T;obtain⟨U,hd,vs,rel,dd⟩:=n_ I.hok hx;obtain⟨M,Y⟩:=dd.dictAt;have hlen:=rel.length;have R:s.heap.IsValuesView r a:=(I.hok r _ P).1;refine PySem.W.kdl_call (PySem.W.kdl_values (knd:=cG X.prog X.w) (kvs:=vs) (ep:=M)) (I.ok.hd hc) ⟨R,Y⟩ (by rw[<-hlen];exact U) λh' tk acc c' O N Z=>?_
 have hn:H s.heap.objs.size=none:=I.hok.fresh (aV _);have ea:acc.toList=vs.map (·.2):=PySem.W.kdl_vals_eq _ (by rw[cN];exact Z.1) λj v e=>Z.2 j v (by rw[<-gQ];exact e)
 have L:=I.laid (h':=h') (t':=tk) (a:=s.heap.objs.size) (o:=.lst (kvs.map (·.2))) O (aV _) ⟨by rw[aG];exact U,acc.toList,c',by rw[ea];exact Kv rel,by simpa using N⟩;exact⟨.ref _,_,L,rfl,q _ hn⟩
end
def C_:D->Option D
 | .dict kvs=>(ssD kvs).bind λS=>some (.list (S.map λq=>.str q.1))
 |_=>none
def Kz:D->Option (List Int)
 | .dict kvs=>match ssD kvs with
  |some S=>some (S.map (·.2))
  |none=>(iiD kvs).map λq=>q.map (·.2)
 |_=>none
def Dh:D->Option D:=λx=>(Kz x).bind λl=>some (.list (l.map .int))
theorem KC{ok:Ok}{pl:Bool}:∀S:List (Str×Int),RAs K ok pl H ((gU S).map λq=>kV q.1) (S.map λq=>.str q.1)
 |[]=>.nil
 |q::S=>.cons (.str q.1) (KC S)
def QF{ok:Ok}{pl:Bool}{x:D}{l:List Int}(e:Kz x=some l)(r:RA K ok pl H v x):∃a kvs,v = .ref a/\L2.Rd H a (.dK kvs)/\kvs.map (·.2)=l.map V.int:=by
 unfold Kz at e;split at e
 .next kvs=>
  split at e
  .next S Z=>
   cases e;obtain⟨a,rfl,h⟩:=wJ Z r;exact⟨a,_,rfl,h,by unfold gU;rw[bZ,bZ];rfl⟩
  .next Z=>
   cases eq:iiD kvs with
   |none=>rw[eq]at e;cases e
   |some qs=>
    rw[eq]at e
    cases e;obtain⟨a,rfl,h⟩:=nF (x:=.dict kvs) (qs:=qs) eq r;exact⟨a,_,rfl,h,by rw[bZ,bZ];rfl⟩
 .cases e
section
variable{X:Cx}{fl:List Fl}
def QG(hc:X.calm=true)(h:DE X fl .P e f)(Y:Gl X "list")(hm:X.mg "list"=none)
 (U:starEach [e] X.env=(false,eval e X.env)::starEach [] X.env:=by rfl) (O:(backTo pos (starEach [] X.env)).any (·.1)=false:=by rfl):DE X fl .FC (.Call (.Name "list" p) [e] [] pos) (dUn C_ f):=
 PE.imp (mW (Jd hc) Y hm c0 (d8 h iU U) (by decide) (by decide) U O) λσ H Q h=>by
 refine D3.ex4 h λG ow δ d R W q=>?_
 refine D3.ex1 (bind1 W) λx N Z=>?_
 refine⟨G,ow,δ,x,R,N,λv H1 s1 r1=>?_⟩;unfold C_ at Z;split at Z
 .next kvs=>
  refine D3.ex1 (bind1 Z) λS V T=>?_
  cases T;obtain⟨a,rfl,hx⟩:=wJ V r1;exact⟨a,gU S,rfl,hx,λl hn=>q _ _ (s1.trans (cP hn _)) (.inr ⟨l,_,_,rfl,rfl,s1.free hn,bM,KC S⟩)⟩
 .cases Z
def QH(hc:X.calm=true)(h:DE X fl .P e f)(hg:Gl X "list")(hm:X.mg "list"=none)
 (U:attributeBase e "values" X.env (eval e X.env)=eval e X.env:=by rfl) (O:(apos.endLine==cpos.line)=true:=by rfl)
 (he:starEach [.Call (.Attribute e "values" apos) [] [] cpos] X.env=(false,eval (.Call (.Attribute e "values" apos) [] [] cpos) X.env)::starEach [] X.env:=by exact dY rfl) (Y:(backTo pos (starEach [] X.env)).any (·.1)=false:=by rfl):DE X fl .FC (.Call (.Name "list" p) [.Call (.Attribute e "values" apos) [] [] cpos] [] pos) (dUn Dh f):=
 PE.imp (mW (Je hc) hg hm c0 (d8 (Vh h U O) iU he) (by decide) (by decide) he Y) λσ H Q h=>by
 refine D3.ex4 h λG ow δ d R V q=>?_
 refine D3.ex1 (bind1 V) λx L M=>?_
 refine D3.ex1 (bind1 M) λl N S=>?_
 cases S;refine⟨G,ow,δ,x,R,L,λv H1 s1 r1=>?_⟩;obtain⟨a,kvs,rfl,hx,T⟩:=QF N r1;refine⟨a,kvs,rfl,hx,λr Z=>⟨r,a,kvs,rfl,bM,yh (cP Z _) hx,λW hn=>?_⟩⟩;have sm:=s1.trans ((cP Z (Ky r a)).trans (cP hn (.lst (kvs.map (·.2)))));refine q _ _ sm (.inr ⟨W,_,_,rfl,rfl,(s1.trans (cP Z _)).free hn,bM,?_⟩);rw[T];exact sO l
end
end XI
namespace XI
open L2 My D3 XK
theorem QJ:∀{kvs:List (Key×V)}{vs:List (Key×Value)}{i:Nat}{k:Key}{u:Value},KV kvs vs->vs[i]? = some (k,u)->∃v,kvs[i]? = some (k,v)/\RelV v u
 |_,_,_,_,_,.nil,h=>by simp at h
 | (Y,Z)::_,_,0,_,_,.cons h _,e=>by
  simp at e;subst e;obtain⟨h1,h2⟩:=h
  cases h1;exact⟨Z,rfl,h2⟩
 |_,_,i+1,k,u,.cons _ t,e=>by
  obtain⟨v,h1,h2⟩:=QJ (i:=i) t (by simpa using e);exact⟨v,by simpa using h1,h2⟩
def Iti(o:Obj)(a:Addr)(kvs:List (Key×V)):It:=
 ⟨λi H=>H a=some (.frz o (.dK kvs))/\i<kvs.length,λi H x H'=>∃p k v,kvs[i]? = some (k,v)/\H p=none/\H'=upd H p (.tup [kV k,v])/\x = .ref p,λi H=>H a=some (.frz o (.dK kvs))/\kvs.length<=i⟩
theorem zG{elts:List Expr}{x1}{tpos:Pos}(o:Obj)(a it:Addr)(kvs:List (Key×V)){es:Array DictEntry}{ep:Nat}(hd:o.data = .dict es ep):
 Turn P w K (.Tuple elts x1 tpos) (Iti o a kvs) [it] it (λi h=>∃ok q,IsItemIter h it a i kvs.length ep ok q) where
 mem:=by simp
 obj:=λi h st b hb=>by
  have e:b=it:=by simpa using hb
  subst e;obtain⟨ok,q,e⟩:=st;exact⟨_,e,λv z=>by cases z⟩
 keep:=λi h h' st k=>by
  obtain⟨ok,q,e⟩:=st;exact⟨ok,q,k it (by simp) _ e⟩
 item:=by
  intro X M hw L G i pins s σ H E I T st O;subst M hw L;obtain⟨S,hi⟩:=O;obtain⟨vs,rel,dat⟩:=Cz I S hd;have ln:=rel.length;rw[ln]at hi;obtain⟨⟨k,u⟩,hx⟩:∃p,vs[i]? = some p:=⟨vs[i],by simp[hi]⟩;obtain⟨v,A,F⟩:=QJ rel hx;obtain⟨ok,q,st⟩:=st;rw[ln]at st;have R:it<s.heap.objs.size:=af st;refine wpAny_pyNext_items_item st dat hx λY h1 U B D C Q=>?_
  refine⟨_,rfl,wpAny_letOwnedTupleGo_items B λh2 N Z=>?_⟩
  replace Z:eL it h1 h2:=Z
  have hn:H s.heap.objs.size=none:=I.hok.fresh (aV _);have I0:L2.Inv X pins σ (upd H s.heap.objs.size (.tup [kV k,v])) {s with heap:=s.heap.push {cls:=.type "tuple", data:=.seq #[Y,u]} }:=
   I.laid (t':=s.toks) (λb o e=>ae _ e) (aV _) ⟨show 2<=sizeLine by decide,[Y,u],.cons (Iv U) (.cons F .nil),⟨_,ai _ rfl,rfl,_,rfl⟩⟩
  have ne:∀b,b∈[it]->b≠s.heap.objs.size:=λb hb=>by
   rw[show b=it by simpa using hb];exact bF R
  have t:L2.Inv X pins σ (upd H s.heap.objs.size (.tup [kV k,v])) {s with heap:=h2}:=by
   refine D3.Inv.turnedL (s:={s with heap:=s.heap.push {cls:=.type "tuple", data:=.seq #[Y,u]} }) (t':=s.toks) (ch:=[it]) I0 (λb o hb e=>?_) λb hb=>⟨by rw[bA (ne b hb)];exact(T b hb).1,(T b hb).2⟩
   have b1:b≠it:=λz=>hb (by simp[z])
   rcases de e with⟨J,x⟩|J
   .subst J x;exact(Z.2 _ b1).trans D
   .exact(Z.2 _ b1).trans (Q b o b1 J)
  refine⟨.ref s.heap.objs.size,_,t,rfl,⟨_,k,v,A,hn,rfl,rfl⟩,⟨_,_,by rw[ln];exact N⟩,λb hb=>?_⟩;rw[bA (ne b hb)];exact(T b hb).1
 done:=by
  intro X M hw L G i pins s σ H E I T st O;subst M hw L;obtain⟨S,hi⟩:=O;obtain⟨vs,rel,dat⟩:=Cz I S hd;have ln:=rel.length;rw[ln]at hi;obtain⟨ok,q,st⟩:=st;rw[ln]at st;exact wpAny_pyNext_items_end (I.ok.hd G) st dat (bD hi) λh' y=>⟨rfl,D3.Inv.turnedL (t':=s.toks) (ch:=[it]) I (λb o hb e=>y b o (λz=>hb (by simp[z])) e) T⟩
 self:=λ_ _ _ _ _ st h=>by
  obtain⟨ok,q,st⟩:=st;exact PySem.W.kcp_self st h
def af5(X:Cx)(tl:TE):TI:=λσ H R=>tl σ H λx H1=>∃a kvs,x = .ref a/\((H1 a=some (.dK kvs)/\∀o,Mq X a->R (Iti o a kvs) (upd H1 a (.frz o (.dK kvs))))\/∃o,H1 a=some (.frz o (.dK kvs))/\R (Iti o a kvs) H1)
def QK{elts:List Expr}{x1}{tpos:Pos}{l:Expr}(hl:PE X l tl)(U:attributeBase l "items" X.env (eval l X.env)=eval l X.env:=by rfl)(O:(apos.endLine==cpos.line)=true:=by rfl):
 PI X (.Tuple elts x1 tpos) (.Call (.Attribute l "items" apos) [] [] cpos) (af5 X tl):=by
 intro pins s σ H R I h;refine wpAny_Call_method0_late U O (thn (hl pins s σ H _ I h) λv s1 ⟨x,H1,Q,r1,q1⟩=>?_);obtain⟨a,kvs,e,q⟩:=q1;subst e;obtain rfl:v=dr a:=r1;have rd:L2.Rd H1 a (.dK kvs):=q.elim (λz=>.inl z.1) (λ⟨o,z,_⟩=>.inr ⟨o,z⟩);obtain⟨P,L,M⟩:=Cu Q (.inl ⟨kvs,rd⟩);obtain⟨_,lo,vs,rel,dd⟩:=n_ Q.hok rd;refine⟨"dict", "dict.items", PySem.F.plainAttrs_dict,PySem.F.slot_dict_items,PySem.F.type_dict_items,P,L,bb rfl (PySem.evalArgs_none ?_)⟩;refine b9 PySem.F.slot_dict_items P PySem.F.entry_dict_items (PySem.F.args_dict_items_1 _) (meets_dict_items (cG X.prog X.w) a M) ⟨⟨vs,dd⟩,?_⟩;show wpAny _ _ _ _ _ _;have Z:L2.Inv X pins σ H1 {s1 with heap:=s1.heap.push {cls:=.type "dict_items", data:=.fields #[.ref a]} }:=Q.kept (t':=s1.toks) λb o e=>ae _ e
 generalize V:({s1 with heap:=s1.heap.push {cls:=.type "dict_items", data:=.fields #[.ref a]} }:dk)=s2 at Z;have J:s2.heap.IsItemsView s1.heap.objs.size a:=by rw[<-V];exact⟨_,ai _ rfl,rfl,rfl⟩
 clear V;obtain⟨_,lo,vs,rel,Y,es,T,S,E,hd,G⟩:=n_ Z.hok rd;have dat:s2.heap.DictAt (cG X.prog X.w) a vs T:=⟨Y,es,S,E,hd,G⟩;refine wpAny_pyIter_items J dat ?_;have N:L2.Inv X pins σ H1 {s2 with heap:=s2.heap.push {cls:=.type "dict_itemiterator", data:=.fields #[.none,.bool false,.ref a,.int 0 0,.int vs.length 0,.int T 0,.none,.none]} }:=Z.kept (t':=s2.toks) λb o e=>ae _ e
 have st:∃ok K,IsItemIter (s2.heap.push {cls:=.type "dict_itemiterator", data:=.fields #[.none,.bool false,.ref a,.int 0 0,.int vs.length 0,.int T 0,.none,.none]}) s2.heap.objs.size a 0 kvs.length T ok K:=⟨_,_,by rw[rel.length];exact ai _ rfl⟩;have fr:H1 s2.heap.objs.size=none:=Z.hok.fresh (aV _);rcases q with⟨W,q⟩|⟨o,W,q⟩
 .refine⟨s2.heap.objs.size,[s2.heap.objs.size],_,_,_,rfl,Kh N W (ae _ S),zG Y a _ kvs hd,st,λb hb=>?_,q Y (Cy Z W)⟩;have e:b=s2.heap.objs.size:=by simpa using hb
  subst e;refine Z.fpOk (aV _) ?_;rw[bA (λz=>by rw[z,W]at fr;cases fr)];exact fr
 .have eq:Y=o:=by
   have:=(Z.hok a _ W).1;rw[S]at this;exact cU.inj this
  subst eq;refine⟨s2.heap.objs.size,[s2.heap.objs.size],_,_,_,rfl,N,zG Y a _ kvs hd,st,λb hb=>?_,q⟩;have e:b=s2.heap.objs.size:=by simpa using hb
  subst e;exact Z.fpOk (aV _) fr
def itS(S:List (Str×Int)):List D:=S.map λq=>.tuple [.str q.1,.int q.2]
def QL(f:FE):FA:=λδ=>(f δ).bind λx=>match x with
 | .dict kvs=>(ssD kvs).bind λS=>some (itS S)
 |_=>none
theorem QM{o:Obj}(h:H1 a=some (.frz o (.dK (gU S)))):∀H2,Same H1 H2->∀i:Nat,(∀d,(itS S)[i]? = some d->(Iti o a (gU S)).go i H2/\∀x q,(Iti o a (gU S)).yld i H2 x q->Same H2 q/\RA K ok1 true q x d)/\((itS S).length<=i->(Iti o a (gU S)).stop i H2):=by
 intro H2 s2 i;refine⟨λd hd=>?_,λhi=>⟨s2 _ _ h,by unfold gU;simpa[itS]using hi⟩⟩;unfold itS at hd;rw[aP]at hd
 cases e:S[i]? with
 |none=>rw[e]at hd;cases hd
 |some p=>
  rw[e]at hd
  cases hd;have hi:i<S.length:=(bw.mp e).1;refine⟨⟨s2 _ _ h,by unfold gU;simpa using hi⟩,λx q Y=>?_⟩;obtain⟨c,k,v,Z,hn,rfl,rfl⟩:=Y;unfold gU at Z;rw[aP,e]at Z
  cases Z;exact⟨cP hn _,.tup bM (.cons (.str _) (.cons (.int _) .nil))⟩
section
variable{X:Cx}{fl fl':List Fl}{elt:Expr}{elts:List Expr}{fx:FE}{TT:List Nat}{g:FG}{x1:Nat}{iter:Expr}
def Vi{σ:L2.St}{Q:VK}{T:List Str}(U:∀i,i<T.length+ix.length->fl'[i]? = some .A)(O:∀j∈TT,j<T.length)(h:tD X.K fl .FC (lZ (QL fx) g ft f T.length ix) σ H Q):
 Et (af5 X (tD X.K fl .P fx)) (tDG X.K fl' TT g) (tDT X.K fl' ft) (tD X.K fl' .C f) T.length (rC T.length ix) σ H (xu X Q):=by
 refine D3.ex4 h λG ow δ d R D q=>?_
 refine D3.ex1 (bind1 D) λl p J=>?_
 by_cases L:l.length<=100000
 case neg=>rw[if_neg L]at J;cases J
 rw[if_pos L]at J;refine D3.ex1 (bind1 J) λr E s=>?_
 cases s;refine D3.ex1 (bind1 p) λx y M=>?_
 split at M
 case h_2=>cases M
 next kvs=>
 refine D3.ex1 (bind1 M) λS B M=>?_
 cases M;refine⟨G,ow,δ,_,R,y,λv H1 s1 r1=>?_⟩;have n:=R.grow s1;have W:=Cg (fl':=fl') T.length ix U n (Same.refl H1);obtain⟨a,rfl,Z⟩:=wJ B r1;refine⟨a,gU S,rfl,?_⟩;rcases Z with Z|⟨o,Z⟩
 .refine .inl ⟨Z,λo lo Dl hD=>?_⟩;have N:Dl≠a:=λz=>by rw[z,bM]at hD;cases hD
  have I:Tb (upd H1 a (.frz o (.dK (gU S)))):=λt F=>by rw[bA (dJ (W.tb t F) Z (by simp))];exact W.tb t F
  have m:Rel X.K fl' ⟨upd H1 a (.frz o (.dK (gU S))),upd H1 a (.frz o (.dK (gU S))),λ_=>none,λ_=>[],I,λ_=>none⟩ ow0 (rC T.length ix σ) (upd H1 a (.frz o (.dK (gU S)))) (jY T.length ix δ):=by
   refine⟨Same.refl _,Same.refl _,W.len,λi b h=>(by cases h),λi j b h=>(by cases h),λi h=>rfl,λi d h1 hn h2=>?_,W.oo,λi b h=>(by cases h),λi j b h=>(by cases h),λi j b h=>(by cases h),λi h=>rfl,λi d hn h1=>?_,λi u h e=>(by cases e)⟩
   .obtain⟨v,h3,h4⟩:=W.dat i d h1 hn h2;exact⟨v,h3,Iw Z h4⟩
   .have hi:i<T.length+ix.length:=by
     have h2:i<(jY T.length ix δ).length:=(bw.mp h1).1;unfold jY at h2;simpa using h2
    rw[U i hi]at hn
    cases hn
  refine vC (Q:=xu X Q) O m L E hD (QM bM) λH2 xs s2 Y rs=>Or.inr ⟨a,o,gU S,lo,s2 _ _ bM,?_⟩
  have sm:Same H (upd H2 a (.dK (gU S))):=λb u hb=>by
   by_cases z:b=a
   .subst z;have:=s1 _ _ hb;rw[Z]at this;rw[bM];exact this
   .rw[bA z];exact s2 b u (by rw[bA z];exact s1 b u hb)
  refine q _ _ sm (.inr ⟨Dl,xs,r,rfl,rfl,s1.free (by rw[bA N]at hD;exact hD),by rw[bA N];exact Y,?_⟩);refine(o9 (s2 _ _ bM) rs).imp (λb z=>⟨?_,z.2⟩) (λz=>z);have V:=z.1;unfold okN at V ⊢;have hb:b≠a:=λw=>by rw[w,bM]at V;cases V
  rw[bA hb]at V;exact s1.free V
 .refine .inr ⟨o,Z,λDl hD=>?_⟩;refine vC (Q:=xu X Q) O W L E hD (QM Z) λH2 xs s2 Y rs=>Or.inl (q _ _ (s1.trans s2) (.inr ⟨Dl,xs,r,rfl,rfl,s1.free hD,Y,rs.imp (λb z=>⟨s1.free z.1,z.2⟩) (λz=>z)⟩))
def Gn(hc:X.calm=true)(T Z:List Str)(ix:List Nat)(hi:DE X fl .P iter fx)
 (hg:∀cl C s3 H3 fp,DG (blk X (T++Z) scope cl C s3 H3 fp) fl' TT (.Tuple elts x1 tpos) g) (ht:∀cl C s3 H3 fp,PTs (blk X (T++Z) scope cl C s3 H3 fp) ifs (tDT X.K fl' ft)) (he:∀cl C s3 H3 fp,DE (blk X (T++Z) scope cl C s3 H3 fp) fl' .C elt f)
 (hfl:∀i,i<T.length+ix.length->fl'[i]? = some .A:=by decide) (htg:∀j∈TT,j<T.length:=by decide)
 (hB:yK X.N X.env.scope.names scope.names Z ix=true:=by rfl) (hk:scope.kind = .function:=by rfl) (U:∀y∈scope.names,y.2 ≠ .cell:=by decide +kernel)
 (q:∀x∈scope.names,x.2 = .local->scope.names.lookup x.1=some .local:=by decide +kernel)
 (hfr:∀x∈scope.names,x.2 = .free->x.1∈Z:=by decide +kernel) (Y:attributeBase iter "items" X.env (eval iter X.env)=eval iter X.env:=by rfl) (O:(apos.endLine==cpos.line)=true:=by rfl) (hs:∀x,foldedSetIterable (.Call (.Attribute iter "items" apos) [] [] cpos) X.env x=pure x:=by intro _;rfl) :
 DE X fl .FC (.ListComp elt [⟨.Tuple elts x1 tpos,.Call (.Attribute iter "items" apos) [] [] cpos,ifs,0⟩] scope pos) (lZ (QL fx) g ft f T.length ix):=by
 intro pins s σ H Q I h;have run:=BL (g:=tDG X.K fl' TT g) (tt:=tDT X.K fl' ft) (te:=tD X.K fl' .C f) (pos:=pos) hc T Z ix (QK hi Y O) hg ht he hB hk U q hfr hs pins s σ H (xu X Q) I (Vi hfl htg h);refine thn run λv s' ⟨x,H2,S,V,W⟩=>?_
 rcases W with W|⟨a,o,kvs,lo,ha,W⟩
 .exact⟨x,H2,S,V,W⟩
 .exact⟨x,_,Fy S lo ha,V,W⟩
end
end XI
variable{c:Str}
namespace XI
open L2 My D3 XK
structure DgM(K:PySem.W.Frag)(C:Addr)(m x:Str)(st:Stmt)(ps:List Str):Prop where
 ex:∃(f:Addr)(fd:d4),FunX K m x st f fd/\Binds K fd ps []/\Meth K C m f
def YW{f:Addr}{kV:Value}
 (hb:∀(kV doc pm:Value)(an:Option Addr)(cdv ct:Value)(us:List Value),us.length=ps.length->bindArgs (PySem.W.fnOf m x (kj st) (fu st) (aZ st) .none kV doc pm an cdv ct) ⟨us,[]⟩=pure (ps.zip us))
 (a:PySem.W.findIn K (.ref C) m=some (some (.ref f))) (l:K.lookup f=some ⟨oc,od,.func (PySem.W.fnOf m x (kj st) (fu st) (aZ st) .none kV dc pm an cd ct),sl⟩) (c:PySem.W.codeIn K cd x=true) (fn:PySem.W.isFn K (.ref f)=true) (k:PySem.W.keepIn K (.ref f)=true):DgM K C m x st ps:=
 ⟨f,_,⟨⟨oc,od,.none,kV,dc,pm,an,cd,ct,sl,rfl,l,c⟩⟩,.all (hb kV dc pm an cd ct),⟨a,fn,k⟩⟩
section
variable{k:Nat}{fs:FS}{fl:List Fl}{l:List Nat}
def Bp(Dd:DgM K C m x st ps)(cl:Cls K C)(S:FnScope N ps (aZ st))(U:∀i,i<ps.length->fl[i]? = some .A)(Y:ps.length<=N.length)
 (O:∀(f:Addr)(cdv:Value)(A:dy)(outer:List Env)(s:dk)(H:Hp)(E:XK),Room k (A.deeper (envOfC x (aZ st) s.heap.objs.size f cdv))->DSs (cx P w K mg base N x st f cdv A outer s H E) fl (fu st) fs) :
 HasM P w K mg base (k+1) C m ps (spD K (fnD ps.length (N.length-ps.length) fs)):=by
 obtain⟨f,fd,V,b,M⟩:=Dd.ex;refine⟨⟨f,fd,?_,b,M⟩,cl⟩;refine V.ok S (λvs H Q E h=>?_) (λcdv A outer s H vs Q E W h=>?_)
 .obtain⟨ds,d,r,Z,_⟩:=h;unfold fnD at Z;by_cases z:ds.length=ps.length
  .rw[r.2.length];exact z
  .rw[if_neg z]at Z;cases Z
 .obtain⟨ds,d,r,Z,q⟩:=h;refine⟨_,O f cdv A outer s H E W,?_⟩;unfold fnD at Z;by_cases z:ds.length=ps.length
  .rw[if_pos z]at Z;split at Z
   .next T e=>
    cases Z;exact⟨_,_,_,_,sJ ps.length U z Y r,e,λv H' s r=>q v H' s r⟩
   .next δ' e=>
    cases Z;exact⟨_,_,_,_,sJ ps.length U z Y r,e,λX σ' H' R'=>q .non H' R'.same0 .non⟩
   .cases Z
  .rw[if_neg z]at Z;cases Z
def YX(Y:DgM K C m x st ps)(cl:Cls K C)(S:FnScope N ps (aZ st))(O:∀i,i<ps.length->i∉l->fl[i]? = some .A)(hw:∀i∈l,fl[i]? = some .W)(U:ps.length<=N.length)
 (q:∀(f:Addr)(cdv:Value)(A:dy)(outer:List Env)(s:dk)(H:Hp)(E:XK),Room k (A.deeper (envOfC x (aZ st) s.heap.objs.size f cdv))->DWs (cx P w K mg base N x st f cdv A outer s H E) fl l (fu st) fs) :
 HasM P w K mg base (k+1) C m ps (spW K l (fnW ps.length (N.length-ps.length) l fs)):=by
 obtain⟨f,fd,Z,b,M⟩:=Y.ex;exact⟨⟨f,fd,Qu Z S O hw U q,b,M⟩,cl⟩
end
noncomputable def Gp:List (Str×FE)->DS->Option (List D)
 |[],_=>some []
 | (_,f)::r,δ=>(f δ).bind λd=>if iz d=true then(Gp r δ).bind λds=>some (d::ds)else none
def tI(K:PySem.W.Frag)(fl:List Fl)(C:Addr)(nf:List (Str×FE)):TS:=λDn σ H=>∃(H0:Hp)(x dx:Addr)(fs:List (Str×V))(ds:List D)(as:List Addr)(δ:DS)(rs:List D),Ini K H0 x dx C H fs ds as/\σ[0]? = some (some (.ref x))/\Tb H/\σ.length=δ.length /\
 (∀(i:Nat)(d:D),δ[i]? = some (some (U.d d))->fl[i]? = some Fl.A/\iz d=true/\∃v,σ[i]? = some (some v)/\RA K ok1 true H v d)/\(fs.map (·.1)++nf.map (·.1)).Nodup/\fs.length+nf.length<1000/\iz.noIns ds=true/\Gp nf δ=some rs /\
 ∀H' fs' Z,Ini K H0 x dx C H' fs' (ds++rs) Z->fs'.map (·.1)=fs.map (·.1)++nf.map (·.1)->Dn.nx σ H'
theorem Bq:∀{a b:List D},iz.noIns a=true->iz.noIns b=true->iz.noIns (a++b)=true
 |[],_,_,h=>h
 |x::a,b,h,h'=>by
  rw[iz.noIns,aO]at h;rw[dW,iz.noIns,h.1,Bq h.2 h'];rfl
section
variable{X:Cx}{fl:List Fl}{f s0:Str}{fe:FE}{nf:List (Str×FE)}
def YZ:PSs X [] (tI X.K fl C []):=PSs.imp uQ λDn σ H h=>by
 obtain⟨H0,x,dx,fs,ds,as,δ,rs,I,W,tb,gl,ga,Z,Y,nd,ge,q⟩:=h
 cases ge;rw[cZ]at q;exact q H fs as I (by simp)
def yr(h:DE X fl .T e fe)(hr:PSs X sts (tI X.K fl C nf))(hN:X.N[0]? = some s0)(c:Cls X.K C)(na:jK X.K C f)
 (hv:Vis X.env.scope s0:=by first|exact Or.inl rfl|exact Or.inr (Or.inl rfl)|exact Or.inr (Or.inr rfl)) (hd:(s0==("__debug__":Str))=false:=by decide) (O:(s0==("__classdict__":Str))=false:=by decide)
 (hs:swapsWith e (some (.Attribute (.Name s0 vpos) f p2)) pos.line X.env=pure false:=by rfl):PSs X (.Assign [.Attribute (.Name s0 vpos) f p2] e pos::sts) (tI X.K fl C ((f,fe)::nf)):=
 PSs.imp (lY (Vg h hN c na hv hd O hs) hr) λDn σ H h=>by
 obtain⟨H0,x,dx,fs,ds,as,δ,rs,I,P,tb,gl,ga,V,L,nd,ge,q⟩:=h;refine D3.ex1 (bind1 ge) λd F Z=>?_
 by_cases z:iz d=true
 case neg=>rw[if_neg z]at Z;cases Z
 rw[if_pos z]at Z;refine D3.ex1 (bind1 Z) λW G J=>?_
 cases J;rw[aN]at V;have fn:f∉fs.map (·.1):=λy=>(dB.mp V).2.2 f y f aJ rfl
 rw[aX]at L;refine⟨H0,x,dx,fs,ds,as,δ,d,I,P,tb,gl,λi d h=>⟨(ga i d h).1,(ga i d h).2.2⟩,fn,by lia,nd,z,F,λH' fs' Q E en k Y=>?_⟩;have fl':fs'.length=fs.length+1:=by
  have:=congrArg nQ en;simpa using this
 refine⟨H0,x,dx,fs',ds++[d],Q,δ,W,E,P,Y,gl,λi d h=>?_,by rw[en,j9];exact V,by lia,Bq nd (by rw[iz.noIns,z];rfl),G,λH2 U R M S=>?_⟩
 .obtain⟨h1,h2,v,h3,h4⟩:=ga i d h;exact⟨h1,h2,v,h3,k v d h4 h2⟩
 .refine q H2 U R ?_ ?_
  .rw[j9]at M;exact M
  .rw[S,en,j9];rfl
end
def spI(K:PySem.W.Frag)(C:Addr)(ns:List Str)(F:List D->Option (List D)):Sp:=λvs H Q _=>∃(x dx:Addr)(us:List V)(ds rs:List D),vs = .ref x::us/\H x=some (.ins C dx [])/\H dx=some (.own x)/\Tb H/\RAs K ok1 true H us ds/\iz.noIns ds=true/\F ds=some rs /\
 ∀H' fs as,Ini K H x dx C H' fs rs as->fs.map (·.1)=ns->Q .non H'
structure HasI(P:dt)(w:dE)(K:PySem.W.Frag)(mg:Str->Option Value)(base:ec)(n:Nat)(c:Str)(C:Addr)(ps:List Str)(sp:Sp):Prop where
 ex:∃(f:Addr)(fd:d4),FnOk P w K mg base CX0 n f fd ps sp/\Binds K fd ps []/\Mk K C f
 mg:mg c=some (.ref C)
structure DgI(K:PySem.W.Frag)(mg:Str->Option Value)(c:Str)(C:Addr)(x:Str)(st:Stmt)(ps:List Str):Prop where
 ex:∃(f:Addr)(fd:d4),FunX K "__init__" x st f fd/\Binds K fd ps []/\Mk K C f
 mg:mg c=some (.ref C)
def fnI(p q:Nat)(nf:List (Str×FE)):List D->Option (List D):=λds=>if ds.length=p then Gp nf (none::(ds.map (λd=>some (.d d))++bK q none))else none
theorem QS:∀{ds:List D}{i:Nat}{d:D},iz.noIns ds=true->ds[i]? = some d->iz d=true
 |[],_,_,_,h=>by simp at h
 |x::r,0,d,h,e=>by
  cases e;rw[iz.noIns,aO]at h;exact h.1
 |x::r,i+1,d,h,e=>by
  rw[iz.noIns,aO]at h;exact QS h.2 (by simpa using e)
def Y0{U:Str}{k:Nat}{nf:List (Str×FE)}(Dd:DgI K mg c C x st (U::ps))(S:FnScope N (U::ps) (aZ st))(hp:∀i,i<ps.length->fl[i+1]? = some .A)(hN:ps.length+1<=N.length)(hn:(nf.map (·.1)).Nodup)(hl:nf.length<1000)
 (O:∀(f:Addr)(cdv:Value)(A:dy)(outer:List Env)(s:dk)(H:Hp)(E:XK),Room k (A.deeper (envOfC x (aZ st) s.heap.objs.size f cdv))->PSs (cx P w K mg base N x st f cdv A outer s H E) (fu st) (tI K fl C nf)) :
 HasI P w K mg base (k+1) c C (U::ps) (spI K C (nf.map (·.1)) (fnI ps.length (N.length-(ps.length+1)) nf)):=by
 obtain⟨⟨f,fd,R,b,M⟩,hm⟩:=Dd;refine⟨⟨f,fd,?_,b,M⟩,hm⟩;refine R.ok S (λvs H Q E h=>?_) (λcdv A outer s H vs Q E W h=>?_)
 .obtain⟨y,dx,us,ds,rs,rfl,_,_,_,r,_,Z,_⟩:=h;unfold fnI at Z;by_cases z:ds.length=ps.length
  .rw[aX,aX,r.length,z]
  .rw[if_neg z]at Z;cases Z
 .obtain⟨y,dx,us,ds,rs,rfl,h1,h2,tb,r,X,Z,q⟩:=h;refine⟨_,O f cdv A outer s H E W,?_⟩;unfold fnI at Z;by_cases z:ds.length=ps.length
  case neg=>rw[if_neg z]at Z;cases Z
  rw[if_pos z]at Z;have Y:us.length=ps.length:=by rw[r.length];exact z
  refine⟨H,y,dx,[],[],[],_,rs,⟨h1,h2,.nil,.nil,λa ha=>(by cases ha),λb o hb=>?_,by rw[h1];simp⟩,?_,tb,?_,λi d h=>?_,by simpa using hn,by simpa using hl,rfl,Z,λH' fs as I en=>q H' fs as I (by simpa using en)⟩
  .by_cases e:b=y
   .rw[vD (p:=(· = y)) e]at hb;cases hb
   .rw[iH (p:=(· = y)) e]at hb;exact hb
  .unfold L2.start;rfl
  .unfold L2.start;simp only[bB,aG,bL,aX,Y,z];lia
  .cases i with
   |zero=>simp at h
   |succ i=>
    rw[oR]at h;by_cases hi:i<ps.length
    .rw[bY (by rw[aG,z];exact hi),aP]at h
     cases e:ds[i]? with
     |none=>rw[e]at h;cases h
     |some L=>
      rw[e]at h
      cases h;obtain⟨v,T,V⟩:=r.get e;refine⟨hp i hi,QS X e,v,?_,V⟩;unfold L2.start;rw[bY (by rw[aG,aX,Y];lia),aP,oR,T];rfl
    .rw[cA (by rw[aG,z];lia),cX]at h;split at h<;>cases h
def QT(C:Addr)(ns:List Str)(F:List D->Option (List D))(fa:FA):FE:=λδ=>(fa δ).bind λds=>if iz.noIns ds=true then(F ds).bind λrs=>some (.dict (uc C ns rs))else none
def Vj{ns:List Str}{es:List Expr}{F:List D->Option (List D)}(h:HasI X.prog X.w X.K X.mg X.base n c C ps (spI X.K C ns F))(hr:Room (n+1) X.A)(ha:DB X fl .P (e::es) fa)(hg:Gl X c:=by rfl)(U:(c==("__debug__":Str))=false:=by decide)
 (he:starEach (e::es) X.env=(false,eval e X.env)::starEach es X.env:=by exact dY rfl) (O:(backTo pos (starEach es X.env)).any (·.1)=false:=by exact qH rfl) :
 DE X fl .T (.Call (.Name c p) (e::es) [] pos) (QT C ns F fa):=by
 obtain⟨⟨f,fd,L,b,M⟩,hm⟩:=h;refine PE.imp (Tg (E:=E0) M L hr hg hm b .nil Er ha U he O) λσ H Q W=>?_
 refine D3.ex4 W λG ow δ d R Z q=>?_
 refine D3.ex1 (bind1 Z) λds S Z=>?_
 by_cases z:iz.noIns ds=true
 case neg=>rw[if_neg z]at Z;cases Z
 rw[if_pos z]at Z;refine D3.ex1 (bind1 Z) λrs V Z=>?_
 cases Z;refine⟨G,ow,δ,ds,R,S,λvs H1 s1 r x dx hx Y ne=>?_⟩;have s2:Same H1 (upd (upd H1 dx (.own x)) x (.ins C dx [])):=(cP Y _).trans (cP (by rw[bA (dv ne)];exact hx) _);have s:=s1.trans s2;refine⟨x,dx,vs++[],ds,rs,rfl,bM,by rw[bA ne,bM],(R.grow s).tb,?_,z,V,λH' fs as I en=>⟨rfl,?_⟩⟩
 .rw[cZ];exact(show RAs X.K ok1 true H1 vs ds from r).same s2
 .have fr:∀b,upd (upd H1 dx (.own x)) x (.ins C dx []) b=none->H b=none:=λb hb=>s.free hb
  have sm:Same H H':=λb o hb=>by
   have N:b≠x:=λe=>by rw[e]at hb;have:=s1 _ _ hb;rw[hx]at this;cases this
   exact I.sm b o (by rw[iH (p:=(· = x)) N];exact s b o hb)
  refine q _ H' sm ⟨as,.ins I.hx I.hd I.rt (by rw[en]),I.nd,λa ha=>fr a (I.fr a ha)⟩
end XI
namespace XI
open L2 My D3 XK XC
def Gq(l:List Nat)(f:FE):FX:=λδ=>(f δ).bind λ_=>(jr l δ).bind λr=>some (.o (.ex "" "" (.tuple (.none::r))))
def qm(l:List Nat)(c:Str)(f:FE):FX:=λδ=>(f δ).bind λd=>(jr l δ).bind λr=>some (.ex c (.tuple (d::r)))
def KD(K:PySem.W.Frag)(mg:Str->Option Value)(fl:List Fl)(l:List Nat)(G:Gh)(Dn:Ends)(E:XK):Or->Prop
 | .o (.ex _ _ (.tuple (_::ps)))=>∀v H' T',EndP K l G H' T' ps->Dn.rt v H'
 | .o (.nx δ')=>Aa K fl G Dn (.nx δ')
 | .ex c (.tuple (d::ps))=>∀(C:Addr)(v:V)(u:Value)(H':Hp) T',mg c=some (.ref C)->EndP K l G H' T' ps->RA K ok1 true H' v d->RelV v u->E u (some C) H'
 |_=>False
theorem KD.nx{l:List Nat}{E:XK}{t:D3.St->Hp->Prop}{o:Or}(q:KD K mg fl l G Dn E o)(hn:∀δ,o ≠ .o (.nx δ)):KD K mg fl l G {Dn with nx:=t} E o:=by
 cases o with
 |ex c d=>
  cases d with
  |tuple xs=>cases xs<;>exact q
  |_=>exact q
 |o x=>
  cases x with
  |nx δ=>exact absurd rfl (hn δ)
  |ex c f d=>
   cases d with
   |tuple xs=>cases xs<;>exact q
   |_=>exact q
  |_=>exact q
noncomputable def af6(K:PySem.W.Frag)(mg:Str->Option Value)(fl:List Fl)(l:List Nat)(E:XK)(f:FX):TS:=λDn σ H=>∃G ow δ o,Rel K fl G ow σ H δ/\f δ=some o/\KD K mg fl l G Dn E o
abbrev Gr(X:Cx)(E:XK)(fl:List Fl)(l:List Nat)(s:Stmt)(f:FX):Prop:=PS X s (af6 X.K X.mg fl l E f)
abbrev Jf(X:Cx)(E:XK)(fl:List Fl)(l:List Nat)(s:List Stmt)(f:FX):Prop:=PSs X s (af6 X.K X.mg fl l E f)
def GoN(f:FS):Prop:=∀δ o,f δ=some o->∃δ',o = .nx δ'
section
variable{X:Cx}{E:XK}{fl:List Fl}{l:List Nat}{c:Expr}{fs:FS}{f g:FX}{fe:FE}
def zH(h:DS1 X.nox fl st fs)(O:GoN fs):Gr X E fl l st (xOf fs):=PS.imp (PS.nox h) λDn σ H h=>by
 refine D3.ex4 h λG ow δ o R W q=>?_
 refine D3.ex1 (bind1 W) λY Z V=>?_
 cases V;obtain⟨δ',rfl⟩:=O δ Y Z;exact⟨G,ow,δ,_,R,Z,q⟩
theorem gY(h1:Gr X E fl l st f)(h2:Jf X E fl l sts g):Jf X E fl l (st::sts) (vg f g):=PSs.imp (lY h1 h2) λDn σ H h=>by
 refine D3.ex4 h λG ow δ o R V q=>?_
 refine D3.ex1 (bind1 V) λZ U W=>?_
 refine⟨G,ow,δ,Z,R,U,?_⟩
 cases Z with
 |ex c d=>cases W;exact q.nx λ_ z=>by cases z
 |o Z=>
  cases Z with
  |nx δ'=>exact λY σ' H' R'=>⟨G,Y,δ',o,R',W,q⟩
  |_=>cases W;exact q.nx λ_ z=>by cases z
def jP(h1:Gr X E fl l st f):Jf X E fl l [st] f:=PSs.imp (sy h1) λ_ _ _ h=>h
def rP:Jf X E fl l [] (xOf fO):=PSs.imp uQ λDn σ H h=>by
 refine D3.ex4 h λG ow δ o R Z q=>?_
 cases Z;exact q ow σ H R
theorem zJ(O:DT X.nox fl c ft)(h1:Jf X E fl l body f)(h2:Jf X E fl l orelse g):Gr X E fl l (.If c body orelse pos) (xIf ft f g):=PS.imp (Am (PT.nox O) h1 h2) λDn σ H h=>by
 refine D3.ex4 h λG ow δ o R Y q=>?_
 refine D3.ex1 (bind1 Y) λt W Z=>?_
 refine⟨G,ow,δ,t,R,W,λH' s=>?_⟩
 cases t with
 |true=>exact v9 ⟨G,ow,δ,o,R.grow s,Z,q⟩
 |false=>exact v8 ⟨G,ow,δ,o,R.grow s,Z,q⟩
def Di(O:∀i∈l,fl[i]? = some .W)(h:DE X.nox fl .P e fe):Gr X E fl l (.Return (some e) pos) (Gq l fe):=PS.imp (rm (PE.nox h)) λDn σ H h=>by
 refine D3.ex4 h λG ow δ o R Y q=>?_
 refine D3.ex1 (bind1 Y) λd U Z=>?_
 refine D3.ex1 (bind1 Z) λr V Z=>?_
 cases Z;exact⟨G,ow,δ,d,R,U,λv H' s T=>q v H' ow.n (mV (R.grow s) O V)⟩
end
section
variable{fa:Addr}{outer:List Env}{s₀:dk}{H₀:Hp}{E:XK}
variable{fl:List Fl}{l:List Nat}{f:Str}{fe:FE}{k:Nat}
def pC(O:ExcF K mg fld cn f)(hr:Room (k+2) (A.deeper (envOfC qual scope s₀.heap.objs.size fa cdv)))(hw:∀i∈l,fl[i]? = some .W)
 (ha:DE (nq (CXE P w fld) P w K mg base N qual scope fa cdv A outer s₀ H₀ E).nox fl .P arg fe) (hg:Gl (nq (CXE P w fld) P w K mg base N qual scope fa cdv A outer s₀ H₀ E) cn:=by rfl) (Y:(cn==("__debug__":Str))=false:=by decide)
 (he:starEach [arg] (nq (CXE P w fld) P w K mg base N qual scope fa cdv A outer s₀ H₀ E).env=(false,eval arg (nq (CXE P w fld) P w K mg base N qual scope fa cdv A outer s₀ H₀ E).env)::starEach [] (nq (CXE P w fld) P w K mg base N qual scope fa cdv A outer s₀ H₀ E).env:=by exact dY rfl)
 (U:(backTo pos (starEach [] (nq (CXE P w fld) P w K mg base N qual scope fa cdv A outer s₀ H₀ E).env)).any (·.1)=false:=by exact qH rfl) :
 Gr (nq (CXE P w fld) P w K mg base N qual scope fa cdv A outer s₀ H₀ E) E fl l (.Raise (some (.Call (.Name cn p) [arg] [] pos)) none rpos) (qm l cn fe):=by
 intro pins s σ H Dn J h;obtain⟨C,I0,O,hC⟩:=O.ex;refine D3.ex4 h λG ow δ o R V q=>?_
 refine D3.ex1 (bind1 V) λd Q Z=>?_
 refine D3.ex1 (bind1 Z) λr S Z=>?_
 cases Z;refine O_ (R:=λv H1=>Same H H1/\RA K ok1 true H1 v d) O hr hg Y (PE.nox ha) J ⟨G,ow,δ,d,R,Q,λv H' s r=>⟨s,r⟩⟩ (λv H1 a dx u s' r X I Fl L M=>?_) he U;rw[<-hC]at Fl;exact WW I Fl L M (λT z=>by cases z) (q C v u H1 ow.n O.mgC (mV (R.grow r.1) hw S) r.2 X)
end
def ux(K:PySem.W.Frag)(mg:Str->Option Value)(l:List Nat)(F:List D->Option Or):Sp:=λvs H Q E=>∃(ds:List D)(T:Nat->List Addr)(o:Or),PreW K l H vs ds T/\F ds=some o/\match o with
 | .o (.ex _ _ (.tuple (_::ps)))=>∀v H' T',PostW K l H T vs H' T' ps->Q v H'
 | .ex c (.tuple (d::ps))=>∀(C:Addr)(v:V)(u:Value)(H':Hp) T',mg c=some (.ref C)->PostW K l H T vs H' T' ps->RA K ok1 true H' v d->RelV v u->E u (some C) H'
 |_=>False
def QV(l:List Nat):Option Or->Option Or
 |some (.o (.nx δ))=>(jr l δ).bind λr=>some (.o (.ex "" "" (.tuple (.none::r))))
 |o=>o
def Dj(p q:Nat)(l:List Nat)(b:FX):List D->Option Or:=λds=>if ds.length=p then QV l (b (ds.map (λd=>some (.d d))++bK q none))else none
structure HasMX(P:dt)(w:dE)(K:PySem.W.Frag)(mg:Str->Option Value)(base:ec)(fld:Addr->Str)(n:Nat)(C:Addr)(m:Str)(ps:List Str)(sp:Sp):Prop where
 ex:∃(f:Addr)(fd:d4),FnOk P w K mg base (CXE P w fld) n f fd ps sp/\Binds K fd ps []/\Meth K C m f
 cl:Cls K C
def vJ{k:Nat}{f:FX}{l:List Nat}(Dd:DgM K C m x st ps)(cl:Cls K C)(S:FnScope N ps (aZ st))(hp:∀i,i<ps.length->i∉l->fl[i]? = some .A)(hw:∀i∈l,fl[i]? = some .W)(hN:ps.length<=N.length)
 (O:∀(fa:Addr)(cdv:Value)(A:dy)(outer:List Env)(s:dk)(H:Hp)(E:XK),Room k (A.deeper (envOfC x (aZ st) s.heap.objs.size fa cdv))->Jf (nq (CXE P w fld) P w K mg base N x (aZ st) fa cdv A outer s H E) E fl l (fu st) f) :
 HasMX P w K mg base fld (k+1) C m ps (ux K mg l (Dj ps.length (N.length-ps.length) l f)):=by
 obtain⟨fa,fd,G,b,M⟩:=Dd.ex;refine⟨⟨fa,fd,?_,b,M⟩,cl⟩;obtain⟨oc,od,dV,kV,doc,pm,an,cdv,ct,osl,rfl,lk,X⟩:=G.ex;refine NZ lk X S (λvs H Q E h=>?_) λA outer s H vs Q E L h=>?_
 .obtain⟨ds,T,o,r,Z,_⟩:=h;unfold Dj at Z;by_cases z:ds.length=ps.length
  .rw[r.ln];exact z
  .rw[if_neg z]at Z;cases Z
 .obtain⟨ds,T,o,r,Z,q⟩:=h;refine⟨_,O fa cdv A outer s H E L,?_⟩;unfold Dj at Z;by_cases z:ds.length=ps.length
  case neg=>rw[if_neg z]at Z;cases Z
  rw[if_pos z]at Z;have R:=uq (K:=K) (N:=N) ps.length hp hw z hN r;generalize V:f (ds.map (λd=>some (U.d d))++bK (N.length-ps.length) none)=D at Z;unfold QV at Z;split at Z
  .next δ'=>
   refine D3.ex1 (bind1 Z) λF I J=>?_
   cases J;exact⟨_,_,_,_,R,V,λY σ' H' R'=>q .non H' Y.n (post_of r (mV R' hw I))⟩
  .subst Z;refine⟨_,_,_,_,R,V,?_⟩
   cases o with
   |ex c d=>
    cases d with
    |tuple xs=>
     cases xs with
     |nil=>exact q
     |cons d ps=>exact λC v u H' T' m e=>q C v u H' T' m (post_of r e)
    |_=>exact q
   |o x=>
    cases x with
    |ex c f d=>
     cases d with
     |tuple xs=>
      cases xs with
      |nil=>exact q
      |cons d ps=>exact λv H' T' e=>q v H' T' (post_of r e)
     |_=>exact q
    |nx _=>exact q.elim
    |_=>exact q
inductive OrW where
 |nx (δ:DS)
 |ex (c:Str) (d:D) (δ:DS)
abbrev FXW:=DS->Option OrW
def tXW(K:PySem.W.Frag)(mg:Str->Option Value)(fl:List Fl)(f:FXW):Ends->XK->L2.St->Hp->Prop:=λDn EX σ H=>∃G ow δ o,Rel K fl G ow σ H δ/\f δ=some o/\match o with
 | .nx δ'=>∀Z σ' H',Rel K fl G Z σ' H' δ'->Dn.nx σ' H'
 | .ex c d δ'=>∀(C:Addr)(v:V)(u:Value)(H':Hp) Z,mg c=some (.ref C)->Rel K fl G Z σ H' δ'->RA K ok1 true H' v d->RelV v u->EX u (some C) H'
abbrev DXW(X:Cx)(fld:Addr->Str)(fl:List Fl)(st:Stmt)(f:FXW):Prop:=PSE fld X st (tXW X.K X.mg fl f)
section
variable{X:Cx}{σ:L2.St}{H:Hp}{k:Nat}{f:Addr}{sp:Sp}{EX:XK}
variable{o:Expr}{es:List Expr}{to:TE}{ta:TA}
def Gs(F:FnOk X.prog X.w X.K X.mg X.base (CXE X.prog X.w fld) k f fd ps sp)(hr:Room k X.A)(c:Cls X.K C)(M:Meth X.K C m f)(hb:Binds X.K fd ps [])(he:PE X.nox o to)(ha:PA X.nox (e::es) ta)
 (O:starEach (e::es) X.env=(false,eval e X.env)::starEach es X.env:=by rfl) (U:(backTo pos (starEach es X.env)).any (·.1)=false:=by rfl)
 (ht:eval (.Call (.Attribute o m apos) (e::es) [] pos) X.env=(do
  let ov <-eval o X.env
  standAt apos.atName
  let(f,fi) <-holding [ov] (getMethod ov m pl)
  callWith pos f fi (backTo pos (starEach (e::es) X.env)) (backToKw pos (keywordEach [] X.env))):=by rfl)
 (hs:swapsWith (.Call (.Attribute o m apos) (e::es) [] pos) none pos2.line X.env=pure false:=by rfl) :
 PSE fld X (.Expr (.Call (.Attribute o m apos) (e::es) [] pos) pos2) (λD EX σ H=>to σ H λx H1=>∃a dx fs,x = .ref a/\H1 a=some (.ins C dx fs)/\fs.lookup m=none/\ta σ H1 λvs H2=>sp (x::vs) H2 (λ_ H3=>D.nx σ H3) EX):=by
 intro pins s σ H D EX J h;refine wpAny_Expr_any ?_ J.quiet hs;refine PySem.W.methodCall_KW (pl:=pl) (ar (he pins s σ H _ (J.wish _) h) (λu s1 q=>?_) λ_ _ z=>z.elim) ht;obtain⟨x,H1,Y,V,a,dx,fs,ex,ea,l,q⟩:=q;have Y:Inv X pins σ H1 s1:=Y.wish _;subst ex;obtain rfl:u=dr a:=V;refine tZ Y ea c M l ?_;refine PySem.W.callWith_K (first:=[.ref a]) (h₀:=X.base) J.ok.mod.kin M.kp (ar (ha pos pins s1 σ H1 _ (Y.wish _) q) (λus s2 q2=>?_) λ_ _ z=>z.elim) O U;obtain⟨vs,H2,Z,r,q2⟩:=q2;have Z:Inv X pins σ H2 s2:=Z.wish _;refine⟨Z.kIn,ar (Ur (us:=.ref a::us) (vs:=.ref a::vs) (dvs:=[]) (ds:=[]) F hr hb .nil Z (.cons rfl r) (by rw[cZ];exact q2)) (λu S w=>?_) λ_ _ z=>z⟩;obtain⟨v,H3,T,R,q3⟩:=w;exact⟨σ,H3,T,q3⟩
end
def iI(F:List D->Option Or)(C:Addr)(ns:List Str)(i:Nat)(fa:FA)(sw:List Nat):FXW:=λδ=>(aA i δ).bind λd=>(isC C ns d).bind λ_=>(fa δ).bind λds=>match F (d::ds)with
 |some (.o (.ex _ _ (.tuple (_::ps))))=>if ps.length=sw.length then some (.nx (wH sw ps δ))else none
 |some (.ex c (.tuple (x::ps)))=>if ps.length=sw.length then some (.ex c x (wH sw ps δ))else none
 |_=>none
section
variable{X:Cx}{fl:List Fl}{i:Nat}{ns:List Str}{F:List D->Option Or}{es:List Expr}{fa:FA}{f:FXW}{np:Pos}{fS:Str->D->FS}{sl:List (Option Nat)}{l:List Nat}
def vK(h:HasMX X.prog X.w X.K X.mg X.base fld n C m ps (ux X.K X.mg l F))(hr:Room n X.A)(hi:isN fl[j]? = true)(hN:X.N[j]? = some x)(hm:m∉ns)(ha:DWA X fl sl (e::es) fa)(W:SlW fl (some j::sl) l sw)(hx:X=X.nox:=by rfl)(hv:Vis X.env.scope x:=by first|exact Or.inl rfl|exact Or.inr (Or.inl rfl)|exact Or.inr (Or.inr rfl))(hd:(x==("__debug__":Str))=false:=by decide)(U:(x==("__classdict__":Str))=false:=by decide)
 (he:starEach (e::es) X.env=(false,eval e X.env)::starEach es X.env:=by exact dY rfl) (O:(backTo pos (starEach es X.env)).any (·.1)=false:=by exact qH rfl)
 (ht:eval (.Call (.Attribute (.Name x p) m apos) (e::es) [] pos) X.env=(do
  let ov <-eval (.Name x p) X.env
  standAt apos.atName
  let(f,fi) <-holding [ov] (getMethod ov m pl)
  callWith pos f fi (backTo pos (starEach (e::es) X.env)) (backToKw pos (keywordEach [] X.env))):=by rfl)
 (hs:swapsWith (.Call (.Attribute (.Name x p) m apos) (e::es) [] pos) none pos2.line X.env=pure false:=by rfl) :
 DXW X fld fl (.Expr (.Call (.Attribute (.Name x p) m apos) (e::es) [] pos) pos2) (iI F C ns j fa sw):=by
 intro pins s σ H Dn EX J y;refine D3.ex4 y λG ow δ o R Z q=>?_
 refine D3.ex1 (bind1 Z) λd k Z=>?_
 refine D3.ex1 (bind1 Z) λxs r Z=>?_
 refine D3.ex1 (bind1 Z) λds t Z=>?_
 obtain⟨g,fd,c,b,M⟩:=h.ex;have P:=jk k;obtain⟨v,k1,k2,k3⟩:=R.nr j d hi P;obtain⟨a,dx,fs,rfl,B,m2,D,_⟩:=wI k2 r;have S:DWA X.nox fl sl (e::es) fa:=by rw[<-hx];exact ha
 refine Gs (X:=X) c hr h.cl M b (iT (X:=X.nox) hN hv hd U) S he O ht hs pins s σ H Dn EX J ⟨_,k1,a,dx,fs,rfl,B,mY (by rw[D];exact hm),G,ow,δ,ds,R,t,λvs H' sm I=>?_⟩;obtain⟨T,pre,g⟩:=sX W R sm (.nm k1 P I);split at Z
 .next i f0 r0 Y Q=>
  by_cases z:Y.length=sw.length
  case neg=>rw[if_neg z]at Z;cases Z
  rw[if_pos z]at Z
  cases Z;exact⟨d::ds,T,_,pre,Q,λv H2 T' po=>by
   obtain⟨V,R'⟩:=g H2 T' Y po z;exact q V σ H2 R'⟩
 .next i x0 Y Q=>
  by_cases z:Y.length=sw.length
  case neg=>rw[if_neg z]at Z;cases Z
  rw[if_pos z]at Z
  cases Z;exact⟨d::ds,T,_,pre,Q,λC' v u H2 T' E po rd L=>by
   obtain⟨V,R'⟩:=g H2 T' Y po z;exact q C' v u H2 V E R' rd L⟩
 .cases Z
end
end XI
namespace XI
open L2 My D3 XK
def tH:D->D->Option D:=λx y=>match x,y with
 | .str i,.str j=>some (.bool (!decide (j.cps.toList<i.cps.toList)))
 |_,_=>none
def af7:R2:=λx y H Q=>∃i j,x = .str i/\y = .str j/\Q (.bl (!decide (j.cps.toList<i.cps.toList))) H
def QW:OpR X (compareOp .LtE) af7:=by
 intro pins s σ H x y v u Q I Y Z h;obtain⟨i,j,rfl,rfl,q⟩:=h;obtain⟨t,rfl⟩:=Y;obtain⟨W,rfl⟩:=Z;exact PySem.P.le_str (XR I q rfl)
def W5:BrO K af7 tH:=by
 intro H x y dx X d Q Y Z e q;unfold tH at e;split at e
 .cases e;obtain rfl:=RA.strE Y;obtain rfl:=RA.strE Z;exact⟨_,_,rfl,rfl,q _ rfl (.bl _)⟩
 .cases e
end XI
namespace XI
open L2 My D3 XK
noncomputable def slB(fl:List Fl)(sl:List (Option Nat))(l sw:List Nat):Bool:=
 ((b_ sl.length).all λi=>match sl[i]? with|some (some _)=>decide (i∈l)|_=>true) &&
 ((b_ sl.length).all λi=>(b_ sl.length).all λj=>match sl[i]?,sl[j]? with|some (some s),some (some t)=>decide (s≠t)||decide (i=j)|_,_=>true) &&
 decide (sw.length=l.length)&&((b_ l.length).all λk=>match l[k]?,sw[k]? with|some i,some s=>decide (sl[i]? = some (some s))|_,_=>true)&&decide sw.Nodup&&(sw.all λs=>decide (fl[s]? = some .N)||decide (fl[s]? = some .W))
def mH{sl:List (Option Nat)}{l:List Nat}(h:slB fl sl l sw=true):SlW fl sl l sw:=by
 unfold slB at h;simp only[aO,fG,dD,decide_eq_true_eq]at h;obtain⟨⟨⟨⟨⟨h1,h2⟩,h3⟩,h4⟩,h5⟩,h6⟩:=h;have lt:∀{α:Type}{l:List α}{i:Nat}{x:α},l[i]? = some x->i<l.length:=λe=>(bw.mp e).1
 refine⟨λi s e=>?_,λi j s e Z=>?_,h3,λk i s e Z=>?_,h5,λs Y=>?_⟩
 .have:=h1 i (lt e);rw[e]at this;exact of_decide_eq_true this
 .have:=h2 i (lt e) j (lt Z);rw[e,Z]at this;simpa using this
 .have:=h4 k (lt e);rw[e,Z]at this;exact of_decide_eq_true this
 .have:=h6 s Y;simpa using this
def gow{f:FS}(h:GoN f):GoW f:=λδ o e=>by
 obtain⟨δ',rfl⟩:=h δ o e;exact⟨λd z=>(by cases z),λc x d z=>(by cases z)⟩
section
variable{i k:Nat}{g:FE}{fw:FW}{fs gs:FS}{ns:List Str}
def jA:GoN (bJ i f):=λδ o e=>by
 unfold bJ at e;split at e
 .refine D3.ex1 (bind1 e) λd _ e=>?_
  cases e;exact⟨_,rfl⟩
 .cases e
def Gv:GoN (qj fw):=λδ o e=>by
 refine D3.ex1 (bind1 e) λd _ e=>?_
 cases e;exact⟨_,rfl⟩
def QX:GoN fO:=λδ o e=>by cases e;exact⟨_,rfl⟩
def Dk:GoN (Bo C ns k i fk f):=λδ o e=>by
 refine D3.ex1 (bind1 e) λ_ _ e=>?_
 refine D3.ex1 (bind1 e) λ_ _ e=>?_
 refine D3.ex1 (bind1 e) λ_ _ e=>?_
 refine D3.ex1 (bind1 e) λ_ _ e=>?_
 split at e
 .refine D3.ex1 (bind1 e) λ_ _ e=>?_
  split at e
  .cases e;exact⟨_,rfl⟩
  .cases e
 .cases e
def Vk:GoN (Kq C ns k i f):=λδ o e=>by
 refine D3.ex1 (bind1 e) λ_ _ e=>?_
 refine D3.ex1 (bind1 e) λ_ _ e=>?_
 refine D3.ex1 (bind1 e) λ_ _ e=>?_
 split at e
 .split at e
  .cases e;exact⟨_,rfl⟩
  .cases e
 .cases e
theorem W6(h1:GoN fs)(h2:GoN gs):GoN (sIf ft fs gs):=λδ o e=>by
 refine D3.ex1 (bind1 e) λt _ e=>?_
 cases t with
 |true=>exact h1 δ o (by simpa using e)
 |false=>exact h2 δ o (by simpa using e)
theorem KH{tg:FG}(h:GoN fs):∀(l:List D)(δ:DS)(o:Oc),oW tg fs l δ=some o->∃δ',o = .nx δ'
 |[],δ,o,e=>by cases e;exact⟨_,rfl⟩
 |d::r,δ,o,e=>by
  rw[oW]at e;refine D3.ex1 (bind1 e) λY _ e=>?_
  refine D3.ex1 (bind1 e) λX W e=>?_
  obtain⟨Z,rfl⟩:=h Y X W;exact KH h r Z o e
def Y4{fi:FA}{tg:FG}(h:GoN fs):GoN (yN fi tg fs):=λδ o e=>by
 refine D3.ex1 (bind1 e) λl _ e=>?_
 exact KH h l δ o e
end
def Dm:D->Option D
 | .list l=>if flats l=true then some (.list l)else none
 |_=>none
def QZ{a:Expr}(h:DE X fl .P a f)(hg:Gl X "list")(hm:X.mg "list"=none)
 (U:starEach [a] X.env=(false,eval a X.env)::starEach [] X.env:=by rfl) (O:(backTo pos (starEach [] X.env)).any (·.1)=false:=by rfl):DE X fl .FC (.Call (.Name "list" p) [a] [] pos) (dUn Dm f):=
 PE.imp (mW uT hg hm c0 (d8 h iU U) (by decide) (by decide) U O) λσ H Q h=>by
 refine D3.ex4 h λG ow δ d R V q=>?_
 refine D3.ex1 (bind1 V) λx T Z=>?_
 refine⟨G,ow,δ,x,R,T,λv H1 s1 r1=>?_⟩;unfold Dm at Z;split at Z
 .next l=>
  by_cases c:flats l=true
  case neg=>rw[if_neg c]at Z;cases Z
  rw[if_pos c]at Z
  cases Z;have r1:RA X.K ok1 true H1 v (.list l):=r1;obtain⟨p,xs,rfl,hx,W⟩:=r1.lstE;exact⟨p,xs,rfl,.inl hx,λpn Y=>q _ _ (s1.trans (cP Y _)) (.inr ⟨pn,xs,l,rfl,rfl,s1.free Y,bM,(RAs.flat c W).same (cP Y _)⟩)⟩
 .cases Z
end XI
namespace XI
open L2 My D3 XK XC
def Br(l:List Nat)(f:FXW):FX:=λδ=>(f δ).bind λo=>match o with
 | .nx δ'=>some (.o (.nx δ'))
 | .ex c d δ'=>(jr l δ').bind λr=>some (.ex c (.tuple (d::r)))
section
variable{fa:Addr}{outer:List Env}{s₀:dk}{H₀:Hp}{E:XK}
variable{fl:List Fl}{l:List Nat}{f:FXW}
def zK(hw:∀i∈l,fl[i]? = some .W)(h:DXW (nq (CXE P w fld) P w K mg base N qual scope fa cdv A outer s₀ H₀ E) fld fl st f):Gr (nq (CXE P w fld) P w K mg base N qual scope fa cdv A outer s₀ H₀ E) E fl l st (Br l f):=by
 intro pins s σ H Dn J I;refine D3.ex4 I λG ow δ o R L q=>?_
 refine D3.ex1 (bind1 L) λx V Y=>?_
 split at Y
 .next δ'=>
  cases Y;refine ar (h pins s σ H {nx:=λσ' H2=>∃Z,Rel K fl G Z σ' H2 δ',rt:=λ_ _=>False,bk:=λ_ _=>False,ct:=λ_ _=>False} (λ_ _ _=>False) J ⟨G,ow,δ,_,R,V,λZ σ' H' R'=>⟨Z,R'⟩⟩) (λfl' s1 z=>?_) λe s1 z=>?_
  .cases fl' with
   |next=>
    obtain⟨σ',H',X,Z,R'⟩:=z;exact⟨σ',H',X,q Z _ H' R'⟩
   |ret v=>obtain⟨_,_,_,_,_,z⟩:=z;exact z.elim
   |brk=>obtain⟨_,_,_,z⟩:=z;exact z.elim
   |cont=>obtain⟨_,_,_,z⟩:=z;exact z.elim
  .obtain⟨_,_,_,_,_,_,_,_,_,_,_,_,z⟩:=z;exact z.elim
 .next c d S=>
  refine D3.ex1 (bind1 Y) λr D F=>?_
  cases F;refine ar (h pins s σ H {nx:=λσ' H2=>False,rt:=λ_ _=>False,bk:=λ_ _=>False,ct:=λ_ _=>False} E J ⟨G,ow,δ,_,R,V,λU v u H' Z M R' O Q=>q U v u H' Z.n M (mV R' hw D) O Q⟩) (λfl' s1 z=>?_) λe s1 z=>?_
  .cases fl' with
   |next=>obtain⟨_,_,_,z⟩:=z;exact z.elim
   |ret v=>obtain⟨_,_,_,_,_,z⟩:=z;exact z.elim
   |brk=>obtain⟨_,_,_,z⟩:=z;exact z.elim
   |cont=>obtain⟨_,_,_,z⟩:=z;exact z.elim
  .obtain⟨a,U,dx,T,u,H',rfl,X,Fl,B,C,LT,z⟩:=z;exact WW X Fl B C (λT' y=>by cases y;exact LT) z
end
def Q0(l:List Nat)(f:FW):FX:=λδ=>(f δ).bind λp=>(jr l p.2).bind λr=>some (.o (.ex "" "" (.tuple (.none::r))))
def Ac(t:FT)(f g:FXW):FXW:=λδ=>(t δ).bind λb=>if b=true then f δ else g δ
section
variable{X:Cx}{E:XK}{fl:List Fl}{i:Nat}{ns:List Str}{F:List D->Option Or}{c:Expr}{es:List Expr}{fa:FA}{f:FW}{f1 f2:FXW}{s1 s2:Stmt}{sl:List (Option Nat)}{l:List Nat}
def Q5(O:∀i∈l,fl[i]? = some .W)(h:DEW X.nox fl e f):Gr X E fl l (.Return (some e) pos) (Q0 l f):=PS.imp (rm (PE.nox h)) λDn σ H h=>by
 refine D3.ex4 h λG ow δ o R V q=>?_
 obtain⟨⟨d,δ'⟩,T,Y⟩:=bind1 V;refine D3.ex1 (bind1 Y) λr U Y=>?_
 cases Y;exact⟨G,ow,δ,d,δ',R,T,λv H' Z R' _ _=>q v H' Z.n (mV R' O U)⟩
def wK(h:HasMX X.prog X.w X.K X.mg X.base fld n C m ps (ux X.K X.mg l F))(hr:Room n X.A)(hi:isN fl[j]? = true)(hN:X.N[j]? = some x)(hm:m∉ns)(ha:DWA X.nox fl sl (e::es) fa)(W:SlW fl (some j::sl) l sw)(hv:Vis X.env.scope x:=by first|exact Or.inl rfl|exact Or.inr (Or.inl rfl)|exact Or.inr (Or.inr rfl))(hd:(x==("__debug__":Str))=false:=by decide)(U:(x==("__classdict__":Str))=false:=by decide)
 (he:starEach (e::es) X.env=(false,eval e X.env)::starEach es X.env:=by exact dY rfl) (O:(backTo pos (starEach es X.env)).any (·.1)=false:=by exact qH rfl)
 (ht:eval (.Call (.Attribute (.Name x p) m apos) (e::es) [] pos) X.env=(do
  let ov <-eval (.Name x p) X.env
  standAt apos.atName
  let(f,fi) <-holding [ov] (getMethod ov m pl)
  callWith pos f fi (backTo pos (starEach (e::es) X.env)) (backToKw pos (keywordEach [] X.env))):=by rfl)
 (hs:swapsWith (.Call (.Attribute (.Name x p) m apos) (e::es) [] pos) none pos2.line X.env=pure false:=by rfl) :
 DXW X fld fl (.Expr (.Call (.Attribute (.Name x p) m apos) (e::es) [] pos) pos2) (iI F C ns j fa sw):=by
 intro pins s σ H Dn EX J B;refine D3.ex4 B λG ow δ o R Z q=>?_
 refine D3.ex1 (bind1 Z) λd r Z=>?_
 refine D3.ex1 (bind1 Z) λxs t Z=>?_
 refine D3.ex1 (bind1 Z) λds y Z=>?_
 obtain⟨g,fd,i,b,M⟩:=h.ex;have Q:=jk r;obtain⟨v,k1,k2,k3⟩:=R.nr j d hi Q;obtain⟨a,dx,fs,rfl,D,m2,E,_⟩:=wI k2 t;refine Gs (X:=X) i hr h.cl M b (iT (X:=X.nox) hN hv hd U) ha he O ht hs pins s σ H Dn EX J ⟨_,k1,a,dx,fs,rfl,D,mY (by rw[E];exact hm),G,ow,δ,ds,R,y,λvs H' sm L=>?_⟩;obtain⟨T,pre,g⟩:=sX W R sm (.nm k1 Q L);split at Z
 .next k f0 r0 Y S=>
  by_cases z:Y.length=sw.length
  case neg=>rw[if_neg z]at Z;cases Z
  rw[if_pos z]at Z
  cases Z;exact⟨d::ds,T,_,pre,S,λv H2 T' po=>by
   obtain⟨V,R'⟩:=g H2 T' Y po z;exact q V σ H2 R'⟩
 .next k x0 Y S=>
  by_cases z:Y.length=sw.length
  case neg=>rw[if_neg z]at Z;cases Z
  rw[if_pos z]at Z
  cases Z;exact⟨d::ds,T,_,pre,S,λc v u H2 T' I po rd P=>by
   obtain⟨V,R'⟩:=g H2 T' Y po z;exact q c v u H2 V I R' rd P⟩
 .cases Z
theorem Jg(O:DT X fl c ft)(h1:DXW X fld fl s1 f1)(h2:DXW X fld fl s2 f2)(hx:X=X.nox:=by rfl):DXW X fld fl (.If c [s1] [s2] pos) (Ac ft f1 f2):=by
 intro pins s σ H Dn EX J S;refine D3.ex4 S λG ow δ o R T q=>?_
 refine D3.ex1 (bind1 T) λt Q Y=>?_
 have W:DT X.nox fl c ft:=by rw[<-hx];exact O
 have one:∀(s0:Stmt)(V:FXW),DXW X fld fl s0 V->V δ=some o->∀(H1:Hp)(s':dk),Same H H1->Inv X pins σ H1 s'->wpAny (model X.prog X.w) X.A (execs [s0] X.env) (SP X pins Dn) (XP fld X pins σ EX) s':=λs0 V U P H1 s' sm Z=>by
  refine br (ar (U pins s' σ H1 {nx:=Dn.nx,rt:=λ_ _=>False,bk:=λ_ _=>False,ct:=λ_ _=>False} EX Z ⟨G,ow,δ,o,R.grow sm,P,?_⟩) (λfl' s1 z=>?_) λe s1 z=>z)
  .cases o<;>exact q
  .cases fl' with
   |next=>exact aT z
   |ret v=>obtain⟨_,_,_,_,_,z⟩:=z;exact z.elim
   |brk=>obtain⟨_,_,_,z⟩:=z;exact z.elim
   |cont=>obtain⟨_,_,_,z⟩:=z;exact z.elim
 refine wpAny_If (ar (W pins s σ H (λb H1=>b=t/\Same H H1) (J.wish _) ⟨G,ow,δ,t,R,Q,λH' s=>⟨rfl,s⟩⟩) (λb s1 z=>?_) λ_ _ z=>z.elim);obtain⟨H1,Z,rfl,sm⟩:=z;have Z:Inv X pins σ H1 s1:=Z.wish _
 cases b with
 |true=>rw[if_pos rfl]at Y;exact one _ _ h1 Y H1 s1 sm Z
 |false=>rw[if_neg (by decide)]at Y;exact one _ _ h2 Y H1 s1 sm Z
end
def jl(l:List Nat)(f:FE):FS:=λδ=>(f δ).bind λd=>(jr l δ).bind λr=>some (.ex "" "" (.tuple (d::r)))
def KJ(K:PySem.W.Frag)(fl:List Fl)(l:List Nat)(G:Gh)(Dn:Ends):Oc->Prop
 | .ex _ _ (.tuple (r::ps))=>∀v H' T',RA K ok1 true H' v r->EndP K l G H' T' ps->Dn.rt v H'
 | .nx δ'=>Aa K fl G Dn (.nx δ')
 |_=>False
def af8(K:PySem.W.Frag)(fl:List Fl)(l:List Nat)(f:FS):TS:=λDn σ H=>∃G ow δ o,Rel K fl G ow σ H δ/\f δ=some o/\KJ K fl l G Dn o
abbrev Vl(X:Cx)(fl:List Fl)(l:List Nat)(s:Stmt)(f:FS):Prop:=PS X s (af8 X.K fl l f)
abbrev Vm(X:Cx)(fl:List Fl)(l:List Nat)(s:List Stmt)(f:FS):Prop:=PSs X s (af8 X.K fl l f)
theorem KJ.nx{l:List Nat}{t:D3.St->Hp->Prop}{o:Oc}(q:KJ K fl l G Dn o)(hn:∀δ,o ≠ .nx δ):KJ K fl l G {Dn with nx:=t} o:=by
 cases o with
 |nx δ=>exact absurd rfl (hn δ)
 |ex c f d=>
  cases d with
  |tuple xs=>cases xs<;>exact q
  |_=>exact q
 |_=>exact q
section
variable{X:Cx}{fl:List Fl}{l:List Nat}{fs gs:FS}
theorem MJ(h1:Vl X fl l st fs)(h2:Vm X fl l sts gs):Vm X fl l (st::sts) (bU fs gs):=PSs.imp (lY h1 h2) λDn σ H h=>by
 refine D3.ex4 h λG ow δ o R V q=>?_
 refine D3.ex1 (bind1 V) λY U W=>?_
 refine⟨G,ow,δ,Y,R,U,?_⟩
 cases Y with
 |nx δ'=>exact λZ σ' H' R'=>⟨G,Z,δ',o,R',W,q⟩
 |_=>cases W;exact q.nx λ_ z=>by cases z
def Q6(h1:Vl X fl l st fs):Vm X fl l [st] fs:=PSs.imp (sy h1) λ_ _ _ h=>h
def Vo(O:∀i∈l,fl[i]? = some .W)(h:DE X fl .P e f):Vl X fl l (.Return (some e) pos) (jl l f):=PS.imp (rm h) λDn σ H h=>by
 refine D3.ex4 h λG ow δ o R V q=>?_
 refine D3.ex1 (bind1 V) λd T Z=>?_
 refine D3.ex1 (bind1 Z) λr U Z=>?_
 cases Z;exact⟨G,ow,δ,d,R,T,λv H' s Y=>q v H' ow.n Y (mV (R.grow s) O U)⟩
end
def Q7(l:List Nat)(o:Option Oc):Option D:=match o with
 |some (.ex _ _ (.tuple (r::ps)))=>some (.tuple (r::ps))
 |some (.nx δ)=>(jr l δ).bind λr=>some (.tuple (.none::r))
 |_=>none
def fnP(p q:Nat)(l:List Nat)(b:FS):List D->Option D:=λds=>if ds.length=p then Q7 l (b (ds.map (λd=>some (.d d))++bK q none))else none
def spP(K:PySem.W.Frag)(l:List Nat)(F:List D->Option D):Sp:=λvs H Q _=>∃(ds:List D)(T:Nat->List Addr)(d:D),PreW K l H vs ds T/\F ds=some d /\
 ∀r ps v H' (T':Nat->List Addr),d = .tuple (r::ps)->RA K ok1 true H' v r->PostW K l H T vs H' T' ps->Q v H'
def Y5{k:Nat}{fs:FS}{l:List Nat}(Dd:Dg K mg x st ps)(S:FnScope N ps (aZ st))(hp:∀i,i<ps.length->i∉l->fl[i]? = some .A)(hw:∀i∈l,fl[i]? = some .W)(hN:ps.length<=N.length)
 (O:∀(f:Addr)(cdv:Value)(A:dy)(outer:List Env)(s:dk)(H:Hp)(E:XK),Room k (A.deeper (envOfC x (aZ st) s.heap.objs.size f cdv))->Vm (cx P w K mg base N x st f cdv A outer s H E) fl l (fu st) fs) :
 Has P w K mg base (k+1) x ps (spP K l (fnP ps.length (N.length-ps.length) l fs)):=by
 obtain⟨f,fd,U,b,m⟩:=Dd.ex;refine⟨f,fd,FunX.ok (m:=x) ⟨U.ex⟩ S (λvs H Q E h=>?_) (λcdv A outer s H vs Q E L h=>?_),b,U.kp,m⟩
 .obtain⟨ds,T,d,r,Z,_⟩:=h;unfold fnP at Z;by_cases z:ds.length=ps.length
  .rw[r.ln];exact z
  .rw[if_neg z]at Z;cases Z
 .obtain⟨ds,T,d,r,Z,q⟩:=h;refine⟨_,O f cdv A outer s H E L,?_⟩;unfold fnP at Z;by_cases z:ds.length=ps.length
  case neg=>rw[if_neg z]at Z;cases Z
  rw[if_pos z]at Z;have R:=uq (K:=K) (N:=N) ps.length hp hw z hN r;unfold Q7 at Z;split at Z
  .next c' F Y X e=>
   cases Z;exact⟨_,_,_,_,R,e,λv H' T' M J=>q Y X v H' T' rfl M (post_of r J)⟩
  .next δ' e=>
   refine D3.ex1 (bind1 Z) λY G I=>?_
   cases I;exact⟨_,_,_,_,R,e,λV σ' H' R'=>q .none Y .non H' V.n rfl .non (post_of r (mV R' hw G))⟩
  .cases Z
def Y6(d:D)(sw:List Nat)(δ:DS):Option (D×DS):=match d with
 | .tuple (r::ps)=>if ps.length=sw.length then some (r,wH sw ps δ)else none
 |_=>none
def rQ(F:List D->Option D)(fa:FA)(sw:List Nat):FW:=λδ=>(fa δ).bind λds=>(F ds).bind λd=>Y6 d sw δ
def tEP(K:PySem.W.Frag)(fl:List Fl)(f:FW):TE:=λσ H Q=>∃G ow δ d δ',Rel K fl G ow σ H δ/\f δ=some (d,δ')/\∀v H' Z,Rel K fl G Z σ H' δ'->RA K ok1 true H' v d->Q v H'
abbrev DEP(X:Cx)(fl:List Fl)(e:Expr)(f:FW):Prop:=PE X e (tEP X.K fl f)
def Ad(g:D->D->Option D)(f:FW)(fb:FE):FW:=λδ=>(f δ).bind λp=>(fb p.2).bind λy=>(g p.1 y).bind λd=>some (d,p.2)
section
variable{X:Cx}{fl:List Fl}{a b:Expr}{es:List Expr}{F:List D->Option D}{fa:FA}{sl:List (Option Nat)}{l:List Nat}{f:FW}{op:CmpOp}{r:R2}{g:D->D->Option D}
def zL(h:Has X.prog X.w X.K X.mg X.base n x ps (spP X.K l F))(hr:Room n X.A)(ha:DWA X fl sl (e::es) fa)(W:SlW fl sl l sw)
 (hg:Gl X x:=by rfl) (U:(x==("__debug__":Str))=false:=by decide)
 (he:starEach (e::es) X.env=(false,eval e X.env)::starEach es X.env:=by exact dY rfl) (O:(backTo pos (starEach es X.env)).any (·.1)=false:=by exact qH rfl) :
 DEP X fl (.Call (.Name x p) (e::es) [] pos) (rQ F fa sw):=PE.imp (yI h hr ha hg U he O) λσ H Q V=>by
 obtain⟨G,ow,δ,L,δ',R,Z,q⟩:=V;refine D3.ex1 (bind1 Z) λds M Z=>?_
 refine D3.ex1 (bind1 Z) λd N Z=>?_
 refine⟨G,ow,δ,ds,R,M,λvs H1 s a=>?_⟩;show spP X.K l F (vs++[]) H1 Q E0;rw[cZ];obtain⟨T,p,g⟩:=sX W R s a;refine⟨ds,T,d,p,N,λr qs v H' T' g1 P S=>?_⟩;subst g1;unfold Y6 at Z;dsimp only at Z;by_cases c:qs.length=sw.length
 case neg=>rw[if_neg c]at Z;cases Z
 rw[if_pos c]at Z
 cases Z;obtain⟨Y,R'⟩:=g H' T' qs S c;exact q v H' Y R' P
def Q8(h:DEP X fl e f)(O:swapsWith e none pos.line X.env=pure false:=by rfl):DS1 X fl (.Expr e pos) (qj f):=PS.imp (uR h O) λDn σ H h=>by
 refine D3.ex4 h λG ow δ o R Y q=>?_
 obtain⟨⟨d,δ'⟩,V,W⟩:=bind1 Y
 cases W;exact⟨G,ow,δ,d,δ',R,V,λv H' Z R' _=>q Z σ H' R'⟩
def Vp(O:OpR X (compareOp op) r)(hb:BrO X.K r g)(h1:DEP X fl a f)(h2:DE X fl .P b fb)(hm:behindInMarks op b=false):DEW X fl (.Compare a [op] [b] pos) (Ad g f fb):=PE.imp (JC O h1 h2 hm) λσ H Q h=>by
 obtain⟨G,ow,δ,d,δ',R,Z,q⟩:=h;obtain⟨⟨x,Y⟩,T,Z⟩:=bind1 Z;refine D3.ex1 (bind1 Z) λy U Z=>?_
 refine D3.ex1 (bind1 Z) λz V Z=>?_
 cases Z;exact⟨G,ow,δ,x,Y,R,T,λv H' W R' r1=>⟨G,W,Y,y,R',U,λu H2 s2 r2=>hb H2 v u x y d Q (r1.same s2) r2 V λw hw rw=>q w H2 W (R'.grow s2) hw rw⟩⟩
def tw_cmpP(O:OpR X (compareOp op) r)(hb:BrO X.K r g)(h1:DEP X fl a f)(h2:DE X fl .P b fb)(hm:behindInMarks op b=false):DTW X fl (.Compare a [op] [b] pos) (ur (Ad g f fb)):=PT.imp (JD O h1 h2 hm) λσ H Q h=>by
 obtain⟨G,ow,δ,t,δ',R,Y,q⟩:=h;obtain⟨⟨d,V⟩,Z,Y⟩:=bind1 Y;obtain⟨⟨x,U⟩,N,Z⟩:=bind1 Z;refine D3.ex1 (bind1 Z) λy S Z=>?_
 refine D3.ex1 (bind1 Z) λz T Z=>?_
 cases Z;dsimp only at Y;split at Y
 .cases Y;exact⟨G,ow,δ,x,_,R,N,λv H' W R' r1=>⟨G,W,_,y,R',S,λu H2 s2 r2=>hb H2 v u x y _ _ (r1.same s2) r2 T λw hw rw=>⟨_,RA.blE rw,q H2 W (R'.grow s2)⟩⟩⟩
 .cases Y
def Y7(h1:DEP X fl a f)(h2:DE X fl .P b fb)(hs:pR b):DEP X fl (.Subscript a b pos) (Ad gIx f fb):=PE.imp (En Bx h1 h2 hs) λσ H Q h=>by
 obtain⟨G,ow,δ,d,δ',R,Y,q⟩:=h;obtain⟨⟨x,O⟩,M,Y⟩:=bind1 Y;refine D3.ex1 (bind1 Y) λy N Y=>?_
 refine D3.ex1 (bind1 Y) λz W Y=>?_
 cases Y;refine⟨G,ow,δ,x,_,R,M,λv H1 Z S r1=>⟨G,Z,_,y,S,N,λu H2 s2 r2=>?_⟩⟩;have W:gIx x y=some d:=W;unfold gIx at W;split at W
 .next l i _ _=>
  obtain rfl:=RA.intE r2;obtain⟨p,xs,rfl,hx,U⟩:=RA.lstE (RA.same s2 r1);obtain⟨z,T,V⟩:=U.at W;exact .inl ⟨p,xs,_,z,rfl,rfl,hx,T,q z H2 Z (S.grow s2) V⟩
 .next l i _ _=>
  obtain rfl:=RA.intE r2;obtain⟨p,xs,rfl,hx,U⟩:=RA.tupE (RA.same s2 r1);obtain⟨z,T,V⟩:=U.at W;exact .inr (.inl ⟨p,xs,_,z,rfl,rfl,hx,T,q z H2 Z (S.grow s2) V⟩)
 .cases W
end
end XI
namespace XI
open L2 My D3 XK XC
structure At2(K:PySem.W.Frag)(i:Nat)(a:Addr)(v:V)(d:D)(σ:L2.St)(H:Hp):Prop where
 sl:σ[i]? = some (some (.ref a))
 ra:RA K ok1 true H v d
section
variable{fl:List Fl}{i:Nat}{v:V}{d:D}{σ:L2.St}{H H':Hp}
def At2.grow(h:At2 K i a v d σ H)(s:Same H H'):At2 K i a v d σ H':=⟨h.sl,h.ra.same s⟩
def At2.set{x:Option V}(h:At2 K i a v d σ H)(n:i≠j):At2 K i a v d (σ.set j x) H:=⟨by rw[aM (dv n)];exact h.sl,h.ra⟩
end
noncomputable def tV(K:PySem.W.Frag)(fl:List Fl)(z:Sc)(k:Kd)(f:FE):TE:=λσ H Q=>∃G ow δ x,Rel K fl G ow σ H δ/\At2 K z.i z.a z.v z.d σ H/\f δ=some x/\∀y H',Same H H'->Rs K G.H0 ow H H' k y x->Q y H'
def tVB(K:PySem.W.Frag)(fl:List Fl)(z:Sc)(k:Kd)(f:FA):TA:=λσ H Q=>∃G ow δ ds,Rel K fl G ow σ H δ/\At2 K z.i z.a z.v z.d σ H/\f δ=some ds/\∀vs H',Same H H'->RAs K (LK G.H0 ow H k) (Ua k) H' vs ds->Q vs H'
noncomputable def tVT(K:PySem.W.Frag)(fl:List Fl)(z:Sc)(f:FT):TT:=λσ H Q=>∃G ow δ b,Rel K fl G ow σ H δ/\At2 K z.i z.a z.v z.d σ H/\f δ=some b/\∀H',Same H H'->Q b H'
def Vq(K:PySem.W.Frag)(fl:List Fl)(z:Sc)(l:List Nat)(G:Gh)(Dn:Ends):Oc->Prop
 | .nx δ'=>∀Z σ' H',Rel K fl G Z σ' H' δ'->At2 K z.i z.a z.v z.d σ' H'->Dn.nx σ' H'
 | .ex _ _ (.tuple (r::ps))=>∀y H' T',RA K ok1 true H' y r->EndP K l G H' T' ps->Dn.rt y H'
 |_=>False
noncomputable def tVS(K:PySem.W.Frag)(fl:List Fl)(z:Sc)(l:List Nat)(f:FS):TS:=λDn σ H=>∃G ow δ o,Rel K fl G ow σ H δ/\At2 K z.i z.a z.v z.d σ H/\f δ=some o/\Vq K fl z l G Dn o
abbrev VE(X:Cx)(fl:List Fl)(z:Sc)(k:Kd)(e:Expr)(f:FE):Prop:=PE X e (tV X.K fl z k f)
abbrev VB(X:Cx)(fl:List Fl)(z:Sc)(k:Kd)(es:List Expr)(f:FA):Prop:=PA X es (tVB X.K fl z k f)
abbrev VT(X:Cx)(fl:List Fl)(z:Sc)(e:Expr)(f:FT):Prop:=PT X e (tVT X.K fl z f)
abbrev VW(X:Cx)(fl:List Fl)(z:Sc)(e:Expr)(f:FT):Prop:=PW X e (tVT X.K fl z f)
abbrev VS(X:Cx)(fl:List Fl)(z:Sc)(l:List Nat)(s:Stmt)(f:FS):Prop:=PS X s (tVS X.K fl z l f)
abbrev VSs(X:Cx)(fl:List Fl)(z:Sc)(l:List Nat)(s:List Stmt)(f:FS):Prop:=PSs X s (tVS X.K fl z l f)
theorem Vq.nx{z:Sc}{l:List Nat}{t:D3.St->Hp->Prop}{o:Oc}(q:Vq K fl z l G Dn o)(hn:∀δ,o ≠ .nx δ):Vq K fl z l G {Dn with nx:=t} o:=by
 cases o with
 |nx δ=>exact absurd rfl (hn δ)
 |ex c f d=>
  cases d with
  |tuple xs=>cases xs<;>exact q
  |_=>exact q
 |_=>exact q
section
variable{X:Cx}{fl:List Fl}{z:Sc}{l:List Nat}{a b c:Expr}{es:List Expr}{k:Kd}{fa:FE}{fs gs:FS}{fr:FA}
def nO(h:DE X fl k e f):VE X fl z k e f:=PE.imp h λσ H Q h=>by
 obtain⟨G,ow,δ,x,R,_,Z,q⟩:=h;exact⟨G,ow,δ,x,R,Z,q⟩
def yt{O:Kd}(h:VE X fl z k e f)(U:∀(Hb H:Hp) (G:Gh) (ow:Ow) (σ:L2.St) (δ:DS) (v:V) (d:D),Rel X.K fl G ow σ Hb δ->Rs X.K G.H0 ow Hb H k v d->Rs X.K G.H0 ow Hb H O v d):VE X fl z O e f:=PE.imp h λσ H Q h=>by
 obtain⟨G,ow,δ,x,R,A,Z,q⟩:=h;exact⟨G,ow,δ,x,R,A,Z,λv H' s r=>q v H' s (U _ _ G ow σ δ v x R r)⟩
def fQ(h:VE X fl z .FC e f):VE X fl z .C e f:=yt h λ_ _ _ _ _ _ _ _ R r=>r.FC_C
def oG(h:VE X fl z .FC e f):VE X fl z .A e f:=yt (fQ h) λ_ _ _ _ _ _ _ _ R r=>r.C_A R
def Gw(h:VE X fl z .F e f):VE X fl z .A e f:=yt h λ_ _ _ _ _ _ _ _ R r=>r.F_A R
def tM(h:VE X fl z .A e f):VE X fl z (.B []) e f:=yt h λ_ _ _ _ _ _ _ _ R r=>Rs.A_B [] r
def je{O:Bool}(h:PE X e (tEt z.i z.a O)):VE X fl z .FC e (dC (.bool O)):=PE.imp h λσ H Q h=>by
 obtain⟨G,ow,δ,x,R,A,Z,q⟩:=h
 cases Z;exact⟨A.sl,λH' s=>q _ H' s (.inl ⟨rfl,.bl _⟩)⟩
def j4:VB X fl z k [] aW:=PA.imp iU λσ H Q h=>by
 obtain⟨G,ow,δ,ds,R,_,Z,q⟩:=h
 cases Z;exact q [] H (Same.refl H) .nil
def cR(O:isR k=true)(h:VE X fl z k e f)(Y:VB X fl z k es fr)(U:starEach (e::es) X.env=(false,eval e X.env)::starEach es X.env:=by exact dY rfl):VB X fl z k (e::es) (aj f fr):=PA.imp (d8 h Y U) λσ H Q h=>by
 obtain⟨G,ow,δ,ds,R,A,Z,q⟩:=h;refine D3.ex1 (bind1 Z) λd V Z=>?_
 refine D3.ex1 (bind1 Z) λr W Z=>?_
 cases Z;refine⟨G,ow,δ,d,R,A,V,λv H1 s1 r1=>⟨G,ow,δ,r,R.grow s1,A.grow s1,W,λvs H2 s2 r2=>?_⟩⟩;exact q _ H2 (s1.trans s2) (.cons ((r1.ra O).same s2) (r2.imp (Ba s1 O) (λz=>z)))
def zM{x1}(O:isR k=true)(h:VB X fl z k es fr):VE X fl z k (.Tuple es x1 pos) (dTup fr):=PE.imp (NP h) λσ H Q h=>by
 obtain⟨G,ow,δ,d,R,A,W,q⟩:=h;refine D3.ex1 (bind1 W) λl V Z=>?_
 by_cases z:l.length<=sizeLine
 .rw[if_pos z]at Z
  cases Z;refine⟨G,ow,δ,l,R,A,V,λvs H' s r=>⟨by rw[r.length];exact z,λp Y=>?_⟩⟩;have g:=cP Y (.tup vs);exact q _ _ (s.trans g) (Rs.of_ra O (.tup bM (r.same g)))
 .rw[if_neg z]at Z
  cases Z
def oH(h:VB X fl z .C es fr):VE X fl z .FC (.List es pos) (d9 fr):=PE.imp (Bv h) λσ H Q h=>by
 obtain⟨G,ow,δ,d,R,A,W,q⟩:=h;refine D3.ex1 (bind1 W) λl V Z=>?_
 by_cases z:l.length<=sizeLine
 .rw[if_pos z]at Z
  cases Z;refine⟨G,ow,δ,l,R,A,V,λvs H' s r=>⟨by rw[r.length];exact z,λp Y=>?_⟩⟩;have g:=cP Y (.lst vs);exact q _ _ (s.trans g) (.inr ⟨p,vs,l,rfl,rfl,s.free Y,bM,(r.track.imp (λb w=>⟨w.1,λe=>w.2 (e▸Y)⟩) (λz=>z)).same g⟩)
 .rw[if_neg z]at Z
  cases Z
def zN{L':List Nat}(h1:VE X fl z (.B L) a fa)(h2:VE X fl z (.B L') b fb):VE X fl z .F (.BinOp a .Add b pos) (dOp oX fa fb):=PE.imp (Jz Ci h1 h2) λσ H Q h=>by
 obtain⟨G,ow,δ,d,R,A,S,q⟩:=h;refine D3.ex2 (rF S) λx y O P Z=>?_
 refine⟨G,ow,δ,x,R,A,O,λv H1 s1 r1=>⟨G,ow,δ,y,R.grow s1,A.grow s1,P,λu H2 s2 r2=>?_⟩⟩;unfold oX at Z;split at Z
 .next l m=>
  by_cases z:l.length+m.length<=1000000
  .rw[if_pos z]at Z
   cases Z;obtain⟨p,xs,rfl,hx,W⟩:=wC r1;obtain⟨U,ys,rfl,T,Y⟩:=wC r2;refine⟨p,U,xs,ys,rfl,rfl,s2.seq hx,T,?_,λpn V=>q _ _ ((s1.trans s2).trans (cP V _)) (Fd (G:=G) (s1.trans s2) V ((W.same s2).append Y))⟩;rw[W.length,Y.length];exact bf z (by decide)
  .rw[if_neg z]at Z
   cases Z
 .cases Z
def tO(h:DT X fl e ft):VT X fl z e ft:=PT.imp h λσ H Q h=>by
 obtain⟨G,ow,δ,x,R,_,Z,q⟩:=h;exact⟨G,ow,δ,x,R,Z,q⟩
def Gx{O:Bool}(h:PE X e (tEt z.i z.a O))(U:∀whole,isTrue e X.env whole=(do let v <-whole;standAt e.pos;holding [v] (truthy v)):=by intro _;rfl):VT X fl z e (λ_=>some O):=PT.imp (Hl h U) λσ H Q h=>by
 obtain⟨G,ow,δ,x,R,A,Z,q⟩:=h
 cases Z;exact⟨A.sl,λH' s=>⟨O,rfl,q H' s⟩⟩
theorem zO(h:VT X fl z a ft):VT X fl z (.UnaryOp .Not a pos) (D3.mD ft):=PT.imp (Hr h) λσ H Q h=>by
 obtain⟨G,ow,δ,t,R,A,Z,q⟩:=h;unfold D3.mD at Z
 cases e:ft δ with
 |none=>rw[e]at Z;cases Z
 |some x=>
  rw[e]at Z
  cases Z;exact⟨G,ow,δ,x,R,A,e,λH' s=>q H' s⟩
def zP(h:VT X fl z a ft):VW X fl z (.BoolOp .Or [a] pos) ft:=Hq h
theorem Gy(h1:VT X fl z a ft)(h2:VW X fl z (.BoolOp .Or (b::rest) pos) gt):VW X fl z (.BoolOp .Or (a::b::rest) pos) (D3.tOr ft gt):=PW.imp (Nm h1 h2) λσ H Q h=>by
 obtain⟨G,ow,δ,t,R,A,Y,q⟩:=h;refine D3.ex1 (bind1 Y) λx W Z=>?_
 refine⟨G,ow,δ,x,R,A,W,λH1 s1=>?_⟩
 cases x with
 |true=>cases Z;exact v9 (q H1 s1)
 |false=>exact v8 ⟨G,ow,δ,t,R.grow s1,A.grow s1,Z,λH2 s2=>q H2 (s1.trans s2)⟩
def Q9(h:VW X fl z a ft):VT X fl z a ft:=PW.pt h
def pD:VSs X fl z l sts (λ_=>none):=λ_ _ _ _ _ _ h=>by
 obtain⟨_,_,_,_,_,_,Z,_⟩:=h
 cases Z
def lR:VSs X fl z l [] fO:=PSs.imp uQ λDn σ H h=>by
 obtain⟨G,ow,δ,o,R,A,Z,q⟩:=h
 cases Z;exact q ow σ H R A
theorem dX(h1:VS X fl z l st fs)(h2:VSs X fl z l sts gs):VSs X fl z l (st::sts) (bU fs gs):=PSs.imp (lY h1 h2) λDn σ H h=>by
 obtain⟨G,ow,δ,o,R,A,V,q⟩:=h;refine D3.ex1 (bind1 V) λY U W=>?_
 refine⟨G,ow,δ,Y,R,A,U,?_⟩
 cases Y with
 |nx δ'=>exact λZ σ' H' R' T=>⟨G,Z,δ',o,R',T,W,q⟩
 |_=>cases W;exact q.nx λ_ z=>by cases z
def lU(h1:VS X fl z l st fs):VSs X fl z l [st] fs:=PSs.imp (sy h1) λ_ _ _ h=>h
theorem tQ(O:VT X fl z c ft)(h1:VSs X fl z l body fs)(h2:VSs X fl z l orelse gs):VS X fl z l (.If c body orelse pos) (sIf ft fs gs):=PS.imp (Am O h1 h2) λDn σ H h=>by
 obtain⟨G,ow,δ,o,R,A,Y,q⟩:=h;refine D3.ex1 (bind1 Y) λt W Z=>?_
 refine⟨G,ow,δ,t,R,A,W,λH' s=>?_⟩
 cases t with
 |true=>exact v9 ⟨G,ow,δ,o,R.grow s,A.grow s,Z,q⟩
 |false=>exact v8 ⟨G,ow,δ,o,R.grow s,A.grow s,Z,q⟩
def oJ(O:∀i∈l,fl[i]? = some .W)(h:VE X fl z .P e f):VS X fl z l (.Return (some e) pos) (jl l f):=PS.imp (rm h) λDn σ H h=>by
 obtain⟨G,ow,δ,o,R,A,V,q⟩:=h;refine D3.ex1 (bind1 V) λd T Z=>?_
 refine D3.ex1 (bind1 Z) λr U Z=>?_
 cases Z;exact⟨G,ow,δ,d,R,A,T,λv H' s Y=>q v H' ow.n Y (mV (R.grow s) O U)⟩
def lW(O:z.i≠j)(hfl:fl[j]? = some .A)(hN:X.N.Nodup)(hi:X.N[j]? = some x)(hv:X.env.scope.names.lookup x=some .local\/X.env.scope.names.lookup x=some .cell)(h:VE X fl z .A e f)
 (hs:swapsWith e (some (.Name x pos')) pos.line X.env=pure false:=by rfl) (U:X.fn x=true\/X.env.scope.names.lookup x=some .local:=by first|exact .inl rfl|exact .inr rfl) :
 VS X fl z l (.Assign [.Name x pos'] e pos) (bJ j f):=PS.imp (vY (i:=j) hN hi hv h hs U) λDn σ H h=>by
 obtain⟨G,ow,δ,o,R,A,Z,q⟩:=h;unfold bJ at Z;by_cases Y:j<δ.length
 .rw[if_pos Y]at Z;refine D3.ex1 (bind1 Z) λd V W=>?_
  cases W;exact⟨G,ow,δ,d,R,A,V,λv H' s r=>q ow _ H' ((R.grow s).setA hfl (n6 R Y) r) ((A.grow s).set O)⟩
 .rw[if_neg Y]at Z
  cases Z
end
def Q_(X:Cx)(fl:List Fl)(fld:Addr->Str)(l:List Nat)(ic:Str)(i:Nat)(b0:Stmt)(suite:List Stmt)(fS:Str->D->FS)(c:Str):Prop:=
 ∃C I0 Z,Exc X.K X.mg c (fld C) C I0/\(Z=C\/Z=I0)/\X.mg ic=some (.ref Z)/\∀(a:Addr)(oa:Obj)(dx:Addr)(od:Obj)(u:Value)(v:V)(d:D),oa.cls = .ref C->oa.dict=some dx->PySem.W.notCls oa=true->(∀h:ec,h.get? dx=some od->h.Ns1 dx (λz=>if z=fld C then some u else none))->RelV v u ->
  VSs (dN X a oa dx od) fl ⟨i,a,v,d⟩ l (b0::suite) (fS c d)
noncomputable def Bs(i:Nat)(f:FXW)(cs:List Str)(fS:Str->D->FS):FS:=λδ=>(f δ).bind λo=>match o with
 | .nx δ'=>some (.nx δ')
 | .ex c d Z=>if c∈cs then(fS c d (Z.set i none)).bind λo=>match o with
  | .ex a b (.tuple (r::ps))=>some (.ex a b (.tuple (r::ps)))
  | .nx δ'=>some (.nx (δ'.set i none))
  |_=>none
  else none
section
variable{X:Cx}{fl:List Fl}{i:Nat}{f:FXW}{np:Pos}{fS:Str->D->FS}{l:List Nat}
def Vr(h:DXW X fld fl st f)(hcs:∀c∈cs,Q_ X fl fld l ic i b0 suite fS c)(O:fl[i]? = some .A)
 (hi:X.N[i]? = some en) (hN:X.N.Nodup) (hl:X.env.scope.names.lookup en=some .local) (hst:X.stack=X.env::X.outer:=by rfl) (hfr:X.env.frame=some X.env.locals:=by rfl) (hx:X=X.nox:=by rfl)
 (hgi:Gl X ic:=by rfl) (hdi:(ic==("__debug__":Str))=false:=by decide) :
 Vl X fl l (.Try [st] [.ExceptHandler (some (.Name ic np)) (some en) (b0::suite) hpos] [] [] tpos) (Bs i f cs fS):=by
 intro pins s σ H Dn J h0;refine D3.ex4 h0 λG ow δ o R hf q=>?_
 refine D3.ex1 (bind1 hf) λo1 e1 U=>?_
 refine wpAny_Try_except ?_;have one:∀(D:Ends)(EX:XK),(tXW X.K X.mg fl f) D EX σ H->(∀s',SP X pins D .next s'->SP X pins Dn .next s')->(∀e s',XP fld X pins σ EX e s'->wpAny (model X.prog X.w) X.A (noteFrame e X.env) (λ_ V=>wpAny (model X.prog X.w) X.A (setFlight e none) (λ_ W=>wpAny (model X.prog X.w) X.A (handleBy e X.env [.ExceptHandler (some (.Name ic np)) (some en) (b0::suite) hpos]) (SP X pins Dn) X.xe W) X.xe V) X.xe s')->(D.rt=λ_ _=>False)->(D.bk=λ_ _=>False)->(D.ct=λ_ _=>False)->wpAny (model X.prog X.w) X.A (execs [st] X.env) (λf Y=>match f with | .next=>wpAny (model X.prog X.w) X.A (execs [] X.env) (SP X pins Dn) X.xe Y|f=>SP X pins Dn f Y)
  (λe Y=>wpAny (model X.prog X.w) X.A (noteFrame e X.env) (λ_ V=>wpAny (model X.prog X.w) X.A (setFlight e none) (λ_ W=>wpAny (model X.prog X.w) X.A (handleBy e X.env [.ExceptHandler (some (.Name ic np)) (some en) (b0::suite) hpos]) (SP X pins Dn) X.xe W) X.xe V) X.xe Y) s:=λD EX hq hn L t x B=>by
  refine br (ar (h pins s σ H D EX J hq) (λfl' s1 z=>?_) λe s1 z=>L e s1 z)
  cases fl' with
  |next=>exact aT (aT (hn _ z))
  |ret v=>obtain⟨_,_,_,_,_,z⟩:=z;rw[t]at z;exact z.elim
  |brk=>obtain⟨_,_,_,z⟩:=z;rw[x]at z;exact z.elim
  |cont=>obtain⟨_,_,_,z⟩:=z;rw[B]at z;exact z.elim
 split at U
 .next δ'=>
  cases U;refine one {nx:=λσ' H2=>∃Z,Rel X.K fl G Z σ' H2 δ',rt:=λ_ _=>False,bk:=λ_ _=>False,ct:=λ_ _=>False} (λ_ _ _=>False) ⟨G,ow,δ,_,R,e1,λZ σ' H' R'=>⟨Z,R'⟩⟩ (λs' z=>?_) (λe s' z=>?_) rfl rfl rfl
  .obtain⟨σ',H',m,Z,R'⟩:=z;exact⟨σ',H',m,q Z _ H' R'⟩
  .obtain⟨_,_,_,_,_,_,_,_,_,_,_,_,z⟩:=z;exact z.elim
 .next c d Q=>
  by_cases E:c∈cs
  case neg=>rw[if_neg E]at U;cases U
  rw[if_pos E]at U;refine D3.ex1 (bind1 U) λo2 e3 S=>?_
  obtain⟨C,I0,Dc,Ex,hD,F,I⟩:=hcs c E;refine one {nx:=λσ' H2=>False,rt:=λ_ _=>False,bk:=λ_ _=>False,ct:=λ_ _=>False} (λu j H'=>j=some C/\(∃Z,Rel X.K fl G Z σ H' Q)/\∃v,RelV v u/\RA X.K ok1 true H' v d) ⟨G,ow,δ,_,R,e1,λj v u H' Z g R' r' P=>⟨by rw[Ex.mgC]at g;cases g;rfl,⟨Z,R'⟩,v,P,r'⟩⟩ (λs' z=>?_) (λe s' z=>?_) rfl rfl rfl
  .obtain⟨_,_,_,z⟩:=z;exact z.elim
  .obtain⟨a,j,dx,T,u,H',rfl,m,Fl,La,Ld,LT,hC,⟨M,R1⟩,v,P,rd⟩:=z
   cases hC;refine Fp rfl m hst hfr Fl La Ld (λT' z=>by cases z;exact LT) λs2 T2 I2 k o1 o2 n=>?_
   obtain⟨vs,sl,w1,_⟩:=k.obj;obtain⟨od,r,p,w2,w3⟩:=k.dic;have t1:=I a ⟨.ref C,some dx,.fields vs,sl⟩ dx od u v d rfl rfl rfl (λh' z=>⟨od,r,p,z,w3⟩) P;have li:i<σ.length:=by
    rw[I2.len];exact(bw.mp hi).1
   refine ae3 (D:=Dc) (i:=i) (ts:=tVS X.K fl ⟨i,a,v,d⟩ l (fS c d)) I2 k La Ld n Ex hD F hgi hdi hi hN hl λoa od' ea b=>?_
   rw[w1]at ea;rw[w2]at b
   cases ea
   cases b;refine⟨t1,G,M,_,_,Rel.forget R1 O,⟨bI li,rd⟩,e3,?_⟩;split at S
   .cases S;exact λy H2 T' r2 U=>q y H2 T' r2 U
   .next δ'=>
    cases S;exact λZ σ' H2 R' _=>q Z _ H2 (Rel.forget R' O)
   .cases S
end
section
variable{X:Cx}{fl:List Fl}{f n:Str}{i:Nat}{dx:Addr}{od:Obj}{v:V}{d:D}{fS:Str->D->FS}{l:List Nat}
def pF{g:D->FS}(Z:SuiU X.K X.mg fld c f ic ts)(U:X.mg "isinstance"=none)(hi:X.N[i]? = some n)(hS:∀d,fS c d=g d)
 (hs:∀a oa dx od v d,SuK X f ts i n a oa dx od v->VSs (dN X a oa dx od) fl ⟨i,a,v,d⟩ l (b0::suite) (g d))
 (hv:Vis X.env.scope n:=by first|exact Or.inl rfl|exact Or.inr (Or.inl rfl)|exact Or.inr (Or.inr rfl)) (hgi:Gl X "isinstance" := by rfl)
 (q:(n==("__debug__":Str))=false:=by decide) (O:(n==("__classdict__":Str))=false:=by decide)
 (hb:∀p1,attributeBase (.Name n p1) f X.env (eval (.Name n p1) X.env)=eval (.Name n p1) X.env:=by intro _;rfl) :
 Q_ X fl fld l ic i b0 suite fS c:=by
 obtain⟨C,I0,M,P,mI,F,At,H⟩:=Z.ex;refine⟨C,I0,I0,by rw[P];exact M,.inr rfl,mI,λa oa dx od u v d Y W V T L=>?_⟩;rw[hS];refine hs a oa dx od v d ⟨λt I G Q p p1 p2 pos=>?_,λS R p p1 p2 pos=>?_,λp1 pos=>?_⟩
 .obtain⟨D,m,J⟩:=H t I;exact Yx F J Y W V m hgi U G hi hv Q q O
 .exact Yw (Us (a:=a) (oa:=oa) (dx:=dx) (od:=od) (T0 := "ValueError") M rfl (by decide) Y S (by decide +kernel) hgi U R hi hv (by decide) (by decide) q O)
 .exact ae2 At Y W V (by rw[P]at T;exact T) L hi hv q O (hb p1)
def zQ(S:SuK X f ts i n a oa dx od v){p1 pos:Pos}:VE (dN X a oa dx od) fl ⟨i,a,v,d⟩ .P (.Attribute (.Name n p1) f pos) (dC d):=PE.imp (S.att p1 pos) λσ H Q h=>by
 obtain⟨G,ow,δ,x,R,A,Z,q⟩:=h
 cases Z;exact⟨A.sl,q v H (Same.refl H) A.ra⟩
end
end XI
namespace D3
def vL:D->D->Option D:=λx y=>match x,y with
 | .list l,.bool k=>(jL l).bind λbs=>some (.int (bs.count k:Nat))
 |_,_=>none
end D3
namespace XN
open L2 My D3
section
variable{X:Cx}
theorem wL:∀{bs:List Bool}{its:List Value},Vals (bs.map V.bl) its->its=bs.map ef
 |[],_,.nil=>rfl
 |b::r,_,.cons h t=>by
  cases h;rw[wL t];rfl
def Ra:MtR X "list.count" (λx xs H Q=>∃(p:Addr)(bs:List Bool)(k:Bool),x = .ref p/\xs=[.bl k]/\SqL X.K H p (bs.map V.bl)/\Q (.int (bs.count k:Nat)) H):=by
 intro pins s σ H x xs v us Q I T S h;obtain⟨p,bs,k,rfl,rfl,hx,q⟩:=h
 cases T;obtain⟨u,rfl,R⟩:=vals1 S
 cases R;obtain⟨its,Z,pl,O⟩:=I.list hx;obtain rfl:=wL Z;obtain⟨⟨cls,dd,data,sl⟩,W,U,n,hd⟩:=id pl.isList;simp only at U hd;subst U hd;have Y:∀bs:List Bool,(bs.map ef).countP (isBoolOf k)=bs.count k:=λbs=>by
  rw[List.countP_map];rfl
 refine cz PySem.F.slot_list_count ⟨_,W,rfl⟩ PySem.F.entry_list_count (PySem.F.args_list_count_2 _ _)
  (PySem.SeqAt.list_countAt p (bs.map ef).toArray n dd sl (.bool k) (isBoolOf k)) ⟨W,λy P=>?_,?_⟩
 .obtain⟨b,_,rfl⟩:=aY.mp (List.mem_toArray.mp P);exact PySem.SeqAt.EqAt.bool_bool b k
 .refine⟨.int (bs.count k:Nat),H,I.tok _,⟨s.toks,?_⟩,q⟩;rw[show(bs.map ef).toArray.toList=bs.map ef from rfl,Y]
def zR{a:Expr}(h:DE X fl .P a f)(h2:DE X fl .P e fe)
 (Y:attributeBase a "count" X.env (eval a X.env)=eval a X.env:=by rfl)
 (hfew:((backTo cpos (starEach [e] X.env)).all (λx=>!x.1)&&(backToKw cpos (keywordEach [] X.env)).all (λx=>x.1.isSome)
  && decide (([e]:List Expr).length+([]:List eI).length+(if([]:List eI).isEmpty then 0 else 1)<30))=true:=by rfl)
 (U:(apos.endLine==cpos.line)=true:=by rfl) (hst:starEach [e] X.env=(false,eval e X.env)::starEach [] X.env:=by exact dY rfl) (O:(backTo cpos (starEach [] X.env)).any (·.1)=false:=by rfl) :
 DE X fl .FC (.Call (.Attribute a "count" apos) [e] [] cpos) (dOp vL f fe):=
 PE.imp (JH PySem.F.plainAttrs_list PySem.F.slot_list_count PySem.F.type_list_count Ra h (d8 h2 iU hst) Y hfew U hst O) λσ H Q L=>by
 refine D3.ex4 L λG ow δ d R K q=>?_
 refine D3.ex1 (bind1 K) λx E S=>?_
 refine D3.ex1 (bind1 S) λy I Z=>?_
 unfold vL at Z;split at Z
 .next l k=>
  cases N:jL l with
  |none=>rw[N]at Z;cases Z
  |some bs=>
   rw[N,aq]at Z
   cases Z;refine⟨G,ow,δ,_,R,E,λv H1 s1 r1=>?_⟩;have W:=r1;obtain⟨p,ys,rfl,hx,C⟩:=r1.lstE;refine⟨.inl ⟨rfl,_,hx⟩,G,ow,δ,_,R.grow s1,I,λu H2 s2 r2=>?_⟩;obtain rfl:=RA.blE r2;obtain⟨D,M,J,V,T⟩:=(RA.same s2 W).lstE
   cases J;obtain rfl:=sU N T;exact⟨p,bs,k,rfl,rfl,V,q _ H2 (s1.trans s2) (.inl ⟨rfl,.int _⟩)⟩
 .cases Z
end
end XN
namespace D3
noncomputable def MK(f:FE)(lo hi:FO):FE:=λδ=>(f δ).bind λx=>(lo δ).bind λa=>(hi δ).bind λb=>match x with
 | .str z=>if(Txt.slice z a b).length<=1000000 then some (.str (Txt.slice z a b))else none
 |_=>none
end D3
variable{z:Str}
namespace XW
open L2 My D3
section
variable{prog:dt}
theorem Gz{v:Value}{o:Option Int}(h:IsPart v o):∃p:Option (Int×Tok),v=partValue p/\o=p.map (·.1):=by
 cases h with
 |none=>exact⟨none,rfl,rfl⟩
 |int i t=>exact⟨some (i,t),rfl,rfl⟩
def Dp{t:Tok}{sl:Addr}{O q:Value}{lo hi:Option Int}(hs:s.heap.IsSliceOf sl O q .none)(pl:IsPart O lo)(U:IsPart q hi)(hz:(Txt.slice z lo hi).length<=sizeLine)
 (h:∀t' k,Q (.str (Txt.slice z lo hi) t') {s with toks:=k}):wpAny (model prog w) A (getItem (.str z t) (.ref sl)) Q E s:=by
 obtain⟨p1,rfl,rfl⟩:=Gz pl;obtain⟨p2,rfl,rfl⟩:=Gz U;have ps:s.heap.IsSlice sl p1 p2 none:=hs;unfold getItem
 try with_reducible refine aI ?_
 first|refine aa (ag ?_)|skip
 refine aa (bx (name:=eg "__getitem__") (cw s z t) slot_str_getitem (cz slot_str_getitem (cw s z t) F.entry_str_getitem (F.args_str_getitem_2 _ _) (meets_str_getitem_slice z t sl p1 p2 none rfl) ⟨ps,?_⟩));have e:((none:Option (Int×Tok)).map (·.1)).getD 1=1:=rfl;unfold sliceMade;split
 .next Y=>
  rw[Made.post.eq_1];refine ag ?_;have Z:Txt.slice z (p1.map (·.1)) (p2.map (·.1))=z:=if_pos Y;have:=h t s.toks;rw[Z]at this;exact this
 .next Y=>
  have Z:Txt.slice z (p1.map (·.1)) (p2.map (·.1))=⟨(List.filterMap (λi=>z.cps[i]?) (slicePicked z p1 p2 none)).toArray⟩:=if_neg Y;rw[Made.post.eq_3];rw[Z]at hz;refine⟨hz,ag ?_⟩;have:=h s.toks (s.toks+1);rw[Z]at this;exact this
end
section
variable{X:Cx}{fl:List Fl}{a b:Expr}{fa fe:FE}
def aq3:V->Option Int->Option Int->Hp->VK->Prop:=λx lo hi H Q=>∃z:Str,x = .str z/\(Txt.slice z lo hi).length<=sizeLine/\Q (.str (Txt.slice z lo hi)) H
def Y8:SlR X aq3:=by
 intro pins s σ H x v S T lo hi sl Q I Y U pl W h;obtain⟨z,rfl,V,q⟩:=h;obtain⟨t,rfl⟩:=(show ∃t,v=eQ z t from Y);exact⟨"str", _,slot_str_getitem.lookup,cw s z t,Dp U pl W V λZ k=>⟨.str _,H,I.tok _,⟨Z,rfl⟩,q⟩⟩
def Dq{lo hi:Option Expr}{fl1 O:FO}(h:DE X fl .P a f)(h1:PO X lo (tDO X.K fl fl1))(h2:PO X hi (tDO X.K fl O)):DE X fl .FC (.Subscript a (.Slice lo hi none p2) pos) (MK f fl1 O):=PE.imp (El Y8 h h1 h2) λσ H Q h=>by
 refine D3.ex4 h λG ow δ d R Z q=>?_
 refine D3.ex1 (bind1 Z) λx M Z=>?_
 refine D3.ex1 (bind1 Z) λU N Z=>?_
 refine D3.ex1 (bind1 Z) λV S Y=>?_
 refine⟨G,ow,δ,x,R,M,λv H1 s1 r1=>⟨G,ow,δ,U,R.grow s1,N,λH2 s2=>⟨G,ow,δ,V,R.grow (s1.trans s2),S,λL W=>?_⟩⟩⟩;split at Y
 .split at Y
  .next T=>
   cases Y;obtain rfl:=RA.strE r1;exact⟨_,rfl,bf T (by decide),q _ _ ((s1.trans s2).trans W) (.inl ⟨rfl,.str _⟩)⟩
  .cases Y
 .cases Y
end
end XW
namespace XI
open L2 My D3
def rR:D->D->Option D:=λx y=>match x,y with
 | .list l,.bool k=>(jL l).bind λbs=>if k∈bs then some (.int (bs.idxOf k:Nat))else none
 |_,_=>none
section
variable{X:Cx}
def MN:MtR X "list.index" (λx xs H Q=>∃(p:Addr)(bs:List Bool)(k:Bool),x = .ref p/\xs=[.bl k]/\SqL X.K H p (bs.map V.bl)/\k∈bs/\Q (.int (bs.idxOf k:Nat)) H):=by
 intro pins s σ H x xs v us Q I R P h;obtain⟨p,bs,k,rfl,rfl,hx,J,q⟩:=h
 cases R;obtain⟨u,rfl,O⟩:=vals1 P
 cases O;obtain⟨its,Z,pl,Y⟩:=I.list hx;obtain rfl:=XN.wL Z;obtain⟨⟨cls,dd,data,sl⟩,T,S,n,hd⟩:=id pl.isList;simp only at S hd;subst S hd;have U:bs.idxOf k<bs.length:=List.idxOf_lt_length_iff.mpr J;rw[aG]at Y;have N:bs.length<=16777216:=by rw[sizeLine_eq]at Y;exact Y
 refine cz PySem.F.slot_list_index ⟨_,T,rfl⟩ PySem.F.entry_list_index (PySem.F.args_list_index_2 _ _)
  (PySem.SeqAt.list_indexAt p (bs.map ef).toArray n dd sl (.bool k) (isBoolOf k) (bs.idxOf k) (by simpa using U) (by lia) ?_ ?_) ⟨T,λy M=>?_,⟨.int _,H,I.tok _,⟨_,rfl⟩,q⟩⟩
 .show isBoolOf k ((bs.map ef)[bs.idxOf k]'(by simpa using U))=true;rw[lD];have:=List.getElem_idxOf U;simp[isBoolOf,this]
 .intro j W L;show isBoolOf k ((bs.map ef)[j]'(by simpa using W))=false;rw[lD];have G:j<bs.length:=by lia
  have:bs[j]≠k:=λz=>by
   have h1:bs.idxOf k<=j:=by
    refine Nat.le_of_not_lt λy=>?_
    have:=List.not_of_lt_findIdx (p:=(· == k)) (xs:=bs) y;simp[z]at this
   lia
  simpa[isBoolOf]using this
 .obtain⟨b,_,rfl⟩:=aY.mp (List.mem_toArray.mp M);exact PySem.SeqAt.EqAt.bool_bool b k
def Dr{a:Expr}(h:DE X fl .P a f)(h2:DE X fl .P e fe)
 (Y:attributeBase a "index" X.env (eval a X.env)=eval a X.env:=by rfl)
 (hfew:((backTo cpos (starEach [e] X.env)).all (λx=>!x.1)&&(backToKw cpos (keywordEach [] X.env)).all (λx=>x.1.isSome)
  && decide (([e]:List Expr).length+([]:List eI).length+(if([]:List eI).isEmpty then 0 else 1)<30))=true:=by rfl)
 (U:(apos.endLine==cpos.line)=true:=by rfl) (hst:starEach [e] X.env=(false,eval e X.env)::starEach [] X.env:=by rfl) (O:(backTo cpos (starEach [] X.env)).any (·.1)=false:=by rfl) :
 DE X fl .FC (.Call (.Attribute a "index" apos) [e] [] cpos) (dOp rR f fe):=
 PE.imp (JH PySem.F.plainAttrs_list PySem.F.slot_list_index PySem.F.type_list_index MN h (d8 h2 iU hst) Y hfew U hst O) λσ H Q K=>by
 refine D3.ex4 K λG ow δ d R J q=>?_
 refine D3.ex1 (bind1 J) λx D N=>?_
 refine D3.ex1 (bind1 N) λy E Z=>?_
 unfold rR at Z;split at Z
 .next l k=>
  cases M:jL l with
  |none=>rw[M]at Z;cases Z
  |some bs=>
   rw[M,aq]at Z;by_cases S:k∈bs
   .rw[if_pos S]at Z
    cases Z;refine⟨G,ow,δ,_,R,D,λv H1 s1 r1=>?_⟩;have W:=r1;obtain⟨p,ys,rfl,hx,B⟩:=r1.lstE;refine⟨.inl ⟨rfl,_,hx⟩,G,ow,δ,_,R.grow s1,E,λu H2 s2 r2=>?_⟩;obtain rfl:=RA.blE r2;obtain⟨C,L,I,V,T⟩:=(RA.same s2 W).lstE
    cases I;obtain rfl:=sU M T;exact⟨p,bs,k,rfl,rfl,V,S,q _ H2 (s1.trans s2) (.inl ⟨rfl,.int _⟩)⟩
   .rw[if_neg S]at Z;cases Z
 .cases Z
end
end XI
namespace XI
open L2 My D3
section
variable{X:Cx}{fl:List Fl}{l:List Nat}{a b c:Expr}{fw gw:FTW}{fs gs:FS}
def Y9(h:DTW X fl a fw):DWW X fl (.BoolOp .Or [a] pos) fw:=Hq h
theorem af9(h1:DTW X fl a fw)(h2:DWW X fl (.BoolOp .Or (b::rest) pos) gw):DWW X fl (.BoolOp .Or (a::b::rest) pos) (Vb fw gw):=PW.imp (Nm h1 h2) λσ H Q h=>by
 obtain⟨G,ow,δ,k,δ',R,V,q⟩:=h;obtain⟨⟨t,Z⟩,U,W⟩:=bind1 V;refine⟨G,ow,δ,t,Z,R,U,λH' Y R'=>?_⟩
 cases t with
 |true=>cases W;exact v9 (q H' Y R')
 |false=>exact v8 ⟨G,Y,Z,k,δ',R',W,q⟩
theorem Y_(O:DTW X fl c fw)(h1:DWs X fl l body fs)(h2:DWs X fl l orelse gs):DW1 X fl l (.If c body orelse pos) (Jb fw fs gs):=PS.imp (Am O h1 h2) λDn σ H h=>by
 refine D3.ex4 h λG ow δ o R W q=>?_
 obtain⟨⟨t,δ'⟩,V,Y⟩:=bind1 W;refine⟨G,ow,δ,t,δ',R,V,λH' Z R'=>?_⟩
 cases t with
 |true=>exact v9 ⟨G,Z,δ',o,R',Y,q⟩
 |false=>exact v8 ⟨G,Z,δ',o,R',Y,q⟩
end
end XI
namespace XI
open D3
def Za{a b:FS}(h1:GoN a)(h2:GoN b):GoN (bU a b):=λδ o e=>by
 refine D3.ex1 (bind1 e) λZ X Y=>?_
 obtain⟨δ',rfl⟩:=h1 δ Z X;exact h2 δ' o Y
end XI
namespace XI
open L2 My D3
def GC(h:j<δ.length):aA j (δ.set j (some (.d d)))=some d:=by
 unfold aA;rw[bI h]
def Rc{a b i:Expr}{fa fi:FE}{p1 p3 p4 p5 p6 p7 p8 p9:Pos}(hfl:fl[j]? = some .A)(hN:X.N.Nodup)(hi:X.N[j]? = some x)(hv:X.env.scope.names.lookup x=some .local\/X.env.scope.names.lookup x=some .cell)(h1:DE X fl .C a fa)(h2:DE X fl .C b fb)(h3:DE X fl .P i fi)(hp:pR i)
 (hs1:swapsWith a (some (.Name x p1)) p2.line X.env=pure false:=by rfl) (hs2:swapsWith (.BinOp (.Name x p3) .Add b p4) (some (.Name x p5)) p6.line X.env=pure false:=by rfl) (O:X.fn x=true\/X.env.scope.names.lookup x=some .local:=by first|exact .inl rfl|exact .inr rfl)
 (hw:Vis X.env.scope x:=by first|exact Or.inl rfl|exact Or.inr (Or.inl rfl)|exact Or.inr (Or.inr rfl)) (hd:(x==("__debug__":Str))=false:=by decide) (hcd:(x==("__classdict__":Str))=false:=by decide) :
 DSs X fl [.Assign [.Name x p1] a p2,.Assign [.Name x p5] (.BinOp (.Name x p3) .Add b p4) p6,.Return (some (.Subscript (.Name x p7) i p8)) p9] (bU (bJ j fa) (bU (bJ j (dOp oX (aA j) fb)) (jg (dOp gIx (aA j) fi)))):=
 PSs.imp (lY (vY (i:=j) hN hi hv h1 hs1 O) (lY (vY (i:=j) hN hi hv (Jz Ci (iT hi hw hd hcd) h2) hs2 O) (sy (rm (En Bx (iT hi hw hd hcd) h3 hp))))) λDn σ H h=>by
 refine D3.ex4 h λG ow δ o R hf q=>?_
 refine D3.ex1 (bind1 hf) λo1 Q s=>?_
 unfold bJ at Q;by_cases V:j<δ.length
 case neg=>rw[if_neg V]at Q;cases Q
 rw[if_pos V]at Q;refine D3.ex1 (bind1 Q) λg n r=>?_
 cases r;refine D3.ex1 (bind1 s) λo2 t e4=>?_
 have Y:j<(δ.set j (some (U.d g))).length:=by rw[cg];exact V
 unfold bJ at t;rw[if_pos Y]at t;refine D3.ex1 (bind1 t) λd2 v y=>?_
 cases y;refine D3.ex2 (rF v) λx1 f f1 f2 W=>?_
 rw[GC V]at f1
 cases f1;refine D3.ex1 (bind1 e4) λd3 B D=>?_
 cases D;refine D3.ex2 (rF B) λx2 y2 g1 g2 g3=>?_
 rw[GC Y]at g1
 cases g1;refine⟨G,ow,δ,g,R,n,λc H1 s1 r1=>?_⟩;have T:=(R.grow s1).setA hfl (n6 R V) (Rs.C_A R r1);have li:j<σ.length:=n6 R V;refine⟨c,bI li,G,ow,_,f,T,f2,λu H2 s2 r2=>?_⟩;have I:RA X.K (λb=>okN G.H0 b/\okA ow b) false H1 c g:=RA.imp (λb z=>⟨R.same0.free z,sG R z⟩) (λz=>z) r1;have J:RA X.K (λb=>okN G.H0 b/\okA ow b) false H2 u f:=RA.imp (λb z=>⟨T.same0.free z,sG T z⟩) (λz=>z) r2;unfold oX at W;split at W
 case h_2=>cases W
 next l m=>
 by_cases z:l.length+m.length<=1000000
 case neg=>rw[if_neg z]at W;cases W
 rw[if_pos z]at W
 cases W;obtain⟨p,xs,rfl,hx,hr⟩:=RA.lstE I;obtain⟨p',ys,rfl,hy,S⟩:=RA.lstE J;refine⟨p,p',xs,ys,rfl,rfl,s2.seq hx,hy,?_,λpn Z=>?_⟩
 .rw[hr.length,S.length];exact bf z (by decide)
 have sn:=cP Z (.lst (xs++ys));have rr:RA X.K (λb=>okN G.H0 b/\okA ow b) false (upd H2 pn (.lst (xs++ys))) (.ref pn) (.list (l++m)):=.lst bM ⟨(R.same0.trans (s1.trans s2)).free Z,sG (T.grow s2) Z⟩ (((hr.same s2).append S).same sn);have R2:=(T.grow (s2.trans sn)).setA hfl (n6 T Y) (rr.imp (λb z=>z.2) (λz=>by cases z));refine⟨.ref pn,bI (by rw[cg];exact li),G,ow,_,y2,R2,g2,λk H3 s3 r3=>?_⟩;have L:=RA.same s3 rr;unfold gIx at g3;split at g3
 .next l' i' e=>
  cases e;obtain rfl:=RA.intE r3;obtain⟨p2,M,s,F,E⟩:=RA.lstE L
  cases s;obtain⟨w,ew,rw⟩:=E.at g3;exact .inl ⟨pn,M,i',w,rfl,rfl,F,ew,q w H3 (R2.grow s3).same0 (rw.imp (λb z=>z.1) (λz=>z))⟩
 .next e=>cases e
 .cases g3
end XI
namespace D3
def GD:D->D->Option D:=λx y=>match x with
 | .tuple ds=>if(dLq x&&dLq y)=true then some (.bool (!PyData.eqv x y))else @ite _ (x=y/\x.depth<=64/\tG ds=true) (eR _) (some (.bool false)) none
 |x=>xU x y
end D3
namespace XI
open L2 My D3 XK
def ag0(K:PySem.W.Frag):R2:=λx y H Q=>YD K x y H Q\/∃ds,RA K ok1 true H x (.tuple ds)/\RA K ok1 true H y (.tuple ds)/\(eb ds).depth<=64/\tG ds=true/\Q (.bl false) H
def Zb(O:X.A.units+64<cLine):OpR X (compareOp .NotEq) (ag0 X.K):=by
 intro pins s σ H x y v u Q I U V h;rcases h with h|⟨ds,r1,r2,hd,hn,q⟩
 .exact Qa O pins s σ H x y v u Q I U V h
 .obtain⟨a,xs,rfl,s1,q1⟩:=r1.tupE;obtain⟨b,ys,rfl,s2,q2⟩:=r2.tupE
  cases U;cases V;obtain⟨its,W,p1,P⟩:=I.tuple s1;obtain⟨Z,Y,p2,S⟩:=I.tuple s2;have T:(eb ds).depth=dn ds+1:=by simp[du]
  have l1:its.length=ds.length:=by rw[<-W.length,q1.length]
  have l2:Z.length=ds.length:=by rw[<-Y.length,q2.length]
  have R:=SeqAt.RcNeAt.tuples (A:=X.A) (e:=λ_=>true) p1 p2 (by lia) (λj g1 g2=>nD I ds q1 q2 W Y X.A.in1 (by simp only[bj];lia) hn j (by simpa using g1) (by simpa using g2));rw[show(!((b_ (min its.toArray.size Z.toArray.size)).all (λ_=>true)&&its.toArray.size==Z.toArray.size))=false by simp[l1,l2]]at R;exact R _ _ _ _ ⟨.bl false,H,I,rfl,q⟩
def ag1:BrO K (ag0 K) GD:=by
 intro H x y dx X d Q Y Z e q;unfold GD at e;split at e
 .next ds=>
  by_cases z:(dLq (.tuple ds)&&dLq X)=true
  .rw[if_pos z]at e
   cases e;rw[aO]at z;exact .inl (.inl ⟨_,X,Y.rd (ah z.1),Z.rd (ah z.2),z.1,z.2,q _ rfl (.bl _)⟩)
  .rw[if_neg z]at e;split at e
   .next c=>
    obtain⟨U,V,W⟩:=c;subst U
    cases e;exact .inr ⟨_,Y,Z,V,W,q _ rfl (.bl _)⟩
   .cases e
 .exact .inl (W2 H x y _ _ d Q Y Z e q)
end XI
namespace D3
end D3
namespace Ho
def ge(l:List Int)(L:Int):Nat:=(l.filter λx=>decide (L<=x)).length
end Ho
namespace D3
open L2 My
section
variable{X:Cx}{fl:List Fl}{a b:Expr}{es:List Expr}{fa:FE}{fr:FA}{k:Kd}
def vA(i:Nat) (q:fl[i]? = some .A:=by rfl) (Y:X.N[i]? = some t:=by rfl) (U:Vis X.env.scope t:=by first|exact Or.inl rfl|exact Or.inr (Or.inl rfl)|exact Or.inr (Or.inr rfl)) (hd:(t==("__debug__":Str))=false:=by decide)
 (O:(t==("__classdict__":Str))=false:=by decide):DE X fl .A (.Name t pos) (aA i):=BX i q Y U hd O
def vP(i:Nat) (q:fl[i]? = some .A:=by rfl) (Y:X.N[i]? = some t:=by rfl) (U:Vis X.env.scope t:=by first|exact Or.inl rfl|exact Or.inr (Or.inl rfl)|exact Or.inr (Or.inr rfl)) (hd:(t==("__debug__":Str))=false:=by decide)
 (O:(t==("__classdict__":Str))=false:=by decide):DE X fl .P (.Name t pos) (aA i):=d_ (BX i q Y U hd O)
def vB(i:Nat) (q:fl[i]? = some .A:=by rfl) (Y:X.N[i]? = some t:=by rfl) (U:Vis X.env.scope t:=by first|exact Or.inl rfl|exact Or.inr (Or.inl rfl)|exact Or.inr (Or.inr rfl)) (hd:(t==("__debug__":Str))=false:=by decide)
 (O:(t==("__classdict__":Str))=false:=by decide):DE X fl (.B []) (.Name t pos) (aA i):=kI (BX i q Y U hd O)
def iP{i j pos}:DE X fl .P (.Constant (.int i) j pos) (dC (.int i)):=bh oF
def iC{i j pos}:DE X fl .C (.Constant (.int i) j pos) (dC (.int i)):=bN oF
def dz:DB X fl k [] aW:=Yj
def dq(h:DE X fl k e f)(O:DB X fl k es fr)(U:isR k=true:=by rfl)(q:starEach (e::es) X.env=(false,eval e X.env)::starEach es X.env:=by exact dY rfl):DB X fl k (e::es) (aj f fr):=Ub U h O q
def dx(ha:DE X fl (.B L) a fa)(hb:DE X fl .P b fb)(q:pR b:=by exact λ_ _=>rfl):DE X fl .A (.Subscript a b pos) (dOp gIx fa fb):=ad0 ha hb q
def sA {i:Nat}(Z:X.N.Nodup) (h:DE X fl .A e f) (O:fl[i]? = some .A:=by rfl) (hi:X.N[i]? = some x:=by rfl) (U:X.env.scope.names.lookup x=some .local\/X.env.scope.names.lookup x=some .cell:=by first|exact Or.inl rfl|exact Or.inr rfl)
 (Y:swapsWith e (some (.Name x t)) pos.line X.env=pure false:=by rfl) (q:X.fn x=true\/X.env.scope.names.lookup x=some .local:=by first|exact .inl rfl|exact .inr rfl) :
 DS1 X fl (.Assign [.Name x t] e pos) (bJ i f):=T9 O Z hi U h Y q
def gN' {i:Nat}(Y:X.N.Nodup) (O:fl[i]? = some .A:=by rfl) (hi:X.N[i]? = some x:=by rfl) (U:X.env.scope.names.lookup x=some .local\/X.env.scope.names.lookup x=some .cell:=by first|exact Or.inl rfl|exact Or.inr rfl)
 (q:X.fn x=true\/X.env.scope.names.lookup x=some .local:=by first|exact .inl rfl|exact .inr rfl):DG X fl [i] (.Name x pos) (gNl i):=T_ O Y hi U q
end
def fsc (a:sc.kind = .function:=by rfl) (b:sc.isCoroutine=false:=by rfl) (c:sc.isGenerator=false:=by rfl) (d:N.Nodup:=by decide +kernel) (e:N.take k.length=k:=by rfl) (f:∀x∈k,sc.names.lookup x=some .local\/sc.names.lookup x=some .cell:=by decide +kernel) (g:∀y∈sc.names,y.2 ≠ .free:=by decide +kernel):FnScope N k sc:=⟨a,b,c,d,e,f,g⟩
end D3
variable{r:D3.DS}{x0 x1 x2 x3 x4 x5 x6 x7 x8 x9 x10:Option D3.U}
namespace D3
def qS(o:Option Oc)(b:FS):Option Oc:=o.bind λo=>match o with
 | .nx δ'=>b δ'
 |o=>some o
def qI(o:Option Bool)(a b:FS)(δ:DS):Option Oc:=o.bind λt=>if t=true then a δ else b δ
noncomputable def qO(g:D->D->Option D)(a b:Option D):Option D:=a.bind λx=>b.bind λy=>g x y
def qU(g:D->Option D)(a:Option D):Option D:=a.bind g
def qC(a:Option D)(r:Option (List D)):Option (List D):=a.bind λx=>r.bind λr=>some (x::r)
def qF(F:List D->Option D)(l:Option (List D)):Option D:=l.bind F
def qR(a:Option D):Option Oc:=a.bind λd=>some (.rt d)
def vM(i:Nat)(a:Option D)(δ:DS):Option Oc:=if i<δ.length then a.bind λd=>some (.nx (δ.set i (some (.d d))))else none
noncomputable def Rf(a:Option D)(fb:FE)(δ:DS):Option D:=a.bind λx=>match x with
 | .bool true=>fb δ
 | .bool false=>some (.bool false)
 |_=>none
def qOr(a:Option D)(fb:FE)(δ:DS):Option D:=a.bind λx=>match x with
 | .bool true=>some (.bool true)
 | .bool false=>fb δ
 |_=>none
def qN(a:Option D):Option D:=a.bind λx=>match x with
 | .bool b=>some (.bool (!b))
 |_=>none
def qB(a:Option D):Option Bool:=a.bind λx=>match x with
 | .bool b=>some b
 |_=>none
def qTA(a:Option Bool)(b:FT)(δ:DS):Option Bool:=a.bind λx=>if x=true then b δ else some false
def qTO(a:Option Bool)(b:FT)(δ:DS):Option Bool:=a.bind λx=>if x=true then some true else b δ
def qTN(a:Option Bool):Option Bool:=a.map λx=>!x
def qE(a:Option Bool)(fa fb:FE)(δ:DS):Option D:=a.bind λb=>if b=true then fa δ else fb δ
def qL(a:Option D):Option (List D):=a.bind asList
def ag2(a:Option (List D))(g:FG)(b:FS)(δ:DS):Option Oc:=a.bind λl=>oW g b l δ
def qD(a:Option DS):Option Oc:=a.bind λδ'=>some (.nx δ')
def qG(a:Option D)(g:FG)(δ:DS):Option Oc:=a.bind λd=>(g d δ).bind λδ'=>some (.nx δ')
def qGs(a:Option DS)(r:List D->DS->Option DS)(l:List D):Option DS:=a.bind λδ'=>r l δ'
def qT(a:Option (List D)):Option D:=a.bind λl=>if l.length<=sizeLine then some (.tuple l)else none
def qK(a:Option (List D)):Option D:=a.bind λl=>if l.length<=sizeLine then some (.list l)else none
def qFl(p:D->Bool)(a:Option D):Option D:=a.bind λd=>if p d=true then some d else none
noncomputable def qA(i:Nat)(x a:Option D)(δ:DS):Option Oc:=x.bind λx=>a.bind λd=>match x with
 | .list l=>if l.length<1000000 then some (.nx (δ.set i (some (.d (.list (l++[d]))))))else none
 |_=>none
def qP(i:Nat)(a x k:Option D)(δ:DS):Option Oc:=a.bind λd=>x.bind λx=>k.bind λk=>match x,k with
 | .list l,.int j=>(pIx l.length j).bind λn=>some (.nx (δ.set i (some (.d (.list (l.set n d))))))
 |_,_=>none
def qCh(g':D->D->Option D)(z:Option D)(y:Option D)(fc:FE)(δ:DS):Option D:=z.bind λz=>match z with
 | .bool true=>qO g' y (fc δ)
 | .bool false=>some (.bool false)
 |_=>none
noncomputable def qC0(g g':D->D->Option D)(a b:Option D)(fc:FE)(δ:DS):Option D:=a.bind λx=>b.bind λy=>(g x y).bind λz=>match z with
 | .bool true=>(fc δ).bind λw=>g' y w
 | .bool false=>some (.bool false)
 |_=>none
def qFn(o:Option Oc):Option D:=match o with
 |some (.rt d)=>some d
 |some (.nx _)=>some .none
 |_=>none
def qLs(a:Option (List D)):Option D:=a.bind λr=>some (.list r)
def qCo(a:Option (List D))(g:FG)(c:FT)(e:FE)(t:Nat)(ix:List Nat)(δ:DS):Option D:=a.bind λl=>if l.length<=100000 then(iB g c e (jY t ix δ) l).bind λr=>some (.list r)else none
section
variable{a b:FS}{c c':FT}{fa:FE}{fr:FA}{δ:DS}{g:D->D->Option D}{h:D->Option D}{F:List D->Option D}{i:Nat}{G:FG}{d:D}
theorem Rg:bU a b δ=qS (a δ) b:=rfl
theorem GF:qS (some (.nx δ')) b=b δ':=(rfl)
theorem Rh:qS (some (.rt d)) b=some (.rt d):=rfl
theorem Ri:qS (some (.bk δ')) b=some (.bk δ'):=rfl
theorem Rj:qS (some (.ct δ')) b=some (.ct δ'):=rfl
theorem ag3:fO δ=some (.nx δ):=rfl
theorem aq4:sBk δ=some (.bk δ):=rfl
theorem aq5:sCt δ=some (.ct δ):=rfl
theorem aq6:sIf c a b δ=qI (c δ) a b δ:=rfl
theorem Zc:qI (some true) a b δ=a δ:=(rfl)
theorem Zd:qI (some false) a b δ=b δ:=(rfl)
theorem v_op:dOp g fa fb δ=qO g (fa δ) (fb δ):=rfl
theorem Ze{x:D}:qO g (some x) (some y)=g x y:=(rfl)
theorem aq7:dUn h fa δ=qU h (fa δ):=rfl
theorem Zf{x:D}:qU h (some x)=h x:=(rfl)
theorem Zg:aW δ=some []:=rfl
theorem Vs:aj fa fr δ=qC (fa δ) (fr δ):=rfl
theorem MP{x:D}:qC (some x) (some l)=some (x::l):=rfl
theorem Zh:dCall F fr δ=qF F (fr δ):=rfl
theorem Rk:qF F (some l)=F l:=(rfl)
theorem ag4:jg fa δ=qR (fa δ):=rfl
theorem Vt:qR (some d)=some (.rt d):=rfl
theorem Zi:ac4 δ=some (.rt .none):=rfl
theorem ag5:bJ i fa δ=vM i (fa δ) δ:=rfl
theorem aq8:vM (i+12) (some d) δ=if i+12<δ.length then some (.nx (δ.set (i+12) (some (.d d))))else none:=(rfl)
theorem v_c:dC d δ=some d:=rfl
theorem v_and:TJ fa fb δ=Rf (fa δ) fb δ:=rfl
theorem Vu:Rf (some (.bool true)) fb δ=fb δ:=(rfl)
theorem Vv:Rf (some (.bool false)) fb δ=some (.bool false):=rfl
theorem v_or:dOr fa fb δ=qOr (fa δ) fb δ:=rfl
theorem Zj:qOr (some (.bool true)) fb δ=some (.bool true):=rfl
theorem Zk:qOr (some (.bool false)) fb δ=fb δ:=(rfl)
theorem v_not:Yc fa δ=qN (fa δ):=rfl
theorem Vw{b:Bool}:qN (some (.bool b))=some (.bool (!b)):=rfl
theorem aq9:bG fa δ=qB (fa δ):=rfl
theorem Zm{b:Bool}:qB (some (.bool b))=some b:=rfl
theorem Zn:D3.vX c c' δ=qTA (c δ) c' δ:=rfl
theorem Rm:qTA (some true) c δ=c δ:=(rfl)
theorem Rn:qTA (some false) c δ=some false:=rfl
theorem ag6:D3.tOr c c' δ=qTO (c δ) c' δ:=rfl
theorem Vx:qTO (some true) c δ=some true:=rfl
theorem Vy:qTO (some false) c δ=c δ:=(rfl)
theorem Zo:D3.mD c δ=qTN (c δ):=rfl
theorem Ro{b:Bool}:qTN (some b)=some (!b):=rfl
theorem v_ite:dIf c fa fb δ=qE (c δ) fa fb δ:=rfl
theorem Vz:qE (some true) fa fb δ=fa δ:=(rfl)
theorem VD:qE (some false) fa fb δ=fb δ:=(rfl)
theorem ag7:TX fa δ=qL (fa δ):=rfl
theorem VF:qL (some (.list l))=some l:=rfl
theorem ag8:yN fr G b δ=ag2 (fr δ) G b δ:=rfl
theorem VG:ag2 (some l) G b δ=oW G b l δ:=(rfl)
theorem M4:oW G b [] δ=some (.nx δ):=rfl
theorem ag9:ao9 fa G δ=qG (fa δ) G δ:=rfl
theorem VH:qG (some d) G δ=qD (G d δ):=(rfl)
theorem VJ:qD (some δ')=some (.nx δ'):=rfl
theorem ar0:gNl (i+12) d δ=if i+12<δ.length then some (δ.set (i+12) (some (.d d)))else none:=(rfl)
theorem ar3:gTn n gs (.tuple l) δ=if l.length=n then gs l δ else none:=(rfl)
theorem ah0:nu [] δ=some δ:=rfl
theorem ah1:fj G gs (d::l) δ=qGs (G d δ) gs l:=rfl
theorem VL:qGs (some δ') gs l=gs l δ':=(rfl)
theorem ah2:dTup fr δ=qT (fr δ):=rfl
theorem VN:qT (some l)=if l.length<=sizeLine then some (.tuple l)else none:=(rfl)
theorem ar4:d9 fr δ=qK (fr δ):=rfl
theorem Zq:qK (some l)=if l.length<=sizeLine then some (.list l)else none:=(rfl)
theorem Zr:jG fa δ=qFl flat (fa δ):=rfl
theorem ah3:wj fa δ=qFl fl1 (fa δ):=rfl
theorem Zt{p:D->Bool}:qFl p (some d)=if p d=true then some d else none:=(rfl)
theorem ah4:BR i fa δ=qA i (aA i δ) (fa δ) δ:=rfl
theorem VP:qA i (some (.list l)) (some d) δ=if l.length<1000000 then some (.nx (δ.set i (some (.d (.list (l++[d]))))))else none:=(rfl)
theorem ah5:ap0 i fk fa δ=qP i (fa δ) (aA i δ) (fk δ) δ:=rfl
theorem VR{j:Int}:qP i (some d) (some (.list l)) (some (.int j)) δ=(pIx l.length j).bind λn=>some (.nx (δ.set i (some (.d (.list (l.set n d)))))):=(rfl)
theorem V0:oE g g' fa fb fc δ=qC0 g g' (fa δ) (fb δ) fc δ:=rfl
theorem M5{x:D}:qC0 g g' (some x) (some y) fc δ=qCh g' (g x y) (some y) fc δ:=(rfl)
theorem M6{y:Option D}:qCh g' (some (.bool true)) y fc δ=qO g' y (fc δ):=(rfl)
theorem M7{y:Option D}:qCh g' (some (.bool false)) y fc δ=some (.bool false):=rfl
theorem ah6{p q:Nat}:fnD p q b ds=if ds.length=p then qFn (b (ds.map (λd=>some (.d d))++bK q none))else none:=(rfl)
theorem V1:qFn (some (.rt d))=some d:=rfl
theorem V2:qFn (some (.nx δ'))=some .none:=rfl
theorem Zu{t:Nat}:lZ fr G c fa t ix δ=qCo (fr δ) G c fa t ix δ:=rfl
theorem Rp{t:Nat}:qCo (some l) G c fa t ix δ=if l.length<=100000 then qLs (iB G c fa (jY t ix δ) l)else none:=(rfl)
theorem ar5:qLs (some l)=some (.list l):=rfl
theorem ah7:D3.yM δ=some true:=rfl
theorem Zv{x:D}:aA 0 (some (.d x)::r)=some x:=rfl
theorem Zw{y:Option U}:aA (i+1) (y::r)=aA i r:=rfl
theorem ar6:vM 0 (some d) (x0::r)=some (.nx (some (.d d)::r)):=rfl
theorem ar7:gNl 0 d (x0::r)=some (some (.d d)::r):=rfl
theorem ar8:vM 1 (some d) (x0::x1::r)=some (.nx (x0::some (.d d)::r)):=rfl
theorem ar9:gNl 1 d (x0::x1::r)=some (x0::some (.d d)::r):=rfl
theorem as3:vM 2 (some d) (x0::x1::x2::r)=some (.nx (x0::x1::some (.d d)::r)):=rfl
theorem as4:gNl 2 d (x0::x1::x2::r)=some (x0::x1::some (.d d)::r):=rfl
theorem as5:vM 3 (some d) (x0::x1::x2::x3::r)=some (.nx (x0::x1::x2::some (.d d)::r)):=rfl
theorem as6:gNl 3 d (x0::x1::x2::x3::r)=some (x0::x1::x2::some (.d d)::r):=rfl
theorem as7:vM 4 (some d) (x0::x1::x2::x3::x4::r)=some (.nx (x0::x1::x2::x3::some (.d d)::r)):=rfl
theorem as8:gNl 4 d (x0::x1::x2::x3::x4::r)=some (x0::x1::x2::x3::some (.d d)::r):=rfl
theorem as9:vM 5 (some d) (x0::x1::x2::x3::x4::x5::r)=some (.nx (x0::x1::x2::x3::x4::some (.d d)::r)):=rfl
theorem at5:gNl 5 d (x0::x1::x2::x3::x4::x5::r)=some (x0::x1::x2::x3::x4::some (.d d)::r):=rfl
theorem at6:vM 6 (some d) (x0::x1::x2::x3::x4::x5::x6::r)=some (.nx (x0::x1::x2::x3::x4::x5::some (.d d)::r)):=rfl
theorem at7:gNl 6 d (x0::x1::x2::x3::x4::x5::x6::r)=some (x0::x1::x2::x3::x4::x5::some (.d d)::r):=rfl
theorem at8:vM 7 (some d) (x0::x1::x2::x3::x4::x5::x6::x7::r)=some (.nx (x0::x1::x2::x3::x4::x5::x6::some (.d d)::r)):=rfl
theorem at9:gNl 7 d (x0::x1::x2::x3::x4::x5::x6::x7::r)=some (x0::x1::x2::x3::x4::x5::x6::some (.d d)::r):=rfl
theorem au0:vM 8 (some d) (x0::x1::x2::x3::x4::x5::x6::x7::x8::r)=some (.nx (x0::x1::x2::x3::x4::x5::x6::x7::some (.d d)::r)):=rfl
theorem au1:gNl 8 d (x0::x1::x2::x3::x4::x5::x6::x7::x8::r)=some (x0::x1::x2::x3::x4::x5::x6::x7::some (.d d)::r):=rfl
theorem au2:vM 9 (some d) (x0::x1::x2::x3::x4::x5::x6::x7::x8::x9::r)=some (.nx (x0::x1::x2::x3::x4::x5::x6::x7::x8::some (.d d)::r)):=rfl
theorem au3:gNl 9 d (x0::x1::x2::x3::x4::x5::x6::x7::x8::x9::r)=some (x0::x1::x2::x3::x4::x5::x6::x7::x8::some (.d d)::r):=rfl
theorem ah8:vM 10 (some d) (x0::x1::x2::x3::x4::x5::x6::x7::x8::x9::x10::r)=some (.nx (x0::x1::x2::x3::x4::x5::x6::x7::x8::x9::some (.d d)::r)):=rfl
theorem ah9:gNl 10 d (x0::x1::x2::x3::x4::x5::x6::x7::x8::x9::x10::r)=some (x0::x1::x2::x3::x4::x5::x6::x7::x8::x9::some (.d d)::r):=rfl
theorem ai0{q:Option U}:vM 11 (some d) (x0::x1::x2::x3::x4::x5::x6::x7::x8::x9::x10::q::r)=some (.nx (x0::x1::x2::x3::x4::x5::x6::x7::x8::x9::x10::some (.d d)::r)):=rfl
theorem ai1{q:Option U}:gNl 11 d (x0::x1::x2::x3::x4::x5::x6::x7::x8::x9::x10::q::r)=some (x0::x1::x2::x3::x4::x5::x6::x7::x8::x9::x10::some (.d d)::r):=rfl
end
section
variable{j:Int}{l m:List D}{d:D}
theorem ai2:lH (.int i) (.int j)=some (.int (i+j)):=rfl
theorem ai3:TQ (.int i) (.int j)=some (.int (i-j)):=rfl
theorem au4:gLt (.int i) (.int j)=some (.bool (decide (i<j))):=rfl
theorem au5:gLe (.int i) (.int j)=some (.bool (decide (i<=j))):=rfl
theorem au6:gGt (.int i) (.int j)=some (.bool (decide (j<i))):=rfl
theorem au7:gGe (.int i) (.int j)=some (.bool (decide (j<=i))):=rfl
theorem W7:gEq (.int i) (.int j)=some (.bool (decide (i=j))):=rfl
theorem ai4:gNe (.int i) (.int j)=some (.bool (!decide (i=j))):=rfl
theorem ai5:BW [.list l]=some (.int l.length):=rfl
theorem Zx:BW [.tuple l]=some (.int l.length):=rfl
theorem pG:∀ns:List Int,kE (ns.map .int)=some ns
 |[]=>rfl
 |n::r=>by rw[aN,kE,pG r];rfl
theorem ai6:ap2 [.int i]=some (.int (if i<0 then -i else i)):=rfl
theorem ai7:JN [.int i,.int j]=some (.int (if j>i then j else i)):=rfl
theorem ai8:JQ [.int i,.int j]=some (.int (if j<i then j else i)):=rfl
theorem ai9:rD (.int i)=some (.int (-i)):=rfl
theorem au8:gIx (.list l) (.int i)=pAt l i:=(rfl)
theorem aj0:gIx (.tuple l) (.int i)=pAt l i:=(rfl)
theorem W8:oX (.list l) (.list m)=if l.length+m.length<=1000000 then some (.list (l++m))else none:=(rfl)
theorem Rq:wY (.list l)=some (.list l):=rfl
theorem V3:wY (.tuple l)=some (.list l):=rfl
theorem aj1:pAt (d::l) 0=some d:=by
 unfold pAt pIx;rw[if_pos (by decide),if_pos (by simp)];rfl
end
noncomputable def aj2(i j:Nat)(a:Option (List D))(δ:DS):Option Oc:=a.bind λl=>match l with
 |[x,y]=>if i<δ.length/\j<δ.length then some (.nx ((δ.set i (some (.d x))).set j (some (.d y))))else none
 |_=>none
def Rr(a:Option (List D)):Option (List D):=a.bind λl=>match l with
 |[.int j]=>if tu j=true then some (iK 0 j)else none
 |_=>none
def Rt(a:Option (List D)):Option (List D):=a.bind λl=>match l with
 |[.int i,.int j]=>if(tu i&&tu j)=true then some (iK i j)else none
 |_=>none
def qSl(x:Option D)(a b:Option (Option Int)):Option D:=x.bind λx=>a.bind λa=>b.bind λb=>match x with
 | .list l=>some (.list (cuD l a b))
 |_=>none
def qOP(x:Option D):Option (Option Int):=x.bind λx=>match x with
 | .int i=>some (some i)
 |_=>none
def qEn(x:Option D):Option (List D):=x.bind λd=>match d with
 | .list l=>some (rE l)
 |_=>none
section
variable{a b:FS}{fa:FE}{fr:FA}{δ:DS}{i:Nat}{g:FG}
theorem aj3:ap3 i j fr δ=aj2 i j (fr δ) δ:=rfl
theorem V4{x:D}:aj2 i j (some [x,y]) δ=if i<δ.length/\j<δ.length then some (.nx ((δ.set i (some (.d x))).set j (some (.d y))))else none:=(rfl)
theorem Zy:uW fr δ=Rr (fr δ):=rfl
def M8 (h : -(2^62)<=k) (h2:k<2^62):Rr (some [.int k])=some (iK 0 k):=by
 show(if tu k=true then some (iK 0 k)else none)=_;rw[if_pos];unfold tu;rw[dTr h,dTr h2];rfl
theorem Zz:JL fr δ=Rt (fr δ):=rfl
def aj4{i k:Int}(h : -(2^62)<=k)(h2:k<2^62)(h3 : -(2^62)<=i)(h4:i<2^62):Rt (some [.int i,.int k])=some (iK i k):=by
 show(if(tu i&&tu k)=true then some (iK i k)else none)=_;rw[if_pos];unfold tu;rw[dTr h,dTr h2,dTr h3,dTr h4];rfl
theorem au9{lo hi:FO}:dSl fa lo hi δ=qSl (fa δ) (lo δ) (hi δ):=rfl
theorem ZC{p r:Option Int}:qSl (some (.list l)) (some p) (some r)=some (.list (cuD l p r)):=rfl
theorem av0:yP δ=some none:=rfl
theorem av1:yQ fa δ=qOP (fa δ):=rfl
theorem ZD{k:Int}:qOP (some (.int k))=some (some k):=rfl
theorem ZF:JR fa δ=qEn (fa δ):=rfl
theorem Ru:qEn (some (.list l))=some (rE l):=rfl
def vN(Inv:Nat->DS->Prop):∀(l:List D)(δ:DS),Inv 0 δ->(∀i d δ,l[i]? = some d->Inv i δ->∃q δ',g d δ=some q/\(b q=some (.nx δ')\/b q=some (.ct δ'))/\Inv (i+1) δ')->∃δ',oW g b l δ=some (.nx δ')/\Inv l.length δ':=by
 have V:∀(l:List D)(k:Nat)(δ:DS),Inv k δ->(∀i d δ,l[i]? = some d->Inv (k+i) δ->∃q δ',g d δ=some q/\(b q=some (.nx δ')\/b q=some (.ct δ'))/\Inv (k+i+1) δ')->∃δ',oW g b l δ=some (.nx δ')/\Inv (k+l.length) δ':=by
  intro l
  induction l with
  |nil=>exact λk δ h _=>⟨δ,rfl,h⟩
  |cons d r U=>
   intro k δ h X;obtain⟨q,δ',S,Y,T⟩:=X 0 d δ rfl h;obtain⟨W,P,Q⟩:=U (k+1) δ' T λi R Z hd hi=>by
    have:=X (i+1) R Z (by simpa using hd) (by rwa[show k+(i+1)=k+1+i by lia]);rwa[show k+(i+1)+1=k+1+i+1 by lia]at this
   refine⟨W,?_,by rwa[aX,show k+(r.length+1)=k+1+r.length by lia]⟩;rw[oW,S,aq];rcases Y with Y|Y
   .rwa[Y]
   .rwa[Y]
 intro l δ h X;have:=V l 0 δ h λi d δ hd hi=>by
  have:=X i d δ hd (by rw[pN]at hi;exact hi);rwa[pN]
 rwa[pN]at this
end
def qX(a:Option D)(δ:DS):Option Oc:=a.bind λ_=>some (.nx δ)
theorem ZG{fa:FE}:JK fa δ=qX (fa δ) δ:=rfl
theorem Rv:qX (some d) δ=some (.nx δ):=rfl
theorem Rw{q:D->D->Option D}{fa fb fc fd:FE}:JM g g' q fa fb fc fd δ=Rf (qO g (fa δ) (fb δ)) (oE g' q fb fc fd) δ:=by
 unfold JM Rf oE qO
 cases fa δ with
 |none=>rfl
 |some x=>cases fb δ<;>rfl
def qZ(a b:Option D):Option (List D):=a.bind λd=>b.bind λe=>match d,e with
 | .list l,.list m=>some (ud l m)
 |_,_=>none
theorem aj5{g:FE}:ap4 f g δ=qZ (f δ) (g δ):=rfl
theorem V5{m:List D}:qZ (some (.list l)) (some (.list m))=some (ud l m):=rfl
theorem av2{fa:FE}:dN1 fa δ=qFl (λd=>decide (nl d<=1)) (fa δ):=rfl
theorem aj6:flat .none=true:=rfl
theorem av3:flat (.bool b)=true:=rfl
theorem f_int:flat (.int i)=true:=rfl
theorem aj7:flat (.str x)=true:=rfl
theorem aj8:flat (.list l)=false:=rfl
theorem f_tup:flat (.tuple l)=flats l:=rfl
theorem aj9:flats []=true:=rfl
theorem ZJ:flats (d::l)=(flat d&&flats l):=rfl
theorem ZK:fl1 .none=true:=rfl
theorem ak0:fl1 (.bool b)=true:=rfl
theorem ZL:fl1 (.int i)=true:=rfl
theorem ZM:fl1 (.str x)=true:=rfl
theorem ZP:fl1 (.list l)=flats l:=rfl
theorem ZQ:fl1 (.tuple l)=flats l:=rfl
theorem av4{c:String}:gIs c (.int i)=some (.bool (isT c (tyD (.int i)))):=rfl
theorem ak1{c:String}:gIs c (.str x)=some (.bool (isT c (tyD (.str x)))):=rfl
theorem ak2:Ye d=some (.bool (isNone d)):=rfl
theorem ZR:ac5 d=some (.bool (!isNone d)):=rfl
theorem ak3:isNone .none=true:=rfl
theorem av5:isNone (.bool b)=false:=rfl
theorem ak4:isNone (.int i)=false:=rfl
theorem ak5:isNone (.str x)=false:=rfl
theorem ak6:isNone (.list l)=false:=rfl
theorem ak7:isNone (.tuple l)=false:=rfl
theorem ak8{l:List (D×D)}:isNone (.dict l)=false:=rfl
end D3
local macro_rules|`(tactic|simp![$xs,*]$[$l:location]?)=>do let a←("D3.ak1 D3.aj6 D3.av3 D3.f_int D3.aj7 D3.aj8 D3.f_tup D3.aj9 D3.ZJ D3.ZK D3.ak0 D3.ZL D3.ZM D3.ZP D3.ZQ D3.av4 D3.ak2 D3.ZR D3.ak3 D3.av5 D3.ak4 D3.ak5 D3.ak6 D3.ak7 D3.ak8 List.length_cons List.length_nil List.map_cons List.map_nil List.replicate_succ List.replicate_zero List.cons_append List.nil_append List.append_nil List.set_cons_zero List.set_cons_succ Nat.zero_add if_true decide_true decide_false Int.cast_ofNat_Int Bool.not_true Bool.not_false Bool.and_self D3.ar6 D3.ar7 D3.ar8 D3.ar9 D3.as3 D3.as4 D3.as5 D3.as6 D3.as7 D3.as8 D3.as9 D3.at5 D3.at6 D3.at7 D3.at8 D3.at9 D3.au0 D3.au1 D3.au2 D3.au3 D3.ah8 D3.ah9 D3.ai0 D3.ai1 D3.av2 D3.aj5 D3.V5 D3.ZG D3.Rv D3.Rw D3.Rg D3.GF D3.Rh D3.Ri D3.Rj D3.ag3 D3.aq4 D3.aq5 D3.aq6 D3.Zc D3.Zd D3.v_op D3.Ze D3.aq7 D3.Zf D3.Zg D3.Vs D3.MP D3.Zh D3.Rk D3.ag4 D3.Vt D3.Zi D3.ag5 D3.aq8 D3.v_c D3.v_and D3.Vu D3.Vv D3.v_or D3.Zj D3.Zk D3.v_not D3.Vw D3.aq9 D3.Zm D3.Zn D3.Rm D3.Rn D3.ag6 D3.Vx D3.Vy D3.Zo D3.Ro D3.v_ite D3.Vz D3.VD D3.ag7 D3.VF D3.ag8 D3.VG D3.M4 D3.ag9 D3.VH D3.VJ D3.ar0 D3.ar3 D3.ah0 D3.ah1 D3.VL D3.ah2 D3.VN D3.ar4 D3.Zq D3.Zr D3.ah3 D3.Zt D3.ah4 D3.VP D3.ah5 D3.VR D3.V0 D3.M6 D3.M7 D3.ah6 D3.V1 D3.V2 D3.Zu D3.Rp D3.ar5 D3.M5 D3.ah7 D3.Zv D3.Zw D3.ai2 D3.ai3 D3.au4 D3.au5 D3.au6 D3.au7 D3.W7 D3.ai4 D3.ai5 D3.Zx D3.ai6 D3.ai7 D3.ai8 D3.ai9 D3.au8 D3.aj0 D3.W8 D3.Rq D3.V3 D3.aj1 D3.aj3 D3.V4 D3.Zy D3.Zz D3.au9 D3.ZC D3.av0 D3.av1 D3.ZD D3.ZF D3.Ru Int.reduceEq Int.reduceLE Int.reduceLT Nat.reduceAdd Nat.reduceEqDiff Nat.reduceLT Nat.reduceLeDiff reduceIte".splitOn " ").toArray.mapM λs=>`(Lean.Parser.Tactic.simpLemma|$(Lean.mkIdent s.toName):ident);`(tactic|simp only[$a,*,$xs,*]$[$l]?)
namespace My
noncomputable def xJ(ns:List Int)(i:Int):Int:=
 if i<(ns.length:Int)then ns.getD i.toNat 0%1000000007
 else if ns=[]then 7919*i+5000011
 else ns.getD (i*7%(ns.length:Int)).toNat 0%1000000007+7919*i
def divs(n:Int):Nat->Int
 |0=>n
 |k+1=>divs n k/1000003
noncomputable def KN(c i k m:Int):Int:=
 (((c+65537*i+3)*(1299709+15485863*k)%2147483629*((c+65537*i+3)*(1299709+15485863*k)%2147483629)%1500450271+104729) *
  ((c+65537*i+3)*(1299709+15485863*k)%2147483629*((c+65537*i+3)*(1299709+15485863*k)%2147483629)%1500450271+104729))%715827883/64%m
def iJ(ns:List Int)(i k m:Int):Int:=
 if i<(ns.length:Int)/\10^40<=ns.getD i.toNat 0/\0<divs (ns.getD i.toNat 0) k.toNat then divs (ns.getD i.toNat 0) k.toNat%1000003%m
 else KN (xJ ns i) i k m
def iu(ns:List Int)(i k:Int) {m:Int}(h:0<m):0<=iJ ns i k m/\iJ ns i k m<m:=by
 unfold iJ KN;split
 .exact⟨mC _ (by lia),jV _ h⟩
 .exact⟨mC _ (by lia),jV _ h⟩
def M9 (h1:i<(ns.length:Int)) (h2:10^40<=ns.getD i.toNat 0) (h3:0<divs (ns.getD i.toNat 0) k.toNat) :
 iJ ns i k q=divs (ns.getD i.toNat 0) k.toNat%1000003%q:=by
 unfold iJ;rw[if_pos ⟨h1,h2,h3⟩]
def uy (h:¬(i<(ns.length:Int)/\10^40<=ns.getD i.toNat 0/\0<divs (ns.getD i.toNat 0) k.toNat)) :
 iJ ns i k q=KN (xJ ns i) i k q:=by
 unfold iJ;rw[if_neg h]
end My
namespace Com
open D3
def eG:List D->Option D:=fnD 1 0 (jg (TJ (dUn (gIs "int") (aA 0)) (Yc (dUn (gIs "bool") (aA 0)))))
def iQ:List D->Option D:=fnD 2 0 (bU (sIf (bG (dOp gLt (aA 1) (dCall BW (aj (aA 0) (aW))))) (jg (dOp mF (dOp gIx (aA 0) (aA 1)) (dC (.int 1000000007)))) (fO))
    (bU (sIf (bG (dOp gEq (aA 0) (d9 (aW)))) (jg (dOp lH (dOp pY (dC (.int 7919)) (aA 1)) (dC (.int 5000011)))) (fO))
    (jg (dOp lH (dOp mF (dOp gIx (aA 0) (dOp mF (dOp pY (aA 1) (dC (.int 7))) (dCall BW (aj (aA 0) (aW))))) (dC (.int 1000000007))) (dOp pY (dC (.int 7919)) (aA 1))))))
def bR:List D->Option D:=fnD 4 2 (bU (sIf (D3.vX (bG (dOp gLt (aA 1) (dCall BW (aj (aA 0) (aW))))) (bG (dOp gGe (dOp gIx (aA 0) (aA 1)) (dOp Ob (dC (.int 10)) (dC (.int 40)))))) (bU (bJ 4 (dOp gIx (aA 0) (aA 1)))
    (bU (yN (uW (aj (aA 2) (aW))) (gNl 5) (bJ 4 (dOp Eu (aA 4) (dC (.int 1000003)))))
    (sIf (bG (dOp gGt (aA 4) (dC (.int 0)))) (jg (dOp mF (dOp mF (aA 4) (dC (.int 1000003))) (aA 3))) (fO)))) (fO))
    (bU (bJ 4 (dOp mF (dOp pY (dOp lH (dOp lH (dCall iQ (aj (aA 0) (aj (aA 1) (aW)))) (dOp pY (dC (.int 65537)) (aA 1))) (dC (.int 3))) (dOp lH (dC (.int 1299709)) (dOp pY (dC (.int 15485863)) (aA 2)))) (dC (.int 2147483629))))
    (bU (bJ 4 (dOp lH (dOp mF (dOp pY (aA 4) (aA 4)) (dC (.int 1500450271))) (dC (.int 104729))))
    (jg (dOp mF (dOp Eu (dOp mF (dOp pY (aA 4) (aA 4)) (dC (.int 715827883))) (dC (.int 64))) (aA 3))))))
def iW:List D->Option D:=fnD 3 1 (bU (bJ 3 (dOp gIx (d9 (aj (d9 (aj (dC (.int 1)) (aj (dC (.int 2)) (aj (dC (.int 3)) (aj (dC (.int 4)) (aW)))))) (aj (d9 (aj (dC (.int 1)) (aj (dC (.int 1)) (aj (dC (.int 2)) (aj (dC (.int 2)) (aW)))))) (aj (d9 (aj (dC (.int 2)) (aj (dC (.int 3)) (aj (dC (.int 3)) (aj (dC (.int 4)) (aW)))))) (aj (d9 (aj (dC (.int 1)) (aj (dC (.int 2)) (aj (dC (.int 2)) (aj (dC (.int 3)) (aW)))))) (aW)))))) (dCall bR (aj (aA 0) (aj (aA 1) (aj (dC (.int 1)) (aj (dC (.int 4)) (aW))))))))
    (jg (lZ (uW (aj (dCall bR (aj (aA 0) (aj (aA 1) (aj (dC (.int 0)) (aj (dOp lH (aA 2) (dC (.int 1))) (aW)))))) (aW))) (gNl 0) (yM) (jG (dOp gIx (aA 1) (dCall bR (aj (aA 2) (aj (dOp lH (aA 3) (dC (.int 1))) (aj (aA 0) (aj (dC (.int 4)) (aW)))))))) 1 [3,0,1])))
def fU:List D->Option D:=fnD 3 0 (jg (lZ (JR (aA 0)) (gTn 2 (fj (gNl 0) (fj (gNl 1) (nu)))) (D3.vX (bG (dOp gGe (aA 1) (aA 2))) (bG (dOp vo (aA 0) (aA 3)))) (jG (aA 0)) 2 [2,1]))
def eN:List D->Option D:=fnD 3 0 (jg (Ka (aj (lZ (Ft (aA 1)) (gNl 0) (bG (dOp gGe (dOp gIx (aA 3) (aA 0)) (aA 2))) (dOp zj (aA 1) (aA 0)) 1 [1,2,0]) (aW)) (aA 2)))
def iY:List D->Option D:=fnD 3 2 (bU (bJ 3 (d9 (aj (aA 2) (aW))))
    (bU (wu (bG (dOp gEq (dCall fU (aj (aA 0) (aj (aA 1) (aj (dOp gIx (aA 3) (dUn rD (dC (.int 1)))) (aW))))) (d9 (aW)))) (bU (bJ 4 (dCall eN (aj (aA 0) (aj (aA 1) (aj (dOp gIx (aA 3) (dUn rD (dC (.int 1)))) (aW))))))
    (bU (sIf (bG (dOp gGe (aA 4) (dOp gIx (aA 3) (dUn rD (dC (.int 1)))))) (jg (dC (.none))) (fO))
    (BR 3 (aA 4)))))
    (jg (wj (aA 3)))))
def eY:List D->Option D:=fnD 4 0 (jg (jG (dOp gIx (lZ (TX (dCall zm (aj (aA 1) (aW)))) (gNl 0) (D3.vX (bG (dOp gGe (dOp gIx (aA 3) (aA 0)) (aA 1))) (bG (dOp gEq (dOp zj (aA 4) (aA 0)) (aA 2)))) (jG (aA 0)) 1 [2,3,0,1]) (dC (.int 0)))))
def j6:List D->Option D:=fnD 3 5 (bU (bJ 3 (dOp gIx (dCall fU (aj (aA 0) (aj (aA 1) (aj (dOp gIx (aA 2) (dUn rD (dC (.int 1)))) (aW))))) (dC (.int 0))))
    (bU (bJ 4 (d9 (aW)))
    (bU (yN (TY (dOp Fv (aA 2) (dSl (aA 2) (yQ (dC (.int 1))) yP))) (gTn 2 (fj (gNl 5) (fj (gNl 6) (nu)))) (bU (bJ 7 (dCall eY (aj (aA 0) (aj (aA 1) (aj (aA 5) (aj (aA 6) (aW)))))))
    (bU (BR 4 (dTup (aj (aA 7) (aj (aA 3) (aW)))))
    (bJ 3 (aA 7)))))
    (jg (dTup (aj (wj (aA 4)) (aj (jG (aA 3)) (aW))))))))
def jt:List D->Option D:=fnD 3 0 (jg (dCall HJ (aj (lZ (JR (aA 0)) (gTn 2 (fj (gNl 0) (fj (gNl 1) (nu)))) (bG (dOp gGe (aA 1) (aA 2))) (dOp gGe (zp (aA 3) (aA 0) (dC (.int 0))) (aA 2)) 2 [2,1]) (aW))))
def iZ:List D->Option D:=fnD 3 2 (bU (bJ 3 (wj (dCall iY (aj (aA 0) (aj (aA 1) (aj (aA 2) (aW)))))))
    (bU (sIf (bG (dUn Ye (aA 3))) (jg (dTup (aj (dC (.str "full")) (aj (dCall Ew (aj (lZ (JL (aj (dC (.int 1)) (aj (dOp lH (aA 2) (dC (.int 1))) (aW)))) (gNl 0) (bG (dCall jt (aj (aA 1) (aj (aA 2) (aj (aA 0) (aW)))))) (jG (aA 0)) 1 [0,1]) (aW))) (aW))))) (fO))
    (bU (bJ 4 (dN1 (dCall j6 (aj (aA 0) (aj (aA 1) (aj (aA 3) (aW)))))))
    (jg (dTup (aj (dC (.str "in")) (aj (dOp gIx (aA 4) (dC (.int 0))) (aj (dOp gIx (aA 4) (dC (.int 1))) (aj (wj (aA 3)) (aW))))))))))
def bW:List D->Option D:=fnD 3 0 (jg (TJ (dCall eG (aj (aA 0) (aW))) (oE gLe gLe (aA 1) (aA 0) (aA 2))))
end Com
namespace Com
open D3 My
def pH(q:0<=i)(h1:i<ns.length):pAt (ns.map dm) i=some (.int (ns.getD i.toNat 0)):=by
 unfold pAt pIx;rw[aG,if_pos q,if_pos h1,aq,aP];have h:i.toNat<ns.length:=by lia
 rw[aK h];simp[List.getD,h]
def qp{k:Nat}:pAt l (k:Int)=l[k]?:=by
 unfold pAt pIx;rw[if_pos (by lia)];by_cases h:k<l.length
 .rw[if_pos (by lia),aq];simp
 .rw[if_neg (by lia),bD (by lia)];rfl
def at0 : pAt (q::l) 0=some q:=qp (k:=0)
def at1 {b:D}: pAt (q::b::l) 1=some b:=qp (k:=1)
def zT {j:Int}(h:0<j):mF (.int i) (.int j)=some (.int (i%j)):=by
 show(if decide (j≠0)=true then some (dm (i.fmod j))else none)=_;rw[if_pos (dTr (by lia)),Int.fmod_eq_emod_of_nonneg i (by lia)]
def Rx{j:Int}(h:j.natAbs<2^64):j.natAbs<2^9000:=bV h (Nat.pow_le_pow_right (by decide) (by decide))
def av6 (h:0<k) (h2:k.natAbs<2^9000):Eu (.int i) (.int k)=some (.int (i/k)):=by
 show(if HD i k=true then some (dm (i.fdiv k))else none)=_;have e:HD i k=true:=by
  unfold HD;rw[aO];exact⟨dTr (by lia),dTr h2⟩
 rw[if_pos e,Int.fdiv_eq_ediv_of_nonneg i (by lia)]
def ak9 (h:0<k) (h2:k<18446744073709551616):Eu (.int i) (.int k)=some (.int (i/k)):=av6 h (Rx (by lia))
def mulL {j:Int}(h1 : -18446744073709551616<i) (h2:i<18446744073709551616):pY (.int i) (.int j)=some (.int (i*j)):=by
 show(if yO i j=true then some (dm (i*j))else none)=_;have e:yO i j=true:=by
  unfold yO;rw[dTr (show i.natAbs<2^64 by lia)];rfl
 rw[if_pos e]
def mulR (h1 : -18446744073709551616<k) (h2:k<18446744073709551616):pY (.int i) (.int k)=some (.int (i*k)):=by
 show(if yO i k=true then some (dm (i*k))else none)=_;have e:yO i k=true:=by
  unfold yO;rw[dTr (show k.natAbs<2^64 by lia),jy];rfl
 rw[if_pos e]
def W9:Ob (.int 10) (.int 40)=some (.int (10^40)):=rfl
def sz(h:n<=1000000):n<=sizeLine:=bf h (by decide)
def shaped_ints(ns:List Int):dLq (.list (ns.map dm))=true:=by
 have h1:∀ns:List Int,ee (ns.map dm)=true:=λns=>by
  induction ns with
  |nil=>rfl
  |cons a r Z=>simp[ee,dP,Z]
 have h2:∀ns:List Int,dn (ns.map dm)<=1:=λns=>by
  induction ns with
  |nil=>simp[dn]
  |cons a r Z=>simp[dn,du];lia
 unfold dLq;rw[aO];refine⟨by simp[dP,h1],dTr ?_⟩;have:=h2 ns;simp only[du];lia
theorem eq_empty(ns:List Int):gEq (.list (ns.map dm)) (.list [])=some (.bool (decide (ns=[]))):=by
 unfold gEq;rw[shaped_ints ns]
 cases ns with
 |nil=>rfl
 |cons a r=>rfl
def M_(q:0<=i):iQ [.list (ns.map .int),.int i]=some (.int (xJ ns i)):=by
 unfold iQ xJ;by_cases h:i<(ns.length:Int)
 .rw[if_pos h];simp![lMp,dTr h,pH q h,zT (show(0:Int)<1000000007 by decide)]
 .rw[if_neg h];by_cases hn:ns=[]
  .rw[if_pos hn];simp![lMp,dFa h,eq_empty,dTr hn,g_,mulL (show(-18446744073709551616:Int)<7919 by decide) (show(7919:Int)<18446744073709551616 by decide)]
  .rw[if_neg hn];have X:0<ns.length:=by
    cases ns with
    |nil=>exact absurd rfl hn
    |cons _ _=>simp
   have Y:0<=i*7%(ns.length:Int):=mC _ (by lia);have Z:i*7%(ns.length:Int)<(ns.length:Int):=jV _ (by lia);simp![lMp,dFa h,eq_empty,dFa hn,g_,mulL (show(-18446744073709551616:Int)<7919 by decide) (show(7919:Int)<18446744073709551616 by decide),mulR (show(-18446744073709551616:Int)<7 by decide) (show(7:Int)<18446744073709551616 by decide),zT (show(0:Int)<1000000007 by decide),zT (show(0:Int)<ns.length by lia),pH Y Z]
theorem Bt {l:D}{i m:D}(n:Int):∀(q:List D)(c:Nat)(y:Option U),(∀j∈q,∃x,j = .int x)->∃O,oW (gNl 5) (bJ 4 (dOp Eu (aA 4) (dC (.int 1000003)))) q [some (.d l),some (.d i),some (.d k),some (.d m),some (.d (.int (divs n c))),y] =
 some (.nx [some (.d l),some (.d i),some (.d k),some (.d m),some (.d (.int (divs n (c+q.length)))),O])
 |[],c,y,_=>⟨y,rfl⟩
 |j::q,c,y,h=>by
  obtain⟨O,e⟩:=Bt (l:=l) (i:=i) (k:=k) (m:=m) n q (c+1) (some (.d j)) λj' Z=>h j' (aH _ Z)
  refine⟨O,?_⟩;rw[oW];simp![ak9 (show(0:Int)<1000003 by decide) (show(1000003:Int)<18446744073709551616 by decide),aq];rw[show c+(q.length+1)=c+1+q.length by lia,<-e];rfl
def Nb(lo hi:Int):∀j∈iK lo hi,∃x,j = .int x:=by
 intro j Z;obtain⟨k,_,rfl⟩:=aY.mp Z;exact⟨_,rfl⟩
def jB {m:Int}(q:0<=i) (O:0<=k) (hk:k<=1000) (hm:0<m):bR [.list (ns.map .int),.int i,.int k,.int m]=some (.int (iJ ns i k m)):=by
 have rest:∀x y:Option U,qFn ((bU (bJ 4 (dOp mF (dOp pY (dOp lH (dOp lH (dCall iQ (aj (aA 0) (aj (aA 1) (aW)))) (dOp pY (dC (.int 65537)) (aA 1))) (dC (.int 3))) (dOp lH (dC (.int 1299709)) (dOp pY (dC (.int 15485863)) (aA 2)))) (dC (.int 2147483629))))
  (bU (bJ 4 (dOp lH (dOp mF (dOp pY (aA 4) (aA 4)) (dC (.int 1500450271))) (dC (.int 104729))))
  (jg (dOp mF (dOp Eu (dOp mF (dOp pY (aA 4) (aA 4)) (dC (.int 715827883))) (dC (.int 64))) (aA 3))))) [some (.d (.list (ns.map .int))),some (.d (.int i)),some (.d (.int k)),some (.d (.int m)),x,y])=some (.int (KN (xJ ns i) i k m)):=by
  intro x y;simp![M_ q,mulL (show(-18446744073709551616:Int)<65537 by decide) (show(65537:Int)<18446744073709551616 by decide),mulL (show(-18446744073709551616:Int)<15485863 by decide) (show(15485863:Int)<18446744073709551616 by decide),mulR (i:=xJ ns i+65537*i+3) (show(-18446744073709551616:Int)<1299709+15485863*k by lia) (show 1299709+15485863*k<(18446744073709551616:Int)by lia),zT (show(0:Int)<2147483629 by decide)]
  simp only[mulL (show(-18446744073709551616:Int)<(xJ ns i+65537*i+3)*(1299709+15485863*k)%2147483629 by lia) (show(xJ ns i+65537*i+3)*(1299709+15485863*k)%2147483629<(18446744073709551616:Int)by lia)];simp![zT (show(0:Int)<1500450271 by decide)];rw[mulL (by lia) (by lia)];simp![zT (show(0:Int)<715827883 by decide),ak9 (show(0:Int)<64 by decide) (show(64:Int)<18446744073709551616 by decide),zT hm];rfl
 unfold bR;rw[ah6];simp![];by_cases h:i<(ns.length:Int)
 .by_cases h2:10^40<=ns.getD i.toNat 0
  .simp![lMp,dTr h,pH q h,W9,dTr h2];obtain⟨Z,e⟩:=Bt (l:=.list (ns.map .int)) (i:=.int i) (k:=.int k) (m:=.int m) (ns.getD i.toNat 0) (iK 0 k) 0 none (Nb 0 k);have Y:0+(iK 0 k).length=k.toNat:=by simp[iK]
   rw[Y]at e;have X:oW (gNl 5) (bJ 4 (dOp Eu (aA 4) (dC (.int 1000003)))) (iK 0 k) [some (.d (.list (ns.map .int))),some (.d (.int i)),some (.d (.int k)),some (.d (.int m)),some (.d (.int (ns.getD i.toNat 0))),none] =
    some (.nx [some (.d (.list (ns.map .int))),some (.d (.int i)),some (.d (.int k)),some (.d (.int m)),some (.d (.int (divs (ns.getD i.toNat 0) k.toNat))),Z]):=e
   rw[M8 (by lia) (by lia)];simp![X];by_cases h3:0<divs (ns.getD i.toNat 0) k.toNat
   .simp![dTr h3,zT (show(0:Int)<1000003 by decide),zT hm];rw[M9 h h2 h3]
   .simp![dFa h3];rw[uy (λz=>h3 z.2.2)];have:=rest (some (.d (.int (divs (ns.getD i.toNat 0) k.toNat)))) Z;simp![]at this;exact this
  .simp![lMp,dTr h,pH q h,W9,dFa h2];rw[uy (λz=>h2 z.2.1)];have:=rest none none;simp![]at this;exact this
 .simp![lMp,dFa h];rw[uy (λz=>h z.1)];have:=rest none none;simp![]at this;exact this
end Com
namespace Com
open D3 My
theorem cEx{α:Type}{g:FG}{c:FT}{e:FE}(f:α->D)(P:α->Prop):∀l:List D,(∀d∈l,∃q x,g d δ=some q/\c q=some true/\P x/\e q=some (f x))->∃xs:List α,xs.length=l.length/\(∀x∈xs,P x)/\iB g c e δ l=some (xs.map f)
 |[],_=>⟨[],rfl,(λ_ h=>by cases h),rfl⟩
 |d::r,Z=>by
  obtain⟨q,x,T,U,X,V⟩:=Z d aJ;obtain⟨xs,l1,h1,W⟩:=cEx f P r λx hx=>Z x (aH _ hx)
  refine⟨x::xs,by simp[l1],λy Y=>?_,?_⟩
  .rcases aL.mp Y with rfl|z
   .exact X
   .exact h1 y z
  .rw[iB,T,aq,U,aq,if_pos rfl,V,aq,W];rfl
theorem GJ {g:FG}{c:FT}{e:FE}(f:α->D) (p:α->Bool) (h:α->D):∀l:List α,(∀s∈l,∃q,g (f s) δ=some q/\c q=some (p s)/\(p s=true->e q=some (h s)))->iB g c e δ (l.map f)=some ((l.filter p).map h)
 |[],_=>rfl
 |s::r,Y=>by
  obtain⟨q,V,W,X⟩:=Y s aJ;have Z:=GJ f p h r λx hx=>Y x (aH _ hx)
  rw[aN,iB,V,aq,W,aq];by_cases c:p s=true
  .rw[if_pos c,X c,aq,Z,lE,if_pos c];rfl
  .rw[if_neg c,Z,lE,if_neg c]
theorem V6 (f:α->D) (h:α->D):∀l:List α,(∀s∈l,∃q,k (f s) δ=some q/\t q=some true/\B q=some (h s))->iB k t B δ (l.map f)=some (l.map h)
 |[],_=>rfl
 |s::r,Z=>by
  obtain⟨q,W,X,Y⟩:=Z s aJ;rw[aN,iB,W,aq,X,aq,if_pos rfl,Y,aq,V6 f h r λx hx=>Z x (aH _ hx)];rfl
theorem sY (f:α->D) (h:∀a,flat (f a)=true):∀l:List α,flats (l.map f)=true
 |[]=>rfl
 |a::r=>by rw[aN,flats,h,sY f h r];rfl
def uz(l:List Int):flats (l.map dm)=true:=sY _ (λ_=>rfl) l
def at2{a b c:D}:pAt (a::b::c::l) 2=some c:=qp (k:=2)
def at3{a b c:D}:pAt (a::b::c::d::l) 3=some d:=qp (k:=3)
def at4{a b c e:D}:pAt (a::b::c::d::e::l) 4=some e:=qp (k:=4)
def Ds{α:Type}(f:α->D){l:List α}{i:Int}(q:0<=i)(h1:i<l.length):∃a∈l,pAt (l.map f) i=some (f a):=by
 have Z:i.toNat<l.length:=by lia
 refine⟨l[i.toNat],iG Z,?_⟩;obtain⟨k,rfl⟩:∃k:Nat,i=(k:Int):=⟨i.toNat,by lia⟩;rw[qp,aP];simp only[nU]at Z ⊢;rw[aK Z];rfl
def vO : (iK 0 k).length=k.toNat:=by unfold iK;rw[aG,jj,uL]
def V7{m:Int}(h:d∈iK 0 m):∃k:Nat,(k:Int)<m/\d = .int (k:Int):=by
 unfold iK at h;obtain⟨k,Z,rfl⟩:=aY.mp h;have:=dD.mp Z;exact⟨k,by lia,by rw[Int.zero_add]⟩
def KQ(m:Int):iK 0 m=(b_ m.toNat).map λk:Nat=>dm (k:Int):=by
 unfold iK;rw[uL];apply eU;intro k _;rw[Int.zero_add]
def Jh{m:Int}{i:Nat}(h:(iK 0 m)[i]? = some d):(i:Int)<m/\d = .int (i:Int):=by
 rw[KQ,aP]at h;by_cases hi:i<m.toNat
 .rw[mK hi]at h
  cases h;exact⟨by lia,rfl⟩
 .rw[bD (by simpa using hi)]at h
  cases h
def al0{j:Int}(h:0<j):0<=i%j/\i%j<j:=⟨mC _ (by lia),jV _ h⟩
def al1 (h:0<=k):cuD l (some k) none=l.drop k.toNat:=by
 unfold cuD;have e:pSx l.length 0 (some k)=min k.toNat l.length:=by
  show(if k<0 then _ else _)=_;rw[if_neg (by lia)]
 rw[e,show pSx l.length l.length none=l.length from rfl];by_cases c:k.toNat<=l.length
 .rw[show min k.toNat l.length=k.toNat by lia,List.take_of_length_le (by rw[List.length_drop];lia)]
 .rw[show min k.toNat l.length=l.length by lia,pO (by lia),pO (by lia)];simp
def isList:D3.isT "list" "list"=true:=rfl
mutual
theorem eqv_refl:∀d:D,d.canLay0=true->dA d d=true
 | .none,_=>by simp[dA]
 | .bool b,_=>by simp[dA]
 | .int i,_=>by simp[dA]
 | .str x,_=>by simp[dA]
 | .list l,h=>by
  have:=eqvAll_refl l (by simpa[dP]using h);simpa[dA]using this
 | .tuple l,h=>by
  have:=eqvAll_refl l (by simpa[dP]using h);simpa[dA]using this
 | .dict l,h=>by simp[dP]at h
theorem eqvAll_refl:∀l:List D,ee l=true->PyData.eqvAll l l=true
 |[],_=>by simp[PyData.eqvAll]
 |d::r,h=>by
  rw[ee,aO]at h;rw[PyData.eqvAll,eqv_refl d h.1,eqvAll_refl r h.2];rfl
end
def ly(n:Nat)(d:D):Prop:=d.canLay0=true/\d.depth<=n
def lys(n:Nat)(l:List D):Prop:=ee l=true/\dn l<=n
def xK (h:ly n d) (l:n<=k):ly k d:=⟨h.1,bf h.2 l⟩
def V8:lys n []:=⟨by simp[ee],by simp[dn]⟩
def Ry(h:ly n d)(q:lys n l):lys n (d::l):=
 ⟨by rw[ee,h.1,q.1];rfl,by have:=h.2;have:=q.2;simp only[dn];lia⟩
def V9(h:lys n l):ly (n+1) (.list l):=⟨by simp[dP,h.1],by have:=h.2;simp only[du];lia⟩
def ZS(h:lys n l):ly (n+1) (.tuple l):=⟨by simp[dP,h.1],by have:=h.2;simp only[du];lia⟩
def ZV:ly (n+1) (.int i):=⟨rfl,by simp[du]⟩
def jC(h:ly 60 d):dLq d=true:=by
 unfold dLq;rw[aO];exact⟨h.1,dTr (by have:=h.2;lia)⟩
def eq_self(h:ly 60 d):gEq d d=some (.bool true):=by
 unfold gEq;rw[jC h,eqv_refl d h.1];rfl
def ne_self(h:ly 60 d):gNe d d=some (.bool false):=by
 unfold gNe;rw[jC h,eqv_refl d h.1];rfl
end Com
namespace Com
open D3 My
def Rz:zj (dcD qs) (.int i)=(fW qs i).map .int:=by
 unfold zj;rw[o8];rfl
def al2:Pu (.int i) (dcD qs)=some (.bool (fW qs i).isSome):=by
 unfold Pu;rw[o8];rfl
def RB:vo (.int i) (dcD qs)=some (.bool (!(fW qs i).isSome)):=by
 unfold vo;rw[o8];rfl
def V_(h:qs.length<64):zm [dcD qs]=some (.list ((xR (qs.map (·.1))).map .int)):=by
 unfold zm;dsimp only;rw[o8,aq,if_pos h]
def qKG(x k z:Option D):Option D:=match x,k,z with
 |some x,some (.int i),some (.int j)=>(o7 x).map λqs=>.int ((fW qs i).getD j)
 |_,_,_=>none
theorem Wa{fx fk fz:FE}:zp fx fk fz δ=qKG (fx δ) (fk δ) (fz δ):=by
 unfold zp qKG
 cases fx δ with
 |none=>rfl
 |some x=>
  rw[aq]
  cases fk δ with
  |none=>rfl
  |some k=>
   rw[aq]
   cases fz δ with
   |none=>cases k<;>rfl
   |some z=>
    rw[aq]
    cases k<;>cases z<;>first|(cases o7 x<;>rfl;done)|(dsimp only;cases o7 x<;>rfl)
def Nf{j:Int}:qKG (some (dcD qs)) (some (.int i)) (some (.int j))=some (.int ((fW qs i).getD j)):=by
 unfold qKG;dsimp only;rw[o8];rfl
def KR:fW [] i=none:=rfl
def pI{q:Int×Int}:fW (q::qs) i=if q.1=i then some q.2 else fW qs i:=by
 unfold fW;rw[mz];by_cases h:q.1=i
 .simp[h]
 .simp[h]
theorem Dt{j:Int}:∀{qs:List (Int×Int)},fW qs i=some j->(i,j)∈qs
 |[],h=>by cases h
 |q::qs,h=>by
  rw[pI]at h;by_cases c:q.1=i
  .rw[if_pos c]at h
   cases h;rw[<-c];exact aJ
  .rw[if_neg c]at h;exact aH _ (Dt h)
theorem jZ{j:Int}:∀{qs:List (Int×Int)},(qs.map (·.1)).Nodup->(i,j)∈qs->fW qs i=some j
 |[],_,h=>by cases h
 |q::qs,nd,h=>by
  rw[aN,cF]at nd;rw[pI];rcases aL.mp h with z|z
  .rw[<-z,if_pos rfl]
  .rw[if_neg (λe=>nd.1 (aY.mpr ⟨_,z,e.symm⟩))];exact jZ nd.2 z
theorem rT:(fW qs i).isSome=true<->i∈qs.map (·.1):=by
 induction qs with
 |nil=>simp[fW]
 |cons q qs Z=>
  rw[pI,aN,aL];by_cases c:q.1=i
  .rw[if_pos c];simp[c]
  .rw[if_neg c,Z]
   constructor
   .exact .inr
   .rintro(z|z)
    .exact absurd z.symm c
    .exact z
structure Gst(rs:List Int)(qs:List (Int×Int)):Prop where
 nd:(qs.map (·.1)).Nodup
 rg:∀q∈qs,0<=q.1/\q.1<rs.length/\1<=q.2/\q.2<=rs.getD q.1.toNat 0
def Gst.len(h:Gst rs qs):qs.length<=rs.length:=by
 have h1:(qs.map (·.1)).Nodup:=h.nd;have h2:(qs.map λq=>q.1.toNat).Nodup:=by
  have:(qs.map λq=>q.1.toNat)=(qs.map (·.1)).map Int.toNat:=by rw[bZ];rfl
  rw[this];refine List.Pairwise.map _ (λa b Z=>Z) (fy (S:=λa b=>a.toNat≠b.toNat) ?_ h1);intro a b ha hb Z e;obtain⟨q,Y,rfl⟩:=aY.mp ha;obtain⟨r,X,rfl⟩:=aY.mp hb;have:=h.rg q Y;have:=h.rg r X;lia
 have:(qs.map λq=>q.1.toNat) ⊆ b_ rs.length:=λx hx=>by
  obtain⟨q,Y,rfl⟩:=aY.mp hx;have:=h.rg q Y;exact dD.mpr (by lia)
 have:=List.Nodup.length_le_of_subset h2 this;simpa using this
def Gst.nil(rs:List Int):Gst rs []:=⟨List.nodup_nil,λ_ h=>by cases h⟩
def Du(fs:List Int):rE (fs.map .int)=(b_ fs.length).map λk:Nat=>eb [.int (k:Int),.int (fs.getD k 0)]:=by
 unfold rE;apply ji;intro i;rw[lX,aP,aP];by_cases h:i<fs.length
 .have e:fs.getD i 0=fs[i]:=by rw[dF,aK h];rfl
  rw[mK h,aK h,fZ,fZ,fZ,e]
 .rw[bD (by simpa using h),bD (by simpa using h)];rfl
def frR(rs:List Int)(qs:List (Int×Int))(k:Int):List Nat:=(b_ rs.length).filter λr=>decide (k<=rs.getD r 0) && !(fW qs (r:Int)).isSome
def pJ{k:Int}(q:rs.length<=1000):fU [.list (rs.map .int),dcD qs,.int k]=some (.list ((frR rs qs k).map λr:Nat=>dm (r:Int))):=by
 have e:iB (gTn 2 (fj (gNl 0) (fj (gNl 1) (nu)))) (D3.vX (bG (dOp gGe (aA 1) (aA 2))) (bG (dOp vo (aA 0) (aA 3)))) (jG (aA 0)) (jY 2 [2,1] [some (.d (.list (rs.map .int))),some (.d (dcD qs)),some (.d (.int k))]) (rE (rs.map .int))=some ((frR rs qs k).map λr:Nat=>dm (r:Int)):=by
  rw[Du];refine GJ (λr:Nat=>eb [.int (r:Int),.int (rs.getD r 0)]) _ (λr:Nat=>dm (r:Int)) (b_ rs.length) λr Y=>?_
  refine⟨[some (.d (.int (r:Int))),some (.d (.int (rs.getD r 0))),some (.d (.int k)),some (.d (dcD qs))],rfl,?_,λ_=>?_⟩
  .by_cases c:k<=rs.getD r 0
   .simp![dTr c,RB];rfl
   .simp![dFa c];rfl
  .simp![]
 have Z:(rE (rs.map .int)).length<=100000:=by rw[Du,aG,jj];lia
 unfold fU;simp![Z,e]
def Ji{a m:Int}(ha:0<=a)(hm:0<=m)(q:m<=100):∃rs:List Int,iW [.list (ns.map .int),.int a,.int m]=some (.list (rs.map .int))/\(rs.length:Int)<=m/\∀r∈rs,1<=r/\r<=4:=by
 have p1:=iu ns a 1 (m:=4) (by decide);have S:=iu ns a 0 (m:=m+1) (by lia);obtain⟨ks,V,X,Y⟩:∃ks:List Int,pAt ([[1,2,3,4],[1,1,2,2],[2,3,3,4],[1,2,2,3]].map λl:List Int=>eF (l.map .int)) (iJ ns a 1 4)=some (.list (ks.map .int))/\(∀r∈ks,1<=r/\r<=4)/\ks.length=4:=by
  obtain⟨ks,hm,e⟩:=Ds (λl:List Int=>eF (l.map .int)) (l:=[[1,2,3,4],[1,1,2,2],[2,3,3,4],[1,2,2,3]]) p1.1 (by simpa using p1.2);refine⟨ks,e,?_⟩;simp only[aL,cO,or_false]at hm;rcases hm with rfl|rfl|rfl|rfl<;>exact⟨by simp,rfl⟩
 obtain⟨rs,h1,h2,h3⟩:=cEx (g:=(gNl 0)) (c:=(D3.yM)) (e:=(jG (dOp gIx (aA 1) (dCall bR (aj (aA 2) (aj (dOp lH (aA 3) (dC (.int 1))) (aj (aA 0) (aj (dC (.int 4)) (aW))))))))) (δ:=jY 1 [3,0,1] [some (.d (.list (ns.map .int))),some (.d (.int a)),some (.d (.int m)),some (.d (.list (ks.map .int)))]) dm (λr=>1<=r/\r<=4) (iK 0 (iJ ns a 0 (m+1))) (by
  intro d hd;obtain⟨k,W,rfl⟩:=V7 hd;have p:=iu ns (a+1) (k:Int) (m:=4) (by decide);have U:pAt (ks.map dm) (iJ ns (a+1) (k:Int) 4)=some (.int (ks.getD (iJ ns (a+1) (k:Int) 4).toNat 0)):=pH p.1 (by rw[Y];exact p.2);have hx:ks.getD (iJ ns (a+1) (k:Int) 4).toNat 0∈ks:=by
   have Z:(iJ ns (a+1) (k:Int) 4).toNat<ks.length:=by rw[Y];lia
   rw[dF,aK Z];exact iG Z
  refine⟨[some (.d (.int (k:Int))),some (.d (.list (ks.map .int))),some (.d (.list (ns.map .int))),some (.d (.int a))],_,rfl,rfl,X _ hx,?_⟩;simp![jB (ns:=ns) (i:=a+1) (k:=(k:Int)) (m:=4) (by lia) (by lia) (by lia) (by decide),U])
 refine⟨rs,?_,?_,h2⟩
 .unfold iW;have T:(iK 0 (iJ ns a 0 (m+1))).length<=100000:=by rw[vO];lia
  have es:pAt [eF [.int 1,.int 2,.int 3,.int 4],.list [.int 1,.int 1,.int 2,.int 2],.list [.int 2,.int 3,.int 3,.int 4],.list [.int 1,.int 2,.int 2,.int 3]] (iJ ns a 1 4)=some (.list (ks.map .int)):=V;simp![jB (ns:=ns) (i:=a) (k:=1) (m:=4) ha (by decide) (by decide) (by decide),jB (ns:=ns) (i:=a) (k:=0) (m:=m+1) ha (by decide) (by decide) (by lia),es,sz (show 0+1+1+1+1<=1000000 by decide),sz (show 4<=1000000 by decide),M8 (show -(2^62)<=iJ ns a 0 (m+1)by lia) (show iJ ns a 0 (m+1)<2^62 by lia),T,h3]
 .rw[h1,vO];lia
end Com
namespace Com
open D3 My
def getD_mem{r:Nat}(h:r<rs.length):rs.getD r 0∈rs:=by
 rw[dF,aK h];exact iG h
end Com
variable{k0:D3.D}{f:Int}
namespace Com
open D3 My
def Jj{α:Type}(f:α->Bool)(l:List α):HJ [.list (l.map λa=>d5 (f a))]=some (.bool (l.all f)):=by
 have:jL (l.map λa=>d5 (f a))=some (l.map f):=by
  induction l with
  |nil=>rfl
  |cons a r Z=>rw[aN,jL,Z];rfl
 show(jL (l.map λa=>d5 (f a))).map _=_;rw[this,fZ,List.all_map];rfl
def GK:pAt (l++[d]) (-1)=some d:=by
 unfold pAt pIx;rw[bB,jf,if_neg (by decide),if_pos (by lia)];show(l++[d])[(-1+((l.length+1:Nat):Int)).toNat]? = some d;rw[show(-1+((l.length+1:Nat):Int)).toNat=l.length by lia,cA (aV _),Nat.sub_self];rfl
def KY(q:0<=i)(h1:i<rs.length):pAt (rs.map dm) i=some (.int (rs.getD i.toNat 0)):=pH q h1
def qMD(l:Option (List D))(z:Option D):Option D:=match l,z with
 |some [.list m],some z=>match kE m with
  |some (i::r)=>some (.int (mnI i r))
  |some []=>if flat z=true then some z else none
  |none=>none
 |_,_=>none
theorem ZW{fz:FE}:Ka fa fz δ=qMD (fa δ) (fz δ):=by
 unfold Ka qMD
 cases fa δ with
 |none=>rfl
 |some l=>
  rw[aq]
  cases fz δ with
  |none=>
   match l with
   |[]=>rfl
   |[.list m]=>rfl
   |[.none]=>rfl
   |[.bool _]=>rfl
   |[.int _]=>rfl
   |[.str _]=>rfl
   |[.tuple _]=>rfl
   |[.dict _]=>rfl
   |a::b::r=>cases a<;>rfl
  |some z=>
   rw[aq]
   match l with
   |[]=>rfl
   |[.list m]=>
    dsimp only
    cases e:kE m with
    |none=>rfl
    |some ns=>
     cases ns with
     |nil=>rfl
     |cons i r=>
      dsimp only;unfold Od;dsimp only;rw[e]
   |[.none]=>rfl
   |[.bool _]=>rfl
   |[.int _]=>rfl
   |[.str _]=>rfl
   |[.tuple _]=>rfl
   |[.dict _]=>rfl
   |a::b::r=>cases a<;>rfl
noncomputable def wsR(rs:List Int)(qs:List (Int×Int))(k:Int):List Int:=(qs.filter λq=>decide (k<=rs.getD q.1.toNat 0)).map (·.2)
def lwR(rs:List Int)(qs:List (Int×Int))(k:Int):Int:=match wsR rs qs k with
 |[]=>k
 |i::r=>mnI i r
def qKy(x:Option D):Option (List D):=match x with
 |some x=>(o7 x).map λqs=>qs.map λq=>.int q.1
 |none=>none
def v_keys{f:FE}:Ft f δ=qKy (f δ):=by
 unfold Ft qKy
 cases f δ<;>rfl
def RD:qKy (some (dcD qs))=some (qs.map λq=>.int q.1):=by
 unfold qKy;dsimp only;rw[o8];rfl
theorem uD{k:Int}(G:Gst rs qs)(O:rs.length<=1000):eN [.list (rs.map .int),dcD qs,.int k]=some (.int (lwR rs qs k)):=by
 have e:iB (gNl 0) (bG (dOp gGe (dOp gIx (aA 3) (aA 0)) (aA 2))) (dOp zj (aA 1) (aA 0)) (jY 1 [1,2,0] [some (.d (.list (rs.map .int))),some (.d (dcD qs)),some (.d (.int k))]) (qs.map λq=>dm q.1)=some ((wsR rs qs k).map dm):=by
  rw[GJ (λq:Int×Int=>dm q.1) (λq=>decide (k<=rs.getD q.1.toNat 0)) (λq=>dm q.2) qs λq Z=>?_]
  .unfold wsR;rw[bZ];rfl
  .obtain⟨Y,g1,g2,g3⟩:=G.rg q Z;have X:=KY (rs:=rs) Y g1;have V:fW qs q.1=some q.2:=jZ G.nd Z;refine⟨[some (.d (.int q.1)),some (.d (dcD qs)),some (.d (.int k)),some (.d (.list (rs.map .int)))],rfl,?_,λ_=>?_⟩
   .simp![X]
   .simp![Rz,V,fZ]
 have W:(qs.map λq=>dm q.1).length<=100000:=by rw[aG];have:=G.len;lia
 unfold eN;simp![ZW,v_keys,RD,W,e];unfold lwR qMD;dsimp only;rw[pG]
 cases wsR rs qs k with
 |nil=>rfl
 |cons i r=>rfl
def Dv{k j:Int}:j∈wsR rs qs k<->∃i,(i,j)∈qs/\k<=rs.getD i.toNat 0:=by
 unfold wsR;rw[aY]
 constructor
 .rintro⟨q,Z,rfl⟩;obtain⟨h1,h2⟩:=dI.mp Z;exact⟨q.1,h1,of_decide_eq_true h2⟩
 .rintro⟨i,h1,h2⟩;exact⟨(i,j),dI.mpr ⟨h1,dTr h2⟩,rfl⟩
theorem RG{k:Int}(h:lwR rs qs k<k):lwR rs qs k∈wsR rs qs k:=by
 unfold lwR at h ⊢
 cases e:wsR rs qs k with
 |nil=>rw[e]at h;simp at h
 |cons i r=>exact(uX r i).1
theorem al3{k j:Int}(h:j∈wsR rs qs k):lwR rs qs k<=j:=by
 unfold lwR
 cases e:wsR rs qs k with
 |nil=>rw[e]at h;cases h
 |cons i r=>rw[e]at h;exact(uX r i).2 j h
def zU{k:Int}(G:Gst rs qs)(h:lwR rs qs k<k):1<=lwR rs qs k:=by
 obtain⟨i,h1,_⟩:=Dv.mp (RG h);exact(G.rg _ h1).2.2.1
inductive Ch(rs:List Int)(qs:List (Int×Int)):Int->List Int->Prop
 |stop {f:Int}:frR rs qs f≠[]->Ch rs qs f []
 |step {f:Int} {r:List Int}:frR rs qs f=[]->lwR rs qs f<f->Ch rs qs (lwR rs qs f) r->Ch rs qs f (lwR rs qs f::r)
inductive Dead(rs:List Int)(qs:List (Int×Int)):Int->Prop
 |here {f:Int}:frR rs qs f=[]->f<=lwR rs qs f->Dead rs qs f
 |step {f:Int}:frR rs qs f=[]->lwR rs qs f<f->Dead rs qs (lwR rs qs f)->Dead rs qs f
theorem W_(G:Gst rs qs):∀(n:Nat)(f:Int),f.toNat<=n->1<=f->(∃r,Ch rs qs f r)\/Dead rs qs f
 |0,f,h,h1=>by lia
 |n+1,f,h,h1=>by
  by_cases c:frR rs qs f=[]
  .by_cases Z:lwR rs qs f<f
   .have:=zU G Z;rcases W_ G n (lwR rs qs f) (by lia) this with⟨r,Y⟩|hd
    .exact .inl ⟨_,.step c Z Y⟩
    .exact .inr (.step c Z hd)
   .exact .inr (.here c (by lia))
  .exact .inl ⟨[],.stop c⟩
def Jk{k:Int}{r:Nat}:r∈frR rs qs k<->r<rs.length/\k<=rs.getD r 0/\fW qs (r:Int)=none:=by
 unfold frR;rw[dI,dD,aO,decide_eq_true_eq]
 cases fW qs (r:Int)<;>simp
def vQ(l:List Nat):gEq (.list (l.map λr:Nat=>dm (r:Int))) (.list [])=some (.bool (decide (l=[]))):=by
 have:=eq_empty (l.map λr:Nat=>(r:Int));rw[bZ]at this;rw[show(l.map λr:Nat=>dm (r:Int))=l.map (dm∘λr:Nat=>(r:Int))from rfl,this]
 cases l<;>simp
theorem al4{r:List Int}(G:Gst rs qs)(O:rs.length<=1000)(h:Ch rs qs f r):∀(pre:List Int)(y:Option U),(pre.length:Int)+f<=1000->1<=f ->
 ∃n q,gO (bG (dOp gEq (dCall fU (aj (aA 0) (aj (aA 1) (aj (dOp gIx (aA 3) (dUn rD (dC (.int 1)))) (aW))))) (d9 (aW)))) (bU (bJ 4 (dCall eN (aj (aA 0) (aj (aA 1) (aj (dOp gIx (aA 3) (dUn rD (dC (.int 1)))) (aW)))))) (bU (sIf (bG (dOp gGe (aA 4) (dOp gIx (aA 3) (dUn rD (dC (.int 1)))))) (jg (dC (.none))) (fO)) (BR 3 (aA 4)))) n [some (.d (.list (rs.map .int))),some (.d (dcD qs)),some (.d k0),some (.d (.list ((pre++[f]).map .int))),y]=some (.nx [some (.d (.list (rs.map .int))),some (.d (dcD qs)),some (.d k0),some (.d (.list ((pre++f::r).map .int))),q]):=by
 induction h with
 |stop c=>
  rename_i f;intro pre y X W;have Z:pAt (pre.map dm++[.int f]) (-1)=some (.int f):=GK;refine⟨1,y,?_⟩;rw[gO,cj,aN,dR];simp![Z,pJ O,vQ,dFa c,sz (show 0<=1000000 by decide),aq,fH]
 |step c T S Y=>
  rename_i f r;intro pre y X W;have Z:pAt (pre.map dm++[.int f]) (-1)=some (.int f):=GK;have p1:=zU G T;obtain⟨n,q,e⟩:=Y (pre++[f]) (some (.d (.int (lwR rs qs f)))) (by rw[bB];simp;lia) p1;refine⟨n+1,q,?_⟩;have V:¬f<=lwR rs qs f:=by lia
  have hlen:(pre.map dm++[dm f]).length<1000000:=by rw[bB,aG];simp;lia
  rw[gO,cj,aN,dR];simp![Z,pJ O,vQ,dTr c,uD G O,dFa V,hlen,sz (show 0<=1000000 by decide),aq];rw[cj,cj,aN,aN,dR]at e;rw[show pre++f::lwR rs qs f::r=(pre++[f])++lwR rs qs f::r by simp];exact e
theorem Wb(G:Gst rs qs)(q:rs.length<=1000)(h:Dead rs qs f):∀(pre:List Int)(y:Option U),(pre.length:Int)+f<=1000->1<=f ->
 ∃n,gO (bG (dOp gEq (dCall fU (aj (aA 0) (aj (aA 1) (aj (dOp gIx (aA 3) (dUn rD (dC (.int 1)))) (aW))))) (d9 (aW)))) (bU (bJ 4 (dCall eN (aj (aA 0) (aj (aA 1) (aj (dOp gIx (aA 3) (dUn rD (dC (.int 1)))) (aW)))))) (bU (sIf (bG (dOp gGe (aA 4) (dOp gIx (aA 3) (dUn rD (dC (.int 1)))))) (jg (dC (.none))) (fO)) (BR 3 (aA 4)))) n [some (.d (.list (rs.map .int))),some (.d (dcD qs)),some (.d k0),some (.d (.list ((pre++[f]).map .int))),y]=some (.rt .none):=by
 induction h with
 |here c Y=>
  rename_i f;intro pre y W V;have Z:pAt (pre.map dm++[.int f]) (-1)=some (.int f):=GK;refine⟨1,?_⟩;rw[gO,cj,aN,dR];simp![Z,pJ q,vQ,dTr c,uD G q,dTr Y,sz (show 0<=1000000 by decide),aq]
 |step c Y S X=>
  rename_i f;intro pre y W V;have Z:pAt (pre.map dm++[.int f]) (-1)=some (.int f):=GK;have p1:=zU G Y;obtain⟨n,e⟩:=X (pre++[f]) (some (.d (.int (lwR rs qs f)))) (by rw[bB];simp;lia) p1;refine⟨n+1,?_⟩;have T:¬f<=lwR rs qs f:=by lia
  have hlen:(pre.map dm++[dm f]).length<1000000:=by rw[bB,aG];simp;lia
  rw[gO,cj,aN,dR];simp![Z,pJ q,vQ,dTr c,uD G q,dFa T,hlen,sz (show 0<=1000000 by decide),aq];rw[cj,cj,aN,aN,dR]at e;exact e
def RJ{r:List Int}(G:Gst rs qs)(q:rs.length<=1000)(U:1<=f)(O:f<=900)(h:Ch rs qs f r):iY [.list (rs.map .int),dcD qs,.int f]=some (.list ((f::r).map .int)):=by
 obtain⟨n,Y,e⟩:=al4 (k0:=.int f) G q h [] none (by simp;lia) U;have Z:=Ay e;simp only[eX,aN,dR]at Z;have fl:flats (dm f::r.map dm)=true:=uz (f::r);unfold iY;simp![sz (show 0+1<=1000000 by decide)];rw[Z];simp![fl]
def Jl(G:Gst rs qs)(q:rs.length<=1000)(U:1<=f)(O:f<=900)(h:Dead rs qs f):iY [.list (rs.map .int),dcD qs,.int f]=some .none:=by
 obtain⟨n,e⟩:=Wb (k0:=.int f) G q h [] none (by simp;lia) U;have Z:=Ay e;simp only[eX,aN,dR]at Z;unfold iY;simp![sz (show 0+1<=1000000 by decide)];rw[Z];simp![]
end Com
namespace Com
open D3 My
def lvR(rs:List Int)(qs:List (Int×Int))(L:Int):Bool:=((b_ rs.length).filter λr=>decide (L<=rs.getD r 0)).all λr=>decide (L<=(fW qs ((r:Nat):Int)).getD 0)
def Jm{L:Int}:lvR rs qs L=true<->∀r:Nat,r<rs.length->L<=rs.getD r 0->L<=(fW qs (r:Int)).getD 0:=by
 unfold lvR;rw[fG]
 constructor
 .intro h r Z Y;exact of_decide_eq_true (h r (dI.mpr ⟨dD.mpr Z,dTr Y⟩))
 .intro h r Z;obtain⟨h1,h2⟩:=dI.mp Z;exact dTr (h r (dD.mp h1) (of_decide_eq_true h2))
def Ae{L:Int}(q:rs.length<=1000):jt [.list (rs.map .int),dcD qs,.int L]=some (.bool (lvR rs qs L)):=by
 have e:iB (gTn 2 (fj (gNl 0) (fj (gNl 1) (nu)))) (bG (dOp gGe (aA 1) (aA 2))) (dOp gGe (zp (aA 3) (aA 0) (dC (.int 0))) (aA 2)) (jY 2 [2,1] [some (.d (.list (rs.map .int))),some (.d (dcD qs)),some (.d (.int L))]) (rE (rs.map .int))=some (((b_ rs.length).filter λr=>decide (L<=rs.getD r 0)).map λr:Nat=>d5 (decide (L<=(fW qs ((r:Nat):Int)).getD 0))):=by
  rw[Du];refine GJ (λr:Nat=>eb [.int (r:Int),.int (rs.getD r 0)]) _ (λr:Nat=>d5 (decide (L<=(fW qs ((r:Nat):Int)).getD 0))) (b_ rs.length) λr Y=>?_
  refine⟨[some (.d (.int (r:Int))),some (.d (.int (rs.getD r 0))),some (.d (.int L)),some (.d (dcD qs))],rfl,?_,λ_=>?_⟩
  .simp![]
  .simp![Wa,Nf]
 have Z:(rE (rs.map .int)).length<=100000:=by rw[Du,aG,jj];lia
 unfold jt;simp![Z,e,Jj];rfl
theorem Jo(G:Gst rs qs)(h:Dead rs qs f):1<=f->∃L,1<=L/\L<=f/\lvR rs qs L=true:=by
 induction h with
 |here c W=>
  rename_i f;intro Y;refine⟨f,Y,nR _,Jm.mpr λr Z X=>?_⟩
  cases e:fW qs (r:Int)with
  |none=>
   have:r∈frR rs qs f:=Jk.mpr ⟨Z,X,e⟩;rw[c]at this
   cases this
  |some j=>
   have:j∈wsR rs qs f:=Dv.mpr ⟨(r:Int),Dt e,by simpa using X⟩;have:=al3 this;simp;lia
 |step c W Z V=>
  intro Y;obtain⟨L,h1,h2,h3⟩:=V (zU G W);exact⟨L,h1,by lia,h3⟩
theorem RK{r:List Int}(G:Gst rs qs)(h:Ch rs qs f r):∀L,1<=L->L<=f->lvR rs qs L=false:=by
 induction h with
 |stop c=>
  rename_i f;intro L h1 h2;obtain⟨r,Y⟩:=List.exists_mem_of_ne_nil _ c;obtain⟨g1,g2,g3⟩:=Jk.mp Y
  cases e:lvR rs qs L with
  |false=>rfl
  |true=>
   have:=Jm.mp e r g1 (by lia);rw[g3]at this;simp at this;lia
 |step c U Y X=>
  rename_i f r;intro L h1 h2;by_cases W:L<=lwR rs qs f
  .exact X L h1 W
  .cases e:lvR rs qs L with
   |false=>rfl
   |true=>
    obtain⟨i,Z,T⟩:=Dv.mp (RG U);obtain⟨V,g1,_,_⟩:=G.rg _ Z;simp only at V g1;have:=Jm.mp e i.toNat (by lia) (by lia);rw[show((i.toNat:Nat):Int)=i by lia,jZ G.nd Z]at this;simp at this;lia
def lvM(rs:List Int)(qs:List (Int×Int)):Nat->Option Int
 |0=>none
 |k+1=>if lvR rs qs ((k:Int)+1)=true then some ((k:Int)+1)else lvM rs qs k
theorem zV:∀{k:Nat}{L:Int},lvM rs qs k=some L->1<=L/\L<=k/\lvR rs qs L=true/\∀M,L<M->M<=k->lvR rs qs M=false
 |0,L,h=>by cases h
 |k+1,L,h=>by
  rw[lvM]at h;by_cases c:lvR rs qs ((k:Int)+1)=true
  .rw[if_pos c]at h
   cases h;exact⟨by lia,by lia,c,λM h1 h2=>by lia⟩
  .rw[if_neg c]at h;obtain⟨h1,h2,h3,h4⟩:=zV h;refine⟨h1,by lia,h3,λM g1 g2=>?_⟩;by_cases e:M=(k:Int)+1
   .rw[e];simpa using c
   .exact h4 M g1 (by lia)
theorem GP:∀{k:Nat},lvM rs qs k=none->∀M:Int,1<=M->M<=(k:Int)->lvR rs qs M=false
 |0,_,M,h1,h2=>by lia
 |k+1,h,M,h1,h2=>by
  rw[lvM]at h;by_cases c:lvR rs qs ((k:Int)+1)=true
  .rw[if_pos c]at h;cases h
  .rw[if_neg c]at h;by_cases e:M=(k:Int)+1
   .rw[e];simpa using c
   .exact GP h M h1 (by lia)
def GQ(k:Nat):iK 1 ((k:Int)+1)=(b_ k).map λi:Nat=>dm ((i:Int)+1):=by
 unfold iK;rw[show((k:Int)+1-1).toNat=k by lia];apply eU;intro i _;rw[Int.add_comm]
end Com
namespace Com
open D3 My
def gmL(rs:List Int)(qs:List (Int×Int))(f w:Int):List Int:=(xR (qs.map (·.1))).filter λk=>decide (f<=rs.getD k.toNat 0)&&decide ((fW qs k).getD 0=w)
def gmR(rs:List Int)(qs:List (Int×Int))(f w:Int):Int:=(gmL rs qs f w).headD 0
theorem RM{w:Int}(G:Gst rs qs)(h:w∈wsR rs qs f):∃r,gmL rs qs f w=gmR rs qs f w::r/\(gmR rs qs f w,w)∈qs/\f<=rs.getD (gmR rs qs f w).toNat 0:=by
 obtain⟨i,h1,h2⟩:=Dv.mp h;have hi:i∈gmL rs qs f w:=by
  unfold gmL;refine dI.mpr ⟨(lJ _).mem_iff.mpr (aY.mpr ⟨_,h1,rfl⟩),?_⟩;rw[dTr h2,jZ G.nd h1];simp
 cases e:gmL rs qs f w with
 |nil=>rw[e]at hi;cases hi
 |cons a r=>
  have ea:gmR rs qs f w=a:=by unfold gmR;rw[e];rfl
  rw[ea];have ha:a∈gmL rs qs f w:=by rw[e];exact aJ
  obtain⟨X,Z⟩:=dI.mp ha;rw[aO]at Z;obtain⟨q,Y,rfl⟩:=aY.mp ((lJ _).mem_iff.mp X);have W:=jZ G.nd (show(q.1,q.2)∈qs from Y);have hw:=of_decide_eq_true Z.2;rw[W]at hw;simp at hw;refine⟨r,rfl,?_,of_decide_eq_true Z.1⟩;rw[<-hw];exact Y
def Jp{w:Int}(G:Gst rs qs)(O:rs.length<=60)(h:w∈wsR rs qs f):eY [.list (rs.map .int),dcD qs,.int f,.int w]=some (.int (gmR rs qs f w)):=by
 obtain⟨r,Y,_,_⟩:=RM G h;have Z:qs.length<64:=by have:=G.len;lia
 have e:iB (gNl 0) (D3.vX (bG (dOp gGe (dOp gIx (aA 3) (aA 0)) (aA 1))) (bG (dOp gEq (dOp zj (aA 4) (aA 0)) (aA 2)))) (jG (aA 0)) (jY 1 [2,3,0,1] [some (.d (.list (rs.map .int))),some (.d (dcD qs)),some (.d (.int f)),some (.d (.int w))]) ((xR (qs.map (·.1))).map dm)=some ((gmL rs qs f w).map dm):=by
  refine GJ dm _ dm (xR (qs.map (·.1))) λk X=>?_
  obtain⟨q,Z,rfl⟩:=aY.mp ((lJ _).mem_iff.mp X);obtain⟨W,g1,_,_⟩:=G.rg q Z;have Y:=KY (rs:=rs) W g1;have U:=jZ G.nd (show(q.1,q.2)∈qs from Z);refine⟨[some (.d (.int q.1)),some (.d (.int f)),some (.d (.int w)),some (.d (.list (rs.map .int))),some (.d (dcD qs))],rfl,?_,λ_=>?_⟩
  .by_cases c:f<=rs.getD q.1.toNat 0
   .simp![Y,dTr c,Rz,U,fZ];simp
   .simp![Y,dFa c];simp
  .simp![]
 have V:((xR (qs.map (·.1))).map dm).length<=100000:=by rw[aG,(lJ _).length_eq,aG];lia
 rw[Y,aN]at e;unfold eY;simp![V_ Z,V,e,at0]
def mpD(p:Int×Int):D:=.tuple [.int p.1,.int p.2]
def mvF(rs:List Int)(qs:List (Int×Int))(ps:List (Int×Int))(g:Int):List (Int×Int)×Int:=ps.foldl (λs p=>(s.1++[(gmR rs qs p.1 p.2,s.2)],gmR rs qs p.1 p.2)) ([],g)
def GR{ps:List (Int×Int)}{g:Int}{p:Int×Int}:mvF rs qs (ps++[p]) g=((mvF rs qs ps g).1++[(gmR rs qs p.1 p.2,(mvF rs qs ps g).2)],gmR rs qs p.1 p.2):=by
 unfold mvF;rw[List.foldl_append];rfl
theorem KZ{g:Int}:∀(n:Nat)(ps:List (Int×Int)),ps.length=n->(mvF rs qs ps g).1.length=n
 |0,ps,h=>by rw[List.length_eq_zero_iff.mp h];rfl
 |n+1,ps,h=>by
  have Z:ps≠[]:=λz=>by rw[z]at h;cases h
  rw[<-List.dropLast_concat_getLast Z,GR];simp only[bB,aX,cW];rw[KZ n ps.dropLast (by rw[List.length_dropLast,h];rfl)]
def qRv(x:Option D):Option (List D):=match x with
 |some (.list l)=>some l.reverse
 |_=>none
theorem al5{f:FE}:TY f δ=qRv (f δ):=by
 unfold TY qRv
 cases f δ with
 |none=>rfl
 |some d=>cases d<;>rfl
def Wc:qRv (some (.list l))=some l.reverse:=rfl
theorem GX:∀(ns ms:List Int),ud (ns.map dm) (ms.map dm)=(ns.zip ms).map mpD
 |[],ms=>by simp[ud]
 |_::_,[]=>by simp[ud]
 |a::ns,b::ms=>by
  rw[aN,aN,ud,GX ns ms,jW,aN];rfl
def ZX{ms:List Int}(h:ns.length<=1000):Fv (.list (ns.map .int)) (.list (ms.map .int))=some (.list ((ns.zip ms).map mpD)):=by
 unfold Fv;dsimp only;rw[pG,pG,aq,aq,if_pos h,GX]
theorem RN{r:List Int}(h:Ch rs qs f r):∀p∈(f::r).zip r,frR rs qs p.1=[]/\p.2=lwR rs qs p.1/\p.2<p.1/\p.2∈wsR rs qs p.1:=by
 induction h with
 |stop c=>intro p Z;simp at Z
 |step c Y W X=>
  intro p Z;rw[jW]at Z;rcases aL.mp Z with rfl|z
  .exact⟨c,rfl,Y,RG Y⟩
  .exact X p z
theorem Wd{r:List Int}(h:Ch rs qs f r):∃pre l,f::r=pre++[l]/\frR rs qs l≠[]:=by
 induction h with
 |stop c=>exact⟨[],_,rfl,c⟩
 |step c X Y Z=>
  obtain⟨pre,l,e,h⟩:=Z;exact⟨_::pre,l,by rw[e];rfl,h⟩
def Jq{l:Int}{r pre:List Int}(G:Gst rs qs)(O:rs.length<=60)(hc:Ch rs qs f r)(he:f::r=pre++[l])(hn:(f::r).length<=1000){q:Nat}{gs:List Nat}(hg:frR rs qs l=q::gs):
 j6 [.list (rs.map .int),dcD qs,.list ((f::r).map .int)]=some (.tuple [.list ((mvF rs qs ((f::r).zip r).reverse (q:Int)).1.map mpD),.int (mvF rs qs ((f::r).zip r).reverse (q:Int)).2]):=by
 generalize Z:((f::r).zip r).reverse=ps;have U:=RN hc;have pl:ps.length<=1000:=by rw[<-Z,jJ,List.length_zip];simp only[aX]at hn ⊢;lia
 have T:∀p∈ps,p.2∈wsR rs qs p.1:=λp h=>(U p (by rw[<-Z]at h;exact List.mem_reverse.mp h)).2.2.2
 obtain⟨δ',e,x,y,z,rfl⟩:=vN (g:=(gTn 2 (fj (gNl 5) (fj (gNl 6) (nu))))) (b:=(bU (bJ 7 (dCall eY (aj (aA 0) (aj (aA 1) (aj (aA 5) (aj (aA 6) (aW))))))) (bU (BR 4 (dTup (aj (aA 7) (aj (aA 3) (aW))))) (bJ 3 (aA 7)))))
  (λi δ=>∃x y z,δ=[some (.d (.list (rs.map .int))),some (.d (dcD qs)),some (.d (.list ((f::r).map .int))),some (.d (.int (mvF rs qs (ps.take i) (q:Int)).2)),some (.d (.list ((mvF rs qs (ps.take i) (q:Int)).1.map mpD))),x,y,z]) (ps.map mpD)
  [some (.d (.list (rs.map .int))),some (.d (dcD qs)),some (.d (.list ((f::r).map .int))),some (.d (.int (q:Int))),some (.d (.list [])),none,none,none] ⟨none,none,none,rfl⟩ (by
   rintro i d δ hd ⟨x,y,z,rfl⟩;rw[aP]at hd
   cases hi:ps[i]? with
   |none=>rw[hi]at hd;cases hd
   |some p=>
    rw[hi]at hd
    cases hd;have es:ps.take (i+1)=ps.take i++[p]:=by rw[uM,hi];rfl
    have gs:=Jp G O (T p (cY hi));have hlen:((mvF rs qs (ps.take i) (q:Int)).1.map mpD).length<1000000:=by
     rw[aG,KZ _ _ rfl,jx];lia
    refine⟨_,[some (.d (.list (rs.map .int))),some (.d (dcD qs)),some (.d (.list ((f::r).map .int))),some (.d (.int (gmR rs qs p.1 p.2))),some (.d (.list ((mvF rs qs (ps.take i) (q:Int)).1.map mpD++[mpD (gmR rs qs p.1 p.2,(mvF rs qs (ps.take i) (q:Int)).2)]))),some (.d (.int p.1)),some (.d (.int p.2)),some (.d (.int (gmR rs qs p.1 p.2)))],rfl,.inl ?_,⟨_,_,_,by rw[es,GR,cj];rfl⟩⟩;simp![gs,hlen,sz (show 0+1+1<=1000000 by decide)];rfl)
 rw[aG,List.take_length]at e;have X:pAt ((f::r).map dm) (-1)=some (.int l):=by rw[he,cj,aN,dR];exact GK
 have V:cuD ((f::r).map dm) (some 1) none=r.map dm:=by rw[al1 (by decide)];simp
 have Y:=ZX (ns:=f::r) (ms:=r) hn;have S:(((f::r).zip r).map mpD).reverse=ps.map mpD:=by rw[<-Z,List.map_reverse]
 have W:=pJ (rs:=rs) (qs:=qs) (k:=l) (by lia);rw[hg,aN]at W;have fl:flats ((mvF rs qs ps (q:Int)).1.map mpD)=true:=sY _ (λ_=>rfl) _;generalize (f::r).map dm=R at e X V Y ⊢;unfold j6;simp![X,W,at0,sz (show 0<=1000000 by decide),al5,V,Y,Wc,S];rw[e];simp![fl,sz (show 0+1+1<=1000000 by decide)]
theorem RP:∀l:List (Int×Int),nls (l.map mpD)=0
 |[]=>rfl
 |a::r=>by rw[aN,nls,RP r];rfl
def GZ{l:Int}{r pre:List Int}(G:Gst rs qs)(hl:rs.length<=60)(hf:1<=f)(O:f<=900)(U:Ch rs qs f r)(he:f::r=pre++[l])(hn:(f::r).length<=1000){q:Nat}{gs:List Nat}(hg:frR rs qs l=q::gs):
 iZ [.list (rs.map .int),dcD qs,.int f]=some (.tuple [.str "in", .list ((mvF rs qs ((f::r).zip r).reverse (q:Int)).1.map mpD),.int (mvF rs qs ((f::r).zip r).reverse (q:Int)).2,.list ((f::r).map .int)]):=by
 have Y:=RJ G (by lia) hf O U;have Z:=Jq G hl U he hn hg;have fl:flats ((f::r).map dm)=true:=uz _;generalize (f::r).map dm=X at Y Z fl ⊢;generalize mvF rs qs ((f::r).zip r).reverse (q:Int)=m at Z ⊢;have n1:decide (nl (.tuple [.list (m.1.map mpD),.int m.2])<=1)=true:=dTr (by rw[nl,nls,nl,RP,nls,nls];show 0+1+(0+0)<=1;decide);unfold iZ;simp![Y,fl,Z,n1,at0,at1,sz (show 0+1+1+1+1<=1000000 by decide)]
def RQ{r:List Int}:Ew [.list (dm i::r.map dm)]=some (.int (mxI i r)):=by
 have:kE (dm i::r.map dm)=some (i::r):=pG (i::r);unfold Ew;dsimp only;rw[this]
theorem Af{k:Nat}{L:Int}(G:Gst rs qs)(q:rs.length<=1000)(hk:1<=k)(O:k<=900)(hd:Dead rs qs (k:Int))(U:lvM rs qs k=some L):
 iZ [.list (rs.map .int),dcD qs,.int (k:Int)]=some (.tuple [.str "full", .int L]):=by
 have W:=Jl G q (by lia:(1:Int)<=k) (by lia) hd;obtain⟨h1,h2,h3,h4⟩:=zV U;have Z:iB (gNl 0) (bG (dCall jt (aj (aA 1) (aj (aA 2) (aj (aA 0) (aW)))))) (jG (aA 0)) (jY 1 [0,1] [some (.d (.list (rs.map .int))),some (.d (dcD qs)),some (.d (.int (k:Int))),some (.d .none),none]) (iK 1 ((k:Int)+1))=some ((((b_ k).filter λi=>lvR rs qs ((i:Nat)+1)).map λi:Nat=>(i:Int)+1).map dm):=by
  rw[GQ,bZ];refine GJ (λi:Nat=>dm ((i:Int)+1)) (λi=>lvR rs qs ((i:Nat)+1)) _ (b_ k) λi hi=>?_
  refine⟨[some (.d (.int ((i:Int)+1))),some (.d (.list (rs.map .int))),some (.d (dcD qs))],rfl,?_,λ_=>?_⟩
  .simp![Ae q]
  .simp![];rfl
 have X:(iK 1 ((k:Int)+1)).length<=100000:=by rw[GQ,aG,jj];lia
 have mem:∀x,x∈((b_ k).filter λi=>lvR rs qs ((i:Nat)+1)).map (λi:Nat=>(i:Int)+1)<->1<=x/\x<=k/\lvR rs qs x=true:=λx=>by
  rw[aY]
  constructor
  .rintro⟨i,hi,rfl⟩;obtain⟨g1,g2⟩:=dI.mp hi;have:=dD.mp g1;exact⟨by lia,by lia,g2⟩
  .rintro⟨g1,g2,g3⟩;refine⟨(x-1).toNat,dI.mpr ⟨dD.mpr (by lia),?_⟩,by lia⟩;rw[show(((x-1).toNat:Nat):Int)+1=x by lia];exact g3
 cases e:((b_ k).filter λi=>lvR rs qs ((i:Nat)+1)).map (λi:Nat=>(i:Int)+1)with
 |nil=>
  have:=(mem L).mpr ⟨h1,h2,h3⟩;rw[e]at this
  cases this
 |cons i r=>
  rw[e]at Z mem;have sp:=yR r i;obtain⟨g1,g2,g3⟩:=(mem _).mp sp.1;have Y:=sp.2 L ((mem L).mpr ⟨h1,h2,h3⟩);have eq:mxI i r=L:=by
   by_cases c:L<mxI i r
   .rw[h4 _ c g2]at g3;cases g3
   .lia
  unfold iZ;simp![W,aj4 (show -(2^62)<=(k:Int)+1 by lia) (show(k:Int)+1<2^62 by lia) (show -(2^62)<=(1:Int)by decide) (show(1:Int)<2^62 by decide),X,Z,RQ,eq,sz (show 0+1+1<=1000000 by decide)]
end Com
namespace Com
open D3 My
def mvs(rs:List Int)(qs:List (Int×Int)):List (Int×Int)->Int->List (Int×Int)
 |[],_=>[]
 |p::ps,g=>(gmR rs qs p.1 p.2,g)::mvs rs qs ps (gmR rs qs p.1 p.2)
def gl(rs:List Int)(qs:List (Int×Int)):List (Int×Int)->Int->Int
 |[],g=>g
 |p::ps,_=>gl rs qs ps (gmR rs qs p.1 p.2)
def Z0:∀(ps:List (Int×Int))(g:Int),mvF rs qs ps g=(mvs rs qs ps g,gl rs qs ps g):=by
 have Z:∀(ps:List (Int×Int))(acc:List (Int×Int))(g:Int),ps.foldl (λ(s:List (Int×Int)×Int) p=>(s.1++[(gmR rs qs p.1 p.2,s.2)],gmR rs qs p.1 p.2)) (acc,g)=(acc++mvs rs qs ps g,gl rs qs ps g):=by
  intro ps
  induction ps with
  |nil=>intro acc g;simp[mvs,gl]
  |cons p ps Y=>
   intro acc g;rw[List.foldl_cons,Y];simp[mvs,gl]
 intro ps g;unfold mvF;rw[Z];rfl
inductive LkR:List (Int×Int)->Int->Int->Prop
 |nil (b:Int):LkR [] b b
 |cons {p:Int×Int} {ps:List (Int×Int)} {b e:Int}:p.2<=b->LkR ps p.1 e->LkR (p::ps) b e
theorem LkR.snoc{ps:List (Int×Int)}{b e:Int}{q:Int×Int}(h:LkR ps b e)(O:q.2<=e):LkR (ps++[q]) b q.1:=by
 induction h with
 |nil b=>exact .cons O (.nil _)
 |cons h1 h2 Z=>exact .cons h1 (Z O)
theorem al6{r:List Int}(h:Ch rs qs f r):∀pre l b,f::r=pre++[l]->l<=b->∃e,LkR ((f::r).zip r).reverse b e/\f<=e:=by
 induction h with
 |stop c=>
  rename_i f;intro pre l b e hb
  cases pre with
  |nil=>
   cases e;exact⟨b,.nil b,hb⟩
  |cons a pre=>simp at e
 |step c U X Z=>
  rename_i f r;intro pre l b e hb
  cases pre with
  |nil=>simp at e
  |cons a pre=>
   rw[dW]at e;injection e with W Y
   obtain⟨V,h1,h2⟩:=Z pre l b Y hb;rw[jW,jh];exact⟨f,h1.snoc h2,nR _⟩
theorem Z1{r:List Int}(h:Ch rs qs f r):(∀x∈r,x<f)/\r.Pairwise (λa b=>b<a):=by
 induction h with
 |stop c=>exact⟨λ_ h=>(by cases h),.nil⟩
 |step c Y X Z=>
  rename_i f r;refine⟨λx hx=>?_,fD.mpr ⟨Z.1,Z.2⟩⟩;rcases aL.mp hx with rfl|z
  .exact Y
  .have:=Z.1 x z;lia
theorem K1:∀(f:Int)(r:List Int),((f::r).zip r).map (·.2)=r
 |_,[]=>rfl
 |f,a::r=>by rw[jW,aN,K1 a r]
def Z2{r:List Int}(h:Ch rs qs f r):(((f::r).zip r).reverse).Pairwise (λp q=>p.2<q.2):=by
 rw[List.pairwise_reverse];have:=(Z1 h).2;rw[<-K1 f r,uO]at this;exact this
end Com
namespace K68
open D3 XK
abbrev aR:Addr:=261
abbrev aQ:List Str:=["rooms", "places", "wished", "moves_done"]
abbrev eG:List D->Option D:=Com.eG
abbrev bW:List D->Option D:=Com.bW
abbrev fU:List D->Option D:=Com.fU
abbrev eN:List D->Option D:=Com.eN
abbrev iY:List D->Option D:=Com.iY
abbrev eY:List D->Option D:=Com.eY
abbrev j6:List D->Option D:=Com.j6
abbrev jt:List D->Option D:=Com.jt
abbrev iZ:List D->Option D:=Com.iZ
def cT:List D->Option D:=fnD 1 0 (bU (sIf (D3.tOr (D3.mD (bG (dUn (gIs "str") (aA 0)))) (D3.mD (bG (oE gLe gLe (dC (.int 1)) (dCall FZ (aj (aA 0) (aW))) (dC (.int 8)))))) (jg (dC (.bool false))) (fO))
    (jg (dCall HJ (aj (lZ (YJ (aA 0)) (gNl 0) (yM) (oE XI.tH XI.tH (dC (.str "a")) (aA 0) (dC (.str "z"))) 1 []) (aW)))))
abbrev iQ:List D->Option D:=Com.iQ
abbrev bR:List D->Option D:=Com.bR
abbrev iW:List D->Option D:=Com.iW
def k_:List D->Option D:=fnD 2 7 (bU (bJ 2 (dC (.str "qwertyuiopasdghjklzxcvbnm")))
    (bU (bJ 3 (dOp lH (dC (.int 1)) (dCall bR (aj (aA 0) (aj (aA 1) (aj (dC (.int 0)) (aj (dC (.int 8)) (aW))))))))
    (bU (bJ 4 (dCall bR (aj (aA 0) (aj (aA 1) (aj (dC (.int 1)) (aj (aA 3) (aW)))))))
    (bU (bJ 5 (d9 (aW)))
    (bU (yN (uW (aj (dC (.int 12)) (aW))) (gNl 6) (bU (bJ 7 (dC (.str "")))
    (bU (yN (uW (aj (aA 3) (aW))) (gNl 8) (bJ 7 (dOp o_ (aA 7) (dOp FQ (aA 2) (dOp mF (dOp lH (dCall bR (aj (aA 0) (aj (dOp lH (aA 1) (dC (.int 1))) (aj (aA 8) (aj (dC (.int 25)) (aW)))))) (dOp pY (aA 6) (dCall xT (aj (dOp gEq (aA 8) (aA 4)) (aW))))) (dC (.int 25)))))))
    (BR 5 (aA 7)))))
    (jg (wj (aA 5))))))))
def gZ:List D->Option D:=fnD 3 1 (bU (bJ 3 (d9 (aj (dOp o_ (aA 2) (dC (.str "qqqqqqqq"))) (aj (dC (.str "")) (aj (dOp o_ (MK (aA 2) yP (yQ (dUn rD (dC (.int 1))))) (dC (.str "Q"))) (aj (dOp o_ (MK (aA 2) yP (yQ (dUn rD (dC (.int 1))))) (dC (.str " "))) (aj (dOp o_ (MK (aA 2) yP (yQ (dUn rD (dC (.int 1))))) (dC (.str "7"))) (aj (dOp o_ (dC (.str "-")) (MK (aA 2) (yQ (dC (.int 1))) yP)) (aW))))))))) (bU (bJ 3 (dOp oX (aA 3) (d9 (aj (dC (.none)) (aj (dC (.int 3)) (aj (dC (.bool true)) (aj (dTup (aj (jG (aA 2)) (aW))) (aj (d9 (aj (jG (aA 2)) (aW))) (aj (dC (.dict [])) (aW)))))))))) (jg (dOp gIx (aA 3) (dCall bR (aj (aA 0) (aj (aA 1) (aj (dC (.int 2)) (aj (dC (.int 12)) (aW))))))))))
def g8:List D->Option D:=fnD 2 0 (jg (jG (dOp gIx (d9 (aj (dC (.int 0)) (aj (dC (.int 5)) (aj (dUn rD (dC (.int 1))) (aj (dOp Ob (dC (.int 10)) (dC (.int 30))) (aj (dC (.none)) (aj (dC (.bool true)) (aj (dC (.str "1")) (aj (dTup (aj (dC (.int 1)) (aW))) (aW)))))))))) (dCall bR (aj (aA 0) (aj (aA 1) (aj (dC (.int 3)) (aj (dC (.int 8)) (aW)))))))))
def jD:List D->Option (List D):=XI.fnI 1 0 [("rooms", dN1 (wj (dUn wY (aA 1)))),("places", dC (.dict [])),("wished", dC (.dict [])),("moves_done", d9 (aW))]
def gF:List D->Option D:=fnD 1 0 (jg (dUn XI.C_ (XI.rO aR aQ 1 (aA 0))))
def jQ:List D->Option D:=fnD 1 0 (jg (dUn XI.Dm (XI.rO aR aQ 3 (aA 0))))
def dO:List D->Option D:=fnD 1 0 (jg (dCall XS.zf (aj (lZ (XI.QL (XI.rO aR aQ 1 (aA 0))) (gTn 2 (fj (gNl 0) (fj (gNl 1) (nu)))) (yM) (jG (dTup (aj (aA 1) (aj (dOp XI.xH (XI.rO aR aQ 2 (aA 2)) (aA 0)) (aW))))) 2 [0]) (aW))))
def lu:List D->Option D:=fnD 1 1 (bU (bJ 1 (dUn XI.Dh (XI.rO aR aQ 1 (aA 0))))
    (jg (lZ (uW (aj (dCall BW (aj (XI.rO aR aQ 0 (aA 0)) (aW))) (aW))) (gNl 0) (bG (dOp Cm (aA 0) (aA 1))) (jG (aA 0)) 1 [1])))
def gq:List D->Option D:=fnD 2 0 (sIf (D3.tOr (D3.mD (bG (dCall cT (aj (aA 1) (aW))))) (bG (dOp XI.vI (aA 1) (XI.rO aR aQ 1 (aA 0))))) ((λ_=>none)) (fO))
def gb:List D->Option D:=fnD 2 0 (bU (JK (XI.nH gq aR aQ (aA 0) (aj (aA 1) (aW))))
    (jg (dOp XI.xH (XI.rO aR aQ 1 (aA 0)) (aA 1))))
def fK:List D->Option D:=XI.fnW 3 1 [0] (bU (bJ 3 (dOp gIx (lZ (XI.QL (XI.rO aR aQ 1 (aA 0))) (gTn 2 (fj (gNl 0) (fj (gNl 1) (nu)))) (bG (dOp gEq (aA 1) (aA 2))) (jG (aA 0)) 2 [1]) (dC (.int 0))))
    (bU (XI.Bo aR aQ 1 0 (aA 3) (aA 2))
    (XI.Kq aR aQ 3 0 (dTup (aj (aA 3) (aj (aA 1) (aj (aA 2) (aW))))))))
def cC:List D->Option Or:=XI.Dj 2 0 [0] (xIf (D3.tOr (D3.mD (bG (dCall cT (aj (aA 1) (aW))))) (bG (dOp XI.vI (aA 1) (XI.rO aR aQ 1 (aA 0))))) (XI.qm [0] "NoGuest" (aA 1)) (xOf fO))
def cH:List D->Option Or:=XI.Dj 3 3 [0] (vg (xIf (D3.mD (bG (dCall cT (aj (aA 1) (aW))))) (XI.qm [0] "NoName" (aA 1)) (xOf fO))
    (vg (xIf (bG (dOp XI.Vf (aA 1) (XI.rO aR aQ 1 (aA 0)))) (XI.qm [0] "Stands" (aA 1)) (xOf fO))
    (vg (xIf (D3.mD (bG (dCall bW (aj (aA 2) (aj (dC (.int 1)) (aj (dC (.int 4)) (aW))))))) (XI.qm [0] "NoKind" (aA 2)) (xOf fO))
    (vg (xOf (bJ 3 (dCall iZ (aj (XI.rO aR aQ 0 (aA 0)) (aj (XI.nH dO aR aQ (aA 0) (aW)) (aj (aA 2) (aW)))))))
    (vg (xIf (bG (dOp gEq (dOp gIx (aA 3) (dC (.int 0))) (dC (.str "full")))) (XI.qm [0] "Full" (dOp gIx (aA 3) (dC (.int 1)))) (xOf fO))
    (vg (xOf (yN (TX (dOp gIx (aA 3) (dC (.int 1)))) (gTn 2 (fj (gNl 4) (fj (gNl 5) (nu)))) (XI.qj (XI.CP fK aR aQ 0 (aj (aA 4) (aj (aA 5) (aW))) [0]))))
    (vg (xOf (XI.Bo aR aQ 1 0 (aA 1) (dOp gIx (aA 3) (dC (.int 2)))))
    (vg (xOf (XI.Bo aR aQ 2 0 (aA 1) (aA 2)))
    (XI.Gq [0] (dTup (aj (dOp gIx (aA 3) (dC (.int 2))) (aj (dOp gIx (aA 3) (dC (.int 1))) (aW)))))))))))))
def ju:List D->Option Or:=XI.Dj 2 0 [0] (vg (XI.Br [0] (XI.iI cC aR aQ 0 (aj (aA 1) (aW)) [0]))
    (vg (xOf (XI.qj (XI.QC aR aQ 2 0 (aA 1))))
    (XI.Q0 [0] (XI.QC aR aQ 1 0 (aA 1)))))
def eO:List D->Option Or:=XI.Dj 2 0 [0] (vg (XI.Br [0] (XI.iI cC aR aQ 0 (aj (aA 1) (aW)) [0]))
    (XI.Gq [0] (dOp XI.xH (XI.rO aR aQ 1 (aA 0)) (aA 1))))
def gj:List D->Option Or:=XI.Dj 2 0 [0] (vg (XI.Br [0] (XI.iI cC aR aQ 0 (aj (aA 1) (aW)) [0]))
    (XI.Gq [0] (dOp XI.xH (XI.rO aR aQ 2 (aA 0)) (aA 1))))
def iw:List D->Option D:=fnD 1 0 (jg (d9 (aj (XI.nH gF aR aQ (aA 0) (aW)) (aj (XI.nH dO aR aQ (aA 0) (aW)) (aj (XI.nH jQ aR aQ (aA 0) (aW)) (aj (XI.nH lu aR aQ (aA 0) (aW)) (aW)))))))
def fV:Str->D->FS:=λc d=>if c="NoName"then bU (bJ 5 (d9 (aj (dC (.bool true)) (aj (dC (.bool false)) (aj (dC (.bool false)) (aj (dC (.bool false)) (aW))))))) (bU (bJ 5 (dOp oX (aA 5) (d9 (aj (dC (.bool false)) (aW))))) (bU (sIf (D3.tOr (bG (dOp gNe (dOp vL (aA 5) (dC (.bool true))) (dC (.int 1)))) (D3.mD (λ_=>some true))) (XI.jl [0] (dTup (aj (dC (.str "odd")) (aj (dC (.none)) (aW))))) (fO)) (bU (sIf (D3.tOr (bG (dOp gIx (aA 5) (dC (.int 2)))) (bG (dOp gIx (aA 5) (dC (.int 3))))) ((λ_=>none)) (fO)) (XI.jl [0] (dTup (aj (dOp gIx (d9 (aj (dC (.str "name")) (aj (dC (.str "stands")) (aj (dC (.str "")) (aj (dC (.str "")) (aj (dC (.str "guest")) (aW))))))) (dOp XI.rR (aA 5) (dC (.bool true)))) (aj (dC d) (aW))))))))else if c="Stands"then bU (bJ 5 (d9 (aj (dC (.bool false)) (aj (dC (.bool true)) (aj (dC (.bool false)) (aj (dC (.bool false)) (aW))))))) (bU (bJ 5 (dOp oX (aA 5) (d9 (aj (dC (.bool false)) (aW))))) (bU (sIf (D3.tOr (bG (dOp gNe (dOp vL (aA 5) (dC (.bool true))) (dC (.int 1)))) (D3.mD (λ_=>some true))) (XI.jl [0] (dTup (aj (dC (.str "odd")) (aj (dC (.none)) (aW))))) (fO)) (bU (sIf (D3.tOr (bG (dOp gIx (aA 5) (dC (.int 2)))) (bG (dOp gIx (aA 5) (dC (.int 3))))) ((λ_=>none)) (fO)) (XI.jl [0] (dTup (aj (dOp gIx (d9 (aj (dC (.str "name")) (aj (dC (.str "stands")) (aj (dC (.str "")) (aj (dC (.str "")) (aj (dC (.str "guest")) (aW))))))) (dOp XI.rR (aA 5) (dC (.bool true)))) (aj (dC d) (aW))))))))else if c="NoKind"then bU (bJ 5 (d9 (aj (dC (.bool false)) (aj (dC (.bool false)) (aj (dC (.bool true)) (aj (dC (.bool false)) (aW))))))) (bU (bJ 5 (dOp oX (aA 5) (d9 (aj (dC (.bool false)) (aW))))) (bU (sIf (D3.tOr (bG (dOp gNe (dOp vL (aA 5) (dC (.bool true))) (dC (.int 1)))) (D3.mD (λ_=>some true))) (XI.jl [0] (dTup (aj (dC (.str "odd")) (aj (dC (.none)) (aW))))) (fO)) (bU (sIf (D3.tOr (bG (dOp gIx (aA 5) (dC (.int 2)))) (bG (dOp gIx (aA 5) (dC (.int 3))))) (XI.jl [0] (dTup (aj (dOp gIx (d9 (aj (dC (.str "kind")) (aj (dC (.str "full")) (aW)))) (dCall xT (aj (dOp gIx (aA 5) (dC (.int 3))) (aW)))) (aj (dC d) (aW))))) (fO)) ((λ_=>none)))))else if c="Full"then bU (bJ 5 (d9 (aj (dC (.bool false)) (aj (dC (.bool false)) (aj (dC (.bool false)) (aj (dC (.bool true)) (aW))))))) (bU (bJ 5 (dOp oX (aA 5) (d9 (aj (dC (.bool false)) (aW))))) (bU (sIf (D3.tOr (bG (dOp gNe (dOp vL (aA 5) (dC (.bool true))) (dC (.int 1)))) (D3.mD (λ_=>some true))) (XI.jl [0] (dTup (aj (dC (.str "odd")) (aj (dC (.none)) (aW))))) (fO)) (bU (sIf (D3.tOr (bG (dOp gIx (aA 5) (dC (.int 2)))) (bG (dOp gIx (aA 5) (dC (.int 3))))) (XI.jl [0] (dTup (aj (dOp gIx (d9 (aj (dC (.str "kind")) (aj (dC (.str "full")) (aW)))) (dCall xT (aj (dOp gIx (aA 5) (dC (.int 3))) (aW)))) (aj (dC d) (aW))))) (fO)) ((λ_=>none)))))else if c="NoGuest"then bU (bJ 5 (d9 (aj (dC (.bool false)) (aj (dC (.bool false)) (aj (dC (.bool false)) (aj (dC (.bool false)) (aW))))))) (bU (bJ 5 (dOp oX (aA 5) (d9 (aj (dC (.bool true)) (aW))))) (bU (sIf (D3.tOr (bG (dOp gNe (dOp vL (aA 5) (dC (.bool true))) (dC (.int 1)))) (D3.mD (λ_=>some true))) (XI.jl [0] (dTup (aj (dC (.str "odd")) (aj (dC (.none)) (aW))))) (fO)) (bU (sIf (D3.tOr (bG (dOp gIx (aA 5) (dC (.int 2)))) (bG (dOp gIx (aA 5) (dC (.int 3))))) ((λ_=>none)) (fO)) (XI.jl [0] (dTup (aj (dOp gIx (d9 (aj (dC (.str "name")) (aj (dC (.str "stands")) (aj (dC (.str "")) (aj (dC (.str "")) (aj (dC (.str "guest")) (aW))))))) (dOp XI.rR (aA 5) (dC (.bool true)))) (aj (dC d) (aW))))))))else(λ_=>none)
def dw:List D->Option D:=XI.fnP 4 2 [0] (bU (XI.Bs 4 (XI.Ac (bG (dOp gEq (aA 1) (dC (.int 0)))) (XI.iI cH aR aQ 0 (aj (aA 2) (aj (aA 3) (aW))) [0]) (XI.Ac (bG (dOp gEq (aA 1) (dC (.int 1)))) (XI.iI ju aR aQ 0 (aj (aA 2) (aW)) [0]) (XI.Ac (bG (dOp gEq (aA 1) (dC (.int 2)))) (XI.iI eO aR aQ 0 (aj (aA 2) (aW)) [0]) (XI.iI gj aR aQ 0 (aj (aA 2) (aW)) [0])))) ["NoName", "Stands", "NoKind", "Full", "NoGuest"] fV)
    (XI.jl [0] (dTup (aj (dC (.str "done")) (aj (dC (.none)) (aW))))))
def jw:List D->Option D:=XI.fnW 4 8 [2] (bU (bJ 4 (dOp gIx (aA 3) (dCall bR (aj (aA 0) (aj (aA 1) (aj (dC (.int 0)) (aj (dC (.int 12)) (aW))))))))
    (bU (bJ 5 (dOp gIn (aA 4) (XI.nH gF aR aQ (aA 2) (aW))))
    (bU (bJ 6 (dCall bR (aj (aA 0) (aj (aA 1) (aj (dC (.int 1)) (aj (dC (.int 6)) (aW)))))))
    (bU (bJ 7 (dCall iw (aj (aA 2) (aW))))
    (bU (bJ 8 (dCall gZ (aj (aA 0) (aj (aA 1) (aj (aA 4) (aW))))))
    (bU (bJ 9 (dCall g8 (aj (aA 0) (aj (aA 1) (aW)))))
    (bU (bJ 10 (dOp gIx (d9 (aj (dTup (aj (dC (.int 0)) (aj (aA 8) (aj (dC (.int 1)) (aW))))) (aj (dTup (aj (dC (.int 0)) (aj (aA 8) (aj (aA 9) (aW))))) (aj (dTup (aj (dC (.int 0)) (aj (aA 4) (aj (aA 9) (aW))))) (aW))))) (dOp mF (aA 6) (dC (.int 3)))))
    (bU (bJ 11 (dOp gIx (d9 (aj (dTup (aj (dC (.str "name")) (aj (aA 8) (aW)))) (aj (dTup (aj (dC (.str "name")) (aj (aA 8) (aW)))) (aj (dTup (aj (dC (.str "kind")) (aj (aA 9) (aW)))) (aW))))) (dOp mF (aA 6) (dC (.int 3)))))
    (bU (sIf (D3.vX (bG (aA 5)) (bG (dOp Ig (dOp mF (aA 6) (dC (.int 3))) (dC (.int 2))))) (bJ 11 (dTup (aj (dC (.str "stands")) (aj (aA 4) (aW))))) (fO))
    (bU (sIf (D3.vX (bG (dOp gGt (aA 6) (dC (.int 2)))) (D3.mD (bG (aA 5)))) (bU (bJ 10 (dTup (aj (dOp TQ (aA 6) (dC (.int 2))) (aj (aA 4) (aj (dC (.int 1)) (aW))))))
    (bJ 11 (dTup (aj (dC (.str "guest")) (aj (aA 4) (aW)))))) (fO))
    (bU (XI.Jb (XI.Vb (XI.ur (XI.Ad GD (XI.rQ dw (aj (aA 2) (aj (dOp gIx (aA 10) (dC (.int 0))) (aj (dOp gIx (aA 10) (dC (.int 1))) (aj (dOp gIx (aA 10) (dC (.int 2))) (aW))))) [2]) (aA 11))) (XI.Qz (bG (dOp xU (dCall iw (aj (aA 2) (aW))) (aA 7))))) (XI.xG [2] (dC (.bool false))) (fO))
    (bU (sIf (D3.tOr (bG (dUn T3 (dCall cT (aj (aA 8) (aW))))) (bG (dUn JT (dCall cT (aj (aA 4) (aW)))))) (XI.xG [2] (dC (.bool false))) (fO))
    (bU (sIf (bG (aA 5)) (XI.xG [2] (dOp Pu (XI.nH gb aR aQ (aA 2) (aj (aA 4) (aW))) (XI.nH dO aR aQ (aA 2) (aW)))) (fO))
    (XI.CW [2] (XI.Ad gIn (XI.Ad gIx (XI.rQ dw (aj (aA 2) (aj (dC (.int 0)) (aj (aA 4) (aj (dC (.int 1)) (aW))))) [2]) (dC (.int 0))) (dTup (aj (dC (.str "done")) (aj (dC (.str "full")) (aW)))))))))))))))))))
def RV:List D->Option D:=fnD 1 5 (bU (bJ 1 (dOp oX (d9 (aj (dC (.int 2)) (aW))) (dCall iW (aj (aA 0) (aj (dC (.int 0)) (aj (dC (.int 11)) (aW)))))))
    (bU (bJ 2 (XI.QT aR aQ jD (aj (aA 1) (aW))))
    (bU (bJ 3 (dCall k_ (aj (aA 0) (aj (dC (.int 2)) (aW)))))
    (bU (yN (uW (aj (dC (.int 4)) (aW))) (gNl 4) (XI.qj (XI.rQ dw (aj (aA 2) (aj (dC (.int 0)) (aj (dOp gIx (aA 3) (aA 4)) (aj (dOp lH (dC (.int 1)) (dCall bR (aj (aA 0) (aj (dOp lH (dC (.int 4)) (aA 4)) (aj (dC (.int 0)) (aj (dC (.int 3)) (aW))))))) (aW))))) [2])))
    (bU (yN (JL (aj (dC (.int 12)) (aj (dCall JN (aj (dC (.int 14)) (aj (dCall JQ (aj (dCall BW (aj (aA 0) (aW))) (aj (dC (.int 24)) (aW)))) (aW)))) (aW)))) (gNl 5) (XI.Jb (XI.Gf (XI.ur (XI.CN jw (aj (aA 0) (aj (aA 5) (aj (aA 2) (aj (aA 3) (aW))))) [2]))) (jg (dC (.bool false))) (fO)))
    (jg (dC (.bool true))))))))
end K68
variable{M:List D3.D}
namespace K68
open D3 My Com XI
abbrev Gu:=Str×Int×Int
def SP(P:List Gu):List (Str×Int):=P.map λq=>(q.1,q.2.1)
def TP(P:List Gu):List (Str×Int):=P.map λq=>(q.1,q.2.2)
def QP(P:List Gu):List (Int×Int):=P.map λq=>(q.2.1,q.2.2)
def dS(S:List (Str×Int)):D:=.dict (ssP S)
def hD(rs:List Int)(S T:List (Str×Int))(M:List D):D:=.dict (uc aR aQ [.list (rs.map .int),dS S,dS T,.list M])
section
variable{T:List (Str×Int)}{M:List D}{f g fa':FE}{fa:FA}{δ:DS}{k i:Nat}{F:List D->Option D}{v:Int}{d:D}{l:List Nat}
theorem vR:∀S:List (Str×Int),ssD (ssP S)=some S
 |[]=>rfl
 |q::S=>by
  show(ssD (ssP S)).map _=_;rw[vR S];rfl
def hC:isC aR aQ (hD rs S T M)=some [.list (rs.map .int),dS S,dS T,.list M]:=by
 unfold hD uc isC;exact if_pos ⟨rfl,rfl⟩
def qFd(k:Nat)(x:Option D):Option D:=x.bind λd=>(isC aR aQ d).bind λds=>ds[k]?
def pK:rO aR aQ k f δ=qFd k (f δ):=rfl
def fd0:qFd 0 (some (hD rs S T M))=some (.list (rs.map .int)):=by unfold qFd;rw[aq,hC];rfl
def fd1:qFd 1 (some (hD rs S T M))=some (dS S):=by unfold qFd;rw[aq,hC];rfl
def fd2:qFd 2 (some (hD rs S T M))=some (dS T):=by unfold qFd;rw[aq,hC];rfl
def fd3:qFd 3 (some (hD rs S T M))=some (.list M):=by unfold qFd;rw[aq,hC];rfl
def qMe(F:List D->Option D)(x:Option D)(a:Option (List D)):Option D:=x.bind λd=>(isC aR aQ d).bind λ_=>a.bind λds=>F (d::ds)
def j7:nH F aR aQ f fa δ=qMe F (f δ) (fa δ):=rfl
def uE:qMe F (some (hD rs S T M)) (some ds)=F (hD rs S T M::ds):=by unfold qMe;rw[aq,hC];rfl
def qFP(k i:Nat)(v y q:Option D)(δ:DS):Option Oc:=v.bind λd=>y.bind λy=>(isC aR aQ y).bind λds=>q.bind λq=>match ds[k]?,q,d with
 |some (.dict kvs),.str x,.int v=>(ssD kvs).bind λS=>if S.length<1000 then some (.nx (δ.set i (some (.d (.dict (uc aR aQ (ds.set k (.dict (ssP (oh S x v))))))))))else none
 |_,_,_=>none
def RW:Bo aR aQ k i f g δ=qFP k i (g δ) (aA i δ) (f δ) δ:=rfl
def fp1(h:S.length<1000):qFP 1 i (some (.int v)) (some (hD rs S T M)) (some (.str x)) δ=some (.nx (δ.set i (some (.d (hD rs (oh S x v) T M))))):=by
 unfold qFP;rw[aq,aq,hC,aq,aq];show(ssD (ssP S)).bind _=_;rw[vR,aq,if_pos h];rfl
def fp2(h:T.length<1000):qFP 2 i (some (.int v)) (some (hD rs S T M)) (some (.str x)) δ=some (.nx (δ.set i (some (.d (hD rs S (oh T x v) M))))):=by
 unfold qFP;rw[aq,aq,hC,aq,aq];show(ssD (ssP T)).bind _=_;rw[vR,aq,if_pos h];rfl
def qFA(k i:Nat)(y d:Option D)(δ:DS):Option Oc:=y.bind λy=>(isC aR aQ y).bind λds=>d.bind λd=>match ds[k]? with
 |some (.list m)=>if flat d=true/\m.length<1000000 then some (.nx (δ.set i (some (.d (.dict (uc aR aQ (ds.set k (.list (m++[d])))))))))else none
 |_=>none
def Z4:Kq aR aQ k i f δ=qFA k i (aA i δ) (f δ) δ:=rfl
def fa3(h:flat d=true)(h':M.length<1000000):qFA 3 i (some (hD rs S T M)) (some d) δ=some (.nx (δ.set i (some (.d (hD rs S T (M++[d])))))):=by
 unfold qFA;rw[aq,hC,aq,aq];show(if flat d=true/\M.length<1000000 then _ else _)=_;rw[if_pos ⟨h,h'⟩];rfl
def qEW(a:Option (D×DS)):Option Oc:=a.bind λp=>some (.nx p.2)
def K3{fw:FW}:qj fw δ=qEW (fw δ):=rfl
def al7{p:D×DS}:qEW (some p)=some (.nx p.2):=rfl
def qMW(F:List D->Option D)(x:Option D)(a:Option (List D))(sw:List Nat)(δ:DS):Option (D×DS):=x.bind λd=>(isC aR aQ d).bind λ_=>a.bind λds=>(F (d::ds)).bind λr=>MF r sw δ
def Wf:CP F aR aQ i fa sw δ=qMW F (aA i δ) (fa δ) sw δ:=rfl
def av7{r:D}(h:F (hD rs S T M::ds)=some (.tuple [r,y]))(q:flat r=true):qMW F (some (hD rs S T M)) (some ds) [i] δ=some (r,δ.set i (some (.d y))):=by
 unfold qMW;rw[aq,hC,aq,aq,h,aq];show(if flat r=true/\_ then _ else _)=_;rw[if_pos ⟨q,rfl⟩];rfl
def qPk(x:Option D)(r:Option (List D)):Option (List D):=x.bind λd=>r.bind λr=>some (d::r)
def lA:jr [] δ=some []:=rfl
def jm:jr (i::l) δ=qPk (aA i δ) (jr l δ):=rfl
def vU:qPk (some d) (some ds)=some (d::ds):=rfl
def qRW(d:Option D)(r:Option (List D)):Option Oc:=d.bind λd=>if flat d=true then r.bind λr=>some (.ex "" "" (.tuple (d::r)))else none
def Z5:xG l f δ=qRW (f δ) (jr l δ):=rfl
def av8{r:List D}:qRW (some d) (some r)=if flat d=true then some (.ex "" "" (.tuple (d::r)))else none:=rfl
def rW{p q:Nat}{b:FS}:fnW p q l b ds=if ds.length=p then Qt l (b (ds.map (λd=>some (.d d))++bK q none))else none:=rfl
def tR{y:Str}:Qt l (some (.ex c y d))=some d:=rfl
def al8:Qt l (some (.nx δ'))=(jr l δ').bind λr=>some (.tuple (.none::r)):=rfl
def vV{y:Str}{b:FS}:qS (some (.ex c y d)) b=some (.ex c y d):=rfl
def Wg:JK f δ=(f δ).bind λ_=>some (.nx δ):=rfl
def K4:Vf (.str x) (dS S)=some (.bool (jO S x).isSome):=by
 show(ssD (ssP S)).bind _=_;rw[vR];rfl
def G3:vI (.str x) (dS S)=some (.bool (!(jO S x).isSome)):=by
 show(ssD (ssP S)).bind _=_;rw[vR];rfl
def RX:xH (dS S) (.str x)=(jO S x).map .int:=by
 show(ssD (ssP S)).bind _=_;rw[vR,aq]
 cases jO S x<;>rfl
def Z6:C_ (dS S)=some (.list (S.map λq=>.str q.1)):=by
 show(ssD (ssP S)).bind _=_;rw[vR];rfl
def Z7:Dh (dS S)=some (.list ((S.map (·.2)).map .int)):=by
 unfold Dh Kz dS;dsimp only;rw[vR];rfl
def qIt(x:Option D):Option (List D):=x.bind λx=>match x with
 | .dict kvs=>(ssD kvs).bind λS=>some (itS S)
 |_=>none
def Xa:QL f δ=qIt (f δ):=rfl
def al9:qIt (some (dS S))=some (itS S):=by
 show(ssD (ssP S)).bind _=_;rw[vR];rfl
end
section
variable{y:Str}{v:Int}
def G4{q:Str×Int}:jO (q::S) x=if q.1=x then some q.2 else jO S x:=by
 unfold jO;rw[mz];by_cases c:q.1=x<;>simp[c]
theorem zW:∀{S:List (Str×Int)},(S.map (·.1)).Nodup->(x,v)∈S->jO S x=some v
 |[],_,h=>by cases h
 |q::S,hn,h=>by
  rw[G4];obtain⟨n1,n2⟩:=cF.mp hn;rcases aL.mp h with z|z
  .rw[<-z,if_pos rfl]
  .rw[if_neg λe=>n1 (by show q.1∈_;rw[e];exact aY.mpr ⟨_,z,rfl⟩),zW n2 z]
theorem zX:∀{S:List (Str×Int)},jO S x=none<->x∉S.map (·.1)
 |[]=>by simp[jO]
 |q::S=>by
  rw[G4,aN,aL,not_or];by_cases c:q.1=x
  .rw[if_pos c];exact⟨λh=>(by cases h),λh=>absurd c.symm h.1⟩
  .rw[if_neg c,zX (S:=S)];exact⟨λh=>⟨λe=>c e.symm,h⟩,λh=>h.2⟩
def K5(h:x∉S.map (·.1)):oh S x v=S++[(x,v)]:=by
 unfold oh;rw[if_neg];intro z;obtain⟨q,h1,h2⟩:=oM.mp z;exact h (aY.mpr ⟨q,h1,of_decide_eq_true h2⟩)
def Wh(h:x∈S.map (·.1)):oh S x v=S.map λq=>if q.1=x then(q.1,v)else q:=by
 unfold oh;rw[if_pos];obtain⟨q,h1,h2⟩:=aY.mp h;exact oM.mpr ⟨q,h1,dTr h2⟩
end
def rY(P:List Gu):(SP P).map (·.1)=P.map (·.1):=by unfold SP;rw[bZ];rfl
def Dw(P:List Gu):(TP P).map (·.1)=P.map (·.1):=by unfold TP;rw[bZ];rfl
def qt(P:List Gu):(QP P).map (·.1)=P.map (·.2.1):=by unfold QP;rw[bZ];rfl
def zY{T:List (Str×Int)}:gF [hD rs S T M]=some (.list (S.map λq=>.str q.1)):=by
 unfold gF;simp![pK,fd1,Z6]
def Jr{T:List (Str×Int)}(h:flats M=true):jQ [hD rs S T M]=some (.list M):=by
 have e:Dm (.list M)=some (.list M):=if_pos h;unfold jQ;simp![pK,fd3,e]
theorem K6:∀qs:List (Int×Int),XS.Io (qs.map mpD)=some qs
 |[]=>rfl
 |q::qs=>by
  show(XS.Io (qs.map mpD)).map _=_;rw[K6 qs];rfl
def rZ{P:List Gu}(hn:(P.map (·.1)).Nodup)(O:(P.map (·.2.1)).Nodup)(U:P.length<=1000):dO [hD rs (SP P) (TP P) M]=some (dcD (QP P)):=by
 have e:iB (gTn 2 (fj (gNl 0) (fj (gNl 1) (nu)))) (D3.yM) (jG (dTup (aj (aA 1) (aj (dOp XI.xH (XI.rO aR aQ 2 (aA 2)) (aA 0)) (aW))))) (jY 2 [0] [some (.d (hD rs (SP P) (TP P) M))]) (itS (SP P))=some ((QP P).map mpD):=by
  have T:itS (SP P)=P.map λq=>eb [.str q.1,.int q.2.1]:=by unfold itS SP;rw[bZ];rfl
  have V:(QP P).map mpD=P.map λq=>eb [.int q.2.1,.int q.2.2]:=by unfold QP;rw[bZ];rfl
  rw[T,V];refine V6 (λq:Gu=>eb [.str q.1,.int q.2.1]) (λq:Gu=>eb [.int q.2.1,.int q.2.2]) P λq Y=>?_
  refine⟨[some (.d (.str q.1)),some (.d (.int q.2.1)),some (.d (hD rs (SP P) (TP P) M))],rfl,rfl,?_⟩;have Z:jO (TP P) q.1=some q.2.2:=zW (by rw[Dw];exact hn) (aY.mpr ⟨q,Y,rfl⟩);simp![pK,fd2,RX,Z,fZ,sz (show 0+1+1<=1000000 by decide)]
 have X:(itS (SP P)).length<=100000:=by unfold itS SP;rw[aG,aG];lia
 have W:XS.zf [.list ((QP P).map mpD)]=some (dcD (QP P)):=by
  unfold XS.zf;dsimp only;rw[K6,aq,if_pos]
  .rfl
  .refine⟨?_,by rw[qt];exact O⟩;unfold QP;rw[aG,aG];exact U
 unfold dO;simp![Xa,pK,fd1,al9,X,e,W]
def mJ(x:Str):Prop:=(∀c∈x.cps.toList,97<=c/\c<=122)/\1<=x.length/\x.length<=8
def Dy{a b:Nat}:([a]:List Nat) < [b]<->a<b:=by simp[List.cons_lt_cons_iff]
def av9{c:Nat}(h:97<=c):tH (.str "a") (.str ⟨#[c]⟩)=some (.bool true):=by
 unfold tH;dsimp only;have:¬((⟨#[c]⟩:Str).cps.toList<("a":Str).cps.toList):=λz=>by
  have z:([c]:List Nat) < [97]:=z;have:=Dy.mp z;lia
 rw[dFa this];rfl
def aw0{c:Nat}(h:c<=122):tH (.str ⟨#[c]⟩) (.str "z")=some (.bool true):=by
 unfold tH;dsimp only;have:¬(("z":Str).cps.toList<(⟨#[c]⟩:Str).cps.toList):=λz=>by
  have z:([122]:List Nat) < [c]:=z;have:=Dy.mp z;lia
 rw[dFa this];rfl
def qSg(x:Option D):Option (List D):=x.bind qg
def RZ{f:FE}:YJ f δ=qSg (f δ):=rfl
def aw1(h:∀c∈x.cps.toList,97<=c/\c<=122):qSg (some (.str x))=some (x.cps.toList.map λc=>.str ⟨#[c]⟩):=by
 show qg (.str x)=_;unfold qg;dsimp only;rw[if_pos];rw[<-oU,fG];intro c Z;have:=h c Z;exact dTr (by lia)
def iy(h:mJ x):cT [.str x]=some (.bool true):=by
 obtain⟨h1,h2,h3⟩:=h;have Z:D3.isT "str" "str"=true:=rfl;have X:FZ [.str x]=some (.int x.length):=if_pos (by lia);have U:(1:Int)<=x.length:=by lia
 have V:(x.length:Int)<=8:=by lia
 have W:iB (gNl 0) (D3.yM) (oE XI.tH XI.tH (dC (.str "a")) (aA 0) (dC (.str "z"))) (jY 1 [] [some (.d (.str x))]) (x.cps.toList.map λc=>eD ⟨#[c]⟩)=some (x.cps.toList.map λ_=>d5 true):=by
  refine V6 (λc:Nat=>eD ⟨#[c]⟩) (λ_=>d5 true) x.cps.toList λc Y=>?_
  obtain⟨a,b⟩:=h1 c Y;refine⟨[some (.d (.str ⟨#[c]⟩))],rfl,rfl,?_⟩;simp![av9 a,aw0 b]
 have ln:(x.cps.toList.map λc=>eD ⟨#[c]⟩).length<=100000:=by
  rw[aG];have:x.cps.toList.length=x.length:=rfl;lia
 have ea:HJ [.list (x.cps.toList.map λ_=>d5 true)]=some (.bool true):=by
  rw[Jj (λ_=>true)];simp
 unfold cT;simp![tyD,Z,bO,X,dTr U,dTr V,RZ,aw1 h1,ln,W,ea]
def Js{T:List (Str×Int)}{v:Int}(h:mJ x)(q:jO S x=some v):gq [hD rs S T M,.str x]=some .none:=by
 unfold gq;simp![iy h,pK,fd1,G3,q,nj,bO]
def mv(P:List Gu)(a b:Int):List Gu:=P.map λq=>if q.2.1=a then(q.1,b,q.2.2)else q
def R3(P:List Gu)(a b:Int):(mv P a b).map (·.1)=P.map (·.1):=by
 unfold mv;rw[bZ];refine eU λq _=>?_
 show(if q.2.1=a then(q.1,b,q.2.2)else q).1=q.1;split<;>rfl
def Xb(P:List Gu)(a b:Int):TP (mv P a b)=TP P:=by
 unfold TP mv;rw[bZ];refine eU λq _=>?_
 show((if q.2.1=a then(q.1,b,q.2.2)else q).1,(if q.2.1=a then(q.1,b,q.2.2)else q).2.2)=_;split<;>rfl
theorem R5:∀(P:List Gu)(a b:Int),(P.map (·.2.1)).Nodup->b∉P.map (·.2.1)->∀x,fW (QP (mv P a b)) x=if x=b then fW (QP P) a else if x=a then none else fW (QP P) x
 |[],a,b,_,_,x=>by
  show fW [] x=if x=b then fW [] a else if x=a then none else fW [] x
  rw[KR,KR];split
  .rfl
  .split<;>rfl
 |q::P,a,b,hn,hb,x=>by
  obtain⟨n1,n2⟩:=cF.mp hn;have Y:q.2.1≠b:=λe=>hb (by rw[<-e];exact aJ)
  have Z:=R5 P a b n2 (λz=>hb (aH _ z)) x;show fW (((if q.2.1=a then(q.1,b,q.2.2)else q).2.1,(if q.2.1=a then(q.1,b,q.2.2)else q).2.2)::QP (mv P a b)) x=if x=b then fW ((q.2.1,q.2.2)::QP P) a else if x=a then none else fW ((q.2.1,q.2.2)::QP P) x
  rw[pI,pI,pI,Z];by_cases c:q.2.1=a
  .have X:fW (QP P) a=none:=by
    cases e:fW (QP P) a with
    |none=>rfl
    |some w=>exact absurd (by show q.2.1∈_;rw[c,<-qt];exact rT.mp (by rw[e];rfl)) n1
   simp only[c,if_true]
   grind
  .simp only[c,if_false]
   grind
def am0{P:List Gu}{a b:Int}(hn:(P.map (·.2.1)).Nodup)(hb:b∉P.map (·.2.1)):((mv P a b).map (·.2.1)).Nodup:=by
 unfold mv;rw[bZ];have:P.map ((λq:Gu=>q.2.1)∘λq=>if q.2.1=a then(q.1,b,q.2.2)else q)=(P.map (·.2.1)).map λr=>if r=a then b else r:=by
  rw[bZ];refine eU λq _=>?_
  show(if q.2.1=a then(q.1,b,q.2.2)else q).2.1=if q.2.1=a then b else q.2.1
  split<;>rfl
 rw[this];generalize P.map (·.2.1)=l at hn hb;unfold List.Nodup at hn ⊢;rw[uO];refine fy ?_ hn;intro x y hx Z ne;by_cases c:x=a
 .rw[if_pos c];by_cases d:y=a
  .exact absurd (c.trans d.symm) ne
  .rw[if_neg d];exact λe=>hb (by rw[e];exact Z)
 .rw[if_neg c];by_cases d:y=a
  .rw[if_pos d];exact λe=>hb (by rw[<-e];exact hx)
  .rw[if_neg d];exact ne
theorem Jt{α β:Type}{f:α->β}:∀{l:List α}{x y:α},(l.map f).Nodup->x∈l->y∈l->f x=f y->x=y
 |[],_,_,_,h,_,_=>by cases h
 |z::l,x,y,hn,hx,Z,e=>by
  obtain⟨n1,n2⟩:=cF.mp hn;rcases aL.mp hx with a|a
  .rcases aL.mp Z with b|b
   .rw[a,b]
   .exact absurd (by rw[<-a,e];exact aY.mpr ⟨y,b,rfl⟩) n1
  .rcases aL.mp Z with b|b
   .exact absurd (by rw[<-b,<-e];exact aY.mpr ⟨x,a,rfl⟩) n1
   .exact Jt n2 a b e
def Wi{P:List Gu}{a b:Int}{q0:Gu}(hn:(P.map (·.1)).Nodup)(Y:(P.map (·.2.1)).Nodup)(hl:P.length<1000)(hM:M.length<1000000)(O:q0∈P)(ha:q0.2.1=a):
 fK [hD rs (SP P) (TP P) M,.int a,.int b]=some (.tuple [.none,hD rs (SP (mv P a b)) (TP (mv P a b)) (M++[.tuple [.str q0.1,.int a,.int b]])]):=by
 have R:P.filter (λq=>decide (q.2.1=a))=[q0]:=by
  have Z:∀P:List Gu,(P.map (·.2.1)).Nodup->q0∈P->P.filter (λq=>decide (q.2.1=a))=[q0]:=by
   intro P
   induction P with
   |nil=>intro _ h;cases h
   |cons q P W=>
    intro Y O;obtain⟨n1,n2⟩:=cF.mp Y;rcases aL.mp O with z|z
    .subst z;rw[List.filter_cons_of_pos (by simpa using ha),List.filter_eq_nil_iff.mpr];intro x hx e;exact n1 (by show q0.2.1∈_;rw[ha,<-of_decide_eq_true e];exact aY.mpr ⟨x,hx,rfl⟩)
    .rw[List.filter_cons_of_neg,W n2 z];intro e;exact n1 (by show q.2.1∈_;rw[of_decide_eq_true e,<-ha];exact aY.mpr ⟨q0,z,rfl⟩)
  exact Z P Y O
 have e:∀y:Option U,iB (gTn 2 (fj (gNl 0) (fj (gNl 1) (nu)))) (bG (dOp gEq (aA 1) (aA 2))) (jG (aA 0)) (jY 2 [1] [some (.d (hD rs (SP P) (TP P) M)),some (.d (.int a)),some (.d (.int b)),y]) (itS (SP P))=some [.str q0.1]:=λy=>by
  have Q:itS (SP P)=P.map λq=>eb [.str q.1,.int q.2.1]:=by unfold itS SP;rw[bZ];rfl
  have:=GJ (g:=(gTn 2 (fj (gNl 0) (fj (gNl 1) (nu))))) (c:=(bG (dOp gEq (aA 1) (aA 2)))) (e:=(jG (aA 0))) (δ:=jY 2 [1] [some (.d (hD rs (SP P) (TP P) M)),some (.d (.int a)),some (.d (.int b)),y]) (λq:Gu=>eb [.str q.1,.int q.2.1]) (λq=>decide (q.2.1=a)) (λq:Gu=>eD q.1) P λq X=>?_
  .rw[Q,this,R];rfl
  .refine⟨[some (.d (.str q.1)),some (.d (.int q.2.1)),some (.d (.int a))],rfl,?_,λ_=>?_⟩
   .simp![]
   .simp![]
 have S:(itS (SP P)).length<=100000:=by unfold itS SP;rw[aG,aG];lia
 have T:oh (SP P) q0.1 b=SP (mv P a b):=by
  rw[Wh (by rw[rY];exact aY.mpr ⟨q0,O,rfl⟩)];unfold SP mv;rw[bZ,bZ];refine eU λq X=>?_
  show(if q.1=q0.1 then(q.1,b)else(q.1,q.2.1))=((if q.2.1=a then(q.1,b,q.2.2)else q).1,(if q.2.1=a then(q.1,b,q.2.2)else q).2.1);have:q.1=q0.1<->q.2.1=a:=by
   constructor
   .intro z;have:q=q0:=Jt hn X O z;rw[this,ha]
   .intro z;have:q=q0:=Jt Y X O (z.trans ha.symm);rw[this]
  by_cases c:q.2.1=a
  .rw[if_pos (this.mpr c),if_pos c]
  .rw[if_neg (λz=>c (this.mp z)),if_neg c]
 have V:(SP P).length<1000:=by unfold SP;rw[aG];exact hl
 have ft:flat (.tuple [.str q0.1,.int a,.int b])=true:=rfl;rw[Xb];unfold fK;simp![rW,Xa,pK,fd1,al9,S,e,at0,RW,fp1 V,dG,T,Z4,sz (show 0+1+1+1<=1000000 by decide),fa3 ft hM,al8,jm,lA,vU,aq]
section
variable{f g:FX}{fs:FS}{fe:FE}{δ δ':DS}{l:List Nat}{y:Str}{d:D}{o:Oc}
def qXS(o:Option Or)(g:FX):Option Or:=o.bind λo=>match o with
 | .o (.nx δ')=>g δ'
 |o=>some o
def xM:vg f g δ=qXS (f δ) g:=rfl
def K7:qXS (some (.o (.nx δ'))) g=g δ':=(rfl)
def zZ:qXS (some (.ex c d)) g=some (.ex c d):=rfl
def qXI(t:Option Bool)(f g:FX)(δ:DS):Option Or:=t.bind λb=>if b=true then f δ else g δ
def Ng:xIf ft f g δ=qXI (ft δ) f g δ:=rfl
def R6:qXI (some true) f g δ=f δ:=(rfl)
def Wj:qXI (some false) f g δ=g δ:=(rfl)
def qXO(o:Option Oc):Option Or:=o.bind λo=>some (.o o)
def R7:xOf fs δ=qXO (fs δ):=rfl
def Wk:qXO (some o)=some (.o o):=rfl
def x_raise:qm l c fe δ=(fe δ).bind λd=>(jr l δ).bind λr=>some (.ex c (.tuple (d::r))):=rfl
def Z8:Gq l fe δ=(fe δ).bind λ_=>(jr l δ).bind λr=>some (.o (.ex "" "" (.tuple (.none::r)))):=rfl
def DK{p q:Nat}:Dj p q l f ds=if ds.length=p then QV l (f (ds.map (λd=>some (.d d))++bK q none))else none:=rfl
def xO:QV l (some (.ex c d))=some (.ex c d):=rfl
def aw2:QV l (some (.o (.ex c y d)))=some (.o (.ex c y d)):=rfl
end
def Gmv{P:List Gu}{a b w:Int}(G:Gst rs (QP P))(ha:fW (QP P) a=some w)(hb:fW (QP P) b=none)(b0:0<=b)(b1:b<rs.length)(hw:w<=rs.getD b.toNat 0):Gst rs (QP (mv P a b)):=by
 have nr:(P.map (·.2.1)).Nodup:=by rw[<-qt];exact G.nd
 have X:b∉P.map (·.2.1):=λz=>by
  rw[<-qt]at z;have:=rT.mpr z;rw[hb]at this
  cases this
 refine⟨by rw[qt];exact am0 nr X,λq Y=>?_⟩;unfold QP mv at Y;rw[bZ]at Y;obtain⟨p,W,rfl⟩:=aY.mp Y;have Z:(p.2.1,p.2.2)∈QP P:=aY.mpr ⟨p,W,rfl⟩;obtain⟨g1,g2,g3,V⟩:=G.rg _ Z;dsimp only[Function.comp];by_cases c:p.2.1=a
 .rw[if_pos c];have:=jZ G.nd Z;rw[c,ha]at this
  cases this;exact⟨b0,b1,g3,hw⟩
 .rw[if_neg c];exact⟨g1,g2,g3,V⟩
def Mv(d:D):Prop:=∃n a b,d = .tuple [.str n,.int a,.int b]
theorem G5:∀{M:List D},(∀d∈M,Mv d)->flats M=true
 |[],_=>rfl
 |d::M,h=>by
  obtain⟨n,a,b,rfl⟩:=h d aJ;rw[flats,G5 λd hd=>h d (aH _ hd)];rfl
theorem z6{d1 d2 d3:D}(hl:rs.length<=60):∀(ps:List (Int×Int))(P:List Gu)(M:List D)(g b e:Int)(y z:Option U),Gst rs (QP P)->(P.map (·.1)).Nodup->fW (QP P) g=none->0<=g->g<rs.length->b<=rs.getD g.toNat 0->LkR ps b e ->
 (∀p∈ps,fW (QP P) (gmR rs qs p.1 p.2)=some p.2/\p.1<=rs.getD (gmR rs qs p.1 p.2).toNat 0)->ps.Pairwise (λp q=>p.2<q.2)->M.length+ps.length<1000000->(∀d∈M,Mv d) ->
 ∃O M' y' z',oW (gTn 2 (fj (gNl 4) (fj (gNl 5) (nu)))) (XI.qj (XI.CP fK aR aQ 0 (aj (aA 4) (aj (aA 5) (aW))) [0])) ((mvs rs qs ps g).map mpD) [some (.d (hD rs (SP P) (TP P) M)),some (.d d1),some (.d d2),some (.d d3),y,z]=some (.nx [some (.d (hD rs (SP O) (TP O) M')),some (.d d1),some (.d d2),some (.d d3),y',z']) /\
  O.map (·.1)=P.map (·.1)/\TP O=TP P/\Gst rs (QP O)/\fW (QP O) (gl rs qs ps g)=none/\0<=gl rs qs ps g/\gl rs qs ps g<rs.length/\e<=rs.getD (gl rs qs ps g).toNat 0/\M'.length=M.length+ps.length/\∀d∈M',Mv d
 |[],P,M,g,b,e,y,z,G,hn,k0,g1,g2,hb,lk,_,_,Q,fM=>by
  cases lk;exact⟨P,M,y,z,rfl,rfl,rfl,G,k0,g1,g2,hb,rfl,fM⟩
 |p::ps,P,M,g,b,e,y,z,G,hn,k0,g1,g2,hb,lk,R,W,Q,fM=>by
  cases lk with
  |cons l1 l2=>
  obtain⟨kp,L⟩:=R p aJ;obtain⟨i1,i2⟩:=fD.mp W;rw[aX]at Q;have mem:=Dt kp;obtain⟨q1,q2,q3,q4⟩:=G.rg _ mem;simp only at q1 q2 q3 q4;have nr:(P.map (·.2.1)).Nodup:=by rw[<-qt];exact G.nd
  have J:g∉P.map (·.2.1):=λz=>by
   rw[<-qt]at z;have:=rT.mpr z;rw[k0]at this
   cases this
  have K:gmR rs qs p.1 p.2≠g:=λz=>by rw[z,k0]at kp;cases kp
  have kn:=R5 P (gmR rs qs p.1 p.2) g nr J;have u:=Gmv G kp k0 g1 g2 (by lia);obtain⟨q0,I,v⟩:=aY.mp mem;have T:q0.2.1=gmR rs qs p.1 p.2:=congrArg Prod.fst v;have ln:P.length<1000:=by
   have:=G.len;unfold QP at this;rw[aG]at this;lia
  have em:=Wi (rs:=rs) (M:=M) (b:=g) hn nr ln (by lia) I T;obtain⟨O,M',y',z',N,w,x,A,B,C,E,F,H,V⟩:=z6 (d1:=d1) (d2:=d2) (d3:=d3) hl ps (mv P (gmR rs qs p.1 p.2) g) (M++[.tuple [.str q0.1,.int (gmR rs qs p.1 p.2),.int g]]) (gmR rs qs p.1 p.2) p.1 e (some (.d (.int (gmR rs qs p.1 p.2)))) (some (.d (.int g))) u (by rw[R3];exact hn) (by rw[kn,if_neg K,if_pos rfl]) q1 q2 L l2 (λS Y=>by
   obtain⟨Z,X⟩:=R S (aH _ Y);refine⟨?_,X⟩;have lt:=i1 S Y;rw[kn,if_neg (λz=>by rw[z,k0]at Z;cases Z),if_neg (λz=>by rw[z,kp]at Z;injection Z with t;lia)];exact Z) i2 (by rw[bB];simp only[aX,cW];lia) (λd hd=>by
    rcases bT.mp hd with z|z
    .exact fM d z
    .exact⟨_,_,_,bQ.mp z⟩)
  refine⟨O,M',y',z',?_,by rw[w,R3],by rw[x,Xb],A,B,C,E,F,by rw[H,bB];simp only[aX,cW];lia,V⟩;rw[mvs,aN,oW];have fn:flat .none=true:=rfl;unfold mpD at N ⊢;simp![aq,K3,Wf,av7 em fn,al7,dG];exact N
theorem Z9{r:List Int}(G:Gst rs qs)(h:Ch rs qs f r):1<=f->(r.length:Int)<f:=by
 induction h with
 |stop c=>intro Y;simp;lia
 |step c X W Z=>
  intro Y;have:=Z (zU G X);simp only[aX];lia
def R8{s:Str}(h:eA s=true):ly 1 (.str s):=⟨by rw[dP];exact h,by simp[du]⟩
def K8:ly 1 (.str "full"):=R8 (by decide +kernel)
def am1:gEq (.str "full") (.str "full")=some (.bool true):=Com.eq_self (xK K8 (by decide))
def eq_if:gEq (.str "in") (.str "full")=some (.bool false):=by
 unfold gEq;rw[jC (xK (R8 (s := "in") (by decide +kernel)) (by decide)),jC (xK K8 (by decide)),if_pos (by rfl)];have:dA (.str "in") (.str "full")=false:=by rw[dA];decide +kernel
 rw[this]
def xP{k:Nat}(h1:1<=k)(h2:k<=4):bW [.int (k:Int),.int 1,.int 4]=some (.bool true):=by
 have a:(1:Int)<=k:=by lia
 have b:(k:Int)<=4:=by lia
 have w:Com.eG [.int (k:Int)]=some (.bool true):=by
  unfold Com.eG;simp![];rfl
 show Com.bW _=_;unfold Com.bW;simp![w,dTr a,dTr b]
structure Hou(rs:List Int)(P:List Gu)(M:List D):Prop where
 rl:rs.length<=12
 rk:∀r∈rs,1<=r/\r<=4
 nd:(P.map (·.1)).Nodup
 gs:Gst rs (QP P)
 fM:∀d∈M,Mv d
def Hou.nr{P:List Gu}(h:Hou rs P M):(P.map (·.2.1)).Nodup:=by rw[<-qt];exact h.gs.nd
def Hou.len{P:List Gu}(h:Hou rs P M):P.length<=12:=by
 have:=h.gs.len;unfold QP at this;rw[aG]at this;have:=h.rl;lia
def G6{P:List Gu}{k:Nat}(h:Hou rs P M)(hx:mJ x)(nx:x∉P.map (·.1))(h1:1<=k)(h2:k<=4)(hM:M.length<900000):
 (∃L,lvM rs (QP P) k=some L/\cH [hD rs (SP P) (TP P) M,.str x,.int (k:Int)]=some (.ex "Full" (.tuple [.int L,hD rs (SP P) (TP P) M]))) \/
 (lvM rs (QP P) k=none/\∃O M' g,cH [hD rs (SP P) (TP P) M,.str x,.int (k:Int)]=some (.o (.ex "" "" (.tuple [.none,hD rs (SP (O++[(x,g,(k:Int))])) (TP (O++[(x,g,(k:Int))])) M'])))/\TP O=TP P/\Hou rs (O++[(x,g,(k:Int))]) M'/\M'.length<=M.length+4):=by
 have G:=h.gs;have c:=h.rl;have Z:rs.length<=60:=by lia
 have R:=rZ (rs:=rs) (M:=M) h.nd h.nr (by have:=h.len;lia);have F:jO (SP P) x=none:=zX.mpr (by rw[rY];exact nx);rcases W_ G k (k:Int) (by lia) (by lia)with⟨r,V⟩|hd
 .right
  have I:lvM rs (QP P) k=none:=by
   cases e:lvM rs (QP P) k with
   |none=>rfl
   |some L=>
    obtain⟨h1,h2,h3,_⟩:=zV e;rw[RK G V L h1 h2]at h3
    cases h3
  refine⟨I,?_⟩;obtain⟨pre,l,v,H⟩:=Wd V;obtain⟨X,gs,w⟩:∃X gs,frR rs (QP P) l=X::gs:=by
   cases e:frR rs (QP P) l with
   |nil=>exact absurd e H
   |cons a b=>exact⟨a,b,rfl⟩
  have i:=Z9 G V (by lia);have hlen:((k:Int)::r).length<=1000:=by simp only[aX];lia
  have ad:=GZ G Z (by lia) (by lia) V v hlen w;rw[Z0]at ad;dsimp only at ad;obtain⟨f1,f2,f3⟩:=Jk.mp (show X∈frR rs (QP P) l by rw[w];exact aJ);obtain⟨e,lk,hfe⟩:=al6 V pre l l v (nR _);have j:=RN V;have u:(((k:Int)::r).zip r).reverse.length<=4:=by
   rw[jJ,List.length_zip];simp only[aX];lia
  generalize S:(((k:Int)::r).zip r).reverse=ps at ad lk u;obtain⟨O,M',y',z',U,T,m,B,C,D,E,n,m9,J⟩:=z6 (qs:=QP P) (d1:=.str x) (d2:=.int (k:Int)) (d3:=.tuple [.str "in", .list ((mvs rs (QP P) ps (X:Int)).map mpD),.int (gl rs (QP P) ps (X:Int)),.list (((k:Int)::r).map .int)]) Z ps P M (X:Int) l e none none G h.nd f3 (by lia) (by lia) (by simpa using f2) lk (λp y=>by
   rw[<-S]at y;obtain⟨_,_,_,t⟩:=j p (List.mem_reverse.mp y);obtain⟨_,_,U,T⟩:=RM G t;exact⟨jZ G.nd U,T⟩) (by rw[<-S];exact Z2 V) (by lia) h.fM
  generalize hgl:gl rs (QP P) ps (X:Int)=Y at ad U C D E n;generalize d:(mvs rs (QP P) ps (X:Int)).map mpD=MM at ad U;generalize ((k:Int)::r).map dm=FF at ad U;have W:x∉O.map (·.1):=by rw[T];exact nx
  have l1:O.length=P.length:=by
   have:=congrArg nQ T;simpa using this
  have pl:=h.len;have s1:(SP O).length<1000:=by unfold SP;rw[aG];lia
  have s:(TP O).length<1000:=by unfold TP;rw[aG];lia
  have K:oh (SP O) x Y=SP (O++[(x,Y,(k:Int))]):=by rw[K5 (by rw[rY];exact W)];unfold SP;rw[cj];rfl
  have N:oh (TP O) x (k:Int)=TP (O++[(x,Y,(k:Int))]):=by rw[K5 (by rw[Dw];exact W)];unfold TP;rw[cj];rfl
  refine⟨O,M',Y,?_,m,⟨c,h.rk,?_,?_,J⟩,by lia⟩
  .unfold cH;simp![DK,xM,Ng,R7,iy hx,bO,Wj,Wk,K7,pK,fd1,K4,F,jX,xP h1 h2,fd0,j7,uE,R,ad,at0,eq_if,at1,at2,at3,U,RW,fp1 s1,dG,K,fp2 s,N,Z8,sz (show 0+1+1<=1000000 by decide),aq,jm,lA,vU,aw2]
  .rw[cj];exact dB.mpr ⟨by rw[T];exact h.nd,by simp,λa ha b hb e=>by simp at hb;rw[e,hb]at ha;exact W ha⟩
  .have e1:QP (O++[(x,Y,(k:Int))])=QP O++[(Y,(k:Int))]:=by unfold QP;rw[cj];rfl
   rw[e1];refine⟨?_,λq f=>?_⟩
   .rw[cj];exact dB.mpr ⟨B.nd,by simp,λa ha b hb e=>by
     simp at hb;have:=rT.mpr (show Y∈(QP O).map (·.1)by rw[<-hb,<-e];exact ha);rw[C]at this
     cases this⟩
   .rcases bT.mp f with z|z
    .exact B.rg q z
    .simp at z;subst z;exact⟨D,E,by show(1:Int)<=k;lia,by show(k:Int)<=rs.getD Y.toNat 0;lia⟩
 .left
  obtain⟨L0,l1,l2,A⟩:=Jo G hd (by lia);have Q:∃L,lvM rs (QP P) k=some L:=by
   cases e:lvM rs (QP P) k with
   |some L=>exact⟨L,rfl⟩
   |none=>rw[GP e L0 l1 l2]at A;cases A
  obtain⟨L,Q⟩:=Q;have ad:=Af G (by lia) h1 (by lia) hd Q;refine⟨L,Q,?_⟩;unfold cH;simp![DK,xM,Ng,R7,iy hx,bO,Wj,R6,Wk,K7,zZ,pK,fd1,K4,F,jX,xP h1 h2,fd0,j7,uE,R,ad,at0,am1,at1,x_raise,aq,jm,lA,vU,xO]
theorem DN:∀l:List D,(∀d∈l,d.depth<=n)->dn l<=n
 |[],_=>by simp[dn]
 |a::r,h=>by
  have h1:=h a aJ;have h2:=DN r λd hd=>h d (aH _ hd)
  simp only[dn];lia
theorem R9:∀qs:List (Int×Int),e_ (qs.map λq=>((.int q.1,.int q.2):D×D))<=1
 |[]=>by simp[e_]
 |q::qs=>by
  have:=R9 qs;rw[aN];simp only[e_,du];lia
def tOK:xT [.bool b]=some (.int (if b then 1 else 0)):=rfl
def letter(q:0<=i)(h1:i<25):∃c:Nat,FQ (.str "qwertyuiopasdghjklzxcvbnm") (.int i)=some (.str ⟨#[c]⟩)/\97<=c/\c<=122:=by
 have Z:∀n:Nat,n<25->∃c:Nat,FQ (.str "qwertyuiopasdghjklzxcvbnm") (.int (n:Int))=some (.str ⟨#[c]⟩)/\97<=c/\c<=122:=by
  have k2:∀n:Fin 25,∃c:Fin 123,L2.atI ("qwertyuiopasdghjklzxcvbnm":Str).cps.toList ((n:Nat):Int)=some (c:Nat)/\97<=(c:Nat):=by decide +kernel
  intro n hn;obtain⟨c,e,h⟩:=k2 ⟨n,hn⟩;refine⟨c,?_,h,by lia⟩;unfold FQ;dsimp only at e ⊢;rw[if_pos (by decide +kernel),e];rfl
 have:=Z i.toNat (by lia);rwa[Int.toNat_of_nonneg q]at this
def R_{s:Str}{c:Nat}(h:s.length<=100):o_ (.str s) (.str ⟨#[c]⟩)=some (.str (s++⟨#[c]⟩)):=by
 unfold o_;dsimp only;rw[if_pos];have e:(⟨#[c]⟩:Str).length=1:=rfl;rw[e];have:1000000<=sizeLine:=by decide
 lia
def Sd(ns:List Int):∃xs:List Str,k_ [.list (ns.map .int),.int 2]=some (.list (xs.map .str))/\xs.length=12/\∀x∈xs,mJ x:=by
 have P:=iu ns 2 0 (m:=8) (by decide);have pt:=λ(i k m:Int)(M:0<=i)(h1:0<=k)(h2:k<=1000)(h3:0<m)=>jB (ns:=ns) M h1 h2 h3
 have Q:=pt 2 0 8 (by decide) (by decide) (by decide) (by decide);have S:=pt 2 1 (1+iJ ns 2 0 8) (by decide) (by decide) (by decide) (by lia);generalize iJ ns 2 1 (1+iJ ns 2 0 8)=at1 at S;generalize iJ ns 2 0 8=z at P Q S;obtain⟨δ',e,xs,V,W,Z,rfl,T,hx⟩:=vN (g:=(gNl 6)) (b:=(bU (bJ 7 (dC (.str ""))) (bU (yN (uW (aj (aA 3) (aW))) (gNl 8) (bJ 7 (dOp o_ (aA 7) (dOp FQ (aA 2) (dOp mF (dOp lH (dCall bR (aj (aA 0) (aj (dOp lH (aA 1) (dC (.int 1))) (aj (aA 8) (aj (dC (.int 25)) (aW)))))) (dOp pY (aA 6) (dCall xT (aj (dOp gEq (aA 8) (aA 4)) (aW))))) (dC (.int 25))))))) (BR 5 (aA 7)))))
  (λi δ=>∃(xs:List Str)(V W Z:Option U),δ=[some (.d (.list (ns.map .int))),some (.d (.int 2)),some (.d (.str "qwertyuiopasdghjklzxcvbnm")),some (.d (.int (1+z))),some (.d (.int at1)),some (.d (.list (xs.map .str))),V,W,Z]/\xs.length=i/\∀x∈xs,mJ x)
  (iK 0 12) [some (.d (.list (ns.map .int))),some (.d (.int 2)),some (.d (.str "qwertyuiopasdghjklzxcvbnm")),some (.d (.int (1+z))),some (.d (.int at1)),some (.d (.list [])),none,none,none] ⟨[],none,none,none,rfl,rfl,by simp⟩ (by
  rintro i d δ hd ⟨xs,V,W,Z,rfl,T,hx⟩;obtain⟨hi,rfl⟩:=Jh hd;obtain⟨δ',e,s,X,rfl,sl,sc⟩:=vN (g:=(gNl 8)) (b:=(bJ 7 (dOp o_ (aA 7) (dOp FQ (aA 2) (dOp mF (dOp lH (dCall bR (aj (aA 0) (aj (dOp lH (aA 1) (dC (.int 1))) (aj (aA 8) (aj (dC (.int 25)) (aW)))))) (dOp pY (aA 6) (dCall xT (aj (dOp gEq (aA 8) (aA 4)) (aW))))) (dC (.int 25)))))))
   (λj δ=>∃(s:Str)(Z:Option U),δ=[some (.d (.list (ns.map .int))),some (.d (.int 2)),some (.d (.str "qwertyuiopasdghjklzxcvbnm")),some (.d (.int (1+z))),some (.d (.int at1)),some (.d (.list (xs.map .str))),some (.d (.int (i:Int))),some (.d (.str s)),Z]/\s.length=j/\∀c∈s.cps.toList,97<=c/\c<=122)
   (iK 0 (1+z)) [some (.d (.list (ns.map .int))),some (.d (.int 2)),some (.d (.str "qwertyuiopasdghjklzxcvbnm")),some (.d (.int (1+z))),some (.d (.int at1)),some (.d (.list (xs.map .str))),some (.d (.int (i:Int))),some (.d (.str "")),Z] ⟨"", Z,rfl,rfl,by intro c N;cases N⟩ (by
   rintro j d δ hd ⟨s,Z,rfl,sl,sc⟩;obtain⟨H,rfl⟩:=Jh hd;have R:=al0 (i:=iJ ns 3 (j:Int) 25+(i:Int)*(if decide ((j:Int)=at1)=true then 1 else 0)) (j:=25) (by decide);obtain⟨c,K,I,J⟩:=letter R.1 R.2;refine⟨_,[some (.d (.list (ns.map .int))),some (.d (.int 2)),some (.d (.str "qwertyuiopasdghjklzxcvbnm")),some (.d (.int (1+z))),some (.d (.int at1)),some (.d (.list (xs.map .str))),some (.d (.int (i:Int))),some (.d (.str (s++⟨#[c]⟩))),some (.d (.int (j:Int)))],rfl,.inl ?_,s++⟨#[c]⟩,_,rfl,?_,?_⟩
   .simp![show(2:Int)+1=3 from rfl,pt 3 (j:Int) 25 (by decide) (by lia) (by lia) (by decide),tOK,mulL (i:=(i:Int)) (j:=(if decide ((j:Int)=at1)=true then 1 else 0)) (by lia) (by lia),zT (i:=iJ ns 3 (j:Int) 25+(i:Int)*(if decide ((j:Int)=at1)=true then 1 else 0)) (j:=25) (by decide),K,R_ (s:=s) (c:=c) (by lia)]
   .show(s.cps++#[c]).size=j+1;rw[Array.size_append,show s.cps.size=j from sl];rfl
   .intro y Y;have e:(s++(⟨#[c]⟩:Str)).cps.toList=s.cps.toList++[c]:=by
     show(s.cps++#[c]).toList=_;simp
    rw[e]at Y;rcases bT.mp Y with q|q
    .exact sc y q
    .rw[bQ.mp q];exact⟨I,J⟩)
  rw[vO]at sl;refine⟨_,[some (.d (.list (ns.map .int))),some (.d (.int 2)),some (.d (.str "qwertyuiopasdghjklzxcvbnm")),some (.d (.int (1+z))),some (.d (.int at1)),some (.d (.list ((xs++[s]).map .str))),some (.d (.int (i:Int))),some (.d (.str s)),X],rfl,.inl ?_,xs++[s],_,_,_,rfl,by rw[bB,T];rfl,?_⟩
  .have O:(xs.map eD).length<1000000:=by rw[aG];lia
   simp![M8 (show -(2^62)<=1+z by lia) (show 1+z<2^62 by lia),e,O,gM,dG,cj,aN,dR]
  .intro y Y;rcases bT.mp Y with q|q
   .exact hx y q
   .rw[bQ.mp q];exact⟨sc,by lia,by lia⟩)
 refine⟨xs,?_,by rw[T];rfl,hx⟩;have L:fl1 (.list (xs.map .str))=true:=sY _ (λ_=>rfl) xs;unfold k_;simp![Q,S,sz (show 0<=1000000 by decide),M8 (show -(2^62)<=(12:Int)by decide) (show(12:Int)<2^62 by decide),e,L]
theorem uF:∀l:List Int,iz.noIns (l.map .int)=true
 |[]=>rfl
 |x::l=>by rw[aN,iz.noIns,uF l];rfl
theorem G7:∀l:List Int,nls (l.map .int)=0
 |[]=>rfl
 |x::l=>by rw[aN,nls,G7 l];rfl
def Nh:jD [.list (rs.map .int)]=some [.list (rs.map .int),.dict [],.dict [],.list []]:=by
 unfold jD fnI;rw[if_pos (by rfl)];have a:(dN1 (wj (dUn wY (aA 1)))) [none,some (.d (.list (rs.map .int)))]=some (.list (rs.map .int)):=by
  have f:fl1 (.list (rs.map .int))=true:=uz rs;have n:nl (.list (rs.map .int))<=1:=by rw[nl,G7];decide
  show(((some (eF (rs.map .int))).bind wY).bind _).bind _=_;rw[aq,Rq,aq,if_pos f,aq,if_pos (dTr n)]
 have i1:iz (.list (rs.map .int))=true:=uF rs;show Gp _ [none,some (.d (.list (rs.map .int)))]=_;unfold Gp;rw[a,aq,if_pos i1];rfl
def qMk(F:List D->Option (List D))(a:Option (List D)):Option D:=a.bind λds=>if iz.noIns ds=true then(F ds).bind λrs=>some (.dict (uc aR aQ rs))else none
def aw3{F:List D->Option (List D)}:QT aR aQ F fa δ=qMk F (fa δ):=rfl
def aw4:qMk jD (some [.list (rs.map .int)])=some (hD rs [] [] []):=by
 have i1:iz.noIns [.list (rs.map .int)]=true:=by
  rw[iz.noIns,show iz (.list (rs.map .int))=true from uF rs];rfl
 unfold qMk;rw[aq,if_pos i1,Nh];rfl
section
variable{f:FTW}{g:FTW}{fw:FW}{a b:FS}{δ δ':DS}{c:Bool}{F:List D->Option D}{fa:FA}
def qIW(t:Option (Bool×DS))(a b:FS):Option Oc:=t.bind λp=>if p.1=true then a p.2 else b p.2
def Sg:Jb f a b δ=qIW (f δ) a b:=rfl
def Z_:qIW (some (false,δ)) a b=b δ:=(rfl)
def qOW(b:Option Bool)(δ:DS):Option (Bool×DS):=b.map λb=>(b,δ)
def Xc:Qz ft δ=qOW (ft δ) δ:=rfl
def am2:qOW (some c) δ=some (c,δ):=rfl
def qNW(t:Option (Bool×DS)):Option (Bool×DS):=t.map λp=>(!p.1,p.2)
def aa0:Gf f δ=qNW (f δ):=rfl
def aw5:qNW (some (true,δ))=some (false,δ):=rfl
def qBW(t:Option (D×DS)):Option (Bool×DS):=t.bind λp=>match p.1 with
 | .bool b=>some (b,p.2)
 |_=>none
def DP:ur fw δ=qBW (fw δ):=rfl
def aa1:qBW (some (.bool c,δ))=some (c,δ):=rfl
def qCW(F:List D->Option D)(a:Option (List D))(sw:List Nat)(δ:DS):Option (D×DS):=a.bind λds=>(F ds).bind λd=>MF d sw δ
def Wl:CN F fa sw δ=qCW F (fa δ) sw δ:=rfl
end
def Sh{a b:Int}{i:Nat}(h:(iK a b)[i]? = some d):d = .int (a+i)/\(i:Int)<b-a:=by
 unfold iK at h;rw[aP]at h;obtain⟨k,Z,rfl⟩:=pL.mp h;obtain⟨h1,h2⟩:=bw.mp Z;rw[List.getElem_range]at h2;rw[jj]at h1;subst h2;exact⟨rfl,by lia⟩
def leA{c:Nat}:tH (.str "a") (.str ⟨#[c]⟩)=some (.bool (decide (97<=c))):=by
 unfold tH;dsimp only;have:((⟨#[c]⟩:Str).cps.toList<("a":Str).cps.toList)<->c<97:=Dy (a:=c) (b:=97);by_cases h:c<97
 .rw[dTr (this.mpr h),dFa (by lia)];rfl
 .rw[dFa (λz=>h (this.mp z)),dTr (by lia)];rfl
def leZ{c:Nat}:tH (.str ⟨#[c]⟩) (.str "z")=some (.bool (decide (c<=122))):=by
 unfold tH;dsimp only;have:(("z":Str).cps.toList<(⟨#[c]⟩:Str).cps.toList)<->122<c:=Dy (a:=122) (b:=c);by_cases h:122<c
 .rw[dTr (this.mpr h),dFa (by lia)];rfl
 .rw[dFa (λz=>h (this.mp z)),dTr (by lia)];rfl
def aw6(h:∀c∈x.cps.toList,c<128):qSg (some (.str x))=some (x.cps.toList.map λc=>.str ⟨#[c]⟩):=by
 show qg (.str x)=_;unfold qg;dsimp only;rw[if_pos];rw[<-oU,fG];exact λc Z=>dTr (h c Z)
def K9(ha:∀c∈x.cps.toList,c<128)(q:x.length<=1000)(hb:x.length=0\/8<x.length\/∃c∈x.cps.toList,¬(97<=c/\c<=122)):cT [.str x]=some (.bool false):=by
 have Z:D3.isT "str" "str"=true:=rfl;have X:FZ [.str x]=some (.int x.length):=if_pos (by lia);by_cases R:1<=x.length
 .by_cases S:x.length<=8
  .obtain⟨U,Y,W⟩:∃c∈x.cps.toList,¬(97<=c/\c<=122):=by
    rcases hb with z|z|z
    .lia
    .lia
    .exact z
   have V:iB (gNl 0) (D3.yM) (oE XI.tH XI.tH (dC (.str "a")) (aA 0) (dC (.str "z"))) (jY 1 [] [some (.d (.str x))]) (x.cps.toList.map λc=>eD ⟨#[c]⟩)=some (x.cps.toList.map λc=>d5 (decide (97<=c)&&decide (c<=122))):=by
    refine V6 (λc:Nat=>eD ⟨#[c]⟩) (λc=>d5 (decide (97<=c)&&decide (c<=122))) x.cps.toList λc T=>?_
    refine⟨[some (.d (.str ⟨#[c]⟩))],rfl,rfl,?_⟩;by_cases z:97<=c
    .simp![leA,leZ,dTr z,Bool.true_and]
    .simp![leA,leZ,dFa z,Bool.false_and]
   have ln:(x.cps.toList.map λc=>eD ⟨#[c]⟩).length<=100000:=by
    rw[aG];have:x.cps.toList.length=x.length:=rfl;lia
   have ea:HJ [.list (x.cps.toList.map λc=>d5 (decide (97<=c)&&decide (c<=122)))]=some (.bool false):=by
    rw[Jj (λc=>decide (97<=c)&&decide (c<=122)),List.all_eq_false.mpr ⟨U,Y,?_⟩];intro z;rw[aO]at z;exact W ⟨of_decide_eq_true z.1,of_decide_eq_true z.2⟩
   unfold cT;simp![tyD,Z,bO,X,dTr (show(1:Int)<=x.length by lia),dTr (show(x.length:Int)<=8 by lia),RZ,aw6 ha,ln,V,ea]
  .unfold cT;simp![tyD,Z,bO,X,dTr (show(1:Int)<=x.length by lia),dFa (show ¬(x.length:Int)<=8 by lia),cJ]
 .unfold cT;simp![tyD,Z,bO,X,dFa (show ¬(1:Int)<=x.length by lia),cJ]
def Bad(d:D):Prop:=cT [d]=some (.bool false)/\d.depth<=5/\noK d=true
def Xd(h:cT [.str x]=some (.bool false)):Bad (.str x):=⟨h,by simp[du],rfl⟩
def yu(a b:Str):(a++b).cps.toList=a.cps.toList++b.cps.toList:=by
 show(a.cps++b.cps).toList=_;simp
def am3(a:Str):a.length=a.cps.toList.length:=rfl
def Xe(h:∀c∈z.cps.toList,c<128)(lo hi:Option Int):∀c∈(Txt.slice z lo hi).cps.toList,c<128:=by
 unfold Txt.slice;split
 .exact h
 .intro c Y;obtain⟨k,_,Z⟩:=mZ.mp (show c∈List.filterMap _ _ from Y);rw[<-gQ]at Z;exact h c (cY Z)
def G8{y:Str}(h1:x.length<=1000)(h2:y.length<=1000):o_ (.str x) (.str y)=some (.str (x++y)):=by
 show(if _ then _ else none)=_;rw[if_pos (by lia)]
noncomputable def qSl(x:Option D)(a b:Option (Option Int)):Option D:=x.bind λx=>a.bind λa=>b.bind λb=>match x with
 | .str z=>if(Txt.slice z a b).length<=1000000 then some (.str (Txt.slice z a b))else none
 |_=>none
def am4{f:FE}{lo hi:FO}:MK f lo hi δ=qSl (f δ) (lo δ) (hi δ):=rfl
def am5(h:z.length<=1000){a b:Option Int}:qSl (some (.str z)) (some a) (some b)=some (.str (Txt.slice z a b)):=by
 have:=db z a b;show(if _ then _ else none)=_;rw[if_pos (by lia)]
def vW{a b:Str}(ha:∀c∈a.cps.toList,c<128)(hb:∀c∈b.cps.toList,c<128)(q:a.length+b.length<=1000)(h:(∃c∈a.cps.toList,¬(97<=c/\c<=122))\/(∃c∈b.cps.toList,¬(97<=c/\c<=122))\/8<a.length+b.length):Bad (.str (a++b)):=by
 have e:(a++b).length=a.length+b.length:=by rw[am3,yu,bB];rfl
 refine Xd (K9 (λc Z=>?_) (by lia) ?_)
 .rw[yu]at Z;rcases bT.mp Z with z|z
  .exact ha c z
  .exact hb c z
 .rcases h with⟨c,h1,h2⟩|⟨c,h1,h2⟩|h
  .exact .inr (.inr ⟨c,by rw[yu];exact bT.mpr (.inl h1),h2⟩)
  .exact .inr (.inr ⟨c,by rw[yu];exact bT.mpr (.inr h1),h2⟩)
  .exact .inr (.inl (by lia))
def DQ(q:0<=i)(h1:i<l.length):∃a∈l,pAt l i=some a:=by
 have e:i=((i.toNat:Nat):Int):=by lia
 rw[e,qp];have:i.toNat<l.length:=by lia
 exact⟨l[i.toNat],iG this,aK this⟩
def Ag(q:0<=i)(hx:mJ x):∃d,gZ [.list (ns.map .int),.int i,.str x]=some d/\Bad d:=by
 obtain⟨x1,x2,x3⟩:=hx;have Y:∀c∈x.cps.toList,c<128:=λc R=>by have:=x1 c R;lia
 have p:=jB (ns:=ns) (i:=i) (k:=2) (m:=12) q (by decide) (by decide) (by decide);have U:=iu ns i 2 (m:=12) (by decide);have s1:=db x none (some (-1));have s2:=db x (some 1) none;have Z:=Xe Y none (some (-1));have T:=Xe Y (some 1) none;have sa:=am5 (z:=x) (by lia) (a:=none) (b:=some (-1));have V:=am5 (z:=x) (by lia) (a:=some 1) (b:=none);generalize Txt.slice x none (some (-1))=a at s1 Z sa;generalize Txt.slice x (some 1) none=b at s2 T V;have H:("Q":Str).length=1:=rfl;have I:(" ":Str).length=1:=rfl;have G:("7":Str).length=1:=rfl;have J:("-":Str).length=1:=rfl;have K:("qqqqqqqq":Str).length=8:=rfl;have a1:=G8 (x:=x) (y := "qqqqqqqq") (by lia) (by lia);have a2:=G8 (x:=a) (y := "Q") (by lia) (by lia);have a3:=G8 (x:=a) (y := " ") (by lia) (by lia);have a4:=G8 (x:=a) (y := "7") (by lia) (by lia);have a5:=G8 (x := "-") (y:=b) (by lia) (by lia);have X:0+1+1+1+1+1+1<=sizeLine:=Com.sz (by decide);have W:0+1<=sizeLine:=Com.sz (by decide);have fx:flat (.str x)=true:=rfl;obtain⟨d,hd,Q⟩:=DQ (l:=[.str (x++"qqqqqqqq"),.str "", .str (a++"Q"),.str (a++" "),.str (a++"7"),.str ("-"++b),.none,.int 3,.bool true,.tuple [.str x],.list [.str x],.dict []]) U.1 (by simpa using U.2);refine⟨d,?_,?_⟩
 .unfold gZ;simp![a1,am4,sa,V,a2,a3,a4,a5,X,W,fx,p,dW,eX,aX,cW,show 0+1+1+1+1+1+1+(0+1+1+1+1+1+1)<=1000000 from by decide,Q]
 .have od:∀c:Nat,c=81\/c=32\/c=55\/c=45->¬(97<=c/\c<=122):=λc h=>by lia
  have P:∀c∈("qqqqqqqq":Str).cps.toList,c<128:=by decide +kernel
  have M:∀c∈("Q":Str).cps.toList,c<128:=by decide +kernel
  have N:∀c∈(" ":Str).cps.toList,c<128:=by decide +kernel
  have L:∀c∈("7":Str).cps.toList,c<128:=by decide +kernel
  have O:∀c∈("-":Str).cps.toList,c<128:=by decide +kernel
  have ns:∀d:D,noI d=true->tyD d≠"str"->cT [d]=some (.bool false):=λd h1 h2=>by
   have S:gIs "str" d=some (.bool false):=by
    unfold gIs;rw[if_pos h1];have:D3.isT "str" (tyD d)=false:=by
     unfold D3.isT;rw[show(tyD d=="str")=false from beq_false_of_ne h2];simp
    rw[this]
   unfold cT;simp![S,cJ]
  simp only[aL,cO,or_false]at hd;rcases hd with rfl|rfl|rfl|rfl|rfl|rfl|rfl|rfl|rfl|rfl|rfl|rfl
  .exact vW Y P (by lia) (.inr (.inr (by lia)))
  .exact Xd (K9 (by decide +kernel) (by decide +kernel) (.inl rfl))
  .exact vW Z M (by lia) (.inr (.inl ⟨81,by decide +kernel,by lia⟩))
  .exact vW Z N (by lia) (.inr (.inl ⟨32,by decide +kernel,by lia⟩))
  .exact vW Z L (by lia) (.inr (.inl ⟨55,by decide +kernel,by lia⟩))
  .exact vW O T (by lia) (.inl ⟨45,by decide +kernel,by lia⟩)
  .exact⟨ns _ rfl (by decide),by simp[du],rfl⟩
  .exact⟨ns _ rfl (by decide),by simp[du],rfl⟩
  .exact⟨ns _ rfl (by decide),by simp[du],rfl⟩
  .exact⟨ns _ rfl (show("tuple":String)≠"str"by decide),by simp[du,dn],rfl⟩
  .exact⟨ns _ rfl (show("list":String)≠"str"by decide),by simp[du,dn],rfl⟩
  .exact⟨ns _ rfl (by decide),by simp[du,e_],rfl⟩
def aw7(d:D):Prop:=bW [d,.int 1,.int 4]=some (.bool false)/\d.depth<=5/\noK d=true
def Ah(q:0<=i):∃d,g8 [.list (ns.map .int),.int i]=some d/\aw7 d:=by
 have p:=jB (ns:=ns) (i:=i) (k:=3) (m:=8) q (by decide) (by decide) (by decide);have W:=iu ns i 3 (m:=8) (by decide);have V:Ob (.int 10) (.int 30)=some (.int (10^30)):=rfl;have Y:0+1+1+1+1+1+1+1+1<=sizeLine:=Com.sz (by decide);have X:0+1<=sizeLine:=Com.sz (by decide);obtain⟨d,hd,U⟩:=DQ (l:=[.int 0,.int 5,.int (-1),.int (10^30),.none,.bool true,.str "1", .tuple [.int 1]]) W.1 (by simpa using W.2);have fd:flat d=true:=by
  simp only[aL,cO,or_false]at hd;rcases hd with rfl|rfl|rfl|rfl|rfl|rfl|rfl|rfl<;>rfl
 refine⟨d,?_,?_⟩
 .unfold g8;simp![V,Y,X,p,U,fd]
 .simp only[aL,cO,or_false]at hd;have wi:∀k:Int,¬(1<=k/\k<=4)->bW [.int k,.int 1,.int 4]=some (.bool false):=λk h=>by
   have w:Com.eG [.int k]=some (.bool true):=by
    unfold Com.eG;simp![];rfl
   show Com.bW _=_;unfold Com.bW;by_cases c:1<=k
   .simp![w,dTr c,dFa (show ¬k<=4 from λz=>h ⟨c,z⟩)]
   .simp![w,dFa c]
  have Z:∀d:D,Com.eG [d]=some (.bool false)->bW [d,.int 1,.int 4]=some (.bool false):=λd h=>by
   show Com.bW _=_;unfold Com.bW;simp![h]
  rcases hd with rfl|rfl|rfl|rfl|rfl|rfl|rfl|rfl
  .exact⟨wi _ (by decide),by simp[du],rfl⟩
  .exact⟨wi _ (by decide),by simp[du],rfl⟩
  .exact⟨wi _ (by decide),by simp[du],rfl⟩
  .exact⟨wi _ (by decide),by simp[du],rfl⟩
  .exact⟨Z _ (by unfold Com.eG;rfl),by simp[du],rfl⟩
  .exact⟨Z _ (by unfold Com.eG;rfl),by simp[du],rfl⟩
  .exact⟨Z _ (by unfold Com.eG;rfl),by simp[du],rfl⟩
  .exact⟨Z _ (by unfold Com.eG;rfl),by simp[du,dn],rfl⟩
section
variable{T:List (Str×Int)}{M:List D}{d k:D}{v:Int}
def Sq(h:cT [d]=some (.bool false)):cH [hD rs S T M,d,k]=some (.ex "NoName" (.tuple [d,hD rs S T M])):=by
 unfold cH;simp![DK,xM,Ng,R7,h,cJ,R6,x_raise,aq,jm,lA,vU,zZ,xO]
def uG(hx:mJ x)(q:jO S x=some v):cH [hD rs S T M,.str x,k]=some (.ex "Stands" (.tuple [.str x,hD rs S T M])):=by
 unfold cH;simp![DK,xM,Ng,R7,iy hx,bO,Wj,R6,Wk,K7,pK,fd1,K4,q,nj,x_raise,aq,jm,lA,vU,zZ,xO]
def Ss(hx:mJ x)(q:jO S x=none)(O:bW [k,.int 1,.int 4]=some (.bool false)):cH [hD rs S T M,.str x,k]=some (.ex "NoKind" (.tuple [k,hD rs S T M])):=by
 unfold cH;simp![DK,xM,Ng,R7,iy hx,bO,cJ,Wj,R6,Wk,K7,pK,fd1,K4,q,jX,O,x_raise,aq,jm,lA,vU,zZ,xO]
def Sv(hx:mJ x)(q:jO S x=none):cC [hD rs S T M,.str x]=some (.ex "NoGuest" (.tuple [.str x,hD rs S T M])):=by
 unfold cC;simp![DK,Ng,iy hx,bO,cJ,pK,fd1,G3,q,jX,R6,x_raise,aq,jm,lA,vU,xO]
def Ju{l:List (Option U)}(h:cC [hD rs S T M,.str x]=some (.ex "NoGuest" (.tuple [.str x,hD rs S T M]))):Br [0] (iI cC aR aQ 0 (aj (aA 1) (aW)) [0]) (some (.d (hD rs S T M))::some (.d (.str x))::l)=some (.ex "NoGuest" (.tuple [.str x,hD rs S T M])):=by
 unfold Br iI;rw[show aA 0 (some (.d (hD rs S T M))::some (.d (.str x))::l)=some (hD rs S T M)from rfl,aq,hC,aq,show(aj (aA 1) (aW)) (some (.d (hD rs S T M))::some (.d (.str x))::l)=some [.str x]from rfl,aq,h];rfl
def am6(hx:mJ x)(q:jO S x=none):ju [hD rs S T M,.str x]=some (.ex "NoGuest" (.tuple [.str x,hD rs S T M])):=by
 unfold ju;simp![DK,xM,Ju (Sv hx q),zZ,xO]
def aa2(hx:mJ x)(q:jO S x=none):eO [hD rs S T M,.str x]=some (.ex "NoGuest" (.tuple [.str x,hD rs S T M])):=by
 unfold eO;simp![DK,xM,Ju (Sv hx q),zZ,xO]
def aa3(hx:mJ x)(q:jO S x=none):gj [hD rs S T M,.str x]=some (.ex "NoGuest" (.tuple [.str x,hD rs S T M])):=by
 unfold gj;simp![DK,xM,Ju (Sv hx q),zZ,xO]
end
def aw8{bs:List Bool}(h:jL l=some bs):vL (.list l) (.bool true)=some (.int (bs.count true:Nat)):=by
 show(jL l).bind _=_;rw[h];rfl
def wM{l:List Nat}{f:FE}:jl l f δ=(f δ).bind λd=>(jr l δ).bind λr=>some (.ex "" "" (.tuple (d::r))):=rfl
def am7:xT [.bool b]=some (.int (if b then 1 else 0)):=rfl
section
variable{hh w n k d:D}
noncomputable def told(c:Str):Str:=if c="NoName"then "name"else if c="Stands"then "stands"else if c="NoKind"then "kind"else if c="Full"then "full"else "guest"
def Jv(q:c∈(["NoName", "Stands", "NoKind", "Full", "NoGuest"]:List Str)):fV c d [some (.d hh),some (.d w),some (.d n),some (.d k),none,none]=some (.ex "" "" (.tuple [.tuple [.str (told c),d],hh])):=by
 have W:0+1<=sizeLine:=Com.sz (by decide);have X:0+1+1<=sizeLine:=Com.sz (by decide);have Y:0+1+1+1+1<=sizeLine:=Com.sz (by decide);have Z:0+1+1+1+1+1<=sizeLine:=Com.sz (by decide);have V:0+1+1+1+1+(0+1)<=1000000:=by decide
 have go:∀(b0 b1 b2 b3 b4:Bool),[b0,b1,b2,b3,b4].count true=1->vL (.list [.bool b0,.bool b1,.bool b2,.bool b3,.bool b4]) (.bool true)=some (.int 1):=λb0 b1 b2 b3 b4 h=>by rw[aw8 (bs:=[b0,b1,b2,b3,b4]) rfl,h];rfl
 simp only[aL,cO,or_false]at q;rcases q with rfl|rfl|rfl|rfl|rfl
 .have U:rR (.list [.bool true,.bool false,.bool false,.bool false,.bool false]) (.bool true)=some (.int 0):=rfl;unfold fV;rw[if_pos rfl];simp![W,X,Y,Z,V,aX,cW,dW,eX,go true false false false false rfl,dTr (Eq.refl (1:Int)),bO,at2,at3,U,at0,wM,aq,jm,lA,vU];rfl
 .have U:rR (.list [.bool false,.bool true,.bool false,.bool false,.bool false]) (.bool true)=some (.int 1):=rfl;unfold fV;rw[if_neg (by decide),if_pos rfl];simp![W,X,Y,Z,V,aX,cW,dW,eX,go false true false false false rfl,dTr (Eq.refl (1:Int)),bO,at2,at3,U,at1,wM,aq,jm,lA,vU];rfl
 .unfold fV;rw[if_neg (by decide),if_neg (by decide),if_pos rfl];simp![W,X,Y,Z,V,aX,cW,dW,eX,go false false true false false rfl,dTr (Eq.refl (1:Int)),bO,at2,at3,am7,fH,at0,wM,aq,jm,lA,vU,vV];rfl
 .unfold fV;rw[if_neg (by decide),if_neg (by decide),if_neg (by decide),if_pos rfl];simp![W,X,Y,Z,V,aX,cW,dW,eX,go false false false true false rfl,dTr (Eq.refl (1:Int)),bO,at2,at3,am7,at1,wM,aq,jm,lA,vU,vV];rfl
 .have U:rR (.list [.bool false,.bool false,.bool false,.bool false,.bool true]) (.bool true)=some (.int 4):=rfl;unfold fV;rw[if_neg (by decide),if_neg (by decide),if_neg (by decide),if_neg (by decide),if_pos rfl];simp![W,X,Y,Z,V,aX,cW,dW,eX,go false false false false true rfl,dTr (Eq.refl (1:Int)),bO,at2,at3,U,at4,wM,aq,jm,lA,vU];rfl
end
section
variable{T:List (Str×Int)}{M:List D}{d k y:D}{v w:Int}
def z7(w:Int)(h d k:D):Option Or:=if w=0 then cH [h,d,k]else if w=1 then ju [h,d]else if w=2 then eO [h,d]else gj [h,d]
def yw{F:List D->Option Or}{l:List (Option U)}(h1:fa (some (.d (hD rs S T M))::l)=some ds)(h:F (hD rs S T M::ds)=some (.ex c (.tuple [d,y]))):iI F aR aQ 0 fa [0] (some (.d (hD rs S T M))::l)=some (.ex c d (some (.d y)::l)):=by
 unfold iI;rw[show aA 0 (some (.d (hD rs S T M))::l)=some (hD rs S T M)from rfl,aq,hC,aq,h1,aq,h];rfl
def Wm{F:List D->Option Or}{l:List (Option U)}(h1:fa (some (.d (hD rs S T M))::l)=some ds)(h:F (hD rs S T M::ds)=some (.o (.ex "" "" (.tuple [.none,y])))):iI F aR aQ 0 fa [0] (some (.d (hD rs S T M))::l)=some (.nx (some (.d y)::l)):=by
 unfold iI;rw[show aA 0 (some (.d (hD rs S T M))::l)=some (hD rs S T M)from rfl,aq,hC,aq,h1,aq,h];rfl
def K_{t:FT}{f g:FXW}(h:t δ=some b):Ac t f g δ=if b=true then f δ else g δ:=by
 unfold Ac;rw[h];rfl
def Xf{p q:Nat}{l:List Nat}{b:FS}:fnP p q l b ds=if ds.length=p then Q7 l (b (ds.map (λd=>some (.d d))++bK q none))else none:=rfl
def jU(h:z7 w (hD rs S T M) d k=some (.ex c (.tuple [y,hD rs S T M])))(q:c∈(["NoName", "Stands", "NoKind", "Full", "NoGuest"]:List Str)):
 dw [hD rs S T M,.int w,d,k]=some (.tuple [.tuple [.str (told c),y],hD rs S T M]):=by
 have tb:∀i:Int,(bG (dOp gEq (aA 1) (dC (.int i)))) [some (.d (hD rs S T M)),some (.d (.int w)),some (.d d),some (.d k),none,none]=some (decide (w=i)):=λi=>by simp![]
 have U:(Ac (bG (dOp gEq (aA 1) (dC (.int 0)))) (iI cH aR aQ 0 (aj (aA 2) (aj (aA 3) (aW))) [0]) (Ac (bG (dOp gEq (aA 1) (dC (.int 1)))) (iI ju aR aQ 0 (aj (aA 2) (aW)) [0]) (Ac (bG (dOp gEq (aA 1) (dC (.int 2)))) (iI eO aR aQ 0 (aj (aA 2) (aW)) [0]) (iI gj aR aQ 0 (aj (aA 2) (aW)) [0])))) [some (.d (hD rs S T M)),some (.d (.int w)),some (.d d),some (.d k),none,none]=some (.ex c y [some (.d (hD rs S T M)),some (.d (.int w)),some (.d d),some (.d k),none,none]):=by
  unfold z7 at h;rw[K_ (tb 0)];by_cases X:w=0
  .rw[if_pos X]at h;rw[if_pos (dTr X)];exact yw rfl h
  rw[if_neg X]at h;rw[if_neg (by simpa using X),K_ (tb 1)];by_cases Y:w=1
  .rw[if_pos Y]at h;rw[if_pos (dTr Y)];exact yw rfl h
  rw[if_neg Y]at h;rw[if_neg (by simpa using Y),K_ (tb 2)];by_cases Z:w=2
  .rw[if_pos Z]at h;rw[if_pos (dTr Z)];exact yw rfl h
  rw[if_neg Z]at h;rw[if_neg (by simpa using Z)];exact yw rfl h
 have V:∀f:FXW,f [some (.d (hD rs S T M)),some (.d (.int w)),some (.d d),some (.d k),none,none]=some (.ex c y [some (.d (hD rs S T M)),some (.d (.int w)),some (.d d),some (.d k),none,none])->Bs 4 f ["NoName", "Stands", "NoKind", "Full", "NoGuest"] fV [some (.d (hD rs S T M)),some (.d (.int w)),some (.d d),some (.d k),none,none]=some (.ex "" "" (.tuple [.tuple [.str (told c),y],hD rs S T M])):=λf W=>by
  unfold Bs;rw[W,aq];dsimp only;rw[if_pos q];show(fV c y [some (.d (hD rs S T M)),some (.d (.int w)),some (.d d),some (.d k),none,none]).bind _=_;rw[Jv q];rfl
 have e:=V _ U;unfold dw;rw[Xf];show Q7 [0] (bU _ _ [some (.d (hD rs S T M)),some (.d (.int w)),some (.d d),some (.d k),none,none])=_;rw[Rg,e,vV];rfl
def Wn(h:cH [hD rs S T M,d,k]=some (.o (.ex "" "" (.tuple [.none,y])))):dw [hD rs S T M,.int 0,d,k]=some (.tuple [.tuple [.str "done", .none],y]):=by
 have Z:0+1+1<=sizeLine:=Com.sz (by decide);have tb:(bG (dOp gEq (aA 1) (dC (.int 0)))) [some (.d (hD rs S T M)),some (.d (.int 0)),some (.d d),some (.d k),none,none]=some true:=by simp![]
 have Y:∀g:FXW,Bs 4 (Ac (bG (dOp gEq (aA 1) (dC (.int 0)))) (iI cH aR aQ 0 (aj (aA 2) (aj (aA 3) (aW))) [0]) g) ["NoName", "Stands", "NoKind", "Full", "NoGuest"] fV [some (.d (hD rs S T M)),some (.d (.int 0)),some (.d d),some (.d k),none,none]=some (.nx [some (.d y),some (.d (.int 0)),some (.d d),some (.d k),none,none]):=λg=>by
  unfold Bs;rw[K_ tb,if_pos rfl,Wm rfl h];rfl
 unfold dw;rw[Xf];show Q7 [0] (bU _ _ [some (.d (hD rs S T M)),some (.d (.int 0)),some (.d d),some (.d k),none,none])=_;rw[Rg,Y,GF];simp![wM,Z,aq,jm,lA,vU];rfl
end
theorem Sw{v:List D}(hd:(eF v).depth<=60)(hn:noK (.list v)=true):xU (.list v) (.list v)=some (.bool false):=by
 cases Z:dLq (.list v)with
 |false=>exact Px Z rfl (by lia) hn
 |true=>exact UG (Com.ne_self ⟨ah Z,hd⟩)
def Sx{v:List D}(hd:(eb v).depth<=60)(hn:tG v=true):GD (.tuple v) (.tuple v)=some (.bool false):=by
 unfold GD;dsimp only;by_cases Z:(dLq (.tuple v)&&dLq (.tuple v))=true
 .rw[if_pos Z];rw[aO]at Z;rw[eqv_refl _ (ah Z.1)];rfl
 .rw[if_neg Z,if_pos ⟨rfl,by lia,hn⟩]
def Wo{T:List (Str×Int)}(q:rs.length<=1000):∃fs:List Nat,lu [hD rs S T M]=some (.list (fs.map λr:Nat=>dm (r:Int))):=by
 have nt:∀r:Nat,Cm (.int (r:Int)) (.list ((S.map (·.2)).map .int))=some (.bool (!((S.map (·.2)).map dm).any λz=>dA z (.int (r:Int)))):=λr=>by
  show(if _ then _ else none)=_;rw[if_pos];rw[shaped_ints,jC (xK (ZV (n:=0)) (by decide))];rfl
 refine⟨(b_ rs.length).filter λr:Nat=>!((S.map (·.2)).map dm).any λz=>dA z (.int (r:Int)),?_⟩;have e:iB (gNl 0) (bG (dOp Cm (aA 0) (aA 1))) (jG (aA 0)) (jY 1 [1] [some (.d (hD rs S T M)),some (.d (.list ((S.map (·.2)).map .int)))]) (iK 0 (rs.length:Int))=some (((b_ rs.length).filter λr:Nat=>!((S.map (·.2)).map dm).any λz=>dA z (.int (r:Int))).map λr:Nat=>dm (r:Int)):=by
  rw[KQ,nU];refine GJ (λi:Nat=>dm (i:Int)) _ (λi:Nat=>dm (i:Int)) (b_ rs.length) λr _=>?_
  refine⟨[some (.d (.int (r:Int))),some (.d (.list ((S.map (·.2)).map .int)))],rfl,?_,λ_=>?_⟩
  .simp![nt]
  .simp![]
 have Z:(iK 0 (rs.length:Int)).length<=100000:=by rw[vO];lia
 unfold lu;simp![pK,fd1,fd0,Z7,lMp,M8 (show -(2^62)<=(rs.length:Int)by lia) (show(rs.length:Int)<2^62 by lia),Z,e]
def Wq{P:List Gu}(h:Hou rs P M):∃v,iw [hD rs (SP P) (TP P) M]=some (.list v)/\xU (.list v) (.list v)=some (.bool false):=by
 have rl:=h.rl;obtain⟨fs,Y⟩:=Wo (rs:=rs) (S:=SP P) (T:=TP P) (M:=M) (by lia);have V:=zY (rs:=rs) (S:=SP P) (T:=TP P) (M:=M);have W:=rZ (rs:=rs) (M:=M) h.nd h.nr (by have:=h.len;lia);have X:=Jr (rs:=rs) (S:=SP P) (T:=TP P) (G5 h.fM);refine⟨[.list ((SP P).map λq=>.str q.1),dcD (QP P),.list M,.list (fs.map λr:Nat=>dm (r:Int))],?_,Sw ?_ ?_⟩
 .unfold iw;simp![j7,uE,V,W,X,Y,sz (show 0+1+1+1+1<=1000000 by decide)]
 .have O:dn ((SP P).map λq=>.str q.1)<=1:=DN _ λd hd=>by
   obtain⟨q,_,rfl⟩:=aY.mp hd;simp[du]
  have Q:=R9 (QP P);have R:dn M<=5:=DN _ λd hd=>by
   obtain⟨n,a,b,rfl⟩:=h.fM d hd;simp[du,dn]
  have U:dn (fs.map λr:Nat=>dm (r:Int))<=1:=DN _ λd hd=>by
   obtain⟨q,_,rfl⟩:=aY.mp hd;simp[du]
  unfold dcD;simp only[du,dn];lia
 .have n1:tG ((SP P).map λq=>.str q.1)=true:=vf _ λd hd=>by
   obtain⟨q,_,rfl⟩:=aY.mp hd;rfl
  have n2:noK (dcD (QP P))=true:=by
   unfold dcD;rw[noK,Pr];rfl
  have n3:tG M=true:=vf _ λd hd=>by
   obtain⟨n,a,b,rfl⟩:=h.fM d hd;rfl
  have Z:tG (fs.map λr:Nat=>dm (r:Int))=true:=vf _ λd hd=>by
   obtain⟨q,_,rfl⟩:=aY.mp hd;rfl
  simp only[noK,tG,n1,n2,n3,Z,Bool.and_self]
def Xg(h:mJ x):eA x=true:=by
 unfold eA;rw[<-oU,fG];intro c Z;have:=h.1 c Z;exact dTr (by lia)
theorem Sy:∀{xs:List Str},(∀x∈xs,eA x=true)->lys 1 (xs.map .str)
 |[],_=>V8
 |x::xs,h=>Ry (R8 (h x aJ)) (Sy λy Z=>h y (aH _ Z))
theorem SJ:∀{xs:List Str},((xs.map eD).any λz=>dA z (.str x))=decide (x∈xs)
 |[]=>by simp
 |y::xs=>by
  rw[aN,lM,SJ (xs:=xs),dA];by_cases c:y=x
  .subst c;simp
  .have c':¬x=y:=λz=>c z.symm
   simp[c,c']
def aw9{xs:List Str}(hx:eA x=true)(q:∀y∈xs,eA y=true):gIn (.str x) (.list (xs.map .str))=some (.bool (decide (x∈xs))):=by
 show(if _ then _ else none)=_;rw[if_pos,SJ];rw[jC (xK (R8 hx) (by decide)),jC (xK (V9 (Sy q)) (by decide))];rfl
def ax0{xs:List Str}(hx:eA x=true)(q:∀y∈xs,eA y=true):gIn (.str x) (.tuple (xs.map .str))=some (.bool (decide (x∈xs))):=by
 show(if _ then _ else none)=_;rw[if_pos,SJ];rw[jC (xK (R8 hx) (by decide)),jC (xK (ZS (Sy q)) (by decide))];rfl
def Ni{T:List (Str×Int)}{v:Int}(h:mJ x)(q:jO S x=some v):gb [hD rs S T M,.str x]=some (.int v):=by
 unfold gb;simp![Wg,j7,uE,Js h q,aq,pK,fd1,RX,q,fZ]
def Xh{P:List Gu}{k:Nat}(h:Hou rs P M)(U:∀q∈P,mJ q.1)(hx:mJ x)(h1:1<=k)(h2:k<=4)(hM:M.length<900000):
 ∃w y O M2,dw [hD rs (SP P) (TP P) M,.int 0,.str x,.int (k:Int)]=some (.tuple [.tuple [.str w,y],hD rs (SP O) (TP O) M2])/\Hou rs O M2/\(∀q∈O,mJ q.1)/\M2.length<=M.length+4/\(x∉P.map (·.1)->w="done"\/w="full"):=by
 by_cases c:x∈P.map (·.1)
 .obtain⟨q,Z,rfl⟩:=aY.mp c;have W:jO (SP P) q.1=some q.2.1:=zW (by rw[rY];exact h.nd) (aY.mpr ⟨q,Z,rfl⟩);exact⟨_,_,P,M,jU (w:=0) (c := "Stands") (by unfold z7;rw[if_pos rfl];exact uG hx W) (by decide),h,U,by lia,λz=>absurd c z⟩
 .rcases G6 h hx c h1 h2 hM with⟨L,Q,Y⟩|⟨hn,N,R,g,Y,S,T,V⟩
  .exact⟨_,_,P,M,jU (w:=0) (c := "Full") (by unfold z7;rw[if_pos rfl];exact Y) (by decide),h,U,by lia,λ_=>.inr rfl⟩
  .refine⟨_,_,_,R,Wn Y,T,λq Z=>?_,V,λ_=>.inl rfl⟩;rcases bT.mp Z with z|z
   .have:q.1∈P.map (·.1):=by
     rw[<-Dw,<-S,Dw];exact aY.mpr ⟨q,z,rfl⟩
    obtain⟨X,h3,h4⟩:=aY.mp this;rw[<-h4];exact U X h3
   .rw[bQ.mp z];exact hx
section
variable{f g:FW}{ft:FTW}{δ δ':DS}{F:List D->Option D}{fa:FA}{ds:List D}{r y:D}{c:Bool}
def am8(t:Option (Bool×DS))(g:FTW):Option (Bool×DS):=t.bind λp=>if p.1=true then some (true,p.2)else g p.2
def Xi{f g:FTW}:Vb f g δ=am8 (f δ) g:=rfl
def am9{g:FTW}:am8 (some (false,δ)) g=g δ:=(rfl)
noncomputable def qDP(g:D->D->Option D)(a:Option (D×DS))(fb:FE):Option (D×DS):=a.bind λp=>(fb p.2).bind λy=>(g p.1 y).bind λd=>some (d,p.2)
def SM{g:D->D->Option D}:Ad g f fb δ=qDP g (f δ) fb:=rfl
def qDQ(g:D->D->Option D)(x:D)(δ:DS)(b:Option D):Option (D×DS):=b.bind λy=>(g x y).bind λd=>some (d,δ)
def an0{g:D->D->Option D}{x:D}:qDP g (some (x,δ)) fb=qDQ g x δ (fb δ):=(rfl)
def Wr{g:D->D->Option D}{x z:D}(h:g x z=some d):qDQ g x δ (some z)=some (d,δ):=by
 unfold qDQ;rw[aq,h];rfl
def qCP(F:List D->Option D)(a:Option (List D))(sw:List Nat)(δ:DS):Option (D×DS):=a.bind λds=>(F ds).bind λd=>Y6 d sw δ
def DR:rQ F fa sw δ=qCP F (fa δ) sw δ:=rfl
def Ws{i:Nat}(h:F ds=some (.tuple [r,y])):qCP F (some ds) [i] δ=some (r,δ.set i (some (.d y))):=by
 unfold qCP;rw[aq,h];rfl
def qRV(l:List Nat)(a:Option (D×DS)):Option Oc:=a.bind λp=>(jr l p.2).bind λr=>some (.ex "" "" (.tuple (p.1::r)))
def an1{l:List Nat}:CW l f δ=qRV l (f δ):=rfl
def Xj:T3 (.bool false)=some (.bool false):=rfl
def SN:JT (.bool true)=some (.bool false):=rfl
end
def Lb:FS:=bU (XI.Jb (XI.Vb (XI.ur (XI.Ad GD (XI.rQ dw (aj (aA 2) (aj (dOp gIx (aA 10) (dC (.int 0))) (aj (dOp gIx (aA 10) (dC (.int 1))) (aj (dOp gIx (aA 10) (dC (.int 2))) (aW))))) [2]) (aA 11))) (XI.Qz (bG (dOp xU (dCall iw (aj (aA 2) (aW))) (aA 7))))) (XI.xG [2] (dC (.bool false))) (fO)) (bU (sIf (D3.tOr (bG (dUn T3 (dCall cT (aj (aA 8) (aW))))) (bG (dUn JT (dCall cT (aj (aA 4) (aW)))))) (XI.xG [2] (dC (.bool false))) (fO)) (bU (sIf (bG (aA 5)) (XI.xG [2] (dOp Pu (XI.nH gb aR aQ (aA 2) (aj (aA 4) (aW))) (XI.nH dO aR aQ (aA 2) (aW)))) (fO)) (XI.CW [2] (XI.Ad gIn (XI.Ad gIx (XI.rQ dw (aj (aA 2) (aj (dC (.int 0)) (aj (aA 4) (aj (dC (.int 1)) (aW))))) [2]) (dC (.int 0))) (dTup (aj (dC (.str "done")) (aj (dC (.str "full")) (aW))))))))
def oK:jw=XI.fnW 4 8 [2] (bU (bJ 4 (dOp gIx (aA 3) (dCall bR (aj (aA 0) (aj (aA 1) (aj (dC (.int 0)) (aj (dC (.int 12)) (aW)))))))) (bU (bJ 5 (dOp gIn (aA 4) (XI.nH gF aR aQ (aA 2) (aW)))) (bU (bJ 6 (dCall bR (aj (aA 0) (aj (aA 1) (aj (dC (.int 1)) (aj (dC (.int 6)) (aW))))))) (bU (bJ 7 (dCall iw (aj (aA 2) (aW)))) (bU (bJ 8 (dCall gZ (aj (aA 0) (aj (aA 1) (aj (aA 4) (aW)))))) (bU (bJ 9 (dCall g8 (aj (aA 0) (aj (aA 1) (aW))))) (bU (bJ 10 (dOp gIx (d9 (aj (dTup (aj (dC (.int 0)) (aj (aA 8) (aj (dC (.int 1)) (aW))))) (aj (dTup (aj (dC (.int 0)) (aj (aA 8) (aj (aA 9) (aW))))) (aj (dTup (aj (dC (.int 0)) (aj (aA 4) (aj (aA 9) (aW))))) (aW))))) (dOp mF (aA 6) (dC (.int 3))))) (bU (bJ 11 (dOp gIx (d9 (aj (dTup (aj (dC (.str "name")) (aj (aA 8) (aW)))) (aj (dTup (aj (dC (.str "name")) (aj (aA 8) (aW)))) (aj (dTup (aj (dC (.str "kind")) (aj (aA 9) (aW)))) (aW))))) (dOp mF (aA 6) (dC (.int 3))))) (bU (sIf (D3.vX (bG (aA 5)) (bG (dOp Ig (dOp mF (aA 6) (dC (.int 3))) (dC (.int 2))))) (bJ 11 (dTup (aj (dC (.str "stands")) (aj (aA 4) (aW))))) (fO)) (bU (sIf (D3.vX (bG (dOp gGt (aA 6) (dC (.int 2)))) (D3.mD (bG (aA 5)))) (bU (bJ 10 (dTup (aj (dOp TQ (aA 6) (dC (.int 2))) (aj (aA 4) (aj (dC (.int 1)) (aW)))))) (bJ 11 (dTup (aj (dC (.str "guest")) (aj (aA 4) (aW)))))) (fO)) Lb)))))))))):=rfl
def Wt{P:List Gu}{s1 s2 s4 s6 s9 d0 e0 bad:D}{v:List D}{w0:Int}{wd:Str}(h:Hou rs P M)(hq:∀q∈P,mJ q.1)(hx:mJ x)(hM:M.length<800000)
 (hv:iw [hD rs (SP P) (TP P) M]=some (.list v)) (hn:xU (.list v) (.list v)=some (.bool false)) (hb:cT [bad]=some (.bool false)) (he:GD (.tuple [.str wd,e0]) (.tuple [.str wd,e0])=some (.bool false))
 (ht:dw [hD rs (SP P) (TP P) M,.int w0,d0,k0]=some (.tuple [.tuple [.str wd,e0],hD rs (SP P) (TP P) M])) :
 ∃O M2,Lb [some (.d s1),some (.d s2),some (.d (hD rs (SP P) (TP P) M)),some (.d s4),some (.d (.str x)),some (.d (.bool (decide (x∈P.map (·.1))))),some (.d s6),some (.d (.list v)),some (.d bad),some (.d s9),some (.d (.tuple [.int w0,d0,k0])),some (.d (.tuple [.str wd,e0]))]=some (.ex "" "" (.tuple [.bool true,hD rs (SP O) (TP O) M2]))/\Hou rs O M2/\(∀q∈O,mJ q.1)/\M2.length<=M.length+4:=by
 have fb:flat (.bool true)=true:=rfl;have Y:0+1+1<=sizeLine:=Com.sz (by decide);by_cases c:x∈P.map (·.1)
 .refine⟨P,M,?_,h,hq,by lia⟩;obtain⟨q,Z,rfl⟩:=aY.mp c;have W:jO (SP P) q.1=some q.2.1:=zW (by rw[rY];exact h.nd) (aY.mpr ⟨q,Z,rfl⟩);have N:=Ni (rs:=rs) (T:=TP P) (M:=M) hx W;have H:=rZ (rs:=rs) (M:=M) h.nd h.nr (by have:=h.len;lia);have L:(fW (QP P) q.2.1).isSome=true:=rT.mpr (by rw[qt];exact aY.mpr ⟨q,Z,rfl⟩);unfold Lb;simp![dTr c,Sg,Xi,DP,SM,DR,at0,at1,at2,Ws ht,gM,dG,an0,Wr he,aa1,am9,Xc,hv,hn,am2,Z_,hb,Xj,iy hx,SN,j7,uE,N,H,al2,L,Z5,jm,lA,vU,av8,fb,vV]
 .obtain⟨w,y,O,M2,U,I,V,J,hw⟩:=Xh (k:=1) h hq hx (by decide) (by decide) (by lia);refine⟨O,M2,?_,I,V,J⟩;have U:dw [hD rs (SP P) (TP P) M,.int 0,.str x,.int 1]=some (.tuple [.tuple [.str w,y],hD rs (SP O) (TP O) M2]):=U;have i1:gIn (.str w) (.tuple [.str "done", .str "full"])=some (.bool true):=by
   have R:eA ("done":Str)=true:=by decide +kernel
   have S:eA ("full":Str)=true:=by decide +kernel
   have K:∀y∈(["done", "full"]:List Str),eA y=true:=λy Q=>by
    simp only[aL,cO,or_false]at Q;rcases Q with rfl|rfl
    .exact R
    .exact S
   have:=ax0 (x:=w) (xs:=["done", "full"]) (by
    rcases hw c with z|z
    .rw[z];exact R
    .rw[z];exact S) K
   rw[dTr (by rcases hw c with rfl|rfl<;>decide)]at this;exact this
  have X:gIx (.tuple [.str w,y]) (.int 0)=some (.str w):=at0;unfold Lb;simp![dFa c,Sg,Xi,DP,SM,DR,at0,at1,at2,Ws ht,gM,dG,an0,Wr he,aa1,am9,Xc,hv,hn,am2,Z_,hb,Xj,iy hx,SN,an1,Ws U,Wr X,Y,Wr i1];rfl
def SQ{P:List Gu}{xs:List Str}(h:Hou rs P M)(hq:∀q∈P,mJ q.1)(h0:0<=i)(xl:xs.length=12)(xok:∀x∈xs,mJ x)(hM:M.length<800000):
 ∃O M2,jw [.list (ns.map .int),.int i,hD rs (SP P) (TP P) M,.list (xs.map .str)]=some (.tuple [.bool true,hD rs (SP O) (TP O) M2])/\Hou rs O M2/\(∀q∈O,mJ q.1)/\M2.length<=M.length+4:=by
 have G:=jB (ns:=ns) (i:=i) (k:=0) (m:=12) h0 (by decide) (by decide) (by decide);have f:=iu ns i 0 (m:=12) (by decide);have p1:=jB (ns:=ns) (i:=i) (k:=1) (m:=6) h0 (by decide) (by decide) (by decide);have r1:=iu ns i 1 (m:=6) (by decide);generalize iJ ns i 1 6=z at p1 r1;obtain⟨x,xm,ex⟩:=Ds eD (l:=xs) f.1 (by rw[xl];exact f.2);have hx:=xok x xm;have en:=zY (rs:=rs) (S:=SP P) (T:=TP P) (M:=M);have C:gIn (.str x) (.list ((SP P).map λq=>.str q.1))=some (.bool (decide (x∈P.map (·.1)))):=by
  have:=aw9 (x:=x) (xs:=P.map (·.1)) (Xg hx) (λy hy=>by
   obtain⟨q,r,rfl⟩:=aY.mp hy;exact Xg (hq q r))
  rw[<-this,<-rY,bZ];rfl
 obtain⟨v,H,hn⟩:=Wq h;obtain⟨Z,t,hb,p,bk⟩:=Ag (ns:=ns) (i:=i) (x:=x) h0 hx;obtain⟨I,E,hk,g,kk⟩:=Ah (ns:=ns) (i:=i) h0;have W:0+1+1<=sizeLine:=Com.sz (by decide);have X:0+1+1+1<=sizeLine:=Com.sz (by decide);have V:∀(w:Str)(e:D),e.depth<=5->noK e=true->GD (.tuple [.str w,e]) (.tuple [.str w,e])=some (.bool false):=λw e a b=>Sx (by simp[du,dn];lia) (by simp[tG,noK,b])
 have dx:(eD x).depth<=5:=by simp[du]
 have F:mF (.int z) (.int 3)=some (.int (z%3)):=zT (by decide);have L:∀a b:Int,Ig (.int a) (.int b)=some (.bool (decide (a=b))):=λa b=>Ul W7
 have fb:flat (.bool true)=true:=rfl;have J:∀k:D,z7 0 (hD rs (SP P) (TP P) M) Z k=some (.ex "NoName" (.tuple [Z,hD rs (SP P) (TP P) M])):=λk=>by
  unfold z7;rw[if_pos rfl];exact Sq hb
 have T:=λ(w0:Int)(d0 k0 e0:D)(wd:Str) e1 e2=>Wt (w0:=w0) (d0:=d0) (k0:=k0) (e0:=e0) (wd:=wd) (bad:=Z) (s1:=.list (ns.map .int)) (s2:=.int i) (s4:=.list (xs.map .str)) (s6:=.int z) (s9:=I) h hq hx hM H hn hb e1 e2
 have n:=al0 (i:=z) (j:=3) (by decide);by_cases c:x∈P.map (·.1)
 .have U:=dTr c;obtain⟨u,s⟩:∃u,jO (SP P) x=some u:=by
   obtain⟨q,r,rfl⟩:=aY.mp c;exact⟨_,zW (by rw[rY];exact h.nd) (aY.mpr ⟨q,r,rfl⟩)⟩
  by_cases o:2<z
  .have zz:=dTr o;rcases(show z%3=0\/z%3=1\/z%3=2 by lia)with K|K|K
   .obtain⟨O,M2,Y,N,Q,R⟩:=T 0 (Z) (.int 1) (Z) "name" (V _ _ p bk) (jU (J _) (by decide));refine⟨O,M2,?_,N,Q,R⟩;rw[U]at Y;rw[oK];simp![rW,G,ex,j7,uE,en,C,U,p1,H,t,E,X,W,F,K,at0,at1,at2,L,decide_true,decide_false,zz,bO,cJ,Y,tR]
   .obtain⟨O,M2,Y,N,Q,R⟩:=T 0 (Z) (I) (Z) "name" (V _ _ p bk) (jU (J _) (by decide));refine⟨O,M2,?_,N,Q,R⟩;rw[U]at Y;rw[oK];simp![rW,G,ex,j7,uE,en,C,U,p1,H,t,E,X,W,F,K,at0,at1,at2,L,decide_true,decide_false,zz,bO,cJ,Y,tR]
   .obtain⟨O,M2,Y,N,Q,R⟩:=T 0 (.str x) (I) (.str x) "stands" (V _ _ dx rfl) (jU (c := "Stands") (by unfold z7;rw[if_pos rfl];exact uG hx s) (by decide));refine⟨O,M2,?_,N,Q,R⟩;rw[U]at Y;rw[oK];simp![rW,G,ex,j7,uE,en,C,U,p1,H,t,E,X,W,F,K,at0,at1,at2,L,decide_true,decide_false,zz,bO,cJ,Y,tR]
  .have zz:=dFa o;rcases(show z%3=0\/z%3=1\/z%3=2 by lia)with K|K|K
   .obtain⟨O,M2,Y,N,Q,R⟩:=T 0 (Z) (.int 1) (Z) "name" (V _ _ p bk) (jU (J _) (by decide));refine⟨O,M2,?_,N,Q,R⟩;rw[U]at Y;rw[oK];simp![rW,G,ex,j7,uE,en,C,U,p1,H,t,E,X,W,F,K,at0,at1,at2,L,decide_true,decide_false,zz,bO,cJ,Y,tR]
   .obtain⟨O,M2,Y,N,Q,R⟩:=T 0 (Z) (I) (Z) "name" (V _ _ p bk) (jU (J _) (by decide));refine⟨O,M2,?_,N,Q,R⟩;rw[U]at Y;rw[oK];simp![rW,G,ex,j7,uE,en,C,U,p1,H,t,E,X,W,F,K,at0,at1,at2,L,decide_true,decide_false,zz,bO,cJ,Y,tR]
   .obtain⟨O,M2,Y,N,Q,R⟩:=T 0 (.str x) (I) (.str x) "stands" (V _ _ dx rfl) (jU (c := "Stands") (by unfold z7;rw[if_pos rfl];exact uG hx s) (by decide));refine⟨O,M2,?_,N,Q,R⟩;rw[U]at Y;rw[oK];simp![rW,G,ex,j7,uE,en,C,U,p1,H,t,E,X,W,F,K,at0,at1,at2,L,decide_true,decide_false,zz,bO,cJ,Y,tR]
 .have U:=dFa c;have s:jO (SP P) x=none:=zX.mpr (by rw[rY];exact c);by_cases o:2<z
  .have ask:z7 (z-2) (hD rs (SP P) (TP P) M) (.str x) (.int 1)=some (.ex "NoGuest" (.tuple [.str x,hD rs (SP P) (TP P) M])):=by
    unfold z7;rw[if_neg (by lia)];by_cases c1:z-2=1
    .rw[if_pos c1];exact am6 hx s
    rw[if_neg c1];by_cases d:z-2=2
    .rw[if_pos d];exact aa2 hx s
    rw[if_neg d];exact aa3 hx s
   obtain⟨O,M2,Y,N,Q,R⟩:=T (z-2) (.str x) (.int 1) (.str x) "guest" (V _ _ dx rfl) (jU ask (by decide));refine⟨O,M2,?_,N,Q,R⟩;rw[U]at Y;obtain⟨A,_,a1⟩:=DQ (l:=[.tuple [.int 0,Z,.int 1],.tuple [.int 0,Z,I],.tuple [.int 0,.str x,I]]) n.1 n.2;obtain⟨B,_,b1⟩:=DQ (l:=[.tuple [.str "name", Z],.tuple [.str "name", Z],.tuple [.str "kind", I]]) n.1 n.2;rw[oK];simp![rW,G,ex,j7,uE,en,C,U,p1,H,t,E,X,W,F,a1,b1,dTr o,cJ,Y,tR]
  .have zz:=dFa o;rcases(show z%3=0\/z%3=1\/z%3=2 by lia)with K|K|K
   .obtain⟨O,M2,Y,N,Q,R⟩:=T 0 (Z) (.int 1) (Z) "name" (V _ _ p bk) (jU (J _) (by decide));refine⟨O,M2,?_,N,Q,R⟩;rw[U]at Y;rw[oK];simp![rW,G,ex,j7,uE,en,C,U,p1,H,t,E,X,W,F,K,at0,at1,at2,L,decide_true,decide_false,zz,bO,cJ,Y,tR]
   .obtain⟨O,M2,Y,N,Q,R⟩:=T 0 (Z) (I) (Z) "name" (V _ _ p bk) (jU (J _) (by decide));refine⟨O,M2,?_,N,Q,R⟩;rw[U]at Y;rw[oK];simp![rW,G,ex,j7,uE,en,C,U,p1,H,t,E,X,W,F,K,at0,at1,at2,L,decide_true,decide_false,zz,bO,cJ,Y,tR]
   .obtain⟨O,M2,Y,N,Q,R⟩:=T 0 (.str x) (I) (I) "kind" (V _ _ g kk) (jU (c := "NoKind") (by unfold z7;rw[if_pos rfl];exact Ss hx s hk) (by decide));refine⟨O,M2,?_,N,Q,R⟩;rw[U]at Y;rw[oK];simp![rW,G,ex,j7,uE,en,C,U,p1,H,t,E,X,W,F,K,at0,at1,at2,L,decide_true,decide_false,zz,bO,cJ,Y,tR]
def SX(ns:List Int)(h:ns.length<=63):RV [.list (ns.map .int)]=some (.bool true):=by
 obtain⟨R,p,rl,rk⟩:=Ji (ns:=ns) (a:=0) (m:=11) (by decide) (by decide) (by decide);obtain⟨xs,ex,G,X⟩:=Sd ns;have pt:=λ(i k m:Int)(s:0<=i)(h1:0<=k)(h2:k<=1000)(h3:0<m)=>jB (ns:=ns) s h1 h2 h3
 obtain⟨rs,I,u,N⟩:∃rs:List Int,rs=2::R/\rs.length<=12/\∀r∈rs,1<=r/\r<=4:=⟨2::R,rfl,by rw[aX];lia,λr v=>by
  rcases aL.mp v with z|z
  .lia
  .exact rk r z⟩
 have o:oX (.list [.int 2]) (.list (R.map .int))=some (.list (rs.map .int)):=by
  rw[W8,if_pos,I]
  .rfl
  .rw[aG];simp only[aX,cW];lia
 have H0:Hou rs [] []:=⟨u,N,List.nodup_nil,Gst.nil rs,λ_ h=>by cases h⟩;obtain⟨E,j,H,M1,Y,rfl,L,Q,W⟩:=vN (g:=(gNl 4)) (b:=(XI.qj (XI.rQ dw (aj (aA 2) (aj (dC (.int 0)) (aj (dOp gIx (aA 3) (aA 4)) (aj (dOp lH (dC (.int 1)) (dCall bR (aj (aA 0) (aj (dOp lH (dC (.int 4)) (aA 4)) (aj (dC (.int 0)) (aj (dC (.int 3)) (aW))))))) (aW))))) [2])))
  (λi δ=>∃(P:List Gu)(M:List D)(Y:Option U),δ=[some (.d (.list (ns.map .int))),some (.d (.list (rs.map .int))),some (.d (hD rs (SP P) (TP P) M)),some (.d (.list (xs.map .str))),Y,none]/\Hou rs P M/\(∀q∈P,mJ q.1)/\M.length<=4*i)
  (iK 0 4) [some (.d (.list (ns.map .int))),some (.d (.list (rs.map .int))),some (.d (hD rs [] [] [])),some (.d (.list (xs.map .str))),none,none] ⟨[],[],none,rfl,H0,(λ_ h=>by cases h),by simp⟩ (by
  rintro i d δ hd ⟨P,M,Y,rfl,K,O,t⟩;obtain⟨hi,rfl⟩:=Jh hd;obtain⟨x,C,ea⟩:=Ds eD (l:=xs) (i:=(i:Int)) (by lia) (by rw[G];lia);have A:=pt (4+i) 0 3 (by lia) (by decide) (by decide) (by decide);have k1:=iu ns (4+i) 0 (m:=3) (by decide);obtain⟨k,N⟩:∃k:Nat,(k:Int)=1+iJ ns (4+i) 0 3:=⟨(1+iJ ns (4+i) 0 3).toNat,by lia⟩;obtain⟨w,y,Z,M2,J,S,T,B,_⟩:=Xh (k:=k) K O (X x C) (by lia) (by lia) (by lia);refine⟨_,[some (.d (.list (ns.map .int))),some (.d (.list (rs.map .int))),some (.d (hD rs (SP Z) (TP Z) M2)),some (.d (.list (xs.map .str))),some (.d (.int (i:Int))),none],rfl,.inl ?_,Z,M2,_,rfl,S,T,by lia⟩;simp![gM,dG,ea,A,<-N,K3,DR,Ws J,al7])
 obtain⟨F,n,P,M,Y,V,rfl,_⟩:=vN (g:=(gNl 5)) (b:=(XI.Jb (XI.Gf (XI.ur (XI.CN jw (aj (aA 0) (aj (aA 5) (aj (aA 2) (aj (aA 3) (aW))))) [2]))) (jg (dC (.bool false))) (fO)))
  (λi δ=>∃(P:List Gu)(M:List D)(Y V:Option U),δ=[some (.d (.list (ns.map .int))),some (.d (.list (rs.map .int))),some (.d (hD rs (SP P) (TP P) M)),some (.d (.list (xs.map .str))),Y,V]/\Hou rs P M/\(∀q∈P,mJ q.1)/\M.length<=100+4*i)
  (iK 12 (if(if(24:Int)<(ns.length:Int)then(24:Int)else(ns.length:Int))>(14:Int)then(if(24:Int)<(ns.length:Int)then(24:Int)else(ns.length:Int))else 14)) [some (.d (.list (ns.map .int))),some (.d (.list (rs.map .int))),some (.d (hD rs (SP H) (TP H) M1)),some (.d (.list (xs.map .str))),Y,none] ⟨H,M1,Y,none,rfl,L,Q,by rw[vO]at W;simp at W;lia⟩ (by
  rintro i d δ hd ⟨P,M,Y,V,rfl,K,O,t⟩;obtain⟨rfl,hi⟩:=Sh hd;have hi:(i:Int)<40:=by split at hi<;>(try split at hi)<;>lia
  obtain⟨Z,M2,J,S,T,B⟩:=SQ (ns:=ns) (xs:=xs) (i:=12+i) K O (by lia) G X (by lia);have fb:flat (.bool true)=true:=rfl;have f:∀(ds:List D)(δ:DS),jw ds=some (.tuple [.bool true,hD rs (SP Z) (TP Z) M2])->qCW jw (some ds) [2] δ=some (.bool true,δ.set 2 (some (.d (hD rs (SP Z) (TP Z) M2)))):=λds δ h=>by
   unfold qCW;rw[aq,h];rfl
  refine⟨_,[some (.d (.list (ns.map .int))),some (.d (.list (rs.map .int))),some (.d (hD rs (SP Z) (TP Z) M2)),some (.d (.list (xs.map .str))),Y,some (.d (.int (12+i)))],rfl,.inl ?_,Z,M2,_,_,rfl,S,T,by lia⟩;simp![gM,dG,Sg,aa0,DP,Wl,f _ _ J,aa1,aw5,Z_])
 have r2:Rt (some [.int 12,.int (if(if(24:Int)<(ns.length:Int)then(24:Int)else(ns.length:Int))>(14:Int)then(if(24:Int)<(ns.length:Int)then(24:Int)else(ns.length:Int))else 14)])=some (iK 12 (if(if(24:Int)<(ns.length:Int)then(24:Int)else(ns.length:Int))>(14:Int)then(if(24:Int)<(ns.length:Int)then(24:Int)else(ns.length:Int))else 14)):=aj4 (by split<;>(try split)<;>lia) (by split<;>(try split)<;>lia) (by decide) (by decide);have r1:Rr (some [.int 4])=some (iK 0 4):=M8 (by decide) (by decide);unfold RV;simp![sz (show 0+1<=1000000 by decide),p,o,aw3,aw4,ex,r1,j,lMp,r2,n]
end K68
namespace K68
open L2 My D3 XC XS XK
noncomputable def top(i:Nat):Stmt:=PySem.Challenge.pw_nightbook_k68_house_refuses.main.body.getD i (.Pass ⟨0,0,0,0⟩)
def i_(i j:Nat):Stmt:=match top i with
 | .ClassDef _ _ _ b _ _ _ _ _ _ _=>b.getD j (.Pass ⟨0,0,0,0⟩)
 |s=>s
section
seal PE PT PW PA PS PSs PG PGs PI PO PTs
structure HC_House(K:PySem.W.Frag):Prop where
 cl:Cls K aR
 n_rooms:jK K aR "rooms"
 n_places:jK K aR "places"
 n_wished:jK K aR "wished"
 n_moves_done:jK K aR "moves_done"
def G9(D:Dg K mg "is_whole" (top 8) ["thing"])(B:Bl mg):Has P w K mg base (n+1) "is_whole" ["thing"] (spD K eG):=by
 have sc:FnScope ["thing"] ["thing"] (aZ (top 8)):=fsc;exact mj (fl:=[.A]) D sc (by decide) (by decide) λf cdv A outer s H E Z=>cI (eE (fJ (Ot (bh (Ie (T := "int") (by decide) (vP 0) (by rfl) B.isinstance_ (by rfl) B.int_ PyProof.Rows.boot_int)) (Oq (Yk (bh (Ie (T := "bool") (by decide) (vP 0) (by rfl) B.isinstance_ (by rfl) B.bool_ PyProof.Rows.boot_bool)))))))
def uH(D:Dg K mg "is_whole_within" (top 9) ["thing", "least", "most"])(B:Bl mg)(q:Has P w K mg base n "is_whole" ["thing"] (spD K eG)):Has P w K mg base (n+1) "is_whole_within" ["thing", "least", "most"] (spD K bW):=by
 have sc:FnScope ["thing", "least", "most"] ["thing", "least", "most"] (aZ (top 9)):=fsc;exact mj (fl:=[.A,.A,.A]) D sc (by decide) (by decide) λf cdv A outer s H E Z=>cI (eE (fJ (Ot (gD (cV q Z (dq (vP 0) dz))) (Oq (EY JB JB T7 T7 (vP 1) (vP 0) (vP 2))))))
def DX(D:Dg K mg "free_from" (top 11) ["rooms", "guests", "kind"])(B:Bl mg):Has P w K mg base (n+1) "free_from" ["rooms", "guests", "kind"] (spD K fU):=by
 have sc:FnScope ["rooms", "guests", "kind"] ["rooms", "guests", "kind"] (aZ (top 11)):=fsc;exact mj (fl:=[.A,.A,.A]) D sc (by decide) (by decide) λf cdv A outer s H E Z=>cI (eE (fJ (qe (L:=[]) (fl':=[.A,.A,.A,.A]) rfl ["room", "own"] ["kind", "guests"] [2,1] (J5 (vB 0) (by rfl) B.enumerate_) (λ_ _ _ _ _=>wA rfl (jd (gN' (i:=0) (show(["room", "own", "kind", "guests"]:List Str).Nodup by decide +kernel)) (jd (gN' (i:=1) (show(["room", "own", "kind", "guests"]:List Str).Nodup by decide +kernel)) (sH)))) (λ_ _ _ _ _=>pX (u9 (yX (dZ yG HN (vP 1) (vP 2) (eZ _)) (u5 (dZ (wF Z.units) PX (vP 0) (vP 3) (by with_unfolding_all rfl)))))) (λ_ _ _ _ _=>bN (mG (vP 0))))))
def xV(D:Dg K mg "least_wished" (top 12) ["rooms", "guests", "kind"])(B:Bl mg):Has P w K mg base (n+1) "least_wished" ["rooms", "guests", "kind"] (spD K eN):=by
 have sc:FnScope ["rooms", "guests", "kind"] ["rooms", "guests", "kind"] (aZ (top 12)):=fsc;exact mj (fl:=[.A,.A,.A]) D sc (by decide) (by decide) λf cdv A outer s H E Z=>cI (eE (fJ (U8 rfl (dq (bh (Qe (fl':=[.A,.A,.A,.A]) rfl ["room"] ["guests", "kind", "rooms"] [1,2,0] (vP 1) (λ_ _ _ _ _=>gN' (i:=0) (show(["room", "guests", "kind", "rooms"]:List Str).Nodup by decide +kernel)) (λ_ _ _ _ _=>pX (dZ yG HN (d_ (dx (vB 3) (vP 0))) (vP 2) (eZ _))) (λ_ _ _ _ _=>bN (Kf (hu1 Z.units) (vP 1) (vP 0) (λ_ _=>rfl))))) dz) (vP 2) (by rfl) B.min_)))
def G_(D:Dg K mg "falls_of" (top 13) ["rooms", "guests", "kind"])(B:Bl mg)(U:Has P w K mg base n "free_from" ["rooms", "guests", "kind"] (spD K fU))(q:Has P w K mg base n "least_wished" ["rooms", "guests", "kind"] (spD K eN)):Has P w K mg base (n+1) "falls_of" ["rooms", "guests", "kind"] (spD K iY):=by
 have sc:FnScope ["rooms", "guests", "kind", "falls", "least"] ["rooms", "guests", "kind"] (aZ (top 13)):=fsc;exact mj (fl:=[.A,.A,.A,.O,.A]) D sc (by decide) (by decide) λf cdv A outer s H E Z=>cD (yc (i:=3) rfl sc.nd rfl (by first|exact Or.inl rfl|exact Or.inr rfl) (Cd (dq (vA 2) dz)))
  (cD (Oo eB (dZ (oA Z.units) Ca (gD (cV U Z (dq (vP 0) (dq (vP 1) (dq (d_ (dx (yU 3) (bh (rG iP)))) dz))))) (bh (fY dz)) (eZ _)) (cD (sA (i:=4) sc.nd (qz (cV q Z (dq (vP 0) (dq (vP 1) (dq (d_ (dx (yU 3) (bh (rG iP)))) dz))))))
  (cD (tL (dZ yG HN (vP 4) (d_ (dx (yU 3) (bh (rG iP)))) (eZ _)) (cI (eE (fJ (pZ)))) (kJ))
  (cI (wB (i:=3) rfl (vA 4) rfl)))))
  (cI (eE (xZ 3 (by decide)))))
def wO(D:Dg K mg "guest_to_move" (top 14) ["rooms", "guests", "kind", "wished"])(B:Bl mg):Has P w K mg base (n+1) "guest_to_move" ["rooms", "guests", "kind", "wished"] (spD K eY):=by
 have sc:FnScope ["rooms", "guests", "kind", "wished"] ["rooms", "guests", "kind", "wished"] (aZ (top 14)):=fsc;exact mj (fl:=[.A,.A,.A,.A]) D sc (by decide) (by decide) λf cdv A outer s H E Z=>cI (eE (fJ (mG (d_ (dx (kI (dg (qe (L:=[]) (fl':=[.A,.A,.A,.A,.A]) rfl ["room"] ["kind", "wished", "rooms", "guests"] [2,3,0,1] (JZ (kI (dg (P0 rfl (dq (vP 1) dz) (by rfl) B.sorted_)))) (λ_ _ _ _ _=>gN' (i:=0) (show(["room", "kind", "wished", "rooms", "guests"]:List Str).Nodup by decide +kernel)) (λ_ _ _ _ _=>pX (u9 (yX (dZ yG HN (d_ (dx (vB 3) (vP 0))) (vP 1) (eZ _)) (u5 (dZ (oA Z.units) Ca (bh (Kf (hu1 Z.units) (vP 4) (vP 0) (λ_ _=>rfl))) (vP 2) (eZ _)))))) (λ_ _ _ _ _=>bN (mG (vP 0)))))) iP)))))
def Hf(D:Dg K mg "moves_by" (top 15) ["rooms", "guests", "falls"])(B:Bl mg)(U:Has P w K mg base n "free_from" ["rooms", "guests", "kind"] (spD K fU))(q:Has P w K mg base n "guest_to_move" ["rooms", "guests", "kind", "wished"] (spD K eY)):Has P w K mg base (n+1) "moves_by" ["rooms", "guests", "falls"] (spD K j6):=by
 have sc:FnScope ["rooms", "guests", "falls", "goal", "moves", "kind", "wished", "room"] ["rooms", "guests", "falls"] (aZ (top 15)):=fsc;exact mj (fl:=[.A,.A,.A,.A,.O,.A,.A,.A]) D sc (by decide) (by decide) λf cdv A outer s H E Z=>cD (sA (i:=3) sc.nd (dx (kI (qz (cV U Z (dq (vP 0) (dq (vP 1) (dq (d_ (dx (vB 2) (bh (rG iP)))) dz)))))) iP))
  (cD (yc (i:=4) rfl sc.nd rfl (by first|exact Or.inl rfl|exact Or.inr rfl) (BZ (fY dz)))
  (cD (uf (L:=[]) eB rfl (Yu (kI (dg (U6 (vP 2) (ac7 (ad2 (vB 2) (vd iP) u_)) rfl (by rfl) B.list_ (by rfl) B.zip_))) (by rfl) B.reversed_) (wA rfl (jd (gN' (i:=5) sc.nd) (jd (gN' (i:=6) sc.nd) (sH)))) (cD (sA (i:=7) sc.nd (qz (cV q Z (dq (vP 0) (dq (vP 1) (dq (vP 5) (dq (vP 6) dz)))))))
  (cD (wB (i:=4) rfl (f9 rfl (dq (vA 7) (dq (vA 3) dz))) rfl)
  (cI (sA (i:=3) sc.nd (vA 7))))))
  (cI (eE (f9 rfl (dq (xZ 4 (by decide)) (dq (fJ (mG (vP 3))) dz)))))))
def Hg(D:Dg K mg "is_level" (top 16) ["rooms", "guests", "level"])(B:Bl mg):Has P w K mg base (n+1) "is_level" ["rooms", "guests", "level"] (spD K jt):=by
 have sc:FnScope ["rooms", "guests", "level"] ["rooms", "guests", "level"] (aZ (top 16)):=fsc;exact mj (fl:=[.A,.A,.A]) D sc (by decide) (by decide) λf cdv A outer s H E Z=>cI (eE (fJ (nC (Bc rfl) WQ (by rfl) B.all_ (show bootBuiltins "all"=some (.builtin "all")by decide +kernel) (dq (bh (qe (L:=[]) (fl':=[.A,.A,.A,.A]) rfl ["room", "own"] ["level", "guests"] [2,1] (J5 (vB 0) (by rfl) B.enumerate_) (λ_ _ _ _ _=>wA rfl (jd (gN' (i:=0) (show(["room", "own", "level", "guests"]:List Str).Nodup by decide +kernel)) (jd (gN' (i:=1) (show(["room", "own", "level", "guests"]:List Str).Nodup by decide +kernel)) (sH)))) (λ_ _ _ _ _=>pX (dZ yG HN (vP 1) (vP 2) (eZ _))) (λ_ _ _ _ _=>bN (B_ yG HN (bh (P_ (hu1 Z.units) (vP 3) (vP 0) iP ⟨rfl,rfl,rfl,rfl⟩)) (vP 2) (eZ _))))) dz))))
def Hh(D:Dg K mg "admitted" (top 17) ["rooms", "guests", "kind"])(B:Bl mg)(Y:Has P w K mg base n "falls_of" ["rooms", "guests", "kind"] (spD K iY))(q:Has P w K mg base n "moves_by" ["rooms", "guests", "falls"] (spD K j6))(U:Has P w K mg base n "is_level" ["rooms", "guests", "level"] (spD K jt)):Has P w K mg base (n+1) "admitted" ["rooms", "guests", "kind"] (spD K iZ):=by
 have sc:FnScope ["rooms", "guests", "kind", "falls", "found"] ["rooms", "guests", "kind"] (aZ (top 17)):=fsc;exact mj (fl:=[.A,.A,.A,.O,.N]) D sc (by decide) (by decide) λf cdv A outer s H E Z=>cD (yc (i:=3) rfl sc.nd rfl (by first|exact Or.inl rfl|exact Or.inr rfl) (BZ (Yg (cV Y Z (dq (vP 0) (dq (vP 1) (dq (vP 2) dz)))))))
  (cD (tL (Yr (Oi (yU 3))) (cI (eE (f9 rfl (dq (fJ (cM)) (dq (fJ (nC (LR rfl) Yp (by rfl) B.max_ PyProof.Rows.boot_max (dq (bh (qe (L:=[]) (fl':=[.A,.A,.A]) rfl ["level"] ["rooms", "guests"] [0,1] (A_ (by rfl) B.range_ (xq (dq iP (dq (bh (dH j_ nZ (vP 2) iP)) dz)))) (λ_ _ _ _ _=>gN' (i:=0) (show(["level", "rooms", "guests"]:List Str).Nodup by decide +kernel)) (λ_ _ _ _ _=>pX (iV (gD (cV U Z (dq (vP 1) (dq (vP 2) (dq (vP 0) dz))))))) (λ_ _ _ _ _=>bN (mG (vP 0))))) dz))) dz))))) (kJ))
  (cD (J6 (i:=4) rfl sc.nd rfl (by first|exact Or.inl rfl|exact Or.inr rfl) (WR (cV q Z (dq (vP 0) (dq (vP 1) (dq (Oi (yU 3)) dz))))))
  (cI (eE (f9 rfl (dq (fJ (cM)) (dq (O1 rfl (Fj 4 rfl) iP (λ_ _=>rfl)) (dq (O1 rfl (Fj 4 rfl) iP (λ_ _=>rfl)) (dq (xZ 3 (by decide)) dz)))))))))
def Jw(D:Dg K mg "is_name" (top 21) ["thing"])(B:Bl mg)(q:∃t,mg "MOST_SIGNS"=some (.int 8 t)):Has P w K mg base (n+1) "is_name" ["thing"] (spD K cT):=by
 have sc:FnScope ["thing"] ["thing"] (aZ (top 21)):=fsc;exact mj (fl:=[.A]) D sc (by decide) (by decide) λf cdv A outer s H E Z=>cD (tL (u9 (u6 (ug (iV (bh (Ie (T := "str") (by decide) (vP 0) (by rfl) B.isinstance_ (by rfl) B.str_ PyProof.Rows.boot_str)))) (qd (ug (OJ JB JB T7 T7 iP (bh (nC BK XW.YG (by rfl) B.len_ PySem.boot_len (dq (vP 0) dz))) (bh (JW q))))))) (cI (eE (fJ (nA)))) (kJ))
  (cI (eE (fJ (nC (Bc rfl) WQ (by rfl) B.all_ (show bootBuiltins "all"=some (.builtin "all")by decide +kernel) (dq (bh (qe (L:=[]) (fl':=[.A]) rfl ["sign"] [] [] (XW.YL (vP 0)) (λ_ _ _ _ _=>gN' (i:=0) (show(["sign"]:List Str).Nodup by decide +kernel)) (λ_ _ _ _ _=>Ce) (λ_ _ _ _ _=>bN (EY XI.QW XI.QW XI.W5 XI.W5 (bh (cM)) (vP 0) (bh (cM)))))) dz)))))
def DY(D:Dg K mg "_law_cell" (top 24) ["_law_script", "_law_at"])(B:Bl mg):Has P w K mg base (n+1) "_law_cell" ["_law_script", "_law_at"] (spD K iQ):=by
 have sc:FnScope ["_law_script", "_law_at"] ["_law_script", "_law_at"] (aZ (top 24)):=fsc;exact mj (fl:=[.A,.A]) D sc (by decide) (by decide) λf cdv A outer s H E Z=>cD (tL (dZ Wv b_lt (vP 1) (bh (nC kh E_ (by rfl) B.len_ PySem.boot_len (dq (vP 0) dz))) (eZ _)) (cI (eE (fJ (dH jz oY (d_ (dx (vB 0) (vP 1))) iP)))) (kJ))
  (cD (tL (dZ (oA Z.units) Ca (vP 0) (bh (fY dz)) (eZ _)) (cI (eE (fJ (dH j_ nZ (bh (dH mR uZ iP (vP 1))) iP)))) (kJ))
  (cI (eE (fJ (dH j_ nZ (bh (dH jz oY (d_ (dx (vB 0) (bh (dH jz oY (bh (dH mR uZ (vP 1) iP)) (bh (nC kh E_ (by rfl) B.len_ PySem.boot_len (dq (vP 0) dz))))))) iP)) (bh (dH mR uZ iP (vP 1))))))))
def D_(D:Dg K mg "_law_part" (top 25) ["_law_script", "_law_at", "_law_k", "_law_many"])(B:Bl mg)(q:Has P w K mg base n "_law_cell" ["_law_script", "_law_at"] (spD K iQ)):Has P w K mg base (n+1) "_law_part" ["_law_script", "_law_at", "_law_k", "_law_many"] (spD K bR):=by
 have sc:FnScope ["_law_script", "_law_at", "_law_k", "_law_many", "_law_number", "_law_j"] ["_law_script", "_law_at", "_law_k", "_law_many"] (aZ (top 25)):=fsc;exact mj (fl:=[.A,.A,.A,.A,.A,.A]) D sc (by decide) (by decide) λf cdv A outer s H E Z=>cD (tL (u9 (yX (dZ Wv b_lt (vP 1) (bh (nC kh E_ (by rfl) B.len_ PySem.boot_len (dq (vP 0) dz))) (eZ _)) (u5 (dZ yG HN (d_ (dx (vB 0) (vP 1))) (bh (dH Nt WL iP iP)) (eZ _))))) (cD (sA (i:=4) sc.nd (dx (vB 0) (vP 1)))
  (cD (uf (L:=[]) eB rfl (mX (by rfl) B.range_ (xq (dq (vP 2) dz))) (gN' (i:=5) sc.nd) (cI (sA (i:=4) sc.nd (dg (dH JX WK (vP 4) iP)))))
  (cI (tL (dZ Ww ac9 (vP 4) iP (eZ _)) (cI (eE (fJ (dH jz oY (bh (dH jz oY (vP 4) iP)) (vP 3))))) (kJ))))) (kJ))
  (cD (sA (i:=4) sc.nd (dg (dH jz oY (bh (dH mR uZ (bh (dH j_ nZ (bh (dH j_ nZ (gD (cV q Z (dq (vP 0) (dq (vP 1) dz)))) (bh (dH mR uZ iP (vP 1))))) iP)) (bh (dH j_ nZ iP (bh (dH mR uZ iP (vP 2))))))) iP)))
  (cD (sA (i:=4) sc.nd (dg (dH j_ nZ (bh (dH jz oY (bh (dH mR uZ (vP 4) (vP 4))) iP)) iP)))
  (cI (eE (fJ (dH jz oY (bh (dH JX WK (bh (dH jz oY (bh (dH mR uZ (vP 4) (vP 4))) iP)) iP)) (vP 3)))))))
def Ai(D:Dg K mg "_law_rooms" (top 27) ["_law_script", "_law_at", "_law_most"])(B:Bl mg)(q:Has P w K mg base n "_law_part" ["_law_script", "_law_at", "_law_k", "_law_many"] (spD K bR)):Has P w K mg base (n+1) "_law_rooms" ["_law_script", "_law_at", "_law_most"] (spD K iW):=by
 have sc:FnScope ["_law_script", "_law_at", "_law_most", "_law_kinds"] ["_law_script", "_law_at", "_law_most"] (aZ (top 27)):=fsc;exact mj (fl:=[.A,.A,.A,.A]) D sc (by decide) (by decide) λf cdv A outer s H E Z=>cD (sA (i:=3) sc.nd (dx (kI (dg (fY (dq (bN (fY (dq iC (dq iC (dq iC (dq iC dz)))))) (dq (bN (fY (dq iC (dq iC (dq iC (dq iC dz)))))) (dq (bN (fY (dq iC (dq iC (dq iC (dq iC dz)))))) (dq (bN (fY (dq iC (dq iC (dq iC (dq iC dz)))))) dz))))))) (gD (cV q Z (dq (vP 0) (dq (vP 1) (dq iP (dq iP dz))))))))
  (cI (eE (fJ (qe (L:=[]) (fl':=[.A,.A,.A,.A]) rfl ["_law_k"] ["_law_kinds", "_law_script", "_law_at"] [3,0,1] (mX (by rfl) B.range_ (xq (dq (gD (cV q Z (dq (vP 0) (dq (vP 1) (dq iP (dq (bh (dH j_ nZ (vP 2) iP)) dz)))))) dz))) (λ_ _ _ _ _=>gN' (i:=0) (show(["_law_k", "_law_kinds", "_law_script", "_law_at"]:List Str).Nodup by decide +kernel)) (λ_ _ _ _ _=>Ce) (λ_ _ _ _ _=>bN (mG (d_ (dx (vB 1) (gD (cV q Z (dq (vP 2) (dq (bh (dH j_ nZ (vP 3) iP)) (dq (vP 0) (dq iP dz))))))))))))))
def Aj(D:Dg K mg "_law_names" (top 30) ["_law_script", "_law_at"])(B:Bl mg)(q:Has P w K mg base n "_law_part" ["_law_script", "_law_at", "_law_k", "_law_many"] (spD K bR)):Has P w K mg base (n+1) "_law_names" ["_law_script", "_law_at"] (spD K k_):=by
 have sc:FnScope ["_law_script", "_law_at", "_law_letters", "_law_size", "_law_place", "_law_names_here", "_law_k", "_law_name", "_law_j"] ["_law_script", "_law_at"] (aZ (top 30)):=fsc;exact mj (fl:=[.A,.A,.A,.A,.A,.O,.A,.A,.A]) D sc (by decide) (by decide) λf cdv A outer s H E Z=>cD (sA (i:=2) sc.nd (dg (cM)))
  (cD (sA (i:=3) sc.nd (dg (dH j_ nZ iP (gD (cV q Z (dq (vP 0) (dq (vP 1) (dq iP (dq iP dz)))))))))
  (cD (sA (i:=4) sc.nd (qz (cV q Z (dq (vP 0) (dq (vP 1) (dq iP (dq (vP 3) dz)))))))
  (cD (yc (i:=5) rfl sc.nd rfl (by first|exact Or.inl rfl|exact Or.inr rfl) (BZ (fY dz)))
  (cD (uf (L:=[]) eB rfl (mX (by rfl) B.range_ (xq (dq iP dz))) (gN' (i:=6) sc.nd) (cD (sA (i:=7) sc.nd (dg (cM)))
  (cD (uf (L:=[]) eB rfl (mX (by rfl) B.range_ (xq (dq (vP 3) dz))) (gN' (i:=8) sc.nd) (cI (sA (i:=7) sc.nd (dg (dH lG XW.wG (vP 7) (bh (XW.YH (vP 2) (bh (dH jz oY (bh (dH j_ nZ (gD (cV q Z (dq (vP 0) (dq (bh (dH j_ nZ (vP 1) iP)) (dq (vP 8) (dq iP dz)))))) (bh (dH mR uZ (vP 6) (bh (Cj (dq (bh (B_ (oA Z.units) Ca (vP 8) (vP 4) (eZ _))) dz) (by rfl) B.int_)))))) iP)) (λ_ _=>rfl))))))))
  (cI (wB (i:=5) rfl (vA 7) rfl)))))
  (cI (eE (xZ 5 (by decide))))))))
def wQ(D:Dg K mg "_law_bad_name" (top 31) ["_law_script", "_law_at", "_law_name"])(B:Bl mg)(q:Has P w K mg base n "_law_part" ["_law_script", "_law_at", "_law_k", "_law_many"] (spD K bR)):Has P w K mg base (n+1) "_law_bad_name" ["_law_script", "_law_at", "_law_name"] (spD K gZ):=by
 have sc:FnScope ["_law_script", "_law_at", "_law_name", "_law_some"] ["_law_script", "_law_at", "_law_name"] (aZ (top 31)):=fsc;exact mj (fl:=[.A,.A,.A,.A]) D sc (by decide) (by decide) λf cdv A outer s H E Z=>XI.Rc (j:=3) rfl sc.nd rfl (by first|exact Or.inl rfl|exact Or.inr rfl) (bN (fY (dq (bN (dH lG XW.wG (vP 2) (bh (cM)))) (dq (bN (cM)) (dq (bN (dH lG XW.wG (bh (XW.Dq (vP 2) u_ (vd (bh (rG iP))))) (bh (cM)))) (dq (bN (dH lG XW.wG (bh (XW.Dq (vP 2) u_ (vd (bh (rG iP))))) (bh (cM)))) (dq (bN (dH lG XW.wG (bh (XW.Dq (vP 2) u_ (vd (bh (rG iP))))) (bh (cM)))) (dq (bN (dH lG XW.wG (bh (cM)) (bh (XW.Dq (vP 2) (vd iP) u_)))) dz)))))))) (bN (fY (dq (bN (pZ)) (dq iC (dq (bN (nA)) (dq (f9 rfl (dq (bN (mG (vP 2))) dz)) (dq (bN (fY (dq (bN (mG (vP 2))) dz))) (dq (ad6 (Ck)) dz)))))))) (gD (cV q Z (dq (vP 0) (dq (vP 1) (dq iP (dq iP dz)))))) (λ_ _=>rfl)
def wR(D:Dg K mg "_law_bad_kind" (top 32) ["_law_script", "_law_at"])(B:Bl mg)(q:Has P w K mg base n "_law_part" ["_law_script", "_law_at", "_law_k", "_law_many"] (spD K bR)):Has P w K mg base (n+1) "_law_bad_kind" ["_law_script", "_law_at"] (spD K g8):=by
 have sc:FnScope ["_law_script", "_law_at"] ["_law_script", "_law_at"] (aZ (top 32)):=fsc;exact mj (fl:=[.A,.A]) D sc (by decide) (by decide) λf cdv A outer s H E Z=>cI (eE (fJ (mG (d_ (dx (kI (dg (fY (dq iC (dq iC (dq (bN (rG iP)) (dq (bN (dH Nt WL iP iP)) (dq (bN (pZ)) (dq (bN (nA)) (dq (bN (cM)) (dq (f9 rfl (dq iC dz)) dz))))))))))) (gD (cV q Z (dq (vP 0) (dq (vP 1) (dq iP (dq iP dz)))))))))))
def Ak(D:XI.DgI K mg "House" aR "House.__init__" (i_ 22 0) ["self", "rooms"])(B:Bl mg)(q:HC_House K):XI.HasI P w K mg base (n+1) "House" aR ["self", "rooms"] (XI.spI K aR aQ jD):=by
 have sc:FnScope ["self", "rooms"] ["self", "rooms"] (aZ (i_ 22 0)):=fsc;exact XI.Y0 (fl:=[.A,.A]) (nf:=[("rooms", dN1 (wj (dUn wY (aA 1)))),("places", dC (.dict [])),("wished", dC (.dict [])),("moves_done", d9 (aW))]) D sc (by decide) (by decide) (by decide) (by decide) λf cdv A outer s H E Z=>XI.yr (WR (bN (Yh (Ud (vB 1) (by rfl) B.list_)))) (XI.yr (Ck) (XI.yr (Ck) (XI.yr (Uk (Uj)) (XI.YZ) rfl q.cl q.n_moves_done) rfl q.cl q.n_wished) rfl q.cl q.n_places) rfl q.cl q.n_rooms
def z8(D:XI.DgM K aR "names" "House.names" (i_ 22 7) ["self"])(B:Bl mg)(q:HC_House K):XI.HasM P w K mg base (n+1) aR "names" ["self"] (spD K gF):=by
 have sc:FnScope ["self"] ["self"] (aZ (i_ 22 7)):=fsc;exact XI.Bp (fl:=[.A]) D q.cl sc (by decide) (by decide) λf cdv A outer s H E Z=>cI (eE (fJ (XI.QG rfl (XI.kZ (ns:=aQ) (k:=1) (vP 0) q.cl q.n_places rfl (by decide) rfl) (by rfl) B.list_)))
def z9(D:XI.DgM K aR "moved" "House.moved" (i_ 22 10) ["self"])(B:Bl mg)(q:HC_House K):XI.HasM P w K mg base (n+1) aR "moved" ["self"] (spD K jQ):=by
 have sc:FnScope ["self"] ["self"] (aZ (i_ 22 10)):=fsc;exact XI.Bp (fl:=[.A]) D q.cl sc (by decide) (by decide) λf cdv A outer s H E Z=>cI (eE (fJ (XI.QZ (XI.kZ (ns:=aQ) (k:=3) (vP 0) q.cl q.n_moves_done rfl (by decide) rfl) (by rfl) B.list_)))
def xW(D:XI.DgM K aR "guests" "House.guests" (i_ 22 8) ["self"])(B:Bl mg)(q:HC_House K):XI.HasM P w K mg base (n+1) aR "guests" ["self"] (spD K dO):=by
 have sc:FnScope ["self"] ["self"] (aZ (i_ 22 8)):=fsc;exact XI.Bp (fl:=[.A]) D q.cl sc (by decide) (by decide) λf cdv A outer s H E Z=>cI (eE (WD (Pq Z.hd (dq (bh (XI.Gn (fl':=[.A,.A,.A]) rfl ["name", "room"] ["self"] [0] (XI.kZ (ns:=aQ) (k:=1) (vP 0) q.cl q.n_places rfl (by decide) rfl) (λ_ _ _ _ _=>wA rfl (jd (gN' (i:=0) (show(["name", "room", "self"]:List Str).Nodup by decide +kernel)) (jd (gN' (i:=1) (show(["name", "room", "self"]:List Str).Nodup by decide +kernel)) (sH)))) (λ_ _ _ _ _=>Ce) (λ_ _ _ _ _=>bN (mG (d_ (f9 rfl (dq (vA 1) (dq (dg (XI.yq (XK.hu1 Z.units) (XI.kZ (ns:=aQ) (k:=2) (vP 2) q.cl q.n_wished rfl (by decide) rfl) (vP 0) (λ_ _=>rfl))) dz)))))))) dz) (by rfl) B.dict_)))
def Al(D:XI.DgM K aR "free" "House.free" (i_ 22 9) ["self"])(B:Bl mg)(q:HC_House K):XI.HasM P w K mg base (n+1) aR "free" ["self"] (spD K lu):=by
 have sc:FnScope ["self", "held"] ["self"] (aZ (i_ 22 9)):=fsc;exact XI.Bp (fl:=[.A,.A]) D q.cl sc (by decide) (by decide) λf cdv A outer s H E Z=>cD (sA (i:=1) sc.nd (dg (XI.QH rfl (XI.kZ (ns:=aQ) (k:=1) (vP 0) q.cl q.n_places rfl (by decide) rfl) (by rfl) B.list_)))
  (cI (eE (fJ (qe (L:=[]) (fl':=[.A,.A]) rfl ["room"] ["held"] [1] (mX (by rfl) B.range_ (xq (dq (bh (nC kh E_ (by rfl) B.len_ PySem.boot_len (dq (XI.kZ (ns:=aQ) (k:=0) (vP 0) q.cl q.n_rooms rfl (by decide) rfl) dz))) dz))) (λ_ _ _ _ _=>gN' (i:=0) (show(["room", "held"]:List Str).Nodup by decide +kernel)) (λ_ _ _ _ _=>pX (dZ (Mf Z.units) Uq (vP 0) (vP 1) (by with_unfolding_all rfl))) (λ_ _ _ _ _=>bN (mG (vP 0)))))))
def su(D:XI.DgM K aR "check_guest" "House.check_guest" (i_ 22 3) ["self", "name"])(B:Bl mg)(q:HC_House K)(O:Has P w K mg base n "is_name" ["thing"] (spD K cT)):XI.HasM P w K mg base (n+1) aR "check_guest" ["self", "name"] (spD K gq):=by
 have sc:FnScope ["self", "name"] ["self", "name"] (aZ (i_ 22 3)):=fsc;exact XI.Bp (fl:=[.A,.A]) D q.cl sc (by decide) (by decide) λf cdv A outer s H E Z=>cI (tL (u9 (u6 (ug (iV (gD (cV O Z (dq (vP 1) dz))))) (qd (dZ (XK.wF Z.units) XI.Gj (vP 1) (XI.kZ (ns:=aQ) (k:=1) (vP 0) q.cl q.n_places rfl (by decide) rfl) (by with_unfolding_all rfl))))) (cI (Ox)) (kJ))
def wU(D:XI.DgM K aR "room_of" "House.room_of" (i_ 22 5) ["self", "name"])(B:Bl mg)(O:HC_House K)(q:XI.HasM P w K mg base n aR "check_guest" ["self", "name"] (spD K gq)):XI.HasM P w K mg base (n+1) aR "room_of" ["self", "name"] (spD K gb):=by
 have sc:FnScope ["self", "name"] ["self", "name"] (aZ (i_ 22 5)):=fsc;exact XI.Bp (fl:=[.A,.A]) D O.cl sc (by decide) (by decide) λf cdv A outer s H E Z=>cD (T8 (gD (XI.Kp (ns:=aQ) q Z (by decide) (vP 0) (dq (vP 1) dz))))
  (cI (eE (fJ (XI.yq (XK.hu1 Z.units) (XI.kZ (ns:=aQ) (k:=1) (vP 0) O.cl O.n_places rfl (by decide) rfl) (vP 1) (λ_ _=>rfl)))))
def tK(D:XI.DgM K aR "move_guest" "House.move_guest" (i_ 22 2) ["self", "room", "other"])(B:Bl mg)(q:HC_House K):XI.HasM P w K mg base (n+1) aR "move_guest" ["self", "room", "other"] (XI.spW K [0] fK):=by
 have sc:FnScope ["self", "room", "other", "name"] ["self", "room", "other"] (aZ (i_ 22 2)):=fsc;exact XI.YX (fl:=[.W,.A,.A,.A]) D q.cl sc (by decide) (by decide) (by decide) λf cdv A outer s H E Z=>XI.gP (XI.pA (sA (i:=3) sc.nd (dx (kI (dg (XI.Gn (fl':=[.A,.A,.A]) rfl ["guest", "place"] ["room"] [1] (XI.kZ (ns:=aQ) (k:=1) (jR 0 rfl) q.cl q.n_places rfl (by decide) rfl) (λ_ _ _ _ _=>wA rfl (jd (gN' (i:=0) (show(["guest", "place", "room"]:List Str).Nodup by decide +kernel)) (jd (gN' (i:=1) (show(["guest", "place", "room"]:List Str).Nodup by decide +kernel)) (sH)))) (λ_ _ _ _ _=>pX (dZ (oA Z.units) Ca (vP 1) (vP 2) (eZ _))) (λ_ _ _ _ _=>bN (mG (vP 0)))))) iP)) (XI.gow XI.jA))
  (XI.gP (XI.pA (XI.CV (XK.hu1 Z.units) (i:=0) (ns:=aQ) (k:=1) (Or.inr rfl) (vP 2) (vP 3) rfl q.cl q.n_places rfl (by decide)) (XI.gow XI.Dk))
  (XI.vG (XI.pA (XI.Vc (i:=0) (ns:=aQ) (k:=3) (Or.inr rfl) (d_ (f9 rfl (dq (vA 3) (dq (vA 1) (dq (vA 2) dz))))) rfl q.cl q.n_moves_done rfl (by decide)) (XI.gow XI.Vk))))
def qu(D:XI.DgM K aR "check_guest" "House.check_guest" (i_ 22 3) ["self", "name"])(B:Bl mg)(q:HC_House K)(U:Has P w K mg base (n+2) "is_name" ["thing"] (spD K cT))(O:XC.ExcG K mg fld "NoGuest" "name" "InnError"):XI.HasMX P w K mg base fld (n+3) aR "check_guest" ["self", "name"] (XI.ux K mg [0] cC):=by
 have sc:FnScope ["self", "name"] ["self", "name"] (aZ (i_ 22 3)):=fsc;exact XI.vJ (fl:=[.W,.A]) D q.cl sc (by decide) (by decide) (by decide) λf cdv A outer s H E Z=>XI.jP (XI.zJ (u9 (u6 (ug (iV (gD (cV U Z (dq (vP 1) dz))))) (qd (dZ (XK.wF Z.units) XI.Gj (vP 1) (XI.kZ (ns:=aQ) (k:=1) (jR 0 rfl) q.cl q.n_places rfl (by decide) rfl) (by with_unfolding_all rfl))))) (XI.jP (XI.pC O.fly Z (by decide) (vP 1))) (XI.rP))
def xX(D:XI.DgM K aR "let_in" "House.let_in" (i_ 22 1) ["self", "name", "kind"])(B:Bl mg)(q:HC_House K)(U:Has P w K mg base (n+2) "is_whole_within" ["thing", "least", "most"] (spD K bW))(hadmitted:Has P w K mg base (n+2) "admitted" ["rooms", "guests", "kind"] (spD K iZ))(his_name:Has P w K mg base (n+2) "is_name" ["thing"] (spD K cT))(Z:∃t,mg "BEST_KIND"=some (.int 4 t))(Y:XI.HasM P w K mg base (n+2) aR "guests" ["self"] (spD K dO))(O:XI.HasM P w K mg base (n+2) aR "move_guest" ["self", "room", "other"] (XI.spW K [0] fK))(zNoName:XC.ExcG K mg fld "NoName" "name" "InnError")(zStands:XC.ExcG K mg fld "Stands" "name" "InnError")(zNoKind:XC.ExcG K mg fld "NoKind" "kind" "InnError")(zFull:XC.ExcG K mg fld "Full" "kind" "InnError"):XI.HasMX P w K mg base fld (n+3) aR "let_in" ["self", "name", "kind"] (XI.ux K mg [0] cH):=by
 have sc:FnScope ["self", "name", "kind", "found", "room", "other"] ["self", "name", "kind"] (aZ (i_ 22 1)):=fsc;exact XI.vJ (fl:=[.W,.A,.A,.A,.A,.A]) D q.cl sc (by decide) (by decide) (by decide) λf cdv A outer s H E X=>XI.gY (XI.zJ (ug (iV (gD (cV his_name X (dq (vP 1) dz))))) (XI.jP (XI.pC zNoName.fly X (by decide) (vP 1))) (XI.rP))
  (XI.gY (XI.zJ (dZ (XK.PN X.units) XI.af4 (vP 1) (XI.kZ (ns:=aQ) (k:=1) (jR 0 rfl) q.cl q.n_places rfl (by decide) rfl) (by with_unfolding_all rfl)) (XI.jP (XI.pC zStands.fly X (by decide) (vP 1))) (XI.rP))
  (XI.gY (XI.zJ (ug (iV (gD (cV U X (dq (vP 2) (dq iP (dq (bh (JW Z)) dz))))))) (XI.jP (XI.pC zNoKind.fly X (by decide) (vP 2))) (XI.rP))
  (XI.gY (XI.zH (sA (i:=3) sc.nd (qz (cV hadmitted X (dq (XI.kZ (ns:=aQ) (k:=0) (jR 0 rfl) q.cl q.n_rooms rfl (by decide) rfl) (dq (gD (XI.nM (ns:=aQ) Y X (by decide) (jR 0 rfl))) (dq (vP 2) dz)))))) XI.jA)
  (XI.gY (XI.zJ (dZ (oA X.units) Ca (d_ (dx (vB 3) iP)) (bh (cM)) (eZ _)) (XI.jP (XI.pC zFull.fly X (by decide) (d_ (dx (vB 3) iP)))) (XI.rP))
  (XI.gY (XI.zH (uf (L:=[]) eB rfl (JZ (kI (dx (vB 3) iP))) (wA rfl (jd (gN' (i:=4) sc.nd) (jd (gN' (i:=5) sc.nd) (sH)))) (cI (XI.Gg (XI.Qy (ns:=aQ) (sw:=[0]) O X rfl rfl (by decide) (XI.fB (vA 4) (XI.fB (vA 5) (XI.jT))) (XI.mH rfl))))) (XI.Y4 XI.Gv))
  (XI.gY (XI.zH (XI.CV (XK.hu1 X.units) (i:=0) (ns:=aQ) (k:=1) (Or.inr rfl) (d_ (dx (vB 3) iP)) (vP 1) rfl q.cl q.n_places rfl (by decide)) XI.Dk)
  (XI.gY (XI.zH (XI.CV (XK.hu1 X.units) (i:=0) (ns:=aQ) (k:=2) (Or.inr rfl) (vP 2) (vP 1) rfl q.cl q.n_wished rfl (by decide)) XI.Dk)
  (XI.jP (XI.Di (by decide) (d_ (f9 rfl (dq (dx (vB 3) iP) (dq (dx (vB 3) iP) dz)))))))))))))
def Ea(D:XI.DgM K aR "out" "House.out" (i_ 22 4) ["self", "name"])(B:Bl mg)(O:HC_House K)(q:XI.HasMX P w K mg base fld (n+2) aR "check_guest" ["self", "name"] (XI.ux K mg [0] cC)):XI.HasMX P w K mg base fld (n+3) aR "out" ["self", "name"] (XI.ux K mg [0] ju):=by
 have sc:FnScope ["self", "name"] ["self", "name"] (aZ (i_ 22 4)):=fsc;exact XI.vJ (fl:=[.W,.A]) D O.cl sc (by decide) (by decide) (by decide) λf cdv A outer s H E Z=>XI.gY (XI.zK (by decide) (XI.wK (fld:=fld) (ns:=aQ) (sw:=[0]) q Z rfl rfl (by decide) (XI.fB (vA 1) (XI.jT)) (XI.mH rfl)))
  (XI.gY (XI.zH (XI.Gg (XI.Ks (i:=0) (ns:=aQ) (k:=2) (Or.inr rfl) (vP 1) rfl O.cl O.n_wished rfl (by decide) ⟨rfl,rfl,rfl,rfl⟩)) XI.Gv)
  (XI.jP (XI.Q5 (by decide) (XI.Ks (i:=0) (ns:=aQ) (k:=1) (Or.inr rfl) (vP 1) rfl O.cl O.n_places rfl (by decide) ⟨rfl,rfl,rfl,rfl⟩))))
def uI(D:XI.DgM K aR "room_of" "House.room_of" (i_ 22 5) ["self", "name"])(B:Bl mg)(O:HC_House K)(q:XI.HasMX P w K mg base fld (n+2) aR "check_guest" ["self", "name"] (XI.ux K mg [0] cC)):XI.HasMX P w K mg base fld (n+3) aR "room_of" ["self", "name"] (XI.ux K mg [0] eO):=by
 have sc:FnScope ["self", "name"] ["self", "name"] (aZ (i_ 22 5)):=fsc;exact XI.vJ (fl:=[.W,.A]) D O.cl sc (by decide) (by decide) (by decide) λf cdv A outer s H E Z=>XI.gY (XI.zK (by decide) (XI.wK (fld:=fld) (ns:=aQ) (sw:=[0]) q Z rfl rfl (by decide) (XI.fB (vA 1) (XI.jT)) (XI.mH rfl)))
  (XI.jP (XI.Di (by decide) (bh (XI.yq (XK.hu1 Z.units) (XI.kZ (ns:=aQ) (k:=1) (jR 0 rfl) O.cl O.n_places rfl (by decide) rfl) (vP 1) (λ_ _=>rfl)))))
def wV(D:XI.DgM K aR "kind_of" "House.kind_of" (i_ 22 6) ["self", "name"])(B:Bl mg)(O:HC_House K)(q:XI.HasMX P w K mg base fld (n+2) aR "check_guest" ["self", "name"] (XI.ux K mg [0] cC)):XI.HasMX P w K mg base fld (n+3) aR "kind_of" ["self", "name"] (XI.ux K mg [0] gj):=by
 have sc:FnScope ["self", "name"] ["self", "name"] (aZ (i_ 22 6)):=fsc;exact XI.vJ (fl:=[.W,.A]) D O.cl sc (by decide) (by decide) (by decide) λf cdv A outer s H E Z=>XI.gY (XI.zK (by decide) (XI.wK (fld:=fld) (ns:=aQ) (sw:=[0]) q Z rfl rfl (by decide) (XI.fB (vA 1) (XI.jT)) (XI.mH rfl)))
  (XI.jP (XI.Di (by decide) (bh (XI.yq (XK.hu1 Z.units) (XI.kZ (ns:=aQ) (k:=2) (jR 0 rfl) O.cl O.n_wished rfl (by decide) rfl) (vP 1) (λ_ _=>rfl)))))
def Eb(D:Dg K mg "_law_seen" (top 34) ["_law_house"])(B:Bl mg)(hHouse:HC_House K)(O:XI.HasM P w K mg base n aR "names" ["self"] (spD K gF))(U:XI.HasM P w K mg base n aR "moved" ["self"] (spD K jQ))(q:XI.HasM P w K mg base n aR "guests" ["self"] (spD K dO))(Y:XI.HasM P w K mg base n aR "free" ["self"] (spD K lu)):Has P w K mg base (n+1) "_law_seen" ["_law_house"] (spD K iw):=by
 have sc:FnScope ["_law_house"] ["_law_house"] (aZ (top 34)):=fsc;exact mj (fl:=[.A]) D sc (by decide) (by decide) λf cdv A outer s H E Z=>cI (eE (fJ (fY (dq (XI.nM (ns:=aQ) O Z (by decide) (vP 0)) (dq (XI.nM (ns:=aQ) q Z (by decide) (vP 0)) (dq (XI.nM (ns:=aQ) U Z (by decide) (vP 0)) (dq (XI.nM (ns:=aQ) Y Z (by decide) (vP 0)) dz)))))))
def Ec(D:Dg K mg "_law_told" (top 33) ["_law_house", "_law_way", "_law_name", "_law_kind"])(B:Bl mg)(hHouse:HC_House K)(mHouse_room_of:XI.HasM P w K mg base n aR "room_of" ["self", "name"] (spD K gb))(Y:XI.HasMX P w K mg base fld n aR "let_in" ["self", "name", "kind"] (XI.ux K mg [0] cH))(Z:XI.HasMX P w K mg base fld n aR "out" ["self", "name"] (XI.ux K mg [0] ju))(O:XI.HasMX P w K mg base fld n aR "room_of" ["self", "name"] (XI.ux K mg [0] eO))(U:XI.HasMX P w K mg base fld n aR "kind_of" ["self", "name"] (XI.ux K mg [0] gj))(sNoName:XC.SuiU K mg fld "NoName" "name" "InnError" [("NoName", true),("Stands", false),("NoKind", false),("Full", false),("NoGuest", false)])(sStands:XC.SuiU K mg fld "Stands" "name" "InnError" [("NoName", false),("Stands", true),("NoKind", false),("Full", false),("NoGuest", false)])(sNoKind:XC.SuiU K mg fld "NoKind" "kind" "InnError" [("NoName", false),("Stands", false),("NoKind", true),("Full", false),("NoGuest", false)])(sFull:XC.SuiU K mg fld "Full" "kind" "InnError" [("NoName", false),("Stands", false),("NoKind", false),("Full", true),("NoGuest", false)])(sNoGuest:XC.SuiU K mg fld "NoGuest" "name" "InnError" [("NoName", false),("Stands", false),("NoKind", false),("Full", false),("NoGuest", true)])(q:mg "ValueError"=none):Has P w K mg base (n+1) "_law_told" ["_law_house", "_law_way", "_law_name", "_law_kind"] (XI.spP K [0] dw):=by
 have sc:FnScope ["_law_house", "_law_way", "_law_name", "_law_kind", "e", "_law_kinds"] ["_law_house", "_law_way", "_law_name", "_law_kind"] (aZ (top 33)):=fsc;exact XI.Y5 (fl:=[.W,.A,.A,.A,.A,.A]) D sc (by decide) (by decide) (by decide) λf cdv A outer s H E X=>XI.MJ (XI.Vr (i:=4) (cs:=["NoName", "Stands", "NoKind", "Full", "NoGuest"]) (fS:=fV) (XI.Jg (dZ (oA X.units) Ca (vP 1) iP (eZ _)) (XI.vK (fld:=fld) (ns:=aQ) (sw:=[0]) Y X rfl rfl (by decide) (XI.fB (vA 2) (XI.fB (vA 3) (XI.jT))) (XI.mH rfl)) (XI.Jg (dZ (oA X.units) Ca (vP 1) iP (eZ _)) (XI.vK (fld:=fld) (ns:=aQ) (sw:=[0]) Z X rfl rfl (by decide) (XI.fB (vA 2) (XI.jT)) (XI.mH rfl)) (XI.Jg (dZ (oA X.units) Ca (vP 1) iP (eZ _)) (XI.vK (fld:=fld) (ns:=aQ) (sw:=[0]) O X rfl rfl (by decide) (XI.fB (vA 2) (XI.jT)) (XI.mH rfl)) (XI.vK (fld:=fld) (ns:=aQ) (sw:=[0]) U X rfl rfl (by decide) (XI.fB (vA 2) (XI.jT)) (XI.mH rfl))))) (fL.mpr ⟨XI.pF (i:=4) (g:=λd=>bU (bJ 5 (d9 (aj (dC (.bool true)) (aj (dC (.bool false)) (aj (dC (.bool false)) (aj (dC (.bool false)) (aW))))))) (bU (bJ 5 (dOp oX (aA 5) (d9 (aj (dC (.bool false)) (aW))))) (bU (sIf (D3.tOr (bG (dOp gNe (dOp vL (aA 5) (dC (.bool true))) (dC (.int 1)))) (D3.mD (λ_=>some true))) (XI.jl [0] (dTup (aj (dC (.str "odd")) (aj (dC (.none)) (aW))))) (fO)) (bU (sIf (D3.tOr (bG (dOp gIx (aA 5) (dC (.int 2)))) (bG (dOp gIx (aA 5) (dC (.int 3))))) ((λ_=>none)) (fO)) (XI.jl [0] (dTup (aj (dOp gIx (d9 (aj (dC (.str "name")) (aj (dC (.str "stands")) (aj (dC (.str "")) (aj (dC (.str "")) (aj (dC (.str "guest")) (aW))))))) (dOp XI.rR (aA 5) (dC (.bool true)))) (aj (dC d) (aW))))))))) sNoName B.isinstance_ rfl (λ_=>rfl) λa oa xd od v d S=>XI.dX (XI.lW (j:=5) (show(4:Nat)≠5 by decide) rfl sc.nd rfl (by first|exact Or.inl rfl|exact Or.inr rfl) (XI.oG (XI.oH (XI.cR rfl (XI.fQ (XI.je (z:=⟨_,a,v,d⟩) (S.is ("NoName", true) (by decide) rfl (by decide) _ _ _ _))) (XI.cR rfl (XI.fQ (XI.je (z:=⟨_,a,v,d⟩) (S.is ("Stands", false) (by decide) rfl (by decide) _ _ _ _))) (XI.cR rfl (XI.fQ (XI.je (z:=⟨_,a,v,d⟩) (S.is ("NoKind", false) (by decide) rfl (by decide) _ _ _ _))) (XI.cR rfl (XI.fQ (XI.je (z:=⟨_,a,v,d⟩) (S.is ("Full", false) (by decide) rfl (by decide) _ _ _ _))) (XI.j4)))))))) (XI.dX (XI.lW (j:=5) (show(4:Nat)≠5 by decide) rfl sc.nd rfl (by first|exact Or.inl rfl|exact Or.inr rfl) (XI.Gw (XI.zN (XI.tM (XI.nO (vA 5))) (XI.tM (XI.oG (XI.oH (XI.cR rfl (XI.fQ (XI.je (z:=⟨_,a,v,d⟩) (S.is ("NoGuest", false) (by decide) rfl (by decide) _ _ _ _))) (XI.j4)))))))) (XI.dX (XI.tQ (XI.Q9 (XI.Gy (XI.tO (dZ (wg X.units) Oj (bh (XN.zR (vP 5) (bh (nA)))) iP (eZ _))) (XI.zP (XI.zO (XI.Gx (z:=⟨_,a,v,d⟩) (S.isv q rfl _ _ _ _)))))) (XI.lU (XI.oJ (by decide) (XI.nO (gD (f9 rfl (dq (bN (cM)) (dq (bN (pZ)) dz))))))) (XI.lR)) (XI.dX (XI.tQ (XI.tO (u9 (u6 (iV (d_ (dx (vB 5) iP))) (qd (iV (d_ (dx (vB 5) iP))))))) (XI.pD) (XI.lR)) (XI.lU (XI.oJ (by decide) (XI.zM rfl (XI.cR rfl (XI.nO (d_ (dx (kI (dg (fY (dq (bN (cM)) (dq (bN (cM)) (dq (bN (cM)) (dq (bN (cM)) (dq (bN (cM)) dz)))))))) (bh (XI.Dr (vP 5) (bh (nA))))))) (XI.cR rfl (XI.zQ S) (XI.j4))))))))),fL.mpr ⟨XI.pF (i:=4) (g:=λd=>bU (bJ 5 (d9 (aj (dC (.bool false)) (aj (dC (.bool true)) (aj (dC (.bool false)) (aj (dC (.bool false)) (aW))))))) (bU (bJ 5 (dOp oX (aA 5) (d9 (aj (dC (.bool false)) (aW))))) (bU (sIf (D3.tOr (bG (dOp gNe (dOp vL (aA 5) (dC (.bool true))) (dC (.int 1)))) (D3.mD (λ_=>some true))) (XI.jl [0] (dTup (aj (dC (.str "odd")) (aj (dC (.none)) (aW))))) (fO)) (bU (sIf (D3.tOr (bG (dOp gIx (aA 5) (dC (.int 2)))) (bG (dOp gIx (aA 5) (dC (.int 3))))) ((λ_=>none)) (fO)) (XI.jl [0] (dTup (aj (dOp gIx (d9 (aj (dC (.str "name")) (aj (dC (.str "stands")) (aj (dC (.str "")) (aj (dC (.str "")) (aj (dC (.str "guest")) (aW))))))) (dOp XI.rR (aA 5) (dC (.bool true)))) (aj (dC d) (aW))))))))) sStands B.isinstance_ rfl (λ_=>rfl) λa oa xd od v d S=>XI.dX (XI.lW (j:=5) (show(4:Nat)≠5 by decide) rfl sc.nd rfl (by first|exact Or.inl rfl|exact Or.inr rfl) (XI.oG (XI.oH (XI.cR rfl (XI.fQ (XI.je (z:=⟨_,a,v,d⟩) (S.is ("NoName", false) (by decide) rfl (by decide) _ _ _ _))) (XI.cR rfl (XI.fQ (XI.je (z:=⟨_,a,v,d⟩) (S.is ("Stands", true) (by decide) rfl (by decide) _ _ _ _))) (XI.cR rfl (XI.fQ (XI.je (z:=⟨_,a,v,d⟩) (S.is ("NoKind", false) (by decide) rfl (by decide) _ _ _ _))) (XI.cR rfl (XI.fQ (XI.je (z:=⟨_,a,v,d⟩) (S.is ("Full", false) (by decide) rfl (by decide) _ _ _ _))) (XI.j4)))))))) (XI.dX (XI.lW (j:=5) (show(4:Nat)≠5 by decide) rfl sc.nd rfl (by first|exact Or.inl rfl|exact Or.inr rfl) (XI.Gw (XI.zN (XI.tM (XI.nO (vA 5))) (XI.tM (XI.oG (XI.oH (XI.cR rfl (XI.fQ (XI.je (z:=⟨_,a,v,d⟩) (S.is ("NoGuest", false) (by decide) rfl (by decide) _ _ _ _))) (XI.j4)))))))) (XI.dX (XI.tQ (XI.Q9 (XI.Gy (XI.tO (dZ (wg X.units) Oj (bh (XN.zR (vP 5) (bh (nA)))) iP (eZ _))) (XI.zP (XI.zO (XI.Gx (z:=⟨_,a,v,d⟩) (S.isv q rfl _ _ _ _)))))) (XI.lU (XI.oJ (by decide) (XI.nO (gD (f9 rfl (dq (bN (cM)) (dq (bN (pZ)) dz))))))) (XI.lR)) (XI.dX (XI.tQ (XI.tO (u9 (u6 (iV (d_ (dx (vB 5) iP))) (qd (iV (d_ (dx (vB 5) iP))))))) (XI.pD) (XI.lR)) (XI.lU (XI.oJ (by decide) (XI.zM rfl (XI.cR rfl (XI.nO (d_ (dx (kI (dg (fY (dq (bN (cM)) (dq (bN (cM)) (dq (bN (cM)) (dq (bN (cM)) (dq (bN (cM)) dz)))))))) (bh (XI.Dr (vP 5) (bh (nA))))))) (XI.cR rfl (XI.zQ S) (XI.j4))))))))),fL.mpr ⟨XI.pF (i:=4) (g:=λd=>bU (bJ 5 (d9 (aj (dC (.bool false)) (aj (dC (.bool false)) (aj (dC (.bool true)) (aj (dC (.bool false)) (aW))))))) (bU (bJ 5 (dOp oX (aA 5) (d9 (aj (dC (.bool false)) (aW))))) (bU (sIf (D3.tOr (bG (dOp gNe (dOp vL (aA 5) (dC (.bool true))) (dC (.int 1)))) (D3.mD (λ_=>some true))) (XI.jl [0] (dTup (aj (dC (.str "odd")) (aj (dC (.none)) (aW))))) (fO)) (bU (sIf (D3.tOr (bG (dOp gIx (aA 5) (dC (.int 2)))) (bG (dOp gIx (aA 5) (dC (.int 3))))) (XI.jl [0] (dTup (aj (dOp gIx (d9 (aj (dC (.str "kind")) (aj (dC (.str "full")) (aW)))) (dCall xT (aj (dOp gIx (aA 5) (dC (.int 3))) (aW)))) (aj (dC d) (aW))))) (fO)) ((λ_=>none)))))) sNoKind B.isinstance_ rfl (λ_=>rfl) λa oa xd od v d S=>XI.dX (XI.lW (j:=5) (show(4:Nat)≠5 by decide) rfl sc.nd rfl (by first|exact Or.inl rfl|exact Or.inr rfl) (XI.oG (XI.oH (XI.cR rfl (XI.fQ (XI.je (z:=⟨_,a,v,d⟩) (S.is ("NoName", false) (by decide) rfl (by decide) _ _ _ _))) (XI.cR rfl (XI.fQ (XI.je (z:=⟨_,a,v,d⟩) (S.is ("Stands", false) (by decide) rfl (by decide) _ _ _ _))) (XI.cR rfl (XI.fQ (XI.je (z:=⟨_,a,v,d⟩) (S.is ("NoKind", true) (by decide) rfl (by decide) _ _ _ _))) (XI.cR rfl (XI.fQ (XI.je (z:=⟨_,a,v,d⟩) (S.is ("Full", false) (by decide) rfl (by decide) _ _ _ _))) (XI.j4)))))))) (XI.dX (XI.lW (j:=5) (show(4:Nat)≠5 by decide) rfl sc.nd rfl (by first|exact Or.inl rfl|exact Or.inr rfl) (XI.Gw (XI.zN (XI.tM (XI.nO (vA 5))) (XI.tM (XI.oG (XI.oH (XI.cR rfl (XI.fQ (XI.je (z:=⟨_,a,v,d⟩) (S.is ("NoGuest", false) (by decide) rfl (by decide) _ _ _ _))) (XI.j4)))))))) (XI.dX (XI.tQ (XI.Q9 (XI.Gy (XI.tO (dZ (wg X.units) Oj (bh (XN.zR (vP 5) (bh (nA)))) iP (eZ _))) (XI.zP (XI.zO (XI.Gx (z:=⟨_,a,v,d⟩) (S.isv q rfl _ _ _ _)))))) (XI.lU (XI.oJ (by decide) (XI.nO (gD (f9 rfl (dq (bN (cM)) (dq (bN (pZ)) dz))))))) (XI.lR)) (XI.dX (XI.tQ (XI.tO (u9 (u6 (iV (d_ (dx (vB 5) iP))) (qd (iV (d_ (dx (vB 5) iP))))))) (XI.lU (XI.oJ (by decide) (XI.zM rfl (XI.cR rfl (XI.nO (d_ (dx (kI (dg (fY (dq (bN (cM)) (dq (bN (cM)) dz))))) (bh (Cj (dq (d_ (dx (vB 5) iP)) dz) (by rfl) B.int_))))) (XI.cR rfl (XI.zQ S) (XI.j4)))))) (XI.lR)) (XI.pD)))),fL.mpr ⟨XI.pF (i:=4) (g:=λd=>bU (bJ 5 (d9 (aj (dC (.bool false)) (aj (dC (.bool false)) (aj (dC (.bool false)) (aj (dC (.bool true)) (aW))))))) (bU (bJ 5 (dOp oX (aA 5) (d9 (aj (dC (.bool false)) (aW))))) (bU (sIf (D3.tOr (bG (dOp gNe (dOp vL (aA 5) (dC (.bool true))) (dC (.int 1)))) (D3.mD (λ_=>some true))) (XI.jl [0] (dTup (aj (dC (.str "odd")) (aj (dC (.none)) (aW))))) (fO)) (bU (sIf (D3.tOr (bG (dOp gIx (aA 5) (dC (.int 2)))) (bG (dOp gIx (aA 5) (dC (.int 3))))) (XI.jl [0] (dTup (aj (dOp gIx (d9 (aj (dC (.str "kind")) (aj (dC (.str "full")) (aW)))) (dCall xT (aj (dOp gIx (aA 5) (dC (.int 3))) (aW)))) (aj (dC d) (aW))))) (fO)) ((λ_=>none)))))) sFull B.isinstance_ rfl (λ_=>rfl) λa oa xd od v d S=>XI.dX (XI.lW (j:=5) (show(4:Nat)≠5 by decide) rfl sc.nd rfl (by first|exact Or.inl rfl|exact Or.inr rfl) (XI.oG (XI.oH (XI.cR rfl (XI.fQ (XI.je (z:=⟨_,a,v,d⟩) (S.is ("NoName", false) (by decide) rfl (by decide) _ _ _ _))) (XI.cR rfl (XI.fQ (XI.je (z:=⟨_,a,v,d⟩) (S.is ("Stands", false) (by decide) rfl (by decide) _ _ _ _))) (XI.cR rfl (XI.fQ (XI.je (z:=⟨_,a,v,d⟩) (S.is ("NoKind", false) (by decide) rfl (by decide) _ _ _ _))) (XI.cR rfl (XI.fQ (XI.je (z:=⟨_,a,v,d⟩) (S.is ("Full", true) (by decide) rfl (by decide) _ _ _ _))) (XI.j4)))))))) (XI.dX (XI.lW (j:=5) (show(4:Nat)≠5 by decide) rfl sc.nd rfl (by first|exact Or.inl rfl|exact Or.inr rfl) (XI.Gw (XI.zN (XI.tM (XI.nO (vA 5))) (XI.tM (XI.oG (XI.oH (XI.cR rfl (XI.fQ (XI.je (z:=⟨_,a,v,d⟩) (S.is ("NoGuest", false) (by decide) rfl (by decide) _ _ _ _))) (XI.j4)))))))) (XI.dX (XI.tQ (XI.Q9 (XI.Gy (XI.tO (dZ (wg X.units) Oj (bh (XN.zR (vP 5) (bh (nA)))) iP (eZ _))) (XI.zP (XI.zO (XI.Gx (z:=⟨_,a,v,d⟩) (S.isv q rfl _ _ _ _)))))) (XI.lU (XI.oJ (by decide) (XI.nO (gD (f9 rfl (dq (bN (cM)) (dq (bN (pZ)) dz))))))) (XI.lR)) (XI.dX (XI.tQ (XI.tO (u9 (u6 (iV (d_ (dx (vB 5) iP))) (qd (iV (d_ (dx (vB 5) iP))))))) (XI.lU (XI.oJ (by decide) (XI.zM rfl (XI.cR rfl (XI.nO (d_ (dx (kI (dg (fY (dq (bN (cM)) (dq (bN (cM)) dz))))) (bh (Cj (dq (d_ (dx (vB 5) iP)) dz) (by rfl) B.int_))))) (XI.cR rfl (XI.zQ S) (XI.j4)))))) (XI.lR)) (XI.pD)))),fL.mpr ⟨XI.pF (i:=4) (g:=λd=>bU (bJ 5 (d9 (aj (dC (.bool false)) (aj (dC (.bool false)) (aj (dC (.bool false)) (aj (dC (.bool false)) (aW))))))) (bU (bJ 5 (dOp oX (aA 5) (d9 (aj (dC (.bool true)) (aW))))) (bU (sIf (D3.tOr (bG (dOp gNe (dOp vL (aA 5) (dC (.bool true))) (dC (.int 1)))) (D3.mD (λ_=>some true))) (XI.jl [0] (dTup (aj (dC (.str "odd")) (aj (dC (.none)) (aW))))) (fO)) (bU (sIf (D3.tOr (bG (dOp gIx (aA 5) (dC (.int 2)))) (bG (dOp gIx (aA 5) (dC (.int 3))))) ((λ_=>none)) (fO)) (XI.jl [0] (dTup (aj (dOp gIx (d9 (aj (dC (.str "name")) (aj (dC (.str "stands")) (aj (dC (.str "")) (aj (dC (.str "")) (aj (dC (.str "guest")) (aW))))))) (dOp XI.rR (aA 5) (dC (.bool true)))) (aj (dC d) (aW))))))))) sNoGuest B.isinstance_ rfl (λ_=>rfl) λa oa xd od v d S=>XI.dX (XI.lW (j:=5) (show(4:Nat)≠5 by decide) rfl sc.nd rfl (by first|exact Or.inl rfl|exact Or.inr rfl) (XI.oG (XI.oH (XI.cR rfl (XI.fQ (XI.je (z:=⟨_,a,v,d⟩) (S.is ("NoName", false) (by decide) rfl (by decide) _ _ _ _))) (XI.cR rfl (XI.fQ (XI.je (z:=⟨_,a,v,d⟩) (S.is ("Stands", false) (by decide) rfl (by decide) _ _ _ _))) (XI.cR rfl (XI.fQ (XI.je (z:=⟨_,a,v,d⟩) (S.is ("NoKind", false) (by decide) rfl (by decide) _ _ _ _))) (XI.cR rfl (XI.fQ (XI.je (z:=⟨_,a,v,d⟩) (S.is ("Full", false) (by decide) rfl (by decide) _ _ _ _))) (XI.j4)))))))) (XI.dX (XI.lW (j:=5) (show(4:Nat)≠5 by decide) rfl sc.nd rfl (by first|exact Or.inl rfl|exact Or.inr rfl) (XI.Gw (XI.zN (XI.tM (XI.nO (vA 5))) (XI.tM (XI.oG (XI.oH (XI.cR rfl (XI.fQ (XI.je (z:=⟨_,a,v,d⟩) (S.is ("NoGuest", true) (by decide) rfl (by decide) _ _ _ _))) (XI.j4)))))))) (XI.dX (XI.tQ (XI.Q9 (XI.Gy (XI.tO (dZ (wg X.units) Oj (bh (XN.zR (vP 5) (bh (nA)))) iP (eZ _))) (XI.zP (XI.zO (XI.Gx (z:=⟨_,a,v,d⟩) (S.isv q rfl _ _ _ _)))))) (XI.lU (XI.oJ (by decide) (XI.nO (gD (f9 rfl (dq (bN (cM)) (dq (bN (pZ)) dz))))))) (XI.lR)) (XI.dX (XI.tQ (XI.tO (u9 (u6 (iV (d_ (dx (vB 5) iP))) (qd (iV (d_ (dx (vB 5) iP))))))) (XI.pD) (XI.lR)) (XI.lU (XI.oJ (by decide) (XI.zM rfl (XI.cR rfl (XI.nO (d_ (dx (kI (dg (fY (dq (bN (cM)) (dq (bN (cM)) (dq (bN (cM)) (dq (bN (cM)) (dq (bN (cM)) dz)))))))) (bh (XI.Dr (vP 5) (bh (nA))))))) (XI.cR rfl (XI.zQ S) (XI.j4))))))))),sZ _⟩⟩⟩⟩⟩) rfl rfl sc.nd rfl)
  (XI.Q6 (XI.Vo (by decide) (gD (f9 rfl (dq (bN (cM)) (dq (bN (pZ)) dz))))))
def Hi(D:Dg K mg "_law_one" (top 35) ["_law_script", "_law_at", "_law_house", "_law_names_here"])(B:Bl mg)(hHouse:HC_House K)(his_name:Has P w K mg base n "is_name" ["thing"] (spD K cT))(U:Has P w K mg base n "_law_part" ["_law_script", "_law_at", "_law_k", "_law_many"] (spD K bR))(Z:Has P w K mg base n "_law_bad_name" ["_law_script", "_law_at", "_law_name"] (spD K gZ))(h_law_bad_kind:Has P w K mg base n "_law_bad_kind" ["_law_script", "_law_at"] (spD K g8))(mHouse_names:XI.HasM P w K mg base n aR "names" ["self"] (spD K gF))(mHouse_guests:XI.HasM P w K mg base n aR "guests" ["self"] (spD K dO))(Y:XI.HasM P w K mg base n aR "room_of" ["self", "name"] (spD K gb))(O:Has P w K mg base n "_law_seen" ["_law_house"] (spD K iw))(q:Has P w K mg base n "_law_told" ["_law_house", "_law_way", "_law_name", "_law_kind"] (XI.spP K [0] dw)):Has P w K mg base (n+1) "_law_one" ["_law_script", "_law_at", "_law_house", "_law_names_here"] (XI.spW K [2] jw):=by
 have sc:FnScope ["_law_script", "_law_at", "_law_house", "_law_names_here", "_law_name", "_law_here", "_law_way", "_law_kept", "_law_bad", "_law_kind", "_law_asked", "_law_due"] ["_law_script", "_law_at", "_law_house", "_law_names_here"] (aZ (top 35)):=fsc;exact XI.YQ (fl:=[.A,.A,.W,.A,.A,.A,.A,.A,.A,.A,.A,.A]) D sc (by decide) (by decide) (by decide) λf cdv A outer s H E X=>XI.gP (XI.pA (sA (i:=4) sc.nd (dx (vB 3) (gD (cV U X (dq (vP 0) (dq (vP 1) (dq iP (dq iP dz)))))))) (XI.gow XI.jA))
  (XI.gP (XI.pA (sA (i:=5) sc.nd (dg (B_ (O5 X.units) ae0 (vP 4) (gD (XI.nM (ns:=aQ) mHouse_names X (by decide) (jR 2 rfl))) (by with_unfolding_all rfl)))) (XI.gow XI.jA))
  (XI.gP (XI.pA (sA (i:=6) sc.nd (qz (cV U X (dq (vP 0) (dq (vP 1) (dq iP (dq iP dz))))))) (XI.gow XI.jA))
  (XI.gP (XI.pA (sA (i:=7) sc.nd (qz (cV O X (dq (jR 2 rfl) dz)))) (XI.gow XI.jA))
  (XI.gP (XI.pA (sA (i:=8) sc.nd (qz (cV Z X (dq (vP 0) (dq (vP 1) (dq (vP 4) dz)))))) (XI.gow XI.jA))
  (XI.gP (XI.pA (sA (i:=9) sc.nd (qz (cV h_law_bad_kind X (dq (vP 0) (dq (vP 1) dz))))) (XI.gow XI.jA))
  (XI.gP (XI.pA (sA (i:=10) sc.nd (dx (kI (Ey (Cd (dq (f9 rfl (dq (dg (oF)) (dq (vA 8) (dq (dg (oF)) dz)))) (dq (f9 rfl (dq (dg (oF)) (dq (vA 8) (dq (vA 9) dz)))) (dq (f9 rfl (dq (dg (oF)) (dq (vA 4) (dq (vA 9) dz)))) dz)))))) (bh (dH jz oY (vP 6) iP)))) (XI.gow XI.jA))
  (XI.gP (XI.pA (sA (i:=11) sc.nd (dx (kI (Ey (Cd (dq (f9 rfl (dq (dg (cM)) (dq (vA 8) dz))) (dq (f9 rfl (dq (dg (cM)) (dq (vA 8) dz))) (dq (f9 rfl (dq (dg (cM)) (dq (vA 9) dz))) dz)))))) (bh (dH jz oY (vP 6) iP)))) (XI.gow XI.jA))
  (XI.gP (XI.pA (tL (u9 (yX (iV (vP 5)) (u5 (dZ (Ys X.units) ad8 (bh (dH jz oY (vP 6) iP)) iP (eZ _))))) (cI (sA (i:=11) sc.nd (f9 rfl (dq (dg (cM)) (dq (vA 4) dz))))) (kJ)) (XI.gow (XI.W6 XI.jA XI.QX)))
  (XI.gP (XI.pA (tL (u9 (yX (dZ Ww ac9 (vP 6) iP (eZ _)) (u5 (ug (iV (vP 5)))))) (cD (sA (i:=10) sc.nd (f9 rfl (dq (dg (dH XM ac8 (vP 6) iP)) (dq (vA 4) (dq (dg (oF)) dz)))))
  (cI (sA (i:=11) sc.nd (f9 rfl (dq (dg (cM)) (dq (vA 4) dz)))))) (kJ)) (XI.gow (XI.W6 (XI.Za XI.jA XI.jA) XI.QX)))
  (XI.gP (XI.Y_ (XI.tw_w (XI.af9 (XI.tw_cmpP (XI.Zb X.units) XI.ag1 (XI.zL (sw:=[2]) q X (XI.vH (i:=2) rfl rfl (XI.fB (dx (vB 10) iP) (XI.fB (dx (vB 10) iP) (XI.fB (dx (vB 10) iP) (XI.jT))))) (XI.mH rfl)) (vP 11) (eZ _)) (XI.Y9 (XI.tw_of (dZ (Qa X.units) W2 (gD (cV O X (dq (jR 2 rfl) dz))) (vP 7) (eZ _)))))) (XI.vG (XI.I_ (by decide) (bh (nA)))) (XI.CJ))
  (XI.gP (XI.W4 (u9 (u6 (U_ (gD (cV his_name X (dq (vP 8) dz)))) (qd (Ui (gD (cV his_name X (dq (vP 4) dz))))))) (XI.vG (XI.I_ (by decide) (bh (nA)))) (XI.CJ))
  (XI.gP (XI.W4 (iV (vP 5)) (XI.vG (XI.I_ (by decide) (bh (B_ (PN X.units) ae9 (gD (XI.Kp (ns:=aQ) Y X (by decide) (jR 2 rfl) (dq (vP 4) dz))) (gD (XI.nM (ns:=aQ) mHouse_guests X (by decide) (jR 2 rfl))) (by with_unfolding_all rfl))))) (XI.CJ))
  (XI.vG (XI.Ve (by decide) (XI.Vp (O5 X.units) ae0 (XI.Y7 (XI.zL (sw:=[2]) q X (XI.vH (i:=2) rfl rfl (XI.fB (dg (oF)) (XI.fB (vA 4) (XI.fB (dg (oF)) (XI.jT))))) (XI.mH rfl)) iP (λ_ _=>rfl)) (gD (f9 rfl (dq (bN (cM)) (dq (bN (cM)) dz)))) (by with_unfolding_all rfl))))))))))))))))
def aa4{f:Addr}(Fn:FunD K "law" (top 36) f fd)(B:Bl mg)(hHouse:HC_House K)(Y:Has P w K mg base n "_law_part" ["_law_script", "_law_at", "_law_k", "_law_many"] (spD K bR))(q:Has P w K mg base n "_law_rooms" ["_law_script", "_law_at", "_law_most"] (spD K iW))(O:Has P w K mg base n "_law_names" ["_law_script", "_law_at"] (spD K k_)){m0:Nat}(iHouse:XI.HasI P w K mg base m0 "House" aR ["self", "rooms"] (XI.spI K aR aQ jD))(hmn:m0+1<=n)(U:Has P w K mg base n "_law_told" ["_law_house", "_law_way", "_law_name", "_law_kind"] (XI.spP K [0] dw))(Z:Has P w K mg base n "_law_one" ["_law_script", "_law_at", "_law_house", "_law_names_here"] (XI.spW K [2] jw)):FnOk P w K mg base CX0 (n+1) f fd ["_law_script"] (spD K RV):=by
 have sc:FnScope ["_law_script", "_law_rooms_here", "_law_house", "_law_names_here", "_law_k", "_law_at"] ["_law_script"] (aZ (top 36)):=fsc;exact Oz (fl:=[.A,.A,.N,.A,.A,.A]) Fn sc (by decide) (by decide) λf cdv A outer s H E X=>cD (sA (i:=1) sc.nd (Ey (Yo (kI (dg (fY (dq iC dz)))) (kI (qz (cV q X (dq (vP 0) (dq iP (dq iP dz)))))))))
  (cD (J6 (i:=2) rfl sc.nd rfl (by first|exact Or.inl rfl|exact Or.inr rfl) (XI.Vj (ns:=aQ) iHouse (X.mono hmn) (dq (vP 1) dz)))
  (cD (sA (i:=3) sc.nd (qz (cV O X (dq (vP 0) (dq iP dz)))))
  (cD (uf (L:=[]) eB rfl (mX (by rfl) B.range_ (xq (dq iP dz))) (gN' (i:=4) sc.nd) (cI (XI.Q8 (XI.zL (sw:=[2]) U X (XI.vH (i:=2) rfl rfl (XI.fB (dg (oF)) (XI.fB (dx (vB 3) (vP 4)) (XI.fB (dg (dH j_ nZ iP (gD (cV Y X (dq (vP 0) (dq (bh (dH j_ nZ iP (vP 4))) (dq iP (dq iP dz)))))))) (XI.jT))))) (XI.mH rfl)))))
  (cD (uf (L:=[]) eB rfl (A_ (by rfl) B.range_ (xq (dq iP (dq (bh (nC (Lp rfl) Ym (by rfl) B.max_ PyProof.Rows.boot_max (dq iP (dq (bh (nC (Lq rfl) Yn (by rfl) B.min_ PyProof.Rows.boot_min (dq (bh (nC kh E_ (by rfl) B.len_ PySem.boot_len (dq (vP 0) dz))) (dq iP dz)))) dz)))) dz)))) (gN' (i:=5) sc.nd) (cI (XI.YS (XI.tw_not (XI.tw_val (XI.Qw (sw:=[2]) Z X (XI.fB (vA 0) (XI.fB (vA 5) (XI.vH (i:=2) rfl rfl (XI.fB (vA 3) (XI.jT))))) (XI.mH rfl)))) (cI (eE (fJ (nA)))) (kJ))))
  (cI (eE (fJ (nA))))))))
end
end K68
namespace D3
theorem len0{p:List PySem.Value->Prop}(h:p []):∀us,us.length=0->p us:=λus Z=>by
 cases us with
 |nil=>exact h
 |cons _ _=>cases Z
theorem aa5{p:List PySem.Value->Prop}(h:∀a us,us.length=n->p (a::us)):∀us,us.length=n+1->p us:=λus Z=>by
 cases us with
 |nil=>cases Z
 |cons a r=>exact h a r (Nat.succ.inj Z)
end D3
namespace XI
open L2 My D3
variable{k:Nat}{sp:Sp}
def HasM.mono(h:HasM P w K mg base k C m ps sp)(l:k<=n):HasM P w K mg base n C m ps sp:=by
 obtain⟨⟨f,fd,F,b,M⟩,c⟩:=h;exact⟨⟨f,fd,F.mono l,b,M⟩,c⟩
def HasMX.mono(h:HasMX P w K mg base fld k C m ps sp)(l:k<=n):HasMX P w K mg base fld n C m ps sp:=by
 obtain⟨⟨f,fd,F,b,M⟩,c⟩:=h;exact⟨⟨f,fd,F.mono l,b,M⟩,c⟩
def aa6{f:Addr}{kV:Value}(X:K.In h)(G:h.Ns mainGlobals mg)
 (hb:∀(kV doc pm:Value)(an:Option Addr)(cdv ct:Value)(us:List Value),us.length=ps.length->bindArgs (PySem.W.fnOf "__init__" x (kj st) (fu st) (aZ st) .none kV doc pm an cdv ct) ⟨us,[]⟩=pure (ps.zip us))
 (mk:PySem.W.makesIn K C=true) (a:PySem.W.findIn K (.ref C) "__init__"=some (some (.ref f))) (l:K.lookup f=some ⟨oc,od,.func (PySem.W.fnOf "__init__" x (kj st) (fu st) (aZ st) .none kV dc pm an cd ct),sl⟩) (q:PySem.W.codeIn K cd x=true) (fn:PySem.W.isFn K (.ref f)=true) (k:PySem.W.keepIn K (.ref C)=true)
 (g:PySem.W.nsIn K mainGlobals c=some (some (.ref C))):DgI K mg c C x st ps:=
 ⟨⟨f,_,⟨⟨oc,od,.none,kV,dc,pm,an,cd,ct,sl,rfl,l,q⟩⟩,.all (hb kV dc pm an cd ct),⟨mk,a,fn,k⟩⟩,PySem.W.mg_of X G g⟩
end XI
namespace K68
open L2 My D3
structure Txt(K:PySem.W.Frag)(mg:Str->Option Value):Prop where
 d_is_whole:Dg K mg "is_whole" (top 8) ["thing"]
 d_is_whole_within:Dg K mg "is_whole_within" (top 9) ["thing", "least", "most"]
 d_free_from:Dg K mg "free_from" (top 11) ["rooms", "guests", "kind"]
 d_least_wished:Dg K mg "least_wished" (top 12) ["rooms", "guests", "kind"]
 d_falls_of:Dg K mg "falls_of" (top 13) ["rooms", "guests", "kind"]
 d_guest_to_move:Dg K mg "guest_to_move" (top 14) ["rooms", "guests", "kind", "wished"]
 d_moves_by:Dg K mg "moves_by" (top 15) ["rooms", "guests", "falls"]
 d_is_level:Dg K mg "is_level" (top 16) ["rooms", "guests", "level"]
 d_admitted:Dg K mg "admitted" (top 17) ["rooms", "guests", "kind"]
 d_is_name:Dg K mg "is_name" (top 21) ["thing"]
 d__law_cell:Dg K mg "_law_cell" (top 24) ["_law_script", "_law_at"]
 d__law_part:Dg K mg "_law_part" (top 25) ["_law_script", "_law_at", "_law_k", "_law_many"]
 d__law_rooms:Dg K mg "_law_rooms" (top 27) ["_law_script", "_law_at", "_law_most"]
 d__law_names:Dg K mg "_law_names" (top 30) ["_law_script", "_law_at"]
 d__law_bad_name:Dg K mg "_law_bad_name" (top 31) ["_law_script", "_law_at", "_law_name"]
 d__law_bad_kind:Dg K mg "_law_bad_kind" (top 32) ["_law_script", "_law_at"]
 d_House_init:XI.DgI K mg "House" aR "House.__init__" (i_ 22 0) ["self", "rooms"]
 d_House_names:XI.DgM K aR "names" "House.names" (i_ 22 7) ["self"]
 d_House_moved:XI.DgM K aR "moved" "House.moved" (i_ 22 10) ["self"]
 d_House_guests:XI.DgM K aR "guests" "House.guests" (i_ 22 8) ["self"]
 d_House_free:XI.DgM K aR "free" "House.free" (i_ 22 9) ["self"]
 d_House_check_guest:XI.DgM K aR "check_guest" "House.check_guest" (i_ 22 3) ["self", "name"]
 d_House_room_of:XI.DgM K aR "room_of" "House.room_of" (i_ 22 5) ["self", "name"]
 d_House_move_guest:XI.DgM K aR "move_guest" "House.move_guest" (i_ 22 2) ["self", "room", "other"]
 d_House_check_guest_x:XI.DgM K aR "check_guest" "House.check_guest" (i_ 22 3) ["self", "name"]
 d_House_let_in:XI.DgM K aR "let_in" "House.let_in" (i_ 22 1) ["self", "name", "kind"]
 d_House_out:XI.DgM K aR "out" "House.out" (i_ 22 4) ["self", "name"]
 d_House_room_of_x:XI.DgM K aR "room_of" "House.room_of" (i_ 22 5) ["self", "name"]
 d_House_kind_of:XI.DgM K aR "kind_of" "House.kind_of" (i_ 22 6) ["self", "name"]
 d__law_seen:Dg K mg "_law_seen" (top 34) ["_law_house"]
 d__law_told:Dg K mg "_law_told" (top 33) ["_law_house", "_law_way", "_law_name", "_law_kind"]
 d__law_one:Dg K mg "_law_one" (top 35) ["_law_script", "_law_at", "_law_house", "_law_names_here"]
 d_law:Dl K mg "law" "_law_script" (top 36)
 c_House:HC_House K
 s_NoName:XC.SuiU K mg (λC=>if C=44 then "kind"else if C=120 then "name"else if C=63 then "kind"else if C=82 then "name"else if C=101 then "name"else "") "NoName" "name" "InnError" [("NoName", true),("Stands", false),("NoKind", false),("Full", false),("NoGuest", false)]
 s_Stands:XC.SuiU K mg (λC=>if C=44 then "kind"else if C=120 then "name"else if C=63 then "kind"else if C=82 then "name"else if C=101 then "name"else "") "Stands" "name" "InnError" [("NoName", false),("Stands", true),("NoKind", false),("Full", false),("NoGuest", false)]
 s_NoKind:XC.SuiU K mg (λC=>if C=44 then "kind"else if C=120 then "name"else if C=63 then "kind"else if C=82 then "name"else if C=101 then "name"else "") "NoKind" "kind" "InnError" [("NoName", false),("Stands", false),("NoKind", true),("Full", false),("NoGuest", false)]
 s_Full:XC.SuiU K mg (λC=>if C=44 then "kind"else if C=120 then "name"else if C=63 then "kind"else if C=82 then "name"else if C=101 then "name"else "") "Full" "kind" "InnError" [("NoName", false),("Stands", false),("NoKind", false),("Full", true),("NoGuest", false)]
 s_NoGuest:XC.SuiU K mg (λC=>if C=44 then "kind"else if C=120 then "name"else if C=63 then "kind"else if C=82 then "name"else if C=101 then "name"else "") "NoGuest" "name" "InnError" [("NoName", false),("Stands", false),("NoKind", false),("Full", false),("NoGuest", true)]
 v_ValueError:mg "ValueError"=none
 g_MOST_SIGNS:∃t,mg "MOST_SIGNS"=some (.int 8 t)
 g_BEST_KIND:∃t,mg "BEST_KIND"=some (.int 4 t)
 blt:Bl mg
def aa7(T:Txt K mg){f:Addr}{fd:d4}(F:FunD K "law" (top 36) f fd):FnOk P w K mg base CX0 65 f fd ["_law_script"] (OD K):=by
 have s:=G9 (P:=P) (w:=w) (base:=base) (n:=0) T.d_is_whole T.blt;have Q:=uH (P:=P) (w:=w) (base:=base) (n:=1) T.d_is_whole_within T.blt (s.mono (by decide));have N:=DX (P:=P) (w:=w) (base:=base) (n:=0) T.d_free_from T.blt;have G:=xV (P:=P) (w:=w) (base:=base) (n:=0) T.d_least_wished T.blt;have q:=G_ (P:=P) (w:=w) (base:=base) (n:=1) T.d_falls_of T.blt (N.mono (by decide)) (G.mono (by decide));have L:=wO (P:=P) (w:=w) (base:=base) (n:=0) T.d_guest_to_move T.blt;have t:=Hf (P:=P) (w:=w) (base:=base) (n:=1) T.d_moves_by T.blt (N.mono (by decide)) (L.mono (by decide));have r:=Hg (P:=P) (w:=w) (base:=base) (n:=0) T.d_is_level T.blt;have p:=Hh (P:=P) (w:=w) (base:=base) (n:=2) T.d_admitted T.blt (q.mono (by decide)) (t.mono (by decide)) (r.mono (by decide));have V:=Jw (P:=P) (w:=w) (base:=base) (n:=0) T.d_is_name T.blt T.g_MOST_SIGNS;have v:=DY (P:=P) (w:=w) (base:=base) (n:=0) T.d__law_cell T.blt;have Y:=D_ (P:=P) (w:=w) (base:=base) (n:=1) T.d__law_part T.blt (v.mono (by decide));have B:=Ai (P:=P) (w:=w) (base:=base) (n:=2) T.d__law_rooms T.blt (Y.mono (by decide));have A:=Aj (P:=P) (w:=w) (base:=base) (n:=2) T.d__law_names T.blt (Y.mono (by decide));have J:=wQ (P:=P) (w:=w) (base:=base) (n:=2) T.d__law_bad_name T.blt (Y.mono (by decide));have I:=wR (P:=P) (w:=w) (base:=base) (n:=2) T.d__law_bad_kind T.blt (Y.mono (by decide));have z:=Ak (P:=P) (w:=w) (base:=base) (n:=0) T.d_House_init T.blt T.c_House;have U:=z8 (P:=P) (w:=w) (base:=base) (n:=0) T.d_House_names T.blt T.c_House;have D:=z9 (P:=P) (w:=w) (base:=base) (n:=0) T.d_House_moved T.blt T.c_House;have X:=xW (P:=P) (w:=w) (base:=base) (n:=0) T.d_House_guests T.blt T.c_House;have y:=Al (P:=P) (w:=w) (base:=base) (n:=0) T.d_House_free T.blt T.c_House;have S:=su (P:=P) (w:=w) (base:=base) (n:=1) T.d_House_check_guest T.blt T.c_House (V.mono (by decide));have W:=wU (P:=P) (w:=w) (base:=base) (n:=2) T.d_House_room_of T.blt T.c_House (S.mono (by decide));have R:=tK (P:=P) (w:=w) (base:=base) (n:=0) T.d_House_move_guest T.blt T.c_House;have Z:=qu (P:=P) (w:=w) (base:=base) (fld:=(λC=>if C=44 then "kind"else if C=120 then "name"else if C=63 then "kind"else if C=82 then "name"else if C=101 then "name"else "")) (n:=0) T.d_House_check_guest_x T.blt T.c_House (V.mono (by decide)) (XC.SuiU.up T.s_NoGuest);have E:=xX (P:=P) (w:=w) (base:=base) (fld:=(λC=>if C=44 then "kind"else if C=120 then "name"else if C=63 then "kind"else if C=82 then "name"else if C=101 then "name"else "")) (n:=1) T.d_House_let_in T.blt T.c_House (Q.mono (by decide)) (p.mono (by decide)) (V.mono (by decide)) T.g_BEST_KIND (X.mono (by decide)) (R.mono (by decide)) (XC.SuiU.up T.s_NoName) (XC.SuiU.up T.s_Stands) (XC.SuiU.up T.s_NoKind) (XC.SuiU.up T.s_Full);have u:=Ea (P:=P) (w:=w) (base:=base) (fld:=(λC=>if C=44 then "kind"else if C=120 then "name"else if C=63 then "kind"else if C=82 then "name"else if C=101 then "name"else "")) (n:=1) T.d_House_out T.blt T.c_House (Z.mono (by decide));have O:=uI (P:=P) (w:=w) (base:=base) (fld:=(λC=>if C=44 then "kind"else if C=120 then "name"else if C=63 then "kind"else if C=82 then "name"else if C=101 then "name"else "")) (n:=1) T.d_House_room_of_x T.blt T.c_House (Z.mono (by decide));have H:=wV (P:=P) (w:=w) (base:=base) (fld:=(λC=>if C=44 then "kind"else if C=120 then "name"else if C=63 then "kind"else if C=82 then "name"else if C=101 then "name"else "")) (n:=1) T.d_House_kind_of T.blt T.c_House (Z.mono (by decide));have x:=Eb (P:=P) (w:=w) (base:=base) (n:=1) T.d__law_seen T.blt T.c_House (U.mono (by decide)) (D.mono (by decide)) (X.mono (by decide)) (y.mono (by decide));have M:=Ec (P:=P) (w:=w) (base:=base) (fld:=(λC=>if C=44 then "kind"else if C=120 then "name"else if C=63 then "kind"else if C=82 then "name"else if C=101 then "name"else "")) (n:=4) T.d__law_told T.blt T.c_House (W.mono (by decide)) (E.mono (by decide)) (u.mono (by decide)) (O.mono (by decide)) (H.mono (by decide)) T.s_NoName T.s_Stands T.s_NoKind T.s_Full T.s_NoGuest T.v_ValueError;have o:=Hi (P:=P) (w:=w) (base:=base) (n:=5) T.d__law_one T.blt T.c_House (V.mono (by decide)) (Y.mono (by decide)) (J.mono (by decide)) (I.mono (by decide)) (U.mono (by decide)) (X.mono (by decide)) (W.mono (by decide)) (x.mono (by decide)) (M.mono (by decide));exact((aa4 (P:=P) (w:=w) (base:=base) (n:=6) F T.blt T.c_House (Y.mono (by decide)) (B.mono (by decide)) (A.mono (by decide)) z (by decide) (M.mono (by decide)) (o.mono (by decide))).mono (by decide)).imp (Ug K68.SX)
end K68
namespace PySem.W.Fast
def tw92820953221197743:=0
def tw17218137336471096198:=0
def tw12011188598757757005:=0
def tw17121462119464902103:=0
def tw1567184733815579376:=0
def tw15180076076155573487:=0
def tw11125490775164186691:=0
def tw15945787178129692444:=0
def tw7719936812466778051:=0
def tw1211025638380636108:=0
def tw18416536060488308574:=0
def tw10389835757031037401:=0
def tw11859652649906001624:=0
def tw13230280176258321290:=0
def tw9599278237228558492:=0
def tw6194764840913086005:=0
def tw16145417401766986276:=0
def tw16437143274915076235:=0
def tw18160420979809485920:=0
def tw1632440692496046753:=0
def tw4555732296783279744:=0
def tw6744340438711208706:=0
def tw6192499941277389370:=0
def tw12164492867529025744:=0
def tw10682278353755032605:=0
def tw5916716961554069151:=0
def tw17198618365175988860:=0
def tw11858966178642996180:=0
def tw5646370575271124680:=0
def tw9610263784536475512:=0
def tw9486362929646190471:=0
def tw10534777578717734944:=0
def tw3753572398207094626:=0
def tw15460816532979786592:=0
def tw14239752218550505544:=0
def tw10368603006262577197:=0
def tw7691950380146965701:=0
def tw10549651117643193136:=0
def tw12680829703187825969:=0
def tw2810112589395184609:=0
def tw17134359141135617021:=0
def tw16531266137333178441:=0
def tw12873487027565189873:=0
def tw3742925045952877788:=0
def tw5053552015031766279:=0
def tw14044903282083454966:=0
def tw9621059517964464928:=0
def tw18204557387228655059:=0
def tw6963190636233484110:=0
def tw8616599634647420752:=0
def tw6902729893352644609:=0
def tw12096527302166373713:=0
def tw5925210097891078191:=0
def tw6405123833073464683:=0
def tw7960539399966482896:=0
def tw4710048012618525947:=0
def tw9192811356992578140:=0
def tw14494468667309177380:=0
def tw3845456597515228558:=0
def tw7010725148841180167:=0
def tw4149501280440765372:=0
def tw15564519727387558705:=0
def tw9738120372642996314:=0
def tw15590256566853230360:=0
def tw4994595701833495907:=0
def tw5415833988652924899:=0
def tw4206419980027268345:=0
def tw10106444859179698962:=0
def tw4609618964492229933:=0
def tw16685656712985706651:=0
def tw15981764177889148549:=0
def tw4034891254721913416:=0
def tw9097454959051264284:=0
def tw3292018107257847474:=0
def tw8421388620321706506:=0
def tw13032261298593976470:=0
def tw6898642551721487638:=0
def tw13840405152422511812:=0
def tw9982456088679847940:=0
def tw14530531978185528291:=0
def tw18434049767834785309:=0
def tw1800786720778740310:=0
def tw7287269211993463219:=0
def tw18006433041403348286:=0
def tw6611603774834479624:=0
def tw14362403327642805990:=0
def tw2199127462963197426:=0
def tw455857824420752868:=0
def tw5943326846932186698:=0
def tw12091214252175643495:=0
def tw13343862607096263123:=0
def tw8994219886728465004:=0
def tw2448092752686499869:=0
def tw3162597310365554266:=0
def tw12179698392645313921:=0
def tw17075716149760589958:=0
def tw4248918927608163250:=0
def tw416571230232892310:=0
def tw10117712667539253484:=0
def tw11305123216813947210:=0
def tw7552302553621315224:=0
def tw3466686828716338935:=0
def tw17851782275877034179:=0
def tw9669131046940988643:=0
def tw4487096969273955790:=0
def tw17568579399477516103:=0
def tw7834927516460579528:=0
def tw139254263804399267:=0
def tw12951528449156109034:=0
def tw10660203998827353164:=0
def tw15397495185620411903:=0
def tw9931124051862928098:=0
def tw8887141192636364458:=0
def tw12765422415188201205:=0
def tw6366373329300100122:=0
def tw16860912942356407427:=0
def tw10139581646106449896:=0
def tw6670219255937422557:=0
def tw16078231326690376899:=0
def tw6080826321504814437:=0
def tw9629804441008413082:=0
def tw13372786013498088246:=0
def tw4096253686127938779:=0
def tw15093253946037117081:=0
def tw6931865655255101096:=0
def tw17972569699359332804:=0
def tw4188998962112934240:=0
def tw10976775095707260763:=0
def tw996985442111707683:=0
def tw4785834921788087157:=0
def tw15791501271608825742:=0
def tw208554184037131933:=0
def tw9512840083780889172:=0
def tw4456128941336858916:=0
def tw9674757130339614529:=0
def tw9705204756738942161:=0
def tw9233559342164240328:=0
def tw17944701686413798740:=0
def tw4965334252300024935:=0
def tw12258769964667153575:=0
def tw13249649708794081948:=0
def tw7638409790941443176:=0
def tw243358078608550929:=0
def tw15928442698863303625:=0
def tw8775485367293390393:=0
def tw7646223062001520849:=0
def tw3991925227308694734:=0
def tw18287912199319540143:=0
def tw10453399319947315019:=0
def tw7981250732748339235:=0
def tw10345053437279544215:=0
def tw3851326519474162333:=0
def tw3181091176453207856:=0
def tw5840528657280332689:=0
def tw11595209748088974371:=0
def tw3267176004401977641:=0
def tw7150661480870527375:=0
def tw13942383123745357080:=0
def tw16467497179883970985:=0
def tw3190578712930611493:=0
def tw16060056159813616995:=0
def tw13405477833243481984:=0
def tw10597099186947694315:=0
def tw17677511436292022697:=0
def tw10695625456993049653:=0
def tw2518914585828852732:=0
def tw15711495922789060263:=0
def tw1835959075228699702:=0
def tw737969514848064810:=0
def tw10547049364224918968:=0
def tw3542390756101514675:=0
def tw17489875570346232014:=0
def tw9486406765804293727:=0
def tw989656780634764146:=0
def tw15112393973827697418:=0
def tw12607306673641350201:=0
def tw10700590739249463646:=0
def tw1011618969597542765:=0
def tw5043643577808143558:=0
def tw3785801002139499140:=0
def tw10842799381201485329:=0
def tw14784995637846146917:=0
def tw17046068272782248472:=0
def tw664939329965496841:=0
def tw17396529099434893083:=0
def tw10988025079001326479:=0
def tw17208548306958299785:=0
def tw16606713749303633309:=0
def tw7604194403057891857:=0
def tw12127606517972205419:=0
def tw4189951264511818781:=0
def tw1901619693947194986:=0
def tw2939366126050640125:=0
def tw6732332568582703511:=0
def tw1226563026928629903:=0
def tw17638044866376214112:=0
def tw13190400084699073028:=0
def tw15198873334795505352:=0
def tw8319000927420401265:=0
def tw2910819238667047565:=0
def tw9052610126707040624:=0
def tw15496613944520714813:=0
def tw6725322948083601756:=0
def tw10591695840563121705:=0
def tw1466319789356185887:=0
def tw409912104193008694:=0
def tw11666671258391227326:=0
def tw12457662992851203447:=0
def tw13958503750746908731:=0
def tw8697525293520734899:=0
def tw1200407205403909886:=0
def tw1749371315701191986:=0
def tw4868390796490252977:=0
def tw15633810556367113861:=0
def tw3060497435672621079:=0
def tw2898525447855522627:=0
def tw16925601792408902049:=0
def tw4264321529645480692:=0
def tw10719738849862664409:=0
def tw10445351765244236242:=0
def tw11304391781777631548:=0
def tw3434872813059948556:=0
def tw11795555033975633161:=0
def tw2519788557048713815:=0
def tw10937924093692228060:=0
def tw6061224321786187054:=0
def tw6539637579013647234:=0
def tw7230459652202728669:=0
def tw10670131433330207627:=0
def tw6531467685504432797:=0
def tw15849487745157423267:=0
def tw5779860200235679572:=0
def tw11857206534907709520:=0
def tw16144515375899371943:=0
def tw13546972839621025042:=0
def tw13129804208740106799:=0
def tw10956534127302969704:=0
def tw4945190222869419144:=0
def tw8269000411672932617:=0
def tw8287089621389991104:=0
def tw16306309113326109975:=0
end PySem.W.Fast
open PySem PySem.W PyProof.Rows
set_option maxRecDepth 100000 in
set_option maxHeartbeats 0 in
theorem PySem.Challenge.cw_nightbook_k68_house_refuses_holds : PySem.Challenge.rw_nightbook_k68_house_refuses.Holds := by
 w_on;o_law;k_head;(case hw=>w_witness2)
 k_fill
 refine L2.N8 (l:=PySem.Challenge.rw_nightbook_k68_house_refuses) (n:=63) (k:=65) (x := "_law_script") (CX:=L2.CX0) (sp:=D3.OD) rfl (by decide) rfl ⟨rfl,by decide,by decide⟩ (λw h Y=>PySem.W.kIn_of Y) ?F D3.tabs (λ_ _ _=>⟨(λ_ h=>nomatch (show _∈([]:List (Addr×Str×Pos))from h)),(λ_ h=>nomatch (show _∈([]:List (Addr×Str×Pos))from h)),(λ_ h=>nomatch (show _∈([]:List (Addr×Str×Pos))from h))⟩) (λ_ h=>nomatch (show _∈([]:List (Addr×Str×Pos))from h)) ?S ?C
 case F=>
  intro w mg fa h Z G X;have T:K68.Txt (L2.KOf Z) mg:=by
   constructor
   (case blt=>constructor<;>(refine' PySem.W.mg_none_of Z G ?z;(case z=>k_is)))
   all_goals try dsimp only[L2.KOf]
   case s_NoName=>(refine' XC.vm (XC.zc Z G ?a_0 ?kp_0 ?lC_0 ?lI_0 ?lN_0 ?oN_0 ?lNI_0 ?oNI_0 ?i1_0 ?i2_0 ?s1_0 ?s2_0 ?n1_0 ?n2_0 ?hB_0 ?lk_0 ?hcd_0 ?sc_0 ?l1_0 ?l2_0 ?hb_0 ?ne_0 ?nd_0 ?nc_0) ?fc_0 (PySem.W.mg_of Z G ?m_0) ⟨⟨?e1_0,?e2_0,?e3_0⟩,?k2_0,?k3_0,?k4_0,?k5_0,?k6_0⟩ ⟨⟨?e4_0,?e5_0,?e6_0⟩,?a2_0,?a3_0⟩ (XC.dh (PySem.W.mg_of Z G ?t0_0) ?r0_0 (XC.dh (PySem.W.mg_of Z G ?t1_0) ?r1_0 (XC.dh (PySem.W.mg_of Z G ?t2_0) ?r2_0 (XC.dh (PySem.W.mg_of Z G ?t3_0) ?r3_0 (XC.dh (PySem.W.mg_of Z G ?t4_0) ?r4_0 XC.vh)))));(case a_0=>k_is);(case kp_0=>k_is);(case lC_0=>k_is);(case lI_0=>k_is);(case lN_0=>k_is);(case lNI_0=>k_is);(case oN_0=>rfl);(case oNI_0=>rfl);(case i1_0=>k_is);(case i2_0=>k_is);(case s1_0=>k_is);(case s2_0=>k_is);(case n1_0=>k_is);(case n2_0=>k_is);(case hB_0=>rw[a_,az];kernel_rfl);(case lk_0=>k_is);(case hcd_0=>k_is);(case sc_0=>exact⟨rfl,rfl,rfl,by decide +kernel,rfl,by decide +kernel,by decide +kernel⟩);(case l1_0=>rfl);(case l2_0=>rfl);(case hb_0=>exact λ_ _=>rfl);(case ne_0=>decide);(case nd_0=>decide);(case nc_0=>decide);(case m_0=>k_is);(case fc_0=>rfl);(case t0_0=>k_is);(case t1_0=>k_is);(case t2_0=>k_is);(case t3_0=>k_is);(case t4_0=>k_is);(case e1_0=>kernel_rfl);(case e2_0=>kernel_rfl);(case e3_0=>kernel_rfl);(case k2_0=>kernel_rfl);(case k3_0=>kernel_rfl);(case k4_0=>kernel_rfl);(case k5_0=>kernel_rfl);(case k6_0=>kernel_rfl);(case e4_0=>kernel_rfl);(case e5_0=>kernel_rfl);(case e6_0=>kernel_rfl);(case a2_0=>kernel_rfl);(case a3_0=>kernel_rfl);(case r0_0=>kernel_rfl);(case r1_0=>kernel_rfl);(case r2_0=>kernel_rfl);(case r3_0=>kernel_rfl);(case r4_0=>kernel_rfl))
   case s_Stands=>(refine' XC.vm (XC.zc Z G ?a_1 ?kp_1 ?lC_1 ?lI_1 ?lN_1 ?oN_1 ?lNI_1 ?oNI_1 ?i1_1 ?i2_1 ?s1_1 ?s2_1 ?n1_1 ?n2_1 ?hB_1 ?lk_1 ?hcd_1 ?sc_1 ?l1_1 ?l2_1 ?hb_1 ?ne_1 ?nd_1 ?nc_1) ?fc_1 (PySem.W.mg_of Z G ?m_1) ⟨⟨?e1_1,?e2_1,?e3_1⟩,?k2_1,?k3_1,?k4_1,?k5_1,?k6_1⟩ ⟨⟨?e4_1,?e5_1,?e6_1⟩,?a2_1,?a3_1⟩ (XC.dh (PySem.W.mg_of Z G ?t0_1) ?r0_1 (XC.dh (PySem.W.mg_of Z G ?t1_1) ?r1_1 (XC.dh (PySem.W.mg_of Z G ?t2_1) ?r2_1 (XC.dh (PySem.W.mg_of Z G ?t3_1) ?r3_1 (XC.dh (PySem.W.mg_of Z G ?t4_1) ?r4_1 XC.vh)))));(case a_1=>k_is);(case kp_1=>k_is);(case lC_1=>k_is);(case lI_1=>k_is);(case lN_1=>k_is);(case lNI_1=>k_is);(case oN_1=>rfl);(case oNI_1=>rfl);(case i1_1=>k_is);(case i2_1=>k_is);(case s1_1=>k_is);(case s2_1=>k_is);(case n1_1=>k_is);(case n2_1=>k_is);(case hB_1=>rw[a_,az];kernel_rfl);(case lk_1=>k_is);(case hcd_1=>k_is);(case sc_1=>exact⟨rfl,rfl,rfl,by decide +kernel,rfl,by decide +kernel,by decide +kernel⟩);(case l1_1=>rfl);(case l2_1=>rfl);(case hb_1=>exact λ_ _=>rfl);(case ne_1=>decide);(case nd_1=>decide);(case nc_1=>decide);(case m_1=>k_is);(case fc_1=>rfl);(case t0_1=>k_is);(case t1_1=>k_is);(case t2_1=>k_is);(case t3_1=>k_is);(case t4_1=>k_is);(case e1_1=>kernel_rfl);(case e2_1=>kernel_rfl);(case e3_1=>kernel_rfl);(case k2_1=>kernel_rfl);(case k3_1=>kernel_rfl);(case k4_1=>kernel_rfl);(case k5_1=>kernel_rfl);(case k6_1=>kernel_rfl);(case e4_1=>kernel_rfl);(case e5_1=>kernel_rfl);(case e6_1=>kernel_rfl);(case a2_1=>kernel_rfl);(case a3_1=>kernel_rfl);(case r0_1=>kernel_rfl);(case r1_1=>kernel_rfl);(case r2_1=>kernel_rfl);(case r3_1=>kernel_rfl);(case r4_1=>kernel_rfl))
   case s_NoKind=>(refine' XC.vm (XC.zc Z G ?a_2 ?kp_2 ?lC_2 ?lI_2 ?lN_2 ?oN_2 ?lNI_2 ?oNI_2 ?i1_2 ?i2_2 ?s1_2 ?s2_2 ?n1_2 ?n2_2 ?hB_2 ?lk_2 ?hcd_2 ?sc_2 ?l1_2 ?l2_2 ?hb_2 ?ne_2 ?nd_2 ?nc_2) ?fc_2 (PySem.W.mg_of Z G ?m_2) ⟨⟨?e1_2,?e2_2,?e3_2⟩,?k2_2,?k3_2,?k4_2,?k5_2,?k6_2⟩ ⟨⟨?e4_2,?e5_2,?e6_2⟩,?a2_2,?a3_2⟩ (XC.dh (PySem.W.mg_of Z G ?t0_2) ?r0_2 (XC.dh (PySem.W.mg_of Z G ?t1_2) ?r1_2 (XC.dh (PySem.W.mg_of Z G ?t2_2) ?r2_2 (XC.dh (PySem.W.mg_of Z G ?t3_2) ?r3_2 (XC.dh (PySem.W.mg_of Z G ?t4_2) ?r4_2 XC.vh)))));(case a_2=>k_is);(case kp_2=>k_is);(case lC_2=>k_is);(case lI_2=>k_is);(case lN_2=>k_is);(case lNI_2=>k_is);(case oN_2=>rfl);(case oNI_2=>rfl);(case i1_2=>k_is);(case i2_2=>k_is);(case s1_2=>k_is);(case s2_2=>k_is);(case n1_2=>k_is);(case n2_2=>k_is);(case hB_2=>rw[a_,az];kernel_rfl);(case lk_2=>k_is);(case hcd_2=>k_is);(case sc_2=>exact⟨rfl,rfl,rfl,by decide +kernel,rfl,by decide +kernel,by decide +kernel⟩);(case l1_2=>rfl);(case l2_2=>rfl);(case hb_2=>exact λ_ _=>rfl);(case ne_2=>decide);(case nd_2=>decide);(case nc_2=>decide);(case m_2=>k_is);(case fc_2=>rfl);(case t0_2=>k_is);(case t1_2=>k_is);(case t2_2=>k_is);(case t3_2=>k_is);(case t4_2=>k_is);(case e1_2=>kernel_rfl);(case e2_2=>kernel_rfl);(case e3_2=>kernel_rfl);(case k2_2=>kernel_rfl);(case k3_2=>kernel_rfl);(case k4_2=>kernel_rfl);(case k5_2=>kernel_rfl);(case k6_2=>kernel_rfl);(case e4_2=>kernel_rfl);(case e5_2=>kernel_rfl);(case e6_2=>kernel_rfl);(case a2_2=>kernel_rfl);(case a3_2=>kernel_rfl);(case r0_2=>kernel_rfl);(case r1_2=>kernel_rfl);(case r2_2=>kernel_rfl);(case r3_2=>kernel_rfl);(case r4_2=>kernel_rfl))
   case s_Full=>(refine' XC.vm (XC.zc Z G ?a_3 ?kp_3 ?lC_3 ?lI_3 ?lN_3 ?oN_3 ?lNI_3 ?oNI_3 ?i1_3 ?i2_3 ?s1_3 ?s2_3 ?n1_3 ?n2_3 ?hB_3 ?lk_3 ?hcd_3 ?sc_3 ?l1_3 ?l2_3 ?hb_3 ?ne_3 ?nd_3 ?nc_3) ?fc_3 (PySem.W.mg_of Z G ?m_3) ⟨⟨?e1_3,?e2_3,?e3_3⟩,?k2_3,?k3_3,?k4_3,?k5_3,?k6_3⟩ ⟨⟨?e4_3,?e5_3,?e6_3⟩,?a2_3,?a3_3⟩ (XC.dh (PySem.W.mg_of Z G ?t0_3) ?r0_3 (XC.dh (PySem.W.mg_of Z G ?t1_3) ?r1_3 (XC.dh (PySem.W.mg_of Z G ?t2_3) ?r2_3 (XC.dh (PySem.W.mg_of Z G ?t3_3) ?r3_3 (XC.dh (PySem.W.mg_of Z G ?t4_3) ?r4_3 XC.vh)))));(case a_3=>k_is);(case kp_3=>k_is);(case lC_3=>k_is);(case lI_3=>k_is);(case lN_3=>k_is);(case lNI_3=>k_is);(case oN_3=>rfl);(case oNI_3=>rfl);(case i1_3=>k_is);(case i2_3=>k_is);(case s1_3=>k_is);(case s2_3=>k_is);(case n1_3=>k_is);(case n2_3=>k_is);(case hB_3=>rw[a_,az];kernel_rfl);(case lk_3=>k_is);(case hcd_3=>k_is);(case sc_3=>exact⟨rfl,rfl,rfl,by decide +kernel,rfl,by decide +kernel,by decide +kernel⟩);(case l1_3=>rfl);(case l2_3=>rfl);(case hb_3=>exact λ_ _=>rfl);(case ne_3=>decide);(case nd_3=>decide);(case nc_3=>decide);(case m_3=>k_is);(case fc_3=>rfl);(case t0_3=>k_is);(case t1_3=>k_is);(case t2_3=>k_is);(case t3_3=>k_is);(case t4_3=>k_is);(case e1_3=>kernel_rfl);(case e2_3=>kernel_rfl);(case e3_3=>kernel_rfl);(case k2_3=>kernel_rfl);(case k3_3=>kernel_rfl);(case k4_3=>kernel_rfl);(case k5_3=>kernel_rfl);(case k6_3=>kernel_rfl);(case e4_3=>kernel_rfl);(case e5_3=>kernel_rfl);(case e6_3=>kernel_rfl);(case a2_3=>kernel_rfl);(case a3_3=>kernel_rfl);(case r0_3=>kernel_rfl);(case r1_3=>kernel_rfl);(case r2_3=>kernel_rfl);(case r3_3=>kernel_rfl);(case r4_3=>kernel_rfl))
   case s_NoGuest=>(refine' XC.vm (XC.zc Z G ?a_4 ?kp_4 ?lC_4 ?lI_4 ?lN_4 ?oN_4 ?lNI_4 ?oNI_4 ?i1_4 ?i2_4 ?s1_4 ?s2_4 ?n1_4 ?n2_4 ?hB_4 ?lk_4 ?hcd_4 ?sc_4 ?l1_4 ?l2_4 ?hb_4 ?ne_4 ?nd_4 ?nc_4) ?fc_4 (PySem.W.mg_of Z G ?m_4) ⟨⟨?e1_4,?e2_4,?e3_4⟩,?k2_4,?k3_4,?k4_4,?k5_4,?k6_4⟩ ⟨⟨?e4_4,?e5_4,?e6_4⟩,?a2_4,?a3_4⟩ (XC.dh (PySem.W.mg_of Z G ?t0_4) ?r0_4 (XC.dh (PySem.W.mg_of Z G ?t1_4) ?r1_4 (XC.dh (PySem.W.mg_of Z G ?t2_4) ?r2_4 (XC.dh (PySem.W.mg_of Z G ?t3_4) ?r3_4 (XC.dh (PySem.W.mg_of Z G ?t4_4) ?r4_4 XC.vh)))));(case a_4=>k_is);(case kp_4=>k_is);(case lC_4=>k_is);(case lI_4=>k_is);(case lN_4=>k_is);(case lNI_4=>k_is);(case oN_4=>rfl);(case oNI_4=>rfl);(case i1_4=>k_is);(case i2_4=>k_is);(case s1_4=>k_is);(case s2_4=>k_is);(case n1_4=>k_is);(case n2_4=>k_is);(case hB_4=>rw[a_,az];kernel_rfl);(case lk_4=>k_is);(case hcd_4=>k_is);(case sc_4=>exact⟨rfl,rfl,rfl,by decide +kernel,rfl,by decide +kernel,by decide +kernel⟩);(case l1_4=>rfl);(case l2_4=>rfl);(case hb_4=>exact λ_ _=>rfl);(case ne_4=>decide);(case nd_4=>decide);(case nc_4=>decide);(case m_4=>k_is);(case fc_4=>rfl);(case t0_4=>k_is);(case t1_4=>k_is);(case t2_4=>k_is);(case t3_4=>k_is);(case t4_4=>k_is);(case e1_4=>kernel_rfl);(case e2_4=>kernel_rfl);(case e3_4=>kernel_rfl);(case k2_4=>kernel_rfl);(case k3_4=>kernel_rfl);(case k4_4=>kernel_rfl);(case k5_4=>kernel_rfl);(case k6_4=>kernel_rfl);(case e4_4=>kernel_rfl);(case e5_4=>kernel_rfl);(case e6_4=>kernel_rfl);(case a2_4=>kernel_rfl);(case a3_4=>kernel_rfl);(case r0_4=>kernel_rfl);(case r1_4=>kernel_rfl);(case r2_4=>kernel_rfl);(case r3_4=>kernel_rfl);(case r4_4=>kernel_rfl))
   all_goals first
    | (refine' D3.ad4 Z G ?b ?a ?l ?c ?k;(case a=>k_is);(case l=>k_is);(case c=>k_is);(case k=>k_is);(case b=>intro _ _ _ _ _ _;repeat(first|exact D3.len0 rfl|exact D3.len0 ⟨_,rfl,rfl⟩|refine D3.aa5 λ_=>?_)))
    | (refine' D3.ad5 Z G ?b ?a ?l ?c ?k;(case a=>k_is);(case l=>k_is);(case c=>k_is);(case k=>k_is);(case b=>exact λ_ _ _ _ _ _ u=>rfl))
    | (refine' XI.YW ?b ?a ?l ?c ?f ?k;(case a=>k_is);(case l=>k_is);(case c=>k_is);(case k=>k_is);(case f=>k_is);(case b=>intro _ _ _ _ _ _;repeat(first|exact D3.len0 rfl|exact D3.len0 ⟨_,rfl,rfl⟩|refine D3.aa5 λ_=>?_)))
    | (refine' XI.aa6 Z G ?b ?mk ?a ?l ?c ?f ?k ?g;(case a=>k_is);(case l=>k_is);(case c=>k_is);(case k=>k_is);(case mk=>k_is);(case f=>k_is);(case g=>k_is);(case b=>intro _ _ _ _ _ _;repeat(first|exact D3.len0 rfl|exact D3.len0 ⟨_,rfl,rfl⟩|refine D3.aa5 λ_=>?_)))
    | (refine' PySem.W.mg_none_of Z G ?z;(case z=>k_is))
    | (exact⟨_,PySem.W.mg_of Z G rfl⟩)
    | (refine'⟨⟨?q1,?q2,?q3,?q4⟩,?r1,?r2,?r3,?r4⟩<;>(first|kernel_rfl|(show PySem.W.findIn _ _ _=_;kernel_rfl)))
  obtain⟨f,fd,F,b,m⟩:=T.d_law.ex;have Q:=X.symm.trans m
  cases Q;exact⟨fd,b,λbase O P=>K68.aa7 T F⟩
 case S=>exact λK H a ns V R U=>⟨a,ns,R,rfl,U,V,λ_=>rfl⟩
 case C=>exact λ_ _ _ _ z=>z
