import PyProof.Rows.All
import Wide.All
import OpenK.AllK
import Wide.FinOn
import Lean
import PyProof.EqAt
import PyProof.EqKinds
import PyProof.TupleCall
import PyProof.EqLayable
import PyProof.NsDelKeeps
import KE.KIsAll
import PyProof.ExcAttrAll.ValueError
import PyProof.ExcInit
import PyProof.ExcClass2
import PyProof.InstStore
import PyProof.RaisesMany
import PyProof.RulesTry
import PyProof.ExcBaseAll.ValueError
import PyProof.InstStoreFacts
import PyProof.RulesAs
import KE.KSortTup
import PyProof.AttrMissHeap
import KE.KDictOf
import KE.KDictSum
import PyProof.Rows.SortWalk
import PyProof.NeKinds
import PyProof.DictWalks
import KE.KMinBuiltin
import PyProof.Rows.CountFlat
import PyProof.CallStr
import Wide.Seal
import KE.KDictLaws
import KE.KLam
import KE.KNestM
import PySem.Challenge.RW_nightbook_k48_asked_wrongly
set_option Elab.async false
set_option linter.all false
set_option maxRecDepth 100000
set_option maxHeartbeats 4000000
set_option exponentiation.threshold 40000
set_option genSizeOf false
set_option genSizeOfSpec false
set_option genInjectivity false
set_option bootstrap.genMatcherCode false
noncomputable section
open PySem renaming wpAny_bind->aa,wpAny_pure->ag,wpAny_mono->ai,wpAny_loadPart_at->am,wpAny_truthy_bool->ar,wpAny_Call_Name_kw->aw,wpAny_field->az,wpAny_execs_nil->aS,wpAny_isSubtype_exc->aT,wpAny_setField->ba,wpAny_passesOwn->bb,wpAny_holding->bg,wpAny_execs_cons->bi,wpAny_loadName_local->bj,wpAny_standAt->bo,tupleKind_room_in1->bp,wpAny_call->bq,wpAny_Name->br,wpAny_newObj_type->b8,call_meets->b9,seqIndex_neg->ce,codeAny_mono->cf,seqIndex_of->cm,wpAny_newFunctionEnv_cells->cr
open PySem.Heap renaming lt_size->ac,get?_push_of_some->ae,get?_push_size->ah,get?_update_other->al,get?_update_self->av,get?_none_of_le->bz,get?_push_cases->cw,get?_update_ne->cy
open PySem.SeqAt renaming canLay_of_shaped->af
open PySem.W renaming kas_descPart->ax,kas_desc->aI,kas_place->bc,kas_rev->be,kas_tail3->bt,kas_count->bu,kas_asc->bw,kas_sort->bS
open PySem.Obj renaming isFreed_of_fields->aE,data_mapFields->a_
open PySem.Calls renaming spliced_cons->bn,spliced_nil->bE,Name_function_global->bX,callWith_builtin->ck,evalArgs_plain->cv
open PySem.SeqAt.EqAt renaming of_refs->bv,int_int->ci
open PySem.Around renaming in1_units->bP
open PyProof.Rows renaming Subscript_->cb,boot_isinstance->cq
open List renaming length_map->au,mem_cons_of_mem->aA,mem_singleton->aB,range->aC,mem_cons_self->aD,mem_cons->aK,mem_append_right->aL,mem_append->aR,mem_append_left->aU,replicate->aW,forall_mem_cons->aZ,getElem?_map->bf,getElem?_set_ne->bh,length_append->bx,getElem?_eq_getElem->bA,size_toArray->bG,length_cons->bI,map_cons->bJ,getElem?_eq_none->bK,length_range->bQ,mem_range->bR,getD_eq_getElem?_getD->bU,mem_filter->cA,length_replicate->cC,filterMap_cons->cD,mem_map->cF,nodup_cons->cI,getElem?_range->cJ,getElem?_set_self->cL,length_set->cM,replicate_succ->dB,length_nil->dG,getElem?_eq_some_iff->dM,append_nil->dN,lookup_cons->dO,getElem?_append_right->d7,mem_of_getElem?->d8,getElem?_append_left->eN,map_map->eZ,contains_cons->fG,getElem?_replicate->fJ,ext_getElem?->fU,map_append->fX,mem_filterMap->f9,pairwise_cons->gj,not_mem_nil->gq,flatten_cons->gQ,map_congr_left->gY,length_filter_le->iG,range'->iT,toArray->iU,getElem_of_mem->jm,all_eq_true->ju,find?_eq_none->jz,getElem?_mapIdx->jT,pairwise_append->jU,length_take->kj,length_drop->kE,drop_eq_getElem_cons->k_,pairwise_iff_getElem->lg,any_cons->lB,filter_cons_of_pos->lZ,filter_cons_of_neg->mj,pairwise_singleton->mq,drop_eq_nil_of_le->mJ,eraseIdx_eq_take_drop_succ->mU,nodup_range->mX,of_mem_zip->nO,forall_mem_nil->n6,getElem?_drop->oW,mem_of_find?_eq_some->pB,length->pG,append_assoc->pH,getElem?_set->pI,take_add_one->pJ,all_cons->pU,range'_succ->p7,getElem_mem->p8,mem_singleton_self->qb,take_length->qd,map_nil->qx,take_of_length_le->qy,drop_of_length_le->qz,find?_cons_of_pos->qH,find?_cons_of_neg->qJ,nil_append->rF,length_singleton->rK,take_append_drop->rN,getElem?_of_mem->rP,range_eq_range'->rQ,nodup_nil->rR,mem_of_mem_take->rT,filter_append->uG,find?_append->uW,nodup_append->uX,lookup->wL
open Nat renaming reduceAdd->ao,reduceLT->aq,reduceLeDiff->aF,reduceEqDiff->aH,le_refl->bF,ne_of_lt->bN,le_trans->bO,lt_of_lt_of_le->bT,zero_le->fK,not_lt->fV,le_of_lt->gB,lt_irrefl->jf,zero_add->jA,lt_trans->kI,lt_or_ge->mH,lt_succ_self->mW,le_succ->nu,not_lt_zero->nQ,ne_of_gt->qw,lt_of_le_of_lt->uF,le_of_eq->uR
open Int renaming reduceEq->aN,reduceLT->aO,reduceLE->aP,le_refl->fL,le_trans->mG,emod_lt_of_pos->oY,le_antisymm->rG,emod_nonneg->rH,sub_zero->uT,toNat_natCast->uU,zero_add->uV
open Option renaming bind_some->aG,isSome_iff_exists->cR,some->dg,map_some->gW,isSome_map->mK,elim->wM
open Bool renaming and_eq_true->aV,false_ne_true->dZ,false_and->jt,true_and->jL,or_true->kJ
open Array renaming getElem?_eq_some_iff->cV,length_toList->dR,getD_eq_getD_getElem?->h_,perm_iff_toList_perm->oX,mem_toList_iff->rO,find?_toList->uE
open And renaming intro->cz
open PySem renaming Shared->cB,Program->cN,Around->db,World->df,Heap->dm,FuncData->du,Scope->d3,Keyword->ef,Model->eh,Arguments->ei,Builtin->el,PassesOwn->eu,GenState->ev,CmpOp->eA
open PySem.PyData renaming int->cE,tuple->cP,depthAll->c8,depth->c_,eqv->da,bool->di,canLay0->dk,canLayAll0->dr,list->d5,eqvAll->ey
open PySem.SeqAt renaming shaped->cK
open PySem.Value renaming none->cS,ref->c0,bool->dE,int->ee,str->ew
open Ne renaming symm->c9
open PySem.PassesOwn renaming never->de
open PySem.NameKind renaming free->dl,cell->d4
open PyProof.Rows renaming callWith_type1->dn,boot_min->dt,boot_max->dv,boot_tuple->eg,AllBare->er,IntsAre->ez,boot_bool->eH
open True renaming intro->dy
open Sum renaming inl->dA
open ForInStep renaming yield->dL
open List.Nodup renaming length_le_of_subset->dP
open PySem.Str renaming ofString->dQ
open False renaming elim->dS
open PySem.Obj renaming mapFields->d0,mapSeq->eF
open PySem.SeqAt.EqAt renaming same->d6
open PySem.Heap renaming SameBut->et
open List.Pairwise renaming imp_of_mem->eB
open PySem.Builtin.Range renaming rangeSize->eC
open PySem.Builtin.List renaming listTooLong->eD
open PySem PySem.Spec PyProof.Rows
local macro_rules|`(tactic|lia)=>`(tactic|omega)
variable{p pos tpos apos p2 cpos spos pos2 p1 rpos hpos:Pos}{u cdv:Value}{h h':dm}{e ke arg:Expr}{E Q:Value->cB->Prop}{pins:List (Addr×Obj)}{body sts orelse suite:List Stmt}{name qual cn ic:Str}{j:Nat}{ps cs:List Str}{es:List Expr}{g:Array ev}{scope:d3}{params:ei}{ix:List Nat}{I:Addr}{bmB:List Value}{oe oa od:Obj}{S:List Int}
def dTr{p:Prop}[Decidable p](h:p):decide p=true:=decide_eq_true h
def dFa{p:Prop}[Decidable p](h:¬p):decide p=false:=decide_eq_false h
def lMp{α β:Type}{f:α->β}{l:List α}:(l.map f).length=l.length:=au f

namespace L2
abbrev Key:=Sum Int Str
noncomputable def qe:Key->Value->Bool
 | .inl k,v=>Value.isInt k v
 | .inr x,v=>Value.isStrOf x v
noncomputable def Y5(w:df):Key->Int
 | .inl k=>hashInt k
 | .inr x=>hashStr w x
theorem eV:∀{k:Key}{v:Value},qe k v=true->(∃i t,k=dA i/\v=ee i t)\/(∃x t,k=Sum.inr x/\v=ew x t)
 | .inl i,v,h=>by
  obtain⟨t,e⟩:=Value.isInt_shape (k:=i) (v:=v) h;exact .inl ⟨i,t,rfl,e⟩
 | .inr x,v,h=>by
  obtain⟨t,e⟩:=Value.isStrOf_shape (x:=x) (v:=v) h;exact .inr ⟨x,t,rfl,e⟩
def Kw(i:Int)(t:Tok):qe (.inl i) (.int i t)=true:=by simp[qe,Value.isInt]
def Ky(x:Str)(t:Tok):qe (.inr x) (.str x t)=true:=by simp[qe,Value.isStrOf]
def Wi(a b:Int):decide ((dA a:Key)=dA b)=(a==b):=by
 by_cases e:a=b
 .subst e;simp
 .have h:¬(dA a:Key)=dA b:=λq=>e (Sum.inl.inj q)
  rw[dFa h];exact(beq_eq_false_iff_ne.mpr e).symm
def Wj(a b:Str):decide ((Sum.inr a:Key)=Sum.inr b)=decide (a=b):=by
 by_cases e:a=b
 .subst e;simp
 .have h:¬(Sum.inr a:Key)=Sum.inr b:=λq=>e (Sum.inr.inj q)
  rw[dFa h,dFa e]
def Wk(a:Int)(b:Str):decide ((dA a:Key)=Sum.inr b)=false:=dFa (λq=>nomatch q)
def Wl(a:Str)(b:Int):decide ((Sum.inr a:Key)=dA b)=false:=dFa (λq=>nomatch q)
def dD(prog:cN)(w:df):PySem.KeyKind prog w Key where
 is:=qe
 hash:=Y5 w
 inj:=λv a b ha hb=>by
  rcases eV ha with⟨i,t,rfl,rfl⟩|⟨x,t,rfl,rfl⟩
  .rcases eV hb with⟨j,u,rfl,e⟩|⟨y,u,rfl,e⟩
   .injection e with e1 _;rw[e1]
   .exact nomatch e
  .rcases eV hb with⟨j,u,rfl,e⟩|⟨y,u,rfl,e⟩
   .exact nomatch e
   .injection e with e1 _;rw[e1]
 byValue:=λk v h=>by
  rcases eV h with⟨i,t,rfl,rfl⟩|⟨x,t,rfl,rfl⟩<;>rfl
 pyHash:=λZ h=>by
  rcases eV Z with⟨i,t,rfl,rfl⟩|⟨x,t,rfl,rfl⟩
  .exact wpAny_pyHash_int h
  .exact wpAny_pyHash_str h
 eqBool:=λY Z h=>by
  rcases eV Y with⟨i,t,rfl,rfl⟩|⟨x,t,rfl,rfl⟩
  .rcases eV Z with⟨j,u,rfl,rfl⟩|⟨y,u,rfl,rfl⟩
   .rw[Wi]at h;exact wpAny_eqBool_int h
   .rw[Wk]at h;exact SeqAt.EqAt.int_str i t y u _ _ _ _ h
  .rcases eV Z with⟨j,u,rfl,rfl⟩|⟨y,u,rfl,rfl⟩
   .rw[Wl]at h;exact SeqAt.EqAt.str_int x t j u _ _ _ _ h
   .rw[Wj]at h;exact wpAny_eqBool_str h
 «strs»:=λk x t v h=>by
  rcases eV h with⟨i,u,rfl,e⟩|⟨y,u,rfl,e⟩
  .exact nomatch e
  .injection e with e1 _
   subst e1
   cases v<;>rfl
def Hu(prog:cN)(w:df)(k:Key)(v:Value):(dD prog w).is k v=qe k v:=rfl
def Eo(prog:cN)(w:df)(i:Int)(t:Tok):(dD prog w).is (.inl i) (.int i t)=true:=Kw i t
def Ep(prog:cN)(w:df)(x:Str)(t:Tok):(dD prog w).is (.inr x) (.str x t)=true:=Ky x t
end L2
variable{us:List Value}{a:Addr}{P:cN}{w:df}
namespace L2
inductive V where
 |non|bl (b:Bool)|int (i:Int)|str (x:Str)|byt (b:Array UInt8)|flt (b:UInt64)|ref (a:Addr)|ty (n:String)
 deriving DecidableEq
def RelV:V->Value->Prop
 | .non,u=>u=cS
 | .bl b,u=>u=dE b
 | .int i,u=>∃t,u=ee i t
 | .str x,u=>∃t,u=ew x t
 | .byt b,u=>∃t,u=Value.bytes b t
 | .flt b,u=>∃t,u=Value.float b t
 | .ref a,u=>u=c0 a
 | .ty n,u=>u=Value.type n
abbrev Vals:List V->List Value->Prop:=Paired RelV
def Vals.length{xs:List V}(r:Vals xs us):xs.length=us.length:=Paired.length r
theorem Vals.get:∀{xs:List V}{us:List Value}{i:Nat}{x:V},Vals xs us->xs[i]? = some x->∃u,us[i]? = some u/\RelV x u
 |_,_,_,_,.nil,e=>by simp at e
 |_,_,0,_,.cons r _,e=>by simp at e;subst e;exact⟨_,rfl,r⟩
 |_,_,i+1,x,.cons _ t,e=>by
  obtain⟨u,h1,h2⟩:=Vals.get (i:=i) (x:=x) t (by simpa using e);exact⟨u,by simpa using h1,h2⟩
theorem Vals.set (r:RelV x u):∀{xs:List V}{us:List Value}(i:Nat),Vals xs us->Vals (xs.set i x) (us.set i u)
 |_,_,_,.nil=>.nil
 |_,_,0,.cons _ t=>.cons r t
 |_,_,i+1,.cons q t=>.cons q (Vals.set r i t)
theorem Vals.append:∀{xs ys:List V}{us ws:List Value},Vals xs us->Vals ys ws->Vals (xs++ys) (us++ws)
 |_,_,_,_,.nil,s=>s
 |_,_,_,_,.cons r t,s=>.cons r (Vals.append t s)
theorem Vals.take:∀{xs:List V}{us:List Value}(n:Nat),Vals xs us->Vals (xs.take n) (us.take n)
 |_,_,0,_=>.nil
 |_,_,_+1,.nil=>.nil
 |_,_,n+1,.cons r t=>.cons r (Vals.take n t)
theorem Vals.drop:∀{xs:List V}{us:List Value}(n:Nat),Vals xs us->Vals (xs.drop n) (us.drop n)
 |_,_,0,r=>r
 |_,_,_+1,.nil=>.nil
 |_,_,n+1,.cons _ t=>Vals.drop n t
def vV:Option V->Option Value->Prop
 |some v,some u=>RelV v u
 |none,none=>True
 |_,_=>False
def KV : List (κ×V)->List (κ×Value)->Prop:=Paired λ(p:κ×V)(q:κ×Value)=>p.1=q.1/\RelV p.2 q.2
def kV:Key->V
 | .inl i=>.int i
 | .inr x=>.str x
inductive HO where
 |lst (xs:List V)
 |tup (xs:List V)
 |dK (kvs:List (Key×V))|dT (kvs:List (List Key×V))
 |set (S:Int->Bool) (n:Nat)
 |ins (C dx:Addr) (fs:List (Str×V))
 |own (x:Addr)
 |xd (fs:List (Str×V))
 |met (f x:Addr)
 |rng (lo hi:Int)
 |frz (o:Obj) (u:HO)
 |tbl (q:Str) (p:Pos)
 |ext (φ:dm->Prop)
noncomputable abbrev Hp:=Addr->Option HO
noncomputable def upd(H:Hp)(a:Addr)(o:HO):Hp:=λb=>if b=a then some o else H b
def dH{H:Hp}{o:HO}:upd H a o a=some o:=by unfold upd;rw[if_pos rfl]
def cO (h:b≠a):upd H a o b=H b:=by unfold upd;rw[if_neg h]
def Jw{H:Hp} (h:H a=some o) (h':H b=some c) (d:o≠c):a≠b:=by
 intro e;subst e;rw[h]at h';exact d (dg.inj h')
def jB{H:Hp} (h:H a=some o) (h':H b=none):a≠b:=by
 intro e;subst e;rw[h]at h';cases h'
section
variable(P:cN)(w:df)
def iB(H:Hp)(h:dm)(a:Addr):HO->Prop
 | .lst xs=>xs.length<=sizeLine/\∃(its:List Value)(n:Nat),Vals xs its/\h.get? a=some {cls:=.type "list", data:=.seq its.toArray n}
 | .tup xs=>xs.length<=sizeLine/\∃its:List Value,Vals xs its/\IsTup h a its.toArray
 | .dK kvs=>kvs.length<=sizeLine/\(a==sysModules)=false/\∃vs,KV kvs vs/\h.DictOf (dD P w) a vs
 | .dT kvs=>kvs.length<=sizeLine/\(a==sysModules)=false/\∃xs:List (List Key×Addr×Value),
  Paired (λ(p:List Key×V)(q:List Key×Addr×Value)=>p.1=q.1/\H q.2.1=some (.tup (p.1.map kV))/\RelV p.2 q.2.2) kvs xs /\
  ∃o es Z,h.get? a=some o/\o.ExactDict/\o.data = .dict es Z/\es.toList=xs.map (entryOfKey (tupleKind (dD P w)))/\(xs.map (·.1)).Nodup
 | .set S n=>h.SetOf (intKind P w) a S n
 | .ins C dx fs=>H dx=some (.own a)/\fs.length<=1000/\dx≠a/\h.get? a=some (PySem.W.instObj C dx) /\
  ∃mA,h.Ns1 dx mA/\(∀f,vV (fs.lookup f) (mA f))/\PySem.Within mA (fs.map (·.1))
 | .own _=>∃o,h.get? a=some o
 | .xd fs=>∃mA,h.Ns1 a mA/\∀f,vV (fs.lookup f) (mA f)
 | .rng lo hi=>∃t u v,h.get? a=some {cls:=.type "range", data:=.fields #[.int lo t,.int hi u,.int 1 v]}
 | .frz o u=>h.get? a=some o/\iB H h a u
 | .tbl q p=>∃ps,h.get? a=some {cls:=.none,data:=.fields ps}/\(ps = #[]\/∃c',ps = #[rawInt p.line,rawInt p.col,.ref c']/\H c'=some (.own a)/\h.CodeRec (.ref c') q)
 | .met f x=>h.get? a=some (PySem.W.methodObj (.ref f) (.ref x))
 | .ext φ=>φ h/\(∃o,h.get? a=some o)/\∀h1 h2:dm,φ h1->(∀o,h1.get? a=some o->h2.get? a=some o)->φ h2
def HOk(H:Hp)(h:dm):Prop:=∀a o,H a=some o->iB P w H h a o
end
section
variable{H H':Hp}{o:HO}
theorem iB.lt(x:iB P w H h a o):a<h.objs.size:=by
 cases o with
 |lst xs=>obtain⟨_,_,_,_,e⟩:=x;exact ac e
 |tup xs=>obtain⟨_,_,_,p⟩:=x;exact p.lt
 |dK kvs=>obtain⟨_,_,_,_,o,_,_,e,_⟩:=x;exact ac e
 |dT kvs=>obtain⟨_,_,_,_,o,_,_,e,_⟩:=x;exact ac e
 |set S n=>obtain⟨o,_,_,_,e,_⟩:=x;exact ac e
 |ins C dx fs=>obtain⟨_,_,_,e,_⟩:=x;exact ac e
 |own y=>obtain⟨_,e⟩:=x;exact ac e
 |xd fs=>obtain⟨_,⟨_,_,_,e,_⟩,_⟩:=x;exact ac e
 |rng lo hi=>obtain⟨_,_,_,e⟩:=x;exact ac e
 |frz Z u=>obtain⟨e,_⟩:=x;exact ac e
 |tbl q p=>obtain⟨_,e,_⟩:=x;exact ac e
 |met f y=>exact ac (show h.get? a=some _ from x)
 |ext φ=>obtain⟨_,⟨_,e⟩,_⟩:=x;exact ac e
theorem Paired.mapP : ∀{J:List α}{l₂:List β},Paired F J l₂->(∀a b,F a b->G a b)->Paired G J l₂
 |_,_,.nil,_=>.nil
 |_,_,.cons r t,f=>.cons (f _ _ r) (Paired.mapP t f)
theorem iB.stay(x:iB P w H h a o)(k:∀b u,(b=a\/H b=some (.own a))->h.get? b=some u->h'.get? b=some u)
 (J:∀b,H b=some (.own a)->H' b=some (.own a)) (ht:∀b xs,H b=some (.tup xs)->H' b=some (.tup xs)):iB P w H' h' a o:=by
 induction o with
 |lst xs=>obtain⟨z,its,n,r,e⟩:=x;exact⟨z,its,n,r,k _ _ (.inl rfl) e⟩
 |tup xs=>obtain⟨z,its,r,Z,e,c⟩:=x;exact⟨z,its,r,Z,k _ _ (.inl rfl) e,c⟩
 |dK kvs=>obtain⟨z,y,vs,r,Z,es,Y,e,c⟩:=x;exact⟨z,y,vs,r,Z,es,Y,k _ _ (.inl rfl) e,c⟩
 |dT kvs=>
  obtain⟨z,y,xs,r,Z,es,Y,e,c⟩:=x;exact⟨z,y,xs,Paired.mapP r λp q z=>⟨z.1,ht _ _ z.2.1,z.2.2⟩,Z,es,Y,k _ _ (.inl rfl) e,c⟩
 |set S n=>obtain⟨Z,es,Y,t,e,c⟩:=x;exact⟨Z,es,Y,t,k _ _ (.inl rfl) e,c⟩
 |ins C dx fs=>
  obtain⟨d,z,ne,e,mA,⟨od,es,Y,e2,c⟩,r⟩:=x;exact⟨J _ d,z,ne,k _ _ (.inl rfl) e,mA,⟨od,es,Y,k _ _ (.inr d) e2,c⟩,r⟩
 |own y=>obtain⟨Z,e⟩:=x;exact⟨Z,k _ _ (.inl rfl) e⟩
 |xd fs=>obtain⟨mA,⟨od,es,Y,e,c⟩,r⟩:=x;exact⟨mA,⟨od,es,Y,k _ _ (.inl rfl) e,c⟩,r⟩
 |rng lo hi=>obtain⟨t,u,v,e⟩:=x;exact⟨t,u,v,k _ _ (.inl rfl) e⟩
 |frz Z u N=>obtain⟨e,q⟩:=x;exact⟨k _ _ (.inl rfl) e,N q⟩
 |tbl q p=>
  obtain⟨ps,e,z⟩:=x;refine⟨ps,k a _ (.inl rfl) e,?_⟩;rcases z with z|⟨c',Q,U,R⟩
  .exact .inl z
  .obtain⟨c,oc,vs,O,T,X,W,M⟩:=R;have V:c'=c:=by injection T
   exact .inr ⟨c',Q,J _ U,c,oc,vs,O,T,k _ _ (.inr (V▸U)) X,W,M⟩
 |met f y=>
  have e:=x;exact k a _ (.inl rfl) e
 |ext φ=>obtain⟨p,⟨o,e⟩,st⟩:=x;exact⟨st _ _ p λo q=>k _ _ (.inl rfl) q,⟨o,k _ _ (.inl rfl) e⟩,st⟩
def HOk.lt(x:HOk P w H h)(e:H a=some o):a<h.objs.size:=(x a o e).lt
theorem HOk.fresh(x:HOk P w H h)(e:h.objs.size<=a):H a=none:=by
 cases q:H a with
 |none=>rfl
 |some u=>exact absurd (bT (x.lt q) e) (jf _)
def HOk.kept(x:HOk P w H h)(k:∀b u,h.get? b=some u->h'.get? b=some u):HOk P w H h':=λa o e=>
 (x a o e).stay (λb u _ q=>k b u q) (λ_ q=>q) λ_ _ q=>q
def HOk.laid(x:HOk P w H h)(k:∀b u,h.get? b=some u->h'.get? b=some u)(J:h.objs.size<=a)(new:iB P w (upd H a o) h' a o):HOk P w (upd H a o) h':=λb u e=>by
 have hn:=x.fresh J;by_cases hb:b=a
 .subst hb;rw[dH]at e;cases e;exact new
 .rw[cO hb]at e;exact(x b u e).stay (λc v _ q=>k c v q) (λc q=>by rwa[cO (jB q hn)]) λc xs q=>by rwa[cO (jB q hn)]
end
def Rd(H:Hp)(a:Addr)(u:HO):Prop:=H a=some u\/∃o,H a=some (.frz o u)
def Rd.ok {u:HO} (r:Rd H a u) (x:HOk P w H h):iB P w H h a u:=by
 rcases r with r|⟨o,r⟩
 .exact x a u r
 .obtain⟨_,q⟩:=x a _ r;exact q
def Mut:Option HO->Prop
 |some (.lst _)=>True
 |some (.dK _)=>True
 |some (.dT _)=>True
 |some (.set _ _)=>True
 |some (.ins _ _ _)=>True
 |some (.ext _)=>True
 |_=>False
section
variable{H:Hp}{x e:Addr}{o':HO}
def HOk.write(ok:HOk P w H h)(J:Mut (H x))(he:e=x\/H e=some (.own x))(k:∀b u,b≠e->h.get? b=some u->h'.get? b=some u)(O:∃u,h'.get? e=some u)
 (new:iB P w (upd H x o') h' x o'):HOk P w (upd H x o') h':=λb u q=>by
 have Y:∀c y,H c=some (.own y)->c≠x:=λc y r z=>by subst z;rw[r]at J;exact J
 have X:∀c xs,H c=some (.tup xs)->c≠x:=λc xs r z=>by subst z;rw[r]at J;exact J
 by_cases hb:b=x
 .subst hb;rw[dH]at q;cases q;exact new
 .rw[cO hb]at q;by_cases Z:b=e
  .have V:H b=some (.own x):=by
    rcases he with z|z
    .exact absurd (Z.trans z) hb
    .rwa[Z]
   rw[q]at V;cases V;obtain⟨v,U⟩:=O;exact⟨v,by rwa[Z]⟩
  .refine(ok b u q).stay (λc v W r=>k c v ?_ r) (λc r=>by rwa[cO (Y c b r)]) λc xs r=>by rwa[cO (X c xs r)]
   rcases W with rfl|W
   .exact Z
   .rintro rfl;rcases he with z|z
    .exact Y c b W z
    .rw[W]at z;cases z;exact hb rfl
end
structure Un(fs ex:List Addr)(H H':Hp)(h h':dm):Prop where
 keep:∀b o,h.get? b=some o->H b=none->b∉fs->b∉ex->h'.get? b=some o
 slot:∀b o,h.get? b=some o->H b=none->b∈fs->b∉ex->∃sl,h'.get? b=some {o with slots:=sl}
 free:∀b o,h.get? b=some o->H b=none->b∉ex->H' b=none
 there:∀b o,h.get? b=some o->b∉ex->∃o',h'.get? b=some o'
 tups:∀b xs,H b=some (.tup xs)->H' b=some (.tup xs)
 frzs:∀b o u,H b=some (.frz o u)->H' b=some (.frz o u)
 tbls:∀b q p,H b=some (.tbl q p)->H' b=some (.tbl q p)
section
variable{fs fs' ex ex':List Addr}{H H1 H2:Hp}{h1 h2:dm}{x e:Addr}{o:HO}
def Un.any(u:Un fs ex H H1 h h1) (q:h.get? b=some J) (n:H b=none) (O:b∉ex):∃sl,h1.get? b=some {J with slots:=sl}:=by
 by_cases hb:b∈fs
 .exact u.slot b J q n hb O
 .exact⟨J.slots,u.keep b J q n hb O⟩
def Un.kept(k:∀b u,h.get? b=some u->h'.get? b=some u):Un fs ex H H h h':=
 ⟨λb Z q _ _ _=>k b Z q,λb Z q _ _ _=>⟨Z.slots,k b Z q⟩,λ_ _ _ n _=>n,λb Z q _=>⟨Z,k b Z q⟩,λ_ _ q=>q,λ_ _ _ q=>q,λ_ _ _ q=>q⟩
def Un.refl:Un fs ex H H h h:=Un.kept λ_ _ q=>q
theorem Un.laid(k:∀b u,h.get? b=some u->h'.get? b=some u)(J:h.objs.size<=a)(hn:H a=none):Un fs ex H (upd H a o) h h' where
 keep:=λb u q _ _ _=>k b u q
 slot:=λb u q _ _ _=>⟨u.slots,k b u q⟩
 free:=λb u q n _=>by rwa[cO (bN (bT (ac q) J))]
 there:=λb u q _=>⟨u,k b u q⟩
 tups:=λb xs q=>by rwa[cO (jB q hn)]
 frzs:=λb u xs q=>by rwa[cO (jB q hn)]
 tbls:=λb q p e=>by rwa[cO (jB e hn)]
def Un.write(J:Mut (H x))(he:e=x\/H e=some (.own x))(k:∀b u,b≠e->h.get? b=some u->h'.get? b=some u)(O:∃u,h'.get? e=some u):Un fs ex H (upd H x o) h h':=by
 have Y:∀b,H b=none->b≠x:=λb n z=>by subst z;rw[n]at J;exact J
 have hb:∀b,H b=none->b≠e:=λb n z=>by
  subst z;rcases he with r|r
  .exact Y b n r
  .rw[n]at r;cases r
 have hm:∀b u,H b=some u->¬Mut (some u)->b≠x:=λb u q nm z=>by subst z;rw[q]at J;exact nm J
 refine⟨λb u q n _ _=>k b u (hb b n) q,λb u q n _ _=>⟨u.slots,k b u (hb b n) q⟩,λb u q n _=>by rwa[cO (Y b n)],λb u q _=>?_,
  λb xs q=>by rwa[cO (hm b _ q λz=>z)],λb u xs q=>by rwa[cO (hm b _ q λz=>z)],λb q p e=>by rwa[cO (hm b _ e λz=>z)]⟩
 by_cases Z:b=e
 .subst Z;exact O
 .exact⟨u,k b u Z q⟩
end
noncomputable def trk(h:dm)(H:Hp):List Addr:=(aC h.objs.size).filter λa=>(H a).isSome
def Er(h:dm)(H:Hp):dm:=PySem.W.hideAll h (trk h H)
def Kz(h:dm)(H:Hp):(Er h H).objs.size=h.objs.size:=PySem.W.hideAll_size _ _
def MJ (e:h.get? b=some o) (n:H b=none):(Er h H).get? b=some o:=
 PySem.W.hideAll_get _ e λhm=>by
  have q:=(cA.mp hm).2;rw[n]at q;simp at q
theorem Rr (e:(Er h H).get? b=some o):h.get? b=some o/\H b=none:=by
 have Z:h.get? b=some o:=PySem.W.of_hideAll (trk h H) e;refine⟨Z,?_⟩
 cases q:H b with
 |none=>rfl
 |some x=>
  have hm:b∈trk h H:=cA.mpr ⟨bR.mpr (ac Z),by simp[q]⟩;have z:(Er h H).get? b=none:=PySem.W.hideAll_none (trk h H) hm;rw[z]at e;cases e
noncomputable def pK(g h:dm)(L:Addr):List (Addr×Obj):=(aC h.objs.size).filterMap λa=>if a=L\/(g.get? a).isSome=true then none else(h.get? a).map λo=>(a,o)
def Es (h1:a≠L) (h2:b.get? a=none) (J:h.get? a=some o):(a,o)∈pK b h L:=
 f9.mpr ⟨a,bR.mpr (ac J),by simp[h1,h2,J]⟩
def yg (J:d∈pK c h L):d.1≠L/\c.get? d.1=none/\h.get? d.1=some d.2:=by
 obtain⟨b,_,e⟩:=f9.mp J;split at e
 .cases e
 .rename_i hn
  cases q:h.get? b with
  |none=>rw[q]at e;simp at e
  |some u=>
   rw[q]at e;simp only[gW,dg.injEq]at e;subst e;refine⟨λz=>hn (.inl z),?_,q⟩
   cases r:c.get? b with
   |none=>rfl
   |some v=>exact(hn (.inr (by simp[r]))).elim
def Et : News d L h (pK d h L):=λp Z=>let⟨a,b,c⟩:=yg Z;⟨c,a,b⟩
end L2
variable{xs dvs:List L2.V}{H H':L2.Hp}
variable{ch:List Addr}{N:List Str}{A:db}{i:Nat}{x:Str}{v:L2.V}{Q:Unit->cB->Prop}{s' s:cB}
namespace L2
structure Mod(K:PySem.W.Frag)(mg:Str->Option Value)(base:dm):Prop where
 kin:K.In base
 glob:base.Ns mainGlobals mg
 blt:∃mb,base.Ns builtinsNs mb/\∀x:Str,x≠"__name__"->mb x=bootBuiltins x
 nolimit:base.NoLimit
 bm:∃bm ob,mg "__builtins__"=some (.ref bm)/\bm≠builtinsNs/\base.get? bm=some ob/\ob.cls = .type "module"/\ob.dict=some builtinsNs/\ob.data = .plain
structure Cx where
 prog:cN
 w:df
 K:PySem.W.Frag
 mg:Str->Option Value
 base:dm
 A:db
 N:List Str
 s₀:cB
 H₀:Hp
 env:Env
 outer:List Env
 stack:List Env
 ex:List Addr
 fn:Str->Bool
 calm:Bool
 pn:List (Addr×Obj)
 xe:Value->cB->Prop
def frs(l:List Env):List Addr:=l.filterMap (·.frame)
abbrev Cx.fs(X:Cx):List Addr:=frs X.outer
def Vis(sc:d3)(x:Str):Prop:=sc.names.lookup x=some .local\/sc.names.lookup x=some .cell\/sc.names.lookup x=some .free
def Loc(sc:d3)(x:Str):Prop:=sc.names.lookup x=some .local\/sc.names.lookup x=some .cell
def Look(env:Env)(h:dm)(m:Str->Option Value)(x:Str)(u:Value):Prop:=
 (env.kindOf x=some .local/\m x=some u)\/((env.kindOf x=some .cell\/env.kindOf x=some .free)/\∃c,env.cells.lookup x=some c/\h.IsCell c (some u))
structure Cx.Ok(X:Cx):Prop where
 mod:Mod X.K X.mg X.base
 kind:X.env.scope.kind = .function
 glob:X.env.globals=mainGlobals
 blt:X.env.builtins=builtinsNs
 above:X.s₀.heap.objs.size<=X.env.locals
 inj:∀x y c,X.env.cells.lookup x=some c->X.env.cells.lookup y=some c->x=y
 has:∀x,(X.env.kindOf x=some .cell\/X.env.kindOf x=some .free)->∃c,X.env.cells.lookup x=some c
 cab:∀x c,X.fn x=true->X.env.cells.lookup x=some c->X.s₀.heap.objs.size<=c
 hd:X.calm=true->X.A.handled=none
 frames:X.A.frames=some X.stack
 stk:X.stack=X.outer\/(X.stack=X.env::X.outer/\X.env.frame=some X.env.locals)
 exf:∀b∈X.ex,b≠X.env.locals/\∀x c,X.env.cells.lookup x=some c->c≠b
 bs:∀b o,X.base.get? b=some o->X.s₀.heap.get? b=some o/\X.H₀ b=none
 bsz:X.base.objs.size<=X.s₀.heap.objs.size
 noex:∀b o,X.base.get? b=some o->b∉X.ex
 exfs:∀b∈X.ex,b∉X.fs
 funs:X.s₀.heap.FunFrames X.base X.outer
 frf:∀b∈X.fs,X.H₀ b=none
structure Inv(X:Cx)(pins:List (Addr×Obj))(σ:List (Option V))(H:Hp)(s:cB):Prop where
 ok:X.Ok
 os:s.os=X.s₀.os
 bare:er s.gens
 base:Un X.fs X.ex X.H₀ H X.s₀.heap s.heap
 loc:∃m,s.heap.Ns X.env.locals m/\∀(i:Nat)(x:Str)(v:V),X.N[i]? = some x->σ[i]? = some (some v)->Vis X.env.scope x->∃u,RelV v u/\Look X.env s.heap m x u
 cell:∀x c,X.env.cells.lookup x=some c->∃v,s.heap.IsCell c v
 free:H X.env.locals=none
 freeC:∀x c,X.env.cells.lookup x=some c->H c=none
 pin:∀p∈X.pn++pins,s.heap.get? p.1=some p.2/\H p.1=none/\p.1≠X.env.locals/\p.1∉X.fs/\∀v,p.2.data ≠ .cell v
 hok:HOk X.prog X.w H s.heap
 len:σ.length=X.N.length
section
variable{X:Cx}{σ:List (Option V)}
def Cx.Ok.nofr(ok:X.Ok) (e:X.base.get? b=some o):b∉X.fs:=λhb=>by
 have:=(ok.funs.mem hb).1;rw[e]at this;cases this
def Inv.bs(I:Inv X pins σ H s):∀b o,X.base.get? b=some o->s.heap.get? b=some o/\H b=none:=λb o e=>
 ⟨I.base.keep b o (I.ok.bs b o e).1 (I.ok.bs b o e).2 (I.ok.nofr e) (I.ok.noex b o e),I.base.free b o (I.ok.bs b o e).1 (I.ok.bs b o e).2 (I.ok.noex b o e)⟩
def Inv.bk(I:Inv X pins σ H s):∀b o,X.base.get? b=some o->s.heap.get? b=some o:=λb o e=>(I.bs b o e).1
def Inv.mod(I:Inv X pins σ H s):Mod X.K X.mg X.base:=I.ok.mod
def Inv.kIn(I:Inv X pins σ H s):X.K.In s.heap:=I.ok.mod.kin.keeps I.bk
def Inv.lt(I:Inv X pins σ H s):X.env.locals<s.heap.objs.size:=let⟨_,hn,_⟩:=I.loc;hn.lt
def Inv.sz(I:Inv X pins σ H s):X.s₀.heap.objs.size<=s.heap.objs.size:=bO I.ok.above (gB I.lt)
def Inv.nofs(I:Inv X pins σ H s) (h:s.heap.objs.size<=b):b∉X.fs:=λhb=>by
 obtain⟨_,o,Z,_⟩:=I.ok.funs.mem hb;exact absurd (bT (ac Z) (bO I.sz h)) (jf _)
def Inv.cne(I:Inv X pins σ H s):∀x c,X.env.cells.lookup x=some c->c≠X.env.locals:=λx c e z=>by
 obtain⟨v,o,W,hd⟩:=I.cell x c e;obtain⟨m,⟨o',es,V,Z,Y,_⟩,_⟩:=I.loc;rw[z,Z]at W;cases W;rw[Y]at hd;cases hd
def Inv.funs(I:Inv X pins σ H s):s.heap.FunFrames X.base X.outer:=by
 have all:∀(l:List Env),(∀b∈frs l,b∈X.fs)->X.s₀.heap.FunFrames X.base l->s.heap.FunFrames X.base l:=by
  intro l
  induction l with
  |nil=>intro _ _;trivial
  |cons env r V=>
   intro W hl;obtain⟨hk,⟨L,o,Z,hn,T,hd⟩,U⟩:=hl;have Y:=W L (by unfold frs;rw[cD,Z];exact aD);obtain⟨sl,e⟩:=I.base.slot L o T (I.ok.frf L Y) Y λz=>I.ok.exfs L z Y
   exact⟨hk,⟨L,_,Z,hn,e,hd⟩,V (λb hb=>W b (by unfold frs;rw[cD,Z];exact aA _ hb)) U⟩
 exact all X.outer (λ_ hb=>hb) I.ok.funs
def Inv.stack(I:Inv X pins σ H s):s.heap.FunFrames X.base X.stack:=by
 rcases I.ok.stk with e|⟨e,Z⟩
 .rw[e];exact I.funs
 .rw[e];obtain⟨m,hn,_⟩:=I.loc;refine .cons (by rw[I.ok.kind];decide) Z hn ?_ I.funs;exact bz (bO I.ok.bsz I.ok.above)
def Inv.stkSub(I:Inv X pins σ H s):∀b∈frs X.stack,b∈X.env.locals::X.fs:=λb hb=>by
 rcases I.ok.stk with e|⟨e,Z⟩
 .rw[e]at hb;exact aA _ hb
 .rw[e]at hb;unfold frs at hb;rwa[cD,Z]at hb
def Inv.stkFree(I:Inv X pins σ H s):∀b∈frs X.stack,H b=none:=λb hb=>by
 rcases aK.mp (I.stkSub b hb)with e|hb
 .rw[e];exact I.free
 .obtain⟨_,o,Z,_⟩:=I.ok.funs.mem hb;exact I.base.free b o Z (I.ok.frf b hb) λz=>I.ok.exfs b z hb
def Inv.step (I:Inv X pins σ H s)
 (J:∀b∈ch,(b∈X.ex\/X.s₀.heap.objs.size<=b)/\b≠X.env.locals/\(∀x c,X.env.cells.lookup x=some c->c≠b)/\∀p∈X.pn++pins,p.1≠b)
 (keep:∀b o,b≠X.env.locals->b∉X.fs->b∉ch->s.heap.get? b=some o->H b=none->h'.get? b=some o)
 (slot:∀b o,b≠X.env.locals->b∈X.fs->b∉ch->s.heap.get? b=some o->H b=none->∃sl,h'.get? b=some {o with slots:=sl}) (free:∀b o,b∉ch->s.heap.get? b=some o->H b=none->H' b=none)
 (there:∀b o,b∉ch->s.heap.get? b=some o->∃o',h'.get? b=some o')
 (tups:∀b xs,H b=some (.tup xs)->H' b=some (.tup xs)) (frzs:∀b o u,H b=some (.frz o u)->H' b=some (.frz o u)) (tbls:∀b q p,H b=some (.tbl q p)->H' b=some (.tbl q p))
 (ns:∀m,s.heap.Ns X.env.locals m->h'.Ns X.env.locals m) (hok:HOk X.prog X.w H' h') (O:er g') :
 Inv X pins σ H' {s with heap:=h',gens:=g',drawn:=d',toks:=t'}:=by
 have U:∀b o,X.s₀.heap.get? b=some o->b≠X.env.locals:=λb o e=>bN (bT (ac e) I.ok.above)
 have W:∀b o,X.s₀.heap.get? b=some o->b∉X.ex->b∉ch:=λb o e Z hb=>by
  rcases(J b hb).1 with z|z
  .exact Z z
  .exact absurd (bT (ac e) z) (jf _)
 have cellK:∀x c,X.env.cells.lookup x=some c->∀v,s.heap.IsCell c v->h'.IsCell c v:=λx c e v ⟨o,V,hd⟩=>by
  have Y:=λz=>(J c z).2.2.1 x c e rfl
  by_cases Q:c∈X.fs
  .obtain⟨sl,q⟩:=slot c o (I.cne x c e) Q Y V (I.freeC x c e);exact⟨_,q,hd⟩
  .exact⟨o,keep c o (I.cne x c e) Q Y V (I.freeC x c e),hd⟩
 refine⟨I.ok,I.os,O,⟨λb o e n hb Z=>?_,λb o e n hb Z=>?_,λb o e n Z=>?_,λb o e Z=>?_,λb xs e=>tups b xs (I.base.tups b xs e),λb o xs e=>frzs b o xs (I.base.frzs b o xs e),λb q p e=>tbls b q p (I.base.tbls b q p e)⟩,?_,λx c e=>?_,?_,λx c e=>?_,λp R=>?_,hok,I.len⟩
 .exact keep b o (U b o e) hb (W b o e Z) (I.base.keep b o e n hb Z) (I.base.free b o e n Z)
 .obtain⟨sl,e1⟩:=I.base.slot b o e n hb Z;obtain⟨T,e2⟩:=slot b _ (U b o e) hb (W b o e Z) e1 (I.base.free b o e n Z);exact⟨T,e2⟩
 .obtain⟨o',e1⟩:=I.base.there b o e Z;exact free b o' (W b o e Z) e1 (I.base.free b o e n Z)
 .obtain⟨o',e1⟩:=I.base.there b o e Z;exact there b o' (W b o e Z) e1
 .obtain⟨m,hn,hl⟩:=I.loc;refine⟨m,ns m hn,λi x v e1 e2 e3=>?_⟩;obtain⟨u,r,l⟩:=hl i x v e1 e2 e3;refine⟨u,r,?_⟩;rcases l with l|⟨k,c,e,z⟩
  .exact .inl l
  .exact .inr ⟨k,c,e,cellK x c e _ z⟩
 .obtain⟨v,z⟩:=I.cell x c e;exact⟨v,cellK x c e v z⟩
 .obtain⟨m,⟨o,_,_,V,_⟩,_⟩:=I.loc;exact free _ o (λz=>(J _ z).2.1 rfl) V I.free
 .obtain⟨v,o,V,hd⟩:=I.cell x c e;exact free c o (λz=>(J c z).2.2.1 x c e rfl) V (I.freeC x c e)
 .obtain⟨e,n,ne,S,d⟩:=I.pin p R;have Y:=λz=>(J p.1 z).2.2.2 p R rfl
  exact⟨keep p.1 p.2 ne S Y e n,free p.1 p.2 Y e n,ne,S,d⟩
def Inv.un (I:Inv X pins σ H s) (u:Un X.fs [] H H' s.heap h') (hok:HOk X.prog X.w H' h'):Inv X pins σ H' {s with heap:=h',toks:=t'}:=by
 obtain⟨m,⟨o,es,R,V,r⟩,_⟩:=id I.loc;obtain⟨sl,T⟩:=u.any V I.free (by simp);exact I.step (g':=s.gens) (d':=s.drawn) (ch:=[]) (λ_ z=>nomatch z) (λb o _ hb _ e n=>u.keep b o e n hb (by simp)) (λb o _ hb _ e n=>u.slot b o e n hb (by simp)) (λb o _ e n=>u.free b o e n (by simp)) (λb o _ e=>u.there b o e (by simp)) u.tups u.frzs u.tbls (λS hm=>by
  obtain⟨o',Y,W,Z,U⟩:=hm;rw[V]at Z;cases Z;exact⟨_,Y,W,T,U⟩) hok I.bare
def Inv.call (I:Inv X pins σ H s) (u:Un (frs X.stack) ch H H' s.heap h') (hok:HOk X.prog X.w H' h') (O:er g')
 (J:∀b∈ch,(b∈X.ex\/X.s₀.heap.objs.size<=b)/\b≠X.env.locals/\(∀x c,X.env.cells.lookup x=some c->c≠b)/\∀p∈X.pn++pins,p.1≠b) :
 Inv X pins σ H' {s with heap:=h',gens:=g',drawn:=d',toks:=t'}:=by
 obtain⟨m,⟨o,es,Q,T,r⟩,_⟩:=id I.loc;obtain⟨sl,W⟩:=u.any T I.free λz=>(J _ z).2.1 rfl
 exact I.step (ch:=ch) J (λb o W hb Z e n=>u.keep b o e n (λz=>(aK.mp (I.stkSub b z)).elim W hb) Z) (λb o _ _ Z e n=>u.any e n Z) (λb o Z e n=>u.free b o e n Z) (λb o Z e=>u.there b o e Z) u.tups u.frzs u.tbls (λR hm=>by
  obtain⟨o',V,U,Y,S⟩:=hm;rw[T]at Y;cases Y;exact⟨_,V,U,W,S⟩) hok O
def Inv.turned (I:Inv X pins σ H s) (k:∀b o,b≠it->s.heap.get? b=some o->h'.get? b=some o) (hn:H it=none) (J:it≠X.env.locals)
 (h1:it∈X.ex\/X.s₀.heap.objs.size<=it) (h2:∀x c,X.env.cells.lookup x=some c->c≠it) (O:∀p∈X.pn++pins,p.1≠it):Inv X pins σ H {s with heap:=h',toks:=t'}:=by
 have Y:∀b u,H b=some u->b≠it:=λb u e z=>by rw[z,hn]at e;cases e
 refine I.step (g':=s.gens) (d':=s.drawn) (ch:=[it]) (λb hb=>?_) (λb o _ _ Z e _=>k b o (λz=>Z (by simp[z])) e) (λb o _ _ Z e _=>⟨o.slots,k b o (λz=>Z (by simp[z])) e⟩) (λ_ _ _ _ n=>n)
  (λb o Z e=>⟨o,k b o (λz=>Z (by simp[z])) e⟩) (λ_ _ e=>e) (λ_ _ _ e=>e) (λ_ _ _ e=>e) (λm hm=>?_) (λb u e=>?_) I.bare
 .have e:b=it:=by simpa using hb
  subst e;exact⟨h1,J,h2,O⟩
 .obtain⟨o,es,V,W,r⟩:=hm;exact⟨o,es,V,k _ o (c9 J) W,r⟩
 .refine(I.hok b u e).stay (λc v Z q=>k c v ?_ q) (λ_ q=>q) λ_ _ q=>q
  rcases Z with z|z
  .rw[z];exact Y b u e
  .exact Y c _ z
def Inv.tok(I:Inv X pins σ H s)(t:Nat):Inv X pins σ H {s with toks:=t}:=I.un (h':=s.heap) (t':=t) Un.refl I.hok
def Inv.kept (I:Inv X pins σ H s) (k:∀b u,s.heap.get? b=some u->h'.get? b=some u):Inv X pins σ H {s with heap:=h',toks:=t'}:=I.un (Un.kept k) (I.hok.kept k)
def Inv.laid (I:Inv X pins σ H s) (k:∀b u,s.heap.get? b=some u->h'.get? b=some u) (J:s.heap.objs.size<=a) (new:iB X.prog X.w (upd H a o) h' a o) :
 Inv X pins σ (upd H a o) {s with heap:=h',toks:=t'}:=I.un (Un.laid k J (I.hok.fresh J)) (I.hok.laid k J new)
def Inv.write {x e:Addr}(I:Inv X pins σ H s) (O:Mut (H x)) (Y:e=x\/H e=some (.own x)) (k:∀b u,b≠e->s.heap.get? b=some u->h'.get? b=some u) (J:∃u,h'.get? e=some u)
 (new:iB X.prog X.w (upd H x o) h' x o):Inv X pins σ (upd H x o) {s with heap:=h',toks:=t'}:=I.un (Un.write O Y k J) (I.hok.write O Y k J new)
def Inv.pins_of (I:Inv X pins σ H s) (h:∀p∈pins',s.heap.get? p.1=some p.2/\H p.1=none/\p.1≠X.env.locals/\p.1∉X.fs/\∀v,p.2.data ≠ .cell v):Inv X pins' σ H s:=
 ⟨I.ok,I.os,I.bare,I.base,I.loc,I.cell,I.free,I.freeC,λp Z=>(aR.mp Z).elim (λz=>I.pin p (aU _ z)) (h p),I.hok,I.len⟩
def yh(J:N.Nodup){i j:Nat} (a:N[i]? = some c) (b:N[j]? = some c):i=j:=by
 obtain⟨h1,e1⟩:=dM.mp a;obtain⟨h2,e2⟩:=dM.mp b;exact(List.getElem_inj J).mp (e1.trans e2.symm)
def Aw (I:Inv X pins σ H s) (hN:X.N.Nodup) (hi:X.N[i]? = some x) (J:Loc X.env.scope x) (r:RelV v u)
 (h:∀s',Inv X pins (σ.set i (some v)) H s'->(∃a,et a s.heap s'.heap/\(a=X.env.locals\/X.env.cells.lookup x=some a))->Q () s') (hf:X.fn x=true\/X.env.scope.names.lookup x=some .local:=by first|exact .inl rfl|exact .inr rfl|assumption):wpAny M A (storeName X.env x u) Q E s:=by
 obtain⟨m,hn,hl⟩:=id I.loc;have R:(X.env.scope.kind == .class||(X.env.scope.kind == .module&&X.env.locals != X.env.globals))=false:=by rw[I.ok.kind];rfl
 have V:i<σ.length:=by rw[I.len];exact(dM.mp hi).1
 have cne:=I.cne;have tracked:∀{a:Addr}{h':dm},(∃o,s.heap.get? a=some o/\H a=none)->et a s.heap h'->HOk X.prog X.w H h':=λ{a h'} ha Z b ob e=>by
  obtain⟨_,_,W⟩:=ha;refine(I.hok b ob e).stay (λc L Y q=>(Z.2 c ?_).trans q) (λ_ q=>q) λ_ _ q=>q
  rintro rfl;rcases Y with rfl|Y
  .rw[W]at e;cases e
  .rw[W]at Y;cases Y
 rcases J with hk|hk
 .refine wpAny_storeName_local hk hn (λh' t Z=>?_) R;obtain⟨oL,_,_,B,_⟩:=id hn;refine h _ ⟨I.ok,I.os,I.bare,⟨λb o e n hb J=>?_,λb o e n hb J=>?_,I.base.free,λb o e J=>?_,I.base.tups,I.base.frzs,I.base.tbls⟩,⟨_,t,λj y K e1 e2 e3=>?_⟩,λy c e=>?_,I.free,I.freeC,λp C=>?_,tracked ⟨oL,B,I.free⟩ Z,by simpa using I.len⟩ ⟨_,Z,.inl rfl⟩
  .exact(Z.2 b (bN (bT (ac e) I.ok.above))).trans (I.base.keep b o e n hb J)
  .obtain⟨sl,e1⟩:=I.base.slot b o e n hb J;exact⟨sl,(Z.2 b (bN (bT (ac e) I.ok.above))).trans e1⟩
  .obtain⟨o',e1⟩:=I.base.there b o e J;exact⟨o',(Z.2 b (bN (bT (ac e) I.ok.above))).trans e1⟩
  .by_cases U:j=i
   .subst U;rw[hi]at e1;cases e1;rw[cL V]at e2
    cases e2;exact⟨u,r,.inl ⟨hk,by simp⟩⟩
   .rw[bh (c9 U)]at e2;obtain⟨G,F,q⟩:=hl j y K e1 e2 e3;refine⟨G,F,?_⟩;rcases q with⟨k,e⟩|⟨k,c,e,z⟩
    .refine .inl ⟨k,?_⟩;have:y≠x:=λe=>U (yh hN e1 (e▸hi))
     simp[this,e]
    .exact .inr ⟨k,c,e,z.sameBut Z (cne y c e)⟩
  .obtain⟨L,z⟩:=I.cell y c e;exact⟨L,z.sameBut Z (cne y c e)⟩
  .obtain⟨e,n,ne,D,d⟩:=I.pin p C;exact⟨(Z.2 p.1 ne).trans e,n,ne,D,d⟩
 .have T:X.fn x=true:=by
   rcases hf with z|z
   .exact z
   .rw[z]at hk;cases hk
  obtain⟨c,Y⟩:=I.ok.has x (.inl hk);obtain⟨L,z⟩:=I.cell x c Y;refine wpAny_storeName_cell I.ok.kind hk Y z (λh' O Z=>?_);obtain⟨oc,S,l⟩:=id z;refine h {s with heap:=h'} ⟨I.ok,I.os,I.bare,⟨λb o e n hb J=>?_,λb o e n hb J=>?_,I.base.free,λb o e J=>?_,I.base.tups,I.base.frzs,I.base.tbls⟩,⟨m,hn.sameBut Z (c9 (cne x c Y)),λj y K e1 e2 e3=>?_⟩,λy c' e=>?_,I.free,I.freeC,λp C=>?_,tracked ⟨oc,S,I.freeC x c Y⟩ Z,by simpa using I.len⟩ ⟨c,Z,.inr Y⟩
  .exact(Z.2 b (bN (bT (ac e) (I.ok.cab x c T Y)))).trans (I.base.keep b o e n hb J)
  .obtain⟨sl,e1⟩:=I.base.slot b o e n hb J;exact⟨sl,(Z.2 b (bN (bT (ac e) (I.ok.cab x c T Y)))).trans e1⟩
  .obtain⟨o',e1⟩:=I.base.there b o e J;exact⟨o',(Z.2 b (bN (bT (ac e) (I.ok.cab x c T Y)))).trans e1⟩
  .by_cases U:j=i
   .subst U;rw[hi]at e1;cases e1;rw[cL V]at e2
    cases e2;exact⟨u,r,.inr ⟨.inl hk,c,Y,O⟩⟩
   .rw[bh (c9 U)]at e2;obtain⟨G,F,q⟩:=hl j y K e1 e2 e3;refine⟨G,F,?_⟩;rcases q with q|⟨k,c',e,f⟩
    .exact .inl q
    .refine .inr ⟨k,c',e,f.sameBut Z ?_⟩;rintro rfl;exact U (yh hN e1 (I.ok.inj _ _ _ e Y▸hi))
  .by_cases P:c'=c
   .subst P;exact⟨_,O⟩
   .obtain⟨w2,g⟩:=I.cell y c' e;exact⟨w2,g.sameBut Z P⟩
  .obtain⟨e,n,ne,D,d⟩:=I.pin p C;refine⟨(Z.2 p.1 ?_).trans e,n,ne,D,d⟩;intro q;rw[q,S]at e;have q':oc=p.2:=dg.inj e;exact d L (by rwa[<-q'])
def yj (I:Inv X pins σ H s) (Y:X.N.Nodup) (hi:X.N[i]? = some x) (J:Loc X.env.scope x) (r:RelV v u)
 (h:∀s',Inv X pins (σ.set i (some v)) H s'->Q () s') (O:X.fn x=true\/X.env.scope.names.lookup x=some .local:=by first|exact .inl rfl|exact .inr rfl|assumption):wpAny M A (storeName X.env x u) Q E s:=
 Aw I Y hi J r (λs' Z _=>h s' Z) O
def Inv.call'(I:Inv X pins σ H s)(O:s'.os=s.os)(u:Un (frs X.stack) ch H H' s.heap s'.heap)(hok:HOk X.prog X.w H' s'.heap)(Y:er s'.gens)
 (J:∀b∈ch,(b∈X.ex\/X.s₀.heap.objs.size<=b)/\b≠X.env.locals/\(∀x c,X.env.cells.lookup x=some c->c≠b)/\∀p∈X.pn++pins,p.1≠b):Inv X pins σ H' s':=by
 obtain⟨h',g',Z,t',o'⟩:=s';have e:=O;subst e;exact I.call (g':=g') (t':=t') (d':=Z) u hok Y J
end
abbrev XK:=Value->Option Addr->Hp->Prop
abbrev St:=List (Option V)
abbrev VK:=V->Hp->Prop
abbrev TE:=St->Hp->VK->Prop
abbrev TT:=St->Hp->(Bool->Hp->Prop)->Prop
abbrev TA:=St->Hp->(List V->Hp->Prop)->Prop
structure Ends where
 nx:St->Hp->Prop
 rt:VK
 bk:St->Hp->Prop:=λ_ _=>False
 ct:St->Hp->Prop:=λ_ _=>False
abbrev TS:=Ends->St->Hp->Prop
def EP(X:Cx)(pins:List (Addr×Obj))(σ:St)(Q:VK)(u:Value)(s':cB):Prop:=∃v H',Inv X pins σ H' s'/\RelV v u/\Q v H'
def TP(X:Cx)(pins:List (Addr×Obj))(σ:St)(Q:Bool->Hp->Prop)(b:Bool)(s':cB):Prop:=∃H',Inv X pins σ H' s'/\Q b H'
def AP(X:Cx)(pins:List (Addr×Obj))(σ:St)(Q:List V->Hp->Prop)(us:List Value)(s':cB):Prop:=∃vs H',Inv X pins σ H' s'/\Vals vs us/\Q vs H'
def SP(X:Cx)(pins:List (Addr×Obj))(D:Ends)(f:Flow)(s':cB):Prop:=
 match f with
 | .next=>∃σ' H',Inv X pins σ' H' s'/\D.nx σ' H'
 | .brk=>∃σ' H',Inv X pins σ' H' s'/\D.bk σ' H'
 | .cont=>∃σ' H',Inv X pins σ' H' s'/\D.ct σ' H'
 | .ret u=>∃v σ' H',Inv X pins σ' H' s'/\RelV v u/\D.rt v H'
def PE(X:Cx)(e:Expr)(t:TE):Prop:=
 ∀(pins:List (Addr×Obj))(s:cB)(σ:St)(H:Hp)(Q:VK),Inv X pins σ H s->t σ H Q->wpAny (model X.prog X.w) X.A (eval e X.env) (EP X pins σ Q) X.xe s
def PT(X:Cx)(e:Expr)(t:TT):Prop:=
 ∀(pins:List (Addr×Obj))(s:cB)(σ:St)(H:Hp)(Q:Bool->Hp->Prop),Inv X pins σ H s->t σ H Q->wpAny (model X.prog X.w) X.A (isTrue e X.env (eval e X.env)) (TP X pins σ Q) X.xe s
def PW(X:Cx)(e:Expr)(t:TT):Prop:=
 ∀(whole:Sem Value)(pins:List (Addr×Obj))(s:cB)(σ:St)(H:Hp)(Q:Bool->Hp->Prop),Inv X pins σ H s->t σ H Q->wpAny (model X.prog X.w) X.A (isTrue e X.env whole) (TP X pins σ Q) X.xe s
def PW.pt (h:PW X e t):PT X e t:=h _
def PA(X:Cx)(es:List Expr)(t:TA):Prop:=
 ∀(pos:Pos)(pins:List (Addr×Obj))(s:cB)(σ:St)(H:Hp)(Q:List V->Hp->Prop),Inv X pins σ H s->t σ H Q->wpAny (model X.prog X.w) X.A (spliced (backTo pos (starEach es X.env))) (AP X pins σ Q) X.xe s
def PS(X:Cx)(st:Stmt)(t:TS):Prop:=
 ∀(pins:List (Addr×Obj))(s:cB)(σ:St)(H:Hp)(D:Ends),Inv X pins σ H s->t D σ H->wpAny (model X.prog X.w) X.A (exec st X.env) (SP X pins D) X.xe s
def PSs(X:Cx)(st:List Stmt)(t:TS):Prop:=
 ∀(pins:List (Addr×Obj))(s:cB)(σ:St)(H:Hp)(D:Ends),Inv X pins σ H s->t D σ H->wpAny (model X.prog X.w) X.A (execs st X.env) (SP X pins D) X.xe s
def thn (h:wpAny M A t b E s) (O:∀a s,b a s->J a s):wpAny M A t J E s:=ai h O λ_ _ x=>x
end L2
variable{X:L2.Cx}
variable{H:L2.Hp}
namespace L2
section
def ah2(i:Nat):TE:=λσ H Q=>∃v,σ[i]? = some (some v)/\Q v H
def tC(v:V):TE:=λ_ H Q=>Q v H
def mY(O:X.N[i]? = some x)(J:Vis X.env.scope x)(hd:(x==("__debug__":Str))=false:=by decide)(hcd:(x==("__classdict__":Str))=false:=by decide):PE X (.Name x pos) (ah2 i):=by
 intro pins s σ H Q I h;obtain⟨v,e,h⟩:=h;obtain⟨m,hn,hl⟩:=I.loc;obtain⟨u,r,l⟩:=hl i x v O e J;have fin:EP X pins σ Q u s:=⟨v,H,I,r,h⟩;rcases l with⟨hk,hm⟩|⟨hk,c,Y,Z⟩
 .exact br (bj I.ok.kind hk hn hm fin) hd
 .rcases hk with hk|hk
  .exact br (wpAny_loadName_cell I.ok.kind hk Y Z fin) hd
  .exact br (wpAny_loadName_free I.ok.kind hk Y Z fin hcd) hd
def Wm{i j pos}:PE X (.Constant (.int i) j pos) (tC (.int i)):=λ_ _ _ H _ I h=>wpAny_Constant_int ⟨.int i,H,I.tok _,⟨_,rfl⟩,h⟩
def MK{b j pos}:PE X (.Constant (.bool b) j pos) (tC (.bl b)):=λ_ _ _ H _ I h=>Constant_bool ⟨.bl b,H,I,rfl,h⟩
def MN{j pos}:PE X (.Constant .none j pos) (tC .non):=λ_ _ _ H _ I h=>Constant_none ⟨.non,H,I,rfl,h⟩
def Wn{x j pos}:PE X (.Constant (.str x) j pos) (tC (.str x)):=λ_ _ _ H _ I h=>Calls.Constant_str ⟨.str x,H,I.tok _,⟨_,rfl⟩,h⟩
def Gl(X:Cx)(x:Str):Prop:=X.env.kindOf x=some .globalImplicit
def uY (I:Inv X b σ H s) (J:Gl X x) (hm:X.mg x=some u) (h:c u s)
 (hd:(x==("__debug__":Str))=false:=by decide):wpAny (model X.prog X.w) X.A (eval (.Name x pos) X.env) c E s:=
 bX I.ok.kind J (Calls.loadGlobal_global (by rw[I.ok.glob];exact I.mod.glob.keeps I.bk) hm h) hd
def pW (I:Inv X b σ H s) (O:Gl X x) (hm:X.mg x=none) (J:bootBuiltins x=some u) (h:c u s)
 (hn:x≠"__name__" := by decide) (hd:(x==("__debug__":Str))=false:=by decide):wpAny (model X.prog X.w) X.A (eval (.Name x pos) X.env) c E s:=by
 obtain⟨Z,h1,h2⟩:=I.mod.blt;exact bX I.ok.kind O (Calls.loadGlobal_builtin (by rw[I.ok.glob];exact I.mod.glob.keeps I.bk) hm (by rw[I.ok.blt];exact h1.keeps I.bk) ((h2 x hn).trans J) h) hd
def Jx(J:Gl X x)(hm:X.mg x=some u)(r:RelV v u)(hd:(x==("__debug__":Str))=false:=by decide):PE X (.Name x pos) (tC v):=
 λ_ _ _ H _ I h=>uY I J hm ⟨v,H,I,r,h⟩ hd
def Jy(O:Gl X x)(hm:X.mg x=none)(J:bootBuiltins x=some u)(r:RelV v u)(hn:x≠"__name__" := by decide)(hd:(x==("__debug__":Str))=false:=by decide):PE X (.Name x pos) (tC v):=
 λ_ _ _ H _ I h=>pW I O hm J ⟨v,H,I,r,h⟩ hn hd
variable{a b:Expr}{ta tb:TE}
def PC(X:Cx)(J:eA)(a b:Expr)(t:TE):Prop:=
 ∀(pins:List (Addr×Obj))(s:cB)(σ:St)(H:Hp)(Q:VK),Inv X pins σ H s->t σ H Q ->
  wpAny (model X.prog X.w) X.A (eval a X.env) (λv Y=>wpAny (model X.prog X.w) X.A (eval b X.env) (λu Z=>wpAny (model X.prog X.w) X.A (compareOp J v u) (EP X pins σ Q) X.xe Z) X.xe Y) X.xe s
def Eu(b:Expr) (h:J ≠ .In) (h2:J ≠ .NotIn):behindInMarks J b=false:=by
 have e1:(J==CmpOp.In)=false:=by cases J<;>first|rfl|exact absurd rfl h
 have e2:(J==CmpOp.NotIn)=false:=by cases J<;>first|rfl|exact absurd rfl h2
 cases b<;>simp[behindInMarks,e1,e2]
def ah3(ta:TE):TE:=λσ H Q=>ta σ H λx H1=>Q (.bl (decide (x = .non))) H1
def Y6(ta:TE):TE:=λσ H Q=>ta σ H λx H1=>Q (.bl (!decide (x = .non))) H1
theorem RelV.none_iff (r:RelV c d):(d==cS)=decide (c = .non):=by
 cases c with
 |non=>cases r;rfl
 |bl _=>cases r;rfl
 |int _=>obtain⟨t,rfl⟩:=r;rfl
 |str _=>obtain⟨t,rfl⟩:=r;rfl
 |byt _=>obtain⟨t,rfl⟩:=r;rfl
 |flt _=>obtain⟨t,rfl⟩:=r;rfl
 |ref _=>cases r;rfl
 |ty _=>cases r;rfl
def MP{j pos'}(ha:PE X a ta):PC X .Is a (.Constant .none j pos') (ah3 ta):=by
 intro pins s σ H Q I h;refine thn (ha pins s σ H _ I h) λv s1 ⟨x,H1,Z,r1,q1⟩=>?_
 exact Constant_none (is_none_gen ⟨.bl _,H1,Z,by rw[r1.none_iff];rfl,q1⟩)
def Rt{j pos'}(ha:PE X a ta):PC X .IsNot a (.Constant .none j pos') (Y6 ta):=by
 intro pins s σ H Q I h;refine thn (ha pins s σ H _ I h) λv s1 ⟨x,H1,Z,r1,q1⟩=>?_
 exact Constant_none (isnot_none_gen ⟨.bl _,H1,Z,by rw[r1.none_iff];rfl,q1⟩)
def tB(t:TE):TT:=λσ H Q=>t σ H λx H1=>∃c,x = .bl c/\Q c H1
def Wo (h:PC X J a b t) (h1:behindInMarks J b=false:=by first|exact Eu _ (by decide) (by decide)|rfl):PE X (.Compare a [J] [b] pos) t:=λpins s σ H Q I hw=>wpAny_Compare1 (h pins s σ H Q I hw) h1
def M4 (h:PC X J a b t) (h1:behindInMarks J b=false:=by first|exact Eu _ (by decide) (by decide)|rfl):PT X (.Compare a [J] [b] pos) (tB t):=by
 intro pins s σ H Q I hw;refine wpAny_isTrue_Compare1 (thn (h pins s σ H _ I hw) λv s1 h1=>thn h1 λu s2 h2=>thn h2 λc Y ⟨x,H1,Z,r1,q1⟩=>?_) h1;obtain⟨d,rfl,q⟩:=q1
 cases r1;exact ar ⟨H1,Z,q⟩
def M5 (h:PE X e t) (J:∀whole,isTrue e X.env whole=(do let v <-whole;standAt e.pos;holding [v] (truthy v)):=by intro _;rfl):PT X e (tB t):=by
 intro pins s σ H Q I hw;refine isTrue_plain (thn (h pins s σ H _ I hw) λv s1 ⟨x,H1,Z,r1,q1⟩=>?_) (J _);obtain⟨d,rfl,q⟩:=q1
 cases r1;exact ar ⟨H1,Z,q⟩
variable{tA tB':TT}{rest:List Expr}
def rW(t u:TT):TT:=λσ H Q=>t σ H λc H1=>if c=true then u σ H1 Q else Q false H1
def tOr(t u:TT):TT:=λσ H Q=>t σ H λc H1=>if c=true then Q true H1 else u σ H1 Q
def ig(t:TT):TT:=λσ H Q=>t σ H λc H1=>Q (!c) H1
theorem Ru(ha:PT X a tA):PW X (.BoolOp .And [a] pos) tA:=by
 intro wh pins s σ H Q I h;refine isTrue_and (thn (ha pins s σ H Q I h) λc s1 e=>?_)
 cases c with
 |true=>exact isTrue_and_nil e
 |false=>exact e
theorem M6(ha:PT X a tA):PW X (.BoolOp .Or [a] pos) tA:=by
 intro wh pins s σ H Q I h;refine isTrue_or (thn (ha pins s σ H Q I h) λc s1 e=>?_)
 cases c with
 |false=>exact isTrue_or_nil e
 |true=>exact e
theorem Wq(ha:PT X a tA)(hb:PW X (.BoolOp .And (b::rest) pos) tB'):PW X (.BoolOp .And (a::b::rest) pos) (rW tA tB'):=by
 intro wh pins s σ H Q I h;refine isTrue_and (thn (ha pins s σ H _ I h) λc s1 ⟨H1,Z,q1⟩=>?_)
 cases c with
 |true=>exact hb wh pins s1 σ H1 Q Z q1
 |false=>exact⟨H1,Z,q1⟩
theorem VB(ha:PT X a tA)(hb:PW X (.BoolOp .Or (b::rest) pos) tB'):PW X (.BoolOp .Or (a::b::rest) pos) (tOr tA tB'):=by
 intro wh pins s σ H Q I h;refine isTrue_or (thn (ha pins s σ H _ I h) λc s1 ⟨H1,Z,q1⟩=>?_)
 cases c with
 |true=>exact⟨H1,Z,q1⟩
 |false=>exact hb wh pins s1 σ H1 Q Z q1
def M7(ha:PT X a tA):PT X (.UnaryOp .Not a pos) (ig tA):=by
 intro pins s σ H Q I h;exact isTrue_not (ha pins s σ H (λc H1=>Q (!c) H1) I h)
def Y7(ta tb:TE):TE:=λσ H Q=>ta σ H λx H1=>∃c,x = .bl c/\if c=true then tb σ H1 Q else Q (.bl false) H1
def Y8(ta:TE):TE:=λσ H Q=>ta σ H λx H1=>∃c,x = .bl c/\Q (.bl (!c)) H1
def Wr{J} (h:PE X a t):PE X (.BoolOp J [a] pos) t:=λpins s σ H Q I hw=>BoolOp_one (h pins s σ H Q I hw)
theorem Ws(ha:PE X a ta)(hb:PE X (.BoolOp .And (b::rest) pos) tb):PE X (.BoolOp .And (a::b::rest) pos) (Y7 ta tb):=by
 intro pins s σ H Q I h;refine BoolOp_and (thn (ha pins s σ H _ I h) λv s1 ⟨x,H1,Z,r1,q1⟩=>?_);obtain⟨c,rfl,q1⟩:=q1
 cases r1;refine ar ?_
 cases c with
 |true=>exact hb pins s1 σ H1 Q Z q1
 |false=>exact⟨.bl false,H1,Z,rfl,q1⟩
def Wt(ha:PE X a ta):PE X (.UnaryOp .Not a pos) (Y8 ta):=by
 intro pins s σ H Q I h;refine UnaryOp_ (thn (ha pins s σ H _ I h) λv s1 ⟨x,H1,Z,r1,q1⟩=>?_);obtain⟨c,rfl,q1⟩:=q1
 cases r1;exact not_of (ar ⟨.bl (!c),H1,Z,rfl,q1⟩)
end
end L2
variable{K:PySem.W.Frag}{X:L2.Cx}{n:Nat}{tg:Expr}{pos':Pos}{H':L2.Hp}
namespace L2
def SqL(K:PySem.W.Frag)(H:Hp)(a:Addr)(xs:List V):Prop:=
 Rd H a (.lst xs) \/
  ∃(o:Obj)(its:Array Value)(n:Nat),K.lookup a=some o/\o.cls = .type "list"/\o.dict=none/\o.data = .seq its n/\its.size<=sizeLine/\Vals xs its.toList
def SqT(K:PySem.W.Frag)(H:Hp)(a:Addr)(xs:List V):Prop:=
 Rd H a (.tup xs) \/
  ∃(o:Obj)(its:Array Value)(n:Nat),K.lookup a=some o/\o.cls = .type "tuple"/\o.data = .seq its n/\its.size<=sizeLine/\Vals xs its.toList
noncomputable def ah4:Value->Option V
 | .none=>some .non
 | .bool b=>some (.bl b)
 | .int i _=>some (.int i)
 | .str x _=>some (.str x)
 | .bytes b _=>some (.byt b)
 | .float b _=>some (.flt b)
 | .ref a=>some (.ref a)
 | .type n=>some (.ty n)
 |_=>none
theorem RelV.abs (r:RelV b u):ah4 u=some b:=by
 cases b with
 |non=>cases r;rfl
 |bl _=>cases r;rfl
 |int _=>obtain⟨t,rfl⟩:=r;rfl
 |str _=>obtain⟨t,rfl⟩:=r;rfl
 |byt _=>obtain⟨t,rfl⟩:=r;rfl
 |flt _=>obtain⟨t,rfl⟩:=r;rfl
 |ref _=>cases r;rfl
 |ty _=>cases r;rfl
def RelV.inj (r:RelV b u) (q:RelV y u):b=y:=dg.inj (r.abs.symm.trans q.abs)
theorem Vals.inj:∀{xs ys:List V}{us:List Value},Vals xs us->Vals ys us->xs=ys
 |_,_,_,.nil,.nil=>rfl
 |_,_,_,.cons r t,.cons Z t'=>by rw[r.inj Z,Vals.inj t t']
section
variable{X:Cx}{σ:St}{H:Hp}{ys:List V}
def SqL.of(h:H a=some (.lst xs)):SqL K H a xs:=.inl (.inl h)
def Inv.list(I:Inv X pins σ H s)(h:SqL X.K H a xs):∃its:List Value,Vals xs its/\PlainL s.heap a its.toArray/\xs.length<=sizeLine:=by
 rcases h with h|⟨o,its,n,hk,Y,hd,Z,W,r⟩
 .obtain⟨z,its,n,r,e⟩:=h.ok I.hok;exact⟨its,r,⟨_,n,e,rfl,rfl,rfl⟩,z⟩
 .refine⟨its.toList,r,⟨o,n,I.kIn a o hk,Y,hd,by simpa using Z⟩,?_⟩;have e:=r.length;simp only[dR]at e;lia
def Inv.tuple(I:Inv X pins σ H s)(h:SqT X.K H a xs):∃its:List Value,Vals xs its/\IsTup s.heap a its.toArray/\xs.length<=sizeLine:=by
 rcases h with h|⟨o,its,n,hk,Y,Z,W,r⟩
 .obtain⟨z,its,r,p⟩:=h.ok I.hok;exact⟨its,r,p,z⟩
 .refine⟨its.toList,r,⟨o,I.kIn a o hk,Y,n,by simpa using Z⟩,?_⟩;have e:=r.length;simp only[dR]at e;lia
def Inv.list_inj(I:Inv X pins σ H s)(h:SqL X.K H a xs)(h':SqL X.K H a ys):xs=ys:=by
 obtain⟨its,r,⟨o,n,e,_,_,d⟩,_⟩:=I.list h;obtain⟨Z,V,⟨o',T,Y,_,_,W⟩,_⟩:=I.list h';rw[e]at Y;cases Y;rw[d]at W;injection W with U _
 have:its=Z:=by simpa using congrArg Array.toList U
 subst this;exact r.inj V
def Inv.tuple_inj(I:Inv X pins σ H s)(h:SqT X.K H a xs)(h':SqT X.K H a ys):xs=ys:=by
 obtain⟨its,r,⟨o,e,_,n,d⟩,_⟩:=I.tuple h;obtain⟨Z,V,⟨o',Y,_,T,W⟩,_⟩:=I.tuple h';rw[e]at Y;cases Y;rw[d]at W;injection W with U _
 have:its=Z:=by simpa using congrArg Array.toList U
 subst this;exact r.inj V
end
abbrev Cx.wish(X:Cx)(E:Value->cB->Prop):Cx:={X with xe:=E}
abbrev Cx.nox(X:Cx):Cx:=X.wish λ_ _=>False
def Cx.Ok.wish(ok:X.Ok)(E:Value->cB->Prop):(X.wish E).Ok:=
 ⟨ok.mod,ok.kind,ok.glob,ok.blt,ok.above,ok.inj,ok.has,ok.cab,ok.hd,ok.frames,ok.stk,ok.exf,ok.bs,ok.bsz,ok.noex,ok.exfs,ok.funs,ok.frf⟩
def Cx.Ok.unwish(ok:(X.wish E).Ok):X.Ok:=
 ⟨ok.mod,ok.kind,ok.glob,ok.blt,ok.above,ok.inj,ok.has,ok.cab,ok.hd,ok.frames,ok.stk,ok.exf,ok.bs,ok.bsz,ok.noex,ok.exfs,ok.funs,ok.frf⟩
section
variable{X:Cx}{σ:St}{H:Hp}
def Inv.wish(I:Inv X pins σ H s)(E:Value->cB->Prop):Inv (X.wish E) pins σ H s:=⟨I.ok.wish E,I.os,I.bare,I.base,I.loc,I.cell,I.free,I.freeC,I.pin,I.hok,I.len⟩
def Inv.unwish(I:Inv (X.wish E) pins σ H s):Inv X pins σ H s:=⟨I.ok.unwish,I.os,I.bare,I.base,I.loc,I.cell,I.free,I.freeC,I.pin,I.hok,I.len⟩
theorem SP.unwish (h:SP (X.wish E) pins b f s'):SP X pins b f s':=by
 cases f with
 |next=>obtain⟨σ',H',I,q⟩:=h;exact⟨σ',H',I.unwish,q⟩
 |brk=>obtain⟨σ',H',I,q⟩:=h;exact⟨σ',H',I.unwish,q⟩
 |cont=>obtain⟨σ',H',I,q⟩:=h;exact⟨σ',H',I.unwish,q⟩
 |ret u=>obtain⟨v,σ',H',I,r,q⟩:=h;exact⟨v,σ',H',I.unwish,r,q⟩
def PE.nox{t:TE}(h:PE X.nox e t):PE X e t:=λpins s σ H Q I hw=>
 ai (h pins s σ H Q (I.wish _) hw) (λ_ _ ⟨v,H',Z,r,q⟩=>⟨v,H',Z.unwish,r,q⟩) λ_ _ z=>dS z
def PT.nox{t:TT}(h:PT X.nox e t):PT X e t:=λpins s σ H Q I hw=>
 ai (h pins s σ H Q (I.wish _) hw) (λ_ _ ⟨H',Z,q⟩=>⟨H',Z.unwish,q⟩) λ_ _ z=>dS z
def PSs.nox{st:List Stmt} (h:PSs X.nox st t):PSs X st t:=λpins s σ H D I hw=>
 ai (h pins s σ H D (I.wish _) hw) (λ_ _ q=>q.unwish) λ_ _ z=>dS z
end
section
variable{X:Cx}{st:Stmt}{rest:List Stmt}{t u:TS}{te:TE}
def Y9:TS:=λD σ H=>D.nx σ H
def ah5(t u:TS):TS:=λD σ H=>t {D with nx:=u D} σ H
def Jz:PSs X [] Y9:=λ_ _ σ H _ I h=>aS ⟨σ,H,I,h⟩
theorem yq(h1:PS X st t)(h2:PSs X rest u):PSs X (st::rest) (ah5 t u):=by
 intro pins s σ H D I h;refine bi (thn (h1 pins s σ H {D with nx:=u D} I h) λf s1 q=>?_)
 cases f with
 |next=>
  obtain⟨σ',H',Z,q⟩:=q;exact h2 pins s1 σ' H' D Z q
 |ret v=>exact q
 |brk=>exact q
 |cont=>exact q
theorem Ci(h1:PS X st t):PSs X [st] t:=by
 intro pins s σ H D I h;refine bi (thn (h1 pins s σ H D I h) λf s1 q=>?_)
 cases f with
 |next=>exact aS q
 |ret v=>exact q
 |brk=>exact q
 |cont=>exact q
def Inv.quiet (I:Inv X b σ H s):interactive X.env=false:=by simp[interactive,I.ok.kind]
def Y_(te:TE):TS:=λD σ H=>te σ H λ_ H1=>D.nx σ H1
def xO(O:PE X e te)(J:swapsWith e none pos.line X.env=pure false:=by rfl):PS X (.Expr e pos) (Y_ te):=by
 intro pins s σ H D I h;exact wpAny_Expr_any (thn (O pins s σ H _ I h) λv s1 ⟨x,H1,Z,r1,q1⟩=>⟨σ,H1,Z,q1⟩) I.quiet J
def ah6(te:TE):TS:=λD σ H=>te σ H D.rt
def Hv(J:PE X e te):PS X (.Return (some e) pos) (ah6 te):=by
 intro pins s σ H D I h;exact wpAny_Return_some (thn (J pins s σ H _ I h) λv s1 ⟨x,H1,Z,r1,q1⟩=>⟨x,σ,H1,Z,r1,q1⟩)
def ah7(c:TT)(t u:TS):TS:=λD σ H=>c σ H λb H1=>if b=true then t D σ H1 else u D σ H1
theorem M8 (J:PT X c tc) (ha:PSs X f t) (hb:PSs X b u):PS X (.If c f b pos) (ah7 tc t u):=by
 intro pins s σ H D I h;refine wpAny_If (thn (J pins s σ H _ I h) λd s1 ⟨H1,Z,q1⟩=>?_)
 cases d with
 |true=>exact ha pins s1 σ H1 D Z q1
 |false=>exact hb pins s1 σ H1 D Z q1
def Wu:TS:=λ_ _ _=>False
def M9:PS X st Wu:=λ_ _ _ _ _ _ h=>h.elim
end
abbrev TG:=V->St->Hp->(St->Hp->Prop)->Prop
abbrev TGs:=List V->St->Hp->(St->Hp->Prop)->Prop
def PG(X:Cx)(target:Expr)(t:TG):Prop:=
 ∀(pins:List (Addr×Obj))(s:cB)(σ:St)(H:Hp)(v:V)(u:Value)(Q:St->Hp->Prop),Inv X pins σ H s->RelV v u->t v σ H Q ->
  wpAny (model X.prog X.w) X.A (assign target X.env u) (λ_ s'=>∃σ' H',Inv X pins σ' H' s'/\Q σ' H') X.xe s
def PGs(X:Cx)(ts:List Expr)(t:TGs):Prop:=
 ∀(pins:List (Addr×Obj))(s:cB)(σ:St)(H:Hp)(vs:List V)(us:List Value)(Q:St->Hp->Prop),Inv X pins σ H s->Vals vs us->t vs σ H Q ->
  wpAny (model X.prog X.w) X.A (assignInOrder ((assignEach ts X.env).map (·.2)) us) (λ_ s'=>∃σ' H',Inv X pins σ' H' s'/\Q σ' H') X.xe s
abbrev Wv:=V->V->V->Hp->(Hp->Prop)->Prop
def Ww(X:Cx)(t:Wv):Prop:=
 ∀(pins:List (Addr×Obj))(s:cB)(σ:St)(H:Hp)(o i v:V)(Z Y u:Value)(Q:Hp->Prop),Inv X pins σ H s->RelV o Z->RelV i Y->RelV v u->t o i v H Q ->
  wpAny (model X.prog X.w) X.A (setItem Z Y u) (λ_ s'=>∃H',Inv X pins σ H' s'/\Q H') X.xe s
section
variable{X:Cx}
def M_(i:Nat):TG:=λv σ H Q=>Q (σ.set i (some v)) H
def Rv(Y:X.N.Nodup)(hi:X.N[i]? = some x)(J:Loc X.env.scope x)(O:X.fn x=true\/X.env.scope.names.lookup x=some .local:=by first|exact .inl rfl|exact .inr rfl|assumption):PG X (.Name x pos) (M_ i):=by
 intro pins s σ H v u Q I r h;exact wpAny_assign_Name (yj I Y hi J r (λs' Z=>⟨_,H,Z,h⟩) O)
def ah8:TGs:=λvs σ H Q=>vs=[]/\Q σ H
def Za(t:TG)(u:TGs):TGs:=λvs σ H Q=>∃v r,vs=v::r/\t v σ H λσ' H'=>u r σ' H' Q
def Rw:PGs X [] ah8:=by
 intro pins s σ H vs us Q I r h;obtain⟨e,h⟩:=h;subst e
 cases r;exact assignInOrder_nil ⟨σ,H,I,h⟩
theorem Nb (h1:PG X e t) (h2:PGs X b c)
 (J:(assignEach (e::b) X.env).map (·.2)=assign e X.env::(assignEach b X.env).map (·.2):=by rfl):PGs X (e::b) (Za t c):=by
 intro pins s σ H vs us Q I r h;obtain⟨v,W,e1,h⟩:=h;subst e1
 cases r with
 |cons r rr=>
  rw[J];refine assignInOrder_cons (thn (h1 pins s σ H _ _ _ I r h) λ_ s1 ⟨Z,H1,Y,q1⟩=>?_);exact h2 pins s1 Z H1 _ _ Q Y rr q1
def ah9(K:PySem.W.Frag)(n:Nat)(t:TGs):TG:=λv σ H Q=>∃a xs,v = .ref a/\SqT K H a xs/\xs.length=n/\t xs σ H Q
def Wx (O:X.calm=true) (h:PGs X c t)
 (hn:(assignEach c X.env).length=n:=by rfl) (J:(assignEach c X.env).findIdx? (·.1)=none:=by rfl):PG X (.Tuple c k pos) (ah9 X.K n t):=by
 intro pins s σ H v u Q I r hw;obtain⟨a,xs,e1,V,hl,hw⟩:=hw;subst e1
 cases r;obtain⟨its,Z,W,T⟩:=I.tuple V;refine assign_Tuple_tuple (I.ok.hd O) W (by simp[hn,<-hl,Z.length]) J λh' Y=>?_
 have U:=I.kept (t':=s.toks) λb o e=>Y b o (bN (ac e)) e
 exact h pins _ σ H xs _ Q U (by simpa using Z) hw
def z8(to J:TE)(t:Wv):TG:=λv σ H Q=>to σ H λo H1=>J σ H1 λi H2=>t o i v H2 λZ=>Q σ Z
def Nf (ho:PE X o to) (hi:PE X b Y) (Z:Ww X t)
 (ha:∀v,assign (.Subscript o b pos) X.env v=(do
  let J <-holding [v] (eval o X.env)
  let O <-holding [v,J] (eval b X.env)
  standAt pos
  holding [v,J,O] (setItem J O v)
  release [v,J,O] []):=by intro _;rfl):PG X (.Subscript o b pos) (z8 to Y t):=by
 intro pins s σ H v u Q I r h;rw[ha];refine aa (bg (thn (ho pins s σ H _ I h) λJ s1 ⟨x,H1,U,r1,q1⟩=>?_));refine aa (bg (thn (hi pins s1 σ H1 _ U q1) λO s2 ⟨y,H2,V,r2,q2⟩=>?_));refine aa (bo (aa (bg (thn (Z pins s2 σ H2 x y v J O u _ V r1 r2 r q2) λ_ S ⟨T,W,q3⟩=>?_))));exact wpAny_release ⟨σ,T,W,q3⟩
def Wy(te:TE)(g:TG):TS:=λD σ H=>te σ H λx H1=>g x σ H1 D.nx
def Ng (Y:PE X e te) (O:PG X tg b) (J:swapsWithSole [tg] e pos.line X.env=pure false:=by rfl) (hw:swappedStores [tg] e X.env=pure none:=by rfl)
 (h1:(assignEach [tg] X.env).map (·.2)=[assign tg X.env]:=by rfl):PS X (.Assign [tg] e pos) (Wy te b):=by
 intro pins s σ H D I h;refine wpAny_Assign_stores (thn (Y pins s σ H _ I h) λv s1 ⟨x,H1,Z,r1,q1⟩=>?_) J hw;rw[h1];exact thn (O pins s1 σ H1 x v _ Z r1 q1) λ_ s2 q=>q
def Cj (hN:X.N.Nodup) (hi:X.N[i]? = some x) (J:Loc X.env.scope x) (Z:PE X e te) (O:swapsWith e (some (.Name x pos')) pos.line X.env=pure false:=by rfl) (Y:X.fn x=true\/X.env.scope.names.lookup x=some .local:=by first|exact .inl rfl|exact .inr rfl|assumption) :
 PS X (.Assign [.Name x pos'] e pos) (Wy te (M_ i)):=by
 intro pins s σ H D I h;refine wpAny_Assign_Name (thn (Z pins s σ H _ I h) λv s1 ⟨y,H1,V,r1,q1⟩=>?_) O;exact yj V hN hi J r1 (λs2 W=>⟨_,H1,W,q1⟩) Y
end
section
variable{X:Cx}
def Wz(c:TT)(tb:TS):TS:=λD σ H=>∃W:Nat->St->Hp->Prop,(∃m,W m σ H)/\∀m σ H,W m σ H ->
 c σ H λb H1=>if b=true then ∃N:St->Hp->Prop,(∀σ' H',N σ' H'->∃Z,Z<m/\W Z σ' H')/\tb {D with nx:=N,ct:=N,bk:=D.nx} σ H1 else D.nx σ H1
theorem Nh{c:Expr}{body:List Stmt}{tc:TT}{tb:TS}(J:eu (model X.prog X.w) X.A X.env X.xe)(hc:PT X c tc)(hb:PSs X body tb):PS X (.While c body [] pos) (Wz tc tb):=by
 intro pins s σ H D I h;obtain⟨W,⟨O,w0⟩,turn⟩:=h;refine wpAny_While (codeAny_whileLoop (λn s'=>∃σ' H',Inv X pins σ' H' s'/\W n σ' H') ?_ O ⟨σ,H,I,w0⟩);rintro n s1 ⟨Y,H1,M,P⟩;refine bb J (thn (hc pins s1 Y H1 _ M (turn n Y H1 P)) λb s2 ⟨H2,Q,q2⟩=>?_)
 cases b with
 |true=>
  obtain⟨N,R,q2⟩:=q2;rw[if_pos rfl];refine bb J (thn (hb pins s2 Y H2 _ Q q2) λf L q3=>?_)
  cases f with
  |next=>
   obtain⟨Z,V,S,n3⟩:=q3;obtain⟨T,hm,U⟩:=R Z V n3;exact⟨T,hm,Z,V,S,U⟩
  |cont=>
   obtain⟨Z,V,S,n3⟩:=q3;obtain⟨T,hm,U⟩:=R Z V n3;exact⟨T,hm,Z,V,S,U⟩
  |brk=>exact q3
  |ret v=>exact q3
 |false=>
  rw[if_neg dZ];exact aS ⟨Y,H2,Q,q2⟩
end
structure It where
 go:Nat->Hp->Prop
 yld:Nat->Hp->V->Hp->Prop
 stop:Nat->Hp->Prop
def vW(X:Cx)(pins:List (Addr×Obj))(H:Hp)(b:Addr):Prop:=
 H b=none/\b≠X.env.locals/\b∉X.fs/\(b∈X.ex\/X.s₀.heap.objs.size<=b)/\(∀x c,X.env.cells.lookup x=some c->c≠b)/\∀p∈X.pn++pins,p.1≠b
def Inv.fpOk (I:Inv X d σ H s) (hb:s.heap.objs.size<=b) (hn:H' b=none):vW X d H' b:=by
 refine⟨hn,qw (bT I.lt hb),I.nofs hb,.inr (bO I.sz hb),λx c e z=>?_,λp Z z=>?_⟩
 .obtain⟨v,q⟩:=I.cell x c e;exact absurd (bT q.lt (by rwa[z])) (jf _)
 .exact absurd (bT (ac (I.pin p Z).1) (by rwa[z])) (jf _)
structure Turn(P:cN)(w:df)(K:PySem.W.Frag)(tg:Expr)(J:It)(fp:List Addr)(it:Addr)(tn:Nat->dm->Prop):Prop where
 mem:it∈fp
 obj:∀i h,tn i h->∀b∈fp,∃o,h.get? b=some o/\∀v,o.data ≠ .cell v
 keep:∀i h h',tn i h->(∀b∈fp,∀o,h.get? b=some o->h'.get? b=some o)->tn i h'
 item:∀(X:Cx),X.prog=P->X.w=w->X.K=K->X.calm=true->∀(i:Nat)(pins:List (Addr×Obj))(s:cB)(σ:St)(H:Hp)(E:Value->cB->Prop),Inv X pins σ H s->(∀b∈fp,vW X pins H b)->tn i s.heap->J.go i H ->
  wpAny (model P w) X.A (pyNext (.ref it)) (λr s1=>∃u,r=some u /\
   wpAny (model P w) X.A (letOwnedTupleGo tg (.ref it) u) (λ_ s2=>∃x H',Inv X pins σ H' s2/\RelV x u/\J.yld i H x H'/\tn (i+1) s2.heap/\∀b∈fp,H' b=none) E s1) E s
 done:∀(X:Cx),X.prog=P->X.w=w->X.K=K->X.calm=true->∀(i:Nat)(pins:List (Addr×Obj))(s:cB)(σ:St)(H:Hp)(E:Value->cB->Prop),Inv X pins σ H s->(∀b∈fp,vW X pins H b)->tn i s.heap->J.stop i H ->
  wpAny (model P w) X.A (pyNext (.ref it)) (λr s1=>r=none/\Inv X pins σ H s1) E s
 self:∀(A:db)(i:Nat)(s:cB)(Q:Value->cB->Prop)(E:Value->cB->Prop),tn i s.heap->Q (.ref it) s->wpAny (model P w) A (pyIter (.ref it)) Q E s
abbrev TI:=St->Hp->(It->Hp->Prop)->Prop
def PIE(X:Cx)(pins:List (Addr×Obj))(σ:St)(tg:Expr)(R:It->Hp->Prop)(O:Value)(s2:cB):Prop:=
 ∃(it:Addr)(fp:List Addr)(tn:Nat->dm->Prop)(J:It)(H':Hp),O = .ref it/\Inv X pins σ H' s2/\Turn X.prog X.w X.K tg J fp it tn/\tn 0 s2.heap/\(∀b∈fp,vW X pins H' b)/\R J H'
def PI(X:Cx)(tg iter:Expr)(wi:TI):Prop:=
 ∀(pins:List (Addr×Obj))(s:cB)(σ:St)(H:Hp)(R:It->Hp->Prop),Inv X pins σ H s->wi σ H R ->
  wpAny (model X.prog X.w) X.A (eval iter X.env) (λv s1=>wpAny (model X.prog X.w) X.A (pyIter v) (PIE X pins σ tg R) X.xe s1) X.xe s
def Ni {n:String}(O:s.heap.get? it=some o) (Y:o.cls = .type n) (hd:o.data = .fields vs)
 (hn:["enumerate", "zip", "dict_itemiterator", "dict_reverseitemiterator", "odict_iterator", "itertools.zip_longest", "itertools.pairwise"].contains n=false) (J:Q () s):wpAny M A (letOwnedTupleGo tg (.ref it) u) Q E s:=by
 cases tg<;>first
  |exact ag J
  | (cases u<;>first
   |exact ag J
   | (refine aa (wpAny_load O ?_)
      rw[Y,hd];show wpAny M A (if(["enumerate", "zip", "dict_itemiterator", "dict_reverseitemiterator", "odict_iterator", "itertools.zip_longest", "itertools.pairwise"].contains n&&vs[0]? == some (rawInt _))=true then _ else _) Q E s;rw[if_neg (by intro h;rw[hn,jt]at h;cases h)];exact ag J))
noncomputable def Itl(K:PySem.W.Frag)(a:Addr):It:=
 ⟨λi H=>∃xs x,SqL K H a xs/\xs[i]? = some x,λi H x H'=>H'=H/\∀xs,SqL K H a xs->xs[i]? = some x,λi H=>∃xs,SqL K H a xs/\xs.length<=i⟩
noncomputable def Itt(K:PySem.W.Frag)(a:Addr):It:=
 ⟨λi H=>∃xs x,SqT K H a xs/\xs[i]? = some x,λi H x H'=>H'=H/\∀xs,SqT K H a xs->xs[i]? = some x,λi H=>∃xs,SqT K H a xs/\xs.length<=i⟩
noncomputable def Itr(lo:Int)(n:Nat):It:=⟨λi _=>i<n,λi H x H'=>H'=H/\x = .int (lo+i),λi _=>n<=i⟩
theorem KC(a it:Addr):Turn P w K tg (Itl K a) [it] it (λi h=>h.IsListIter it a i) where
 mem:=by simp
 obj:=λi h st b hb=>by
  have e:b=it:=by simpa using hb
  subst e;obtain⟨o,e,c,d⟩:=st;exact⟨o,e,λv z=>by rw[d]at z;cases z⟩
 keep:=λi h h' st k=>st.at λo e=>k it (by simp) o e
 item:=by
  intro X T hw S M i pins s σ H E I W st U;subst T hw S;obtain⟨xs,x,Y,N⟩:=U;obtain⟨its,V,p,G⟩:=I.list Y;obtain⟨u,D,J⟩:=V.get N;obtain⟨f0,f1,f2,O,Q,R⟩:=W it (by simp);refine wpAny_pyNext_list_item st p.isList (x:=u) (by simpa using D) λh' Z L=>?_
  have B:=I.turned (t':=s.toks) (λb o hb e=>(L.2 b hb).trans e) f0 f1 O Q R;obtain⟨o,e,c,d⟩:=id Z;exact⟨u,rfl,Ni (s:={s with heap:=h'}) e c d (by decide) ⟨x,H,B,J,⟨rfl,λys F=>by rwa[I.list_inj F Y]⟩,Z,λb hb=>(W b hb).1⟩⟩
 done:=by
  intro X T hw S M i pins s σ H E I W st U;subst T hw S;obtain⟨xs,Y,N⟩:=U;obtain⟨its,V,p,G⟩:=I.list Y;obtain⟨f0,f1,f2,O,Q,R⟩:=W it (by simp);have hl:=V.length;exact wpAny_pyNext_list_end (I.ok.hd M) st p.isList (by simp;lia) λh' C=>⟨rfl,I.turned (t':=s.toks) (λb o hb e=>C b o hb e) f0 f1 O Q R⟩
 self:=λ_ _ _ _ _ st h=>wpAny_pyIter_listiter st h
theorem Hw(a it:Addr):Turn P w K tg (Itt K a) [it] it (λi h=>h.IsTupleIter it a i) where
 mem:=by simp
 obj:=λi h st b hb=>by
  have e:b=it:=by simpa using hb
  subst e;obtain⟨o,e,c,d⟩:=st;exact⟨o,e,λv z=>by rw[d]at z;cases z⟩
 keep:=λi h h' st k=>st.at λo e=>k it (by simp) o e
 item:=by
  intro X T hw S M i pins s σ H E I W st U;subst T hw S;obtain⟨xs,x,Y,N⟩:=U;obtain⟨its,V,p,G⟩:=I.tuple Y;obtain⟨u,D,J⟩:=V.get N;obtain⟨f0,f1,f2,O,Q,R⟩:=W it (by simp);refine wpAny_pyNext_tuple_item st (show s.heap.IsTuple a its.toArray from p) (x:=u) (by simpa using D) λh' Z L=>?_
  have B:=I.turned (t':=s.toks) (λb o hb e=>(L.2 b hb).trans e) f0 f1 O Q R;obtain⟨o,e,c,d⟩:=id Z;exact⟨u,rfl,Ni (s:={s with heap:=h'}) e c d (by decide) ⟨x,H,B,J,⟨rfl,λys F=>by rwa[I.tuple_inj F Y]⟩,Z,λb hb=>(W b hb).1⟩⟩
 done:=by
  intro X T hw S M i pins s σ H E I W st U;subst T hw S;obtain⟨xs,Y,N⟩:=U;obtain⟨its,V,p,G⟩:=I.tuple Y;obtain⟨f0,f1,f2,O,Q,R⟩:=W it (by simp);have hl:=V.length;exact wpAny_pyNext_tuple_end (I.ok.hd M) st (show s.heap.IsTuple a its.toArray from p) (by simp;lia) λh' C=>⟨rfl,I.turned (t':=s.toks) (λb o hb e=>C b o hb e) f0 f1 O Q R⟩
 self:=λ_ _ _ _ _ st h=>wpAny_pyIter_tupleiter st h
theorem Hy(it:Addr)(lo:Int)(n:Nat):Turn P w K tg (Itr lo n) [it] it (λi h=>IsRangeIter h it (lo+(i:Nat)*1) ((n:Int)-(i:Nat)) 1) where
 mem:=by simp
 obj:=λi h st b hb=>by
  have e:b=it:=by simpa using hb
  subst e;exact⟨_,st,λv z=>by
   have N:Data.fields _=Data.cell v:=z
   cases N⟩
 keep:=λi h h' st k=>k it (by simp) _ st
 item:=by
  intro X T hw S U i pins s σ H E I Y st V;subst T hw S;obtain⟨f0,f1,f2,O,Q,R⟩:=Y it (by simp);have W:=Walks.range (prog:=X.prog) (w:=X.w) (I.ok.hd U) it lo 1 n;refine W.item i s _ _ V st λv h' tk L Z M=>?_
  obtain⟨t,rfl⟩:=L;have G:Inv X pins σ H {s with heap:=h',toks:=tk}:=I.turned (λb o hb e=>M b o (by simpa using hb) e) f0 f1 O Q R;refine⟨_,rfl,Ni (s:={s with heap:=h',toks:=tk}) (n := "range_iterator") Z rfl rfl (by decide) ⟨.int (lo+i),H,G,⟨t,?_⟩,⟨rfl,rfl⟩,Z,λb hb=>(Y b hb).1⟩⟩;rw[Int.mul_one]
 done:=by
  intro X T hw S U i pins s σ H E I Y st V;subst T hw S;obtain⟨f0,f1,f2,O,Q,R⟩:=Y it (by simp);exact wpAny_pyNext_range_end (I.ok.hd U) st (by have:n<=i:=V;lia) λh' J=>⟨rfl,I.turned (t':=s.toks) (λb o hb e=>J b o hb e) f0 f1 O Q R⟩
 self:=λ_ _ _ _ _ st h=>wpAny_pyIter_rangeiter st h
end L2
variable{iter:Expr}
namespace L2
section
variable{X:Cx}
def Zb(K:PySem.W.Frag)(tl:TE):TI:=λσ H R=>tl σ H λx H1=>∃a,x = .ref a/\(∃xs,SqL K H1 a xs)/\R (Itl K a) H1
def ai0(K:PySem.W.Frag)(tl:TE):TI:=λσ H R=>tl σ H λx H1=>∃a,x = .ref a/\(∃xs,SqT K H1 a xs)/\R (Itt K a) H1
def JB (hl:PE X l tl):PI X tg l (Zb X.K tl):=by
 intro pins s σ H R I h;refine thn (hl pins s σ H _ I h) λv s1 ⟨x,H1,Z,r1,q1⟩=>?_
 obtain⟨a,e,⟨xs,Y⟩,q⟩:=q1;subst e
 cases r1;obtain⟨its,W,p,V⟩:=Z.list Y;refine wpAny_pyIter_list p.isList ?_;refine⟨s1.heap.objs.size,[s1.heap.objs.size],_,_,H1,rfl,Z.kept (t':=s1.toks) λb o e=>ae _ e,KC a _,⟨_,ah _ rfl,rfl,rfl⟩,λb hb=>?_,q⟩;have e:b=s1.heap.objs.size:=by simpa using hb
 subst e;exact Z.fpOk (bF _) (Z.hok.fresh (bF _))
def WD (hl:PE X l tl):PI X tg l (ai0 X.K tl):=by
 intro pins s σ H R I h;refine thn (hl pins s σ H _ I h) λv s1 ⟨x,H1,Z,r1,q1⟩=>?_
 obtain⟨a,e,⟨xs,Y⟩,q⟩:=q1;subst e
 cases r1;obtain⟨its,W,p,V⟩:=Z.tuple Y;refine wpAny_pyIter_tuple (show s1.heap.IsTuple a its.toArray from p) ?_;refine⟨s1.heap.objs.size,[s1.heap.objs.size],_,_,H1,rfl,Z.kept (t':=s1.toks) λb o e=>ae _ e,Hw a _,⟨_,ah _ rfl,rfl,rfl⟩,λb hb=>?_,q⟩;have e:b=s1.heap.objs.size:=by simpa using hb
 subst e;exact Z.fpOk (bF _) (Z.hok.fresh (bF _))
def Ew {lo hi:Int} {t u v:Tok} {tk:Nat} (I:Inv X c σ H s) (h1 : -(2^62)<=lo) (h2:lo<2^62) (O : -(2^62)<=hi) (J:hi<2^62)
 (q:R (Itr lo (hi-lo).toNat) H):wpAny (model X.prog X.w) X.A (pyIter (.ref s.heap.objs.size)) (PIE X c σ tg R) E {s with heap:=s.heap.push {cls:=.type "range", data:=.fields #[.int lo t,.int hi u,.int 1 v]},toks:=tk}:=by
 refine wpAny_pyIter_range (IsRange.new ..) (small_one h1 h2 O J) ?_;have Z:Inv X c σ H {s with heap:=s.heap.push {cls:=.type "range", data:=.fields #[.int lo t,.int hi u,.int 1 v]},toks:=tk}:=I.kept λb o e=>ae _ e
 refine⟨(s.heap.push {cls:=.type "range", data:=.fields #[.int lo t,.int hi u,.int 1 v]}).objs.size,[(s.heap.push {cls:=.type "range", data:=.fields #[.int lo t,.int hi u,.int 1 v]}).objs.size],_,_,H,rfl,
  Z.kept (t':=tk) λb o e=>ae _ e,Hy _ lo (hi-lo).toNat,?_,λb hb=>?_,q⟩
 .have e1:lo+((0:Nat):Int)*1=lo:=by simp
  have e2:(((hi-lo).toNat:Nat):Int)-((0:Nat):Int)=eC lo hi 1:=by rw[rangeSize_one];split<;>lia
  rw[e1,e2];exact ah _ rfl
 .have e:b=(s.heap.push {cls:=.type "range", data:=.fields #[.int lo t,.int hi u,.int 1 v]}).objs.size:=by simpa using hb
  subst e;exact Z.fpOk (bF _) (Z.hok.fresh (bF _))
def Zc(ta:TA):TI:=λσ H R=>ta σ H λvs H1=>∃j:Int,vs=[.int j]/\-(2^62)<=j/\j<2^62/\R (Itr 0 j.toNat) H1
def Zd(ta:TA):TI:=λσ H R=>ta σ H λvs H1=>∃i j:Int,vs=[.int i,.int j]/\(-(2^62)<=i/\i<2^62/\-(2^62)<=j/\j<2^62)/\R (Itr i (j-i).toNat) H1
theorem KD (O:Gl X "range") (hm:X.mg "range"=none) (ha:PA X [b] ta) (J:starEach [b] X.env=[(false,eval b X.env)]:=by rfl):PI X tg (.Call (.Name "range" p) [b] [] pos) (Zc ta):=by
 intro pins s σ H R I h;refine Call_ (pW I O hm boot_range (dn (thn (ha pos pins s σ H _ I h) λus s1 ⟨vs,H1,Z,r1,q1⟩=>?_) J rfl));obtain⟨j,e,q1,q2,q⟩:=q1;subst e
 cases r1 with
 |cons r rr=>
  cases rr;obtain⟨t,rfl⟩:=r;exact call_range_1 (Ew Z (by lia) (by lia) q1 q2 (by simpa using q))
theorem KH (Y:Gl X "range") (hm:X.mg "range"=none) (ha:PA X [c,b] ta) (O:starEach [c,b] X.env=[(false,eval c X.env),(false,eval b X.env)]:=by rfl) (J:starEach [b] X.env=[(false,eval b X.env)]:=by rfl) :
 PI X tg (.Call (.Name "range" p) [c,b] [] pos) (Zd ta):=by
 intro pins s σ H R I h;refine Call_ (pW I Y hm boot_range (dn (thn (ha pos pins s σ H _ I h) λus s1 ⟨vs,H1,W,r1,q1⟩=>?_) (by rw[O,J]) (by rw[J];rfl)));obtain⟨i,j,e,⟨q1,q2,q3,q4⟩,q⟩:=q1;subst e
 cases r1 with
 |cons r rr=>
  cases rr with
  |cons Z rr=>
   cases rr;obtain⟨t,rfl⟩:=r;obtain⟨t',rfl⟩:=Z;exact call_range_2 (Ew W q1 q2 q3 q4 q)
def ai1(wi:TI)(g:TG)(tb:TS):TS:=λD σ H=>wi σ H λJ H1=>∃W:Nat->Nat->St->Hp->Prop,(∃m,W 0 m σ H1)/\∀i m σ H,W i m σ H ->
 (J.stop i H/\D.nx σ H)\/(J.go i H/\∃N:St->Hp->Prop,(∀σ' H',N σ' H'->∃Y,Y<m/\W (i+1) Y σ' H')/\∀x H',J.yld i H x H'->g x σ H' λZ H2=>tb {D with nx:=N,ct:=N,bk:=D.nx} Z H2)
def yt(fp:List Addr)(h:dm):List (Addr×Obj):=fp.filterMap λb=>(h.get? b).map λo=>(b,o)
def qQ (hb:b∈fp) (e:h.get? b=some o):(b,o)∈yt fp h:=f9.mpr ⟨b,hb,by rw[e];rfl⟩
theorem KJ (J:c∈yt fp h):c.1∈fp/\h.get? c.1=some c.2:=by
 obtain⟨b,hb,e⟩:=f9.mp J
 cases q:h.get? b with
 |none=>rw[q]at e;cases e
 |some o=>
  rw[q]at e;have Z:(b,o)=c:=dg.inj e;subst Z;exact⟨hb,q⟩
def Inv.pinned (I:Inv X c σ H s) (O:∀b∈fp,vW X c H b) (J:∀b∈fp,∃o,s.heap.get? b=some o/\∀v,o.data ≠ .cell v):Inv X (c++yt fp s.heap) σ H s:=
 I.pins_of λp Y=>(aR.mp Y).elim (λz=>I.pin p (aL _ z)) λz=>by
  obtain⟨hb,e⟩:=KJ z;obtain⟨f0,f1,f2,_⟩:=O p.1 hb;obtain⟨o,Z,d⟩:=J p.1 hb;rw[e]at Z;cases Z;exact⟨e,f0,f1,f2,d⟩
def Inv.unpinned (I:Inv X (b++pl) σ H s):Inv X b σ H s:=I.pins_of λp Z=>I.pin p (aL _ (aU _ Z))
def Nj (O:eu (model X.prog X.w) X.A X.env X.xe) (hc:X.calm=true) (hi:PI X tg iter wi) (hg:PG X tg q1) (hb:PSs X q0 tb)
 (hs:∀x,foldedSetIterable iter X.env x=pure x:=by intro _;rfl):PS X (.For tg iter q0 [] pos) (ai1 wi q1 tb):=by
 intro pins s σ H D I h;refine wpAny_For (thn (hi pins s σ H _ I h) λv s1 h1=>thn h1 λitv s2 h2=>?_) hs;obtain⟨it,fp,tn,J,H2,e,I2,T,G,f2,W,⟨m0,w0⟩,turn⟩:=h2;subst e;have V:∀{H':Hp},(∀b∈fp,H' b=none)->∀b∈fp,vW X pins H' b:=λhn b hb=>⟨hn b hb,(f2 b hb).2⟩
 refine codeAny_forLoop_any (λn s'=>∃i σ' H',Inv X pins σ' H' s'/\tn i s'.heap/\(∀b∈fp,H' b=none)/\W i n σ' H') ?_ m0 ⟨0,σ,H2,I2,G,λb hb=>(f2 b hb).1,w0⟩;rintro n y ⟨i,Y,L,t,Q,M,k⟩;rcases turn i n Y L k with⟨stop,qn⟩|⟨go,N,hN,step⟩
 .refine bb O (thn (T.done X rfl rfl rfl hc i pins y Y L X.xe t (V M) Q stop) λr c ⟨E,I4⟩=>?_);subst E;exact aS ⟨Y,L,I4,qn⟩
 .refine bb O (thn (T.item X rfl rfl rfl hc i pins y Y L X.xe t (V M) Q go) λr c ⟨u,E,h4⟩=>?_);subst E;refine bb O (thn h4 λ_ z ⟨x,q,I5,r5,p,R,C⟩=>?_);have B:=I5.pinned (V C) (T.obj _ _ R);refine bb O (thn (hg _ z Y q x u _ B r5 (step x q p)) λ_ j ⟨K,H6,I6,q6⟩=>?_);refine bb O (thn (hb _ j K H6 _ I6 q6) λf F q7=>?_);have again:∀{Z:St}{S:Hp},Inv X (pins++yt fp z.heap) Z S F->N Z S->∃m,m<n/\∃i σ' H',Inv X pins σ' H' F/\tn i F.heap/\(∀b∈fp,H' b=none)/\W i m σ' H':=λ{Z S} U P=>by
   obtain⟨m',hm,l⟩:=hN Z S P;refine⟨m',hm,i+1,Z,S,U.unpinned,T.keep _ _ _ R λb hb o e=>(U.pin (b,o) (aL _ (aL _ (qQ hb e)))).1,λb hb=>?_,l⟩;obtain⟨o,e,d⟩:=T.obj _ _ R b hb;exact(U.pin (b,o) (aL _ (aL _ (qQ hb e)))).2.1
  cases f with
  |next=>obtain⟨Z,S,U,P⟩:=q7;exact again U P
  |cont=>obtain⟨Z,S,U,P⟩:=q7;exact again U P
  |brk=>obtain⟨Z,S,U,q7⟩:=q7;exact⟨Z,S,U.unpinned,q7⟩
  |ret v=>obtain⟨x7,Z,S,U,a,q7⟩:=q7;exact⟨x7,Z,S,U.unpinned,a,q7⟩
end
end L2
namespace L2
abbrev R2:=V->V->Hp->VK->Prop
def OpR(X:Cx)(f:Value->Value->Sem Value)(r:R2):Prop:=
 ∀(pins:List (Addr×Obj))(s:cB)(σ:St)(H:Hp)(x y:V)(v u:Value)(Q:VK),Inv X pins σ H s->RelV x v->RelV y u->r x y H Q ->
  wpAny (model X.prog X.w) X.A (f v u) (EP X pins σ Q) X.xe s
def UnR(X:Cx)(f:Value->Sem Value)(r:V->Hp->VK->Prop):Prop:=
 ∀(pins:List (Addr×Obj))(s:cB)(σ:St)(H:Hp)(x:V)(v:Value)(Q:VK),Inv X pins σ H s->RelV x v->r x H Q ->
  wpAny (model X.prog X.w) X.A (f v) (EP X pins σ Q) X.xe s
def nA(X:Cx)(f:Value)(r:List V->Hp->VK->Prop):Prop:=
 ∀(pins:List (Addr×Obj))(s:cB)(σ:St)(H:Hp)(xs:List V)(us:List Value)(Q:VK),Inv X pins σ H s->Vals xs us->r xs H Q ->
  wpAny (model X.prog X.w) X.A (call f us) (EP X pins σ Q) X.xe s
def tOp(r:R2)(ta tb:TE):TE:=λσ H Q=>ta σ H λx H1=>tb σ H1 λy H2=>r x y H2 Q
def tUn(r:V->Hp->VK->Prop)(ta:TE):TE:=λσ H Q=>ta σ H λx H1=>r x H1 Q
def rI(C:Int->Int->Prop)(g:Int->Int->V):R2:=λx y H Q=>∃i j,x = .int i/\y = .int j/\C i j/\Q (g i j) H
def rI0(g:Int->Int->V):R2:=λx y H Q=>∃i j,x = .int i/\y = .int j/\Q (g i j) H
def rU(g:Int->V):V->Hp->VK->Prop:=λx H Q=>∃i,x = .int i/\Q (g i) H
section
variable{X:Cx}{a b c:Expr}{ta tb tc:TE}
def WK(ha:PE X a ta)(hb:PE X b tb) {R:V->V->Hp->Prop} (I:Inv X d σ l k)
 (h:ta σ l λx H1=>tb σ H1 λy H2=>R x y H2) {Q:Value->cB->Prop} {f:Value->Value->Sem Value}
 (Y:∀v u s2 x y H2,Inv X d σ H2 s2->RelV x v->RelV y u->R x y H2->wpAny (model X.prog X.w) X.A (f v u) Q X.xe s2) :
 wpAny (model X.prog X.w) X.A (eval a X.env) (λv O=>wpAny (model X.prog X.w) X.A (eval b X.env) (λu J=>wpAny (model X.prog X.w) X.A (f v u) Q X.xe J) X.xe O) X.xe k:=by
 refine thn (ha d k σ l _ I h) λv s1 ⟨x,H1,W,r1,q1⟩=>?_
 refine thn (hb d s1 σ H1 _ W q1) λu s2 ⟨y,H2,Z,r2,q2⟩=>?_
 exact Y v u s2 x y H2 Z r1 r2 q2
def Nk (O:OpR X (binaryOp J) r) (ha:PE X a ta) (hb:PE X b tb):PE X (.BinOp a J b pos) (tOp r ta tb):=by
 intro pins s σ H Q I h;exact wpAny_BinOp (WK ha hb I h λv u s2 x y H2 W Y Z q=>O pins s2 σ H2 x y v u Q W Y Z q)
def Ze (O:UnR X (unaryOp J) r) (ha:PE X a ta):PE X (.UnaryOp J a pos) (tUn r ta):=by
 intro pins s σ H Q I h;exact UnaryOp_ (thn (ha pins s σ H _ I h) λv s1 ⟨x,H1,Z,r1,q1⟩=>O pins s1 σ H1 x v Q Z r1 q1)
def opI {g:Int->Int->Int}
 (rule:∀(i j:Int)(t u:Tok)(s:cB)(Q:Value->cB->Prop)(E:Value->cB->Prop),C i j->Q (.int (g i j) s.toks) {s with toks:=s.toks+1}->wpAny (model X.prog X.w) X.A (f (.int i t) (.int j u)) Q E s) :
 OpR X f (rI C λi j=>.int (g i j)):=by
 intro pins s σ H x y v u Q I Y Z h;obtain⟨i,j,rfl,rfl,W,q⟩:=h;obtain⟨t,rfl⟩:=Y;obtain⟨t',rfl⟩:=Z;exact rule i j t t' s _ _ W ⟨.int (g i j),H,I.tok _,⟨_,rfl⟩,q⟩
def Zf {g:Int->Int->Int}
 (rule:∀(i j:Int)(t u:Tok)(s:cB)(Q:Value->cB->Prop)(E:Value->cB->Prop),Q (.int (g i j) s.toks) {s with toks:=s.toks+1}->wpAny (model X.prog X.w) X.A (f (.int i t) (.int j u)) Q E s) :
 OpR X f (rI0 λi j=>.int (g i j)):=by
 intro pins s σ H x y v u Q I Y Z h;obtain⟨i,j,rfl,rfl,q⟩:=h;obtain⟨t,rfl⟩:=Y;obtain⟨t',rfl⟩:=Z;exact rule i j t t' s _ _ ⟨.int (g i j),H,I.tok _,⟨_,rfl⟩,q⟩
def Rx {g:Int->Int->Bool}
 (rule:∀(i j:Int)(t u:Tok)(s:cB)(Q:Value->cB->Prop)(E:Value->cB->Prop),Q (.bool (g i j)) s->wpAny (model X.prog X.w) X.A (f (.int i t) (.int j u)) Q E s) :
 OpR X f (rI0 λi j=>.bl (g i j)):=by
 intro pins s σ H x y v u Q I Y Z h;obtain⟨i,j,rfl,rfl,q⟩:=h;obtain⟨t,rfl⟩:=Y;obtain⟨t',rfl⟩:=Z;exact rule i j t t' s _ _ ⟨.bl (g i j),H,I,rfl,q⟩
def WL(i j:Int):Prop:=0<=j/\j<=1000000/\i.natAbs<2^64
def fP:OpR X (binaryOp .Add) (rI0 λi j=>.int (i+j)):=Zf λ_ _ _ _ _ _ _ q=>add_int q
def vX:OpR X (binaryOp .Sub) (rI0 λi j=>.int (i-j)):=Zf λ_ _ _ _ _ _ _ q=>sub_int q
def m9:OpR X (binaryOp .Mod) (rI (λ_ j=>j≠0) λi j=>.int (i.fmod j)):=opI λ_ _ _ _ _ _ _ Z q=>mod_int' Z q
def yu:OpR X (binaryOp .Pow) (rI WL λi j=>.int (i^j.toNat)):=opI λ_ _ _ _ _ _ _ Z q=>pow_int_small Z.1 Z.2.1 Z.2.2 q
def unI {g:Int->Int}
 (rule:∀(i:Int)(t:Tok)(s:cB)(Q:Value->cB->Prop)(E:Value->cB->Prop),Q (.int (g i) s.toks) {s with toks:=s.toks+1}->wpAny (model X.prog X.w) X.A (f (.int i t)) Q E s) :
 UnR X f (rU λi=>.int (g i)):=by
 intro pins s σ H x v Q I Z h;obtain⟨i,rfl,q⟩:=h;obtain⟨t,rfl⟩:=Z;exact rule i t s _ _ ⟨.int (g i),H,I.tok _,⟨_,rfl⟩,q⟩
def WM:UnR X (unaryOp .USub) (rU λi=>.int (-i)):=unI λ_ _ _ _ _ q=>neg_int q
end
section
variable{X:Cx}{a b c:Expr}{ta tb tc:TE}
def lq:OpR X (compareOp .Lt) (rI0 λi j=>.bl (decide (i<j))):=Rx λ_ _ _ _ _ _ _ q=>lt_int q
def qg:OpR X (compareOp .LtE) (rI0 λi j=>.bl (decide (i<=j))):=Rx λ_ _ _ _ _ _ _ q=>le_int q
def wN:OpR X (compareOp .Gt) (rI0 λi j=>.bl (decide (j<i))):=Rx λ_ _ _ _ _ _ _ q=>gt_int q
def wO:OpR X (compareOp .GtE) (rI0 λi j=>.bl (decide (j<=i))):=Rx λ_ _ _ _ _ _ _ q=>ge_int q
def cG(b:Expr) (h:J ≠ .In:=by decide) (h2:J ≠ .NotIn:=by decide):behindInMarks J b=false:=by
 have e1:(J==CmpOp.In)=false:=by cases J<;>first|rfl|exact absurd rfl h
 have e2:(J==CmpOp.NotIn)=false:=by cases J<;>first|rfl|exact absurd rfl h2
 cases b<;>simp[behindInMarks,e1,e2]
def Ry (O:OpR X (compareOp J) r) (ha:PE X a ta) (hb:PE X b tb) (hm:behindInMarks J b=false):PE X (.Compare a [J] [b] pos) (tOp r ta tb):=by
 intro pins s σ H Q I h;exact wpAny_Compare1 (WK ha hb I h λv u s2 x y H2 W Y Z q=>O pins s2 σ H2 x y v u Q W Y Z q) hm
def VD(t:TE):TT:=λσ H Q=>t σ H λx H'=>∃k,x = .bl k/\Q k H'
def Rz (O:OpR X (compareOp J) r) (ha:PE X a ta) (hb:PE X b tb) (hm:behindInMarks J b=false):PT X (.Compare a [J] [b] pos) (VD (tOp r ta tb)):=by
 intro pins s σ H Q I h;refine wpAny_isTrue_Compare1 (thn (ha pins s σ H _ I h) λv s1 ⟨x,H1,W,r1,q1⟩=>thn (hb pins s1 σ H1 _ W q1) λu s2 ⟨y,H2,Y,r2,q2⟩=>
  thn (O pins s2 σ H2 x y v u _ Y r1 r2 q2) λc U ⟨z,V,Z,r3,k,e,q3⟩=>?_) hm
 subst e
 cases r3;exact ar ⟨V,Z,q3⟩
noncomputable def Nm(r J:R2)(ta tb tc:TE):TE:=λσ H Q=>ta σ H λx H1=>tb σ H1 λy H2=>r x y H2 λz Z=>∃k,z = .bl k /\
 (if k=true then tc σ Z λY X=>J y Y X Q else Q (.bl false) Z)
theorem Np (ho:OpR X (compareOp O) r) (Y:OpR X (compareOp J) Z) (ha:PE X a ta) (hb:PE X b tb) (hc:PE X c tc)
 (hm:lastMarks [O,J] [b,c]=false:=by with_unfolding_all rfl):PE X (.Compare a [O,J] [b,c] pos) (Nm r Z ta tb tc):=by
 intro pins s σ H Q I h;refine Compare_chain (thn (ha pins s σ H _ I h) λv s1 ⟨x,H1,L,r1,q1⟩=>chain_link (thn (hb pins s1 σ H1 _ L q1) λu s2 ⟨y,H2,M,r2,q2⟩=>
  thn (ho pins s2 σ H2 x y v u _ M r1 r2 q2) λd R ⟨z,V,W,r3,k,e,q3⟩=>?_)) hm
 subst e
 cases r3;refine ar ?_
 cases k with
 |false=>exact ite_ff ⟨.bl false,V,W,rfl,q3⟩
 |true=>exact ite_tt (chain_last (thn (hc pins R σ V _ W q3) λT S ⟨U,K,N,P,q4⟩=>Y pins S σ K y U u T Q N r2 P q4))
theorem Nq (ho:OpR X (compareOp O) r) (Y:OpR X (compareOp J) Z) (ha:PE X a ta) (hb:PE X b tb) (hc:PE X c tc)
 (hm:lastMarks [O,J] [b,c]=false:=by with_unfolding_all rfl):PT X (.Compare a [O,J] [b,c] pos) (VD (Nm r Z ta tb tc)):=by
 intro pins s σ H Q I h;refine isTrue_chain (thn (ha pins s σ H _ I h) λv s1 ⟨x,H1,E,r1,q1⟩=>test_link (thn (hb pins s1 σ H1 _ E q1) λu s2 ⟨y,H2,F,r2,q2⟩=>
  thn (ho pins s2 σ H2 x y v u _ F r1 r2 q2) λd R ⟨z,V,W,r3,k,e,q3⟩=>?_)) hm
 subst e
 cases r3;refine ar ?_
 cases k with
 |false=>
  obtain⟨w,L,M⟩:=q3
  cases L;exact ite_ff ⟨V,W,M⟩
 |true=>
  refine ite_tt (test_last (thn (hc pins R σ V _ W q3) λT S ⟨U,C,G,N,q4⟩=>thn (Y pins S σ C y U u T _ G r2 N q4) λt A ⟨B,D,K,P,k2,e2,q5⟩=>?_));subst e2
  cases P;exact ar ⟨D,K,q5⟩
def vY:(sizeLine:Nat)<2^63:=by rw[sizeLine_eq];decide
theorem vals1 (r:Vals [d] us):∃u,us=[u]/\RelV d u:=by
 cases r with
 |cons r1 r2=>cases r2;exact⟨_,rfl,r1⟩
theorem vals2 (r:Vals [d,y] us):∃u J,us=[u,J]/\RelV d u/\RelV y J:=by
 cases r with
 |cons r1 r2=>
  cases r2 with
  |cons r3 Z=>cases Z;exact⟨_,_,rfl,r1,r3⟩
def oO(J:X.calm=true):nA X (.builtin "max") (λxs H Q=>∃i j,xs=[.int i,.int j]/\Q (.int (if j>i then j else i)) H):=by
 intro pins s σ H xs us Q I r h;obtain⟨i,j,rfl,q⟩:=h;obtain⟨u,Y,rfl,⟨t,rfl⟩,⟨t',rfl⟩⟩:=vals2 r;refine max_two_ints (I.ok.hd J) λh' tk k=>⟨_,H,I.kept k,?_,q⟩
 by_cases Z:j>i
 .rw[if_pos Z,if_pos Z];exact⟨_,rfl⟩
 .rw[if_neg Z,if_neg Z];exact⟨_,rfl⟩
def mZ(J:X.calm=true):nA X (.builtin "min") (λxs H Q=>∃i j,xs=[.int i,.int j]/\Q (.int (if j<i then j else i)) H):=by
 intro pins s σ H xs us Q I r h;obtain⟨i,j,rfl,q⟩:=h;obtain⟨u,Y,rfl,⟨t,rfl⟩,⟨t',rfl⟩⟩:=vals2 r;refine min_two_ints (I.ok.hd J) λh' tk k=>⟨_,H,I.kept k,?_,q⟩
 by_cases Z:j<i
 .rw[if_pos Z,if_pos Z];exact⟨_,rfl⟩
 .rw[if_neg Z,if_neg Z];exact⟨_,rfl⟩
def KN:nA X (.type "int") (λxs H Q=>(∃i,xs=[.int i]/\Q (.int i) H)\/∃k,xs=[.bl k]/\Q (.int (if k then 1 else 0)) H):=by
 intro pins s σ H xs us Q I r h;rcases h with⟨i,rfl,q⟩|⟨k,rfl,q⟩
 .obtain⟨u,rfl,t,rfl⟩:=vals1 r;exact call_int_int ⟨.int i,H,I,⟨_,rfl⟩,q⟩
 .obtain⟨u,rfl,r1⟩:=vals1 r
  cases r1;exact call_int_bool ⟨.int (if k then 1 else 0),H,I.tok _,⟨_,rfl⟩,q⟩
end
end L2
variable{C:Addr}{env:Env}{f:Str}
namespace L2
structure ObjM(h:dm)(x dx C:Addr)(mA:Str->Option Value):Prop where
 obj:h.get? x=some (PySem.W.instObj C dx)
 ns:h.Ns1 dx mA
 ne:dx≠x
def Ax (n:h.Ns1 b mA):∃od,h.get? b=some od/\∀name,PySem.W.lookIn name od=some (mA name):=by
 obtain⟨o,es,U,X,hd,hk,_,hm⟩:=n;refine⟨o,X,λname=>?_⟩;have e:=hm name;unfold nsFind findBy at e;rw[<-uE]at e;unfold PySem.W.lookIn;rw[hd];dsimp only;split
 .rename_i y q;rw[q]at e;exact congrArg some e
 .rename_i q;rw[q]at e;have a:es.toList.any (·.refKey)=false:=by
   rw[List.any_eq_false];intro y Y;obtain⟨z,t,Z⟩:=hk y (rO.mp Y);simp[DictEntry.refKey,Z]
  have V:¬es.toList.any (·.refKey)=true:=by rw[a];exact dZ
  rw[if_neg V];exact congrArg some e
def ObjM.look (I:ObjM h b c C mA):∃od,PySem.W.InstAt h b (PySem.W.instObj C c) C (some od)/\∀name,PySem.W.lookIn name od=some (mA name):=
 let⟨od,Z,hl⟩:=Ax I.ns
 ⟨od,⟨I.obj,rfl,rfl,Z⟩,hl⟩
section
variable{prog:cN}{x dx f:Addr}{mA:Str->Option Value}{v:Value}
end
theorem vV.some_of (r:vV (some v) o):∃u,o=some u/\RelV v u:=by
 cases o with
 |none=>exact(show False from r).elim
 |some u=>exact⟨u,rfl,r⟩
theorem KQ(r:RelV v u):PySem.W.handedIn u=true:=by
 cases v with
 |non=>cases(show u=cS from r);rfl
 |bl b=>cases(show u=dE b from r);rfl
 |int i=>obtain⟨t,e⟩:=(show ∃t,u=ee i t from r);cases e;rfl
 |str x=>obtain⟨t,e⟩:=(show ∃t,u=ew x t from r);cases e;rfl
 |byt b=>obtain⟨t,e⟩:=(show ∃t,u=Value.bytes b t from r);cases e;rfl
 |flt b=>obtain⟨t,e⟩:=(show ∃t,u=Value.float b t from r);cases e;rfl
 |ref a=>cases(show u=c0 a from r);rfl
 |ty n=>cases(show u=Value.type n from r);rfl
section
variable{H H':Hp}{dx:Addr}{fs fs':List (Str×V)}
def RB(hok:HOk P w H h)(e:H a=some (.ins C dx fs)):∃mA,ObjM h a dx C mA/\(∀f,vV (fs.lookup f) (mA f))/\PySem.Within mA (fs.map (·.1))/\fs.length<=1000/\H dx=some (.own a):=by
 obtain⟨d,z,ne,Z,mA,n,r,q⟩:=(show iB P w H h a (.ins C dx fs)from hok a _ e);exact⟨mA,⟨Z,n,ne⟩,r,q,z,d⟩
end
structure Cls(K:PySem.W.Frag)(C:Addr):Prop where
 pg:PySem.W.plainGet K C Str.empty=true
 hd:PySem.W.hasDictIn K C=true
 po:PySem.W.plainOver K C=true
 sa:PySem.W.findIn K (.ref C) "__setattr__"=some (some (.builtin "object.__setattr__"))
def Cls.get(c:Cls K C)(f:Str):PySem.W.plainGet K C f=true:=c.pg
structure Con(K:PySem.W.Frag)(C:Addr)(f:Str)(v:V)(u:Value):Prop where
 at_:PySem.W.findIn K (.ref C) f=some (some u)
 rel:RelV v u
 get:PySem.W.specialIn K u "__get__"=some none
 cp:PySem.W.copiedNames.contains f=false
structure Meth(K:PySem.W.Frag)(C:Addr)(m:Str)(f:Addr):Prop where
 at_:PySem.W.findIn K (.ref C) m=some (some (.ref f))
 fn:PySem.W.isFn K (.ref f)=true
 kp:PySem.W.keepIn K (.ref f)=true
section
variable{X:Cx}{σ:St}{H:Hp}{dx:Addr}{fs:List (Str×V)}{v:V}
def RD{prog:cN}{Q:Value->cB->Prop}(hb:attributeBase e f env (eval e env)=eval e env)
 (h:wpAny (model prog w) A (eval e env) (λo J=>wpAny (model prog w) A (getAttr o f true) Q E J) E s):wpAny (model prog w) A (eval (.Attribute e f pos) env) Q E s:=
 Attribute_any_ h (by rw[arm_eval_Attribute,hb])
end
section
variable{X:Cx}{o value:Expr}{ta tv:TE}
end
section
variable{X:Cx}{σ:St}{H:Hp}{Q:Value->cB->Prop}{c:Value}{b:Bool}
inductive TyOf(K:PySem.W.Frag)(H:Hp):V->Value->Prop where
 |non:TyOf K H .non (.type "NoneType")
 |bl (x:Bool):TyOf K H (.bl x) (.type "bool")
 |int (i:Int):TyOf K H (.int i) (.type "int")
 |str (x:Str):TyOf K H (.str x) (.type "str")
 |flt (x:UInt64):TyOf K H (.flt x) (.type "float")
 |lst {a:Addr} {xs:List V} (e:H a=some (.lst xs)):TyOf K H (.ref a) (.type "list")
 |frz {a:Addr} {o:Obj} {xs:List V} (e:H a=some (.frz o (.lst xs))):TyOf K H (.ref a) (.type "list")
 |tup {a:Addr} {xs:List V} (e:H a=some (.tup xs)):TyOf K H (.ref a) (.type "tuple")
 |dK {a:Addr} {kvs:List (Key×V)} (e:H a=some (.dK kvs)):TyOf K H (.ref a) (.type "dict")
 |dT {a:Addr} {kvs:List (List Key×V)} (e:H a=some (.dT kvs)):TyOf K H (.ref a) (.type "dict")
 |ins {a C dx:Addr} {fs:List (Str×V)} (e:H a=some (.ins C dx fs)) (cl:Cls K C) (ha:PySem.W.findIn K (.ref C) "__class__"=some (some (.builtin "object.__class__")))
  (hn:PySem.W.specialIn K (.builtin "object.__class__") "__get__"=some (some (.builtin "getset_descriptor.__get__"))) (htk:PySem.W.takesIn K (.builtin "object.__class__")=some true)
  (hm:PySem.W.mroIn K C (.type "object")=some true):TyOf K H (.ref a) (.ref C)
theorem Ay (I:Inv X pins σ H s) (Y:RelV d u) (ty:TyOf X.K H d t) (e:PySem.W.kitOne X.K t c=some b) (h:∀tk,Q (.bool b) {s with toks:=tk}) :
 wpAny (model X.prog X.w) A (call (.builtin "isinstance") [u,c]) Q E s:=by
 cases ty with
 |non=>cases(show u=cS from Y);exact PySem.W.kia_one PySem.W.kitx_none I.kIn dy e (λz=>nomatch z) h
 |bl y=>cases(show u=dE y from Y);exact PySem.W.kia_one PySem.W.kitx_bool I.kIn dy e (λz=>nomatch z) h
 |int i=>obtain⟨t,q⟩:=(show ∃t,u=ee i t from Y);cases q;exact PySem.W.kia_one PySem.W.kitx_int I.kIn dy e (λz=>nomatch z) h
 |str y=>obtain⟨t,q⟩:=(show ∃t,u=ew y t from Y);cases q;exact PySem.W.kia_one PySem.W.kitx_str I.kIn dy e (λz=>nomatch z) h
 |flt y=>obtain⟨t,q⟩:=(show ∃t,u=Value.float y t from Y);cases q;exact PySem.W.kia_one PySem.W.kitx_float I.kIn dy e (λz=>nomatch z) h
 | @lst a xs ea=>
  cases(show u=c0 a from Y);obtain⟨_,_,n,_,h1⟩:=(show iB X.prog X.w H s.heap a (.lst xs)from I.hok a _ ea);exact PySem.W.kia_one PySem.W.kitx_list I.kIn ⟨_,h1,rfl⟩ e (λz=>nomatch z) h
 | @frz a Z xs ea=>
  cases(show u=c0 a from Y);obtain⟨_,_,_,n,_,h1⟩:=(show iB X.prog X.w H s.heap a (.frz Z (.lst xs))from I.hok a _ ea);exact PySem.W.kia_one PySem.W.kitx_list I.kIn ⟨_,h1,rfl⟩ e (λz=>nomatch z) h
 | @tup a xs ea=>
  cases(show u=c0 a from Y);obtain⟨_,_,_,p⟩:=(show iB X.prog X.w H s.heap a (.tup xs)from I.hok a _ ea);obtain⟨o,h1,h2,_⟩:=p;exact PySem.W.kia_one PySem.W.kitx_tuple I.kIn ⟨o,h1,h2⟩ e (λz=>nomatch z) h
 | @dK a kvs ea=>
  cases(show u=c0 a from Y);obtain⟨_,_,vs,_,p⟩:=(show iB X.prog X.w H s.heap a (.dK kvs)from I.hok a _ ea);obtain⟨o,es,U,h1,h2,_⟩:=p;exact PySem.W.kia_one PySem.W.kitx_dict I.kIn ⟨o,h1,h2.1⟩ e (λz=>nomatch z) h
 | @dT a kvs ea=>
  cases(show u=c0 a from Y);obtain⟨_,_,xs,_,o,es,U,h1,h2,_⟩:=(show iB X.prog X.w H s.heap a (.dT kvs)from I.hok a _ ea);exact PySem.W.kia_one PySem.W.kitx_dict I.kIn ⟨o,h1,h2.1⟩ e (λz=>nomatch z) h
 | @ins a C dx fs ea cl ha hn htk hm=>
  cases(show u=c0 a from Y);obtain⟨mA,O,_⟩:=RB I.hok ea;obtain⟨od,J,_⟩:=O.look;exact PySem.W.kia_one (PySem.W.kitx_own (cl.get _) cl.hd ha hn htk hm) I.kIn J e (λz=>nomatch z) h
end
end L2
variable{mg:Str->Option Value}{base:dm}{fd:du}{vs:List L2.V}{cd pm ct oc:Value}{an od:Option Addr}
namespace L2
structure Room(k:Nat)(A:db):Prop where
 hd:A.handled=none
 dp:A.depth+3*k+5<recursionLimit
 un:A.units+16*k+200<cLine
def Room.mono (r:Room k A) (h:j<=k):Room j A:=⟨r.hd,by have:=r.dp;lia,by have:=r.un;lia⟩
def Room.deeper (r:Room (k+1) A) (env:Env):Room k (A.deeper env):=
 ⟨r.hd,by have:=r.dp;show A.depth+1+3*k+5<_;lia,by have:=r.un;show A.units+3+16*k+200<_;lia⟩
def Hz{J:List (Str×Value)}:(A.under (.builtin "type.__call__" ⟨.ref C::us,J⟩)).depth=A.depth+1:=by
 first|rfl|simp[Around.under,Code.weight,Code.isCreation,Code.isGuard,Code.isCaller,Code.frames,Code.isFrame,guardIds]
def HB{J:List (Str×Value)}:(A.under (.builtin "type.__call__" ⟨.ref C::us,J⟩)).units=A.units+1:=by
 first|rfl|simp[Around.under,Code.cUnits,Code.frames,Code.isFrame]
def Room.make{k:Nat}(r:Room (k+1) A)(C:Addr)(us:List Value)(J:List (Str×Value)):Room k (A.under (.builtin "type.__call__" ⟨.ref C::us,J⟩)):=
 ⟨r.hd,by have:=r.dp;rw[Hz];lia,by have:=r.un;rw[HB];lia⟩
def Room.depth (r:Room k A):A.depth<recursionLimit:=by have:=r.dp;lia
def Room.units (r:Room k A):A.units+64<cLine:=by have:=r.un;lia
def Zg:TA:=λ_ H Q=>Q [] H
def VF(ta:TE)(tr:TA):TA:=λσ H Q=>ta σ H λx H1=>tr σ H1 λxs H2=>Q (x::xs) H2
section
variable{X:Cx}{te:TE}{t:TA}
def nR:PA X [] Zg:=λ_ _ _ _ H Q I h=>bE ⟨[],H,I,.nil,h⟩
def iV(ha:PE X e te)(O:PA X es t)(J:starEach (e::es) X.env=(false,eval e X.env)::starEach es X.env:=by rfl):PA X (e::es) (VF te t):=by
 intro pos pins s σ H Q I h;rw[J];refine bn (thn (ha pins s σ H _ I h) λu s1 ⟨x,H1,Y,r1,q1⟩=>?_);exact thn (O pos pins s1 σ H1 _ Y q1) λus s2 ⟨xs,H2,Z,r2,q2⟩=>⟨x::xs,H2,Z,.cons r1 r2,q2⟩
def ai2(t:TA):TE:=λσ H Q=>t σ H λxs H1=>xs.length<=sizeLine/\∀p,H1 p=none->Q (.ref p) (upd H1 p (.tup xs))
def ai3(t:TA):TE:=λσ H Q=>t σ H λxs H1=>xs.length<=sizeLine/\∀p,H1 p=none->Q (.ref p) (upd H1 p (.lst xs))
def Nr{x1}(h:PA X es t):PE X (.Tuple es x1 pos) (ai2 t):=by
 intro pins s σ H Q I Y;refine wpAny_Tuple_spliced (thn (h pos pins s σ H _ I Y) λus s1 ⟨xs,H1,Z,r,z,q⟩=>⟨by rwa[<-r.length],?_⟩);have W:=Z.hok.fresh (bF _);refine⟨.ref s1.heap.objs.size,upd H1 s1.heap.objs.size (.tup xs),Z.laid (t':=s1.toks) (λb u e=>ae _ e) (bF _) ?_,rfl,q _ W⟩;exact⟨z,us,r,⟨_,ah _ rfl,rfl,_,rfl⟩⟩
def HD(h:PA X es t):PE X (.List es pos) (ai3 t):=by
 intro pins s σ H Q I Y;refine wpAny_List_spliced (thn (h pos pins s σ H _ I Y) λus s1 ⟨xs,H1,Z,r,z,q⟩=>⟨by rwa[<-r.length],?_⟩);have W:=Z.hok.fresh (bF _);refine⟨.ref s1.heap.objs.size,upd H1 s1.heap.objs.size (.lst xs),Z.laid (t':=s1.toks) (λb u e=>ae _ e) (bF _) ?_,rfl,q _ W⟩;exact⟨z,us,0,r,ah _ rfl⟩
end
abbrev Sp:=List V->Hp->VK->XK->Prop
abbrev CXT:=List Env->Hp->cB->XK->Value->cB->Prop
structure Env0(P:cN)(w:df)(K:PySem.W.Frag)(mg:Str->Option Value)(base:dm)(A:db)(outer:List Env)(s:cB)(H:Hp):Prop where
 frames:A.frames=some outer
 mod:Mod K mg base
 bs:∀b o,base.get? b=some o->s.heap.get? b=some o/\H b=none
 bsz:base.objs.size<=s.heap.objs.size
 funs:s.heap.FunFrames base outer
 frf:∀b∈frs outer,H b=none
 hok:HOk P w H s.heap
 bare:er s.gens
def CE(outer:List Env)(P:cN)(w:df)(H:Hp)(s:cB)(Q:VK)(u:Value)(s':cB):Prop:=
 ∃v H',s'.os=s.os/\er s'.gens/\Un (frs outer) [] H H' s.heap s'.heap/\HOk P w H' s'.heap/\RelV v u/\Q v H'
def CR(CX:CXT)(outer:List Env)(P:cN)(w:df)(H:Hp)(s:cB)(Q:VK)(E:XK)(r:Result)(s':cB):Prop:=
 match r with
 | .ok (.ret u)=>CE outer P w H s Q u s'
 | .ok _=>False
 | .error e=>CX outer H s E e s'
structure FnOk(P:cN)(w:df)(K:PySem.W.Frag)(mg:Str->Option Value)(base:dm)(CX:CXT)(k:Nat)(f:Addr)(fd:du)(ps:List Str)(sp:Sp):Prop where
 len:∀vs H Q E,sp vs H Q E->vs.length=ps.length
 run:∀(A:db)(outer:List Env)(s:cB)(H:Hp)(args:Args)(us:List Value)(vs:List V)(Q:VK)(E:XK),Room k A->Env0 P w K mg base A outer s H->BindsTo s fd args (ps.zip us)->Vals vs us->sp vs H Q E ->
  codeAny (model P w) A (.call (.ref f) args) (CR CX outer P w H s Q E) s
def FnOk.mono{CX:CXT}{k:Nat}{f:Addr}{sp:Sp}(F:FnOk P w K mg base CX j f fd ps sp)(h:j<=k):
 FnOk P w K mg base CX k f fd ps sp:=⟨F.len,λA outer s H args us vs Q E Z=>F.run A outer s H args us vs Q E (Z.mono h)⟩
def FnOk.imp{CX:CXT}{k:Nat}{f:Addr}{sp J:Sp}(F:FnOk P w K mg base CX k f fd ps sp)
 (h:∀vs H Q E,J vs H Q E->sp vs H Q E):FnOk P w K mg base CX k f fd ps J:=
 ⟨λvs H Q E q=>F.len vs H Q E (h _ _ _ _ q),λA outer s H args us vs Q E X W hb Z Y=>F.run A outer s H args us vs Q E X W hb Z (h _ _ _ _ Y)⟩
def Env0.make{outer:List Env}(e:Env0 P w K mg base A outer s H)(C:Addr)(us:List Value)(J:List (Str×Value)):
 Env0 P w K mg base (A.under (.builtin "type.__call__" ⟨.ref C::us,J⟩)) outer s H:=⟨by first|exact e.frames|(simpa[Around.under,Code.envs,Code.isFrame,pushEnvs]using e.frames),e.mod,e.bs,e.bsz,e.funs,e.frf,e.hok,e.bare⟩
section
variable{X:Cx}{σ:St}{H:Hp}
def Inv.env0(I:Inv X pins σ H s):Env0 X.prog X.w X.K X.mg X.base X.A X.stack s H:=
 ⟨I.ok.frames,I.ok.mod,I.bs,bO I.ok.bsz I.sz,I.stack,I.stkFree,I.hok,I.bare⟩
def Inv.after (I:Inv X pins σ H s) (h:CE X.stack X.prog X.w H s c u s'):EP X pins σ c u s':=by
 obtain⟨v,H',os,bare,un,hok,r,q⟩:=h;obtain⟨hh,g,d,t,Z⟩:=s';obtain rfl:Z=s.os:=os;exact⟨v,H',I.call (h':=hh) (g':=g) (d':=d) (t':=t) (ch:=[]) un hok bare (λb z=>absurd z (by simp)),r,q⟩
end
def VG(sp:Sp)(dvs:List V)(E:XK)(t:TA):TE:=λσ H Q=>t σ H λvs H1=>sp (vs++dvs) H1 Q E
def Binds(K:PySem.W.Frag)(fd:du)(ps:List Str)(ds:List Value):Prop:=
 ∀(s:cB)(us:List Value),K.In s.heap->(us++ds).length=ps.length->BindsTo s fd ⟨us,[]⟩ (ps.zip (us++ds))
def Binds.all(h:∀us:List Value,us.length=ps.length->bindArgs fd ⟨us,[]⟩=pure (ps.zip us)):Binds K fd ps []:=λs us _ hl=>by
 rw[dN]at hl ⊢;exact .of_eq (h us hl)
def Passes(CX:CXT)(X:Cx)(E:XK):Prop:=∀(pins:List (Addr×Obj))(σ:St)(H:Hp)(s:cB)(e:Value)(s':cB),Inv X pins σ H s->CX X.stack H s E e s'->X.xe e s'
section
variable{X:Cx}{CX:CXT}{k:Nat}{f:Addr}{sp:Sp}{ds:List Value}{E:XK}{m:Str}{o:Expr}{ta:TE}{t:TA}
theorem WQ (F:FnOk X.prog X.w X.K X.mg X.base CX k f fd ps sp) (O:Room k X.A) (hb:Binds X.K fd ps ds) (hd:Vals dvs ds) (J:Passes CX X E)
 (I:Inv X b σ H s) (r:Vals vs us) (h:sp (vs++dvs) H c E):wpAny (model X.prog X.w) X.A (call (.ref f) us) (EP X b σ c) X.xe s:=by
 have r2:=r.append hd;have hl:(us++ds).length=ps.length:=by rw[<-r2.length];exact F.len _ _ _ _ h
 refine bq (cf (F.run X.A X.stack s H ⟨us,[]⟩ (us++ds) (vs++dvs) c E O I.env0 (hb s us I.kIn hl) r2 h) λr s' Z=>?_)
 cases r with
 |error e=>exact J b σ H s e s' I Z
 |ok fl=>
  cases fl with
  |ret u=>exact I.after Z
  |next=>exact dS Z
  |brk=>exact dS Z
  |cont=>exact dS Z
def RG(F:FnOk X.prog X.w X.K X.mg X.base CX k f fd ps sp)(hr:Room k X.A)(hg:Gl X x)(hm:X.mg x=some (.ref f))(hk:PySem.W.keepIn X.K (.ref f)=true)(hb:Binds X.K fd ps ds)(hd:Vals dvs ds)(Y:Passes CX X E)
 (ha:PA X (e::es) t) (O:(x==("__debug__":Str))=false:=by decide) (he:starEach (e::es) X.env=(false,eval e X.env)::starEach es X.env:=by rfl) (J:(backTo pos (starEach es X.env)).any (·.1)=false:=by rfl) :
 PE X (.Call (.Name x p) (e::es) [] pos) (VG sp dvs E t):=by
 intro pins s σ H Q I h;refine aw (uY I hg hm ?_ O);refine PySem.W.callWith_K (h₀:=X.base) I.ok.mod.kin hk (thn (ha pos pins s σ H _ I h) λus s1 ⟨vs,H1,Z,r,q⟩=>⟨Z.kIn,?_⟩) he J;exact WQ F hr hb hd Y Z r q
structure Mk(K:PySem.W.Frag)(C f:Addr):Prop where
 makes:PySem.W.makesIn K C=true
 init:PySem.W.findIn K (.ref C) "__init__"=some (some (.ref f))
 fn:PySem.W.isFn K (.ref f)=true
 kp:PySem.W.keepIn K (.ref C)=true
end
section
variable{X:Cx}{CX:CXT}{k:Nat}{f:Addr}{ks:List Str}{sp:Sp}{E:XK}{m:Str}{kpos:Pos}{o:Expr}{kws:List ef}{te ta:TE}{t tk:TA}{nm:Option Str}
structure KBinds(K:PySem.W.Frag)(fd:du)(ps ks:List Str)(g:List Value->List Value->List Value)(gV:List V->List V->List V):Prop where
 to:∀(s:cB)(us ws:List Value),K.In s.heap->(g us ws).length=ps.length->BindsTo s fd ⟨us,ks.zip ws⟩ (ps.zip (g us ws))
 rel:∀{vs:List V}{us:List Value}{zs:List V}{ws:List Value},Vals vs us->Vals zs ws->Vals (gV vs zs) (g us ws)
variable{g:List Value->List Value->List Value}{gV:List V->List V->List V}
end
structure FnScope(N P:List Str)(sc:d3):Prop where
 kind:sc.kind = .function
 co:sc.isCoroutine=false
 gen:sc.isGenerator=false
 nd:N.Nodup
 pre:N.take P.length=P
 par:∀x∈P,sc.names.lookup x=some .local\/sc.names.lookup x=some .cell
 nofree:∀y∈sc.names,y.2 ≠ .free
theorem Az{kindOf:Str->Option NameKind}:∀{binds:List (Str×Value)}{m:Str->Option Value},(∀v,(x,v)∉binds)->bindL kindOf binds m x=m x
 |[],_,_=>rfl
 | (n,v)::r,m,h=>by
  unfold bindL;rw[Az λw hw=>h w (aA _ hw)];split
  .have:x≠n:=by rintro rfl;exact h v aD
   simp[this]
  .rfl
theorem A_{kindOf:Str->Option NameKind}:∀{binds:List (Str×Value)}{m:Str->Option Value},(∀v,(x,v)∉binds)->bindC kindOf binds m x=m x
 |[],_,_=>rfl
 | (n,v)::r,m,h=>by
  unfold bindC;rw[A_ λw hw=>h w (aA _ hw)];split
  .rfl
  .have:x≠n:=by rintro rfl;exact h v aD
   simp[this]
theorem tM{kindOf:Str->Option NameKind} : ∀{P:List Str}{vs:List Value}{i:Nat}{m:Str->Option Value},P.Nodup->P[i]? = some x->vs[i]? = some b->kindOf x=some .local ->
 bindL kindOf (P.zip vs) m x=some b
 |[],_,_,_,_,h,_,_=>by simp at h
 |_::_,[],_,_,_,_,h,_=>by simp at h
 |p::P,w::vs,0,m,nd,h1,h2,hk=>by
  simp at h1 h2;subst h1;subst h2;show bindL kindOf ((p,w)::P.zip vs) m p=_;unfold bindL;rw[Az λv Z=>(cI.mp nd).1 (nO Z).1,if_pos hk];simp
 |p::P,w::vs,i+1,m,nd,h1,h2,hk=>by
  show bindL kindOf ((p,w)::P.zip vs) m x=_;unfold bindL;exact tM (i:=i) (cI.mp nd).2 (by simpa using h1) (by simpa using h2) hk
theorem Ba{kindOf:Str->Option NameKind} : ∀{P:List Str}{vs:List Value}{i:Nat}{m:Str->Option Value},P.Nodup->P[i]? = some x->vs[i]? = some b->kindOf x≠some .local ->
 bindC kindOf (P.zip vs) m x=some b
 |[],_,_,_,_,h,_,_=>by simp at h
 |_::_,[],_,_,_,_,h,_=>by simp at h
 |p::P,w::vs,0,m,nd,h1,h2,hk=>by
  simp at h1 h2;subst h1;subst h2;show bindC kindOf ((p,w)::P.zip vs) m p=_;unfold bindC;rw[A_ λv Z=>(cI.mp nd).1 (nO Z).1,if_neg hk];simp
 |p::P,w::vs,i+1,m,nd,h1,h2,hk=>by
  show bindC kindOf ((p,w)::P.zip vs) m x=_;unfold bindC;exact Ba (i:=i) (cI.mp nd).2 (by simpa using h1) (by simpa using h2) hk
def start(N:List Str)(vs:List V):St:=vs.map some++aW (N.length-vs.length) none
noncomputable def jx(CX:CXT)(P:cN)(w:df)(K:PySem.W.Frag)(mg:Str->Option Value)(base:dm)(N:List Str)(qual:Str)(scope:d3)(f:Addr)(cd:Value)(A:db)(outer:List Env)(s:cB)(H:Hp)(E:XK):Cx where
 prog:=P
 w:=w
 K:=K
 mg:=mg
 base:=base
 A:=A.deeper (envOfC qual scope s.heap.objs.size f cd)
 N:=N
 s₀:=s
 H₀:=H
 env:=envOfC qual scope s.heap.objs.size f cd
 outer:=outer
 stack:=envOfC qual scope s.heap.objs.size f cd::outer
 ex:=[]
 calm:=true
 fn:=λ_=>true
 pn:=[]
 xe:=λe s'=>wpAny (model P w) (A.deeper (envOfC qual scope s.heap.objs.size f cd)) (leaving (envOfC qual scope s.heap.objs.size f cd) e) (λ_ Z=>CX outer H s E e Z) (λY Z=>CX outer H s E Y Z) s'
def Ey{sc:d3}(h:sc.names.lookup x=some .cell):∃c,(cellsFrom n sc.names []).lookup x=some c:=by
 have q:=PySem.W.cellsFrom_some sc.names n [] (.inl h);exact cR.mp q
def KR{CX:CXT}{f:Addr}{outer:List Env}{s1:cB}{E:XK}
 (S:FnScope N ps scope) (hd:A.handled=none) (J:Env0 P w K mg base A outer s H) (hl:vs.length=ps.length) (r:Vals vs us)
 (x:InCallC s s.heap.objs.size (bindL (envOfC qual scope s.heap.objs.size f cd).kindOf (ps.zip us) λ_=>none) (cellsFrom (s.heap.objs.size+1) scope.names []) (bindC (envOfC qual scope s.heap.objs.size f cd).kindOf (ps.zip us) λ_=>none) s1) :
 Inv (jx CX P w K mg base N qual scope f cd A outer s H E) [] (start N vs) H s1:=by
 have T:ps.length<=N.length:=by have:=congrArg pG S.pre;rw[kj]at this;lia
 obtain⟨h1,tk,rfl,hk⟩:=x.done;have Z:∀b:Addr,b∉(jx CX P w K mg base N qual scope f cd A outer s H E).ex:=λb z=>absurd (show b∈([]:List Addr)from z) (by simp)
 refine⟨⟨J.mod,S.kind,rfl,rfl,bF _,λy z c h1 h2=>?_,λy Y=>?_,λy c _ h=>?_,λ_=>hd,Around.frames_deeper J.frames,.inr ⟨rfl,rfl⟩,λb z=>absurd z (Z b),J.bs,J.bsz,λb _ _=>Z b,λb z=>absurd z (Z b),J.funs,J.frf⟩,
  rfl,J.bare,Un.kept hk,⟨_,x.toInCall.ns,λi y v h1 h2 R=>?_⟩,λy c h=>⟨_,x.cell y c h⟩,J.hok.fresh (bF _),λy c h=>?_,λp W=>absurd (show p∈([]:List (Addr×Obj))from W) (by simp),J.hok.kept hk,?_⟩
 .exact name_of_addr x.apart (PySem.mem_of_lookup h1) (PySem.mem_of_lookup h2)
 .have Y:=Y;rcases Y with Y|Y
  .exact Ey Y
  .exact absurd rfl (S.nofree _ (PySem.mem_of_lookup Y))
 .exact gB (x.above y c (PySem.mem_of_lookup h))
 .have hi:i<vs.length:=by
   unfold start at h2;by_cases hi:i<vs.length
   .exact hi
   .rw[d7 (by simpa using hi)]at h2;rw[fJ]at h2;split at h2<;>cases h2
  have ha:vs[i]? = some v:=by
   unfold start at h2;rw[eN (by simpa using hi),bf]at h2
   cases e:vs[i]? with
   |none=>rw[e]at h2;cases h2
   |some a=>rw[e]at h2;cases h2;rfl
  obtain⟨u,V,U⟩:=r.get ha;have W:ps[i]? = some y:=by
   rwa[<-S.pre,List.getElem?_take_of_lt (by lia)]
  have X:ps.Nodup:=by rw[<-S.pre];exact S.nd.sublist (List.take_sublist _ _)
  refine⟨u,U,?_⟩;rcases S.par y (d8 W)with k|k
  .exact .inl ⟨k,tM X W V k⟩
  .obtain⟨c,e⟩:=Ey (n:=s.heap.objs.size+1) k;refine .inr ⟨.inl k,c,e,?_⟩;have q:=x.cell y c e;rwa[Ba X W V (by show scope.names.lookup y≠_;rw[k];decide)]at q
 .exact J.hok.fresh (gB (x.above y c (PySem.mem_of_lookup h)))
 .unfold start;show _=N.length;rw[bx,au,cC];lia
theorem Nt{CX:CXT}{k:Nat}{f:Addr}{params:ei}{body:List Stmt}{scope:d3}{dV kV doc:Value}
 {osl:Array (Option Value)} {sp:Sp} (lk:K.lookup f=some ⟨oc,od,.func (PySem.W.fnOf name qual params body scope dV kV doc pm an cdv ct),osl⟩) (hcd:PySem.W.codeIn K cdv qual=true) (S:FnScope N ps scope)
 (len:∀vs H Q E,sp vs H Q E->vs.length=ps.length)
 (O:∀(A:db)(outer:List Env)(s:cB)(H:Hp)(vs:List V)(Q:VK)(E:XK),Room k (A.deeper (envOfC qual scope s.heap.objs.size f cdv))->sp vs H Q E ->
  ∃t,PSs (jx CX P w K mg base N qual scope f cdv A outer s H E) body t/\t {nx:=λ_ H'=>Q .non H',rt:=Q} (start N vs) H) :
 FnOk P w K mg base CX (k+1) f (PySem.W.fnOf name qual params body scope dV kV doc pm an cdv ct) ps sp:=by
 refine⟨len,λA outer s H args us vs Q E M U hb r X=>?_⟩;have hl:=len _ _ _ _ X;have L:K.In s.heap:=U.mod.kin.keeps λb o e=>(U.bs b o e).1
 have R:s.heap.NoLimit:=U.mod.nolimit.keeps λb o e=>(U.bs b o e).1
 have Z:∀y∈ps.zip us,scope.names.lookup y.1=some .local\/(scope.names.lookup y.1=some .cell/\((cellsFrom (s.heap.objs.size+1) scope.names []).lookup y.1).isSome=true):=λ⟨n,v⟩ G=>by
  rcases S.par n (nO G).1 with q|q
  .exact .inl q
  .exact .inr ⟨q,PySem.W.cellsFrom_some _ _ _ (.inl q)⟩
 refine codeAny_call_function M.depth (L _ _ lk) rfl S.co S.gen rfl (PySem.W.codeRec_of L hcd) (hb _ _ _ _ ?_);refine cr S.kind Z λenv C s1 x=>?_
 subst C;refine⟨R.keeps x.toInCall.keep,codeAny_func ?_⟩;obtain⟨t,F,D⟩:=O A outer s H vs Q E (M.deeper _) X;have I:Inv (jx CX P w K mg base N qual scope f cdv A outer s H E) [] (start N vs) H s1:=KR S M.hd U hl r x;refine ai (F [] s1 (start N vs) H _ I D) (λfl s' Y=>?_) λe s' Y=>Y
 have fin:∀{σ':St}{H':Hp}{v:V}{u:Value},Inv (jx CX P w K mg base N qual scope f cdv A outer s H E) [] σ' H' s'->RelV v u->Q v H'->CE outer P w H s Q u s':=
  λ{σ' H' v u} J T q=>⟨v,H',J.os,J.bare,J.base,J.hok,T,q⟩
 cases fl with
 |ret u=>
  obtain⟨v,σ',H',J,T,q⟩:=Y;exact fin J T q
 |next=>
  obtain⟨σ',H',J,q⟩:=Y;exact fin (v:=V.non) (u:=cS) J rfl q
 |brk=>
  obtain⟨_,_,_,q⟩:=Y;exact dS q
 |cont=>
  obtain⟨_,_,_,q⟩:=Y;exact dS q
end L2
namespace L2
section
variable{X:Cx}{t:TA}{id T:String}{r:List V->Hp->VK->Prop}
def tCB(r:List V->Hp->VK->Prop)(t:TA):TE:=λσ H Q=>t σ H λvs H1=>r vs H1 Q
def qj(hc:nA X (.builtin id) r)(Z:Gl X x)(hm:X.mg x=none)(Y:bootBuiltins x=some (.builtin id))(ha:PA X (e::es) t)(hn:x≠"__name__" := by decide)(O:(x==("__debug__":Str))=false:=by decide)
 (he:starEach (e::es) X.env=(false,eval e X.env)::starEach es X.env:=by rfl) (J:(backTo pos (starEach es X.env)).any (·.1)=false:=by rfl):PE X (.Call (.Name x p) (e::es) [] pos) (tCB r t):=by
 intro pins s σ H Q I h;refine aw (pW I Z hm Y ?_ hn O);exact PyProof.Rows.callWith_builtin1 (thn (ha pos pins s σ H _ I h) λus s1 ⟨vs,H1,W,r1,q1⟩=>hc pins s1 σ H1 vs us Q W r1 q1) he J
def vZ(hc:nA X (.type T) r)(Z:Gl X x)(hm:X.mg x=none)(Y:bootBuiltins x=some (.type T))(ha:PA X (e::es) t)(hn:x≠"__name__" := by decide)(O:(x==("__debug__":Str))=false:=by decide)
 (he:starEach (e::es) X.env=(false,eval e X.env)::starEach es X.env:=by rfl) (J:(backTo pos (starEach es X.env)).any (·.1)=false:=by rfl):PE X (.Call (.Name x p) (e::es) [] pos) (tCB r t):=by
 intro pins s σ H Q I h;refine aw (pW I Z hm Y ?_ hn O);exact dn (thn (ha pos pins s σ H _ I h) λus s1 ⟨vs,H1,W,r1,q1⟩=>hc pins s1 σ H1 vs us Q W r1 q1) he J
end
end L2
namespace HT
section
open PySem.SeqAt
open PySem.AutoSeq1 (wpAny_loadPart')
open PySem.MeetsSeq PySem.MeetsSeq2 PySem.MeetsSeq3
end
section
variable{prog:cN}
noncomputable def sIx(n d:Nat):Option Int->Nat
 |none=>d
 |some v=>if v<0 then(v+(n:Int)).toNat else min v.toNat n
end
end HT
namespace L2
abbrev TO:=St->Hp->(Option Int->Hp->Prop)->Prop
def PO(X:Cx)(e:Option Expr)(t:TO):Prop:=
 ∀(pins:List (Addr×Obj))(s:cB)(σ:St)(H:Hp)(Q:Option Int->Hp->Prop),Inv X pins σ H s->t σ H Q ->
  wpAny (model X.prog X.w) X.A (evalPart e X.env) (λu s'=>∃o H',Inv X pins σ H' s'/\IsPart u o/\Q o H') X.xe s
def RJ:TO:=λ_ H Q=>Q none H
def Zh(t:TE):TO:=λσ H Q=>t σ H λx H1=>∃i,x = .int i/\Q (some i) H1
section
variable{X:Cx}{te:TE}{lo hi:Option Expr}{tl th:TO}
def RK:PO X none RJ:=by
 intro pins s σ H Q I h;rw[evalPart_none];exact ag ⟨none,H,I,.none,h⟩
def RM(h:PE X e te):PO X (some e) (Zh te):=by
 intro pins s σ H Q I hw;rw[evalPart_some];refine thn (h pins s σ H _ I hw) λu s1 ⟨x,H1,Z,r1,q1⟩=>?_
 obtain⟨i,rfl,q⟩:=q1;obtain⟨t,rfl⟩:=r1;exact⟨some i,H1,Z,.int i t,q⟩
def SlR(X:Cx)(r:V->Option Int->Option Int->Hp->VK->Prop):Prop:=
 ∀(pins:List (Addr×Obj))(s:cB)(σ:St)(H:Hp)(x:V)(v Y Z:Value)(lo hi:Option Int)(sl:Addr)(Q:VK),Inv X pins σ H s->RelV x v->s.heap.IsSliceOf sl Y Z .none->IsPart Y lo->IsPart Z hi->r x lo hi H Q ->
  ∃T id,typeLookup (.type T) "__getitem__"=pure (some (.builtin id))/\s.TypeIs v T/\wpAny (model X.prog X.w) X.A (getItem v (.ref sl)) (EP X pins σ Q) X.xe s
noncomputable def tSl(r:V->Option Int->Option Int->Hp->VK->Prop)(te:TE)(tl th:TO):TE:=λσ H Q=>te σ H λx H1=>tl σ H1 λl H2=>th σ H2 λu Z=>r x l u Z Q
def Nu (O:SlR X r) (he:PE X e te) (hl:PO X lo tl) (J:PO X hi th):PE X (.Subscript e (.Slice lo hi none p2) pos) (tSl r te tl th):=by
 intro pins s σ H Q I h;refine cb (thn (he pins s σ H _ I h) λv s1 ⟨x,H1,G,r1,q1⟩=>?_);refine wpAny_Slice (thn (hl pins s1 σ H1 _ G q1) λW s2 ⟨l,H2,K,pl,q2⟩=>thn (J pins s2 σ H2 _ K q2) λY Z ⟨u,U,L,S,q3⟩=>?_);rw[evalPart_none];refine ag ?_;have M:Inv X pins σ U {Z with heap:=Z.heap.push {cls:=.type "slice", data:=.fields #[W,Y,.none]} }:=L.kept (t':=Z.toks) λb F q=>ae _ q
 obtain⟨T,id,N,R,P⟩:=O pins {Z with heap:=Z.heap.push {cls:=.type "slice", data:=.fields #[W,Y,.none]} } σ U x v W Y l u Z.heap.objs.size Q M r1 (Heap.IsSliceOf.new ..) pl S q3;exact tail_any (ops:=[.ref Z.heap.objs.size,v]) R N P (by with_unfolding_all rfl)
def KY(xs:List V)(lo hi:Option Int):List V:=(xs.drop (HT.sIx xs.length 0 lo)).take (HT.sIx xs.length xs.length hi-HT.sIx xs.length 0 lo)
def Ez(xs:List V)(lo hi:Option Int):(KY xs lo hi).length<=xs.length:=by
 unfold KY;rw[kj,kE];lia
end
end L2
variable{xs:List L2.V}
namespace L2
noncomputable def ixN(n:Nat)(i:Int):Option Nat:=if 0<=i then(if i<n then some i.toNat else none)else if -(n:Int)<=i then some (i+n).toNat else none
def atI (xs:List α) (i:Int):Option α:=(ixN xs.length i).bind λj=>xs[j]?
def JC (h:ixN n b=some j):seqIndex? b n=some j/\j<n/\-(n:Int)<=b/\b<n:=by
 unfold ixN at h;by_cases Z:0<=b
 .rw[if_pos Z]at h;by_cases h1:b<n
  .rw[if_pos h1]at h;have e:=dg.inj h;exact⟨by rw[cm Z h1,e],by lia,by lia,h1⟩
  .rw[if_neg h1]at h;cases h
 .rw[if_neg Z]at h;by_cases h1 : -(n:Int)<=b
  .rw[if_pos h1]at h;have e:=dg.inj h;exact⟨by rw[ce (by lia) h1,e],by lia,h1,by lia⟩
  .rw[if_neg h1]at h;cases h
theorem xP (h:atI b c=some d):∃j,seqIndex? c b.length=some j/\b[j]? = some d/\j<b.length/\-(b.length:Int)<=c/\c<b.length:=by
 unfold atI at h
 cases e:ixN b.length c with
 |none=>rw[e]at h;cases h
 |some j=>
  rw[e]at h;obtain⟨h1,h2,Y,Z⟩:=JC e;exact⟨j,h1,h,h2,Y,Z⟩
def Cm(b:Expr):Prop:=∀o i,subscripted b false o i=operate [o,i] (getItem o i)
def IxR(X:Cx)(r:R2):Prop:=
 ∀(value slice:Expr)(pins:List (Addr×Obj))(s:cB)(σ:St)(H:Hp)(x y:V)(v u:Value)(Q:VK),Inv X pins σ H s->RelV x v->RelV y u->r x y H Q ->
  subscripted slice false v u=operate [v,u] (getItem v u)->wpAny (model X.prog X.w) X.A (subscriptTail value slice v u) (EP X pins σ Q) X.xe s
def MtR(X:Cx)(id:String)(r:V->List V->Hp->VK->Prop):Prop:=
 ∀(pins:List (Addr×Obj))(s:cB)(σ:St)(H:Hp)(x:V)(xs:List V)(v:Value)(us:List Value)(Q:VK),Inv X pins σ H s->RelV x v->Vals xs us->r x xs H Q ->
  wpAny (model X.prog X.w) X.A (call (.builtin id) (v::us)) (EP X pins σ Q) X.xe s
section
variable{X:Cx}{a b:Expr}{ta tb:TE}
def IxR.or (h:IxR X r) (h':IxR X J):IxR X (λx y H Q=>r x y H Q\/J x y H Q):=by
 intro value slice pins s σ H x y v u Q I Y Z q W;rcases q with q|q
 .exact h value slice pins s σ H x y v u Q I Y Z q W
 .exact h' value slice pins s σ H x y v u Q I Y Z q W
def Zi (O:IxR X r) (ha:PE X a ta) (hb:PE X b tb) (J:Cm b):PE X (.Subscript a b pos) (tOp r ta tb):=by
 intro pins s σ H Q I h;exact cb (WK ha hb I h λv u s2 x y H2 W Y Z q=>O a b pins s2 σ H2 x y v u Q W Y Z q (J _ _))
def Zj(K:PySem.W.Frag):R2:=λx y H Q=>∃p xs i v,x = .ref p/\y = .int i/\SqL K H p xs/\atI xs i=some v/\Q v H
def Zk(K:PySem.W.Frag):R2:=λx y H Q=>∃p xs i v,x = .ref p/\y = .int i/\SqT K H p xs/\atI xs i=some v/\Q v H
def Zm:R2:=λx y H Q=>∃z i c,x = .str z/\y = .int i/\z.length<=sizeLine/\atI z.cps.toList i=some c/\Q (.str ⟨#[c]⟩) H
def RN:IxR X (Zj X.K):=by
 intro value slice pins s σ H x y v u Q I S T h W;obtain⟨p,xs,i,z,rfl,rfl,R,P,q⟩:=h
 cases S;obtain⟨t,rfl⟩:=T;obtain⟨its,r,pl,M⟩:=I.list R;obtain⟨j,h1,h2,L,N,O⟩:=xP P;obtain⟨w,U,Z⟩:=r.get h2;have hl:=r.length;have hn:=vY;have fin:EP X pins σ Q w s:=⟨z,H,I,Z,q⟩;by_cases V:0<=i
 .have Y:i.toNat=j:=by
   rw[cm V O]at h1;exact dg.inj h1
  exact item_listR pl.isList V (by lia) (by rw[Y];simpa using U) fin W
 .have Y:(i+(its.toArray.size:Int)).toNat=j:=by
   rw[ce (by lia) N]at h1;rw[bG,<-hl];exact dg.inj h1
  exact subscriptTail_builtinR (x:=w) pl.isList.typeIs slot_list_getitem.lookup
   (wpAny_getItem_list_neg (Q:=λr s'=>r=w/\EP X pins σ Q r s') pl.isList (by lia) (by rw[bG]<;>lia) (by lia) (by rw[Y];simpa using U) ⟨rfl,fin⟩) W
def WR:IxR X (Zk X.K):=by
 intro value slice pins s σ H x y v u Q I W Y h V;obtain⟨p,xs,i,z,rfl,rfl,U,T,q⟩:=h
 cases W;obtain⟨t,rfl⟩:=Y;obtain⟨its,r,pl,R⟩:=I.tuple U;obtain⟨j,h1,h2,N,O,P⟩:=xP T;obtain⟨w,S,Z⟩:=r.get h2;have hl:=r.length;have hn:=vY;have fin:EP X pins σ Q w s:=⟨z,H,I,Z,q⟩;exact subscriptTail_builtinR (x:=w) pl.typeIs slot_tuple_getitem.lookup
  (getItem_tuple (j:=j) (Q:=λr s'=>r=w/\EP X pins σ Q r s') pl (by lia) (by lia) (by rwa[bG,<-hl]) (by simpa using S) ⟨rfl,fin⟩) V
def WT:IxR X Zm:=by
 intro value slice pins s σ H x y v u Q I Y Z h W;obtain⟨z,i,c,rfl,rfl,S,V,q⟩:=h;obtain⟨t,rfl⟩:=Y;obtain⟨t',rfl⟩:=Z;obtain⟨j,h1,h2,R,T,U⟩:=xP V;have hl:z.cps.toList.length=z.length:=by simp[Str.length]
 rw[hl]at h1 T U;have hn:=vY;exact tail_any (typeIs_str s z t) slot_str_getitem.lookup (getItem_str (c:=c) (by
  have e1:decide (i < -(2^63:Int))=false:=dFa (by lia);have e2:decide (i≥2^63)=false:=dFa (by lia);rw[e1,e2,Bool.or_false]) (by rw[h1];simpa using h2) ⟨.str ⟨#[c]⟩,H,I.tok _,⟨_,rfl⟩,q⟩) W
def rIx(K:PySem.W.Frag):R2:=λx y H Q=>Zj K x y H Q\/Zk K x y H Q\/Zm x y H Q
def WW:IxR X (rIx X.K):=RN.or (WR.or WT)
def HJ(its:List Value)(n j:Nat)(u:Value):eF (·.setIfInBounds j u) {cls:=.type "list", data:=.seq its.toArray n}={cls:=.type "list", data:=.seq (its.set j u).toArray n}:=by
 simp[eF]
def Inv.lst{σ:St}{H:Hp}{p:Addr}{xs:List V}(I:Inv X pins σ H s)(h:H p=some (.lst xs)):
 ∃(its:List Value)(n:Nat),Vals xs its/\s.heap.get? p=some {cls:=.type "list", data:=.seq its.toArray n}/\xs.length<=sizeLine:=by
 obtain⟨z,its,n,r,e⟩:=I.hok p _ h;exact⟨its,n,r,e,z⟩
def Inv.lstUpd {ys:List V} {its its':List Value} {J:Nat} {f:Obj->Obj} (I:Inv X c σ H s) (h:H d=some (.lst xs))
 (Z:s.heap.get? d=some {cls:=.type "list", data:=.seq its.toArray n}) (O:f {cls:=.type "list", data:=.seq its.toArray n}={cls:=.type "list", data:=.seq its'.toArray J}) (r:Vals ys its') (Y:ys.length<=sizeLine) (t:Nat) :
 Inv X c σ (upd H d (.lst ys)) {s with heap:=s.heap.update d f,toks:=t}:=by
 have e:(s.heap.update d f).get? d=some {cls:=.type "list", data:=.seq its'.toArray J}:=by
  rw[av f Z (by rw[O]<;>rfl),O]
 refine I.write (x:=d) (e:=d) (by rw[h];trivial) (.inl rfl) (λb u hb q=>(al _ _ (c9 hb)).trans q) ⟨_,e⟩ ?_;exact⟨Y,its',J,r,e⟩
def Zn:V->V->V->Hp->(Hp->Prop)->Prop:=λo i v H Q=>∃p xs k j,o = .ref p/\i = .int k/\H p=some (.lst xs)/\ixN xs.length k=some j/\Q (upd H p (.lst (xs.set j v)))
def set_list:Ww X Zn:=by
 intro pins s σ H o i v M L u Q I S R T h;obtain⟨p,xs,k,j,rfl,rfl,Y,P,q⟩:=h
 cases S;obtain⟨t,rfl⟩:=R;obtain⟨its,n,r,Z,K⟩:=I.lst Y;obtain⟨h1,h2,N,O⟩:=JC P;have hl:=r.length;have hn:=vY;have U:Inv X pins σ (upd H p (.lst (xs.set j v))) {s with heap:=s.heap.update p (eF (·.setIfInBounds j u))}:=
  I.lstUpd Y Z (HJ its n j u) (r.set T j) (by rwa[cM]) s.toks
 by_cases V:0<=k
 .have hk:k.toNat=j:=by
   rw[cm V O]at h1;exact dg.inj h1
  exact PySem.W.ki_setAt Z V (by lia) (by rwa[bG,<-hl]) (by rw[hk];exact⟨_,U,q⟩)
 .have hk:(k+(its.toArray.size:Int)).toNat=j:=by
   rw[ce (by lia) N]at h1;rw[bG,<-hl];exact dg.inj h1
  exact PySem.W.ki_setBack Z (by lia) (by rwa[bG,<-hl]) (by lia) (by rw[hk];exact⟨_,U,q⟩)
def Cp(lo hi:Option Int)(n:Nat):(sliceBounds lo hi none n).1=((HT.sIx n 0 lo:Nat):Int)/\(sliceBounds lo hi none n).2.1=((HT.sIx n n hi:Nat):Int)/\(sliceBounds lo hi none n).2.2=1:=by
 refine⟨?_,?_,rfl⟩
 .cases lo with
  |none=>simp[sliceBounds,HT.sIx]
  |some i=>
   simp only[sliceBounds,HT.sIx,Option.getD_none,show(1:Int)>0 by decide,if_true];by_cases h:i<0
   .simp only[h,if_true]<;>lia
   .simp only[h,if_false]<;>lia
 .cases hi with
  |none=>simp[sliceBounds,HT.sIx]
  |some i=>
   simp only[sliceBounds,HT.sIx,Option.getD_none,show(1:Int)>0 by decide,if_true];by_cases h:i<0
   .simp only[h,if_true]<;>lia
   .simp only[h,if_false]<;>lia
def z9(its:List Value)(lo hi:Option Int):slicePick its.toArray lo hi none=((its.drop (HT.sIx its.length 0 lo)).take (HT.sIx its.length its.length hi-HT.sIx its.length 0 lo)).toArray:=by
 obtain⟨h1,h2,Z⟩:=Cp lo hi its.toArray.size;unfold slicePick;rw[h1,h2,Z];simp only[sliceRange_one,pick_run,bG]<;>rfl
def ai4(K:PySem.W.Frag):V->Option Int->Option Int->Hp->VK->Prop:=λx lo hi H Q=>∃a xs,x = .ref a/\SqL K H a xs/\∀p,H p=none->Q (.ref p) (upd H p (.lst (KY xs lo hi)))
def RP:SlR X (ai4 X.K):=by
 intro pins s σ H x v R S lo hi sl Q I Y T pl W h;obtain⟨a,xs,rfl,U,q⟩:=h
 cases Y;obtain⟨its,r,Z,V⟩:=I.list U;have hlen:=r.length;refine⟨"list", _,slot_list_getitem.lookup,Z.isList.typeIs,?_⟩;refine wpAny_getItem_list_slice Z.isList T pl W .none (by simp) ?_ (by rw[bG]<;>lia);rw[z9,<-hlen];refine⟨.ref s.heap.objs.size,_,I.laid (t':=s.toks) (o:=.lst (KY xs lo hi)) (λb P q=>ae _ q) (bF _) ?_,rfl,q _ (I.hok.fresh (bF _))⟩;exact⟨bO (Ez xs lo hi) V,_,0,(r.drop (HT.sIx xs.length 0 lo)).take (HT.sIx xs.length xs.length hi-HT.sIx xs.length 0 lo),ah _ rfl⟩
def bY:nA X (.builtin "len") (λxs H Q=>∃p ys,xs=[.ref p]/\(SqL X.K H p ys\/SqT X.K H p ys)/\Q (.int ys.length) H):=by
 intro pins s σ H xs us Q I r h;obtain⟨p,ys,rfl,Z,q⟩:=h;obtain⟨u,rfl,W⟩:=vals1 r
 cases W;have hn:=vY;rcases Z with Z|Z
 .obtain⟨its,Y,pl,V⟩:=I.list Z;have hlen:=Y.length;exact Calls.call_len_list pl.isList (by simp only[bG]<;>lia) ⟨.int ys.length,H,I.tok _,⟨s.toks+1,by rw[bG,hlen]⟩,q⟩
 .obtain⟨its,Y,pl,V⟩:=I.tuple Z;have hlen:=Y.length;exact len_tuple pl (by simp only[bG]<;>lia) ⟨.int ys.length,H,I.tok _,⟨s.toks+1,by rw[bG,hlen]⟩,q⟩
def Cq:nA X (.type "list") (λxs H Q=>∃p ys,xs=[.ref p]/\(SqL X.K H p ys\/SqT X.K H p ys)/\∀l,H l=none->Q (.ref l) (upd H l (.lst ys))):=by
 intro pins s σ H xs us Q I r h;obtain⟨p,ys,rfl,W,q⟩:=h;obtain⟨u,rfl,T⟩:=vals1 r
 cases T;have fin:∀(its:List Value),Vals ys its->ys.length<=sizeLine->∀(h':dm)(c':Nat),(∀b o',s.heap.get? b=some o'->h'.get? b=some o') ->
  h'.get? s.heap.objs.size=some {cls:=.type "list", dict:=none,data:=.seq its.toArray c',slots:=#[]}->EP X pins σ Q (.ref s.heap.objs.size) {s with heap:=h'}:=λits Z Y h' c' kp e=>
  ⟨.ref s.heap.objs.size,_,I.laid (t':=s.toks) kp (bF _) (show iB X.prog X.w _ h' _ (.lst ys)from⟨Y,its,c',Z,e⟩),rfl,q _ (I.hok.fresh (bF _))⟩
 rcases W with W|W
 .obtain⟨its,Z,pl,Y⟩:=I.list W;have hlen:=Z.length;obtain⟨o,V,U,n,hd⟩:=pl.isList;exact call_list_seq p (.inl rfl) V U hd (λh' c' kp e=>fin its Z Y h' c' kp e) (by simp only[bG]<;>lia)
 .obtain⟨its,Z,pl,Y⟩:=I.tuple W;have hlen:=Z.length;obtain⟨o,V,U,n,hd⟩:=pl;exact call_list_seq p (.inr rfl) V U hd (λh' c' kp e=>fin its Z Y h' c' kp e) (by simp only[bG]<;>lia)
def tyV(K:PySem.W.Frag)(T:String)(x:V)(H:Hp):Prop:=match x with
 | .str _=>T="str"
 | .int _=>T="int"
 | .ref p=>(T="list" /\ ∃xs,SqL K H p xs)\/(T="tuple" /\ ∃o,K.lookup p=some o/\o.cls = .type "tuple"/\o.dict=none) \/
  (T="dict"/\((∃kvs,H p=some (.dK kvs))\/∃kvs,H p=some (.dT kvs)))\/(T="set" /\ ∃S n,H p=some (.set S n))
 |_=>False
theorem WX (I:Inv X d σ H s) (r:RelV k l) (ty:tyV X.K T k H) :
 s.TypeIs l T/\∀a,l = .ref a->∃J,s.heap.get? a=some J/\J.dict=none:=by
 cases k with
 |str z=>
  obtain⟨t,rfl⟩:=r
  cases(show T="str"from ty);exact⟨typeIs_str s z t,λ_ e=>nomatch e⟩
 |int i=>
  obtain⟨t,rfl⟩:=r
  cases(show T="int"from ty);exact⟨typeIs_int s i t,λ_ e=>nomatch e⟩
 |ref p=>
  cases r;rcases ty with⟨rfl,xs,Z⟩|⟨rfl,o,hk,Y,hd⟩|⟨rfl,hk⟩|⟨rfl,S,n,hk⟩
  .obtain⟨its,_,pl,_⟩:=I.list Z;refine⟨pl.isList.typeIs,λa e=>?_⟩
   cases e;obtain⟨o,n,e,c,hd,_⟩:=pl;exact⟨o,e,hd⟩
  .refine⟨⟨o,I.kIn p o hk,Y⟩,λa e=>?_⟩
   cases e;exact⟨o,I.kIn _ o hk,hd⟩
  .have z:∃o,s.heap.get? p=some o/\o.ExactDict:=by
    rcases hk with⟨kvs,hk⟩|⟨kvs,hk⟩
    .obtain⟨_,_,_,_,o,_,_,e,ex,_⟩:=I.hok p _ hk;exact⟨o,e,ex⟩
    .obtain⟨_,_,_,_,o,_,_,e,ex,_⟩:=I.hok p _ hk;exact⟨o,e,ex⟩
   obtain⟨o,e,ex⟩:=z;refine⟨⟨o,e,ex.1⟩,λa e2=>?_⟩
   cases e2;exact⟨o,e,ex.2.1⟩
  .obtain⟨o,_,_,_,e,ex,_⟩:=I.hok p _ hk;refine⟨⟨o,e,ex.1⟩,λa e2=>?_⟩
   cases e2;exact⟨o,e,ex.2.1⟩
 |_=>exact dS ty
noncomputable def tBM(K:PySem.W.Frag)(T:String)(r:V->List V->Hp->VK->Prop)(to:TE)(t:TA):TE:=λσ H Q=>to σ H λx H1=>tyV K T x H1/\t σ H1 λxs H2=>r x xs H2 Q
variable{o:Expr}{to:TE}{t:TA}{T id:String}{r:V->List V->Hp->VK->Prop}
def Nv(pa:PlainAttrs T)(slot:Slot T name id)(hty:typeOf (.builtin id)=pure (.type "method_descriptor"))(hm:MtR X id r)(ho:PE X o to)(ha:PA X (e::es) t)
 (Y:attributeBase o name X.env (eval o X.env)=eval o X.env:=by rfl)
 (Z:((backTo cpos (starEach (e::es) X.env)).all (λx=>!x.1)&&(backToKw cpos (keywordEach [] X.env)).all (λx=>x.1.isSome)
  && decide ((e::es).length+([]:List ef).length+(if([]:List ef).isEmpty then 0 else 1)<30))=true:=by rfl)
 (O:(apos.endLine==cpos.line)=true:=by rfl) (hs:starEach (e::es) X.env=(false,eval e X.env)::starEach es X.env:=by rfl) (J:(backTo cpos (starEach es X.env)).any (·.1)=false:=by rfl) :
 PE X (.Call (.Attribute o name apos) (e::es) [] cpos) (tBM X.K T r to t):=by
 intro pins s σ H Q I h;refine wpAny_Call_method_late Y Z O rfl (thn (ho pins s σ H _ I h) λv s1 ⟨x,H1,V,r1,ty,q1⟩=>?_);obtain⟨h1,h2⟩:=WX V r1 ty;refine⟨T,id,pa,slot,hty,h1,h2,?_⟩;have W:=ha cpos pins s1 σ H1 _ V q1;rw[hs]at W ⊢;refine ck (by show(false||(backTo cpos (starEach es X.env)).any (·.1))=false;rw[J]<;>rfl) (cv ?_);exact thn W λus s2 ⟨vs,H2,U,r2,q2⟩=>hm pins s2 σ H2 x vs v us Q U r1 r2 q2
/- xs.append(e),list.index on a module's tuple .. are MtR facts of 06m -/
end
end L2
namespace L2
def MtM(X:Cx)(id:String)(r:V->List V->Hp->VK->Prop):Prop:=
 ∀(pins:List (Addr×Obj))(s:cB)(σ:St)(H:Hp)(x:V)(xs:List V)(v:Value)(us:List Value)(Q:VK),Inv X pins σ H s->RelV x v->Vals xs us->r x xs H Q ->
  wpAny (model X.prog X.w) X.A (call (.builtin id) (v::us)) (EP X pins σ Q) X.xe s
theorem Vals.one:∀{x:V}{us:List Value},Vals [x] us->∃u,us=[u]/\RelV x u
 |_,_,.cons r .nil=>⟨_,rfl,r⟩
theorem Vals.two:∀{x y:V}{us:List Value},Vals [x,y] us->∃u v,us=[u,v]/\RelV x u/\RelV y v
 |_,_,_,.cons r (.cons q .nil)=>⟨_,_,rfl,r,q⟩
theorem Vals.zero:∀{us:List Value},Vals [] us->us=[]
 |_,.nil=>rfl
theorem Vals.eraseIdx:∀{xs:List V}{us:List Value}(i:Nat),Vals xs us->Vals (xs.eraseIdx i) (us.eraseIdx i)
 |_,_,_,.nil=>.nil
 |_,_,0,.cons _ t=>t
 |_,_,i+1,.cons r t=>.cons r (Vals.eraseIdx i t)
theorem Vals.rep(h:Vals xs us):∀k:Nat,Vals (aW k xs).flatten (aW k us).flatten
 |0=>.nil
 |k+1=>by
  rw[dB,dB,gQ,gQ];exact Vals.append h (Vals.rep h k)
theorem foldl_rep(its:List Value):∀(k:Nat)(J:List Value),
 List.foldl (λx1 x2=>x1++x2) J.toArray (aW k its.toArray)=(J++(aW k its).flatten).toArray
 |0,J=>by simp
 |k+1,J=>by
  have e:J.toArray++its.toArray=(J++its).toArray:=by simp
  have e2:(J++its)++(aW k its).flatten=J++(aW (k+1) its).flatten:=by
   rw[dB,gQ,pH]
  rw[<-e2,<-foldl_rep its k (J++its),<-e,dB,List.foldl_cons]
section
variable{X:Cx}{σ:St}{H:Hp}{l b:Addr}{xs ys zs:List V}
def Inv.lset{its its':List Value} (I:Inv X pins σ H s) (hH:H l=some (.lst xs))
 (e:s.heap.get? l=some {cls:=.type "list", data:=.seq its.toArray n}) (Y:c its.toArray=its'.toArray) (O:Vals ys its') (J:ys.length<=sizeLine) :
 Inv X pins σ (upd H l (.lst ys)) {s with heap:=s.heap.update l (eF c),toks:=t'}:=by
 have q:=PySem.IsL.update e c;rw[Y]at q;refine I.write (x:=l) (e:=l) (by rw[hH];exact trivial) (.inl rfl) (λW u hb Z=>(al s.heap (eF c) (c9 hb)).trans Z) ⟨_,q⟩ ?_;exact⟨J,its',_,O,q⟩
def Inv.lnew (I:Inv X pins σ H s) (O:Vals ys its) (J:ys.length<=sizeLine) :
 Inv X pins σ (upd H s.heap.objs.size (.lst ys)) {s with heap:=s.heap.push {cls:=.type "list", data:=.seq its.toArray},toks:=t'}:=
 I.laid (λ_ _ q=>ae _ q) (bF _) ⟨J,its,0,O,ah _ rfl⟩
def Inv.fresh(I:Inv X pins σ H s):H s.heap.objs.size=none:=I.hok.fresh (bF _)
def Inv.lstM(I:Inv X pins σ H s)(J:H l=some (.lst xs)):xs.length<=sizeLine/\∃(its:List Value)(n:Nat),Vals xs its/\xs.length=its.length/\s.heap.get? l=some {cls:=.type "list", data:=.seq its.toArray n}:=by
 obtain⟨z,its,n,r,e⟩:=I.hok l _ J;exact⟨z,its,n,r,r.length,e⟩
def Nx(h:n<=sizeLine):eD n=false:=by
 exact dFa (by lia)
end
section
variable{X:Cx}
def RQ:V->List V->Hp->VK->Prop:=λx vs H Q=>∃l xs y,x = .ref l/\vs=[y]/\H l=some (.lst xs)/\xs.length<sizeLine/\Q .non (upd H l (.lst (xs++[y])))
def Bb:MtM X "list.append" RQ:=by
 intro pins s σ H x vs v us Q I Y W h;obtain⟨l,xs,y,rfl,rfl,Z,U,q⟩:=h
 cases Y;obtain⟨u,rfl,V⟩:=W.one;obtain⟨z,its,n,r,hl,e⟩:=I.lstM Z;refine b9 F.slot_list_append ⟨_,e,rfl⟩ F.entry_list_append (F.args_list_append_2 _ _) (PySem.list_append l its.toArray n u (by rw[bG];lia)) ⟨e,?_⟩;refine⟨.non,_,I.lset (its':=its++[u]) Z e (by simp) (r.append (.cons V .nil)) ?_,rfl,q⟩;rw[bx,rK];lia
def ai5:R2:=λx y H Q=>∃l k xs,x = .ref l/\y = .int k/\H l=some (.lst xs)/\-(2^63)<=k/\k<2^63/\xs.length*k.toNat<=sizeLine /\
 ∀p,H p=none->Q (.ref p) (upd H p (.lst (aW k.toNat xs).flatten))
theorem len_rep (xs:List α) (k:Nat):(aW k xs).flatten.length=k*xs.length:=by
 induction k with
 |zero=>simp
 |succ k Z=>rw[dB,gQ,bx,Z,Nat.succ_mul,Nat.add_comm]
def WY:OpR X (binaryOp .Mult) ai5:=by
 intro pins s σ H x y v u Q I R S h;obtain⟨l,k,xs,rfl,rfl,P,h1,h2,N,q⟩:=h
 cases R;obtain⟨t,rfl⟩:=S;obtain⟨z,its,n,r,hl,e⟩:=I.lstM P;have hlen:its.toArray.size*k.toNat<=sizeLine:=by rwa[bG,<-hl]
 have V:¬its.toArray.size*k.toNat>(2^63-1)/8:=by
  have:(sizeLine:Nat)<=(2^63-1)/8:=by decide
  lia
 have W:¬(!Builtin.List.listFitsIndex k)=true:=by
  rw[fitsIndex_both h1 h2];exact dZ
 have Z:¬eD (its.toArray.size*k.toNat)=true:=by
  rw[Nx hlen];exact dZ
 have Y:List.foldl (λx1 x2=>x1++x2) #[] (aW (if its.toArray.isEmpty=true then 0 else k.toNat) its.toArray)=(aW k.toNat its).flatten.toArray:=by
  have f0:=λm=>by
   have:=foldl_rep its m [];rwa[rF]at this
  rw[f0]
  cases its with
  |nil=>simp
  |cons a O=>rw[if_neg (by simp)]
 refine wpAny_binaryOp_repeat_ref (T := "list") (U := "int") (by decide) ⟨_,e,rfl⟩ (λs'=>typeIs_int s' k t) noFill_list_mul F.fills_int_mul F.slot_int_rmul repeat_list F.slot_int_index.lookup
  (b9 F.slot_int_rmul (typeIs_int s k t) F.entry_int_rmul (F.args_int_rmul_2 _ _) (int___rmul___int_list k t l its.toArray n)
   ⟨e,rfl,⟨_,e,rfl⟩,b9 F.slot_list_mul ⟨_,e,rfl⟩ F.entry_list_mul (F.args_list_mul_2 _ _) (AutoListH.list___mul___list_int_3 l its.toArray n k t W V Z) ⟨e,?_⟩⟩)
 rw[Y];exact⟨.ref _,_,I.lnew (t':=s.toks) (r.rep k.toNat) (by rwa[len_rep,Nat.mul_comm]),rfl,q _ I.fresh⟩
end
section
variable{prog:cN}
set_option maxRecDepth 100000 in
end
section
variable{X:Cx}
end
end L2
variable{YP:df->dm->Prop}
namespace Att
open PySem.W PySem.Calls
theorem wZ : ∀(ns:List Int)(vs:List Value),WellAll c h vs (ns.map WData.int)->ez vs ns:=by
 intro ns
 induction ns with
 |nil=>
  intro vs w;rw[qx]at w
  cases w;exact .nil
 |cons n ns Z=>
  intro vs w;rw[bJ]at w
  cases w with
  |cons a b=>
   cases a;exact .cons _ _ (Z _ b)
theorem KZ{l:OpenLaw}(hn:l.most=some n){P:Params}{h:dm}{args:List WData}{vals:List Value}
 (J:l.row.toRowW.claim.pre args=true) (O:WellAll P h vals args) :
 ∃a vs ns,vals=[c0 a]/\args=[WData.list (ns.map WData.int)]/\h.get? a=some {cls:=.type "list", data:=.seq vs.toArray}/\ez vs ns/\ns.length<=n:=by
 have X:=(pre_splitW J).1;have R:=(pre_splitW J).2;obtain⟨d,r,rfl,h1,h2⟩:=hasAllW_cons X;obtain rfl:=hasAllW_nil h2;obtain⟨xs,rfl,Q⟩:=hasW_list h1;obtain⟨ns,rfl⟩:=items_int Q;have hlen:ns.length<=n:=by
  have W:(WTm.not (.lt (.lit (.int (n:Int))) (.len (.arg 0)))).holds [] {args:=[.list (ns.map .int)]}=true:=by
   have W:=(holds_andW R).1;rwa[hn]at W
  have Y:=condW_of W (w_not (w_lt w_lit (w_len_list (w_arg rfl))));rw[au]at Y;refine Nat.le_of_not_lt λq=>?_
  have T:(n:Int)<((ns.length:Nat):Int):=by lia
  first
   | (rw[dTr T]at Y;exact absurd Y (by decide))
   | (simp at Y;lia)
 cases O with
 |cons U V=>
  cases V
  cases U with
  |list S Z=>exact⟨_,_,ns,rfl,rfl,S,wZ ns _ Z,hlen⟩
def K1(l:OpenLaw)(args:List WData):l.row.toRowW.claim.post args (.bool true) args=true:=
 postW_of (r:=l.row.toRowW) (X:=(true==true))
  (show WShape.has [] (.bool true) .bool=true by first|rfl|decide|simp[WShape.has,WShape.arms,WShape.armsAll])
  (show(WTm.eq .res (.lit (.bool true))).value [] {args:=args,res:=some (.bool true),after:=args}=some (.bool (true==true))from w_eq_bool (w_res rfl) w_lit) rfl
def EY{l:OpenLaw} {d:DefRec}
 (hn:l.most=some n) (hdf:d.params.defaults=[])
 (call:∀(w:df)(s₀ J:cB)(mg O:Str->Option Value)(fa:Addr)(o:Obj)(pm cd doc:Value)(a:Addr)(vs:List Value)(ns:List Int),
  Ground b loose [] c w s₀ mg O J.heap->YP w J.heap ->
  J.heap.get? fa=some o->o.data = .func (docDef d.name d.params d.body d.scope pm cd doc)->J.heap.CodeRec cd d.name->mg d.name=some (.ref fa) ->
  J.heap.get? a=some {cls:=.type "list", data:=.seq vs.toArray}->ez vs ns->ns.length<=n->J.gens = #[] ->
  codeAny (model l.prog w) callerA (.call (.ref fa) ⟨[.ref a],[]⟩) (λr s'=>r = .ok (.ret (.bool true))/\OldK J.heap s'.heap/\s'.os=J.os/\er s'.gens) J) :
 WalkO b loose c YP l.row.toRowW d [] (λf vs=>PySem.call f vs):=by
 intro w s₀ J mg O G Y fa o pm cd doc dV kV R hd hcd hD V P args vals as Z U T W Q;obtain rfl:dV = .none:=Dflts.none hD hdf;obtain rfl:kV = .none:=Dflts.noKw hD;obtain⟨a,vs,ns,rfl,rfl,X,hints,hlen⟩:=KZ hn Z W;refine enter_call (cf (call w s₀ J mg O fa o pm cd doc a vs ns G Y R (fd_plain hd) hcd V X hints hlen P) λr s' S=>?_);obtain⟨rfl,h2,M,N⟩:=S;exact⟨.inl ⟨.bool true,.bool true,[],rfl,λ_=>rfl,.bool true,K1 l _,λ_=>⟨List.Pairwise.nil,λ_ hm=>(nomatch hm)⟩⟩,h2,M,N⟩
section
variable{prog:cN}{K:Frag}
def pX(h:dm):dm:={h with objs:=#[]}
theorem yw(h:dm)(b:Addr):(pX h).get? b=none:=by
 cases e:(pX h).get? b with
 |none=>rfl
 |some o=>exact absurd (ac e) (nQ _)
def Ny (n:h.Ns L m):Fr (pX h) L h m:=
 ⟨n,λb o e=>(by rw[yw]at e;cases e),fK _⟩
end
end Att
variable{CX:L2.CXT}{sp:L2.Sp}{ns:List Int}
namespace L2
theorem oR:∀{vs:List Value}{ns:List Int},ez vs ns->Vals (ns.map V.int) vs
 |_,_,.nil=>.nil
 |_,_,.cons n t h=>.cons ⟨t,rfl⟩ (oR h)
def Only(H:Hp):Prop:=∀b,H b=none\/∃o xs,H b=some (.frz o (.lst xs))
noncomputable def E_(ts:List (Addr×Str×Pos))(H:Hp):Hp:=λb=>match ts.find? (λt=>t.1==b)with
 |some t=>some (.tbl t.2.1 t.2.2)
 |none=>H b
theorem Nz(ts:List (Addr×Str×Pos))(H:Hp)(b:Addr):(E_ ts H b=H b/\∀t∈ts,t.1≠b)\/∃t∈ts,t.1=b/\E_ ts H b=some (.tbl t.2.1 t.2.2):=by
 unfold E_
 cases e:ts.find? (λt=>t.1==b)with
 |none=>exact .inl ⟨rfl,λt Z z=>by have:=jz.mp e t Z;simp[z]at this⟩
 |some t=>
  have h1:=pB e;have h2:=List.find?_some e;exact .inr ⟨t,h1,by simpa using h2,rfl⟩
theorem NK{mb:Str->Option Value}{k:Nat}{fa:Addr}{J:cB}{vs:List Value}
 (KX:K.In J.heap) (hns:J.heap.Ns mainGlobals mg) (hb:J.heap.Ns builtinsNs mb) (hbb:∀x:Str,x≠"__name__"->mb x=bootBuiltins x) (hlim:J.heap.NoLimit) (hbm:∃bm ob,mg "__builtins__"=some (.ref bm)/\bm≠builtinsNs/\J.heap.get? bm=some ob/\ob.cls = .type "module"/\ob.dict=some builtinsNs/\ob.data = .plain) (hg:J.gens = #[])
 (ha:J.heap.get? a=some {cls:=.type "list", data:=.seq vs.toArray}) (hi:ez vs ns) (hl:ns.length<=sizeLine) (hr:Room k callerA)
 (F:∀base:dm,K.In base->base.Ns mainGlobals mg->FnOk P w K mg base CX k fa fd [x] sp) (hbind:∀(s:cB)(u:Value),BindsTo s fd ⟨[u],[]⟩ [(x,u)])
 (ts:List (Addr×Str×Pos)) (O:∀t∈ts,J.heap.get? t.1=some {cls:=.none,data:=.fields #[]}) (hCT:∀t∈ts,isCodeTable J.heap t.1) (hKt:∀t∈ts,K.lookup t.1=none) (htu:∀t∈ts,∀t'∈ts,t.1=t'.1->t=t')
 (hsp:∀H:Hp,(∀t∈ts,H t.1=some (.tbl t.2.1 t.2.2))->SqL K H a (ns.map V.int)->sp [.ref a] H (λv _=>v = .bl true) λ_ _ _=>False)
 (hCX:∀H e s',CX [] H J (λ_ _ _=>False) e s'->False) :
 codeAny (model P w) callerA (.call (.ref fa) ⟨[.ref a],[]⟩) (λr s'=>r = .ok (.ret (.bool true))/\OldK J.heap s'.heap/\s'.os=J.os/\er s'.gens) J:=by
 have g:=oR hi;have I:=hi.length;have core:∀H:Hp,(∀b,H b=none\/(∃o xs,H b=some (.frz o (.lst xs)))\/∃t∈ts,t.1=b/\H b=some (.tbl t.2.1 t.2.2))->(∀t∈ts,H t.1=some (.tbl t.2.1 t.2.2))->SqL K H a (ns.map V.int)->HOk P w H J.heap->(∀b,H b≠none->b=a\/∃t∈ts,t.1=b)->(H a≠none->K.lookup a=none) ->
  codeAny (model P w) callerA (.call (.ref fa) ⟨[.ref a],[]⟩) (λr s'=>r = .ok (.ret (.bool true))/\OldK J.heap s'.heap/\s'.os=J.os/\er s'.gens) J:=by
  intro H G hT p hok D l;have Z:∀{b:Addr}{o:Obj},J.heap.get? b=some o->H b=none->(Er J.heap H).get? b=some o:=λe n=>MJ e n
  have C:∀{b:Addr}{o:Obj}{es:Array DictEntry}{M:Nat},J.heap.get? b=some o->o.data = .dict es M->H b=none:=λ{b o es M} e d=>by
   cases q:H b with
   |none=>rfl
   |some u=>
    rcases D b (by rw[q];simp)with W|⟨t,Y,W⟩
    case inr=>
     subst W;rw[O t Y]at e;cases e;have i:Data.fields #[]=Data.dict es M:=d
     cases i
    subst W;rw[ha]at e;cases e;have i:Data.seq vs.toArray _=Data.dict es M:=d
    cases i
  have T:∀{b:Addr}{m:Str->Option Value},J.heap.Ns b m->(Er J.heap H).Ns b m:=λ{b m} ⟨o,es,M,e,d,r⟩=>⟨o,es,M,Z e (C e d),d,r⟩
  have E:=λb o e=>Z (KX b o e) (by
   cases q:H b with
   |none=>rfl
   |some u=>
    rcases D b (by rw[q];simp)with W|⟨t,Y,W⟩
    .subst W;rw[l (by rw[q];simp)]at e;cases e
    .subst W;rw[hKt t Y]at e;cases e)
  have hM:Mod K mg (Er J.heap H):=⟨E,T hns,⟨mb,T hb,hbb⟩,let⟨mc,h1,h2⟩:=hlim;⟨mc,T h1,h2⟩,let⟨bm,ob,g1,g2,g3,j,g5,g6⟩:=hbm;⟨bm,ob,g1,g2,Z g3 (by
   cases q:H bm with
   |none=>rfl
   |some u=>
    rcases D bm (by rw[q];simp)with W|⟨t,Y,W⟩
    .rw[W,ha]at g3;cases g3;have z:=j;injection z with z
     exact absurd z (by decide)
    .rw[<-W,O t Y]at g3;cases g3
     cases j),j,g5,g6⟩⟩
  have e0:Env0 P w K mg (Er J.heap H) callerA [] J H:=⟨rfl,hM,λb o e=>Rr e,uR (Kz _ _),trivial,λb hb=>absurd (show b∈([]:List Addr)from hb) (by simp),hok,.of_eq hg⟩;refine cf ((F _ E (T hns)).run callerA [] J H ⟨[.ref a],[]⟩ [.ref a] [.ref a] _ _ hr e0 (hbind J (.ref a)) (.cons rfl .nil) (hsp H hT p)) λr s' h=>?_
  cases r with
  |error e=>exact(hCX H e s' h).elim
  |ok fl=>
   cases fl with
   |next=>exact dS h
   |brk=>exact dS h
   |cont=>exact dS h
   |ret u=>
    obtain⟨v,H',os,bare,un,S,f,q⟩:=h;have q':v = .bl true:=q;subst q';obtain rfl:u=dE true:=f;refine⟨rfl,⟨λb o e=>?_,λb o e=>un.there b o e (by simp)⟩,os,bare⟩
    cases q:H b with
    |none=>exact .inl <| un.keep b o e q (by intro z;exact absurd (show b∈([]:List Addr)from z) (by simp)) (by simp)
    |some u=>
     rcases G b with z|⟨ob,xs,z⟩|⟨t,Y,rfl,z⟩
     case inr.inr=>
      have X:=un.tbls _ _ _ z;obtain⟨ps,e2,_⟩:=S _ _ X;rw[O t Y]at e;cases e;exact .inr (.inl ⟨hCT t Y,rfl,#[],ps,rfl,by rw[e2];simp⟩)
     .rw[q]at z;cases z
     .have X:=un.frzs b ob _ z;obtain⟨e1,_⟩:=hok b _ z;obtain⟨e2,_⟩:=S b _ X;rw[e]at e1;cases e1;exact .inl e2
 have U:∀H:Hp,Only H->SqL K H a (ns.map V.int)->HOk P w H J.heap->(∀b,H b≠none->b=a)->(H a≠none->K.lookup a=none) ->
  codeAny (model P w) callerA (.call (.ref fa) ⟨[.ref a],[]⟩) (λr s'=>r = .ok (.ret (.bool true))/\OldK J.heap s'.heap/\s'.os=J.os/\er s'.gens) J:=by
  intro H G p hok D l;have na:∀t∈ts,t.1≠a:=λt Y z=>by
   have X:=O t Y;rw[z,ha]at X
   cases X
  have cs:=Nz ts H;have B:E_ ts H a=H a:=by
   rcases cs a with z|⟨t,Y,z,_⟩
   .exact z.1
   .exact absurd z (na t Y)
  have N:∀b x,H b≠some (.own x):=λb x z=>by rcases G b with y|⟨_,_,y⟩<;>(rw[y]at z;cases z)
  have Q:∀b x,H b≠some (.tup x):=λb x z=>by rcases G b with y|⟨_,_,y⟩<;>(rw[y]at z;cases z)
  refine core (E_ ts H) (λb=>?_) (λt Y=>?_) ?_ (λb u z=>?_) (λb z=>?_) (λz=>l (by rwa[<-B]))
  .rcases cs b with z|⟨t,Y,R,X⟩
   .rcases G b with y|y
    .exact .inl (z.1.trans y)
    .obtain⟨o,xs,y⟩:=y;exact .inr (.inl ⟨o,xs,z.1.trans y⟩)
   .exact .inr (.inr ⟨t,Y,R,X⟩)
  .rcases cs t.1 with z|⟨t',A,R,X⟩
   .exact absurd rfl (z.2 t Y)
   .have:=htu t' A t Y R;subst this;exact X
  .rcases p with(z|⟨o,z⟩)|z
   .exact .inl (.inl (by rwa[B]))
   .exact .inl (.inr ⟨o,by rwa[B]⟩)
   .exact .inr z
  .rcases cs b with y|⟨t,Y,R,X⟩
   .rw[y.1]at z;exact(hok b u z).stay (λ_ _ _ q=>q) (λc q=>absurd q (N c b)) λc xs q=>absurd q (Q c xs)
   .rw[X]at z
    cases z;subst R;exact⟨#[],O t Y,.inl rfl⟩
  .rcases cs b with y|⟨t,Y,R,X⟩
   .exact .inl (D b (by rwa[<-y.1]))
   .exact .inr ⟨t,Y,R⟩
 cases hk:K.lookup a with
 |some o=>
  have e:=KX a o hk;rw[ha]at e
  cases e;refine U (λ_=>none) (λ_=>.inl rfl) (.inr ⟨_,vs.toArray,_,hk,rfl,rfl,rfl,by rwa[bG,I],by simpa using g⟩) (λb u z=>by have L:(none:Option HO)=some u:=z;cases L) (λb z=>absurd rfl z) λz=>absurd rfl z
 |none=>
  refine U (λb=>if b=a then some (.frz {cls:=.type "list", data:=.seq vs.toArray} (.lst (ns.map V.int)))else none) (λb=>?_) (.inl (.inr ⟨{cls:=.type "list", data:=.seq vs.toArray},if_pos rfl⟩)) (λb u z=>?_) (λb z=>?_) λ_=>hk
  .by_cases hb:b=a
   .exact .inr ⟨_,_,if_pos hb⟩
   .exact .inl (if_neg hb)
  .by_cases hb:b=a
   .have L:=(if_pos hb).symm.trans z
    cases L;subst hb;exact⟨ha,by rwa[au],vs,_,g,ha⟩
   .have L:=(if_neg hb).symm.trans z
    cases L
  .by_cases hb:b=a
   .exact hb
   .exact absurd (if_neg hb) z
end L2
namespace L2
abbrev KOf(_:K.In h):PySem.W.Frag:=K
def RV{l:PySem.W.OpenLaw} {q:cN} {d:DefRec} {K:Params->PySem.W.Frag} {CX:df->CXT} {sp:df->Sp}
 (hn:l.most=some n) (hn2:n<=sizeLine) (hdf:d.params.defaults=[]) (hr:Room k callerA)
 (hY:∀(w:df)(h:dm),YP w h->(K w.params).In h)
 (F:∀(w:df)(mg:Str->Option Value)(fa:Addr)(h:dm),(K w.params).In h->h.Ns mainGlobals mg->mg d.name=some (.ref fa) ->
  ∃fd:du,(∀(s:cB)(u:Value),BindsTo s fd ⟨[u],[]⟩ [(x,u)]) /\
   ∀base:dm,(K w.params).In base->base.Ns mainGlobals mg->FnOk l.prog w (K w.params) mg base (CX w) k fa fd [x] (sp w))
 (ts:List (Addr×Str×Pos)) (J:∀(w:df)(h:dm),YP w h->(∀t∈ts,h.get? t.1=some {cls:=.none,data:=.fields #[]})/\(∀t∈ts,isCodeTable h t.1)/\∀t∈ts,(K w.params).lookup t.1=none) (O:∀t∈ts,∀t'∈ts,t.1=t'.1->t=t')
 (hsp:∀(w:df)(H:Hp)(a:Addr)(ns:List Int),ns.length<=n->(∀t∈ts,H t.1=some (.tbl t.2.1 t.2.2))->SqL (K w.params) H a (ns.map V.int)->sp w [.ref a] H (λv _=>v = .bl true) λ_ _ _=>False)
 (hCX:∀(w:df)(H:Hp)(s:cB)(e:Value)(s':cB),CX w [] H s (λ_ _ _=>False) e s'->False) :
 PySem.W.WalkO q loose c YP l.row.toRowW d [] (λf vs=>PySem.call f vs):=by
 refine Att.EY hn hdf λw s₀ Z mg M fa o pm cd doc a vs ns G Y L hd hcd U X hints hlen R=>?_
 have S:=hY w _ Y;obtain⟨fd,hb,N⟩:=F w mg fa _ S G.T.g U;exact NK S G.T.g G.T.b G.T.builtins G.T.nolimit G.T.bmain R X hints (bO hlen hn2) hr N hb ts (J w _ Y).1 (J w _ Y).2.1 (J w _ Y).2.2 O (λH P Q=>hsp w H a ns hlen P Q) λH e s'=>hCX w H Z e s'
def NP{l:PySem.W.OpenLaw} {d:DefRec} {K:Params->PySem.W.Frag} {sp:PySem.W.Frag->Sp}
 (hn:l.most=some n) (Z:n<=sizeLine) (hdf:d.params.defaults=[]) (hr:Room k callerA)
 (hY:∀(w:df)(h:dm),YP w h->(K w.params).In h)
 (F:∀(w:df)(mg:Str->Option Value)(fa:Addr)(h:dm),(K w.params).In h->h.Ns mainGlobals mg->mg d.name=some (.ref fa) ->
  ∃fd:du,(∀(s:cB)(u:Value),BindsTo s fd ⟨[u],[]⟩ [(x,u)]) /\
   ∀base:dm,(K w.params).In base->base.Ns mainGlobals mg->FnOk l.prog w (K w.params) mg base CX k fa fd [x] (sp (K w.params)))
 (ts:List (Addr×Str×Pos)) (O:∀(w:df)(h:dm),YP w h->(∀t∈ts,h.get? t.1=some {cls:=.none,data:=.fields #[]})/\(∀t∈ts,isCodeTable h t.1)/\∀t∈ts,(K w.params).lookup t.1=none) (J:∀t∈ts,∀t'∈ts,t.1=t'.1->t=t')
 (Y:∀(K:PySem.W.Frag)(H:Hp)(a:Addr)(ns:List Int),ns.length<=n->(∀t∈ts,H t.1=some (.tbl t.2.1 t.2.2))->SqL K H a (ns.map V.int)->sp K [.ref a] H (λv _=>v = .bl true) λ_ _ _=>False)
 (hCX:∀(H:Hp)(s:cB)(e:Value)(s':cB),CX [] H s (λ_ _ _=>False) e s'->False) :
 PySem.W.WalkO b loose c YP l.row.toRowW d [] (λf vs=>PySem.call f vs):=
 RV (K:=K) (CX:=λ_=>CX) (sp:=λw=>sp (K w.params)) hn Z hdf hr hY F ts O J (λw H a ns h1 h2 X=>Y (K w.params) H a ns h1 h2 X) λ_ H s e s'=>hCX H s e s'
end L2
/- THE LAST THEOREM (shape;LID,My.* are yours):
   My.Adr: a structure of the addresses that your layer names (classes,functions);My.Txt K t: a structure (Prop) of the equations over K;
   My.txt_mk:{K} {implicit addresses ..} (e1:nsIn K mainGlobals "law"=some (some (.ref f))) (e2:K.lookup f=some ⟨oc,od,.func (fnOf "law" "law" params body scope dV kV doc pm an cdv ct),sl⟩) (e3:codeIn K cdv "law"=true) .. : ∃t,My.Txt K t
set_option maxRecDepth 100000 in
set_option maxHeartbeats 0 in
(the tactic k_is has no namespace: write k_is) -/
namespace L2
noncomputable def m_(s:Stmt):ei:=match s with
 | .FunctionDef _ a _ _ _ _ _ _ _ _=>a
 |_=>{posonlyargs:=[],args:=[],vararg:=none,kwonlyargs:=[],kw_defaults:=[],kwarg:=none,defaults:=[]}
def gR(s:Stmt):List Stmt:=match s with
 | .FunctionDef _ _ b _ _ _ _ _ _ _=>b
 |_=>[]
noncomputable def aX(s:Stmt):d3:=match s with
 | .FunctionDef _ _ _ _ _ _ sc _ _ _=>sc
 |_=>{kind:=.function,names:=[],isGenerator:=false,isCoroutine:=false}
abbrev CX0:CXT:=λ_ _ _ _ _ _=>False
abbrev E0:XK:=λ_ _ _=>False
def Zo:Passes CX0 X E0:=λ_ _ _ _ _ _ _ h=>h.elim
structure Fun(K:PySem.W.Frag)(x qual:Str)(st:Stmt)(f:Addr)(fd:du):Prop where
 ex:∃(oc:Value)(od:Option Addr)(kV doc pm:Value)(an:Option Addr)(cdv ct:Value)(osl:Array (Option Value)),
  fd=PySem.W.fnOf x qual (m_ st) (gR st) (aX st) .none kV doc pm an cdv ct/\K.lookup f=some ⟨oc,od,.func fd,osl⟩/\PySem.W.codeIn K cdv qual=true
 kp:PySem.W.keepIn K (.ref f)=true
section
end
section
variable{X:Cx}
end
def yx{A B:Prop}(h:B):if false=true then A else B:=by
 rwa[if_neg dZ]
def yC{A B:Prop}(h:A):if true=true then A else B:=by
 rwa[if_pos rfl]
def Same(H H':Hp):Prop:=∀b o,H b=some o->H' b=some o
def Same.refl(H:Hp):Same H H:=λ_ _ h=>h
def Same.trans (a:Same H H1) (b:Same H1 H2):Same H H2:=λc o h=>b c o (a c o h)
theorem Same.free(e:Same H H') (h:H' l=Option.none):H l=Option.none:=by
 cases q:H l with
 |none=>rfl
 |some o=>
  rw[e l o q]at h
  cases h
def Same.seq(e:Same H H')(h:SqL K H a xs):SqL K H' a xs:=by
 rcases h with(h|⟨o,h⟩)|h
 .exact .inl (.inl (e _ _ h))
 .exact .inl (.inr ⟨o,e _ _ h⟩)
 .exact .inr h
end L2
namespace My
open L2
abbrev St:=L2.St
def eO (h:H c=none) (o:HO):Same H (upd H c o):=λb u q=>by rwa[cO (jB q h)]
structure Df(K:PySem.W.Frag)(mg:Str->Option Value)(x:Str)(st:Stmt)(ps:List Str):Prop where
 ex:∃(f:Addr)(fd:du),Fun K x x st f fd/\Binds K fd ps []/\mg x=some (.ref f)
structure Has(P:cN)(w:df)(K:PySem.W.Frag)(mg:Str->Option Value)(base:dm)(n:Nat)(x:Str)(ps:List Str)(sp:Sp):Prop where
 ex:∃(f:Addr)(fd:du),FnOk P w K mg base CX0 n f fd ps sp/\Binds K fd ps []/\PySem.W.keepIn K (.ref f)=true/\mg x=some (.ref f)
section
variable{sp:Sp}{st:Stmt}{k:Nat}
def Has.mono(h:Has P w K mg base k x ps sp)(l:k<=n):Has P w K mg base n x ps sp:=by
 obtain⟨f,fd,F,b,kp,m⟩:=h.ex;exact⟨f,fd,F.mono l,b,kp,m⟩
end
section
variable{X:Cx}{sp:Sp}{t:TA}
def Fb(h:Has X.prog X.w X.K X.mg X.base n x ps sp)(Y:Room n X.A)(ha:PA X (e::es) t)(Z:Gl X x:=by rfl)(O:(x==("__debug__":Str))=false:=by decide)
 (he:starEach (e::es) X.env=(false,eval e X.env)::starEach es X.env:=by rfl) (J:(backTo pos (starEach es X.env)).any (·.1)=false:=by rfl) :
 PE X (.Call (.Name x p) (e::es) [] pos) (VG sp [] E0 t):=by
 obtain⟨f,fd,F,b,kp,m⟩:=h.ex;exact RG F Y Z m kp b .nil Zo ha O he J
end
mutual
inductive RdV(K:PySem.W.Frag)(H:Hp):V->PyData->Prop
 |non:RdV K H .non .none
 |bl (b:Bool):RdV K H (.bl b) (.bool b)
 |int (i:Int):RdV K H (.int i) (.int i)
 |str (x:Str):RdV K H (.str x) (.str x)
 |lst {a:Addr} {xs:List V} {ds:List PyData}:SqL K H a xs->RdVs K H xs ds->RdV K H (.ref a) (.list ds)
 |tup {a:Addr} {xs:List V} {ds:List PyData}:SqT K H a xs->RdVs K H xs ds->RdV K H (.ref a) (.tuple ds)
inductive RdVs(K:PySem.W.Frag)(H:Hp):List V->List PyData->Prop
 |nil:RdVs K H [] []
 |cons {v:V} {d:PyData} {vs:List V} {ds:List PyData}:RdV K H v d->RdVs K H vs ds->RdVs K H (v::vs) (d::ds)
end
section
variable{X:Cx}{σ:St}{H:Hp}
mutual
theorem RdV.reads(I:Inv X pins σ H s):∀{v:V}{d:PyData},RdV X.K H v d->∀{u:Value},RelV v u->∃as,Reads s.heap u d as
 |_,_,.non,_,r=>by cases r;exact⟨_,.none⟩
 |_,_,.bl b,_,r=>by cases r;exact⟨_,.bool b⟩
 |_,_,.int i,_,r=>by obtain⟨t,rfl⟩:=r;exact⟨_,.int i t⟩
 |_,_,.str x,_,r=>by obtain⟨t,rfl⟩:=r;exact⟨_,.str x t⟩
 |_,_,.lst h q,_,r=>by
  cases r;obtain⟨its,rv,⟨o,n,e,c,_,d⟩,_⟩:=I.list h;obtain⟨as,z⟩:=RdVs.reads I q rv;exact⟨_,.list e c d (by simpa using z)⟩
 |_,_,.tup h q,_,r=>by
  cases r;obtain⟨its,rv,⟨o,e,c,n,d⟩,_⟩:=I.tuple h;obtain⟨as,z⟩:=RdVs.reads I q rv;exact⟨_,.tuple e c d (by simpa using z)⟩
theorem RdVs.reads(I:Inv X pins σ H s):∀{vs:List V}{ds:List PyData},RdVs X.K H vs ds->∀{us:List Value},Vals vs us->∃as,ReadsAll s.heap us ds as
 |_,_,.nil,_,r=>by cases r;exact⟨_,.nil⟩
 |_,_,.cons h q,_,r=>by
  cases r with
  |cons r1 r2=>
   obtain⟨as,z⟩:=RdV.reads I h r1;obtain⟨bs,y⟩:=RdVs.reads I q r2;exact⟨_,.cons z y⟩
end
end
section
variable{X:Cx}
noncomputable def Zq(K:PySem.W.Frag):R2:=λx y H Q=>∃Y Z,RdV K H x Y/\RdV K H y Z/\cK Y=true/\cK Z=true/\Q (.bl (da Y Z)) H
noncomputable def W0(K:PySem.W.Frag):R2:=λx y H Q=>∃Y Z,RdV K H x Y/\RdV K H y Z/\cK Y=true/\cK Z=true/\Q (.bl (!PyData.eqv Y Z)) H
def oZ(J:X.A.units+64<cLine):OpR X (compareOp .Eq) (Zq X.K):=by
 intro pins s σ H x y v u Q I U V h;obtain⟨S,T,ha,hb,sa,W,q⟩:=h;obtain⟨as,Y⟩:=ha.reads I U;obtain⟨bs,Z⟩:=hb.reads I V;exact SeqAt.compareEq_shaped Y Z sa W J ⟨.bl _,H,I,rfl,q⟩
def rY(J:X.A.units+64<cLine):OpR X (compareOp .NotEq) (W0 X.K):=by
 intro pins s σ H x y v u Q I U V h;obtain⟨S,T,ha,hb,sa,W,q⟩:=h;obtain⟨as,Y⟩:=ha.reads I U;obtain⟨bs,Z⟩:=hb.reads I V;exact SeqAt.compareNe_shaped Y Z sa W J ⟨.bl _,H,I,rfl,q⟩
end
def isT(c T:String):Bool:=T==c||(T=="bool"&&c=="int")
section
def W2(h:c="int"\/c="bool"\/c="tuple"\/c="list"\/c="str")(g:T="NoneType"\/T="bool"\/T="int"\/T="str"\/T="list"\/T="tuple"\/T="dict"):
 PySem.W.kitOne K (.type T) (.type c)=some (isT c T):=by
 rcases h with rfl|rfl|rfl|rfl|rfl<;>rcases g with rfl|rfl|rfl|rfl|rfl|rfl|rfl<;>kernel_rfl
end
section
variable{X:Cx}
end
def big (I:Inv X b σ H s):sysModules<s.heap.objs.size:=by
 have h:=(I.mod.glob.keeps I.bk).lt;exact kI (by decide) h
def yE(h:dm)(hb:sysModules<h.objs.size):iB P w H (h.push {cls:=.type "dict", data:=.dict #[]}) h.objs.size (.dK []):=
 ⟨fK _,beq_eq_false_iff_ne.mpr (c9 (bN hb)),[],.nil,Heap.DictOf.new h⟩
def W3:TE:=λ_ H Q=>∀p,H p=none->Q (.ref p) (upd H p (.dK []))
def NQ:PE X (.Dict [] [] pos) W3:=λpins s σ H Q I h=>
 wpAny_Dict_empty ⟨.ref s.heap.objs.size,_,I.laid (a:=s.heap.objs.size) (o:=.dK []) (t':=s.toks) (λ_ _ q=>ae _ q) (bF _) (yE s.heap (big I)),rfl,h _ (I.hok.fresh (bF _))⟩
end My
namespace My
open L2
section
variable{X:Cx}{a b c d:Expr}{ta tb tc td:TE}
noncomputable def RW(r O J:R2)(ta tb tc td:TE):TE:=λσ H Q=>ta σ H λx H1=>tb σ H1 λy H2=>r x y H2 λz W=>∃k,z = .bl k /\
 (if k=true then tc σ W λZ S=>O y Z S λV X=>∃Y,V = .bl Y/\(if Y=true then td σ X λU T=>J Z U T Q else Q (.bl false) X)else Q (.bl false) W)
theorem K3 (ho:OpR X (compareOp op) r) (ho':OpR X (compareOp O) r') (Z:OpR X (compareOp J) Y) (ha:PE X a ta) (hb:PE X b tb) (hc:PE X c tc) (hd:PE X d td)
 (hm:lastMarks [op,O,J] [b,c,d]=false:=by with_unfolding_all rfl):PE X (.Compare a [op,O,J] [b,c,d] pos) (RW r r' Y ta tb tc td):=by
 intro pins s σ H Q I h;refine Compare_chain (thn (ha pins s σ H _ I h) λv s1 ⟨x,H1,w,r1,q1⟩=>chain_link (thn (hb pins s1 σ H1 _ w q1) λu s2 ⟨y,H2,A,r2,q2⟩=>
  thn (ho pins s2 σ H2 x y v u _ A r1 r2 q2) λd F ⟨z,P,S,r3,k,e,q3⟩=>?_)) hm
 subst e
 cases r3;refine ar ?_
 cases k with
 |false=>exact ite_ff ⟨.bl false,P,S,rfl,q3⟩
 |true=>
  refine ite_tt (chain_link (thn (hc pins F σ P _ S q3) λV G ⟨W,q,B,U,q4⟩=>thn (ho' pins G σ q y W u V _ B r2 U q4) λo K ⟨p,R,T,D,k2,e2,q5⟩=>?_));subst e2
  cases D;refine ar ?_
  cases k2 with
  |false=>exact ite_ff ⟨.bl false,R,T,rfl,q5⟩
  |true=>exact ite_tt (chain_last (thn (hd pins K σ R _ T q5) λM L ⟨N,t,C,E,q6⟩=>Z pins L σ t W N V M Q C U E q6))
end
structure Blt(mg:Str->Option Value):Prop where
 len_:mg "len"=none
 range_:mg "range"=none
 abs_:mg "abs"=none
 isinstance_:mg "isinstance"=none
 int_:mg "int"=none
 bool_:mg "bool"=none
 tuple_:mg "tuple"=none
 max_:mg "max"=none
 min_:mg "min"=none
end My
namespace My
open L2
abbrev cx(P:cN)(w:df)(K:PySem.W.Frag)(mg:Str->Option Value)(base:dm)(N:List Str)(x:Str)(st:Stmt)(f:Addr)(cdv:Value)(A:db)(outer:List Env)(s:cB)(H:Hp)(E:XK):Cx:=
 (jx CX0 P w K mg base N x (aX st) f cdv A outer s H E).nox
end My
namespace My
open L2
noncomputable def qW(env:Env):List (Str×NameKind)->List (Str×Addr)->List (Str×Addr)
 |[],cs=>cs
 | (n,k)::r,cs=>if(k==dl)=true then qW env r ((n,(env.cells.lookup n).getD 0)::cs)else qW env r cs
theorem uH:∀(l:List (Str×NameKind))(cs:List (Str×Addr)),(∀x∈l,x.2 = .free->∃c,env.cells.lookup x.1=some c) ->
 (forIn l cs λ(x:Str×NameKind)(r:List (Str×Addr))=>(if(x.2==dl)=true then(do let c <-cellOf env x.1;pure (dL ((x.1,c)::r)))else pure (dL r):Sem (ForInStep (List (Str×Addr)))))=pure (qW env l cs)
 |[],_,_=>rfl
 | (n,k)::r,cs,h=>by
  rw[List.forIn_cons];by_cases hk:(k==dl)=true
  .obtain⟨c,X⟩:=h (n,k) aD (beq_iff_eq.mp hk);have Y:cellOf env n=pure c:=by
    unfold cellOf;rw[show env.cells.lookup n=some c from X]
   rw[if_pos hk,Y];have W:=uH r ((n,c)::cs) λx Z=>h x (aA _ Z)
   rwa[qW,if_pos hk,show env.cells.lookup n=some c from X]
  .rw[if_neg hk];have W:=uH r cs λx Z=>h x (aA _ Z)
   rwa[qW,if_neg hk]
def HN (h:∀x∈b.names,x.2 = .free->∃c,env.cells.lookup x.1=some c):closureFor b env=pure (qW env b.names []):=by
 have z:=uH (env:=env) b.names [] h;show(forIn b.names [] λ(x:Str×NameKind)(r:List (Str×Addr))=>(if(x.2==dl)=true then(do let c <-cellOf env x.1;pure (dL ((x.1,c)::r)))else pure (dL r):Sem (ForInStep (List (Str×Addr))))) >>= (λcs=>pure cs)=_;rw[z];rfl
theorem yF:∀(l:List (Str×NameKind))(cs:List (Str×Addr)),(∀x∈l,x.2 = .free->∃c,env.cells.lookup x.1=some c)->(∀x c,cs.lookup x=some c->env.cells.lookup x=some c) ->
 ∀x c,(qW env l cs).lookup x=some c->env.cells.lookup x=some c
 |[],_,_,Y,x,c,e=>Y x c e
 | (n,k)::r,cs,h,Y,x,c,e=>by
  rw[qW]at e;by_cases hk:(k==dl)=true
  .rw[if_pos hk]at e;obtain⟨d,hd⟩:=h (n,k) aD (beq_iff_eq.mp hk);refine yF r _ (λx W=>h x (aA _ W)) (λy c' Z=>?_) x c e;rw[dO]at Z
   cases X:y==n with
   |true=>
    rw[X]at Z;have:y=n:=beq_iff_eq.mp X;subst this;rw[show env.cells.lookup y=some d from hd]at Z ⊢;exact Z
   |false=>
    rw[X]at Z;exact Y y c' Z
  .rw[if_neg hk]at e;exact yF r cs (λx W=>h x (aA _ W)) Y x c e
theorem rZ:∀(l:List (Str×NameKind))(cs:List (Str×Addr))(x:Str),((x,dl)∈l\/∃c,cs.lookup x=some c)->∃c,(qW env l cs).lookup x=some c
 |[],_,x,h=>by
  rcases h with h|h
  .exact absurd h (by simp)
  .exact h
 | (n,k)::r,cs,x,h=>by
  rw[qW];by_cases hk:(k==dl)=true
  .rw[if_pos hk];refine rZ r _ x ?_;by_cases e:x=n
   .subst e;exact .inr ⟨_,by rw[dO,beq_self_eq_true]⟩
   .rcases h with h|⟨c,h⟩
    .rcases aK.mp h with h|h
     .exact absurd (congrArg Prod.fst h) e
     .exact .inl h
    .exact .inr ⟨c,by rwa[dO,beq_eq_false_iff_ne.mpr e]⟩
  .rw[if_neg hk];refine rZ r cs x ?_;rcases h with h|h
   .rcases aK.mp h with h|h
    .have:k = .free:=(congrArg Prod.snd h).symm;subst this;exact absurd rfl hk
    .exact .inl h
   .exact .inr h
noncomputable abbrev blk(X:Cx)(O:List Str)(scope:d3)(cl:List (Str×Addr))(C:Addr)(J:cB)(Y:Hp)(fp:List Addr):Cx:=
 {X with N:=O,s₀:=J,H₀:=Y,env:=compEnvC scope cl C X.env,outer:=X.stack,ex:=fp,fn:=λ_=>false,xe:=λ_ _=>False}
noncomputable def w6(N:List Str)(kinds sn:List (Str×NameKind)):List Str->List Nat->Bool
 |[],[]=>true
 |x::V,j::ix=>(N[j]? == some x)&&((kinds.lookup x==some d4)&&((sn.lookup x==some dl)&&w6 N kinds sn V ix))
 |_,_=>false
def z_(t:Nat)(ix:List Nat)(σ:St):St:=aW t none++ix.map λj=>(σ[j]?).getD none
theorem yG : ∀{V:List Str}{ix:List Nat},w6 N kinds sn V ix=true->ix.length=V.length/\∀(k:Nat)(x:Str),V[k]? = some x->∃j,ix[k]? = some j/\N[j]? = some x/\kinds.lookup x=some .cell/\sn.lookup x=some .free
 |[],[],_=>⟨rfl,λk x h=>by simp at h⟩
 |x::V,j::ix,h=>by
  rw[w6,aV,aV,aV]at h;obtain⟨h1,h2,X,Y⟩:=h;obtain⟨l,r⟩:=yG Y;refine⟨by simp[l],λk y Z=>?_⟩
  cases k with
  |zero=>
   simp at Z;subst Z;exact⟨j,rfl,beq_iff_eq.mp h1,beq_iff_eq.mp h2,beq_iff_eq.mp X⟩
  |succ k=>exact r k y (by simpa using Z)
 |[],_::_,h=>by simp[w6]at h
 |_::_,[],h=>by simp[w6]at h
theorem uZ{env:Env}(J:env.scope.kind = .function):∀{names:List (Str×NameKind)}{x:Str},names.lookup x=some .free->env.kindOf x=some .cell ->
 (names.map λ(n,k)=>if(k==dl&&env.scope.kind == .function&&env.kindOf n==some .cell)then(n,d4)else(n,k)).lookup x=some .cell
 |[],_,h,_=>by simp at h
 | (n,k)::r,x,h,Y=>by
  have X:=@uZ env J r x;show wL x ((if(k==dl&&env.scope.kind == .function&&env.kindOf n==some .cell)=true then(n,d4)else(n,k))::_)=_
  cases Z:x==n with
  |true=>
   have e:=beq_iff_eq.mp Z;subst e;simp only[dO,Z]at h
   cases h;rw[if_pos (by rw[J,Y];rfl)];simp[dO]
  |false=>
   simp only[dO,Z]at h;by_cases W:(k==dl&&env.scope.kind == .function&&env.kindOf n==some .cell)=true
   .rw[if_pos W];simp only[dO,Z];exact X h Y
   .rw[if_neg W];simp only[dO,Z];exact X h Y
theorem qY{env:Env}:∀{names:List (Str×NameKind)}{x:Str}{k:NameKind},(∀y∈names,y.2 ≠ .cell)->(k = .cell\/k = .free) ->
 (names.map λ(n,k)=>if(k==dl&&env.scope.kind == .function&&env.kindOf n==some .cell)then(n,d4)else(n,k)).lookup x=some k->(x,dl)∈names
 |[],_,_,_,_,h=>by simp at h
 | (n,Y)::r,x,k,V,hk,h=>by
  have W:=@qY env r x k (λy T=>V y (aA _ T)) hk;have h':wL x ((if(Y==dl&&env.scope.kind == .function&&env.kindOf n==some .cell)=true then(n,d4)else(n,Y))::(r.map λ(n,k)=>if(k==dl&&env.scope.kind == .function&&env.kindOf n==some .cell)then(n,d4)else(n,k)))=some k:=h;by_cases X:(Y==dl&&env.scope.kind == .function&&env.kindOf n==some .cell)=true
  .rw[if_pos X]at h';have U:Y = .free:=by
    rw[aV,aV]at X;exact beq_iff_eq.mp X.1.1
   cases Z:x==n with
   |true=>
    have e:=beq_iff_eq.mp Z;subst e;subst U;exact aD
   |false=>
    simp only[dO,Z]at h';exact aA _ (W h')
  .rw[if_neg X]at h'
   cases Z:x==n with
   |true=>
    have e:=beq_iff_eq.mp Z;subst e;simp only[dO,Z]at h'
    cases h';rcases hk with hk|hk
    .exact absurd hk (V _ aD)
    .subst hk;exact aD
   |false=>
    simp only[dO,Z]at h';exact aA _ (W h')
section
variable{X:Cx}{σ:St}{H:Hp}
def Inv.forget (I:Inv X pins σ H s) (hl:σ'.length=X.N.length) (h:∀(i:Nat)(v:V),σ'[i]? = some (some v)->σ[i]? = some (some v)):Inv X pins σ' H s:=by
 obtain⟨m,hn,Z⟩:=I.loc;exact⟨I.ok,I.os,I.bare,I.base,⟨m,hn,λi x v e1 e2 e3=>Z i x v e1 (h i v e2) e3⟩,I.cell,I.free,I.freeC,I.pin,I.hok,hl⟩
end
end My
namespace My
open L2
theorem Fd (I:Nat->cB->Prop)
 (turn:∀n s,I n s->wpAny (model prog w) A (pyNext it) (λr Y=>match r with
  |none=>R (.ok .next) Y
  |some v=>wpAny (model prog w) A (letOwnedTupleGo target it v) (λ_ O=>wpAny (model prog w) A (assign target env v) (λ_ s₂=>
   wpAny (model prog w) A (forIn ifs true λc r=>if r=true then do let ok <-isTrue c env (eval c env);pure (dL ok)else pure (dL r)) (λok J=>
    if ok=true then wpAny (model prog w) A (eval elt env) (λx s₄=>
     wpAny (model prog w) A (call (.builtin "list.append") [acc,x]) (λ_ Z=>∃m,m<n/\I m Z) (λ_ _=>False) s₄) (λ_ _=>False) J
    else ∃m,m<n/\I m J) (λ_ _=>False) s₂) (λ_ _=>False) O) (λ_ _=>False) Y) (λ_ _=>False) s)
 (n:Nat) (h:I n s) :
 codeAny (model prog w) A (.compLoop (.ListComp elt [⟨target,iter,ifs,0⟩] b pos) 0 it acc env) R s:=by
 refine codeAny_loop rfl I (λn s Q=>?_) n h;refine wpAny_noted ?_;rw[compTurn_list];refine aa (bo (aa (ai (turn n s Q) (λr Y W=>?_) λ_ _ h'=>h'.elim)))
 cases r with
 |none=>exact ag W
 |some v=>
  refine aa (ai W (λ_ O V=>?_) λ_ _ h'=>h'.elim);refine aa (ai V (λ_ s₂ S=>aa (ai S (λok J X=>?_) λ_ _ h'=>h'.elim)) λ_ _ h'=>h'.elim)
  cases ok with
  |false=>exact ag ⟨rfl,X⟩
  |true=>
   exact aa (aa (ai X (λx s₄ T=>aa (ai T (λ_ Z U=>ag (ag ⟨rfl,U⟩)) λ_ _ h'=>h'.elim)) λ_ _ h'=>h'.elim))
section
variable{X:Cx}{σ:St}{H:Hp}
def K4{T V:List Str} {J:dm} {tk:Nat} {m:Str->Option Value}
 (I:Inv X pins σ H s3) (hf:∀b∈fp,vW X pins H b) (ho:∀b∈fp,∃o,s3.heap.get? b=some o)
 (hk:q1.kind = .function) (O:∀y∈q1.names,y.2 ≠ .cell) (hfr:∀x∈q1.names,x.2 = .free->x.1∈V) (hB:w6 X.N X.env.scope.names q1.names V q0=true)
 (hns:J.Ns s3.heap.objs.size m) (keep:∀b o,s3.heap.get? b=some o->J.get? b=some o) :
 Inv (blk X (T++V) q1 (qW X.env q1.names []) s3.heap.objs.size s3 H fp) pins (z_ T.length q0 σ) H {s3 with heap:=J,toks:=tk}:=by
 obtain⟨E,R⟩:=yG hB;have L:∀x∈q1.names,x.2 = .free->∃c,X.env.cells.lookup x.1=some c:=λx U e=>by
  obtain⟨k,ek⟩:=rP (hfr x U e);obtain⟨j,_,_,Q,_⟩:=R k _ ek;exact I.ok.has _ (.inl Q)
 have sub:=yF (env:=X.env) q1.names [] L (λx c e=>by simp at e);have stkSub:=λb z=>aK.mp (I.stkSub b z)
 have lt:∀b o,s3.heap.get? b=some o->b≠s3.heap.objs.size:=λb o e=>bN (ac e)
 have cellK:∀c v,s3.heap.IsCell c v->J.IsCell c v:=λc v ⟨o,e,d⟩=>⟨o,keep c o e,d⟩
 refine⟨⟨I.ok.mod,hk,I.ok.glob,I.ok.blt,bF _,λx y c e1 e2=>I.ok.inj x y c (sub x c e1) (sub y c e2),λx U=>?_,λx c U=>?_,I.ok.hd,I.ok.frames,.inl rfl,λb hb=>⟨?_,λx c e=>?_⟩,I.bs,bO I.ok.bsz I.sz,λb o e hb=>?_,λb hb z=>?_,I.stack,I.stkFree⟩,
  rfl,I.bare,Un.kept keep,⟨m,hns,λi x v e1 e2 e3=>?_⟩,λx c e=>?_,I.hok.fresh (bF _),λx c e=>I.freeC x c (sub x c e),λp D=>?_,I.hok.kept keep,?_⟩
 .rcases U with U|U
  .exact rZ _ _ x (.inl (qY O (.inl rfl) U))
  .exact rZ _ _ x (.inl (qY O (.inr rfl) U))
 .exact absurd U (by simp)
 .obtain⟨o,e⟩:=ho b hb;exact lt b o e
 .exact(hf b hb).2.2.2.2.1 x c (sub x c e)
 .rcases(hf b hb).2.2.2.1 with z|z
  .exact I.ok.noex b o e z
  .exact absurd (bT (ac e) (bO I.ok.bsz z)) (jf _)
 .rcases stkSub b z with z|z
  .exact(hf b hb).2.1 z
  .exact(hf b hb).2.2.1 z
 .by_cases hi:i<T.length
  .have W:(aW T.length none++q0.map λj=>(σ[j]?).getD none)[i]? = some (some v):=e2;rw[eN (by rwa[cC]),fJ,if_pos hi]at W;exact absurd W (by simp)
  .have M:(T++V)[i]? = some x:=e1;rw[d7 (by lia)]at M;obtain⟨j,B,A,Q,Y⟩:=R _ x M;have W:(aW T.length none++q0.map λj=>(σ[j]?).getD none)[i]? = some (some v):=e2;rw[d7 (by rw[cC];lia),cC,bf,B]at W;have Z:(σ[j]?).getD none=some v:=by simpa using W
   have K:σ[j]? = some (some v):=by
    cases q:σ[j]? with
    |none=>rw[q]at Z;exact absurd Z (by simp)
    |some o=>rw[q]at Z;simp at Z;rw[Z]
   obtain⟨t,C,hl⟩:=I.loc;obtain⟨u,r,l⟩:=hl j x v A K (.inr (.inl Q));rcases l with⟨z,_⟩|⟨_,c,w,S⟩
   .have G:X.env.scope.names.lookup x=some .local:=z;rw[Q]at G;exact absurd G (by simp)
   .obtain⟨c',P⟩:=rZ (env:=X.env) q1.names [] x (.inl (PySem.mem_of_lookup Y));have:c'=c:=by
     have q:=sub x c' P;rw[w]at q;exact(dg.inj q).symm
    subst this;exact⟨u,r,.inr ⟨.inl (uZ I.ok.kind Y Q),c',P,cellK _ _ S⟩⟩
 .obtain⟨v,z⟩:=I.cell x c (sub x c e);exact⟨v,cellK c v z⟩
 .obtain⟨e,n,ne,F,d⟩:=I.pin p D;refine⟨keep _ _ e,n,lt _ _ e,λz=>?_,d⟩;rcases stkSub p.1 z with z|z
  .exact ne z
  .exact F z
 .show(aW T.length none++q0.map λj=>(σ[j]?).getD none).length=(T++V).length;rw[bx,cC,au,bx,E]
def u_ (I3:Inv X pins σ H3 J) (Y:∀b∈fp,vW X pins H3 b)
 (O:Inv (blk X N' c cl J.heap.objs.size J H3 fp) pins' σ' H' s'):Inv X pins σ H' s'/\vW X pins H' J.heap.objs.size:=by
 have fr:=O.free;refine⟨?_,I3.fpOk (bF _) fr⟩;have os:=O.os;have u:=O.base;have V:=O.hok;have hb:=O.bare;obtain⟨hh,g,d,t,W⟩:=s';obtain rfl:W=J.os:=os;exact I3.call (h':=hh) (g':=g) (d':=d) (t':=t) (ch:=fp) u V hb λb Z=>⟨(Y b Z).2.2.2.1,(Y b Z).2.1,(Y b Z).2.2.2.2.1,(Y b Z).2.2.2.2.2⟩
end
def PTs(X:Cx)(ifs:List Expr)(t:TT):Prop:=
 ∀(pins:List (Addr×Obj))(s:cB)(σ:St)(H:Hp)(Q:Bool->Hp->Prop),Inv X pins σ H s->t σ H Q ->
  wpAny (model X.prog X.w) X.A (forIn ifs true λc r=>if r=true then do let ok <-isTrue c X.env (eval c X.env);pure (dL ok)else pure (dL r)) (TP X pins σ Q) X.xe s
def jV:TT:=λ_ H Q=>Q true H
def RX:PTs X [] jV:=λ_ _ _ H _ I h=>wpAny_tests_nil ⟨H,I,h⟩
def q_ (h:PT X c t):PTs X [c] t:=λpins s σ H Q I q=>wpAny_tests_one (h pins s σ H Q I q)
def JD(wi:TI)(g:TG)(tt:TT)(te:TE)(t:Nat)(O:St->St):TE:=λσ H Q=>wi σ H λJ H1=>∀D,H1 D=none->∃W:Nat->Nat->List V->Hp->Prop,(∃m,W 0 m [] (upd H1 D (.lst []))) /\
 ∀i m xs H2,W i m xs H2->H2 D=some (.lst xs)/\((J.stop i H2/\Q (.ref D) H2)\/(J.go i H2/\xs.length<sizeLine/\∀x T,J.yld i H2 x T->g x (O σ) T λZ S=>Z.drop t=(O σ).drop t /\
  tt Z S λb U=>if b=true then te Z U λv X=>X D=some (.lst xs)/\∃Y,Y<m/\W (i+1) Y (xs++[v]) (upd X D (.lst (xs++[v])))else ∃Y,Y<m/\W (i+1) Y xs U))
section
variable{X:Cx}{elt:Expr}{ifs:List Expr}{T V:List Str}{wi:TI}{g:TG}{tt:TT}{te:TE}
def Bc(hc:X.calm=true)(hi:PI X tg iter wi)
 (hg:∀cl C O Y fp,PG (blk X (T++V) scope cl C O Y fp) tg g) (ht:∀cl C O Y fp,PTs (blk X (T++V) scope cl C O Y fp) ifs tt) (he:∀cl C O Y fp,PE (blk X (T++V) scope cl C O Y fp) elt te)
 (hB:w6 X.N X.env.scope.names scope.names V ix=true) (hk:scope.kind = .function) (hcell:∀y∈scope.names,y.2 ≠ .cell) (hnames:∀x∈scope.names,x.2 = .local->scope.names.lookup x.1=some .local)
 (hfr:∀x∈scope.names,x.2 = .free->x.1∈V) (hs:∀x,foldedSetIterable iter X.env x=pure x) 
 (I:Inv X q1 σ q3 q2) (h:JD wi g tt te T.length (z_ T.length ix) σ q3 Qv)
 (fin:∀(D C:Addr)(H':Hp)(s':cB)(m:Str->Option Value),Inv X q1 σ H' s'->vW X q1 H' C->s'.heap.Ns C m->Qv (.ref D) H'->compPost (model X.prog X.w) X.A X.xe use Qp (.ref D) C (.ok .next) s') :
 wpAny (model X.prog X.w) X.A (comprehension (.ListComp elt [⟨tg,iter,ifs,0⟩] scope pos) scope X.env q0 (newList []) false (eval iter X.env) use) Qp X.xe q2:=by
 obtain⟨lV,capV⟩:=yG hB;have hcl:∀x∈scope.names,x.2 = .free->∃c,X.env.cells.lookup x.1=some c:=λx hx e=>by
  obtain⟨k,ek⟩:=rP (hfr x hx e);obtain⟨j,_,_,hc',_⟩:=capV k _ ek;exact I.ok.has _ (.inl hc')
 refine wpAny_comprehension_free rfl hs (HN hcl) hk hnames ?_;refine thn (hi q1 q2 σ q3 _ I h) λv s1 h1=>thn h1 λitv s2 h2=>?_
 obtain⟨it,fp,tn,J,H2,e,I2,U,z,f2,R⟩:=h2;subst e;refine b8 (hd:=by size_fits) ?_;have hD:=I2.hok.fresh (bF _);have I3:Inv X q1 σ (upd H2 s2.heap.objs.size (.lst [])) {s2 with heap:=s2.heap.push {cls:=.type "list", dict:=none,data:=.seq ([]:List Value).toArray} }:=
  I2.laid (t':=s2.toks) (λb o e=>ae _ e) (bF _) ⟨fK _,[],0,.nil,ah _ rfl⟩
 obtain⟨W,⟨m0,w0⟩,turn⟩:=R s2.heap.objs.size hD;generalize hs3:({s2 with heap:=s2.heap.push {cls:=.type "list", dict:=none,data:=.seq ([]:List Value).toArray} }:cB)=O at I3 ⊢;have B:tn 0 O.heap:=by
  rw[<-hs3];exact U.keep 0 s2.heap _ z λb hb o e=>ae _ e
 have a:∀b∈fp,vW X q1 (upd H2 s2.heap.objs.size (.lst [])) b:=λb hb=>by
  obtain⟨z0,z1⟩:=f2 b hb;refine⟨?_,z1⟩;obtain⟨o,eo,_⟩:=U.obj 0 _ z b hb;rwa[cO (bN (ac eo))]
 generalize hH3:upd H2 s2.heap.objs.size (.lst [])=Y at I3 a w0;generalize hDn:s2.heap.objs.size=D at turn;refine wpAny_newFunctionEnv hcell (by intro y hy;simp at hy) (λt P Q=>?_) hk;have keep:=λb o e=>Q.extBut b o (bN (ac e)) (ae _ e)
 have I4:=K4 (T:=T) (tk:=O.toks+([]:List (Str×Value)).length) I3 a (λb hb=>let⟨o,eo,_⟩:=U.obj 0 _ B b hb;⟨o,eo⟩) hk hcell hfr hB P keep;have E:=U.keep 0 _ _ B λb hb o e=>keep b o e
 have loop:codeAny (model X.prog X.w) X.A (.compLoop (.ListComp elt [⟨tg,iter,ifs,0⟩] scope pos) 0 (.ref it) (.ref D) (compEnvC scope (qW X.env scope.names []) O.heap.objs.size X.env))
  (compPost (model X.prog X.w) X.A X.xe use Qp (.ref D) O.heap.objs.size) {O with heap:=t,toks:=O.toks+([]:List (Str×Value)).length}:=by
  refine Fd (λn s'=>∃i xs H',Inv (blk X (T++V) scope (qW X.env scope.names []) O.heap.objs.size O Y fp) q1 (z_ T.length ix σ) H' s'/\tn i s'.heap/\(∀b∈fp,H' b=none)/\W i n xs H') ?_ m0
   ⟨0,[],Y,I4,E,λb hb=>(a b hb).1,w0⟩
  rintro n s5 ⟨i,xs,H5,I5,F,f,w5⟩;have Z:∀{H':Hp}{pins':List (Addr×Obj)}{σ':St}{s':cB},Inv (blk X (T++V) scope (qW X.env scope.names []) O.heap.objs.size O Y fp) q1 σ' H' s'->(∀b∈fp,H' b=none)->∀b∈fp,vW (blk X (T++V) scope (qW X.env scope.names []) O.heap.objs.size O Y fp) q1 H' b:=λI' hn b hb=>by
   obtain⟨x1,x2⟩:=I'.ok.exf b hb;refine⟨hn b hb,x1,I'.ok.exfs b hb,.inl hb,x2,λq hq=>?_⟩;exact(a b hb).2.2.2.2.2 q hq
  obtain⟨hD5,r5⟩:=turn i n xs H5 w5;rcases r5 with⟨stop,q⟩|⟨go,hz,step⟩
  .refine thn (U.done (blk X (T++V) scope (qW X.env scope.names []) O.heap.objs.size O Y fp) rfl rfl rfl hc i q1 s5 _ H5 _ I5 (Z (pins':=q1) I5 f) F stop) λr s6 ⟨hr,I6⟩=>?_
   subst hr;obtain⟨Ib,fC⟩:=u_ I3 a I6;obtain⟨m,hn,_⟩:=I6.loc;exact fin D _ H5 s6 m Ib fC hn q
  .refine thn (U.item (blk X (T++V) scope (qW X.env scope.names []) O.heap.objs.size O Y fp) rfl rfl rfl hc i q1 s5 _ H5 _ I5 (Z (pins':=q1) I5 f) F go) λr s6 ⟨u,hr,h6⟩=>?_
   subst hr;refine thn h6 λ_ s7 ⟨x,H7,I7,rx,y7,M,fr7⟩=>?_
   have I7':=I7.pinned (Z (pins':=q1) I7 fr7) (U.obj _ _ M);refine thn (hg _ _ _ _ _ _ s7 _ H7 x u _ I7' rx (step x H7 y7)) λ_ s8 ⟨S,H8,I8,k8,q8⟩=>?_
   have again:∀{L:Hp}{K:cB},Inv (blk X (T++V) scope (qW X.env scope.names []) O.heap.objs.size O Y fp) (q1++yt fp s7.heap) S L K ->
    Inv (blk X (T++V) scope (qW X.env scope.names []) O.heap.objs.size O Y fp) q1 (z_ T.length ix σ) L K/\tn (i+1) K.heap/\∀b∈fp,L b=none:=λ{L K} G=>by
    refine⟨Inv.forget G.unpinned I4.len λj v e=>?_,U.keep _ _ _ M λb hb o e=>(G.pin (b,o) (aL _ (aL _ (qQ hb e)))).1,λb hb=>?_⟩
    .by_cases hj:j<T.length
     .have e':(aW T.length none++ix.map λj=>(σ[j]?).getD none)[j]? = some (some v):=e;rw[eN (by rwa[cC]),fJ,if_pos hj]at e';exact absurd e' (by simp)
     .have ej:j=T.length+(j-T.length):=by lia
      rw[ej,<-oW]at e ⊢;rwa[k8]
    .obtain⟨o,e,d⟩:=U.obj _ _ M b hb;exact(G.pin (b,o) (aL _ (aL _ (qQ hb e)))).2.1
   refine thn (ht _ _ _ _ _ _ s8 S H8 _ I8 q8) λok K ⟨L,G,q9⟩=>?_
   cases ok with
   |false=>
    obtain⟨m',lm,w9⟩:=q9;obtain⟨a1,a2,a3⟩:=again G;exact⟨m',lm,i+1,xs,L,a1,a2,a3,w9⟩
   |true=>
    refine thn (he _ _ _ _ _ _ K S L _ G q9) λy s10 ⟨v,H10,I10,ry,l,m',lm,w10⟩=>?_
    refine thn (Bb _ s10 S H10 (.ref D) [v] (.ref D) [y] (λ_ Hn=>Hn=upd H10 D (.lst (xs++[v]))) I10 rfl (.cons ry .nil) ⟨D,xs,v,rfl,rfl,l,hz,rfl⟩) λ_ s11 ⟨_,H11,I11,_,e11⟩=>?_
    subst e11;obtain⟨a1,a2,a3⟩:=again I11;exact⟨m',lm,i+1,_,_,a1,a2,a3,w10⟩
 exact codeAny_compStart_list loop (U.self _ 0 _ _ _ E loop)
def RZ(hc:X.calm=true)(T V:List Str)(ix:List Nat)(hi:PI X tg iter wi)
 (hg:∀cl C Y Z fp,PG (blk X (T++V) scope cl C Y Z fp) tg g) (ht:∀cl C Y Z fp,PTs (blk X (T++V) scope cl C Y Z fp) ifs tt) (he:∀cl C Y Z fp,PE (blk X (T++V) scope cl C Y Z fp) elt te)
 (hB:w6 X.N X.env.scope.names scope.names V ix=true:=by rfl) (hk:scope.kind = .function:=by rfl) (O:∀y∈scope.names,y.2 ≠ .cell:=by decide +kernel)
 (J:∀x∈scope.names,x.2 = .local->scope.names.lookup x.1=some .local:=by decide +kernel)
 (hfr:∀x∈scope.names,x.2 = .free->x.1∈V:=by decide +kernel) (hs:∀x,foldedSetIterable iter X.env x=pure x:=by intro _;rfl) :
 PE X (.ListComp elt [⟨tg,iter,ifs,0⟩] scope pos) (JD wi g tt te T.length (z_ T.length ix)):=by
 intro pins s σ H Q I h;rw[eval_ListComp];refine Bc (use:=none) hc hi hg ht he hB hk O J hfr hs I h λD C H' s' m K L hn q=>⟨m,hn,λh' M=>⟨.ref D,H',?_,rfl,q⟩⟩
 obtain⟨P,R,G,S,U,W⟩:=L;exact K.turned (t':=s'.toks) (λb o hb e=>M.extBut b o hb e) P R S U W
def JF (hN:X.N.Nodup) (hi':X.N[i]? = some x) (hx:X.env.scope.names.lookup x=some .local) (hc:X.calm=true) (T V:List Str) (ix:List Nat) (hi:PI X tg iter wi)
 (hg:∀cl C Y Z fp,PG (blk X (T++V) scope cl C Y Z fp) tg g) (ht:∀cl C Y Z fp,PTs (blk X (T++V) scope cl C Y Z fp) ifs tt) (he:∀cl C Y Z fp,PE (blk X (T++V) scope cl C Y Z fp) elt te)
 (hsw:swapsWith (.ListComp elt [⟨tg,iter,ifs,0⟩] scope pos) (some (.Name x pos')) c.line X.env=pure true:=by rfl)
 (hB:w6 X.N X.env.scope.names scope.names V ix=true:=by rfl) (hk:scope.kind = .function:=by rfl) (O:∀y∈scope.names,y.2 ≠ .cell:=by decide +kernel)
 (J:∀x∈scope.names,x.2 = .local->scope.names.lookup x.1=some .local:=by decide +kernel)
 (hfr:∀x∈scope.names,x.2 = .free->x.1∈V:=by decide +kernel) (hs:∀x,foldedSetIterable iter X.env x=pure x:=by intro _;rfl) :
 PS X (.Assign [.Name x pos'] (.ListComp elt [⟨tg,iter,ifs,0⟩] scope pos) c) (Wy (JD wi g tt te T.length (z_ T.length ix)) (M_ i)):=by
 intro pins s σ H D I h;rw[exec_Assign_Name_used _ _ _ _ hsw];refine aa (bo (aa ?_));refine aa (ai (Bc (use:=some (assign (.Name x pos') X.env)) (Qp:=λ_ s'=>SP X pins D .next s') hc hi hg ht he hB hk O J hfr hs I h λB C H' s' m E F hn q=>?_) (λ_ s' G=>ag (ag G)) λ_ _ e=>e);obtain⟨L,M,A,P,R,Q⟩:=F;refine wpAny_assign_Name (Aw E hN hi' (.inl hx) (v:=.ref B) rfl (λU S ⟨a,K,ha⟩=>⟨m,hn.sameBut K ?_,λh' W=>⟨_,H',?_,q⟩⟩) (.inr hx))
 .rcases ha with ha|ha
  .rwa[ha]
  .exact c9 (R x a ha)
 .exact S.turned (t':=U.toks) (λb o hb e=>W.extBut b o hb e) L M P R Q
end
section
variable{X:Cx}
end
end My
namespace D3
def ex2 {A B C:α->β->Prop} {G:Prop} (h:∃a b,A a b/\B a b/\C a b) (k:∀a b,A a b->B a b->C a b->G):G:=h.elim λa h=>h.elim λb z=>k a b z.1 z.2.1 z.2.2
def ex1{α:Type _}{A B:α->Prop}{G:Prop}(h:∃a,A a/\B a)(k:∀a,A a->B a->G):G:=h.elim λa z=>k a z.1 z.2
def ex4{α β O J:Type _}{A B C:α->β->O->J->Prop}{G:Prop}(h:∃a b c d,A a b c d/\B a b c d/\C a b c d)(k:∀a b c d,A a b c d->B a b c d->C a b c d->G):G:=h.elim λa h=>h.elim λb h=>h.elim λc h=>h.elim λd z=>k a b c d z.1 z.2.1 z.2.2
abbrev D:=PyData
inductive U where
 |d (x:D)
 |x (c f:Str) (v:D)
noncomputable abbrev DS:=List (Option U)
inductive Oc where
 |nx (δ:DS)
 |rt (d:D)
 |bk (δ:DS)
 |ct (δ:DS)
 |ex (c f:Str) (v:D)
abbrev FE:=DS->Option D
abbrev FA:=DS->Option (List D)
abbrev FT:=DS->Option Bool
abbrev FS:=DS->Option Oc
abbrev FG:=D->DS->Option DS
mutual
def flat:D->Bool
 | .none=>true
 | .bool _=>true
 | .int _=>true
 | .str _=>true
 | .list _=>false
 | .tuple xs=>flats xs
 | .dict _=>false
def flats:List D->Bool
 |[]=>true
 |x::r=>flat x&&flats r
end
mutual
def nl:D->Nat
 | .none=>0
 | .bool _=>0
 | .int _=>0
 | .str _=>0
 | .list xs=>nls xs+1
 | .tuple xs=>nls xs
 | .dict _=>1
def nls:List D->Nat
 |[]=>0
 |x::r=>nl x+nls r
end
def fl1:D->Bool
 | .list xs=>flats xs
 |d=>flat d
noncomputable def ak(i:Nat):FE:=λδ=>match δ[i]? with
 |some (some (.d x))=>some x
 |_=>none
def dC(d:D):FE:=λ_=>some d
def dOp(g:D->D->Option D)(fa fb:FE):FE:=λδ=>(fa δ).bind λx=>(fb δ).bind λy=>g x y
def dUn(g:D->Option D)(fa:FE):FE:=λδ=>(fa δ).bind g
def aJ:FA:=λ_=>some []
def aj(fa:FE)(fr:FA):FA:=λδ=>(fa δ).bind λx=>(fr δ).bind λr=>some (x::r)
def dTup(fa:FA):FE:=λδ=>(fa δ).bind λl=>if l.length<=sizeLine then some (.tuple l)else none
def fY(fa:FA):FE:=λδ=>(fa δ).bind λl=>if l.length<=sizeLine then some (.list l)else none
def dCall(F:List D->Option D)(fa:FA):FE:=λδ=>(fa δ).bind F
def dW(fa:FE):FE:=λδ=>(fa δ).bind λd=>if flat d=true then some d else none
def dN1(fa:FE):FE:=λδ=>(fa δ).bind λd=>if decide (nl d<=1)=true then some d else none
def vd(fa:FE):FE:=λδ=>(fa δ).bind λd=>if fl1 d=true then some d else none
def ud(fa fb:FE):FE:=λδ=>(fa δ).bind λx=>match x with
 | .bool true=>fb δ
 | .bool false=>some (.bool false)
 |_=>none
def dOr(fa fb:FE):FE:=λδ=>(fa δ).bind λx=>match x with
 | .bool true=>some (.bool true)
 | .bool false=>fb δ
 |_=>none
def R3(fa:FE):FE:=λδ=>(fa δ).bind λx=>match x with
 | .bool b=>some (.bool (!b))
 |_=>none
def dIf(c:FT)(fa fb:FE):FE:=λδ=>(c δ).bind λb=>if b=true then fa δ else fb δ
def aQ(fa:FE):FT:=λδ=>(fa δ).bind λx=>match x with
 | .bool b=>some b
 |_=>none
def rW(a b:FT):FT:=λδ=>(a δ).bind λx=>if x=true then b δ else some false
def tOr(a b:FT):FT:=λδ=>(a δ).bind λx=>if x=true then some true else b δ
def ig(a:FT):FT:=λδ=>(a δ).map λx=>!x
def bV:FS:=λδ=>some (.nx δ)
def bD(a b:FS):FS:=λδ=>(a δ).bind λo=>match o with
 | .nx δ'=>b δ'
 |o=>some o
noncomputable def ai6(i:Nat)(fe:FE):FS:=λδ=>(fe δ).bind λd=>some (.nx (δ.set i (some (.d d))))
def sIf(c:FT)(a b:FS):FS:=λδ=>(c δ).bind λt=>if t=true then a δ else b δ
def b_(fe:FE):FS:=λδ=>(fe δ).bind λd=>some (.rt d)
def Zr:FS:=λ_=>some (.rt .none)
def su(fe:FE):FS:=λδ=>(fe δ).bind λ_=>some (.nx δ)
def sBk:FS:=λδ=>some (.bk δ)
def sCt:FS:=λδ=>some (.ct δ)
def gN(i:Nat):FG:=λd δ=>some (δ.set i (some (.d d)))
def n8:List D->DS->Option DS:=λl δ=>match l with
 |[]=>some δ
 |_=>none
noncomputable def fQ(g:FG)(r:List D->DS->Option DS):List D->DS->Option DS:=λl δ=>match l with
 |d::Z=>(g d δ).bind λδ'=>r Z δ'
 |[]=>none
def ai7(fe:FE)(g:FG):FS:=λδ=>(fe δ).bind λd=>(g d δ).bind λδ'=>some (.nx δ')
noncomputable def jj(g:FG)(b:FS):List D->DS->Option Oc
 |[],δ=>some (.nx δ)
 |d::r,δ=>(g d δ).bind λδ1=>(b δ1).bind λo=>match o with
  | .nx δ'=>jj g b r δ'
  | .ct δ'=>jj g b r δ'
  | .bk δ'=>some (.nx δ')
  | .rt v=>some (.rt v)
  | .ex c f v=>some (.ex c f v)
def pC(fi:FA)(g:FG)(b:FS):FS:=λδ=>(fi δ).bind λl=>jj g b l δ
noncomputable def iJ(c:FT)(b:FS):Nat->DS->Option Oc
 |0,_=>none
 |n+1,δ=>(c δ).bind λt=>if t=true then(b δ).bind λo=>match o with
     | .nx δ'=>iJ c b n δ'
     | .ct δ'=>iJ c b n δ'
     | .bk δ'=>some (.nx δ')
     | .rt v=>some (.rt v)
     | .ex c f v=>some (.ex c f v)
  else some (.nx δ)
theorem pL{c:FT}{b:FS}:∀{n:Nat}{δ:DS}{o:Oc},iJ c b n δ=some o->∀{m:Nat},n<=m->iJ c b m δ=some o
 |0,_,_,h,_,_=>by simp[iJ]at h
 |n+1,δ,o,h,0,l=>by lia
 |n+1,δ,o,h,m+1,l=>by
  rw[iJ]at h ⊢
  cases Z:c δ with
  |none=>rw[Z]at h;simp at h
  |some t=>
   rw[Z]at h;simp only[aG]at h ⊢
   cases t with
   |false=>exact h
   |true=>
    simp only[if_pos]at h ⊢
    cases hb:b δ with
    |none=>rw[hb]at h;simp at h
    |some q=>
     rw[hb]at h;simp only[aG]at h ⊢
     cases q with
     |nx δ'=>exact pL h (by lia)
     |ct δ'=>exact pL h (by lia)
     |bk δ'=>exact h
     |rt v=>exact h
     |ex c f v=>exact h
def HS{c:FT}{b:FS}{m:Nat}{δ:DS}{o o':Oc}(h:iJ c b n δ=some o)(h':iJ c b m δ=some o'):o=o':=by
 have a:=pL h (Nat.le_max_left n m);have Z:=pL h' (Nat.le_max_right n m);rw[a]at Z;exact dg.inj Z
open Classical in
def v5(c:FT)(b:FS):FS:=λδ=>if h:∃o n,iJ c b n δ=some o then some (Classical.choose h)else none
def K5{c:FT}{b:FS}{δ:DS}{o:Oc}(h:iJ c b n δ=some o):v5 c b δ=some o:=by
 have e:∃o n,iJ c b n δ=some o:=⟨o,n,h⟩;unfold v5;rw[dif_pos e];obtain⟨m,hm⟩:=Classical.choose_spec e;rw[HS hm h]
def HW{c:FT}{b:FS}{δ:DS}{o:Oc}(h:v5 c b δ=some o):∃n,iJ c b n δ=some o:=by
 unfold v5 at h;by_cases e:∃o n,iJ c b n δ=some o
 .rw[dif_pos e]at h;have:=Classical.choose_spec e;rwa[dg.inj h]at this
 .rw[dif_neg e]at h
  cases h
noncomputable def fnD(p q:Nat)(b:FS):List D->Option D:=λds=>if ds.length=p then match b (ds.map (λd=>some (.d d))++aW q none)with
 |some (.rt d)=>some d
 |some (.nx _)=>some .none
 |_=>none
 else none
def jR(t:Nat)(ix:List Nat)(δ:DS):DS:=aW t none++ix.map λj=>(δ[j]?).getD none
noncomputable def fM(g:FG)(c:FT)(e:FE)(δ:DS):List D->Option (List D)
 |[]=>some []
 |d::r=>(g d δ).bind λδ1=>(c δ1).bind λb=>if b=true then(e δ1).bind λx=>(fM g c e δ r).bind λl=>some (x::l)else fM g c e δ r
def jP(fi:FA)(g:FG)(c:FT)(e:FE)(t:Nat)(ix:List Nat):FE:=λδ=>(fi δ).bind λl=>if l.length<=100000 then(fM g c e (jR t ix δ) l).bind λr=>some (.list r)else none
def jV:FT:=λ_=>some true
noncomputable def gI(g:Int->Int->Option D):D->D->Option D:=λx y=>match x,y with
 | .int i,.int j=>g i j
 |_,_=>none
noncomputable def pIx(n:Nat)(i:Int):Option Nat:=if 0<=i then(if i<n then some i.toNat else none)else if -(n:Int)<=i then some (i+n).toNat else none
def pAt(xs:List D)(i:Int):Option D:=(pIx xs.length i).bind λj=>xs[j]?
def isT(c T:String):Bool:=T==c||(T=="bool"&&c=="int")
def bL(i:Nat)(fe:FE):FS:=λδ=>if i<δ.length then ai6 i fe δ else none
def jg:D->D->Option D:=gI λi j=>some (.int (i+j))
def z8:D->D->Option D:=gI λi j=>some (.int (i-j))
def yH(i j:Int):Bool:=decide (i.natAbs<2^64)||decide (j.natAbs<2^64)||(decide (i.natAbs<2^30000)&&decide (j.natAbs<2^30000))
def ql:D->D->Option D:=gI λi j=>if yH i j=true then some (.int (i*j))else none
def HX(_ j:Int):Bool:=decide (j≠0)&&decide (j.natAbs<2^9000)
def Fe:D->D->Option D:=gI λi j=>if HX i j=true then some (.int (i.fdiv j))else none
def uf:D->D->Option D:=gI λi j=>if decide (j≠0)=true then some (.int (i.fmod j))else none
def W4(i j:Int):Bool:=decide (0<=j)&&decide (j<=1000)&&decide (i.natAbs<2^64)
def Cr:D->D->Option D:=gI λi j=>if W4 i j=true then some (.int (i^j.toNat))else none
def gLt:D->D->Option D:=gI λi j=>some (.bool (decide (i<j)))
def gLe:D->D->Option D:=gI λi j=>some (.bool (decide (i<=j)))
def gGt:D->D->Option D:=gI λi j=>some (.bool (decide (j<i)))
def gGe:D->D->Option D:=gI λi j=>some (.bool (decide (j<=i)))
def gEq:D->D->Option D:=λx y=>if(cK x&&cK y)=true then some (.bool (da x y))else none
def gNe:D->D->Option D:=λx y=>if(cK x&&cK y)=true then some (.bool (!PyData.eqv x y))else none
def gNl(i:Nat):FG:=λd δ=>if i<δ.length then gN i d δ else none
def gTn(n:Nat)(g:List D->DS->Option DS):FG:=λd δ=>match d with
 | .tuple l=>if l.length=n then g l δ else none
 |_=>none
def NT(i:Nat)(f:FE):FS:=λδ=>(ak i δ).bind λx=>(f δ).bind λd=>match x with
 | .list l=>if l.length<1000000 then some (.nx (δ.set i (some (.d (.list (l++[d]))))))else none
 |_=>none
def yI(i:Nat)(fk f:FE):FS:=λδ=>(f δ).bind λd=>(ak i δ).bind λx=>(fk δ).bind λk=>match x,k with
 | .list l,.int j=>(pIx l.length j).bind λn=>some (.nx (δ.set i (some (.d (.list (l.set n d))))))
 |_,_=>none
def putAt(x:D)(n:Nat)(d:D):D:=match x with
 | .list l=>.list (l.set n d)
 | .tuple l=>.tuple (l.set n d)
 |x=>x
noncomputable def asList:D->Option (List D)
 | .list l=>some l
 |_=>none
def nU(f:FE):FA:=λδ=>(f δ).bind asList
noncomputable def d_(lo hi:Int):List D:=(aC (hi-lo).toNat).map λ(k:Nat)=>.int (lo+(k:Int))
def ug(i:Int):Bool:=decide (-(2^62)<=i)&&decide (i<2^62)
def sy(fa:FA):FA:=λδ=>(fa δ).bind λl=>match l with
 |[.int j]=>if ug j=true then some (d_ 0 j)else none
 |_=>none
def NZ(fa:FA):FA:=λδ=>(fa δ).bind λl=>match l with
 |[.int i,.int j]=>if(ug i&&ug j)=true then some (d_ i j)else none
 |_=>none
def gIx:D->D->Option D:=λx y=>match x,y with
 | .list l,.int i=>pAt l i
 | .tuple l,.int i=>pAt l i
 |_,_=>none
noncomputable def o7(g g':D->D->Option D)(fa fb fc:FE):FE:=λδ=>(fa δ).bind λx=>(fb δ).bind λy=>(g x y).bind λz=>match z with
 | .bool true=>(fc δ).bind λw=>g' y w
 | .bool false=>some (.bool false)
 |_=>none
noncomputable def xQ(g g' J:D->D->Option D)(fa fb fc fd:FE):FE:=λδ=>(fa δ).bind λx=>(fb δ).bind λy=>(g x y).bind λz=>match z with
 | .bool true=>(fc δ).bind λw=>(g' y w).bind λZ=>match Z with
  | .bool true=>(fd δ).bind λu=>J w u
  | .bool false=>some (.bool false)
  |_=>none
 | .bool false=>some (.bool false)
 |_=>none
noncomputable def isNone:D->Bool
 | .none=>true
 |_=>false
def v8:D->Option D:=λx=>some (.bool (isNone x))
def lD:D->Option D:=λx=>some (.bool (!isNone x))
def jk:List D->Option D
 |[.list l]=>some (.int l.length)
 |[.tuple l]=>some (.int l.length)
 |_=>none
noncomputable def jQ:List D->Option (List Int)
 |[]=>some []
 | .int i::r=>(jQ r).map (i :: ·)
 |_=>none
def ao7:List D->Option D
 |[.list l]=>(jQ l).map λns=>.int ns.sum
 |_=>none
def mxI(i:Int)(r:List Int):Int:=r.foldl (λa b=>if a<b then b else a) i
def Fg:List D->Option D
 |[.list l]=>match jQ l with
  |some (i::r)=>some (.int (mxI i r))
  |_=>none
 |_=>none
noncomputable def insI(x:Int):List Int->List Int
 |[]=>[x]
 |y::r=>if x<=y then x::y::r else y::insI x r
def nW:List Int->List Int
 |[]=>[]
 |x::r=>insI x (nW r)
def um:List D->Option D
 |[.list l]=>(jQ l).bind λns=>if ns.length<64 then some (.list ((nW ns).map .int))else none
 |_=>none
def HY:List D->Option D
 |[.int i]=>some (.int i)
 |[.bool b]=>some (.int (if b then 1 else 0))
 |_=>none
def ai8:List D->Option D
 |[.int i]=>some (.int (if i<0 then -i else i))
 |_=>none
def sE:List D->Option D
 |[.int i,.int j]=>some (.int (if j>i then j else i))
 |_=>none
def uo:List D->Option D
 |[.int i,.int j]=>some (.int (if j<i then j else i))
 |_=>none
noncomputable def tyD:D->String
 | .none => "NoneType"
 | .bool _ => "bool"
 | .int _ => "int"
 | .str _ => "str"
 | .list _ => "list"
 | .tuple _ => "tuple"
 | .dict _ => "dict"
def gIs(c:String):D->Option D:=λd=>some (.bool (isT c (tyD d)))
def Cu:D->Option D
 | .int i=>some (.int (-i))
 |_=>none
noncomputable def mF:D->D->Option D:=λx y=>match x,y with
 | .list l,.list m=>if l.length+m.length<=1000000 then some (.list (l++m))else none
 |_,_=>none
noncomputable def N5:D->D->Option D:=λx y=>match x,y with
 | .list l,.int k=>if l.length*k.toNat<=1000000/\-(2^63)<=k/\k<2^63 then some (.list (aW k.toNat l).flatten)else none
 |_,_=>none
def uq:D->Option D
 | .list l=>some (.list l)
 | .tuple l=>some (.list l)
 |_=>none
abbrev FO:=DS->Option (Option Int)
def yJ:FO:=λ_=>some none
def yK(f:FE):FO:=λδ=>(f δ).bind λx=>match x with
 | .int i=>some (some i)
 |_=>none
noncomputable def pSx(n d:Nat):Option Int->Nat
 |none=>d
 |some i=>if i<0 then(i+n).toNat else min i.toNat n
def cuD(xs:List D)(lo hi:Option Int):List D:=(xs.drop (pSx xs.length 0 lo)).take (pSx xs.length xs.length hi-pSx xs.length 0 lo)
def dSl(f:FE)(lo hi:FO):FE:=λδ=>(f δ).bind λx=>(lo δ).bind λa=>(hi δ).bind λb=>match x with
 | .list l=>some (.list (cuD l a b))
 |_=>none
noncomputable def ai9(i j:Nat)(fa:FA):FS:=λδ=>(fa δ).bind λl=>match l with
 |[x,y]=>if i<δ.length/\j<δ.length then some (.nx ((δ.set i (some (.d x))).set j (some (.d y))))else none
 |_=>none
noncomputable def lE(l:List D):List D:=l.mapIdx λi x=>.tuple [.int (i:Int),x]
def vf(f:FE):FA:=λδ=>(f δ).bind λd=>match d with
 | .list l=>some (lE l)
 |_=>none
def mnI(i:Int)(r:List Int):Int:=r.foldl (λa b=>if b<a then b else a) i
def Fi:List D->Option D
 |[.list l]=>match jQ l with
  |some (i::r)=>some (.int (mnI i r))
  |_=>none
 |_=>none
noncomputable def nY:List D->Option (List Bool)
 |[]=>some []
 | .bool b::r=>(nY r).map (b :: ·)
 |_=>none
def Fj:List D->Option D
 |[.list l]=>(nY l).map λbs=>.bool (bs.all id)
 |_=>none
noncomputable def uI:List D->List D->List D
 |x::r,y::s=>.tuple [x,y]::uI r s
 |_,_=>[]
def W5(f g:FE):FA:=λδ=>(f δ).bind λd=>(g δ).bind λe=>match d,e with
 | .list l,.list m=>some (uI l m)
 |_,_=>none
theorem Fp:∀(r:List Int)(i:Int),mnI i r∈i::r/\∀a∈i::r,mnI i r<=a
 |[],i=>⟨aD,λa h=>by rw[aB.mp h];exact fL _⟩
 |b::r,i=>by
  have Z:=Fp r (if b<i then b else i);have e:mnI i (b::r)=mnI (if b<i then b else i) r:=rfl;rw[e]
  constructor
  .rcases aK.mp Z.1 with z|z
   .rw[z];split<;>simp
   .exact aA _ (aA _ z)
  .intro a h;have Y:=Z.2 _ aD;have hb:(if b<i then b else i)<=i/\(if b<i then b else i)<=b:=by split<;>lia
   rcases aK.mp h with rfl|h
   .exact mG Y hb.1
   .rcases aK.mp h with rfl|h
    .exact mG Y hb.2
    .exact Z.2 a (aA _ h)
theorem Fq:∀(r:List Int)(i:Int),mxI i r∈i::r/\∀a∈i::r,a<=mxI i r
 |[],i=>⟨aD,λa h=>by rw[aB.mp h];exact fL _⟩
 |b::r,i=>by
  have Z:=Fq r (if i<b then b else i);have e:mxI i (b::r)=mxI (if i<b then b else i) r:=rfl;rw[e]
  constructor
  .rcases aK.mp Z.1 with z|z
   .rw[z];split<;>simp
   .exact aA _ (aA _ z)
  .intro a h;have Y:=Z.2 _ aD;have hb:i<=(if i<b then b else i)/\b<=(if i<b then b else i):=by split<;>lia
   rcases aK.mp h with rfl|h
   .exact mG hb.1 Y
   .rcases aK.mp h with rfl|h
    .exact mG hb.2 Y
    .exact Z.2 a (aA _ h)
theorem insI_perm(x:Int):∀l,(insI x l).Perm (x::l)
 |[]=>.refl _
 |y::r=>by
  unfold insI;split
  .exact .refl _
  .exact((insI_perm x r).cons y).trans (.swap x y r)
theorem iQ:∀l,(nW l).Perm l
 |[]=>.refl _
 |x::r=>(insI_perm x _).trans ((iQ r).cons x)
theorem wQ(x:Int):∀l,l.Pairwise (· <= ·)->(insI x l).Pairwise (· <= ·)
 |[],_=>by simp[insI]
 |y::r,h=>by
  obtain⟨h1,h2⟩:=gj.mp h;unfold insI;split
  .next c=>
   refine gj.mpr ⟨λa ha=>?_,h⟩;rcases aK.mp ha with rfl|z
   .exact c
   .exact mG c (h1 a z)
  .next c=>
   refine gj.mpr ⟨λa ha=>?_,wQ x r h2⟩;rcases aK.mp ((insI_perm x r).mem_iff.mp ha)with rfl|z
   .lia
   .exact h1 a z
theorem nC:∀l,(nW l).Pairwise (· <= ·)
 |[]=>.nil
 |x::r=>wQ x _ (nC r)
end D3
variable{fa fr:D3.FA}{δ:D3.DS}{fb fc fk:D3.FE}{ft gt:D3.FT}{dd r:List D3.D}
variable{kvs:List (D3.D×D3.D)}{d y:D3.D}{ds:List D3.D}{pl:Bool}{δ:D3.DS}
namespace D3
open L2 My
abbrev Ok:=Addr->Prop
abbrev St:=L2.St
class Chg (u:HO):Prop where
 ch:(∃xs,u = .lst xs)\/(∃kvs,u = .dK kvs)\/∃kvs,u = .dT kvs
instance (xs:List V):Chg (.lst xs):=⟨.inl ⟨xs,rfl⟩⟩
instance (kvs:List (Key×V)):Chg (.dK kvs):=⟨.inr (.inl ⟨kvs,rfl⟩)⟩
instance (kvs:List (List Key×V)):Chg (.dT kvs):=⟨.inr (.inr ⟨kvs,rfl⟩)⟩
def Chg.frz{o:Obj}{u:HO}(h:Chg (.frz o u)):False:=by
 rcases h.ch with⟨_,z⟩|⟨_,z⟩|⟨_,z⟩<;>cases z
def Chg.tup{xs:List V}(h:Chg (.tup xs)):False:=by
 rcases h.ch with⟨_,z⟩|⟨_,z⟩|⟨_,z⟩<;>cases z
def Chd(o:Option HO):Prop:=∃u,o=some u/\Chg u
def Chd.ne (h:Chd o):o≠none:=by
 obtain⟨u,rfl,_⟩:=h;simp
def SqK(K:PySem.W.Frag)(H:Hp)(a:Addr)(xs:List V):Prop:=(∃o,H a=some (.frz o (.lst xs))) \/
 ∃(o:Obj)(its:Array Value)(n:Nat),K.lookup a=some o/\o.cls = .type "list"/\o.dict=none/\o.data = .seq its n/\its.size<=sizeLine/\Vals xs its.toList
def SqK.sq(h:SqK K H a xs):SqL K H a xs:=by
 rcases h with⟨o,h⟩|h
 .exact .inl (.inr ⟨o,h⟩)
 .exact .inr h
def kO(H:Hp)(a:Addr)(xs:List V):Prop:=H a=some (.tup xs)
def kO.sq(h:kO H a xs):SqT K H a xs:=.inl (.inl h)
def kO.same(e:Same H H')(h:kO H a xs):kO H' a xs:=e _ _ h
def kO.upd [J:Chg c] (h:H a=some c) (q:kO H b xs):kO (upd H a o) b xs:=by
 unfold kO;rwa[cO (Jw q h (by intro z;subst z;exact J.tup))]
noncomputable def dk0:List (D×D)->List (Key×V)
 |[]=>[]
 | (.int i,.int j)::r=>(.inl i,.int j)::dk0 r
 | (.int i,.bool true)::r=>(.inl i,.bl true)::dk0 r
 |_::r=>(.inl 0,.non)::dk0 r
noncomputable def tkK:List D->Option (List Key)
 |[]=>some []
 | .int i::r=>(tkK r).map (.inl i :: ·)
 |_=>none
def tkD:List (D×D)->Option (List (List Key×V))
 |[]=>some []
 | (.tuple l,.bool true)::r=>(tkK l).bind λk=>(tkD r).map ((k,.bl true) :: ·)
 |_=>none
def dh0(kvs:List (D×D)):HO:=match kvs with
 |[]=>.dK []
 |q::r=>match tkD (q::r)with
  |some ts=>.dT ts
  |none=>.dK (dk0 (q::r))
theorem N6(kvs:List (D×D)):(∃ks,dh0 kvs = .dK ks)\/∃ks,dh0 kvs = .dT ks:=by
 cases kvs with
 |nil=>exact .inl ⟨_,rfl⟩
 |cons q r=>
  unfold dh0;dsimp only;split
  .exact .inr ⟨_,rfl⟩
  .exact .inl ⟨_,rfl⟩
instance (kvs:List (D×D)):Chg (dh0 kvs):=⟨by
 rcases N6 kvs with⟨ks,z⟩|⟨ks,z⟩
 .exact .inr (.inl ⟨ks,z⟩)
 .exact .inr (.inr ⟨ks,z⟩)⟩
def scV:D->V
 | .int i=>.int i
 |_=>.non
def scs:List D->Bool
 |[]=>true
 | .int _::r=>scs r
 | .none::r=>scs r
 |_=>false
def TV(H:Hp)(v:V)(d:D):Prop:=(v = .non/\d = .none)\/∃b ds,v = .ref b/\d = .tuple ds/\kO H b (ds.map scV)/\scs ds=true
inductive TVs(H:Hp):List (Key×V)->List (D×D)->Prop
 |nil:TVs H [] []
 |cons {i:Int} {v:V} {d:D} {r:List (Key×V)} {r':List (D×D)}:TV H v d->TVs H r r'->TVs H ((.inl i,v)::r) ((.int i,d)::r')
def TV.imp(h:∀b xs,kO H b xs->kO H' b xs) {v:V}(q:TV H v c):TV H' v c:=by
 rcases q with q|⟨b,ds,h1,h2,Y,Z⟩
 .exact .inl q
 .exact .inr ⟨b,ds,h1,h2,h _ _ Y,Z⟩
theorem TVs.imp(h:∀b xs,kO H b xs->kO H' b xs) (q:TVs H c k):TVs H' c k:=by
 induction q with
 |nil=>exact .nil
 |cons t _ Z=>exact .cons (t.imp h) Z
def Aa:List (D×D)->Bool
 |[]=>true
 | (_,.int _)::r=>Aa r
 | (_,.bool _)::r=>Aa r
 |_=>false
def TW(H:Hp)(v:V)(m:List Int)(z:Int):Prop:=∃b c,v = .ref b/\kO H b [.ref c,.int z]/\kO H c (m.map V.int)
inductive TTs(H:Hp):List (List Key×V)->List (D×D)->Prop
 |nil:TTs H [] []
 |cons {k m:List Int} {z:Int} {v:V} {r:List (List Key×V)} {r':List (D×D)}:TW H v m z->TTs H r r'->TTs H ((k.map dA,v)::r) ((.tuple (k.map .int),.tuple [.tuple (m.map .int),.int z])::r')
theorem TTs.imp(h:∀b xs,kO H b xs->kO H' b xs) (q:TTs H k l):TTs H' k l:=by
 induction q with
 |nil=>exact .nil
 |cons t _ Z=>
  obtain⟨b,c,h1,h2,Y⟩:=t;exact .cons ⟨b,c,h1,h _ _ h2,h _ _ Y⟩ Z
def DH(H:Hp)(u:HO)(kvs:List (D×D)):Prop:=(Aa kvs=true/\u=dh0 kvs)\/(∃ks,u = .dK ks/\TVs H ks kvs)\/∃q ks,u = .dT (q::ks)/\TTs H (q::ks) kvs
def DH.imp(h:∀b xs,kO H b xs->kO H' b xs) (q:DH H c l):DH H' c l:=by
 rcases q with q|⟨ks,q1,q2⟩|⟨k,ks,q1,q2⟩
 .exact .inl q
 .exact .inr (.inl ⟨ks,q1,q2.imp h⟩)
 .exact .inr (.inr ⟨k,ks,q1,q2.imp h⟩)
def DH.same{u:HO}(q:DH H u kvs)(e:Same H H'):DH H' u kvs:=q.imp λ_ _ h=>kO.same e h
def DH.upd [O:Chg b] (q:DH H J c) (h:H a=some b):DH (upd H a o) J c:=q.imp λ_ _ z=>kO.upd h z
def DH.or (q:DH H b kvs):(∃ks,b = .dK ks)\/∃ks,b = .dT ks:=by
 rcases q with⟨_,rfl⟩|⟨ks,rfl,_⟩|⟨k,ks,rfl,_⟩
 .exact N6 kvs
 .exact .inl ⟨ks,rfl⟩
 .exact .inr ⟨_,rfl⟩
def DH.chg (q:DH H b kvs):Chg b:=⟨.inr q.or⟩
def DH.old (q:DH H b kvs) (h:Aa kvs=true):b=dh0 kvs:=by
 rcases q with q|⟨ks,rfl,q⟩|⟨k,ks,rfl,q⟩
 .exact q.2
 .cases q with
  |nil=>rfl
  |cons t _=>
   rcases t with⟨_,rfl⟩|⟨_,_,_,rfl,_,_⟩<;>cases h
 .cases q with
  |cons _ _=>cases h
mutual
inductive RA(K:PySem.W.Frag)(ok:Ok)(pl:Bool)(H:Hp):V->D->Prop
 |non:RA K ok pl H .non .none
 |bl (b:Bool):RA K ok pl H (.bl b) (.bool b)
 |int (i:Int):RA K ok pl H (.int i) (.int i)
 |str (x:Str):RA K ok pl H (.str x) (.str x)
 |lst {a:Addr} {xs:List V} {ds:List D}:H a=some (.lst xs)->ok a->RAs K ok pl H xs ds->RA K ok pl H (.ref a) (.list ds)
 |lsk {a:Addr} {xs:List V} {ds:List D}:SqK K H a xs->pl=true->RAs K ok pl H xs ds->RA K ok pl H (.ref a) (.list ds)
 |tup {a:Addr} {xs:List V} {ds:List D}:kO H a xs->RAs K ok pl H xs ds->RA K ok pl H (.ref a) (.tuple ds)
 |dic {a:Addr} {u:HO} {kvs:List (D×D)}:H a=some u->DH H u kvs->ok a->RA K ok pl H (.ref a) (.dict kvs)
 |dik {a:Addr} {u:HO} {kvs:List (D×D)} {o:Obj}:H a=some (.frz o u)->DH H u kvs->pl=true->RA K ok pl H (.ref a) (.dict kvs)
inductive RAs(K:PySem.W.Frag)(ok:Ok)(pl:Bool)(H:Hp):List V->List D->Prop
 |nil:RAs K ok pl H [] []
 |cons {v:V} {d:D} {vs:List V} {ds:List D}:RA K ok pl H v d->RAs K ok pl H vs ds->RAs K ok pl H (v::vs) (d::ds)
end
section
variable{ok ok':Ok}{pl':Bool}{H H':Hp}
def RA.ind{P:V->D->Prop}{Q:List V->List D->Prop}(c1:P .non .none)(c2:∀b,P (.bl b) (.bool b))(c3:∀i,P (.int i) (.int i))(c4:∀x,P (.str x) (.str x))
 (c5:∀{a:Addr}{xs:List V}{ds:List D},H a=some (.lst xs)->ok a->Q xs ds->P (.ref a) (.list ds)) (c6:∀{a:Addr}{xs:List V}{ds:List D},SqK K H a xs->pl=true->Q xs ds->P (.ref a) (.list ds)) (c7:∀{a:Addr}{xs:List V}{ds:List D},kO H a xs->Q xs ds->P (.ref a) (.tuple ds))
 (Z:∀{a:Addr}{u:HO}{kvs:List (D×D)},H a=some u->DH H u kvs->ok a->P (.ref a) (.dict kvs)) (Y:∀{a:Addr}{u:HO}{kvs:List (D×D)}{o:Obj},H a=some (.frz o u)->DH H u kvs->pl=true->P (.ref a) (.dict kvs)) (O:Q [] []) (J:∀{v:V}{d:D}{vs:List V}{ds:List D},P v d->Q vs ds->Q (v::vs) (d::ds)) :
 (∀{v:V}{d:D},RA K ok pl H v d->P v d)/\∀{v:List V}{d:List D},RAs K ok pl H v d->Q v d:=
 ⟨λh=>RA.rec (motive_1:=λv d _=>P v d) (motive_2:=λv d _=>Q v d) c1 c2 c3 c4 (λh o _ q=>c5 h o q) (λh o _ q=>c6 h o q) (λh _ q=>c7 h q) (λh g o=>Z h g o) (λh g o=>Y h g o) O (λ_ _ a q=>J a q) h,
  λh=>RAs.rec (motive_1:=λv d _=>P v d) (motive_2:=λv d _=>Q v d) c1 c2 c3 c4 (λh o _ q=>c5 h o q) (λh o _ q=>c6 h o q) (λh _ q=>c7 h q) (λh g o=>Z h g o) (λh g o=>Y h g o) O (λ_ _ a q=>J a q) h⟩
def RA.imp2(O:∀a,ok a->ok' a)(J:pl=true->pl'=true):(∀{v:V}{d:D},RA K ok pl H v d->RA K ok' pl' H v d)/\∀{v:List V}{d:List D},RAs K ok pl H v d->RAs K ok' pl' H v d:=
 RA.ind .non .bl .int .str (λh o q=>.lst h (O _ o) q) (λh o q=>.lsk h (J o) q) (λh q=>.tup h q) (λh g o=>.dic h g (O _ o)) (λh g o=>.dik h g (J o)) .nil .cons
def RA.imp(O:∀a,ok a->ok' a)(J:pl=true->pl'=true){v:V}{d:D}(h:RA K ok pl H v d):RA K ok' pl' H v d:=(RA.imp2 O J).1 h
def RAs.imp(O:∀a,ok a->ok' a)(J:pl=true->pl'=true) {v:List V}(h:RAs K ok pl H v b):RAs K ok' pl' H v b:=(RA.imp2 O J).2 h
def SqK.same(e:Same H H')(h:SqK K H a xs):SqK K H' a xs:=by
 rcases h with⟨o,h⟩|h
 .exact .inl ⟨o,e _ _ h⟩
 .exact .inr h
def RA.same2(e:Same H H'):(∀{v:V}{d:D},RA K ok pl H v d->RA K ok pl H' v d)/\∀{v:List V}{d:List D},RAs K ok pl H v d->RAs K ok pl H' v d:=
 RA.ind .non .bl .int .str (λh o q=>.lst (e _ _ h) o q) (λh o q=>.lsk (h.same e) o q) (λh q=>.tup (kO.same e h) q) (λh g o=>.dic (e _ _ h) (g.same e) o) (λh g o=>.dik (e _ _ h) (g.same e) o) .nil .cons
def RA.same(e:Same H H') (h:RA K ok pl H b c):RA K ok pl H' b c:=(RA.same2 e).1 h
def RAs.same(e:Same H H') (h:RAs K ok pl H b c):RAs K ok pl H' b c:=(RA.same2 e).2 h
def RA.flat2:(∀{v:V}{d:D},RA K ok pl H v d->flat d=true->RA K ok' pl' H v d)/\∀{v:List V}{d:List D},RAs K ok pl H v d->flats d=true->RAs K ok' pl' H v d:=
 RA.ind (λ_=>.non) (λb _=>.bl b) (λi _=>.int i) (λx _=>.str x) (λ_ _ _ h=>by simp[D3.flat]at h) (λ_ _ _ h=>by simp[D3.flat]at h) (λt q h=>.tup t (q (by simpa[D3.flat]using h))) (λ_ _ _ h=>by simp[D3.flat]at h) (λ_ _ _ h=>by simp[D3.flat]at h) (λ_=>.nil) λa q h=>by
  rw[flats,aV]at h;exact .cons (a h.1) (q h.2)
def RA.flat(J:flat d=true)(h:RA K ok pl H v d):RA K ok' pl' H v d:=RA.flat2.1 h J
def RAs.flat (J:flats c=true) (h:RAs K ok pl H b c):RAs K ok' pl' H b c:=RA.flat2.2 h J
def SqK.upd [J:Chg c] (h:H a=some c) (q:SqK K H b xs):SqK K (upd H a o) b xs:=by
 rcases q with⟨o',q⟩|q
 .refine .inl ⟨o',?_⟩;rwa[cO (Jw q h (by intro z;subst z;first|exact J.frz|exact J.tup))]
 .exact .inr q
def RA.upd2 [O:Chg b] (h:H a=some b) (J:¬ok a):(∀{v:V}{d:D},RA K ok pl H v d->RA K ok pl (upd H a o) v d)/\∀{v:List V}{d:List D},RAs K ok pl H v d->RAs K ok pl (upd H a o) v d:=
 RA.ind .non .bl .int .str (λe k q=>.lst (by rwa[cO (by intro z;subst z;exact J k)]) k q) (λe k q=>.lsk (e.upd h) k q) (λe q=>.tup (kO.upd h e) q) (λe g k=>.dic (by rwa[cO (by intro z;subst z;exact J k)]) (g.upd h) k) (λe g k=>.dik (by rwa[cO (Jw e h (by intro z;subst z;exact O.frz))]) (g.upd h) k) .nil .cons
def RA.upd [O:Chg b] (h:H a=some b) (J:¬ok a) (r:RA K ok pl H c k):RA K ok pl (upd H a o) c k:=(RA.upd2 h J).1 r
def RAs.upd [O:Chg b] (h:H a=some b) (J:¬ok a) (r:RAs K ok pl H c k):RAs K ok pl (upd H a o) c k:=(RA.upd2 h J).2 r
def RA.track2:(∀{v:V}{d:D},RA K ok pl H v d->RA K (λb=>ok b/\H b≠none) pl H v d)/\∀{v:List V}{d:List D},RAs K ok pl H v d->RAs K (λb=>ok b/\H b≠none) pl H v d:=
 RA.ind .non .bl .int .str (λe k q=>.lst e ⟨k,by rw[e];simp⟩ q) (λe k q=>.lsk e k q) (λe q=>.tup e q) (λe g k=>.dic e g ⟨k,by rw[e];simp⟩) (λe g k=>.dik e g k) .nil .cons
def RA.track(h:RA K ok pl H v d):RA K (λb=>ok b/\H b≠none) pl H v d:=RA.track2.1 h
def RAs.track (h:RAs K ok pl H c k):RAs K (λb=>ok b/\H b≠none) pl H c k:=RA.track2.2 h
theorem RAs.length:∀{v:List V}{d:List D},RAs K ok pl H v d->v.length=d.length
 |_,_,.nil=>rfl
 |_,_,.cons _ q=>by simp[RAs.length q]
theorem RAs.get:∀{v:List V}{d:List D}{i:Nat}{x:D},RAs K ok pl H v d->d[i]? = some x->∃y,v[i]? = some y/\RA K ok pl H y x
 |_,_,_,_,.nil,h=>by simp at h
 |_,_,0,_,.cons a _,h=>by simp at h;subst h;exact⟨_,rfl,a⟩
 |_,_,i+1,_,.cons _ q,h=>by
  obtain⟨y,e,r⟩:=RAs.get (i:=i) q (by simpa using h);exact⟨y,by simpa using e,r⟩
theorem RAs.append:∀{v J:List V}{d d':List D},RAs K ok pl H v d->RAs K ok pl H J d'->RAs K ok pl H (v++J) (d++d')
 |_,_,_,_,.nil,q=>q
 |_,_,_,_,.cons a r,q=>.cons a (RAs.append r q)
theorem RAs.set (r:RA K ok pl H b y):∀{v:List V}{d:List D}(i:Nat),RAs K ok pl H v d->RAs K ok pl H (v.set i b) (d.set i y)
 |_,_,_,.nil=>.nil
 |_,_,0,.cons _ q=>.cons r q
 |_,_,i+1,.cons a q=>.cons a (RAs.set r i q)
theorem RAs.take:∀{v:List V}{d:List D}(n:Nat),RAs K ok pl H v d->RAs K ok pl H (v.take n) (d.take n)
 |_,_,0,_=>by simp;exact .nil
 |_,_,_+1,.nil=>.nil
 |_,_,n+1,.cons a q=>.cons a (RAs.take n q)
theorem RAs.drop:∀{v:List V}{d:List D}(n:Nat),RAs K ok pl H v d->RAs K ok pl H (v.drop n) (d.drop n)
 |_,_,0,q=>q
 |_,_,_+1,.nil=>.nil
 |_,_,n+1,.cons _ q=>RAs.drop n q
def RA.rd2:(∀{v:V}{d:D},RA K ok pl H v d->d.canLay0=true->RdV K H v d)/\∀{v:List V}{d:List D},RAs K ok pl H v d->dr d=true->RdVs K H v d:=
 RA.ind (λ_=>.non) (λb _=>.bl b) (λi _=>.int i) (λx _=>.str x) (λe _ q h=>.lst (SqL.of e) (q (by simpa[dk]using h))) (λe _ q h=>.lst e.sq (q (by simpa[dk]using h))) (λe q h=>.tup e.sq (q (by simpa[dk]using h))) (λ_ _ _ h=>by simp[dk]at h) (λ_ _ _ h=>by simp[dk]at h) (λ_=>.nil) λa q h=>by
  rw[dr,aV]at h;exact .cons (a h.1) (q h.2)
def RA.rd(J:d.canLay0=true)(h:RA K ok pl H v d):RdV K H v d:=RA.rd2.1 h J
def RA.intE (h:RA K ok pl H v (.int b)):v = .int b:=by cases h;rfl
def RA.blE (h:RA K ok pl H v (.bool b)):v = .bl b:=by cases h;rfl
def RA.nonE(h:RA K ok pl H v .none):v = .non:=by cases h;rfl
theorem RA.lstE(h:RA K ok pl H v (.list ds)):∃a xs,v = .ref a/\SqL K H a xs/\RAs K ok pl H xs ds:=by
 cases h with
 |lst e k q=>exact⟨_,_,rfl,SqL.of e,q⟩
 |lsk e k q=>exact⟨_,_,rfl,e.sq,q⟩
theorem RA.dicU(h:RA K ok pl H v (.dict kvs)):∃a u,v = .ref a/\L2.Rd H a u/\DH H u kvs:=by
 cases h with
 |dic e g k=>exact⟨_,_,rfl,.inl e,g⟩
 |dik e g k=>exact⟨_,_,rfl,.inr ⟨_,e⟩,g⟩
def RA.dicE(h:RA K ok pl H v (.dict kvs))(J:Aa kvs=true):∃a,v = .ref a/\L2.Rd H a (dh0 kvs):=by
 obtain⟨a,u,h1,h2,Z⟩:=h.dicU;rw[Z.old J]at h2;exact⟨a,h1,h2⟩
theorem RA.tupE(h:RA K ok pl H v (.tuple ds)):∃a xs,v = .ref a/\SqT K H a xs/\RAs K ok pl H xs ds:=by
 cases h with
 |tup e q=>exact⟨_,_,rfl,e.sq,q⟩
theorem RA.tupE0(h:RA K ok pl H v (.tuple ds)):∃a xs,v = .ref a/\kO H a xs/\RAs K ok pl H xs ds:=by
 cases h with
 |tup e q=>exact⟨_,_,rfl,e,q⟩
end
inductive Fl where
 |A
 |O
 |L
 |N
 |M
 deriving DecidableEq
def isN:Option Fl->Bool
 |some .N=>true
 |some .M=>true
 |_=>false
mutual
inductive RT(K:PySem.W.Frag)(H:Hp):V->D->List Addr->Prop
 |non:RT K H .non .none []
 |bl (b:Bool):RT K H (.bl b) (.bool b) []
 |int (i:Int):RT K H (.int i) (.int i) []
 |str (x:Str):RT K H (.str x) (.str x) []
 |lst {a:Addr} {xs:List V} {ds:List D} {as:List Addr}:H a=some (.lst xs)->RTs K H xs ds as->RT K H (.ref a) (.list ds) (a::as)
 |tup {a:Addr} {xs:List V} {ds:List D} {as:List Addr}:kO H a xs->RTs K H xs ds as->RT K H (.ref a) (.tuple ds) as
 |dic {a:Addr} {u:HO} {kvs:List (D×D)}:H a=some u->DH H u kvs->RT K H (.ref a) (.dict kvs) [a]
inductive RTs(K:PySem.W.Frag)(H:Hp):List V->List D->List Addr->Prop
 |nil:RTs K H [] [] []
 |cons {v:V} {d:D} {vs:List V} {ds:List D} {as bs:List Addr}:RT K H v d as->RTs K H vs ds bs->RTs K H (v::vs) (d::ds) (as++bs)
end
section
variable{H H':Hp}
def RT.ind{P:V->D->List Addr->Prop}{Q:List V->List D->List Addr->Prop}(c1:P .non .none [])(c2:∀b,P (.bl b) (.bool b) [])(c3:∀i,P (.int i) (.int i) [])(c4:∀x,P (.str x) (.str x) [])
 (c5:∀{a:Addr}{xs:List V}{ds:List D}{as:List Addr},H a=some (.lst xs)->Q xs ds as->P (.ref a) (.list ds) (a::as)) (Z:∀{a:Addr}{xs:List V}{ds:List D}{as:List Addr},kO H a xs->Q xs ds as->P (.ref a) (.tuple ds) as)
 (Y:∀{a:Addr}{u:HO}{kvs:List (D×D)},H a=some u->DH H u kvs->P (.ref a) (.dict kvs) [a]) (O:Q [] [] []) (J:∀{v:V}{d:D}{vs:List V}{ds:List D}{as bs:List Addr},P v d as->Q vs ds bs->Q (v::vs) (d::ds) (as++bs)) :
 (∀{v:V}{d:D}{as:List Addr},RT K H v d as->P v d as)/\∀{v:List V}{d:List D}{as:List Addr},RTs K H v d as->Q v d as:=
 ⟨λh=>RT.rec (motive_1:=λv d as _=>P v d as) (motive_2:=λv d as _=>Q v d as) c1 c2 c3 c4 (λh _ q=>c5 h q) (λh _ q=>Z h q) (λh g=>Y h g) O (λ_ _ a q=>J a q) h,
  λh=>RTs.rec (motive_1:=λv d as _=>P v d as) (motive_2:=λv d as _=>Q v d as) c1 c2 c3 c4 (λh _ q=>c5 h q) (λh _ q=>Z h q) (λh g=>Y h g) O (λ_ _ a q=>J a q) h⟩
def RT.ra2 : (∀{v:V}{d:D}{as:List Addr},RT K H v d as->(∀a∈as,ok a)->RA K ok pl H v d)/\∀{v:List V}{d:List D}{as:List Addr},RTs K H v d as->(∀a∈as,ok a)->RAs K ok pl H v d:=
 RT.ind (λ_=>.non) (λb _=>.bl b) (λi _=>.int i) (λx _=>.str x) (λe q h=>.lst e (h _ aD) (q λa ha=>h a (aA _ ha))) (λe q h=>.tup e (q h)) (λe g h=>.dic e g (h _ aD)) (λ_=>.nil) λe q h=>.cons (e λa ha=>h a (aU _ ha)) (q λa ha=>h a (aL _ ha))
def RT.ra (r:RT K H v d as) (h:∀a∈as,ok a):RA K ok pl H v d:=RT.ra2.1 r h
def RT.same2(s:Same H H'):(∀{v:V}{d:D}{as:List Addr},RT K H v d as->RT K H' v d as)/\∀{v:List V}{d:List D}{as:List Addr},RTs K H v d as->RTs K H' v d as:=
 RT.ind .non .bl .int .str (λe q=>.lst (s _ _ e) q) (λe q=>.tup (kO.same s e) q) (λe g=>.dic (s _ _ e) (g.same s)) .nil .cons
def RT.same(s:Same H H') (h:RT K H b c as):RT K H' b c as:=(RT.same2 s).1 h
def RT.upd2 [J:Chg c] (h:H a=some c):(∀{v:V}{d:D}{as:List Addr},RT K H v d as->a∉as->RT K (upd H a o) v d as)/\∀{v:List V}{d:List D}{as:List Addr},RTs K H v d as->a∉as->RTs K (upd H a o) v d as:=
 RT.ind (λ_=>.non) (λb _=>.bl b) (λi _=>.int i) (λx _=>.str x) (λe q Z=>.lst (by rwa[cO (λz=>Z (by rw[<-z];exact aD))]) (q λz=>Z (aA _ z))) (λe q Z=>.tup (kO.upd h e) (q Z)) (λe g Z=>.dic (by rwa[cO (λz=>Z (by rw[<-z];exact aD))]) (g.upd h)) (λ_=>.nil) λe q Z=>.cons (e λz=>Z (aU _ z)) (q λz=>Z (aL _ z))
def RT.upd [O:Chg b] (h:H a=some b) (J:a∉as) (r:RT K H c k as):RT K (upd H a o) c k as:=(RT.upd2 h).1 r J
def RT.chd2:(∀{v:V}{d:D}{as:List Addr},RT K H v d as->∀a∈as,Chd (H a))/\∀{v:List V}{d:List D}{as:List Addr},RTs K H v d as->∀a∈as,Chd (H a):=
 RT.ind (λ_ h=>by cases h) (λ_ _ h=>by cases h) (λ_ _ h=>by cases h) (λ_ _ h=>by cases h) (λe q a h=>by
  rcases aK.mp h with rfl|z
  .exact⟨_,e,inferInstance⟩
  .exact q a z) (λ_ q=>q) (λe g a h=>by rw[aB.mp h];exact⟨_,e,g.chg⟩) (λ_ h=>by cases h) λe q a h=>by
  rcases aR.mp h with z|z
  .exact e a z
  .exact q a z
def RT.chd (r:RT K H v d as):∀a∈as,Chd (H a):=RT.chd2.1 r
def RTs.chd (r:RTs K H b c as):∀a∈as,Chd (H a):=RT.chd2.2 r
def RT.tracked (h:RT K H v d as) (a:Addr) (ha:a∈as):H a≠none:=(h.chd a ha).ne
def RA.rt2 : (∀{v:V}{d:D},RA K ok false H v d->∃as,RT K H v d as/\as.length=nl d/\∀a∈as,ok a)/\∀{v:List V}{d:List D},RAs K ok false H v d->∃as,RTs K H v d as/\as.length=nls d/\∀a∈as,ok a:=
 RA.ind ⟨[],.non,rfl,λ_ h=>by cases h⟩ (λb=>⟨[],.bl b,rfl,λ_ h=>by cases h⟩) (λi=>⟨[],.int i,rfl,λ_ h=>by cases h⟩) (λx=>⟨[],.str x,rfl,λ_ h=>by cases h⟩) (λe k q=>by
  obtain⟨as,h1,h2,Z⟩:=q;refine⟨_::as,.lst e h1,by rw[bI,h2,nl],λa ha=>?_⟩;rcases aK.mp ha with rfl|z
  .exact k
  .exact Z a z) (λ_ k _=>by cases k) (λe q=>by
  obtain⟨as,h1,h2,Z⟩:=q;exact⟨as,.tup e h1,by rw[h2,nl],Z⟩) (λe g k=>⟨[_],.dic e g,by simp[nl],λa ha=>by rwa[aB.mp ha]⟩) (λ_ _ k=>by cases k) ⟨[],.nil,rfl,λ_ h=>by cases h⟩ λe q=>by
  obtain⟨as,h1,h2,Z⟩:=e;obtain⟨bs,g1,g2,g3⟩:=q;refine⟨as++bs,.cons h1 g1,by rw[bx,h2,g2,nls],λa ha=>?_⟩;rcases aR.mp ha with z|z
  .exact Z a z
  .exact g3 a z
def RA.rt (h:RA K ok false H v d):∃as,RT K H v d as/\as.length=nl d/\∀a∈as,ok a:=RA.rt2.1 h
end
def tabs:List (Addr×Str×Pos):=[(199, "still_to_come.<locals>.<lambda>", ⟨74,30,74,59⟩)]
def Tb(H:Hp):Prop:=∀t∈tabs,H t.1=some (.tbl t.2.1 t.2.2)
def Tb.same(t:Tb H)(s:Same H H'):Tb H':=λx Z=>s _ _ (t x Z)
structure Gh where
 H0:Hp
 HF:Hp
 pk:Nat->Option Addr
 pn:Nat->List Addr
 tb:Tb H0
structure Ow where
 s:Nat->Option Addr
 n:Nat->List Addr:=λ_=>[]
instance:CoeFun Ow (λ_=>Nat->Option Addr):=⟨Ow.s⟩
abbrev ow0:Ow:=⟨λ_=>none,λ_=>[]⟩
noncomputable def okA(ow:Ow):Ok:=λa=>(∀i,ow i≠some a)/\∀i,a∉ow.n i
structure Rel(K:PySem.W.Frag)(fl:List Fl)(G:Gh)(ow:Ow)(σ:St)(H:Hp)(δ:DS):Prop where
 s0:Same G.H0 G.HF
 s1:Same G.HF H
 len:σ.length=δ.length
 own:∀i a,ow i=some a->G.H0 a=none/\((fl[i]? = some .O/\G.HF a=none)\/(fl[i]? = some .L/\∃xs,G.HF a=some (.lst xs))) /\
  ∃xs ds,σ[i]? = some (some (.ref a))/\H a=some (.lst xs)/\RAs K (okA ow) true H xs ds/\δ[i]? = some (some (.d (.list ds)))
 inj:∀i j a,ow i=some a->ow j=some a->i=j
 pin:∀i,fl[i]? = some .L->ow i=G.pk i
 dat:∀i d,δ[i]? = some (some (.d d))->isN fl[i]? = false->ow i=none->∃v,σ[i]? = some (some v)/\RA K (okA ow) true H v d
 oo:∀i d,δ[i]? = some (some (.d d))->isN fl[i]? = false->fl[i]? ≠ some .A->ow i=none->flat d=true
 nt:∀i a,a∈ow.n i->G.H0 a=none/\Chd (H a)/\((fl[i]? = some .N/\G.HF a=none)\/fl[i]? = some .M)
 nd:∀i j a,a∈ow.n i->a∈ow.n j->i=j
 ns:∀i j a,a∈ow.n i->ow j≠some a
 np:∀i,fl[i]? = some .M->ow.n i=G.pn i
 nr:∀i d,isN fl[i]? = true->δ[i]? = some (some (.d d))->∃v,σ[i]? = some (some v)/\RT K H v d (ow.n i)/\(ow.n i).Nodup
def Rel.tb{fl:List Fl}{G:Gh}{ow:Ow}{σ:St}(R:Rel K fl G ow σ H δ):Tb H:=G.tb.same (R.s0.trans R.s1)
def Rel.same0 (R:Rel K fl G ow σ H δ):Same G.H0 H:=R.s0.trans R.s1
def Rel.grow{fl:List Fl}{G:Gh}{ow:Ow}{σ:St}(R:Rel K fl G ow σ H δ)(e:Same H H'):Rel K fl G ow σ H' δ:=
 ⟨R.s0,R.s1.trans e,R.len,λi a h=>by
  obtain⟨V,X,xs,ds,h1,h2,Z,Y⟩:=R.own i a h;exact⟨V,X,xs,ds,h1,e _ _ h2,Z.same e,Y⟩,R.inj,R.pin,λi d h1 hn h2=>by
  obtain⟨v,Z,Y⟩:=R.dat i d h1 hn h2;exact⟨v,Z,Y.same e⟩,R.oo,λi a h=>by
  obtain⟨h1,h2,Z⟩:=R.nt i a h;exact⟨h1,(let⟨u,z,c⟩:=h2;⟨u,e _ _ z,c⟩),Z⟩,R.nd,R.ns,R.np,λi d h1 h2=>by
  obtain⟨v,Z,Y,W⟩:=R.nr i d h1 h2;exact⟨v,Z,Y.same e,W⟩⟩
inductive Kd where
 |P
 |B (L:List Nat)
 |A
 |R
 |F
 |C
 |FC
 |T
noncomputable def ok1:Ok:=λ_=>True
def ok0:Ok:=λ_=>False
def okN(H:Hp):Ok:=λa=>H a=none
def Rs(K:PySem.W.Frag)(H0:Hp)(ow:Ow)(Hb H:Hp):Kd->V->D->Prop
 | .P,v,d=>RA K ok1 true H v d
 | .B L,v,d=>RA K (okA ow) true H v d\/∃i∈L,∃a xs ds,ow i=some a/\v = .ref a/\d = .list ds/\H a=some (.lst xs)/\RAs K (okA ow) true H xs ds
 | .A,v,d=>RA K (okA ow) true H v d
 | .R,v,d=>RA K (okN H0) false H v d
 | .F,v,d=>(flat d=true/\RA K ok0 false H v d)\/∃a xs ds,v = .ref a/\d = .list ds/\Hb a=none/\H a=some (.lst xs)/\RAs K (λb=>okA ow b/\b≠a) true H xs ds
 | .C,v,d=>RA K (okN Hb) false H v d
 | .T,v,d=>∃as,RT K H v d as/\as.Nodup/\∀a∈as,Hb a=none
 | .FC,v,d=>(flat d=true/\RA K ok0 false H v d)\/∃a xs ds,v = .ref a/\d = .list ds/\Hb a=none/\H a=some (.lst xs)/\RAs K (λb=>okN Hb b/\b≠a) false H xs ds
section
variable{Hb H H':Hp}{fl:List Fl}{G:Gh}{ow:Ow}{σ:St}{δ:DS}{v:V}{d:D}
def Cv(R:Rel K fl G ow σ Hb δ) (h:Hb b=none):okA ow b:=⟨λi e=>(by
 obtain⟨_,_,xs,_,_,h2,_⟩:=R.own i b e;rw[h]at h2
 cases h2),λi e=>(R.nt i b e).2.1.ne h⟩
def Zt(R:Rel K fl G ow σ Hb δ) (h:Hb b=none):okN G.H0 b:=R.same0.free h
def Rs.FC_F(R:Rel K fl G ow σ Hb δ)(h:Rs K G.H0 ow Hb H .FC v d):Rs K G.H0 ow Hb H .F v d:=by
 rcases h with h|⟨a,xs,ds,h1,h2,X,Y,Z⟩
 .exact .inl h
 .exact .inr ⟨a,xs,ds,h1,h2,X,Y,Z.imp (λb z=>⟨Cv R z.1,z.2⟩) (λ_=>rfl)⟩
def Rs.FC_C(h:Rs K G.H0 ow Hb H .FC v d):Rs K G.H0 ow Hb H .C v d:=by
 rcases h with h|⟨a,xs,ds,rfl,rfl,X,Y,Z⟩
 .exact RA.flat h.1 h.2
 .exact .lst Y X (Z.imp (λb z=>z.1) (λz=>z))
def Rs.F_A(R:Rel K fl G ow σ Hb δ)(h:Rs K G.H0 ow Hb H .F v d):Rs K G.H0 ow Hb H .A v d:=by
 rcases h with h|⟨a,xs,ds,rfl,rfl,X,Y,Z⟩
 .exact RA.flat h.1 h.2
 .exact .lst Y (Cv R X) (Z.imp (λb z=>z.1) (λz=>z))
def Rs.C_A(R:Rel K fl G ow σ Hb δ)(h:Rs K G.H0 ow Hb H .C v d):Rs K G.H0 ow Hb H .A v d:=RA.imp (λ_ z=>Cv R z) (λ_=>rfl) h
def Rs.C_R(R:Rel K fl G ow σ Hb δ)(h:Rs K G.H0 ow Hb H .C v d):Rs K G.H0 ow Hb H .R v d:=RA.imp (λ_ z=>Zt R z) (λz=>z) h
def Rs.A_B(L:List Nat)(h:Rs K G.H0 ow Hb H .A v d):Rs K G.H0 ow Hb H (.B L) v d:=.inl h
def Rs.B_P (h:Rs K G.H0 ow Hb H (.B L) v d):Rs K G.H0 ow Hb H .P v d:=by
 rcases h with h|⟨i,_,a,xs,ds,_,rfl,rfl,Y,Z⟩
 .exact RA.imp (λ_ _=>trivial) (λz=>z) h
 .exact .lst Y trivial (Z.imp (λ_ _=>trivial) (λz=>z))
def Rs.P_flat(J:flat d=true)(h:Rs K G.H0 ow Hb H .P v d):Rs K G.H0 ow Hb H .FC v d:=.inl ⟨J,RA.flat J h⟩
def Rs.C_fl1(J:fl1 d=true)(h:Rs K G.H0 ow Hb H .C v d):Rs K G.H0 ow Hb H .FC v d:=by
 by_cases e:∃ds,d = .list ds
 .obtain⟨ds,rfl⟩:=e
  cases h with
  |lst e k q=>exact .inr ⟨_,_,_,rfl,rfl,k,e,RAs.flat J q⟩
  |lsk e k q=>cases k
 .have Z:flat d=true:=by
   cases d<;>first|exact J|exact absurd ⟨_,rfl⟩ e
  exact .inl ⟨Z,RA.flat Z h⟩
end
noncomputable def tD(K:PySem.W.Frag)(fl:List Fl)(k:Kd)(f:FE):TE:=λσ H Q=>∃G ow δ d,Rel K fl G ow σ H δ/\f δ=some d/\∀v H',Same H H'->Rs K G.H0 ow H H' k v d->Q v H'
abbrev DE(X:Cx)(fl:List Fl)(k:Kd)(e:Expr)(f:FE):Prop:=PE X e (tD X.K fl k f)
def tDA(K:PySem.W.Frag)(fl:List Fl)(f:FA):TA:=λσ H Q=>∃G ow δ ds,Rel K fl G ow σ H δ/\f δ=some ds/\∀vs H',Same H H'->RAs K ok1 true H' vs ds->Q vs H'
abbrev DA(X:Cx)(fl:List Fl)(es:List Expr)(f:FA):Prop:=PA X es (tDA X.K fl f)
def tDT(K:PySem.W.Frag)(fl:List Fl)(f:FT):TT:=λσ H Q=>∃G ow δ b,Rel K fl G ow σ H δ/\f δ=some b/\∀H',Same H H'->Q b H'
abbrev DT(X:Cx)(fl:List Fl)(e:Expr)(f:FT):Prop:=PT X e (tDT X.K fl f)
abbrev DW(X:Cx)(fl:List Fl)(e:Expr)(f:FT):Prop:=PW X e (tDT X.K fl f)
def yL(K:PySem.W.Frag)(fl:List Fl)(G:Gh)(Dn:Ends):Oc->Prop
 | .nx δ'=>∀Z σ' H',Rel K fl G Z σ' H' δ'->Dn.nx σ' H'
 | .rt d=>∀v H',Same G.H0 H'->RA K (okN G.H0) false H' v d->Dn.rt v H'
 | .bk δ'=>∀Z σ' H',Rel K fl G Z σ' H' δ'->Dn.bk σ' H'
 | .ct δ'=>∀Z σ' H',Rel K fl G Z σ' H' δ'->Dn.ct σ' H'
 | .ex _ _ d=>∀v H',Same G.H0 H'->RA K ok1 true H' v d->Dn.rt v H'
def tDS(K:PySem.W.Frag)(fl:List Fl)(f:FS):TS:=λDn σ H=>∃G ow δ o,Rel K fl G ow σ H δ/\f δ=some o/\yL K fl G Dn o
abbrev DS1(X:Cx)(fl:List Fl)(s:Stmt)(f:FS):Prop:=PS X s (tDS X.K fl f)
abbrev DSs(X:Cx)(fl:List Fl)(s:List Stmt)(f:FS):Prop:=PSs X s (tDS X.K fl f)
def tDG(K:PySem.W.Frag)(fl:List Fl)(tg:List Nat)(g:FG):TG:=λv σ H Q=>∃G ow δ d δ',Rel K fl G ow σ H δ/\RA K (okA ow) true H v d/\g d δ=some δ'/\∀σ',Rel K fl G ow σ' H δ'->(∀j,j∉tg->σ'[j]? = σ[j]?)->Q σ' H
abbrev DG(X:Cx)(fl:List Fl)(tg:List Nat)(e:Expr)(g:FG):Prop:=PG X e (tDG X.K fl tg g)
section
variable{X:Cx}{st:Stmt}
def PE.imp (h:PE X e t) (i:∀σ H Q,t' σ H Q->t σ H Q):PE X e t':=λpins s σ H Q I q=>h pins s σ H Q I (i σ H Q q)
def PT.imp (h:PT X e t) (i:∀σ H Q,t' σ H Q->t σ H Q):PT X e t':=λpins s σ H Q I q=>h pins s σ H Q I (i σ H Q q)
def PW.imp (h:PW X e t) (i:∀σ H Q,t' σ H Q->t σ H Q):PW X e t':=λw pins s σ H Q I q=>h w pins s σ H Q I (i σ H Q q)
def PA.imp (h:PA X es t) (i:∀σ H Q,t' σ H Q->t σ H Q):PA X es t':=λp pins s σ H Q I q=>h p pins s σ H Q I (i σ H Q q)
def PS.imp (h:PS X st t) (i:∀D σ H,t' D σ H->t D σ H):PS X st t':=λpins s σ H D I q=>h pins s σ H D I (i D σ H q)
def PSs.imp{t t':TS}(h:PSs X sts t)(i:∀D σ H,t' D σ H->t D σ H):PSs X sts t':=λpins s σ H D I q=>h pins s σ H D I (i D σ H q)
def PG.imp (h:PG X e t) (i:∀v σ H Q,t' v σ H Q->t v σ H Q):PG X e t':=λpins s σ H v u Q I r q=>h pins s σ H v u Q I r (i v σ H Q q)
end
end D3
variable{ow:D3.Ow}
namespace D3
open L2 My
section
variable{X:Cx}{fl:List Fl}{a b c:Expr}{k:Kd}{f fa:FE}
def oE(h:ak i δ=some d):δ[i]? = some (some (.d d)):=by
 unfold ak at h;split at h
 .next x e=>rw[e];cases h;rfl
 .cases h
theorem nZ(i:Nat) (O:X.N[i]? = some l:=by rfl) (J:Vis X.env.scope l:=by first|exact Or.inl rfl|exact Or.inr (Or.inl rfl)|exact Or.inr (Or.inr rfl)) (hd:(l==("__debug__":Str))=false:=by decide)
 (hcd:(l==("__classdict__":Str))=false:=by decide) (hn:isN fl[i]? = false:=by rfl):DE X fl (.B [i]) (.Name l pos) (ak i):=by
 refine PE.imp (mY O J hd hcd) λσ H Q h=>?_
 refine D3.ex4 h λG ow δ d R W q=>?_
 have e:=oE W
 cases Z:ow i with
 |none=>
  obtain⟨v,h1,h2⟩:=R.dat i d e hn Z;exact⟨v,h1,q v H (Same.refl H) (.inl h2)⟩
 |some a=>
  obtain⟨U,_,xs,ds,h1,h2,V,Y⟩:=R.own i a Z;rw[e]at Y
  cases Y;exact⟨_,h1,q _ H (Same.refl H) (.inr ⟨i,aB.mpr rfl,a,xs,ds,Z,rfl,rfl,h2,V⟩)⟩
theorem Cw(i:Nat)(J:fl[i]? = some .A) (hN:X.N[i]? = some l:=by rfl) (O:Vis X.env.scope l:=by first|exact Or.inl rfl|exact Or.inr (Or.inl rfl)|exact Or.inr (Or.inr rfl)) (hd:(l==("__debug__":Str))=false:=by decide)
 (hcd:(l==("__classdict__":Str))=false:=by decide):DE X fl .A (.Name l pos) (ak i):=by
 refine PE.imp (mY hN O hd hcd) λσ H Q h=>?_
 refine D3.ex4 h λG ow δ d R W q=>?_
 have e:=oE W
 cases Y:ow i with
 |none=>
  obtain⟨v,h1,h2⟩:=R.dat i d e (by rw[J];rfl) Y;exact⟨v,h1,q v H (Same.refl H) h2⟩
 |some a=>
  obtain⟨V,Z,_⟩:=R.own i a Y;rw[J]at Z;rcases Z with⟨z,_⟩|⟨z,_⟩<;>cases z
theorem rA(i:Nat)(J:fl[i]? ≠ some .A) (hN:X.N[i]? = some l:=by rfl) (O:Vis X.env.scope l:=by first|exact Or.inl rfl|exact Or.inr (Or.inl rfl)|exact Or.inr (Or.inr rfl)) (hd:(l==("__debug__":Str))=false:=by decide)
 (hcd:(l==("__classdict__":Str))=false:=by decide) (hn:isN fl[i]? = false:=by rfl):DE X fl .R (.Name l pos) (vd (ak i)):=by
 refine PE.imp (mY hN O hd hcd) λσ H Q h=>?_
 refine D3.ex4 h λG ow δ d R Z q=>?_
 unfold vd at Z
 cases Y:ak i δ with
 |none=>rw[Y]at Z;cases Z
 |some P=>
  rw[Y,aG]at Z;by_cases V:fl1 P=true
  .rw[if_pos V]at Z
   cases Z;have e:=oE Y
   cases W:ow i with
   |none=>
    obtain⟨v,h1,h2⟩:=R.dat i d e hn W;exact⟨v,h1,q v H (Same.refl H) (RA.flat (R.oo i d e hn J W) h2)⟩
   |some a=>
    obtain⟨S,_,xs,ds,h1,h2,T,U⟩:=R.own i a W;rw[e]at U
    cases U;exact⟨_,h1,q _ H (Same.refl H) (.lst h2 S (RAs.flat V T))⟩
  .rw[if_neg V]at Z
   cases Z
def oF (h:DE X fl k e f) (O:∀(Hb H:Hp)(G:Gh)(ow:Ow)(σ:St)(δ:DS)(v:V)(d:D),Rel X.K fl G ow σ Hb δ->Rs X.K G.H0 ow Hb H k v d->Rs X.K G.H0 ow Hb H J v d):DE X fl J e f:=by
 refine PE.imp h λσ H Q h=>?_
 refine D3.ex4 h λG ow δ d R Z q=>?_
 exact⟨G,ow,δ,d,R,Z,λv H' s r=>q v H' s (O _ _ G ow σ δ v d R r)⟩
theorem Ft {p:D->Bool} (h:DE X fl k e f) (O:∀(Hb H:Hp)(G:Gh)(ow:Ow)(σ:St)(δ:DS)(v:V)(d:D),p d=true->Rel X.K fl G ow σ Hb δ->Rs X.K G.H0 ow Hb H k v d->Rs X.K G.H0 ow Hb H J v d) :
 DE X fl J e (λδ=>(f δ).bind λd=>if p d=true then some d else none):=by
 refine PE.imp h λσ H Q h=>?_
 refine D3.ex4 h λG ow δ d R Z q=>?_
 dsimp only at Z
 cases Y:f δ with
 |none=>rw[Y]at Z;cases Z
 |some U=>
  rw[Y,aG]at Z;by_cases W:p U=true
  .rw[if_pos W]at Z
   cases Z;exact⟨G,ow,δ,d,R,Y,λv H' s r=>q v H' s (O _ _ G ow σ δ v d W R r)⟩
  .rw[if_neg W]at Z
   cases Z
def uJ(h:DE X fl .FC e f):DE X fl .F e f:=oF h λ_ _ _ _ _ _ _ _ R r=>r.FC_F R
def iK(h:DE X fl .FC e f):DE X fl .C e f:=oF h λ_ _ _ _ _ _ _ _ R r=>r.FC_C
def gw(h:DE X fl .F e f):DE X fl .A e f:=oF h λ_ _ _ _ _ _ _ _ R r=>r.F_A R
def gZ(h:DE X fl .C e f):DE X fl .A e f:=oF h λ_ _ _ _ _ _ _ _ R r=>r.C_A R
def vg(h:DE X fl .C e f):DE X fl .R e f:=oF h λ_ _ _ _ _ _ _ _ R r=>r.C_R R
def cW(h:DE X fl .A e f):DE X fl (.B []) e f:=oF h λ_ _ _ _ _ _ _ _ R r=>Rs.A_B [] r
def sG{L:List Nat}(h:DE X fl (.B L) e f):DE X fl .P e f:=oF h λ_ _ _ _ _ _ _ _ R r=>r.B_P
def iu(h:DE X fl .P e f):DE X fl .FC e (dW f):=Ft h λ_ _ _ _ _ _ _ _ Z R r=>r.P_flat Z
def H_(h:DE X fl .C e f):DE X fl .FC e (vd f):=Ft h λ_ _ _ _ _ _ _ _ Z R r=>r.C_fl1 Z
def cj(h:DE X fl .FC e f):DE X fl .A e f:=gw (uJ h)
def bM(h:DE X fl .FC e f):DE X fl .R e f:=vg (iK h)
def bZ(h:DE X fl .A e f):DE X fl .P e f:=sG (cW h)
def eY(h:DE X fl .C e f):DE X fl .P e f:=bZ (gZ h)
def bB(h:DE X fl .FC e f):DE X fl .P e f:=bZ (cj h)
def JG(h:DE X fl .F e f):DE X fl .P e f:=bZ (gw h)
def yM(h:PE X e (tC v))(O:flat d=true)(J:∀H,RA X.K ok0 false H v d):DE X fl .FC e (dC d):=by
 refine PE.imp h λσ H Q h=>?_
 refine D3.ex4 h λG ow δ Z R hd q=>?_
 cases hd;exact q v H (Same.refl H) (.inl ⟨O,J H⟩)
def lQ{i j pos}:DE X fl .FC (.Constant (.int i) j pos) (dC (.int i)):=yM Wm rfl λ_=>.int _
def mL{b j pos}:DE X fl .FC (.Constant (.bool b) j pos) (dC (.bool b)):=yM MK rfl λ_=>.bl _
def lu{j pos}:DE X fl .FC (.Constant .none j pos) (dC .none):=yM MN rfl λ_=>.non
def gG{x j pos}:DE X fl .FC (.Constant (.str x) j pos) (dC (.str x)):=yM Wn rfl λ_=>.str _
def R5 (h:∃t,X.mg x=some (.int l t)) (J:Gl X x:=by rfl) (hd:(x==("__debug__":Str))=false:=by decide):DE X fl .FC (.Name x pos) (dC (.int l)):=by
 obtain⟨t,h⟩:=h;exact yM (Jx (v:=.int l) J h ⟨t,rfl⟩ hd) rfl λ_=>.int _
def BrO(K:PySem.W.Frag)(r:R2)(g:D->D->Option D):Prop:=∀(H:Hp)(x y:V)(dx Z d:D)(Q:VK),RA K ok1 true H x dx->RA K ok1 true H y Z->g dx Z=some d->(∀v,flat d=true->RA K ok0 false H v d->Q v H)->r x y H Q
theorem Fv (h:dOp l fa fb δ=some d):∃x y,fa δ=some x/\fb δ=some y/\l x y=some d:=by
 unfold dOp at h
 cases ha:fa δ with
 |none=>rw[ha]at h;cases h
 |some x=>
  rw[ha,aG]at h
  cases hb:fb δ with
  |none=>rw[hb]at h;cases h
  |some y=>
   rw[hb,aG]at h;exact⟨x,y,rfl,rfl,h⟩
theorem bind1 (h:l.bind m=some o):∃y,l=some y/\m y=some o:=by
 cases l with
 |none=>cases h
 |some y=>exact⟨y,rfl,h⟩
def wg {g:D->D->Option D} {σ:St} (hb:BrO X.K l g) (h:tD X.K fl .FC (dOp g fa fb) σ H m):tOp l (tD X.K fl .P fa) (tD X.K fl .P fb) σ H m:=by
 refine D3.ex4 h λG ow δ d R W q=>?_
 refine D3.ex2 (Fv W) λx y e1 e2 e3=>?_
 refine⟨G,ow,δ,x,R,e1,λv H1 s1 r1=>⟨G,ow,δ,y,R.grow s1,e2,λu H2 s2 r2=>?_⟩⟩;exact hb H2 v u x y d m (RA.same s2 r1) r2 e3 λz Y Z=>q z H2 (s1.trans s2) (.inl ⟨Y,Z⟩)
def cX (O:OpR X (binaryOp J) l) (hb:BrO X.K l m) (h1:DE X fl .P a fa) (h2:DE X fl .P b fb):DE X fl .FC (.BinOp a J b pos) (dOp m fa fb):=
 PE.imp (Nk O h1 h2) λ_ _ _ h=>wg hb h
def lA (O:OpR X (compareOp J) l) (hb:BrO X.K l m) (h1:DE X fl .P a fa) (h2:DE X fl .P b fb) (hm:behindInMarks J b=false):DE X fl .FC (.Compare a [J] [b] pos) (dOp m fa fb):=
 PE.imp (Ry O h1 h2 hm) λ_ _ _ h=>wg hb h
def cU {g:D->D->Option D}(O:OpR X (compareOp J) l) (hb:BrO X.K l g) (h1:DE X fl .P a fa) (h2:DE X fl .P b fb) (hm:behindInMarks J b=false):DT X fl (.Compare a [J] [b] pos) (aQ (dOp g fa fb)):=by
 refine PT.imp (Rz O h1 h2 hm) λσ H Q h=>?_
 refine D3.ex4 h λG ow δ c R Z q=>?_
 refine D3.ex1 (bind1 Z) λd e1 e2=>?_
 cases d<;>first|(cases e2;done)|skip
 cases e2;refine wg (fl:=fl) (fa:=fa) (fb:=fb) hb ⟨G,ow,δ,_,R,e1,λv H' s l=>?_⟩;obtain rfl:=(Rs.FC_C l).blE;exact⟨_,rfl,q H' s⟩
def fW(h:DE X fl .P e f)(J:∀whole,isTrue e X.env whole=(do let v <-whole;standAt e.pos;holding [v] (truthy v)):=by intro _;rfl):DT X fl e (aQ f):=by
 refine PT.imp (M5 h J) λσ H Q h=>?_
 refine D3.ex4 h λG ow δ c R Z q=>?_
 refine D3.ex1 (bind1 Z) λd e1 e2=>?_
 cases d<;>first|(cases e2;done)|skip
 cases e2;refine⟨G,ow,δ,_,R,e1,λv H' s r=>?_⟩;obtain rfl:=RA.blE r;exact⟨_,rfl,q H' s⟩
def Bd {g:Int->Int->D} (O:∀i j,flat (g i j)=true) (J:∀H i j,RA K ok0 false H (l i j) (g i j)):BrO K (rI0 l) (gI λi j=>some (g i j)):=by
 intro H x y dx X d Q Y Z e q;unfold gI at e;split at e
 .next i j=>
  cases e;exact⟨i,j,Y.intE,Z.intE,q _ (O i j) (J H i j)⟩
 .cases e
def R6 {g:Int->Int->D} {c:Int->Int->Bool} (hc:∀i j,c i j=true->l i j) (O:∀i j,flat (g i j)=true) (J:∀H i j,RA K ok0 false H (m i j) (g i j)) :
 BrO K (rI l m) (gI λi j=>if c i j=true then some (g i j)else none):=by
 intro H x y dx X d Q Y Z e q;unfold gI at e;split at e
 .next i j=>
  dsimp only at e;by_cases z:c i j=true
  .rw[if_pos z]at e
   cases e;exact⟨i,j,Y.intE,Z.intE,hc i j z,q _ (O i j) (J H i j)⟩
  .rw[if_neg z]at e
   cases e
 .cases e
end
section
variable{X:Cx}
def R7 (h:yH b c=true):IntMulOk b c:=by
 unfold yH at h;rw[Bool.or_eq_true,Bool.or_eq_true,aV]at h;rcases h with(h|h)|⟨h1,h2⟩
 .exact IntMulOk.of_left (PySem.intBits_le_iff.mpr (of_decide_eq_true h))
 .exact IntMulOk.of_right (PySem.intBits_le_iff.mpr (of_decide_eq_true h))
 .exact PySem.IntMulOk.of_le (PySem.intBits_le_iff.mpr (of_decide_eq_true h1)) (PySem.intBits_le_iff.mpr (of_decide_eq_true h2)) (by decide)
def nj:OpR X (binaryOp .Mult) (rI (λi j=>yH i j=true) λi j=>.int (i*j)):=opI λ_ _ _ _ _ _ _ Z q=>mul_int q (R7 Z)
def JH:OpR X (binaryOp .FloorDiv) (rI (λi j=>HX i j=true) λi j=>.int (i.fdiv j)):=opI λi j _ _ _ _ _ Z q=>by
 unfold HX at Z;rw[aV]at Z;have h1:=of_decide_eq_true Z.1;have h2:=of_decide_eq_true Z.2;refine floordiv_int h1 q (.inl (PyProof.noPylong_of_log2 ?_));exact(Nat.log2_lt (by lia)).mpr h2
def R8 (h:W4 b c=true):WL b c:=by
 unfold W4 at h;rw[aV,aV]at h;have h1:=of_decide_eq_true h.1.1;have h2:=of_decide_eq_true h.1.2;exact⟨h1,by lia,of_decide_eq_true h.2⟩
def iI:BrO K (rI0 λi j=>.int (i+j)) jg:=Bd (λ_ _=>rfl) λ_ _ _=>.int _
def Bf:BrO K (rI0 λi j=>.int (i-j)) z8:=Bd (λ_ _=>rfl) λ_ _ _=>.int _
def ur:BrO K (rI (λi j=>yH i j=true) λi j=>.int (i*j)) ql:=R6 (λ_ _ h=>h) (λ_ _=>rfl) λ_ _ _=>.int _
def VH:BrO K (rI (λi j=>HX i j=true) λi j=>.int (i.fdiv j)) Fe:=R6 (λ_ _ h=>h) (λ_ _=>rfl) λ_ _ _=>.int _
def uw:BrO K (rI (λ_ j=>j≠0) λi j=>.int (i.fmod j)) uf:=R6 (λ_ _ h=>of_decide_eq_true h) (λ_ _=>rfl) λ_ _ _=>.int _
def Fw:BrO K (rI WL λi j=>.int (i^j.toNat)) Cr:=R6 (λ_ _ h=>R8 h) (λ_ _=>rfl) λ_ _ _=>.int _
def b_lt:BrO K (rI0 λi j=>.bl (decide (i<j))) gLt:=Bd (λ_ _=>rfl) λ_ _ _=>.bl _
def wj:BrO K (rI0 λi j=>.bl (decide (i<=j))) gLe:=Bd (λ_ _=>rfl) λ_ _ _=>.bl _
def Fx:BrO K (rI0 λi j=>.bl (decide (j<i))) gGt:=Bd (λ_ _=>rfl) λ_ _ _=>.bl _
def Fy:BrO K (rI0 λi j=>.bl (decide (j<=i))) gGe:=Bd (λ_ _=>rfl) λ_ _ _=>.bl _
def yN:BrO K (Zq K) gEq:=by
 intro H x y dx Z d Q X Y e q;unfold gEq at e;by_cases z:(cK dx&&cK Z)=true
 .rw[if_pos z]at e
  cases e;rw[aV]at z;exact⟨dx,Z,X.rd (af z.1),Y.rd (af z.2),z.1,z.2,q _ rfl (.bl _)⟩
 .rw[if_neg z]at e
  cases e
def Ia:BrO K (W0 K) gNe:=by
 intro H x y dx Z d Q X Y e q;unfold gNe at e;by_cases z:(cK dx&&cK Z)=true
 .rw[if_pos z]at e
  cases e;rw[aV]at z;exact⟨dx,Z,X.rd (af z.1),Y.rd (af z.2),z.1,z.2,q _ rfl (.bl _)⟩
 .rw[if_neg z]at e
  cases e
end
end D3
variable{G:D3.Gh}{o:D3.Oc}{ow:D3.Ow}{g:D3.FG}{gs:List D3.D->D3.DS->Option D3.DS}
namespace D3
open L2 My
section
variable{X:Cx}{fl:List Fl}{a b c:Expr}{st:Stmt}{k:Kd}{f fa:FE}{fs gs:FS}
theorem yL.nx_imp (h:yL K fl G l o) (hn:∀δ',o ≠ .nx δ'):yL K fl G {l with nx:=m} o:=by
 cases o with
 |nx δ'=>exact absurd rfl (hn δ')
 |rt d=>exact h
 |bk δ'=>exact h
 |ct δ'=>exact h
 |ex c f v=>exact h
def cg:DSs X fl [] bV:=PSs.imp Jz λDn σ H h=>by
 refine D3.ex4 h λG ow δ o R Z q=>?_
 cases Z;exact q ow σ H R
theorem aM(h1:DS1 X fl st fs)(h2:DSs X fl sts gs):DSs X fl (st::sts) (bD fs gs):=PSs.imp (yq h1 h2) λDn σ H h=>by
 refine D3.ex4 h λG ow δ o R W q=>?_
 refine D3.ex1 (bind1 W) λY e1 e2=>?_
 refine⟨G,ow,δ,Y,R,e1,?_⟩
 cases Y with
 |nx δ'=>exact λZ σ' H' R'=>⟨G,Z,δ',o,R',e2,q⟩
 |rt d=>cases e2;exact yL.nx_imp q (λ_ z=>by cases z)
 |bk d=>cases e2;exact yL.nx_imp q (λ_ z=>by cases z)
 |ct d=>cases e2;exact yL.nx_imp q (λ_ z=>by cases z)
 |ex c f v=>cases e2;exact q
def aY(h1:DS1 X fl st fs):DSs X fl [st] fs:=PSs.imp (Ci h1) λ_ _ _ h=>h
def bW(h:DE X fl .R e f):DS1 X fl (.Return (some e) pos) (b_ f):=PS.imp (Hv h) λDn σ H h=>by
 refine D3.ex4 h λG ow δ o R Z q=>?_
 refine D3.ex1 (bind1 Z) λd e1 e2=>?_
 cases e2;exact⟨G,ow,δ,d,R,e1,λv H' s r=>q v H' (R.same0.trans s) r⟩
def xR(h:DE X fl .P e f)(J:swapsWith e none pos.line X.env=pure false:=by rfl):DS1 X fl (.Expr e pos) (su f):=PS.imp (xO h J) λDn σ H h=>by
 refine D3.ex4 h λG ow δ o R Z q=>?_
 refine D3.ex1 (bind1 Z) λd e1 e2=>?_
 cases e2;exact⟨G,ow,δ,d,R,e1,λv H' s r=>q ow σ H' (R.grow s)⟩
theorem eX(J:DT X fl c ft)(h1:DSs X fl body fs)(h2:DSs X fl orelse gs):DS1 X fl (.If c body orelse pos) (sIf ft fs gs):=PS.imp (M8 J h1 h2) λDn σ H h=>by
 refine D3.ex4 h λG ow δ o R Z q=>?_
 refine D3.ex1 (bind1 Z) λt e1 e2=>?_
 refine⟨G,ow,δ,t,R,e1,λH' s=>?_⟩
 cases t with
 |true=>exact yC ⟨G,ow,δ,o,R.grow s,e2,q⟩
 |false=>exact yx ⟨G,ow,δ,o,R.grow s,e2,q⟩
def iW {l:List (Option α)} {x y:α} (h:(l.set i (some x))[j]? = some (some y)):(j=i/\x=y)\/(j≠i/\l[j]? = some (some y)):=by
 rw[pI]at h;by_cases e:i=j
 .subst e;rw[if_pos rfl]at h;by_cases z:i<l.length
  .rw[if_pos z]at h
   cases h;exact .inl ⟨rfl,rfl⟩
  .rw[if_neg z]at h
   cases h
 .rw[if_neg e]at h;exact .inr ⟨λz=>e z.symm,h⟩
def Rel.setA{σ:St}(R:Rel K fl G ow σ H δ)(J:fl[i]? = some .A)(hi:i<σ.length)(r:RA K (okA ow) true H v d):
 Rel K fl G ow (σ.set i (some v)) H (δ.set i (some (.d d))):=by
 have no:∀a,ow i≠some a:=λa z=>by
  obtain⟨_,U,_⟩:=R.own i a z;rw[J]at U;rcases U with⟨z,_⟩|⟨z,_⟩<;>cases z
 refine⟨R.s0,R.s1,by rw[cM,cM];exact R.len,λj a h=>?_,R.inj,R.pin,λj X h1 hn h2=>?_,λj X h1 hn h2 Y=>?_,R.nt,R.nd,R.ns,R.np,λj X hn h1=>?_⟩
 .have Z:j≠i:=λz=>no a (z▸h)
  obtain⟨S,T,xs,ds,h1,h2,Y,W⟩:=R.own j a h;exact⟨S,T,xs,ds,by rwa[bh (c9 Z)],h2,Y,by rwa[bh (c9 Z)]⟩
 .rcases iW h1 with⟨rfl,e⟩|⟨Z,e⟩
  .cases e;exact⟨v,by rw[cL hi],r⟩
  .obtain⟨V,Y,W⟩:=R.dat j X e hn h2;exact⟨V,by rwa[bh (c9 Z)],W⟩
 .rcases iW h1 with⟨rfl,e⟩|⟨Z,e⟩
  .exact absurd J h2
  .exact R.oo j X e hn h2 Y
 .rcases iW h1 with⟨rfl,e⟩|⟨Z,e⟩
  .rw[J]at hn;cases hn
  .obtain⟨V,Y,W⟩:=R.nr j X hn e;exact⟨V,by rwa[bh (c9 Z)],W⟩
def wR(ow:Ow)(i:Nat)(a:Option Addr):Ow:=⟨λj=>if j=i then a else ow j,ow.n⟩
def jE{a:Option Addr}:wR ow i a i=a:=if_pos rfl
def gH{a:Option Addr}(h:j≠i):wR ow i a j=ow j:=if_neg h
def Rel.setO{σ:St}(R:Rel K fl G ow σ H δ)(s:Same H H')(J:fl[i]? = some .O)(hi:i<σ.length)(r:Rs K G.H0 ow H H' .F v d):
 ∃ow',Rel K fl G ow' (σ.set i (some v)) H' (δ.set i (some (.d d))):=by
 have R':=R.grow s;have S:∀b,okA ow b->okA (wR ow i none) b:=λb z=>⟨λj e=>by
  by_cases Z:j=i
  .subst Z;rw[jE]at e;cases e
  .rw[gH Z]at e;exact z.1 j e,z.2⟩
 have N:∀j U,isN fl[j]? = true->(δ.set i (some (.d d)))[j]? = some (some (.d U))->∃T,(σ.set i (some v))[j]? = some (some T)/\RT K H' T U (ow.n j)/\(ow.n j).Nodup:=λj U hn h1=>by
  rcases iW h1 with⟨rfl,e⟩|⟨Z,e⟩
  .rw[J]at hn;cases hn
  .obtain⟨T,X,P⟩:=R'.nr j U hn e;exact⟨T,by rwa[bh (c9 Z)],P⟩
 rcases r with⟨M,r⟩|⟨a,xs,ds,rfl,rfl,ha,C,B⟩
 .refine⟨wR ow i none,R'.s0,R'.s1,by rw[cM,cM];exact R.len,λj a h=>?_,λj W a h h'=>?_,λj h=>?_,λj U h1 hn h2=>?_,λj U h1 hn h2 X=>?_,R'.nt,R'.nd,λj W a h h'=>?_,R'.np,N⟩
  .have Z:j≠i:=λz=>by subst z;rw[jE]at h;cases h
   rw[gH Z]at h;obtain⟨I,L,xs,ds,h1,h2,X,P⟩:=R'.own j a h;exact⟨I,L,xs,ds,by rwa[bh (c9 Z)],h2,X.imp S (λz=>z),by rwa[bh (c9 Z)]⟩
  .have Z:j≠i:=λz=>by subst z;rw[jE]at h;cases h
   have Y:W≠i:=λz=>by subst z;rw[jE]at h';cases h'
   rw[gH Z]at h;rw[gH Y]at h';exact R.inj j W a h h'
  .have Z:j≠i:=λz=>by subst z;rw[J]at h;cases h
   rw[gH Z];exact R.pin j h
  .rcases iW h1 with⟨rfl,e⟩|⟨Z,e⟩
   .cases e;exact⟨v,by rw[cL hi],RA.flat M r⟩
   .rw[gH Z]at h2;obtain⟨T,X,P⟩:=R'.dat j U e hn h2;exact⟨T,by rwa[bh (c9 Z)],P.imp S (λz=>z)⟩
  .rcases iW h1 with⟨rfl,e⟩|⟨Z,e⟩
   .cases e;exact M
   .rw[gH Z]at X;exact R.oo j U e hn h2 X
  .by_cases Z:W=i
   .subst Z;rw[jE]at h';cases h'
   .rw[gH Z]at h';exact R.ns j W a h h'
 .have sub:∀b,okA ow b/\b≠a->okA (wR ow i (some a)) b:=λb z=>⟨λj e=>by
   by_cases Z:j=i
   .subst Z;rw[jE]at e;exact z.2 (dg.inj e).symm
   .rw[gH Z]at e;exact z.1.1 j e,z.1.2⟩
  have old:∀{v:V}{d:D},RA K (okA ow) true H v d->RA K (okA (wR ow i (some a))) true H' v d:=λr=>(r.track.imp (λb z=>sub b ⟨z.1,λe=>z.2 (e▸ha)⟩) (λz=>z)).same s
  have olds:∀{v:List V}{d:List D},RAs K (okA ow) true H v d->RAs K (okA (wR ow i (some a))) true H' v d:=λr=>(r.track.imp (λb z=>sub b ⟨z.1,λe=>z.2 (e▸ha)⟩) (λz=>z)).same s
  have Q:∀j,ow j≠some a:=λj z=>by
   obtain⟨_,_,_,_,_,h2,_⟩:=R.own j a z;rw[ha]at h2
   cases h2
  have A:=R.s1.free ha;refine⟨wR ow i (some a),R'.s0,R'.s1,by rw[cM,cM];exact R.len,λj b h=>?_,λj W b h h'=>?_,λj h=>?_,λj U h1 hn h2=>?_,λj U h1 hn h2 X=>?_,R'.nt,R'.nd,λj W b h h'=>?_,R'.np,N⟩
  .by_cases Z:j=i
   .subst Z;rw[jE]at h
    cases h;exact⟨R.same0.free ha,.inl ⟨J,A⟩,xs,ds,by rw[cL hi],C,B.imp sub (λz=>z),by rw[cL (by rwa[<-R.len])]⟩
   .rw[gH Z]at h;obtain⟨I,L,ys,E,h1,h2,X,P⟩:=R.own j b h;exact⟨I,L,ys,E,by rwa[bh (c9 Z)],s _ _ h2,olds X,by rwa[bh (c9 Z)]⟩
  .by_cases Z:j=i
   .by_cases Y:W=i
    .rw[Z,Y]
    .subst Z;rw[jE]at h
     cases h;rw[gH Y]at h';exact absurd h' (Q W)
   .rw[gH Z]at h;by_cases Y:W=i
    .subst Y;rw[jE]at h'
     cases h';exact absurd h (Q j)
    .rw[gH Y]at h';exact R.inj j W b h h'
  .have Z:j≠i:=λz=>by subst z;rw[J]at h;cases h
   rw[gH Z];exact R.pin j h
  .rcases iW h1 with⟨rfl,e⟩|⟨Z,e⟩
   .rw[jE]at h2;cases h2
   .rw[gH Z]at h2;obtain⟨T,X,P⟩:=R.dat j U e hn h2;exact⟨T,by rw[bh (c9 Z)];exact X,old P⟩
  .rcases iW h1 with⟨rfl,e⟩|⟨Z,e⟩
   .rw[jE]at X;cases X
   .rw[gH Z]at X;exact R.oo j U e hn h2 X
  .by_cases Z:W=i
   .subst Z;rw[jE]at h'
    cases h';exact(R.nt j a h).2.1.ne ha
   .rw[gH Z]at h';exact R.ns j W b h h'
def Rel.mut{σ:St}{a:Addr}{ys:List V}(R:Rel K fl G ow σ H δ)(hfl:fl[i]? = some .O)(J:ow i=some a)(r:RAs K (okA ow) true H ys ds):
 Rel K fl G ow σ (upd H a (.lst ys)) (δ.set i (some (.d (.list ds)))):=by
 obtain⟨I,N,xs,F,e1,e2,e3,e4⟩:=R.own i a J;have T:¬okA ow a:=λz=>z.1 i J
 have M:G.HF a=none:=by
  rcases N with⟨_,z⟩|⟨z,_⟩
  .exact z
  .rw[hfl]at z;cases z
 have hi:i<δ.length:=by
  rcases mH i δ.length with z|z
  .exact z
  .rw[bK z]at e4;cases e4
 refine⟨R.s0,λb o hb=>?_,by rw[cM];exact R.len,λj b h=>?_,R.inj,R.pin,λj X h1 hn h2=>?_,λj X h1 hn h2 Z=>?_,λj b h=>?_,R.nd,R.ns,R.np,λj X hn h1=>?_⟩
 .rw[cO (λz=>by subst z;rw[M]at hb;cases hb)];exact R.s1 b o hb
 .by_cases Y:j=i
  .subst Y;rw[J]at h
   cases h;exact⟨I,N,ys,ds,e1,dH,r.upd e2 T,by rw[cL hi]⟩
  .obtain⟨Q,S,zs,P,h1,h2,Z,W⟩:=R.own j b h;have hb:b≠a:=λz=>Y (R.inj j i a (z▸h) J)
   exact⟨Q,S,zs,P,h1,by rwa[cO hb],Z.upd e2 T,by rwa[bh (c9 Y)]⟩
 .rcases iW h1 with⟨rfl,e⟩|⟨Y,e⟩
  .rw[J]at h2;cases h2
  .obtain⟨U,Z,W⟩:=R.dat j X e hn h2;exact⟨U,Z,W.upd e2 T⟩
 .rcases iW h1 with⟨rfl,e⟩|⟨Y,e⟩
  .rw[J]at Z;cases Z
  .exact R.oo j X e hn h2 Z
 .obtain⟨g1,g2,g3⟩:=R.nt j b h;refine⟨g1,?_,g3⟩;by_cases hb:b=a
  .rw[hb,dH];exact⟨_,rfl,inferInstance⟩
  .rwa[cO hb]
 .rcases iW h1 with⟨rfl,e⟩|⟨Y,e⟩
  .rw[hfl]at hn;cases hn
  .obtain⟨U,Z,W,L⟩:=R.nr j X hn e;exact⟨U,Z,W.upd e2 (λz=>R.ns j i a z J),L⟩
def rB (R:Rel K fl G ow σ H δ) (h:i<δ.length):i<σ.length:=by rwa[R.len]
def R9(O:fl[i]? = some .A)(hN:X.N.Nodup)(hi:X.N[i]? = some x)(Y:X.env.scope.names.lookup x=some .local\/X.env.scope.names.lookup x=some .cell)(h:DE X fl .A e f)
 (hs:swapsWith e (some (.Name x pos')) pos.line X.env=pure false:=by rfl) (J:X.fn x=true\/X.env.scope.names.lookup x=some .local:=by first|exact .inl rfl|exact .inr rfl) :
 DS1 X fl (.Assign [.Name x pos'] e pos) (bL i f):=PS.imp (Cj (i:=i) hN hi Y h hs J) λDn σ H h=>by
 refine D3.ex4 h λG ow δ o R Z q=>?_
 unfold bL at Z;by_cases hl:i<δ.length
 .rw[if_pos hl]at Z;refine D3.ex1 (bind1 Z) λd e1 e2=>?_
  cases e2;exact⟨G,ow,δ,d,R,e1,λv H' s r=>q ow _ H' ((R.grow s).setA O (rB R hl) r)⟩
 .rw[if_neg hl]at Z
  cases Z
def oG(hfl:fl[i]? = some .O)(hN:X.N.Nodup)(hi:X.N[i]? = some x)(hv:X.env.scope.names.lookup x=some .local\/X.env.scope.names.lookup x=some .cell)(h:DE X fl .F e f)
 (hs:swapsWith e (some (.Name x pos')) pos.line X.env=pure false:=by rfl) (J:X.fn x=true\/X.env.scope.names.lookup x=some .local:=by first|exact .inl rfl|exact .inr rfl) :
 DS1 X fl (.Assign [.Name x pos'] e pos) (bL i f):=PS.imp (Cj (i:=i) hN hi hv h hs J) λDn σ H h=>by
 refine D3.ex4 h λG ow δ o R Z q=>?_
 unfold bL at Z;by_cases hl:i<δ.length
 .rw[if_pos hl]at Z;refine D3.ex1 (bind1 Z) λd e1 e2=>?_
  cases e2;refine⟨G,ow,δ,d,R,e1,λv H' s r=>?_⟩;obtain⟨Y,R'⟩:=R.setO s hfl (rB R hl) r;exact q Y _ H' R'
 .rw[if_neg hl]at Z
  cases Z
def R_(O:fl[i]? = some .A)(hN:X.N.Nodup)(hi:X.N[i]? = some x)(Y:X.env.scope.names.lookup x=some .local\/X.env.scope.names.lookup x=some .cell)
 (J:X.fn x=true\/X.env.scope.names.lookup x=some .local:=by first|exact .inl rfl|exact .inr rfl):DG X fl [i] (.Name x pos) (gNl i):=
 PG.imp (Rv (i:=i) hN hi Y J) λv σ H Q h=>by
 obtain⟨G,ow,δ,d,δ',R,r,Z,q⟩:=h;unfold gNl at Z;by_cases hl:i<δ.length
 .rw[if_pos hl]at Z
  cases Z;exact q _ (R.setA O (rB R hl) r) λj W=>bh (λz=>W (by rw[z];exact aB.mpr rfl))
 .rw[if_neg hl]at Z
  cases Z
def aj0(K:PySem.W.Frag)(fl:List Fl)(tg:List Nat)(g:List D->DS->Option DS):TGs:=λvs σ H Q=>∃G ow δ ds δ',Rel K fl G ow σ H δ/\RAs K (okA ow) true H vs ds/\g ds δ=some δ'/\∀σ',Rel K fl G ow σ' H δ'->(∀j,j∉tg->σ'[j]? = σ[j]?)->Q σ' H
def PGs.imp (h:PGs X es t) (i:∀v σ H Q,t' v σ H Q->t v σ H Q):PGs X es t':=λpins s σ H v u Q I r q=>h pins s σ H v u Q I r (i v σ H Q q)
abbrev DGs(X:Cx)(fl:List Fl)(tg:List Nat)(es:List Expr)(g:List D->DS->Option DS):Prop:=PGs X es (aj0 X.K fl tg g)
theorem tO:DGs X fl [] [] n8:=PGs.imp Rw λvs σ H Q h=>by
 obtain⟨G,ow,δ,ds,δ',R,r,Z,q⟩:=h
 cases r with
 |nil=>cases Z;exact⟨rfl,q σ R λ_ _=>rfl⟩
 |cons _ _=>cases Z
theorem jF {gs:List D->DS->Option DS} (h1:DG X fl l e g) (h2:DGs X fl J es gs) (O:(assignEach (e::es) X.env).map (·.2)=assign e X.env::(assignEach es X.env).map (·.2):=by rfl) :
 DGs X fl (l++J) (e::es) (fQ g gs):=PGs.imp (Nb h1 h2 O) λvs σ H Q h=>by
 obtain⟨G,ow,δ,ds,δ',R,r,V,q⟩:=h
 cases r with
 |nil=>cases V
 |cons r1 r2=>
  refine D3.ex1 (bind1 V) λδ1 e1 e2=>?_
  refine⟨_,_,rfl,G,ow,δ,_,δ1,R,r1,e1,λσ' R' k1=>⟨G,ow,δ1,_,δ',R',r2,e2,λZ Y k2=>q Z Y λj W=>?_⟩⟩;rw[k2 j λz=>W (aL _ z),k1 j λz=>W (aU _ z)]
def wu {gs:List D->DS->Option DS} {k:Nat} (O:X.calm=true) (h:DGs X fl m es gs) (hn:(assignEach es X.env).length=n:=by rfl) (J:(assignEach es X.env).findIdx? (·.1)=none:=by rfl) :
 DG X fl m (.Tuple es k pos) (gTn n gs):=PG.imp (Wx (n:=n) O h hn J) λv σ H Q h=>by
 obtain⟨G,ow,δ,d,δ',R,r,Z,q⟩:=h;unfold gTn at Z;split at Z
 .next l=>
  by_cases z:l.length=n
  .rw[if_pos z]at Z;obtain⟨a,xs,rfl,W,Y⟩:=r.tupE;exact⟨a,xs,rfl,W,by rwa[Y.length],G,ow,δ,l,δ',R,Y,Z,q⟩
  .rw[if_neg z]at Z
   cases Z
 .cases Z
end
end D3
variable{l:List D3.D}{vpos:Pos}{fk:D3.FE}{fa:D3.FA}{δ':D3.DS}
namespace D3
open L2 My
section
variable{X:Cx}{fl:List Fl}{a b c:Expr}{st:Stmt}{k:Kd}{f fa:FE}{fs gs:FS}
theorem Ie (R:Rel K fl G ow σ H δ) (J:fl[i]? = some .O) (h:ak i δ=some (.list l)) :
 ∃a xs,ow i=some a/\σ[i]? = some (some (.ref a))/\H a=some (.lst xs)/\RAs K (okA ow) true H xs l:=by
 have e:=oE h
 cases Z:ow i with
 |none=>
  have z:=R.oo i _ e (by rw[J];rfl) (by rw[J];simp) Z;simp[flat]at z
 |some a=>
  obtain⟨W,_,xs,ds,h1,h2,X,Y⟩:=R.own i a Z;rw[e]at Y
  cases Y;exact⟨a,xs,rfl,h1,h2,X⟩
def Bg(hfl:fl[i]? = some .O)(h:DE X fl .A e f)(hN:X.N[i]? = some x)(hv:Vis X.env.scope x:=by first|exact Or.inl rfl|exact Or.inr (Or.inl rfl)|exact Or.inr (Or.inr rfl))(hd:(x==("__debug__":Str))=false:=by decide)
 (hcd:(x==("__classdict__":Str))=false:=by decide)
 (hs:swapsWith (.Call (.Attribute (.Name x vpos) "append" apos) [e] [] cpos) none pos.line X.env=pure false:=by rfl)
 (hbase:attributeBase (.Name x vpos) "append" X.env (eval (.Name x vpos) X.env)=eval (.Name x vpos) X.env:=by rfl)
 (hfew:((backTo cpos (starEach [e] X.env)).all (λx=>!x.1)&&(backToKw cpos (keywordEach [] X.env)).all (λx=>x.1.isSome)
  && decide (([e]:List Expr).length+([]:List ef).length+(if([]:List ef).isEmpty then 0 else 1)<30))=true:=by rfl)
 (Y:(apos.endLine==cpos.line)=true:=by rfl) (hst:starEach [e] X.env=(false,eval e X.env)::starEach [] X.env:=by rfl) (J:(backTo cpos (starEach [] X.env)).any (·.1)=false:=by rfl) :
 DS1 X fl (.Expr (.Call (.Attribute (.Name x vpos) "append" apos) [e] [] cpos) pos) (NT i f):=
 PS.imp (xO (Nv PySem.F.plainAttrs_list PySem.F.slot_list_append PySem.F.type_list_append Bb (mY hN hv hd hcd) (iV h nR hst) hbase hfew Y hst J) hs) λDn σ H h=>by
 refine D3.ex4 h λG ow δ o R Z q=>?_
 refine D3.ex1 (bind1 Z) λx e1 V=>?_
 refine D3.ex1 (bind1 V) λd e2 W=>?_
 have Z:=W;split at Z
 case h_2=>cases Z
 next l=>
 by_cases hl:l.length<1000000
 .rw[if_pos hl]at Z
  cases Z;obtain⟨a,xs,T,h1,h2,U⟩:=Ie R hfl e1;refine⟨_,h1,.inl ⟨rfl,_,SqL.of h2⟩,G,ow,δ,d,R,e2,λv H' s r=>?_⟩;have R':=R.grow s;refine⟨a,xs,v,rfl,rfl,s _ _ h2,by rw[U.length];exact kI hl (by decide),?_⟩;exact q ow σ _ (R'.mut hfl T ((U.same s).append (.cons r .nil)))
 .rw[if_neg hl]at Z
  cases Z
def yO (J:fl[i]? = some .O) (h:DE X fl .A e f) (hk:DE X fl .P m fk) (hN:X.N[i]? = some x) (hv:Vis X.env.scope x:=by first|exact Or.inl rfl|exact Or.inr (Or.inl rfl)|exact Or.inr (Or.inr rfl)) (hd:(x==("__debug__":Str))=false:=by decide)
 (hcd:(x==("__classdict__":Str))=false:=by decide) (ha:∀v,assign (.Subscript (.Name x vpos) m spos) X.env v=(do
  let Y <-holding [v] (eval (.Name x vpos) X.env)
  let iv <-holding [v,Y] (eval m X.env)
  standAt spos
  holding [v,Y,iv] (setItem Y iv v)
  release [v,Y,iv] []):=by intro _;rfl)
 (hs:swapsWithSole [.Subscript (.Name x vpos) m spos] e pos.line X.env=pure false:=by rfl) (hw:swappedStores [.Subscript (.Name x vpos) m spos] e X.env=pure none:=by rfl)
 (h1:(assignEach [.Subscript (.Name x vpos) m spos] X.env).map (·.2)=[assign (.Subscript (.Name x vpos) m spos) X.env]:=by rfl) :
 DS1 X fl (.Assign [.Subscript (.Name x vpos) m spos] e pos) (yI i fk f):=
 PS.imp (Ng h (Nf (mY hN hv hd hcd) hk set_list ha) hs hw h1) λDn σ H h=>by
 refine D3.ex4 h λG ow δ o R Z q=>?_
 refine D3.ex1 (bind1 Z) λd e2 U=>?_
 refine D3.ex1 (bind1 U) λx e1 V=>?_
 refine D3.ex1 (bind1 V) λk e3 W=>?_
 have Z:=W;split at Z
 case h_2=>cases Z
 next l j=>
 refine D3.ex1 (bind1 Z) λn e4 e5=>?_
 cases e5;obtain⟨a,xs,S,h1,h2,T⟩:=Ie R J e1;refine⟨G,ow,δ,d,R,e2,λv H' s r=>⟨_,h1,G,ow,δ,_,R.grow s,e3,λu H2 s2 r2=>?_⟩⟩;obtain rfl:=RA.intE r2;have R2:=R.grow (s.trans s2);refine⟨a,xs,j,n,rfl,rfl,(s.trans s2) _ _ h2,by rwa[T.length],?_⟩;exact q ow σ _ (R2.mut J S (RAs.set (RA.same s2 r) n (T.same (s.trans s2))))
def VJ(K:PySem.W.Frag)(ow:Ow)(L:List Nat)(H1:Hp)(J:It)(l:List D):Prop:=∀H2:Hp,(∀b o,H1 b=some o->(∀i,ow i=some b->i∈L)->(∀i,b∉ow.n i)->H2 b=some o)->∀i:Nat,
 (∀d,l[i]? = some d->J.go i H2/\∀x Z,J.yld i H2 x Z->Same H2 Z/\RA K (λb=>okA ow b/\H1 b≠none) true Z x d)/\(l.length<=i->J.stop i H2)
noncomputable def tDI(K:PySem.W.Frag)(fl:List Fl)(L:List Nat)(fi:FA):TI:=λσ H R'=>∃G ow δ l,Rel K fl G ow σ H δ/\fi δ=some l/\∀J H1,Same H H1->VJ K ow L H1 J l->R' J H1
abbrev DI(X:Cx)(fl:List Fl)(L:List Nat)(tg iter:Expr)(fi:FA):Prop:=PI X tg iter (tDI X.K fl L fi)
def PI.imp (h:PI X tg iter t) (i:∀σ H R',t' σ H R'->t σ H R'):PI X tg iter t':=λpins s σ H R' I q=>h pins s σ H R' I (i σ H R' q)
section
variable{ok:Ok}{H1 H2:Hp}{ow:Ow}{L:List Nat}
def nm{b:Addr} (hl:∀i b,ow i=some b->∃xs,H1 b=some (.lst xs)) (h:H1 b=some m) (hn:∀xs,m ≠ .lst xs):∀i,ow i=some b->i∈L:=λi e=>by
 obtain⟨xs,z⟩:=hl i b e;rw[h]at z;exact absurd (dg.inj z) (hn xs)
def nm2{b:Addr} (hl:∀i b,b∈ow.n i->Chd (H1 b)) (h:H1 b=some m) (hn:Chg m->False):∀i,b∉ow.n i:=λi e=>by
 obtain⟨u,z,c⟩:=hl i b e;rw[h]at z
 cases z;exact hn c
mutual
theorem RA.keep(hk:∀b o,H1 b=some o->(∀i,ow i=some b->i∈L)->(∀i,b∉ow.n i)->H2 b=some o)(hl:∀i b,ow i=some b->∃xs,H1 b=some (.lst xs))(hm:∀i b,b∈ow.n i->Chd (H1 b))(ho:∀b,ok b->okA ow b):∀{v:V}{d:D},RA K ok pl H1 v d->RA K ok pl H2 v d
 |_,_,.non=>.non
 |_,_,.bl b=>.bl b
 |_,_,.int i=>.int i
 |_,_,.str x=>.str x
 |_,_,.lst e k q=>.lst (hk _ _ e (λi z=>absurd z ((ho _ k).1 i)) (ho _ k).2) k (RAs.keep hk hl hm ho q)
 |_,_,.lsk e k q=>.lsk (by
  rcases e with⟨o,e⟩|e
  .exact .inl ⟨o,hk _ _ e (nm hl e (by intro xs z;cases z)) (nm2 hm e Chg.frz)⟩
  .exact .inr e) k (RAs.keep hk hl hm ho q)
 |_,_,.tup e q=>.tup (hk _ _ e (nm hl e (by intro xs z;cases z)) (nm2 hm e Chg.tup)) (RAs.keep hk hl hm ho q)
 |_,_,.dic e g k=>.dic (hk _ _ e (λi z=>absurd z ((ho _ k).1 i)) (ho _ k).2) (g.imp λ_ _ t=>hk _ _ t (nm hl t (by intro xs z;cases z)) (nm2 hm t Chg.tup)) k
 |_,_,.dik e g k=>.dik (hk _ _ e (nm hl e (by intro xs z;cases z)) (nm2 hm e Chg.frz)) (g.imp λ_ _ t=>hk _ _ t (nm hl t (by intro xs z;cases z)) (nm2 hm t Chg.tup)) k
theorem RAs.keep(hk:∀b o,H1 b=some o->(∀i,ow i=some b->i∈L)->(∀i,b∉ow.n i)->H2 b=some o)(hl:∀i b,ow i=some b->∃xs,H1 b=some (.lst xs))(hm:∀i b,b∈ow.n i->Chd (H1 b))(ho:∀b,ok b->okA ow b):∀{v:List V}{d:List D},RAs K ok pl H1 v d->RAs K ok pl H2 v d
 |_,_,.nil=>.nil
 |_,_,.cons e q=>.cons (RA.keep hk hl hm ho e) (RAs.keep hk hl hm ho q)
end
end
def Rel.ownL (R:Rel K fl G ow σ H δ):∀i b,ow i=some b->∃xs,H b=some (.lst xs):=λi b e=>by
 obtain⟨_,_,xs,_,_,h2,_⟩:=R.own i b e;exact⟨xs,h2⟩
def Rel.ownC (R:Rel K fl G ow σ H δ):∀i b,b∈ow.n i->Chd (H b):=λi b e=>(R.nt i b e).2.1
def yP {L:List Nat} (R:Rel K fl G ow σ H δ) (r:Rs K G.H0 ow Hb H (.B L) v (.list l)):∃a xs,v = .ref a/\SqL K H a xs /\
 ∀H2:Hp,(∀b o,H b=some o->(∀i,ow i=some b->i∈L)->(∀i,b∉ow.n i)->H2 b=some o)->SqL K H2 a xs/\RAs K (λb=>okA ow b/\H b≠none) true H2 xs l:=by
 rcases r with r|⟨i,hi,a,xs,ds,Y,rfl,e,Z,X⟩
 .cases r with
  |lst e k q=>exact⟨_,_,rfl,SqL.of e,λH2 hk=>⟨SqL.of (hk _ _ e (λi z=>absurd z (k.1 i)) k.2),RAs.keep hk R.ownL R.ownC (λb z=>z.1) q.track⟩⟩
  |lsk e k q=>exact⟨_,_,rfl,e.sq,λH2 hk=>⟨SqK.sq (by
   rcases e with⟨o,e⟩|e
   .exact .inl ⟨o,hk _ _ e (nm R.ownL e (by intro xs z;cases z)) (nm2 R.ownC e Chg.frz)⟩
   .exact .inr e),RAs.keep hk R.ownL R.ownC (λb z=>z.1) q.track⟩⟩
 .cases e;exact⟨a,xs,rfl,SqL.of Z,λH2 hk=>⟨SqL.of (hk _ _ Z (λj z=>by rwa[R.inj j i a z Y]) (λj z=>R.ns j i a z Y)),RAs.keep hk R.ownL R.ownC (λb z=>z.1) X.track⟩⟩
def iH{L:List Nat}(h:DE X fl (.B L) e f):DI X fl L tg e (nU f):=PI.imp (JB h) λσ H R' h=>by
 refine D3.ex4 h λG ow δ l R T q=>?_
 refine D3.ex1 (bind1 T) λd e1 e2=>?_
 cases d<;>first|(cases e2;done)|skip
 cases e2;refine⟨G,ow,δ,_,R,e1,λv H1 s r=>?_⟩;obtain⟨a,xs,rfl,U,keep⟩:=yP (R.grow s) r;refine⟨a,rfl,⟨xs,U⟩,q _ _ s λH2 k2 i=>?_⟩;obtain⟨k3,k4⟩:=keep H2 k2;refine⟨λd hd=>?_,λhl=>⟨xs,k3,by rwa[k4.length]⟩⟩;obtain⟨y,Y,W⟩:=k4.get hd;refine⟨⟨xs,y,k3,Y⟩,λx S Z=>?_⟩;obtain⟨e,V⟩:=Z;subst e;have:some y=some x:=Y.symm.trans (V xs k3)
 cases this;exact⟨Same.refl _,W⟩
def N7(lo hi:Int):(d_ lo hi).length=(hi-lo).toNat:=by simp[d_]
def Fz (lo hi:Int):VJ K ow L H1 (Itr lo (hi-lo).toNat) (d_ lo hi):=by
 intro H2 _ i;refine⟨λd hd=>?_,λhl=>by rw[N7]at hl;exact hl⟩;unfold d_ at hd;rw[bf]at hd;by_cases Z:i<(hi-lo).toNat
 .rw[cJ Z]at hd
  cases hd;refine⟨Z,λx X Y=>?_⟩;obtain⟨e,e2⟩:=Y;subst e e2;exact⟨Same.refl _,.int _⟩
 .rw[bK (by simpa using Z)]at hd
  cases hd
def tQ (h:ug m=true) : -(2^62)<=m/\m<2^62:=by
 unfold ug at h;rw[aV]at h;exact⟨of_decide_eq_true h.1,of_decide_eq_true h.2⟩
def mz{L:List Nat}{fa:FA}(O:Gl X "range")(hm:X.mg "range"=none)(h:DA X fl [a] fa)(J:starEach [a] X.env=[(false,eval a X.env)]:=by rfl):DI X fl L tg (.Call (.Name "range" p) [a] [] pos) (sy fa):=
 PI.imp (KD O hm h J) λσ H R' h=>by
 refine D3.ex4 h λG ow δ l R Z q=>?_
 refine D3.ex1 (bind1 Z) λds e1 e2=>?_
 split at e2
 .next j=>
  by_cases z:ug j=true
  .rw[if_pos z]at e2
   cases e2;refine⟨G,ow,δ,_,R,e1,λvs H1 s r=>?_⟩
   cases r with
   |cons r1 r2=>
    cases r2;obtain rfl:=r1.intE;refine⟨j,rfl,(tQ z).1,(tQ z).2,?_⟩;have w:=Fz (K:=X.K) (ow:=ow) (L:=L) (H1:=H1) 0 j;rw[uT]at w;exact q _ _ s w
  .rw[if_neg z]at e2
   cases e2
 .cases e2
def K6{L:List Nat}{fa:FA}(Y:Gl X "range")(hm:X.mg "range"=none)(h:DA X fl [a,b] fa)(O:starEach [a,b] X.env=[(false,eval a X.env),(false,eval b X.env)]:=by rfl)(J:starEach [b] X.env=[(false,eval b X.env)]:=by rfl):
 DI X fl L tg (.Call (.Name "range" p) [a,b] [] pos) (NZ fa):=PI.imp (KH Y hm h O J) λσ H R' h=>by
 refine D3.ex4 h λG ow δ l R Z q=>?_
 refine D3.ex1 (bind1 Z) λds e1 e2=>?_
 split at e2
 .next i j=>
  by_cases z:(ug i&&ug j)=true
  .rw[if_pos z]at e2
   cases e2;rw[aV]at z;refine⟨G,ow,δ,_,R,e1,λvs H1 s r=>?_⟩
   cases r with
   |cons r1 r2=>
    cases r2 with
    |cons r2 r3=>
     cases r3;obtain rfl:=r1.intE;obtain rfl:=r2.intE;exact⟨i,j,rfl,⟨(tQ z.1).1,(tQ z.1).2,(tQ z.2).1,(tQ z.2).2⟩,q _ _ s (Fz i j)⟩
  .rw[if_neg z]at e2
   cases e2
 .cases e2
def lock(L:List Nat)(fl:List Fl):List Fl:=fl.mapIdx λi x=>if x = .O/\i∈L then .L else x
def nF : (lock L fl)[i]? = (fl[i]?).map λx=>if x = .O/\i∈L then .L else x:=by
 unfold lock;rw[jT]
theorem N8 : (lock L fl)[i]? = some .A<->fl[i]? = some .A:=by
 rw[nF]
 cases h:fl[i]? with
 |none=>simp
 |some x=>
  cases x<;>simp
  by_cases z:i∈L<;>simp[z]
theorem Cy (h:(lock L fl)[i]? = some .O):fl[i]? = some .O/\i∉L:=by
 rw[nF]at h
 cases e:fl[i]? with
 |none=>rw[e]at h;simp at h
 |some x=>
  rw[e]at h
  cases x<;>simp at h
  by_cases z:i∈L
  .simp[z]at h
  .exact⟨rfl,z⟩
def Ig (h:fl[i]? = some .L):(lock L fl)[i]? = some .L:=by
 rw[nF,h];simp
def JK (h:fl[i]? = some .O) (hi:i∈L):(lock L fl)[i]? = some .L:=by
 rw[nF,h];simp[hi]
def JL (h:fl[i]? = some .O) (hi:i∉L):(lock L fl)[i]? = some .O:=by
 rw[nF,h];simp[hi]
theorem Cz : (lock L fl)[i]? = some .N<->fl[i]? = some .N:=by
 rw[nF]
 cases h:fl[i]? with
 |none=>simp
 |some x=>
  cases x<;>simp
  by_cases z:i∈L<;>simp[z]
theorem Ih : (lock L fl)[i]? = some .M<->fl[i]? = some .M:=by
 rw[nF]
 cases h:fl[i]? with
 |none=>simp
 |some x=>
  cases x<;>simp
  by_cases z:i∈L<;>simp[z]
theorem qm : isN (lock L fl)[i]? = isN fl[i]?:=by
 rw[nF]
 cases h:fl[i]? with
 |none=>rfl
 |some x=>
  cases x<;>simp[isN]
  by_cases z:i∈L<;>simp[z]
def Let(fl':List Fl)(ow:Ow)(b:Addr):Prop:=(∃j,ow j=some b/\fl'[j]? = some .O)\/∃j,b∈ow.n j/\fl'[j]? = some .N
open Classical in
def ghL(fl':List Fl)(G:Gh)(ow:Ow)(H:Hp):Gh:=⟨G.H0,λb=>if Let fl' ow b then none else H b,ow,ow.n,G.tb⟩
open Classical in
def nq {b:Addr} (h:¬Let fl' ow b):(ghL fl' G ow H).HF b=H b:=by
 unfold ghL;dsimp only;rw[if_neg h]
open Classical in
def Ii {b:Addr} (h:Let fl' ow b):(ghL fl' G ow H).HF b=none:=by
 unfold ghL;dsimp only;rw[if_pos h]
def Rel.lock (L:List Nat) (R:Rel K fl G ow σ H δ):Rel K (lock L fl) (ghL (lock L fl) G ow H) ow σ H δ:=by
 refine⟨λb o hb=>?_,λb o hb=>?_,R.len,λi a h=>?_,R.inj,λi h=>rfl,λi d h1 hn h2=>R.dat i d h1 (by rw[qm]at hn;exact hn) h2,λi d h1 hn h2 W=>R.oo i d h1 (by rw[qm]at hn;exact hn) (λz=>h2 (N8.mpr z)) W,λi a h=>?_,R.nd,R.ns,λi h=>rfl,λi d hn h1=>R.nr i d (by rw[qm]at hn;exact hn) h1⟩
 .have Y:G.H0 b=some o:=hb;rw[nq]
  .exact R.same0 b o Y
  .rintro(⟨j,e,_⟩|⟨j,e,_⟩)
   .have:=(R.own j b e).1;rw[Y]at this
    cases this
   .have:=(R.nt j b e).1;rw[Y]at this
    cases this
 .by_cases z:Let (D3.lock L fl) ow b
  .rw[Ii z]at hb;cases hb
  .rw[nq z]at hb;exact hb
 .obtain⟨U,Z,xs,ds,h1,h2,W,V⟩:=R.own i a h;refine⟨U,?_,xs,ds,h1,h2,W,V⟩;have out:(D3.lock L fl)[i]? = some .L->(ghL (D3.lock L fl) G ow H).HF a=H a:=λhl=>nq (by
   rintro(⟨j,e,X⟩|⟨j,e,X⟩)
   .rw[R.inj j i a e h,hl]at X
    cases X
   .exact R.ns j i a e h)
  rcases Z with⟨Z,_⟩|⟨Z,_⟩
  .by_cases hi:i∈L
   .exact .inr ⟨JK Z hi,xs,by rwa[out (JK Z hi)]⟩
   .exact .inl ⟨JL Z hi,Ii (.inl ⟨i,h,JL Z hi⟩)⟩
  .exact .inr ⟨Ig Z,xs,by rwa[out (Ig Z)]⟩
 .obtain⟨g1,g2,g3⟩:=R.nt i a h;refine⟨g1,g2,?_⟩;rcases g3 with⟨z,_⟩|z
  .exact .inl ⟨Cz.mpr z,Ii (.inr ⟨i,h,Cz.mpr z⟩)⟩
  .exact .inr (Ih.mpr z)
def Rel.unlock {L:List Nat} (R:Rel K fl G ow σ H δ) (R':Rel K (D3.lock L fl) (ghL (D3.lock L fl) G ow H) J σ' H' δ'):Rel K fl G J σ' H' δ':=by
 have sub:Same G.HF (ghL (D3.lock L fl) G ow H).HF:=λb o hb=>by
  rw[nq]
  .exact R.s1 b o hb
  .rintro(⟨j,e,X⟩|⟨j,e,X⟩)
   .rcases(R.own j b e).2.1 with⟨_,z⟩|⟨z,_⟩
    .rw[hb]at z;cases z
    .have:=(Cy X).1;rw[z]at this
     cases this
   .rcases(R.nt j b e).2.2 with⟨_,z⟩|z
    .rw[hb]at z;cases z
    .have:=Cz.mp X;rw[z]at this
     cases this
 refine⟨R.s0,sub.trans R'.s1,R'.len,λi a h=>?_,R'.inj,λi h=>?_,λi d h1 hn h2=>R'.dat i d h1 (by rwa[qm]) h2,λi d h1 hn h2 W=>R'.oo i d h1 (by rwa[qm]) (λz=>h2 (N8.mp z)) W,λi a h=>?_,R'.nd,R'.ns,λi h=>?_,λi d hn h1=>R'.nr i d (by rwa[qm]) h1⟩
 .obtain⟨V,Z,rest⟩:=R'.own i a h;refine⟨V,?_,rest⟩;rcases Z with⟨Z,Y⟩|⟨Z,_⟩
  .exact .inl ⟨(Cy Z).1,sub.free Y⟩
  .have e:=R'.pin i Z;rw[e]at h;exact(R.own i a h).2.1
 .have e:=R'.pin i (Ig h);rw[e];exact R.pin i h
 .obtain⟨g1,g2,g3⟩:=R'.nt i a h;rcases g3 with⟨z,Y⟩|z
  .exact⟨g1,g2,.inl ⟨Cz.mp z,sub.free Y⟩⟩
  .exact⟨g1,g2,.inr (Ih.mp z)⟩
 .have e:=R'.np i (Ih.mpr h);rw[e];exact R.np i h
def jW{L:List Nat}{T:List Nat} (hp:eu (model X.prog X.w) X.A X.env X.xe) (hc:X.calm=true) (hi:DI X fl L tg iter fi) (hg:DG X (lock L fl) T tg g) (hb:DSs X (lock L fl) body fs)
 (hs:∀x,foldedSetIterable iter X.env x=pure x:=by intro _;rfl):DS1 X fl (.For tg iter body [] pos) (pC fi g fs):=PS.imp (Nj hp hc hi hg hb hs) λDn σ H h=>by
 refine D3.ex4 h λG ow δ o F p q=>?_
 refine D3.ex1 (bind1 p) λl e1 e2=>?_
 refine⟨G,ow,δ,l,F,e1,λJ H1 s C=>?_⟩;have N:=F.grow s;have k:=N.lock L;refine⟨λi m σ' H'=>m=l.length-i/\∃Z δ',Rel X.K (lock L fl) (ghL (lock L fl) G ow H1) Z σ' H' δ'/\jj g fs (l.drop i) δ'=some o,⟨_,rfl,ow,δ,k,by simpa using e2⟩,?_⟩;rintro i m σ' H' ⟨rfl,Z,δ',R',hd⟩;have kept:∀b o,H1 b=some o->(∀i,ow i=some b->i∈L)->(∀i,b∉ow.n i)->H' b=some o:=λb o hb hl hn=>R'.s1 b o (by
  rw[nq]
  .exact hb
  .rintro(⟨j,e,r⟩|⟨j,e,_⟩)
   .exact(Cy r).2 (hl j e)
   .exact hn j e)
 obtain⟨y,B⟩:=C H' kept i;by_cases O:i<l.length
 .have Q:=k_ O;rw[Q,jj]at hd;refine D3.ex1 (bind1 hd) λδ1 e3 hd=>?_
  refine D3.ex1 (bind1 hd) λI e4 hd=>?_
  obtain⟨go,D⟩:=y l[i] (bA O);refine .inr ⟨go,λσ' H'=>∃Z δ',Rel X.K (lock L fl) (ghL (lock L fl) G ow H1) Z σ' H' δ'/\jj g fs (l.drop (i+1)) δ'=some o,λU H2 ⟨Y,W,R2,h2⟩=>⟨l.length-(i+1),by lia,rfl,Y,W,R2,h2⟩,λx H3 t=>?_⟩;obtain⟨u,r3⟩:=D x H3 t;have sub:∀b,okA ow b/\H1 b≠none->okA Z b:=λb z=>by
   obtain⟨P,M⟩:=z;refine⟨λj e=>?_,λj e=>?_⟩
   .rcases(R'.own j b e).2.1 with⟨_,R⟩|⟨R,_⟩
    .have:(ghL (lock L fl) G ow H1).HF b=H1 b:=nq (by rintro(⟨S,V,_⟩|⟨S,V,_⟩);exact P.1 S V;exact P.2 S V);rw[this]at R;exact M R
    .have V:Z j=ow j:=R'.pin j R;rw[V]at e;exact P.1 j e
   .rcases(R'.nt j b e).2.2 with⟨_,R⟩|w
    .have:(ghL (lock L fl) G ow H1).HF b=H1 b:=nq (by rintro(⟨S,V,_⟩|⟨S,V,_⟩);exact P.1 S V;exact P.2 S V);rw[this]at R;exact M R
    .have V:Z.n j=ow.n j:=R'.np j w;rw[V]at e;exact P.2 j e
  refine⟨_,Z,δ',_,δ1,R'.grow u,r3.imp sub (λz=>z),e3,λE a _=>⟨_,Z,δ1,I,a,e4,?_⟩⟩
  .cases I with
   |nx W=>exact λY U H2 R2=>⟨Y,W,R2,hd⟩
   |ct W=>exact λY U H2 R2=>⟨Y,W,R2,hd⟩
   |bk W=>cases hd;exact λY U H2 R2=>q Y U H2 (N.unlock R2)
   |rt d=>cases hd;exact q
   |ex c f v=>cases hd;exact q
 .have e:l.drop i=[]:=mJ (by lia);rw[e,jj]at hd
  cases hd;exact .inl ⟨B (by lia),q Z σ' H' (N.unlock R')⟩
theorem N_(J:eu (model X.prog X.w) X.A X.env X.xe)(O:DT X fl c ft)(hb:DSs X fl body fs):DS1 X fl (.While c body [] pos) (v5 ft fs):=PS.imp (Nh J O hb) λDn σ H h=>by
 refine D3.ex4 h λG ow δ o S T q=>?_
 obtain⟨n,hn⟩:=HW T;refine⟨λm σ' H'=>∃W δ',Rel X.K fl G W σ' H' δ'/\iJ ft fs m δ'=some o,⟨n,ow,δ,S,hn⟩,?_⟩;rintro m σ' H' ⟨W,δ',R',hw⟩
 cases m with
 |zero=>simp[iJ]at hw
 |succ m=>
  rw[iJ]at hw;refine D3.ex1 (bind1 hw) λt e1 hw=>?_
  refine⟨G,W,δ',t,R',e1,λH1 s=>?_⟩
  cases t with
  |false=>
   rw[if_neg dZ]at hw ⊢
   cases hw;exact q W σ' H1 (R'.grow s)
  |true=>
   rw[if_pos rfl]at hw ⊢;refine D3.ex1 (bind1 hw) λU e2 hw=>?_
   refine⟨λV H2=>∃Y Z,Rel X.K fl G Y V H2 Z/\iJ ft fs m Z=some o,λV H2 ⟨Y,Z,R2,h2⟩=>⟨m,mW m,Y,Z,R2,h2⟩,G,W,δ',U,R'.grow s,e2,?_⟩
   cases U with
   |nx Z=>exact λY V H2 R2=>⟨Y,Z,R2,hw⟩
   |ct Z=>exact λY V H2 R2=>⟨Y,Z,R2,hw⟩
   |bk Z=>cases hw;exact q
   |rt d=>cases hw;exact q
   |ex c f v=>cases hw;exact q
end
end D3
variable{g':D3.D->D3.D->Option D3.D}
namespace D3
open L2 My
def notStar:Expr->Bool
 | .Starred _ _=>false
 |_=>true
def fZ (h:notStar e=true):starEach (e::b) env=(false,eval e env)::starEach b env:=by
 cases e<;>first|rfl|cases h
theorem sH (h:b.all notStar=true):(backTo pos (starEach b env)).any (·.1)=false:=by
 induction b with
 |nil=>rfl
 |cons e b Z=>
  rw[pU,aV]at h;rw[fZ h.1];have:=Z h.2;unfold backTo at this ⊢;rw[bJ,lB,this];rfl
def isR:Kd->Bool
 | .P=>true
 | .A=>true
 | .R=>true
 | .C=>true
 |_=>false
def K7(H0:Hp)(ow:Ow)(Hb:Hp):Kd->Ok
 | .P=>ok1
 | .A=>okA ow
 | .R=>okN H0
 |_=>okN Hb
def Sd:Kd->Bool
 | .P=>true
 | .A=>true
 |_=>false
section
variable{H0 Hb Hc H:Hp}{ow:Ow}{v:V}{d:D}{k:Kd}
def Rs.ra(hk:isR k=true)(h:Rs K H0 ow Hb H k v d):RA K (K7 H0 ow Hb k) (Sd k) H v d:=by
 cases k<;>first|exact h|cases hk
def Rs.of_ra(hk:isR k=true)(h:RA K (K7 H0 ow Hb k) (Sd k) H v d):Rs K H0 ow Hb H k v d:=by
 cases k<;>first|exact h|cases hk
def Bh(s:Same Hb Hc)(hk:isR k=true):∀a,K7 H0 ow Hc k a->K7 H0 ow Hb k a:=λa z=>by
 cases k<;>first|exact z|exact s.free z|cases hk
theorem Rs.of_flat(J:flat d=true)(h:RA K ok0 false H v d):Rs K H0 ow Hb H k v d:=by
 cases k with
 |P=>exact RA.flat J h
 |B L=>exact .inl (RA.flat J h)
 |A=>exact RA.flat J h
 |R=>exact RA.flat J h
 |F=>exact .inl ⟨J,h⟩
 |C=>exact RA.flat J h
 |FC=>exact .inl ⟨J,h⟩
 |T=>
  obtain⟨as,h1,_,Z⟩:=RA.rt h
  cases as with
  |nil=>exact⟨[],h1,.nil,λ_ z=>by cases z⟩
  |cons a r=>exact(Z a aD).elim
theorem Rs.back(s:Same Hb Hc)(h:Rs K H0 ow Hc H k v d):Rs K H0 ow Hb H k v d:=by
 cases k with
 |P=>exact h
 |B L=>exact h
 |A=>exact h
 |R=>exact h
 |F=>
  rcases h with h|⟨a,xs,ds,h1,h2,Z,Y⟩
  .exact .inl h
  .exact .inr ⟨a,xs,ds,h1,h2,s.free Z,Y⟩
 |C=>exact RA.imp (λa z=>s.free z) (λz=>z) h
 |FC=>
  rcases h with h|⟨a,xs,ds,h1,h2,Z,Y,X⟩
  .exact .inl h
  .exact .inr ⟨a,xs,ds,h1,h2,s.free Z,Y,X.imp (λb z=>⟨s.free z.1,z.2⟩) (λz=>z)⟩
 |T=>
  obtain⟨as,h1,h2,Z⟩:=h;exact⟨as,h1,h2,λa z=>s.free (Z a z)⟩
end
def tDB(K:PySem.W.Frag)(fl:List Fl)(k:Kd)(f:FA):TA:=λσ H Q=>∃G ow δ ds,Rel K fl G ow σ H δ/\f δ=some ds/\∀vs H',Same H H'->RAs K (K7 G.H0 ow H k) (Sd k) H' vs ds->Q vs H'
abbrev DB(X:Cx)(fl:List Fl)(k:Kd)(es:List Expr)(f:FA):Prop:=PA X es (tDB X.K fl k f)
section
variable{X:Cx}{fl:List Fl}{a b c:Expr}{rest:List Expr}{k:Kd}{f fa:FE}
def Oa:DB X fl k [] aJ:=PA.imp nR λσ H Q h=>by
 refine D3.ex4 h λG ow δ ds R Z q=>?_
 cases Z;exact q [] H (Same.refl H) .nil
def Sg (hk:isR k=true) (h:DE X fl k e f) (O:DB X fl k es m) (J:starEach (e::es) X.env=(false,eval e X.env)::starEach es X.env:=by exact fZ rfl):DB X fl k (e::es) (aj f m):=PA.imp (iV h O J) λσ H Q h=>by
 refine D3.ex4 h λG ow δ ds R Z q=>?_
 refine D3.ex1 (bind1 Z) λd e1 Z=>?_
 refine D3.ex1 (bind1 Z) λr e2 Z=>?_
 cases Z;refine⟨G,ow,δ,d,R,e1,λv H1 s1 r1=>⟨G,ow,δ,r,R.grow s1,e2,λvs H2 s2 r2=>?_⟩⟩;exact q _ H2 (s1.trans s2) (.cons ((r1.ra hk).same s2) (r2.imp (Bh s1 hk) (λz=>z)))
def vh(h:DB X fl .P es J):DA X fl es J:=PA.imp h λσ H Q h=>by
 refine D3.ex4 h λG ow δ ds R Z q=>?_
 exact⟨G,ow,δ,ds,R,Z,λvs H' s r=>q vs H' s r⟩
def dh{x1}{fa:FA}(hk:isR k=true)(h:DB X fl k es fa):DE X fl k (.Tuple es x1 pos) (dTup fa):=PE.imp (Nr h) λσ H Q h=>by
 refine D3.ex4 h λG ow δ d R Y q=>?_
 refine D3.ex1 (bind1 Y) λl e1 e2=>?_
 by_cases z:l.length<=sizeLine
 .rw[if_pos z]at e2
  cases e2;refine⟨G,ow,δ,l,R,e1,λvs H' s r=>⟨by rwa[r.length],λp Z=>?_⟩⟩;have g:=eO Z (.tup vs);exact q _ _ (s.trans g) (Rs.of_ra hk (.tup dH (r.same g)))
 .rw[if_neg z]at e2
  cases e2
def iY{fa:FA}(h:DB X fl .A es fa):DE X fl .F (.List es pos) (fY fa):=PE.imp (HD h) λσ H Q h=>by
 refine D3.ex4 h λG ow δ d R Y q=>?_
 refine D3.ex1 (bind1 Y) λl e1 e2=>?_
 by_cases z:l.length<=sizeLine
 .rw[if_pos z]at e2
  cases e2;refine⟨G,ow,δ,l,R,e1,λvs H' s r=>⟨by rwa[r.length],λp Z=>?_⟩⟩;have g:=eO Z (.lst vs);exact q _ _ (s.trans g) (.inr ⟨p,vs,l,rfl,rfl,s.free Z,dH,(r.track.imp (λb w=>⟨w.1,λe=>w.2 (e▸Z)⟩) (λz=>z)).same g⟩)
 .rw[if_neg z]at e2
  cases e2
def jC{fa:FA}(h:DB X fl .C es fa):DE X fl .FC (.List es pos) (fY fa):=PE.imp (HD h) λσ H Q h=>by
 refine D3.ex4 h λG ow δ d R Y q=>?_
 refine D3.ex1 (bind1 Y) λl e1 e2=>?_
 by_cases z:l.length<=sizeLine
 .rw[if_pos z]at e2
  cases e2;refine⟨G,ow,δ,l,R,e1,λvs H' s r=>⟨by rwa[r.length],λp Z=>?_⟩⟩;have g:=eO Z (.lst vs);exact q _ _ (s.trans g) (.inr ⟨p,vs,l,rfl,rfl,s.free Z,dH,(r.track.imp (λb w=>⟨w.1,λe=>w.2 (e▸Z)⟩) (λz=>z)).same g⟩)
 .rw[if_neg z]at e2
  cases e2
def RAs.at{ok:Ok}{i:Int}(r:RAs K ok pl H vs l)(h:pAt l i=some d):∃v,atI vs i=some v/\RA K ok pl H v d:=by
 unfold atI;refine D3.ex1 (bind1 h) λj e1 e2=>?_
 obtain⟨y,e3,Z⟩:=r.get e2;exact⟨y,by rwa[r.length,show ixN l.length i=some j from e1],Z⟩
def Zu (ha:DE X fl (.B L) a fa) (hb:DE X fl .P b fb) (J:Cm b):DE X fl .A (.Subscript a b pos) (dOp gIx fa fb):=PE.imp (Zi WW ha hb J) λσ H Q h=>by
 refine D3.ex4 h λG ow δ d R S q=>?_
 refine D3.ex2 (Fv S) λx y e1 e2 e3=>?_
 refine⟨G,ow,δ,x,R,e1,λv H1 s1 r1=>⟨G,ow,δ,y,R.grow s1,e2,λu H2 s2 r2=>?_⟩⟩;unfold gIx at e3;split at e3
 .next l i=>
  obtain rfl:=RA.intE r2;rcases r1 with r1|⟨U,_,p,xs,ds,T,rfl,Z,Y,W⟩
  .obtain⟨p,xs,rfl,Y,W⟩:=RA.lstE (RA.same s2 r1);obtain⟨z,Z,V⟩:=W.at e3;exact .inl ⟨p,xs,i,z,rfl,rfl,Y,Z,q z H2 (s1.trans s2) V⟩
  .cases Z;obtain⟨z,Z,V⟩:=(W.same s2).at e3;exact .inl ⟨p,xs,i,z,rfl,rfl,SqL.of (s2 _ _ Y),Z,q z H2 (s1.trans s2) V⟩
 .next l i=>
  obtain rfl:=RA.intE r2;rcases r1 with r1|⟨U,_,p,xs,ds,T,rfl,Z,Y,W⟩
  .obtain⟨p,xs,rfl,Y,W⟩:=RA.tupE (RA.same s2 r1);obtain⟨z,Z,V⟩:=W.at e3;exact .inr (.inl ⟨p,xs,i,z,rfl,rfl,Y,Z,q z H2 (s1.trans s2) V⟩)
  .cases Z
 .cases e3
def rC (h:DE X fl k a f):DE X fl k (.BoolOp J [a] pos) f:=Wr h
def mO(h1:DE X fl .P a fa)(h2:DE X fl k (.BoolOp .And (b::rest) pos) fb):DE X fl k (.BoolOp .And (a::b::rest) pos) (ud fa fb):=PE.imp (Ws h1 h2) λσ H Q h=>by
 refine D3.ex4 h λG ow δ d R Z q=>?_
 refine D3.ex1 (bind1 Z) λx e1 e2=>?_
 refine⟨G,ow,δ,x,R,e1,λv H1 s1 r1=>?_⟩;split at e2
 .obtain rfl:=RA.blE r1;exact⟨true,rfl,yC ⟨G,ow,δ,d,R.grow s1,e2,λu H2 s2 r2=>q u H2 (s1.trans s2) (r2.back s1)⟩⟩
 .obtain rfl:=RA.blE r1
  cases e2;exact⟨false,rfl,yx (q _ H1 s1 (Rs.of_flat rfl (.bl _)))⟩
 .cases e2
def Ob(h1:DE X fl .P a fa):DE X fl .FC (.UnaryOp .Not a pos) (R3 fa):=PE.imp (Wt h1) λσ H Q h=>by
 refine D3.ex4 h λG ow δ d R Z q=>?_
 refine D3.ex1 (bind1 Z) λx e1 e2=>?_
 refine⟨G,ow,δ,x,R,e1,λv H1 s1 r1=>?_⟩;split at e2
 .next c=>
  obtain rfl:=RA.blE r1
  cases e2;exact⟨c,rfl,q _ H1 s1 (Rs.of_flat rfl (.bl _))⟩
 .cases e2
theorem jD(h:DT X fl a ft):DT X fl (.UnaryOp .Not a pos) (ig ft):=PT.imp (M7 h) λσ H Q h=>by
 refine D3.ex4 h λG ow δ t R Z q=>?_
 unfold ig at Z
 cases e:ft δ with
 |none=>rw[e]at Z;cases Z
 |some x=>
  rw[e]at Z
  cases Z;exact⟨G,ow,δ,x,R,e,λH' s=>q H' s⟩
def vm(h:DT X fl a ft):DW X fl (.BoolOp .And [a] pos) ft:=Ru h
def o8(h:DT X fl a ft):DW X fl (.BoolOp .Or [a] pos) ft:=M6 h
theorem yQ(h1:DT X fl a ft)(h2:DW X fl (.BoolOp .And (b::rest) pos) gt):DW X fl (.BoolOp .And (a::b::rest) pos) (rW ft gt):=PW.imp (Wq h1 h2) λσ H Q h=>by
 refine D3.ex4 h λG ow δ t R Z q=>?_
 refine D3.ex1 (bind1 Z) λx e1 e2=>?_
 refine⟨G,ow,δ,x,R,e1,λH1 s1=>?_⟩
 cases x with
 |true=>exact yC ⟨G,ow,δ,t,R.grow s1,e2,λH2 s2=>q H2 (s1.trans s2)⟩
 |false=>cases e2;exact yx (q H1 s1)
theorem mV(h1:DT X fl a ft)(h2:DW X fl (.BoolOp .Or (b::rest) pos) gt):DW X fl (.BoolOp .Or (a::b::rest) pos) (tOr ft gt):=PW.imp (VB h1 h2) λσ H Q h=>by
 refine D3.ex4 h λG ow δ t R Z q=>?_
 refine D3.ex1 (bind1 Z) λx e1 e2=>?_
 refine⟨G,ow,δ,x,R,e1,λH1 s1=>?_⟩
 cases x with
 |true=>cases e2;exact yC (q H1 s1)
 |false=>exact yx ⟨G,ow,δ,t,R.grow s1,e2,λH2 s2=>q H2 (s1.trans s2)⟩
def uh(h:DW X fl a ft):DT X fl a ft:=PW.pt h
def FJ{O J:eA}{r r':R2}{g:D->D->Option D}(ho:OpR X (compareOp O) r)(ho':OpR X (compareOp J) r')(hb:BrO X.K r g)(hb':BrO X.K r' g')(h1:DE X fl .P a fa)(h2:DE X fl .P b fb)(h3:DE X fl .P c fc)
 (hm:lastMarks [O,J] [b,c]=false:=by with_unfolding_all rfl):DE X fl .FC (.Compare a [O,J] [b,c] pos) (o7 g g' fa fb fc):=PE.imp (Np ho ho' h1 h2 h3 hm) λσ H Q h=>by
 refine D3.ex4 h λG ow δ d R Z q=>?_
 refine D3.ex1 (bind1 Z) λx e1 Z=>?_
 refine D3.ex1 (bind1 Z) λy e2 Z=>?_
 refine D3.ex1 (bind1 Z) λz e3 Z=>?_
 refine⟨G,ow,δ,x,R,e1,λv H1 s1 r1=>⟨G,ow,δ,y,R.grow s1,e2,λu H2 s2 r2=>?_⟩⟩;refine hb H2 v u x y z _ (RA.same s2 r1) r2 e3 λS V Y=>?_
 split at Z
 .obtain rfl:=Y.blE;refine D3.ex1 (bind1 Z) λw e4 e5=>?_
  refine⟨true,rfl,yC ⟨G,ow,δ,w,R.grow (s1.trans s2),e4,λT U W r3=>?_⟩⟩;exact hb' U u T y w d Q (RA.same W r2) r3 e5 λz V Y=>q z U (s1.trans (s2.trans W)) (.inl ⟨V,Y⟩)
 .obtain rfl:=Y.blE
  cases Z;exact⟨false,rfl,yx (q _ H2 (s1.trans s2) (.inl ⟨rfl,.bl _⟩))⟩
 .cases Z
def K8{op O J:eA}{r r' r'':R2}{g g'':D->D->Option D} (ho:OpR X (compareOp op) r) (ho':OpR X (compareOp O) r') (ho'':OpR X (compareOp J) r'') (hb:BrO X.K r g) (hb':BrO X.K r' g') (hb'':BrO X.K r'' g'') (h1:DE X fl .P a fa) (h2:DE X fl .P b fb) (h3:DE X fl .P c fc) (h4:DE X fl .P m q0)
 (hm:lastMarks [op,O,J] [b,c,m]=false:=by with_unfolding_all rfl):DE X fl .FC (.Compare a [op,O,J] [b,c,m] pos) (xQ g g' g'' fa fb fc q0):=PE.imp (K3 ho ho' ho'' h1 h2 h3 h4 hm) λσ H Q h=>by
 refine D3.ex4 h λG ow δ dd R Z q=>?_
 refine D3.ex1 (bind1 Z) λx e1 Z=>?_
 refine D3.ex1 (bind1 Z) λy e2 Z=>?_
 refine D3.ex1 (bind1 Z) λz e3 Z=>?_
 refine⟨G,ow,δ,x,R,e1,λv H1 s1 r1=>⟨G,ow,δ,y,R.grow s1,e2,λu H2 s2 r2=>?_⟩⟩;refine hb H2 v u x y z _ (RA.same s2 r1) r2 e3 λB S V=>?_
 split at Z
 .obtain rfl:=V.blE;refine D3.ex1 (bind1 Z) λw e4 Z=>?_
  refine D3.ex1 (bind1 Z) λI e5 Z=>?_
  refine⟨true,rfl,yC ⟨G,ow,δ,w,R.grow (s1.trans s2),e4,λU M W r3=>?_⟩⟩;refine hb' M u U y w I _ (RA.same W r2) r3 e5 λL E Y=>?_
  split at Z
  .obtain rfl:=Y.blE;refine D3.ex1 (bind1 Z) λt e6 C=>?_
   refine⟨true,rfl,yC ⟨G,ow,δ,t,R.grow (s1.trans (s2.trans W)),e6,λtv N T F=>?_⟩⟩;exact hb'' N U tv w t dd Q (RA.same T r3) F C λz S V=>q z N (s1.trans (s2.trans (W.trans T))) (.inl ⟨S,V⟩)
  .obtain rfl:=Y.blE
   cases Z;exact⟨false,rfl,yx (q _ M (s1.trans (s2.trans W)) (.inl ⟨rfl,.bl _⟩))⟩
  .cases Z
 .obtain rfl:=V.blE
  cases Z;exact⟨false,rfl,yx (q _ H2 (s1.trans s2) (.inl ⟨rfl,.bl _⟩))⟩
 .cases Z
def Ij (r:RA K ok pl H v d):decide (v = .non)=isNone d:=by
 cases r<;>rfl
def W6{j pos'}(h:DE X fl .P a f):DE X fl .FC (.Compare a [.Is] [.Constant .none j pos'] pos) (dUn v8 f):=PE.imp (Wo (MP h)) λσ H Q h=>by
 refine D3.ex4 h λG ow δ d R Z q=>?_
 refine D3.ex1 (bind1 Z) λx e1 e2=>?_
 cases e2;refine⟨G,ow,δ,x,R,e1,λv H1 s1 r1=>?_⟩;show Q (.bl (decide (v = .non))) H1;rw[Ij (RA.same (Same.refl H1) r1)];exact q _ H1 s1 (.inl ⟨rfl,.bl _⟩)
def BrC(K:PySem.W.Frag)(r:List V->Hp->VK->Prop)(g:List D->Option D):Prop:=∀(H:Hp)(xs:List V)(ds:List D)(d:D)(Q:VK),RAs K ok1 true H xs ds->g ds=some d->(∀v,flat d=true->RA K ok0 false H v d->Q v H)->r xs H Q
def dw{id:String}{r:List V->Hp->VK->Prop}{g:List D->Option D}{fa:FA}(hc:nA X (.builtin id) r)(hb:BrC X.K r g)(hg:Gl X x)(hm:X.mg x=none)(J:bootBuiltins x=some (.builtin id))(ha:DB X fl .P (e::es) fa)(hn:x≠"__name__" := by decide)(Y:(x==("__debug__":Str))=false:=by decide)
 (he:starEach (e::es) X.env=(false,eval e X.env)::starEach es X.env:=by exact fZ rfl) (O:(backTo pos (starEach es X.env)).any (·.1)=false:=by exact sH rfl):DE X fl .FC (.Call (.Name x p) (e::es) [] pos) (dCall g fa):=
 PE.imp (qj hc hg hm J ha hn Y he O) λσ H Q h=>by
 refine D3.ex4 h λG ow δ d R U q=>?_
 refine D3.ex1 (bind1 U) λds e1 e2=>?_
 exact⟨G,ow,δ,ds,R,e1,λvs H' s W=>hb H' vs ds d Q W e2 λv J Z=>q v H' s (.inl ⟨J,Z⟩)⟩
def jG:BrC K (λxs H Q=>∃p ys,xs=[.ref p]/\(SqL K H p ys\/SqT K H p ys)/\Q (.int ys.length) H) jk:=by
 intro H xs ds d Q r e q;unfold jk at e;split at e
 .next l=>
  cases e
  cases r with
  |cons r1 r2=>
   cases r2;obtain⟨a,ys,rfl,Z,Y⟩:=r1.lstE;refine⟨a,ys,rfl,.inl Z,?_⟩;rw[Y.length];exact q _ rfl (.int _)
 .next l=>
  cases e
  cases r with
  |cons r1 r2=>
   cases r2;obtain⟨a,ys,rfl,Z,Y⟩:=r1.tupE;refine⟨a,ys,rfl,.inr Z,?_⟩;rw[Y.length];exact q _ rfl (.int _)
 .cases e
def wA:BrC K (λxs H Q=>∃i j,xs=[.int i,.int j]/\Q (.int (if j>i then j else i)) H) sE:=by
 intro H xs ds d Q r e q;unfold sE at e;split at e
 .cases e
  cases r with
  |cons r1 r2=>
   cases r2 with
   |cons r2 r3=>
    cases r3;obtain rfl:=r1.intE;obtain rfl:=r2.intE;exact⟨_,_,rfl,q _ rfl (.int _)⟩
 .cases e
def uK:BrC K (λxs H Q=>∃i j,xs=[.int i,.int j]/\Q (.int (if j<i then j else i)) H) uo:=by
 intro H xs ds d Q r e q;unfold uo at e;split at e
 .cases e
  cases r with
  |cons r1 r2=>
   cases r2 with
   |cons r2 r3=>
    cases r3;obtain rfl:=r1.intE;obtain rfl:=r2.intE;exact⟨_,_,rfl,q _ rfl (.int _)⟩
 .cases e
def Sq(d:D):tyD d="NoneType"\/tyD d="bool"\/tyD d="int"\/tyD d="str"\/tyD d="list"\/tyD d="tuple"\/tyD d="dict" := by
 cases d<;>simp[tyD]
def aj1(K:PySem.W.Frag):List V->Hp->VK->Prop:=λxs H Q=>∃x c d,xs=[x,.ty c]/\(c="int"\/c="bool"\/c="tuple"\/c="list"\/c="str")/\RA K ok1 true H x d/\Q (.bl (isT c (tyD d))) H
theorem Od:nA X (.builtin "isinstance") (aj1 X.K):=by
 intro pins s σ H xs us Q I r h;obtain⟨x,c,d,rfl,R,ra,q⟩:=h;obtain⟨u,P,rfl,Z,T⟩:=vals2 r
 cases T;have kn:=W2 (K:=X.K) R (Sq d);have fin:∀tk,EP X pins σ Q (.bool (isT c (tyD d))) {s with toks:=tk}:=λtk=>⟨.bl _,H,I.tok _,rfl,q⟩
 cases ra with
 |non=>cases(show u=cS from Z);exact PySem.W.kia_one PySem.W.kitx_none I.kIn dy kn (λz=>nomatch z) fin
 |bl b=>cases(show u=dE b from Z);exact PySem.W.kia_one PySem.W.kitx_bool I.kIn dy kn (λz=>nomatch z) fin
 |int i=>obtain⟨t,z⟩:=(show ∃t,u=ee i t from Z);cases z;exact PySem.W.kia_one PySem.W.kitx_int I.kIn dy kn (λz=>nomatch z) fin
 |str y=>obtain⟨t,z⟩:=(show ∃t,u=ew y t from Z);cases z;exact PySem.W.kia_one PySem.W.kitx_str I.kIn dy kn (λz=>nomatch z) fin
 | @lst a xs ds e k U=>
  cases(show u=c0 a from Z);obtain⟨its,_,⟨o,n,e1,e2,_⟩,_⟩:=I.list (SqL.of e);exact PySem.W.kia_one PySem.W.kitx_list I.kIn ⟨_,e1,e2⟩ kn (λz=>nomatch z) fin
 | @lsk a xs ds e k U=>
  cases(show u=c0 a from Z);obtain⟨its,_,⟨o,n,e1,e2,_⟩,_⟩:=I.list e.sq;exact PySem.W.kia_one PySem.W.kitx_list I.kIn ⟨_,e1,e2⟩ kn (λz=>nomatch z) fin
 | @tup a xs ds e U=>
  cases(show u=c0 a from Z);obtain⟨its,_,⟨o,e1,e2,_⟩,_⟩:=I.tuple e.sq;exact PySem.W.kia_one PySem.W.kitx_tuple I.kIn ⟨_,e1,e2⟩ kn (λz=>nomatch z) fin
 | @dic a V kvs e g k=>
  rcases g.or with⟨ks,z⟩|⟨ks,z⟩
  .rw[z]at e;exact Ay I Z (TyOf.dK e) kn fin
  .rw[z]at e;exact Ay I Z (TyOf.dT e) kn fin
 | @dik a V kvs Y e g k=>
  cases(show u=c0 a from Z);have Y:=(show iB X.prog X.w H s.heap a V from(show L2.Rd H a V from .inr ⟨_,e⟩).ok I.hok);rcases g.or with⟨ks,z⟩|⟨ks,z⟩
  .rw[z]at Y;obtain⟨_,_,vs,_,dd⟩:=Y;obtain⟨S,_,_,h1,h2,_⟩:=dd;exact PySem.W.kia_one PySem.W.kitx_dict I.kIn ⟨_,h1,h2.1⟩ kn (λz=>nomatch z) fin
  .rw[z]at Y;obtain⟨_,_,xs,_,S,_,_,h1,h2,_⟩:=Y;exact PySem.W.kia_one PySem.W.kitx_dict I.kIn ⟨_,h1,h2.1⟩ kn (λz=>nomatch z) fin
def sI (hc:T="int"\/T="bool"\/T="tuple"\/T="list"\/T="str") (h:DE X fl .P a f) (hg:Gl X "isinstance") (hm:X.mg "isinstance"=none) (hg':Gl X x) (Z:X.mg x=none) (J:bootBuiltins x=some (.type T))
 (Y:x≠"__name__" := by decide) (hd':(x==("__debug__":Str))=false:=by decide)
 (he:starEach [a,.Name x p'] X.env=(false,eval a X.env)::starEach [.Name x p'] X.env:=by rfl) (he2:starEach [.Name x p'] X.env=(false,eval (.Name x p') X.env)::starEach [] X.env:=by rfl) (O:(backTo pos (starEach [.Name x p'] X.env)).any (·.1)=false:=by rfl) :
 DE X fl .FC (.Call (.Name "isinstance" p) [a,.Name x p'] [] pos) (dUn (gIs T) f):=
 PE.imp (qj Od hg hm cq (iV h (iV (Jy (v:=.ty T) hg' Z J rfl Y hd') nR he2) he) (by decide) (by decide) he O) λσ H Q h=>by
 refine D3.ex4 h λG ow δ d R W q=>?_
 refine D3.ex1 (bind1 W) λx e1 e2=>?_
 cases e2;exact⟨G,ow,δ,x,R,e1,λv H1 s1 r1=>⟨v,T,x,rfl,hc,r1,q _ H1 s1 (.inl ⟨rfl,.bl _⟩)⟩⟩
def wC(h:DE X fl .P a f):DE X fl .FC (.UnaryOp .USub a pos) (dUn Cu f):=PE.imp (Ze WM h) λσ H Q h=>by
 refine D3.ex4 h λG ow δ d R Z q=>?_
 refine D3.ex1 (bind1 Z) λx e1 e2=>?_
 refine⟨G,ow,δ,x,R,e1,λv H1 s1 r1=>?_⟩;unfold Cu at e2;split at e2
 .cases e2;obtain rfl:=RA.intE r1;exact⟨_,rfl,q _ H1 s1 (.inl ⟨rfl,.int _⟩)⟩
 .cases e2
end
def spD(K:PySem.W.Frag)(F:List D->Option D):Sp:=λvs H Q _=>∃ds d,(Tb H/\RAs K ok1 true H vs ds)/\F ds=some d/\∀v H',Same H H'->RA K (okN H) false H' v d->Q v H'
section
variable{st:Stmt}{k:Nat}{fs:FS}{fl:List Fl}
def jw(p:Nat)(O:∀i,i<p->fl[i]? = some .A)(hl:ds.length=p)(Y:p<=N.length)(J:Tb H/\RAs K ok1 true H vs ds):
 Rel K fl ⟨H,H,λ_=>none,λ_=>[],J.1⟩ ow0 (L2.start N vs) H (ds.map (λd=>some (.d d))++aW (N.length-p) none):=by
 have r:=J.2;have Z:vs.length=p:=by rwa[r.length]
 have get:∀i d,(ds.map (λd=>some (U.d d))++aW (N.length-p) none)[i]? = some (some (.d d))->i<p/\ds[i]? = some d:=λi d h=>by
  by_cases hi:i<p
  .rw[eN (by rwa[au,hl]),bf]at h
   cases e:ds[i]? with
   |none=>rw[e]at h;cases h
   |some z=>rw[e]at h;cases h;exact⟨hi,rfl⟩
  .rw[d7 (by rw[au,hl];lia),fJ]at h;split at h<;>cases h
 refine⟨Same.refl H,Same.refl H,?_,λi a h=>(by cases h),λi j a h=>(by cases h),λi h=>rfl,λi d h _ _=>?_,λi d h _ h2 _=>?_,λi a h=>(by cases h),λi j a h=>(by cases h),λi j a h=>(by cases h),λi h=>rfl,λi d hn h=>?_⟩
 .unfold L2.start;simp only[bx,au,cC,Z,hl]
 .obtain⟨hi,e⟩:=get i d h;obtain⟨v,e1,e2⟩:=r.get e;refine⟨v,?_,e2.imp (λ_ _=>⟨λi z=>(by cases z),λi z=>(by cases z)⟩) (λz=>z)⟩;unfold L2.start;rw[eN (by rwa[au,Z]),bf,e1];rfl
 .exact absurd (O i (get i d h).1) h2
 .rw[O i (get i d h).1]at hn
  cases hn
end
section
variable{X:Cx}{fl:List Fl}{F:List D->Option D}{fa:FA}
def bC(h:Has X.prog X.w X.K X.mg X.base n x ps (spD X.K F))(Y:Room n X.A)(ha:DB X fl .P (e::es) fa)(Z:Gl X x:=by rfl)(O:(x==("__debug__":Str))=false:=by decide)
 (he:starEach (e::es) X.env=(false,eval e X.env)::starEach es X.env:=by exact fZ rfl) (J:(backTo pos (starEach es X.env)).any (·.1)=false:=by exact sH rfl) :
 DE X fl .C (.Call (.Name x p) (e::es) [] pos) (dCall F fa):=PE.imp (Fb h Y ha Z O he J) λσ H Q h=>by
 refine D3.ex4 h λG ow δ d R W q=>?_
 refine D3.ex1 (bind1 W) λds e1 e2=>?_
 refine⟨G,ow,δ,ds,R,e1,λvs H' s r=>?_⟩;show spD X.K F (vs++[]) H' Q E0;rw[dN];exact⟨ds,d,⟨R.tb.same s,r⟩,e2,λv H2 s2 r2=>q v H2 (s.trans s2) (RA.imp (λa z=>s.free z) (λz=>z) r2)⟩
end
end D3
variable{st:Stmt}
namespace D3
open L2 My
section
variable{X:Cx}{fl fl':List Fl}{a b c elt:Expr}{ifs:List Expr}{k:Kd}{f fa:FE}{L TT:List Nat}{fi:FA}{g:FG}
def oH:PTs X [] (tDT X.K fl D3.jV):=λpins s σ H Q I h=>by
 refine D3.ex4 h λG ow δ b R Z q=>?_
 cases Z;exact RX pins s σ H Q I (q H (Same.refl H))
def Sv{σ:St}{H1:Hp}(t:Nat)(ix:List Nat)(J:∀i,i<t+ix.length->fl'[i]? = some .A)(R:Rel K fl G ow σ H δ)(s:Same H H1):
 Rel K fl' ⟨H,H,λ_=>none,λ_=>[],R.tb⟩ ow0 (z_ t ix σ) H1 (jR t ix δ):=by
 have get:∀i d,(jR t ix δ)[i]? = some (some (.d d))->i<t+ix.length/\∃j,ix[i-t]? = some j/\t<=i/\δ[j]? = some (some (.d d)):=λi d h=>by
  unfold jR at h;by_cases hi:i<t
  .rw[eN (by rwa[cC]),fJ,if_pos hi]at h
   cases h
  .rw[d7 (by rw[cC];lia),cC,bf]at h
   cases e:ix[i-t]? with
   |none=>rw[e]at h;cases h
   |some j=>
    rw[e]at h;have hl:i-t<ix.length:=by
     rcases mH (i-t) ix.length with z|z
     .exact z
     .rw[bK z]at e;cases e
    refine⟨by lia,j,rfl,by lia,?_⟩;have h':(δ[j]?).getD none=some (.d d):=by simpa using h
    cases q:δ[j]? with
    |none=>rw[q]at h';cases h'
    |some o=>rw[q]at h';simp at h';rw[h']
 refine⟨Same.refl H,s,?_,λi a h=>(by cases h),λi j a h=>(by cases h),λi h=>rfl,λi d h _ _=>?_,λi d h _ h2 _=>absurd (J i (get i d h).1) h2,λi a h=>(by cases h),λi j a h=>(by cases h),λi j a h=>(by cases h),λi h=>rfl,λi d hn h=>(by rw[J i (get i d h).1]at hn;cases hn)⟩
 .unfold z_ jR;simp
 .obtain⟨hi,j,T,S,Y⟩:=get i d h;have Z:∃v,σ[j]? = some (some v)/\RA K ok1 true H v d:=by
   cases W:isN fl[j]? with
   |true=>
    obtain⟨v,h1,h2,_⟩:=R.nr j d W Y;exact⟨v,h1,h2.ra λ_ _=>trivial⟩
   |false=>
   cases X:ow j with
   |none=>
    obtain⟨v,h1,h2⟩:=R.dat j d Y W X;exact⟨v,h1,h2.imp (λ_ _=>trivial) (λz=>z)⟩
   |some a=>
    obtain⟨_,_,xs,ds,h1,h2,U,V⟩:=R.own j a X;rw[Y]at V
    cases V;exact⟨_,h1,.lst h2 trivial (U.imp (λ_ _=>trivial) (λz=>z))⟩
  obtain⟨v,h1,h2⟩:=Z;refine⟨v,?_,(h2.imp (λ_ _=>⟨λi z=>(by cases z),λi z=>(by cases z)⟩) (λz=>z)).same s⟩;unfold z_;rw[d7 (by rw[cC];lia),cC,bf,T];show some ((σ[j]?).getD none)=_;rw[h1];rfl
def sJ{σ:St}{H:Hp}{Q:VK}{t:Nat}(hfl:∀i,i<t+ix.length->fl'[i]? = some .A)(htg:∀j∈TT,j<t)
 (h:tD X.K fl .FC (jP fi g ft f t ix) σ H Q):JD (tDI X.K fl L fi) (tDG X.K fl' TT g) (tDT X.K fl' ft) (tD X.K fl' .C f) t (z_ t ix) σ H Q:=by
 refine D3.ex4 h λG ow δ d R hf q=>?_
 refine D3.ex1 (bind1 hf) λl e1 e2=>?_
 by_cases hl:l.length<=100000
 case neg=>rw[if_neg hl]at e2;cases e2
 rw[if_pos hl]at e2;refine D3.ex1 (bind1 e2) λr e3 e4=>?_
 cases e4;refine⟨G,ow,δ,l,R,e1,λJ H1 s1 p Dl hD=>?_⟩;have R1:=R.grow s1
 let T:Ok:=λb=>okN H b/\b≠Dl
 refine⟨λi m xs H2=>m=l.length-i/\H2 Dl=some (.lst xs)/\Same H1 H2/\xs.length<=i/\i<=l.length/\∃ds rest,RAs X.K T false H2 xs ds/\fM g ft f (jR t ix δ) (l.drop i)=some rest/\r=ds++rest,
  ⟨_,rfl,dH,eO hD _,bF _,fK _,[],r,.nil,by simpa using e3,rfl⟩,?_⟩
 rintro i m xs H2 ⟨rfl,W,s2,F,D,ds,rest,E,Y,rfl⟩;refine⟨W,?_⟩;obtain⟨c,k⟩:=p H2 (λb o hb _ _=>s2 b o hb) i;by_cases U:i<l.length
 .have P:=k_ U;rw[P,fM]at Y;refine D3.ex1 (bind1 Y) λδ1 e5 Y=>?_
  refine D3.ex1 (bind1 Y) λB e6 Y=>?_
  obtain⟨go,s⟩:=c l[i] (bA U);refine .inr ⟨go,uF (bO F (bO D hl)) (by decide),λx H3 hy=>?_⟩;obtain⟨N,r3⟩:=s x H3 hy;have M:=s2.trans N;have Rb:=(Sv t ix hfl R1 (Same.refl H1)).grow M;refine⟨_,_,_,_,δ1,Rb,r3.imp (λ_ _=>⟨λi z=>(by cases z),λi z=>(by cases z)⟩) (λz=>z),e5,λu w S=>⟨?_,?_⟩⟩
  .apply fU;intro n;rw[oW,oW];exact S (t+n) λz=>absurd (htg _ z) (by lia)
  .refine⟨_,_,δ1,B,w,e6,λH5 O=>?_⟩
   cases B with
   |false=>
    rw[if_neg dZ]at Y ⊢;have Z:=N.trans O;exact⟨l.length-(i+1),by lia,rfl,Z _ _ W,s2.trans Z,by lia,U,ds,rest,E.same Z,Y,rfl⟩
   |true=>
    rw[if_pos rfl]at Y ⊢;refine D3.ex1 (bind1 Y) λy e7 Y=>?_
    refine D3.ex1 (bind1 Y) λl' e8 Y=>?_
    cases Y;refine⟨_,_,δ1,y,w.grow O,e7,λv H6 a r6=>?_⟩;have Z:=N.trans O;have V:=Z.trans a;refine⟨V _ _ W,l.length-(i+1),by lia,rfl,dH,?_,by rw[bx,rK];lia,U,ds++[y],l',?_,e8,by simp⟩
    .intro b o hb;rw[cO (λz=>by subst z;rw[hD]at hb;cases hb)];exact(s2.trans V) b o hb
    .have nd:¬T Dl:=λz=>z.2 rfl
     have I:=s1.trans (s2.trans Z);have ry:RA X.K T false H6 v y:=RA.imp (λb z=>⟨I.free z,λe=>by subst e;rw[okN,Z _ _ W]at z;cases z⟩) (λz=>z) r6;exact((E.same V).append (.cons ry .nil)).upd (V _ _ W) nd
 .have ed:l.drop i=[]:=mJ (by lia);rw[ed,fM]at Y
  cases Y;refine .inl ⟨k (by lia),?_⟩;rw[dN]at q;exact q (.ref Dl) H2 (s1.trans s2) (.inr ⟨Dl,xs,ds,rfl,rfl,s1.free hD,W,E⟩)
def lK(hc:X.calm=true)(T Y:List Str)(ix:List Nat)(hi:DI X fl L tg iter fi)
 (hg:∀cl C Z H3 fp,DG (blk X (T++Y) scope cl C Z H3 fp) fl' TT tg g) (ht:∀cl C Z H3 fp,PTs (blk X (T++Y) scope cl C Z H3 fp) ifs (tDT X.K fl' ft)) (he:∀cl C Z H3 fp,DE (blk X (T++Y) scope cl C Z H3 fp) fl' .C elt f)
 (hfl:∀i,i<T.length+ix.length->fl'[i]? = some .A:=by decide) (htg:∀j∈TT,j<T.length:=by decide)
 (hB:w6 X.N X.env.scope.names scope.names Y ix=true:=by rfl) (hk:scope.kind = .function:=by rfl) (O:∀y∈scope.names,y.2 ≠ .cell:=by decide +kernel)
 (J:∀x∈scope.names,x.2 = .local->scope.names.lookup x.1=some .local:=by decide +kernel)
 (hfr:∀x∈scope.names,x.2 = .free->x.1∈Y:=by decide +kernel) (hs:∀x,foldedSetIterable iter X.env x=pure x:=by intro _;rfl) :
 DE X fl .FC (.ListComp elt [⟨tg,iter,ifs,0⟩] scope pos) (jP fi g ft f T.length ix):=
 PE.imp (RZ hc T Y ix hi hg ht he hB hk O J hfr hs) λ_ _ _ h=>sJ hfl htg h
def FN (hfx:fl[i]? = some .A) (hN:X.N.Nodup) (hi':X.N[i]? = some x) (hx:X.env.scope.names.lookup x=some .local) (hc:X.calm=true) (T Y:List Str) (ix:List Nat) (hi:DI X fl L tg iter fi)
 (hg:∀cl C Z H3 fp,DG (blk X (T++Y) scope cl C Z H3 fp) fl' TT tg g) (ht:∀cl C Z H3 fp,PTs (blk X (T++Y) scope cl C Z H3 fp) ifs (tDT X.K fl' ft)) (he:∀cl C Z H3 fp,DE (blk X (T++Y) scope cl C Z H3 fp) fl' .C elt f)
 (hfl:∀i,i<T.length+ix.length->fl'[i]? = some .A:=by decide) (htg:∀j∈TT,j<T.length:=by decide)
 (hsw:swapsWith (.ListComp elt [⟨tg,iter,ifs,0⟩] scope pos) (some (.Name x pos')) m.line X.env=pure true:=by rfl)
 (hB:w6 X.N X.env.scope.names scope.names Y ix=true:=by rfl) (hk:scope.kind = .function:=by rfl) (O:∀y∈scope.names,y.2 ≠ .cell:=by decide +kernel)
 (J:∀x∈scope.names,x.2 = .local->scope.names.lookup x.1=some .local:=by decide +kernel)
 (hfr:∀x∈scope.names,x.2 = .free->x.1∈Y:=by decide +kernel) (hs:∀x,foldedSetIterable iter X.env x=pure x:=by intro _;rfl) :
 DS1 X fl (.Assign [.Name x pos'] (.ListComp elt [⟨tg,iter,ifs,0⟩] scope pos) m) (bL i (jP fi g ft f T.length ix)):=
 PS.imp (JF hN hi' hx hc T Y ix hi hg ht he hsw hB hk O J hfr hs) λDn σ H h=>by
 refine D3.ex4 h λG ow δ o R W q=>?_
 unfold bL at W;by_cases hl:i<δ.length
 .rw[if_pos hl]at W;refine D3.ex1 (bind1 W) λd e1 e2=>?_
  cases e2;exact sJ (fl:=fl) hfl htg ⟨G,ow,δ,d,R,e1,λv H' s r=>q ow _ H' ((R.grow s).setA hfx (rB R hl) ((r.FC_F R).F_A R))⟩
 .rw[if_neg hl]at W
  cases W
def FP(hfx:fl[i]? = some .O)(hN:X.N.Nodup)(hi':X.N[i]? = some x)(hx:X.env.scope.names.lookup x=some .local)(hc:X.calm=true)(T Z:List Str)(ix:List Nat)(hi:DI X fl L tg iter fi)
 (hg:∀cl C s3 H3 fp,DG (blk X (T++Z) scope cl C s3 H3 fp) fl' TT tg g) (ht:∀cl C s3 H3 fp,PTs (blk X (T++Z) scope cl C s3 H3 fp) ifs (tDT X.K fl' ft)) (he:∀cl C s3 H3 fp,DE (blk X (T++Z) scope cl C s3 H3 fp) fl' .C elt f)
 (hfl:∀i,i<T.length+ix.length->fl'[i]? = some .A:=by decide) (htg:∀j∈TT,j<T.length:=by decide)
 (hsw:swapsWith (.ListComp elt [⟨tg,iter,ifs,0⟩] scope pos) (some (.Name x pos')) spos.line X.env=pure true:=by rfl)
 (hB:w6 X.N X.env.scope.names scope.names Z ix=true:=by rfl) (hk:scope.kind = .function:=by rfl) (Y:∀y∈scope.names,y.2 ≠ .cell:=by decide +kernel)
 (J:∀x∈scope.names,x.2 = .local->scope.names.lookup x.1=some .local:=by decide +kernel)
 (hfr:∀x∈scope.names,x.2 = .free->x.1∈Z:=by decide +kernel) (hs:∀x,foldedSetIterable iter X.env x=pure x:=by intro _;rfl) :
 DS1 X fl (.Assign [.Name x pos'] (.ListComp elt [⟨tg,iter,ifs,0⟩] scope pos) spos) (bL i (jP fi g ft f T.length ix)):=
 PS.imp (JF hN hi' hx hc T Z ix hi hg ht he hsw hB hk Y J hfr hs) λDn σ H h=>by
 refine D3.ex4 h λG ow δ o R W q=>?_
 unfold bL at W;by_cases hl:i<δ.length
 .rw[if_pos hl]at W;refine D3.ex1 (bind1 W) λd e1 e2=>?_
  cases e2;refine sJ (fl:=fl) hfl htg ⟨G,ow,δ,d,R,e1,λv H' s r=>?_⟩;obtain⟨V,R'⟩:=R.setO s hfx (rB R hl) (r.FC_F R);exact q V _ H' R'
 .rw[if_neg hl]at W
  cases W
def FQ (s:Same H H1) (J:H1 m=none) (r:RAs K (okA ow) true H1 vs l):Rs K G.H0 ow H (upd H1 m (.lst vs)) .F (.ref m) (.list l):=
 .inr ⟨m,vs,l,rfl,rfl,s.free J,dH,(r.track.imp (λb w=>⟨w.1,λe=>w.2 (e▸J)⟩) (λz=>z)).same (eO J _)⟩
def CG (r:Rs K H0 ow Hb H (.B L) v (.list l)):∃a xs,v = .ref a/\SqL K H a xs/\RAs K (okA ow) true H xs l:=by
 rcases r with r|⟨i,hi,a,xs,ds,X,rfl,e,Z,Y⟩
 .exact r.lstE
 .cases e;exact⟨a,xs,rfl,SqL.of Z,Y⟩
def Zv(K:PySem.W.Frag):R2:=λx y H Q=>∃l b xs zs,x = .ref l/\y = .ref b/\SqL K H l xs/\SqL K H b zs/\xs.length+zs.length<=sizeLine/\∀p,H p=none->Q (.ref p) (upd H p (.lst (xs++zs)))
def Sw:OpR X (binaryOp .Add) (Zv X.K):=by
 intro pins s σ H x y v u Q I O P h;obtain⟨l,b,xs,zs,rfl,rfl,N,hB,M,q⟩:=h
 cases O
 cases P;obtain⟨its,r,p,_⟩:=I.list N;obtain⟨its2,r2,p2,_⟩:=I.list hB;obtain⟨⟨cls,dd,data,sl⟩,T,S,n,hd⟩:=p.isList;obtain⟨⟨R,U,data2,V⟩,Z,W,n2,Y⟩:=p2.isList;simp only at S hd W Y;subst S hd W Y;have e1:=r.length;have e2:=r2.length;have e:its.toArray++its2.toArray=(its++its2).toArray:=by simp
 refine concat_meets ⟨_,T,rfl⟩ ⟨_,Z,rfl⟩ noFill_list_add seq_list_add PySem.F.slot_list_add PySem.F.entry_list_add (PySem.F.args_list_add_2 _ _) (list_addW l b its.toArray its2.toArray n n2 dd U sl V (by simp;lia)) ⟨T,Z,?_⟩;rw[e];exact⟨.ref _,_,I.lnew (t':=s.toks) (r.append r2) (by rw[bx];lia),rfl,q _ I.fresh⟩
def lR{J:List Nat}(h1:DE X fl (.B L) a fa)(h2:DE X fl (.B J) b fb):DE X fl .F (.BinOp a .Add b pos) (dOp mF fa fb):=PE.imp (Nk Sw h1 h2) λσ H Q h=>by
 refine D3.ex4 h λG ow δ d R T q=>?_
 refine D3.ex2 (Fv T) λx y e1 e2 e3=>?_
 refine⟨G,ow,δ,x,R,e1,λv H1 s1 r1=>⟨G,ow,δ,y,R.grow s1,e2,λu H2 s2 r2=>?_⟩⟩;unfold mF at e3;split at e3
 .next l m=>
  by_cases z:l.length+m.length<=1000000
  .rw[if_pos z]at e3
   cases e3;obtain⟨p,xs,rfl,U,Y⟩:=CG r1;obtain⟨p',ys,rfl,V,Z⟩:=CG r2;refine⟨p,p',xs,ys,rfl,rfl,s2.seq U,V,?_,λpn W=>q _ _ ((s1.trans s2).trans (eO W _)) (FQ (G:=G) (s1.trans s2) W ((Y.same s2).append Z))⟩;rw[Y.length,Z.length];exact bO z (by decide)
  .rw[if_neg z]at e3
   cases e3
 .cases e3
theorem RAs.rep (r:RAs K ok pl H vs l):∀n:Nat,RAs K ok pl H (aW n vs).flatten (aW n l).flatten
 |0=>.nil
 |n+1=>by
  rw[dB,dB,gQ,gQ];exact r.append (RAs.rep r n)
def W7(h1:DE X fl .F a fa)(h2:DE X fl .P b fb):DE X fl .F (.BinOp a .Mult b pos) (dOp N5 fa fb):=PE.imp (Nk WY h1 h2) λσ H Q h=>by
 refine D3.ex4 h λG ow δ d R V q=>?_
 refine D3.ex2 (Fv V) λx y e1 e2 e3=>?_
 refine⟨G,ow,δ,x,R,e1,λv H1 s1 r1=>⟨G,ow,δ,y,R.grow s1,e2,λu H2 s2 r2=>?_⟩⟩;unfold N5 at e3;split at e3
 .next l k=>
  by_cases z:l.length*k.toNat<=1000000/\-(2^63)<=k/\k<2^63
  .rw[if_pos z]at e3
   cases e3;obtain rfl:=RA.intE r2;rcases r1 with⟨W,_⟩|⟨p,xs,ds,rfl,T,S,U,Y⟩
   .simp[flat]at W
   .cases T;refine⟨p,k,xs,rfl,rfl,s2 _ _ U,z.2.1,z.2.2,?_,λpn Z=>q _ _ ((s1.trans s2).trans (eO Z _)) (FQ (G:=G) (s1.trans s2) Z (((Y.imp (λb w=>w.1) (λz=>z)).same s2).rep _))⟩;rw[Y.length];exact bO z.1 (by decide)
  .rw[if_neg z]at e3
   cases e3
 .cases e3
def xT(h:DE X fl (.B L) a f)(hg:Gl X "list")(hm:X.mg "list"=none)
 (O:starEach [a] X.env=(false,eval a X.env)::starEach [] X.env:=by rfl) (J:(backTo pos (starEach [] X.env)).any (·.1)=false:=by rfl):DE X fl .F (.Call (.Name "list" p) [a] [] pos) (dUn uq f):=
 PE.imp (vZ Cq hg hm boot_list (iV h nR O) (by decide) (by decide) O J) λσ H Q h=>by
 refine D3.ex4 h λG ow δ d R V q=>?_
 refine D3.ex1 (bind1 V) λx e1 e2=>?_
 refine⟨G,ow,δ,x,R,e1,λv H1 s1 r1=>?_⟩;unfold uq at e2;split at e2
 .cases e2;obtain⟨p,xs,rfl,Y,W⟩:=CG r1;exact⟨p,xs,rfl,.inl Y,λpn Z=>q _ _ (s1.trans (eO Z _)) (FQ (G:=G) s1 Z W)⟩
 .cases e2;rcases r1 with r1|⟨i,hi,a,xs,ds,U,rfl,e,Y,W⟩
  .obtain⟨p,xs,rfl,Y,W⟩:=r1.tupE;exact⟨p,xs,rfl,.inr Y,λpn Z=>q _ _ (s1.trans (eO Z _)) (FQ (G:=G) s1 Z W)⟩
  .cases e
 .cases e2
def tDO(K:PySem.W.Frag)(fl:List Fl)(f:FO):TO:=λσ H Q=>∃G ow δ o,Rel K fl G ow σ H δ/\f δ=some o/\∀H',Same H H'->Q o H'
def PO.imp (h:PO X m t) (i:∀σ H Q,t' σ H Q->t σ H Q):PO X m t':=λpins s σ H Q I q=>h pins s σ H Q I (i σ H Q q)
def vp:PO X none (tDO X.K fl yJ):=PO.imp RK λσ H Q h=>by
 refine D3.ex4 h λG ow δ o R Z q=>?_
 cases Z;exact q H (Same.refl H)
def vq(h:DE X fl .P e f):PO X (some e) (tDO X.K fl (yK f)):=PO.imp (RM h) λσ H Q h=>by
 refine D3.ex4 h λG ow δ o R Z q=>?_
 refine D3.ex1 (bind1 Z) λd e1 e2=>?_
 split at e2
 .cases e2;refine⟨G,ow,δ,_,R,e1,λv H1 s1 r1=>?_⟩;obtain rfl:=RA.intE r1;exact⟨_,rfl,q H1 s1⟩
 .cases e2
def Oe(n d:Nat)(o:Option Int):HT.sIx n d o=pSx n d o:=by
 cases o<;>rfl
def RAs.cut (r:RAs K ok pl H vs l) (lo hi:Option Int):RAs K ok pl H (KY vs lo hi) (cuD l lo hi):=by
 unfold KY cuD;rw[r.length,Oe,Oe];exact(r.drop _).take _
def FW{lo hi:Option Expr}{fl1 J:FO}(h:DE X fl (.B L) a f)(h1:PO X lo (tDO X.K fl fl1))(h2:PO X hi (tDO X.K fl J)):DE X fl .F (.Subscript a (.Slice lo hi none p2) pos) (dSl f fl1 J):=PE.imp (Nu RP h h1 h2) λσ H Q h=>by
 refine D3.ex4 h λG ow δ d R Y q=>?_
 refine D3.ex1 (bind1 Y) λx e1 Y=>?_
 refine D3.ex1 (bind1 Y) λV e2 Y=>?_
 refine D3.ex1 (bind1 Y) λW e3 e4=>?_
 refine⟨G,ow,δ,x,R,e1,λv H1 s1 r1=>⟨G,ow,δ,V,R.grow s1,e2,λH2 s2=>⟨G,ow,δ,W,R.grow (s1.trans s2),e3,λO T=>?_⟩⟩⟩;split at e4
 .cases e4;obtain⟨p,xs,rfl,S,P⟩:=CG r1;have Z:=s2.trans T;exact⟨p,xs,rfl,Z.seq S,λpn U=>q _ _ ((s1.trans Z).trans (eO U _)) (FQ (G:=G) (s1.trans Z) U ((P.same Z).cut V W))⟩
 .cases e4
def sO:DS1 X fl st (λ_=>none):=PS.imp M9 λDn σ H h=>by
 refine D3.ex4 h λG ow δ o R Z q=>?_
 cases Z
end
end D3
namespace D3
open L2 My
section
variable{X:Cx}{σ:St}{H:Hp}
def Inv.turnedL (I:Inv X pins σ H s) (k:∀b o,b∉ch->s.heap.get? b=some o->h'.get? b=some o) (J:∀b∈ch,vW X pins H b):Inv X pins σ H {s with heap:=h',toks:=t'}:=by
 have Y:∀b u,H b=some u->b∉ch:=λb u e z=>by rw[(J b z).1]at e;cases e
 refine I.step (g':=s.gens) (d':=s.drawn) (ch:=ch) (λb hb=>?_) (λb o _ _ Z e _=>k b o Z e) (λb o _ _ Z e _=>⟨o.slots,k b o Z e⟩) (λ_ _ _ _ n=>n)
  (λb o Z e=>⟨o,k b o Z e⟩) (λ_ _ e=>e) (λ_ _ _ e=>e) (λ_ _ _ e=>e) (λm hm=>?_) (λb u e=>?_) I.bare
 .obtain⟨f0,f1,f2,T,U,V⟩:=J b hb;exact⟨T,f1,U,V⟩
 .obtain⟨o,es,S,W,r⟩:=hm;exact⟨o,es,S,k _ o (λz=>(J _ z).2.1 rfl) W,r⟩
 .refine(I.hok b u e).stay (λc v Z q=>k c v ?_ q) (λ_ q=>q) λ_ _ q=>q
  rcases Z with z|z
  .rw[z];exact Y b u e
  .exact Y c _ z
end
def Ite(K:PySem.W.Frag)(a:Addr):It:=
 ⟨λi H=>∃xs x,SqL K H a xs/\xs[i]? = some x,λi H x H'=>∃p y,H p=none/\H'=upd H p (.tup [.int i,y])/\x = .ref p/\∀xs,SqL K H a xs->xs[i]? = some y,λi H=>∃xs,SqL K H a xs/\xs.length<=i⟩
theorem K9 {x1} (a it:Addr) :
 Turn P w K (.Tuple elts x1 m) (Ite K a) [it+1,it] (it+1) (λi h=>∃old,IsEnum h (it+1) it (i:Int) old/\h.IsListIter it a i) where
 mem:=by simp
 obj:=λi h st b hb=>by
  obtain⟨old,Y,o,e,c,d⟩:=st;rcases aK.mp hb with z|z
  .subst z;exact⟨_,Y,λv z=>by cases z⟩
  .have z:b=it:=by simpa using z
   subst z;exact⟨o,e,λv z=>by rw[d]at z;cases z⟩
 keep:=λi h h' st k=>by
  obtain⟨old,Y,hi⟩:=st;exact⟨old,k _ (by simp) _ Y,hi.at λo e=>k it (by simp) o e⟩
 item:=by
  intro X N hw M J i pins s σ H E I V st Q;subst N hw M;obtain⟨xs,x,U,L⟩:=Q;obtain⟨its,S,p,F⟩:=I.list U;obtain⟨u,C,G⟩:=S.get L;obtain⟨old,Y,hi⟩:=st;have W:=ac Y;refine wpAny_pyNext_enum_item Y hi p.isList (x:=u) (by simpa using C) (Nat.succ_ne_self it) λh1 y R B A hk=>?_
  refine⟨_,rfl,wpAny_letOwnedTupleGo_enum y λh2 O Z=>?_⟩
  replace Z:et (it+1) h1 h2:=Z
  have hn:=I.hok.fresh (bF _);have I0:Inv X pins σ (upd H s.heap.objs.size (.tup [.int (i:Int),x])) {s with heap:=s.heap.push {cls:=.type "tuple", data:=.seq #[.int (i:Int) s.toks,u]} }:=
   I.laid (t':=s.toks) (λb o e=>ae _ e) (bF _) ⟨show 2<=sizeLine by decide,[.int (i:Int) s.toks,u],.cons ⟨_,rfl⟩ (.cons G .nil),⟨_,ah _ rfl,rfl,_,rfl⟩⟩
  have ne:∀b,b∈[it+1,it]->b≠s.heap.objs.size:=λb hb=>by
   rcases aK.mp hb with T|T
   .rw[T];exact bN W
   .rw[show b=it by simpa using T];exact bN (Nat.lt_of_succ_lt W)
  have r:Inv X pins σ (upd H s.heap.objs.size (.tup [.int (i:Int),x])) {s with heap:=h2,toks:=s.toks+1}:=by
   refine Inv.turnedL (s:={s with heap:=s.heap.push {cls:=.type "tuple", data:=.seq #[.int (i:Int) s.toks,u]} }) (ch:=[it+1,it]) I0 (λb o hb e=>?_) λb hb=>⟨by rw[cO (ne b hb)];exact(V b hb).1,(V b hb).2⟩
   have b1:b≠it+1:=λz=>hb (by simp[z])
   have b2:b≠it:=λz=>hb (by simp[z])
   rcases cw e with⟨e1,e2⟩|e1
   .subst e1 e2;exact(Z.2 _ b1).trans B
   .exact(Z.2 _ b1).trans (hk b o b1 b2 e1)
  refine⟨.ref s.heap.objs.size,_,r,rfl,⟨_,x,hn,rfl,rfl,λys D=>by rwa[I.list_inj D U]⟩,⟨_,O,R.at λo e=>(Z.2 _ (bN (mW it))).trans e⟩,λb hb=>?_⟩;rw[cO (ne b hb)];exact(V b hb).1
 done:=by
  intro X N hw M J i pins s σ H E I V st Q;subst N hw M;obtain⟨xs,U,L⟩:=Q;obtain⟨its,S,p,F⟩:=I.list U;obtain⟨old,Y,hi⟩:=st;have hl:=S.length;refine wpAny_pyNext_enum_end (I.ok.hd J) Y hi p.isList (by simp;lia) λh' t=>⟨rfl,Inv.turnedL (t':=s.toks) (ch:=[it+1,it]) I (λb o hb e=>t b o (λz=>hb (by simp[z])) e) V⟩
 self:=λ_ _ _ _ _ st h=>by
  obtain⟨old,Y,_⟩:=st;exact wpAny_pyIter_enum Y h
section
variable{X:Cx}{fl:List Fl}{a:Expr}{f:FE}
def Zw(K:PySem.W.Frag)(tl:TE):TI:=λσ H R=>tl σ H λx H1=>∃a,x = .ref a/\(∃xs,SqL K H1 a xs)/\R (Ite K a) H1
theorem Sx {x1} (hg:Gl X "enumerate") (hm:X.mg "enumerate"=none) (hl:PE X a tl) (O:starEach [a] X.env=(false,eval a X.env)::starEach [] X.env:=by rfl)
 (J:(backTo pos (starEach [] X.env)).any (·.1)=false:=by rfl):PI X (.Tuple elts x1 c) (.Call (.Name "enumerate" p) [a] [] pos) (Zw X.K tl):=by
 intro pins s σ H R I h;refine aw (pW I hg hm boot_enumerate (dn (thn ((iV hl nR O) pos pins s σ H (λvs H1=>match vs with|[x]=>∃a,x = .ref a/\(∃xs,SqL X.K H1 a xs)/\R (Ite X.K a) H1|_=>False) I h) λus s1 ⟨vs,H1,W,r1,q1⟩=>?_) O J))
 cases r1 with
 |nil=>exact q1.elim
 |cons r rr=>
  cases rr with
  |cons _ _=>exact q1.elim
  |nil=>
  obtain⟨l,e,⟨xs,T⟩,q⟩:=q1;subst e
  cases r;obtain⟨its,Q,pl,P⟩:=W.list T;refine call_enumerate_list pl.isList λh' Z V U hk=>?_
  have S:=W.kept (t':=s1.toks) hk;refine wpAny_pyIter_enum (s:={s1 with heap:=h'}) Z ?_;refine⟨s1.heap.objs.size+1,[s1.heap.objs.size+1,s1.heap.objs.size],_,_,H1,rfl,S,K9 l s1.heap.objs.size,⟨_,Z,V⟩,λb hb=>?_,q⟩;have Y:s1.heap.objs.size<=b:=by
   rcases aK.mp hb with z|z
   .rw[z];exact nu _
   .rw[show b=s1.heap.objs.size by simpa using z];exact bF _
  exact W.fpOk Y (W.hok.fresh Y)
theorem vC {x1} (h:DE X fl (.B L) a f) (O:Gl X "enumerate") (hm:X.mg "enumerate"=none) (he:starEach [a] X.env=(false,eval a X.env)::starEach [] X.env:=by rfl)
 (J:(backTo pos (starEach [] X.env)).any (·.1)=false:=by rfl):DI X fl L (.Tuple elts x1 b) (.Call (.Name "enumerate" p) [a] [] pos) (vf f):=PI.imp (Sx O hm h he J) λσ H R' h=>by
 refine D3.ex4 h λG ow δ l R N q=>?_
 refine D3.ex1 (bind1 N) λd e1 e2=>?_
 cases d<;>first|(cases e2;done)|skip
 next W=>
 cases e2;refine⟨G,ow,δ,_,R,e1,λv H1 s r=>?_⟩;obtain⟨a,xs,rfl,Q,keep⟩:=yP (R.grow s) r;refine⟨a,rfl,⟨xs,Q⟩,q _ _ s λH2 k2 i=>?_⟩;obtain⟨k3,k4⟩:=keep H2 k2;refine⟨λd hd=>?_,λhl=>⟨xs,k3,by rw[k4.length];simpa[lE]using hl⟩⟩;have Z:(W[i]?).map (λx=>cP [.int (i:Int),x])=some d:=by
  have:=hd;unfold lE at this;rwa[jT]at this
 cases e:W[i]? with
 |none=>rw[e]at Z;cases Z
 |some x0=>
  rw[e]at Z
  cases Z;obtain⟨y,V,T⟩:=k4.get e;refine⟨⟨xs,y,k3,V⟩,λx M Y=>?_⟩;obtain⟨p,U,P,rfl,rfl,S⟩:=Y;have:some y=some U:=V.symm.trans (S xs k3)
  cases this;have g:=eO P (.tup [.int (i:Int),y]);exact⟨g,.tup dH (.cons (.int _) (.cons (T.same g) .nil))⟩
end
structure Bl(mg:Str->Option Value):Prop where
 len_:mg "len"=none
 range_:mg "range"=none
 abs_:mg "abs"=none
 isinstance_:mg "isinstance"=none
 int_:mg "int"=none
 bool_:mg "bool"=none
 tuple_:mg "tuple"=none
 list_:mg "list"=none
 str_:mg "str"=none
 max_:mg "max"=none
 min_:mg "min"=none
 sorted_:mg "sorted"=none
 sum_:mg "sum"=none
 reversed_:mg "reversed"=none
 enumerate_:mg "enumerate"=none
 zip_:mg "zip"=none
 set_:mg "set"=none
 any_:mg "any"=none
 all_:mg "all"=none
 dict_:mg "dict"=none
end D3
variable{T:Addr}{dc:Value}{sl:Array (Option Value)}
namespace D3
open L2 My
structure FunD(K:PySem.W.Frag)(x:Str)(st:Stmt)(f:Addr)(fd:du):Prop where
 ex:∃(oc:Value)(od:Option Addr)(dV kV doc pm:Value)(an:Option Addr)(cdv ct:Value)(osl:Array (Option Value)),
  fd=PySem.W.fnOf x x (m_ st) (gR st) (aX st) dV kV doc pm an cdv ct/\K.lookup f=some ⟨oc,od,.func fd,osl⟩/\PySem.W.codeIn K cdv x=true
 kp:PySem.W.keepIn K (.ref f)=true
structure Dg(K:PySem.W.Frag)(mg:Str->Option Value)(x:Str)(st:Stmt)(ps:List Str):Prop where
 ex:∃(f:Addr)(fd:du),FunD K x st f fd/\Binds K fd ps []/\mg x=some (.ref f)
def W8{f:Addr}{kV:Value}{o:Obj}{items:Array Value}(X:K.In h)(G:h.Ns mainGlobals mg)
 (hb:∀(kV doc pm:Value)(an:Option Addr)(cdv ct:Value)(us:List Value),us.length=ps.length->∃k,bindArgs (PySem.W.fnOf x x (m_ st) (gR st) (aX st) (.ref T) kV doc pm an cdv ct) ⟨us,[]⟩=(seqItems? (.ref T) >>= k)/\k (some items)=pure (ps.zip us))
 (a:PySem.W.nsIn K mainGlobals x=some (some (.ref f))) (l:K.lookup f=some ⟨oc,od,.func (PySem.W.fnOf x x (m_ st) (gR st) (aX st) (.ref T) kV dc pm an cd ct),sl⟩) (c:PySem.W.codeIn K cd x=true) (k:PySem.W.keepIn K (.ref f)=true)
 (O:K.lookup T=some o) (J:o.data = .seq items n):Dg K mg x st ps:=
 ⟨_,_,⟨⟨oc,od,.ref T,kV,dc,pm,an,cd,ct,sl,rfl,l,c⟩,k⟩,λs us Z hl=>by
  rw[dN]at hl ⊢;obtain⟨k,h1,h2⟩:=hb kV dc pm an cd ct us hl;exact BindsTo.of_defaults (T:=T) rfl (Z T o O) J h1 h2,PySem.W.mg_of X G a⟩
def Zx {kV:Value} (X:K.In h) (G:h.Ns mainGlobals mg)
 (hb:∀(kV doc pm:Value)(an:Option Addr)(cdv ct:Value)(us:List Value),us.length=ps.length->bindArgs (PySem.W.fnOf x x (m_ st) (gR st) (aX st) .none kV doc pm an cdv ct) ⟨us,[]⟩=pure (ps.zip us))
 (a:PySem.W.nsIn K mainGlobals x=some (some (.ref b))) (l:K.lookup b=some ⟨oc,od,.func (PySem.W.fnOf x x (m_ st) (gR st) (aX st) .none kV dc pm an cd ct),sl⟩) (c:PySem.W.codeIn K cd x=true) (k:PySem.W.keepIn K (.ref b)=true):Dg K mg x st ps:=
 ⟨_,_,⟨⟨oc,od,.none,kV,dc,pm,an,cd,ct,sl,rfl,l,c⟩,k⟩,.all (hb kV dc pm an cd ct),PySem.W.mg_of X G a⟩
structure Dl(K:PySem.W.Frag)(mg:Str->Option Value)(x y:Str)(st:Stmt):Prop where
 ex:∃(f:Addr)(fd:du),FunD K x st f fd/\(∀(s:cB)(u:Value),BindsTo s fd ⟨[u],[]⟩ [(y,u)])/\mg x=some (.ref f)
def Zy {kV:Value} {y:Str} (X:K.In h) (G:h.Ns mainGlobals mg)
 (hb:∀(kV doc pm:Value)(an:Option Addr)(cdv ct:Value)(u:Value),bindArgs (PySem.W.fnOf x x (m_ st) (gR st) (aX st) .none kV doc pm an cdv ct) ⟨[u],[]⟩=pure [(y,u)])
 (a:PySem.W.nsIn K mainGlobals x=some (some (.ref b))) (l:K.lookup b=some ⟨oc,od,.func (PySem.W.fnOf x x (m_ st) (gR st) (aX st) .none kV dc pm an cd ct),sl⟩) (c:PySem.W.codeIn K cd x=true) (k:PySem.W.keepIn K (.ref b)=true):Dl K mg x y st:=
 ⟨_,_,⟨⟨oc,od,.none,kV,dc,pm,an,cd,ct,sl,rfl,l,c⟩,k⟩,λs u=>.of_eq (hb kV dc pm an cd ct u),PySem.W.mg_of X G a⟩
section
variable{k:Nat}{fs:FS}{fl:List Fl}
def FunD.ok (F:FunD K x st b fd) (S:FnScope N ps (aX st)) (len:∀vs H Q E,sp vs H Q E->vs.length=ps.length)
 (J:∀(cdv:Value)(A:db)(outer:List Env)(s:cB)(H:Hp)(vs:List V)(Q:VK)(E:XK),Room k (A.deeper (envOfC x (aX st) s.heap.objs.size b cdv))->sp vs H Q E ->
  ∃t,PSs (jx CX0 P w K mg base N x (aX st) b cdv A outer s H E).nox (gR st) t/\t {nx:=λ_ H'=>Q .non H',rt:=Q} (L2.start N vs) H):FnOk P w K mg base CX0 (k+1) b fd ps sp:=by
 obtain⟨oc,od,dV,kV,doc,pm,an,cdv,ct,osl,rfl,lk,hcd⟩:=F.ex;refine Nt lk hcd S len λA outer s H vs Q E Y Z=>?_
 obtain⟨t,h,q⟩:=J cdv A outer s H vs Q E Y Z;exact⟨t,h.nox,q⟩
def Og (Fn:FunD K x st b fd) (S:FnScope N ps (aX st)) (O:∀i,i<ps.length->fl[i]? = some .A) (Y:ps.length<=N.length)
 (J:∀(b:Addr)(cdv:Value)(A:db)(outer:List Env)(s:cB)(H:Hp)(E:XK),Room k (A.deeper (envOfC x (aX st) s.heap.objs.size b cdv))->DSs (cx P w K mg base N x st b cdv A outer s H E) fl (gR st) fs) :
 FnOk P w K mg base CX0 (k+1) b fd ps (spD K (fnD ps.length (N.length-ps.length) fs)):=by
 refine Fn.ok S (λvs H Q E h=>?_) (λcdv A outer s H vs Q E W h=>?_)
 .obtain⟨ds,d,r,Z,_⟩:=h;unfold fnD at Z;by_cases z:ds.length=ps.length
  .rwa[r.2.length]
  .rw[if_neg z]at Z;cases Z
 .obtain⟨ds,d,r,Z,q⟩:=h;refine⟨_,J b cdv A outer s H E W,?_⟩;unfold fnD at Z;by_cases z:ds.length=ps.length
  .rw[if_pos z]at Z;split at Z
   .next V e=>
    cases Z;exact⟨_,_,_,_,jw ps.length O z Y r,e,λv H' s r=>q v H' s r⟩
   .next δ' e=>
    cases Z;exact⟨_,_,_,_,jw ps.length O z Y r,e,λX σ' H' R'=>q .non H' R'.same0 .non⟩
   .cases Z
  .rw[if_neg z]at Z;cases Z
def fD(Dd:Dg K mg x st ps)(S:FnScope N ps (aX st))(O:∀i,i<ps.length->fl[i]? = some .A)(Y:ps.length<=N.length)
 (J:∀(f:Addr)(cdv:Value)(A:db)(outer:List Env)(s:cB)(H:Hp)(E:XK),Room k (A.deeper (envOfC x (aX st) s.heap.objs.size f cdv))->DSs (cx P w K mg base N x st f cdv A outer s H E) fl (gR st) fs) :
 Has P w K mg base (k+1) x ps (spD K (fnD ps.length (N.length-ps.length) fs)):=by
 obtain⟨f,fd,Z,b,m⟩:=Dd.ex;exact⟨f,fd,Og Z S O Y J,b,Z.kp,m⟩
end
noncomputable def Oh(K:PySem.W.Frag):Sp:=λvs H Q _=>∃(a:Addr)(ns:List Int),Tb H/\vs=[.ref a]/\SqL K H a (ns.map V.int)/\ns.length<=63/\∀H',Q (.bl true) H'
theorem tR : ∀ns:List Int,RAs K ok pl H (ns.map V.int) (ns.map cE)
 |[]=>.nil
 |n::r=>.cons (.int n) (tR r)
def Sy (J:∀ns:List Int,ns.length<=63->F [.list (ns.map .int)]=some (.bool true)) (vs:List V) (H:Hp) (Q:VK) (E:XK) (h:Oh K vs H Q E):spD K F vs H Q E:=by
 obtain⟨a,ns,tb,rfl,Z,hl,q⟩:=h;refine⟨_,_,⟨tb,.cons ?_ .nil⟩,J ns hl,λv H' s r=>?_⟩
 .rcases Z with(h|⟨o,h⟩)|h
  .exact .lst h trivial (tR ns)
  .exact .lsk (.inl ⟨o,h⟩) rfl (tR ns)
  .exact .lsk (.inr h) rfl (tR ns)
 .obtain rfl:=r.blE;exact q H'
end D3
namespace D3
open L2 My
section
variable{prog:cN}
end
section
variable{X:Cx}{fl:List Fl}{a:Expr}{f:FE}
end
section
variable{X:Cx}{fl:List Fl}{a b:Expr}{fa:FA}
theorem JM : ∀(us:List Value)(k:Nat),(∀j v,us[j]? = some v->RelV (c (k+j)) v)->Vals ((iT k us.length).map c) us
 |[],_,_=>.nil
 |u::r,k,h=>by
  rw[bI,p7,bJ];refine .cons (h 0 u rfl) (JM r (k+1) λj v Z=>?_);have:=h (j+1) v (by simpa using Z);rwa[show k+1+j=k+(j+1)by lia]
theorem Oi (lo:Int):∀(n k:Nat),RAs K ok pl H ((iT k n).map λ(j:Nat)=>V.int (lo+(j:Int))) ((iT k n).map λ(j:Nat)=>cE (lo+(j:Int)))
 |0,_=>.nil
 |n+1,k=>by
  rw[p7,bJ,bJ];exact .cons (.int _) (Oi lo n (k+1))
end
end D3
variable{fl:List D3.Fl}
namespace D3
open L2 My
section
variable{X:Cx}
theorem vD:∀{ns:List Int}{its:List Value},Vals (ns.map V.int) its->ez its ns
 |[],_,.nil=>.nil
 |n::r,_,.cons h t=>by
  obtain⟨k,rfl⟩:=h;exact .cons _ _ (vD t)
theorem vG : ∀{l:List D}{ns:List Int}{ys:List V},jQ l=some ns->RAs K ok pl H ys l->ys=ns.map V.int
 |[],_,_,e,.nil=>by cases e;rfl
 |d::r,ns,_,e,.cons h t=>by
  cases d<;>first|(cases e;done)|skip
  obtain rfl:=h.intE
  cases e2:jQ r with
  |none=>rw[jQ,e2]at e;cases e
  |some m=>
   rw[jQ,e2]at e
   cases e;rw[vG e2 t];rfl
def K_(J:X.calm=true):nA X (.builtin "max") (λxs H Q=>∃(p:Addr)(i:Int)(r:List Int),xs=[.ref p]/\SqL X.K H p ((i::r).map V.int)/\Q (.int (mxI i r)) H):=by
 intro pins s σ H xs us Q I r h;obtain⟨p,i,r0,rfl,P,q⟩:=h;obtain⟨u,rfl,T⟩:=vals1 r
 cases T;obtain⟨its,Y,pl,M⟩:=I.list P;have hi:=vD Y;obtain⟨xs,e⟩:=hi.allInts.items;have Z:i::r0=xs.toList.map (·.1):=by rw[<-hi.numsOf,<-nums_intItems,<-e]
 have W:0<xs.size:=by
  have U:0<(i::r0).length:=by simp
  rw[Z,au,dR]at U;exact U
 have hl:=e▸pl.isList;refine max_intList (I.ok.hd J) hl W λv h' tk O hk=>?_
 obtain⟨t,rfl⟩:=intItems_at O;obtain⟨h1,h2⟩:=argBest_gt (numAt xs) (xs.size-1);have R:numAt xs (argBest (λi j=>decide (numAt xs i>numAt xs j)) (xs.size-1))∈i::r0:=by
  rw[Z,numAt_eq];exact getD_mem (by rw[au,dR];lia)
 have S:∀a∈i::r0,a<=numAt xs (argBest (λi j=>decide (numAt xs i>numAt xs j)) (xs.size-1)):=λa ha=>by
  rw[Z]at ha;obtain⟨j,N,rfl⟩:=mem_getD ha;rw[au,dR]at N;rw[<-numAt_eq];exact h2 j (by lia)
 have sp:=Fq r0 i;have eq:=rG (sp.2 _ R) (S _ sp.1);rw[eq];exact⟨.int _,H,I.kept hk,⟨_,rfl⟩,q⟩
def W9:BrC K (λxs H Q=>∃(p:Addr)(i:Int)(r:List Int),xs=[.ref p]/\SqL K H p ((i::r).map V.int)/\Q (.int (mxI i r)) H) Fg:=by
 intro H xs ds d Q r e q;unfold Fg at e;split at e
 .next l=>
  split at e
  .next i r0 e2=>
   cases e
   cases r with
   |cons r1 r2=>
    cases r2;obtain⟨a,ys,rfl,Z,Y⟩:=r1.lstE;obtain rfl:=vG e2 Y;exact⟨a,i,r0,rfl,Z,q _ rfl (.int _)⟩
  .cases e
 .cases e
theorem wD:∀{l m:List Int},l.Perm m->l.Pairwise (· <= ·)->m.Pairwise (· <= ·)->l=m
 |[],m,p,_,_=>p.nil_eq
 |a::l,m,p,h1,h2=>by
  cases m with
  |nil=>exact absurd p.length_eq (by simp)
  |cons b m=>
   obtain⟨a1,a2⟩:=gj.mp h1;obtain⟨b1,b2⟩:=gj.mp h2;have e:a=b:=by
    have x1:=p.mem_iff.mp aD;have x2:=p.mem_iff.mpr aD;rcases aK.mp x1 with z|z
    .exact z
    .rcases aK.mp x2 with y|y
     .exact y.symm
     .exact rG (a1 b y) (b1 a z)
   subst e;rw[wD (List.Perm.cons_inv p) a2 b2]
theorem oR:∀{ns:List Int}{its:List Value},ez its ns->Vals (ns.map V.int) its
 |_,_,.nil=>.nil
 |_,_,.cons n t r=>.cons ⟨t,rfl⟩ (oR r)
def CJ:nA X (.builtin "sorted") (λxs H Q=>∃(p:Addr)(ns:List Int),xs=[.ref p]/\SqL X.K H p (ns.map V.int)/\ns.length<64/\∀l,H l=none->Q (.ref l) (upd H l (.lst ((nW ns).map V.int)))):=by
 intro pins s σ H xs us Q I r h;obtain⟨p,ns,rfl,S,Y,q⟩:=h;obtain⟨u,rfl,W⟩:=vals1 r
 cases W;obtain⟨its,Z,pl,O⟩:=I.list S;have hi:=vD Z;refine sorted_ints pl.isList hi (by rwa[hi.length]) λout U a1 a2 a3=>?_
 obtain rfl:=wD (a2.trans (iQ ns).symm) a3 (nC ns);obtain⟨e,R⟩:=sortedAll_at s.heap its out;have hn:=I.hok.fresh (nu _);have T:=(iQ ns).length_eq;have P:=I.laid (h':=sortedAll s.heap its out) (t':=s.toks) (a:=s.heap.objs.size+1) (o:=.lst ((nW ns).map V.int)) (λb u e=>sortedAll_old e) (nu _)
  ⟨by rw[au,T];exact bO (gB Y) (by decide),out.toList,e,oR a1,by simpa[seqObj]using R⟩
 exact⟨.ref _,_,P,rfl,q _ hn⟩
def Bj(ha:DB X fl .P [e] fa)(O:Gl X "sorted")(hm:X.mg "sorted"=none)
 (he:starEach [e] X.env=(false,eval e X.env)::starEach [] X.env:=by rfl) (J:(backTo pos (starEach [] X.env)).any (·.1)=false:=by rfl):DE X fl .FC (.Call (.Name "sorted" p) [e] [] pos) (dCall um fa):=
 PE.imp (qj CJ O hm (show bootBuiltins "sorted"=some (.builtin "sorted")by decide +kernel) ha (by decide) (by decide) he J) λσ H Q h=>by
 refine D3.ex4 h λG ow δ d R U q=>?_
 refine D3.ex1 (bind1 U) λds e1 e2=>?_
 refine⟨G,ow,δ,ds,R,e1,λvs H' s Y=>?_⟩;unfold um at e2;split at e2
 .next l=>
  cases e3:jQ l with
  |none=>rw[e3]at e2;cases e2
  |some ns=>
   rw[e3,aG]at e2;by_cases Z:ns.length<64
   .rw[if_pos Z]at e2
    cases e2
    cases Y with
    |cons r1 r2=>
     cases r2;obtain⟨a,ys,rfl,W,V⟩:=r1.lstE;obtain rfl:=vG e3 V;exact⟨a,ns,rfl,W,Z,λl hn=>q _ _ (s.trans (eO hn _)) (.inr ⟨_,_,_,rfl,rfl,s.free hn,dH,tR _⟩)⟩
   .rw[if_neg Z]at e2;cases e2
 .cases e2
end
end D3
namespace D3
open L2 My
def gK(n:Nat)(us ws:List α):List α:=if ws.length=n then us++ws else []
structure HasD(P:cN)(w:df)(K:PySem.W.Frag)(mg:Str->Option Value)(base:dm)(n:Nat)(x:Str)(ps:List Str)(sp:Sp)(dvs:List V)(ks:List Str):Prop where
 ex:∃(f:Addr)(fd:du)(ds:List Value),FnOk P w K mg base CX0 n f fd ps sp/\Binds K fd ps ds/\Vals dvs ds/\KBinds K fd ps ks (gK ks.length) (gK ks.length)/\PySem.W.keepIn K (.ref f)=true/\mg x=some (.ref f)
structure DgD(K:PySem.W.Frag)(mg:Str->Option Value)(x:Str)(st:Stmt)(ps:List Str)(dvs:List V)(ks:List Str):Prop where
 ex:∃(f:Addr)(fd:du)(ds:List Value),FunD K x st f fd/\Binds K fd ps ds/\Vals dvs ds/\KBinds K fd ps ks (gK ks.length) (gK ks.length)/\mg x=some (.ref f)
section
variable{ks:List Str}{k:Nat}{fs:FS}{fl:List Fl}
end
section
variable{X:Cx}{fl:List Fl}{kpos:Pos}{kn:Str}{F:List D->Option D}{fa:FA}{fk:FE}{i:Int}
def W_:BrC K (λxs H Q=>(∃i,xs=[.int i]/\Q (.int i) H)\/∃k,xs=[.bl k]/\Q (.int (if k then 1 else 0)) H) HY:=by
 intro H xs ds d Q r e q;unfold HY at e;split at e
 .cases e
  cases r with
  |cons r1 r2=>
   cases r2;obtain rfl:=r1.intE;exact .inl ⟨_,rfl,q _ rfl (.int _)⟩
 .cases e
  cases r with
  |cons r1 r2=>
   cases r2;obtain rfl:=r1.blE;exact .inr ⟨_,rfl,q _ rfl (.int _)⟩
 .cases e
def yR{j pos'} (h:DE X fl .P b k):DT X fl (.Compare b [.Is] [.Constant .none j pos'] pos) (aQ (dUn v8 k)):=PT.imp (M4 (MP h)) λσ H Q h=>by
 refine D3.ex4 h λG ow δ c R Z q=>?_
 refine D3.ex1 (bind1 Z) λd e1 e2=>?_
 refine D3.ex1 (bind1 e1) λx e3 e4=>?_
 cases e4
 cases e2;refine⟨G,ow,δ,x,R,e3,λv H1 s1 r1=>?_⟩;refine⟨decide (v = .non),rfl,?_⟩;rw[Ij (RA.same (Same.refl H1) r1)];exact q H1 s1
def JN(ha:DB X fl .P [e] fa)(O:Gl X "int")(hm:X.mg "int"=none)
 (he:starEach [e] X.env=(false,eval e X.env)::starEach [] X.env:=by rfl) (J:(backTo pos (starEach [] X.env)).any (·.1)=false:=by rfl):DE X fl .FC (.Call (.Name "int" p) [e] [] pos) (dCall HY fa):=
 PE.imp (vZ KN O hm boot_int ha (by decide) (by decide) he J) λσ H Q h=>by
 refine D3.ex4 h λG ow δ d R V q=>?_
 refine D3.ex1 (bind1 V) λds e1 e2=>?_
 exact⟨G,ow,δ,ds,R,e1,λvs H' s Y=>W_ H' vs ds d Q Y e2 λv W Z=>q v H' s (.inl ⟨W,Z⟩)⟩
end
end D3
namespace D3
open L2 My
section
variable{X:Cx}
def Lb(J:X.calm=true):nA X (.builtin "min") (λxs H Q=>∃(p:Addr)(i:Int)(r:List Int),xs=[.ref p]/\SqL X.K H p ((i::r).map V.int)/\Q (.int (mnI i r)) H):=by
 intro pins s σ H xs us Q I r h;obtain⟨p,i,r0,rfl,P,q⟩:=h;obtain⟨u,rfl,T⟩:=vals1 r
 cases T;obtain⟨its,Y,pl,M⟩:=I.list P;have hi:=vD Y;obtain⟨xs,e⟩:=hi.allInts.items;have Z:i::r0=xs.toList.map (·.1):=by rw[<-hi.numsOf,<-nums_intItems,<-e]
 have W:0<xs.size:=by
  have U:0<(i::r0).length:=by simp
  rw[Z,au,dR]at U;exact U
 have hl:=e▸pl.isList;refine min_intList (I.ok.hd J) hl W λv h' tk O hk=>?_
 obtain⟨t,rfl⟩:=intItems_at O;obtain⟨h1,h2⟩:=argBest_lt (numAt xs) (xs.size-1);have R:numAt xs (argBest (λi j=>decide (numAt xs i<numAt xs j)) (xs.size-1))∈i::r0:=by
  rw[Z,numAt_eq];exact getD_mem (by rw[au,dR];lia)
 have S:∀a∈i::r0,numAt xs (argBest (λi j=>decide (numAt xs i<numAt xs j)) (xs.size-1))<=a:=λa ha=>by
  rw[Z]at ha;obtain⟨j,N,rfl⟩:=mem_getD ha;rw[au,dR]at N;rw[<-numAt_eq];exact h2 j (by lia)
 have sp:=Fp r0 i;have eq:=rG (S _ sp.1) (sp.2 _ R);rw[eq];exact⟨.int _,H,I.kept hk,⟨_,rfl⟩,q⟩
def Xa:BrC K (λxs H Q=>∃(p:Addr)(i:Int)(r:List Int),xs=[.ref p]/\SqL K H p ((i::r).map V.int)/\Q (.int (mnI i r)) H) Fi:=by
 intro H xs ds d Q r e q;unfold Fi at e;split at e
 .next l=>
  split at e
  .next i r0 e2=>
   cases e
   cases r with
   |cons r1 r2=>
    cases r2;obtain⟨a,ys,rfl,Z,Y⟩:=r1.lstE;obtain rfl:=vG e2 Y;exact⟨a,i,r0,rfl,Z,q _ rfl (.int _)⟩
  .cases e
 .cases e
theorem FZ:∀{bs:List Bool}{its:List Value},Vals (bs.map V.bl) its->its=bs.map dE
 |[],_,.nil=>rfl
 |b::r,_,.cons h t=>by
  cases h;rw[FZ t];rfl
def all_range(bs:List Bool):(aC bs.length).all (λi=>bs.getD i false)=bs.all id:=by
 rw[Bool.eq_iff_iff,ju,ju]
 constructor
 .intro h b hb;obtain⟨i,hi,rfl⟩:=jm hb;have:=h i (bR.mpr hi);rwa[bU,bA hi]at this
 .intro h i hi;have hi:=bR.mp hi;rw[bU,bA hi];exact h _ (p8 hi)
theorem Ga (bs:List Bool):TruthOf prog w A (λi v=>(bs.map dE).toArray[i]? = some v) (λi=>bs.getD i false):=by
 intro i v s Q E X W;have Z:(bs.map dE)[i]? = some v:=by simpa using X
 rw[bf]at Z
 cases e:bs[i]? with
 |none=>rw[e]at Z;cases Z
 |some b=>
  rw[e]at Z
  cases Z;have V:bs.getD i false=b:=by rw[bU,e];rfl
  have Y:Q (bs.getD i false) s:=W;rw[V]at Y;exact ar Y
def Bk(J:X.calm=true):nA X (.builtin "all") (λxs H Q=>∃(p:Addr)(bs:List Bool),xs=[.ref p]/\SqL X.K H p (bs.map V.bl)/\Q (.bl (bs.all id)) H):=by
 intro pins s σ H xs us Q I r h;obtain⟨p,bs,rfl,U,q⟩:=h;obtain⟨u,rfl,W⟩:=vals1 r
 cases W;obtain⟨its,Z,pl,T⟩:=I.list U;obtain rfl:=FZ Z;have hl:=pl.isList;have Y:p<s.heap.objs.size:=by obtain⟨_,e,_⟩:=id hl;exact ac e
 refine call_all_walk (wpAny_pyIter_list hl ?_);refine⟨_,_,_,_,_,_,_,rfl,Walks.list (A:=X.A.in1) (I.ok.hd J) _ p (bN Y) (bs.map dE).toArray,⟨⟨_,ah _ rfl,rfl,rfl⟩,hl.push _⟩,Ga bs,λh' tk hk=>?_⟩;have e:(bs.map dE).toArray.size=bs.length:=by simp
 rw[e,all_range];exact⟨.bl _,H,I.kept (old_kept hk),rfl,q⟩
theorem wF : ∀{l:List D}{bs:List Bool}{ys:List V},nY l=some bs->RAs K ok pl H ys l->ys=bs.map V.bl
 |[],_,_,e,.nil=>by cases e;rfl
 |d::r,bs,_,e,.cons h t=>by
  cases d<;>first|(cases e;done)|skip
  obtain rfl:=h.blE
  cases e2:nY r with
  |none=>rw[nY,e2]at e;cases e
  |some m=>
   rw[nY,e2]at e
   cases e;rw[wF e2 t];rfl
def VL:BrC K (λxs H Q=>∃(p:Addr)(bs:List Bool),xs=[.ref p]/\SqL K H p (bs.map V.bl)/\Q (.bl (bs.all id)) H) Fj:=by
 intro H xs ds d Q r e q;unfold Fj at e;split at e
 .next l=>
  cases e2:nY l with
  |none=>rw[e2]at e;cases e
  |some bs=>
   rw[e2]at e
   cases e
   cases r with
   |cons r1 r2=>
    cases r2;obtain⟨a,ys,rfl,Z,Y⟩:=r1.lstE;obtain rfl:=wF e2 Y;exact⟨a,bs,rfl,Z,q _ rfl (.bl _)⟩
 .cases e
end
section
variable{X:Cx}{fl:List Fl}{a:Expr}{f:FE}{ta:TE}
end
section
variable{X:Cx}{fl:List Fl}{a b c:Expr}{f fa:FE}
def vH (ho:OpR X (compareOp O) k) (ho':OpR X (compareOp J) r') (hb:BrO X.K k m) (hb':BrO X.K r' g') (h1:DE X fl .P a fa) (h2:DE X fl .P b fb) (h3:DE X fl .P c fc)
 (hm:lastMarks [O,J] [b,c]=false:=by with_unfolding_all rfl):DT X fl (.Compare a [O,J] [b,c] pos) (aQ (o7 m g' fa fb fc)):=PT.imp (Nq ho ho' h1 h2 h3 hm) λσ H Q h=>by
 refine D3.ex4 h λG ow δ N R Z q=>?_
 refine D3.ex1 (bind1 Z) λd Z hd=>?_
 have W:d = .bool N:=by cases d<;>first|(cases hd;rfl)|(cases hd;done)
 subst W;refine D3.ex1 (bind1 Z) λx e1 Z=>?_
 refine D3.ex1 (bind1 Z) λy e2 Z=>?_
 refine D3.ex1 (bind1 Z) λz e3 Z=>?_
 refine⟨G,ow,δ,x,R,e1,λv H1 s1 r1=>⟨G,ow,δ,y,R.grow s1,e2,λu H2 s2 r2=>?_⟩⟩;refine hb H2 v u x y z _ (RA.same s2 r1) r2 e3 λM S Y=>?_
 split at Z
 .obtain rfl:=Y.blE;refine D3.ex1 (bind1 Z) λw e4 e5=>?_
  refine⟨true,rfl,yC ⟨G,ow,δ,w,R.grow (s1.trans s2),e4,λT U V r3=>?_⟩⟩;refine hb' U u T y w _ _ (RA.same V r2) r3 e5 λz S Y=>?_
  obtain rfl:=Y.blE;exact⟨_,rfl,q U (s1.trans (s2.trans V))⟩
 .obtain rfl:=Y.blE
  cases Z;exact⟨false,rfl,yx ⟨_,rfl,q H2 (s1.trans s2)⟩⟩
 .cases Z
def lO{j pos'}(h:DE X fl .P a f):DT X fl (.Compare a [.IsNot] [.Constant .none j pos'] pos) (aQ (dUn lD f)):=PT.imp (M4 (Rt h)) λσ H Q h=>by
 refine D3.ex4 h λG ow δ Y R Z q=>?_
 refine D3.ex1 (bind1 Z) λd Z hd=>?_
 refine D3.ex1 (bind1 Z) λx e1 e2=>?_
 cases e2
 cases hd;refine⟨G,ow,δ,x,R,e1,λv H1 s1 r1=>?_⟩;refine⟨!decide (v = .non),rfl,?_⟩;rw[Ij (RA.same (Same.refl H1) r1)];exact q H1 s1
end
def Itz(K:PySem.W.Frag)(a b:Addr):It:=
 ⟨λi H=>∃xs ys x y,SqL K H a xs/\SqL K H b ys/\xs[i]? = some x/\ys[i]? = some y,
  λi H x H'=>∃p u v,H p=none/\H'=upd H p (.tup [u,v])/\x = .ref p/\(∀xs,SqL K H a xs->xs[i]? = some u)/\∀ys,SqL K H b ys->ys[i]? = some v,
  λi H=>∃xs ys,SqL K H a xs/\SqL K H b ys/\(xs.length<=i\/ys.length<=i)⟩
def Bm{z TI TO i1 i2 l1 l2:Addr} {xs ys:Array Value} (Y:IsZip h z TI TO c) (O:IsPair h TI m t) (J:IsPair h TO k b) (h1:h.IsListIter i1 l1 k1) (h2:h.IsListIter i2 l2 k2) (hl1:h.IsList l1 xs) (hl2:h.IsList l2 ys) (nT:TI≠TO) (ni:i1≠i2) :
 ZipApart z TI TO i1 i2 l1 l2:=by
 obtain⟨U,e1,X,Q⟩:=h1;obtain⟨V,e2,Z,R⟩:=h2;obtain⟨p1,g1,k1,S⟩:=hl1;obtain⟨p2,g2,k2,T⟩:=hl2;have ne:∀{u v:Addr}{o o':Obj},h.get? u=some o->h.get? v=some o'->o.cls≠o'.cls->u≠v:=λe W n z=>by
  subst z;rw[e]at W
  cases W;exact n rfl
 exact⟨ne O Y (by simp),ne J Y (by simp),ne e1 Y (by rw[X];simp),ne e2 Y (by rw[Z];simp),nT,ne O e1 (by rw[X];simp),ne O e2 (by rw[Z];simp),ne J e1 (by rw[X];simp),ne J e2 (by rw[Z];simp),ni,
  ne g1 Y (by rw[k1];simp),ne g1 J (by rw[k1];simp),ne g1 e1 (by rw[k1,X];simp),ne g1 e2 (by rw[k1,Z];simp),ne g2 Y (by rw[k2];simp),ne g2 J (by rw[k2];simp),ne g2 e1 (by rw[k2,X];simp),ne g2 e2 (by rw[k2,Z];simp)⟩
theorem Oj {x1} (a b z TI TO i1 i2:Addr) (nT:TI≠TO) (ni:i1≠i2) :
 Turn P w K (.Tuple elts x1 q0) (Itz K a b) [z,TI,TO,i1,i2] z (λi h=>IsZip h z TI TO .none/\IsPair h TI (.ref i1) (.ref i2)/\(∃u v,IsPair h TO u v)/\h.IsListIter i1 a i/\h.IsListIter i2 b i) where
 mem:=by simp
 obj:=λi h st c Z=>by
  obtain⟨V,Y,⟨u,v,W⟩,⟨o1,e1,c1,d1⟩,⟨o2,e2,c2,d2⟩⟩:=st;simp only[aK,gq,or_false]at Z;rcases Z with rfl|rfl|rfl|rfl|rfl
  .exact⟨_,V,λv z=>by cases z⟩
  .exact⟨_,Y,λv z=>by cases z⟩
  .exact⟨_,W,λv z=>by cases z⟩
  .exact⟨o1,e1,λv z=>by rw[d1]at z;cases z⟩
  .exact⟨o2,e2,λv z=>by rw[d2]at z;cases z⟩
 keep:=λi h h' st k=>by
  obtain⟨V,Y,⟨u,v,W⟩,h1,h2⟩:=st;exact⟨k _ (by simp) _ V,k _ (by simp) _ Y,⟨u,v,k _ (by simp) _ W⟩,h1.at λo e=>k i1 (by simp) o e,h2.at λo e=>k i2 (by simp) o e⟩
 item:=by
  intro X g hw f Z i pins s σ H E I F st j;subst g hw f;obtain⟨xs,ys,x,y,T,U,J,hy⟩:=j;obtain⟨L,R,N,n⟩:=I.list T;obtain⟨M,S,O,p⟩:=I.list U;obtain⟨B,l,t⟩:=R.get J;obtain⟨C,m,A⟩:=S.get hy;obtain⟨V,Y,⟨u,v,W⟩,h1,h2⟩:=st;have D:=Bm V Y W h1 h2 N.isList O.isList nT ni;have r:∀c∈[z,TI,TO,i1,i2],c<s.heap.objs.size:=λc Z=>by
   simp only[aK,gq,or_false]at Z;rcases Z with rfl|rfl|rfl|rfl|rfl
   .exact ac V
   .exact ac Y
   .exact ac W
   .obtain⟨o,e,_⟩:=h1;exact ac e
   .obtain⟨o,e,_⟩:=h2;exact ac e
  refine wpAny_pyNext_zip_item D V Y W h1 h2 N.isList O.isList (x:=B) (y:=C) (by simpa using l) (by simpa using m) λhh g1 g2 g3 g4 g5 g6 d=>?_
  refine⟨_,rfl,wpAny_letOwnedTupleGo_zip g1 λG e1 e2=>?_⟩
  replace e2:et z hh G:=e2
  have hn:=I.hok.fresh (bF _);have I0:Inv X pins σ (upd H s.heap.objs.size (.tup [x,y])) {s with heap:=s.heap.push {cls:=.type "tuple", data:=.seq #[B,C]} }:=
   I.laid (t':=s.toks) (λb o e=>ae _ e) (bF _) ⟨show 2<=sizeLine by decide,[B,C],.cons t (.cons A .nil),⟨_,ah _ rfl,rfl,_,rfl⟩⟩
  have ne:=λc Z=>bN (r c Z)
  have I1:Inv X pins σ (upd H s.heap.objs.size (.tup [x,y])) {s with heap:=G,toks:=s.toks}:=by
   refine Inv.turnedL (s:={s with heap:=s.heap.push {cls:=.type "tuple", data:=.seq #[B,C]} }) (ch:=[z,TI,TO,i1,i2]) I0 (λc o Z e=>?_) λc Z=>⟨by rw[cO (ne c Z)];exact(F c Z).1,(F c Z).2⟩
   have b1:c≠z:=λq=>Z (by simp[q])
   have b2:c≠TO:=λq=>Z (by simp[q])
   have b3:c≠i1:=λq=>Z (by simp[q])
   have b4:c≠i2:=λq=>Z (by simp[q])
   rcases cw e with⟨e3,e4⟩|e3
   .subst e3 e4;exact(e2.2 _ b1).trans g5
   .exact(e2.2 _ b1).trans (d c o b1 b2 b3 b4 e3)
  refine⟨.ref s.heap.objs.size,_,I1,rfl,⟨_,x,y,hn,rfl,rfl,λzs Q=>by rwa[I.list_inj Q T],λzs Q=>by rwa[I.list_inj Q U]⟩,⟨e1,(e2.2 _ D.TIz).trans (d _ _ D.TIz D.TITO D.TIi1 D.TIi2 Y),⟨_,_,(e2.2 _ D.TOz).trans g2⟩,g3.at λo e=>(e2.2 _ D.i1z).trans e,g4.at λo e=>(e2.2 _ D.i2z).trans e⟩,λc Z=>?_⟩;rw[cO (ne c Z)];exact(F c Z).1
 done:=by
  intro X g hw f Z i pins s σ H E I F st j;subst g hw f;obtain⟨xs,ys,T,U,J⟩:=j;obtain⟨L,R,N,n⟩:=I.list T;obtain⟨M,S,O,p⟩:=I.list U;obtain⟨V,Y,⟨u,v,W⟩,h1,h2⟩:=st;have D:=Bm V Y W h1 h2 N.isList O.isList nT ni;have la:=R.length;have lb:=S.length;refine wpAny_pyNext_zip_end (I.ok.hd Z) D V Y W h1 h2 N.isList O.isList ?_ λh' eb=>⟨rfl,Inv.turnedL (t':=s.toks) (ch:=[z,TI,TO,i1,i2]) I (λc o Z e=>eb c o (λq=>Z (by simp[q])) (λq=>Z (by simp[q])) (λq=>Z (by simp[q])) (λq=>Z (by simp[q])) e) F⟩
  rcases J with J|J
  .exact .inl (by simp;lia)
  .exact .inr (by simp;lia)
 self:=λ_ _ _ _ _ st h=>wpAny_pyIter_zip st.1 h
section
variable{X:Cx}{fl:List Fl}{a b:Expr}{f g:FE}
def aj2(K:PySem.W.Frag)(ta tb:TE):TI:=λσ H R=>ta σ H λx H1=>tb σ H1 λy H2=>∃p q,x = .ref p/\y = .ref q/\(∃xs,SqL K H2 p xs)/\(∃ys,SqL K H2 q ys)/\R (Itz K p q) H2
def boot_zip:bootBuiltins "zip"=some (.type "zip"):=by decide +kernel
theorem Xb {x1} (hg:Gl X "zip") (hm:X.mg "zip"=none) (ha:PE X a ta) (hb:PE X b tb) (he:starEach [a,b] X.env=(false,eval a X.env)::starEach [b] X.env:=by rfl) (O:starEach [b] X.env=(false,eval b X.env)::starEach [] X.env:=by rfl)
 (J:(backTo pos (starEach [b] X.env)).any (·.1)=false:=by rfl):PI X (.Tuple elts x1 c) (.Call (.Name "zip" p) [a,b] [] pos) (aj2 X.K ta tb):=by
 intro pins s σ H R I h;refine aw (pW I hg hm boot_zip (dn (thn ((iV ha (iV hb nR O) he) pos pins s σ H (λvs H1=>match vs with|[x,y]=>∃p q,x = .ref p/\y = .ref q/\(∃xs,SqL X.K H1 p xs)/\(∃ys,SqL X.K H1 q ys)/\R (Itz X.K p q) H1|_=>False) I h) λus s1 ⟨vs,H1,Y,r1,q1⟩=>?_) he J))
 cases r1 with
 |nil=>exact q1.elim
 |cons r rr=>
  cases rr with
  |nil=>exact q1.elim
  |cons S W=>
  cases W with
  |cons _ _=>exact q1.elim
  |nil=>
  obtain⟨l,m,e,L,⟨xs,P⟩,⟨ys,V⟩,q⟩:=q1;subst e L
  cases r
  cases S;obtain⟨its,F,pl,E⟩:=Y.list P;obtain⟨U,T,pl',Q⟩:=Y.list V;refine call_zip_2 pl.isList pl'.isList λh' g1 g2 g3 M N D hk=>?_
  have G:=Y.kept (t':=s1.toks) hk;refine wpAny_pyIter_zip (s:={s1 with heap:=h'}) g1 ?_;refine⟨s1.heap.objs.size+4,[s1.heap.objs.size+4,s1.heap.objs.size+2,s1.heap.objs.size+3,s1.heap.objs.size,s1.heap.objs.size+1],_,_,H1,rfl,G,Oj l m (s1.heap.objs.size+4) (s1.heap.objs.size+2) (s1.heap.objs.size+3) s1.heap.objs.size (s1.heap.objs.size+1) (bN (mW _)) (bN (mW _)),⟨g1,g2,⟨_,_,g3⟩,M,N⟩,λb hb=>?_,q⟩;have Z:s1.heap.objs.size<=b:=by
   simp only[aK,gq,or_false]at hb;rcases hb with rfl|rfl|rfl|rfl|rfl<;>lia
  exact Y.fpOk Z (Y.hok.fresh Z)
theorem Gb:∀(l m:List D)(i:Nat),(uI l m)[i]? = (l[i]?).bind λx=>(m[i]?).map λy=>cP [x,y]
 |[],_,i=>by simp[uI]
 |_::_,[],i=>by cases i<;>simp[uI]
 |x::l,y::m,0=>by simp[uI]
 |x::l,y::m,i+1=>by simp[uI,Gb l m i]
theorem Ge:∀(l m:List D),(uI l m).length=min l.length m.length
 |[],_=>by simp[uI]
 |_::_,[]=>by simp[uI]
 |x::l,y::m=>by simp[uI,Ge l m]
def RsB.same{Hb:Hp}{L:List Nat}(e:Same H H')(h:Rs K G.H0 ow Hb H (.B L) v d):Rs K G.H0 ow Hb H' (.B L) v d:=by
 rcases h with h|⟨i,hi,a,xs,ds,h1,h2,X,Y,Z⟩
 .exact .inl (RA.same e h)
 .exact .inr ⟨i,hi,a,xs,ds,h1,h2,X,e _ _ Y,Z.same e⟩
def Xc{elts:List Expr}{x1}{tpos:Pos}{L1 L2 L:List Nat}(ha:DE X fl (.B L1) a f)(hb:DE X fl (.B L2) b g)(hg:Gl X "zip")(hm:X.mg "zip"=none)(hL:L=L1++L2:=by rfl)
 (he:starEach [a,b] X.env=(false,eval a X.env)::starEach [b] X.env:=by rfl) (O:starEach [b] X.env=(false,eval b X.env)::starEach [] X.env:=by rfl)
 (J:(backTo pos (starEach [b] X.env)).any (·.1)=false:=by rfl):DI X fl L (.Tuple elts x1 tpos) (.Call (.Name "zip" p) [a,b] [] pos) (W5 f g):=PI.imp (Xb hg hm ha hb he O J) λσ H R' h=>by
 subst hL;refine D3.ex4 h λG ow δ l R W q=>?_
 refine D3.ex1 (bind1 W) λd e1 W=>?_
 refine D3.ex1 (bind1 W) λK e2 W=>?_
 obtain⟨Q,rfl⟩:∃Q,d = .list Q:=by cases d<;>first|exact⟨_,rfl⟩|(cases W;done)
 obtain⟨S,rfl⟩:∃S,K = .list S:=by cases K<;>first|exact⟨_,rfl⟩|(cases W;done)
 cases W;refine⟨G,ow,δ,_,R,e1,λv H1 s1 r1=>⟨G,ow,δ,_,R.grow s1,e2,λc H2 s2 r2=>?_⟩⟩;have T:=RsB.same s2 r1;obtain⟨C,xs,rfl,t,Y⟩:=yP ((R.grow s1).grow s2) T;obtain⟨D,ys,rfl,A,Z⟩:=yP ((R.grow s1).grow s2) r2;refine⟨C,D,rfl,rfl,⟨xs,t⟩,⟨ys,A⟩,q _ _ (s1.trans s2) λI k3 i=>?_⟩;obtain⟨a1,a2⟩:=Y I λb o e z=>k3 b o e λi w=>aU _ (z i w)
 obtain⟨b1,b2⟩:=Z I λb o e z=>k3 b o e λi w=>aL _ (z i w)
 refine⟨λd hd=>?_,λhl=>⟨xs,ys,a1,b1,?_⟩⟩
 .rw[Gb]at hd
  cases ea:Q[i]? with
  |none=>rw[ea]at hd;cases hd
  |some x0=>
   cases M:S[i]? with
   |none=>rw[ea,M]at hd;cases hd
   |some j=>
    rw[ea,M]at hd
    cases hd;obtain⟨x,U,E⟩:=a2.get ea;obtain⟨y,V,F⟩:=b2.get M;refine⟨⟨xs,ys,x,y,a1,b1,U,V⟩,λz H4 P=>?_⟩;obtain⟨p',u,v,n,rfl,rfl,r,s⟩:=P;have k:=U.symm.trans (r xs a1);have m:=V.symm.trans (s ys b1)
    cases k
    cases m;have N:=eO n (.tup [x,y]);exact⟨N,.tup dH (.cons (E.same N) (.cons (F.same N) .nil))⟩
 .rw[Ge]at hl;rw[a2.length,b2.length];lia
end
end D3
namespace D3
open L2 My
section
variable{X:Cx}{fl:List Fl}{a b c:Expr}{rest:List Expr}{k:Kd}{f fa:FE}
def CK:DE X fl .T (.Dict [] [] pos) (dC (.dict [])):=PE.imp NQ λσ H Q h=>by
 refine D3.ex4 h λG ow δ d R W q=>?_
 cases W;intro p Y;exact q _ _ (eO Y _) ⟨[p],.dic dH (.inl ⟨rfl,rfl⟩),cI.mpr ⟨gq,.nil⟩,λx Z=>by rwa[aB.mp Z]⟩
def Zz(h:DE X fl .T e f):DE X fl .C e f:=oF h λHb H G ow σ δ v d R r=>by
 obtain⟨as,h1,h2,Z⟩:=r;exact h1.ra Z
def CN(i:Nat)(hn:isN fl[i]? = true) (O:X.N[i]? = some m:=by rfl) (J:Vis X.env.scope m:=by first|exact Or.inl rfl|exact Or.inr (Or.inl rfl)|exact Or.inr (Or.inr rfl)) (hd:(m==("__debug__":Str))=false:=by decide)
 (hcd:(m==("__classdict__":Str))=false:=by decide):DE X fl .P (.Name m pos) (ak i):=by
 refine PE.imp (mY O J hd hcd) λσ H Q h=>?_
 refine D3.ex4 h λG ow δ d R Z q=>?_
 obtain⟨v,h1,h2,_⟩:=R.nr i d hn (oE Z);exact⟨v,h1,q v H (Same.refl H) (h2.ra λ_ _=>trivial)⟩
def Ol(i:Nat)(hn:isN fl[i]? = true) (O:X.N[i]? = some m:=by rfl) (J:Vis X.env.scope m:=by first|exact Or.inl rfl|exact Or.inr (Or.inl rfl)|exact Or.inr (Or.inr rfl)) (hd:(m==("__debug__":Str))=false:=by decide)
 (hcd:(m==("__classdict__":Str))=false:=by decide):DE X fl .R (.Name m pos) (ak i):=by
 refine PE.imp (mY O J hd hcd) λσ H Q h=>?_
 refine D3.ex4 h λG ow δ d R Z q=>?_
 obtain⟨v,h1,h2,_⟩:=R.nr i d hn (oE Z);exact⟨v,h1,q v H (Same.refl H) (h2.ra λa ha=>(R.nt i a ha).1)⟩
end
section
variable{fl:List Fl}
def owN(ow:Ow)(i:Nat)(as:List Addr):Ow:=⟨ow.s,λj=>if j=i then as else ow.n j⟩
def m5 : (owN ow i as).n i=as:=if_pos rfl
def lU (h:j≠i):(owN ow i as).n j=ow.n j:=if_neg h
def Rel.setN (R:Rel K fl G ow σ H δ) (s:Same H H') (J:fl[i]? = some .N) (hi:i<σ.length) (r:Rs K G.H0 ow H H' .T v d) :
 ∃O,Rel K fl G O (σ.set i (some v)) H' (δ.set i (some (.d d))):=by
 have R':=R.grow s;obtain⟨as,h1,h2,U⟩:=r;have no:∀a,ow i≠some a:=λa z=>by
  obtain⟨_,M,_⟩:=R.own i a z;rw[J]at M;rcases M with⟨z,_⟩|⟨z,_⟩<;>cases z
 have sub:∀b,okA ow b/\H b≠none->okA (owN ow i as) b:=λb z=>⟨z.1.1,λj e=>by
  by_cases Z:j=i
  .subst Z;rw[m5]at e;exact z.2 (U b e)
  .rw[lU Z]at e;exact z.1.2 j e⟩
 have old:∀{v:V}{d:D},RA K (okA ow) true H v d->RA K (okA (owN ow i as)) true H' v d:=λr=>(r.track.imp sub (λz=>z)).same s
 have olds:∀{v:List V}{d:List D},RAs K (okA ow) true H v d->RAs K (okA (owN ow i as)) true H' v d:=λr=>(r.track.imp sub (λz=>z)).same s
 refine⟨owN ow i as,R'.s0,R'.s1,by rw[cM,cM];exact R.len,λj a h=>?_,R.inj,R.pin,λj S g1 X g2=>?_,λj S g1 X g2 g3=>?_,λj a h=>?_,λj W a h h'=>?_,λj W a h=>?_,λj h=>?_,λj S X g1=>?_⟩
 .have Z:j≠i:=λz=>no a (z▸h)
  obtain⟨I,L,xs,ds,g1,g2,g3,P⟩:=R.own j a h;exact⟨I,L,xs,ds,by rwa[bh (c9 Z)],s _ _ g2,olds g3,by rwa[bh (c9 Z)]⟩
 .rcases iW g1 with⟨rfl,e⟩|⟨Z,e⟩
  .rw[J]at X;cases X
  .obtain⟨Q,g3,P⟩:=R.dat j S e X g2;exact⟨Q,by rwa[bh (c9 Z)],old P⟩
 .rcases iW g1 with⟨rfl,e⟩|⟨Z,e⟩
  .rw[J]at X;cases X
  .exact R.oo j S e X g2 g3
 .by_cases Z:j=i
  .subst Z;rw[m5]at h;exact⟨R.same0.free (U a h),h1.chd a h,.inl ⟨J,R.s1.free (U a h)⟩⟩
  .rw[lU Z]at h;exact R'.nt j a h
 .by_cases Z:j=i
  .by_cases Y:W=i
   .rw[Z,Y]
   .subst Z;rw[m5]at h;rw[lU Y]at h';exact absurd (U a h) (R.nt W a h').2.1.ne
  .rw[lU Z]at h;by_cases Y:W=i
   .subst Y;rw[m5]at h';exact absurd (U a h') (R.nt j a h).2.1.ne
   .rw[lU Y]at h';exact R.nd j W a h h'
 .by_cases Z:j=i
  .subst Z;rw[m5]at h;exact λz=>by
    obtain⟨_,_,_,_,_,g2,_⟩:=R.own W a z;rw[U a h]at g2
    cases g2
  .rw[lU Z]at h;exact R.ns j W a h
 .have Z:j≠i:=λz=>by subst z;rw[J]at h;cases h
  rw[lU Z];exact R.np j h
 .rcases iW g1 with⟨rfl,e⟩|⟨Z,e⟩
  .cases e;exact⟨v,by rw[cL hi],by rwa[m5],by rwa[m5]⟩
  .obtain⟨Q,g3,P⟩:=R'.nr j S X e;exact⟨Q,by rwa[bh (c9 Z)],by rwa[lU Z]⟩
def Rel.mutN{σ:St}{u O:HO}[cu:Chg u][cu':Chg O]{d:D}{v:V}{as:List Addr}(R:Rel K fl G ow σ H δ)(J:fl[i]? = some .N)(hi:i<δ.length)(ha:a∈ow.n i)(hx:H a=some u)(hv:σ[i]? = some (some v))
 (hr:RT K (upd H a O) v d as) (hs:∀b∈as,b∈ow.n i) (hd:as.Nodup):∃ow',Rel K fl G ow' σ (upd H a O) (δ.set i (some (.d d))):=by
 have S:¬okA ow a:=λz=>z.2 i ha
 have M:G.HF a=none:=by
  rcases(R.nt i a ha).2.2 with⟨_,z⟩|z
  .exact z
  .rw[J]at z;cases z
 have no:∀a,ow i≠some a:=λa z=>by
  obtain⟨_,Q,_⟩:=R.own i a z;rw[J]at Q;rcases Q with⟨z,_⟩|⟨z,_⟩<;>cases z
 have sub:∀b,okA ow b->okA (owN ow i as) b:=λb z=>⟨z.1,λj e=>by
  by_cases Z:j=i
  .subst Z;rw[m5]at e;exact z.2 j (hs b e)
  .rw[lU Z]at e;exact z.2 j e⟩
 have tr:∀b,Chd (H b)->Chd (upd H a O b):=λb z=>by
  by_cases hb:b=a
  .rw[hb,dH];exact⟨_,rfl,cu'⟩
  .rwa[cO hb]
 refine⟨owN ow i as,R.s0,λb o hb=>?_,by rw[cM];exact R.len,λj b h=>?_,R.inj,R.pin,λj W g1 Y g2=>?_,λj W g1 Y g2 g3=>?_,λj b h=>?_,λj X b h h'=>?_,λj X b h=>?_,λj h=>?_,λj W Y g1=>?_⟩
 .rw[cO (λz=>by subst z;rw[M]at hb;cases hb)];exact R.s1 b o hb
 .have Z:j≠i:=λz=>no b (z▸h)
  obtain⟨L,P,zs,ds,g1,g2,g3,U⟩:=R.own j b h;have hb:b≠a:=λz=>R.ns i j a ha (z▸h)
  exact⟨L,P,zs,ds,g1,by rwa[cO hb],(g3.upd hx S).imp sub (λz=>z),by rwa[bh (c9 Z)]⟩
 .rcases iW g1 with⟨rfl,e⟩|⟨Z,e⟩
  .rw[J]at Y;cases Y
  .obtain⟨T,g3,U⟩:=R.dat j W e Y g2;exact⟨T,g3,(U.upd hx S).imp sub (λz=>z)⟩
 .rcases iW g1 with⟨rfl,e⟩|⟨Z,e⟩
  .rw[J]at Y;cases Y
  .exact R.oo j W e Y g2 g3
 .by_cases Z:j=i
  .subst Z;rw[m5]at h;obtain⟨g1,g2,g3⟩:=R.nt j b (hs b h);exact⟨g1,tr b g2,g3⟩
  .rw[lU Z]at h;obtain⟨g1,g2,g3⟩:=R.nt j b h;exact⟨g1,tr b g2,g3⟩
 .have old:∀j b,b∈(owN ow i as).n j->b∈ow.n j:=λj b h=>by
   by_cases Z:j=i
   .subst Z;rw[m5]at h;exact hs b h
   .rw[lU Z]at h;exact h
  exact R.nd j X b (old j b h) (old X b h')
 .by_cases Z:j=i
  .subst Z;rw[m5]at h;exact R.ns j X b (hs b h)
  .rw[lU Z]at h;exact R.ns j X b h
 .have Z:j≠i:=λz=>by subst z;rw[J]at h;cases h
  rw[lU Z];exact R.np j h
 .rcases iW g1 with⟨rfl,e⟩|⟨Z,e⟩
  .cases e;exact⟨v,hv,by rwa[m5],by rwa[m5]⟩
  .obtain⟨T,g3,U,I⟩:=R.nr j W Y e;exact⟨T,g3,by rw[lU Z];exact U.upd hx (λz=>Z (R.nd j i a z ha)),by rwa[lU Z]⟩
end
section
variable{H:Hp}
end
section
variable{X:Cx}{fl:List Fl}{f fk:FE}
def CP(O:fl[i]? = some .N)(hN:X.N.Nodup)(hi:X.N[i]? = some x)(hv:X.env.scope.names.lookup x=some .local\/X.env.scope.names.lookup x=some .cell)(h:DE X fl .T e f)
 (hs:swapsWith e (some (.Name x pos')) pos.line X.env=pure false:=by rfl) (J:X.fn x=true\/X.env.scope.names.lookup x=some .local:=by first|exact .inl rfl|exact .inr rfl) :
 DS1 X fl (.Assign [.Name x pos'] e pos) (bL i f):=PS.imp (Cj (i:=i) hN hi hv h hs J) λDn σ H h=>by
 refine D3.ex4 h λG ow δ o R Z q=>?_
 unfold bL at Z;by_cases hl:i<δ.length
 .rw[if_pos hl]at Z;refine D3.ex1 (bind1 Z) λd e1 e2=>?_
  cases e2;refine⟨G,ow,δ,d,R,e1,λv H' s r=>?_⟩;obtain⟨Y,R'⟩:=R.setN s O (rB R hl) r;exact q Y _ H' R'
 .rw[if_neg hl]at Z
  cases Z
end
end D3
variable{b:D3.FS}
namespace D3
noncomputable def qM(g:List D->Option (List D))(i:Nat)(x:Option D)(δ:DS):Option Oc:=match x with
 |some (.list l)=>match g l with
  |some m=>some (.nx (δ.set i (some (.d (.list m)))))
  |none=>none
 |_=>none
noncomputable def Gf(n:Nat)(j:Int):Nat:=if j<0 then(j+n).toNat else min j.toNat n
def Ik(j:Int)(d:D)(l:List D):Option (List D):=if l.length<1000000/\-(2^62)<=j/\j<2^62 then some (l.take (Gf l.length j)++d::l.drop (Gf l.length j))else none
def qIn(i:Nat)(k d x:Option D)(δ:DS):Option Oc:=match k,d with
 |some (.int j),some d=>qM (Ik j d) i x δ
 |_,_=>none
def Ab(i:Nat)(fk f:FE):FS:=λδ=>qIn i (fk δ) (f δ) (ak i δ) δ
def uL:List D->Option D
 |[.int hi]=>if(-(2^62)<=hi/\hi<2^62)/\(hi-0).toNat<=1000000 then some (.list (d_ 0 hi))else none
 |_=>none
def JQ (h:0<=hi) (h':hi<=1000000):uL [.int hi]=some (.list (d_ 0 hi)):=by
 show(if(-(2^62)<=hi/\hi<2^62)/\(hi-0).toNat<=1000000 then some (d5 (d_ 0 hi))else none)=_;rw[if_pos ⟨⟨by lia,by lia⟩,by lia⟩]
def Om:D->Bool
 | .list _=>true
 | .tuple _=>true
 | .dict _=>true
 |_=>false
noncomputable def iiD:List (D×D)->Option (List (Int×Int))
 |[]=>some []
 | (.int i,.int j)::r=>(iiD r).map ((i,j) :: ·)
 |_=>none
mutual
def noK:D->Bool
 | .none=>true
 | .bool _=>true
 | .int _=>true
 | .str _=>true
 | .list xs=>Gg xs
 | .tuple xs=>Gg xs
 | .dict kvs=>(iiD kvs).isSome
def Gg:List D->Bool
 |[]=>true
 |x::r=>noK x&&Gg r
end
theorem yS:∀l:List D,(∀d∈l,noK d=true)->Gg l=true
 |[],_=>rfl
 |a::r,h=>by
  rw[Gg,h a (aD ..),yS r λd hd=>h d (aA _ hd)];rfl
def Le:D->D->Option D:=λx y=>if(cK x&&cK y)=true then some (.bool (da x y))else @ite _ (x=y/\Om x=true/\x.depth<=64/\noK x=true) (Classical.propDecidable _) (some (.bool true)) none
def SJ{x:D}(h:gEq x y=some d):Le x y=some d:=by
 unfold gEq at h;unfold Le;split at h
 .next z=>rwa[if_pos z]
 .cases h
def Oo{x:D}(J:cK x=false)(hb:Om x=true)(hd:x.depth<=64)(hn:noK x=true):Le x x=some (.bool true):=by
 unfold Le;rw[J,if_neg (by decide),if_pos ⟨rfl,hb,hd,hn⟩]
noncomputable def VN:D->Option (List D)
 | .list l=>some l
 | .tuple l=>some l
 |_=>none
def qSq(x:Option D):Option (List D):=x.bind VN
def Xd(f:FE):FA:=λδ=>(f δ).bind VN
def Xe : Xd c δ=qSq (c δ):=rfl
def Xf:qSq (some (.list l))=some l:=rfl
def Oq:qSq (some (.tuple l))=some l:=rfl
def Xh{g:List D->Option (List D)}{x:Option D}(h:qM g i x δ=some o):∃l m,x=some (.list l)/\g l=some m/\o = .nx (δ.set i (some (.d (.list m)))):=by
 unfold qM at h;split at h
 .next l=>
  split at h
  .next m e=>cases h;exact⟨l,m,rfl,e,rfl⟩
  .cases h
 .cases h
def Ot{f:FE}:Ab i fk f δ=qIn i (fk δ) (f δ) (ak i δ) δ:=rfl
def CQ{j:Int}{x:Option D}:qIn i (some (.int j)) (some d) x δ=qM (Ik j d) i x δ:=rfl
def Xi{g:List D->Option (List D)}{m:List D}(h:g l=some m):qM g i (some (.list l)) δ=some (.nx (δ.set i (some (.d (.list m))))):=by
 show(match g l with
  |some m=>some (Oc.nx (δ.set i (some (.d (.list m)))))
  |none=>none)=_
 rw[h]
noncomputable def gIn:D->D->Option D:=λx y=>match y with
 | .list l=>if(cK x&&cK (.list l))=true then some (.bool (l.any λz=>da z x))else none
 | .tuple l=>if(cK x&&cK (.tuple l))=true then some (.bool (l.any λz=>da z x))else none
 |_=>none
noncomputable def sS:D->D->Option D:=λx y=>match y with
 | .list l=>if(cK x&&cK (.list l))=true then some (.bool (!l.any λz=>da z x))else none
 | .tuple l=>if(cK x&&cK (.tuple l))=true then some (.bool (!l.any λz=>da z x))else none
 |_=>none
def qRL(a:Option D):Option Oc:=match a with
 |some d=>some (.ex "" "" d)
 |none=>none
def Bo(fe:FE):FS:=λδ=>(fe δ).bind λd=>some (.ex "" "" d)
def yU : Bo fe δ=qRL (fe δ):=by
 unfold Bo qRL
 cases fe δ<;>rfl
def sU:qRL (some d)=some (.ex "" "" d):=rfl
noncomputable def SM(o:Option Oc):Option D:=match o with
 |some (.rt d)=>some d
 |some (.ex _ _ d)=>some d
 |some (.nx _)=>some .none
 |_=>none
def fnL(p q:Nat)(b:FS):List D->Option D:=λds=>if ds.length=p then SM (b (ds.map (λd=>some (.d d))++aW q none))else none
def Gi : fnL c k b ds=if ds.length=c then SM (b (ds.map (λd=>some (.d d))++aW k none))else none:=rfl
def sV : SM (some (.ex c f d))=some d:=rfl
end D3
namespace D3
open L2 My
section
variable{X:Cx}
def SN:V->List V->Hp->VK->Prop:=λx vs H Q=>∃l xs i y,x = .ref l/\vs=[.int i,y]/\H l=some (.lst xs)/\-(2^63)<=i/\i<2^63/\xs.length<sizeLine/\Q .non (upd H l (.lst (xs.take (Gf xs.length i)++y::xs.drop (Gf xs.length i))))
def SX(J:List Value)(k:Nat)(y:Value):(J.toArray.extract 0 k).push y++J.toArray.extract k=(J.take k++y::J.drop k).toArray:=by
 apply Array.ext';simp[List.extract_eq_drop_take];exact qy (by simp)
def Lf:MtM X "list.insert" SN:=by
 intro pins s σ H x vs v us Q I U T h;obtain⟨l,xs,i,y,rfl,rfl,V,h1,h2,R,q⟩:=h
 cases U;obtain⟨S,Z,rfl,W,Y⟩:=T.two;obtain⟨t,rfl⟩:=W;obtain⟨z,its,n,r,hl,e⟩:=I.lstM V;refine b9 F.slot_list_insert ⟨_,e,rfl⟩ F.entry_list_insert (F.args_list_insert_3 _ _ _) (AutoSeq1.list_insert_list_int_val_1 l its.toArray n i t Z (by simp[fitsIndex_both h1 h2]) (by rw[bG];lia)) ⟨e,?_⟩;refine⟨.non,_,I.lset (its':=its.take (Gf xs.length i)++Z::its.drop (Gf xs.length i)) V e ?_ ((r.take _).append (.cons Y (r.drop _))) ?_,rfl,q⟩
 .rw[hl];exact SX its (Gf its.length i) Z
 .rw[bx,bI,kj,kE];lia
end
section
variable{X:Cx}{fl:List Fl}{f fk:FE}
def RAs.erase {d:List D} (n:Nat) (r:RAs K ok pl H c d):RAs K ok pl H (c.eraseIdx n) (d.eraseIdx n):=by
 rw[mU,mU];exact(r.take n).append (r.drop (n+1))
def Il(hfl:fl[i]? = some .O)(hk:DE X fl .P ke fk)(h:DE X fl .A e f)(hN:X.N[i]? = some x)(hv:Vis X.env.scope x:=by first|exact Or.inl rfl|exact Or.inr (Or.inl rfl)|exact Or.inr (Or.inr rfl))(hd:(x==("__debug__":Str))=false:=by decide)
 (hcd:(x==("__classdict__":Str))=false:=by decide)
 (hs:swapsWith (.Call (.Attribute (.Name x vpos) "insert" apos) [ke,e] [] cpos) none pos.line X.env=pure false:=by rfl)
 (Z:attributeBase (.Name x vpos) "insert" X.env (eval (.Name x vpos) X.env)=eval (.Name x vpos) X.env:=by rfl)
 (hfew:((backTo cpos (starEach [ke,e] X.env)).all (λx=>!x.1)&&(backToKw cpos (keywordEach [] X.env)).all (λx=>x.1.isSome)
  && decide (([ke,e]:List Expr).length+([]:List ef).length+(if([]:List ef).isEmpty then 0 else 1)<30))=true:=by rfl)
 (Y:(apos.endLine==cpos.line)=true:=by rfl) (hst:starEach [ke,e] X.env=(false,eval ke X.env)::starEach [e] X.env:=by exact fZ rfl) (hst2:starEach [e] X.env=(false,eval e X.env)::starEach [] X.env:=by exact fZ rfl) (J:(backTo cpos (starEach [e] X.env)).any (·.1)=false:=by exact sH rfl) :
 DS1 X fl (.Expr (.Call (.Attribute (.Name x vpos) "insert" apos) [ke,e] [] cpos) pos) (Ab i fk f):=
 PS.imp (xO (Nv PySem.F.plainAttrs_list PySem.F.slot_list_insert PySem.F.type_list_insert Lf (mY hN hv hd hcd) (iV hk (iV h nR hst2) hst) Z hfew Y hst J) hs) λDn σ H hh=>by
 refine D3.ex4 hh λG ow δ o R V q=>?_
 unfold Ab qIn at V;split at V
 case h_2=>cases V
 next j d ek Q=>
 obtain⟨l,m,e1,e2,rfl⟩:=Xh V;unfold Ik at e2;by_cases hl:l.length<1000000/\-(2^62)<=j/\j<2^62
 case neg=>rw[if_neg hl]at e2;cases e2
 rw[if_pos hl]at e2
 cases e2;obtain⟨a,xs,T,h1,h2,U⟩:=Ie R hfl e1;refine⟨_,h1,.inl ⟨rfl,_,SqL.of h2⟩,G,ow,δ,_,R,ek,λv H' s r=>?_⟩;obtain rfl:=RA.intE r;refine⟨G,ow,δ,d,R.grow s,Q,λu H2 s2 r2=>?_⟩;have S:=s.trans s2;refine⟨a,xs,j,u,rfl,rfl,S _ _ h2,by lia,by lia,by rw[U.length];exact kI hl.1 (by decide),?_⟩;have R':=R.grow S;have W:=U.same S;refine q ow σ _ (R'.mut hfl T ?_);rw[U.length];exact(W.take _).append (.cons r2 (W.drop _))
end
section
variable{X:Cx}{fl:List Fl}{a:Expr}{fa:FA}
theorem Gj(h:DB X fl .P [a] fa)(hc:X.calm=true)(hg:Gl X "list")(hm:X.mg "list"=none)(hg2:Gl X "range")(hm2:X.mg "range"=none)
 (hs:starEach [a] X.env=(false,eval a X.env)::starEach [] X.env:=by exact fZ rfl)
 (O:starEach [.Call (.Name "range" p2) [a] [] pos2] X.env=(false,eval (.Call (.Name "range" p2) [a] [] pos2) X.env)::starEach [] X.env:=by rfl) (J:(backTo pos (starEach [] X.env)).any (·.1)=false:=by rfl) :
 DE X fl .FC (.Call (.Name "list" p) [.Call (.Name "range" p2) [a] [] pos2] [] pos) (dCall uL fa):=by
 intro pins s σ H Q I A;refine D3.ex4 A λG ow δ d R x q=>?_
 refine D3.ex1 (bind1 x) λds e1 e2=>?_
 unfold uL at e2;split at e2
 case h_2=>cases e2
 next hi=>
 by_cases z:(-(2^62)<=hi/\hi<2^62)/\(hi-0).toNat<=1000000
 case neg=>rw[if_neg z]at e2;cases e2
 rw[if_pos z]at e2
 cases e2;obtain⟨⟨E,F⟩,L⟩:=z;refine aw (pW I hg hm boot_list (dn ?_ O J));rw[O];refine bn ?_;refine Call_ (pW I hg2 hm2 boot_range (dn (thn (h pos2 pins s σ H (λvs H1=>Same H H1/\RAs X.K ok1 true H1 vs [.int hi]) I ⟨G,ow,δ,_,R,e1,λvs H' s' B=>⟨s',B⟩⟩) λus s1 ⟨vs,H1,M,r1,Y,D⟩=>?_) hs rfl))
 cases D with
 |cons ra C=>
  cases C;obtain rfl:=ra.intE
  cases r1 with
  |cons x1 x2=>
   cases x2;obtain⟨t,rfl⟩:=x1;refine call_range_1 ?_;refine bE ?_;have T:eC 0 hi 1=(((hi-0).toNat:Nat):Int):=by rw[rangeSize_one];split<;>lia
   refine call_list_range (n:=(hi-0).toNat) (I.ok.hd hc) (IsRange.new ..) (small_one (by decide) (by decide) E F) T (by lia) λh' tk Z c' hk S U=>?_
   obtain⟨a1,a2⟩:=U;have N:Vals ((iT 0 Z.toList.length).map λ(j:Nat)=>V.int (0+(j:Int))) Z.toList:=JM Z.toList 0 λj v y=>by
    obtain⟨tt,e⟩:=a2 j v (by simpa using y);rw[jA];exact⟨tt,by rw[e,Int.mul_one]⟩
   have w:Z.toList.length=(hi-0).toNat:=by simpa using a1
   rw[w]at N;have W:s1.heap.objs.size<=(s1.heap.push {cls:=.type "range", data:=.fields #[.int 0 s1.toks,.int hi t,.int 1 (s1.toks+1)]}).objs.size:=by rw[Heap.size_push];exact nu _
   have hn:=M.hok.fresh W;have r:=M.laid (h':=h') (t':=tk) (a:=(s1.heap.push {cls:=.type "range", data:=.fields #[.int 0 s1.toks,.int hi t,.int 1 (s1.toks+1)]}).objs.size) (o:=.lst ((iT 0 (hi-0).toNat).map λ(j:Nat)=>V.int (0+(j:Int)))) (λb u e=>hk b u (ae _ e)) W
    ⟨by rw[au,List.length_range'];exact bO L (by decide),Z.toList,c',N,by simpa using S⟩
   refine⟨.ref (s1.heap.push {cls:=.type "range", data:=.fields #[.int 0 s1.toks,.int hi t,.int 1 (s1.toks+1)]}).objs.size,_,r,rfl,q _ _ (Y.trans (eO hn _)) (.inr ⟨_,_,_,rfl,?_,Y.free hn,dH,Oi 0 _ 0⟩)⟩;unfold d_;rw[rQ]
end
end D3
namespace D3
open L2 My
section
variable{X:Cx}{σ:L2.St}{H:Hp}
theorem Ou:∀{kvs:List (D×D)}{J:List (Int×Int)},iiD kvs=some J->dk0 kvs=J.map λq=>(.inl q.1,.int q.2)
 |[],_,e=>by cases e;rfl
 | (k,v)::r,J,e=>by
  unfold iiD at e;split at e
  .next h=>cases h
  .next i j Z h=>
   cases h
   cases e3:iiD r with
   |none=>rw[e3]at e;cases e
   |some q2=>
    rw[e3]at e
    cases e;rw[dk0,Ou e3];rfl
  .cases e
theorem Ov:∀{kvs:List (D×D)}{J:List (Int×Int)},iiD kvs=some J->Aa kvs=true
 |[],_,_=>rfl
 | (a,b)::r,J,h=>by
  unfold iiD at h;split at h
  .next e=>cases e
  .next e=>
   cases e
   cases e3:iiD r with
   |none=>rw[e3]at h;cases h
   |some S=>exact(show Aa r=true from Ov e3)
  .cases h
def JR(h:(iiD kvs).isSome=true):Aa kvs=true:=by
 obtain⟨_,h⟩:=cR.mp h;exact Ov h
theorem Xj{J:List (Int×Int)}(h:iiD kvs=some J):dh0 kvs = .dK (dk0 kvs):=by
 cases kvs with
 |nil=>rfl
 |cons q r=>
  obtain⟨k,v⟩:=q
  cases k with
  |int i=>rfl
  |_=>unfold iiD at h;cases h
theorem Bp{O:cN}{J:df}:∀{es:List DictEntry}{kvs:List (Key×Value)},Pairs (dD P w) es kvs->Pairs (dD O J) es kvs
 |_,_,.nil=>.nil
 |_,_,.cons h1 h2 q=>.cons h1 h2 (Bp q)
theorem Bq:∀{es:List DictEntry}{kvs:List (Key×Value)},Pairs (dD P w) es kvs->∀x∈es,∃J∈kvs,(dD P w).is J.1 x.key=true
 |_,_,.nil,_,h=>by cases h
 |_,_,.cons h1 h2 q,x,h=>by
  rcases aK.mp h with rfl|z
  .exact⟨_,aD,h1⟩
  .obtain⟨J,m,e⟩:=Bq q x z;exact⟨J,aA _ m,e⟩
def Im{P':cN}{O:df}{kvs:List (Key×Value)}(hi:∀J∈kvs,∃i,J.1 = .inl i)(d:h.DictOf (dD P w) a kvs):h.DictOf (dD P' O) a kvs:=by
 obtain⟨o,es,X,e,S,T,U,Y,V⟩:=d;refine⟨o,es,X,e,S,T,λx Z=>?_,Bp Y,V⟩;obtain⟨k,k1,k2⟩:=U x Z;obtain⟨J,m,k3⟩:=Bq Y x (Array.mem_def.mp Z);have ek:=(dD P w).inj _ _ _ k1 k3;obtain⟨i,W⟩:=hi J m;rw[ek,W]at k1 k2;exact⟨.inl i,k1,k2⟩
theorem pN:∀{J:List (Int×Int)}{vs:List (Key×Value)},KV (J.map λq=>((.inl q.1,.int q.2):Key×V)) vs->vs.map (·.1)=J.map (λq=>.inl q.1)/\∀k v,(k,v)∈vs->∃i j t,k = .inl i/\v = .int j t/\(i,j)∈J
 |[],_,h=>by cases h;exact⟨rfl,λ_ _ h=>by cases h⟩
 |q::J,_,h=>by
  cases h with
  |cons h1 h2=>
   rename_i b bs;obtain⟨e1,e2⟩:=pN h2;obtain⟨e3,e4⟩:=h1;obtain⟨t,e4⟩:=e4;refine⟨by rw[bJ,bJ,e1,<-e3],λk v hm=>?_⟩;rcases aK.mp hm with z|z
   .subst z;exact⟨q.1,q.2,t,e3.symm,e4,aD⟩
   .obtain⟨i,j,t',X,Y,Z⟩:=e2 k v z;exact⟨i,j,t',X,Y,aA _ Z⟩
def VP(I:L2.Inv X pins σ H s){a:Addr}{kvs:List (D×D)}{J:List (Int×Int)}(O:iiD kvs=some J)(h:L2.Rd H a (dh0 kvs)):(a==sysModules)=false/\∃vs,KV (J.map λq=>((.inl q.1,.int q.2):Key×V)) vs/\∀P w,s.heap.DictOf (dD P w) a vs:=by
 rw[Xj O,Ou O]at h;obtain⟨_,W,vs,Z,hd⟩:=(show iB X.prog X.w H s.heap a (.dK _)from h.ok I.hok);exact⟨W,vs,Z,λP w=>Im (λx Y=>by obtain⟨i,_,_,z,_⟩:=(pN Z).2 x.1 x.2 Y;exact⟨i,z⟩) hd⟩
def Ox{qs:List (Int×Int)}{O J:List (Key×Value)}(ra:KV (qs.map λq=>((.inl q.1,.int q.2):Key×V)) O)(rb:KV (qs.map λq=>((.inl q.1,.int q.2):Key×V)) J)(hn:(J.map (·.1)).Nodup):PySem.W.KeqHits A s J O true:=by
 have S:(qs.map λq=>(dA q.1:Key)).Nodup:=by rwa[<-(pN rb).1]
 have step:∀(l:List (Key×Value)),(∀x∈l,x∈O)->PySem.W.KeqHits A s J l true:=by
  intro l
  induction l with
  |nil=>intro _;exact .nil
  |cons x l T=>
   intro hl;obtain⟨k,v⟩:=x;obtain⟨i,j,t,rfl,rfl,hm⟩:=(pN ra).2 k v (hl _ aD);have hk:(dA i:Key)∈J.map (·.1):=by rw[(pN rb).1];exact cF.mpr ⟨(i,j),hm,rfl⟩
   obtain⟨⟨K,y⟩,P,ek⟩:=cF.mp hk;have ek:=ek;subst ek;obtain⟨I,U,t',e1,rfl,Q⟩:=(pN rb).2 _ y P
   cases e1;have L:U=j:=by
    have inj:∀{l:List (Int×Int)},(l.map λq=>(dA q.1:Key)).Nodup->(i,j)∈l->(i,U)∈l->U=j:=by
     intro l Z h1 h2
     induction l with
     |nil=>cases h1
     |cons p l T=>
      rw[bJ,cI]at Z;rcases aK.mp h1 with X|X<;>rcases aK.mp h2 with Y|Y
      .rw[<-X]at Y;cases Y;rfl
      .subst X;exact absurd (cF.mpr ⟨_,Y,rfl⟩) Z.1
      .subst Y;exact absurd (cF.mpr ⟨_,X,rfl⟩) Z.1
      .exact T Z.2 X Y
    exact inj S hm Q
   subst L;obtain⟨n,R,en⟩:=List.mem_iff_getElem.mp P;have M:=valueAt_of_get hn (i:=n) (by rw[bA R,en]);have:=ci (A:=A) (s:=s) U t U t';rw[beq_self_eq_true]at this;have q:=PySem.W.KeqHits.hit M this (T λx N=>hl x (aA _ N));rwa[Bool.and_true]at q
 exact step O λ_ h=>h
def Lg(I:L2.Inv X pins σ H s){a b:Addr}{kvs:List (D×D)}(hk:(iiD kvs).isSome=true)(ha:L2.Rd H a (dh0 kvs))(hb:L2.Rd H b (dh0 kvs)){A:db}(J:A.units<cLine):SeqAt.RcAt A s (.ref a) (.ref b) true:=by
 obtain⟨N,U⟩:=cR.mp hk;obtain⟨P,S,V,O⟩:=VP I U ha;obtain⟨R,Z,Y,T⟩:=VP I U hb;intro prog w E Q h;have hn:(Z.map (·.1)).Nodup:=by obtain⟨_,_,_,_,_,_,_,_,c⟩:=T prog w;exact c
 refine PySem.W.keq_eq (knd:=dD prog w) (r:=true) P R (O prog w) (T prog w) J (λ_=>Ox V Y hn) ?_;have e:S.length=Z.length:=by
  have h1:=congrArg pG (pN V).1;have h2:=congrArg pG (pN Y).1;simp at h1 h2;lia
 rwa[e,beq_self_eq_true,jL]
def Lh(I:L2.Inv X pins σ H s){a b:Addr}{kvs:List (D×D)}(hk:(iiD kvs).isSome=true)(ha:L2.Rd H a (dh0 kvs))(hb:L2.Rd H b (dh0 kvs)){A:db}(J:A.units<cLine):SeqAt.EqAt A s (.ref a) (.ref b) true:=by
 by_cases e:a=b
 .subst e;exact d6 _
 .exact bv e (Lg I hk ha hb J)
mutual
theorem S5(I:L2.Inv X pins σ H s){ok ok':Ok}{pl pl':Bool}:∀(d:D){x y:V}(r1:RA X.K ok pl H x d)(r2:RA X.K ok' pl' H y d){v u:Value}(_:RelV x v)(_:RelV y u)(A:db)(hu:A.units+d.depth<cLine)(hn:noK d=true),SeqAt.EqAt A s v u true
 | .none,_,_,r1,r2,_,_,h1,h2,A,hu,hn=>by cases r1;cases r2;cases h1;cases h2;exact d6 _
 | .bool b,_,_,r1,r2,_,_,h1,h2,A,hu,hn=>by cases r1;cases r2;cases h1;cases h2;exact d6 _
 | .int i,_,_,r1,r2,_,_,h1,h2,A,hu,hn=>by
  cases r1;cases r2;obtain⟨t,rfl⟩:=h1;obtain⟨t',rfl⟩:=h2;have:=ci (A:=A) (s:=s) i t i t';rwa[beq_self_eq_true]at this
 | .str z,_,_,r1,r2,_,_,h1,h2,A,hu,hn=>by
  cases r1;cases r2;obtain⟨t,rfl⟩:=h1;obtain⟨t',rfl⟩:=h2;have:=SeqAt.EqAt.str_str (A:=A) (s:=s) z t z t';rwa[beq_self_eq_true]at this
 | .list ds,_,_,r1,r2,_,_,h1,h2,A,hu,hn=>by
  obtain⟨a,xs,rfl,s1,q1⟩:=r1.lstE;obtain⟨b,ys,rfl,s2,q2⟩:=r2.lstE
  cases h1;cases h2;by_cases e:a=b
  .subst e;exact d6 _
  obtain⟨its,v1,p1,z1⟩:=I.list s1;obtain⟨its2,v2,p2,z2⟩:=I.list s2;have hd:(d5 ds).depth=c8 ds+1:=by simp[c_]
  have l1:its.length=ds.length:=by rw[<-v1.length,q1.length]
  have l2:its2.length=ds.length:=by rw[<-v2.length,q2.length]
  refine bv e ?_;have R:=SeqAt.RcAt.lists (A:=A) (e:=λ_=>true) p1.isList p2.isList (by rw[bG,bG,l1,l2]) (by lia) (λj g1 g2=>vI I ds q1 q2 v1 v2 A.in1 (by simp only[bP];lia) hn j (by simpa using g1) (by simpa using g2));rwa[show(aC its.toArray.size).all (λ_=>true)=true by simp]at R
 | .tuple ds,_,_,r1,r2,_,_,h1,h2,A,hu,hn=>by
  obtain⟨a,xs,rfl,s1,q1⟩:=r1.tupE;obtain⟨b,ys,rfl,s2,q2⟩:=r2.tupE
  cases h1;cases h2;by_cases e:a=b
  .subst e;exact d6 _
  obtain⟨its,v1,p1,z1⟩:=I.tuple s1;obtain⟨its2,v2,p2,z2⟩:=I.tuple s2;have hd:(cP ds).depth=c8 ds+1:=by simp[c_]
  have l1:its.length=ds.length:=by rw[<-v1.length,q1.length]
  have l2:its2.length=ds.length:=by rw[<-v2.length,q2.length]
  refine bv e ?_;have R:=SeqAt.RcAt.tuples (A:=A) (e:=λ_=>true) p1 p2 (by lia) (λj g1 g2=>vI I ds q1 q2 v1 v2 A.in1 (by simp only[bP];lia) hn j (by simpa using g1) (by simpa using g2));rwa[show((aC (min its.toArray.size its2.toArray.size)).all (λ_=>true)&&its.toArray.size==its2.toArray.size)=true by simp[l1,l2]]at R
 | .dict kvs,_,_,r1,r2,_,_,h1,h2,A,hu,hn=>by
  obtain⟨a,rfl,ha⟩:=r1.dicE (JR hn);obtain⟨b,rfl,hb⟩:=r2.dicE (JR hn)
  cases h1;cases h2;exact Lh I hn ha hb (by lia)
theorem vI(I:L2.Inv X pins σ H s){ok ok':Ok}{pl pl':Bool}:∀(ds:List D){xs ys:List V}(_:RAs X.K ok pl H xs ds)(_:RAs X.K ok' pl' H ys ds){us ws:List Value}(_:Vals xs us)(_:Vals ys ws)(A:db)(_:A.units+c8 ds<cLine)(_:Gg ds=true)(j:Nat)(g1:j<us.length)(g2:j<ws.length),SeqAt.EqAt A s us[j] ws[j] true
 |[],_,_,q1,q2,_,_,v1,v2,A,hu,hn,j,g1,g2=>by
  cases q1;cases v1;exact absurd g1 (nQ _)
 |d::ds,_,_,q1,q2,_,_,v1,v2,A,hu,hn,j,g1,g2=>by
  cases q1 with
  |cons a1 b1=>
   cases q2 with
   |cons a2 b2=>
    cases v1 with
    |cons c1 d1=>
     cases v2 with
     |cons c2 d2=>
      have hd:c8 (d::ds)=max d.depth (c8 ds):=by simp[c8]
      rw[Gg,aV]at hn
      cases j with
      |zero=>exact S5 I d a1 a2 c1 c2 A (by lia) hn.1
      |succ j=>exact vI I ds b1 b2 d1 d2 A (by lia) hn.2 j (by simpa using g1) (by simpa using g2)
end
end
section
variable{X:Cx}
end
section
variable{X:Cx}{fl:List Fl}
end
section
variable{X:Cx}{fl:List Fl}{f:FE}
def ZC (h1:PI X tg c t1) (h2:PI X tg c t2):PI X tg c (λσ H R=>t1 σ H R\/t2 σ H R):=λpins s σ H R I h=>by
 rcases h with h|h
 .exact h1 pins s σ H R I h
 .exact h2 pins s σ H R I h
def Xk {L:List Nat} (R:Rel K fl G ow σ H δ) (r:Rs K G.H0 ow Hb H (.B L) v (.tuple l)):∃a xs,v = .ref a/\SqT K H a xs /\
 ∀H2:Hp,(∀b o,H b=some o->(∀i,ow i=some b->i∈L)->(∀i,b∉ow.n i)->H2 b=some o)->SqT K H2 a xs/\RAs K (λb=>okA ow b/\H b≠none) true H2 xs l:=by
 rcases r with r|⟨i,hi,a,xs,ds,X,rfl,e,Z,Y⟩
 .cases r with
  |tup e q=>
   refine⟨_,_,rfl,e.sq,λH2 hk=>⟨?_,RAs.keep hk R.ownL R.ownC (λb z=>z.1) q.track⟩⟩;exact .inl (.inl (hk _ _ e (nm R.ownL e (by intro xs z;cases z)) (nm2 R.ownC e Chg.tup)))
 .cases e
theorem Xl{L:List Nat}(h:DE X fl (.B L) e f):DI X fl L tg e (Xd f):=PI.imp (ZC (JB h) (WD h)) λσ H R' h=>by
 refine D3.ex4 h λG ow δ l R S q=>?_
 refine D3.ex1 (bind1 S) λd e1 e2=>?_
 cases d with
 |list T=>
  cases e2;refine .inl ⟨G,ow,δ,_,R,e1,λv H1 s r=>?_⟩;obtain⟨a,xs,rfl,U,keep⟩:=yP (R.grow s) r;refine⟨a,rfl,⟨xs,U⟩,q _ _ s λH2 k2 i=>?_⟩;obtain⟨k3,k4⟩:=keep H2 k2;refine⟨λd hd=>?_,λhl=>⟨xs,k3,by rwa[k4.length]⟩⟩;obtain⟨y,Y,W⟩:=k4.get hd;refine⟨⟨xs,y,k3,Y⟩,λx Q Z=>?_⟩;obtain⟨e,V⟩:=Z;subst e;have:some y=some x:=Y.symm.trans (V xs k3)
  cases this;exact⟨Same.refl _,W⟩
 |tuple T=>
  cases e2;refine .inr ⟨G,ow,δ,_,R,e1,λv H1 s r=>?_⟩;obtain⟨a,xs,rfl,U,keep⟩:=Xk (R.grow s) r;refine⟨a,rfl,⟨xs,U⟩,q _ _ s λH2 k2 i=>?_⟩;obtain⟨k3,k4⟩:=keep H2 k2;refine⟨λd hd=>?_,λhl=>⟨xs,k3,by rwa[k4.length]⟩⟩;obtain⟨y,Y,W⟩:=k4.get hd;refine⟨⟨xs,y,k3,Y⟩,λx Q Z=>?_⟩;obtain⟨e,V⟩:=Z;subst e;have:some y=some x:=Y.symm.trans (V xs k3)
  cases this;exact⟨Same.refl _,W⟩
 |none=>cases e2
 |bool _=>cases e2
 |int _=>cases e2
 |str _=>cases e2
 |dict _=>cases e2
end
section
variable{X:Cx}{fl:List Fl}{a:Expr}{f:FE}
end
section
variable{X:Cx}{fl:List Fl}{a b:Expr}{fa:FE}
end
end D3
namespace D3
open L2 My
section
variable{X:Cx}
noncomputable def ZD(K:PySem.W.Frag):R2:=λx y H Q=>∃Z l,RdV K H x Z/\((RdV K H y (.list l)/\cK (.list l)=true)\/(RdV K H y (.tuple l)/\cK (.tuple l)=true))/\cK Z=true/\Q (.bl (l.any λz=>da z Z)) H
noncomputable def JT(K:PySem.W.Frag):R2:=λx y H Q=>∃Z l,RdV K H x Z/\((RdV K H y (.list l)/\cK (.list l)=true)\/(RdV K H y (.tuple l)/\cK (.tuple l)=true))/\cK Z=true/\Q (.bl (!l.any λz=>da z Z)) H
def xU(J:A.units+64<cLine)(h:c8 l+1<=64):A.units+1+min (c8 l) d.depth<cLine:=by
 have:=Nat.min_le_left (c8 l) d.depth;lia
def pO(h:cK (.list l)=true):dr l=true/\c8 l+1<=64:=by
 unfold cK at h;rw[aV]at h;refine⟨by simpa[dk]using h.1,?_⟩;have:=of_decide_eq_true h.2;simpa[c_]using this
def oJ(h:cK (.tuple l)=true):dr l=true/\c8 l+1<=64:=by
 unfold cK at h;rw[aV]at h;refine⟨by simpa[dk]using h.1,?_⟩;have:=of_decide_eq_true h.2;simpa[c_]using this
def Xm(J:X.A.units+64<cLine):OpR X (compareOp .In) (ZD X.K):=by
 intro pins s σ H x y v u Q I U V h;obtain⟨T,l,ha,hb,sa,q⟩:=h;obtain⟨as,W⟩:=ha.reads I U;rcases hb with⟨hb,Z⟩|⟨hb,Z⟩
 .obtain⟨bs,Y⟩:=hb.reads I V;exact SeqAt.in_list_reads Y W (pO Z).1 (af sa) (xU J (pO Z).2) ⟨.bl _,H,I,rfl,q⟩
 .obtain⟨bs,Y⟩:=hb.reads I V;exact SeqAt.in_tuple_reads Y W (oJ Z).1 (af sa) (xU J (oJ Z).2) ⟨.bl _,H,I,rfl,q⟩
def Br(J:X.A.units+64<cLine):OpR X (compareOp .NotIn) (JT X.K):=by
 intro pins s σ H x y v u Q I U V h;obtain⟨T,l,ha,hb,sa,q⟩:=h;obtain⟨as,W⟩:=ha.reads I U;rcases hb with⟨hb,Z⟩|⟨hb,Z⟩
 .obtain⟨bs,Y⟩:=hb.reads I V;exact SeqAt.notIn_list_reads Y W (pO Z).1 (af sa) (xU J (pO Z).2) ⟨.bl _,H,I,rfl,q⟩
 .obtain⟨bs,Y⟩:=hb.reads I V;exact SeqAt.notIn_tuple_reads Y W (oJ Z).1 (af sa) (xU J (oJ Z).2) ⟨.bl _,H,I,rfl,q⟩
theorem aj3:BrO K (ZD K) gIn:=by
 intro H x y dx X d Q Y Z e q
 cases X with
 |list l=>
  by_cases z:(cK dx&&cK (.list l))=true
  .have e:(if(cK dx&&cK (.list l))=true then some (di (l.any λz=>da z dx))else none)=some d:=e;rw[if_pos z]at e
   cases e;rw[aV]at z;exact⟨dx,l,Y.rd (af z.1),.inl ⟨Z.rd (af z.2),z.2⟩,z.1,q _ rfl (.bl _)⟩
  .have e:(if(cK dx&&cK (.list l))=true then some (di (l.any λz=>da z dx))else none)=some d:=e;rw[if_neg z]at e
   cases e
 |tuple l=>
  by_cases z:(cK dx&&cK (.tuple l))=true
  .have e:(if(cK dx&&cK (.tuple l))=true then some (di (l.any λz=>da z dx))else none)=some d:=e;rw[if_pos z]at e
   cases e;rw[aV]at z;exact⟨dx,l,Y.rd (af z.1),.inr ⟨Z.rd (af z.2),z.2⟩,z.1,q _ rfl (.bl _)⟩
  .have e:(if(cK dx&&cK (.tuple l))=true then some (di (l.any λz=>da z dx))else none)=some d:=e;rw[if_neg z]at e
   cases e
 |_=>cases e
theorem JV:BrO K (JT K) sS:=by
 intro H x y dx X d Q Y Z e q
 cases X with
 |list l=>
  by_cases z:(cK dx&&cK (.list l))=true
  .have e:(if(cK dx&&cK (.list l))=true then some (di (!l.any λz=>da z dx))else none)=some d:=e;rw[if_pos z]at e
   cases e;rw[aV]at z;exact⟨dx,l,Y.rd (af z.1),.inl ⟨Z.rd (af z.2),z.2⟩,z.1,q _ rfl (.bl _)⟩
  .have e:(if(cK dx&&cK (.list l))=true then some (di (!l.any λz=>da z dx))else none)=some d:=e;rw[if_neg z]at e
   cases e
 |tuple l=>
  by_cases z:(cK dx&&cK (.tuple l))=true
  .have e:(if(cK dx&&cK (.tuple l))=true then some (di (!l.any λz=>da z dx))else none)=some d:=e;rw[if_pos z]at e
   cases e;rw[aV]at z;exact⟨dx,l,Y.rd (af z.1),.inr ⟨Z.rd (af z.2),z.2⟩,z.1,q _ rfl (.bl _)⟩
  .have e:(if(cK dx&&cK (.tuple l))=true then some (di (!l.any λz=>da z dx))else none)=some d:=e;rw[if_neg z]at e
   cases e
 |_=>cases e
end
section
variable{X:Cx}{fl:List Fl}{a:Expr}{f:FE}
end
def spL(K:PySem.W.Frag)(F:List D->Option D):Sp:=λvs H Q _=>∃ds d,(Tb H/\RAs K ok1 true H vs ds)/\F ds=some d/\∀v H',Same H H'->RA K ok1 true H' v d->Q v H'
section
variable{X:Cx}{fl:List Fl}{f:FE}{F:List D->Option D}{fa:FA}
def CT(h:DE X fl .P e f):DS1 X fl (.Return (some e) pos) (Bo f):=PS.imp (Hv h) λDn σ H h=>by
 refine D3.ex4 h λG ow δ o R Z q=>?_
 refine D3.ex1 (bind1 Z) λd e1 e2=>?_
 cases e2;exact⟨G,ow,δ,d,R,e1,λv H' s r=>q v H' (R.same0.trans s) r⟩
def ZF(J:(fl.all λx=>decide (x = .A))=true)(h:DE X fl .P e f):DE X fl .A e f:=oF h λHb H G ow σ δ v d R r=>by
 have Z:∀(i:Nat)(c:Fl),fl[i]? = some c->c=Fl.A:=λi c e=>by simpa using ju.mp J c (d8 e)
 have ok:∀a,okA ow a:=λa=>by
  constructor
  .intro i z;rcases(R.own i a z).2.1 with⟨w,_⟩|⟨w,_⟩
   .cases Z i _ w
   .cases Z i _ w
  .intro i z;rcases(R.nt i a z).2.2 with⟨w,_⟩|w
   .cases Z i _ w
   .cases Z i _ w
 exact RA.imp (λa _=>ok a) (λz=>z) r
def Gm(h:Has X.prog X.w X.K X.mg X.base n x ps (spL X.K F))(Y:Room n X.A)(ha:DB X fl .P (e::es) fa)(Z:Gl X x:=by rfl)(O:(x==("__debug__":Str))=false:=by decide)
 (he:starEach (e::es) X.env=(false,eval e X.env)::starEach es X.env:=by exact fZ rfl) (J:(backTo pos (starEach es X.env)).any (·.1)=false:=by exact sH rfl) :
 DE X fl .P (.Call (.Name x p) (e::es) [] pos) (dCall F fa):=PE.imp (Fb h Y ha Z O he J) λσ H Q h=>by
 refine D3.ex4 h λG ow δ d R W q=>?_
 refine D3.ex1 (bind1 W) λds e1 e2=>?_
 refine⟨G,ow,δ,ds,R,e1,λvs H' s r=>?_⟩;show spL X.K F (vs++[]) H' Q E0;rw[dN];exact⟨ds,d,⟨R.tb.same s,r⟩,e2,λv H2 s2 r2=>q v H2 (s.trans s2) r2⟩
end
section
variable{k:Nat}{fs:FS}{fl:List Fl}
def S6 (Fn:FunD K x st c fd) (S:FnScope N ps (aX st)) (O:∀i,i<ps.length->fl[i]? = some .A) (Y:ps.length<=N.length)
 (J:∀(c:Addr)(cdv:Value)(A:db)(outer:List Env)(s:cB)(H:Hp)(E:XK),Room k (A.deeper (envOfC x (aX st) s.heap.objs.size c cdv))->DSs (cx P w K mg base N x st c cdv A outer s H E) fl (gR st) fs) :
 FnOk P w K mg base CX0 (k+1) c fd ps (spL K (fnL ps.length (N.length-ps.length) fs)):=by
 refine Fn.ok S (λvs H Q E h=>?_) (λcdv A outer s H vs Q E W h=>?_)
 .obtain⟨ds,d,r,Z,_⟩:=h;unfold fnL at Z;by_cases z:ds.length=ps.length
  .rwa[r.2.length]
  .rw[if_neg z]at Z;cases Z
 .obtain⟨ds,d,r,Z,q⟩:=h;refine⟨_,J c cdv A outer s H E W,?_⟩;unfold fnL SM at Z;by_cases z:ds.length=ps.length
  .rw[if_pos z]at Z;split at Z
   .next V e=>
    cases Z;exact⟨_,_,_,_,jw ps.length O z Y r,e,λv H' s r=>q v H' s (RA.imp (λ_ _=>trivial) (λ_=>rfl) r)⟩
   .next c' U V e=>
    cases Z;exact⟨_,_,_,_,jw ps.length O z Y r,e,λv H' s r=>q v H' s r⟩
   .next δ' e=>
    cases Z;exact⟨_,_,_,_,jw ps.length O z Y r,e,λX σ' H' R'=>q .non H' R'.same0 .non⟩
   .cases Z
  .rw[if_neg z]at Z;cases Z
def Oz(Dd:Dg K mg x st ps)(S:FnScope N ps (aX st))(O:∀i,i<ps.length->fl[i]? = some .A)(Y:ps.length<=N.length)
 (J:∀(f:Addr)(cdv:Value)(A:db)(outer:List Env)(s:cB)(H:Hp)(E:XK),Room k (A.deeper (envOfC x (aX st) s.heap.objs.size f cdv))->DSs (cx P w K mg base N x st f cdv A outer s H E) fl (gR st) fs) :
 Has P w K mg base (k+1) x ps (spL K (fnL ps.length (N.length-ps.length) fs)):=by
 obtain⟨f,fd,Z,b,m⟩:=Dd.ex;exact⟨f,fd,S6 Z S O Y J,b,Z.kp,m⟩
end
section
end
end D3
namespace D3
open L2 My
section
variable{fl flA:List Fl}{G:Gh}{ow:Ow}{σ σ':St}{H H1:Hp}{δ:DS}{T:List Nat}
end
section
variable{X:Cx}{fl flA:List Fl}{f:FE}{fa:FA}
end
section
variable{X:Cx}{fl:List Fl}
end
end D3
namespace D3
inductive Or where
 |o (x:Oc)
 |ex (c:Str) (v:D)
abbrev FX:=DS->Option Or
def xOf(f:FS):FX:=λδ=>(f δ).bind λo=>some (.o o)
def lF(f g:FX):FX:=λδ=>(f δ).bind λo=>match o with
 | .o (.nx δ')=>g δ'
 |o=>some o
def xIf(c:FT)(f g:FX):FX:=λδ=>(c δ).bind λb=>if b=true then f δ else g δ
def o9(c:Str)(f:FE):FX:=λδ=>(f δ).bind λd=>some (.ex c d)
noncomputable def fnX(p q:Nat)(b:FX):List D->Option Or:=λds=>if ds.length=p then match b (ds.map (λd=>some (.d d))++aW q none)with
 |some (.o (.rt d))=>some (.o (.rt d))
 |some (.o (.nx _))=>some (.o (.rt .none))
 |some (.o (.ex c f d))=>some (.o (.ex c f d))
 |some (.ex c d)=>some (.ex c d)
 |_=>none
 else none
noncomputable def qp(g:FG)(b:FX):List D->DS->Option Or
 |[],δ=>some (.o (.nx δ))
 |d::r,δ=>(g d δ).bind λδ1=>(b δ1).bind λo=>match o with
  | .o (.nx δ')=>qp g b r δ'
  | .o (.ct δ')=>qp g b r δ'
  | .o (.bk δ')=>some (.o (.nx δ'))
  | .o (.rt v)=>some (.o (.rt v))
  | .o (.ex c f v)=>some (.o (.ex c f v))
  | .ex c v=>some (.ex c v)
def S7(fi:FA)(g:FG)(b:FX):FX:=λδ=>(fi δ).bind λl=>qp g b l δ
noncomputable def mQ(F:List D->Option Or)(dd:List D)(fa:FA):FX:=λδ=>(fa δ).bind λds=>match F (ds++dd)with
 |some (.o (.rt _))=>some (.o (.nx δ))
 |some (.o (.ex _ _ _))=>some (.o (.nx δ))
 |some (.ex c d)=>some (.ex c d)
 |_=>none
end D3
variable{fI:Addr}
namespace XC
open Sem (wp)
structure Two(h:dm)(C N I:Addr)(bmB:List Value)(mN mI:Str->Option Value)(B newId:String):Prop where
 ex:∃(nm q:Str)(bs:List Value)(sn:List Str)(sub:List Value)(ab:Bool)(col:Option Bool)(dd:Option Addr)(k0 k1 k2 k3 k5:Option Value),
  h.get? C=some (excClassObj nm q C N bs (.ref I::bmB) true sn sub ab col dd k0 k1 k2 k3 k5 newId)
 nsC:h.Ns N mN
 up:∃(nm q:Str)(NI:Addr)(bs:List Value)(sn:List Str)(sub:List Value)(ab:Bool)(col:Option Bool)(dd:Option Addr)(k0 k1 k2 k3 k5:Option Value)(nid:String),
  h.get? I=some (excClassObj nm q I NI bs bmB true sn sub ab col dd k0 k1 k2 k3 k5 nid)/\h.Ns NI mI
 mro:mroOf (.type B)=pure bmB
section
variable{M:eh}{g:Array ev}{d:Drawn}{t:Nat}{os:OsState}
variable{N:Addr}{mN mI:Str->Option Value}{B newId initId:String}
def Two.keeps(T:Two h C N I bmB mN mI B newId)(k:∀b o,h.get? b=some o->h'.get? b=some o):Two h' C N I bmB mN mI B newId:=by
 obtain⟨⟨nm,q,bs,sn,sub,ab,col,dd,k0,k1,k2,k3,k5,M⟩,hn,⟨W,R,NI,U,X,Z,S,Y,V,j0,j1,j2,P,Q,nid,O,hm⟩,hb⟩:=T;exact⟨⟨nm,q,bs,sn,sub,ab,col,dd,k0,k1,k2,k3,k5,k _ _ M⟩,hn.keeps k,⟨W,R,NI,U,X,Z,S,Y,V,j0,j1,j2,P,Q,nid,k _ _ O,hm.keeps k⟩,hb⟩
def Two.tail(T:Two h C N I bmB mN mI B newId)(hi:mI "__init__"=none):OwnTail h bmB (.ref I::bmB):=by
 obtain⟨W,Q,NI,U,X,Z,S,Y,V,j0,j1,j2,O,P,nid,R,hm⟩:=T.up;exact .own R hm hi .base
theorem Two.look{y:Option Value}{Q:Option Value->cB->Prop}(T:Two h C N I bmB mN mI B newId)(hB:typeLookup (.type B) name=pure y)
 (J:Q (match mN name with
  |some v=>some v
  |none=>match mI name with
   |some v=>some v
   |none=>y) ⟨h,g,d,t,os⟩):wpAny M A (typeLookup (.ref C) name) Q E ⟨h,g,d,t,os⟩:=by
 obtain⟨⟨nm,q,bs,sn,sub,ab,col,dd,k0,k1,k2,k3,k5,X⟩,hn,⟨V,O,NI,S,W,Z,R,Y,U,j0,j1,j2,K,L,nid,P,hm⟩,hb⟩:=T;have rest:lookupAlong bmB name=pure y:=by
  rwa[typeLookup_eq,hb]at hB
 rw[typeLookup_eq];refine aa (wpAny_mroOf_exc X ?_);rw[lookupAlong_cons];refine aa (wpAny_classOwn_exc X hn ?_)
 cases e1:mN name with
 |some v=>
  rw[e1]at J;exact ag J
 |none=>
  rw[e1]at J;rw[lookupAlong_cons];refine aa (wpAny_classOwn_cls P hm ?_)
  cases e2:mI name with
  |some v=>
   rw[e2]at J;exact ag J
  |none=>
   rw[e2]at J;rw[rest];exact ag J
end
section
variable{prog:cN}{g:Array ev}{d:Drawn}{t:Nat}{os:OsState}
variable{N:Addr}{mN mI:Str->Option Value}{B newId initId:String}
def Two.make{rest:List Value}{oI:Obj}{Q:Fin->cB->Prop}(T:Two h C N I bmB mN mI B newId)(F:ExcBaseFacts B newId initId bmB)(hi:mI "__init__"=none)(hN:mN "__init__"=some (.ref fI))
 (hf:h.get? fI=some oI) (O:oI.cls = .type "function") (J:rest.length<=sizeLine)
 (hq:∀h' e,h.objs.size<=e->Heap.MadeExcOf h h' e (.ref C) rest->wpAny (model prog w) A (call (.ref fI) (.ref e::rest)) (λr s'=>r = .none/\Q (.done (.ret (.ref e))) s') E ⟨h',g,d,t,os⟩) :
 wpAny (model prog w) A (el.«type.__call__» ⟨.ref C::rest,[]⟩) Q E ⟨h,g,d,t,os⟩:=by
 have TT:=T.tail hi;have T0:=T;obtain⟨⟨nm,q,bs,sn,sub,ab,col,dd,k0,k1,k2,k3,k5,Z⟩,hn,⟨S,D,NI,P,U,X,M,W,R,j0,j1,j2,x,y,nid,v,hm⟩,hb⟩:=T
 repeat(first
  |with_reducible refine am Z ?_
  |with_reducible refine wpAny_madeBy_exc Z ?_
  |wp_step)
 refine codeAny_call_builtin_code (Code.quiet_builtin _ F.quiet) (wpAny_check_new_subT F TT Z ?_);refine codeAny_exc_new_subT F TT Z ?_ J;obtain⟨h2,e2⟩:∃h2,h2=(h.push {cls:=.type "tuple", data:=.seq rest.toArray}).push {cls:=.ref C,data:=.fields #[.ref h.objs.size,.none,.none,.none,.bool false,.none]}:=⟨_,rfl⟩;rw[<-e2];have kp:∀b o,h.get? b=some o->h2.get? b=some o:=λb o z=>by
  rw[e2];exact ae _ (ae _ z)
 have V:h2.get? (h.objs.size+1)=some {cls:=.ref C,data:=.fields #[.ref h.objs.size,.none,.none,.none,.bool false,.none]}:=by
  rw[e2];heap_get
 have L:h2.get? h.objs.size=some {cls:=.type "tuple", data:=.seq rest.toArray}:=by
  rw[e2];exact ae _ (Heap.get?_push_at rfl rfl)
 have Y:=kp _ _ Z;have G:(c0 C :: .ref I::bmB).contains (.ref C)=true:=by simp
 repeat(first
  |with_reducible refine am V ?_
  | (with_reducible refine aT Y ?_;rw[G])
  |wp_step)
 refine(T0.keeps kp).look F.init.lookup ?_;rw[hN];refine bg (aa ?_);refine aa (wpAny_typeOf (T := "function") ⟨_,kp _ _ hf,O⟩ ?_);rw[if_pos (by decide)];refine ag (aa (ai (hq h2 (h.objs.size+1) (nu _) ⟨kp,bz (nu _),h.objs.size,V,bz (bF _),L⟩) (λr s' K=>?_) λ_ _ z=>z));obtain⟨rfl,H⟩:=K
 wp_walk
 exact H
end
end XC
variable{tk:Tok}
namespace XC
open Builtin Builtin.ObjectAttr
open Sem (wp)
section
variable{prog:cN}{g:Array ev}{d:Drawn}{t:Nat}{os:OsState}
variable{N x:Addr}{mN mI:Str->Option Value}{B newId initId sa owner:String}{v:Value}
def Two.store0{o:Obj}{Q:Fin->cB->Prop}(T:Two h C N I bmB mN mI B newId)(SF:StoreFacts B bmB sa owner)(n1:mN name=none)(n2:mI name=none)(hB:typeLookup (.type B) name=pure none)
 (J:h.get? x=some o) (hc:o.cls = .ref C) (Y:∀c,o.data ≠ .cls c) (hdn:o.dict=none)
 (hq:∀h' O dx,h'.get? x=some {o with dict:=some dx}->h.objs.size<=dx->dx≠x->h'.Ns1 dx (λy=>if y=name then some v else none)->(∀b u,b≠x->h.get? b=some u->h'.get? b=some u)->Q (.done (.ret .none)) ⟨h',g,d,O,os⟩) :
 wpAny (model prog w) A (el.«object.__setattr__» ⟨[.ref x,.str name tk,v],[]⟩) Q E ⟨h,g,d,t,os⟩:=by
 have T0:=T;obtain⟨⟨nm,q,bs,sn,sub,ab,col,dd,k0,k1,k2,k3,k5,K⟩,hn,⟨R,s,NI,M,S,X,L,W,P,j0,j1,j2,p,r,nid,n,hm⟩,hb⟩:=T;have pass:refuseLoop (.ref x) "__setattr__" (.ref C :: .ref I::bmB)=pure ():=by
  rw[refuseLoop_ref,refuseLoop_ref];exact SF.passes _
 unfold el.«object.__setattr__»
 repeat(first
  |rw[refuse_eq]
  |rw[pass]
  | (with_reducible refine am J ?_;rw[hc])
  |with_reducible refine wpAny_mroOf_exc K ?_
  | (with_reducible refine T0.look hB ?_;rw[n1,n2])
  |wp_step)
 rw[hdn,if_neg (by simp[typeHasDict])];split
 .rename_i z
  cases z
 split
 .rename_i c z;exact absurd z (Y c)
 obtain⟨h1,e1⟩:∃h1,h1=h.push {cls:=.type "dict", data:=.dict #[]}:=⟨_,rfl⟩;have x1:h1.get? x=some o:=by rw[e1];exact ae _ J
 have ne:=bN (ac J);refine aa (wpAny_alloc' ?_);rw[<-e1];refine aa (wpAny_update' x1 (ag ?_));obtain⟨h2,e2⟩:∃h2,h2=h1.update x λo=>{cls:=o.cls,dict:=some h.objs.size,data:=o.data,slots:=o.slots}:=⟨_,rfl⟩
 rw[<-e2];have D:h2.get? h.objs.size=some {cls:=.type "dict", data:=.dict #[]}:=by
  rw[e2,e1];exact(cy _ _ _ _ ne.symm).trans (Heap.get?_push_at rfl rfl)
 have x2:h2.get? x=some {cls:=o.cls,dict:=some h.objs.size,data:=o.data,slots:=o.slots}:=by
  rw[e2];refine av _ x1 ?_;have fr:=(Heap.get?_some_iff.mp J).2;obtain⟨oc,od,Z,osl⟩:=o
  cases Z<;>first|rfl|exact fr
 have k2:∀b u,b≠x->h.get? b=some u->h2.get? b=some u:=λb u z q=>by
  rw[e2,e1];exact(cy _ _ _ _ z).trans (ae _ q)
 have U:h2.Ns h.objs.size (λ_=>none):=⟨_,#[],_,D,rfl,λe z=>absurd z (by simp),λ_=>rfl⟩;refine aa (ag (aa (wpAny_nsSet1 (Heap.Ns1.of_empty U) λH n3 V=>?_)));obtain⟨oD,G,F,a1,a2,a3⟩:=n3.count (Within.cons name v Within.nil);refine aa (wpAny_lookBehind a1 (by rw[a2];exact pastItsLine_dict (bO a3 (show 1<=sizeLine+1 by decide))) ?_)
 wp_walk
 exact hq H _ h.objs.size ((V.2 x ne).trans x2) (bF _) ne.symm n3 λb u z q=>(V.2 b (bN (ac q))).trans (k2 b u z q)
def Two.set0{o:Obj}(T:Two h C N I bmB mN mI B newId)(J:StoreFacts B bmB sa owner)(s1:mN "__setattr__"=none)(s2:mI "__setattr__"=none)(n1:mN name=none)(n2:mI name=none)(hB:typeLookup (.type B) name=pure none)
 (Y:h.get? x=some o) (hc:o.cls = .ref C) (hnc:∀c,o.data ≠ .cls c) (hdn:o.dict=none)
 (hq:∀h' O dx,h'.get? x=some {o with dict:=some dx}->h.objs.size<=dx->dx≠x->h'.Ns1 dx (λy=>if y=name then some v else none)->(∀b u,b≠x->h.get? b=some u->h'.get? b=some u)->Q () ⟨h',g,d,O,os⟩) :
 wpAny (model prog w) A (setAttr (.ref x) name v) Q E ⟨h,g,d,t,os⟩:=by
 have T0:=T;obtain⟨⟨nm,q,bs,sn,sub,ab,col,dd,k0,k1,k2,k3,k5,D⟩,hn,⟨K,r,NI,G,L,X,F,W,H,j0,j1,j2,n,p,nid,m,hm⟩,hb⟩:=T;have l:=J.slot.bind (.ref x);have own:(c0 C :: .ref I::bmB).contains (.type owner)=true:=by
  rw[fG,fG,J.hasOwner,kJ,kJ]
 unfold setAttr callSpecial? specialOf
 repeat(any_goals(first
  |assumption
  | (with_reducible refine am Y ?_;rw[hc])
  | (with_reducible refine T0.look J.slot.lookup ?_;rw[s1,s2])
  |wp_step))
 refine codeAny_call_builtin J.slot.plain J.entry ?_;have s:∀{A:db}{E:Value->cB->Prop}(tk:Tok)(Q:Unit->cB->Prop)(t:Nat),Q () ⟨h,g,d,t,os⟩->wpAny (model prog w) A (checkBuiltinCall sa ⟨[.ref x,.str name tk,v],[]⟩) Q E ⟨h,g,d,t,os⟩:=by
  intro A E tk Q t z;have ha:=J.args (.ref x) (.str name tk) v;simp only[checkBuiltinCall,J.kind,J.split];refine aa ?_
  repeat(first
   | (with_reducible refine am Y ?_;rw[hc])
   | (with_reducible refine aT D ?_;rw[own])
   |wp_step)
  cases M:Manifest.signature? sa with
  |none=>exact ag z
  |some Z=>
   simp only[argsOk,M]at ha;have ha:=ha;show wpAny _ _ (Bind.checkArgs sa Z ⟨[.ref x,.str name tk,v],[]⟩) _ _ _;rw[ha];exact ag z
 refine s _ _ _ (T0.store0 J n1 n2 hB Y hc hnc hdn λh' O dx P R S U V=>?_)
 repeat(any_goals(first|assumption|wp_step))
 exact hq h' O dx P R S U V
end
end XC
namespace XC
open L2 My
section
variable{N x:Addr}{mN mI:Str->Option Value}{B newId initId sa owner:String}
def OD{k:Nat}{dV kV doc:Value}{osl:Array (Option Value)}{p3 p4:Pos}
 (lk:K.lookup fI=some ⟨oc,od,.func (PySem.W.fnOf name qual params [.Assign [.Attribute (.Name "self" p1) f p2] (.Name f p3) p4] scope dV kV doc pm an cdv ct),osl⟩) (hcd:PySem.W.codeIn K cdv qual=true)
 (S:FnScope ["self", f] ["self", f] scope) (l1:scope.names.lookup ("self":Str)=some NameKind.local) (l2:scope.names.lookup f=some .local) (fs:("self":Str)≠f) (fd:(f==("__debug__":Str))=false) (fc:(f==("__classdict__":Str))=false)
 (hb:Binds K (PySem.W.fnOf name qual params [.Assign [.Attribute (.Name "self" p1) f p2] (.Name f p3) p4] scope dV kV doc pm an cdv ct) ["self", f] [])
 {A:db} {outer:List Env} {s:cB} {H:Hp} (hr:Room (k+1) A) (Y:Env0 P w K mg base A outer s H)
 (T:Two s.heap C N I bmB mN mI B newId) (SF:StoreFacts B bmB sa owner) (s1:mN "__setattr__"=none) (s2:mI "__setattr__"=none) (n1:mN f=none) (n2:mI f=none) (hB:typeLookup (.type B) f=pure none)
 {o:Obj} (hx:s.heap.get? x=some o) (hc:o.cls = .ref C) (hnc:∀c,o.data ≠ .cls c) (hdn:o.dict=none) {v:V} {u:Value} (rv:RelV v u) {R:Result->cB->Prop}
 (hq:∀h' J dx,h'.get? x=some {o with dict:=some dx}->s.heap.objs.size<=dx->dx≠x->h'.Ns1 dx (λy=>if y=f then some u else none)->(∀b O,b≠x->s.heap.get? b=some O->h'.get? b=some O)->R (.ok (.ret .none)) {s with heap:=h',toks:=J}) :
 codeAny (model P w) A (.call (.ref fI) ⟨[.ref x,u],[]⟩) R s:=by
 have X:=Y.mod.kin.keeps λb o e=>(Y.bs b o e).1
 have Z:=Y.mod.nolimit.keeps λb o e=>(Y.bs b o e).1
 have kinds:∀y∈(["self", f]:List Str).zip [c0 x,u],scope.names.lookup y.1=some .local\/(scope.names.lookup y.1=some .cell/\((cellsFrom (s.heap.objs.size+1) scope.names []).lookup y.1).isSome=true):=by
  rintro⟨n,z⟩ t;rcases S.par n (nO t).1 with q|q
  .exact .inl q
  .exact .inr ⟨q,PySem.W.cellsFrom_some _ _ _ (.inl q)⟩
 refine codeAny_call_function hr.depth (X _ _ lk) rfl S.co S.gen rfl (PySem.W.codeRec_of X hcd) (hb s [.ref x,u] X rfl _ _ _ _ ?_);refine cr S.kind kinds λenv r p y=>?_
 subst r;refine⟨Z.keeps y.toInCall.keep,codeAny_func ?_⟩;obtain⟨m,F,rfl,kp⟩:=y.done;have ns:=y.toInCall.ns;have D:bindL (envOfC qual scope s.heap.objs.size fI cdv).kindOf ((["self", f]:List Str).zip [c0 x,u]) (λ_=>none) "self"=some (.ref x):=
  tM S.nd (i:=0) rfl rfl l1
 have E:bindL (envOfC qual scope s.heap.objs.size fI cdv).kindOf ((["self", f]:List Str).zip [c0 x,u]) (λ_=>none) f=some u:=
  tM S.nd (i:=1) rfl rfl l2
 refine bi (plainObj_wpAny_Assign_Attribute (br (bj S.kind l2 ns E (br (bj S.kind l1 ns D ?_))) fd));refine(T.keeps kp).set0 SF s1 s2 n1 n2 hB (kp _ _ hx) hc hnc hdn λh' J dx G L M Q U=>?_
 refine aS ?_;exact hq h' J dx G (bO (bO y.toInCall.fresh (gB ns.lt)) L) M Q λb O e q=>U b O e (kp _ _ q)
end
end XC
namespace XC
open L2 My
structure Fly(h:dm)(a C dx:Addr)(f:Str)(u:Value)(tb:Option Addr):Prop where
 obj:∃vs sl,h.get? a=some ⟨.ref C,some dx,.fields vs,sl⟩/\vs[1]? = some (tb.elim .none .ref)
 dic:h.Ns1 dx (λy=>if y=f then some u else none)
 ne:dx≠a
 hd:∀T,tb=some T->T≠a/\T≠dx/\∃oT ts,h.get? T=some oT/\oT.data = .fields ts/\ts[3]? = some .none
section
variable{M:eh}
def Bt{outer:List Env}{L:Addr}{vs:Array Value}{head:Value}{hn:Bool}
 (J:A.frames=some (env::outer)) (hl:s.heap.FunFrames base (env::outer)) (hf:env.frame=some L) (he:s.heap.get? a=some oe) (hd:oe.data = .fields vs) (hsz:1<vs.size)
 (h:∀h' T,s.heap.objs.size<=T->h'.get? a=some (oe.mapFields (·.setIfInBounds 1 (.ref T)))->(∃oT ts,h'.get? T=some oT/\oT.data = .fields ts/\ts[3]? = some .none) ->
  (∀b o,b≠a->b∉frs (env::outer)->s.heap.get? b=some o->h'.get? b=some o)->(∀b o,b≠a->s.heap.get? b=some o->∃sl,h'.get? b=some {o with slots:=sl})->Q () {s with heap:=h'}) :
 wpAny M A (do let z <-frameOf env;let pl <-entryPlaceOf L hn;let b <-EntryCells.newEntry head z .none (rawInt L) .none pl;setField (.ref a) 1 b) (λ_ s'=>wpAny M A (setFlight (.ref a) none) Q E s') E s:=by
 have F:a∉(env::outer).filterMap (·.frame):=λz=>by
  obtain⟨_,o,I,q⟩:=hl.mem z;rw[he]at I
  cases I;exact q vs hd
 refine aa (wpAny_frameOf_fun J hl hf λh1 S=>?_);refine aa (wpAny_entryPlaceOf λpl U=>?_);refine aa (b8 ?_ (U.sizeOk5 _ _ _ _ _));obtain⟨Z,X⟩:∃Z:Obj,Z={cls:=.type "traceback", dict:=none,data:=.fields ([head,.ref L,.none,rawInt L,.none]++(if pl.isEmpty then aW 6 cS else pl)).toArray}:=⟨_,rfl⟩;rw[<-X];have od:Z.data = .fields ([head,.ref L,.none,rawInt L,.none]++(if pl.isEmpty then aW 6 cS else pl)).toArray:=by rw[X]
 have O:Z.isFreed=false:=by rw[X];rfl
 have a1:=(S.2.1 a F).trans he;have a2:(h1.push Z).get? a=some oe:=ae _ a1;refine ba a2 hd hsz ?_;have sz:=S.1;have ne:=qw (ac a1);have G:=a_ hd (·.setIfInBounds 1 (c0 h1.objs.size));obtain⟨Y,e3⟩:∃Y,Y=(h1.push Z).update a (d0 (·.setIfInBounds 1 (c0 h1.objs.size))):=⟨_,rfl⟩;rw[<-e3];have a3:Y.get? a=some (oe.mapFields (·.setIfInBounds 1 (.ref h1.objs.size))):=by
  rw[e3];exact av _ a2 (aE G)
 have t3:Y.get? h1.objs.size=some Z:=by
  rw[e3];exact(al _ _ ne.symm).trans (ah h1 O)
 have K:∀b,b≠a->b≠h1.objs.size->Y.get? b=h1.get? b:=λb V P=>by
  rw[e3,al _ _ (c9 V)];exact Heap.get?_push_ne _ _ _ P
 refine aa (az a3 G (x:=.ref h1.objs.size) (by simp[hsz]) ?_);rw[if_pos (show(c0 h1.objs.size != cS)=true by simp)];have H:=a_ od (·.setIfInBounds 3 ((none:Option Addr).elim cS λf=>rawInt f));refine ba t3 od (by simp only[bG,bx,bI,dG]<;>lia) ?_;obtain⟨R,e4⟩:∃R,R=Y.update h1.objs.size (d0 (·.setIfInBounds 3 ((none:Option Addr).elim cS λf=>rawInt f))):=⟨_,rfl⟩;rw[<-e4];have N:∀b,b≠h1.objs.size->R.get? b=Y.get? b:=λb z=>by rw[e4];exact al _ _ (c9 z)
 refine h R h1.objs.size (uR sz.symm) ((N a (c9 ne)).trans a3) ⟨_,_,by rw[e4];exact av _ t3 (aE H),H,?_⟩ (λb o V P q=>?_) λb o V q=>?_
 .rcases U with rfl|⟨_,_,_,_,_,_,_,rfl⟩<;>simp
 .have q1:=(S.2.1 b P).trans q;have W:=bN (ac q1);exact(N b W).trans ((K b V W).trans q1)
 .obtain⟨sl,q1⟩:=S.2.2 b o q;have W:=bN (ac q1);exact⟨sl,(N b W).trans ((K b V W).trans q1)⟩
end
end XC
namespace XC
open L2 My
section
variable{M:eh}
theorem OJ{outer:List Env}{L dx:Addr}{tb:Option Addr}
 (J:A.frames=some (env::outer)) (hl:s.heap.FunFrames base (env::outer)) (hf:env.frame=some L) (F:Fly s.heap a C dx f u tb) (nd:dx∉frs (env::outer))
 (h:∀h' T,s.heap.objs.size<=T->Fly h' a C dx f u (some T)->(∀b o,b≠a->tb≠some b->b∉frs (env::outer)->s.heap.get? b=some o->h'.get? b=some o) ->
  (∀b o,b≠a->tb≠some b->s.heap.get? b=some o->∃sl,h'.get? b=some {o with slots:=sl})->Q () {s with heap:=h'}) :
 wpAny M A (noteFrame (.ref a) env) (λ_ s'=>wpAny M A (setFlight (.ref a) none) Q E s') E s:=by
 obtain⟨⟨vs,sl,ea,e1⟩,Z,W,I⟩:=F;have X:=(cV.mp e1).1;have P:dx<s.heap.objs.size:=by
  obtain⟨o,_,_,q,_⟩:=Z;exact ac q
 unfold noteFrame;simp only[hf]
 cases tb with
 |none=>
  refine aa (az ea rfl e1 ?_);rw[if_neg (by decide)];refine Bt J hl hf ea rfl X λh' T Y q1 q2 q3 q4=>h h' T Y ⟨⟨_,sl,q1,by simp[X]⟩,?_,W,λG z=>?_⟩ (λb o U _ V O=>q3 b o U V O) λb o U _ V=>q4 b o U V
  .obtain⟨o,es,H,r1,r2⟩:=Z;exact⟨o,es,H,q3 dx o W nd r1,r2⟩
  .cases z;refine⟨λz=>?_,λz=>?_,q2⟩
   .rw[z]at Y;exact absurd (ac ea) (fV.mpr Y)
   .rw[z]at Y;exact absurd P (fV.mpr Y)
 |some T=>
  obtain⟨y,B,x,ts,t1,t2,t3⟩:=I T rfl;refine aa (az ea rfl e1 ?_);rw[if_pos (show((wM (some T) cS c0) != cS)=true by simp)];refine aa (az t1 t2 t3 ?_);rw[if_neg (show ¬((cS==rawInt L)=true)by simp[rawInt])];refine aa (ba t1 t2 (cV.mp t3).1 ?_);obtain⟨h2,e2⟩:∃h2,h2=s.heap.update T (d0 (·.setIfInBounds 3 cS)):=⟨_,rfl⟩;rw[<-e2];have R:∀b,b≠T->h2.get? b=s.heap.get? b:=λb z=>by rw[e2];exact al _ _ (c9 z)
  have S:h2.objs.size=s.heap.objs.size:=by rw[e2];exact Heap.size_update ..
  have w:T∉frs (env::outer):=λz=>by
   obtain⟨_,o,D,q⟩:=hl.mem z;rw[t1]at D
   cases D;exact q ts t2
  have K:=hl.of_keeps λb o hb q=>⟨o,(R b λz=>by rw[z,t1]at hb;cases hb;exact q ts t2).trans hb,rfl⟩
  refine Bt (s:={s with heap:=h2}) J K hf ((R a (c9 y)).trans ea) rfl X λh' G Y q1 q2 q3 q4=>h h' G (by rwa[<-S]) ⟨⟨_,sl,q1,by simp[X]⟩,?_,W,λv z=>?_⟩
   (λb o U N V O=>q3 b o U V ((R b λz=>N (by rw[z])).trans O)) λb o U N V=>q4 b o U ((R b λz=>N (by rw[z])).trans V)
  .obtain⟨o,es,H,r1,r2⟩:=Z;exact⟨o,es,H,q3 dx o W nd ((R dx (c9 B)).trans r1),r2⟩
  .cases z;have Y:s.heap.objs.size<=G:=by rwa[<-S]
   refine⟨λz=>?_,λz=>?_,q2⟩
   .rw[z]at Y;exact absurd (ac ea) (fV.mpr Y)
   .rw[z]at Y;exact absurd P (fV.mpr Y)
end
end XC
namespace XC
open L2 My
structure Loose(X:Cx)(pins:List (Addr×Obj))(H:Hp)(b:Addr):Prop where
 new:X.s₀.heap.objs.size<=b
 loc:b≠X.env.locals
 cel:∀x c,X.env.cells.lookup x=some c->c≠b
 pin:∀p∈X.pn++pins,p.1≠b
 out:H b=none
section
variable{X:Cx}{σ:L2.St}{H H':Hp}
def Loose.of(I:Inv X pins σ H s){b:Addr}(hb:s.heap.objs.size<=b)(J:H' b=none):Loose X pins H' b:=by
 refine⟨bO I.sz hb,λz=>?_,λx c e z=>?_,λp Y z=>?_,J⟩
 .rw[z]at hb;exact absurd I.lt (fV.mpr hb)
 .obtain⟨v,o,Z,_⟩:=I.cell x c e;rw[z]at Z;exact absurd (ac Z) (fV.mpr hb)
 .have:=(I.pin p Y).1;rw[z]at this;exact absurd (ac this) (fV.mpr hb)
def Loose.nofs(I:Inv X pins σ H s){b:Addr}(L:Loose X pins H' b):b∉X.env.locals::X.fs:=λz=>by
 rcases aK.mp z with e|e
 .exact L.loc e
 .obtain⟨_,o,Z,_⟩:=I.ok.funs.mem e;exact absurd (ac Z) (fV.mpr L.new)
def Gn{M:eh}{dx:Addr}{tb:Option Addr}(hA:A.frames=X.A.frames)(I:Inv X pins σ H s)(J:X.stack=X.env::X.outer)(hfr:X.env.frame=some X.env.locals)
 (F:Fly s.heap a C dx f u tb) (O:Loose X pins H a) (Ld:Loose X pins H dx) (Lt:∀T,tb=some T->Loose X pins H T)
 (h:∀s' T,Inv X pins σ H s'->Fly s'.heap a C dx f u (some T)->s'.os=s.os->s'.gens=s.gens->Loose X pins H T->Q () s') :
 wpAny M A (noteFrame (.ref a) X.env) (λ_ s'=>wpAny M A (setFlight (.ref a) none) Q E s') E s:=by
 have fl:=I.stack;rw[J]at fl;have fe:frs (X.env::X.outer)=X.env.locals::X.fs:=by unfold frs;rw[cD,hfr];rfl
 refine OJ (hA.trans (I.ok.frames.trans (by rw[J]))) fl hfr F (by rw[fe];exact Ld.nofs I) λh' T P G k1 k2=>?_
 have LT:=Loose.of I P (I.hok.fresh P);refine h _ T ?_ G rfl rfl LT;rw[fe]at k1;have ex:∀b,H b≠none->b≠a/\tb≠some b/\b∉X.env.locals::X.fs:=λb hb=>by
  refine⟨λz=>hb (by rw[z];exact O.out),λz=>hb (Lt b z).out,λz=>hb ?_⟩;exact I.stkFree b (by rwa[J,fe])
 obtain⟨m,⟨o,es,B,R,r⟩,_⟩:=id I.loc;obtain⟨sl,K⟩:=k2 _ o (c9 O.loc) (λz=>(Lt _ z).loc rfl) R;refine I.step (g':=s.gens) (d':=s.drawn) (t':=s.toks) (ch:=a::tb.toList) (λb hb=>?_) (λb o V W Z q _=>k1 b o (λz=>Z (by rw[z];exact aD)) (λz=>Z (aA _ (by rw[z];exact aB.mpr rfl))) (λz=>(aK.mp z).elim V W) q)
  (λb o V W Z q _=>k2 b o (λz=>Z (by rw[z];exact aD)) (λz=>Z (aA _ (by rw[z];exact aB.mpr rfl))) q) (λ_ _ _ _ z=>z)
  (λb o Z q=>let⟨_,w⟩:=k2 b o (λz=>Z (by rw[z];exact aD)) (λz=>Z (aA _ (by rw[z];exact aB.mpr rfl))) q;⟨_,w⟩) (λ_ _ e=>e) (λ_ _ _ e=>e) (λ_ _ _ e=>e) (λD hm=>?_) (λb w e=>?_) I.bare
 .rcases aK.mp hb with e|e
  .rw[e];exact⟨.inr O.new,O.loc,O.cel,O.pin⟩
  .cases tb with
   |none=>cases e
   |some T0=>
    have e:b=T0:=by simpa using e
    have:=Lt T0 rfl;rw[e];exact⟨.inr this.new,this.loc,this.cel,this.pin⟩
 .obtain⟨o',U,S,Y,N⟩:=hm;rw[R]at Y;cases Y;exact⟨_,U,S,K,N⟩
 .refine(I.hok b w e).stay (λc v L q=>?_) (λ_ q=>q) λ_ _ q=>q
  obtain⟨V,W,Z⟩:=ex c (by
   rcases L with z|z
   .rw[z,e];simp
   .rw[z];simp)
  exact k1 c v V W Z q
end
end XC
namespace XC
open L2 My
section
variable{prog:cN}{g:Array ev}{d:Drawn}{t:Nat}{os:OsState}
variable{N:Addr}{mN mI:Str->Option Value}{B newId initId:String}
def Two.call{rest:List Value}{Y:Obj}{Q:Value->cB->Prop}(T:Two h C N I bmB mN mI B newId)(F:ExcBaseFacts B newId initId bmB)(hi:mI "__init__"=none)(hN:mN "__init__"=some (.ref fI))
 (hf:h.get? fI=some Y) (O:Y.cls = .type "function") (J:rest.length<=sizeLine)
 (hq:∀h' e,h.objs.size<=e->Heap.MadeExcOf h h' e (.ref C) rest->wpAny (model prog w) (A.under (.builtin "type.__call__" ⟨.ref C::rest,[]⟩)) (call (.ref fI) (.ref e::rest)) (λr s'=>r = .none/\Q (.ref e) s') E ⟨h',g,d,t,os⟩) :
 wpAny (model prog w) A (call (.ref C) rest) Q E ⟨h,g,d,t,os⟩:=by
 have T0:=T;obtain⟨⟨nm,q,bs,sn,sub,ab,col,dd,k0,k1,k2,k3,k5,W⟩,hn,⟨U,L,NI,R,V,Z,P,X,S,j0,j1,j2,H,K,nid,G,hm⟩,hb⟩:=T;have g1:=tc_lookup;have g2:=tc_bind (.ref C);refine bq (codeAny_of_tree ?_)
 repeat(any_goals(first
  |assumption
  |with_reducible refine am W ?_
  |wp_step))
 refine⟨rfl,?_⟩;refine codeAny_call_builtin_at (Code.quiet_builtin _ (by decide +kernel)) entry_typeCall (wpAny_check_type_call_sub W (T0.make F hi hN hf O J λh' e M hm=>?_));exact hq h' e M hm
def Io{M:eh}{x:Sem Value}{Q:Flow->cB->Prop}(hh:A.handled=none)(O:bmB.contains (.type "BaseException")=true)
 (h:wpAny M A x (λv J=>∃e oe,v = .ref e/\Two J.heap C N I bmB mN mI B newId/\J.heap.get? e=some oe/\oe.cls = .ref C/\(∃vs,oe.data = .fields vs/\vs[1]? = some .none)/\E (.ref e) J) E s) :
 wpAny M A (raiseStmt env (some x) none) Q E s:=by
 have H:(c0 C :: .ref I::bmB).contains (.type "BaseException")=true:=by
  rw[fG,fG,O,kJ,kJ]
 refine aa (ai h (λv J q=>?_) λ_ _ z=>z);obtain⟨e,oe,rfl,T,X,L,⟨vs,hd,h1⟩,K⟩:=q;obtain⟨⟨nm,q,bs,sn,sub,ab,col,dd,k0,k1,k2,k3,k5,W⟩,hn,⟨U,G,NI,R,V,Z,P,Y,S,j0,j1,j2,D,F,nid,w,hm⟩,hb⟩:=T;obtain⟨y,g,d,tk,os⟩:=J
 repeat(first
  | (with_reducible refine am X ?_;rw[L])
  |with_reducible refine am W ?_
  | (with_reducible refine aT W ?_;rw[H])
  | (with_reducible refine az X hd h1 ?_)
  |wp_step)
 exact wpAny_raiseNew_none hh K
end
end XC
namespace XC
open L2 My
abbrev bmV:List Value:=[.type "ValueError", .type "Exception", .type "BaseException", .type "object"]
structure Init(K:PySem.W.Frag)(f:Str)(fI:Addr):Prop where
 ex:∃(name qual:Str)(params:ei)(scope:d3)(dV kV doc pm cdv ct:Value)(an od:Option Addr)(osl:Array (Option Value))(p1 p2 p3 p4:Pos),
  K.lookup fI=some ⟨.type "function", od,.func (PySem.W.fnOf name qual params [.Assign [.Attribute (.Name "self" p1) f p2] (.Name f p3) p4] scope dV kV doc pm an cdv ct),osl⟩/\PySem.W.codeIn K cdv qual=true /\
  FnScope ["self", f] ["self", f] scope/\scope.names.lookup ("self":Str)=some NameKind.local/\scope.names.lookup f=some NameKind.local /\
  Binds K (PySem.W.fnOf name qual params [.Assign [.Attribute (.Name "self" p1) f p2] (.Name f p3) p4] scope dV kV doc pm an cdv ct) ["self", f] []
 ne:("self":Str)≠f
 nd:(f==("__debug__":Str))=false
 nc:(f==("__classdict__":Str))=false
structure Exc(K:PySem.W.Frag)(mg:Str->Option Value)(cn f:Str)(C I:Addr):Prop where
 mgC:mg cn=some (.ref C)
 kp:PySem.W.keepIn K (.ref C)=true
 hB:typeLookup (.type "ValueError") f=pure none
 ex:∃(N fI:Addr)(mN mI:Str->Option Value),(∀h,K.In h->Two h C N I bmV mN mI "ValueError" "ValueError.__new__")/\mN "__init__"=some (.ref fI)/\mI "__init__"=none/\mN "__setattr__"=none/\mI "__setattr__"=none/\mN f=none/\mI f=none/\Init K f fI
section
variable{X:Cx}{σ:L2.St}{H:Hp}{ta:TE}{k:Nat}
def O1{R:V->Hp->Prop}(Ex:Exc X.K X.mg cn f C I)(hr:Room (k+2) X.A)(hg:Gl X cn)(hdb:(cn==("__debug__":Str))=false)(ha:PE X arg ta)(J:Inv X pins σ H s)(h:ta σ H R)
 (he:starEach [arg] X.env=(false,eval arg X.env)::starEach [] X.env:=by rfl) (O:(backTo pos (starEach [] X.env)).any (·.1)=false:=by rfl) :
 wpAny (model X.prog X.w) X.A (eval (.Call (.Name cn p) [arg] [] pos) X.env) (λr s'=>∃(v:V)(H1:Hp)(a dx:Addr)(u:Value),r = .ref a/\R v H1/\RelV v u/\Inv X pins σ H1 s'/\Fly s'.heap a C dx f u none/\Loose X pins H1 a/\Loose X pins H1 dx) X.xe s:=by
 obtain⟨mgC,kp,hB,N,fI,mN,mI,L,i1,i2,s1,s2,n1,n2,⟨⟨name,qual,params,scope,dV,kV,doc,pm,cdv,ct,an,od,osl,p1,p2,p3,p4,lk,hcd,S,l1,l2,hb⟩,ne,nd,nc⟩⟩:=Ex;refine aw (uY J hg mgC ?_ hdb);have h':VF ta Zg σ H λvs H1=>match vs with
  |[v]=>R v H1
  |_=>False:=h
 refine PySem.W.callWith_K (h₀:=X.base) J.ok.mod.kin kp (thn (iV ha nR he pos pins s σ H _ J h') λus z ⟨vs,H1,Z,r,q⟩=>⟨Z.kIn,?_⟩) he O;obtain⟨v,u,rfl,rfl,P⟩:∃v u,vs=[v]/\us=[u]/\RelV v u:=by
  cases r with
  |nil=>exact q.elim
  |cons a b=>cases b with
   |nil=>exact⟨_,_,rfl,rfl,a⟩
   |cons _ _=>exact q.elim
 obtain⟨l,g,d,tk,os⟩:=z;refine(L _ Z.kIn).call PySem.F.excBase_ValueError i2 i1 (Z.kIn _ _ lk) rfl (show 1<=sizeLine by decide) λh' e U hm=>?_
 have G:=Z.kept (t':=tk) hm.keeps;obtain⟨t,M,_,_⟩:=hm.there;refine bq (OD (x:=e) lk hcd S l1 l2 ne nd nc hb (hr.make C [u] []) (G.env0.make C [u] []) (L _ G.kIn) PySem.F.store_ValueError s1 s2 n1 n2 hB M rfl (λc z=>by cases z) rfl P λi Q dx n o B D E=>?_);have k3:=λb m w=>E b m (λy=>by
  rw[y]at w;exact absurd (ac w) (fV.mpr U)) (hm.keeps _ _ w)
 have j:=Z.kept (t':=Q) k3;have Y:l.objs.size<=dx:=by
  have e1:=ac M;exact bO U (bO (gB e1) o)
 exact⟨rfl,v,H1,e,dx,u,rfl,q,P,j,⟨⟨_,_,n,rfl⟩,D,B,λT y=>by cases y⟩,Loose.of Z U (Z.hok.fresh U),Loose.of Z Y (Z.hok.fresh Y)⟩
end
end XC
variable{fld:Addr->Str}
namespace XC
open L2 My
def CXE(P:cN)(w:df)(fld:Addr->Str):CXT:=λouter H s E e s'=>∃(a C dx T:Addr)(u:Value)(H':Hp),e = .ref a/\s'.os=s.os/\er s'.gens/\Un (frs outer) [] H H' s.heap s'.heap/\HOk P w H' s'.heap/\Fly s'.heap a C dx (fld C) u (some T) /\
 s.heap.objs.size<=a/\s.heap.objs.size<=dx/\s.heap.objs.size<=T/\H' a=none/\H' dx=none/\H' T=none/\E u (some C) H'
def CXE.no{outer:List Env}{e:Value}(h:CXE P w fld outer H s E0 e s'):False:=by
 obtain⟨_,_,_,_,_,_,_,_,_,_,_,_,_,_,_,_,_,_,z⟩:=h;exact z
section
variable{fa:Addr}{outer:List Env}{s₀:cB}{H₀:Hp}{E:XK}
variable{σ:L2.St}{H:Hp}
def O2{dx:Addr}{tb:Option Addr}(I:Inv (jx (CXE P w fld) P w K mg base N qual scope fa cdv A outer s₀ H₀ E) pins σ H s)(F:Fly s.heap a C dx (fld C) u tb)
 (O:Loose (jx (CXE P w fld) P w K mg base N qual scope fa cdv A outer s₀ H₀ E) pins H a) (J:Loose (jx (CXE P w fld) P w K mg base N qual scope fa cdv A outer s₀ H₀ E) pins H dx)
 (Y:∀T,tb=some T->Loose (jx (CXE P w fld) P w K mg base N qual scope fa cdv A outer s₀ H₀ E) pins H T) (q:E u (some C) H):(jx (CXE P w fld) P w K mg base N qual scope fa cdv A outer s₀ H₀ E).xe (.ref a) s:=by
 show wpAny _ _ (leaving _ (.ref a)) _ _ s;refine aa (Gn rfl I rfl rfl F O J Y λs' T Z X V W LT=>?_);exact⟨a,C,dx,T,u,H,rfl,Z.os,Z.bare,Z.base,Z.hok,X,O.new,J.new,LT.new,O.out,J.out,LT.out,q⟩
end
section
variable{X:Cx}{σ:L2.St}{H:Hp}{ta:TE}{k:Nat}
def Gp{Q:Flow->cB->Prop}{R:V->Hp->Prop}(Ex:Exc X.K X.mg cn f C I)(hr:Room (k+2) X.A)(hg:Gl X cn)(Y:(cn==("__debug__":Str))=false)(ha:PE X arg ta)(J:Inv X pins σ H s)(h:ta σ H R)
 (hx:∀(v:V)(H1:Hp)(a dx:Addr)(u:Value)(s':cB),R v H1->RelV v u->Inv X pins σ H1 s'->Fly s'.heap a C dx f u none->Loose X pins H1 a->Loose X pins H1 dx->X.xe (.ref a) s')
 (he:starEach [arg] X.env=(false,eval arg X.env)::starEach [] X.env:=by rfl) (O:(backTo pos (starEach [] X.env)).any (·.1)=false:=by rfl) :
 wpAny (model X.prog X.w) X.A (exec (.Raise (some (.Call (.Name cn p) [arg] [] pos)) none rpos) X.env) Q X.xe s:=by
 have Z:=Ex;obtain⟨mgC,kp,hB,N,fI,mN,mI,T,i1,i2,s1,s2,n1,n2,_⟩:=Ex;rw[arm_exec_Raise];simp only[evalOpt,Option.map];refine aa (bo (Io (C:=C) (N:=N) (I:=I) (bmB:=bmV) (mN:=mN) (mI:=mI) (B := "ValueError") (newId := "ValueError.__new__") hr.hd (by decide) ?_));refine aa (ai (O1 Z hr hg Y ha J h he O) (λr s' q=>?_) λ_ _ z=>z);obtain⟨v,H1,a,dx,u,rfl,q,U,W,F,P,S⟩:=q;refine aa (bo (ag ?_));obtain⟨vs,sl,e1,e2⟩:=F.obj;exact⟨a,_,rfl,T _ W.kIn,e1,rfl,⟨vs,rfl,e2⟩,hx v H1 a dx u s' q U W F P S⟩
end
end XC
namespace XC
open L2 My
section
variable{M:eh}{g:Array ev}{d:Drawn}{t:Nat}{os:OsState}
variable{N:Addr}{mN mI:Str->Option Value}{B newId:String}
def Two.match_up{Q:Bool->cB->Prop}(T:Two h C N I bmB mN mI B newId)(he:h.get? a=some oe)(hc:oe.cls = .ref C)(J:bmB.contains (.type "BaseException")=true)(O:Q true ⟨h,g,d,t,os⟩):
 wpAny M A (excMatches (.ref a) (.ref I)) Q E ⟨h,g,d,t,os⟩:=by
 obtain⟨⟨nm,q,bs,sn,sub,ab,col,dd,k0,k1,k2,k3,k5,W⟩,hn,⟨U,H,NI,R,V,Z,P,Y,S,j0,j1,j2,F,G,nid,X,hm⟩,hb⟩:=T;have K:(c0 I::bmB).contains (.type "BaseException")=true:=by rw[fG,J,kJ]
 have L:(c0 C :: .ref I::bmB).contains (.ref I)=true:=by simp
 have f:=tc_notTuple
 repeat(first
  | (with_reducible refine am he ?_;rw[hc])
  |with_reducible refine am X ?_
  |with_reducible refine am W ?_
  | (with_reducible refine aT X ?_;rw[K])
  | (with_reducible refine aT W ?_;rw[L])
  |wp_step)
 exact O
def Two.match_self{Q:Bool->cB->Prop}(T:Two h C N I bmB mN mI B newId)(Y:h.get? a=some oe)(Z:oe.cls = .ref C)(J:bmB.contains (.type "BaseException")=true)(O:Q true ⟨h,g,d,t,os⟩):
 wpAny M A (excMatches (.ref a) (.ref C)) Q E ⟨h,g,d,t,os⟩:=by
 obtain⟨⟨nm,q,bs,sn,sub,ab,col,dd,k0,k1,k2,k3,k5,X⟩,hn,_,hb⟩:=T;exact wpAny_excMatches_sub_self X Y Z (by rw[fG,J,kJ]) O
end
end XC
variable{T0:String}
namespace XC
open L2 My
section
variable{prog:cN}{g:Array ev}{d:Drawn}{t:Nat}{os:OsState}
variable{N D:Addr}{mN mI:Str->Option Value}{B newId:String}{oD:Obj}
def Two.isi_blt{Q:Value->cB->Prop}(T:Two h C N I bmB mN mI B newId)(Y:h.get? a=some oe)(Z:oe.cls = .ref C)(J:typeOf (.type T0)=pure (.type "type"))(hb:(c0 C :: .ref I::bmB).contains (.type T0)=true)(O:Q (.bool true) ⟨h,g,d,t,os⟩):
 wpAny (model prog w) A (PySem.call (.builtin "isinstance") [.ref a,.type T0]) Q E ⟨h,g,d,t,os⟩:=by
 obtain⟨⟨nm,q,bs,sn,sub,ab,col,dd,k0,k1,k2,k3,k5,X⟩,_⟩:=T;refine call_isinstance_of ?_ (by intro e;cases e);unfold el.«isinstance.nested»
 repeat(first
  | (with_reducible refine am Y ?_;rw[Z])
  | (with_reducible refine aT X ?_;rw[hb])
  |wp_step)
 exact O
end
end XC
namespace XC
open L2 My
noncomputable def eE(X:Cx)(a:Addr)(oa:Obj)(dx:Addr)(od:Obj):Cx:={X with A:=X.A.mark (some (.ref a)),calm:=false,pn:=X.pn++[(a,oa),(dx,od)],xe:=λ_ _=>False}
section
variable{X:Cx}{σ:L2.St}{H:Hp}{dx:Addr}{tb:Option Addr}
def Li(I:Inv X pins σ H s)(F:Fly s.heap a C dx f u tb)(O:Loose X pins H a)(J:Loose X pins H dx):∃oa od,s.heap.get? a=some oa/\s.heap.get? dx=some od/\Inv (eE X a oa dx od) pins σ H s:=by
 obtain⟨vs,sl,e1,_⟩:=F.obj;obtain⟨od,es,Y,e2,e3,_⟩:=F.dic;refine⟨_,od,e1,e2,⟨⟨I.ok.mod,I.ok.kind,I.ok.glob,I.ok.blt,I.ok.above,I.ok.inj,I.ok.has,I.ok.cab,λz=>(by cases z),I.ok.frames,I.ok.stk,I.ok.exf,I.ok.bs,I.ok.bsz,I.ok.noex,I.ok.exfs,I.ok.funs,I.ok.frf⟩,I.os,I.bare,I.base,I.loc,I.cell,I.free,I.freeC,λp Z=>?_,I.hok,I.len⟩⟩;have Z:=Z;rcases aR.mp Z with Z|Z
 .rcases aR.mp Z with Z|Z
  .exact I.pin p (aU _ Z)
  .rcases aK.mp Z with rfl|Z
   .exact⟨e1,O.out,O.loc,λz=>O.nofs I (aA _ z),λv z=>by cases z⟩
   .rw[aB.mp Z];exact⟨e2,J.out,J.loc,λz=>J.nofs I (aA _ z),λv z=>by rw[e3]at z;cases z⟩
 .exact I.pin p (aL _ Z)
def u_{σ':L2.St}{od:Obj}(ok:X.Ok)(I:Inv (eE X a oa dx od) pins σ' H' s'):Inv X pins σ' H' s':=by
 refine⟨ok,I.os,I.bare,I.base,I.loc,I.cell,I.free,I.freeC,λp Z=>?_,I.hok,I.len⟩;rcases aR.mp Z with Z|Z
 .exact I.pin p (aU _ (aU _ Z))
 .exact I.pin p (aL _ Z)
end
end XC
namespace XC
open L2 My
section
variable{X:Cx}{σ:L2.St}{H:Hp}{dx:Addr}
def Ip{M:eh}(I:Inv X pins σ H s)(F:Fly s.heap a C dx f u (some T))(hn:H T=none)(J:T≠X.env.locals)(h1:X.s₀.heap.objs.size<=T)(h2:∀x c,X.env.cells.lookup x=some c->c≠T)(h3:∀p∈X.pn++pins,p.1≠T)
 (h:∀s',Inv X pins σ H s'->Fly s'.heap a C dx f u (some T)->Q () s'):wpAny M A (setFlight (.ref a) none) Q E s:=by
 obtain⟨⟨vs,sl,ea,e1⟩,Z,W,V⟩:=F;obtain⟨R,S,O,ts,t1,t2,t3⟩:=V T rfl;refine aa (az ea rfl e1 ?_);rw[if_pos (show((wM (some T) cS c0) != cS)=true by simp)];refine ba t1 t2 (cV.mp t3).1 ?_;obtain⟨h',e2⟩:∃h',h'=s.heap.update T (d0 (·.setIfInBounds 3 ((none:Option Addr).elim cS λf=>rawInt f))):=⟨_,rfl⟩;rw[<-e2];have Y:∀b,b≠T->h'.get? b=s.heap.get? b:=λb z=>by rw[e2];exact al _ _ (c9 z)
 have U:=a_ t2 (·.setIfInBounds 3 ((none:Option Addr).elim cS λf=>rawInt f));have P:h'.get? T=some (O.mapFields (·.setIfInBounds 3 ((none:Option Addr).elim cS λf=>rawInt f))):=by
  rw[e2];exact av _ t1 (aE U)
 have L:Inv X pins σ H {s with heap:=h',toks:=s.toks}:=Inv.turned (t':=s.toks) I (λb o z q=>(Y b z).trans q) hn J (.inr h1) h2 h3;refine h _ L ⟨⟨vs,sl,(Y a (c9 R)).trans ea,e1⟩,?_,W,λK z=>?_⟩
 .obtain⟨o,es,N,r1,r2⟩:=Z;exact⟨o,es,N,(Y dx (c9 S)).trans r1,r2⟩
 .cases z;refine⟨R,S,_,_,P,U,?_⟩;have:=(cV.mp t3).1;simp[this]
end
end XC
namespace XC
open L2 My
section
variable{X:Cx}{σ:L2.St}{H:Hp}{I0 dx D:Addr}{n:Str}{b0:Stmt}{np:Pos}
def name_goes{M:eh}(I:Inv X pins σ H s)(hl:X.env.scope.names.lookup n=some .local)
 (h:∀s',Inv X pins (aW σ.length none) H s'->Q () s'):wpAny M A (do bindName X.env n .none;unbindBehindTheSuite X.env n hpos) Q E s:=by
 obtain⟨m,hn,_⟩:=id I.loc;have cls:(X.env.scope.kind == .class||(X.env.scope.kind == .module&&X.env.locals != X.env.globals))=false:=by rw[I.ok.kind];rfl
 refine wpAny_nameGoes hl hn cls λh' P T V=>h _ ?_
 have Y:∀b o,X.s₀.heap.get? b=some o->b≠X.env.locals:=λb o e z=>by
  rw[z]at e;exact absurd (ac e) (fV.mpr I.ok.above)
 refine⟨I.ok,I.os,I.bare,⟨λb o e Z W U=>(V.2 b (Y b o e)).trans (I.base.keep b o e Z W U),λb o e Z W U=>?_,I.base.free,λb o e Z=>?_,I.base.tups,I.base.frzs,I.base.tbls⟩,⟨P,T,λj y v e1 e2 _=>?_⟩,λy c e=>?_,I.free,I.freeC,λp O=>?_,λb R e=>?_,by rw[cC];exact I.len⟩
 .obtain⟨sl,w⟩:=I.base.slot b o e Z W U;exact⟨sl,(V.2 b (Y b o e)).trans w⟩
 .obtain⟨o',w⟩:=I.base.there b o e Z;exact⟨o',(V.2 b (Y b o e)).trans w⟩
 .rw[fJ]at e2;split at e2<;>cases e2
 .obtain⟨w,z⟩:=I.cell y c e;exact⟨w,z.sameBut V (I.cne y c e)⟩
 .obtain⟨e,Z,W,U,S⟩:=I.pin p O;exact⟨(V.2 p.1 W).trans e,Z,W,U,S⟩
 .refine(I.hok b R e).stay (λc w N q=>(V.2 c λz=>?_).trans q) (λ_ q=>q) λ_ _ q=>q
  rcases N with y|y
  .rw[<-y,z,I.free]at e;cases e
  .rw[z,I.free]at y;cases y
end
end XC
namespace XC
open L2 My
def XP(fld:Addr->Str)(X:Cx)(pins:List (Addr×Obj))(σ:L2.St)(EX:XK)(e:Value)(s':cB):Prop:=∃(a C dx T:Addr)(u:Value)(H':Hp),e = .ref a/\Inv X pins σ H' s'/\Fly s'.heap a C dx (fld C) u (some T)/\Loose X pins H' a/\Loose X pins H' dx/\Loose X pins H' T/\EX u (some C) H'
section
variable{X:Cx}{σ:L2.St}{H:Hp}{k:Nat}{f:Addr}{sp:Sp}{ds:List Value}{EX:XK}
theorem S8{Q:VK}(F:FnOk X.prog X.w X.K X.mg X.base (CXE X.prog X.w fld) k f fd ps sp)(O:Room k X.A)(hb:Binds X.K fd ps ds)(hd:Vals dvs ds)(J:Inv X pins σ H s)(r:Vals vs us)(h:sp (vs++dvs) H Q EX):
 wpAny (model X.prog X.w) X.A (PySem.call (.ref f) us) (EP X pins σ Q) (XP fld X pins σ EX) s:=by
 have Z:=r.append hd;have hl:(us++ds).length=ps.length:=by
  rw[<-Z.length];exact F.len _ _ _ _ h
 refine bq (cf (F.run X.A X.stack s H ⟨us,[]⟩ (us++ds) (vs++dvs) Q EX O J.env0 (hb s us J.kIn hl) Z h) λrr s' q=>?_)
 cases rr with
 |error e=>
  obtain⟨a,C,dx,T,u,H',rfl,os,bare,un,hok,Fl,ha,Y,U,W,nd,V,q⟩:=q;exact⟨a,C,dx,T,u,H',rfl,Inv.call' (ch:=[]) J os un hok bare (λb z=>absurd z (by simp)),Fl,Loose.of J ha W,Loose.of J Y nd,Loose.of J U V,q⟩
 |ok fl=>
  cases fl with
  |ret u=>exact J.after q
  |next=>exact q.elim
  |brk=>exact q.elim
  |cont=>exact q.elim
def PSE(fld:Addr->Str)(X:Cx)(st:Stmt)(t:Ends->XK->L2.St->Hp->Prop):Prop:=
 ∀(pins:List (Addr×Obj))(s:cB)(σ:L2.St)(H:Hp)(D:Ends)(EX:XK),Inv X pins σ H s->t D EX σ H->wpAny (model X.prog X.w) X.A (exec st X.env) (SP X pins D) (XP fld X pins σ EX) s
section
variable{ta:TA}
def vJ(F:FnOk X.prog X.w X.K X.mg X.base (CXE X.prog X.w fld) k f fd ps sp)(hr:Room k X.A)(hg:Gl X x)(hm:X.mg x=some (.ref f))(hk:PySem.W.keepIn X.K (.ref f)=true)(hb:Binds X.K fd ps ds)(hd:Vals dvs ds)(ha:PA X.nox (e::es) ta)
 (Y:(x==("__debug__":Str))=false:=by decide) (he:starEach (e::es) X.env=(false,eval e X.env)::starEach es X.env:=by rfl) (O:(backTo pos (starEach es X.env)).any (·.1)=false:=by rfl) (hs:swapsWith (.Call (.Name x p) (e::es) [] pos) none pos2.line X.env=pure false:=by rfl) :
 PSE fld X (.Expr (.Call (.Name x p) (e::es) [] pos) pos2) (λD EX σ H=>ta σ H λvs H1=>sp (vs++dvs) H1 (λ_ H2=>D.nx σ H2) EX):=by
 intro pins s σ H D EX J h;refine wpAny_Expr_any ?_ J.quiet hs;refine aw (uY J hg hm ?_ Y);refine PySem.W.callWith_K (h₀:=X.base) J.ok.mod.kin hk (ai (ha pos pins s σ H _ (J.wish _) h) (λus s1 q=>?_) λ_ _ z=>z.elim) he O;obtain⟨vs,H1,Z,r,q⟩:=q;have Z:Inv X pins σ H1 s1:=Z.wish _;refine⟨Z.kIn,ai (S8 F hr hb hd Z r q) (λu s2 w=>?_) λ_ _ z=>z⟩;obtain⟨v,H2,V,U,q2⟩:=w;exact⟨σ,H2,V,q2⟩
end
end
end XC
namespace XC
open L2 My D3
def aj4(K:PySem.W.Frag)(mg:Str->Option Value)(fl:List Fl)(G:Gh)(Dn:Ends)(E:XK):Or->Prop
 | .o x=>yL K fl G Dn x
 | .ex c d=>∀(C:Addr)(v:V)(u:Value)(H':Hp),mg c=some (.ref C)->Same G.H0 H'->RA K ok1 true H' v d->RelV v u->E u (some C) H'
noncomputable def tDX(K:PySem.W.Frag)(mg:Str->Option Value)(fl:List Fl)(E:XK)(f:FX):TS:=λDn σ H=>∃G ow δ o,Rel K fl G ow σ H δ/\f δ=some o/\aj4 K mg fl G Dn E o
abbrev DX1(X:Cx)(E:XK)(fl:List Fl)(s:Stmt)(f:FX):Prop:=PS X s (tDX X.K X.mg fl E f)
abbrev DXs(X:Cx)(E:XK)(fl:List Fl)(s:List Stmt)(f:FX):Prop:=PSs X s (tDX X.K X.mg fl E f)
section
variable{X:Cx}{E:XK}{fl:List Fl}{c:Expr}{fs:FS}{f g:FX}
theorem PS.nox{t:TS}(h:PS X.nox st t):PS X st t:=λpins s σ H D I hw=>by
 refine ai (h pins s σ H D (I.wish _) hw) (λfl s' q=>?_) λ_ _ z=>z.elim
 cases fl with
 |next=>obtain⟨σ',H',J,q⟩:=q;exact⟨σ',H',J.wish _,q⟩
 |ret u=>obtain⟨v,σ',H',J,r,q⟩:=q;exact⟨v,σ',H',J.wish _,r,q⟩
 |brk=>obtain⟨σ',H',J,q⟩:=q;exact⟨σ',H',J.wish _,q⟩
 |cont=>obtain⟨σ',H',J,q⟩:=q;exact⟨σ',H',J.wish _,q⟩
def nG(h:DS1 X.nox fl st fs):DX1 X E fl st (xOf fs):=PS.imp (PS.nox h) λDn σ H h=>by
 refine D3.ex4 h λG ow δ o R Y q=>?_
 refine D3.ex1 (bind1 Y) λZ e1 e2=>?_
 cases e2;exact⟨G,ow,δ,Z,R,e1,q⟩
def yV(h:DSs X.nox fl sts fs):DXs X E fl sts (xOf fs):=PSs.imp (PSs.nox h) λDn σ H h=>by
 refine D3.ex4 h λG ow δ o R Y q=>?_
 refine D3.ex1 (bind1 Y) λZ e1 e2=>?_
 cases e2;exact⟨G,ow,δ,Z,R,e1,q⟩
theorem eU(h1:DX1 X E fl st f)(h2:DXs X E fl sts g):DXs X E fl (st::sts) (lF f g):=PSs.imp (yq h1 h2) λDn σ H h=>by
 refine D3.ex4 h λG ow δ o R W q=>?_
 refine D3.ex1 (bind1 W) λZ e1 e2=>?_
 refine⟨G,ow,δ,Z,R,e1,?_⟩
 cases Z with
 |ex c d=>cases e2;exact q
 |o Z=>
  cases Z with
  |nx δ'=>exact λY σ' H' R'=>⟨G,Y,δ',o,R',e2,q⟩
  |rt d=>cases e2;exact yL.nx_imp (fl:=fl) (o:=.rt d) q (λ_ z=>by cases z)
  |bk d=>cases e2;exact yL.nx_imp (fl:=fl) (o:=.bk d) q (λ_ z=>by cases z)
  |ct d=>cases e2;exact yL.nx_imp (fl:=fl) (o:=.ct d) q (λ_ z=>by cases z)
  |ex c f v=>cases e2;exact q
def kW(h1:DX1 X E fl st f):DXs X E fl [st] f:=PSs.imp (Ci h1) λ_ _ _ h=>h
theorem Gq(J:DT X.nox fl c ft)(h1:DXs X E fl body f)(h2:DXs X E fl orelse g):DX1 X E fl (.If c body orelse pos) (xIf ft f g):=PS.imp (M8 (PT.nox J) h1 h2) λDn σ H h=>by
 refine D3.ex4 h λG ow δ o R Z q=>?_
 refine D3.ex1 (bind1 Z) λt e1 e2=>?_
 refine⟨G,ow,δ,t,R,e1,λH' s=>?_⟩
 cases t with
 |true=>exact yC ⟨G,ow,δ,o,R.grow s,e2,q⟩
 |false=>exact yx ⟨G,ow,δ,o,R.grow s,e2,q⟩
end
structure ExcF(K:PySem.W.Frag)(mg:Str->Option Value)(fld:Addr->Str)(cn f:Str):Prop where
 ex:∃C I,Exc K mg cn f C I/\fld C=f
section
variable{fa:Addr}{outer:List Env}{s₀:cB}{H₀:Hp}{E:XK}
variable{fl:List Fl}{fe:FE}{k:Nat}
def yW(O:ExcF K mg fld cn f)(hr:Room (k+2) (A.deeper (envOfC qual scope s₀.heap.objs.size fa cdv)))
 (ha:DE (jx (CXE P w fld) P w K mg base N qual scope fa cdv A outer s₀ H₀ E).nox fl .P arg fe) (hg:Gl (jx (CXE P w fld) P w K mg base N qual scope fa cdv A outer s₀ H₀ E) cn:=by rfl) (Z:(cn==("__debug__":Str))=false:=by decide)
 (he:starEach [arg] (jx (CXE P w fld) P w K mg base N qual scope fa cdv A outer s₀ H₀ E).env=(false,eval arg (jx (CXE P w fld) P w K mg base N qual scope fa cdv A outer s₀ H₀ E).env)::starEach [] (jx (CXE P w fld) P w K mg base N qual scope fa cdv A outer s₀ H₀ E).env:=by exact fZ rfl)
 (Y:(backTo pos (starEach [] (jx (CXE P w fld) P w K mg base N qual scope fa cdv A outer s₀ H₀ E).env)).any (·.1)=false:=by exact sH rfl) :
 DX1 (jx (CXE P w fld) P w K mg base N qual scope fa cdv A outer s₀ H₀ E) E fl (.Raise (some (.Call (.Name cn p) [arg] [] pos)) none rpos) (o9 cn fe):=by
 intro pins s σ H Dn J h;obtain⟨C,I0,O,V⟩:=O.ex;refine D3.ex4 h λG ow δ o R W q=>?_
 refine D3.ex1 (bind1 W) λd e1 e2=>?_
 cases e2;refine Gp (R:=λv H1=>Same H H1/\RA K ok1 true H1 v d) O hr hg Z (PE.nox ha) J ⟨G,ow,δ,d,R,e1,λv H' s r=>⟨s,r⟩⟩ (λv H1 a dx u s' r X Q Fl S U=>?_) he Y;rw[<-V]at Fl;exact O2 Q Fl S U (λT z=>by cases z) (q C v u H1 O.mgC (R.same0.trans r.1) r.2 X)
end
def spX(K:PySem.W.Frag)(mg:Str->Option Value)(F:List D->Option Or):Sp:=λvs H Q E=>∃ds o,(Tb H/\RAs K ok1 true H vs ds)/\F ds=some o/\match o with
 | .o (.rt d)=>∀v H',Same H H'->RA K (okN H) false H' v d->Q v H'
 | .o (.ex _ _ d)=>∀v H',Same H H'->RA K ok1 true H' v d->Q v H'
 | .ex c d=>∀(C:Addr)(v:V)(u:Value)(H':Hp),mg c=some (.ref C)->Same H H'->RA K ok1 true H' v d->RelV v u->E u (some C) H'
 |_=>False
structure HasX(P:cN)(w:df)(K:PySem.W.Frag)(mg:Str->Option Value)(base:dm)(fld:Addr->Str)(n:Nat)(x:Str)(ps:List Str)(sp:Sp)(dvs:List V):Prop where
 ex:∃(f:Addr)(fd:du)(ds:List Value),FnOk P w K mg base (CXE P w fld) n f fd ps sp/\Binds K fd ps ds/\Vals dvs ds/\PySem.W.keepIn K (.ref f)=true/\mg x=some (.ref f)
section
variable{ks:List Str}{k:Nat}{f:FX}{fl:List Fl}{sp:Sp}
def HasX.mono(h:HasX P w K mg base fld k x ps sp dvs)(l:k<=n):HasX P w K mg base fld n x ps sp dvs:=by
 obtain⟨f,fd,ds,F,b,v,kp,m⟩:=h.ex;exact⟨f,fd,ds,F.mono l,b,v,kp,m⟩
def S9{fa:Addr}(Fn:FunD K x st fa fd)(S:FnScope N ps (aX st))(O:∀i,i<ps.length->fl[i]? = some .A)(Y:ps.length<=N.length)
 (J:∀(fa:Addr)(cdv:Value)(A:db)(outer:List Env)(s:cB)(H:Hp)(E:XK),Room k (A.deeper (envOfC x (aX st) s.heap.objs.size fa cdv))->DXs (jx (CXE P w fld) P w K mg base N x (aX st) fa cdv A outer s H E) E fl (gR st) f) :
 FnOk P w K mg base (CXE P w fld) (k+1) fa fd ps (spX K mg (fnX ps.length (N.length-ps.length) f)):=by
 obtain⟨oc,od,dV,kV,doc,pm,an,cdv,ct,osl,rfl,lk,hcd⟩:=Fn.ex;have hlen:∀vs H Q E,spX K mg (fnX ps.length (N.length-ps.length) f) vs H Q E->vs.length=ps.length:=λvs H Q E h=>by
  obtain⟨ds,o,r,Z,_⟩:=h;unfold fnX at Z;by_cases z:ds.length=ps.length
  .rw[r.2.length];exact z
  .rw[if_neg z]at Z;cases Z
 refine Nt lk hcd S hlen λA outer s H vs Q E V h=>?_
 obtain⟨ds,o,r,Z,q⟩:=h;refine⟨_,J fa cdv A outer s H E V,?_⟩;unfold fnX at Z;by_cases z:ds.length=ps.length
 .rw[if_pos z]at Z;split at Z
  .next U e=>
   cases Z;exact⟨_,_,_,_,jw ps.length O z Y r,e,λv H' s r=>q v H' s r⟩
  .next δ' e=>
   cases Z;exact⟨_,_,_,_,jw ps.length O z Y r,e,λW σ' H' R'=>q .non H' R'.same0 .non⟩
  .next c f d e=>
   cases Z;exact⟨_,_,_,_,jw ps.length O z Y r,e,λv H' s r=>q v H' s r⟩
  .next c d e=>
   cases Z;exact⟨_,_,_,_,jw ps.length O z Y r,e,λC v u H' m s r X=>q C v u H' m s r X⟩
  .cases Z
 .rw[if_neg z]at Z;cases Z
def uM(Dd:Dg K mg x st ps)(S:FnScope N ps (aX st))(O:∀i,i<ps.length->fl[i]? = some .A)(Y:ps.length<=N.length)
 (J:∀(fa:Addr)(cdv:Value)(A:db)(outer:List Env)(s:cB)(H:Hp)(E:XK),Room k (A.deeper (envOfC x (aX st) s.heap.objs.size fa cdv))->DXs (jx (CXE P w fld) P w K mg base N x (aX st) fa cdv A outer s H E) E fl (gR st) f) :
 HasX P w K mg base fld (k+1) x ps (spX K mg (fnX ps.length (N.length-ps.length) f)) []:=by
 obtain⟨f,fd,Z,b,m⟩:=Dd.ex;exact⟨f,fd,[],S9 Z S O Y J,b,.nil,Z.kp,m⟩
end
end XC
namespace XC
open L2 My D3
section
variable{X:Cx}{I0 dx D:Addr}{n:Str}{od:Obj}{cond a1 b1:Expr}{rest:List Expr}{np:Pos}
def tE(i:Nat)(a:Addr):TE:=λσ H Q=>σ[i]? = some (some (.ref a))/\Q (.bl true) H
abbrev IsE(S:Cx)(i:Nat)(a:Addr)(cond:Expr):Prop:=PE S cond (tE i a)
def O3(Ex:Exc X.K X.mg cn f C I0)(J:typeOf (.type T0)=pure (.type "type"))(hb:bmV.contains (.type T0)=true)(O:oa.cls = .ref C):nA (eE X a oa dx od) (.builtin "isinstance") (λxs H Q=>xs=[.ref a,.ty T0]/\Q (.bl true) H):=by
 intro pins s σ H xs us Q I r h;obtain⟨rfl,q⟩:=h;obtain⟨Y,Z,rfl,r1,r2⟩:∃Y Z,us=[Y,Z]/\RelV (.ref a) Y/\RelV (.ty T0) Z:=by
  cases r with
  |cons r1 r=>cases r with
   |cons r2 r=>cases r;exact⟨_,_,rfl,r1,r2⟩
 cases r1;cases r2;obtain⟨mgC,kp,hB,N,fI,mN,mI,U,_⟩:=Ex;have T:=U _ I.kIn;have ha:=(I.pin (a,oa) (aU _ (aL _ aD))).1;obtain⟨V,g,d,tk,os⟩:=s;have W:EP (eE X a oa dx od) pins σ Q (.bool true) ⟨V,g,d,tk,os⟩:=⟨.bl true,H,I,rfl,q⟩;refine T.isi_blt ha O J ?_ W;rw[fG,fG,hb];simp
def S_(Ex:Exc X.K X.mg cn f C I0)(J:typeOf (.type T0)=pure (.type "type"))(hb:bmV.contains (.type T0)=true)(O:oa.cls = .ref C)(hic:X.mg ic=none)(hbo:bootBuiltins ic=some (.type T0))(hgi:Gl X "isinstance")(Z:X.mg "isinstance"=none)(hg:Gl X ic)(hi:X.N[i]? = some n)(hv:Vis X.env.scope n)
 (Y:ic≠"__name__" := by decide) (hdb:(ic==("__debug__":Str))=false:=by decide) (hdn:(n==("__debug__":Str))=false:=by decide) (hcn:(n==("__classdict__":Str))=false:=by decide) :
 IsE (eE X a oa dx od) i a (.Call (.Name "isinstance" p) [.Name n p1,.Name ic p2] [] pos):=
 PE.imp (qj (X:=eE X a oa dx od) (O3 Ex J hb O) hgi Z cq (iV (mY (X:=eE X a oa dx od) hi hv hdn hcn) (iV (Jy (X:=eE X a oa dx od) (v:=.ty T0) hg hic hbo rfl Y hdb) nR (by exact fZ rfl)) (by exact fZ rfl)) (by decide) (by decide) (by exact fZ rfl) (by exact sH rfl)) λσ H Q h=>by
  exact⟨_,h.1,rfl,h.2⟩
end
end XC
namespace XC
open L2 My D3
section
variable{X:Cx}{fl:List Fl}{en:Str}{F:List D->Option Or}{cond:Expr}{fa:FA}{np:Pos}
end
end XC
variable{es:Array DictEntry}
namespace XC
open L2 My D3
def Tc(es:Array DictEntry):Bool:=es.toList.all λe=>match e.key with | .str _ _=>true|_=>false
theorem Te(h:Tc es=true):StrKeys es:=λe Z=>by
 have:=ju.mp h e (rO.mpr Z)
 cases q:e.key with
 |str n t=>exact⟨n,t,rfl⟩
 |_=>rw[q]at this;cases this
def VR{N:Addr}{c:Value}{d:Option Addr}(l:K.lookup N=some ⟨c,d,.dict es n,sl⟩)(ok:Tc es=true)(h:dm)(X:K.In h):h.Ns N (nsFind es):=
 ⟨_,es,n,X _ _ l,rfl,Te ok,λ_=>rfl⟩
def tV{N:Addr}{c:Value}{d:Option Addr}{r:Option Value}(l:K.lookup N=some ⟨c,d,.dict es n,sl⟩)(e:PySem.W.nsIn K N x=some r):nsFind es x=r:=by
 unfold PySem.W.nsIn at e;rw[l]at e;dsimp only at e;unfold nsFind findBy;rw[<-uE];split at e
 .next en Z=>
  cases e;rw[Z];rfl
 .next Z=>
  rw[Z];split at e
  .cases e
  .cases e;rfl
def O4{N NI:Addr}(X:K.In h)(G:h.Ns mainGlobals mg)
 {nm q:Str} {bs:List Value} {sn:List Str} {sub:List Value} {ab:Bool} {col:Option Bool} {dd:Option Addr} {k0 k1 k2 k3 k5:Option Value}
 {nm' q':Str} {bs':List Value} {Z:List Str} {O:List Value} {ab':Bool} {Y:Option Bool} {dd':Option Addr} {j0 j1 j2 j3 j5:Option Value} {nid:String}
 {c c':Value} {d d':Option Addr} {es J:Array DictEntry} {n n':Nat} {sl sl':Array (Option Value)}
 {name qual:Str} {params:ei} {scope:d3} {dV kV doc pm cdv ct:Value} {an od:Option Addr} {osl:Array (Option Value)} {p1 p2 p3 p4:Pos}
 (a:PySem.W.nsIn K mainGlobals cn=some (some (.ref C))) (kp:PySem.W.keepIn K (.ref C)=true)
 (lC:K.lookup C=some (excClassObj nm q C N bs (.ref I::bmV) true sn sub ab col dd k0 k1 k2 k3 k5 "ValueError.__new__"))
 (lI:K.lookup I=some (excClassObj nm' q' I NI bs' bmV true Z O ab' Y dd' j0 j1 j2 j3 j5 nid))
 (lN:K.lookup N=some ⟨c,d,.dict es n,sl⟩) (oN:Tc es=true) (lNI:K.lookup NI=some ⟨c',d',.dict J n',sl'⟩) (oNI:Tc J=true)
 (i1:PySem.W.nsIn K N "__init__"=some (some (.ref fI))) (i2:PySem.W.nsIn K NI "__init__"=some none) (s1:PySem.W.nsIn K N "__setattr__"=some none) (s2:PySem.W.nsIn K NI "__setattr__"=some none)
 (n1:PySem.W.nsIn K N f=some none) (n2:PySem.W.nsIn K NI f=some none) (hB:typeLookup (.type "ValueError") f=pure none)
 (lk:K.lookup fI=some ⟨.type "function", od,.func (PySem.W.fnOf name qual params [.Assign [.Attribute (.Name "self" p1) f p2] (.Name f p3) p4] scope dV kV doc pm an cdv ct),osl⟩) (hcd:PySem.W.codeIn K cdv qual=true)
 (S:FnScope ["self", f] ["self", f] scope) (l1:scope.names.lookup ("self":Str)=some NameKind.local) (l2:scope.names.lookup f=some NameKind.local)
 (hb:∀u v,bindArgs (PySem.W.fnOf name qual params [.Assign [.Attribute (.Name "self" p1) f p2] (.Name f p3) p4] scope dV kV doc pm an cdv ct) ⟨[u,v],[]⟩=pure [(("self":Str),u),(f,v)])
 (ne:("self":Str)≠f) (nd:(f==("__debug__":Str))=false) (nc:(f==("__classdict__":Str))=false):Exc K mg cn f C I:=
 ⟨PySem.W.mg_of X G a,kp,hB,N,fI,nsFind es,nsFind J,λh X=>⟨⟨_,_,_,_,_,_,_,_,_,_,_,_,_,X _ _ lC⟩,VR lN oN h X,⟨_,_,_,_,_,_,_,_,_,_,_,_,_,_,_,X _ _ lI,VR lNI oNI h X⟩,by rfl⟩,tV lN i1,tV lNI i2,tV lN s1,tV lNI s2,tV lN n1,tV lNI n2,
  ⟨⟨name,qual,params,scope,dV,kV,doc,pm,cdv,ct,an,od,osl,p1,p2,p3,p4,lk,hcd,S,l1,l2,.all λus hl=>match us,hl with|[u,v],_=>hb u v⟩,ne,nd,nc⟩⟩
end XC
namespace XC
open L2 My D3
structure ExcG(K:PySem.W.Frag)(mg:Str->Option Value)(fld:Addr->Str)(cn f ic:Str):Prop where
 ex:∃C I,Exc K mg cn f C I/\fld C=f/\mg ic=some (.ref I)
def ExcG.fly(h:ExcG K mg fld cn f ic):ExcF K mg fld cn f:=by
 obtain⟨C,I,E,Z,_⟩:=h.ex;exact⟨C,I,E,Z⟩
section
variable{X:Cx}{c:Str}{cond:Expr}
end
end XC
variable{E2:Value->cB->Prop}
namespace XC
open L2 My
structure FlyN(h:dm)(a C dx:Addr)(f:Str)(u:Value)(T L:Addr):Prop where
 obj:∃vs sl,h.get? a=some ⟨.ref C,some dx,.fields vs,sl⟩/\vs[1]? = some (.ref T)
 dic:h.Ns1 dx (λy=>if y=f then some u else none)
 ne:dx≠a
 hd:T≠a/\T≠dx/\∃oT ts,h.get? T=some oT/\oT.data = .fields ts/\ts[3]? = some (rawInt L)
section
variable{M:eh}
def yX{outer:List Env}{L:Addr}{vs:Array Value}{head:Value}{hn:Bool}
 (J:A.frames=some (env::outer)) (hl:s.heap.FunFrames base (env::outer)) (hf:env.frame=some L) (he:s.heap.get? a=some oe) (hd:oe.data = .fields vs) (hsz:1<vs.size)
 (h:∀h' T,s.heap.objs.size<=T->h'.get? a=some (oe.mapFields (·.setIfInBounds 1 (.ref T)))->(∃oT ts,h'.get? T=some oT/\oT.data = .fields ts/\ts[3]? = some (rawInt L)) ->
  (∀b o,b≠a->b∉frs (env::outer)->s.heap.get? b=some o->h'.get? b=some o)->(∀b o,b≠a->s.heap.get? b=some o->∃sl,h'.get? b=some {o with slots:=sl})->E2 (.ref a) {s with heap:=h'}) :
 wpAny M A (do let z <-frameOf env;let pl <-entryPlaceOf L hn;let b <-EntryCells.newEntry head z .none (rawInt L) .none pl;setField (.ref a) 1 b) (λ_ s'=>cameBackBy M A env E2 (.ref a) s') E s:=by
 have G:a∉(env::outer).filterMap (·.frame):=λz=>by
  obtain⟨_,o,I,q⟩:=hl.mem z;rw[he]at I
  cases I;exact q vs hd
 refine aa (wpAny_frameOf_fun J hl hf λh1 S=>?_);refine aa (wpAny_entryPlaceOf λpl U=>?_);refine aa (b8 ?_ (U.sizeOk5 _ _ _ _ _));obtain⟨Z,X⟩:∃Z:Obj,Z={cls:=.type "traceback", dict:=none,data:=.fields ([head,.ref L,.none,rawInt L,.none]++(if pl.isEmpty then aW 6 cS else pl)).toArray}:=⟨_,rfl⟩;rw[<-X];have od:Z.data = .fields ([head,.ref L,.none,rawInt L,.none]++(if pl.isEmpty then aW 6 cS else pl)).toArray:=by rw[X]
 have P:Z.isFreed=false:=by rw[X];rfl
 have a1:=(S.2.1 a G).trans he;have a2:(h1.push Z).get? a=some oe:=ae _ a1;refine ba a2 hd hsz ?_;have sz:=S.1;have ne:=qw (ac a1);have N:=a_ hd (·.setIfInBounds 1 (c0 h1.objs.size));obtain⟨Y,e3⟩:∃Y,Y=(h1.push Z).update a (d0 (·.setIfInBounds 1 (c0 h1.objs.size))):=⟨_,rfl⟩;rw[<-e3];have a3:Y.get? a=some (oe.mapFields (·.setIfInBounds 1 (.ref h1.objs.size))):=by
  rw[e3];exact av _ a2 (aE N)
 have t3:Y.get? h1.objs.size=some Z:=by
  rw[e3];exact(al _ _ ne.symm).trans (ah h1 P)
 have K:∀b,b≠a->b≠h1.objs.size->Y.get? b=h1.get? b:=λb V Q=>by
  rw[e3,al _ _ (c9 V)];exact Heap.get?_push_ne _ _ _ Q
 refine aa (az a3 N (x:=.ref h1.objs.size) (by simp[hsz]) ?_);rw[if_neg (show ¬((c0 h1.objs.size==cS)=true)by simp)];simp only[hf];refine aa (az a3 N (x:=.ref h1.objs.size) (by simp[hsz]) ?_);rw[if_pos (show(c0 h1.objs.size != cS)=true by simp)];have H:=a_ od (·.setIfInBounds 3 ((some L:Option Addr).elim cS λf=>rawInt f));refine ba t3 od (by simp only[bG,bx,bI,dG]<;>lia) ?_;obtain⟨R,e4⟩:∃R,R=Y.update h1.objs.size (d0 (·.setIfInBounds 3 ((some L:Option Addr).elim cS λf=>rawInt f))):=⟨_,rfl⟩;rw[<-e4];have O:∀b,b≠h1.objs.size->R.get? b=Y.get? b:=λb z=>by rw[e4];exact al _ _ (c9 z)
 refine h R h1.objs.size (uR sz.symm) ((O a (c9 ne)).trans a3) ⟨_,_,by rw[e4];exact av _ t3 (aE H),H,?_⟩ (λb o V Q q=>?_) λb o V q=>?_
 .rcases U with rfl|⟨_,_,_,_,_,_,_,rfl⟩<;>simp
 .have q1:=(S.2.1 b Q).trans q;have W:=bN (ac q1);exact(O b W).trans ((K b V W).trans q1)
 .obtain⟨sl,q1⟩:=S.2.2 b o q;have W:=bN (ac q1);exact⟨sl,(O b W).trans ((K b V W).trans q1)⟩
theorem Lj{outer:List Env}{L dx:Addr}{tb:Option Addr}
 (J:A.frames=some (env::outer)) (hl:s.heap.FunFrames base (env::outer)) (hf:env.frame=some L) (F:Fly s.heap a C dx f u tb) (nd:dx∉frs (env::outer))
 (h:∀h' T,s.heap.objs.size<=T->FlyN h' a C dx f u T L->(∀b o,b≠a->tb≠some b->b∉frs (env::outer)->s.heap.get? b=some o->h'.get? b=some o) ->
  (∀b o,b≠a->tb≠some b->s.heap.get? b=some o->∃sl,h'.get? b=some {o with slots:=sl})->E2 (.ref a) {s with heap:=h'}) :
 wpAny M A (noteFrame (.ref a) env) (λ_ s'=>cameBackBy M A env E2 (.ref a) s') E s:=by
 obtain⟨⟨vs,sl,ea,e1⟩,Z,W,K⟩:=F;have X:=(cV.mp e1).1;have Q:dx<s.heap.objs.size:=by
  obtain⟨o,_,_,q,_⟩:=Z;exact ac q
 unfold noteFrame;simp only[hf]
 cases tb with
 |none=>
  refine aa (az ea rfl e1 ?_);rw[if_neg (by decide)];refine yX J hl hf ea rfl X λh' T Y q1 q2 q3 q4=>h h' T Y ⟨⟨_,sl,q1,by simp[X]⟩,?_,W,?_⟩ (λb o U _ V P=>q3 b o U V P) λb o U _ V=>q4 b o U V
  .obtain⟨o,es,I,r1,r2⟩:=Z;exact⟨o,es,I,q3 dx o W nd r1,r2⟩
  .refine⟨λz=>?_,λz=>?_,q2⟩
   .rw[z]at Y;exact absurd (ac ea) (fV.mpr Y)
   .rw[z]at Y;exact absurd Q (fV.mpr Y)
 |some T=>
  obtain⟨B,D,y,ts,t1,t2,t3⟩:=K T rfl;refine aa (az ea rfl e1 ?_);rw[if_pos (show((wM (some T) cS c0) != cS)=true by simp)];refine aa (az t1 t2 t3 ?_);rw[if_neg (show ¬((cS==rawInt L)=true)by simp[rawInt])];refine aa (ba t1 t2 (cV.mp t3).1 ?_);obtain⟨h2,e2⟩:∃h2,h2=s.heap.update T (d0 (·.setIfInBounds 3 cS)):=⟨_,rfl⟩;rw[<-e2];have R:∀b,b≠T->h2.get? b=s.heap.get? b:=λb z=>by rw[e2];exact al _ _ (c9 z)
  have S:h2.objs.size=s.heap.objs.size:=by rw[e2];exact Heap.size_update ..
  have x:T∉frs (env::outer):=λz=>by
   obtain⟨_,o,H,q⟩:=hl.mem z;rw[t1]at H
   cases H;exact q ts t2
  have N:=hl.of_keeps λb o hb q=>⟨o,(R b λz=>by rw[z,t1]at hb;cases hb;exact q ts t2).trans hb,rfl⟩
  refine yX (s:={s with heap:=h2}) J N hf ((R a (c9 B)).trans ea) rfl X λh' G Y q1 q2 q3 q4=>h h' G (by rwa[<-S]) ⟨⟨_,sl,q1,by simp[X]⟩,?_,W,?_⟩
   (λb o U O V P=>q3 b o U V ((R b λz=>O (by rw[z])).trans P)) λb o U O V=>q4 b o U ((R b λz=>O (by rw[z])).trans V)
  .obtain⟨o,es,I,r1,r2⟩:=Z;exact⟨o,es,I,q3 dx o W nd ((R dx (c9 D)).trans r1),r2⟩
  .have Y:s.heap.objs.size<=G:=by rwa[<-S]
   refine⟨λz=>?_,λz=>?_,q2⟩
   .rw[z]at Y;exact absurd (ac ea) (fV.mpr Y)
   .rw[z]at Y;exact absurd Q (fV.mpr Y)
end
end XC
namespace XC
open L2 My
section
variable{X:Cx}{σ:L2.St}{H H':Hp}
def Lk{M:eh}{dx:Addr}{tb:Option Addr}(hA:A.frames=X.A.frames)(I:Inv X pins σ H s)(J:X.stack=X.env::X.outer)(hfr:X.env.frame=some X.env.locals)
 (F:Fly s.heap a C dx f u tb) (O:Loose X pins H a) (Ld:Loose X pins H dx) (Lt:∀T,tb=some T->Loose X pins H T)
 (h:∀s' T,Inv X pins σ H s'->FlyN s'.heap a C dx f u T X.env.locals->s'.os=s.os->s'.gens=s.gens->Loose X pins H T->E2 (.ref a) s') :
 wpAny M A (noteFrame (.ref a) X.env) (λ_ s'=>cameBackBy M A X.env E2 (.ref a) s') E s:=by
 have fl:=I.stack;rw[J]at fl;have fe:frs (X.env::X.outer)=X.env.locals::X.fs:=by unfold frs;rw[cD,hfr];rfl
 refine Lj (hA.trans (I.ok.frames.trans (by rw[J]))) fl hfr F (by rw[fe];exact Ld.nofs I) λh' T Q K k1 k2=>?_
 have LT:=Loose.of I Q (I.hok.fresh Q);refine h _ T ?_ K rfl rfl LT;rw[fe]at k1;have ex:∀b,H b≠none->b≠a/\tb≠some b/\b∉X.env.locals::X.fs:=λb hb=>by
  refine⟨λz=>hb (by rw[z];exact O.out),λz=>hb (Lt b z).out,λz=>hb ?_⟩;exact I.stkFree b (by rwa[J,fe])
 obtain⟨m,⟨o,es,D,R,r⟩,_⟩:=id I.loc;obtain⟨sl,L⟩:=k2 _ o (c9 O.loc) (λz=>(Lt _ z).loc rfl) R;refine I.step (g':=s.gens) (d':=s.drawn) (t':=s.toks) (ch:=a::tb.toList) (λb hb=>?_) (λb o V W Z q _=>k1 b o (λz=>Z (by rw[z];exact aD)) (λz=>Z (aA _ (by rw[z];exact aB.mpr rfl))) (λz=>(aK.mp z).elim V W) q)
  (λb o V W Z q _=>k2 b o (λz=>Z (by rw[z];exact aD)) (λz=>Z (aA _ (by rw[z];exact aB.mpr rfl))) q) (λ_ _ _ _ z=>z)
  (λb o Z q=>let⟨_,w⟩:=k2 b o (λz=>Z (by rw[z];exact aD)) (λz=>Z (aA _ (by rw[z];exact aB.mpr rfl))) q;⟨_,w⟩) (λ_ _ e=>e) (λ_ _ _ e=>e) (λ_ _ _ e=>e) (λG hm=>?_) (λb w e=>?_) I.bare
 .rcases aK.mp hb with e|e
  .rw[e];exact⟨.inr O.new,O.loc,O.cel,O.pin⟩
  .cases tb with
   |none=>cases e
   |some T0=>
    have e:b=T0:=by simpa using e
    have:=Lt T0 rfl;rw[e];exact⟨.inr this.new,this.loc,this.cel,this.pin⟩
 .obtain⟨o',U,S,Y,P⟩:=hm;rw[R]at Y;cases Y;exact⟨_,U,S,L,P⟩
 .refine(I.hok b w e).stay (λc v N q=>?_) (λ_ q=>q) λ_ _ q=>q
  obtain⟨V,W,Z⟩:=ex c (by
   rcases N with z|z
   .rw[z,e];simp
   .rw[z];simp)
  exact k1 c v V W Z q
def flight_again{M:eh}{dx L:Addr}(J:Option Addr)(I:Inv X pins σ H s)(F:FlyN s.heap a C dx f u T L)(LT:Loose X pins H T)
 (h:∀s',Inv X pins σ H s'->(∃vs sl,s'.heap.get? a=some ⟨.ref C,some dx,.fields vs,sl⟩/\vs[1]? = some (.ref T))->s'.heap.Ns1 dx (λy=>if y=f then some u else none)->dx≠a ->
  (T≠a/\T≠dx/\∃O ts,s'.heap.get? T=some O/\O.data = .fields ts/\ts[3]? = some (J.elim cS λf=>rawInt f))->Q () s'):wpAny M A (setFlight (.ref a) J) Q E s:=by
 obtain⟨⟨vs,sl,ea,e1⟩,Z,W,S,U,O,ts,t1,t2,t3⟩:=F;refine aa (az ea rfl e1 ?_);rw[if_pos (show((c0 T) != cS)=true by simp)];refine ba t1 t2 (cV.mp t3).1 ?_;obtain⟨h',e2⟩:∃h',h'=s.heap.update T (d0 (·.setIfInBounds 3 (J.elim cS λf=>rawInt f))):=⟨_,rfl⟩;rw[<-e2];have Y:∀b,b≠T->h'.get? b=s.heap.get? b:=λb z=>by rw[e2];exact al _ _ (c9 z)
 have V:=a_ t2 (·.setIfInBounds 3 (J.elim cS λf=>rawInt f));have R:h'.get? T=some (O.mapFields (·.setIfInBounds 3 (J.elim cS λf=>rawInt f))):=by
  rw[e2];exact av _ t1 (aE V)
 have N:Inv X pins σ H {s with heap:=h',toks:=s.toks}:=Inv.turned (t':=s.toks) I (λb o z q=>(Y b z).trans q) LT.out LT.loc (.inr LT.new) LT.cel LT.pin;refine h _ N ⟨vs,sl,(Y a (c9 S)).trans ea,e1⟩ ?_ W ⟨S,U,_,_,R,V,?_⟩
 .obtain⟨o,es,P,r1,r2⟩:=Z;exact⟨o,es,P,(Y dx (c9 U)).trans r1,r2⟩
 .have:=(cV.mp t3).1;simp[this]
def yZ{M:eh}{dx:Addr}(J:X.env.frame=some X.env.locals)(F:FlyN s.heap a C dx f u T X.env.locals)(h:Q () s):wpAny M A (noteFrame (.ref a) X.env) Q E s:=by
 obtain⟨⟨vs,sl,ea,e1⟩,Z,Y,U,V,W,ts,t1,t2,t3⟩:=F;unfold noteFrame;simp only[J];refine aa (az ea rfl e1 ?_);rw[if_pos (show((c0 T) != cS)=true by simp)];refine aa (az t1 t2 t3 ?_);rw[if_pos (show(rawInt X.env.locals==rawInt X.env.locals)=true by simp)];exact ag h
def XPX(X:Cx)(fld:Addr->Str)(E:XK):Value->cB->Prop:=λe s=>∃pins σ H a C dx u,e = .ref a/\Inv X pins σ H s/\Loose X pins H a/\Loose X pins H dx/\E u (some C) H /\
 ((∃tb,Fly s.heap a C dx (fld C) u tb/\∀T,tb=some T->Loose X pins H T)\/∃T,FlyN s.heap a C dx (fld C) u T X.env.locals/\Loose X pins H T)
def O5{E:XK}(O:X.stack=X.env::X.outer)(J:X.env.frame=some X.env.locals):eu (model X.prog X.w) X.A X.env (XPX X fld E):=by
 rintro e s ⟨pins,σ,H,a,C,dx,u,rfl,I,Y,Z,q,F⟩;rcases F with⟨tb,F,Q⟩|⟨T,F,LT⟩
 .exact Lk rfl I O J F Y Z Q λs' T W P _ _ LT=>⟨pins,σ,H,a,C,dx,u,rfl,W,Y,Z,q,.inr ⟨T,P,LT⟩⟩
 .refine yZ J F ?_;obtain⟨vs,sl,ea,e1⟩:=F.obj;refine aa (az ea rfl e1 ?_);rw[if_neg (show ¬((c0 T==cS)=true)by simp)];refine flight_again _ I F LT λs' W R S U V=>⟨pins,σ,H,a,C,dx,u,rfl,W,Y,Z,q,.inr ⟨T,⟨R,S,U,?_⟩,LT⟩⟩
  rwa[J]at V
end
section
variable{fa:Addr}{outer:List Env}{s₀:cB}{H₀:Hp}{E:XK}
def Xn{e:Value}(h:XPX (jx (CXE P w fld) P w K mg base N qual scope fa cdv A outer s₀ H₀ E) fld E e s):(jx (CXE P w fld) P w K mg base N qual scope fa cdv A outer s₀ H₀ E).xe e s:=by
 obtain⟨pins,σ,H,a,C,dx,u,rfl,I,W,Y,q,F⟩:=h;rcases F with⟨tb,F,Q⟩|⟨T,F,LT⟩
 .exact O2 I F W Y Q q
 .show wpAny _ _ (leaving _ (.ref a)) _ _ s;unfold leaving;refine aa (yZ (X:=jx (CXE P w fld) P w K mg base N qual scope fa cdv A outer s₀ H₀ E) rfl F ?_);refine flight_again none I F LT λs' Z R S U V=>?_
  exact⟨a,C,dx,T,u,H,rfl,Z.os,Z.bare,Z.base,Z.hok,⟨R,S,U,λO z=>by cases z;exact V⟩,W.new,Y.new,LT.new,W.out,Y.out,LT.out,q⟩
end
end XC
namespace XC
open L2 My D3
section
variable{X:Cx}{E:XK}{fl:List Fl}{fx:FX}
def PI.nox{t:TI}(h:PI X.nox tg iter t):PI X tg iter t:=λpins s σ H R I hw=>
 ai (h pins s σ H R (I.wish _) hw) (λv s1 q=>ai q (λZ s2 q=>by
  obtain⟨it,fp,tn,J,H',e,W,T,t0,Y,r⟩:=q;exact⟨it,fp,tn,J,H',e,W.wish _,T,t0,λb hb=>Y b hb,r⟩) λ_ _ z=>z.elim) λ_ _ z=>z.elim
def PG.nox{t:TG}(h:PG X.nox tg t):PG X tg t:=λpins s σ H v u Q I r hw=>
 ai (h pins s σ H v u Q (I.wish _) r hw) (λ_ s' q=>by
  obtain⟨σ',H',Z,q⟩:=q;exact⟨σ',H',Z.wish _,q⟩) λ_ _ z=>z.elim
def Xo{L:List Nat}{T:List Nat}{fi:FA}(hp:eu (model X.prog X.w) X.A X.env X.xe)(hc:X.calm=true)(hi:DI X.nox fl L tg iter fi)(hg:DG X.nox (lock L fl) T tg g)(hb:DXs X E (lock L fl) body fx)
 (hs:∀x,foldedSetIterable iter X.env x=pure x:=by intro _;rfl):DX1 X E fl (.For tg iter body [] pos) (S7 fi g fx):=PS.imp (Nj hp hc (PI.nox hi) (PG.nox hg) hb hs) λDn σ H h=>by
 refine D3.ex4 h λG ow δ o F k q=>?_
 refine D3.ex1 (bind1 k) λl e1 e2=>?_
 refine⟨G,ow,δ,l,F,e1,λJ H1 s B=>?_⟩;have M:=F.grow s;have a:=M.lock L;refine⟨λi m σ' H'=>m=l.length-i/\∃Z δ',Rel X.K (lock L fl) (ghL (lock L fl) G ow H1) Z σ' H' δ'/\qp g fx (l.drop i) δ'=some o,⟨_,rfl,ow,δ,a,by simpa using e2⟩,?_⟩;rintro i m σ' H' ⟨rfl,Z,δ',R',hd⟩;have kept:∀b o,H1 b=some o->(∀i,ow i=some b->i∈L)->(∀i,b∉ow.n i)->H' b=some o:=λb o hb hl hn=>R'.s1 b o (by
  rw[nq]
  .exact hb
  .rintro(⟨j,e,p⟩|⟨j,e,_⟩)
   .exact(Cy p).2 (hl j e)
   .exact hn j e)
 obtain⟨u,y⟩:=B H' kept i;by_cases O:i<l.length
 .have Q:=k_ O;rw[Q,qp]at hd;refine D3.ex1 (bind1 hd) λδ1 e3 hd=>?_
  refine D3.ex1 (bind1 hd) λN e4 hd=>?_
  obtain⟨go,C⟩:=u l[i] (bA O);refine .inr ⟨go,λσ' H'=>∃Z δ',Rel X.K (lock L fl) (ghL (lock L fl) G ow H1) Z σ' H' δ'/\qp g fx (l.drop (i+1)) δ'=some o,λU H2 ⟨Y,W,R2,h2⟩=>⟨l.length-(i+1),by lia,rfl,Y,W,R2,h2⟩,λx H3 r=>?_⟩;obtain⟨t,r3⟩:=C x H3 r;have sub:∀b,okA ow b/\H1 b≠none->okA Z b:=λb z=>by
   obtain⟨P,I⟩:=z;refine⟨λj e=>?_,λj e=>?_⟩
   .rcases(R'.own j b e).2.1 with⟨_,R⟩|⟨R,_⟩
    .have:(ghL (lock L fl) G ow H1).HF b=H1 b:=nq (by rintro(⟨S,V,_⟩|⟨S,V,_⟩);exact P.1 S V;exact P.2 S V);rw[this]at R;exact I R
    .have V:Z j=ow j:=R'.pin j R;rw[V]at e;exact P.1 j e
   .rcases(R'.nt j b e).2.2 with⟨_,R⟩|w
    .have:(ghL (lock L fl) G ow H1).HF b=H1 b:=nq (by rintro(⟨S,V,_⟩|⟨S,V,_⟩);exact P.1 S V;exact P.2 S V);rw[this]at R;exact I R
    .have V:Z.n j=ow.n j:=R'.np j w;rw[V]at e;exact P.2 j e
  refine⟨_,Z,δ',_,δ1,R'.grow t,r3.imp sub (λz=>z),e3,λD R4 _=>⟨_,Z,δ1,N,R4,e4,?_⟩⟩
  .cases N with
   |ex c v=>cases hd;exact q
   |o N=>
    cases N with
    |nx W=>exact λY U H2 R2=>⟨Y,W,R2,hd⟩
    |ct W=>exact λY U H2 R2=>⟨Y,W,R2,hd⟩
    |bk W=>cases hd;exact λY U H2 R2=>q Y U H2 (M.unlock R2)
    |rt d=>cases hd;exact q
    |ex c f v=>cases hd;exact q
 .have e:l.drop i=[]:=mJ (by lia);rw[e,qp]at hd
  cases hd;exact .inl ⟨y (by lia),q Z σ' H' (M.unlock R')⟩
end
def cxL(P:cN)(w:df)(K:PySem.W.Frag)(mg:Str->Option Value)(base:dm)(N:List Str)(qual:Str)(scope:d3)(fa:Addr)(cdv:Value)(A:db)(outer:List Env)(s₀:cB)(H₀:Hp)(E:XK)(fld:Addr->Str):Cx:=
 (jx (CXE P w fld) P w K mg base N qual scope fa cdv A outer s₀ H₀ E).wish (XPX (jx (CXE P w fld) P w K mg base N qual scope fa cdv A outer s₀ H₀ E) fld E)
section
variable{fa:Addr}{outer:List Env}{s₀:cB}{H₀:Hp}{E:XK}
variable{fl:List Fl}{fe:FE}{k:Nat}
def ZG:eu (model (cxL P w K mg base N qual scope fa cdv A outer s₀ H₀ E fld).prog (cxL P w K mg base N qual scope fa cdv A outer s₀ H₀ E fld).w) (cxL P w K mg base N qual scope fa cdv A outer s₀ H₀ E fld).A (cxL P w K mg base N qual scope fa cdv A outer s₀ H₀ E fld).env (cxL P w K mg base N qual scope fa cdv A outer s₀ H₀ E fld).xe:=
 O5 (X:=jx (CXE P w fld) P w K mg base N qual scope fa cdv A outer s₀ H₀ E) rfl rfl
def Bu(O:ExcF K mg fld cn f)(hr:Room (k+2) (A.deeper (envOfC qual scope s₀.heap.objs.size fa cdv)))
 (ha:DE (cxL P w K mg base N qual scope fa cdv A outer s₀ H₀ E fld).nox fl .P arg fe) (hg:Gl (cxL P w K mg base N qual scope fa cdv A outer s₀ H₀ E fld) cn:=by rfl) (hdb:(cn==("__debug__":Str))=false:=by decide)
 (he:starEach [arg] (cxL P w K mg base N qual scope fa cdv A outer s₀ H₀ E fld).env=(false,eval arg (cxL P w K mg base N qual scope fa cdv A outer s₀ H₀ E fld).env)::starEach [] (cxL P w K mg base N qual scope fa cdv A outer s₀ H₀ E fld).env:=by exact fZ rfl)
 (hpl:(backTo pos (starEach [] (cxL P w K mg base N qual scope fa cdv A outer s₀ H₀ E fld).env)).any (·.1)=false:=by exact sH rfl) :
 DX1 (cxL P w K mg base N qual scope fa cdv A outer s₀ H₀ E fld) E fl (.Raise (some (.Call (.Name cn p) [arg] [] pos)) none rpos) (o9 cn fe):=by
 intro pins s σ H Dn J h;obtain⟨C,I0,O,V⟩:=O.ex;refine D3.ex4 h λG ow δ o R W q=>?_
 refine D3.ex1 (bind1 W) λd e1 e2=>?_
 cases e2;refine Gp (R:=λv H1=>Same H H1/\RA K ok1 true H1 v d) O hr hg hdb (PE.nox ha) J ⟨G,ow,δ,d,R,e1,λv H' s r=>⟨s,r⟩⟩ (λv H1 a dx u s' r X U Fl Y Z=>?_) he hpl;rw[<-V]at Fl;exact⟨pins,σ,H1,a,C,dx,u,rfl,U.unwish,⟨Y.new,Y.loc,Y.cel,Y.pin,Y.out⟩,⟨Z.new,Z.loc,Z.cel,Z.pin,Z.out⟩,q C v u H1 O.mgC (R.same0.trans r.1) r.2 X,.inl ⟨none,Fl,λT z=>by cases z⟩⟩
end
section
variable{ks:List Str}{k:Nat}{f:FX}{fl:List Fl}{sp:Sp}
def Xp{fa:Addr}{outer:List Env}{E:XK}{t:TS}(h:PSs (cxL P w K mg base N x (aX st) fa cdv A outer s H E fld) sts t):PSs (jx (CXE P w fld) P w K mg base N x (aX st) fa cdv A outer s H E) sts t:=λpins s1 σ H1 D I hw=>
 ai (h pins s1 σ H1 D (I.wish _) hw) (λfl s' q=>SP.unwish q) λe s' z=>Xn z
def Tf(Dd:Dg K mg x st ps)(S:FnScope N ps (aX st))(O:∀i,i<ps.length->fl[i]? = some .A)(Y:ps.length<=N.length)
 (J:∀(fa:Addr)(cdv:Value)(A:db)(outer:List Env)(s:cB)(H:Hp)(E:XK),Room k (A.deeper (envOfC x (aX st) s.heap.objs.size fa cdv))->DXs (cxL P w K mg base N x (aX st) fa cdv A outer s H E fld) E fl (gR st) f) :
 HasX P w K mg base fld (k+1) x ps (spX K mg (fnX ps.length (N.length-ps.length) f)) []:=
 uM Dd S O Y λfa cdv A outer s H E Z=>Xp (J fa cdv A outer s H E Z)
end
end XC
namespace XC
open L2 My D3
section
variable{fa:Addr}{outer:List Env}{s₀:cB}{H₀:Hp}{E:XK}
variable{fl:List Fl}{F:List D->Option Or}{es:List Expr}{fs:FA}
end
end XC
namespace XC
open L2 My D3
section
variable{X:Cx}{σ:L2.St}{H:Hp}{k:Nat}{f:Addr}{sp:Sp}{ds:List Value}{EX:XK}
variable{y:Str}{np:Pos}{es:List Expr}{ta:TA}
end
end XC
namespace XC
open L2 My D3
section
variable{X:Cx}{fl:List Fl}{y en:Str}{F:List D->Option Or}{es:List Expr}{fa:FA}{yp np:Pos}{b0:Stmt}{fS:Str->D->DS->Option D}
end
end XC
namespace XC
open L2 My D3
structure RoomQ(k:Nat)(A:db):Prop where
 dp:A.depth+3*k+5<recursionLimit
 un:A.units+16*k+200<cLine
structure FnOkP(P:cN)(w:df)(K:PySem.W.Frag)(mg:Str->Option Value)(base:dm)(Pre:db->List Env->cB->Hp->Prop)(k:Nat)(f:Addr)(fd:du)(ps:List Str)(sp:Sp):Prop where
 len:∀vs H Q E,sp vs H Q E->vs.length=ps.length
 run:∀(A:db)(outer:List Env)(s:cB)(H:Hp)(args:Args)(us:List Value)(vs:List V)(Q:VK)(E:XK),RoomQ k A->Env0 P w K mg base A outer s H->BindsTo s fd args (ps.zip us)->Vals vs us->Pre A outer s H->sp vs H Q E ->
  codeAny (model P w) A (.call (.ref f) args) (CR CX0 outer P w H s Q E) s
abbrev ZJ(P:cN)(w:df)(K:PySem.W.Frag)(mg:Str->Option Value)(base:dm)(k:Nat)(f:Addr)(fd:du)(ps:List Str)(sp:Sp):Prop:=FnOkP P w K mg base (λ_ _ _ _=>True) k f fd ps sp
section
variable{X:Cx}{σ:L2.St}{H:Hp}{k:Nat}{f:Addr}{sp:Sp}
end
end XC
namespace XC
open L2 My D3
structure HasQ(P:cN)(w:df)(K:PySem.W.Frag)(mg:Str->Option Value)(base:dm)(n:Nat)(x:Str)(ps:List Str)(sp:Sp):Prop where
 ex:∃(f:Addr)(fd:du),ZJ P w K mg base n f fd ps sp/\Binds K fd ps []/\PySem.W.keepIn K (.ref f)=true/\mg x=some (.ref f)
section
variable{k:Nat}{fs:FS}{fl:List Fl}
end
section
variable{X:Cx}{fl:List Fl}{es:List Expr}{t:TA}{fa:FA}{sp:Sp}{F:List D->Option D}
end
end XC
namespace XC
open L2 My D3
structure ExA(K:PySem.W.Frag)(C:Addr):Prop where
 ga:PySem.W.findIn K (.ref C) "__getattribute__"=some (some (.builtin "BaseException.__getattribute__"))
 gh:PySem.W.findIn K (.ref C) "__getattr__"=some none
 hb:PySem.W.mroIn K C (.type "BaseException")=some true
section
variable{prog:cN}{x:Addr}{ox:Obj}{od:Option Obj}{v:Value}
def Ln{M:eh}{J:Value}(N:ExA K C)(X:K.In s.heap)(I:PySem.W.InstAt s.heap x ox C od)(O:Q () s):wpAny M A (checkBuiltinCall "BaseException.__getattribute__" ⟨[.ref x,J],[]⟩) Q E s:=by
 have hk:builtinKind "BaseException.__getattribute__"=some .slot:=by decide +kernel
 have Z:splitId "BaseException.__getattribute__"=some ("BaseException", "__getattribute__"):=by decide +kernel
 obtain⟨hh,g,d,t,os⟩:=s;have V:=I.type (M:=M);have Y:=PySem.W.looks_mroIn (M:=M) X N.hb;simp only[checkBuiltinCall,hk,Z];refine aa ?_
 repeat(first|(with_reducible refine V.at ?_)|(with_reducible refine Y.at ?_)|wp_step)
 exact O
def Tg{Q:Fin->cB->Prop}(X:K.In s.heap)(I:PySem.W.InstAt s.heap x ox C od)(O:PySem.W.findObj K C od name=some (.value v))(J:Q (.done (.ret v)) s):
 wpAny (model prog w) A (el.«object.__getattribute__» ⟨[.ref x,.str name tk],[]⟩) Q E s:=by
 obtain⟨hh,g,d,t,os⟩:=s;have Y:=I.type (M:=model prog w);have Z:=PySem.W.looks_find (M:=model prog w) X I O;unfold el.«object.__getattribute__»;refine aa ?_;refine ag ?_;refine aa (ag (aa (Y.at (aa (Z.at ?_)))));exact ag J
def Ti{Q:Fin->cB->Prop}(X:K.In s.heap)(I:PySem.W.InstAt s.heap x ox C od)(hm:PySem.W.mroIn K C (.type "object")=some true)
 (O:PySem.W.findObj K C od name=some (.bind (.builtin "getset_descriptor.__get__") (.builtin "object.__class__"))) (J:Q (.done (.ret (.ref C))) s) :
 wpAny (model prog w) A (el.«object.__getattribute__» ⟨[.ref x,.str name tk],[]⟩) Q E s:=by
 obtain⟨hh,g,d,t,os⟩:=s;have Y:=I.type (M:=model prog w);have Z:=PySem.W.looks_find (M:=model prog w) X I O;unfold el.«object.__getattribute__»;refine aa ?_;refine ag ?_;refine aa (ag (aa (Y.at (aa (Z.at ?_)))));refine aa (bg (bq (PySem.W.class_get (s:=⟨hh,g,d,t,os⟩) (ox:=ox) (od:=od) X I hm ?_)));exact ag J
def O6{J:Value}{fill expr:Bool}{Q:Value->cB->Prop}(N:ExA K C)(X:K.In s.heap)(I:PySem.W.InstAt s.heap x ox C od)(hh:PySem.W.handedIn v=true)
 (he:∀{A:db}{E:Value->cB->Prop}{Q:Fin->cB->Prop},Q (.done (.ret v)) s->wpAny (model prog w) A (el.«object.__getattribute__» ⟨[.ref x,J],[]⟩) Q E s) (O:Q v s) :
 wpAny (model prog w) A (getAttrBy (.ref x) J fill expr) Q E s:=by
 obtain⟨V,g,d,t,os⟩:=s;have T:=I.type (M:=model prog w);have U:=PySem.W.looks_findIn (M:=model prog w) X N.ga;have L2:=PySem.W.looks_findIn (M:=model prog w) X N.gh;have S:=PySem.F.attr_ValueError.ga.bind (.ref x);have Y:(expr&&onTheHeap (Value.builtin "BaseException.__getattribute__"))=false:=by cases expr<;>rfl
 have Z:(Value.builtin "BaseException.__getattribute__"==Value.builtin "object.__getattribute__")=false:=by decide +kernel
 repeat(any_goals(first|assumption|(with_reducible refine T.at ?_)|(with_reducible refine U.at ?_)|(with_reducible refine L2.at ?_)|wp_step))
 refine codeAny_call_builtin PySem.F.attr_ValueError.ga.plain PySem.F.entry_bexc_ga (Ln (s:=⟨V,g,d,t,os⟩) N X I (he ?_))
 repeat(any_goals(first|assumption|(with_reducible exact PySem.W.handed_on hh O)|wp_step))
def O7{expr:Bool}{Q:Value->cB->Prop}(N:ExA K C)(X:K.In s.heap)(I:PySem.W.InstAt s.heap x ox C od)(O:PySem.W.findObj K C od name=some (.value v))(hh:PySem.W.handedIn v=true)(J:Q v {s with toks:=s.toks+1}):
 wpAny (model prog w) A (getAttr (.ref x) name expr) Q E s:=by
 obtain⟨Z,g,d,t,os⟩:=s;refine aa (wpAny_mkText ?_);exact O6 (s:=⟨Z,g,d,t+1,os⟩) N X I hh (λz=>Tg (s:=⟨Z,g,d,t+1,os⟩) X I O z) J
def Lp{Q:Option Value->cB->Prop}(N:ExA K C)(X:K.In s.heap)(I:PySem.W.InstAt s.heap x ox C od)(hm:PySem.W.mroIn K C (.type "object")=some true)
 (O:PySem.W.findObj K C od "__class__"=some (.bind (.builtin "getset_descriptor.__get__") (.builtin "object.__class__"))) (J:Q (some (.ref C)) {s with toks:=s.toks+1}) :
 wpAny (model prog w) A (getAttr? (.ref x) "__class__") Q E s:=by
 obtain⟨Z,g,d,t,os⟩:=s;unfold getAttr? getAttrBy?;refine aa (wpAny_mkText (aa (wpAny_attempt ?_)));refine O6 (s:=⟨Z,g,d,t+1,os⟩) N X I rfl (λz=>Ti (s:=⟨Z,g,d,t+1,os⟩) X I hm O z) ?_;exact ag J
theorem O8{D:Addr}{od:Obj}(N:ExA K D)(J:PySem.W.hasDictIn K D=true)(ha:PySem.W.findIn K (.ref D) "__class__"=some (some (.builtin "object.__class__")))
 (hn:PySem.W.specialIn K (.builtin "object.__class__") "__get__"=some (some (.builtin "getset_descriptor.__get__"))) (htk:PySem.W.takesIn K (.builtin "object.__class__")=some true) (hm:PySem.W.mroIn K D (.type "object")=some true) :
 PySem.W.KitX K (.ref x) (.ref D) (λh=>PySem.W.InstAt h x ox D (some od)) where
 ty:=λ_ _ _ I=>I.type
 it:=λ_ _ X _=>by
  obtain⟨T,Z,_⟩:=PySem.W.any_some J;unfold PySem.W.clsIn at Z;split at Z
  .rename_i c' Q S Y U;intro L O M s' k q;exact aa (wpAny_loadPart (k _ _ (X _ _ U)) (ag q))
  .cases Z
 ne:=λh P dd its n sl X V=>by
  obtain⟨T,Z,_⟩:=PySem.W.any_some J;refine Bool.eq_false_iff.mpr λq=>?_
  have e:=Value.ref.inj (beq_iff_eq.mp q);subst e;unfold PySem.W.clsIn at Z;split at Z
  .rename_i c' Q S Y U;have z:=(X _ _ U).symm.trans V
   cases z
  .cases Z
 ca:=λX I k=>Lp N X I hm (PySem.W.findObj_data (by obtain⟨cd,R,_⟩:=PySem.W.any_some J;rw[R];rfl) ha hn htk) k
end
end XC
namespace XC
open L2 My D3
structure AttE(K:PySem.W.Frag)(C:Addr)(f:Str):Prop where
 ea:ExA K C
 hd:PySem.W.hasDictIn K C=true
 no:PySem.W.findIn K (.ref C) f=some none
section
variable{X:Cx}{D dx:Addr}{od:Obj}{v:V}{n:Str}
def ZK(N:AttE X.K C f)(O:oa.cls = .ref C)(J:oa.dict=some dx)(Y:PySem.W.notCls oa=true)(hdx:∀h:dm,h.get? dx=some od->h.Ns1 dx (λz=>if z=f then some u else none))(rv:RelV v u)
 (hi:X.N[i]? = some n) (hv:Vis X.env.scope n) (hdn:(n==("__debug__":Str))=false:=by decide) (hcn:(n==("__classdict__":Str))=false:=by decide) (hb:attributeBase (.Name n p1) f X.env (eval (.Name n p1) X.env)=eval (.Name n p1) X.env:=by rfl) :
 PE (eE X a oa dx od) (.Attribute (.Name n p1) f pos) (λσ H Q=>σ[i]? = some (some (.ref a))/\Q v H):=by
 intro pins s σ H Q I h;refine RD hb (thn ((mY (X:=eE X a oa dx od) hi hv hdn hcn) pins s σ H (λx H1=>x = .ref a/\Q v H1) I ⟨_,h.1,rfl,h.2⟩) λw s1 ⟨x,H1,Z,V,ex,q⟩=>?_);subst ex
 cases V;have ha:=(Z.pin (a,oa) (aU _ (aL _ aD))).1;have hd:=(Z.pin (dx,od) (aU _ (aL _ (aA _ aD)))).1;obtain⟨U,e1,e2⟩:=Ax (hdx _ hd);rw[hd]at e1
 cases e1;refine O7 (ox:=oa) (od:=some od) N.ea Z.kIn ⟨ha,O,Y,?_⟩ (PySem.W.findObj_own N.hd N.no rfl (by rw[e2,if_pos rfl])) (KQ rv) ⟨v,H1,Z.tok _,rv,q⟩;rwa[J]
end
end XC
namespace XC
open L2 My D3
structure KitE(K:PySem.W.Frag)(C:Addr):Prop where
 ea:ExA K C
 hd:PySem.W.hasDictIn K C=true
 fd:PySem.W.findIn K (.ref C) "__class__"=some (some (.builtin "object.__class__"))
 sp:PySem.W.specialIn K (.builtin "object.__class__") "__get__"=some (some (.builtin "getset_descriptor.__get__"))
 tk:PySem.W.takesIn K (.builtin "object.__class__")=some true
 mr:PySem.W.mroIn K C (.type "object")=some true
section
variable{X:Cx}{D dx:Addr}{od:Obj}{b:Bool}
def Xq{σ:L2.St}(I:Inv (eE X a oa dx od) pins σ H s)(O:oa.cls = .ref C)(J:oa.dict=some dx)(Y:PySem.W.notCls oa=true):PySem.W.InstAt s.heap a oa C (some od):=by
 have ha:=(I.pin (a,oa) (aU _ (aL _ aD))).1;have hd:=(I.pin (dx,od) (aU _ (aL _ (aA _ aD)))).1;refine⟨ha,O,Y,?_⟩;rwa[J]
def O9(N:KitE X.K C)(O:oa.cls = .ref C)(J:oa.dict=some dx)(hnc:PySem.W.notCls oa=true):nA (eE X a oa dx od) (.builtin "isinstance") (λxs H Q=>∃(D:Addr),xs=[.ref a,.ref D]/\PySem.W.kitOne X.K (.ref C) (.ref D)=some b/\Q (.bl b) H):=by
 intro pins s σ H xs us Q I r h;obtain⟨D,rfl,e,q⟩:=h;obtain⟨Y,Z,rfl,r1,r2⟩:∃Y Z,us=[Y,Z]/\RelV (.ref a) Y/\RelV (.ref D) Z:=by
  cases r with
  |cons r1 r=>cases r with
   |cons r2 r=>cases r;exact⟨_,_,rfl,r1,r2⟩
 cases r1;cases r2;exact PySem.W.kia_one (O8 (ox:=oa) (od:=od) N.ea N.hd N.fd N.sp N.tk N.mr) I.kIn (Xq I O J hnc) e (λz=>nomatch z) λtk=>⟨.bl b,H,I.tok _,rfl,q⟩
end
end XC
namespace XC
open L2 My D3
def CV{x:U}(h:(δ.set i none)[j]? = some (some x)):j≠i/\δ[j]? = some (some x):=by
 by_cases e:j=i
 .subst e;by_cases l:j<δ.length
  .rw[cL l]at h;cases h
  .rw[bK (by rw[cM];lia)]at h;cases h
 .rw[bh (c9 e)]at h;exact⟨e,h⟩
def Rel.forget{σ:L2.St}{x:Option V}(R:Rel K fl G ow σ H δ)(J:fl[i]? = some .A):Rel K fl G ow (σ.set i x) H (δ.set i none):=by
 have no:∀a,ow i≠some a:=λa z=>by
  obtain⟨_,T,_⟩:=R.own i a z;rw[J]at T;rcases T with⟨z,_⟩|⟨z,_⟩<;>cases z
 refine⟨R.s0,R.s1,by rw[cM,cM];exact R.len,λj a h=>?_,R.inj,R.pin,λj X h1 hn h2=>?_,λj X h1 hn h2 Y=>?_,R.nt,R.nd,R.ns,R.np,λj X hn h1=>?_⟩
 .have Z:j≠i:=λz=>no a (z▸h)
  obtain⟨Q,S,xs,ds,h1,h2,Y,W⟩:=R.own j a h;exact⟨Q,S,xs,ds,by rwa[bh (c9 Z)],h2,Y,by rwa[bh (c9 Z)]⟩
 .obtain⟨Z,e⟩:=CV h1;obtain⟨U,Y,W⟩:=R.dat j X e hn h2;exact⟨U,by rwa[bh (c9 Z)],W⟩
 .obtain⟨Z,e⟩:=CV h1;exact R.oo j X e hn h2 Y
 .obtain⟨Z,e⟩:=CV h1;obtain⟨U,Y,W⟩:=R.nr j X hn e;exact⟨U,by rwa[bh (c9 Z)],W⟩
def tEt(i:Nat)(a:Addr)(b:Bool):TE:=λσ H Q=>σ[i]? = some (some (.ref a))/\∀H',Same H H'->Q (.bl b) H'
section
variable{X S:Cx}{I0 D dx:Addr}{od:Obj}{v:V}{n:Str}{cond a1 b1:Expr}{rest es:List Expr}{b:Bool}{k:Nat}
def Xr(h:IsE S i a cond):PE S cond (tEt i a true):=PE.imp h λσ H Q z=>⟨z.1,z.2 H (Same.refl H)⟩
end
end XC
namespace XC
open L2 My D3
structure SuiG(K:PySem.W.Frag)(mg:Str->Option Value)(fld:Addr->Str)(cn f ic n1 n2 n3:Str):Prop where
 ex:∃C I D1 D2 D3,Exc K mg cn f C I/\fld C=f/\mg ic=some (.ref I)/\KitE K C/\AttE K C f/\mg n1=some (.ref D1)/\mg n2=some (.ref D2)/\mg n3=some (.ref D3)/\PySem.W.kitAny K (.ref C) [.ref D1,.ref D2,.ref D3]=some false
def Room.q{k:Nat}{o:Option Value}(r:Room k A):RoomQ k (A.mark o):=⟨r.dp,r.un⟩
section
variable{X:Cx}{fl:List Fl}{c n1 n2 n3 n y g s0 s1:Str}{gp:List Str}{k:Nat}{W:List D->Option D}{rowE:Expr}{fr:FE}
variable{yp ap a1 a2 a3 a4 a5 a6 a7 a8 a9 b1 b2 b3 b4 b5 b6 b7 q0 q1 q2 q3 q4 q5 q6 q7 q8 q9 q10 q11 q12 q13 q14:Pos}{x1 j0 j1:Nat}
end
end XC
namespace XC
open L2 My D3
def tXE(K:PySem.W.Frag)(mg:Str->Option Value)(fl:List Fl)(f:FX):Ends->XK->L2.St->Hp->Prop:=λDn EX σ H=>∃G ow δ o,Rel K fl G ow σ H δ/\f δ=some o/\match o with
 | .o (.nx δ')=>∀Z σ' H',Rel K fl G Z σ' H' δ'->Dn.nx σ' H'
 | .ex c d=>∀(C:Addr)(v:V)(u:Value)(H':Hp),mg c=some (.ref C)->Same H H'->RA K ok1 true H' v d->RelV v u->EX u (some C) H'
 |_=>False
abbrev DXE(X:Cx)(fld:Addr->Str)(fl:List Fl)(st:Stmt)(f:FX):Prop:=PSE fld X st (tXE X.K X.mg fl f)
section
variable{X:Cx}{fl:List Fl}{y en:Str}{F:List D->Option Or}{c:Expr}{es:List Expr}{fa:FA}{f f1 f2:FX}{yp np:Pos}{b0 s1 s2:Stmt}{fS:Str->D->DS->Option D}
def zc(h:HasX X.prog X.w X.K X.mg X.base fld n x ps (spX X.K X.mg F) dvs)(O:∀H,RAs X.K ok1 true H dvs dd)(hr:Room n X.A)(ha:DB X fl .P (e::es) fa)(hx:X=X.nox:=by rfl)(hg:Gl X x:=by rfl)(hdb:(x==("__debug__":Str))=false:=by decide)
 (he:starEach (e::es) X.env=(false,eval e X.env)::starEach es X.env:=by exact fZ rfl) (hpl:(backTo pos (starEach es X.env)).any (·.1)=false:=by exact sH rfl) (hsw:swapsWith (.Call (.Name x p) (e::es) [] pos) none pos2.line X.env=pure false:=by rfl) :
 DXE X fld fl (.Expr (.Call (.Name x p) (e::es) [] pos) pos2) (mQ F dd fa):=by
 intro pins s σ H Dn EX J N;refine D3.ex4 N λG ow δ o R Q q=>?_
 refine D3.ex1 (bind1 Q) λds e1 e2=>?_
 obtain⟨f,fd,I,M,b,U,kp,m⟩:=h.ex;have V:DB X.nox fl .P (e::es) fa:=by rwa[<-hx]
 refine vJ (X:=X) (dvs:=dvs) M hr hg m kp b U V hdb he hpl hsw pins s σ H Dn EX J ⟨G,ow,δ,ds,R,e1,λvs H1 sm r=>?_⟩;split at e2
 .next d Y=>
  cases e2;exact⟨ds++dd,_,⟨R.tb.same sm,r.append (O H1)⟩,Y,λv H' Z W=>q ow _ H' (R.grow (sm.trans Z))⟩
 .next c f d Y=>
  cases e2;exact⟨ds++dd,_,⟨R.tb.same sm,r.append (O H1)⟩,Y,λv H' Z W=>q ow _ H' (R.grow (sm.trans Z))⟩
 .next c d Y=>
  cases e2;exact⟨ds++dd,_,⟨R.tb.same sm,r.append (O H1)⟩,Y,λL v u H' S Z T W=>q L v u H' S (sm.trans Z) T W⟩
 .cases e2
theorem O_(hc:DT X fl c ft)(h1:DXE X fld fl s1 f1)(h2:DXE X fld fl s2 f2)(O:X=X.nox:=by rfl):DXE X fld fl (.If c [s1] [s2] pos) (xIf ft f1 f2):=by
 intro pins s σ H Dn EX J N;refine D3.ex4 N λG ow δ o R P q=>?_
 refine D3.ex1 (bind1 P) λt e1 e2=>?_
 have W:DT X.nox fl c ft:=by rwa[<-O]
 have one:∀(s0:Stmt)(f0:FX),DXE X fld fl s0 f0->f0 δ=some o->∀(H1:Hp)(s':cB),Same H H1->Inv X pins σ H1 s'->wpAny (model X.prog X.w) X.A (execs [s0] X.env) (SP X pins Dn) (XP fld X pins σ EX) s':=λs0 f0 Q M H1 s' sm Z=>by
  refine bi (ai (Q pins s' σ H1 {nx:=Dn.nx,rt:=λ_ _=>False,bk:=λ_ _=>False,ct:=λ_ _=>False} EX Z ⟨G,ow,δ,o,R.grow sm,M,?_⟩) (λfl' s1 z=>?_) λe s1 z=>z)
  .cases o with
   |ex K d=>exact λL v u H' S Y U V=>q L v u H' S (sm.trans Y) U V
   |o T=>cases T with
    |nx δ'=>exact q
    |rt d=>exact q
    |bk d=>exact q
    |ct d=>exact q
    |ex _ _ _=>exact q
  .cases fl' with
   |next=>exact aS z
   |ret v=>obtain⟨_,_,_,_,_,z⟩:=z;exact z.elim
   |brk=>obtain⟨_,_,_,z⟩:=z;exact z.elim
   |cont=>obtain⟨_,_,_,z⟩:=z;exact z.elim
 refine wpAny_If (ai (W pins s σ H (λb H1=>b=t/\Same H H1) (J.wish _) ⟨G,ow,δ,t,R,e1,λH' s=>⟨rfl,s⟩⟩) (λb s1 z=>?_) λ_ _ z=>z.elim);obtain⟨H1,Z,rfl,sm⟩:=z;have Z:Inv X pins σ H1 s1:=Z.wish _
 cases b with
 |true=>rw[if_pos rfl]at e2;exact one _ _ h1 e2 H1 s1 sm Z
 |false=>rw[if_neg (by decide)]at e2;exact one _ _ h2 e2 H1 s1 sm Z
end
section
variable{ks:List Str}{k:Nat}{f:FX}{fl:List Fl}
end
end XC
namespace XC
open L2 My D3
structure SuiH(K:PySem.W.Frag)(mg:Str->Option Value)(fld:Addr->Str)(cn f ic n1 n2:Str):Prop where
 ex:∃C I D1 D2,Exc K mg cn f C I/\fld C=f/\mg ic=some (.ref I)/\KitE K C/\AttE K C f/\mg n1=some (.ref D1)/\mg n2=some (.ref D2)/\PySem.W.kitAny K (.ref C) [.ref D1,.ref D2]=some false/\PySem.W.kitOne K (.ref C) (.ref I)=some true
structure SuiA(K:PySem.W.Frag)(mg:Str->Option Value)(fld:Addr->Str)(cn f ic:Str):Prop where
 ex:∃C I,Exc K mg cn f C I/\fld C=f/\mg ic=some (.ref I)/\AttE K C f
section
variable{X:Cx}{D dx:Addr}{od:Obj}{n:Str}{b:Bool}
def Xu(N:KitE X.K C)(hk:PySem.W.kitOne X.K (.ref C) (.ref D)=some b)(O:oa.cls = .ref C)(J:oa.dict=some dx)(Y:PySem.W.notCls oa=true)(hic:X.mg ic=some (.ref D))(hgi:Gl X "isinstance")(Z:X.mg "isinstance"=none)(hg:Gl X ic)(hi:X.N[i]? = some n)(hv:Vis X.env.scope n)
 (hdb:(ic==("__debug__":Str))=false:=by decide) (hdn:(n==("__debug__":Str))=false:=by decide) (hcn:(n==("__classdict__":Str))=false:=by decide) :
 PE (eE X a oa dx od) (.Call (.Name "isinstance" p) [.Name n p1,.Name ic p2] [] pos) (tEt i a b):=
 PE.imp (qj (X:=eE X a oa dx od) (O9 (b:=b) N O J Y) hgi Z cq (iV (mY (X:=eE X a oa dx od) hi hv hdn hcn) (iV (Jx (X:=eE X a oa dx od) (v:=.ref D) hg hic rfl hdb) nR (by exact fZ rfl)) (by exact fZ rfl)) (by decide) (by decide) (by exact fZ rfl) (by exact sH rfl)) λσ H Q h=>by
  exact⟨_,h.1,D,rfl,hk,h.2 H (Same.refl H)⟩
end
section
variable{X:Cx}{fl:List Fl}{c n1 n2 n g s0 s1:Str}{gp:List Str}{k:Nat}{W:List D->Option D}
variable{ap a1 a2 a3 a4 a5 b1 b2 b3 b4 b6 b7 q0 q1 q2 q3 q4 q5 q6 q7 q8 q9 q10 q11 rp2:Pos}{x1 x2 x3 j0 j1 j2:Nat}
end
end XC
namespace XC
open L2 My D3
section
variable{fa:Addr}{outer:List Env}{s₀:cB}{H₀:Hp}{E:XK}
variable{fl:List Fl}{F:List D->Option Or}{es:List Expr}{fs:FA}
def o_(h:HasX P w K mg base fld n x ps (spX K mg F) dvs)(hdd:∀H,RAs K ok1 true H dvs dd)(hr:Room n (A.deeper (envOfC qual scope s₀.heap.objs.size fa cdv)))(ha:DB (jx (CXE P w fld) P w K mg base N qual scope fa cdv A outer s₀ H₀ E).nox fl .P (e::es) fs)
 (hg:Gl (jx (CXE P w fld) P w K mg base N qual scope fa cdv A outer s₀ H₀ E) x:=by rfl) (hdb:(x==("__debug__":Str))=false:=by decide)
 (he:starEach (e::es) (jx (CXE P w fld) P w K mg base N qual scope fa cdv A outer s₀ H₀ E).env=(false,eval e (jx (CXE P w fld) P w K mg base N qual scope fa cdv A outer s₀ H₀ E).env)::starEach es (jx (CXE P w fld) P w K mg base N qual scope fa cdv A outer s₀ H₀ E).env:=by exact fZ rfl) (Y:(backTo pos (starEach es (jx (CXE P w fld) P w K mg base N qual scope fa cdv A outer s₀ H₀ E).env)).any (·.1)=false:=by exact sH rfl) (O:swapsWith (.Call (.Name x p) (e::es) [] pos) none pos2.line (jx (CXE P w fld) P w K mg base N qual scope fa cdv A outer s₀ H₀ E).env=pure false:=by rfl) :
 DX1 (jx (CXE P w fld) P w K mg base N qual scope fa cdv A outer s₀ H₀ E) E fl (.Expr (.Call (.Name x p) (e::es) [] pos) pos2) (mQ F dd fs):=by
 intro pins s σ H Dn J C;refine D3.ex4 C λG ow δ o R D q=>?_
 refine D3.ex1 (bind1 D) λds e1 e2=>?_
 obtain⟨f,fd,l,S,b,U,kp,m⟩:=h.ex;split at e2
 .next d W=>
  cases e2;refine ai (vJ (X:=(jx (CXE P w fld) P w K mg base N qual scope fa cdv A outer s₀ H₀ E)) (dvs:=dvs) S hr hg m kp b U ha hdb he Y O pins s σ H {nx:=λσ' H2=>σ'=σ/\Same H H2,rt:=λ_ _=>False,bk:=λ_ _=>False,ct:=λ_ _=>False} (λ_ _ _=>False) J ⟨G,ow,δ,ds,R,e1,λvs H1 sm r=>⟨ds++dd,_,⟨R.tb.same sm,r.append (hdd H1)⟩,W,λv H' Z _=>⟨rfl,sm.trans Z⟩⟩⟩) (λfl' s1 z=>?_) λe s1 z=>?_
  .cases fl' with
   |next=>
    obtain⟨σ',H',V,rfl,sm⟩:=z;exact⟨_,H',V,q ow _ H' (R.grow sm)⟩
   |ret v=>obtain⟨_,_,_,_,_,z⟩:=z;exact z.elim
   |brk=>obtain⟨_,_,_,z⟩:=z;exact z.elim
   |cont=>obtain⟨_,_,_,z⟩:=z;exact z.elim
  .obtain⟨_,_,_,_,_,_,_,_,_,_,_,_,z⟩:=z;exact z.elim
 .next c f d W=>
  cases e2;refine ai (vJ (X:=(jx (CXE P w fld) P w K mg base N qual scope fa cdv A outer s₀ H₀ E)) (dvs:=dvs) S hr hg m kp b U ha hdb he Y O pins s σ H {nx:=λσ' H2=>σ'=σ/\Same H H2,rt:=λ_ _=>False,bk:=λ_ _=>False,ct:=λ_ _=>False} (λ_ _ _=>False) J ⟨G,ow,δ,ds,R,e1,λvs H1 sm r=>⟨ds++dd,_,⟨R.tb.same sm,r.append (hdd H1)⟩,W,λv H' Z _=>⟨rfl,sm.trans Z⟩⟩⟩) (λfl' s1 z=>?_) λe s1 z=>?_
  .cases fl' with
   |next=>
    obtain⟨σ',H',V,rfl,sm⟩:=z;exact⟨_,H',V,q ow _ H' (R.grow sm)⟩
   |ret v=>obtain⟨_,_,_,_,_,z⟩:=z;exact z.elim
   |brk=>obtain⟨_,_,_,z⟩:=z;exact z.elim
   |cont=>obtain⟨_,_,_,z⟩:=z;exact z.elim
  .obtain⟨_,_,_,_,_,_,_,_,_,_,_,_,z⟩:=z;exact z.elim
 .next c d W=>
  cases e2;refine ai (vJ (X:=(jx (CXE P w fld) P w K mg base N qual scope fa cdv A outer s₀ H₀ E)) (dvs:=dvs) S hr hg m kp b U ha hdb he Y O pins s σ H {nx:=λσ' H2=>False,rt:=λ_ _=>False,bk:=λ_ _=>False,ct:=λ_ _=>False} E J ⟨G,ow,δ,ds,R,e1,λvs H1 sm r=>⟨ds++dd,_,⟨R.tb.same sm,r.append (hdd H1)⟩,W,λQ v u H' I Z L M=>q Q v u H' I (R.same0.trans (sm.trans Z)) L M⟩⟩) (λfl' s1 z=>?_) λe s1 z=>?_
  .cases fl' with
   |next=>obtain⟨_,_,_,z⟩:=z;exact z.elim
   |ret v=>obtain⟨_,_,_,_,_,z⟩:=z;exact z.elim
   |brk=>obtain⟨_,_,_,z⟩:=z;exact z.elim
   |cont=>obtain⟨_,_,_,z⟩:=z;exact z.elim
  .obtain⟨a,Q,dx,T,u,H',rfl,V,Fl,t,B,LT,z⟩:=z;exact O2 V Fl t B (λk y=>by cases y;exact LT) z
 .cases e2
end
end XC
namespace D3
noncomputable def Bv(i:Nat)(f:FX)(cs:List Str)(fS:Str->D->FS):FS:=λδ=>(f δ).bind λo=>match o with
 | .o (.nx δ')=>some (.nx δ')
 | .ex c d=>if c∈cs/\flat d=true then(fS c d (δ.set i none)).bind λo=>match o with
  | .rt r=>some (.rt r)
  | .nx δ'=>some (.nx (δ'.set i none))
  |_=>none
  else none
 |_=>none
end D3
namespace XC
open L2 My D3
structure At(K:PySem.W.Frag)(i:Nat)(a:Addr)(v:V)(d:D)(σ:L2.St)(H:Hp):Prop where
 sl:σ[i]? = some (some (.ref a))
 ra:RA K ok0 false H v d
 fl:flat d=true
section
variable{fl:List Fl}{v:V}{d:D}{σ:L2.St}{H H':Hp}
def At.grow(h:At K i a v d σ H)(s:Same H H'):At K i a v d σ H':=⟨h.sl,h.ra.same s,h.fl⟩
def At.set{x:Option V}(h:At K i a v d σ H)(n:i≠j):At K i a v d (σ.set j x) H:=⟨by rw[bh (c9 n)];exact h.sl,h.ra,h.fl⟩
end
noncomputable def tU(K:PySem.W.Frag)(fl:List Fl)(i:Nat)(a:Addr)(v:V)(d:D)(k:Kd)(f:FE):TE:=λσ H Q=>∃G ow δ x,Rel K fl G ow σ H δ/\At K i a v d σ H/\f δ=some x/\∀y H',Same H H'->Rs K G.H0 ow H H' k y x->Q y H'
def tUB(K:PySem.W.Frag)(fl:List Fl)(i:Nat)(a:Addr)(v:V)(d:D)(k:Kd)(f:FA):TA:=λσ H Q=>∃G ow δ ds,Rel K fl G ow σ H δ/\At K i a v d σ H/\f δ=some ds/\∀vs H',Same H H'->RAs K (K7 G.H0 ow H k) (Sd k) H' vs ds->Q vs H'
noncomputable def tUT(K:PySem.W.Frag)(fl:List Fl)(i:Nat)(a:Addr)(v:V)(d:D)(f:FT):TT:=λσ H Q=>∃G ow δ b,Rel K fl G ow σ H δ/\At K i a v d σ H/\f δ=some b/\∀H',Same H H'->Q b H'
def aj5(K:PySem.W.Frag)(fl:List Fl)(i:Nat)(a:Addr)(v:V)(d:D)(G:Gh)(Dn:Ends):Oc->Prop
 | .nx δ'=>∀Z σ' H',Rel K fl G Z σ' H' δ'->At K i a v d σ' H'->Dn.nx σ' H'
 | .rt r=>∀y H',Same G.H0 H'->RA K (okN G.H0) false H' y r->Dn.rt y H'
 |_=>False
noncomputable def tUS(K:PySem.W.Frag)(fl:List Fl)(i:Nat)(a:Addr)(v:V)(d:D)(f:FS):TS:=λDn σ H=>∃G ow δ o,Rel K fl G ow σ H δ/\At K i a v d σ H/\f δ=some o/\aj5 K fl i a v d G Dn o
structure Sc where
 i:Nat
 a:Addr
 v:V
 d:D
abbrev UE(X:Cx)(fl:List Fl)(z:Sc)(k:Kd)(e:Expr)(f:FE):Prop:=PE X e (tU X.K fl z.i z.a z.v z.d k f)
abbrev UB(X:Cx)(fl:List Fl)(z:Sc)(k:Kd)(es:List Expr)(f:FA):Prop:=PA X es (tUB X.K fl z.i z.a z.v z.d k f)
abbrev UT(X:Cx)(fl:List Fl)(z:Sc)(e:Expr)(f:FT):Prop:=PT X e (tUT X.K fl z.i z.a z.v z.d f)
abbrev UW(X:Cx)(fl:List Fl)(z:Sc)(e:Expr)(f:FT):Prop:=PW X e (tUT X.K fl z.i z.a z.v z.d f)
abbrev US(X:Cx)(fl:List Fl)(z:Sc)(s:Stmt)(f:FS):Prop:=PS X s (tUS X.K fl z.i z.a z.v z.d f)
abbrev USs(X:Cx)(fl:List Fl)(z:Sc)(s:List Stmt)(f:FS):Prop:=PSs X s (tUS X.K fl z.i z.a z.v z.d f)
section
variable{X:Cx}{fl:List Fl}{z:Sc}{a b c:Expr}{es rest:List Expr}{k:Kd}{f fa:FE}{fs gs:FS}
def ux(h:DE X fl k e f):UE X fl z k e f:=PE.imp h λσ H Q h=>by
 obtain⟨G,ow,δ,x,R,_,Z,q⟩:=h;exact⟨G,ow,δ,x,R,Z,q⟩
def CW{J:Kd}(h:UE X fl z k e f)(O:∀(Hb H:Hp) (G:Gh) (ow:Ow) (σ:L2.St) (δ:DS) (v:V) (d:D),Rel X.K fl G ow σ Hb δ->Rs X.K G.H0 ow Hb H k v d->Rs X.K G.H0 ow Hb H J v d):UE X fl z J e f:=PE.imp h λσ H Q h=>by
 obtain⟨G,ow,δ,x,R,A,Z,q⟩:=h;exact⟨G,ow,δ,x,R,A,Z,λv H' s r=>q v H' s (O _ _ G ow σ δ v x R r)⟩
def jO(h:UE X fl z .FC e f):UE X fl z .C e f:=CW h λ_ _ _ _ _ _ _ _ R r=>r.FC_C
def ZL(h:UE X fl z .C e f):UE X fl z .A e f:=CW h λ_ _ _ _ _ _ _ _ R r=>r.C_A R
def ZM(h:UE X fl z .C e f):UE X fl z .R e f:=CW h λ_ _ _ _ _ _ _ _ R r=>r.C_R R
def CZ(h:UE X fl z .FC e f):UE X fl z .A e f:=ZL (jO h)
def wG(h:UE X fl z .FC e f):UE X fl z .R e f:=ZM (jO h)
def n_{J:Bool}(h:PE X e (tEt z.i z.a J)):UE X fl z .FC e (dC (.bool J)):=PE.imp h λσ H Q h=>by
 obtain⟨G,ow,δ,x,R,A,Z,q⟩:=h
 cases Z;exact⟨A.sl,λH' s=>q _ H' s (.inl ⟨rfl,.bl _⟩)⟩
def pY:UB X fl z k [] aJ:=PA.imp nR λσ H Q h=>by
 obtain⟨G,ow,δ,ds,R,_,Z,q⟩:=h
 cases Z;exact q [] H (Same.refl H) .nil
def dY(hk:isR k=true)(h:UE X fl z k e f)(O:UB X fl z k es fr)(J:starEach (e::es) X.env=(false,eval e X.env)::starEach es X.env:=by exact fZ rfl):UB X fl z k (e::es) (aj f fr):=PA.imp (iV h O J) λσ H Q h=>by
 obtain⟨G,ow,δ,ds,R,A,Z,q⟩:=h;refine D3.ex1 (bind1 Z) λd e1 Z=>?_
 refine D3.ex1 (bind1 Z) λr e2 Z=>?_
 cases Z;refine⟨G,ow,δ,d,R,A,e1,λv H1 s1 r1=>⟨G,ow,δ,r,R.grow s1,A.grow s1,e2,λvs H2 s2 r2=>?_⟩⟩;exact q _ H2 (s1.trans s2) (.cons ((r1.ra hk).same s2) (r2.imp (Bh s1 hk) (λz=>z)))
def wH{x1}(hk:isR k=true)(h:UB X fl z k es fr):UE X fl z k (.Tuple es x1 pos) (dTup fr):=PE.imp (Nr h) λσ H Q h=>by
 obtain⟨G,ow,δ,d,R,A,Y,q⟩:=h;refine D3.ex1 (bind1 Y) λl e1 e2=>?_
 by_cases z:l.length<=sizeLine
 .rw[if_pos z]at e2
  cases e2;refine⟨G,ow,δ,l,R,A,e1,λvs H' s r=>⟨by rwa[r.length],λp Z=>?_⟩⟩;have g:=eO Z (.tup vs);exact q _ _ (s.trans g) (Rs.of_ra hk (.tup dH (r.same g)))
 .rw[if_neg z]at e2
  cases e2
def C_(h:UB X fl z .C es fr):UE X fl z .FC (.List es pos) (fY fr):=PE.imp (HD h) λσ H Q h=>by
 obtain⟨G,ow,δ,d,R,A,Y,q⟩:=h;refine D3.ex1 (bind1 Y) λl e1 e2=>?_
 by_cases z:l.length<=sizeLine
 .rw[if_pos z]at e2
  cases e2;refine⟨G,ow,δ,l,R,A,e1,λvs H' s r=>⟨by rwa[r.length],λp Z=>?_⟩⟩;have g:=eO Z (.lst vs);exact q _ _ (s.trans g) (.inr ⟨p,vs,l,rfl,rfl,s.free Z,dH,(r.track.imp (λb w=>⟨w.1,λe=>w.2 (e▸Z)⟩) (λz=>z)).same g⟩)
 .rw[if_neg z]at e2
  cases e2
def oh(h:DT X fl e ft):UT X fl z e ft:=PT.imp h λσ H Q h=>by
 obtain⟨G,ow,δ,x,R,_,Z,q⟩:=h;exact⟨G,ow,δ,x,R,Z,q⟩
def JW{J:Bool}(h:PE X e (tEt z.i z.a J))(O:∀whole,isTrue e X.env whole=(do let v <-whole;standAt e.pos;holding [v] (truthy v)):=by intro _;rfl):UT X fl z e (λ_=>some J):=PT.imp (M5 h O) λσ H Q h=>by
 obtain⟨G,ow,δ,x,R,A,Z,q⟩:=h
 cases Z;exact⟨A.sl,λH' s=>⟨J,rfl,q H' s⟩⟩
theorem Dh(h:UT X fl z a ft):UT X fl z (.UnaryOp .Not a pos) (D3.ig ft):=PT.imp (M7 h) λσ H Q h=>by
 obtain⟨G,ow,δ,t,R,A,Z,q⟩:=h;unfold D3.ig at Z
 cases e:ft δ with
 |none=>rw[e]at Z;cases Z
 |some x=>
  rw[e]at Z
  cases Z;exact⟨G,ow,δ,x,R,A,e,λH' s=>q H' s⟩
def Di(h:UT X fl z a ft):UW X fl z (.BoolOp .Or [a] pos) ft:=M6 h
theorem JX(h1:UT X fl z a ft)(h2:UW X fl z (.BoolOp .Or (b::rest) pos) gt):UW X fl z (.BoolOp .Or (a::b::rest) pos) (D3.tOr ft gt):=PW.imp (VB h1 h2) λσ H Q h=>by
 obtain⟨G,ow,δ,t,R,A,Z,q⟩:=h;refine D3.ex1 (bind1 Z) λx e1 e2=>?_
 refine⟨G,ow,δ,x,R,A,e1,λH1 s1=>?_⟩
 cases x with
 |true=>cases e2;exact yC (q H1 s1)
 |false=>exact yx ⟨G,ow,δ,t,R.grow s1,A.grow s1,e2,λH2 s2=>q H2 (s1.trans s2)⟩
def Tj(h:UW X fl z a ft):UT X fl z a ft:=PW.pt h
def lG:US X fl z st (λ_=>none):=λ_ _ _ _ _ _ h=>by
 obtain⟨_,_,_,_,_,_,Z,_⟩:=h
 cases Z
def jo:USs X fl z [] bV:=PSs.imp Jz λDn σ H h=>by
 obtain⟨G,ow,δ,o,R,A,Z,q⟩:=h
 cases Z;exact q ow σ H R A
theorem fO(h1:US X fl z st fs)(h2:USs X fl z sts gs):USs X fl z (st::sts) (bD fs gs):=PSs.imp (yq h1 h2) λDn σ H h=>by
 obtain⟨G,ow,δ,o,R,A,W,q⟩:=h;refine D3.ex1 (bind1 W) λY e1 e2=>?_
 refine⟨G,ow,δ,Y,R,A,e1,?_⟩
 cases Y with
 |nx δ'=>exact λZ σ' H' R' V=>⟨G,Z,δ',o,R',V,e2,q⟩
 |rt d=>cases e2;exact q
 |bk d=>cases e2;exact q.elim
 |ct d=>cases e2;exact q.elim
 |ex c f v=>cases e2;exact q.elim
def gU(h1:US X fl z st fs):USs X fl z [st] fs:=PSs.imp (Ci h1) λ_ _ _ h=>h
theorem ou(J:UT X fl z c ft)(h1:USs X fl z body fs)(h2:USs X fl z orelse gs):US X fl z (.If c body orelse pos) (sIf ft fs gs):=PS.imp (M8 J h1 h2) λDn σ H h=>by
 obtain⟨G,ow,δ,o,R,A,Z,q⟩:=h;refine D3.ex1 (bind1 Z) λt e1 e2=>?_
 refine⟨G,ow,δ,t,R,A,e1,λH' s=>?_⟩
 cases t with
 |true=>exact yC ⟨G,ow,δ,o,R.grow s,A.grow s,e2,q⟩
 |false=>exact yx ⟨G,ow,δ,o,R.grow s,A.grow s,e2,q⟩
def pZ(h:UE X fl z .R e f):US X fl z (.Return (some e) pos) (b_ f):=PS.imp (Hv h) λDn σ H h=>by
 obtain⟨G,ow,δ,o,R,A,Z,q⟩:=h;refine D3.ex1 (bind1 Z) λd e1 e2=>?_
 cases e2;exact⟨G,ow,δ,d,R,A,e1,λv H' s r=>q v H' (R.same0.trans s) r⟩
def xV(J:z.i≠j)(Y:fl[j]? = some .A)(hN:X.N.Nodup)(hi:X.N[j]? = some x)(hv:X.env.scope.names.lookup x=some .local\/X.env.scope.names.lookup x=some .cell)(h:UE X fl z .A e f)
 (hs:swapsWith e (some (.Name x pos')) pos.line X.env=pure false:=by rfl) (O:X.fn x=true\/X.env.scope.names.lookup x=some .local:=by first|exact .inl rfl|exact .inr rfl) :
 US X fl z (.Assign [.Name x pos'] e pos) (bL j f):=PS.imp (Cj (i:=j) hN hi hv h hs O) λDn σ H h=>by
 obtain⟨G,ow,δ,o,R,A,Z,q⟩:=h;unfold bL at Z;by_cases hl:j<δ.length
 .rw[if_pos hl]at Z;refine D3.ex1 (bind1 Z) λd e1 e2=>?_
  cases e2;exact⟨G,ow,δ,d,R,A,e1,λv H' s r=>q ow _ H' ((R.grow s).setA Y (rB R hl) r) ((A.grow s).set J)⟩
 .rw[if_neg hl]at Z
  cases Z
end
end XC
namespace XC
open L2 My D3
section
variable{X:Cx}{σ:L2.St}{H:Hp}{I0 dx D:Addr}{n:Str}{b0:Stmt}{np:Pos}
def Ir{M:eh}(I:Inv X pins σ H s)(hi:X.N[i]? = some n)(hN:X.N.Nodup)(hl:X.env.scope.names.lookup n=some .local)
 (h:∀s',Inv X pins (σ.set i none) H s'->Q () s'):wpAny M A (do bindName X.env n .none;unbindBehindTheSuite X.env n hpos) Q E s:=by
 obtain⟨m,hn,hm⟩:=id I.loc;have cls:(X.env.scope.kind == .class||(X.env.scope.kind == .module&&X.env.locals != X.env.globals))=false:=by rw[I.ok.kind];rfl
 refine wpAny_nameGoes_keeps hl hn cls λh' G T W=>h _ ?_
 have Y:∀b o,X.s₀.heap.get? b=some o->b≠X.env.locals:=λb o e z=>by
  rw[z]at e;exact absurd (ac e) (fV.mpr I.ok.above)
 refine⟨I.ok,I.os,I.bare,⟨λb o e Z V U=>(W.2 b (Y b o e)).trans (I.base.keep b o e Z V U),λb o e Z V U=>?_,I.base.free,λb o e Z=>?_,I.base.tups,I.base.frzs,I.base.tbls⟩,⟨_,T,λj y v e1 e2 e3=>?_⟩,λy c e=>?_,I.free,I.freeC,λp K=>?_,λb L e=>?_,by rw[cM];exact I.len⟩
 .obtain⟨sl,w⟩:=I.base.slot b o e Z V U;exact⟨sl,(W.2 b (Y b o e)).trans w⟩
 .obtain⟨o',w⟩:=I.base.there b o e Z;exact⟨o',(W.2 b (Y b o e)).trans w⟩
 .have S:j≠i:=λz=>by
   subst z;by_cases l:j<σ.length
   .rw[cL l]at e2;cases e2
   .rw[bK (by rw[cM];lia)]at e2;cases e2
  rw[bh (c9 S)]at e2;obtain⟨P,O,q⟩:=hm j y v e1 e2 e3;refine⟨P,O,?_⟩;rcases q with⟨k,e⟩|⟨k,c,e,z⟩
  .refine .inl ⟨k,?_⟩;have:y≠n:=λe=>S (yh hN e1 (e▸hi))
   simp[this,e]
  .exact .inr ⟨k,c,e,z.sameBut W (I.cne y c e)⟩
 .obtain⟨w,z⟩:=I.cell y c e;exact⟨w,z.sameBut W (I.cne y c e)⟩
 .obtain⟨e,Z,V,U,R⟩:=I.pin p K;exact⟨(W.2 p.1 V).trans e,Z,V,U,R⟩
 .refine(I.hok b L e).stay (λc w J q=>(W.2 c λz=>?_).trans q) (λ_ q=>q) λ_ _ q=>q
  rcases J with y|y
  .rw[<-y,z,I.free]at e;cases e
  .rw[z,I.free]at y;cases y
theorem ZP{Dn:Ends}{ts:TS}(I:Inv X pins σ H s)(F:Fly s.heap a C dx f u (some T))(La:Loose X pins H a)(Ld:Loose X pins H dx)(LT:Loose X pins H T)(Ex:Exc X.K X.mg cn f C I0)(hD:D=C\/D=I0)(J:X.mg ic=some (.ref D))(hg:Gl X ic)(O:(ic==("__debug__":Str))=false)
 (hi:X.N[i]? = some n) (hN:X.N.Nodup) (hl:X.env.scope.names.lookup n=some .local)
 (hs:∀oa od,s.heap.get? a=some oa->s.heap.get? dx=some od->PSs (eE X a oa dx od) (b0::suite) ts/\ts {nx:=λσ' H'=>Dn.nx (σ'.set i none) H',rt:=Dn.rt} (σ.set i (some (.ref a))) H) :
 wpAny (model X.prog X.w) X.A (handleBy (.ref a) X.env [.ExceptHandler (some (.Name ic np)) (some n) (b0::suite) hpos]) (SP X pins Dn) X.xe s:=by
 obtain⟨oa,od,ea,B,Q⟩:=Li I F La Ld;obtain⟨Y,E⟩:=hs oa od ea B;obtain⟨mgC,kp,hB,N,fI,mN,mI,t,_⟩:=Ex;have TT:=t _ I.kIn;obtain⟨vs,sl,e1,_⟩:=F.obj;refine wpAny_handleBy_cons (codeAny_handlers_test (uY (X:=eE X a oa dx od) Q hg J ?_ O)) (by intro q;cases q);have go:∀{P:Value->cB->Prop}{W:Bool->cB->Prop},W true s->wpAny (model X.prog X.w) (X.A.mark (some (.ref a))) (excMatches (.ref a) (.ref D)) W P s:=λ{P W} q=>by
  obtain⟨Z,g,d,tk,os⟩:=s;rcases hD with rfl|rfl
  .exact TT.match_self e1 rfl (by decide) q
  .exact TT.match_up e1 rfl (by decide) q
 refine go ?_;refine codeAny_handlers_suite_as ?_;have U:∀p∈(eE X a oa dx od).pn++pins,p.1≠T:=λp Z=>by
  obtain⟨x,y,_⟩:=F.hd T rfl;have Z:=Z;rcases aR.mp Z with Z|Z
  .rcases aR.mp Z with Z|Z
   .exact LT.pin p (aU _ Z)
   .rcases aK.mp Z with rfl|Z
    .exact c9 x
    .rw[aB.mp Z];exact c9 y
  .exact LT.pin p (aL _ Z)
 refine Ip Q F LT.out LT.loc LT.new LT.cel U λs1 o _=>?_
 refine yj (X:=eE X a oa dx od) (i:=i) (v:=V.ref a) o hN hi (.inl hl) rfl (λs2 r=>?_) (.inr hl);refine ai (Y pins s2 _ H _ r E) (λfl m q=>?_) λ_ _ z=>z.elim
 cases fl with
 |ret v=>
  obtain⟨M,σ',H',R,G,q3⟩:=q;exact name_goes (u_ I.ok R) hl λL S=>⟨M,_,H',S,G,q3⟩
 |next=>
  obtain⟨σ',H',R,q3⟩:=q;exact Ir (u_ I.ok R) hi hN hl λL S=>⟨_,H',S,q3⟩
 |brk=>
  obtain⟨_,_,_,z⟩:=q;exact z.elim
 |cont=>
  obtain⟨_,_,_,z⟩:=q;exact z.elim
end
def Pa(X:Cx)(fl:List Fl)(fld:Addr->Str)(ic:Str)(i:Nat)(b0:Stmt)(suite:List Stmt)(fS:Str->D->FS)(c:Str):Prop:=
 ∃C I0 Z,Exc X.K X.mg c (fld C) C I0/\(Z=C\/Z=I0)/\X.mg ic=some (.ref Z)/\∀(a:Addr)(oa:Obj)(dx:Addr)(od:Obj)(u:Value)(v:V)(d:D),oa.cls = .ref C->oa.dict=some dx->PySem.W.notCls oa=true->(∀h:dm,h.get? dx=some od->h.Ns1 dx (λz=>if z=fld C then some u else none))->RelV v u->flat d=true ->
  USs (eE X a oa dx od) fl ⟨i,a,v,d⟩ (b0::suite) (fS c d)
section
variable{X:Cx}{fl:List Fl}{en:Str}{f:FX}{np:Pos}{b0:Stmt}{fS:Str->D->FS}
def Tp(h:DXE X fld fl st f)(hcs:∀c∈cs,Pa X fl fld ic i b0 suite fS c)(O:fl[i]? = some .A)
 (hi:X.N[i]? = some en) (hN:X.N.Nodup) (hl:X.env.scope.names.lookup en=some .local) (hst:X.stack=X.env::X.outer:=by rfl) (hfr:X.env.frame=some X.env.locals:=by rfl) (hx:X=X.nox:=by rfl)
 (hgi:Gl X ic:=by rfl) (hdi:(ic==("__debug__":Str))=false:=by decide) :
 DS1 X fl (.Try [st] [.ExceptHandler (some (.Name ic np)) (some en) (b0::suite) hpos] [] [] tpos) (Bv i f cs fS):=by
 intro pins s σ H Dn J h0;refine D3.ex4 h0 λG ow δ o R hf q=>?_
 refine D3.ex1 (bind1 hf) λo1 e1 e2=>?_
 refine wpAny_Try_except ?_;have one:∀(D:Ends)(EX:XK),(tXE X.K X.mg fl f) D EX σ H->(∀s',SP X pins D .next s'->SP X pins Dn .next s')->(∀e s',XP fld X pins σ EX e s'->wpAny (model X.prog X.w) X.A (noteFrame e X.env) (λ_ V=>wpAny (model X.prog X.w) X.A (setFlight e none) (λ_ W=>wpAny (model X.prog X.w) X.A (handleBy e X.env [.ExceptHandler (some (.Name ic np)) (some en) (b0::suite) hpos]) (SP X pins Dn) X.xe W) X.xe V) X.xe s')->(D.rt=λ_ _=>False)->(D.bk=λ_ _=>False)->(D.ct=λ_ _=>False)->wpAny (model X.prog X.w) X.A (execs [st] X.env) (λf Y=>match f with | .next=>wpAny (model X.prog X.w) X.A (execs [] X.env) (SP X pins Dn) X.xe Y|f=>SP X pins Dn f Y)
  (λe Y=>wpAny (model X.prog X.w) X.A (noteFrame e X.env) (λ_ V=>wpAny (model X.prog X.w) X.A (setFlight e none) (λ_ W=>wpAny (model X.prog X.w) X.A (handleBy e X.env [.ExceptHandler (some (.Name ic np)) (some en) (b0::suite) hpos]) (SP X pins Dn) X.xe W) X.xe V) X.xe Y) s:=λD EX hq hn P E F I=>by
  refine bi (ai (h pins s σ H D EX J hq) (λfl' s1 z=>?_) λe s1 z=>P e s1 z)
  cases fl' with
  |next=>exact aS (aS (hn _ z))
  |ret v=>obtain⟨_,_,_,_,_,z⟩:=z;rw[E]at z;exact z.elim
  |brk=>obtain⟨_,_,_,z⟩:=z;rw[F]at z;exact z.elim
  |cont=>obtain⟨_,_,_,z⟩:=z;rw[I]at z;exact z.elim
 split at e2
 .next δ'=>
  cases e2;refine one {nx:=λσ' H2=>∃Z,Rel X.K fl G Z σ' H2 δ',rt:=λ_ _=>False,bk:=λ_ _=>False,ct:=λ_ _=>False} (λ_ _ _=>False) ⟨G,ow,δ,_,R,e1,λZ σ' H' R'=>⟨Z,R'⟩⟩ (λs' z=>?_) (λe s' z=>?_) rfl rfl rfl
  .obtain⟨σ',H',r,Z,R'⟩:=z;exact⟨σ',H',r,q Z _ H' R'⟩
  .obtain⟨_,_,_,_,_,_,_,_,_,_,_,_,z⟩:=z;exact z.elim
 .next c d=>
  by_cases U:c∈cs/\flat d=true
  case neg=>rw[if_neg U]at e2;cases e2
  rw[if_pos U]at e2;refine D3.ex1 (bind1 e2) λo2 e3 e4=>?_
  obtain⟨C,I0,Dc,b,hD,L,M⟩:=hcs c U.1;refine one {nx:=λσ' H2=>False,rt:=λ_ _=>False,bk:=λ_ _=>False,ct:=λ_ _=>False} (λu n H'=>n=some C/\Same H H'/\∃v,RelV v u/\RA X.K ok1 true H' v d) ⟨G,ow,δ,_,R,e1,λn v u H' m S r' Q=>⟨by rw[b.mgC]at m;cases m;rfl,S,v,Q,r'⟩⟩ (λs' z=>?_) (λe s' z=>?_) rfl rfl rfl
  .obtain⟨_,_,_,z⟩:=z;exact z.elim
  .obtain⟨a,n,dx,T,u,H',rfl,r,Fl,j,k,LT,hC,sm,v,Q,rd⟩:=z
   cases hC;refine Gn rfl r hst hfr Fl j k (λT' z=>by cases z;exact LT) λs2 T2 g p o1 o2 t=>?_
   obtain⟨vs,sl,w1,_⟩:=p.obj;obtain⟨od,B,x,w2,w3⟩:=p.dic;have t1:=M a ⟨.ref C,some dx,.fields vs,sl⟩ dx od u v d rfl rfl rfl (λh' z=>⟨od,B,x,z,w3⟩) Q U.2;have li:i<σ.length:=by
    rw[g.len];exact(dM.mp hi).1
   refine ZP (D:=Dc) (i:=i) (ts:=tUS X.K fl i a v d (fS c d)) g p j k t b hD L hgi hdi hi hN hl λoa od' ea l=>?_
   rw[w1]at ea;rw[w2]at l
   cases ea
   cases l;refine⟨t1,G,ow,_,_,Rel.forget (R.grow sm) O,⟨cL li,RA.flat U.2 rd,U.2⟩,e3,?_⟩;split at e4
   .cases e4;exact λy H2 s2 r2=>q y H2 s2 r2
   .next δ'=>
    cases e4;exact λZ σ' H2 R' _=>q Z _ H2 (Rel.forget R' O)
   .cases e4
 .cases e2
end
structure SuiU(K:PySem.W.Frag)(mg:Str->Option Value)(fld:Addr->Str)(cn f ic:Str)(ts:List (Str×Bool)):Prop where
 ex:∃C I,Exc K mg cn f C I/\fld C=f/\mg ic=some (.ref I)/\KitE K C/\AttE K C f/\∀t∈ts,∃D,mg t.1=some (.ref D)/\PySem.W.kitOne K (.ref C) (.ref D)=some t.2
def TsK(K:PySem.W.Frag)(mg:Str->Option Value)(C:Addr)(ts:List (Str×Bool)):Prop:=∀t∈ts,∃D,mg t.1=some (.ref D)/\PySem.W.kitOne K (.ref C) (.ref D)=some t.2
def Tq:TsK K mg C []:=n6 _
def vK{D:Addr}{n:Str}{b:Bool}{ts:List (Str×Bool)}(m:mg n=some (.ref D))(k:PySem.W.kitOne K (.ref C) (.ref D)=some b)(r:TsK K mg C ts):TsK K mg C ((n,b)::ts):=aZ.mpr ⟨⟨D,m,k⟩,r⟩
def Tr{ts:List (Str×Bool)}(E:Exc K mg cn f C I)(J:fld C=f)(m:mg ic=some (.ref I))(k:KitE K C)(a:AttE K C f)(t:TsK K mg C ts):SuiU K mg fld cn f ic ts:=⟨C,I,E,J,m,k,a,t⟩
structure SuK(X:Cx)(f:Str)(ts:List (Str×Bool))(i:Nat)(n:Str)(a:Addr)(oa:Obj)(dx:Addr)(od:Obj)(v:V):Prop where
 is:∀(t:Str×Bool),t∈ts->Gl X t.1->(t.1==("__debug__":Str))=false->∀p p1 p2 pos,PE (eE X a oa dx od) (.Call (.Name "isinstance" p) [.Name n p1,.Name t.1 p2] [] pos) (tEt i a t.2)
 isv:X.mg "ValueError"=none->Gl X "ValueError" -> ∀p p1 p2 pos,PE (eE X a oa dx od) (.Call (.Name "isinstance" p) [.Name n p1,.Name "ValueError" p2] [] pos) (tEt i a true)
 att:∀p1 pos,PE (eE X a oa dx od) (.Attribute (.Name n p1) f pos) (λσ H Q=>σ[i]? = some (some (.ref a))/\Q v H)
section
variable{X:Cx}{fl:List Fl}{c n g:Str}{ts:List (Str×Bool)}{k:Nat}{dx:Addr}{od:Obj}{v:V}{d:D}{b0:Stmt}{fS:Str->D->FS}{gp:List Str}{W:List D->Option D}
theorem tW{g:D->FS}(up:Bool)(Z:SuiU X.K X.mg fld c f ic ts)(hmi:X.mg "isinstance"=none)(hi:X.N[i]? = some n)(hS:∀d,fS c d=g d)
 (hs:∀a oa dx od v d C,X.mg c=some (.ref C)->oa.cls = .ref C->oa.dict=some dx->PySem.W.notCls oa=true->SuK X f ts i n a oa dx od v->flat d=true->USs (eE X a oa dx od) fl ⟨i,a,v,d⟩ (b0::suite) (g d))
 (hv:Vis X.env.scope n:=by first|exact Or.inl rfl|exact Or.inr (Or.inl rfl)|exact Or.inr (Or.inr rfl)) (hgi:Gl X "isinstance" := by rfl)
 (J:(n==("__debug__":Str))=false:=by decide) (O:(n==("__classdict__":Str))=false:=by decide)
 (hb:∀p1,attributeBase (.Name n p1) f X.env (eval (.Name n p1) X.env)=eval (.Name n p1) X.env:=by intro _;rfl) :
 Pa X fl fld (if up=true then ic else c) i b0 suite fS c:=by
 obtain⟨C,I0,I,M,mI,B,At,hk⟩:=Z.ex;have main:∀(a:Addr)(oa:Obj)(dx:Addr)(od:Obj)(u:Value)(v:V)(d:D),oa.cls = .ref C->oa.dict=some dx->PySem.W.notCls oa=true->(∀h:dm,h.get? dx=some od->h.Ns1 dx (λz=>if z=fld C then some u else none))->RelV v u->flat d=true->USs (eE X a oa dx od) fl ⟨i,a,v,d⟩ (b0::suite) (fS c d):=λa oa dx od u v d Y U T S H P=>by
  rw[hS];refine hs a oa dx od v d C I.mgC Y U T ⟨λt F E L p p1 p2 pos=>?_,λR Q p p1 p2 pos=>?_,λp1 pos=>?_⟩ P
  .obtain⟨D,m,G⟩:=hk t F;exact Xu B G Y U T m hgi hmi E hi hv L J O
  .exact Xr (S_ (a:=a) (oa:=oa) (dx:=dx) (od:=od) (T0 := "ValueError") I rfl (by decide) Y R (by decide +kernel) hgi hmi Q hi hv (by decide) (by decide) J O)
  .exact ZK At Y U T (by rw[M]at S;exact S) H hi hv J O (hb p1)
 cases up with
 |true=>exact⟨C,I0,I0,by rwa[M],.inr rfl,mI,main⟩
 |false=>exact⟨C,I0,C,by rwa[M],.inl rfl,I.mgC,main⟩
def wI(S:SuK X f ts i n a oa dx od v){p1 pos:Pos}:UE (eE X a oa dx od) fl ⟨i,a,v,d⟩ .FC (.Attribute (.Name n p1) f pos) (dC d):=PE.imp (S.att p1 pos) λσ H Q h=>by
 obtain⟨G,ow,δ,x,R,A,Z,q⟩:=h
 cases Z;exact⟨A.sl,q v H (Same.refl H) (.inl ⟨A.fl,A.ra⟩)⟩
end
end XC
namespace XS
open PySem.W
noncomputable def dX (lt:Nat->Nat->Bool):KasT α->α
 | .ret a=>a
 | .ask i j k=>dX lt (k (lt i j))
def pQ (n:Nat) (R:α->Prop):KasT α->Prop
 | .ret a=>R a
 | .ask i j k=>i<n/\j<n/\∀b,pQ n R (k b)
section
variable{α β:Type}{R:α->Prop}{R':β->Prop}{lt:Nat->Nat->Bool}
theorem oU(f:α->KasT β):∀t:KasT α,dX lt (t.bind f)=dX lt (f (dX lt t))
 | .ret _=>rfl
 | .ask _ _ k=>oU f (k _)
theorem oV (J:∀a,R a->pQ n R' (c a)):∀t:KasT α,pQ n R t->pQ n R' (t.bind c)
 | .ret a,h=>J a h
 | .ask _ _ k,h=>⟨h.1,h.2.1,λb=>oV J (k b) (h.2.2 b)⟩
theorem Gs:∀t:KasT α,pQ n R t->R (dX lt t)
 | .ret _,h=>h
 | .ask _ _ k,h=>Gs (k _) (h.2.2 _)
theorem JZ (O:∀i j C,i<n->j<n->C (lt i j) s->J i j C s) :
 ∀t:KasT α,pQ n R t->c (dX lt t) s->t.kasWp J c s
 | .ret _,_,q=>q
 | .ask _ _ k,h,q=>O _ _ _ h.1 h.2.1 (JZ O (k _) (h.2.2 _) q)
end
def good(n:Nat)(p:Array Nat):Prop:=p.Perm (aC n).toArray
section
variable{p:Array Nat}
def good.mem(g:good n p) (h:c∈p.toList):c<n:=by
 have:c∈(aC n):=by
  have:=(oX.mp g).mem_iff.mp h;simpa using this
 exact bR.mp this
def good.get(g:good n p)(J:0<n)(i:Nat):p.getD i 0<n:=by
 unfold Array.getD;split
 .exact g.mem (by simp)
 .exact J
def good.rev(g:good n p)(i j:Nat):good n (be p i j):=(mirror_perm _ _ _ _).trans g
def good.bub(g:good n p)(i j:Nat):good n (bubble p i j):=(bubble_perm _ _ _).trans g
theorem zf(J:0<n)(g:good n p):∀f a,pQ n (λ_=>True) (bw p f a)
 |0,a=>trivial
 |f+1,a=>⟨g.get J _,g.get J _,λb=>by
  cases b
  .exact zf J g f (a+1)
  .trivial⟩
theorem tX(J:0<n):∀f (p:Array Nat) a q,good n p->pQ n (λr=>good n r.1) (aI f p a q)
 |0,p,a,q,g=>g
 |f+1,p,a,q,g=>by
  refine⟨g.get J _,g.get J _,λb=>?_⟩
  cases b
  .refine⟨g.get J _,g.get J _,λc=>?_⟩
   cases c
   .exact tX J f p (a+1) (q+1) g
   .exact g
  .split
   .exact tX J f _ _ _ (g.rev _ _)
   .exact tX J f _ _ _ g
def zj(J:0<n)(g:good n p)(a m:Nat):pQ n (λr=>good n r.2) (bt a m p):=by
 refine oV (R:=λ_=>True) (λc _=>?_) _ (zf J (g.rev _ _) _ _);exact g.rev _ _
def Bw(J:0<n)(g:good n p)(a m:Nat):pQ n (λr=>good n r.2) (ax a m p):=
 oV (R:=λr=>good n r.1) (λr h=>by
  split
  .exact zj J (good.rev h _ _) _ _
  .exact zj J h _ _) _ (tX J _ _ _ _ g)
def Iu(J:0<n)(g:good n p)(m:Nat):pQ n (λr=>good n r.2) (bu m p):=
 oV (R:=λ_=>True) (λa _=>by
  split
  .exact g
  .split
   .refine⟨g.get J _,g.get J _,λb=>?_⟩
    cases b
    .exact Bw J (g.rev _ _) _ _
    .exact g
   .exact Bw J g _ _) _ (zf J g _ _)
theorem uN(J:0<n)(g:good n p)(k:Nat):∀f l r,pQ n (λ_=>True) (bc p k f l r)
 |0,l,r=>trivial
 |f+1,l,r=>by
  unfold bc;split
  .trivial
  .refine⟨g.get J _,g.get J _,λb=>?_⟩
   cases b
   .exact uN J g k f _ _
   .exact uN J g k f _ _
theorem Gu(J:0<n):∀f (p:Array Nat) k,good n p->pQ n (good n) (kas_bin f p k)
 |0,p,k,g=>g
 |f+1,p,k,g=>oV (R:=λ_=>True) (λl _=>Gu J f _ _ (g.bub _ _)) _ (uN J g k _ _ _)
def Bx(J:0<n):pQ n (good n) (bS n):=
 oV (R:=λr=>good n r.2) (λr h=>by
  split
  .exact Gu J _ _ _ h
  .exact h) _ (Iu J (Array.Perm.refl _) n)
end
def uO(n:Nat)(lt:Nat->Nat->Bool):List Nat:=(dX lt (bS n)).toList
def qt(J:0<n)(lt:Nat->Nat->Bool):(uO n lt).Perm (aC n):=by
 have:good n (dX lt (bS n)):=Gs _ (Bx J);have:=oX.mp this;simpa[uO]using this
open D3
end XS
namespace XS
open PySem.W L2 My D3
theorem BJ (x:iB P w H h a c):∃u,h.get? a=some u:=by
 cases c with
 |lst xs=>obtain⟨_,_,_,_,e⟩:=x;exact⟨_,e⟩
 |tup xs=>obtain⟨_,_,_,u,e,_⟩:=x;exact⟨_,e⟩
 |dK kvs=>obtain⟨_,_,_,_,u,_,_,e,_⟩:=x;exact⟨_,e⟩
 |dT kvs=>obtain⟨_,_,_,_,u,_,_,e,_⟩:=x;exact⟨_,e⟩
 |set S n=>obtain⟨u,_,_,_,e,_⟩:=x;exact⟨_,e⟩
 |ins C dx fs=>obtain⟨_,_,_,e,_⟩:=x;exact⟨_,e⟩
 |own y=>exact x
 |xd fs=>obtain⟨_,⟨u,_,_,e,_⟩,_⟩:=x;exact⟨_,e⟩
 |met f y=>exact⟨_,x⟩
 |rng lo hi=>obtain⟨_,_,_,e⟩:=x;exact⟨_,e⟩
 |frz u v=>exact⟨_,x.1⟩
 |tbl q p=>obtain⟨_,e,_⟩:=x;exact⟨_,e⟩
 |ext φ=>exact x.2.1
section
variable{X:Cx}{σ:L2.St}{H:Hp}
def Xv (a:h.Ns L m) (b:h.Ns L J):m=J:=by
 obtain⟨o,es,U,e,d,_,f⟩:=a;obtain⟨o',W,V,Z,Y,_,X⟩:=b;rw[e]at Z;cases Z;rw[d]at Y;cases Y
 funext x
 rw[<-f,<-X]
def Tt {D:Addr} {o:HO} (I:Inv X pins σ H s) (hm:s.heap.Ns X.env.locals m) (J:h'.Ns X.env.locals m) (k:∀b u,b≠X.env.locals->s.heap.get? b=some u->h'.get? b=some u)
 (hD:s.heap.get? D=none) (new:iB X.prog X.w (upd H D o) h' D o):Inv X pins σ (upd H D o) {s with heap:=h'}:=by
 have hn:H D=none:=by
  cases e:H D with
  |none=>rfl
  |some u=>
   obtain⟨w,hw⟩:=BJ (I.hok D u e);rw[hD]at hw;cases hw
 have ne:∀{b u},H b=some u->b≠D:=λe=>jB e hn
 refine I.step (g':=s.gens) (d':=s.drawn) (t':=s.toks) (ch:=[]) (λb hb=>by cases hb) (λb u Z _ _ e _=>k b u Z e) (λb u Z _ _ e _=>⟨u.slots,k b u Z e⟩) (λb u _ e n=>?_) (λb u _ e=>?_)
  (λb xs e=>by rwa[cO (ne e)]) (λb u v e=>by rwa[cO (ne e)]) (λb q p e=>by rwa[cO (ne e)]) (λV h2=>by rw[<-Xv hm h2];exact J) (λb u e=>?_) I.bare
 .rwa[cO (λz=>by rw[z,hD]at e;cases e)]
 .by_cases z:b=X.env.locals
  .obtain⟨w,_,_,hw,_⟩:=J;exact⟨w,by rwa[z]⟩
  .exact⟨u,k b u z e⟩
 .by_cases z:b=D
  .subst z;rw[dH]at e
   cases e;exact new
  .rw[cO z]at e;refine(I.hok b u e).stay (λc w W q=>k c w (λy=>?_) q) (λc q=>by rwa[cO (ne q)]) λc xs q=>by rwa[cO (ne q)]
   rcases W with rfl|Y
   .rw[y,I.free]at e;cases e
   .rw[y,I.free]at Y;cases Y
end
section
variable{prog:cN}
end
end XS
namespace XS
open PySem.W L2 My D3
section
variable{X:Cx}{σ:L2.St}{H:Hp}
end
end XS
namespace XS
open PySem.W L2 My D3
section
variable{prog:cN}
end
section
variable{X:Cx}
end
end XS
namespace XS
open PySem.W L2 My D3
section
variable{H:Hp}
theorem Gv:∀{l:List D},flats l=true->∀i,flat (l.getD i .none)=true
 |[],_,i=>by simp[flat]
 |d::l,h,0=>by rw[flats,aV]at h;exact h.1
 |d::l,h,i+1=>by
  rw[flats,aV]at h;simpa using Gv h.2 i
theorem J0:∀{ys:List V}{l:List D}{ok:Ok}{pl:Bool},RAs K ok pl H ys l->∀i,RA K ok pl H (ys.getD i .non) (l.getD i .none)
 |_,_,_,_,.nil,i=>by simp;exact .non
 |_,_,_,_,.cons a b,0=>a
 |_,_,_,_,.cons a b,i+1=>by simpa using J0 b i
end
end XS
namespace XS
open PySem.W
section
variable{prog:cN}
structure PL(h:dm)(D I l:Addr)(its:Array Value)(vs:List (L2.Key×Value))(i:Nat):Prop where
 iter:h.IsListIter I l i
 lst:h.IsList l its
 prs:∀(j:Nat)(u:Value),its[j]? = some u->∃(a:Addr)(n:Int)(t:Tok)(v:Value),u=c0 a/\IsTup h a #[ee n t,v]/\vs[j]? = some (dA n,v)/\a≠D/\a≠I
 ne:l≠D/\l≠I/\D≠I
end
end XS
namespace XS
open PySem.W
section
variable{prog:cN}
end
end XS
namespace XS
open PySem.W L2 My D3
section
variable{X:Cx}{σ:L2.St}{H:Hp}
end
end XS
namespace XS
open PySem.W L2 My D3
section
variable{X:Cx}{fl:List Fl}{a:Expr}{f:FE}{ta:TE}
end
end XS
namespace D3
def ao6:D->Option (List (Int×Int))
 | .dict kvs=>iiD kvs
 |_=>none
def isL:D->Bool
 | .list _=>true
 |_=>false
end D3
namespace D3
def xg:D->D->Option D:=λx y=>if(cK x&&cK y)=true then some (.bool (!PyData.eqv x y))else @ite _ (x=y/\isL x=true/\x.depth<=64/\noK x=true) (Classical.propDecidable _) (some (.bool false)) none
def J4{x:D}(h:gNe x y=some d):xg x y=some d:=by
 unfold gNe at h;unfold xg;split at h
 .next z=>rwa[if_pos z]
 .cases h
def Pb{x:D}(J:cK x=false)(hb:isL x=true)(hd:x.depth<=64)(hn:noK x=true):xg x x=some (.bool false):=by
 unfold xg;rw[J,if_neg (by decide),if_pos ⟨rfl,hb,hd,hn⟩]
end D3
namespace D3
end D3
namespace D3
end D3
namespace D3
def dsB(S:List Int):D:=.dict (S.map λi=>(.int i,.bool true))
noncomputable def bsD:List (D×D)->Option (List Int)
 |[]=>some []
 | (.int i,.bool true)::r=>(bsD r).map (i :: ·)
 |_=>none
def Lq:D->Option (List Int)
 | .dict kvs=>bsD kvs
 |_=>none
def xq:D->D->Option D:=λy x=>(Lq x).bind λS=>match y with
 | .int i=>some (.bool (decide (i∈S)))
 | .none=>some (.bool false)
 |_=>none
def xu(S:List Int)(i:Int):List Int:=if i∈S then S else S++[i]
def zm(i:Nat)(fk:FE):FS:=λδ=>(ak i δ).bind λx=>(fk δ).bind λy=>(Lq x).bind λS=>match y with
 | .int k=>if S.length<1000000 then some (.nx (δ.set i (some (.d (dsB (xu S k))))))else none
 |_=>none
theorem J5:∀S:List Int,bsD (S.map λi=>((.int i,.bool true):D×D))=some S
 |[]=>rfl
 |i::S=>by
  rw[bJ,bsD,J5 S];rfl
def Dj(S:List Int):Lq (dsB S)=some S:=J5 S
end D3
variable{S:List (Int×D3.D)}
namespace D3
noncomputable def scD:List D->Bool
 |[]=>true
 | .int _::r=>scD r
 | .none::r=>scD r
 |_=>false
def tvD:D->Bool
 | .none=>true
 | .tuple ds=>scD ds
 |_=>false
def Lr:List (D×D)->Option (List (Int×D))
 |[]=>some []
 | (.int i,d)::r=>if tvD d=true then(Lr r).map ((i,d) :: ·)else none
 |_=>none
def xG:D->Option (List (Int×D))
 | .dict kvs=>Lr kvs
 |_=>none
noncomputable def tvP(S:List (Int×D)):List (D×D):=S.map λq=>(.int q.1,q.2)
def dtv(S:List (Int×D)):D:=.dict (tvP S)
noncomputable def gC(S:List (Int×D))(i:Int):Option D:=(S.find? λq=>decide (q.1=i)).map (·.2)
def Gw:D->D->Option D:=λy x=>(xG x).bind λS=>match y with
 | .int i=>some (.bool (gC S i).isSome)
 |_=>none
def sW:D->D->Option D:=λy x=>(xG x).bind λS=>match y with
 | .int i=>some (.bool (!(gC S i).isSome))
 |_=>none
def rD:D->D->Option D:=λx y=>(xG x).bind λS=>match y with
 | .int i=>gC S i
 |_=>none
def zp(fk:FE):FE:=λδ=>(fk δ).bind λy=>match y with
 | .int i=>some (dtv [(i,.none)])
 |_=>none
def pD(S:List (Int×D))(k:Int)(d:D):List (Int×D):=if(gC S k).isSome=true then S else S++[(k,d)]
def zq(i:Nat)(fk fv:FE):FS:=λδ=>(ak i δ).bind λx=>(fk δ).bind λy=>(fv δ).bind λz=>(xG x).bind λS=>match y with
 | .int k=>if tvD z=true/\S.length<1000000 then some (.nx (δ.set i (some (.d (dtv (pD S k z))))))else none
 |_=>none
def tvA(S:List (Int×D)):Bool:=S.all λq=>tvD q.2
theorem tY:∀{S:List (Int×D)},tvA S=true->xG (dtv S)=some S
 |[],_=>rfl
 |q::S,h=>by
  rw[tvA,pU,aV]at h;have Z:=tY (S:=S) h.2;unfold xG dtv tvP at Z;unfold xG dtv tvP;dsimp only at Z;rw[bJ];dsimp only;rw[Lr,if_pos h.1,Z];rfl
theorem vL:∀{kvs:List (D×D)}{S:List (Int×D)},Lr kvs=some S->tvA S=true/\kvs=tvP S
 |[],S,h=>by cases h;exact⟨rfl,rfl⟩
 | (a,b)::r,S,h=>by
  unfold Lr at h;split at h
  .next e=>cases e
  .next e=>
   cases e;split at h
   .next hd=>
    cases e3:Lr r with
    |none=>rw[e3]at h;cases h
    |some Z=>
     rw[e3]at h
     cases h;obtain⟨h1,h2⟩:=vL e3;refine⟨?_,?_⟩
     .rw[tvA,pU,aV];exact⟨hd,h1⟩
     .rw[h2];rfl
   .cases h
  .cases h
def Tv{k:Int}(h:tvA S=true)(hd:tvD d=true):tvA (pD S k d)=true:=by
 unfold pD;split
 .exact h
 .unfold tvA at h ⊢;rw[List.all_append,h];simp[hd]
end D3
namespace D3
def tZ:List D->Option D
 |[x]=>(xG x).bind λS=>if S.length<64 then some (.list ((nW (S.map (·.1))).map .int))else none
 |_=>none
end D3
namespace L2
section
variable{κ:Type}[DecidableEq κ]
noncomputable def oK(kvs:List (κ×V))(k:κ):Option V:=(kvs.find? λZ=>decide (Z.1=k)).map (·.2)
noncomputable def putK(kvs:List (κ×V))(k:κ)(v:V):List (κ×V):=
 if(kvs.any λZ=>decide (Z.1=k))=true then kvs.map (λZ=>if Z.1=k then(Z.1,v)else Z)else kvs++[(k,v)]
def sX{p:κ×V}{r:List (κ×V)}{k:κ}(e:p.1=k):oK (p::r) k=some p.2:=by simp[oK,e]
def sY{p:κ×V}{r:List (κ×V)}{k:κ}(e:¬p.1=k):oK (p::r) k=oK r k:=by simp[oK,e]
theorem zu(k:κ):∀kvs:List (κ×V),(kvs.any λJ=>decide (J.1=k))=(oK kvs k).isSome
 |[]=>rfl
 |p::r=>by
  rw[lB];by_cases e:p.1=k
  .simp only[sX e,dTr e,Bool.true_or,Option.isSome_some]
  .rw[sY e,dFa e,Bool.false_or];exact zu k r
def sZ(kvs:List (κ×V))(k:κ)(v:V):(putK kvs k v).length<=kvs.length+1:=by
 unfold putK;split
 .rw[au];lia
 .rw[bx,bI,dG];lia
def Pg{kvs:List (κ×V)}{k:κ}(v:V)(h:oK kvs k=none):putK kvs k v=kvs++[(k,v)]:=by
 unfold putK;rw[zu,h];exact if_neg (by decide)
theorem vV.isSome_eq (r:vV c k):c.isSome=k.isSome:=by
 cases c with
 |none=>cases k with
  |none=>rfl
  |some _=>exact(show False from r).elim
 |some _=>cases k with
  |none=>exact(show False from r).elim
  |some _=>rfl
theorem vV.getD {u:Option Value}(r:vV c u) (rd:RelV k d'):RelV (c.getD k) (u.getD d'):=by
 cases c with
 |none=>cases u with
  |none=>exact rd
  |some _=>exact(show False from r).elim
 |some _=>cases u with
  |none=>exact(show False from r).elim
  |some _=>exact r
theorem KV.val (r:KV c m) (k:κ):vV (oK c k) (valueAt m k):=by
 induction r with
 |nil=>exact dy
 | @cons p q ps Z h t X=>
  obtain⟨h1,h2⟩:=h;by_cases e:p.1=k
  .have Y:q.1=k:=h1.symm.trans e;have b:valueAt (q::Z) k=some q.2:=by simp[valueAt,Y]
   rwa[sX e,b]
  .have Y:¬q.1=k:=λz=>e (h1.trans z)
   have b:valueAt (q::Z) k=valueAt Z k:=by simp[valueAt,Y]
   rwa[sY e,b]
theorem KV.any (r:KV c m) (k:κ):(c.any λJ=>decide (J.1=k))=m.any λJ=>decide (J.1=k):=by
 induction r with
 |nil=>rfl
 |cons h t Z=>rw[lB,lB,Z,h.1]
theorem KV.repl (r:KV c m) (k:κ) (O:RelV B F) :
 KV (c.map λJ=>if J.1=k then(J.1,B)else J) (m.map λJ=>if J.1=k then(J.1,F)else J):=by
 unfold KV at r ⊢
 induction r with
 |nil=>exact .nil
 | @cons p q ps Y h t Z=>
  rw[bJ,bJ];refine .cons ?_ Z;obtain⟨h1,h2⟩:=h;by_cases e:p.1=k
  .rw[if_pos e,if_pos (h1.symm.trans e)];exact⟨h1,O⟩
  .rw[if_neg e,if_neg (λz=>e (h1.trans z))];exact⟨h1,h2⟩
def KV.put (r:KV c m) (k:κ) (J:RelV t z):KV (putK c k t) (stored m k z):=by
 unfold putK stored;rw[r.any k];by_cases e:(m.any λZ=>decide (Z.1=k))=true
 .rw[if_pos e,if_pos e];exact r.repl k J
 .rw[if_neg e,if_neg e];exact Paired.snoc r ⟨rfl,J⟩
theorem KV.keys{kvs:List (κ×V)}{vs:List (κ×Value)}(r:KV kvs vs):kvs.map (·.1)=vs.map (·.1):=by
 induction r with
 |nil=>rfl
 |cons h t Z=>rw[bJ,bJ,Z,h.1]
def KV.length{kvs:List (κ×V)}{vs:List (κ×Value)}(r:KV kvs vs):kvs.length=vs.length:=Paired.length r
end
theorem zy (r:RelV (kV k) u):(dD P w).is k u=true:=by
 cases k with
 |inl i=>obtain⟨t,e⟩:=(show ∃t,u=ee i t from r);subst e;exact Eo P w i t
 |inr x=>obtain⟨t,e⟩:=(show ∃t,u=ew x t from r);subst e;exact Ep P w x t
theorem BK:∀{ks:List Key}{us:List Value},Vals (ks.map kV) us->ItemsAre (dD P w) ks us
 |[],_,r=>by rw[qx]at r;cases r;exact .nil
 |k::ks,_,r=>by
  rw[bJ]at r
  cases r with
  |cons h t=>exact .cons (zy h) (BK t)
abbrev KT(H:Hp):List (List Key×V)->List (List Key×Addr×Value)->Prop:=Paired λp q=>p.1=q.1/\H q.2.1=some (.tup (p.1.map kV))/\RelV p.2 q.2.2
theorem KT.val{kvs:List (List Key×V)}{xs:List (List Key×Addr×Value)}(r:KT H kvs xs)(k:List Key):vV (oK kvs k) ((atKey xs k).map (·.2)):=by
 induction r with
 |nil=>exact dy
 | @cons p q ps Z h t X=>
  obtain⟨h1,_,h2⟩:=h;by_cases e:p.1=k
  .have Y:q.1=k:=h1.symm.trans e;have b:atKey (q::Z) k=some q.2:=by simp[atKey,Y]
   rwa[sX e,b]
  .have Y:¬q.1=k:=λz=>e (h1.trans z)
   have b:atKey (q::Z) k=atKey Z k:=by simp[atKey,Y]
   rwa[sY e,b]
theorem KT.repl (r:KT H c m) (k:List Key) (O:RelV B F) :
 KT H (c.map λJ=>if J.1=k then(J.1,B)else J) (m.map (putAt k F)):=by
 induction r with
 |nil=>exact .nil
 | @cons p q ps X h t Z=>
  rw[bJ,bJ];refine .cons ?_ Z;obtain⟨h1,h2,Y⟩:=h;unfold putAt;by_cases e:p.1=k
  .rw[if_pos e,if_pos (h1.symm.trans e)];exact⟨h1,h2,O⟩
  .rw[if_neg e,if_neg (λz=>e (h1.trans z))];exact⟨h1,h2,Y⟩
def KT.put (r:KT H c m) (k:List Key) (hb:H t=some (.tup (k.map kV))) (J:RelV z B) :
 KT H (putK c k z) (storedH m k t B):=by
 have e:(c.any λZ=>decide (Z.1=k))=(atKey m k).isSome:=by
  rw[zu,(r.val k).isSome_eq,mK]
 unfold putK storedH;rw[e];by_cases q:(atKey m k).isSome=true
 .rw[if_pos q,if_pos q];exact r.repl k J
 .rw[if_neg q,if_neg q];exact Paired.snoc r ⟨rfl,hb,J⟩
def KT.keeps (r:KT H c k) (J:∀b ys,H b=some (.tup ys)->H' b=some (.tup ys)):KT H' c k:=
 Paired.mapP r λ_ _ z=>⟨z.1,J _ _ z.2.1,z.2.2⟩
section
variable{H:Hp}
def V0 (ok:HOk P w H h) (e:Rd H a c):iB P w H h a c:=e.ok ok
def wU (ok:HOk P w H h) (e:Rd H a (.dK c)):c.length<=sizeLine/\(a==sysModules)=false/\∃vs,KV c vs/\h.DictOf (dD P w) a vs:=
 show iB P w H h a (.dK c)from V0 ok e
def Ph (ok:HOk P w H h) (e:H a=some (.dK c)):c.length<=sizeLine/\(a==sysModules)=false/\∃vs,KV c vs/\h.DictOf (dD P w) a vs:=wU ok (.inl e)
def zA (ok:HOk P w H h) (e:H a=some (.tup (c.map kV))):(tupleKind (dD P w)).is h c a:=by
 obtain⟨_,its,r,o,h1,h2,n,Z⟩:=(show iB P w H h a (.tup (c.map kV))from ok a _ e);exact⟨o,its.toArray,n,h1,h2,Z,by simpa using BK r⟩
def BL (ok:HOk P w H h) (e:Rd H a (.dT c)):c.length<=sizeLine/\(a==sysModules)=false /\
 ∃xs,KT H c xs/\h.DictOfH (tupleKind (dD P w)) a xs:=by
 obtain⟨z,y,xs,r,o,es,S,h1,h2,T,U,W⟩:=(show iB P w H h a (.dT c)from V0 ok e);refine⟨z,y,xs,r,o,es,S,h1,h2,T,U,λx Z=>?_,W⟩;have all:∀{l:List (List Key×V)}{m:List (List Key×Addr×Value)},KT H l m->∀x∈m,(tupleKind (dD P w)).is h x.1 x.2.1:=by
  intro l m q
  induction q with
  |nil=>intro x Z;exact nomatch Z
  | @cons p q ps R Y t X=>
   intro x Z;rcases aK.mp Z with e|Z
   .subst e;exact zA ok (by rw[<-Y.1];exact Y.2.1)
   .exact X x Z
 exact all r x Z
def ZQ (ok:HOk P w H h) (e:H a=some (.dT c)):c.length<=sizeLine/\(a==sysModules)=false /\
 ∃xs,KT H c xs/\h.DictOfH (tupleKind (dD P w)) a xs:=BL ok (.inl e)
end
def Ac(H:Hp)(a:Addr)(y:V)(r:Option V):Prop:=
 (∃kvs k,Rd H a (.dK kvs)/\y=kV k/\r=oK kvs k)\/∃kvs k b,Rd H a (.dT kvs)/\y = .ref b/\H b=some (.tup (k.map kV))/\r=oK kvs k
def Ls(H:Hp)(a:Addr)(y v:V)(H':Hp):Prop:=
 (∃kvs k,H a=some (.dK kvs)/\y=kV k/\kvs.length<sizeLine/\H'=upd H a (.dK (putK kvs k v))) \/
 ∃kvs k b,H a=some (.dT kvs)/\y = .ref b/\H b=some (.tup (k.map kV))/\kvs.length<sizeLine/\H'=upd H a (.dT (putK kvs k v))
def Ac.t{b:Addr}{kvs:List (List Key×V)}{k:List Key}(e:H a=some (.dT kvs))(J:H b=some (.tup (k.map kV))):Ac H a (.ref b) (oK kvs k):=.inr ⟨kvs,k,b,.inl e,rfl,J,rfl⟩
def Ls.k {k:Key} (e:H a=some (.dK c)) (hl:c.length<sizeLine):Ls H a (kV k) v (upd H a (.dK (putK c k v))):=.inl ⟨c,k,e,rfl,hl,rfl⟩
def Ls.t{b:Addr}{kvs:List (List Key×V)}{k:List Key}(e:H a=some (.dT kvs))(J:H b=some (.tup (k.map kV)))(hl:kvs.length<sizeLine):
 Ls H a (.ref b) v (upd H a (.dT (putK kvs k v))):=.inr ⟨kvs,k,b,e,rfl,J,hl,rfl⟩
section
variable{X:Cx}{σ:St}{H:Hp}{y v:V}{r:Value}{o:Option V}
def Inv.big(I:Inv X pins σ H s):sysModules<s.heap.objs.size:=by
 have h:=(I.mod.glob.keeps I.bk).lt;exact kI (by decide) h
def Lw (hu:A.units+1<cLine) (I:Inv X pins σ H s) (g:Ac H a y (some v)) (O:RelV y u) (h:∀J s',Inv X pins σ H s'->RelV v J->c J s') :
 wpAny (model X.prog X.w) A (getItem (.ref a) u) c E s:=by
 rcases g with⟨kvs,k,e,W,l⟩|⟨kvs,k,b,e,W,U,l⟩
 .subst W;obtain⟨z,hd,vs,rel,dd⟩:=wU I.hok e;obtain⟨J,hw,Z⟩:=vV.some_of (v:=v) (o:=valueAt vs k) (by rw[l];exact rel.val k);exact wpAny_getItem_of (zy O) dd.mapOf hw (h J _ (I.tok _) Z)
 .subst W
  cases(show u=c0 b from O);obtain⟨z,hd,xs,rel,dd⟩:=BL I.hok e;obtain⟨J,hw,Z⟩:=vV.some_of (v:=v) (o:=(atKey xs k).map (·.2)) (by rw[l];exact rel.val k);obtain⟨p,V,Y⟩:=Option.map_eq_some_iff.mp hw;refine wpAny_getItem_heap (bp hu) (zA I.hok U) dd V ?_;rw[Y];exact h J _ (I.tok _) Z
def ZR (O:A.units+1<cLine) (I:Inv X pins σ H s) (g:Ac H a y o) (J:RelV y u) (h:∀s',Inv X pins σ H s'->c (.bool o.isSome) s') :
 wpAny (model X.prog X.w) A (compareOp .In u (.ref a)) c E s:=by
 rcases g with⟨kvs,k,e,Z,l⟩|⟨kvs,k,b,e,Z,Y,l⟩
 .subst Z;obtain⟨z,hd,vs,rel,dd⟩:=wU I.hok e;refine wpAny_in_of (zy J) hd dd.mapOf ?_;rw[<-(rel.val k).isSome_eq,<-l];exact h _ (I.tok _)
 .subst Z
  cases(show u=c0 b from J);obtain⟨z,hd,xs,rel,dd⟩:=BL I.hok e;refine wpAny_in_heap (bp O) (zA I.hok Y) hd dd ?_;have q:=(rel.val k).isSome_eq;rw[mK]at q;rw[<-q,<-l];exact h _ (I.tok _)
def Tw{Q:Value->cB->Prop}(O:A.units+1<cLine)(I:Inv X pins σ H s)(g:Ac H a y o)(J:RelV y u)(h:∀s',Inv X pins σ H s'->Q (.bool (!o.isSome)) s'):
 wpAny (model X.prog X.w) A (compareOp .NotIn u (.ref a)) Q E s:=by
 rcases g with⟨kvs,k,e,Z,l⟩|⟨kvs,k,b,e,Z,Y,l⟩
 .subst Z;obtain⟨z,hd,vs,rel,dd⟩:=wU I.hok e;refine wpAny_notIn_of (zy J) hd dd.mapOf ?_;rw[<-(rel.val k).isSome_eq,<-l];exact h _ (I.tok _)
 .subst Z
  cases(show u=c0 b from J);obtain⟨z,hd,xs,rel,dd⟩:=BL I.hok e;refine wpAny_notIn_heap (bp O) (zA I.hok Y) hd dd ?_;have q:=(rel.val k).isSome_eq;rw[mK]at q;rw[<-q,<-l];exact h _ (I.tok _)
def xW (I:Inv X pins σ H s) (O:Mut (H a)) (Y:et a s.heap c) (Z:∃q,c.get? a=some q) (new:iB X.prog X.w (upd H a J) c a J) :
 Inv X pins σ (upd H a J) {s with heap:=c,toks:=t'}:=
 I.write (x:=a) (e:=a) O (.inl rfl) (λb q hb z=>(Y.2 b hb).trans z) Z new
def Iv (z:k.length<=sizeLine) (hd:(a==sysModules)=false) (rel:KV k m) (dd:c.DictOf (dD P w) a m) :
 iB P w H' c a (.dK k):=⟨z,hd,m,rel,dd⟩
def Lx(hu:A.units+1<cLine)(I:Inv X pins σ H s)(g:Ls H a y v H')(J:RelV y u)(O:RelV v r)(h:∀s',Inv X pins σ H' s'->Q () s'):
 wpAny (model X.prog X.w) A (setItem (.ref a) u r) Q E s:=by
 rcases g with⟨kvs,k,e,U,l,T⟩|⟨kvs,k,b,e,U,S,l,T⟩
 .subst U T;obtain⟨z,hd,vs,rel,dd⟩:=Ph I.hok e;have W:vs.length<=sizeLine:=by rwa[<-rel.length]
  have hl:(putK kvs k v).length<=sizeLine:=by have:=sZ kvs k v;lia
  refine wpAny_setItem_pairs (hsz:=W) (zy J) dd λh' Z V=>h _ ?_
  have R:∃q,h'.get? a=some q:=let⟨q,_,_,Y,_⟩:=Z;⟨q,Y⟩;exact xW I (by rw[e];exact dy) V R (Iv hl hd (rel.put k O) Z)
 .subst U T
  cases(show u=c0 b from J);obtain⟨z,hd,xs,rel,dd⟩:=ZQ I.hok e;have W:xs.length<=sizeLine:=by rwa[<-Paired.length rel]
  have hl:(putK kvs k v).length<=sizeLine:=by have:=sZ kvs k v;lia
  refine wpAny_setItem_heap (hsz:=W) (bp hu) (zA I.hok S) dd λh' Z V=>h _ ?_
  obtain⟨q,es,L,Y,h2,M,N,_,P⟩:=Z;refine xW I (by rw[e];exact dy) V ⟨q,Y⟩ ⟨hl,hd,_,(rel.put k S O).keeps λc ys K=>?_,q,es,L,Y,h2,M,N,P⟩;rwa[cO (Jw K e (λz=>nomatch z))]
end
section
variable{X:Cx}{σ:St}{H:Hp}{kvs:List (Key×V)}{k:Key}
end
def Xw(i:Expr):Prop:=∀Z Y,subscripted i false Z Y=operate [Z,Y] (getItem Z Y)
def Tz {value slice:Expr} {T id:String} {Q:Value->cB->Prop}
 (hl:typeLookup (.type T) "__getitem__"=pure (some (.builtin id))) (hs:Xw slice)
 (h:wpAny (model prog w) A (eval value env) (λo O=>wpAny (model prog w) A (eval slice env) (λi J=>J.TypeIs o T/\wpAny (model prog w) A (getItem o i) Q E J) E O) E s) :
 wpAny (model prog w) A (eval (.Subscript value slice pos) env) Q E s:=by
 refine cb (ai h (λo O W=>ai W (λi J Z=>?_) λ_ _ x=>x) λ_ _ x=>x);obtain⟨V,Z⟩:=Z;refine aa ?_;rw[getitemInPython_of_ne V.not_modules];refine aa (wpAny_specialOf V hl ?_);have fin:wpAny (model prog w) A (subscripted slice false o i) (λr Y=>wpAny (model prog w) A (letTemporaryGo value o r >>= λ_=>pure r) Q E Y) E J:=by
  rw[hs o i];exact wpAny_operating (ai Z (λr Y X=>aa (wpAny_letTemporaryGo (ag X))) λ_ _ x=>x)
 first
  |exact ag (aa fin)
  |exact aa (ag (aa fin))
  |exact aa fin
def Gx (I:Inv X c σ H s) (g:Ac H a m t):s.TypeIs (.ref a) "dict" := by
 rcases g with⟨kvs,k,e,_,_⟩|⟨kvs,k,b,e,_,_,_⟩
 .obtain⟨_,_,vs,_,dd⟩:=wU I.hok e;exact dd.typeIs
 .obtain⟨_,_,xs,_,dd⟩:=BL I.hok e;exact dd.typeIs
def ZS(td ty:TE):TE:=λσ H Q=>td σ H λx H1=>ty σ H1 λy H2=>∃a v,x = .ref a/\Ac H2 a y (some v)/\Q v H2
section
variable{X:Cx}{o i value:Expr}{td ty tv:TE}
def TF(J:X.A.units+1<cLine)(ho:PE X o td)(hi:PE X i ty)(O:Xw i):PE X (.Subscript o i pos) (ZS td ty):=by
 intro pins s σ H Q I h;refine Tz PySem.F.slot_dict_getitem.lookup O (thn (ho pins s σ H _ I h) λu s1 ⟨x,H1,T,V,q1⟩=>thn (hi pins s1 σ H1 _ T q1) λP s2 ⟨y,H2,Y,W,a,v,ex,g,q2⟩=>?_);subst ex;obtain rfl:u=c0 a:=V;exact⟨Gx Y g,Lw J Y g W λS R U Z=>⟨v,H2,U,Z,q2⟩⟩
end
def yE(h:dm)(hb:sysModules<h.objs.size):iB P w H (h.push {cls:=.type "dict", data:=.dict #[]}) h.objs.size (.dK []):=
 ⟨fK _,beq_eq_false_iff_ne.mpr (c9 (bN hb)),[],.nil,Heap.DictOf.new h⟩
section
variable{X:Cx}
end
def Iw:List (TE×TE)->St->Hp->(List (V×V)->Hp->Prop)->Prop
 |[],_,H,Q=>Q [] H
 | (tk,tv)::r,σ,H,Q=>tk σ H λx H1=>tv σ H1 λy H2=>Iw r σ H2 λps Z=>Q ((x,y)::ps) Z
abbrev VV:List (V×V)->List (Value×Value)->Prop:=Paired λp q=>RelV p.1 q.1/\RelV p.2 q.2
def PPs(X:Cx)(pos:Pos)(keys:List (Option Expr))(values:List Expr)(J:List (TE×TE)):Prop:=
 ∀(pins:List (Addr×Obj))(s:cB)(σ:St)(H:Hp)(Q:List (V×V)->Hp->Prop),Inv X pins σ H s->Iw J σ H Q ->
  wpAny (model X.prog X.w) X.A (evalPairs (pairTrees keys values X.env pos)) (λvs s'=>∃ps H',Inv X pins σ H' s'/\VV ps vs/\Q ps H') X.xe s
def TJ:PPs X pos [] [] []:=λpins s σ H Q I h=>pairTrees_nil_walk ⟨[],H,I,.nil,h⟩
def Pj{k v:Expr}{ks:List (Option Expr)}{vs:List Expr}{tk tv:TE}{J:List (TE×TE)}(hk:PE X k tk)(O:PE X v tv)(hr:PPs X pos ks vs J):
 PPs X pos (some k::ks) (v::vs) ((tk,tv)::J):=λpins s σ H Q I h=>
 pairTrees_cons_walk (thn (hk pins s σ H _ I h) λu s1 ⟨x,H1,U,Y,q1⟩=>thn (O pins s1 σ H1 _ U q1) λS s2 ⟨y,H2,V,Z,q2⟩=>
  thn (hr pins s2 σ H2 _ V q2) λws R ⟨ps,T,W,rel,q3⟩=>⟨(x,y)::ps,T,W,.cons ⟨Y,Z⟩ rel,q3⟩)
def zB(kvs more:List (Key×V)):List (Key×V):=more.foldl (λZ Y=>putK Z Y.1 Y.2) kvs
theorem KV.merge:∀{more:List (Key×V)}{J:List (Key×Value)}{kvs:List (Key×V)}{vs:List (Key×Value)},KV more J->KV kvs vs->KV (zB kvs more) (merged vs J):=by
 intro more J kvs vs r
 induction r generalizing kvs vs with
 |nil=>intro q;exact q
 | @cons p q ps Y h t Z=>
  intro r0;have e:KV (putK kvs p.1 p.2) (stored vs q.1 q.2):=by
   have:=r0.put p.1 h.2;rwa[<-h.1]
  exact Z e
theorem uy:∀(more kvs:List (Key×V)),(zB kvs more).length<=kvs.length+more.length
 |[],kvs=>by show kvs.length<=kvs.length+0;lia
 |p::r,kvs=>by
  have h1:=uy r (putK kvs p.1 p.2);have h2:=sZ kvs p.1 p.2;show(zB (putK kvs p.1 p.2) r).length<=_;rw[bI];lia
theorem zE{P:cN}{w:df}:∀{kvs:List (Key×V)}{ws:List (Value×Value)},VV (kvs.map λO=>(kV O.1,O.2)) ws->∃J,Carries (dD P w) ws J/\KV kvs J
 |[],_,r=>by rw[qx]at r;cases r;exact⟨[],dy,.nil⟩
 |p::kvs,_,r=>by
  rw[bJ]at r
  cases r with
  | @cons a b as bs h t=>
   obtain⟨J,c,q⟩:=zE (P:=P) (w:=w) t;obtain⟨b1,b2⟩:=b;exact⟨(p.1,b2)::J,⟨zy h.1,rfl,c⟩,.cons ⟨rfl,h.2⟩ q⟩
def ZV(J:List (TE×TE)):TE:=λσ H Q=>∀p,H p=none->Iw J σ (upd H p (.dK [])) λps H2=>H2 p=some (.dK [])/\∃kvs:List (Key×V),ps=kvs.map (λZ=>(kV Z.1,Z.2))/\kvs.length<=15/\Q (.ref p) (upd H2 p (.dK (zB [] kvs)))
def TQ{keys:List (Option Expr)}{values:List Expr}{J:List (TE×TE)}(h:PPs X pos keys values J)(O:keys.all (·.isSome)=true)(hl:keys.length=values.length)(h0:keys≠[])
 (Y:keys.length<=15):PE X (.Dict keys values pos) (ZV J):=by
 intro pins s σ H Q I q;have hn:=I.hok.fresh (bF s.heap.objs.size);have K:=I.laid (a:=s.heap.objs.size) (o:=.dK []) (h':=s.heap.push {cls:=.type "dict", data:=.dict #[]}) (t':=s.toks) (λ_ _ q=>ae _ q) (bF _) (yE s.heap I.big);refine wpAny_Dict_walk (knd:=dD X.prog X.w) O hl h0 Y (thn (h pins _ σ _ _ K (q _ hn)) λws s2 ⟨ps,H2,W,rel,e,kvs,L,lk,q2⟩=>?_);subst L;obtain⟨U,c,T⟩:=zE (P:=X.prog) (w:=X.w) rel;obtain⟨z,hd,V,r0,dd⟩:=Ph W.hok e
 cases r0;refine⟨U,c,dd,λh' Z R=>⟨.ref s.heap.objs.size,_,?_,rfl,q2⟩⟩;have S:(zB [] kvs).length<=sizeLine:=by
  have h1:=uy kvs [];rw[dG]at h1;rw[sizeLine_eq];lia
 have M:∃q,h'.get? s.heap.objs.size=some q:=let⟨q,_,_,N,_⟩:=Z;⟨q,N⟩;exact xW W (by rw[e];exact dy) R M (Iv S hd (T.merge .nil) Z)
structure M1(X:Cx)(o:Expr)(m:Str)(apos:Pos)(e:Expr)(cpos:Pos):Prop where
 base:attributeBase o m X.env (eval o X.env)=eval o X.env
 few:((backTo cpos (starEach [e] X.env)).all (λx=>!x.1)&&(backToKw cpos (keywordEach [] X.env)).all (λx=>x.1.isSome)
  && decide (([e]:List Expr).length+([]:List ef).length+(if([]:List ef).isEmpty then 0 else 1)<30))=true
 line:(apos.endLine==cpos.line)=true
 trees:backTo cpos (starEach [e] X.env)=[(false,eval e X.env)]
structure M2(X:Cx)(o:Expr)(m:Str)(apos:Pos)(e f:Expr)(cpos:Pos):Prop where
 base:attributeBase o m X.env (eval o X.env)=eval o X.env
 few:((backTo cpos (starEach [e,f] X.env)).all (λx=>!x.1)&&(backToKw cpos (keywordEach [] X.env)).all (λx=>x.1.isSome)
  && decide (([e,f]:List Expr).length+([]:List ef).length+(if([]:List ef).isEmpty then 0 else 1)<30))=true
 line:(apos.endLine==cpos.line)=true
 trees:backTo cpos (starEach [e,f] X.env)=[(false,eval e X.env),(false,eval f X.env)]
def IsD(H:Hp)(a:Addr):Prop:=(∃kvs,Rd H a (.dK kvs))\/∃kvs,Rd H a (.dT kvs)
def Xx (I:Inv X c σ H s) (d:IsD H a) :
 s.TypeIs (.ref a) "dict"/\(∀b,c0 a = .ref b->∃J,s.heap.get? b=some J/\J.dict=none)/\(a==sysModules)=false:=by
 rcases d with⟨kvs,e⟩|⟨kvs,e⟩
 .obtain⟨_,hd,vs,_,dd⟩:=wU I.hok e;refine⟨dd.typeIs,λb q=>?_,hd⟩
  cases q;obtain⟨J,_,_,h1,h2,_⟩:=dd;exact⟨J,h1,h2.2.1⟩
 .obtain⟨_,hd,xs,_,dd⟩:=BL I.hok e;refine⟨dd.typeIs,λb q=>?_,hd⟩
  cases q;obtain⟨J,_,_,h1,h2,_⟩:=dd;exact⟨J,h1,h2.2.1⟩
section
variable{X:Cx}{σ:St}{H:Hp}{y d:V}{r:Value}{o:Option V}
end
section
variable{X:Cx}{o f:Expr}{td ty tx:TE}
end
section
variable{X:Cx}{σ:St}{H:Hp}{kvs:List (Key×V)}
end
section
variable{X:Cx}{σ:St}{H:Hp}{y:V}
end
section
variable{κ:Type}[DecidableEq κ]
end
end L2
namespace XK
open L2 My D3
section
variable{H:Hp}
def TX (s:Same H H') (h:L2.Rd H a c):L2.Rd H' a c:=by
 rcases h with h|⟨o,h⟩
 .exact .inl (s _ _ h)
 .exact .inr ⟨o,s _ _ h⟩
end
section
variable{X:Cx}{fl:List Fl}{a b c:Expr}{f fa fk:FE}
def ZW:R2:=λx y H Q=>∃p o,y = .ref p/\Ac H p x o/\Q (.bl o.isSome) H
def J6:R2:=λx y H Q=>∃p o,y = .ref p/\Ac H p x o/\Q (.bl (!o.isSome)) H
def Xy(J:X.A.units+64<cLine):OpR X (compareOp .In) ZW:=by
 intro pins s σ H x y v u Q I Y Z h;obtain⟨p,o,rfl,g,q⟩:=h;obtain rfl:u=c0 p:=Z;exact ZR (by lia) I g Y λs' W=>⟨.bl o.isSome,H,W,rfl,q⟩
def BP(J:X.A.units+64<cLine):OpR X (compareOp .NotIn) J6:=by
 intro pins s σ H x y v u Q I Y Z h;obtain⟨p,o,rfl,g,q⟩:=h;obtain rfl:u=c0 p:=Z;exact Tw (by lia) I g Y λs' W=>⟨.bl (!o.isSome),H,W,rfl,q⟩
theorem J7:∀(l:List Value)(ns:List Int),l.length=ns.length->(∀(j:Nat)(v:Value),l[j]? = some v->∃n t,ns[j]? = some n/\v=ee n t)->ez l ns
 |[],[],_,_=>.nil
 |[],_::_,h,_=>by simp at h
 |_::_,[],h,_=>by simp at h
 |v::l,n::ns,h,g=>by
  obtain⟨Y,t,e1,e2⟩:=g 0 v rfl
  cases e1;subst e2;exact .cons _ _ (J7 l ns (by simpa using h) λj v Z=>by simpa using g (j+1) v (by simpa using Z))
end
end XK
namespace XK
open L2 My D3
def hu1(h:n+64<cLine):n+1<cLine:=by lia
section
variable{fl:List Fl}
end
def ZX:V->V->V->Hp->(Hp->Prop)->Prop:=λo i v H Q=>∃p kvs k,o = .ref p/\i=kV k/\H p=some (.dK kvs)/\kvs.length<sizeLine/\Q (upd H p (.dK (putK kvs k v)))
section
variable{X:Cx}{fl:List Fl}{a b c:Expr}{f fa fk:FE}
def Pq(J:X.A.units+1<cLine):Ww X ZX:=by
 intro pins s σ H o i v T S u Q I Y W Z h;obtain⟨p,kvs,k,rfl,rfl,V,hl,q⟩:=h
 cases Y;exact Lx J I (Ls.k V hl) W Z λs' U=>⟨_,U,q⟩
def Z0(K:PySem.W.Frag):R2:=λx y H Q=>W0 K x y H Q\/∃ds,RA K ok1 true H x (.list ds)/\RA K ok1 true H y (.list ds)/\(d5 ds).depth<=64/\Gg ds=true/\Q (.bl false) H
def Pr(J:X.A.units+64<cLine):OpR X (compareOp .NotEq) (Z0 X.K):=by
 intro pins s σ H x y v u Q I V W h;rcases h with h|⟨ds,r1,r2,hd,hn,q⟩
 .exact rY J pins s σ H x y v u Q I V W h
 .obtain⟨a,xs,rfl,s1,q1⟩:=r1.lstE;obtain⟨b,ys,rfl,s2,q2⟩:=r2.lstE
  cases V;cases W;obtain⟨its,Y,p1,S⟩:=I.list s1;obtain⟨its2,Z,p2,T⟩:=I.list s2;have U:(d5 ds).depth=c8 ds+1:=by simp[c_]
  have l1:its.length=ds.length:=by rw[<-Y.length,q1.length]
  have l2:its2.length=ds.length:=by rw[<-Z.length,q2.length]
  have R:=SeqAt.RcNeAt.lists (A:=X.A) (e:=λ_=>true) p1.isList p2.isList (by rw[bG,bG,l1,l2]) (by lia) (λj g1 g2=>vI I ds q1 q2 Y Z X.A.in1 (by simp only[bP];lia) hn j (by simpa using g1) (by simpa using g2));rw[show(!(aC its.toArray.size).all (λ_=>true))=false by simp]at R;exact R _ _ _ _ ⟨.bl false,H,I,rfl,q⟩
def V2:BrO K (Z0 K) xg:=by
 intro H x y dx X d Q Y Z e q;unfold xg at e;by_cases z:(cK dx&&cK X)=true
 .rw[if_pos z]at e
  cases e;rw[aV]at z;exact .inl ⟨dx,X,Y.rd (af z.1),Z.rd (af z.2),z.1,z.2,q _ rfl (.bl _)⟩
 .rw[if_neg z]at e;split at e
  .next c=>
   obtain⟨T,U,V,W⟩:=c;subst T
   cases e
   cases dx<;>first|(cases U;done)|skip
   exact .inr ⟨_,Y,Z,V,W,q _ rfl (.bl _)⟩
  .cases e
end
end XK
namespace D3
def pF:D->D->Option D:=λx y=>match x,y with
 | .list l,.bool k=>(nY l).bind λbs=>some (.int (bs.count k:Nat))
 |_,_=>none
noncomputable def TY:List D->Option D:=λl=>match l with
 |[.int i]=>if i.natAbs.log2<1920 then some (.str (dQ (toString i)))else none
 |_=>none
end D3
namespace XN
open L2 My D3
section
variable{X:Cx}
theorem BR:∀{bs:List Bool}{its:List Value},Vals (bs.map V.bl) its->its=bs.map dE
 |[],_,.nil=>rfl
 |b::r,_,.cons h t=>by
  cases h;rw[BR t];rfl
def Pu:MtR X "list.count" (λx xs H Q=>∃(p:Addr)(bs:List Bool)(k:Bool),x = .ref p/\xs=[.bl k]/\SqL X.K H p (bs.map V.bl)/\Q (.int (bs.count k:Nat)) H):=by
 intro pins s σ H x xs v us Q I T S h;obtain⟨p,bs,k,rfl,rfl,O,q⟩:=h
 cases T;obtain⟨u,rfl,R⟩:=vals1 S
 cases R;obtain⟨its,Z,pl,N⟩:=I.list O;obtain rfl:=BR Z;obtain⟨⟨cls,dd,data,sl⟩,W,U,n,hd⟩:=id pl.isList;simp only at U hd;subst U hd;have Y:∀bs:List Bool,(bs.map dE).countP (isBoolOf k)=bs.count k:=λbs=>by
  rw[List.countP_map];rfl
 refine b9 PySem.F.slot_list_count ⟨_,W,rfl⟩ PySem.F.entry_list_count (PySem.F.args_list_count_2 _ _)
  (PySem.SeqAt.list_countAt p (bs.map dE).toArray n dd sl (.bool k) (isBoolOf k)) ⟨W,λy P=>?_,?_⟩
 .obtain⟨b,_,rfl⟩:=cF.mp (List.mem_toArray.mp P);exact PySem.SeqAt.EqAt.bool_bool b k
 .refine⟨.int (bs.count k:Nat),H,I.tok _,⟨s.toks,?_⟩,q⟩;rw[show(bs.map dE).toArray.toList=bs.map dE from rfl,Y]
def Dk{a:Expr}{f fe:FE}(h:DE X fl .P a f)(h2:DE X fl .P e fe)
 (Y:attributeBase a "count" X.env (eval a X.env)=eval a X.env:=by rfl)
 (hfew:((backTo cpos (starEach [e] X.env)).all (λx=>!x.1)&&(backToKw cpos (keywordEach [] X.env)).all (λx=>x.1.isSome)
  && decide (([e]:List Expr).length+([]:List ef).length+(if([]:List ef).isEmpty then 0 else 1)<30))=true:=by rfl)
 (O:(apos.endLine==cpos.line)=true:=by rfl) (Z:starEach [e] X.env=(false,eval e X.env)::starEach [] X.env:=by exact fZ rfl) (J:(backTo cpos (starEach [] X.env)).any (·.1)=false:=by rfl) :
 DE X fl .FC (.Call (.Attribute a "count" apos) [e] [] cpos) (dOp pF f fe):=
 PE.imp (Nv PySem.F.plainAttrs_list PySem.F.slot_list_count PySem.F.type_list_count Pu h (iV h2 nR Z) Y hfew O Z J) λσ H Q M=>by
 refine D3.ex4 M λG ow δ d R L q=>?_
 refine D3.ex1 (bind1 L) λx e1 T=>?_
 refine D3.ex1 (bind1 T) λy e2 e3=>?_
 unfold pF at e3;split at e3
 .next l k=>
  cases e4:nY l with
  |none=>rw[e4]at e3;cases e3
  |some bs=>
   rw[e4,aG]at e3
   cases e3;refine⟨G,ow,δ,_,R,e1,λv H1 s1 r1=>?_⟩;have W:=r1;obtain⟨p,ys,rfl,N,I⟩:=r1.lstE;refine⟨.inl ⟨rfl,_,N⟩,G,ow,δ,_,R.grow s1,e2,λu H2 s2 r2=>?_⟩;obtain rfl:=RA.blE r2;obtain⟨p',S,K,V,U⟩:=(RA.same s2 W).lstE
   cases K;obtain rfl:=wF e4 U;exact⟨p,bs,k,rfl,rfl,V,q _ H2 (s1.trans s2) (.inl ⟨rfl,.int _⟩)⟩
 .cases e3
def Ly:nA X (.type "str") (λxs H Q=>∃i:Int,xs=[.int i]/\i.natAbs.log2<1920/\Q (.str (dQ (toString i))) H):=by
 intro pins s σ H xs us Q I r h;obtain⟨i,rfl,hl,q⟩:=h;obtain⟨u,rfl,t,rfl⟩:=vals1 r;exact PySem.P.str_of_int hl ⟨.str _,H,I.tok _,⟨_,rfl⟩,q⟩
def T3(ha:DB X fl .P [e] fa)(O:Gl X "str")(hm:X.mg "str"=none)
 (he:starEach [e] X.env=(false,eval e X.env)::starEach [] X.env:=by exact fZ rfl) (J:(backTo pos (starEach [] X.env)).any (·.1)=false:=by exact sH rfl):DE X fl .FC (.Call (.Name "str" p) [e] [] pos) (dCall TY fa):=
 PE.imp (vZ Ly O hm boot_str ha (by decide) (by decide) he J) λσ H Q h=>by
 refine D3.ex4 h λG ow δ d R Y q=>?_
 refine D3.ex1 (bind1 Y) λds e1 e2=>?_
 refine⟨G,ow,δ,ds,R,e1,λvs H' s Z=>?_⟩;unfold TY at e2;split at e2
 .next i=>
  by_cases hl:i.natAbs.log2<1920
  .rw[if_pos hl]at e2
   cases e2
   cases Z with
   |cons r1 r2=>
    cases r2;obtain rfl:=RA.intE r1;exact⟨i,rfl,hl,q _ H' s (.inl ⟨rfl,.str _⟩)⟩
  .rw[if_neg hl]at e2;cases e2
 .cases e2
end
end XN
namespace XB
open L2 My D3 XK
def nIs:Option Key->Value->Bool
 |none,.none=>true
 |none,_=>false
 |some k,v=>qe k v
def nH(w:df):Option Key->Int
 |none=>0xFCA86420
 |some k=>Y5 w k
def nJ{v:Value}(h:nIs none v=true):v = .none:=by
 cases v<;>first|rfl|cases h
def Lz{Q:Int->cB->Prop}(h:Q 0xFCA86420 {s with toks:=s.toks+1}):wpAny (model P w) A (pyHash .none) Q E s:=
 PySem.W.pyHash_slot (T := "NoneType") rfl F.slot_NoneType_hash F.entry_NoneType_hash (F.args_NoneType_hash_1 _) (beq_builtin_none _) (.inl rfl) (aa (ag (aa (wpAny_mkInt (ag ⟨_,_,rfl,h⟩)))))
def T4{Q:Bool->cB->Prop}(h:Q true s):wpAny (model P w) A (eqBool .none .none) Q E s:=by
 refine bg ?_;refine wpAny_ite_split (λ_=>aa (wpAny_rule (ag h))) (λz=>absurd rfl z)
def V3(P:cN)(w:df):PySem.KeyKind P w (Option Key) where
 is:=nIs
 hash:=nH w
 inj:=λv a b ha hb=>by
  cases a with
  |none=>
   cases b with
   |none=>rfl
   |some k=>
    rw[nJ ha]at hb;rcases eV (show qe k .none=true from hb)with⟨i,t,_,e⟩|⟨x,t,_,e⟩<;>cases e
  |some k=>
   cases b with
   |none=>
    rw[nJ hb]at ha;rcases eV (show qe k .none=true from ha)with⟨i,t,_,e⟩|⟨x,t,_,e⟩<;>cases e
   |some l=>rw[(dD P w).inj v k l ha hb]
 byValue:=λk v h=>by
  cases k with
  |none=>rw[nJ h];rfl
  |some k=>exact(dD P w).byValue k v h
 pyHash:=λ{A E s k v Q} h q=>by
  cases k with
  |none=>rw[nJ h];exact Lz q
  |some k=>exact(dD P w).pyHash (k:=k) h q
 eqBool:=λ{A E s a b u v Q} ha hb q=>by
  cases a with
  |none=>
   rw[nJ ha]
   cases b with
   |none=>rw[nJ hb];exact T4 q
   |some k=>
    rcases eV (show qe k v=true from hb)with⟨i,t,_,rfl⟩|⟨x,t,_,rfl⟩
    .exact PySem.SeqAt.EqAt.none_int i t P w E Q q
    .exact PySem.SeqAt.EqAt.none_str x t P w E Q q
  |some k=>
   cases b with
   |none=>
    rw[nJ hb];rcases eV (show qe k u=true from ha)with⟨i,t,_,rfl⟩|⟨x,t,_,rfl⟩
    .exact PySem.SeqAt.EqAt.int_none i t P w E Q q
    .exact PySem.SeqAt.EqAt.str_none x t P w E Q q
   |some l=>
    have e:decide (some k=some l)=decide (k=l):=by simp
    exact(dD P w).eqBool (a:=k) (b:=l) ha hb (e▸q)
 «strs»:=λk x t v h=>by
  cases k with
  |none=>cases h
  |some k=>exact(dD P w).«strs» k x t v h
def map_none{vs:List (Key×Value)}(d:h.DictOf (dD P w) a vs):h.MapOf (V3 P w) a λk=>match k with|none=>none|some k=>valueAt vs k:=by
 obtain⟨o,es,V,h1,h2,W,Y,X⟩:=d.mapOf;refine⟨o,es,V,h1,h2,W,λe Z=>?_,λk=>?_⟩
 .obtain⟨k,k1,k2⟩:=Y e Z;exact⟨some k,k1,k2⟩
 .cases k with
  |some k=>exact X k
  |none=>
   unfold findBy;rw[Option.map_eq_none_iff,Array.find?_eq_none];intro e Z z;obtain⟨k,k1,_⟩:=Y e Z;rw[nJ z]at k1;rcases eV (show qe k .none=true from k1)with⟨i,t,_,e⟩|⟨x,t,_,e⟩<;>cases e
def LC{σ:L2.St}{kvs:List (Key×V)}{Q:Value->cB->Prop}(I:Inv X pins σ H s)(g:Rd H a (.dK kvs))(h:∀s',Inv X pins σ H s'->Q (.bool false) s'):
 wpAny (model X.prog X.w) A (compareOp .In .none (.ref a)) Q E s:=by
 obtain⟨z,hd,vs,rel,dd⟩:=wU I.hok g;exact wpAny_in_of (knd:=V3 X.prog X.w) (k:=none) rfl hd (map_none dd) (h _ (I.tok _))
def dbI(S:List Int):List (Key×V):=S.map λi=>(.inl i,.bl true)
def Z1:R2:=λx y H Q=>∃p kvs,y = .ref p/\Rd H p (.dK kvs)/\((x = .non/\Q (.bl false) H)\/∃k,x=kV k/\Q (.bl (oK kvs k).isSome) H)
def Px(J:X.A.units+64<cLine):OpR X (compareOp .In) Z1:=by
 intro pins s σ H x y v u Q I Y W h;obtain⟨p,kvs,rfl,g,h⟩:=h;obtain rfl:u=c0 p:=W;rcases h with⟨rfl,q⟩|⟨k,rfl,q⟩
 .obtain rfl:v=cS:=Y;exact LC I g λs' Z=>⟨.bl false,H,Z,rfl,q⟩
 .exact ZR (by lia) I (.inl ⟨kvs,k,g,rfl,rfl⟩) Y λs' Z=>⟨.bl (oK kvs k).isSome,H,Z,rfl,q⟩
theorem Py:∀{kvs:List (D×D)}{S:List Int},bsD kvs=some S->dk0 kvs=dbI S
 |[],S,h=>by cases h;rfl
 | (a,b)::r,S,h=>by
  unfold bsD at h;split at h
  .next e=>cases e
  .next i Z e=>
   cases e
   cases e3:bsD r with
   |none=>rw[e3]at h;cases h
   |some Y=>
    rw[e3]at h
    cases h;rw[dk0,Py e3];rfl
  .cases h
theorem Dm:∀{kvs:List (D×D)}{S:List Int},bsD kvs=some S->Aa kvs=true
 |[],_,_=>rfl
 | (a,b)::r,S,h=>by
  unfold bsD at h;split at h
  .next e=>cases e
  .next e=>
   cases e
   cases e3:bsD r with
   |none=>rw[e3]at h;cases h
   |some S=>exact(show Aa r=true from Dm e3)
  .cases h
theorem Iz{S:List Int}(h:bsD kvs=some S):dh0 kvs = .dK (dbI S):=by
 rw[<-Py h]
 cases kvs with
 |nil=>rfl
 |cons q r=>
  obtain⟨k,v⟩:=q
  cases k with
  |int i=>rfl
  |_=>unfold bsD at h;cases h
theorem T5{ok:Ok}{x:D}{S:List Int}(e:Lq x=some S)(r:RA K ok pl H v x):∃a,v = .ref a/\L2.Rd H a (.dK (dbI S)):=by
 cases x with
 |dict kvs=>
  obtain⟨a,rfl,h⟩:=r.dicE (Dm e);rw[Iz e]at h;exact⟨a,rfl,h⟩
 |_=>cases e
theorem Pz:∀(S:List Int)(i:Int),(oK (dbI S) (dA i)).isSome=decide (i∈S)
 |[],i=>rfl
 |q::S,i=>by
  unfold dbI;rw[bJ];by_cases h:q=i
  .subst h;rw[sX rfl];simp
  .rw[sY (λz=>h (by injection z))];have:=Pz S i;unfold dbI at this;rw[this];have h2:¬i=q:=λz=>h z.symm
   simp[h2]
def Xz(S:List Int)(i:Int):putK (dbI S) (dA i) (.bl true)=dbI (xu S i):=by
 unfold putK xu dbI;have e:((S.map λi=>((dA i,V.bl true):Key×V)).any λq=>decide (q.1=dA i))=decide (i∈S):=by
  induction S with
  |nil=>rfl
  |cons q S Z=>
   rw[bJ,lB,Z];by_cases h:q=i
   .subst h;simp
   .have h2:¬i=q:=λz=>h z.symm
    simp[h2,h]
 rw[e];by_cases h:i∈S
 .rw[dTr h,if_pos rfl,if_pos h,eZ];refine gY λq _=>?_
  show(if(dA q:Key)=dA i then((dA q:Key),V.bl true)else(dA q,V.bl true))=_;split<;>rfl
 .rw[dFa h,if_neg dZ,if_neg h,fX];rfl
def V4:BrO K Z1 xq:=by
 intro H x y dx W d Q Z X e q;refine D3.ex1 (bind1 e) λS e4 e5=>?_
 obtain⟨p,rfl,Y⟩:=T5 e4 X;split at e5
 .next i=>
  cases e5;obtain rfl:=RA.intE Z;refine⟨p,_,rfl,Y,.inr ⟨.inl i,rfl,?_⟩⟩;rw[Pz];exact q _ rfl (.bl _)
 .cases e5;obtain rfl:=RA.nonE Z;exact⟨p,_,rfl,Y,.inl ⟨rfl,q _ rfl (.bl _)⟩⟩
 .cases e5
section
variable{fl:List Fl}
theorem PB{σ:L2.St}{x:D}{S:List Int}(R:Rel K fl G ow σ H δ)(O:fl[i]? = some .N)(hx:ak i δ=some x)(J:Lq x=some S):
 ∃a,σ[i]? = some (some (.ref a))/\H a=some (.dK (dbI S))/\∀H',Same H H'->∀Y,∃ow',Rel K fl G ow' σ (upd H' a (.dK (dbI Y))) (δ.set i (some (.d (dsB Y)))):=by
 have e:=oE hx;have hi:i<δ.length:=by
  rcases mH i δ.length with z|z
  .exact z
  .rw[bK z]at e;cases e
 obtain⟨v,h1,h2,V⟩:=R.nr i x (by rw[O];rfl) e;generalize X:ow.n i=as at h2 V
 cases h2 with
 |dic ha W=>
  rename_i a u kvs;rw[W.old (Dm J)]at ha;have Z:=ha;rw[Iz J]at Z;refine⟨a,h1,Z,λH' s Y=>?_⟩;refine(R.grow s).mutN (as:=[a]) O hi (by rw[X];exact qb _) (s _ _ ha) h1 ?_ (λb hb=>by rwa[X]) (cI.mpr ⟨gq,.nil⟩);refine .dic dH (.inl ⟨Dm (J5 Y),?_⟩);rw[Iz (J5 Y)]
 |non=>cases J
 |bl _=>cases J
 |int _=>cases J
 |str _=>cases J
 |lst _ _=>cases J
 |tup _ _=>cases J
end
section
variable{X:Cx}{fl:List Fl}{a b c:Expr}{f fa fk:FE}
def J8(hu:X.A.units+1<cLine){i:Nat}{x:Str}{vpos spos:Pos}(hfl:fl[i]? = some .N)(he:PE X e (tC (.bl true)))(hk:DE X fl .P ke fk)(hN:X.N[i]? = some x)(hv:Vis X.env.scope x:=by first|exact Or.inl rfl|exact Or.inr (Or.inl rfl)|exact Or.inr (Or.inr rfl))(hd:(x==("__debug__":Str))=false:=by decide)
 (hcd:(x==("__classdict__":Str))=false:=by decide) (ha:∀v,assign (.Subscript (.Name x vpos) ke spos) X.env v=(do
  let J <-holding [v] (eval (.Name x vpos) X.env)
  let O <-holding [v,J] (eval ke X.env)
  standAt spos
  holding [v,J,O] (setItem J O v)
  release [v,J,O] []):=by intro _;rfl)
 (hs:swapsWithSole [.Subscript (.Name x vpos) ke spos] e pos.line X.env=pure false:=by rfl) (hw:swappedStores [.Subscript (.Name x vpos) ke spos] e X.env=pure none:=by rfl)
 (h1:(assignEach [.Subscript (.Name x vpos) ke spos] X.env).map (·.2)=[assign (.Subscript (.Name x vpos) ke spos) X.env]:=by rfl) :
 DS1 X fl (.Assign [.Subscript (.Name x vpos) ke spos] e pos) (zm i fk):=
 PS.imp (Ng he (Nf (mY hN hv hd hcd) hk (Pq hu) ha) hs hw h1) λDn σ H h=>by
 refine D3.ex4 h λG ow δ o R Z q=>?_
 refine D3.ex1 (bind1 Z) λy e1 Z=>?_
 refine D3.ex1 (bind1 Z) λz e2 Z=>?_
 refine D3.ex1 (bind1 Z) λS e3 Z=>?_
 split at Z
 case h_2=>cases Z
 next k _=>
 by_cases W:S.length<1000000
 case neg=>rw[if_neg W]at Z;cases Z
 rw[if_pos W]at Z
 cases Z;obtain⟨p,h1,h2,V⟩:=PB R hfl e1 e3;refine⟨_,h1,G,ow,δ,_,R,e2,λu H2 s2 r2=>?_⟩;obtain rfl:=RA.intE r2;obtain⟨Y,R'⟩:=V H2 s2 (xu S k);refine⟨p,dbI S,.inl k,rfl,rfl,s2 _ _ h2,by unfold dbI;rw[au];exact kI W (by decide),?_⟩;rw[Xz];exact q Y σ _ R'
end
end XB
namespace XD
open L2 My D3 XK
theorem J9:∀ds:List D,scD ds=scs ds
 |[]=>rfl
 | .int _::r=>J9 r
 | .none::r=>J9 r
 | .bool _::_=>rfl
 | .str _::_=>rfl
 | .list _::_=>rfl
 | .tuple _::_=>rfl
 | .dict _::_=>rfl
theorem IK{ok:Ok}:∀{ds:List D},scs ds=true->RAs K ok pl H (ds.map scV) ds
 |[],_=>.nil
 | .int i::r,h=>.cons (.int i) (IK h)
 | .none::r,h=>.cons .non (IK h)
theorem IV{ok:Ok}:∀{ds:List D}{xs:List V},scs ds=true->RAs K ok pl H xs ds->xs=ds.map scV
 |[],_,_,.nil=>rfl
 | .int i::r,_::_,h,.cons a q=>by
  have h1:=RA.intE a;have h2:=IV (show scs r=true from h) q;subst h1 h2;rfl
 | .none::r,_::_,h,.cons a q=>by
  have h1:=RA.nonE a;have h2:=IV (show scs r=true from h) q;subst h1 h2;rfl
theorem Dp:∀{ds:List D},scs ds=true->flats ds=true
 |[],_=>rfl
 | .int i::r,h=>by rw[flats,aV];exact⟨rfl,Dp h⟩
 | .none::r,h=>by rw[flats,aV];exact⟨rfl,Dp h⟩
theorem T6(h:tvD d=true):flat d=true:=by
 cases d with
 |none=>rfl
 |tuple ds=>
  have:=Dp (show scs ds=true by rwa[<-J9]);simpa[flat]using this
 |_=>cases h
def Z2{ok:Ok}(t:TV H v d):RA K ok pl H v d:=by
 rcases t with⟨rfl,rfl⟩|⟨b,ds,rfl,rfl,h1,h2⟩
 .exact .non
 .exact .tup h1 (IK h2)
theorem Z4{ok:Ok}(h:tvD d=true)(r:RA K ok pl H v d):TV H v d:=by
 cases d with
 |none=>exact .inl ⟨RA.nonE r,rfl⟩
 |tuple ds=>
  have Z:scs ds=true:=by rwa[<-J9]
  obtain⟨a,xs,rfl,h1,h2⟩:=r.tupE0;rw[IV Z h2]at h1;exact .inr ⟨a,ds,rfl,rfl,h1,Z⟩
 |_=>cases h
def V5{u:HO}(g:DH H u (tvP S))(h:tvA S=true):∃ks,u = .dK ks/\TVs H ks (tvP S):=by
 rcases g with⟨g1,g2⟩|g|g
 .cases S with
  |nil=>exact⟨[],g2,.nil⟩
  |cons q S=>
   exfalso
   rw[tvA,pU,aV]at h;obtain⟨i,d⟩:=q;have hd:=h.1
   cases d<;>first|(cases hd;done)|exact absurd g1 dZ
 .exact g
 .obtain⟨k,ks,_,g⟩:=g
  cases S with
  |nil=>cases g
  |cons q S=>cases g
theorem xX{ok:Ok}{x:D}(e:xG x=some S)(r:RA K ok pl H v x):∃a ks,v = .ref a/\L2.Rd H a (.dK ks)/\TVs H ks (tvP S):=by
 cases x with
 |dict kvs=>
  obtain⟨h1,rfl⟩:=vL e;obtain⟨a,u,rfl,h2,g⟩:=r.dicU;obtain⟨ks,rfl,t⟩:=V5 g h1;exact⟨a,ks,rfl,h2,t⟩
 |_=>cases e
theorem Dq:∀{S:List (Int×D)}{ks:List (Key×V)}(i:Int),TVs H ks (tvP S)->(gC S i=none/\oK ks (dA i)=none)\/∃d v,gC S i=some d/\oK ks (dA i)=some v/\TV H v d
 |[],_,i,h=>by cases h;exact .inl ⟨rfl,rfl⟩
 |q::S,_,i,h=>by
  cases h with
  |cons t r=>
   rename_i v r0;by_cases e:q.1=i
   .refine .inr ⟨q.2,v,?_,sX (by rw[e]),t⟩;simp[gC,e]
   .rw[sY (λz=>e (by injection z))];have:gC (q::S) i=gC S i:=by simp[gC,e]
    rw[this];exact Dq i r
theorem Gy{k:Int}(t:TV H v d):∀{S:List (Int×D)}{ks:List (Key×V)},TVs H ks (tvP S)->TVs H (ks++[(.inl k,v)]) (tvP (S++[(k,d)]))
 |[],_,h=>by cases h;exact .cons t .nil
 |q::S,_,h=>by
  cases h with
  |cons t' r=>exact .cons t' (Gy t r)
def Dr{ks:List (Key×V)}(i:Int)(h:L2.Rd H a (.dK ks))(t:TVs H ks (tvP S)):∃o,Ac H a (.int i) o/\o.isSome=(gC S i).isSome/\∀d,gC S i=some d->∃v,o=some v/\TV H v d:=by
 rcases Dq i t with⟨h1,h2⟩|⟨d,v,h1,h2,Z⟩
 .exact⟨none,.inl ⟨ks,.inl i,h,rfl,h2.symm⟩,by rw[h1];rfl,λd z=>by rw[h1]at z;cases z⟩
 .exact⟨some v,.inl ⟨ks,.inl i,h,rfl,h2.symm⟩,by rw[h1];rfl,λY z=>by rw[h1]at z;cases z;exact⟨v,rfl,Z⟩⟩
def XF:BrO K ZW Gw:=by
 intro H x y dx W d Q Y Z e q;refine D3.ex1 (bind1 e) λS e4 e5=>?_
 obtain⟨p,ks,rfl,X,t⟩:=xX e4 Z;split at e5
 .next i=>
  cases e5;obtain rfl:=RA.intE Y;obtain⟨o,g1,g2,_⟩:=Dr i X t;refine⟨p,o,rfl,g1,?_⟩;rw[g2];exact q _ rfl (.bl _)
 .cases e5
def BW:BrO K J6 sW:=by
 intro H x y dx W d Q Y Z e q;refine D3.ex1 (bind1 e) λS e4 e5=>?_
 obtain⟨p,ks,rfl,X,t⟩:=xX e4 Z;split at e5
 .next i=>
  cases e5;obtain rfl:=RA.intE Y;obtain⟨o,g1,g2,_⟩:=Dr i X t;refine⟨p,o,rfl,g1,?_⟩;rw[g2];exact q _ rfl (.bl _)
 .cases e5
section
variable{X:Cx}{fl:List Fl}{a b c ve:Expr}{f fa fk fv:FE}
theorem XH{i:Int}(h:tvA S=true)(e:gC S i=some d):tvD d=true:=by
 unfold gC at e
 cases e1:S.find? λq=>decide (q.1=i)with
 |none=>rw[e1]at e;cases e
 |some q=>
  rw[e1]at e
  cases e;exact ju.mp h q (pB e1)
def zF(J:X.A.units+1<cLine)(ha:DE X fl .P a fa)(hb:DE X fl .P b fb)(O:Xw b):DE X fl .FC (.Subscript a b pos) (dOp rD fa fb):=PE.imp (TF J ha hb O) λσ H Q h=>by
 refine D3.ex4 h λG ow δ d R W q=>?_
 refine D3.ex2 (Fv W) λx y e1 e2 e3=>?_
 refine⟨G,ow,δ,x,R,e1,λv H1 s1 r1=>⟨G,ow,δ,y,R.grow s1,e2,λu H2 s2 r2=>?_⟩⟩;refine D3.ex1 (bind1 e3) λS e4 e5=>?_
 obtain⟨p,ks,rfl,Y,t⟩:=xX e4 r1;split at e5
 .next i=>
  obtain rfl:=RA.intE r2;obtain⟨o,g1,g2,g3⟩:=Dr i (TX s2 Y) (t.imp λ_ _ z=>kO.same s2 z);obtain⟨w,rfl,Z⟩:=g3 d e5;have V:tvA S=true:=by
   cases x with
   |dict kvs=>exact(vL e4).1
   |_=>cases e4
  exact⟨p,w,rfl,g1,q _ H2 (s1.trans s2) (.inl ⟨T6 (XH V e5),Z2 Z⟩)⟩
 .cases e5
end
section
variable{fl:List Fl}
theorem XJ{σ:L2.St}{x:D}(R:Rel K fl G ow σ H δ)(Y:fl[i]? = some .N)(hx:ak i δ=some x)(O:xG x=some S):
 ∃a ks,σ[i]? = some (some (.ref a))/\H a=some (.dK ks)/\TVs H ks (tvP S)/\∀H',Same H H'->∀J S',TVs H' J (tvP S')->∃Z,Rel K fl G Z σ (upd H' a (.dK J)) (δ.set i (some (.d (dtv S')))):=by
 have e:=oE hx;have hi:i<δ.length:=by
  rcases mH i δ.length with z|z
  .exact z
  .rw[bK z]at e;cases e
 obtain⟨v,h1,h2,U⟩:=R.nr i x (by rw[Y];rfl) e;generalize X:ow.n i=as at h2 U
 cases h2 with
 |dic ha W=>
  rename_i a u kvs;obtain⟨V,rfl⟩:=vL O;obtain⟨ks,rfl,t⟩:=V5 W V;refine⟨a,ks,h1,ha,t,λH' s J S' t'=>?_⟩;refine(R.grow s).mutN (as:=[a]) Y hi (by rw[X];exact qb _) (s _ _ ha) h1 ?_ (λb hb=>by rwa[X]) (cI.mpr ⟨gq,.nil⟩);exact .dic dH (.inr (.inl ⟨J,rfl,t'.imp λ_ _ z=>kO.upd (s _ _ ha) z⟩))
 |non=>cases O
 |bl _=>cases O
 |int _=>cases O
 |str _=>cases O
 |lst _ _=>cases O
 |tup _ _=>cases O
end
section
variable{X:Cx}{σ:L2.St}{H:Hp}{kvs:List (Key×V)}{k:Key}{z:V}{r:Value}
def PJ{Q:Value->cB->Prop}(I:L2.Inv X pins σ H s)(e:H a=some (.dK kvs))(hl:kvs.length<sizeLine)(Y:RelV (kV k) u)(O:RelV z r)
 (h1:∀v J s',oK kvs k=some v->L2.Inv X pins σ H s'->RelV v J->Q J s') (h2:∀s',oK kvs k=none->L2.Inv X pins σ (upd H a (.dK (kvs++[(k,z)]))) s'->Q r s') :
 wpAny (model X.prog X.w) A (call (.builtin "dict.setdefault") [.ref a,u,r]) Q E s:=by
 obtain⟨T,hd,vs,rel,dd⟩:=Ph I.hok e;refine call_meetsIn PySem.F.slot_dict_setdefault dd.typeIs PySem.F.entry_dict_setdefault (PySem.F.args_dict_setdefault_3 _ _ _) (kt_meets_setdefault (dD X.prog X.w) a (zy Y) hd r)
  ⟨vs,dd,by rwa[<-rel.length],λJ hw=>?_,λhw h' Z W=>?_⟩
 .have q:=rel.val k;rw[hw]at q
  cases e1:oK kvs k with
  |none=>rw[e1]at q;cases q
  |some v=>
   rw[e1]at q;exact h1 v J _ e1 (I.tok _) q
 .have q:=rel.val k;rw[hw]at q;have e1:oK kvs k=none:=by
   cases e1:oK kvs k with
   |none=>rfl
   |some v=>rw[e1]at q;cases q
  have U:∃q,h'.get? a=some q:=let⟨q,_,_,V,_⟩:=Z;⟨q,V⟩;refine h2 _ e1 (xW I (by rw[e];exact dy) W U (Iv ?_ hd ?_ Z))
  .rwa[bx]
  .rw[<-Pg z e1];exact rel.put k O
end
def Z5(td ty tx:TE):TE:=λσ H Q=>td σ H λx H1=>∃a,x = .ref a/\IsD H1 a/\ty σ H1 λy H2=>tx σ H2 λz Z=>∃kvs k,Z a=some (.dK kvs)/\kvs.length<sizeLine/\y=kV k /\
 (∀v,oK kvs k=some v->Q v Z)/\(oK kvs k=none->Q z (upd Z a (.dK (kvs++[(k,z)]))))
section
variable{X:Cx}{o f:Expr}{td ty tx:TE}
def T7(J:PE X o td)(he:PE X e ty)(O:PE X f tx)(m:M2 X o "setdefault" apos e f cpos):PE X (.Call (.Attribute o "setdefault" apos) [e,f] [] cpos) (Z5 td ty tx):=by
 intro pins s σ H Q I h;refine wpAny_Call_method m.base m.few m.line PySem.F.plainAttrs_dict PySem.F.slot_dict_setdefault PySem.F.type_dict_setdefault (thn (J pins s σ H _ I h) λu s1 ⟨x,H1,V,S,a,ex,d,q1⟩=>?_);subst ex;obtain rfl:u=c0 a:=S;obtain⟨t1,t2,_⟩:=Xx V d;refine⟨t1,t2,?_⟩;rw[m.trees];refine ck rfl (cv (bn (thn (he pins s1 σ H1 _ V q1) λG s2 ⟨y,H2,N,T,q2⟩=>
  bn (thn (O pins s2 σ H2 _ N q2) λfv K ⟨z,M,P,W,kvs,k,ea,hl,R,q3,q4⟩=>bE ?_))))
 subst R;exact PJ P ea hl T W (λv L U l Y Z=>⟨v,M,Y,Z,q3 v l⟩) λU l Y=>⟨z,_,Y,W,q4 l⟩
end
section
variable{X:Cx}{fl:List Fl}{ve:Expr}{fk fv:FE}
theorem J_:∀{S:List (Int×D)}{ks:List (Key×V)},TVs H ks (tvP S)->ks.length=S.length
 |[],_,h=>by cases h;rfl
 |q::S,_,h=>by
  cases h with
  |cons _ r=>rw[bI,bI,J_ r]
theorem XM(e:xG y=some S):dtv S=y:=by
 cases y with
 |dict kvs=>rw[dtv,(vL e).2]
 |_=>cases e
def set_same(h:δ[i]? = some (some (.d y))):δ.set i (some (.d y))=δ:=by
 apply fU;intro j;rw[pI];split
 .next z=>
  subst z;split
  .exact h.symm
  .next z=>rw[bK (Nat.le_of_not_lt z)]at h;cases h
 .rfl
def XQ(J:fl[i]? = some .N)(hk:DE X fl .P ke fk)(hw:DE X fl .P ve fv)(hN:X.N[i]? = some x)(hm:M2 X (.Name x vpos) "setdefault" apos ke ve cpos)(hv:Vis X.env.scope x:=by first|exact Or.inl rfl|exact Or.inr (Or.inl rfl)|exact Or.inr (Or.inr rfl))(hd:(x==("__debug__":Str))=false:=by decide)
 (hcd:(x==("__classdict__":Str))=false:=by decide) (hs:swapsWith (.Call (.Attribute (.Name x vpos) "setdefault" apos) [ke,ve] [] cpos) none pos.line X.env=pure false:=by rfl) :
 DS1 X fl (.Expr (.Call (.Attribute (.Name x vpos) "setdefault" apos) [ke,ve] [] cpos) pos) (zq i fk fv):=PS.imp (xO (T7 (mY hN hv hd hcd) hk hw hm) hs) λDn σ H hh=>by
 refine D3.ex4 hh λG ow δ o R Y q=>?_
 refine D3.ex1 (bind1 Y) λy e1 M=>?_
 refine D3.ex1 (bind1 M) λF e2 Y=>?_
 refine D3.ex1 (bind1 Y) λU e3 M=>?_
 clear Y;refine D3.ex1 (bind1 M) λS e4 Y=>?_
 split at Y
 case h_2=>cases Y
 next k=>
 by_cases T:tvD U=true/\S.length<1000000
 case neg=>rw[if_neg T]at Y;cases Y
 rw[if_pos T]at Y
 cases Y;obtain⟨p,ks,h1,h2,L,I⟩:=XJ R J e1 e4;refine⟨_,h1,p,rfl,.inl ⟨_,.inl h2⟩,G,ow,δ,_,R,e2,λu H1 s1 r1=>⟨G,ow,δ,_,R.grow s1,e3,λw H2 s2 r2=>?_⟩⟩;obtain rfl:=RA.intE r1;have t2:=Z4 T.1 r2;have W:=s1.trans s2;have V:TVs H2 ks (tvP S):=L.imp λ_ _ z=>kO.same W z
 refine⟨ks,.inl k,W _ _ h2,by rw[J_ L];exact kI T.2 (by decide),rfl,λv Z=>?_,λZ=>?_⟩
 .have O:pD S k U=S:=by
   unfold pD;rcases Dq k V with⟨_,b⟩|⟨d,K,a,b,_⟩
   .rw[b]at Z;cases Z
   .rw[if_pos (by rw[a];rfl)]
  rw[O]at q;rw[XM e4,set_same (oE e1)]at q;exact q ow σ _ (R.grow W)
 .have O:pD S k U=S++[(k,U)]:=by
   unfold pD;rcases Dq k V with⟨a,_⟩|⟨d,K,a,b,_⟩
   .rw[if_neg (by rw[a];simp)]
   .rw[b]at Z;cases Z
  rw[O]at q;obtain⟨Q,R'⟩:=I H2 W (ks++[(.inl k,w)]) (S++[(k,U)]) (Gy t2 V);exact q Q σ _ R'
def PK(hk:DE X fl .P ke fk):DE X fl .T (.Dict [some ke] [.Constant .none j p1] pos) (zp fk):=PE.imp (TQ (Pj hk MN TJ) rfl rfl (by intro z;cases z) (show 1<=15 by decide)) λσ H Q h=>by
 refine D3.ex4 h λG ow δ d R W q=>?_
 refine D3.ex1 (bind1 W) λy e1 e2=>?_
 split at e2
 case h_2=>cases e2
 next i=>
 cases e2;intro p Z;refine⟨G,ow,δ,_,R.grow (eO Z _),e1,λv H1 s1 r1=>?_⟩;obtain rfl:=RA.intE r1;refine⟨s1 _ _ dH,[(.inl i,.non)],rfl,(show 1<=15 by decide),q _ _ (λb0 o e=>?_) ⟨[p],.dic dH (.inr (.inl ⟨_,rfl,.cons (.inl ⟨rfl,rfl⟩) .nil⟩)),cI.mpr ⟨gq,.nil⟩,λx Y=>by rwa[aB.mp Y]⟩⟩;have ne:=jB e Z;rw[cO ne];exact s1 _ _ (by rwa[cO ne])
end
end XD
namespace XD
open L2 My D3 XK
section
variable{X:Cx}{fl:List Fl}
def Ds(hc:X.calm=true):nA X (.builtin "sorted") (λxs H Q=>∃(p:Addr)(ks:List (Key×V))(is:List Int),xs=[.ref p]/\L2.Rd H p (.dK ks)/\ks.map (·.1)=is.map dA/\is.length<64/\∀l,H l=none->Q (.ref l) (upd H l (.lst ((nW is).map V.int)))):=by
 intro pins s σ H xs us Q I r h;obtain⟨p,ks,is,rfl,F,z,T,q⟩:=h;obtain⟨u,rfl,K⟩:=vals1 r
 cases K;obtain⟨_,hd,vs,rel,dd⟩:=wU I.hok F;obtain⟨C,N⟩:=dd.dictAt;have M:vs.map (·.1)=is.map dA:=by rwa[<-rel.keys]
 have hlen:vs.length=is.length:=by
  have:=congrArg pG M;rwa[au,au]at this
 refine Calls.call_function_entry kind_sorted plain_sorted entry_sorted (args_sorted1 _) ?_;unfold el.«sorted»;refine aa (m:=checkCount "sorted" 1 1 _) (ag ?_);refine aa (PySem.W.kdu_collect (A:=X.A.in1) (PySem.W.kdl_dict (knd:=dD X.prog X.w) (kvs:=vs) (ep:=C) hd) (I.ok.hd hc) N (by rw[hlen];exact bO (gB T) (by decide)) λh' tk Z hk Y=>?_);have hl:Z.toList.length=is.length:=by rw[dR,Y.1,hlen]
 have D:=J7 _ _ hl λj v P=>by
  obtain⟨k,x,O,R⟩:=Y.2 j v (by rw[<-Array.getElem?_toList];exact P);have e1:(vs.map (·.1))[j]? = some k:=by rw[bf,O];rfl
  rw[M,bf]at e1
  cases e2:is[j]? with
  |none=>rw[e2]at e1;cases e1
  |some i=>
   rw[e2]at e1;have e3:k=dA i:=by
    cases e1;rfl
   subst e3;rw[Hu]at R;obtain⟨t,rfl⟩:∃t,v=ee i t:=Value.isInt_shape R;exact⟨i,t,rfl,rfl⟩
 have L:L2.Inv X pins σ H {s with heap:=h',toks:=tk}:=I.kept hk;refine aa (wpAny_newList ?_ (by rw[hl];exact bO (gB T) (by decide)));have U:(h'.push (seqObj "list" Z.toList.toArray 0)).get? h'.objs.size=some (seqObj "list" Z.toList.toArray 0):=ah _ rfl;refine aa (bg (wpAny_call_entry slot_list_sort ⟨_,U,rfl⟩ entry_list_sort (list_sort_tree U D (by rwa[hl]) λout J a1 a2 a3=>⟨_,rfl,?_⟩) (args_list_sort _)));refine ag ⟨_,rfl,?_⟩;obtain rfl:=wD (a2.trans (iQ _).symm) a3 (nC _);obtain⟨e,E⟩:=sortedHeap_at (out:=out) U;have hn:=L.hok.fresh (bF _);have G:(nW is).length=is.length:=(iQ _).length_eq;have B:=L.laid (h':=sortedHeap (h'.push (seqObj "list" Z.toList.toArray 0)) h'.objs.size Z.toList out) (t':=tk) (a:=h'.objs.size) (o:=.lst ((nW is).map V.int)) (λb u e=>by
  have S:=ac e;rw[sortedHeap_old (bN S) (by rw[size_push'];exact Nat.lt_succ_of_lt S)];exact ae _ e) (bF _)
  ⟨by rw[au,G];exact bO (gB T) (by decide),out.toList,e,D3.oR a1,by simpa[seqObj]using E⟩
 exact⟨.ref _,_,B,rfl,q _ hn⟩
theorem Gz:∀{S:List (Int×D)}{ks:List (Key×V)},TVs H ks (tvP S)->ks.map (·.1)=(S.map (·.1)).map dA
 |[],_,h=>by cases h;rfl
 |q::S,_,h=>by
  cases h with
  |cons _ r=>rw[bJ,Gz r];rfl
def BX(hc:X.calm=true){fa:FA}{p:Pos}(ha:DB X fl .P [e] fa)(O:Gl X "sorted")(hm:X.mg "sorted"=none)
 (he:starEach [e] X.env=(false,eval e X.env)::starEach [] X.env:=by rfl) (J:(backTo pos (starEach [] X.env)).any (·.1)=false:=by rfl):DE X fl .FC (.Call (.Name "sorted" p) [e] [] pos) (dCall tZ fa):=
 PE.imp (qj (Ds hc) O hm (show bootBuiltins "sorted"=some (.builtin "sorted")by decide +kernel) ha (by decide) (by decide) he J) λσ H Q h=>by
 refine D3.ex4 h λG ow δ d R V q=>?_
 refine D3.ex1 (bind1 V) λds e1 e2=>?_
 refine⟨G,ow,δ,ds,R,e1,λvs H' s Y=>?_⟩;unfold tZ at e2;split at e2
 .next x=>
  refine D3.ex1 (bind1 e2) λS e3 e4=>?_
  by_cases Z:S.length<64
  .rw[if_pos Z]at e4
   cases e4
   cases Y with
   |cons r1 r2=>
    cases r2;obtain⟨a,ks,rfl,W,t⟩:=xX e3 r1;exact⟨a,ks,S.map (·.1),rfl,W,Gz t,by rwa[au],λl hn=>q _ _ (s.trans (eO hn _)) (.inr ⟨_,_,_,rfl,rfl,s.free hn,dH,tR _⟩)⟩
  .rw[if_neg Z]at e4;cases e4
 .cases e2
end
end XD
namespace XL
open PySem.W L2 My D3
abbrev T8(x y:Str)(p1 p2 p3 p4 p5:Pos)(kd:Nat):Expr:=.Subscript (.Subscript (.Name x p1) (.Name y p2) p3) (.Constant (.int 0) kd p4) p5
section
variable{prog:cN}{R:Result->cB->Prop}{f c' b cell:Addr}{nm q y:Str}{ctv:Value}{p3 p4 p5:Pos}{kd:Nat}{i k:Int}{t t':Tok}{its its2:Array Value}
def PN{x:Value} (hl:s.heap.IsList a its) (O : -(its.size:Int)<=i) (Y:i<its.size) (hsz:its.size<=sizeLine) (J:seqIndex? i its.size=some j) (hi:its[j]? = some x) (h:c x s) :
 wpAny (model prog w) A (getItem (.ref a) (.int i t)) c E s:=by
 have hn:=vY;by_cases X:0<=i
 .have Z:i.toNat=j:=by
   rw[cm X Y]at J;exact dg.inj J
  exact wpAny_getItem_list hl X (by lia) (by rwa[Z]) h
 .have Z:(i+(its.size:Int)).toNat=j:=by
   rw[ce (by lia) O]at J;exact dg.inj J
  exact wpAny_getItem_list_neg hl (by lia) O (by lia) (by rwa[Z]) h
def T9(ho:s.heap.get? f=some (kla_obj nm q params (T8 x y p1 p2 p3 p4 p5 kd) scope [(x,cell)] pm c' ctv))(hcd:s.heap.CodeRec (.ref c') q)(J:A.depth<recursionLimit)(hlim:s.heap.NoLimit)
 (hbind:∀u,bindArgs (kla_fn nm q params (T8 x y p1 p2 p3 p4 p5 kd) scope [(x,cell)] pm (.ref c') ctv) ⟨[u],[]⟩=pure [(y,u)])
 (hco:scope.isCoroutine=false) (hgen:scope.isGenerator=false) (hk:scope.kind = .function) (hcell:∀z∈scope.names,z.2 ≠ .cell) (hy:scope.names.lookup y=some .local) (hx:scope.names.lookup x=some .free)
 (hxd:(x==("__debug__":Str))=false) (hyd:(y==("__debug__":Str))=false) (hxc:(x==("__classdict__":Str))=false)
 (hc:s.heap.IsCell cell (some (.ref a))) (hl:s.heap.IsList a its) (hlo : -(its.size:Int)<=i) (hhi:i<its.size) (hsz:its.size<=sizeLine) (hsx:seqIndex? i its.size=some j) (hi:its[j]? = some (.ref b)) (ht:IsTup s.heap b its2) (O:its2[0]? = some (.int k t'))
 (h:∀h' tk,(∀b o,s.heap.get? b=some o->h'.get? b=some o)->R (.ok (.ret (.int k t'))) {s with heap:=h',toks:=tk}) :
 codeAny (model prog w) A (.call (.ref f) ⟨[.int i t],[]⟩) R s:=by
 refine kla_callFunE J ho rfl hco hgen rfl hcd ?_;rw[hbind];refine ag (wpAny_newFunctionEnv hcell (λz S=>?_) (λY U W=>⟨hlim.fresh _ W,?_⟩) hk)
 .rwa[aB.mp S]
 have Z:=λb o e=>W.extBut b o (bN (ac e)) (ae _ e)
 refine kla_codeExpr ?_;have V:Y.IsList a its:=by
  obtain⟨o,e1,e2⟩:=hl;exact⟨o,Z _ _ e1,e2⟩
 have X:IsTup Y b its2:=by
  obtain⟨o,e1,e2⟩:=ht;exact⟨o,Z _ _ e1,e2⟩
 refine cb ?_;refine cb ?_;refine br ?_ hxd;refine wpAny_loadName_free (c:=cell) (v:=.ref a) hk hx ?_ ?_ ?_ hxc
 .show wL x [(x,cell)]=some cell;simp
 .obtain⟨o,e1,e2⟩:=hc;exact⟨o,Z _ _ e1,e2⟩
 refine br ?_ hyd;refine bj (v:=.int i t) hk hy U ?_ ?_
 .simp
 refine subscriptTail_builtin (T := "list") (id := "list.__getitem__") ?_ PySem.F.slot_list_getitem.lookup ?_
 .obtain⟨o,e1,e2,_⟩:=V;exact⟨o,e1,e2⟩
 refine PN V hlo hhi hsz hsx hi ?_;refine wpAny_Constant_int ?_;refine kba_turn (value':=PySem.Expr.Name (PySem.Str.ofString "_") ⟨0,0,0,0⟩) (λ_=>rfl) ?_;refine subscriptTail_builtin (T := "tuple") (id := "tuple.__getitem__") ?_ PySem.F.slot_tuple_getitem.lookup ?_
 .obtain⟨o,e1,e2,_⟩:=X;exact⟨o,e1,e2⟩
 refine PyProof.Rows.getItem_tuple (j:=0) (x:=.int k t') X (by decide) (by decide) ?_ O ?_
 .have:0<its2.size:=by
   rcases mH 0 its2.size with z|z
   .exact z
   .rw[Array.getElem?_eq_none z]at O;cases O
  unfold seqIndex?;have h2:(0:Int)<(its2.size:Int):=by lia
  show(if(decide ((0:Int)<=0)&&decide ((0:Int)<(its2.size:Int)))=true then some (0:Int).toNat else none)=some 0;rw[dTr (fL 0),dTr h2];rfl
 .exact h Y _ Z
end
section
variable{M:eh}{body:Expr}{c P:Addr}{clos:List (Str×Addr)}{Q:Value->cB->Prop}{q:Str}
abbrev ent(pos:Pos)(c':Addr):Array Value:=#[rawInt pos.line,rawInt pos.col,.ref c']
def PX(hq:env.qual++"<lambda>"=q)(hdef:defaultsOf params env=([],[]))(hcl:closureFor scope env=pure clos)(O:env.globals=mainGlobals)(hg:s.heap.Ns mainGlobals mg)(J:env.code = .ref c)(C:CodeHd s.heap c P)(hgP:mainGlobals≠P)(hb:s.heap.BuiltinsAt mg P)
 (hT:∃ps,s.heap.get? P=some (tabObj ps)/\(ps = #[]\/∃c',ps=ent pos c'/\s.heap.CodeRec (.ref c') q))
 (h:∀f c' ctv h' tk,(∀b o,b≠P->s.heap.get? b=some o->h'.get? b=some o)->h'.get? P=some (tabObj (ent pos c'))->(s.heap.get? P=some (tabObj (ent pos c'))\/(s.heap.get? P=some (tabObj #[])/\s.heap.objs.size<=c'/\c'≠f))->s.heap.objs.size<=f ->
  h'.get? f=some (kla_obj "<lambda>" q params body scope clos ((mg "__name__").getD .none) c' ctv)->h'.CodeRec (.ref c') q->Q (.ref f) {s with heap:=h',toks:=tk}) :
 wpAny M A (eval (.Lambda params body scope pos) env) Q E s:=by
 refine kla_eval hdef ?_;rw[hq];obtain⟨ps,W,z|⟨c',z,N⟩⟩:=hT
 .subst z;refine kla_makeFunction (mg:=mg) hcl O hg J C W trivial rfl hgP hb λc' ctv h' tk R X Y Z U=>?_
  have up:∀b o,h'.get? b=some o->(h'.push (kla_obj "<lambda>" q params body scope clos ((mg "__name__").getD .none) c' ctv)).get? b=some o:=λb o e=>ae _ e
  obtain⟨S,oc,vs,V,e1,e2,e3⟩:=Z;refine h h'.objs.size c' ctv _ tk (λb o hb e=>up b o (R b o hb e)) (up _ _ (by rw[U];rfl)) (.inr ⟨W,X,bN Y⟩) (bO X (gB Y)) (ah _ rfl) ⟨S,oc,vs,V,e1,up _ _ e2,e3⟩
 .subst z;have ha:codeAmong pos (ent pos c').toList=some (.ref c'):=by simp[codeAmong,rawInt]
  refine kla_makeFunctionHit (mg:=mg) hcl O hg J C W trivial ha hb λctv h' tk hk T=>?_
  have up:∀b o,s.heap.get? b=some o->(h'.push (kla_obj "<lambda>" q params body scope clos ((mg "__name__").getD .none) c' ctv)).get? b=some o:=λb o e=>ae _ (hk b o e)
  obtain⟨S,oc,vs,V,e1,e2,e3⟩:=N;exact h h'.objs.size c' ctv _ tk (λb o _ e=>up b o e) (up _ _ W) (.inl W) T (ah _ rfl) ⟨S,oc,vs,V,e1,up _ _ e2,e3⟩
end
end XL
namespace XL
open PySem.W L2 My D3 XS
section
variable{prog:cN}{h₀:dm}{L kS:Addr}{m:Str->Option Value}{f:Value}{nw:List (Addr×Obj)}
def GC(prog:cN)(w:df)(A:db)(nw:List (Addr×Obj))(f v:Value)(k:Int):Prop:=
 ∃t,∀(s:cB)(R:Result->cB->Prop),(∀p∈nw,s.heap.get? p.1=some p.2)->s.heap.NoLimit->(∀h' tk,(∀b o,s.heap.get? b=some o->h'.get? b=some o)->R (.ok (.ret (.int k t))) {s with heap:=h',toks:=tk}) ->
  codeAny (model prog w) A (.call f ⟨[v],[]⟩) R s
theorem GD{Fin:List Value->Nat->cB->Prop}(Y:∀y∈nw,y.1≠kS)(O:∀s:cB,(∀p∈nw,s.heap.get? p.1=some p.2)->s.heap.NoLimit):∀(vs:List Value)(ns:List Int)(ks:List Value)(e:Nat)(s:cB),Paired (λv k=>GC prog w A nw f v k) vs ns ->
 Fr h₀ L s.heap m->News h₀ L s.heap ((kS,seqObj "list" (iU ks) e)::nw) ->
 (∀J e' s',Fr h₀ L s'.heap m->News h₀ L s'.heap ((kS,seqObj "list" (iU (ks++J)) e')::nw)->s'.gens=s.gens->s'.drawn=s.drawn->s'.os=s.os->Paired (λ(v:Value)(k:Int)=>∃t,v = .int k t) J ns->Fin (ks++J) e' s') ->
 KatKeys prog w A h₀ L m kS f Fin vs ks e s
 |[],_,ks,e,s,p,F,N,h=>by
  cases p;have:=h [] e s F (by rwa[dN]) rfl rfl rfl .nil;rwa[dN]at this
 |v::vs,_,ks,e,s,p,F,N,h=>by
  cases p with
  |cons p1 p2=>
  rename_i k ns;obtain⟨t,c⟩:=p1;have Z:=λp X=>(N p (aA _ X)).1
  refine KatKeys.cons (bq (c s _ Z (O s Z) λh' tk hk=>?_));have S:Fr h₀ L h' m:=⟨F.ns.keeps hk,λb o z=>hk b o (F.keep b o z),F.above⟩;have V:News h₀ L h' ((kS,seqObj "list" (iU ks) e)::nw):=λp X=>⟨hk _ _ (N p X).1,(N p X).2⟩
  refine KatBack.intro (s:={s with heap:=h',toks:=tk}) S V (.head Y) λh2 e2 T W=>?_
  refine GD Y O vs ns (ks++[.int k t]) e2 {s with heap:=h2,toks:=tk} p2 T W λJ e' s' U R g1 g2 g3 q=>?_
  have z:=h (.int k t::J) e' s' U (by rwa[show ks++.int k t::J=ks++[.int k t]++J by simp]) g1 g2 g3 (.cons ⟨t,rfl⟩ q);rwa[show ks++.int k t::J=ks++[.int k t]++J by simp]at z
end
section
variable{prog:cN}{h₀:dm}{L l fa:Addr}{m:Str->Option Value}{vs:List Value}{news:List (Addr×Obj)}{Q:Value->cB->Prop}
def ltK(ns:List Int)(i j:Nat):Bool:=decide (ns.getD i 0<ns.getD j 0)
def zG(a b:Value):argsOk "sorted" ⟨[a],[(dQ "key", b)]⟩:=by unfold argsOk;kernel_rfl
def wV(a b:Value):argsOk "list.sort" ⟨[a],[(dQ "key", b)]⟩:=by unfold argsOk;kernel_rfl
theorem ints_of:∀{ks:List Value}{ns:List Int},Paired (λ(v:Value)(k:Int)=>∃t,v = .int k t) ks ns->ez ks ns
 |_,_,.nil=>.nil
 |_,_,.cons p q=>by
  obtain⟨t,rfl⟩:=p;exact .cons _ _ (ints_of q)
theorem Dt:∀{ks:List Value}{ns:List Int},Paired (λ(v:Value)(k:Int)=>∃t,v = .int k t) ks ns->∀i,i<ks.length->∃t,ks.getD i .none = .int (ns.getD i 0) t
 |_,_,.nil,i,h=>by cases h
 |_,_,.cons p q,0,h=>by obtain⟨t,rfl⟩:=p;exact⟨t,rfl⟩
 |_,_,.cons p q,i+1,h=>by
  obtain⟨t,e⟩:=Dt q i (by simpa using h);exact⟨t,by simpa using e⟩
def P0(F:Fr h₀ L s.heap m)(N:News h₀ L s.heap news)(hl:s.heap.IsList l vs.toArray)(h2:2<=vs.length)(O:vs.length<64)
 (hc:Paired (λv k=>GC prog w A.in1.in1 news (.ref fa) v k) vs ns) (J:∀s:cB,(∀p∈news,s.heap.get? p.1=some p.2)->s.heap.NoLimit)
 (h:∀D h' e tk,Fr h₀ L h' m->News h₀ L h' ((D,seqObj "list" (iU ((uO vs.length (ltK ns)).map λi=>vs.getD i cS)) e)::news)->(∀q∈news,q.1<D)->Q (.ref D) {s with heap:=h',toks:=tk}) :
 wpAny (model prog w) A (call (.builtin "sorted") [.ref l] [(dQ "key", .ref fa)]) Q E s:=by
 refine kat_sortedK (b:=false) (f:=.ref fa) F N hl h2 O (zG _ _) (λx=>wV _ _) (λx=>ksk_t1 fa x) λD kS e1 h' u H Y Z=>?_
 have W:∀y∈(D,seqObj "list" #[] e1)::news,y.1≠kS:=λy V=>by
  rcases aK.mp V with rfl|z
  .exact bN Y
  .exact bN (kI (Z y z) Y)
 have U:Paired (λv k=>GC prog w A.in1.in1 ((D,seqObj "list" #[] e1)::news) (.ref fa) v k) vs ns:=Paired.mapP hc λv k ⟨t,z⟩=>⟨t,λs R q1 q2 q3=>z s R (λp X=>q1 p (aA _ X)) q2 q3⟩
 refine GD (kS:=kS) W (λs q=>J s λp X=>q p (aA _ X)) vs ns [] 0 _ U u H λks e s' S T g1 g2 g3 pk=>?_
 have lk:=pk.length.trans hc.length.symm;rw[rF]at T ⊢;rw[ksk_kind (ints_of pk) (by rwa[bG,lk])];refine ag ?_;refine JZ (n:=vs.length) (lt:=ltK ns) (R:=good vs.length) (λi j C hi r P=>?_) _ (Bx (by lia)) ?_
 .obtain⟨t1,q1⟩:=Dt pk i (by rwa[lk]);obtain⟨t2,q2⟩:=Dt pk j (by rwa[lk]);show wpAny _ _ (keyLt' oneType' (ks.getD i cS) (ks.getD j cS)) _ _ _;rw[q1,q2];exact kat_lt_int P
 .obtain⟨X,g,d,tk,os⟩:=s';simp only at g1 g2 g3 S T;subst g1 g2 g3;refine KatFin.intro S T (.head W) λo c B I=>?_
  refine KasFin.intro B I (.tail (qw Y) (.head λy V=>bN (Z y V))) λM K G N4=>?_
  exact h D M K tk G (λp X=>N4 p (aA _ X)) Z
theorem BZ : ∀{l:List α}{r:List β},Paired R l r->∀{i:Nat}{a:α}{b:β},l[i]? = some a->r[i]? = some b->R a b
 |_,_,.nil,i,a,b,h,_=>by simp at h
 |_,_,.cons p q,0,a,b,h1,h2=>by
  simp at h1 h2;subst h1 h2;exact p
 |_,_,.cons p q,i+1,a,b,h1,h2=>BZ q (i:=i) (by simpa using h1) (by simpa using h2)
def T_(F:Fr h₀ L s.heap m)(N:News h₀ L s.heap news)(hl:s.heap.IsList l vs.toArray)(h1:vs.length<=1)
 (O:Paired (λv k=>GC prog w A.in1.in1 news (.ref fa) v k) vs ns) (J:∀s:cB,(∀p∈news,s.heap.get? p.1=some p.2)->s.heap.NoLimit)
 (h:∀D h' e tk,Fr h₀ L h' m->News h₀ L h' ((D,seqObj "list" (iU vs) e)::news)->(∀q∈news,q.1<D)->Q (.ref D) {s with heap:=h',toks:=tk}) :
 wpAny (model prog w) A (call (.builtin "sorted") [.ref l] [(dQ "key", .ref fa)]) Q E s:=by
 refine ksk_sorted (b:=false) (kz:=ns) (f:=.ref fa) F N hl O.length.symm (by lia) (zG _ _) (λx=>wV _ _) (λx=>ksk_t1 fa x) (λi v k R hk Z tk own V X=>?_) λD h' tk out c V X lt S=>?_
 .obtain⟨t,z⟩:=BZ O R hk;have W:=λp q=>(X p (aU _ q)).1
  refine bq (z {s with heap:=Z,toks:=tk} _ W (J {s with heap:=Z,toks:=tk} W) λh2 U Y=>?_);exact⟨h2,U,t,rfl,rfl,⟨V.ns.keeps Y,λb o z=>Y b o (V.keep b o z),V.above⟩,λp q=>⟨Y _ _ (X p q).1,(X p q).2⟩⟩
 .obtain⟨ps,Z,T,_⟩:=S;have e:out.toList=vs:=by
   cases O with
   |nil=>
    have Z:=Z;rwa[List.perm_nil.mp Z]at T
   |cons p q=>
    cases q with
    |nil=>
     have Z:=Z;rwa[List.perm_singleton.mp Z]at T
    |cons _ _=>simp at h1
  have e2:out=vs.toArray:=Array.toList_inj.mp (e.trans (by simp));rw[e2]at X;exact h D h' c tk V X lt
end
end XL
namespace XS
open D3
def uz(l:List D)(ns:List Int):List D:=if l.length<=1 then l else(uO l.length λi j=>decide (ns.getD i 0<ns.getD j 0)).map λi=>l.getD i .none
def Du(fa fe:FE)(ix:List Nat):FE:=λδ=>(fa δ).bind λx=>match x with
 | .list l=>if l.length<64/\flats l=true then(fM (gNl 0) D3.jV fe (jR 1 ix δ) l).bind λks=>(jQ ks).map λns=>.list (uz l ns)else none
 |_=>none
def dK0:FE:=λδ=>match δ with
 |[some (.d (.int z)),some (.d (.list ds))]=>(pAt ds z).bind λt=>match t with
  | .tuple (.int n::_)=>some (.int n)
  |_=>none
 |_=>none
def qSK(x:Option D)(k:List D->Option (List D)):Option D:=match x with
 |some (.list l)=>if l.length<64/\flats l=true then(k l).bind λks=>(jQ ks).map λns=>.list (uz l ns)else none
 |_=>none
theorem Ua : Du c fe k δ=qSK (c δ) (fM (gNl 0) D3.jV fe (jR 1 k δ)):=by
 unfold Du qSK
 cases c δ with
 |none=>rfl
 |some d=>cases d<;>rfl
def LK (h1:l.length<64) (h2:flats l=true) (O:k l=some c) (J:jQ c=some ns):qSK (some (.list l)) k=some (.list (uz l ns)):=by
 unfold qSK;dsimp only;rw[if_pos ⟨h1,h2⟩,O,aG,J];rfl
end XS
variable{δ1:D3.DS}
namespace XL
open PySem.W L2 My D3 XS
section
variable{X:Cx}{σ:L2.St}{H:Hp}{P c':Addr}{q:Str}{lp:Pos}{tk:Nat}
def Ub(I:Inv X pins σ H s)(hT:H P=some (.tbl q lp))(kp:∀b o,b≠P->s.heap.get? b=some o->h'.get? b=some o)(hP:h'.get? P=some (tabObj (ent lp c')))
 (O:s.heap.get? P=some (tabObj (ent lp c'))\/(s.heap.get? P=some (tabObj #[])/\s.heap.objs.size<=c')) (J:h'.CodeRec (.ref c') q) :
 ∃H2,Inv X pins σ H2 {s with heap:=h',toks:=tk}/\Same H H2:=by
 rcases O with z|⟨z,Z⟩
 .refine⟨H,I.kept λb o e=>?_,λ_ _ e=>e⟩;by_cases hb:b=P
  .subst hb;rw[z]at e;cases e;exact hP
  .exact kp b o hb e
 .have hn:=I.hok.fresh Z;have ne:∀{b u},H b=some u->b≠c':=λe=>jB e hn
  have W:∀{b},H b=none->b≠P:=λe y=>by rw[y,hT]at e;cases e
  refine⟨upd H c' (.own P),?_,eO hn _⟩;refine I.step (g':=s.gens) (d':=s.drawn) (ch:=[]) (λb hb=>by cases hb) (λb u _ _ _ e n=>kp b u (W n) e) (λb u _ _ _ e n=>⟨u.slots,kp b u (W n) e⟩) (λb u _ e n=>?_) (λb u _ e=>?_)
   (λb xs e=>by rwa[cO (ne e)]) (λb u v e=>by rwa[cO (ne e)]) (λb q p e=>by rwa[cO (ne e)]) (λm ⟨o,es,S,e,r⟩=>⟨o,es,S,kp _ o (W I.free) e,r⟩) (λb u e=>?_) I.bare
  .rwa[cO (bN (bT (ac e) Z))]
  .by_cases hb:b=P
   .exact⟨_,by rwa[hb]⟩
   .exact⟨u,kp b u hb e⟩
  .by_cases hb:b=c'
   .subst hb;rw[dH]at e
    cases e;obtain⟨Q,oc,vs,R,e1,e2,_⟩:=J
    cases e1;exact⟨_,e2⟩
   .rw[cO hb]at e;by_cases Y:b=P
    .subst Y;rw[hT]at e;cases e;exact⟨_,hP,.inr ⟨c',rfl,dH,J⟩⟩
    .refine(I.hok b u e).stay (λc w T y=>kp c w (λU=>?_) y) (λc y=>by rwa[cO (ne y)]) λc xs y=>by rwa[cO (ne y)]
     rcases T with rfl|V
     .exact Y U
     .rw[U,hT]at V;cases V
end
def Uc{K:Frag}(e:Same H H')(h:SqL K H a xs):SqL K H' a xs:=by
 rcases h with(h|⟨o,h⟩)|h
 .exact .inl (.inl (e _ _ h))
 .exact .inl (.inr ⟨o,e _ _ h⟩)
 .exact .inr h
theorem B_:∀{ys:List V}{vs:List Value},Vals ys vs->∀i,RelV (ys.getD i .non) (vs.getD i .none)
 |_,_,.nil,i=>by simp;rfl
 |_,_,.cons r Z,0=>r
 |_,_,.cons r Z,i+1=>by simpa using B_ Z i
theorem Ca : ∀{l ks:List D}{ns:List Int},fM (gNl 0) D3.jV fe J l=some ks->jQ ks=some ns->Paired (λd n=>∃δ1,gNl 0 d J=some δ1/\fe δ1=some (.int n)) l ns
 |[],ks,ns,h1,h2=>by
  cases h1
  cases h2;exact .nil
 |d::l,ks,ns,h1,h2=>by
  unfold fM at h1;refine D3.ex1 (bind1 h1) λδ1 e1 h1=>?_
  refine D3.ex1 (bind1 h1) λb e2 h1=>?_
  cases e2;rw[if_pos rfl]at h1;refine D3.ex1 (bind1 h1) λx e3 h1=>?_
  refine D3.ex1 (bind1 h1) λr e4 h1=>?_
  cases h1
  cases x with
  |int n=>
   have Z:(jQ r).bind (λm=>some (n::m))=some ns:=by
    cases e5:jQ r with
    |none=>unfold jQ at h2;rw[e5]at h2;cases h2
    |some m=>unfold jQ at h2;rw[e5]at h2;cases h2;rfl
   refine D3.ex1 (bind1 Z) λm e5 e6=>?_
   cases e6;exact .cons ⟨δ1,e1,e3⟩ (Ca e4 e5)
  |_=>unfold jQ at h2;cases h2
theorem Ka {S:D->Int->Prop}{R:Value->Int->Prop} (f:∀y d v n,RA K ok pl H y d->RelV y v->S d n->R v n):∀{ys:List V}{l:List D}{vs:List Value}{ns:List Int},RAs K ok pl H ys l->Vals ys vs->Paired S l ns->Paired R vs ns
 |_,_,_,_,.nil,.nil,.nil=>.nil
 |_,_,_,_,.cons a b,.cons c d,.cons e g=>.cons (f _ _ _ _ a c e) (Ka f b d g)
structure LamAt(X:Cx)(P:Addr)(q:Str)(lp:Pos):Prop where
 cd:∃c,X.env.code = .ref c/\codeHdIn X.K c P=true
 qn:X.env.qual++"<lambda>"=q
 tb:(P,q,lp)∈tabs
section
variable{X:Cx}{fl:List Fl}{fa:FE}{kpos lp p3 p4 p5:Pos}{y q:Str}{P:Addr}{kd k:Nat}
def XR {u:Option U}(O:J=[none,u]) (h1:gNl 0 d J=some δ1) (h2:dK0 δ1=some (.int c)):∃z ds r,d = .int z/\u=some (.d (.list ds))/\pAt ds z=some (.tuple (.int c::r)):=by
 subst O
 cases h1;unfold dK0 at h2;split at h2
 .next z ds e=>
  cases e;refine D3.ex1 (bind1 h2) λt e1 e2=>?_
  split at e2
  .next m r=>cases e2;exact⟨z,ds,r,rfl,rfl,e1⟩
  .cases e2
 .cases h2
theorem IW(hl:LamAt X P q lp)(hr:Room k X.A)(ha:DB X fl .P [e] (aj fa aJ))(hg:Gl X "sorted")(hm:X.mg "sorted"=none)
 (hix:X.N[i]? = some x) (hfl:fl[i]? = some .A) (O:X.env.kindOf x=some .cell)
 (hdef:defaultsOf params X.env=([],[])) (hcl:∀c,X.env.cells.lookup x=some c->closureFor scope X.env=pure [(x,c)])
 (hbind:∀(cl:List (Str×Addr))(pm:Value)(c':Addr)(ctv u:Value),bindArgs (kla_fn "<lambda>" q params (T8 x y p1 p2 p3 p4 p5 kd) scope cl pm (.ref c') ctv) ⟨[u],[]⟩=pure [(y,u)])
 (hco:scope.isCoroutine=false) (hgen:scope.isGenerator=false) (hk:scope.kind = .function) (hcells:∀z∈scope.names,z.2 ≠ .cell) (hy:scope.names.lookup y=some .local) (hxf:scope.names.lookup x=some .free)
 (hxd:(x==("__debug__":Str))=false) (hyd:(y==("__debug__":Str))=false) (hxc:(x==("__classdict__":Str))=false)
 (he:backTo pos (starEach [e] X.env)=(false,eval e X.env)::backTo pos (starEach [] X.env)) (hpl:(backTo pos (starEach [e] X.env)).any (·.1)=false)
 : DE X fl .FC (.Call (.Name "sorted" p) [e] [⟨some (dQ "key"),.Lambda params (T8 x y p1 p2 p3 p4 p5 kd) scope lp,kpos⟩] pos) (Du fa dK0 [i]):=by
 have bs:bootBuiltins "sorted"=some (.builtin "sorted"):=by decide +kernel
 intro pins s σ H Q I hq;refine D3.ex4 hq λG ow δ d R hf q0=>?_
 refine D3.ex1 (bind1 hf) λxd e1 W=>?_
 obtain⟨l,rfl⟩:∃l,xd = .list l:=by
  cases xd<;>first|exact⟨_,rfl⟩|cases W
 dsimp only at W;by_cases hc:l.length<64/\flats l=true
 case neg=>rw[if_neg hc]at W;cases W
 rw[if_pos hc]at W;refine D3.ex1 (bind1 W) λks e2 C=>?_
 cases e3:jQ ks with
 |none=>rw[e3]at C;cases C
 |some ns=>
 rw[e3]at C
 cases C;have e1':aj fa aJ δ=some [.list l]:=by unfold aj;rw[e1];rfl
 refine aw (pW I hg hm bs ?_);refine PyProof.Rows.callWith_kw ?_ he hpl rfl rfl;refine thn (ha pos pins s σ H (λvs H1=>Same H H1/\RAs X.K ok1 true H1 vs [.list l]) I ⟨G,ow,δ,_,R,e1',λvs H' s' r'=>⟨s',r'⟩⟩) λus s1 ⟨vs,H1,U,r1,sm1,ra⟩=>?_
 cases ra with
 |cons ra1 ra2=>
 cases ra2;obtain⟨a,ys,rfl,hx,hrs⟩:=ra1.lstE
 cases r1 with
 |cons c1 c2=>
 cases c2
 cases c1;have R1:=R.grow sm1;have hT:=R1.tb _ hl.tb;obtain⟨c,hcx⟩:=U.ok.has x (.inl O);obtain⟨cc,hcode,hhd⟩:=hl.cd;have KX:=U.kIn;have hgl:=U.mod.glob.keeps U.bk;have hgP:mainGlobals≠P:=λz=>by
  obtain⟨o,_,_,g1,_⟩:=U.mod.glob;have:=(U.bs _ _ g1).2;rw[z,hT]at this;cases this
 have hbm:s1.heap.BuiltinsAt X.mg P:=by
  obtain⟨bm,ob,g1,g2,g3,g4,g5,g6⟩:=U.mod.bm;refine⟨bm,ob,g1,g2,λz=>?_,λz=>?_,U.bk _ _ g3,g4,g5,g6⟩
  .obtain⟨o,_,_,k1,k2,_⟩:=U.mod.glob;rw[z,k1]at g3;cases g3;rw[k2]at g6;cases g6
  .have:=(U.bs _ _ g3).2;rw[z,hT]at this;cases this
 have hTT:∃ps,s1.heap.get? P=some (tabObj ps)/\(ps = #[]\/∃c',ps=ent lp c'/\s1.heap.CodeRec (.ref c') q):=by
  obtain⟨ps,g1,g2⟩:=U.hok P _ hT;refine⟨ps,g1,?_⟩;rcases g2 with g|⟨c',g,_,g3⟩
  .exact .inl g
  .exact .inr ⟨c',g,g3⟩
 refine wpAny_evalAll_cons (aa ?_);refine PX (mg:=X.mg) hl.qn hdef (hcl c hcx) U.ok.glob hgl hcode (codeHd_of_K KX hhd) hgP hbm hTT λf c' ctv h' tk kp hP' hor hfs hfo h=>aa (bo (ag ?_))
 refine wpAny_evalAll_nil ?_;obtain⟨H2,L,T⟩:=Ub (tk:=tk) U hT kp hP' (hor.imp (λz=>z) λz=>⟨z.1,z.2.1⟩) h;have R2:=R1.grow T;obtain⟨its,F,pli,hz⟩:=L.list (show SqL X.K H2 a ys from Uc T hx);have Y:=hrs.same T;have len:=F.length.symm.trans Y.length;obtain⟨m,E,hlk⟩:=id L.loc;have notL:∀{b:Addr}{o:Obj},h'.get? b=some o->(∀es ep,o.data ≠ .dict es ep)->b≠X.env.locals:=λ{b o} g1 g2 z=>by
  obtain⟨o2,es,ep,k1,k2,_⟩:=E;rw[<-z]at k1;rw[show h'.get? b=some o2 from k1]at g1;cases g1;exact g2 _ _ k2
 have mem:∀{b:Addr}{o:Obj},h'.get? b=some o->b≠X.env.locals->(b,o)∈pK (Att.pX h') h' X.env.locals:=λg1 g2=>Es g2 (Att.yw _ _) g1
 have hlim:∀s':cB,(∀p∈pK (Att.pX h') h' X.env.locals,s'.heap.get? p.1=some p.2)->s'.heap.NoLimit:=λs' hk'=>L.ok.mod.nolimit.keeps λb o g=>hk' (b,o) (mem (L.bk b o g) (bN (bT (ac (L.ok.bs b o g).1) L.ok.above)))
 have calls:Paired (λv n=>GC X.prog X.w X.A.in1.in1 (pK (Att.pX h') h' X.env.locals) (.ref f) v n) its ns:=by
  refine Ka (S:=λd n=>∃δ1,gNl 0 d (jR 1 [i] δ)=some δ1/\dK0 δ1=some (.int n)) (λy0 d v n r1 r2 ⟨δ1,g1,g2⟩=>?_) Y F (Ca e2 e3);obtain⟨z,ds,r,rfl,g4,g5⟩:=XR (u:=(δ[i]?).getD none) rfl g1 g2;obtain rfl:=r1.intE;obtain⟨t0,rfl⟩:=r2;have g6:δ[i]? = some (some (.d (.list ds))):=by
   cases g7:δ[i]? with
   |none=>rw[g7]at g4;cases g4
   |some u=>rw[g7]at g4;exact congrArg some g4
  have own0:ow i=none:=by
   cases g7:ow i with
   |none=>rfl
   |some b=>
    obtain⟨_,g8,_⟩:=R2.own i b g7;rw[hfl]at g8;rcases g8 with⟨g8,_⟩|⟨g8,_⟩<;>cases g8
  obtain⟨v0,k1,k2⟩:=R2.dat i _ g6 (by rw[hfl];rfl) own0;obtain⟨b,xs,rfl,k3,k4⟩:=k2.lstE;obtain⟨v1,k5,k6⟩:=k4.at g5;obtain⟨b2,ws,rfl,k7,k8⟩:=k6.tupE
  cases k8 with
  |cons k9 k10=>
  obtain rfl:=k9.intE;obtain⟨it2,rv2,pl2,hz2⟩:=L.list k3;obtain⟨it3,rv3,pl3,_⟩:=L.tuple k7;obtain⟨j,j1,j2,j3,j4,j5⟩:=xP k5;obtain⟨t,j6,j7⟩:=rv2.get j2
  cases j7
  cases rv3 with
  |cons r3 rv3=>
  obtain⟨t3,rfl⟩:=r3;have l2:=rv2.length;obtain⟨u,u1,u2⟩:=hlk i x _ hix k1 (.inr (.inl O))
  cases u1;rcases u2 with⟨u3,_⟩|⟨_,cl,u4,u5⟩
  .have:some d4=some NameKind.local:=O.symm.trans u3
   cases this
  have:cl=c:=by rw[hcx]at u4;exact(dg.inj u4).symm
  subst this;refine⟨t3,λs' R' hk' hlim' hR=>?_⟩;have kk:∀{b:Addr}{o:Obj},h'.get? b=some o->(∀es ep,o.data ≠ .dict es ep)->s'.heap.get? b=some o:=λg1 g2=>hk' _ (mem g1 (notL g1 g2))
  have f1:=kk hfo (λ_ _ z=>by cases z);have f2:s'.heap.CodeRec (.ref c') q:=by
   obtain⟨c2,oc,vs2,tq,t,B,w3,w4⟩:=h;exact⟨c2,oc,vs2,tq,t,kk B (λ_ _ z=>by rw[w3]at z;cases z),w3,w4⟩
  have f3:s'.heap.IsCell cl (some (.ref b)):=by
   obtain⟨o,t,B⟩:=u5;exact⟨o,kk t (λ_ _ z=>by rw[B]at z;cases z),B⟩
  have f4:s'.heap.IsList b it2.toArray:=by
   obtain⟨o,t,B,w3,w4⟩:=pl2.isList;exact⟨o,kk t (λ_ _ z=>by rw[w4]at z;cases z),B,w3,w4⟩
  have f5:∀{it5:Array Value},IsTup h' b2 it5->IsTup s'.heap b2 it5:=λ⟨o,t,B,w3,w4⟩=>⟨o,kk t (λ_ _ z=>by rw[w4]at z;cases z),B,w3,w4⟩
  exact T9 (i:=z) (j:=j) (its:=it2.toArray) f1 f2 (by have:=hr.dp;show X.A.depth<_;lia) hlim' (λu=>hbind _ _ _ _ u) hco hgen hk hcells hy hxf hxd hyd hxc f3 f4 (by rwa[bG,<-l2]) (by rw[bG,<-l2];exact j5)
   (by rw[bG,<-l2];exact hz2) (by rw[bG,<-l2];exact j1) (by simpa using j6) (f5 pl3) (by simp) hR
 have fin:∀(D:Addr)(M:dm)(ec Z:Nat)(is:List V)(ds:List D3.D)(vo:List Value),Vals is vo->is.length<=sizeLine->(∀(Hx:Hp),RAs X.K ok1 true Hx ys l->RAs X.K ok0 false Hx is ds) ->
  uz l ns=ds->Fr (Att.pX h') X.env.locals M m->News (Att.pX h') X.env.locals M ((D,seqObj "list" (iU vo) ec)::pK (Att.pX h') h' X.env.locals)->(∀z∈pK (Att.pX h') h' X.env.locals,z.1<D) ->
  EP X pins σ Q (.ref D) {s1 with heap:=M,toks:=Z}:=λD M ec Z is ds vo v1 v2 v3 v4 F3 N3 lt=>by
  have kept3:=λb o hb g=>(N3 (b,o) (aA _ (mem g hb))).1
  have hD:h'.get? D=none:=by
   cases g:h'.get? D with
   |none=>rfl
   |some o=>
    by_cases z:D=X.env.locals
    .exact absurd z (N3 _ (aD ..)).2.1
    .exact absurd (lt (D,o) (mem g z)) (jf _)
  have hn:H2 D=none:=by
   cases g:H2 D with
   |none=>rfl
   |some u=>
    obtain⟨w,hw⟩:=BJ (L.hok D u g);rw[show h'.get? D=some w from hw]at hD;cases hD
  have new:iB X.prog X.w (upd H2 D (.lst is)) M D (.lst is):=⟨v2,vo,ec,v1,(N3 _ (aD ..)).1⟩;have J:=Tt (s:={s1 with heap:=h',toks:=tk}) (h':=M) L E F3.ns kept3 hD new;refine⟨.ref D,_,J.tok Z,rfl,q0 _ _ ((sm1.trans T).trans (eO hn _)) (.inr ⟨D,is,ds,rfl,(by show d5 (uz l ns)=_;rw[v4]),(sm1.trans T).free hn,dH,?_⟩)⟩;exact(v3 _ (Y.same (eO hn _))).imp (λ_ z=>z.elim) (λz=>z)
 by_cases h1:l.length<=1
 .refine T_ (Att.Ny E) Et pli.isList (by rw[len];exact h1) calls hlim λD M ec Z F3 N3 lt=>?_
  exact fin D M ec Z ys l its F (by rw[Y.length];exact bO h1 (by decide)) (λHx r=>RAs.flat hc.2 r) (by unfold uz;rw[if_pos h1]) F3 N3 lt
 .refine P0 (Att.Ny E) Et pli.isList (by lia) (by lia) calls hlim λD M ec Z F3 N3 lt=>?_
  have eo:uz l ns=(uO its.length (ltK ns)).map λi=>l.getD i .none:=by unfold uz;rw[if_neg h1,len];rfl
  have pm:=qt (n:=its.length) (by lia) (ltK ns);refine fin D M ec Z ((uO its.length (ltK ns)).map λi=>ys.getD i .non) _ _ ?_ ?_ ?_ eo F3 N3 lt
  .generalize uO its.length (ltK ns)=is
   induction is with
   |nil=>exact .nil
   |cons i is ih=>exact .cons (B_ F i) ih
  .rw[au,pm.length_eq,bQ,len];exact bO (gB hc.1) (by decide)
  .intro Hx r;generalize uO its.length (ltK ns)=is
   induction is with
   |nil=>exact .nil
   |cons i is ih=>exact .cons (RA.flat (Gv hc.2 i) (J0 r i)) ih
end
def Ud{K:Frag} (Y:K.In h) (O:h.get? k=some (tabObj #[])) (J:codeHdIn K c k=true) (hn:K.lookup k=none) :
 (∀t∈[(k,m,lp)],h.get? t.1=some {cls:=.none,data:=.fields #[]})/\(∀t∈[(k,m,lp)],isCodeTable h t.1)/\∀t∈[(k,m,lp)],K.lookup t.1=none:=
 ⟨λt Z=>by rwa[aB.mp Z],λt Z=>by rw[aB.mp Z];exact((codeHd_of_K Y J).tab O).isCodeTable,λt Z=>by rwa[aB.mp Z]⟩
def P_ : ∀t∈[(c,k,lp)],∀t'∈[(c,k,lp)],t.1=t'.1->t=t':=λt Y t' Z _=>(aB.mp Y).trans (aB.mp Z).symm
def Qa (hn:k.names=[(m,.local),(x,.free)]) (h:env.cells.lookup x=some c):closureFor k env=pure [(x,c)]:=by
 unfold closureFor;rw[hn];simp[cellOf,h]
section
variable{k:Nat}{fs:FS}{fl:List Fl}{Pt:Addr}{q:Str}{lp:Pos}
structure DgT(K:PySem.W.Frag)(mg:Str->Option Value)(x:Str)(st:Stmt)(ps:List Str)(Pt:Addr)(q:Str)(lp:Pos):Prop where
 ex:∃(f:Addr)(fd:du)(c:Addr),FunD K x st f fd/\Binds K fd ps []/\mg x=some (.ref f)/\fd.code = .ref c/\codeHdIn K c Pt=true
 tb:(Pt,q,lp)∈tabs
def X3 {kV:Value} (X:K.In h) (G:h.Ns mainGlobals mg)
 (hb:∀(kV doc pm:Value)(an:Option Addr)(cdv ct:Value)(us:List Value),us.length=ps.length->bindArgs (PySem.W.fnOf x x (m_ st) (gR st) (aX st) .none kV doc pm an cdv ct) ⟨us,[]⟩=pure (ps.zip us))
 (a:PySem.W.nsIn K mainGlobals x=some (some (.ref m))) (l:K.lookup m=some ⟨oc,od,.func (PySem.W.fnOf x x (m_ st) (gR st) (aX st) .none kV dc pm an (.ref c) ct),sl⟩) (J:PySem.W.codeIn K (.ref c) x=true) (k:PySem.W.keepIn K (.ref m)=true)
 (hd:codeHdIn K c Pt=true) (tb:(Pt,q,lp)∈tabs):DgT K mg x st ps Pt q lp:=
 ⟨⟨_,_,c,⟨⟨oc,od,.none,kV,dc,pm,an,.ref c,ct,sl,rfl,l,J⟩,k⟩,.all (hb kV dc pm an (.ref c) ct),PySem.W.mg_of X G a,rfl,hd⟩,tb⟩
def okT (F:FunD K x st m fd) (hcd:fd.code = .ref c) (S:FnScope N ps (aX st)) (len:∀vs H Q E,sp vs H Q E->vs.length=ps.length)
 (J:∀(A:db)(outer:List Env)(s:cB)(H:Hp)(vs:List V)(Q:VK)(E:XK),Room k (A.deeper (envOfC x (aX st) s.heap.objs.size m (.ref c)))->sp vs H Q E ->
  ∃t,PSs (jx CX0 P w K mg base N x (aX st) m (.ref c) A outer s H E).nox (gR st) t/\t {nx:=λ_ H'=>Q .non H',rt:=Q} (L2.start N vs) H):FnOk P w K mg base CX0 (k+1) m fd ps sp:=by
 obtain⟨oc,od,dV,kV,doc,pm,an,cdv,ct,osl,rfl,lk,Z⟩:=F.ex;have e:cdv = .ref c:=hcd;subst e;refine Nt lk Z S len λA outer s H vs Q E X Y=>?_
 obtain⟨t,h,q⟩:=J A outer s H vs Q E X Y;exact⟨t,h.nox,q⟩
def X4(Dd:DgT K mg x st ps Pt q lp)(S:FnScope N ps (aX st))(O:∀i,i<ps.length->fl[i]? = some .A)(hN:ps.length<=N.length)
 (J:∀(f c:Addr)(A:db)(outer:List Env)(s:cB)(H:Hp)(E:XK),codeHdIn K c Pt=true->Room k (A.deeper (envOfC x (aX st) s.heap.objs.size f (.ref c)))->DSs (cx P w K mg base N x st f (.ref c) A outer s H E) fl (gR st) fs) :
 Has P w K mg base (k+1) x ps (spD K (fnD ps.length (N.length-ps.length) fs)):=by
 obtain⟨f,fd,c,X,b,m,hcd,Y⟩:=Dd.ex;refine⟨f,fd,?_,b,X.kp,m⟩;refine okT X hcd S (λvs H Q E h=>?_) (λA outer s H vs Q E V h=>?_)
 .obtain⟨ds,d,r,Z,_⟩:=h;unfold fnD at Z;by_cases z:ds.length=ps.length
  .rwa[r.2.length]
  .rw[if_neg z]at Z;cases Z
 .obtain⟨ds,d,r,Z,q⟩:=h;refine⟨_,J f c A outer s H E Y V,?_⟩;unfold fnD at Z;by_cases z:ds.length=ps.length
  .rw[if_pos z]at Z;split at Z
   .next U e=>
    cases Z;exact⟨_,_,_,_,jw ps.length O z hN r,e,λv H' s r=>q v H' s r⟩
   .next δ' e=>
    cases Z;exact⟨_,_,_,_,jw ps.length O z hN r,e,λW σ' H' R'=>q .non H' R'.same0 .non⟩
   .cases Z
  .rw[if_neg z]at Z;cases Z
end
end XL
namespace D3
open L2 My
section
variable{X:Cx}{fl:List Fl}{a b:Expr}{es:List Expr}{f fa:FE}{k:Kd}
def vA(i:Nat) (J:fl[i]? = some .A:=by rfl) (Y:X.N[i]? = some c:=by rfl) (O:Vis X.env.scope c:=by first|exact Or.inl rfl|exact Or.inr (Or.inl rfl)|exact Or.inr (Or.inr rfl)) (hd:(c==("__debug__":Str))=false:=by decide)
 (hcd:(c==("__classdict__":Str))=false:=by decide):DE X fl .A (.Name c pos) (ak i):=Cw i J Y O hd hcd
def vP(i:Nat) (J:fl[i]? = some .A:=by rfl) (Y:X.N[i]? = some c:=by rfl) (O:Vis X.env.scope c:=by first|exact Or.inl rfl|exact Or.inr (Or.inl rfl)|exact Or.inr (Or.inr rfl)) (hd:(c==("__debug__":Str))=false:=by decide)
 (hcd:(c==("__classdict__":Str))=false:=by decide):DE X fl .P (.Name c pos) (ak i):=bZ (Cw i J Y O hd hcd)
def vB(i:Nat) (J:fl[i]? = some .A:=by rfl) (Y:X.N[i]? = some c:=by rfl) (O:Vis X.env.scope c:=by first|exact Or.inl rfl|exact Or.inr (Or.inl rfl)|exact Or.inr (Or.inr rfl)) (hd:(c==("__debug__":Str))=false:=by decide)
 (hcd:(c==("__classdict__":Str))=false:=by decide):DE X fl (.B []) (.Name c pos) (ak i):=cW (Cw i J Y O hd hcd)
def iP{i j pos}:DE X fl .P (.Constant (.int i) j pos) (dC (.int i)):=bB lQ
def iC{i j pos}:DE X fl .C (.Constant (.int i) j pos) (dC (.int i)):=iK lQ
def dz:DB X fl k [] aJ:=Oa
def dq(h:DE X fl k e f)(O:DB X fl k es fr)(hk:isR k=true:=by rfl)(J:starEach (e::es) X.env=(false,eval e X.env)::starEach es X.env:=by exact fZ rfl):DB X fl k (e::es) (aj f fr):=Sg hk h O J
def dx (ha:DE X fl (.B L) a fa) (hb:DE X fl .P b fb) (J:Cm b:=by exact λ_ _=>rfl):DE X fl .A (.Subscript a b pos) (dOp gIx fa fb):=Zu ha hb J
def sA(hN:X.N.Nodup)(h:DE X fl .A e f)(O:fl[i]? = some .A:=by rfl)(hi:X.N[i]? = some x:=by rfl)(Y:X.env.scope.names.lookup x=some .local\/X.env.scope.names.lookup x=some .cell:=by first|exact Or.inl rfl|exact Or.inr rfl)
 (Z:swapsWith e (some (.Name x pos')) pos.line X.env=pure false:=by rfl) (J:X.fn x=true\/X.env.scope.names.lookup x=some .local:=by first|exact .inl rfl|exact .inr rfl) :
 DS1 X fl (.Assign [.Name x pos'] e pos) (bL i f):=R9 O hN hi Y h Z J
def gN'(Z:X.N.Nodup)(O:fl[i]? = some .A:=by rfl)(hi:X.N[i]? = some x:=by rfl)(Y:X.env.scope.names.lookup x=some .local\/X.env.scope.names.lookup x=some .cell:=by first|exact Or.inl rfl|exact Or.inr rfl)
 (J:X.fn x=true\/X.env.scope.names.lookup x=some .local:=by first|exact .inl rfl|exact .inr rfl):DG X fl [i] (.Name x pos) (gNl i):=R_ O Z hi Y J
end
def fsc (a:sc.kind = .function:=by rfl) (b:sc.isCoroutine=false:=by rfl) (c:sc.isGenerator=false:=by rfl) (d:N.Nodup:=by decide +kernel) (e:N.take k.length=k:=by rfl) (f:∀x∈k,sc.names.lookup x=some .local\/sc.names.lookup x=some .cell:=by decide +kernel) (g:∀y∈sc.names,y.2 ≠ .free:=by decide +kernel):FnScope N k sc:=⟨a,b,c,d,e,f,g⟩
end D3
variable{r:D3.DS}{x0 x1 x2 x3 x4 x5 x6 x7 x8 x9 x10:Option D3.U}
namespace D3
def qS(o:Option Oc)(b:FS):Option Oc:=o.bind λo=>match o with
 | .nx δ'=>b δ'
 |o=>some o
def qI(o:Option Bool)(a b:FS)(δ:DS):Option Oc:=o.bind λt=>if t=true then a δ else b δ
noncomputable def qO(g:D->D->Option D)(a b:Option D):Option D:=a.bind λx=>b.bind λy=>g x y
def qU(g:D->Option D)(a:Option D):Option D:=a.bind g
def qC(a:Option D)(r:Option (List D)):Option (List D):=a.bind λx=>r.bind λr=>some (x::r)
def qF(F:List D->Option D)(l:Option (List D)):Option D:=l.bind F
def qR(a:Option D):Option Oc:=a.bind λd=>some (.rt d)
def vM(i:Nat)(a:Option D)(δ:DS):Option Oc:=if i<δ.length then a.bind λd=>some (.nx (δ.set i (some (.d d))))else none
noncomputable def Qc(a:Option D)(fb:FE)(δ:DS):Option D:=a.bind λx=>match x with
 | .bool true=>fb δ
 | .bool false=>some (.bool false)
 |_=>none
def qOr(a:Option D)(fb:FE)(δ:DS):Option D:=a.bind λx=>match x with
 | .bool true=>some (.bool true)
 | .bool false=>fb δ
 |_=>none
def qN(a:Option D):Option D:=a.bind λx=>match x with
 | .bool b=>some (.bool (!b))
 |_=>none
def qB(a:Option D):Option Bool:=a.bind λx=>match x with
 | .bool b=>some b
 |_=>none
def qTA(a:Option Bool)(b:FT)(δ:DS):Option Bool:=a.bind λx=>if x=true then b δ else some false
def qTO(a:Option Bool)(b:FT)(δ:DS):Option Bool:=a.bind λx=>if x=true then some true else b δ
def qTN(a:Option Bool):Option Bool:=a.map λx=>!x
def qE(a:Option Bool)(fa fb:FE)(δ:DS):Option D:=a.bind λb=>if b=true then fa δ else fb δ
def qL(a:Option D):Option (List D):=a.bind asList
def Z6(a:Option (List D))(g:FG)(b:FS)(δ:DS):Option Oc:=a.bind λl=>jj g b l δ
def qD(a:Option DS):Option Oc:=a.bind λδ'=>some (.nx δ')
def qG(a:Option D)(g:FG)(δ:DS):Option Oc:=a.bind λd=>(g d δ).bind λδ'=>some (.nx δ')
def qGs(a:Option DS)(r:List D->DS->Option DS)(l:List D):Option DS:=a.bind λδ'=>r l δ'
def qT(a:Option (List D)):Option D:=a.bind λl=>if l.length<=sizeLine then some (.tuple l)else none
def qK(a:Option (List D)):Option D:=a.bind λl=>if l.length<=sizeLine then some (.list l)else none
def qFl(p:D->Bool)(a:Option D):Option D:=a.bind λd=>if p d=true then some d else none
noncomputable def qA(i:Nat)(x a:Option D)(δ:DS):Option Oc:=x.bind λx=>a.bind λd=>match x with
 | .list l=>if l.length<1000000 then some (.nx (δ.set i (some (.d (.list (l++[d]))))))else none
 |_=>none
def qP(i:Nat)(a x k:Option D)(δ:DS):Option Oc:=a.bind λd=>x.bind λx=>k.bind λk=>match x,k with
 | .list l,.int j=>(pIx l.length j).bind λn=>some (.nx (δ.set i (some (.d (.list (l.set n d))))))
 |_,_=>none
def qCh(g':D->D->Option D)(z:Option D)(y:Option D)(fc:FE)(δ:DS):Option D:=z.bind λz=>match z with
 | .bool true=>qO g' y (fc δ)
 | .bool false=>some (.bool false)
 |_=>none
noncomputable def qC0(g g':D->D->Option D)(a b:Option D)(fc:FE)(δ:DS):Option D:=a.bind λx=>b.bind λy=>(g x y).bind λz=>match z with
 | .bool true=>(fc δ).bind λw=>g' y w
 | .bool false=>some (.bool false)
 |_=>none
def qFn(o:Option Oc):Option D:=match o with
 |some (.rt d)=>some d
 |some (.nx _)=>some .none
 |_=>none
def qLs(a:Option (List D)):Option D:=a.bind λr=>some (.list r)
def qCo(a:Option (List D))(g:FG)(c:FT)(e:FE)(t:Nat)(ix:List Nat)(δ:DS):Option D:=a.bind λl=>if l.length<=100000 then(fM g c e (jR t ix δ) l).bind λr=>some (.list r)else none
section
variable{a b:FS}{c c':FT}{fa:FE}{δ:DS}{g:D->D->Option D}{h:D->Option D}{F:List D->Option D}{G:FG}{d:D}
theorem Z7:bD a b δ=qS (a δ) b:=rfl
theorem Qd:qS (some (.nx δ')) b=b δ':=(rfl)
theorem Qe:qS (some (.rt d)) b=some (.rt d):=rfl
theorem Qf:qS (some (.bk δ')) b=some (.bk δ'):=rfl
theorem Qg:qS (some (.ct δ')) b=some (.ct δ'):=rfl
theorem Z8:bV δ=some (.nx δ):=rfl
theorem aj6:sBk δ=some (.bk δ):=rfl
theorem aj7:sCt δ=some (.ct δ):=rfl
theorem aj8:sIf c a b δ=qI (c δ) a b δ:=rfl
theorem X5:qI (some true) a b δ=a δ:=(rfl)
theorem X6:qI (some false) a b δ=b δ:=(rfl)
theorem v_op:dOp g fa fb δ=qO g (fa δ) (fb δ):=rfl
theorem X7{x:D}:qO g (some x) (some y)=g x y:=(rfl)
theorem aj9:dUn h fa δ=qU h (fa δ):=rfl
theorem X8{x:D}:qU h (some x)=h x:=(rfl)
theorem X_:aJ δ=some []:=rfl
theorem Ue:aj fa fr δ=qC (fa δ) (fr δ):=rfl
theorem LQ{x:D}:qC (some x) (some l)=some (x::l):=rfl
theorem Yb:dCall F fr δ=qF F (fr δ):=rfl
theorem Qh:qF F (some l)=F l:=(rfl)
theorem Z9:b_ fa δ=qR (fa δ):=rfl
theorem Ug:qR (some d)=some (.rt d):=rfl
theorem Yc:Zr δ=some (.rt .none):=rfl
theorem Z_:bL i fa δ=vM i (fa δ) δ:=rfl
theorem ak0:vM (i+12) (some d) δ=if i+12<δ.length then some (.nx (δ.set (i+12) (some (.d d))))else none:=(rfl)
theorem v_c:dC d δ=some d:=rfl
theorem v_and:ud fa fb δ=Qc (fa δ) fb δ:=rfl
theorem Uh:Qc (some (.bool true)) fb δ=fb δ:=(rfl)
theorem Ui:Qc (some (.bool false)) fb δ=some (.bool false):=rfl
theorem v_or:dOr fa fb δ=qOr (fa δ) fb δ:=rfl
theorem Yd:qOr (some (.bool true)) fb δ=some (.bool true):=rfl
theorem Ye:qOr (some (.bool false)) fb δ=fb δ:=(rfl)
theorem v_not:R3 fa δ=qN (fa δ):=rfl
theorem Uj{b:Bool}:qN (some (.bool b))=some (.bool (!b)):=rfl
theorem ak1:aQ fa δ=qB (fa δ):=rfl
theorem Yg{b:Bool}:qB (some (.bool b))=some b:=rfl
theorem Yh:D3.rW c c' δ=qTA (c δ) c' δ:=rfl
theorem zH:qTA (some true) c δ=c δ:=(rfl)
theorem zJ:qTA (some false) c δ=some false:=rfl
theorem aa0:D3.tOr c c' δ=qTO (c δ) c' δ:=rfl
theorem Uk:qTO (some true) c δ=some true:=rfl
theorem Ul:qTO (some false) c δ=c δ:=(rfl)
theorem Yi:D3.ig c δ=qTN (c δ):=rfl
theorem Qi{b:Bool}:qTN (some b)=some (!b):=rfl
theorem v_ite:dIf c fa fb δ=qE (c δ) fa fb δ:=rfl
theorem Um:qE (some true) fa fb δ=fa δ:=(rfl)
theorem Uo:qE (some false) fa fb δ=fb δ:=(rfl)
theorem aa1:nU fa δ=qL (fa δ):=rfl
theorem Uq:qL (some (.list l))=some l:=rfl
theorem aa2:pC fr G b δ=Z6 (fr δ) G b δ:=rfl
theorem Ur:Z6 (some l) G b δ=jj G b l δ:=(rfl)
theorem LR:jj G b [] δ=some (.nx δ):=rfl
theorem aa3:ai7 fa G δ=qG (fa δ) G δ:=rfl
theorem Us:qG (some d) G δ=qD (G d δ):=(rfl)
theorem Ut:qD (some δ')=some (.nx δ'):=rfl
theorem ak2:gNl (i+12) d δ=if i+12<δ.length then some (δ.set (i+12) (some (.d d)))else none:=(rfl)
theorem ak3:gTn n gs (.tuple l) δ=if l.length=n then gs l δ else none:=(rfl)
theorem aa4:n8 [] δ=some δ:=rfl
theorem aa5:fQ G gs (d::l) δ=qGs (G d δ) gs l:=rfl
theorem Uu:qGs (some δ') gs l=gs l δ':=(rfl)
theorem aa6:dTup fr δ=qT (fr δ):=rfl
theorem Uv:qT (some l)=if l.length<=sizeLine then some (.tuple l)else none:=(rfl)
theorem ak4:fY fr δ=qK (fr δ):=rfl
theorem Yj:qK (some l)=if l.length<=sizeLine then some (.list l)else none:=(rfl)
theorem Yk:dW fa δ=qFl flat (fa δ):=rfl
theorem aa7:vd fa δ=qFl fl1 (fa δ):=rfl
theorem Yl{p:D->Bool}:qFl p (some d)=if p d=true then some d else none:=(rfl)
theorem aa8:NT i fa δ=qA i (ak i δ) (fa δ) δ:=rfl
theorem Uw:qA i (some (.list l)) (some d) δ=if l.length<1000000 then some (.nx (δ.set i (some (.d (.list (l++[d]))))))else none:=(rfl)
theorem aa9:yI i fk fa δ=qP i (fa δ) (ak i δ) (fk δ) δ:=rfl
theorem Ux{j:Int}:qP i (some d) (some (.list l)) (some (.int j)) δ=(pIx l.length j).bind λn=>some (.nx (δ.set i (some (.d (.list (l.set n d)))))):=(rfl)
theorem Uy:o7 g g' fa fb fc δ=qC0 g g' (fa δ) (fb δ) fc δ:=rfl
theorem L_{x:D}:qC0 g g' (some x) (some y) fc δ=qCh g' (g x y) (some y) fc δ:=(rfl)
theorem Ma{y:Option D}:qCh g' (some (.bool true)) y fc δ=qO g' y (fc δ):=(rfl)
theorem Mf{y:Option D}:qCh g' (some (.bool false)) y fc δ=some (.bool false):=rfl
theorem ab0{p q:Nat}:fnD p q b ds=if ds.length=p then qFn (b (ds.map (λd=>some (.d d))++aW q none))else none:=(rfl)
theorem Uz:qFn (some (.rt d))=some d:=rfl
theorem UG:qFn (some (.nx δ'))=some .none:=rfl
theorem Ym{t:Nat}:jP fr G c fa t ix δ=qCo (fr δ) G c fa t ix δ:=rfl
theorem Qj{t:Nat}:qCo (some l) G c fa t ix δ=if l.length<=100000 then qLs (fM G c fa (jR t ix δ) l)else none:=(rfl)
theorem ak5:qLs (some l)=some (.list l):=rfl
theorem ab1:D3.jV δ=some true:=rfl
theorem Yn{x:D}:ak 0 (some (.d x)::r)=some x:=rfl
theorem Yo{y:Option U}:ak (i+1) (y::r)=ak i r:=rfl
theorem ak6:vM 0 (some d) (x0::r)=some (.nx (some (.d d)::r)):=rfl
theorem ak7:gNl 0 d (x0::r)=some (some (.d d)::r):=rfl
theorem ak8:vM 1 (some d) (x0::x1::r)=some (.nx (x0::some (.d d)::r)):=rfl
theorem ak9:gNl 1 d (x0::x1::r)=some (x0::some (.d d)::r):=rfl
theorem al0:vM 2 (some d) (x0::x1::x2::r)=some (.nx (x0::x1::some (.d d)::r)):=rfl
theorem al1:gNl 2 d (x0::x1::x2::r)=some (x0::x1::some (.d d)::r):=rfl
theorem al2:vM 3 (some d) (x0::x1::x2::x3::r)=some (.nx (x0::x1::x2::some (.d d)::r)):=rfl
theorem al3:gNl 3 d (x0::x1::x2::x3::r)=some (x0::x1::x2::some (.d d)::r):=rfl
theorem al4:vM 4 (some d) (x0::x1::x2::x3::x4::r)=some (.nx (x0::x1::x2::x3::some (.d d)::r)):=rfl
theorem al5:gNl 4 d (x0::x1::x2::x3::x4::r)=some (x0::x1::x2::x3::some (.d d)::r):=rfl
theorem al6:vM 5 (some d) (x0::x1::x2::x3::x4::x5::r)=some (.nx (x0::x1::x2::x3::x4::some (.d d)::r)):=rfl
theorem al7:gNl 5 d (x0::x1::x2::x3::x4::x5::r)=some (x0::x1::x2::x3::x4::some (.d d)::r):=rfl
theorem al8:vM 6 (some d) (x0::x1::x2::x3::x4::x5::x6::r)=some (.nx (x0::x1::x2::x3::x4::x5::some (.d d)::r)):=rfl
theorem al9:gNl 6 d (x0::x1::x2::x3::x4::x5::x6::r)=some (x0::x1::x2::x3::x4::x5::some (.d d)::r):=rfl
theorem am0:vM 7 (some d) (x0::x1::x2::x3::x4::x5::x6::x7::r)=some (.nx (x0::x1::x2::x3::x4::x5::x6::some (.d d)::r)):=rfl
theorem am1:gNl 7 d (x0::x1::x2::x3::x4::x5::x6::x7::r)=some (x0::x1::x2::x3::x4::x5::x6::some (.d d)::r):=rfl
theorem am2:vM 8 (some d) (x0::x1::x2::x3::x4::x5::x6::x7::x8::r)=some (.nx (x0::x1::x2::x3::x4::x5::x6::x7::some (.d d)::r)):=rfl
theorem am3:gNl 8 d (x0::x1::x2::x3::x4::x5::x6::x7::x8::r)=some (x0::x1::x2::x3::x4::x5::x6::x7::some (.d d)::r):=rfl
theorem am4:vM 9 (some d) (x0::x1::x2::x3::x4::x5::x6::x7::x8::x9::r)=some (.nx (x0::x1::x2::x3::x4::x5::x6::x7::x8::some (.d d)::r)):=rfl
theorem am5:gNl 9 d (x0::x1::x2::x3::x4::x5::x6::x7::x8::x9::r)=some (x0::x1::x2::x3::x4::x5::x6::x7::x8::some (.d d)::r):=rfl
theorem ab2:vM 10 (some d) (x0::x1::x2::x3::x4::x5::x6::x7::x8::x9::x10::r)=some (.nx (x0::x1::x2::x3::x4::x5::x6::x7::x8::x9::some (.d d)::r)):=rfl
theorem ab3:gNl 10 d (x0::x1::x2::x3::x4::x5::x6::x7::x8::x9::x10::r)=some (x0::x1::x2::x3::x4::x5::x6::x7::x8::x9::some (.d d)::r):=rfl
theorem ab4{J:Option U}:vM 11 (some d) (x0::x1::x2::x3::x4::x5::x6::x7::x8::x9::x10::J::r)=some (.nx (x0::x1::x2::x3::x4::x5::x6::x7::x8::x9::x10::some (.d d)::r)):=rfl
theorem ab5{J:Option U}:gNl 11 d (x0::x1::x2::x3::x4::x5::x6::x7::x8::x9::x10::J::r)=some (x0::x1::x2::x3::x4::x5::x6::x7::x8::x9::x10::some (.d d)::r):=rfl
end
section
variable{i j:Int}{l m:List D}{d:D}
theorem ab6:jg (.int i) (.int j)=some (.int (i+j)):=rfl
theorem ab7:z8 (.int i) (.int j)=some (.int (i-j)):=rfl
theorem am6:gLt (.int i) (.int j)=some (.bool (decide (i<j))):=rfl
theorem am7:gLe (.int i) (.int j)=some (.bool (decide (i<=j))):=rfl
theorem am8:gGt (.int i) (.int j)=some (.bool (decide (j<i))):=rfl
theorem am9:gGe (.int i) (.int j)=some (.bool (decide (j<=i))):=rfl
theorem V6:gEq (.int i) (.int j)=some (.bool (decide (i=j))):=rfl
theorem V7:gNe (.int i) (.int j)=some (.bool (!decide (i=j))):=rfl
theorem ab8:jk [.list l]=some (.int l.length):=rfl
theorem Yp:jk [.tuple l]=some (.int l.length):=rfl
theorem m6:∀ns:List Int,jQ (ns.map .int)=some ns
 |[]=>rfl
 |n::r=>by rw[bJ,jQ,m6 r];rfl
theorem ab9:ai8 [.int i]=some (.int (if i<0 then -i else i)):=rfl
theorem Qk:sE [.int i,.int j]=some (.int (if j>i then j else i)):=rfl
theorem V8:uo [.int i,.int j]=some (.int (if j<i then j else i)):=rfl
theorem ac0:Cu (.int i)=some (.int (-i)):=rfl
theorem an0:gIx (.list l) (.int i)=pAt l i:=(rfl)
theorem ac1:gIx (.tuple l) (.int i)=pAt l i:=(rfl)
theorem tu:mF (.list l) (.list m)=if l.length+m.length<=1000000 then some (.list (l++m))else none:=(rfl)
theorem Yq:uq (.list l)=some (.list l):=rfl
theorem UJ:uq (.tuple l)=some (.list l):=rfl
theorem ac2:pAt (d::l) 0=some d:=by
 unfold pAt pIx;rw[if_pos (by decide),if_pos (by simp)];rfl
end
noncomputable def ac3(i j:Nat)(a:Option (List D))(δ:DS):Option Oc:=a.bind λl=>match l with
 |[x,y]=>if i<δ.length/\j<δ.length then some (.nx ((δ.set i (some (.d x))).set j (some (.d y))))else none
 |_=>none
def vN(a:Option (List D)):Option (List D):=a.bind λl=>match l with
 |[.int j]=>if ug j=true then some (d_ 0 j)else none
 |_=>none
def Ql(a:Option (List D)):Option (List D):=a.bind λl=>match l with
 |[.int i,.int j]=>if(ug i&&ug j)=true then some (d_ i j)else none
 |_=>none
def qSl(x:Option D)(a b:Option (Option Int)):Option D:=x.bind λx=>a.bind λa=>b.bind λb=>match x with
 | .list l=>some (.list (cuD l a b))
 |_=>none
def qOP(x:Option D):Option (Option Int):=x.bind λx=>match x with
 | .int i=>some (some i)
 |_=>none
def qEn(x:Option D):Option (List D):=x.bind λd=>match d with
 | .list l=>some (lE l)
 |_=>none
section
variable{a b:FS}{fa:FE}{δ:DS}{g:FG}
theorem ac4:ai9 i j fr δ=ac3 i j (fr δ) δ:=rfl
theorem UL{x:D}:ac3 i j (some [x,y]) δ=if i<δ.length/\j<δ.length then some (.nx ((δ.set i (some (.d x))).set j (some (.d y))))else none:=(rfl)
theorem Yr:sy fr δ=vN (fr δ):=rfl
def GF (h : -(2^62)<=k) (h2:k<2^62):vN (some [.int k])=some (d_ 0 k):=by
 show(if ug k=true then some (d_ 0 k)else none)=_;rw[if_pos];unfold ug;rw[dTr h,dTr h2];rfl
theorem Ys:NZ fr δ=Ql (fr δ):=rfl
def an1{i k:Int}(h : -(2^62)<=k)(h2:k<2^62)(O : -(2^62)<=i)(J:i<2^62):Ql (some [.int i,.int k])=some (d_ i k):=by
 show(if(ug i&&ug k)=true then some (d_ i k)else none)=_;rw[if_pos];unfold ug;rw[dTr h,dTr h2,dTr O,dTr J];rfl
theorem an2{lo hi:FO}:dSl fa lo hi δ=qSl (fa δ) (lo δ) (hi δ):=rfl
theorem Yt{p r:Option Int}:qSl (some (.list l)) (some p) (some r)=some (.list (cuD l p r)):=rfl
theorem an3:yJ δ=some none:=rfl
theorem an4:yK fa δ=qOP (fa δ):=rfl
theorem Yu{k:Int}:qOP (some (.int k))=some (some k):=rfl
theorem Yv:vf fa δ=qEn (fa δ):=rfl
theorem Qm:qEn (some (.list l))=some (lE l):=rfl
def mR(Inv:Nat->DS->Prop):∀(l:List D)(δ:DS),Inv 0 δ->(∀i d δ,l[i]? = some d->Inv i δ->∃δ1 δ',g d δ=some δ1/\(b δ1=some (.nx δ')\/b δ1=some (.ct δ'))/\Inv (i+1) δ')->∃δ',jj g b l δ=some (.nx δ')/\Inv l.length δ':=by
 have W:∀(l:List D)(k:Nat)(δ:DS),Inv k δ->(∀i d δ,l[i]? = some d->Inv (k+i) δ->∃δ1 δ',g d δ=some δ1/\(b δ1=some (.nx δ')\/b δ1=some (.ct δ'))/\Inv (k+i+1) δ')->∃δ',jj g b l δ=some (.nx δ')/\Inv (k+l.length) δ':=by
  intro l
  induction l with
  |nil=>exact λk δ h _=>⟨δ,rfl,h⟩
  |cons d r V=>
   intro k δ h Y;obtain⟨δ1,δ',e1,e2,e3⟩:=Y 0 d δ rfl h;obtain⟨X,e4,e5⟩:=V (k+1) δ' e3 λi U Z hd hi=>by
    have:=Y (i+1) U Z (by simpa using hd) (by rwa[show k+(i+1)=k+1+i by lia]);rwa[show k+(i+1)+1=k+1+i+1 by lia]at this
   refine⟨X,?_,by rwa[bI,show k+(r.length+1)=k+1+r.length by lia]⟩;rw[jj,e1,aG];rcases e2 with e2|e2
   .rwa[e2]
   .rwa[e2]
 intro l δ h Y;have:=W l 0 δ h λi d δ hd hi=>by
  have:=Y i d δ hd (by rw[jA]at hi;exact hi);rwa[jA]
 rwa[jA]at this
end
def qX(a:Option D)(δ:DS):Option Oc:=a.bind λ_=>some (.nx δ)
theorem Yw{fa:FE}:su fa δ=qX (fa δ) δ:=rfl
theorem Qn:qX (some d) δ=some (.nx δ):=rfl
theorem Qo{g J:D->D->Option D}{fa fb fc fd:FE}:xQ g g' J fa fb fc fd δ=Qc (qO g (fa δ) (fb δ)) (o7 g' J fb fc fd) δ:=by
 unfold xQ Qc o7 qO
 cases fa δ with
 |none=>rfl
 |some x=>cases fb δ<;>rfl
def qZ(a b:Option D):Option (List D):=a.bind λd=>b.bind λe=>match d,e with
 | .list l,.list m=>some (uI l m)
 |_,_=>none
theorem ac5{f g:FE}:W5 f g δ=qZ (f δ) (g δ):=rfl
theorem U0{m:List D}:qZ (some (.list l)) (some (.list m))=some (uI l m):=rfl
theorem an5{fa:FE}:dN1 fa δ=qFl (λd=>decide (nl d<=1)) (fa δ):=rfl
theorem ac6:flat .none=true:=rfl
theorem an6{b:Bool}:flat (.bool b)=true:=rfl
theorem f_int{i:Int}:flat (.int i)=true:=rfl
theorem ac7:flat (.str x)=true:=rfl
theorem ac8:flat (.list l)=false:=rfl
theorem f_tup:flat (.tuple l)=flats l:=rfl
theorem ac9:flats []=true:=rfl
theorem Yx:flats (d::l)=(flat d&&flats l):=rfl
theorem Yy:fl1 .none=true:=rfl
theorem ad0{b:Bool}:fl1 (.bool b)=true:=rfl
theorem Yz{i:Int}:fl1 (.int i)=true:=rfl
theorem YB:fl1 (.str x)=true:=rfl
theorem YC:fl1 (.list l)=flats l:=rfl
theorem YD:fl1 (.tuple l)=flats l:=rfl
theorem an7{c:String}:gIs c d=some (.bool (isT c (tyD d))):=rfl
theorem ad1:v8 d=some (.bool (isNone d)):=rfl
theorem YF:lD d=some (.bool (!isNone d)):=rfl
theorem ad2:isNone .none=true:=rfl
theorem an8{b:Bool}:isNone (.bool b)=false:=rfl
theorem ad3{i:Int}:isNone (.int i)=false:=rfl
theorem ad4:isNone (.str x)=false:=rfl
theorem ad5:isNone (.list l)=false:=rfl
theorem ad6:isNone (.tuple l)=false:=rfl
theorem ad7{l:List (D×D)}:isNone (.dict l)=false:=rfl
end D3
local macro_rules|`(tactic|simp![$xs,*]$[$l:location]?)=>do let a←("D3.ac6 D3.an6 D3.f_int D3.ac7 D3.ac8 D3.f_tup D3.ac9 D3.Yx D3.Yy D3.ad0 D3.Yz D3.YB D3.YC D3.YD D3.an7 D3.ad1 D3.YF D3.ad2 D3.an8 D3.ad3 D3.ad4 D3.ad5 D3.ad6 D3.ad7 List.length_cons List.length_nil List.map_cons List.map_nil List.replicate_succ List.replicate_zero List.cons_append List.nil_append List.append_nil List.set_cons_zero List.set_cons_succ Nat.zero_add if_true decide_true decide_false Int.cast_ofNat_Int Bool.not_true Bool.not_false Bool.and_self D3.ak6 D3.ak7 D3.ak8 D3.ak9 D3.al0 D3.al1 D3.al2 D3.al3 D3.al4 D3.al5 D3.al6 D3.al7 D3.al8 D3.al9 D3.am0 D3.am1 D3.am2 D3.am3 D3.am4 D3.am5 D3.ab2 D3.ab3 D3.ab4 D3.ab5 D3.an5 D3.ac5 D3.U0 D3.Yw D3.Qn D3.Qo D3.Z7 D3.Qd D3.Qe D3.Qf D3.Qg D3.Z8 D3.aj6 D3.aj7 D3.aj8 D3.X5 D3.X6 D3.v_op D3.X7 D3.aj9 D3.X8 D3.X_ D3.Ue D3.LQ D3.Yb D3.Qh D3.Z9 D3.Ug D3.Yc D3.Z_ D3.ak0 D3.v_c D3.v_and D3.Uh D3.Ui D3.v_or D3.Yd D3.Ye D3.v_not D3.Uj D3.ak1 D3.Yg D3.Yh D3.zH D3.zJ D3.aa0 D3.Uk D3.Ul D3.Yi D3.Qi D3.v_ite D3.Um D3.Uo D3.aa1 D3.Uq D3.aa2 D3.Ur D3.LR D3.aa3 D3.Us D3.Ut D3.ak2 D3.ak3 D3.aa4 D3.aa5 D3.Uu D3.aa6 D3.Uv D3.ak4 D3.Yj D3.Yk D3.aa7 D3.Yl D3.aa8 D3.Uw D3.aa9 D3.Ux D3.Uy D3.Ma D3.Mf D3.ab0 D3.Uz D3.UG D3.Ym D3.Qj D3.ak5 D3.L_ D3.ab1 D3.Yn D3.Yo D3.ab6 D3.ab7 D3.am6 D3.am7 D3.am8 D3.am9 D3.V6 D3.V7 D3.ab8 D3.Yp D3.ab9 D3.Qk D3.V8 D3.ac0 D3.an0 D3.ac1 D3.tu D3.Yq D3.UJ D3.ac2 D3.ac4 D3.UL D3.Yr D3.Ys D3.an2 D3.Yt D3.an3 D3.an4 D3.Yu D3.Yv D3.Qm Int.reduceEq Int.reduceLE Int.reduceLT Nat.reduceAdd Nat.reduceEqDiff Nat.reduceLT Nat.reduceLeDiff reduceIte".splitOn " ").toArray.mapM λs=>`(Lean.Parser.Tactic.simpLemma|$(Lean.mkIdent s.toName):ident);`(tactic|simp only[$a,*,$xs,*]$[$l]?)
namespace My
noncomputable def wW(ns:List Int)(i:Int):Int:=
 if i<(ns.length:Int)then ns.getD i.toNat 0%1000000007
 else if ns=[]then 7919*i+5000011
 else ns.getD (i*7%(ns.length:Int)).toNat 0%1000000007+7919*i
def divs(n:Int):Nat->Int
 |0=>n
 |k+1=>divs n k/1000003
noncomputable def Kc(c i k m:Int):Int:=
 (((c+65537*i+3)*(1299709+15485863*k)%2147483629*((c+65537*i+3)*(1299709+15485863*k)%2147483629)%1500450271+104729) *
  ((c+65537*i+3)*(1299709+15485863*k)%2147483629*((c+65537*i+3)*(1299709+15485863*k)%2147483629)%1500450271+104729))%715827883/64%m
def g_(ns:List Int)(i k m:Int):Int:=
 if i<(ns.length:Int)/\10^40<=ns.getD i.toNat 0/\0<divs (ns.getD i.toNat 0) k.toNat then divs (ns.getD i.toNat 0) k.toNat%1000003%m
 else Kc (wW ns i) i k m
def ad8(ns:List Int)(i:Int):Int:=
 if i<(ns.length:Int)then ns.getD i.toNat 0%10^60 else g_ ns i 59 (10^6)*10^40+g_ ns i 60 (10^6)
def cY(ns:List Int)(i k:Int) (h:0<m):0<=g_ ns i k m/\g_ ns i k m<m:=by
 unfold g_ Kc;split
 .exact⟨rH _ (by lia),oY _ h⟩
 .exact⟨rH _ (by lia),oY _ h⟩
def Mg (h1:c<(ns.length:Int)) (h2:10^40<=ns.getD c.toNat 0) (J:0<divs (ns.getD c.toNat 0) k.toNat) :
 g_ ns c k m=divs (ns.getD c.toNat 0) k.toNat%1000003%m:=by
 unfold g_;rw[if_pos ⟨h1,h2,J⟩]
def uP (h:¬(c<(ns.length:Int)/\10^40<=ns.getD c.toNat 0/\0<divs (ns.getD c.toNat 0) k.toNat)) :
 g_ ns c k m=Kc (wW ns c) c k m:=by
 unfold g_;rw[if_neg h]
end My
namespace Com
open D3
def fH:List D->Option D:=fnD 1 0 (b_ (ud (dUn (gIs "int") (ak 0)) (R3 (dUn (gIs "bool") (ak 0)))))
def jy:List D->Option D:=fnD 2 0 (bD (sIf (aQ (dOp gLt (ak 1) (dCall jk (aj (ak 0) (aJ))))) (b_ (dOp uf (dOp gIx (ak 0) (ak 1)) (dC (.int 1000000007)))) (bV))
    (bD (sIf (aQ (dOp gEq (ak 0) (fY (aJ)))) (b_ (dOp jg (dOp ql (dC (.int 7919)) (ak 1)) (dC (.int 5000011)))) (bV))
    (b_ (dOp jg (dOp uf (dOp gIx (ak 0) (dOp uf (dOp ql (ak 1) (dC (.int 7))) (dCall jk (aj (ak 0) (aJ))))) (dC (.int 1000000007))) (dOp ql (dC (.int 7919)) (ak 1))))))
def bH:List D->Option D:=fnD 4 2 (bD (sIf (D3.rW (aQ (dOp gLt (ak 1) (dCall jk (aj (ak 0) (aJ))))) (aQ (dOp gGe (dOp gIx (ak 0) (ak 1)) (dOp Cr (dC (.int 10)) (dC (.int 40)))))) (bD (bL 4 (dOp gIx (ak 0) (ak 1)))
    (bD (pC (sy (aj (ak 2) (aJ))) (gNl 5) (bL 4 (dOp Fe (ak 4) (dC (.int 1000003)))))
    (sIf (aQ (dOp gGt (ak 4) (dC (.int 0)))) (b_ (dOp uf (dOp uf (ak 4) (dC (.int 1000003))) (ak 3))) (bV)))) (bV))
    (bD (bL 4 (dOp uf (dOp ql (dOp jg (dOp jg (dCall jy (aj (ak 0) (aj (ak 1) (aJ)))) (dOp ql (dC (.int 65537)) (ak 1))) (dC (.int 3))) (dOp jg (dC (.int 1299709)) (dOp ql (dC (.int 15485863)) (ak 2)))) (dC (.int 2147483629))))
    (bD (bL 4 (dOp jg (dOp uf (dOp ql (ak 4) (ak 4)) (dC (.int 1500450271))) (dC (.int 104729))))
    (b_ (dOp uf (dOp Fe (dOp uf (dOp ql (ak 4) (ak 4)) (dC (.int 715827883))) (dC (.int 64))) (ak 3))))))
def jX:List D->Option D:=fnD 2 0 (bD (sIf (aQ (dOp gLt (ak 1) (dCall jk (aj (ak 0) (aJ))))) (b_ (dOp uf (dOp gIx (ak 0) (ak 1)) (dOp Cr (dC (.int 10)) (dC (.int 60))))) (bV))
    (b_ (dOp jg (dOp ql (dCall bH (aj (ak 0) (aj (ak 1) (aj (dC (.int 59)) (aj (dOp Cr (dC (.int 10)) (dC (.int 6))) (aJ)))))) (dOp Cr (dC (.int 10)) (dC (.int 40)))) (dCall bH (aj (ak 0) (aj (ak 1) (aj (dC (.int 60)) (aj (dOp Cr (dC (.int 10)) (dC (.int 6))) (aJ)))))))))
def dF:List D->Option D:=fnD 1 0 (b_ (ud (dUn (gIs "int") (ak 0)) (R3 (dUn (gIs "bool") (ak 0)))))
def kY:List D->Option D:=fnD 2 0 (b_ (o7 gLe gLt (dOp gIx (ak 0) (dC (.int 0))) (ak 1) (dOp gIx (ak 0) (dC (.int 1)))))
def jh:List D->Option D:=fnD 2 0 (b_ (dCall jk (aj (jP (nU (ak 0)) (gNl 0) (aQ (dCall kY (aj (ak 0) (aj (ak 1) (aJ))))) (dW (ak 0)) 1 [1]) (aJ))))
def pq:List D->Option D:=fnD 1 0 (b_ (jP (nU (ak 0)) (gNl 0) (jV) (dW (dOp gIx (ak 0) (dC (.int 0)))) 1 []))
def jH:List D->Option D:=fnD 3 2 (bD (bL 3 (jP (nU (dCall pq (aj (ak 0) (aJ)))) (gNl 0) (aQ (dOp gGt (ak 0) (ak 1))) (dW (ak 0)) 1 [2]))
    (bD (pC (nU (dOp mF (fY (aj (ak 2) (aJ))) (dCall um (aj (ak 3) (aJ))))) (gNl 4) (sIf (aQ (dOp gGt (dCall jh (aj (ak 0) (aj (ak 4) (aJ)))) (ak 1))) (b_ (dW (ak 4))) (bV)))
    (b_ (dC (.none)))))
def cH:List D->Option D:=fnD 1 0 (b_ (dTup (aj (dW (dOp gIx (ak 0) (dC (.int 0)))) (aj (dW (dOp gIx (ak 0) (dC (.int 1)))) (aJ)))))
def gJ:List D->Option D:=fnD 5 2 (bD (bL 5 (dCall uo (aj (dC (.int 399)) (aj (dOp jg (ak 4) (dCall bH (aj (ak 0) (aj (ak 1) (aj (ak 2) (aj (dOp gIx (fY (aj (dC (.int 3)) (aj (dC (.int 9)) (aj (dC (.int 24)) (aj (dC (.int 60)) (aJ)))))) (ak 3)) (aJ))))))) (aJ)))))
    (bD (bL 6 (dOp jg (dC (.int 1)) (dCall bH (aj (ak 0) (aj (ak 1) (aj (dOp jg (ak 2) (dC (.int 1))) (aj (dOp gIx (fY (aj (dC (.int 2)) (aj (dC (.int 6)) (aj (dC (.int 24)) (aj (dC (.int 60)) (aJ)))))) (dCall bH (aj (ak 0) (aj (ak 1) (aj (dOp jg (ak 2) (dC (.int 2))) (aj (dC (.int 4)) (aJ))))))) (aJ))))))))
    (b_ (dTup (aj (dW (ak 5)) (aj (dCall uo (aj (dC (.int 400)) (aj (dOp jg (ak 5) (ak 6)) (aJ)))) (aj (dC (.none)) (aJ))))))))
def iZ:List D->Option D:=fnD 3 1 (bD (bL 3 (dCall jH (aj (jP (nU (ak 0)) (gNl 0) (jV) (dCall cH (aj (ak 0) (aJ))) 1 []) (aj (ak 1) (aj (ak 2) (aJ))))))
    (sIf (aQ (dUn lD (ak 3))) ((λ_=>none)) (bV)))
def cQ:List D->Option D:=fnD 3 2 (bD (bL 3 (dOp N5 (fY (aj (ak 2) (aJ))) (ak 1)))
    (bD (pC (nU (ak 0)) (gNl 4) (sIf (aQ (dUn lD (dOp gIx (ak 4) (dC (.int 2))))) (yI 3 (dOp gIx (ak 4) (dC (.int 2))) (dOp gIx (ak 4) (dC (.int 1)))) (bV)))
    (b_ (vd (ak 3)))))
def iw:List D->Option D:=fnD 2 0 (b_ (dW (dOp gIx (jP (vf (ak 0)) (gTn 2 (fQ (gNl 0) (fQ (gNl 1) (n8)))) (aQ (dOp gLe (ak 1) (ak 2))) (dW (ak 0)) 2 [1]) (dC (.int 0)))))
def iy:List D->Option D:=fnD 5 2 (bD (bL 5 (dCall sE (aj (dC (.int 0)) (aj (dOp z8 (ak 3) (dCall bH (aj (ak 0) (aj (ak 1) (aj (ak 2) (aj (dC (.int 6)) (aJ))))))) (aJ)))))
    (bD (bL 6 (dCall bH (aj (ak 0) (aj (ak 1) (aj (dOp jg (ak 2) (dC (.int 1))) (aj (dOp gIx (fY (aj (dC (.int 2)) (aj (dC (.int 9)) (aj (dC (.int 30)) (aJ))))) (dCall bH (aj (ak 0) (aj (ak 1) (aj (dOp jg (ak 2) (dC (.int 2))) (aj (dC (.int 3)) (aJ))))))) (aJ)))))))
    (b_ (dTup (aj (dW (ak 5)) (aj (dCall uo (aj (dC (.int 400)) (aj (dOp jg (dOp jg (ak 3) (dC (.int 1))) (ak 6)) (aJ)))) (aj (dW (ak 4)) (aJ))))))))
def cT:List D->Option D:=fnD 3 1 (bD (pC (nU (dCall um (aj (dOp mF (fY (aj (ak 2) (aJ))) (jP (nU (ak 0)) (gNl 0) (jV) (dCall sE (aj (ak 1) (aj (dOp gIx (ak 0) (dC (.int 0))) (aJ)))) 1 [2])) (aJ)))) (gNl 3) (sIf (aQ (dOp gGt (dCall jk (aj (jP (nU (ak 0)) (gNl 0) (D3.rW (aQ (dOp gLe (dOp gIx (ak 0) (dC (.int 0))) (ak 1))) (aQ (dOp gLt (ak 1) (dOp gIx (ak 0) (dC (.int 1)))))) (dW (ak 0)) 1 [3]) (aJ))) (ak 1))) (b_ (dW (ak 3))) (bV)))
    (b_ (dC (.none))))
def i_:List D->Option D:=fnD 4 7 (bD (bL 4 (dCall bH (aj (ak 0) (aj (dC (.int 0)) (aj (dC (.int 0)) (aj (dC (.int 4)) (aJ)))))))
    (bD (bL 5 (fY (aJ)))
    (bD (pC (sy (aj (ak 1) (aJ))) (gNl 6) (sIf (D3.rW (aQ (dOp gEq (dCall bH (aj (ak 0) (aj (dC (.int 1)) (aj (ak 6) (aj (dC (.int 3)) (aJ)))))) (dC (.int 1)))) (aQ (dOp gLt (dCall jk (aj (ak 5) (aJ))) (ak 3)))) (bD (bL 7 (dCall bH (aj (ak 0) (aj (dC (.int 1)) (aj (dOp jg (dC (.int 12)) (ak 6)) (aj (dOp jg (dCall jk (aj (ak 5) (aJ))) (dC (.int 1))) (aJ)))))))
    (Ab 5 (ak 7) (dCall iy (aj (ak 0) (aj (dC (.int 2)) (aj (dOp ql (dC (.int 3)) (ak 6)) (aj (ak 2) (aj (ak 6) (aJ))))))))) (bV)))
    (bD (bL 8 (dOp gEq (dCall bH (aj (ak 0) (aj (dC (.int 0)) (aj (dC (.int 6)) (aj (dC (.int 6)) (aJ)))))) (dC (.int 1))))
    (bD (pC (sy (aj (dOp gIx (fY (aj (dC (.int 10)) (aj (dC (.int 30)) (aJ)))) (dCall HY (aj (ak 8) (aJ)))) (aJ))) (gNl 9) (bD (bL 10 (dCall gJ (aj (ak 0) (aj (dOp jg (dC (.int 10)) (ak 9)) (aj (dC (.int 0)) (aj (ak 4) (aj (ak 2) (aJ))))))))
    (bD (bL 7 (dCall bH (aj (ak 0) (aj (dC (.int 4)) (aj (ak 9) (aj (dOp jg (dCall jk (aj (ak 5) (aJ))) (dC (.int 1))) (aJ)))))))
    (sIf (D3.rW (aQ (dOp gLt (dCall jk (aj (ak 5) (aJ))) (ak 3))) (aQ (dUn v8 (dCall cT (aj (dOp mF (ak 5) (fY (aj (ak 10) (aJ)))) (aj (ak 1) (aj (ak 2) (aJ)))))))) (Ab 5 (ak 7) (ak 10)) (bV)))))
    (b_ (vd (ak 5))))))))
def jc:List D->Option D:=fnD 2 0 (sIf (D3.ig (aQ (o7 gLe gLt (dC (.int 0)) (ak 1) (ak 0)))) ((λ_=>none)) (bV))
def jY:List D->Option D:=fnD 3 0 (b_ (dOp gEq (dCall jh (aj (jP (nU (ak 0)) (gNl 0) (jV) (dCall cH (aj (ak 0) (aJ))) 1 []) (aj (ak 2) (aJ)))) (ak 1)))
def gD:List D->Option D:=fnD 4 1 (bD (bL 4 (dOp gIx (ak 0) (ak 2)))
    (b_ (ud (dOp gNe (ak 2) (ak 1)) (ud (dUn v8 (dOp gIx (ak 4) (dC (.int 2)))) (ud (dOp gEq (dOp gIx (ak 4) (dC (.int 0))) (ak 3)) (dOp gLe (dOp gIx (ak 4) (dC (.int 1))) (dOp gIx (dOp gIx (ak 0) (ak 1)) (dC (.int 0)))))))))
def fj:List D->Option D:=fnD 4 1 (bD (bL 4 (jP (vf (ak 0)) (gTn 2 (fQ (gNl 0) (fQ (gNl 1) (n8)))) (aQ (dCall gD (aj (ak 2) (aj (ak 3) (aj (ak 0) (aj (ak 4) (aJ))))))) (dW (dTup (aj (dOp gIx (ak 1) (dC (.int 1))) (aj (ak 0) (aJ))))) 2 [0,2,3]))
    (bD (sIf (D3.ig (aQ (dCall jY (aj (ak 0) (aj (ak 1) (aj (ak 3) (aJ))))))) (NT 4 (dTup (aj (dOp jg (ak 3) (dC (.int 1))) (aj (dC (.none)) (aJ))))) (bV))
    (b_ (vd (ak 4)))))
def lW:List D->Option D:=fnD 1 0 (b_ (dW (dOp gIx (fY (aj (dC (.int 0)) (aj (dCall bH (aj (ak 0) (aj (dC (.int 0)) (aj (dC (.int 1)) (aj (dC (.int 40)) (aJ)))))) (aj (dCall bH (aj (ak 0) (aj (dC (.int 0)) (aj (dC (.int 1)) (aj (dC (.int 400)) (aJ)))))) (aj (dC (.int 390)) (aJ)))))) (dCall bH (aj (ak 0) (aj (dC (.int 0)) (aj (dC (.int 2)) (aj (dC (.int 4)) (aJ)))))))))
def jd:List D->Option D:=fnD 1 0 (b_ (dCall Fj (aj (jP (W5 (ak 0) (dSl (ak 0) (yK (dC (.int 1))) yJ)) (gTn 2 (fQ (gNl 0) (fQ (gNl 1) (n8)))) (jV) (dOp gLt (ak 0) (ak 1)) 2 []) (aJ))))
def gM:List D->Option D:=fnD 4 2 (bD (pC (nU (ak 3)) (gNl 4) (pC (nU (dCall fj (aj (ak 0) (aj (ak 1) (aj (ak 2) (aj (ak 4) (aJ))))))) (gNl 5) (sIf (aQ (dOp sS (dOp gIx (ak 5) (dC (.int 0))) (ak 3))) (b_ (dC (.bool false))) (bV))))
    (b_ (dC (.bool true))))
end Com
namespace Com
open D3 My
def tG{i:Int}(J:0<=i)(h1:i<ns.length):pAt (ns.map cE) i=some (.int (ns.getD i.toNat 0)):=by
 unfold pAt pIx;rw[au,if_pos J,if_pos h1,aG,bf];have h:i.toNat<ns.length:=by lia
 rw[bA h];simp[List.getD,h]
def pR{k:Nat}:pAt l (k:Int)=l[k]?:=by
 unfold pAt pIx;rw[if_pos (by lia)];by_cases h:k<l.length
 .rw[if_pos (by lia),aG];simp
 .rw[if_neg (by lia),bK (by lia)];rfl
def at0 : pAt (c::l) 0=some c:=pR (k:=0)
def at1 : pAt (c::m::l) 1=some m:=pR (k:=1)
def Ad {i:Int}(h:0<c):uf (.int i) (.int c)=some (.int (i%c)):=by
 show(if decide (c≠0)=true then some (cE (i.fmod c))else none)=_;rw[if_pos (dTr (by lia)),Int.fmod_eq_emod_of_nonneg i (by lia)]
def Qq{j:Int}(h:j.natAbs<2^64):j.natAbs<2^9000:=bT h (Nat.pow_le_pow_right (by decide) (by decide))
def an9 (h:0<k) (h2:k.natAbs<2^9000):Fe (.int c) (.int k)=some (.int (c/k)):=by
 show(if HX c k=true then some (cE (c.fdiv k))else none)=_;have e:HX c k=true:=by
  unfold HX;rw[aV];exact⟨dTr (by lia),dTr h2⟩
 rw[if_pos e,Int.fdiv_eq_ediv_of_nonneg c (by lia)]
def ad9 (h:0<k) (h2:k<18446744073709551616):Fe (.int c) (.int k)=some (.int (c/k)):=an9 h (Qq (by lia))
def mulL (h1 : -18446744073709551616<c) (h2:c<18446744073709551616):ql (.int c) (.int k)=some (.int (c*k)):=by
 show(if yH c k=true then some (cE (c*k))else none)=_;have e:yH c k=true:=by
  unfold yH;rw[dTr (show c.natAbs<2^64 by lia)];rfl
 rw[if_pos e]
def mulR {i:Int}(h1 : -18446744073709551616<c) (h2:c<18446744073709551616):ql (.int i) (.int c)=some (.int (i*c)):=by
 show(if yH i c=true then some (cE (i*c))else none)=_;have e:yH i c=true:=by
  unfold yH;rw[dTr (show c.natAbs<2^64 by lia),kJ];rfl
 rw[if_pos e]
def Qs:Cr (.int 10) (.int 40)=some (.int (10^40)):=rfl
def ae0:Cr (.int 10) (.int 60)=some (.int (10^60)):=rfl
def ao0:Cr (.int 10) (.int 6)=some (.int (10^6)):=rfl
def sz(h:n<=1000000):n<=sizeLine:=bO h (by decide)
def shaped_ints(ns:List Int):cK (.list (ns.map cE))=true:=by
 have h1:∀ns:List Int,dr (ns.map cE)=true:=λns=>by
  induction ns with
  |nil=>rfl
  |cons a r Z=>simp[dr,dk,Z]
 have h2:∀ns:List Int,c8 (ns.map cE)<=1:=λns=>by
  induction ns with
  |nil=>simp[c8]
  |cons a r Z=>simp[c8,c_];lia
 unfold cK;rw[aV];refine⟨by simp[dk,h1],dTr ?_⟩;have:=h2 ns;simp only[c_];lia
theorem eq_empty(ns:List Int):gEq (.list (ns.map cE)) (.list [])=some (.bool (decide (ns=[]))):=by
 unfold gEq;rw[shaped_ints ns]
 cases ns with
 |nil=>rfl
 |cons a r=>rfl
def Mh (J:0<=c):jy [.list (ns.map .int),.int c]=some (.int (wW ns c)):=by
 unfold jy wW;by_cases h:c<(ns.length:Int)
 .rw[if_pos h];simp![lMp,dTr h,tG J h,Ad (show(0:Int)<1000000007 by decide)]
 .rw[if_neg h];by_cases hn:ns=[]
  .rw[if_pos hn];simp![lMp,dFa h,eq_empty,dTr hn,fK,mulL (show(-18446744073709551616:Int)<7919 by decide) (show(7919:Int)<18446744073709551616 by decide)]
  .rw[if_neg hn];have hl:0<ns.length:=by
    cases ns with
    |nil=>exact absurd rfl hn
    |cons _ _=>simp
   have Y:0<=c*7%(ns.length:Int):=rH _ (by lia);have Z:c*7%(ns.length:Int)<(ns.length:Int):=oY _ (by lia);simp![lMp,dFa h,eq_empty,dFa hn,fK,mulL (show(-18446744073709551616:Int)<7919 by decide) (show(7919:Int)<18446744073709551616 by decide),mulR (show(-18446744073709551616:Int)<7 by decide) (show(7:Int)<18446744073709551616 by decide),Ad (show(0:Int)<1000000007 by decide),Ad (show(0:Int)<ns.length by lia),tG Y Z]
theorem Cd {l:D}{i:D}(n:Int):∀(J:List D)(c:Nat)(y:Option U),(∀j∈J,∃x,j = .int x)->∃O,jj (gNl 5) (bL 4 (dOp Fe (ak 4) (dC (.int 1000003)))) J [some (.d l),some (.d i),some (.d k),some (.d m),some (.d (.int (divs n c))),y] =
 some (.nx [some (.d l),some (.d i),some (.d k),some (.d m),some (.d (.int (divs n (c+J.length)))),O])
 |[],c,y,_=>⟨y,rfl⟩
 |j::J,c,y,h=>by
  obtain⟨O,e⟩:=Cd (l:=l) (i:=i) (k:=k) (m:=m) n J (c+1) (some (.d j)) λZ Y=>h Z (aA _ Y)
  refine⟨O,?_⟩;rw[jj];simp![ad9 (show(0:Int)<1000003 by decide) (show(1000003:Int)<18446744073709551616 by decide),aG];rw[show c+(J.length+1)=c+1+J.length by lia,<-e];rfl
def Mi(lo hi:Int):∀j∈d_ lo hi,∃x,j = .int x:=by
 intro j Z;obtain⟨k,_,rfl⟩:=cF.mp Z;exact⟨_,rfl⟩
def cZ {i:Int}(J:0<=i) (O:0<=k) (hk:k<=1000) (hm:0<m):bH [.list (ns.map .int),.int i,.int k,.int m]=some (.int (g_ ns i k m)):=by
 have rest:∀x y:Option U,qFn ((bD (bL 4 (dOp uf (dOp ql (dOp jg (dOp jg (dCall jy (aj (ak 0) (aj (ak 1) (aJ)))) (dOp ql (dC (.int 65537)) (ak 1))) (dC (.int 3))) (dOp jg (dC (.int 1299709)) (dOp ql (dC (.int 15485863)) (ak 2)))) (dC (.int 2147483629))))
  (bD (bL 4 (dOp jg (dOp uf (dOp ql (ak 4) (ak 4)) (dC (.int 1500450271))) (dC (.int 104729))))
  (b_ (dOp uf (dOp Fe (dOp uf (dOp ql (ak 4) (ak 4)) (dC (.int 715827883))) (dC (.int 64))) (ak 3))))) [some (.d (.list (ns.map .int))),some (.d (.int i)),some (.d (.int k)),some (.d (.int m)),x,y])=some (.int (Kc (wW ns i) i k m)):=by
  intro x y;simp![Mh J,mulL (show(-18446744073709551616:Int)<65537 by decide) (show(65537:Int)<18446744073709551616 by decide),mulL (show(-18446744073709551616:Int)<15485863 by decide) (show(15485863:Int)<18446744073709551616 by decide),mulR (i:=wW ns i+65537*i+3) (show(-18446744073709551616:Int)<1299709+15485863*k by lia) (show 1299709+15485863*k<(18446744073709551616:Int)by lia),Ad (show(0:Int)<2147483629 by decide)]
  simp only[mulL (show(-18446744073709551616:Int)<(wW ns i+65537*i+3)*(1299709+15485863*k)%2147483629 by lia) (show(wW ns i+65537*i+3)*(1299709+15485863*k)%2147483629<(18446744073709551616:Int)by lia)];simp![Ad (show(0:Int)<1500450271 by decide)];rw[mulL (by lia) (by lia)];simp![Ad (show(0:Int)<715827883 by decide),ad9 (show(0:Int)<64 by decide) (show(64:Int)<18446744073709551616 by decide),Ad hm];rfl
 unfold bH;rw[ab0];simp![];by_cases h:i<(ns.length:Int)
 .by_cases h2:10^40<=ns.getD i.toNat 0
  .simp![lMp,dTr h,tG J h,Qs,dTr h2];obtain⟨Y,e⟩:=Cd (l:=.list (ns.map .int)) (i:=.int i) (k:=.int k) (m:=.int m) (ns.getD i.toNat 0) (d_ 0 k) 0 none (Mi 0 k);have X:0+(d_ 0 k).length=k.toNat:=by simp[d_]
   rw[X]at e;have W:jj (gNl 5) (bL 4 (dOp Fe (ak 4) (dC (.int 1000003)))) (d_ 0 k) [some (.d (.list (ns.map .int))),some (.d (.int i)),some (.d (.int k)),some (.d (.int m)),some (.d (.int (ns.getD i.toNat 0))),none] =
    some (.nx [some (.d (.list (ns.map .int))),some (.d (.int i)),some (.d (.int k)),some (.d (.int m)),some (.d (.int (divs (ns.getD i.toNat 0) k.toNat))),Y]):=e
   rw[GF (by lia) (by lia)];simp![W];by_cases Z:0<divs (ns.getD i.toNat 0) k.toNat
   .simp![dTr Z,Ad (show(0:Int)<1000003 by decide),Ad hm];rw[Mg h h2 Z]
   .simp![dFa Z];rw[uP (λz=>Z z.2.2)];have:=rest (some (.d (.int (divs (ns.getD i.toNat 0) k.toNat)))) Y;simp![]at this;exact this
  .simp![lMp,dTr h,tG J h,Qs,dFa h2];rw[uP (λz=>h2 z.2.1)];have:=rest none none;simp![]at this;exact this
 .simp![lMp,dFa h];rw[uP (λz=>h z.1)];have:=rest none none;simp![]at this;exact this
end Com
variable{c:D3.FT}
namespace Com
open D3 My
theorem Mj (f:α->D) (p:α->Bool) (h:α->D):∀l:List α,(∀s∈l,∃δ1,g (f s) δ=some δ1/\c δ1=some (p s)/\(p s=true->k δ1=some (h s)))->fM g c k δ (l.map f)=some ((l.filter p).map h)
 |[],_=>rfl
 |s::r,Y=>by
  obtain⟨δ1,e1,e2,e3⟩:=Y s aD;have Z:=Mj f p h r λx X=>Y x (aA _ X)
  rw[bJ,fM,e1,aG,e2,aG];by_cases c:p s=true
  .rw[if_pos c,e3 c,aG,Z,List.filter_cons,if_pos c];rfl
  .rw[if_neg c,Z,List.filter_cons,if_neg c]
theorem xH {e:FE}(f:α->D) (h:α->D):∀l:List α,(∀s∈l,∃δ1,g (f s) δ=some δ1/\c δ1=some true/\e δ1=some (h s))->fM g c e δ (l.map f)=some (l.map h)
 |[],_=>rfl
 |s::r,Z=>by
  obtain⟨δ1,e1,e2,e3⟩:=Z s aD;rw[bJ,fM,e1,aG,e2,aG,if_pos rfl,e3,aG,xH f h r λx Y=>Z x (aA _ Y)];rfl
theorem jM (f:α->D) (h:∀a,flat (f a)=true):∀l:List α,flats (l.map f)=true
 |[]=>rfl
 |a::r=>by rw[bJ,flats,h,jM f h r];rfl
def at2{a b c:D}:pAt (a::b::c::l) 2=some c:=pR (k:=2)
def at3{a b c:D}:pAt (a::b::c::d::l) 3=some d:=pR (k:=3)
def U3{α:Type}(f:α->D){l:List α}{i:Int}(J:0<=i)(h1:i<l.length):∃a∈l,pAt (l.map f) i=some (f a):=by
 have hk:i.toNat<l.length:=by lia
 refine⟨l[i.toNat],p8 hk,?_⟩;obtain⟨k,rfl⟩:∃k:Nat,i=(k:Int):=⟨i.toNat,by lia⟩;rw[pR,bf];simp only[uU]at hk ⊢;rw[bA hk];rfl
def xY : (d_ 0 m).length=m.toNat:=by unfold d_;rw[au,bQ,uT]
def U4(m:Int):d_ 0 m=(aC m.toNat).map λk:Nat=>cE (k:Int):=by
 unfold d_;rw[uT];apply gY;intro k _;rw[uV]
def Dv{m:Int}(h:(d_ 0 m)[i]? = some d):(i:Int)<m/\d = .int (i:Int):=by
 rw[U4,bf]at h;by_cases hi:i<m.toNat
 .rw[cJ hi]at h
  cases h;exact⟨by lia,rfl⟩
 .rw[bK (by simpa using hi)]at h
  cases h
def V9 (h:0<=k):cuD l (some k) none=l.drop k.toNat:=by
 unfold cuD;have e:pSx l.length 0 (some k)=min k.toNat l.length:=by
  show(if k<0 then _ else _)=_;rw[if_neg (by lia)]
 rw[e,show pSx l.length l.length none=l.length from rfl];by_cases c:k.toNat<=l.length
 .rw[show min k.toNat l.length=k.toNat by lia,qy (by rw[kE];lia)]
 .rw[show min k.toNat l.length=l.length by lia,qz (by lia),qz (by lia)];simp
def ae1 (h:0<=k):cuD l none (some k)=l.take k.toNat:=by
 unfold cuD;have e:pSx l.length l.length (some k)=min k.toNat l.length:=by
  show(if k<0 then _ else _)=_;rw[if_neg (by lia)]
 rw[e,show pSx l.length 0 none=0 from rfl,List.drop_zero,Nat.sub_zero,List.take_eq_take_iff];lia
def isList:D3.isT "list" "list"=true:=rfl
mutual
theorem eqv_refl:∀d:D,d.canLay0=true->da d d=true
 | .none,_=>by simp[da]
 | .bool b,_=>by simp[da]
 | .int i,_=>by simp[da]
 | .str x,_=>by simp[da]
 | .list l,h=>by
  have:=eqvAll_refl l (by simpa[dk]using h);simpa[da]using this
 | .tuple l,h=>by
  have:=eqvAll_refl l (by simpa[dk]using h);simpa[da]using this
 | .dict l,h=>by simp[dk]at h
theorem eqvAll_refl:∀l:List D,dr l=true->ey l l=true
 |[],_=>by simp[ey]
 |d::r,h=>by
  rw[dr,aV]at h;rw[ey,eqv_refl d h.1,eqvAll_refl r h.2];rfl
end
def ly(n:Nat)(d:D):Prop:=d.canLay0=true/\d.depth<=n
def lys(n:Nat)(l:List D):Prop:=dr l=true/\c8 l<=n
def GJ (h:ly n d) (l:n<=m):ly m d:=⟨h.1,bO h.2 l⟩
def Dw:lys n []:=⟨by simp[dr],by simp[c8]⟩
def vO(h:ly n d)(q:lys n l):lys n (d::l):=
 ⟨by rw[dr,h.1,q.1];rfl,by have:=h.2;have:=q.2;simp only[c8];lia⟩
theorem Ke (f:α->D) (h:∀a,ly n (f a)):∀l:List α,lys n (l.map f)
 |[]=>Dw
 |a::r=>vO (h a) (Ke f h r)
def Kf(h:lys n l):ly (n+1) (.list l):=⟨by simp[dk,h.1],by have:=h.2;simp only[c_];lia⟩
def YG(h:lys n l):ly (n+1) (.tuple l):=⟨by simp[dk,h.1],by have:=h.2;simp only[c_];lia⟩
def Dy : ly (n+1) (.int k):=⟨rfl,by simp[c_]⟩
def m7(h:ly 60 d):cK d=true:=by
 unfold cK;rw[aV];exact⟨h.1,dTr (by have:=h.2;lia)⟩
def eq_self(h:ly 60 d):gEq d d=some (.bool true):=by
 unfold gEq;rw[m7 h,eqv_refl d h.1];rfl
def ne_self(h:ly 60 d):gNe d d=some (.bool false):=by
 unfold gNe;rw[m7 h,eqv_refl d h.1];rfl
end Com
namespace Com
open D3 My
def q(t b:Int):Rat:=mkRat t b.toNat
end Com
namespace Com
open D3 My
def sm(k:Nat)(x:Int):Prop:=x.natAbs<2^k
end Com
namespace Com
open D3 My
structure Tb where
 N:Nat
 w:Nat->Int
 B:Int
def sumTo(f:Nat->Int):Nat->Int
 |0=>0
 |n+1=>sumTo f n+f n
structure TbOk(t:Tb)(k:Nat):Prop where
 B0:0<t.B
 Bs:sm (7*k+1) t.B
 w0:∀j,0<=t.w j
 wB:∀j,t.w j<=t.B
 wz:∀j,t.N<=j->t.w j=0
 N1:1<=t.N
 N4:t.N<=1+4*k
 sum:sumTo t.w t.N=t.B
theorem comp_map{e:FE}(h:D->D):∀l:List D,(∀d∈l,∃δ1,g d δ=some δ1/\c δ1=some true/\e δ1=some (h d))->fM g c e δ l=some (l.map h)
 |[],_=>rfl
 |d::r,Z=>by
  obtain⟨δ1,e1,e2,e3⟩:=Z d aD;rw[fM,e1,aG,e2,aG,if_pos rfl,e3,aG,comp_map h r λx Y=>Z x (aA _ Y)];rfl
end Com
namespace Com
open D3 My
end Com
namespace Com
open D3 My
def sm1(k:Nat) (h:m.natAbs<=1):sm (k+1) m:=by
 unfold sm;rw[Nat.pow_succ];have:=Nat.one_le_two_pow (n:=k);lia
structure bd(k:Nat)(a:Rat):Prop where
 n:sm k a.num
 d:sm k (a.den:Int)
end Com
namespace Com
open D3 My
end Com
namespace Com
open D3 My
abbrev Sh:=Int×Int
def stD(s:Sh):D:=.tuple [.int s.1,.int s.2]
def ae2(s:Sh):Prop:=0<=s.1/\s.1<s.2/\s.2<=400
def hb(n:Int)(s:Sh):Bool:=decide (s.1<=n)&&decide (n<s.2)
def cnt(ss:List Sh)(n:Int):Nat:=(ss.filter (hb n)).length
def U5(r:Sh):flat (stD r)=true:=rfl
def I_(s:Sh)(n:Int):kY [stD s,.int n]=some (.bool (hb n s)):=by
 unfold kY stD hb;by_cases h:s.1<=n
 .simp![at1,dTr h,jL]
 .simp![dFa h,jt]
theorem wX{e:FE}(f:Sh->D)(p:Sh->Bool)(h:Sh->D):∀l:List Sh,(∀s∈l,∃δ1,g (f s) δ=some δ1/\c δ1=some (p s)/\e δ1=some (h s))->fM g c e δ (l.map f)=some ((l.filter p).map h)
 |[],_=>rfl
 |s::r,Y=>by
  obtain⟨δ1,e1,e2,e3⟩:=Y s aD;have Z:=wX f p h r λx W=>Y x (aA _ W)
  rw[bJ,fM,e1,aG,e2,aG]
  cases X:p s with
  |true=>
   rw[if_pos rfl,e3,aG,Z,lZ (by simpa using X)];rfl
  |false=>
   rw[if_neg (by decide),Z,mj (by simpa using X)]
def zK{ss:List Sh}(hl:ss.length<=1000)(n:Int):jh [.list (ss.map stD),.int n]=some (.int (cnt ss n:Int)):=by
 have C:=wX (g:=gNl 0) (c:=aQ (dCall kY (aj (ak 0) (aj (ak 1) (aJ))))) (e:=dW (ak 0)) (δ:=[none,some (.d (.int n))]) stD (hb n) stD ss (λs _=>⟨[some (.d (stD s)),some (.d (.int n))],rfl,by simp![I_],by simp![U5]⟩);unfold jh;simp![lMp,show ss.length<=100000 by lia];rw[show jR 1 [1] [some (U.d (d5 (ss.map stD))),some (U.d (cE n))]=[none,some (.d (.int n))]from rfl,C];simp![lMp];rfl
def GK{ss:List Sh}(hl:ss.length<=1000):pq [.list (ss.map stD)]=some (.list ((ss.map (·.1)).map .int)):=by
 unfold pq;have C:=comp_map (g:=gNl 0) (c:=D3.jV) (e:=dW (dOp gIx (ak 0) (dC (.int 0)))) (δ:=[none]) (λd=>match d with | .tuple (a::_)=>a|_=>.none) (ss.map stD) (λd hd=>by
  obtain⟨r,_,rfl⟩:=cF.mp hd;refine⟨[some (.d (stD r))],rfl,rfl,?_⟩;unfold stD;simp![])
 simp![lMp,show ss.length<=100000 by lia];rw[show ∀a:Option U,jR 1 [] [a]=[none]from λ_=>rfl,C];simp![];rw[eZ,eZ];rfl
end Com
namespace Com
open D3 My
end Com
variable{M:Nat}{now:Int}
namespace Com
open D3 My
def zl0:0<=sizeLine:=fK _
def zl1:1<=sizeLine:=sz (by decide)
def zl2:2<=sizeLine:=sz (by decide)
def zl3:3<=sizeLine:=sz (by decide)
def zl4:4<=sizeLine:=sz (by decide)
def zl5:5<=sizeLine:=sz (by decide)
abbrev Ty:=Int×Int×Option Nat
noncomputable def hD:Option Nat->D
 |none=>.none
 |some r=>.int (r:Int)
def yD(s:Ty):D:=.tuple [.int s.1,.int s.2.1,hD s.2.2]
def fli(i:Int):flat (.int i)=true:=rfl
def Dz(s:Ty):flat (yD s)=true:=by
 obtain⟨a,b,c⟩:=s
 cases c<;>rfl
theorem ae3(o:Option Nat):ly (n+1) (hD o):=by
 cases o with
 |none=>exact⟨rfl,by simp[hD,c_]⟩
 |some r=>exact Dy
noncomputable def hol(x:Int)(s:Ty):Bool:=decide (s.1<=x)&&decide (x<s.2.1)
def jJ(L:List Ty)(x:Int):Nat:=(L.filter (hol x)).length
def Ml{L J:List Ty}(p:L.Perm J)(x:Int):jJ L x=jJ J x:=(p.filter _).length_eq
def Kg(L:List Ty)(x:Int):jJ L x<=L.length:=iG _ _
def Ja(ns:List Int){a m now:Int}(J:0<=a)(m0:0<=m)(O:m<4)(n1:now<=399):
 ∃s:Ty,(now<=s.1/\s.1<=now+59)/\(s.1<s.2.1/\s.2.1<=400)/\s.2.2=none/\gJ [.list (ns.map .int),.int a,.int 0,.int m,.int now]=some (yD s):=by
 have go:∀A:Int,pAt [.int 3,.int 9,.int 24,.int 60] m=some (.int A)->0<A->A<=60->∃s:Ty,(now<=s.1/\s.1<=now+59)/\(s.1<s.2.1/\s.2.1<=400)/\s.2.2=none/\gJ [.list (ns.map .int),.int a,.int 0,.int m,.int now]=some (yD s):=by
  intro A V Z U;have p1:=cZ (ns:=ns) (i:=a) (k:=0) (m:=A) J (by decide) (by decide) Z;have p2:=cZ (ns:=ns) (i:=a) (k:=2) (m:=4) J (by decide) (by decide) (by decide);have r1:=cY ns a 0 Z;have r2:=cY ns a 2 (m:=4) (by decide);generalize g_ ns a 0 A=x1 at *;generalize g_ ns a 2 4=x2 at *;have inner:∀B:Int,pAt [.int 2,.int 6,.int 24,.int 60] x2=some (.int B)->0<B->∃s:Ty,(now<=s.1/\s.1<=now+59)/\(s.1<s.2.1/\s.2.1<=400)/\s.2.2=none/\gJ [.list (ns.map .int),.int a,.int 0,.int m,.int now]=some (yD s):=by
   intro B W B0;have p3:=cZ (ns:=ns) (i:=a) (k:=1) (m:=B) J (by decide) (by decide) B0;have r3:=cY ns a 1 B0;generalize g_ ns a 1 B=x3 at *;refine⟨(if now+x1<399 then now+x1 else 399,if(if now+x1<399 then now+x1 else 399)+(1+x3)<400 then(if now+x1<399 then now+x1 else 399)+(1+x3)else 400,none),?_,?_,rfl,?_⟩
   .dsimp only;refine⟨?_,?_⟩<;>split<;>lia
   .dsimp only;refine⟨?_,?_⟩<;>split<;>split<;>lia
   .have X:(0:Int)+1=1:=rfl;have Y:(0:Int)+2=2:=rfl;unfold gJ;simp![zl4,zl3,V,p1,X,Y,p2,W,p3];rfl
  have:x2=0\/x2=1\/x2=2\/x2=3:=by lia
  rcases this with rfl|rfl|rfl|rfl
  .exact inner 2 rfl (by decide)
  .exact inner 6 rfl (by decide)
  .exact inner 24 rfl (by decide)
  .exact inner 60 rfl (by decide)
 have:m=0\/m=1\/m=2\/m=3:=by lia
 rcases this with rfl|rfl|rfl|rfl
 .exact go 3 rfl (by decide) (by decide)
 .exact go 9 rfl (by decide) (by decide)
 .exact go 24 rfl (by decide) (by decide)
 .exact go 60 rfl (by decide) (by decide)
def Jb(ns:List Int){now:Int}{r:Nat}(O:r<=12)(J:0<=now)(n1:now<=399):
 ∃b e:Int,(0<=b/\b<=now)/\(now<e/\e<=400)/\iy [.list (ns.map .int),.int 2,.int (3*(r:Int)),.int now,.int (r:Int)]=some (yD (b,e,some r)):=by
 have p1:=cZ (ns:=ns) (i:=2) (k:=3*(r:Int)) (m:=6) (by decide) (by lia) (by lia) (by decide);have p2:=cZ (ns:=ns) (i:=2) (k:=3*(r:Int)+2) (m:=3) (by decide) (by lia) (by lia) (by decide);have r1:=cY ns 2 (3*(r:Int)) (m:=6) (by decide);have r2:=cY ns 2 (3*(r:Int)+2) (m:=3) (by decide);generalize g_ ns 2 (3*(r:Int)) 6=x1 at *;generalize g_ ns 2 (3*(r:Int)+2) 3=x2 at *;have inner:∀B:Int,pAt [.int 2,.int 9,.int 30] x2=some (.int B)->0<B->∃b e:Int,(0<=b/\b<=now)/\(now<e/\e<=400)/\iy [.list (ns.map .int),.int 2,.int (3*(r:Int)),.int now,.int (r:Int)]=some (yD (b,e,some r)):=by
  intro B Z B0;have p3:=cZ (ns:=ns) (i:=2) (k:=3*(r:Int)+1) (m:=B) (by decide) (by lia) (by lia) B0;have r3:=cY ns 2 (3*(r:Int)+1) B0;generalize g_ ns 2 (3*(r:Int)+1) B=x3 at *;refine⟨if now-x1>0 then now-x1 else 0,if now+1+x3<400 then now+1+x3 else 400,?_,?_,?_⟩
  .refine⟨?_,?_⟩<;>split<;>lia
  .refine⟨?_,?_⟩<;>split<;>lia
  .unfold iy;simp![zl3,p1,p2,Z,p3];rfl
 have:x2=0\/x2=1\/x2=2:=by lia
 rcases this with rfl|rfl|rfl
 .exact inner 2 rfl (by decide)
 .exact inner 9 rfl (by decide)
 .exact inner 30 rfl (by decide)
def Qt(ns:List Int):∃now:Int,0<=now/\now<=399/\lW [.list (ns.map .int)]=some (.int now):=by
 have p1:=cZ (ns:=ns) (i:=0) (k:=1) (m:=40) (by decide) (by decide) (by decide) (by decide);have p2:=cZ (ns:=ns) (i:=0) (k:=1) (m:=400) (by decide) (by decide) (by decide) (by decide);have p3:=cZ (ns:=ns) (i:=0) (k:=2) (m:=4) (by decide) (by decide) (by decide) (by decide);have r1:=cY ns 0 1 (m:=40) (by decide);have r2:=cY ns 0 1 (m:=400) (by decide);have r3:=cY ns 0 2 (m:=4) (by decide);generalize g_ ns 0 1 40=x1 at *;generalize g_ ns 0 1 400=x2 at *;generalize g_ ns 0 2 4=x3 at *;have:x3=0\/x3=1\/x3=2\/x3=3:=by lia
 have fl:∀i,flat (.int i)=true:=λ_=>rfl
 unfold lW;rcases this with rfl|rfl|rfl|rfl
 .exact⟨0,by lia,by lia,by simp![zl4,p1,p2,p3,fl]⟩
 .exact⟨x1,by lia,by lia,by simp![zl4,p1,p2,p3,at1,fl]⟩
 .exact⟨x2,by lia,by lia,by simp![zl4,p1,p2,p3,at2,fl]⟩
 .exact⟨390,by lia,by lia,by simp![zl4,p1,p2,p3,at3,fl]⟩
theorem Qu(Inv:DS->Prop)(P V:D->Prop):∀(l:List D)(δ:DS),Inv δ->(∀d∈l,∀δ,Inv δ->∃δ1,g d δ=some δ1/\((∃δ',b δ1=some (.nx δ')/\Inv δ'/\P d)\/∃v,b δ1=some (.rt v)/\V v)) ->
 (∃δ',jj g b l δ=some (.nx δ')/\Inv δ'/\∀d∈l,P d)\/∃v,jj g b l δ=some (.rt v)/\V v
 |[],δ,h,_=>.inl ⟨δ,rfl,h,λ_ z=>by cases z⟩
 |d::l,δ,h,s=>by
  obtain⟨δ1,e1,z⟩:=s d aD δ h;rcases z with⟨δ',e2,h2,W⟩|⟨v,e2,X⟩
  .have e:jj g b (d::l) δ=jj g b l δ':=by rw[jj,e1,aG,e2,aG]
   rw[e];rcases Qu Inv P V l δ' h2 (λd hd=>s d (aA _ hd))with⟨Z,a1,a2,a3⟩|z
   .exact .inl ⟨Z,a1,a2,λx Y=>by
     rcases aK.mp Y with rfl|y
     .exact W
     .exact a3 x y⟩
   .exact .inr z
  .exact .inr ⟨v,by rw[jj,e1,aG,e2,aG],X⟩
def Mp{L:List Ty}(hl:L.length<=62):
 (cT [.list (L.map yD),.int (M:Int),.int now]=some .none/\∀s∈L,jJ L (if s.1>now then s.1 else now)<=M)\/∃x,cT [.list (L.map yD),.int (M:Int),.int now]=some (.int x)/\M<jJ L x:=by
 have C:fM (gNl 0) (D3.jV) (dCall sE (aj (ak 1) (aj (dOp gIx (ak 0) (dC (.int 0))) (aJ)))) (jR 1 [2] [some (.d (.list (L.map yD))),some (.d (.int (M:Int))),some (.d (.int now)),none]) (L.map yD)=some ((L.map λs=>if s.1>now then s.1 else now).map cE):=by
  rw[eZ];exact xH yD _ L λs _=>⟨[some (.d (yD s)),some (.d (.int now))],rfl,rfl,by unfold yD;simp![at0,Qk];rfl⟩
 have len:(L.map yD).length<=100000:=by rw[au];lia
 have R:∀x:Int,∀u:Option U,fM (gNl 0) (D3.rW (aQ (dOp gLe (dOp gIx (ak 0) (dC (.int 0))) (ak 1))) (aQ (dOp gLt (ak 1) (dOp gIx (ak 0) (dC (.int 1)))))) (dW (ak 0)) (jR 1 [3] [some (.d (.list (L.map yD))),some (.d (.int (M:Int))),some (.d (.int now)),some (.d (.int x))]) (L.map yD)=some ((L.filter (hol x)).map yD):=λx u=>
  Mj yD (hol x) yD L λs _=>⟨[some (.d (yD s)),some (.d (.int x))],rfl,by
   obtain⟨a,b,c⟩:=s;unfold yD hol;simp![at0,at1]
   cases decide (a<=x)<;>simp only[zH,zJ,jL,jt]<;>simp![at0,at1],λ_=>by simp![Dz]⟩
 let S:=now::(L.map λs=>if s.1>now then s.1 else now)
 have gs:um [.list (S.map cE)]=some (.list ((nW S).map .int)):=by
  unfold um;have:S.length<64:=by show(L.map _).length+1<64;rw[au];lia
  simp only[m6,aG,if_pos this]
 have cat:mF (.list [.int now]) (.list ((L.map λs=>if s.1>now then s.1 else now).map cE))=some (.list (S.map cE)):=by
  rw[tu,if_pos (by rw[au,au];show 1+L.length<=_;lia)];rfl
 have F:=Qu (g:=(gNl 3)) (b:=(sIf (aQ (dOp gGt (dCall jk (aj (jP (nU (ak 0)) (gNl 0) (D3.rW (aQ (dOp gLe (dOp gIx (ak 0) (dC (.int 0))) (ak 1))) (aQ (dOp gLt (ak 1) (dOp gIx (ak 0) (dC (.int 1)))))) (dW (ak 0)) 1 [3]) (aJ))) (ak 1))) (b_ (dW (ak 3))) (bV))) (λδ=>∃u,δ=[some (.d (.list (L.map yD))),some (.d (.int (M:Int))),some (.d (.int now)),u]) (λd=>∀x,d = .int x->jJ L x<=M) (λv=>∃x,v = .int x/\M<jJ L x) ((nW S).map .int)
  [some (.d (.list (L.map yD))),some (.d (.int (M:Int))),some (.d (.int now)),none] ⟨none,rfl⟩ (by
   rintro d hd δ ⟨u,rfl⟩;obtain⟨x,Y,rfl⟩:=cF.mp hd;refine⟨[some (.d (.list (L.map yD))),some (.d (.int (M:Int))),some (.d (.int now)),some (.d (.int x))],rfl,?_⟩;have X:=R x none;have Z:((L.filter (hol x)).map yD).length=jJ L x:=by rw[au];rfl
   by_cases z:jJ L x<=M
   .left
    refine⟨[some (.d (.list (L.map yD))),some (.d (.int (M:Int))),some (.d (.int now)),some (.d (.int x))],?_,⟨_,rfl⟩,λy W=>by cases W;exact z⟩;have:decide ((jJ L x:Int)>(M:Int))=false:=dFa (by lia);simp![len,X,Z,this]
   .right
    refine⟨.int x,?_,x,rfl,by lia⟩;have:decide ((jJ L x:Int)>(M:Int))=true:=dTr (by lia);have fl:flat (.int x)=true:=rfl;simp![len,X,Z,this,fl])
 rcases F with⟨δ',e,⟨u,rfl⟩,T⟩|⟨v,e,x,rfl,Y⟩
 .left
  refine⟨?_,λs V=>T (.int (if s.1>now then s.1 else now)) (List.mem_map_of_mem ((iQ S).mem_iff.mpr (aA _ (cF.mpr ⟨s,V,rfl⟩)))) _ rfl⟩;unfold cT;simp![zl1,len,C,cat,gs];rw[e];simp![]
 .right
  refine⟨x,?_,Y⟩;unfold cT;simp![zl1,len,C,cat,gs];rw[e];simp![]
end Com
variable{L:List Com.Ty}
namespace Com
open D3 My
structure TOk(L:List Ty)(M:Nat)(now:Int):Prop where
 len:L.length<=24
 ok:∀s∈L,s.1<s.2.1/\(∀r,s.2.2=some r->r<M/\s.1<=now/\now<s.2.1)/\(s.2.2=none->now<=s.1)
 nd:(L.filterMap (·.2.2)).Nodup
 full:∀s∈L,jJ L (if s.1>now then s.1 else now)<=M
 bd:∀s∈L,0<=s.1/\s.2.1<=400
 nr:∀s∈L,s.2.2=none->s.1<=now+59
def Jc(k:Nat)(s:Ty)(L:List Ty):List Ty:=L.take k++s::L.drop k
def Ce(k:Nat)(s:Ty)(L:List Ty):(Jc k s L).Perm (s::L):=by
 refine List.perm_middle.trans ?_;rw[rN]
def GP{s:Ty}{j:Int}(hl:L.length<=1000)(J:0<=j)(h1:j<=1000):∃k,Ik j (yD s) (L.map yD)=some ((Jc k s L).map yD):=by
 refine⟨Gf (L.map yD).length j,?_⟩;unfold Ik;rw[if_pos ⟨by rw[au];lia,by lia,by lia⟩];unfold Jc;rw[fX,bJ,List.map_take,List.map_drop]
theorem Qw(h:∀s∈L,∃r,s.2.2=some r):(L.filterMap (·.2.2)).length=L.length:=by
 induction L with
 |nil=>rfl
 |cons s L Z=>
  obtain⟨r,e⟩:=h s aD;rw[cD,e];show _+1=_+1;rw[Z λs Y=>h s (aA _ Y)]
def U6(x:Int):decide (x=1)=true\/decide (x=1)=false:=by cases decide (x=1)<;>simp
def GQ(ns:List Int){M:Nat}{now:Int}(hM:M<=12)(n0:0<=now)(n1:now<=399):
 ∃L:List Ty,TOk L M now/\(1<=M->L≠[])/\i_ [.list (ns.map .int),.int (M:Int),.int now,.int 24]=some (.list (L.map yD)):=by
 have n:=cZ (ns:=ns) (i:=0) (k:=0) (m:=4) (by decide) (by decide) (by decide) (by decide);have r0:=cY ns 0 0 (m:=4) (by decide);have o:=cZ (ns:=ns) (i:=0) (k:=6) (m:=6) (by decide) (by decide) (by decide) (by decide);generalize g_ ns 0 0 4=X at *;generalize g_ ns 0 6 6=wi at *;have rg:vN (some [.int (M:Int)])=some (d_ 0 (M:Int)):=GF (by lia) (by lia);obtain⟨Z,hb⟩:∃Z,decide (wi=1)=Z:=⟨_,rfl⟩;obtain⟨δ1,e1,H,W,Y,l1,g1,I,rfl⟩:=mR (g:=(gNl 6)) (b:=(sIf (D3.rW (aQ (dOp gEq (dCall bH (aj (ak 0) (aj (dC (.int 1)) (aj (ak 6) (aj (dC (.int 3)) (aJ)))))) (dC (.int 1)))) (aQ (dOp gLt (dCall jk (aj (ak 5) (aJ))) (ak 3)))) (bD (bL 7 (dCall bH (aj (ak 0) (aj (dC (.int 1)) (aj (dOp jg (dC (.int 12)) (ak 6)) (aj (dOp jg (dCall jk (aj (ak 5) (aJ))) (dC (.int 1))) (aJ))))))) (Ab 5 (ak 7) (dCall iy (aj (ak 0) (aj (dC (.int 2)) (aj (dOp ql (dC (.int 3)) (ak 6)) (aj (ak 2) (aj (ak 6) (aJ))))))))) (bV)))
  (λi δ=>∃(L:List Ty)(W Y:Option U),L.length<=24/\(∀s∈L,∃r,s.2.2=some r/\r<i/\(0<=s.1/\s.1<=now)/\(now<s.2.1/\s.2.1<=400))/\(L.filterMap (·.2.2)).Nodup /\
   δ=[some (.d (.list (ns.map .int))),some (.d (.int (M:Int))),some (.d (.int now)),some (.d (.int 24)),some (.d (.int X)),some (.d (.list (L.map yD))),W,Y,none,none,none]) (d_ 0 (M:Int))
  [some (.d (.list (ns.map .int))),some (.d (.int (M:Int))),some (.d (.int now)),some (.d (.int 24)),some (.d (.int X)),some (.d (.list [])),none,none,none,none,none]
  ⟨[],none,none,by decide,λ_ h=>(by cases h),rR,rfl⟩ (by
   rintro i d δ hd ⟨L,W,Y,l1,g1,I,rfl⟩;obtain⟨hi,rfl⟩:=Dv hd;have K:∀s∈L,∃r,s.2.2=some r/\r<i+1/\(0<=s.1/\s.1<=now)/\(now<s.2.1/\s.2.1<=400):=λs T=>by
    obtain⟨r,a,b,c⟩:=g1 s T;exact⟨r,a,by lia,c⟩
   have q1:=cZ (ns:=ns) (i:=1) (k:=(i:Int)) (m:=3) (by decide) (by lia) (by lia) (by decide);have q2:=cZ (ns:=ns) (i:=1) (k:=12+(i:Int)) (m:=(L.length:Int)+1) (by decide) (by lia) (by lia) (by lia);have Q:=cY ns 1 (12+(i:Int)) (m:=(L.length:Int)+1) (by lia);obtain⟨b,e,gb,ge,gs⟩:=Jb ns (r:=i) (by lia) n0 n1;generalize g_ ns 1 (i:Int) 3=u at *;generalize g_ ns 1 (12+(i:Int)) ((L.length:Int)+1)=R at *;obtain⟨k,ek⟩:=GP (s:=(b,e,some i)) (L:=L) (j:=R) (by lia) Q.1 (by lia);have J:((L.map yD).length:Int)=(L.length:Int):=by rw[au]
   have l:ql (.int 3) (.int (i:Int))=some (.int (3*(i:Int))):=mulL (by decide) (by decide);rcases U6 u with z|z
   .by_cases O:L.length<24
    .have S:decide ((L.length:Int)<24)=true:=dTr (by lia);refine⟨_,[some (.d (.list (ns.map .int))),some (.d (.int (M:Int))),some (.d (.int now)),some (.d (.int 24)),some (.d (.int X)),some (.d (.list ((Jc k (b,e,some i) L).map yD))),some (.d (.int (i:Int))),some (.d (.int R)),none,none,none],rfl,.inl ?_,?_⟩
     .simp![q1,z,J,S,q2,l,gs,Ot,CQ,Xi ek]
     .have pm:=Ce k (b,e,some i) L;refine⟨Jc k (b,e,some i) L,_,_,?_,λs T=>?_,?_,rfl⟩
      .rw[pm.length_eq,bI];lia
      .rcases aK.mp (pm.mem_iff.mp T)with rfl|y
       .exact⟨i,rfl,by lia,gb,ge⟩
       .exact K s y
      .rw[(pm.filterMap _).nodup_iff];refine cI.mpr ⟨λy=>?_,I⟩;obtain⟨s,T,es⟩:=f9.mp y;obtain⟨r,a,c,_⟩:=g1 s T;rw[a]at es
       cases es;lia
    .have S:decide ((L.length:Int)<24)=false:=dFa (by lia);refine⟨_,[some (.d (.list (ns.map .int))),some (.d (.int (M:Int))),some (.d (.int now)),some (.d (.int 24)),some (.d (.int X)),some (.d (.list (L.map yD))),some (.d (.int (i:Int))),Y,none,none,none],rfl,.inl ?_,L,_,_,l1,K,I,rfl⟩;simp![q1,z,J,S]
   .refine⟨_,[some (.d (.list (ns.map .int))),some (.d (.int (M:Int))),some (.d (.int now)),some (.d (.int 24)),some (.d (.int X)),some (.d (.list (L.map yD))),some (.d (.int (i:Int))),Y,none,none,none],rfl,.inl ?_,L,_,_,l1,K,I,rfl⟩;simp![q1,z])
 rw[xY]at g1;have ok1:TOk H M now:=by
  have T:∀s∈H,∃r,s.2.2=some r:=λs T=>let⟨r,a,_⟩:=g1 s T;⟨r,a⟩
  have f:H.length<=M:=by
   rw[<-Qw T];have:=dP (l₂:=aC M) I λr hr=>by
    obtain⟨s,h1,h2⟩:=f9.mp hr;obtain⟨p,a,b,_⟩:=g1 s h1;rw[a]at h2
    cases h2;exact bR.mpr (by lia)
   rwa[bQ]at this
  refine⟨l1,λs h=>?_,I,λs h=>bO (Kg _ _) f,λs h=>(let⟨_,_,_,c,d⟩:=g1 s h;⟨c.1,d.2⟩),λs h e=>(by obtain⟨r,a,_⟩:=g1 s h;rw[a]at e;cases e)⟩;obtain⟨r,a,b,c,d⟩:=g1 s h;refine⟨by lia,λp e=>?_,λe=>(by rw[a]at e;cases e)⟩;rw[a]at e
  cases e;exact⟨by lia,c.2,d.1⟩
 have loop:∀N:Int,0<=N->N<=30->∃δ',jj (gNl 9) (bD (bL 10 (dCall gJ (aj (ak 0) (aj (dOp jg (dC (.int 10)) (ak 9)) (aj (dC (.int 0)) (aj (ak 4) (aj (ak 2) (aJ)))))))) (bD (bL 7 (dCall bH (aj (ak 0) (aj (dC (.int 4)) (aj (ak 9) (aj (dOp jg (dCall jk (aj (ak 5) (aJ))) (dC (.int 1))) (aJ))))))) (sIf (D3.rW (aQ (dOp gLt (dCall jk (aj (ak 5) (aJ))) (ak 3))) (aQ (dUn v8 (dCall cT (aj (dOp mF (ak 5) (fY (aj (ak 10) (aJ)))) (aj (ak 1) (aj (ak 2) (aJ)))))))) (Ab 5 (ak 7) (ak 10)) (bV)))) (d_ 0 N) [some (.d (.list (ns.map .int))),some (.d (.int (M:Int))),some (.d (.int now)),some (.d (.int 24)),some (.d (.int X)),some (.d (.list (H.map yD))),W,Y,some (.d (.bool (Z))),none,none]=some (.nx δ') /\
  ∃(L:List Ty)(Y E V:Option U),TOk L M now/\(0<N->1<=M->L≠[])/\δ'=[some (.d (.list (ns.map .int))),some (.d (.int (M:Int))),some (.d (.int now)),some (.d (.int 24)),some (.d (.int X)),some (.d (.list (L.map yD))),W,Y,some (.d (.bool (Z))),E,V]:=by
  intro N N0 N1;have:=mR (g:=(gNl 9)) (b:=(bD (bL 10 (dCall gJ (aj (ak 0) (aj (dOp jg (dC (.int 10)) (ak 9)) (aj (dC (.int 0)) (aj (ak 4) (aj (ak 2) (aJ)))))))) (bD (bL 7 (dCall bH (aj (ak 0) (aj (dC (.int 4)) (aj (ak 9) (aj (dOp jg (dCall jk (aj (ak 5) (aJ))) (dC (.int 1))) (aJ))))))) (sIf (D3.rW (aQ (dOp gLt (dCall jk (aj (ak 5) (aJ))) (ak 3))) (aQ (dUn v8 (dCall cT (aj (dOp mF (ak 5) (fY (aj (ak 10) (aJ)))) (aj (ak 1) (aj (ak 2) (aJ)))))))) (Ab 5 (ak 7) (ak 10)) (bV))))) (λi δ=>∃(L:List Ty)(Y E V:Option U),TOk L M now/\(0<i->1<=M->L≠[])/\δ=[some (.d (.list (ns.map .int))),some (.d (.int (M:Int))),some (.d (.int now)),some (.d (.int 24)),some (.d (.int X)),some (.d (.list (L.map yD))),W,Y,some (.d (.bool (Z))),E,V]) (d_ 0 N) [some (.d (.list (ns.map .int))),some (.d (.int (M:Int))),some (.d (.int now)),some (.d (.int 24)),some (.d (.int X)),some (.d (.list (H.map yD))),W,Y,some (.d (.bool (Z))),none,none] ⟨H,Y,none,none,ok1,λz=>absurd z (jf 0),rfl⟩ ?step
  .obtain⟨δ',e,L,a,b,c,h1,h2,h3⟩:=this;exact⟨δ',e,L,a,b,c,h1,λz=>h2 (by rw[xY];lia),h3⟩
  rintro i d δ hd ⟨L,Y,E,V,ok,_,rfl⟩;obtain⟨hi,rfl⟩:=Dv hd;have l24:=ok.len;obtain⟨s,s1,s2,w,es⟩:=Ja ns (a:=10+(i:Int)) (m:=X) (now:=now) (by lia) r0.1 r0.2 n1;have q2:=cZ (ns:=ns) (i:=4) (k:=(i:Int)) (m:=(L.length:Int)+1) (by decide) (by lia) (by lia) (by lia);have Q:=cY ns 4 (i:Int) (m:=(L.length:Int)+1) (by lia);generalize g_ ns 4 (i:Int) ((L.length:Int)+1)=R at *;obtain⟨k,ek⟩:=GP (s:=s) (L:=L) (j:=R) (by lia) Q.1 (by lia);have J:((L.map yD).length:Int)=(L.length:Int):=by rw[au]
  by_cases O:L.length<24
  .have S:decide ((L.length:Int)<24)=true:=dTr (by lia);have cat:mF (.list (L.map yD)) (.list [yD s])=some (.list ((L++[s]).map yD)):=by
    rw[tu,if_pos (by rw[au];show L.length+1<=_;lia),fX];rfl
   rcases Mp (L:=L++[s]) (M:=M) (now:=now) (by rw[bx];show L.length+1<=62;lia)with⟨f1,f2⟩|⟨x,f1,A⟩
   .have B:isNone .none=true:=rfl;refine⟨_,[some (.d (.list (ns.map .int))),some (.d (.int (M:Int))),some (.d (.int now)),some (.d (.int 24)),some (.d (.int X)),some (.d (.list ((Jc k s L).map yD))),W,some (.d (.int R)),some (.d (.bool (Z))),some (.d (.int (i:Int))),some (.d (yD s))],rfl,.inl ?_,?_⟩
    .simp![es,J,q2,S,zl1,cat,f1,B,Ot,CQ,Xi ek]
    .have pm:=Ce k s L;have G:=pm.trans (List.perm_append_singleton s L).symm;refine⟨Jc k s L,_,_,_,⟨?_,λt P=>?_,?_,λt P=>?_,λt P=>?_,λt P en=>?_⟩,λ_ _ z=>by(have:=pm.length_eq;rw[z]at this;cases this),rfl⟩
     .rw[pm.length_eq,bI];lia
     .rcases aK.mp (pm.mem_iff.mp P)with rfl|y
      .exact⟨s2.1,λr e=>(by rw[w]at e;cases e),λ_=>s1.1⟩
      .exact ok.ok t y
     .rw[(pm.filterMap _).nodup_iff,cD,w];exact ok.nd
     .rw[Ml G];exact f2 t (G.mem_iff.mp P)
     .rcases aK.mp (pm.mem_iff.mp P)with rfl|y
      .exact⟨mG n0 s1.1,s2.2⟩
      .exact ok.bd t y
     .rcases aK.mp (pm.mem_iff.mp P)with rfl|y
      .exact s1.2
      .exact ok.nr t y en
   .have B:isNone (.int x)=false:=rfl;refine⟨_,[some (.d (.list (ns.map .int))),some (.d (.int (M:Int))),some (.d (.int now)),some (.d (.int 24)),some (.d (.int X)),some (.d (.list (L.map yD))),W,some (.d (.int R)),some (.d (.bool (Z))),some (.d (.int (i:Int))),some (.d (yD s))],rfl,.inl ?_,L,_,_,_,ok,λ_ m1 z=>by
     rw[z]at A;have:=Kg [s] x;have A:M<jJ [s] x:=A;have:jJ [s] x<=1:=this;lia,rfl⟩
    simp![es,J,q2,S,zl1,cat,f1,B]
  .have S:decide ((L.length:Int)<24)=false:=dFa (by lia);refine⟨_,[some (.d (.list (ns.map .int))),some (.d (.int (M:Int))),some (.d (.int now)),some (.d (.int 24)),some (.d (.int X)),some (.d (.list (L.map yD))),W,some (.d (.int R)),some (.d (.bool (Z))),some (.d (.int (i:Int))),some (.d (yD s))],rfl,.inl ?_,L,_,_,_,ok,λ_ _ z=>by rw[z]at O;exact O (by decide),rfl⟩;simp![es,J,q2,S]
 have D:pAt [.int 10,.int 30] (if Z=true then 1 else 0)=some (.int (if Z=true then 30 else 10)):=by
  cases Z<;>rfl
 have iN:HY [.bool (Z)]=some (.int (if Z=true then 1 else 0)):=rfl;obtain⟨v,e2,L,v7,v9,q,ok,F,rfl⟩:=loop (if Z=true then 30 else 10) (by split<;>decide) (by split<;>decide);refine⟨L,ok,F (by split<;>decide),?_⟩;clear F;have C:vN (some [.int (if Z=true then 30 else 10)])=some (d_ 0 (if Z=true then 30 else 10)):=GF (by split<;>decide) (by split<;>decide);have fl:flats (L.map yD)=true:=jM _ Dz L;unfold i_;simp![n,zl0,rg];rw[e1];generalize (if Z=true then(30:Int)else 10)=NN at *;simp![o,hb,zl2,iN,D,C];rw[e2];simp![fl]
def Jd(ns:List Int){M:Nat}{now:Int}(O:M<=12)(J:0<=now)(n1:now<=399):∃L:List Ty,TOk L M now/\i_ [.list (ns.map .int),.int (M:Int),.int now,.int 24]=some (.list (L.map yD)):=by
 obtain⟨L,ok,_,e⟩:=GQ ns O J n1;exact⟨L,ok,e⟩
end Com
namespace Xg
structure Ss where
 n:Nat
 fst:Nat->Int
 bhd:Nat->Int
 hld:Nat->Bool
 now:Int
structure Ss.Ok(S:Ss):Prop where
 lt:∀k,k<S.n->S.fst k<S.bhd k
 h1:∀k,k<S.n->S.hld k=true->S.fst k<=S.now/\S.now<S.bhd k
 h2:∀k,k<S.n->S.hld k=false->S.now<=S.fst k
def Valid(S:Ss)(h:Nat->Int):Prop:=∀k l,k<S.n->l<S.n->k≠l->S.fst k<S.bhd l->S.fst l<S.bhd k->h k≠h l
def hind(S:Ss)(t:Int)(k:Nat):Prop:=(S.hld k=true\/S.fst k<t)/\t<S.bhd k
noncomputable def swp(S:Ss)(h:Nat->Int)(t a b:Int)(k:Nat):Int:=if S.fst k<t then h k else if h k=a then b else if h k=b then a else h k
structure Agr(S:Ss)(h o:Nat->Int)(done:Nat->Prop):Prop where
 held:∀k,k<S.n->S.hld k=true->h k=o k
 don:∀k,k<S.n->done k->h k=o k
section
variable{S:Ss}{h o:Nat->Int}{done:Nat->Prop}{p:Nat}
end
end Xg
namespace Xg
abbrev Sp3:=Int×Int×Int
def Mq(S:Ss)(h:Nat->Int)(st:List Sp3):Nat->Int:=st.foldl (λg s=>swp S g s.1 s.2.1 s.2.2) h
structure ae2(S:Ss)(M:Int)(g:Nat->Int)(s:Sp3):Prop where
 now:S.now<=s.1
 ne:s.2.1≠s.2.2
 a0:0<=s.2.1
 a1:s.2.1<M
 b0:0<=s.2.2
 b1:s.2.2<M
 nh:∀k,k<S.n->(g k=s.2.1\/g k=s.2.2)->¬hind S s.1 k
def Good(S:Ss)(M:Int)(h:Nat->Int)(st:List Sp3):Prop:=∀i s,st[i]? = some s->ae2 S M (Mq S h (st.take i)) s
variable{S:Ss}{M:Int}{h o:Nat->Int}{st:List Sp3}{s:Sp3}{done:List Nat}{p:Nat}
structure LInv(S:Ss)(M:Int)(h o:Nat->Int)(done:List Nat)(st:List Sp3):Prop where
 good:Good S M h st
 val:Valid S (Mq S h st)
 agr:Agr S (Mq S h st) o (· ∈ done)
 bd:∀k,k<S.n->0<=Mq S h st k/\Mq S h st k<M
 len:st.length<=done.length
theorem LInv.fin(I:LInv S M h o done st)(all:∀k,k<S.n->S.hld k=false->k∈done):∀k,k<S.n->Mq S h st k=o k:=λk hk=>by
 cases z:S.hld k with
 |true=>exact I.agr.held k hk z
 |false=>exact I.agr.don k hk (all k hk z)
end Xg
namespace Com
open D3 My
def Qx{c:Nat}(hl:l.length=n)(h:c<n):pIx l.length (c:Int)=some c:=by
 unfold pIx;rw[hl,if_pos (by lia),if_pos (by lia)];rfl
def GR{c:Nat}(f:Nat->D)(h:c<n):pAt ((aC n).map f) (c:Int)=some (f c):=by
 rw[pR,bf,cJ h];rfl
def GX{c:Nat}(f:Nat->D):((aC n).map f).set c d=(aC n).map λp=>if p=c then d else f p:=by
 apply fU;intro i;rw[pI,bf,bf];by_cases hi:i<n
 .rw[cJ hi,gW,gW];by_cases z:c=i
  .subst z;rw[if_pos rfl,if_pos (by simpa using hi),if_pos rfl]
  .rw[if_neg z,if_neg (λw=>z w.symm)]
 .rw[bK (l:=aC n) (by simpa using hi)];by_cases z:c=i
  .subst z;rw[if_pos rfl,if_neg (by simpa using hi)];rfl
  .rw[if_neg z];rfl
def ae4{f g:Nat->D}(h:∀k,k<n->f k=g k):(aC n).map f=(aC n).map g:=gY λk hk=>h k (bR.mp hk)
noncomputable def tAt(L:List Ty)(k:Nat):Ty:=L.getD k (0,0,none)
def jr{k:Nat}(h:k<L.length):tAt L k∈L:=by
 unfold tAt;rw[bU,bA h];exact p8 h
def rE(L:List Ty):L.map yD=(aC L.length).map λk=>yD (tAt L k):=by
 apply fU;intro i;rw[bf,bf];by_cases h:i<L.length
 .rw[cJ h,bA h];unfold tAt;rw[gW,gW,bU,bA h];rfl
 .rw[bK (by lia),bK (by simpa using h)];rfl
def plD(n:Nat)(h:Nat->Int):List D:=(aC n).map λk=>cE (h k)
def hB(s:Ty)(t:Int):Bool:=(s.2.2.isSome||decide (s.1<t))&&decide (t<s.2.1)
def Qy(o:Option Nat):isNone (hD o) = !o.isSome:=by cases o<;>rfl
section
variable{L:List Ty}{t a b:Int}{h:Nat->Int}
end
end Com
namespace Gr
structure GInv(M:Nat)(b e:Nat->Int)(done:List Nat)(seat:Nat->Option Nat)(fs:Nat->Int):Prop where
 out:∀p,p∉done->seat p=none
 inn:∀p∈done,∃r,seat p=some r/\r<M/\e p<=fs r
 bk:∀r,r<M->fs r<=0\/∃p∈done,seat p=some r/\e p=fs r
 dj:∀p∈done,∀q∈done,p≠q->seat p=seat q->e p<=b q\/e q<=b p
def holds(b e:Nat->Int)(x:Int)(p:Nat):Bool:=decide (b p<=x)&&decide (x<e p)
def GInv.step{b e:Nat->Int}{done:List Nat}{seat:Nat->Option Nat}{fs:Nat->Int}{c r:Nat}(I:GInv M b e done seat fs)(O:c∉done)(J:r<M)(hf:fs r<=b c)(h1:b c<e c):
 GInv M b e (done++[c]) (λp=>if p=c then some r else seat p) (λx=>if x=r then e c else fs x):=by
 have ne:∀p∈done,p≠c:=λp Y z=>O (z▸Y)
 refine⟨λp Y=>?_,λp Y=>?_,λx W=>?_,λp Y q U V Z=>?_⟩
 .have h2:p≠c:=λz=>Y (aL _ (by rw[z];exact aB.mpr rfl))
  rw[if_neg h2];exact I.out p λz=>Y (aU _ z)
 .rcases aR.mp Y with z|z
  .obtain⟨x,s1,s2,X⟩:=I.inn p z;refine⟨x,by rwa[if_neg (ne p z)],s2,?_⟩;by_cases W:x=r
   .rw[if_pos W];rw[W]at X;lia
   .rwa[if_neg W]
  .have z:=aB.mp z;exact⟨r,by rw[if_pos z],J,by rw[if_pos rfl,z];exact fL _⟩
 .by_cases z:x=r
  .exact .inr ⟨c,aL _ (aB.mpr rfl),by rw[if_pos rfl,z],by rw[if_pos z]⟩
  .rw[if_neg z];rcases I.bk x W with w|⟨p,Y,S,T⟩
   .exact .inl w
   .exact .inr ⟨p,aU _ Y,by rwa[if_neg (ne p Y)],T⟩
 .rcases aR.mp Y with z|z
  .rcases aR.mp U with w|w
   .rw[if_neg (ne p z),if_neg (ne q w)]at Z;exact I.dj p z q w V Z
   .have w:=aB.mp w;rw[if_neg (ne p z),if_pos w]at Z;obtain⟨x,s1,_,X⟩:=I.inn p z;rw[s1]at Z;injection Z with Z
    rw[Z]at X
    left
    rw[w];lia
  .have z:=aB.mp z;rcases aR.mp U with w|w
   .rw[if_pos z,if_neg (ne q w)]at Z;obtain⟨x,s1,_,X⟩:=I.inn q w;rw[s1]at Z;injection Z with Z
    rw[<-Z]at X
    right
    rw[z];lia
   .exact absurd (z.trans (aB.mp w).symm) V
end Gr
namespace Pl
open Gr
structure PInv(n M:Nat)(b e:Nat->Int)(held:Nat->Option Nat)(done:List Nat)(seat:Nat->Option Nat):Prop where
 hl:∀k r,k<n->held k=some r->seat k=some r
 out:∀k,k<n->held k=none->k∉done->seat k=none
 inn:∀k,k∈done->k<n->seat k≠none
 lt:∀k r,k<n->seat k=some r->r<M
 dj:∀k l r,k<n->l<n->k≠l->seat k=some r->seat l=some r->e k<=b l\/e l<=b k
variable{b e:Nat->Int}{held seat:Nat->Option Nat}{done:List Nat}{c r:Nat}
def skip(I:PInv n M b e held done seat)(J:seat c≠none):PInv n M b e held (done++[c]) seat:=
 ⟨I.hl,λk hk h hn=>I.out k hk h λz=>hn (aU _ z),λk hk hn=>by
  rcases aR.mp hk with w|w
  .exact I.inn k w hn
  .rwa[aB.mp w],I.lt,I.dj⟩
end Pl
namespace XS
open PySem.W
structure Weak(lt:Nat->Nat->Bool):Prop where
 irr:∀a,lt a a=false
 tr:∀a b c,lt a b=true->lt b c=true->lt a c=true
 nt:∀a b c,lt a c=true->lt a b=true\/lt b c=true
def Rk(lt:Nat->Nat->Bool)(a b:Nat):Prop:=lt a b=true\/(lt b a=false/\a<b)
section
variable{lt:Nat->Nat->Bool}{p:Array Nat}
theorem Weak.not(W:Weak lt) (h1:lt k m=false) (h2:lt m t=false):lt k t=false:=by
 cases q:lt k t with
 |false=>rfl
 |true=>
  rcases W.nt k m t q with z|z
  .rw[z]at h1;cases h1
  .rw[z]at h2;cases h2
def Rk.trans(W:Weak lt) {a:Nat}(h1:Rk lt a k) (h2:Rk lt k m):Rk lt a m:=by
 rcases h1 with h1|⟨h1,l1⟩
 .rcases h2 with h2|⟨h2,l2⟩
  .exact .inl (W.tr _ _ _ h1 h2)
  .rcases W.nt a m k h1 with z|z
   .exact .inl z
   .rw[z]at h2;cases h2
 .rcases h2 with h2|⟨h2,l2⟩
  .rcases W.nt k a m h2 with z|z
   .rw[z]at h1;cases h1
   .exact .inl z
  .exact .inr ⟨W.not h2 h1,by lia⟩
abbrev ga(p:Array Nat)(i:Nat):Nat:=p.getD i 0
def Asc(lt:Nat->Nat->Bool)(p:Array Nat)(m:Nat):Prop:=∀i j,i<j->j<m->Rk lt (ga p i) (ga p j)
structure Run(lt:Nat->Nat->Bool)(n:Nat)(p:Array Nat)(m:Nat):Prop where
 asc:Asc lt p m
 rest:∀k,m<=k->k<n->ga p k=k
 low:∀k,k<m->ga p k<m
def Run.snoc(W:Weak lt) (R:Run lt n p m) (h1:1<=m) (ha:m<n) (h:lt (ga p m) (ga p (m-1))=false):Run lt n p (m+1):=by
 have ea:=R.rest m (bF _) ha;have Y:=R.low (m-1) (by lia);have st:Rk lt (ga p (m-1)) (ga p m):=.inr ⟨h,by lia⟩;refine⟨λi j Z X=>?_,λk hk hn=>R.rest k (by lia) hn,λk hk=>?_⟩
 .by_cases z:j<m
  .exact R.asc i j Z z
  .have:j=m:=by lia
   subst this;by_cases y:i=j-1
   .rwa[y]
   .exact(R.asc i (j-1) (by lia) (by lia)).trans W st
 .by_cases z:k<m
  .have:=R.low k z;lia
  .have:k=m:=by lia
   subst this;lia
theorem Je(W:Weak lt):∀(f a:Nat),Run lt n p a->1<=a->a+f<=n->Run lt n p (dX lt (bw p f a))/\a<=dX lt (bw p f a)/\dX lt (bw p f a)<=a+f/\(dX lt (bw p f a)<a+f->lt (ga p (dX lt (bw p f a))) (ga p (dX lt (bw p f a)-1))=true)
 |0,a,R,h1,Z=>⟨R,bF _,bF _,λz=>by
  have z:a<a+0:=z;lia⟩
 |f+1,a,R,h1,Z=>by
  have e:dX lt (bw p (f+1) a)=dX lt (if lt (ga p a) (ga p (a-1))=true then .ret a else bw p f (a+1)):=rfl;rw[e];by_cases c:lt (ga p a) (ga p (a-1))=true
  .rw[if_pos c];exact⟨R,bF _,by show a<=a+(f+1);lia,λ_=>c⟩
  .rw[if_neg c];obtain⟨q1,q2,q3,q4⟩:=Je W f (a+1) (R.snoc W h1 (by lia) (by simpa using c)) (by lia) (by lia);exact⟨q1,by lia,by lia,λz=>q4 (by lia)⟩
theorem zL(W:Weak lt) (R:Run lt n p k):∀(f l r:Nat),l<=r->r<=k->r-l<=f->(∀i,i<l->lt (ga p k) (ga p i)=false)->(∀i,r<=i->i<k->lt (ga p k) (ga p i)=true) ->
 dX lt (bc p k f l r)<=k/\(∀i,i<dX lt (bc p k f l r)->lt (ga p k) (ga p i)=false)/\(∀i,dX lt (bc p k f l r)<=i->i<k->lt (ga p k) (ga p i)=true)
 |0,l,r,h1,h2,U,Y,Z=>by
  have:l=r:=by lia
  subst this;exact⟨h2,Y,Z⟩
 |f+1,l,r,h1,h2,U,Y,Z=>by
  by_cases z:l≥r
  .have:l=r:=by lia
   subst this;have e:bc p k (f+1) l l = .ret l:=by unfold bc;rw[if_pos z]
   rw[e];exact⟨h2,Y,Z⟩
  .have e:dX lt (bc p k (f+1) l r)=dX lt (if lt (ga p k) (ga p ((l+r)/2))=true then bc p k f l ((l+r)/2)else bc p k f ((l+r)/2+1) r):=by
    conv=>lhs;unfold bc
    rw[if_neg z];rfl
   rw[e];have V:l<=(l+r)/2:=by lia
   by_cases c:lt (ga p k) (ga p ((l+r)/2))=true
   .rw[if_pos c];refine zL W R f l ((l+r)/2) V (by lia) (by lia) Y λi hi hk=>?_
    by_cases y:i=(l+r)/2
    .rwa[y]
    .rcases R.asc ((l+r)/2) i (by lia) hk with q|⟨q,_⟩
     .exact W.tr _ _ _ c q
     .rcases W.nt _ (ga p i) _ c with w|w
      .exact w
      .rw[w]at q;cases q
   .rw[if_neg c];have c:lt (ga p k) (ga p ((l+r)/2))=false:=by simpa using c
    refine zL W R f ((l+r)/2+1) r (by lia) h2 (by lia) (λi hi=>?_) Z;by_cases y:i=(l+r)/2
    .rwa[y]
    .cases q:lt (ga p k) (ga p i)with
     |false=>rfl
     |true=>
      rcases R.asc i ((l+r)/2) (by lia) (by lia)with w|⟨w,_⟩
      .rw[W.tr _ _ _ q w]at c;cases c
      .rcases W.nt _ (ga p ((l+r)/2)) _ q with X|X
       .rw[X]at c;cases c
       .rw[X]at w;cases w
def YH (hk:k<p.size) (hl:m<=k) (i:Nat):ga (bubble p k (k-m)) i=if i=m then ga p k else if m<i/\i<=k then ga p (i-1)else ga p i:=by
 have e:=getElem?_bubble hk (k-m) (by lia) i;rw[show k-(k-m)=m by lia]at e;have g:∀(q:Array Nat)(i:Nat),ga q i=(q[i]?).getD 0:=λq i=>by simp[ga,h_]
 rw[g,e,g p k,g p (i-1),g p i];by_cases Y:i=m
 .rw[if_pos Y,if_pos Y]
 .rw[if_neg Y,if_neg Y];by_cases Z:m<i/\i<=k
  .rw[if_pos Z,if_pos Z]
  .rw[if_neg Z,if_neg Z]
def Qz(W:Weak lt)(J:p.size=n) (R:Run lt n p k) (hk:k<n) (hl:t<=k) (h1:∀i,i<t->lt (ga p k) (ga p i)=false) (h2:∀i,t<=i->i<k->lt (ga p k) (ga p i)=true):Run lt n (bubble p k (k-t)) (k+1):=by
 have ek:=R.rest k (bF _) hk;have B:=YH (p:=p) (k:=k) (by lia) hl;refine⟨λi j Z T=>?_,λm hm hn=>?_,λm hm=>?_⟩
 .rw[B,B];by_cases U:i=t
  .rw[if_pos U,if_neg (by lia),if_pos (by lia)];exact .inl (h2 (j-1) (by lia) (by lia))
  .rw[if_neg U];by_cases V:j=t
   .rw[if_pos V,if_neg (by lia)];exact .inr ⟨h1 i (by lia),by rw[ek];exact R.low i (by lia)⟩
   .rw[if_neg V];by_cases X:t<i/\i<=k
    .rw[if_pos X,if_pos (by lia)];exact R.asc _ _ (by lia) (by lia)
    .rw[if_neg X];by_cases Y:t<j/\j<=k
     .rw[if_pos Y];exact R.asc _ _ (by lia) (by lia)
     .rw[if_neg Y];exact R.asc _ _ Z (by lia)
 .rw[B,if_neg (by lia),if_neg (by lia)];exact R.rest m (by lia) hn
 .rw[B];split
  .lia
  .split
   .have:=R.low (m-1) (by lia);lia
   .have:=R.low m (by lia);lia
theorem QB(W:Weak lt):∀(f:Nat)(p:Array Nat)(k:Nat),p.size=n->Run lt n p k->k+f=n->Run lt n (dX lt (kas_bin f p k)) n
 |0,p,k,Z,R,h=>by
  have:k=n:=by lia
  subst this;exact R
 |f+1,p,k,Z,R,h=>by
  have e:dX lt (kas_bin (f+1) p k)=dX lt (kas_bin f (bubble p k (k-dX lt (bc p k k 0 k))) (k+1)):=oU _ _;rw[e];obtain⟨q1,q2,q3⟩:=zL W R k 0 k (fK _) (bF _) (by lia) (λi hi=>by lia) (λi h1 h2=>by lia);exact QB W f _ (k+1) (by rwa[bubble_size]) (Qz W Z R (by lia) q1 q2 q3) (by lia)
end
end XS
namespace XS
open PySem.W
section
variable{lt:Nat->Nat->Bool}{p p':Array Nat}{a q:Nat}
def Rk.nr(W:Weak lt) (h:Rk lt k m):lt m k=false:=by
 rcases h with h|⟨h,_⟩
 .cases z:lt m k with
  |false=>rfl
  |true=>have:=W.tr _ _ _ h z;rw[W.irr]at this;cases this
 .exact h
def Jf(J:j<=p.size)(k:Nat):ga (be p i j) k=if i<=k/\k<j then ga p (i+j-1-k)else ga p k:=by
 have e:=getElem?_mirror_all (i:=i) J k;have g:∀(q:Array Nat)(i:Nat),ga q i=(q[i]?).getD 0:=λq i=>by simp[ga,h_]
 rw[g,g p (i+j-1-k),g p k];unfold be;rw[e];by_cases c:i<=k/\k<j
 .rw[if_pos c,if_pos c]
 .rw[if_neg c,if_neg c]
def zM(i j:Nat):(be p i j).size=p.size:=mirror_size _ _ _ _
structure Dn(lt:Nat->Nat->Bool)(n:Nat)(p:Array Nat)(a q:Nat):Prop where
 le:q+1<=a
 desc:∀i j,i<j->j<a-(q+1)->Rk lt (ga p j) (ga p i)
 strict:∀i j,i<a-(q+1)->a-(q+1)<=j->j<a->lt (ga p j) (ga p i)=true
 run:∀i j,a-(q+1)<=i->i<j->j<a->lt (ga p i) (ga p j)=false/\lt (ga p j) (ga p i)=false/\ga p i<ga p j
 rest:∀k,a<=k->k<n->ga p k=k
 low:∀k,k<a->ga p k<a
structure Desc(lt:Nat->Nat->Bool)(n:Nat)(p:Array Nat)(a:Nat):Prop where
 desc:∀i j,i<j->j<a->Rk lt (ga p j) (ga p i)
 rest:∀k,a<=k->k<n->ga p k=k
 low:∀k,k<a->ga p k<a
def Dn.turn(D:Dn lt n p a q)(h:∀k,ga p' k=if a-(q+1)<=k/\k<a then ga p (a-(q+1)+a-1-k)else ga p k):Desc lt n p' a:=by
 refine⟨λi j Z Y=>?_,λk hk hn=>?_,λk hk=>?_⟩
 .by_cases c:j<a-(q+1)
  .rw[h,h,if_neg (by lia),if_neg (by lia)];exact D.desc i j Z c
  .rw[h j,if_pos (by lia),h i];by_cases e:i<a-(q+1)
   .rw[if_neg (by lia)];exact .inl (D.strict _ _ e (by lia) (by lia))
   .rw[if_pos (by lia)];obtain⟨x,y,z⟩:=D.run (a-(q+1)+a-1-j) (a-(q+1)+a-1-i) (by lia) (by lia) (by lia);exact .inr ⟨y,z⟩
 .rw[h,if_neg (by lia)];exact D.rest k hk hn
 .rw[h];split
  .exact D.low _ (by lia)
  .exact D.low _ hk
def Desc.up(D:Desc lt n p a)(ha:a<n)(h:∀i,i<a->lt (ga p a) (ga p i)=true):Dn lt n p (a+1) 0:=by
 refine⟨by lia,λi j Z Y=>D.desc i j Z (by lia),λi j hi h1 h2=>?_,λi j h1 h2 X=>by lia,λk hk hn=>D.rest k (by lia) hn,λk hk=>?_⟩
 .have:j=a:=by lia
  subst this;exact h i (by lia)
 .by_cases z:k<a
  .have:=D.low k z;lia
  .have:k=a:=by lia
   subst this;rw[D.rest k (bF _) ha];lia
def turned(p:Array Nat)(a q:Nat):Array Nat:=if q>0 then be p (a-(q+1)) a else p
def t_(J:p.size=n)(ha:a<=n)(l:q+1<=a)(k:Nat):ga (turned p a q) k=if a-(q+1)<=k/\k<a then ga p (a-(q+1)+a-1-k)else ga p k:=by
 unfold turned;by_cases c:q>0
 .rw[if_pos c];exact Jf (by lia) k
 .rw[if_neg c];by_cases e:a-(q+1)<=k/\k<a
  .rw[if_pos e,show a-(q+1)+a-1-k=k by lia]
  .rw[if_neg e]
def wY:(turned p a q).size=p.size:=by
 unfold turned;split
 .exact zM _ _
 .rfl
def Dn.below(W:Weak lt)(D:Dn lt n p a q)(J:p.size=n)(ha:a<n)(h:lt (ga p a) (ga p (a-1))=true)(i:Nat)(hi:i<a):lt (ga (turned p a q) a) (ga (turned p a q) i)=true:=by
 have l:=D.le;have all:∀i,i<a->lt (ga p a) (ga p i)=true:=λi hi=>by
  by_cases c:i<a-(q+1)
  .exact W.tr _ _ _ h (D.strict i (a-1) c (by lia) (by lia))
  .by_cases e:i=a-1
   .rwa[e]
   .rcases W.nt _ (ga p i) _ h with w|w
    .exact w
    .rw[(D.run i (a-1) (by lia) (by lia) (by lia)).1]at w;cases w
 rw[t_ J (by lia) l,if_neg (by lia),t_ J (by lia) l];split
 .exact all _ (by lia)
 .exact all _ hi
def Dn.same(W:Weak lt)(D:Dn lt n p a q)(ha:a<n)(h1:lt (ga p a) (ga p (a-1))=false)(h2:lt (ga p (a-1)) (ga p a)=false):Dn lt n p (a+1) (q+1):=by
 have l:=D.le;have ea:=D.rest a (bF _) ha;refine⟨by lia,λi j Z Y=>D.desc i j Z (by lia),λi j hi q1 q2=>?_,λi j q1 q2 q3=>?_,λk hk hn=>D.rest k (by lia) hn,λk hk=>?_⟩
 .by_cases z:j<a
  .exact D.strict i j (by lia) (by lia) z
  .have:j=a:=by lia
   subst this;rcases W.nt _ (ga p j) _ (D.strict i (j-1) (by lia) (by lia) (by lia))with w|w
   .rw[w]at h2;cases h2
   .exact w
 .by_cases z:j<a
  .exact D.run i j (by lia) q2 z
  .have:j=a:=by lia
   subst this;have lo:=D.low i (by lia);by_cases e:i=j-1
   .subst e;exact⟨h2,h1,by lia⟩
   .obtain⟨x,y,_⟩:=D.run i (j-1) (by lia) (by lia) (by lia);exact⟨W.not x h2,W.not h1 y,by lia⟩
 .by_cases z:k<a
  .have:=D.low k z;lia
  .have:k=a:=by lia
   subst this;lia
theorem DK(W:Weak lt):∀(f:Nat)(p:Array Nat)(a q:Nat),p.size=n->Dn lt n p a q->a+f<=n ->
 (dX lt (aI f p a q)).1.size=n/\Dn lt n (dX lt (aI f p a q)).1 (dX lt (aI f p a q)).2.1 (dX lt (aI f p a q)).2.2/\(dX lt (aI f p a q)).2.1<=n
 |0,p,a,q,Z,D,h=>⟨Z,D,h⟩
 |f+1,p,a,q,Z,D,h=>by
  have e:dX lt (aI (f+1) p a q)=dX lt (if lt (ga p a) (ga p (a-1))=true then(if q>0 then aI f (be p (a-(q+1)) a) (a+1) 0 else aI f p (a+1) 0)else .ask (ga p (a-1)) (ga p a) λd=>if d=true then .ret (p,a,q)else aI f p (a+1) (q+1)):=rfl;rw[e];by_cases c:lt (ga p a) (ga p (a-1))=true
  .rw[if_pos c];have e2:(if q>0 then aI f (be p (a-(q+1)) a) (a+1) 0 else aI f p (a+1) 0)=aI f (turned p a q) (a+1) 0:=by
    unfold turned;split<;>rfl
   rw[e2];exact DK W f (turned p a q) (a+1) 0 (by rwa[wY]) ((D.turn (t_ Z (by lia) D.le)).up (by lia) (D.below W Z (by lia) c)) (by lia)
  .rw[if_neg c];have e3:dX lt (.ask (ga p (a-1)) (ga p a) λd=>if d=true then .ret (p,a,q)else aI f p (a+1) (q+1))=dX lt (if lt (ga p (a-1)) (ga p a)=true then .ret (p,a,q)else aI f p (a+1) (q+1)):=rfl;rw[e3];by_cases d:lt (ga p (a-1)) (ga p a)=true
   .rw[if_pos d];exact⟨Z,D,by show a<=n;lia⟩
   .rw[if_neg d];exact DK W f p (a+1) (q+1) Z (D.same W (by lia) (by simpa using c) (by simpa using d)) (by lia)
def U7(W:Weak lt)(J:p.size=n)(D:Desc lt n p a)(h1:1<=a)(ha:a<=n):
 (dX lt (bt a n p)).2.size=n/\Run lt n (dX lt (bt a n p)).2 (dX lt (bt a n p)).1/\1<=(dX lt (bt a n p)).1/\(dX lt (bt a n p)).1<=n:=by
 have e:dX lt (bt a n p)=(dX lt (bw (be p 0 a) (n-a) a),be p 0 a):=oU _ _;rw[e];have B:=Jf (p:=p) (i:=0) (j:=a) (by lia);have R:Run lt n (be p 0 a) a:=by
  refine⟨λi j Z Y=>?_,λk hk hn=>?_,λk hk=>?_⟩
  .rw[B,B,if_pos (by lia),if_pos (by lia)];exact D.desc _ _ (by lia) (by lia)
  .rw[B,if_neg (by lia)];exact D.rest k hk hn
  .rw[B,if_pos (by lia)];exact D.low _ (by lia)
 obtain⟨q1,q2,q3,_⟩:=Je W (n-a) a R h1 (by lia);exact⟨by rwa[zM],q1,by show 1<=dX lt _;lia,by show dX lt _<=n;lia⟩
def Kh(W:Weak lt)(J:p.size=n)(D:Dn lt n p (a+1) 0)(ha:a<n):
 (dX lt (ax a n p)).2.size=n/\Run lt n (dX lt (ax a n p)).2 (dX lt (ax a n p)).1/\1<=(dX lt (ax a n p)).1/\(dX lt (ax a n p)).1<=n:=by
 obtain⟨q1,q2,q3⟩:=DK W (n-(a+1)) p (a+1) 0 J D (by lia);have e:dX lt (ax a n p)=dX lt (bt (dX lt (aI (n-(a+1)) p (a+1) 0)).2.1 n (turned (dX lt (aI (n-(a+1)) p (a+1) 0)).1 (dX lt (aI (n-(a+1)) p (a+1) 0)).2.1 (dX lt (aI (n-(a+1)) p (a+1) 0)).2.2)):=by
  refine(oU _ _).trans ?_;unfold turned;split<;>rfl
 rw[e];have l:=q2.le;exact U7 W (by rwa[wY]) (q2.turn (t_ q1 q3 l)) (by lia) q3
def QC(W:Weak lt)(J:p.size=n)(hn:1<=n)(R:Run lt n p 1):
 (dX lt (bu n p)).2.size=n/\Run lt n (dX lt (bu n p)).2 (dX lt (bu n p)).1/\1<=(dX lt (bu n p)).1/\(dX lt (bu n p)).1<=n:=by
 obtain⟨q1,q2,q3,q4⟩:=Je W (n-1) 1 R (bF _) (by lia);have e:dX lt (bu n p)=_:=oU _ _;rw[e];generalize dX lt (bw p (n-1) 1)=m at q1 q2 q3 q4 ⊢;by_cases c:(m==n)=true
 .rw[if_pos c];exact⟨J,q1,q2,by show m<=n;lia⟩
 .rw[if_neg c];have c:m<n:=by
   have:¬m=n:=by simpa using c
   lia
  have Y:=q4 (by lia);have st:∀p',(∀k,ga p' k=if 0<=k/\k<m then ga p (0+m-1-k)else ga p k)->lt (ga p 0) (ga p (m-1))=false->Dn lt n p' (m+1) 0:=λp' B z=>by
   have D:Desc lt n p' m:=by
    refine⟨λi j Z X=>?_,λk hk hn=>?_,λk hk=>?_⟩
    .rw[B,B,if_pos (by lia),if_pos (by lia)];exact q1.asc _ _ (by lia) (by lia)
    .rw[B,if_neg (by lia)];exact q1.rest k hk hn
    .rw[B,if_pos (by lia)];exact q1.low _ (by lia)
   have all:∀i,i<m->lt (ga p m) (ga p i)=true:=λi hi=>by
    rcases W.nt _ (ga p i) _ Y with w|w
    .exact w
    .by_cases y:i=0
     .subst y;rw[z]at w;cases w
     .rcases W.nt _ (ga p 0) _ w with v|v
      .rw[(q1.asc 0 i (by lia) hi).nr W]at v;cases v
      .rw[z]at v;cases v
   refine D.up c λi hi=>?_
   rw[B,if_neg (by lia),B,if_pos (by lia)];exact all _ (by lia)
  by_cases g:m>1
  .rw[if_pos g];show _/\Run lt n (dX lt (if lt (ga p 0) (ga p (m-1))=true then .ret (m,p)else ax m n (be p 0 m))).2 (dX lt (if lt (ga p 0) (ga p (m-1))=true then .ret (m,p)else ax m n (be p 0 m))).1/\_;by_cases z:lt (ga p 0) (ga p (m-1))=true
   .have e:dX lt (.ask (ga p 0) (ga p (m-1)) λc=>if c=true then .ret (m,p)else ax m n (be p 0 m))=(m,p):=by
     show dX lt (if lt (ga p 0) (ga p (m-1))=true then .ret (m,p)else ax m n (be p 0 m))=_;rw[if_pos z];rfl
    rw[e,if_pos z];exact⟨J,q1,q2,by show m<=n;lia⟩
   .have e:dX lt (.ask (ga p 0) (ga p (m-1)) λc=>if c=true then .ret (m,p)else ax m n (be p 0 m))=dX lt (ax m n (be p 0 m)):=by
     show dX lt (if lt (ga p 0) (ga p (m-1))=true then .ret (m,p)else ax m n (be p 0 m))=_;rw[if_neg z]
    rw[e,if_neg z];exact Kh W (by rwa[zM]) (st _ (Jf (by lia)) (by simpa using z)) c
  .rw[if_neg g];have:m=1:=by lia
   subst this;refine Kh W J (st p (λk=>?_) (W.irr _)) c;split
   .rw[show 0+1-1-k=k by lia]
   .rfl
def U8(W:Weak lt)(hn:1<=n):Run lt n (dX lt (bS n)) n:=by
 have Z:∀k,k<n->ga (iU (aC n)) k=k:=λk hk=>by
  simp[ga,h_,hk]
 obtain⟨q1,q2,q3,q4⟩:=QC (p:=iU (aC n)) W (by simp) hn ⟨λi j h1 h2=>by lia,λk hk h=>Z k h,λk hk=>by rwa[Z k (by lia)]⟩;have e:dX lt (bS n)=_:=oU _ _;rw[e];generalize dX lt (bu n (iU (aC n)))=r at q1 q2 q3 q4 ⊢;by_cases c:r.1<n
 .rw[if_pos c,show max r.1 1=r.1 by lia];exact QB W _ _ _ q1 q2 (by lia)
 .rw[if_neg c];have:r.1=n:=by lia
  rw[<-this];rwa[<-this]at q2
def Jg(W:Weak lt)(hn:1<=n):(uO n lt).Pairwise (Rk lt):=by
 have R:=U8 W hn;have z:(uO n lt).length=n:=by
  have:=(qt (n:=n) (by lia) lt).length_eq;simpa using this
 rw[lg];intro i j hi Y Z;have:=R.asc i j Z (by lia);have g:∀k (h:k<(uO n lt).length),ga (dX lt (bS n)) k=(uO n lt)[k]:=λk h=>by
  unfold uO at h ⊢;have h':k<(dX lt (bS n)).size:=by simpa using h
  simp[ga,h_,h']
 rwa[g i hi,g j Y]at this
end
end XS
namespace XS
def QD{k:Nat->Int}:Weak λi j=>decide (k i<k j):=by
 refine⟨λa=>?_,λa b c h1 h2=>?_,λa b c h=>?_⟩
 .simp
 .simp only[decide_eq_true_eq]at *;lia
 .simp only[decide_eq_true_eq]at *;lia
end XS
namespace Com
open D3 My XS
def ae5{k:Nat->Int}(h:Rk (λi j=>decide (k i<k j)) i j):k i<=k j:=by
 rcases h with z|⟨z,_⟩
 .have z:=of_decide_eq_true z;lia
 .have z:=of_decide_eq_false z;lia
def QF{l:List Nat}{lt:Nat->Nat->Bool}(J:0<l.length):((uO l.length lt).map λi=>l.getD i 0).Perm l:=by
 have e:(aC l.length).map (λi=>l.getD i 0)=l:=by
  apply fU;intro i;rw[bf];by_cases h:i<l.length
  .rw[cJ h,bA h,gW,bU,bA h];rfl
  .rw[bK (by simpa using h),bK (by lia)];rfl
 have:=(qt J lt).map (λi=>l.getD i 0);rwa[e]at this
def Jh(l:List Nat)(f:Nat->Int):∃J:List Nat,uz (l.map λp:Nat=>cE (p:Int)) (l.map f)=J.map (λp:Nat=>cE (p:Int))/\J.Perm l/\J.Pairwise λa b=>f a<=f b:=by
 unfold uz;rw[au];by_cases h1:l.length<=1
 .rw[if_pos h1];refine⟨l,rfl,List.Perm.refl _,?_⟩
  match l,h1 with
  |[],_=>exact .nil
  |[_],_=>simp
 .rw[if_neg h1];have X:∀i,i<l.length->(l.map f).getD i 0=f (l.getD i 0):=λi hi=>by
   rw[bU,bf,bU,bA hi];rfl
  refine⟨(uO l.length λi j=>decide ((l.map f).getD i 0<(l.map f).getD j 0)).map λi=>l.getD i 0,?_,QF (by lia),?_⟩
  .rw[eZ];apply gY;intro i hi;have Z:=bR.mp ((qt (n:=l.length) (by lia) _).mem_iff.mp hi);rw[bU,bf,bA Z];show _=cE ((l.getD i 0:Nat):Int);rw[bU,bA Z];rfl
  .rw[List.pairwise_map];have W:Weak λi j=>decide ((l.map f).getD i 0<(l.map f).getD j 0):=QD
   refine eB ?_ (Jg W (by lia));intro i j hi U V;have Z:=bR.mp ((qt (n:=l.length) (by lia) _).mem_iff.mp hi);have Y:=bR.mp ((qt (n:=l.length) (by lia) _).mem_iff.mp U);have:=ae5 (k:=λi=>(l.map f).getD i 0) V;rwa[X i Z,X j Y]at this
def Ji(f:Nat->D):lE ((aC n).map f)=(aC n).map λp:Nat=>cP [.int (p:Int),f p]:=by
 unfold lE;apply fU;intro i;rw[jT,bf,bf];by_cases h:i<n
 .rw[cJ h];rfl
 .rw[bK (by simpa using h)];rfl
def ae6(u:Option U)(ps:List Nat)(h:∀p∈ps,p<L.length):fM (gNl 0) D3.jV dK0 (jR 1 [0] [some (.d (.list (L.map yD))),u]) (ps.map λp:Nat=>cE (p:Int))=some ((ps.map λp=>(tAt L p).1).map cE):=by
 rw[eZ];exact xH (λp:Nat=>cE (p:Int)) (λp:Nat=>cE (tAt L p).1) ps λp Z=>⟨[some (.d (.int (p:Int))),some (.d (.list (L.map yD)))],rfl,rfl,by
  show(pAt (L.map yD) (p:Int)).bind _=_;rw[rE,GR _ (h p Z)];rfl⟩
def opn(L:List Ty):List Nat:=(aC L.length).filter λp=>!(tAt L p).2.2.isSome
def ae7(x:Int):jJ L x=((aC L.length).filter (Gr.holds (λk=>(tAt L k).1) (λk=>(tAt L k).2.1) x)).length:=by
 have e:L=(aC L.length).map (tAt L):=by
  apply fU;intro i;rw[bf];by_cases h:i<L.length
  .rw[cJ h,bA h,gW];unfold tAt;rw[bU,bA h];rfl
  .rw[bK (by lia),bK (by simpa using h)];rfl
 unfold jJ
 conv=>lhs;rw[e]
 rw[List.filter_map,au];rfl
theorem GZ(nd:(L.filterMap (·.2.2)).Nodup){k l r:Nat}(hk:k<L.length)(hl:l<L.length)(O:(tAt L k).2.2=some r)(J:(tAt L l).2.2=some r):k=l:=by
 induction L generalizing k l with
 |nil=>cases hk
 |cons s L Y=>
  have Z:(L.filterMap (·.2.2)).Nodup:=by
   cases h:s.2.2 with
   |none=>rw[cD,h]at nd;exact nd
   |some x=>rw[cD,h]at nd;exact(cI.mp nd).2
  have no:∀m,m<L.length->s.2.2=some r->(tAt L m).2.2=some r->False:=λm hm a b=>by
   rw[cD,a]at nd;exact(cI.mp nd).1 (f9.mpr ⟨_,jr hm,b⟩)
  cases k with
  |zero=>
   cases l with
   |zero=>rfl
   |succ l=>exact(no l (by simpa using hl) O J).elim
  |succ k=>
   cases l with
   |zero=>exact(no k (by simpa using hk) J O).elim
   |succ l=>exact congrArg (· + 1) (Y Z (k:=k) (l:=l) (by simpa using hk) (by simpa using hl) O J)
end Com
namespace Rch
structure GInv(z:Int)(M:Nat)(b e:Nat->Int)(done:List Nat)(seat:Nat->Option Nat)(fs:Nat->Int):Prop where
 out:∀p,p∉done->seat p=none
 inn:∀p∈done,∃r,seat p=some r/\r<M/\e p<=fs r
 bk:∀r,r<M->fs r<=z\/∃p∈done,seat p=some r/\e p=fs r
 dj:∀p∈done,∀q∈done,p≠q->seat p=seat q->e p<=b q\/e q<=b p
def GInv.step{z:Int}{b e:Nat->Int}{done:List Nat}{seat:Nat->Option Nat}{fs:Nat->Int}{c r:Nat}(I:GInv z M b e done seat fs)(O:c∉done)(J:r<M)(hf:fs r<=b c)(h1:b c<e c):
 GInv z M b e (done++[c]) (λp=>if p=c then some r else seat p) (λx=>if x=r then e c else fs x):=by
 have ne:∀p∈done,p≠c:=λp Y z=>O (z▸Y)
 refine⟨λp Y=>?_,λp Y=>?_,λx W=>?_,λp Y q U V Z=>?_⟩
 .have h2:p≠c:=λz=>Y (aL _ (by rw[z];exact aB.mpr rfl))
  rw[if_neg h2];exact I.out p λz=>Y (aU _ z)
 .rcases aR.mp Y with z|z
  .obtain⟨x,s1,s2,X⟩:=I.inn p z;refine⟨x,by rwa[if_neg (ne p z)],s2,?_⟩;by_cases W:x=r
   .rw[if_pos W];rw[W]at X;lia
   .rwa[if_neg W]
  .have z:=aB.mp z;exact⟨r,by rw[if_pos z],J,by rw[if_pos rfl,z];exact fL _⟩
 .by_cases z:x=r
  .exact .inr ⟨c,aL _ (aB.mpr rfl),by rw[if_pos rfl,z],by rw[if_pos z]⟩
  .rw[if_neg z];rcases I.bk x W with w|⟨p,Y,S,T⟩
   .exact .inl w
   .exact .inr ⟨p,aU _ Y,by rwa[if_neg (ne p Y)],T⟩
 .rcases aR.mp Y with z|z
  .rcases aR.mp U with w|w
   .rw[if_neg (ne p z),if_neg (ne q w)]at Z;exact I.dj p z q w V Z
   .have w:=aB.mp w;rw[if_neg (ne p z),if_pos w]at Z;obtain⟨x,s1,_,X⟩:=I.inn p z;rw[s1]at Z;injection Z with Z
    rw[Z]at X
    left
    rw[w];lia
  .have z:=aB.mp z;rcases aR.mp U with w|w
   .rw[if_pos z,if_neg (ne q w)]at Z;obtain⟨x,s1,_,X⟩:=I.inn q w;rw[s1]at Z;injection Z with Z
    rw[<-Z]at X
    right
    rw[z];lia
   .exact absurd (z.trans (aB.mp w).symm) V
theorem QG{α:Type}(P:Nat->α->Prop):∀J:List Nat,J.Nodup->(∀r∈J,∃a,P r a)->(∀r O a,P r a->P O a->r=O)->∃l:List α,l.length=J.length/\l.Nodup/\∀a∈l,∃r∈J,P r a
 |[],_,_,_=>⟨[],rfl,rR,λ_ h=>by cases h⟩
 |r0::J,nd,h,u=>by
  obtain⟨n1,n2⟩:=cI.mp nd;obtain⟨l,h1,h2,X⟩:=QG P J n2 (λr Z=>h r (aA _ Z)) u;obtain⟨a,ha⟩:=h r0 aD;refine⟨a::l,by rw[bI,bI,h1],cI.mpr ⟨λz=>?_,h2⟩,λx W=>?_⟩
  .obtain⟨r,Z,Y⟩:=X a z;have:=u r r0 a Y ha;exact n1 (this▸Z)
  .rcases aK.mp W with rfl|z
   .exact⟨r0,aD,ha⟩
   .obtain⟨r,Z,Y⟩:=X x z;exact⟨r,aA _ Z,Y⟩
noncomputable def holds(b e:Nat->Int)(x:Int)(p:Nat):Bool:=decide (b p<=x)&&decide (x<e p)
def holds_iff{b e:Nat->Int}{x:Int}{p:Nat}:holds b e x p=true<->b p<=x/\x<e p:=by
 unfold holds;rw[aV,decide_eq_true_iff,decide_eq_true_iff]
def cnt(n:Nat)(b e:Nat->Int)(x:Int):Nat:=((aC n).filter (holds b e x)).length
def Kl{b e:Nat->Int}{x:Int}{p:Nat}:p∈(aC n).filter (holds b e x)<->p<n/\b p<=x/\x<e p:=by
 rw[cA,bR,holds_iff]
structure Wd(n M:Nat)(b e:Nat->Int)(hd:Nat->Option Nat)(now:Int)(w r:Nat)(B:Int):Prop where
 lt:∀k,k<n->b k<e k
 hh:∀k s,k<n->hd k=some s->s<M/\b k<=now/\now<e k
 hn:∀k,k<n->hd k=none->now<=b k
 one:∀k l s,k<n->l<n->hd k=some s->hd l=some s->k=l
 full:∀k,k<n->now<=b k->cnt n b e (b k)<=M
 wn:w<n
 wh:hd w=none
 rM:r<M
 beg:(∃k,k<n/\hd k=some r/\B=e k)\/((∀k,k<n->hd k≠some r)/\B=now)
section
variable{b e:Nat->Int}{hd:Nat->Option Nat}{w r:Nat}{B:Int}
def Go(n:Nat)(b e:Nat->Int)(hd:Nat->Option Nat)(w k:Nat):Prop:=k<n/\k≠w/\hd k=none/\e k<=b w
inductive Pth(n M:Nat)(b e:Nat->Int)(hd:Nat->Option Nat)(w:Nat)(B:Int):List Nat->Int->Prop
 |start:Pth n M b e hd w B [] B
 |gap {cs:List Nat} {x:Int}:Pth n M b e hd w B cs x->cnt n b e x≠M->x<b w->Pth n M b e hd w B cs (x+1)
 |stay {cs:List Nat} {k:Nat}:Pth n M b e hd w B cs (b k)->Go n b e hd w k->Pth n M b e hd w B (cs++[k]) (e k)
theorem Pth.ge(W:Wd n M b e hd now w r B){cs:List Nat}{x:Int}(h:Pth n M b e hd w B cs x):B<=x:=by
 induction h with
 |start=>exact fL _
 |gap _ _ _ Z=>lia
 |stay _ g Z=>
  have:=W.lt _ g.1;lia
theorem Pth.mem(W:Wd n M b e hd now w r B){cs:List Nat}{x:Int}(h:Pth n M b e hd w B cs x):∀k∈cs,Go n b e hd w k/\B<=b k/\e k<=x:=by
 induction h with
 |start=>intro k hk;cases hk
 |gap _ _ _ Z=>intro k hk;obtain⟨h1,h2,Y⟩:=Z k hk;exact⟨h1,h2,by lia⟩
 |stay p g Z=>
  intro k hk;rcases aR.mp hk with z|z
  .obtain⟨h1,h2,Y⟩:=Z k z;have:=W.lt _ g.1;exact⟨h1,h2,by lia⟩
  .rw[aB.mp z];exact⟨g,p.ge W,fL _⟩
theorem Pth.pw(W:Wd n M b e hd now w r B){cs:List Nat}{x:Int}(h:Pth n M b e hd w B cs x):cs.Pairwise λp q=>e p<=b q:=by
 induction h with
 |start=>exact .nil
 |gap _ _ _ Z=>exact Z
 |stay p g Z=>exact jU.mpr ⟨Z,mq _ _,λa ha q Y=>by rw[aB.mp Y];exact(p.mem W a ha).2.2⟩
theorem Pth.cov(W:Wd n M b e hd now w r B){cs:List Nat}{x:Int}(h:Pth n M b e hd w B cs x):∀y,B<=y->y<x->(∃k∈cs,b k<=y/\y<e k)\/cnt n b e y≠M:=by
 induction h with
 |start=>intro y h1 h2;lia
 | @gap cs x p g1 g2 Z=>
  intro y h1 h2;by_cases z:y=x
  .rw[z];exact .inr g1
  .exact Z y h1 (by lia)
 | @stay cs k p g Z=>
  intro y h1 h2;by_cases z:b k<=y
  .exact .inl ⟨k,aL _ (aB.mpr rfl),z,h2⟩
  .rcases Z y h1 (by lia)with⟨Y,m,q⟩|q
   .exact .inl ⟨Y,aU _ m,q⟩
   .exact .inr q
def ae8(W:Wd n M b e hd now w r B)(hB:B<=b w){cs:List Nat}(p:Pth n M b e hd w B cs (b w)){f:Nat->Int}(J:∀s,s<M->(∃k,k<n/\hd k=some s/\f s=e k)\/((∀k,k<n->hd k≠some s)/\f s=now))(hr:f r=B){hel:List Nat}(hh:∀k,k∈hel<->k<n/\(hd k).isSome=true)(ho:∀k,n<=k->hd k=none):
 GInv now M b e (hel++(cs++[w])) (λk=>if k∈cs++[w]then some r else hd k) (λs=>if s=r then e w else f s):=by
 have N:=W.lt w W.wn;have rM:=W.rM;have X:∀k∈cs++[w],k<n/\hd k=none/\B<=b k/\e k<=e w:=λk hk=>by
  rcases aR.mp hk with z|z
  .obtain⟨g,g1,g2⟩:=p.mem W k z;exact⟨g.1,g.2.2.1,g1,by lia⟩
  .rw[aB.mp z];exact⟨W.wn,W.wh,hB,fL _⟩
 have ap:∀k l,k∈cs++[w]->l∈cs++[w]->k≠l->e k<=b l\/e l<=b k:=by
  have pw:=jU.mpr ⟨p.pw W,mq _ _,λa ha q O=>by rw[aB.mp O];exact(p.mem W a ha).2.2⟩;intro k l hk hl U;obtain⟨i,hi,Q⟩:=jm hk;obtain⟨j,P,R⟩:=jm hl;rcases Nat.lt_trichotomy i j with z|z|z
  .left
   have:=lg.mp pw i j hi P z;rwa[Q,R]at this
  .subst z;exact absurd (Q.symm.trans R) U
  .right
   have:=lg.mp pw j i P hi z;rwa[Q,R]at this
 have held:∀k s,k<n->hd k=some s->k∉cs++[w]:=λk s _ k2 z=>by
  rw[(X k z).2.1]at k2;cases k2
 have Z:∀k,k<n->hd k=some r->e k=B:=λk k1 k2=>by
  rcases W.beg with⟨l,l1,l2,V⟩|⟨l1,_⟩
  .rw[W.one k l r k1 l1 k2 l2,V]
  .exact absurd k2 (l1 k k1)
 refine⟨λk hk=>?_,λk hk=>?_,λs Y=>?_,λk hk l hl U Y=>?_⟩
 .have h1:=λz=>hk (aL _ z)
  rw[if_neg h1]
  cases z:hd k with
  |none=>rfl
  |some s=>
   rcases mH k n with y|y
   .exact absurd (aU _ ((hh k).mpr ⟨y,by rw[z];rfl⟩)) hk
   .rw[ho k y]at z;cases z
 .by_cases c:k∈cs++[w]
  .exact⟨r,by rw[if_pos c],rM,by rw[if_pos rfl];exact(X k c).2.2.2⟩
  .have T:k∈hel:=by
    rcases aR.mp hk with z|z
    .exact z
    .exact absurd z c
   obtain⟨k1,k2⟩:=(hh k).mp T;obtain⟨s,es⟩:=cR.mp k2;refine⟨s,by rwa[if_neg c],(W.hh k s k1 es).1,?_⟩;by_cases z:s=r
   .rw[if_pos z];rw[z]at es;have:=Z k k1 es;lia
   .rw[if_neg z];rcases J s (W.hh k s k1 es).1 with⟨l,l1,l2,V⟩|⟨l1,_⟩
    .rw[V,W.one k l s k1 l1 es l2];exact fL _
    .exact absurd es (l1 k k1)
 .by_cases z:s=r
  .right
   have m:w∈cs++[w]:=aL _ (aB.mpr rfl);exact⟨w,aL _ m,by rw[if_pos m,z],by rw[if_pos z]⟩
  .rw[if_neg z];rcases J s Y with⟨l,l1,l2,V⟩|⟨_,V⟩
   .exact .inr ⟨l,aU _ ((hh l).mpr ⟨l1,by rw[l2];rfl⟩),by rwa[if_neg (held l s l1 l2)],V.symm⟩
   .exact .inl (by lia)
 .have Y:=Y;by_cases c:k∈cs++[w]
  .by_cases d:l∈cs++[w]
   .exact ap k l c d U
   .rw[if_pos c,if_neg d]at Y;have S:l∈hel:=by
     rcases aR.mp hl with z|z
     .exact z
     .exact absurd z d
    have:=Z l ((hh l).mp S).1 Y.symm;have:=(X k c).2.2.1;lia
  .have T:k∈hel:=by
    rcases aR.mp hk with z|z
    .exact z
    .exact absurd z c
   rw[if_neg c]at Y;by_cases d:l∈cs++[w]
   .rw[if_pos d]at Y;have:=Z k ((hh k).mp T).1 Y;have:=(X l d).2.2.1;lia
   .rw[if_neg d]at Y;have S:l∈hel:=by
     rcases aR.mp hl with z|z
     .exact z
     .exact absurd z d
    obtain⟨k1,k2⟩:=(hh k).mp T;obtain⟨s,es⟩:=cR.mp k2;exact absurd (W.one k l s k1 ((hh l).mp S).1 es (Y.symm.trans es)) U
def room(W:Wd n M b e hd now w r B)(hB:B<=b w){cs:List Nat}(p:Pth n M b e hd w B cs (b w)){done:List Nat}{seat:Nat->Option Nat}{fs:Nat->Int}{c:Nat}(I:GInv now M b e done seat fs)(hc:c∉done)(J:c<n)(hcf:hd c=none)(hdn:∀k∈done,k<n)
 (hA:∀k∈done,k∈cs++[w]\/b k<=b c) (O:∀k∈cs++[w],k∈done/\seat k=some r) (hG:∀k,k<n->hd k=some r->k∈done/\seat k=some r):∃s,s<M/\fs s<=b c:=by
 apply Classical.byContradiction;intro no;have N:=W.hn c J hcf;have L:=W.lt c J;have E:=W.full c J N;have all:∀s,s<M->∃k,k∈done/\seat k=some s/\b c<e k:=λs Z=>by
  have hn:¬fs s<=b c:=λz=>no ⟨s,Z,z⟩
  rcases I.bk s Z with z|⟨k,hk,h2,R⟩
  .lia
  .exact⟨k,hk,h2,by lia⟩
 have sub:∀l:List Nat,(∀k∈l,k∈done/\b k<=b c/\b c<e k)->l.Nodup->l.length+1<=cnt n b e (b c):=λl hl nd=>by
  have T:=cI.mpr ⟨λz=>hc (hl c z).1,nd⟩;have:=dP (l₂:=(aC n).filter (holds b e (b c))) T λk hk=>by
   rcases aK.mp hk with rfl|z
   .exact Kl.mpr ⟨J,fL _,L⟩
   .obtain⟨h1,h2,R⟩:=hl k z;exact Kl.mpr ⟨hdn k h1,h2,R⟩
  rwa[bI]at this
 have X:∀s,s<M->s≠r->∃k,k∈done/\seat k=some s/\b k<=b c/\b c<e k:=λs Z P=>by
  obtain⟨k,k1,k2,k3⟩:=all s Z;refine⟨k,k1,k2,?_,k3⟩;rcases hA k k1 with z|z
  .rw[(O k z).2]at k2;injection k2 with k2
   exact absurd k2.symm P
  .exact z
 have Y:∀s s' k,(k∈done/\seat k=some s/\b k<=b c/\b c<e k)->(k∈done/\seat k=some s'/\b k<=b c/\b c<e k)->s=s':=λs s' k z Q=>by
  have:=z.2.1.symm.trans Q.2.1;injection this
 by_cases own:∃k,k∈done/\seat k=some r/\b k<=b c/\b c<e k
 .obtain⟨l,l1,l2,V⟩:=QG (λs k=>k∈done/\seat k=some s/\b k<=b c/\b c<e k) (aC M) mX (λs Z=>by
   by_cases z:s=r
   .rwa[z]
   .exact X s (bR.mp Z) z) Y
  have:=sub l (λk hk=>let⟨_,_,q⟩:=V k hk;⟨q.1,q.2.2⟩) l2;rw[l1,bQ]at this;lia
 .obtain⟨l,l1,l2,V⟩:=QG (λs k=>k∈done/\seat k=some s/\b k<=b c/\b c<e k) ((aC M).erase r) (List.Nodup.erase r mX) (λs Z=>by
   obtain⟨h1,h2⟩:=(List.Nodup.mem_erase_iff mX).mp Z;exact X s (bR.mp h2) h1) Y
  have q:=sub l (λk hk=>let⟨_,_,q⟩:=V k hk;⟨q.1,q.2.2⟩) l2;rw[l1,List.length_erase_of_mem (bR.mpr W.rM),bQ]at q;have rM:=W.rM;have H:cnt n b e (b c)=M:=by lia
  obtain⟨k,k1,k2,k3⟩:=all r rM;have K:k∈cs++[w]:=by
   rcases hA k k1 with z|z
   .exact z
   .exact absurd ⟨k,k1,k2,z,k3⟩ own
  have G:b c<b w:=by
   rcases Int.lt_or_le (b c) (b w)with z|z
   .exact z
   .have:b c<e w:=by
     rcases aR.mp K with y|y
     .have:=(p.mem W k y).2.2;have:=W.lt w W.wn;lia
     .rwa[aB.mp y]at k3
    have m:w∈cs++[w]:=aL _ (aB.mpr rfl);exact absurd ⟨w,(O w m).1,(O w m).2,z,this⟩ own
  have F:B<=b c:=by
   rcases W.beg with⟨l,l1,l2,V⟩|⟨_,V⟩
   .rcases Int.lt_or_le (b c) B with z|z
    .obtain⟨q1,q2⟩:=hG l l1 l2;have q3:=(W.hh l r l1 l2).2.1;exact absurd ⟨l,q1,q2,by lia,by lia⟩ own
    .exact z
   .lia
  rcases p.cov W (b c) F G with⟨U,m,q1,q2⟩|q1
  .have S:U∈cs++[w]:=aU _ m;exact absurd ⟨U,(O U S).1,(O U S).2,q1,q2⟩ own
  .exact q1 H
end
end Rch
namespace K48
open D3
abbrev fH:List D->Option D:=Com.fH
def gO:List D->Option D:=fnD 1 0 (b_ (dCall Fj (aj (jP (Xd (ak 0)) (gNl 0) (jV) (dCall fH (aj (ak 0) (aJ))) 1 []) (aJ))))
def lH:List D->Option D:=fnD 2 0 (b_ (ud (dUn (gIs "tuple") (ak 0)) (ud (dOp gEq (dCall jk (aj (ak 0) (aJ))) (ak 1)) (dCall gO (aj (ak 0) (aJ))))))
def mC:List D->Option D:=fnD 1 0 (b_ (dCall lH (aj (ak 0) (aj (dC (.int 2)) (aJ)))))
def iR:List D->Option D:=fnD 1 0 (b_ (ud (dUn (gIs "list") (ak 0)) (dCall gO (aj (ak 0) (aJ)))))
abbrev jd:List D->Option D:=Com.jd
def iz:List D->Option D:=fnD 1 0 (b_ (ud (dCall mC (aj (ak 0) (aJ))) (xQ gLe gLt gLe (dC (.int 0)) (dOp gIx (ak 0) (dC (.int 0))) (dOp gIx (ak 0) (dC (.int 1))) (dC (.int 400)))))
abbrev cH:List D->Option D:=Com.cH
abbrev kY:List D->Option D:=Com.kY
abbrev jh:List D->Option D:=Com.jh
abbrev pq:List D->Option D:=Com.pq
abbrev jH:List D->Option D:=Com.jH
def dI:List D->Option D:=fnD 3 1 (bD (sIf (D3.tOr (D3.ig (aQ (dUn (gIs "tuple") (ak 0)))) (D3.tOr (aQ (dOp gNe (dCall jk (aj (ak 0) (aJ))) (dC (.int 3)))) (D3.ig (aQ (dCall iz (aj (dCall cH (aj (ak 0) (aJ))) (aJ))))))) (b_ (dC (.bool false))) (bV))
    (bD (bL 3 (dOp gIx (ak 0) (dC (.int 2))))
    (bD (sIf (aQ (dUn v8 (ak 3))) (b_ (dOp gGe (dOp gIx (ak 0) (dC (.int 0))) (ak 2))) (bV))
    (b_ (ud (dCall fH (aj (ak 3) (aJ))) (ud (o7 gLe gLt (dC (.int 0)) (ak 3) (ak 1)) (dCall kY (aj (dCall cH (aj (ak 0) (aJ))) (aj (ak 2) (aJ))))))))))
def lJ:List D->Option D:=fnD 3 3 (bD (bL 3 (dC (.dict [])))
    (pC (vf (ak 0)) (gTn 2 (fQ (gNl 4) (fQ (gNl 5) (n8)))) (bD (sIf (D3.ig (aQ (dCall dI (aj (ak 5) (aj (ak 1) (aj (ak 2) (aJ))))))) ((λ_=>none)) (bV))
    (bD (sIf (aQ (dOp xq (dOp gIx (ak 5) (dC (.int 2))) (ak 3))) ((λ_=>none)) (bV))
    (sIf (aQ (dUn lD (dOp gIx (ak 5) (dC (.int 2))))) (zm 3 (dOp gIx (ak 5) (dC (.int 2)))) (bV))))))
def jN:List D->Option Or:=fnX 3 3 (lF (xOf (bL 3 (dC (.dict []))))
    (S7 (vf (ak 0)) (gTn 2 (fQ (gNl 4) (fQ (gNl 5) (n8)))) (lF (xIf (D3.ig (aQ (dCall dI (aj (ak 5) (aj (ak 1) (aj (ak 2) (aJ))))))) (o9 "NoStay" (ak 4)) (xOf (bV)))
    (lF (xIf (aQ (dOp xq (dOp gIx (ak 5) (dC (.int 2))) (ak 3))) (o9 "Taken" (dOp gIx (ak 5) (dC (.int 2)))) (xOf (bV)))
    (xOf (sIf (aQ (dUn lD (dOp gIx (ak 5) (dC (.int 2))))) (zm 3 (dOp gIx (ak 5) (dC (.int 2)))) (bV)))))))
abbrev iZ:List D->Option D:=Com.iZ
def oM:List D->Option Or:=fnX 3 1 (lF (xOf (bL 3 (dCall jH (aj (jP (nU (ak 0)) (gNl 0) (jV) (dCall cH (aj (ak 0) (aJ))) 1 []) (aj (ak 1) (aj (ak 2) (aJ)))))))
    (xIf (aQ (dUn lD (ak 3))) (o9 "TooFull" (ak 3)) (xOf (bV))))
def jK:List D->Option D:=fnD 1 1 (bD (bL 1 (jP (vf (ak 0)) (gTn 2 (fQ (gNl 0) (fQ (gNl 1) (n8)))) (aQ (dUn v8 (dOp gIx (ak 1) (dC (.int 2))))) (dW (ak 0)) 2 []))
    (b_ (XS.Du (ak 1) XS.dK0 [0])))
abbrev cQ:List D->Option D:=Com.cQ
abbrev iw:List D->Option D:=Com.iw
def tH:List D->Option D:=fnD 3 4 (bD (bL 3 (dUn uq (ak 1)))
    (bD (bL 4 (dUn uq (ak 2)))
    (bD (pC (nU (dCall jK (aj (ak 0) (aJ)))) (gNl 5) (sIf (aQ (dUn v8 (dOp gIx (ak 3) (ak 5)))) (bD (bL 6 (dCall iw (aj (ak 4) (aj (dOp gIx (dOp gIx (ak 0) (ak 5)) (dC (.int 0))) (aJ)))))
    (bD (yI 3 (ak 5) (ak 6))
    (yI 4 (ak 6) (dOp gIx (dOp gIx (ak 0) (ak 5)) (dC (.int 1)))))) (bV)))
    (b_ (vd (ak 3))))))
def nM:List D->Option D:=fnD 4 0 (bD (su (dCall lJ (aj (ak 0) (aj (ak 1) (aj (ak 2) (aJ))))))
    (bD (su (dCall iZ (aj (ak 0) (aj (ak 1) (aj (ak 2) (aJ))))))
    (sIf (D3.tOr (D3.ig (aQ (o7 gLe gLt (dC (.int 0)) (ak 3) (dCall jk (aj (ak 0) (aJ)))))) (aQ (dUn lD (dOp gIx (dOp gIx (ak 0) (ak 3)) (dC (.int 2)))))) ((λ_=>none)) (bV))))
def dJ:List D->Option Or:=fnX 4 0 (lF (mQ jN [] (aj (ak 0) (aj (ak 1) (aj (ak 2) (aJ)))))
    (lF (mQ oM [] (aj (ak 0) (aj (ak 1) (aj (ak 2) (aJ)))))
    (xIf (D3.tOr (D3.ig (aQ (o7 gLe gLt (dC (.int 0)) (ak 3) (dCall jk (aj (ak 0) (aJ)))))) (aQ (dUn lD (dOp gIx (dOp gIx (ak 0) (ak 3)) (dC (.int 2)))))) (o9 "NoStay" (ak 3)) (xOf (bV)))))
abbrev jc:List D->Option D:=Com.jc
def kZ:List D->Option Or:=fnX 2 0 (xIf (D3.ig (aQ (o7 gLe gLt (dC (.int 0)) (ak 1) (ak 0)))) (o9 "NoRoom" (ak 1)) (xOf (bV)))
abbrev jY:List D->Option D:=Com.jY
abbrev gD:List D->Option D:=Com.gD
abbrev fj:List D->Option D:=Com.fj
def eG:List D->Option D:=fnD 4 3 (bD (bL 4 (zp (ak 3)))
    (bD (pC (NZ (aj (ak 3) (aj (dOp gIx (dOp gIx (ak 0) (ak 2)) (dC (.int 0))) (aJ)))) (gNl 5) (sIf (aQ (dOp Gw (ak 5) (ak 4))) (pC (nU (dCall fj (aj (ak 0) (aj (ak 1) (aj (ak 2) (aj (ak 5) (aJ))))))) (gNl 6) (zq 4 (dOp gIx (ak 6) (dC (.int 0))) (dTup (aj (ak 5) (aj (dOp gIx (ak 6) (dC (.int 1))) (aJ)))))) (bV)))
    (b_ (ak 4))))
def lX:List D->Option D:=fnD 2 3 (bD (bL 2 (fY (aJ)))
    (bD (bL 3 (ak 1))
    (bD (v5 (aQ (dUn lD (dOp rD (ak 0) (ak 3)))) (bD (bL 4 (dOp gIx (dOp rD (ak 0) (ak 3)) (dC (.int 1))))
    (bD (sIf (aQ (dUn lD (ak 4))) (Ab 2 (dC (.int 0)) (ak 4)) (bV))
    (bL 3 (dOp gIx (dOp rD (ak 0) (ak 3)) (dC (.int 0)))))))
    (b_ (vd (ak 2))))))
def jZ:List D->Option D:=fnD 6 3 (bD (bL 6 (jP (nU (ak 0)) (gNl 0) (jV) (dW (dOp gIx (ak 0) (dC (.int 2)))) 1 []))
    (bD (pC (nU (dOp mF (ak 5) (fY (aj (ak 3) (aJ))))) (gNl 7) (yI 6 (ak 7) (ak 4)))
    (bD (bL 8 (vd (dCall cQ (aj (ak 0) (aj (ak 1) (aj (ak 2) (aJ)))))))
    (bD (yI 8 (ak 4) (dOp gIx (dOp gIx (ak 0) (ak 3)) (dC (.int 1))))
    (b_ (dCall tH (aj (ak 0) (aj (ak 6) (aj (ak 8) (aJ))))))))))
def iD:List D->Option D:=fnD 5 4 (bD (su (dCall nM (aj (ak 0) (aj (ak 1) (aj (ak 2) (aj (ak 3) (aJ)))))))
    (bD (su (dCall jc (aj (ak 1) (aj (ak 4) (aJ)))))
    (bD (bL 5 (dOp gIx (dCall cQ (aj (ak 0) (aj (ak 1) (aj (ak 2) (aJ))))) (ak 4)))
    (bD (bL 6 (dOp gIx (dOp gIx (ak 0) (ak 3)) (dC (.int 0))))
    (bD (sIf (aQ (dOp gGt (ak 5) (ak 6))) (b_ (dTup (aj (dC (.str "no")) (aj (fY (aJ)) (aJ))))) (bV))
    (bD (bL 7 (dCall eG (aj (ak 0) (aj (ak 1) (aj (ak 3) (aj (ak 5) (aJ)))))))
    (bD (sIf (aQ (dOp sW (ak 6) (ak 7))) (b_ (dTup (aj (dC (.str "no")) (aj (dCall tZ (aj (ak 7) (aJ))) (aJ))))) (bV))
    (bD (bL 8 (vd (dCall lX (aj (ak 7) (aj (ak 6) (aJ))))))
    (b_ (dTup (aj (dC (.str "yes")) (aj (vd (ak 8)) (aj (dCall jZ (aj (ak 0) (aj (ak 1) (aj (ak 2) (aj (ak 3) (aj (ak 4) (aj (ak 8) (aJ)))))))) (aJ))))))))))))))
def lY:List D->Option Or:=fnX 5 4 (lF (mQ dJ [] (aj (ak 0) (aj (ak 1) (aj (ak 2) (aj (ak 3) (aJ))))))
    (lF (mQ kZ [] (aj (ak 1) (aj (ak 4) (aJ))))
    (lF (xOf (bL 5 (dOp gIx (dCall cQ (aj (ak 0) (aj (ak 1) (aj (ak 2) (aJ))))) (ak 4))))
    (lF (xOf (bL 6 (dOp gIx (dOp gIx (ak 0) (ak 3)) (dC (.int 0)))))
    (lF (xOf (sIf (aQ (dOp gGt (ak 5) (ak 6))) (b_ (dTup (aj (dC (.str "no")) (aj (fY (aJ)) (aJ))))) (bV)))
    (lF (xOf (bL 7 (dCall eG (aj (ak 0) (aj (ak 1) (aj (ak 3) (aj (ak 5) (aJ))))))))
    (lF (xOf (sIf (aQ (dOp sW (ak 6) (ak 7))) (b_ (dTup (aj (dC (.str "no")) (aj (dCall tZ (aj (ak 7) (aJ))) (aJ))))) (bV)))
    (lF (xOf (bL 8 (vd (dCall lX (aj (ak 7) (aj (ak 6) (aJ)))))))
    (xOf (b_ (dTup (aj (dC (.str "yes")) (aj (vd (ak 8)) (aj (dCall jZ (aj (ak 0) (aj (ak 1) (aj (ak 2) (aj (ak 3) (aj (ak 4) (aj (ak 8) (aJ)))))))) (aJ)))))))))))))))
abbrev gM:List D->Option D:=Com.gM
def m8:List D->Option Or:=fnX 6 2 (lF (mQ dJ [] (aj (ak 0) (aj (ak 1) (aj (ak 2) (aj (ak 3) (aJ))))))
    (lF (mQ kZ [] (aj (ak 1) (aj (ak 4) (aJ))))
    (lF (xOf (sIf (D3.tOr (D3.ig (aQ (dCall iR (aj (ak 5) (aJ))))) (D3.ig (aQ (dCall jd (aj (ak 5) (aJ)))))) (b_ (dC (.bool false))) (bV)))
    (lF (xOf (bL 6 (dOp gIx (dCall cQ (aj (ak 0) (aj (ak 1) (aj (ak 2) (aJ))))) (ak 4))))
    (lF (xOf (bL 7 (dOp gIx (dOp gIx (ak 0) (ak 3)) (dC (.int 0)))))
    (lF (xOf (sIf (aQ (dOp gGt (ak 6) (ak 7))) (b_ (dOp gEq (ak 5) (fY (aJ)))) (bV)))
    (lF (xOf (sIf (D3.tOr (aQ (dOp sS (ak 6) (ak 5))) (D3.tOr (aQ (dOp gLt (dCall Fi (aj (ak 5) (aJ))) (ak 6))) (aQ (dOp gGe (dCall Fg (aj (ak 5) (aJ))) (ak 7))))) (b_ (dC (.bool false))) (bV)))
    (xOf (b_ (dCall gM (aj (ak 0) (aj (ak 1) (aj (ak 3) (aj (ak 5) (aJ)))))))))))))))
def j8:List D->Option Or:=fnX 4 0 (lF (mQ dJ [] (aj (ak 0) (aj (ak 1) (aj (ak 2) (aj (ak 3) (aJ))))))
    (xOf (b_ (jP (sy (aj (ak 1) (aJ))) (gNl 0) (aQ (dOp gEq (dOp gIx (dCall iD (aj (ak 1) (aj (ak 2) (aj (ak 3) (aj (ak 4) (aj (ak 0) (aJ))))))) (dC (.int 0))) (dC (.str "yes")))) (dW (ak 0)) 1 [0,1,2,3]))))
abbrev jy:List D->Option D:=Com.jy
abbrev bH:List D->Option D:=Com.bH
abbrev jX:List D->Option D:=Com.jX
abbrev dF:List D->Option D:=Com.dF
abbrev gJ:List D->Option D:=Com.gJ
abbrev iy:List D->Option D:=Com.iy
abbrev cT:List D->Option D:=Com.cT
abbrev lW:List D->Option D:=Com.lW
abbrev i_:List D->Option D:=Com.i_
def pA:List D->Option D:=fnL 4 4 (bD (bL 4 (dCall uo (aj (dC (.int 399)) (aj (dOp jg (ak 3) (dCall bH (aj (ak 0) (aj (ak 1) (aj (dC (.int 1)) (aj (dC (.int 5)) (aJ))))))) (aJ)))))
    (bD (bL 5 (dCall uo (aj (dC (.int 400)) (aj (dOp jg (dOp jg (ak 4) (dC (.int 1))) (dCall bH (aj (ak 0) (aj (ak 1) (aj (dC (.int 2)) (aj (dC (.int 5)) (aJ))))))) (aJ)))))
    (bD (bL 6 (dCall bH (aj (ak 0) (aj (ak 1) (aj (dC (.int 3)) (aj (dOp jg (ak 2) (dC (.int 1))) (aJ)))))))
    (bD (bL 7 (fY (aj (dC (.none)) (aj (dTup (aj (ak 4) (aj (ak 5) (aJ)))) (aj (fY (aj (ak 4) (aj (ak 5) (aj (dC (.none)) (aJ))))) (aj (dTup (aj (ak 5) (aj (ak 4) (aj (dC (.none)) (aJ))))) (aj (dTup (aj (ak 4) (aj (ak 4) (aj (dC (.none)) (aJ))))) (aJ))))))))
    (bD (bL 7 (dOp mF (ak 7) (fY (aj (dTup (aj (dUn Cu (dC (.int 1))) (aj (ak 5) (aj (dC (.none)) (aJ))))) (aj (dTup (aj (ak 4) (aj (dC (.int 401)) (aj (dC (.none)) (aJ))))) (aj (dTup (aj (dC (.bool true)) (aj (ak 5) (aj (dC (.none)) (aJ))))) (aj (dTup (aj (ak 4) (aj (dCall TY (aj (ak 5) (aJ))) (aj (dC (.none)) (aJ))))) (aj (dC (.int 3)) (aJ)))))))))
    (bD (bL 7 (dOp mF (ak 7) (fY (aj (dTup (aj (ak 4) (aj (ak 5) (aj (dC (.bool true)) (aJ))))) (aj (dTup (aj (ak 4) (aj (ak 5) (aj (dC (.bool false)) (aJ))))) (aJ))))))
    (bD (bL 7 (dOp mF (ak 7) (fY (aj (dTup (aj (ak 4) (aj (ak 5) (aj (ak 2) (aJ))))) (aj (dTup (aj (ak 4) (aj (ak 5) (aj (dUn Cu (dC (.int 1))) (aJ))))) (aj (dTup (aj (ak 4) (aj (ak 5) (aj (dC (.str "0")) (aJ))))) (aj (dTup (aj (ak 4) (aj (ak 5) (aj (fY (aj (dC (.int 0)) (aJ))) (aJ))))) (aj (dC (.str "")) (aj (dC (.dict [])) (aJ))))))))))
    (bD (bL 7 (dOp mF (ak 7) (fY (aj (dTup (aj (dCall uo (aj (dC (.int 399)) (aj (dOp jg (ak 3) (dC (.int 1))) (aJ)))) (aj (dC (.int 400)) (aj (ak 6) (aJ))))) (aj (dTup (aj (dCall sE (aj (dC (.int 0)) (aj (dOp z8 (ak 3) (dC (.int 3))) (aJ)))) (aj (dCall sE (aj (dC (.int 1)) (aj (ak 3) (aJ)))) (aj (ak 6) (aJ))))) (aj (dTup (aj (dCall sE (aj (dC (.int 0)) (aj (dOp z8 (ak 3) (dC (.int 1))) (aJ)))) (aj (dC (.int 400)) (aj (dC (.none)) (aJ))))) (aJ)))))))
    (bD (bL 7 (dOp mF (ak 7) (fY (aj (dTup (aj (dCall sE (aj (dC (.int 0)) (aj (dOp z8 (ak 3) (dC (.int 2))) (aJ)))) (aj (dC (.int 400)) (aj (ak 6) (aJ))))) (aj (dTup (aj (ak 3) (aj (dC (.int 400)) (aj (ak 6) (aJ))))) (aj (dTup (aj (ak 3) (aj (dC (.int 400)) (aj (ak 6) (aJ))))) (aj (dTup (aj (ak 4) (aj (ak 5) (aj (dC (.none)) (aj (dC (.none)) (aJ)))))) (aJ))))))))
    (Bo (dOp gIx (ak 7) (dCall bH (aj (ak 0) (aj (ak 1) (aj (dC (.int 0)) (aj (dCall jk (aj (ak 7) (aJ))) (aJ)))))))))))))))))
def j9:List D->Option D:=fnL 4 3 (bD (bL 4 (dCall bH (aj (ak 0) (aj (dC (.int 44)) (aj (dC (.int 0)) (aj (dC (.int 8)) (aJ)))))))
    (bD (bL 5 (dCall bH (aj (ak 0) (aj (dC (.int 44)) (aj (dC (.int 1)) (aj (dOp jg (dCall jk (aj (ak 1) (aJ))) (dC (.int 1))) (aJ)))))))
    (bD (sIf (D3.tOr (aQ (dOp gGt (dCall jk (aj (ak 1) (aJ))) (dC (.int 22)))) (aQ (dOp gLt (ak 4) (dC (.int 3))))) (Bo (dUn uq (ak 1))) (bV))
    (bD (bL 6 (dOp mF (dOp mF (dSl (ak 1) yJ (yK (ak 5))) (fY (aj (dCall pA (aj (ak 0) (aj (dC (.int 43)) (aj (ak 2) (aj (ak 3) (aJ)))))) (aJ)))) (dSl (ak 1) (yK (ak 5)) yJ)))
    (bD (sIf (aQ (dOp gLt (ak 4) (dC (.int 5)))) (bL 6 (dOp mF (dOp mF (dSl (ak 1) yJ (yK (ak 5))) (jP (sy (aj (dCall uo (aj (dC (.int 2)) (aj (ak 2) (aJ)))) (aJ))) (gNl 0) (jV) (dW (dTup (aj (ak 1) (aj (dOp jg (ak 1) (dC (.int 1))) (aj (dC (.none)) (aJ)))))) 1 [3])) (dSl (ak 1) (yK (ak 5)) yJ))) (bV))
    (Bo (ak 6)))))))
def d9:List D->Option D:=fnD 1 0 (bD (sIf (D3.tOr (D3.ig (aQ (dUn (gIs "tuple") (ak 0)))) (D3.tOr (aQ (dOp gNe (dCall jk (aj (ak 0) (aJ))) (dC (.int 3)))) (D3.tOr (D3.ig (aQ (dCall dF (aj (dOp gIx (ak 0) (dC (.int 0))) (aJ))))) (D3.ig (aQ (dCall dF (aj (dOp gIx (ak 0) (dC (.int 1))) (aJ)))))))) (b_ (dC (.bool false))) (bV))
    (b_ (ud (dOp gGe (dOp gIx (ak 0) (dC (.int 0))) (dC (.int 0))) (ud (dOp gLt (dOp gIx (ak 0) (dC (.int 0))) (dOp gIx (ak 0) (dC (.int 1)))) (dOp gLe (dOp gIx (ak 0) (dC (.int 1))) (dC (.int 400)))))))
def dU:List D->Option D:=fnD 3 0 (bD (sIf (D3.ig (aQ (dCall d9 (aj (ak 0) (aJ))))) (b_ (dC (.bool false))) (bV))
    (bD (sIf (aQ (dUn v8 (dOp gIx (ak 0) (dC (.int 2))))) (b_ (dOp gGe (dOp gIx (ak 0) (dC (.int 0))) (ak 2))) (bV))
    (bD (sIf (D3.tOr (D3.ig (aQ (dCall dF (aj (dOp gIx (ak 0) (dC (.int 2))) (aJ))))) (D3.tOr (aQ (dOp gLt (dOp gIx (ak 0) (dC (.int 2))) (dC (.int 0)))) (aQ (dOp gGe (dOp gIx (ak 0) (dC (.int 2))) (ak 1))))) (b_ (dC (.bool false))) (bV))
    (b_ (ud (dOp gLe (dOp gIx (ak 0) (dC (.int 0))) (ak 2)) (dOp gLt (ak 2) (dOp gIx (ak 0) (dC (.int 1)))))))))
def ji:List D->Option D:=fnD 5 3 (bD (bL 5 (fY (aJ)))
    (bD (pC (sy (aj (dCall jk (aj (ak 0) (aJ))) (aJ))) (gNl 6) (bD (sIf (D3.ig (aQ (dCall dU (aj (dOp gIx (ak 0) (ak 6)) (aj (ak 1) (aj (ak 2) (aJ))))))) (b_ (dTup (aj (dC (.str "stay")) (aj (dW (ak 6)) (aJ))))) (bV))
    (bD (sIf (D3.rW (aQ (dUn lD (dOp gIx (dOp gIx (ak 0) (ak 6)) (dC (.int 2))))) (aQ (dOp gIn (dOp gIx (dOp gIx (ak 0) (ak 6)) (dC (.int 2))) (ak 5)))) (b_ (dTup (aj (dC (.str "taken")) (aj (dW (dOp gIx (dOp gIx (ak 0) (ak 6)) (dC (.int 2)))) (aJ))))) (bV))
    (NT 5 (dOp gIx (dOp gIx (ak 0) (ak 6)) (dC (.int 2)))))))
    (bD (bL 7 (dCall cT (aj (ak 0) (aj (ak 1) (aj (ak 2) (aJ))))))
    (bD (sIf (aQ (dUn lD (ak 7))) (b_ (dTup (aj (dC (.str "full")) (aj (dW (ak 7)) (aJ))))) (bV))
    (bD (sIf (D3.tOr (aQ (dOp gLt (ak 3) (dC (.int 0)))) (D3.tOr (aQ (dOp gGe (ak 3) (dCall jk (aj (ak 0) (aJ))))) (aQ (dUn lD (dOp gIx (dOp gIx (ak 0) (ak 3)) (dC (.int 2))))))) (b_ (dTup (aj (dC (.str "stay")) (aj (dW (ak 3)) (aJ))))) (bV))
    (bD (sIf (D3.tOr (aQ (dOp gLt (ak 4) (dC (.int 0)))) (aQ (dOp gGe (ak 4) (ak 1)))) (b_ (dTup (aj (dC (.str "room")) (aj (dW (ak 4)) (aJ))))) (bV))
    (b_ (dTup (aj (dC (.str "told")) (aj (dC (.int 0)) (aJ)))))))))))
def gF:List D->Option D:=fnD 6 2 (bD (Bv 6 (xIf (aQ (dOp gEq (ak 0) (dC (.int 0)))) (mQ lY [] (aj (ak 1) (aj (ak 2) (aj (ak 3) (aj (ak 4) (aj (ak 5) (aJ))))))) (xIf (aQ (dOp gEq (ak 0) (dC (.int 1)))) (mQ m8 [] (aj (ak 1) (aj (ak 2) (aj (ak 3) (aj (ak 4) (aj (ak 5) (aj (fY (aj (ak 3) (aJ))) (aJ)))))))) (mQ j8 [] (aj (ak 1) (aj (ak 2) (aj (ak 3) (aj (ak 4) (aJ)))))))) ["NoRoom", "NoStay", "Taken", "TooFull"] (λc d=>if c="NoRoom"then bD (bL 7 (fY (aj (dC (.bool false)) (aj (dC (.bool false)) (aj (dC (.bool false)) (aj (dC (.bool true)) (aJ))))))) (bD (sIf (D3.tOr (D3.ig (λ_=>some true)) (aQ (dOp gNe (dOp pF (ak 7) (dC (.bool true))) (dC (.int 1))))) (b_ (dTup (aj (dC (.str "odd")) (aj (dC (.int 0)) (aJ))))) (bV)) (bD (sIf (aQ (dOp gIx (ak 7) (dC (.int 0)))) ((λ_=>none)) (bV)) (bD (sIf (aQ (dOp gIx (ak 7) (dC (.int 1)))) (b_ (dTup (aj (dC (.str "taken")) (aj (dC d) (aJ))))) (bV)) (bD (sIf (aQ (dOp gIx (ak 7) (dC (.int 2)))) ((λ_=>none)) (bV)) (b_ (dTup (aj (dC (.str "room")) (aj (dC d) (aJ)))))))))else if c="NoStay"then bD (bL 7 (fY (aj (dC (.bool true)) (aj (dC (.bool false)) (aj (dC (.bool false)) (aj (dC (.bool false)) (aJ))))))) (bD (sIf (D3.tOr (D3.ig (λ_=>some true)) (aQ (dOp gNe (dOp pF (ak 7) (dC (.bool true))) (dC (.int 1))))) (b_ (dTup (aj (dC (.str "odd")) (aj (dC (.int 0)) (aJ))))) (bV)) (bD (sIf (aQ (dOp gIx (ak 7) (dC (.int 0)))) (b_ (dTup (aj (dC (.str "stay")) (aj (dC d) (aJ))))) (bV)) (bD (sIf (aQ (dOp gIx (ak 7) (dC (.int 1)))) ((λ_=>none)) (bV)) (bD (sIf (aQ (dOp gIx (ak 7) (dC (.int 2)))) ((λ_=>none)) (bV)) ((λ_=>none))))))else if c="Taken"then bD (bL 7 (fY (aj (dC (.bool false)) (aj (dC (.bool true)) (aj (dC (.bool false)) (aj (dC (.bool false)) (aJ))))))) (bD (sIf (D3.tOr (D3.ig (λ_=>some true)) (aQ (dOp gNe (dOp pF (ak 7) (dC (.bool true))) (dC (.int 1))))) (b_ (dTup (aj (dC (.str "odd")) (aj (dC (.int 0)) (aJ))))) (bV)) (bD (sIf (aQ (dOp gIx (ak 7) (dC (.int 0)))) ((λ_=>none)) (bV)) (bD (sIf (aQ (dOp gIx (ak 7) (dC (.int 1)))) (b_ (dTup (aj (dC (.str "taken")) (aj (dC d) (aJ))))) (bV)) (bD (sIf (aQ (dOp gIx (ak 7) (dC (.int 2)))) ((λ_=>none)) (bV)) (b_ (dTup (aj (dC (.str "room")) (aj (dC d) (aJ)))))))))else if c="TooFull"then bD (bL 7 (fY (aj (dC (.bool false)) (aj (dC (.bool false)) (aj (dC (.bool true)) (aj (dC (.bool false)) (aJ))))))) (bD (sIf (D3.tOr (D3.ig (λ_=>some true)) (aQ (dOp gNe (dOp pF (ak 7) (dC (.bool true))) (dC (.int 1))))) (b_ (dTup (aj (dC (.str "odd")) (aj (dC (.int 0)) (aJ))))) (bV)) (bD (sIf (aQ (dOp gIx (ak 7) (dC (.int 0)))) ((λ_=>none)) (bV)) (bD (sIf (aQ (dOp gIx (ak 7) (dC (.int 1)))) ((λ_=>none)) (bV)) (bD (sIf (aQ (dOp gIx (ak 7) (dC (.int 2)))) (b_ (dTup (aj (dC (.str "full")) (aj (dC d) (aJ))))) (bV)) ((λ_=>none))))))else(λ_=>none)))
    (b_ (dTup (aj (dC (.str "told")) (aj (dC (.int 0)) (aJ))))))
def j_:List D->Option D:=fnD 5 4 (bD (bL 5 (dUn uq (ak 0)))
    (bD (pC (sy (aj (dC (.int 3)) (aJ))) (gNl 6) (bD (bL 7 (dCall ji (aj (ak 0) (aj (ak 1) (aj (ak 2) (aj (ak 3) (aj (dOp gIx (fY (aj (ak 4) (aj (ak 4) (aj (dC (.int 0)) (aJ))))) (ak 6)) (aJ))))))))
    (bD (bL 8 (dCall gF (aj (ak 6) (aj (ak 5) (aj (ak 1) (aj (ak 2) (aj (ak 3) (aj (ak 4) (aJ)))))))))
    (sIf (D3.tOr (aQ (dOp xg (ak 8) (ak 7))) (D3.tOr (D3.ig (aQ (dCall dF (aj (dOp gIx (ak 8) (dC (.int 1))) (aJ))))) (aQ (dOp xg (ak 5) (ak 0))))) (b_ (dC (.bool false))) (bV)))))
    (b_ (dC (.bool true)))))
def QH:List D->Option D:=fnD 1 11 (bD (bL 1 (dCall bH (aj (ak 0) (aj (dC (.int 0)) (aj (dC (.int 3)) (aj (dOp gIx (fY (aj (dC (.int 4)) (aj (dC (.int 7)) (aJ)))) (dCall HY (aj (dOp gEq (dCall bH (aj (ak 0) (aj (dC (.int 0)) (aj (dC (.int 4)) (aj (dC (.int 4)) (aJ)))))) (dC (.int 1))) (aJ)))) (aJ)))))))
    (bD (bL 2 (dCall lW (aj (ak 0) (aJ))))
    (bD (bL 3 (dCall i_ (aj (ak 0) (aj (ak 1) (aj (ak 2) (aj (dC (.int 24)) (aJ)))))))
    (bD (bL 4 (dCall jX (aj (ak 0) (aj (dC (.int 40)) (aJ)))))
    (bD (bL 5 (dOp mF (fY (aj (dUn Cu (dC (.int 1))) (aj (dOp z8 (dUn Cu (dC (.int 1))) (ak 4)) (aj (dCall jk (aj (ak 3) (aJ))) (aj (dOp jg (dCall jk (aj (ak 3) (aJ))) (ak 4)) (aJ)))))) (dCall uL (aj (dCall jk (aj (ak 3) (aJ))) (aJ)))))
    (bD (bL 6 (dOp mF (fY (aj (dUn Cu (dC (.int 1))) (aj (dOp z8 (dUn Cu (dC (.int 1))) (ak 4)) (aj (ak 1) (aj (dOp jg (ak 1) (ak 4)) (aJ)))))) (dCall uL (aj (ak 1) (aJ)))))
    (bD (bL 7 (dCall j9 (aj (ak 0) (aj (ak 3) (aj (ak 1) (aj (ak 2) (aJ)))))))
    (bD (pC (nU (fY (aj (ak 3) (aj (ak 7) (aj (ak 3) (aJ)))))) (gNl 8) (pC (sy (aj (dC (.int 3)) (aJ))) (gNl 9) (bD (bL 10 (dOp gIx (ak 5) (dCall bH (aj (ak 0) (aj (dC (.int 41)) (aj (ak 9) (aj (dCall jk (aj (ak 5) (aJ))) (aJ))))))))
    (bD (bL 11 (dOp gIx (ak 6) (dCall bH (aj (ak 0) (aj (dC (.int 42)) (aj (ak 9) (aj (dCall jk (aj (ak 6) (aJ))) (aJ))))))))
    (sIf (D3.ig (aQ (dCall j_ (aj (ak 8) (aj (ak 1) (aj (ak 2) (aj (ak 10) (aj (ak 11) (aJ))))))))) (b_ (dC (.bool false))) (bV))))))
    (b_ (dC (.bool true)))))))))))
end K48
variable{B:Int}
namespace K48
open D3 My Com XS
structure TO0(L:List Ty)(M:Nat)(now:Int):Prop where
 len:L.length<=24
 ok:∀s∈L,(s.1<s.2.1/\0<=s.1/\s.2.1<=400)/\(∀r,s.2.2=some r->r<M/\s.1<=now/\now<s.2.1)/\(s.2.2=none->now<=s.1)
 nd:(L.filterMap (·.2.2)).Nodup
def bk(L:List Ty)(k:Nat):Int:=(tAt L k).1
def ek(L:List Ty)(k:Nat):Int:=(tAt L k).2.1
def hk(L:List Ty)(k:Nat):Option Nat:=(tAt L k).2.2
def Km{v:D}(Inv:Nat->DS->Prop)(P:Nat->Prop)(l:List D)(δ:DS)(O:Inv 0 δ)(J:∀i d δ,l[i]? = some d->(∀j,j<i->P j)->Inv i δ->∃δ1,g d δ=some δ1/\((P i/\∃δ',b δ1=some (.nx δ')/\Inv (i+1) δ')\/(¬P i/\b δ1=some (.rt v)))):
 (∃δ',jj g b l δ=some (.nx δ')/\Inv l.length δ'/\∀j,j<l.length->P j)\/(jj g b l δ=some (.rt v)/\∃j,j<l.length/\¬P j):=by
 have X:∀(l:List D)(k:Nat)(δ:DS),Inv k δ->(∀j,j<k->P j)->(∀i d δ,l[i]? = some d->(∀j,j<k+i->P j)->Inv (k+i) δ->∃δ1,g d δ=some δ1/\((P (k+i)/\∃δ',b δ1=some (.nx δ')/\Inv (k+i+1) δ')\/(¬P (k+i)/\b δ1=some (.rt v)))) ->
  (∃δ',jj g b l δ=some (.nx δ')/\Inv (k+l.length) δ'/\∀j,j<k+l.length->P j)\/(jj g b l δ=some (.rt v)/\∃j,j<k+l.length/\¬P j):=by
  intro l
  induction l with
  |nil=>exact λk δ h Z _=>.inl ⟨δ,rfl,h,Z⟩
  |cons d r U=>
   intro k δ h Z J;obtain⟨δ1,e1,z⟩:=J 0 d δ rfl Z h;rcases z with⟨p,δ',e2,e3⟩|⟨p,e2⟩
   .have W:∀j,j<k+1->P j:=λj V=>by
     by_cases w:j<k
     .exact Z j w
     .have:j=k+0:=by lia
      rwa[this]
    have:=U (k+1) δ' e3 W λi T Y hd S hi=>by
     have:=J (i+1) T Y (by simpa using hd) (by rwa[show k+(i+1)=k+1+i by lia]) (by rwa[show k+(i+1)=k+1+i by lia]);rwa[show k+(i+1)=k+1+i by lia]at this
    rwa[bI,show k+(r.length+1)=k+1+r.length by lia,jj,e1,aG,e2]
   .refine .inr ⟨?_,k+0,by rw[bI];lia,p⟩;rw[jj,e1,aG,e2];rfl
 have:=X l 0 δ O (λj V=>absurd V (nQ _)) λi d δ hd Z hi=>by
  rw[jA]at Z hi ⊢;exact J i d δ hd Z hi
 rwa[jA]at this
def isI:D->Bool
 | .int _=>true
 |_=>false
def lwh(d:D):dF [d]=some (.bool (isI d)):=by
 cases d<;>rfl
def DN(h:isI d=true):∃v,d = .int v:=by
 cases d<;>first|exact⟨_,rfl⟩|cases h
def Pk(L:List Ty)(M:Nat)(ds:List D)(i:Nat):Prop:=∃v:Int,ds[i]? = some (.int v)/\0<=v/\v<(M:Int)/\(∀r,hk L i=some r->(r:Int)=v)/\∀k,k<i->¬(ds[k]? = ds[i]?/\bk L k<ek L i/\bk L i<ek L k)
def ay{k:Nat}(h:k<L.length):pAt (L.map yD) (k:Int)=some (.tuple [.int (bk L k),.int (ek L k),hD (hk L k)]):=by rw[rE,GR _ h];rfl
def isList:D3.isT "list" (tyD (.list ds))=true:=rfl
def Jj{α:Type}(l:List α)(f:α->D):((l.map f).length:Int)=(l.length:Int):=by rw[au]
def allB{α:Type}(f:α->Bool)(l:List α):Fj [.list (l.map λa=>di (f a))]=some (.bool (l.all f)):=by
 have:nY (l.map λa=>di (f a))=some (l.map f):=by
  induction l with
  |nil=>rfl
  |cons a r Z=>rw[bJ,nY,Z];rfl
 show(nY (l.map λa=>di (f a))).map _=_;rw[this,gW,List.all_map];rfl
def wh(d:D):fH [d]=some (.bool (isI d)):=by
 cases d<;>rfl
def U9(a b:Int):mC [.tuple [.int a,.int b]]=some (.bool true):=by
 have e:gO [.tuple [.int a,.int b]]=some (.bool true):=by
  have c:fM (gNl 0) (D3.jV) (dCall fH (aj (ak 0) (aJ))) (jR 1 [] [some (.d (.tuple [.int a,.int b]))]) [.int a,.int b]=some [.bool true,.bool true]:=
   xH (g:=(gNl 0)) (c:=(D3.jV)) (e:=(dCall fH (aj (ak 0) (aJ)))) (δ:=jR 1 [] [some (.d (.tuple [.int a,.int b]))]) (λi:Int=>cE i) (λ_=>di true) [a,b] λd _=>⟨[some (.d (.int d))],rfl,rfl,by
    have:=wh (.int d);simp![this];rfl⟩
  have Z:Fj [.list [.bool true,.bool true]]=some (.bool true):=rfl;have l2:(0+1+1:Nat)<=100000:=by decide
  unfold gO;simp![Xe,Oq,c,Z,l2]
 have it:D3.isT "tuple" (tyD (.tuple [.int a,.int b]))=true:=rfl;unfold mC lH;simp![it,e]
def qu(a b:Int)(d:D):cH [.tuple [.int a,.int b,d]]=some (.tuple [.int a,.int b]):=by
 unfold cH Com.cH;simp![at1,zl2]
def G3(a b x:Int):kY [.tuple [.int a,.int b],.int x]=some (.bool (decide (a<=x)&&decide (x<b))):=by
 unfold kY Com.kY;by_cases c:a<=x
 .simp![at1,dTr c];simp
 .simp![dFa c];simp
def Jk{a b:Int}(h:0<=a/\a<b/\b<=400):iz [.tuple [.int a,.int b]]=some (.bool true):=by
 unfold iz;simp![U9,at1,dTr h.1,dTr h.2.1,dTr h.2.2]
theorem U_(ok:TO0 L M now){k:Nat}(h:k<L.length):dI [.tuple [.int (bk L k),.int (ek L k),hD (hk L k)],.int (M:Int),.int now]=some (.bool true):=by
 obtain⟨⟨Y,U,V⟩,W,Z⟩:=ok.ok _ (jr h);have Y:=Y;have st:=Jk (a:=bk L k) (b:=ek L k) ⟨U,Y,V⟩;have it:∀l,D3.isT "tuple" (tyD (.tuple l))=true:=λ_=>rfl
 cases hh:hk L k with
 |none=>
  have Z:now<=bk L k:=Z hh;have X:isNone (hD none)=true:=rfl;unfold dI;simp![it,qu,st,at2,X,dTr Z]
 |some r=>
  obtain⟨q1,q2,q3⟩:=W r hh;have q2:bk L k<=now:=q2;have q3:now<ek L k:=q3;have X:isNone (hD (some r))=false:=rfl;have hw:fH [hD (some r)]=some (.bool true):=wh (.int (r:Int));have T:hD (some r) = .int (r:Int):=rfl;have r0:(0:Int)<=(r:Int):=by lia
  have r1:(r:Int)<(M:Int):=by lia
  unfold dI;simp![it,qu,st,at2,X,hw];rw[T];simp![dTr r0,dTr r1,qu,G3,dTr q2,dTr q3]
def qBP(i:Nat)(x y:Option D)(δ:DS):Option Oc:=match x,y with
 |some x,some y=>(Lq x).bind λS=>match y with
  | .int k=>if S.length<1000000 then some (.nx (δ.set i (some (.d (dsB (xu S k))))))else none
  |_=>none
 |_,_=>none
theorem QJ:zm i fk δ=qBP i (ak i δ) (fk δ) δ:=by
 unfold zm qBP
 cases ak i δ with
 |none=>rfl
 |some x=>cases fk δ<;>rfl
def G4{S:List Int}{k:Int}(h:S.length<1000000):qBP i (some (dsB S)) (some (.int k)) δ=some (.nx (δ.set i (some (.d (dsB (xu S k)))))):=by
 unfold qBP;dsimp only;rw[Dj,aG,if_pos h]
def QK{S:List Int}{k:Int}:xq (.int k) (dsB S)=some (.bool (decide (k∈S))):=by
 unfold xq;rw[Dj];rfl
def QL{S:List Int}:xq .none (dsB S)=some (.bool false):=by
 unfold xq;rw[Dj];rfl
def QM(ok:TO0 L M now):lJ [.list (L.map yD),.int (M:Int),.int now]=some .none:=by
 have R:=ok.len;have en:lE (L.map yD)=(aC L.length).map λp:Nat=>cP [.int (p:Int),.tuple [.int (bk L p),.int (ek L p),hD (hk L p)]]:=by
  rw[rE,Ji];rfl
 obtain⟨δ',e,S,x,y,_,_,rfl⟩:=mR (g:=(gTn 2 (fQ (gNl 4) (fQ (gNl 5) (n8))))) (b:=(bD (sIf (D3.ig (aQ (dCall dI (aj (ak 5) (aj (ak 1) (aj (ak 2) (aJ))))))) ((λ_=>none)) (bV)) (bD (sIf (aQ (dOp xq (dOp gIx (ak 5) (dC (.int 2))) (ak 3))) ((λ_=>none)) (bV)) (sIf (aQ (dUn lD (dOp gIx (ak 5) (dC (.int 2))))) (zm 3 (dOp gIx (ak 5) (dC (.int 2)))) (bV)))))
  (λi δ=>∃(S:List Int)(x y:Option U),S.length<=i/\(∀s∈S,∃(j:Nat)(r:Nat),j<i/\j<L.length/\hk L j=some r/\s=(r:Int))/\δ=[some (.d (.list (L.map yD))),some (.d (.int (M:Int))),some (.d (.int now)),some (.d (dsB S)),x,y]) ((aC L.length).map λp:Nat=>cP [.int (p:Int),.tuple [.int (bk L p),.int (ek L p),hD (hk L p)]])
  [some (.d (.list (L.map yD))),some (.d (.int (M:Int))),some (.d (.int now)),some (.d (.dict [])),none,none] ⟨[],none,none,bF _,λ_ h=>(by cases h),rfl⟩ (by
   rintro i d δ hd ⟨S,x,y,s1,s2,rfl⟩;rw[bf]at hd;by_cases hi:i<L.length
   case neg=>rw[bK (by simpa using hi)]at hd;cases hd
   rw[cJ hi]at hd
   cases hd;have st:=U_ ok hi
   cases hh:hk L i with
   |none=>
    rw[hh]at st;have Y:isNone (hD none)=true:=rfl;have X:xq (hD none) (dsB S)=some (.bool false):=QL;refine⟨_,[some (.d (.list (L.map yD))),some (.d (.int (M:Int))),some (.d (.int now)),some (.d (dsB S)),some (.d (.int (i:Int))),some (.d (.tuple [.int (bk L i),.int (ek L i),hD none]))],rfl,.inl ?_,S,_,_,by lia,λs Z=>?_,rfl⟩
    .simp![hh,st,at2,X,Y]
    .obtain⟨j,r,j1,j2⟩:=s2 s Z;exact⟨j,r,by lia,j2⟩
   |some r=>
    rw[hh]at st;have Y:isNone (hD (some r))=false:=rfl;have ns:¬(r:Int)∈S:=λz=>by
     obtain⟨j,V,j1,j2,Q,P⟩:=s2 _ z;have:V=r:=by lia
     subst this;have:=GZ ok.nd j2 hi Q hh;lia
    have X:xq (hD (some r)) (dsB S)=some (.bool false):=by
     show xq (.int (r:Int)) _=_;rw[QK,dFa ns]
    have T:∀δ:DS,qBP 3 (some (dsB S)) (some (hD (some r))) δ=some (.nx (δ.set 3 (some (.d (dsB (xu S (r:Int))))))):=λδ=>G4 (by lia)
    have W:xu S (r:Int)=S++[(r:Int)]:=by unfold xu;rw[if_neg ns]
    refine⟨_,[some (.d (.list (L.map yD))),some (.d (.int (M:Int))),some (.d (.int now)),some (.d (dsB (xu S (r:Int)))),some (.d (.int (i:Int))),some (.d (.tuple [.int (bk L i),.int (ek L i),hD (some r)]))],rfl,.inl ?_,xu S (r:Int),_,_,?_,λs Z=>?_,rfl⟩
    .simp![hh,st,at2,X,Y,QJ,T]
    .rw[W,bx];simp;lia
    .rw[W]at Z;rcases aR.mp Z with w|w
     .obtain⟨j,r,j1,j2⟩:=s2 s w;exact⟨j,r,by lia,j2⟩
     .exact⟨i,r,by lia,hi,hh,aB.mp w⟩)
 unfold lJ;simp![en];rw[e];simp![]
def Jl(hl:L.length<64):∃P:List Nat,jK [.list (L.map yD)]=some (.list (P.map λi:Nat=>cE (i:Int)))/\P.Perm (opn L)/\P.Pairwise λa b=>bk L a<=bk L b:=by
 have en:lE (L.map yD)=(aC L.length).map λp:Nat=>cP [.int (p:Int),yD (tAt L p)]:=by rw[rE];exact Ji _
 have R:fM (gTn 2 (fQ (gNl 0) (fQ (gNl 1) (n8)))) (aQ (dUn v8 (dOp gIx (ak 1) (dC (.int 2))))) (dW (ak 0)) (jR 2 [] [some (.d (.list (L.map yD))),none]) (lE (L.map yD))=some ((opn L).map λp:Nat=>cE (p:Int)):=by
  rw[en];exact Mj (λp:Nat=>cP [.int (p:Int),yD (tAt L p)]) (λp=>!(tAt L p).2.2.isSome) (λp:Nat=>cE (p:Int)) (aC L.length) λp _=>⟨[some (.d (.int (p:Int))),some (.d (yD (tAt L p)))],rfl,by
   have:=Qy (tAt L p).2.2;unfold yD;simp![at2,this],λ_=>by simp![]⟩
 have U:(lE (L.map yD)).length<=100000:=by rw[en,au,bQ];lia
 have X:∀p∈opn L,p<L.length:=λp W=>bR.mp (cA.mp W).1
 have lo:(opn L).length<=L.length:=by
  have:=iG (λp=>!(tAt L p).2.2.isSome) (aC L.length);rwa[bQ]at this
 have S:=ae6 (L:=L) (some (.d (.list ((opn L).map λp:Nat=>cE (p:Int))))) (opn L) X;obtain⟨P,T,Y,Z⟩:=Jh (opn L) (bk L);refine⟨P,?_,Y,Z⟩;have V:=LK (l:=(opn L).map λp:Nat=>cE (p:Int)) (by rw[au];lia) (jM _ (λ_=>rfl) _) S (m6 _);unfold jK;simp![U,R,Ua];rw[V];simp![];rw[<-T];rfl
theorem Jm{fs:Nat->Int}{x:Int}(J:M<=1000)(h:∃r,r<M/\fs r<=x):∃r:Nat,r<M/\fs r<=x/\iw [.list ((aC M).map λr:Nat=>cE (fs r)),.int x]=some (.int (r:Int)):=by
 have en:lE ((aC M).map λr:Nat=>cE (fs r))=(aC M).map λr:Nat=>cP [.int (r:Int),.int (fs r)]:=by
  unfold lE;apply fU;intro i;rw[jT,bf,bf];by_cases hi:i<M
  .rw[cJ hi];rfl
  .rw[bK (by simpa using hi)];rfl
 have C:fM (gTn 2 (fQ (gNl 0) (fQ (gNl 1) (n8)))) (aQ (dOp gLe (ak 1) (ak 2))) (dW (ak 0)) (jR 2 [1] [some (.d (.list ((aC M).map λr:Nat=>cE (fs r)))),some (.d (.int x))]) (lE ((aC M).map λr:Nat=>cE (fs r)))=some (((aC M).filter λr=>decide (fs r<=x)).map λr:Nat=>cE (r:Int)):=by
  rw[en];exact Mj (λr:Nat=>cP [.int (r:Int),.int (fs r)]) _ (λr:Nat=>cE (r:Int)) (aC M) λr Z=>⟨[some (.d (.int (r:Int))),some (.d (.int (fs r))),some (.d (.int x))],rfl,by simp![],λ_=>by simp![]⟩
 have Y:(lE ((aC M).map λr:Nat=>cE (fs r))).length<=100000:=by rw[en,au,bQ];lia
 cases e:(aC M).filter λr=>decide (fs r<=x)with
 |nil=>
  obtain⟨r,h1,h2⟩:=h;have:r∈(aC M).filter λr=>decide (fs r<=x):=cA.mpr ⟨bR.mpr h1,dTr h2⟩
  rw[e]at this
  cases this
 |cons r l=>
  have Z:r∈(aC M).filter λr=>decide (fs r<=x):=by rw[e];exact aD
  obtain⟨h1,h2⟩:=cA.mp Z;refine⟨r,bR.mp h1,of_decide_eq_true h2,?_⟩;rw[e,bJ]at C;show Com.iw _=_;unfold Com.iw;simp![Y,C]
def Va(n:Nat)(d:D):aW n d=(aC n).map λ_=>d:=by
 rw[List.map_const',bQ]
theorem ae9{k:Int}(h:k<=1000000)(h' : -(2^63)<=k):N5 (.list [d]) (.int k)=some (.list (aW k.toNat d)):=by
 show(if [d].length*k.toNat<=1000000/\-(2^63)<=k/\k<2^63 then some (d5 (aW k.toNat [d]).flatten)else none)=_;rw[if_pos ⟨by simp only[bI,dG];lia,h',by lia⟩];congr 2;generalize k.toNat=n
 induction n with
 |zero=>rfl
 |succ n Z=>rw[dB,gQ,Z,dB];rfl
theorem zN(Inv:DS->Prop)(p:Int->Bool):∀(l:List Int)(δ:DS),Inv δ->(∀x∈l,∀δ,Inv δ->∃δ1,g (.int x) δ=some δ1/\((p x=true/\b δ1=some (.rt (.int x)))\/(p x=false/\∃δ',b δ1=some (.nx δ')/\Inv δ'))) ->
 (∃x,l.find? p=some x/\jj g b (l.map .int) δ=some (.rt (.int x)))\/(l.find? p=none/\∃δ',jj g b (l.map .int) δ=some (.nx δ')/\Inv δ')
 |[],δ,h,_=>.inr ⟨rfl,δ,rfl,h⟩
 |x::r,δ,h,Y=>by
  obtain⟨δ1,e1,q⟩:=Y x aD δ h;rcases q with⟨Z,e2⟩|⟨Z,δ',e2,h'⟩
  .refine .inl ⟨x,by rw[List.find?_cons,Z],?_⟩;rw[bJ,jj,e1,aG,e2];rfl
  .have U:=zN Inv p r δ' h' λy X=>Y y (aA _ X)
   have V:(x::r).find? p=r.find? p:=by rw[List.find?_cons,Z]
   have W:jj g b ((x::r).map .int) δ=jj g b (r.map .int) δ':=by
    rw[bJ,jj,e1,aG,e2];rfl
   rwa[V,W]
def outI:Option Int->D
 |none=>.none
 |some x=>.int x
def pM(L:List Ty)(M:Nat)(x:Int):Bool:=decide ((M:Int)<(jJ L x:Int))
def nS(L:List Ty):List Sh:=L.map λs=>(s.1,s.2.1)
def QS(L:List Ty)(x:Int):cnt (nS L) x=jJ L x:=by
 unfold Com.cnt jJ nS;rw[List.filter_map,au];rfl
def LT(L:List Ty)(now:Int):List Int:=(L.map (·.1)).filter λx=>decide (now<x)
def Ko(hl:L.length<=24):jH [.list ((nS L).map stD),.int (M:Int),.int now]=some (outI ((now::nW (LT L now)).find? (pM L M))):=by
 have W:(nS L).length=L.length:=au _;have fs:=GK (ss:=nS L) (by lia);have fe:(nS L).map (·.1)=L.map (·.1):=by unfold nS;rw[eZ];rfl
 rw[fe]at fs;have Y:fM (gNl 0) (aQ (dOp gGt (ak 0) (ak 1))) (dW (ak 0)) [none,some (.d (.int now))] ((L.map (·.1)).map .int)=some ((LT L now).map .int):=by
  unfold LT;generalize L.map (·.1)=l
  induction l with
  |nil=>rfl
  |cons x r Z=>
   rw[bJ,fM];by_cases c:now<x
   .simp![dTr c,aG,Z];rw[lZ (by simpa using c)];rfl
   .simp![dFa c,aG,Z];rw[mj (by simpa using c),if_neg (by decide)]
 have V:(LT L now).length<=60:=bO (iG _ _) (by rw[au];lia);have gs:um [.list ((LT L now).map .int)]=some (.list ((nW (LT L now)).map .int)):=by
  unfold um;simp only;rw[m6,aG,if_pos (by lia)]
 have X:mF (.list [.int now]) (.list ((nW (LT L now)).map .int))=some (.list (.int now::(nW (LT L now)).map .int)):=by
  rw[tu,if_pos (by rw[au,(iQ _).length_eq];simp;lia)];rfl
 have ca:∀a c d e f:Option U,jR 1 [2] [a,c,d,e,f]=[none,d]:=λ_ _ _ _ _=>rfl
 show Com.jH _=_;unfold Com.jH;simp![fs,lMp,show L.length<=100000 by lia,ca,Y,gs,zl1,X];rcases zN (g:=gNl 4) (b:=(sIf (aQ (dOp gGt (dCall Com.jh (aj (ak 0) (aj (ak 4) (aJ)))) (ak 1))) (b_ (dW (ak 4))) (bV))) (λδ=>∃y,δ=[some (.d (.list ((nS L).map stD))),some (.d (.int (M:Int))),some (.d (.int now)),some (.d (.list ((LT L now).map .int))),y]) (pM L M) (now::nW (LT L now))
  [some (.d (.list ((nS L).map stD))),some (.d (.int (M:Int))),some (.d (.int now)),some (.d (.list ((LT L now).map .int))),none] ⟨none,rfl⟩ (by
   rintro x T δ ⟨y,rfl⟩;refine⟨_,rfl,?_⟩;have cs:=zK (ss:=nS L) (by lia) x;rw[QS]at cs
   cases z:pM L M x with
   |true=>
    have z:decide ((M:Int)<(jJ L x:Int))=true:=z;refine .inl ⟨rfl,?_⟩;simp![cs,z]
   |false=>
    have z:decide ((M:Int)<(jJ L x:Int))=false:=z;refine .inr ⟨rfl,_,?_,some (.d (.int x)),rfl⟩;simp![cs,z])with⟨x,e1,e2⟩|⟨e1,δ',e2,y,rfl⟩
 .rw[bJ]at e2;rw[e2,e1];simp![];rfl
 .rw[bJ]at e2;rw[e2,e1];simp![];rfl
theorem Vb(l:List (Option Nat))(r:Nat):((l.map hD).any λz=>da z (.int (r:Int)))=decide (some r∈l):=by
 induction l with
 |nil=>rfl
 |cons o l Z=>
  rw[bJ,lB,Z]
  cases o with
  |none=>
   show(false||_)=_;rw[Bool.false_or];simp
  |some x=>
   have:da (hD (some x)) (.int (r:Int))=decide (x=r):=by
    exact decide_eq_decide.mpr (by lia)
   rw[this];by_cases h:x=r
   .subst h;simp
   .have h2:¬r=x:=λz=>h z.symm
    simp[h,h2]
def ao1{k:Nat}(h:L.length<=k):hk L k=none:=by
 unfold hk tAt;rw[bU,bK h];rfl
section
variable{L:List Ty}
def zO(ok:TO0 L M now)(J:M<=12):∃f:Nat->Int,cQ [.list (L.map yD),.int (M:Int),.int now]=some (.list ((aC M).map λr:Nat=>cE (f r)))/\∀r,r<M->(∃k,k<L.length/\hk L k=some r/\f r=ek L k)\/((∀k,k<L.length->hk L k≠some r)/\f r=now):=by
 have V:N5 (.list [.int now]) (.int (M:Int))=some (.list ((aC M).map λr:Nat=>cE ((λ_=>now) r))):=by
  rw[ae9 (by lia) (by lia),uU,Va]
 have mt:L.map yD=(aC L.length).map λk=>cP [.int (bk L k),.int (ek L k),hD (hk L k)]:=by rw[rE];rfl
 obtain⟨δ',e,f,u,Y,rfl⟩:=mR (g:=(gNl 4)) (b:=(sIf (aQ (dUn lD (dOp gIx (ak 4) (dC (.int 2))))) (yI 3 (dOp gIx (ak 4) (dC (.int 2))) (dOp gIx (ak 4) (dC (.int 1)))) (bV)))
  (λi δ=>∃(f:Nat->Int)(u:Option U),(∀r,r<M->(∃k,k<i/\hk L k=some r/\f r=ek L k)\/((∀k,k<i->hk L k≠some r)/\f r=now))/\δ=[some (.d (.list (L.map yD))),some (.d (.int (M:Int))),some (.d (.int now)),some (.d (.list ((aC M).map λr:Nat=>cE (f r)))),u]) (L.map yD)
  [some (.d (.list (L.map yD))),some (.d (.int (M:Int))),some (.d (.int now)),some (.d (.list ((aC M).map λr:Nat=>cE ((λ_=>now) r)))),none] ⟨λ_=>now,none,λr _=>.inr ⟨λk Z=>absurd Z (nQ _),rfl⟩,rfl⟩ (by
   rintro i d δ hd ⟨f,u,Y,rfl⟩;have hi:i<L.length:=by
    have:=(dM.mp hd).1;rwa[au]at this
   rw[mt,bf,cJ hi]at hd
   cases hd
   cases hh:hk L i with
   |none=>
    have T:isNone (hD none)=true:=rfl;refine⟨_,[some (.d (.list (L.map yD))),some (.d (.int (M:Int))),some (.d (.int now)),some (.d (.list ((aC M).map λr:Nat=>cE (f r)))),some (.d (.tuple [.int (bk L i),.int (ek L i),hD none]))],rfl,.inl ?_,f,_,λr W=>?_,rfl⟩
    .simp![hh,at2,T]
    .rcases Y r W with⟨k,k1,k2⟩|⟨k1,k2⟩
     .exact .inl ⟨k,by lia,k2⟩
     .refine .inr ⟨λk Z=>?_,k2⟩;by_cases z:k=i
      .rw[z,hh];exact λw=>nomatch w
      .exact k1 k (by lia)
   |some r0=>
    have X:=((ok.ok _ (jr hi)).2.1 r0 hh).1;have S:hD (some r0) = .int (r0:Int):=rfl;have p3:=Qx (l:=(aC M).map λr:Nat=>cE (f r)) (by rw[au,bQ]) X;have st:=GX (n:=M) (c:=r0) (d:=.int (ek L i)) (λr:Nat=>cE (f r));refine⟨_,[some (.d (.list (L.map yD))),some (.d (.int (M:Int))),some (.d (.int now)),some (.d (.list (((aC M).map λr:Nat=>cE (f r)).set r0 (.int (ek L i))))),some (.d (.tuple [.int (bk L i),.int (ek L i),hD (some r0)]))],rfl,.inl ?_,λr=>if r=r0 then ek L i else f r,some (.d (.tuple [.int (bk L i),.int (ek L i),hD (some r0)])),λr W=>?_,?_⟩
    .generalize (aC M).map (λr:Nat=>cE (f r))=R at *;simp![hh,S,at1,at2,p3,aG]
    .by_cases z:r=r0
     .exact .inl ⟨i,by lia,by rwa[z],by show(if r=r0 then ek L i else f r)=_;rw[if_pos z]⟩
     .show(∃k,k<i+1/\hk L k=some r/\(if r=r0 then ek L i else f r)=ek L k)\/((∀k,k<i+1->hk L k≠some r)/\(if r=r0 then ek L i else f r)=now);rw[if_neg z];rcases Y r W with⟨k,k1,k2⟩|⟨k1,k2⟩
      .exact .inl ⟨k,by lia,k2⟩
      .refine .inr ⟨λk Z=>?_,k2⟩;by_cases w:k=i
       .rw[w,hh];intro y;injection y with y
        exact z y.symm
       .exact k1 k (by lia)
    .rw[st];have:(λx:Nat=>if x=r0 then cE (ek L i)else cE (f x))=λx=>cE (if x=r0 then ek L i else f x):=by
      funext x
      by_cases z:x=r0
      .rw[if_pos z,if_pos z]
      .rw[if_neg z,if_neg z]
     rw[this])
 rw[au]at Y;refine⟨f,?_,Y⟩;have fl:flats ((aC M).map λr:Nat=>cE (f r))=true:=jM _ (λ_=>rfl) _;show Com.cQ _=_;unfold Com.cQ;simp![zl1,V];rw[e];simp![fl]
def hel(L:List Ty):List Nat:=(aC L.length).filter λk=>(hk L k).isSome
def uc{k:Nat}:k∈hel L<->k<L.length/\(hk L k).isSome=true:=by
 unfold hel;rw[cA,bR]
end
def TO0.of(ok:TOk L M now):TO0 L M now:=⟨ok.len,λs Z=>⟨⟨(ok.ok s Z).1,(ok.bd s Z).1,(ok.bd s Z).2⟩,(ok.ok s Z).2⟩,ok.nd⟩
theorem G5(ok:TOk L M now):jJ L now<=M:=by
 cases e:L.filter (hol now)with
 |nil=>unfold jJ;rw[e];exact fK _
 |cons s r=>
  have Z:s∈L.filter (hol now):=by rw[e];exact aD
  obtain⟨h1,h2⟩:=cA.mp Z;have:=ok.full s h1;unfold hol at h2;rw[aV,decide_eq_true_iff]at h2;rwa[if_neg (by lia)]at this
def DP(ok:TOk L M now){s:Ty}(J:s∈L)(h:now<=s.1):jJ L s.1<=M:=by
 have:=ok.full s J;by_cases z:s.1>now
 .rwa[if_pos z]at this
 .rw[if_neg z]at this;have:s.1=now:=by lia
  rw[this];exact G5 ok
def Kp{e:FE}(O:g=gNl 0)(Z:c=D3.jV)(Y:e=dCall Com.cH (aj (ak 0) (aJ)))(J:DS):fM g c e (jR 1 [] J) (L.map yD)=some ((nS L).map stD):=by
 subst O Z Y;unfold nS;rw[eZ];exact xH yD _ L λs _=>⟨[some (.d (yD s))],rfl,rfl,by
  obtain⟨a,b,c⟩:=s;have:Com.cH [.tuple [.int a,.int b,hD c]]=_:=qu a b (hD c);simp![this];rfl⟩
def Vc(ok:TOk L M now):iZ [.list (L.map yD),.int (M:Int),.int now]=some .none:=by
 have X:=ok.len;have len:(L.map yD).length<=100000:=by rw[au];lia
 have Z:=Ko (L:=L) (M:=M) (now:=now) X;have no:(now::nW (LT L now)).find? (pM L M)=none:=jz.mpr λx T=>by
  have:jJ L x<=M:=by
   rcases aK.mp T with rfl|z
   .exact G5 ok
   .obtain⟨V,W⟩:=cA.mp ((iQ _).mem_iff.mp z);obtain⟨s,s1,rfl⟩:=cF.mp V;have W:=of_decide_eq_true W;exact DP ok s1 (by lia)
  unfold pM;rw[decide_eq_true_iff];lia
 rw[no]at Z;have Z:Com.jH [.list ((nS L).map stD),.int (M:Int),.int now]=some .none:=Z;have C:=λY=>Kp (L:=L) (g:=(gNl 0)) (c:=(D3.jV)) (e:=(dCall cH (aj (ak 0) (aJ)))) rfl rfl rfl Y
 have U:isNone .none=true:=rfl;show Com.iZ _=_;unfold Com.iZ;simp![len,C,Z,U]
def DQ(ok:TOk L M now){w:Nat}(hw:w<L.length)(hn:hk L w=none):nM [.list (L.map yD),.int (M:Int),.int now,.int (w:Int)]=some .none:=by
 have U:=QM (TO0.of ok);have V:=Vc ok;have a1:=ay hw;have W:((L.map yD).length:Int)=(L.length:Int):=by rw[au]
 have Y:decide ((0:Int)<=(w:Int))=true:=dTr (by lia);have Z:decide ((w:Int)<(L.length:Int))=true:=dTr (by lia);have X:isNone (hD none)=true:=rfl;rw[hn]at a1;unfold nM;simp![U,V,W,Y,Z,a1,at2,X]
def xZ{r:Nat}(h:r<M):jc [.int (M:Int),.int (r:Int)]=some .none:=by
 have Y:decide ((0:Int)<=(r:Int))=true:=dTr (by lia);have Z:decide ((r:Int)<(M:Int))=true:=dTr (by lia);show Com.jc _=_;unfold Com.jc;simp![Y,Z]
def gA(L:List Ty)(w k:Nat)(x:Int):Bool:=!decide (k=w)&&(!(hk L k).isSome&&(decide (bk L k=x)&&decide (ek L k<=bk L w)))
theorem QT{w k:Nat}{x:Int}(hw:w<L.length)(J:k<L.length):gD [.list (L.map yD),.int (w:Int),.int (k:Int),.int x]=some (.bool (gA L w k x)):=by
 have a1:=ay hw;have a2:=ay J;have Y:=Qy (hk L k);have e1:decide ((k:Int)=(w:Int))=decide (k=w):=decide_eq_decide.mpr (by lia);unfold gA;show Com.gD _=_;unfold Com.gD
 cases Z:decide (k=w)with
 |true=>simp![a2,e1,Z,jt]
 |false=>
  cases X:(hk L k).isSome with
  |true=>simp![a2,at2,Y,e1,Z,X,jt,jL]
  |false=>
   cases W:decide (bk L k=x)with
   |true=>simp![a1,a2,at1,at2,Y,e1,Z,X,W,jL]
   |false=>simp![a2,at2,Y,e1,Z,X,W,jt,jL]
def QV{x:Int}(hl:L.length<=24):jY [.list (L.map yD),.int (M:Int),.int x]=some (.bool (decide (jJ L x=M))):=by
 have len:(L.map yD).length<=100000:=by rw[au];lia
 have C:=λZ=>Kp (L:=L) (g:=(gNl 0)) (c:=(D3.jV)) (e:=(dCall cH (aj (ak 0) (aJ)))) rfl rfl rfl Z
 have cs:=zK (ss:=nS L) (by unfold nS;rw[au];lia) x;rw[QS]at cs;have e1:decide ((jJ L x:Int)=(M:Int))=decide (jJ L x=M):=decide_eq_decide.mpr (by lia);show Com.jY _=_;unfold Com.jY;simp![len,C,cs,e1]
def pqD(s:Int×Option Nat):D:=.tuple [.int s.1,hD s.2]
def gos(L:List Ty)(w:Nat)(x:Int):List Nat:=(aC L.length).filter λk=>gA L w k x
def stp(L:List Ty)(M w:Nat)(x:Int):List (Int×Option Nat):=((gos L w x).map λk=>(ek L k,some k))++if jJ L x=M then []else [(x+1,none)]
def QW{w:Nat}{x:Int}(hl:L.length<=24)(hw:w<L.length):fj [.list (L.map yD),.int (M:Int),.int (w:Int),.int x]=some (.list ((stp L M w x).map pqD)):=by
 have en:lE (L.map yD)=(aC L.length).map λp:Nat=>cP [.int (p:Int),yD (tAt L p)]:=by rw[rE];exact Ji _
 have C:fM (gTn 2 (fQ (gNl 0) (fQ (gNl 1) (n8)))) (aQ (dCall gD (aj (ak 2) (aj (ak 3) (aj (ak 0) (aj (ak 4) (aJ))))))) (dW (dTup (aj (dOp gIx (ak 1) (dC (.int 1))) (aj (ak 0) (aJ))))) (jR 2 [0,2,3] [some (.d (.list (L.map yD))),some (.d (.int (M:Int))),some (.d (.int (w:Int))),some (.d (.int x)),none]) (lE (L.map yD))=some ((gos L w x).map λk=>pqD (ek L k,some k)):=by
  rw[en];exact Mj (λp:Nat=>cP [.int (p:Int),yD (tAt L p)]) (λk=>gA L w k x) (λk=>pqD (ek L k,some k)) (aC L.length) λp W=>⟨[some (.d (.int (p:Int))),some (.d (yD (tAt L p))),some (.d (.list (L.map yD))),some (.d (.int (w:Int))),some (.d (.int x))],rfl,by
   have:=QT (x:=x) hw (bR.mp W);have:Com.gD _=_:=this;simp![this],λ_=>by
   simp![at1];rfl⟩
 have Y:(lE (L.map yD)).length<=100000:=by rw[en,au,bQ];lia
 have tt:=QV (M:=M) (x:=x) hl;have V:(gos L w x).length<=24:=by
  have:=iG (λk=>gA L w k x) (aC L.length);rw[bQ]at this;exact bO this hl
 have X:((gos L w x).map λk=>pqD (ek L k,some k)).length<1000000:=by rw[au];lia
 have f1:flats ((gos L w x).map λk=>pqD (ek L k,some k))=true:=jM _ (λ_=>rfl) _;unfold stp;show Com.fj _=_;unfold Com.fj;by_cases z:jJ L x=M
 .rw[dTr z]at tt;rw[if_pos z,dN,eZ];simp![Y,C,tt,f1];rfl
 .rw[dFa z]at tt;rw[if_neg z,fX,eZ];have f2:flats (((gos L w x).map λk=>pqD (ek L k,some k))++[pqD (x+1,none)])=true:=by
   rw[show [pqD (x+1,none)]=([(x+1,none)]:List (Int×Option Nat)).map pqD from rfl];rw[show((gos L w x).map λk=>pqD (ek L k,some k))=((gos L w x).map λk=>(ek L k,some k)).map pqD by rw[eZ];rfl,<-fX];exact jM _ (λs=>by obtain⟨a,b⟩:=s;cases b<;>rfl) _
  have Z:flats (((gos L w x).map λk=>pqD (ek L k,some k))++[cP [.int (x+1),.none]])=true:=f2;simp![Y,C,tt,zl2,X,Z];rfl
def yc{k x:Int}(h:(gC S x).isSome=true):gC (pD S k d) x=gC S x:=by
 unfold pD;split
 .rfl
 .unfold gC at h ⊢;rw[uW]
  cases e:S.find? λq=>decide (q.1=x)with
  |none=>rw[e]at h;cases h
  |some q=>rfl
def DR{k x:Int}(h:gC S x=none):gC (pD S k d) x=if x=k then some d else none:=by
 unfold pD;split
 .next c=>
  by_cases z:x=k
  .rw[<-z,h]at c;cases c
  .rwa[if_neg z]
 .unfold gC at h ⊢;rw[uW]
  cases e:S.find? λq=>decide (q.1=x)with
  |some q=>rw[e]at h;cases h
  |none=>
   by_cases z:x=k
   .rw[if_pos z,qH (by simp[z])];rfl
   .rw[if_neg z,qJ (by simp;exact λy=>z y.symm)];rfl
def vQ{k x:Int}(h:(gC S x).isSome=true):(gC (pD S k d) x).isSome=true:=by rwa[yc h]
theorem QX{k:Int}:(gC (pD S k d) k).isSome=true:=by
 cases h:gC S k with
 |none=>rw[DR h,if_pos rfl];rfl
 |some v=>rw[yc (by rw[h];rfl),h];rfl
def Vd(S:List (Int×D))(k:Int)(d:D):(pD S k d).length<=S.length+1:=by
 unfold pD;split
 .lia
 .rw[bx];exact bF _
def qTv(i:Nat)(x y z:Option D)(δ:DS):Option Oc:=x.bind λx=>y.bind λy=>z.bind λz=>(xG x).bind λS=>match y with
 | .int k=>if tvD z=true/\S.length<1000000 then some (.nx (δ.set i (some (.d (dtv (pD S k z))))))else none
 |_=>none
def Ve{fv:FE}:zq i fk fv δ=qTv i (ak i δ) (fk δ) (fv δ) δ:=rfl
def Mr{k:Int}{z:D}(O:tvA S=true)(J:tvD z=true)(h:S.length<1000000):qTv i (some (dtv S)) (some (.int k)) (some z) δ=some (.nx (δ.set i (some (.d (dtv (pD S k z)))))):=by
 unfold qTv;rw[aG,aG,aG,tY O,aG];show(if _ then _ else _)=_;rw[if_pos ⟨J,h⟩]
def Vf{i:Int}(h:fk δ=some (.int i)):zp fk δ=some (dtv [(i,.none)]):=by
 unfold zp;rw[h];rfl
def YJ{k:Int}(J:tvA S=true):Gw (.int k) (dtv S)=some (.bool (gC S k).isSome):=by
 unfold Gw;rw[tY J];rfl
def Cg{k:Int}(J:tvA S=true):sW (.int k) (dtv S)=some (.bool (!(gC S k).isSome)):=by
 unfold sW;rw[tY J];rfl
def Kq{k:Int}(J:tvA S=true):rD (dtv S) (.int k)=gC S k:=by
 unfold rD;rw[tY J];rfl
def V_(x:Int)(p:Option Nat):tvD (.tuple [.int x,hD p])=true:=by cases p<;>rfl
abbrev Gk(L:List Ty)(w k:Nat):Prop:=Rch.Go L.length (bk L) (ek L) (hk L) w k
def Stp(L:List Ty)(M w:Nat)(y:Int)(p:Option Nat)(x:Int):Prop:=match p with
 |none=>jJ L y≠M/\x=y+1
 |some k=>Gk L w k/\bk L k=y/\ek L k=x
theorem Vg{w:Nat}{y:Int}{s:Int×Option Nat}:s∈stp L M w y<->Stp L M w y s.2 s.1:=by
 obtain⟨x,p⟩:=s;unfold stp Stp;rw[aR,cF]
 cases p with
 |none=>
  constructor
  .rintro(⟨k,_,e⟩|h)
   .cases e
   .by_cases z:jJ L y=M
    .rw[if_pos z]at h;cases h
    .rw[if_neg z]at h;have:=aB.mp h;injection this with h1 h2
     exact⟨z,h1⟩
  .rintro⟨h1,h2⟩
   right
   rw[if_neg h1];have h2:x=y+1:=h2;rw[h2];exact aB.mpr rfl
 |some k=>
  have W:k∈gos L w y<->Gk L w k/\bk L k=y:=by
   unfold gos gA;rw[cA,bR,aV,aV,aV,decide_eq_true_iff,decide_eq_true_iff];have:(!(hk L k).isSome)=true<->hk L k=none:=by cases hk L k<;>simp
   rw[this];simp only[Bool.not_eq_true',decide_eq_false_iff_not]
   constructor
   .rintro⟨h1,h2,Z,X,Y⟩;exact⟨⟨h1,h2,Z,Y⟩,X⟩
   .rintro⟨⟨h1,h2,Z,Y⟩,X⟩;exact⟨h1,h2,Z,X,Y⟩
  constructor
  .rintro(⟨V,h1,e⟩|h)
   .injection e with e1 e2
    injection e2 with e2
    subst e2;obtain⟨g1,g2⟩:=W.mp h1;exact⟨g1,g2,e1⟩
   .split at h
    .cases h
    .have:=aB.mp h;injection this with h1 h2
     cases h2
  .rintro⟨h1,h2,Z⟩;exact .inl ⟨k,W.mpr ⟨h1,h2⟩,by rw[show ek L k=x from Z]⟩
def Kr{x:Int}:(gC S x).isSome=true<->x∈S.map (·.1):=by
 unfold gC;rw[mK,List.find?_isSome]
 constructor
 .rintro⟨q,h1,h2⟩;exact cF.mpr ⟨q,h1,of_decide_eq_true h2⟩
 .intro h;obtain⟨q,h1,h2⟩:=cF.mp h;exact⟨q,h1,dTr h2⟩
def YK{k:Int}(h:(S.map (·.1)).Nodup):((pD S k d).map (·.1)).Nodup:=by
 unfold pD;split
 .exact h
 .next c=>
  rw[fX];refine uX.mpr ⟨h,mq _ _,λa ha b hb z=>c ?_⟩;have hb:=aB.mp hb;rw[hb]at z;rw[z]at ha;exact Kr.mpr ha
structure Sok(L:List Ty)(M w:Nat)(B:Int)(S:List (Int×D)):Prop where
 a:tvA S=true
 b:gC S B=some .none
 nd:(S.map (·.1)).Nodup
 c:∀x d,gC S x=some d->(x=B/\d = .none)\/∃(y:Int)(p:Option Nat),d = .tuple [.int y,hD p]/\B<=y/\y<x/\y<bk L w/\(gC S y).isSome=true/\Stp L M w y p x
theorem Sok.add{w:Nat}{x z:Int}{p:Option Nat}(h:Sok L M w B S)(h1:B<=x)(h2:x<z)(O:x<bk L w)(J:(gC S x).isSome=true)(h5:Stp L M w x p z):Sok L M w B (pD S z (.tuple [.int x,hD p])):=by
 refine⟨Tv h.a (V_ _ _),by rw[yc (by rw[h.b];rfl)];exact h.b,YK h.nd,λy d e=>?_⟩
 cases Z:gC S y with
 |some v=>
  rw[yc (by rw[Z];rfl)]at e;rcases h.c y d e with q|⟨Y,p',q1,q2,q3,q4,q5,q6⟩
  .exact .inl q
  .exact .inr ⟨Y,p',q1,q2,q3,q4,vQ q5,q6⟩
 |none=>
  rw[DR Z]at e;split at e
  .next c=>
   cases e;exact .inr ⟨x,p,rfl,h1,by lia,O,vQ J,by rwa[c]⟩
  .cases e
def Vh{w:Nat}{x:Int}(hl:L.length<=24):(stp L M w x).length<=25:=by
 have:=iG (λk=>gA L w k x) (aC L.length);rw[bQ]at this;unfold stp gos;rw[bx,au];split<;>simp only[dG,bI]<;>lia
def af0{lo hi:Int}(h:(d_ lo hi)[i]? = some d):lo+(i:Int)<hi/\d = .int (lo+(i:Int)):=by
 unfold d_ at h;rw[bf]at h;by_cases z:i<(hi-lo).toNat
 .rw[cJ z]at h
  cases h;exact⟨by lia,rfl⟩
 .rw[bK (by simpa using z)]at h
  cases h
def Jo{w:Nat}(ok:TOk L M now)(hw:w<L.length)(B0:0<=B)(hB:B<=bk L w):
 ∃S,eG [.list (L.map yD),.int (M:Int),.int (w:Int),.int B]=some (dtv S)/\Sok L M w B S/\∀x,B<=x->x<bk L w->(gC S x).isSome=true->∀s∈stp L M w x,(gC S s.1).isSome=true:=by
 have W:=ok.len;have lt:∀k,k<L.length->bk L k<ek L k:=λk N=>(ok.ok _ (jr N)).1
 have J:bk L w<=400:=by
  have:=(ok.bd _ (jr hw)).2;have:=lt w hw;show(tAt L w).1<=400;have:(tAt L w).1<(tAt L w).2.1:=this;lia
 have u:=ay hw;have O:Sok L M w B [(B,.none)]:=⟨rfl,by simp[gC],by simp,λx d e=>by
  unfold gC at e;by_cases z:B=x
  .rw[qH (by simp[z])]at e
   cases e;exact .inl ⟨z.symm,rfl⟩
  .rw[qJ (by simp[z])]at e
   cases e⟩
 obtain⟨δ',e,S,P,Y,h1,h2,Q,rfl⟩:=mR (g:=(gNl 5)) (b:=(sIf (aQ (dOp Gw (ak 5) (ak 4))) (pC (nU (dCall fj (aj (ak 0) (aj (ak 1) (aj (ak 2) (aj (ak 5) (aJ))))))) (gNl 6) (zq 4 (dOp gIx (ak 6) (dC (.int 0))) (dTup (aj (ak 5) (aj (dOp gIx (ak 6) (dC (.int 1))) (aJ)))))) (bV)))
  (λi δ=>∃(S:List (Int×D))(P Y:Option U),Sok L M w B S/\S.length<=1+25*i/\(∀x,B<=x->x<B+(i:Int)->(gC S x).isSome=true->∀s∈stp L M w x,(gC S s.1).isSome=true) /\
   δ=[some (.d (.list (L.map yD))),some (.d (.int (M:Int))),some (.d (.int (w:Int))),some (.d (.int B)),some (.d (dtv S)),P,Y]) (d_ B (bk L w))
  [some (.d (.list (L.map yD))),some (.d (.int (M:Int))),some (.d (.int (w:Int))),some (.d (.int B)),some (.d (dtv [(B,.none)])),none,none] ⟨_,none,none,O,(show 1<=1+25*0 by decide),λx q1 q2=>by lia,rfl⟩ (by
   rintro i d δ hd ⟨S,P,Y,h1,h2,Q,rfl⟩;obtain⟨hi,rfl⟩:=af0 hd;have q1:=YJ (k:=B+(i:Int)) h1.a
   cases R:(gC S (B+(i:Int))).isSome with
   |false=>
    rw[R]at q1;refine⟨_,[some (.d (.list (L.map yD))),some (.d (.int (M:Int))),some (.d (.int (w:Int))),some (.d (.int B)),some (.d (dtv S)),some (.d (.int (B+(i:Int)))),Y],rfl,.inl ?_,S,_,_,h1,by lia,λx x1 x2 x3=>?_,rfl⟩
    .simp![q1]
    .by_cases z:x=B+(i:Int)
     .rw[z,R]at x3;cases x3
     .exact Q x x1 (by lia) x3
   |true=>
    rw[R]at q1;have sl:=Vh (M:=M) (w:=w) (x:=B+(i:Int)) W;have G:=QW (M:=M) (x:=B+(i:Int)) W hw;obtain⟨I,e2,Z,T,g1,g2,g3,K,V,rfl⟩:=mR (g:=(gNl 6)) (b:=(zq 4 (dOp gIx (ak 6) (dC (.int 0))) (dTup (aj (ak 5) (aj (dOp gIx (ak 6) (dC (.int 1))) (aJ))))))
     (λj δ=>∃(Z:List (Int×D))(T:Option U),Sok L M w B Z/\Z.length<=S.length+j/\(∀x,(gC S x).isSome=true->(gC Z x).isSome=true)/\(∀x,x<=B+(i:Int)->(gC Z x).isSome=true->(gC S x).isSome=true) /\
      (∀s∈(stp L M w (B+(i:Int))).take j,(gC Z s.1).isSome=true)/\δ=[some (.d (.list (L.map yD))),some (.d (.int (M:Int))),some (.d (.int (w:Int))),some (.d (.int B)),some (.d (dtv Z)),some (.d (.int (B+(i:Int)))),T]) ((stp L M w (B+(i:Int))).map pqD)
     [some (.d (.list (L.map yD))),some (.d (.int (M:Int))),some (.d (.int (w:Int))),some (.d (.int B)),some (.d (dtv S)),some (.d (.int (B+(i:Int)))),Y] ⟨S,Y,h1,by lia,λ_ h=>h,λ_ _ h=>h,λs X=>(by cases X),rfl⟩ (by
      rintro j d δ hd ⟨Z,T,g1,g2,g3,K,V,rfl⟩;rw[bf]at hd
      cases es:(stp L M w (B+(i:Int)))[j]? with
      |none=>rw[es]at hd;cases hd
      |some s=>
       rw[es]at hd
       cases hd;have t:j<25:=bT (dM.mp es).1 sl;have sm:=d8 es;obtain⟨z,p⟩:=s;have sp:=Vg.mp sm;have H:B+(i:Int)<z:=by
        cases p with
        |none=>
         have:z=B+(i:Int)+1:=sp.2;lia
        |some k=>
         have h:=lt k sp.1.1;have q:bk L k=B+(i:Int):=sp.2.1;have r:ek L k=z:=sp.2.2;lia
       have A:(stp L M w (B+(i:Int))).take (j+1)=(stp L M w (B+(i:Int))).take j++[(z,p)]:=by rw[pJ,es];rfl
       have vs:=Mr (i:=4) (k:=z) (δ:=[some (.d (.list (L.map yD))),some (.d (.int (M:Int))),some (.d (.int (w:Int))),some (.d (.int B)),some (.d (dtv Z)),some (.d (.int (B+(i:Int)))),some (.d (pqD (z,p)))]) g1.a (V_ (B+(i:Int)) p) (by lia);refine⟨_,[some (.d (.list (L.map yD))),some (.d (.int (M:Int))),some (.d (.int (w:Int))),some (.d (.int B)),some (.d (dtv (pD Z z (.tuple [.int (B+(i:Int)),hD p])))),some (.d (.int (B+(i:Int)))),some (.d (pqD (z,p)))],rfl,.inl ?_,pD Z z (.tuple [.int (B+(i:Int)),hD p]),_,g1.add (by lia) H hi (g3 _ R) sp,?_,λx C=>vQ (g3 x C),λx x1 x2=>?_,λs X=>?_,rfl⟩
       .have F:gIx (pqD (z,p)) (.int 0)=some (.int z):=rfl;have i1:gIx (pqD (z,p)) (.int 1)=some (hD p):=rfl;simp![Ve,F,i1,zl2];exact vs
       .have:=Vd Z z (.tuple [.int (B+(i:Int)),hD p]);lia
       .refine K x x1 ?_
        cases E:gC Z x with
        |some v=>rfl
        |none=>
         rw[DR E,if_neg (by lia)]at x2
         cases x2
       .rw[A]at X;rcases aR.mp X with y|y
        .exact vQ (V s y)
        .rw[aB.mp y];exact QX)
    rw[au]at g2 V;rw[qd]at V;refine⟨_,[some (.d (.list (L.map yD))),some (.d (.int (M:Int))),some (.d (.int (w:Int))),some (.d (.int B)),some (.d (dtv Z)),some (.d (.int (B+(i:Int)))),T],rfl,.inl ?_,Z,_,_,g1,by lia,λx x1 x2 x3=>?_,rfl⟩
    .simp![q1,G];exact e2
    .by_cases z:x=B+(i:Int)
     .rw[z];exact V
     .intro s X;exact g3 _ (Q x x1 (by lia) (K x (by lia) x3) s X))
 refine⟨S,?_,h1,λx x1 x2=>Q x x1 (by unfold d_;rw[au,bQ];lia)⟩;have rg:Ql (some [.int B,.int (bk L w)])=some (d_ B (bk L w)):=an1 (by lia) (by lia) (by lia) (by lia);have nw:zp (ak 3) [some (.d (.list (L.map yD))),some (.d (.int (M:Int))),some (.d (.int (w:Int))),some (.d (.int B)),none,none,none]=some (dtv [(B,.none)]):=Vf rfl;unfold eG;simp![nw,u,rg];rw[e];simp![]
def QZ(x:Int):jJ L x=Rch.cnt L.length (bk L) (ek L) x:=ae7 x
abbrev Pt(L:List Ty)(M w:Nat)(B:Int):List Nat->Int->Prop:=Rch.Pth L.length M (bk L) (ek L) (hk L) w B
def nD(t:List Nat):List D:=t.map λk:Nat=>cE (k:Int)
theorem Jp{w:Nat}(h:Sok L M w B S):∀(m:Nat)(x:Int)(t:List Nat)(O:Option U),(x-B).toNat<=m->(gC S x).isSome=true->t.length+m<=1000->(∀cs,Pt L M w B cs x->Pt L M w B (cs++t) (bk L w)) ->
 ∃n t' J,iJ ((aQ (dUn lD (dOp rD (ak 0) (ak 3))))) ((bD (bL 4 (dOp gIx (dOp rD (ak 0) (ak 3)) (dC (.int 1)))) (bD (sIf (aQ (dUn lD (ak 4))) (Ab 2 (dC (.int 0)) (ak 4)) (bV)) (bL 3 (dOp gIx (dOp rD (ak 0) (ak 3)) (dC (.int 0))))))) n [some (.d (dtv S)),some (.d (.int (bk L w))),some (.d (.list (nD t))),some (.d (.int x)),O] =
  some (.nx [some (.d (dtv S)),some (.d (.int (bk L w))),some (.d (.list (nD t'))),some (.d (.int B)),J])/\Pt L M w B t' (bk L w):=by
 intro m
 induction m with
 |zero=>
  intro x t O hm V _ X;obtain⟨d,W⟩:=cR.mp V;rcases h.c x d W with⟨rfl,rfl⟩|⟨y,p,_,I,K,_⟩
  .have g:=Kq (k:=x) h.a;rw[W]at g;have Y:isNone .none=true:=rfl;refine⟨1,t,O,?_,X [] .start⟩;rw[iJ];simp![g,Y];rfl
  .lia
 |succ m Q=>
  intro x t O hm V hl X;obtain⟨d,W⟩:=cR.mp V;have g:=Kq (k:=x) h.a;rw[W]at g;rcases h.c x d W with⟨rfl,rfl⟩|⟨y,p,rfl,I,K,N,R,Z⟩
  .have Y:isNone .none=true:=rfl;refine⟨1,t,O,?_,X [] .start⟩;rw[iJ];simp![g,Y];rfl
  .cases p with
   |none=>
    obtain⟨n,t',J,e1,e2⟩:=Q y t (some (.d .none)) (by lia) R (by lia) (λcs P=>X cs (by
     have:=Rch.Pth.gap P (by rw[<-QZ];exact Z.1) N;rwa[<-Z.2]at this))
    refine⟨n+1,t',J,?_,e2⟩;have nt:isNone (.tuple [.int y,hD none])=false:=rfl;have Y:isNone (hD none)=true:=rfl;rw[iJ];simp![g,nt,Y,at1,aG];exact e1
   |some k=>
    obtain⟨n,t',J,e1,e2⟩:=Q y (k::t) (some (.d (.int (k:Int)))) (by lia) R (by rw[bI];lia) (λcs P=>by
     have h1:=Z.2.1;have h2:=Z.2.2;have:=X (cs++[k]) (by
      have:=Rch.Pth.stay (k:=k) (by rwa[h1]) Z.1;rwa[h2]at this)
     rwa[pH]at this)
    refine⟨n+1,t',J,?_,e2⟩;have T:hD (some k) = .int (k:Int):=rfl;have H:Ik 0 (.int (k:Int)) (nD t)=some (nD (k::t)):=by
     unfold Ik;rw[if_pos (by unfold nD;rw[au];lia)];rfl
    rw[iJ];simp![g,T,at1,aG,Ot,CQ,Xi H];exact e1
def Q0{w:Nat}(h:Sok L M w B S)(J:(gC S (bk L w)).isSome=true)(hb:(bk L w-B).toNat<=1000):
 ∃t:List Nat,lX [dtv S,.int (bk L w)]=some (.list (nD t))/\Pt L M w B t (bk L w):=by
 obtain⟨n,t,X,e1,e2⟩:=Jp h (bk L w-B).toNat (bk L w) [] none (bF _) J (by rw[dG];lia) (λcs W=>by rwa[dN]);refine⟨t,?_,e2⟩;have Z:=K5 e1;have fl:flats (nD t)=true:=jM _ (λ_=>rfl) _;have Y:nD []=[]:=rfl;rw[Y]at Z;unfold lX;simp![zl0];rw[Z];simp![fl]
section
variable{L:List Ty}
def wd(ok:TOk L M now){w r:Nat}{f:Nat->Int}(hw:w<L.length)(hn:hk L w=none)(J:r<M)(O:∀s,s<M->(∃k,k<L.length/\hk L k=some s/\f s=ek L k)\/((∀k,k<L.length->hk L k≠some s)/\f s=now)):Rch.Wd L.length M (bk L) (ek L) (hk L) now w r (f r):=
 ⟨λk h=>(ok.ok _ (jr h)).1,λk s h e=>(ok.ok _ (jr h)).2.1 s e,λk h e=>(ok.ok _ (jr h)).2.2 e,λk l s h1 h2 e1 e2=>GZ ok.nd h1 h2 e1 e2,
  λk h e=>by rw[<-QZ];exact DP ok (jr h) e,hw,hn,J,O r J⟩
def s0(L:List Ty)(r w:Nat)(t:List Nat)(k:Nat):Option Nat:=if k∈t++[w]then some r else hk L k
def f0(L:List Ty)(r w:Nat)(f:Nat->Int)(s:Nat):Int:=if s=r then ek L w else f s
def Vi(ok:TOk L M now)(hM:M<=12){w r:Nat}{f:Nat->Int}(hw:w<L.length)(hn:hk L w=none)(hr:r<M)(hf:∀s,s<M->(∃k,k<L.length/\hk L k=some s/\f s=ek L k)\/((∀k,k<L.length->hk L k≠some s)/\f s=now))
 (hB:f r<=bk L w) {t:List Nat} (pt:Pt L M w (f r) t (bk L w)) :
 ∃seat:Nat->Option Nat,tH [.list (L.map yD),.list ((aC L.length).map λk=>hD (s0 L r w t k)),.list ((aC M).map λs:Nat=>cE (f0 L r w f s))]=some (.list ((aC L.length).map λp=>hD (seat p))) /\
  (∀p,p<L.length->∃s,seat p=some s/\s<M)/\(∀p s,s0 L r w t p=some s->seat p=some s)/\(∀p q,p<L.length->q<L.length->p≠q->seat p=seat q->ek L p<=bk L q\/ek L q<=bk L p) /\
  ∀p,seat p=some r->p∈t++[w]\/(hk L p).isSome=true\/ek L w<=bk L p:=by
 have v:=ok.len;have W:=wd ok hw hn hr hf;obtain⟨P,m,Q,D⟩:=Jl (L:=L) (by lia);have C:=Q.nodup_iff.mpr (List.Pairwise.filter _ mX);have B:∀p∈P,p<L.length/\hk L p=none:=λp Z=>by
  obtain⟨h1,h2⟩:=cA.mp (Q.mem_iff.mp Z);refine⟨bR.mp h1,?_⟩
  cases z:hk L p with
  |none=>rfl
  |some s=>
   have z:(tAt L p).2.2=some s:=z;rw[z]at h2
   cases h2
 have lt:=W.lt;have O:∀k,k∈t++[w]->k<L.length:=λk X=>by
  rcases aR.mp X with z|z
  .exact(pt.mem W k z).1.1
  .rwa[aB.mp z]
 obtain⟨δ',e,seat,fs,x,y,I,S,F,R,rfl⟩:=mR (g:=(gNl 5)) (b:=(sIf (aQ (dUn v8 (dOp gIx (ak 3) (ak 5)))) (bD (bL 6 (dCall iw (aj (ak 4) (aj (dOp gIx (dOp gIx (ak 0) (ak 5)) (dC (.int 0))) (aJ))))) (bD (yI 3 (ak 5) (ak 6)) (yI 4 (ak 6) (dOp gIx (dOp gIx (ak 0) (ak 5)) (dC (.int 1)))))) (bV)))
  (λi δ=>∃(seat:Nat->Option Nat)(fs:Nat->Int)(x y:Option U),Rch.GInv now M (bk L) (ek L) (hel L++(t++[w])++(P.take i).filter λk=>!decide (k∈t++[w])) seat fs/\(∀p s,s0 L r w t p=some s->seat p=some s)/\ek L w<=fs r /\
   (∀p,seat p=some r->p∈t++[w]\/(hk L p).isSome=true\/ek L w<=bk L p) /\
   δ=[some (.d (.list (L.map yD))),some (.d (.list ((aC L.length).map λk=>hD (s0 L r w t k)))),some (.d (.list ((aC M).map λs:Nat=>cE (f0 L r w f s)))),some (.d (.list ((aC L.length).map λp=>hD (seat p)))),some (.d (.list ((aC M).map λs:Nat=>cE (fs s)))),x,y]) (P.map λi:Nat=>cE (i:Int))
  [some (.d (.list (L.map yD))),some (.d (.list ((aC L.length).map λk=>hD (s0 L r w t k)))),some (.d (.list ((aC M).map λs:Nat=>cE (f0 L r w f s)))),some (.d (.list ((aC L.length).map λk=>hD (s0 L r w t k)))),some (.d (.list ((aC M).map λs:Nat=>cE (f0 L r w f s)))),none,none]
  ⟨s0 L r w t,f0 L r w f,none,none,by
   rw[List.take_zero,List.filter_nil,dN];exact Rch.ae8 W hB pt hf rfl (λk=>uc) (λk h=>ao1 h),λ_ _ h=>h,by unfold f0;rw[if_pos rfl];exact fL _,λp Z=>by
    unfold s0 at Z;by_cases z:p∈t++[w]
    .exact .inl z
    .rw[if_neg z]at Z;exact .inr (.inl (by rw[Z];rfl)),rfl⟩ (by
   rintro i d δ hd ⟨seat,fs,x,y,I,S,F,R,rfl⟩;rw[bf]at hd
   cases hi:P[i]? with
   |none=>rw[hi]at hd;cases hd
   |some c=>
    rw[hi]at hd
    cases hd;have J:=(dM.mp hi).1;have A:P.take (i+1)=P.take i++[c]:=by rw[pJ,hi];rfl
    have sp:P=P.take i++c::P.drop (i+1):=by
     rw[bA J]at hi
     cases hi;rw[List.getElem_cons_drop,rN]
    obtain⟨V,T⟩:=B c (d8 hi);have E:=ay V;by_cases ct:c∈t++[w]
    .have sc:=S c r (by unfold s0;rw[if_pos ct]);have a1:=GR (λp=>hD (seat p)) V;rw[sc]at a1;have N:isNone (hD (some r))=false:=rfl;refine⟨_,[some (.d (.list (L.map yD))),some (.d (.list ((aC L.length).map λk=>hD (s0 L r w t k)))),some (.d (.list ((aC M).map λs:Nat=>cE (f0 L r w f s)))),some (.d (.list ((aC L.length).map λp=>hD (seat p)))),some (.d (.list ((aC M).map λs:Nat=>cE (fs s)))),some (.d (.int (c:Int))),y],rfl,.inl ?_,seat,fs,_,y,?_,S,F,R,rfl⟩
     .generalize (aC L.length).map (λp=>hD (seat p))=j at *;generalize (aC L.length).map (λk=>hD (s0 L r w t k))=SP at *;generalize (aC M).map (λs:Nat=>cE (fs s))=a at *;generalize (aC M).map (λs:Nat=>cE (f0 L r w f s))=FB at *;simp![a1,N]
     .rw[A,uG,show([c].filter λk=>!decide (k∈t++[w]))=[]by rw[mj (by rw[dTr ct];simp)];rfl,dN];exact I
    .have G:c∉hel L++(t++[w])++(P.take i).filter λk=>!decide (k∈t++[w]):=λz=>by
      rcases aR.mp z with z|z
      .rcases aR.mp z with z|z
       .have:=(uc.mp z).2;rw[T]at this
        cases this
       .exact ct z
      .rw[sp]at C;exact(uX.mp C).2.2 c (cA.mp z).1 c aD rfl
     have H:∀k∈hel L++(t++[w])++(P.take i).filter (λk=>!decide (k∈t++[w])),k<L.length:=λk X=>by
      rcases aR.mp X with z|z
      .rcases aR.mp z with z|z
       .exact(uc.mp z).1
       .exact O k z
      .exact(B k (rT (cA.mp z).1)).1
     have o:∀k∈hel L++(t++[w])++(P.take i).filter (λk=>!decide (k∈t++[w])),k∈t++[w]\/bk L k<=bk L c:=λk X=>by
      rcases aR.mp X with z|z
      .rcases aR.mp z with z|z
       .obtain⟨h1,h2⟩:=uc.mp z;obtain⟨s,K⟩:=cR.mp h2;have q1:=(W.hh k s h1 K).2.1;have q2:=W.hn c V T;exact .inr (by lia)
       .exact .inl z
      .rw[sp]at D;exact .inr ((jU.mp D).2.2 k (cA.mp z).1 c aD)
     obtain⟨Y,r1,r2,r3⟩:=Jm (show M<=1000 by lia) (Rch.room W hB pt I G V T H o
      (λk X=>⟨aU _ (aL _ X),S k r (by unfold s0;rw[if_pos X])⟩)
      (λk k1 k2=>⟨aU _ (aU _ (uc.mpr ⟨k1,by rw[k2];rfl⟩)),S k r (by
       unfold s0;by_cases z:k∈t++[w]
       .rw[if_pos z]
       .rw[if_neg z];exact k2)⟩))
     have sc:seat c=none:=I.out c G;have a1:=GR (λp=>hD (seat p)) V;rw[sc]at a1;have a1:pAt ((aC L.length).map λp=>hD (seat p)) (c:Int)=some .none:=a1;have N:isNone .none=true:=rfl;have p1:=Qx (l:=(aC L.length).map λp=>hD (seat p)) (by rw[au,bQ]) V;have p2:=Qx (l:=(aC M).map λs:Nat=>cE (fs s)) (by rw[au,bQ]) r1;have s1:=GX (n:=L.length) (c:=c) (d:=.int (Y:Int)) (λp=>hD (seat p));have s2:=GX (n:=M) (c:=Y) (d:=.int (ek L c)) (λs:Nat=>cE (fs s));refine⟨_,[some (.d (.list (L.map yD))),some (.d (.list ((aC L.length).map λk=>hD (s0 L r w t k)))),some (.d (.list ((aC M).map λs:Nat=>cE (f0 L r w f s)))),some (.d (.list (((aC L.length).map λp=>hD (seat p)).set c (.int (Y:Int))))),some (.d (.list (((aC M).map λs:Nat=>cE (fs s)).set Y (.int (ek L c))))),some (.d (.int (c:Int))),some (.d (.int (Y:Int)))],rfl,.inl ?_,?_⟩
     .generalize (aC L.length).map (λp=>hD (seat p))=j at *;generalize (aC L.length).map (λk=>hD (s0 L r w t k))=SP at *;generalize (aC M).map (λs:Nat=>cE (fs s))=a at *;generalize (aC M).map (λs:Nat=>cE (f0 L r w f s))=FB at *;simp![a1,N,E,at1,r3,p1,p2,aG]
     .refine⟨λp=>if p=c then some Y else seat p,λx=>if x=Y then ek L c else fs x,some (.d (.int (c:Int))),some (.d (.int (Y:Int))),?_,λp s Z=>?_,?_,λp Z=>?_,?_⟩
      .rw[A,uG,show([c].filter λk=>!decide (k∈t++[w]))=[c]by rw[lZ (by rw[dFa ct];rfl)];rfl,<-pH];exact I.step G r1 r2 (lt c V)
      .have:p≠c:=λz=>by
        unfold s0 at Z;rw[z,if_neg ct,T]at Z
        cases Z
       show(if p=c then some Y else seat p)=_;rw[if_neg this];exact S p s Z
      .show ek L w<=if r=Y then ek L c else fs r
       by_cases z:r=Y
       .rw[if_pos z];have:=lt c V;rw[<-z]at r2;lia
       .rw[if_neg z];exact F
      .have Z:(if p=c then some Y else seat p)=some r:=Z;by_cases z:p=c
       .rw[if_pos z]at Z;injection Z with Z
        rw[Z]at r2;rw[z];exact .inr (.inr (by lia))
       .rw[if_neg z]at Z;exact R p Z
      .rw[s1,s2];have q1:(λp=>if p=c then cE (Y:Int)else hD (seat p))=λp=>hD (if p=c then some Y else seat p):=by
        funext p
        by_cases z:p=c
        .rw[if_pos z,if_pos z];rfl
        .rw[if_neg z,if_neg z]
       have q2:(λx:Nat=>if x=Y then cE (ek L c)else cE (fs x))=λx=>cE (if x=Y then ek L c else fs x):=by
        funext x
        by_cases z:x=Y
        .rw[if_pos z,if_pos z]
        .rw[if_neg z,if_neg z]
       rw[q1,q2])
 rw[au,qd]at I;have all:∀p,p<L.length->p∈hel L++(t++[w])++P.filter λk=>!decide (k∈t++[w]):=λp Z=>by
  by_cases ct:p∈t++[w]
  .exact aU _ (aL _ ct)
  .cases z:hk L p with
   |some s=>exact aU _ (aU _ (uc.mpr ⟨Z,by rw[z];rfl⟩))
   |none=>
    refine aL _ (cA.mpr ⟨Q.mem_iff.mpr (cA.mpr ⟨bR.mpr Z,?_⟩),by rw[dFa ct];rfl⟩);have z:(tAt L p).2.2=none:=z;rw[z];rfl
 refine⟨seat,?_,λp Z=>?_,S,λp q Z u ne K=>I.dj p (all p Z) q (all q u) ne K,R⟩
 .have fl:flats ((aC L.length).map λp=>hD (seat p))=true:=jM _ (λp=>by cases seat p<;>rfl) _;unfold tH;simp![m];rw[e];simp![fl]
 .obtain⟨s,h1,h2,_⟩:=I.inn p (all p Z);exact⟨s,h1,h2⟩
end
section
variable{L:List Ty}
structure Pn(L:List Ty)(M:Nat)(rr:Nat->Nat):Prop where
 lt:∀k,k<L.length->rr k<M
 held:∀k r,k<L.length->hk L k=some r->rr k=r
 dj:∀p q,p<L.length->q<L.length->p≠q->rr p=rr q->ek L p<=bk L q\/ek L q<=bk L p
def Pn.pk{rr:Nat->Nat}(P:Pn L M rr):∀i,i<L.length->Pk L M (plD L.length λk=>(rr k:Int)) i:=λi hi=>by
 have g:∀k,k<L.length->(plD L.length λk=>(rr k:Int))[k]? = some (.int (rr k:Int)):=λk X=>by
  unfold plD;rw[bf,cJ X];rfl
 have:=P.lt i hi;refine⟨(rr i:Int),g i hi,by lia,by lia,λr W=>by rw[P.held i r hi W],λk X z=>?_⟩;have Y:k<L.length:=by lia
 obtain⟨Z,U,V⟩:=z;rw[g k Y,g i hi]at Z;have Z:(rr k:Int)=(rr i:Int):=by
  injection Z with Z
  injection Z
 rcases P.dj k i Y hi (by lia) (by lia)with w|w<;>lia
def af2(g:FG)(c:FT)(e:FE)(O:g=gNl 0)(Z:c=D3.jV)(Y:e=dW (dOp gIx (ak 0) (dC (.int 2))))(J:DS):fM g c e (jR 1 [] J) (L.map yD)=some ((aC L.length).map λk=>hD (hk L k)):=by
 rw[rE,O,Z,Y];exact xH (λk=>yD (tAt L k)) (λk=>hD (hk L k)) (aC L.length) λk _=>⟨[some (.d (yD (tAt L k)))],rfl,rfl,by
  have fl:flat (hD (tAt L k).2.2)=true:=by cases(tAt L k).2.2<;>rfl
  unfold yD hk;simp![at2,fl]⟩
def DX(ok:TOk L M now)(hM:M<=12){w r:Nat}{f:Nat->Int}(O:cQ [.list (L.map yD),.int (M:Int),.int now]=some (.list ((aC M).map λr:Nat=>cE (f r))))(hw:w<L.length)(hn:hk L w=none)(J:r<M)(hf:∀s,s<M->(∃k,k<L.length/\hk L k=some s/\f s=ek L k)\/((∀k,k<L.length->hk L k≠some s)/\f s=now))
 (hB:f r<=bk L w) {t:List Nat} (pt:Pt L M w (f r) t (bk L w)) (tl:t.length<=24) :
 ∃rr:Nat->Nat,jZ [.list (L.map yD),.int (M:Int),.int now,.int (w:Int),.int (r:Int),.list (nD t)]=some (.list (plD L.length λk=>(rr k:Int)))/\Pn L M rr/\rr w=r/\∀k,k<L.length->hk L k=none->bk L k<bk L w->(rr k=r<->k∈t):=by
 have H:=ok.len;have W:=wd ok hw hn J hf;obtain⟨seat,es,q1,q2,q3,q4⟩:=Vi ok hM hw hn J hf hB pt;have sl:(aC L.length).map (λp=>hD (seat p))=plD L.length λp=>(((seat p).getD 0:Nat):Int):=ae4 λp V=>by
  obtain⟨s,Z,_⟩:=q1 p V;show hD (seat p)=cE (((seat p).getD 0:Nat):Int);rw[Z];rfl
 rw[sl]at es;have Q:∀k,k∈t++[w]->k<L.length:=λk Y=>by
  rcases aR.mp Y with z|z
  .exact(pt.mem W k z).1.1
  .rwa[aB.mp z]
 have N:=λk Y=>q2 k r (by unfold s0;rw[if_pos Y])
 have R:∀k,hk L k≠none->k∉t++[w]:=λk h1 h2=>by
  rcases aR.mp h2 with z|z
  .exact h1 (pt.mem W k z).1.2.2.1
  .rw[aB.mp z]at h1;exact h1 hn
 refine⟨λp=>(seat p).getD 0,?_,⟨λk Y=>?_,λk s Y Z=>?_,λp q V K ne e=>q3 p q V K ne ?_⟩,?_,λk k1 k2 k3=>?_⟩
 .have C:=λT=>af2 (L:=L) ((gNl 0)) ((D3.jV)) ((dW (dOp gIx (ak 0) (dC (.int 2))))) rfl rfl rfl T
  have len:(L.map yD).length<=100000:=by rw[au];lia
  have cat:mF (.list (nD t)) (.list [.int (w:Int)])=some (.list (nD (t++[w]))):=by
   rw[tu,if_pos (by unfold nD;rw[au];show t.length+1<=_;lia)];unfold nD;rw[fX];rfl
  have v:=ay hw;obtain⟨δ',e,S,rfl⟩:=mR (g:=(gNl 7)) (b:=(yI 6 (ak 7) (ak 4)))
   (λi δ=>∃S:Option U,δ=[some (.d (.list (L.map yD))),some (.d (.int (M:Int))),some (.d (.int now)),some (.d (.int (w:Int))),some (.d (.int (r:Int))),some (.d (.list (nD t))),some (.d (.list ((aC L.length).map λk=>hD (if k∈(t++[w]).take i then some r else hk L k)))),S,none]) (nD (t++[w]))
   [some (.d (.list (L.map yD))),some (.d (.int (M:Int))),some (.d (.int now)),some (.d (.int (w:Int))),some (.d (.int (r:Int))),some (.d (.list (nD t))),some (.d (.list ((aC L.length).map λk=>hD (hk L k)))),none,none] ⟨none,by rw[List.take_zero];simp only[gq,if_false]⟩ (by
    rintro i d δ hd ⟨S,rfl⟩;unfold nD at hd;rw[bf]at hd
    cases hi:(t++[w])[i]? with
    |none=>rw[hi]at hd;cases hd
    |some c=>
     rw[hi]at hd
     cases hd;have A:(t++[w]).take (i+1)=(t++[w]).take i++[c]:=by rw[pJ,hi];rfl
     have G:=Q c (d8 hi);have p1:=Qx (l:=(aC L.length).map λk=>hD (if k∈(t++[w]).take i then some r else hk L k)) (by rw[au,bQ]) G;have s1:=GX (n:=L.length) (c:=c) (d:=.int (r:Int)) (λk=>hD (if k∈(t++[w]).take i then some r else hk L k));refine⟨_,[some (.d (.list (L.map yD))),some (.d (.int (M:Int))),some (.d (.int now)),some (.d (.int (w:Int))),some (.d (.int (r:Int))),some (.d (.list (nD t))),some (.d (.list (((aC L.length).map λk=>hD (if k∈(t++[w]).take i then some r else hk L k)).set c (.int (r:Int))))),some (.d (.int (c:Int))),none],rfl,.inl ?_,some (.d (.int (c:Int))),?_⟩
     .generalize (aC L.length).map (λk=>hD (if k∈(t++[w]).take i then some r else hk L k))=u at *;simp![p1,aG]
     .rw[s1,A];have:(λp=>if p=c then cE (r:Int)else hD (if p∈(t++[w]).take i then some r else hk L p))=λk=>hD (if k∈(t++[w]).take i++[c]then some r else hk L k):=by
       funext k
       by_cases z:k=c
       .rw[if_pos z,if_pos (aL _ (by rw[z];exact aB.mpr rfl))];rfl
       .rw[if_neg z];by_cases y:k∈(t++[w]).take i
        .rw[if_pos y,if_pos (aU _ y)]
        .rw[if_neg y,if_neg (λx=>by
          rcases aR.mp x with x|x
          .exact y x
          .exact z (aB.mp x))]
      rw[this])
  have I:(nD (t++[w])).length=(t++[w]).length:=au _;rw[I,qd]at e;have p2:=Qx (l:=(aC M).map λs:Nat=>cE (f s)) (by rw[au,bQ]) J;have s2:=GX (n:=M) (c:=r) (d:=.int (ek L w)) (λs:Nat=>cE (f s));have e2:((aC M).map λs:Nat=>cE (f s)).set r (.int (ek L w))=(aC M).map λs:Nat=>cE (f0 L r w f s):=by
   rw[s2];congr 1
   funext s
   unfold f0;by_cases z:s=r
   .rw[if_pos z,if_pos z]
   .rw[if_neg z,if_neg z]
  have fl:flats ((aC M).map λs:Nat=>cE (f s))=true:=jM _ (λ_=>rfl) _;have O:Com.cQ _=_:=O;unfold s0 at es;unfold jZ;generalize F:(aC L.length).map (λk=>hD (if k∈t++[w]then some r else hk L k))=u at *;generalize E:(aC L.length).map (λk=>hD (hk L k))=SP at *;generalize B:(aC M).map (λs:Nat=>cE (f0 L r w f s))=FB at *;generalize D:(aC M).map (λs:Nat=>cE (f s))=o at *;simp![len,C,zl1,cat];rw[e];simp![O,fl,v,at1,p2,aG,e2,es]
 .obtain⟨s,Z,P⟩:=q1 k Y;show(seat k).getD 0<M;rw[Z];exact P
 .show(seat k).getD 0=s;rw[q2 k s (by unfold s0;rw[if_neg (R k (by rw[Z];exact λz=>nomatch z))];exact Z)];rfl
 .obtain⟨s,Z,_⟩:=q1 p V;obtain⟨s',X,_⟩:=q1 q K;have e:(seat p).getD 0=(seat q).getD 0:=e;rw[Z,X]at e;rw[Z,X,show s=s' from e]
 .show(seat w).getD 0=r;rw[N w (aL _ (aB.mpr rfl))];rfl
 .obtain⟨s,Z,_⟩:=q1 k k1;show(seat k).getD 0=r<->k∈t;rw[Z]
  constructor
  .intro z;have z:s=r:=z;rw[z]at Z;rcases q4 k Z with y|y|y
   .rcases aR.mp y with x|x
    .exact x
    .rw[aB.mp x]at k3;lia
   .rw[k2]at y;cases y
   .have:=W.lt w hw;lia
  .intro z;have:=N k (aU _ z);rw[Z]at this;injection this
def Vj(ok:TOk L M now)(hM:M<=12){w r:Nat}{f:Nat->Int}(hw:w<L.length)(hn:hk L w=none)(J:r<M)
 (O:cQ [.list (L.map yD),.int (M:Int),.int now]=some (.list ((aC M).map λs:Nat=>cE (f s)))) (hf:∀s,s<M->(∃k,k<L.length/\hk L k=some s/\f s=ek L k)\/((∀k,k<L.length->hk L k≠some s)/\f s=now))
 (hB:f r<=bk L w) (fB:0<=f r) {S:List (Int×D)} (eS:eG [.list (L.map yD),.int (M:Int),.int (w:Int),.int (f r)]=some (dtv S)) (so:Sok L M w (f r) S) (kg:(gC S (bk L w)).isSome=true) :
 ∃(t:List Nat)(rr:Nat->Nat),iD [.list (L.map yD),.int (M:Int),.int now,.int (w:Int),.int (r:Int)]=some (.tuple [.str "yes", .list (nD t),.list (plD L.length λk=>(rr k:Int))])/\Pn L M rr/\rr w=r /\
  (∀k,k<L.length->hk L k=none->bk L k<bk L w->(rr k=r<->k∈t))/\t.Pairwise (λa b=>bk L a<bk L b)/\(∀k∈t,k<L.length/\hk L k=none/\bk L k<bk L w)/\t.length<L.length:=by
 have T:=ok.len;have W:=wd ok hw hn J hf;have V:bk L w<=400:=by
  have h1:=(ok.bd _ (jr hw)).2;have h2:=W.lt w hw;have h1:ek L w<=400:=h1;lia
 obtain⟨t,Q,pt⟩:=Q0 so kg (by lia);have mt:∀k∈t,k<L.length/\hk L k=none/\bk L k<bk L w:=λk Z=>by
  obtain⟨g,_,g2⟩:=pt.mem W k Z;have:=W.lt k g.1;exact⟨g.1,g.2.2.1,by lia⟩
 have pw:t.Pairwise λa b=>bk L a<bk L b:=eB (λ{a b} ha R q=>by
  have:=W.lt a (mt a ha).1;lia) (pt.pw W)
 have nd:=cI.mpr ⟨λz=>(pt.mem W w z).1.2.1 rfl,pw.imp λ{a b} q z=>by rw[z]at q;lia⟩;have tl:=dP (l₂:=aC L.length) nd λk Z=>by
  rcases aK.mp Z with rfl|z
  .exact bR.mpr hw
  .exact bR.mpr (mt k z).1
 rw[bI,bQ]at tl;obtain⟨rr,N,P,Y,rt⟩:=DX ok hM O hw hn J hf hB pt (by lia);refine⟨t,rr,?_,P,Y,rt,pw,mt,by lia⟩;have I:=DQ ok hw hn;have K:=xZ J;have H:=ay hw;have ab:=GR (n:=M) (c:=r) (λs:Nat=>cE (f s)) J;have U:decide (f r>bk L w)=false:=dFa (by lia);have X:=Cg (k:=bk L w) so.a;rw[kg]at X;have fl:flats (nD t)=true:=jM _ (λ_=>rfl) _;have O:=O;unfold iD;simp![I,K,O,ab,H,U,eS,X,Q,fl,N,zl3]
def Q5:ly 1 (.str "yes"):=⟨by decide +kernel,by simp[c_]⟩
end
section
variable{L:List Ty}
def ks(S:List (Int×D)):List Int:=nW (S.map (·.1))
def Sok.rg{w:Nat}(h:Sok L M w B S)(hB:B<=bk L w){x:Int}(J:(gC S x).isSome=true):B<=x/\x<=bk L w:=by
 obtain⟨d,Y⟩:=cR.mp J;rcases h.c x d Y with⟨rfl,_⟩|⟨y,p,_,V,W,X,_,Z⟩
 .exact⟨fL _,hB⟩
 .refine⟨by lia,?_⟩
  cases p with
  |none=>
   have:x=y+1:=Z.2;lia
  |some k=>
   have h1:ek L k=x:=Z.2.2;have h2:ek L k<=bk L w:=Z.1.2.2.2;lia
def Sok.len{w:Nat}(h:Sok L M w B S)(hB:B<=bk L w)(J:bk L w<=B+59):S.length<=60:=by
 have:=dP (l₂:=(aC 60).map λk:Nat=>B+(k:Int)) h.nd λx Z=>by
  obtain⟨h1,h2⟩:=h.rg hB (Kr.mpr Z);exact cF.mpr ⟨(x-B).toNat,bR.mpr (by lia),by lia⟩
 rwa[au,au,bQ]at this
def Q6(J:tvA S=true)(h:S.length<64):tZ [dtv S]=some (.list ((ks S).map .int)):=by
 unfold tZ;dsimp only;rw[tY J,aG,if_pos h];rfl
def af3:ly 1 (.str "no"):=⟨by decide +kernel,by simp[c_]⟩
def Vk(ok:TOk L M now){w r:Nat}{f:Nat->Int}(hw:w<L.length)(hn:hk L w=none)(O:r<M)
 (J:cQ [.list (L.map yD),.int (M:Int),.int now]=some (.list ((aC M).map λs:Nat=>cE (f s)))) (hB:bk L w<f r) :
 iD [.list (L.map yD),.int (M:Int),.int now,.int (w:Int),.int (r:Int)]=some (.tuple [.str "no", .list []]):=by
 have X:=DQ ok hw hn;have Y:=xZ O;have W:=ay hw;have ab:=GR (n:=M) (c:=r) (λs:Nat=>cE (f s)) O;have Z:=dTr hB;have J:=J;unfold iD;simp![X,Y,J,ab,W,Z,zl0,zl2]
def Vl(ok:TOk L M now){w r:Nat}{f:Nat->Int}(hw:w<L.length)(hn:hk L w=none)(O:r<M)
 (J:cQ [.list (L.map yD),.int (M:Int),.int now]=some (.list ((aC M).map λs:Nat=>cE (f s)))) (hB:f r<=bk L w)
 {S:List (Int×D)} (eS:eG [.list (L.map yD),.int (M:Int),.int (w:Int),.int (f r)]=some (dtv S)) (Y:tvA S=true) (hl:S.length<64) (kg:(gC S (bk L w)).isSome=false) :
 iD [.list (L.map yD),.int (M:Int),.int now,.int (w:Int),.int (r:Int)]=some (.tuple [.str "no", .list ((ks S).map .int)]):=by
 have V:=DQ ok hw hn;have W:=xZ O;have U:=ay hw;have ab:=GR (n:=M) (c:=r) (λs:Nat=>cE (f s)) O;have X:decide (f r>bk L w)=false:=dFa (by lia);have J:=J;have Z:=Cg (k:=bk L w) Y;rw[kg]at Z;have ts:=Q6 Y hl;unfold iD;simp![V,W,J,ab,U,X,eS,Z,ts,zl2]
end
section
variable{L:List Ty}
def inI(cs:List Int)(x:Int):gIn (.int x) (.list (cs.map .int))=some (.bool (decide (x∈cs))):=by
 show(if(cK (.int x)&&cK (.list (cs.map .int)))=true then some (di ((cs.map cE).any λz=>da z (.int x)))else none)=_;rw[shaped_ints cs,if_pos (by rfl),List.any_map];congr 2;rw[Bool.eq_iff_iff,List.any_eq_true,decide_eq_true_eq]
 constructor
 .rintro⟨y,h1,h2⟩;have h2:=h2;have:y=x:=by simpa[da]using h2
  rwa[<-this]
 .intro h;exact⟨x,h,by show da (.int x) (.int x)=true;simp[da]⟩
def Q7(cs:List Int)(x:Int):sS (.int x) (.list (cs.map .int))=some (.bool (!decide (x∈cs))):=by
 have:=inI cs x;unfold gIn at this;unfold sS;dsimp only at this ⊢;split at this
 .next c=>
  rw[if_pos c];injection this with this
  injection this with this
  rw[this]
 .cases this
def Vm(Q:List Int)(h:Q.length<=100000):iR [.list (Q.map .int)]=some (.bool true):=by
 have C:∀Z,fM (gNl 0) (D3.jV) (dCall fH (aj (ak 0) (aJ))) (jR 1 [] Z) (Q.map .int)=some (Q.map λ_=>di true):=λZ=>
  xH (λk:Int=>cE k) (λ_=>di true) Q λk _=>⟨[some (.d (.int k))],rfl,rfl,by
   have:=wh (.int k);simp![this];rfl⟩
 have X:Fj [.list (Q.map λ_=>di true)]=some (.bool true):=by
  have:=allB (λ_:Int=>true) Q;rw[this,ju.mpr λ_ _=>rfl]
 have l1:(Q.map cE).length<=100000:=by rwa[au]
 have i2:D3.isT "list" (tyD (.list (Q.map cE)))=true:=rfl;have Y:gO [.list (Q.map .int)]=some (.bool true):=by
  unfold gO;simp![l1,Xe,Xf,C,X]
 unfold iR;simp![i2,Y]
def mnQ:List Int->Int
 |[]=>0
 |x::r=>mnI x r
def mxQ:List Int->Int
 |[]=>0
 |x::r=>mxI x r
theorem af4{l:List Int}(h:l≠[]):Fi [.list (l.map .int)]=some (.int (mnQ l)):=by
 cases l with
 |nil=>exact absurd rfl h
 |cons x r=>
  show(match jQ ((x::r).map .int)with|some (i::r)=>some (cE (mnI i r))|_=>none)=_;rw[m6];rfl
theorem af5{l:List Int}(h:l≠[]):Fg [.list (l.map .int)]=some (.int (mxQ l)):=by
 cases l with
 |nil=>exact absurd rfl h
 |cons x r=>
  show(match jQ ((x::r).map .int)with|some (i::r)=>some (cE (mxI i r))|_=>none)=_;rw[m6];rfl
theorem G6:∀(l m:List Int),uI (l.map .int) (m.map .int)=(l.zip m).map λp=>cP [.int p.1,.int p.2]
 |[],_=>rfl
 |_::_,[]=>rfl
 |a::l,b::m=>by
  show cP [.int a,.int b]::uI (l.map .int) (m.map .int)=_;rw[G6 l m];rfl
def ao2(Q:List Int):Bool:=(Q.zip (Q.drop 1)).all λp=>decide (p.1<p.2)
def YL(Q:List Int)(h:Q.length<=1000):jd [.list (Q.map .int)]=some (.bool (ao2 Q)):=by
 have ct:cuD (Q.map .int) (some 1) none=(Q.drop 1).map .int:=by rw[V9 (by decide),List.map_drop];rfl
 have C:∀Z,fM (gTn 2 (fQ (gNl 0) (fQ (gNl 1) (n8)))) (D3.jV) (dOp gLt (ak 0) (ak 1)) (jR 2 [] Z) ((Q.zip (Q.drop 1)).map λp=>cP [.int p.1,.int p.2])=some ((Q.zip (Q.drop 1)).map λp=>di (decide (p.1<p.2))):=λZ=>
  xH (λp:Int×Int=>cP [.int p.1,.int p.2]) (λp=>di (decide (p.1<p.2))) _ λp _=>⟨[some (.d (.int p.1)),some (.d (.int p.2))],rfl,rfl,by simp![]⟩
 have Y:=allB (λp:Int×Int=>decide (p.1<p.2)) (Q.zip (Q.drop 1));have l1:((Q.zip (Q.drop 1)).map λp=>cP [.int p.1,.int p.2]).length<=100000:=by
  rw[au,List.length_zip];lia
 show Com.jd _=_;unfold Com.jd;simp![ct,G6,l1,C,Y];rfl
def Ms{w:Nat}{Q:List Int}(hl:L.length<=24)(hw:w<L.length):∃b,gM [.list (L.map yD),.int (M:Int),.int (w:Int),.list (Q.map .int)]=some (.bool b)/\(b=true<->∀x∈Q,∀s∈stp L M w x,s.1∈Q):=by
 have F:=Km (v:=.bool false) (g:=(gNl 4)) (b:=(pC (nU (dCall fj (aj (ak 0) (aj (ak 1) (aj (ak 2) (aj (ak 4) (aJ))))))) (gNl 5) (sIf (aQ (dOp sS (dOp gIx (ak 5) (dC (.int 0))) (ak 3))) (b_ (dC (.bool false))) (bV))))
  (λ_ δ=>∃x y,δ=[some (.d (.list (L.map yD))),some (.d (.int (M:Int))),some (.d (.int (w:Int))),some (.d (.list (Q.map .int))),x,y]) (λi=>∀x,Q[i]? = some x->∀s∈stp L M w x,s.1∈Q) (Q.map .int)
  [some (.d (.list (L.map yD))),some (.d (.int (M:Int))),some (.d (.int (w:Int))),some (.d (.list (Q.map .int))),none,none] ⟨none,none,rfl⟩ (by
   rintro i d δ hd _ ⟨P,y,rfl⟩;rw[bf]at hd
   cases Y:Q[i]? with
   |none=>rw[Y]at hd;cases hd
   |some x=>
    rw[Y]at hd
    cases hd;have T:=QW (M:=M) (x:=x) hl hw;refine⟨[some (.d (.list (L.map yD))),some (.d (.int (M:Int))),some (.d (.int (w:Int))),some (.d (.list (Q.map .int))),some (.d (.int x)),y],rfl,?_⟩;have I:=Km (v:=.bool false) (g:=(gNl 5)) (b:=(sIf (aQ (dOp sS (dOp gIx (ak 5) (dC (.int 0))) (ak 3))) (b_ (dC (.bool false))) (bV)))
     (λ_ δ=>∃y,δ=[some (.d (.list (L.map yD))),some (.d (.int (M:Int))),some (.d (.int (w:Int))),some (.d (.list (Q.map .int))),some (.d (.int x)),y]) (λj=>∀s,(stp L M w x)[j]? = some s->s.1∈Q) ((stp L M w x).map pqD)
     [some (.d (.list (L.map yD))),some (.d (.int (M:Int))),some (.d (.int (w:Int))),some (.d (.list (Q.map .int))),some (.d (.int x)),y] ⟨y,rfl⟩ (by
      rintro j d δ hd _ ⟨y,rfl⟩;rw[bf]at hd
      cases Z:(stp L M w x)[j]? with
      |none=>rw[Z]at hd;cases hd
      |some s=>
       rw[Z]at hd
       cases hd;have S:gIx (pqD s) (.int 0)=some (.int s.1):=rfl;have W:=Q7 Q s.1;refine⟨[some (.d (.list (L.map yD))),some (.d (.int (M:Int))),some (.d (.int (w:Int))),some (.d (.list (Q.map .int))),some (.d (.int x)),some (.d (pqD s))],rfl,?_⟩;by_cases c:s.1∈Q
       .rw[dTr c]at W;refine .inl ⟨λs' e=>by cases e;exact c,[some (.d (.list (L.map yD))),some (.d (.int (M:Int))),some (.d (.int (w:Int))),some (.d (.list (Q.map .int))),some (.d (.int x)),some (.d (pqD s))],?_,_,rfl⟩;simp![S,W]
       .rw[dFa c]at W;refine .inr ⟨λz=>c (z s rfl),?_⟩;simp![S,W])
    rw[au]at I;rcases I with⟨δ',e,⟨R,rfl⟩,U⟩|⟨e,j,j1,j2⟩
    .refine .inl ⟨λP O s Z=>?_,[some (.d (.list (L.map yD))),some (.d (.int (M:Int))),some (.d (.int (w:Int))),some (.d (.list (Q.map .int))),some (.d (.int x)),R],?_,_,_,rfl⟩
     .cases O;obtain⟨j,X,V⟩:=jm Z;exact U j X s (by rw[bA X,V])
     .simp![T];exact e
    .refine .inr ⟨λz=>j2 λs Z=>z x rfl s (d8 Z),?_⟩;simp![T];exact e)
 rw[au]at F;rcases F with⟨δ',e,⟨x,y,rfl⟩,U⟩|⟨e,j,j1,j2⟩
 .refine⟨true,?_,⟨λ_ x Y s Z=>?_,λ_=>rfl⟩⟩
  .show Com.gM _=_;unfold Com.gM;simp![];rw[e];simp![]
  .obtain⟨j,X,V⟩:=jm Y;exact U j X x (by rw[bA X,V]) s Z
 .refine⟨false,?_,⟨λz=>(by cases z),λz=>absurd (λx Y s Z=>z x (d8 Y) s Z) j2⟩⟩;show Com.gM _=_;unfold Com.gM;simp![];rw[e];simp![]
def zP{l:List Int}{p:Int->Bool}{x:Int}(J:l.Pairwise (· <= ·))(h:l.find? p=some x):p x=true/\x∈l/\∀y∈l,p y=true->x<=y:=by
 obtain⟨X,as,bs,rfl,ha⟩:=List.find?_eq_some_iff_append.mp h;refine⟨X,aL _ aD,λy Y Z=>?_⟩;rcases aR.mp Y with q|q
 .have:=ha y q;rw[Z]at this
  cases this
 .obtain⟨_,h2,_⟩:=jU.mp J;rcases aK.mp q with rfl|q
  .exact fL _
  .exact(gj.mp h2).1 y q
def SS(L:List Ty)(now:Int):List Int:=now::(L.map λs=>if s.1>now then s.1 else now)
def af6(hl:L.length<=62):cT [.list (L.map yD),.int (M:Int),.int now]=some (outI ((nW (SS L now)).find? (pM L M))):=by
 have C:fM (gNl 0) (D3.jV) (dCall sE (aj (ak 1) (aj (dOp gIx (ak 0) (dC (.int 0))) (aJ)))) (jR 1 [2] [some (.d (.list (L.map yD))),some (.d (.int (M:Int))),some (.d (.int now)),none]) (L.map yD)=some ((L.map λs=>if s.1>now then s.1 else now).map cE):=by
  rw[eZ];exact xH yD _ L λs _=>⟨[some (.d (yD s)),some (.d (.int now))],rfl,rfl,by unfold yD;simp![at0,Qk];rfl⟩
 have len:(L.map yD).length<=100000:=by rw[au];lia
 have X:∀x:Int,fM (gNl 0) (D3.rW (aQ (dOp gLe (dOp gIx (ak 0) (dC (.int 0))) (ak 1))) (aQ (dOp gLt (ak 1) (dOp gIx (ak 0) (dC (.int 1)))))) (dW (ak 0)) (jR 1 [3] [some (.d (.list (L.map yD))),some (.d (.int (M:Int))),some (.d (.int now)),some (.d (.int x))]) (L.map yD)=some ((L.filter (hol x)).map yD):=λx=>
  Mj yD (hol x) yD L λs _=>⟨[some (.d (yD s)),some (.d (.int x))],rfl,by
   obtain⟨a,b,c⟩:=s;unfold yD hol;simp![at0,at1]
   cases decide (a<=x)<;>simp only[zH,zJ,jL,jt]<;>simp![at0,at1],λ_=>by simp![Dz]⟩
 have gs:um [.list ((SS L now).map cE)]=some (.list ((nW (SS L now)).map .int)):=by
  unfold um;have:(SS L now).length<64:=by show(L.map _).length+1<64;rw[au];lia
  simp only[m6,aG,if_pos this]
 have cat:mF (.list [.int now]) (.list ((L.map λs=>if s.1>now then s.1 else now).map cE))=some (.list ((SS L now).map cE)):=by
  rw[tu,if_pos (by rw[au,au];show 1+L.length<=_;lia)];rfl
 rcases zN (g:=(gNl 3)) (b:=(sIf (aQ (dOp gGt (dCall jk (aj (jP (nU (ak 0)) (gNl 0) (D3.rW (aQ (dOp gLe (dOp gIx (ak 0) (dC (.int 0))) (ak 1))) (aQ (dOp gLt (ak 1) (dOp gIx (ak 0) (dC (.int 1)))))) (dW (ak 0)) 1 [3]) (aJ))) (ak 1))) (b_ (dW (ak 3))) (bV))) (λδ=>∃u,δ=[some (.d (.list (L.map yD))),some (.d (.int (M:Int))),some (.d (.int now)),u]) (pM L M) (nW (SS L now))
  [some (.d (.list (L.map yD))),some (.d (.int (M:Int))),some (.d (.int now)),none] ⟨none,rfl⟩ (by
   rintro x W δ ⟨u,rfl⟩;refine⟨[some (.d (.list (L.map yD))),some (.d (.int (M:Int))),some (.d (.int now)),some (.d (.int x))],rfl,?_⟩;have Y:=X x;have Z:((L.filter (hol x)).map yD).length=jJ L x:=by rw[au];rfl
   cases z:pM L M x with
   |true=>
    have z:decide ((M:Int)<(jJ L x:Int))=true:=z;refine .inl ⟨rfl,?_⟩;simp![len,Y,Z,z,fli]
   |false=>
    have z:decide ((M:Int)<(jJ L x:Int))=false:=z;refine .inr ⟨rfl,[some (.d (.list (L.map yD))),some (.d (.int (M:Int))),some (.d (.int now)),some (.d (.int x))],?_,_,rfl⟩;simp![len,Y,Z,z])with⟨x,e1,e2⟩|⟨e1,δ',e2,u,rfl⟩
 .rw[e1];show Com.cT _=_;unfold Com.cT;simp![zl1,len,C,cat,gs];rw[e2];simp![];rfl
 .rw[e1];show Com.cT _=_;unfold Com.cT;simp![zl1,len,C,cat,gs];rw[e2];simp![];rfl
theorem Mt{l1 l2:List Int}{p:Int->Bool}(h1:l1.Pairwise (· <= ·))(h2:l2.Pairwise (· <= ·))(hm:∀x,x∈l1<->x∈l2):l1.find? p=l2.find? p:=by
 cases e1:l1.find? p with
 |none=>
  cases e2:l2.find? p with
  |none=>rfl
  |some y=>
   obtain⟨a,b,_⟩:=zP h2 e2;have:=jz.mp e1 y ((hm y).mpr b);rw[a]at this;exact absurd rfl this
 |some x=>
  obtain⟨a1,b1,Y⟩:=zP h1 e1
  cases e2:l2.find? p with
  |none=>
   have:=jz.mp e2 x ((hm x).mp b1);rw[a1]at this;exact absurd rfl this
  |some y=>
   obtain⟨a2,b2,Z⟩:=zP h2 e2;have:=Y y ((hm y).mpr b2) a2;have:=Z x ((hm x).mp b1) a1;rw[show x=y by lia]
def fN(L:List Ty)(M:Nat)(now:Int):Option Int:=(nW (SS L now)).find? (pM L M)
def af7(L:List Ty)(M:Nat)(now:Int):(now::nW (LT L now)).find? (pM L M)=fN L M now:=by
 refine Mt ?_ (nC _) λx=>?_
 .refine gj.mpr ⟨λy Y=>?_,nC _⟩;have:=(iQ _).mem_iff.mp Y;have:=of_decide_eq_true (cA.mp this).2;lia
 .rw[(iQ _).mem_iff,aK,(iQ _).mem_iff];unfold LT SS;rw[aK,cA,cF,cF]
  constructor
  .rintro(h|⟨⟨s,Z,rfl⟩,h⟩)
   .exact .inl h
   .exact .inr ⟨s,Z,by rw[if_pos (of_decide_eq_true h)]⟩
  .rintro(h|⟨s,Z,h⟩)
   .exact .inl h
   .by_cases c:s.1>now
    .rw[if_pos c]at h;exact .inr ⟨⟨s,Z,h⟩,by rw[<-h];exact dTr c⟩
    .rw[if_neg c]at h;exact .inl h.symm
end
section
variable{f g:FX}{c:FT}{δ δ':DS}{d r:D}{o:Oc}{p q:Nat}{b:FX}{ds:List D}{F:List D->Option Or}{fa:FA}{fS:Str->D->DS->Option D}
def gP(h:f δ=some (.o (.nx δ'))):lF f g δ=g δ':=by unfold lF;rw[h];rfl
def uD(h:f δ=some (.ex cn d)):lF f g δ=some (.ex cn d):=by unfold lF;rw[h];rfl
def xJ(h:c δ=some true):xIf c f g δ=f δ:=by unfold xIf;rw[h];rfl
def vR(h:c δ=some false):xIf c f g δ=g δ:=by unfold xIf;rw[h];rfl
def oA(hl:ds.length=p)(e:b (ds.map (λd=>some (.d d))++aW q none)=some (.ex cn d)):fnX p q b ds=some (.ex cn d):=by unfold fnX;rw[if_pos hl,e]
def zQ(hl:ds.length=p)(e:b (ds.map (λd=>some (.d d))++aW q none)=some (.o (.rt d))):fnX p q b ds=some (.o (.rt d)):=by unfold fnX;rw[if_pos hl,e]
def G7(hl:ds.length=p)(e:b (ds.map (λd=>some (.d d))++aW q none)=some (.o (.nx δ'))):fnX p q b ds=some (.o (.rt .none)):=by unfold fnX;rw[if_pos hl,e]
def tK(J:fa δ=some ds)(e:F (ds++dd)=some (.ex cn d)):mQ F dd fa δ=some (.ex cn d):=by unfold mQ;rw[J,aG,e]
def je(J:fa δ=some ds)(e:F (ds++dd)=some (.o (.rt d))):mQ F dd fa δ=some (.o (.nx δ)):=by unfold mQ;rw[J,aG,e]
end
section
variable{L:List Ty}
theorem YM(hl:L.length<=24):oM [.list (L.map yD),.int (M:Int),.int now]=match fN L M now with
 |some x=>some (.ex "TooFull" (.int x))
 |none=>some (.o (.rt .none)):=by
 have C:∀Z,fM (gNl 0) (D3.jV) (dCall cH (aj (ak 0) (aJ))) (jR 1 [] Z) (L.map yD)=some ((nS L).map stD):=λZ=>by
  unfold nS;rw[eZ];exact xH yD _ L λs _=>⟨[some (.d (yD s))],rfl,rfl,by
   obtain⟨a,b,c⟩:=s;have:=qu a b (hD c);simp![this];rfl⟩
 have len:(L.map yD).length<=100000:=by rw[au];lia
 have X:=Ko (L:=L) (M:=M) (now:=now) hl;rw[af7]at X;have first:∀g,lF (xOf (bL 3 (dCall jH (aj (jP (nU (ak 0)) (gNl 0) (D3.jV) (dCall cH (aj (ak 0) (aJ))) 1 []) (aj (ak 1) (aj (ak 2) (aJ))))))) g [some (.d (.list (L.map yD))),some (.d (.int (M:Int))),some (.d (.int now)),none]=g [some (.d (.list (L.map yD))),some (.d (.int (M:Int))),some (.d (.int now)),some (.d (outI (fN L M now)))]:=λg=>gP (by
  unfold xOf;simp![len,C,X];rfl)
 cases h:fN L M now with
 |some x=>
  rw[h]at first
  refine oA rfl ((first _).trans ((xJ ?_).trans rfl));have Y:isNone (outI (some x))=false:=rfl;simp![Y]
 |none=>
  rw[h]at first
  refine G7 rfl ((first _).trans ((vR ?_).trans rfl));have Y:isNone (outI none)=true:=rfl;simp![Y]
end
noncomputable def gty(M:Nat)(now:Int):D->Option Ty
 | .tuple [.int a,.int b,.none]=>if(0<=a/\a<b/\b<=400)/\now<=a then some (a,b,none)else none
 | .tuple [.int a,.int b,.int r]=>if(0<=a/\a<b/\b<=400)/\(0<=r/\r<(M:Int))/\a<=now/\now<b then some (a,b,some r.toNat)else none
 |_=>none
noncomputable def sca:D->Bool
 | .none=>true
 | .bool _=>true
 | .int _=>true
 | .str _=>true
 |_=>false
def fine:D->Bool
 | .tuple [a,b,_]=>sca a&&sca b
 |_=>true
def G8(h:sca d=true):flat d=true:=by cases d<;>first|rfl|(cases h;done)
def str2:D->D->Bool
 | .int a,.int b=>decide (0<=a/\a<b/\b<=400)
 |_,_=>false
def Vo(a b:D):mC [.tuple [a,b]]=some (.bool (isI a&&isI b)):=by
 have e:gO [.tuple [a,b]]=some (.bool (isI a&&isI b)):=by
  have c:fM (gNl 0) (D3.jV) (dCall fH (aj (ak 0) (aJ))) (jR 1 [] [some (.d (.tuple [a,b]))]) [a,b]=some [.bool (isI a),.bool (isI b)]:=
   xH (g:=(gNl 0)) (c:=(D3.jV)) (e:=(dCall fH (aj (ak 0) (aJ)))) (δ:=jR 1 [] [some (.d (.tuple [a,b]))]) (λi:D=>i) (λd=>di (isI d)) [a,b] λd _=>⟨[some (.d d)],rfl,rfl,by
    have:=wh d;simp![this]⟩
  have Z:Fj [.list [.bool (isI a),.bool (isI b)]]=some (.bool (isI a&&isI b)):=by cases isI a<;>cases isI b<;>rfl
  have l2:(0+1+1:Nat)<=100000:=by decide
  unfold gO;simp![Xe,Oq,c,Z,l2]
 have it:D3.isT "tuple" (tyD (.tuple [a,b]))=true:=rfl;unfold mC lH;simp![it,e]
def Mu{a b:D}(c:D)(ha:flat a=true)(hb:flat b=true):cH [.tuple [a,b,c]]=some (.tuple [a,b]):=by
 unfold cH Com.cH;simp![at1,ha,hb,zl2]
theorem Jq(a b:D):iz [.tuple [a,b]]=some (.bool (str2 a b)):=by
 have ps:=Vo a b;have no:(isI a&&isI b)=false->str2 a b=false->iz [.tuple [a,b]]=some (.bool (str2 a b)):=λh h2=>by
  rw[h]at ps;rw[h2];unfold iz;simp![ps]
 cases a with
 |int a=>
  cases b with
  |int b=>
   have ps:mC [.tuple [.int a,.int b]]=some (.bool true):=ps;have:str2 (.int a) (.int b)=(decide (0<=a)&&(decide (a<b)&&decide (b<=400))):=by
    unfold str2;by_cases h1:0<=a<;>by_cases h2:a<b<;>by_cases Z:b<=400<;>simp[h1,h2,Z]
   rw[this];unfold iz;by_cases h1:0<=a
   .by_cases h2:a<b
    .simp![ps,at1,dTr h1,dTr h2];simp
    .simp![ps,at1,dTr h1,dFa h2];simp
   .simp![ps,dFa h1];simp
  |_=>exact no rfl rfl
 |_=>exact no rfl rfl
def ao3(h:D3.isT "tuple" (tyD d)=false):dI [d,.int (M:Int),.int now]=some (.bool false)/\dU [d,.int (M:Int),.int now]=some (.bool false):=by
 have Z:d9 [d]=some (.bool false):=by
  unfold d9;simp![h]
 constructor
 .unfold dI;simp![h]
 .unfold dU;simp![Z]
def af8(h:l.length≠3):dI [.tuple l,.int (M:Int),.int now]=some (.bool false)/\dU [.tuple l,.int (M:Int),.int now]=some (.bool false):=by
 have it:D3.isT "tuple" (tyD (.tuple l))=true:=rfl;have e:gNe (.int (l.length:Int)) (.int 3)=some (.bool true):=by
  rw[V7,dFa (by lia)];rfl
 have Z:d9 [.tuple l]=some (.bool false):=by
  unfold d9;simp![it,e]
 constructor
 .unfold dI;simp![it,e]
 .unfold dU;simp![Z]
theorem Vp(a b c:D):d9 [.tuple [a,b,c]]=some (.bool (str2 a b)):=by
 have it:D3.isT "tuple" (tyD (.tuple [a,b,c]))=true:=rfl;have Z:=lwh a;have Y:=lwh b
 cases ha:isI a with
 |false=>
  rw[ha]at Z;have:str2 a b=false:=by cases a<;>first|rfl|cases ha
  rw[this];unfold d9;simp![it,Z]
 |true=>
  obtain⟨x,rfl⟩:=DN ha
  cases hb:isI b with
  |false=>
   rw[hb]at Y;have:str2 (.int x) b=false:=by cases b<;>first|rfl|cases hb
   rw[this];have Z:dF [.int x]=some (.bool true):=lwh (.int x);unfold d9;simp![it,at1,Z,Y]
  |true=>
   obtain⟨y,rfl⟩:=DN hb;have Z:∀x,dF [.int x]=some (.bool true):=λx=>lwh (.int x)
   have:str2 (.int x) (.int y)=(decide (0<=x)&&(decide (x<y)&&decide (y<=400))):=by
    unfold str2;by_cases h1:0<=x<;>by_cases h2:x<y<;>by_cases X:y<=400<;>simp[h1,h2,X]
   rw[this];unfold d9;by_cases h1:0<=x
   .by_cases h2:x<y
    .simp![it,at1,Z,dTr h1,dTr h2];simp
    .simp![it,at1,Z,dTr h1,dFa h2];simp
   .simp![it,at1,Z,dFa h1];simp
theorem Ks(J:fine d=true):dI [d,.int (M:Int),.int now]=some (.bool (gty M now d).isSome)/\dU [d,.int (M:Int),.int now]=some (.bool (gty M now d).isSome):=by
 have main:∀a b c:D,sca a=true->sca b=true->dI [.tuple [a,b,c],.int (M:Int),.int now]=some (.bool (gty M now (.tuple [a,b,c])).isSome)/\dU [.tuple [a,b,c],.int (M:Int),.int now]=some (.bool (gty M now (.tuple [a,b,c])).isSome):=by
  intro a b c ha hb;have it:D3.isT "tuple" (tyD (.tuple [a,b,c]))=true:=rfl;have nt:=Mu c (G8 ha) (G8 hb);have st:=Jq a b;have X:=Vp a b c
  cases U:str2 a b with
  |false=>
   rw[U]at st X;have:gty M now (.tuple [a,b,c])=none:=by
    unfold gty;split
    .next x y e=>
     cases e;exact if_neg λz=>of_decide_eq_false U z.1
    .next x y r e=>
     cases e;exact if_neg λz=>of_decide_eq_false U z.1
    .rfl
   rw[this]
   constructor
   .unfold dI;simp![it,nt,st];rfl
   .unfold dU;simp![X];rfl
  |true=>
   rw[U]at st X;obtain⟨x,y,rfl,rfl,R⟩:∃x y,a = .int x/\b = .int y/\(0<=x/\x<y/\y<=400):=by
    cases a<;>first|(cases U;done)|skip
    cases b<;>first|(cases U;done)|skip
    exact⟨_,_,rfl,rfl,of_decide_eq_true U⟩
   have hd:=G3;have w:=wh c;have V:=lwh c
   cases S:isI c with
   |true=>
    obtain⟨r,rfl⟩:=DN S;have w:fH [.int r]=some (.bool true):=w;have V:dF [.int r]=some (.bool true):=V;have Z:isNone (.int r)=false:=rfl;have g:(gty M now (.tuple [.int x,.int y,.int r])).isSome=(decide (0<=r)&&(decide (r<(M:Int))&&(decide (x<=now)&&decide (now<y)))):=by
     unfold gty;by_cases h1:0<=r<;>by_cases h2:r<(M:Int)<;>by_cases T:x<=now<;>by_cases Q:now<y<;>simp[h1,h2,T,Q,R]
    rw[g]
    constructor
    .unfold dI;by_cases h1:0<=r
     .by_cases h2:r<(M:Int)
      .simp![it,nt,st,at2,Z,w,hd,dTr h1,dTr h2];simp
      .simp![it,nt,st,at2,Z,w,dTr h1,dFa h2];simp
     .simp![it,nt,st,at2,Z,w,dFa h1];simp
    .unfold dU;by_cases h1:0<=r
     .have Y:¬r<0:=by lia
      by_cases h2:r<(M:Int)
      .have W:¬(M:Int)<=r:=by lia
       by_cases T:x<=now
       .simp![X,at1,at2,Z,V,dTr h1,dTr h2,dFa Y,dFa W,dTr T];simp
       .simp![X,at2,Z,V,dTr h1,dTr h2,dFa Y,dFa W,dFa T];simp
      .have W:(M:Int)<=r:=by lia
       simp![X,at2,Z,V,dTr h1,dFa h2,dFa Y,dTr W];simp
     .have Y:r<0:=by lia
      simp![X,at2,Z,V,dFa h1,dTr Y];simp
   |false=>
    rw[S]at w V;by_cases hn:c = .none
    .subst hn;have Z:isNone .none=true:=rfl;have g:(gty M now (.tuple [.int x,.int y,.none])).isSome=decide (now<=x):=by
      unfold gty;by_cases h1:now<=x<;>simp[h1,R]
     rw[g]
     constructor
     .unfold dI;simp![it,nt,st,at2,Z]
     .unfold dU;simp![X,at2,Z]
    .have Z:isNone c=false:=by cases c<;>first|rfl|exact absurd rfl hn
     have g:(gty M now (.tuple [.int x,.int y,c])).isSome=false:=by
      cases c<;>first|rfl|exact absurd rfl hn|cases S
     rw[g]
     constructor
     .unfold dI;simp![it,nt,st,at2,Z,w]
     .unfold dU;simp![X,at2,Z,V]
 cases d with
 |tuple l=>
  by_cases hl:l.length=3
  .match l,hl with
   |[a,b,c],_=>
    have:(sca a&&sca b)=true:=J;rw[aV]at this;exact main a b c this.1 this.2
  .have g:gty M now (.tuple l)=none:=by
    unfold gty;split
    .next e=>cases e;exact absurd rfl hl
    .next e=>cases e;exact absurd rfl hl
    .rfl
   rw[g];exact af8 hl
 |_=>exact ao3 rfl
def zR{s:Ty}(h:gty M now d=some s):d=yD s/\(s.1<s.2.1/\0<=s.1/\s.2.1<=400)/\(∀r,s.2.2=some r->r<M/\s.1<=now/\now<s.2.1)/\(s.2.2=none->now<=s.1):=by
 unfold gty at h;split at h
 .next a b=>
  split at h
  .next c=>
   cases h;exact⟨rfl,⟨c.1.2.1,c.1.1,c.1.2.2⟩,λr e=>(by cases e),λ_=>c.2⟩
  .cases h
 .next a b r=>
  split at h
  .next c=>
   cases h;refine⟨?_,⟨c.1.2.1,c.1.1,c.1.2.2⟩,λq e=>?_,λe=>(by cases e)⟩
   .show _=cP [.int a,.int b,.int ((r.toNat:Nat):Int)];rw[Int.toNat_of_nonneg c.2.1.1]
   .cases e;exact⟨by lia,c.2.2⟩
  .cases h
 .cases h
inductive Ck where
 |stay (i:Nat)
 |taken (r:Nat)
 |ok
def chk(M:Nat)(now:Int):List D->Nat->List Nat->Ck
 |[],_,_=>.ok
 |d::l,i,S=>match gty M now d with
  |none=>.stay i
  |some s=>match s.2.2 with
   |none=>chk M now l (i+1) S
   |some q=>if q∈S then .taken q else chk M now l (i+1) (q::S)
def Wa{b:FX}{r:List D}(h1:g d δ=some δ1)(h2:b δ1=some (.o (.nx δ'))):qp g b (d::r) δ=qp g b r δ':=by
 rw[qp,h1,aG,h2];rfl
def Wb{b:FX}{v:D}{c:Str}{r:List D}(h1:g d δ=some δ1)(h2:b δ1=some (.ex c v)):qp g b (d::r) δ=some (.ex c v):=by
 rw[qp,h1,aG,h2];rfl
def zT{c:Str}{f:FE}(h:f δ=some d):o9 c f δ=some (.ex c d):=by
 unfold o9;rw[h];rfl
def mD{f:FS}(h:f δ=some o):xOf f δ=some (.o o):=by
 unfold xOf;rw[h];rfl
def ckE:Ck->DS->Or
 | .stay j,_=>.ex "NoStay" (.int (j:Int))
 | .taken r,_=>.ex "Taken" (.int (r:Int))
 | .ok,δ=>.o (.nx δ)
abbrev af9:=lF (xIf (D3.ig (aQ (dCall dI (aj (ak 5) (aj (ak 1) (aj (ak 2) (aJ))))))) (o9 "NoStay" (ak 4)) (xOf (bV))) (lF (xIf (aQ (dOp xq (dOp gIx (ak 5) (dC (.int 2))) (ak 3))) (o9 "Taken" (dOp gIx (ak 5) (dC (.int 2)))) (xOf (bV))) (xOf (sIf (aQ (dUn lD (dOp gIx (ak 5) (dC (.int 2))))) (zm 3 (dOp gIx (ak 5) (dC (.int 2)))) (bV))))
theorem uQ(ds:D):∀(l:List D)(i:Nat)(S:List Nat)(J:List Int)(u4 O:Option U),(∀q:Nat,(q:Int)∈J<->q∈S)->J.length<=i->i+l.length<=1000->(∀d∈l,fine d=true) ->
 ∃δ',qp (gTn 2 (fQ (gNl 4) (fQ (gNl 5) (n8)))) af9 (l.mapIdx λk x=>cP [.int ((i+k:Nat):Int),x]) [some (.d ds),some (.d (.int (M:Int))),some (.d (.int now)),some (.d (dsB J)),u4,O]=some (ckE (chk M now l i S) δ')
 |[],i,S,J,u4,O,_,_,_,_=>⟨_,rfl⟩
 |d::l,i,S,J,u4,O,W,hl,hi,T=>by
  have fd:=T d aD;have st:=(Ks (M:=M) (now:=now) fd).1;have P:((d::l).mapIdx λk x=>cP [.int ((i+k:Nat):Int),x])=cP [.int (i:Int),d]::l.mapIdx λk x=>cP [.int ((i+1+k:Nat):Int),x]:=by
   rw[List.mapIdx_cons];congr 1;apply List.ext_getElem
   .simp
   .intro k h1 h2;simp;lia
  rw[P];have g1:(gTn 2 (fQ (gNl 4) (fQ (gNl 5) (n8)))) (cP [.int (i:Int),d]) [some (.d ds),some (.d (.int (M:Int))),some (.d (.int now)),some (.d (dsB J)),u4,O]=some [some (.d ds),some (.d (.int (M:Int))),some (.d (.int now)),some (.d (dsB J)),some (.d (.int (i:Int))),some (.d d)]:=rfl;have R:i+1+l.length<=1000:=by rw[bI]at hi;lia
  cases Y:gty M now d with
  |none=>
   rw[Y]at st;refine⟨[],?_⟩;rw[chk,Y];refine Wb g1 (uD ?_);refine(xJ ?_).trans (zT ?_)
   .have st:dI [d,.int (M:Int),.int now]=some (.bool false):=st;simp![st]
   .rfl
  |some s=>
   rw[Y]at st;have st:dI [d,.int (M:Int),.int now]=some (.bool true):=st;obtain⟨rfl,_,L,_⟩:=zR Y;have t1:(D3.ig (aQ (dCall dI (aj (ak 5) (aj (ak 1) (aj (ak 2) (aJ))))))) [some (.d ds),some (.d (.int (M:Int))),some (.d (.int now)),some (.d (dsB J)),some (.d (.int (i:Int))),some (.d (yD s))]=some false:=by
    simp![st]
   rw[chk,Y];dsimp only
   cases Q:s.2.2 with
   |none=>
    have a2:pAt [.int s.1,.int s.2.1,hD s.2.2] 2=some .none:=by rw[Q];rfl
    have V:isNone .none=true:=rfl;obtain⟨δ',e⟩:=uQ ds l (i+1) S J (some (.d (.int (i:Int)))) (some (.d (yD s))) W (by lia) R λd hd=>T d (aA _ hd)
    refine⟨δ',(Wa g1 ((gP ((vR t1).trans (mD rfl))).trans ((gP ((vR ?_).trans (mD rfl))).trans (mD ?_)))).trans e⟩
    .unfold yD;simp![a2,QL]
    .unfold yD;simp![a2,V]
   |some q=>
    have a2:pAt [.int s.1,.int s.2.1,hD s.2.2] 2=some (.int (q:Int)):=by rw[Q];rfl
    have V:isNone (.int (q:Int))=false:=rfl;by_cases X:q∈S
    .have Z:(q:Int)∈J:=(W q).mpr X;refine⟨[],?_⟩;dsimp only;rw[if_pos X];refine Wb g1 ((gP ((vR t1).trans (mD rfl))).trans (uD ((xJ ?_).trans (zT ?_))))
     .unfold yD;simp![a2,QK,dTr Z]
     .unfold yD;simp![a2]
    .have Z:¬(q:Int)∈J:=λz=>X ((W q).mp z)
     dsimp only;rw[if_neg X];have N:xu J (q:Int)=J++[(q:Int)]:=if_neg Z;have sl:J.length<1000000:=by rw[bI]at hi;lia
     obtain⟨δ',e⟩:=uQ ds l (i+1) (q::S) (J++[(q:Int)]) (some (.d (.int (i:Int)))) (some (.d (yD s))) (λp=>by
      rw[aR,aB,aK,W p]
      constructor
      .rintro(z|z)
       .exact .inr z
       .exact .inl (by lia)
      .rintro(z|z)
       .exact .inr (by rw[z])
       .exact .inl z) (by rw[bx];simp;lia) R λd hd=>T d (aA _ hd)
     refine⟨δ',(Wa g1 ((gP ((vR t1).trans (mD rfl))).trans ((gP ((vR ?_).trans (mD rfl))).trans (mD ?_)))).trans e⟩
     .unfold yD;simp![a2,QK,dFa Z]
     .unfold yD;simp![a2,V,QJ,G4,sl,N]
theorem Vq(hl:ds.length<=24)(J:∀d∈ds,fine d=true):jN [.list ds,.int (M:Int),.int now]=some (match chk M now ds 0 []with
 | .stay j=>.ex "NoStay" (.int (j:Int))
 | .taken r=>.ex "Taken" (.int (r:Int))
 | .ok=>.o (.rt .none)):=by
 obtain⟨δ',e⟩:=uQ (M:=M) (now:=now) (.list ds) ds 0 [] [] none none (λq=>by simp) (by simp) (by lia) J;have en:lE ds=ds.mapIdx λk x=>cP [.int ((0+k:Nat):Int),x]:=by
  unfold lE;congr 1
  funext k x
  rw[jA]
 have Z:S7 (vf (ak 0)) (gTn 2 (fQ (gNl 4) (fQ (gNl 5) (n8)))) af9 [some (.d (.list ds)),some (.d (.int (M:Int))),some (.d (.int now)),some (.d (dsB [])),none,none]=some (ckE (chk M now ds 0 []) δ'):=by
  unfold S7;have:(vf (ak 0)) [some (.d (.list ds)),some (.d (.int (M:Int))),some (.d (.int now)),some (.d (dsB [])),none,none]=some (lE ds):=by
   have:ds.length<=100000:=by lia
   simp![this]
  rw[this,aG,en];exact e
 unfold jN
 cases Y:chk M now ds 0 []with
 |stay j=>
  rw[Y]at Z;exact oA rfl ((gP (mD rfl)).trans Z)
 |taken r=>
  rw[Y]at Z;exact oA rfl ((gP (mD rfl)).trans Z)
 |ok=>
  rw[Y]at Z;exact G7 rfl ((gP (mD rfl)).trans Z)
theorem Jr:∀(l:List D)(i:Nat)(S:List Nat),chk M now l i S = .ok->∃L:List Ty,l=L.map yD/\(∀s∈L,(s.1<s.2.1/\0<=s.1/\s.2.1<=400)/\(∀r,s.2.2=some r->r<M/\s.1<=now/\now<s.2.1)/\(s.2.2=none->now<=s.1))/\(L.filterMap (·.2.2)).Nodup/\∀q∈S,q∉L.filterMap (·.2.2)
 |[],_,_,_=>⟨[],rfl,λ_ h=>(by cases h),rR,λ_ _ h=>(by cases h)⟩
 |d::l,i,S,h=>by
  rw[chk]at h
  cases U:gty M now d with
  |none=>rw[U]at h;cases h
  |some s=>
   rw[U]at h;dsimp only at h;obtain⟨rfl,p1,p2,p3⟩:=zR U
   cases Z:s.2.2 with
   |none=>
    rw[Z]at h;obtain⟨L,rfl,h1,h2,X⟩:=Jr l (i+1) S h;refine⟨s::L,rfl,λt W=>?_,?_,λq Y=>?_⟩
    .rcases aK.mp W with rfl|z
     .exact⟨p1,p2,p3⟩
     .exact h1 t z
    .rwa[cD,Z]
    .rw[cD,Z];exact X q Y
   |some r=>
    rw[Z]at h;dsimp only at h;by_cases V:r∈S
    .rw[if_pos V]at h;cases h
    .rw[if_neg V]at h;obtain⟨L,rfl,h1,h2,X⟩:=Jr l (i+1) (r::S) h;refine⟨s::L,rfl,λt W=>?_,?_,λq Y=>?_⟩
     .rcases aK.mp W with rfl|z
      .exact⟨p1,p2,p3⟩
      .exact h1 t z
     .rw[cD,Z];exact cI.mpr ⟨X r aD,h2⟩
     .rw[cD,Z];intro z;rcases aK.mp z with z|z
      .exact V (z▸Y)
      .exact X q (aA _ Y) z
def YQ(hl:ds.length<=24)(h:chk M now ds 0 [] = .ok):∃L:List Ty,ds=L.map yD/\TO0 L M now:=by
 obtain⟨L,e,h1,h2,_⟩:=Jr ds 0 [] h;exact⟨L,e,⟨by rw[e,au]at hl;exact hl,h1,h2⟩⟩
def Vr(h:ly 60 (.list l)):gEq (.list l) (.list [])=some (.bool l.isEmpty):=by
 unfold gEq;rw[m7 h,show cK (.list [])=true from rfl]
 cases l<;>simp[da,ey]
theorem Q8(f g:FS):lF (xOf f) (xOf g)=xOf (bD f g):=by
 funext δ
 unfold lF xOf bD
 cases f δ with
 |none=>rfl
 |some o=>cases o<;>rfl
def ag0{p q:Nat}{A B:FE}{R:FS}{a b:D}(h:fnD p q (bD (su A) (bD (su B) R)) ds=some d)(J:A (ds.map (λd=>some (.d d))++aW q none)=some a)(hB:B (ds.map (λd=>some (.d d))++aW q none)=some b):
 ds.length=p/\(R (ds.map (λd=>some (.d d))++aW q none)=some (.rt d)\/∃δ',R (ds.map (λd=>some (.d d))++aW q none)=some (.nx δ')):=by
 unfold fnD at h;by_cases hl:ds.length=p
 .rw[if_pos hl]at h;have e:bD (su A) (bD (su B) R) (ds.map (λd=>some (.d d))++aW q none)=R (ds.map (λd=>some (.d d))++aW q none):=by
   unfold bD su;rw[J];dsimp only[aG];rw[hB];rfl
  rw[e]at h;refine⟨hl,?_⟩
  cases Z:R (ds.map (λd=>some (.d d))++aW q none)with
  |none=>rw[Z]at h;cases h
  |some o=>
   rw[Z]at h
   cases o with
   |rt x=>cases h;exact .inl rfl
   |nx x=>exact .inr ⟨_,rfl⟩
   |bk _=>cases h
   |ct _=>cases h
   |ex _ _ _=>cases h
 .rw[if_neg hl]at h;cases h
section
variable{L:List Ty}
def Wc(ok:TOk L M now)(O:M<=12)(n0:0<=now){w r:Nat}(hw:w<L.length)(hn:hk L w=none)(J:r<M):
 ∃(l:List D)(x:Str),iD [.list (L.map yD),.int (M:Int),.int now,.int (w:Int),.int (r:Int)]=some (.tuple (.str x::l))/\(x="yes"\/x="no"):=by
 obtain⟨f,V,T⟩:=zO (TO0.of ok) O;have P:now<=f r:=by
  rcases T r J with⟨k,X,Y,e⟩|⟨_,e⟩
  .have:=((ok.ok _ (jr X)).2.1 r Y).2.2;have:now<ek L k:=this;lia
  .lia
 have W:bk L w<=f r+59:=by
  have h1:bk L w<=now+59:=ok.nr _ (jr hw) hn;lia
 have R:0<=f r:=by lia
 by_cases hB:f r<=bk L w
 .obtain⟨S,Q,Z,cl⟩:=Jo ok hw R hB
  cases U:(gC S (bk L w)).isSome with
  |true=>
   obtain⟨t,rr,em,_⟩:=Vj ok O hw hn J V T hB R Q Z U;exact⟨_,_,em,.inl rfl⟩
  |false=>
   have em:=Vl ok hw hn J V hB Q Z.a (by have:=Z.len hB W;lia) U;exact⟨_,_,em,.inr rfl⟩
 .have em:=Vk ok hw hn J V (by lia);exact⟨_,_,em,.inr rfl⟩
def DY{r:Int}:kZ [.int (M:Int),.int r]=if 0<=r/\r<(M:Int)then some (.o (.rt .none))else some (.ex "NoRoom" (.int r)):=by
 by_cases h1:0<=r
 .by_cases h2:r<(M:Int)
  .rw[if_pos ⟨h1,h2⟩];refine G7 rfl ((vR ?_).trans (mD rfl));simp![dTr h1,dTr h2]
  .rw[if_neg (by lia)];refine oA rfl ((xJ ?_).trans (zT rfl));simp![dTr h1,dFa h2]
 .rw[if_neg (by lia)];refine oA rfl ((xJ ?_).trans (zT rfl));simp![dFa h1]
def G9(L:List Ty)(w:Int):Prop:=0<=w/\w<(L.length:Int)/\hk L w.toNat=none
def ag1(ok:TO0 L M now)(J:jN [.list (L.map yD),.int (M:Int),.int now]=some (.o (.rt .none)))(w:Int):(∀x,fN L M now=some x->dJ [.list (L.map yD),.int (M:Int),.int now,.int w]=some (.ex "TooFull" (.int x))) /\
 (fN L M now=none->(G9 L w->dJ [.list (L.map yD),.int (M:Int),.int now,.int w]=some (.o (.rt .none)))/\(¬G9 L w->dJ [.list (L.map yD),.int (M:Int),.int now,.int w]=some (.ex "NoStay" (.int w)))):=by
 have W:=ok.len;have Z:=YM (L:=L) (M:=M) (now:=now) W;have a1:(aj (ak 0) (aj (ak 1) (aj (ak 2) (aJ)))) [some (.d (.list (L.map yD))),some (.d (.int (M:Int))),some (.d (.int now)),some (.d (.int w))]=some [.list (L.map yD),.int (M:Int),.int now]:=rfl;refine⟨λx h=>?_,λh=>?_⟩
 .rw[h]at Z;exact oA rfl ((gP (je a1 J)).trans (uD (tK a1 Z)))
 .rw[h]at Z;have lI:=Jj L yD;by_cases h1:0<=w
  .by_cases h2:w<(L.length:Int)
   .obtain⟨k,rfl⟩:∃k:Nat,w=(k:Int):=⟨w.toNat,by lia⟩;have V:k<L.length:=by lia
    have Y:=ay V;have tn:((k:Int)).toNat=k:=by lia
    cases hh:hk L k with
    |none=>
     rw[hh]at Y;have X:isNone (hD none)=true:=rfl;refine⟨λ_=>?_,λz=>absurd ⟨h1,h2,by rwa[tn]⟩ z⟩;refine G7 rfl ((gP (je a1 J)).trans ((gP (je a1 Z)).trans ((vR ?_).trans (mD rfl))));simp![dTr h1,lI,dTr h2,Y,at2,X]
    |some r=>
     rw[hh]at Y;have X:isNone (hD (some r))=false:=rfl;refine⟨λz=>?_,λ_=>?_⟩
     .have z:=z.2.2;rw[tn,hh]at z
      cases z
     refine oA rfl ((gP (je a1 J)).trans ((gP (je a1 Z)).trans ((xJ ?_).trans (zT rfl))));simp![dTr h1,lI,dTr h2,Y,at2,X]
   .refine⟨λz=>absurd z.2.1 h2,λ_=>?_⟩;refine oA rfl ((gP (je a1 J)).trans ((gP (je a1 Z)).trans ((xJ ?_).trans (zT rfl))));simp![dTr h1,lI,dFa h2]
  .refine⟨λz=>absurd z.1 h1,λ_=>?_⟩;refine oA rfl ((gP (je a1 J)).trans ((gP (je a1 Z)).trans ((xJ ?_).trans (zT rfl))));simp![dFa h1]
def ag2(ok:TOk L M now)(hM:M<=12)(Y:0<=now){w r:Nat}(hw:w<L.length)(hn:hk L w=none)(O:r<M)(J:dJ [.list (L.map yD),.int (M:Int),.int now,.int (w:Int)]=some (.o (.rt .none))):
 ∃d,lY [.list (L.map yD),.int (M:Int),.int now,.int (w:Int),.int (r:Int)]=some (.o (.rt d)):=by
 obtain⟨l,x,e,_⟩:=Wc ok hM Y hw hn O;have W:=DQ ok hw hn;have X:=xZ O;have Z:=DY (M:=M) (r:=(r:Int));rw[if_pos ⟨by lia,by lia⟩]at Z;have T:=ag0 e (a:=.none) (b:=.none) (by simp![W]) (by simp![X]);obtain⟨_,T⟩:=T;have a1:(aj (ak 0) (aj (ak 1) (aj (ak 2) (aj (ak 3) (aJ))))) [some (.d (.list (L.map yD))),some (.d (.int (M:Int))),some (.d (.int now)),some (.d (.int (w:Int))),some (.d (.int (r:Int))),none,none,none,none]=some [.list (L.map yD),.int (M:Int),.int now,.int (w:Int)]:=rfl;have a2:(aj (ak 1) (aj (ak 4) (aJ))) [some (.d (.list (L.map yD))),some (.d (.int (M:Int))),some (.d (.int now)),some (.d (.int (w:Int))),some (.d (.int (r:Int))),none,none,none,none]=some [.int (M:Int),.int (r:Int)]:=rfl;unfold lY;simp only[Q8];rcases T with T|⟨δ',T⟩
 .exact⟨_,zQ rfl ((gP (je a1 J)).trans ((gP (je a2 Z)).trans (mD T)))⟩
 .exact⟨_,G7 rfl ((gP (je a1 J)).trans ((gP (je a2 Z)).trans (mD T)))⟩
def YS(ok:TOk L M now)(hM:M<=12){w r:Nat}(hw:w<L.length)(hn:hk L w=none)(hr:r<M)(J:dJ [.list (L.map yD),.int (M:Int),.int now,.int (w:Int)]=some (.o (.rt .none))):
 ∃d,m8 [.list (L.map yD),.int (M:Int),.int now,.int (w:Int),.int (r:Int),.list [.int now]]=some (.o (.rt d)):=by
 have P:=ok.len;obtain⟨f,Z,F⟩:=zO (TO0.of ok) hM;have Y:=DY (M:=M) (r:=(r:Int));rw[if_pos ⟨by lia,by lia⟩]at Y;have X:iR [.list [.int now]]=some (.bool true):=Vm [now] (show 1<=100000 by decide);have W:jd [.list [.int now]]=some (.bool true):=YL [now] (show 1<=1000 by decide);have U:=ay hw;have ab:=GR (n:=M) (c:=r) (λs:Nat=>cE (f s)) hr;obtain⟨H,O,_⟩:=Ms (M:=M) (Q:=[now]) P hw;have O:gM [.list (L.map yD),.int (M:Int),.int (w:Int),.list [.int now]]=some (.bool H):=O;have T:sS (.int (f r)) (.list [.int now])=some (.bool (!decide (f r∈[now]))):=Q7 [now] (f r);have G:gEq (.list [.int now]) (.list [])=some (.bool false):=Vr (show ly 60 (.list [.int now])from GJ (Kf (n:=1) (vO Dy Dw)) (by decide));have R:Fi [.list [.int now]]=some (.int now):=af4 (l:=[now]) (by simp);have K:Fg [.list [.int now]]=some (.int now):=af5 (l:=[now]) (by simp);have a1:(aj (ak 0) (aj (ak 1) (aj (ak 2) (aj (ak 3) (aJ))))) [some (.d (.list (L.map yD))),some (.d (.int (M:Int))),some (.d (.int now)),some (.d (.int (w:Int))),some (.d (.int (r:Int))),some (.d (.list [.int now])),none,none]=some [.list (L.map yD),.int (M:Int),.int now,.int (w:Int)]:=rfl;have a2:(aj (ak 1) (aj (ak 4) (aJ))) [some (.d (.list (L.map yD))),some (.d (.int (M:Int))),some (.d (.int now)),some (.d (.int (w:Int))),some (.d (.int (r:Int))),some (.d (.list [.int now])),none,none]=some [.int (M:Int),.int (r:Int)]:=rfl;have Z:=Z;unfold m8;simp only[Q8];by_cases V:f r>bk L w
 .refine⟨.bool false,zQ rfl ((gP (je a1 J)).trans ((gP (je a2 Y)).trans (mD ?_)))⟩;simp![X,W,Z,ab,U,dTr V,G,zl0]
 .by_cases S:f r∈[now]
  .by_cases N:now<f r
   .refine⟨.bool false,zQ rfl ((gP (je a1 J)).trans ((gP (je a2 Y)).trans (mD ?_)))⟩;simp![X,W,Z,ab,U,dFa V,T,dTr S,R,dTr N]
   .by_cases I:now≥bk L w
    .refine⟨.bool false,zQ rfl ((gP (je a1 J)).trans ((gP (je a2 Y)).trans (mD ?_)))⟩;simp![X,W,Z,ab,U,dFa V,T,dTr S,R,K,dFa N,dTr I]
    .refine⟨.bool H,zQ rfl ((gP (je a1 J)).trans ((gP (je a2 Y)).trans (mD ?_)))⟩;simp![X,W,Z,ab,U,dFa V,T,dTr S,R,K,dFa N,dFa I,O]
  .refine⟨.bool false,zQ rfl ((gP (je a1 J)).trans ((gP (je a2 Y)).trans (mD ?_)))⟩;simp![X,W,Z,ab,U,dFa V,T,dFa S]
abbrev YT:=aQ (dOp gEq (dOp gIx (dCall iD (aj (ak 1) (aj (ak 2) (aj (ak 3) (aj (ak 4) (aj (ak 0) (aJ))))))) (dC (.int 0))) (dC (.str "yes")))
def Vs(ok:TOk L M now)(hM:M<=12)(J:0<=now){w:Nat}(hw:w<L.length)(hn:hk L w=none)(O:dJ [.list (L.map yD),.int (M:Int),.int now,.int (w:Int)]=some (.o (.rt .none))):
 ∃d,j8 [.list (L.map yD),.int (M:Int),.int now,.int (w:Int)]=some (.o (.rt d)):=by
 have a1:(aj (ak 0) (aj (ak 1) (aj (ak 2) (aj (ak 3) (aJ))))) [some (.d (.list (L.map yD))),some (.d (.int (M:Int))),some (.d (.int now)),some (.d (.int (w:Int)))]=some [.list (L.map yD),.int (M:Int),.int now,.int (w:Int)]:=rfl;have cond:∀r:Nat,r<M->∃b,YT [some (.d (.int (r:Int))),some (.d (.list (L.map yD))),some (.d (.int (M:Int))),some (.d (.int now)),some (.d (.int (w:Int)))]=some b:=λr X=>by
  obtain⟨l,x,e,Y⟩:=Wc ok hM J hw hn X;have W:pAt (.str x::l) 0=some (.str x):=pR (k:=0);rcases Y with rfl|rfl
  .have eq:gEq (.str "yes") (.str "yes")=some (.bool true):=Com.eq_self (GJ Q5 (by decide));refine⟨true,?_⟩;simp![e,W,eq]
  .have eq:gEq (.str "no") (.str "yes")=some (.bool false):=by
    unfold gEq;rw[m7 (GJ af3 (by decide)),m7 (GJ Q5 (by decide))];rfl
   refine⟨false,?_⟩;simp![e,W,eq]
 obtain⟨l,C⟩:∃l,fM (gNl 0) YT (dW (ak 0)) (jR 1 [0,1,2,3] [some (.d (.list (L.map yD))),some (.d (.int (M:Int))),some (.d (.int now)),some (.d (.int (w:Int)))]) (d_ 0 (M:Int))=some l:=by
  have all:∀ns:List Nat,(∀r∈ns,r<M)->∃l,fM (gNl 0) YT (dW (ak 0)) (jR 1 [0,1,2,3] [some (.d (.list (L.map yD))),some (.d (.int (M:Int))),some (.d (.int now)),some (.d (.int (w:Int)))]) (ns.map λr:Nat=>cE (r:Int))=some l:=by
   intro ns
   induction ns with
   |nil=>exact λ_=>⟨[],rfl⟩
   |cons r ns T=>
    intro h;obtain⟨l,V⟩:=T λq S=>h q (aA _ S)
    obtain⟨b,hb⟩:=cond r (h r aD);have g1:(gNl 0) (.int (r:Int)) (jR 1 [0,1,2,3] [some (.d (.list (L.map yD))),some (.d (.int (M:Int))),some (.d (.int now)),some (.d (.int (w:Int)))])=some [some (.d (.int (r:Int))),some (.d (.list (L.map yD))),some (.d (.int (M:Int))),some (.d (.int now)),some (.d (.int (w:Int)))]:=rfl;rw[bJ,fM,g1,aG,hb,aG]
    cases b with
    |true=>
     rw[if_pos rfl];have:(dW (ak 0)) [some (.d (.int (r:Int))),some (.d (.list (L.map yD))),some (.d (.int (M:Int))),some (.d (.int now)),some (.d (.int (w:Int)))]=some (.int (r:Int)):=rfl;rw[this,aG,V];exact⟨_,rfl⟩
    |false=>
     rw[if_neg (by decide)];exact⟨l,V⟩
  have:=all (aC M) λr X=>bR.mp X
  have rg:d_ 0 (M:Int)=(aC M).map λr:Nat=>cE (r:Int):=by
   unfold d_;rw[show((M:Int)-0).toNat=M by lia];exact gY λk _=>by rw[uV]
  rw[rg];exact this
 have Z:vN (some [.int (M:Int)])=some (d_ 0 (M:Int)):=GF (by lia) (by lia);have U:(d_ 0 (M:Int)).length<=100000:=by unfold d_;rw[au,bQ];lia
 refine⟨.list l,?_⟩;unfold j8;refine zQ rfl ((gP (je a1 O)).trans (mD ?_));simp![Z,C,U]
end
def Ku(l:List (Option Nat))(r:Nat):gIn (.int (r:Int)) (.list (l.map hD))=some (.bool (decide (some r∈l))):=by
 have s1:cK (.int (r:Int))=true:=m7 (Dy (n:=59));have s2:cK (.list (l.map hD))=true:=m7 (Kf (n:=59) (Ke _ ae3 _));show(if(cK (.int (r:Int))&&cK (.list (l.map hD)))=true then some (di ((l.map hD).any λz=>da z (.int (r:Int))))else none)=_;rw[s1,s2,Vb];rfl
noncomputable def ckL:Ck->DS->Oc
 | .stay j,_=>.rt (.tuple [.str "stay", .int (j:Int)])
 | .taken r,_=>.rt (.tuple [.str "taken", .int (r:Int)])
 | .ok,δ=>.nx δ
def Wf{v:D}{r:List D}(h1:g d δ=some δ1)(h2:b δ1=some (.rt v)):jj g b (d::r) δ=some (.rt v):=by
 rw[jj,h1,aG,h2];rfl
def Wg{r:List D}(h1:g d δ=some δ1)(h2:b δ1=some (.nx δ')):jj g b (d::r) δ=jj g b r δ':=by
 rw[jj,h1,aG,h2];rfl
abbrev ag3:=bD (sIf (D3.ig (aQ (dCall dU (aj (dOp gIx (ak 0) (ak 6)) (aj (ak 1) (aj (ak 2) (aJ))))))) (b_ (dTup (aj (dC (.str "stay")) (aj (dW (ak 6)) (aJ))))) (bV)) (bD (sIf (D3.rW (aQ (dUn lD (dOp gIx (dOp gIx (ak 0) (ak 6)) (dC (.int 2))))) (aQ (dOp gIn (dOp gIx (dOp gIx (ak 0) (ak 6)) (dC (.int 2))) (ak 5)))) (b_ (dTup (aj (dC (.str "taken")) (aj (dW (dOp gIx (dOp gIx (ak 0) (ak 6)) (dC (.int 2)))) (aJ))))) (bV)) (NT 5 (dOp gIx (dOp gIx (ak 0) (ak 6)) (dC (.int 2)))))
theorem zU(wh rm:Int)(ds:List D)(O:ds.length<=1000):∀(l pre:List D)(S:List Nat)(T:List (Option Nat))(J:Option U),ds=pre++l->(∀q:Nat,some q∈T<->q∈S)->T.length<=pre.length->(∀d∈l,fine d=true) ->
 ∃δ',(∃u3 J,δ'=[some (.d (.list ds)),some (.d (.int (M:Int))),some (.d (.int now)),some (.d (.int wh)),some (.d (.int rm)),u3,J,none])/\jj (gNl 6) ag3 ((iT pre.length l.length).map λk:Nat=>cE (k:Int)) [some (.d (.list ds)),some (.d (.int (M:Int))),some (.d (.int now)),some (.d (.int wh)),some (.d (.int rm)),some (.d (.list (T.map hD))),J,none]=some (ckL (chk M now l pre.length S) δ')
 |[],pre,S,T,J,_,_,_,_=>⟨_,⟨_,_,rfl⟩,rfl⟩
 |d::l,pre,S,T,J,N,Q,hl,P=>by
  have fd:=P d aD;have st:=(Ks (M:=M) (now:=now) fd).2;have I:((iT pre.length (d::l).length).map λk:Nat=>cE (k:Int))=cE (pre.length:Int)::((iT (pre++[d]).length l.length).map λk:Nat=>cE (k:Int)):=by
   rw[bI,p7,bJ,bx];rfl
  have X:ds=(pre++[d])++l:=by rw[N];simp
  have lp:(pre++[d]).length=pre.length+1:=by simp
  have ad:pAt ds (pre.length:Int)=some d:=by rw[pR,N];simp
  rw[I];have g1:(gNl 6) (cE (pre.length:Int)) [some (.d (.list ds)),some (.d (.int (M:Int))),some (.d (.int now)),some (.d (.int wh)),some (.d (.int rm)),some (.d (.list (T.map hD))),J,none]=some [some (.d (.list ds)),some (.d (.int (M:Int))),some (.d (.int now)),some (.d (.int wh)),some (.d (.int rm)),some (.d (.list (T.map hD))),some (.d (.int (pre.length:Int))),none]:=rfl;have L:(T.map hD).length<1000000:=by
   rw[au];have:=congrArg pG N;rw[bx]at this;lia
  cases Y:gty M now d with
  |none=>
   rw[Y]at st;have st:dU [d,.int (M:Int),.int now]=some (.bool false):=st;refine⟨_,⟨none,none,rfl⟩,?_⟩;rw[chk,Y];refine Wf g1 ?_;simp![ad,st,fli,zl2]
  |some s=>
   rw[Y]at st;have st:dU [d,.int (M:Int),.int now]=some (.bool true):=st;obtain⟨rfl,_,H,_⟩:=zR Y;rw[chk,Y];dsimp only
   cases K:s.2.2 with
   |none=>
    have a2:pAt [.int s.1,.int s.2.1,hD s.2.2] 2=some .none:=by rw[K];rfl
    have V:isNone .none=true:=rfl;obtain⟨δ',w,e⟩:=zU wh rm ds O l (pre++[yD s]) S (T++[none]) (some (.d (.int (pre.length:Int)))) X (λq=>by rw[aR,<-Q q];simp) (by rw[bx,lp];simp;exact hl) λd hd=>P d (aA _ hd)
    rw[lp]at e;refine⟨δ',w,(Wg g1 ?_).trans (by rw[lp];exact e)⟩;rw[fX];unfold yD at ad st;simp![ad,st,a2,V,L];rfl
   |some q=>
    have a2:pAt [.int s.1,.int s.2.1,hD s.2.2] 2=some (.int (q:Int)):=by rw[K];rfl
    have V:isNone (.int (q:Int))=false:=rfl;dsimp only;by_cases R:q∈S
    .have Z:some q∈T:=(Q q).mpr R;have W:=Ku T q;rw[dTr Z]at W;rw[if_pos R];refine⟨_,⟨none,none,rfl⟩,Wf g1 ?_⟩;unfold yD at ad st;simp![ad,st,a2,V,W,fli,zl2]
    .have Z:¬some q∈T:=λz=>R ((Q q).mp z)
     have W:=Ku T q;rw[dFa Z]at W;rw[if_neg R];obtain⟨δ',w,e⟩:=zU wh rm ds O l (pre++[yD s]) (q::S) (T++[some q]) (some (.d (.int (pre.length:Int)))) X (λp=>by
      rw[aR,aB,aK,Q p]
      constructor
      .rintro(z|z)
       .exact .inr z
       .exact .inl (dg.inj z)
      .rintro(z|z)
       .exact .inr (by rw[z])
       .exact .inl z) (by rw[bx,lp];simp;exact hl) λd hd=>P d (aA _ hd)
     rw[lp]at e;refine⟨δ',w,(Wg g1 ?_).trans (by rw[lp];exact e)⟩;rw[fX];unfold yD at ad st;simp![ad,st,a2,V,W,L];rfl
def Ae(M:Nat)(now:Int)(ds:List D)(wh rm:Int)(w:Str)(v:Int):Prop:=match chk M now ds 0 []with
 | .stay j=>w="stay"/\v=(j:Int)
 | .taken r=>w="taken"/\v=(r:Int)
 | .ok=>∃L:List Ty,ds=L.map yD/\TO0 L M now/\((∃x,fN L M now=some x/\w="full"/\v=x)\/(fN L M now=none/\((¬G9 L wh/\w="stay"/\v=wh)\/(G9 L wh/\((¬(0<=rm/\rm<(M:Int))/\w="room"/\v=rm)\/((0<=rm/\rm<(M:Int))/\w="told"/\v=0))))))
theorem Q9{wh rm:Int}(hl:ds.length<=24)(J:∀d∈ds,fine d=true):∃w v,Ae M now ds wh rm w v/\ji [.list ds,.int (M:Int),.int now,.int wh,.int rm]=some (.tuple [.str w,.int v]):=by
 obtain⟨δ',⟨Q,R,rfl⟩,e⟩:=zU (M:=M) (now:=now) wh rm ds (by lia) ds [] [] [] none rfl (λq=>by simp) (by simp) J;have e:jj (gNl 6) ag3 ((iT 0 ds.length).map λk:Nat=>cE (k:Int)) [some (.d (.list ds)),some (.d (.int (M:Int))),some (.d (.int now)),some (.d (.int wh)),some (.d (.int rm)),some (.d (.list [])),none,none]=some (ckL (chk M now ds 0 []) [some (.d (.list ds)),some (.d (.int (M:Int))),some (.d (.int now)),some (.d (.int wh)),some (.d (.int rm)),Q,R,none]):=e;have rg:vN (some [.int (ds.length:Int)])=some ((iT 0 ds.length).map λk:Nat=>cE (k:Int)):=by
  rw[GF (by lia) (by lia)];unfold d_;congr 1;rw[show((ds.length:Int)-0).toNat=ds.length by lia,rQ];exact gY λk _=>by rw[uV]
 unfold Ae
 cases W:chk M now ds 0 []with
 |stay j=>
  rw[W]at e;refine⟨_,_,⟨rfl,rfl⟩,?_⟩;unfold ji;simp![rg,fK];rw[e];rfl
 |taken r=>
  rw[W]at e;refine⟨_,_,⟨rfl,rfl⟩,?_⟩;unfold ji;simp![rg,fK];rw[e];rfl
 |ok=>
  rw[W]at e;obtain⟨L,rfl,ok⟩:=YQ hl W;have Z:=af6 (L:=L) (M:=M) (now:=now) (by have:=ok.len;lia);have Z:cT [.list (L.map yD),.int (M:Int),.int now]=some (outI (fN L M now)):=Z;have lI:=Jj L yD
  cases Y:fN L M now with
  |some x=>
   rw[Y]at Z;have Z:cT [.list (L.map yD),.int (M:Int),.int now]=some (.int x):=Z;have U:isNone (.int x)=false:=rfl;refine⟨"full", x,⟨L,rfl,ok,.inl ⟨x,Y,rfl,rfl⟩⟩,?_⟩;unfold ji;simp![rg,fK];rw[e];unfold ckL;simp![Z,U,fli,zl2]
  |none=>
   rw[Y]at Z;have Z:cT [.list (L.map yD),.int (M:Int),.int now]=some .none:=Z;have U:isNone .none=true:=rfl;have rest:∀(w:Str)(v:Int),(bD (sIf (D3.tOr (aQ (dOp gLt (ak 3) (dC (.int 0)))) (D3.tOr (aQ (dOp gGe (ak 3) (dCall jk (aj (ak 0) (aJ))))) (aQ (dUn lD (dOp gIx (dOp gIx (ak 0) (ak 3)) (dC (.int 2))))))) (b_ (dTup (aj (dC (.str "stay")) (aj (dW (ak 3)) (aJ))))) (bV))
    (bD (sIf (D3.tOr (aQ (dOp gLt (ak 4) (dC (.int 0)))) (aQ (dOp gGe (ak 4) (ak 1)))) (b_ (dTup (aj (dC (.str "room")) (aj (dW (ak 4)) (aJ))))) (bV))
    (b_ (dTup (aj (dC (.str "told")) (aj (dC (.int 0)) (aJ))))))) [some (.d (.list (L.map yD))),some (.d (.int (M:Int))),some (.d (.int now)),some (.d (.int wh)),some (.d (.int rm)),Q,R,some (.d .none)]=some (.rt (.tuple [.str w,.int v]))->ji [.list (L.map yD),.int (M:Int),.int now,.int wh,.int rm]=some (.tuple [.str w,.int v]):=λw v h=>by
    unfold ji;simp![rg,fK];rw[e];unfold ckL;simp![Z,U];have h':=h;simp![]at h';rw[h'];rfl
   have O:∀x y:Int,gGe (.int x) (.int y)=some (.bool (decide (y<=x))):=λx y=>rfl
   by_cases h1:wh<0
   .exact⟨"stay", wh,⟨L,rfl,ok,.inr ⟨Y,.inl ⟨λz=>absurd z.1 (by lia),rfl,rfl⟩⟩⟩,rest _ _ (by
     simp![dTr h1,fli,zl2])⟩
   .by_cases h2:wh≥(L.length:Int)
    .exact⟨"stay", wh,⟨L,rfl,ok,.inr ⟨Y,.inl ⟨λz=>absurd z.2.1 (by lia),rfl,rfl⟩⟩⟩,rest _ _ (by
      simp![dFa h1,lI,dTr h2,fli,zl2])⟩
    .obtain⟨k,rfl⟩:∃k:Nat,wh=(k:Int):=⟨wh.toNat,by lia⟩;have T:k<L.length:=by lia
     have X:=ay T;have tn:((k:Int)).toNat=k:=by lia
     cases hh:hk L k with
     |some r=>
      rw[hh]at X;have nr:isNone (hD (some r))=false:=rfl;exact⟨"stay", (k:Int),⟨L,rfl,ok,.inr ⟨Y,.inl ⟨λz=>(by have z:=z.2.2;rw[tn,hh]at z;cases z),rfl,rfl⟩⟩⟩,rest _ _ (by
       simp![dFa h1,lI,dFa h2,X,at2,nr,fli,zl2])⟩
     |none=>
      rw[hh]at X;have nr:isNone (hD none)=true:=rfl;have V:G9 L (k:Int):=⟨by lia,by lia,by rw[tn];exact hh⟩;by_cases S:rm<0
      .exact⟨"room", rm,⟨L,rfl,ok,.inr ⟨Y,.inr ⟨V,.inl ⟨by lia,rfl,rfl⟩⟩⟩⟩,rest _ _ (by
        simp![dFa h1,lI,dFa h2,X,at2,nr,dTr S,fli,zl2])⟩
      .by_cases P:rm≥(M:Int)
       .exact⟨"room", rm,⟨L,rfl,ok,.inr ⟨Y,.inr ⟨V,.inl ⟨by lia,rfl,rfl⟩⟩⟩⟩,rest _ _ (by
         simp![dFa h1,lI,dFa h2,X,at2,nr,dFa S,dTr P,fli,zl2])⟩
       .exact⟨"told", 0,⟨L,rfl,ok,.inr ⟨Y,.inr ⟨V,.inr ⟨by lia,rfl,rfl⟩⟩⟩⟩,rest _ _ (by
         simp![dFa h1,lI,dFa h2,X,at2,nr,dFa S,dFa P,fli,zl2])⟩
section
variable{f:FX}{fS:Str->D->FS}{δ δ':DS}{d r:D}
def Wh{p q:Nat}(hl:ds.length=p)(e:b (ds.map (λd=>some (.d d))++aW q none)=some (.rt r)):fnD p q b ds=some r:=by
 unfold fnD;rw[if_pos hl,e]
def ag4{f g:FS}(h:f δ=some (.rt r)):bD f g δ=some (.rt r):=by
 unfold bD;rw[h];rfl
def ag5{f g:FS}(h:f δ=some (.nx δ')):bD f g δ=g δ':=by
 unfold bD;rw[h];rfl
def ag6(h:f δ=some (.o (.nx δ'))):Bv i f cs fS δ=some (.nx δ'):=by unfold Bv;rw[h];rfl
def ag7(h:f δ=some (.ex cn d))(Y:cn∈cs)(O:flat d=true)(J:fS cn d (δ.set i none)=some (.rt r)):Bv i f cs fS δ=some (.rt r):=by
 unfold Bv;rw[h,aG];dsimp only;rw[if_pos ⟨Y,O⟩,J];rfl
end
theorem Q_:∀(l:List D)(i:Nat)(S:List Nat),chk M now l i S = .ok->∀d∈l,∃s,gty M now d=some s
 |[],_,_,_,_,h=>by cases h
 |d::l,i,S,h,x,Z=>by
  rw[chk]at h
  cases Y:gty M now d with
  |none=>rw[Y]at h;cases h
  |some s=>
   rw[Y]at h;dsimp only at h;rcases aK.mp Z with rfl|Z
   .exact⟨s,Y⟩
   .split at h
    .exact Q_ l _ _ h x Z
    .split at h
     .cases h
     .exact Q_ l _ _ h x Z
def NR(M:Nat)(now:Int)(d:D):Prop:=∀s,gty M now d=some s->s.2.2=none->s.1<=now+59
def TOk.of0(ok:TO0 L M now)(O:chk M now (L.map yD) 0 [] = .ok)(hN:fN L M now=none)(J:∀d∈L.map yD,NR M now d):TOk L M now:=by
 refine⟨ok.len,λs Z=>⟨(ok.ok s Z).1.1,(ok.ok s Z).2⟩,ok.nd,λs Z=>?_,λs Z=>⟨(ok.ok s Z).1.2.1,(ok.ok s Z).1.2.2⟩,λs Z hn=>?_⟩
 .have hm:(if s.1>now then s.1 else now)∈nW (SS L now):=(iQ _).mem_iff.mpr (aA _ (cF.mpr ⟨s,Z,rfl⟩));have:=jz.mp hN _ hm;unfold pM at this;rw[decide_eq_true_iff]at this;lia
 .have hm:yD s∈L.map yD:=cF.mpr ⟨s,Z,rfl⟩;obtain⟨t,Y⟩:=Q_ _ _ _ O _ hm;have e:=(zR Y).1;have e1:s.1=t.1:=by
   injection e with e
   injection e with e _
   injection e
  have e2:t.2.2=none:=by
   injection e with e
   injection e with _ e
   injection e with _ e
   injection e with e _
   rw[hn]at e
   cases h:t.2.2 with
   |none=>rfl
   |some r=>rw[h]at e;cases e
  rw[e1];exact J _ hm t Y e2
def Ra(r:Option Or)(w:Str)(v:Int):Prop:=(∃d,r=some (.o (.rt d))/\w="told"/\v=0)\/∃c,r=some (.ex c (.int v))/\((c="NoStay"/\w="stay")\/(c="Taken"/\w="taken")\/(c="TooFull"/\w="full")\/(c="NoRoom"/\w="room"))
section
variable{wh rm:Int}{ds:List D}{w:Str}{v:Int}
theorem zV(hM:M<=12)(n0:0<=now)(hl:ds.length<=24)(hf:∀d∈ds,fine d=true)(J:∀d∈ds,NR M now d)(hd:Ae M now ds wh rm w v){X:Option Or}
 (h1:∀c d,dJ [.list ds,.int (M:Int),.int now,.int wh]=some (.ex c d)->X=some (.ex c d))
 (h2:∀(L:List Ty)(k:Nat),ds=L.map yD->TOk L M now->k<L.length->hk L k=none->wh=(k:Int)->dJ [.list ds,.int (M:Int),.int now,.int wh]=some (.o (.rt .none))->((∃r:Nat,rm=(r:Int)/\r<M)->∃d,X=some (.o (.rt d)))/\(¬(0<=rm/\rm<(M:Int))->X=some (.ex "NoRoom" (.int rm)))):Ra X w v:=by
 have Z:=Vq (M:=M) (now:=now) hl hf;have a0:(aj (ak 0) (aj (ak 1) (aj (ak 2) (aJ)))) [some (.d (.list ds)),some (.d (.int (M:Int))),some (.d (.int now)),some (.d (.int wh))]=some [.list ds,.int (M:Int),.int now]:=rfl;unfold Ae at hd
 cases W:chk M now ds 0 []with
 |stay j=>
  rw[W]at hd Z;obtain⟨rfl,rfl⟩:=hd;exact .inr ⟨"NoStay", h1 _ _ (by unfold dJ;exact oA rfl (uD (tK a0 Z))),.inl ⟨rfl,rfl⟩⟩
 |taken r=>
  rw[W]at hd Z;obtain⟨rfl,rfl⟩:=hd;exact .inr ⟨"Taken", h1 _ _ (by unfold dJ;exact oA rfl (uD (tK a0 Z))),.inr (.inl ⟨rfl,rfl⟩)⟩
 |ok=>
  rw[W]at hd Z;obtain⟨L,rfl,ok,hd⟩:=hd;obtain⟨O,P⟩:=ag1 ok Z wh;rcases hd with⟨x,V,rfl,rfl⟩|⟨V,hd⟩
  .exact .inr ⟨"TooFull", h1 _ _ (O _ V),.inr (.inr (.inl ⟨rfl,rfl⟩))⟩
  .obtain⟨Q,R⟩:=P V;have T:=TOk.of0 ok W V J;rcases hd with⟨N,rfl,rfl⟩|⟨Y,hd⟩
   .exact .inr ⟨"NoStay", h1 _ _ (R N),.inl ⟨rfl,rfl⟩⟩
   .obtain⟨k,e⟩:∃k:Nat,wh=(k:Int):=⟨wh.toNat,by have:=Y.1;lia⟩;have S:k<L.length:=by have:=Y.2.1;lia
    have U:hk L k=none:=by
     have:=Y.2.2;rw[e]at this;rwa[show((k:Int)).toNat=k by lia]at this
    obtain⟨g1,g2⟩:=h2 L k rfl T S U e (Q Y);rcases hd with⟨nr,rfl,rfl⟩|⟨I,rfl,rfl⟩
    .exact .inr ⟨"NoRoom", g2 nr,.inr (.inr (.inr ⟨rfl,rfl⟩))⟩
    .obtain⟨d,K⟩:=g1 ⟨rm.toNat,by lia,by lia⟩;exact .inl ⟨d,K,rfl,rfl⟩
def Vt(O:M<=12)(J:0<=now)(hl:ds.length<=24)(hf:∀d∈ds,fine d=true)(hr:∀d∈ds,NR M now d)(hd:Ae M now ds wh rm w v):Ra (lY [.list ds,.int (M:Int),.int now,.int wh,.int rm]) w v:=by
 have a1:(aj (ak 0) (aj (ak 1) (aj (ak 2) (aj (ak 3) (aJ))))) [some (.d (.list ds)),some (.d (.int (M:Int))),some (.d (.int now)),some (.d (.int wh)),some (.d (.int rm)),none,none,none,none]=some [.list ds,.int (M:Int),.int now,.int wh]:=rfl;have a2:(aj (ak 1) (aj (ak 4) (aJ))) [some (.d (.list ds)),some (.d (.int (M:Int))),some (.d (.int now)),some (.d (.int wh)),some (.d (.int rm)),none,none,none,none]=some [.int (M:Int),.int rm]:=rfl;refine zV O J hl hf hr hd (λc d h=>?_) λL k e T X Y U V=>⟨λ⟨r,S,Z⟩=>?_,λnr=>?_⟩
 .exact oA rfl (uD (tK a1 h))
 .subst e;subst U;subst S;exact ag2 T O J X Y Z V
 .have W:=DY (M:=M) (r:=rm);rw[if_neg nr]at W;exact oA rfl ((gP (je a1 V)).trans (uD (tK a2 W)))
def Rc(J:M<=12)(O:0<=now)(hl:ds.length<=24)(hf:∀d∈ds,fine d=true)(hr:∀d∈ds,NR M now d)(hd:Ae M now ds wh rm w v):Ra (m8 [.list ds,.int (M:Int),.int now,.int wh,.int rm,.list [.int now]]) w v:=by
 have a1:(aj (ak 0) (aj (ak 1) (aj (ak 2) (aj (ak 3) (aJ))))) [some (.d (.list ds)),some (.d (.int (M:Int))),some (.d (.int now)),some (.d (.int wh)),some (.d (.int rm)),some (.d (.list [.int now])),none,none]=some [.list ds,.int (M:Int),.int now,.int wh]:=rfl;have a2:(aj (ak 1) (aj (ak 4) (aJ))) [some (.d (.list ds)),some (.d (.int (M:Int))),some (.d (.int now)),some (.d (.int wh)),some (.d (.int rm)),some (.d (.list [.int now])),none,none]=some [.int (M:Int),.int rm]:=rfl;refine zV J O hl hf hr hd (λc d h=>?_) λL k e T X Y U V=>⟨λ⟨r,S,Z⟩=>?_,λnr=>?_⟩
 .exact oA rfl (uD (tK a1 h))
 .subst e;subst U;subst S;exact YS T J X Y Z V
 .have W:=DY (M:=M) (r:=rm);rw[if_neg nr]at W;exact oA rfl ((gP (je a1 V)).trans (uD (tK a2 W)))
def Mv(O:M<=12)(J:0<=now)(hl:ds.length<=24)(hf:∀d∈ds,fine d=true)(hr:∀d∈ds,NR M now d)(hd:Ae M now ds wh 0 w v):Ra (j8 [.list ds,.int (M:Int),.int now,.int wh]) w v:=by
 have a1:(aj (ak 0) (aj (ak 1) (aj (ak 2) (aj (ak 3) (aJ))))) [some (.d (.list ds)),some (.d (.int (M:Int))),some (.d (.int now)),some (.d (.int wh))]=some [.list ds,.int (M:Int),.int now,.int wh]:=rfl;refine zV O J hl hf hr hd (λc d h=>?_) λL k e T Z Y W X=>⟨λ_=>?_,λnr=>?_⟩
 .exact oA rfl (uD (tK a1 h))
 .subst e;subst W;exact Vs T O J Z Y X
 .have fa:=DP T (jr Z) ((T.ok _ (jr Z)).2.2 Y);have V:1<=jJ L (bk L k):=by
   have hb:=(T.ok _ (jr Z)).1;refine List.length_pos_of_mem (a:=tAt L k) (cA.mpr ⟨jr Z,?_⟩);unfold hol bk;simp;lia
  have fa:jJ L (bk L k)<=M:=fa;exact absurd ⟨fL 0,by lia⟩ nr
end
def suC:Str->D->FS:=((λc d=>if c="NoRoom"then bD (bL 7 (fY (aj (dC (.bool false)) (aj (dC (.bool false)) (aj (dC (.bool false)) (aj (dC (.bool true)) (aJ))))))) (bD (sIf (D3.tOr (D3.ig (λ_=>some true)) (aQ (dOp gNe (dOp pF (ak 7) (dC (.bool true))) (dC (.int 1))))) (b_ (dTup (aj (dC (.str "odd")) (aj (dC (.int 0)) (aJ))))) (bV)) (bD (sIf (aQ (dOp gIx (ak 7) (dC (.int 0)))) ((λ_=>none)) (bV)) (bD (sIf (aQ (dOp gIx (ak 7) (dC (.int 1)))) (b_ (dTup (aj (dC (.str "taken")) (aj (dC d) (aJ))))) (bV)) (bD (sIf (aQ (dOp gIx (ak 7) (dC (.int 2)))) ((λ_=>none)) (bV)) (b_ (dTup (aj (dC (.str "room")) (aj (dC d) (aJ)))))))))else if c="NoStay"then bD (bL 7 (fY (aj (dC (.bool true)) (aj (dC (.bool false)) (aj (dC (.bool false)) (aj (dC (.bool false)) (aJ))))))) (bD (sIf (D3.tOr (D3.ig (λ_=>some true)) (aQ (dOp gNe (dOp pF (ak 7) (dC (.bool true))) (dC (.int 1))))) (b_ (dTup (aj (dC (.str "odd")) (aj (dC (.int 0)) (aJ))))) (bV)) (bD (sIf (aQ (dOp gIx (ak 7) (dC (.int 0)))) (b_ (dTup (aj (dC (.str "stay")) (aj (dC d) (aJ))))) (bV)) (bD (sIf (aQ (dOp gIx (ak 7) (dC (.int 1)))) ((λ_=>none)) (bV)) (bD (sIf (aQ (dOp gIx (ak 7) (dC (.int 2)))) ((λ_=>none)) (bV)) ((λ_=>none))))))else if c="Taken"then bD (bL 7 (fY (aj (dC (.bool false)) (aj (dC (.bool true)) (aj (dC (.bool false)) (aj (dC (.bool false)) (aJ))))))) (bD (sIf (D3.tOr (D3.ig (λ_=>some true)) (aQ (dOp gNe (dOp pF (ak 7) (dC (.bool true))) (dC (.int 1))))) (b_ (dTup (aj (dC (.str "odd")) (aj (dC (.int 0)) (aJ))))) (bV)) (bD (sIf (aQ (dOp gIx (ak 7) (dC (.int 0)))) ((λ_=>none)) (bV)) (bD (sIf (aQ (dOp gIx (ak 7) (dC (.int 1)))) (b_ (dTup (aj (dC (.str "taken")) (aj (dC d) (aJ))))) (bV)) (bD (sIf (aQ (dOp gIx (ak 7) (dC (.int 2)))) ((λ_=>none)) (bV)) (b_ (dTup (aj (dC (.str "room")) (aj (dC d) (aJ)))))))))else if c="TooFull"then bD (bL 7 (fY (aj (dC (.bool false)) (aj (dC (.bool false)) (aj (dC (.bool true)) (aj (dC (.bool false)) (aJ))))))) (bD (sIf (D3.tOr (D3.ig (λ_=>some true)) (aQ (dOp gNe (dOp pF (ak 7) (dC (.bool true))) (dC (.int 1))))) (b_ (dTup (aj (dC (.str "odd")) (aj (dC (.int 0)) (aJ))))) (bV)) (bD (sIf (aQ (dOp gIx (ak 7) (dC (.int 0)))) ((λ_=>none)) (bV)) (bD (sIf (aQ (dOp gIx (ak 7) (dC (.int 1)))) ((λ_=>none)) (bV)) (bD (sIf (aQ (dOp gIx (ak 7) (dC (.int 2)))) (b_ (dTup (aj (dC (.str "full")) (aj (dC d) (aJ))))) (bV)) ((λ_=>none))))))else(λ_=>none)):Str->D->FS)
def ufC:DS->Option Or:=(xIf (aQ (dOp gEq (ak 0) (dC (.int 0)))) (mQ lY [] (aj (ak 1) (aj (ak 2) (aj (ak 3) (aj (ak 4) (aj (ak 5) (aJ))))))) (xIf (aQ (dOp gEq (ak 0) (dC (.int 1)))) (mQ m8 [] (aj (ak 1) (aj (ak 2) (aj (ak 3) (aj (ak 4) (aj (ak 5) (aj (fY (aj (ak 3) (aJ))) (aJ)))))))) (mQ j8 [] (aj (ak 1) (aj (ak 2) (aj (ak 3) (aj (ak 4) (aJ))))))))
def Vu(j:Int)(a b c e f g x:Option U):suC "NoRoom" (.int j) [a,b,c,e,f,g,none,x]=some (.rt (.tuple [.str "room", .int j])):=by
 have Y:pF (.list [.bool false,.bool false,.bool false,.bool true]) (.bool true)=some (.int 1):=rfl;have Z:gNe (.int 1) (.int 1)=some (.bool false):=rfl;show(if _ then _ else _:FS) _=_;rw[if_pos rfl];simp![Y,Z,at0,at1,at2,at3,zl4,zl2]
def Vv(j:Int)(a b c e f g x:Option U):suC "NoStay" (.int j) [a,b,c,e,f,g,none,x]=some (.rt (.tuple [.str "stay", .int j])):=by
 have Y:pF (.list [.bool true,.bool false,.bool false,.bool false]) (.bool true)=some (.int 1):=rfl;have Z:gNe (.int 1) (.int 1)=some (.bool false):=rfl;show(if _ then _ else _:FS) _=_;rw[if_neg (by decide),if_pos rfl];simp![Y,Z,at0,at1,at2,at3,zl4,zl2]
def Rf(j:Int)(a b c e f g x:Option U):suC "Taken" (.int j) [a,b,c,e,f,g,none,x]=some (.rt (.tuple [.str "taken", .int j])):=by
 have Y:pF (.list [.bool false,.bool true,.bool false,.bool false]) (.bool true)=some (.int 1):=rfl;have Z:gNe (.int 1) (.int 1)=some (.bool false):=rfl;show(if _ then _ else _:FS) _=_;rw[if_neg (by decide),if_neg (by decide),if_pos rfl];simp![Y,Z,at0,at1,at2,at3,zl4,zl2]
def Vw(j:Int)(a b c e f g x:Option U):suC "TooFull" (.int j) [a,b,c,e,f,g,none,x]=some (.rt (.tuple [.str "full", .int j])):=by
 have Y:pF (.list [.bool false,.bool false,.bool true,.bool false]) (.bool true)=some (.int 1):=rfl;have Z:gNe (.int 1) (.int 1)=some (.bool false):=rfl;show(if _ then _ else _:FS) _=_;rw[if_neg (by decide),if_neg (by decide),if_neg (by decide),if_pos rfl];simp![Y,Z,at0,at1,at2,at3,zl4,zl2]
section
variable{wh rm:Int}{ds:List D}{w:Str}{v:Int}
def zW{J:Int}{X:Option Or}(hO:Ra X w v)(O:∀c d,X=some (.ex c d)->ufC [some (.d (.int J)),some (.d (.list ds)),some (.d (.int (M:Int))),some (.d (.int now)),some (.d (.int wh)),some (.d (.int rm)),none,none]=some (.ex c d))
 (ho:∀d,X=some (.o (.rt d))->ufC [some (.d (.int J)),some (.d (.list ds)),some (.d (.int (M:Int))),some (.d (.int now)),some (.d (.int wh)),some (.d (.int rm)),none,none]=some (.o (.nx [some (.d (.int J)),some (.d (.list ds)),some (.d (.int (M:Int))),some (.d (.int now)),some (.d (.int wh)),some (.d (.int rm)),none,none]))) :
 gF [.int J,.list ds,.int (M:Int),.int now,.int wh,.int rm]=some (.tuple [.str w,.int v]):=by
 have ex:∀c r,X=some (.ex c (.int v))->c∈(["NoRoom", "NoStay", "Taken", "TooFull"]:List Str)->suC c (.int v) [some (.d (.int J)),some (.d (.list ds)),some (.d (.int (M:Int))),some (.d (.int now)),some (.d (.int wh)),some (.d (.int rm)),none,none]=some (.rt r)->gF [.int J,.list ds,.int (M:Int),.int now,.int wh,.int rm]=some r:=λc r h Z Y=>by
  have tr:=ag7 (i:=6) (f:=ufC) (cs:=["NoRoom", "NoStay", "Taken", "TooFull"]) (fS:=suC) (δ:=[some (.d (.int J)),some (.d (.list ds)),some (.d (.int (M:Int))),some (.d (.int now)),some (.d (.int wh)),some (.d (.int rm)),none,none]) (O _ _ h) Z rfl Y;unfold gF;exact Wh rfl (ag4 tr)
 rcases hO with⟨d,h,rfl,rfl⟩|⟨c,h,Z⟩
 .have tr:=ag6 (i:=6) (f:=ufC) (cs:=["NoRoom", "NoStay", "Taken", "TooFull"]) (fS:=suC) (ho _ h);unfold gF;refine Wh rfl ((ag5 tr).trans ?_);simp![zl2]
 .rcases Z with⟨rfl,rfl⟩|⟨rfl,rfl⟩|⟨rfl,rfl⟩|⟨rfl,rfl⟩
  .exact ex "NoStay" _ h (by decide) (Vv _ _ _ _ _ _ _ _)
  .exact ex "Taken" _ h (by decide) (Rf _ _ _ _ _ _ _ _)
  .exact ex "TooFull" _ h (by decide) (Vw _ _ _ _ _ _ _ _)
  .exact ex "NoRoom" _ h (by decide) (Vu _ _ _ _ _ _ _ _)
def caught(hM:M<=12)(Y:0<=now)(hl:ds.length<=24)(hf:∀d∈ds,fine d=true)(Z:∀d∈ds,NR M now d){J O:Int}(hw:(J=0/\O=rm)\/(J=1/\O=rm)\/(J=2/\O=0))(hd:Ae M now ds wh O w v):
 gF [.int J,.list ds,.int (M:Int),.int now,.int wh,.int rm]=some (.tuple [.str w,.int v]):=by
 have q:∀a b:Int,gEq (.int a) (.int b)=some (.bool (decide (a=b))):=λa b=>V6
 have a5:∀x,(aj (ak 1) (aj (ak 2) (aj (ak 3) (aj (ak 4) (aj (ak 5) (aJ)))))) [x,some (.d (.list ds)),some (.d (.int (M:Int))),some (.d (.int now)),some (.d (.int wh)),some (.d (.int rm)),none,none]=some [.list ds,.int (M:Int),.int now,.int wh,.int rm]:=λ_=>rfl
 have a4:∀x,(aj (ak 1) (aj (ak 2) (aj (ak 3) (aj (ak 4) (aJ))))) [x,some (.d (.list ds)),some (.d (.int (M:Int))),some (.d (.int now)),some (.d (.int wh)),some (.d (.int rm)),none,none]=some [.list ds,.int (M:Int),.int now,.int wh]:=λ_=>rfl
 have a6:∀x,(aj (ak 1) (aj (ak 2) (aj (ak 3) (aj (ak 4) (aj (ak 5) (aj (fY (aj (ak 3) (aJ))) (aJ))))))) [x,some (.d (.list ds)),some (.d (.int (M:Int))),some (.d (.int now)),some (.d (.int wh)),some (.d (.int rm)),none,none]=some [.list ds,.int (M:Int),.int now,.int wh,.int rm,.list [.int now]]:=λx=>by
  simp![zl1]
 have t0:∀x k:Int,(aQ (dOp gEq (ak 0) (dC (.int k)))) [some (.d (.int x)),some (.d (.list ds)),some (.d (.int (M:Int))),some (.d (.int now)),some (.d (.int wh)),some (.d (.int rm)),none,none]=some (decide (x=k)):=λx k=>by
  simp![q]
 rcases hw with⟨rfl,rfl⟩|⟨rfl,rfl⟩|⟨rfl,rfl⟩
 .exact zW (Vt hM Y hl hf Z hd) (λc d h=>(xJ ((t0 _ _).trans rfl)).trans (tK (a5 _) h)) λd h=>(xJ ((t0 _ _).trans rfl)).trans (je (a5 _) h)
 .exact zW (Rc hM Y hl hf Z hd) (λc d h=>(vR ((t0 _ _).trans rfl)).trans ((xJ ((t0 _ _).trans rfl)).trans (tK (a6 _) h))) λd h=>(vR ((t0 _ _).trans rfl)).trans ((xJ ((t0 _ _).trans rfl)).trans (je (a6 _) h))
 .exact zW (Mv hM Y hl hf Z hd) (λc d h=>(vR ((t0 _ _).trans rfl)).trans ((vR ((t0 _ _).trans rfl)).trans (tK (a4 _) h))) λd h=>(vR ((t0 _ _).trans rfl)).trans ((vR ((t0 _ _).trans rfl)).trans (je (a4 _) h))
def ag8(h:Ae M now ds wh rm w v):w="stay"\/w="taken"\/w="full"\/w="room"\/w="told" := by
 unfold Ae at h;split at h
 .exact .inl h.1
 .exact .inr (.inl h.1)
 .obtain⟨L,_,_,h⟩:=h;rcases h with⟨_,_,h,_⟩|⟨_,⟨_,h,_⟩|⟨_,⟨_,h,_⟩|⟨_,h,_⟩⟩⟩
  .exact .inr (.inr (.inl h))
  .exact .inl h
  .exact .inr (.inr (.inr (.inl h)))
  .exact .inr (.inr (.inr (.inr h)))
end
def Sm(d:D):Prop:=d.depth<=50/\noK d=true
theorem Js:∀l:List D,(∀d∈l,d.depth<=n)->c8 l<=n
 |[],_=>by simp[c8]
 |a::r,h=>by
  have h1:=h a aD;have h2:=Js r λd hd=>h d (aA _ hd)
  simp only[c8];lia
theorem Vx{t:D}(hb:Om t=true)(hd:t.depth<=60)(hn:noK t=true):Le t t=some (.bool true):=by
 cases h:cK t with
 |false=>exact Oo h hb (by lia) hn
 |true=>exact SJ (Com.eq_self ⟨af h,hd⟩)
def YW(i:Int):Sm (.int i):=⟨by simp[c_],rfl⟩
def Vy:Sm .none:=⟨by simp[c_],rfl⟩
def YX(s:Str):Sm (.str s):=⟨by simp[c_],rfl⟩
def Vz:Sm (.dict []):=⟨by simp[c_,PyData.depthKv],rfl⟩
theorem Rg(h:∀d∈ds,Sm d):Le (.list ds) (.list ds)=some (.bool true)/\xg (.list ds) (.list ds)=some (.bool false):=by
 have h1:(d5 ds).depth<=60:=by
  have:=Js (n:=50) ds λd hd=>(h d hd).1
  simp only[c_];lia
 have h2:noK (.list ds)=true:=by
  rw[noK];exact yS _ λd hd=>(h d hd).2
 refine⟨Vx rfl h1 h2,?_⟩
 cases Z:cK (.list ds)with
 |false=>exact Pb Z rfl (by lia) h2
 |true=>exact J4 (Com.ne_self ⟨af Z,h1⟩)
def Jt(h:∀d∈l,d.depth<=40/\noK d=true):Sm (.tuple l):=by
 refine⟨?_,?_⟩
 .have:=Js (n:=40) l λd hd=>(h d hd).1
  simp only[c_];lia
 .rw[noK];exact yS _ λd hd=>(h d hd).2
def ao4{w:Str}(h:w="stay"\/w="taken"\/w="full"\/w="room"\/w="told"):ly 1 (.str w):=by
 rcases h with rfl|rfl|rfl|rfl|rfl<;>exact⟨by rw[dk];decide +kernel,by simp[c_]⟩
def Mw{wh rm:Int}(hM:M<=12)(O:0<=now)(hl:ds.length<=24)(J:∀d∈ds,fine d=true)(hr:∀d∈ds,NR M now d)(hs:∀d∈ds,Sm d):j_ [.list ds,.int (M:Int),.int now,.int wh,.int rm]=some (.bool true):=by
 obtain⟨q1,q2⟩:=Rg hs;have T:uq (.list ds)=some (.list ds):=rfl;obtain⟨δ',e,W,X,Y,rfl⟩:=mR (g:=(gNl 6)) (b:=(bD (bL 7 (dCall ji (aj (ak 0) (aj (ak 1) (aj (ak 2) (aj (ak 3) (aj (dOp gIx (fY (aj (ak 4) (aj (ak 4) (aj (dC (.int 0)) (aJ))))) (ak 6)) (aJ)))))))) (bD (bL 8 (dCall gF (aj (ak 6) (aj (ak 5) (aj (ak 1) (aj (ak 2) (aj (ak 3) (aj (ak 4) (aJ))))))))) (sIf (D3.tOr (aQ (dOp xg (ak 8) (ak 7))) (D3.tOr (D3.ig (aQ (dCall dF (aj (dOp gIx (ak 8) (dC (.int 1))) (aJ))))) (aQ (dOp xg (ak 5) (ak 0))))) (b_ (dC (.bool false))) (bV)))))
  (λ_ δ=>∃W X Y,δ=[some (.d (.list ds)),some (.d (.int (M:Int))),some (.d (.int now)),some (.d (.int wh)),some (.d (.int rm)),some (.d (.list ds)),W,X,Y]) (d_ 0 3)
  [some (.d (.list ds)),some (.d (.int (M:Int))),some (.d (.int now)),some (.d (.int wh)),some (.d (.int rm)),some (.d (.list ds)),none,none,none] ⟨_,_,_,rfl⟩ (by
   rintro i d δ hd ⟨W,X,Y,rfl⟩;obtain⟨hi,rfl⟩:=Dv hd;obtain⟨Z,hw,U⟩:∃Z,(((i:Int)=0/\Z=rm)\/((i:Int)=1/\Z=rm)\/((i:Int)=2/\Z=0))/\pAt [.int rm,.int rm,.int 0] (i:Int)=some (.int Z):=by
    have:i=0\/i=1\/i=2:=by lia
    rcases this with rfl|rfl|rfl
    .exact⟨rm,.inl ⟨rfl,rfl⟩,rfl⟩
    .exact⟨rm,.inr (.inl ⟨rfl,rfl⟩),rfl⟩
    .exact⟨0,.inr (.inr ⟨rfl,rfl⟩),rfl⟩
   obtain⟨w,v,hd,e⟩:=Q9 (M:=M) (now:=now) (wh:=wh) (rm:=Z) hl J;have S:=caught hM O hl J hr hw hd;have V:dF [.int v]=some (.bool true):=lwh (.int v);have k2:xg (.tuple [.str w,.int v]) (.tuple [.str w,.int v])=some (.bool false):=J4 (Com.ne_self (GJ (YG (n:=1) (vO (ao4 (ag8 hd)) (vO Dy Dw))) (by decide)));refine⟨_,[some (.d (.list ds)),some (.d (.int (M:Int))),some (.d (.int now)),some (.d (.int wh)),some (.d (.int rm)),some (.d (.list ds)),some (.d (.int (i:Int))),some (.d (.tuple [.str w,.int v])),some (.d (.tuple [.str w,.int v]))],rfl,.inl ?_,_,_,_,rfl⟩;simp![zl3,U,e,S,k2,at1,V,q2])
 have rg:vN (some [.int 3])=some (d_ 0 3):=GF (by decide) (by decide);unfold j_;simp![T,rg];rw[e];simp![]
def yd{c:Str}:qS (some (.ex c f d)) b=some (.ex c f d):=rfl
def Rh{x:Int}(J:0<=x)(h1:x<l.length):∃t∈l,pAt l x=some t:=by
 obtain⟨a,h,e⟩:=U3 (λd:D=>d) (l:=l) J h1;rw[List.map_id']at e;exact⟨a,h,e⟩
def zl6:6<=sizeLine:=Com.sz (by decide)
structure OkT(t:D):Prop where
 fine:fine t=true
 sm:Sm t
 no0:t ≠ .int 0
def sm3{a b c:D}(ha:a.depth<=40/\noK a=true)(hb:b.depth<=40/\noK b=true)(J:c.depth<=40/\noK c=true):Sm (.tuple [a,b,c]):=Jt λd hd=>by
 rcases aK.mp hd with rfl|hd
 .exact ha
 .rcases aK.mp hd with rfl|hd
  .exact hb
  .rwa[aB.mp hd]
def rJ(i:Int):(cE i).depth<=40/\noK (.int i)=true:=⟨by simp[c_],rfl⟩
def G_:(PyData.none).depth<=40/\noK .none=true:=⟨by simp[c_],rfl⟩
def ao5(b:Bool):(di b).depth<=40/\noK (.bool b)=true:=⟨by simp[c_],rfl⟩
def ag9(x:Str):(PyData.str x).depth<=40/\noK (.str x)=true:=⟨by simp[c_],rfl⟩
def tL{a b c:D}(ha:sca a=true)(hb:sca b=true)(J:sca c=true):OkT (.tuple [a,b,c]):=by
 have k:∀d:D,sca d=true->d.depth<=40/\noK d=true:=λd hd=>by
  cases d with
  |none=>exact G_
  |bool b=>exact ao5 b
  |int i=>exact rJ i
  |str x=>exact ag9 x
  |_=>cases hd
 exact⟨by show(sca a&&sca b)=true;rw[ha,hb];rfl,sm3 (k a ha) (k b hb) (k c J),(by intro z;cases z)⟩
def Ri(ns:List Int){a now:Int}{M:Nat}(ha:0<=a)(hM:M<=12)(n0:0<=now)(n1:now<=399):∃t,pA [.list (ns.map .int),.int a,.int (M:Int),.int now]=some t/\OkT t/\∀a b,t = .tuple [.int a,.int b,.none]->a<=now+59:=by
 have p1:=cZ (ns:=ns) (i:=a) (k:=1) (m:=5) ha (by decide) (by decide) (by decide);have p2:=cZ (ns:=ns) (i:=a) (k:=2) (m:=5) ha (by decide) (by decide) (by decide);have p3:=cZ (ns:=ns) (i:=a) (k:=3) (m:=(M:Int)+1) ha (by decide) (by decide) (by lia);have J:=cZ (ns:=ns) (i:=a) (k:=0) (m:=25) ha (by decide) (by decide) (by decide);have r1:=cY ns a 1 (m:=5) (by decide);have r2:=cY ns a 2 (m:=5) (by decide);have r0:=cY ns a 0 (m:=25) (by decide);generalize g_ ns a 1 5=x1 at *;generalize g_ ns a 2 5=x2 at *;generalize g_ ns a 3 ((M:Int)+1)=x3 at *;generalize g_ ns a 0 25=x0 at *;obtain⟨f,Q⟩:∃f,(if now+x1<399 then now+x1 else 399)=f:=⟨_,rfl⟩;obtain⟨b,hb⟩:∃b,(if f+1+x2<400 then f+1+x2 else 400)=b:=⟨_,rfl⟩;have I:0<=b/\b<=400:=by
  rw[<-hb,<-Q]
  (repeat' split)<;>lia
 obtain⟨K,T⟩:∃c,(if now+1<399 then now+1 else 399)=c:=⟨_,rfl⟩;obtain⟨L,U⟩:∃c,(if now-3>0 then now-3 else 0)=c:=⟨_,rfl⟩;obtain⟨N,V⟩:∃c,(if now>1 then now else 1)=c:=⟨_,rfl⟩;obtain⟨O,W⟩:∃c,(if now-1>0 then now-1 else 0)=c:=⟨_,rfl⟩;obtain⟨P,X⟩:∃c,(if now-2>0 then now-2 else 0)=c:=⟨_,rfl⟩;have gs:TY [.int b]=some (.str (dQ (toString b))):=by
  have:b.natAbs.log2<1920:=uF (Nat.log2_le_self _) (by lia);show(if b.natAbs.log2<1920 then some (PyData.str (dQ (toString b)))else none)=_;rw[if_pos this]
 obtain⟨Z,Y⟩:∃Z,dQ (toString b)=Z:=⟨_,rfl⟩;rw[Y]at gs
 let l:List D:=[.none,.tuple [.int f,.int b],.list [.int f,.int b,.none],.tuple [.int b,.int f,.none],.tuple [.int f,.int f,.none],.tuple [.int (-1),.int b,.none],.tuple [.int f,.int 401,.none],.tuple [.bool true,.int b,.none],.tuple [.int f,.str Z,.none],.int 3,
  .tuple [.int f,.int b,.bool true],.tuple [.int f,.int b,.bool false],.tuple [.int f,.int b,.int (M:Int)],.tuple [.int f,.int b,.int (-1)],.tuple [.int f,.int b,.str "0"],.tuple [.int f,.int b,.list [.int 0]],.str "", .dict [],
  .tuple [.int K,.int 400,.int x3],.tuple [.int L,.int N,.int x3],.tuple [.int O,.int 400,.none],.tuple [.int P,.int 400,.int x3],.tuple [.int now,.int 400,.int x3],.tuple [.int now,.int 400,.int x3],.tuple [.int f,.int b,.none,.none]]
 have all:∀t∈l,OkT t:=by
  have ta:∀i,sca (.int i)=true:=λ_=>rfl
  have tn:sca .none=true:=rfl;have tb:∀i,sca (.bool i)=true:=λ_=>rfl
  have ts:∀i,sca (.str i)=true:=λ_=>rfl
  refine aZ.mpr ⟨⟨rfl,Vy,(by intro z;cases z)⟩,aZ.mpr ⟨⟨rfl,Jt λd hd=>?_,(by intro z;cases z)⟩,aZ.mpr ⟨⟨rfl,⟨by simp[c_,c8],rfl⟩,(by intro z;cases z)⟩,?_⟩⟩⟩
  .rcases aK.mp hd with rfl|hd
   .exact rJ _
   .rw[aB.mp hd];exact rJ _
  refine aZ.mpr ⟨tL (ta _) (ta _) tn,aZ.mpr ⟨tL (ta _) (ta _) tn,aZ.mpr ⟨tL (ta _) (ta _) tn,aZ.mpr ⟨tL (ta _) (ta _) tn,aZ.mpr ⟨tL (tb _) (ta _) tn,aZ.mpr ⟨tL (ta _) (ts _) tn,?_⟩⟩⟩⟩⟩⟩;refine aZ.mpr ⟨⟨rfl,YW _,(by intro z;cases z)⟩,aZ.mpr ⟨tL (ta _) (ta _) (tb _),aZ.mpr ⟨tL (ta _) (ta _) (tb _),aZ.mpr ⟨tL (ta _) (ta _) (ta _),aZ.mpr ⟨tL (ta _) (ta _) (ta _),aZ.mpr ⟨tL (ta _) (ta _) (ts _),?_⟩⟩⟩⟩⟩⟩;refine aZ.mpr ⟨⟨rfl,sm3 (rJ _) (rJ _) ⟨by simp[c_,c8],rfl⟩,(by intro z;cases z)⟩,aZ.mpr ⟨⟨rfl,YX _,(by intro z;cases z)⟩,aZ.mpr ⟨⟨rfl,Vz,(by intro z;cases z)⟩,?_⟩⟩⟩;refine aZ.mpr ⟨tL (ta _) (ta _) (ta _),aZ.mpr ⟨tL (ta _) (ta _) (ta _),aZ.mpr ⟨tL (ta _) (ta _) tn,aZ.mpr ⟨tL (ta _) (ta _) (ta _),aZ.mpr ⟨tL (ta _) (ta _) (ta _),aZ.mpr ⟨tL (ta _) (ta _) (ta _),aZ.mpr ⟨⟨rfl,Jt λd hd=>?_,(by intro z;cases z)⟩,n6 _⟩⟩⟩⟩⟩⟩⟩;rcases aK.mp hd with rfl|hd
  .exact rJ _
  .rcases aK.mp hd with rfl|hd
   .exact rJ _
   .rcases aK.mp hd with rfl|hd
    .exact G_
    .rw[aB.mp hd];exact G_
 obtain⟨t,R,S⟩:=Rh (l:=l) r0.1 (by show x0<(25:Int);exact r0.2);have all2:∀a b,t = .tuple [.int a,.int b,.none]->a<=now+59:=by
  intro G H e;subst e;simp[l]at R;lia
 refine⟨t,?_,all t R,all2⟩;have S:pAt ([.none,.tuple [.int f,.int b],.list [.int f,.int b,.none],.tuple [.int b,.int f,.none],.tuple [.int f,.int f,.none],.tuple [.int (-1),.int b,.none],.tuple [.int f,.int 401,.none],.tuple [.bool true,.int b,.none],.tuple [.int f,.str Z,.none],.int 3,
  .tuple [.int f,.int b,.bool true],.tuple [.int f,.int b,.bool false],.tuple [.int f,.int b,.int (M:Int)],.tuple [.int f,.int b,.int (-1)],.tuple [.int f,.int b,.str "0"],.tuple [.int f,.int b,.list [.int 0]],.str "", .dict [],
  .tuple [.int K,.int 400,.int x3],.tuple [.int L,.int N,.int x3],.tuple [.int O,.int 400,.none],.tuple [.int P,.int 400,.int x3],.tuple [.int now,.int 400,.int x3],.tuple [.int now,.int 400,.int x3],.tuple [.int f,.int b,.none,.none]]) x0=some t:=S
 unfold pA;simp![p1,Q,p2,hb,p3,zl5,zl2,zl3,zl1,zl4,zl6,gs,T,U,V,W,X,J,S,Gi,yU,sU,sV]
def Rj{t:D}(h:∀a b,t = .tuple [.int a,.int b,.none]->a<=now+59):NR M now t:=λs Z hn=>by
 have e:=(zR Z).1;unfold yD at e;rw[hn]at e;exact h _ _ e
structure GL(M:Nat)(now:Int)(ds:List D):Prop where
 len:ds.length<=24
 fine:∀d∈ds,fine d=true
 sm:∀d∈ds,Sm d
 nr:∀d∈ds,NR M now d
abbrev ah0:=dW (dTup (aj (ak 1) (aj (dOp jg (ak 1) (dC (.int 1))) (aj (dC (.none)) (aJ)))))
def Rm(ns:List Int){now:Int}{M:Nat}{ds:List D}(hM:M<=12)(O:0<=now)(n1:now<=399)(h:GL M now ds):∃J,j9 [.list (ns.map .int),.list ds,.int (M:Int),.int now]=some (.list J)/\GL M now J:=by
 have hl:=h.len;have X:=cZ (ns:=ns) (i:=44) (k:=0) (m:=8) (by decide) (by decide) (by decide) (by decide);have p1:=cZ (ns:=ns) (i:=44) (k:=1) (m:=(ds.length:Int)+1) (by decide) (by decide) (by decide) (by lia);have r1:=cY ns 44 1 (m:=(ds.length:Int)+1) (by lia);generalize g_ ns 44 0 8=y at *;generalize g_ ns 44 1 ((ds.length:Int)+1)=p at *;obtain⟨t,R,T,hn⟩:=Ri ns (a:=43) (now:=now) (M:=M) (by decide) hM O n1;have S:uq (.list ds)=some (.list ds):=rfl;have P:cuD ds none (some p)=ds.take p.toNat:=ae1 r1.1;have Q:cuD ds (some p) none=ds.drop p.toNat:=V9 r1.1;have Z:∀m:List D,m.length<=2->ds.length<=22->(∀d∈m,K48.fine d=true/\Sm d/\NR M now d)->GL M now ((ds.take p.toNat++m)++ds.drop p.toNat):=λm hm hd U=>by
  have V:∀d,d∈(ds.take p.toNat++m)++ds.drop p.toNat->d∈m\/d∈ds:=λd z=>by
   rcases aR.mp z with z|z
   .rcases aR.mp z with z|z
    .exact .inr (rT z)
    .exact .inl z
   .exact .inr (List.mem_of_mem_drop z)
  refine⟨?_,λd z=>?_,λd z=>?_,λd z=>?_⟩
  .rw[bx,bx,kj,kE];lia
  .rcases V d z with z|z
   .exact(U d z).1
   .exact h.fine d z
  .rcases V d z with z|z
   .exact(U d z).2.1
   .exact h.sm d z
  .rcases V d z with z|z
   .exact(U d z).2.2
   .exact h.nr d z
 by_cases k1:(ds.length:Int)>22
 .refine⟨ds,?_,h⟩;unfold j9;simp![X,p1,dTr k1,S,Gi,yU,sU,sV,yd]
 .by_cases k2:y<3
  .refine⟨ds,?_,h⟩;unfold j9;simp![X,p1,dFa k1,dTr k2,S,Gi,yU,sU,sV,yd]
  .have Y:ds.length<=22:=by lia
   have lt:(ds.take p.toNat).length<=22:=by rw[kj];lia
   have ld:(ds.drop p.toNat).length<=22:=by rw[kE];lia
   have g1:mF (.list (ds.take p.toNat)) (.list [t])=some (.list (ds.take p.toNat++[t])):=by
    rw[tu,if_pos (by simp only[bI,dG];lia)]
   have g2:mF (.list (ds.take p.toNat++[t])) (.list (ds.drop p.toNat))=some (.list ((ds.take p.toNat++[t])++ds.drop p.toNat)):=by
    rw[tu,if_pos (by rw[bx];simp only[bI,dG];lia)]
   by_cases k3:y<5
   .obtain⟨q,N,q2⟩:∃q:Nat,(if(M:Int)<2 then(M:Int)else 2)=(q:Int)/\q<=2:=by
     split
     .exact⟨M,rfl,by lia⟩
     .exact⟨2,rfl,by lia⟩
    have rg:vN (some [.int (q:Int)])=some (d_ 0 (q:Int)):=GF (by lia) (by lia);have K:(d_ 0 (q:Int)).length=q:=by rw[xY];lia
    have W:(d_ 0 (q:Int)).length<=100000:=by lia
    have nt:flat (.tuple [.int now,.int (now+1),.none])=true:=rfl;have C:fM (gNl 0) (D3.jV) ah0 (jR 1 [3] [some (.d (.list (ns.map .int))),some (.d (.list ds)),some (.d (.int (M:Int))),some (.d (.int now)),some (.d (.int y)),some (.d (.int p)),some (.d (.list ((ds.take p.toNat++[t])++ds.drop p.toNat)))]) (d_ 0 (q:Int))=some ((d_ 0 (q:Int)).map λ_=>cP [.int now,.int (now+1),.none]):=by
     have:=xH (g:=(gNl 0)) (c:=(D3.jV)) (e:=ah0) (δ:=jR 1 [3] [some (.d (.list (ns.map .int))),some (.d (.list ds)),some (.d (.int (M:Int))),some (.d (.int now)),some (.d (.int y)),some (.d (.int p)),some (.d (.list ((ds.take p.toNat++[t])++ds.drop p.toNat)))]) (λd:D=>d) (λ_=>cP [.int now,.int (now+1),.none]) (d_ 0 (q:Int)) λd _=>⟨[some (.d d),some (.d (.int now))],rfl,rfl,by
      simp![zl3,nt]⟩
     rw[List.map_id']at this;exact this
    have g3:mF (.list (ds.take p.toNat)) (.list ((d_ 0 (q:Int)).map λ_=>cP [.int now,.int (now+1),.none]))=some (.list (ds.take p.toNat++(d_ 0 (q:Int)).map λ_=>cP [.int now,.int (now+1),.none])):=by
     rw[tu,if_pos (by rw[au];lia)]
    have L:mF (.list (ds.take p.toNat++(d_ 0 (q:Int)).map λ_=>cP [.int now,.int (now+1),.none])) (.list (ds.drop p.toNat))=some (.list ((ds.take p.toNat++(d_ 0 (q:Int)).map λ_=>cP [.int now,.int (now+1),.none])++ds.drop p.toNat)):=by
     rw[tu,if_pos (by rw[bx,au];lia)]
    refine⟨_,?_,Z ((d_ 0 (q:Int)).map λ_=>cP [.int now,.int (now+1),.none]) (by rw[au];lia) Y λd hd=>?_⟩
    .unfold j9;simp![X,p1,dFa k1,dFa k2,P,Q,R,zl1,g1,g2,dTr k3,V8,N,rg,C,W,g3,L,Gi,yU,sU,sV,yd]
    .obtain⟨x,_,rfl⟩:=cF.mp hd;refine⟨rfl,sm3 (rJ _) (rJ _) G_,Rj λa b e=>?_⟩
     cases e;lia
   .refine⟨_,?_,Z [t] (by simp) Y λd hd=>?_⟩
    .unfold j9;simp![X,p1,dFa k1,dFa k2,P,Q,R,zl1,g1,g2,dFa k3,Gi,yU,sU,sV,yd]
    .rw[aB.mp hd];exact⟨T.fine,T.sm,Rj hn⟩
def Rn{i:Int}(J:0<=i):Com.jX [.list (ns.map .int),.int i]=some (.int (ad8 ns i)):=by
 unfold Com.jX ad8;by_cases h:i<(ns.length:Int)
 .rw[if_pos h];simp![lMp,dTr h,tG J h,ae0,Ad (show(0:Int)<10^60 by decide)]
 .rw[if_neg h];have b:=cY ns i 59 (m:=10^6) (by decide);simp![lMp,dFa h,Qs,ao0,cZ (ns:=ns) J (show(0:Int)<=59 by decide) (show(59:Int)<=1000 by decide) (show(0:Int)<10^6 by decide),cZ (ns:=ns) J (show(0:Int)<=60 by decide) (show(60:Int)<=1000 by decide) (show(0:Int)<10^6 by decide)];rw[mulL (by lia) (by have:(10:Int)^6=1000000:=(by decide);lia)];simp![]
def Kv{x:Int}(hl:∀d∈l,∃z:Int,d = .int z)(J:0<=x)(h1:x<l.length):∃z:Int,pAt l x=some (.int z):=by
 obtain⟨t,Z,e⟩:=Rh J h1;obtain⟨z,rfl⟩:=hl t Z;exact⟨z,e⟩
def Ro{n:Int}:∀d∈d_ 0 n,∃z:Int,d = .int z:=λd hd=>by
 obtain⟨k,_,rfl⟩:=cF.mp hd;exact⟨_,rfl⟩
def ah1{a b c e:Int}:∀d∈[cE a,.int b,.int c,.int e]++d_ 0 (n:Int),∃z:Int,d = .int z:=λd hd=>by
 rcases aR.mp hd with hd|hd
 .rcases aK.mp hd with rfl|hd
  .exact⟨_,rfl⟩
  .rcases aK.mp hd with rfl|hd
   .exact⟨_,rfl⟩
   .rcases aK.mp hd with rfl|hd
    .exact⟨_,rfl⟩
    .rw[aB.mp hd];exact⟨_,rfl⟩
 .exact Ro d hd
def GL.of(ok:TOk L M now):GL M now (L.map yD):=by
 refine⟨by rw[au];exact ok.len,λd hd=>?_,λd hd=>?_,λd hd=>?_⟩
 .obtain⟨s,_,rfl⟩:=cF.mp hd;rfl
 .obtain⟨s,_,rfl⟩:=cF.mp hd;exact sm3 (rJ _) (rJ _) (by cases s.2.2 with|none=>exact G_|some r=>exact rJ _)
 .obtain⟨s,Z,rfl⟩:=cF.mp hd;refine Rj λa b e=>?_
  injection e with e
  injection e with e1 e
  injection e with _ e
  injection e with e _
  injection e1 with e1
  rw[<-e1];refine ok.nr s Z ?_
  cases h:s.2.2 with
  |none=>rfl
  |some r=>rw[h]at e;cases e
def Rp(ns:List Int)(h63:ns.length<=63):QH [.list (ns.map .int)]=some (.bool true):=by
 have p4:=cZ (ns:=ns) (i:=0) (k:=4) (m:=4) (by decide) (by decide) (by decide) (by decide);obtain⟨now,H,n1,en⟩:=Qt ns;obtain⟨b4,G⟩:∃b4,decide (g_ ns 0 4 4=1)=b4:=⟨_,rfl⟩;generalize g_ ns 0 4 4=x4 at *;have ix:pAt [.int 4,.int 7] (if b4=true then 1 else 0)=some (.int (if b4=true then 7 else 4)):=by cases b4<;>rfl
 have x:HY [.bool b4]=some (.int (if b4=true then 1 else 0)):=rfl;have D:(0:Int)<(if b4=true then 7 else 4)/\(if b4=true then(7:Int)else 4)<=7:=by cases b4<;>decide
 have p3:=cZ (ns:=ns) (i:=0) (k:=3) (m:=if b4=true then 7 else 4) (by decide) (by decide) (by decide) D.1;have r3:=cY ns 0 3 D.1;generalize g_ ns 0 3 (if b4=true then 7 else 4)=x3 at *;obtain⟨M,rfl⟩:∃M:Nat,x3=(M:Int):=⟨x3.toNat,by lia⟩;have F:M<=12:=by lia
 obtain⟨L,ok,s⟩:=Jd ns (M:=M) (now:=now) F H n1;have E:=GL.of ok;obtain⟨W,e1,p⟩:=Rm ns F H n1 E;obtain⟨z,v⟩:∃z,Com.jX [.list (ns.map .int),.int 40]=some (.int z):=⟨_,Rn (ns:=ns) (i:=40) (by decide)⟩;have y:=ok.len;have lI:=Jj L yD;have B:uL [.int (L.length:Int)]=some (.list (d_ 0 (L.length:Int))):=JQ (by lia) (by lia);have A:uL [.int (M:Int)]=some (.list (d_ 0 (M:Int))):=JQ (by lia) (by lia);have O:∀n:Nat,(d_ 0 (n:Int)).length=n:=λn=>by rw[xY];lia
 have cat:∀(a b c e:Int)(n:Nat),n<=100->mF (.list [.int a,.int b,.int c,.int e]) (.list (d_ 0 (n:Int)))=some (.list ([.int a,.int b,.int c,.int e]++d_ 0 (n:Int))):=λa b c e n hn=>by
  rw[tu,if_pos];rw[O];simp only[bI,dG];lia
 have r:=cat (-1) (-1-z) (L.length:Int) ((L.length:Int)+z) L.length (by lia);have q:=cat (-1) (-1-z) (M:Int) ((M:Int)+z) M (by lia);have iP:=ah1 (a:=-1) (b:=-1-z) (c:=(L.length:Int)) (e:=(L.length:Int)+z) (n:=L.length);have w:=ah1 (a:=-1) (b:=-1-z) (c:=(M:Int)) (e:=(M:Int)+z) (n:=M);have o:([cE (-1),.int (-1-z),.int (L.length:Int),.int ((L.length:Int)+z)]++d_ 0 (L.length:Int)).length=L.length+4:=by rw[bx,O];simp only[bI,dG];lia
 have lN:([cE (-1),.int (-1-z),.int (M:Int),.int ((M:Int)+z)]++d_ 0 (M:Int)).length=M+4:=by rw[bx,O];simp only[bI,dG];lia
 generalize [cE (-1),.int (-1-z),.int (L.length:Int),.int ((L.length:Int)+z)]++d_ 0 (L.length:Int)=P at *;generalize [cE (-1),.int (-1-z),.int (M:Int),.int ((M:Int)+z)]++d_ 0 (M:Int)=N at *;have K:vN (some [.int 3])=some (d_ 0 3):=GF (by decide) (by decide);obtain⟨δ',e,Q,X,Y,Z,rfl⟩:=mR (g:=(gNl 8)) (b:=(pC (sy (aj (dC (.int 3)) (aJ))) (gNl 9) (bD (bL 10 (dOp gIx (ak 5) (dCall bH (aj (ak 0) (aj (dC (.int 41)) (aj (ak 9) (aj (dCall jk (aj (ak 5) (aJ))) (aJ)))))))) (bD (bL 11 (dOp gIx (ak 6) (dCall bH (aj (ak 0) (aj (dC (.int 42)) (aj (ak 9) (aj (dCall jk (aj (ak 6) (aJ))) (aJ)))))))) (sIf (D3.ig (aQ (dCall j_ (aj (ak 8) (aj (ak 1) (aj (ak 2) (aj (ak 10) (aj (ak 11) (aJ))))))))) (b_ (dC (.bool false))) (bV))))))
  (λ_ δ=>∃Q X Y Z,δ=[some (.d (.list (ns.map .int))),some (.d (.int (M:Int))),some (.d (.int now)),some (.d (.list (L.map yD))),some (.d (.int z)),some (.d (.list P)),some (.d (.list N)),some (.d (.list W)),Q,X,Y,Z]) [.list (L.map yD),.list W,.list (L.map yD)]
  [some (.d (.list (ns.map .int))),some (.d (.int (M:Int))),some (.d (.int now)),some (.d (.list (L.map yD))),some (.d (.int z)),some (.d (.list P)),some (.d (.list N)),some (.d (.list W)),none,none,none,none] ⟨_,_,_,_,rfl⟩ (by
   rintro i d δ hd ⟨Q,X,Y,Z,rfl⟩;have hm:=d8 hd;obtain⟨ds,rfl,T⟩:∃ds,d = .list ds/\GL M now ds:=by
    rcases aK.mp hm with rfl|hm
    .exact⟨_,rfl,E⟩
    .rcases aK.mp hm with rfl|hm
     .exact⟨_,rfl,p⟩
     .rw[aB.mp hm];exact⟨_,rfl,E⟩
   obtain⟨δ',e,C,R,S,rfl⟩:=mR (g:=(gNl 9)) (b:=(bD (bL 10 (dOp gIx (ak 5) (dCall bH (aj (ak 0) (aj (dC (.int 41)) (aj (ak 9) (aj (dCall jk (aj (ak 5) (aJ))) (aJ)))))))) (bD (bL 11 (dOp gIx (ak 6) (dCall bH (aj (ak 0) (aj (dC (.int 42)) (aj (ak 9) (aj (dCall jk (aj (ak 6) (aJ))) (aJ)))))))) (sIf (D3.ig (aQ (dCall j_ (aj (ak 8) (aj (ak 1) (aj (ak 2) (aj (ak 10) (aj (ak 11) (aJ))))))))) (b_ (dC (.bool false))) (bV)))))
    (λ_ δ=>∃X Y Z,δ=[some (.d (.list (ns.map .int))),some (.d (.int (M:Int))),some (.d (.int now)),some (.d (.list (L.map yD))),some (.d (.int z)),some (.d (.list P)),some (.d (.list N)),some (.d (.list W)),some (.d (.list ds)),X,Y,Z]) (d_ 0 3)
    [some (.d (.list (ns.map .int))),some (.d (.int (M:Int))),some (.d (.int now)),some (.d (.list (L.map yD))),some (.d (.int z)),some (.d (.list P)),some (.d (.list N)),some (.d (.list W)),some (.d (.list ds)),X,Y,Z] ⟨_,_,_,rfl⟩ (by
     rintro k d δ hd ⟨X,Y,Z,rfl⟩;obtain⟨hk,rfl⟩:=Dv hd;have I:=cZ (ns:=ns) (i:=41) (k:=(k:Int)) (m:=(P.length:Int)) (by decide) (by lia) (by lia) (by lia);have J:=cZ (ns:=ns) (i:=42) (k:=(k:Int)) (m:=(N.length:Int)) (by decide) (by lia) (by lia) (by lia);have U:=cY ns 41 (k:Int) (m:=(P.length:Int)) (by lia);have V:=cY ns 42 (k:Int) (m:=(N.length:Int)) (by lia);obtain⟨wh,u⟩:=Kv iP U.1 U.2;obtain⟨rm,t⟩:=Kv w V.1 V.2;have td:=Mw (wh:=wh) (rm:=rm) F H T.len T.fine T.nr T.sm;refine⟨_,[some (.d (.list (ns.map .int))),some (.d (.int (M:Int))),some (.d (.int now)),some (.d (.list (L.map yD))),some (.d (.int z)),some (.d (.list P)),some (.d (.list N)),some (.d (.list W)),some (.d (.list ds)),some (.d (.int (k:Int))),some (.d (.int wh)),some (.d (.int rm))],rfl,.inl ?_,_,_,_,rfl⟩;simp![I,u,J,t,td])
   refine⟨[some (.d (.list (ns.map .int))),some (.d (.int (M:Int))),some (.d (.int now)),some (.d (.list (L.map yD))),some (.d (.int z)),some (.d (.list P)),some (.d (.list N)),some (.d (.list W)),some (.d (.list ds)),X,Y,Z],[some (.d (.list (ns.map .int))),some (.d (.int (M:Int))),some (.d (.int now)),some (.d (.list (L.map yD))),some (.d (.int z)),some (.d (.list P)),some (.d (.list N)),some (.d (.list W)),some (.d (.list ds)),C,R,S],rfl,.inl ?_,_,_,_,_,rfl⟩
   .simp![K];exact e)
 unfold QH;simp![p4,G,x,ix,p3,en,s,v,lI,B,A,zl2,zl4,r,q,e1,zl3];rw[e];simp![]
end K48
namespace K48
open L2 My D3 XC XS XK
def top(i:Nat):Stmt:=PySem.Challenge.pw_nightbook_k48_asked_wrongly.main.body.getD i (.Pass ⟨0,0,0,0⟩)
section
seal PE PT PW PA PS PSs PG PGs PI PO PTs
def Hf(D:Dg K mg "is_whole" (top 7) ["thing"])(B:Bl mg):Has P w K mg base (n+1) "is_whole" ["thing"] (spD K fH):=by
 have sc:FnScope ["thing"] ["thing"] (aX (top 7)):=fsc;exact fD (fl:=[.A]) D sc (by decide) (by decide) λf cdv A outer s H E Z=>aY (bW (bM (mO (bB (sI (T := "int") (by decide) (vP 0) (by rfl) B.isinstance_ (by rfl) B.int_ PyProof.Rows.boot_int)) (rC (Ob (bB (sI (T := "bool") (by decide) (vP 0) (by rfl) B.isinstance_ (by rfl) B.bool_ eH)))))))
def D_(D:Dg K mg "all_whole" (top 8) ["things"])(B:Bl mg)(J:Has P w K mg base n "is_whole" ["thing"] (spD K fH)):Has P w K mg base (n+1) "all_whole" ["things"] (spD K gO):=by
 have sc:FnScope ["things"] ["things"] (aX (top 8)):=fsc;exact fD (fl:=[.A]) D sc (by decide) (by decide) λf cdv A outer s H E Z=>aY (bW (bM (dw (Bk rfl) VL (by rfl) B.all_ (show bootBuiltins "all"=some (.builtin "all")by decide +kernel) (dq (bB (lK (L:=[]) (fl':=[.A]) rfl ["thing"] [] [] (Xl (vB 0)) (λ_ _ _ _ _=>gN' (i:=0) (show(["thing"]:List Str).Nodup by decide +kernel)) (λ_ _ _ _ _=>oH) (λ_ _ _ _ _=>bC J Z (dq (vP 0) dz)))) dz))))
def zX(D:Dg K mg "is_tuple_of" (top 9) ["thing", "many"])(B:Bl mg)(J:Has P w K mg base n "all_whole" ["things"] (spD K gO)):Has P w K mg base (n+1) "is_tuple_of" ["thing", "many"] (spD K lH):=by
 have sc:FnScope ["thing", "many"] ["thing", "many"] (aX (top 9)):=fsc;exact fD (fl:=[.A,.A]) D sc (by decide) (by decide) λf cdv A outer s H E Z=>aY (bW (vg (mO (bB (sI (T := "tuple") (by decide) (vP 0) (by rfl) B.isinstance_ (by rfl) B.tuple_ eg)) (mO (bB (lA (oZ Z.units) yN (bB (dw bY jG (by rfl) B.len_ PySem.boot_len (dq (vP 0) dz))) (vP 1) (cG _))) (rC (bC J Z (dq (vP 0) dz)))))))
def Ju(D:Dg K mg "is_pair" (top 10) ["thing"])(B:Bl mg)(J:Has P w K mg base n "is_tuple_of" ["thing", "many"] (spD K lH)):Has P w K mg base (n+1) "is_pair" ["thing"] (spD K mC):=by
 have sc:FnScope ["thing"] ["thing"] (aX (top 10)):=fsc;exact fD (fl:=[.A]) D sc (by decide) (by decide) λf cdv A outer s H E Z=>aY (bW (vg (bC J Z (dq (vP 0) (dq iP dz)))))
def wJ(D:Dg K mg "is_whole_list" (top 11) ["thing"])(B:Bl mg)(J:Has P w K mg base n "all_whole" ["things"] (spD K gO)):Has P w K mg base (n+1) "is_whole_list" ["thing"] (spD K iR):=by
 have sc:FnScope ["thing"] ["thing"] (aX (top 11)):=fsc;exact fD (fl:=[.A]) D sc (by decide) (by decide) λf cdv A outer s H E Z=>aY (bW (vg (mO (bB (sI (T := "list") (by decide) (vP 0) (by rfl) B.isinstance_ (by rfl) B.list_ PyProof.Rows.boot_list)) (rC (bC J Z (dq (vP 0) dz))))))
def Ea(D:Dg K mg "is_rising" (top 12) ["numbers"])(B:Bl mg):Has P w K mg base (n+1) "is_rising" ["numbers"] (spD K jd):=by
 have sc:FnScope ["numbers"] ["numbers"] (aX (top 12)):=fsc;exact fD (fl:=[.A]) D sc (by decide) (by decide) λf cdv A outer s H E Z=>aY (bW (bM (dw (Bk rfl) VL (by rfl) B.all_ (show bootBuiltins "all"=some (.builtin "all")by decide +kernel) (dq (bB (lK (L:=[]) (fl':=[.A,.A]) rfl ["one", "other"] [] [] (Xc (L1:=[]) (L2:=[]) (vB 0) (cW (gw (FW (vB 0) (vq iP) vp))) (by rfl) B.zip_) (λ_ _ _ _ _=>wu rfl (jF (gN' (i:=0) (show(["one", "other"]:List Str).Nodup by decide +kernel)) (jF (gN' (i:=1) (show(["one", "other"]:List Str).Nodup by decide +kernel)) (tO)))) (λ_ _ _ _ _=>oH) (λ_ _ _ _ _=>iK (lA lq b_lt (vP 0) (vP 1) (cG _))))) dz))))
def Af(D:Dg K mg "is_stretch" (top 15) ["thing"])(B:Bl mg)(J:Has P w K mg base n "is_pair" ["thing"] (spD K mC))(O:∃t,mg "NIGHTS"=some (.int 400 t)):Has P w K mg base (n+1) "is_stretch" ["thing"] (spD K iz):=by
 have sc:FnScope ["thing"] ["thing"] (aX (top 15)):=fsc;exact fD (fl:=[.A]) D sc (by decide) (by decide) λf cdv A outer s H E Z=>aY (bW (bM (mO (eY (bC J Z (dq (vP 0) dz))) (rC (K8 qg lq qg wj b_lt wj iP (bZ (dx (vB 0) iP)) (bZ (dx (vB 0) iP)) (bB (R5 O)))))))
def Eb(D:Dg K mg "nights_of" (top 16) ["stay"])(B:Bl mg):Has P w K mg base (n+1) "nights_of" ["stay"] (spD K cH):=by
 have sc:FnScope ["stay"] ["stay"] (aX (top 16)):=fsc;exact fD (fl:=[.A]) D sc (by decide) (by decide) λf cdv A outer s H E Z=>aY (bW (dh rfl (dq (bM (iu (bZ (dx (vB 0) iP)))) (dq (bM (iu (bZ (dx (vB 0) iP)))) dz))))
def Rq(D:Dg K mg "holds" (top 17) ["stretch", "night"])(B:Bl mg):Has P w K mg base (n+1) "holds" ["stretch", "night"] (spD K kY):=by
 have sc:FnScope ["stretch", "night"] ["stretch", "night"] (aX (top 17)):=fsc;exact fD (fl:=[.A,.A]) D sc (by decide) (by decide) λf cdv A outer s H E Z=>aY (bW (bM (FJ qg lq wj b_lt (bZ (dx (vB 0) iP)) (vP 1) (bZ (dx (vB 0) iP)))))
def Hg(D:Dg K mg "count_at" (top 18) ["stretches", "night"])(B:Bl mg)(J:Has P w K mg base n "holds" ["stretch", "night"] (spD K kY)):Has P w K mg base (n+1) "count_at" ["stretches", "night"] (spD K jh):=by
 have sc:FnScope ["stretches", "night"] ["stretches", "night"] (aX (top 18)):=fsc;exact fD (fl:=[.A,.A]) D sc (by decide) (by decide) λf cdv A outer s H E Z=>aY (bW (bM (dw bY jG (by rfl) B.len_ PySem.boot_len (dq (bB (lK (L:=[]) (fl':=[.A,.A]) rfl ["stretch"] ["night"] [1] (iH (vB 0)) (λ_ _ _ _ _=>gN' (i:=0) (show(["stretch", "night"]:List Str).Nodup by decide +kernel)) (λ_ _ _ _ _=>q_ (fW (eY (bC J Z (dq (vP 0) (dq (vP 1) dz)))))) (λ_ _ _ _ _=>iK (iu (vP 0))))) dz))))
def Mx(D:Dg K mg "firsts" (top 19) ["stretches"])(B:Bl mg):Has P w K mg base (n+1) "firsts" ["stretches"] (spD K pq):=by
 have sc:FnScope ["stretches"] ["stretches"] (aX (top 19)):=fsc;exact fD (fl:=[.A]) D sc (by decide) (by decide) λf cdv A outer s H E Z=>aY (bW (bM (lK (L:=[]) (fl':=[.A]) rfl ["stretch"] [] [] (iH (vB 0)) (λ_ _ _ _ _=>gN' (i:=0) (show(["stretch"]:List Str).Nodup by decide +kernel)) (λ_ _ _ _ _=>oH) (λ_ _ _ _ _=>iK (iu (bZ (dx (vB 0) iP)))))))
def Mz(D:Dg K mg "fuller" (top 20) ["stretches", "many", "since"])(B:Bl mg)(J:Has P w K mg base n "count_at" ["stretches", "night"] (spD K jh))(O:Has P w K mg base n "firsts" ["stretches"] (spD K pq)):Has P w K mg base (n+1) "fuller" ["stretches", "many", "since"] (spD K jH):=by
 have sc:FnScope ["stretches", "many", "since", "later", "night"] ["stretches", "many", "since"] (aX (top 20)):=fsc;exact fD (fl:=[.A,.A,.A,.A,.A]) D sc (by decide) (by decide) λf cdv A outer s H E Z=>aM (FN (i:=3) (L:=[]) (fl':=[.A,.A]) rfl sc.nd rfl rfl rfl ["first"] ["since"] [2] (iH (cW (gZ (bC O Z (dq (vP 0) dz))))) (λ_ _ _ _ _=>gN' (i:=0) (show(["first", "since"]:List Str).Nodup by decide +kernel)) (λ_ _ _ _ _=>q_ (cU wN Fx (vP 0) (vP 1) (cG _))) (λ_ _ _ _ _=>iK (iu (vP 0))))
  (aM (jW (L:=[]) de rfl (iH (cW (gw (lR (cW (gw (iY (dq (vA 2) dz)))) (cW (cj (Bj (dq (vP 3) dz) (by rfl) B.sorted_))))))) (gN' (i:=4) sc.nd) (aY (eX (cU wN Fx (eY (bC J Z (dq (vP 0) (dq (vP 4) dz)))) (vP 1) (cG _)) (aY (bW (bM (iu (vP 4))))) (cg))))
  (aY (bW (bM (lu)))))
def Jv(D:Dg K mg "is_stay" (top 22) ["thing", "rooms", "now"])(B:Bl mg)(Y:Has P w K mg base n "is_whole" ["thing"] (spD K fH))(O:Has P w K mg base n "is_stretch" ["thing"] (spD K iz))(J:Has P w K mg base n "nights_of" ["stay"] (spD K cH))(Z:Has P w K mg base n "holds" ["stretch", "night"] (spD K kY)):Has P w K mg base (n+1) "is_stay" ["thing", "rooms", "now"] (spD K dI):=by
 have sc:FnScope ["thing", "rooms", "now", "room"] ["thing", "rooms", "now"] (aX (top 22)):=fsc;exact fD (fl:=[.A,.A,.A,.A]) D sc (by decide) (by decide) λf cdv A outer s H E X=>aM (eX (uh (mV (jD (fW (bB (sI (T := "tuple") (by decide) (vP 0) (by rfl) B.isinstance_ (by rfl) B.tuple_ eg)))) (mV (cU (rY X.units) Ia (bB (dw bY jG (by rfl) B.len_ PySem.boot_len (dq (vP 0) dz))) iP (cG _)) (o8 (jD (fW (eY (bC O X (dq (eY (bC J X (dq (vP 0) dz))) dz))))))))) (aY (bW (bM (mL)))) (cg))
  (aM (sA (i:=3) sc.nd (dx (vB 0) iP))
  (aM (eX (yR (vP 3)) (aY (bW (bM (lA wO Fy (bZ (dx (vB 0) iP)) (vP 2) (cG _))))) (cg))
  (aY (bW (vg (mO (eY (bC Y X (dq (vP 3) dz))) (mO (bB (FJ qg lq wj b_lt iP (vP 3) (vP 1))) (rC (bC Z X (dq (eY (bC J X (dq (vP 0) dz))) (dq (vP 2) dz)))))))))))
def zY(D:Dg K mg "check_stays" (top 23) ["stays", "rooms", "now"])(B:Bl mg)(J:Has P w K mg base n "is_stay" ["thing", "rooms", "now"] (spD K dI)):Has P w K mg base (n+1) "check_stays" ["stays", "rooms", "now"] (spD K lJ):=by
 have sc:FnScope ["stays", "rooms", "now", "taken", "at", "stay"] ["stays", "rooms", "now"] (aX (top 23)):=fsc;exact fD (fl:=[.A,.A,.A,.N,.A,.A]) D sc (by decide) (by decide) λf cdv A outer s H E Z=>aM (CP (i:=3) rfl sc.nd rfl (by first|exact Or.inl rfl|exact Or.inr rfl) (CK))
  (aY (jW (L:=[]) de rfl (vC (vB 0) (by rfl) B.enumerate_) (wu rfl (jF (gN' (i:=4) sc.nd) (jF (gN' (i:=5) sc.nd) (tO)))) (aM (eX (jD (fW (eY (bC J Z (dq (vP 5) (dq (vP 1) (dq (vP 2) dz))))))) (aY (sO)) (cg))
  (aM (eX (cU (XB.Px Z.units) XB.V4 (bZ (dx (vB 5) iP)) (CN 3 rfl) (by with_unfolding_all rfl)) (aY (sO)) (cg))
  (aY (eX (lO (bZ (dx (vB 5) iP))) (aY (XB.J8 (XK.hu1 Z.units) (i:=3) rfl MK (bZ (dx (vB 5) iP)) rfl)) (cg)))))))
def xK(D:Dg K mg "check_stays" (top 23) ["stays", "rooms", "now"])(B:Bl mg)(J:Has P w K mg base (n+2) "is_stay" ["thing", "rooms", "now"] (spD K dI))(O:ExcG K mg fld "NoStay" "at" "InnError")(Y:ExcG K mg fld "Taken" "room" "InnError"):HasX P w K mg base fld (n+3) "check_stays" ["stays", "rooms", "now"] (spX K mg jN) []:=by
 have sc:FnScope ["stays", "rooms", "now", "taken", "at", "stay"] ["stays", "rooms", "now"] (aX (top 23)):=fsc;exact Tf (fl:=[.A,.A,.A,.N,.A,.A]) D sc (by decide) (by decide) λf cdv A outer s H E Z=>eU (nG (CP (i:=3) rfl sc.nd rfl (by first|exact Or.inl rfl|exact Or.inr rfl) (CK)))
  (kW (Xo (L:=[]) ZG rfl (vC (vB 0) (by rfl) B.enumerate_) (wu rfl (jF (gN' (i:=4) sc.nd) (jF (gN' (i:=5) sc.nd) (tO)))) (eU (Gq (jD (fW (eY (bC J Z (dq (vP 5) (dq (vP 1) (dq (vP 2) dz))))))) (kW (Bu O.fly Z (vP 4))) (yV (cg)))
  (eU (Gq (cU (XB.Px Z.units) XB.V4 (bZ (dx (vB 5) iP)) (CN 3 rfl) (by with_unfolding_all rfl)) (kW (Bu Y.fly Z (bZ (dx (vB 5) iP)))) (yV (cg)))
  (kW (nG (eX (lO (bZ (dx (vB 5) iP))) (aY (XB.J8 (XK.hu1 Z.units) (i:=3) rfl MK (bZ (dx (vB 5) iP)) rfl)) (cg))))))))
def Ag(D:Dg K mg "check_full" (top 24) ["stays", "rooms", "now"])(B:Bl mg)(J:Has P w K mg base n "nights_of" ["stay"] (spD K cH))(O:Has P w K mg base n "fuller" ["stretches", "many", "since"] (spD K jH)):Has P w K mg base (n+1) "check_full" ["stays", "rooms", "now"] (spD K iZ):=by
 have sc:FnScope ["stays", "rooms", "now", "night"] ["stays", "rooms", "now"] (aX (top 24)):=fsc;exact fD (fl:=[.A,.A,.A,.A]) D sc (by decide) (by decide) λf cdv A outer s H E Z=>aM (sA (i:=3) sc.nd (gZ (bC O Z (dq (bB (lK (L:=[]) (fl':=[.A]) rfl ["stay"] [] [] (iH (vB 0)) (λ_ _ _ _ _=>gN' (i:=0) (show(["stay"]:List Str).Nodup by decide +kernel)) (λ_ _ _ _ _=>oH) (λ_ _ _ _ _=>bC J Z (dq (vP 0) dz)))) (dq (vP 1) (dq (vP 2) dz))))))
  (aY (eX (lO (vP 3)) (aY (sO)) (cg)))
def zZ(D:Dg K mg "check_full" (top 24) ["stays", "rooms", "now"])(B:Bl mg)(J:Has P w K mg base (n+2) "nights_of" ["stay"] (spD K cH))(Y:Has P w K mg base (n+2) "fuller" ["stretches", "many", "since"] (spD K jH))(O:ExcG K mg fld "TooFull" "night" "InnError"):HasX P w K mg base fld (n+3) "check_full" ["stays", "rooms", "now"] (spX K mg oM) []:=by
 have sc:FnScope ["stays", "rooms", "now", "night"] ["stays", "rooms", "now"] (aX (top 24)):=fsc;exact uM (fl:=[.A,.A,.A,.A]) D sc (by decide) (by decide) λf cdv A outer s H E Z=>eU (nG (sA (i:=3) sc.nd (gZ (bC Y Z (dq (bB (lK (L:=[]) (fl':=[.A]) rfl ["stay"] [] [] (iH (vB 0)) (λ_ _ _ _ _=>gN' (i:=0) (show(["stay"]:List Str).Nodup by decide +kernel)) (λ_ _ _ _ _=>oH) (λ_ _ _ _ _=>bC J Z (dq (vP 0) dz)))) (dq (vP 1) (dq (vP 2) dz)))))))
  (kW (Gq (lO (vP 3)) (kW (yW O.fly Z (vP 3))) (yV (cg))))
def wK{Pt:Addr}(D:XL.DgT K mg "still_to_come" (top 25) ["stays"] Pt "still_to_come.<locals>.<lambda>" ⟨74,30,74,59⟩)(B:Bl mg):Has P w K mg base (n+1) "still_to_come" ["stays"] (spD K jK):=by
 have sc:FnScope ["stays", "places"] ["stays"] (aX (top 25)):=fsc;exact XL.X4 (fl:=[.A,.A]) D sc (by decide) (by decide) λf c A outer s H E hcd Z=>aM (FN (i:=1) (L:=[]) (fl':=[.A,.A]) rfl sc.nd rfl rfl rfl ["place", "stay"] [] [] (vC (vB 0) (by rfl) B.enumerate_) (λ_ _ _ _ _=>wu rfl (jF (gN' (i:=0) (show(["place", "stay"]:List Str).Nodup by decide +kernel)) (jF (gN' (i:=1) (show(["place", "stay"]:List Str).Nodup by decide +kernel)) (tO)))) (λ_ _ _ _ _=>q_ (yR (bZ (dx (vB 1) iP)))) (λ_ _ _ _ _=>iK (iu (vP 0))))
  (aY (bW (bM (XL.IW (i:=0) ⟨⟨_,rfl,hcd⟩,rfl,D.tb⟩ Z (dq (vP 1) Oa) (by rfl) B.sorted_ rfl rfl rfl rfl (λ_ h=>XL.Qa rfl h) (λ_ _ _ _ _=>rfl) rfl rfl rfl (by decide +kernel) rfl rfl (by decide) (by decide) (by decide) rfl rfl))))
def Ah(D:Dg K mg "beginnings" (top 26) ["stays", "rooms", "now"])(B:Bl mg):Has P w K mg base (n+1) "beginnings" ["stays", "rooms", "now"] (spD K cQ):=by
 have sc:FnScope ["stays", "rooms", "now", "nights", "stay"] ["stays", "rooms", "now"] (aX (top 26)):=fsc;exact fD (fl:=[.A,.A,.A,.O,.A]) D sc (by decide) (by decide) λf cdv A outer s H E Z=>aM (oG (i:=3) rfl sc.nd rfl (by first|exact Or.inl rfl|exact Or.inr rfl) (W7 (iY (dq (vA 2) dz)) (vP 1)))
  (aM (jW (L:=[]) de rfl (iH (vB 0)) (gN' (i:=4) sc.nd) (aY (eX (lO (bZ (dx (vB 4) iP))) (aY (yO (i:=3) rfl (dx (vB 4) iP) (bZ (dx (vB 4) iP)) rfl)) (cg))))
  (aY (bW (rA 3 (by decide)))))
def Ai(D:Dg K mg "first_free" (top 27) ["begin", "night"])(B:Bl mg):Has P w K mg base (n+1) "first_free" ["begin", "night"] (spD K iw):=by
 have sc:FnScope ["begin", "night"] ["begin", "night"] (aX (top 27)):=fsc;exact fD (fl:=[.A,.A]) D sc (by decide) (by decide) λf cdv A outer s H E Z=>aY (bW (bM (iu (bZ (dx (cW (cj (lK (L:=[]) (fl':=[.A,.A,.A]) rfl ["room", "since"] ["night"] [1] (vC (vB 0) (by rfl) B.enumerate_) (λ_ _ _ _ _=>wu rfl (jF (gN' (i:=0) (show(["room", "since", "night"]:List Str).Nodup by decide +kernel)) (jF (gN' (i:=1) (show(["room", "since", "night"]:List Str).Nodup by decide +kernel)) (tO)))) (λ_ _ _ _ _=>q_ (cU qg wj (vP 1) (vP 2) (cG _))) (λ_ _ _ _ _=>iK (iu (vP 0)))))) iP)))))
def MF(D:Dg K mg "filled" (top 28) ["stays", "plan", "begin"])(B:Bl mg)(J:Has P w K mg base n "still_to_come" ["stays"] (spD K jK))(Y:Has P w K mg base n "first_free" ["begin", "night"] (spD K iw)):Has P w K mg base (n+1) "filled" ["stays", "plan", "begin"] (spD K tH):=by
 have sc:FnScope ["stays", "plan", "begin", "seats", "free_since", "place", "room"] ["stays", "plan", "begin"] (aX (top 28)):=fsc;exact fD (fl:=[.A,.A,.A,.O,.O,.A,.A]) D sc (by decide) (by decide) λf cdv A outer s H E Z=>aM (oG (i:=3) rfl sc.nd rfl (by first|exact Or.inl rfl|exact Or.inr rfl) (xT (vB 1) (by rfl) B.list_))
  (aM (oG (i:=4) rfl sc.nd rfl (by first|exact Or.inl rfl|exact Or.inr rfl) (xT (vB 2) (by rfl) B.list_))
  (aM (jW (L:=[]) de rfl (iH (cW (gZ (bC J Z (dq (vP 0) dz))))) (gN' (i:=5) sc.nd) (aY (eX (yR (bZ (dx (nZ 3) (vP 5)))) (aM (sA (i:=6) sc.nd (gZ (bC Y Z (dq (sG (nZ 4)) (dq (bZ (dx (cW (dx (vB 0) (vP 5))) iP)) dz)))))
  (aM (yO (i:=3) rfl (vA 6) (vP 5) rfl)
  (aY (yO (i:=4) rfl (dx (cW (dx (vB 0) (vP 5))) iP) (vP 6) rfl)))) (cg))))
  (aY (bW (rA 3 (by decide))))))
def Ec(D:Dg K mg "check_who" (top 30) ["stays", "rooms", "now", "who"])(B:Bl mg)(J:Has P w K mg base n "check_stays" ["stays", "rooms", "now"] (spD K lJ))(O:Has P w K mg base n "check_full" ["stays", "rooms", "now"] (spD K iZ)):Has P w K mg base (n+1) "check_who" ["stays", "rooms", "now", "who"] (spD K nM):=by
 have sc:FnScope ["stays", "rooms", "now", "who"] ["stays", "rooms", "now", "who"] (aX (top 30)):=fsc;exact fD (fl:=[.A,.A,.A,.A]) D sc (by decide) (by decide) λf cdv A outer s H E Z=>aM (xR (eY (bC J Z (dq (vP 0) (dq (vP 1) (dq (vP 2) dz))))))
  (aM (xR (eY (bC O Z (dq (vP 0) (dq (vP 1) (dq (vP 2) dz))))))
  (aY (eX (uh (mV (jD (vH qg lq wj b_lt iP (vP 3) (bB (dw bY jG (by rfl) B.len_ PySem.boot_len (dq (vP 0) dz))))) (o8 (lO (bZ (dx (cW (dx (vB 0) (vP 3))) iP)))))) (aY (sO)) (cg))))
def Aj(D:Dg K mg "check_who" (top 30) ["stays", "rooms", "now", "who"])(B:Bl mg)(O:HasX P w K mg base fld (n+2) "check_full" ["stays", "rooms", "now"] (spX K mg oM) [])(J:HasX P w K mg base fld (n+2) "check_stays" ["stays", "rooms", "now"] (spX K mg jN) [])(Y:ExcG K mg fld "NoStay" "at" "InnError"):HasX P w K mg base fld (n+3) "check_who" ["stays", "rooms", "now", "who"] (spX K mg dJ) []:=by
 have sc:FnScope ["stays", "rooms", "now", "who"] ["stays", "rooms", "now", "who"] (aX (top 30)):=fsc;exact uM (fl:=[.A,.A,.A,.A]) D sc (by decide) (by decide) λf cdv A outer s H E Z=>eU (o_ (dd:=[]) J (λH=>.nil) Z (dq (vP 0) (dq (vP 1) (dq (vP 2) dz))))
  (eU (o_ (dd:=[]) O (λH=>.nil) Z (dq (vP 0) (dq (vP 1) (dq (vP 2) dz))))
  (kW (Gq (uh (mV (jD (vH qg lq wj b_lt iP (vP 3) (bB (dw bY jG (by rfl) B.len_ PySem.boot_len (dq (vP 0) dz))))) (o8 (lO (bZ (dx (cW (dx (vB 0) (vP 3))) iP)))))) (kW (yW Y.fly Z (vP 3))) (yV (cg)))))
def Ak(D:Dg K mg "check_room" (top 31) ["rooms", "room"])(B:Bl mg):Has P w K mg base (n+1) "check_room" ["rooms", "room"] (spD K jc):=by
 have sc:FnScope ["rooms", "room"] ["rooms", "room"] (aX (top 31)):=fsc;exact fD (fl:=[.A,.A]) D sc (by decide) (by decide) λf cdv A outer s H E Z=>aY (eX (jD (vH qg lq wj b_lt iP (vP 1) (vP 0))) (aY (sO)) (cg))
def z6(D:Dg K mg "check_room" (top 31) ["rooms", "room"])(B:Bl mg)(J:ExcG K mg fld "NoRoom" "room" "InnError"):HasX P w K mg base fld (n+3) "check_room" ["rooms", "room"] (spX K mg kZ) []:=by
 have sc:FnScope ["rooms", "room"] ["rooms", "room"] (aX (top 31)):=fsc;exact uM (fl:=[.A,.A]) D sc (by decide) (by decide) λf cdv A outer s H E Z=>kW (Gq (jD (vH qg lq wj b_lt iP (vP 1) (vP 0))) (kW (yW J.fly Z (vP 1))) (yV (cg)))
def Hh(D:Dg K mg "is_tight" (top 32) ["stays", "rooms", "night"])(B:Bl mg)(J:Has P w K mg base n "nights_of" ["stay"] (spD K cH))(O:Has P w K mg base n "count_at" ["stretches", "night"] (spD K jh)):Has P w K mg base (n+1) "is_tight" ["stays", "rooms", "night"] (spD K jY):=by
 have sc:FnScope ["stays", "rooms", "night"] ["stays", "rooms", "night"] (aX (top 32)):=fsc;exact fD (fl:=[.A,.A,.A]) D sc (by decide) (by decide) λf cdv A outer s H E Z=>aY (bW (bM (lA (oZ Z.units) yN (eY (bC O Z (dq (bB (lK (L:=[]) (fl':=[.A]) rfl ["stay"] [] [] (iH (vB 0)) (λ_ _ _ _ _=>gN' (i:=0) (show(["stay"]:List Str).Nodup by decide +kernel)) (λ_ _ _ _ _=>oH) (λ_ _ _ _ _=>bC J Z (dq (vP 0) dz)))) (dq (vP 2) dz)))) (vP 1) (cG _))))
def Al(D:Dg K mg "goes_ahead" (top 33) ["stays", "who", "place", "night"])(B:Bl mg):Has P w K mg base (n+1) "goes_ahead" ["stays", "who", "place", "night"] (spD K gD):=by
 have sc:FnScope ["stays", "who", "place", "night", "stay"] ["stays", "who", "place", "night"] (aX (top 33)):=fsc;exact fD (fl:=[.A,.A,.A,.A,.A]) D sc (by decide) (by decide) λf cdv A outer s H E Z=>aM (sA (i:=4) sc.nd (dx (vB 0) (vP 2)))
  (aY (bW (bM (mO (bB (lA (rY Z.units) Ia (vP 2) (vP 1) (cG _))) (mO (bB (W6 (bZ (dx (vB 4) iP)))) (mO (bB (lA (oZ Z.units) yN (bZ (dx (vB 4) iP)) (vP 3) (cG _))) (rC (lA qg wj (bZ (dx (vB 4) iP)) (bZ (dx (cW (dx (vB 0) (vP 1))) iP)) (cG _)))))))))
def Am(D:Dg K mg "steps_from" (top 34) ["stays", "rooms", "who", "night"])(B:Bl mg)(Y:Has P w K mg base n "is_tight" ["stays", "rooms", "night"] (spD K jY))(J:Has P w K mg base n "goes_ahead" ["stays", "who", "place", "night"] (spD K gD)):Has P w K mg base (n+1) "steps_from" ["stays", "rooms", "who", "night"] (spD K fj):=by
 have sc:FnScope ["stays", "rooms", "who", "night", "steps"] ["stays", "rooms", "who", "night"] (aX (top 34)):=fsc;exact fD (fl:=[.A,.A,.A,.A,.O]) D sc (by decide) (by decide) λf cdv A outer s H E Z=>aM (FP (i:=4) (L:=[]) (fl':=[.A,.A,.A,.A,.A]) rfl sc.nd rfl rfl rfl ["place", "stay"] ["stays", "who", "night"] [0,2,3] (vC (vB 0) (by rfl) B.enumerate_) (λ_ _ _ _ _=>wu rfl (jF (gN' (i:=0) (show(["place", "stay", "stays", "who", "night"]:List Str).Nodup by decide +kernel)) (jF (gN' (i:=1) (show(["place", "stay", "stays", "who", "night"]:List Str).Nodup by decide +kernel)) (tO)))) (λ_ _ _ _ _=>q_ (fW (eY (bC J Z (dq (vP 2) (dq (vP 3) (dq (vP 0) (dq (vP 4) dz)))))))) (λ_ _ _ _ _=>iK (iu (bZ (dh rfl (dq (dx (vB 1) iP) (dq (vA 0) dz)))))))
  (aM (eX (jD (fW (eY (bC Y Z (dq (vP 0) (dq (vP 1) (dq (vP 3) dz))))))) (aY (Bg (i:=4) rfl (gZ (dh rfl (dq (iK (cX fP iI (vP 3) iP)) (dq (iK (lu)) dz)))) rfl)) (cg))
  (aY (bW (rA 4 (by decide)))))
def vU(D:Dg K mg "nights_reached" (top 35) ["stays", "rooms", "who", "begin"])(B:Bl mg)(J:Has P w K mg base n "steps_from" ["stays", "rooms", "who", "night"] (spD K fj)):Has P w K mg base (n+1) "nights_reached" ["stays", "rooms", "who", "begin"] (spD K eG):=by
 have sc:FnScope ["stays", "rooms", "who", "begin", "reached", "night", "step"] ["stays", "rooms", "who", "begin"] (aX (top 35)):=fsc;exact fD (fl:=[.A,.A,.A,.A,.N,.A,.A]) D sc (by decide) (by decide) λf cdv A outer s H E Z=>aM (CP (i:=4) rfl sc.nd rfl (by first|exact Or.inl rfl|exact Or.inr rfl) (XD.PK (vP 3)))
  (aM (jW (L:=[]) de rfl (K6 (by rfl) B.range_ (vh (dq (vP 3) (dq (bZ (dx (cW (dx (vB 0) (vP 2))) iP)) dz)))) (gN' (i:=5) sc.nd) (aY (eX (cU (XK.Xy Z.units) XD.XF (vP 5) (CN 4 rfl) (by with_unfolding_all rfl)) (aY (jW (L:=[]) de rfl (iH (cW (gZ (bC J Z (dq (vP 0) (dq (vP 1) (dq (vP 2) (dq (vP 5) dz)))))))) (gN' (i:=6) sc.nd) (aY (XD.XQ (i:=4) rfl (bZ (dx (vB 6) iP)) (bZ (dh rfl (dq (vA 5) (dq (dx (vB 6) iP) dz)))) rfl ⟨rfl,rfl,rfl,rfl⟩)))) (cg))))
  (aY (bW (Ol 4 rfl))))
def Hi(D:Dg K mg "chain_to" (top 36) ["reached", "last"])(B:Bl mg):Has P w K mg base (n+1) "chain_to" ["reached", "last"] (spD K lX):=by
 have sc:FnScope ["reached", "last", "chain", "night", "place"] ["reached", "last"] (aX (top 36)):=fsc;exact fD (fl:=[.A,.A,.O,.A,.A]) D sc (by decide) (by decide) λf cdv A outer s H E Z=>aM (oG (i:=2) rfl sc.nd rfl (by first|exact Or.inl rfl|exact Or.inr rfl) (uJ (jC dz)))
  (aM (sA (i:=3) sc.nd (vA 1))
  (aM (N_ de (lO (bB (XD.zF (XK.hu1 Z.units) (vP 0) (vP 3) (λ_ _=>rfl)))) (aM (sA (i:=4) sc.nd (dx (cW (cj (XD.zF (XK.hu1 Z.units) (vP 0) (vP 3) (λ_ _=>rfl)))) iP))
  (aM (eX (lO (vP 4)) (aY (Il (i:=2) rfl iP (vA 4) rfl)) (cg))
  (aY (sA (i:=3) sc.nd (dx (cW (cj (XD.zF (XK.hu1 Z.units) (vP 0) (vP 3) (λ_ _=>rfl)))) iP))))))
  (aY (bW (rA 2 (by decide))))))
def Ed(D:Dg K mg "plan_with" (top 37) ["stays", "rooms", "now", "who", "room", "chain"])(B:Bl mg)(J:Has P w K mg base n "beginnings" ["stays", "rooms", "now"] (spD K cQ))(Y:Has P w K mg base n "filled" ["stays", "plan", "begin"] (spD K tH)):Has P w K mg base (n+1) "plan_with" ["stays", "rooms", "now", "who", "room", "chain"] (spD K jZ):=by
 have sc:FnScope ["stays", "rooms", "now", "who", "room", "chain", "plan", "place", "begin"] ["stays", "rooms", "now", "who", "room", "chain"] (aX (top 37)):=fsc;exact fD (fl:=[.A,.A,.A,.A,.A,.A,.O,.A,.O]) D sc (by decide) (by decide) λf cdv A outer s H E Z=>aM (FP (i:=6) (L:=[]) (fl':=[.A]) rfl sc.nd rfl rfl rfl ["stay"] [] [] (iH (vB 0)) (λ_ _ _ _ _=>gN' (i:=0) (show(["stay"]:List Str).Nodup by decide +kernel)) (λ_ _ _ _ _=>oH) (λ_ _ _ _ _=>iK (iu (bZ (dx (vB 0) iP)))))
  (aM (jW (L:=[]) de rfl (iH (cW (gw (lR (vB 5) (cW (gw (iY (dq (vA 3) dz)))))))) (gN' (i:=7) sc.nd) (aY (yO (i:=6) rfl (vA 4) (vP 7) rfl)))
  (aM (oG (i:=8) rfl sc.nd rfl (by first|exact Or.inl rfl|exact Or.inr rfl) (uJ (H_ (bC J Z (dq (vP 0) (dq (vP 1) (dq (vP 2) dz)))))))
  (aM (yO (i:=8) rfl (dx (cW (dx (vB 0) (vP 3))) iP) (vP 4) rfl)
  (aY (bW (vg (bC Y Z (dq (vP 0) (dq (sG (nZ 6)) (dq (sG (nZ 8)) dz))))))))))
def Hj(D:Dg K mg "may_have" (top 38) ["stays", "rooms", "now", "who", "room"])(B:Bl mg)(Z:Has P w K mg base n "beginnings" ["stays", "rooms", "now"] (spD K cQ))(hcheck_who:Has P w K mg base n "check_who" ["stays", "rooms", "now", "who"] (spD K nM))(Y:Has P w K mg base n "check_room" ["rooms", "room"] (spD K jc))(J:Has P w K mg base n "nights_reached" ["stays", "rooms", "who", "begin"] (spD K eG))(hchain_to:Has P w K mg base n "chain_to" ["reached", "last"] (spD K lX))(hplan_with:Has P w K mg base n "plan_with" ["stays", "rooms", "now", "who", "room", "chain"] (spD K jZ)):Has P w K mg base (n+1) "may_have" ["stays", "rooms", "now", "who", "room"] (spD K iD):=by
 have sc:FnScope ["stays", "rooms", "now", "who", "room", "begin", "first", "reached", "chain"] ["stays", "rooms", "now", "who", "room"] (aX (top 38)):=fsc;exact fD (fl:=[.A,.A,.A,.A,.A,.A,.A,.A,.O]) D sc (by decide) (by decide) λf cdv A outer s H E X=>aM (xR (eY (bC hcheck_who X (dq (vP 0) (dq (vP 1) (dq (vP 2) (dq (vP 3) dz)))))))
  (aM (xR (eY (bC Y X (dq (vP 1) (dq (vP 4) dz)))))
  (aM (sA (i:=5) sc.nd (dx (cW (gZ (bC Z X (dq (vP 0) (dq (vP 1) (dq (vP 2) dz)))))) (vP 4)))
  (aM (sA (i:=6) sc.nd (dx (cW (dx (vB 0) (vP 3))) iP))
  (aM (eX (cU wN Fx (vP 5) (vP 6) (cG _)) (aY (bW (dh rfl (dq (bM (gG)) (dq (bM (jC dz)) dz))))) (cg))
  (aM (sA (i:=7) sc.nd (gZ (bC J X (dq (vP 0) (dq (vP 1) (dq (vP 3) (dq (vP 5) dz)))))))
  (aM (eX (cU (XK.BP X.units) XD.BW (vP 6) (vP 7) (by with_unfolding_all rfl)) (aY (bW (dh rfl (dq (bM (gG)) (dq (bM (XD.BX rfl (dq (vP 7) dz) (by rfl) B.sorted_)) dz))))) (cg))
  (aM (oG (i:=8) rfl sc.nd rfl (by first|exact Or.inl rfl|exact Or.inr rfl) (uJ (H_ (bC hchain_to X (dq (vP 7) (dq (vP 6) dz))))))
  (aY (bW (dh rfl (dq (bM (gG)) (dq (rA 8 (by decide)) (dq (vg (bC hplan_with X (dq (vP 0) (dq (vP 1) (dq (vP 2) (dq (vP 3) (dq (vP 4) (dq (sG (nZ 8)) dz)))))))) dz)))))))))))))
def Ef(D:Dg K mg "may_have" (top 38) ["stays", "rooms", "now", "who", "room"])(B:Bl mg)(Z:Has P w K mg base (n+2) "beginnings" ["stays", "rooms", "now"] (spD K cQ))(J:Has P w K mg base (n+2) "nights_reached" ["stays", "rooms", "who", "begin"] (spD K eG))(hchain_to:Has P w K mg base (n+2) "chain_to" ["reached", "last"] (spD K lX))(hplan_with:Has P w K mg base (n+2) "plan_with" ["stays", "rooms", "now", "who", "room", "chain"] (spD K jZ))(Y:HasX P w K mg base fld (n+2) "check_room" ["rooms", "room"] (spX K mg kZ) [])(xcheck_who:HasX P w K mg base fld (n+2) "check_who" ["stays", "rooms", "now", "who"] (spX K mg dJ) []):HasX P w K mg base fld (n+3) "may_have" ["stays", "rooms", "now", "who", "room"] (spX K mg lY) []:=by
 have sc:FnScope ["stays", "rooms", "now", "who", "room", "begin", "first", "reached", "chain"] ["stays", "rooms", "now", "who", "room"] (aX (top 38)):=fsc;exact uM (fl:=[.A,.A,.A,.A,.A,.A,.A,.A,.O]) D sc (by decide) (by decide) λf cdv A outer s H E X=>eU (o_ (dd:=[]) xcheck_who (λH=>.nil) X (dq (vP 0) (dq (vP 1) (dq (vP 2) (dq (vP 3) dz)))))
  (eU (o_ (dd:=[]) Y (λH=>.nil) X (dq (vP 1) (dq (vP 4) dz)))
  (eU (nG (sA (i:=5) sc.nd (dx (cW (gZ (bC Z X (dq (vP 0) (dq (vP 1) (dq (vP 2) dz)))))) (vP 4))))
  (eU (nG (sA (i:=6) sc.nd (dx (cW (dx (vB 0) (vP 3))) iP)))
  (eU (nG (eX (cU wN Fx (vP 5) (vP 6) (cG _)) (aY (bW (dh rfl (dq (bM (gG)) (dq (bM (jC dz)) dz))))) (cg)))
  (eU (nG (sA (i:=7) sc.nd (gZ (bC J X (dq (vP 0) (dq (vP 1) (dq (vP 3) (dq (vP 5) dz))))))))
  (eU (nG (eX (cU (XK.BP X.units) XD.BW (vP 6) (vP 7) (by with_unfolding_all rfl)) (aY (bW (dh rfl (dq (bM (gG)) (dq (bM (XD.BX rfl (dq (vP 7) dz) (by rfl) B.sorted_)) dz))))) (cg)))
  (eU (nG (oG (i:=8) rfl sc.nd rfl (by first|exact Or.inl rfl|exact Or.inr rfl) (uJ (H_ (bC hchain_to X (dq (vP 7) (dq (vP 6) dz)))))))
  (kW (nG (bW (dh rfl (dq (bM (gG)) (dq (rA 8 (by decide)) (dq (vg (bC hplan_with X (dq (vP 0) (dq (vP 1) (dq (vP 2) (dq (vP 3) (dq (vP 4) (dq (sG (nZ 8)) dz)))))))) dz))))))))))))))
def Eh(D:Dg K mg "is_closed" (top 39) ["stays", "rooms", "who", "nights"])(B:Bl mg)(J:Has P w K mg base n "steps_from" ["stays", "rooms", "who", "night"] (spD K fj)):Has P w K mg base (n+1) "is_closed" ["stays", "rooms", "who", "nights"] (spD K gM):=by
 have sc:FnScope ["stays", "rooms", "who", "nights", "night", "step"] ["stays", "rooms", "who", "nights"] (aX (top 39)):=fsc;exact fD (fl:=[.A,.A,.A,.A,.A,.A]) D sc (by decide) (by decide) λf cdv A outer s H E Z=>aM (jW (L:=[]) de rfl (iH (vB 3)) (gN' (i:=4) sc.nd) (aY (jW (L:=[]) de rfl (iH (cW (gZ (bC J Z (dq (vP 0) (dq (vP 1) (dq (vP 2) (dq (vP 4) dz)))))))) (gN' (i:=5) sc.nd) (aY (eX (cU (Br Z.units) JV (bZ (dx (vB 5) iP)) (vP 3) (by with_unfolding_all rfl)) (aY (bW (bM (mL)))) (cg))))))
  (aY (bW (bM (mL))))
def Hl(D:Dg K mg "is_shut" (top 40) ["stays", "rooms", "now", "who", "room", "thing"])(B:Bl mg)(J:Has P w K mg base (n+2) "is_whole_list" ["thing"] (spD K iR))(his_rising:Has P w K mg base (n+2) "is_rising" ["numbers"] (spD K jd))(Y:Has P w K mg base (n+2) "beginnings" ["stays", "rooms", "now"] (spD K cQ))(his_closed:Has P w K mg base (n+2) "is_closed" ["stays", "rooms", "who", "nights"] (spD K gM))(O:HasX P w K mg base fld (n+2) "check_room" ["rooms", "room"] (spX K mg kZ) [])(Z:HasX P w K mg base fld (n+2) "check_who" ["stays", "rooms", "now", "who"] (spX K mg dJ) []):HasX P w K mg base fld (n+3) "is_shut" ["stays", "rooms", "now", "who", "room", "thing"] (spX K mg m8) []:=by
 have sc:FnScope ["stays", "rooms", "now", "who", "room", "thing", "begin", "first"] ["stays", "rooms", "now", "who", "room", "thing"] (aX (top 40)):=fsc;exact uM (fl:=[.A,.A,.A,.A,.A,.A,.A,.A]) D sc (by decide) (by decide) λf cdv A outer s H E X=>eU (o_ (dd:=[]) Z (λH=>.nil) X (dq (vP 0) (dq (vP 1) (dq (vP 2) (dq (vP 3) dz)))))
  (eU (o_ (dd:=[]) O (λH=>.nil) X (dq (vP 1) (dq (vP 4) dz)))
  (eU (nG (eX (uh (mV (jD (fW (eY (bC J X (dq (vP 5) dz))))) (o8 (jD (fW (eY (bC his_rising X (dq (vP 5) dz)))))))) (aY (bW (bM (mL)))) (cg)))
  (eU (nG (sA (i:=6) sc.nd (dx (cW (gZ (bC Y X (dq (vP 0) (dq (vP 1) (dq (vP 2) dz)))))) (vP 4))))
  (eU (nG (sA (i:=7) sc.nd (dx (cW (dx (vB 0) (vP 3))) iP)))
  (eU (nG (eX (cU wN Fx (vP 6) (vP 7) (cG _)) (aY (bW (bM (lA (oZ X.units) yN (vP 5) (bB (jC dz)) (cG _))))) (cg)))
  (eU (nG (eX (uh (mV (cU (Br X.units) JV (vP 6) (vP 5) (by with_unfolding_all rfl)) (mV (cU lq b_lt (bB (dw (Lb rfl) Xa (by rfl) B.min_ dt (dq (vP 5) dz))) (vP 6) (cG _)) (o8 (cU wO Fy (bB (dw (K_ rfl) W9 (by rfl) B.max_ dv (dq (vP 5) dz))) (vP 7) (cG _)))))) (aY (bW (bM (mL)))) (cg)))
  (kW (nG (bW (vg (bC his_closed X (dq (vP 0) (dq (vP 1) (dq (vP 3) (dq (vP 5) dz)))))))))))))))
def Ao(D:Dg K mg "rooms_for" (top 41) ["stays", "rooms", "now", "who"])(B:Bl mg)(O:Has P w K mg base (n+2) "may_have" ["stays", "rooms", "now", "who", "room"] (spD K iD))(J:HasX P w K mg base fld (n+2) "check_who" ["stays", "rooms", "now", "who"] (spX K mg dJ) []):HasX P w K mg base fld (n+3) "rooms_for" ["stays", "rooms", "now", "who"] (spX K mg j8) []:=by
 have sc:FnScope ["stays", "rooms", "now", "who"] ["stays", "rooms", "now", "who"] (aX (top 41)):=fsc;exact uM (fl:=[.A,.A,.A,.A]) D sc (by decide) (by decide) λf cdv A outer s H E Z=>eU (o_ (dd:=[]) J (λH=>.nil) Z (dq (vP 0) (dq (vP 1) (dq (vP 2) (dq (vP 3) dz)))))
  (kW (nG (bW (bM (lK (L:=[]) (fl':=[.A,.A,.A,.A,.A]) rfl ["room"] ["stays", "rooms", "now", "who"] [0,1,2,3] (mz (by rfl) B.range_ (vh (dq (vP 1) dz))) (λ_ _ _ _ _=>gN' (i:=0) (show(["room", "stays", "rooms", "now", "who"]:List Str).Nodup by decide +kernel)) (λ_ _ _ _ _=>q_ (cU (oZ Z.units) yN (bZ (dx (cW (gZ (bC O Z (dq (vP 1) (dq (vP 2) (dq (vP 3) (dq (vP 4) (dq (vP 0) dz)))))))) iP)) (bB (gG)) (cG _))) (λ_ _ _ _ _=>iK (iu (vP 0))))))))
def Ei(D:Dg K mg "_law_cell" (top 43) ["_law_script", "_law_at"])(B:Bl mg):Has P w K mg base (n+1) "_law_cell" ["_law_script", "_law_at"] (spD K jy):=by
 have sc:FnScope ["_law_script", "_law_at"] ["_law_script", "_law_at"] (aX (top 43)):=fsc;exact fD (fl:=[.A,.A]) D sc (by decide) (by decide) λf cdv A outer s H E Z=>aM (eX (cU lq b_lt (vP 1) (bB (dw bY jG (by rfl) B.len_ PySem.boot_len (dq (vP 0) dz))) (cG _)) (aY (bW (bM (cX m9 uw (bZ (dx (vB 0) (vP 1))) iP)))) (cg))
  (aM (eX (cU (oZ Z.units) yN (vP 0) (bB (jC dz)) (cG _)) (aY (bW (bM (cX fP iI (bB (cX nj ur iP (vP 1))) iP)))) (cg))
  (aY (bW (bM (cX fP iI (bB (cX m9 uw (bZ (dx (vB 0) (bB (cX m9 uw (bB (cX nj ur (vP 1) iP)) (bB (dw bY jG (by rfl) B.len_ PySem.boot_len (dq (vP 0) dz))))))) iP)) (bB (cX nj ur iP (vP 1))))))))
def Ej(D:Dg K mg "_law_part" (top 44) ["_law_script", "_law_at", "_law_k", "_law_many"])(B:Bl mg)(J:Has P w K mg base n "_law_cell" ["_law_script", "_law_at"] (spD K jy)):Has P w K mg base (n+1) "_law_part" ["_law_script", "_law_at", "_law_k", "_law_many"] (spD K bH):=by
 have sc:FnScope ["_law_script", "_law_at", "_law_k", "_law_many", "_law_number", "_law_j"] ["_law_script", "_law_at", "_law_k", "_law_many"] (aX (top 44)):=fsc;exact fD (fl:=[.A,.A,.A,.A,.A,.A]) D sc (by decide) (by decide) λf cdv A outer s H E Z=>aM (eX (uh (yQ (cU lq b_lt (vP 1) (bB (dw bY jG (by rfl) B.len_ PySem.boot_len (dq (vP 0) dz))) (cG _)) (vm (cU wO Fy (bZ (dx (vB 0) (vP 1))) (bB (cX yu Fw iP iP)) (cG _))))) (aM (sA (i:=4) sc.nd (dx (vB 0) (vP 1)))
  (aM (jW (L:=[]) de rfl (mz (by rfl) B.range_ (vh (dq (vP 2) dz))) (gN' (i:=5) sc.nd) (aY (sA (i:=4) sc.nd (cj (cX JH VH (vP 4) iP)))))
  (aY (eX (cU wN Fx (vP 4) iP (cG _)) (aY (bW (bM (cX m9 uw (bB (cX m9 uw (vP 4) iP)) (vP 3))))) (cg))))) (cg))
  (aM (sA (i:=4) sc.nd (cj (cX m9 uw (bB (cX nj ur (bB (cX fP iI (bB (cX fP iI (eY (bC J Z (dq (vP 0) (dq (vP 1) dz)))) (bB (cX nj ur iP (vP 1))))) iP)) (bB (cX fP iI iP (bB (cX nj ur iP (vP 2))))))) iP)))
  (aM (sA (i:=4) sc.nd (cj (cX fP iI (bB (cX m9 uw (bB (cX nj ur (vP 4) (vP 4))) iP)) iP)))
  (aY (bW (bM (cX m9 uw (bB (cX JH VH (bB (cX m9 uw (bB (cX nj ur (vP 4) (vP 4))) iP)) iP)) (vP 3)))))))
def Ho(D:Dg K mg "_law_far" (top 45) ["_law_script", "_law_at"])(B:Bl mg)(J:Has P w K mg base n "_law_part" ["_law_script", "_law_at", "_law_k", "_law_many"] (spD K bH)):Has P w K mg base (n+1) "_law_far" ["_law_script", "_law_at"] (spD K jX):=by
 have sc:FnScope ["_law_script", "_law_at"] ["_law_script", "_law_at"] (aX (top 45)):=fsc;exact fD (fl:=[.A,.A]) D sc (by decide) (by decide) λf cdv A outer s H E Z=>aM (eX (cU lq b_lt (vP 1) (bB (dw bY jG (by rfl) B.len_ PySem.boot_len (dq (vP 0) dz))) (cG _)) (aY (bW (bM (cX m9 uw (bZ (dx (vB 0) (vP 1))) (bB (cX yu Fw iP iP)))))) (cg))
  (aY (bW (bM (cX fP iI (bB (cX nj ur (eY (bC J Z (dq (vP 0) (dq (vP 1) (dq iP (dq (bB (cX yu Fw iP iP)) dz)))))) (bB (cX yu Fw iP iP)))) (eY (bC J Z (dq (vP 0) (dq (vP 1) (dq iP (dq (bB (cX yu Fw iP iP)) dz))))))))))
def Aq(D:Dg K mg "_law_whole" (top 46) ["_law_found"])(B:Bl mg):Has P w K mg base (n+1) "_law_whole" ["_law_found"] (spD K dF):=by
 have sc:FnScope ["_law_found"] ["_law_found"] (aX (top 46)):=fsc;exact fD (fl:=[.A]) D sc (by decide) (by decide) λf cdv A outer s H E Z=>aY (bW (bM (mO (bB (sI (T := "int") (by decide) (vP 0) (by rfl) B.isinstance_ (by rfl) B.int_ PyProof.Rows.boot_int)) (rC (Ob (bB (sI (T := "bool") (by decide) (vP 0) (by rfl) B.isinstance_ (by rfl) B.bool_ eH)))))))
def Ek(D:Dg K mg "_law_stay" (top 47) ["_law_script", "_law_at", "_law_turn", "_law_mode", "_law_now_here"])(B:Bl mg)(J:Has P w K mg base n "_law_part" ["_law_script", "_law_at", "_law_k", "_law_many"] (spD K bH)):Has P w K mg base (n+1) "_law_stay" ["_law_script", "_law_at", "_law_turn", "_law_mode", "_law_now_here"] (spD K gJ):=by
 have sc:FnScope ["_law_script", "_law_at", "_law_turn", "_law_mode", "_law_now_here", "_law_first", "_law_long"] ["_law_script", "_law_at", "_law_turn", "_law_mode", "_law_now_here"] (aX (top 47)):=fsc;exact fD (fl:=[.A,.A,.A,.A,.A,.A,.A]) D sc (by decide) (by decide) λf cdv A outer s H E Z=>aM (sA (i:=5) sc.nd (cj (dw (mZ rfl) uK (by rfl) B.min_ dt (dq iP (dq (bB (cX fP iI (vP 4) (eY (bC J Z (dq (vP 0) (dq (vP 1) (dq (vP 2) (dq (bZ (dx (cW (cj (jC (dq iC (dq iC (dq iC (dq iC dz))))))) (vP 3))) dz)))))))) dz)))))
  (aM (sA (i:=6) sc.nd (cj (cX fP iI iP (eY (bC J Z (dq (vP 0) (dq (vP 1) (dq (bB (cX fP iI (vP 2) iP)) (dq (bZ (dx (cW (cj (jC (dq iC (dq iC (dq iC (dq iC dz))))))) (eY (bC J Z (dq (vP 0) (dq (vP 1) (dq (bB (cX fP iI (vP 2) iP)) (dq iP dz)))))))) dz)))))))))
  (aY (bW (dh rfl (dq (bM (iu (vP 5))) (dq (bM (dw (mZ rfl) uK (by rfl) B.min_ dt (dq iP (dq (bB (cX fP iI (vP 5) (vP 6))) dz)))) (dq (bM (lu)) dz)))))))
def Ar(D:Dg K mg "_law_guest" (top 48) ["_law_script", "_law_at", "_law_turn", "_law_now_here", "_law_room"])(B:Bl mg)(J:Has P w K mg base n "_law_part" ["_law_script", "_law_at", "_law_k", "_law_many"] (spD K bH)):Has P w K mg base (n+1) "_law_guest" ["_law_script", "_law_at", "_law_turn", "_law_now_here", "_law_room"] (spD K iy):=by
 have sc:FnScope ["_law_script", "_law_at", "_law_turn", "_law_now_here", "_law_room", "_law_first", "_law_more"] ["_law_script", "_law_at", "_law_turn", "_law_now_here", "_law_room"] (aX (top 48)):=fsc;exact fD (fl:=[.A,.A,.A,.A,.A,.A,.A]) D sc (by decide) (by decide) λf cdv A outer s H E Z=>aM (sA (i:=5) sc.nd (cj (dw (oO rfl) wA (by rfl) B.max_ dv (dq iP (dq (bB (cX vX Bf (vP 3) (eY (bC J Z (dq (vP 0) (dq (vP 1) (dq (vP 2) (dq iP dz)))))))) dz)))))
  (aM (sA (i:=6) sc.nd (gZ (bC J Z (dq (vP 0) (dq (vP 1) (dq (bB (cX fP iI (vP 2) iP)) (dq (bZ (dx (cW (cj (jC (dq iC (dq iC (dq iC dz)))))) (eY (bC J Z (dq (vP 0) (dq (vP 1) (dq (bB (cX fP iI (vP 2) iP)) (dq iP dz)))))))) dz)))))))
  (aY (bW (dh rfl (dq (bM (iu (vP 5))) (dq (bM (dw (mZ rfl) uK (by rfl) B.min_ dt (dq iP (dq (bB (cX fP iI (bB (cX fP iI (vP 3) iP)) (vP 6))) dz)))) (dq (bM (iu (vP 4))) dz)))))))
def El(D:Dg K mg "_law_full" (top 49) ["_law_stays_here", "_law_rooms", "_law_now_here"])(B:Bl mg):Has P w K mg base (n+1) "_law_full" ["_law_stays_here", "_law_rooms", "_law_now_here"] (spD K cT):=by
 have sc:FnScope ["_law_stays_here", "_law_rooms", "_law_now_here", "_law_night"] ["_law_stays_here", "_law_rooms", "_law_now_here"] (aX (top 49)):=fsc;exact fD (fl:=[.A,.A,.A,.A]) D sc (by decide) (by decide) λf cdv A outer s H E Z=>aM (jW (L:=[]) de rfl (iH (cW (cj (Bj (dq (JG (lR (cW (gw (iY (dq (vA 2) dz)))) (cW (cj (lK (L:=[]) (fl':=[.A,.A]) rfl ["_law_one"] ["_law_now_here"] [2] (iH (vB 0)) (λ_ _ _ _ _=>gN' (i:=0) (show(["_law_one", "_law_now_here"]:List Str).Nodup by decide +kernel)) (λ_ _ _ _ _=>oH) (λ_ _ _ _ _=>iK (dw (oO rfl) wA (by rfl) B.max_ dv (dq (vP 1) (dq (bZ (dx (vB 0) iP)) dz))))))))) dz) (by rfl) B.sorted_)))) (gN' (i:=3) sc.nd) (aY (eX (cU wN Fx (bB (dw bY jG (by rfl) B.len_ PySem.boot_len (dq (bB (lK (L:=[]) (fl':=[.A,.A]) rfl ["_law_one"] ["_law_night"] [3] (iH (vB 0)) (λ_ _ _ _ _=>gN' (i:=0) (show(["_law_one", "_law_night"]:List Str).Nodup by decide +kernel)) (λ_ _ _ _ _=>q_ (uh (yQ (cU qg wj (bZ (dx (vB 0) iP)) (vP 1) (cG _)) (vm (cU lq b_lt (vP 1) (bZ (dx (vB 0) iP)) (cG _)))))) (λ_ _ _ _ _=>iK (iu (vP 0))))) dz))) (vP 1) (cG _)) (aY (bW (bM (iu (vP 3))))) (cg))))
  (aY (bW (bM (lu))))
def Hq(D:Dg K mg "_law_now" (top 50) ["_law_script"])(B:Bl mg)(J:Has P w K mg base n "_law_part" ["_law_script", "_law_at", "_law_k", "_law_many"] (spD K bH)):Has P w K mg base (n+1) "_law_now" ["_law_script"] (spD K lW):=by
 have sc:FnScope ["_law_script"] ["_law_script"] (aX (top 50)):=fsc;exact fD (fl:=[.A]) D sc (by decide) (by decide) λf cdv A outer s H E Z=>aY (bW (bM (iu (bZ (dx (cW (cj (jC (dq iC (dq (bC J Z (dq (vP 0) (dq iP (dq iP (dq iP dz))))) (dq (bC J Z (dq (vP 0) (dq iP (dq iP (dq iP dz))))) (dq iC dz))))))) (eY (bC J Z (dq (vP 0) (dq iP (dq iP (dq iP dz)))))))))))
def Av(D:Dg K mg "_law_stays" (top 51) ["_law_script", "_law_rooms", "_law_now_here", "_law_most"])(B:Bl mg)(J:Has P w K mg base n "_law_part" ["_law_script", "_law_at", "_law_k", "_law_many"] (spD K bH))(Z:Has P w K mg base n "_law_stay" ["_law_script", "_law_at", "_law_turn", "_law_mode", "_law_now_here"] (spD K gJ))(Y:Has P w K mg base n "_law_guest" ["_law_script", "_law_at", "_law_turn", "_law_now_here", "_law_room"] (spD K iy))(h_law_full:Has P w K mg base n "_law_full" ["_law_stays_here", "_law_rooms", "_law_now_here"] (spD K cT)):Has P w K mg base (n+1) "_law_stays" ["_law_script", "_law_rooms", "_law_now_here", "_law_most"] (spD K i_):=by
 have sc:FnScope ["_law_script", "_law_rooms", "_law_now_here", "_law_most", "_law_mode", "_law_stays_here", "_law_room", "_law_at", "_law_wide", "_law_k", "_law_new"] ["_law_script", "_law_rooms", "_law_now_here", "_law_most"] (aX (top 51)):=fsc;exact fD (fl:=[.A,.A,.A,.A,.A,.O,.A,.A,.A,.A,.A]) D sc (by decide) (by decide) λf cdv A outer s H E X=>aM (sA (i:=4) sc.nd (gZ (bC J X (dq (vP 0) (dq iP (dq iP (dq iP dz)))))))
  (aM (oG (i:=5) rfl sc.nd rfl (by first|exact Or.inl rfl|exact Or.inr rfl) (uJ (jC dz)))
  (aM (jW (L:=[]) de rfl (mz (by rfl) B.range_ (vh (dq (vP 1) dz))) (gN' (i:=6) sc.nd) (aY (eX (uh (yQ (cU (oZ X.units) yN (eY (bC J X (dq (vP 0) (dq iP (dq (vP 6) (dq iP dz)))))) iP (cG _)) (vm (cU lq b_lt (bB (dw bY jG (by rfl) B.len_ PySem.boot_len (dq (sG (nZ 5)) dz))) (vP 3) (cG _))))) (aM (sA (i:=7) sc.nd (gZ (bC J X (dq (vP 0) (dq iP (dq (bB (cX fP iI iP (vP 6))) (dq (bB (cX fP iI (bB (dw bY jG (by rfl) B.len_ PySem.boot_len (dq (sG (nZ 5)) dz))) iP)) dz)))))))
  (aY (Il (i:=5) rfl (vP 7) (gZ (bC Y X (dq (vP 0) (dq iP (dq (bB (cX nj ur iP (vP 6))) (dq (vP 2) (dq (vP 6) dz))))))) rfl))) (cg))))
  (aM (sA (i:=8) sc.nd (cj (lA (oZ X.units) yN (eY (bC J X (dq (vP 0) (dq iP (dq iP (dq iP dz)))))) iP (cG _))))
  (aM (jW (L:=[]) de rfl (mz (by rfl) B.range_ (vh (dq (bZ (dx (cW (cj (jC (dq iC (dq iC dz))))) (bB (JN (dq (vP 8) dz) (by rfl) B.int_)))) dz))) (gN' (i:=9) sc.nd) (aM (sA (i:=10) sc.nd (gZ (bC Z X (dq (vP 0) (dq (bB (cX fP iI iP (vP 9))) (dq iP (dq (vP 4) (dq (vP 2) dz))))))))
  (aM (sA (i:=7) sc.nd (gZ (bC J X (dq (vP 0) (dq iP (dq (vP 9) (dq (bB (cX fP iI (bB (dw bY jG (by rfl) B.len_ PySem.boot_len (dq (sG (nZ 5)) dz))) iP)) dz)))))))
  (aY (eX (uh (yQ (cU lq b_lt (bB (dw bY jG (by rfl) B.len_ PySem.boot_len (dq (sG (nZ 5)) dz))) (vP 3) (cG _)) (vm (yR (eY (bC h_law_full X (dq (JG (lR (nZ 5) (cW (gw (iY (dq (vA 10) dz)))))) (dq (vP 1) (dq (vP 2) dz))))))))) (aY (Il (i:=5) rfl (vP 7) (vA 10) rfl)) (cg))))))
  (aY (bW (rA 5 (by decide))))))))
def Hr(D:Dg K mg "_law_odd" (top 52) ["_law_script", "_law_at", "_law_rooms", "_law_now_here"])(B:Bl mg)(J:Has P w K mg base n "_law_part" ["_law_script", "_law_at", "_law_k", "_law_many"] (spD K bH)):Has P w K mg base (n+1) "_law_odd" ["_law_script", "_law_at", "_law_rooms", "_law_now_here"] (spL K pA):=by
 have sc:FnScope ["_law_script", "_law_at", "_law_rooms", "_law_now_here", "_law_first", "_law_behind", "_law_room", "_law_some"] ["_law_script", "_law_at", "_law_rooms", "_law_now_here"] (aX (top 52)):=fsc;exact Oz (fl:=[.A,.A,.A,.A,.A,.A,.A,.A]) D sc (by decide) (by decide) λf cdv A outer s H E Z=>aM (sA (i:=4) sc.nd (cj (dw (mZ rfl) uK (by rfl) B.min_ dt (dq iP (dq (bB (cX fP iI (vP 3) (eY (bC J Z (dq (vP 0) (dq (vP 1) (dq iP (dq iP dz)))))))) dz)))))
  (aM (sA (i:=5) sc.nd (cj (dw (mZ rfl) uK (by rfl) B.min_ dt (dq iP (dq (bB (cX fP iI (bB (cX fP iI (vP 4) iP)) (eY (bC J Z (dq (vP 0) (dq (vP 1) (dq iP (dq iP dz)))))))) dz)))))
  (aM (sA (i:=6) sc.nd (gZ (bC J Z (dq (vP 0) (dq (vP 1) (dq iP (dq (bB (cX fP iI (vP 2) iP)) dz)))))))
  (aM (sA (i:=7) sc.nd (gw (iY (dq (cj (lu)) (dq (dh rfl (dq (vA 4) (dq (vA 5) dz))) (dq (gw (iY (dq (vA 4) (dq (vA 5) (dq (cj (lu)) dz))))) (dq (dh rfl (dq (vA 5) (dq (vA 4) (dq (cj (lu)) dz)))) (dq (dh rfl (dq (vA 4) (dq (vA 4) (dq (cj (lu)) dz)))) dz))))))))
  (aM (sA (i:=7) sc.nd (gw (lR (vB 7) (cW (gw (iY (dq (dh rfl (dq (cj (wC iP)) (dq (vA 5) (dq (cj (lu)) dz)))) (dq (dh rfl (dq (vA 4) (dq (cj (lQ)) (dq (cj (lu)) dz)))) (dq (dh rfl (dq (cj (mL)) (dq (vA 5) (dq (cj (lu)) dz)))) (dq (dh rfl (dq (vA 4) (dq (cj (XN.T3 (dq (vP 5) dz) (by rfl) B.str_)) (dq (cj (lu)) dz)))) (dq (cj (lQ)) dz)))))))))))
  (aM (sA (i:=7) sc.nd (gw (lR (vB 7) (cW (gw (iY (dq (dh rfl (dq (vA 4) (dq (vA 5) (dq (cj (mL)) dz)))) (dq (dh rfl (dq (vA 4) (dq (vA 5) (dq (cj (mL)) dz)))) dz))))))))
  (aM (sA (i:=7) sc.nd (gw (lR (vB 7) (cW (gw (iY (dq (dh rfl (dq (vA 4) (dq (vA 5) (dq (vA 2) dz)))) (dq (dh rfl (dq (vA 4) (dq (vA 5) (dq (cj (wC iP)) dz)))) (dq (dh rfl (dq (vA 4) (dq (vA 5) (dq (cj (gG)) dz)))) (dq (dh rfl (dq (vA 4) (dq (vA 5) (dq (cj (jC (dq iC dz))) dz)))) (dq (cj (gG)) (dq (gZ (Zz (CK))) dz))))))))))))
  (aM (sA (i:=7) sc.nd (gw (lR (vB 7) (cW (gw (iY (dq (dh rfl (dq (cj (dw (mZ rfl) uK (by rfl) B.min_ dt (dq iP (dq (bB (cX fP iI (vP 3) iP)) dz)))) (dq (cj (lQ)) (dq (vA 6) dz)))) (dq (dh rfl (dq (cj (dw (oO rfl) wA (by rfl) B.max_ dv (dq iP (dq (bB (cX vX Bf (vP 3) iP)) dz)))) (dq (cj (dw (oO rfl) wA (by rfl) B.max_ dv (dq iP (dq (vP 3) dz)))) (dq (vA 6) dz)))) (dq (gZ (dh rfl (dq (iK (dw (oO rfl) wA (by rfl) B.max_ dv (dq iP (dq (bB (cX vX Bf (vP 3) iP)) dz)))) (dq iC (dq (iK (lu)) dz))))) dz)))))))))
  (aM (sA (i:=7) sc.nd (gw (lR (vB 7) (cW (gw (iY (dq (dh rfl (dq (cj (dw (oO rfl) wA (by rfl) B.max_ dv (dq iP (dq (bB (cX vX Bf (vP 3) iP)) dz)))) (dq (cj (lQ)) (dq (vA 6) dz)))) (dq (dh rfl (dq (vA 3) (dq (cj (lQ)) (dq (vA 6) dz)))) (dq (dh rfl (dq (vA 3) (dq (cj (lQ)) (dq (vA 6) dz)))) (dq (dh rfl (dq (vA 4) (dq (vA 5) (dq (cj (lu)) (dq (cj (lu)) dz))))) dz))))))))))
  (aY (CT (bZ (dx (vB 7) (eY (bC J Z (dq (vP 0) (dq (vP 1) (dq iP (dq (bB (dw bY jG (by rfl) B.len_ PySem.boot_len (dq (vP 7) dz))) dz))))))))))))))))))
def Hs(D:Dg K mg "_law_put" (top 53) ["_law_script", "_law_stays_here", "_law_rooms", "_law_now_here"])(B:Bl mg)(J:Has P w K mg base n "_law_part" ["_law_script", "_law_at", "_law_k", "_law_many"] (spD K bH))(O:Has P w K mg base n "_law_odd" ["_law_script", "_law_at", "_law_rooms", "_law_now_here"] (spL K pA)):Has P w K mg base (n+1) "_law_put" ["_law_script", "_law_stays_here", "_law_rooms", "_law_now_here"] (spL K j9):=by
 have sc:FnScope ["_law_script", "_law_stays_here", "_law_rooms", "_law_now_here", "_law_way", "_law_at", "_law_found"] ["_law_script", "_law_stays_here", "_law_rooms", "_law_now_here"] (aX (top 53)):=fsc;exact Oz (fl:=[.A,.A,.A,.A,.A,.A,.A]) D sc (by decide) (by decide) λf cdv A outer s H E Z=>aM (sA (i:=4) sc.nd (gZ (bC J Z (dq (vP 0) (dq iP (dq iP (dq iP dz)))))))
  (aM (sA (i:=5) sc.nd (gZ (bC J Z (dq (vP 0) (dq iP (dq iP (dq (bB (cX fP iI (bB (dw bY jG (by rfl) B.len_ PySem.boot_len (dq (vP 1) dz))) iP)) dz)))))))
  (aM (eX (uh (mV (cU wN Fx (bB (dw bY jG (by rfl) B.len_ PySem.boot_len (dq (vP 1) dz))) iP (cG _)) (o8 (cU lq b_lt (vP 4) iP (cG _))))) (aY (CT (JG (xT (vB 1) (by rfl) B.list_)))) (cg))
  (aM (sA (i:=6) sc.nd (gw (lR (cW (gw (lR (cW (gw (FW (vB 1) vp (vq (vP 5))))) (cW (gw (iY (dq (ZF rfl (Gm O Z (dq (vP 0) (dq iP (dq (vP 2) (dq (vP 3) dz)))))) dz))))))) (cW (gw (FW (vB 1) (vq (vP 5)) vp))))))
  (aM (eX (cU lq b_lt (vP 4) iP (cG _)) (aY (sA (i:=6) sc.nd (gw (lR (cW (gw (lR (cW (gw (FW (vB 1) vp (vq (vP 5))))) (cW (cj (lK (L:=[]) (fl':=[.A,.A]) rfl ["_law_k"] ["_law_now_here"] [3] (mz (by rfl) B.range_ (vh (dq (bB (dw (mZ rfl) uK (by rfl) B.min_ dt (dq iP (dq (vP 2) dz)))) dz))) (λ_ _ _ _ _=>gN' (i:=0) (show(["_law_k", "_law_now_here"]:List Str).Nodup by decide +kernel)) (λ_ _ _ _ _=>oH) (λ_ _ _ _ _=>iK (iu (bZ (dh rfl (dq (vA 1) (dq (cj (cX fP iI (vP 1) iP)) (dq (cj (lu)) dz))))))))))))) (cW (gw (FW (vB 1) (vq (vP 5)) vp))))))) (cg))
  (aY (CT (vP 6)))))))
def xM(D:Dg K mg "_law_stretch" (top 54) ["_law_one"])(B:Bl mg)(J:Has P w K mg base n "_law_whole" ["_law_found"] (spD K dF)):Has P w K mg base (n+1) "_law_stretch" ["_law_one"] (spD K d9):=by
 have sc:FnScope ["_law_one"] ["_law_one"] (aX (top 54)):=fsc;exact fD (fl:=[.A]) D sc (by decide) (by decide) λf cdv A outer s H E Z=>aM (eX (uh (mV (jD (fW (bB (sI (T := "tuple") (by decide) (vP 0) (by rfl) B.isinstance_ (by rfl) B.tuple_ eg)))) (mV (cU (rY Z.units) Ia (bB (dw bY jG (by rfl) B.len_ PySem.boot_len (dq (vP 0) dz))) iP (cG _)) (mV (jD (fW (eY (bC J Z (dq (bZ (dx (vB 0) iP)) dz))))) (o8 (jD (fW (eY (bC J Z (dq (bZ (dx (vB 0) iP)) dz)))))))))) (aY (bW (bM (mL)))) (cg))
  (aY (bW (bM (mO (bB (lA wO Fy (bZ (dx (vB 0) iP)) iP (cG _))) (mO (bB (lA lq b_lt (bZ (dx (vB 0) iP)) (bZ (dx (vB 0) iP)) (cG _))) (rC (lA qg wj (bZ (dx (vB 0) iP)) iP (cG _))))))))
def Em(D:Dg K mg "_law_good" (top 55) ["_law_one", "_law_rooms", "_law_now_here"])(B:Bl mg)(O:Has P w K mg base n "_law_whole" ["_law_found"] (spD K dF))(J:Has P w K mg base n "_law_stretch" ["_law_one"] (spD K d9)):Has P w K mg base (n+1) "_law_good" ["_law_one", "_law_rooms", "_law_now_here"] (spD K dU):=by
 have sc:FnScope ["_law_one", "_law_rooms", "_law_now_here"] ["_law_one", "_law_rooms", "_law_now_here"] (aX (top 55)):=fsc;exact fD (fl:=[.A,.A,.A]) D sc (by decide) (by decide) λf cdv A outer s H E Z=>aM (eX (jD (fW (eY (bC J Z (dq (vP 0) dz))))) (aY (bW (bM (mL)))) (cg))
  (aM (eX (yR (bZ (dx (vB 0) iP))) (aY (bW (bM (lA wO Fy (bZ (dx (vB 0) iP)) (vP 2) (cG _))))) (cg))
  (aM (eX (uh (mV (jD (fW (eY (bC O Z (dq (bZ (dx (vB 0) iP)) dz))))) (mV (cU lq b_lt (bZ (dx (vB 0) iP)) iP (cG _)) (o8 (cU wO Fy (bZ (dx (vB 0) iP)) (vP 1) (cG _)))))) (aY (bW (bM (mL)))) (cg))
  (aY (bW (bM (mO (bB (lA qg wj (bZ (dx (vB 0) iP)) (vP 2) (cG _))) (rC (lA lq b_lt (vP 2) (bZ (dx (vB 0) iP)) (cG _)))))))))
def Ht(D:Dg K mg "_law_due" (top 56) ["_law_stays_here", "_law_rooms", "_law_now_here", "_law_who", "_law_room"])(B:Bl mg)(Y:Has P w K mg base n "_law_full" ["_law_stays_here", "_law_rooms", "_law_now_here"] (spD K cT))(J:Has P w K mg base n "_law_good" ["_law_one", "_law_rooms", "_law_now_here"] (spD K dU)):Has P w K mg base (n+1) "_law_due" ["_law_stays_here", "_law_rooms", "_law_now_here", "_law_who", "_law_room"] (spD K ji):=by
 have sc:FnScope ["_law_stays_here", "_law_rooms", "_law_now_here", "_law_who", "_law_room", "_law_taken", "_law_at", "_law_night"] ["_law_stays_here", "_law_rooms", "_law_now_here", "_law_who", "_law_room"] (aX (top 56)):=fsc;exact fD (fl:=[.A,.A,.A,.A,.A,.O,.A,.A]) D sc (by decide) (by decide) λf cdv A outer s H E Z=>aM (oG (i:=5) rfl sc.nd rfl (by first|exact Or.inl rfl|exact Or.inr rfl) (uJ (jC dz)))
  (aM (jW (L:=[]) de rfl (mz (by rfl) B.range_ (vh (dq (bB (dw bY jG (by rfl) B.len_ PySem.boot_len (dq (vP 0) dz))) dz))) (gN' (i:=6) sc.nd) (aM (eX (jD (fW (eY (bC J Z (dq (bZ (dx (vB 0) (vP 6))) (dq (vP 1) (dq (vP 2) dz))))))) (aY (bW (dh rfl (dq (bM (gG)) (dq (bM (iu (vP 6))) dz))))) (cg))
  (aM (eX (uh (yQ (lO (bZ (dx (cW (dx (vB 0) (vP 6))) iP))) (vm (cU (Xm Z.units) aj3 (bZ (dx (cW (dx (vB 0) (vP 6))) iP)) (sG (nZ 5)) (by with_unfolding_all rfl))))) (aY (bW (dh rfl (dq (bM (gG)) (dq (bM (iu (bZ (dx (cW (dx (vB 0) (vP 6))) iP)))) dz))))) (cg))
  (aY (Bg (i:=5) rfl (dx (cW (dx (vB 0) (vP 6))) iP) rfl)))))
  (aM (sA (i:=7) sc.nd (gZ (bC Y Z (dq (vP 0) (dq (vP 1) (dq (vP 2) dz))))))
  (aM (eX (lO (vP 7)) (aY (bW (dh rfl (dq (bM (gG)) (dq (bM (iu (vP 7))) dz))))) (cg))
  (aM (eX (uh (mV (cU lq b_lt (vP 3) iP (cG _)) (mV (cU wO Fy (vP 3) (bB (dw bY jG (by rfl) B.len_ PySem.boot_len (dq (vP 0) dz))) (cG _)) (o8 (lO (bZ (dx (cW (dx (vB 0) (vP 3))) iP))))))) (aY (bW (dh rfl (dq (bM (gG)) (dq (bM (iu (vP 3))) dz))))) (cg))
  (aM (eX (uh (mV (cU lq b_lt (vP 4) iP (cG _)) (o8 (cU wO Fy (vP 4) (vP 1) (cG _))))) (aY (bW (dh rfl (dq (bM (gG)) (dq (bM (iu (vP 4))) dz))))) (cg))
  (aY (bW (dh rfl (dq (bM (gG)) (dq (bM (lQ)) dz))))))))))
def z7(D:Dg K mg "_law_caught" (top 57) ["_law_way", "_law_stays_here", "_law_rooms", "_law_now_here", "_law_who", "_law_room"])(B:Bl mg)(Z:HasX P w K mg base fld n "is_shut" ["stays", "rooms", "now", "who", "room", "thing"] (spX K mg m8) [])(Y:HasX P w K mg base fld n "may_have" ["stays", "rooms", "now", "who", "room"] (spX K mg lY) [])(O:HasX P w K mg base fld n "rooms_for" ["stays", "rooms", "now", "who"] (spX K mg j8) [])(sNoRoom:SuiU K mg fld "NoRoom" "room" "InnError" [("NoRoom", true),("NoStay", false),("Taken", false),("TooFull", false)])(sNoStay:SuiU K mg fld "NoStay" "at" "InnError" [("NoRoom", false),("NoStay", true),("Taken", false),("TooFull", false)])(sTaken:SuiU K mg fld "Taken" "room" "InnError" [("NoRoom", false),("NoStay", false),("Taken", true),("TooFull", false)])(sTooFull:SuiU K mg fld "TooFull" "night" "InnError" [("NoRoom", false),("NoStay", false),("Taken", false),("TooFull", true)])(J:mg "ValueError"=none):Has P w K mg base (n+1) "_law_caught" ["_law_way", "_law_stays_here", "_law_rooms", "_law_now_here", "_law_who", "_law_room"] (spD K gF):=by
 have sc:FnScope ["_law_way", "_law_stays_here", "_law_rooms", "_law_now_here", "_law_who", "_law_room", "e", "_law_kinds"] ["_law_way", "_law_stays_here", "_law_rooms", "_law_now_here", "_law_who", "_law_room"] (aX (top 57)):=fsc;exact fD (fl:=[.A,.A,.A,.A,.A,.A,.A,.A]) D sc (by decide) (by decide) λf cdv A outer s H E X=>aM (Tp (i:=6) (cs:=["NoRoom", "NoStay", "Taken", "TooFull"]) (fS:=λc d=>if c="NoRoom"then bD (bL 7 (fY (aj (dC (.bool false)) (aj (dC (.bool false)) (aj (dC (.bool false)) (aj (dC (.bool true)) (aJ))))))) (bD (sIf (D3.tOr (D3.ig (λ_=>some true)) (aQ (dOp gNe (dOp pF (ak 7) (dC (.bool true))) (dC (.int 1))))) (b_ (dTup (aj (dC (.str "odd")) (aj (dC (.int 0)) (aJ))))) (bV)) (bD (sIf (aQ (dOp gIx (ak 7) (dC (.int 0)))) ((λ_=>none)) (bV)) (bD (sIf (aQ (dOp gIx (ak 7) (dC (.int 1)))) (b_ (dTup (aj (dC (.str "taken")) (aj (dC d) (aJ))))) (bV)) (bD (sIf (aQ (dOp gIx (ak 7) (dC (.int 2)))) ((λ_=>none)) (bV)) (b_ (dTup (aj (dC (.str "room")) (aj (dC d) (aJ)))))))))else if c="NoStay"then bD (bL 7 (fY (aj (dC (.bool true)) (aj (dC (.bool false)) (aj (dC (.bool false)) (aj (dC (.bool false)) (aJ))))))) (bD (sIf (D3.tOr (D3.ig (λ_=>some true)) (aQ (dOp gNe (dOp pF (ak 7) (dC (.bool true))) (dC (.int 1))))) (b_ (dTup (aj (dC (.str "odd")) (aj (dC (.int 0)) (aJ))))) (bV)) (bD (sIf (aQ (dOp gIx (ak 7) (dC (.int 0)))) (b_ (dTup (aj (dC (.str "stay")) (aj (dC d) (aJ))))) (bV)) (bD (sIf (aQ (dOp gIx (ak 7) (dC (.int 1)))) ((λ_=>none)) (bV)) (bD (sIf (aQ (dOp gIx (ak 7) (dC (.int 2)))) ((λ_=>none)) (bV)) ((λ_=>none))))))else if c="Taken"then bD (bL 7 (fY (aj (dC (.bool false)) (aj (dC (.bool true)) (aj (dC (.bool false)) (aj (dC (.bool false)) (aJ))))))) (bD (sIf (D3.tOr (D3.ig (λ_=>some true)) (aQ (dOp gNe (dOp pF (ak 7) (dC (.bool true))) (dC (.int 1))))) (b_ (dTup (aj (dC (.str "odd")) (aj (dC (.int 0)) (aJ))))) (bV)) (bD (sIf (aQ (dOp gIx (ak 7) (dC (.int 0)))) ((λ_=>none)) (bV)) (bD (sIf (aQ (dOp gIx (ak 7) (dC (.int 1)))) (b_ (dTup (aj (dC (.str "taken")) (aj (dC d) (aJ))))) (bV)) (bD (sIf (aQ (dOp gIx (ak 7) (dC (.int 2)))) ((λ_=>none)) (bV)) (b_ (dTup (aj (dC (.str "room")) (aj (dC d) (aJ)))))))))else if c="TooFull"then bD (bL 7 (fY (aj (dC (.bool false)) (aj (dC (.bool false)) (aj (dC (.bool true)) (aj (dC (.bool false)) (aJ))))))) (bD (sIf (D3.tOr (D3.ig (λ_=>some true)) (aQ (dOp gNe (dOp pF (ak 7) (dC (.bool true))) (dC (.int 1))))) (b_ (dTup (aj (dC (.str "odd")) (aj (dC (.int 0)) (aJ))))) (bV)) (bD (sIf (aQ (dOp gIx (ak 7) (dC (.int 0)))) ((λ_=>none)) (bV)) (bD (sIf (aQ (dOp gIx (ak 7) (dC (.int 1)))) ((λ_=>none)) (bV)) (bD (sIf (aQ (dOp gIx (ak 7) (dC (.int 2)))) (b_ (dTup (aj (dC (.str "full")) (aj (dC d) (aJ))))) (bV)) ((λ_=>none))))))else(λ_=>none)) (O_ (cU (oZ X.units) yN (vP 0) iP (cG _)) (zc (dd:=[]) Y (λH=>.nil) X (dq (vP 1) (dq (vP 2) (dq (vP 3) (dq (vP 4) (dq (vP 5) dz)))))) (O_ (cU (oZ X.units) yN (vP 0) iP (cG _)) (zc (dd:=[]) Z (λH=>.nil) X (dq (vP 1) (dq (vP 2) (dq (vP 3) (dq (vP 4) (dq (vP 5) (dq (JG (iY (dq (vA 3) dz))) dz))))))) (zc (dd:=[]) O (λH=>.nil) X (dq (vP 1) (dq (vP 2) (dq (vP 3) (dq (vP 4) dz))))))) (aZ.mpr ⟨tW (i:=6) (g:=λd=>bD (bL 7 (fY (aj (dC (.bool false)) (aj (dC (.bool false)) (aj (dC (.bool false)) (aj (dC (.bool true)) (aJ))))))) (bD (sIf (D3.tOr (D3.ig (λ_=>some true)) (aQ (dOp gNe (dOp pF (ak 7) (dC (.bool true))) (dC (.int 1))))) (b_ (dTup (aj (dC (.str "odd")) (aj (dC (.int 0)) (aJ))))) (bV)) (bD (sIf (aQ (dOp gIx (ak 7) (dC (.int 0)))) ((λ_=>none)) (bV)) (bD (sIf (aQ (dOp gIx (ak 7) (dC (.int 1)))) (b_ (dTup (aj (dC (.str "taken")) (aj (dC d) (aJ))))) (bV)) (bD (sIf (aQ (dOp gIx (ak 7) (dC (.int 2)))) ((λ_=>none)) (bV)) (b_ (dTup (aj (dC (.str "room")) (aj (dC d) (aJ)))))))))) true sNoRoom B.isinstance_ rfl (λd=>by rw[if_pos rfl]) (λa oa xd od v d C R V W U S T=>fO (xV (j:=7) (show(6:Nat)≠7 by decide) rfl sc.nd rfl (by first|exact Or.inl rfl|exact Or.inr rfl) (CZ (C_ (dY rfl (jO (n_ (z:=⟨_,a,v,d⟩) (S.is ("NoStay", false) (by decide) rfl (by decide) _ _ _ _))) (dY rfl (jO (n_ (z:=⟨_,a,v,d⟩) (S.is ("Taken", false) (by decide) rfl (by decide) _ _ _ _))) (dY rfl (jO (n_ (z:=⟨_,a,v,d⟩) (S.is ("TooFull", false) (by decide) rfl (by decide) _ _ _ _))) (dY rfl (jO (n_ (z:=⟨_,a,v,d⟩) (S.is ("NoRoom", true) (by decide) rfl (by decide) _ _ _ _))) (pY)))))))) (fO (ou (Tj (JX (Dh (JW (z:=⟨_,a,v,d⟩) (S.isv J rfl _ _ _ _))) (Di (oh (cU (rY X.units) Ia (bB (XN.Dk (vP 7) (bB (mL)))) iP (cG _)))))) (gU (pZ (ux (dh rfl (dq (bM (gG)) (dq (bM (lQ)) dz)))))) (jo)) (fO (ou (oh (fW (bZ (dx (vB 7) iP)))) (gU (lG)) (jo)) (fO (ou (oh (fW (bZ (dx (vB 7) iP)))) (gU (pZ (wH rfl (dY rfl (ux (bM (gG))) (dY rfl (wG (wI S)) (pY)))))) (jo)) (fO (ou (oh (fW (bZ (dx (vB 7) iP)))) (gU (lG)) (jo)) (gU (pZ (wH rfl (dY rfl (ux (bM (gG))) (dY rfl (wG (wI S)) (pY))))))))))),aZ.mpr ⟨tW (i:=6) (g:=λd=>bD (bL 7 (fY (aj (dC (.bool true)) (aj (dC (.bool false)) (aj (dC (.bool false)) (aj (dC (.bool false)) (aJ))))))) (bD (sIf (D3.tOr (D3.ig (λ_=>some true)) (aQ (dOp gNe (dOp pF (ak 7) (dC (.bool true))) (dC (.int 1))))) (b_ (dTup (aj (dC (.str "odd")) (aj (dC (.int 0)) (aJ))))) (bV)) (bD (sIf (aQ (dOp gIx (ak 7) (dC (.int 0)))) (b_ (dTup (aj (dC (.str "stay")) (aj (dC d) (aJ))))) (bV)) (bD (sIf (aQ (dOp gIx (ak 7) (dC (.int 1)))) ((λ_=>none)) (bV)) (bD (sIf (aQ (dOp gIx (ak 7) (dC (.int 2)))) ((λ_=>none)) (bV)) ((λ_=>none))))))) true sNoStay B.isinstance_ rfl (λd=>by rw[if_neg (by decide)];rw[if_pos rfl]) (λa oa xd od v d C R V W U S T=>fO (xV (j:=7) (show(6:Nat)≠7 by decide) rfl sc.nd rfl (by first|exact Or.inl rfl|exact Or.inr rfl) (CZ (C_ (dY rfl (jO (n_ (z:=⟨_,a,v,d⟩) (S.is ("NoStay", true) (by decide) rfl (by decide) _ _ _ _))) (dY rfl (jO (n_ (z:=⟨_,a,v,d⟩) (S.is ("Taken", false) (by decide) rfl (by decide) _ _ _ _))) (dY rfl (jO (n_ (z:=⟨_,a,v,d⟩) (S.is ("TooFull", false) (by decide) rfl (by decide) _ _ _ _))) (dY rfl (jO (n_ (z:=⟨_,a,v,d⟩) (S.is ("NoRoom", false) (by decide) rfl (by decide) _ _ _ _))) (pY)))))))) (fO (ou (Tj (JX (Dh (JW (z:=⟨_,a,v,d⟩) (S.isv J rfl _ _ _ _))) (Di (oh (cU (rY X.units) Ia (bB (XN.Dk (vP 7) (bB (mL)))) iP (cG _)))))) (gU (pZ (ux (dh rfl (dq (bM (gG)) (dq (bM (lQ)) dz)))))) (jo)) (fO (ou (oh (fW (bZ (dx (vB 7) iP)))) (gU (pZ (wH rfl (dY rfl (ux (bM (gG))) (dY rfl (wG (wI S)) (pY)))))) (jo)) (fO (ou (oh (fW (bZ (dx (vB 7) iP)))) (gU (lG)) (jo)) (fO (ou (oh (fW (bZ (dx (vB 7) iP)))) (gU (lG)) (jo)) (gU (lG))))))),aZ.mpr ⟨tW (i:=6) (g:=λd=>bD (bL 7 (fY (aj (dC (.bool false)) (aj (dC (.bool true)) (aj (dC (.bool false)) (aj (dC (.bool false)) (aJ))))))) (bD (sIf (D3.tOr (D3.ig (λ_=>some true)) (aQ (dOp gNe (dOp pF (ak 7) (dC (.bool true))) (dC (.int 1))))) (b_ (dTup (aj (dC (.str "odd")) (aj (dC (.int 0)) (aJ))))) (bV)) (bD (sIf (aQ (dOp gIx (ak 7) (dC (.int 0)))) ((λ_=>none)) (bV)) (bD (sIf (aQ (dOp gIx (ak 7) (dC (.int 1)))) (b_ (dTup (aj (dC (.str "taken")) (aj (dC d) (aJ))))) (bV)) (bD (sIf (aQ (dOp gIx (ak 7) (dC (.int 2)))) ((λ_=>none)) (bV)) (b_ (dTup (aj (dC (.str "room")) (aj (dC d) (aJ)))))))))) true sTaken B.isinstance_ rfl (λd=>by rw[if_neg (by decide)];rw[if_neg (by decide)];rw[if_pos rfl]) (λa oa xd od v d C R V W U S T=>fO (xV (j:=7) (show(6:Nat)≠7 by decide) rfl sc.nd rfl (by first|exact Or.inl rfl|exact Or.inr rfl) (CZ (C_ (dY rfl (jO (n_ (z:=⟨_,a,v,d⟩) (S.is ("NoStay", false) (by decide) rfl (by decide) _ _ _ _))) (dY rfl (jO (n_ (z:=⟨_,a,v,d⟩) (S.is ("Taken", true) (by decide) rfl (by decide) _ _ _ _))) (dY rfl (jO (n_ (z:=⟨_,a,v,d⟩) (S.is ("TooFull", false) (by decide) rfl (by decide) _ _ _ _))) (dY rfl (jO (n_ (z:=⟨_,a,v,d⟩) (S.is ("NoRoom", false) (by decide) rfl (by decide) _ _ _ _))) (pY)))))))) (fO (ou (Tj (JX (Dh (JW (z:=⟨_,a,v,d⟩) (S.isv J rfl _ _ _ _))) (Di (oh (cU (rY X.units) Ia (bB (XN.Dk (vP 7) (bB (mL)))) iP (cG _)))))) (gU (pZ (ux (dh rfl (dq (bM (gG)) (dq (bM (lQ)) dz)))))) (jo)) (fO (ou (oh (fW (bZ (dx (vB 7) iP)))) (gU (lG)) (jo)) (fO (ou (oh (fW (bZ (dx (vB 7) iP)))) (gU (pZ (wH rfl (dY rfl (ux (bM (gG))) (dY rfl (wG (wI S)) (pY)))))) (jo)) (fO (ou (oh (fW (bZ (dx (vB 7) iP)))) (gU (lG)) (jo)) (gU (pZ (wH rfl (dY rfl (ux (bM (gG))) (dY rfl (wG (wI S)) (pY))))))))))),aZ.mpr ⟨tW (i:=6) (g:=λd=>bD (bL 7 (fY (aj (dC (.bool false)) (aj (dC (.bool false)) (aj (dC (.bool true)) (aj (dC (.bool false)) (aJ))))))) (bD (sIf (D3.tOr (D3.ig (λ_=>some true)) (aQ (dOp gNe (dOp pF (ak 7) (dC (.bool true))) (dC (.int 1))))) (b_ (dTup (aj (dC (.str "odd")) (aj (dC (.int 0)) (aJ))))) (bV)) (bD (sIf (aQ (dOp gIx (ak 7) (dC (.int 0)))) ((λ_=>none)) (bV)) (bD (sIf (aQ (dOp gIx (ak 7) (dC (.int 1)))) ((λ_=>none)) (bV)) (bD (sIf (aQ (dOp gIx (ak 7) (dC (.int 2)))) (b_ (dTup (aj (dC (.str "full")) (aj (dC d) (aJ))))) (bV)) ((λ_=>none))))))) true sTooFull B.isinstance_ rfl (λd=>by rw[if_neg (by decide)];rw[if_neg (by decide)];rw[if_neg (by decide)];rw[if_pos rfl]) (λa oa xd od v d C R V W U S T=>fO (xV (j:=7) (show(6:Nat)≠7 by decide) rfl sc.nd rfl (by first|exact Or.inl rfl|exact Or.inr rfl) (CZ (C_ (dY rfl (jO (n_ (z:=⟨_,a,v,d⟩) (S.is ("NoStay", false) (by decide) rfl (by decide) _ _ _ _))) (dY rfl (jO (n_ (z:=⟨_,a,v,d⟩) (S.is ("Taken", false) (by decide) rfl (by decide) _ _ _ _))) (dY rfl (jO (n_ (z:=⟨_,a,v,d⟩) (S.is ("TooFull", true) (by decide) rfl (by decide) _ _ _ _))) (dY rfl (jO (n_ (z:=⟨_,a,v,d⟩) (S.is ("NoRoom", false) (by decide) rfl (by decide) _ _ _ _))) (pY)))))))) (fO (ou (Tj (JX (Dh (JW (z:=⟨_,a,v,d⟩) (S.isv J rfl _ _ _ _))) (Di (oh (cU (rY X.units) Ia (bB (XN.Dk (vP 7) (bB (mL)))) iP (cG _)))))) (gU (pZ (ux (dh rfl (dq (bM (gG)) (dq (bM (lQ)) dz)))))) (jo)) (fO (ou (oh (fW (bZ (dx (vB 7) iP)))) (gU (lG)) (jo)) (fO (ou (oh (fW (bZ (dx (vB 7) iP)))) (gU (lG)) (jo)) (fO (ou (oh (fW (bZ (dx (vB 7) iP)))) (gU (pZ (wH rfl (dY rfl (ux (bM (gG))) (dY rfl (wG (wI S)) (pY)))))) (jo)) (gU (lG))))))),n6 _⟩⟩⟩⟩) rfl rfl sc.nd rfl)
  (aY (bW (dh rfl (dq (bM (gG)) (dq (bM (lQ)) dz)))))
def En(D:Dg K mg "_law_told" (top 58) ["_law_stays_here", "_law_rooms", "_law_now_here", "_law_who", "_law_room"])(B:Bl mg)(O:Has P w K mg base n "_law_whole" ["_law_found"] (spD K dF))(Y:Has P w K mg base n "_law_due" ["_law_stays_here", "_law_rooms", "_law_now_here", "_law_who", "_law_room"] (spD K ji))(J:Has P w K mg base n "_law_caught" ["_law_way", "_law_stays_here", "_law_rooms", "_law_now_here", "_law_who", "_law_room"] (spD K gF)):Has P w K mg base (n+1) "_law_told" ["_law_stays_here", "_law_rooms", "_law_now_here", "_law_who", "_law_room"] (spD K j_):=by
 have sc:FnScope ["_law_stays_here", "_law_rooms", "_law_now_here", "_law_who", "_law_room", "_law_handed", "_law_way", "_law_due_here", "_law_found"] ["_law_stays_here", "_law_rooms", "_law_now_here", "_law_who", "_law_room"] (aX (top 58)):=fsc;exact fD (fl:=[.A,.A,.A,.A,.A,.A,.A,.A,.A]) D sc (by decide) (by decide) λf cdv A outer s H E Z=>aM (sA (i:=5) sc.nd (gw (xT (vB 0) (by rfl) B.list_)))
  (aM (jW (L:=[]) de rfl (mz (by rfl) B.range_ (vh (dq iP dz))) (gN' (i:=6) sc.nd) (aM (sA (i:=7) sc.nd (gZ (bC Y Z (dq (vP 0) (dq (vP 1) (dq (vP 2) (dq (vP 3) (dq (bZ (dx (cW (gw (iY (dq (vA 4) (dq (vA 4) (dq (cj (lQ)) dz)))))) (vP 6))) dz))))))))
  (aM (sA (i:=8) sc.nd (gZ (bC J Z (dq (vP 6) (dq (vP 5) (dq (vP 1) (dq (vP 2) (dq (vP 3) (dq (vP 4) dz)))))))))
  (aY (eX (uh (mV (cU (Pr Z.units) V2 (vP 8) (vP 7) (cG _)) (mV (jD (fW (eY (bC O Z (dq (bZ (dx (vB 8) iP)) dz))))) (o8 (cU (Pr Z.units) V2 (vP 5) (vP 0) (cG _)))))) (aY (bW (bM (mL)))) (cg))))))
  (aY (bW (bM (mL)))))
def YZ{f:Addr}(Fn:FunD K "law" (top 59) f fd)(B:Bl mg)(J:Has P w K mg base n "_law_part" ["_law_script", "_law_at", "_law_k", "_law_many"] (spD K bH))(h_law_far:Has P w K mg base n "_law_far" ["_law_script", "_law_at"] (spD K jX))(h_law_now:Has P w K mg base n "_law_now" ["_law_script"] (spD K lW))(O:Has P w K mg base n "_law_stays" ["_law_script", "_law_rooms", "_law_now_here", "_law_most"] (spD K i_))(Z:Has P w K mg base n "_law_put" ["_law_script", "_law_stays_here", "_law_rooms", "_law_now_here"] (spL K j9))(Y:Has P w K mg base n "_law_told" ["_law_stays_here", "_law_rooms", "_law_now_here", "_law_who", "_law_room"] (spD K j_)):FnOk P w K mg base CX0 (n+1) f fd ["_law_script"] (spD K QH):=by
 have sc:FnScope ["_law_script", "_law_rooms", "_law_now_here", "_law_stays_here", "_law_far_here", "_law_places", "_law_numbers", "_law_spoilt", "_law_some", "_law_turn", "_law_who", "_law_room"] ["_law_script"] (aX (top 59)):=fsc;exact Og (fl:=[.A,.A,.A,.A,.A,.A,.A,.A,.A,.A,.A,.A]) Fn sc (by decide) (by decide) λf cdv A outer s H E X=>aM (sA (i:=1) sc.nd (gZ (bC J X (dq (vP 0) (dq iP (dq iP (dq (bZ (dx (cW (cj (jC (dq iC (dq iC dz))))) (bB (JN (dq (bB (lA (oZ X.units) yN (eY (bC J X (dq (vP 0) (dq iP (dq iP (dq iP dz)))))) iP (cG _))) dz) (by rfl) B.int_)))) dz)))))))
  (aM (sA (i:=2) sc.nd (gZ (bC h_law_now X (dq (vP 0) dz))))
  (aM (sA (i:=3) sc.nd (gZ (bC O X (dq (vP 0) (dq (vP 1) (dq (vP 2) (dq iP dz)))))))
  (aM (sA (i:=4) sc.nd (gZ (bC h_law_far X (dq (vP 0) (dq iP dz)))))
  (aM (sA (i:=5) sc.nd (gw (lR (cW (cj (jC (dq (iK (wC iP)) (dq (iK (cX vX Bf (bB (wC iP)) (vP 4))) (dq (iK (dw bY jG (by rfl) B.len_ PySem.boot_len (dq (vP 3) dz))) (dq (iK (cX fP iI (bB (dw bY jG (by rfl) B.len_ PySem.boot_len (dq (vP 3) dz))) (vP 4))) dz))))))) (cW (cj (Gj (dq (bB (dw bY jG (by rfl) B.len_ PySem.boot_len (dq (vP 3) dz))) dz) rfl (by rfl) B.list_ (by rfl) B.range_))))))
  (aM (sA (i:=6) sc.nd (gw (lR (cW (gw (iY (dq (cj (wC iP)) (dq (cj (cX vX Bf (bB (wC iP)) (vP 4))) (dq (vA 1) (dq (cj (cX fP iI (vP 1) (vP 4))) dz))))))) (cW (cj (Gj (dq (vP 1) dz) rfl (by rfl) B.list_ (by rfl) B.range_))))))
  (aM (sA (i:=7) sc.nd (ZF rfl (Gm Z X (dq (vP 0) (dq (vP 3) (dq (vP 1) (dq (vP 2) dz)))))))
  (aM (jW (L:=[]) de rfl (iH (cW (gw (iY (dq (vA 3) (dq (vA 7) (dq (vA 3) dz))))))) (gN' (i:=8) sc.nd) (aY (jW (L:=[]) de rfl (mz (by rfl) B.range_ (vh (dq iP dz))) (gN' (i:=9) sc.nd) (aM (sA (i:=10) sc.nd (dx (vB 5) (eY (bC J X (dq (vP 0) (dq iP (dq (vP 9) (dq (bB (dw bY jG (by rfl) B.len_ PySem.boot_len (dq (vP 5) dz))) dz))))))))
  (aM (sA (i:=11) sc.nd (dx (vB 6) (eY (bC J X (dq (vP 0) (dq iP (dq (vP 9) (dq (bB (dw bY jG (by rfl) B.len_ PySem.boot_len (dq (vP 6) dz))) dz))))))))
  (aY (eX (jD (fW (eY (bC Y X (dq (vP 8) (dq (vP 1) (dq (vP 2) (dq (vP 10) (dq (vP 11) dz))))))))) (aY (bW (bM (mL)))) (cg))))))))
  (aY (bW (bM (mL)))))))))))
end
end K48
namespace D3
theorem len0{p:List PySem.Value->Prop}(h:p []):∀us,us.length=0->p us:=λus hl=>by
 cases us with
 |nil=>exact h
 |cons _ _=>cases hl
theorem Y0{p:List PySem.Value->Prop}(h:∀a us,us.length=n->p (a::us)):∀us,us.length=n+1->p us:=λus hl=>by
 cases us with
 |nil=>cases hl
 |cons a r=>exact h a r (Nat.succ.inj hl)
end D3
namespace K48
open L2 My D3
structure Txt(K:PySem.W.Frag)(mg:Str->Option Value):Prop where
 d_is_whole:Dg K mg "is_whole" (top 7) ["thing"]
 d_all_whole:Dg K mg "all_whole" (top 8) ["things"]
 d_is_tuple_of:Dg K mg "is_tuple_of" (top 9) ["thing", "many"]
 d_is_pair:Dg K mg "is_pair" (top 10) ["thing"]
 d_is_whole_list:Dg K mg "is_whole_list" (top 11) ["thing"]
 d_is_rising:Dg K mg "is_rising" (top 12) ["numbers"]
 d_is_stretch:Dg K mg "is_stretch" (top 15) ["thing"]
 d_nights_of:Dg K mg "nights_of" (top 16) ["stay"]
 d_holds:Dg K mg "holds" (top 17) ["stretch", "night"]
 d_count_at:Dg K mg "count_at" (top 18) ["stretches", "night"]
 d_firsts:Dg K mg "firsts" (top 19) ["stretches"]
 d_fuller:Dg K mg "fuller" (top 20) ["stretches", "many", "since"]
 d_is_stay:Dg K mg "is_stay" (top 22) ["thing", "rooms", "now"]
 d_check_stays:Dg K mg "check_stays" (top 23) ["stays", "rooms", "now"]
 d_check_full:Dg K mg "check_full" (top 24) ["stays", "rooms", "now"]
 d_still_to_come:XL.DgT K mg "still_to_come" (top 25) ["stays"] 199 "still_to_come.<locals>.<lambda>" ⟨74,30,74,59⟩
 d_beginnings:Dg K mg "beginnings" (top 26) ["stays", "rooms", "now"]
 d_first_free:Dg K mg "first_free" (top 27) ["begin", "night"]
 d_filled:Dg K mg "filled" (top 28) ["stays", "plan", "begin"]
 d_check_who:Dg K mg "check_who" (top 30) ["stays", "rooms", "now", "who"]
 d_check_room:Dg K mg "check_room" (top 31) ["rooms", "room"]
 d_is_tight:Dg K mg "is_tight" (top 32) ["stays", "rooms", "night"]
 d_goes_ahead:Dg K mg "goes_ahead" (top 33) ["stays", "who", "place", "night"]
 d_steps_from:Dg K mg "steps_from" (top 34) ["stays", "rooms", "who", "night"]
 d_nights_reached:Dg K mg "nights_reached" (top 35) ["stays", "rooms", "who", "begin"]
 d_chain_to:Dg K mg "chain_to" (top 36) ["reached", "last"]
 d_plan_with:Dg K mg "plan_with" (top 37) ["stays", "rooms", "now", "who", "room", "chain"]
 d_may_have:Dg K mg "may_have" (top 38) ["stays", "rooms", "now", "who", "room"]
 d_is_closed:Dg K mg "is_closed" (top 39) ["stays", "rooms", "who", "nights"]
 d_is_shut:Dg K mg "is_shut" (top 40) ["stays", "rooms", "now", "who", "room", "thing"]
 d_rooms_for:Dg K mg "rooms_for" (top 41) ["stays", "rooms", "now", "who"]
 d__law_cell:Dg K mg "_law_cell" (top 43) ["_law_script", "_law_at"]
 d__law_part:Dg K mg "_law_part" (top 44) ["_law_script", "_law_at", "_law_k", "_law_many"]
 d__law_far:Dg K mg "_law_far" (top 45) ["_law_script", "_law_at"]
 d__law_whole:Dg K mg "_law_whole" (top 46) ["_law_found"]
 d__law_stay:Dg K mg "_law_stay" (top 47) ["_law_script", "_law_at", "_law_turn", "_law_mode", "_law_now_here"]
 d__law_guest:Dg K mg "_law_guest" (top 48) ["_law_script", "_law_at", "_law_turn", "_law_now_here", "_law_room"]
 d__law_full:Dg K mg "_law_full" (top 49) ["_law_stays_here", "_law_rooms", "_law_now_here"]
 d__law_now:Dg K mg "_law_now" (top 50) ["_law_script"]
 d__law_stays:Dg K mg "_law_stays" (top 51) ["_law_script", "_law_rooms", "_law_now_here", "_law_most"]
 d__law_odd:Dg K mg "_law_odd" (top 52) ["_law_script", "_law_at", "_law_rooms", "_law_now_here"]
 d__law_put:Dg K mg "_law_put" (top 53) ["_law_script", "_law_stays_here", "_law_rooms", "_law_now_here"]
 d__law_stretch:Dg K mg "_law_stretch" (top 54) ["_law_one"]
 d__law_good:Dg K mg "_law_good" (top 55) ["_law_one", "_law_rooms", "_law_now_here"]
 d__law_due:Dg K mg "_law_due" (top 56) ["_law_stays_here", "_law_rooms", "_law_now_here", "_law_who", "_law_room"]
 d__law_caught:Dg K mg "_law_caught" (top 57) ["_law_way", "_law_stays_here", "_law_rooms", "_law_now_here", "_law_who", "_law_room"]
 d__law_told:Dg K mg "_law_told" (top 58) ["_law_stays_here", "_law_rooms", "_law_now_here", "_law_who", "_law_room"]
 d_law:Dl K mg "law" "_law_script" (top 59)
 z_NoRoom:XC.ExcG K mg (λC=>if C=63 then "room"else if C=44 then "at"else if C=82 then "room"else if C=101 then "night"else "") "NoRoom" "room" "InnError"
 z_NoStay:XC.ExcG K mg (λC=>if C=63 then "room"else if C=44 then "at"else if C=82 then "room"else if C=101 then "night"else "") "NoStay" "at" "InnError"
 z_Taken:XC.ExcG K mg (λC=>if C=63 then "room"else if C=44 then "at"else if C=82 then "room"else if C=101 then "night"else "") "Taken" "room" "InnError"
 z_TooFull:XC.ExcG K mg (λC=>if C=63 then "room"else if C=44 then "at"else if C=82 then "room"else if C=101 then "night"else "") "TooFull" "night" "InnError"
 s_NoRoom:XC.SuiU K mg (λC=>if C=63 then "room"else if C=44 then "at"else if C=82 then "room"else if C=101 then "night"else "") "NoRoom" "room" "InnError" [("NoRoom", true),("NoStay", false),("Taken", false),("TooFull", false)]
 s_NoStay:XC.SuiU K mg (λC=>if C=63 then "room"else if C=44 then "at"else if C=82 then "room"else if C=101 then "night"else "") "NoStay" "at" "InnError" [("NoRoom", false),("NoStay", true),("Taken", false),("TooFull", false)]
 s_Taken:XC.SuiU K mg (λC=>if C=63 then "room"else if C=44 then "at"else if C=82 then "room"else if C=101 then "night"else "") "Taken" "room" "InnError" [("NoRoom", false),("NoStay", false),("Taken", true),("TooFull", false)]
 s_TooFull:XC.SuiU K mg (λC=>if C=63 then "room"else if C=44 then "at"else if C=82 then "room"else if C=101 then "night"else "") "TooFull" "night" "InnError" [("NoRoom", false),("NoStay", false),("Taken", false),("TooFull", true)]
 v_ValueError:mg "ValueError"=none
 blt:Bl mg
 c_NIGHTS:∃t,mg "NIGHTS"=some (.int 400 t)
def Y4(T:Txt K mg){f:Addr}{fd:du}(F:FunD K "law" (top 59) f fd):FnOk P w K mg base CX0 65 f fd ["_law_script"] (Oh K):=by
 have J:=Hf (P:=P) (w:=w) (base:=base) (n:=0) T.d_is_whole T.blt;have m:=Ea (P:=P) (w:=w) (base:=base) (n:=0) T.d_is_rising T.blt;have X:=Eb (P:=P) (w:=w) (base:=base) (n:=0) T.d_nights_of T.blt;have b:=Rq (P:=P) (w:=w) (base:=base) (n:=0) T.d_holds T.blt;have h_firsts:=Mx (P:=P) (w:=w) (base:=base) (n:=0) T.d_firsts T.blt;have M:=wK (P:=P) (w:=w) (base:=base) (n:=0) T.d_still_to_come T.blt;have Y:=Ah (P:=P) (w:=w) (base:=base) (n:=0) T.d_beginnings T.blt;have u:=Ai (P:=P) (w:=w) (base:=base) (n:=0) T.d_first_free T.blt;have v:=Al (P:=P) (w:=w) (base:=base) (n:=0) T.d_goes_ahead T.blt;have H:=Hi (P:=P) (w:=w) (base:=base) (n:=0) T.d_chain_to T.blt;have g:=Ei (P:=P) (w:=w) (base:=base) (n:=0) T.d__law_cell T.blt;have V:=Aq (P:=P) (w:=w) (base:=base) (n:=0) T.d__law_whole T.blt;have N:=El (P:=P) (w:=w) (base:=base) (n:=0) T.d__law_full T.blt;have O:=D_ (P:=P) (w:=w) (base:=base) (n:=1) T.d_all_whole T.blt (J.mono (by decide));have I:=Hg (P:=P) (w:=w) (base:=base) (n:=1) T.d_count_at T.blt (b.mono (by decide));have h_filled:=MF (P:=P) (w:=w) (base:=base) (n:=1) T.d_filled T.blt (M.mono (by decide)) (u.mono (by decide));have Z:=Ej (P:=P) (w:=w) (base:=base) (n:=1) T.d__law_part T.blt (g.mono (by decide));have G:=xM (P:=P) (w:=w) (base:=base) (n:=1) T.d__law_stretch T.blt (V.mono (by decide));have D:=zX (P:=P) (w:=w) (base:=base) (n:=2) T.d_is_tuple_of T.blt (O.mono (by decide));have L:=wJ (P:=P) (w:=w) (base:=base) (n:=2) T.d_is_whole_list T.blt (O.mono (by decide));have p:=Mz (P:=P) (w:=w) (base:=base) (n:=2) T.d_fuller T.blt (I.mono (by decide)) (h_firsts.mono (by decide));have S:=z6 (P:=P) (w:=w) (base:=base) (fld:=(λC=>if C=63 then "room"else if C=44 then "at"else if C=82 then "room"else if C=101 then "night"else "")) (n:=0) T.d_check_room T.blt T.z_NoRoom;have t:=Ak (P:=P) (w:=w) (base:=base) (n:=2) T.d_check_room T.blt;have c:=Hh (P:=P) (w:=w) (base:=base) (n:=2) T.d_is_tight T.blt (X.mono (by decide)) (I.mono (by decide));have Q:=Ed (P:=P) (w:=w) (base:=base) (n:=2) T.d_plan_with T.blt (Y.mono (by decide)) (h_filled.mono (by decide));have h__law_far:=Ho (P:=P) (w:=w) (base:=base) (n:=2) T.d__law_far T.blt (Z.mono (by decide));have i:=Ek (P:=P) (w:=w) (base:=base) (n:=2) T.d__law_stay T.blt (Z.mono (by decide));have q:=Ar (P:=P) (w:=w) (base:=base) (n:=2) T.d__law_guest T.blt (Z.mono (by decide));have h__law_now:=Hq (P:=P) (w:=w) (base:=base) (n:=2) T.d__law_now T.blt (Z.mono (by decide));have h__law_odd:=Hr (P:=P) (w:=w) (base:=base) (n:=2) T.d__law_odd T.blt (Z.mono (by decide));have h:=Em (P:=P) (w:=w) (base:=base) (n:=2) T.d__law_good T.blt (V.mono (by decide)) (G.mono (by decide));have h_is_pair:=Ju (P:=P) (w:=w) (base:=base) (n:=3) T.d_is_pair T.blt (D.mono (by decide));have y:=zZ (P:=P) (w:=w) (base:=base) (fld:=(λC=>if C=63 then "room"else if C=44 then "at"else if C=82 then "room"else if C=101 then "night"else "")) (n:=1) T.d_check_full T.blt (X.mono (by decide)) (p.mono (by decide)) T.z_TooFull;have s:=Ag (P:=P) (w:=w) (base:=base) (n:=3) T.d_check_full T.blt (X.mono (by decide)) (p.mono (by decide));have R:=Am (P:=P) (w:=w) (base:=base) (n:=3) T.d_steps_from T.blt (c.mono (by decide)) (v.mono (by decide));have r:=Av (P:=P) (w:=w) (base:=base) (n:=3) T.d__law_stays T.blt (Z.mono (by decide)) (i.mono (by decide)) (q.mono (by decide)) (N.mono (by decide));have a:=Hs (P:=P) (w:=w) (base:=base) (n:=3) T.d__law_put T.blt (Z.mono (by decide)) (h__law_odd.mono (by decide));have h__law_due:=Ht (P:=P) (w:=w) (base:=base) (n:=3) T.d__law_due T.blt (N.mono (by decide)) (h.mono (by decide));have x:=Af (P:=P) (w:=w) (base:=base) (n:=4) T.d_is_stretch T.blt (h_is_pair.mono (by decide)) T.c_NIGHTS;have W:=vU (P:=P) (w:=w) (base:=base) (n:=4) T.d_nights_reached T.blt (R.mono (by decide));have l:=Eh (P:=P) (w:=w) (base:=base) (n:=4) T.d_is_closed T.blt (R.mono (by decide));have B:=Jv (P:=P) (w:=w) (base:=base) (n:=5) T.d_is_stay T.blt (J.mono (by decide)) (x.mono (by decide)) (X.mono (by decide)) (b.mono (by decide));have E:=xK (P:=P) (w:=w) (base:=base) (fld:=(λC=>if C=63 then "room"else if C=44 then "at"else if C=82 then "room"else if C=101 then "night"else "")) (n:=4) T.d_check_stays T.blt (B.mono (by decide)) T.z_NoStay T.z_Taken;have A:=zY (P:=P) (w:=w) (base:=base) (n:=6) T.d_check_stays T.blt (B.mono (by decide));have U:=Aj (P:=P) (w:=w) (base:=base) (fld:=(λC=>if C=63 then "room"else if C=44 then "at"else if C=82 then "room"else if C=101 then "night"else "")) (n:=5) T.d_check_who T.blt (y.mono (by decide)) (E.mono (by decide)) T.z_NoStay;have k:=Ec (P:=P) (w:=w) (base:=base) (n:=7) T.d_check_who T.blt (A.mono (by decide)) (s.mono (by decide));have e:=Ef (P:=P) (w:=w) (base:=base) (fld:=(λC=>if C=63 then "room"else if C=44 then "at"else if C=82 then "room"else if C=101 then "night"else "")) (n:=6) T.d_may_have T.blt (Y.mono (by decide)) (W.mono (by decide)) (H.mono (by decide)) (Q.mono (by decide)) (S.mono (by decide)) (U.mono (by decide));have d:=Hj (P:=P) (w:=w) (base:=base) (n:=8) T.d_may_have T.blt (Y.mono (by decide)) (k.mono (by decide)) (t.mono (by decide)) (W.mono (by decide)) (H.mono (by decide)) (Q.mono (by decide));have x_is_shut:=Hl (P:=P) (w:=w) (base:=base) (fld:=(λC=>if C=63 then "room"else if C=44 then "at"else if C=82 then "room"else if C=101 then "night"else "")) (n:=6) T.d_is_shut T.blt (L.mono (by decide)) (m.mono (by decide)) (Y.mono (by decide)) (l.mono (by decide)) (S.mono (by decide)) (U.mono (by decide));have o:=Ao (P:=P) (w:=w) (base:=base) (fld:=(λC=>if C=63 then "room"else if C=44 then "at"else if C=82 then "room"else if C=101 then "night"else "")) (n:=7) T.d_rooms_for T.blt (d.mono (by decide)) (U.mono (by decide));have z:=z7 (P:=P) (w:=w) (base:=base) (n:=10) T.d__law_caught T.blt (x_is_shut.mono (by decide)) (e.mono (by decide)) (o.mono (by decide)) T.s_NoRoom T.s_NoStay T.s_Taken T.s_TooFull T.v_ValueError;have j:=En (P:=P) (w:=w) (base:=base) (n:=11) T.d__law_told T.blt (V.mono (by decide)) (h__law_due.mono (by decide)) (z.mono (by decide));exact((YZ (P:=P) (w:=w) (base:=base) (n:=12) F T.blt (Z.mono (by decide)) (h__law_far.mono (by decide)) (h__law_now.mono (by decide)) (r.mono (by decide)) (a.mono (by decide)) (j.mono (by decide))).mono (by decide)).imp (Sy K48.Rp)
end K48
namespace PySem.W.Fast
def tw13377923864978934157:=0
def tw10533212394422531472:=0
def tw321239033983753788:=0
def tw6731825127610862230:=0
def tw13449735183791736468:=0
def tw5394134082150015784:=0
def tw6719278586909723918:=0
def tw1787478126797057122:=0
def tw15055040938493896436:=0
def tw2428568914197013148:=0
def tw990190951373136821:=0
def tw17975927673145110715:=0
def tw9218908336204144570:=0
def tw4376819441753361946:=0
def tw17486132466554609007:=0
def tw6875950492208754878:=0
def tw5773846939368510931:=0
def tw15596643362412959561:=0
def tw6430429856862077101:=0
def tw752881246107238838:=0
def tw12085600352021761155:=0
def tw9634888200271342588:=0
def tw8531807850590386513:=0
def tw10621661203480327590:=0
def tw6617974714017969099:=0
def tw10695767621344127644:=0
def tw15746439121030768556:=0
def tw4330779276684437321:=0
def tw18293022620779661877:=0
def tw5009432646423353592:=0
def tw8262111527049366220:=0
def tw1581796655344903842:=0
def tw2198540047897269936:=0
def tw16447387800373475362:=0
def tw14604519271572120352:=0
def tw6068723577930129861:=0
def tw15780443110984695023:=0
def tw735022810198208633:=0
def tw3395408189548754765:=0
def tw13984966072646573568:=0
def tw17399606485981515814:=0
def tw11545016440584622605:=0
def tw3208027684726545475:=0
def tw4046833206526784124:=0
def tw17586058741565329604:=0
def tw11706478236814105623:=0
def tw270601307273407077:=0
def tw1951826477029973189:=0
def tw16774983000177873252:=0
def tw14301196094239125432:=0
def tw1318702311804110159:=0
def tw18042834501172738912:=0
def tw14248882248797492644:=0
def tw5125360869209420465:=0
def tw16946002054948173442:=0
def tw12083906403593826039:=0
def tw4537221221539504412:=0
def tw17106860847618997037:=0
def tw12364397801177306969:=0
def tw11066946711499807211:=0
def tw14758795318336126979:=0
def tw13312024052604680119:=0
def tw8618233021949434015:=0
def tw13311944491613084823:=0
def tw13946186484214651093:=0
def tw8001862398067762319:=0
def tw9822190054293908559:=0
def tw7872654981341362556:=0
def tw8230657150048093572:=0
end PySem.W.Fast
open PySem PySem.W PyProof.Rows
set_option maxRecDepth 100000 in
set_option maxHeartbeats 0 in
theorem PySem.Challenge.cw_nightbook_k48_asked_wrongly_holds : PySem.Challenge.rw_nightbook_k48_asked_wrongly.Holds := by
 w_on;o_law;k_head;(case hw=>w_witness2)
 k_fill
 refine L2.NP (l:=PySem.Challenge.rw_nightbook_k48_asked_wrongly) (n:=63) (k:=65) (x := "_law_script") (CX:=L2.CX0) (sp:=D3.Oh) rfl (by decide) rfl ⟨rfl,by decide,by decide⟩ (λw h Y=>PySem.W.km_in_of Y) ?F D3.tabs (λw h Y=>XL.Ud (c:=201) (PySem.W.km_in_of Y) (PySem.W.km_tabs_of Y _ (aD)) (by kernel_rfl) (by kernel_rfl)) XL.P_ ?S ?C
 case F=>
  intro w mg fa h Z G X;have T:K48.Txt (L2.KOf Z) mg:=by
   constructor
   (case blt=>constructor<;>(refine' PySem.W.mg_none_of Z G ?z;(case z=>k_is)))
   all_goals try dsimp only[L2.KOf]
   all_goals first
    | (refine' D3.Zx Z G ?b ?a ?l ?c ?k;(case a=>k_is);(case l=>k_is);(case c=>k_is);(case k=>k_is);(case b=>intro _ _ _ _ _ _;repeat(first|exact D3.len0 rfl|exact D3.len0 ⟨_,rfl,rfl⟩|refine D3.Y0 λ_=>?_)))
    | (refine' D3.Zy Z G ?b ?a ?l ?c ?k;(case a=>k_is);(case l=>k_is);(case c=>k_is);(case k=>k_is);(case b=>exact λ_ _ _ _ _ _ u=>rfl))
    | (refine' XL.X3 Z G ?b ?a ?l ?c ?k ?h ?t;(case a=>k_is);(case l=>k_is);(case c=>k_is);(case k=>k_is);(case h=>kernel_rfl);(case t=>exact aD);(case b=>intro _ _ _ _ _ _;repeat(first|exact D3.len0 rfl|exact D3.len0 ⟨_,rfl,rfl⟩|refine D3.Y0 λ_=>?_)))
    | (refine' D3.W8 Z G ?b ?a ?l ?c ?k ?t ?s;(case a=>k_is);(case l=>k_is);(case c=>k_is);(case k=>k_is);(case t=>k_is);(case s=>rfl);(case b=>intro _ _ _ _ _ _;repeat(first|exact D3.len0 rfl|exact D3.len0 ⟨_,rfl,rfl⟩|refine D3.Y0 λ_=>?_)))
    | (refine' XC.Tr (XC.O4 Z G ?a ?kp ?lC ?lI ?lN ?oN ?lNI ?oNI ?i1 ?i2 ?s1 ?s2 ?n1 ?n2 ?hB ?lk ?hcd ?sc ?l1 ?l2 ?hb ?ne ?nd ?nc) ?fc (PySem.W.mg_of Z G ?m) ⟨⟨?e1,?e2,?e3⟩,?k2,?k3,?k4,?k5,?k6⟩ ⟨⟨?e4,?e5,?e6⟩,?a2,?a3⟩ (XC.vK (PySem.W.mg_of Z G ?t0) ?r0 (XC.vK (PySem.W.mg_of Z G ?t1) ?r1 (XC.vK (PySem.W.mg_of Z G ?t2) ?r2 (XC.vK (PySem.W.mg_of Z G ?t3) ?r3 XC.Tq))));(case a=>k_is);(case kp=>k_is);(case lC=>k_is);(case lI=>k_is);(case lN=>k_is);(case lNI=>k_is);(case oN=>rfl);(case oNI=>rfl);(case i1=>k_is);(case i2=>k_is);(case s1=>k_is);(case s2=>k_is);(case n1=>k_is);(case n2=>k_is);(case hB=>rw[typeLookup_type,builtinLookup_eq_fast];kernel_rfl);(case lk=>k_is);(case hcd=>k_is);(case sc=>exact⟨rfl,rfl,rfl,by decide +kernel,rfl,by decide +kernel,by decide +kernel⟩);(case l1=>rfl);(case l2=>rfl);(case hb=>exact λ_ _=>rfl);(case ne=>decide);(case nd=>decide);(case nc=>decide);(case m=>k_is);(case fc=>rfl);(case t0=>k_is);(case t1=>k_is);(case t2=>k_is);(case t3=>k_is);(case e1=>kernel_rfl);(case e2=>kernel_rfl);(case e3=>kernel_rfl);(case k2=>kernel_rfl);(case k3=>kernel_rfl);(case k4=>kernel_rfl);(case k5=>kernel_rfl);(case k6=>kernel_rfl);(case e4=>kernel_rfl);(case e5=>kernel_rfl);(case e6=>kernel_rfl);(case a2=>kernel_rfl);(case a3=>kernel_rfl);(case r0=>kernel_rfl);(case r1=>kernel_rfl);(case r2=>kernel_rfl);(case r3=>kernel_rfl))
    | (refine'⟨_,_,(XC.O4 Z G ?a ?kp ?lC ?lI ?lN ?oN ?lNI ?oNI ?i1 ?i2 ?s1 ?s2 ?n1 ?n2 ?hB ?lk ?hcd ?sc ?l1 ?l2 ?hb ?ne ?nd ?nc),?fq,?m⟩;(case a=>k_is);(case kp=>k_is);(case lC=>k_is);(case lI=>k_is);(case lN=>k_is);(case lNI=>k_is);(case oN=>rfl);(case oNI=>rfl);(case i1=>k_is);(case i2=>k_is);(case s1=>k_is);(case s2=>k_is);(case n1=>k_is);(case n2=>k_is);(case hB=>rw[typeLookup_type,builtinLookup_eq_fast];kernel_rfl);(case lk=>k_is);(case hcd=>k_is);(case sc=>exact⟨rfl,rfl,rfl,by decide +kernel,rfl,by decide +kernel,by decide +kernel⟩);(case l1=>rfl);(case l2=>rfl);(case hb=>exact λ_ _=>rfl);(case ne=>decide);(case nd=>decide);(case nc=>decide);(case m=>refine' PySem.W.mg_of Z G ?z;(case z=>k_is));(case fq=>rfl))
    | (refine' PySem.W.mg_none_of Z G ?z;(case z=>k_is))
    | (exact⟨_,PySem.W.mg_of Z G rfl⟩)
  obtain⟨f,fd,F,b,m⟩:=T.d_law.ex;have R:=X.symm.trans m
  cases R;exact⟨fd,b,λbase P Q=>K48.Y4 T F⟩
 case S=>exact λK H a ns hl U V=>⟨a,ns,U,rfl,V,hl,λ_=>rfl⟩
 case C=>exact λ_ _ _ _ z=>z
