import PyProof.Rows.All
import Wide.All
import OpenK.AllK
import Wide.FinOn
import Lean
import PyProof.EqAt
import PyProof.EqKinds
import PyProof.TupleCall
import PySem.Challenge.RW_rankyard_k13_whole_turned_about
set_option maxHeartbeats 4000000
open PySem renaming wpAny_bind->aa,Value->ae,Shared->ai,Addr->ak,wpAny_pure->al,starEach->ao,sizeLine->aL,wpAny->aM,Expr->aP,mainGlobals->aR,model->be,Program->bA,sizeLine_eq->bE,Str->bH,Around->bK,eval->b9,World->cb,Heap->cr,cLine->cx,wpAny_newObj_type->cy,backTo->cz,wpAny_holding->cP,Stmt->cV,foldedSetIterable->cW,sysModules->dh,Obj->dm,wpAny_mono->dz,assignEach->dA,FuncData->dB,compareOp->dM,Scope->dO,NameKind->d5,wpAny_truthy_bool->eA,cellsFrom->eB,codeAny_builtin->eD,behindInMarks->eM,Pos->e7,swapsWith->ff,wpAny_call_entry->fB,wpAny_typeNameOfWhole_keyiter->fL,wpAny_Call_Name_kw->fM,wpAny_passesOwn->fW,attributeBase->gk,plainId_quiet->gr,mem_of_lookup->gB,wpAny_standAt->g4,wpAny_typeNameOf_keyiter->g5,tupleKind_room_in1->g8,keywordEach->h8,wpAny_callSpecial?_slot->h9,bootBuiltins->iu,wpAny_typeOf->iy,wpAny_tryCatch->iB,Arguments->iN,Keyword->i5,binaryOp->i7,sliceBounds->i8,tupleKind->jC,assign->jH,rawInt->jI,bindArgs->jJ,wpAny_pyIter_list->km,getItem->kn,pyNext->kq,wpAny_newList->kt,backToKw->lh,DictEntry->lj,codeAny->lA,relabel->lB,wpAny_execs_nil->lO,IsPart->mM,intItems->mP,wpAny_letGo->mR,wpAny_seqItems->mS,PassesOwn->ny,argBest->nA,Paired->oq,builtinsNs->ot,wpAny_load->ou,Env->pQ,CmpOp->pS,standAt->pT,codeAny_mono->pU,valueAt->pV,concat_meets->pW,callerA->pX,wpAny_dictEntries->pZ,wpAny_eqBool_int->qW,pairTrees->qX,noFill_tuple_add->q0,seqItems?->re,subscripted->sM,letOwnedTupleGo->sR,wpAny_dictEpoch->sS,wpAny_updateSeq->sV,holding->uI,BindsTo->uJ,collect->uM,recursionLimit->uR,atKey->uS,call_meets->uU,wpAny_rule->uW,swapsWithSole->xE,swappedStores->xF,rangeSize_one->xG,seq_tuple_add->xI,call->xJ,wpAny_comprehension_free->xK,wpAny_attempt->xL,bindL->yD,bindC->yE,numAt->yI,Tok->yP,Result->yQ,call_meetsIn->yR,Params->yT,codeAny_compStart_list->yW,wpAny_isTrue_Compare1->BH,wpAny_notOrdered_dict->BK,wpAny_isOneOf_keyiter->BL,wpAny_field->B2,compPost->B5,wpAny_of_eq->B6
open List renaming length_map->ab,mem_cons_of_mem->ag,mem_cons_self->ah,getElem?_eq_getElem->aj,mem_cons->am,mem_singleton->av,map_cons->aw,getElem?_map->ay,mem_append->az,size_toArray->aA,getD_eq_getElem?_getD->aB,map_map->aC,getElem?_eq_some_iff->aE,length_cons->aG,mem_filter->aI,mem_map->aK,length_append->aN,pairwise_singleton->aS,mem_append_right->aU,getElem?_set_self->aZ,getElem?_set_ne->ba,nodup_cons->bf,nodup_append->bp,getElem?_cons_zero->br,getElem?_cons_succ->bv,mem_append_left->bw,length_singleton->bx,pairwise_map->bB,map_append->bD,pairwise_cons->bF,range->bG,mem_of_getElem?->bI,filter_sublist->bQ,length_set->bU,getElem_of_mem->cf,all_eq_true->cB,getElem?_append_right->cM,length_nil->cX,lookup_cons->dg,map_congr_left->dr,getElem?_append_left->dE,append_assoc->dX,length_range->dZ,take_of_length_le->eC,length_filter_le->eJ,pairwise_iff_getElem->eS,append_nil->eV,pairwise_append->eZ,getElem?_eq_none->fK,length->gj,perm_ext_iff_of_nodup->gn,range_eq_range'->gq,length_eraseIdx_of_lt->gs,length_take->gx,getElem_mem->gy,any_eq_true->gz,drop_eq_getElem_cons->gC,find?_cons->gK,map->g6,filter_congr->g7,getElem_inj->iq,eq_nil_of_length_eq_zero->iH,length_dropLast->iI,map_nil->iZ,mem_range->i9,drop_zero->jb,filter_filter->jd,any_cons->jD,getElem?_replicate->jS,length_drop->jU,length_eq_zero_iff->jV,drop_length->jW,ext_getElem->jX,filter_cons_of_neg->jY,filter_cons->jZ,mem_flatten->j0,length_replicate->kM,filterMap_cons->lN,zip_cons_cons->mJ,lookup_append->mK,ext_getElem?->nz,all_map->nC,length_filter_eq_length_iff->nD,range'_succ->og,of_mem_zip->pL,length_zip->pO,forIn_nil->qp,sum_cons->sN,filter_cons_of_pos->sW,set_set->uO,any_map->uP,drop_of_length_le->uQ,eraseIdx_sublist->u4,perm_append_comm->u5,dropLast_sublist->u6,pairwise_reverse->u7,mem_iff_getElem->wd,range'->we,length_pos_iff->xS,length_reverse->xT,mem_filterMap->yB,zip_nil_right->yF,getElem?_set->y6,mapM_toArray->y8,take_length->BJ,getElem_map->BM,map_snd_zip->BN,getElem_zip->BP,cons_append->BQ,all_toArray->BR,perm_middle->BS,mem_reverse->BV,forIn_cons->B4,replicate->D3,nodup_nil->D4
open PySem.W renaming Frag->ac,keepIn->bb,fnOf->bc,nsIn->bg,codeIn->bj,mg_of->bz,mg_none_of->cH,cellsFrom_some->gM,kas_ask->iA,CodeHd->iO,tabObj->ku,methodObj->lQ,kat_cons->mO,kas_sort->mQ,codeHdIn->mT,kat_yes->nY,kat_one->n5,kat_no->oy,kla_fn->oz,KasT->q5,codeHd_of_K->uN,kat_lt_int->uY,kat_snds->xM,kas_kind->xO,kat_kind->xP,kas_item->xQ,KatTups->yH,kla_obj->yJ,OpenLaw->yK,KatLex->yZ,kat_lt->y4,WalkO->BO
open PySem.Heap renaming get?_push_of_some->af,lt_size->aF,get?_push_size->aH,get?_update_other->cN,size_push->jc,SameBut->kj,get?_update_self->kN,size_update->oh,get?_update_ne->xN
open Sum renaming inl->aq,inr->nV
open Nat renaming le_refl->ax,lt_of_lt_of_le->bi,ne_of_lt->bu,le_trans->bL,zero_le->bW,lt_irrefl->b8,le_of_succ_le->hJ,le_of_lt->i6,lt_succ_self->kf,le_of_eq->kr,le_antisymm->kO,lt_or_eq_of_le->mX,sub_self->n8,not_lt_zero->p3,strongRecOn->p5,mul_le_mul->rh,sub_zero->uX,lt_of_le_of_lt->yU,lt_succ_of_lt->BI,lt_trichotomy->BU,min_eq_right->Cb,min_eq_left->D6
open Bool renaming false_ne_true->aO,and_eq_true->aY,eq_iff_iff->cY,false_eq_true->eG,or_eq_true->iK,and_self->lU,true_and->lV
open PySem.Value renaming none->bC,ref->bN,int->eR,bool->fU,type->fV,str->sJ,isStrOf->D2
open PySem.PassesOwn renaming never->bM
open Array renaming length_toList->bP,perm_iff_toList_perm->cL,getElem?_toList->fI,getElem?_eq_getElem->gA,toArray_toList->ll,getD_eq_getD_getElem?->pM,getElem?_eq_none->sT,forIn_toList->xR
open Option.some renaming inj->bR
open PySem.PyData renaming depthAll->bT,canLayAll0->cp,eqv->cA,canLay0->cK,depth->d8,eqvAll->fD
open PySem.Obj renaming mapSeq->bV,data_mapFields->yX
open PyProof.Rows renaming seqObj->bY,slot_tuple_getitem->eI,callWith_type1->fw,envOfC->fA,KeyOrd->fC,IntsAre->fN,get?_update_seq->fX,listUpdate_at->gm,SortKind->iz,listItems_at->jo,IsTup->jG,AllBare->lz,seqEpoch_at->mN,oneType'->p0,failedOf->uV,subscriptTail->xH,subscriptTail_builtinR->yS,tuples'->y3,arrOf->B3,keyKind'->B7,entry_proto_collect'->B8,callWith_kw->B9,entry_tuple_getitem->D5
open PySem.Paired renaming length->ce
open False renaming elim->ck
open Option renaming map_some->cn,isSome_iff_exists->jk,isSome_map->mI,map_eq_some_iff->sK,isSome_some->wc,getD_none->yG
open PySem.Str renaming ofString->cG
open Sum.inl renaming inj->cZ
open PySem.Builtin.Tuple renaming tupleExact->dq,tupleItemsOf->lT
open Or renaming inl->dI,inr->dQ
open PySem.Around renaming under_plainId->dJ,frames_deeper->uK
open PyProof.Rows.KeyOrd renaming kle_refl->dR,kle_of_klt->gY,kle_trans->ia,kle_antisymm->lr
open PySem.F renaming plain_max_loop->d6,args_tuple_add_2->jg,entry_tuple_add->jn,slot_tuple_add->jK,slot_dict_get->j9,slot_tuple_lt->ke,args_dict_get_3->qf,plainAttrs_dict->qj,args_tuple_lt_2->qk,plainAttrs_list->qo,plain_list_iadd->qr,plain_tuple_new->qu,slot_dict_items->qv,entry_dict_get->qY,entry_tuple_lt->qZ,entry_max_loop->rf
open PySem.Heap.SameBut renaming update->eO
open Classical renaming choose->e8,choose_spec->jL
open PySem.Builtin.Slice renaming slicePlaces->fG,sliceAdjust->iw,sliceApplied->lS
open Int renaming toNat_natCast->g9,emod_lt_of_pos->mV,mul_one->pK,emod_nonneg->p4,zero_add->uZ,mul_zero->u0,mul_comm->u3
open PySem.NameKind renaming free->hE,cell->yV
open PySem.Builtin.List renaming listExtendWith->ib
open True renaming intro->ja
open ForInStep renaming yield->jE
open Prod renaming ext->jT,fst->wf,snd->wg
open PySem.Calls renaming callWith_builtin->kc,spliced_cons->lR,Name_function_global->pR,evalArgs_plain->uT,spliced_nil->yC
open PySem.Builtin.Dict_items renaming ownsTuple->ko
open PySem.Builtin.Builtins renaming bindParams->lm
open List.cons renaming injEq->mW
open PyProof.Rows.IsTup renaming new->nW
open PySem.Builtin.Dict renaming updateFrom->n6,showsAll->ox
open PyProof.Rows.SortSt renaming mk'->pN
open PySem.Walks renaming list->pY
open List.Pairwise renaming nil->qm
open List.Perm renaming cons_inv->sU
open PySem.Heap.DictOf renaming new->uL
open StateT renaming run_pure->yY
set_option Elab.async false
set_option linter.all false
set_option maxRecDepth 100000
namespace L2
open PySem PySem.Spec PyProof.Rows
abbrev Key:=Sum Int bH
def rV:Key->ae->Bool
 | .inl k,v=>Value.isInt k v
 | .inr x,v=>D2 x v
def LR (w:cb):Key->Int
 | .inl k=>hashInt k
 | .inr x=>hashStr w x
theorem dN:∀ {k:Key} {v:ae},rV k v=true->(∃ i t,k=aq i/\v=eR i t)\/(∃ x t,k=nV x/\v=sJ x t)
 | .inl i,v,h=>by
   obtain ⟨t,e⟩:=Value.isInt_shape (k:=i) (v:=v) h
   exact .inl ⟨i,t,rfl,e⟩
 | .inr x,v,h=>by
   obtain ⟨t,e⟩:=Value.isStrOf_shape (x:=x) (v:=v) h
   exact .inr ⟨x,t,rfl,e⟩
theorem A9 (i:Int) (t:yP):rV (.inl i) (.int i t)=true:=by simp [rV,Value.isInt]
theorem Ax (x:bH) (t:yP):rV (.inr x) (.str x t)=true:=by simp [rV,D2]
theorem Iz (a b:Int):decide ((aq a:Key)=aq b)=(a == b):=by
 by_cases e:a=b
 ·subst e;simp
 ·have h:¬ (aq a:Key)=aq b:=fun q=>e (cZ q)
  rw [decide_eq_false h]
  exact (beq_eq_false_iff_ne.mpr e).symm
theorem JW (a b:bH):decide ((nV a:Key)=nV b)=decide (a=b):=by
 by_cases e:a=b
 ·subst e;simp
 ·have h:¬ (nV a:Key)=nV b:=fun q=>e (Sum.inr.inj q)
  rw [decide_eq_false h,decide_eq_false e]
theorem IQ (a:Int) (b:bH):decide ((aq a:Key)=nV b)=false:=decide_eq_false (fun q=>nomatch q)
theorem IB (a:bH) (b:Int):decide ((nV a:Key)=aq b)=false:=decide_eq_false (fun q=>nomatch q)
def cI (prog:bA) (w:cb):PySem.KeyKind prog w Key where
 is:=rV
 hash:=LR w
 inj:=fun v a b ha hb=>by
  rcases dN ha with ⟨i,t,rfl,rfl⟩ | ⟨x,t,rfl,rfl⟩
  ·rcases dN hb with ⟨j,u,rfl,e⟩ | ⟨y,u,rfl,e⟩
   ·injection e with e1 _;rw [e1]
   ·exact nomatch e
  ·rcases dN hb with ⟨j,u,rfl,e⟩ | ⟨y,u,rfl,e⟩
   ·exact nomatch e
   ·injection e with e1 _;rw [e1]
 byValue:=fun k v h=>by
  rcases dN h with ⟨i,t,rfl,rfl⟩ | ⟨x,t,rfl,rfl⟩<;>rfl
 pyHash:=fun hv h=>by
  rcases dN hv with ⟨i,t,rfl,rfl⟩ | ⟨x,t,rfl,rfl⟩
  ·exact wpAny_pyHash_int h
  ·exact wpAny_pyHash_str h
 eqBool:=fun hu hv h=>by
  rcases dN hu with ⟨i,t,rfl,rfl⟩ | ⟨x,t,rfl,rfl⟩
  ·rcases dN hv with ⟨j,u,rfl,rfl⟩ | ⟨y,u,rfl,rfl⟩
   ·rw [Iz] at h;exact qW h
   ·rw [IQ] at h;exact SeqAt.EqAt.int_str i t y u _ _ _ _ h
  ·rcases dN hv with ⟨j,u,rfl,rfl⟩ | ⟨y,u,rfl,rfl⟩
   ·rw [IB] at h;exact SeqAt.EqAt.str_int x t j u _ _ _ _ h
   ·rw [JW] at h;exact wpAny_eqBool_str h
 «strs»:=fun k x t v h=>by
  rcases dN h with ⟨i,u,rfl,e⟩ | ⟨y,u,rfl,e⟩
  ·exact nomatch e
  ·injection e with e1 _
   subst e1
   cases v<;>rfl
theorem vX (prog:bA) (w:cb) (i:Int) (t:yP):(cI prog w).is (.inl i) (.int i t)=true:=A9 i t
theorem ve (prog:bA) (w:cb) (x:bH) (t:yP):(cI prog w).is (.inr x) (.str x t)=true:=Ax x t
inductive V where
 | non | bl (b:Bool) | int (i:Int) | str (x:bH) | byt (b:Array UInt8) | flt (b:UInt64) | ref (a:ak) | ty (n:String)
 deriving DecidableEq
def gD:V->ae->Prop
 | .non,u=>u=bC
 | .bl b,u=>u=fU b
 | .int i,u=>∃ t,u=eR i t
 | .str x,u=>∃ t,u=sJ x t
 | .byt b,u=>∃ t,u=Value.bytes b t
 | .flt b,u=>∃ t,u=Value.float b t
 | .ref a,u=>u=bN a
 | .ty n,u=>u=fV n
abbrev eE:List V->List ae->Prop:=oq gD
theorem eE.length {xs:List V} {us:List ae} (r:eE xs us):xs.length=us.length:=ce r
theorem eE.get:∀ {xs:List V} {us:List ae} {i:Nat} {x:V},eE xs us->xs[i]?=some x->∃ u,us[i]?=some u/\gD x u
 | _,_,_,_,.nil,e=>by simp at e
 | _,_,0,_,.cons r _,e=>by simp at e;subst e;exact ⟨_,rfl,r⟩
 | _,_,i+1,x,.cons _ t,e=>by
   obtain ⟨u,h1,h2⟩:=eE.get (i:=i) (x:=x) t (by simpa using e)
   exact ⟨u,by simpa using h1,h2⟩
theorem eE.append:∀ {xs ys:List V} {us ws:List ae},eE xs us->eE ys ws->eE (xs++ys) (us++ws)
 | _,_,_,_,.nil,s=>s
 | _,_,_,_,.cons r t,s=>.cons r (eE.append t s)
theorem eE.take:∀ {xs:List V} {us:List ae} (n:Nat),eE xs us->eE (xs.take n) (us.take n)
 | _,_,0,_=>.nil
 | _,_,_+1,.nil=>.nil
 | _,_,n+1,.cons r t=>.cons r (eE.take n t)
theorem eE.drop:∀ {xs:List V} {us:List ae} (n:Nat),eE xs us->eE (xs.drop n) (us.drop n)
 | _,_,0,r=>r
 | _,_,_+1,.nil=>.nil
 | _,_,n+1,.cons _ t=>eE.drop n t
def yN:Option V->Option ae->Prop
 | some v,some u=>gD v u
 | none,none=>True
 | _,_=>False
def KV {κ:Type}:List (κ×V)->List (κ×ae)->Prop:=oq fun (p:κ×V) (q:κ×ae)=>p.1=q.1/\gD p.2 q.2
def kV:Key->V
 | .inl i=>.int i
 | .inr x=>.str x
inductive HO where
 | lst (xs:List V)
 | tup (xs:List V)
 | dK (kvs:List (Key×V)) | dT (kvs:List (List Key×V))
 | set (S:Int->Bool) (n:Nat)
 | ins (C dx:ak) (fs:List (bH×V))
 | own (x:ak)
 | xd (fs:List (bH×V))
 | met (f x:ak)
 | rng (lo hi:Int)
 | frz (o:dm) (u:HO)
 | tbl (ps:Array ae)
 | tab (q:bH)
 | cod (q:bH)
 | ext (φ:cr->Prop)
abbrev Hp:=ak->Option HO
def upd (H:Hp) (a:ak) (o:HO):Hp:=fun b=>if b=a then some o else H b
theorem aV {H:Hp} {a:ak} {o:HO}:upd H a o a=some o:=by unfold upd;rw [if_pos rfl]
theorem bq {H:Hp} {a b:ak} {o:HO} (h:b≠a):upd H a o b=H b:=by unfold upd;rw [if_neg h]
theorem Iq {H:Hp} {a b:ak} {o u:HO} (h:H a=some o) (h':H b=some u) (d:o≠u):a≠b:=by
 intro e;subst e;rw [h] at h';exact d (bR h')
theorem b7 {H:Hp} {a b:ak} {o:HO} (h:H a=some o) (h':H b=none):a≠b:=by
 intro e;subst e;rw [h] at h';cases h'
def mz (h:cr) (a:ak):Prop:=∃ o,h.get? a=some o/\o.dict=none
theorem mz.new (h:cr) (o:dm) (e:o.dict=none:=by rfl) (f:o.isFreed=false:=by rfl):mz (h.push o) h.objs.size:=⟨o,aH _ f,e⟩
def yz (H:Hp) (q:bH):List ae->Prop
 | []=>True
 | .int _ _::.int _ _::.ref c::r=>H c=some (.cod q)/\yz H q r
 | _=>False
section
variable (P:bA) (w:cb)
def gO (H:Hp) (h:cr) (a:ak):HO->Prop
 | .lst xs=>xs.length<=aL/\∃ (its:List ae) (n:Nat),eE xs its/\h.get? a=some { cls:=.type "list",data:=.seq its.toArray n }
 | .tup xs=>(xs.length<=aL/\mz h a)/\∃ its:List ae,eE xs its/\jG h a its.toArray
 | .dK kvs=>kvs.length<=aL/\(a == dh)=false/\∃ vs,KV kvs vs/\h.DictOf (cI P w) a vs
 | .dT kvs=>kvs.length<=aL/\(a == dh)=false/\∃ xs:List (List Key×ak×ae),
    oq (fun (p:List Key×V) (q:List Key×ak×ae)=>p.1=q.1/\H q.2.1=some (.tup (p.1.map kV))/\gD p.2 q.2.2) kvs xs /\
    ∃ o es ep,h.get? a=some o/\o.ExactDict/\o.data=.dict es ep/\es.toList=xs.map (entryOfKey (jC (cI P w)))/\(xs.map (·.1)).Nodup
 | .set S n=>h.SetOf (intKind P w) a S n
 | .ins C dx fs=>H dx=some (.own a)/\fs.length<=1000/\dx≠a/\h.get? a=some (PySem.W.instObj C dx) /\
    ∃ mA,h.Ns1 dx mA/\(∀ f,yN (fs.lookup f) (mA f))/\PySem.Within mA (fs.map (·.1))
 | .own _=>∃ o,h.get? a=some o
 | .xd fs=>∃ mA,h.Ns1 a mA/\∀ f,yN (fs.lookup f) (mA f)
 | .rng lo hi=>∃ t u v,h.get? a=some { cls:=.type "range",data:=.fields #[.int lo t,.int hi u,.int 1 v] }
 | .frz o u=>h.get? a=some o/\gO H h a u
 | .tbl ps=>h.get? a=some { cls:=.none,data:=.fields ps }
 | .met f x=>h.get? a=some (lQ (.ref f) (.ref x))
 | .tab q=>∃ ps:Array ae,h.get? a=some { cls:=.none,data:=.fields ps }/\yz H q ps.toList
 | .cod q=>h.CodeRec (.ref a) q
 | .ext φ=>φ h/\(∃ o,h.get? a=some o)/\∀ h1 h2:cr,φ h1->(∀ o,h1.get? a=some o->h2.get? a=some o)->φ h2
def HOk (H:Hp) (h:cr):Prop:=∀ a o,H a=some o->gO P w H h a o
end
section
variable {P:bA} {w:cb} {H H':Hp} {h h':cr} {a:ak} {o:HO}
theorem gO.lt (x:gO P w H h a o):a<h.objs.size:=by
 cases o with
 | lst xs=>obtain ⟨_,_,_,_,e⟩:=x;exact aF e
 | tup xs=>obtain ⟨_,_,_,p⟩:=x;exact p.lt
 | dK kvs=>obtain ⟨_,_,_,_,o,_,_,e,_⟩:=x;exact aF e
 | dT kvs=>obtain ⟨_,_,_,_,o,_,_,e,_⟩:=x;exact aF e
 | set S n=>obtain ⟨o,_,_,_,e,_⟩:=x;exact aF e
 | ins C dx fs=>obtain ⟨_,_,_,e,_⟩:=x;exact aF e
 | own y=>obtain ⟨_,e⟩:=x;exact aF e
 | xd fs=>obtain ⟨_,⟨_,_,_,e,_⟩,_⟩:=x;exact aF e
 | rng lo hi=>obtain ⟨_,_,_,e⟩:=x;exact aF e
 | frz ob u=>obtain ⟨e,_⟩:=x;exact aF e
 | tbl ps=>exact aF (show h.get? a=some _ from x)
 | tab q=>obtain ⟨_,e,_⟩:=x;exact aF e
 | cod q=>obtain ⟨c,_,_,_,e0,e,_⟩:=x;cases e0;exact aF e
 | met f y=>exact aF (show h.get? a=some _ from x)
 | ext φ=>obtain ⟨_,⟨_,e⟩,_⟩:=x;exact aF e
theorem Paired.mapP {α β:Type} {F G:α->β->Prop}:∀ {l₁:List α} {l₂:List β},oq F l₁ l₂->(∀ a b,F a b->G a b)->oq G l₁ l₂
 | _,_,.nil,_=>.nil
 | _,_,.cons r t,f=>.cons (f _ _ r) (Paired.mapP t f)
theorem yz.stay {H H':Hp} {q:bH} (hc:∀ b q,H b=some (.cod q)->H' b=some (.cod q)):∀ {l:List ae},yz H q l->yz H' q l:=fun {l} t=>by
 fun_induction yz H q l with
 | case1=>exact t
 | case2 _ _ _ _ c r ih=>exact ⟨hc _ _ t.1,ih t.2⟩
 | case3=>exact t.elim
theorem gO.stay (x:gO P w H h a o) (k:∀ b u,(b=a\/H b=some (.own a))->h.get? b=some u->h'.get? b=some u)
 (ho:∀ b,H b=some (.own a)->H' b=some (.own a)) (ht:∀ b xs,H b=some (.tup xs)->H' b=some (.tup xs)) (hcd:∀ b q,H b=some (.cod q)->H' b=some (.cod q)):gO P w H' h' a o:=by
 induction o with
 | lst xs=>obtain ⟨z,its,n,r,e⟩:=x;exact ⟨z,its,n,r,k _ _ (.inl rfl) e⟩
 | tup xs=>obtain ⟨⟨z,o0,e0,d0⟩,its,r,ob,e,c⟩:=x;exact ⟨⟨z,o0,k _ _ (.inl rfl) e0,d0⟩,its,r,ob,k _ _ (.inl rfl) e,c⟩
 | dK kvs=>obtain ⟨z,y,vs,r,ob,es,ep,e,c⟩:=x;exact ⟨z,y,vs,r,ob,es,ep,k _ _ (.inl rfl) e,c⟩
 | dT kvs =>
   obtain ⟨z,y,xs,r,ob,es,ep,e,c⟩:=x
   exact ⟨z,y,xs,Paired.mapP r fun p q z=>⟨z.1,ht _ _ z.2.1,z.2.2⟩,ob,es,ep,k _ _ (.inl rfl) e,c⟩
 | set S n=>obtain ⟨ob,es,ep,t,e,c⟩:=x;exact ⟨ob,es,ep,t,k _ _ (.inl rfl) e,c⟩
 | ins C dx fs =>
   obtain ⟨d,z,ne,e,mA,⟨od,es,ep,e2,c⟩,r⟩:=x
   exact ⟨ho _ d,z,ne,k _ _ (.inl rfl) e,mA,⟨od,es,ep,k _ _ (.inr d) e2,c⟩,r⟩
 | own y=>obtain ⟨ob,e⟩:=x;exact ⟨ob,k _ _ (.inl rfl) e⟩
 | xd fs=>obtain ⟨mA,⟨od,es,ep,e,c⟩,r⟩:=x;exact ⟨mA,⟨od,es,ep,k _ _ (.inl rfl) e,c⟩,r⟩
 | rng lo hi=>obtain ⟨t,u,v,e⟩:=x;exact ⟨t,u,v,k _ _ (.inl rfl) e⟩
 | frz ob u ih=>obtain ⟨e,q⟩:=x;exact ⟨k _ _ (.inl rfl) e,ih q⟩
 | tbl ps =>
   have e:h.get? a=some { cls:=.none,data:=.fields ps }:=x
   show h'.get? a=some { cls:=.none,data:=.fields ps }
   exact k a _ (.inl rfl) e
 | tab q=>obtain ⟨ps,e,t⟩:=x;exact ⟨ps,k _ _ (.inl rfl) e,t.stay hcd⟩
 | cod q=>obtain ⟨c,o,vs,t,e0,e,r⟩:=x;cases e0;exact ⟨_,o,vs,t,rfl,k _ _ (.inl rfl) e,r⟩
 | met f y =>
   have e:h.get? a=some (lQ (.ref f) (.ref y)):=x
   show h'.get? a=some (lQ (.ref f) (.ref y))
   exact k a _ (.inl rfl) e
 | ext φ=>obtain ⟨p,⟨o,e⟩,st⟩:=x;exact ⟨st _ _ p fun o q=>k _ _ (.inl rfl) q,⟨o,k _ _ (.inl rfl) e⟩,st⟩
theorem HOk.lt (x:HOk P w H h) (e:H a=some o):a<h.objs.size:=(x a o e).lt
theorem HOk.fresh (x:HOk P w H h) (e:h.objs.size<=a):H a=none:=by
 cases q:H a with
 | none=>rfl
 | some u=>exact absurd (bi (x.lt q) e) (b8 _)
theorem HOk.kept (x:HOk P w H h) (k:∀ b u,h.get? b=some u->h'.get? b=some u):HOk P w H h':=fun a o e =>
 (x a o e).stay (fun b u _ q=>k b u q) (fun _ q=>q) (fun _ _ q=>q) fun _ _ q=>q
theorem HOk.laid (x:HOk P w H h) (k:∀ b u,h.get? b=some u->h'.get? b=some u) (hp:h.objs.size<=a) (new:gO P w (upd H a o) h' a o):HOk P w (upd H a o) h':=fun b u e=>by
 have hn:=x.fresh hp
 by_cases hb:b=a
 ·subst hb;rw [aV] at e;cases e;exact new
 ·rw [bq hb] at e
  exact (x b u e).stay (fun c v _ q=>k c v q) (fun c q=>by rw [bq (b7 q hn)];exact q) (fun c xs q=>by rw [bq (b7 q hn)];exact q) fun c xs q=>by rw [bq (b7 q hn)];exact q
end
def Rd (H:Hp) (a:ak) (u:HO):Prop:=H a=some u\/∃ o,H a=some (.frz o u)
theorem Rd.ok {P:bA} {w:cb} {H:Hp} {h:cr} {a:ak} {u:HO} (r:Rd H a u) (x:HOk P w H h):gO P w H h a u:=by
 rcases r with r | ⟨o,r⟩
 ·exact x a u r
 ·obtain ⟨_,q⟩:=x a _ r
  exact q
def Mut:Option HO->Prop
 | some (.lst _)=>True
 | some (.dK _)=>True
 | some (.dT _)=>True
 | some (.set _ _)=>True
 | some (.ins _ _ _)=>True
 | some (.ext _)=>True
 | _=>False
section
variable {P:bA} {w:cb} {H:Hp} {h h':cr} {x e:ak} {o':HO}
theorem HOk.write (ok:HOk P w H h) (mu:Mut (H x)) (he:e=x\/H e=some (.own x)) (k:∀ b u,b≠e->h.get? b=some u->h'.get? b=some u) (heo:∃ u,h'.get? e=some u)
 (new:gO P w (upd H x o') h' x o'):HOk P w (upd H x o') h':=fun b u q=>by
 have nown:∀ c y,H c=some (.own y)->c≠x:=fun c y r z=>by subst z;rw [r] at mu;exact mu
 have ntup:∀ c xs,H c=some (.tup xs)->c≠x:=fun c xs r z=>by subst z;rw [r] at mu;exact mu
 by_cases hb:b=x
 ·subst hb;rw [aV] at q;cases q;exact new
 ·rw [bq hb] at q
  by_cases hbe:b=e
  ·have q':H b=some (.own x):=by
    rcases he with z | z
    ·exact absurd (hbe.trans z) hb
    ·rw [hbe];exact z
   rw [q] at q';cases q'
   obtain ⟨v,hv⟩:=heo
   exact ⟨v,by rw [hbe];exact hv⟩
  ·refine (ok b u q).stay (fun c v hc r=>k c v ?_ r) (fun c r=>by rw [bq (nown c b r)];exact r) (fun c xs r=>by rw [bq (ntup c xs r)];exact r) fun c q r=>by rw [bq (show c≠x from fun z=>by subst z;rw [r] at mu;exact mu)];exact r
   rcases hc with rfl | hc
   ·exact hbe
   ·rintro rfl
    rcases he with z | z
    ·exact nown c b hc z
    ·rw [hc] at z;cases z;exact hb rfl
end
structure Un (fs ex:List ak) (H H':Hp) (h h':cr):Prop where
 keep:∀ b o,h.get? b=some o->H b=none->b∉fs->b∉ex->h'.get? b=some o
 slot:∀ b o,h.get? b=some o->H b=none->b∈fs->b∉ex->∃ sl,h'.get? b=some { o with slots:=sl }
 free:∀ b o,h.get? b=some o->H b=none->b∉ex->H' b=none
 there:∀ b o,h.get? b=some o->b∉ex->∃ o',h'.get? b=some o'
 tups:∀ b xs,H b=some (.tup xs)->H' b=some (.tup xs)
 frzs:∀ b o u,H b=some (.frz o u)->H' b=some (.frz o u)
 tbls:∀ b ps,H b=some (.tbl ps)->∃ more,H' b=some (.tbl (ps++more))
section
variable {fs fs' ex ex':List ak} {H H1 H2:Hp} {h h1 h2 h':cr} {a x e:ak} {o:HO}
theorem Un.any (u:Un fs ex H H1 h h1) {b:ak} {ob:dm} (q:h.get? b=some ob) (n:H b=none) (hx:b∉ex):∃ sl,h1.get? b=some { ob with slots:=sl }:=by
 by_cases hb:b∈fs
 ·exact u.slot b ob q n hb hx
 ·exact ⟨ob.slots,u.keep b ob q n hb hx⟩
theorem Un.kept (k:∀ b u,h.get? b=some u->h'.get? b=some u):Un fs ex H H h h' :=
 ⟨fun b ob q _ _ _=>k b ob q,fun b ob q _ _ _=>⟨ob.slots,k b ob q⟩,fun _ _ _ n _=>n,fun b ob q _=>⟨ob,k b ob q⟩,fun _ _ q=>q,fun _ _ _ q=>q,fun _ ps q=>⟨#[],by rw [q];simp⟩⟩
theorem Un.refl:Un fs ex H H h h:=Un.kept fun _ _ q=>q
theorem Un.laid (k:∀ b u,h.get? b=some u->h'.get? b=some u) (hp:h.objs.size<=a) (hn:H a=none):Un fs ex H (upd H a o) h h' where
 keep:=fun b u q _ _ _=>k b u q
 slot:=fun b u q _ _ _=>⟨u.slots,k b u q⟩
 free:=fun b u q n _=>by rw [bq (bu (bi (aF q) hp))];exact n
 there:=fun b u q _=>⟨u,k b u q⟩
 tups:=fun b xs q=>by rw [bq (b7 q hn)];exact q
 frzs:=fun b u xs q=>by rw [bq (b7 q hn)];exact q
 tbls:=fun b ps q=>⟨#[],by rw [bq (b7 q hn),q];simp⟩
theorem Un.write (mu:Mut (H x)) (he:e=x\/H e=some (.own x)) (k:∀ b u,b≠e->h.get? b=some u->h'.get? b=some u) (heo:∃ u,h'.get? e=some u):Un fs ex H (upd H x o) h h':=by
 have hx:∀ b,H b=none->b≠x:=fun b n z=>by subst z;rw [n] at mu;exact mu
 have hb:∀ b,H b=none->b≠e:=fun b n z=>by
  subst z
  rcases he with r | r
  ·exact hx b n r
  ·rw [n] at r;cases r
 have hm:∀ b u,H b=some u->¬ Mut (some u)->b≠x:=fun b u q nm z=>by subst z;rw [q] at mu;exact nm mu
 refine ⟨fun b u q n _ _=>k b u (hb b n) q,fun b u q n _ _=>⟨u.slots,k b u (hb b n) q⟩,fun b u q n _=>by rw [bq (hx b n)];exact n,fun b u q _=>?_,
  fun b xs q=>by rw [bq (hm b _ q fun z=>z)];exact q,fun b u xs q=>by rw [bq (hm b _ q fun z=>z)];exact q,fun b ps q=>⟨#[],by rw [bq (hm b _ q fun z=>z),q];simp⟩⟩
 by_cases hbe:b=e
 ·subst hbe;exact heo
 ·exact ⟨u,k b u hbe q⟩
end
def trk (h:cr) (H:Hp):List ak:=(bG h.objs.size).filter fun a=>(H a).isSome
def BW (h:cr) (H:Hp):cr:=PySem.W.hideAll h (trk h H)
theorem Bn (h:cr) (H:Hp):(BW h H).objs.size=h.objs.size:=PySem.W.hideAll_size _ _
theorem C7 {h:cr} {H:Hp} {b:ak} {o:dm} (e:h.get? b=some o) (n:H b=none):(BW h H).get? b=some o :=
 PySem.W.hideAll_get _ e fun hm=>by
  have q:(H b).isSome=true:=(aI.mp hm).2
  rw [n] at q;simp at q
theorem Hl {h:cr} {H:Hp} {b:ak} {o:dm} (e:(BW h H).get? b=some o):h.get? b=some o/\H b=none:=by
 have e':h.get? b=some o:=PySem.W.of_hideAll (trk h H) e
 refine ⟨e',?_⟩
 cases q:H b with
 | none=>rfl
 | some x =>
   have hm:b∈trk h H:=aI.mpr ⟨i9.mpr (aF e'),by simp [q]⟩
   have z:(BW h H).get? b=none:=PySem.W.hideAll_none (trk h H) hm
   rw [z] at e;cases e
structure Mod (K:ac) (mg:bH->Option ae) (base:cr):Prop where
 kin:K.In base
 glob:base.Ns aR mg
 blt:∃ mb,base.Ns ot mb/\∀ x:bH,x≠"__name__"->mb x=iu x
 nolimit:base.NoLimit
structure Cx where
 prog:bA
 w:cb
 K:ac
 mg:bH->Option ae
 base:cr
 A:bK
 N:List bH
 s₀:ai
 H₀:Hp
 env:pQ
 outer:List pQ
 stack:List pQ
 ex:List ak
 fn:bH->Bool
 calm:Bool
 pn:List (ak×dm)
 xe:ae->ai->Prop
def frs (l:List pQ):List ak:=l.filterMap (·.frame)
abbrev Cx.fs (X:Cx):List ak:=frs X.outer
def Vis (sc:dO) (x:bH):Prop:=sc.names.lookup x=some .local\/sc.names.lookup x=some .cell\/sc.names.lookup x=some .free
def Loc (sc:dO) (x:bH):Prop:=sc.names.lookup x=some .local\/sc.names.lookup x=some .cell
def LV (env:pQ) (h:cr) (m:bH->Option ae) (x:bH) (u:ae):Prop :=
 (env.kindOf x=some .local/\m x=some u)\/((env.kindOf x=some .cell\/env.kindOf x=some .free)/\∃ c,env.cells.lookup x=some c/\h.IsCell c (some u))
structure Cx.Ok (X:Cx):Prop where
 mod:Mod X.K X.mg X.base
 kind:X.env.scope.kind=.function
 glob:X.env.globals=aR
 blt:X.env.builtins=ot
 above:X.s₀.heap.objs.size<=X.env.locals
 inj:∀ x y c,X.env.cells.lookup x=some c->X.env.cells.lookup y=some c->x=y
 has:∀ x,(X.env.kindOf x=some .cell\/X.env.kindOf x=some .free)->∃ c,X.env.cells.lookup x=some c
 cab:∀ x c,X.fn x=true->X.env.cells.lookup x=some c->X.s₀.heap.objs.size<=c
 hd:X.calm=true->X.A.handled=none
 frames:X.A.frames=some X.stack
 stk:X.stack=X.outer\/(X.stack=X.env::X.outer/\X.env.frame=some X.env.locals)
 exf:∀ b∈X.ex,b≠X.env.locals/\∀ x c,X.env.cells.lookup x=some c->c≠b
 bs:∀ b o,X.base.get? b=some o->X.s₀.heap.get? b=some o/\X.H₀ b=none
 bsz:X.base.objs.size<=X.s₀.heap.objs.size
 noex:∀ b o,X.base.get? b=some o->b∉X.ex
 exfs:∀ b∈X.ex,b∉X.fs
 funs:X.s₀.heap.FunFrames X.base X.outer
 frf:∀ b∈X.fs,X.H₀ b=none
structure Inv (X:Cx) (pins:List (ak×dm)) (σ:List (Option V)) (H:Hp) (s:ai):Prop where
 ok:X.Ok
 os:s.os=X.s₀.os
 bare:lz s.gens
 base:Un X.fs X.ex X.H₀ H X.s₀.heap s.heap
 loc:∃ m,s.heap.Ns X.env.locals m/\∀ (i:Nat) (x:bH) (v:V),X.N[i]?=some x->σ[i]?=some (some v)->Vis X.env.scope x->∃ u,gD v u/\LV X.env s.heap m x u
 cell:∀ x c,X.env.cells.lookup x=some c->∃ v,s.heap.IsCell c v
 free:H X.env.locals=none
 freeC:∀ x c,X.env.cells.lookup x=some c->H c=none
 pin:∀ p∈X.pn++pins,s.heap.get? p.1=some p.2/\H p.1=none/\p.1≠X.env.locals/\p.1∉X.fs/\∀ v,p.2.data≠.cell v
 hok:HOk X.prog X.w H s.heap
 len:σ.length=X.N.length
section
variable {X:Cx} {pins:List (ak×dm)} {σ:List (Option V)} {H H':Hp} {s:ai} {h':cr}
theorem Cx.Ok.nofr (ok:X.Ok) {b:ak} {o:dm} (e:X.base.get? b=some o):b∉X.fs:=fun hb=>by
 have:=(ok.funs.mem hb).1
 rw [e] at this;cases this
theorem Inv.bs (I:Inv X pins σ H s):∀ b o,X.base.get? b=some o->s.heap.get? b=some o/\H b=none:=fun b o e =>
 ⟨I.base.keep b o (I.ok.bs b o e).1 (I.ok.bs b o e).2 (I.ok.nofr e) (I.ok.noex b o e),I.base.free b o (I.ok.bs b o e).1 (I.ok.bs b o e).2 (I.ok.noex b o e)⟩
theorem Inv.bk (I:Inv X pins σ H s):∀ b o,X.base.get? b=some o->s.heap.get? b=some o:=fun b o e=>(I.bs b o e).1
theorem Inv.mod (I:Inv X pins σ H s):Mod X.K X.mg X.base:=I.ok.mod
theorem Inv.kIn (I:Inv X pins σ H s):X.K.In s.heap:=I.ok.mod.kin.keeps I.bk
theorem Inv.nolimit (I:Inv X pins σ H s):s.heap.NoLimit:=I.ok.mod.nolimit.keeps I.bk
theorem Inv.lt (I:Inv X pins σ H s):X.env.locals<s.heap.objs.size:=let ⟨_,hn,_⟩:=I.loc;hn.lt
theorem Inv.sz (I:Inv X pins σ H s):X.s₀.heap.objs.size<=s.heap.objs.size:=bL I.ok.above (i6 I.lt)
theorem Inv.nofs (I:Inv X pins σ H s) {a:ak} (h:s.heap.objs.size<=a):a∉X.fs:=fun hb=>by
 obtain ⟨_,o,ho,_⟩:=I.ok.funs.mem hb
 exact absurd (bi (aF ho) (bL I.sz h)) (b8 _)
theorem Inv.cne (I:Inv X pins σ H s):∀ x c,X.env.cells.lookup x=some c->c≠X.env.locals:=fun x c e z=>by
 obtain ⟨v,o,ho,hd⟩:=I.cell x c e
 obtain ⟨m,⟨o',es,ep,ho',hd',_⟩,_⟩:=I.loc
 rw [z,ho'] at ho;cases ho;rw [hd'] at hd;cases hd
theorem Inv.funs (I:Inv X pins σ H s):s.heap.FunFrames X.base X.outer:=by
 have all:∀ (l:List pQ),(∀ b∈frs l,b∈X.fs)->X.s₀.heap.FunFrames X.base l->s.heap.FunFrames X.base l:=by
  intro l
  induction l with
  | nil=>intro _ _;trivial
  | cons env r ih =>
    intro hs hl
    obtain ⟨hk,⟨L,o,hf,hn,ho,hd⟩,hr⟩:=hl
    have hL:L∈X.fs:=hs L (by unfold frs;rw [lN,hf];exact ah)
    obtain ⟨sl,e⟩:=I.base.slot L o ho (I.ok.frf L hL) hL fun z=>I.ok.exfs L z hL
    exact ⟨hk,⟨L,_,hf,hn,e,hd⟩,ih (fun b hb=>hs b (by unfold frs;rw [lN,hf];exact ag _ hb)) hr⟩
 exact all X.outer (fun _ hb=>hb) I.ok.funs
theorem Inv.stack (I:Inv X pins σ H s):s.heap.FunFrames X.base X.stack:=by
 rcases I.ok.stk with e | ⟨e,hf⟩
 ·rw [e];exact I.funs
 ·rw [e]
  obtain ⟨m,hn,_⟩:=I.loc
  refine .cons (by rw [I.ok.kind];decide) hf hn ?_ I.funs
  exact Heap.get?_none_of_le (bL I.ok.bsz I.ok.above)
theorem Inv.stkSub (I:Inv X pins σ H s):∀ b∈frs X.stack,b∈X.env.locals::X.fs:=fun b hb=>by
 rcases I.ok.stk with e | ⟨e,hf⟩
 ·rw [e] at hb;exact ag _ hb
 ·rw [e] at hb
  unfold frs at hb
  rw [lN,hf] at hb
  exact hb
theorem Inv.stkFree (I:Inv X pins σ H s):∀ b∈frs X.stack,H b=none:=fun b hb=>by
 rcases am.mp (I.stkSub b hb) with e | hb
 ·rw [e];exact I.free
 ·obtain ⟨_,o,ho,_⟩:=I.ok.funs.mem hb
  exact I.base.free b o ho (I.ok.frf b hb) fun z=>I.ok.exfs b z hb
theorem Inv.step {g':Array GenState} {t':Nat} {d':Drawn} {ch:List ak} (I:Inv X pins σ H s)
 (hch:∀ b∈ch,(b∈X.ex\/X.s₀.heap.objs.size<=b)/\b≠X.env.locals/\(∀ x c,X.env.cells.lookup x=some c->c≠b)/\∀ p∈X.pn++pins,p.1≠b)
 (keep:∀ b o,b≠X.env.locals->b∉X.fs->b∉ch->s.heap.get? b=some o->H b=none->h'.get? b=some o)
 (slot:∀ b o,b≠X.env.locals->b∈X.fs->b∉ch->s.heap.get? b=some o->H b=none->∃ sl,h'.get? b=some { o with slots:=sl }) (free:∀ b o,b∉ch->s.heap.get? b=some o->H b=none->H' b=none)
 (there:∀ b o,b∉ch->s.heap.get? b=some o->∃ o',h'.get? b=some o')
 (tups:∀ b xs,H b=some (.tup xs)->H' b=some (.tup xs)) (frzs:∀ b o u,H b=some (.frz o u)->H' b=some (.frz o u)) (tbls:∀ b ps,H b=some (.tbl ps)->∃ more,H' b=some (.tbl (ps++more)))
 (ns:∀ m,s.heap.Ns X.env.locals m->h'.Ns X.env.locals m) (hok:HOk X.prog X.w H' h') (hg:lz g') :
 Inv X pins σ H' { s with heap:=h',gens:=g',drawn:=d',toks:=t' }:=by
 have neL:∀ b o,X.s₀.heap.get? b=some o->b≠X.env.locals:=fun b o e=>bu (bi (aF e) I.ok.above)
 have neC:∀ b o,X.s₀.heap.get? b=some o->b∉X.ex->b∉ch:=fun b o e hx hb=>by
  rcases (hch b hb).1 with z | z
  ·exact hx z
  ·exact absurd (bi (aF e) z) (b8 _)
 have cellK:∀ x c,X.env.cells.lookup x=some c->∀ v,s.heap.IsCell c v->h'.IsCell c v:=fun x c e v ⟨o,ho,hd⟩=>by
  have nch:c∉ch:=fun z=>(hch c z).2.2.1 x c e rfl
  by_cases hc:c∈X.fs
  ·obtain ⟨sl,q⟩:=slot c o (I.cne x c e) hc nch ho (I.freeC x c e)
   exact ⟨_,q,hd⟩
  ·exact ⟨o,keep c o (I.cne x c e) hc nch ho (I.freeC x c e),hd⟩
 refine ⟨I.ok,I.os,hg,⟨fun b o e n hb hx=>?_,fun b o e n hb hx=>?_,fun b o e n hx=>?_,fun b o e hx=>?_,fun b xs e=>tups b xs (I.base.tups b xs e),fun b o xs e=>frzs b o xs (I.base.frzs b o xs e),fun b ps e=>?_⟩,?_,fun x c e=>?_,?_,fun x c e=>?_,fun p hp=>?_,hok,I.len⟩
 ·exact keep b o (neL b o e) hb (neC b o e hx) (I.base.keep b o e n hb hx) (I.base.free b o e n hx)
 ·obtain ⟨sl,e1⟩:=I.base.slot b o e n hb hx
  obtain ⟨sl',e2⟩:=slot b _ (neL b o e) hb (neC b o e hx) e1 (I.base.free b o e n hx)
  exact ⟨sl',e2⟩
 ·obtain ⟨o',e1⟩:=I.base.there b o e hx
  exact free b o' (neC b o e hx) e1 (I.base.free b o e n hx)
 ·obtain ⟨o',e1⟩:=I.base.there b o e hx
  exact there b o' (neC b o e hx) e1
 ·obtain ⟨m1,e1⟩:=I.base.tbls b ps e
  obtain ⟨m2,e2⟩:=tbls b _ e1
  exact ⟨m1++m2,by rw [e2,Array.append_assoc]⟩
 ·obtain ⟨m,hn,hl⟩:=I.loc
  refine ⟨m,ns m hn,fun i x v e1 e2 e3=>?_⟩
  obtain ⟨u,r,l⟩:=hl i x v e1 e2 e3
  refine ⟨u,r,?_⟩
  rcases l with l | ⟨k,c,e,z⟩
  ·exact .inl l
  ·exact .inr ⟨k,c,e,cellK x c e _ z⟩
 ·obtain ⟨v,z⟩:=I.cell x c e
  exact ⟨v,cellK x c e v z⟩
 ·obtain ⟨m,⟨o,_,_,ho,_⟩,_⟩:=I.loc
  exact free _ o (fun z=>(hch _ z).2.1 rfl) ho I.free
 ·obtain ⟨v,o,ho,hd⟩:=I.cell x c e
  exact free c o (fun z=>(hch c z).2.2.1 x c e rfl) ho (I.freeC x c e)
 ·obtain ⟨e,n,ne,nf,d⟩:=I.pin p hp
  have nch:p.1∉ch:=fun z=>(hch p.1 z).2.2.2 p hp rfl
  exact ⟨keep p.1 p.2 ne nf nch e n,free p.1 p.2 nch e n,ne,nf,d⟩
theorem Inv.un {t':Nat} (I:Inv X pins σ H s) (u:Un X.fs [] H H' s.heap h') (hok:HOk X.prog X.w H' h'):Inv X pins σ H' { s with heap:=h',toks:=t' }:=by
 obtain ⟨m,⟨o,es,ep,ho,r⟩,_⟩:=id I.loc
 obtain ⟨sl,hL⟩:=u.any ho I.free (by simp)
 exact I.step (g':=s.gens) (d':=s.drawn) (ch:=[]) (fun _ z=>nomatch z) (fun b o _ hb _ e n=>u.keep b o e n hb (by simp)) (fun b o _ hb _ e n=>u.slot b o e n hb (by simp)) (fun b o _ e n=>u.free b o e n (by simp)) (fun b o _ e=>u.there b o e (by simp)) u.tups u.frzs u.tbls (fun m' hm=>by
  obtain ⟨o',es',ep',ho',r'⟩:=hm
  rw [ho] at ho';cases ho'
  exact ⟨_,es',ep',hL,r'⟩) hok I.bare
theorem Inv.call {g':Array GenState} {t':Nat} {d':Drawn} {ch:List ak} (I:Inv X pins σ H s) (u:Un (frs X.stack) ch H H' s.heap h') (hok:HOk X.prog X.w H' h') (hg:lz g')
 (hch:∀ b∈ch,(b∈X.ex\/X.s₀.heap.objs.size<=b)/\b≠X.env.locals/\(∀ x c,X.env.cells.lookup x=some c->c≠b)/\∀ p∈X.pn++pins,p.1≠b) :
 Inv X pins σ H' { s with heap:=h',gens:=g',drawn:=d',toks:=t' }:=by
 obtain ⟨m,⟨o,es,ep,ho,r⟩,_⟩:=id I.loc
 obtain ⟨sl,hL⟩:=u.any ho I.free fun z=>(hch _ z).2.1 rfl
 exact I.step (ch:=ch) hch (fun b o hL hb hc e n=>u.keep b o e n (fun z=>(am.mp (I.stkSub b z)).elim hL hb) hc) (fun b o _ _ hc e n=>u.any e n hc) (fun b o hc e n=>u.free b o e n hc) (fun b o hc e=>u.there b o e hc) u.tups u.frzs u.tbls (fun m' hm=>by
  obtain ⟨o',es',ep',ho',r'⟩:=hm
  rw [ho] at ho';cases ho'
  exact ⟨_,es',ep',hL,r'⟩) hok hg
theorem Inv.turned {t':Nat} {it:ak} (I:Inv X pins σ H s) (k:∀ b o,b≠it->s.heap.get? b=some o->h'.get? b=some o) (hn:H it=none) (hL:it≠X.env.locals)
 (h1:it∈X.ex\/X.s₀.heap.objs.size<=it) (h2:∀ x c,X.env.cells.lookup x=some c->c≠it) (h3:∀ p∈X.pn++pins,p.1≠it):Inv X pins σ H { s with heap:=h',toks:=t' }:=by
 have nit:∀ b u,H b=some u->b≠it:=fun b u e z=>by rw [z,hn] at e;cases e
 refine I.step (g':=s.gens) (d':=s.drawn) (ch:=[it]) (fun b hb=>?_) (fun b o _ _ hc e _=>k b o (fun z=>hc (by simp [z])) e) (fun b o _ _ hc e _=>⟨o.slots,k b o (fun z=>hc (by simp [z])) e⟩) (fun _ _ _ _ n=>n)
  (fun b o hc e=>⟨o,k b o (fun z=>hc (by simp [z])) e⟩) (fun _ _ e=>e) (fun _ _ _ e=>e) (fun b ps e=>⟨#[],by rw [e];simp⟩) (fun m hm=>?_) (fun b u e=>?_) I.bare
 ·have e:b=it:=by simpa using hb
  subst e
  exact ⟨h1,hL,h2,h3⟩
 ·obtain ⟨o,es,ep,ho,r⟩:=hm
  exact ⟨o,es,ep,k _ o (Ne.symm hL) ho,r⟩
 ·refine (I.hok b u e).stay (fun c v hc q=>k c v ?_ q) (fun _ q=>q) (fun _ _ q=>q) fun _ _ q=>q
  rcases hc with z | z
  ·rw [z];exact nit b u e
  ·exact nit c _ z
theorem Inv.tok (I:Inv X pins σ H s) (t:Nat):Inv X pins σ H { s with toks:=t }:=I.un (h':=s.heap) (t':=t) Un.refl I.hok
theorem Inv.kept {t':Nat} (I:Inv X pins σ H s) (k:∀ b u,s.heap.get? b=some u->h'.get? b=some u):Inv X pins σ H { s with heap:=h',toks:=t' }:=I.un (Un.kept k) (I.hok.kept k)
theorem Inv.laid {a:ak} {o:HO} {t':Nat} (I:Inv X pins σ H s) (k:∀ b u,s.heap.get? b=some u->h'.get? b=some u) (hp:s.heap.objs.size<=a) (new:gO X.prog X.w (upd H a o) h' a o) :
 Inv X pins σ (upd H a o) { s with heap:=h',toks:=t' }:=I.un (Un.laid k hp (I.hok.fresh hp)) (I.hok.laid k hp new)
theorem Inv.write {x e:ak} {o:HO} {t':Nat} (I:Inv X pins σ H s) (mu:Mut (H x)) (he:e=x\/H e=some (.own x)) (k:∀ b u,b≠e->s.heap.get? b=some u->h'.get? b=some u) (heo:∃ u,h'.get? e=some u)
 (new:gO X.prog X.w (upd H x o) h' x o):Inv X pins σ (upd H x o) { s with heap:=h',toks:=t' }:=I.un (Un.write mu he k heo) (I.hok.write mu he k heo new)
theorem Inv.pins_of {pins':List (ak×dm)} (I:Inv X pins σ H s) (h:∀ p∈pins',s.heap.get? p.1=some p.2/\H p.1=none/\p.1≠X.env.locals/\p.1∉X.fs/\∀ v,p.2.data≠.cell v):Inv X pins' σ H s :=
 ⟨I.ok,I.os,I.bare,I.base,I.loc,I.cell,I.free,I.freeC,fun p hp=>(az.mp hp).elim (fun z=>I.pin p (bw _ z)) (h p),I.hok,I.len⟩
theorem si {N:List bH} (hN:N.Nodup) {i j:Nat} {x:bH} (a:N[i]?=some x) (b:N[j]?=some x):i=j:=by
 obtain ⟨h1,e1⟩:=aE.mp a
 obtain ⟨h2,e2⟩:=aE.mp b
 exact (iq hN).mp (e1.trans e2.symm)
theorem tZ {M:Model} {A:bK} {E:ae->ai->Prop} {i:Nat} {x:bH} {v:V} {u:ae} {Q:Unit->ai->Prop} (I:Inv X pins σ H s) (hN:X.N.Nodup) (hi:X.N[i]?=some x) (hx:Loc X.env.scope x) (r:gD v u)
 (h:∀ s',Inv X pins (σ.set i (some v)) H s'->(∃ a,kj a s.heap s'.heap/\(a=X.env.locals\/X.env.cells.lookup x=some a))->Q () s') (hf:X.fn x=true\/X.env.scope.names.lookup x=some .local:=by first | exact .inl rfl | exact .inr rfl | assumption):aM M A (storeName X.env x u) Q E s:=by
 obtain ⟨m,hn,hl⟩:=id I.loc
 have hcls:(X.env.scope.kind == .class||(X.env.scope.kind == .module&&X.env.locals != X.env.globals))=false:=by rw [I.ok.kind];rfl
 have hiσ:i<σ.length:=by rw [I.len];exact (aE.mp hi).1
 have cne:=I.cne
 have tracked:∀ {a:ak} {h':cr},(∃ o,s.heap.get? a=some o/\H a=none)->kj a s.heap h'->HOk X.prog X.w H h':=fun {a h'} ha hs b ob e=>by
  obtain ⟨_,_,hfree⟩:=ha
  refine (I.hok b ob e).stay (fun c w' hc q=>(hs.2 c ?_).trans q) (fun _ q=>q) (fun _ _ q=>q) fun _ _ q=>q
  rintro rfl
  rcases hc with rfl | hc
  ·rw [hfree] at e;cases e
  ·rw [hfree] at hc;cases hc
 rcases hx with hk | hk
 ·refine wpAny_storeName_local hk hn (fun h' hn' hs=>?_) hcls
  obtain ⟨oL,_,_,hoL,_⟩:=id hn
  refine h _ ⟨I.ok,I.os,I.bare,⟨fun b o e n hb hx=>?_,fun b o e n hb hx=>?_,I.base.free,fun b o e hx=>?_,I.base.tups,I.base.frzs,I.base.tbls⟩,⟨_,hn',fun j y v' e1 e2 e3=>?_⟩,fun y c e=>?_,I.free,I.freeC,fun p hp=>?_,tracked ⟨oL,hoL,I.free⟩ hs,by simpa using I.len⟩ ⟨_,hs,.inl rfl⟩
  ·exact (hs.2 b (bu (bi (aF e) I.ok.above))).trans (I.base.keep b o e n hb hx)
  ·obtain ⟨sl,e1⟩:=I.base.slot b o e n hb hx
   exact ⟨sl,(hs.2 b (bu (bi (aF e) I.ok.above))).trans e1⟩
  ·obtain ⟨o',e1⟩:=I.base.there b o e hx
   exact ⟨o',(hs.2 b (bu (bi (aF e) I.ok.above))).trans e1⟩
  ·by_cases hj:j=i
   ·subst hj
    rw [hi] at e1;cases e1
    rw [aZ hiσ] at e2
    cases e2
    exact ⟨u,r,.inl ⟨hk,by simp⟩⟩
   ·rw [ba (Ne.symm hj)] at e2
    obtain ⟨u',r',q⟩:=hl j y v' e1 e2 e3
    refine ⟨u',r',?_⟩
    rcases q with ⟨k,e⟩ | ⟨k,c,e,z⟩
    ·refine .inl ⟨k,?_⟩
     have:y≠x:=fun e=>hj (si hN e1 (e▸hi))
     simp [this,e]
    ·exact .inr ⟨k,c,e,z.sameBut hs (cne y c e)⟩
  ·obtain ⟨w',z⟩:=I.cell y c e
   exact ⟨w',z.sameBut hs (cne y c e)⟩
  ·obtain ⟨e,n,ne,nf,d⟩:=I.pin p hp
   exact ⟨(hs.2 p.1 ne).trans e,n,ne,nf,d⟩
 ·have hfn:X.fn x=true:=by
   rcases hf with z | z
   ·exact z
   ·rw [z] at hk;cases hk
  obtain ⟨c,hc⟩:=I.ok.has x (.inl hk)
  obtain ⟨w',z⟩:=I.cell x c hc
  refine wpAny_storeName_cell I.ok.kind hk hc z (fun h' hc' hs=>?_)
  obtain ⟨oc,hoc,hocd⟩:=id z
  refine h { s with heap:=h' } ⟨I.ok,I.os,I.bare,⟨fun b o e n hb hx=>?_,fun b o e n hb hx=>?_,I.base.free,fun b o e hx=>?_,I.base.tups,I.base.frzs,I.base.tbls⟩,⟨m,hn.sameBut hs (Ne.symm (cne x c hc)),fun j y v' e1 e2 e3=>?_⟩,fun y c' e=>?_,I.free,I.freeC,fun p hp=>?_,tracked ⟨oc,hoc,I.freeC x c hc⟩ hs,by simpa using I.len⟩ ⟨c,hs,.inr hc⟩
  ·exact (hs.2 b (bu (bi (aF e) (I.ok.cab x c hfn hc)))).trans (I.base.keep b o e n hb hx)
  ·obtain ⟨sl,e1⟩:=I.base.slot b o e n hb hx
   exact ⟨sl,(hs.2 b (bu (bi (aF e) (I.ok.cab x c hfn hc)))).trans e1⟩
  ·obtain ⟨o',e1⟩:=I.base.there b o e hx
   exact ⟨o',(hs.2 b (bu (bi (aF e) (I.ok.cab x c hfn hc)))).trans e1⟩
  ·by_cases hj:j=i
   ·subst hj
    rw [hi] at e1;cases e1
    rw [aZ hiσ] at e2
    cases e2
    exact ⟨u,r,.inr ⟨.inl hk,c,hc,hc'⟩⟩
   ·rw [ba (Ne.symm hj)] at e2
    obtain ⟨u',r',q⟩:=hl j y v' e1 e2 e3
    refine ⟨u',r',?_⟩
    rcases q with q | ⟨k,c',e,z'⟩
    ·exact .inl q
    ·refine .inr ⟨k,c',e,z'.sameBut hs ?_⟩
     rintro rfl
     exact hj (si hN e1 (I.ok.inj _ _ _ e hc▸hi))
  ·by_cases hcc:c'=c
   ·subst hcc;exact ⟨_,hc'⟩
   ·obtain ⟨w2,z2⟩:=I.cell y c' e
    exact ⟨w2,z2.sameBut hs hcc⟩
  ·obtain ⟨e,n,ne,nf,d⟩:=I.pin p hp
   refine ⟨(hs.2 p.1 ?_).trans e,n,ne,nf,d⟩
   intro q
   rw [q,hoc] at e
   have q':oc=p.2:=bR e
   exact d w' (by rw [<- q'];exact hocd)
theorem xj {M:Model} {A:bK} {E:ae->ai->Prop} {i:Nat} {x:bH} {v:V} {u:ae} {Q:Unit->ai->Prop} (I:Inv X pins σ H s) (hN:X.N.Nodup) (hi:X.N[i]?=some x) (hx:Loc X.env.scope x) (r:gD v u)
 (h:∀ s',Inv X pins (σ.set i (some v)) H s'->Q () s') (hf:X.fn x=true\/X.env.scope.names.lookup x=some .local:=by first | exact .inl rfl | exact .inr rfl | assumption):aM M A (storeName X.env x u) Q E s :=
 tZ I hN hi hx r (fun s' I' _=>h s' I') hf
theorem Inv.call' {s':ai} {ch:List ak} (I:Inv X pins σ H s) (ho:s'.os=s.os) (u:Un (frs X.stack) ch H H' s.heap s'.heap) (hok:HOk X.prog X.w H' s'.heap) (hg:lz s'.gens)
 (hch:∀ b∈ch,(b∈X.ex\/X.s₀.heap.objs.size<=b)/\b≠X.env.locals/\(∀ x c,X.env.cells.lookup x=some c->c≠b)/\∀ p∈X.pn++pins,p.1≠b):Inv X pins σ H' s':=by
 obtain ⟨h',g',d',t',o'⟩:=s'
 have e:o'=s.os:=ho
 subst e
 exact I.call (g':=g') (t':=t') (d':=d') u hok hg hch
end
abbrev XK:=ae->Option ak->Hp->Prop
abbrev St:=List (Option V)
abbrev VK:=V->Hp->Prop
abbrev TE:=St->Hp->VK->Prop
abbrev TT:=St->Hp->(Bool->Hp->Prop)->Prop
abbrev TA:=St->Hp->(List V->Hp->Prop)->Prop
structure Gn where
 nx:St->Hp->Prop
 rt:VK
 bk:St->Hp->Prop:=fun _ _=>False
 ct:St->Hp->Prop:=fun _ _=>False
abbrev TS:=Gn->St->Hp->Prop
def EP (X:Cx) (pins:List (ak×dm)) (σ:St) (Q:VK) (u:ae) (s':ai):Prop:=∃ v H',Inv X pins σ H' s'/\gD v u/\Q v H'
def TP (X:Cx) (pins:List (ak×dm)) (σ:St) (Q:Bool->Hp->Prop) (b:Bool) (s':ai):Prop:=∃ H',Inv X pins σ H' s'/\Q b H'
def AP (X:Cx) (pins:List (ak×dm)) (σ:St) (Q:List V->Hp->Prop) (us:List ae) (s':ai):Prop:=∃ vs H',Inv X pins σ H' s'/\eE vs us/\Q vs H'
def SP (X:Cx) (pins:List (ak×dm)) (D:Gn) (f:Flow) (s':ai):Prop :=
 match f with
 | .next=>∃ σ' H',Inv X pins σ' H' s'/\D.nx σ' H'
 | .brk=>∃ σ' H',Inv X pins σ' H' s'/\D.bk σ' H'
 | .cont=>∃ σ' H',Inv X pins σ' H' s'/\D.ct σ' H'
 | .ret u=>∃ v σ' H',Inv X pins σ' H' s'/\gD v u/\D.rt v H'
def PE (X:Cx) (e:aP) (t:TE):Prop :=
 ∀ (pins:List (ak×dm)) (s:ai) (σ:St) (H:Hp) (Q:VK),Inv X pins σ H s->t σ H Q->aM (be X.prog X.w) X.A (b9 e X.env) (EP X pins σ Q) X.xe s
def PT (X:Cx) (e:aP) (t:TT):Prop :=
 ∀ (pins:List (ak×dm)) (s:ai) (σ:St) (H:Hp) (Q:Bool->Hp->Prop),Inv X pins σ H s->t σ H Q->aM (be X.prog X.w) X.A (isTrue e X.env (b9 e X.env)) (TP X pins σ Q) X.xe s
def PW (X:Cx) (e:aP) (t:TT):Prop :=
 ∀ (whole:Sem ae) (pins:List (ak×dm)) (s:ai) (σ:St) (H:Hp) (Q:Bool->Hp->Prop),Inv X pins σ H s->t σ H Q->aM (be X.prog X.w) X.A (isTrue e X.env whole) (TP X pins σ Q) X.xe s
theorem PW.pt {X:Cx} {e:aP} {t:TT} (h:PW X e t):PT X e t:=h _
def PA (X:Cx) (es:List aP) (t:TA):Prop :=
 ∀ (pos:e7) (pins:List (ak×dm)) (s:ai) (σ:St) (H:Hp) (Q:List V->Hp->Prop),Inv X pins σ H s->t σ H Q->aM (be X.prog X.w) X.A (spliced (cz pos (ao es X.env))) (AP X pins σ Q) X.xe s
def PS (X:Cx) (st:cV) (t:TS):Prop :=
 ∀ (pins:List (ak×dm)) (s:ai) (σ:St) (H:Hp) (D:Gn),Inv X pins σ H s->t D σ H->aM (be X.prog X.w) X.A (exec st X.env) (SP X pins D) X.xe s
def PSs (X:Cx) (st:List cV) (t:TS):Prop :=
 ∀ (pins:List (ak×dm)) (s:ai) (σ:St) (H:Hp) (D:Gn),Inv X pins σ H s->t D σ H->aM (be X.prog X.w) X.A (execs st X.env) (SP X pins D) X.xe s
theorem thn {α:Type} {t:Sem α} {Q Q':α->ai->Prop} {M:Model} {A:bK} {E:ae->ai->Prop} {s:ai} (h:aM M A t Q E s) (hQ:∀ a s,Q a s->Q' a s):aM M A t Q' E s:=dz h hQ fun _ _ x=>x
section
variable {X:Cx}
def kh (i:Nat):TE:=fun σ H Q=>∃ v,σ[i]?=some (some v)/\Q v H
def tC (v:V):TE:=fun _ H Q=>Q v H
theorem xi {i:Nat} {x:bH} {pos:e7} (hN:X.N[i]?=some x) (hv:Vis X.env.scope x) (hd:(x == ("__debug__" : bH))=false:=by decide) (hcd:(x == ("__classdict__" : bH))=false:=by decide):PE X (.Name x pos) (kh i):=by
 intro pins s σ H Q I h
 obtain ⟨v,e,h⟩:=h
 obtain ⟨m,hn,hl⟩:=I.loc
 obtain ⟨u,r,l⟩:=hl i x v hN e hv
 have fin:EP X pins σ Q u s:=⟨v,H,I,r,h⟩
 rcases l with ⟨hk,hm⟩ | ⟨hk,c,hc,hcell⟩
 ·exact wpAny_Name (wpAny_loadName_local I.ok.kind hk hn hm fin) hd
 ·rcases hk with hk | hk
  ·exact wpAny_Name (wpAny_loadName_cell I.ok.kind hk hc hcell fin) hd
  ·exact wpAny_Name (wpAny_loadName_free I.ok.kind hk hc hcell fin hcd) hd
theorem JE {i j pos}:PE X (.Constant (.int i) j pos) (tC (.int i)):=fun _ _ _ H _ I h=>wpAny_Constant_int ⟨.int i,H,I.tok _,⟨_,rfl⟩,h⟩
theorem AI {b j pos}:PE X (.Constant (.bool b) j pos) (tC (.bl b)):=fun _ _ _ H _ I h=>Constant_bool ⟨.bl b,H,I,rfl,h⟩
def Gl (X:Cx) (x:bH):Prop:=X.env.kindOf x=some .globalImplicit
theorem E9 {E:ae->ai->Prop} {pins:List (ak×dm)} {s:ai} {σ:St} {H:Hp} {x:bH} {u:ae} {pos:e7} {Q:ae->ai->Prop} (I:Inv X pins σ H s) (hg:Gl X x) (hm:X.mg x=some u) (h:Q u s)
 (hd:(x == ("__debug__" : bH))=false:=by decide):aM (be X.prog X.w) X.A (b9 (.Name x pos) X.env) Q E s :=
 pR I.ok.kind hg (Calls.loadGlobal_global (by rw [I.ok.glob];exact I.mod.glob.keeps I.bk) hm h) hd
theorem nG {E:ae->ai->Prop} {pins:List (ak×dm)} {s:ai} {σ:St} {H:Hp} {x:bH} {u:ae} {pos:e7} {Q:ae->ai->Prop} (I:Inv X pins σ H s) (hg:Gl X x) (hm:X.mg x=none) (hv:iu x=some u) (h:Q u s)
 (hn:x≠"__name__":=by decide) (hd:(x == ("__debug__" : bH))=false:=by decide):aM (be X.prog X.w) X.A (b9 (.Name x pos) X.env) Q E s:=by
 obtain ⟨mb,h1,h2⟩:=I.mod.blt
 exact pR I.ok.kind hg (Calls.loadGlobal_builtin (by rw [I.ok.glob];exact I.mod.glob.keeps I.bk) hm (by rw [I.ok.blt];exact h1.keeps I.bk) ((h2 x hn).trans hv) h) hd
variable {a b:aP} {ta tb:TE} {pos:e7}
def PC (X:Cx) (op:pS) (a b:aP) (t:TE):Prop :=
 ∀ (pins:List (ak×dm)) (s:ai) (σ:St) (H:Hp) (Q:VK),Inv X pins σ H s->t σ H Q ->
   aM (be X.prog X.w) X.A (b9 a X.env) (fun v s₁=>aM (be X.prog X.w) X.A (b9 b X.env) (fun u s₂=>aM (be X.prog X.w) X.A (dM op v u) (EP X pins σ Q) X.xe s₂) X.xe s₁) X.xe s
def tB (t:TE):TT:=fun σ H Q=>t σ H fun x H1=>∃ c,x=.bl c/\Q c H1
theorem Ag {op:pS} {t:TE} (h:PC X op a b t) (h1:eM op b=false:=by first | exact nobehind _ (by decide) (by decide) | rfl):PT X (.Compare a [op] [b] pos) (tB t):=by
 intro pins s σ H Q I hw
 refine BH (thn (h pins s σ H _ I hw) fun v s1 h1=>thn h1 fun u s2 h2=>thn h2 fun c s3 ⟨x,H1,I1,r1,q1⟩=>?_) h1
 obtain ⟨d,rfl,q⟩:=q1
 cases r1
 exact eA ⟨H1,I1,q⟩
theorem IA {e:aP} {t:TE} (h:PE X e t) (he:∀ whole,isTrue e X.env whole=(do let v <- whole;pT e.pos;uI [v] (truthy v)):=by intro _;rfl):PT X e (tB t):=by
 intro pins s σ H Q I hw
 refine isTrue_plain (thn (h pins s σ H _ I hw) fun v s1 ⟨x,H1,I1,r1,q1⟩=>?_) (he _)
 obtain ⟨d,rfl,q⟩:=q1
 cases r1
 exact eA ⟨H1,I1,q⟩
variable {tA tB':TT} {rest:List aP}
def Lx (t u:TT):TT:=fun σ H Q=>t σ H fun c H1=>if c=true then u σ H1 Q else Q false H1
def tOr (t u:TT):TT:=fun σ H Q=>t σ H fun c H1=>if c=true then Q true H1 else u σ H1 Q
theorem GK (ha:PT X a tA):PW X (.BoolOp .And [a] pos) tA:=by
 intro wh pins s σ H Q I h
 refine isTrue_and (thn (ha pins s σ H Q I h) fun c s1 e=>?_)
 cases c with
 | true=>exact isTrue_and_nil e
 | false=>exact e
theorem En (ha:PT X a tA):PW X (.BoolOp .Or [a] pos) tA:=by
 intro wh pins s σ H Q I h
 refine isTrue_or (thn (ha pins s σ H Q I h) fun c s1 e=>?_)
 cases c with
 | false=>exact isTrue_or_nil e
 | true=>exact e
theorem Ji (ha:PT X a tA) (hb:PW X (.BoolOp .And (b::rest) pos) tB'):PW X (.BoolOp .And (a::b::rest) pos) (Lx tA tB'):=by
 intro wh pins s σ H Q I h
 refine isTrue_and (thn (ha pins s σ H _ I h) fun c s1 ⟨H1,I1,q1⟩=>?_)
 cases c with
 | true=>exact hb wh pins s1 σ H1 Q I1 q1
 | false=>exact ⟨H1,I1,q1⟩
theorem IU (ha:PT X a tA) (hb:PW X (.BoolOp .Or (b::rest) pos) tB'):PW X (.BoolOp .Or (a::b::rest) pos) (tOr tA tB'):=by
 intro wh pins s σ H Q I h
 refine isTrue_or (thn (ha pins s σ H _ I h) fun c s1 ⟨H1,I1,q1⟩=>?_)
 cases c with
 | true=>exact ⟨H1,I1,q1⟩
 | false=>exact hb wh pins s1 σ H1 Q I1 q1
def tIf (t:TT) (ta tb:TE):TE:=fun σ H Q=>t σ H fun c H1=>if c=true then ta σ H1 Q else tb σ H1 Q
theorem C1 {c:aP} (hc:PT X c tA) (ha:PE X a ta) (hb:PE X b tb):PE X (.IfExp c a b pos) (tIf tA ta tb):=by
 intro pins s σ H Q I h
 refine wpAny_IfExp (thn (hc pins s σ H _ I h) fun d s1 ⟨H1,I1,q1⟩=>?_)
 cases d with
 | true=>exact ha pins s1 σ H1 Q I1 q1
 | false=>exact hb pins s1 σ H1 Q I1 q1
end
def SqL (K:ac) (H:Hp) (a:ak) (xs:List V):Prop :=
 Rd H a (.lst xs) \/
  ∃ (o:dm) (its:Array ae) (n:Nat),K.lookup a=some o/\o.cls=.type "list"/\o.dict=none/\o.data=.seq its n/\its.size<=aL/\eE xs its.toList
def SqT (K:ac) (H:Hp) (a:ak) (xs:List V):Prop :=
 Rd H a (.tup xs) \/
  ∃ (o:dm) (its:Array ae) (n:Nat),K.lookup a=some o/\o.cls=.type "tuple"/\o.data=.seq its n/\its.size<=aL/\eE xs its.toList
def LT:ae->Option V
 | .none=>some .non
 | .bool b=>some (.bl b)
 | .int i _=>some (.int i)
 | .str x _=>some (.str x)
 | .bytes b _=>some (.byt b)
 | .float b _=>some (.flt b)
 | .ref a=>some (.ref a)
 | .type n=>some (.ty n)
 | _=>none
theorem gD.abs {x:V} {u:ae} (r:gD x u):LT u=some x:=by
 cases x with
 | non=>cases r;rfl
 | bl _=>cases r;rfl
 | int _=>obtain ⟨t,rfl⟩:=r;rfl
 | str _=>obtain ⟨t,rfl⟩:=r;rfl
 | byt _=>obtain ⟨t,rfl⟩:=r;rfl
 | flt _=>obtain ⟨t,rfl⟩:=r;rfl
 | ref _=>cases r;rfl
 | ty _=>cases r;rfl
theorem gD.inj {x y:V} {u:ae} (r:gD x u) (q:gD y u):x=y:=bR (r.abs.symm.trans q.abs)
theorem eE.inj:∀ {xs ys:List V} {us:List ae},eE xs us->eE ys us->xs=ys
 | _,_,_,.nil,.nil=>rfl
 | _,_,_,.cons r t,.cons r' t'=>by rw [r.inj r',eE.inj t t']
section
variable {X:Cx} {pins:List (ak×dm)} {σ:St} {H:Hp} {s:ai} {a:ak} {xs ys:List V}
theorem SqL.of {K:ac} (h:H a=some (.lst xs)):SqL K H a xs:=.inl (.inl h)
theorem SqT.of {K:ac} (h:H a=some (.tup xs)):SqT K H a xs:=.inl (.inl h)
theorem Inv.list (I:Inv X pins σ H s) (h:SqL X.K H a xs):∃ its:List ae,eE xs its/\PlainL s.heap a its.toArray/\xs.length<=aL:=by
 rcases h with h | ⟨o,its,n,hk,hc,hd,hs,hz,r⟩
 ·obtain ⟨z,its,n,r,e⟩:=h.ok I.hok
  exact ⟨its,r,⟨_,n,e,rfl,rfl,rfl⟩,z⟩
 ·refine ⟨its.toList,r,⟨o,n,I.kIn a o hk,hc,hd,by simpa using hs⟩,?_⟩
  have e:=r.length
  simp only [bP] at e
  lia
theorem Inv.tuple (I:Inv X pins σ H s) (h:SqT X.K H a xs):∃ its:List ae,eE xs its/\jG s.heap a its.toArray/\xs.length<=aL:=by
 rcases h with h | ⟨o,its,n,hk,hc,hs,hz,r⟩
 ·obtain ⟨z,its,r,p⟩:=h.ok I.hok
  exact ⟨its,r,p,z.1⟩
 ·refine ⟨its.toList,r,⟨o,I.kIn a o hk,hc,n,by simpa using hs⟩,?_⟩
  have e:=r.length
  simp only [bP] at e
  lia
theorem Inv.list_inj (I:Inv X pins σ H s) (h:SqL X.K H a xs) (h':SqL X.K H a ys):xs=ys:=by
 obtain ⟨its,r,⟨o,n,e,_,_,d⟩,_⟩:=I.list h
 obtain ⟨its',r',⟨o',n',e',_,_,d'⟩,_⟩:=I.list h'
 rw [e] at e';cases e'
 rw [d] at d'
 injection d' with d1 _
 have:its=its':=by simpa using congrArg Array.toList d1
 subst this
 exact r.inj r'
theorem Inv.tuple_inj (I:Inv X pins σ H s) (h:SqT X.K H a xs) (h':SqT X.K H a ys):xs=ys:=by
 obtain ⟨its,r,⟨o,e,_,n,d⟩,_⟩:=I.tuple h
 obtain ⟨its',r',⟨o',e',_,n',d'⟩,_⟩:=I.tuple h'
 rw [e] at e';cases e'
 rw [d] at d'
 injection d' with d1 _
 have:its=its':=by simpa using congrArg Array.toList d1
 subst this
 exact r.inj r'
end
abbrev Cx.wish (X:Cx) (E:ae->ai->Prop):Cx:={ X with xe:=E }
abbrev Cx.nox (X:Cx):Cx:=X.wish fun _ _=>False
theorem Cx.Ok.wish {X:Cx} (ok:X.Ok) (E:ae->ai->Prop):(X.wish E).Ok :=
 ⟨ok.mod,ok.kind,ok.glob,ok.blt,ok.above,ok.inj,ok.has,ok.cab,ok.hd,ok.frames,ok.stk,ok.exf,ok.bs,ok.bsz,ok.noex,ok.exfs,ok.funs,ok.frf⟩
theorem Cx.Ok.unwish {X:Cx} {E:ae->ai->Prop} (ok:(X.wish E).Ok):X.Ok :=
 ⟨ok.mod,ok.kind,ok.glob,ok.blt,ok.above,ok.inj,ok.has,ok.cab,ok.hd,ok.frames,ok.stk,ok.exf,ok.bs,ok.bsz,ok.noex,ok.exfs,ok.funs,ok.frf⟩
section
variable {X:Cx} {pins:List (ak×dm)} {σ:St} {H:Hp} {s:ai} {E:ae->ai->Prop}
theorem Inv.wish (I:Inv X pins σ H s) (E:ae->ai->Prop):Inv (X.wish E) pins σ H s:=⟨I.ok.wish E,I.os,I.bare,I.base,I.loc,I.cell,I.free,I.freeC,I.pin,I.hok,I.len⟩
theorem Inv.unwish (I:Inv (X.wish E) pins σ H s):Inv X pins σ H s:=⟨I.ok.unwish,I.os,I.bare,I.base,I.loc,I.cell,I.free,I.freeC,I.pin,I.hok,I.len⟩
theorem SP.unwish {D:Gn} {f:Flow} {s':ai} (h:SP (X.wish E) pins D f s'):SP X pins D f s':=by
 cases f with
 | next=>obtain ⟨σ',H',I,q⟩:=h;exact ⟨σ',H',I.unwish,q⟩
 | brk=>obtain ⟨σ',H',I,q⟩:=h;exact ⟨σ',H',I.unwish,q⟩
 | cont=>obtain ⟨σ',H',I,q⟩:=h;exact ⟨σ',H',I.unwish,q⟩
 | ret u=>obtain ⟨v,σ',H',I,r,q⟩:=h;exact ⟨v,σ',H',I.unwish,r,q⟩
theorem PSs.nox {st:List cV} {t:TS} (h:PSs X.nox st t):PSs X st t:=fun pins s σ H D I hw =>
 dz (h pins s σ H D (I.wish _) hw) (fun _ _ q=>q.unwish) fun _ _ z=>ck z
end
section
variable {X:Cx} {st:cV} {rest:List cV} {t u:TS} {e:aP} {te:TE} {pos:e7}
def CV:TS:=fun D σ H=>D.nx σ H
def pB (t u:TS):TS:=fun D σ H=>t { D with nx:=u D } σ H
theorem rK:PSs X [] CV:=fun _ _ σ H _ I h=>lO ⟨σ,H,I,h⟩
theorem gH (h1:PS X st t) (h2:PSs X rest u):PSs X (st::rest) (pB t u):=by
 intro pins s σ H D I h
 refine wpAny_execs_cons (thn (h1 pins s σ H { D with nx:=u D } I h) fun f s1 q=>?_)
 cases f with
 | next =>
   obtain ⟨σ',H',I',q⟩:=q
   exact h2 pins s1 σ' H' D I' q
 | ret v=>exact q
 | brk=>exact q
 | cont=>exact q
theorem iV (h1:PS X st t):PSs X [st] t:=by
 intro pins s σ H D I h
 refine wpAny_execs_cons (thn (h1 pins s σ H D I h) fun f s1 q=>?_)
 cases f with
 | next=>exact lO q
 | ret v=>exact q
 | brk=>exact q
 | cont=>exact q
def Kg:TS:=fun D σ H=>D.ct σ H
theorem wb:PS X (.Continue pos) Kg:=fun _ _ σ H _ I h=>wpAny_Continue ⟨σ,H,I,h⟩
theorem Inv.quiet {pins:List (ak×dm)} {σ:St} {H:Hp} {s:ai} (I:Inv X pins σ H s):interactive X.env=false:=by simp [interactive,I.ok.kind]
def GU (te:TE):TS:=fun D σ H=>te σ H fun _ H1=>D.nx σ H1
theorem Ac (he:PE X e te) (hs:ff e none pos.line X.env=pure false:=by rfl):PS X (.Expr e pos) (GU te):=by
 intro pins s σ H D I h
 exact wpAny_Expr_any (thn (he pins s σ H _ I h) fun v s1 ⟨x,H1,I1,r1,q1⟩=>⟨σ,H1,I1,q1⟩) I.quiet hs
def HA (te:TE):TS:=fun D σ H=>te σ H D.rt
theorem tQ (he:PE X e te):PS X (.Return (some e) pos) (HA te):=by
 intro pins s σ H D I h
 exact wpAny_Return_some (thn (he pins s σ H _ I h) fun v s1 ⟨x,H1,I1,r1,q1⟩=>⟨x,σ,H1,I1,r1,q1⟩)
def Kt (c:TT) (t u:TS):TS:=fun D σ H=>c σ H fun b H1=>if b=true then t D σ H1 else u D σ H1
theorem Dr {c:aP} {a b:List cV} {tc:TT} (hc:PT X c tc) (ha:PSs X a t) (hb:PSs X b u):PS X (.If c a b pos) (Kt tc t u):=by
 intro pins s σ H D I h
 refine wpAny_If (thn (hc pins s σ H _ I h) fun d s1 ⟨H1,I1,q1⟩=>?_)
 cases d with
 | true=>exact ha pins s1 σ H1 D I1 q1
 | false=>exact hb pins s1 σ H1 D I1 q1
end
abbrev TG:=V->St->Hp->(St->Hp->Prop)->Prop
abbrev TGs:=List V->St->Hp->(St->Hp->Prop)->Prop
def PG (X:Cx) (target:aP) (t:TG):Prop :=
 ∀ (pins:List (ak×dm)) (s:ai) (σ:St) (H:Hp) (v:V) (u:ae) (Q:St->Hp->Prop),Inv X pins σ H s->gD v u->t v σ H Q ->
   aM (be X.prog X.w) X.A (jH target X.env u) (fun _ s'=>∃ σ' H',Inv X pins σ' H' s'/\Q σ' H') X.xe s
def PGs (X:Cx) (ts:List aP) (t:TGs):Prop :=
 ∀ (pins:List (ak×dm)) (s:ai) (σ:St) (H:Hp) (vs:List V) (us:List ae) (Q:St->Hp->Prop),Inv X pins σ H s->eE vs us->t vs σ H Q ->
   aM (be X.prog X.w) X.A (assignInOrder ((dA ts X.env).map (·.2)) us) (fun _ s'=>∃ σ' H',Inv X pins σ' H' s'/\Q σ' H') X.xe s
section
variable {X:Cx} {pos:e7}
def kC (i:Nat):TG:=fun v σ H Q=>Q (σ.set i (some v)) H
theorem mY {i:Nat} {x:bH} (hN:X.N.Nodup) (hi:X.N[i]?=some x) (hx:Loc X.env.scope x) (hf:X.fn x=true\/X.env.scope.names.lookup x=some .local:=by first | exact .inl rfl | exact .inr rfl | assumption):PG X (.Name x pos) (kC i):=by
 intro pins s σ H v u Q I r h
 exact wpAny_assign_Name (xj I hN hi hx r (fun s' I'=>⟨_,H,I',h⟩) hf)
def LE:TGs:=fun vs σ H Q=>vs=[]/\Q σ H
def Fi (t:TG) (u:TGs):TGs:=fun vs σ H Q=>∃ v r,vs=v::r/\t v σ H fun σ' H'=>u r σ' H' Q
theorem ze:PGs X [] LE:=by
 intro pins s σ H vs us Q I r h
 obtain ⟨e,h⟩:=h
 subst e
 cases r
 exact assignInOrder_nil ⟨σ,H,I,h⟩
theorem sD {e:aP} {es:List aP} {t:TG} {u:TGs} (h1:PG X e t) (h2:PGs X es u)
 (hs:(dA (e::es) X.env).map (·.2)=jH e X.env::(dA es X.env).map (·.2):=by rfl):PGs X (e::es) (Fi t u):=by
 intro pins s σ H vs us Q I r h
 obtain ⟨v,vr,e1,h⟩:=h
 subst e1
 cases r with
 | cons r rr =>
   rw [hs]
   refine assignInOrder_cons (thn (h1 pins s σ H _ _ _ I r h) fun _ s1 ⟨σ1,H1,I1,q1⟩=>?_)
   exact h2 pins s1 σ1 H1 _ _ Q I1 rr q1
def Ly (K:ac) (n:Nat) (t:TGs):TG:=fun v σ H Q=>∃ a xs,v=.ref a/\SqT K H a xs/\xs.length=n/\t xs σ H Q
theorem Er {es:List aP} {k:Nat} {t:TGs} {n:Nat} (hc:X.calm=true) (h:PGs X es t)
 (hn:(dA es X.env).length=n:=by rfl) (hst:(dA es X.env).findIdx? (·.1)=none:=by rfl):PG X (.Tuple es k pos) (Ly X.K n t):=by
 intro pins s σ H v u Q I r hw
 obtain ⟨a,xs,e1,hq,hl,hw⟩:=hw
 subst e1
 cases r
 obtain ⟨its,rv,ht,hz⟩:=I.tuple hq
 refine assign_Tuple_tuple (I.ok.hd hc) ht (by simp [hn,<- hl,rv.length]) hst fun h' hx=>?_
 have I1:Inv X pins σ H { s with heap:=h' }:=I.kept (t':=s.toks) fun b o e=>hx b o (bu (aF e)) e
 exact h pins _ σ H xs _ Q I1 (by simpa using rv) hw
def EH (te:TE) (g:TG):TS:=fun D σ H=>te σ H fun x H1=>g x σ H1 D.nx
theorem HW {tg e:aP} {te:TE} {g:TG} (he:PE X e te) (hg:PG X tg g) (hs:xE [tg] e pos.line X.env=pure false:=by rfl) (hw:xF [tg] e X.env=pure none:=by rfl)
 (h1:(dA [tg] X.env).map (·.2)=[jH tg X.env]:=by rfl):PS X (.Assign [tg] e pos) (EH te g):=by
 intro pins s σ H D I h
 refine wpAny_Assign_stores (thn (he pins s σ H _ I h) fun v s1 ⟨x,H1,I1,r1,q1⟩=>?_) hs hw
 rw [h1]
 exact thn (hg pins s1 σ H1 x v _ I1 r1 q1) fun _ s2 q=>q
theorem qO {i:Nat} {x:bH} {e:aP} {te:TE} {pos':e7} (hN:X.N.Nodup) (hi:X.N[i]?=some x) (hx:Loc X.env.scope x) (he:PE X e te) (hs:ff e (some (.Name x pos')) pos.line X.env=pure false:=by rfl) (hf:X.fn x=true\/X.env.scope.names.lookup x=some .local:=by first | exact .inl rfl | exact .inr rfl | assumption) :
 PS X (.Assign [.Name x pos'] e pos) (EH te (kC i)):=by
 intro pins s σ H D I h
 refine wpAny_Assign_Name (thn (he pins s σ H _ I h) fun v s1 ⟨y,H1,I1,r1,q1⟩=>?_) hs
 exact xj I1 hN hi hx r1 (fun s2 I2=>⟨_,H1,I2,q1⟩) hf
def JX (c:TT) (tb:TS):TS:=fun D σ H=>∃ W:Nat->St->Hp->Prop,(∃ m,W m σ H)/\∀ m σ H,W m σ H ->
 c σ H fun b H1=>if b=true then ∃ N:St->Hp->Prop,(∀ σ' H',N σ' H'->∃ m',m'<m/\W m' σ' H')/\tb { D with nx:=N,ct:=N,bk:=D.nx } σ H1 else D.nx σ H1
theorem DF {c:aP} {body:List cV} {tc:TT} {tb:TS} (hp:ny (be X.prog X.w) X.A X.env X.xe) (hc:PT X c tc) (hb:PSs X body tb):PS X (.While c body [] pos) (JX tc tb):=by
 intro pins s σ H D I h
 obtain ⟨W,⟨m0,w0⟩,turn⟩:=h
 refine wpAny_While (codeAny_whileLoop (fun n s'=>∃ σ' H',Inv X pins σ' H' s'/\W n σ' H') ?_ m0 ⟨σ,H,I,w0⟩)
 rintro n s1 ⟨σ1,H1,I1,w1⟩
 refine fW hp (thn (hc pins s1 σ1 H1 _ I1 (turn n σ1 H1 w1)) fun b s2 ⟨H2,I2,q2⟩=>?_)
 cases b with
 | true =>
   obtain ⟨N,hN,q2⟩:=q2
   rw [if_pos rfl]
   refine fW hp (thn (hb pins s2 σ1 H2 _ I2 q2) fun f s3 q3=>?_)
   cases f with
   | next =>
     obtain ⟨σ3,H3,I3,n3⟩:=q3
     obtain ⟨m',hm,w3⟩:=hN σ3 H3 n3
     exact ⟨m',hm,σ3,H3,I3,w3⟩
   | cont =>
     obtain ⟨σ3,H3,I3,n3⟩:=q3
     obtain ⟨m',hm,w3⟩:=hN σ3 H3 n3
     exact ⟨m',hm,σ3,H3,I3,w3⟩
   | brk=>exact q3
   | ret v=>exact q3
 | false =>
   rw [if_neg aO]
   exact lO ⟨σ1,H2,I2,q2⟩
end
structure It where
 go:Nat->Hp->Prop
 yld:Nat->Hp->V->Hp->Prop
 stop:Nat->Hp->Prop
def yh (X:Cx) (pins:List (ak×dm)) (H:Hp) (b:ak):Prop :=
 H b=none/\b≠X.env.locals/\b∉X.fs/\(b∈X.ex\/X.s₀.heap.objs.size<=b)/\(∀ x c,X.env.cells.lookup x=some c->c≠b)/\∀ p∈X.pn++pins,p.1≠b
theorem Inv.fpOk {X:Cx} {pins:List (ak×dm)} {σ:St} {H H':Hp} {s:ai} {b:ak} (I:Inv X pins σ H s) (hb:s.heap.objs.size<=b) (hn:H' b=none):yh X pins H' b:=by
 refine ⟨hn,Nat.ne_of_gt (bi I.lt hb),I.nofs hb,.inr (bL I.sz hb),fun x c e z=>?_,fun p hp z=>?_⟩
 ·obtain ⟨v,q⟩:=I.cell x c e
  exact absurd (bi q.lt (by rw [z];exact hb)) (b8 _)
 ·exact absurd (bi (aF (I.pin p hp).1) (by rw [z];exact hb)) (b8 _)
structure Gy (P:bA) (w:cb) (K:ac) (tg:aP) (J:It) (fp:List ak) (it:ak) (tn:Nat->cr->Prop):Prop where
 mem:it∈fp
 obj:∀ i h,tn i h->∀ b∈fp,∃ o,h.get? b=some o/\∀ v,o.data≠.cell v
 keep:∀ i h h',tn i h->(∀ b∈fp,∀ o,h.get? b=some o->h'.get? b=some o)->tn i h'
 item:∀ (X:Cx),X.prog=P->X.w=w->X.K=K->X.calm=true->∀ (i:Nat) (pins:List (ak×dm)) (s:ai) (σ:St) (H:Hp) (E:ae->ai->Prop),Inv X pins σ H s->(∀ b∈fp,yh X pins H b)->tn i s.heap->J.go i H ->
  aM (be P w) X.A (kq (.ref it)) (fun r s1=>∃ u,r=some u /\
   aM (be P w) X.A (sR tg (.ref it) u) (fun _ s2=>∃ x H',Inv X pins σ H' s2/\gD x u/\J.yld i H x H'/\tn (i+1) s2.heap/\∀ b∈fp,H' b=none) E s1) E s
 done:∀ (X:Cx),X.prog=P->X.w=w->X.K=K->X.calm=true->∀ (i:Nat) (pins:List (ak×dm)) (s:ai) (σ:St) (H:Hp) (E:ae->ai->Prop),Inv X pins σ H s->(∀ b∈fp,yh X pins H b)->tn i s.heap->J.stop i H ->
  aM (be P w) X.A (kq (.ref it)) (fun r s1=>r=none/\Inv X pins σ H s1) E s
 self:∀ (A:bK) (i:Nat) (s:ai) (Q:ae->ai->Prop) (E:ae->ai->Prop),tn i s.heap->Q (.ref it) s->aM (be P w) A (pyIter (.ref it)) Q E s
abbrev TI:=St->Hp->(It->Hp->Prop)->Prop
def PIE (X:Cx) (pins:List (ak×dm)) (σ:St) (tg:aP) (R:It->Hp->Prop) (itv:ae) (s2:ai):Prop :=
 ∃ (it:ak) (fp:List ak) (tn:Nat->cr->Prop) (J:It) (H':Hp),itv=.ref it/\Inv X pins σ H' s2/\Gy X.prog X.w X.K tg J fp it tn/\tn 0 s2.heap/\(∀ b∈fp,yh X pins H' b)/\R J H'
def PI (X:Cx) (tg iter:aP) (wi:TI):Prop :=
 ∀ (pins:List (ak×dm)) (s:ai) (σ:St) (H:Hp) (R:It->Hp->Prop),Inv X pins σ H s->wi σ H R ->
   aM (be X.prog X.w) X.A (b9 iter X.env) (fun v s1=>aM (be X.prog X.w) X.A (pyIter v) (PIE X pins σ tg R) X.xe s1) X.xe s
theorem Df {M:Model} {A:bK} {E:ae->ai->Prop} {s:ai} {tg:aP} {it:ak} {u:ae} {o:dm} {n:String} {vs:Array ae} {Q:Unit->ai->Prop} (ho:s.heap.get? it=some o) (hc:o.cls=.type n) (hd:o.data=.fields vs)
 (hn:["enumerate","zip","dict_itemiterator","dict_reverseitemiterator","odict_iterator","itertools.zip_longest","itertools.pairwise"].contains n=false) (hQ:Q () s):aM M A (sR tg (.ref it) u) Q E s:=by
 unfold sR
 cases tg<;>first
  | exact al hQ
  | (cases u<;>first
      | exact al hQ
      | (refine aa (ou ho ?_)
         rw [hc,hd]
         show aM M A (if (["enumerate","zip","dict_itemiterator","dict_reverseitemiterator","odict_iterator","itertools.zip_longest","itertools.pairwise"].contains n&&vs[0]? == some (jI _))=true then _ else _) Q E s
         rw [if_neg (by intro h;rw [hn,Bool.false_and] at h;cases h)]
         exact al hQ))
def Itl (K:ac) (a:ak):It :=
 ⟨fun i H=>∃ xs x,SqL K H a xs/\xs[i]?=some x,fun i H x H'=>H'=H/\∀ xs,SqL K H a xs->xs[i]?=some x,fun i H=>∃ xs,SqL K H a xs/\xs.length<=i⟩
def Itt (K:ac) (a:ak):It :=
 ⟨fun i H=>∃ xs x,SqT K H a xs/\xs[i]?=some x,fun i H x H'=>H'=H/\∀ xs,SqT K H a xs->xs[i]?=some x,fun i H=>∃ xs,SqT K H a xs/\xs.length<=i⟩
def Itr (lo:Int) (n:Nat):It:=⟨fun i _=>i<n,fun i H x H'=>H'=H/\x=.int (lo+i),fun i _=>n<=i⟩
theorem AZ {P:bA} {w:cb} {K:ac} {tg:aP} (a it:ak):Gy P w K tg (Itl K a) [it] it (fun i h=>h.IsListIter it a i) where
 mem:=by simp
 obj:=fun i h st b hb=>by
  have e:b=it:=by simpa using hb
  subst e
  obtain ⟨o,e,c,d⟩:=st
  exact ⟨o,e,fun v z=>by rw [d] at z;cases z⟩
 keep:=fun i h h' st k=>st.at fun o e=>k it (by simp) o e
 item:=by
  intro X hP hw hK hc i pins s σ H E I hf st hg
  subst hP hw hK
  obtain ⟨xs,x,hq,hx⟩:=hg
  obtain ⟨its,rv,p,hz⟩:=I.list hq
  obtain ⟨u,hu,ru⟩:=rv.get hx
  obtain ⟨f0,f1,f2,f3,f4,f5⟩:=hf it (by simp)
  refine wpAny_pyNext_list_item st p.isList (x:=u) (by simpa using hu) fun h' st' sb=>?_
  have I1:Inv X pins σ H { s with heap:=h' }:=I.turned (t':=s.toks) (fun b o hb e=>(sb.2 b hb).trans e) f0 f1 f3 f4 f5
  obtain ⟨o,e,c,d⟩:=id st'
  exact ⟨u,rfl,Df (s:={ s with heap:=h' }) e c d (by decide) ⟨x,H,I1,ru,⟨rfl,fun ys hy=>by rw [I.list_inj hy hq];exact hx⟩,st',fun b hb=>(hf b hb).1⟩⟩
 done:=by
  intro X hP hw hK hc i pins s σ H E I hf st hg
  subst hP hw hK
  obtain ⟨xs,hq,hx⟩:=hg
  obtain ⟨its,rv,p,hz⟩:=I.list hq
  obtain ⟨f0,f1,f2,f3,f4,f5⟩:=hf it (by simp)
  have hl:=rv.length
  exact wpAny_pyNext_list_end (I.ok.hd hc) st p.isList (by simp;lia) fun h' eb=>⟨rfl,I.turned (t':=s.toks) (fun b o hb e=>eb b o hb e) f0 f1 f3 f4 f5⟩
 self:=fun _ _ _ _ _ st h=>wpAny_pyIter_listiter st h
theorem ye {P:bA} {w:cb} {K:ac} {tg:aP} (a it:ak):Gy P w K tg (Itt K a) [it] it (fun i h=>h.IsTupleIter it a i) where
 mem:=by simp
 obj:=fun i h st b hb=>by
  have e:b=it:=by simpa using hb
  subst e
  obtain ⟨o,e,c,d⟩:=st
  exact ⟨o,e,fun v z=>by rw [d] at z;cases z⟩
 keep:=fun i h h' st k=>st.at fun o e=>k it (by simp) o e
 item:=by
  intro X hP hw hK hc i pins s σ H E I hf st hg
  subst hP hw hK
  obtain ⟨xs,x,hq,hx⟩:=hg
  obtain ⟨its,rv,p,hz⟩:=I.tuple hq
  obtain ⟨u,hu,ru⟩:=rv.get hx
  obtain ⟨f0,f1,f2,f3,f4,f5⟩:=hf it (by simp)
  refine wpAny_pyNext_tuple_item st (show s.heap.IsTuple a its.toArray from p) (x:=u) (by simpa using hu) fun h' st' sb=>?_
  have I1:Inv X pins σ H { s with heap:=h' }:=I.turned (t':=s.toks) (fun b o hb e=>(sb.2 b hb).trans e) f0 f1 f3 f4 f5
  obtain ⟨o,e,c,d⟩:=id st'
  exact ⟨u,rfl,Df (s:={ s with heap:=h' }) e c d (by decide) ⟨x,H,I1,ru,⟨rfl,fun ys hy=>by rw [I.tuple_inj hy hq];exact hx⟩,st',fun b hb=>(hf b hb).1⟩⟩
 done:=by
  intro X hP hw hK hc i pins s σ H E I hf st hg
  subst hP hw hK
  obtain ⟨xs,hq,hx⟩:=hg
  obtain ⟨its,rv,p,hz⟩:=I.tuple hq
  obtain ⟨f0,f1,f2,f3,f4,f5⟩:=hf it (by simp)
  have hl:=rv.length
  exact wpAny_pyNext_tuple_end (I.ok.hd hc) st (show s.heap.IsTuple a its.toArray from p) (by simp;lia) fun h' eb=>⟨rfl,I.turned (t':=s.toks) (fun b o hb e=>eb b o hb e) f0 f1 f3 f4 f5⟩
 self:=fun _ _ _ _ _ st h=>wpAny_pyIter_tupleiter st h
theorem x6 {P:bA} {w:cb} {K:ac} {tg:aP} (it:ak) (lo:Int) (n:Nat):Gy P w K tg (Itr lo n) [it] it (fun i h=>IsRangeIter h it (lo+(i:Nat)*1) ((n:Int)-(i:Nat)) 1) where
 mem:=by simp
 obj:=fun i h st b hb=>by
  have e:b=it:=by simpa using hb
  subst e
  exact ⟨_,st,fun v z=>by
   have z':Data.fields _=Data.cell v:=z
   cases z'⟩
 keep:=fun i h h' st k=>k it (by simp) _ st
 item:=by
  intro X hP hw hK hc i pins s σ H E I hf st hg
  subst hP hw hK
  obtain ⟨f0,f1,f2,f3,f4,f5⟩:=hf it (by simp)
  have W:=Walks.range (prog:=X.prog) (w:=X.w) (I.ok.hd hc) it lo 1 n
  refine W.item i s _ _ hg st fun v h' tk hv st' kk=>?_
  obtain ⟨t,rfl⟩:=hv
  have I1:Inv X pins σ H { s with heap:=h',toks:=tk }:=I.turned (fun b o hb e=>kk b o (by simpa using hb) e) f0 f1 f3 f4 f5
  refine ⟨_,rfl,Df (s:={ s with heap:=h',toks:=tk }) (n:="range_iterator") st' rfl rfl (by decide) ⟨.int (lo+i),H,I1,⟨t,?_⟩,⟨rfl,rfl⟩,st',fun b hb=>(hf b hb).1⟩⟩
  rw [pK]
 done:=by
  intro X hP hw hK hc i pins s σ H E I hf st hg
  subst hP hw hK
  obtain ⟨f0,f1,f2,f3,f4,f5⟩:=hf it (by simp)
  exact wpAny_pyNext_range_end (I.ok.hd hc) st (by have:n<=i:=hg;lia) fun h' eb=>⟨rfl,I.turned (t':=s.toks) (fun b o hb e=>eb b o hb e) f0 f1 f3 f4 f5⟩
 self:=fun _ _ _ _ _ st h=>wpAny_pyIter_rangeiter st h
section
variable {X:Cx} {tg:aP}
def KJ (K:ac) (tl:TE):TI:=fun σ H R=>tl σ H fun x H1=>∃ a,x=.ref a/\(∃ xs,SqL K H1 a xs)/\R (Itl K a) H1
def LO (K:ac) (tl:TE):TI:=fun σ H R=>tl σ H fun x H1=>∃ a,x=.ref a/\(∃ xs,SqT K H1 a xs)/\R (Itt K a) H1
theorem Ff {l:aP} {tl:TE} (hl:PE X l tl):PI X tg l (KJ X.K tl):=by
 intro pins s σ H R I h
 refine thn (hl pins s σ H _ I h) fun v s1 ⟨x,H1,I1,r1,q1⟩=>?_
 obtain ⟨a,e,⟨xs,hq⟩,q⟩:=q1
 subst e
 cases r1
 obtain ⟨its,rv,p,hz⟩:=I1.list hq
 refine km p.isList ?_
 refine ⟨s1.heap.objs.size,[s1.heap.objs.size],_,_,H1,rfl,I1.kept (t':=s1.toks) fun b o e=>af _ e,AZ a _,⟨_,aH _ rfl,rfl,rfl⟩,fun b hb=>?_,q⟩
 have e:b=s1.heap.objs.size:=by simpa using hb
 subst e
 exact I1.fpOk (ax _) (I1.hok.fresh (ax _))
theorem Jz {l:aP} {tl:TE} (hl:PE X l tl):PI X tg l (LO X.K tl):=by
 intro pins s σ H R I h
 refine thn (hl pins s σ H _ I h) fun v s1 ⟨x,H1,I1,r1,q1⟩=>?_
 obtain ⟨a,e,⟨xs,hq⟩,q⟩:=q1
 subst e
 cases r1
 obtain ⟨its,rv,p,hz⟩:=I1.tuple hq
 refine wpAny_pyIter_tuple (show s1.heap.IsTuple a its.toArray from p) ?_
 refine ⟨s1.heap.objs.size,[s1.heap.objs.size],_,_,H1,rfl,I1.kept (t':=s1.toks) fun b o e=>af _ e,ye a _,⟨_,aH _ rfl,rfl,rfl⟩,fun b hb=>?_,q⟩
 have e:b=s1.heap.objs.size:=by simpa using hb
 subst e
 exact I1.fpOk (ax _) (I1.hok.fresh (ax _))
theorem xA {pins:List (ak×dm)} {σ:St} {H:Hp} {s:ai} {R:It->Hp->Prop} {E:ae->ai->Prop} {lo hi:Int} {t u v:yP} {tk:Nat} (I:Inv X pins σ H s) (h1 : -(2 ^ 62)<=lo) (h2:lo<2 ^ 62) (h3 : -(2 ^ 62)<=hi) (h4:hi<2 ^ 62)
 (q:R (Itr lo (hi-lo).toNat) H):aM (be X.prog X.w) X.A (pyIter (.ref s.heap.objs.size)) (PIE X pins σ tg R) E { s with heap:=s.heap.push { cls:=.type "range",data:=.fields #[.int lo t,.int hi u,.int 1 v] },toks:=tk }:=by
 refine wpAny_pyIter_range (IsRange.new ..) (small_one h1 h2 h3 h4) ?_
 have I1:Inv X pins σ H { s with heap:=s.heap.push { cls:=.type "range",data:=.fields #[.int lo t,.int hi u,.int 1 v] },toks:=tk }:=I.kept fun b o e=>af _ e
 refine ⟨(s.heap.push { cls:=.type "range",data:=.fields #[.int lo t,.int hi u,.int 1 v] }).objs.size,[(s.heap.push { cls:=.type "range",data:=.fields #[.int lo t,.int hi u,.int 1 v] }).objs.size],_,_,H,rfl,
  I1.kept (t':=tk) fun b o e=>af _ e,x6 _ lo (hi-lo).toNat,?_,fun b hb=>?_,q⟩
 ·have e1:lo+((0:Nat):Int)*1=lo:=by simp
  have e2:(((hi-lo).toNat:Nat):Int)-((0:Nat):Int)=Builtin.Range.rangeSize lo hi 1:=by rw [xG];split<;>lia
  show IsRangeIter _ _ (lo+((0:Nat):Int)*1) ((((hi-lo).toNat:Nat):Int)-((0:Nat):Int)) 1
  rw [e1,e2]
  exact aH _ rfl
 ·have e:b=(s.heap.push { cls:=.type "range",data:=.fields #[.int lo t,.int hi u,.int 1 v] }).objs.size:=by simpa using hb
  subst e
  exact I1.fpOk (ax _) (I1.hok.fresh (ax _))
def Ld (ta:TA):TI:=fun σ H R=>ta σ H fun vs H1=>∃ j:Int,vs=[.int j]/\-(2 ^ 62)<=j/\j<2 ^ 62/\R (Itr 0 j.toNat) H1
def KY (ta:TA):TI:=fun σ H R=>ta σ H fun vs H1=>∃ i j:Int,vs=[.int i,.int j]/\(-(2 ^ 62)<=i/\i<2 ^ 62/\-(2 ^ 62)<=j/\j<2 ^ 62)/\R (Itr i (j-i).toNat) H1
theorem Bu {a:aP} {ta:TA} {p pos:e7} (hg:Gl X "range") (hm:X.mg "range" = none) (ha:PA X [a] ta) (hs:ao [a] X.env=[(false,b9 a X.env)]:=by rfl):PI X tg (.Call (.Name "range" p) [a] [] pos) (Ld ta):=by
 intro pins s σ H R I h
 refine Call_ (nG I hg hm boot_range (fw (thn (ha pos pins s σ H _ I h) fun us s1 ⟨vs,H1,I1,r1,q1⟩=>?_) hs rfl))
 obtain ⟨j,e,q1,q2,q⟩:=q1
 subst e
 cases r1 with
 | cons r rr =>
   cases rr
   obtain ⟨t,rfl⟩:=r
   exact call_range_1 (xA I1 (by lia) (by lia) q1 q2 (by simpa using q))
theorem zM {a b:aP} {ta:TA} {p pos:e7} (hg:Gl X "range") (hm:X.mg "range" = none) (ha:PA X [a,b] ta) (hs:ao [a,b] X.env=[(false,b9 a X.env),(false,b9 b X.env)]:=by rfl) (hs2:ao [b] X.env=[(false,b9 b X.env)]:=by rfl) :
 PI X tg (.Call (.Name "range" p) [a,b] [] pos) (KY ta):=by
 intro pins s σ H R I h
 refine Call_ (nG I hg hm boot_range (fw (thn (ha pos pins s σ H _ I h) fun us s1 ⟨vs,H1,I1,r1,q1⟩=>?_) (by rw [hs,hs2]) (by rw [hs2];rfl)))
 obtain ⟨i,j,e,⟨q1,q2,q3,q4⟩,q⟩:=q1
 subst e
 cases r1 with
 | cons r rr =>
   cases rr with
   | cons r' rr =>
     cases rr
     obtain ⟨t,rfl⟩:=r
     obtain ⟨t',rfl⟩:=r'
     exact call_range_2 (xA I1 q1 q2 q3 q4 q)
def Kr (wi:TI) (g:TG) (tb:TS):TS:=fun D σ H=>wi σ H fun J H1=>∃ W:Nat->Nat->St->Hp->Prop,(∃ m,W 0 m σ H1)/\∀ i m σ H,W i m σ H ->
 (J.stop i H/\D.nx σ H)\/(J.go i H/\∃ N:St->Hp->Prop,(∀ σ' H',N σ' H'->∃ m',m'<m/\W (i+1) m' σ' H')/\∀ x H',J.yld i H x H'->g x σ H' fun σ2 H2=>tb { D with nx:=N,ct:=N,bk:=D.nx } σ2 H2)
def tq (fp:List ak) (h:cr):List (ak×dm):=fp.filterMap fun b=>(h.get? b).map fun o=>(b,o)
theorem lg {fp:List ak} {h:cr} {b:ak} {o:dm} (hb:b∈fp) (e:h.get? b=some o):(b,o)∈tq fp h:=yB.mpr ⟨b,hb,by rw [e];rfl⟩
theorem zZ {fp:List ak} {h:cr} {p:ak×dm} (hp:p∈tq fp h):p.1∈fp/\h.get? p.1=some p.2:=by
 obtain ⟨b,hb,e⟩:=yB.mp hp
 cases q:h.get? b with
 | none=>rw [q] at e;cases e
 | some o =>
   rw [q] at e
   have e':(b,o)=p:=bR e
   subst e'
   exact ⟨hb,q⟩
theorem Inv.pinned {pins:List (ak×dm)} {σ:St} {H:Hp} {s:ai} {fp:List ak} (I:Inv X pins σ H s) (hf:∀ b∈fp,yh X pins H b) (ho:∀ b∈fp,∃ o,s.heap.get? b=some o/\∀ v,o.data≠.cell v):Inv X (pins++tq fp s.heap) σ H s :=
 I.pins_of fun p hp=>(az.mp hp).elim (fun z=>I.pin p (aU _ z)) fun z=>by
  obtain ⟨hb,e⟩:=zZ z
  obtain ⟨f0,f1,f2,_⟩:=hf p.1 hb
  obtain ⟨o,e',d⟩:=ho p.1 hb
  rw [e] at e';cases e'
  exact ⟨e,f0,f1,f2,d⟩
theorem Inv.unpinned {pins pl:List (ak×dm)} {σ:St} {H:Hp} {s:ai} (I:Inv X (pins++pl) σ H s):Inv X pins σ H s:=I.pins_of fun p hp=>I.pin p (aU _ (bw _ hp))
theorem wX {iter:aP} {body:List cV} {wi:TI} {g:TG} {tb:TS} {pos:e7} (hp:ny (be X.prog X.w) X.A X.env X.xe) (hc:X.calm=true) (hi:PI X tg iter wi) (hg:PG X tg g) (hb:PSs X body tb)
 (hs:∀ x,cW iter X.env x=pure x:=by intro _;rfl):PS X (.For tg iter body [] pos) (Kr wi g tb):=by
 intro pins s σ H D I h
 refine wpAny_For (thn (hi pins s σ H _ I h) fun v s1 h1=>thn h1 fun itv s2 h2=>?_) hs
 obtain ⟨it,fp,tn,J,H2,e,I2,T,st2,f2,W,⟨m0,w0⟩,turn⟩:=h2
 subst e
 have stat:∀ {H':Hp},(∀ b∈fp,H' b=none)->∀ b∈fp,yh X pins H' b:=fun hn b hb=>⟨hn b hb,(f2 b hb).2⟩
 refine codeAny_forLoop_any (fun n s'=>∃ i σ' H',Inv X pins σ' H' s'/\tn i s'.heap/\(∀ b∈fp,H' b=none)/\W i n σ' H') ?_ m0 ⟨0,σ,H2,I2,st2,fun b hb=>(f2 b hb).1,w0⟩
 rintro n s3 ⟨i,σ3,H3,I3,st3,fr3,w3⟩
 rcases turn i n σ3 H3 w3 with ⟨stop,qn⟩ | ⟨go,N,hN,step⟩
 ·refine fW hp (thn (T.done X rfl rfl rfl hc i pins s3 σ3 H3 X.xe I3 (stat fr3) st3 stop) fun r s4 ⟨hr,I4⟩=>?_)
  subst hr
  exact lO ⟨σ3,H3,I4,qn⟩
 ·refine fW hp (thn (T.item X rfl rfl rfl hc i pins s3 σ3 H3 X.xe I3 (stat fr3) st3 go) fun r s4 ⟨u,hr,h4⟩=>?_)
  subst hr
  refine fW hp (thn h4 fun _ s5 ⟨x,H5,I5,r5,y5,st5,fr5⟩=>?_)
  have I5':=I5.pinned (stat fr5) (T.obj _ _ st5)
  refine fW hp (thn (hg _ s5 σ3 H5 x u _ I5' r5 (step x H5 y5)) fun _ s6 ⟨σ6,H6,I6,q6⟩=>?_)
  refine fW hp (thn (hb _ s6 σ6 H6 _ I6 q6) fun f s7 q7=>?_)
  have again:∀ {σ7:St} {H7:Hp},Inv X (pins++tq fp s5.heap) σ7 H7 s7->N σ7 H7->∃ m,m<n/\∃ i σ' H',Inv X pins σ' H' s7/\tn i s7.heap/\(∀ b∈fp,H' b=none)/\W i m σ' H':=fun {σ7 H7} I7 n7=>by
   obtain ⟨m',hm,w7⟩:=hN σ7 H7 n7
   refine ⟨m',hm,i+1,σ7,H7,I7.unpinned,T.keep _ _ _ st5 fun b hb o e=>(I7.pin (b,o) (aU _ (aU _ (lg hb e)))).1,fun b hb=>?_,w7⟩
   obtain ⟨o,e,d⟩:=T.obj _ _ st5 b hb
   exact (I7.pin (b,o) (aU _ (aU _ (lg hb e)))).2.1
  cases f with
  | next=>obtain ⟨σ7,H7,I7,n7⟩:=q7;exact again I7 n7
  | cont=>obtain ⟨σ7,H7,I7,n7⟩:=q7;exact again I7 n7
  | brk=>obtain ⟨σ7,H7,I7,q7⟩:=q7;exact ⟨σ7,H7,I7.unpinned,q7⟩
  | ret v=>obtain ⟨x7,σ7,H7,I7,r7,q7⟩:=q7;exact ⟨x7,σ7,H7,I7.unpinned,r7,q7⟩
end
abbrev R2:=V->V->Hp->VK->Prop
def OpR (X:Cx) (f:ae->ae->Sem ae) (r:R2):Prop :=
 ∀ (pins:List (ak×dm)) (s:ai) (σ:St) (H:Hp) (x y:V) (v u:ae) (Q:VK),Inv X pins σ H s->gD x v->gD y u->r x y H Q ->
   aM (be X.prog X.w) X.A (f v u) (EP X pins σ Q) X.xe s
def UnR (X:Cx) (f:ae->Sem ae) (r:V->Hp->VK->Prop):Prop :=
 ∀ (pins:List (ak×dm)) (s:ai) (σ:St) (H:Hp) (x:V) (v:ae) (Q:VK),Inv X pins σ H s->gD x v->r x H Q ->
   aM (be X.prog X.w) X.A (f v) (EP X pins σ Q) X.xe s
def lq (X:Cx) (f:ae) (r:List V->Hp->VK->Prop):Prop :=
 ∀ (pins:List (ak×dm)) (s:ai) (σ:St) (H:Hp) (xs:List V) (us:List ae) (Q:VK),Inv X pins σ H s->eE xs us->r xs H Q ->
   aM (be X.prog X.w) X.A (call f us) (EP X pins σ Q) X.xe s
def LI (X:Cx) (r:V->Hp->(Bool->Hp->Prop)->Prop):Prop :=
 ∀ (pins:List (ak×dm)) (s:ai) (σ:St) (H:Hp) (x:V) (v:ae) (Q:Bool->Hp->Prop),Inv X pins σ H s->gD x v->r x H Q ->
   aM (be X.prog X.w) X.A (truthy v) (TP X pins σ Q) X.xe s
def tOp (r:R2) (ta tb:TE):TE:=fun σ H Q=>ta σ H fun x H1=>tb σ H1 fun y H2=>r x y H2 Q
def tUn (r:V->Hp->VK->Prop) (ta:TE):TE:=fun σ H Q=>ta σ H fun x H1=>r x H1 Q
def rI (C:Int->Int->Prop) (g:Int->Int->V):R2:=fun x y H Q=>∃ i j,x=.int i/\y=.int j/\C i j/\Q (g i j) H
def rI0 (g:Int->Int->V):R2:=fun x y H Q=>∃ i j,x=.int i/\y=.int j/\Q (g i j) H
def rU (g:Int->V):V->Hp->VK->Prop:=fun x H Q=>∃ i,x=.int i/\Q (g i) H
section
variable {X:Cx} {a b c:aP} {ta tb tc:TE} {pos:e7}
theorem Lk (ha:PE X a ta) (hb:PE X b tb) {pins:List (ak×dm)} {s:ai} {σ:St} {H:Hp} {R:V->V->Hp->Prop} (I:Inv X pins σ H s)
 (h:ta σ H fun x H1=>tb σ H1 fun y H2=>R x y H2) {Q:ae->ai->Prop} {f:ae->ae->Sem ae}
 (hf:∀ v u s2 x y H2,Inv X pins σ H2 s2->gD x v->gD y u->R x y H2->aM (be X.prog X.w) X.A (f v u) Q X.xe s2) :
 aM (be X.prog X.w) X.A (b9 a X.env) (fun v s₁=>aM (be X.prog X.w) X.A (b9 b X.env) (fun u s₂=>aM (be X.prog X.w) X.A (f v u) Q X.xe s₂) X.xe s₁) X.xe s:=by
 refine thn (ha pins s σ H _ I h) fun v s1 ⟨x,H1,I1,r1,q1⟩=>?_
 refine thn (hb pins s1 σ H1 _ I1 q1) fun u s2 ⟨y,H2,I2,r2,q2⟩=>?_
 exact hf v u s2 x y H2 I2 r1 r2 q2
theorem KB {op:Operator} {r:R2} (ho:OpR X (i7 op) r) (ha:PE X a ta) (hb:PE X b tb):PE X (.BinOp a op b pos) (tOp r ta tb):=by
 intro pins s σ H Q I h
 exact wpAny_BinOp (Lk ha hb I h fun v u s2 x y H2 I2 rx ry q=>ho pins s2 σ H2 x y v u Q I2 rx ry q)
theorem KO {op:UnaryOp} {r:V->Hp->VK->Prop} (ho:UnR X (unaryOp op) r) (ha:PE X a ta):PE X (.UnaryOp op a pos) (tUn r ta):=by
 intro pins s σ H Q I h
 exact UnaryOp_ (thn (ha pins s σ H _ I h) fun v s1 ⟨x,H1,I1,r1,q1⟩=>ho pins s1 σ H1 x v Q I1 r1 q1)
theorem opI {f:ae->ae->Sem ae} {C:Int->Int->Prop} {g:Int->Int->Int}
 (rule:∀ (i j:Int) (t u:yP) (s:ai) (Q:ae->ai->Prop) (E:ae->ai->Prop),C i j->Q (.int (g i j) s.toks) { s with toks:=s.toks+1 }->aM (be X.prog X.w) X.A (f (.int i t) (.int j u)) Q E s) :
 OpR X f (rI C fun i j=>.int (g i j)):=by
 intro pins s σ H x y v u Q I rx ry h
 obtain ⟨i,j,rfl,rfl,hc,q⟩:=h
 obtain ⟨t,rfl⟩:=rx
 obtain ⟨t',rfl⟩:=ry
 exact rule i j t t' s _ _ hc ⟨.int (g i j),H,I.tok _,⟨_,rfl⟩,q⟩
theorem LA {f:ae->ae->Sem ae} {g:Int->Int->Int}
 (rule:∀ (i j:Int) (t u:yP) (s:ai) (Q:ae->ai->Prop) (E:ae->ai->Prop),Q (.int (g i j) s.toks) { s with toks:=s.toks+1 }->aM (be X.prog X.w) X.A (f (.int i t) (.int j u)) Q E s) :
 OpR X f (rI0 fun i j=>.int (g i j)):=by
 intro pins s σ H x y v u Q I rx ry h
 obtain ⟨i,j,rfl,rfl,q⟩:=h
 obtain ⟨t,rfl⟩:=rx
 obtain ⟨t',rfl⟩:=ry
 exact rule i j t t' s _ _ ⟨.int (g i j),H,I.tok _,⟨_,rfl⟩,q⟩
theorem LS {f:ae->ae->Sem ae} {g:Int->Int->Bool}
 (rule:∀ (i j:Int) (t u:yP) (s:ai) (Q:ae->ai->Prop) (E:ae->ai->Prop),Q (.bool (g i j)) s->aM (be X.prog X.w) X.A (f (.int i t) (.int j u)) Q E s) :
 OpR X f (rI0 fun i j=>.bl (g i j)):=by
 intro pins s σ H x y v u Q I rx ry h
 obtain ⟨i,j,rfl,rfl,q⟩:=h
 obtain ⟨t,rfl⟩:=rx
 obtain ⟨t',rfl⟩:=ry
 exact rule i j t t' s _ _ ⟨.bl (g i j),H,I,rfl,q⟩
def Ku (i j:Int):Prop:=(-(2 ^ 64)<i/\i<2 ^ 64)\/(-(2 ^ 64)<j/\j<2 ^ 64)
theorem Ku.ok {i j:Int} (h:Ku i j):IntMulOk i j:=by
 rcases h with ⟨h1,h2⟩ | ⟨h1,h2⟩
 ·exact .of_left (intBits_le_64 h1 h2)
 ·exact .of_right (intBits_le_64 h1 h2)
theorem JV:OpR X (i7 .Add) (rI0 fun i j=>.int (i+j)):=LA fun _ _ _ _ _ _ _ q=>add_int q
theorem ID:OpR X (i7 .Sub) (rI0 fun i j=>.int (i-j)):=LA fun _ _ _ _ _ _ _ q=>sub_int q
theorem IP:OpR X (i7 .Mult) (rI Ku fun i j=>.int (i*j)):=opI fun _ _ _ _ _ _ _ hc q=>mul_int q hc.ok
theorem Jk:OpR X (i7 .Mod) (rI (fun _ j=>0<j) fun i j=>.int (i%j)):=opI fun i j _ _ _ _ _ hc q=>by
 have h1:(0:Int)<j:=hc
 exact mod_int' (by lia) (by rw [Int.fmod_eq_emod_of_nonneg i (by lia)];exact q)
theorem unI {f:ae->Sem ae} {g:Int->Int}
 (rule:∀ (i:Int) (t:yP) (s:ai) (Q:ae->ai->Prop) (E:ae->ai->Prop),Q (.int (g i) s.toks) { s with toks:=s.toks+1 }->aM (be X.prog X.w) X.A (f (.int i t)) Q E s) :
 UnR X f (rU fun i=>.int (g i)):=by
 intro pins s σ H x v Q I rx h
 obtain ⟨i,rfl,q⟩:=h
 obtain ⟨t,rfl⟩:=rx
 exact rule i t s _ _ ⟨.int (g i),H,I.tok _,⟨_,rfl⟩,q⟩
theorem Jc:UnR X (unaryOp .USub) (rU fun i=>.int (-i)):=unI fun _ _ _ _ _ q=>neg_int q
theorem Ky:OpR X (dM .Lt) (rI0 fun i j=>.bl (decide (i<j))):=LS fun _ _ _ _ _ _ _ q=>lt_int q
theorem OpR.or {f:ae->ae->Sem ae} {r r':R2} (h:OpR X f r) (h':OpR X f r'):OpR X f (fun x y H Q=>r x y H Q\/r' x y H Q):=by
 intro pins s σ H x y v u Q I rx ry q
 rcases q with q | q
 ·exact h pins s σ H x y v u Q I rx ry q
 ·exact h' pins s σ H x y v u Q I rx ry q
theorem wF (b:aP) {op:pS} (h:op≠.In:=by decide) (h2:op≠.NotIn:=by decide):eM op b=false:=by
 have e1:(op == CmpOp.In)=false:=by cases op<;>first | rfl | exact absurd rfl h
 have e2:(op == CmpOp.NotIn)=false:=by cases op<;>first | rfl | exact absurd rfl h2
 cases b<;>simp [eM,e1,e2]
theorem Hy {op:pS} {r:R2} (ho:OpR X (dM op) r) (ha:PE X a ta) (hb:PE X b tb) (hm:eM op b=false):PE X (.Compare a [op] [b] pos) (tOp r ta tb):=by
 intro pins s σ H Q I h
 exact wpAny_Compare1 (Lk ha hb I h fun v u s2 x y H2 I2 rx ry q=>ho pins s2 σ H2 x y v u Q I2 rx ry q) hm
def Lc (t:TE):TT:=fun σ H Q=>t σ H fun x H'=>∃ k,x=.bl k/\Q k H'
theorem FL {op:pS} {r:R2} (ho:OpR X (dM op) r) (ha:PE X a ta) (hb:PE X b tb) (hm:eM op b=false):PT X (.Compare a [op] [b] pos) (Lc (tOp r ta tb)):=by
 intro pins s σ H Q I h
 refine BH (thn (ha pins s σ H _ I h) fun v s1 ⟨x,H1,I1,r1,q1⟩=>thn (hb pins s1 σ H1 _ I1 q1) fun u s2 ⟨y,H2,I2,r2,q2⟩ =>
  thn (ho pins s2 σ H2 x y v u _ I2 r1 r2 q2) fun c s3 ⟨z,H3,I3,r3,k,e,q3⟩=>?_) hm
 subst e
 cases r3
 exact eA ⟨H3,I3,q3⟩
def Lu (K:ac) (x:V) (H:Hp) (k:Bool):Prop :=
 match x with
 | .non=>k=false
 | .bl b=>k=b
 | .int i=>k=(i != 0)
 | .str y=>y.length<=aL/\k=((y.length:Int) != 0)
 | .byt y=>y.size<=aL/\k=((y.size:Int) != 0)
 | .ref p=>(∃ xs,SqL K H p xs/\k = !xs.isEmpty)\/(∃ xs,SqT K H p xs/\k = !xs.isEmpty)\/∃ kvs,H p=some (.dK kvs)/\k = !kvs.isEmpty
 | _=>False
theorem yc {κ:Type} {kvs:List (κ×V)} {vs:List (κ×ae)} (r:KV kvs vs):(!vs.isEmpty) = !kvs.isEmpty:=by
 cases r<;>rfl
theorem qz {xs:List V} {its:List ae} (r:eE xs its):(!its.toArray.isEmpty) = !xs.isEmpty:=by
 cases r<;>simp
theorem uc:(aL:Nat)<2 ^ 63:=by rw [bE];decide
theorem Jo:LI X (fun x H Q=>∃ k,Lu X.K x H k/\Q k H):=by
 intro pins s σ H x v Q I rx h
 obtain ⟨k,e,q⟩:=h
 have hl:=uc
 have hs:aL=16777216:=bE
 cases x with
 | non =>
   cases rx
   have e':k=false:=e
   subst e'
   exact truthy_none ⟨H,I,q⟩
 | bl b =>
   cases rx
   have e':k=b:=e
   subst e'
   exact eA ⟨H,I,q⟩
 | int i =>
   obtain ⟨t,rfl⟩:=rx
   have e':k=(i != 0):=e
   subst e'
   exact PySem.P.truthy_int ⟨H,I,q⟩
 | str y =>
   obtain ⟨t,rfl⟩:=rx
   obtain ⟨hy,e'⟩:y.length<=aL/\k=((y.length:Int) != 0):=e
   subst e'
   exact PySem.P.truthy_str (by lia) ⟨H,I.tok _,q⟩
 | byt y =>
   obtain ⟨t,rfl⟩:=rx
   obtain ⟨hy,e'⟩:y.size<=aL/\k=((y.size:Int) != 0):=e
   subst e'
   exact PySem.W.truthy_bytes (by lia) ⟨H,I.tok _,q⟩
 | ref p =>
   cases rx
   have e':(∃ xs,SqL X.K H p xs/\k = !xs.isEmpty)\/(∃ xs,SqT X.K H p xs/\k = !xs.isEmpty)\/∃ kvs,H p=some (.dK kvs)/\k = !kvs.isEmpty:=e
   rcases e' with ⟨xs,hx,e'⟩ | ⟨xs,hx,e'⟩ | ⟨kvs,hx,e'⟩
   ·subst e'
    obtain ⟨its,r,pl,hz⟩:=I.list hx
    have hlen:=r.length
    exact wpAny_truthy_list pl.isList (by simp only [aA];lia) ⟨H,I.tok _,by rw [qz r];exact q⟩
   ·subst e'
    obtain ⟨its,r,pl,hz⟩:=I.tuple hx
    have hlen:=r.length
    exact truthy_tuple pl (by simp only [aA];lia) ⟨H,I.tok _,by rw [qz r];exact q⟩
   ·subst e'
    obtain ⟨hz,hS,vs,r,m⟩:kvs.length<=aL/\(p == dh)=false/\∃ vs,KV kvs vs/\s.heap.DictOf (cI X.prog X.w) p vs:=I.hok p _ hx
    have hlen:kvs.length=vs.length:=ce r
    exact wpAny_truthy_dict hS m (by lia) ⟨H,I.tok _,by rw [yc r];exact q⟩
 | _=>exact (show False from e).elim
theorem Dc (ha:PE X a ta) (he:∀ whole,isTrue a X.env whole=(do let v <- whole;pT a.pos;uI [v] (truthy v))) :
 PT X a (fun σ H Q=>ta σ H fun x H'=>∃ k,Lu X.K x H' k/\Q k H'):=by
 intro pins s σ H Q I h
 exact isTrue_plain (thn (ha pins s σ H _ I h) fun v s1 ⟨x,H1,I1,r1,q1⟩=>Jo pins s1 σ H1 x v Q I1 r1 q1) (he _)
theorem lH {x:V} {us:List ae} (r:eE [x] us):∃ u,us=[u]/\gD x u:=by
 cases r with
 | cons r1 r2=>cases r2;exact ⟨_,rfl,r1⟩
end
theorem yN.some_of {v:V} {o:Option ae} (r:yN (some v) o):∃ u,o=some u/\gD v u:=by
 cases o with
 | none=>exact (show False from r).elim
 | some u=>exact ⟨u,rfl,r⟩
structure jm (k:Nat) (A:bK):Prop where
 gd:A.guards=some []
 hd:A.handled=none
 dp:A.depth+3*k+5<uR
 un:A.units+16*k+200<cx
theorem jm.mono {j k:Nat} {A:bK} (r:jm k A) (h:j<=k):jm j A:=⟨r.gd,r.hd,by have:=r.dp;lia,by have:=r.un;lia⟩
theorem jm.deeper {k:Nat} {A:bK} (r:jm (k+1) A) (env:pQ):jm k (A.deeper env) :=
 ⟨r.gd,r.hd,by have:=r.dp;show A.depth+1+3*k+5<_;lia,by have:=r.un;show A.units+3+16*k+200<_;lia⟩
theorem jm.in1 {k:Nat} {A:bK} (r:jm (k+1) A):jm k A.in1 :=
 ⟨r.gd,r.hd,by have:=r.dp;show A.depth+3*k+5<_;lia,by have:=r.un;show A.units+1+16*k+200<_;lia⟩
theorem jm.depth {k:Nat} {A:bK} (r:jm k A):A.depth<uR:=by have:=r.dp;lia
theorem jm.units {k:Nat} {A:bK} (r:jm k A):A.units+64<cx:=by have:=r.un;lia
def IR:TA:=fun _ H Q=>Q [] H
def oF (ta:TE) (tr:TA):TA:=fun σ H Q=>ta σ H fun x H1=>tr σ H1 fun xs H2=>Q (x::xs) H2
section
variable {X:Cx} {e:aP} {es:List aP} {te:TE} {t:TA} {pos:e7}
theorem kL:PA X [] IR:=fun _ _ _ _ H Q I h=>yC ⟨[],H,I,.nil,h⟩
theorem fR (ha:PE X e te) (hr:PA X es t) (hs:ao (e::es) X.env=(false,b9 e X.env)::ao es X.env:=by rfl):PA X (e::es) (oF te t):=by
 intro pos pins s σ H Q I h
 rw [hs]
 show aM _ _ (spliced ((false,b9 e X.env)::cz pos (ao es X.env))) _ _ s
 refine lR (thn (ha pins s σ H _ I h) fun u s1 ⟨x,H1,I1,r1,q1⟩=>?_)
 exact thn (hr pos pins s1 σ H1 _ I1 q1) fun us s2 ⟨xs,H2,I2,r2,q2⟩=>⟨x::xs,H2,I2,.cons r1 r2,q2⟩
def LK (t:TA):TE:=fun σ H Q=>t σ H fun xs H1=>xs.length<=aL/\∀ p,H1 p=none->Q (.ref p) (upd H1 p (.tup xs))
def LM (t:TA):TE:=fun σ H Q=>t σ H fun xs H1=>xs.length<=aL/\∀ p,H1 p=none->Q (.ref p) (upd H1 p (.lst xs))
theorem IS {x1} (h:PA X es t):PE X (.Tuple es x1 pos) (LK t):=by
 intro pins s σ H Q I hq
 refine wpAny_Tuple_spliced (thn (h pos pins s σ H _ I hq) fun us s1 ⟨xs,H1,I1,r,z,q⟩=>⟨by rw [<- r.length];exact z,?_⟩)
 have hf:H1 s1.heap.objs.size=none:=I1.hok.fresh (ax _)
 refine ⟨.ref s1.heap.objs.size,upd H1 s1.heap.objs.size (.tup xs),I1.laid (t':=s1.toks) (fun b u e=>af _ e) (ax _) ?_,rfl,q _ hf⟩
 exact ⟨⟨z,mz.new _ _⟩,us,r,⟨_,aH _ rfl,rfl,_,rfl⟩⟩
theorem J3 (h:PA X es t):PE X (.List es pos) (LM t):=by
 intro pins s σ H Q I hq
 refine wpAny_List_spliced (thn (h pos pins s σ H _ I hq) fun us s1 ⟨xs,H1,I1,r,z,q⟩=>⟨by rw [<- r.length];exact z,?_⟩)
 have hf:H1 s1.heap.objs.size=none:=I1.hok.fresh (ax _)
 refine ⟨.ref s1.heap.objs.size,upd H1 s1.heap.objs.size (.lst xs),I1.laid (t':=s1.toks) (fun b u e=>af _ e) (ax _) ?_,rfl,q _ hf⟩
 exact ⟨z,us,0,r,aH _ rfl⟩
end
abbrev Sp:=List V->Hp->VK->XK->Prop
abbrev CXT:=List pQ->Hp->ai->XK->ae->ai->Prop
structure Kn (P:bA) (w:cb) (K:ac) (mg:bH->Option ae) (base:cr) (A:bK) (outer:List pQ) (s:ai) (H:Hp):Prop where
 frames:A.frames=some outer
 mod:Mod K mg base
 bs:∀ b o,base.get? b=some o->s.heap.get? b=some o/\H b=none
 bsz:base.objs.size<=s.heap.objs.size
 funs:s.heap.FunFrames base outer
 frf:∀ b∈frs outer,H b=none
 hok:HOk P w H s.heap
 bare:lz s.gens
def CE (outer:List pQ) (P:bA) (w:cb) (H:Hp) (s:ai) (Q:VK) (u:ae) (s':ai):Prop :=
 ∃ v H',s'.os=s.os/\lz s'.gens/\Un (frs outer) [] H H' s.heap s'.heap/\HOk P w H' s'.heap/\gD v u/\Q v H'
def CR (CX:CXT) (outer:List pQ) (P:bA) (w:cb) (H:Hp) (s:ai) (Q:VK) (E:XK) (r:yQ) (s':ai):Prop :=
 match r with
 | .ok (.ret u)=>CE outer P w H s Q u s'
 | .ok _=>False
 | .error e=>CX outer H s E e s'
structure vO (P:bA) (w:cb) (K:ac) (mg:bH->Option ae) (base:cr) (CX:CXT) (k:Nat) (f:ak) (fd:dB) (ps:List bH) (sp:Sp):Prop where
 len:∀ vs H Q E,sp vs H Q E->vs.length=ps.length
 run:∀ (A:bK) (outer:List pQ) (s:ai) (H:Hp) (args:Args) (us:List ae) (vs:List V) (Q:VK) (E:XK),jm k A->Kn P w K mg base A outer s H->uJ s fd args (ps.zip us)->eE vs us->sp vs H Q E ->
  lA (be P w) A (.call (.ref f) args) (CR CX outer P w H s Q E) s
section
variable {X:Cx} {pins:List (ak×dm)} {σ:St} {H:Hp} {s s':ai}
theorem Inv.env0 (I:Inv X pins σ H s):Kn X.prog X.w X.K X.mg X.base X.A X.stack s H :=
 ⟨I.ok.frames,I.ok.mod,I.bs,bL I.ok.bsz I.sz,I.stack,I.stkFree,I.hok,I.bare⟩
theorem Inv.after {Q:VK} {u:ae} (I:Inv X pins σ H s) (h:CE X.stack X.prog X.w H s Q u s'):EP X pins σ Q u s':=by
 obtain ⟨v,H',os,bare,un,hok,r,q⟩:=h
 obtain ⟨hh,g,d,t,os'⟩:=s'
 obtain rfl:os'=s.os:=os
 exact ⟨v,H',I.call (h':=hh) (g':=g) (d':=d) (t':=t) (ch:=[]) un hok bare (fun b z=>absurd z (by simp)),r,q⟩
end
def GD (sp:Sp) (dvs:List V) (E:XK) (t:TA):TE:=fun σ H Q=>t σ H fun vs H1=>sp (vs++dvs) H1 Q E
def rp (K:ac) (fd:dB) (ps:List bH) (ds:List ae):Prop :=
 ∀ (s:ai) (us:List ae),K.In s.heap->(us++ds).length=ps.length->uJ s fd ⟨us,[]⟩ (ps.zip (us++ds))
theorem rp.all {K:ac} {fd:dB} {ps:List bH} (h:∀ us:List ae,us.length=ps.length->jJ fd ⟨us,[]⟩=pure (ps.zip us)):rp K fd ps []:=fun s us _ hl=>by
 rw [eV] at hl ⊢
 exact .of_eq (h us hl)
def zo (CX:CXT) (X:Cx) (E:XK):Prop:=∀ (pins:List (ak×dm)) (σ:St) (H:Hp) (s:ai) (e:ae) (s':ai),Inv X pins σ H s->CX X.stack H s E e s'->X.xe e s'
section
variable {X:Cx} {CX:CXT} {k:Nat} {f C:ak} {fd:dB} {ps:List bH} {sp:Sp} {dvs:List V} {ds:List ae} {E:XK} {x m:bH} {p pos apos:e7} {e o:aP} {es:List aP} {ta:TE} {t:TA}
theorem Jt {pins:List (ak×dm)} {σ:St} {H:Hp} {s:ai} {Q:VK} {us:List ae} {vs:List V} (F:vO X.prog X.w X.K X.mg X.base CX k f fd ps sp) (hr:jm k X.A) (hb:rp X.K fd ps ds) (hd:eE dvs ds) (hx:zo CX X E)
 (I:Inv X pins σ H s) (r:eE vs us) (h:sp (vs++dvs) H Q E):aM (be X.prog X.w) X.A (call (.ref f) us) (EP X pins σ Q) X.xe s:=by
 have r2:eE (vs++dvs) (us++ds):=r.append hd
 have hl:(us++ds).length=ps.length:=by rw [<- r2.length];exact F.len _ _ _ _ h
 refine wpAny_call (pU (F.run X.A X.stack s H ⟨us,[]⟩ (us++ds) (vs++dvs) Q E hr I.env0 (hb s us I.kIn hl) r2 h) fun r s' hq=>?_)
 cases r with
 | error e=>exact hx pins σ H s e s' I hq
 | ok fl =>
   cases fl with
   | ret u=>exact I.after hq
   | next=>exact ck hq
   | brk=>exact ck hq
   | cont=>exact ck hq
theorem vf (F:vO X.prog X.w X.K X.mg X.base CX k f fd ps sp) (hr:jm k X.A) (hg:Gl X x) (hm:X.mg x=some (.ref f)) (hk:bb X.K (.ref f)=true) (hb:rp X.K fd ps ds) (hd:eE dvs ds) (hx:zo CX X E)
 (ha:PA X (e::es) t) (hdb:(x == ("__debug__" : bH))=false:=by decide) (he:ao (e::es) X.env=(false,b9 e X.env)::ao es X.env:=by rfl) (hpl:(cz pos (ao es X.env)).any (·.1)=false:=by rfl) :
 PE X (.Call (.Name x p) (e::es) [] pos) (GD sp dvs E t):=by
 intro pins s σ H Q I h
 refine fM (E9 I hg hm ?_ hdb)
 refine PySem.W.callWith_K (h₀:=X.base) I.ok.mod.kin hk (thn (ha pos pins s σ H _ I h) fun us s1 ⟨vs,H1,I1,r,q⟩=>⟨I1.kIn,?_⟩) he hpl
 exact Jt F hr hb hd hx I1 r q
end
structure gQ (N P:List bH) (sc:dO):Prop where
 kind:sc.kind=.function
 co:sc.isCoroutine=false
 gen:sc.isGenerator=false
 nd:N.Nodup
 pre:N.take P.length=P
 par:∀ x∈P,sc.names.lookup x=some .local\/sc.names.lookup x=some .cell
 nofree:∀ y∈sc.names,y.2≠.free
theorem ti {kindOf:bH->Option d5} {x:bH}:∀ {binds:List (bH×ae)} {m:bH->Option ae},(∀ v,(x,v)∉binds)->yD kindOf binds m x=m x
 | [],_,_=>rfl
 | (n,v)::r,m,h=>by
   unfold yD
   rw [ti fun w hw=>h w (ag _ hw)]
   split
   ·have:x≠n:=by rintro rfl;exact h v ah
    simp [this]
   ·rfl
theorem tV {kindOf:bH->Option d5} {x:bH}:∀ {binds:List (bH×ae)} {m:bH->Option ae},(∀ v,(x,v)∉binds)->yE kindOf binds m x=m x
 | [],_,_=>rfl
 | (n,v)::r,m,h=>by
   unfold yE
   rw [tV fun w hw=>h w (ag _ hw)]
   split
   ·rfl
   ·have:x≠n:=by rintro rfl;exact h v ah
    simp [this]
theorem sY {kindOf:bH->Option d5} {x:bH} {v:ae}:∀ {P:List bH} {vs:List ae} {i:Nat} {m:bH->Option ae},P.Nodup->P[i]?=some x->vs[i]?=some v->kindOf x=some .local ->
 yD kindOf (P.zip vs) m x=some v
 | [],_,_,_,_,h,_,_=>by simp at h
 | _::_,[],_,_,_,_,h,_=>by simp at h
 | p::P,w::vs,0,m,nd,h1,h2,hk=>by
   simp at h1 h2;subst h1;subst h2
   show yD kindOf ((p,w)::P.zip vs) m p=_
   unfold yD
   rw [ti fun v hv=>(bf.mp nd).1 (pL hv).1,if_pos hk]
   simp
 | p::P,w::vs,i+1,m,nd,h1,h2,hk=>by
   show yD kindOf ((p,w)::P.zip vs) m x=_
   unfold yD
   exact sY (i:=i) (bf.mp nd).2 (by simpa using h1) (by simpa using h2) hk
theorem ub {kindOf:bH->Option d5} {x:bH} {v:ae}:∀ {P:List bH} {vs:List ae} {i:Nat} {m:bH->Option ae},P.Nodup->P[i]?=some x->vs[i]?=some v->kindOf x≠some .local ->
 yE kindOf (P.zip vs) m x=some v
 | [],_,_,_,_,h,_,_=>by simp at h
 | _::_,[],_,_,_,_,h,_=>by simp at h
 | p::P,w::vs,0,m,nd,h1,h2,hk=>by
   simp at h1 h2;subst h1;subst h2
   show yE kindOf ((p,w)::P.zip vs) m p=_
   unfold yE
   rw [tV fun v hv=>(bf.mp nd).1 (pL hv).1,if_neg hk]
   simp
 | p::P,w::vs,i+1,m,nd,h1,h2,hk=>by
   show yE kindOf ((p,w)::P.zip vs) m x=_
   unfold yE
   exact ub (i:=i) (bf.mp nd).2 (by simpa using h1) (by simpa using h2) hk
def start (N:List bH) (vs:List V):St:=vs.map some++D3 (N.length-vs.length) none
def wm (CX:CXT) (P:bA) (w:cb) (K:ac) (mg:bH->Option ae) (base:cr) (N:List bH) (qual:bH) (scope:dO) (f:ak) (cd:ae) (A:bK) (outer:List pQ) (s:ai) (H:Hp) (E:XK):Cx where
 prog:=P
 w:=w
 K:=K
 mg:=mg
 base:=base
 A:=A.deeper (fA qual scope s.heap.objs.size f cd)
 N:=N
 s₀:=s
 H₀:=H
 env:=fA qual scope s.heap.objs.size f cd
 outer:=outer
 stack:=fA qual scope s.heap.objs.size f cd::outer
 ex:=[]
 calm:=true
 fn:=fun _=>true
 pn:=[]
 xe:=fun e s'=>aM (be P w) (A.deeper (fA qual scope s.heap.objs.size f cd)) (leaving (fA qual scope s.heap.objs.size f cd) e) (fun _ s''=>CX outer H s E e s'') (fun e' s''=>CX outer H s E e' s'') s'
theorem wx {sc:dO} {n:Nat} {x:bH} (h:sc.names.lookup x=some .cell):∃ c,(eB n sc.names []).lookup x=some c:=by
 have q:=gM sc.names n [] (.inl h)
 exact jk.mp q
theorem zg {CX:CXT} {P:bA} {w:cb} {K:ac} {mg:bH->Option ae} {base:cr} {N ps:List bH} {qual:bH} {scope:dO} {f:ak} {cd:ae} {A:bK} {outer:List pQ} {s s1:ai} {H:Hp} {E:XK} {us:List ae} {vs:List V}
 (S:gQ N ps scope) (hd:A.handled=none) (e0:Kn P w K mg base A outer s H) (hl:vs.length=ps.length) (r:eE vs us)
 (x:InCallC s s.heap.objs.size (yD (fA qual scope s.heap.objs.size f cd).kindOf (ps.zip us) fun _=>none) (eB (s.heap.objs.size+1) scope.names []) (yE (fA qual scope s.heap.objs.size f cd).kindOf (ps.zip us) fun _=>none) s1) :
 Inv (wm CX P w K mg base N qual scope f cd A outer s H E) [] (start N vs) H s1:=by
 have hpl:ps.length<=N.length:=by have:=congrArg gj S.pre;rw [gx] at this;lia
 obtain ⟨h1,tk,rfl,hk⟩:=x.done
 have noA:∀ b:ak,b∉(wm CX P w K mg base N qual scope f cd A outer s H E).ex:=fun b z=>absurd (show b∈([]:List ak) from z) (by simp)
 refine ⟨⟨e0.mod,S.kind,rfl,rfl,ax _,fun y z c h1 h2=>?_,fun y hy=>?_,fun y c _ h=>?_,fun _=>hd,uK e0.frames,.inr ⟨rfl,rfl⟩,fun b z=>absurd z (noA b),e0.bs,e0.bsz,fun b _ _=>noA b,fun b z=>absurd z (noA b),e0.funs,e0.frf⟩,
  rfl,e0.bare,Un.kept hk,⟨_,x.toInCall.ns,fun i y v h1 h2 h3=>?_⟩,fun y c h=>⟨_,x.cell y c h⟩,e0.hok.fresh (ax _),fun y c h=>?_,fun p hp=>absurd (show p∈([]:List (ak×dm)) from hp) (by simp),e0.hok.kept hk,?_⟩
 ·exact name_of_addr x.apart (gB h1) (gB h2)
 ·have hy:scope.names.lookup y=some .cell\/scope.names.lookup y=some .free:=hy
  rcases hy with hy | hy
  ·exact wx hy
  ·exact absurd rfl (S.nofree _ (gB hy))
 ·exact i6 (x.above y c (gB h))
 ·have hi:i<vs.length:=by
   unfold start at h2
   by_cases hi:i<vs.length
   ·exact hi
   ·rw [cM (by simpa using hi)] at h2
    rw [jS] at h2
    split at h2<;>cases h2
  have ha:vs[i]?=some v:=by
   unfold start at h2
   rw [dE (by simpa using hi),ay] at h2
   cases e:vs[i]? with
   | none=>rw [e] at h2;cases h2
   | some a=>rw [e] at h2;cases h2;rfl
  obtain ⟨u,hu,rv⟩:=r.get ha
  have hp:ps[i]?=some y:=by
   rw [<- S.pre,List.getElem?_take_of_lt (by lia)];exact h1
  have ndP:ps.Nodup:=by rw [<- S.pre];exact S.nd.sublist (List.take_sublist _ _)
  refine ⟨u,rv,?_⟩
  rcases S.par y (bI hp) with k | k
  ·exact .inl ⟨k,sY ndP hp hu k⟩
  ·obtain ⟨c,e⟩:=wx (n:=s.heap.objs.size+1) k
   refine .inr ⟨.inl k,c,e,?_⟩
   have q:=x.cell y c e
   rw [ub ndP hp hu (by show scope.names.lookup y≠_;rw [k];decide)] at q
   exact q
 ·exact e0.hok.fresh (i6 (x.above y c (gB h)))
 ·unfold start
  show _=N.length
  rw [aN,ab,kM]
  lia
theorem JJ {CX:CXT} {P:bA} {w:cb} {K:ac} {mg:bH->Option ae} {base:cr} {k:Nat} {f:ak} {name qual:bH} {params:iN} {body:List cV} {scope:dO} {dV kV doc pm cdv ct oc:ae} {an od:Option ak}
 {osl:Array (Option ae)} {N ps:List bH} {sp:Sp} (lk:K.lookup f=some ⟨oc,od,.func (bc name qual params body scope dV kV doc pm an cdv ct),osl⟩) (hcd:bj K cdv qual=true) (S:gQ N ps scope)
 (len:∀ vs H Q E,sp vs H Q E->vs.length=ps.length)
 (hbody:∀ (A:bK) (outer:List pQ) (s:ai) (H:Hp) (vs:List V) (Q:VK) (E:XK),jm k (A.deeper (fA qual scope s.heap.objs.size f cdv))->sp vs H Q E ->
   ∃ t,PSs (wm CX P w K mg base N qual scope f cdv A outer s H E) body t/\t { nx:=fun _ H'=>Q .non H',rt:=Q } (start N vs) H) :
 vO P w K mg base CX (k+1) f (bc name qual params body scope dV kV doc pm an cdv ct) ps sp:=by
 refine ⟨len,fun A outer s H args us vs Q E hr e0 hb r hsp=>?_⟩
 have hl:=len _ _ _ _ hsp
 have KX:K.In s.heap:=e0.mod.kin.keeps fun b o e=>(e0.bs b o e).1
 have lim:s.heap.NoLimit:=e0.mod.nolimit.keeps fun b o e=>(e0.bs b o e).1
 have hkind:∀ y∈ps.zip us,scope.names.lookup y.1=some .local\/(scope.names.lookup y.1=some .cell/\((eB (s.heap.objs.size+1) scope.names []).lookup y.1).isSome=true):=fun ⟨n,v⟩ hy=>by
  rcases S.par n (pL hy).1 with q | q
  ·exact .inl q
  ·exact .inr ⟨q,gM _ _ _ (.inl q)⟩
 refine codeAny_call_function hr.depth (KX _ _ lk) rfl S.co S.gen rfl (PySem.W.codeRec_of KX hcd) (hb _ _ _ _ ?_)
 refine wpAny_newFunctionEnv_cells S.kind hkind fun env he s1 x=>?_
 subst he
 refine ⟨lim.keeps x.toInCall.keep,codeAny_func ?_⟩
 obtain ⟨t,ht,hq⟩:=hbody A outer s H vs Q E (hr.deeper _) hsp
 have I:Inv (wm CX P w K mg base N qual scope f cdv A outer s H E) [] (start N vs) H s1:=zg S hr.hd e0 hl r x
 refine dz (ht [] s1 (start N vs) H _ I hq) (fun fl s' hs=>?_) fun e s' hs=>hs
 have fin:∀ {σ':St} {H':Hp} {v:V} {u:ae},Inv (wm CX P w K mg base N qual scope f cdv A outer s H E) [] σ' H' s'->gD v u->Q v H'->CE outer P w H s Q u s' :=
  fun {σ' H' v u} J rv q=>⟨v,H',J.os,J.bare,J.base,J.hok,rv,q⟩
 cases fl with
 | ret u =>
   obtain ⟨v,σ',H',J,rv,q⟩:=hs
   exact fin J rv q
 | next =>
   obtain ⟨σ',H',J,q⟩:=hs
   exact fin (v:=V.non) (u:=bC) J rfl q
 | brk =>
   obtain ⟨_,_,_,q⟩:=hs
   exact ck q
 | cont =>
   obtain ⟨_,_,_,q⟩:=hs
   exact ck q
section
variable {X:Cx} {x:bH} {p pos:e7} {e:aP} {es:List aP} {t:TA} {id T:String} {r:List V->Hp->VK->Prop}
def tCB (r:List V->Hp->VK->Prop) (t:TA):TE:=fun σ H Q=>t σ H fun vs H1=>r vs H1 Q
theorem CS (hc:lq X (.builtin id) r) (hg:Gl X x) (hm:X.mg x=none) (hv:iu x=some (.builtin id)) (ha:PA X (e::es) t) (hn:x≠"__name__":=by decide) (hdb:(x == ("__debug__" : bH))=false:=by decide)
 (he:ao (e::es) X.env=(false,b9 e X.env)::ao es X.env:=by rfl) (hpl:(cz pos (ao es X.env)).any (·.1)=false:=by rfl):PE X (.Call (.Name x p) (e::es) [] pos) (tCB r t):=by
 intro pins s σ H Q I h
 refine fM (nG I hg hm hv ?_ hn hdb)
 exact PyProof.Rows.callWith_builtin1 (thn (ha pos pins s σ H _ I h) fun us s1 ⟨vs,H1,I1,r1,q1⟩=>hc pins s1 σ H1 vs us Q I1 r1 q1) he hpl
theorem lY (hc:lq X (.type T) r) (hg:Gl X x) (hm:X.mg x=none) (hv:iu x=some (.type T)) (ha:PA X (e::es) t) (hn:x≠"__name__":=by decide) (hdb:(x == ("__debug__" : bH))=false:=by decide)
 (he:ao (e::es) X.env=(false,b9 e X.env)::ao es X.env:=by rfl) (hpl:(cz pos (ao es X.env)).any (·.1)=false:=by rfl):PE X (.Call (.Name x p) (e::es) [] pos) (tCB r t):=by
 intro pins s σ H Q I h
 refine fM (nG I hg hm hv ?_ hn hdb)
 exact fw (thn (ha pos pins s σ H _ I h) fun us s1 ⟨vs,H1,I1,r1,q1⟩=>hc pins s1 σ H1 vs us Q I1 r1 q1) he hpl
end
section
variable {κ:Type} [DecidableEq κ]
def nI (kvs:List (κ×V)) (k:κ):Option V:=(kvs.find? fun kv=>decide (kv.1=k)).map (·.2)
def lp (kvs:List (κ×V)) (k:κ) (v:V):List (κ×V) :=
 if (kvs.any fun kv=>decide (kv.1=k))=true then kvs.map (fun kv=>if kv.1=k then (kv.1,v) else kv) else kvs++[(k,v)]
theorem jQ {p:κ×V} {r:List (κ×V)} {k:κ} (e:p.1=k):nI (p::r) k=some p.2:=by simp [nI,gK,e]
theorem jN {p:κ×V} {r:List (κ×V)} {k:κ} (e:¬ p.1=k):nI (p::r) k=nI r k:=by simp [nI,gK,e]
theorem oj (k:κ):∀ kvs:List (κ×V),(kvs.any fun kv=>decide (kv.1=k))=(nI kvs k).isSome
 | []=>rfl
 | p::r=>by
   rw [jD]
   by_cases e:p.1=k
   ·simp only [jQ e,decide_eq_true e,Bool.true_or,wc]
   ·rw [jN e,decide_eq_false e,Bool.false_or];exact oj k r
theorem jP (kvs:List (κ×V)) (k:κ) (v:V):(lp kvs k v).length<=kvs.length+1:=by
 unfold lp
 split
 ·rw [ab];lia
 ·rw [aN,aG,cX];lia
theorem rC {kvs:List (κ×V)} {k:κ} (v:V) (h:nI kvs k=none):lp kvs k v=kvs++[(k,v)]:=by
 unfold lp
 rw [oj,h]
 exact if_neg (by decide)
theorem yN.isSome_eq {o:Option V} {u:Option ae} (r:yN o u):o.isSome=u.isSome:=by
 cases o with
 | none=>cases u with
   | none=>rfl
   | some _=>exact (show False from r).elim
 | some _=>cases u with
   | none=>exact (show False from r).elim
   | some _=>rfl
theorem yN.getD {o:Option V} {u:Option ae} {d:V} {d':ae} (r:yN o u) (rd:gD d d'):gD (o.getD d) (u.getD d'):=by
 cases o with
 | none=>cases u with
   | none=>exact rd
   | some _=>exact (show False from r).elim
 | some _=>cases u with
   | none=>exact (show False from r).elim
   | some _=>exact r
theorem KV.val {kvs:List (κ×V)} {vs:List (κ×ae)} (r:KV kvs vs) (k:κ):yN (nI kvs k) (pV vs k):=by
 unfold KV at r
 induction r with
 | nil=>exact ja
 | @cons p q ps qs h t ih =>
   obtain ⟨h1,h2⟩:=h
   by_cases e:p.1=k
   ·have e':q.1=k:=h1.symm.trans e
    have b:pV (q::qs) k=some q.2:=by simp [pV,gK,e']
    rw [jQ e,b];exact h2
   ·have e':¬ q.1=k:=fun z=>e (h1.trans z)
    have b:pV (q::qs) k=pV qs k:=by simp [pV,gK,e']
    rw [jN e,b];exact ih
theorem KV.any {kvs:List (κ×V)} {vs:List (κ×ae)} (r:KV kvs vs) (k:κ):(kvs.any fun kv=>decide (kv.1=k))=vs.any fun kv=>decide (kv.1=k):=by
 unfold KV at r
 induction r with
 | nil=>rfl
 | cons h t ih=>rw [jD,jD,ih,h.1]
theorem KV.repl {kvs:List (κ×V)} {vs:List (κ×ae)} (r:KV kvs vs) (k:κ) {y:V} {u:ae} (ry:gD y u) :
 KV (kvs.map fun kv=>if kv.1=k then (kv.1,y) else kv) (vs.map fun kv=>if kv.1=k then (kv.1,u) else kv):=by
 unfold KV at r ⊢
 induction r with
 | nil=>exact .nil
 | @cons p q ps qs h t ih =>
   rw [aw,aw]
   refine .cons ?_ ih
   obtain ⟨h1,h2⟩:=h
   by_cases e:p.1=k
   ·rw [if_pos e,if_pos (h1.symm.trans e)];exact ⟨h1,ry⟩
   ·rw [if_neg e,if_neg (fun z=>e (h1.trans z))];exact ⟨h1,h2⟩
theorem KV.put {kvs:List (κ×V)} {vs:List (κ×ae)} (r:KV kvs vs) (k:κ) {y:V} {u:ae} (ry:gD y u):KV (lp kvs k y) (stored vs k u):=by
 unfold lp stored
 rw [r.any k]
 by_cases e:(vs.any fun kv=>decide (kv.1=k))=true
 ·rw [if_pos e,if_pos e];exact r.repl k ry
 ·rw [if_neg e,if_neg e];exact Paired.snoc r ⟨rfl,ry⟩
theorem KV.keys {kvs:List (κ×V)} {vs:List (κ×ae)} (r:KV kvs vs):kvs.map (·.1)=vs.map (·.1):=by
 unfold KV at r
 induction r with
 | nil=>rfl
 | cons h t ih=>rw [aw,aw,ih,h.1]
theorem KV.length {kvs:List (κ×V)} {vs:List (κ×ae)} (r:KV kvs vs):kvs.length=vs.length:=ce r
end
theorem uB {P:bA} {w:cb} {k:Key} {u:ae} (r:gD (kV k) u):(cI P w).is k u=true:=by
 cases k with
 | inl i=>obtain ⟨t,e⟩:=(show ∃ t,u=eR i t from r);subst e;exact vX P w i t
 | inr x=>obtain ⟨t,e⟩:=(show ∃ t,u=sJ x t from r);subst e;exact ve P w x t
theorem tT {P:bA} {w:cb}:∀ {ks:List Key} {us:List ae},eE (ks.map kV) us->ItemsAre (cI P w) ks us
 | [],_,r=>by rw [iZ] at r;cases r;exact .nil
 | k::ks,_,r=>by
   rw [aw] at r
   cases r with
   | cons h t=>exact .cons (uB h) (tT t)
abbrev KT (H:Hp):List (List Key×V)->List (List Key×ak×ae)->Prop:=oq fun p q=>p.1=q.1/\H q.2.1=some (.tup (p.1.map kV))/\gD p.2 q.2.2
theorem KT.val {H:Hp} {kvs:List (List Key×V)} {xs:List (List Key×ak×ae)} (r:KT H kvs xs) (k:List Key):yN (nI kvs k) ((uS xs k).map (·.2)):=by
 induction r with
 | nil=>exact ja
 | @cons p q ps qs h t ih =>
   obtain ⟨h1,_,h2⟩:=h
   by_cases e:p.1=k
   ·have e':q.1=k:=h1.symm.trans e
    have b:uS (q::qs) k=some q.2:=by simp [uS,gK,e']
    rw [jQ e,b];exact h2
   ·have e':¬ q.1=k:=fun z=>e (h1.trans z)
    have b:uS (q::qs) k=uS qs k:=by simp [uS,gK,e']
    rw [jN e,b];exact ih
theorem KT.repl {H:Hp} {kvs:List (List Key×V)} {xs:List (List Key×ak×ae)} (r:KT H kvs xs) (k:List Key) {y:V} {u:ae} (ry:gD y u) :
 KT H (kvs.map fun kv=>if kv.1=k then (kv.1,y) else kv) (xs.map (putAt k u)):=by
 induction r with
 | nil=>exact .nil
 | @cons p q ps qs h t ih =>
   rw [aw,aw]
   refine .cons ?_ ih
   obtain ⟨h1,h2,h3⟩:=h
   unfold putAt
   by_cases e:p.1=k
   ·rw [if_pos e,if_pos (h1.symm.trans e)];exact ⟨h1,h2,ry⟩
   ·rw [if_neg e,if_neg (fun z=>e (h1.trans z))];exact ⟨h1,h2,h3⟩
theorem KT.put {H:Hp} {kvs:List (List Key×V)} {xs:List (List Key×ak×ae)} (r:KT H kvs xs) (k:List Key) {b:ak} {y:V} {u:ae} (hb:H b=some (.tup (k.map kV))) (ry:gD y u) :
 KT H (lp kvs k y) (storedH xs k b u):=by
 have e:(kvs.any fun kv=>decide (kv.1=k))=(uS xs k).isSome:=by
  rw [oj,(r.val k).isSome_eq,mI]
 unfold lp storedH
 rw [e]
 by_cases q:(uS xs k).isSome=true
 ·rw [if_pos q,if_pos q];exact r.repl k ry
 ·rw [if_neg q,if_neg q];exact Paired.snoc r ⟨rfl,hb,ry⟩
theorem KT.keeps {H H':Hp} {kvs:List (List Key×V)} {xs:List (List Key×ak×ae)} (r:KT H kvs xs) (ht:∀ b ys,H b=some (.tup ys)->H' b=some (.tup ys)):KT H' kvs xs :=
 Paired.mapP r fun _ _ z=>⟨z.1,ht _ _ z.2.1,z.2.2⟩
section
variable {P:bA} {w:cb} {H:Hp} {h:cr} {a:ak}
theorem Kj {u:HO} (ok:HOk P w H h) (e:Rd H a u):gO P w H h a u:=e.ok ok
theorem tm {kvs:List (Key×V)} (ok:HOk P w H h) (e:Rd H a (.dK kvs)):kvs.length<=aL/\(a == dh)=false/\∃ vs,KV kvs vs/\h.DictOf (cI P w) a vs :=
 show gO P w H h a (.dK kvs) from Kj ok e
theorem Ju {kvs:List (Key×V)} (ok:HOk P w H h) (e:H a=some (.dK kvs)):kvs.length<=aL/\(a == dh)=false/\∃ vs,KV kvs vs/\h.DictOf (cI P w) a vs:=tm ok (.inl e)
theorem lX {ks:List Key} (ok:HOk P w H h) (e:H a=some (.tup (ks.map kV))):(jC (cI P w)).is h ks a:=by
 obtain ⟨_,its,r,o,h1,h2,n,h3⟩:=(show gO P w H h a (.tup (ks.map kV)) from ok a _ e)
 exact ⟨o,its.toArray,n,h1,h2,h3,by simpa using tT r⟩
theorem v5 {kvs:List (List Key×V)} (ok:HOk P w H h) (e:Rd H a (.dT kvs)):kvs.length<=aL/\(a == dh)=false /\
 ∃ xs,KT H kvs xs/\h.DictOfH (jC (cI P w)) a xs:=by
 obtain ⟨z,y,xs,r,o,es,ep,h1,h2,h3,h4,h5⟩:=(show gO P w H h a (.dT kvs) from Kj ok e)
 refine ⟨z,y,xs,r,o,es,ep,h1,h2,h3,h4,fun x hx=>?_,h5⟩
 have all:∀ {l:List (List Key×V)} {m:List (List Key×ak×ae)},KT H l m->∀ x∈m,(jC (cI P w)).is h x.1 x.2.1:=by
  intro l m q
  induction q with
  | nil=>intro x hx;exact nomatch hx
  | @cons p q ps qs hq t ih =>
    intro x hx
    rcases am.mp hx with e | hx
    ·subst e
     exact lX ok (by rw [<- hq.1];exact hq.2.1)
    ·exact ih x hx
 exact all r x hx
theorem JN {kvs:List (List Key×V)} (ok:HOk P w H h) (e:H a=some (.dT kvs)):kvs.length<=aL/\(a == dh)=false /\
 ∃ xs,KT H kvs xs/\h.DictOfH (jC (cI P w)) a xs:=v5 ok (.inl e)
end
def rW (H:Hp) (a:ak) (y:V) (r:Option V):Prop :=
 (∃ kvs k,Rd H a (.dK kvs)/\y=kV k/\r=nI kvs k)\/∃ kvs k b,Rd H a (.dT kvs)/\y=.ref b/\H b=some (.tup (k.map kV))/\r=nI kvs k
def Dy (H:Hp) (a:ak) (y v:V) (H':Hp):Prop :=
 (∃ kvs k,H a=some (.dK kvs)/\y=kV k/\kvs.length<aL/\H'=upd H a (.dK (lp kvs k v))) \/
 ∃ kvs k b,H a=some (.dT kvs)/\y=.ref b/\H b=some (.tup (k.map kV))/\kvs.length<aL/\H'=upd H a (.dT (lp kvs k v))
theorem rW.k {H:Hp} {a:ak} {kvs:List (Key×V)} {k:Key} (e:H a=some (.dK kvs)):rW H a (kV k) (nI kvs k):=.inl ⟨kvs,k,.inl e,rfl,rfl⟩
theorem Dy.k {H:Hp} {a:ak} {kvs:List (Key×V)} {k:Key} {v:V} (e:H a=some (.dK kvs)) (hl:kvs.length<aL):Dy H a (kV k) v (upd H a (.dK (lp kvs k v))):=.inl ⟨kvs,k,e,rfl,hl,rfl⟩
section
variable {X:Cx} {pins:List (ak×dm)} {σ:St} {H:Hp} {s:ai} {a:ak} {y v:V} {u r:ae} {o:Option V} {A:bK} {E:ae->ai->Prop}
theorem Inv.big (I:Inv X pins σ H s):dh<s.heap.objs.size:=by
 have h:aR<s.heap.objs.size:=(I.mod.glob.keeps I.bk).lt
 exact Nat.lt_trans (by decide) h
theorem Bk {Q:ae->ai->Prop} (hu:A.units+1<cx) (I:Inv X pins σ H s) (g:rW H a y (some v)) (ry:gD y u) (h:∀ w' s',Inv X pins σ H s'->gD v w'->Q w' s') :
 aM (be X.prog X.w) A (kn (.ref a) u) Q E s:=by
 rcases g with ⟨kvs,k,e,ey,l⟩ | ⟨kvs,k,b,e,ey,eb,l⟩
 ·subst ey
  obtain ⟨z,hd,vs,rel,dd⟩:=tm I.hok e
  obtain ⟨w',hw,rw'⟩:=yN.some_of (v:=v) (o:=pV vs k) (by rw [l];exact rel.val k)
  exact wpAny_getItem_of (uB ry) dd.mapOf hw (h w' _ (I.tok _) rw')
 ·subst ey
  cases (show u=bN b from ry)
  obtain ⟨z,hd,xs,rel,dd⟩:=v5 I.hok e
  obtain ⟨w',hw,rw'⟩:=yN.some_of (v:=v) (o:=(uS xs k).map (·.2)) (by rw [l];exact rel.val k)
  obtain ⟨p,hp,hp2⟩:=sK.mp hw
  refine wpAny_getItem_heap (g8 hu) (lX I.hok eb) dd hp ?_
  rw [hp2]
  exact h w' _ (I.tok _) rw'
theorem Lr {Q:ae->ai->Prop} (hu:A.units+1<cx) (I:Inv X pins σ H s) (g:rW H a y o) (ry:gD y u) (h:∀ s',Inv X pins σ H s'->Q (.bool o.isSome) s') :
 aM (be X.prog X.w) A (dM .In u (.ref a)) Q E s:=by
 rcases g with ⟨kvs,k,e,ey,l⟩ | ⟨kvs,k,b,e,ey,eb,l⟩
 ·subst ey
  obtain ⟨z,hd,vs,rel,dd⟩:=tm I.hok e
  refine wpAny_in_of (uB ry) hd dd.mapOf ?_
  rw [<- (rel.val k).isSome_eq,<- l]
  exact h _ (I.tok _)
 ·subst ey
  cases (show u=bN b from ry)
  obtain ⟨z,hd,xs,rel,dd⟩:=v5 I.hok e
  refine wpAny_in_heap (g8 hu) (lX I.hok eb) hd dd ?_
  have q:=(rel.val k).isSome_eq
  rw [mI] at q
  rw [<- q,<- l]
  exact h _ (I.tok _)
theorem BB {Q:ae->ai->Prop} (hu:A.units+1<cx) (I:Inv X pins σ H s) (g:rW H a y o) (ry:gD y u) (h:∀ s',Inv X pins σ H s'->Q (.bool (!o.isSome)) s') :
 aM (be X.prog X.w) A (dM .NotIn u (.ref a)) Q E s:=by
 rcases g with ⟨kvs,k,e,ey,l⟩ | ⟨kvs,k,b,e,ey,eb,l⟩
 ·subst ey
  obtain ⟨z,hd,vs,rel,dd⟩:=tm I.hok e
  refine wpAny_notIn_of (uB ry) hd dd.mapOf ?_
  rw [<- (rel.val k).isSome_eq,<- l]
  exact h _ (I.tok _)
 ·subst ey
  cases (show u=bN b from ry)
  obtain ⟨z,hd,xs,rel,dd⟩:=v5 I.hok e
  refine wpAny_notIn_heap (g8 hu) (lX I.hok eb) hd dd ?_
  have q:=(rel.val k).isSome_eq
  rw [mI] at q
  rw [<- q,<- l]
  exact h _ (I.tok _)
theorem sB {h':cr} {t':Nat} {ob:HO} (I:Inv X pins σ H s) (mu:Mut (H a)) (hs:kj a s.heap h') (he:∃ q,h'.get? a=some q) (new:gO X.prog X.w (upd H a ob) h' a ob) :
 Inv X pins σ (upd H a ob) { s with heap:=h',toks:=t' } :=
 I.write (x:=a) (e:=a) mu (.inl rfl) (fun b q hb z=>(hs.2 b hb).trans z) he new
theorem Br {P:bA} {w:cb} {H':Hp} {h':cr} {kvs:List (Key×V)} {vs:List (Key×ae)} (z:kvs.length<=aL) (hd:(a == dh)=false) (rel:KV kvs vs) (dd:h'.DictOf (cI P w) a vs) :
 gO P w H' h' a (.dK kvs):=⟨z,hd,vs,rel,dd⟩
theorem zj {H':Hp} {Q:Unit->ai->Prop} (hu:A.units+1<cx) (I:Inv X pins σ H s) (g:Dy H a y v H') (ry:gD y u) (rv:gD v r) (h:∀ s',Inv X pins σ H' s'->Q () s') :
 aM (be X.prog X.w) A (setItem (.ref a) u r) Q E s:=by
 rcases g with ⟨kvs,k,e,ey,l,eH⟩ | ⟨kvs,k,b,e,ey,eb,l,eH⟩
 ·subst ey eH
  obtain ⟨z,hd,vs,rel,dd⟩:=Ju I.hok e
  have hz:vs.length<=aL:=by rw [<- rel.length];exact z
  have hl:(lp kvs k v).length<=aL:=by have:=jP kvs k v;lia
  refine wpAny_setItem_pairs (hsz:=hz) (uB ry) dd fun h' dd' hs=>h _ ?_
  have he:∃ q,h'.get? a=some q:=let ⟨q,_,_,hq,_⟩:=dd';⟨q,hq⟩
  exact sB I (by rw [e];exact ja) hs he (Br hl hd (rel.put k rv) dd')
 ·subst ey eH
  cases (show u=bN b from ry)
  obtain ⟨z,hd,xs,rel,dd⟩:=JN I.hok e
  have hz:xs.length<=aL:=by rw [<- ce rel];exact z
  have hl:(lp kvs k v).length<=aL:=by have:=jP kvs k v;lia
  refine wpAny_setItem_heap (hsz:=hz) (g8 hu) (lX I.hok eb) dd fun h' dd' hs=>h _ ?_
  obtain ⟨q,es,ep,hq,h2,h3,h4,_,h5⟩:=dd'
  refine sB I (by rw [e];exact ja) hs ⟨q,hq⟩ ⟨hl,hd,_,(rel.put k eb rv).keeps fun c ys ec=>?_,q,es,ep,hq,h2,h3,h4,h5⟩
  rw [bq (Iq ec e (fun z=>nomatch z))]
  exact ec
end
section
variable {X:Cx} {pins:List (ak×dm)} {σ:St} {H:Hp} {s:ai} {a:ak} {kvs:List (Key×V)} {k:Key} {u:ae} {A:bK} {E:ae->ai->Prop}
theorem K5 {Q:ae->ai->Prop} (I:Inv X pins σ H s) (e:Rd H a (.dK kvs)) (h:∀ t s',Inv X pins σ H s'->Q (.int kvs.length t) s'):aM (be X.prog X.w) A (call (.builtin "len") [.ref a]) Q E s:=by
 obtain ⟨z,hd,vs,rel,dd⟩:=tm I.hok e
 refine call_len_dict hd dd (by rw [<- rel.length];rw [bE] at z;lia) ?_
 rw [<- rel.length]
 exact h _ _ (I.tok _)
end
def K1 (i:aP):Prop:=∀ ov iv,sM i false ov iv=operate [ov,iv] (kn ov iv)
theorem Ht {prog:bA} {w:cb} {A:bK} {E:ae->ai->Prop} {s:ai} {env:pQ} {value slice:aP} {pos:e7} {T id:String} {Q:ae->ai->Prop}
 (hl:typeLookup (.type T) "__getitem__" = pure (some (.builtin id))) (hs:K1 slice)
 (h:aM (be prog w) A (b9 value env) (fun o s₁=>aM (be prog w) A (b9 slice env) (fun i s₂=>s₂.TypeIs o T/\aM (be prog w) A (kn o i) Q E s₂) E s₁) E s) :
 aM (be prog w) A (b9 (.Subscript value slice pos) env) Q E s:=by
 refine Subscript_ (dz h (fun o s₁ h₁=>dz h₁ (fun i s₂ h₂=>?_) fun _ _ x=>x) fun _ _ x=>x)
 obtain ⟨hT,h₂⟩:=h₂
 unfold xH
 refine aa ?_
 rw [getitemInPython_of_ne hT.not_modules]
 refine aa (wpAny_specialOf hT hl ?_)
 have fin:aM (be prog w) A (sM slice false o i) (fun r s₃=>aM (be prog w) A (letTemporaryGo value o r>>=fun _=>pure r) Q E s₃) E s₂:=by
  rw [hs o i]
  exact wpAny_operating (dz h₂ (fun r s₃ h₃=>aa (wpAny_letTemporaryGo (al h₃))) fun _ _ x=>x)
 first
  | exact al (aa fin)
  | exact aa (al (aa fin))
  | exact aa fin
theorem vv {X:Cx} {pins:List (ak×dm)} {σ:St} {H:Hp} {s:ai} {a:ak} {y:V} {o:Option V} (I:Inv X pins σ H s) (g:rW H a y o):s.TypeIs (.ref a) "dict":=by
 rcases g with ⟨kvs,k,e,_,_⟩ | ⟨kvs,k,b,e,_,_,_⟩
 ·obtain ⟨_,_,vs,_,dd⟩:=tm I.hok e
  exact dd.typeIs
 ·obtain ⟨_,_,xs,_,dd⟩:=v5 I.hok e
  exact dd.typeIs
def CH (td ty:TE):TE:=fun σ H Q=>td σ H fun x H1=>ty σ H1 fun y H2=>∃ a v,x=.ref a/\rW H2 a y (some v)/\Q v H2
def LC (ty td:TE):TE:=fun σ H Q=>ty σ H fun y H1=>td σ H1 fun x H2=>∃ a o,x=.ref a/\rW H2 a y o/\Q (.bl o.isSome) H2
def vy (ty td:TE):TE:=fun σ H Q=>ty σ H fun y H1=>td σ H1 fun x H2=>∃ a o,x=.ref a/\rW H2 a y o/\Q (.bl (!o.isSome)) H2
def v6 (td ty tv:TE):TS:=fun D σ H=>tv σ H fun v H1=>td σ H1 fun x H2=>ty σ H2 fun y H3=>∃ a H4,x=.ref a/\Dy H3 a y v H4/\D.nx σ H4
section
variable {X:Cx} {o i e value:aP} {pos pos' tpos:e7} {td ty tv:TE}
theorem vN (hu:X.A.units+1<cx) (ho:PE X o td) (hi:PE X i ty) (hs:K1 i):PE X (.Subscript o i pos) (CH td ty):=by
 intro pins s σ H Q I h
 refine Ht PySem.F.slot_dict_getitem.lookup hs (thn (ho pins s σ H _ I h) fun u s1 ⟨x,H1,I1,rx,q1⟩=>thn (hi pins s1 σ H1 _ I1 q1) fun iv s2 ⟨y,H2,I2,ry,a,v,ex,g,q2⟩=>?_)
 subst ex
 obtain rfl:u=bN a:=rx
 exact ⟨vv I2 g,Bk hu I2 g ry fun w' s3 I3 rw'=>⟨v,H2,I3,rw',q2⟩⟩
theorem Ir (hu:X.A.units+1<cx) (hi:PE X i ty) (ho:PE X o td):PC X .In i o (LC ty td):=by
 intro pins s σ H Q I h
 refine thn (hi pins s σ H _ I h) fun iv s1 ⟨y,H1,I1,ry,q1⟩=>thn (ho pins s1 σ H1 _ I1 q1) fun u s2 ⟨x,H2,I2,rx,a,ov,ex,g,q2⟩=>?_
 subst ex
 obtain rfl:u=bN a:=rx
 exact Lr hu I2 g ry fun s3 I3=>⟨.bl ov.isSome,H2,I3,rfl,q2⟩
theorem tL (hu:X.A.units+1<cx) (hi:PE X i ty) (ho:PE X o td):PC X .NotIn i o (vy ty td):=by
 intro pins s σ H Q I h
 refine thn (hi pins s σ H _ I h) fun iv s1 ⟨y,H1,I1,ry,q1⟩=>thn (ho pins s1 σ H1 _ I1 q1) fun u s2 ⟨x,H2,I2,rx,a,ov,ex,g,q2⟩=>?_
 subst ex
 obtain rfl:u=bN a:=rx
 exact BB hu I2 g ry fun s3 I3=>⟨.bl (!ov.isSome),H2,I3,rfl,q2⟩
theorem oX (hu:X.A.units+1<cx) (ho:PE X o td) (hi:PE X i ty) (hv:PE X value tv) (hs:ff value (some (.Subscript o i pos')) pos.line X.env=pure false) :
 PS X (.Assign [.Subscript o i pos'] value pos) (v6 td ty tv):=by
 intro pins s σ H D I h
 refine wpAny_Assign_Subscript (thn (hv pins s σ H _ I h) fun r s1 ⟨v,H1,I1,rv,q1⟩=>thn (ho pins s1 σ H1 _ I1 q1) fun u s2 ⟨x,H2,I2,rx,q2⟩=>thn (hi pins s2 σ H2 _ I2 q2) fun iv s3 ⟨y,H3,I3,ry,a,H4,ex,g,q3⟩=>?_) hs
 subst ex
 obtain rfl:u=bN a:=rx
 exact zj hu I3 g ry rv fun s4 I4=>⟨σ,H4,I4,q3⟩
end
theorem xq {P:bA} {w:cb} {H:Hp} (h:cr) (hb:dh<h.objs.size):gO P w H (h.push { cls:=.type "dict",data:=.dict #[] }) h.objs.size (.dK []) :=
 ⟨bW _,beq_eq_false_iff_ne.mpr (Ne.symm (bu hb)),[],.nil,uL h⟩
theorem w9 {P:bA} {w:cb} {H:Hp} (h:cr) (hb:dh<h.objs.size):gO P w H (h.push { cls:=.type "dict",data:=.dict #[] }) h.objs.size (.dT []) :=
 ⟨bW _,beq_eq_false_iff_ne.mpr (Ne.symm (bu hb)),[],.nil,_,#[],0,aH _ rfl,⟨rfl,rfl,rfl⟩,rfl,rfl,D4⟩
def tj:TE:=fun _ H Q=>∀ p,H p=none->Q (.ref p) (upd H p (.dK []))
def Jp:TE:=fun _ H Q=>∀ p,H p=none->Q (.ref p) (upd H p (.dT []))
section
variable {X:Cx} {pos:e7}
theorem mG:PE X (.Dict [] [] pos) tj:=fun pins s σ H Q I h =>
 wpAny_Dict_empty ⟨.ref s.heap.objs.size,_,I.laid (a:=s.heap.objs.size) (o:=.dK []) (t':=s.toks) (fun _ _ q=>af _ q) (ax _) (xq s.heap I.big),rfl,h _ (I.hok.fresh (ax _))⟩
theorem Ds:PE X (.Dict [] [] pos) Jp:=fun pins s σ H Q I h =>
 wpAny_Dict_empty ⟨.ref s.heap.objs.size,_,I.laid (a:=s.heap.objs.size) (o:=.dT []) (t':=s.toks) (fun _ _ q=>af _ q) (ax _) (w9 s.heap I.big),rfl,h _ (I.hok.fresh (ax _))⟩
end
def Bv:List (TE×TE)->St->Hp->(List (V×V)->Hp->Prop)->Prop
 | [],_,H,Q=>Q [] H
 | (tk,tv)::r,σ,H,Q=>tk σ H fun x H1=>tv σ H1 fun y H2=>Bv r σ H2 fun ps H3=>Q ((x,y)::ps) H3
abbrev VV:List (V×V)->List (ae×ae)->Prop:=oq fun p q=>gD p.1 q.1/\gD p.2 q.2
def PPs (X:Cx) (pos:e7) (keys:List (Option aP)) (values:List aP) (trs:List (TE×TE)):Prop :=
 ∀ (pins:List (ak×dm)) (s:ai) (σ:St) (H:Hp) (Q:List (V×V)->Hp->Prop),Inv X pins σ H s->Bv trs σ H Q ->
   aM (be X.prog X.w) X.A (evalPairs (qX keys values X.env pos)) (fun vs s'=>∃ ps H',Inv X pins σ H' s'/\VV ps vs/\Q ps H') X.xe s
theorem AT {X:Cx} {pos:e7}:PPs X pos [] [] []:=fun pins s σ H Q I h=>pairTrees_nil_walk ⟨[],H,I,.nil,h⟩
theorem wQ {X:Cx} {pos:e7} {k v:aP} {ks:List (Option aP)} {vs:List aP} {tk tv:TE} {trs:List (TE×TE)} (hk:PE X k tk) (hv:PE X v tv) (hr:PPs X pos ks vs trs) :
 PPs X pos (some k::ks) (v::vs) ((tk,tv)::trs):=fun pins s σ H Q I h =>
 pairTrees_cons_walk (thn (hk pins s σ H _ I h) fun u s1 ⟨x,H1,I1,rx,q1⟩=>thn (hv pins s1 σ H1 _ I1 q1) fun w2 s2 ⟨y,H2,I2,ry,q2⟩ =>
  thn (hr pins s2 σ H2 _ I2 q2) fun ws s3 ⟨ps,H3,I3,rel,q3⟩=>⟨(x,y)::ps,H3,I3,.cons ⟨rx,ry⟩ rel,q3⟩)
def ux (kvs more:List (Key×V)):List (Key×V):=more.foldl (fun acc kv=>lp acc kv.1 kv.2) kvs
theorem KV.merge:∀ {more:List (Key×V)} {rs:List (Key×ae)} {kvs:List (Key×V)} {vs:List (Key×ae)},KV more rs->KV kvs vs->KV (ux kvs more) (merged vs rs):=by
 intro more rs kvs vs r
 unfold KV at r
 induction r generalizing kvs vs with
 | nil=>intro q;exact q
 | @cons p q ps qs h t ih =>
   intro r0
   have e:KV (lp kvs p.1 p.2) (stored vs q.1 q.2):=by
    have:=r0.put p.1 h.2
    rw [<- h.1];exact this
   exact ih e
theorem mj:∀ (more kvs:List (Key×V)),(ux kvs more).length<=kvs.length+more.length
 | [],kvs=>by show kvs.length<=kvs.length+0;lia
 | p::r,kvs=>by
   have h1:=mj r (lp kvs p.1 p.2)
   have h2:=jP kvs p.1 p.2
   show (ux (lp kvs p.1 p.2) r).length<=_
   rw [aG];lia
theorem qM {P:bA} {w:cb}:∀ {kvs:List (Key×V)} {ws:List (ae×ae)},VV (kvs.map fun kv=>(kV kv.1,kv.2)) ws->∃ rs,Carries (cI P w) ws rs/\KV kvs rs
 | [],_,r=>by rw [iZ] at r;cases r;exact ⟨[],ja,.nil⟩
 | p::kvs,_,r=>by
   rw [aw] at r
   cases r with
   | @cons a b as bs h t =>
     obtain ⟨rs,c,q⟩:=qM (P:=P) (w:=w) t
     obtain ⟨b1,b2⟩:=b
     exact ⟨(p.1,b2)::rs,⟨uB h.1,rfl,c⟩,.cons ⟨rfl,h.2⟩ q⟩
def KU (trs:List (TE×TE)):TE:=fun σ H Q=>∀ p,H p=none->Bv trs σ (upd H p (.dK [])) fun ps H2=>H2 p=some (.dK [])/\∃ kvs:List (Key×V),ps=kvs.map (fun kv=>(kV kv.1,kv.2))/\kvs.length<=15/\Q (.ref p) (upd H2 p (.dK (ux [] kvs)))
theorem Fs {X:Cx} {pos:e7} {keys:List (Option aP)} {values:List aP} {trs:List (TE×TE)} (h:PPs X pos keys values trs) (hall:keys.all (·.isSome)=true) (hl:keys.length=values.length) (h0:keys≠[])
 (h15:keys.length<=15):PE X (.Dict keys values pos) (KU trs):=by
 intro pins s σ H Q I q
 have hn:=I.hok.fresh (ax s.heap.objs.size)
 have I1:=I.laid (a:=s.heap.objs.size) (o:=.dK []) (h':=s.heap.push { cls:=.type "dict",data:=.dict #[] }) (t':=s.toks) (fun _ _ q=>af _ q) (ax _) (xq s.heap I.big)
 refine wpAny_Dict_walk (knd:=cI X.prog X.w) hall hl h0 h15 (thn (h pins _ σ _ _ I1 (q _ hn)) fun ws s2 ⟨ps,H2,I2,rel,e,kvs,ep,lk,q2⟩=>?_)
 subst ep
 obtain ⟨rs,c,rk⟩:=qM (P:=X.prog) (w:=X.w) rel
 obtain ⟨z,hd,vs0,r0,dd⟩:=Ju I2.hok e
 cases r0
 refine ⟨rs,c,dd,fun h' dd' hs=>⟨.ref s.heap.objs.size,_,?_,rfl,q2⟩⟩
 have hz:(ux [] kvs).length<=aL:=by
  have h1:=mj kvs []
  rw [cX] at h1
  rw [bE];lia
 have he:∃ q,h'.get? s.heap.objs.size=some q:=let ⟨q,_,_,hq,_⟩:=dd';⟨q,hq⟩
 exact sB I2 (by rw [e];exact ja) hs he (Br hz hd (rk.merge .nil) dd')
structure M2 (X:Cx) (o:aP) (m:bH) (apos:e7) (e f:aP) (cpos:e7):Prop where
 base:gk o m X.env (b9 o X.env)=b9 o X.env
 few:((cz cpos (ao [e,f] X.env)).all (fun x=>!x.1)&&(lh cpos (h8 [] X.env)).all (fun x=>x.1.isSome)
  && decide (([e,f]:List aP).length+([]:List i5).length+(if ([]:List i5).isEmpty then 0 else 1)<30))=true
 line:(apos.endLine == cpos.line)=true
 trees:cz cpos (ao [e,f] X.env)=[(false,b9 e X.env),(false,b9 f X.env)]
def IsD (H:Hp) (a:ak):Prop:=(∃ kvs,Rd H a (.dK kvs))\/∃ kvs,Rd H a (.dT kvs)
theorem El {X:Cx} {pins:List (ak×dm)} {σ:St} {H:Hp} {s:ai} {a:ak} (I:Inv X pins σ H s) (d:IsD H a) :
 s.TypeIs (.ref a) "dict"/\(∀ b,bN a=.ref b->∃ ob,s.heap.get? b=some ob/\ob.dict=none)/\(a == dh)=false:=by
 rcases d with ⟨kvs,e⟩ | ⟨kvs,e⟩
 ·obtain ⟨_,hd,vs,_,dd⟩:=tm I.hok e
  refine ⟨dd.typeIs,fun b q=>?_,hd⟩
  cases q
  obtain ⟨ob,_,_,h1,h2,_⟩:=dd
  exact ⟨ob,h1,h2.2.1⟩
 ·obtain ⟨_,hd,xs,_,dd⟩:=v5 I.hok e
  refine ⟨dd.typeIs,fun b q=>?_,hd⟩
  cases q
  obtain ⟨ob,_,_,h1,h2,_⟩:=dd
  exact ⟨ob,h1,h2.2.1⟩
section
variable {X:Cx} {pins:List (ak×dm)} {σ:St} {H:Hp} {s:ai} {a:ak} {y d:V} {u r:ae} {o:Option V} {A:bK} {E:ae->ai->Prop}
theorem Jv {Q:ae->ai->Prop} (hu:A.units+1<cx) (I:Inv X pins σ H s) (g:rW H a y o) (ry:gD y u) (rd:gD d r) (h:∀ w' s',Inv X pins σ H s'->gD (o.getD d) w'->Q w' s') :
 aM (be X.prog X.w) A (call (.builtin "dict.get") [.ref a,u,r]) Q E s:=by
 rcases g with ⟨kvs,k,e,ey,l⟩ | ⟨kvs,k,b,e,ey,eb,l⟩
 ·subst ey
  obtain ⟨z,hd,vs,rel,dd⟩:=tm I.hok e
  refine yR j9 dd.typeIs qY (qf _ _ _) (meets_dict_get_default (cI X.prog X.w) a (uB ry) hd r) ⟨_,dd.mapOf,h _ _ (I.tok _) ?_⟩
  rw [l]
  exact (rel.val k).getD rd
 ·subst ey
  cases (show u=bN b from ry)
  obtain ⟨z,hd,xs,rel,dd⟩:=v5 I.hok e
  refine yR j9 dd.typeIs qY (qf _ _ _) (meetsH_dict_get_default (jC (cI X.prog X.w)) a b hd r) ⟨g8 hu,k,xs,lX I.hok eb,dd,h _ _ (I.tok _) ?_⟩
  rw [l]
  exact (rel.val k).getD rd
end
def J6 (td ty tx:TE):TE:=fun σ H Q=>td σ H fun x H1=>∃ a,x=.ref a/\IsD H1 a/\ty σ H1 fun y H2=>tx σ H2 fun z H3=>∃ o,rW H3 a y o/\Q (o.getD z) H3
section
variable {X:Cx} {o e f:aP} {apos cpos:e7} {td ty tx:TE}
theorem CP (hu:X.A.units+1<cx) (ho:PE X o td) (he:PE X e ty) (hf:PE X f tx) (m:M2 X o "get" apos e f cpos):PE X (.Call (.Attribute o "get" apos) [e,f] [] cpos) (J6 td ty tx):=by
 intro pins s σ H Q I h
 refine wpAny_Call_method m.base m.few m.line qj j9 PySem.F.type_dict_get (thn (ho pins s σ H _ I h) fun u s1 ⟨x,H1,I1,rx,a,ex,d,q1⟩=>?_)
 subst ex
 obtain rfl:u=bN a:=rx
 obtain ⟨t1,t2,_⟩:=El I1 d
 refine ⟨t1,t2,?_⟩
 rw [m.trees]
 refine kc rfl (uT (lR (thn (he pins s1 σ H1 _ I1 q1) fun iv s2 ⟨y,H2,I2,ry,q2⟩ =>
  lR (thn (hf pins s2 σ H2 _ I2 q2) fun fv s3 ⟨z,H3,I3,rz,ov,g,q3⟩=>yC ?_))))
 exact Jv hu I3 g ry rz fun w' s4 I4 rw'=>⟨_,H3,I4,rw',q3⟩
end
end L2
namespace HT
open PySem PyProof.Rows
def lexLt:List Int->List Int->Bool
 | [],[]=>false
 | [],_::_=>true
 | _::_,[]=>false
 | x::xs,y::ys=>if x=y then lexLt xs ys else decide (x<y)
theorem lexLt_cons (x y:Int) (xs ys:List Int):lexLt (x::xs) (y::ys)=if x=y then lexLt xs ys else decide (x<y):=rfl
theorem rL:lexLt [] []=false:=rfl
theorem qd (y:Int) (ys:List Int):lexLt [] (y::ys)=true:=rfl
theorem p8 (x:Int) (xs:List Int):lexLt (x::xs) []=false:=rfl
theorem Ce (A:bK) (s:ai) (a:Int) (t:yP) (c:Int) (u:yP):∃ e,SeqAt.EqAt A s (.int a t) (.int c u) e/\(e=true↔a=c) :=
 ⟨(a == c),SeqAt.EqAt.int_int a t c u,by simp⟩
theorem CO (A:bK) (s:ai) (a:Int) (t:yP) (c:Int) (u:yP) (prog:bA) (w:cb) (E:ae->ai->Prop) (Q:ae->ai->Prop) (h:Q (.bool (decide (a<c))) s) :
 aM (be prog w) A (richCompare .Lt (.int a t) (.int c u)) Q E s :=
 (PyProof.Rows.lt_int h:aM (be prog w) A (dM .Lt (.int a t) (.int c u)) Q E s)
section
open PySem.SeqAt
open PySem.AutoSeq1 (wpAny_loadPart')
open PySem.MeetsSeq PySem.MeetsSeq2 PySem.MeetsSeq3
theorem tuple_lt_ints (l b:ak) (items items2:Array ae) (n n2:Nat) (dd dd2:Option ak) (sl sl2:Array (Option ae)) (ns ms:List Int) (hi:fN items.toList ns) (hj:fN items2.toList ms) :
 Meets (Builtin.«tuple.__lt__» ⟨[.ref l,.ref b],[]⟩)
  (fun _ R s=>s.heap.get? l=some { cls:=.type "tuple",dict:=dd,data:=.seq items n,slots:=sl }/\s.heap.get? b=some { cls:=.type "tuple",dict:=dd2,data:=.seq items2 n2,slots:=sl2 } /\
    R (.ok (.ret (.bool (lexLt ns ms)))) s) :=
 .of_wp fun prog w A R s h=>by
  obtain ⟨hp,g,d,tk,os⟩:=s;obtain ⟨hl,hb,h⟩:=h
  have f2:=AutoSeq1.sub_tuple_tuple
  have z1:items.size=ns.length:=by rw [<- hi.length];simp
  have z2:items2.size=ms.length:=by rw [<- hj.length];simp
  wp_walk using wpAny_loadPart' hl,wpAny_loadPart' hb,wpAny_forIn_list _ (fun rest b s'=>b.1=none/\s'=⟨hp,g,d,tk,os⟩/\∃ (vs ws:List ae) (ns' ms':List Int),rest=vs.zip ws /\
   fN vs ns'/\fN ws ms'/\ns'.length+items2.size=ms'.length+items.size/\R (.ok (.ret (.bool (lexLt ns' ms')))) ⟨hp,g,d,tk,os⟩) _
  case turn =>
   rintro ⟨y,x⟩ rest b s' ⟨hb',rfl,vs,ws,ns',ms',hz,hvi,hwi,hlen,hR⟩
   cases hvi with
   | nil=>rw [List.zip_nil_left] at hz;cases hz
   | cons a t hvi' =>
     cases hwi with
     | nil=>rw [yF] at hz;cases hz
     | cons c u hwi' =>
       rw [mJ] at hz
       injection hz with hyx hrest
       injection hyx with hy hx
       subst hy hx
       rw [lexLt_cons] at hR
       simp only [aG] at hlen
       obtain ⟨e,he,hiff⟩:=Ce A.in1 ⟨hp,g,d,tk,os⟩ a t c u
       refine aa (he prog w _ _ ?_)
       cases e with
       | true =>
         rw [if_pos (hiff.mp rfl)] at hR
         wp_walk
         exact ⟨rfl,rfl,_,_,_,_,hrest,hvi',hwi',by lia,hR⟩
       | false =>
         rw [if_neg (fun q=>absurd (hiff.mpr q) aO)] at hR
         have hri:=CO A.in1 ⟨hp,g,d,tk,os⟩ a t c u prog w
         wp_walk using hri
         exact ⟨_,rfl,by simpa using hR⟩
  case fin =>
   rintro ⟨b1,b2⟩ s' ⟨hb',rfl,vs,ws,ns',ms',hz,hvi,hwi,hlen,hR⟩
   simp only at hb'
   subst hb'
   have hv:lexLt ns' ms'=decide (items.size<items2.size):=by
    cases hvi with
    | nil =>
      cases hwi with
      | nil =>
        simp only [cX] at hlen
        rw [rL]
        exact (decide_eq_false (by lia)).symm
      | cons c u hw =>
        simp only [cX,aG] at hlen
        rw [qd]
        exact (decide_eq_true (by lia)).symm
    | cons a t hv =>
      cases hwi with
      | nil =>
        simp only [cX,aG] at hlen
        rw [p8]
        exact (decide_eq_false (by lia)).symm
      | cons c u hw =>
        rw [mJ] at hz
        cases hz
   rw [hv] at hR
   wp_walk
   exact ⟨_,rfl,by simpa [Builtin.Tuple.tupleCompareSizes] using hR⟩
  case h =>
   exact ⟨rfl,rfl,items.toList,items2.toList,ns,ms,rfl,hi,hj,by lia,h⟩
end
section
variable {prog:bA} {w:cb} {A:bK} {E:ae->ai->Prop} {s:ai}
theorem lt_tupInts {l b:ak} {items items2:Array ae} {ns ms:List Int} {Q:ae->ai->Prop} (hl:jG s.heap l items) (hb:jG s.heap b items2) (hi:fN items.toList ns) (hj:fN items2.toList ms)
 (hu:A.units<cx) (h:Q (.bool (lexLt ns ms)) s):aM (be prog w) A (dM .Lt (.ref l) (.ref b)) Q E s:=by
 obtain ⟨⟨cls,dd,data,sl⟩,ho,hc,n,hd⟩:=id hl
 obtain ⟨⟨cls2,dd2,data2,sl2⟩,ho2,hc2,n2,hd2⟩:=id hb
 simp only at hc hd hc2 hd2
 subst hc hd hc2 hd2
 exact richCompare_meets_room (op:=.Lt) ⟨_,ho,rfl⟩ ⟨_,ho2,rfl⟩ ke qZ (qk _ _) (tuple_lt_ints l b items items2 n n2 dd dd2 sl sl2 ns ms hi hj)
  ⟨ho,ho2,show fU (lexLt ns ms)≠Value.notImplemented/\Q (.bool (lexLt ns ms)) s from ⟨(fun x=>nomatch x),h⟩⟩ hu
theorem cat_tup {t b:ak} {vs ws:List ae} {Q:ae->ai->Prop} (ht:jG s.heap t vs.toArray) (hb:jG s.heap b ws.toArray) (hv:vs≠[])
 (h1:ws=[]->Q (.ref t) s) (h2:ws≠[]->Q (.ref s.heap.objs.size) { s with heap:=s.heap.push { cls:=.type "tuple",data:=.seq (vs++ws).toArray } })
 (hsz:vs.length+ws.length<=aL):aM (be prog w) A (i7 .Add (.ref t) (.ref b)) Q E s:=by
 obtain ⟨⟨cls,dd,data,sl⟩,ho,hc,n,hd⟩:=id ht
 obtain ⟨⟨cls2,dd2,data2,sl2⟩,ho2,hc2,n2,hd2⟩:=id hb
 simp only at hc hd hc2 hd2
 subst hc hd hc2 hd2
 have e:vs.toArray++ws.toArray=(vs++ws).toArray:=by simp
 by_cases hw:ws=[]
 ·exact pW ⟨_,ho,rfl⟩ ⟨_,ho2,rfl⟩ q0 xI jK jn (jg _ _)
   (tuple_addW1 t b vs.toArray ws.toArray n n2 dd dd2 sl sl2 (by simpa using hv) (by simp [hw])) ⟨ho,ho2,h1 hw⟩
 ·refine pW ⟨_,ho,rfl⟩ ⟨_,ho2,rfl⟩ q0 xI jK jn (jg _ _)
   (tuple_addW2 t b vs.toArray ws.toArray n n2 dd dd2 sl sl2 (by simpa using hv) (by simpa using hw) (by rw [aA,aA];exact hsz)) ⟨ho,ho2,?_⟩
  rw [e]
  exact h2 hw
def sIx (n d:Nat):Option Int->Nat
 | none=>d
 | some v=>if v<0 then (v+(n:Int)).toNat else min v.toNat n
theorem sIx_none (n d:Nat):sIx n d none=d:=rfl
theorem sIx_nat (n d k:Nat):sIx n d (some (k:Int))=min k n:=by
 show (if (k:Int)<0 then ((k:Int)+(n:Int)).toNat else min (k:Int).toNat n)=min k n
 rw [if_neg (by lia),g9]
theorem II (n d:Nat) (hd:d<=n) (o:Option Int):sIx n d o<=n:=by
 cases o with
 | none=>exact hd
 | some v =>
   show (if v<0 then (v+(n:Int)).toNat else min v.toNat n)<=n
   by_cases hv:v<0
   ·rw [if_pos hv];lia
   ·rw [if_neg hv];exact Nat.min_le_right _ _
theorem Ai (v:Int) (n d:Nat):(if v<0 then max (v+(n:Int)) 0 else min v (n:Int))=((sIx n d (some v):Nat):Int):=by
 show (if v<0 then max (v+(n:Int)) 0 else min v (n:Int))=(((if v<0 then (v+(n:Int)).toNat else min v.toNat n):Nat):Int)
 by_cases hv:v<0
 ·simp only [if_pos hv];lia
 ·simp only [if_neg hv];lia
theorem xX (lo hi:Option Int) (n:Nat):iw lo hi 1 (n:Int)=(((sIx n 0 lo:Nat):Int),((sIx n n hi:Nat):Int)):=by
 have h1:¬ ((1:Int)<0):=by lia
 unfold iw
 simp only [h1,if_false]
 refine jT ?_ ?_
 ·cases lo with
  | none=>rfl
  | some v=>exact Ai v n 0
 ·cases hi with
  | none=>rfl
  | some v=>exact Ai v n n
theorem yt (i j:Nat):fG (i:Int) (j:Int) 1=j-i:=by
 unfold fG
 have h1:(1:Int) > 0:=by lia
 simp only [h1,if_true,Int.ediv_one]
 split<;>lia
theorem qC {v:ae} {o:Option Int} {Q:Option Int->ai->Prop} (p:mM v o) (h:Q o s):aM (be prog w) A (Builtin.Slice.slicePartIndex v) Q E s:=by
 cases p with
 | none=>exact slicePart_none h
 | int i t=>exact slicePart_int h
theorem sliceApplied_gen {sl:ak} {vl vu:ae} {lo hi:Option Int} {n:Nat} {Q:Int×Int×Nat->ai->Prop} (hs:s.heap.IsSliceOf sl vl vu .none) (pl:mM vl lo) (pu:mM vu hi)
 (h:Q (((sIx n 0 lo:Nat):Int),1,sIx n n hi-sIx n 0 lo) s):aM (be prog w) A (lS (.ref sl) (pure (n:Int))) Q E s:=by
 obtain ⟨os,hos,hcs,hds⟩:=id hs
 unfold lS Builtin.Slice.sliceFields
 refine aa (aa (B2 hos hds (x:=vl) rfl (aa (B2 hos hds (x:=vu) rfl (aa (B2 hos hds (x:=.none) rfl (al ?_)))))))
 refine aa (slicePart_none ?_)
 show aM _ _ (if ((1:Int) == 0)=true then _ else _) _ _ s
 rw [if_neg (by decide)]
 refine aa (qC pl (aa (qC pu (aa (al ?_)))))
 show aM _ _ (match iw lo hi 1 (n:Int) with | (lo,hi)=>pure (lo,(1:Int),fG lo hi 1)) _ _ s
 rw [xX lo hi n]
 show aM _ _ (pure (((sIx n 0 lo:Nat):Int),(1:Int),fG ((sIx n 0 lo:Nat):Int) ((sIx n n hi:Nat):Int) 1)) _ _ s
 rw [yt]
 exact al h
theorem C9 (xs:Array ae) (i k:Nat):((bG k).filterMap fun (m:Nat)=>xs[((i:Int)+(m:Int)*1).toNat]?).toArray=((xs.toList.drop i).take k).toArray:=by
 have e:(fun (m:Nat)=>xs[((i:Int)+(m:Int)*1).toNat]?)=fun m=>xs[i+m]?:=by
  funext m
  have:((i:Int)+(m:Int)*1).toNat=i+m:=by lia
  rw [this]
 rw [e]
 have:=pick_run xs i k
 rw [List.filterMap_map] at this
 have e2:((fun x=>xs[x]?)∘fun x=>i+x)=fun m=>xs[i+m]?:=rfl
 rw [e2] at this
 rw [this]
theorem getItem_tuple_cut {t sl:ak} {items:Array ae} {vl vu:ae} {lo hi:Option Int} {Q:ae->ai->Prop} (ht:jG s.heap t items) (hs:s.heap.IsSliceOf sl vl vu .none) (pl:mM vl lo) (pu:mM vu hi)
 (hw:¬ (sIx items.size 0 lo=0/\sIx items.size items.size hi=items.size))
 (h:Q (.ref s.heap.objs.size) { s with heap:=s.heap.push { cls:=.type "tuple",data:=.seq ((items.toList.drop (sIx items.size 0 lo)).take (sIx items.size items.size hi-sIx items.size 0 lo)).toArray } })
 (hsz:items.size<=aL):aM (be prog w) A (kn (.ref t) (.ref sl)) Q E s:=by
 have htake:sizeOk (.seq ((items.toList.drop (sIx items.size 0 lo)).take (sIx items.size items.size hi-sIx items.size 0 lo)).toArray):=by
  show ((items.toList.drop (sIx items.size 0 lo)).take (sIx items.size items.size hi-sIx items.size 0 lo)).toArray.size<=aL
  rw [aA,gx,jU,bP]
  lia
 have hj:sIx items.size items.size hi<=items.size:=II _ _ (ax _) hi
 obtain ⟨os,hos,hcs,hds⟩:=id hs
 have hTs:s.TypeIs (.ref sl) "slice":=⟨os,hos,hcs⟩
 unfold kn
 try with_reducible refine cP ?_
 first | refine aa (al ?_) | skip
 refine aa (wpAny_sequenceKey ht.typeIs (by decide) ?_)
 refine aa (h9 (name:=cG "__getitem__") ht.typeIs eI
  (fB eI ht.typeIs D5 ?_ (args_tuple_getitem _ _)))
 show aM _ _ (lT (.ref t)>>=_) _ _ s
 refine aa (tupleItemsOf_ ht ?_)
 refine aa (iy hTs ?_)
 rw [if_pos (by decide)]
 refine aa (sliceApplied_gen hs pl pu ?_)
 have hno:¬ ((((sIx items.size 0 lo:Nat):Int) == 0&&(1:Int) == 1&&(sIx items.size items.size hi-sIx items.size 0 lo) == items.size)=true):=by
  intro q
  rw [aY,aY] at q
  have q1:((sIx items.size 0 lo:Nat):Int)=0:=eq_of_beq q.1.1
  have q2:sIx items.size items.size hi-sIx items.size 0 lo=items.size:=eq_of_beq q.2
  exact hw ⟨by lia,by lia⟩
 show aM _ _ (if (((sIx items.size 0 lo:Nat):Int) == 0&&(1:Int) == 1&&(sIx items.size items.size hi-sIx items.size 0 lo) == items.size)=true then _ else _) _ _ s
 rw [if_neg hno,C9]
 first
  | exact aa (m:=dq _) (cy (al ⟨_,rfl,al h⟩) htake)
  | exact aa (m:=dq _) (cy (aa (al (al ⟨_,rfl,al h⟩))) htake)
  | exact aa (aa (m:=dq _) (cy (al (al ⟨_,rfl,al h⟩)) htake))
  | exact aa (aa (m:=dq _) (cy (al ⟨_,rfl,al h⟩) htake))
end
end HT
namespace L2
open PySem PySem.Spec PyProof.Rows
abbrev TO:=St->Hp->(Option Int->Hp->Prop)->Prop
def PO (X:Cx) (e:Option aP) (t:TO):Prop :=
 ∀ (pins:List (ak×dm)) (s:ai) (σ:St) (H:Hp) (Q:Option Int->Hp->Prop),Inv X pins σ H s->t σ H Q ->
   aM (be X.prog X.w) X.A (evalPart e X.env) (fun u s'=>∃ o H',Inv X pins σ H' s'/\mM u o/\Q o H') X.xe s
def FG:TO:=fun _ H Q=>Q none H
def KE (t:TE):TO:=fun σ H Q=>t σ H fun x H1=>∃ i,x=.int i/\Q (some i) H1
theorem qP {ns:List Int}:∀ {us:List ae},eE (ns.map V.int) us->fN us ns:=by
 induction ns with
 | nil=>intro us r;rw [iZ] at r;cases r;exact .nil
 | cons n ns ih =>
   intro us r
   rw [aw] at r
   cases r with
   | cons r1 r2 =>
     obtain ⟨t,e⟩:=r1
     subst e
     exact .cons n t (ih r2)
section
variable {X:Cx} {e:aP} {te:TE} {lo hi:Option aP} {tl th:TO} {pos p2:e7}
theorem Hh:PO X none FG:=by
 intro pins s σ H Q I h
 rw [evalPart_none]
 exact al ⟨none,H,I,.none,h⟩
theorem Gv (h:PE X e te):PO X (some e) (KE te):=by
 intro pins s σ H Q I hw
 rw [evalPart_some]
 refine thn (h pins s σ H _ I hw) fun u s1 ⟨x,H1,I1,r1,q1⟩=>?_
 obtain ⟨i,rfl,q⟩:=q1
 obtain ⟨t,rfl⟩:=r1
 exact ⟨some i,H1,I1,.int i t,q⟩
def SlR (X:Cx) (r:V->Option Int->Option Int->Hp->VK->Prop):Prop :=
 ∀ (pins:List (ak×dm)) (s:ai) (σ:St) (H:Hp) (x:V) (v vl vu:ae) (lo hi:Option Int) (sl:ak) (Q:VK),Inv X pins σ H s->gD x v->s.heap.IsSliceOf sl vl vu .none->mM vl lo->mM vu hi->r x lo hi H Q ->
   ∃ T id,typeLookup (.type T) "__getitem__" = pure (some (.builtin id))/\s.TypeIs v T/\aM (be X.prog X.w) X.A (kn v (.ref sl)) (EP X pins σ Q) X.xe s
theorem SlR.or {r r':V->Option Int->Option Int->Hp->VK->Prop} (h:SlR X r) (h':SlR X r'):SlR X (fun x lo hi H Q=>r x lo hi H Q\/r' x lo hi H Q):=by
 intro pins s σ H x v vl vu lo hi sl Q I rx hs pl pu q
 rcases q with q | q
 ·exact h pins s σ H x v vl vu lo hi sl Q I rx hs pl pu q
 ·exact h' pins s σ H x v vl vu lo hi sl Q I rx hs pl pu q
def tSl (r:V->Option Int->Option Int->Hp->VK->Prop) (te:TE) (tl th:TO):TE:=fun σ H Q=>te σ H fun x H1=>tl σ H1 fun l H2=>th σ H2 fun u H3=>r x l u H3 Q
theorem CL {r:V->Option Int->Option Int->Hp->VK->Prop} (hr:SlR X r) (he:PE X e te) (hl:PO X lo tl) (hu:PO X hi th):PE X (.Subscript e (.Slice lo hi none p2) pos) (tSl r te tl th):=by
 intro pins s σ H Q I h
 refine Subscript_ (thn (he pins s σ H _ I h) fun v s1 ⟨x,H1,I1,r1,q1⟩=>?_)
 refine wpAny_Slice (thn (hl pins s1 σ H1 _ I1 q1) fun vl s2 ⟨l,H2,I2,pl,q2⟩=>thn (hu pins s2 σ H2 _ I2 q2) fun vu s3 ⟨u,H3,I3,pu,q3⟩=>?_)
 rw [evalPart_none]
 refine al ?_
 have I4:Inv X pins σ H3 { s3 with heap:=s3.heap.push { cls:=.type "slice",data:=.fields #[vl,vu,.none] } }:=I3.kept (t':=s3.toks) fun b ob q=>af _ q
 obtain ⟨T,id,hT,ht,hg⟩:=hr pins { s3 with heap:=s3.heap.push { cls:=.type "slice",data:=.fields #[vl,vu,.none] } } σ H3 x v vl vu l u s3.heap.objs.size Q I4 r1 (Heap.IsSliceOf.new ..) pl pu q3
 show aM (be X.prog X.w) X.A (xH e (.Slice lo hi none p2) v (.ref s3.heap.objs.size)) (EP X pins σ Q) X.xe { s3 with heap:=s3.heap.push { cls:=.type "slice",data:=.fields #[vl,vu,.none] } }
 exact tail_any (ops:=[.ref s3.heap.objs.size,v]) ht hT hg (by with_unfolding_all rfl)
def Ew (xs:List V) (lo hi:Option Int):List V:=(xs.drop (HT.sIx xs.length 0 lo)).take (HT.sIx xs.length xs.length hi-HT.sIx xs.length 0 lo)
theorem oQ (xs:List V) (lo hi:Option Int):(Ew xs lo hi).length<=xs.length:=by
 unfold Ew
 rw [gx,jU]
 lia
def LL (K:ac):V->Option Int->Option Int->Hp->VK->Prop:=fun x lo hi H Q=>∃ a xs,x=.ref a/\SqT K H a xs /\
 ¬ (HT.sIx xs.length 0 lo=0/\HT.sIx xs.length xs.length hi=xs.length)/\∀ p,H p=none->Q (.ref p) (upd H p (.tup (Ew xs lo hi)))
theorem Kb:SlR X (LL X.K):=by
 intro pins s σ H x v vl vu lo hi sl Q I rx hs pl pu h
 obtain ⟨a,xs,rfl,hx,hw,q⟩:=h
 cases rx
 obtain ⟨its,r,ht,hz⟩:=I.tuple hx
 have hlen:its.toArray.size=xs.length:=by rw [aA];exact r.length.symm
 refine ⟨"tuple",_,PyProof.Rows.slot_tuple_getitem.lookup,ht.typeIs,?_⟩
 refine HT.getItem_tuple_cut ht hs pl pu (by rw [hlen];exact hw) ?_ (by rw [hlen];exact hz)
 rw [hlen]
 refine ⟨.ref s.heap.objs.size,_,I.laid (t':=s.toks) (o:=.tup (Ew xs lo hi)) (fun b ob q=>af _ q) (ax _) ?_,rfl,q _ (I.hok.fresh (ax _))⟩
 exact ⟨⟨bL (oQ xs lo hi) hz,mz.new _ _⟩,_,(r.drop (HT.sIx xs.length 0 lo)).take (HT.sIx xs.length xs.length hi-HT.sIx xs.length 0 lo),nW _ _⟩
def LB (K:ac):R2:=fun x y H Q=>∃ a b ns ms,x=.ref a/\y=.ref b/\SqT K H a (ns.map V.int)/\SqT K H b (ms.map V.int)/\Q (.bl (HT.lexLt ns ms)) H
theorem Jd (hu:X.A.units<cx):OpR X (dM .Lt) (LB X.K):=by
 intro pins s σ H x y v u Q I rx ry h
 obtain ⟨a,b,ns,ms,rfl,rfl,ha,hb,q⟩:=h
 cases rx
 cases ry
 obtain ⟨its,r1,p1,_⟩:=I.tuple ha
 obtain ⟨its2,r2,p2,_⟩:=I.tuple hb
 have i1:fN its.toArray.toList ns:=qP r1
 have i2:fN its2.toArray.toList ms:=qP r2
 exact HT.lt_tupInts p1 p2 i1 i2 hu ⟨.bl (HT.lexLt ns ms),H,I,rfl,q⟩
def IG (K:ac):R2:=fun x y H Q=>∃ a b xs ys,x=.ref a/\y=.ref b/\SqT K H a xs/\SqT K H b ys/\xs≠[]/\xs.length+ys.length<=aL /\
 (ys=[]->Q (.ref a) H)/\(ys≠[]->∀ p,H p=none->Q (.ref p) (upd H p (.tup (xs++ys))))
theorem eE.nil_iff {xs:List V} {us:List ae} (r:eE xs us):us=[]↔xs=[]:=by
 cases r with
 | nil=>simp
 | cons _ _=>simp
theorem Fy:OpR X (i7 .Add) (IG X.K):=by
 intro pins s σ H x y v u Q I rx ry h
 obtain ⟨a,b,xs,ys,rfl,rfl,ha,hb,hx,hz,q1,q2⟩:=h
 cases rx
 cases ry
 obtain ⟨its,r1,p1,_⟩:=I.tuple ha
 obtain ⟨its2,r2,p2,_⟩:=I.tuple hb
 refine HT.cat_tup p1 p2 (fun z=>hx (r1.nil_iff.mp z)) (fun z=>⟨.ref a,H,I,rfl,q1 (r2.nil_iff.mp z)⟩) (fun z=>?_) (by rw [<- r1.length,<- r2.length];exact hz)
 refine ⟨.ref s.heap.objs.size,_,I.laid (t':=s.toks) (o:=.tup (xs++ys)) (fun b ob q=>af _ q) (ax _) ?_,rfl,q2 (fun w=>z (r2.nil_iff.mpr w)) _ (I.hok.fresh (ax _))⟩
 exact ⟨⟨by rw [aN];exact hz,mz.new _ _⟩,_,r1.append r2,nW _ _⟩
end
def ixN (n:Nat) (i:Int):Option Nat:=if 0<=i then (if i<n then some i.toNat else none) else if -(n:Int)<=i then some (i+n).toNat else none
def atI {α:Type} (xs:List α) (i:Int):Option α:=(ixN xs.length i).bind fun j=>xs[j]?
theorem zD {n:Nat} {i:Int} {j:Nat} (h:ixN n i=some j):seqIndex? i n=some j/\j<n/\-(n:Int)<=i/\i<n:=by
 unfold ixN at h
 by_cases h0:0<=i
 ·rw [if_pos h0] at h
  by_cases h1:i<n
  ·rw [if_pos h1] at h
   have e:i.toNat=j:=bR h
   exact ⟨by rw [seqIndex_of h0 h1,e],by lia,by lia,h1⟩
  ·rw [if_neg h1] at h;cases h
 ·rw [if_neg h0] at h
  by_cases h1 : -(n:Int)<=i
  ·rw [if_pos h1] at h
   have e:(i+n).toNat=j:=bR h
   exact ⟨by rw [seqIndex_neg (by lia) h1,e],by lia,h1,by lia⟩
  ·rw [if_neg h1] at h;cases h
theorem vj {α:Type} {xs:List α} {i:Int} {v:α} (h:atI xs i=some v):∃ j,seqIndex? i xs.length=some j/\xs[j]?=some v/\j<xs.length/\-(xs.length:Int)<=i/\i<xs.length:=by
 unfold atI at h
 cases e:ixN xs.length i with
 | none=>rw [e] at h;cases h
 | some j =>
   rw [e] at h
   obtain ⟨h1,h2,h3,h4⟩:=zD e
   exact ⟨j,h1,h,h2,h3,h4⟩
def rA (b:aP):Prop:=∀ o i,sM b false o i=operate [o,i] (kn o i)
def IxR (X:Cx) (r:R2):Prop :=
 ∀ (value slice:aP) (pins:List (ak×dm)) (s:ai) (σ:St) (H:Hp) (x y:V) (v u:ae) (Q:VK),Inv X pins σ H s->gD x v->gD y u->r x y H Q ->
   sM slice false v u=operate [v,u] (kn v u)->aM (be X.prog X.w) X.A (xH value slice v u) (EP X pins σ Q) X.xe s
def MtR (X:Cx) (id:String) (r:V->List V->Hp->VK->Prop):Prop :=
 ∀ (pins:List (ak×dm)) (s:ai) (σ:St) (H:Hp) (x:V) (xs:List V) (v:ae) (us:List ae) (Q:VK),Inv X pins σ H s->gD x v->eE xs us->r x xs H Q ->
   aM (be X.prog X.w) X.A (call (.builtin id) (v::us)) (EP X pins σ Q) X.xe s
section
variable {X:Cx} {a b:aP} {ta tb:TE} {pos:e7}
theorem IxR.or {r r':R2} (h:IxR X r) (h':IxR X r'):IxR X (fun x y H Q=>r x y H Q\/r' x y H Q):=by
 intro value slice pins s σ H x y v u Q I rx ry q hs
 rcases q with q | q
 ·exact h value slice pins s σ H x y v u Q I rx ry q hs
 ·exact h' value slice pins s σ H x y v u Q I rx ry q hs
theorem KS {r:R2} (hr:IxR X r) (ha:PE X a ta) (hb:PE X b tb) (hs:rA b):PE X (.Subscript a b pos) (tOp r ta tb):=by
 intro pins s σ H Q I h
 exact Subscript_ (Lk ha hb I h fun v u s2 x y H2 I2 rx ry q=>hr a b pins s2 σ H2 x y v u Q I2 rx ry q (hs _ _))
def Lh (K:ac):R2:=fun x y H Q=>∃ p xs i v,x=.ref p/\y=.int i/\SqL K H p xs/\atI xs i=some v/\Q v H
def K0 (K:ac):R2:=fun x y H Q=>∃ p xs i v,x=.ref p/\y=.int i/\SqT K H p xs/\atI xs i=some v/\Q v H
def Lo:R2:=fun x y H Q=>∃ z i c,x=.str z/\y=.int i/\z.length<=aL/\atI z.cps.toList i=some c/\Q (.str ⟨#[c]⟩) H
theorem ET:IxR X (Lh X.K):=by
 intro value slice pins s σ H x y v u Q I rx ry h hs
 obtain ⟨p,xs,i,z,rfl,rfl,hq,he,q⟩:=h
 cases rx
 obtain ⟨t,rfl⟩:=ry
 obtain ⟨its,r,pl,hz⟩:=I.list hq
 obtain ⟨j,h1,h2,h3,h4,h5⟩:=vj he
 obtain ⟨w,ew,rw'⟩:=r.get h2
 have hl:=r.length
 have hn:=uc
 have fin:EP X pins σ Q w s:=⟨z,H,I,rw',q⟩
 by_cases h0:0<=i
 ·have hj:i.toNat=j:=by
   rw [seqIndex_of h0 h5] at h1
   exact bR h1
  exact item_listR pl.isList h0 (by lia) (by rw [hj];simpa using ew) fin hs
 ·have hj:(i+(its.toArray.size:Int)).toNat=j:=by
   rw [seqIndex_neg (by lia) h4] at h1
   rw [aA,<- hl]
   exact bR h1
  exact yS (x:=w) pl.isList.typeIs slot_list_getitem.lookup
   (wpAny_getItem_list_neg (Q:=fun r s'=>r=w/\EP X pins σ Q r s') pl.isList (by lia) (by rw [aA]<;>lia) (by lia) (by rw [hj];simpa using ew) ⟨rfl,fin⟩) hs
theorem Kf:IxR X (K0 X.K):=by
 intro value slice pins s σ H x y v u Q I rx ry h hs
 obtain ⟨p,xs,i,z,rfl,rfl,hq,he,q⟩:=h
 cases rx
 obtain ⟨t,rfl⟩:=ry
 obtain ⟨its,r,pl,hz⟩:=I.tuple hq
 obtain ⟨j,h1,h2,h3,h4,h5⟩:=vj he
 obtain ⟨w,ew,rw'⟩:=r.get h2
 have hl:=r.length
 have hn:=uc
 have fin:EP X pins σ Q w s:=⟨z,H,I,rw',q⟩
 exact yS (x:=w) pl.typeIs slot_tuple_getitem.lookup
  (getItem_tuple (j:=j) (Q:=fun r s'=>r=w/\EP X pins σ Q r s') pl (by lia) (by lia) (by rw [aA,<- hl];exact h1) (by simpa using ew) ⟨rfl,fin⟩) hs
theorem Je:IxR X Lo:=by
 intro value slice pins s σ H x y v u Q I rx ry h hs
 obtain ⟨z,i,c,rfl,rfl,hz,he,q⟩:=h
 obtain ⟨t,rfl⟩:=rx
 obtain ⟨t',rfl⟩:=ry
 obtain ⟨j,h1,h2,h3,h4,h5⟩:=vj he
 have hl:z.cps.toList.length=z.length:=by simp [Str.length]
 rw [hl] at h1 h4 h5
 have hn:=uc
 exact tail_any (typeIs_str s z t) slot_str_getitem.lookup (getItem_str (c:=c) (by
  have e1:decide (i < -(2 ^ 63:Int))=false:=decide_eq_false (by lia)
  have e2:decide (i≥2 ^ 63)=false:=decide_eq_false (by lia)
  rw [e1,e2,Bool.or_false]) (by rw [h1];simpa using h2) ⟨.str ⟨#[c]⟩,H,I.tok _,⟨_,rfl⟩,q⟩) hs
def rIx (K:ac):R2:=fun x y H Q=>Lh K x y H Q\/K0 K x y H Q\/Lo x y H Q
theorem HK:IxR X (rIx X.K):=ET.or (Kf.or Je)
theorem tf (lo hi:Option Int) (n:Nat):(i8 lo hi none n).1=((HT.sIx n 0 lo:Nat):Int)/\(i8 lo hi none n).2.1=((HT.sIx n n hi:Nat):Int)/\(i8 lo hi none n).2.2=1:=by
 refine ⟨?_,?_,rfl⟩
 ·cases lo with
  | none=>simp [i8,HT.sIx]
  | some i =>
    simp only [i8,HT.sIx,yG,show (1:Int) > 0 by decide,if_true]
    by_cases h:i<0
    ·simp only [h,if_true]<;>lia
    ·simp only [h,if_false]<;>lia
 ·cases hi with
  | none=>simp [i8,HT.sIx]
  | some i =>
    simp only [i8,HT.sIx,yG,show (1:Int) > 0 by decide,if_true]
    by_cases h:i<0
    ·simp only [h,if_true]<;>lia
    ·simp only [h,if_false]<;>lia
theorem sa (its:List ae) (lo hi:Option Int):slicePick its.toArray lo hi none=((its.drop (HT.sIx its.length 0 lo)).take (HT.sIx its.length its.length hi-HT.sIx its.length 0 lo)).toArray:=by
 obtain ⟨h1,h2,h3⟩:=tf lo hi its.toArray.size
 unfold slicePick
 rw [h1,h2,h3]
 simp only [sliceRange_one,pick_run,aA]<;>rfl
def LU (K:ac):V->Option Int->Option Int->Hp->VK->Prop:=fun x lo hi H Q=>∃ a xs,x=.ref a/\SqL K H a xs/\∀ p,H p=none->Q (.ref p) (upd H p (.lst (Ew xs lo hi)))
theorem Fo:SlR X (LU X.K):=by
 intro pins s σ H x v vl vu lo hi sl Q I rx hs pl pu h
 obtain ⟨a,xs,rfl,hx,q⟩:=h
 cases rx
 obtain ⟨its,r,ht,hz⟩:=I.list hx
 have hlen:=r.length
 refine ⟨"list",_,slot_list_getitem.lookup,ht.isList.typeIs,?_⟩
 refine wpAny_getItem_list_slice ht.isList hs pl pu .none (by simp) ?_ (by rw [aA]<;>lia)
 rw [sa,<- hlen]
 refine ⟨.ref s.heap.objs.size,_,I.laid (t':=s.toks) (o:=.lst (Ew xs lo hi)) (fun b ob q=>af _ q) (ax _) ?_,rfl,q _ (I.hok.fresh (ax _))⟩
 exact ⟨bL (oQ xs lo hi) hz,_,0,(r.drop (HT.sIx xs.length 0 lo)).take (HT.sIx xs.length xs.length hi-HT.sIx xs.length 0 lo),aH _ rfl⟩
theorem uw:lq X (.builtin "len") (fun xs H Q=>∃ p ys,xs=[.ref p]/\(SqL X.K H p ys\/SqT X.K H p ys)/\Q (.int ys.length) H):=by
 intro pins s σ H xs us Q I r h
 obtain ⟨p,ys,rfl,hq,q⟩:=h
 obtain ⟨u,rfl,rx⟩:=lH r
 cases rx
 have hn:=uc
 rcases hq with hq | hq
 ·obtain ⟨its,r',pl,hz⟩:=I.list hq
  have hlen:=r'.length
  exact Calls.call_len_list pl.isList (by simp only [aA]<;>lia) ⟨.int ys.length,H,I.tok _,⟨s.toks+1,by rw [aA,hlen]⟩,q⟩
 ·obtain ⟨its,r',pl,hz⟩:=I.tuple hq
  have hlen:=r'.length
  exact len_tuple pl (by simp only [aA]<;>lia) ⟨.int ys.length,H,I.tok _,⟨s.toks+1,by rw [aA,hlen]⟩,q⟩
theorem sX:lq X (.type "list") (fun xs H Q=>∃ p ys,xs=[.ref p]/\(SqL X.K H p ys\/SqT X.K H p ys)/\∀ l,H l=none->Q (.ref l) (upd H l (.lst ys))):=by
 intro pins s σ H xs us Q I r h
 obtain ⟨p,ys,rfl,hq,q⟩:=h
 obtain ⟨u,rfl,rx⟩:=lH r
 cases rx
 have fin:∀ (its:List ae),eE ys its->ys.length<=aL->∀ (h':cr) (c':Nat),(∀ b o',s.heap.get? b=some o'->h'.get? b=some o') ->
  h'.get? s.heap.objs.size=some { cls:=.type "list",dict:=none,data:=.seq its.toArray c',slots:=#[] }->EP X pins σ Q (.ref s.heap.objs.size) { s with heap:=h' }:=fun its r' hz h' c' kp e =>
  ⟨.ref s.heap.objs.size,_,I.laid (t':=s.toks) kp (ax _) (show gO X.prog X.w _ h' _ (.lst ys) from ⟨hz,its,c',r',e⟩),rfl,q _ (I.hok.fresh (ax _))⟩
 rcases hq with hq | hq
 ·obtain ⟨its,r',pl,hz⟩:=I.list hq
  have hlen:=r'.length
  obtain ⟨o,ho,hc,n,hd⟩:=pl.isList
  exact call_list_seq p (.inl rfl) ho hc hd (fun h' c' kp e=>fin its r' hz h' c' kp e) (by simp only [aA]<;>lia)
 ·obtain ⟨its,r',pl,hz⟩:=I.tuple hq
  have hlen:=r'.length
  obtain ⟨o,ho,hc,n,hd⟩:=pl
  exact call_list_seq p (.inr rfl) ho hc hd (fun h' c' kp e=>fin its r' hz h' c' kp e) (by simp only [aA]<;>lia)
theorem sv:lq X (.type "tuple") (fun xs H Q=>∃ p ys,xs=[.ref p]/\((SqL X.K H p ys/\∀ l,H l=none->Q (.ref l) (upd H l (.tup ys)))\/(SqT X.K H p ys/\Q (.ref p) H))):=by
 intro pins s σ H xs us Q I r h
 obtain ⟨p,ys,rfl,h⟩:=h
 obtain ⟨u,rfl,rx⟩:=lH r
 cases rx
 rcases h with ⟨hq,q⟩ | ⟨hq,q⟩
 ·obtain ⟨its,r',pl,hz⟩:=I.list hq
  have hlen:=r'.length
  refine call_tuple_list pl.isList (fun h' kp=>?_) (by simp only [aA]<;>lia)
  have I1:Inv X pins σ H { s with heap:=h' }:=I.kept (t':=s.toks) kp
  have I2:Inv X pins σ (upd H h'.objs.size (.tup ys)) { s with heap:=h'.push { cls:=.type "tuple",data:=.seq its.toArray } } :=
   I1.laid (t':=s.toks) (fun b o e=>af _ e) (ax _) (show gO X.prog X.w _ _ _ (.tup ys) from ⟨⟨hz,mz.new _ _⟩,its,r',nW _ _⟩)
  exact ⟨.ref h'.objs.size,_,I2,rfl,q _ (I1.hok.fresh (ax _))⟩
 ·obtain ⟨its,r',pl,hz⟩:=I.tuple hq
  exact call_tuple_same pl ⟨.ref p,H,I,rfl,q⟩
def tyV (K:ac) (T:String) (x:V) (H:Hp):Prop:=match x with
 | .str _=>T = "str"
 | .int _=>T = "int"
 | .ref p=>(T = "list"/\∃ xs,SqL K H p xs)\/(T = "tuple"/\∃ o,K.lookup p=some o/\o.cls=.type "tuple"/\o.dict=none) \/
    (T = "dict"/\((∃ kvs,H p=some (.dK kvs))\/∃ kvs,H p=some (.dT kvs)))\/(T = "set"/\∃ S n,H p=some (.set S n))
 | _=>False
theorem Iy {pins:List (ak×dm)} {σ:St} {H:Hp} {s:ai} {T:String} {x:V} {v:ae} (I:Inv X pins σ H s) (r:gD x v) (ty:tyV X.K T x H) :
 s.TypeIs v T/\∀ a,v=.ref a->∃ ob,s.heap.get? a=some ob/\ob.dict=none:=by
 cases x with
 | str z =>
   obtain ⟨t,rfl⟩:=r
   cases (show T = "str" from ty)
   exact ⟨typeIs_str s z t,fun _ e=>nomatch e⟩
 | int i =>
   obtain ⟨t,rfl⟩:=r
   cases (show T = "int" from ty)
   exact ⟨typeIs_int s i t,fun _ e=>nomatch e⟩
 | ref p =>
   cases r
   rcases ty with ⟨rfl,xs,hq⟩ | ⟨rfl,o,hk,hc,hd⟩ | ⟨rfl,hk⟩ | ⟨rfl,S,n,hk⟩
   ·obtain ⟨its,_,pl,_⟩:=I.list hq
    refine ⟨pl.isList.typeIs,fun a e=>?_⟩
    cases e
    obtain ⟨o,n,e,c,hd,_⟩:=pl
    exact ⟨o,e,hd⟩
   ·refine ⟨⟨o,I.kIn p o hk,hc⟩,fun a e=>?_⟩
    cases e
    exact ⟨o,I.kIn _ o hk,hd⟩
   ·have z:∃ o,s.heap.get? p=some o/\o.ExactDict:=by
     rcases hk with ⟨kvs,hk⟩ | ⟨kvs,hk⟩
     ·obtain ⟨_,_,_,_,o,_,_,e,ex,_⟩:=I.hok p _ hk
      exact ⟨o,e,ex⟩
     ·obtain ⟨_,_,_,_,o,_,_,e,ex,_⟩:=I.hok p _ hk
      exact ⟨o,e,ex⟩
    obtain ⟨o,e,ex⟩:=z
    refine ⟨⟨o,e,ex.1⟩,fun a e2=>?_⟩
    cases e2
    exact ⟨o,e,ex.2.1⟩
   ·obtain ⟨o,_,_,_,e,ex,_⟩:=I.hok p _ hk
    refine ⟨⟨o,e,ex.1⟩,fun a e2=>?_⟩
    cases e2
    exact ⟨o,e,ex.2.1⟩
 | _=>exact ck ty
def tBM (K:ac) (T:String) (r:V->List V->Hp->VK->Prop) (to:TE) (t:TA):TE:=fun σ H Q=>to σ H fun x H1=>tyV K T x H1/\t σ H1 fun xs H2=>r x xs H2 Q
variable {o e:aP} {es:List aP} {to:TE} {t:TA} {name:bH} {apos cpos:e7} {T id:String} {r:V->List V->Hp->VK->Prop}
theorem JU (pa:PlainAttrs T) (slot:Slot T name id) (hty:typeOf (.builtin id)=pure (.type "method_descriptor")) (hm:MtR X id r) (ho:PE X o to) (ha:PA X (e::es) t)
 (hbase:gk o name X.env (b9 o X.env)=b9 o X.env:=by rfl)
 (hfew:((cz cpos (ao (e::es) X.env)).all (fun x=>!x.1)&&(lh cpos (h8 [] X.env)).all (fun x=>x.1.isSome)
   && decide ((e::es).length+([]:List i5).length+(if ([]:List i5).isEmpty then 0 else 1)<30))=true:=by rfl)
 (hline:(apos.endLine == cpos.line)=true:=by rfl) (hs:ao (e::es) X.env=(false,b9 e X.env)::ao es X.env:=by rfl) (hplain:(cz cpos (ao es X.env)).any (·.1)=false:=by rfl) :
 PE X (.Call (.Attribute o name apos) (e::es) [] cpos) (tBM X.K T r to t):=by
 intro pins s σ H Q I h
 refine wpAny_Call_method_late hbase hfew hline rfl (thn (ho pins s σ H _ I h) fun v s1 ⟨x,H1,I1,r1,ty,q1⟩=>?_)
 obtain ⟨h1,h2⟩:=Iy I1 r1 ty
 refine ⟨T,id,pa,slot,hty,h1,h2,?_⟩
 have hA:=ha cpos pins s1 σ H1 _ I1 q1
 rw [hs] at hA ⊢
 refine kc (by show (false||(cz cpos (ao es X.env)).any (·.1))=false;rw [hplain]<;>rfl) (uT ?_)
 exact thn hA fun us s2 ⟨vs,H2,I2,r2,q2⟩=>hm pins s2 σ H2 x vs v us Q I2 r1 r2 q2
end
def MtM (X:Cx) (id:String) (r:V->List V->Hp->VK->Prop):Prop :=
 ∀ (pins:List (ak×dm)) (s:ai) (σ:St) (H:Hp) (x:V) (xs:List V) (v:ae) (us:List ae) (Q:VK),Inv X pins σ H s->gD x v->eE xs us->r x xs H Q ->
   aM (be X.prog X.w) X.A (call (.builtin id) (v::us)) (EP X pins σ Q) X.xe s
theorem eE.one:∀ {x:V} {us:List ae},eE [x] us->∃ u,us=[u]/\gD x u
 | _,_,.cons r .nil=>⟨_,rfl,r⟩
theorem eE.two:∀ {x y:V} {us:List ae},eE [x,y] us->∃ u v,us=[u,v]/\gD x u/\gD y v
 | _,_,_,.cons r (.cons q .nil)=>⟨_,_,rfl,r,q⟩
theorem eE.zero:∀ {us:List ae},eE [] us->us=[]
 | _,.nil=>rfl
theorem eE.eraseIdx:∀ {xs:List V} {us:List ae} (i:Nat),eE xs us->eE (xs.eraseIdx i) (us.eraseIdx i)
 | _,_,_,.nil=>.nil
 | _,_,0,.cons _ t=>t
 | _,_,i+1,.cons r t=>.cons r (eE.eraseIdx i t)
theorem tR {α:Type}:∀ (l:List α) (i:Nat),(l.eraseIdx i).length<=l.length
 | [],_=>ax _
 | _::_,0=>Nat.le_succ _
 | _::r,i+1=>Nat.succ_le_succ (tR r i)
section
variable {X:Cx} {pins:List (ak×dm)} {σ:St} {H:Hp} {s:ai} {l b:ak} {xs ys zs:List V}
theorem Inv.lset {its its':List ae} {n:Nat} {f:Array ae->Array ae} {t':Nat} (I:Inv X pins σ H s) (hH:H l=some (.lst xs))
 (e:s.heap.get? l=some { cls:=.type "list",data:=.seq its.toArray n }) (hf:f its.toArray=its'.toArray) (hv:eE ys its') (hz:ys.length<=aL) :
 Inv X pins σ (upd H l (.lst ys)) { s with heap:=s.heap.update l (bV f),toks:=t' }:=by
 have q:=PySem.IsL.update e f
 rw [hf] at q
 refine I.write (x:=l) (e:=l) (by rw [hH];exact trivial) (.inl rfl) (fun b' u hb hu=>(cN s.heap (bV f) (Ne.symm hb)).trans hu) ⟨_,q⟩ ?_
 exact ⟨hz,its',_,hv,q⟩
theorem Inv.lnew {its:List ae} {t':Nat} (I:Inv X pins σ H s) (hv:eE ys its) (hz:ys.length<=aL) :
 Inv X pins σ (upd H s.heap.objs.size (.lst ys)) { s with heap:=s.heap.push { cls:=.type "list",data:=.seq its.toArray },toks:=t' } :=
 I.laid (fun _ _ q=>af _ q) (ax _) ⟨hz,its,0,hv,aH _ rfl⟩
theorem Inv.fresh (I:Inv X pins σ H s):H s.heap.objs.size=none:=I.hok.fresh (ax _)
theorem Inv.lstM (I:Inv X pins σ H s) (hH:H l=some (.lst xs)):xs.length<=aL/\∃ (its:List ae) (n:Nat),eE xs its/\xs.length=its.length/\s.heap.get? l=some { cls:=.type "list",data:=.seq its.toArray n }:=by
 obtain ⟨z,its,n,r,e⟩:=I.hok l _ hH
 exact ⟨z,its,n,r,r.length,e⟩
end
section
variable {X:Cx}
def Fl:V->List V->Hp->VK->Prop:=fun x vs H Q=>∃ l xs y,x=.ref l/\vs=[y]/\H l=some (.lst xs)/\xs.length<aL/\Q .non (upd H l (.lst (xs++[y])))
theorem t5:MtM X "list.append" Fl:=by
 intro pins s σ H x vs v us Q I rx rv h
 obtain ⟨l,xs,y,rfl,rfl,hH,hz,q⟩:=h
 cases rx
 obtain ⟨u,rfl,ru⟩:=rv.one
 obtain ⟨z,its,n,r,hl,e⟩:=I.lstM hH
 refine uU F.slot_list_append ⟨_,e,rfl⟩ F.entry_list_append (F.args_list_append_2 _ _) (PySem.list_append l its.toArray n u (by rw [aA];lia)) ⟨e,?_⟩
 refine ⟨.non,_,I.lset (its':=its++[u]) hH e (by simp) (r.append (.cons ru .nil)) ?_,rfl,q⟩
 rw [aN,bx]
 lia
def Au:V->List V->Hp->VK->Prop:=fun x vs H Q=>∃ l xs i k y,x=.ref l/\vs=[.int i]/\H l=some (.lst xs)/\-(2 ^ 63)<=i/\i<2 ^ 63/\seqIndex? i xs.length=some k/\xs[k]?=some y/\Q y (upd H l (.lst (xs.eraseIdx k)))
theorem Dv:MtM X "list.pop" Au:=by
 intro pins s σ H x vs v us Q I rx rv h
 obtain ⟨l,xs,i,k,y,rfl,rfl,hH,h1,h2,hk,hy,q⟩:=h
 cases rx
 obtain ⟨u,rfl,ru⟩:=rv.one
 obtain ⟨t,rfl⟩:=ru
 obtain ⟨z,its,n,r,hl,e⟩:=I.lstM hH
 obtain ⟨w,hw,rw'⟩:=r.get hy
 refine uU F.slot_list_pop ⟨_,e,rfl⟩ F.entry_list_pop (F.args_list_pop_2 _ _)
  (MeetsSeq.list_pop_at l its.toArray n i t k w (fitsIndex_both h1 h2) (by rw [aA,<- hl];exact hk) (by rw [<- fI];exact hw) (by rw [aA];lia)) ⟨e,?_⟩
 refine ⟨y,_,I.lset (its':=its.eraseIdx k) hH e ?_ (r.eraseIdx k) ?_,rw',q⟩
 ·show its.toArray.eraseIdxIfInBounds k=(its.eraseIdx k).toArray
  rw [List.eraseIdxIfInBounds_toArray]
 ·have:=tR xs k
  lia
end
end L2
namespace Att
open PySem PySem.W PySem.Calls PyProof.Rows
theorem pE {P:yT} {h:cr}:∀ (ns:List Int) (vs:List ae),WellAll P h vs (ns.map WData.int)->fN vs ns:=by
 intro ns
 induction ns with
 | nil =>
   intro vs w
   rw [iZ] at w
   cases w
   exact .nil
 | cons n ns ih =>
   intro vs w
   rw [aw] at w
   cases w with
   | cons a b =>
     cases a
     exact .cons _ _ (ih _ b)
theorem A6 {l:OpenLaw} {n:Nat} (hn:l.most=some n) {P:yT} {h:cr} {args:List WData} {vals:List ae}
 (hpre:l.row.toRowW.claim.pre args=true) (hwl:WellAll P h vals args) :
 ∃ a vs ns,vals=[bN a]/\args=[WData.list (ns.map WData.int)]/\h.get? a=some { cls:=.type "list",data:=.seq vs.toArray }/\fN vs ns/\ns.length<=n:=by
 have hsh:WShape.hasAll [] args [.list .int]=true:=(pre_splitW hpre).1
 have hc:l.pre.holds [] { args:=args }=true:=(pre_splitW hpre).2
 obtain ⟨d,r,rfl,h1,h2⟩:=hasAllW_cons hsh
 obtain rfl:=hasAllW_nil h2
 obtain ⟨xs,rfl,h3⟩:=hasW_list h1
 obtain ⟨ns,rfl⟩:=items_int h3
 have hlen:ns.length<=n:=by
  unfold OpenLaw.pre at hc
  have h4:(WTm.not (.lt (.lit (.int (n:Int))) (.len (.arg 0)))).holds [] { args:=[.list (ns.map .int)] }=true:=by
   have h4:=(holds_andW hc).1
   rw [hn] at h4
   exact h4
  have h5:=condW_of h4 (w_not (w_lt w_lit (w_len_list (w_arg rfl))))
  rw [ab] at h5
  refine Nat.le_of_not_lt fun q=>?_
  have q':(n:Int)<((ns.length:Nat):Int):=by lia
  first
   | (rw [decide_eq_true q'] at h5;exact absurd h5 (by decide))
   | (simp at h5;lia)
 cases hwl with
 | cons w1 w2 =>
   cases w2
   cases w1 with
   | list ho hall=>exact ⟨_,_,ns,rfl,rfl,ho,pE ns _ hall,hlen⟩
theorem Bl (l:OpenLaw) (args:List WData):l.row.toRowW.claim.post args (.bool true) args=true :=
 postW_of (r:=l.row.toRowW) (X:=(true == true))
  (show WShape.has [] (.bool true) .bool=true by first | rfl | decide | simp [WShape.has,WShape.arms,WShape.armsAll])
  (show (WTm.eq .res (.lit (.bool true))).value [] { args:=args,res:=some (.bool true),after:=args }=some (.bool (true == true)) from w_eq_bool (w_res rfl) w_lit) rfl
theorem attach_call {l:OpenLaw} {n:Nat} {q:bA} {loose:List bH} {XP:(bH->Option ae)->cr->Prop} {YP:cb->cr->Prop} {d:DefRec}
 (hn:l.most=some n) (hdf:d.params.defaults=[])
 (call:∀ (w:cb) (s₀ s₁:ai) (mg mb:bH->Option ae) (fa:ak) (o:dm) (pm cd doc:ae) (a:ak) (vs:List ae) (ns:List Int),
   Ground q loose [] XP w s₀ mg mb s₁.heap->YP w s₁.heap ->
   s₁.heap.get? fa=some o->o.data=.func (docDef d.name d.params d.body d.scope pm cd doc)->s₁.heap.CodeRec cd d.name->mg d.name=some (.ref fa) ->
   s₁.heap.get? a=some { cls:=.type "list",data:=.seq vs.toArray }->fN vs ns->ns.length<=n->s₁.gens = #[] ->
   lA (be l.prog w) pX (.call (.ref fa) ⟨[.ref a],[]⟩) (fun r s'=>r=.ok (.ret (.bool true))/\OldK s₁.heap s'.heap/\s'.os=s₁.os/\lz s'.gens) s₁) :
 WalkO q loose XP YP l.row.toRowW d [] (fun f vs=>xJ f vs):=by
 intro w s₀ s₁ mg mb G Y fa o pm cd doc dV kV ho hd hcd hD hmg hg args vals as hpre hlay hrd hwl hlo
 obtain rfl:dV=.none:=Dflts.none hD hdf
 obtain rfl:kV=.none:=Dflts.noKw hD
 obtain ⟨a,vs,ns,rfl,rfl,hobj,hints,hlen⟩:=A6 hn hpre hwl
 refine enter_call (pU (call w s₀ s₁ mg mb fa o pm cd doc a vs ns G Y ho (fd_plain hd) hcd hmg hobj hints hlen hg) fun r s' hq=>?_)
 obtain ⟨rfl,h2,h3,h4⟩:=hq
 exact ⟨.inl ⟨.bool true,.bool true,[],rfl,fun _=>rfl,.bool true,Bl l _,fun _=>⟨qm,fun _ hm=>(nomatch hm)⟩⟩,h2,h3,h4⟩
end Att
namespace L2
open PySem PySem.Spec PyProof.Rows
theorem uk:∀ {vs:List ae} {ns:List Int},fN vs ns->eE (ns.map V.int) vs
 | _,_,.nil=>.nil
 | _,_,.cons n t h=>.cons ⟨t,rfl⟩ (uk h)
end L2
namespace L2
open PySem PySem.Spec PyProof.Rows
def cD (s:cV):iN:=match s with
 | .FunctionDef _ a _ _ _ _ _ _ _ _=>a
 | _=>{ posonlyargs:=[],args:=[],vararg:=none,kwonlyargs:=[],kw_defaults:=[],kwarg:=none,defaults:=[] }
def cg (s:cV):List cV:=match s with
 | .FunctionDef _ _ b _ _ _ _ _ _ _=>b
 | _=>[]
def bh (s:cV):dO:=match s with
 | .FunctionDef _ _ _ _ _ _ sc _ _ _=>sc
 | _=>{ kind:=.function,names:=[],isGenerator:=false,isCoroutine:=false }
abbrev CX0:CXT:=fun _ _ _ _ _ _=>False
abbrev E0:XK:=fun _ _ _=>False
theorem Hg {X:Cx}:zo CX0 X E0:=fun _ _ _ _ _ _ _ h=>h.elim
structure Fun (K:ac) (x qual:bH) (st:cV) (f:ak) (fd:dB):Prop where
 ex:∃ (oc:ae) (od:Option ak) (kV doc pm:ae) (an:Option ak) (cdv ct:ae) (osl:Array (Option ae)),
  fd=bc x qual (cD st) (cg st) (bh st) .none kV doc pm an cdv ct/\K.lookup f=some ⟨oc,od,.func fd,osl⟩/\bj K cdv qual=true
 kp:bb K (.ref f)=true
section
variable {P:bA} {w:cb} {K:ac} {mg:bH->Option ae} {base:cr}
theorem Fun.ok {x qual:bH} {st:cV} {f:ak} {fd:dB} {N ps:List bH} {k:Nat} {sp:Sp} (F:Fun K x qual st f fd) (S:gQ N ps (bh st)) (len:∀ vs H Q E,sp vs H Q E->vs.length=ps.length)
 (hbody:∀ (cdv:ae) (A:bK) (outer:List pQ) (s:ai) (H:Hp) (vs:List V) (Q:VK) (E:XK),jm k (A.deeper (fA qual (bh st) s.heap.objs.size f cdv))->sp vs H Q E ->
   ∃ t,PSs (wm CX0 P w K mg base N qual (bh st) f cdv A outer s H E).nox (cg st) t/\t { nx:=fun _ H'=>Q .non H',rt:=Q } (start N vs) H):vO P w K mg base CX0 (k+1) f fd ps sp:=by
 obtain ⟨oc,od,kV,doc,pm,an,cdv,ct,osl,rfl,lk,hcd⟩:=F.ex
 refine JJ lk hcd S len fun A outer s H vs Q E hr hsp=>?_
 obtain ⟨t,h,q⟩:=hbody cdv A outer s H vs Q E hr hsp
 exact ⟨t,h.nox,q⟩
theorem Fun.binds {x qual:bH} {st:cV} {f:ak} {fd:dB} {ps:List bH} (F:Fun K x qual st f fd)
 (h:∀ (kV doc pm:ae) (an:Option ak) (cdv ct:ae) (us:List ae),us.length=ps.length->jJ (bc x qual (cD st) (cg st) (bh st) .none kV doc pm an cdv ct) ⟨us,[]⟩=pure (ps.zip us)):rp K fd ps []:=by
 obtain ⟨oc,od,kV,doc,pm,an,cdv,ct,osl,rfl,lk,hcd⟩:=F.ex
 exact .all (h kV doc pm an cdv ct)
theorem e9 {x qual:bH} {st:cV} {f:ak} {oc:ae} {od an:Option ak} {osl:Array (Option ae)} {kV doc pm cdv ct:ae} (l:K.lookup f=some ⟨oc,od,.func (bc x qual (cD st) (cg st) (bh st) .none kV doc pm an cdv ct),osl⟩)
 (c:bj K cdv qual=true) (k:bb K (.ref f)=true):Fun K x qual st f (bc x qual (cD st) (cg st) (bh st) .none kV doc pm an cdv ct):=⟨⟨oc,od,kV,doc,pm,an,cdv,ct,osl,rfl,l,c⟩,k⟩
end
theorem rD {A:bK} {k:Nat} (hr:jm k A):A.units+1<cx:=yU (Nat.add_le_add_left (by decide:1<=64) _) hr.units
section
variable {X:Cx}
theorem pv (i:Nat) {x:bH} {pos:e7} (hN:X.N[i]?=some x:=by rfl) (hv:Vis X.env.scope x:=by first | exact dI rfl | exact dQ (dI rfl) | exact dQ (dQ rfl)) (hd:(x == ("__debug__" : bH))=false:=by decide)
 (hcd:(x == ("__classdict__" : bH))=false:=by decide):PE X (.Name x pos) (kh i):=xi hN hv hd hcd
end
theorem JY {A B:Prop} (h:B):if false=true then A else B:=by
 rw [if_neg aO]
 exact h
theorem HF {A B:Prop} (h:A):if true=true then A else B:=by
 rw [if_pos rfl]
 exact h
def cQ (H H':Hp):Prop:=∀ b o,H b=some o->H' b=some o
theorem cQ.refl (H:Hp):cQ H H:=fun _ _ h=>h
theorem cQ.trans {H H1 H2:Hp} (a:cQ H H1) (b:cQ H1 H2):cQ H H2:=fun c o h=>b c o (a c o h)
theorem cQ.free {H H':Hp} (e:cQ H H') {l:ak} (h:H' l=Option.none):H l=Option.none:=by
 cases q:H l with
 | none=>rfl
 | some o =>
   rw [e l o q] at h
   cases h
theorem cQ.seq {K:ac} {H H':Hp} {a:ak} {xs:List V} (e:cQ H H') (h:SqL K H a xs):SqL K H' a xs:=by
 rcases h with (h | ⟨o,h⟩) | h
 ·exact .inl (.inl (e _ _ h))
 ·exact .inl (.inr ⟨o,e _ _ h⟩)
 ·exact .inr h
end L2
namespace Ry
open PySem PySem.W PyProof.Rows
variable (O:fC) (key:Nat->O.α) (n:Nat)
def eW {α:Type}:KasT α->(α->Prop)->Prop
 | .ret a,Q=>Q a
 | .ask i j k,Q=>i<n/\j<n/\eW (k (O.blt (key i) (key j))) Q
variable {O key n}
theorem eW.mono {α:Type} {Q Q':α->Prop} (h:∀ a,Q a->Q' a):∀ {t:KasT α},eW O key n t Q->eW O key n t Q'
 | .ret a,q=>h a q
 | .ask i j k,q=>⟨q.1,q.2.1,eW.mono h q.2.2⟩
theorem eW.bind {α β:Type} {f:α->KasT β} {Q:β->Prop}:∀ {t:KasT α},eW O key n t (fun a=>eW O key n (f a) Q)->eW O key n (t.bind f) Q
 | .ret _,q=>q
 | .ask i j k,q=>⟨q.1,q.2.1,eW.bind q.2.2⟩
theorem eW.wp {α:Type} {cmp:Nat->Nat->(Bool->ai->Prop)->ai->Prop} {s:ai} (hc:∀ i j (C:Bool->ai->Prop),i<n->j<n->C (O.blt (key i) (key j)) s->cmp i j C s) {Q:α->ai->Prop} :
 ∀ {t:KasT α},eW O key n t (fun a=>Q a s)->t.kasWp cmp Q s
 | .ret _,q=>q
 | .ask i j k,q=>hc i j _ q.1 q.2.1 (eW.wp hc (t:=k (O.blt (key i) (key j))) q.2.2)
abbrev KN (O:fC) (key:Nat->O.α) (p:Array Nat) (i:Nat):O.α:=key (p.getD i 0)
structure gf (n:Nat) (p:Array Nat):Prop where
 perm:p.Perm (bG n).toArray
theorem gf.size {p:Array Nat} (h:gf n p):p.size=n:=by
 have:=h.perm.size_eq
 simpa using this
theorem gf.lt {p:Array Nat} (h:gf n p) {i:Nat} (hi:i<n):p.getD i 0<n:=by
 have hs:i<p.size:=by rw [h.size];exact hi
 have e:p.getD i 0=p[i]:=by simp [Array.getD,hs]
 rw [e]
 have hm:p[i]∈(bG n).toArray.toList:=(cL.mp h.perm).mem_iff.mp (by simp)
 simpa using hm
theorem jq {p q:Array Nat} {i j:Nat} (h:p[i]?=q[j]?):p.getD i 0=q.getD j 0:=by
 rw [pM,pM,h]
theorem ut {xs:Array Nat} {src d:Nat} (hs:src<xs.size) (hd:d<=src) (k:Nat) :
 KN O key (bubble xs src d) k=if k=src-d then KN O key xs src else if src-d<k/\k<=src then KN O key xs (k-1) else KN O key xs k:=by
 have e:=getElem?_bubble hs d hd k
 unfold KN
 by_cases h1:k=src-d
 ·rw [if_pos h1] at e ⊢;rw [jq e]
 ·rw [if_neg h1] at e ⊢
  by_cases h2:src-d<k/\k<=src
  ·rw [if_pos h2] at e ⊢;rw [jq e]
  ·rw [if_neg h2] at e ⊢;rw [jq e]
theorem BD {xs:Array Nat} {i j:Nat} (hj:j<=xs.size) (k:Nat):KN O key (kas_rev xs i j) k=if i<=k/\k<j then KN O key xs (i+j-1-k) else KN O key xs k:=by
 have e:=getElem?_mirror_all (i:=i) hj k
 unfold KN kas_rev
 by_cases h1:i<=k/\k<j
 ·rw [if_pos h1] at e ⊢;rw [jq e]
 ·rw [if_neg h1] at e ⊢;rw [jq e]
theorem io {xs:Array Nat} {i j:Nat} (hj:j<=xs.size) (heq:∀ k,i<=k->k<j->KN O key xs k=KN O key xs (j-1)) (k:Nat):KN O key (kas_rev xs i j) k=KN O key xs k:=by
 rw [BD hj]
 split
 ·rw [heq _ (by lia) (by lia),heq k (by lia) (by lia)]
 ·rfl
theorem gf.rev {p:Array Nat} (h:gf n p) (i j:Nat):gf n (kas_rev p i j):=⟨(mirror_perm _ _ _ _).trans h.perm⟩
theorem gf.bub {p:Array Nat} (h:gf n p) (i j:Nat):gf n (bubble p i j):=⟨(bubble_perm _ _ _).trans h.perm⟩
def rj (O:fC) (key:Nat->O.α) (p:Array Nat) (k:Nat):Prop:=∀ i j,i<=j->j<k->O.kle (KN O key p i) (KN O key p j)
def uf (O:fC) (key:Nat->O.α) (p:Array Nat) (k:Nat):Prop:=∀ i j,i<=j->j<k->O.kle (KN O key p j) (KN O key p i)
theorem By {p:Array Nat} (hp:gf n p) {Q:Nat->Prop}:∀ (f a:Nat),1<=a->a+f=n->rj O key p a ->
 (∀ m,a<=m->m<=n->rj O key p m->(m=n\/O.klt (KN O key p m) (KN O key p (m-1)))->Q m)->eW O key n (kas_asc p f a) Q
 | 0,a,_,hf,hs,h=>h a (ax _) (by lia) hs (.inl (by lia))
 | f+1,a,h1,hf,hs,h=>by
   refine ⟨hp.lt (by lia),hp.lt (by lia),?_⟩
   show eW O key n (if O.blt (KN O key p a) (KN O key p (a-1))=true then _ else _) Q
   cases hless:O.blt (KN O key p a) (KN O key p (a-1)) with
   | true=>rw [if_pos rfl];exact h a (ax _) (by lia) hs (.inr hless)
   | false =>
     rw [if_neg aO]
     refine By hp f (a+1) (by lia) (by lia) (fun i j hij hj=>?_) fun m h2 h3 h4 h5=>h m (by lia) h3 h4 h5
     by_cases hjx:j<a
     ·exact hs i j hij hjx
     ·have hj':j=a:=by lia
      subst hj'
      by_cases hi':i=j
      ·subst hi';exact dR _
      ·exact ia (hs i (j-1) (by lia) (by lia)) hless
theorem wj {p:Array Nat} {m:Nat} (hp:gf n p) {Q:Nat×Array Nat->Prop} (h1:1<=m) (hm:m<=n) (hs:uf O key p m)
 (h:∀ k p',gf n p'->1<=k->k<=n->rj O key p' k->Q (k,p')):eW O key n (kas_tail3 m n p) Q:=by
 unfold kas_tail3
 have hz:m<=p.size:=by rw [hp.size];exact hm
 refine eW.bind (By (hp.rev 0 m) (n-m) m h1 (by lia) (fun i j hij hj=>?_) fun k h2 h3 h4 _=>h k _ (hp.rev 0 m) (by lia) h3 h4)
 rw [BD hz,BD hz,if_pos (by lia),if_pos (by lia)]
 exact hs _ _ (by lia) (by lia)
theorem rT {Q:Array Nat×Nat×Nat->Prop}:∀ (f:Nat) (p:Array Nat) (a q:Nat),gf n p->1<=a->a+f=n->uf O key p a->q+1<=a ->
 (∀ i,a-(q+1)<=i->i<a->KN O key p i=KN O key p (a-1)) ->
 (∀ p' m q',gf n p'->a<=m->m<=n->uf O key p' m->q'+1<=m->(∀ i,m-(q'+1)<=i->i<m->KN O key p' i=KN O key p' (m-1))->Q (p',m,q'))->eW O key n (kas_desc f p a q) Q
 | 0,p,a,q,hp,_,hf,hs,hq,he,h=>h p a q hp (ax _) (by lia) hs hq he
 | f+1,p,a,q,hp,h1,hf,hs,hq,he,h=>by
   have hz:a<=p.size:=by rw [hp.size];lia
   refine ⟨hp.lt (by lia),hp.lt (by lia),?_⟩
   show eW O key n (if O.blt (KN O key p a) (KN O key p (a-1))=true then _ else _) Q
   cases hless:O.blt (KN O key p a) (KN O key p (a-1)) with
   | true =>
     rw [if_pos rfl]
     have step1:∀ xs:Array Nat,(∀ k,KN O key xs k=KN O key p k)->uf O key xs (a+1):=by
      intro xs hk i j hij hj
      rw [hk,hk]
      by_cases hjx:j<a
      ·exact hs i j hij hjx
      ·have hj':j=a:=by lia
       subst hj'
       by_cases hi':i=j
       ·subst hi';exact dR _
       ·exact ia (gY hless) (hs i (j-1) (by lia) (by lia))
     by_cases hneq:q > 0
     ·rw [if_pos hneq]
      exact rT f _ (a+1) 0 (hp.rev _ _) (by lia) (by lia) (step1 _ (io hz he)) (by lia) (fun i h1 h2=>by congr 1;congr 1;lia) fun p' m q' a1 a2 a3 a4 a5 a6=>h p' m q' a1 (by lia) a3 a4 a5 a6
     ·rw [if_neg hneq]
      exact rT f _ (a+1) 0 hp (by lia) (by lia) (step1 _ fun _=>rfl) (by lia) (fun i h1 h2=>by congr 1;congr 1;lia) fun p' m q' a1 a2 a3 a4 a5 a6=>h p' m q' a1 (by lia) a3 a4 a5 a6
   | false =>
     rw [if_neg aO]
     refine ⟨hp.lt (by lia),hp.lt (by lia),?_⟩
     show eW O key n (if O.blt (KN O key p (a-1)) (KN O key p a)=true then _ else _) Q
     cases hlarger:O.blt (KN O key p (a-1)) (KN O key p a) with
     | true=>rw [if_pos rfl];exact h p a q hp (ax _) (by lia) hs hq he
     | false =>
       rw [if_neg aO]
       have heqx:KN O key p a=KN O key p (a-1):=lr hlarger hless
       refine rT f p (a+1) (q+1) hp (by lia) (by lia) (fun i j hij hj=>?_) (by lia) (fun i h1 h2=>?_) fun p' m q' a1 a2 a3 a4 a5 a6=>h p' m q' a1 (by lia) a3 a4 a5 a6
       ·by_cases hjx:j<a
        ·exact hs i j hij hjx
        ·have hj':j=a:=by lia
         subst hj'
         by_cases hi':i=j
         ·subst hi';exact dR _
         ·rw [heqx];exact hs i (j-1) (by lia) (by lia)
       ·rw [show a+1-1=a by lia]
        by_cases hix:i=a
        ·subst hix;rfl
        ·rw [heqx];exact he i (by lia) (by lia)
theorem o5 {p:Array Nat} {m:Nat} (hp:gf n p) {Q:Nat×Array Nat->Prop} (hm:m+1<=n) (hs:uf O key p (m+1))
 (h:∀ k p',gf n p'->1<=k->k<=n->rj O key p' k->Q (k,p')):eW O key n (kas_descPart m n p) Q:=by
 unfold kas_descPart
 refine eW.bind (rT (n-(m+1)) p (m+1) 0 hp (by lia) (by lia) hs (by lia) (fun i h1 h2=>by congr 1;congr 1;lia) fun p' k q' a1 a2 a3 a4 a5 a6=>?_)
 have hz:k<=p'.size:=by rw [a1.size];exact a3
 by_cases hq:q' > 0
 ·rw [if_pos hq]
  refine wj (m:=k) (a1.rev _ _) (by lia) a3 (fun i j hij hj=>?_) h
  rw [io hz a6,io hz a6]
  exact a4 i j hij hj
 ·rw [if_neg hq]
  exact wj (m:=k) a1 (by lia) a3 a4 h
theorem Cv {p:Array Nat} (hp:gf n p) {Q:Nat×Array Nat->Prop} (h1:1<=n) (h:∀ k p',gf n p'->1<=k->k<=n->rj O key p' k->Q (k,p')):eW O key n (kas_count n p) Q:=by
 unfold kas_count
 refine eW.bind (By hp (n-1) 1 (ax _) (by lia) (fun i j hij hj=>by have:i=j:=(by lia);subst this;exact dR _) fun m hm1 hm2 hsm hor=>?_)
 by_cases hnn:m=n
 ·rw [if_pos (by simpa using hnn)];exact h m p hp hm1 hm2 hsm
 ·rw [if_neg (by simpa using hnn)]
  have hlt:O.klt (KN O key p m) (KN O key p (m-1)):=hor.resolve_left hnn
  have hz:m<=p.size:=by rw [hp.size];exact hm2
  by_cases hgt:m > 1
  ·rw [if_pos hgt]
   refine ⟨hp.lt (by lia),hp.lt (by lia),?_⟩
   show eW O key n (if O.blt (KN O key p 0) (KN O key p (m-1))=true then _ else _) Q
   cases hrose:O.blt (KN O key p 0) (KN O key p (m-1)) with
   | true=>rw [if_pos rfl];exact h m p hp hm1 hm2 hsm
   | false =>
     rw [if_neg aO]
     have hall:∀ k,0<=k->k<m->KN O key p k=KN O key p (m-1):=by
      intro k _ hk
      have a1:=hsm 0 k (by lia) hk
      have a2:=hsm k (m-1) (by lia) (by lia)
      have a3:O.kle (KN O key p (m-1)) (KN O key p 0):=hrose
      exact lr a2 (ia a3 a1)
     refine o5 (hp.rev 0 m) (by lia) (fun i j hij hj=>?_) h
     rw [io hz hall,io hz hall]
     by_cases hjm:j<m
     ·rw [hall i (by lia) (by lia),hall j (by lia) hjm];exact dR _
     ·have hj':j=m:=by lia
      subst hj'
      by_cases hi':i=j
      ·subst hi';exact dR _
      ·rw [hall i (by lia) (by lia)];exact gY hlt
  ·rw [if_neg hgt]
   have e1:m=1:=by lia
   subst e1
   refine o5 hp (by lia) (fun i j hij hj=>?_) h
   by_cases hi':i=j
   ·subst hi';exact dR _
   ·have ei:i=0:=by lia
    have ej:j=1:=by lia
    subst ei ej
    exact gY hlt
theorem sH {p:Array Nat} {k:Nat} (hp:gf n p) (hk:k<n) (hs:rj O key p k) {Q:Nat->Prop}:∀ (f l r:Nat),l<=r->r<=k->r-l<=f ->
 (∀ i,i<l->O.kle (KN O key p i) (KN O key p k))->(∀ i,r<=i->i<k->O.klt (KN O key p k) (KN O key p i)) ->
 (∀ l,l<=k->(∀ i,i<l->O.kle (KN O key p i) (KN O key p k))->(∀ i,l<=i->i<k->O.klt (KN O key p k) (KN O key p i))->Q l)->eW O key n (kas_place p k f l r) Q
 | 0,l,r,hlr,hrk,hf,hlo,hhi,h=>by
   have:l=r:=by lia
   subst this
   exact h l hrk hlo hhi
 | f+1,l,r,hlr,hrk,hf,hlo,hhi,h=>by
   unfold kas_place
   by_cases hge:l≥r
   ·rw [if_pos hge]
    have:l=r:=by lia
    subst this
    exact h l hrk hlo hhi
   ·rw [if_neg hge]
    refine ⟨hp.lt hk,hp.lt (by lia),?_⟩
    show eW O key n (if O.blt (KN O key p k) (KN O key p ((l+r) / 2))=true then _ else _) Q
    cases hless:O.blt (KN O key p k) (KN O key p ((l+r) / 2)) with
    | true =>
      rw [if_pos rfl]
      exact sH hp hk hs f l ((l+r) / 2) (by lia) (by lia) (by lia) hlo (fun i h1 h2=>KeyOrd.klt_of_klt_of_kle hless (hs _ _ h1 h2)) h
    | false =>
      rw [if_neg aO]
      exact sH hp hk hs f ((l+r) / 2+1) r (by lia) (by lia) (by lia) (fun i h1=>ia (hs i ((l+r) / 2) (by lia) (by lia)) (show O.kle _ _ from hless)) hhi h
theorem ER {Q:Array Nat->Prop}:∀ (f:Nat) (p:Array Nat) (k:Nat),gf n p->k+f=n->rj O key p k->(∀ p',gf n p'->rj O key p' n->Q p')->eW O key n (kas_bin f p k) Q
 | 0,p,k,hp,hf,hs,h=>h p hp ((show k=n by lia)▸hs)
 | f+1,p,k,hp,hf,hs,h=>by
   unfold kas_bin
   refine eW.bind (sH hp (by lia) hs k 0 k (by lia) (ax _) (by lia) (fun i hi=>by lia) (fun i h1 h2=>by lia) fun l hl hlo hhi=>?_)
   refine ER f _ (k+1) (hp.bub _ _) (by lia) (fun i j hij hj=>?_) h
   have hks:k<p.size:=by rw [hp.size];lia
   rw [ut hks (by lia),ut hks (by lia),show k-(k-l)=l by lia]
   repeat' split
   all_goals first
    | (exfalso;lia)
    | exact dR _
    | exact hlo _ (by lia)
    | exact gY (hhi _ (by lia) (by lia))
    | exact hs _ _ (by lia) (by lia)
theorem vk {Q:Array Nat->Prop} (h1:1<=n) (h:∀ p,gf n p->rj O key p n->Q p):eW O key n (kas_sort n) Q:=by
 unfold kas_sort
 refine eW.bind (Cv ⟨Array.Perm.refl _⟩ h1 fun k p hp a1 a2 a3=>?_)
 dsimp only
 by_cases hk:k<n
 ·rw [if_pos hk]
  rw [show max k 1=k by lia]
  exact ER (n-k) p k hp (by lia) a3 h
 ·rw [if_neg hk]
  have:k=n:=by lia
  subst this
  exact h p hp a3
end Ry
namespace Ry
open PySem PySem.W PyProof.Rows
abbrev OkN {α:Type} (ts:List α):Prop:=ts.length<64\/(ts.length<=63/\ts.Nodup)
theorem OkN.inj {α:Type} {ts:List α} (h:OkN ts) (d:α):ts.length<64\/(ts.length<=63/\∀ i j,i<ts.length->j<ts.length->ts.getD i d=ts.getD j d->i=j) :=
 h.imp id fun ⟨h1,h2⟩=>⟨h1,fun i j hi hj e=>by
  rw [aB,aj hi,aB,aj hj] at e
  exact (iq h2).mp e⟩
section
variable {prog:bA} {w:cb} {A:bK} {E:ae->ai->Prop} {s:ai} {O:fC} {κ:iz} {key:Nat->O.α} {ks vs:List ae}
theorem w8 (hl:ks.length=vs.length) (h2:2<=vs.length) (h64:vs.length<64\/(vs.length<=63/\∀ i j,i<vs.length->j<vs.length->key i=key j->i=j))
 (lt:∀ i j (C:Bool->ai->Prop),i<vs.length->j<vs.length->C (O.blt (key i) (key j)) s->kas_ask prog w A κ ks i j C s) :
 aM (be prog w) A ((sortRuns').run (pN κ (ks.toArray.zip vs.toArray) #[] 7 none)) (fun r s'=>s'=s/\∃ p:Array Nat,B3 r.2=p.map (kas_item (ks.toArray.zip vs.toArray))/\uV r.2=none/\gf vs.length p/\rj O key p vs.length) E s:=by
 by_cases hs:vs.length<64
 ·exact kat_run (Q:=fun st' s'=>s'=s/\∃ p:Array Nat,B3 st'=p.map (kas_item (ks.toArray.zip vs.toArray))/\uV st'=none/\gf vs.length p/\rj O key p vs.length) hl h2 hs
   (G:=fun p s'=>s'=s/\gf vs.length p/\rj O key p vs.length) (fun p st' s' _ a b c=>⟨c.1,p,a,b,c.2⟩) (eW.wp (O:=O) (key:=key) (n:=vs.length) lt (vk (by lia) fun p hp hu=>⟨rfl,hp,hu⟩))
 ·have:=h64.resolve_left hs
  lia
end
end Ry
namespace Ry
open PySem PySem.Spec PyProof.Rows L2
abbrev St:=L2.St
inductive Da where
 | non | bl (b:Bool) | int (i:Int) | str (x:bH) | tup (ds:List Da) | lst (ds:List Da) | dK (ks:List Key) (ds:List Da) | dT (ks:List (List Key)) (ds:List Da)
mutual
def Den (K:ac) (G:Hp):Da->V->Prop
 | .non,v=>v=.non
 | .bl b,v=>v=.bl b
 | .int i,v=>v=.int i
 | .str x,v=>v=.str x
 | .tup ds,v=>∃ a xs,v=.ref a/\G a=some (.tup xs)/\cO K G ds xs
 | .lst ds,v=>∃ a xs,v=.ref a/\SqL K G a xs/\cO K G ds xs
 | .dK ks ds,v=>∃ a o kvs,v=.ref a/\G a=some (.frz o (.dK kvs))/\kvs.map (·.1)=ks/\cO K G ds (kvs.map (·.2))
 | .dT ks ds,v=>∃ a o kvs,v=.ref a/\G a=some (.frz o (.dT kvs))/\kvs.map (·.1)=ks/\cO K G ds (kvs.map (·.2))
def cO (K:ac) (G:Hp):List Da->List V->Prop
 | [],xs=>xs=[]
 | d::ds,xs=>∃ x r,xs=x::r/\Den K G d x/\cO K G ds r
end
mutual
theorem Den.mono {K:ac} {G G':Hp} (e:cQ G G'):∀ (d:Da) {v:V},Den K G d v->Den K G' d v
 | .non,_,h=>h
 | .bl _,_,h=>h
 | .int _,_,h=>h
 | .str _,_,h=>h
 | .tup ds,_,h=>by obtain ⟨a,xs,rfl,q,r⟩:=h;exact ⟨a,xs,rfl,e _ _ q,cO.mono e ds r⟩
 | .lst ds,_,h=>by obtain ⟨a,xs,rfl,q,r⟩:=h;exact ⟨a,xs,rfl,e.seq q,cO.mono e ds r⟩
 | .dK ks ds,_,h=>by obtain ⟨a,o,kvs,rfl,q,k,r⟩:=h;exact ⟨a,o,kvs,rfl,e _ _ q,k,cO.mono e ds r⟩
 | .dT ks ds,_,h=>by obtain ⟨a,o,kvs,rfl,q,k,r⟩:=h;exact ⟨a,o,kvs,rfl,e _ _ q,k,cO.mono e ds r⟩
theorem cO.mono {K:ac} {G G':Hp} (e:cQ G G'):∀ (ds:List Da) {xs:List V},cO K G ds xs->cO K G' ds xs
 | [],_,h=>h
 | d::ds,_,h=>by obtain ⟨x,r,rfl,h1,h2⟩:=h;exact ⟨x,r,rfl,Den.mono e d h1,cO.mono e ds h2⟩
end
section
variable {K:ac} {G:Hp}
theorem cO.length:∀ {ds:List Da} {xs:List V},cO K G ds xs->xs.length=ds.length
 | [],_,h=>by cases (show _=_ from h);rfl
 | d::ds,_,h=>by obtain ⟨x,r,rfl,_,h2⟩:=h;rw [aG,aG,cO.length h2]
theorem cO.get:∀ {ds:List Da} {xs:List V} {i:Nat} {d:Da},cO K G ds xs->ds[i]?=some d->∃ x,xs[i]?=some x/\Den K G d x
 | [],_,_,_,_,e=>by simp at e
 | d::ds,_,0,_,h,e=>by obtain ⟨x,r,rfl,h1,_⟩:=h;simp at e;subst e;exact ⟨x,rfl,h1⟩
 | d::ds,_,i+1,_,h,e=>by obtain ⟨x,r,rfl,_,h2⟩:=h;simpa using cO.get (i:=i) h2 (by simpa using e)
theorem cO.of_get:∀ {ds:List Da} {xs:List V} {i:Nat} {x:V},cO K G ds xs->xs[i]?=some x->∃ d,ds[i]?=some d/\Den K G d x
 | [],_,_,_,h,e=>by cases (show _=_ from h);simp at e
 | d::ds,_,0,_,h,e=>by obtain ⟨x,r,rfl,h1,_⟩:=h;simp at e;subst e;exact ⟨d,rfl,h1⟩
 | d::ds,_,i+1,_,h,e=>by obtain ⟨x,r,rfl,_,h2⟩:=h;simpa using cO.of_get (i:=i) h2 (by simpa using e)
theorem cO.append:∀ {ds es:List Da} {xs ys:List V},cO K G ds xs->cO K G es ys->cO K G (ds++es) (xs++ys)
 | [],_,_,_,h,h'=>by cases (show _=_ from h);exact h'
 | d::ds,_,_,_,h,h'=>by obtain ⟨x,r,rfl,h1,h2⟩:=h;exact ⟨x,_,rfl,h1,cO.append h2 h'⟩
theorem cO.one {d:Da} {x:V} (h:Den K G d x):cO K G [d] [x]:=⟨x,[],rfl,h,rfl⟩
theorem cO.two {d e:Da} {x y:V} (h:Den K G d x) (h':Den K G e y):cO K G [d,e] [x,y]:=⟨x,[y],rfl,h,cO.one h'⟩
theorem cO.drop:∀ {ds:List Da} {xs:List V} (n:Nat),cO K G ds xs->cO K G (ds.drop n) (xs.drop n)
 | _,_,0,h=>h
 | [],_,_+1,h=>by cases (show _=_ from h);rfl
 | d::ds,_,n+1,h=>by obtain ⟨x,r,rfl,_,h2⟩:=h;exact cO.drop n h2
theorem cO.take:∀ {ds:List Da} {xs:List V} (n:Nat),cO K G ds xs->cO K G (ds.take n) (xs.take n)
 | _,_,0,_=>rfl
 | [],_,_+1,h=>by cases (show _=_ from h);rfl
 | d::ds,_,n+1,h=>by obtain ⟨x,r,rfl,h1,h2⟩:=h;exact ⟨x,_,rfl,h1,cO.take n h2⟩
theorem cO.ints:∀ {ns:List Int} {xs:List V},cO K G (ns.map Da.int) xs↔xs=ns.map V.int
 | [],_=>Iff.rfl
 | n::ns,xs=>by
   constructor
   ·rintro ⟨x,r,rfl,h1,h2⟩
    cases (show _=_ from h1)
    rw [cO.ints.mp h2];rfl
   ·intro e
    subst e
    exact ⟨_,_,rfl,rfl,cO.ints.mpr rfl⟩
end
inductive Kd where
 | pu | bo | fr
 deriving DecidableEq
abbrev Rv:=Kd×Da
def Holds (K:ac) (G:Hp):Da->HO->Prop
 | .lst ds,o=>∃ xs,o=.lst xs/\cO K G ds xs
 | .dK ks ds,o=>∃ kvs,o=.dK kvs/\kvs.map (·.1)=ks/\cO K G ds (kvs.map (·.2))
 | .dT ks ds,o=>∃ kvs,o=.dT kvs/\kvs.map (·.1)=ks/\cO K G ds (kvs.map (·.2))
 | _,_=>False
theorem Holds.mono {K:ac} {G G':Hp} (e:cQ G G') {d:Da} {o:HO} (h:Holds K G d o):Holds K G' d o:=by
 cases d with
 | lst ds=>obtain ⟨xs,rfl,r⟩:=h;exact ⟨xs,rfl,cO.mono e ds r⟩
 | dK ks ds=>obtain ⟨kvs,rfl,k,r⟩:=h;exact ⟨kvs,rfl,k,cO.mono e ds r⟩
 | dT ks ds=>obtain ⟨kvs,rfl,k,r⟩:=h;exact ⟨kvs,rfl,k,cO.mono e ds r⟩
 | _=>exact ck h
def nQ:Da->Bool
 | .dK _ _=>true
 | .dT _ _=>true
 | _=>false
theorem Holds.den {K:ac} {G:Hp} {d:Da} {o:HO} {l:ak} (e:G l=some o) (h:Holds K G d o) (nd:nQ d=false):Den K G d (.ref l):=by
 cases d with
 | lst ds=>obtain ⟨xs,rfl,r⟩:=h;exact ⟨l,xs,rfl,SqL.of e,r⟩
 | dK ks ds=>cases nd
 | dT ks ds=>cases nd
 | _=>exact ck h
def e5:Kd×Da->Bool
 | (.pu,_)=>true
 | (.bo,_)=>false
 | (.fr,d)=>!nQ d
def isT:HO->Bool
 | .tup _=>true
 | _=>false
theorem Holds.nt {K:ac} {G:Hp} {d:Da} {o:HO} (h:Holds K G d o):isT o=false:=by
 cases d with
 | lst ds=>obtain ⟨xs,rfl,_⟩:=h;rfl
 | dK ks ds=>obtain ⟨xs,rfl,_⟩:=h;rfl
 | dT ks ds=>obtain ⟨xs,rfl,_⟩:=h;rfl
 | _=>exact ck h
structure Ext (G H G' H':Hp):Prop where
 hh:cQ H H'
 gg:cQ G G'
 gh:cQ G' H'
 nw:∀ b o,H b=some o->isT o=false->G b=none->G' b=none
theorem Ext.refl {G H:Hp} (h:cQ G H):Ext G H G H:=⟨cQ.refl _,cQ.refl _,h,fun _ _ _ _ n=>n⟩
theorem Ext.trans {G H G1 H1 G2 H2:Hp} (a:Ext G H G1 H1) (b:Ext G1 H1 G2 H2):Ext G H G2 H2 :=
 ⟨a.hh.trans b.hh,a.gg.trans b.gg,b.gh,fun c o e t n=>b.nw c o (a.hh c o e) t (a.nw c o e t n)⟩
theorem cw {G:Hp} {l:ak} {o:HO} (h:G l=none):cQ G (upd G l o):=fun b u e=>by rw [bq (b7 e h)];exact e
theorem ky {G H:Hp} {l:ak} {o:HO} (h:cQ G H):cQ (upd G l o) (upd H l o):=fun b u e=>by
 by_cases hb:b=l
 ·subst hb;rw [aV] at e ⊢;exact e
 ·rw [bq hb] at e ⊢;exact h b u e
theorem Ext.new {G H:Hp} {l:ak} {o:HO} (h:cQ G H) (n:H l=none):Ext G H (upd G l o) (upd H l o) :=
 ⟨cw n,cw (h.free n),ky h,fun b u e _ g=>by rw [bq (b7 e n)];exact g⟩
theorem Ext.own {G H:Hp} {l:ak} {o:HO} (h:cQ G H) (n:H l=none):Ext G H G (upd H l o) :=
 ⟨cw n,cQ.refl _,h.trans (cw n),fun _ _ _ _ g=>g⟩
def gZ (K:ac) (B H0 G H:Hp):Rv->V->Prop
 | (.pu,d),v=>Den K G d v
 | (.bo,d),v=>∃ l o,v=.ref l/\B l=none/\G l=none/\H l=some o/\Holds K G d o
 | (.fr,d),v=>∃ l o,v=.ref l/\H0 l=none/\G l=none/\H l=some o/\Holds K G d o
section
variable {K:ac} {B H0 H1 G H G' H':Hp} {r:Rv} {v:V}
theorem gZ.ext (h:gZ K B H0 G H r v) (e:Ext G H G' H'):gZ K B H0 G' H' r v:=by
 obtain ⟨k,d⟩:=r
 cases k with
 | pu=>exact Den.mono e.gg d h
 | bo=>obtain ⟨l,o,rfl,b,g,q,r⟩:=h;exact ⟨l,o,rfl,b,e.nw _ _ q r.nt g,e.hh _ _ q,r.mono e.gg⟩
 | fr=>obtain ⟨l,o,rfl,n,g,q,r⟩:=h;exact ⟨l,o,rfl,n,e.nw _ _ q r.nt g,e.hh _ _ q,r.mono e.gg⟩
theorem gZ.base (h:gZ K B H1 G H r v) (e:cQ H0 H1):gZ K B H0 G H r v:=by
 obtain ⟨k,d⟩:=r
 cases k with
 | pu=>exact h
 | bo=>exact h
 | fr=>obtain ⟨l,o,rfl,n,g,q,r⟩:=h;exact ⟨l,o,rfl,e.free n,g,q,r⟩
theorem gZ.den (s:cQ G H) (h:gZ K B H0 G H r v) (nd:nQ r.2=false):Den K H r.2 v:=by
 obtain ⟨k,d⟩:=r
 cases k with
 | pu=>exact Den.mono s d h
 | bo=>obtain ⟨l,o,rfl,_,_,q,r⟩:=h;exact (r.mono s).den q nd
 | fr=>obtain ⟨l,o,rfl,_,_,q,r⟩:=h;exact (r.mono s).den q nd
theorem gZ.pure {G0:Hp} (e:Ext G0 H0 G H) (h:gZ K B H0 G H r v) (k:e5 r=true):∃ G',Ext G0 H0 G' H/\cQ G G'/\Den K G' r.2 v:=by
 obtain ⟨kd,d⟩:=r
 cases kd with
 | pu=>exact ⟨G,e,cQ.refl _,h⟩
 | bo=>cases k
 | fr =>
   have nd:nQ d=false:=by simpa [e5] using k
   obtain ⟨l,o,rfl,n,g,q,r⟩:=h
   refine ⟨upd G l o,⟨e.hh,e.gg.trans (cw g),fun b u z=>?_,fun b u z t w=>?_⟩,cw g,(r.mono (cw g)).den aV nd⟩
   ·by_cases hb:b=l
    ·subst hb;rw [aV] at z;rw [<- z];exact q
    ·rw [bq hb] at z;exact e.gh b u z
   ·rw [bq (b7 z n)];exact e.nw b u z t w
theorem gZ.pureB {G0:Hp} (sb:cQ B H0) (e:Ext G0 B G H) (h:gZ K B H0 G H r v) (nd:r.1=.pu\/nQ r.2=false):∃ G',Ext G0 B G' H/\cQ G G'/\Den K G' r.2 v:=by
 obtain ⟨kd,d⟩:=r
 have go:nQ d=false->∀ (l:ak) (o:HO),v=.ref l->B l=none->H l=some o->Holds K G d o->∃ G',Ext G0 B G' H/\cQ G G'/\Den K G' d v:=fun nd l o ev n q r=>by
  subst ev
  cases g:G l with
  | some o' =>
    have:=e.gh l o' g
    rw [q] at this;cases this
    exact ⟨G,e,cQ.refl _,r.den g nd⟩
  | none =>
    refine ⟨upd G l o,⟨e.hh,e.gg.trans (cw g),fun b u z=>?_,fun b u z t w=>?_⟩,cw g,(r.mono (cw g)).den aV nd⟩
    ·by_cases hb:b=l
     ·subst hb;rw [aV] at z;rw [<- z];exact q
     ·rw [bq hb] at z;exact e.gh b u z
    ·rw [bq (b7 z n)];exact e.nw b u z t w
 cases kd with
 | pu=>exact ⟨G,e,cQ.refl _,h⟩
 | bo=>obtain ⟨l,o,ev,n,_,q,r⟩:=h;exact go (nd.resolve_left (by intro z;cases z)) l o ev n q r
 | fr=>obtain ⟨l,o,ev,n,_,q,r⟩:=h;exact go (nd.resolve_left (by intro z;cases z)) l o ev (sb.free n) q r
theorem gZ.non {k:Kd} (h:gZ K B H0 G H (k,.non) v):v=.non:=by
 cases k with
 | pu=>exact h
 | bo=>obtain ⟨_,_,_,_,_,_,r⟩:=h;exact ck r
 | fr=>obtain ⟨_,_,_,_,_,_,r⟩:=h;exact ck r
theorem gZ.bl {k:Kd} {b:Bool} (h:gZ K B H0 G H (k,.bl b) v):v=.bl b:=by
 cases k with
 | pu=>exact h
 | bo=>obtain ⟨_,_,_,_,_,_,r⟩:=h;exact ck r
 | fr=>obtain ⟨_,_,_,_,_,_,r⟩:=h;exact ck r
theorem gZ.int {k:Kd} {i:Int} (h:gZ K B H0 G H (k,.int i) v):v=.int i:=by
 cases k with
 | pu=>exact h
 | bo=>obtain ⟨_,_,_,_,_,_,r⟩:=h;exact ck r
 | fr=>obtain ⟨_,_,_,_,_,_,r⟩:=h;exact ck r
theorem gZ.str {k:Kd} {x:bH} (h:gZ K B H0 G H (k,.str x) v):v=.str x:=by
 cases k with
 | pu=>exact h
 | bo=>obtain ⟨_,_,_,_,_,_,r⟩:=h;exact ck r
 | fr=>obtain ⟨_,_,_,_,_,_,r⟩:=h;exact ck r
theorem gZ.tup {k:Kd} {ds:List Da} (s:cQ G H) (h:gZ K B H0 G H (k,.tup ds) v):∃ a xs,v=.ref a/\H a=some (.tup xs)/\cO K G ds xs/\G a=some (.tup xs):=by
 cases k with
 | pu=>obtain ⟨a,xs,rfl,q,r⟩:=h;exact ⟨a,xs,rfl,s _ _ q,r,q⟩
 | bo=>obtain ⟨_,_,_,_,_,_,r⟩:=h;exact ck r
 | fr=>obtain ⟨_,_,_,_,_,_,r⟩:=h;exact ck r
theorem gZ.lst {k:Kd} {ds:List Da} (s:cQ G H) (h:gZ K B H0 G H (k,.lst ds) v):∃ a xs,v=.ref a/\SqL K H a xs/\cO K G ds xs:=by
 cases k with
 | pu=>obtain ⟨a,xs,rfl,q,r⟩:=h;exact ⟨a,xs,rfl,s.seq q,r⟩
 | bo=>obtain ⟨l,o,rfl,_,_,q,xs,rfl,r⟩:=h;exact ⟨l,xs,rfl,SqL.of q,r⟩
 | fr=>obtain ⟨l,o,rfl,_,_,q,xs,rfl,r⟩:=h;exact ⟨l,xs,rfl,SqL.of q,r⟩
theorem gZ.dK {k:Kd} {ks:List Key} {ds:List Da} (s:cQ G H) (h:gZ K B H0 G H (k,.dK ks ds) v):∃ a kvs,v=.ref a/\Rd H a (.dK kvs)/\kvs.map (·.1)=ks/\cO K G ds (kvs.map (·.2)):=by
 cases k with
 | pu=>obtain ⟨a,o,kvs,rfl,q,e,r⟩:=h;exact ⟨a,kvs,rfl,.inr ⟨o,s _ _ q⟩,e,r⟩
 | bo=>obtain ⟨l,o,rfl,_,_,q,kvs,rfl,e,r⟩:=h;exact ⟨l,kvs,rfl,.inl q,e,r⟩
 | fr=>obtain ⟨l,o,rfl,_,_,q,kvs,rfl,e,r⟩:=h;exact ⟨l,kvs,rfl,.inl q,e,r⟩
theorem gZ.dT {k:Kd} {ks:List (List Key)} {ds:List Da} (s:cQ G H) (h:gZ K B H0 G H (k,.dT ks ds) v):∃ a kvs,v=.ref a/\Rd H a (.dT kvs)/\kvs.map (·.1)=ks/\cO K G ds (kvs.map (·.2)):=by
 cases k with
 | pu=>obtain ⟨a,o,kvs,rfl,q,e,r⟩:=h;exact ⟨a,kvs,rfl,.inr ⟨o,s _ _ q⟩,e,r⟩
 | bo=>obtain ⟨l,o,rfl,_,_,q,kvs,rfl,e,r⟩:=h;exact ⟨l,kvs,rfl,.inl q,e,r⟩
 | fr=>obtain ⟨l,o,rfl,_,_,q,kvs,rfl,e,r⟩:=h;exact ⟨l,kvs,rfl,.inl q,e,r⟩
end
inductive Sl where
 | no | pu (d:Da) | ow (d:Da)
abbrev Rho:=List Sl
def HJ:List bH:=["upwards","heads","_law_turns"]
def KW (e:ak×dm):Option (ak×bH):=match e.2.data with
 | .fields vs=>(match (vs.toList[1]?:Option ae),(vs.toList[11]?:Option ae) with
   | some (.str q _),some (.ref P)=>if HJ.contains q then some (P,q++".<locals>."++"<lambda>") else none
   | _,_=>none)
 | _=>none
def ii (K:ac):List (ak×bH):=K.filterMap KW
def Tbs (K:ac) (G:Hp):Prop:=∀ e∈ii K,G e.1=some (.tab e.2)
theorem Tbs.mono {K:ac} {G G':Hp} (h:Tbs K G) (s:cQ G G'):Tbs K G':=fun e he=>s _ _ (h e he)
structure iC (K:ac) (B G H:Hp) (σ:St) (ρ:Rho):Prop where
 len:σ.length=ρ.length
 pu:∀ (i:Nat) (d:Da),ρ[i]?=some (.pu d)->∃ v,σ[i]?=some (some v)/\Den K G d v
 ow:∀ (i:Nat) (d:Da),ρ[i]?=some (.ow d)->∃ l o,σ[i]?=some (some (.ref l))/\B l=none/\G l=none/\H l=some o/\Holds K G d o
 ap:∀ (i j:Nat) (d d':Da) (l:ak),i≠j->ρ[i]?=some (.ow d)->ρ[j]?=some (.ow d')->σ[i]?=some (some (.ref l))->σ[j]?=some (some (.ref l))->False
 tg:Tbs K G
section
variable {K:ac} {B G H G' H':Hp} {σ:St} {ρ:Rho}
theorem iC.ext (h:iC K B G H σ ρ) (e:Ext G H G' H'):iC K B G' H' σ ρ :=
 ⟨h.len,fun i d q=>let ⟨v,a,b⟩:=h.pu i d q;⟨v,a,Den.mono e.gg d b⟩,fun i d q=>let ⟨l,o,a,b,c,f,g⟩:=h.ow i d q;⟨l,o,a,b,e.nw _ _ f g.nt c,e.hh _ _ f,g.mono e.gg⟩,h.ap,h.tg.mono e.gg⟩
theorem iC.setPu {i:Nat} {d:Da} {v:V} (h:iC K B G H σ ρ) (r:Den K G d v):iC K B G H (σ.set i (some v)) (ρ.set i (.pu d)):=by
 refine ⟨by rw [bU,bU,h.len],fun j d' q=>?_,fun j d' q=>?_,fun j k d1 d2 l hjk q1 q2 s1 s2=>?_,h.tg⟩
 ·by_cases e:i=j
  ·subst e
   have hi:i<ρ.length:=by
    have:=(aE.mp q).1;rwa [bU] at this
   rw [aZ hi] at q
   cases q
   exact ⟨v,aZ (by rw [h.len];exact hi),r⟩
  ·rw [ba e] at q ⊢;exact h.pu j d' q
 ·by_cases e:i=j
  ·subst e
   have hi:i<ρ.length:=by
    have:=(aE.mp q).1;rwa [bU] at this
   rw [aZ hi] at q
   cases q
  ·rw [ba e] at q ⊢;exact h.ow j d' q
 ·have nij:∀ m d',(ρ.set i (.pu d))[m]?=some (.ow d')->i≠m:=fun m d' q e=>by
   subst e
   have hi:i<ρ.length:=by
    have:=(aE.mp q).1;rwa [bU] at this
   rw [aZ hi] at q;cases q
  have n1:=nij _ _ q1
  have n2:=nij _ _ q2
  rw [ba n1] at q1 s1
  rw [ba n2] at q2 s2
  exact h.ap j k d1 d2 l hjk q1 q2 s1 s2
theorem iC.setOw {i:Nat} {d:Da} {l:ak} {o:HO} (h:iC K B G H σ ρ) (nb:B l=none) (ng:G l=none) (q:H l=some o) (r:Holds K G d o)
 (fresh:∀ (j:Nat) (d':Da),j≠i->ρ[j]?=some (.ow d')->σ[j]?≠some (some (.ref l))):iC K B G H (σ.set i (some (.ref l))) (ρ.set i (.ow d)):=by
 refine ⟨by rw [bU,bU,h.len],fun j d' q=>?_,fun j d' q'=>?_,fun j k d1 d2 l' hjk q1 q2 s1 s2=>?_,h.tg⟩
 ·by_cases e:i=j
  ·subst e
   have hi:i<ρ.length:=by
    have:=(aE.mp q).1;rwa [bU] at this
   rw [aZ hi] at q;cases q
  ·rw [ba e] at q ⊢;exact h.pu j d' q
 ·by_cases e:i=j
  ·subst e
   have hi:i<ρ.length:=by
    have:=(aE.mp q').1;rwa [bU] at this
   rw [aZ hi] at q'
   cases q'
   exact ⟨l,o,aZ (by rw [h.len];exact hi),nb,ng,q,r⟩
  ·rw [ba e] at q' ⊢;exact h.ow j d' q'
 ·by_cases e1:i=j
  ·subst e1
   have hi:i<ρ.length:=by
    have:=(aE.mp q1).1;rwa [bU] at this
   rw [aZ (by rw [h.len];exact hi)] at s1
   cases s1
   rw [ba hjk] at q2 s2
   exact fresh k d2 (Ne.symm hjk) q2 s2
  ·by_cases e2:i=k
   ·subst e2
    have hi:i<ρ.length:=by
     have:=(aE.mp q2).1;rwa [bU] at this
    rw [aZ (by rw [h.len];exact hi)] at s2
    cases s2
    rw [ba e1] at q1 s1
    exact fresh j d1 (Ne.symm e1) q1 s1
   ·rw [ba e1] at q1 s1
    rw [ba e2] at q2 s2
    exact h.ap j k d1 d2 l' hjk q1 q2 s1 s2
theorem iC.mut {i:Nat} {d d':Da} {l:ak} {o':HO} (h:iC K B G H σ ρ) (e:ρ[i]?=some (.ow d)) (s:σ[i]?=some (some (.ref l))) (r:Holds K G d' o'):iC K B G (upd H l o') σ (ρ.set i (.ow d')):=by
 have hi:i<ρ.length:=(aE.mp e).1
 refine ⟨by rw [bU,h.len],fun j d1 q=>?_,fun j d1 q=>?_,fun j k d1 d2 l' hjk q1 q2 s1 s2=>?_,h.tg⟩
 ·by_cases ej:i=j
  ·subst ej;rw [aZ hi] at q;cases q
  ·rw [ba ej] at q;exact h.pu j d1 q
 ·by_cases ej:i=j
  ·subst ej
   rw [aZ hi] at q;cases q
   obtain ⟨l0,o,a,b,c,f,g⟩:=h.ow i d e
   rw [s] at a;cases a
   exact ⟨l,o',s,b,c,aV,r⟩
  ·rw [ba ej] at q
   obtain ⟨l0,o,a,b,c,f,g⟩:=h.ow j d1 q
   refine ⟨l0,o,a,b,c,?_,g⟩
   have ne:l0≠l:=fun z=>by subst z;exact h.ap i j d d1 l0 ej e q s a
   rw [bq ne];exact f
 ·have back:∀ (m:Nat) (d0:Da),(ρ.set i (.ow d'))[m]?=some (Sl.ow d0)->∃ d1,ρ[m]?=some (Sl.ow d1):=fun m d0 q=>by
   by_cases em:i=m
   ·subst em;exact ⟨d,e⟩
   ·rw [ba em] at q;exact ⟨d0,q⟩
  obtain ⟨x1,y1⟩:=back _ _ q1
  obtain ⟨x2,y2⟩:=back _ _ q2
  exact h.ap j k x1 x2 l' hjk y1 y2 s1 s2
theorem kY {G H:Hp} {l:ak} {o:HO} (s:cQ G H) (g:G l=none):cQ G (upd H l o):=fun b u e=>by rw [bq (b7 e g)];exact s b u e
theorem Ext.mut {G0 B G H:Hp} {l:ak} {o:HO} (e:Ext G0 B G H) (nb:B l=none) (ng:G l=none):Ext G0 B G (upd H l o) :=
 ⟨kY e.hh nb,e.gg,kY e.gh ng,e.nw⟩
def frz (i:Nat) (ρ:Rho):Rho:=match ρ[i]? with
 | some (.ow (.lst ds))=>ρ.set i (.pu (.lst ds))
 | _=>ρ
theorem iC.frz {G0:Hp} (i:Nat) (e:Ext G0 B G H) (h:iC K B G H σ ρ):∃ G',Ext G0 B G' H/\cQ G G'/\iC K B G' H σ (Ry.frz i ρ):=by
 unfold Ry.frz
 split
 ·rename_i ds q
  obtain ⟨l,o,a,nb,ng,f,g⟩:=h.ow i (.lst ds) q
  have hi:i<ρ.length:=(aE.mp q).1
  have sG:cQ G (upd G l o):=cw ng
  refine ⟨upd G l o,⟨e.hh,e.gg.trans sG,fun b u z=>?_,fun b u z t w=>by rw [bq (b7 z nb)];exact e.nw b u z t w⟩,sG,by rw [bU,h.len],fun j d1 q1=>?_,fun j d1 q1=>?_,fun j k d1 d2 l' hjk q1 q2 s1 s2=>?_,h.tg.mono sG⟩
  ·by_cases hb:b=l
   ·subst hb;rw [aV] at z;rw [<- z];exact f
   ·rw [bq hb] at z;exact e.gh b u z
  ·by_cases ej:i=j
   ·subst ej
    rw [aZ hi] at q1;cases q1
    exact ⟨_,a,(g.mono sG).den aV rfl⟩
   ·rw [ba ej] at q1
    obtain ⟨v,x,y⟩:=h.pu j d1 q1
    exact ⟨v,x,Den.mono sG d1 y⟩
  ·by_cases ej:i=j
   ·subst ej;rw [aZ hi] at q1;cases q1
   ·rw [ba ej] at q1
    obtain ⟨l0,o0,x,y,z,f0,g0⟩:=h.ow j d1 q1
    refine ⟨l0,o0,x,y,?_,f0,g0.mono sG⟩
    have ne:l0≠l:=fun w=>by subst w;exact h.ap i j (.lst ds) d1 l0 ej q q1 a x
    rw [bq ne];exact z
  ·have back:∀ (m:Nat) (d0:Da),(ρ.set i (.pu (.lst ds)))[m]?=some (Sl.ow d0)->ρ[m]?=some (Sl.ow d0):=fun m d0 q=>by
    by_cases em:i=m
    ·subst em;rw [aZ hi] at q;cases q
    ·rw [ba em] at q;exact q
   exact h.ap j k d1 d2 l' hjk (back _ _ q1) (back _ _ q2) s1 s2
 ·exact ⟨G,e,cQ.refl _,h⟩
end
def tX (K:ac) (f:Rho->Option Rv):TE:=fun σ H Q=>∃ B G ρ r,cQ G H/\cQ B H/\iC K B G H σ ρ/\f ρ=some r/\∀ v G' H',Ext G H G' H'->gZ K B H G' H' r v->Q v H'
abbrev PX (X:Cx) (e:aP) (f:Rho->Option Rv):Prop:=PE X e (tX X.K f)
def tXT (K:ac) (f:Rho->Option Bool):TT:=fun σ H Q=>∃ B G ρ b,cQ G H/\cQ B H/\iC K B G H σ ρ/\f ρ=some b/\∀ G' H',Ext G H G' H'->Q b H'
abbrev PXT (X:Cx) (e:aP) (f:Rho->Option Bool):Prop:=PT X e (tXT X.K f)
abbrev PXW (X:Cx) (e:aP) (f:Rho->Option Bool):Prop:=PW X e (tXT X.K f)
def fJ (K:ac) (B H0 G H:Hp):List Rv->List V->Prop
 | [],vs=>vs=[]
 | r::rs,vs=>∃ v r',vs=v::r'/\gZ K B H0 G H r v/\fJ K B H0 G H rs r'
def tXA (K:ac) (f:Rho->Option (List Rv)):TA:=fun σ H Q=>∃ B G ρ rs,cQ G H/\cQ B H/\iC K B G H σ ρ/\f ρ=some rs/\∀ vs G' H',Ext G H G' H'->fJ K B H G' H' rs vs->Q vs H'
abbrev PXA (X:Cx) (es:List aP) (f:Rho->Option (List Rv)):Prop:=PA X es (tXA X.K f)
theorem PE.imp {X:Cx} {e:aP} {t t':TE} (h:PE X e t) (i:∀ σ H Q,t' σ H Q->t σ H Q):PE X e t':=fun pins s σ H Q I q=>h pins s σ H Q I (i σ H Q q)
theorem PT.imp {X:Cx} {e:aP} {t t':TT} (h:PT X e t) (i:∀ σ H Q,t' σ H Q->t σ H Q):PT X e t':=fun pins s σ H Q I q=>h pins s σ H Q I (i σ H Q q)
theorem PW.imp {X:Cx} {e:aP} {t t':TT} (h:PW X e t) (i:∀ σ H Q,t' σ H Q->t σ H Q):PW X e t':=fun wh pins s σ H Q I q=>h wh pins s σ H Q I (i σ H Q q)
theorem PA.imp {X:Cx} {es:List aP} {t t':TA} (h:PA X es t) (i:∀ σ H Q,t' σ H Q->t σ H Q):PA X es t':=fun pos pins s σ H Q I q=>h pos pins s σ H Q I (i σ H Q q)
theorem PS.imp {X:Cx} {st:cV} {t t':TS} (h:PS X st t) (i:∀ D σ H,t' D σ H->t D σ H):PS X st t':=fun pins s σ H D I q=>h pins s σ H D I (i D σ H q)
theorem PSs.imp {X:Cx} {st:List cV} {t t':TS} (h:PSs X st t) (i:∀ D σ H,t' D σ H->t D σ H):PSs X st t':=fun pins s σ H D I q=>h pins s σ H D I (i D σ H q)
section
variable {K:ac} {B H0 H1 G H G' H':Hp}
theorem fJ.base:∀ {rs:List Rv} {vs:List V},fJ K B H1 G H rs vs->cQ H0 H1->fJ K B H0 G H rs vs
 | [],_,h,_=>h
 | r::rs,_,h,e=>by obtain ⟨v,r',rfl,a,b⟩:=h;exact ⟨v,r',rfl,a.base e,fJ.base b e⟩
def kH:List Rv->Option (List Da)
 | []=>some []
 | r::rs=>if e5 r=true then (kH rs).map (r.2::·) else none
theorem fJ.pure {G0:Hp}:∀ {rs:List Rv} {vs:List V} {ds:List Da} {G:Hp},Ext G0 H0 G H->fJ K B H0 G H rs vs->kH rs=some ds->∃ G',Ext G0 H0 G' H/\cQ G G'/\cO K G' ds vs
 | [],_,_,G,e,h,q=>by cases (show _=_ from h);cases q;exact ⟨G,e,cQ.refl _,rfl⟩
 | (k,d)::rs,_,ds,G,e,h,q=>by
   obtain ⟨v,r',rfl,a,b⟩:=h
   unfold kH at q
   by_cases hk:e5 (k,d)=true
   case neg=>rw [if_neg hk] at q;cases q
   case pos =>
    rw [if_pos hk] at q
    cases q':kH rs with
    | none=>rw [q'] at q;cases q
    | some ds' =>
      rw [q'] at q
      cases q
      obtain ⟨G1,e1,s1,b1⟩:=fJ.pure e b q'
      have go:∃ G',Ext G0 H0 G' H/\cQ G1 G'/\Den K G' d v:=by
       cases k with
       | pu=>exact ⟨G1,e1,cQ.refl _,Den.mono s1 d a⟩
       | bo=>cases hk
       | fr =>
         have nd:nQ d=false:=by simpa [e5] using hk
         obtain ⟨l,o,rfl,n,g,qq,r⟩:=a
         cases g1:G1 l with
         | some o' =>
           have:=e1.gh l o' g1
           rw [qq] at this;cases this
           exact ⟨G1,e1,cQ.refl _,(r.mono s1).den g1 nd⟩
         | none =>
           refine ⟨upd G1 l o,⟨e1.hh,e1.gg.trans (cw g1),fun b u z=>?_,fun b u z t w=>?_⟩,cw g1,(r.mono (s1.trans (cw g1))).den aV nd⟩
           ·by_cases hb:b=l
            ·subst hb;rw [aV] at z;rw [<- z];exact qq
            ·rw [bq hb] at z;exact e1.gh b u z
           ·rw [bq (b7 z n)];exact e1.nw b u z t w
      obtain ⟨G2,e2,s2,a2⟩:=go
      exact ⟨G2,e2,s1.trans s2,v,r',rfl,a2,cO.mono s2 ds' b1⟩
end
section
variable {X:Cx}
def aW (i:Nat):Rho->Option Rv:=fun ρ=>match ρ[i]? with
 | some (.pu d)=>some (.pu,d)
 | some (.ow d)=>some (.bo,d)
 | _=>none
theorem j5 (i:Nat) {x:bH} {pos:e7} (hN:X.N[i]?=some x:=by rfl) (hv:Vis X.env.scope x:=by first | exact dI rfl | exact dQ (dI rfl) | exact dQ (dQ rfl)) (hd:(x == ("__debug__" : bH))=false:=by decide)
 (hcd:(x == ("__classdict__" : bH))=false:=by decide):PX X (.Name x pos) (aW i):=by
 refine PE.imp (xi hN hv hd hcd) fun σ H Q ⟨B,G,ρ,r,sg,sb,st,e,k⟩=>?_
 unfold aW at e
 split at e
 ·rename_i d q
  cases e
  obtain ⟨v,a,b⟩:=st.pu i d q
  exact ⟨v,a,k v G H (Ext.refl sg) b⟩
 ·rename_i d q
  cases e
  obtain ⟨l,o,a,nb,ng,f,g⟩:=st.ow i d q
  exact ⟨_,a,k _ G H (Ext.refl sg) ⟨l,o,rfl,nb,ng,f,g⟩⟩
 ·cases e
def xC (d:Da):Rho->Option Rv:=fun _=>some (.pu,d)
theorem tH {i j pos}:PX X (.Constant (.int i) j pos) (xC (.int i)):=PE.imp JE fun σ H Q ⟨B,G,ρ,r,sg,sb,st,e,k⟩=>by cases e;exact k _ G H (Ext.refl sg) rfl
theorem K6 {b j pos}:PX X (.Constant (.bool b) j pos) (xC (.bl b)):=PE.imp AI fun σ H Q ⟨B,G,ρ,r,sg,sb,st,e,k⟩=>by cases e;exact k _ G H (Ext.refl sg) rfl
def x2 (op:Rv->Rv->Option Rv) (fa fb:Rho->Option Rv):Rho->Option Rv:=fun ρ=>match fa ρ with
 | none=>none
 | some a=>match fb ρ with
   | none=>none
   | some b=>op a b
def Op2 (K:ac) (r:R2) (op:Rv->Rv->Option Rv):Prop:=∀ (B H0 G H:Hp) (a b c:Rv) (x y:V) (Q:VK),cQ G H->gZ K B H0 G H a x->gZ K B H0 G H b y->op a b=some c ->
 (∀ v G' H',Ext G H G' H'->gZ K B H G' H' c v->Q v H')->r x y H Q
theorem Ke {K:ac} {r:R2} {op:Rv->Rv->Option Rv} {fa fb:Rho->Option Rv} (h:Op2 K r op) {σ:St} {H:Hp} {Q:VK} (q:tX K (x2 op fa fb) σ H Q):tOp r (tX K fa) (tX K fb) σ H Q:=by
 obtain ⟨B,G,ρ,c,sg,sb,st,e,k⟩:=q
 unfold x2 at e
 split at e
 ·cases e
 ·rename_i a ea
  split at e
  ·cases e
  ·rename_i b eb
   refine ⟨B,G,ρ,a,sg,sb,st,ea,fun x G1 H1 E1 ra=>⟨B,G1,ρ,b,E1.gh,sb.trans E1.hh,st.ext E1,eb,fun y G2 H2 E2 rb=>?_⟩⟩
   exact h B H G2 H2 a b c x y _ E2.gh (ra.ext E2) (rb.base E1.hh) e fun v G3 H3 E3 rc=>k v G3 H3 ((E1.trans E2).trans E3) (rc.base (E1.hh.trans E2.hh))
theorem CW {a b:aP} {pos:e7} {o:Operator} {r:R2} {op:Rv->Rv->Option Rv} {fa fb:Rho->Option Rv} (ho:OpR X (i7 o) r) (h:Op2 X.K r op) (ha:PX X a fa) (hb:PX X b fb):PX X (.BinOp a o b pos) (x2 op fa fb) :=
 PE.imp (KB ho ha hb) fun _ _ _ q=>Ke h q
theorem Kc {a b:aP} {pos:e7} {o:pS} {r:R2} {op:Rv->Rv->Option Rv} {fa fb:Rho->Option Rv} (ho:OpR X (dM o) r) (h:Op2 X.K r op) (ha:PX X a fa) (hb:PX X b fb) (hm:eM o b=false):PX X (.Compare a [o] [b] pos) (x2 op fa fb) :=
 PE.imp (Hy ho ha hb hm) fun _ _ _ q=>Ke h q
theorem Op2.or {K:ac} {r r':R2} {op op':Rv->Rv->Option Rv} (h:Op2 K r op) (h':Op2 K r' op'):Op2 K (fun x y H Q=>r x y H Q\/r' x y H Q) (fun a b=>(op a b).or (op' a b)):=by
 intro B H0 G H a b c x y Q sg ra rb e k
 dsimp only at e
 cases q:op a b with
 | some z=>rw [q] at e;exact .inl (h B H0 G H a b c x y Q sg ra rb (by rw [q];exact e) k)
 | none=>rw [q] at e;exact .inr (h' B H0 G H a b c x y Q sg ra rb e k)
end
def oI (c:Int->Int->Bool) (g:Int->Int->Int):Rv->Rv->Option Rv
 | (_,.int i),(_,.int j)=>if c i j=true then some (.pu,.int (g i j)) else none
 | _,_=>none
theorem AB {K:ac} {C:Int->Int->Prop} {c:Int->Int->Bool} {g:Int->Int->Int} (h:∀ i j,c i j=true->C i j):Op2 K (rI C fun i j=>.int (g i j)) (oI c g):=by
 rintro B H0 G H ⟨ka,a⟩ ⟨kb,b⟩ r x y Q sg ra rb e k
 cases a with
 | int i =>
   cases b with
   | int j =>
     have e:(if c i j=true then some ((Kd.pu,Da.int (g i j)):Rv) else none)=some r:=e
     split at e
     ·rename_i hc
      cases e
      cases ra.int;cases rb.int
      exact ⟨i,j,rfl,rfl,h i j hc,k _ G H (Ext.refl sg) rfl⟩
     ·cases e
   | _=>cases e
 | _=>cases e
theorem xk {K:ac} {g:Int->Int->Int}:Op2 K (rI0 fun i j=>.int (g i j)) (oI (fun _ _=>true) g):=by
 rintro B H0 G H ⟨ka,a⟩ ⟨kb,b⟩ r x y Q sg ra rb e k
 cases a with
 | int i =>
   cases b with
   | int j =>
     cases e
     cases ra.int;cases rb.int
     exact ⟨i,j,rfl,rfl,k _ G H (Ext.refl sg) rfl⟩
   | _=>cases e
 | _=>cases e
def oB (g:Int->Int->Bool):Rv->Rv->Option Rv
 | (_,.int i),(_,.int j)=>some (.pu,.bl (g i j))
 | _,_=>none
theorem Fc {K:ac} {g:Int->Int->Bool}:Op2 K (rI0 fun i j=>.bl (g i j)) (oB g):=by
 rintro B H0 G H ⟨ka,a⟩ ⟨kb,b⟩ r x y Q sg ra rb e k
 cases a with
 | int i =>
   cases b with
   | int j =>
     cases e
     cases ra.int;cases rb.int
     exact ⟨i,j,rfl,rfl,k _ G H (Ext.refl sg) rfl⟩
   | _=>cases e
 | _=>cases e
def JT (K:ac):R2:=fun x y H Q=>∃ a b ys,x=.ref a/\y=.ref b/\SqT K H a []/\SqT K H b ys/\Q (.ref b) H
theorem Gf {X:Cx}:OpR X (i7 .Add) (JT X.K):=by
 intro pins s σ H x y v u Q I rx ry h
 obtain ⟨a,b,ys,rfl,rfl,ha,hb,q⟩:=h
 cases rx
 cases ry
 obtain ⟨its,r1,p1,_⟩:=I.tuple ha
 obtain ⟨its2,r2,p2,_⟩:=I.tuple hb
 cases r1
 obtain ⟨⟨cls,dd,data,sl⟩,ho,hc,n,hd⟩:=id p1
 obtain ⟨⟨cls2,dd2,data2,sl2⟩,ho2,hc2,n2,hd2⟩:=id p2
 simp only at hc hd hc2 hd2
 subst hc hd hc2 hd2
 exact pW ⟨_,ho,rfl⟩ ⟨_,ho2,rfl⟩ q0 xI jK jn (jg _ _)
  (tuple_addW0 a b ([]:List ae).toArray its2.toArray n n2 dd dd2 sl sl2 (by simp)) ⟨ho,ho2,⟨.ref b,H,I,rfl,q⟩⟩
def CI:Rv->Rv->Option Rv
 | (_,.tup xs),(_,.tup ys)=>if xs.length+ys.length<=1000000 then some (.pu,.tup (xs++ys)) else none
 | _,_=>none
theorem CM {K:ac}:Op2 K (fun x y H Q=>IG K x y H Q\/JT K x y H Q) CI:=by
 rintro B H0 G H ⟨ka,a⟩ ⟨kb,b⟩ r x y Q sg ra rb e k
 cases a with
 | tup xs =>
   cases b with
   | tup ys =>
   have e:(if xs.length+ys.length<=1000000 then some ((Kd.pu,Da.tup (xs++ys)):Rv) else none)=some r:=e
   split at e
   ·rename_i hz
    cases e
    obtain ⟨p,vs,rfl,q1,d1,g1⟩:=ra.tup sg
    obtain ⟨p',ws,rfl,q2,d2,g2⟩:=rb.tup sg
    have l1:=d1.length
    have l2:=d2.length
    have hs:aL=16777216:=bE
    by_cases hv:vs=[]
    ·subst hv
     refine .inr ⟨p,p',ws,rfl,rfl,SqT.of q1,SqT.of q2,k _ G H (Ext.refl sg) ?_⟩
     have:xs=[]:=jV.mp (by rw [<- l1];rfl)
     subst this
     exact ⟨p',ws,rfl,g2,d2⟩
    ·refine .inl ⟨p,p',vs,ws,rfl,rfl,SqT.of q1,SqT.of q2,hv,by lia,fun hw=>?_,fun hw l hl=>?_⟩
     ·subst hw
      refine k _ G H (Ext.refl sg) ?_
      have:ys=[]:=jV.mp (by rw [<- l2];rfl)
      subst this
      rw [eV]
      exact ⟨p,vs,rfl,g1,d1⟩
     ·refine k _ _ _ (Ext.new sg hl) ⟨l,_,rfl,aV,?_⟩
      exact cO.mono (cw (sg.free hl)) _ (cO.append d1 d2)
   ·cases e
   | _=>cases e
 | _=>cases e
def IJ (K:ac):R2:=fun x y H Q=>∃ l b xs zs,x=.ref l/\y=.ref b/\SqL K H l xs/\SqL K H b zs/\xs.length+zs.length<=aL/\∀ p,H p=none->Q (.ref p) (upd H p (.lst (xs++zs)))
theorem G9 {X:Cx}:OpR X (i7 .Add) (IJ X.K):=by
 intro pins s σ H x y v u Q I rx ry h
 obtain ⟨l,b,xs,zs,rfl,rfl,hH,hB,hz,q⟩:=h
 cases rx
 cases ry
 obtain ⟨its,r,⟨⟨cls,dd,data,sl⟩,n,ho,hc,hd,hs⟩,z⟩:=I.list hH
 obtain ⟨its2,r2,⟨⟨cls2,dd2,data2,sl2⟩,n2,ho2,hc2,hd2,hs2⟩,z2⟩:=I.list hB
 simp only at hc hs hc2 hs2
 subst hc hs hc2 hs2
 have l1:=r.length
 have l2:=r2.length
 have ea:its.toArray++its2.toArray=(its++its2).toArray:=by simp
 refine pW ⟨_,ho,rfl⟩ ⟨_,ho2,rfl⟩ noFill_list_add seq_list_add PySem.F.slot_list_add PySem.F.entry_list_add (PySem.F.args_list_add_2 _ _) (list_addW l b its.toArray its2.toArray n n2 dd dd2 sl sl2 (by rw [aA,aA];lia)) ⟨ho,ho2,?_⟩
 rw [ea]
 exact ⟨.ref _,_,I.lnew (t':=s.toks) (r.append r2) (by rw [aN];lia),rfl,q _ I.fresh⟩
def CT:Rv->Rv->Option Rv
 | (_,.lst xs),(_,.lst ys)=>if xs.length+ys.length<=1000000 then some (.fr,.lst (xs++ys)) else none
 | _,_=>none
theorem Cz {K:ac}:Op2 K (IJ K) CT:=by
 rintro B H0 G H ⟨ka,a⟩ ⟨kb,b⟩ r x y Q sg ra rb e k
 have hs:aL=16777216:=bE
 cases a with
 | lst xs =>
   cases b with
   | lst ys =>
   have e:(if xs.length+ys.length<=1000000 then some ((Kd.fr,Da.lst (xs++ys)):Rv) else none)=some r:=e
   split at e
   ·rename_i hz
    cases e
    obtain ⟨l1,vs,rfl,q1,d1⟩:=ra.lst sg
    obtain ⟨l2,ws,rfl,q2,d2⟩:=rb.lst sg
    have e1:=d1.length
    have e2:=d2.length
    refine ⟨l1,l2,vs,ws,rfl,rfl,q1,q2,by lia,fun p hp=>k _ G _ (Ext.own sg hp) ?_⟩
    exact ⟨p,_,rfl,hp,sg.free hp,aV,_,rfl,cO.append d1 d2⟩
   ·cases e
   | _=>cases e
 | _=>cases e
def nL:Rv->Rv->Option Rv:=fun a b=>(oI (fun _ _=>true) (·+·) a b).or ((CI a b).or (CT a b))
section
variable {X:Cx} {a b:aP} {pos:e7} {fa fb:Rho->Option Rv}
theorem EQ (ha:PX X a fa) (hb:PX X b fb):PX X (.BinOp a .Add b pos) (x2 nL fa fb) :=
 CW (JV.or ((Fy.or Gf).or G9)) (xk.or (CM.or Cz)) ha hb
theorem Kl (ha:PX X a fa) (hb:PX X b fb):PX X (.BinOp a .Sub b pos) (x2 (oI (fun _ _=>true) (·-·)) fa fb):=CW ID xk ha hb
def tN (i j:Int):Bool:=(decide (-(2 ^ 64)<i)&&decide (i<2 ^ 64))||(decide (-(2 ^ 64)<j)&&decide (j<2 ^ 64))
theorem FJ (i j:Int) (h:tN i j=true):Ku i j:=by
 unfold tN at h
 rcases iK _ _▸h with h | h
 ·rw [aY] at h;exact .inl ⟨of_decide_eq_true h.1,of_decide_eq_true h.2⟩
 ·rw [aY] at h;exact .inr ⟨of_decide_eq_true h.1,of_decide_eq_true h.2⟩
theorem EA (ha:PX X a fa) (hb:PX X b fb):PX X (.BinOp a .Mult b pos) (x2 (oI tN (·*·)) fa fb):=CW IP (AB FJ) ha hb
theorem Jh (ha:PX X a fa) (hb:PX X b fb):PX X (.BinOp a .Mod b pos) (x2 (oI (fun _ j=>decide (0<j)) (·%·)) fa fb):=CW Jk (AB fun _ _ h=>of_decide_eq_true h) ha hb
end
def gL:List Da->Option (List Int)
 | []=>some []
 | .int i::r=>(gL r).map (i::·)
 | _=>none
theorem gT:∀ {ds:List Da} {ns:List Int},gL ds=some ns->ds=ns.map Da.int
 | [],ns,h=>by cases h;rfl
 | d::r,ns,h=>by
   cases d with
   | int i =>
     have h:(gL r).map (i::·)=some ns:=h
     cases q:gL r with
     | none=>rw [q] at h;cases h
     | some ms=>rw [q] at h;cases h;rw [gT q];rfl
   | _=>cases h
def LD:Rv->Rv->Option Rv
 | (_,.tup xs),(_,.tup ys)=>match gL xs,gL ys with
   | some ns,some ms=>some (.pu,.bl (HT.lexLt ns ms))
   | _,_=>none
 | _,_=>none
theorem E7 {K:ac}:Op2 K (LB K) LD:=by
 rintro B H0 G H ⟨ka,a⟩ ⟨kb,b⟩ r x y Q sg ra rb e k
 cases a with
 | tup xs =>
   cases b with
   | tup ys =>
   have e:(match gL xs,gL ys with
    | some ns,some ms=>some ((Kd.pu,Da.bl (HT.lexLt ns ms)):Rv)
    | _,_=>none)=some r:=e
   split at e
   ·rename_i ns ms e1 e2
    cases e
    obtain ⟨p,vs,rfl,q1,d1,_⟩:=ra.tup sg
    obtain ⟨p',ws,rfl,q2,d2,_⟩:=rb.tup sg
    rw [gT e1] at d1
    rw [gT e2] at d2
    cases cO.ints.mp d1
    cases cO.ints.mp d2
    exact ⟨p,p',ns,ms,rfl,rfl,SqT.of q1,SqT.of q2,k _ G H (Ext.refl sg) rfl⟩
   ·cases e
   | _=>cases e
 | _=>cases e
def oLt:Rv->Rv->Option Rv:=fun a b=>(oB (fun i j=>decide (i<j)) a b).or (LD a b)
mutual
def toP:Da->PyData
 | .non=>.none
 | .bl b=>.bool b
 | .int i=>.int i
 | .str x=>.str x
 | .tup ds=>.tuple (ir ds)
 | .lst ds=>.list (ir ds)
 | .dK _ _=>.dict []
 | .dT _ _=>.dict []
def ir:List Da->List PyData
 | []=>[]
 | d::ds=>toP d::ir ds
end
section
variable {X:Cx} {pins:List (ak×dm)} {σ:St} {H:Hp} {s:ai}
mutual
theorem gV (I:Inv X pins σ H s):∀ (d:Da) (v:V) (u:ae),Den X.K H d v->gD v u->(toP d).canLay0=true->∃ as,Reads s.heap u (toP d) as
 | .non,v,u,h,r,_=>by cases (show v=_ from h);cases (show u=_ from r);exact ⟨_,.none⟩
 | .bl b,v,u,h,r,_=>by cases (show v=_ from h);cases (show u=_ from r);exact ⟨_,.bool b⟩
 | .int i,v,u,h,r,_=>by cases (show v=_ from h);obtain ⟨t,rfl⟩:=(show ∃ t,u=eR i t from r);exact ⟨_,.int i t⟩
 | .str x,v,u,h,r,_=>by cases (show v=_ from h);obtain ⟨t,rfl⟩:=(show ∃ t,u=sJ x t from r);exact ⟨_,.str x t⟩
 | .tup ds,v,u,h,r,c=>by
   obtain ⟨a,xs,rfl,q,dl⟩:=h
   cases (show u=bN a from r)
   obtain ⟨its,rv,⟨o,ho,hc,n,hd⟩,_⟩:=I.tuple (SqT.of q)
   obtain ⟨as,ra⟩:=readsAll_of I ds xs its dl rv (by simpa [toP,cK] using c)
   exact ⟨_,.tuple ho hc hd (by simpa using ra)⟩
 | .lst ds,v,u,h,r,c=>by
   obtain ⟨a,xs,rfl,q,dl⟩:=h
   cases (show u=bN a from r)
   obtain ⟨its,rv,pl,_⟩:=I.list q
   obtain ⟨o,ho,hc,n,hd⟩:=pl.isList
   obtain ⟨as,ra⟩:=readsAll_of I ds xs its dl rv (by simpa [toP,cK] using c)
   exact ⟨_,.list ho hc hd (by simpa using ra)⟩
 | .dK _ _,_,_,_,_,c=>by simp [toP,cK] at c
 | .dT _ _,_,_,_,_,c=>by simp [toP,cK] at c
theorem readsAll_of (I:Inv X pins σ H s):∀ (ds:List Da) (xs:List V) (us:List ae),cO X.K H ds xs->eE xs us->cp (ir ds)=true->∃ as,ReadsAll s.heap us (ir ds) as
 | [],xs,us,h,r,_=>by cases (show xs=_ from h);cases r;exact ⟨_,.nil⟩
 | d::ds,xs,us,h,r,c=>by
   obtain ⟨x,xr,rfl,h1,h2⟩:=h
   cases r with
   | cons r1 r2 =>
     have c':(toP d).canLay0=true/\cp (ir ds)=true:=by simpa [ir,cp] using c
     obtain ⟨as,a1⟩:=gV I d _ _ h1 r1 c'.1
     obtain ⟨bs,a2⟩:=readsAll_of I ds _ _ h2 r2 c'.2
     exact ⟨_,.cons a1 a2⟩
end
end
def CU (d e:Da):Bool:=(toP d).canLay0&&(toP e).canLay0&&decide (min (toP d).depth (toP e).depth<=60)
def eqD (d e:Da):Bool:=cA (toP d) (toP e)
def Lb (K:ac) (neg:Bool):R2:=fun x y H Q=>∃ d e,Den K H d x/\Den K H e y/\CU d e=true/\Q (.bl (if neg then !eqD d e else eqD d e)) H
def oEq (neg:Bool):Rv->Rv->Option Rv:=fun a b=>if CU a.2 b.2=true then some (.pu,.bl (if neg then !eqD a.2 b.2 else eqD a.2 b.2)) else none
theorem wM {d:Da} (h:(toP d).canLay0=true):nQ d=false:=by
 cases d<;>first | rfl | (simp [toP,cK] at h)
theorem Eh {K:ac} {neg:Bool}:Op2 K (Lb K neg) (oEq neg):=by
 rintro B H0 G H a b r x y Q sg ra rb e k
 unfold oEq at e
 split at e
 ·rename_i h
  cases e
  have h2:=h
  unfold CU at h2
  rw [aY,aY] at h2
  exact ⟨a.2,b.2,ra.den sg (wM h2.1.1),rb.den sg (wM h2.1.2),h,k _ G H (Ext.refl sg) rfl⟩
 ·cases e
theorem zJ {d e:Da} (h:CU d e=true):(toP d).canLay0=true/\(toP e).canLay0=true/\min (toP d).depth (toP e).depth<=60:=by
 unfold CU at h
 rw [aY,aY] at h
 exact ⟨h.1.1,h.1.2,of_decide_eq_true h.2⟩
section
variable {X:Cx}
theorem IL (hu:X.A.units+64<cx):OpR X (dM .Eq) (Lb X.K false):=by
 intro pins s σ H x y v u Q I rx ry h
 obtain ⟨d,e,hd,he,ok,q⟩:=h
 obtain ⟨c1,c2,c3⟩:=zJ ok
 obtain ⟨as,r1⟩:=gV I d x v hd rx c1
 obtain ⟨bs,r2⟩:=gV I e y u he ry c2
 exact SeqAt.compareEq_reads r1 r2 c1 c2 (by lia) ⟨.bl _,H,I,rfl,q⟩
theorem HM (hu:X.A.units+64<cx):OpR X (dM .NotEq) (Lb X.K true):=by
 intro pins s σ H x y v u Q I rx ry h
 obtain ⟨d,e,hd,he,ok,q⟩:=h
 obtain ⟨c1,c2,c3⟩:=zJ ok
 obtain ⟨as,r1⟩:=gV I d x v hd rx c1
 obtain ⟨bs,r2⟩:=gV I e y u he ry c2
 exact SeqAt.compareNe_reads r1 r2 c1 c2 (by lia) ⟨.bl _,H,I,rfl,q⟩
end
def Ao (d:Da) (ds:List Da):Bool:=(toP d).canLay0&&cp (ir ds)&&decide (min (bT (ir ds)) (toP d).depth<=60)
def inD (d:Da) (ds:List Da):Bool:=(ir ds).any fun y=>cA y (toP d)
def Li (K:ac) (neg:Bool):R2:=fun x y H Q=>∃ d ds,Den K H d x/\(Den K H (.tup ds) y\/Den K H (.lst ds) y)/\Ao d ds=true/\Q (.bl (if neg then !inD d ds else inD d ds)) H
def EX (neg:Bool):Rv->Rv->Option Rv:=fun a b=>match b.2 with
 | .tup ds=>if Ao a.2 ds=true then some (.pu,.bl (if neg then !inD a.2 ds else inD a.2 ds)) else none
 | .lst ds=>if Ao a.2 ds=true then some (.pu,.bl (if neg then !inD a.2 ds else inD a.2 ds)) else none
 | _=>none
theorem AV {K:ac} {neg:Bool}:Op2 K (Li K neg) (EX neg):=by
 rintro B H0 G H a b r x y Q sg ra rb e k
 unfold EX at e
 split at e
 ·rename_i ds eb
  split at e
  ·rename_i h
   cases e
   have db:=rb.den sg (by rw [eb];rfl)
   rw [eb] at db
   unfold Ao at h
   have h2:=h
   rw [aY,aY] at h2
   exact ⟨a.2,ds,ra.den sg (wM h2.1.1),.inl db,h,k _ G H (Ext.refl sg) rfl⟩
  ·cases e
 ·rename_i ds eb
  split at e
  ·rename_i h
   cases e
   have db:=rb.den sg (by rw [eb];rfl)
   rw [eb] at db
   unfold Ao at h
   have h2:=h
   rw [aY,aY] at h2
   exact ⟨a.2,ds,ra.den sg (wM h2.1.1),.inr db,h,k _ G H (Ext.refl sg) rfl⟩
  ·cases e
 ·cases e
section
variable {X:Cx}
theorem zA {d:Da} {ds:List Da} (h:Ao d ds=true):(toP d).canLay0=true/\cp (ir ds)=true/\min (bT (ir ds)) (toP d).depth<=60:=by
 unfold Ao at h
 rw [aY,aY] at h
 exact ⟨h.1.1,h.1.2,of_decide_eq_true h.2⟩
theorem HI (hu:X.A.units+64<cx):OpR X (dM .In) (Li X.K false):=by
 intro pins s σ H x y v u Q I rx ry h
 obtain ⟨d,ds,hd,he,ok,q⟩:=h
 obtain ⟨c1,c2,c3⟩:=zA ok
 obtain ⟨as,r1⟩:=gV I d x v hd rx c1
 rcases he with he | he
 ·obtain ⟨bs,r2⟩:=gV I _ y u he ry (by simpa [toP,cK] using c2)
  exact SeqAt.in_tuple_reads (by simpa [toP] using r2) r1 c2 c1 (by lia) ⟨.bl _,H,I,rfl,q⟩
 ·obtain ⟨bs,r2⟩:=gV I _ y u he ry (by simpa [toP,cK] using c2)
  exact SeqAt.in_list_reads (by simpa [toP] using r2) r1 c2 c1 (by lia) ⟨.bl _,H,I,rfl,q⟩
theorem Gw (hu:X.A.units+64<cx):OpR X (dM .NotIn) (Li X.K true):=by
 intro pins s σ H x y v u Q I rx ry h
 obtain ⟨d,ds,hd,he,ok,q⟩:=h
 obtain ⟨c1,c2,c3⟩:=zA ok
 obtain ⟨as,r1⟩:=gV I d x v hd rx c1
 rcases he with he | he
 ·obtain ⟨bs,r2⟩:=gV I _ y u he ry (by simpa [toP,cK] using c2)
  exact SeqAt.notIn_tuple_reads (by simpa [toP] using r2) r1 c2 c1 (by lia) ⟨.bl _,H,I,rfl,q⟩
 ·obtain ⟨bs,r2⟩:=gV I _ y u he ry (by simpa [toP,cK] using c2)
  exact SeqAt.notIn_list_reads (by simpa [toP] using r2) r1 c2 c1 (by lia) ⟨.bl _,H,I,rfl,q⟩
end
def Em:Da->Option Key
 | .int i=>some (.inl i)
 | .str x=>some (.inr x)
 | _=>none
def my:List Da->Option (List Key)
 | []=>some []
 | d::r=>match Em d,my r with
   | some k,some ks=>some (k::ks)
   | _,_=>none
def ji:Key->Da
 | .inl i=>.int i
 | .inr x=>.str x
theorem AS {d:Da} {k:Key} (e:Em d=some k):nQ d=false:=by
 cases d<;>first | rfl | cases e
theorem zi {K:ac} {G:Hp} {d:Da} {k:Key} {v:V} (e:Em d=some k) (h:Den K G d v):v=kV k:=by
 cases d with
 | int i=>cases e;exact h
 | str x=>cases e;exact h
 | _=>cases e
theorem vP {K:ac} {G:Hp}:∀ {ds:List Da} {ks:List Key} {xs:List V},my ds=some ks->cO K G ds xs->xs=ks.map kV
 | [],ks,xs,e,h=>by cases e;exact h
 | d::r,ks,xs,e,h=>by
   obtain ⟨x,xr,rfl,h1,h2⟩:=h
   unfold my at e
   split at e
   ·rename_i k ks' e1 e2
    cases e
    rw [zi e1 h1,vP e2 h2];rfl
   ·cases e
theorem uH {K:ac} {G:Hp} (k:Key):Den K G (ji k) (kV k):=by
 cases k<;>rfl
def atK {κ:Type} [DecidableEq κ]:List κ->List Da->κ->Option Da
 | k::ks,d::ds,j=>if k=j then some d else atK ks ds j
 | _,_,_=>none
def Lw (K:ac) (G:Hp) (ov:Option V):Option Da->Prop
 | some d=>∃ v,ov=some v/\Den K G d v
 | none=>ov=none
theorem vZ {K:ac} {G:Hp} {κ:Type} [DecidableEq κ]:∀ {kvs:List (κ×V)} {ks:List κ} {ds:List Da} (j:κ),kvs.map (·.1)=ks->cO K G ds (kvs.map (·.2)) ->
 Lw K G (nI kvs j) (atK ks ds j)
 | [],ks,ds,j,e,h=>by
   subst e
   cases ds with
   | nil=>rfl
   | cons d ds=>obtain ⟨x,r,e,_⟩:=h;cases e
 | (k,v)::kvs,ks,ds,j,e,h=>by
   subst e
   cases ds with
   | nil=>cases (show (v::kvs.map (·.2))=[] from h)
   | cons d ds =>
     obtain ⟨x,r,ex,h1,h2⟩:=h
     injection ex with e1 e2
     subst e1;subst e2
     have ih:=vZ (K:=K) (G:=G) (kvs:=kvs) (ks:=kvs.map (·.1)) (ds:=ds) j rfl h2
     by_cases hk:k=j
     ·have e1:atK (((k,v)::kvs).map (·.1)) (d::ds) j=some d:=by show (if k=j then some d else _)=_;rw [if_pos hk]
      rw [e1]
      exact ⟨v,jQ (p:=(k,v)) hk,h1⟩
     ·have e1:atK (((k,v)::kvs).map (·.1)) (d::ds) j=atK (kvs.map (·.1)) ds j:=by show (if k=j then some d else _)=_;rw [if_neg hk]
      rw [e1,jN (p:=(k,v)) hk]
      exact ih
def ml:Da->Da->Option (Option Da)
 | .dK ks ds,k=>match Em k with
   | some j=>some (atK ks ds j)
   | none=>none
 | .dT ks ds,.tup es=>match my es with
   | some j=>some (atK ks ds j)
   | none=>none
 | _,_=>none
theorem oJ {K:ac} {B H0 G H:Hp} {a b:Rv} {x y:V} {o:Option Da} (sg:cQ G H) (ra:gZ K B H0 G H a x) (rb:gZ K B H0 G H b y) (e:ml a.2 b.2=some o) :
 ∃ p ov,x=.ref p/\rW H p y ov/\Lw K G ov o:=by
 obtain ⟨ka,a⟩:=a
 obtain ⟨kb,b⟩:=b
 cases a with
 | dK ks ds =>
   have e:(match Em b with
    | some j=>some (atK ks ds j)
    | none=>none)=some o:=by cases b<;>exact e
   split at e
   ·rename_i j ej
    cases e
    obtain ⟨p,kvs,rfl,q,e1,r⟩:=ra.dK sg
    have ey:y=kV j:=zi ej (rb.den sg (AS ej))
    refine ⟨p,nI kvs j,rfl,.inl ⟨kvs,j,q,ey,rfl⟩,?_⟩
    exact vZ (K:=K) (G:=G) (ks:=ks) (ds:=ds) j e1 r
   ·cases e
 | dT ks ds =>
   cases b with
   | tup es =>
     have e:(match my es with
      | some j=>some (atK ks ds j)
      | none=>none)=some o:=e
     split at e
     ·rename_i j ej
      cases e
      obtain ⟨p,kvs,rfl,q,e1,r⟩:=ra.dT sg
      obtain ⟨t,xs,rfl,qt,dl,_⟩:=rb.tup sg
      rw [vP ej dl] at qt
      refine ⟨p,nI kvs j,rfl,.inr ⟨kvs,j,t,q,rfl,qt,rfl⟩,?_⟩
      exact vZ (K:=K) (G:=G) (ks:=ks) (ds:=ds) j e1 r
     ·cases e
   | _=>cases e
 | _=>cases e
def KF (neg:Bool):R2:=fun y x H Q=>∃ a o,x=.ref a/\rW H a y o/\Q (.bl (if neg then !o.isSome else o.isSome)) H
theorem Jf {X:Cx} (hu:X.A.units+1<cx):OpR X (dM .In) (KF false):=by
 intro pins s σ H y x v u Q I ry rx h
 obtain ⟨a,o,rfl,g,q⟩:=h
 cases rx
 exact Lr hu I g ry fun s' I'=>⟨.bl _,H,I',rfl,q⟩
theorem GV {X:Cx} (hu:X.A.units+1<cx):OpR X (dM .NotIn) (KF true):=by
 intro pins s σ H y x v u Q I ry rx h
 obtain ⟨a,o,rfl,g,q⟩:=h
 cases rx
 exact BB hu I g ry fun s' I'=>⟨.bl _,H,I',rfl,q⟩
def Ab (neg:Bool):Rv->Rv->Option Rv:=fun a b=>match ml b.2 a.2 with
 | some o=>some (.pu,.bl (if neg then !o.isSome else o.isSome))
 | none=>none
theorem Am {K:ac} {neg:Bool}:Op2 K (KF neg) (Ab neg):=by
 rintro B H0 G H a b r x y Q sg ra rb e k
 unfold Ab at e
 split at e
 ·rename_i o eo
  cases e
  obtain ⟨p,ov,rfl,g,m⟩:=oJ sg rb ra eo
  have ei:ov.isSome=o.isSome:=by
   cases o with
   | some d=>obtain ⟨v,rfl,_⟩:=m;rfl
   | none=>cases m;rfl
  refine ⟨p,ov,rfl,g,?_⟩
  rw [ei]
  exact k _ G H (Ext.refl sg) rfl
 ·cases e
def oIn (neg:Bool):Rv->Rv->Option Rv:=fun a b=>(Ab neg a b).or (EX neg a b)
section
variable {X:Cx} {a b:aP} {pos:e7} {fa fb:Rho->Option Rv}
theorem A3 {K:ac} {G:Hp} {ds:List Da} {xs:List V} {i:Int} {d:Da} (h:cO K G ds xs) (e:atI ds i=some d):∃ v,atI xs i=some v/\Den K G d v:=by
 have hl:=h.length
 unfold atI at e ⊢
 rw [hl]
 cases q:ixN ds.length i with
 | none=>rw [q] at e;cases e
 | some j=>rw [q] at e;exact h.get e
def oIx:Rv->Rv->Option Rv:=fun a b=>match a.2,b.2 with
 | .tup ds,.int i=>(atI ds i).map fun d=>(.pu,d)
 | .lst ds,.int i=>(atI ds i).map fun d=>(.pu,d)
 | _,_=>none
theorem Jw {K:ac}:Op2 K (fun x y H Q=>Lh K x y H Q\/K0 K x y H Q\/Lo x y H Q) oIx:=by
 rintro B H0 G H ⟨ka,a⟩ ⟨kb,b⟩ r x y Q sg ra rb e k
 unfold oIx at e
 dsimp only at e
 split at e
 ·rename_i ds i
  cases q:atI ds i with
  | none=>rw [q] at e;cases e
  | some d =>
    rw [q] at e
    cases e
    obtain ⟨p,xs,rfl,q1,d1,_⟩:=ra.tup sg
    obtain ⟨v,hv,dv⟩:=A3 d1 q
    cases rb.int
    exact .inr (.inl ⟨p,xs,i,v,rfl,rfl,SqT.of q1,hv,k v G H (Ext.refl sg) dv⟩)
 ·rename_i ds i
  cases q:atI ds i with
  | none=>rw [q] at e;cases e
  | some d =>
    rw [q] at e
    cases e
    obtain ⟨p,xs,rfl,q1,d1⟩:=ra.lst sg
    obtain ⟨v,hv,dv⟩:=A3 d1 q
    cases rb.int
    exact .inl ⟨p,xs,i,v,rfl,rfl,q1,hv,k v G H (Ext.refl sg) dv⟩
 ·cases e
def Ie:R2:=fun x y H Q=>∃ a v,x=.ref a/\rW H a y (some v)/\Q v H
def xh:Rv->Rv->Option Rv:=fun a b=>match ml a.2 b.2 with
 | some (some d)=>some (.pu,d)
 | _=>none
theorem Gu {K:ac}:Op2 K Ie xh:=by
 rintro B H0 G H a b r x y Q sg ra rb e k
 unfold xh at e
 split at e
 ·rename_i d eo
  cases e
  obtain ⟨p,ov,rfl,g,v,rfl,dv⟩:=oJ sg ra rb eo
  exact ⟨p,v,rfl,g,k v G H (Ext.refl sg) dv⟩
 ·cases e
theorem IK {pos:e7} (ha:PX X a fa) (hb:PX X b fb) (hs:rA b:=by intro _ _;rfl):PX X (.Subscript a b pos) (x2 oIx fa fb):=PE.imp (KS HK ha hb hs) fun _ _ _ q=>Ke Jw q
theorem JI {pos:e7} (hu:X.A.units+1<cx) (ha:PX X a fa) (hb:PX X b fb) (hs:K1 b:=by intro _ _;rfl):PX X (.Subscript a b pos) (x2 xh fa fb) :=
 PE.imp (vN hu ha hb hs) fun σ H Q q=>by
  have:=Ke (r:=Ie) Gu q
  exact this
def oIt:Rv->Rv->Option Rv:=fun a b=>(oIx a b).or (xh a b)
theorem v9 {pos:e7} (hu:X.A.units+1<cx) (ha:PX X a fa) (hb:PX X b fb) (hs:rA b:=by intro _ _;rfl):PX X (.Subscript a b pos) (x2 oIt fa fb):=by
 intro pins s σ H Q I q
 obtain ⟨B,G,ρ,c,sg,sb,st,e,k⟩:=q
 have e0:=e
 unfold x2 at e
 split at e
 ·cases e
 ·rename_i ra ea
  split at e
  ·cases e
  ·rename_i rb eb
   unfold oIt at e
   cases z:oIx ra rb with
   | some z' =>
     rw [z] at e
     cases e
     exact IK ha hb hs pins s σ H Q I ⟨B,G,ρ,_,sg,sb,st,by unfold x2;rw [ea,eb];exact z,k⟩
   | none =>
     rw [z] at e
     exact JI hu ha hb hs pins s σ H Q I ⟨B,G,ρ,c,sg,sb,st,by unfold x2;rw [ea,eb];exact e,k⟩
def cc:Rho->Option (List Rv):=fun _=>some []
def aJ (f:Rho->Option Rv) (g:Rho->Option (List Rv)):Rho->Option (List Rv):=fun ρ=>match f ρ with
 | none=>none
 | some r=>match g ρ with
   | none=>none
   | some rs=>some (r::rs)
theorem m5:PXA X [] cc:=PA.imp kL fun σ H Q ⟨B,G,ρ,rs,sg,sb,st,e,k⟩=>by cases e;exact k [] G H (Ext.refl sg) rfl
def nst:aP->Bool
 | .Starred ..=>false
 | _=>true
theorem bS {e:aP} {es:List aP} {env:pQ} (h:nst e=true):ao (e::es) env=(false,b9 e env)::ao es env:=by
 cases e<;>first | rfl | cases h
theorem jf {e:aP} {es:List aP} {f:Rho->Option Rv} {g:Rho->Option (List Rv)} (ha:PX X e f) (hr:PXA X es g) (hs:ao (e::es) X.env=(false,b9 e X.env)::ao es X.env:=by exact bS rfl):PXA X (e::es) (aJ f g) :=
 PA.imp (fR ha hr hs) fun σ H Q ⟨B,G,ρ,rs,sg,sb,st,eq,k⟩=>by
  unfold aJ at eq
  split at eq
  ·cases eq
  ·rename_i r er
   split at eq
   ·cases eq
   ·rename_i rs' ers
    cases eq
    refine ⟨B,G,ρ,r,sg,sb,st,er,fun v G1 H1 E1 r1=>⟨B,G1,ρ,rs',E1.gh,sb.trans E1.hh,st.ext E1,ers,fun vs G2 H2 E2 r2=>?_⟩⟩
    exact k _ G2 H2 (E1.trans E2) ⟨v,vs,rfl,r1.ext E2,r2.base E1.hh⟩
def kX (g:Rho->Option (List Rv)):Rho->Option Rv:=fun ρ=>match g ρ with
 | none=>none
 | some rs=>match kH rs with
   | none=>none
   | some ds=>if ds.length<=1000 then some (.pu,.tup ds) else none
theorem JF {es:List aP} {x1:Nat} {pos:e7} {g:Rho->Option (List Rv)} (h:PXA X es g):PX X (.Tuple es x1 pos) (kX g) :=
 PE.imp (IS h) fun σ H Q ⟨B,G,ρ,r,sg,sb,st,e,k⟩=>by
  unfold kX at e
  split at e
  ·cases e
  ·rename_i rs er
   split at e
   ·cases e
   ·rename_i ds ed
    split at e
    ·rename_i hz
     cases e
     refine ⟨B,G,ρ,rs,sg,sb,st,er,fun vs G1 H1 E1 r1=>?_⟩
     obtain ⟨G2,E2,s12,d2⟩:=r1.pure E1 ed
     have hs:aL=16777216:=bE
     have hl:=d2.length
     refine ⟨by lia,fun p hp=>k _ _ _ (E2.trans (Ext.new E2.gh hp)) ⟨p,vs,rfl,aV,cO.mono (cw (E2.gh.free hp)) ds d2⟩⟩
    ·cases e
def CK (g:Rho->Option (List Rv)):Rho->Option Rv:=fun ρ=>match g ρ with
 | none=>none
 | some rs=>match kH rs with
   | none=>none
   | some ds=>if ds.length<=1000 then some (.fr,.lst ds) else none
theorem Im {es:List aP} {pos:e7} {g:Rho->Option (List Rv)} (h:PXA X es g):PX X (.List es pos) (CK g) :=
 PE.imp (J3 h) fun σ H Q ⟨B,G,ρ,r,sg,sb,st,e,k⟩=>by
  unfold CK at e
  split at e
  ·cases e
  ·rename_i rs er
   split at e
   ·cases e
   ·rename_i ds ed
    split at e
    ·rename_i hz
     cases e
     refine ⟨B,G,ρ,rs,sg,sb,st,er,fun vs G1 H1 E1 r1=>?_⟩
     obtain ⟨G2,E2,s12,d2⟩:=r1.pure E1 ed
     have hs:aL=16777216:=bE
     have hl:=d2.length
     refine ⟨by lia,fun p hp=>k _ _ _ (E2.trans (Ext.own E2.gh hp)) ⟨p,_,rfl,E2.hh.free hp,E2.gh.free hp,aV,vs,rfl,d2⟩⟩
    ·cases e
def xC2 (r:Rv):Rho->Option Rv:=fun _=>some r
theorem w4 {pos:e7}:PX X (.Dict [] [] pos) (xC2 (.fr,.dK [] [])):=PE.imp mG fun σ H Q ⟨B,G,ρ,r,sg,sb,st,e,k⟩ p hp=>by
 cases e;exact k _ G _ (Ext.own sg hp) ⟨p,_,rfl,hp,sg.free hp,aV,[],rfl,rfl,rfl⟩
theorem DA {pos:e7}:PX X (.Dict [] [] pos) (xC2 (.fr,.dT [] [])):=PE.imp Ds fun σ H Q ⟨B,G,ρ,r,sg,sb,st,e,k⟩ p hp=>by
 cases e;exact k _ G _ (Ext.own sg hp) ⟨p,_,rfl,hp,sg.free hp,aV,[],rfl,rfl,rfl⟩
def xB (f:List Rv->Option Rv) (g:Rho->Option (List Rv)):Rho->Option Rv:=fun ρ=>match g ρ with
 | none=>none
 | some rs=>f rs
def Cal (K:ac) (r:List V->Hp->VK->Prop) (f:List Rv->Option Rv):Prop:=∀ (B H0 G H:Hp) (rs:List Rv) (c:Rv) (xs:List V) (Q:VK),cQ G H->fJ K B H0 G H rs xs->f rs=some c ->
 (∀ v G' H',Ext G H G' H'->gZ K B H G' H' c v->Q v H')->r xs H Q
theorem Lq {K:ac} {r:List V->Hp->VK->Prop} {f:List Rv->Option Rv} {g:Rho->Option (List Rv)} (h:Cal K r f) {σ:St} {H:Hp} {Q:VK} (q:tX K (xB f g) σ H Q):tCB r (tXA K g) σ H Q:=by
 obtain ⟨B,G,ρ,c,sg,sb,st,e,k⟩:=q
 unfold xB at e
 split at e
 ·cases e
 ·rename_i rs er
  refine ⟨B,G,ρ,rs,sg,sb,st,er,fun vs G1 H1 E1 r1=>h B H G1 H1 rs c vs _ E1.gh r1 e fun v G2 H2 E2 r2=>k v G2 H2 (E1.trans E2) (r2.base E1.hh)⟩
theorem FY {x:bH} {p pos:e7} {e:aP} {es:List aP} {id:String} {r:List V->Hp->VK->Prop} {f:List Rv->Option Rv} {g:Rho->Option (List Rv)} (hc:lq X (.builtin id) r) (h:Cal X.K r f) (hg:Gl X x) (hm:X.mg x=none) (hv:iu x=some (.builtin id)) (ha:PXA X (e::es) g)
 (hn:x≠"__name__":=by decide) (hdb:(x == ("__debug__" : bH))=false:=by decide) (he:ao (e::es) X.env=(false,b9 e X.env)::ao es X.env:=by exact bS rfl) (hpl:(cz pos (ao es X.env)).any (·.1)=false:=by rfl) :
 PX X (.Call (.Name x p) (e::es) [] pos) (xB f g):=PE.imp (CS hc hg hm hv ha hn hdb he hpl) fun _ _ _ q=>Lq h q
theorem HX {x:bH} {p pos:e7} {e:aP} {es:List aP} {T:String} {r:List V->Hp->VK->Prop} {f:List Rv->Option Rv} {g:Rho->Option (List Rv)} (hc:lq X (.type T) r) (h:Cal X.K r f) (hg:Gl X x) (hm:X.mg x=none) (hv:iu x=some (.type T)) (ha:PXA X (e::es) g)
 (hn:x≠"__name__":=by decide) (hdb:(x == ("__debug__" : bH))=false:=by decide) (he:ao (e::es) X.env=(false,b9 e X.env)::ao es X.env:=by exact bS rfl) (hpl:(cz pos (ao es X.env)).any (·.1)=false:=by rfl) :
 PX X (.Call (.Name x p) (e::es) [] pos) (xB f g):=PE.imp (lY hc hg hm hv ha hn hdb he hpl) fun _ _ _ q=>Lq h q
theorem fJ.one {K:ac} {B H0 G H:Hp} {r:Rv} {xs:List V} (h:fJ K B H0 G H [r] xs):∃ v,xs=[v]/\gZ K B H0 G H r v:=by
 obtain ⟨v,r',rfl,h1,h2⟩:=h;cases (show r'=[] from h2);exact ⟨v,rfl,h1⟩
theorem fJ.two {K:ac} {B H0 G H:Hp} {r r2:Rv} {xs:List V} (h:fJ K B H0 G H [r,r2] xs):∃ v v2,xs=[v,v2]/\gZ K B H0 G H r v/\gZ K B H0 G H r2 v2:=by
 obtain ⟨v,r',rfl,h1,h2⟩:=h
 obtain ⟨v2,rfl,h3⟩:=fJ.one h2
 exact ⟨v,v2,rfl,h1,h3⟩
def p6:List Rv->Option Rv
 | [(_,.tup ds)]=>some (.pu,.int ds.length)
 | [(_,.lst ds)]=>some (.pu,.int ds.length)
 | _=>none
theorem Fj {K:ac}:Cal K (fun xs H Q=>∃ p ys,xs=[.ref p]/\(SqL K H p ys\/SqT K H p ys)/\Q (.int ys.length) H) p6:=by
 intro B H0 G H rs c xs Q sg ra e k
 unfold p6 at e
 split at e
 ·cases e
  obtain ⟨v,rfl,h⟩:=fJ.one ra
  obtain ⟨p,ys,rfl,q,d,_⟩:=h.tup sg
  exact ⟨p,ys,rfl,.inr (SqT.of q),by rw [d.length];exact k _ G H (Ext.refl sg) rfl⟩
 ·cases e
  obtain ⟨v,rfl,h⟩:=fJ.one ra
  obtain ⟨p,ys,rfl,q,d⟩:=h.lst sg
  exact ⟨p,ys,rfl,.inl q,by rw [d.length];exact k _ G H (Ext.refl sg) rfl⟩
 ·cases e
def gv:List Rv->Option Rv
 | [(_,.tup ds)]=>some (.pu,.tup ds)
 | [(_,.lst ds)]=>some (.pu,.tup ds)
 | _=>none
theorem AF {K:ac}:Cal K (fun xs H Q=>∃ p ys,xs=[.ref p]/\((SqL K H p ys/\∀ l,H l=none->Q (.ref l) (upd H l (.tup ys)))\/(SqT K H p ys/\Q (.ref p) H))) gv:=by
 intro B H0 G H rs c xs Q sg ra e k
 unfold gv at e
 split at e
 ·cases e
  obtain ⟨v,rfl,h⟩:=fJ.one ra
  obtain ⟨p,ys,rfl,q,d,g⟩:=h.tup sg
  exact ⟨p,ys,rfl,.inr ⟨SqT.of q,k _ G H (Ext.refl sg) ⟨p,ys,rfl,g,d⟩⟩⟩
 ·cases e
  obtain ⟨v,rfl,h⟩:=fJ.one ra
  obtain ⟨p,ys,rfl,q,d⟩:=h.lst sg
  exact ⟨p,ys,rfl,.inl ⟨q,fun l hl=>k _ _ _ (Ext.new sg hl) ⟨l,ys,rfl,aV,cO.mono (cw (sg.free hl)) _ d⟩⟩⟩
 ·cases e
def vz:List Rv->Option Rv
 | [(_,.tup ds)]=>some (.fr,.lst ds)
 | [(_,.lst ds)]=>some (.fr,.lst ds)
 | _=>none
theorem DJ {K:ac}:Cal K (fun xs H Q=>∃ p ys,xs=[.ref p]/\(SqL K H p ys\/SqT K H p ys)/\∀ l,H l=none->Q (.ref l) (upd H l (.lst ys))) vz:=by
 intro B H0 G H rs c xs Q sg ra e k
 unfold vz at e
 split at e
 ·cases e
  obtain ⟨v,rfl,h⟩:=fJ.one ra
  obtain ⟨p,ys,rfl,q,d,g⟩:=h.tup sg
  exact ⟨p,ys,rfl,.inr (SqT.of q),fun l hl=>k _ _ _ (Ext.own sg hl) ⟨l,_,rfl,hl,sg.free hl,aV,ys,rfl,d⟩⟩
 ·cases e
  obtain ⟨v,rfl,h⟩:=fJ.one ra
  obtain ⟨p,ys,rfl,q,d⟩:=h.lst sg
  exact ⟨p,ys,rfl,.inl q,fun l hl=>k _ _ _ (Ext.own sg hl) ⟨l,_,rfl,hl,sg.free hl,aV,ys,rfl,d⟩⟩
 ·cases e
end
section
variable {X:Cx} {a b c:aP} {pos:e7} {fa fb fc:Rho->Option Rv}
def tb (f:Rho->Option Rv):Rho->Option Bool:=fun ρ=>match f ρ with
 | some (_,.bl b)=>some b
 | _=>none
def CR2 (X:Cx) (o:pS) (op:Rv->Rv->Option Rv):Prop:=∃ r,OpR X (dM o) r/\Op2 X.K r op
theorem LJ {o:pS} {op:Rv->Rv->Option Rv} (h:CR2 X o op) (ha:PX X a fa) (hb:PX X b fb) (hm:eM o b=false:=by first | exact wF _ | with_unfolding_all rfl):PX X (.Compare a [o] [b] pos) (x2 op fa fb) :=
 let ⟨_,h1,h2⟩:=h;Kc h1 h2 ha hb hm
theorem K8 {o:pS} {op:Rv->Rv->Option Rv} (h:CR2 X o op) (ha:PX X a fa) (hb:PX X b fb) (hm:eM o b=false:=by first | exact wF _ | with_unfolding_all rfl):PXT X (.Compare a [o] [b] pos) (tb (x2 op fa fb)):=by
 obtain ⟨r,h1,h2⟩:=h
 refine PT.imp (FL h1 ha hb hm) fun σ H Q q=>?_
 obtain ⟨B,G,ρ,b,sg,sb,st,e,k⟩:=q
 unfold tb at e
 split at e
 ·rename_i kd b' q
  cases e
  exact Ke h2 ⟨B,G,ρ,_,sg,sb,st,q,fun v G1 H1 E1 r1=>⟨b,r1.bl,k G1 H1 E1⟩⟩
 ·cases e
theorem Lz (hu:X.A.units+64<cx):CR2 X .Lt oLt:=⟨_,Ky.or (Jd (by lia)),Fc.or E7⟩
theorem LP (hu:X.A.units+64<cx):CR2 X .Eq (oEq false):=⟨_,IL hu,Eh⟩
theorem Eu (hu:X.A.units+64<cx):CR2 X .NotEq (oEq true):=⟨_,HM hu,Eh⟩
theorem GP (hu:X.A.units+64<cx):CR2 X .In (oIn false):=⟨_,(Jf (by lia)).or (HI hu),Am.or AV⟩
theorem Jg (hu:X.A.units+64<cx):CR2 X .NotIn (oIn true):=⟨_,(GV (by lia)).or (Gw hu),Am.or AV⟩
def oIs (neg:Bool):Rv->Rv->Option Rv
 | (_,.bl i),(_,.bl j)=>some (.pu,.bl (if neg then !(i == j) else i == j))
 | _,_=>none
def Is (op op':Rv->Rv->Option Rv) (fa fb fc:Rho->Option Rv):Rho->Option Rv:=fun ρ=>match fa ρ,fb ρ with
 | some a,some b=>match op a b with
   | some (_,.bl true)=>match fc ρ with
     | some c=>op' b c
     | none=>none
   | some (_,.bl false)=>some (.pu,.bl false)
   | _=>none
 | _,_=>none
variable {ta tc:Rho->Option Bool} {rest:List aP}
def yx (ta tc:Rho->Option Bool):Rho->Option Bool:=fun ρ=>match ta ρ with
 | some true=>tc ρ
 | some false=>some false
 | none=>none
def FX (ta tc:Rho->Option Bool):Rho->Option Bool:=fun ρ=>match ta ρ with
 | some true=>some true
 | some false=>tc ρ
 | none=>none
theorem Jq {K:ac} {σ:St} {H:Hp} {Q:Bool->Hp->Prop} (q:tXT K (yx ta tc) σ H Q):Lx (tXT K ta) (tXT K tc) σ H Q:=by
 obtain ⟨B,G,ρ,r,sg,sb,st,e,k⟩:=q
 unfold yx at e
 split at e
 ·rename_i ea
  exact ⟨B,G,ρ,true,sg,sb,st,ea,fun G1 H1 E1=>by dsimp only;rw [if_pos rfl];exact ⟨B,G1,ρ,r,E1.gh,sb.trans E1.hh,st.ext E1,e,fun G2 H2 E2=>k G2 H2 (E1.trans E2)⟩⟩
 ·rename_i ea
  cases e
  exact ⟨B,G,ρ,false,sg,sb,st,ea,fun G1 H1 E1=>by dsimp only;rw [if_neg aO];exact k G1 H1 E1⟩
 ·cases e
theorem Lg {K:ac} {σ:St} {H:Hp} {Q:Bool->Hp->Prop} (q:tXT K (FX ta tc) σ H Q):tOr (tXT K ta) (tXT K tc) σ H Q:=by
 obtain ⟨B,G,ρ,r,sg,sb,st,e,k⟩:=q
 unfold FX at e
 split at e
 ·rename_i ea
  cases e
  exact ⟨B,G,ρ,true,sg,sb,st,ea,fun G1 H1 E1=>by dsimp only;rw [if_pos rfl];exact k G1 H1 E1⟩
 ·rename_i ea
  exact ⟨B,G,ρ,false,sg,sb,st,ea,fun G1 H1 E1=>by dsimp only;rw [if_neg aO];exact ⟨B,G1,ρ,r,E1.gh,sb.trans E1.hh,st.ext E1,e,fun G2 H2 E2=>k G2 H2 (E1.trans E2)⟩⟩
 ·cases e
theorem DX (ha:PXT X a ta):PXW X (.BoolOp .And [a] pos) ta:=GK ha
theorem GL (ha:PXT X a ta):PXW X (.BoolOp .Or [a] pos) ta:=En ha
theorem Hk (ha:PXT X a ta) (hb:PXW X (.BoolOp .And (b::rest) pos) tc):PXW X (.BoolOp .And (a::b::rest) pos) (yx ta tc):=PW.imp (Ji ha hb) fun _ _ _ q=>Jq q
theorem HL (ha:PXT X a ta) (hb:PXW X (.BoolOp .Or (b::rest) pos) tc):PXW X (.BoolOp .Or (a::b::rest) pos) (FX ta tc):=PW.imp (IU ha hb) fun _ _ _ q=>Lg q
theorem K7 {e:aP} (h:PXW X e ta):PXT X e ta:=h.pt
def KG (ta:Rho->Option Bool):Rho->Option Bool:=fun ρ=>(ta ρ).map (!·)
def Ls (fa fb:Rho->Option Rv):Rho->Option Rv:=fun ρ=>match fa ρ with
 | some (_,.bl true)=>fb ρ
 | some (_,.bl false)=>some (.pu,.bl false)
 | _=>none
def xOr (fa fb:Rho->Option Rv):Rho->Option Rv:=fun ρ=>match fa ρ with
 | some (_,.bl true)=>some (.pu,.bl true)
 | some (_,.bl false)=>fb ρ
 | _=>none
def Lp (fa:Rho->Option Rv):Rho->Option Rv:=fun ρ=>match fa ρ with
 | some (_,.bl b)=>some (.pu,.bl (!b))
 | _=>none
def xIf (t:Rho->Option Bool) (fa fb:Rho->Option Rv):Rho->Option Rv:=fun ρ=>match t ρ with
 | some true=>fa ρ
 | some false=>fb ρ
 | none=>none
theorem Ln (hc:PXT X c ta) (ha:PX X a fa) (hb:PX X b fb):PX X (.IfExp c a b pos) (xIf ta fa fb):=PE.imp (C1 hc ha hb) fun σ H Q ⟨B,G,ρ,r,sg,sb,st,e,k⟩=>by
 unfold xIf at e
 split at e
 ·rename_i ea
  exact ⟨B,G,ρ,true,sg,sb,st,ea,fun G1 H1 E1=>by dsimp only;rw [if_pos rfl];exact ⟨B,G1,ρ,r,E1.gh,sb.trans E1.hh,st.ext E1,e,fun v2 G2 H2 E2 r2=>k v2 G2 H2 (E1.trans E2) (r2.base E1.hh)⟩⟩
 ·rename_i ea
  exact ⟨B,G,ρ,false,sg,sb,st,ea,fun G1 H1 E1=>by dsimp only;rw [if_neg aO];exact ⟨B,G1,ρ,r,E1.gh,sb.trans E1.hh,st.ext E1,e,fun v2 G2 H2 E2 r2=>k v2 G2 H2 (E1.trans E2) (r2.base E1.hh)⟩⟩
 ·cases e
def trD:Da->Option Bool
 | .non=>some false
 | .bl b=>some b
 | .int i=>some (i != 0)
 | .tup ds=>some (!ds.isEmpty)
 | .lst ds=>some (!ds.isEmpty)
 | _=>none
def tTr (f:Rho->Option Rv):Rho->Option Bool:=fun ρ=>match f ρ with
 | some r=>trD r.2
 | none=>none
theorem pq {α β:Type} {l:List α} {m:List β} (h:l.length=m.length):l.isEmpty=m.isEmpty:=by
 cases l<;>cases m<;>first | rfl | cases h
theorem JD (ha:PX X a fa) (he:∀ whole,isTrue a X.env whole=(do let v <- whole;pT a.pos;uI [v] (truthy v)):=by intro _;rfl):PXT X a (tTr fa):=PT.imp (Dc ha he) fun σ H Q ⟨B,G,ρ,b,sg,sb,st,e,k⟩=>by
 unfold tTr at e
 split at e
 ·rename_i r er
  obtain ⟨kd,d⟩:=r
  refine ⟨B,G,ρ,_,sg,sb,st,er,fun v G1 H1 E1 r1=>⟨b,?_,k G1 H1 E1⟩⟩
  cases d with
  | non=>cases e;cases r1.non;rfl
  | bl b=>cases e;cases r1.bl;rfl
  | int i=>cases e;cases r1.int;rfl
  | str x=>cases e
  | tup ds=>cases e;obtain ⟨p,xs,rfl,q,dl,_⟩:=r1.tup E1.gh;exact .inr (.inl ⟨xs,SqT.of q,by rw [pq dl.length]⟩)
  | lst ds=>cases e;obtain ⟨p,xs,rfl,q,dl⟩:=r1.lst E1.gh;exact .inl ⟨xs,q,by rw [pq dl.length]⟩
  | dK ks ds=>cases e
  | dT ks ds=>cases e
 ·cases e
end
def spD (K:ac) (n:Nat) (fn:List Da->Option Da):Sp:=fun vs H Q _=>∃ G ds d,ds.length=n/\cQ G H/\Tbs K G/\cO K G ds vs/\fn ds=some d/\∀ v G' H',Ext G H G' H'->Den K G' d v->Q v H'
def cJ (fn:List Da->Option Da) (g:Rho->Option (List Rv)):Rho->Option Rv:=fun ρ=>match g ρ with
 | none=>none
 | some rs=>match kH rs with
   | none=>none
   | some ds=>match fn ds with
     | none=>none
     | some d=>some (.pu,d)
theorem t4:∀ {rs:List Rv} {ds:List Da},kH rs=some ds->ds.length=rs.length
 | [],ds,h=>by cases h;rfl
 | (k,d)::rs,ds,h=>by
   unfold kH at h
   split at h
   ·cases q:kH rs with
    | none=>rw [q] at h;cases h
    | some ds'=>rw [q] at h;cases h;rw [aG,aG,t4 q]
   ·cases h
theorem GB {X:Cx} {k n:Nat} {f:ak} {fd:dB} {ps:List bH} {fn:List Da->Option Da} {x:bH} {p pos:e7} {e:aP} {es:List aP} {g:Rho->Option (List Rv)} (F:vO X.prog X.w X.K X.mg X.base CX0 k f fd ps (spD X.K n fn)) (hr:jm k X.A) (hg:Gl X x) (hm:X.mg x=some (.ref f))
 (hk:bb X.K (.ref f)=true) (hb:rp X.K fd ps []) (ha:PXA X (e::es) g) (hlen:∀ ρ rs,g ρ=some rs->rs.length=n) (hdb:(x == ("__debug__" : bH))=false:=by decide) (he:ao (e::es) X.env=(false,b9 e X.env)::ao es X.env:=by exact bS rfl)
 (hpl:(cz pos (ao es X.env)).any (·.1)=false:=by rfl):PX X (.Call (.Name x p) (e::es) [] pos) (cJ fn g) :=
 PE.imp (vf F hr hg hm hk hb .nil Hg ha hdb he hpl) fun σ H Q ⟨B,G,ρ,r,sg,sb,st,e,kk⟩=>by
  unfold cJ at e
  split at e
  ·cases e
  ·rename_i rs er
   split at e
   ·cases e
   ·rename_i ds ed
    split at e
    ·cases e
    ·rename_i d ef
     cases e
     refine ⟨B,G,ρ,rs,sg,sb,st,er,fun vs G1 H1 E1 r1=>?_⟩
     obtain ⟨G2,E2,s12,d2⟩:=r1.pure E1 ed
     refine ⟨G2,ds,d,by rw [t4 ed];exact hlen ρ rs er,E2.gh,st.tg.mono E2.gg,by rw [eV];exact d2,ef,fun v G3 H3 E3 r3=>kk v G3 H3 (E2.trans E3) r3⟩
theorem cj:∀ ρ rs,cc ρ=some rs->rs.length=0:=fun _ _ h=>by cases h;rfl
theorem aT {n:Nat} {f:Rho->Option Rv} {g:Rho->Option (List Rv)} (h:∀ ρ rs,g ρ=some rs->rs.length=n):∀ ρ rs,aJ f g ρ=some rs->rs.length=n+1:=fun ρ rs e=>by
 unfold aJ at e
 split at e
 ·cases e
 ·split at e
  ·cases e
  ·rename_i rs' er
   cases e
   rw [aG,h ρ rs' er]
inductive Res where
 | nx (ρ:Rho) | rt (d:Da) | bk (ρ:Rho) | ct (ρ:Rho) | bad
def EF (K:ac) (B G0 Gs:Hp) (D:Gn):Res->Prop
 | .nx ρ=>∀ σ G H,Ext G0 B G H->cQ Gs G->iC K B G H σ ρ->D.nx σ H
 | .rt d=>∀ v G H,Ext G0 B G H->cQ Gs G->Den K G d v->D.rt v H
 | .bk ρ=>∀ σ G H,Ext G0 B G H->cQ Gs G->iC K B G H σ ρ->D.bk σ H
 | .ct ρ=>∀ σ G H,Ext G0 B G H->cQ Gs G->iC K B G H σ ρ->D.ct σ H
 | .bad=>False
theorem EF.mono {K:ac} {B G0 Gs Gt:Hp} {D:Gn} {r:Res} (h:EF K B G0 Gs D r) (s:cQ Gs Gt):EF K B G0 Gt D r:=by
 cases r with
 | nx ρ=>exact fun σ G H E t st=>h σ G H E (s.trans t) st
 | rt d=>exact fun v G H E t st=>h v G H E (s.trans t) st
 | bk ρ=>exact fun σ G H E t st=>h σ G H E (s.trans t) st
 | ct ρ=>exact fun σ G H E t st=>h σ G H E (s.trans t) st
 | bad=>exact h
def tS (K:ac) (g:Rho->Res):TS:=fun D σ H=>∃ B G0 G ρ,Ext G0 B G H/\iC K B G H σ ρ/\EF K B G0 G D (g ρ)
abbrev PXS (X:Cx) (st:cV) (g:Rho->Res):Prop:=PS X st (tS X.K g)
abbrev wC (X:Cx) (st:List cV) (g:Rho->Res):Prop:=PSs X st (tS X.K g)
section
variable {X:Cx} {st:cV} {rest:List cV} {g h:Rho->Res} {pos pos':e7} {e:aP} {f:Rho->Option Rv}
def ni:Rho->Res:=fun ρ=>.nx ρ
def iD (g h:Rho->Res):Rho->Res:=fun ρ=>match g ρ with
 | .nx ρ'=>h ρ'
 | r=>r
theorem EU:wC X [] ni:=PSs.imp rK fun D σ H ⟨B,G0,G,ρ,E,st,k⟩=>k σ G H E (cQ.refl _) st
theorem CZ (h1:PXS X st g) (h2:wC X rest h):wC X (st::rest) (iD g h):=PSs.imp (gH h1 h2) fun D σ H ⟨B,G0,G,ρ,E,st,k⟩=>by
 refine ⟨B,G0,G,ρ,E,st,?_⟩
 unfold iD at k
 cases q:g ρ with
 | nx ρ'=>rw [q] at k;exact fun σ' G' H' E' s' st'=>⟨B,G0,G',ρ',E',st',k.mono s'⟩
 | rt d=>rw [q] at k;exact k
 | bk ρ'=>rw [q] at k;exact k
 | ct ρ'=>rw [q] at k;exact k
 | bad=>rw [q] at k;exact k
theorem FS (h1:PXS X st g):wC X [st] g:=iV h1
def LQ (f:Rho->Option Rv):Rho->Res:=fun ρ=>match f ρ with
 | some r=>if r.1=.pu\/nQ r.2=false then .rt r.2 else .bad
 | none=>.bad
def sIf (t:Rho->Option Bool) (g h:Rho->Res):Rho->Res:=fun ρ=>match t ρ with
 | some true=>g ρ
 | some false=>h ρ
 | none=>.bad
theorem Jy {c:aP} {a b:List cV} {t:Rho->Option Bool} (hc:PXT X c t) (ha:wC X a g) (hb:wC X b h):PXS X (.If c a b pos) (sIf t g h):=PS.imp (Dr hc ha hb) fun D σ H ⟨B,G0,G,ρ,E,st,k⟩=>by
 unfold sIf at k
 cases q:t ρ with
 | none=>rw [q] at k;exact k.elim
 | some b =>
   rw [q] at k
   refine ⟨B,G,ρ,b,E.gh,E.hh,st,q,fun G1 H1 E1=>?_⟩
   cases b with
   | true=>rw [if_pos rfl];exact ⟨B,G0,G1,ρ,E.trans E1,st.ext E1,k.mono E1.gg⟩
   | false=>rw [if_neg aO];exact ⟨B,G0,G1,ρ,E.trans E1,st.ext E1,k.mono E1.gg⟩
def lP (i:Nat) (f:Rho->Option Rv):Rho->Res:=fun ρ=>match f ρ with
 | some r=>if e5 r=true then .nx (ρ.set i (.pu r.2)) else .bad
 | none=>.bad
theorem Ga {i:Nat} {x:bH} (hN:X.N.Nodup) (he:PX X e f) (hi:X.N[i]?=some x:=by rfl) (hx:Loc X.env.scope x:=by first | exact dI rfl | exact dQ rfl) (hs:ff e (some (.Name x pos')) pos.line X.env=pure false:=by rfl)
 (hf:X.fn x=true\/X.env.scope.names.lookup x=some .local:=by first | exact .inl rfl | exact .inr rfl | assumption):PXS X (.Assign [.Name x pos'] e pos) (lP i f) :=
 PS.imp (qO hN hi hx he hs hf) fun D σ H ⟨B,G0,G,ρ,E,st,k⟩=>by
  unfold lP at k
  cases q:f ρ with
  | none=>rw [q] at k;exact k.elim
  | some r =>
    rw [q] at k
    dsimp only at k
    split at k
    ·rename_i hk
     refine ⟨B,G,ρ,r,E.gh,E.hh,st,q,fun v G1 H1 E1 r1=>?_⟩
     obtain ⟨G2,E2,_,d2⟩:=r1.pure E1 hk
     exact k _ G2 H1 (E.trans E2) E2.gg ((st.ext E2).setPu d2)
    ·exact k.elim
def zC (i:Nat) (f:Rho->Option Rv):Rho->Res:=fun ρ=>match f ρ with
 | some (.fr,d)=>.nx (ρ.set i (.ow d))
 | _=>.bad
theorem Hf {i:Nat} {x:bH} (hN:X.N.Nodup) (he:PX X e f) (hi:X.N[i]?=some x:=by rfl) (hx:Loc X.env.scope x:=by first | exact dI rfl | exact dQ rfl) (hs:ff e (some (.Name x pos')) pos.line X.env=pure false:=by rfl)
 (hf:X.fn x=true\/X.env.scope.names.lookup x=some .local:=by first | exact .inl rfl | exact .inr rfl | assumption):PXS X (.Assign [.Name x pos'] e pos) (zC i f) :=
 PS.imp (qO hN hi hx he hs hf) fun D σ H ⟨B,G0,G,ρ,E,st,k⟩=>by
  unfold zC at k
  split at k
  ·rename_i d q
   refine ⟨B,G,ρ,_,E.gh,E.hh,st,q,fun v G1 H1 E1 r1=>?_⟩
   obtain ⟨l,o,rfl,n,g,qh,r⟩:=r1
   refine k _ G1 H1 (E.trans E1) E1.gg ((st.ext E1).setOw (E.hh.free n) g qh r fun j d' hj ej z=>?_)
   obtain ⟨l',o',a,_,_,f',_⟩:=st.ow j d' ej
   rw [a] at z
   cases z
   rw [n] at f';cases f'
  ·exact k.elim
theorem Fe (i:Nat) (h1:PXS X st g):PXS X st (fun ρ=>g (frz i ρ)):=PS.imp h1 fun D σ H ⟨B,G0,G,ρ,E,st,k⟩=>by
 obtain ⟨G',E',s',st'⟩:=st.frz i E
 exact ⟨B,G0,G',_,E',st',k.mono s'⟩
def KC (f:Rho->Option Rv):Rho->Res:=fun ρ=>match f ρ with
 | some _=>.nx ρ
 | none=>.bad
def lJ (i:Nat) (f:Rho->Option Rv):Rho->Res:=fun ρ=>match ρ[i]?,f ρ with
 | some (.ow (.lst ds)),some r=>if e5 r=true/\ds.length<=1000000 then .nx (ρ.set i (.ow (.lst (ds++[r.2])))) else .bad
 | _,_=>.bad
theorem yf {i:Nat} {x:bH} {p1 apos cpos:e7} (he:PX X e f) (hN:X.N[i]?=some x:=by rfl) (hv:Vis X.env.scope x:=by first | exact dI rfl | exact dQ (dI rfl) | exact dQ (dQ rfl)) (hd:(x == ("__debug__" : bH))=false:=by decide)
 (hcd:(x == ("__classdict__" : bH))=false:=by decide)
 (hs:ff (.Call (.Attribute (.Name x p1) "append" apos) [e] [] cpos) none pos.line X.env=pure false:=by rfl) (hbase:gk (.Name x p1) "append" X.env (b9 (.Name x p1) X.env)=b9 (.Name x p1) X.env:=by rfl)
 (hfew:((cz cpos (ao [e] X.env)).all (fun x=>!x.1)&&(lh cpos (h8 [] X.env)).all (fun x=>x.1.isSome)&&decide (([e]:List aP).length+([]:List i5).length+(if ([]:List i5).isEmpty then 0 else 1)<30))=true:=by rfl)
 (hline:(apos.endLine == cpos.line)=true:=by rfl) (hst:ao [e] X.env=[(false,b9 e X.env)]:=by exact bS rfl) (hplain:(cz cpos (ao [] X.env)).any (·.1)=false:=by rfl) :
 PXS X (.Expr (.Call (.Attribute (.Name x p1) "append" apos) [e] [] cpos) pos) (lJ i f) :=
 PS.imp (Ac (JU qo PySem.F.slot_list_append PySem.F.type_list_append t5 (xi hN hv hd hcd) (fR he kL hst) hbase hfew hline hst hplain) hs) fun D σ H ⟨B,G0,G,ρ,E,st,k⟩=>by
  unfold lJ at k
  split at k
  ·rename_i ds r eo ef
   split at k
   ·rename_i hk
    obtain ⟨l,o,a,nb,ng,hl,xs,rfl,dl⟩:=st.ow i _ eo
    refine ⟨_,a,.inl ⟨rfl,xs,SqL.of hl⟩,B,G,ρ,_,E.gh,E.hh,st,ef,fun v G1 H1 E1 r1=>?_⟩
    obtain ⟨G2,E2,_,d2⟩:=r1.pure E1 hk.1
    have hs:aL=16777216:=bE
    have ln:=dl.length
    refine ⟨l,xs,v,rfl,rfl,E1.hh _ _ hl,by lia,?_⟩
    have st2:=st.ext E2
    have g2:G2 l=none:=E2.nw _ _ hl rfl ng
    exact k _ G2 _ ((E.trans E2).mut nb g2) E2.gg (st2.mut eo a ⟨_,rfl,cO.append (cO.mono E2.gg _ dl) (cO.one d2)⟩)
   ·exact k.elim
  ·exact k.elim
end
section
variable {X:Cx} {pins:List (ak×dm)} {σ:St} {H:Hp} {s:ai} {l:ak}
def rP (u:HO):Prop:=(∃ kvs,u=.dK kvs)\/∃ kvs,u=.dT kvs
theorem DM {u:HO} (I:Inv X pins σ H s) (e:H l=some u) (hu:rP u):∃ o,Inv X pins σ (upd H l (.frz o u)) s:=by
 have ok:=I.hok l u e
 obtain ⟨o,ho⟩:∃ o,s.heap.get? l=some o:=by
  rcases hu with ⟨kvs,rfl⟩ | ⟨kvs,rfl⟩
  ·obtain ⟨_,_,vs,_,o,_,_,q,_⟩:=ok;exact ⟨o,q⟩
  ·obtain ⟨_,_,xs,_,o,_,_,q,_⟩:=ok;exact ⟨o,q⟩
 have nn:∀ {b:ak},H b=none->b≠l:=fun n z=>by rw [z,e] at n;cases n
 have nt:∀ {b:ak} {w:HO},H b=some w->¬ rP w->b≠l:=fun q n z=>by rw [z,e] at q;cases q;exact n hu
 have n1:∀ xs,¬ rP (.tup xs):=fun xs z=>by rcases z with ⟨_,z⟩ | ⟨_,z⟩<;>cases z
 have n2:∀ ob w,¬ rP (.frz ob w):=fun ob w z=>by rcases z with ⟨_,z⟩ | ⟨_,z⟩<;>cases z
 have n3:∀ ps,¬ rP (.tbl ps):=fun ps z=>by rcases z with ⟨_,z⟩ | ⟨_,z⟩<;>cases z
 have n4:∀ y,¬ rP (.own y):=fun y z=>by rcases z with ⟨_,z⟩ | ⟨_,z⟩<;>cases z
 refine ⟨o,I.ok,I.os,I.bare,⟨I.base.keep,I.base.slot,fun b ob q n hx=>?_,I.base.there,fun b xs q=>?_,fun b ob w q=>?_,fun b ps q=>?_⟩,I.loc,I.cell,?_,fun x c q=>?_,fun p hp=>?_,fun b v q=>?_,I.len⟩
 ·have z:=I.base.free b ob q n hx
  rw [bq (nn z)];exact z
 ·have z:=I.base.tups b xs q
  rw [bq (nt z (n1 xs))];exact z
 ·have z:=I.base.frzs b ob w q
  rw [bq (nt z (n2 ob w))];exact z
 ·obtain ⟨m,z⟩:=I.base.tbls b ps q
  exact ⟨m,by rw [bq (nt z (n3 _))];exact z⟩
 ·rw [bq (nn I.free)];exact I.free
 ·rw [bq (nn (I.freeC x c q))];exact I.freeC x c q
 ·obtain ⟨a,b,c⟩:=I.pin p hp
  exact ⟨a,by rw [bq (nn b)];exact b,c⟩
 ·have hown:∀ c y,H c=some (.own y)->upd H l (.frz o u) c=some (.own y):=fun c y z=>by rw [bq (nt z (n4 y))];exact z
  have htup:∀ c xs,H c=some (.tup xs)->upd H l (.frz o u) c=some (.tup xs):=fun c xs z=>by rw [bq (nt z (n1 xs))];exact z
  have hcod:∀ c x,H c=some (.cod x)->upd H l (.frz o u) c=some (.cod x):=fun c x z=>by rw [bq (nt z (fun y=>by rcases y with ⟨_,y⟩ | ⟨_,y⟩<;>cases y))];exact z
  by_cases hb:b=l
  ·subst hb
   rw [aV] at q
   cases q
   exact ⟨ho,ok.stay (fun _ _ _ z=>z) (fun c z=>hown c _ z) htup hcod⟩
  ·rw [bq hb] at q
   exact (I.hok b v q).stay (fun _ _ _ z=>z) (fun c z=>hown c _ z) htup hcod
end
def iG (f:Rho->Option Rv):Rho->Option Rv:=fun ρ=>match f ρ with
 | some (.fr,d)=>some (.pu,d)
 | r=>r
theorem Holds.dct {K:ac} {G:Hp} {d:Da} {o:HO} (h:Holds K G d o) (nd:nQ d=true):rP o/\∀ (l:ak) (ob:dm),G l=some (.frz ob o)->Den K G d (.ref l):=by
 cases d with
 | dK ks ds=>obtain ⟨kvs,rfl,k,r⟩:=h;exact ⟨.inl ⟨kvs,rfl⟩,fun l ob e=>⟨l,ob,kvs,rfl,e,k,r⟩⟩
 | dT ks ds=>obtain ⟨kvs,rfl,k,r⟩:=h;exact ⟨.inr ⟨kvs,rfl⟩,fun l ob e=>⟨l,ob,kvs,rfl,e,k,r⟩⟩
 | _=>cases nd
theorem zH {X:Cx} {e:aP} {f:Rho->Option Rv} (h:PX X e f):PX X e (iG f):=by
 intro pins s σ H Q I ⟨B,G,ρ,r,sg,sb,st,eq,k⟩
 unfold iG at eq
 split at eq
 ·rename_i d q
  cases eq
  refine thn (h pins s σ H (fun v H1=>∃ G1,Ext G H G1 H1/\gZ X.K B H G1 H1 (.fr,d) v) I ⟨B,G,ρ,_,sg,sb,st,q,fun v G1 H1 E1 r1=>⟨G1,E1,r1⟩⟩) fun u s1 ⟨v,H1,I1,rv,G1,E1,r1⟩=>?_
  by_cases nd:nQ d=true
  ·obtain ⟨l,o,rfl,n,g,ql,hd⟩:=r1
   obtain ⟨hdct,hden⟩:=(hd.mono (cw (o:=o) g)).dct nd
   obtain ⟨ob,I2⟩:=DM I1 ql (hd.dct nd).1
   refine ⟨.ref l,_,I2,rv,k _ (upd G1 l (.frz ob o)) _ ⟨fun b w z=>?_,E1.gg.trans (cw g),ky E1.gh,fun b w z t y=>?_⟩ ?_⟩
   ·rw [bq (b7 z n)];exact E1.hh b w z
   ·rw [bq (b7 z n)];exact E1.nw b w z t y
   ·exact ((hd.mono (cw (o:=.frz ob o) g)).dct nd).2 l ob aV
  ·obtain ⟨G2,E2,_,d2⟩:=r1.pure E1 (by simpa [e5] using nd)
   exact ⟨v,H1,I1,rv,k v G2 H1 E2 d2⟩
 ·exact h pins s σ H Q I ⟨B,G,ρ,r,sg,sb,st,eq,k⟩
def fZ (f:Rho->Option Rv):Rho->Res:=fun ρ=>match f ρ with
 | some r=>.rt r.2
 | none=>.bad
theorem DY {X:Cx} {e:aP} {f:Rho->Option Rv} {pos:e7} (he:PX X e f):PXS X (.Return (some e) pos) (fZ f):=by
 intro pins s σ H D I ⟨B,G0,G,ρ,E,st,k⟩
 unfold fZ at k
 cases q:f ρ with
 | none=>rw [q] at k;exact k.elim
 | some r =>
   rw [q] at k
   refine thn (tQ (pos:=pos) he pins s σ H { nx:=fun _ _=>False,rt:=fun v H1=>∃ G1,Ext G H G1 H1/\gZ X.K B H G1 H1 r v } I ⟨B,G,ρ,r,E.gh,E.hh,st,q,fun v G1 H1 E1 r1=>⟨G1,E1,r1⟩⟩) fun fl s1 h1=>?_
   cases fl with
   | next=>obtain ⟨_,_,_,z⟩:=h1;exact z.elim
   | brk=>obtain ⟨_,_,_,z⟩:=h1;exact z.elim
   | cont=>obtain ⟨_,_,_,z⟩:=h1;exact z.elim
   | ret u =>
     obtain ⟨v,σ1,H1,I1,rv,G1,E1,r1⟩:=h1
     by_cases nd:r.1=.pu\/nQ r.2=false
     ·obtain ⟨G2,E2,s2,d2⟩:=r1.pureB E.hh (E.trans E1) nd
      exact ⟨v,σ1,H1,I1,rv,k v G2 H1 E2 (E1.gg.trans s2) d2⟩
     ·obtain ⟨kd,d⟩:=r
      have hk:¬ kd=.pu:=fun z=>nd (.inl z)
      have hd:nQ d=true:=by
       cases z:nQ d with
       | true=>rfl
       | false=>exact absurd (.inr z) nd
      have go:∃ l o,v=.ref l/\B l=none/\G1 l=none/\H1 l=some o/\Holds X.K G1 d o:=by
       cases kd with
       | pu=>exact absurd rfl hk
       | bo =>
         obtain ⟨l,o,rfl,nb,g,ql,hh⟩:=r1
         exact ⟨l,o,rfl,nb,g,ql,hh⟩
       | fr=>obtain ⟨l,o,rfl,n,g,ql,hh⟩:=r1;exact ⟨l,o,rfl,E.hh.free n,g,ql,hh⟩
      obtain ⟨l,o,rfl,nb,g,ql,hh⟩:=go
      obtain ⟨ob,I2⟩:=DM I1 ql (hh.dct hd).1
      have E2:=E.trans E1
      refine ⟨.ref l,σ1,_,I2,rv,k _ (upd G1 l (.frz ob o)) _ ⟨fun b w z=>?_,E2.gg.trans (cw g),ky E2.gh,fun b w z t y=>?_⟩ (E1.gg.trans (cw g)) ?_⟩
      ·rw [bq (b7 z nb)];exact E2.hh b w z
      ·rw [bq (b7 z nb)];exact E2.nw b w z t y
      ·exact ((hh.mono (cw (o:=.frz ob o) g)).dct hd).2 l ob aV
def HB (K:ac) (J:It) (items:List Da) (G:Hp):Prop:=∀ (i:Nat) (G' H':Hp),cQ G G'->cQ G' H' ->
 (∀ d,items[i]?=some d->J.go i H'/\∀ x H'',J.yld i H' x H''->∃ G'',Ext G' H' G'' H''/\Den K G'' d x)/\(items.length=i->J.stop i H')
def iX (K:ac) (f:Rho->Option (List Da)):TI:=fun σ H R=>∃ B G ρ ds,cQ G H/\cQ B H/\iC K B G H σ ρ/\f ρ=some ds/\∀ J G' H',Ext G H G' H'->HB K J ds G'->R J H'
abbrev PXI (X:Cx) (tg iter:aP) (f:Rho->Option (List Da)):Prop:=PI X tg iter (iX X.K f)
section
variable {X:Cx} {tg e:aP} {f:Rho->Option Rv} {pos:e7}
theorem Hv {K:ac} {G:Hp} {a:ak} {xs:List V} {ds:List Da} (q:SqL K G a xs) (h:cO K G ds xs) (inj:∀ (H:Hp) (ys:List V),cQ G H->SqL K H a ys->ys=xs\/True):HB K (Itl K a) ds G:=by
 intro i G' H' s1 s2
 have q2:=(s1.trans s2).seq q
 refine ⟨fun d e=>?_,fun hl=>⟨xs,q2,by rw [h.length];exact kr hl⟩⟩
 obtain ⟨x,hx,dx⟩:=h.get e
 refine ⟨⟨xs,x,q2,hx⟩,fun y H'' z=>?_⟩
 obtain ⟨rfl,z⟩:=z
 have:=z xs q2
 rw [hx] at this;cases this
 exact ⟨G',Ext.refl s2,Den.mono s1 d dx⟩
theorem JP {K:ac} {G:Hp} {a:ak} {xs:List V} {ds:List Da} (q:G a=some (.tup xs)) (h:cO K G ds xs):HB K (Itt K a) ds G:=by
 intro i G' H' s1 s2
 have q2:SqT K H' a xs:=SqT.of ((s1.trans s2) _ _ q)
 refine ⟨fun d e=>?_,fun hl=>⟨xs,q2,by rw [h.length];exact kr hl⟩⟩
 obtain ⟨x,hx,dx⟩:=h.get e
 refine ⟨⟨xs,x,q2,hx⟩,fun y H'' z=>?_⟩
 obtain ⟨rfl,z⟩:=z
 have:=z xs q2
 rw [hx] at this;cases this
 exact ⟨G',Ext.refl s2,Den.mono s1 d dx⟩
def fg (lo:Int):Nat->List Da
 | 0=>[]
 | n+1=>.int lo::fg (lo+1) n
theorem qD:∀ (n:Nat) (lo:Int),(fg lo n).length=n
 | 0,_=>rfl
 | n+1,lo=>by unfold fg;rw [aG,qD n]
theorem qB:∀ (n:Nat) (lo:Int) (i:Nat) (d:Da),(fg lo n)[i]?=some d->d=.int (lo+i)/\i<n
 | 0,_,_,_,h=>by simp [fg] at h
 | n+1,lo,0,d,h=>by unfold fg at h;simp at h;subst h;exact ⟨by simp,by lia⟩
 | n+1,lo,i+1,d,h=>by
   unfold fg at h
   rw [bv] at h
   obtain ⟨e,l⟩:=qB n (lo+1) i d h
   refine ⟨?_,by lia⟩
   rw [e]
   congr 1
   push_cast
   lia
theorem wV {K:ac} {G:Hp} {lo:Int} {n:Nat}:HB K (Itr lo n) (fg lo n) G:=by
 intro i G' H' s1 s2
 refine ⟨fun d e=>?_,fun hl=>?_⟩
 ·obtain ⟨rfl,hi⟩:=qB n lo i d e
  refine ⟨hi,fun y H'' z=>?_⟩
  obtain ⟨rfl,rfl⟩:=z
  exact ⟨G',Ext.refl s2,rfl⟩
 ·rw [qD] at hl;exact kr hl
def Itd (a:ak) (o:dm) (kvs:List (Key×V)):It :=
 ⟨fun i H=>H a=some (.frz o (.dK kvs))/\i<kvs.length,fun i H x H'=>H'=H/\∃ kv,kvs[i]?=some kv/\x=kV kv.1,fun i H=>H a=some (.frz o (.dK kvs))/\kvs.length=i⟩
theorem Hq {K:ac} {G:Hp} {a:ak} {o:dm} {kvs:List (Key×V)} (q:G a=some (.frz o (.dK kvs))):HB K (Itd a o kvs) (kvs.map fun kv=>ji kv.1) G:=by
 intro i G' H' s1 s2
 have q2:=(s1.trans s2) _ _ q
 refine ⟨fun d e=>?_,fun hl=>⟨q2,by rw [ab] at hl;exact hl⟩⟩
 rw [ay] at e
 cases z:kvs[i]? with
 | none=>rw [z] at e;cases e
 | some kv =>
   rw [z] at e
   cases e
   refine ⟨⟨q2,(aE.mp z).1⟩,fun y H'' w=>?_⟩
   obtain ⟨rfl,kv',e',rfl⟩:=w
   rw [z] at e';cases e'
   exact ⟨G',Ext.refl s2,uH _⟩
theorem kW {pins:List (ak×dm)} {σ:St} {H:Hp} {s:ai} {a:ak} {o:dm} {kvs:List (Key×V)} (I:Inv X pins σ H s) (q:H a=some (.frz o (.dK kvs))) :
 s.heap.get? a=some o/\(a == dh)=false/\∃ vs,KV kvs vs/\s.heap.DictOf (cI X.prog X.w) a vs:=by
 obtain ⟨e,_,hd,vs,r,dd⟩:=I.hok a _ q
 exact ⟨e,hd,vs,r,dd⟩
theorem zV {P:bA} {w:cb} {K:ac} {tg:aP} (a it:ak) (o:dm) (kvs:List (Key×V)) (vs:List (Key×ae)) (ep:Nat) (es:Array lj) (hd:o.data=.dict es ep) (rel:KV kvs vs) :
 Gy P w K tg (Itd a o kvs) [it] it (fun i h=>h.IsKeyIter it a i vs.length ep) where
 mem:=by simp
 obj:=fun i h st b hb=>by
  have e:b=it:=by simpa using hb
  subst e
  obtain ⟨o,e,c,d⟩:=st
  exact ⟨o,e,fun v z=>by rw [d] at z;cases z⟩
 keep:=fun i h h' st k=>st.at fun o e=>k it (by simp) o e
 item:=by
  intro X hP hw hK hc i pins s σ H E I hf st hg
  subst hP hw hK
  obtain ⟨hq,hi⟩:=hg
  obtain ⟨ho,hm,vs',rel',dd⟩:=kW I hq
  obtain ⟨f0,f1,f2,f3,f4,f5⟩:=hf it (by simp)
  have hkv:∃ kv,kvs[i]?=some kv:=⟨kvs[i],by simp [hi]⟩
  obtain ⟨kv,hkv⟩:=hkv
  have hv:∃ kv',vs'[i]?=some kv'/\kv'.1=kv.1:=by
   have hl:=ce rel'
   have:i<vs'.length:=by lia
   refine ⟨vs'[i],by simp [this],?_⟩
   have e:=rel'.keys
   have e2:=congrArg (fun l=>l[i]?) e
   simp only [ay,hkv,cn] at e2
   rw [aj this] at e2
   simpa using e2.symm
  obtain ⟨⟨k',x'⟩,hv,hk⟩:=hv
  obtain ⟨o2,es2,ep2,e2,r2⟩:=dd
  rw [ho] at e2;cases e2
  have hep:ep2=ep:=by
   have:=r2.2.1
   rw [hd] at this;cases this;rfl
  subst hep
  have hlen:vs.length=vs'.length:=by rw [<- ce rel,<- ce rel']
  rw [hlen] at st
  refine wpAny_pyNext_dict_item (knd:=cI X.prog X.w) st ⟨o,es2,ho,r2⟩ hv fun key h' hkey st' sb=>?_
  have I1:Inv X pins σ H { s with heap:=h' }:=I.turned (t':=s.toks) (fun b o hb e=>(sb.2 b hb).trans e) f0 f1 f3 f4 f5
  obtain ⟨oi,ei,ci,di⟩:=id st'
  rw [<- hlen] at st'
  refine ⟨key,rfl,Df (s:={ s with heap:=h' }) ei ci di (by decide) ⟨kV kv.1,H,I1,?_,⟨rfl,kv,hkv,rfl⟩,st',fun b hb=>(hf b hb).1⟩⟩
  dsimp only at hk
  subst hk
  rcases dN (show rV kv.1 key=true from hkey) with ⟨z,t,e1,e2⟩ | ⟨z,t,e1,e2⟩
  ·rw [e1,e2];exact ⟨t,rfl⟩
  ·rw [e1,e2];exact ⟨t,rfl⟩
 done:=by
  intro X hP hw hK hc i pins s σ H E I hf st hg
  subst hP hw hK
  obtain ⟨hq,hi⟩:=hg
  obtain ⟨ho,hm,vs',rel',dd⟩:=kW I hq
  obtain ⟨f0,f1,f2,f3,f4,f5⟩:=hf it (by simp)
  obtain ⟨o2,es2,ep2,e2,r2⟩:=dd
  rw [ho] at e2;cases e2
  have hep:ep2=ep:=by
   have:=r2.2.1
   rw [hd] at this;cases this;rfl
  subst hep
  have hlen:vs.length=vs'.length:=by rw [<- ce rel,<- ce rel']
  rw [hlen] at st
  have hl:=ce rel'
  exact wpAny_pyNext_dict_end (knd:=cI X.prog X.w) (I.ok.hd hc) st ⟨o,es2,ho,r2⟩ (fK (by lia)) fun h' eb=>⟨rfl,I.turned (t':=s.toks) (fun b o hb e=>eb b o hb e) f0 f1 f3 f4 f5⟩
 self:=fun _ _ _ _ _ st h=>wpAny_pyIter_keyiter st h
def cF (f:Rho->Option Rv):Rho->Option (List Da):=fun ρ=>match f ρ with
 | some (.pu,.lst ds)=>some ds
 | some (.pu,.tup ds)=>some ds
 | some (.pu,.dK ks _)=>some (ks.map ji)
 | _=>none
theorem vg (he:PX X e f):PXI X tg e (cF f):=by
 intro pins s σ H R I ⟨B,G,ρ,ds,sg,sb,st,eq,k⟩
 unfold cF at eq
 split at eq
 ·rename_i ds' q
  cases eq
  refine Ff he pins s σ H R I ⟨B,G,ρ,_,sg,sb,st,q,fun v G1 H1 E1 r1=>?_⟩
  obtain ⟨a,xs,rfl,q1,d1⟩:=r1
  exact ⟨a,rfl,⟨xs,E1.gh.seq q1⟩,k _ G1 H1 E1 (Hv q1 d1 fun _ _ _ _=>.inr trivial)⟩
 ·rename_i ds' q
  cases eq
  refine Jz he pins s σ H R I ⟨B,G,ρ,_,sg,sb,st,q,fun v G1 H1 E1 r1=>?_⟩
  obtain ⟨a,xs,rfl,q1,d1⟩:=r1
  exact ⟨a,rfl,⟨xs,SqT.of (E1.gh _ _ q1)⟩,k _ G1 H1 E1 (JP q1 d1)⟩
 ·rename_i ks vs q
  cases eq
  refine thn (he pins s σ H (fun v H1=>∃ G1,Ext G H G1 H1/\gZ X.K B H G1 H1 (.pu,.dK ks vs) v) I ⟨B,G,ρ,_,sg,sb,st,q,fun v G1 H1 E1 r1=>⟨G1,E1,r1⟩⟩) fun u s1 ⟨v,H1,I1,rv,G1,E1,r1⟩=>?_
  obtain ⟨a,o,kvs,rfl,q1,ek,d1⟩:=r1
  cases rv
  have q2:=E1.gh _ _ q1
  obtain ⟨ho,hm,vs',rel,dd⟩:=kW I1 q2
  obtain ⟨o2,es,ep,e2,r2⟩:=dd
  rw [ho] at e2;cases e2
  have hks:ks.map ji=kvs.map fun kv=>ji kv.1:=by rw [<- ek,aC];rfl
  refine wpAny_pyIter_dict (knd:=cI X.prog X.w) hm ⟨o,es,ho,r2⟩ ?_
  refine ⟨s1.heap.objs.size,[s1.heap.objs.size],_,Itd a o kvs,H1,rfl,I1.kept (t':=s1.toks) fun b o e=>af _ e,zV a _ o kvs vs' ep es r2.2.1 rel,⟨_,aH _ rfl,rfl,rfl⟩,fun b hb=>?_,k _ G1 H1 E1 (by rw [hks];exact Hq q1)⟩
  have e:b=s1.heap.objs.size:=by simpa using hb
  subst e
  exact I1.fpOk (ax _) (I1.hok.fresh (ax _))
 ·cases eq
def mn (f:Rho->Option (List Rv)):Rho->Option (List Da):=fun ρ=>match f ρ with
 | some [(_,.int j)]=>if -(2 ^ 62)<=j/\j<2 ^ 62 then some (fg 0 j.toNat) else none
 | _=>none
def HD (f:Rho->Option (List Rv)):Rho->Option (List Da):=fun ρ=>match f ρ with
 | some [(_,.int i),(_,.int j)]=>if -(2 ^ 62)<=i/\i<2 ^ 62/\-(2 ^ 62)<=j/\j<2 ^ 62 then some (fg i (j-i).toNat) else none
 | _=>none
theorem PI.imp {X:Cx} {tg e:aP} {t t':TI} (h:PI X tg e t) (i:∀ σ H R,t' σ H R->t σ H R):PI X tg e t':=fun pins s σ H R I q=>h pins s σ H R I (i σ H R q)
theorem m8 {a:aP} {p:e7} {g:Rho->Option (List Rv)} (hg:Gl X "range") (hm:X.mg "range" = none) (ha:PXA X [a] g) (hs:ao [a] X.env=[(false,b9 a X.env)]:=by exact bS rfl):PXI X tg (.Call (.Name "range" p) [a] [] pos) (mn g) :=
 PI.imp (Bu hg hm ha hs) fun σ H R ⟨B,G,ρ,ds,sg,sb,st,eq,k⟩=>by
  unfold mn at eq
  split at eq
  ·rename_i kd j q
   split at eq
   ·rename_i hb
    cases eq
    refine ⟨B,G,ρ,_,sg,sb,st,q,fun vs G1 H1 E1 r1=>?_⟩
    obtain ⟨v,rfl,r⟩:=fJ.one r1
    cases r.int
    exact ⟨j,rfl,hb.1,hb.2,k _ G1 H1 E1 wV⟩
   ·cases eq
  ·cases eq
theorem yp {a b:aP} {p:e7} {g:Rho->Option (List Rv)} (hg:Gl X "range") (hm:X.mg "range" = none) (ha:PXA X [a,b] g) (hs:ao [a,b] X.env=[(false,b9 a X.env),(false,b9 b X.env)]:=by rfl) (hs2:ao [b] X.env=[(false,b9 b X.env)]:=by rfl) :
 PXI X tg (.Call (.Name "range" p) [a,b] [] pos) (HD g) :=
 PI.imp (zM hg hm ha hs hs2) fun σ H R ⟨B,G,ρ,ds,sg,sb,st,eq,k⟩=>by
  unfold HD at eq
  split at eq
  ·rename_i k1 i k2 j q
   split at eq
   ·rename_i hb
    cases eq
    refine ⟨B,G,ρ,_,sg,sb,st,q,fun vs G1 H1 E1 r1=>?_⟩
    obtain ⟨v,v2,rfl,r,r2⟩:=fJ.two r1
    cases r.int
    cases r2.int
    exact ⟨i,j,rfl,hb,k _ G1 H1 E1 wV⟩
   ·cases eq
  ·cases eq
end
def gX (K:ac) (t:Da->Rho->Option Rho):TG:=fun v σ H Q=>∃ B G0 G ρ d ρ',Ext G0 B G H/\iC K B G H σ ρ/\Den K G d v/\t d ρ=some ρ'/\∀ σ',iC K B G H σ' ρ'->Q σ' H
def gXs (K:ac) (t:List Da->Rho->Option Rho):TGs:=fun vs σ H Q=>∃ B G0 G ρ ds ρ',Ext G0 B G H/\iC K B G H σ ρ/\cO K G ds vs/\t ds ρ=some ρ'/\∀ σ',iC K B G H σ' ρ'->Q σ' H
abbrev PXG (X:Cx) (tg:aP) (t:Da->Rho->Option Rho):Prop:=PG X tg (gX X.K t)
abbrev GC (X:Cx) (ts:List aP) (t:List Da->Rho->Option Rho):Prop:=PGs X ts (gXs X.K t)
theorem PG.imp {X:Cx} {tg:aP} {t t':TG} (h:PG X tg t) (i:∀ v σ H Q,t' v σ H Q->t v σ H Q):PG X tg t':=fun pins s σ H v u Q I r q=>h pins s σ H v u Q I r (i v σ H Q q)
theorem PGs.imp {X:Cx} {tg:List aP} {t t':TGs} (h:PGs X tg t) (i:∀ v σ H Q,t' v σ H Q->t v σ H Q):PGs X tg t':=fun pins s σ H v u Q I r q=>h pins s σ H v u Q I r (i v σ H Q q)
section
variable {X:Cx} {pos:e7}
def tgN (i:Nat):Da->Rho->Option Rho:=fun d ρ=>some (ρ.set i (.pu d))
theorem CJ {i:Nat} {x:bH} (hN:X.N.Nodup) (hi:X.N[i]?=some x:=by rfl) (hx:Loc X.env.scope x:=by first | exact dI rfl | exact dQ rfl) (hf:X.fn x=true\/X.env.scope.names.lookup x=some .local:=by first | exact .inl rfl | exact .inr rfl | assumption):PXG X (.Name x pos) (tgN i) :=
 PG.imp (mY hN hi hx hf) fun v σ H Q ⟨B,G0,G,ρ,d,ρ',E,st,dv,e,k⟩=>by cases e;exact k _ (st.setPu dv)
def jO:List Da->Rho->Option Rho
 | [],ρ=>some ρ
 | _,_=>none
def d4 (t:Da->Rho->Option Rho) (u:List Da->Rho->Option Rho):List Da->Rho->Option Rho
 | d::ds,ρ=>match t d ρ with
   | some ρ'=>u ds ρ'
   | none=>none
 | [],_=>none
theorem Ho:GC X [] jO:=PGs.imp ze fun v σ H Q ⟨B,G0,G,ρ,ds,ρ',E,st,dv,e,k⟩=>by
 unfold jO at e
 split at e
 ·cases e;exact ⟨dv,k _ st⟩
 ·cases e
theorem Dl {e:aP} {es:List aP} {t:Da->Rho->Option Rho} {u:List Da->Rho->Option Rho} (h1:PXG X e t) (h2:GC X es u) (hs:(dA (e::es) X.env).map (·.2)=jH e X.env::(dA es X.env).map (·.2):=by rfl):GC X (e::es) (d4 t u) :=
 PGs.imp (sD h1 h2 hs) fun v σ H Q ⟨B,G0,G,ρ,ds,ρ',E,st,dv,eq,k⟩=>by
  unfold d4 at eq
  split at eq
  ·rename_i d ds'
   obtain ⟨x,r,rfl,d1,d2⟩:=dv
   split at eq
   ·rename_i ρ1 e1
    exact ⟨x,r,rfl,B,G0,G,ρ,d,ρ1,E,st,d1,e1,fun σ' st'=>⟨B,G0,G,ρ1,ds',ρ',E,st',d2,eq,k⟩⟩
   ·cases eq
  ·cases eq
def tgT (n:Nat) (t:List Da->Rho->Option Rho):Da->Rho->Option Rho
 | .tup ds,ρ=>if ds.length=n then t ds ρ else none
 | _,_=>none
theorem Gk {es:List aP} {k n:Nat} {t:List Da->Rho->Option Rho} (hc:X.calm=true) (h:GC X es t) (hn:(dA es X.env).length=n:=by rfl) (hst:(dA es X.env).findIdx? (·.1)=none:=by rfl):PXG X (.Tuple es k pos) (tgT n t) :=
 PG.imp (Er hc h hn hst) fun v σ H Q ⟨B,G0,G,ρ,d,ρ',E,st,dv,eq,kk⟩=>by
  unfold tgT at eq
  split at eq
  ·rename_i ds
   split at eq
   ·rename_i hl
    obtain ⟨a,xs,rfl,q,dl⟩:=dv
    exact ⟨a,xs,rfl,SqT.of (E.gh _ _ q),by rw [dl.length];exact hl,B,G0,G,ρ,ds,ρ',E,st,dl,eq,kk⟩
   ·cases eq
  ·cases eq
def JM (f:Rho->Option Rv) (t:Da->Rho->Option Rho):Rho->Res:=fun ρ=>match f ρ with
 | some r=>if e5 r=true then (match t r.2 ρ with
   | some ρ'=>.nx ρ'
   | none=>.bad) else .bad
 | none=>.bad
theorem Fp {tg e:aP} {f:Rho->Option Rv} {t:Da->Rho->Option Rho} (he:PX X e f) (hg:PXG X tg t) (hs:xE [tg] e pos.line X.env=pure false:=by rfl) (hw:xF [tg] e X.env=pure none:=by rfl) (h1:(dA [tg] X.env).map (·.2)=[jH tg X.env]:=by rfl) :
 PXS X (.Assign [tg] e pos) (JM f t):=PS.imp (HW he hg hs hw h1) fun D σ H ⟨B,G0,G,ρ,E,st,k⟩=>by
 unfold JM at k
 cases q:f ρ with
 | none=>rw [q] at k;exact k.elim
 | some r =>
   rw [q] at k
   dsimp only at k
   split at k
   ·rename_i hk
    refine ⟨B,G,ρ,r,E.gh,E.hh,st,q,fun v G1 H1 E1 r1=>?_⟩
    obtain ⟨G2,E2,_,d2⟩:=r1.pure E1 hk
    split at k
    ·rename_i ρ' et
     exact ⟨B,G0,G2,ρ,_,ρ',E.trans E2,st.ext E2,d2,et,fun σ' st'=>k σ' G2 H1 (E.trans E2) E2.gg st'⟩
    ·exact k.elim
   ·exact k.elim
end
def BY (t:Da->Rho->Option Rho) (g:Rho->Res):List Da->Rho->Res
 | [],ρ=>.nx ρ
 | d::ds,ρ=>match t d ρ with
   | none=>.bad
   | some ρ1=>match g ρ1 with
     | .nx ρ2=>BY t g ds ρ2
     | .ct ρ2=>BY t g ds ρ2
     | .bk ρ2=>.nx ρ2
     | .rt d=>.rt d
     | .bad=>.bad
def qw (f:Rho->Option (List Da)) (t:Da->Rho->Option Rho) (g:Rho->Res):Rho->Res:=fun ρ=>match f ρ with
 | some ds=>BY t g ds ρ
 | none=>.bad
theorem FH {X:Cx} {tg iter:aP} {body:List cV} {f:Rho->Option (List Da)} {t:Da->Rho->Option Rho} {g:Rho->Res} {pos:e7} (hp:ny (be X.prog X.w) X.A X.env X.xe) (hc:X.calm=true) (hi:PXI X tg iter f) (hg:PXG X tg t) (hb:wC X body g)
 (hs:∀ x,cW iter X.env x=pure x:=by intro _;rfl):PXS X (.For tg iter body [] pos) (qw f t g):=PS.imp (wX hp hc hi hg hb hs) fun D σ H ⟨B,G0,G,ρ,E,st,k⟩=>by
 unfold qw at k
 cases q:f ρ with
 | none=>rw [q] at k;exact k.elim
 | some ds =>
   rw [q] at k
   dsimp only at k
   refine ⟨B,G,ρ,ds,E.gh,E.hh,st,q,fun J G1 H1 E1 it=>?_⟩
   refine ⟨fun i m σ' H'=>m=ds.length-i/\i<=ds.length/\∃ G' ρ',Ext G0 B G' H'/\cQ G1 G'/\iC X.K B G' H' σ' ρ'/\EF X.K B G0 G D (BY t g (ds.drop i) ρ'),⟨ds.length,by simp,bW _,G1,ρ,E.trans E1,cQ.refl _,st.ext E1,by rw [jb];exact k⟩,?_⟩
   rintro i m σ' H' ⟨rfl,hi',G',ρ',E',s1,st',k'⟩
   have s2:cQ G G':=E1.gg.trans s1
   by_cases hlt:i<ds.length
   ·obtain ⟨d,hd⟩:∃ d,ds[i]?=some d:=⟨ds[i],by simp [hlt]⟩
    have hdrop:ds.drop i=d::ds.drop (i+1):=by
     rw [gC hlt]
     congr 1
     rw [aj hlt] at hd
     exact bR hd
    rw [hdrop] at k'
    unfold BY at k'
    cases et:t d ρ' with
    | none=>rw [et] at k';exact k'.elim
    | some ρ1 =>
      rw [et] at k'
      dsimp only at k'
      obtain ⟨hgo,hy⟩:=(it i G' H' s1 E'.gh).1 d hd
      refine .inr ⟨hgo,fun σ3 H3=>i+1<=ds.length/\∃ G3 ρ3,Ext G0 B G3 H3/\cQ G1 G3/\iC X.K B G3 H3 σ3 ρ3/\EF X.K B G0 G D (BY t g (ds.drop (i+1)) ρ3),fun σ3 H3 z=>⟨ds.length-(i+1),by lia,rfl,z⟩,fun x H2 yl=>?_⟩
      obtain ⟨G2,E2,dx⟩:=hy x H2 yl
      refine ⟨B,G0,G2,ρ',d,ρ1,E'.trans E2,st'.ext E2,dx,et,fun σ2 st2=>⟨B,G0,G2,ρ1,E'.trans E2,st2,?_⟩⟩
      have s3:cQ G1 G2:=s1.trans E2.gg
      have s4:cQ G G2:=s2.trans E2.gg
      cases eg:g ρ1 with
      | nx ρ2=>rw [eg] at k';exact fun σ3 G3 H3 E3 t3 st3=>⟨hlt,G3,ρ2,E3,s3.trans t3,st3,k'⟩
      | ct ρ2=>rw [eg] at k';exact fun σ3 G3 H3 E3 t3 st3=>⟨hlt,G3,ρ2,E3,s3.trans t3,st3,k'⟩
      | bk ρ2=>rw [eg] at k';exact fun σ3 G3 H3 E3 t3 st3=>k' σ3 G3 H3 E3 (s4.trans t3) st3
      | rt d=>rw [eg] at k';exact fun σ3 G3 H3 E3 t3 st3=>k' σ3 G3 H3 E3 (s4.trans t3) st3
      | bad=>rw [eg] at k';exact k'
   ·have e:i=ds.length:=by lia
    subst e
    rw [jW] at k'
    exact .inl ⟨(it ds.length G' H' s1 E'.gh).2 rfl,k' σ' G' H' E' s2 st'⟩
def jr (t:Rho->Option Bool) (g:Rho->Res):Nat->Rho->Res
 | 0,_=>.bad
 | n+1,ρ=>match t ρ with
   | none=>.bad
   | some false=>.nx ρ
   | some true=>match g ρ with
     | .nx ρ2=>jr t g n ρ2
     | .ct ρ2=>jr t g n ρ2
     | .bk ρ2=>.nx ρ2
     | .rt d=>.rt d
     | .bad=>.bad
theorem za {X:Cx} {c:aP} {body:List cV} {t:Rho->Option Bool} {g:Rho->Res} {pos:e7} (n:Nat) (hp:ny (be X.prog X.w) X.A X.env X.xe) (hc:PXT X c t) (hb:wC X body g):PXS X (.While c body [] pos) (jr t g n) :=
 PS.imp (DF hp hc hb) fun D σ H ⟨B,G0,G,ρ,E,st,k⟩=>by
  refine ⟨fun m σ' H'=>∃ G' ρ',Ext G0 B G' H'/\cQ G G'/\iC X.K B G' H' σ' ρ'/\EF X.K B G0 G D (jr t g m ρ'),⟨n,G,ρ,E,cQ.refl _,st,k⟩,?_⟩
  rintro m σ' H' ⟨G',ρ',E',s1,st',k'⟩
  cases m with
  | zero=>exact k'.elim
  | succ m =>
    unfold jr at k'
    cases et:t ρ' with
    | none=>rw [et] at k';exact k'.elim
    | some b =>
      rw [et] at k'
      refine ⟨B,G',ρ',b,E'.gh,E'.hh,st',et,fun G2 H2 E2=>?_⟩
      cases b with
      | false=>rw [if_neg aO];exact k' σ' G2 H2 (E'.trans E2) (s1.trans E2.gg) (st'.ext E2)
      | true =>
        rw [if_pos rfl]
        dsimp only at k'
        refine ⟨fun σ3 H3=>∃ G3 ρ3,Ext G0 B G3 H3/\cQ G G3/\iC X.K B G3 H3 σ3 ρ3/\EF X.K B G0 G D (jr t g m ρ3),fun σ3 H3 z=>⟨m,kf _,z⟩,B,G0,G2,ρ',E'.trans E2,st'.ext E2,?_⟩
        have s4:cQ G G2:=s1.trans E2.gg
        cases eg:g ρ' with
        | nx ρ2=>rw [eg] at k';exact fun σ3 G3 H3 E3 t3 st3=>⟨G3,ρ2,E3,s4.trans t3,st3,k'⟩
        | ct ρ2=>rw [eg] at k';exact fun σ3 G3 H3 E3 t3 st3=>⟨G3,ρ2,E3,s4.trans t3,st3,k'⟩
        | bk ρ2=>rw [eg] at k';exact fun σ3 G3 H3 E3 t3 st3=>k' σ3 G3 H3 E3 (s4.trans t3) st3
        | rt d=>rw [eg] at k';exact fun σ3 G3 H3 E3 t3 st3=>k' σ3 G3 H3 E3 (s4.trans t3) st3
        | bad=>rw [eg] at k';exact k'
def fm (n:Nat) (ds:List Da):Rho:=ds.map Sl.pu++D3 (n-ds.length) .no
def jl (n:Nat) (g:Rho->Res) (ds:List Da):Option Da:=match g (fm n ds) with
 | .rt d=>some d
 | .nx _=>some .non
 | _=>none
theorem xD {K:ac} {B G H:Hp} {N:List bH} {ds:List Da} {vs:List V} (tg:Tbs K G) (h:cO K G ds vs):iC K B G H (L2.start N vs) (fm N.length ds):=by
 have hl:=h.length
 refine ⟨?_,fun i d e=>?_,fun i d e=>?_,fun i j d d' l _ e=>?_,tg⟩
 ·unfold L2.start fm
  rw [aN,aN,ab,ab,kM,kM,hl]
 ·unfold fm at e
  by_cases hi:i<ds.length
  ·rw [dE (by simpa using hi),ay] at e
   cases q:ds[i]? with
   | none=>rw [q] at e;cases e
   | some d' =>
     rw [q] at e
     cases e
     obtain ⟨v,hv,dv⟩:=h.get q
     refine ⟨v,?_,dv⟩
     unfold L2.start
     rw [dE (by rw [ab,hl];exact hi),ay,hv]
     rfl
  ·rw [cM (by simpa using hi),jS] at e
   split at e<;>cases e
 all_goals
  exfalso
  unfold fm at e
  by_cases hi:i<ds.length
  ·rw [dE (by simpa using hi),ay] at e
   cases q:ds[i]? with
   | none=>rw [q] at e;cases e
   | some d'=>rw [q] at e;cases e
  ·rw [cM (by simpa using hi),jS] at e
   split at e<;>cases e
theorem Eg {P:bA} {w:cb} {K:ac} {mg:bH->Option ae} {base:cr} {x qual:bH} {st:cV} {f:ak} {fd:dB} {N ps:List bH} {k n:Nat} {g:Rho->Res} (F:Fun K x qual st f fd) (S:gQ N ps (bh st)) (hn:ps.length=n)
 (hbody:∀ (cdv:ae) (A:bK) (outer:List pQ) (s:ai) (H:Hp) (E:XK),jm k (A.deeper (fA qual (bh st) s.heap.objs.size f cdv))->wC (wm CX0 P w K mg base N qual (bh st) f cdv A outer s H E).nox (cg st) g) :
 vO P w K mg base CX0 (k+1) f fd ps (spD K n (jl N.length g)):=by
 refine F.ok S (fun vs H Q E ⟨G,ds,d,hl,sg,_,dl,_⟩=>by rw [dl.length,hl,hn]) fun cdv A outer s H vs Q E hr ⟨G,ds,d,hl,sg,tg,dl,ef,k⟩=>?_
 refine ⟨_,hbody cdv A outer s H E hr,H,G,G,fm N.length ds,Ext.refl sg,xD tg dl,?_⟩
 unfold jl at ef
 split at ef
 ·rename_i d' q
  cases ef
  rw [q]
  exact fun v G' H' E' _ dv=>k v G' H' E' dv
 ·rename_i ρ q
  cases ef
  rw [q]
  exact fun σ G' H' E' _ _=>k .non G' H' E' rfl
 ·cases ef
def gE (cells:List (bH×ak)):List (bH×d5)->List (bH×ak)->List (bH×ak)
 | [],acc=>acc
 | (x,k)::r,acc=>if k == .free then gE cells r ((x,(cells.lookup x).getD 0)::acc) else gE cells r acc
theorem kF {env:pQ} (f:bH×d5->List (bH×ak)->Sem (ForInStep (List (bH×ak))))
 (hf:∀ name kind cs,f (name,kind) cs=if kind == .free then (do let a <- cellOf env name;pure (.yield ((name,a)::cs))) else pure (.yield cs)) :
 ∀ (names:List (bH×d5)) (acc:List (bH×ak)),(∀ y∈names,y.2=.free->∃ c,env.cells.lookup y.1=some c)->forIn names acc f=pure (gE env.cells names acc)
 | [],acc,_=>by rw [qp];rfl
 | (x,k)::r,acc,h=>by
   rw [B4,hf]
   unfold gE
   by_cases hk:(k == hE)=true
   ·obtain ⟨c,hc⟩:=h (x,k) ah (by simpa using hk)
    rw [if_pos hk,if_pos hk]
    have e:cellOf env x=pure c:=by unfold cellOf;rw [show env.cells.lookup x=some c from hc]
    rw [e]
    simp only [pure_bind]
    rw [show (env.cells.lookup x).getD 0=c by rw [show env.cells.lookup x=some c from hc];rfl]
    exact kF f hf r _ fun y hy=>h y (ag _ hy)
   ·rw [if_neg hk,if_neg hk]
    simp only [pure_bind]
    exact kF f hf r _ fun y hy=>h y (ag _ hy)
theorem kQ {scope:dO} {env:pQ} (h:∀ y∈scope.names,y.2=.free->∃ c,env.cells.lookup y.1=some c):closureFor scope env=pure (gE env.cells scope.names []):=by
 show (forIn scope.names ([]:List (bH×ak)) (fun x cs=>match x with
  | (name,kind)=>if (kind == hE)=true then (do let a <- cellOf env name;pure (jE ((name,a)::cs))) else pure (jE cs))>>=fun cs=>pure cs)=_
 rw [kF (env:=env) _ (fun _ _ _=>rfl) scope.names [] h]
 rfl
theorem kZ {cells:List (bH×ak)}:∀ (names:List (bH×d5)) (acc:List (bH×ak)) {x:bH} {c:ak},(∀ y∈names,y.2=.free->∃ c,cells.lookup y.1=some c) ->
 (gE cells names acc).lookup x=some c->cells.lookup x=some c\/acc.lookup x=some c
 | [],_,_,_,_,h=>.inr h
 | (n,k)::r,acc,x,c,hc,h=>by
   unfold gE at h
   split at h
   ·rename_i hk
    rcases kZ r _ (fun y hy=>hc y (ag _ hy)) h with q | q
    ·exact .inl q
    ·rw [dg] at q
     cases hb:x == n with
     | true =>
       rw [hb] at q
       have e:x=n:=beq_iff_eq.mp hb
       subst e
       obtain ⟨c',h'⟩:=hc (x,k) ah (by simpa using hk)
       have h':cells.lookup x=some c':=h'
       rw [h'] at q
       cases q
       exact .inl h'
     | false=>rw [hb] at q;exact .inr q
   ·exact kZ r _ (fun y hy=>hc y (ag _ hy)) h
theorem jv {cells:List (bH×ak)}:∀ (names:List (bH×d5)) (acc:List (bH×ak)) {x:bH},(∀ y∈names,y.2=.free->∃ c,cells.lookup y.1=some c) ->
 ((x,hE)∈names\/acc.lookup x=cells.lookup x)->(gE cells names acc).lookup x=cells.lookup x
 | [],_,_,_,h=>by
   rcases h with h | h
   ·simp at h
   ·exact h
 | (n,k)::r,acc,x,hc,h=>by
   unfold gE
   have hr:∀ y∈r,y.2=.free->∃ c,cells.lookup y.1=some c:=fun y hy=>hc y (ag _ hy)
   split
   ·rename_i hk
    refine jv r _ hr ?_
    by_cases hx:x=n
    ·subst hx
     obtain ⟨c',h'⟩:=hc (x,k) ah (by simpa using hk)
     have h':cells.lookup x=some c':=h'
     refine .inr ?_
     rw [dg,beq_self_eq_true,h']
     rfl
    ·rcases h with h | h
     ·rcases am.mp h with e | e
      ·cases e;exact absurd rfl hx
      ·exact .inl e
     ·refine .inr ?_
      rw [dg,show (x == n)=false by simpa using hx]
      exact h
   ·rename_i hk
    refine jv r _ hr ?_
    rcases h with h | h
    ·rcases am.mp h with e | e
     ·cases e;exact absurd (beq_self_eq_true _) hk
     ·exact .inl e
    ·exact .inr h
theorem fY:∀ (names:List (bH×d5)) (n:Nat) (acc:List (bH×ak)),eB n names acc=eB n names []++acc
 | [],_,_=>rfl
 | (x,k)::r,n,acc=>by
   unfold eB
   split
   ·rw [fY r (n+1) ((x,n)::acc),fY r (n+1) [(x,n)],dX];rfl
   ·exact fY r n acc
def nv (X:Cx) (scope:dO) (C:ak):pQ :=
 { scope:=lB scope X.env,locals:=C,globals:=X.env.globals,cells:=eB (C+1) scope.names (gE X.env.cells scope.names []),qual:=X.env.qual,func:=none,code:=X.env.code,frame:=X.env.frame,builtins:=X.env.builtins }
def inC (X:Cx) (scope:dO) (s:ai) (H:Hp) (fp:List ak):Cx :=
 { X with N:=scope.names.map (·.1),s₀:=s,H₀:=H,env:=nv X scope s.heap.objs.size,outer:=X.stack,stack:=X.stack,ex:=fp,fn:=fun x=>scope.names.lookup x == some .cell,pn:=[],xe:=fun _ _=>False }
def sZ (N:List bH):List (bH×d5)->List (Option Nat)->Bool
 | [],[]=>true
 | _::r,none::ix=>sZ N r ix
 | (x,k)::r,some j::ix=>(k == .free)&&(N[j]? == some x)&&sZ N r ix
 | _,_=>false
def mpS (ix:List (Option Nat)) (σ:St):St:=ix.map fun o=>match o with
 | some j=>(σ[j]?).getD none
 | none=>none
theorem kK {N:List bH}:∀ {names:List (bH×d5)} {ix:List (Option Nat)},sZ N names ix=true->ix.length=names.length
 | [],[],_=>rfl
 | [],_::_,h=>by cases h
 | _::_,[],h=>by cases h
 | _::r,none::ix,h=>by rw [aG,aG,kK (names:=r) (ix:=ix) h]
 | (x,k)::r,some j::ix,h=>by
   unfold sZ at h
   rw [aY] at h
   rw [aG,aG,kK h.2]
theorem jB {N:List bH}:∀ {names:List (bH×d5)} {ix:List (Option Nat)} {i j:Nat},sZ N names ix=true->ix[i]?=some (some j)->∃ x,names[i]?=some (x,.free)/\N[j]?=some x
 | [],[],_,_,_,e=>by simp at e
 | [],_::_,_,_,h,_=>by cases h
 | _::_,[],_,_,h,_=>by cases h
 | _::r,none::ix,0,_,_,e=>by simp at e
 | _::r,none::ix,i+1,j,h,e=>by simpa using jB (names:=r) (ix:=ix) (i:=i) h (by simpa using e)
 | (x,k)::r,some j'::ix,i,j,h,e=>by
   unfold sZ at h
   rw [aY,aY] at h
   cases i with
   | zero =>
     simp at e
     subst e
     refine ⟨x,?_,by simpa using h.1.2⟩
     have:=h.1.1
     simp at this
     simp [this]
   | succ i=>simpa using jB (names:=r) (ix:=ix) (i:=i) h.2 (by simpa using e)
theorem eN {α:Type}:∀ {l:List (bH×α)} {i:Nat} {x:bH} {a:α},(l.map (·.1)).Nodup->l[i]?=some (x,a)->l.lookup x=some a
 | [],_,_,_,_,e=>by simp at e
 | (y,b)::r,0,x,a,_,e=>by simp at e;rw [<- e.1,<- e.2];simp
 | (y,b)::r,i+1,x,a,nd,e=>by
   have e':r[i]?=some (x,a):=by simpa using e
   rw [aw] at nd
   obtain ⟨h1,h2⟩:=bf.mp nd
   have hm:(x,a)∈r:=bI e'
   have ne:x≠y:=fun z=>h1 (by rw [<- z];exact aK.mpr ⟨_,hm,rfl⟩)
   rw [dg,show (x == y)=false by simpa using ne]
   exact eN h2 e'
theorem ly {scope:dO} {env:pQ} {x:bH}:(lB scope env).names.lookup x=(scope.names.lookup x).map fun k=>if (k == .free&&env.scope.kind == .function&&env.kindOf x == some .cell) then .cell else k:=by
 unfold lB
 show List.lookup x (scope.names.map _)=_
 generalize scope.names=l
 induction l with
 | nil=>rfl
 | cons p r ih =>
   obtain ⟨n,k⟩:=p
   rw [aw]
   dsimp only
   by_cases hx:x=n
   ·subst hx
    by_cases hc:(k == hE&&env.scope.kind == .function&&env.kindOf x == some .cell)=true
    ·rw [if_pos hc]
     simp only [dg,beq_self_eq_true,cn]
     rw [if_pos hc]
    ·rw [if_neg hc]
     simp only [dg,beq_self_eq_true,cn]
     rw [if_neg hc]
   ·have hb:(x == n)=false:=by simpa using hx
    by_cases hc:(k == hE&&env.scope.kind == .function&&env.kindOf n == some .cell)=true
    ·rw [if_pos hc];simp only [dg,hb];exact ih
    ·rw [if_neg hc];simp only [dg,hb];exact ih
structure CScope (X:Cx) (scope:dO) (ix:List (Option Nat)):Prop where
 kind:scope.kind=.function
 nd:(scope.names.map (·.1)).Nodup
 free:∀ y∈scope.names,y.2=.free->X.env.kindOf y.1=some .cell\/X.env.kindOf y.1=some .free
 ix:sZ X.N scope.names ix=true
section
variable {X:Cx} {pins:List (ak×dm)} {σ:St} {H:Hp} {s:ai} {scope:dO} {ix:List (Option Nat)} {fp:List ak}
theorem CScope.cells (S:CScope X scope ix) (I:Inv X pins σ H s):∀ y∈scope.names,y.2=.free->∃ c,X.env.cells.lookup y.1=some c:=fun y hy hf=>I.ok.has y.1 (S.free y hy hf)
theorem CScope.names (S:CScope X scope ix) {x:bH} {k:d5}:(x,k)∈scope.names->scope.names.lookup x=some k:=fun hm=>by
 obtain ⟨i,hi⟩:=List.mem_iff_getElem?.mp hm
 exact eN S.nd hi
theorem qI {M:Model} {A:bK} {E:ae->ai->Prop} {Q:pQ->ai->Prop} (S:CScope X scope ix) (I:Inv X pins σ H s) (hfp:∀ b∈fp,yh X pins H b/\b<s.heap.objs.size)
 (h:∀ env h',{ env with scope:=lB scope X.env }=nv X scope s.heap.objs.size->env.locals=s.heap.objs.size->Inv (inC X scope s H fp) [] (mpS ix σ) H { s with heap:=h' }->(∀ b o,s.heap.get? b=some o->h'.get? b=some o)->Q env { s with heap:=h' }) :
 aM M A (newFunctionEnv scope X.env.globals (gE X.env.cells scope.names []) [] X.env.qual none .none (some X.env)) Q E s:=by
 simp only [newFunctionEnv,wc,if_true]
 refine aa (wpAny_alloc ?_)
 refine aa (wpAny_layCells _ (fun name kind cells=>by cases hkc:kind == yV<;>simp [hkc]) _ _ _ _ ?_)
 rw [show ({ s with heap:=s.heap.push { cls:=.type "dict",data:=.dict #[] } }:ai).heap.objs.size=s.heap.objs.size+1 from jc ..]
 refine aa ?_
 rw [qp]
 refine al (al ?_)
 have ok:=cellsFrom_ok scope.names (s.heap.push { cls:=.type "dict",data:=.dict #[] }) (s.heap.objs.size+1) [] ⟨fun _ _ hm=>(nomatch hm),qm⟩ (by rw [jc];exact ax _)
 rw [jc] at ok
 have keep:∀ b o,s.heap.get? b=some o->(pushCells (s.heap.push { cls:=.type "dict",data:=.dict #[] }) scope.names).get? b=some o:=fun b o e=>pushCells_keeps _ _ b o (af _ e)
 have cl:=S.cells I
 have look:∀ x c,(eB (s.heap.objs.size+1) scope.names (gE X.env.cells scope.names [])).lookup x=some c ->
  ((eB (s.heap.objs.size+1) scope.names []).lookup x=some c/\s.heap.objs.size+1<=c/\(pushCells (s.heap.push { cls:=.type "dict",data:=.dict #[] }) scope.names).IsCell c none)\/(X.env.cells.lookup x=some c/\c<s.heap.objs.size):=fun x c e=>by
  rw [fY,mK] at e
  cases q:(eB (s.heap.objs.size+1) scope.names []).lookup x with
  | some c' =>
    rw [q] at e
    cases e
    obtain ⟨e1,e2⟩:=ok.empty x c (mem_of_lookup q)
    exact .inl ⟨rfl,e2,e1⟩
  | none =>
    rw [q] at e
    rcases kZ _ _ cl (show (gE X.env.cells scope.names []).lookup x=some c from e) with z | z
    ·obtain ⟨v,hv⟩:=I.cell x c z
     exact .inr ⟨z,hv.lt⟩
    ·simp at z
 have ownNone:∀ x,scope.names.lookup x=some .free->(eB (s.heap.objs.size+1) scope.names []).lookup x=none:=fun x hx=>by
  cases q:(eB (s.heap.objs.size+1) scope.names []).lookup x with
  | none=>rfl
  | some c =>
    exfalso
    have:∀ (names:List (bH×d5)) (n:Nat) (acc:List (bH×ak)),(eB n names acc).lookup x=some c->(x,yV)∈names\/acc.lookup x=some c:=by
     intro names
     induction names with
     | nil=>intro n acc h;exact .inr h
     | cons p r ih =>
       intro n acc h
       obtain ⟨y,k⟩:=p
       unfold eB at h
       split at h
       ·rename_i hk
        rcases ih _ _ h with z | z
        ·exact .inl (ag _ z)
        ·rw [dg] at z
         cases hb:x == y with
         | true =>
           have e:x=y:=beq_iff_eq.mp hb
           subst e
           have hk':k=.cell:=by simpa using hk
           subst hk'
           exact .inl ah
         | false=>rw [hb] at z;exact .inr z
       ·rcases ih _ _ h with z | z
        ·exact .inl (ag _ z)
        ·exact .inr z
    rcases this _ _ _ q with z | z
    ·rw [S.names z] at hx;cases hx
    ·simp at z
 have freeLook:∀ x,scope.names.lookup x=some .free->(eB (s.heap.objs.size+1) scope.names (gE X.env.cells scope.names [])).lookup x=X.env.cells.lookup x:=fun x hx=>by
  rw [fY,mK,ownNone x hx,jv _ _ cl (.inl (mem_of_lookup hx))]
  rfl
 refine h _ _ rfl rfl ⟨⟨I.ok.mod,?_,I.ok.glob,I.ok.blt,ax _,fun x y c h1 h2=>?_,fun x hx=>?_,fun x c hf h1=>?_,I.ok.hd,I.ok.frames,.inl rfl,fun b hb=>⟨?_,fun x c h1 z=>?_⟩,I.bs,bL I.ok.bsz I.sz,fun b o e hb=>?_,fun b hb hb2=>?_,I.stack,I.stkFree⟩,
  rfl,I.bare,Un.kept keep,⟨fun _=>none,(Heap.Ns.new s.heap (.type "dict")).keeps (pushCells_keeps _ _),fun i x v e1 e2 e3=>?_⟩,fun x c h1=>?_,I.hok.fresh (ax _),fun x c h1=>?_,fun p hp=>absurd (show p∈([]:List (ak×dm)) from hp) (by simp),I.hok.kept keep,?_⟩ keep
 ·exact S.kind
 ·rcases look x c h1 with ⟨a1,a2,_⟩ | ⟨a1,a2⟩<;>rcases look y c h2 with ⟨b1,b2,_⟩ | ⟨b1,b2⟩
  ·exact name_of_addr ok.apart (mem_of_lookup a1) (mem_of_lookup b1)
  ·exact absurd (bi b2 (hJ a2)) (b8 _)
  ·exact absurd (bi a2 (hJ b2)) (b8 _)
  ·exact I.ok.inj x y c a1 b1
 ·
  have hx':scope.names.lookup x=some .cell\/scope.names.lookup x=some .free:=by
   have e:(nv X scope s.heap.objs.size).kindOf x=(lB scope X.env).names.lookup x:=rfl
   have hx:(lB scope X.env).names.lookup x=some .cell\/(lB scope X.env).names.lookup x=some .free:=hx
   rw [ly] at hx
   cases q:scope.names.lookup x with
   | none=>rw [q] at hx;rcases hx with z | z<;>cases z
   | some k =>
     rw [q] at hx
     simp only [cn] at hx
     by_cases hc:(k == hE&&X.env.scope.kind == .function&&X.env.kindOf x == some .cell)=true
     ·have:k=.free:=by
       rw [aY,aY] at hc
       simpa using hc.1.1
      exact .inr (by rw [this])
     ·rw [if_neg hc] at hx
      rcases hx with z | z
      ·cases z;exact .inl rfl
      ·cases z;exact .inr rfl
  rcases hx' with hx | hx
  ·have q:=gM scope.names (s.heap.objs.size+1) (gE X.env.cells scope.names []) (.inl hx)
   exact jk.mp q
  ·obtain ⟨c,hc⟩:=cl _ (mem_of_lookup hx) rfl
   exact ⟨c,(freeLook x hx).trans hc⟩
 ·rcases look x c h1 with ⟨_,a2,_⟩ | ⟨a1,a2⟩
  ·exact hJ a2
  ·
   exfalso
   have hf':scope.names.lookup x=some .cell:=by simpa using (show (scope.names.lookup x == some .cell)=true from hf)
   have q:=gM scope.names (s.heap.objs.size+1) ([]:List (bH×ak)) (.inl hf')
   obtain ⟨c',hc'⟩:=jk.mp q
   have h1':(eB (s.heap.objs.size+1) scope.names (gE X.env.cells scope.names [])).lookup x=some c:=h1
   rw [fY,mK,hc'] at h1'
   cases h1'
   have:=(ok.empty x c (mem_of_lookup hc')).2
   exact absurd (bi a2 (hJ this)) (b8 _)
 ·exact bu (hfp b hb).2
 ·have:=(hfp b hb).2
  rcases look x c h1 with ⟨_,a2,_⟩ | ⟨a1,a2⟩
  ·subst z
   exact absurd (bi this (hJ a2)) (b8 _)
  ·exact (hfp b hb).1.2.2.2.2.1 x c a1 z
 ·rcases (hfp b hb).1.2.2.2.1 with z | z
  ·exact I.ok.noex b o e z
  ·have:=aF e
   have h2:=I.ok.bsz
   exact absurd (bi this (bL h2 z)) (b8 _)
 ·rcases am.mp (I.stkSub b hb2) with z | z
  ·exact (hfp b hb).1.2.1 z
  ·exact (hfp b hb).1.2.2.1 z
 ·
  unfold mpS at e2
  rw [ay] at e2
  cases q:ix[i]? with
  | none=>rw [q] at e2;cases e2
  | some o =>
    rw [q] at e2
    cases o with
    | none=>cases e2
    | some j =>
      obtain ⟨x',hx1,hx2⟩:=jB S.ix q
      have ex:x=x':=by
       have e1':(scope.names.map (·.1))[i]?=some x:=e1
       rw [ay,hx1] at e1'
       cases e1';rfl
      subst ex
      have hs:σ[j]?=some (some v):=by
       have e2':(σ[j]?).getD none=some v:=by simpa using e2
       cases q2:σ[j]? with
       | none=>rw [q2] at e2';cases e2'
       | some z=>rw [q2] at e2';exact congrArg some e2'
      have hl:=eN S.nd hx1
      have hk:=S.free _ (bI hx1) rfl
      obtain ⟨m,_,hm⟩:=I.loc
      have hvis:Vis X.env.scope x:=by
       rcases hk with z | z
       ·exact .inr (.inl z)
       ·exact .inr (.inr z)
      obtain ⟨u,ru,lk⟩:=hm j x v hx2 hs hvis
      refine ⟨u,ru,.inr ⟨?_,?_⟩⟩
      ·show (lB scope X.env).names.lookup x=some .cell\/(lB scope X.env).names.lookup x=some .free
       rw [ly,hl]
       simp only [cn]
       split
       ·exact .inl rfl
       ·exact .inr rfl
      ·rcases lk with ⟨z,_⟩ | ⟨_,c,hc,hcell⟩
       ·exfalso
        have hk':X.env.kindOf x=some .cell\/X.env.kindOf x=some .free:=hk
        rw [z] at hk'
        rcases hk' with y | y<;>cases y
       ·exact ⟨c,(freeLook x hl).trans hc,hcell.keeps keep⟩
 ·rcases look x c h1 with ⟨_,_,a3⟩ | ⟨a1,_⟩
  ·exact ⟨none,a3⟩
  ·obtain ⟨v,hv⟩:=I.cell x c a1
   exact ⟨v,hv.keeps keep⟩
 ·rcases look x c h1 with ⟨_,a2,_⟩ | ⟨a1,_⟩
  ·exact I.hok.fresh (by lia)
  ·exact I.freeC x c a1
 ·show (mpS ix σ).length=(scope.names.map (·.1)).length
  unfold mpS
  rw [ab,ab,kK S.ix]
end
def PTS (X:Cx) (ifs:List aP) (t:TT):Prop :=
 ∀ (pins:List (ak×dm)) (s:ai) (σ:St) (H:Hp) (Q:Bool->Hp->Prop),Inv X pins σ H s->t σ H Q ->
   aM (be X.prog X.w) X.A (forIn ifs true fun c r=>if r=true then do let ok <- isTrue c X.env (b9 c X.env);pure (jE ok) else pure (jE r)) (TP X pins σ Q) X.xe s
theorem AG {X:Cx}:PTS X [] (fun _ H Q=>Q true H):=fun _ _ _ H _ I h=>wpAny_tests_nil ⟨H,I,h⟩
theorem GY {X:Cx} {c:aP} {t:TT} (h:PT X c t):PTS X [c] t:=fun pins s σ H Q I q=>wpAny_tests_one (h pins s σ H Q I q)
def yq (mp:St->St) (wi:TI) (g:TG) (tt:TT) (te:TE):TE:=fun σ H Q=>wi σ H fun J H1=>∀ p,H1 p=none->∃ W:Nat->Nat->St->List V->Hp->Prop,(∃ m,W 0 m (mp σ) [] (upd H1 p (.lst []))) /\
 ∀ i m σ2 ys H2,W i m σ2 ys H2->H2 p=some (.lst ys)/\ys.length<aL/\((J.stop i H2/\Q (.ref p) H2)\/(J.go i H2/\∀ x H3,J.yld i H2 x H3->g x σ2 H3 fun σ4 H4=>tt σ4 H4 fun b H5 =>
   if b=true then te σ4 H5 fun y H6=>H6 p=some (.lst ys)/\∃ m',m'<m/\W (i+1) m' σ4 (ys++[y]) (upd H6 p (.lst (ys++[y]))) else ∃ m',m'<m/\W (i+1) m' σ4 ys H5))
structure EV (X:Cx) (scope:dO) (tg elt:aP) (ifs:List aP) (g:TG) (tt:TT) (te:TE):Prop where
 tg:∀ s H fp,PG (inC X scope s H fp) tg g
 ifs:∀ s H fp,PTS (inC X scope s H fp) ifs tt
 elt:∀ s H fp,PE (inC X scope s H fp) elt te
section
variable {X:Cx} {elt tg iter:aP} {ifs:List aP} {scope:dO} {pos:e7} {ix:List (Option Nat)} {wi:TI} {g:TG} {tt:TT} {te:TE}
theorem ue {pins:List (ak×dm)} {σ σ1:St} {H3 H':Hp} {s3 s1:ai} {fp:List ak} {pl:List (ak×dm)} (I3:Inv X pins σ H3 s3) (f3:∀ b∈fp,yh X pins H3 b) (I1:Inv (inC X scope s3 H3 fp) pl σ1 H' s1):Inv X pins σ H' s1 :=
 I3.call' (ch:=fp) I1.os I1.base I1.hok I1.bare fun b hb=>let ⟨_,a,_,c,d,e⟩:=f3 b hb;⟨c,a,d,e⟩
theorem uu {pins:List (ak×dm)} {σ σ1:St} {H3 H':Hp} {s3 s1:ai} {fp:List ak} {pl:List (ak×dm)} {h':cr} (I3:Inv X pins σ H3 s3) (f3:∀ b∈fp,yh X pins H3 b) (I1:Inv (inC X scope s3 H3 fp) pl σ1 H' s1)
 {s2:ai} {σ2:St} (J:Inv X pins σ2 H' s2) (hs:kj s3.heap.objs.size s2.heap h'):Inv X pins σ2 H' { s2 with heap:=h' }:=by
 refine J.turned (t':=s2.toks) (it:=s3.heap.objs.size) (fun b o hb e=>(hs.2 b hb).trans e) I1.free (Nat.ne_of_gt I3.lt) (.inr I3.sz) (fun x c e z=>?_) fun p hp z=>?_
 ·obtain ⟨v,hv⟩:=I3.cell x c e
  exact absurd hv.lt (by rw [z];exact b8 _)
 ·have:=aF (I3.pin p hp).1
  rw [z] at this
  exact absurd this (b8 _)
theorem uE {R:yQ->ai->Prop} {pins:List (ak×dm)} {σ:St} {H3:Hp} {s3 s4:ai} {fp:List ak} {it p:ak} {tn:Nat->cr->Prop} {J:It} {Q:VK} (hc:X.calm=true) (I3:Inv X pins σ H3 s3) (f3:∀ b∈fp,yh X pins H3 b) (T:Gy X.prog X.w X.K tg J fp it tn)
 (B:EV X scope tg elt ifs g tt te) (W:Nat->Nat->St->List V->Hp->Prop)
 (turn:∀ i m σ2 ys H2,W i m σ2 ys H2->H2 p=some (.lst ys)/\ys.length<aL/\((J.stop i H2/\Q (.ref p) H2)\/(J.go i H2/\∀ x H3,J.yld i H2 x H3->g x σ2 H3 fun σ4 H4=>tt σ4 H4 fun b H5 =>
   if b=true then te σ4 H5 fun y H6=>H6 p=some (.lst ys)/\∃ m',m'<m/\W (i+1) m' σ4 (ys++[y]) (upd H6 p (.lst (ys++[y]))) else ∃ m',m'<m/\W (i+1) m' σ4 ys H5)))
 (fin:∀ σ1 H1 s1,Inv (inC X scope s3 H3 fp) [] σ1 H1 s1->Q (.ref p) H1->R (.ok .next) s1)
 (m:Nat) (σ4:St) (I4:Inv (inC X scope s3 H3 fp) [] σ4 H3 s4) (st4:tn 0 s4.heap) (w0:W 0 m σ4 [] H3) :
 lA (be X.prog X.w) X.A (.compLoop (.ListComp elt [⟨tg,iter,ifs,0⟩] scope pos) 0 (.ref it) (.ref p) (nv X scope s3.heap.objs.size)) R s4:=by
 have stat:∀ {H':Hp},(∀ b∈fp,H' b=none)->∀ b∈fp,yh (inC X scope s3 H3 fp) [] H' b:=fun {H'} hn b hb=>by
  obtain ⟨a0,a1,a2,a3,a4,a5⟩:=f3 b hb
  have I4':=I4.ok.exf b hb
  refine ⟨hn b hb,I4'.1,fun z=>?_,.inl hb,I4'.2,fun q hq=>absurd (show q∈([]:List (ak×dm)) from hq) (by simp)⟩
  exact I4.ok.exfs b hb z
 refine codeAny_loop rfl (fun n s'=>∃ i σ' ys H',Inv (inC X scope s3 H3 fp) [] σ' H' s'/\tn i s'.heap/\(∀ b∈fp,H' b=none)/\W i n σ' ys H') ?_ m ⟨0,σ4,[],H3,I4,st4,fun b hb=>(f3 b hb).1,w0⟩
 rintro n s5 ⟨i,σ5,ys,H5,I5,st5,fr5,w5⟩
 show aM _ X.A ((compTurn (.ListComp elt [⟨tg,iter,ifs,0⟩] scope pos) 0 (.ref it) (.ref p) (nv X scope s3.heap.objs.size)).onRaise (fun x=>do noteFrame x (nv X scope s3.heap.objs.size);theTreesLotGoes x)) _ _ s5
 refine wpAny_noted ?_
 rw [compTurn_list]
 obtain ⟨hp,hz,alt⟩:=turn i n σ5 ys H5 w5
 rcases alt with ⟨stop,qn⟩ | ⟨go,step⟩
 ·refine aa (g4 (aa (thn (T.done (inC X scope s3 H3 fp) rfl rfl rfl hc i [] s5 σ5 H5 _ I5 (stat fr5) st5 stop) fun r s6 ⟨hr,I6⟩=>?_)))
  subst hr
  exact al (fin σ5 H5 s6 I6 qn)
 ·refine aa (g4 (aa (thn (T.item (inC X scope s3 H3 fp) rfl rfl rfl hc i [] s5 σ5 H5 _ I5 (stat fr5) st5 go) fun r s6 ⟨u,hr,h6⟩=>?_)))
  subst hr
  refine aa (thn h6 fun _ s7 ⟨x,H7,I7,r7,y7,st7,fr7⟩=>?_)
  have I7':=I7.pinned (stat fr7) (T.obj _ _ st7)
  have nox:∀ {α:Type} {t:Sem α} {P:α->ai->Prop} {E':ae->ai->Prop} {s':ai},aM (be X.prog X.w) X.A t P (fun _ _=>False) s'->aM (be X.prog X.w) X.A t P E' s':=fun h=>dz h (fun _ _ z=>z) fun _ _ z=>z.elim
  refine aa (thn (nox (B.tg s3 H3 fp _ s7 σ5 H7 x u _ I7' r7 (step x H7 y7))) fun _ s8 ⟨σ8,H8,I8,q8⟩=>?_)
  refine aa (thn (nox (B.ifs s3 H3 fp _ s8 σ8 H8 _ I8 q8)) fun ok s9 ⟨H9,I9,q9⟩=>?_)
  have again:∀ {σ7:St} {H7':Hp} {s':ai} {zs:List V},Inv (inC X scope s3 H3 fp) ([]++tq fp s7.heap) σ7 H7' s'->(∃ m',m'<n/\W (i+1) m' σ7 zs H7')->∃ m',m'<n/\∃ i σ' ys H',Inv (inC X scope s3 H3 fp) [] σ' H' s'/\tn i s'.heap/\(∀ b∈fp,H' b=none)/\W i m' σ' ys H':=fun {σ7 H7' s' zs} J w=>by
   obtain ⟨m',hm,w⟩:=w
   refine ⟨m',hm,i+1,σ7,zs,H7',J.unpinned,T.keep _ _ _ st7 fun b hb o e=>(J.pin (b,o) (aU _ (aU _ (lg hb e)))).1,fun b hb=>?_,w⟩
   obtain ⟨o,e,d⟩:=T.obj _ _ st7 b hb
   exact (J.pin (b,o) (aU _ (aU _ (lg hb e)))).2.1
  cases ok with
  | false =>
    rw [if_neg aO] at q9
    exact al ⟨rfl,again I9 q9⟩
  | true =>
    rw [if_pos rfl] at q9
    refine aa (aa (thn (nox (B.elt s3 H3 fp _ s9 σ8 H9 _ I9 q9)) fun uy s10 ⟨y,H10,I10,ry,hp10,q10⟩=>?_))
    refine aa (thn (nox (t5 (X:=inC X scope s3 H3 fp) _ s10 σ8 H10 (.ref p) [y] (.ref p) [uy] (fun _ H'=>H'=upd H10 p (.lst (ys++[y]))) I10 rfl (.cons ry .nil) ⟨p,ys,y,rfl,rfl,hp10,hz,rfl⟩)) fun _ s11 ⟨_,H11,I11,_,e11⟩=>?_)
    subst e11
    exact al (al ⟨rfl,again I11 q10⟩)
theorem zQ (hc:X.calm=true) (S:CScope X scope ix) (hi:PI X tg iter wi) (B:EV X scope tg elt ifs g tt te) (hs:∀ x,cW iter X.env x=pure x:=by intro _;rfl):PE X (.ListComp elt [⟨tg,iter,ifs,0⟩] scope pos) (yq (mpS ix) wi g tt te):=by
 intro pins s σ H Q I h
 rw [eval_ListComp]
 refine xK (use:=none) rfl hs (kQ (S.cells I)) S.kind (fun y hy hl=>S.names (by rw [<- hl];exact hy)) ?_
 refine thn (hi pins s σ H _ I h) fun v s1 h1=>thn h1 fun itv s2 h2=>?_
 obtain ⟨it,fp,tn,J,H2,rfl,I2,T,st2,f2,hq⟩:=h2
 obtain ⟨W,⟨m0,w0⟩,turn⟩:=hq s2.heap.objs.size I2.fresh
 refine cy ?_
 have I3:Inv X pins σ (upd H2 s2.heap.objs.size (.lst [])) { s2 with heap:=s2.heap.push { cls:=.type "list",data:=.seq ([]:List ae).toArray } }:=I2.lnew (its:=[]) (t':=s2.toks) .nil (bW _)
 have lt2:∀ b∈fp,b<s2.heap.objs.size:=fun b hb=>by obtain ⟨o,e,_⟩:=T.obj _ _ st2 b hb;exact aF e
 have f3:∀ b∈fp,yh X pins (upd H2 s2.heap.objs.size (.lst [])) b:=fun b hb=>⟨by rw [bq (bu (lt2 b hb))];exact (f2 b hb).1,(f2 b hb).2⟩
 refine qI S I3 (fp:=fp) (fun b hb=>⟨f3 b hb,?_⟩) fun env h4 ee el I4 keep4=>?_
 ·show b<(s2.heap.push _).objs.size
  rw [jc]
  exact BI (lt2 b hb)
 rw [ee,el]
 have st4:tn 0 h4:=T.keep _ _ _ st2 fun b hb o e=>keep4 b o (af _ e)
 have fin:∀ σ1 H1 s1,Inv (inC X scope { s2 with heap:=s2.heap.push { cls:=.type "list",data:=.seq ([]:List ae).toArray } } (upd H2 s2.heap.objs.size (.lst [])) fp) [] σ1 H1 s1->Q (.ref s2.heap.objs.size) H1 ->
  B5 (be X.prog X.w) X.A X.xe none (EP X pins σ Q) (.ref s2.heap.objs.size) ((s2.heap.push { cls:=.type "list",data:=.seq ([]:List ae).toArray }).objs.size) (.ok .next) s1:=fun σ1 H1 s1 I1 q1=>by
  obtain ⟨m,hn,_⟩:=I1.loc
  exact ⟨m,hn,fun h' hs'=>⟨.ref s2.heap.objs.size,H1,uu I3 f3 I1 (ue I3 f3 I1) hs',rfl,q1⟩⟩
 have loop:=uE (iter:=iter) (pos:=pos) (R:=B5 (be X.prog X.w) X.A X.xe none (EP X pins σ Q) (.ref s2.heap.objs.size) ((s2.heap.push { cls:=.type "list",data:=.seq ([]:List ae).toArray }).objs.size)) hc I3 f3 T B W turn fin m0 (mpS ix σ) I4 st4 w0
 exact yW loop (T.self X.A 0 _ _ _ st4 loop)
end
def mpR (ix:List (Option Nat)) (ρ:Rho):Rho:=ix.map fun o=>match o with
 | some j=>(ρ[j]?).getD .no
 | none=>.no
theorem Ij {X:Cx} {scope:dO} {ix:List (Option Nat)} (S:CScope X scope ix) {i k j:Nat} (h1:ix[i]?=some (some j)) (h2:ix[k]?=some (some j)):i=k:=by
 obtain ⟨x,a1,a2⟩:=jB S.ix h1
 obtain ⟨y,b1,b2⟩:=jB S.ix h2
 rw [a2] at b2
 cases b2
 have c1:(scope.names.map (·.1))[i]?=some x:=by rw [ay,a1];rfl
 have c2:(scope.names.map (·.1))[k]?=some x:=by rw [ay,b1];rfl
 exact si S.nd c1 c2
theorem o7 {ix:List (Option Nat)} {ρ:Rho} {i:Nat} {x:Sl} (h:(mpR ix ρ)[i]?=some x) (hx:x≠.no):∃ j,ix[i]?=some (some j)/\ρ[j]?=some x:=by
 unfold mpR at h
 rw [ay] at h
 cases q:ix[i]? with
 | none=>rw [q] at h;cases h
 | some o =>
   rw [q] at h
   cases o with
   | none=>cases h;exact absurd rfl hx
   | some j =>
     have h':(ρ[j]?).getD .no=x:=by simpa using h
     cases z:ρ[j]? with
     | none=>rw [z] at h';exact absurd h'.symm hx
     | some y=>rw [z] at h';exact ⟨j,rfl,z.trans (congrArg some h')⟩
theorem vW {ix:List (Option Nat)} {σ:St} {i j:Nat} {v:V} (h:ix[i]?=some (some j)) (hs:σ[j]?=some (some v)):(mpS ix σ)[i]?=some (some v):=by
 unfold mpS
 rw [ay,h]
 simp [hs]
theorem wI {ix:List (Option Nat)} {σ:St} {i j:Nat} {v:V} (h:ix[i]?=some (some j)) (hs:(mpS ix σ)[i]?=some (some v)):σ[j]?=some (some v):=by
 unfold mpS at hs
 rw [ay,h] at hs
 have h':(σ[j]?).getD none=some v:=by simpa using hs
 cases z:σ[j]? with
 | none=>rw [z] at h';cases h'
 | some y=>rw [z] at h';exact congrArg some h'
theorem iC.mp {X:Cx} {scope:dO} {ix:List (Option Nat)} {K:ac} {B G H:Hp} {σ:St} {ρ:Rho} (S:CScope X scope ix) (h:iC K B G H σ ρ):iC K B G H (mpS ix σ) (mpR ix ρ):=by
 refine ⟨by unfold mpS mpR;rw [ab,ab],fun i d e=>?_,fun i d e=>?_,fun i k d d' l hik e1 e2 s1 s2=>?_,h.tg⟩
 ·obtain ⟨j,hj,hr⟩:=o7 e (by intro z;cases z)
  obtain ⟨v,hv,dv⟩:=h.pu j d hr
  exact ⟨v,vW hj hv,dv⟩
 ·obtain ⟨j,hj,hr⟩:=o7 e (by intro z;cases z)
  obtain ⟨l,o,hv,r⟩:=h.ow j d hr
  exact ⟨l,o,vW hj hv,r⟩
 ·obtain ⟨j,hj,hr⟩:=o7 e1 (by intro z;cases z)
  obtain ⟨j',hj',hr'⟩:=o7 e2 (by intro z;cases z)
  refine h.ap j j' d d' l (fun z=>?_) hr hr' (wI hj s1) (wI hj' s2)
  subst z
  exact hik (Ij S hj hj')
theorem iC.other {K:ac} {B G H:Hp} {σ:St} {ρ:Rho} {p:ak} {o o':HO} (h:iC K (upd B p o) G H σ ρ):iC K (upd B p o') G (upd H p o') σ ρ:=by
 refine ⟨h.len,h.pu,fun i d e=>?_,h.ap,h.tg⟩
 obtain ⟨l,ob,a,nb,ng,hl,r⟩:=h.ow i d e
 have ne:l≠p:=fun z=>by subst z;rw [aV] at nb;cases nb
 exact ⟨l,ob,a,by rw [bq ne] at nb ⊢;exact nb,ng,by rw [bq ne];exact hl,r⟩
def p7 (t:Da->Rho->Option Rho) (c:Rho->Option Bool) (f:Rho->Option Rv):List Da->Rho->Option (List Da)
 | [],_=>some []
 | d::ds,ρ=>match t d ρ with
   | none=>none
   | some ρ1=>match c ρ1 with
     | none=>none
     | some false=>p7 t c f ds ρ1
     | some true=>match f ρ1 with
       | none=>none
       | some r=>if e5 r=true then (match p7 t c f ds ρ1 with
         | none=>none
         | some es=>some (r.2::es)) else none
def fy (ix:List (Option Nat)) (fi:Rho->Option (List Da)) (t:Da->Rho->Option Rho) (c:Rho->Option Bool) (f:Rho->Option Rv):Rho->Option Rv:=fun ρ=>match fi ρ with
 | none=>none
 | some ds=>if ds.length<=1000000 then (match p7 t c f ds (mpR ix ρ) with
   | none=>none
   | some es=>some (.fr,.lst es)) else none
theorem Ay {X:Cx} {scope:dO} {ix:List (Option Nat)} {fi:Rho->Option (List Da)} {t:Da->Rho->Option Rho} {c:Rho->Option Bool} {f:Rho->Option Rv} (S:CScope X scope ix) {σ:St} {H:Hp} {Q:VK} (q:tX X.K (fy ix fi t c f) σ H Q) :
 yq (mpS ix) (iX X.K fi) (gX X.K t) (tXT X.K c) (tX X.K f) σ H Q:=by
 obtain ⟨B,G,ρ,r,sg,sb,st,e,k⟩:=q
 unfold fy at e
 split at e
 ·cases e
 ·rename_i ds efi
  split at e
  case isFalse=>cases e
  case isTrue hz =>
  split at e
  ·cases e
  ·rename_i es ees
   cases e
   have hsz:aL=16777216:=bE
   refine ⟨B,G,ρ,ds,sg,sb,st,efi,fun J G1 H1 E1 it p hp=>?_⟩
   have hp0:H p=none:=E1.hh.free hp
   refine ⟨fun i m σ2 ys H2=>m=ds.length-i/\i<=ds.length/\∃ G2 ρ2 done rest,Ext G H G2 H2/\cQ G1 G2/\G2 p=none/\H2 p=some (.lst ys)/\cO X.K G2 done ys/\done.length<=i/\p7 t c f (ds.drop i) ρ2=some rest/\done++rest=es/\iC X.K (upd B p (.lst ys)) G2 H2 σ2 ρ2,
    ⟨ds.length,by simp,bW _,G1,mpR ix ρ,[],es,E1.trans (Ext.own E1.gh hp),cQ.refl _,E1.gh.free hp,aV,rfl,bW _,by rw [jb];exact ees,rfl,?_⟩,?_⟩
   ·have st1:=((st.ext E1).ext (Ext.own (o:=.lst []) E1.gh hp)).mp S
    refine ⟨st1.len,st1.pu,fun i d q=>?_,st1.ap,st1.tg⟩
    obtain ⟨l,o,a,nb,ng,hl,r⟩:=st1.ow i d q
    have ne:l≠p:=fun z=>by
     subst z
     obtain ⟨j,hj,hr⟩:=o7 q (by intro z;cases z)
     obtain ⟨l',o',a',_,_,hl',_⟩:=(st.ext E1).ow j d hr
     have:=vW hj a'
     rw [a] at this
     cases this
     rw [hp] at hl';cases hl'
    exact ⟨l,o,a,by rw [bq ne];exact nb,ng,hl,r⟩
   ·rintro i m σ2 ys H2 ⟨rfl,hi,G2,ρ2,done,rest,E2,s12,gp,hp2,dl,hdl,ecl,eapp,st2⟩
    have hln:=dl.length
    refine ⟨hp2,by lia,?_⟩
    have sB2:cQ (upd B p (.lst ys)) H2:=fun b o z=>by
     by_cases hb:b=p
     ·subst hb;rw [aV] at z;rw [<- z];exact hp2
     ·rw [bq hb] at z;exact E2.hh b o (sb b o z)
    by_cases hlt:i<ds.length
    ·obtain ⟨d,hd⟩:∃ d,ds[i]?=some d:=⟨ds[i],by simp [hlt]⟩
     have hdrop:ds.drop i=d::ds.drop (i+1):=by
      rw [gC hlt]
      congr 1
      rw [aj hlt] at hd
      exact bR hd
     rw [hdrop] at ecl
     unfold p7 at ecl
     split at ecl
     ·cases ecl
     ·rename_i ρ1 et
      obtain ⟨hgo,hy⟩:=(it i G2 H2 s12 E2.gh).1 d hd
      refine .inr ⟨hgo,fun x H3 yl=>?_⟩
      obtain ⟨G3,E3,dx⟩:=hy x H3 yl
      refine ⟨upd B p (.lst ys),G3,G3,ρ2,d,ρ1,⟨sB2.trans E3.hh,cQ.refl _,E3.gh,fun _ _ _ _ z=>z⟩,st2.ext E3,dx,et,fun σ4 st4=>?_⟩
      split at ecl
      ·cases ecl
      ·rename_i ec
       refine ⟨upd B p (.lst ys),G3,ρ1,false,E3.gh,sB2.trans E3.hh,st4,ec,fun G4 H4 E4=>?_⟩
       refine JY ?_
       have E24:=E3.trans E4
       refine ⟨ds.length-(i+1),by lia,rfl,hlt,G4,ρ1,done,rest,E2.trans E24,s12.trans E24.gg,E24.nw _ _ hp2 rfl gp,E24.hh _ _ hp2,cO.mono E24.gg _ dl,by lia,ecl,eapp,st4.ext E4⟩
      ·rename_i ec
       refine ⟨upd B p (.lst ys),G3,ρ1,true,E3.gh,sB2.trans E3.hh,st4,ec,fun G4 H4 E4=>?_⟩
       refine HF ?_
       split at ecl
       ·cases ecl
       ·rename_i r er
        split at ecl
        case isFalse=>cases ecl
        case isTrue hpu =>
        split at ecl
        ·cases ecl
        ·rename_i es' ees'
         cases ecl
         refine ⟨upd B p (.lst ys),G4,ρ1,r,E4.gh,(sB2.trans E3.hh).trans E4.hh,st4.ext E4,er,fun y G5 H5 E5 r5=>?_⟩
         obtain ⟨G6,E6,s56,dy⟩:=r5.pure E5 hpu
         have E26:=(E3.trans E4).trans E6
         have hp5:=E26.hh _ _ hp2
         have gp6:=E26.nw _ _ hp2 rfl gp
         have E06:=E2.trans E26
         refine ⟨hp5,ds.length-(i+1),by lia,rfl,hlt,G6,ρ1,done++[r.2],es',⟨kY E06.hh hp0,E06.gg,kY E06.gh gp6,E06.nw⟩,s12.trans E26.gg,gp6,aV,cO.append (cO.mono E26.gg _ dl) (cO.one dy),by rw [aN,bx];lia,ees',by rw [dX];exact eapp,?_⟩
         exact ((st4.ext E4).ext E6).other
    ·have ei:i=ds.length:=by lia
     subst ei
     rw [jW] at ecl
     cases ecl
     rw [eV] at eapp
     subst eapp
     exact .inl ⟨(it ds.length G2 H2 s12 E2.gh).2 rfl,k _ G2 H2 E2 ⟨p,_,rfl,hp0,gp,hp2,ys,rfl,dl⟩⟩
structure FR (X:Cx) (scope:dO) (tg elt:aP) (ifs:List aP) (t:Da->Rho->Option Rho) (c:Rho->Option Bool) (f:Rho->Option Rv):Prop where
 tg:∀ s H fp,PXG (inC X scope s H fp) tg t
 ifs:∀ s H fp,PTS (inC X scope s H fp) ifs (tXT X.K c)
 elt:∀ s H fp,PX (inC X scope s H fp) elt f
theorem Ge {X:Cx}:PTS X [] (tXT X.K fun _=>some true):=fun pins s σ H Q I ⟨B,G,ρ,b,sg,sb,st,e,k⟩=>by cases e;exact AG pins s σ H Q I (k G H (Ext.refl sg))
theorem FN {X:Cx} {c:aP} {t:Rho->Option Bool} (h:PXT X c t):PTS X [c] (tXT X.K t):=GY h
section
variable {X:Cx} {elt tg iter:aP} {ifs:List aP} {scope:dO} {pos spos py:e7} {ix:List (Option Nat)} {fi:Rho->Option (List Da)} {t:Da->Rho->Option Rho} {c:Rho->Option Bool} {f:Rho->Option Rv}
theorem Gr (hc:X.calm=true) (S:CScope X scope ix) (hi:PXI X tg iter fi) (B:FR X scope tg elt ifs t c f) (hs:∀ x,cW iter X.env x=pure x:=by intro _;rfl):PX X (.ListComp elt [⟨tg,iter,ifs,0⟩] scope pos) (fy ix fi t c f) :=
 PE.imp (zQ hc S hi ⟨B.tg,B.ifs,B.elt⟩ hs) fun _ _ _ q=>Ay S q
end
def wy (outer:List (bH×d5)):List (bH×d5)->Bool
 | []=>true
 | (x,k)::r=>(!(k == .free)||outer.lookup x == some .cell||outer.lookup x == some .free)&&wy outer r
theorem tD {outer:List (bH×d5)}:∀ {names:List (bH×d5)},wy outer names=true->∀ y∈names,y.2=.free->outer.lookup y.1=some .cell\/outer.lookup y.1=some .free
 | [],_,y,hy,_=>by simp at hy
 | (x,k)::r,h,y,hy,hf=>by
   unfold wy at h
   rw [aY] at h
   rcases am.mp hy with rfl | hy
   ·have h1:=h.1
    dsimp only at hf
    subst hf
    rcases iK _ _▸h1 with z | z
    ·rcases iK _ _▸z with w | w
     ·exact absurd w (by decide)
     ·exact .inl (by simpa using w)
    ·exact .inr (by simpa using z)
   ·exact tD h.2 y hy hf
theorem gJ {X:Cx} {scope:dO} {ix:List (Option Nat)} (h1:scope.kind=.function) (h2:(scope.names.map (·.1)).Nodup) (h3:wy X.env.scope.names scope.names=true) (h4:sZ X.N scope.names ix=true):CScope X scope ix :=
 ⟨h1,h2,fun y hy hf=>tD h3 y hy hf,h4⟩
theorem cnd {X:Cx} {scope:dO} {s:ai} {H:Hp} {fp:List ak} (h:(scope.names.map (·.1)).Nodup):(inC X scope s H fp).N.Nodup:=h
section
variable {X:Cx} {a b c e:aP} {es:List aP} {p pos pos':e7} {f fa fb fc:Rho->Option Rv} {g:Rho->Option (List Rv)}
theorem Ex (hg:Gl X "len") (hm:X.mg "len" = none) (ha:PXA X (e::es) g) (he:ao (e::es) X.env=(false,b9 e X.env)::ao es X.env:=by exact bS rfl) (hpl:(cz pos (ao es X.env)).any (·.1)=false:=by rfl):PX X (.Call (.Name "len" p) (e::es) [] pos) (xB p6 g) :=
 FY uw Fj hg hm PySem.boot_len ha (by decide) (by decide) he hpl
theorem Du (hg:Gl X "tuple") (hm:X.mg "tuple" = none) (ha:PXA X (e::es) g) (he:ao (e::es) X.env=(false,b9 e X.env)::ao es X.env:=by exact bS rfl) (hpl:(cz pos (ao es X.env)).any (·.1)=false:=by rfl):PX X (.Call (.Name "tuple" p) (e::es) [] pos) (xB gv g) :=
 HX sv AF hg hm (by decide +kernel) ha (by decide) (by decide) he hpl
theorem Gz (hg:Gl X "list") (hm:X.mg "list" = none) (ha:PXA X (e::es) g) (he:ao (e::es) X.env=(false,b9 e X.env)::ao es X.env:=by exact bS rfl) (hpl:(cz pos (ao es X.env)).any (·.1)=false:=by rfl):PX X (.Call (.Name "list" p) (e::es) [] pos) (xB vz g) :=
 HX sX DJ hg hm (by decide +kernel) ha (by decide) (by decide) he hpl
def o6 (f:Rho->Option Rv):Rho->Option Rv:=fun ρ=>match f ρ with
 | some (_,.int i)=>some (.pu,.int (-i))
 | _=>none
theorem Jr (ha:PX X a fa):PX X (.UnaryOp .USub a pos) (o6 fa):=PE.imp (KO Jc ha) fun σ H Q ⟨B,G,ρ,r,sg,sb,st,eq,k⟩=>by
 unfold o6 at eq
 split at eq
 ·rename_i kd i q
  cases eq
  exact ⟨B,G,ρ,_,sg,sb,st,q,fun v G1 H1 E1 r1=>⟨i,r1.int,k _ G1 H1 E1 rfl⟩⟩
 ·cases eq
def ju (fd fk fx:Rho->Option Rv):Rho->Option Rv:=fun ρ=>match fd ρ,fk ρ,fx ρ with
 | some d,some k,some x=>match ml d.2 k.2 with
   | some (some e)=>some (.pu,e)
   | some none=>some x
   | none=>none
 | _,_,_=>none
theorem IM {K:ac} {B H0 G H:Hp} {r:Rv} {v:V} {k:Da} {o:Option Da} (sg:cQ G H) (h:gZ K B H0 G H r v) (e:ml r.2 k=some o):∃ a,v=.ref a/\IsD H a:=by
 obtain ⟨kd,d⟩:=r
 cases d with
 | dK ks ds=>obtain ⟨a,kvs,rfl,q,_⟩:=h.dK sg;exact ⟨a,rfl,.inl ⟨kvs,q⟩⟩
 | dT ks ds=>obtain ⟨a,kvs,rfl,q,_⟩:=h.dT sg;exact ⟨a,rfl,.inr ⟨kvs,q⟩⟩
 | _=>unfold ml at e;cases e
theorem A2 {apos:e7} {o:aP} {fo:Rho->Option Rv} (hu:X.A.units+1<cx) (ho:PX X o fo) (ha:PX X a fa) (hb:PX X b fb) (hbase:gk o "get" X.env (b9 o X.env)=b9 o X.env:=by rfl)
 (hfew:((cz pos (ao [a,b] X.env)).all (fun x=>!x.1)&&(lh pos (h8 [] X.env)).all (fun x=>x.1.isSome)&&decide (([a,b]:List aP).length+([]:List i5).length+(if ([]:List i5).isEmpty then 0 else 1)<30))=true:=by rfl)
 (hline:(apos.endLine == pos.line)=true:=by rfl) (htr:cz pos (ao [a,b] X.env)=[(false,b9 a X.env),(false,b9 b X.env)]:=by rfl):PX X (.Call (.Attribute o "get" apos) [a,b] [] pos) (ju fo fa fb) :=
 PE.imp (CP hu ho ha hb ⟨hbase,hfew,hline,htr⟩) fun σ H Q ⟨B,G,ρ,r,sg,sb,st,eq,k⟩=>by
  unfold ju at eq
  split at eq
  ·rename_i d k' x ed ek ex
   refine ⟨B,G,ρ,d,sg,sb,st,ed,fun v G1 H1 E1 r1=>?_⟩
   have look:∃ o,ml d.2 k'.2=some o:=by
    split at eq
    ·exact ⟨_,by assumption⟩
    ·exact ⟨_,by assumption⟩
    ·cases eq
   obtain ⟨oo,eo⟩:=look
   obtain ⟨a',rfl,isd⟩:=IM E1.gh r1 eo
   refine ⟨a',rfl,isd,B,G1,ρ,k',E1.gh,sb.trans E1.hh,st.ext E1,ek,fun y G2 H2 E2 r2=>⟨B,G2,ρ,x,E2.gh,(sb.trans E1.hh).trans E2.hh,(st.ext E1).ext E2,ex,fun z G3 H3 E3 r3=>?_⟩⟩
   have E12:=E1.trans E2
   obtain ⟨p',ov,ep,g,m⟩:=oJ (H0:=H) E3.gh ((r1.ext E2).ext E3) ((r2.base (H0:=H) E1.hh).ext E3) eo
   cases ep
   refine ⟨ov,g,?_⟩
   rw [eo] at eq
   cases oo with
   | some e' =>
     cases eq
     obtain ⟨w,rfl,dw⟩:=m
     exact k w G3 H3 (E12.trans E3) dw
   | none =>
     cases eq
     cases m
     exact k z G3 H3 (E12.trans E3) (r3.base (E1.hh.trans E2.hh))
  ·cases eq
def gN {κ:Type} [DecidableEq κ]:List κ->List Da->κ->Da->List Da
 | k::ks,d::ds,j,e=>if k=j then e::ds else d::gN ks ds j e
 | _,_,_,e=>[e]
def gR {κ:Type} [DecidableEq κ]:List κ->κ->List κ
 | k::ks,j=>if k=j then k::ks else k::gR ks j
 | [],j=>[j]
theorem A4 {κ:Type} [DecidableEq κ] {k j:κ} {v y:V} {r:List (κ×V)} (nd:((k,v)::r).map (·.1) |>.Nodup):lp ((k,v)::r) j y=if k=j then (k,y)::r else (k,v)::lp r j y:=by
 have nd':k∉r.map (·.1)/\(r.map (·.1)).Nodup:=bf.mp nd
 unfold lp
 by_cases h:k=j
 ·subst h
  rw [if_pos (by rw [jD];simp),if_pos rfl,aw,if_pos rfl]
  congr 1
  conv=>rhs;rw [<- List.map_id r]
  refine dr fun p hp=>?_
  have:p.1≠k:=fun z=>nd'.1 (by rw [<- z];exact aK.mpr ⟨p,hp,rfl⟩)
  rw [if_neg this];rfl
 ·rw [if_neg h,jD,decide_eq_false h,Bool.false_or]
  by_cases h2:(r.any fun kv=>decide (kv.1=j))=true
  ·rw [if_pos h2,if_pos h2,aw,if_neg h]
  ·rw [if_neg h2,if_neg h2];rfl
theorem vY {K:ac} {G:Hp} {κ:Type} [DecidableEq κ]:∀ {kvs:List (κ×V)} {ks:List κ} {ds:List Da} (j:κ) {d:Da} {v:V},ks.Nodup->kvs.map (·.1)=ks->cO K G ds (kvs.map (·.2))->Den K G d v ->
 (lp kvs j v).map (·.1)=gR ks j/\cO K G (gN ks ds j d) ((lp kvs j v).map (·.2))
 | [],ks,ds,j,d,v,_,e,h,hd=>by
   subst e
   cases ds with
   | nil=>exact ⟨rfl,cO.one hd⟩
   | cons d ds=>obtain ⟨x,r,e,_⟩:=h;cases e
 | (k,w)::r,ks,ds,j,d,v,nd,e,h,hd=>by
   subst e
   cases ds with
   | nil=>cases (show (w::r.map (·.2))=[] from h)
   | cons d' ds =>
     obtain ⟨x,xr,ex,h1,h2⟩:=h
     injection ex with e1 e2
     subst e1;subst e2
     rw [A4 nd]
     have nd2:(r.map (·.1)).Nodup:=(bf.mp (show (k::r.map (·.1)).Nodup from nd)).2
     by_cases hk:k=j
     ·rw [if_pos hk]
      refine ⟨?_,?_⟩
      ·show k::r.map (·.1)=if k=j then _ else _;rw [if_pos hk]
      ·show cO K G (if k=j then _ else _) _;rw [if_pos hk];exact ⟨_,_,rfl,hd,h2⟩
     ·rw [if_neg hk]
      obtain ⟨i1,i2⟩:=vY (K:=K) (G:=G) (kvs:=r) (ks:=r.map (·.1)) (ds:=ds) j nd2 rfl h2 hd
      refine ⟨?_,?_⟩
      ·show k::(lp r j v).map (·.1)=if k=j then _ else _;rw [if_neg hk,i1]
      ·show cO K G (if k=j then _ else _) _;rw [if_neg hk];exact ⟨_,_,rfl,h1,i2⟩
def HG:Da->Da->Da->Option Da
 | .dK ks ds,k,v=>match Em k with
   | some j=>if ks.Nodup/\ks.length<=1000000 then some (.dK (gR ks j) (gN ks ds j v)) else none
   | none=>none
 | .dT ks ds,.tup es,v=>match my es with
   | some j=>if ks.Nodup/\ks.length<=1000000 then some (.dT (gR ks j) (gN ks ds j v)) else none
   | none=>none
 | _,_,_=>none
def Ct (i:Nat) (fk fv:Rho->Option Rv):Rho->Res:=fun ρ=>match ρ[i]?,fk ρ,fv ρ with
 | some (.ow d),some k,some v=>if e5 v=true then (match HG d k.2 v.2 with
   | some d'=>.nx (ρ.set i (.ow d'))
   | none=>.bad) else .bad
 | _,_,_=>.bad
theorem Dw {K:ac} {B H0 G H:Hp} {d d':Da} {o:HO} {l:ak} {k:Rv} {y v:V} {dv:Da} (sg:cQ G H) (hl:H l=some o) (hd:Holds K G d o) (rk:gZ K B H0 G H k y) (hv:Den K G dv v) (e:HG d k.2 dv=some d') :
 ∃ o',Dy H l y v (upd H l o')/\Holds K G d' o':=by
 obtain ⟨kd,kk⟩:=k
 have hs:aL=16777216:=bE
 cases d with
 | dK ks ds =>
   have e:(match Em kk with
    | some j=>if ks.Nodup/\ks.length<=1000000 then some (Da.dK (gR ks j) (gN ks ds j dv)) else none
    | none=>none)=some d':=by cases kk<;>exact e
   split at e
   ·rename_i j ej
    split at e
    ·rename_i hnd
     cases e
     obtain ⟨kvs,rfl,ek,dl⟩:=hd
     have ey:y=kV j:=zi ej (rk.den sg (AS ej))
     obtain ⟨p1,p2⟩:=vY (K:=K) (G:=G) j hnd.1 ek dl hv
     have hlen:kvs.length=ks.length:=by rw [<- ek,ab]
     exact ⟨.dK (lp kvs j v),.inl ⟨kvs,j,hl,ey,by lia,rfl⟩,_,rfl,p1,p2⟩
    ·cases e
   ·cases e
 | dT ks ds =>
   cases kk with
   | tup es =>
     have e:(match my es with
      | some j=>if ks.Nodup/\ks.length<=1000000 then some (Da.dT (gR ks j) (gN ks ds j dv)) else none
      | none=>none)=some d':=e
     split at e
     ·rename_i j ej
      split at e
      ·rename_i hnd
       cases e
       obtain ⟨kvs,rfl,ek,dl⟩:=hd
       obtain ⟨t,xs,rfl,qt,dl2,_⟩:=rk.tup sg
       rw [vP ej dl2] at qt
       obtain ⟨p1,p2⟩:=vY (K:=K) (G:=G) j hnd.1 ek dl hv
       have hlen:kvs.length=ks.length:=by rw [<- ek,ab]
       exact ⟨.dT (lp kvs j v),.inr ⟨kvs,j,t,hl,rfl,qt,by lia,rfl⟩,_,rfl,p1,p2⟩
      ·cases e
     ·cases e
   | _=>cases e
 | _=>cases e
theorem FO {i:Nat} {x:bH} {px:e7} (hu:X.A.units+64<cx) (hk:PX X a fa) (hv:PX X b fb) (hN:X.N[i]?=some x:=by rfl) (hvis:Vis X.env.scope x:=by first | exact dI rfl | exact dQ (dI rfl) | exact dQ (dQ rfl)) (hd:(x == ("__debug__" : bH))=false:=by decide)
 (hcd:(x == ("__classdict__" : bH))=false:=by decide) (hs:ff b (some (.Subscript (.Name x px) a pos')) pos.line X.env=pure false:=by rfl):PXS X (.Assign [.Subscript (.Name x px) a pos'] b pos) (Ct i fa fb) :=
 PS.imp (oX (by lia) (xi hN hvis hd hcd) hk hv hs) fun D σ H ⟨B,G0,G,ρ,E,st,k⟩=>by
  unfold Ct at k
  split at k
  ·rename_i d rk rv eo ek ev
   split at k
   ·rename_i hpu
    refine ⟨B,G,ρ,rv,E.gh,E.hh,st,ev,fun v G1 H1 E1 r1=>?_⟩
    obtain ⟨G2,E2,_,dv⟩:=r1.pure E1 hpu
    obtain ⟨l,o,a',nb,ng,hl,hd'⟩:=(st.ext E2).ow i d eo
    refine ⟨_,a',B,G2,ρ,rk,E2.gh,E.hh.trans E2.hh,st.ext E2,ek,fun y G3 H3 E3 r3=>?_⟩
    split at k
    ·rename_i d' ed
     obtain ⟨o',hput,hh⟩:=Dw E3.gh (E3.hh _ _ hl) (hd'.mono E3.gg) r3 (Den.mono E3.gg _ dv) ed
     have E03:=(E.trans E2).trans E3
     exact ⟨l,_,rfl,hput,k _ G3 _ (E03.mut nb (E3.nw _ _ hl hd'.nt ng)) (E2.gg.trans E3.gg) (((st.ext E2).ext E3).mut eo a' hh)⟩
    ·exact k.elim
   ·exact k.elim
  ·exact k.elim
def LH (i j:Nat):Rho->Res:=fun ρ=>match ρ[i]? with
 | some (.ow (.lst ds))=>match ds.getLast? with
   | some d=>.nx ((ρ.set i (.ow (.lst ds.dropLast))).set j (.pu d))
   | none=>.bad
 | _=>.bad
def FZ (i:Nat) (f:Rho->Option Rv):Rho->Res:=fun ρ=>match ρ[i]?,f ρ with
 | some (.ow (.lst ds)),some (.fr,.lst es)=>if ds.length+es.length<=1000000 then .nx (ρ.set i (.ow (.lst (ds++es)))) else .bad
 | _,_=>.bad
end
structure Ca (P:bA) (w:cb) (K:ac) (mg:bH->Option ae) (base:cr) (x:bH) (ps:List bH) (k n:Nat) (fn:List Da->Option Da):Prop where
 ex:∃ (a:ak) (fd:dB),mg x=some (.ref a)/\bb K (.ref a)=true/\rp K fd ps []/\vO P w K mg base CX0 k a fd ps (spD K n fn)
theorem se {X:Cx} {k n:Nat} {ps:List bH} {fn:List Da->Option Da} {x:bH} {p pos:e7} {e:aP} {es:List aP} {g:Rho->Option (List Rv)} (C:Ca X.prog X.w X.K X.mg X.base x ps k n fn) (hr:jm k X.A) (hg:Gl X x) (ha:PXA X (e::es) g) (hlen:∀ ρ rs,g ρ=some rs->rs.length=n)
 (hdb:(x == ("__debug__" : bH))=false:=by decide) (he:ao (e::es) X.env=(false,b9 e X.env)::ao es X.env:=by exact bS rfl) (hpl:(cz pos (ao es X.env)).any (·.1)=false:=by rfl):PX X (.Call (.Name x p) (e::es) [] pos) (cJ fn g):=by
 obtain ⟨a,fd,hm,hk,hb,F⟩:=C.ex
 exact GB F hr hg hm hk hb ha hlen hdb he hpl
def ft (K:ac) (mg:bH->Option ae) (x:bH) (st:cV):Prop:=∃ (a:ak) (fd:dB),Fun K x x st a fd/\mg x=some (.ref a)
theorem KL {P:bA} {w:cb} {K:ac} {mg:bH->Option ae} {base:cr} {x:bH} {st:cV} {N ps:List bH} {k n:Nat} {g:Rho->Res} (hf:ft K mg x st) (S:gQ N ps (bh st)) (hn:ps.length=n)
 (hbind:∀ (kV doc pm:ae) (an:Option ak) (cdv ct:ae) (us:List ae),us.length=ps.length->jJ (bc x x (cD st) (cg st) (bh st) .none kV doc pm an cdv ct) ⟨us,[]⟩=pure (ps.zip us))
 (hbody:∀ (f:ak) (cdv:ae) (A:bK) (outer:List pQ) (s:ai) (H:Hp) (E:XK),jm k (A.deeper (fA x (bh st) s.heap.objs.size f cdv))->wC (wm CX0 P w K mg base N x (bh st) f cdv A outer s H E).nox (cg st) g) :
 Ca P w K mg base x ps (k+1) n (jl N.length g):=by
 obtain ⟨a,fd,F,hm⟩:=hf
 exact ⟨a,fd,hm,F.kp,F.binds hbind,Eg F S hn fun cdv A outer s H E hr=>hbody a cdv A outer s H E hr⟩
section
variable {X:Cx} {a b c e:aP} {es:List aP} {p p2 pos pos':e7} {fa fb fc f:Rho->Option Rv} {g:Rho->Option (List Rv)}
def v8 (i:Da->Option Bool) (f:Rho->Option Rv):Rho->Option Rv:=fun ρ=>match f ρ with
 | some r=>match i r.2 with
   | some b=>some (.pu,.bl b)
   | none=>none
 | none=>none
def GN:Da->Option Bool
 | .bl _=>some true | .int _=>some true | .non=>some false | .str _=>some false | .tup _=>some false | .lst _=>some false | _=>none
def Dk:Da->Option Bool
 | .bl _=>some true | .int _=>some false | .non=>some false | .str _=>some false | .tup _=>some false | .lst _=>some false | _=>none
def nM:List Da->Option (List Bool)
 | []=>some []
 | .bl b::r=>(nM r).map (b::·)
 | _=>none
theorem pd:∀ {ds:List Da} {bs:List Bool},nM ds=some bs->ds=bs.map Da.bl
 | [],ns,h=>by cases h;rfl
 | d::r,ns,h=>by
   cases d with
   | bl i =>
     have h:(nM r).map (i::·)=some ns:=h
     cases q:nM r with
     | none=>rw [q] at h;cases h
     | some ms=>rw [q] at h;cases h;rw [pd q];rfl
   | _=>cases h
theorem pf {K:ac} {G:Hp}:∀ {bs:List Bool} {xs:List V},cO K G (bs.map Da.bl) xs->xs=bs.map V.bl
 | [],_,h=>h
 | b::bs,_,h=>by obtain ⟨x,r,rfl,h1,h2⟩:=h;cases (show _=_ from h1);rw [pf h2];rfl
theorem m3:∀ {bs:List Bool} {us:List ae},eE (bs.map V.bl) us->us=bs.map fU
 | [],_,r=>by rw [iZ] at r;cases r;rfl
 | b::bs,_,r=>by rw [aw] at r;cases r with | cons r1 r2=>cases (show _=_ from r1);rw [m3 r2];rfl
theorem rZ {bs:List Bool} {i:Nat} (h:i<bs.length):bs.getD i false=bs[i]:=by simp [h]
theorem Bj (bs:List Bool):(bG bs.length).all (fun i=>bs.getD i false)=bs.all id:=by
 rw [cY,cB,cB]
 constructor
 ·intro h x hx
  obtain ⟨i,hi,e⟩:=wd.mp hx
  have:=h i (i9.mpr hi)
  rw [rZ hi,e] at this
  exact this
 ·intro h i hi
  have hi':=i9.mp hi
  rw [rZ hi']
  exact h _ (gy hi')
theorem Aj (bs:List Bool):(bG bs.length).any (fun i=>bs.getD i false)=bs.any id:=by
 rw [cY,gz,gz]
 constructor
 ·rintro ⟨i,hi,e⟩
  have hi':=i9.mp hi
  rw [rZ hi'] at e
  exact ⟨_,gy hi',e⟩
 ·rintro ⟨x,hx,e⟩
  obtain ⟨i,hi,e'⟩:=wd.mp hx
  exact ⟨i,i9.mpr hi,by rw [rZ hi,e'];exact e⟩
theorem Al (hc:X.calm=true):lq X (.builtin "all") (fun xs H Q=>∃ (p:ak) (ys:List V) (bs:List Bool),xs=[.ref p]/\SqL X.K H p ys/\ys=bs.map V.bl/\Q (.bl (bs.all id)) H):=by
 intro pins s σ H xs us Q I r h
 obtain ⟨p,ys,bs,rfl,hq,rfl,q⟩:=h
 obtain ⟨u,rfl,rx⟩:=lH r
 cases rx
 obtain ⟨its,rv,pl,hz⟩:=I.list hq
 have e:=m3 rv
 subst e
 have hh:X.A.in1.handled=none:=I.ok.hd hc
 have hlt:p<s.heap.objs.size:=let ⟨o,ho,_⟩:=pl.isList;aF ho
 refine call_all_walk (km pl.isList ?_)
 have W:=pY (prog:=X.prog) (w:=X.w) (A:=X.A.in1) hh s.heap.objs.size p (bu hlt) (bs.map fU).toArray
 refine ⟨s.heap.objs.size,_,_,_,_,_,fun i=>bs.getD i false,rfl,W,⟨⟨_,aH _ rfl,rfl,rfl⟩,pl.isList.at fun o e=>af _ e⟩,fun i v s' Q' E' hP hQ=>?_,fun h' tk hk=>?_⟩
 ·have e:(bs.map fU)[i]?=some v:=by simpa using hP
  rw [ay] at e
  cases q:bs[i]? with
  | none=>rw [q] at e;cases e
  | some b =>
    rw [q] at e
    cases e
    have:bs.getD i false=b:=by rw [aB,q];rfl
    have hQ:Q' (bs.getD i false) s':=hQ
    rw [this] at hQ
    exact eA hQ
 ·have e:(bG (bs.map fU).toArray.size).all (fun i=>bs.getD i false)=bs.all id:=by
   rw [aA,ab];exact Bj bs
  rw [e]
  refine ⟨.bl _,H,I.kept (h':=h') (t':=tk) fun b o eb=>hk b o (fun z=>?_) (af _ eb),rfl,q⟩
  have:b=s.heap.objs.size:=by simpa using z
  exact absurd (aF eb) (by rw [this];exact b8 _)
theorem AH (hc:X.calm=true):lq X (.builtin "any") (fun xs H Q=>∃ (p:ak) (ys:List V) (bs:List Bool),xs=[.ref p]/\SqL X.K H p ys/\ys=bs.map V.bl/\Q (.bl (bs.any id)) H):=by
 intro pins s σ H xs us Q I r h
 obtain ⟨p,ys,bs,rfl,hq,rfl,q⟩:=h
 obtain ⟨u,rfl,rx⟩:=lH r
 cases rx
 obtain ⟨its,rv,pl,hz⟩:=I.list hq
 have e:=m3 rv
 subst e
 have hh:X.A.in1.handled=none:=I.ok.hd hc
 have hlt:p<s.heap.objs.size:=let ⟨o,ho,_⟩:=pl.isList;aF ho
 refine call_any_walk (km pl.isList ?_)
 have W:=pY (prog:=X.prog) (w:=X.w) (A:=X.A.in1) hh s.heap.objs.size p (bu hlt) (bs.map fU).toArray
 refine ⟨s.heap.objs.size,_,_,_,_,_,fun i=>bs.getD i false,rfl,W,⟨⟨_,aH _ rfl,rfl,rfl⟩,pl.isList.at fun o e=>af _ e⟩,fun i v s' Q' E' hP hQ=>?_,fun h' tk hk=>?_⟩
 ·have e:(bs.map fU)[i]?=some v:=by simpa using hP
  rw [ay] at e
  cases q:bs[i]? with
  | none=>rw [q] at e;cases e
  | some b =>
    rw [q] at e
    cases e
    have:bs.getD i false=b:=by rw [aB,q];rfl
    have hQ:Q' (bs.getD i false) s':=hQ
    rw [this] at hQ
    exact eA hQ
 ·have e:(bG (bs.map fU).toArray.size).any (fun i=>bs.getD i false)=bs.any id:=by
   rw [aA,ab];exact Aj bs
  rw [e]
  refine ⟨.bl _,H,I.kept (h':=h') (t':=tk) fun b o eb=>hk b o (fun z=>?_) (af _ eb),rfl,q⟩
  have:b=s.heap.objs.size:=by simpa using z
  exact absurd (aF eb) (by rw [this];exact b8 _)
def GI:List Rv->Option Rv
 | [(_,.lst ds)]=>match nM ds with
   | some bs=>some (.pu,.bl (bs.all id))
   | none=>none
 | _=>none
def Fh:List Rv->Option Rv
 | [(_,.lst ds)]=>match nM ds with
   | some bs=>some (.pu,.bl (bs.any id))
   | none=>none
 | _=>none
theorem Gq {K:ac}:Cal K (fun xs H Q=>∃ (p:ak) (ys:List V) (bs:List Bool),xs=[.ref p]/\SqL K H p ys/\ys=bs.map V.bl/\Q (.bl (bs.all id)) H) GI:=by
 intro B H0 G H rs c xs Q sg ra e k
 unfold GI at e
 split at e
 ·split at e
  ·rename_i bs eb
   cases e
   obtain ⟨v,rfl,h⟩:=fJ.one ra
   obtain ⟨p,ys,rfl,q,d⟩:=h.lst sg
   rw [pd eb] at d
   exact ⟨p,ys,bs,rfl,q,pf d,k _ G H (Ext.refl sg) rfl⟩
  ·cases e
 ·cases e
theorem Fm {K:ac}:Cal K (fun xs H Q=>∃ (p:ak) (ys:List V) (bs:List Bool),xs=[.ref p]/\SqL K H p ys/\ys=bs.map V.bl/\Q (.bl (bs.any id)) H) Fh:=by
 intro B H0 G H rs c xs Q sg ra e k
 unfold Fh at e
 split at e
 ·split at e
  ·rename_i bs eb
   cases e
   obtain ⟨v,rfl,h⟩:=fJ.one ra
   obtain ⟨p,ys,rfl,q,d⟩:=h.lst sg
   rw [pd eb] at d
   exact ⟨p,ys,bs,rfl,q,pf d,k _ G H (Ext.refl sg) rfl⟩
  ·cases e
 ·cases e
theorem HH (hc:X.calm=true) (hg:Gl X "all") (hm:X.mg "all" = none) (ha:PXA X (e::es) g) (he:ao (e::es) X.env=(false,b9 e X.env)::ao es X.env:=by exact bS rfl) (hpl:(cz pos (ao es X.env)).any (·.1)=false:=by rfl):PX X (.Call (.Name "all" p) (e::es) [] pos) (xB GI g) :=
 FY (Al hc) Gq hg hm (by decide +kernel) ha (by decide) (by decide) he hpl
theorem Ia (hc:X.calm=true) (hg:Gl X "any") (hm:X.mg "any" = none) (ha:PXA X (e::es) g) (he:ao (e::es) X.env=(false,b9 e X.env)::ao es X.env:=by exact bS rfl) (hpl:(cz pos (ao es X.env)).any (·.1)=false:=by rfl):PX X (.Call (.Name "any" p) (e::es) [] pos) (xB Fh g) :=
 FY (AH hc) Fm hg hm (by decide +kernel) ha (by decide) (by decide) he hpl
def tXO (K:ac) (f:Rho->Option (Option Int)):TO:=fun σ H Q=>∃ B G ρ o,cQ G H/\cQ B H/\iC K B G H σ ρ/\f ρ=some o/\∀ G' H',Ext G H G' H'->Q o H'
abbrev PXO (X:Cx) (e:Option aP) (f:Rho->Option (Option Int)):Prop:=PO X e (tXO X.K f)
theorem PO.imp {X:Cx} {e:Option aP} {t t':TO} (h:PO X e t) (i:∀ σ H Q,t' σ H Q->t σ H Q):PO X e t':=fun pins s σ H Q I q=>h pins s σ H Q I (i σ H Q q)
def oT:Rho->Option (Option Int):=fun _=>some none
def oa (f:Rho->Option Rv):Rho->Option (Option Int):=fun ρ=>match f ρ with
 | some (_,.int i)=>some (some i)
 | _=>none
theorem DQ:PXO X none oT:=PO.imp Hh fun σ H Q ⟨B,G,ρ,o,sg,sb,st,e,k⟩=>by cases e;exact k G H (Ext.refl sg)
theorem CD (ha:PX X a fa):PXO X (some a) (oa fa):=PO.imp (Gv ha) fun σ H Q ⟨B,G,ρ,o,sg,sb,st,e,k⟩=>by
 unfold oa at e
 split at e
 ·rename_i kd i q
  cases e
  exact ⟨B,G,ρ,_,sg,sb,st,q,fun v G1 H1 E1 r1=>⟨i,r1.int,k G1 H1 E1⟩⟩
 ·cases e
def v3 (ds:List Da) (lo hi:Option Int):List Da:=(ds.drop (HT.sIx ds.length 0 lo)).take (HT.sIx ds.length ds.length hi-HT.sIx ds.length 0 lo)
theorem AE {K:ac} {G:Hp} {ds:List Da} {xs:List V} (h:cO K G ds xs) (lo hi:Option Int):cO K G (v3 ds lo hi) (Ew xs lo hi):=by
 unfold v3 Ew
 rw [h.length]
 exact (h.drop _).take _
theorem lI {prog:bA} {w:cb} {A:bK} {E:ae->ai->Prop} {s:ai} {t sl:ak} {items:Array ae} {vl vu:ae} {lo hi:Option Int} {Q:ae->ai->Prop} (ht:jG s.heap t items) (hs:s.heap.IsSliceOf sl vl vu .none) (pl:mM vl lo) (pu:mM vu hi)
 (hw:HT.sIx items.size 0 lo=0/\HT.sIx items.size items.size hi=items.size) (h:Q (.ref t) s):aM (be prog w) A (kn (.ref t) (.ref sl)) Q E s:=by
 obtain ⟨os,hos,hcs,hds⟩:=id hs
 have hTs:s.TypeIs (.ref sl) "slice":=⟨os,hos,hcs⟩
 unfold kn
 try with_reducible refine cP ?_
 first | refine aa (al ?_) | skip
 refine aa (wpAny_sequenceKey ht.typeIs (by decide) ?_)
 refine aa (h9 (name:=cG "__getitem__") ht.typeIs eI
  (fB eI ht.typeIs D5 ?_ (args_tuple_getitem _ _)))
 show aM _ _ (lT (.ref t)>>=_) _ _ s
 refine aa (tupleItemsOf_ ht ?_)
 refine aa (iy hTs ?_)
 rw [if_pos (by decide)]
 refine aa (HT.sliceApplied_gen hs pl pu ?_)
 have hyes:(((HT.sIx items.size 0 lo:Nat):Int) == 0&&(1:Int) == 1&&(HT.sIx items.size items.size hi-HT.sIx items.size 0 lo) == items.size)=true:=by
  rw [hw.1,hw.2];simp
 show aM _ _ (if (((HT.sIx items.size 0 lo:Nat):Int) == 0&&(1:Int) == 1&&(HT.sIx items.size items.size hi-HT.sIx items.size 0 lo) == items.size)=true then _ else _) _ _ s
 rw [if_pos hyes]
 refine aa (m:=Builtin.Tuple.tupleIsExact _) (aa (iy ht.typeIs (al ?_)))
 rw [if_pos (by decide)]
 exact aa (uW (al ⟨_,rfl,al h⟩))
def LG (K:ac):V->Option Int->Option Int->Hp->VK->Prop:=fun x lo hi H Q=>∃ a xs,x=.ref a/\SqT K H a xs/\(HT.sIx xs.length 0 lo=0/\HT.sIx xs.length xs.length hi=xs.length)/\Q (.ref a) H
theorem GR:SlR X (LG X.K):=by
 intro pins s σ H x v vl vu lo hi sl Q I rx hs pl pu h
 obtain ⟨a,xs,rfl,hx,hw,q⟩:=h
 cases rx
 obtain ⟨its,r,ht,hz⟩:=I.tuple hx
 have hlen:its.toArray.size=xs.length:=by rw [aA];exact r.length.symm
 refine ⟨"tuple",_,PyProof.Rows.slot_tuple_getitem.lookup,ht.typeIs,?_⟩
 exact lI ht hs pl pu (by rw [hlen];exact hw) ⟨.ref a,H,I,rfl,q⟩
theorem AR {ds:List Da} {lo hi:Option Int} (h:HT.sIx ds.length 0 lo=0/\HT.sIx ds.length ds.length hi=ds.length):v3 ds lo hi=ds:=by
 unfold v3
 rw [h.1,h.2,jb,uX,BJ]
def slD (lo hi:Option Int):Da->Option Rv
 | .tup ds=>some (.pu,.tup (v3 ds lo hi))
 | .lst ds=>some (.fr,.lst (v3 ds lo hi))
 | _=>none
def j6 (fa:Rho->Option Rv) (fl fh:Rho->Option (Option Int)):Rho->Option Rv:=fun ρ=>match fa ρ,fl ρ,fh ρ with
 | some r,some l,some h=>slD l h r.2
 | _,_,_=>none
theorem DS {lo hi:Option aP} {fl fh:Rho->Option (Option Int)} (ha:PX X a fa) (hl:PXO X lo fl) (hh:PXO X hi fh):PX X (.Subscript a (.Slice lo hi none p2) pos) (j6 fa fl fh) :=
 PE.imp (CL ((Kb.or GR).or Fo) ha hl hh) fun σ H Q ⟨B,G,ρ,r,sg,sb,st,eq,k⟩=>by
  unfold j6 at eq
  split at eq
  ·rename_i ra l h ea el eh
   refine ⟨B,G,ρ,ra,sg,sb,st,ea,fun v G1 H1 E1 r1=>⟨B,G1,ρ,l,E1.gh,sb.trans E1.hh,st.ext E1,el,fun G2 H2 E2=>⟨B,G2,ρ,h,E2.gh,(sb.trans E1.hh).trans E2.hh,(st.ext E1).ext E2,eh,fun G3 H3 E3=>?_⟩⟩⟩
   have E:=(E1.trans E2).trans E3
   have r3:=(r1.ext E2).ext E3
   obtain ⟨kd,d⟩:=ra
   cases d with
   | tup ds =>
     cases eq
     obtain ⟨t,xs,rfl,q,dl,qg⟩:=r3.tup E3.gh
     have hlen:=dl.length
     by_cases hw:HT.sIx ds.length 0 l=0/\HT.sIx ds.length ds.length h=ds.length
     ·refine .inl (.inr ⟨t,xs,rfl,SqT.of q,by rw [hlen];exact hw,k _ _ _ E ?_⟩)
      rw [AR hw]
      exact ⟨t,xs,rfl,qg,dl⟩
     ·refine .inl (.inl ⟨t,xs,rfl,SqT.of q,by rw [hlen];exact hw,fun p hp=>k _ _ _ (E.trans (Ext.new E3.gh hp)) ⟨p,_,rfl,aV,cO.mono (cw (E3.gh.free hp)) _ (AE dl l h)⟩⟩)
   | lst ds =>
     cases eq
     obtain ⟨t,xs,rfl,q,dl⟩:=r3.lst E3.gh
     exact .inr ⟨t,xs,rfl,q,fun p hp=>k _ _ _ (E.trans (Ext.own E3.gh hp)) ⟨p,_,rfl,E.hh.free hp,E3.gh.free hp,aV,_,rfl,AE dl l h⟩⟩
   | _=>cases eq
  ·cases eq
end
def gS (h:cr) (d:ak) (es:Array lj) (ep:Nat):Prop:=∃ o,h.get? d=some o/\o.ExactDict/\o.data=.dict es ep
section
variable {prog:bA} {w:cb} {A:bK} {E:ae->ai->Prop} {s:ai} {d it:ak} {es:Array lj} {ep i:Nat}
theorem gS.ty (h:gS s.heap d es ep):s.TypeIs (.ref d) "dict":=let ⟨o,ho,hx,_⟩:=h;⟨o,ho,hx.1⟩
theorem gS.at {h h':cr} (x:gS h d es ep) (k:∀ o,h.get? d=some o->h'.get? d=some o):gS h' d es ep:=let ⟨o,ho,r⟩:=x;⟨o,k o ho,r⟩
theorem zr {Q:ae->ai->Prop} (lo:(d == dh)=false) (hm:gS s.heap d es ep)
 (hQ:Q (.ref s.heap.objs.size) { s with heap:=s.heap.push { cls:=.type "dict_keyiterator",data:=.fields #[.ref d,.int 0 0,.int es.size 0,.int ep 0] } }):aM (be prog w) A (pyIter (.ref d)) Q E s:=by
 obtain ⟨o,ho,hx,hdat⟩:=id hm
 have T:=hm.ty
 refine wpAny_pyIter_slot T F.slot_dict_iter (fB F.slot_dict_iter T F.entry_dict_iter ?_ (F.args_dict_iter_1 _));unfold Builtin.«dict.__iter__»
 refine aa ?_;unfold Builtin.Dict.dictSlotNone
 refine aa (BK T ?_);show aM _ _ (pure (bN d)) _ _ s
 refine al ?_;show aM _ _ (ox d>>=_) _ _ s;unfold ox
 rw [if_neg (fun z=>aO (lo▸z))]
 refine aa (al (aa (pZ ho hdat (aa (sS ho hdat ?_)))))
 refine aa (cy (al ⟨_,rfl,"dict_keyiterator",_,⟨_,aH _ rfl,rfl⟩,F.slot_dict_keyiterator_next.lookup,?_⟩))
 simpa [jI] using hQ
theorem Av {Q:Option ae->ai->Prop} (hit:s.heap.IsKeyIter it d i es.size ep) (hm:gS s.heap d es ep) (hlt:i<es.size)
 (hQ:∀ h',h'.IsKeyIter it d (i+1) es.size ep->kj it s.heap h'->Q (some es[i].key) { s with heap:=h' }):aM (be prog w) A (kq (.ref it)) Q E s:=by
 obtain ⟨⟨o,ho,hc,hd⟩,od,hod,hx,hdd⟩:=And.intro (id hit) (id hm)
 unfold kq;refine aa (xL (h9 (name:=cG "__next__") hit.typeIs F.slot_dict_keyiterator_next (fB F.slot_dict_keyiterator_next hit.typeIs F.entry_dict_keyiterator_next ?_ (F.args_dict_keyiterator_next_1 _))))
 refine aa (al (aa (aa ?_)));first | refine aa (fL hit.typeIs (al ?_)) | refine aa (g5 hit.typeIs (al ?_))
 refine aa (wpAny_fieldsOf ho hd ?_);simp only [show ko "dict_keyiterator" = false by decide,eG,if_false]
 show aM _ _ (if (bN d == bC)=true then _ else _) _ _ s;rw [if_neg (show ¬ ((bN d == bC)=true) from fun z=>aO z)]
 refine aa (al (aa (pZ hod hdd ?_)));rw [if_neg (by simp)]
 refine aa (al (aa (sS hod hdd ?_)));rw [if_neg (by simp)]
 refine al ?_
 simp only [show ¬ ((i:Int)<0) by lia,if_false,g9,gA hlt]
 refine aa ?_;first | refine aa (fL hit.typeIs (al ?_)) | refine aa (g5 hit.typeIs (al ?_))
 refine aa (BL hit.typeIs ?_);show aM _ _ (setField (.ref it) 1 (jI ((i:Int)+1))>>=_) _ _ s;refine aa (wpAny_setField ho hd (by simp) ?_)
 have nx:(s.heap.update it (Obj.mapFields (·.setIfInBounds 1 (jI ((i:Int)+1))))).IsKeyIter it d (i+1) es.size ep:=⟨_,kN _ ho (Obj.isFreed_of_fields (yX hd _)),(Obj.cls_mapFields ..).trans hc,by rw [yX hd];simp [jI]⟩
 refine aa (cP ?_);refine aa (BL (s:={ s with heap:=s.heap.update it (Obj.mapFields (·.setIfInBounds 1 (jI ((i:Int)+1)))) }) nx.typeIs ?_);show aM _ _ (pure es[i].key) _ _ _
 exact al (al ⟨_,rfl,al (hQ _ nx (eO ..))⟩)
theorem Cm {Q:Option ae->ai->Prop} (hh:A.handled=none) (hit:s.heap.IsKeyIter it d i es.size ep) (hm:gS s.heap d es ep) (hge:es.size<=i)
 (hQ:∀ h',Heap.ExtBut it s.heap h'->Q none { s with heap:=h' }):aM (be prog w) A (kq (.ref it)) Q E s:=by
 obtain ⟨⟨o,ho,hc,hd⟩,od,hod,hx,hdd⟩:=And.intro (id hit) (id hm)
 unfold kq;refine aa (xL (h9 (name:=cG "__next__") hit.typeIs F.slot_dict_keyiterator_next (fB F.slot_dict_keyiterator_next hit.typeIs F.entry_dict_keyiterator_next ?_ (F.args_dict_keyiterator_next_1 _))))
 refine aa (al (aa (aa ?_)));first | refine aa (fL hit.typeIs (al ?_)) | refine aa (g5 hit.typeIs (al ?_))
 refine aa (wpAny_fieldsOf ho hd ?_);simp only [show ko "dict_keyiterator" = false by decide,eG,if_false]
 show aM _ _ (if (bN d == bC)=true then _ else _) _ _ s;rw [if_neg (show ¬ ((bN d == bC)=true) from fun z=>aO z)]
 refine aa (al (aa (pZ hod hdd ?_)));rw [if_neg (by simp)]
 refine aa (al (aa (sS hod hdd ?_)));rw [if_neg (by simp)]
 refine al ?_
 simp only [show ¬ ((i:Int)<0) by lia,if_false,g9,sT hge]
 refine aa ?_;first | refine aa (fL hit.typeIs (al ?_)) | refine aa (g5 hit.typeIs (al ?_))
 show aM _ _ (setField (.ref it) 0 .none>>=_) _ _ s;refine aa (wpAny_setField ho hd (by simp) ?_);show aM _ _ (newExc (.type "StopIteration") []>>=_) _ _ _
 refine aa ?_;simp only [newExc,newTuple];refine aa (cy ?_ (by size_fits))
 refine aa (m:=firstArgMember _ _) (B6 (a:=bC) (by first | rfl | (simp only [firstArgMember];rfl)) (cy ?_ (by size_fits)));simp only [raiseNew]
 refine aa (wpAny_handled ?_);rw [show A.in1.handled=none from hh];refine aa (al (wpAny_throw ?_))
 refine aa (wpAny_isInstance (T:="StopIteration") (b:=true) ⟨_,aH _ rfl,rfl⟩ isSubtype_stop (al (hQ _ (((eO ..).extBut.push _).push _))))
theorem AX (hh:A.handled=none) (hne:d≠it):Walks prog w A it [it,d] [it] es.size (fun i v=>∃ h:i<es.size,v=es[i].key) (fun i h=>h.IsKeyIter it d i es.size ep/\gS h d es ep) where
 sub:=fun b hb=>by simp at hb;simp [hb]
 frame:=fun i h h' st k=>⟨let ⟨o,ho,r⟩:=st.1;⟨o,k it (by simp) o ho,r⟩,st.2.at fun o e=>k d (by simp) o e⟩
 item:=fun i s Q E hi st hQ=>Av st.1 st.2 hi fun h' nx sb=>hQ _ h' s.toks ⟨hi,rfl⟩ ⟨nx,st.2.at fun o e=>(sb.2 d hne).trans e⟩ fun b o hb e=>sb.extBut b o (fun z=>hb (by simp [z])) e
 done:=fun s Q E st hQ=>Cm hh st.1 st.2 (ax _) fun h' eb=>hQ h' s.toks fun b o hb e=>eb b o (fun z=>hb (by simp [z])) e
 self:=fun i s Q E st hQ=>by
  obtain ⟨o,ho,hc,hd⟩:=st.1
  refine wpAny_pyIter_slot ⟨o,ho,hc⟩ F.slot_dict_keyiterator_iter (fB F.slot_dict_keyiterator_iter ⟨o,ho,hc⟩ F.entry_dict_keyiterator_iter ?_ (F.args_dict_keyiterator_iter_1 _))
  show aM _ _ (ret (.ref it)) _ _ s
  exact al ⟨_,rfl,"dict_keyiterator",_,⟨o,ho,hc⟩,F.slot_dict_keyiterator_next.lookup,hQ⟩
theorem DP (lo:(d == dh)=false):PySem.W.KdlSrc prog w "dict" d d es.size (fun i v=>∃ h:i<es.size,v=es[i].key) (fun h=>gS h d es ep) where
 type:=fun s hm=>hm.ty
 there:=fun h hm=>let ⟨o,ho,_⟩:=hm;⟨aF ho,aF ho⟩
 keep:=fun h h' hm k=>hm.at fun o e=>k d (.inl rfl) o e
 notList:=by decide
 notTuple:=by decide
 hint:=fun A E s Q hm hq=>PySem.W.kdl_hint_dict hm.ty hq
 iter:=fun A s hh hm=>⟨_,_,fun E Q hq=>zr lo hm hq,AX hh (let ⟨o,ho,_⟩:=hm;bu (aF ho)),⟨_,aH _ rfl,rfl,rfl⟩,hm.at fun o e=>af _ e⟩
end
section
variable (O:fC)
def Cg (a:O.α):List O.α->List O.α
 | []=>[a]
 | b::r=>if O.blt b a=true then b::Cg a r else a::b::r
def HE:List O.α->List O.α
 | []=>[]
 | a::r=>Cg O a (HE r)
variable {O}
theorem pG (a:O.α):∀ l:List O.α,(Cg O a l).Perm (a::l)
 | []=>.refl _
 | b::r=>by
   unfold Cg
   split
   ·exact ((pG a r).cons b).trans (.swap ..)
   ·exact .refl _
theorem uo:∀ l:List O.α,(HE O l).Perm l
 | []=>.refl _
 | a::r=>(pG a _).trans ((uo r).cons a)
theorem oP (a:O.α):∀ {l:List O.α},l.Pairwise O.kle->(Cg O a l).Pairwise O.kle
 | [],_=>by unfold Cg;exact aS _ _
 | b::r,h=>by
   obtain ⟨h1,h2⟩:=bF.mp h
   unfold Cg
   split
   ·rename_i hb
    refine bF.mpr ⟨fun x hx=>?_,oP a h2⟩
    rcases am.mp ((pG a r).mem_iff.mp hx) with e | e
    ·subst e;exact gY hb
    ·exact h1 x e
   ·rename_i hb
    have hab:O.kle a b:=by unfold KeyOrd.kle;simpa using hb
    refine bF.mpr ⟨fun x hx=>?_,h⟩
    rcases am.mp hx with e | e
    ·subst e;exact hab
    ·exact ia hab (h1 x e)
theorem pD:∀ l:List O.α,(HE O l).Pairwise O.kle
 | []=>.nil
 | a::r=>oP a (pD r)
theorem gc:∀ {l m:List O.α},l.Perm m->l.Pairwise O.kle->m.Pairwise O.kle->l=m
 | [],m,h,_,_=>(List.nil_perm.mp h).symm
 | a::l,[],h,_,_=>absurd (h.length_eq) (by simp)
 | a::l,b::m,h,h1,h2=>by
   obtain ⟨a1,a2⟩:=bF.mp h1
   obtain ⟨b1,b2⟩:=bF.mp h2
   have e:a=b:=by
    rcases am.mp (h.mem_iff.mp (ah)) with e | e
    ·exact e
    ·rcases am.mp (h.mem_iff.mpr (ah (a:=b) (l:=m))) with e' | e'
     ·exact e'.symm
     ·exact lr (a1 b e') (b1 a e)
   subst e
   rw [gc (sU h) a2 b2]
end
def yO:fC where
 α:=Int
 blt a b:=decide (a<b)
 irrefl a:=by simp
 trans a b c h1 h2:=by simp at *;lia
 negTrans a b c h:=by simp at *;lia
 total a b h1 h2:=by simp at *;lia
section
open HT
theorem lb:∀ xs:List Int,lexLt xs xs=false
 | []=>rfl
 | x::xs=>by rw [lexLt_cons,if_pos rfl];exact lb xs
theorem oA:∀ xs ys zs:List Int,lexLt xs ys=true->lexLt ys zs=true->lexLt xs zs=true
 | [],[],_,h,_=>by cases h
 | [],_::_,[],_,h=>by cases h
 | [],_::_,_::_,_,_=>rfl
 | _::_,[],_,h,_=>by cases h
 | _::_,_::_,[],_,h=>by cases h
 | x::xs,y::ys,z::zs,h1,h2=>by
   rw [lexLt_cons] at *
   by_cases e1:x=y<;>by_cases e2:y=z
   ·subst e1;subst e2;rw [if_pos rfl] at *;exact oA xs ys zs h1 h2
   ·subst e1;rw [if_neg e2] at *;exact h2
   ·subst e2;rw [if_neg e1] at *;exact h1
   ·rw [if_neg e1] at h1;rw [if_neg e2] at h2
    have a1:=of_decide_eq_true h1
    have a2:=of_decide_eq_true h2
    rw [if_neg (by lia)]
    exact decide_eq_true (by lia)
theorem zc:∀ xs ys zs:List Int,lexLt xs zs=true->lexLt xs ys=true\/lexLt ys zs=true
 | [],_,[],h=>by cases h
 | [],[],_::_,h=>.inr h
 | [],_::_,_::_,_=>.inl rfl
 | _::_,_,[],h=>by cases h
 | _::_,[],_::_,_=>.inr rfl
 | x::xs,y::ys,z::zs,h=>by
   rw [lexLt_cons] at h
   rw [lexLt_cons,lexLt_cons]
   by_cases e1:x=y<;>by_cases e2:y=z
   ·subst e1;subst e2;rw [if_pos rfl] at *;rw [if_pos rfl];exact zc xs ys zs h
   ·subst e1;rw [if_neg e2] at *;exact .inr h
   ·subst e2;rw [if_neg e1] at *;exact .inl h
   ·rw [if_neg e1,if_neg e2]
    by_cases e3:x=z
    ·subst e3
     by_cases hxy:x<y
     ·exact .inl (decide_eq_true hxy)
     ·exact .inr (decide_eq_true (by lia))
    ·rw [if_neg e3] at h
     have a1:=of_decide_eq_true h
     by_cases hxy:x<y
     ·exact .inl (decide_eq_true hxy)
     ·exact .inr (decide_eq_true (by lia))
theorem pc:∀ xs ys:List Int,lexLt xs ys=false->lexLt ys xs=false->xs=ys
 | [],[],_,_=>rfl
 | [],_::_,h,_=>by cases h
 | _::_,[],_,h=>by cases h
 | x::xs,y::ys,h1,h2=>by
   rw [lexLt_cons] at *
   by_cases e:x=y
   ·subst e;rw [if_pos rfl] at *;rw [pc xs ys h1 h2]
   ·rw [if_neg e] at h1;rw [if_neg (fun z=>e z.symm)] at h2
    have a1:=of_decide_eq_false h1
    have a2:=of_decide_eq_false h2
    lia
end
def vF:fC:=⟨List Int,HT.lexLt,lb,oA,zc,pc⟩
section
variable {O:fC}
theorem qe {α:Type} {p:Array Nat} {n:Nat} (h:gf n p) {l:List α} (hl:l.length=n) (d:α):(p.toList.map fun i=>l.getD i d).Perm l:=by
 have h1:p.toList.Perm (bG n):=by simpa using cL.mp h.perm
 refine (h1.map _).trans ?_
 have:(bG n).map (fun i=>l.getD i d)=l:=by
  apply jX
  ·simp [hl]
  ·intro i h1 h2;simp [h2]
 rw [this]
theorem lK {p:Array Nat} {n:Nat} (h:gf n p) {ks:List O.α} (d:O.α) (u:rj O (fun i=>ks.getD i d) p n):(p.toList.map fun i=>ks.getD i d).Pairwise O.kle:=by
 rw [eS]
 intro i j hi hj hij
 have hs:p.toList.length=n:=by rw [bP];exact h.size
 rw [ab] at hi hj
 have:=u i j (i6 hij) (by lia)
 have e:∀ k,(hk:k<p.toList.length)->KN O (fun i=>ks.getD i d) p k=ks.getD (p.toList[k]) d:=fun k hk=>by
  have hk':k<p.size:=by simpa using hk
  show ks.getD (p.getD k 0) d=_
  congr 1
  simp [Array.getD,hk']
 rw [e i hi,e j hj] at this
 rw [BM,BM]
 exact this
theorem lF {p:Array Nat} {ks:List O.α} (d:O.α) (h:gf ks.length p) (u:rj O (fun i=>ks.getD i d) p ks.length):(p.toList.map fun i=>ks.getD i d)=HE O ks :=
 gc ((qe h rfl d).trans (uo ks).symm) (lK h d u) (pD ks)
end
section
variable {prog:bA} {w:cb} {A:bK} {E:ae->ai->Prop} {s:ai} {O:fC} {κ:iz} {key:Nat->O.α} {vs:List ae} {a:ak} {n:Nat}
def nr (a:ak) (h h':cr):Prop:=∀ b o,b≠a->h.get? b=some o->h'.get? b=some o
theorem DV {P:PySem.Fin->ai->Prop} (ho:s.heap.get? a=some (bY "list" vs.toArray n)) (h64:vs.length<64\/(vs.length<=63/\∀ i j,i<vs.length->j<vs.length->key i=key j->i=j))
 (kind:∀ h',nr a s.heap h'->2<=vs.length->∀ Q:iz->ai->Prop,Q κ { s with heap:=h' }->aM (be prog w) A (B7 vs.toArray) Q (fun _ _=>False) { s with heap:=h' })
 (lt:∀ h',nr a s.heap h'->∀ i j (C:Bool->ai->Prop),i<vs.length->j<vs.length->C (O.blt (key i) (key j)) { s with heap:=h' }->iA prog w A κ vs i j C { s with heap:=h' })
 (h:∀ p h' c,gf vs.length p->rj O key p vs.length->nr a s.heap h'->h'.get? a=some (bY "list" (p.toList.map fun i=>vs.getD i bC).toArray c)->P (.done (.ret .none)) { s with heap:=h' }) :
 aM (be prog w) A (Builtin.«list.sort» ⟨[.ref a],[]⟩) P E s:=by
 have ha:a<s.heap.objs.size:=aF ho
 have sz:aL=16777216:=bE
 have h127:vs.length<=63:=by rcases h64 with h | h<;>lia
 rw [list_sort_plain]
 refine aa (jo ho rfl (aa (gm ho rfl ?_ (by rw [aA];lia) (bW _))))
 obtain ⟨e1,ho1⟩:∃ e1,(s.heap.update a (bV fun _=>(#[]:Array ae))).get? a=some (bY "list" #[] e1):=⟨_,fX ho fun _=>#[]⟩
 refine aa (mN ho1 rfl (aa (wpAny_newTuple (aa (kt (cP ?_) (bW _))) (by show vs.length<=_;lia))))
 show aM (be prog w) A _ P E { s with heap:=(((s.heap.update a (bV fun _=>(#[]:Array ae))).push (bY "tuple" vs.toArray 0)).push (bY "list" #[] 0)) }
 generalize hg:(((s.heap.update a (bV fun _=>(#[]:Array ae))).push (bY "tuple" vs.toArray 0)).push (bY "list" #[] 0))=g
 have hga:g.get? a=some (bY "list" #[] e1):=by rw [<- hg];exact af _ (af _ ho1)
 have hgk:nr a s.heap g:=fun b o hb e=>by rw [<- hg];exact af _ (af _ ((cN _ _ (Ne.symm hb)).trans e))
 dsimp only
 have fin:∀ (out:Array ae) (p:Array Nat),out=(p.toList.map fun i=>vs.getD i bC).toArray->gf vs.length p->rj O key p vs.length->P (.done (.ret .none)) { s with heap:=g.update a (bV fun _=>out) }:=fun out p eo hp hu=>by
  subst eo
  refine h p _ _ hp hu (fun b o hb e=>(cN _ _ (Ne.symm hb)).trans (hgk b o hb e)) (fX hga fun _=>_)
 by_cases h2:vs.toArray.size<2
 ·rw [if_pos h2,if_pos h2]
  refine aa (al ?_)
  rw [yY]
  refine aa (al ?_)
  dsimp only
  have es:(B3 (pN general' (vs.toArray.zip vs.toArray) #[] 7 none)).map (·.2)=vs.toArray:=by
   show (vs.toArray.zip vs.toArray).map (·.2)=_
   have e:g6 (fun x=>x.snd) (vs.zip vs)=vs:=BN (ax _)
   simp [e]
  rw [es]
  refine aa (mN hga rfl (aa (gm hga rfl ?_ (bW _) (by rw [aA];lia))))
  simp only [bne_self_eq_false,eG,if_false]
  refine al (fin _ (bG vs.length).toArray ?_ ⟨.refl _⟩ fun i j hij hj=>?_)
  ·congr 1
   apply jX
   ·simp
   ·intro i h1 h2;simp [h1]
  ·rw [aA] at h2
   have:i=j:=by lia
   subst this
   exact dR _
 ·rw [if_neg h2,if_neg h2]
  rw [aA] at h2
  refine aa (dz (kind g hgk (by lia) _ ?_) (fun _ _ x=>x) fun _ _ x=>x.elim)
  refine aa (dz (w8 (O:=O) (key:=key) (ks:=vs) (vs:=vs) rfl (by lia) h64 (fun i j C hi hj hc=>lt g hgk i j C hi hj hc)) ?_ fun _ _ e=>e)
  rintro ⟨⟨⟩,st'⟩ s' ⟨rfl,p,har,hf,hp,hu⟩
  dsimp only
  have hout:=xM rfl har
  rw [hout]
  refine aa (mN hga rfl (aa (gm hga rfl ?_ (bW _) ?_)))
  ·rw [hf]
   simp only [bne_self_eq_false,eG,if_false]
   exact al (fin _ p rfl hp hu)
  ·rw [aA,ab,bP,hp.size];lia
def gP (prog:bA) (w:cb) (A:bK) (s:ai) (x:ae) (vs:List ae):Prop :=
 ∀ (E:ae->ai->Prop) (R:List ae->ai->Prop),(∀ h' tk,(∀ b o,s.heap.get? b=some o->h'.get? b=some o)->R vs { s with heap:=h',toks:=tk })->aM (be prog w) A (uM x) R E s
theorem nq {x:ae} {Q:ae->ai->Prop} (col:gP prog w A.in1 s x vs) (h64:vs.length<64\/(vs.length<=63/\∀ i j,i<vs.length->j<vs.length->key i=key j->i=j))
 (kind:∀ h' tk,(∀ b o,s.heap.get? b=some o->h'.get? b=some o)->2<=vs.length->∀ Q:iz->ai->Prop,Q κ { s with heap:=h',toks:=tk }->aM (be prog w) A.in1.in1 (B7 vs.toArray) Q (fun _ _=>False) { s with heap:=h',toks:=tk })
 (lt:∀ h' tk,(∀ b o,s.heap.get? b=some o->h'.get? b=some o)->∀ i j (C:Bool->ai->Prop),i<vs.length->j<vs.length->C (O.blt (key i) (key j)) { s with heap:=h',toks:=tk }->iA prog w A.in1.in1 κ vs i j C { s with heap:=h',toks:=tk })
 (h:∀ (p:Array Nat) (h1 h':cr) (tk:Nat) (c:Nat),gf vs.length p->rj O key p vs.length->(∀ b o,s.heap.get? b=some o->h1.get? b=some o)->(∀ b o,h1.get? b=some o->h'.get? b=some o)->h'.get? h1.objs.size=some (bY "list" (p.toList.map fun i=>vs.getD i bC).toArray c)->Q (.ref h1.objs.size) { s with heap:=h',toks:=tk }) :
 aM (be prog w) A (call (.builtin "sorted") [x]) Q E s:=by
 have sz:aL=16777216:=bE
 have h127:vs.length<=63:=by rcases h64 with h | h<;>lia
 refine Calls.call_function_entry kind_sorted plain_sorted entry_sorted (args_sorted1 _) ?_
 unfold Builtin.«sorted»
 refine aa (m:=checkCount "sorted" 1 1 _) (al (aa (col _ _ fun h1 tk k1=>?_)))
 refine aa (kt ?_ (by lia))
 have hoD:(h1.push (bY "list" vs.toArray 0)).get? h1.objs.size=some (bY "list" vs.toArray 0):=aH _ rfl
 have kp1:∀ h',nr h1.objs.size (h1.push (bY "list" vs.toArray 0)) h'->∀ b o,h1.get? b=some o->h'.get? b=some o:=fun h' k b o e =>
  k b o (bu (aF e)) (af _ e)
 have kp:∀ h',nr h1.objs.size (h1.push (bY "list" vs.toArray 0)) h'->∀ b o,s.heap.get? b=some o->h'.get? b=some o:=fun h' k b o e=>kp1 h' k b o (k1 b o e)
 show aM _ _ _ _ _ { s with heap:=h1.push (bY "list" vs.toArray 0),toks:=tk }
 refine aa (cP (fB slot_list_sort ⟨_,hoD,rfl⟩ entry_list_sort ?body (args_list_sort _)))
 case body =>
  refine DV (s:={ s with heap:=h1.push (bY "list" vs.toArray 0),toks:=tk }) (O:=O) (key:=key) (κ:=κ) hoD h64 (fun h' k h2 Q' q=>kind h' tk (kp h' k) h2 Q' q) (fun h' k i j C hi hj c=>lt h' tk (kp h' k) i j C hi hj c) fun p h' c hp hu k e=>?_
  exact ⟨_,rfl,al ⟨_,rfl,h p h1 h' tk c hp hu k1 (kp1 h' k) e⟩⟩
end
end Ry
namespace Ms
structure Lin {α:Type} (lt:α->α->Bool):Prop where
 irr:∀ a,lt a a=false
 tr:∀ a b c,lt a b=true->lt b c=true->lt a c=true
 tot:∀ a b,lt a b=false->lt b a=false->a=b
section
variable {α:Type} (lt:α->α->Bool)
def ins (a:α):List α->List α
 | []=>[a]
 | b::r=>if lt b a=true then b::ins a r else a::b::r
def srt:List α->List α
 | []=>[]
 | a::r=>ins lt a (srt r)
variable {lt}
def Le (lt:α->α->Bool) (a b:α):Prop:=lt b a=false
theorem Lin.asym (h:Lin lt) {a b:α} (q:lt a b=true):lt b a=false:=by
 cases e:lt b a with
 | false=>rfl
 | true=>have:=h.tr _ _ _ q e;rw [h.irr] at this;cases this
theorem Lin.letr (h:Lin lt) {a b c:α} (p:Le lt a b) (q:Le lt b c):Le lt a c:=by
 unfold Le at *
 cases e:lt c a with
 | false=>rfl
 | true =>
   cases e2:lt a b with
   | true=>have:=h.tr _ _ _ e e2;rw [q] at this;cases this
   | false=>have:=h.tot _ _ e2 p;subst this;rw [q] at e;cases e
theorem Lin.ofLt (h:Lin lt) {a b:α} (q:lt a b=true):Le lt a b:=h.asym q
theorem ss (a:α):∀ l:List α,(ins lt a l).Perm (a::l)
 | []=>.refl _
 | b::r=>by
   unfold ins
   split
   ·exact ((ss a r).cons b).trans (.swap ..)
   ·exact .refl _
theorem srt_perm:∀ l:List α,(srt lt l).Perm l
 | []=>.refl _
 | a::r=>(ss a _).trans ((srt_perm r).cons a)
theorem qF (h:Lin lt) (a:α):∀ {l:List α},l.Pairwise (Le lt)->(ins lt a l).Pairwise (Le lt)
 | [],_=>by unfold ins;exact aS _ _
 | b::r,q=>by
   obtain ⟨h1,h2⟩:=bF.mp q
   unfold ins
   split
   ·rename_i hb
    refine bF.mpr ⟨fun x hx=>?_,qF h a h2⟩
    rcases am.mp ((ss a r).mem_iff.mp hx) with e | e
    ·subst e;exact h.ofLt hb
    ·exact h1 x e
   ·rename_i hb
    have hab:Le lt a b:=by unfold Le;simpa using hb
    refine bF.mpr ⟨fun x hx=>?_,q⟩
    rcases am.mp hx with e | e
    ·subst e;exact hab
    ·exact h.letr hab (h1 x e)
theorem qR (h:Lin lt):∀ l:List α,(srt lt l).Pairwise (Le lt)
 | []=>.nil
 | a::r=>qF h a (qR h r)
theorem gc (h:Lin lt):∀ {l m:List α},l.Perm m->l.Pairwise (Le lt)->m.Pairwise (Le lt)->l=m
 | [],m,p,_,_=>(List.nil_perm.mp p).symm
 | a::l,[],p,_,_=>absurd (p.length_eq) (by simp)
 | a::l,b::m,p,h1,h2=>by
   obtain ⟨a1,a2⟩:=bF.mp h1
   obtain ⟨b1,b2⟩:=bF.mp h2
   have e:a=b:=by
    rcases am.mp (p.mem_iff.mp (ah)) with e | e
    ·exact e
    ·rcases am.mp (p.mem_iff.mpr (ah (a:=b) (l:=m))) with e' | e'
     ·exact e'.symm
     ·exact h.tot _ _ (b1 a e) (a1 b e')
   subst e
   rw [gc h (sU p) a2 b2]
theorem srt_strict (h:Lin lt) {l:List α} (q:l.Nodup):(srt lt l).Pairwise fun a b=>lt a b=true:=by
 have nd:(srt lt l).Nodup:=(srt_perm l).nodup_iff.mpr q
 have hs:=qR h l
 have both:=hs.and nd
 refine both.imp fun {a b} z=>?_
 cases e:lt a b with
 | true=>rfl
 | false=>exact absurd (h.tot _ _ e z.1) z.2
theorem strict_ext (h:Lin lt) {l m:List α} (p:l.Pairwise fun a b=>lt a b=true) (q:m.Pairwise fun a b=>lt a b=true) (e:∀ x,x∈l↔x∈m):l=m:=by
 have ndl:l.Nodup:=p.imp fun {a b} z w=>by subst w;rw [h.irr] at z;cases z
 have ndm:m.Nodup:=q.imp fun {a b} z w=>by subst w;rw [h.irr] at z;cases z
 exact gc h ((gn ndl ndm).mpr e) (p.imp fun z=>h.ofLt z) (q.imp fun z=>h.ofLt z)
theorem srt_map {β:Type} {lt':β->β->Bool} {f:α->β} (e:∀ a b,lt' (f a) (f b)=lt a b):∀ l:List α,srt lt' (l.map f)=(srt lt l).map f
 | []=>rfl
 | a::r=>by
   have hi:∀ l:List α,ins lt' (f a) (l.map f)=(ins lt a l).map f:=fun l=>by
    induction l with
    | nil=>rfl
    | cons b r ih =>
      show (if lt' (f b) (f a)=true then _ else _)=g6 f (if lt b a=true then _ else _)
      rw [e]
      split
      ·rw [aw,<- ih]
      ·rfl
   show ins lt' (f a) (srt lt' (r.map f))=(ins lt a (srt lt r)).map f
   rw [srt_map e r,hi]
end
def ltI (a b:Int):Bool:=decide (a<b)
theorem linI:Lin ltI:=⟨fun a=>by simp [ltI],fun a b c=>by simp only [ltI,decide_eq_true_eq];lia,fun a b=>by simp only [ltI,decide_eq_false_iff_not];lia⟩
def ltP (p q:Int×Int):Bool:=if p.1=q.1 then decide (p.2<q.2) else decide (p.1<q.1)
theorem linP:Lin ltP:=by
 refine ⟨fun a=>by simp [ltP],fun a b c h1 h2=>?_,fun a b h1 h2=>?_⟩
 ·unfold ltP at *
  split at h1<;>split at h2<;>split<;>simp only [decide_eq_true_eq] at *<;>lia
 ·unfold ltP at *
  split at h1<;>split at h2<;>simp only [decide_eq_false_iff_not] at *<;>(first | lia | exact jT (by lia) (by lia))
theorem length_le_of_subset {α:Type} [DecidableEq α]:∀ {l m:List α},l.Nodup->(∀ x∈l,x∈m)->l.length<=m.length
 | [],_,_,_=>bW _
 | a::l,m,nd,h=>by
   obtain ⟨n1,n2⟩:=bf.mp nd
   have ha:a∈m:=h a (ah)
   have:=length_le_of_subset (l:=l) (m:=m.erase a) n2 fun x hx=>(List.mem_erase_of_ne (fun z=>n1 (by rw [<- z];exact hx))).mpr (h x (ag _ hx))
   rw [List.length_erase_of_mem ha] at this
   have hp:0<m.length:=List.length_pos_of_mem ha
   rw [aG]
   lia
end Ms
namespace Ry
open PySem PySem.Spec PyProof.Rows L2
theorem vD (O:fC):∀ l:List O.α,HE O l=Ms.srt O.blt l:=by
 have hi:∀ (a:O.α) (l:List O.α),Cg O a l=Ms.ins O.blt a l:=fun a l=>by
  induction l with
  | nil=>rfl
  | cons b r ih=>unfold Cg Ms.ins;rw [ih]
 intro l
 induction l with
 | nil=>rfl
 | cons a r ih=>unfold HE Ms.srt;rw [hi,ih]
section
variable {prog:bA} {w:cb} {A:bK} {s:ai}
theorem rY {l:ak} {vs:List ae} (hl:s.heap.IsList l vs.toArray) (hsz:vs.length<=aL):gP prog w A s (.ref l) vs:=by
 intro E R h
 refine collect_list hl ?_ hsz
 have:=h ((s.heap.push (bY "list" #[] 0)).update s.heap.objs.size (bV (·++vs.toArray))) s.toks fun b o e=>by
  rw [xN _ _ _ _ (bu (aF e))]
  exact af _ e
 exact this
theorem qa {l:ak} {vs:List ae} (hl:jG s.heap l vs.toArray) (hsz:vs.length<=aL):gP prog w A s (.ref l) vs:=by
 intro E R h
 obtain ⟨o,ho,hc,n,hd⟩:=id hl
 unfold uM
 refine aa (wpAny_runValue (eD B8 ?_))
 show aM _ _ (do again (.builtin "list.__iadd__" ⟨[<- newList [],.ref l],[]⟩)) _ _ s
 refine aa (kt (al ⟨Code.quiet_builtin _ (by decide +kernel),eD entry_list_iadd' ?_⟩))
 show aM _ _ (ib (.ref s.heap.objs.size) (.ref l) (.ref s.heap.objs.size)) _ _ { s with heap:=s.heap.push (bY "list" #[] 0) }
 unfold ib
 have ho':(s.heap.push (bY "list" #[] 0)).get? l=some o:=af _ ho
 refine aa (iy (T:="tuple") ⟨o,ho',hc⟩ ?_)
 have ht:(fV "tuple" == fV "tuple")=true:=by rfl
 rw [if_pos (by rw [ht];simp)]
 refine aa (jo ho' hd ?_)
 refine aa (jo (xs:=#[]) (n:=0) (aH _ rfl) rfl ?_)
 rw [if_neg (by simp)]
 refine aa (gm (xs:=#[]) (n:=0) (aH _ rfl) rfl ?_ (bW _) (by show (#[]++vs.toArray).size<=aL+1;simp only [Array.size_append,aA,cX];lia))
 refine al ?_
 show aM (be prog w) A (do
  let o <- load s.heap.objs.size
  match o.data with
  | .seq xs _=>pure xs.toList
  | _=>unsupported "internal:collect") R E { s with heap:=(s.heap.push (bY "list" #[] 0)).update s.heap.objs.size (bV (·++vs.toArray)) }
 refine aa (ou (fX (aH _ rfl) _) ?_)
 show aM _ _ (pure ((#[]:Array ae)++vs.toArray).toList) R E _
 rw [show ((#[]:Array ae)++vs.toArray).toList=vs by simp]
 exact al (h ((s.heap.push (bY "list" #[] 0)).update s.heap.objs.size (bV (·++vs.toArray))) s.toks fun b o e=>by
  rw [xN _ _ _ _ (bu (aF e))]
  exact af _ e)
theorem mq {d:ak} {es:Array lj} {ep:Nat} (hh:A.handled=none) (lo:(d == dh)=false) (hm:gS s.heap d es ep) (hz:es.size<=aL):gP prog w A s (.ref d) (es.toList.map (·.key)):=by
 intro E R h
 refine PySem.W.kdu_collect (DP lo) hh hm hz fun h' tk acc k it=>?_
 have e:acc.toList=es.toList.map (·.key):=by
  apply nz
  intro i
  rw [fI,ay,fI]
  cases q:acc[i]? with
  | none =>
    have:es.size<=i:=by rw [<- it.1];exact Array.getElem?_eq_none_iff.mp q
    rw [sT this];rfl
  | some v =>
    obtain ⟨hl,rfl⟩:=it.2 i v q
    rw [gA hl];rfl
 rw [e]
 exact h h' tk k
theorem Bg {Q:Bool->ai->Prop}:∀ {ns ms:List Int} {us ws:List ae} {fin:Bool} (i:Nat),eE (ns.map V.int) us->eE (ms.map V.int) ws->fin=decide (ns.length<ms.length)->Q (HT.lexLt ns ms) s->yZ prog w A true fin Q (us.zip ws) i s
 | [],ms,us,ws,fin,i,r1,r2,hf,q=>by
   have:us=[]:=eE.zero r1
   subst this
   have e:HT.lexLt [] ms=fin:=by rw [hf];cases ms<;>simp [HT.lexLt]
   rw [e] at q
   exact q
 | n::ns,[],us,ws,fin,i,r1,r2,hf,q=>by
   have:ws=[]:=eE.zero r2
   subst this
   have e:HT.lexLt (n::ns) []=fin:=by rw [hf];simp [HT.lexLt]
   rw [e] at q
   rw [yF]
   exact q
 | n::ns,m::ms,us,ws,fin,i,r1,r2,hf,q=>by
   cases r1 with
   | cons h1 r1 =>
     cases r2 with
     | cons h2 r2 =>
       obtain ⟨t,rfl⟩:=h1
       obtain ⟨t',rfl⟩:=h2
       rw [mJ]
       refine mO (qW ?_)
       by_cases e:n=m
       ·subst e
        rw [beq_self_eq_true]
        refine nY (Bg (i+1) r1 r2 (by rw [hf];simp) ?_)
        have:HT.lexLt (n::ns) (n::ms)=HT.lexLt ns ms:=by rw [HT.lexLt_cons,if_pos rfl]
        rw [this] at q
        exact q
       ·rw [show (n == m)=false from beq_eq_false_iff_ne.mpr e]
        have hq:HT.lexLt (n::ns) (m::ms)=decide (n<m):=by rw [HT.lexLt_cons,if_neg e]
        rw [hq] at q
        refine oy ?_
        cases hb:(true&&i == 0) with
        | true=>exact oneLt_int q
        | false=>exact n5 _ _ (lt_int q)
end
structure Plc {α:Type} (lt:α->α->Bool) (d:α) (ks:List α) (q:List Nat):Prop where
 perm:q.Perm (bG ks.length)
 srt:q.map (fun i=>ks.getD i d)=Ms.srt lt ks
section
variable {X:Cx} {pins:List (ak×dm)} {σ:St} {H:Hp} {s:ai}
theorem kG {xs:List V} {us:List ae} (r:eE xs us):∀ q:List Nat,(∀ i∈q,i<xs.length)->eE (q.map fun i=>xs.getD i .non) (q.map fun i=>us.getD i bC)
 | [],_=>.nil
 | i::q,h=>by
   obtain ⟨u,hu,ru⟩:=r.get (aj (h i (ah)))
   refine .cons ?_ (kG r q fun j hj=>h j (ag _ hj))
   have e1:xs.getD i .non=xs[i]'(h i (ah)):=by simp [h i (ah)]
   have e2:us.getD i bC=u:=by rw [aB,hu];rfl
   show gD (xs.getD i .non) (us.getD i bC)
   rw [e1,e2]
   exact ru
theorem lw {x:ae} {ns:List Int} {vs:List ae} {Q:VK} (I:Inv X pins σ H s) (col:gP X.prog X.w X.A.in1 s x vs) (rv:eE (ns.map V.int) vs) (h64:ns.length<64)
 (k:∀ p,H p=none->Q (.ref p) (upd H p (.lst ((Ms.srt Ms.ltI ns).map V.int)))):aM (be X.prog X.w) X.A (call (.builtin "sorted") [x]) (EP X pins σ Q) X.xe s:=by
 have hl:vs.length=ns.length:=by rw [<- rv.length,ab]
 have at':∀ i,i<vs.length->∃ t,vs.getD i bC=.int (ns.getD i 0) t:=fun i hi=>by
  have hi':i<ns.length:=by lia
  obtain ⟨u,hu,ru⟩:=rv.get (i:=i) (x:=.int ns[i]) (by rw [ay,aj hi'];rfl)
  obtain ⟨t,rfl⟩:=ru
  refine ⟨t,?_⟩
  rw [aB,hu,aB,aj hi'];rfl
 refine nq (O:=yO) (κ:=p0) (key:=fun i=>ns.getD i 0) col (.inl (by lia)) (fun h' tk kp h2 Q' q=>?_) (fun h' tk kp i j C hi hj c=>?_) fun p h1 h' tk c hp hu k1 kp e=>?_
 ·refine xO (T:=.type "int") h2 (fun v hv=>?_) (by decide) (by decide) q
  obtain ⟨i,hi,rfl⟩:=cf hv
  obtain ⟨t,e⟩:=at' i hi
  have e2:vs[i]=.int (ns.getD i 0) t:=by rw [<- e];simp [hi]
  rw [e2]
  exact .now
 ·show aM (be X.prog X.w) _ (keyLt' p0 (vs.getD i bC) (vs.getD j bC)) C _ _
  obtain ⟨t,e1⟩:=at' i hi
  obtain ⟨t',e2⟩:=at' j hj
  rw [e1,e2]
  exact uY c
 ·rw [hl] at hp hu
  have pl:=lF (O:=yO) (0:Int) hp hu
  have hz:aL=16777216:=bE
  have hpm:∀ i∈p.toList,i<(ns.map V.int).length:=fun i hi=>by
   have h1:p.toList.Perm (bG ns.length):=by simpa using cL.mp hp.perm
   rw [ab]
   simpa using h1.mem_iff.mp hi
  have r2:=kG rv p.toList hpm
  have e3:(p.toList.map fun i=>(ns.map V.int).getD i .non)=(Ms.srt Ms.ltI ns).map V.int:=by
   have:(p.toList.map fun i=>ns.getD i 0)=Ms.srt Ms.ltI ns:=by
    exact pl.trans (vD yO ns)
   rw [<- this,aC]
   refine dr fun i hi=>?_
   have hi':=hpm i hi
   rw [ab] at hi'
   simp [hi']
  rw [e3] at r2
  have hlen:((Ms.srt Ms.ltI ns).map V.int).length<=aL:=by rw [ab,(Ms.srt_perm ns).length_eq];lia
  have I1:Inv X pins σ H { s with heap:=h1,toks:=tk }:=I.kept (t':=tk) k1
  exact ⟨.ref h1.objs.size,_,I1.laid (t':=tk) kp (ax _) (show gO X.prog X.w _ h' _ (.lst _) from ⟨hlen,_,c,r2,e⟩),rfl,k _ (I1.hok.fresh (ax _))⟩
theorem jh {x:ae} {ts:List (List Int)} {ys:List V} {vs:List ae} {Q:VK} (I:Inv X pins σ H s) (col:gP X.prog X.w X.A.in1 s x vs) (rv:eE ys vs) (hy:ys.length=ts.length)
 (hys:∀ i,i<ts.length->∃ a,ys[i]?=some (.ref a)/\SqT X.K H a ((ts.getD i []).map V.int)/\ts.getD i []≠[]) (h64:OkN ts)
 (k:∀ p q,H p=none->Plc HT.lexLt [] ts q->Q (.ref p) (upd H p (.lst (q.map fun i=>ys.getD i .non)))):aM (be X.prog X.w) X.A (call (.builtin "sorted") [x]) (EP X pins σ Q) X.xe s:=by
 have hl:vs.length=ts.length:=by rw [<- rv.length,hy]
 have at':∀ i,i<vs.length->∃ (a:ak) (its:List ae),vs.getD i bC=.ref a/\eE ((ts.getD i []).map V.int) its/\jG s.heap a its.toArray/\ts.getD i []≠[]:=fun i hi=>by
  obtain ⟨a,e,sq,ne⟩:=hys i (by lia)
  obtain ⟨u,hu,ru⟩:=rv.get e
  cases (show u=bN a from ru)
  obtain ⟨its,r,it,_⟩:=I.tuple sq
  exact ⟨a,its,by rw [aB,hu];rfl,r,it,ne⟩
 refine nq (O:=vF) (κ:=y3 true) (key:=fun i=>ts.getD i []) col (by rw [hl];exact h64.inj []) (fun h' tk kp h2 Q' q=>?_) (fun h' tk kp i j C hi hj c=>?_) fun p h1 h' tk c hp hu k1 kp e=>?_
 ·have firsts:∀ us:List ae,(∀ u∈us,∃ i,i<vs.length/\u=vs.getD i bC)->∃ fs:List ae,yH h' us fs/\us.length=fs.length/\∀ f∈fs,∃ n t,f=eR n t:=fun us=>by
   induction us with
   | nil=>exact fun _=>⟨[],.nil,rfl,by simp⟩
   | cons u us ih =>
     intro hu
     obtain ⟨fs,h1,h2,h3⟩:=ih fun v hv=>hu v (ag _ hv)
     obtain ⟨i,hi,rfl⟩:=hu u (ah)
     obtain ⟨a,its,ea,r,⟨o,ho,hc,n,hd⟩,ne⟩:=at' i hi
     cases ht:ts.getD i [] with
     | nil=>exact absurd ht ne
     | cons m ms =>
       rw [ht] at r
       cases r with
       | @cons _ w _ ws rw' r =>
         obtain ⟨t,rfl⟩:=rw'
         refine ⟨.int m t::fs,?_,by rw [aG,aG,h2],fun f hf=>?_⟩
         ·rw [ea]
          exact .cons (kp _ _ ho) hc hd (by simp) h1
         ·rcases am.mp hf with z | z
          ·exact ⟨m,t,z⟩
          ·exact h3 f z
  obtain ⟨fs,f1,f2,f3⟩:=firsts vs fun u hu=>by
   obtain ⟨i,hi,rfl⟩:=cf hu
   exact ⟨i,hi,by simp [hi]⟩
  refine xP (T:=.type "int") f1 (by lia) (fun v hv=>?_) (by decide) q
  obtain ⟨n,t,rfl⟩:=f3 v hv
  exact .now
 ·show aM (be X.prog X.w) _ (keyLt' (y3 true) (vs.getD i bC) (vs.getD j bC)) C _ _
  obtain ⟨a,its,e1,r1,⟨o,ho,hc,n,hd⟩,_⟩:=at' i hi
  obtain ⟨a',its',e2,r2,⟨o',ho',hc',n',hd'⟩,_⟩:=at' j hj
  rw [e1,e2]
  refine y4 (kp _ _ ho) hd (kp _ _ ho') hd' ?_
  have l1:=r1.length
  have l2:=r2.length
  rw [ab] at l1 l2
  exact Bg 0 r1 r2 (by rw [aA,aA,l1,l2]) c
 ·rw [hl] at hp hu
  have pl:=lF (O:=vF) ([]:List Int) hp hu
  have hz:aL=16777216:=bE
  have h1p:p.toList.Perm (bG ts.length):=by simpa using cL.mp hp.perm
  have hpm:∀ i∈p.toList,i<ys.length:=fun i hi=>by rw [hy];simpa using h1p.mem_iff.mp hi
  have r2:=kG rv p.toList hpm
  have hlen:(p.toList.map fun i=>ys.getD i .non).length<=aL:=by rw [ab,h1p.length_eq,dZ];lia
  have I1:Inv X pins σ H { s with heap:=h1,toks:=tk }:=I.kept (t':=tk) k1
  refine ⟨.ref h1.objs.size,_,I1.laid (t':=tk) kp (ax _) (show gO X.prog X.w _ h' _ (.lst _) from ⟨hlen,_,c,r2,e⟩),rfl,k _ p.toList (I1.hok.fresh (ax _)) ⟨h1p,?_⟩⟩
  exact pl.trans (vD vF ts)
end
section
variable {X:Cx} {pins:List (ak×dm)} {σ:St} {H:Hp} {s:ai} {A:bK} {p:ak}
theorem sF {ys:List V} (I:Inv X pins σ H s) (h:SqL X.K H p ys\/SqT X.K H p ys):∃ vs,gP X.prog X.w A s (.ref p) vs/\eE ys vs:=by
 rcases h with h | h
 ·obtain ⟨its,r,pl,z⟩:=I.list h
  exact ⟨its,rY pl.isList (by rw [<- r.length];exact z),r⟩
 ·obtain ⟨its,r,pl,z⟩:=I.tuple h
  exact ⟨its,qa pl (by rw [<- r.length];exact z),r⟩
theorem ym {prog:bA} {w:cb} {knd:KeyKind prog w Key} (hk:∀ k v,knd.is k v=true->gD (kV k) v) {es:List lj} {kvs:List (Key×ae)} (h:Pairs knd es kvs):eE (kvs.map fun kv=>kV kv.1) (es.map (·.key)):=by
 induction h with
 | nil=>exact .nil
 | cons h1 _ _ ih=>exact .cons (hk _ _ h1) ih
theorem CY {k:Key} {v:ae} (h:rV k v=true):gD (kV k) v:=by
 rcases dN h with ⟨z,t,e1,e2⟩ | ⟨z,t,e1,e2⟩
 ·rw [e1,e2];exact ⟨t,rfl⟩
 ·rw [e1,e2];exact ⟨t,rfl⟩
theorem Ib {kvs:List (Key×V)} (I:Inv X pins σ H s) (hh:A.handled=none) (h:Rd H p (.dK kvs)):∃ vs,gP X.prog X.w A s (.ref p) vs/\eE (kvs.map fun kv=>kV kv.1) vs:=by
 obtain ⟨hz,lo,vs,r,o,es,ep,ho,hx,hd,hk,hp,hn⟩:=h.ok I.hok
 have e:kvs.map (fun kv=>kV kv.1)=vs.map (fun kv=>kV kv.1):=by
  have:=r.keys
  have e2:=congrArg (g6 kV) this
  rw [aC,aC] at e2
  exact e2
 have rv:=ym (fun k v h=>CY h) hp
 refine ⟨es.toList.map (·.key),mq hh lo ⟨o,ho,hx,hd⟩ ?_,by rw [e];exact rv⟩
 have l1:=rv.length
 rw [ab,ab,bP] at l1
 have l2:=ce r
 show es.size<=aL
 have hz':kvs.length<=aL:=hz
 have l3:kvs.length=vs.length:=l2
 have l4:vs.length=es.size:=l1
 rw [<- l4,<- l3]
 exact hz'
theorem Km {kvs:List (List Key×V)} (I:Inv X pins σ H s) (hh:A.handled=none) (h:Rd H p (.dT kvs)):∃ (vs:List ae) (as:List ak),gP X.prog X.w A s (.ref p) vs/\eE (as.map V.ref) vs/\as.length=kvs.length/\∀ (i:Nat) (kv:List Key×V) (a:ak),kvs[i]?=some kv->as[i]?=some a->H a=some (.tup (kv.1.map kV)):=by
 obtain ⟨hz,lo,xs,r,o,es,ep,ho,hx,hd,he,hn⟩:=h.ok I.hok
 have l2:=ce r
 have hes:es.toList.map (·.key)=xs.map fun x=>bN x.2.1:=by rw [he,aC];rfl
 refine ⟨es.toList.map (·.key),xs.map (·.2.1),mq hh lo ⟨o,ho,hx,hd⟩ ?_,?_,by rw [ab];exact l2.symm,fun i kv a h1 h2=>?_⟩
 ·have:=congrArg gj he
  rw [bP,ab] at this
  lia
 ·rw [hes,aC]
  have:∀ l:List (List Key×ak×ae),eE (l.map (V.ref∘fun x=>x.2.1)) (l.map fun x=>bN x.2.1):=fun l=>by
   induction l with
   | nil=>exact .nil
   | cons a l ih=>exact .cons rfl ih
  exact this xs
 ·rw [ay] at h2
  cases q:xs[i]? with
  | none=>rw [q] at h2;cases h2
  | some x =>
    rw [q] at h2
    cases h2
    have:∀ {l:List (List Key×V)} {m:List (List Key×ak×ae)} {i:Nat} {kv:List Key×V} {x:List Key×ak×ae},oq (fun (p:List Key×V) (q:List Key×ak×ae)=>p.1=q.1/\H q.2.1=some (.tup (p.1.map kV))/\gD p.2 q.2.2) l m->l[i]?=some kv->m[i]?=some x->H x.2.1=some (.tup (kv.1.map kV)):=fun {l m}=>by
     intro i kv x rr
     induction rr generalizing i with
     | nil=>intro h;simp at h
     | cons h _ ih =>
       cases i with
       | zero=>intro h1 h2;simp at h1 h2;subst h1 h2;exact h.2.1
       | succ i=>intro h1 h2;exact ih (by simpa using h1) (by simpa using h2)
    exact this r h1 q
end
end Ry
namespace Ry
open L2
def o4:List Da->Option (List (List Int))
 | []=>some []
 | .tup xs::r=>match gL xs,o4 r with
   | some ns,some ts=>some (ns::ts)
   | _,_=>none
 | _=>none
def lZ (ds:List Da):Option (List Da):=match gL ds with
 | some ns=>if ns.length<64 then some ((Ms.srt Ms.ltI ns).map Da.int) else none
 | none=>match o4 ds with
   | some ts=>if OkN ts/\ts.all (fun t=>!t.isEmpty)=true then some ((Ms.srt HT.lexLt ts).map fun t=>.tup (t.map Da.int)) else none
   | none=>none
def eX:List Rv->Option Rv
 | [(_,.lst ds)]=>match lZ ds with | some es=>some (.fr,.lst es) | none=>none
 | [(_,.tup ds)]=>match lZ ds with | some es=>some (.fr,.lst es) | none=>none
 | [(_,.dK ks _)]=>match lZ (ks.map ji) with | some es=>some (.fr,.lst es) | none=>none
 | [(_,.dT ks _)]=>match lZ (ks.map fun k=>.tup (k.map ji)) with | some es=>some (.fr,.lst es) | none=>none
 | _=>none
end Ry
namespace Ry
open PySem PySem.Spec PyProof.Rows L2
def o8 (K:ac):List V->Hp->VK->Prop:=fun xs H Q=>∃ p,xs=[.ref p]/\(
 (∃ ns:List Int,ns.length<64/\((SqL K H p (ns.map V.int)\/SqT K H p (ns.map V.int))\/∃ kvs,Rd H p (.dK kvs)/\kvs.map (·.1)=ns.map aq)/\∀ l,H l=none->Q (.ref l) (upd H l (.lst ((Ms.srt Ms.ltI ns).map V.int)))) \/
 (∃ (ts:List (List Int)) (ys:List V),OkN ts/\ys.length=ts.length/\(SqL K H p ys\/SqT K H p ys)/\(∀ i,i<ts.length->∃ a,ys[i]?=some (.ref a)/\SqT K H a ((ts.getD i []).map V.int)/\ts.getD i []≠[])/\∀ l q,H l=none->Plc HT.lexLt [] ts q->Q (.ref l) (upd H l (.lst (q.map fun i=>ys.getD i .non)))) \/
 (∃ (ts:List (List Int)) (kvs:List (List Key×V)),OkN ts/\Rd H p (.dT kvs)/\kvs.map (·.1)=ts.map (fun t=>t.map aq)/\(∀ t∈ts,t≠[])/\∀ l q (as:List ak),H l=none->Plc HT.lexLt [] ts q->as.length=ts.length->(∀ i,i<ts.length->∃ a,as[i]?=some a/\H a=some (.tup ((ts.getD i []).map V.int)))->Q (.ref l) (upd H l (.lst (q.map fun i=>(as.map V.ref).getD i .non)))))
theorem ij {α:Type} {l:List α} {i:Nat} (h:i<l.length) (d:α):l[i]?=some (l.getD i d):=by rw [aB,aj h];rfl
theorem va {X:Cx} (hc:X.calm=true):lq X (.builtin "sorted") (o8 X.K):=by
 intro pins s σ H xs us Q I r h
 obtain ⟨p,rfl,h⟩:=h
 obtain ⟨u,rfl,rx⟩:=lH r
 cases rx
 have hh:X.A.in1.handled=none:=I.ok.hd hc
 rcases h with ⟨ns,h64,src,k⟩ | ⟨ts,ys,h64,hy,src,hys,k⟩ | ⟨ts,kvs,h64,src,hk,ne,k⟩
 ·rcases src with src | ⟨kvs,src,hk⟩
  ·obtain ⟨vs,col,rv⟩:=sF (A:=X.A.in1) I src
   exact lw I col rv h64 k
  ·obtain ⟨vs,col,rv⟩:=Ib (A:=X.A.in1) I hh src
   have e:kvs.map (fun kv=>kV kv.1)=ns.map V.int:=by
    have:=congrArg (g6 kV) hk
    rw [aC,aC] at this
    exact this
   rw [e] at rv
   exact lw I col rv h64 k
 ·obtain ⟨vs,col,rv⟩:=sF (A:=X.A.in1) I src
  exact jh I col rv hy hys h64 k
 ·obtain ⟨vs,as,col,rv,hl,hat⟩:=Km (A:=X.A.in1) I hh src
  have hkl:kvs.length=ts.length:=by have:=congrArg gj hk;simpa using this
  have hat':∀ i,i<ts.length->∃ a,as[i]?=some a/\H a=some (.tup ((ts.getD i []).map V.int)):=fun i hi=>by
   have h1:i<kvs.length:=by lia
   have h2:i<as.length:=by lia
   refine ⟨as[i],aj h2,?_⟩
   have:=hat i kvs[i] as[i] (aj h1) (aj h2)
   have e:kvs[i].1=(ts.getD i []).map aq:=by
    have:=congrArg (fun l=>l[i]?) hk
    simp only [ay,aj h1,ij hi [],cn] at this
    exact bR this
   rw [e,aC] at this
   exact this
  refine jh I col rv (by rw [ab];lia) (fun i hi=>?_) h64 fun l q hl' hq=>k l q as hl' hq (by lia) hat'
  obtain ⟨a,e1,e2⟩:=hat' i hi
  exact ⟨a,by rw [ay,e1];rfl,SqT.of e2,ne _ (bI (ij hi []))⟩
theorem rS:∀ {ds:List Da} {ts:List (List Int)},o4 ds=some ts->ds=ts.map fun t=>Da.tup (t.map Da.int)
 | [],ts,h=>by cases h;rfl
 | .tup xs::r,ts,h=>by
   have h:(match gL xs,o4 r with | some ns,some ts=>some (ns::ts) | _,_=>none)=some ts:=h
   split at h
   ·rename_i ns ts' e1 e2
    cases h
    rw [rS e2,gT e1]
    rfl
   ·cases h
 | .non::r,ts,h=>by cases h
 | .bl _::r,ts,h=>by cases h
 | .int _::r,ts,h=>by cases h
 | .str _::r,ts,h=>by cases h
 | .lst _::r,ts,h=>by cases h
 | .dK _ _::r,ts,h=>by cases h
 | .dT _ _::r,ts,h=>by cases h
theorem ug {G H:Hp}:∀ (l:List (ak×List V)),cQ G H->(∀ e∈l,H e.1=some (.tup e.2))->∃ G',Ext G H G' H/\∀ e∈l,G' e.1=some (.tup e.2)
 | [],sg,_=>⟨G,Ext.refl sg,by simp⟩
 | (a,xs)::l,sg,h=>by
   obtain ⟨G1,E1,h1⟩:=ug l sg fun e he=>h e (ag _ he)
   have ha:=h (a,xs) (ah)
   dsimp only at ha
   cases q:G1 a with
   | some o =>
     have:=E1.gh a o q
     rw [ha] at this
     cases this
     refine ⟨G1,E1,fun e he=>?_⟩
     rcases am.mp he with z | z
     ·subst z;exact q
     ·exact h1 e z
   | none =>
     refine ⟨upd G1 a (.tup xs),⟨E1.hh,E1.gg.trans (cw q),fun b o z=>?_,fun b o z t w=>?_⟩,fun e he=>?_⟩
     ·by_cases hb:b=a
      ·subst hb;rw [aV] at z;rw [<- z];exact ha
      ·rw [bq hb] at z;exact E1.gh b o z
     ·have hb:b≠a:=fun z'=>by subst z';rw [ha] at z;cases z;cases t
      rw [bq hb];exact E1.nw b o z t w
     ·rcases am.mp he with z | z
      ·subst z;exact aV
      ·have hb:e.1≠a:=fun z'=>by have:=h1 e z;rw [z',q] at this;cases this
       rw [bq hb];exact h1 e z
theorem lf {K:ac} {G:Hp} {ds:Nat->Da} {xs:Nat->V}:∀ (q:List Nat),(∀ i∈q,Den K G (ds i) (xs i))->cO K G (q.map ds) (q.map xs)
 | [],_=>rfl
 | i::q,h=>⟨_,_,rfl,h i (ah),lf q fun j hj=>h j (ag _ hj)⟩
theorem Bt {α:Type} {lt:α->α->Bool} {d:α} {ks:List α} {q:List Nat} (h:Plc lt d ks q) {i:Nat} (hi:i∈q):i<ks.length:=by simpa using h.perm.mem_iff.mp hi
theorem vT {α:Type} {lt:α->α->Bool} {d:α} {ks:List α} {q:List Nat} (h:Plc lt d ks q) (f:α->Da):(Ms.srt lt ks).map f=q.map fun i=>f (ks.getD i d):=by rw [<- h.srt,aC];rfl
theorem yb {K:ac}:Cal K (o8 K) eX:=by
 intro B H0 G H rs c xs Q sg ra e k
 have goI:∀ {p:ak} {ns:List Int},ns.length<64->((SqL K H p (ns.map V.int)\/SqT K H p (ns.map V.int))\/∃ kvs,Rd H p (.dK kvs)/\kvs.map (·.1)=ns.map aq)->(∀ l,H l=none->Q (.ref l) (upd H l (.lst ((Ms.srt Ms.ltI ns).map V.int))))->o8 K [.ref p] H Q:=fun h1 h2 h3=>⟨_,rfl,.inl ⟨_,h1,h2,h3⟩⟩
 have fin1:∀ ns:List Int,c=(.fr,.lst ((Ms.srt Ms.ltI ns).map Da.int))->∀ l,H l=none->Q (.ref l) (upd H l (.lst ((Ms.srt Ms.ltI ns).map V.int))):=fun ns ec l hl=>by
  refine k _ G _ (Ext.own sg hl) ?_
  rw [ec]
  exact ⟨l,_,rfl,hl,sg.free hl,aV,_,rfl,cO.ints.mpr rfl⟩
 have seq:∀ {p:ak} {ds:List Da} {ys:List V} {es:List Da},(SqL K H p ys\/SqT K H p ys)->cO K G ds ys->lZ ds=some es->c=(.fr,.lst es)->o8 K [.ref p] H Q:=fun {p ds ys es} sq dl es' ec=>by
  unfold lZ at es'
  split at es'
  ·rename_i ns en
   split at es'
   ·rename_i h64
    cases es'
    rw [gT en] at dl
    have:=cO.ints.mp dl
    subst this
    exact goI h64 (.inl sq) (fin1 ns ec)
   ·cases es'
  ·split at es'
   ·rename_i ts et
    split at es'
    ·rename_i hcond
     obtain ⟨h64,hne⟩:=hcond
     cases es'
     have ed:=rS et
     have hlen:ys.length=ts.length:=by rw [dl.length,ed,ab]
     have itm:∀ i,i<ts.length->∃ a xs,ys[i]?=some (.ref a)/\G a=some (.tup xs)/\xs=(ts.getD i []).map V.int:=fun i hi=>by
      have:ds[i]?=some (.tup ((ts.getD i []).map Da.int)):=by rw [ed,ay,ij hi []];rfl
      obtain ⟨x,hx,a,xs,rfl,ga,da⟩:=dl.get this
      exact ⟨a,xs,hx,ga,cO.ints.mp da⟩
     refine ⟨p,rfl,.inr (.inl ⟨ts,ys,h64,hlen,sq,fun i hi=>?_,fun l q hl hq=>?_⟩)⟩
     ·obtain ⟨a,xs,e1,e2,e3⟩:=itm i hi
      subst e3
      refine ⟨a,e1,SqT.of (sg _ _ e2),fun z=>?_⟩
      have:=cB.mp hne _ (bI (ij hi []))
      rw [z] at this
      cases this
     ·refine k _ G _ (Ext.own sg hl) ?_
      rw [ec,vT hq]
      refine ⟨l,_,rfl,hl,sg.free hl,aV,_,rfl,lf (K:=K) (G:=G) q fun i hi=>?_⟩
      obtain ⟨a,xs,e1,e2,e3⟩:=itm i (Bt hq hi)
      subst e3
      have e4:ys.getD i .non=.ref a:=by rw [aB,e1];rfl
      show Den K G (.tup _) (ys.getD i .non)
      rw [e4]
      exact ⟨a,_,rfl,e2,cO.ints.mpr rfl⟩
    ·cases es'
   ·cases es'
 unfold eX at e
 split at e
 ·split at e
  ·rename_i es' he
   cases e
   obtain ⟨v,rfl,h⟩:=fJ.one ra
   obtain ⟨p,ys,rfl,q,d⟩:=h.lst sg
   exact seq (.inl q) d he rfl
  ·cases e
 ·split at e
  ·rename_i es' he
   cases e
   obtain ⟨v,rfl,h⟩:=fJ.one ra
   obtain ⟨p,ys,rfl,q,d,g⟩:=h.tup sg
   exact seq (.inr (SqT.of q)) d he rfl
  ·cases e
 ·rename_i kd ks ds
  split at e
  ·rename_i es' he
   cases e
   obtain ⟨v,rfl,h⟩:=fJ.one ra
   obtain ⟨p,kvs,rfl,q,ek,d⟩:=h.dK sg
   unfold lZ at he
   have ofK:∀ {ks:List Key} {ns:List Int},gL (ks.map ji)=some ns->ks=ns.map aq:=fun {ks}=>by
    induction ks with
    | nil=>intro ns h;cases h;rfl
    | cons k ks ih =>
      intro ns h
      cases k with
      | inl i =>
        have h:(gL (ks.map ji)).map (i::·)=some ns:=h
        cases z:gL (ks.map ji) with
        | none=>rw [z] at h;cases h
        | some ms=>rw [z] at h;cases h;rw [ih z];rfl
      | inr x=>cases h
   split at he
   ·rename_i ns en
    split at he
    ·rename_i h64
     cases he
     exact goI h64 (.inr ⟨kvs,q,by rw [ek];exact ofK en⟩) (fin1 ns rfl)
    ·cases he
   ·exfalso
    split at he
    ·rename_i hq ts et
     cases ks with
     | nil=>exact absurd (show (some []:Option (List Int))=none by assumption) (by simp)
     | cons k ks=>cases k<;>(simp only [aw,ji] at et;cases et)
    ·cases he
  ·cases e
 ·rename_i kd ks ds
  split at e
  ·rename_i es' he
   cases e
   obtain ⟨v,rfl,h⟩:=fJ.one ra
   obtain ⟨p,kvs,rfl,q,ek,d⟩:=h.dT sg
   unfold lZ at he
   have none_ints:∀ {ns:List Int},gL (ks.map fun k=>Da.tup (k.map ji))=some ns->ks=[]:=fun {ns} h=>by
    cases ks with
    | nil=>rfl
    | cons k ks=>cases h
   have go:∀ ts:List (List Int),OkN ts->(∀ t∈ts,t≠[])->ks=ts.map (fun t=>t.map aq)->es'=(Ms.srt HT.lexLt ts).map (fun t=>Da.tup (t.map Da.int))->o8 K [.ref p] H Q:=fun ts h64 hne ek2 ee=>by
    refine ⟨p,rfl,.inr (.inr ⟨ts,kvs,h64,q,by rw [ek,ek2],hne,fun l qq as hl hq hlen hat=>?_⟩)⟩
    obtain ⟨G',E',hG⟩:=ug (G:=G) (H:=H) ((bG ts.length).map fun i=>(as.getD i 0,(ts.getD i []).map V.int)) sg fun e he=>by
     obtain ⟨i,hi,rfl⟩:=aK.mp he
     obtain ⟨a,e1,e2⟩:=hat i (by simpa using hi)
     have e3:as.getD i 0=a:=by rw [aB,e1];rfl
     dsimp only
     rw [e3];exact e2
    have E2:Ext G H G' (upd H l (.lst (qq.map fun i=>(as.map V.ref).getD i .non))):=E'.trans (Ext.own E'.gh hl)
    refine k _ G' _ E2 ?_
    rw [ee,vT hq]
    refine ⟨l,_,rfl,hl,E'.gh.free hl,aV,_,rfl,lf (K:=K) (G:=G') qq fun i hi=>?_⟩
    have hi':=Bt hq hi
    have g:=hG (as.getD i 0,(ts.getD i []).map V.int) (aK.mpr ⟨i,by simpa using hi',rfl⟩)
    have e4:(as.map V.ref).getD i .non=.ref (as.getD i 0):=by
     have:i<as.length:=by lia
     simp [this]
    show Den K G' (.tup _) ((as.map V.ref).getD i .non)
    rw [e4]
    exact ⟨_,_,rfl,g,cO.ints.mpr rfl⟩
   split at he
   ·rename_i ns en
    have e0:=none_ints en
    subst e0
    split at he
    ·cases he
     have:ns=[]:=by cases en;rfl
     subst this
     exact go [] (.inl (by simp)) (by simp) rfl rfl
    ·cases he
   ·split at he
    ·rename_i ts et
     split at he
     ·rename_i hcond
      cases he
      have conv:∀ {ks:List (List Key)} {ts:List (List Int)},o4 (ks.map fun k=>Da.tup (k.map ji))=some ts->ks=ts.map (fun t=>t.map aq):=fun {ks}=>by
       induction ks with
       | nil=>intro ts h;cases h;rfl
       | cons k ks ih =>
         intro ts h
         have h:(match gL (k.map ji),o4 (ks.map fun k=>Da.tup (k.map ji)) with | some ns,some ts=>some (ns::ts) | _,_=>none)=some ts:=h
         split at h
         ·rename_i ns ts' e1 e2
          cases h
          have e3:k=ns.map aq:=by
           have e4:=gT e1
           have:∀ {k:List Key} {ns:List Int},k.map ji=ns.map Da.int->k=ns.map aq:=fun {k}=>by
            induction k with
            | nil=>intro ns h;cases ns with
              | nil=>rfl
              | cons _ _=>cases h
            | cons a k ihk =>
              intro ns h
              cases ns with
              | nil=>cases h
              | cons n ns =>
                rw [aw,aw] at h
                injection h with h1 h2
                cases a with
                | inl i=>cases h1;rw [ihk h2];rfl
                | inr x=>cases h1
           exact this e4
          rw [ih e2,e3]
          rfl
         ·cases h
      exact go ts hcond.1 (fun t ht z=>by have:=cB.mp hcond.2 t ht;rw [z] at this;cases this) (conv et) rfl
     ·cases he
    ·cases he
  ·cases e
 ·cases e
section
variable {X:Cx} {e:aP} {es:List aP} {p pos:e7} {g:Rho->Option (List Rv)}
theorem zB (hc:X.calm=true) (hg:Gl X "sorted") (hm:X.mg "sorted" = none) (ha:PXA X (e::es) g) (he:ao (e::es) X.env=(false,b9 e X.env)::ao es X.env:=by exact bS rfl) (hpl:(cz pos (ao es X.env)).any (·.1)=false:=by rfl):PX X (.Call (.Name "sorted" p) (e::es) [] pos) (xB eX g) :=
 FY (va hc) yb hg hm (by decide +kernel) ha (by decide) (by decide) he hpl
end
end Ry
namespace Ry
open PySem L2
abbrev UD:=List (Int×List Int)
def dD (l:List Int):Da:=.dK (l.map aq) (l.map fun _=>.bl true)
def dU (D:UD):Da:=.dK (D.map fun e=>aq e.1) (D.map fun e=>dD e.2)
def sP (l:List Int) (b:Int):List Int:=if b∈l then l else l++[b]
def jF:UD->Int->Int->UD
 | [],a,b=>[(a,[b])]
 | (x,l)::D,a,b=>if x=a then (x,sP l b)::D else (x,l)::jF D a b
def upp (T:List (Int×Int)):UD:=T.foldl (fun D p=>jF D p.1 p.2) []
def dG:List Da->Option (List (Int×Int))
 | []=>some []
 | .tup [.int a,.int b]::r=>(dG r).map ((a,b)::·)
 | _=>none
noncomputable def fn_uppers_of:List Da->Option Da
 | [.tup ds]=>match dG ds with | some T=>if T.length<=1000 then some (dU (upp T)) else none | none=>none
 | [.lst ds]=>match dG ds with | some T=>if T.length<=1000 then some (dU (upp T)) else none | none=>none
 | _=>none
def yL:Int->List Int->Int
 | m,[]=>m
 | m,a::r=>yL (if m<a then a else m) r
def iJ:List Int->List Int
 | []=>[]
 | a::r=>if a∈r then iJ r else a::iJ r
def kU (g:Rho->Option (List Rv)):Rho->Option Rv:=fun ρ=>match g ρ with
 | some [(_,.int j)]=>if -(2 ^ 62)<=j/\j<=1000000 then some (.fr,.lst (fg 0 j.toNat)) else none
 | _=>none
end Ry
namespace Ry
open PySem PySem.Spec PyProof.Rows L2
section
variable {X:Cx} {a e:aP} {es:List aP} {p p2 pos pos2:e7} {fa:Rho->Option Rv} {g:Rho->Option (List Rv)}
def LW (ta:TA):TE:=fun σ H Q=>ta σ H fun vs H1=>∃ j:Int,vs=[.int j]/\∀ r,H1 r=none->Q (.ref r) (upd H1 r (.rng 0 j))
theorem oO {ta:TA} (hg:Gl X "range") (hm:X.mg "range" = none) (ha:PA X [a] ta) (hs:ao [a] X.env=[(false,b9 a X.env)]:=by exact bS rfl):PE X (.Call (.Name "range" p) [a] [] pos) (LW ta):=by
 intro pins s σ H Q I h
 refine Call_ (nG I hg hm boot_range (fw (thn (ha pos pins s σ H _ I h) fun us s1 ⟨vs,H1,I1,r1,q1⟩=>?_) hs rfl))
 obtain ⟨j,e,q⟩:=q1
 subst e
 cases r1 with
 | cons r rr =>
   cases rr
   obtain ⟨t,rfl⟩:=r
   refine call_range_1 ⟨.ref s1.heap.objs.size,_,I1.laid (a:=s1.heap.objs.size) (o:=.rng 0 j) (fun b o e=>af _ e) (ax _) ⟨_,_,_,aH _ rfl⟩,rfl,q _ (I1.hok.fresh (ax _))⟩
theorem rF (hc:X.calm=true):lq X (.type "list") (fun xs H Q=>∃ (r:ak) (j:Int),xs=[.ref r]/\H r=some (.rng 0 j)/\-(2 ^ 62)<=j/\j<=1000000/\∀ l,H l=none->Q (.ref l) (upd H l (.lst ((bG j.toNat).map fun (i:Nat)=>V.int (i:Int))))):=by
 intro pins s σ H xs us Q I r h
 obtain ⟨r',j,rfl,hr,j1,j2,q⟩:=h
 obtain ⟨u,rfl,rx⟩:=lH r
 cases rx
 obtain ⟨t,u,v,hr'⟩:=I.hok r' _ hr
 have hs:aL=16777216:=bE
 refine call_list_range (n:=j.toNat) (I.ok.hd hc) (show IsRange s.heap r' 0 j 1 t u v from hr') (small_one (by lia) (by lia) (by lia) (by lia)) (by rw [xG];split<;>lia) (by lia) fun h' tk acc' c' kp e it=>?_
 have rv:eE ((bG j.toNat).map fun (i:Nat)=>V.int (i:Int)) acc'.toList:=by
  have:∀ (n:Nat) (l:List ae) (lo:Nat),l.length=n->(∀ i v,l[i]?=some v->∃ t,v=eR ((lo+i:Nat):Int) t)->eE ((we lo n).map fun (i:Nat)=>V.int (i:Int)) l:=fun n=>by
   induction n with
   | zero=>intro l lo hl _;cases l with
     | nil=>exact .nil
     | cons _ _=>cases hl
   | succ n ih =>
     intro l lo hl hv
     cases l with
     | nil=>cases hl
     | cons x l =>
       obtain ⟨t,ht⟩:=hv 0 x rfl
       rw [og,aw]
       refine .cons ⟨t,by simpa using ht⟩ (ih l (lo+1) (by simpa using hl) fun i v hi=>?_)
       obtain ⟨t,ht⟩:=hv (i+1) v (by simpa using hi)
       exact ⟨t,by rw [ht];congr 2;lia⟩
  rw [gq]
  refine this j.toNat acc'.toList 0 (by rw [bP];exact it.1) fun i v hi=>?_
  obtain ⟨t,ht⟩:=it.2 i v (by rw [<- fI];exact hi)
  exact ⟨t,by rw [ht];congr 1;simp⟩
 refine ⟨.ref s.heap.objs.size,_,I.laid (t':=tk) kp (ax _) (show gO X.prog X.w _ h' _ (.lst _) from ⟨by rw [ab,dZ];lia,acc'.toList,c',rv,by simpa using e⟩),rfl,q _ (I.hok.fresh (ax _))⟩
theorem kE {K:ac} {G:Hp}:∀ (n:Nat) (lo:Nat),cO K G (fg (lo:Int) n) ((we lo n).map fun (i:Nat)=>V.int (i:Int))
 | 0,_=>rfl
 | n+1,lo=>by
   rw [og,aw]
   refine ⟨_,_,rfl,rfl,?_⟩
   have:=kE (K:=K) (G:=G) n (lo+1)
   have e:((lo+1:Nat):Int)=(lo:Int)+1:=by lia
   rw [e] at this
   exact this
theorem t9 (hg:Gl X "list") (hm:X.mg "list" = none) (hg2:Gl X "range") (hm2:X.mg "range" = none) (ha:PXA X [a] g) (hc:X.calm=true:=by rfl) (hs:ao [a] X.env=[(false,b9 a X.env)]:=by exact bS rfl)
 (he:ao [.Call (.Name "range" p2) [a] [] pos2] X.env=[(false,b9 (.Call (.Name "range" p2) [a] [] pos2) X.env)]:=by rfl):PX X (.Call (.Name "list" p) [.Call (.Name "range" p2) [a] [] pos2] [] pos) (kU g) :=
 PE.imp (lY (rF hc) hg hm (by decide +kernel) (fR (oO hg2 hm2 ha hs) kL he) (by decide) (by decide) he rfl) fun σ H Q ⟨B,G,ρ,r,sg,sb,st,eq,k⟩=>by
  unfold kU at eq
  split at eq
  ·rename_i kd j ej
   split at eq
   ·rename_i hj
    cases eq
    refine ⟨B,G,ρ,_,sg,sb,st,ej,fun vs G1 H1 E1 r1=>?_⟩
    obtain ⟨v,rfl,r2⟩:=fJ.one r1
    refine ⟨j,by rw [r2.int],fun rr hrr=>?_⟩
    refine ⟨rr,j,rfl,aV,hj.1,hj.2,fun l hl=>?_⟩
    have E2:=E1.trans (Ext.own (o:=.rng 0 j) E1.gh hrr)
    refine k _ G1 _ (E2.trans (Ext.own E2.gh hl)) ⟨l,_,rfl,E2.hh.free hl,E2.gh.free hl,aV,_,rfl,?_⟩
    rw [gq]
    exact kE j.toNat 0
   ·cases eq
  ·cases eq
end
theorem Cu {X:Cx} {elt tg iter:aP} {ifs:List aP} {scope:dO} {pos:e7} {ix:List (Option Nat)} {wi:TI} {g:TG} {tt:TT} {te:TE} (hc:X.calm=true) (S:CScope X scope ix) (hi:PI X tg iter wi) (h1:∀ s H fp,PG (inC X scope s H fp) tg g) (h2:∀ s H fp,PTS (inC X scope s H fp) ifs tt) (h3:∀ s H fp,PE (inC X scope s H fp) elt te)
 (hs:∀ x,cW iter X.env x=pure x:=by intro _;rfl):PE X (.ListComp elt [⟨tg,iter,ifs,0⟩] scope pos) (yq (mpS ix) wi g tt te):=zQ hc S hi ⟨h1,h2,h3⟩ hs
theorem um:∀ ns:List Int,(iJ ns).Nodup/\∀ x,x∈iJ ns↔x∈ns
 | []=>⟨D4,fun x=>Iff.rfl⟩
 | a::ns=>by
   obtain ⟨h1,h2⟩:=um ns
   show (if a∈ns then iJ ns else a::iJ ns).Nodup/\∀ x,x∈(if a∈ns then iJ ns else a::iJ ns)↔_
   by_cases m:a∈ns
   ·rw [if_pos m]
    refine ⟨h1,fun x=>?_⟩
    rw [h2,am]
    exact ⟨.inr,fun z=>z.elim (fun e=>e▸m) id⟩
   ·rw [if_neg m]
    refine ⟨bf.mpr ⟨fun z=>m ((h2 a).mp z),h1⟩,fun x=>?_⟩
    rw [am,am,h2]
section
variable {X:Cx} {a b e:aP} {es:List aP} {p pos:e7} {fa fb:Rho->Option Rv} {g:Rho->Option (List Rv)}
def FK:List Rv->Option Rv
 | [(_,.dK ks _)]=>some (.pu,.int ks.length)
 | _=>none
def xY:List Rv->Option Rv:=fun rs=>(p6 rs).or (FK rs)
theorem zT:lq X (.builtin "len") (fun xs H Q=>∃ a kvs,xs=[V.ref a]/\Rd H a (.dK kvs)/\Q (.int kvs.length) H):=by
 intro pins s σ H xs us Q I r h
 obtain ⟨a,kvs,rfl,ha,q⟩:=h
 obtain ⟨u,rfl,ru⟩:=lH r
 cases ru
 exact K5 I ha fun t s' I'=>⟨.int kvs.length,H,I',⟨t,rfl⟩,q⟩
theorem Cq {K:ac}:Cal K (fun xs H Q=>∃ a kvs,xs=[V.ref a]/\Rd H a (.dK kvs)/\Q (.int kvs.length) H) FK:=by
 intro B H0 G H rs c xs Q sg ra e k
 unfold FK at e
 split at e
 ·cases e
  obtain ⟨v,rfl,h⟩:=fJ.one ra
  obtain ⟨p,kvs,rfl,q,ek,d⟩:=h.dK sg
  refine ⟨p,kvs,rfl,q,?_⟩
  have:kvs.length=(kvs.map (·.1)).length:=(ab _).symm
  rw [this,ek]
  exact k _ G H (Ext.refl sg) rfl
 ·cases e
theorem GZ (hg:Gl X "len") (hm:X.mg "len" = none) (ha:PXA X (e::es) g) (he:ao (e::es) X.env=(false,b9 e X.env)::ao es X.env:=by exact bS rfl) (hpl:(cz pos (ao es X.env)).any (·.1)=false:=by rfl):PX X (.Call (.Name "len" p) (e::es) [] pos) (xB xY g):=by
 intro pins s σ H Q I q
 obtain ⟨B,G,ρ,c,sg,sb,st,eq,k⟩:=q
 unfold xB at eq
 split at eq
 ·cases eq
 ·rename_i rs er
  unfold xY at eq
  cases z:p6 rs with
  | some z' =>
    rw [z] at eq
    cases eq
    exact Ex hg hm ha he hpl pins s σ H Q I ⟨B,G,ρ,_,sg,sb,st,by unfold xB;rw [er];exact z,k⟩
  | none =>
    rw [z] at eq
    have:=FY (X:=X) (p:=p) (pos:=pos) zT Cq hg hm (by decide +kernel) ha (by decide) (by decide) he hpl
    exact this pins s σ H Q I ⟨B,G,ρ,c,sg,sb,st,by unfold xB;rw [er];exact eq,k⟩
theorem eP:∀ {ns:List Int} {us:List ae},eE (ns.map V.int) us->fN us ns
 | [],us,r=>by rw [iZ] at r;cases r;exact .nil
 | n::ns,us,r=>by
   rw [aw] at r
   cases r with
   | cons h t =>
     obtain ⟨tk,rfl⟩:=h
     exact .cons n tk (eP t)
theorem zp (hc:X.calm=true):lq X (.builtin "sum") (fun xs H Q=>∃ (p:ak) (ns:List Int),xs=[.ref p]/\SqL X.K H p (ns.map V.int)/\Q (.int ns.sum) H):=by
 intro pins s σ H xs us Q I r h
 obtain ⟨p,ns,rfl,hq,q⟩:=h
 obtain ⟨u,rfl,rx⟩:=lH r
 cases rx
 obtain ⟨its,rv,pl,hz⟩:=I.list hq
 have hi:=eP rv
 have hh:X.A.handled=none:=I.ok.hd hc
 obtain ⟨xs,hx⟩:=hi.allInts.items
 have hl':s.heap.IsList p (mP xs):=hx▸pl.isList
 refine sum_intListG hh hl' fun h' tk t' hk=>?_
 have e1:ns=xs.toList.map (·.1):=by
  rw [<- nums_intItems,<- hx]
  exact (show numsOf its.toArray.toList=ns from hi.numsOf).symm
 have e2:preSum (yI xs) xs.size=ns.sum:=by
  rw [preSum_eq,eC (by simp),e1]
 rw [e2]
 exact ⟨.int ns.sum,H,I.kept (t':=tk) hk,⟨t',rfl⟩,q⟩
def EO:List Rv->Option Rv
 | [(_,.lst ds)]=>match gL ds with
   | some ns=>some (.pu,.int ns.sum)
   | none=>none
 | _=>none
theorem FE {K:ac}:Cal K (fun xs H Q=>∃ (p:ak) (ns:List Int),xs=[.ref p]/\SqL K H p (ns.map V.int)/\Q (.int ns.sum) H) EO:=by
 intro B H0 G H rs c xs Q sg ra e k
 unfold EO at e
 split at e
 ·split at e
  ·rename_i ns en
   cases e
   obtain ⟨v,rfl,h⟩:=fJ.one ra
   obtain ⟨p,ys,rfl,q,d⟩:=h.lst sg
   rw [gT en] at d
   have:=cO.ints.mp d
   subst this
   exact ⟨p,ns,rfl,q,k _ G H (Ext.refl sg) rfl⟩
  ·cases e
 ·cases e
theorem J2 (hc:X.calm=true) (hg:Gl X "sum") (hm:X.mg "sum" = none) (ha:PXA X (e::es) g) (he:ao (e::es) X.env=(false,b9 e X.env)::ao es X.env:=by exact bS rfl) (hpl:(cz pos (ao es X.env)).any (·.1)=false:=by rfl):PX X (.Call (.Name "sum" p) (e::es) [] pos) (xB EO g) :=
 FY (zp hc) FE hg hm (by decide +kernel) ha (by decide) (by decide) he hpl
def tF (fk fv:Rho->Option Rv):Rho->Option Rv:=fun ρ=>match fk ρ,fv ρ with
 | some (_,.int i),some r=>if e5 r=true then some (.fr,.dK [.inl i] [r.2]) else none
 | _,_=>none
theorem Cp (ha:PX X a fa) (hb:PX X b fb):PX X (.Dict [some a] [b] pos) (tF fa fb) :=
 PE.imp (Fs (wQ ha hb AT) rfl rfl (by simp) (show 1<=15 by decide)) fun σ H Q ⟨B,G,ρ,r,sg,sb,st,eq,k⟩ p hp=>by
  unfold tF at eq
  split at eq
  ·rename_i kd i rv efa efb
   split at eq
   ·rename_i hpu
    cases eq
    have E0:Ext G H G (upd H p (.dK [])):=Ext.own sg hp
    refine ⟨B,G,ρ,_,E0.gh,sb.trans E0.hh,st.ext E0,efa,fun x G1 H1 E1 r1=>⟨B,G1,ρ,_,E1.gh,(sb.trans E0.hh).trans E1.hh,(st.ext E0).ext E1,efb,fun y G2 H2 E2 r2=>?_⟩⟩
    obtain ⟨G3,E3,_,d3⟩:=r2.pure E2 hpu
    have E03:=(E0.trans E1).trans E3
    have hp2:H2 p=some (.dK []):=(E1.trans E3).hh _ _ aV
    have gp:G3 p=none:=(E1.trans E3).nw p _ aV rfl (sg.free hp)
    have ex:x=.int i:=r1.int
    subst ex
    refine ⟨hp2,[(.inl i,y)],rfl,by simp,?_⟩
    refine k _ G3 _ (E03.mut hp gp) ⟨p,_,rfl,hp,gp,aV,[(.inl i,y)],rfl,rfl,⟨y,[],rfl,d3,rfl⟩⟩
   ·cases eq
  ·cases eq
end
section
variable {X:Cx} {elt tg iter:aP} {ifs:List aP} {scope:dO} {pos spos pos':e7} {ix:List (Option Nat)} {wi:TI} {gt:TG} {tt:TT} {te:TE}
theorem FP {i:Nat} {x:bH} (hN:X.N.Nodup) (hi:X.N[i]?=some x) (hx:X.env.scope.names.lookup x=some .local) (hc:X.calm=true) (S:CScope X scope ix) (hit:PI X tg iter wi) (B:EV X scope tg elt ifs gt tt te) (hs:∀ x,cW iter X.env x=pure x)
 (hsw:ff (.ListComp elt [⟨tg,iter,ifs,0⟩] scope pos) (some (.Name x pos')) spos.line X.env=pure true) :
 PS X (.Assign [.Name x pos'] (.ListComp elt [⟨tg,iter,ifs,0⟩] scope pos) spos) (EH (yq (mpS ix) wi gt tt te) (kC i)):=by
 intro pins s σ H D I h
 rw [exec_Assign_Name_used _ _ _ _ hsw]
 refine aa (g4 (aa ?_))
 show aM _ _ (evalThenUse (.ListComp elt [⟨tg,iter,ifs,0⟩] scope pos) X.env (jH (.Name x pos') X.env)) _ _ s
 unfold evalThenUse
 refine aa (dz (Q:=fun _ s'=>∃ σ' H',Inv X pins σ' H' s'/\D.nx σ' H') (xK (use:=some (jH (.Name x pos') X.env)) rfl hs (kQ (S.cells I)) S.kind (fun y hy hl=>S.names (by rw [<- hl];exact hy)) ?_) (fun _ s' hq=>al (al hq)) fun _ _ z=>z)
 refine thn (hit pins s σ H _ I h) fun v s1 h1=>thn h1 fun itv s2 h2=>?_
 obtain ⟨it,fp,tn,J,H2,rfl,I2,T,st2,f2,hq⟩:=h2
 obtain ⟨W,⟨m0,w0⟩,turn⟩:=hq s2.heap.objs.size I2.fresh
 refine cy ?_
 have I3:Inv X pins σ (upd H2 s2.heap.objs.size (.lst [])) { s2 with heap:=s2.heap.push { cls:=.type "list",data:=.seq ([]:List ae).toArray } }:=I2.lnew (its:=[]) (t':=s2.toks) .nil (bW _)
 have lt2:∀ b∈fp,b<s2.heap.objs.size:=fun b hb=>by obtain ⟨o,e,_⟩:=T.obj _ _ st2 b hb;exact aF e
 have f3:∀ b∈fp,yh X pins (upd H2 s2.heap.objs.size (.lst [])) b:=fun b hb=>⟨by rw [bq (bu (lt2 b hb))];exact (f2 b hb).1,(f2 b hb).2⟩
 refine qI S I3 (fp:=fp) (fun b hb=>⟨f3 b hb,?_⟩) fun env h4 ee el I4 keep4=>?_
 ·show b<(s2.heap.push _).objs.size
  rw [jc]
  exact BI (lt2 b hb)
 rw [ee,el]
 have st4:tn 0 h4:=T.keep _ _ _ st2 fun b hb o e=>keep4 b o (af _ e)
 have fin:∀ σ1 H1 s1,Inv (inC X scope { s2 with heap:=s2.heap.push { cls:=.type "list",data:=.seq ([]:List ae).toArray } } (upd H2 s2.heap.objs.size (.lst [])) fp) [] σ1 H1 s1->kC i (.ref s2.heap.objs.size) σ H1 D.nx ->
  B5 (be X.prog X.w) X.A X.xe (some (jH (.Name x pos') X.env)) (fun _ s'=>∃ σ' H',Inv X pins σ' H' s'/\D.nx σ' H') (.ref s2.heap.objs.size) ((s2.heap.push { cls:=.type "list",data:=.seq ([]:List ae).toArray }).objs.size) (.ok .next) s1:=fun σ1 H1 s1 I1 q1=>by
  obtain ⟨m,hn,_⟩:=I1.loc
  have J1:=ue I3 f3 I1
  show aM _ _ (jH (.Name x pos') X.env (.ref s2.heap.objs.size)) _ _ s1
  have ea:jH (.Name x pos') X.env (.ref s2.heap.objs.size)=(do pT pos';bindName X.env x (.ref s2.heap.objs.size)):=rfl
  rw [ea]
  refine aa (g4 ?_)
  unfold bindName
  refine aa (cP (wpAny_point ?_))
  refine aa (tZ (i:=i) (v:=V.ref s2.heap.objs.size) J1 hN hi (.inl hx) rfl (fun s5 I5 ⟨ad,sb5,ha5⟩=>wpAny_point ?_) (.inr hx))
  have hC:ad≠(s2.heap.push { cls:=.type "list",data:=.seq ([]:List ae).toArray }).objs.size:=fun z=>by
   have hlt:=I3.lt
   rcases ha5 with e | e
   ·rw [<- z,e] at hlt;exact absurd hlt (b8 _)
   ·obtain ⟨w,hw⟩:=I3.cell _ _ e
    have:=hw.lt
    rw [z] at this
    exact absurd this (b8 _)
  exact ⟨m,hn.sameBut sb5 (Ne.symm hC),fun h' hs'=>⟨_,H1,uu I3 f3 I1 I5 hs',q1⟩⟩
 have loop:=uE (iter:=iter) (pos:=pos) (Q:=fun v H1=>kC i v σ H1 D.nx) (R:=B5 (be X.prog X.w) X.A X.xe (some (jH (.Name x pos') X.env)) (fun _ s'=>∃ σ' H',Inv X pins σ' H' s'/\D.nx σ' H') (.ref s2.heap.objs.size) ((s2.heap.push { cls:=.type "list",data:=.seq ([]:List ae).toArray }).objs.size)) hc I3 f3 T B W turn fin m0 (mpS ix σ) I4 st4 w0
 exact yW loop (T.self X.A 0 _ _ _ st4 loop)
end
section
variable {X:Cx} {elt tg iter:aP} {ifs:List aP} {scope:dO} {pos spos pos':e7} {ix:List (Option Nat)} {fi:Rho->Option (List Da)} {t:Da->Rho->Option Rho} {c:Rho->Option Bool} {f:Rho->Option Rv}
theorem DC {i:Nat} {x:bH} (hN:X.N.Nodup) (hc:X.calm=true) (S:CScope X scope ix) (hi:PXI X tg iter fi) (B:FR X scope tg elt ifs t c f) (hj:X.N[i]?=some x:=by rfl) (hx:X.env.scope.names.lookup x=some .local:=by rfl)
 (hs:∀ x,cW iter X.env x=pure x:=by intro _;rfl) (hsw:ff (.ListComp elt [⟨tg,iter,ifs,0⟩] scope pos) (some (.Name x pos')) spos.line X.env=pure true:=by rfl) :
 PXS X (.Assign [.Name x pos'] (.ListComp elt [⟨tg,iter,ifs,0⟩] scope pos) spos) (lP i (fy ix fi t c f)) :=
 PS.imp (FP hN hj hx hc S hi ⟨B.tg,B.ifs,B.elt⟩ hs hsw) fun D σ H ⟨B,G0,G,ρ,E,st,k⟩=>by
  unfold lP at k
  cases q:fy ix fi t c f ρ with
  | none=>rw [q] at k;exact k.elim
  | some r =>
    rw [q] at k
    dsimp only at k
    split at k
    ·rename_i hk
     refine Ay S ⟨B,G,ρ,r,E.gh,E.hh,st,q,fun v G1 H1 E1 r1=>?_⟩
     obtain ⟨G2,E2,_,d2⟩:=r1.pure E1 hk
     exact k _ G2 H1 (E.trans E2) E2.gg ((st.ext E2).setPu d2)
    ·exact k.elim
end
section
variable {X:Cx} {pins:List (ak×dm)} {σ:St} {H:Hp} {s:ai} {l:ak} {o:HO} {ob:dm}
theorem LX (I:Inv X pins σ H s) (e:H l=some (.frz ob o)) (n1:∀ ob u,X.H₀ l≠some (.frz ob u)):Inv X pins σ (upd H l o) s:=by
 have nn:∀ {b:ak},H b=none->b≠l:=fun n z=>by rw [z,e] at n;cases n
 have ne:∀ {b:ak} {w:HO},H b=some w->(∀ ob u,w≠.frz ob u)->b≠l:=fun q n z=>by rw [z,e] at q;exact n _ _ (bR q).symm
 refine ⟨I.ok,I.os,I.bare,⟨I.base.keep,I.base.slot,fun b w q n hx=>?_,I.base.there,fun b xs q=>?_,fun b w u q=>?_,fun b ps q=>?_⟩,I.loc,I.cell,?_,fun x c q=>?_,fun p hp=>?_,fun b v q=>?_,I.len⟩
 ·have z:=I.base.free b w q n hx
  rw [bq (nn z)];exact z
 ·have z:=I.base.tups b xs q
  rw [bq (ne z (fun _ _ y=>by cases y))];exact z
 ·have z:=I.base.frzs b w u q
  rw [bq (fun y=>n1 w u (by rw [<- y];exact q))];exact z
 ·obtain ⟨m,z⟩:=I.base.tbls b ps q
  exact ⟨m,by rw [bq (ne z (fun _ _ y=>by cases y))];exact z⟩
 ·rw [bq (nn I.free)];exact I.free
 ·rw [bq (nn (I.freeC x c q))];exact I.freeC x c q
 ·obtain ⟨a,b,c⟩:=I.pin p hp
  exact ⟨a,by rw [bq (nn b)];exact b,c⟩
 ·have hown:∀ c y,H c=some (.own y)->upd H l o c=some (.own y):=fun c y z=>by rw [bq (ne z (fun _ _ y=>by cases y))];exact z
  have htup:∀ c xs,H c=some (.tup xs)->upd H l o c=some (.tup xs):=fun c xs z=>by rw [bq (ne z (fun _ _ y=>by cases y))];exact z
  have hcod:∀ c x,H c=some (.cod x)->upd H l o c=some (.cod x):=fun c x z=>by rw [bq (ne z (fun _ _ y=>by cases y))];exact z
  by_cases hb:b=l
  ·subst hb
   rw [aV] at q
   cases q
   obtain ⟨_,ok⟩:=I.hok b _ e
   exact gO.stay ok (fun _ _ _ z=>z) (fun c z=>hown c _ z) htup hcod
  ·rw [bq hb] at q
   exact (I.hok b v q).stay (fun _ _ _ z=>z) (fun c z=>hown c _ z) htup hcod
end
def uj:Da->Bool
 | .non=>true
 | .bl _=>true
 | .int _=>true
 | .str _=>true
 | _=>false
theorem FQ {K:ac} {B H0 G H:Hp} {k:Kd} {d:Da} {v:V} (h:gZ K B H0 G H (k,d) v) (f:uj d=true):∀ {B' H0' G' H':Hp},gZ K B' H0' G' H' (.pu,d) v:=by
 intro B' H0' G' H'
 cases d with
 | non=>exact h.non
 | bl b=>exact h.bl
 | int i=>exact h.int
 | str x=>exact h.str
 | _=>cases f
def yd (i:Nat) (f:Rho->Option Rv):Rho->Option Rv:=fun ρ=>match ρ[i]? with
 | some (.ow d)=>if nQ d=true then (match f (ρ.set i (.pu d)) with
   | some (_,r)=>if uj r=true then some (.pu,r) else none
   | none=>none) else none
 | _=>none
theorem tG {K:ac} {G G':Hp}:∀ {ds:List Da} {xs:List V},ds.all uj=true->cO K G ds xs->cO K G' ds xs
 | [],_,_,h=>h
 | d::ds,xs,f,h=>by
   rw [List.all_cons,aY] at f
   obtain ⟨v,r,rfl,hv,hr⟩:=h
   refine ⟨v,r,rfl,?_,tG f.2 hr⟩
   have f1:=f.1
   cases d with
   | non=>exact hv
   | bl b=>exact hv
   | int i=>exact hv
   | str x=>exact hv
   | _=>cases f1
def E8 (r:Rv):Option Rv:=if uj r.2=true then some (.pu,r.2) else match r with
 | (.fr,.lst ds)=>if ds.all uj=true then some (.fr,.lst ds) else none
 | _=>none
theorem HP {K:ac} {B H0 G H B' H0' G' H':Hp} {r r':Rv} {v:V} {l:ak} (h:gZ K B H0 G H r v) (e:E8 r=some r') (h0:∀ b,H0 b=none->b≠l/\H0' b=none) (hg:∀ b,G b=none->G' b=none) (hh:∀ b w,b≠l->H b=some w->H' b=some w):gZ K B' H0' G' H' r' v:=by
 unfold E8 at e
 split at e
 ·rename_i hf
  cases e
  exact FQ (k:=r.1) h hf
 ·split at e
  ·rename_i ds _
   split at e
   ·rename_i hi
    cases e
    obtain ⟨a,o,rfl,n0,g,q,xs,rfl,dl⟩:=h
    obtain ⟨ne,n0'⟩:=h0 a n0
    exact ⟨a,_,rfl,n0',hg a g,hh a _ ne q,xs,rfl,tG hi dl⟩
   ·cases e
  ·cases e
def mv (i:Nat) (f:Rho->Option Rv):Rho->Option Rv:=fun ρ=>match ρ[i]? with
 | some (.ow d)=>if nQ d=true then (match f (ρ.set i (.pu d)) with
   | some r=>E8 r
   | none=>none) else none
 | _=>none
theorem zS {X:Cx} {pins:List (ak×dm)} {s:ai} {σ:St} {B G H:Hp} {ρ:Rho} {i:Nat} {d:Da} (I:Inv X pins σ H s) (sg:cQ G H) (sb:cQ B H) (st:iC X.K B G H σ ρ) (ed:ρ[i]?=some (.ow d)) (hd:nQ d=true) :
 ∃ G1 H1,Inv X pins σ H1 s/\cQ G1 H1/\cQ B H1/\iC X.K B G1 H1 σ (ρ.set i (.pu d))/\∀ (σ2:St) (s2:ai) (G2 H2:Hp) (r r':Rv) (v:V),Inv X pins σ2 H2 s2->Ext G1 H1 G2 H2->gZ X.K B H1 G2 H2 r v->E8 r=some r'->∃ G3 H3,Inv X pins σ2 H3 s2/\Ext G H G3 H3/\gZ X.K B H G3 H3 r' v:=by
 obtain ⟨l,o,es,nb,ng,hl,ho⟩:=st.ow i d ed
 have hi:i<ρ.length:=(aE.mp ed).1
 have hdc:=(ho.dct hd).1
 obtain ⟨ob,I1⟩:=DM I hl hdc
 have n1:∀ ob u,X.H₀ l≠some (.frz ob u):=fun ob u z=>by
  have:=I.base.frzs l ob u z
  rw [hl] at this
  rcases hdc with ⟨_,y⟩ | ⟨_,y⟩<;>(subst y;cases this)
 have sG:cQ G (upd G l (.frz ob o)):=cw ng
 have st1:iC X.K B (upd G l (.frz ob o)) (upd H l (.frz ob o)) σ (ρ.set i (.pu d)):=by
  refine ⟨by rw [bU];exact st.len,fun j d1 q=>?_,fun j d1 q=>?_,fun j j' d1 d2 l' hjj q1 q2 s1 s2=>?_,st.tg.mono sG⟩
  ·by_cases ej:i=j
   ·subst ej
    rw [aZ hi] at q
    cases q
    exact ⟨_,es,((ho.mono sG).dct hd).2 l ob aV⟩
   ·rw [ba ej] at q
    obtain ⟨v,a,b⟩:=st.pu j d1 q
    exact ⟨v,a,Den.mono sG d1 b⟩
  ·by_cases ej:i=j
   ·subst ej;rw [aZ hi] at q;cases q
   ·rw [ba ej] at q
    obtain ⟨l0,o0,a,b,c',f0,g0⟩:=st.ow j d1 q
    have ne:l0≠l:=fun z=>by subst z;exact st.ap i j d d1 l0 ej ed q es a
    exact ⟨l0,o0,a,b,by rw [bq ne];exact c',by rw [bq ne];exact f0,g0.mono sG⟩
  ·have back:∀ (m:Nat) (d0:Da),(ρ.set i (.pu d))[m]?=some (Sl.ow d0)->ρ[m]?=some (Sl.ow d0):=fun m d0 q=>by
    by_cases em:i=m
    ·subst em;rw [aZ hi] at q;cases q
    ·rw [ba em] at q;exact q
   exact st.ap j j' d1 d2 l' hjj (back _ _ q1) (back _ _ q2) s1 s2
 refine ⟨_,_,I1,ky sg,kY sb nb,st1,fun σ2 s2 G2 H2 r r' v I2 E2 r2 eq=>?_⟩
 have hl2:H2 l=some (.frz ob o):=E2.hh _ _ aV
 refine ⟨fun b=>if b=l then none else G2 b,_,LX I2 hl2 n1,⟨fun b w z=>?_,fun b w z=>?_,fun b w z=>?_,fun b w z t y=>?_⟩,HP (l:=l) r2 eq (fun b z=>?_) (fun b z=>?_) fun b w hb z=>?_⟩
 ·by_cases hb:b=l
  ·subst hb;rw [aV,<- z];exact hl.symm
  ·rw [bq hb];exact E2.hh b w (by rw [bq hb];exact z)
 ·have hb:b≠l:=b7 z ng
  show (if b=l then none else G2 b)=some w
  rw [if_neg hb]
  exact E2.gg b w (by rw [bq hb];exact z)
 ·have z:(if b=l then none else G2 b)=some w:=z
  by_cases hb:b=l
  ·rw [if_pos hb] at z;cases z
  ·rw [if_neg hb] at z
   rw [bq hb]
   exact E2.gh b w z
 ·show (if b=l then none else G2 b)=none
  by_cases hb:b=l
  ·rw [if_pos hb]
  ·rw [if_neg hb]
   exact E2.nw b w (by rw [bq hb];exact z) t (by rw [bq hb];exact y)
 ·have hb:b≠l:=fun y=>by subst y;rw [aV] at z;cases z
  rw [bq hb] at z
  exact ⟨hb,z⟩
 ·show (if b=l then none else G2 b)=none
  split
  ·rfl
  ·exact z
 ·rw [bq hb]
  exact z
theorem wK (i:Nat) {X:Cx} {e:aP} {f:Rho->Option Rv} (h:PX X e f):PX X e (mv i f):=by
 intro pins s σ H Q I ⟨B,G,ρ,r,sg,sb,st,eq,k⟩
 unfold mv at eq
 split at eq
 ·rename_i d ed
  split at eq
  case isFalse=>cases eq
  case isTrue hd =>
  split at eq
  ·rename_i rr efr
   obtain ⟨G1,H1,I1,sg1,sb1,st1,back⟩:=zS I sg sb st ed hd
   refine thn (h pins s σ _ (fun v H2=>∃ G2,Ext G1 H1 G2 H2/\gZ X.K B H1 G2 H2 rr v) I1 ⟨B,_,_,_,sg1,sb1,st1,efr,fun v G2 H2 E2 r2=>⟨G2,E2,r2⟩⟩) fun u s' ⟨v,H2,I2,ru,G2,E2,r2⟩=>?_
   obtain ⟨G3,H3,I3,E3,r3⟩:=back σ s' G2 H2 rr r v I2 E2 r2 eq
   exact ⟨v,H3,I3,ru,k v G3 H3 E3 r3⟩
  ·cases eq
 ·cases eq
theorem PX.le {X:Cx} {e:aP} {f g:Rho->Option Rv} (h:PX X e f) (hl:∀ ρ r,g ρ=some r->f ρ=some r):PX X e g :=
 fun pins s σ H Q I ⟨B,G,ρ,r,sg,sb,st,eq,k⟩=>h pins s σ H Q I ⟨B,G,ρ,r,sg,sb,st,hl ρ r eq,k⟩
theorem GQ (i:Nat) {X:Cx} {e:aP} {f:Rho->Option Rv} (h:PX X e f):PX X e (yd i f):=(wK i h).le fun ρ r eq=>by
 unfold yd at eq
 unfold mv
 split at eq
 ·split at eq
  case isFalse=>cases eq
  case isTrue hd =>
  split at eq
  ·rename_i efr
   split at eq
   ·rename_i hfl
    cases eq
    rw [if_pos hd,efr]
    exact if_pos hfl
   ·cases eq
  ·cases eq
 ·cases eq
section
variable {O:fC} {key:Nat->O.α} {n:Nat}
def J7 (O:fC) (key:Nat->O.α) {α:Type}:q5 α->α
 | .ret a=>a
 | .ask i j k=>J7 O key (k (O.blt (key i) (key j)))
theorem eW.det {α:Type} {Q:α->Prop}:∀ {t:q5 α},eW O key n t Q->eW O key n t (fun a=>Q a/\a=J7 O key t)
 | .ret _,q=>⟨q,rfl⟩
 | .ask i j k,q=>⟨q.1,q.2.1,eW.det (t:=k (O.blt (key i) (key j))) q.2.2⟩
theorem eW.run {α:Type} {Q:α->Prop}:∀ {t:q5 α},eW O key n t Q->Q (J7 O key t)
 | .ret _,q=>q
 | .ask i j k,q=>eW.run (t:=k (O.blt (key i) (key j))) q.2.2
def nJ (O:fC) (d:O.α) (ks:List O.α):List Nat:=if ks.length<2 then bG ks.length else (J7 O (fun i=>ks.getD i d) (mQ ks.length)).toList
theorem kI (O:fC) (d:O.α) (ks:List O.α):(nJ O d ks).Perm (bG ks.length)/\((nJ O d ks).map fun i=>ks.getD i d).Pairwise O.kle:=by
 unfold nJ
 split
 ·rename_i h
  refine ⟨.refl _,?_⟩
  match ks,h with
  | [],_=>exact .nil
  | [a],_=>exact aS _ _
  | _::_::_,h=>simp at h;lia
 ·rename_i h
  obtain ⟨hp,hu⟩:=eW.run (O:=O) (key:=fun i=>ks.getD i d) (n:=ks.length) (vk (Q:=fun p=>gf ks.length p/\rj O (fun i=>ks.getD i d) p ks.length) (by lia) fun p hp hu=>⟨hp,hu⟩)
  exact ⟨by simpa using cL.mp hp.perm,lK hp d hu⟩
theorem xa (O:fC) (d:O.α) (ks:List O.α):(nJ O d ks).length=ks.length:=by rw [(kI O d ks).1.length_eq,dZ]
theorem rR {O:fC} {d:O.α} {ks:List O.α} {i:Nat} (h:i∈nJ O d ks):i<ks.length:=by simpa using (kI O d ks).1.mem_iff.mp h
end
section
variable {prog:bA} {w:cb} {A:bK} {s:ai}
theorem qc {r:ak} {j:Int} {t u v:yP} (hh:A.handled=none) (hr:IsRange s.heap r 0 j 1 t u v) (j1 : -(2 ^ 62)<=j) (j2:j<=1000000) :
 ∀ (E:ae->ai->Prop) (R:List ae->ai->Prop),(∀ h' tk acc,(∀ b o,s.heap.get? b=some o->h'.get? b=some o)->ItemsOf (fun i v=>∃ t,v=.int (0+i*1) t) acc j.toNat->R acc.toList { s with heap:=h',toks:=tk })->aM (be prog w) A (uM (.ref r)) R E s:=by
 intro E R h
 have hsz:aL=16777216:=bE
 unfold uM
 refine aa (wpAny_runValue (eD B8 ?_))
 rw [dJ PySem.F.plain_proto_collect _]
 show aM _ A.in1 (newList []>>=fun l=>again (.builtin "list.__iadd__" ⟨[l,.ref r],[]⟩)) _ _ s
 refine aa (cy ?_)
 refine al ⟨gr qr _,eD entry_list_iadd' ?_⟩
 rw [dJ qr _]
 have hS₁:(s.heap.push { cls:=.type "list",data:=.seq ([]:List ae).toArray }).get? s.heap.objs.size=some { cls:=.type "list",data:=.seq #[] }:=aH _ rfl
 show aM _ A.in1 (ib (.ref s.heap.objs.size) (.ref r) (.ref s.heap.objs.size)) _ _ _
 have key:=wpAny_extend_range (prog:=prog) (w:=w) (A:=A) (s:={ s with heap:=s.heap.push { cls:=.type "list",data:=.seq ([]:List ae).toArray } })
  (R:=fun (q:yQ) (s':ai)=>∃ (h':cr) (tk:Nat) (acc':Array ae) (c':Nat),q=.ok (.ret (.ref s.heap.objs.size))/\s'={ s with heap:=h',toks:=tk } /\
    (∀ b o,s.heap.get? b=some o->h'.get? b=some o)/\h'.get? s.heap.objs.size=some { cls:=.type "list",dict:=none,data:=.seq acc' c',slots:=#[] }/\ItemsOf (fun i v=>∃ t,v=.int (0+i*1) t) acc' j.toNat)
  (n:=j.toNat) hh (af _ hr) (small_one (by lia) (by lia) (by lia) (by lia)) (by rw [xG];split<;>lia) (by lia) s.heap.objs.size (.ref s.heap.objs.size) 0 hS₁
  (fun h' tk acc' c' hk hS' hacc=>⟨h',tk,acc',c',rfl,rfl,fun b o e=>hk b o (bu (aF e)) (af _ e),hS',hacc⟩)
 refine dz key (fun fin s' x=>?_) fun e s' x=>?_
 ·cases fin with
  | done f =>
    obtain ⟨h',tk,acc',c',e,rfl,hk,hS',hacc⟩:=x
    cases e
    show aM _ A (load s.heap.objs.size>>=_) _ _ _
    refine aa (ou hS' ?_)
    exact al (h h' tk acc' hk hacc)
  | again c₁ =>
    refine ⟨x.1,pU x.2 fun q s₂ y=>?_⟩
    obtain ⟨h',tk,acc',c',rfl,rfl,hk,hS',hacc⟩:=y
    show aM _ A (load s.heap.objs.size>>=_) _ _ _
    refine aa (ou hS' ?_)
    exact al (h h' tk acc' hk hacc)
 ·obtain ⟨_,_,_,_,e',_⟩:=x
  cases e'
end
section
variable {X:Cx} {pins:List (ak×dm)} {σ:St} {H:Hp} {s:ai}
theorem _root_.L2.Inv.pinNew {o:dm} {p:ak} {h':cr} {t':Nat} (I:Inv X pins σ H s) (k:∀ b u,s.heap.get? b=some u->h'.get? b=some u) (hp:s.heap.objs.size<=p) (ho:h'.get? p=some o) (hd:∀ v,o.data≠.cell v) :
 Inv X ((p,o)::pins) σ H { s with heap:=h',toks:=t' }:=by
 have I':=I.kept (t':=t') k
 refine I'.pins_of fun q hq=>?_
 rcases am.mp hq with rfl | hq
 ·refine ⟨ho,I.hok.fresh hp,?_,I.nofs hp,hd⟩
  intro z
  have z:p=X.env.locals:=z
  exact absurd (bi (z▸I.lt) hp) (b8 _)
 ·exact I'.pin q (aU _ hq)
theorem _root_.L2.Inv.pinSet {o o':dm} {p:ak} {h':cr} {t':Nat} (I:Inv X ((p,o)::pins) σ H s) (k:∀ b u,b≠p->s.heap.get? b=some u->h'.get? b=some u) (ho:h'.get? p=some o') (hd:∀ v,o'.data≠.cell v) (h0:X.s₀.heap.objs.size<=p) (hne:∀ q∈X.pn++pins,q.1≠p) :
 Inv X ((p,o')::pins) σ H { s with heap:=h',toks:=t' }:=by
 obtain ⟨e,n,nl,nf,nc⟩:=I.pin (p,o) (aU _ ah)
 have I1:Inv X pins σ H s:=I.pins_of fun q hq=>I.pin q (aU _ (ag _ hq))
 have I2:=I1.turned (t':=t') k n nl (.inr h0) (fun x c hc z=>by
  obtain ⟨v,oc,hoc,hdc⟩:=I.cell x c hc
  rw [z] at hoc
  dsimp only at e
  rw [e] at hoc
  cases hoc
  exact nc v hdc) hne
 refine I2.pins_of fun q hq=>?_
 rcases am.mp hq with rfl | hq
 ·exact ⟨ho,n,nl,nf,hd⟩
 ·exact I2.pin q (aU _ hq)
theorem _root_.L2.Inv.adopt {o:dm} {p:ak} {u:HO} (I:Inv X ((p,o)::pins) σ H s) (h0:X.s₀.heap.objs.size<=p) (hne:∀ q∈X.pn++pins,q.1≠p) (new:gO X.prog X.w (upd H p u) s.heap p u):Inv X pins σ (upd H p u) s:=by
 obtain ⟨e,n,nl,nf,nc⟩:=I.pin (p,o) (aU _ ah)
 dsimp only at e n nl nf nc
 have nb:∀ b w,X.s₀.heap.get? b=some w->b≠p:=fun b w q=>bu (bi (aF q) h0)
 have cne:∀ x c,X.env.cells.lookup x=some c->c≠p:=fun x c hc z=>by
  obtain ⟨v,oc,hoc,hdc⟩:=I.cell x c hc
  rw [z,e] at hoc
  cases hoc
  exact nc v hdc
 have up:∀ {b:ak} {w:HO},H b=some w->upd H p u b=some w:=fun {b w} q=>by rw [bq (b7 q n)];exact q
 refine ⟨I.ok,I.os,I.bare,⟨I.base.keep,I.base.slot,fun b w q z hx=>?_,I.base.there,fun b xs q=>up (I.base.tups b xs q),fun b w q z=>up (I.base.frzs b w q z),fun b ps q=>?_⟩,I.loc,I.cell,?_,fun x c hc=>?_,fun q hq=>?_,fun b w q=>?_,I.len⟩
 ·rw [bq (nb b w q)];exact I.base.free b w q z hx
 ·obtain ⟨m,z⟩:=I.base.tbls b ps q
  exact ⟨m,up z⟩
 ·rw [bq (Ne.symm nl)];exact I.free
 ·rw [bq (cne x c hc)];exact I.freeC x c hc
 ·obtain ⟨a1,a2,a3⟩:=I.pin q (by
   rcases az.mp hq with z | z
   ·exact bw _ z
   ·exact aU _ (ag _ z))
  exact ⟨a1,by rw [bq (hne q hq)];exact a2,a3⟩
 ·by_cases hb:b=p
  ·subst hb;rw [aV] at q;cases q;exact new
  ·rw [bq hb] at q
   exact (I.hok b w q).stay (fun _ _ _ z=>z) (fun c z=>up z) (fun c xs z=>up z) fun c x z=>up z
end
def DN (X:Cx) (A:bK) (f:ae) (σ:St) (G0 H0:Hp) (lam:Da->Option Da):Prop :=
 ∀ (pins:List (ak×dm)) (s:ai) (G H:Hp) (d r:Da) (v:V) (u:ae),Ext G0 H0 G H->Inv X pins σ H s->Den X.K G d v->gD v u->lam d=some r ->
   aM (be X.prog X.w) A (call f [u]) (fun u' s'=>∃ v' G' H',Inv X pins σ H' s'/\gD v' u'/\Ext G H G' H'/\Den X.K G' r v') (fun _ _=>False) s
def BX (lam:Da->Option Da):List Da->Option (List Da)
 | []=>some []
 | d::ds=>match lam d with
   | none=>none
   | some r=>match BX lam ds with
     | none=>none
     | some rs=>some (r::rs)
theorem wZ {lam:Da->Option Da}:∀ {ds kd:List Da} {j:Nat} {d:Da},BX lam ds=some kd->ds[j]?=some d->∃ r,lam d=some r/\kd[j]?=some r
 | [],_,_,_,_,e=>by simp at e
 | d::ds,kd,j,x,h,e=>by
   unfold BX at h
   split at h
   ·cases h
   ·rename_i r er
    split at h
    ·cases h
    ·rename_i rs ers
     cases h
     cases j with
     | zero=>simp at e;subst e;exact ⟨r,er,rfl⟩
     | succ j=>simpa using wZ (j:=j) ers (by simpa using e)
theorem mo {lam:Da->Option Da}:∀ {ds kd:List Da},BX lam ds=some kd->kd.length=ds.length
 | [],_,h=>by cases h;rfl
 | d::ds,kd,h=>by
   unfold BX at h
   split at h
   ·cases h
   ·split at h
    ·cases h
    ·rename_i rs ers
     cases h
     rw [aG,aG,mo ers]
def wO (prog:bA) (w:cb) (A:bK) (s:ai) (us:List ae) (O:fC) (κ:iz) (key:Nat->O.α):Prop :=
 (2<=us.length->∀ Q:iz->ai->Prop,Q κ s->aM (be prog w) A (B7 us.toArray) Q (fun _ _=>False) s) /\
 ∀ i j (C:Bool->ai->Prop),i<us.length->j<us.length->C (O.blt (key i) (key j)) s->iA prog w A κ us i j C s
theorem Bq {O:fC} {d:O.α} {ks:List O.α} {p:List Nat} (hn:ks.Nodup) (hp:p.Perm (bG ks.length)) (hs:(p.map fun i=>ks.getD i d).Pairwise O.kle):p=nJ O d ks:=by
 obtain ⟨h1,h2⟩:=kI O d ks
 have e:(p.map fun i=>ks.getD i d)=(nJ O d ks).map fun i=>ks.getD i d:=gc ((hp.trans h1.symm).map _) hs h2
 have inj:∀ i j,i<ks.length->j<ks.length->ks.getD i d=ks.getD j d->i=j:=fun i j hi hj e=>by
  rw [aB,aj hi,aB,aj hj] at e
  exact (iq hn).mp e
 have go:∀ (p q:List Nat),(∀ i∈p,i<ks.length)->(∀ i∈q,i<ks.length)->(p.map fun i=>ks.getD i d)=(q.map fun i=>ks.getD i d)->p=q:=fun p=>by
  induction p with
  | nil=>intro q _ _ e;cases q with
    | nil=>rfl
    | cons _ _=>cases e
  | cons i p ih=>intro q hp hq e;cases q with
    | nil=>cases e
    | cons j q =>
      rw [aw,aw] at e
      injection e with e1 e2
      rw [inj i j (hp i ah) (hq j ah) e1,ih q (fun i hi=>hp i (ag _ hi)) (fun i hi=>hq i (ag _ hi)) e2]
 exact go _ _ (fun i hi=>by simpa using hp.mem_iff.mp hi) (fun i hi=>rR hi) e
section
variable {prog:bA} {w:cb} {A:bK} {E:ae->ai->Prop} {s:ai} {O:fC} {κ:iz} {d:O.α} {kl:List O.α} {ks vs:List ae}
theorem zG (hl:ks.length=vs.length) (h2:2<=vs.length) (hk:kl.length=vs.length) (h64:OkN kl)
 (lt:∀ i j (C:Bool->ai->Prop),i<vs.length->j<vs.length->C (O.blt (kl.getD i d) (kl.getD j d)) s->iA prog w A κ ks i j C s) :
 aM (be prog w) A ((sortRuns').run (pN κ (ks.toArray.zip vs.toArray) #[] 7 none)) (fun r s'=>s'=s/\∃ p:Array Nat,B3 r.2=p.map (xQ (ks.toArray.zip vs.toArray))/\uV r.2=none/\p.toList=nJ O d kl) E s:=by
 by_cases hs:vs.length<64
 ·have ask:(mQ vs.length).kasWp (iA prog w A κ ks) (fun p s'=>s'=s/\p=J7 O (fun i=>kl.getD i d) (mQ vs.length)) s :=
   eW.wp (O:=O) (key:=fun i=>kl.getD i d) (n:=vs.length) lt (eW.mono (fun p hp=>⟨rfl,hp.2⟩) (eW.det (vk (Q:=fun p=>gf vs.length p/\rj O (fun i=>kl.getD i d) p vs.length) (by lia) fun p hp hu=>⟨hp,hu⟩)))
  refine PySem.W.kat_run (Q:=fun st' s'=>s'=s/\∃ p:Array Nat,B3 st'=p.map (xQ (ks.toArray.zip vs.toArray))/\uV st'=none/\p.toList=nJ O d kl) hl h2 hs (fun p st' s' _ a b c=>⟨c.1,p,a,b,?_⟩) ask
  rw [c.2]
  unfold nJ
  rw [if_neg (by lia),hk]
 ·have h127:=h64.resolve_left (by lia)
  refine dz (w8 (O:=O) (key:=fun i=>kl.getD i d) hl h2 (by rw [<- hk];exact h64.inj d) lt) ?_ fun _ _ e=>e
  rintro r s' ⟨h1,p,h2,h3,h4,h5⟩
  refine ⟨h1,p,h2,h3,Bq h127.2 ?_ ?_⟩
  ·rw [hk]
   simpa using cL.mp h4.perm
  ·exact lK h4 d h5
end
section
variable {X:Cx} {pins:List (ak×dm)} {σ:St} {H:Hp} {s:ai} {A:bK} {E:ae->ai->Prop} {P:PySem.Fin->ai->Prop}
theorem _root_.L2.Inv.pinsSub {pins':List (ak×dm)} (I:Inv X pins σ H s) (h:∀ q∈pins',q∈pins):Inv X pins' σ H s:=I.pins_of fun q hq=>I.pin q (aU _ (h q hq))
theorem _root_.L2.Inv.pinGet {p:ak} {o:dm} (I:Inv X ((p,o)::pins) σ H s):s.heap.get? p=some o:=(I.pin (p,o) (aU _ ah)).1
theorem iL {c:String} {xs:Array ae} {n:Nat}:∀ v,(bY c xs n).data≠.cell v:=fun v z=>by cases z
theorem IZ {a kS:ak} {kA:Array ae} {e e1:Nat} {st:SortSt} {out:List ae} (I:Inv X ((kS,bY "list" kA e)::(a,bY "list" #[] e1)::pins) σ H s) (h0k:X.s₀.heap.objs.size<=kS) (h0:X.s₀.heap.objs.size<=a) (hnk:∀ q∈X.pn++((a,bY "list" #[] e1)::pins),q.1≠kS) (hne:∀ q∈X.pn++pins,q.1≠a)
 (hka:kA.size<=63) (hout:(B3 st).map (·.2)=out.toArray) (hol:out.length<=63) (hfl:uV st=none)
 (fin:∀ s' c,Inv X ((a,bY "list" out.toArray c)::pins) σ H s'->P (.done (.ret .none)) s'):aM (be X.prog X.w) A (ksk_tail a false e1 (.ref kS) st) P E s:=by
 have sz:aL=16777216:=bE
 have s1:=eO s.heap kS (bV fun _=>(#[]:Array ae))
 obtain ⟨c1,hc1⟩:∃ c1,(s.heap.update kS (bV fun _=>(#[]:Array ae))).get? kS=some (bY "list" #[] c1):=⟨_,fX I.pinGet fun _=>#[]⟩
 have I1:=I.pinSet (t':=s.toks) (fun b u hb e=>(s1.2 b hb).trans e) hc1 iL h0k hnk
 have I2:Inv X ((a,bY "list" #[] e1)::pins) σ H _:=I1.pinsSub fun q hq=>ag _ hq
 unfold ksk_tail
 try dsimp only
 refine aa (gm I.pinGet rfl ?_ (by lia) (bW _))
 refine aa (mR ?_)
 refine aa (mN I2.pinGet rfl ?_)
 refine aa (gm I2.pinGet rfl ?_ (bW _) ?_)
 ·rw [hfl]
  simp only [bne_self_eq_false,eG,if_false]
  rw [hout]
  have s2:=eO (s.heap.update kS (bV fun _=>(#[]:Array ae))) a (bV fun _=>out.toArray)
  obtain ⟨c2,hc2⟩:∃ c2,((s.heap.update kS (bV fun _=>(#[]:Array ae))).update a (bV fun _=>out.toArray)).get? a=some (bY "list" out.toArray c2):=⟨_,fX I2.pinGet fun _=>out.toArray⟩
  exact al (fin _ c2 (I2.pinSet (t':=s.toks) (fun b u hb e=>(s2.2 b hb).trans e) hc2 iL h0 hne))
 ·show (if false=true then _ else (B3 st).map (·.2)).size<=_
  rw [if_neg aO,hout,aA]
  lia
theorem Be {G0 H0 G:Hp} {a:ak} {n:Nat} {vs:List ae} {xs:List V} {ds kd:List Da} {f:ae} {lam:Da->Option Da} {O:fC} {κ:iz} {d0:O.α} {ks:List O.α}
 (I:Inv X ((a,bY "list" vs.toArray n)::pins) σ H s) (E0:Ext G0 H0 G H) (h0:X.s₀.heap.objs.size<=a) (hne:∀ q∈X.pn++pins,q.1≠a) (L:DN X A f σ G0 H0 lam)
 (dl:cO X.K G ds xs) (rv:eE xs vs) (hk:BX lam ds=some kd) (h64:OkN ks) (hks:ks.length=kd.length)
 (cmp:∀ (s':ai) (G' H':Hp) (pins':List (ak×dm)) (kvs:List V) (us:List ae),Inv X pins' σ H' s'->cQ G' H'->cO X.K G' kd kvs->eE kvs us->wO X.prog X.w A s' us O κ (fun i=>ks.getD i d0))
 (fin:∀ (s':ai) (G' H':Hp) (c:Nat),Ext G H G' H'->Inv X ((a,bY "list" ((nJ O d0 ks).map fun i=>vs.getD i bC).toArray c)::pins) σ H' s'->P (.done (.ret .none)) s') :
 aM (be X.prog X.w) A (ksk_tree a f false) P E s:=by
 have sz:aL=16777216:=bE
 have hlx:xs.length=vs.length:=rv.length
 have hld:xs.length=ds.length:=dl.length
 have hlk:kd.length=ds.length:=mo hk
 have h127:vs.length<=63:=by rcases h64 with h | h<;>lia
 have pa:=I.pinGet
 have ha:a<s.heap.objs.size:=aF pa
 have s1:=eO s.heap a (bV fun _=>(#[]:Array ae))
 obtain ⟨e1,ho1⟩:∃ e1,(s.heap.update a (bV fun _=>(#[]:Array ae))).get? a=some (bY "list" #[] e1):=⟨_,fX pa fun _=>#[]⟩
 have I1:=I.pinSet (t':=s.toks) (fun b u hb e=>(s1.2 b hb).trans e) ho1 iL h0 hne
 unfold ksk_tree
 refine aa (jo pa rfl ?_)
 refine aa (gm pa rfl ?_ (by rw [aA];lia) (bW _))
 refine aa (mN ho1 rfl ?_)
 refine aa (wpAny_newTuple ?_ (by show vs.length<=_;lia))
 refine aa (kt ?_ (bW _))
 refine cP ?_
 show aM (be X.prog X.w) A (ksk_rest a f false vs.toArray e1 (.ref ((s.heap.update a (bV fun _=>(#[]:Array ae))).push (bY "tuple" vs.toArray 0)).objs.size)) P E { s with heap:=((s.heap.update a (bV fun _=>(#[]:Array ae))).push (bY "tuple" vs.toArray 0)).push (bY "list" #[] 0) }
 have hkS:((s.heap.update a (bV fun _=>(#[]:Array ae))).push (bY "tuple" vs.toArray 0)).objs.size=s.heap.objs.size+1:=by rw [size_push',oh]
 have I3:Inv X ((((s.heap.update a (bV fun _=>(#[]:Array ae))).push (bY "tuple" vs.toArray 0)).objs.size,bY "list" #[] 0)::(a,bY "list" #[] e1)::pins) σ H { s with heap:=((s.heap.update a (bV fun _=>(#[]:Array ae))).push (bY "tuple" vs.toArray 0)).push (bY "list" #[] 0) } :=
  I1.pinNew (t':=s.toks) (fun b u e=>af _ (af _ e)) (by rw [hkS];show (s.heap.update a _).objs.size<=_;rw [oh];lia) (aH _ rfl) iL
 generalize hkg:((s.heap.update a (bV fun _=>(#[]:Array ae))).push (bY "tuple" vs.toArray 0)).objs.size=kS at I3 ⊢
 generalize hsg:({ s with heap:=((s.heap.update a (bV fun _=>(#[]:Array ae))).push (bY "tuple" vs.toArray 0)).push (bY "list" #[] 0) }:ai)=sk at I3 ⊢
 have hkl:kS=s.heap.objs.size+1:=by rw [<- hkg];exact hkS
 have h0k:X.s₀.heap.objs.size<=kS:=by have:=I.sz;lia
 have hnk:∀ q∈X.pn++((a,bY "list" #[] e1)::pins),q.1≠kS:=fun q hq z=>by
  have:=aF (I1.pin q hq).1
  have this:q.1<(s.heap.update a (bV fun _=>(#[]:Array ae))).objs.size:=this
  rw [oh] at this
  rw [z,hkl] at this
  exact absurd this (Nat.not_lt.mpr (Nat.le_succ _))
 unfold ksk_rest
 refine aa (uW ?_)
 first
  | rw [List.forIn_toArray]
  | (rw [<- xR];simp only [List.toList_toArray])
  | rw [<- xR]
 refine aa (ksk_fold (fun i s'=>∃ Gi Hi kvs kA e,Ext G H Gi Hi/\Inv X ((kS,bY "list" kA e)::(a,bY "list" #[] e1)::pins) σ Hi s'/\cO X.K Gi (kd.take i) kvs/\eE kvs kA.toList) vs 0 sk
  ⟨G,H,[],#[],0,Ext.refl E0.gh,I3,by simpa using (show cO X.K G [] [] from rfl),.nil⟩ ?step ?done)
 case step =>
  rintro j x s' hx ⟨Gi,Hi,kvs,kA,e,Ei,Ii,dk,rk⟩
  simp only [Nat.zero_add] at dk ⊢
  have hj:j<vs.length:=(aE.mp hx).1
  have hxj:xs[j]?=some (xs[j]'(by lia)):=aj (by lia)
  obtain ⟨u,hu,ru⟩:=rv.get hxj
  have:u=x:=by rw [hx] at hu;exact (bR hu).symm
  subst this
  obtain ⟨d,hd,dd⟩:=dl.of_get hxj
  obtain ⟨r,hr,hkj⟩:=wZ hk hd
  have hz:kA.size<=vs.length:=by
   have h1:kvs.length=kA.toList.length:=rk.length
   have h2:kvs.length=(kd.take j).length:=dk.length
   have h3:kA.toList.length=kA.size:=bP
   rw [gx] at h2
   rw [<- h3,<- h1,h2]
   exact bL (Nat.min_le_left _ _) (i6 hj)
  refine aa (xL (dz (L _ s' Gi Hi d r _ u (E0.trans Ei) Ii (Den.mono Ei.gg d dd) ru hr) (fun u' s'' he=>?_) fun _ _ hF=>hF.elim))
  obtain ⟨v',G',H',I',r',E',d'⟩:=he
  try dsimp only
  have nk:=I'.pinGet
  have s2:=eO s''.heap kS (bV (·.push u'))
  obtain ⟨c2,hc2⟩:∃ c2,(s''.heap.update kS (bV (·.push u'))).get? kS=some (bY "list" (kA.push u') c2):=⟨_,fX nk (·.push u')⟩
  refine aa (gm nk rfl ?_ (by lia) (bL (kr (Array.size_push ..)) (by lia)))
  refine al ⟨rfl,G',H',kvs++[v'],kA.push u',c2,Ei.trans E',I'.pinSet (t':=s''.toks) (fun b w hb e=>(s2.2 b hb).trans e) hc2 iL h0k hnk,?_,?_⟩
  ·have ek:kd.take (j+1)=kd.take j++[r]:=by rw [List.take_add_one,hkj];simp
   rw [ek]
   exact cO.append (cO.mono E'.gg _ dk) (cO.one d')
  ·rw [show (kA.push u').toList=kA.toList++[u'] by simp]
   exact rk.append (.cons r' .nil)
 case done =>
  rintro s' ⟨Gi,Hi,kvs,kA,e,Ei,Ii,dk,rk⟩
  have dk':cO X.K Gi kd kvs:=by
   have e3:kd.take (0+vs.length)=kd:=eC (by lia)
   rw [e3] at dk
   exact dk
  have hkA:kA.toList.length=vs.length:=by rw [<- rk.length,dk'.length];lia
  have hksl:ks.length=vs.length:=by lia
  obtain ⟨c1,c2⟩:=cmp s' Gi Hi _ kvs kA.toList Ii Ei.gh dk' rk
  try dsimp only
  refine aa (jo Ii.pinGet rfl ?_)
  unfold ksk_end
  try dsimp only
  rw [if_neg aO]
  have ekA:kA=kA.toList.toArray:=by simp
  have hka:kA.size<=63:=by rw [bP] at hkA;lia
  have hpl:((nJ O d0 ks).map fun i=>vs.getD i bC).length<=63:=by rw [ab,xa];lia
  by_cases h2:vs.toArray.size<2
  ·rw [if_pos h2,if_pos h2]
   refine aa (al ?_)
   rw [yY]
   refine aa (al ?_)
   try dsimp only
   rw [if_neg aO]
   refine IZ (st:=pN general' (kA.zip vs.toArray) #[] 7 none) (out:=(nJ O d0 ks).map fun i=>vs.getD i bC) Ii h0k h0 hnk hne hka ?_ hpl rfl fun s'' c I'=>fin s'' Gi Hi c Ei I'
   show (kA.zip vs.toArray).map (·.2)=_
   rw [aA] at h2
   have hp:nJ O d0 ks=bG vs.length:=by unfold nJ;rw [if_pos (by lia),hksl]
   rw [hp]
   apply Array.toList_inj.mp
   rw [Array.toList_map,ksk_zip,BN (by lia)]
   apply jX
   ·simp
   ·intro i h1 h2;simp [h1]
  ·rw [if_neg h2,if_neg h2]
   rw [aA] at h2
   have c1':=c1 (by lia)
   rw [ll] at c1'
   refine aa (dz (c1' _ ?_) (fun _ _ x=>x) fun _ _ x=>x.elim)
   rw [if_neg aO]
   have run:=zG (E:=E) (ks:=kA.toList) (vs:=vs) (A:=A) (κ:=κ) (w:=X.w) (prog:=X.prog) hkA (by lia) hksl h64 fun i j C hi hj hc=>c2 i j C (by lia) (by lia) hc
   rw [ll] at run
   refine aa (dz run ?_ fun _ _ e=>e)
   rintro ⟨⟨⟩,st'⟩ s'' ⟨rfl,p,har,hf,hp⟩
   try dsimp only
   refine IZ (out:=(nJ O d0 ks).map fun i=>vs.getD i bC) Ii h0k h0 hnk hne hka ?_ hpl hf fun s'' c I'=>fin s'' Gi Hi c Ei I'
   have hsn:=xM (ks:=kA.toList) (vs:=vs) hkA (st:=st') (p:=p) (by rw [ll];exact har)
   rw [hsn,hp]
end
theorem Ap {H:Hp} {q:bH}:∀ {l:List ae},yz H q l->TriplesOk l:=fun {l} t=>by
 fun_induction yz H q l with
 | case1=>trivial
 | case2 _ _ _ _ c r ih=>exact ih t.2
 | case3=>exact t.elim
theorem yg {H:Hp} {q:bH} {pos:e7} {cv:ae}:∀ {l:List ae},yz H q l->codeAmong pos l=some cv->∃ c,cv=.ref c/\H c=some (.cod q):=fun {l} t e=>by
 fun_induction yz H q l with
 | case1=>cases e
 | case2 a ta b tb c r ih =>
   simp only [codeAmong] at e
   split at e
   ·cases e;exact ⟨c,rfl,t.1⟩
   ·exact ih t.2 e
 | case3=>exact t.elim
theorem As {H:Hp} {q:bH} {a b:Nat} {c:ak} (hc:H c=some (.cod q)):∀ {l:List ae},yz H q l->yz H q (l++[jI a,jI b,.ref c]):=fun {l} t=>by
 fun_induction yz H q l with
 | case1=>exact ⟨hc,trivial⟩
 | case2 _ _ _ _ c' r ih=>exact ⟨t.1,ih t.2⟩
 | case3=>exact t.elim
def Bm (mg:bH->Option ae) (h:cr):Prop:=∃ bm ob,mg "__builtins__" = some (.ref bm)/\bm≠ot/\h.get? bm=some ob/\ob.cls=.type "module"/\ob.dict=some ot/\ob.data=.plain
section
variable {X:Cx} {pins:List (ak×dm)} {σ:St} {H:Hp} {s:ai} {params:iN} {body:aP} {scope:dO} {pos:e7} {c P:ak} {q:bH}
abbrev wB (X:Cx) (q:bH) (params:iN) (body:aP) (scope:dO) (pm:ae) (c':ak) (ctv:ae):dm:=yJ "<lambda>" q params body scope (gE X.env.cells scope.names []) pm c' ctv
theorem CQ (I:Inv X pins σ H s) (hB:Bm X.mg X.base) (hcode:X.env.code=.ref c) (C:iO X.base c P) (hP:H P=some (.tab q)) (hq:X.env.qual++"<lambda>" = q)
 (hfree:∀ y∈scope.names,y.2=.free->∃ c,X.env.cells.lookup y.1=some c) (hdef:defaultsOf params X.env=([],[])) {Q:ae->ai->Prop}
 (k:∀ (f c':ak) (pm ctv:ae) (s':ai) (H':Hp),Inv X pins σ H' s'->H f=none->H' f=some (.frz (wB X q params body scope pm c' ctv) (.own 0))->H' c'=some (.cod q)->(∀ G,cQ G H->Ext G H G H')->Q (.ref f) s') :
 aM (be X.prog X.w) X.A (b9 (.Lambda params body scope pos) X.env) Q X.xe s:=by
 obtain ⟨ps,hps,tr⟩:=I.hok P _ hP
 obtain ⟨bm,ob,b1,b2,b3,b4,b5,b6⟩:=hB
 have hgb:=I.mod.glob
 have neP:∀ {b:ak} {o:dm},X.base.get? b=some o->b≠P:=fun e z=>by
  have:=(I.bs _ _ e).2
  rw [z,hP] at this;cases this
 have hgP:aR≠P:=by obtain ⟨o,_,_,e,_⟩:=hgb;exact neP e
 have hbG:bm≠aR:=fun z=>by
  obtain ⟨o,es,ep,e,hd,_⟩:=hgb
  rw [z,e] at b3;cases b3;rw [hd] at b6;cases b6
 have hbuilt:s.heap.BuiltinsAt X.mg P:=⟨bm,ob,b1,b2,hbG,neP b3,I.bk _ _ b3,b4,b5,b6⟩
 refine PySem.W.kla_eval hdef ?_
 rw [hq]
 cases hc:codeAmong pos ps.toList with
 | none =>
   refine PySem.W.kla_makeFunction (mg:=X.mg) (kQ hfree) I.ok.glob (hgb.keeps I.bk) hcode (C.keeps I.bk) hps (Ap tr) hc hgP hbuilt fun c' ctv h' tk hx hge hlt hrec htb=>?_
   have hHc:H c'=none:=I.hok.fresh hge
   have hsz:s.heap.objs.size<=h'.objs.size:=bL hge (i6 hlt)
   have hHf:H h'.objs.size=none:=I.hok.fresh hsz
   have hcf:c'≠h'.objs.size:=bu hlt
   generalize hof:yJ "<lambda>" q params body scope (gE X.env.cells scope.names []) ((X.mg "__name__").getD .none) c' ctv=fo
   have hfo:fo.isFreed=false:=by rw [<- hof];rfl
   have up:∀ {b:ak} {w:HO},H b=some w->upd (upd H c' (.cod q)) h'.objs.size (.frz fo (.own 0)) b=some w:=fun {b w} e=>by
    rw [bq (b7 e hHf),bq (b7 e hHc)];exact e
   have old:∀ {b:ak} {o:dm},s.heap.get? b=some o->b≠c'/\b≠h'.objs.size:=fun e=>⟨bu (bi (aF e) hge),bu (bi (aF e) hsz)⟩
   have keepN:∀ {b:ak} {o:dm},b≠P->s.heap.get? b=some o->(h'.push fo).get? b=some o:=fun hb e=>af _ (hx _ _ hb e)
   have hcP:c'≠P:=fun z=>by rw [z,hP] at hHc;cases hHc
   have hfP:h'.objs.size≠P:=fun z=>by rw [z,hP] at hHf;cases hHf
   have hcc:upd (upd H c' (.cod q)) h'.objs.size (.frz fo (.own 0)) c'=some (.cod q):=by rw [bq hcf];exact aV
   have I':Inv X pins σ (upd (upd H c' (.cod q)) h'.objs.size (.frz fo (.own 0))) { s with heap:=h'.push fo,toks:=tk }:=by
    refine I.un (t':=tk) ⟨fun b o e n _ _=>keepN (fun z=>by rw [z,hP] at n;cases n) e,fun b o e n _ _=>⟨o.slots,keepN (fun z=>by rw [z,hP] at n;cases n) e⟩,fun b o e n _=>?_,fun b o e _=>?_,fun b xs e=>up e,fun b o u e=>up e,fun b ps' e=>⟨#[],by rw [Array.append_empty];exact up e⟩⟩ fun b u e=>?_
    ·rw [bq (old e).2,bq (old e).1];exact n
    ·by_cases hb:b=P
     ·subst hb;exact ⟨_,af _ htb⟩
     ·exact ⟨o,keepN hb e⟩
    ·by_cases hbf:b=h'.objs.size
     ·subst hbf
      rw [aV] at e;cases e
      exact ⟨aH _ hfo,fo,aH _ hfo⟩
     ·rw [bq hbf] at e
      by_cases hbc:b=c'
      ·subst hbc
       rw [aV] at e;cases e
       obtain ⟨c0,o,vs,t,e0,e1,e2⟩:=hrec
       exact ⟨c0,o,vs,t,e0,af _ e1,e2⟩
      ·rw [bq hbc] at e
       by_cases hbP:b=P
       ·subst hbP
        rw [hP] at e;cases e
        refine ⟨_,af _ htb,?_⟩
        have:(ps++#[jI pos.line,jI pos.col,.ref c']).toList=ps.toList++[jI pos.line,jI pos.col,.ref c']:=by simp
        rw [this]
        exact As hcc (tr.stay fun b' q' z=>up z)
       ·refine (I.hok b u e).stay (fun b' o' hb' e'=>keepN ?_ e') (fun b' z=>up z) (fun b' xs z=>up z) fun b' q' z=>up z
        rcases hb' with z | z
        ·rw [z];exact hbP
        ·intro z';rw [z',hP] at z;cases z
   refine k h'.objs.size c' ((X.mg "__name__").getD .none) ctv _ _ I' hHf ?_ hcc fun G sg=>?_
   ·rw [aV,<- hof]
   ·have E1:Ext G H G (upd H c' (.cod q)):=Ext.own sg hHc
    exact E1.trans (Ext.own E1.gh (by rw [bq (Ne.symm hcf)];exact hHf))
 | some cv =>
   obtain ⟨c',rfl,hc'⟩:=yg tr hc
   refine PySem.W.kla_makeFunctionHit (mg:=X.mg) (kQ hfree) I.ok.glob (hgb.keeps I.bk) hcode (C.keeps I.bk) hps (Ap tr) hc hbuilt fun ctv h' tk hk hsz=>?_
   have hHf:H h'.objs.size=none:=I.hok.fresh hsz
   have I':=I.laid (a:=h'.objs.size) (o:=.frz (wB X q params body scope ((X.mg "__name__").getD .none) c' ctv) (.own 0)) (t':=tk) (fun b u e=>af (wB X q params body scope ((X.mg "__name__").getD .none) c' ctv) (hk b u e)) hsz ⟨aH _ rfl,_,aH _ rfl⟩
   refine k h'.objs.size c' _ ctv _ _ I' hHf aV ?_ fun G sg=>Ext.own sg hHf
   rw [bq (b7 hc' hHf)];exact hc'
end
structure xo (X:Cx) (scope:dO) (ix:List (Option Nat)) (x:bH) (i0:Nat):Prop extends CScope X scope ix where
 co:scope.isCoroutine=false
 gen:scope.isGenerator=false
 nocell:∀ y∈scope.names,y.2≠.cell
 par:scope.names[i0]?=some (x,.local)
abbrev xm (X:Cx) (scope:dO) (q:bH) (L f c':ak):pQ:=PySem.W.envX q scope L f (.ref c') (gE X.env.cells scope.names [])
def DE (X:Cx) (A:bK) (scope:dO) (q:bH) (f c':ak) (s:ai) (H:Hp):Cx :=
 { X with A:=A.deeper (xm X scope q s.heap.objs.size f c'),N:=scope.names.map (·.1),s₀:=s,H₀:=H,env:=xm X scope q s.heap.objs.size f c',outer:=X.stack,stack:=xm X scope q s.heap.objs.size f c'::X.stack,ex:=[],fn:=fun _=>false,calm:=true,pn:=[],xe:=fun _ _=>False }
section
variable {X:Cx} {pins:List (ak×dm)} {σ:St} {H:Hp} {s:ai} {scope:dO} {ix:List (Option Nat)} {x:bH} {i0:Nat} {A:bK} {f c':ak} {q:bH}
theorem Bi {v:V} {u:ae} {h₁:cr} {tk:Nat} (S:xo X scope ix x i0) (I:Inv X pins σ H s) (hh:A.handled=none) (hfr:A.frames=X.A.frames) (rv:gD v u)
 (hns:h₁.Ns s.heap.objs.size (fun y=>[(x,u)].reverse.lookup y)) (hk:∀ b o,s.heap.get? b=some o->h₁.get? b=some o) :
 Inv (DE X A scope q f c' s H) [] ((mpS ix σ).set i0 (some v)) H { s with heap:=h₁,toks:=tk }:=by
 have cl:=S.toCScope.cells I
 have hlk:∀ y c,(gE X.env.cells scope.names []).lookup y=some c->X.env.cells.lookup y=some c:=fun y c e=>by
  rcases kZ _ _ cl e with z | z
  ·exact z
  ·simp at z
 have hno:∀ b:ak,b∉(DE X A scope q f c' s H).ex:=fun b z=>absurd (show b∈([]:List ak) from z) (by simp)
 have hi0:i0<ix.length:=by rw [kK S.ix];exact (aE.mp S.par).1
 refine ⟨⟨I.ok.mod,S.kind,rfl,rfl,ax _,fun y z c h1 h2=>I.ok.inj y z c (hlk y c h1) (hlk z c h2),fun y hy=>?_,fun y c hf _=>absurd (show false=true from hf) (by simp),fun _=>hh,uK (hfr.trans I.ok.frames),.inr ⟨rfl,rfl⟩,fun b z=>absurd z (hno b),I.bs,bL I.ok.bsz I.sz,fun b _ _=>hno b,fun b z=>absurd z (hno b),I.stack,I.stkFree⟩,
  rfl,I.bare,Un.kept hk,⟨_,hns,fun i y w e1 e2 e3=>?_⟩,fun y c e=>?_,I.hok.fresh (ax _),fun y c e=>I.freeC y c (hlk y c e),fun p hp=>absurd (show p∈([]:List (ak×dm)) from hp) (by simp),I.hok.kept hk,?_⟩
 ·have hy:scope.names.lookup y=some .cell\/scope.names.lookup y=some .free:=hy
  rcases hy with hy | hy
  ·exact absurd rfl (S.nocell _ (mem_of_lookup hy))
  ·obtain ⟨c,hc⟩:=cl _ (mem_of_lookup hy) rfl
   exact ⟨c,(jv _ _ cl (.inl (mem_of_lookup hy))).trans hc⟩
 ·have e1:(scope.names.map (·.1))[i]?=some y:=e1
  by_cases hi:i0=i
  ·subst hi
   rw [aZ (by unfold mpS;rw [ab];exact hi0)] at e2
   cases e2
   rw [ay,S.par] at e1
   cases e1
   exact ⟨u,rv,.inl ⟨eN S.nd S.par,by simp⟩⟩
  ·rw [ba hi] at e2
   unfold mpS at e2
   rw [ay] at e2
   cases qi:ix[i]? with
   | none=>rw [qi] at e2;cases e2
   | some o =>
     rw [qi] at e2
     cases o with
     | none=>cases e2
     | some j =>
       obtain ⟨x',hx1,hx2⟩:=jB S.ix qi
       have ex:y=x':=by rw [ay,hx1] at e1;cases e1;rfl
       subst ex
       have hs:σ[j]?=some (some w):=by
        have e2':(σ[j]?).getD none=some w:=by simpa using e2
        cases q2:σ[j]? with
        | none=>rw [q2] at e2';cases e2'
        | some z=>rw [q2] at e2';exact congrArg some e2'
       have hl:=eN S.nd hx1
       have hkd:=S.free _ (bI hx1) rfl
       obtain ⟨m,_,hm⟩:=I.loc
       have hvis:Vis X.env.scope y:=by
        rcases hkd with z | z
        ·exact .inr (.inl z)
        ·exact .inr (.inr z)
       obtain ⟨u',r',lk⟩:=hm j y w hx2 hs hvis
       refine ⟨u',r',.inr ⟨.inr hl,?_⟩⟩
       rcases lk with ⟨z,_⟩ | ⟨_,c,hc,o,ho,hd⟩
       ·rcases hkd with w' | w'<;>(rw [z] at w';cases w')
       ·exact ⟨c,(jv _ _ cl (.inl (mem_of_lookup hl))).trans hc,o,hk _ _ ho,hd⟩
 ·obtain ⟨w,o,ho,hd⟩:=I.cell y c (hlk y c e)
  exact ⟨w,o,hk _ _ ho,hd⟩
 ·rw [bU]
  unfold mpS
  rw [ab,kK S.ix]
  show _=(scope.names.map (·.1)).length
  rw [ab]
def D9 (ix:List (Option Nat)) (i0:Nat) (g:Rho->Option Rv) (ρ:Rho):Da->Option Da:=fun d=>match g ((mpR ix ρ).set i0 (.pu d)) with
 | none=>none
 | some r=>if e5 r=true then some r.2 else none
theorem HZ {B G0 H0:Hp} {ρ:Rho} {g:Rho->Option Rv} {params:iN} {body:aP} {pm ctv:ae} (S:xo X scope ix x i0) (hh:A.handled=none) (hfr:A.frames=X.A.frames) (hroom:A.depth<uR)
 (hbind:∀ u,jJ (oz "<lambda>" q params body scope (gE X.env.cells scope.names []) pm (.ref c') ctv) ⟨[u],[]⟩=pure [(x,u)])
 (hbody:∀ (s:ai) (H:Hp),PX (DE X A scope q f c' s H) body g)
 (sb:cQ B H0) (st:iC X.K B G0 H0 σ ρ) (hf:H0 f=some (.frz (wB X q params body scope pm c' ctv) (.own 0))) (hc:H0 c'=some (.cod q)):DN X A (.ref f) σ G0 H0 (D9 ix i0 g ρ):=by
 intro pins s G H d r v u E I dv rv el
 unfold D9 at el
 split at el
 ·cases el
 ·rename_i rr er
  split at el
  case isFalse=>cases el
  case isTrue hp =>
  cases el
  obtain ⟨ho,_⟩:=I.hok f _ (E.hh _ _ hf)
  have hcd:s.heap.CodeRec (.ref c') q:=I.hok c' _ (E.hh _ _ hc)
  have st':iC X.K B G H ((mpS ix σ).set i0 (some v)) ((mpR ix ρ).set i0 (.pu d)):=((st.ext E).mp S.toCScope).setPu dv
  refine wpAny_call (PySem.W.kla_callFunE hroom ho rfl S.co S.gen rfl hcd ?_)
  rw [hbind u]
  refine al (wpAny_newFunctionEnv S.nocell (fun y hy=>by rw [av.mp hy];exact eN S.nd S.par) (fun h₁ hns hsb=>?_) S.kind)
  have hk₁:∀ b o,s.heap.get? b=some o->h₁.get? b=some o:=fun b o e=>hsb.extBut b o (bu (aF e)) (af _ e)
  refine ⟨I.nolimit.keeps hk₁,?_⟩
  show lA _ _ (.expr body (xm X scope q s.heap.objs.size f c')) _ _
  have J:Inv (DE X A scope q f c' s H) [] ((mpS ix σ).set i0 (some v)) H { s with heap:=h₁,toks:=s.toks+1 }:=Bi S I hh hfr rv hns hk₁
  refine PySem.W.kla_codeExpr (dz (hbody s H [] _ _ H (fun v' H'=>∃ G',Ext G H G' H'/\gZ X.K B H G' H' rr v') J ⟨B,G,_,rr,E.gh,sb.trans E.hh,st',er,fun v' G' H' E' r'=>⟨G',E',r'⟩⟩) (fun u' s' he=>?_) fun _ _ z=>z.elim)
  obtain ⟨v',H',J',r',G',E',ro⟩:=he
  obtain ⟨G2,E2,_,d2⟩:=ro.pure E' hp
  exact ⟨v',G2,H',I.call' (ch:=[]) J'.os J'.base J'.hok J'.bare (fun b z=>absurd z (by simp)),r',E2,d2⟩
end
def jA (prog:bA) (w:cb) (A:bK) (s:ai) (x:ae) (xs:List V):Prop :=
 ∀ (E:ae->ai->Prop) (R:List ae->ai->Prop),(∀ h' tk vs,(∀ b o,s.heap.get? b=some o->h'.get? b=some o)->eE xs vs->R vs { s with heap:=h',toks:=tk })->aM (be prog w) A (uM x) R E s
theorem yk {n:Nat} {acc:Array ae} (it:ItemsOf (fun i v=>∃ t,v=.int (0+i*1) t) acc n):eE ((bG n).map fun (i:Nat)=>V.int (i:Int)) acc.toList:=by
 have:∀ (n:Nat) (l:List ae) (lo:Nat),l.length=n->(∀ i v,l[i]?=some v->∃ t,v=eR ((lo+i:Nat):Int) t)->eE ((we lo n).map fun (i:Nat)=>V.int (i:Int)) l:=fun n=>by
  induction n with
  | zero=>intro l lo hl _;cases l with
    | nil=>exact .nil
    | cons _ _=>cases hl
  | succ n ih =>
    intro l lo hl hv
    cases l with
    | nil=>cases hl
    | cons x l =>
      obtain ⟨t,ht⟩:=hv 0 x rfl
      rw [og,aw]
      refine .cons ⟨t,by simpa using ht⟩ (ih l (lo+1) (by simpa using hl) fun i v hi=>?_)
      obtain ⟨t,ht⟩:=hv (i+1) v (by simpa using hi)
      exact ⟨t,by rw [ht];congr 2;lia⟩
 rw [gq]
 refine this n acc.toList 0 (by rw [bP];exact it.1) fun i v hi=>?_
 obtain ⟨t,ht⟩:=it.2 i v (by rw [<- fI];exact hi)
 exact ⟨t,by rw [ht];congr 1;simp⟩
def hkD:List Da->Option (List (List Int))
 | []=>some []
 | .tup [.int n,.tup xs]::r=>match gL xs,hkD r with
   | some ns,some ts=>some ((n::ns)::ts)
   | _,_=>none
 | _=>none
theorem GG {kd:List Da}:∀ {ts:List (List Int)},hkD kd=some ts->ts.length=kd.length:=by
 fun_induction hkD kd with
 | case1=>intro ts e;cases e;rfl
 | case2 n xs r ns ts0 er en ih=>intro ts e;cases e;rw [aG,aG,ih er]
 | case3=>intro ts e;cases e
 | case4=>intro ts e;cases e
section
variable {X:Cx} {pins:List (ak×dm)} {σ:St} {H:Hp} {s:ai}
theorem xn {A:bK} {r:ak} {j:Int} (I:Inv X pins σ H s) (hh:A.handled=none) (hr:H r=some (.rng 0 j)) (j1 : -(2 ^ 62)<=j) (j2:j<=1000000):jA X.prog X.w A s (.ref r) ((bG j.toNat).map fun (i:Nat)=>V.int (i:Int)):=by
 intro E R h
 obtain ⟨t,u,v,hr'⟩:=I.hok r _ hr
 exact qc hh (show IsRange s.heap r 0 j 1 t u v from hr') j1 j2 E R fun h' tk acc kp it=>h h' tk _ kp (yk it)
theorem Fb {A:bK} {x:ae} {xs:List V} {vs:List ae} (c:gP X.prog X.w A s x vs) (r:eE xs vs):jA X.prog X.w A s x xs:=fun E R h=>c E R fun h' tk kp=>h h' tk vs kp r
theorem nK {G0 H0 G:Hp} {x:ae} {xs:List V} {ds kd:List Da} {lam:Da->Option Da} {O:fC} {κ:iz} {d0:O.α} {ks:List O.α} {fv:ak} (I:Inv X pins σ H s) (E0:Ext G0 H0 G H) (col:jA X.prog X.w X.A.in1 s x xs) (dl:cO X.K G ds xs)
 (L:DN X X.A.in1.in1 (.ref fv) σ G0 H0 lam) (hk:BX lam ds=some kd) (h64:OkN ks) (hks:ks.length=kd.length)
 (cmp:∀ (s':ai) (G' H':Hp) (pins':List (ak×dm)) (kvs:List V) (us:List ae),Inv X pins' σ H' s'->cQ G' H'->cO X.K G' kd kvs->eE kvs us->wO X.prog X.w X.A.in1.in1 s' us O κ (fun i=>ks.getD i d0)) {Q:VK}
 (k:∀ D G' H',Ext G H G' H'->H' D=none->Q (.ref D) (upd H' D (.lst ((nJ O d0 ks).map fun i=>xs.getD i .non)))):aM (be X.prog X.w) X.A (call (.builtin "sorted") [x] [(cG "key",.ref fv)]) (EP X pins σ Q) X.xe s:=by
 have sz:aL=16777216:=bE
 have hld:xs.length=ds.length:=dl.length
 have hlk:kd.length=ds.length:=mo hk
 have h127:ds.length<=63:=by rcases h64 with h | h<;>lia
 refine call_function_entry_kw kind_sorted plain_sorted entry_sorted (ksk_s1 _ _) ?_
 unfold Builtin.«sorted»
 refine aa (m:=checkCount "sorted" 1 1 _) (al (aa (col _ _ fun h1 tk vs k1 rv=>?_)))
 have hlv:xs.length=vs.length:=rv.length
 refine aa (kt ?_ (by lia))
 have I0:Inv X pins σ H { s with heap:=h1,toks:=tk }:=I.kept (t':=tk) k1
 have hoD:(h1.push (bY "list" vs.toArray 0)).get? h1.objs.size=some (bY "list" vs.toArray 0):=aH _ rfl
 have I1:Inv X ((h1.objs.size,bY "list" vs.toArray 0)::pins) σ H { s with heap:=h1.push (bY "list" vs.toArray 0),toks:=tk }:=I0.pinNew (t':=tk) (fun b u e=>af _ e) (ax _) hoD iL
 have h0:X.s₀.heap.objs.size<=h1.objs.size:=I0.sz
 have hne:∀ q∈X.pn++pins,q.1≠h1.objs.size:=fun q hq=>bu (aF (I0.pin q hq).1)
 show aM _ _ _ _ _ { s with heap:=h1.push (bY "list" vs.toArray 0),toks:=tk }
 refine aa (cP (wpAny_call_entry_kw slot_list_sort ⟨_,hoD,rfl⟩ entry_list_sort ?body (ksk_l1 _ _)))
 case body =>
  show aM (be X.prog X.w) X.A.in1.in1 (Builtin.«list.sort» ⟨[.ref h1.objs.size],[(cG "key",.ref fv)]⟩) _ _ _
  rw [ksk_t1]
  refine Be I1 E0 h0 hne L dl rv hk h64 hks cmp fun s' G' H' c E' I'=>⟨_,rfl,al ⟨_,rfl,?_⟩⟩
  have hpm:∀ i∈nJ O d0 ks,i<xs.length:=fun i hi=>by have:=rR hi;lia
  have r2:=kG rv _ hpm
  have hD:H' h1.objs.size=none:=(I'.pin _ (aU _ ah)).2.1
  refine ⟨.ref h1.objs.size,_,I'.adopt h0 hne (show gO X.prog X.w _ s'.heap _ (.lst ((nJ O d0 ks).map fun i=>xs.getD i .non)) from ⟨by rw [ab,xa];lia,_,c,r2,I'.pinGet⟩),rfl,k _ G' H' E' hD⟩
theorem CF {A:bK} {ns:List Int} {s':ai} {G':Hp} {kvs:List V} {us:List ae} (dk:cO X.K G' (ns.map Da.int) kvs) (rk:eE kvs us):wO X.prog X.w A s' us yO p0 (fun i=>ns.getD i (0:Int)):=by
 have ek:=cO.ints.mp dk
 subst ek
 have hl:us.length=ns.length:=by rw [<- rk.length,ab]
 have at':∀ i,i<us.length->∃ t,us.getD i bC=.int (ns.getD i 0) t:=fun i hi=>by
  have hi':i<ns.length:=by lia
  obtain ⟨u,hu,ru⟩:=rk.get (i:=i) (x:=.int ns[i]) (by rw [ay,aj hi'];rfl)
  obtain ⟨t,rfl⟩:=ru
  refine ⟨t,?_⟩
  rw [aB,hu,aB,aj hi'];rfl
 refine ⟨fun h2 Q q=>?_,fun i j C hi hj c=>?_⟩
 ·refine xO (T:=.type "int") h2 (fun v hv=>?_) (by decide) (by decide) q
  obtain ⟨i,hi,rfl⟩:=cf hv
  obtain ⟨t,e⟩:=at' i hi
  have e2:us[i]=.int (ns.getD i 0) t:=by rw [<- e];simp [hi]
  rw [e2]
  exact .now
 ·show aM (be X.prog X.w) _ (keyLt' p0 (us.getD i bC) (us.getD j bC)) C _ _
  obtain ⟨t,e1⟩:=at' i hi
  obtain ⟨t',e2⟩:=at' j hj
  rw [e1,e2]
  exact uY c
theorem KZ {K:ac} {G:Hp}:∀ {kd:List Da} {ts:List (List Int)} {kvs:List V},hkD kd=some ts->cO K G kd kvs->∀ i,i<ts.length->∃ (a b:ak) (n:Int) (ns:List Int),kvs[i]?=some (.ref a)/\G a=some (.tup [.int n,.ref b])/\G b=some (.tup (ns.map V.int))/\ts.getD i []=n::ns:=by
 intro kd
 fun_induction hkD kd with
 | case1=>intro ts kvs e d i hi;cases e;cases hi
 | case2 n xs r ns ts0 er en ih =>
   intro ts kvs e d i hi
   cases e
   obtain ⟨x,rr,rfl,d1,d2⟩:=d
   obtain ⟨a,ys,rfl,ga,da⟩:=d1
   obtain ⟨y1,r1,rfl,e1,da2⟩:=da
   obtain ⟨y2,r2,rfl,e2,e3⟩:=da2
   cases (show r2=[] from e3)
   cases (show y1=.int n from e1)
   obtain ⟨b,zs,rfl,gb,db⟩:=e2
   rw [gT en] at db
   have ez:=cO.ints.mp db
   subst ez
   cases i with
   | zero=>exact ⟨a,b,n,ns,rfl,ga,gb,rfl⟩
   | succ i =>
     obtain ⟨a',b',n',ns',h1,h2,h3,h4⟩:=ih er d2 i (by simpa using hi)
     exact ⟨a',b',n',ns',by simpa using h1,h2,h3,by simpa using h4⟩
 | case3=>intro ts kvs e;cases e
 | case4=>intro ts kvs e;cases e
theorem zf {A:bK} {pins':List (ak×dm)} {kd:List Da} {ts:List (List Int)} {s':ai} {G' H':Hp} {kvs:List V} {us:List ae} (hk:hkD kd=some ts) (hlen:ts.length=kd.length) (I':Inv X pins' σ H' s') (sm:cQ G' H') (hu:A.units<cx)
 (dk:cO X.K G' kd kvs) (rk:eE kvs us):wO X.prog X.w A s' us vF (y3 true) (fun i=>ts.getD i []):=by
 have hl:us.length=ts.length:=by rw [<- rk.length,dk.length,hlen]
 have at':∀ i,i<us.length->∃ (a b:ak) (n:Int) (t:yP) (ns:List Int) (o:dm) (m:Nat),us.getD i bC=.ref a/\ts.getD i []=n::ns/\s'.heap.get? a=some o/\o.cls=.type "tuple"/\o.data=.seq #[.int n t,.ref b] m/\H' b=some (.tup (ns.map V.int)):=fun i hi=>by
  obtain ⟨a,b,n,ns,h1,h2,h3,h4⟩:=KZ hk dk i (by lia)
  obtain ⟨u,hu,ru⟩:=rk.get h1
  cases (show u=bN a from ru)
  obtain ⟨_,its,rv,o,ho,hc,m,hd⟩:=I'.hok a _ (sm _ _ h2)
  obtain ⟨u1,u2,rfl,e1,e2⟩:=eE.two rv
  obtain ⟨t,rfl⟩:=e1
  cases (show u2=bN b from e2)
  exact ⟨a,b,n,t,ns,o,m,by rw [aB,hu];rfl,h4,ho,hc,hd,sm _ _ h3⟩
 refine ⟨fun h2 Q q=>?_,fun i j C hi hj c=>?_⟩
 ·have firsts:∀ vs:List ae,(∀ u∈vs,∃ i,i<us.length/\u=us.getD i bC)->∃ fs:List ae,yH s'.heap vs fs/\vs.length=fs.length/\∀ f∈fs,∃ n t,f=eR n t:=fun vs=>by
   induction vs with
   | nil=>exact fun _=>⟨[],.nil,rfl,by simp⟩
   | cons u vs ih =>
     intro hu
     obtain ⟨fs,h1,h2,h3⟩:=ih fun v hv=>hu v (ag _ hv)
     obtain ⟨i,hi,rfl⟩:=hu u (ah)
     obtain ⟨a,b,n,t,ns,o,m,ea,et,ho,hc,hd,hb⟩:=at' i hi
     refine ⟨.int n t::fs,?_,by rw [aG,aG,h2],fun f hf=>?_⟩
     ·rw [ea]
      exact .cons ho hc hd (by simp) h1
     ·rcases am.mp hf with z | z
      ·exact ⟨n,t,z⟩
      ·exact h3 f z
  obtain ⟨fs,f1,f2,f3⟩:=firsts us fun u hu=>by
   obtain ⟨i,hi,rfl⟩:=cf hu
   exact ⟨i,hi,by simp [hi]⟩
  refine xP (T:=.type "int") f1 (by lia) (fun v hv=>?_) (by decide) q
  obtain ⟨n,t,rfl⟩:=f3 v hv
  exact .now
 ·show aM (be X.prog X.w) _ (keyLt' (y3 true) (us.getD i bC) (us.getD j bC)) C _ _
  obtain ⟨a,b,n,t,ns,o,m,ea,et,ho,hc,hd,hb⟩:=at' i hi
  obtain ⟨a',b',n',t',ns',o',m',ea',et',ho',hc',hd',hb'⟩:=at' j hj
  have c:C (HT.lexLt (ts.getD i []) (ts.getD j [])) s':=c
  rw [et,et'] at c
  rw [ea,ea']
  refine y4 ho hd ho' hd' ?_
  show yZ X.prog X.w A true (decide (2<2)) C [(eR n t,eR n' t'),(bN b,bN b')] 0 s'
  refine mO (qW ?_)
  by_cases e:n=n'
  ·subst e
   rw [beq_self_eq_true]
   have hq:HT.lexLt (n::ns) (n::ns')=HT.lexLt ns ns':=by rw [HT.lexLt_cons,if_pos rfl]
   rw [hq] at c
   have e1:ns.map V.int=(ns.map (aq:Int->Key)).map kV:=by rw [aC];rfl
   have e2:ns'.map V.int=(ns'.map (aq:Int->Key)).map kV:=by rw [aC];rfl
   have k1:=lX I'.hok (e1▸hb)
   have k2:=lX I'.hok (e2▸hb')
   refine nY (mO ((jC (cI X.prog X.w)).eqBool hu k1 k2 ?_))
   by_cases en:ns=ns'
   ·subst en
    rw [decide_eq_true rfl]
    refine nY (PySem.W.kat_nil ?_)
    have:HT.lexLt ns ns=false:=lb ns
    rw [this] at c
    exact c
   ·have hne:¬ (ns.map (aq:Int->Key)=ns'.map aq):=fun z=>en (by
     have:=congrArg (g6 fun k:Key=>match k with | .inl i=>i | .inr _=>0) z
     simpa [aC,Function.comp_def] using this)
    rw [decide_eq_false hne]
    refine oy ?_
    show aM _ _ (oneLt' false (bN b) (bN b')) _ _ _
    refine n5 _ _ ?_
    obtain ⟨its,r1,it1,_⟩:=I'.tuple (SqT.of hb)
    obtain ⟨its',r1',it1',_⟩:=I'.tuple (SqT.of hb')
    exact HT.lt_tupInts it1 it1' (eP r1) (eP r1') hu c
  ·rw [show (n == n')=false from beq_eq_false_iff_ne.mpr e]
   have hq:HT.lexLt (n::ns) (n'::ns')=decide (n<n'):=by rw [HT.lexLt_cons,if_neg e]
   rw [hq] at c
   exact oy (oneLt_int c)
end
def wu (kd:List Da):Option (List Nat):=match gL kd with
 | some ns=>if OkN ns then some (nJ yO (0:Int) ns) else none
 | none=>match hkD kd with
   | some ts=>if OkN ts then some (nJ vF ([]:List Int) ts) else none
   | none=>none
def rB (lam:Da->Option Da) (ds:List Da):Option (List Da):=if ds.length<128 then (match BX lam ds with
 | none=>none
 | some kd=>match wu kd with
   | none=>none
   | some pl=>some (pl.map fun i=>ds.getD i .non)) else none
def kz (ix:List (Option Nat)) (i0:Nat) (fi:Rho->Option (List Da)) (g:Rho->Option Rv):Rho->Option Rv:=fun ρ=>match fi ρ with
 | none=>none
 | some ds=>match rB (D9 ix i0 g ρ) ds with
   | none=>none
   | some es=>some (.fr,.lst es)
section
variable {X:Cx} {pins:List (ak×dm)} {σ:St} {H:Hp} {s:ai}
theorem uv (hu:X.A.in1.in1.units<cx) {B G0 H0 G:Hp} {x:ae} {xs:List V} {ds es:List Da} {lam:Da->Option Da} {fv:ak} (I:Inv X pins σ H s) (E0:Ext G0 H0 G H) (col:jA X.prog X.w X.A.in1 s x xs) (dl:cO X.K G ds xs)
 (L:DN X X.A.in1.in1 (.ref fv) σ G0 H0 lam) (hs:rB lam ds=some es) {Q:VK} (k:∀ v G' H',Ext G H G' H'->gZ X.K B H G' H' (.fr,.lst es) v->Q v H') :
 aM (be X.prog X.w) X.A (call (.builtin "sorted") [x] [(cG "key",.ref fv)]) (EP X pins σ Q) X.xe s:=by
 unfold rB at hs
 split at hs
 case isFalse=>cases hs
 case isTrue h64 =>
 split at hs
 ·cases hs
 ·rename_i kd hkd
  split at hs
  ·cases hs
  ·rename_i pl hpl
   cases hs
   unfold wu at hpl
   split at hpl
   ·rename_i ns hns
    split at hpl
    case isFalse=>cases hpl
    rename_i hok
    cases hpl
    have ekd:=gT hns
    subst ekd
    refine nK (O:=yO) (κ:=p0) (d0:=(0:Int)) (ks:=ns) I E0 col dl L hkd hok (ab _).symm (fun s' G' H' pins' kvs us _ _ dk rk=>CF dk rk) fun D G' H' E' hD=>?_
    refine k _ G' _ (E'.trans (Ext.own E'.gh hD)) ⟨D,_,rfl,E'.hh.free hD,E'.gh.free hD,aV,_,rfl,lf (K:=X.K) (G:=G') _ fun i hi=>?_⟩
    have hi':i<ds.length:=by
     have h1:i<ns.length:=rR (O:=yO) hi
     have h2:=mo hkd
     rw [ab] at h2
     exact h2▸h1
    obtain ⟨v,hv,dv⟩:=dl.get (i:=i) (ij hi' .non)
    have e:xs.getD i .non=v:=by rw [aB,hv];rfl
    show Den X.K G' (ds.getD i .non) (xs.getD i .non)
    rw [e]
    exact Den.mono E'.gg _ dv
   ·split at hpl
    ·rename_i ts hts
     split at hpl
     case isFalse=>cases hpl
     rename_i hok
     cases hpl
     have hln:=GG hts
     refine nK (O:=vF) (κ:=y3 true) (d0:=([]:List Int)) (ks:=ts) I E0 col dl L hkd hok hln (fun s' G' H' pins' kvs us I' sm dk rk=>zf hts hln I' sm hu dk rk) fun D G' H' E' hD=>?_
     refine k _ G' _ (E'.trans (Ext.own E'.gh hD)) ⟨D,_,rfl,E'.hh.free hD,E'.gh.free hD,aV,_,rfl,lf (K:=X.K) (G:=G') _ fun i hi=>?_⟩
     have hi':i<ds.length:=by
      have h1:i<ts.length:=rR (O:=vF) hi
      have h2:=mo hkd
      lia
     obtain ⟨v,hv,dv⟩:=dl.get (i:=i) (ij hi' .non)
     have e:xs.getD i .non=v:=by rw [aB,hv];rfl
     show Den X.K G' (ds.getD i .non) (xs.getD i .non)
     rw [e]
     exact Den.mono E'.gg _ dv
    ·cases hpl
end
structure Mkr (X:Cx) (c P:ak):Prop where
 code:X.env.code=.ref c
 hd:iO X.base c P
 tab:(P,X.env.qual++"<lambda>")∈ii X.K
 bm:Bm X.mg X.base
section
variable {X:Cx} {a e body:aP} {params:iN} {scope:dO} {p p2 pos pos2 kpos lpos:e7} {c P:ak} {ix:List (Option Nat)} {x:bH} {i0:Nat} {g:Rho->Option Rv} {ga:Rho->Option (List Rv)}
structure Cy (X:Cx) (params:iN) (body:aP) (scope:dO) (ix:List (Option Nat)) (x:bH) (i0:Nat) (g:Rho->Option Rv):Prop where
 S:xo X scope ix x i0
 df:defaultsOf params X.env=([],[])
 bind:∀ (q:bH) (cl:List (bH×ak)) (pm cd ctv u:ae),jJ (oz "<lambda>" q params body scope cl pm cd ctv) ⟨[u],[]⟩=pure [(x,u)]
 body:∀ (q:bH) (f c':ak) (s:ai) (H:Hp),PX (DE X X.A.in1.in1 scope q f c' s H) body g
theorem qU {pins:List (ak×dm)} {s1:ai} {σ:St} {H H1 B G G1:Hp} {ρ:Rho} {u:ae} {xs:List V} {ds es:List Da} {Q:VK} (hc:X.calm=true) (hr:jm 2 X.A) (M:Mkr X c P) (Lm:Cy X params body scope ix x i0 g)
 (I1:Inv X pins σ H1 s1) (sb:cQ B H) (st:iC X.K B G H σ ρ) (E1:Ext G H G1 H1) (col:∀ (s2:ai) (H2:Hp),Inv X pins σ H2 s2->cQ H1 H2->jA X.prog X.w X.A.in1 s2 u xs) (dl:cO X.K G1 ds xs) (hs:rB (D9 ix i0 g ρ) ds=some es)
 (k:∀ v G' H',Ext G H G' H'->gZ X.K B H G' H' (.fr,.lst es) v->Q v H') :
 aM (be X.prog X.w) X.A (evalAll ((lh pos (h8 [⟨some "key",.Lambda params body scope lpos,kpos⟩] X.env)).map (·.2)))
  (fun kvs s₂=>aM (be X.prog X.w) X.A (call (.builtin "sorted") [u] (((lh pos (h8 [⟨some "key",.Lambda params body scope lpos,kpos⟩] X.env)).filterMap (·.1)).zip kvs)) (EP X pins σ Q) X.xe s₂) X.xe s1:=by
 show aM _ _ (evalAll ((do let v <- b9 (.Lambda params body scope lpos) X.env;pT pos;pure v)::[])) _ _ s1
 refine wpAny_evalAll_cons (aa (CQ I1 M.bm M.code M.hd (E1.gh _ _ (E1.gg _ _ (st.tg _ M.tab))) rfl (Lm.S.toCScope.cells I1) Lm.df fun f c' pm ctv s2 H2 I2 hf0 hf hc' ext=>aa (g4 (al (wpAny_evalAll_nil ?_)))))
 show aM (be X.prog X.w) X.A (call (.builtin "sorted") [u] [(cG "key",.ref f)]) (EP X pins σ Q) X.xe s2
 have E2:=ext G1 E1.gh
 have E12:=E1.trans E2
 have L:=HZ (A:=X.A.in1.in1) (B:=B) (G0:=G1) (H0:=H2) (ρ:=ρ) (g:=g) (σ:=σ) (pm:=pm) (ctv:=ctv) Lm.S (show X.A.in1.in1.handled=none from hr.hd) rfl (hr.in1.in1.depth) (fun u=>Lm.bind _ _ _ _ _ u) (fun s H=>Lm.body _ f c' s H) (sb.trans E12.hh) (st.ext E12) hf hc'
 refine uv (show X.A.in1.in1.units<cx from by have:=hr.un;show X.A.units+1+1<cx;lia) (B:=B) I2 (Ext.refl E12.gh) (col s2 H2 I2 E2.hh) dl L hs fun v G' H' E' rv=>?_
 refine k v G' H' (E12.trans E') ?_
 exact rv.base E12.hh
theorem vh (hc:X.calm=true) (hr:jm 2 X.A) (hg:Gl X "sorted") (hm:X.mg "sorted" = none) (hg2:Gl X "range") (hm2:X.mg "range" = none) (M:Mkr X c P) (Lm:Cy X params body scope ix x i0 g) (ha:PXA X [a] ga)
 (hs:ao [a] X.env=[(false,b9 a X.env)]:=by exact bS rfl) (he:ao [.Call (.Name "range" p2) [a] [] pos2] X.env=[(false,b9 (.Call (.Name "range" p2) [a] [] pos2) X.env)]:=by rfl) :
 PX X (.Call (.Name "sorted" p) [.Call (.Name "range" p2) [a] [] pos2] [⟨some "key",.Lambda params body scope lpos,kpos⟩] pos) (kz ix i0 (mn ga) g):=by
 intro pins s σ H Q I ⟨B,G,ρ,r,sg,sb,st,eq,k⟩
 unfold kz at eq
 split at eq
 ·cases eq
 ·rename_i ds efi
  split at eq
  ·cases eq
  ·rename_i es ees
   cases eq
   unfold mn at efi
   split at efi
   ·rename_i kd j ej
    split at efi
    ·rename_i hj
     cases efi
     have hds:(fg 0 j.toNat).length<128:=by
      unfold rB at ees
      split at ees
      ·assumption
      ·cases ees
     have hdn:(fg 0 j.toNat).length=j.toNat:=by
      have:=(kE (K:=X.K) (G:=G) j.toNat 0).length
      rw [ab,List.length_range'] at this
      exact this.symm
     refine fM (nG (u:=.builtin "sorted") I hg hm (by decide +kernel) ?_)
     refine B9 (thn (fR (oO hg2 hm2 ha hs) kL he pos pins s σ H (fun vs H1=>∃ G1 rr,vs=[.ref rr]/\Ext G H G1 H1/\H1 rr=some (.rng 0 j)) I ?_) fun us s1 ⟨vs,H1,I1,r1,G1,rr,ev,E1,hrr⟩=>?_) (by rw [he];rfl) (by rw [he];rfl)
     ·refine ⟨B,G,ρ,_,sg,sb,st,ej,fun vs G1 H1 E1 r1=>?_⟩
      obtain ⟨v,rfl,r2⟩:=fJ.one r1
      refine ⟨j,by rw [r2.int],fun rr hrr=>?_⟩
      exact ⟨G1,rr,rfl,E1.trans (Ext.own E1.gh hrr),aV⟩
     ·subst ev
      obtain ⟨u,rfl,ru⟩:=lH r1
      cases ru
      refine qU hc hr M Lm I1 sb st E1 (xs:=(bG j.toNat).map fun (i:Nat)=>V.int (i:Int)) (fun s2 H2 I2 sm=>xn I2 (I2.ok.hd hc) (sm _ _ hrr) hj.1 (by lia)) (by rw [gq];exact kE j.toNat 0) ees k
    ·cases efi
   ·cases efi
def qG (f:Rho->Option Rv):Rho->Option (List Da):=fun ρ=>match f ρ with
 | some (.pu,.lst ds)=>some ds
 | _=>none
theorem vd {fe:Rho->Option Rv} (hc:X.calm=true) (hr:jm 2 X.A) (hg:Gl X "sorted") (hm:X.mg "sorted" = none) (M:Mkr X c P) (Lm:Cy X params body scope ix x i0 g) (ha:PX X e fe)
 (he:ao [e] X.env=[(false,b9 e X.env)]:=by exact bS rfl) :
 PX X (.Call (.Name "sorted" p) [e] [⟨some "key",.Lambda params body scope lpos,kpos⟩] pos) (kz ix i0 (qG fe) g):=by
 intro pins s σ H Q I ⟨B,G,ρ,r,sg,sb,st,eq,k⟩
 unfold kz at eq
 split at eq
 ·cases eq
 ·rename_i ds efi
  split at eq
  ·cases eq
  ·rename_i es ees
   cases eq
   unfold qG at efi
   split at efi
   ·rename_i ds' ee
    cases efi
    refine fM (nG (u:=.builtin "sorted") I hg hm (by decide +kernel) ?_)
    refine B9 (thn (fR ha kL he pos pins s σ H (fun vs H1=>∃ G1 rr xs,vs=[.ref rr]/\Ext G H G1 H1/\SqL X.K G1 rr xs/\cO X.K G1 ds xs) I ?_) fun us s1 ⟨vs,H1,I1,r1,G1,rr,xs,ev,E1,hrr,dl⟩=>?_) (by rw [he];rfl) (by rw [he];rfl)
    ·refine ⟨B,G,ρ,_,sg,sb,st,ee,fun v G1 H1 E1 r1=>?_⟩
     obtain ⟨a,xs,rfl,q1,d1⟩:=r1
     exact ⟨G1,a,xs,rfl,E1,q1,d1⟩
    ·subst ev
     obtain ⟨u,rfl,ru⟩:=lH r1
     cases ru
     refine qU hc hr M Lm I1 sb st E1 (xs:=xs) (fun s2 H2 I2 sm=>?_) dl ees k
     obtain ⟨vs,cl,rv⟩:=sF (A:=X.A.in1) I2 (.inl (sm.seq (E1.gh.seq hrr)))
     exact Fb cl rv
   ·cases efi
end
section
variable {prog:bA} {w:cb} {A:bK} {E:ae->ai->Prop} {s:ai}
theorem zX {x:ae} {T:String} {xs:List V} {Q:ae->ai->Prop} (hT:s.TypeIs x T) (nt:(fV T == fV "tuple")=false) (col:jA prog w A.in1.in1 s x xs) (hn:xs.length<=aL)
 (h:∀ (h':cr) (tk:Nat) (vs:List ae),(∀ b o,s.heap.get? b=some o->h'.get? b=some o)->eE xs vs->Q (.ref h'.objs.size) { s with heap:=h'.push { cls:=.type "tuple",data:=.seq vs.toArray },toks:=tk }):aM (be prog w) A (call (.type "tuple") [x]) Q E s:=by
 refine callType_codes (Q₁:=fun obj s₁=>s₁.TypeIs obj "tuple"/\Q obj s₁) PySem.F.called_tuple (PySem.F.typeCall_tuple_1 _) PySem.F.entry_object_init ?_ fun obj s₁ h₁ =>
  ⟨h₁.1,PySem.F.args_object_init_2 obj _,object_init_meets PySem.F.called_tuple.init.lookup PySem.F.called_tuple.made (by decide) prog w A.in1 _ s₁ ⟨h₁.1,rfl,h₁.2⟩⟩
 refine codeAny_of_tree ?_
 show aM _ A.in1.in1 (do checkBuiltinCall "tuple.__new__" ⟨[.type "tuple",x],[]⟩;again (.builtin "tuple.__new__" ⟨[.type "tuple",x],[]⟩)) _ _ s
 refine aa (B6 (PySem.F.newCall_tuple_1 _) (al ⟨gr qu _,eD PySem.F.entry_tuple_new ?_⟩))
 rw [dJ qu _]
 have hsub:=sub_tuple_self
 have hinit:=init_tuple_lookup
 have hmh:=madeHere_tuple
 have colT:∀ {R:List ae->ai->Prop} {E:ae->ai->Prop},(∀ (h':cr) (tk:Nat) (vs:List ae),(∀ b o,s.heap.get? b=some o->h'.get? b=some o)->eE xs vs->R vs { s with heap:=h',toks:=tk })->aM (be prog w) A.in1.in1 (uM x) R E s:=fun h=>col _ _ h
 wp_walk using iy hT,colT
 intro h' tk vs hk rv
 show aM _ _ (dq vs.toArray>>=fun v=>ret v) _ _ _
 unfold dq
 refine aa (cy ?_ (by show vs.toArray.size<=aL;rw [aA,<- rv.length];exact hn))
 refine al ?_
 exact ⟨⟨_,aH _ rfl,rfl⟩,h h' tk vs hk rv⟩
end
section
variable {X:Cx} {a b e:aP} {p p2 pos pos2:e7} {fa fb:Rho->Option Rv} {g:Rho->Option (List Rv)}
theorem p9 (hc:X.calm=true):lq X (.type "tuple") (fun xs H Q=>∃ (r:ak) (j:Int),xs=[.ref r]/\H r=some (.rng 0 j)/\-(2 ^ 62)<=j/\j<=1000000/\∀ l,H l=none->Q (.ref l) (upd H l (.tup ((bG j.toNat).map fun (i:Nat)=>V.int (i:Int))))):=by
 intro pins s σ H xs us Q I r h
 obtain ⟨r',j,rfl,hr,j1,j2,q⟩:=h
 obtain ⟨u,rfl,rx⟩:=lH r
 cases rx
 obtain ⟨t,u,v,hr'⟩:=I.hok r' _ hr
 have hs:aL=16777216:=bE
 refine zX (T:="range") ⟨_,hr',rfl⟩ (by decide) (xn (A:=X.A.in1.in1) I (I.ok.hd hc) hr j1 j2) (by rw [ab,dZ];lia) fun h' tk vs kp rv=>?_
 have I2:Inv X pins σ H { s with heap:=h',toks:=tk }:=I.kept (t':=tk) kp
 exact ⟨.ref h'.objs.size,_,I2.laid (t':=tk) (o:=.tup _) (fun b o e=>af _ e) (ax _) ⟨⟨by rw [ab,dZ];lia,mz.new _ _⟩,vs,rv,nW _ _⟩,rfl,q _ (I2.hok.fresh (ax _))⟩
def jt (g:Rho->Option (List Rv)):Rho->Option Rv:=fun ρ=>match g ρ with
 | some [(_,.int j)]=>if -(2 ^ 62)<=j/\j<=1000000 then some (.pu,.tup (fg 0 j.toNat)) else none
 | _=>none
theorem vM (hg:Gl X "tuple") (hm:X.mg "tuple" = none) (hg2:Gl X "range") (hm2:X.mg "range" = none) (ha:PXA X [a] g) (hc:X.calm=true:=by rfl) (hs:ao [a] X.env=[(false,b9 a X.env)]:=by exact bS rfl)
 (he:ao [.Call (.Name "range" p2) [a] [] pos2] X.env=[(false,b9 (.Call (.Name "range" p2) [a] [] pos2) X.env)]:=by rfl):PX X (.Call (.Name "tuple" p) [.Call (.Name "range" p2) [a] [] pos2] [] pos) (jt g) :=
 PE.imp (lY (p9 hc) hg hm (by decide +kernel) (fR (oO hg2 hm2 ha hs) kL he) (by decide) (by decide) he rfl) fun σ H Q ⟨B,G,ρ,r,sg,sb,st,eq,k⟩=>by
  unfold jt at eq
  split at eq
  ·rename_i kd j ej
   split at eq
   ·rename_i hj
    cases eq
    refine ⟨B,G,ρ,_,sg,sb,st,ej,fun vs G1 H1 E1 r1=>?_⟩
    obtain ⟨v,rfl,r2⟩:=fJ.one r1
    refine ⟨j,by rw [r2.int],fun rr hrr=>?_⟩
    refine ⟨rr,j,rfl,aV,hj.1,hj.2,fun l hl=>?_⟩
    have E2:=E1.trans (Ext.own (o:=.rng 0 j) E1.gh hrr)
    refine k _ _ _ (E2.trans (Ext.new E2.gh hl)) ⟨l,_,rfl,aV,?_⟩
    rw [gq]
    exact kE j.toNat 0
   ·cases eq
  ·cases eq
theorem Kh {A:bK} {E:ae->ai->Prop} {pins:List (ak×dm)} {σ:St} {H:Hp} {s:ai} {a b:ak} {kvs:List (List Key×V)} {k:List Key} {v:V} {r:ae} {Q:Unit->ai->Prop} (hu:A.units<cx) (I:Inv X pins σ H s) (e:H a=some (.dT kvs)) (eb:H b=some (.tup (k.map kV))) (l:kvs.length<aL)
 (rv:gD v r) (h:∀ s',Inv X pins σ (upd H a (.dT (lp kvs k v))) s'->Q () s'):aM (be X.prog X.w) A (dictSet a (.ref b) r) Q E s:=by
 obtain ⟨z,hd,xs,rel,dd⟩:=JN I.hok e
 have hz:xs.length<=aL:=by rw [<- ce rel];exact z
 have hl:(lp kvs k v).length<=aL:=by have:=jP kvs k v;lia
 refine wpAny_dictSet_heap (knd:=jC (cI X.prog X.w)) (hsz:=hz) hu (lX I.hok eb) dd fun h' dd' hs=>h _ ?_
 obtain ⟨q,es,ep,hq,h2,h3,h4,_,h5⟩:=dd'
 refine sB I (by rw [e];exact ja) hs ⟨q,hq⟩ ⟨hl,hd,_,(rel.put k eb rv).keeps fun c ys ec=>?_,q,es,ep,hq,h2,h3,h4,h5⟩
 rw [bq (Iq ec e (fun z=>nomatch z))]
 exact ec
def oY (fk fv:Rho->Option Rv):Rho->Option Rv:=fun ρ=>match fk ρ,fv ρ with
 | some (_,.tup ds),some r=>(match gL ds with
   | some ns=>if e5 r=true then some (.fr,.dT [ns.map aq] [r.2]) else none
   | none=>none)
 | _,_=>none
theorem Ah (hu:X.A.units+1<cx) (ha:PX X a fa) (hb:PX X b fb):PX X (.Dict [some a] [b] pos) (oY fa fb):=by
 intro pins s σ H Q I ⟨B,G,ρ,r,sg,sb,st,eq,k⟩
 unfold oY at eq
 split at eq
 ·rename_i kd ds rv efa efb
  split at eq
  ·rename_i ns en
   split at eq
   ·rename_i hpu
    cases eq
    have hn:=I.hok.fresh (ax s.heap.objs.size)
    have I1:=I.laid (a:=s.heap.objs.size) (o:=.dT []) (h':=s.heap.push { cls:=.type "dict",data:=.dict #[] }) (t':=s.toks) (fun _ _ q=>af _ q) (ax _) (w9 s.heap I.big)
    rw [arm_eval_Dict,zip_pairTrees [some a] [b] X.env pos rfl rfl,dictDisplay_pairs (qX [some a] [b] X.env pos) (by simp [qX]) (by simp [qX])]
    refine aa (g4 (aa ?_))
    unfold subDict
    refine aa (wpAny_alloc ?_)
    refine aa (cP ?_)
    rw [if_pos (by simp [qX])]
    have E0:Ext G H G (upd H s.heap.objs.size (.dT [])):=Ext.own sg hn
    refine aa (thn (wQ ha hb AT pins _ σ _ (fun ps H2=>∃ x y G1 G2 H1,ps=[(x,y)]/\Ext G (upd H s.heap.objs.size (.dT [])) G1 H1/\gZ X.K B (upd H s.heap.objs.size (.dT [])) G1 H1 (kd,.tup ds) x/\Ext G1 H1 G2 H2/\gZ X.K B H1 G2 H2 rv y) I1
     ⟨B,G,ρ,_,E0.gh,sb.trans E0.hh,st.ext E0,efa,fun x G1 H1 E1 r1=>⟨B,G1,ρ,_,E1.gh,(sb.trans E0.hh).trans E1.hh,(st.ext E0).ext E1,efb,fun y G2 H2 E2 r2=>⟨x,y,G1,G2,H1,rfl,E1,r1,E2,r2⟩⟩⟩) fun ws s2 ⟨ps,H2,I2,rel,x,y,G1,G2,H1,ep,E1,r1,E2,r2⟩=>?_)
    subst ep
    obtain ⟨G3,E3,_,d3⟩:=r2.pure E2 hpu
    obtain ⟨t,xs,rfl,ht,dl,_⟩:=r1.tup E1.gh
    rw [gT en] at dl
    have ex:=cO.ints.mp dl
    have ek:ns.map V.int=(ns.map (aq:Int->Key)).map kV:=by rw [aC];rfl
    have e03:=(E0.trans E1).trans E3
    have hp2:H2 s.heap.objs.size=some (.dT []):=(E1.trans E3).hh _ _ aV
    have gp:G3 s.heap.objs.size=none:=(E1.trans E3).nw _ _ aV rfl (sg.free hn)
    have ht2:H2 t=some (.tup ((ns.map (aq:Int->Key)).map kV)):=by rw [<- ek,<- ex];exact E3.hh _ _ ht
    cases rel with
    | @cons _ w _ _ h tl =>
      cases tl
      obtain ⟨wk,wv⟩:=w
      obtain ⟨h1,h2⟩:=h
      cases (show wk=bN t from h1)
      refine cP ?_
      refine aa ?_
      rw [B4]
      refine aa (aa (Kh (by lia) I2 hp2 ht2 (by rw [bE];decide) h2 fun s' I'=>al ?_))
      dsimp only
      rw [qp]
      refine al (al (al (al ?_)))
      exact ⟨.ref s.heap.objs.size,_,I',rfl,k _ G3 _ (e03.mut hn gp) ⟨s.heap.objs.size,_,rfl,hn,gp,aV,[(ns.map aq,y)],rfl,rfl,⟨y,[],rfl,d3,rfl⟩⟩⟩
   ·cases eq
  ·cases eq
 ·cases eq
end
section
variable {prog:bA} {w:cb} {A:bK} {E:ae->ai->Prop} {s:ai}
theorem vq:typeLookup (.type "list") "keys" = pure none:=by rw [typeLookup_type,builtinLookup_eq_fast];kernel_rfl
theorem zP {a:ak} {xs:Array ae} {k:Nat} {Q:Option ae->ai->Prop} (hx:s.heap.get? a=some { cls:=.type "list",data:=.seq xs k }) (hA:A.handled=none)
 (h:∀ h' tk,(∀ b o,s.heap.get? b=some o->h'.get? b=some o)->Q none { s with heap:=h',toks:=tk }):aM (be prog w) A (getAttr? (.ref a) "keys") Q E s:=by
 obtain ⟨hp,g,d,tk,os⟩:=s
 have hT:∀ tk',(⟨hp,g,d,tk',os⟩:ai).TypeIs (.ref a) "list":=fun _=>⟨_,hx,rfl⟩
 have f1:=sub_AttributeError
 have f3:=PySem.F.slot_list_getattribute.lookup
 have f4:=PySem.F.slot_list_getattribute.bind (.ref a)
 have f5:=am_list_getattr_none
 unfold getAttr? getAttrBy? getAttrBy
 repeat (any_goals (first | assumption | exact hT _ | ((with_reducible show aM _ _ (call (Value.builtin "list.__getattribute__") _ _) _ _ _);refine uU PySem.F.slot_list_getattribute (hT _) am_entry_list_getattribute (PySem.F.args_list_getattribute_2 _ _) (meets_getattribute_miss_list a xs k #[] "keys" _ vq (by decide +kernel) (by rw [bE];decide)) ⟨hx,hA,fun h' tk' e hx'=>?_⟩) | wp_step))
 obtain ⟨t',u',he⟩:=hx'.there
 show aM _ _ (getattributeRaised _ _ _ _ _ _ _) _ _ _
 unfold getattributeRaised
 repeat (any_goals (first | assumption | wp_step))
 exact h _ _ hx'.keeps
theorem lx:entryFor table "dict.update.loop" = some Builtin.«dict.update.loop»:=entryFor_of_tree (by kernel_rfl)
theorem ig:plainId "dict.update.loop" = true:=by decide +kernel
def tW (h:cr) (x:ae) (kv:Int×ae):Prop:=∃ (t:ak) (o:dm) (m:Nat) (tk:yP),x=.ref t/\h.get? t=some o/\o.cls=.type "tuple"/\o.data=.seq #[.int kv.1 tk,kv.2] m
theorem tW.keep {h h':cr} {x:ae} {kv:Int×ae} (p:tW h x kv) (k:∀ b o,h.get? b=some o->(∀ o',o'=o->o'.cls=.type "tuple")->h'.get? b=some o):tW h' x kv:=by
 obtain ⟨t,o,m,tk,e,ho,hc,hd⟩:=p
 exact ⟨t,o,m,tk,e,k t o ho fun o' z=>by rw [z];exact hc,hc,hd⟩
theorem Dj {I l D:ak} {its:Array ae} {T:List (Int×ae)} {R:yQ->ai->Prop} (hh:A.in1.handled=none) (hIl:l≠I) (hDI:D≠I) (hDl:D≠l) (hT:T.length=its.size) (hn:T.length<=1000) :
 ∀ (k i:Nat) (s:ai),its.size-i=k->i<=its.size->s.heap.IsListIter I l i->s.heap.IsList l its->s.heap.DictOf (cI prog w) D (merged [] ((T.map fun e=>((aq e.1:Key),e.2)).take i)) ->
 (∀ j (hj:j<its.size) kv,T[j]?=some kv->tW s.heap its[j] kv) ->
 (∀ s',(∀ b o,b≠I->b≠D->s.heap.get? b=some o->s'.heap.get? b=some o)->s'.heap.DictOf (cI prog w) D (merged [] (T.map fun e=>((aq e.1:Key),e.2)))->s'.gens=s.gens->s'.drawn=s.drawn->s'.os=s.os->R (.ok (.ret .none)) s') ->
 lA (be prog w) A (.builtin "dict.update.loop" ⟨[.ref D,.ref I,jI i,.none],[]⟩) R s:=by
 have W:=pY (prog:=prog) (w:=w) (A:=A.in1) hh I l hIl its
 intro k
 induction k with
 | zero =>
   intro i s hk hi hit hl hd hp hR
   have hin:i=its.size:=by lia
   subst hin
   refine eD lx ?_
   rw [dJ ig _]
   show aM _ A.in1 (kq (.ref I)>>=_) _ _ s
   refine aa (W.done s _ _ ⟨hit,hl⟩ fun h' tk hm=>?_)
   show aM _ _ (Builtin.Dict.addKeywords D []>>=_) _ _ _
   refine aa (al (al (hR _ (fun b o hb _ e=>hm b o (by simpa using hb) e) ?_ rfl rfl rfl)))
   rw [eC (by rw [ab];lia)] at hd
   exact hd.extBut (fun b o hb e=>hm b o (by simpa using hb) e) hDI
 | succ k ih =>
   intro i s hk hi hit hl hd hp hR
   have hlt:i<its.size:=by lia
   refine eD lx ?_
   rw [dJ ig _]
   show aM _ A.in1 (kq (.ref I)>>=_) _ _ s
   refine aa (W.item i s _ _ hlt ⟨hit,hl⟩ fun v h' tk hP hst hm=>?_)
   have hm':∀ b o,b≠I->s.heap.get? b=some o->h'.get? b=some o:=fun b o hb e=>hm b o (by simpa using hb) e
   have hiT:i<T.length:=by lia
   have ev:v=its[i]:=by rw [gA hlt] at hP;exact (bR hP).symm
   obtain ⟨t,o,m,tk1,ex,ho,hc,hdt⟩:=hp i hlt T[i] (aj hiT)
   have hitObj:∃ oI,s.heap.get? I=some oI/\oI.cls=.type "list_iterator":=let ⟨oI,e,c,_⟩:=hit;⟨oI,e,c⟩
   have htI:t≠I:=fun z=>by
    obtain ⟨oI,e1,c1⟩:=hitObj
    rw [<- z,ho] at e1
    cases e1
    rw [hc] at c1
    injection c1 with z2
    exact absurd z2 (by decide)
   have ho':=hm' t o htI ho
   rw [ev,ex]
   refine aa (cP ?_)
   refine aa (iB ?_)
   unfold Builtin.Dict.pairItems
   refine aa (iy (T:="tuple") ⟨o,ho',hc⟩ ?_)
   rw [if_pos (by decide)]
   refine aa ?_
   unfold re
   refine aa (ou ho' ?_)
   rw [hdt]
   refine al (al ?_)
   show aM _ _ (uI [eR T[i].1 tk1,T[i].2] (dictSet D (.int T[i].1 tk1) T[i].2)) _ _ _
   have hd':h'.DictOf (cI prog w) D (merged [] ((T.map fun e=>((aq e.1:Key),e.2)).take i)):=hd.extBut (fun b o hb e=>hm' b o hb e) hDI
   have hlen:(merged [] ((T.map fun e=>((aq e.1:Key),e.2)).take i)).length<=aL:=by
    have h1:=merged_length_le [] ((T.map fun e=>((aq e.1:Key),e.2)).take i)
    rw [gx,ab,cX] at h1
    rw [bE]
    lia
   refine cP (wpAny_dictSet_pairs (s:={ s with heap:=h',toks:=tk }) (knd:=cI prog w) (k:=aq T[i].1) (hsz:=hlen) (uB ⟨_,rfl⟩) hd' fun h'' hd'' hs=>?_)
   have hst2:h''.IsListIter I l (i+1):=let ⟨oI,e1,r1⟩:=hst.1;⟨oI,(hs.2 I (Ne.symm hDI)).trans e1,r1⟩
   have hst3:h''.IsList l its:=let ⟨oI,e1,r1⟩:=hst.2;⟨oI,(hs.2 l (Ne.symm hDl)).trans e1,r1⟩
   have hdObj:∃ oD,s.heap.get? D=some oD/\oD.cls=.type "dict":=let ⟨oD,_,_,e1,c1,_⟩:=hd;⟨oD,e1,c1.1⟩
   have hk2:∀ b o,b≠I->b≠D->s.heap.get? b=some o->h''.get? b=some o:=fun b o h1 h2 e=>(hs.2 b h2).trans (hm' b o h1 e)
   refine al ⟨gr ig _,?_⟩
   have:=ih (i+1) { s with heap:=h'',toks:=tk+1 } (by lia) hlt hst2 hst3 ?_ (fun j hj kv hkv=>?_) fun s' k' d' g1 g2 g3=>hR s' (fun b o h1 h2 e=>k' b o h1 h2 (hk2 b o h1 h2 e)) d' g1 g2 g3
   ·exact this
   ·rw [merged_take_succ (kv:=((aq T[i].1:Key),T[i].2)) _ _ _ (by rw [ay,aj hiT];rfl)]
    exact hd''
   ·refine (hp j hj kv hkv).keep fun b o e hc'=>hk2 b o (fun z=>?_) (fun z=>?_) e
    ·obtain ⟨oI,e1,c1⟩:=hitObj
     rw [<- z,e] at e1
     cases e1
     rw [hc' _ rfl] at c1
     injection c1 with z2
     exact absurd z2 (by decide)
    ·obtain ⟨oI,e1,c1⟩:=hdObj
     rw [<- z,e] at e1
     cases e1
     rw [hc' _ rfl] at c1
     injection c1 with z2
     exact absurd z2 (by decide)
theorem so {l:ak} {its:Array ae} {n:Nat} {T:List (Int×ae)} {Q:ae->ai->Prop} (hh:A.handled=none) (hl:s.heap.get? l=some { cls:=.type "list",data:=.seq its n }) (hT:T.length=its.size) (hn:T.length<=1000) (nd:(T.map (·.1)).Nodup)
 (hp:∀ j (hj:j<its.size) kv,T[j]?=some kv->tW s.heap its[j] kv)
 (h:∀ h' tk,(∀ b o,s.heap.get? b=some o->h'.get? b=some o)->h'.DictOf (cI prog w) s.heap.objs.size (T.map fun e=>((aq e.1:Key),e.2))->Q (.ref s.heap.objs.size) { s with heap:=h',toks:=tk }) :
 aM (be prog w) A (call (.type "dict") [.ref l]) Q E s:=by
 refine callType_codes (Q₁:=fun obj s₁=>obj=.ref s.heap.objs.size/\s₁={ s with heap:=s.heap.push { cls:=.type "dict",data:=.dict #[] } }) PySem.F.kt_called_dict (PySem.F.kt_typeCall_dict_1 _) PySem.F.entry_dict_init (kt_code_dict_new _ ⟨rfl,rfl⟩) ?_
 rintro obj s₁ ⟨rfl,rfl⟩
 have hnew:(s.heap.push { cls:=.type "dict",data:=.dict #[] }).DictOf (cI prog w) s.heap.objs.size []:=uL s.heap
 have hl':(s.heap.push { cls:=.type "dict",data:=.dict #[] }).get? l=some { cls:=.type "list",data:=.seq its n }:=af _ hl
 have hDl:s.heap.objs.size≠l:=fun e=>absurd (aF hl) (by rw [e];exact b8 _)
 refine ⟨hnew.typeIs,PySem.F.args_dict_init_2 _ _,?_⟩
 unfold Builtin.«dict.__init__»
 refine aa ?_
 unfold Builtin.Dict.selfAndRest
 refine aa (BK hnew.typeIs ?_)
 show aM _ _ (pure (s.heap.objs.size,[bN l])) _ _ _
 refine al ?_
 show aM _ _ (n6 "dict.__init__" s.heap.objs.size (.ref l) [] .none) _ _ _
 unfold n6
 refine aa (iy (T:="list") ⟨_,hl',rfl⟩ ?_)
 rw [if_pos (by decide)]
 refine aa (zP hl' hh fun h1 tk1 k1=>?_)
 rw [if_pos (show (none:Option ae).isNone=true from rfl)]
 refine aa (uW ?_)
 have hl1:h1.IsList l its:=⟨_,k1 _ _ hl',rfl,n,rfl⟩
 refine aa (km (s:={ s with heap:=h1,toks:=tk1 }) hl1 ?_)
 have hD1:h1.DictOf (cI prog w) s.heap.objs.size []:=hnew.keep k1
 have hDlt:s.heap.objs.size<h1.objs.size:=let ⟨o,_,_,e,_⟩:=hD1;aF e
 refine al ⟨gr ig _,?_⟩
 have hnd:((T.map fun e=>((aq e.1:Key),e.2)).map (·.1)).Nodup:=by
  rw [aC]
  have:(T.map ((·.1)∘fun e:Int×ae=>((aq e.1:Key),e.2)))=(T.map (·.1)).map (aq:Int->Key):=by rw [aC];rfl
  rw [this]
  exact bB.mpr (nd.imp fun {a b} z y=>z (cZ y))
 have hll:l<h1.objs.size:=let ⟨o,e,_⟩:=hl1;aF e
 refine Dj (prog:=prog) (w:=w) (A:=A.in1) (D:=s.heap.objs.size) (I:=h1.objs.size) (l:=l) (its:=its) (T:=T) hh (bu hll) (bu hDlt) hDl hT hn its.size 0 { s with heap:=h1.push { cls:=.type "list_iterator",data:=.fields #[.ref l,.int 0 0] },toks:=tk1 } (by lia) (bW _) ⟨_,aH _ rfl,rfl,rfl⟩ (hl1.at fun o e=>af _ e) (by rw [List.take_zero];exact hD1.push _) (fun j hj kv hkv=>(hp j hj kv hkv).keep fun b o e _=>af _ (k1 b o (af _ e))) fun s' k' d' g1 g2 g3=>?_
 rw [merged_nil_of_nodup _ hnd] at d'
 refine ⟨rfl,?_⟩
 obtain ⟨hp',gg,dd,tt,oo⟩:=s'
 cases g1
 cases g2
 cases g3
 refine h hp' tt (fun b o e=>k' b o ?_ ?_ (af _ (k1 b o (af _ e)))) d'
 ·exact bu (Nat.lt_trans (aF e) hDlt)
 ·exact bu (aF e)
end
section
variable {X:Cx} {e:aP} {p pos:e7} {f:Rho->Option Rv}
theorem s0 (hc:X.calm=true):lq X (.type "dict") (fun xs H Q=>∃ (a:ak) (T:List (Int×Int)) (ts:List ak),xs=[.ref a]/\H a=some (.lst (ts.map V.ref))/\ts.length=T.length/\(∀ (j:Nat) (t:ak) (p:Int×Int),ts[j]?=some t->T[j]?=some p->H t=some (.tup [.int p.1,.int p.2]))/\T.length<=1000/\(T.map (·.1)).Nodup /\
 ∀ D,H D=none->Q (.ref D) (upd H D (.dK (T.map fun e=>((aq e.1:Key),V.int e.2))))):=by
 intro pins s σ H xs us Q I r h
 obtain ⟨a,T,ts,rfl,ha,hlt,htup,h1000,nd,q⟩:=h
 obtain ⟨u,rfl,rx⟩:=lH r
 cases rx
 obtain ⟨z,its,n,rv,e⟩:=I.hok a _ ha
 have hli:its.length=ts.length:=by rw [<- rv.length,ab]
 have at':∀ j (hj:j<ts.length),∃ (o:dm) (m:Nat) (tk tk2:yP),its.toArray[j]?=some (.ref ts[j])/\s.heap.get? ts[j]=some o/\o.cls=.type "tuple"/\o.data=.seq #[.int (T[j]'(by lia)).1 tk,.int (T[j]'(by lia)).2 tk2] m:=fun j hj=>by
  obtain ⟨u,hu,ru⟩:=rv.get (i:=j) (x:=.ref ts[j]) (by rw [ay,aj hj];rfl)
  cases (show u=bN ts[j] from ru)
  obtain ⟨_,its2,rv2,o,ho,hcl,m,hd⟩:=I.hok ts[j] _ (htup j ts[j] (T[j]'(by lia)) (aj hj) (aj (by lia)))
  obtain ⟨u1,u2,rfl,⟨tk,e1⟩,⟨tk2,e2⟩⟩:=eE.two rv2
  subst e1 e2
  exact ⟨o,m,tk,tk2,by simpa using hu,ho,hcl,hd⟩
 obtain ⟨vs,hvl,hvs⟩:∃ vs:List (Int×ae),vs.length=T.length/\∀ j (hj:j<T.length),∃ tk2,vs[j]?=some (T[j].1,.int T[j].2 tk2)/\∃ (o:dm) (m:Nat) (tk:yP),its.toArray[j]?=some (.ref (ts[j]'(by lia)))/\s.heap.get? (ts[j]'(by lia))=some o/\o.cls=.type "tuple"/\o.data=.seq #[.int T[j].1 tk,.int T[j].2 tk2] m:=by
  have g:∀ j:Fin T.length,∃ tk2:yP,∃ (o:dm) (m:Nat) (tk:yP),its.toArray[j.1]?=some (.ref (ts[j.1]'(by lia)))/\s.heap.get? (ts[j.1]'(by lia))=some o/\o.cls=.type "tuple"/\o.data=.seq #[.int T[j.1].1 tk,.int T[j.1].2 tk2] m:=fun j=>by
   obtain ⟨o,m,tk,tk2,h1,h2,h3,h4⟩:=at' j.1 (by lia)
   exact ⟨tk2,o,m,tk,h1,h2,h3,h4⟩
  refine ⟨List.ofFn fun j:Fin T.length=>(T[j.1].1,eR T[j.1].2 (e8 (g j))),by simp,fun j hj=>⟨e8 (g ⟨j,hj⟩),by simp [hj],jL (g ⟨j,hj⟩)⟩⟩
 have hfst:vs.map (·.1)=T.map (·.1):=by
  apply nz
  intro j
  by_cases hj:j<T.length
  ·obtain ⟨tk2,h1,_⟩:=hvs j hj
   rw [ay,h1,ay,aj hj]
   rfl
  ·rw [fK (by rw [ab];lia),fK (by rw [ab];lia)]
 refine so (T:=vs) (its:=its.toArray) (I.ok.hd hc) e (by rw [aA];lia) (by lia) (by rw [hfst];exact nd) (fun j hj kv hkv=>?_) fun h' tk kp dd=>?_
 ·rw [aA] at hj
  obtain ⟨tk2,h1,o,m,tk,h2,h3,h4,h5⟩:=hvs j (by lia)
  rw [h1] at hkv
  cases hkv
  have ei:its.toArray[j]=.ref (ts[j]'(by lia)):=by
   have:=h2
   rw [gA (by rw [aA];exact hj)] at this
   exact bR this
  exact ⟨_,o,m,tk,ei,h3,h4,h5⟩
 ·have rel:KV (T.map fun e=>((aq e.1:Key),V.int e.2)) (vs.map fun e=>((aq e.1:Key),e.2)):=by
   have go:∀ (T:List (Int×Int)) (vs:List (Int×ae)),vs.length=T.length->(∀ j (hj:j<T.length),∃ tk2,vs[j]?=some (T[j].1,.int T[j].2 tk2))->KV (T.map fun e=>((aq e.1:Key),V.int e.2)) (vs.map fun e=>((aq e.1:Key),e.2)):=fun T=>by
    induction T with
    | nil=>intro vs h1 _;cases vs with | nil=>exact .nil | cons _ _=>cases h1
    | cons x T ih =>
      intro vs h1 h2
      cases vs with
      | nil=>cases h1
      | cons y vs =>
        obtain ⟨tk2,e0⟩:=h2 0 (by simp)
        have e0:y=(x.1,.int x.2 tk2):=by simpa using e0
        subst e0
        exact .cons ⟨rfl,tk2,rfl⟩ (ih vs (by simpa using h1) fun j hj=>by
         obtain ⟨tk2,e⟩:=h2 (j+1) (by simpa using hj)
         exact ⟨tk2,by simpa using e⟩)
   exact go T vs hvl fun j hj=>by obtain ⟨tk2,h1,_⟩:=hvs j hj;exact ⟨tk2,h1⟩
  have hb:(s.heap.objs.size == dh)=false:=beq_eq_false_iff_ne.mpr (Ne.symm (bu I.big))
  have hz:(T.map fun e=>((aq e.1:Key),V.int e.2)).length<=aL:=by rw [ab,bE];lia
  exact ⟨.ref s.heap.objs.size,_,I.laid (t':=tk) (o:=.dK (T.map fun e=>((aq e.1:Key),V.int e.2))) kp (ax _) (Br hz hb rel dd),rfl,q _ I.fresh⟩
def m9 (f:Rho->Option Rv):Rho->Option Rv:=fun ρ=>match f ρ with
 | some (.fr,.lst ds)=>(match dG ds with
   | some T=>if (T.map (·.1)).Nodup/\T.length<=1000 then some (.fr,.dK (T.map fun e=>aq e.1) (T.map fun e=>.int e.2)) else none
   | none=>none)
 | _=>none
theorem yr {K:ac} {G:Hp}:∀ {ds:List Da} {T:List (Int×Int)} {xs:List V},dG ds=some T->cO K G ds xs->∃ ts:List ak,xs=ts.map V.ref/\ts.length=T.length/\∀ (j:Nat) (t:ak) (p:Int×Int),ts[j]?=some t->T[j]?=some p->G t=some (.tup [.int p.1,.int p.2]):=by
 intro ds
 fun_induction dG ds with
 | case1=>intro T xs e d;cases e;cases (show xs=[] from d);exact ⟨[],rfl,rfl,by simp⟩
 | case2 a b r ih =>
   intro T xs e d
   obtain ⟨T0,eT,rfl⟩:=sK.mp e
   obtain ⟨x,rr,rfl,d1,d2⟩:=d
   obtain ⟨t,ys,rfl,gt,dy⟩:=d1
   obtain ⟨y1,r1,rfl,e1,dy⟩:=dy
   obtain ⟨y2,r2,rfl,e2,e3⟩:=dy
   cases (show r2=[] from e3)
   cases (show y1=.int a from e1)
   cases (show y2=.int b from e2)
   obtain ⟨ts,h1,h2,h3⟩:=ih eT d2
   refine ⟨t::ts,by rw [h1];rfl,by simp [h2],fun j u p hj hp=>?_⟩
   cases j with
   | zero=>simp at hj hp;subst hj hp;exact gt
   | succ j=>exact h3 j u p (by simpa using hj) (by simpa using hp)
 | case3=>intro T xs e;cases e
theorem Aa (hc:X.calm=true) (hg:Gl X "dict") (hm:X.mg "dict" = none) (ha:PX X e f) (he:ao [e] X.env=[(false,b9 e X.env)]:=by exact bS rfl):PX X (.Call (.Name "dict" p) [e] [] pos) (m9 f) :=
 PE.imp (lY (s0 hc) hg hm (by decide +kernel) (fR ha kL he) (by decide) (by decide) he rfl) fun σ H Q ⟨B,G,ρ,r,sg,sb,st,eq,k⟩=>by
  unfold m9 at eq
  split at eq
  ·rename_i ds ef
   split at eq
   ·rename_i T eT
    split at eq
    ·rename_i hT
     cases eq
     refine ⟨B,G,ρ,_,sg,sb,st,ef,fun v G1 H1 E1 r1=>?_⟩
     obtain ⟨l,o,rfl,n1,g1,q1,xs,rfl,dl⟩:=r1
     obtain ⟨ts,rfl,hl,ht⟩:=yr eT dl
     refine ⟨l,T,ts,rfl,q1,hl,fun j t p h1 h2=>E1.gh _ _ (ht j t p h1 h2),hT.2,hT.1,fun D hD=>?_⟩
     refine k _ G1 _ (E1.trans (Ext.own E1.gh hD)) ⟨D,_,rfl,E1.hh.free hD,E1.gh.free hD,aV,_,rfl,by rw [aC];rfl,?_⟩
     have:((T.map fun e=>((aq e.1:Key),V.int e.2)).map (·.2))=(T.map (·.2)).map V.int:=by rw [aC,aC];rfl
     rw [this]
     have e2:(T.map fun e=>Da.int e.2)=(T.map (·.2)).map Da.int:=by rw [aC];rfl
     rw [e2]
     exact cO.ints.mpr rfl
    ·cases eq
   ·cases eq
  ·cases eq
end
open AutoSeq1 (wpAny_loadPart') in
section
variable {prog:bA} {w:cb} {A:bK} {R:yQ->ai->Prop} {I:ak} {fp wr:List ak} {n:Nat} {P:Nat->ae->Prop} {St:Nat->cr->Prop}
theorem An (W:Walks prog w A.in1 I fp wr n P St) (bt:Nat->Nat->Bool) (hcmp:CmpOf prog w A.in1 .Gt P bt) (S:ak) (hSf:S∉fp) (d:ae) :
 ∀ (k j:Nat) (s:ai) (its:Array ae) (c:Nat),n-j=k->j<=n->St j s.heap->s.heap.get? S=some (bY "list" its c)->(j=0/\its = #[]\/∃ vb i,j=i+1/\its = #[vb,vb]/\P (nA bt i) vb) ->
 (∀ v h' tk,(n=0/\v=d\/∃ i,n=i+1/\P (nA bt i) v)->(∀ b o,b∉wr->b≠S->s.heap.get? b=some o->h'.get? b=some o)->R (.ok (.ret v)) { s with heap:=h',toks:=tk }) ->
 lA (be prog w) A (.builtin "max.loop" ⟨[.ref I,.none,.ref S],[(cG "default",d)]⟩) R s:=by
 have hSw:S∉wr:=fun h=>hSf (W.sub _ h)
 have hname:(toString "max"++toString ".loop" : String) = "max.loop":=by decide
 intro k
 induction k with
 | zero =>
   intro j s its c hk hj hst hS hI hR
   have hin:j=n:=by lia
   subst hin
   refine eD rf ?_
   rw [dJ d6 _]
   rcases hI with ⟨rfl,rfl⟩ | ⟨vb,i,rfl,rfl,hP⟩
   ·show aM _ A.in1 (re (.ref S)>>=_) _ _ s
    refine aa (mS hS rfl ?_)
    show aM _ A.in1 (tryCatch (kq (.ref I)) _>>=_) _ _ s
    refine aa (iB (W.done s _ _ hst fun h' tk hk'=>?_))
    refine aa (uW (al ?_))
    exact hR d _ tk (.inl ⟨rfl,rfl⟩) fun b o hbw hbS e=>hk' b o hbw e
   ·show aM _ A.in1 (re (.ref S)>>=_) _ _ s
    refine aa (mS hS rfl ?_)
    show aM _ A.in1 (tryCatch (kq (.ref I)) _>>=_) _ _ s
    refine aa (iB (W.done s _ _ hst fun h' tk hk'=>?_))
    have hS':=hk' S _ hSw hS
    show aM _ A.in1 (updateSeq S (fun _=>#[])>>=_) _ _ _
    refine aa ?_
    refine sV hS' rfl (aa (mR (al ?_)))
    exact hR vb _ tk (.inr ⟨i,rfl,hP⟩) fun b o hbw hbS e=>(cN _ _ (Ne.symm hbS)).trans (hk' b o hbw e)
 | succ k ih =>
   intro j s its c hk hj hst hS hI hR
   have hlt:j<n:=by lia
   refine eD rf ?_
   rw [dJ d6 _]
   rcases hI with ⟨rfl,rfl⟩ | ⟨vb,i,rfl,rfl,hPb⟩
   ·show aM _ A.in1 (re (.ref S)>>=_) _ _ s
    refine aa (mS hS rfl ?_)
    show aM _ A.in1 (tryCatch (kq (.ref I)) _>>=_) _ _ s
    refine aa (iB (W.item 0 s _ _ hlt hst fun v h' tk hP hst' hk'=>?_))
    have hS':=hk' S _ hSw hS
    show aM _ A.in1 (updateSeq S (fun _=>#[v,v])>>=_) _ _ _
    refine aa ?_
    refine sV hS' rfl ?_
    rw [hname]
    refine al ⟨gr d6 _,ih 1 _ _ _ (by lia) hlt (W.frame _ _ _ hst' fun b hbf o e=>?_) (kN _ hS' rfl) (.inr ⟨v,0,rfl,rfl,hP⟩) fun v' h'' tk'' hP' hk''=>?_⟩
    ·exact (cN _ _ (fun h:S=b=>hSf (by rw [h];exact hbf))).trans e
    ·exact hR v' h'' tk'' hP' fun b o hbw hbS e=>hk'' b o hbw hbS ((cN _ _ (Ne.symm hbS)).trans (hk' b o hbw e))
   ·show aM _ A.in1 (re (.ref S)>>=_) _ _ s
    refine aa (mS hS rfl ?_)
    show aM _ A.in1 (tryCatch (kq (.ref I)) _>>=_) _ _ s
    refine aa (iB (W.item (i+1) s _ _ hlt hst fun v h' tk hP hst' hk'=>?_))
    have hS':=hk' S _ hSw hS
    show aM _ A.in1 (tryCatch (uI [v,v] (richCompare .Gt v vb>>=_)) _>>=_) _ _ _
    refine aa (iB (cP (aa (hcmp (i+1) (nA bt i) v vb _ _ _ hP hPb ?_))))
    refine aa (cP (eA ?_))
    refine aa (mR (al ?_))
    cases hb:bt (i+1) (nA bt i) with
    | true =>
      simp only [if_true]
      refine aa ?_
      refine sV hS' rfl (aa (mR ?_))
      rw [hname]
      refine al ⟨gr d6 _,ih (i+2) _ _ _ (by lia) hlt (W.frame _ _ _ hst' fun b hbf o e=>?_) (kN _ hS' rfl) (.inr ⟨v,i+1,rfl,rfl,by simp only [nA,hb,if_true];exact hP⟩)
       fun v' h'' tk'' hP' hk''=>?_⟩
      ·exact (cN _ _ (fun h:S=b=>hSf (by rw [h];exact hbf))).trans e
      ·exact hR v' h'' tk'' hP' fun b o hbw hbS e=>hk'' b o hbw hbS ((cN _ _ (Ne.symm hbS)).trans (hk' b o hbw e))
    | false =>
      simp only [eG,if_false]
      refine aa (mR ?_)
      rw [hname]
      refine al ⟨gr d6 _,ih (i+2) _ _ c (by lia) hlt hst' hS' (.inr ⟨vb,i+1,rfl,rfl,by simp only [nA,hb,eG,if_false];exact hPb⟩) fun v' h'' tk'' hP' hk''=>?_⟩
      exact hR v' h'' tk'' hP' fun b o hbw hbS e=>hk'' b o hbw hbS (hk' b o hbw e)
end
theorem Ae (a v:ae):argsOk "max" ⟨[a],[(cG "default",v)]⟩:=by unfold argsOk;kernel_rfl
section
variable {prog:bA} {w:cb} {A:bK} {E:ae->ai->Prop} {s:ai} {l:ak} {xs:Array (Int×yP)}
theorem tI {d:ae} {Q:ae->ai->Prop} (hh:A.handled=none) (hl:s.heap.IsList l (mP xs))
 (h:∀ v h' tk,(xs.size=0/\v=d\/0<xs.size/\(mP xs)[nA (fun i j=>decide (yI xs i > yI xs j)) (xs.size-1)]?=some v)->(∀ b o,s.heap.get? b=some o->h'.get? b=some o)->Q v { s with heap:=h',toks:=tk }) :
 aM (be prog w) A (call (.builtin "max") [.ref l] [(cG "default",d)]) Q E s:=by
 have hname:(toString "max"++toString ".loop" : String) = "max.loop":=by decide
 refine wpAny_call (codeAny_call_builtin PySem.F.plain_max PySem.F.entry_max ?_)
 have body:aM (be prog w) A.in1 (Builtin.«max» ⟨[.ref l],[(cG "default",d)]⟩) (fun fin s'=>match fin with
  | .done f=>(match (Except.ok f:yQ) with | .ok (.ret v)=>Q v s' | .ok _=>False | .error e=>E e s')
  | .again c'=>c'.quiet=true/\lA (be prog w) A c' (fun r s'=>match r with | .ok (.ret v)=>Q v s' | .ok _=>False | .error e=>E e s') s') (fun e s'=>E e s') s:=by
  show aM _ A.in1 (lm "max" ["key","default"] 0 ⟨[],[(cG "default",d)]⟩>>=_) _ _ s
  refine aa (B6 (show lm "max" ["key","default"] 0 ⟨[],[(cG "default",d)]⟩=pure [none,some d] from rfl) ?_)
  refine aa (al ?_)
  refine aa (iter_intList hl fun s₂ e st hfp hlI=>?_)
  subst e
  refine aa (cy ?_)
  rw [hname]
  have W:=pY (prog:=prog) (w:=w) (A:=A.in1) hh s.heap.objs.size l hlI (mP xs)
  refine al ⟨gr d6 _,An W _ (CmpOf.ints_gt (yI xs) (fun _ _=>intItems_at)) _ (fun hm=>b8 _ (hfp _ hm)) d _ 0 _ #[] 0 rfl (bW _) (W.frame _ _ _ st fun b _ o e=>af _ e) (aH _ rfl) (.inl ⟨rfl,rfl⟩) fun v h' tk hP hk=>?_⟩
  refine h v h' tk ?_ (old_kept fun b o hbw e=>hk b o hbw (bu (aF e)) (af _ e))
  have hsz:(mP xs).size=xs.size:=by simp [mP]
  rw [hsz] at hP
  rcases hP with z | ⟨i,hi,hP⟩
  ·exact .inl z
  ·exact .inr ⟨by lia,by rw [hi];exact hP⟩
 simp only [checkBuiltinCall,PySem.F.kind_max]
 cases hsig:Manifest.signature? "max" with
 | none=>exact al body
 | some sig =>
   have ha':Bind.checkArgs "max" sig ⟨[.ref l],[(cG "default",d)]⟩=pure ():=by simpa only [argsOk,hsig] using Ae (.ref l) d
   simp only [ha']
   exact al body
end
theorem oS:∀ (r:List Int) (m:Int),m<=yL m r/\(∀ x∈r,x<=yL m r)/\(yL m r=m\/yL m r∈r)
 | [],m=>⟨Int.le_refl _,by simp,.inl rfl⟩
 | a::r,m=>by
   unfold yL
   by_cases hm:m<a
   ·rw [if_pos hm]
    obtain ⟨h1,h2,h3⟩:=oS r a
    refine ⟨by lia,fun x hx=>?_,.inr ?_⟩
    ·rcases am.mp hx with z | z
     ·subst z;exact h1
     ·exact h2 x z
    ·rcases h3 with z | z
     ·rw [z];exact ah
     ·exact ag _ z
   ·rw [if_neg hm]
    obtain ⟨h1,h2,h3⟩:=oS r m
    refine ⟨h1,fun x hx=>?_,h3.imp id fun z=>ag _ z⟩
    rcases am.mp hx with z | z
    ·subst z;lia
    ·exact h2 x z
theorem AL {a:Int} {r:List Int} {v:Int} (hm:v∈a::r) (hle:∀ x∈a::r,x<=v):yL a r=v:=by
 obtain ⟨h1,h2,h3⟩:=oS r a
 have h4:yL a r∈a::r:=h3.elim (fun z=>by rw [z];exact ah) fun z=>ag _ z
 have h5:=hle _ h4
 rcases am.mp hm with z | z
 ·subst z;lia
 ·have:=h2 v z;lia
def uC (d:Int):List Int->Int
 | []=>d
 | a::r=>yL a r
def xU (f g:Rho->Option Rv):Rho->Option Rv:=fun ρ=>match f ρ,g ρ with
 | some (_,.lst ds),some (_,.int d)=>(match gL ds with
   | some ns=>some (.pu,.int (uC d ns))
   | none=>none)
 | _,_=>none
theorem Fg {X:Cx} {e e2:aP} {p pos kpos:e7} {fe fd:Rho->Option Rv} (hc:X.calm=true) (hg:Gl X "max") (hm:X.mg "max" = none) (ha:PX X e fe) (hb:PX X e2 fd)
 (he:ao [e] X.env=[(false,b9 e X.env)]:=by exact bS rfl):PX X (.Call (.Name "max" p) [e] [⟨some "default",e2,kpos⟩] pos) (xU fe fd):=by
 intro pins s σ H Q I ⟨B,G,ρ,r,sg,sb,st,eq,k⟩
 unfold xU at eq
 split at eq
 ·rename_i k1 ds k2 d e1 e2'
  split at eq
  ·rename_i ns en
   cases eq
   refine fM (nG (u:=.builtin "max") I hg hm (by decide +kernel) ?_)
   refine B9 (thn (fR ha kL he pos pins s σ H (fun vs H1=>∃ G1 v,vs=[v]/\Ext G H G1 H1/\gZ X.K B H G1 H1 (k1,.lst ds) v) I ⟨B,G,ρ,_,sg,sb,st,e1,fun v G1 H1 E1 r1=>⟨G1,v,rfl,E1,r1⟩⟩) fun us s1 ⟨vs,H1,I1,r1,G1,v,ev,E1,rv1⟩=>?_) (by rw [he];rfl) (by rw [he];rfl)
   subst ev
   obtain ⟨u,rfl,ru⟩:=lH r1
   show aM _ _ (evalAll ((do let v <- b9 e2 X.env;pT pos;pure v)::[])) _ _ s1
   refine wpAny_evalAll_cons (aa (thn (hb pins s1 σ H1 (fun v2 H2=>∃ G2,Ext G1 H1 G2 H2/\v2=.int d) I1 ⟨B,G1,ρ,_,E1.gh,sb.trans E1.hh,st.ext E1,e2',fun v2 G2 H2 E2 r2=>⟨G2,E2,r2.int⟩⟩) fun u2 s2 ⟨v2,H2,I2,r2,G2,E2,ev2⟩=>aa (g4 (al (wpAny_evalAll_nil ?_)))))
   subst ev2
   obtain ⟨t,rfl⟩:=r2
   show aM (be X.prog X.w) X.A (call (.builtin "max") [u] [(cG "default",.int d t)]) (EP X pins σ Q) X.xe s2
   obtain ⟨pp,ys,rfl,q,dl⟩:=(rv1.ext E2).lst E2.gh
   cases ru
   have:=gT en
   subst this
   have:=cO.ints.mp dl
   subst this
   obtain ⟨its,rv,pl,hz⟩:=I2.list q
   have hi:=eP rv
   have hh:X.A.handled=none:=I2.ok.hd hc
   obtain ⟨xs,ex⟩:=hi.allInts.items
   have hns:ns=xs.toList.map (·.1):=by
    rw [<- nums_intItems,<- ex]
    exact (show numsOf its.toArray.toList=ns from hi.numsOf).symm
   have hlen:ns.length=xs.size:=by rw [hns,ab,bP]
   have hl':s2.heap.IsList pp (mP xs):=ex▸pl.isList
   refine tI hh hl' fun v h' tk hv hk=>?_
   have fin:∀ t',v=.int (uC d ns) t'->EP X pins σ Q v { s2 with heap:=h',toks:=tk }:=fun t' ev =>
    ⟨.int (uC d ns),H2,I2.kept (t':=tk) hk,⟨t',ev⟩,k _ G2 H2 (E1.trans E2) rfl⟩
   rcases hv with ⟨h0,rfl⟩ | ⟨h0,hv⟩
   ·have:ns=[]:=iH (by lia)
    exact fin t (by rw [this];rfl)
   ·obtain ⟨t',rfl⟩:=intItems_at hv
    refine fin t' ?_
    cases ns with
    | nil=>simp at hlen;lia
    | cons a r =>
      obtain ⟨h1,h2⟩:=argBest_gt (yI xs) (xs.size-1)
      have em:yL a r=yI xs (nA (fun i j=>decide (yI xs i > yI xs j)) (xs.size-1)):=by
       refine AL ?_ fun x hx=>?_
       ·rw [hns,numAt_eq];exact getD_mem (by rw [ab,bP];lia)
       ·rw [hns] at hx
        obtain ⟨j,hj,rfl⟩:=mem_getD hx
        rw [ab,bP] at hj
        rw [<- numAt_eq];exact h2 j (by lia)
      show eR _ _=eR (yL a r) _
      rw [em]
  ·cases eq
 ·cases eq
def Iti (a:ak) (o:dm) (kvs:List (Key×V)):It :=
 ⟨fun i H=>H a=some (.frz o (.dK kvs))/\i<kvs.length,fun i H x H'=>∃ l kv,x=.ref l/\H l=none/\kvs[i]?=some kv/\H'=upd H l (.tup [kV kv.1,kv.2]),fun i H=>H a=some (.frz o (.dK kvs))/\kvs.length=i⟩
def o9 (ks:List Key) (ds:List Da):List Da:=(ks.zip ds).map fun e=>.tup [ji e.1,e.2]
theorem Ck {K:ac} {G:Hp} {a:ak} {o:dm} {kvs:List (Key×V)} {ds:List Da} (q:G a=some (.frz o (.dK kvs))) (h:cO K G ds (kvs.map (·.2))):HB K (Iti a o kvs) (o9 (kvs.map (·.1)) ds) G:=by
 intro i G' H' s1 s2
 have q2:=(s1.trans s2) _ _ q
 have hl:=h.length
 rw [ab] at hl
 refine ⟨fun d e=>?_,fun hn=>⟨q2,by unfold o9 at hn;rw [ab,pO,ab,<- hl,Nat.min_self] at hn;exact hn⟩⟩
 unfold o9 at e
 rw [ay] at e
 cases z:((kvs.map (·.1)).zip ds)[i]? with
 | none=>rw [z] at e;cases e
 | some c =>
   rw [z] at e
   cases e
   obtain ⟨z1,z2⟩:=List.getElem?_zip_eq_some.mp z
   obtain ⟨x,hx,dx⟩:=h.get z2
   rw [ay] at z1 hx
   cases w:kvs[i]? with
   | none=>rw [w] at z1;cases z1
   | some kv =>
     rw [w] at z1 hx
     have e1:kv.1=c.1:=bR z1
     have e2:kv.2=x:=bR hx
     refine ⟨⟨q2,(aE.mp w).1⟩,fun y H'' u=>?_⟩
     obtain ⟨l,kv',rfl,hl',e',rfl⟩:=u
     rw [w] at e';cases e'
     refine ⟨_,Ext.new s2 hl',l,_,rfl,aV,cO.two ?_ ?_⟩
     ·rw [e1];exact uH _
     ·rw [e2];exact Den.mono (s1.trans (cw (s2.free hl'))) c.2 dx
theorem ww {α β:Type} {F:α->β->Prop}:∀ {l₁:List α} {l₂:List β} {i:Nat} {a:α},oq F l₁ l₂->l₁[i]?=some a->∃ b,l₂[i]?=some b/\F a b
 | _,_,i,a,.nil,e=>by simp at e
 | _,_,0,a,.cons h _,e=>by simp at e;subst e;exact ⟨_,rfl,h⟩
 | _,_,i+1,a,.cons _ r,e=>by simpa using ww r (by simpa using e)
theorem yy {P:bA} {w:cb} {K:ac} {elts:List aP} {x1:Nat} {pos:e7} (a it:ak) (o:dm) (kvs:List (Key×V)) (vs:List (Key×ae)) (ep:Nat) (es:Array lj) (hd:o.data=.dict es ep) (rel:KV kvs vs) :
 Gy P w K (.Tuple elts x1 pos) (Iti a o kvs) [it] it (fun i h=>∃ ok ov,IsItemIter h it a i vs.length ep ok ov) where
 mem:=by simp
 obj:=fun i h st b hb=>by
  have e:b=it:=by simpa using hb
  subst e
  obtain ⟨ok,ov,e⟩:=st
  exact ⟨_,e,fun v z=>by cases z⟩
 keep:=fun i h h' st k=>by
  obtain ⟨ok,ov,e⟩:=st
  exact ⟨ok,ov,k it (by simp) _ e⟩
 item:=by
  intro X hP hw hK hc i pins s σ H E I hf st hg
  subst hP hw hK
  obtain ⟨hq,hi⟩:=hg
  obtain ⟨ok,ov,st⟩:=st
  obtain ⟨ho,hm,vs',rel',dd⟩:=kW I hq
  have fi:=hf it (by simp)
  obtain ⟨kv,hkv⟩:∃ kv,kvs[i]?=some kv:=⟨kvs[i],by simp [hi]⟩
  obtain ⟨⟨k',x'⟩,hv,hk,ru⟩:=ww rel' hkv
  obtain ⟨o2,es2,ep2,e2,r2⟩:=dd
  rw [ho] at e2;cases e2
  have hep:ep2=ep:=by
   have:=r2.2.1
   rw [hd] at this;cases this;rfl
  subst hep
  have hlen:vs.length=vs'.length:=by rw [<- ce rel,<- ce rel']
  rw [hlen] at st
  have li:it<s.heap.objs.size:=aF st
  refine wpAny_pyNext_items_item (knd:=cI X.prog X.w) st ⟨o,es2,ho,r2⟩ hv fun key h' hkey ho' hT hsz hkp=>⟨_,rfl,wpAny_letOwnedTupleGo_items ho' fun h2 he2 hs2=>?_⟩
  have fr:=I.hok.fresh (ax s.heap.objs.size)
  dsimp only at hk ru
  subst hk
  have rk:gD (kV kv.1) key:=by
   rcases dN (show rV kv.1 key=true from hkey) with ⟨z,t,e1,e2⟩ | ⟨z,t,e1,e2⟩
   ·rw [e1,e2];exact ⟨t,rfl⟩
   ·rw [e1,e2];exact ⟨t,rfl⟩
  have I1:Inv X pins σ (upd H s.heap.objs.size (.tup [kV kv.1,kv.2])) { s with heap:=s.heap.push { cls:=.type "tuple",data:=.seq #[key,x'] },toks:=s.toks } :=
   I.laid (t':=s.toks) (o:=.tup [kV kv.1,kv.2]) (fun b o e=>af _ e) (ax _) ⟨⟨by rw [bE];simp,mz.new _ _⟩,[key,x'],.cons rk (.cons ru .nil),nW _ _⟩
  have ne:upd H s.heap.objs.size (.tup [kV kv.1,kv.2]) it=H it:=bq (bu li)
  obtain ⟨f0,f1,f2,f3,f4,f5⟩:=fi
  have I2:=I1.turned (h':=h2) (t':=s.toks) (it:=it) (fun b o n1 eb=>by
   rcases Heap.get?_push_cases eb with ⟨rfl,rfl⟩ | q
   ·exact (hs2.2 _ n1).trans hT
   ·exact (hs2.2 _ n1).trans (hkp b o n1 q)) (by rw [ne];exact f0) f1 f3 f4 f5
  refine ⟨.ref s.heap.objs.size,_,I2,rfl,⟨_,kv,rfl,fr,hkv,rfl⟩,⟨_,_,by rw [hlen];exact he2⟩,fun b hb=>?_⟩
  have e:b=it:=by simpa using hb
  subst e
  rw [ne];exact f0
 done:=by
  intro X hP hw hK hc i pins s σ H E I hf st hg
  subst hP hw hK
  obtain ⟨hq,hi⟩:=hg
  obtain ⟨ok,ov,st⟩:=st
  obtain ⟨ho,hm,vs',rel',dd⟩:=kW I hq
  obtain ⟨f0,f1,f2,f3,f4,f5⟩:=hf it (by simp)
  obtain ⟨o2,es2,ep2,e2,r2⟩:=dd
  rw [ho] at e2;cases e2
  have hep:ep2=ep:=by
   have:=r2.2.1
   rw [hd] at this;cases this;rfl
  subst hep
  have hlen:vs.length=vs'.length:=by rw [<- ce rel,<- ce rel']
  rw [hlen] at st
  have hl:=ce rel'
  exact wpAny_pyNext_items_end (knd:=cI X.prog X.w) (I.ok.hd hc) st ⟨o,es2,ho,r2⟩ (fK (by lia)) fun h' eb=>⟨rfl,I.turned (t':=s.toks) (fun b o hb e=>eb b o hb e) f0 f1 f3 f4 f5⟩
 self:=fun _ _ _ _ _ st h=>by
  obtain ⟨ok,ov,st⟩:=st
  exact PySem.W.kcp_self st h
def qL (f:Rho->Option Rv):Rho->Option (List Da):=fun ρ=>match f ρ with
 | some (.pu,.dK ks ds)=>some (o9 ks ds)
 | _=>none
section
variable {X:Cx} {o:aP} {elts:List aP} {x1:Nat} {apos cpos pt:e7} {f:Rho->Option Rv}
theorem zm (he:PX X o f) (hbase:gk o "items" X.env (b9 o X.env)=b9 o X.env:=by rfl) (hline:(apos.endLine == cpos.line)=true:=by rfl):PXI X (.Tuple elts x1 pt) (.Call (.Attribute o "items" apos) [] [] cpos) (qL f):=by
 intro pins s σ H R I ⟨B,G,ρ,ds,sg,sb,st,eq,k⟩
 unfold qL at eq
 split at eq
 ·rename_i ks vs q
  cases eq
  refine wpAny_Call_method0_late hbase hline (thn (he pins s σ H (fun v H1=>∃ G1,Ext G H G1 H1/\gZ X.K B H G1 H1 (.pu,.dK ks vs) v) I ⟨B,G,ρ,_,sg,sb,st,q,fun v G1 H1 E1 r1=>⟨G1,E1,r1⟩⟩) fun u s1 ⟨v,H1,I1,rv,G1,E1,r1⟩=>?_)
  obtain ⟨a,oo,kvs,rfl,q1,ek,d1⟩:=r1
  cases rv
  have q2:=E1.gh _ _ q1
  obtain ⟨t1,t2,_⟩:=El I1 (.inl ⟨kvs,.inr ⟨oo,q2⟩⟩)
  obtain ⟨ho,hm,vs',rel,dd⟩:=kW I1 q2
  refine ⟨"dict","dict.items",qj,qv,PySem.F.type_dict_items,t1,t2,kc rfl (PySem.evalArgs_none ?_)⟩
  refine yR qv t1 PySem.F.entry_dict_items (PySem.F.args_dict_items_1 _) (meets_dict_items (cI X.prog X.w) a hm) ⟨⟨vs',dd⟩,?_⟩
  obtain ⟨o2,es,ep,e2,r2⟩:=dd
  rw [ho] at e2;cases e2
  have hv:Heap.IsItemsView (s1.heap.push { cls:=.type "dict_items",data:=.fields #[.ref a] }) s1.heap.objs.size a:=⟨_,aH _ rfl,rfl,rfl⟩
  refine wpAny_pyIter_items (knd:=cI X.prog X.w) hv ⟨oo,es,af _ ho,r2⟩ ?_
  have I2:=I1.kept (t':=s1.toks) (h':=s1.heap.push { cls:=.type "dict_items",data:=.fields #[.ref a] }) fun b o e=>af _ e
  generalize hh1:s1.heap.push { cls:=.type "dict_items",data:=.fields #[.ref a] }=h1 at I2
  refine ⟨h1.objs.size,[h1.objs.size],_,Iti a oo kvs,H1,rfl,I2.kept (t':=s1.toks) fun b o e=>af _ e,yy a _ oo kvs vs' ep es r2.2.1 rel,⟨_,_,aH _ rfl⟩,fun b hb=>?_,k _ G1 H1 E1 (by rw [<- ek];exact Ck q1 d1)⟩
  have e:b=h1.objs.size:=by simpa using hb
  subst e
  exact I2.fpOk (ax _) (I2.hok.fresh (ax _))
 ·cases eq
end
open AutoSeq1 (wpAny_loadPart' idx_int) in
@[irreducible] def QX (X:Cx) (e:aP) (f:Rho->Option Rv):Prop:=PX X e f
theorem QX.mk {X:Cx} {e:aP} {f:Rho->Option Rv} (h:PX X e f):QX X e f:=by unfold QX;exact h
theorem QX.out {X:Cx} {e:aP} {f:Rho->Option Rv} (h:QX X e f):PX X e f:=by unfold QX at h;exact h
@[irreducible] def QXT (X:Cx) (e:aP) (f:Rho->Option Bool):Prop:=PXT X e f
theorem QXT.mk {X:Cx} {e:aP} {f:Rho->Option Bool} (h:PXT X e f):QXT X e f:=by unfold QXT;exact h
theorem QXT.out {X:Cx} {e:aP} {f:Rho->Option Bool} (h:QXT X e f):PXT X e f:=by unfold QXT at h;exact h
@[irreducible] def QXW (X:Cx) (e:aP) (f:Rho->Option Bool):Prop:=PXW X e f
theorem QXW.mk {X:Cx} {e:aP} {f:Rho->Option Bool} (h:PXW X e f):QXW X e f:=by unfold QXW;exact h
theorem QXW.out {X:Cx} {e:aP} {f:Rho->Option Bool} (h:QXW X e f):PXW X e f:=by unfold QXW at h;exact h
@[irreducible] def QXA (X:Cx) (es:List aP) (f:Rho->Option (List Rv)):Prop:=PXA X es f
theorem QXA.mk {X:Cx} {es:List aP} {f:Rho->Option (List Rv)} (h:PXA X es f):QXA X es f:=by unfold QXA;exact h
theorem QXA.out {X:Cx} {es:List aP} {f:Rho->Option (List Rv)} (h:QXA X es f):PXA X es f:=by unfold QXA at h;exact h
@[irreducible] def QXS (X:Cx) (st:cV) (g:Rho->Res):Prop:=PXS X st g
theorem QXS.mk {X:Cx} {st:cV} {g:Rho->Res} (h:PXS X st g):QXS X st g:=by unfold QXS;exact h
theorem QXS.out {X:Cx} {st:cV} {g:Rho->Res} (h:QXS X st g):PXS X st g:=by unfold QXS at h;exact h
@[irreducible] def qx (X:Cx) (st:List cV) (g:Rho->Res):Prop:=wC X st g
theorem qx.mk {X:Cx} {st:List cV} {g:Rho->Res} (h:wC X st g):qx X st g:=by unfold qx;exact h
theorem qx.out {X:Cx} {st:List cV} {g:Rho->Res} (h:qx X st g):wC X st g:=by unfold qx at h;exact h
@[irreducible] def QXI (X:Cx) (tg iter:aP) (f:Rho->Option (List Da)):Prop:=PXI X tg iter f
theorem QXI.mk {X:Cx} {tg iter:aP} {f:Rho->Option (List Da)} (h:PXI X tg iter f):QXI X tg iter f:=by unfold QXI;exact h
theorem QXI.out {X:Cx} {tg iter:aP} {f:Rho->Option (List Da)} (h:QXI X tg iter f):PXI X tg iter f:=by unfold QXI at h;exact h
@[irreducible] def QXG (X:Cx) (tg:aP) (t:Da->Rho->Option Rho):Prop:=PXG X tg t
theorem QXG.mk {X:Cx} {tg:aP} {t:Da->Rho->Option Rho} (h:PXG X tg t):QXG X tg t:=by unfold QXG;exact h
theorem QXG.out {X:Cx} {tg:aP} {t:Da->Rho->Option Rho} (h:QXG X tg t):PXG X tg t:=by unfold QXG at h;exact h
@[irreducible] def yM (X:Cx) (ts:List aP) (t:List Da->Rho->Option Rho):Prop:=GC X ts t
theorem yM.mk {X:Cx} {ts:List aP} {t:List Da->Rho->Option Rho} (h:GC X ts t):yM X ts t:=by unfold yM;exact h
theorem yM.out {X:Cx} {ts:List aP} {t:List Da->Rho->Option Rho} (h:yM X ts t):GC X ts t:=by unfold yM at h;exact h
@[irreducible] def QXO (X:Cx) (e:Option aP) (f:Rho->Option (Option Int)):Prop:=PXO X e f
theorem QXO.mk {X:Cx} {e:Option aP} {f:Rho->Option (Option Int)} (h:PXO X e f):QXO X e f:=by unfold QXO;exact h
theorem QXO.out {X:Cx} {e:Option aP} {f:Rho->Option (Option Int)} (h:QXO X e f):PXO X e f:=by unfold QXO at h;exact h
@[irreducible] def QTS (X:Cx) (ifs:List aP) (c:Rho->Option Bool):Prop:=PTS X ifs (tXT X.K c)
theorem QTS.mk {X:Cx} {ifs:List aP} {c:Rho->Option Bool} (h:PTS X ifs (tXT X.K c)):QTS X ifs c:=by unfold QTS;exact h
theorem QTS.out {X:Cx} {ifs:List aP} {c:Rho->Option Bool} (h:QTS X ifs c):PTS X ifs (tXT X.K c):=by unfold QTS at h;exact h
theorem iF {X:Cx}:QTS X [] (fun _=>some true):=QTS.mk Ge
theorem po {X:Cx} {c:aP} {t:Rho->Option Bool} (h:QXT X c t):QTS X [c] t:=QTS.mk (FN h.out)
structure Dq (X:Cx) (scope:dO) (tg elt:aP) (ifs:List aP) (t:Da->Rho->Option Rho) (c:Rho->Option Bool) (f:Rho->Option Rv):Prop where
 tg:∀ s H fp,QXG (inC X scope s H fp) tg t
 ifs:∀ s H fp,QTS (inC X scope s H fp) ifs c
 elt:∀ s H fp,QX (inC X scope s H fp) elt f
theorem Dq.out {X:Cx} {scope:dO} {tg elt:aP} {ifs:List aP} {t:Da->Rho->Option Rho} {c:Rho->Option Bool} {f:Rho->Option Rv} (h:Dq X scope tg elt ifs t c f):FR X scope tg elt ifs t c f:=⟨fun s H fp=>(h.tg s H fp).out,fun s H fp=>(h.ifs s H fp).out,fun s H fp=>(h.elt s H fp).out⟩
theorem aD (i:Nat) {x:bH} {pos:e7} (hN:X.N[i]?=some x:=by rfl) (hv:Vis X.env.scope x:=by first | exact dI rfl | exact dQ (dI rfl) | exact dQ (dQ rfl)) (hd:(x == ("__debug__" : bH))=false:=by decide)
 (hcd:(x == ("__classdict__" : bH))=false:=by decide):QX X (.Name x pos) (aW i):=QX.mk (j5 (i:=i) (x:=x) (pos:=pos) (hN:=hN) (hv:=hv) (hd:=hd) (hcd:=hcd))
theorem dc {i j pos}:QX X (.Constant (.int i) j pos) (xC (.int i)):=QX.mk (tH (i:=i) (j:=j) (pos:=pos))
theorem tu {b j pos}:QX X (.Constant (.bool b) j pos) (xC (.bl b)):=QX.mk (K6 (b:=b) (j:=j) (pos:=pos))
theorem j7 (ha:QX X a fa) (hb:QX X b fb):QX X (.BinOp a .Add b pos) (x2 nL fa fb):=QX.mk (EQ (ha:=ha.out) (hb:=hb.out))
theorem BC (ha:QX X a fa) (hb:QX X b fb):QX X (.BinOp a .Mult b pos) (x2 (oI tN (·*·)) fa fb):=QX.mk (EA (ha:=ha.out) (hb:=hb.out))
theorem Eb (ha:QX X a fa) (hb:QX X b fb):QX X (.BinOp a .Mod b pos) (x2 (oI (fun _ j=>decide (0<j)) (·%·)) fa fb):=QX.mk (Jh (ha:=ha.out) (hb:=hb.out))
theorem d7 {pos:e7} (hu:X.A.units+1<cx) (ha:QX X a fa) (hb:QX X b fb) (hs:rA b:=by intro _ _;rfl):QX X (.Subscript a b pos) (x2 oIt fa fb):=QX.mk (v9 (pos:=pos) (hu:=hu) (ha:=ha.out) (hb:=hb.out) (hs:=hs))
theorem aQ:QXA X [] cc:=QXA.mk (m5 )
theorem au {e:aP} {es:List aP} {f:Rho->Option Rv} {g:Rho->Option (List Rv)} (ha:QX X e f) (hr:QXA X es g) (hs:ao (e::es) X.env=(false,b9 e X.env)::ao es X.env:=by exact bS rfl):QXA X (e::es) (aJ f g):=QXA.mk (jf (e:=e) (es:=es) (f:=f) (g:=g) (ha:=ha.out) (hr:=hr.out) (hs:=hs))
theorem iR {es:List aP} {x1:Nat} {pos:e7} {g:Rho->Option (List Rv)} (h:QXA X es g):QX X (.Tuple es x1 pos) (kX g):=QX.mk (JF (es:=es) (x1:=x1) (pos:=pos) (g:=g) (h:=h.out))
theorem tO {es:List aP} {pos:e7} {g:Rho->Option (List Rv)} (h:QXA X es g):QX X (.List es pos) (CK g):=QX.mk (Im (es:=es) (pos:=pos) (g:=g) (h:=h.out))
theorem kR {pos:e7}:QX X (.Dict [] [] pos) (xC2 (.fr,.dK [] [])):=QX.mk (w4 (pos:=pos))
theorem Cr {pos:e7}:QX X (.Dict [] [] pos) (xC2 (.fr,.dT [] [])):=QX.mk (DA (pos:=pos))
theorem Lv {o:pS} {op:Rv->Rv->Option Rv} (h:CR2 X o op) (ha:QX X a fa) (hb:QX X b fb) (hm:eM o b=false:=by first | exact wF _ | with_unfolding_all rfl):QX X (.Compare a [o] [b] pos) (x2 op fa fb):=QX.mk (LJ (o:=o) (op:=op) (h:=h) (ha:=ha.out) (hb:=hb.out) (hm:=hm))
theorem ki {o:pS} {op:Rv->Rv->Option Rv} (h:CR2 X o op) (ha:QX X a fa) (hb:QX X b fb) (hm:eM o b=false:=by first | exact wF _ | with_unfolding_all rfl):QXT X (.Compare a [o] [b] pos) (tb (x2 op fa fb)):=QXT.mk (K8 (o:=o) (op:=op) (h:=h) (ha:=ha.out) (hb:=hb.out) (hm:=hm))
theorem Dt (ha:QXT X a ta):QXW X (.BoolOp .And [a] pos) ta:=QXW.mk (DX (ha:=ha.out))
theorem BE (ha:QXT X a ta):QXW X (.BoolOp .Or [a] pos) ta:=QXW.mk (GL (ha:=ha.out))
theorem GA (ha:QXT X a ta) (hb:QXW X (.BoolOp .And (b::rest1) pos) tc):QXW X (.BoolOp .And (a::b::rest1) pos) (yx ta tc):=QXW.mk (Hk (ha:=ha.out) (hb:=hb.out))
theorem EG (ha:QXT X a ta) (hb:QXW X (.BoolOp .Or (b::rest1) pos) tc):QXW X (.BoolOp .Or (a::b::rest1) pos) (FX ta tc):=QXW.mk (HL (ha:=ha.out) (hb:=hb.out))
theorem GS {e:aP} (h:QXW X e ta):QXT X e ta:=QXT.mk (K7 (e:=e) (h:=h.out))
theorem K4 (hc:QXT X c ta) (ha:QX X a fa) (hb:QX X b fb):QX X (.IfExp c a b pos) (xIf ta fa fb):=QX.mk (Ln (hc:=hc.out) (ha:=ha.out) (hb:=hb.out))
theorem xv (ha:QX X a fa) (he:∀ whole,isTrue a X.env whole=(do let v <- whole;pT a.pos;uI [v] (truthy v)):=by intro _;rfl):QXT X a (tTr fa):=QXT.mk (JD (ha:=ha.out) (he:=he))
theorem jj:qx X [] ni:=qx.mk (EU )
theorem bJ (h1:QXS X st1 g) (h2:qx X rest1 h):qx X (st1::rest1) (iD g h):=qx.mk (CZ (h1:=h1.out) (h2:=h2.out))
theorem bZ (h1:QXS X st1 g):qx X [st1] g:=qx.mk (FS (h1:=h1.out))
theorem lv {c:aP} {a b:List cV} {t:Rho->Option Bool} (hc:QXT X c t) (ha:qx X a g) (hb:qx X b h):QXS X (.If c a b pos) (sIf t g h):=QXS.mk (Jy (c:=c) (a:=a) (b:=b) (t:=t) (hc:=hc.out) (ha:=ha.out) (hb:=hb.out))
theorem eK {i:Nat} {x:bH} (hN:X.N.Nodup) (he:QX X e f) (hi:X.N[i]?=some x:=by rfl) (hx:Loc X.env.scope x:=by first | exact dI rfl | exact dQ rfl) (hs:ff e (some (.Name x pos')) pos.line X.env=pure false:=by rfl)
 (hf:X.fn x=true\/X.env.scope.names.lookup x=some .local:=by first | exact .inl rfl | exact .inr rfl | assumption):QXS X (.Assign [.Name x pos'] e pos) (lP i f):=QXS.mk (Ga (i:=i) (x:=x) (hN:=hN) (he:=he.out) (hi:=hi) (hx:=hx) (hs:=hs) (hf:=hf))
theorem lG {i:Nat} {x:bH} (hN:X.N.Nodup) (he:QX X e f) (hi:X.N[i]?=some x:=by rfl) (hx:Loc X.env.scope x:=by first | exact dI rfl | exact dQ rfl) (hs:ff e (some (.Name x pos')) pos.line X.env=pure false:=by rfl)
 (hf:X.fn x=true\/X.env.scope.names.lookup x=some .local:=by first | exact .inl rfl | exact .inr rfl | assumption):QXS X (.Assign [.Name x pos'] e pos) (zC i f):=QXS.mk (Hf (i:=i) (x:=x) (hN:=hN) (he:=he.out) (hi:=hi) (hx:=hx) (hs:=hs) (hf:=hf))
theorem Hc (i:Nat) (h1:QXS X st1 g):QXS X st1 (fun ρ=>g (frz i ρ)):=QXS.mk (Fe (i:=i) (h1:=h1.out))
theorem np {i:Nat} {x:bH} {p1 apos cpos:e7} (he:QX X e f) (hN:X.N[i]?=some x:=by rfl) (hv:Vis X.env.scope x:=by first | exact dI rfl | exact dQ (dI rfl) | exact dQ (dQ rfl)) (hd:(x == ("__debug__" : bH))=false:=by decide)
 (hcd:(x == ("__classdict__" : bH))=false:=by decide)
 (hs:ff (.Call (.Attribute (.Name x p1) "append" apos) [e] [] cpos) none pos.line X.env=pure false:=by rfl) (hbase:gk (.Name x p1) "append" X.env (b9 (.Name x p1) X.env)=b9 (.Name x p1) X.env:=by rfl)
 (hfew:((cz cpos (ao [e] X.env)).all (fun x=>!x.1)&&(lh cpos (h8 [] X.env)).all (fun x=>x.1.isSome)&&decide (([e]:List aP).length+([]:List i5).length+(if ([]:List i5).isEmpty then 0 else 1)<30))=true:=by rfl)
 (hline:(apos.endLine == cpos.line)=true:=by rfl) (hst:ao [e] X.env=[(false,b9 e X.env)]:=by exact bS rfl) (hplain:(cz cpos (ao [] X.env)).any (·.1)=false:=by rfl) :
 QXS X (.Expr (.Call (.Attribute (.Name x p1) "append" apos) [e] [] cpos) pos) (lJ i f):=QXS.mk (yf (i:=i) (x:=x) (p1:=p1) (apos:=apos) (cpos:=cpos) (he:=he.out) (hN:=hN) (hv:=hv) (hd:=hd) (hcd:=hcd) (hs:=hs) (hbase:=hbase) (hfew:=hfew) (hline:=hline) (hst:=hst) (hplain:=hplain))
theorem gG {X:Cx} {e:aP} {f:Rho->Option Rv} (h:QX X e f):QX X e (iG f):=QX.mk (zH (X:=X) (e:=e) (f:=f) (h:=h.out))
theorem cC {X:Cx} {e:aP} {f:Rho->Option Rv} {pos:e7} (he:QX X e f):QXS X (.Return (some e) pos) (fZ f):=QXS.mk (DY (X:=X) (e:=e) (f:=f) (pos:=pos) (he:=he.out))
theorem fE (he:QX X e f):QXI X tg e (cF f):=QXI.mk (vg (he:=he.out))
theorem gi {a:aP} {p:e7} {g:Rho->Option (List Rv)} (hg:Gl X "range") (hm:X.mg "range" = none) (ha:QXA X [a] g) (hs:ao [a] X.env=[(false,b9 a X.env)]:=by exact bS rfl):QXI X tg (.Call (.Name "range" p) [a] [] pos) (mn g):=QXI.mk (m8 (a:=a) (p:=p) (g:=g) (hg:=hg) (hm:=hm) (ha:=ha.out) (hs:=hs))
theorem x9 {a b:aP} {p:e7} {g:Rho->Option (List Rv)} (hg:Gl X "range") (hm:X.mg "range" = none) (ha:QXA X [a,b] g) (hs:ao [a,b] X.env=[(false,b9 a X.env),(false,b9 b X.env)]:=by rfl) (hs2:ao [b] X.env=[(false,b9 b X.env)]:=by rfl) :
 QXI X tg (.Call (.Name "range" p) [a,b] [] pos) (HD g):=QXI.mk (yp (a:=a) (b:=b) (p:=p) (g:=g) (hg:=hg) (hm:=hm) (ha:=ha.out) (hs:=hs) (hs2:=hs2))
theorem cm {i:Nat} {x:bH} (hN:X.N.Nodup) (hi:X.N[i]?=some x:=by rfl) (hx:Loc X.env.scope x:=by first | exact dI rfl | exact dQ rfl) (hf:X.fn x=true\/X.env.scope.names.lookup x=some .local:=by first | exact .inl rfl | exact .inr rfl | assumption):QXG X (.Name x pos) (tgN i):=QXG.mk (CJ (i:=i) (x:=x) (hN:=hN) (hi:=hi) (hx:=hx) (hf:=hf))
theorem oZ:yM X [] jO:=yM.mk (Ho )
theorem ic {e:aP} {es:List aP} {t:Da->Rho->Option Rho} {u:List Da->Rho->Option Rho} (h1:QXG X e t) (h2:yM X es u) (hs:(dA (e::es) X.env).map (·.2)=jH e X.env::(dA es X.env).map (·.2):=by rfl):yM X (e::es) (d4 t u):=yM.mk (Dl (e:=e) (es:=es) (t:=t) (u:=u) (h1:=h1.out) (h2:=h2.out) (hs:=hs))
theorem pI {es:List aP} {k n:Nat} {t:List Da->Rho->Option Rho} (hc:X.calm=true) (h:yM X es t) (hn:(dA es X.env).length=n:=by rfl) (hst:(dA es X.env).findIdx? (·.1)=none:=by rfl):QXG X (.Tuple es k pos) (tgT n t):=QXG.mk (Gk (es:=es) (k:=k) (n:=n) (t:=t) (hc:=hc) (h:=h.out) (hn:=hn) (hst:=hst))
theorem Fq {tg e:aP} {f:Rho->Option Rv} {t:Da->Rho->Option Rho} (he:QX X e f) (hg:QXG X tg t) (hs:xE [tg] e pos.line X.env=pure false:=by rfl) (hw:xF [tg] e X.env=pure none:=by rfl) (h1:(dA [tg] X.env).map (·.2)=[jH tg X.env]:=by rfl) :
 QXS X (.Assign [tg] e pos) (JM f t):=QXS.mk (Fp (tg:=tg) (e:=e) (f:=f) (t:=t) (he:=he.out) (hg:=hg.out) (hs:=hs) (hw:=hw) (h1:=h1))
theorem iE {X:Cx} {tg iter:aP} {body:List cV} {f:Rho->Option (List Da)} {t:Da->Rho->Option Rho} {g:Rho->Res} {pos:e7} (hp:ny (be X.prog X.w) X.A X.env X.xe) (hc:X.calm=true) (hi:QXI X tg iter f) (hg:QXG X tg t) (hb:qx X body g)
 (hs:∀ x,cW iter X.env x=pure x:=by intro _;rfl):QXS X (.For tg iter body [] pos) (qw f t g):=QXS.mk (FH (X:=X) (tg:=tg) (iter:=iter) (body:=body) (f:=f) (t:=t) (g:=g) (pos:=pos) (hp:=hp) (hc:=hc) (hi:=hi.out) (hg:=hg.out) (hb:=hb.out) (hs:=hs))
theorem pb {X:Cx} {c:aP} {body:List cV} {t:Rho->Option Bool} {g:Rho->Res} {pos:e7} (n:Nat) (hp:ny (be X.prog X.w) X.A X.env X.xe) (hc:QXT X c t) (hb:qx X body g):QXS X (.While c body [] pos) (jr t g n):=QXS.mk (za (X:=X) (c:=c) (body:=body) (t:=t) (g:=g) (pos:=pos) (n:=n) (hp:=hp) (hc:=hc.out) (hb:=hb.out))
theorem gw (hc:X.calm=true) (S:CScope X scope ix) (hi:QXI X tg iter fi) (B:Dq X scope tg elt ifs t c f) (hs:∀ x,cW iter X.env x=pure x:=by intro _;rfl):QX X (.ListComp elt [⟨tg,iter,ifs,0⟩] scope pos) (fy ix fi t c f):=QX.mk (Gr (hc:=hc) (S:=S) (hi:=hi.out) (B:=B.out) (hs:=hs))
theorem nN (hg:Gl X "len") (hm:X.mg "len" = none) (ha:QXA X (e::es) g) (he:ao (e::es) X.env=(false,b9 e X.env)::ao es X.env:=by exact bS rfl) (hpl:(cz pos (ao es X.env)).any (·.1)=false:=by rfl):QX X (.Call (.Name "len" p) (e::es) [] pos) (xB p6 g):=QX.mk (Ex (hg:=hg) (hm:=hm) (ha:=ha.out) (he:=he) (hpl:=hpl))
theorem gW (hg:Gl X "tuple") (hm:X.mg "tuple" = none) (ha:QXA X (e::es) g) (he:ao (e::es) X.env=(false,b9 e X.env)::ao es X.env:=by exact bS rfl) (hpl:(cz pos (ao es X.env)).any (·.1)=false:=by rfl):QX X (.Call (.Name "tuple" p) (e::es) [] pos) (xB gv g):=QX.mk (Du (hg:=hg) (hm:=hm) (ha:=ha.out) (he:=he) (hpl:=hpl))
theorem EW (hg:Gl X "list") (hm:X.mg "list" = none) (ha:QXA X (e::es) g) (he:ao (e::es) X.env=(false,b9 e X.env)::ao es X.env:=by exact bS rfl) (hpl:(cz pos (ao es X.env)).any (·.1)=false:=by rfl):QX X (.Call (.Name "list" p) (e::es) [] pos) (xB vz g):=QX.mk (Gz (hg:=hg) (hm:=hm) (ha:=ha.out) (he:=he) (hpl:=hpl))
theorem nU (ha:QX X a fa):QX X (.UnaryOp .USub a pos) (o6 fa):=QX.mk (Jr (ha:=ha.out))
theorem lM {apos:e7} {o:aP} {fo:Rho->Option Rv} (hu:X.A.units+1<cx) (ho:QX X o fo) (ha:QX X a fa) (hb:QX X b fb) (hbase:gk o "get" X.env (b9 o X.env)=b9 o X.env:=by rfl)
 (hfew:((cz pos (ao [a,b] X.env)).all (fun x=>!x.1)&&(lh pos (h8 [] X.env)).all (fun x=>x.1.isSome)&&decide (([a,b]:List aP).length+([]:List i5).length+(if ([]:List i5).isEmpty then 0 else 1)<30))=true:=by rfl)
 (hline:(apos.endLine == pos.line)=true:=by rfl) (htr:cz pos (ao [a,b] X.env)=[(false,b9 a X.env),(false,b9 b X.env)]:=by rfl):QX X (.Call (.Attribute o "get" apos) [a,b] [] pos) (ju fo fa fb):=QX.mk (A2 (apos:=apos) (o:=o) (fo:=fo) (hu:=hu) (ho:=ho.out) (ha:=ha.out) (hb:=hb.out) (hbase:=hbase) (hfew:=hfew) (hline:=hline) (htr:=htr))
theorem o3 {i:Nat} {x:bH} {px:e7} (hu:X.A.units+64<cx) (hk:QX X a fa) (hv:QX X b fb) (hN:X.N[i]?=some x:=by rfl) (hvis:Vis X.env.scope x:=by first | exact dI rfl | exact dQ (dI rfl) | exact dQ (dQ rfl)) (hd:(x == ("__debug__" : bH))=false:=by decide)
 (hcd:(x == ("__classdict__" : bH))=false:=by decide) (hs:ff b (some (.Subscript (.Name x px) a pos')) pos.line X.env=pure false:=by rfl):QXS X (.Assign [.Subscript (.Name x px) a pos'] b pos) (Ct i fa fb):=QXS.mk (FO (i:=i) (x:=x) (px:=px) (hu:=hu) (hk:=hk.out) (hv:=hv.out) (hN:=hN) (hvis:=hvis) (hd:=hd) (hcd:=hcd) (hs:=hs))
theorem bO {X:Cx} {k n:Nat} {ps:List bH} {fn:List Da->Option Da} {x:bH} {p pos:e7} {e:aP} {es:List aP} {g:Rho->Option (List Rv)} (C:Ca X.prog X.w X.K X.mg X.base x ps k n fn) (hr:jm k X.A) (hg:Gl X x) (ha:QXA X (e::es) g) (hlen:∀ ρ rs,g ρ=some rs->rs.length=n)
 (hdb:(x == ("__debug__" : bH))=false:=by decide) (he:ao (e::es) X.env=(false,b9 e X.env)::ao es X.env:=by exact bS rfl) (hpl:(cz pos (ao es X.env)).any (·.1)=false:=by rfl):QX X (.Call (.Name x p) (e::es) [] pos) (cJ fn g):=QX.mk (se (X:=X) (k:=k) (n:=n) (ps:=ps) (fn:=fn) (x:=x) (p:=p) (pos:=pos) (e:=e) (es:=es) (g:=g) (C:=C) (hr:=hr) (hg:=hg) (ha:=ha.out) (hlen:=hlen) (hdb:=hdb) (he:=he) (hpl:=hpl))
theorem IT (hc:X.calm=true) (hg:Gl X "all") (hm:X.mg "all" = none) (ha:QXA X (e::es) g) (he:ao (e::es) X.env=(false,b9 e X.env)::ao es X.env:=by exact bS rfl) (hpl:(cz pos (ao es X.env)).any (·.1)=false:=by rfl):QX X (.Call (.Name "all" p) (e::es) [] pos) (xB GI g):=QX.mk (HH (hc:=hc) (hg:=hg) (hm:=hm) (ha:=ha.out) (he:=he) (hpl:=hpl))
theorem Iv (hc:X.calm=true) (hg:Gl X "any") (hm:X.mg "any" = none) (ha:QXA X (e::es) g) (he:ao (e::es) X.env=(false,b9 e X.env)::ao es X.env:=by exact bS rfl) (hpl:(cz pos (ao es X.env)).any (·.1)=false:=by rfl):QX X (.Call (.Name "any" p) (e::es) [] pos) (xB Fh g):=QX.mk (Ia (hc:=hc) (hg:=hg) (hm:=hm) (ha:=ha.out) (he:=he) (hpl:=hpl))
theorem rE:QXO X none oT:=QXO.mk (DQ )
theorem sE (ha:QX X a fa):QXO X (some a) (oa fa):=QXO.mk (CD (ha:=ha.out))
theorem rq {lo hi:Option aP} {fl fh:Rho->Option (Option Int)} (ha:QX X a fa) (hl:QXO X lo fl) (hh:QXO X hi fh):QX X (.Subscript a (.Slice lo hi none p2) pos) (j6 fa fl fh):=QX.mk (DS (lo:=lo) (hi:=hi) (fl:=fl) (fh:=fh) (ha:=ha.out) (hl:=hl.out) (hh:=hh.out))
theorem kD (hc:X.calm=true) (hg:Gl X "sorted") (hm:X.mg "sorted" = none) (ha:QXA X (e::es) g) (he:ao (e::es) X.env=(false,b9 e X.env)::ao es X.env:=by exact bS rfl) (hpl:(cz pos (ao es X.env)).any (·.1)=false:=by rfl):QX X (.Call (.Name "sorted" p) (e::es) [] pos) (xB eX g):=QX.mk (zB (hc:=hc) (hg:=hg) (hm:=hm) (ha:=ha.out) (he:=he) (hpl:=hpl))
theorem Gh (hg:Gl X "len") (hm:X.mg "len" = none) (ha:QXA X (e::es) g) (he:ao (e::es) X.env=(false,b9 e X.env)::ao es X.env:=by exact bS rfl) (hpl:(cz pos (ao es X.env)).any (·.1)=false:=by rfl):QX X (.Call (.Name "len" p) (e::es) [] pos) (xB xY g):=QX.mk (GZ (hg:=hg) (hm:=hm) (ha:=ha.out) (he:=he) (hpl:=hpl))
theorem EJ (hc:X.calm=true) (hg:Gl X "sum") (hm:X.mg "sum" = none) (ha:QXA X (e::es) g) (he:ao (e::es) X.env=(false,b9 e X.env)::ao es X.env:=by exact bS rfl) (hpl:(cz pos (ao es X.env)).any (·.1)=false:=by rfl):QX X (.Call (.Name "sum" p) (e::es) [] pos) (xB EO g):=QX.mk (J2 (hc:=hc) (hg:=hg) (hm:=hm) (ha:=ha.out) (he:=he) (hpl:=hpl))
theorem Cj (ha:QX X a fa) (hb:QX X b fb):QX X (.Dict [some a] [b] pos) (tF fa fb):=QX.mk (Cp (ha:=ha.out) (hb:=hb.out))
theorem DD {i:Nat} {x:bH} (hN:X.N.Nodup) (hc:X.calm=true) (S:CScope X scope ix) (hi:QXI X tg iter fi) (B:Dq X scope tg elt ifs t c f) (hj:X.N[i]?=some x:=by rfl) (hx:X.env.scope.names.lookup x=some .local:=by rfl)
 (hs:∀ x,cW iter X.env x=pure x:=by intro _;rfl) (hsw:ff (.ListComp elt [⟨tg,iter,ifs,0⟩] scope pos) (some (.Name x pos')) spos.line X.env=pure true:=by rfl) :
 QXS X (.Assign [.Name x pos'] (.ListComp elt [⟨tg,iter,ifs,0⟩] scope pos) spos) (lP i (fy ix fi t c f)):=QXS.mk (DC (i:=i) (x:=x) (hN:=hN) (hc:=hc) (S:=S) (hi:=hi.out) (B:=B.out) (hj:=hj) (hx:=hx) (hs:=hs) (hsw:=hsw))
theorem Dg (i:Nat) {X:Cx} {e:aP} {f:Rho->Option Rv} (h:QX X e f):QX X e (mv i f):=QX.mk (wK (i:=i) (X:=X) (e:=e) (f:=f) (h:=h.out))
theorem FW (i:Nat) {X:Cx} {e:aP} {f:Rho->Option Rv} (h:QX X e f):QX X e (yd i f):=QX.mk (GQ (i:=i) (X:=X) (e:=e) (f:=f) (h:=h.out))
theorem vm (hg:Gl X "tuple") (hm:X.mg "tuple" = none) (hg2:Gl X "range") (hm2:X.mg "range" = none) (ha:QXA X [a] g) (hc:X.calm=true:=by rfl) (hs:ao [a] X.env=[(false,b9 a X.env)]:=by exact bS rfl)
 (he:ao [.Call (.Name "range" p2) [a] [] pos2] X.env=[(false,b9 (.Call (.Name "range" p2) [a] [] pos2) X.env)]:=by rfl):QX X (.Call (.Name "tuple" p) [.Call (.Name "range" p2) [a] [] pos2] [] pos) (jt g):=QX.mk (vM (hg:=hg) (hm:=hm) (hg2:=hg2) (hm2:=hm2) (ha:=ha.out) (hc:=hc) (hs:=hs) (he:=he))
theorem zU (hu:X.A.units+1<cx) (ha:QX X a fa) (hb:QX X b fb):QX X (.Dict [some a] [b] pos) (oY fa fb):=QX.mk (Ah (hu:=hu) (ha:=ha.out) (hb:=hb.out))
theorem AW (hc:X.calm=true) (hg:Gl X "dict") (hm:X.mg "dict" = none) (ha:QX X e f) (he:ao [e] X.env=[(false,b9 e X.env)]:=by exact bS rfl):QX X (.Call (.Name "dict" p) [e] [] pos) (m9 f):=QX.mk (Aa (hc:=hc) (hg:=hg) (hm:=hm) (ha:=ha.out) (he:=he))
theorem FI {X:Cx} {e e2:aP} {p pos kpos:e7} {fe fd:Rho->Option Rv} (hc:X.calm=true) (hg:Gl X "max") (hm:X.mg "max" = none) (ha:QX X e fe) (hb:QX X e2 fd)
 (he:ao [e] X.env=[(false,b9 e X.env)]:=by exact bS rfl):QX X (.Call (.Name "max" p) [e] [⟨some "default",e2,kpos⟩] pos) (xU fe fd):=QX.mk (Fg (X:=X) (e:=e) (e2:=e2) (p:=p) (pos:=pos) (kpos:=kpos) (fe:=fe) (fd:=fd) (hc:=hc) (hg:=hg) (hm:=hm) (ha:=ha.out) (hb:=hb.out) (he:=he))
theorem Az (he:QX X o f) (hbase:gk o "items" X.env (b9 o X.env)=b9 o X.env:=by rfl) (hline:(apos.endLine == cpos.line)=true:=by rfl):QXI X (.Tuple elts x1 pt) (.Call (.Attribute o "items" apos) [] [] cpos) (qL f):=QXI.mk (zm (he:=he.out) (hbase:=hbase) (hline:=hline))
section
variable {X:Cx} {a body:aP} {params:iN} {scope:dO} {p p2 pos pos2 kpos lpos:e7} {c P:ak} {ix:List (Option Nat)} {x:bH} {i0:Nat} {g:Rho->Option Rv} {ga:Rho->Option (List Rv)}
structure Kp (X:Cx) (params:iN) (body:aP) (scope:dO) (ix:List (Option Nat)) (x:bH) (i0:Nat) (g:Rho->Option Rv):Prop where
 S:xo X scope ix x i0
 df:defaultsOf params X.env=([],[])
 bind:∀ (q:bH) (cl:List (bH×ak)) (pm cd ctv u:ae),jJ (oz "<lambda>" q params body scope cl pm cd ctv) ⟨[u],[]⟩=pure [(x,u)]
 body:∀ (q:bH) (f c':ak) (s:ai) (H:Hp),QX (DE X X.A.in1.in1 scope q f c' s H) body g
theorem Kp.out (h:Kp X params body scope ix x i0 g):Cy X params body scope ix x i0 g:=⟨h.S,h.df,h.bind,fun q f c' s H=>(h.body q f c' s H).out⟩
theorem vK (hc:X.calm=true) (hr:jm 2 X.A) (hg:Gl X "sorted") (hm:X.mg "sorted" = none) (hg2:Gl X "range") (hm2:X.mg "range" = none) (M:Mkr X c P) (Lm:Kp X params body scope ix x i0 g) (ha:QXA X [a] ga)
 (hs:ao [a] X.env=[(false,b9 a X.env)]:=by exact bS rfl) (he:ao [.Call (.Name "range" p2) [a] [] pos2] X.env=[(false,b9 (.Call (.Name "range" p2) [a] [] pos2) X.env)]:=by rfl) :
 QX X (.Call (.Name "sorted" p) [.Call (.Name "range" p2) [a] [] pos2] [⟨some "key",.Lambda params body scope lpos,kpos⟩] pos) (kz ix i0 (mn ga) g):=QX.mk (vh hc hr hg hm hg2 hm2 M Lm.out ha.out hs he)
theorem vt {e:aP} {fe:Rho->Option Rv} (hc:X.calm=true) (hr:jm 2 X.A) (hg:Gl X "sorted") (hm:X.mg "sorted" = none) (M:Mkr X c P) (Lm:Kp X params body scope ix x i0 g) (ha:QX X e fe)
 (he:ao [e] X.env=[(false,b9 e X.env)]:=by exact bS rfl) :
 QX X (.Call (.Name "sorted" p) [e] [⟨some "key",.Lambda params body scope lpos,kpos⟩] pos) (kz ix i0 (qG fe) g):=QX.mk (vd hc hr hg hm M Lm.out ha.out he)
theorem Eo {k:Nat} {q:bH} {f c':ak} {s:ai} {H:Hp} (hr:jm (k+3) X.A) (h:jm k (DE X X.A.in1.in1 scope q f c' s H).A->QX (DE X X.A.in1.in1 scope q f c' s H) body g):QX (DE X X.A.in1.in1 scope q f c' s H) body g:=h (jm.deeper hr.in1.in1 _)
end
def K9 (K:ac) (c:ak):ak:=match K.lookup c with
 | some ⟨_,_,.fields vs,_⟩=>(match (vs.toList[11]?:Option ae) with | some (.ref P)=>P | _=>0)
 | _=>0
def sC (K:ac) (cd:ae) (x:bH):Bool:=match cd with
 | .ref c=>mT K c (K9 K c)&&(ii K).contains (K9 K c,x++".<locals>."++"<lambda>")
 | _=>false
def pz (K:ac) (mg:bH->Option ae) (x:bH) (st:cV):Prop:=∃ (a:ak) (fd:dB),Fun K x x st a fd/\mg x=some (.ref a)/\∃ c P,fd.code=.ref c/\mT K c P=true/\(P,x++".<locals>."++"<lambda>")∈ii K
theorem AQ {K:ac} {mg:bH->Option ae} {x:bH} {st:cV} {f:ak} {fd:dB} (F:Fun K x x st f fd) (hm:mg x=some (.ref f)) (hk:sC K fd.code x=true):pz K mg x st:=by
 unfold sC at hk
 split at hk
 ·rename_i c hc
  rw [aY] at hk
  exact ⟨f,fd,F,hm,c,K9 K c,hc,hk.1,by simpa using hk.2⟩
 ·cases hk
section
variable {P:bA} {w:cb} {K:ac} {mg:bH->Option ae} {base:cr}
theorem GJ {x qual:bH} {st:cV} {f:ak} {fd:dB} {N ps:List bH} {k:Nat} {sp:Sp} (F:Fun K x qual st f fd) (S:gQ N ps (bh st)) (len:∀ vs H Q E,sp vs H Q E->vs.length=ps.length)
 (hbody:∀ (cdv:ae) (A:bK) (outer:List pQ) (s:ai) (H:Hp) (vs:List V) (Q:VK) (E:XK),fd.code=cdv->jm k (A.deeper (fA qual (bh st) s.heap.objs.size f cdv))->sp vs H Q E ->
   ∃ t,PSs (wm CX0 P w K mg base N qual (bh st) f cdv A outer s H E).nox (cg st) t/\t { nx:=fun _ H'=>Q .non H',rt:=Q } (start N vs) H):vO P w K mg base CX0 (k+1) f fd ps sp:=by
 obtain ⟨oc,od,kV,doc,pm,an,cdv,ct,osl,rfl,lk,hcd⟩:=F.ex
 refine JJ lk hcd S len fun A outer s H vs Q E hr hsp=>?_
 obtain ⟨t,h,q⟩:=hbody cdv A outer s H vs Q E rfl hr hsp
 exact ⟨t,h.nox,q⟩
theorem IC {x:bH} {st:cV} {N ps:List bH} {k n:Nat} {g:Rho->Res} (hf:pz K mg x st) (hK:K.In base) (_hB:Bm mg base) (S:gQ N ps (bh st)) (hn:ps.length=n)
 (hbind:∀ (kV doc pm:ae) (an:Option ak) (cdv ct:ae) (us:List ae),us.length=ps.length->jJ (bc x x (cD st) (cg st) (bh st) .none kV doc pm an cdv ct) ⟨us,[]⟩=pure (ps.zip us))
 (hbody:∀ (f c P1:ak) (A:bK) (outer:List pQ) (s:ai) (H:Hp) (E:XK),iO base c P1->(P1,x++".<locals>."++"<lambda>")∈ii K->jm k (A.deeper (fA x (bh st) s.heap.objs.size f (.ref c)))->wC (wm CX0 P w K mg base N x (bh st) f (.ref c) A outer s H E).nox (cg st) g) :
 Ca P w K mg base x ps (k+1) n (jl N.length g):=by
 obtain ⟨a,fd,F,hm,c,P1,hcode,hhd,htab⟩:=hf
 refine ⟨a,fd,hm,F.kp,F.binds hbind,?_⟩
 refine GJ F S (fun vs H Q E ⟨G,ds,d,hl,sg,_,dl,_⟩=>by rw [dl.length,hl,hn]) fun cdv A outer s H vs Q E hcd hr ⟨G,ds,d,hl,sg,tg,dl,ef,kk⟩=>?_
 have:cdv=.ref c:=hcd.symm.trans hcode
 subst this
 refine ⟨_,hbody a c P1 A outer s H E (uN hK hhd) htab hr,H,G,G,fm N.length ds,Ext.refl sg,xD tg dl,?_⟩
 unfold jl at ef
 split at ef
 ·rename_i d' q
  cases ef
  rw [q]
  exact fun v G1 H1 E1 _ dv=>kk v G1 H1 E1 dv
 ·rename_i ρ' q
  cases ef
  rw [q]
  exact fun σ G1 H1 E1 _ _=>kk .non G1 H1 E1 rfl
 ·cases ef
end
theorem wU:∀ {l:List (ak×bH)} {b:ak} {q:bH},l.lookup b=some q->(b,q)∈l
 | [],_,_,h=>by cases h
 | (c,r)::l,b,q,h=>by
   rw [dg] at h
   cases e:b == c with
   | true=>rw [e] at h;cases h;rw [beq_iff_eq.mp e];exact ah
   | false=>rw [e] at h;exact ag _ (wU h)
def AU (K:ac) (ts:List ak):Bool:=(ii K).all fun e=>ts.contains e.1&&(K.lookup e.1).isNone&&(K.any fun p=>mT K p.1 e.1)&&((ii K).lookup e.1 == some e.2)
theorem zW {P:bA} {w:cb} {K:ac} {mg mb:bH->Option ae} {k:Nat} {fa a:ak} {fd:dB} {x:bH} {fn:List Da->Option Da} {s₁:ai} {vs:List ae} {ns:List Int} {ts:List ak} {Pb:cr->Prop}
 (KX:K.In s₁.heap) (hns:s₁.heap.Ns aR mg) (hb:s₁.heap.Ns ot mb) (hbb:∀ x:bH,x≠"__name__"->mb x=iu x) (hlim:s₁.heap.NoLimit) (hbm:Bm mg s₁.heap) (hg:s₁.gens = #[])
 (ha:s₁.heap.get? a=some { cls:=.type "list",data:=.seq vs.toArray }) (hi:fN vs ns) (hl:ns.length<=aL) (hr:jm k pX) (hT:∀ P∈ts,s₁.heap.get? P=some (ku #[])) (hok:AU K ts=true)
 (hPb:∀ h':cr,(∀ b o,s₁.heap.get? b=some o->(∀ xs n,o.data≠.seq xs n)->(∀ ps,o.data≠.fields ps)->h'.get? b=some o)->Pb h')
 (F:∀ base:cr,K.In base->base.Ns aR mg->Bm mg base->Pb base->vO P w K mg base CX0 k fa fd [x] (spD K 1 fn)) (hbind:∀ (s:ai) (u:ae),uJ s fd ⟨[u],[]⟩ [(x,u)])
 (eq:fn [.lst (ns.map Da.int)]=some (.bl true)) :
 lA (be P w) pX (.call (.ref fa) ⟨[.ref a],[]⟩) (fun r s'=>r=.ok (.ret (.bool true))/\OldK s₁.heap s'.heap/\s'.os=s₁.os/\lz s'.gens) s₁:=by
 have rv:=uk hi
 have lenV:=hi.length
 have ok1:∀ e∈ii K,s₁.heap.get? e.1=some (ku #[])/\K.lookup e.1=none/\(∃ c,iO s₁.heap c e.1)/\(ii K).lookup e.1=some e.2:=fun e he=>by
  have:=cB.mp hok e he
  simp only [aY] at this
  obtain ⟨⟨⟨h1,h2⟩,h3⟩,h4⟩:=this
  obtain ⟨p,_,h3⟩:=gz.mp h3
  exact ⟨hT _ (by simpa using h1),Option.isNone_iff_eq_none.mp h2,⟨p.1,uN KX h3⟩,by simpa using h4⟩
 have lk:∀ {b:ak} {q:bH},(ii K).lookup b=some q->(b,q)∈ii K:=fun {b q} e=>wU e
 have core:∀ Hs:Option HO,(Hs=none\/Hs=some (.frz { cls:=.type "list",data:=.seq vs.toArray } (.lst (ns.map V.int))))->(Hs≠none->K.lookup a=none)->(∀ H:Hp,H a=Hs->SqL K H a (ns.map V.int)) ->
  lA (be P w) pX (.call (.ref fa) ⟨[.ref a],[]⟩) (fun r s'=>r=.ok (.ret (.bool true))/\OldK s₁.heap s'.heap/\s'.os=s₁.os/\lz s'.gens) s₁:=by
  intro Hs hHs hK hS
  have eH:∃ H:Hp,H=fun b=>if b=a then Hs else ((ii K).lookup b).map HO.tab:=⟨_,rfl⟩
  obtain ⟨H,eH⟩:=eH
  have Ha:H a=Hs:=by rw [eH];exact if_pos rfl
  have Hb:∀ {b:ak},b≠a->H b=((ii K).lookup b).map HO.tab:=fun h=>by rw [eH];exact if_neg h
  have cases3:∀ {b:ak} {u:HO},H b=some u->(b=a/\u=.frz { cls:=.type "list",data:=.seq vs.toArray } (.lst (ns.map V.int)))\/(b≠a/\∃ q,u=.tab q/\(b,q)∈ii K):=fun {b u} e=>by
   by_cases hb:b=a
   ·subst hb
    rw [Ha] at e
    rcases hHs with z | z
    ·rw [z] at e;cases e
    ·rw [z] at e;cases e;exact .inl ⟨rfl,rfl⟩
   ·rw [Hb hb] at e
    cases z:(ii K).lookup b with
    | none=>rw [z] at e;cases e
    | some q=>rw [z] at e;cases e;exact .inr ⟨hb,q,rfl,lk z⟩
  have nea:∀ e∈ii K,e.1≠a:=fun e he z=>by
   have:=(ok1 e he).1
   rw [z,ha] at this
   cases this
  have base_of:∀ {b:ak} {o:dm},s₁.heap.get? b=some o->H b=none->(BW s₁.heap H).get? b=some o:=fun e n=>C7 e n
  have noT:∀ {b:ak} {o:dm},s₁.heap.get? b=some o->(∀ xs n,o.data≠.seq xs n)->(∀ ps,o.data≠.fields ps)->H b=none:=fun {b o} e d1 d2=>by
   cases q:H b with
   | none=>rfl
   | some u =>
     rcases cases3 q with ⟨z,_⟩ | ⟨_,q',_,z⟩
     ·subst z
      rw [ha] at e;cases e
      exact absurd rfl (d1 _ _)
     ·have:=(ok1 _ z).1
      dsimp only at this
      rw [this] at e;cases e
      exact absurd rfl (d2 _)
  have noA:∀ {b:ak} {o:dm} {es:Array lj} {ep:Nat},s₁.heap.get? b=some o->o.data=.dict es ep->H b=none:=fun {b o es ep} e d=>noT e (fun _ _ z=>by rw [d] at z;cases z) fun _ z=>by rw [d] at z;cases z
  have nsK:∀ {b:ak} {m:bH->Option ae},s₁.heap.Ns b m->(BW s₁.heap H).Ns b m:=fun {b m} ⟨o,es,ep,e,d,r⟩=>⟨o,es,ep,base_of e (noA e d),d,r⟩
  have hKb:K.In (BW s₁.heap H):=fun b o e=>base_of (KX b o e) (by
   cases q:H b with
   | none=>rfl
   | some u =>
     rcases cases3 q with ⟨z,zu⟩ | ⟨_,q',_,z⟩
     ·subst z
      rw [hK (by rw [<- Ha,q];simp)] at e;cases e
     ·have:=(ok1 _ z).2.1
      dsimp only at this
      rw [this] at e;cases e)
  have hBm:Bm mg (BW s₁.heap H):=let ⟨bm,ob,b1,b2,b3,b4,b5,b6⟩:=hbm
   ⟨bm,ob,b1,b2,base_of b3 (noT b3 (fun _ _ z=>by rw [b6] at z;cases z) fun _ z=>by rw [b6] at z;cases z),b4,b5,b6⟩
  have hok':HOk P w H s₁.heap:=fun b u e=>by
   rcases cases3 e with ⟨z,zu⟩ | ⟨_,q',zu,z⟩
   ·subst z zu
    exact ⟨ha,by rw [ab];exact hl,vs,_,rv,ha⟩
   ·subst zu
    exact ⟨#[],(ok1 _ z).1,trivial⟩
  have hM:Mod K mg (BW s₁.heap H):=⟨hKb,nsK hns,⟨mb,nsK hb,hbb⟩,let ⟨mc,h1,h2⟩:=hlim;⟨mc,nsK h1,h2⟩⟩
  have e0:Kn P w K mg (BW s₁.heap H) pX [] s₁ H:=⟨rfl,hM,fun b o e=>Hl e,kr (Bn _ _),trivial,fun b hb=>absurd (show b∈([]:List ak) from hb) (by simp),hok',.of_eq hg⟩
  have tg:Tbs K H:=fun e he=>by rw [Hb (nea e he),(ok1 e he).2.2.2];rfl
  refine pU ((F _ hKb (nsK hns) hBm (hPb _ fun b o e d1 d2=>base_of e (noT e d1 d2))).run pX [] s₁ H ⟨[.ref a],[]⟩ [.ref a] [.ref a] (fun v H'=>v=.bl true/\cQ H H') E0 hr e0 (hbind s₁ (.ref a)) (.cons rfl .nil)
   ⟨H,[.lst (ns.map Da.int)],.bl true,rfl,cQ.refl _,tg,⟨_,_,rfl,⟨a,_,rfl,hS H Ha,cO.ints.mpr rfl⟩,rfl⟩,eq,fun v _ _ E d=>⟨d,E.hh⟩⟩) fun r s' h=>?_
  cases r with
  | error e=>exact ck h
  | ok fl =>
    cases fl with
    | next=>exact ck h
    | brk=>exact ck h
    | cont=>exact ck h
    | ret u =>
      obtain ⟨v,H',os,bare,un,hok2,r',q,sm⟩:=h
      subst q
      obtain rfl:u=fU true:=r'
      have each:∀ b o,s₁.heap.get? b=some o->asItWas s₁.heap s'.heap b o/\∃ o',s'.heap.get? b=some o':=fun b o e=>by
       cases q:H b with
       | none=>have:=un.keep b o e q (by intro z;exact absurd (show b∈([]:List ak) from z) (by simp)) (by simp);exact ⟨.inl this,o,this⟩
       | some u =>
         rcases cases3 q with ⟨z,zu⟩ | ⟨_,q',zu,z⟩
         ·subst zu
          have z2:=un.frzs b _ _ q
          obtain ⟨e1,_⟩:=hok' b _ q
          obtain ⟨e2,_⟩:=hok2 b _ z2
          rw [e] at e1;cases e1
          exact ⟨.inl e2,_,e2⟩
         ·subst zu
          obtain ⟨h1,_,⟨c,h3⟩,_⟩:=ok1 _ z
          dsimp only at h1 h3
          rw [e] at h1
          cases h1
          obtain ⟨ps,e2,_⟩:=hok2 b _ (sm _ _ q)
          exact ⟨.inr (.inl ⟨(h3.tab e).isCodeTable,rfl,#[],ps,rfl,by rw [Array.empty_append];exact e2⟩),_,e2⟩
      exact ⟨rfl,⟨fun b o e=>(each b o e).1,fun b o e=>(each b o e).2⟩,os,bare⟩
 cases hk:K.lookup a with
 | some o =>
   have e:=KX a o hk
   rw [ha] at e
   cases e
   exact core none (.inl rfl) (fun z=>absurd rfl z) fun H _=>.inr ⟨_,vs.toArray,_,hk,rfl,rfl,rfl,by rw [aA,lenV];exact hl,by simpa using rv⟩
 | none=>exact core _ (.inr rfl) (fun _=>hk) fun H e=>.inl (.inr ⟨_,e⟩)
theorem DT {l:yK} {n k:Nat} {q:bA} {loose:List bH} {XP:(bH->Option ae)->cr->Prop} {YP:cb->cr->Prop} {d:DefRec} {K:yT->ac} {x:bH} {ts:List ak} {fn:List Da->Option Da}
 (hn:l.most=some n) (hn2:n<=aL) (hdf:d.params.defaults=[]) (hr:jm k pX)
 (hY:∀ (w:cb) (h:cr),YP w h->(K w.params).In h) (hT:∀ (w:cb) (h:cr),YP w h->∀ P∈ts,h.get? P=some (ku #[])) (hok:∀ P:yT,AU (K P) ts=true)
 (F:∀ (w:cb) (mg:bH->Option ae) (fa:ak) (h:cr),(K w.params).In h->h.Ns aR mg->mg d.name=some (.ref fa) ->
   ∃ fd:dB,(∀ (s:ai) (u:ae),uJ s fd ⟨[u],[]⟩ [(x,u)]) /\
     ∀ base:cr,(K w.params).In base->base.Ns aR mg->Bm mg base->vO l.prog w (K w.params) mg base CX0 k fa fd [x] (spD (K w.params) 1 fn))
 (eq:∀ ns:List Int,fn [.lst (ns.map Da.int)]=some (.bl true)) :
 BO q loose XP YP l.row.toRowW d [] (fun f vs=>xJ f vs):=by
 refine Att.attach_call hn hdf fun w s₀ s₁ mg mb fa o pm cd doc a vs ns G Y ho hd hcd hmg hobj hints hlen hg=>?_
 have KX:=hY w _ Y
 obtain ⟨fd,hb,hF⟩:=F w mg fa _ KX G.T.g hmg
 exact zW KX G.T.g G.T.b G.T.builtins G.T.nolimit G.T.bmain hg hobj hints (bL hlen hn2) hr (hT w _ Y) (hok w.params) (Pb:=fun _=>True) (fun _ _=>trivial) (fun base h1 h2 h3 _=>hF base h1 h2 h3) hb (eq ns)
def je:Hp->List ak->(Hp->Prop)->Prop
 | H,[],k=>k H
 | H,l::ls,k=>∃ u,H l=some u/\rP u/\∀ o,je (upd H l (.frz o u)) ls k
theorem uq {X:Cx} {pins:List (ak×dm)} {σ:St} {s:ai} {k:Hp->Prop}:∀ (ls:List ak) (H:Hp),Inv X pins σ H s->je H ls k->∃ H',Inv X pins σ H' s/\k H'
 | [],H,I,h=>⟨H,I,h⟩
 | l::ls,H,I,h=>by
   obtain ⟨u,hl,hd,h⟩:=h
   obtain ⟨o,I'⟩:=DM I hl hd
   exact uq ls _ I' (h o)
theorem zb {X:Cx} {e:aP} {te:TE} {pos:e7} (he:PE X e te):PS X (.Return (some e) pos) (fun D σ H=>te σ H fun v H1=>∃ ls,je H1 ls fun H2=>D.rt v H2):=by
 intro pins s σ H D I h
 refine thn (tQ (pos:=pos) he pins s σ H { nx:=fun _ _=>False,rt:=fun v H1=>∃ ls,je H1 ls fun H2=>D.rt v H2 } I h) fun fl s1 h1=>?_
 cases fl with
 | next=>obtain ⟨_,_,_,z⟩:=h1;exact z.elim
 | brk=>obtain ⟨_,_,_,z⟩:=h1;exact z.elim
 | cont=>obtain ⟨_,_,_,z⟩:=h1;exact z.elim
 | ret u =>
   obtain ⟨v,σ1,H1,I1,rv,ls,g⟩:=h1
   obtain ⟨H2,I2,q⟩:=uq ls H1 I1 g
   exact ⟨v,σ1,H2,I2,rv,q⟩
theorem oU {G0 H0:Hp} {k:Hp->Prop}:∀ (ls:List (ak×HO)) (G H:Hp),Ext G0 H0 G H->(ls.map (·.1)).Nodup->(∀ e∈ls,H0 e.1=none/\G e.1=none/\H e.1=some e.2/\rP e.2) ->
 (∀ G' H',Ext G0 H0 G' H'->cQ G G'->(∀ e∈ls,∃ o,G' e.1=some (.frz o e.2))->k H')->je H (ls.map (·.1)) k
 | [],G,H,E,_,_,fin=>fin G H E (cQ.refl _) (by simp)
 | (l,u)::ls,G,H,E,nd,h,fin=>by
   obtain ⟨h0,hg,hl,hd⟩:=h (l,u) (ah)
   dsimp only at h0 hg hl hd
   obtain ⟨n1,n2⟩:=bf.mp nd
   refine ⟨u,hl,hd,fun o=>?_⟩
   have E1:Ext G0 H0 (upd G l (.frz o u)) (upd H l (.frz o u)):=⟨fun b w z=>by rw [bq (b7 z h0)];exact E.hh b w z,E.gg.trans (cw hg),ky E.gh,fun b w z t y=>by rw [bq (b7 z h0)];exact E.nw b w z t y⟩
   refine oU ls _ _ E1 n2 (fun e he=>?_) fun G' H' E' s' hh=>fin G' H' E' ((cw hg).trans s') fun e he=>?_
   ·obtain ⟨a1,a2,a3,a4⟩:=h e (ag _ he)
    have ne:e.1≠l:=fun z=>n1 (aK.mpr ⟨e,he,z⟩)
    exact ⟨a1,by rw [bq ne];exact a2,by rw [bq ne];exact a3,a4⟩
   ·rcases am.mp he with z | z
    ·subst z;exact ⟨o,s' _ _ aV⟩
    ·exact hh e z
def idc (l:List Int):List (Key×V):=l.map fun b=>(aq b,V.bl true)
def ud:List ak->UD->List (Key×V)
 | d::ds,(a,_)::D=>(aq a,V.ref d)::ud ds D
 | _,_=>[]
structure UR (H0 G H:Hp) (u:ak) (ds:List ak) (D:UD):Prop where
 ln:ds.length=D.length
 out:H u=some (.dK (ud ds D))
 inn:∀ (i:Nat) (e:Int×List Int) (d:ak),D[i]?=some e->ds[i]?=some d->H d=some (.dK (idc e.2))
 nd:(u::ds).Nodup
 fr:∀ d∈u::ds,H0 d=none/\G d=none
theorem v4:∀ {ds:List ak} {D:UD},ds.length=D.length->(ud ds D).map (·.1)=D.map fun e=>aq e.1
 | [],[],_=>rfl
 | d::ds,(a,l)::D,h=>by unfold ud;rw [aw,aw,v4 (by simpa using h)]
theorem Bx:∀ {ds:List ak} {D:UD},ds.length=D.length->(ud ds D).map (·.2)=ds.map V.ref
 | [],[],_=>rfl
 | d::ds,(a,l)::D,h=>by unfold ud;rw [aw,aw,Bx (by simpa using h)]
theorem Iu {ds:List ak} {D:UD} (h:ds.length=D.length):(ud ds D).length=D.length:=by
 have:=congrArg gj (v4 h)
 rw [ab,ab] at this
 exact this
theorem A5:∀ {ds:List ak} {D:UD} (d:ak) (a:Int) (l:List Int),ds.length=D.length->ud (ds++[d]) (D++[(a,l)])=ud ds D++[(aq a,V.ref d)]
 | [],[],_,_,_,_=>rfl
 | x::ds,(b,m)::D,d,a,l,h=>by
   show (aq b,V.ref x)::ud (ds++[d]) (D++[(a,l)])=_
   rw [A5 d a l (by simpa using h)]
   rfl
theorem ui:∀ {ds:List ak} {D:UD} {a:Int},ds.length=D.length->(a∉D.map (·.1)->nI (ud ds D) (aq a)=none)/\(a∈D.map (·.1)->∃ (i:Nat) (e:Int×List Int) (d:ak),D[i]?=some e/\ds[i]?=some d/\e.1=a/\nI (ud ds D) (aq a)=some (.ref d))
 | [],[],a,_=>⟨fun _=>rfl,fun h=>by cases h⟩
 | d::ds,(b,l)::D,a,h=>by
   obtain ⟨i1,i2⟩:=ui (ds:=ds) (D:=D) (a:=a) (by simpa using h)
   by_cases e:b=a
   ·subst e
    exact ⟨fun z=>absurd (by simp) z,fun _=>⟨0,(b,l),d,rfl,rfl,rfl,jQ (p:=(aq b,V.ref d)) rfl⟩⟩
   ·have ek:¬ (aq b:Key)=aq a:=fun z=>e (cZ z)
    have ev:nI (ud (d::ds) ((b,l)::D)) (aq a)=nI (ud ds D) (aq a):=jN (p:=(aq b,V.ref d)) ek
    refine ⟨fun z=>by rw [ev];exact i1 fun y=>z (by rw [aw];exact ag _ y),fun z=>?_⟩
    rw [aw,am] at z
    obtain ⟨i,e',d',h1,h2,h3,h4⟩:=i2 (z.resolve_left fun w=>e w.symm)
    exact ⟨i+1,e',d',by simpa using h1,by simpa using h2,h3,by rw [ev];exact h4⟩
theorem wY (l:List Int) (b:Int):lp (idc l) (aq b) (V.bl true)=idc (sP l b):=by
 unfold sP
 by_cases h:b∈l
 ·rw [if_pos h]
  unfold lp
  have ha:((idc l).any fun kv=>decide (kv.1=(aq b:Key)))=true:=by
   rw [gz]
   exact ⟨(aq b,V.bl true),aK.mpr ⟨b,h,rfl⟩,by simp⟩
  rw [if_pos ha]
  unfold idc
  rw [aC]
  refine dr fun x hx=>?_
  show (if (aq x:Key)=aq b then ((aq x:Key),V.bl true) else (aq x,V.bl true))=_
  split<;>rfl
 ·rw [if_neg h,rC]
  ·unfold idc;rw [bD];rfl
  ·unfold nI
   rw [Option.map_eq_none_iff,List.find?_eq_none]
   intro x hx
   obtain ⟨y,hy,rfl⟩:=aK.mp hx
   simp only [decide_eq_true_eq]
   exact fun z=>h (by rw [<- cZ z];exact hy)
theorem xf:∀ {D:UD} {a b:Int},a∉D.map (·.1)->jF (D++[(a,[])]) a b=jF D a b
 | [],a,b,_=>by
   show (if a=a then [(a,sP [] b)] else _)=[(a,[b])]
   rw [if_pos rfl];rfl
 | (x,l)::D,a,b,h=>by
   rw [aw,am] at h
   show (if x=a then _ else (x,l)::jF (D++[(a,[])]) a b)=if x=a then _ else (x,l)::jF D a b
   rw [if_neg (fun z=>h (.inl z.symm)),if_neg (fun z=>h (.inl z.symm)),xf fun z=>h (.inr z)]
theorem mi:∀ {D:UD} {a b:Int} {i:Nat} {l:List Int},(D.map (·.1)).Nodup->D[i]?=some (a,l)->jF D a b=D.set i (a,sP l b)
 | [],_,_,_,_,_,h=>by simp at h
 | (x,m)::D,a,b,0,l,nd,h=>by
   simp at h
   obtain ⟨rfl,rfl⟩:=h
   show (if x=x then _ else _)=_
   rw [if_pos rfl];rfl
 | (x,m)::D,a,b,i+1,l,nd,h=>by
   rw [aw,bf] at nd
   have h':D[i]?=some (a,l):=by simpa using h
   have ne:x≠a:=fun z=>nd.1 (by rw [z];exact aK.mpr ⟨(a,l),bI h',rfl⟩)
   show (if x=a then _ else (x,m)::jF D a b)=_
   rw [if_neg ne,mi nd.2 h']
   rfl
theorem mt {D:UD} {a:Int} {i:Nat} {l m:List Int} (h:D[i]?=some (a,l)):((D.set i (a,m)).map fun e=>e.1)=D.map (·.1):=by
 rw [List.map_set]
 apply nz
 intro j
 rw [y6,ab]
 by_cases e:i=j
 ·subst e
  have hl:=(aE.mp h).1
  rw [if_pos rfl,if_pos hl,ay,h]
  rfl
 ·rw [if_neg e]
theorem HU {ds:List ak}:∀ {D:UD} {a:Int} {i:Nat} {l m:List Int},D[i]?=some (a,l)->ud ds (D.set i (a,m))=ud ds D:=by
 induction ds with
 | nil=>intro D a i l m h;cases D<;>cases i<;>rfl
 | cons d ds ih =>
   intro D a i l m h
   cases D with
   | nil=>simp at h
   | cons e D =>
     obtain ⟨x,y⟩:=e
     cases i with
     | zero=>simp at h;obtain ⟨rfl,rfl⟩:=h;rfl
     | succ i =>
       show (aq x,V.ref d)::ud ds (D.set i (a,m))=(aq x,V.ref d)::ud ds D
       rw [ih (by simpa using h)]
section
variable {H0 G H:Hp} {u:ak} {ds:List ak} {D:UD}
theorem UR.dne (h:UR H0 G H u ds D) {d:ak} (hd:d∈ds):d≠u:=fun z=>(bf.mp h.nd).1 (by rw [<- z];exact hd)
theorem UR.snoc (h:UR H0 G H u ds D) {d:ak} {a:Int} (hd:H d=none) (h0:H0 d=none) (hg:G d=none) (ha:a∉D.map (·.1)) :
 UR H0 G (upd (upd H d (.dK [])) u (.dK (lp (ud ds D) (aq a) (.ref d)))) u (ds++[d]) (D++[(a,[])]):=by
 have hdu:d≠u:=fun z=>by rw [z,h.out] at hd;cases hd
 have hds:d∉ds:=fun z=>by
  obtain ⟨i,hi,e⟩:=cf z
  have h1:i<D.length:=by rw [<- h.ln];exact hi
  have:=h.inn i D[i] d (aj h1) (by rw [aj hi,e])
  rw [hd] at this;cases this
 refine ⟨by simp [h.ln],?_,fun i e d' h1 h2=>?_,?_,fun x hx=>?_⟩
 ·rw [aV,rC _ ((ui h.ln).1 ha),A5 d a [] h.ln]
 ·by_cases hi:i<D.length
  ·rw [dE hi] at h1
   rw [dE (by rw [h.ln];exact hi)] at h2
   have hm:=bI h2
   have:=h.inn i e d' h1 h2
   rw [bq (h.dne hm),bq (fun z=>hds (by rw [<- z];exact hm))]
   exact this
  ·rw [cM (by lia)] at h1
   rw [cM (by rw [h.ln];lia)] at h2
   have e0:i-D.length=0:=by
    have:=(aE.mp h1).1
    simp at this
    lia
   rw [e0] at h1
   rw [h.ln,e0] at h2
   have e1:(a,[])=e:=by simpa using h1
   have e2:d=d':=by simpa using h2
   subst e1 e2
   rw [bq hdu,aV]
   rfl
 ·have n:=bf.mp h.nd
  refine bf.mpr ⟨fun z=>?_,bp.mpr ⟨n.2,aS _ _,fun x hx y hy=>by rw [av] at hy;subst hy;intro z;subst z;exact hds hx⟩⟩
  rcases az.mp z with z | z
  ·exact n.1 z
  ·rw [av] at z;exact hdu z.symm
 ·rcases am.mp hx with z | z
  ·subst z;exact h.fr _ (ah)
  ·rcases az.mp z with z | z
   ·exact h.fr x (ag _ z)
   ·rw [av] at z;subst z;exact ⟨h0,hg⟩
theorem UR.put (h:UR H0 G H u ds D) {i:Nat} {a b:Int} {l:List Int} {d:ak} (e:D[i]?=some (a,l)) (ed:ds[i]?=some d) :
 UR H0 G (upd H d (.dK (lp (idc l) (aq b) (V.bl true)))) u ds (D.set i (a,sP l b)):=by
 have hm:=bI ed
 refine ⟨by rw [bU];exact h.ln,?_,fun j e' d' h1 h2=>?_,h.nd,h.fr⟩
 ·rw [bq (h.dne hm).symm,HU e];exact h.out
 ·rw [wY]
  rw [y6] at h1
  by_cases hj:i=j
  ·subst hj
   have hl:=(aE.mp e).1
   rw [if_pos rfl,if_pos hl] at h1
   cases h1
   rw [ed] at h2
   cases h2
   exact aV
  ·rw [if_neg hj] at h1
   have hne:d'≠d:=fun z=>by
    subst z
    obtain ⟨l1,e1⟩:=aE.mp ed
    obtain ⟨l2,e2⟩:=aE.mp h2
    exact hj ((iq (bf.mp h.nd).2).mp (e1.trans e2.symm))
   rw [bq hne]
   exact h.inn j e' d' h1 h2
theorem UR.ext {G' H':Hp} (h:UR H0 G H u ds D) (e:Ext G H G' H') (hg:cQ G H):UR H0 G' H' u ds D:=by
 refine ⟨h.ln,e.hh _ _ h.out,fun i x d a b=>e.hh _ _ (h.inn i x d a b),h.nd,fun d hd=>⟨(h.fr d hd).1,?_⟩⟩
 rcases am.mp hd with z | z
 ·subst z;exact e.nw _ _ h.out rfl (h.fr _ hd).2
 ·obtain ⟨i,hi,ei⟩:=cf z
  have h1:i<D.length:=by rw [<- h.ln];exact hi
  exact e.nw _ _ (h.inn i D[i] d (aj h1) (by rw [aj hi,ei])) rfl (h.fr _ hd).2
end
theorem oW:∀ {ds:List Da} {T:List (Int×Int)},dG ds=some T->ds=T.map fun p=>Da.tup [.int p.1,.int p.2]
 | [],T,h=>by cases h;rfl
 | d::r,T,h=>by
   cases d with
   | tup xs =>
     match xs,h with
     | [.int a,.int b],h =>
       have h:(dG r).map ((a,b)::·)=some T:=h
       cases q:dG r with
       | none=>rw [q] at h;cases h
       | some T'=>rw [q] at h;cases h;rw [oW q];rfl
     | [],h=>simp [dG] at h
     | [_],h=>simp [dG] at h
     | _::_::_::_,h=>simp [dG] at h
     | [.non,_],h=>simp [dG] at h
     | [.bl _,_],h=>simp [dG] at h
     | [.str _,_],h=>simp [dG] at h
     | [.tup _,_],h=>simp [dG] at h
     | [.lst _,_],h=>simp [dG] at h
     | [.dK _ _,_],h=>simp [dG] at h
     | [.dT _ _,_],h=>simp [dG] at h
     | [.int _,.non],h=>simp [dG] at h
     | [.int _,.bl _],h=>simp [dG] at h
     | [.int _,.str _],h=>simp [dG] at h
     | [.int _,.tup _],h=>simp [dG] at h
     | [.int _,.lst _],h=>simp [dG] at h
     | [.int _,.dK _ _],h=>simp [dG] at h
     | [.int _,.dT _ _],h=>simp [dG] at h
   | _=>simp [dG] at h
theorem Lj {K:ac} {G:Hp} {D:UD} {ds:List ak} (hl:ds.length=D.length) (h:∀ (i:Nat) (e:Int×List Int) (d:ak),D[i]?=some e->ds[i]?=some d->∃ o,G d=some (.frz o (.dK (idc e.2)))):cO K G (D.map fun e=>dD e.2) (ds.map V.ref):=by
 induction D generalizing ds with
 | nil =>
   cases ds with
   | nil=>rfl
   | cons _ _=>cases hl
 | cons e D ih =>
   cases ds with
   | nil=>cases hl
   | cons d ds =>
     obtain ⟨o,ho⟩:=h 0 e d rfl rfl
     refine ⟨_,_,rfl,?_,ih (by simpa using hl) fun i e' d' h1 h2=>h (i+1) e' d' (by simpa using h1) (by simpa using h2)⟩
     refine ⟨d,o,_,rfl,ho,?_,?_⟩
     ·unfold idc;rw [aC];rfl
     ·unfold idc
      rw [aC]
      have:∀ l:List Int,cO K G (l.map fun _=>Da.bl true) (l.map ((fun kv:Key×V=>kv.2)∘fun b=>(aq b,V.bl true))):=fun l=>by
       induction l with
       | nil=>rfl
       | cons a l ih=>exact ⟨_,_,rfl,rfl,ih⟩
      exact this e.2
theorem vV {K:ac} {G H:Hp} {ds:List Da} {d:Da} {vs:List V} {Q:VK} {x0 x1 x2 x3:bH} (hl:ds.length=1) (sg:cQ G H) (tg:Tbs K G) (dl:cO K G ds vs) (ef:fn_uppers_of ds=some d) (k:∀ v G' H',Ext G H G' H'->Den K G' d v->Q v H') :
 pB (EH tj (kC 1)) (pB (Kr (iX K (cF (iG (aW 0)))) (Ly K 2 (Fi (kC 2) (Fi (kC 3) LE)))
  (pB (Kt (tB (vy (kh 2) (kh 1))) (v6 (kh 1) (kh 2) tj) CV) (v6 (CH (kh 1) (kh 2)) (kh 3) (tC (V.bl true)))))
  fun D σ H=>kh 1 σ H fun v H1=>∃ ls,je H1 ls fun H2=>D.rt v H2) { nx:=fun _ H'=>Q V.non H',rt:=Q } (L2.start [x0,x1,x2,x3] vs) H:=by
 have hs:aL=16777216:=bE
 match ds,hl with
 | [d0],_ =>
   obtain ⟨v0,r,ev,hd0,er⟩:=dl
   cases (show r=[] from er)
   subst ev
   obtain ⟨T,hT,hTl,hd,items⟩:∃ T:List (Int×Int),cF (iG (aW 0)) [.pu d0,.no,.no,.no]=some (T.map fun p=>Da.tup [.int p.1,.int p.2])/\T.length<=1000/\d=dU (upp T)/\True:=by
    cases d0 with
    | tup xs =>
      have ef:(match dG xs with | some T=>if T.length<=1000 then some (dU (upp T)) else none | none=>none)=some d:=ef
      split at ef
      ·rename_i T eT
       split at ef
       ·rename_i hT;cases ef;exact ⟨T,by rw [oW eT];rfl,hT,rfl,trivial⟩
       ·cases ef
      ·cases ef
    | lst xs =>
      have ef:(match dG xs with | some T=>if T.length<=1000 then some (dU (upp T)) else none | none=>none)=some d:=ef
      split at ef
      ·rename_i T eT
       split at ef
       ·rename_i hT;cases ef;exact ⟨T,by rw [oW eT];rfl,hT,rfl,trivial⟩
       ·cases ef
      ·cases ef
    | _=>cases ef
   show pB _ _ _ [some v0,none,none,none] H
   intro u hu
   show pB _ _ _ [some v0,some (.ref u),none,none] (upd H u (.dK []))
   have E0:Ext G H G (upd H u (.dK [])):=Ext.own sg hu
   have st0:iC K H G (upd H u (.dK [])) [some v0,some (.ref u),none,none] [.pu d0,.no,.no,.no]:=by
    refine ⟨rfl,fun i d e=>?_,fun i d e=>?_,fun i j d d' l _ e=>?_,tg⟩
    ·match i,e with
     | 0,e=>cases e;exact ⟨v0,rfl,hd0⟩
     | 1,e=>cases e
     | 2,e=>cases e
     | 3,e=>cases e
    ·match i,e with
     | 0,e=>cases e
     | 1,e=>cases e
     | 2,e=>cases e
     | 3,e=>cases e
    ·match i,e with
     | 0,e=>cases e
     | 1,e=>cases e
     | 2,e=>cases e
     | 3,e=>cases e
   refine ⟨H,G,_,_,E0.gh,cw hu,st0,hT,fun J G1 H1 E1 it=>?_⟩
   have E01:=E0.trans E1
   have G1u:G1 u=none:=E1.nw u _ aV rfl (sg.free hu)
   refine ⟨fun i m σ H'=>m=T.length-i/\i<=T.length/\∃ Gc dd s2 s3,σ=[some v0,some (.ref u),s2,s3]/\Ext G H Gc H'/\cQ G1 Gc/\UR H Gc H' u dd ((T.take i).foldl (fun D p=>jF D p.1 p.2) [])/\(((T.take i).foldl (fun D p=>jF D p.1 p.2) []).map (·.1)).Nodup/\((T.take i).foldl (fun D p=>jF D p.1 p.2) []).length<=i/\∀ e∈(T.take i).foldl (fun D p=>jF D p.1 p.2) [],e.2.length<=i,
    ⟨T.length,by simp,bW _,G1,[],_,_,rfl,E01,cQ.refl _,⟨rfl,E1.hh _ _ aV,by simp,by simp,fun d hd=>?_⟩,by simp,by simp,by simp⟩,?_⟩
   ·rw [av] at hd;subst hd;exact ⟨hu,G1u⟩
   rintro i m σ H' ⟨rfl,hi,Gc,dd,s2,s3,rfl,Ec,sc,ur,ndk,hlen,hin0⟩
   generalize hD:(T.take i).foldl (fun D p=>jF D p.1 p.2) []=D at ur ndk hlen hin0
   have lenM:(T.map fun p=>Da.tup [.int p.1,.int p.2]).length=T.length:=ab _
   by_cases hlt:i<T.length
   ·
    obtain ⟨hgo,hy⟩:=(it i Gc H' sc Ec.gh).1 (Da.tup [.int T[i].1,.int T[i].2]) (by rw [ay,aj hlt];rfl)
    have hDn:(T.take (i+1)).foldl (fun D p=>jF D p.1 p.2) []=jF D T[i].1 T[i].2:=by
     rw [List.take_succ_eq_append_getElem hlt,List.foldl_append,hD];rfl
    refine .inr ⟨hgo,fun σ3 H3=>∃ Gc dd s2 s3,σ3=[some v0,some (.ref u),s2,s3]/\Ext G H Gc H3/\cQ G1 Gc/\UR H Gc H3 u dd (jF D T[i].1 T[i].2)/\((jF D T[i].1 T[i].2).map (·.1)).Nodup/\(jF D T[i].1 T[i].2).length<=i+1/\∀ e∈jF D T[i].1 T[i].2,e.2.length<=i+1,fun σ3 H3 z=>⟨T.length-(i+1),by lia,rfl,hlt,?_⟩,fun x H2 yl=>?_⟩
    ·rw [hDn];exact z
    obtain ⟨G2,E2,dx⟩:=hy x H2 yl
    obtain ⟨t,xs,rfl,gt,dxs⟩:=dx
    have ex:xs=[.int T[i].1,.int T[i].2]:=by
     obtain ⟨x1,r1,e1,h1,x2,r2,e2,h2,e3⟩:=dxs
     cases (show x1=_ from h1)
     cases (show x2=_ from h2)
     cases (show r2=[] from e3)
     rw [e1,e2]
    subst ex
    generalize T[i].1=a at *
    generalize T[i].2=b at *
    have Ec2:=Ec.trans E2
    have ur2:=ur.ext E2 Ec.gh
    refine ⟨t,_,rfl,SqT.of (E2.gh _ _ gt),rfl,_,_,rfl,_,_,rfl,rfl,?_⟩
    show pB _ _ _ [some v0,some (.ref u),some (.int a),some (.int b)] H2
    have second:∀ (Gd:Hp) (H3:Hp) (de:List ak) (D1:UD),Ext G H Gd H3->cQ G1 Gd->UR H Gd H3 u de D1->(D1.map (·.1)).Nodup->a∈D1.map (·.1)->jF D1 a b=jF D a b->D1.length<=i+1->(∀ e∈D1,e.2.length<=i) ->
     v6 (CH (kh 1) (kh 2)) (kh 3) (tC (V.bl true)) { nx:=fun σ3 H3=>∃ Gc dd s2 s3,σ3=[some v0,some (.ref u),s2,s3]/\Ext G H Gc H3/\cQ G1 Gc/\UR H Gc H3 u dd (jF D a b)/\((jF D a b).map (·.1)).Nodup/\(jF D a b).length<=i+1/\∀ e∈jF D a b,e.2.length<=i+1,rt:=Q,bk:=fun σ H=>kh 1 σ H fun v H1=>∃ ls,je H1 ls fun H2=>Q v H2,ct:=fun σ3 H3=>∃ Gc dd s2 s3,σ3=[some v0,some (.ref u),s2,s3]/\Ext G H Gc H3/\cQ G1 Gc/\UR H Gc H3 u dd (jF D a b)/\((jF D a b).map (·.1)).Nodup/\(jF D a b).length<=i+1/\(∀ e∈jF D a b,e.2.length<=i+1) } [some v0,some (.ref u),some (.int a),some (.int b)] H3:=fun Gd H3 de D1 Ed sd ud1 ndk1 ha hadd hl1 hin1=>by
     obtain ⟨j,e,dj,e1,e2,e3,e4⟩:=(ui (a:=a) ud1.ln).2 ha
     obtain ⟨x,l⟩:=e
     dsimp only at e3
     subst e3
     have hin:=ud1.inn j _ dj e1 e2
     have hmem:=ag u (bI e2)
     have hll:(idc l).length<aL:=by
      have:=hin1 _ (bI e1)
      unfold idc
      rw [ab]
      dsimp only at this
      lia
     refine ⟨_,rfl,_,rfl,u,.ref dj,rfl,?_,_,rfl,dj,_,rfl,Dy.k (k:=aq b) hin hll,Gd,de,_,_,rfl,Ed.mut (ud1.fr dj hmem).1 (ud1.fr dj hmem).2,sd,?_,?_,?_,?_⟩
     ·rw [<- e4];exact rW.k (k:=aq x) ud1.out
     ·rw [<- hadd,mi ndk1 e1];exact ud1.put e1 e2
     ·rw [<- hadd,mi ndk1 e1,mt e1];exact ndk1
     ·rw [<- hadd,mi ndk1 e1,bU];exact hl1
     ·rw [<- hadd,mi ndk1 e1]
      intro e he
      rcases List.mem_or_eq_of_mem_set he with z | z
      ·have:=hin1 e z;lia
      ·subst z
       have:=hin1 _ (bI e1)
       show (sP l b).length<=i+1
       unfold sP
       split
       ·dsimp only at this;lia
       ·rw [aN,bx];dsimp only at this;lia
    refine ⟨_,rfl,_,rfl,u,_,rfl,rW.k (k:=aq a) ur2.out,_,rfl,?_⟩
    by_cases ha:a∈D.map (·.1)
    ·obtain ⟨j,e,dj,e1,e2,e3,e4⟩:=(ui (a:=a) ur2.ln).2 ha
     rw [e4]
     refine JY ?_
     exact second G2 H2 dd D Ec2 (sc.trans E2.gg) ur2 ndk ha rfl (by lia) hin0
    ·rw [(ui (a:=a) ur2.ln).1 ha]
     refine HF ?_
     intro dn hdn
     have h0:H dn=none:=Ec2.hh.free hdn
     have hg2:G2 dn=none:=Ec2.gh.free hdn
     have ul:(ud dd D).length<aL:=by rw [Iu ur2.ln];lia
     have hun:dn≠u:=fun z=>by rw [z,ur2.out] at hdn;cases hdn
     refine ⟨_,rfl,_,rfl,u,_,rfl,Dy.k (k:=aq a) (by rw [bq hun.symm];exact ur2.out) ul,?_⟩
     have fu:=ur2.fr u (ah)
     refine second G2 _ (dd++[dn]) (D++[(a,[])]) ((Ec2.mut h0 hg2).mut fu.1 fu.2) (sc.trans E2.gg) (ur2.snoc hdn h0 hg2 ha) ?_ (by simp) (xf ha) (by rw [aN,bx];lia) ?_
     rotate_left
     ·intro e he
      rcases az.mp he with z | z
      ·exact hin0 e z
      ·rw [av] at z;subst z;exact bW _
     rw [bD]
     exact bp.mpr ⟨ndk,aS _ _,fun y hy2 z hz=>by
      have hz':z=a:=by simpa using hz
      intro w
      rw [w,hz'] at hy2
      exact ha hy2⟩
   ·
    have ei:i=T.length:=by lia
    subst ei
    refine .inl ⟨(it T.length Gc H' sc Ec.gh).2 lenM,?_⟩
    rw [BJ] at hD
    refine ⟨_,rfl,(dd++[u]),?_⟩
    have contents:∀ (j:Nat) (hj:j<dd.length),∃ e,D[j]?=some e/\H' dd[j]=some (.dK (idc e.2)):=fun j hj=>by
     have h1:j<D.length:=by rw [<- ur.ln];exact hj
     exact ⟨D[j],aj h1,ur.inn j D[j] dd[j] (aj h1) (aj hj)⟩
    have el:dd++[u]=(((dd.zip D).map fun e=>(e.1,HO.dK (idc e.2.2)))++[(u,HO.dK (ud dd D))]).map (·.1):=by
     rw [bD,aC]
     have:(dd.zip D).map ((fun x=>x.1)∘fun e:ak×Int×List Int=>(e.1,HO.dK (idc e.2.2)))=dd:=by
      rw [show ((fun x:ak×HO=>x.1)∘fun e:ak×Int×List Int=>(e.1,HO.dK (idc e.2.2)))=wf from rfl]
      exact List.map_fst_zip (by rw [ur.ln];exact ax _)
     rw [this];rfl
    rw [el]
    refine oU (G0:=G) (H0:=H) _ Gc H' Ec ?_ (fun e he=>?_) fun G' H'' E' s' hh=>?_
    ·rw [<- el]
     have n:=bf.mp ur.nd
     exact bp.mpr ⟨n.2,aS _ _,fun x hx y hy=>by rw [av] at hy;subst hy;intro z;subst z;exact n.1 hx⟩
    ·rcases az.mp he with z | z
     ·obtain ⟨⟨da,e'⟩,hz,rfl⟩:=aK.mp z
      obtain ⟨j,hj,ej⟩:=cf hz
      rw [BP] at ej
      rw [pO] at hj
      cases ej
      have h1:j<dd.length:=by lia
      have h2:j<D.length:=by lia
      have f:=ur.fr dd[j] (ag _ (gy h1))
      exact ⟨f.1,f.2,ur.inn j D[j] dd[j] (aj h2) (aj h1),.inl ⟨_,rfl⟩⟩
     ·rw [av] at z;subst z
      have f:=ur.fr u (ah)
      exact ⟨f.1,f.2,ur.out,.inl ⟨_,rfl⟩⟩
    ·refine k _ G' H'' E' ?_
     rw [hd]
     have hD':upp T=D:=hD
     rw [hD']
     obtain ⟨o,ho⟩:=hh (u,HO.dK (ud dd D)) (by simp)
     refine ⟨u,o,_,rfl,ho,v4 ur.ln,?_⟩
     rw [Bx ur.ln]
     refine Lj ur.ln fun j e dj h1 h2=>?_
     have hmem:(dj,HO.dK (idc e.2))∈((dd.zip D).map fun e=>(e.1,HO.dK (idc e.2.2))):=by
      refine aK.mpr ⟨(dj,e),?_,rfl⟩
      obtain ⟨l1,q1⟩:=aE.mp h1
      obtain ⟨l2,q2⟩:=aE.mp h2
      have:(dd.zip D)[j]'(by rw [pO];lia)=(dj,e):=by rw [BP,q1,q2]
      rw [<- this]
      exact gy _
     exact hh _ (bw _ hmem)
end Ry
namespace Ry
inductive GoI (N C B:Rho->Prop) (R:Da->Prop):Res->Prop where
 | nx {ρ:Rho}:N ρ->GoI N C B R (.nx ρ)
 | ct {ρ:Rho}:C ρ->GoI N C B R (.ct ρ)
 | bk {ρ:Rho}:B ρ->GoI N C B R (.bk ρ)
 | rt {d:Da}:R d->GoI N C B R (.rt d)
abbrev Go (r:Res) (N C B:Rho->Prop) (R:Da->Prop):Prop:=GoI N C B R r
section
variable {N C B:Rho->Prop} {R:Da->Prop} {ρ:Rho} {g h:Rho->Res}
theorem Go.mono {r:Res} {N' C' B':Rho->Prop} {R':Da->Prop} (q:Go r N C B R) (n:∀ ρ,N ρ->N' ρ) (c:∀ ρ,C ρ->C' ρ) (b:∀ ρ,B ρ->B' ρ) (r':∀ d,R d->R' d):Go r N' C' B' R':=by
 cases q with
 | nx q=>exact .nx (n _ q)
 | ct q=>exact .ct (c _ q)
 | bk q=>exact .bk (b _ q)
 | rt q=>exact .rt (r' _ q)
theorem cS (q:Go (g ρ) (fun ρ'=>Go (h ρ') N C B R) C B R):Go (iD g h ρ) N C B R:=by
 unfold iD
 generalize g ρ=r at q
 cases q with
 | nx q=>exact q
 | ct q=>exact .ct q
 | bk q=>exact .bk q
 | rt q=>exact .rt q
theorem d9 {ρ':Rho} (e:g ρ=.nx ρ') (q:N ρ'):Go (g ρ) N C B R:=by rw [e];exact .nx q
theorem oe {d:Da} (e:g ρ=.rt d) (q:R d):Go (g ρ) N C B R:=by rw [e];exact .rt q
theorem rH {t:Rho->Option Bool} {b:Bool} (e:t ρ=some b) (q1:b=true->Go (g ρ) N C B R) (q2:b=false->Go (h ρ) N C B R):Go (sIf t g h ρ) N C B R:=by
 unfold sIf
 cases b with
 | true=>rw [e];exact q1 rfl
 | false=>rw [e];exact q2 rfl
theorem zK {α:Type} (enc:α->Da) {t:Da->Rho->Option Rho} (I:List α->Rho->Prop):∀ (post pre:List α) (ρ:Rho),I pre ρ ->
 (∀ pre' x post' ρ,pre++post=pre'++x::post'->I pre' ρ->∃ ρ1,t (enc x) ρ=some ρ1/\Go (g ρ1) (I (pre'++[x])) (I (pre'++[x])) N R)->(∀ ρ,I (pre++post) ρ->N ρ)->Go (BY t g (post.map enc) ρ) N C B R
 | [],pre,ρ,i,_,fin=>.nx (fin ρ (by rw [eV];exact i))
 | x::post,pre,ρ,i,step,fin=>by
   obtain ⟨ρ1,e1,q⟩:=step pre x post ρ rfl i
   show Go (match t (enc x) ρ with | none=>.bad | some ρ1=>match g ρ1 with | .nx ρ2=>BY t g (post.map enc) ρ2 | .ct ρ2=>BY t g (post.map enc) ρ2 | .bk ρ2=>.nx ρ2 | .rt d=>.rt d | .bad=>.bad) N C B R
   rw [e1]
   dsimp only
   have again:∀ ρ2,I (pre++[x]) ρ2->Go (BY t g (post.map enc) ρ2) N C B R:=fun ρ2 i2 =>
    zK enc I post (pre++[x]) ρ2 i2 (fun pre' y post' ρ e=>step pre' y post' ρ (by rw [<- e];simp)) (fun ρ i=>fin ρ (by simpa using i))
   generalize g ρ1=r at q
   cases q with
   | nx q=>exact again _ q
   | ct q=>exact again _ q
   | bk q=>exact .nx q
   | rt q=>exact .rt q
theorem j8 {α:Type} {enc:α->Da} {t:Da->Rho->Option Rho} {f:Rho->Option (List Da)} (I:List α->Rho->Prop) {xs:List α} (e:f ρ=some (xs.map enc)) (i0:I [] ρ)
 (step:∀ pre x post ρ,xs=pre++x::post->I pre ρ->∃ ρ1,t (enc x) ρ=some ρ1/\Go (g ρ1) (I (pre++[x])) (I (pre++[x])) N R) (fin:∀ ρ,I xs ρ->N ρ):Go (qw f t g ρ) N C B R:=by
 unfold qw
 rw [e]
 exact zK enc I xs [] ρ i0 (fun pre x post ρ e=>step pre x post ρ e) fin
theorem om {t:Rho->Option Bool} (I:Nat->Rho->Prop):∀ (n m:Nat) (ρ:Rho),m<n->I m ρ->(∀ m ρ,I m ρ->∃ b,t ρ=some b/\(b=false->N ρ)/\(b=true->Go (g ρ) (fun ρ'=>∃ m',m'<m/\I m' ρ') (fun ρ'=>∃ m',m'<m/\I m' ρ') N R))->Go (jr t g n ρ) N C B R
 | 0,m,ρ,h,_,_=>absurd h (p3 _)
 | n+1,m,ρ,hm,i,step=>by
   obtain ⟨b,eb,h0,h1⟩:=step m ρ i
   unfold jr
   rw [eb]
   cases b with
   | false=>exact .nx (h0 rfl)
   | true =>
     dsimp only
     have q:=h1 rfl
     have again:∀ ρ2,(∃ m',m'<m/\I m' ρ2)->Go (jr t g n ρ2) N C B R:=fun ρ2 ⟨m',l,i2⟩=>om I n m' ρ2 (by lia) i2 step
     generalize g ρ=r at q
     cases q with
     | nx q=>exact again _ q
     | ct q=>exact again _ q
     | bk q=>exact .nx q
     | rt q=>exact .rt q
theorem nT {n:Nat} {ds:List Da} {P:Da->Prop} (q:Go (g (fm n ds)) (fun _=>P .non) (fun _=>False) (fun _=>False) P):∃ d,jl n g ds=some d/\P d:=by
 unfold jl
 generalize g (fm n ds)=r at q
 cases q with
 | nx q=>exact ⟨_,rfl,q⟩
 | ct q=>exact q.elim
 | bk q=>exact q.elim
 | rt q=>exact ⟨_,rfl,q⟩
theorem tp {n:Nat} {ds:List Da} {d:Da} (q:Go (g (fm n ds)) (fun _=>False) (fun _=>False) (fun _=>False) (fun d'=>d'=d)):jl n g ds=some d:=by
 obtain ⟨d',e,h⟩:=nT (P:=fun d'=>d'=d) (q.mono (fun _ z=>z.elim) (fun _ z=>z) (fun _ z=>z) fun _ z=>z)
 rw [e,h]
end
section
variable {α:Type} {enc:α->Da} {c:Rho->Option Bool} {f:Rho->Option Rv} {p:α->Bool} {e:α->Da}
theorem sr {t:Da->Rho->Option Rho} (I:Rho->Prop):∀ (xs:List α) (ρ:Rho),I ρ->(∀ x∈xs,∀ ρ,I ρ->∃ ρ1,t (enc x) ρ=some ρ1/\I ρ1/\c ρ1=some (p x)/\(p x=true->∃ r,f ρ1=some r/\e5 r=true/\r.2=e x)) ->
 p7 t c f (xs.map enc) ρ=some ((xs.filter p).map e)
 | [],_,_,_=>rfl
 | x::xs,ρ,i,h=>by
   obtain ⟨ρ1,e1,i1,ec,ef⟩:=h x (ah) ρ i
   have ih:=sr (t:=t) I xs ρ1 i1 fun y hy=>h y (ag _ hy)
   show (match t (enc x) ρ with
    | none=>none
    | some ρ1=>match c ρ1 with
      | none=>none
      | some false=>p7 t c f (xs.map enc) ρ1
      | some true=>match f ρ1 with
        | none=>none
        | some r=>if e5 r=true then (match p7 t c f (xs.map enc) ρ1 with
          | none=>none
          | some es=>some (r.2::es)) else none)=_
   rw [e1]
   dsimp only
   rw [ec]
   cases hp:p x with
   | false=>dsimp only;rw [ih,jY (by rw [hp];exact aO)]
   | true =>
     dsimp only
     obtain ⟨r,er,pr,e2⟩:=ef hp
     rw [er]
     dsimp only
     rw [if_pos pr,ih,sW hp,aw,e2]
theorem AJ {i:Nat} {ρ:Rho} {xs:List α} (h:∀ x∈xs,c (ρ.set i (.pu (enc x)))=some (p x)/\(p x=true->∃ r,f (ρ.set i (.pu (enc x)))=some r/\e5 r=true/\r.2=e x)):p7 (tgN i) c f (xs.map enc) ρ=some ((xs.filter p).map e):=by
 refine sr (fun ρ'=>∀ d,ρ'.set i (.pu d)=ρ.set i (.pu d)) xs ρ (fun _=>rfl) fun x hx ρ' i'=>⟨ρ'.set i (.pu (enc x)),rfl,fun d=>?_,?_⟩
 ·rw [uO,i']
 ·rw [i'];exact h x hx
theorem Ci {i j:Nat} {ρ:Rho} {xs:List α} {a b:α->Da} (h:∀ x∈xs,c ((ρ.set i (.pu (a x))).set j (.pu (b x)))=some (p x)/\(p x=true->∃ r,f ((ρ.set i (.pu (a x))).set j (.pu (b x)))=some r/\e5 r=true/\r.2=e x)) (hij:i≠j) (henc:∀ x,enc x=.tup [a x,b x]) :
 p7 (tgT 2 (d4 (tgN i) (d4 (tgN j) jO))) c f (xs.map enc) ρ=some ((xs.filter p).map e):=by
 refine sr (fun ρ'=>∀ d d',(ρ'.set i (.pu d)).set j (.pu d')=(ρ.set i (.pu d)).set j (.pu d')) xs ρ (fun _ _=>rfl) fun x hx ρ' i'=>⟨(ρ'.set i (.pu (a x))).set j (.pu (b x)),?_,fun d d'=>?_,?_⟩
 ·rw [henc];simp [tgT,d4,tgN,jO]
 ·have e:((ρ'.set i (.pu (a x))).set j (.pu (b x))).set i (.pu d)=(ρ'.set i (.pu d)).set j (.pu (b x)):=by rw [List.set_comm _ _ hij,uO];exact List.set_comm _ _ (Ne.symm hij)
  rw [e,uO,i']
 ·rw [i'];exact h x hx
end
end Ry
namespace Ry
open L2
abbrev PI:=Int×Int
def dP (p:PI):Da:=.tup [.int p.1,.int p.2]
def kP (p:PI):List Key:=[.inl p.1,.inl p.2]
def dY (n:Int) (L:List PI):Da:=.tup [.int n,.tup (L.map dP)]
theorem Bo {p q:PI} (h:kP p=kP q):p=q:=by
 unfold kP at h
 injection h with h1 h2
 injection h2 with h2 _
 exact jT (cZ h1) (cZ h2)
theorem Bh (p:PI):my [.int p.1,.int p.2]=some (kP p):=rfl
theorem fS:∀ ns:List Int,gL (ns.map Da.int)=some ns
 | []=>rfl
 | n::ns=>by show (gL (ns.map Da.int)).map (n::·)=_;rw [fS ns];rfl
theorem v7:∀ S:List PI,o4 (S.map dP)=some (S.map fun p=>[p.1,p.2])
 | []=>rfl
 | p::S=>by
   show (match gL [Da.int p.1,Da.int p.2],o4 (S.map dP) with | some ns,some ts=>some (ns::ts) | _,_=>none)=_
   rw [v7 S];rfl
theorem zL (p q:PI):HT.lexLt [p.1,p.2] [q.1,q.2]=Ms.ltP p q:=by
 unfold HT.lexLt Ms.ltP
 split
 ·unfold HT.lexLt
  split
  ·rename_i h;simp [HT.lexLt,h]
  ·rfl
 ·rfl
theorem nj {ns:List Int} (h:ns.length<64):lZ (ns.map Da.int)=some ((Ms.srt Ms.ltI ns).map Da.int):=by
 unfold lZ
 rw [fS]
 dsimp only
 rw [if_pos h]
theorem Ki {S:List PI} (h:OkN S):OkN (S.map fun p:PI=>[p.1,p.2]):=by
 unfold OkN at *
 rw [ab]
 refine h.imp id fun ⟨a,b⟩=>⟨a,?_⟩
 rw [List.nodup_iff_pairwise_ne] at *
 rw [bB]
 exact b.imp fun {x y} n e=>n (by injection e with e1 e2;injection e2 with e2 _;exact jT e1 e2)
theorem nH {S:List PI} (h:OkN S):lZ (S.map dP)=some ((Ms.srt Ms.ltP S).map dP):=by
 cases S with
 | nil=>rfl
 | cons p S =>
   unfold lZ
   have e:gL (g6 dP (p::S))=none:=rfl
   rw [e]
   dsimp only
   rw [v7]
   dsimp only
   rw [if_pos ⟨Ki h,by simp⟩,Ms.srt_map (lt:=Ms.ltP) (fun a b=>zL a b),aC]
   rfl
theorem vG {S:List PI} (h:S.length<64):lZ (S.map dP)=some ((Ms.srt Ms.ltP S).map dP):=nH (.inl h)
def dS (S:List PI):Da:=.dT (S.map kP) (S.map fun _=>.bl true)
def vH (S:List PI) (p:PI):List PI:=if p∈S then S else S++[p]
theorem ri {S:List PI} {p q:PI}:q∈vH S p↔q∈S\/q=p:=by
 unfold vH
 split
 ·constructor
  ·exact .inl
  ·rintro (h | h)
   ·exact h
   ·subst h;assumption
 ·rw [az,av]
theorem qQ {S:List PI} {p:PI} (h:S.Nodup):(vH S p).Nodup:=by
 unfold vH
 split
 ·exact h
 ·rename_i hn
  exact bp.mpr ⟨h,aS _ _,fun a ha b hb=>by rw [av] at hb;subst hb;intro z;subst z;exact hn ha⟩
theorem CC {S:List PI}:(S.map kP).Nodup↔S.Nodup:=by
 constructor
 ·intro h
  exact List.Pairwise.imp (fun {a b} z w=>z (by rw [w])) (bB.mp h)
 ·intro h
  exact bB.mpr (h.imp fun {a b} z w=>z (Bo w))
theorem IV:∀ (S:List PI) (p:PI),atK (S.map kP) (S.map fun _=>Da.bl true) (kP p)=if p∈S then some (.bl true) else none
 | [],p=>by simp [atK]
 | q::S,p=>by
   show (if kP q=kP p then some (Da.bl true) else atK (S.map kP) (S.map fun _=>Da.bl true) (kP p))=_
   by_cases h:kP q=kP p
   ·rw [if_pos h,if_pos (by rw [Bo h];exact ah)]
   ·rw [if_neg h,IV S p]
    have hne:p≠q:=fun z=>h (by rw [z])
    by_cases hp:p∈S
    ·rw [if_pos hp,if_pos (ag _ hp)]
    ·rw [if_neg hp,if_neg (fun z=>(am.mp z).elim hne hp)]
theorem GM (S:List PI) (p:PI):ml (dS S) (dP p)=some (if p∈S then some (.bl true) else none):=by
 show (match my [Da.int p.1,Da.int p.2] with | some j=>some (atK (S.map kP) (S.map fun _=>Da.bl true) j) | none=>none)=_
 rw [Bh]
 dsimp only
 rw [IV]
theorem Hr:∀ (S:List PI) (p:PI),gR (S.map kP) (kP p)=(vH S p).map kP/\gN (S.map kP) (S.map fun _=>Da.bl true) (kP p) (.bl true)=(vH S p).map fun _=>Da.bl true
 | [],p=>⟨rfl,rfl⟩
 | q::S,p=>by
   have ih:=Hr S p
   by_cases h:kP q=kP p
   ·have e:=Bo h
    subst e
    have ea:vH (q::S) q=q::S:=by unfold vH;rw [if_pos ah]
    rw [ea]
    constructor
    ·show (if kP q=kP q then _ else _)=_;rw [if_pos rfl];rfl
    ·show (if kP q=kP q then _ else _)=_;rw [if_pos rfl];rfl
   ·have hne:p≠q:=fun z=>h (by rw [z])
    have ea:vH (q::S) p=q::vH S p:=by
     unfold vH
     by_cases hp:p∈S
     ·rw [if_pos hp,if_pos (ag _ hp)]
     ·rw [if_neg hp,if_neg (fun z=>(am.mp z).elim hne hp)];rfl
    rw [ea]
    constructor
    ·show (if kP q=kP p then _ else kP q::gR (S.map kP) (kP p))=_;rw [if_neg h,ih.1];rfl
    ·show (if kP q=kP p then _ else Da.bl true::gN (S.map kP) (S.map fun _=>Da.bl true) (kP p) (.bl true))=_;rw [if_neg h,ih.2];rfl
theorem Ey {S:List PI} (p:PI) (nd:S.Nodup) (hl:S.length<=1000000):HG (dS S) (dP p) (.bl true)=some (dS (vH S p)):=by
 show (match my [Da.int p.1,Da.int p.2] with | some j=>if (S.map kP).Nodup/\(S.map kP).length<=1000000 then some (Da.dT (gR (S.map kP) j) (gN (S.map kP) (S.map fun _=>Da.bl true) j (.bl true))) else none | none=>none)=_
 rw [Bh]
 dsimp only
 rw [if_pos ⟨CC.mpr nd,by rw [ab];exact hl⟩,(Hr S p).1,(Hr S p).2]
 rfl
def rgI (lo:Int):Nat->List Int
 | 0=>[]
 | n+1=>lo::rgI (lo+1) n
theorem eQ:∀ (n:Nat) (lo:Int),fg lo n=(rgI lo n).map Da.int
 | 0,_=>rfl
 | n+1,lo=>by show Da.int lo::fg (lo+1) n=_;rw [eQ n];rfl
theorem fq:∀ {n:Nat} {lo x:Int},x∈rgI lo n↔lo<=x/\x<lo+n
 | 0,lo,x=>by unfold rgI;constructor;intro h;cases h;intro h;exfalso;lia
 | n+1,lo,x=>by unfold rgI;rw [am,fq];lia
theorem e6:∀ (n:Nat) (lo:Int),(rgI lo n).length=n
 | 0,_=>rfl
 | n+1,lo=>by unfold rgI;rw [aG,e6 n]
theorem jp:∀ (n:Nat) (lo:Int),(rgI lo n).Pairwise fun a b=>Ms.ltI a b=true
 | 0,_=>.nil
 | n+1,lo=>bF.mpr ⟨fun x hx=>by have:=fq.mp hx;simp only [Ms.ltI,decide_eq_true_eq];lia,jp n _⟩
structure Yd (n:Int) (L:List PI):Prop where
 srt:L.Pairwise fun p q=>Ms.ltP p q=true
 rg:∀ p∈L,(0<=p.1/\p.1<n)/\0<=p.2/\p.2<n
 irr:∀ a,(a,a)∉L
 tr:∀ a b c,(a,b)∈L->(b,c)∈L->(a,c)∈L
theorem Yd.nd {n:Int} {L:List PI} (h:Yd n L):L.Nodup:=h.srt.imp fun {a b} z w=>by subst w;rw [Ms.linP.irr] at z;cases z
end Ry
set_option linter.unusedSimpArgs false
namespace Ry
open PySem L2
@[simp] theorem im (i:Nat) (ρ:Rho):aW i ρ=( match ρ[i]? with
  | some (.pu d)=>some (.pu,d)
  | some (.ow d)=>some (.bo,d)
  | _=>none:Option Rv):=rfl
@[simp] theorem Iw (d:Da) (ρ:Rho):xC d ρ=( some (.pu,d):Option Rv):=rfl
@[simp] theorem FC (r:Rv) (ρ:Rho):xC2 r ρ=( some r:Option Rv):=rfl
@[simp] theorem sO (op:Rv->Rv->Option Rv) (fa fb:Rho->Option Rv) (ρ:Rho):x2 op fa fb ρ=( match fa ρ with
  | none=>none
  | some a=>match fb ρ with
    | none=>none
    | some b=>op a b:Option Rv):=rfl
@[simp] theorem sQ (f:List Rv->Option Rv) (g:Rho->Option (List Rv)) (ρ:Rho):xB f g ρ=( match g ρ with
  | none=>none
  | some rs=>f rs:Option Rv):=rfl
@[simp] theorem cq (f:Rho->Option Rv) (g:Rho->Option (List Rv)) (ρ:Rho):aJ f g ρ=( match f ρ with
  | none=>none
  | some r=>match g ρ with
    | none=>none
    | some rs=>some (r::rs):Option (List Rv)):=rfl
@[simp] theorem dL (ρ:Rho):cc ρ=( some []:Option (List Rv)):=rfl
@[simp] theorem xy (g:Rho->Option (List Rv)) (ρ:Rho):kX g ρ=( match g ρ with
  | none=>none
  | some rs=>match kH rs with
    | none=>none
    | some ds=>if ds.length<=1000 then some (.pu,.tup ds) else none:Option Rv):=rfl
@[simp] theorem xLst_s (g:Rho->Option (List Rv)) (ρ:Rho):CK g ρ=( match g ρ with
  | none=>none
  | some rs=>match kH rs with
    | none=>none
    | some ds=>if ds.length<=1000 then some (.fr,.lst ds) else none:Option Rv):=rfl
@[simp] theorem JO (f:Rho->Option Rv) (ρ:Rho):o6 f ρ=( match f ρ with
  | some (_,.int i)=>some (.pu,.int (-i))
  | _=>none:Option Rv):=rfl
@[simp] theorem xNot_s (fa:Rho->Option Rv) (ρ:Rho):Lp fa ρ=( match fa ρ with
  | some (_,.bl b)=>some (.pu,.bl (!b))
  | _=>none:Option Rv):=rfl
@[simp] theorem xAnd_s (fa fb:Rho->Option Rv) (ρ:Rho):Ls fa fb ρ=( match fa ρ with
  | some (_,.bl true)=>fb ρ
  | some (_,.bl false)=>some (.pu,.bl false)
  | _=>none:Option Rv):=rfl
@[simp] theorem xOr_s (fa fb:Rho->Option Rv) (ρ:Rho):xOr fa fb ρ=( match fa ρ with
  | some (_,.bl true)=>some (.pu,.bl true)
  | some (_,.bl false)=>fb ρ
  | _=>none:Option Rv):=rfl
@[simp] theorem KQ (t:Rho->Option Bool) (fa fb:Rho->Option Rv) (ρ:Rho):xIf t fa fb ρ=( match t ρ with
  | some true=>fa ρ
  | some false=>fb ρ
  | none=>none:Option Rv):=rfl
@[simp] theorem oG (fn:List Da->Option Da) (g:Rho->Option (List Rv)) (ρ:Rho):cJ fn g ρ=( match g ρ with
  | none=>none
  | some rs=>match kH rs with
    | none=>none
    | some ds=>match fn ds with
      | none=>none
      | some d=>some (.pu,d):Option Rv):=rfl
@[simp] theorem De (f:Rho->Option Rv) (ρ:Rho):tb f ρ=( match f ρ with
  | some (_,.bl b)=>some b
  | _=>none:Option Bool):=rfl
@[simp] theorem JG (f:Rho->Option Rv) (ρ:Rho):tTr f ρ=( match f ρ with
  | some r=>trD r.2
  | none=>none:Option Bool):=rfl
@[simp] theorem tNotX_s (ta:Rho->Option Bool) (ρ:Rho):KG ta ρ=( (ta ρ).map (!·):Option Bool):=rfl
@[simp] theorem tAndX_s (ta tc:Rho->Option Bool) (ρ:Rho):yx ta tc ρ=( match ta ρ with
  | some true=>tc ρ
  | some false=>some false
  | none=>none:Option Bool):=rfl
@[simp] theorem Ee (ta tc:Rho->Option Bool) (ρ:Rho):FX ta tc ρ=( match ta ρ with
  | some true=>some true
  | some false=>tc ρ
  | none=>none:Option Bool):=rfl
@[simp] theorem iS (i:Nat) (f:Rho->Option Rv) (ρ:Rho):lP i f ρ=( match f ρ with
  | some r=>if e5 r=true then .nx (ρ.set i (.pu r.2)) else .bad
  | none=>.bad:Res):=rfl
@[simp] theorem sOwn_s (i:Nat) (f:Rho->Option Rv) (ρ:Rho):zC i f ρ=( match f ρ with
  | some (.fr,d)=>.nx (ρ.set i (.ow d))
  | _=>.bad:Res):=rfl
@[simp] theorem hZ (f:Rho->Option Rv) (ρ:Rho):fZ f ρ=( match f ρ with
  | some r=>.rt r.2
  | none=>.bad:Res):=rfl
@[simp] theorem sRet_s (f:Rho->Option Rv) (ρ:Rho):LQ f ρ=( match f ρ with
  | some r=>if r.1=.pu\/nQ r.2=false then .rt r.2 else .bad
  | none=>.bad:Res):=rfl
@[simp] theorem sSeq_s (g h:Rho->Res) (ρ:Rho):iD g h ρ=( match g ρ with
  | .nx ρ'=>h ρ'
  | r=>r:Res):=rfl
@[simp] theorem sNext_s (ρ:Rho):ni ρ=( .nx ρ:Res):=rfl
@[simp] theorem sIf_s (t:Rho->Option Bool) (g h:Rho->Res) (ρ:Rho):sIf t g h ρ=( match t ρ with
  | some true=>g ρ
  | some false=>h ρ
  | none=>.bad:Res):=rfl
@[simp] theorem pA (i:Nat) (f:Rho->Option Rv) (ρ:Rho):lJ i f ρ=( match ρ[i]?,f ρ with
  | some (.ow (.lst ds)),some r=>if e5 r=true/\ds.length<=1000000 then .nx (ρ.set i (.ow (.lst (ds++[r.2])))) else .bad
  | _,_=>.bad:Res):=rfl
@[simp] theorem sPop_s (i j:Nat) (ρ:Rho):LH i j ρ=( match ρ[i]? with
  | some (.ow (.lst ds))=>match ds.getLast? with
    | some d=>.nx ((ρ.set i (.ow (.lst ds.dropLast))).set j (.pu d))
    | none=>.bad
  | _=>.bad:Res):=rfl
@[simp] theorem w6 (i:Nat) (fk fv:Rho->Option Rv) (ρ:Rho):Ct i fk fv ρ=( match ρ[i]?,fk ρ,fv ρ with
  | some (.ow d),some k,some v=>if e5 v=true then (match HG d k.2 v.2 with
    | some d'=>.nx (ρ.set i (.ow d'))
    | none=>.bad) else .bad
  | _,_,_=>.bad:Res):=rfl
@[simp] theorem sExtend_s (i:Nat) (f:Rho->Option Rv) (ρ:Rho):FZ i f ρ=( match ρ[i]?,f ρ with
  | some (.ow (.lst ds)),some (.fr,.lst es)=>if ds.length+es.length<=1000000 then .nx (ρ.set i (.ow (.lst (ds++es)))) else .bad
  | _,_=>.bad:Res):=rfl
@[simp] theorem sAsg_s (f:Rho->Option Rv) (t:Da->Rho->Option Rho) (ρ:Rho):JM f t ρ=( match f ρ with
  | some r=>if e5 r=true then (match t r.2 ρ with
    | some ρ'=>.nx ρ'
    | none=>.bad) else .bad
  | none=>.bad:Res):=rfl
@[simp] theorem sDrop_s (f:Rho->Option Rv) (ρ:Rho):KC f ρ=( match f ρ with
  | some _=>.nx ρ
  | none=>.bad:Res):=rfl
@[simp] theorem pg (f:Rho->Option Rv) (ρ:Rho):iG f ρ=( match f ρ with
  | some (.fr,d)=>some (.pu,d)
  | r=>r:Option Rv):=rfl
@[simp] theorem xSlice_s (fa:Rho->Option Rv) (fl fh:Rho->Option (Option Int)) (ρ:Rho):j6 fa fl fh ρ=( match fa ρ,fl ρ,fh ρ with
  | some r,some l,some h=>slD l h r.2
  | _,_,_=>none:Option Rv):=rfl
@[simp] theorem oNone_s (ρ:Rho):oT ρ=( some none:Option (Option Int)):=rfl
@[simp] theorem oSome_s (f:Rho->Option Rv) (ρ:Rho):oa f ρ=( match f ρ with
  | some (_,.int i)=>some (some i)
  | _=>none:Option (Option Int)):=rfl
@[simp] theorem xIsInst_s (i:Da->Option Bool) (f:Rho->Option Rv) (ρ:Rho):v8 i f ρ=( match f ρ with
  | some r=>match i r.2 with
    | some b=>some (.pu,.bl b)
    | none=>none
  | none=>none:Option Rv):=rfl
@[simp] theorem xChain_s (op op':Rv->Rv->Option Rv) (fa fb fc:Rho->Option Rv) (ρ:Rho):Is op op' fa fb fc ρ=( match fa ρ,fb ρ with
  | some a,some b=>match op a b with
    | some (_,.bl true)=>match fc ρ with
      | some c=>op' b c
      | none=>none
    | some (_,.bl false)=>some (.pu,.bl false)
    | _=>none
  | _,_=>none:Option Rv):=rfl
@[simp] theorem oR (fd fk fx:Rho->Option Rv) (ρ:Rho):ju fd fk fx ρ=( match fd ρ,fk ρ,fx ρ with
  | some d,some k,some x=>match ml d.2 k.2 with
    | some (some e)=>some (.pu,e)
    | some none=>some x
    | none=>none
  | _,_,_=>none:Option Rv):=rfl
@[simp] theorem lc (f:Rho->Option Rv) (ρ:Rho):cF f ρ=( match f ρ with
  | some (.pu,.lst ds)=>some ds
  | some (.pu,.tup ds)=>some ds
  | some (.pu,.dK ks _)=>some (ks.map ji)
  | _=>none:Option (List Da)):=rfl
@[simp] theorem xc (f:Rho->Option (List Rv)) (ρ:Rho):mn f ρ=( match f ρ with
  | some [(_,.int j)]=>if -(2 ^ 62)<=j/\j<2 ^ 62 then some (fg 0 j.toNat) else none
  | _=>none:Option (List Da)):=rfl
@[simp] theorem JC (f:Rho->Option (List Rv)) (ρ:Rho):HD f ρ=( match f ρ with
  | some [(_,.int i),(_,.int j)]=>if -(2 ^ 62)<=i/\i<2 ^ 62/\-(2 ^ 62)<=j/\j<2 ^ 62 then some (fg i (j-i).toNat) else none
  | _=>none:Option (List Da)):=rfl
@[simp] theorem tgN_s (i:Nat) (d:Da) (ρ:Rho):tgN i d ρ=( some (ρ.set i (.pu d)):Option Rho):=rfl
@[simp] theorem tgT_s (n:Nat) (t:List Da->Rho->Option Rho) (ds:List Da) (ρ:Rho):tgT n t (.tup ds) ρ=if ds.length=n then t ds ρ else none:=rfl
@[simp] theorem tgCons_s (t:Da->Rho->Option Rho) (u:List Da->Rho->Option Rho) (d:Da) (ds:List Da) (ρ:Rho):d4 t u (d::ds) ρ=(match t d ρ with | some ρ'=>u ds ρ' | none=>none):=rfl
@[simp] theorem tgNil_s (ρ:Rho):jO [] ρ=some ρ:=rfl
@[simp] theorem fQ:kH []=some []:=rfl
@[simp] theorem fj (r:Rv) (rs:List Rv):kH (r::rs)=if e5 r=true then (kH rs).map (r.2::·) else none:=rfl
@[simp] theorem gU (d:Da):e5 (.pu,d)=true:=rfl
@[simp] theorem Bz (d:Da):e5 (.fr,d) = !nQ d:=rfl
@[simp] theorem C0 (d:List Da):nQ (.lst d)=false:=rfl
@[simp] theorem isDk_tup (d:List Da):nQ (.tup d)=false:=rfl
@[simp] theorem isDk_int (d:Int):nQ (.int d)=false:=rfl
@[simp] theorem isDk_bl (d:Bool):nQ (.bl d)=false:=rfl
@[simp] theorem oI_s (c:Int->Int->Bool) (g:Int->Int->Int) (a b:Kd) (i j:Int):oI c g (a,.int i) (b,.int j)=if c i j=true then some (.pu,.int (g i j)) else none:=rfl
@[simp] theorem oB_s (g:Int->Int->Bool) (a b:Kd) (i j:Int):oB g (a,.int i) (b,.int j)=some (.pu,.bl (g i j)):=rfl
@[simp] theorem oLt_s (a b:Kd) (i j:Int):oLt (a,.int i) (b,.int j)=some (.pu,.bl (decide (i<j))):=rfl
@[simp] theorem EM (a b:Kd) (i j:Int):nL (a,.int i) (b,.int j)=some (.pu,.int (i+j)):=rfl
@[simp] theorem EK (a b:Kd) (xs ys:List Da):nL (a,.tup xs) (b,.tup ys)=if xs.length+ys.length<=1000000 then some (.pu,.tup (xs++ys)) else none:=by
  unfold nL CI CT oI;dsimp only;split<;>rfl
@[simp] theorem IY (a b:Kd) (xs ys:List Da):nL (a,.lst xs) (b,.lst ys)=if xs.length+ys.length<=1000000 then some (.fr,.lst (xs++ys)) else none:=by
  unfold nL CI CT oI;dsimp only;split<;>rfl
@[simp] theorem oIs_s (n:Bool) (a b:Kd) (i j:Bool):oIs n (a,.bl i) (b,.bl j)=some (.pu,.bl (if n then !(i == j) else i == j)):=rfl
@[simp] theorem cMul_lit (i:Int):tN i 48271=true:=by simp [tN]
@[simp] theorem IX (k:Kd) (ds:List Da):p6 [(k,.tup ds)]=some (.pu,.int ds.length):=rfl
@[simp] theorem fLen_l (k:Kd) (ds:List Da):p6 [(k,.lst ds)]=some (.pu,.int ds.length):=rfl
@[simp] theorem fTuple_t (k:Kd) (ds:List Da):gv [(k,.tup ds)]=some (.pu,.tup ds):=rfl
@[simp] theorem xg (k:Kd) (ds:List Da):gv [(k,.lst ds)]=some (.pu,.tup ds):=rfl
@[simp] theorem fList_t (k:Kd) (ds:List Da):vz [(k,.tup ds)]=some (.fr,.lst ds):=rfl
@[simp] theorem fList_l (k:Kd) (ds:List Da):vz [(k,.lst ds)]=some (.fr,.lst ds):=rfl
@[simp] theorem trD_non:trD .non=some false:=rfl
@[simp] theorem Io (b:Bool):trD (.bl b)=some b:=rfl
@[simp] theorem trD_int (i:Int):trD (.int i)=some (i != 0):=rfl
@[simp] theorem trD_tup (ds:List Da):trD (.tup ds)=some (!ds.isEmpty):=rfl
@[simp] theorem trD_lst (ds:List Da):trD (.lst ds)=some (!ds.isEmpty):=rfl
theorem zF {α:Type} {xs:List α} {k:Int} (h0:0<=k):atI xs k=xs[k.toNat]?:=by
 unfold atI ixN
 rw [if_pos h0]
 split
 ·rfl
 ·rename_i h
  rw [fK (by lia)];rfl
theorem HR {a b:Kd} {ds:List Da} {i:Int} {d:Da} (h0:0<=i) (h:ds[i.toNat]?=some d):oIt (a,.tup ds) (b,.int i)=some (.pu,d):=by
 unfold oIt oIx xh
 dsimp only
 rw [zF h0,h]
 rfl
theorem IF {a b:Kd} {ds:List Da} {i:Int} {d:Da} (h0:0<=i) (h:ds[i.toNat]?=some d):oIt (a,.lst ds) (b,.int i)=some (.pu,d):=by
 unfold oIt oIx xh
 dsimp only
 rw [zF h0,h]
 rfl
@[simp] theorem oIt_0 (a b:Kd) (d:Da) (ds:List Da):oIt (a,.tup (d::ds)) (b,.int 0)=some (.pu,d):=HR (by decide) rfl
@[simp] theorem oIt_1 (a b:Kd) (d e:Da) (ds:List Da):oIt (a,.tup (d::e::ds)) (b,.int 1)=some (.pu,e):=HR (by decide) rfl
theorem IN (n:Bool) (a b:Kd) (S:List PI) (p:PI):Ab n (a,dP p) (b,dS S)=some (.pu,.bl (if n then !decide (p∈S) else decide (p∈S))):=by
 unfold Ab
 dsimp only
 rw [GM]
 by_cases h:p∈S<;>simp [h]
@[simp] theorem oIn_S (n:Bool) (a b:Kd) (S:List PI) (x y:Int):oIn n (a,.tup [.int x,.int y]) (b,dS S)=some (.pu,.bl (if n then !decide ((x,y)∈S) else decide ((x,y)∈S))):=by
  unfold oIn
  rw [show Da.tup [.int x,.int y]=dP (x,y) from rfl,IN]
  rfl
end Ry
namespace G
open PySem L2 Ry
noncomputable def g__law_cell:Rho->Res:=(iD (sIf (tb (x2 oLt (aW 1) (xB p6 (aJ (aW 0) cc)))) (fZ (x2 oIt (aW 0) (aW 1))) ni)
 (fZ (xC (.int 0))))
noncomputable def fn__law_cell:List Da->Option Da:=jl 2 g__law_cell
noncomputable def g__law_mix:Rho->Res:=(fZ (x2 (oI (fun _ j=>decide (0<j)) (·%·)) (x2 (oI (fun _ j=>decide (0<j)) (·%·)) (x2 (oI tN (·*·)) (aW 0) (xC (.int 48271))) (aW 1)) (aW 2)))
noncomputable def fn__law_mix:List Da->Option Da:=jl 3 g__law_mix
def BZ (c m:Int):Nat->Int->List Int->List Int
 | 0,_,_=>[]
 | f+1,k,left=>left.getD ((c+5*k)*48271%9967%(m-k)).toNat 0::BZ c m f (k+1) (left.eraseIdx ((c+5*k)*48271%9967%(m-k)).toNat)
noncomputable def fn__law_perm:List Da->Option Da
 | [.int c,.int m]=>if 0<=m/\m<=1000 then some (.lst ((BZ c m m.toNat 0 (rgI 0 m.toNat)).map Da.int)) else none
 | _=>none
noncomputable def g__law_all:Rho->Res:=(iD (zC 2 (xC2 (.fr,.dT [] [])))
 (iD (qw (cF (iG (aW 1))) (tgN 3)
 (Ct 2 (aW 3) (xC (.bl true))))
 (iD (qw (mn (aJ (aW 0) cc)) (tgN 4)
 (qw (mn (aJ (aW 0) cc)) (tgN 5)
 (qw (mn (aJ (aW 0) cc)) (tgN 6)
 (sIf (yx (tb (x2 (oIn false) (kX (aJ (aW 5) (aJ (aW 4) cc))) (aW 2))) (tb (x2 (oIn false) (kX (aJ (aW 4) (aJ (aW 6) cc))) (aW 2)))) (Ct 2 (kX (aJ (aW 5) (aJ (aW 6) cc))) (xC (.bl true))) ni))))
 (fZ (xB eX (aJ (aW 2) cc))))))
noncomputable def fn__law_all:List Da->Option Da:=jl 7 g__law_all
noncomputable def g__law_yard:Rho->Res:=(iD (lP 3 (x2 nL (xC (.int 1)) (cJ fn__law_mix (aJ (cJ fn__law_cell (aJ (aW 0) (aJ (aW 1) cc))) (aJ (xC (.int 9973)) (aJ (aW 2) cc))))))
 (iD (lP 4 (x2 nL (xC (.int 1)) (cJ fn__law_mix (aJ (cJ fn__law_cell (aJ (aW 0) (aJ (aW 1) cc))) (aJ (xC (.int 9949)) (aJ (xC (.int 6)) cc))))))
 (iD (lP 5 (cJ fn__law_perm (aJ (cJ fn__law_cell (aJ (aW 0) (aJ (x2 nL (aW 1) (xC (.int 1))) cc))) (aJ (aW 3) cc))))
 (iD (zC 6 (CK cc))
 (iD (qw (mn (aJ (aW 3) cc)) (tgN 7)
 (qw (HD (aJ (x2 nL (aW 7) (xC (.int 1))) (aJ (aW 3) cc))) (tgN 8)
 (sIf (tb (x2 oLt (cJ fn__law_mix (aJ (x2 nL (x2 nL (cJ fn__law_cell (aJ (aW 0) (aJ (x2 nL (aW 1) (xC (.int 2))) cc))) (x2 (oI tN (·*·)) (xC (.int 131)) (aW 7))) (x2 (oI tN (·*·)) (xC (.int 17)) (aW 8))) (aJ (xC (.int 9941)) (aJ (xC (.int 10)) cc)))) (aW 4))) (lJ 6 (kX (aJ (x2 oIt (aW 5) (aW 7)) (aJ (x2 oIt (aW 5) (aW 8)) cc)))) ni)))
 (fun ρ=>(fZ (kX (aJ (aW 3) (aJ (xB gv (aJ (cJ fn__law_all (aJ (aW 3) (aJ (aW 6) cc))) cc)) cc)))) (frz 6 ρ)))))))
noncomputable def fn__law_yard:List Da->Option Da:=jl 9 g__law_yard
end G
set_option linter.unusedSimpArgs false
namespace G
open PySem L2 Ry
theorem vL (S:List Int) (k:Int) (hk:0<=k):fn__law_cell [.lst (S.map Da.int),.int k]=some (.int (S.getD k.toNat 0)):=by
 by_cases h:k<(S.length:Int)
 ·have h2:k.toNat<S.length:=by lia
  simp [fn__law_cell,jl,fm,g__law_cell,h,oIt,oIx,xh,atI,ixN,hk,h2]
 ·have h2:¬ k.toNat<S.length:=by lia
  simp [fn__law_cell,jl,fm,g__law_cell,h,oIt,oIx,xh,atI,ixN,hk,h2]
theorem wG (c p m:Int) (hp:0<p) (hm:0<m):fn__law_mix [.int c,.int p,.int m]=some (.int (c*48271%p%m)):=by
 simp [fn__law_mix,jl,fm,g__law_mix,hp,hm]
inductive Cl (T:List PI):Int->Int->Prop where
 | of {a b:Int}:(a,b)∈T->Cl T a b
 | tr {a b c:Int}:Cl T a b->Cl T b c->Cl T a c
theorem Cl.rg {T:List PI} {n:Int} (h:∀ p∈T,(0<=p.1/\p.1<n)/\0<=p.2/\p.2<n) {a b:Int} (c:Cl T a b):(0<=a/\a<n)/\0<=b/\b<n:=by
 induction c with
 | of m=>exact h _ m
 | tr _ _ i1 i2=>exact ⟨i1.1,i2.2⟩
structure Ph (n c:Int) (S cur:List PI) (done:Int->Int->Prop):Prop where
 nd:cur.Nodup
 mem:∀ a b,(a,b)∈cur↔(a,b)∈S\/(done a b/\(a,c)∈S/\(c,b)∈S)
theorem Ph.l {n c:Int} {S cur:List PI} {done:Int->Int->Prop} (h:Ph n c S cur done) (a:Int):(a,c)∈cur↔(a,c)∈S:=by
 rw [h.mem];constructor
 ·rintro (z | z);exact z;exact z.2.1
 ·exact .inl
theorem Ph.r {n c:Int} {S cur:List PI} {done:Int->Int->Prop} (h:Ph n c S cur done) (b:Int):(c,b)∈cur↔(c,b)∈S:=by
 rw [h.mem];constructor
 ·rintro (z | z);exact z;exact z.2.2
 ·exact .inl
theorem Ph.start {n c:Int} {S:List PI} (nd:S.Nodup):Ph n c S S (fun _ _=>False):=⟨nd,fun a b=>by simp⟩
theorem Ph.weak {n c:Int} {S cur:List PI} {d d':Int->Int->Prop} (h:Ph n c S cur d) (e:∀ a b,d a b↔d' a b):Ph n c S cur d':=⟨h.nd,fun a b=>by rw [h.mem,e]⟩
theorem Ph.yes {n c:Int} {S cur:List PI} {d:Int->Int->Prop} (h:Ph n c S cur d) {a b:Int} (h1:(a,c)∈cur) (h2:(c,b)∈cur):Ph n c S (vH cur (a,b)) (fun x y=>d x y\/(x=a/\y=b)):=by
 refine ⟨qQ h.nd,fun x y=>?_⟩
 rw [ri,h.mem]
 rw [h.l] at h1
 rw [h.r] at h2
 constructor
 ·rintro ((z | z) | z)
  ·exact .inl z
  ·exact .inr ⟨.inl z.1,z.2⟩
  ·cases z;exact .inr ⟨.inr ⟨rfl,rfl⟩,h1,h2⟩
 ·rintro (z | ⟨z | ⟨rfl,rfl⟩,w⟩)
  ·exact .inl (.inl z)
  ·exact .inl (.inr ⟨z,w⟩)
  ·exact .inr rfl
theorem Ph.no {n c:Int} {S cur:List PI} {d:Int->Int->Prop} (h:Ph n c S cur d) {a b:Int} (hn:¬ ((a,c)∈cur/\(c,b)∈cur)):Ph n c S cur (fun x y=>d x y\/(x=a/\y=b)):=by
 refine ⟨h.nd,fun x y=>?_⟩
 rw [h.l,h.r] at hn
 rw [h.mem]
 constructor
 ·rintro (z | z)
  ·exact .inl z
  ·exact .inr ⟨.inl z.1,z.2⟩
 ·rintro (z | ⟨z | ⟨rfl,rfl⟩,w⟩)
  ·exact .inl z
  ·exact .inr ⟨z,w⟩
  ·exact absurd w hn
structure Wa (T:List PI) (n:Int) (k:Int) (S:List PI):Prop where
 nd:S.Nodup
 told:∀ p∈T,p∈S
 cl:∀ a b,(a,b)∈S->Cl T a b
 thr:∀ c,0<=c->c<k->∀ a b,(a,c)∈S->(c,b)∈S->(a,b)∈S
theorem Wa.step {T:List PI} {n k:Int} {S S':List PI} (rg:∀ p∈T,(0<=p.1/\p.1<n)/\0<=p.2/\p.2<n) (h:Wa T n k S) (p:Ph n k S S' (fun a b=>(0<=a/\a<n)/\0<=b/\b<n)):Wa T n (k+1) S':=by
 have all:∀ a b,(a,k)∈S->(k,b)∈S->(a,b)∈S':=fun a b h1 h2 =>
  (p.mem a b).mpr (.inr ⟨⟨((h.cl _ _ h1).rg rg).1,((h.cl _ _ h2).rg rg).2⟩,h1,h2⟩)
 refine ⟨p.nd,fun q hq=>(p.mem q.1 q.2).mpr (.inl (h.told q hq)),fun a b hab=>?_,fun c h0 hc a b h1 h2=>?_⟩
 ·rcases (p.mem a b).mp hab with z | ⟨_,z1,z2⟩
  ·exact h.cl _ _ z
  ·exact (h.cl _ _ z1).tr (h.cl _ _ z2)
 ·by_cases hk:c=k
  ·subst hk
   exact all a b ((p.l a).mp h1) ((p.r b).mp h2)
  ·have hlt:c<k:=by lia
   rcases (p.mem a c).mp h1 with z1 | ⟨_,z1,z2⟩<;>rcases (p.mem c b).mp h2 with w1 | ⟨_,w1,w2⟩
   ·exact (p.mem a b).mpr (.inl (h.thr c h0 hlt a b z1 w1))
   ·exact all a b (h.thr c h0 hlt a k z1 w1) w2
   ·exact all a b z1 (h.thr c h0 hlt k b z2 w1)
   ·exact all a b z1 w2
theorem Wa.fin {T:List PI} {n:Int} {S:List PI} (rg:∀ p∈T,(0<=p.1/\p.1<n)/\0<=p.2/\p.2<n) (h:Wa T n n S) (a b:Int):(a,b)∈S↔Cl T a b:=by
 refine ⟨h.cl a b,fun c=>?_⟩
 induction c with
 | of m=>exact h.told _ m
 | @tr a b c c1 c2 i1 i2=>exact h.thr b (c1.rg rg).2.1 (c1.rg rg).2.2 a c i1 i2
end G
set_option linter.unusedSimpArgs false
namespace G
open PySem L2 Ry
theorem DU (n:Int):((rgI 0 n.toNat).flatMap fun a=>(rgI 0 n.toNat).map fun b=>((a,b):PI)).length=n.toNat*n.toNat:=by
 have:∀ (l m:List Int),(l.flatMap fun a=>m.map fun b=>((a,b):PI)).length=l.length*m.length:=fun l m=>by
  induction l with
  | nil=>simp
  | cons a l ih=>rw [List.flatMap_cons,aN,ih,ab,aG,Nat.add_mul,Nat.one_mul,Nat.add_comm]
 rw [this,e6]
theorem Bf {n:Int} {S:List PI} (nd:S.Nodup) (h:∀ p∈S,(0<=p.1/\p.1<n)/\0<=p.2/\p.2<n):S.length<=n.toNat*n.toNat:=by
 rw [<- DU n]
 refine Ms.length_le_of_subset nd fun p hp=>?_
 obtain ⟨h1,h2⟩:=h p hp
 rw [List.mem_flatMap]
 exact ⟨p.1,fq.mpr (by lia),aK.mpr ⟨p.2,fq.mpr (by lia),rfl⟩⟩
theorem Fz {n:Int} (hn:0<=n) {pre post:List Int} {x:Int} (e:rgI 0 n.toNat=pre++x::post):0<=x/\x<n:=by
 have:x∈rgI 0 n.toNat:=by rw [e];simp
 have:=fq.mp this
 lia
theorem Dm:∀ {m:Nat} {lo:Int} {pre post:List Int} {x:Int},rgI lo m=pre++x::post->x=lo+pre.length
 | 0,lo,pre,post,x,e=>by
   have:=congrArg gj e
   simp [rgI] at this
 | m+1,lo,[],post,x,e=>by
   unfold rgI at e
   injection e with e _
   simp [e]
 | m+1,lo,y::pre,post,x,e=>by
   unfold rgI at e
   rw [BQ] at e
   injection e with _ e
   have:=Dm e
   simp only [aG]
   lia
theorem JB {n:Int} {T:List PI} {X:Da} (hn:0<=n) (hn2:n<=1000) (hX:X=.lst (T.map dP)\/X=.tup (T.map dP)) (rg:∀ p∈T,(0<=p.1/\p.1<n)/\0<=p.2/\p.2<n)
 (hl:∀ S:List PI,S.Nodup->(∀ a b,(a,b)∈S↔Cl T a b)->S.length<=63) :
 ∃ L:List PI,fn__law_all [.int n,X]=some (.lst (L.map dP))/\(L.Pairwise fun p q=>Ms.ltP p q=true)/\∀ a b,(a,b)∈L↔Cl T a b:=by
 have small:∀ S:List PI,S.Nodup->(∀ a b,(a,b)∈S->Cl T a b)->S.length<=1000000:=fun S nd h=>by
  refine bL (Bf nd fun p hp=>(h p.1 p.2 hp).rg rg) ?_
  exact bL (rh (show n.toNat<=1000 by lia) (show n.toNat<=1000 by lia)) (by decide)
 have key:∃ d,jl 7 g__law_all [.int n,X]=some d/\∃ L:List PI,d=.lst (L.map dP)/\(L.Pairwise fun p q=>Ms.ltP p q=true)/\∀ a b,(a,b)∈L↔Cl T a b:=by
  refine nT ?_
  unfold g__law_all
  have e0:fm 7 [.int n,X]=[.pu (.int n),.pu X,.no,.no,.no,.no,.no]:=rfl
  rw [e0]
  refine cS (d9 (ρ':=[.pu (.int n),.pu X,.ow (dS []),.no,.no,.no,.no]) rfl ?_)
  refine cS ?_
  refine j8 (enc:=dP) (xs:=T) (fun pre ρ=>∃ S s3,ρ=[.pu (.int n),.pu X,.ow (dS S),s3,.no,.no,.no]/\S.Nodup/\(∀ p∈S,p∈T)/\∀ p∈pre,p∈S) ?_ ⟨[],_,rfl,.nil,by simp,by simp⟩ ?_ ?_
  ·rcases hX with rfl | rfl<;>rfl
  ·rintro pre x post ρ e ⟨S,s3,rfl,nd,sub,has⟩
   refine ⟨_,rfl,?_⟩
   have hp:=Ey x nd (small S nd fun a b z=>.of (sub _ z))
   refine d9 (ρ':=[.pu (.int n),.pu X,.ow (dS (vH S x)),.pu (dP x),.no,.no,.no]) (by simp [hp]) ⟨_,_,rfl,qQ nd,fun p z=>?_,fun p z=>?_⟩
   ·rcases ri.mp z with z | z
    ·exact sub p z
    ·subst z;rw [e];simp
   ·rw [ri]
    rcases az.mp z with z | z
    ·exact .inl (has p z)
    ·exact .inr (by simpa using z)
  rintro ρ ⟨S0,s3,rfl,nd0,sub0,has0⟩
  have rng:∀ (X':Da) (S:List PI) (s3 s4 s5 s6:Sl),mn (aJ (aW 0) cc) [.pu (.int n),.pu X',.ow (dS S),s3,s4,s5,s6]=some ((rgI 0 n.toNat).map Da.int):=fun X' S s3 s4 s5 s6=>by
   simp only [xc,cq,im,dL,br]
   rw [if_pos (by lia),eQ]
  refine cS ?_
  refine j8 (enc:=Da.int) (xs:=rgI 0 n.toNat) (fun pre ρ=>∃ S s4 s5 s6,ρ=[.pu (.int n),.pu X,.ow (dS S),s3,s4,s5,s6]/\Wa T n pre.length S) (rng ..) ⟨S0,_,_,_,rfl,nd0,has0,fun a b z=>.of (sub0 _ z),fun c h0 hc=>by simp at hc;lia⟩ ?_ ?_
  ·rintro prec c postc ρ ec ⟨S,s4,s5,s6,rfl,wa⟩
   have hc:=Dm ec
   refine ⟨_,rfl,?_⟩
   show Go (qw _ _ _ [.pu (.int n),.pu X,.ow (dS S),s3,.pu (.int c),s5,s6]) _ _ _ _
   refine j8 (enc:=Da.int) (xs:=rgI 0 n.toNat) (fun pre ρ=>∃ cur s5 s6,ρ=[.pu (.int n),.pu X,.ow (dS cur),s3,.pu (.int c),s5,s6]/\Ph n c S cur (fun x y=>x∈pre/\0<=y/\y<n)) (rng ..) ⟨S,_,_,rfl,(Ph.start wa.nd).weak fun a b=>by simp⟩ ?_ ?_
   ·rintro prea a posta ρ ea ⟨cur,s5,s6,rfl,ph⟩
    refine ⟨_,rfl,?_⟩
    show Go (qw _ _ _ [.pu (.int n),.pu X,.ow (dS cur),s3,.pu (.int c),.pu (.int a),s6]) _ _ _ _
    refine j8 (enc:=Da.int) (xs:=rgI 0 n.toNat) (fun pre ρ=>∃ cur s6,ρ=[.pu (.int n),.pu X,.ow (dS cur),s3,.pu (.int c),.pu (.int a),s6]/\Ph n c S cur (fun x y=>(x∈prea/\0<=y/\y<n)\/(x=a/\y∈pre))) (rng ..) ⟨cur,_,rfl,ph.weak fun x y=>by simp⟩ ?_ ?_
    ·rintro preb b postb ρ eb ⟨cur,s6,rfl,ph⟩
     refine ⟨_,rfl,?_⟩
     have hcl:∀ x y,(x,y)∈cur->Cl T x y:=fun x y z=>by
      rcases (ph.mem x y).mp z with z | ⟨_,z1,z2⟩
      ·exact wa.cl _ _ z
      ·exact (wa.cl _ _ z1).tr (wa.cl _ _ z2)
     have hput:=Ey (a,b) ph.nd (small cur ph.nd hcl)
     have ew:∀ x y:Int,((x∈prea/\0<=y/\y<n)\/(x=a/\y∈preb))\/(x=a/\y=b)↔(x∈prea/\0<=y/\y<n)\/(x=a/\y∈preb++[b]):=fun x y=>by
      rw [az,av,and_or_left,or_assoc]
     show Go (sIf _ _ _ [.pu (.int n),.pu X,.ow (dS cur),s3,.pu (.int c),.pu (.int a),.pu (.int b)]) _ _ _ _
     refine rH (b:=decide ((a,c)∈cur)&&decide ((c,b)∈cur)) ?_ (fun q=>?_) fun q=>?_
     ·cases h1:decide ((a,c)∈cur)<;>simp [h1]
     ·rw [aY,decide_eq_true_eq,decide_eq_true_eq] at q
      refine d9 (ρ':=[.pu (.int n),.pu X,.ow (dS (vH cur (a,b))),s3,.pu (.int c),.pu (.int a),.pu (.int b)]) ?_ ⟨_,_,rfl,(ph.yes q.1 q.2).weak ew⟩
      simp only [w6,xy,cq,im,dL,Iw,fj,fQ,br,bv,gU,if_true,cn,aG,cX]
      rw [if_pos (by decide)]
      dsimp only
      rw [show Da.tup [.int a,.int b]=dP (a,b) from rfl,hput]
      rfl
     ·rw [Bool.and_eq_false_iff,decide_eq_false_iff_not,decide_eq_false_iff_not] at q
      exact d9 rfl ⟨_,_,rfl,(ph.no fun z=>q.elim (fun h=>h z.1) fun h=>h z.2).weak ew⟩
    ·rintro ρ ⟨cur,s6,rfl,ph⟩
     refine ⟨_,_,_,rfl,ph.weak fun x y=>?_⟩
     rw [fq,az,av,or_and_right]
     have:(0<=y/\y<0+(n.toNat:Int))↔0<=y/\y<n:=by lia
     rw [this]
   ·rintro ρ ⟨cur,s5,s6,rfl,ph⟩
    refine ⟨_,_,_,_,rfl,?_⟩
    have wa2:Wa T n (c+1) cur:=by
     have wa':Wa T n c S:=by rw [hc,uZ];exact wa
     refine wa'.step rg (ph.weak fun x y=>?_)
     rw [fq]
     have:(0<=x/\x<0+(n.toNat:Int))↔0<=x/\x<n:=by lia
     rw [this]
    rw [aN,bx]
    have e2:((prec.length+1:Nat):Int)=c+1:=by lia
    rw [e2]
    exact wa2
  ·rintro ρ ⟨S,s4,s5,s6,rfl,wa⟩
   rw [e6] at wa
   have wa':Wa T n n S:=by
    have:((n.toNat:Nat):Int)=n:=by lia
    rw [this] at wa
    exact wa
   have hfin:=wa'.fin rg
   have hlt:=hl S wa'.nd hfin
   have es:(S.map kP).map (fun k=>Da.tup (k.map ji))=S.map dP:=by rw [aC];rfl
   have hso:eX [(.bo,dS S)]=some (.fr,.lst ((Ms.srt Ms.ltP S).map dP)):=by
    show (match lZ ((S.map kP).map fun k=>Da.tup (k.map ji)) with | some es=>some (Kd.fr,Da.lst es) | none=>none)=_
    rw [es,nH (.inr ⟨hlt,wa'.nd⟩)]
   refine oe (d:=.lst ((Ms.srt Ms.ltP S).map dP)) (by simp [hso]) ⟨_,rfl,Ms.srt_strict Ms.linP wa'.nd,fun a b=>?_⟩
   rw [(Ms.srt_perm S).mem_iff]
   exact hfin a b
 obtain ⟨d,e,L,rfl,h⟩:=key
 exact ⟨L,e,h⟩
end G
set_option linter.unusedSimpArgs false
namespace G
open PySem L2 Ry
theorem qT {α:Type}:∀ {l:List α} {i:Nat} (d:α),i<l.length->(l.getD i d::l.eraseIdx i).Perm l
 | a::l,0,d,_=>.refl _
 | a::l,i+1,d,h=>by
   have ih:=qT (l:=l) (i:=i) d (by simpa using h)
   rw [List.getD_cons_succ,List.eraseIdx_cons_succ]
   exact (List.Perm.swap ..).trans (ih.cons a)
theorem t7 (c m:Int):∀ (f:Nat) (k:Int) (left:List Int),left.length=f->m-k=f->(BZ c m f k left).Perm left
 | 0,k,left,h,_=>by
   have:left=[]:=iH h
   subst this;exact .refl _
 | f+1,k,left,h,hm=>by
   unfold BZ
   have hi:((c+5*k)*48271%9967%(m-k)).toNat<left.length:=by
    have h1:=p4 ((c+5*k)*48271%9967) (show m-k≠0 by lia)
    have h2:=mV ((c+5*k)*48271%9967) (show 0<m-k by lia)
    lia
   refine ((t7 c m f (k+1) _ ?_ (by lia)).cons _).trans (qT 0 hi)
   rw [gs hi];lia
theorem FT (c m:Int) (h0:0<=m) (h1:m<=1000):∃ P:List Int,fn__law_perm [.int c,.int m]=some (.lst (P.map Da.int))/\P.Perm (rgI 0 m.toNat):=by
 refine ⟨BZ c m m.toNat 0 (rgI 0 m.toNat),?_,t7 c m m.toNat 0 _ (e6 ..) (by lia)⟩
 show (if 0<=m/\m<=1000 then _ else none)=_
 rw [if_pos ⟨h0,h1⟩]
theorem fz (n:Nat) (lo:Int):(rgI lo n).Nodup:=(jp n lo).imp fun {a b} z w=>by subst w;rw [Ms.linI.irr] at z;cases z
theorem AN {α:Type} {l:List α} {f:α->Da} {i:Nat} {a:α} (h:l[i]?=some a):(l.map f)[i]?=some (f a):=by rw [ay,h];rfl
theorem tw {l:List Int} (nd:l.Nodup) {i j:Nat} {a:Int} (h1:l[i]?=some a) (h2:l[j]?=some a):i=j:=by
 obtain ⟨l1,e1⟩:=aE.mp h1
 obtain ⟨l2,e2⟩:=aE.mp h2
 exact (iq nd).mp (e1.trans e2.symm)
def Up (P:List Int) (x y:Int):Prop:=∃ i j:Nat,i<j/\P[i]?=some x/\P[j]?=some y
theorem Up.tr {P:List Int} (nd:P.Nodup) {x y z:Int} (h:Up P x y) (h':Up P y z):Up P x z:=by
 obtain ⟨i,j,l,a,b⟩:=h
 obtain ⟨i',j',l',a',b'⟩:=h'
 have:=tw nd b a'
 exact ⟨i,j',by lia,a,b'⟩
theorem Up.irr {P:List Int} (nd:P.Nodup) {x:Int}:¬ Up P x x:=fun ⟨i,j,l,a,b⟩=>by
 have:=tw nd a b
 lia
theorem Cl.up {P:List Int} (nd:P.Nodup) {T:List PI} (h:∀ a b,(a,b)∈T->Up P a b) {a b:Int} (c:Cl T a b):Up P a b:=by
 induction c with
 | of m=>exact h _ _ m
 | tr _ _ i1 i2=>exact i1.tr nd i2
theorem Id (c p m:Int) (hm:0<m):0<=c*48271%p%m/\c*48271%p%m<m:=⟨p4 _ (by lia),mV _ hm⟩
theorem D0 {n:Int} {U:List PI} (nd:U.Nodup) (rg:∀ p∈U,(0<=p.1/\p.1<n)/\0<=p.2/\p.2<n) (anti:∀ a b,(a,b)∈U->(b,a)∈U->False):2*U.length<=n.toNat*n.toNat:=by
 have h:=Bf (n:=n) (S:=U++U.map fun p=>(p.2,p.1)) (bp.mpr ⟨nd,bB.mpr (nd.imp fun {a b} ne e=>ne (by
  have e1:=congrArg wf e
  have e2:=congrArg wg e
  exact jT e2 e1)),fun p hp q hq e=>by
   obtain ⟨r,hr,rfl⟩:=aK.mp hq
   subst e
   exact anti _ _ hp hr⟩) fun p hp=>by
  rcases az.mp hp with z | z
  ·exact rg p z
  ·obtain ⟨r,hr,rfl⟩:=aK.mp z
   exact ⟨(rg r hr).2,(rg r hr).1⟩
 rw [aN,ab] at h
 lia
theorem FM (S:List Int) (k most:Int) (hk:0<=k) (h1:1<=most) (h2:most<=11) :
 ∃ (n:Int) (L:List PI),fn__law_yard [.lst (S.map Da.int),.int k,.int most]=some (dY n L)/\1<=n/\n<=most/\Yd n L:=by
 obtain ⟨c0,hc0⟩:∃ c,fn__law_cell [.lst (S.map Da.int),.int k]=some (.int c):=⟨_,vL S k hk⟩
 obtain ⟨c1,hc1⟩:∃ c,fn__law_cell [.lst (S.map Da.int),.int (k+1)]=some (.int c):=⟨_,vL S (k+1) (by lia)⟩
 obtain ⟨c2,hc2⟩:∃ c,fn__law_cell [.lst (S.map Da.int),.int (k+2)]=some (.int c):=⟨_,vL S (k+2) (by lia)⟩
 generalize hn:1+c0*48271%9973%most=n
 have hm0:=wG (c0) 9973 most (by decide) (by lia)
 have hm1:=wG (c0) 9949 6 (by decide) (by decide)
 have hr:=Id (c0) 9973 most (by lia)
 obtain ⟨P,hP,pP⟩:=FT (c1) n (by lia) (by lia)
 have ndP:P.Nodup:=pP.nodup_iff.mpr (fz ..)
 have lenP:P.length=n.toNat:=by rw [pP.length_eq,e6]
 have memP:∀ x,x∈P↔0<=x/\x<n:=fun x=>by rw [pP.mem_iff,fq];lia
 generalize hsh:1+c0*48271%9949%6=sh
 have key:∃ d,jl 9 g__law_yard [.lst (S.map Da.int),.int k,.int most]=some d/\∃ L,d=dY n L/\Yd n L:=by
  refine nT ?_
  unfold g__law_yard
  have e0:fm 9 [.lst (S.map Da.int),.int k,.int most]=[.pu (.lst (S.map Da.int)),.pu (.int k),.pu (.int most),.no,.no,.no,.no,.no,.no]:=rfl
  rw [e0]
  refine cS (d9 (ρ':=[.pu (.lst (S.map Da.int)),.pu (.int k),.pu (.int most),.pu (.int n),.no,.no,.no,.no,.no]) (by simp [hc0,hm0,<- hn]) ?_)
  refine cS (d9 (ρ':=[.pu (.lst (S.map Da.int)),.pu (.int k),.pu (.int most),.pu (.int n),.pu (.int sh),.no,.no,.no,.no]) (by simp [hc0,hm1,<- hsh]) ?_)
  refine cS (d9 (ρ':=[.pu (.lst (S.map Da.int)),.pu (.int k),.pu (.int most),.pu (.int n),.pu (.int sh),.pu (.lst (P.map Da.int)),.no,.no,.no]) (by simp [hc1,hP]) ?_)
  refine cS (d9 (ρ':=[.pu (.lst (S.map Da.int)),.pu (.int k),.pu (.int most),.pu (.int n),.pu (.int sh),.pu (.lst (P.map Da.int)),.ow (.lst (([]:List PI).map dP)),.no,.no]) (by simp) ?_)
  refine cS ?_
  have rng:∀ (T:Da) (s7 s8:Sl),mn (aJ (aW 3) cc) [.pu (.lst (S.map Da.int)),.pu (.int k),.pu (.int most),.pu (.int n),.pu (.int sh),.pu (.lst (P.map Da.int)),.ow T,s7,s8]=some ((rgI 0 n.toNat).map Da.int):=fun T s7 s8=>by
   simp only [xc,cq,im,dL,br,bv]
   rw [if_pos (by lia),eQ]
  refine j8 (enc:=Da.int) (xs:=rgI 0 n.toNat) (fun pre ρ=>∃ (T:List PI) (s7 s8:Sl),ρ=[.pu (.lst (S.map Da.int)),.pu (.int k),.pu (.int most),.pu (.int n),.pu (.int sh),.pu (.lst (P.map Da.int)),.ow (.lst (T.map dP)),s7,s8]/\(∀ a b,(a,b)∈T->Up P a b)/\T.length<=pre.length*12) (rng ..) ⟨[],_,_,rfl,by simp,by simp⟩ ?_ ?_
  ·rintro pre a post ρ e ⟨T,s7,s8,rfl,hT,hl⟩
   have ha:=Dm e
   have hpa:=Fz (by lia) e
   have hpl:pre.length<12:=by lia
   refine ⟨_,rfl,?_⟩
   show Go (qw _ _ _ [.pu (.lst (S.map Da.int)),.pu (.int k),.pu (.int most),.pu (.int n),.pu (.int sh),.pu (.lst (P.map Da.int)),.ow (.lst (T.map dP)),.pu (.int a),s8]) _ _ _ _
   have rng2':∀ (T:Da) (s8:Sl),HD (aJ (x2 nL (aW 7) (xC (.int 1))) (aJ (aW 3) cc)) [.pu (.lst (S.map Da.int)),.pu (.int k),.pu (.int most),.pu (.int n),.pu (.int sh),.pu (.lst (P.map Da.int)),.ow T,.pu (.int a),s8]=some ((rgI (a+1) (n-(a+1)).toNat).map Da.int):=fun T s8=>by
    simp only [JC,cq,im,dL,sO,Iw,EM,br,bv]
    rw [if_pos (by lia),eQ]
   refine j8 (enc:=Da.int) (xs:=rgI (a+1) (n-(a+1)).toNat) (fun pre2 ρ=>∃ (T:List PI) (s8:Sl),ρ=[.pu (.lst (S.map Da.int)),.pu (.int k),.pu (.int most),.pu (.int n),.pu (.int sh),.pu (.lst (P.map Da.int)),.ow (.lst (T.map dP)),.pu (.int a),s8]/\(∀ a b,(a,b)∈T->Up P a b)/\T.length<=pre.length*12+pre2.length) (rng2' ..) ⟨T,_,rfl,hT,by simpa using hl⟩ ?_ ?_
   ·rintro pre2 b post2 ρ e2 ⟨T,s8,rfl,hT,hl⟩
    have hb:=Dm e2
    have hpb:a<b/\b<n:=by
     have:b∈rgI (a+1) (n-(a+1)).toNat:=by rw [e2];simp
     have:=fq.mp this
     lia
    have hl2:pre2.length<=12:=by lia
    refine ⟨_,rfl,?_⟩
    have hm2:=wG (c2+131*a+17*b) 9941 10 (by decide) (by decide)
    show Go (sIf _ _ _ [.pu (.lst (S.map Da.int)),.pu (.int k),.pu (.int most),.pu (.int n),.pu (.int sh),.pu (.lst (P.map Da.int)),.ow (.lst (T.map dP)),.pu (.int a),.pu (.int b)]) _ _ _ _
    have cm1:tN 131 a=true:=by simp [tN]
    have cm2:tN 17 b=true:=by simp [tN]
    refine rH (b:=decide ((c2+131*a+17*b)*48271%9941%10<sh)) (by simp [hc2,hm2,cm1,cm2]) (fun _=>?_) fun _=>?_
    ·obtain ⟨x,hx⟩:∃ x,P[a.toNat]?=some x:=⟨P[a.toNat]'(by lia),aj _⟩
     obtain ⟨y,hy⟩:∃ y,P[b.toNat]?=some y:=⟨P[b.toNat]'(by lia),aj _⟩
     have hix:=IF (a:=.pu) (b:=.pu) (show (0:Int)<=a by lia) (AN (f:=Da.int) hx)
     have hiy:=IF (a:=.pu) (b:=.pu) (show (0:Int)<=b by lia) (AN (f:=Da.int) hy)
     refine d9 (ρ':=[.pu (.lst (S.map Da.int)),.pu (.int k),.pu (.int most),.pu (.int n),.pu (.int sh),.pu (.lst (P.map Da.int)),.ow (.lst ((T++[(x,y)]).map dP)),.pu (.int a),.pu (.int b)]) ?_ ⟨_,_,rfl,fun u v huv=>?_,?_⟩
     ·simp only [pA,xy,cq,im,dL,sO,fj,fQ,br,bv,hix,hiy,gU,if_true,cn,aG,cX,ab,bD]
      rw [if_pos (by decide)]
      dsimp only
      rw [if_pos ⟨rfl,by rw [ab];lia⟩]
      rfl
     ·rcases az.mp huv with z | z
      ·exact hT u v z
      ·rw [av] at z;cases z;exact ⟨a.toNat,b.toNat,by lia,hx,hy⟩
     ·rw [aN,aN,bx,bx];lia
    ·exact d9 rfl ⟨_,_,rfl,hT,by rw [aN];lia⟩
   ·rintro ρ ⟨T,s8,rfl,hT,hl⟩
    rw [e6] at hl
    exact ⟨_,_,_,rfl,hT,by rw [aN,bx];lia⟩
  ·rintro ρ ⟨T,s7,s8,rfl,hT,hl⟩
   have rg:∀ p∈T,(0<=p.1/\p.1<n)/\0<=p.2/\p.2<n:=fun p hp=>by
    obtain ⟨i,j,_,a,b⟩:=hT p.1 p.2 hp
    exact ⟨(memP _).mp (bI a),(memP _).mp (bI b)⟩
   obtain ⟨L,hL,sL,mL⟩:=JB (X:=.lst (T.map dP)) (show 0<=n by lia) (by lia) (.inl rfl) rg fun U nd mU=>by
    have:=D0 (n:=n) nd (fun p hp=>((mU p.1 p.2).mp hp).rg rg) fun a b h1 h2=>((((mU a b).mp h1).tr ((mU b a).mp h2)).up ndP hT).irr ndP
    have h7:n.toNat<=11:=by lia
    have:=bL this (rh h7 h7)
    lia
   refine oe (d:=dY n L) (by simp [frz,hL,dY]) ⟨L,rfl,sL,fun p hp=>((mL p.1 p.2).mp hp).rg rg,fun a ha=>?_,fun a b c h1 h2=>?_⟩
   ·exact (((mL a a).mp ha).up ndP hT).irr ndP
   ·exact (mL a c).mpr (((mL a b).mp h1).tr ((mL b c).mp h2))
 obtain ⟨d,e,L,rfl,h⟩:=key
 exact ⟨n,L,e,by lia,by lia,h⟩
end G
namespace Ry
open PySem PySem.Spec PyProof.Rows L2 G
theorem Bc:∀ {n:Nat} {lo:Int} {i:Nat},i<n->(rgI lo n)[i]?=some (lo+i)
 | n+1,lo,0,_=>by show some lo=_;simp
 | n+1,lo,i+1,h=>by
   show (rgI (lo+1) n)[i]?=_
   rw [Bc (by lia)]
   congr 1
   lia
theorem uA {α β:Type} (f:α->β):∀ (l:List α) (i:Nat),(l.eraseIdx i).map f=(l.map f).eraseIdx i
 | [],_=>rfl
 | a::l,0=>rfl
 | a::l,i+1=>by
   show f a::(l.eraseIdx i).map f=f a::(l.map f).eraseIdx i
   rw [uA f l i]
theorem AO {K:ac} {Gp H:Hp} {ds:List Da} {d:Da} {vs:List V} {Q:VK} {y0 y1 y2:bH} (hl:ds.length=2) (sg:cQ Gp H) (tg:Tbs K Gp) (dl:cO K Gp ds vs) (ef:G.fn__law_perm ds=some d) (k:∀ v G' H',Ext Gp H G' H'->Den K G' d v->Q v H') :
 pB (EH (tX K (kU (aJ (aW 1) cc))) (kC 2))
  (HA (yq (mpS [none,none,none,some 0,some 2,some 1]) (iX K (mn (aJ (aW 1) cc))) (kC 1) (fun _ H Q=>Q true H)
    (tBM K "list" Au (kh 4) (oF (tX K (cJ G.fn__law_mix (aJ (x2 nL (aW 3) (x2 (oI tN (·*·)) (xC (.int 5)) (aW 1))) (aJ (xC (.int 9967)) (aJ (x2 (oI (fun _ _=>true) (·-·)) (aW 5) (aW 1)) cc))))) IR)))) { nx:=fun _ H'=>Q V.non H',rt:=Q } (L2.start [y0,y1,y2] vs) H:=by
 have hs:aL=16777216:=bE
 match ds,hl with
 | [d0,d1],_ =>
   have ⟨c,m,e0,e1⟩:∃ c m,d0=.int c/\d1=.int m:=by
    cases d0<;>cases d1<;>first | exact ⟨_,_,rfl,rfl⟩ | cases ef
   subst e0 e1
   have ef:(if 0<=m/\m<=1000 then some (Da.lst ((BZ c m m.toNat 0 (rgI 0 m.toNat)).map Da.int)) else none)=some d:=ef
   split at ef
   case isFalse=>cases ef
   case isTrue hm =>
   cases ef
   obtain ⟨v0,r,ev,h0,v1,r1,ev1,h1,er⟩:=dl
   cases (show v0=_ from h0)
   cases (show v1=_ from h1)
   cases (show r1=[] from er)
   subst ev1
   subst ev
   show pB _ _ _ [some (.int c),some (.int m),none] H
   have st0:∀ {B Gx Hx:Hp} {s2:Option V},Tbs K Gx->iC K B Gx Hx [some (.int c),some (.int m),s2] [.pu (.int c),.pu (.int m),.no]:=fun {B Gx Hx s2} tg=>by
    refine ⟨rfl,fun i d e=>?_,fun i d e=>?_,fun i j d d' l _ e=>?_,tg⟩
    ·match i,e with
     | 0,e=>cases e;exact ⟨_,rfl,rfl⟩
     | 1,e=>cases e;exact ⟨_,rfl,rfl⟩
     | 2,e=>cases e
    ·match i,e with
     | 0,e=>cases e
     | 1,e=>cases e
     | 2,e=>cases e
    ·match i,e with
     | 0,e=>cases e
     | 1,e=>cases e
     | 2,e=>cases e
   refine ⟨H,Gp,_,(.fr,.lst (fg 0 m.toNat)),sg,cQ.refl _,st0 tg,?_,fun v G1 H1 E1 r1=>?_⟩
   ·show (if -(2 ^ 62)<=m/\m<=1000000 then _ else none)=_
    rw [if_pos (by lia)]
   obtain ⟨l,o,rfl,hl0,gl0,hl1,xs,rfl,dxs⟩:=r1
   rw [eQ] at dxs
   have exs:=cO.ints.mp dxs
   subst exs
   refine ⟨H,G1,_,fg 0 m.toNat,E1.gh,E1.hh,st0 (tg.mono E1.gg),?_,fun J G2 H2 E2 it p hp=>?_⟩
   ·show (if -(2 ^ 62)<=m/\m<2 ^ 62 then _ else none)=_
    rw [if_pos (by lia)]
   have E02:=E1.trans E2
   have hl2:=E2.hh _ _ hl1
   have gl2:G2 l=none:=E2.nw _ _ hl1 rfl gl0
   have hp0:H p=none:=E02.hh.free hp
   have gp2:G2 p=none:=E02.gh.free hp
   have hlp:l≠p:=fun z=>by rw [z,hp] at hl2;cases hl2
   refine ⟨fun i n σ ys H'=>n=m.toNat-i/\i<=m.toNat/\∃ Gc s1 left don,σ=[none,s1,none,some (.int c),some (.ref l),some (.int m)]/\Ext Gp H Gc H'/\cQ G2 Gc/\Gc l=none/\Gc p=none/\H' l=some (.lst (left.map V.int))/\H' p=some (.lst ys)/\ys=don.map V.int/\left.length=m.toNat-i/\don.length=i/\don++BZ c m (m.toNat-i) i left=BZ c m m.toNat 0 (rgI 0 m.toNat),
    ⟨m.toNat,by simp,bW _,G2,_,rgI 0 m.toNat,[],rfl,E02.trans (Ext.own E02.gh hp),cQ.refl _,gl2,gp2,by rw [bq hlp];exact hl2,aV,rfl,by rw [e6];lia,rfl,by simp⟩,?_⟩
   rintro i n σ ys H' ⟨rfl,hi,Gc,s1,left,don,rfl,Ec,sc,gl,gp,hl',hp',rfl,lleft,ldon,epop⟩
   refine ⟨hp',by rw [ab];lia,?_⟩
   have lenM:(fg 0 m.toNat).length=m.toNat:=by rw [eQ,ab,e6]
   by_cases hlt:i<m.toNat
   ·obtain ⟨hgo,hy⟩:=(it i Gc H' sc Ec.gh).1 (Da.int (i:Int)) (by rw [eQ,ay,Bc hlt];simp)
    refine .inr ⟨hgo,fun x H3 yl=>?_⟩
    obtain ⟨G3,E3,dx⟩:=hy x H3 yl
    cases (show x=_ from dx)
    have Ec3:=Ec.trans E3
    have iteX:∀ {A B:Prop},A->(if true=true then A else B):=fun {A B} h=>by rw [if_pos rfl];exact h
    unfold kC
    dsimp only
    refine iteX ?_
    have st3:iC K H G3 H3 [none,some (.int (i:Int)),none,some (.int c),some (.ref l),some (.int m)] [.no,.pu (.int i),.no,.pu (.int c),.no,.pu (.int m)]:=by
     refine ⟨rfl,fun j d e=>?_,fun j d e=>?_,fun j j' d d' l _ e=>?_,tg.mono Ec3.gg⟩
     ·match j,e with
      | 0,e=>cases e
      | 1,e=>cases e;exact ⟨_,rfl,rfl⟩
      | 2,e=>cases e
      | 3,e=>cases e;exact ⟨_,rfl,rfl⟩
      | 4,e=>cases e
      | 5,e=>cases e;exact ⟨_,rfl,rfl⟩
     ·match j,e with
      | 0,e=>cases e
      | 1,e=>cases e
      | 2,e=>cases e
      | 3,e=>cases e
      | 4,e=>cases e
      | 5,e=>cases e
     ·match j,e with
      | 0,e=>cases e
      | 1,e=>cases e
      | 2,e=>cases e
      | 3,e=>cases e
      | 4,e=>cases e
      | 5,e=>cases e
    have hl3:=E3.hh _ _ hl'
    refine ⟨_,rfl,.inl ⟨rfl,_,SqL.of hl3⟩,H,G3,_,(.pu,.int ((c+5*(i:Int))*48271%9967%(m-i))),Ec3.gh,Ec3.hh,st3,?_,fun v G4 H4 E4 r4=>?_⟩
    ·have hmix:=wG (c+5*(i:Int)) 9967 (m-i) (by decide) (by lia)
     have hcm:tN 5 (i:Int)=true:=by simp [tN]
     simp [hmix,hcm]
    ·cases (show v=_ from r4)
     generalize hidx:(c+5*(i:Int))*48271%9967%(m-i)=idx
     have hmp:0<m-(i:Int):=by lia
     have hi0:0<=idx:=by rw [<- hidx];exact p4 _ (by lia)
     have hi1:idx<m-i:=by rw [<- hidx];exact mV _ hmp
     have hlt2:idx.toNat<left.length:=by lia
     have hl4:=E4.hh _ _ hl3
     have hp4:=E4.hh _ _ (E3.hh _ _ hp')
     refine ⟨l,left.map V.int,idx,idx.toNat,.int (left.getD idx.toNat 0),rfl,rfl,hl4,by lia,by lia,?_,?_,?_⟩
     ·rw [ab]
      exact (zD (by unfold ixN;rw [if_pos hi0,if_pos (by lia)])).1
     ·rw [ay,ij hlt2 0];rfl
     ·have E34:=E3.trans E4
      have gl4:G4 l=none:=E34.nw _ _ hl' rfl gl
      have gp4:G4 p=none:=E34.nw _ _ hp' rfl gp
      have Ec4:=Ec.trans E34
      refine ⟨by rw [bq hlp.symm];exact hp4,m.toNat-(i+1),by lia,rfl,hlt,G4,_,left.eraseIdx idx.toNat,don++[left.getD idx.toNat 0],rfl,(Ec4.mut hl0 gl4).mut hp0 gp4,sc.trans E34.gg,gl4,gp4,?_,aV,by rw [bD];rfl,?_,by rw [aN,bx,ldon],?_⟩
      ·rw [bq hlp,aV,uA]
      ·rw [gs hlt2];lia
      ·rw [<- epop]
       have ef:m.toNat-i=(m.toNat-(i+1))+1:=by lia
       rw [ef]
       show _=don++(left.getD ((c+5*(i:Int))*48271%9967%(m-(i:Int))).toNat 0::BZ c m (m.toNat-(i+1)) ((i:Int)+1) (left.eraseIdx ((c+5*(i:Int))*48271%9967%(m-(i:Int))).toNat))
       rw [hidx,dX]
       rfl
   ·have ei:i=m.toNat:=by lia
    subst ei
    refine .inl ⟨(it m.toNat Gc H' sc Ec.gh).2 lenM,?_⟩
    rw [n8] at epop
    have epop':don=BZ c m m.toNat 0 (rgI 0 m.toNat):=by rw [<- epop];exact (eV _).symm
    refine k _ (upd Gc p (.lst (don.map V.int))) H' ⟨Ec.hh,Ec.gg.trans (cw gp),fun b u z=>?_,fun b u z t w=>?_⟩ ⟨p,_,rfl,SqL.of aV,by rw [<- epop'];exact cO.ints.mpr rfl⟩
    ·by_cases hb:b=p
     ·subst hb;rw [aV] at z;rw [<- z];exact hp'
     ·rw [bq hb] at z;exact Ec.gh b u z
    ·rw [bq (b7 z hp0)];exact Ec.nw b u z t w
end Ry
set_option linter.unusedSimpArgs false
namespace Ry
open PySem L2
def dt:UD->Int->List Int
 | [],_=>[]
 | (x,l)::D,a=>if x=a then l else dt D a
theorem DZ {l:List Int} {b x:Int}:x∈sP l b↔x∈l\/x=b:=by
 unfold sP
 split
 ·constructor
  ·exact .inl
  ·rintro (h | h)
   ·exact h
   ·subst h;assumption
 ·rw [az,av]
theorem rN:∀ (D:UD) (a b x:Int),dt (jF D a b) x=if a=x then sP (dt D a) b else dt D x
 | [],a,b,x=>by
   show (if a=x then [b] else [])=_
   split<;>rfl
 | (y,l)::D,a,b,x=>by
   by_cases h:y=a
   ·subst h
    show dt (if y=y then (y,sP l b)::D else _) x=_
    rw [if_pos rfl]
    show (if y=x then sP l b else dt D x)=if y=x then sP (if y=y then l else _) b else if y=x then l else dt D x
    rw [if_pos rfl]
    split<;>rfl
   ·show dt (if y=a then _ else (y,l)::jF D a b) x=_
    rw [if_neg h]
    show (if y=x then l else dt (jF D a b) x)=if a=x then sP (if y=a then l else dt D a) b else if y=x then l else dt D x
    rw [if_neg h,rN D a b x]
    by_cases h2:a=x
    ·subst h2;rw [if_neg h,if_pos rfl,if_pos rfl]
    ·rw [if_neg h2,if_neg h2]
theorem rG:∀ (D:UD) (a b x:Int),x∈(jF D a b).map (·.1)↔x∈D.map (·.1)\/x=a
 | [],a,b,x=>by simp [jF]
 | (y,l)::D,a,b,x=>by
   unfold jF
   split
   ·rename_i h
    subst h
    simp only [aw,am]
    constructor
    ·exact .inl
    ·rintro (z | z)
     ·exact z
     ·exact .inl z
   ·rw [aw,am,aw,am,rG D a b x,or_assoc]
theorem uz:∀ (D:UD) (a b:Int),(D.map (·.1)).Nodup->((jF D a b).map (·.1)).Nodup
 | [],a,b,_=>by simp [jF]
 | (y,l)::D,a,b,h=>by
   unfold jF
   split
   ·exact h
   ·rename_i hne
    rw [aw,bf] at h ⊢
    refine ⟨fun z=>?_,uz D a b h.2⟩
    rcases (rG D a b y).mp z with z | z
    ·exact h.1 z
    ·exact hne z
structure Kq (T:List PI) (D:UD):Prop where
 get:∀ a b,b∈dt D a↔(a,b)∈T
 key:∀ a,a∈D.map (·.1)↔∃ b,(a,b)∈T
 nd:(D.map (·.1)).Nodup
 ndv:∀ a,(dt D a).Nodup
theorem yv {l:List Int} {b:Int} (h:l.Nodup):(sP l b).Nodup:=by
 unfold sP
 split
 ·exact h
 ·rename_i hn
  exact bp.mpr ⟨h,aS _ _,fun a ha c hc=>by rw [av] at hc;subst hc;intro z;subst z;exact hn ha⟩
theorem wo:∀ (T T0:List PI) (D:UD),Kq T0 D->Kq (T0++T) (T.foldl (fun D p=>jF D p.1 p.2) D)
 | [],T0,D,h=>by rw [eV];exact h
 | p::T,T0,D,h=>by
   have:=wo T (T0++[p]) (jF D p.1 p.2) ⟨fun a b=>?_,fun a=>?_,uz _ _ _ h.nd,fun a=>?_⟩
   ·rw [dX] at this;exact this
   ·rw [rN]
    by_cases e:p.1=a
    ·subst e
     rw [if_pos rfl,DZ,h.get,az,av]
     constructor
     ·rintro (z | z)
      ·exact .inl z
      ·subst z;exact .inr rfl
     ·rintro (z | z)
      ·exact .inl z
      ·right;rw [<- z]
    ·rw [if_neg e,h.get,az,av]
     constructor
     ·exact .inl
     ·rintro (z | z)
      ·exact z
      ·exact absurd (by rw [<- z]) e
   ·rw [rG,h.key]
    constructor
    ·rintro (⟨b,z⟩ | z)
     ·exact ⟨b,bw _ z⟩
     ·subst z;exact ⟨p.2,by simp⟩
    ·rintro ⟨b,z⟩
     rcases az.mp z with z | z
     ·exact .inl ⟨b,z⟩
     ·rw [av] at z;right;rw [<- z]
   ·rw [rN]
    split
    ·exact yv (h.ndv _)
    ·exact h.ndv a
theorem j3 (T:List PI):Kq T (upp T):=by
 exact wo T [] [] ⟨by simp [dt],by simp,.nil,fun a=>.nil⟩
theorem lW:∀ T:List PI,dG (T.map dP)=some T
 | []=>rfl
 | p::T=>by show (dG (T.map dP)).map ((p.1,p.2)::·)=_;rw [lW T];rfl
theorem DI {T:List PI} (h:T.length<=1000):fn_uppers_of [.tup (T.map dP)]=some (dU (upp T)):=by
 unfold fn_uppers_of;dsimp only;rw [lW];dsimp only;rw [if_pos h]
theorem CB {T:List PI} (h:T.length<=1000):fn_uppers_of [.lst (T.map dP)]=some (dU (upp T)):=by
 unfold fn_uppers_of;dsimp only;rw [lW];dsimp only;rw [if_pos h]
theorem Ka:∀ (D:UD) (a:Int),atK (D.map fun e=>(aq e.1:Key)) (D.map fun e=>dD e.2) (aq a)=if a∈D.map (·.1) then some (dD (dt D a)) else none
 | [],a=>by simp [atK]
 | (y,l)::D,a=>by
   show (if (aq y:Key)=aq a then some (dD l) else atK (D.map fun e=>(aq e.1:Key)) (D.map fun e=>dD e.2) (aq a))=_
   by_cases h:y=a
   ·subst h
    rw [if_pos rfl,if_pos (by simp)]
    simp [dt]
   ·rw [if_neg (fun z=>h (cZ z)),Ka D a]
    have e1:(a∈((y,l)::D).map (·.1))↔a∈D.map (·.1):=by
     rw [aw,am]
     constructor
     ·rintro (z | z)
      ·exact absurd z.symm h
      ·exact z
     ·exact .inr
    have e2:dt ((y,l)::D) a=dt D a:=by show (if y=a then l else dt D a)=_;rw [if_neg h]
    rw [e2]
    by_cases h3:a∈D.map (·.1)
    ·rw [if_pos h3,if_pos (e1.mpr h3)]
    ·rw [if_neg h3,if_neg (fun z=>h3 (e1.mp z))]
theorem vS (D:UD) (a:Int):ml (dU D) (.int a)=some (if a∈D.map (·.1) then some (dD (dt D a)) else none):=by
 show some (atK _ _ (aq a))=_
 rw [Ka]
theorem mx:∀ {D:UD} {a:Int},a∉D.map (·.1)->dt D a=[]
 | [],_,_=>rfl
 | (y,l)::D,a,h=>by
   rw [aw,am] at h
   unfold dt
   rw [if_neg (fun z=>h (.inl z.symm)),mx fun z=>h (.inr z)]
theorem xw (D:UD) (a:Int) (f g:Rho->Option Rv) (ρ:Rho) {k k':Kd} (hf:f ρ=some (k,dU D)) (hg:g ρ=some (k',.int a)) :
 iG (ju f g (xC2 (.fr,.dK [] []))) ρ=some (.pu,dD (dt D a)):=by
 simp only [pg,oR,hf,hg,FC,vS]
 by_cases h:a∈D.map (·.1)
 ·rw [if_pos h]
 ·rw [if_neg h,mx h];rfl
theorem su {f:Rho->Option Rv} {ρ:Rho} {l:List Int} (h:f ρ=some (.pu,dD l)):cF f ρ=some (l.map Da.int):=by
 simp only [lc,h,dD,aC]
 rfl
theorem Jj:∀ (l:List Int) (a:Int),atK (l.map (aq:Int->Key)) (l.map fun _=>Da.bl true) (aq a)=if a∈l then some (.bl true) else none
 | [],a=>by simp [atK]
 | y::l,a=>by
   show (if (aq y:Key)=aq a then some (Da.bl true) else atK (l.map (aq:Int->Key)) (l.map fun _=>Da.bl true) (aq a))=_
   by_cases h:y=a
   ·subst h;rw [if_pos rfl,if_pos (by simp)]
   ·rw [if_neg (fun z=>h (cZ z)),Jj l a]
    by_cases h3:a∈l
    ·rw [if_pos h3,if_pos (ag _ h3)]
    ·rw [if_neg h3,if_neg (fun z=>(am.mp z).elim (fun w=>h w.symm) h3)]
theorem Gj (n:Bool) (a b:Kd) (l:List Int) (x:Int):oIn n (a,.int x) (b,dD l)=some (.pu,.bl (if n then !decide (x∈l) else decide (x∈l))):=by
 unfold oIn Ab
 dsimp only
 rw [show ml (dD l) (.int x)=some (if x∈l then some (.bl true) else none) from by show some (atK _ _ (aq x))=_;rw [Jj]]
 by_cases h:x∈l<;>simp [h]
end Ry
namespace Ry
open PySem PySem.Spec PyProof.Rows L2
open PySem.W (Looks)
section
variable {prog:bA} {w:cb} {A:bK} {E:ae->ai->Prop} {s:ai}
theorem zq {l b:ak} {items items2:Array ae} {ns ms:List Int} {Q:Bool->ai->Prop} (hl:jG s.heap l items) (hb:jG s.heap b items2) (hi:fN items.toList ns) (hj:fN items2.toList ms)
 (hu:A.units<cx) (h:Q (HT.lexLt ns ms) s):aM (be prog w) A (oneLt' true (.ref l) (.ref b)) Q E s:=by
 obtain ⟨⟨cls,dd,data,sl⟩,ho,hc,n,hd⟩:=id hl
 obtain ⟨⟨cls2,dd2,data2,sl2⟩,ho2,hc2,n2,hd2⟩:=id hb
 simp only at hc hd hc2 hd2
 subst hc hd hc2 hd2
 rw [oneLt'_eq]
 simp only [if_true]
 refine aa (wpAny_cRoomFor hu ?_)
 refine aa (wpAny_callSpecialIfBound?_slot (T:="tuple") ⟨_,ho,rfl⟩ ke (uU ke ⟨_,ho,rfl⟩ qZ (qk _ _) (HT.tuple_lt_ints l b items items2 n n2 dd dd2 sl sl2 ns ms hi hj) ⟨ho,ho2,?_⟩))
 exact eA h
end
def Aq (h:cr):List ae->List (Option ae)->Prop
 | [],[]=>True
 | v::vs,f::fs=>(∃ a o xs n,v=.ref a/\h.get? a=some o/\o.cls=.type "tuple"/\o.data=.seq xs n/\xs[0]?=f)/\Aq h vs fs
 | _,_=>False
section
variable {M:Model} {A:bK} {E:ae->ai->Prop} {s:ai}
theorem xb:∀ (vs:List ae) (fs:List (Option ae)) {Q:List (Option ae)->ai->Prop},Aq s.heap vs fs->Q fs s->aM M A (vs.mapM firstOfTuple') Q E s
 | [],[],_,_,h=>by rw [List.mapM_nil];exact al h
 | [],_::_,_,t,_=>t.elim
 | _::_,[],_,t,_=>t.elim
 | v::vs,f::fs,Q,t,h=>by
   obtain ⟨⟨a,o,xs,n,rfl,ho,hc,hd,hf⟩,t⟩:=t
   rw [List.mapM_cons]
   refine aa ?_
   rw [PySem.W.kas_first_eq]
   refine aa (Looks.here (show Looks M s.heap (typeOf (.ref a)) o.cls from (Looks.ld ho).andThen .now) ?_)
   rw [hc,if_neg (by first | decide | simp)]
   refine aa (jo ho hd (al ?_))
   rw [hf]
   exact aa (xb vs fs (Q:=fun bs s'=>aM M A (pure (f::bs)) Q E s') t (al h))
theorem qK:∀ {vs:List ae} {fs:List (Option ae)},Aq s.heap vs fs->∀ v∈vs,Looks M s.heap (typeOf v) (.type "tuple")
 | [],_,_,v,h=>by cases h
 | _::_,[],t,_,_=>t.elim
 | u::vs,f::fs,t,v,h=>by
   rcases am.mp h with rfl | h
   ·obtain ⟨⟨a,o,xs,n,rfl,ho,hc,hd,hf⟩,_⟩:=t
    rw [<- hc]
    exact (Looks.ld ho).andThen .now
   ·exact qK t.2 v h
def AM (fs:List (Option ae)):iz:=if (fs.toArray[0]?.bind id).isSome=true then general' else p0
theorem IW {vs:List ae} {fs:List (Option ae)} {Q:iz->ai->Prop} (t:Aq s.heap vs fs) (h0:vs≠[]) (hne:(fs.toArray.all fun x=>x.isSome)=false) (h:Q (AM fs) s):aM M A (B7 vs.toArray) Q E s:=by
 rw [kat_kind_eq,y8,map_eq_pure_bind]
 refine aa (aa (xb vs fs t (al ?_)))
 rw [if_neg (by rw [hne];exact aO)]
 unfold AM at h
 by_cases z:(fs.toArray[0]?.bind id).isSome=true
 ·rw [if_pos z] at h ⊢
  exact al h
 ·rw [if_neg z] at h ⊢
  rw [oneTypeOnly'_eq,y8,map_eq_pure_bind]
  refine aa (aa (aa (PySem.W.kas_mapM (r:=fV "tuple") _ (fun v hv Q' hq=>(qK t v hv).here hq) (al ?_))))
  obtain ⟨v,r,rfl⟩:∃ v r,vs=v::r:=by
   cases vs with
   | nil=>exact absurd rfl h0
   | cons v r=>exact ⟨v,r,rfl⟩
  have hall:((g6 (fun _=>fV "tuple") (v::r)).toArray.all fun x=>x == fV "tuple")=true:=by
   simp only [BR,nC,cB]
   intro _ _
   rfl
  have h0:(g6 (fun _=>fV "tuple") (v::r)).toArray[0]?=some (fV "tuple"):=by simp
  rw [h0]
  simp only [hall,if_true]
  exact al (al h)
end
end Ry
namespace Ry
open PySem PySem.Spec PyProof.Rows L2
def qJ (h:cr):ae->Option ae
 | .ref a=>match h.get? a with
   | some o=>match o.data with
     | .seq xs _=>xs[0]?
     | _=>none
   | none=>none
 | _=>none
theorem tM {h:cr} {a:ak} {o:dm} {xs:Array ae} {n:Nat} (ho:h.get? a=some o) (hd:o.data=.seq xs n):qJ h (.ref a)=xs[0]?:=by
 unfold qJ
 dsimp only
 rw [ho]
 dsimp only
 rw [hd]
theorem xl {h h':cr} (kp:∀ b o,h.get? b=some o->h'.get? b=some o):∀ (vs:List ae),(∀ v∈vs,∃ (a:ak) (its:List ae),v=.ref a/\jG h a its.toArray)->Aq h' vs (vs.map (qJ h))
 | [],_=>trivial
 | v::vs,hv=>by
   refine ⟨?_,xl kp vs fun u hu=>hv u (ag _ hu)⟩
   obtain ⟨a,its,rfl,o,ho,hc,n,hd⟩:=hv v ah
   refine ⟨a,o,_,n,rfl,kp _ _ ho,hc,hd,(tM ho hd).symm⟩
section
variable {X:Cx} {pins:List (ak×dm)} {σ:St} {H:Hp} {s:ai}
theorem pH {x:ae} {ts:List (List Int)} {ys:List V} {vs:List ae} {Q:VK} (hu:X.A.in1.in1.units<cx) (I:Inv X pins σ H s) (col:gP X.prog X.w X.A.in1 s x vs) (rv:eE ys vs) (hy:ys.length=ts.length)
 (hys:∀ i,i<ts.length->∃ a,ys[i]?=some (.ref a)/\SqT X.K H a ((ts.getD i []).map V.int)) (h64:OkN ts)
 (k:∀ p q,H p=none->Plc HT.lexLt [] ts q->Q (.ref p) (upd H p (.lst (q.map fun i=>ys.getD i .non)))):aM (be X.prog X.w) X.A (call (.builtin "sorted") [x]) (EP X pins σ Q) X.xe s:=by
 by_cases hall:∀ i,i<ts.length->ts.getD i []≠[]
 ·exact jh I col rv hy (fun i hi=>by obtain ⟨a,e1,e2⟩:=hys i hi;exact ⟨a,e1,e2,hall i hi⟩) h64 k
 have ⟨i0,hi0,he0⟩:∃ i,i<ts.length/\ts.getD i []=[]:=by
  by_cases z:∃ i,i<ts.length/\ts.getD i []=[]
  ·exact z
  ·exact absurd (fun i hi e=>z ⟨i,hi,e⟩) hall
 have hl:vs.length=ts.length:=by rw [<- rv.length,hy]
 have at':∀ i,i<vs.length->∃ (a:ak) (its:List ae),vs.getD i bC=.ref a/\eE ((ts.getD i []).map V.int) its/\jG s.heap a its.toArray:=fun i hi=>by
  obtain ⟨a,e,sq⟩:=hys i (by lia)
  obtain ⟨u,hu,ru⟩:=rv.get e
  cases (show u=bN a from ru)
  obtain ⟨its,r,it,_⟩:=I.tuple sq
  exact ⟨a,its,by rw [aB,hu];rfl,r,it⟩
 have all':∀ v∈vs,∃ (a:ak) (its:List ae),v=.ref a/\jG s.heap a its.toArray:=fun v hv=>by
  obtain ⟨i,hi,rfl⟩:=cf hv
  obtain ⟨a,its,e,_,it⟩:=at' i hi
  exact ⟨a,its,by rw [<- e];simp [hi],it⟩
 refine nq (O:=vF) (κ:=AM (vs.map (qJ s.heap))) (key:=fun i=>ts.getD i []) col (by rw [hl];exact h64.inj []) (fun h' tk kp h2 Q' q=>?_) (fun h' tk kp i j C hi hj c=>?_) fun p h1 h' tk c hp hu k1 kp e=>?_
 ·refine IW (xl kp vs all') (fun z=>by rw [z] at h2;simp at h2) ?_ q
  have hi':i0<vs.length:=by lia
  obtain ⟨a,its,ea,r,o,ho,hc,n,hd⟩:=at' i0 hi'
  rw [he0] at r
  cases r
  rw [BR,nC,List.all_eq_false]
  refine ⟨vs.getD i0 bC,by rw [aB,aj hi'];exact gy hi',?_⟩
  rw [ea]
  show ¬ (qJ s.heap (.ref a)).isSome=true
  rw [tM ho hd]
  simp
 ·show aM (be X.prog X.w) _ (keyLt' (AM (vs.map (qJ s.heap))) (vs.getD i bC) (vs.getD j bC)) C _ _
  obtain ⟨a,its,e1,r1,⟨o,ho,hc,n,hd⟩⟩:=at' i hi
  obtain ⟨a',its',e2,r2,⟨o',ho',hc',n',hd'⟩⟩:=at' j hj
  rw [e1,e2]
  have t1:jG h' a its.toArray:=⟨o,kp _ _ ho,hc,n,hd⟩
  have t2:jG h' a' its'.toArray:=⟨o',kp _ _ ho',hc',n',hd'⟩
  unfold AM
  split
  ·exact n5 _ _ (HT.lt_tupInts t1 t2 (eP r1) (eP r2) hu c)
  ·exact zq t1 t2 (eP r1) (eP r2) hu c
 ·rw [hl] at hp hu
  have pl:=lF (O:=vF) ([]:List Int) hp hu
  have hz:aL=16777216:=bE
  have h1p:p.toList.Perm (bG ts.length):=by simpa using cL.mp hp.perm
  have hpm:∀ i∈p.toList,i<ys.length:=fun i hi=>by rw [hy];simpa using h1p.mem_iff.mp hi
  have r2:=kG rv p.toList hpm
  have h127:ts.length<=63:=by rcases h64 with z | z<;>lia
  have hlen:(p.toList.map fun i=>ys.getD i .non).length<=aL:=by rw [ab,h1p.length_eq,dZ];lia
  have I1:Inv X pins σ H { s with heap:=h1,toks:=tk }:=I.kept (t':=tk) k1
  refine ⟨.ref h1.objs.size,_,I1.laid (t':=tk) kp (ax _) (show gO X.prog X.w _ h' _ (.lst _) from ⟨hlen,_,c,r2,e⟩),rfl,k _ p.toList (I1.hok.fresh (ax _)) ⟨h1p,?_⟩⟩
  exact pl.trans (vD vF ts)
end
def Af (K:ac):List V->Hp->VK->Prop:=fun xs H Q=>∃ (p:ak) (ts:List (List Int)) (ys:List V),xs=[.ref p]/\OkN ts/\ys.length=ts.length/\(SqL K H p ys\/SqT K H p ys)/\(∀ i,i<ts.length->∃ a,ys[i]?=some (.ref a)/\SqT K H a ((ts.getD i []).map V.int)) /\
 ∀ l q,H l=none->Plc HT.lexLt [] ts q->Q (.ref l) (upd H l (.lst (q.map fun i=>ys.getD i .non)))
theorem tK {X:Cx} (hr:jm 2 X.A):lq X (.builtin "sorted") (Af X.K):=by
 intro pins s σ H xs us Q I r h
 obtain ⟨p,ts,ys,rfl,h64,hy,src,hys,k⟩:=h
 obtain ⟨u,rfl,rx⟩:=lH r
 cases rx
 obtain ⟨vs,col,rv⟩:=sF (A:=X.A.in1) I src
 have hu:X.A.in1.in1.units<cx:=by have:=hr.un;show X.A.units+1+1<cx;lia
 exact pH hu I col rv hy hys h64 k
def B0 (ds:List Da):Option (List Da):=match o4 ds with
 | some ts=>if OkN ts then some ((Ms.srt HT.lexLt ts).map fun t=>.tup (t.map Da.int)) else none
 | none=>none
def fH:List Rv->Option Rv
 | [(_,.lst ds)]=>match B0 ds with | some es=>some (.fr,.lst es) | none=>none
 | [(_,.tup ds)]=>match B0 ds with | some es=>some (.fr,.lst es) | none=>none
 | _=>none
theorem vn {K:ac}:Cal K (Af K) fH:=by
 intro B H0 G H rs c xs Q sg ra e k
 have seq:∀ {p:ak} {ds:List Da} {ys:List V} {es:List Da},(SqL K H p ys\/SqT K H p ys)->cO K G ds ys->B0 ds=some es->c=(.fr,.lst es)->Af K [.ref p] H Q:=fun {p ds ys es} sq dl es' ec=>by
  unfold B0 at es'
  split at es'
  ·rename_i ts et
   split at es'
   ·rename_i h64
    cases es'
    have ed:=rS et
    have hlen:ys.length=ts.length:=by rw [dl.length,ed,ab]
    have itm:∀ i,i<ts.length->∃ a xs,ys[i]?=some (.ref a)/\G a=some (.tup xs)/\xs=(ts.getD i []).map V.int:=fun i hi=>by
     have:ds[i]?=some (.tup ((ts.getD i []).map Da.int)):=by rw [ed,ay,ij hi []];rfl
     obtain ⟨x,hx,a,xs,rfl,ga,da⟩:=dl.get this
     exact ⟨a,xs,hx,ga,cO.ints.mp da⟩
    refine ⟨p,ts,ys,rfl,h64,hlen,sq,fun i hi=>?_,fun l q hl hq=>?_⟩
    ·obtain ⟨a,xs,e1,e2,e3⟩:=itm i hi
     subst e3
     exact ⟨a,e1,SqT.of (sg _ _ e2)⟩
    ·refine k _ G _ (Ext.own sg hl) ?_
     rw [ec,vT hq]
     refine ⟨l,_,rfl,hl,sg.free hl,aV,_,rfl,lf (K:=K) (G:=G) q fun i hi=>?_⟩
     obtain ⟨a,xs,e1,e2,e3⟩:=itm i (Bt hq hi)
     subst e3
     have e4:ys.getD i .non=.ref a:=by rw [aB,e1];rfl
     show Den K G (.tup _) (ys.getD i .non)
     rw [e4]
     exact ⟨a,_,rfl,e2,cO.ints.mpr rfl⟩
   ·cases es'
  ·cases es'
 unfold fH at e
 split at e
 ·split at e
  ·rename_i es' he
   cases e
   obtain ⟨v,rfl,h⟩:=fJ.one ra
   obtain ⟨p,ys,rfl,q,d⟩:=h.lst sg
   exact seq (.inl q) d he rfl
  ·cases e
 ·split at e
  ·rename_i es' he
   cases e
   obtain ⟨v,rfl,h⟩:=fJ.one ra
   obtain ⟨p,ys,rfl,q,d,g⟩:=h.tup sg
   exact seq (.inr (SqT.of q)) d he rfl
  ·cases e
 ·cases e
section
variable {X:Cx} {e:aP} {es:List aP} {p pos:e7} {g:Rho->Option (List Rv)}
theorem yi (hr:jm 2 X.A) (hg:Gl X "sorted") (hm:X.mg "sorted" = none) (ha:PXA X (e::es) g) (he:ao (e::es) X.env=(false,b9 e X.env)::ao es X.env:=by exact bS rfl) (hpl:(cz pos (ao es X.env)).any (·.1)=false:=by rfl):PX X (.Call (.Name "sorted" p) (e::es) [] pos) (xB fH g) :=
 FY (tK hr) vn hg hm (by decide +kernel) ha (by decide) (by decide) he hpl
end
section
variable {X:Cx} {p pos:e7}
theorem m7 {e:aP} {es:List aP} {g:Rho->Option (List Rv)} (hr:jm 2 X.A) (hg:Gl X "sorted") (hm:X.mg "sorted" = none) (ha:QXA X (e::es) g) (he:ao (e::es) X.env=(false,b9 e X.env)::ao es X.env:=by exact bS rfl) (hpl:(cz pos (ao es X.env)).any (·.1)=false:=by rfl) :
 QX X (.Call (.Name "sorted" p) (e::es) [] pos) (xB fH g):=QX.mk (yi hr hg hm ha.out he hpl)
end
section
variable {P:bA} {w:cb} {K:ac} {mg:bH->Option ae} {base:cr} {x:bH} {st:cV} {N ps:List bH} {k n:Nat} {g:Rho->Res}
theorem qA (hf:ft K mg x st) (S:gQ N ps (bh st)) (hn:ps.length=n)
 (hbind:∀ (kV doc pm:ae) (an:Option ak) (cdv ct:ae) (us:List ae),us.length=ps.length->jJ (bc x x (cD st) (cg st) (bh st) .none kV doc pm an cdv ct) ⟨us,[]⟩=pure (ps.zip us))
 (h:∀ (f:ak) (cdv:ae) (A:bK) (outer:List pQ) (s:ai) (H:Hp) (E:XK),jm k (A.deeper (fA x (bh st) s.heap.objs.size f cdv))->(A.deeper (fA x (bh st) s.heap.objs.size f cdv)).units+64<cx->(A.deeper (fA x (bh st) s.heap.objs.size f cdv)).units+1<cx->N.Nodup->qx (wm CX0 P w K mg base N x (bh st) f cdv A outer s H E).nox (cg st) g) :
 Ca P w K mg base x ps (k+1) n (jl N.length g):=KL hf S hn hbind fun f cdv A outer s H E hr=>(h f cdv A outer s H E hr hr.units (rD hr) S.nd).out
theorem Js (hf:pz K mg x st) (hK:K.In base) (hB:Bm mg base) (S:gQ N ps (bh st)) (hn:ps.length=n)
 (hbind:∀ (kV doc pm:ae) (an:Option ak) (cdv ct:ae) (us:List ae),us.length=ps.length->jJ (bc x x (cD st) (cg st) (bh st) .none kV doc pm an cdv ct) ⟨us,[]⟩=pure (ps.zip us))
 (h:∀ (f c P1:ak) (A:bK) (outer:List pQ) (s:ai) (H:Hp) (E:XK),iO base c P1->(P1,x++".<locals>."++"<lambda>")∈ii K->jm k (A.deeper (fA x (bh st) s.heap.objs.size f (.ref c)))->(A.deeper (fA x (bh st) s.heap.objs.size f (.ref c))).units+64<cx->(A.deeper (fA x (bh st) s.heap.objs.size f (.ref c))).units+1<cx->N.Nodup->qx (wm CX0 P w K mg base N x (bh st) f (.ref c) A outer s H E).nox (cg st) g) :
 Ca P w K mg base x ps (k+1) n (jl N.length g):=IC hf hK hB S hn hbind fun f c P1 A outer s H E hCd hTb hr=>(h f c P1 A outer s H E hCd hTb hr hr.units (rD hr) S.nd).out
theorem KD {f:ak} {fd:dB} (F:Fun K x x st f fd) (S:gQ N ps (bh st)) (hn:ps.length=n)
 (h:∀ (cdv:ae) (A:bK) (outer:List pQ) (s:ai) (H:Hp) (E:XK),jm k (A.deeper (fA x (bh st) s.heap.objs.size f cdv))->(A.deeper (fA x (bh st) s.heap.objs.size f cdv)).units+64<cx->(A.deeper (fA x (bh st) s.heap.objs.size f cdv)).units+1<cx->N.Nodup->qx (wm CX0 P w K mg base N x (bh st) f cdv A outer s H E).nox (cg st) g) :
 vO P w K mg base CX0 (k+1) f fd ps (spD K n (jl N.length g)):=Eg F S hn fun cdv A outer s H E hr=>(h cdv A outer s H E hr hr.units (rD hr) S.nd).out
end
end Ry
namespace G
open PySem L2 Ry
noncomputable def yn:Rho->Res:=(fZ (Ls (v8 GN (aW 0)) (Lp (v8 Dk (aW 0)))))
noncomputable def hW:List Da->Option Da:=jl 1 yn
end G
set_option linter.unusedSimpArgs false
namespace Ry
open PySem L2
@[simp] theorem J8 (n:Bool) (a b:Kd) (i j:Int):oEq n (a,.int i) (b,.int j)=some (.pu,.bl (if n then !(i == j) else i == j)):=by
  unfold oEq
  rw [if_pos (by rfl)]
  rfl
theorem pC:∀ bs:List Bool,nM (bs.map Da.bl)=some bs
 | []=>rfl
 | b::bs=>by unfold nM;rw [aw];dsimp only;rw [pC bs];rfl
@[simp] theorem FA {α:Type} (k:Kd) (f:α->Bool) (xs:List α):GI [(k,.lst (xs.map fun x=>Da.bl (f x)))]=some (.pu,.bl (xs.all f)):=by
  have:xs.map (fun x=>Da.bl (f x))=(xs.map f).map Da.bl:=by rw [aC];rfl
  rw [this];unfold GI;dsimp only;rw [pC];dsimp only;rw [nC];rfl
@[simp] theorem Fx {α:Type} (k:Kd) (f:α->Bool) (xs:List α):Fh [(k,.lst (xs.map fun x=>Da.bl (f x)))]=some (.pu,.bl (xs.any f)):=by
  have:xs.map (fun x=>Da.bl (f x))=(xs.map f).map Da.bl:=by rw [aC];rfl
  rw [this];unfold Fh;dsimp only;rw [pC];dsimp only;rw [uP];rfl
theorem mf {n:Nat} {g:Rho->Res} {ds:List Da} {ρ:Rho} {d:Da} (e0:fm n ds=ρ) (h:g ρ=.rt d):jl n g ds=some d:=by unfold jl;rw [e0,h]
theorem eF {α:Type} (xs:List α):xs.filter (fun _=>true)=xs:=by simp
theorem eu {α:Type} {enc:α->Da} {ix:List (Option Nat)} {fi:Rho->Option (List Da)} {c:Rho->Option Bool} {f:Rho->Option Rv} {i:Nat} {ρ:Rho} {xs:List α} {p:α->Bool} {e:α->Da} (hi:fi ρ=some (xs.map enc)) (hl:xs.length<=1000000)
 (h:∀ x∈xs,c ((mpR ix ρ).set i (.pu (enc x)))=some (p x)/\(p x=true->∃ r,f ((mpR ix ρ).set i (.pu (enc x)))=some r/\e5 r=true/\r.2=e x)):fy ix fi (tgN i) c f ρ=some (.fr,.lst ((xs.filter p).map e)):=by
 unfold fy
 rw [hi]
 dsimp only
 rw [if_pos (by rw [ab];exact hl),AJ h]
theorem oH {α:Type} {enc:α->Da} {ix:List (Option Nat)} {fi:Rho->Option (List Da)} {c:Rho->Option Bool} {f:Rho->Option Rv} {i j:Nat} {ρ:Rho} {xs:List α} {p:α->Bool} {e a b:α->Da} (hi:fi ρ=some (xs.map enc)) (hl:xs.length<=1000000)
 (h:∀ x∈xs,c (((mpR ix ρ).set i (.pu (a x))).set j (.pu (b x)))=some (p x)/\(p x=true->∃ r,f (((mpR ix ρ).set i (.pu (a x))).set j (.pu (b x)))=some r/\e5 r=true/\r.2=e x)) (hij:i≠j) (henc:∀ x,enc x=.tup [a x,b x]):fy ix fi (tgT 2 (d4 (tgN i) (d4 (tgN j) jO))) c f ρ=some (.fr,.lst ((xs.filter p).map e)):=by
 unfold fy
 rw [hi]
 dsimp only
 rw [if_pos (by rw [ab];exact hl),Ci h hij henc]
end Ry
namespace G
open PySem L2 Ry
@[simp] theorem whole_int (i:Int):hW [.int i]=some (.bl true):=rfl
@[simp] theorem whole_bl (i:Bool):hW [.bl i]=some (.bl false):=rfl
@[simp] theorem whole_non:hW [.non]=some (.bl false):=rfl
@[simp] theorem whole_str (i:bH):hW [.str i]=some (.bl false):=rfl
@[simp] theorem whole_tup (i:List Da):hW [.tup i]=some (.bl false):=rfl
@[simp] theorem whole_lst (i:List Da):hW [.lst i]=some (.bl false):=rfl
end G
set_option linter.unusedSimpArgs false
set_option linter.unusedSimpArgs false
namespace Ry
open PySem L2
theorem JR (p q:PI):cA (toP (dP p)) (toP (dP q))=decide (p=q):=by
 show (cA (.int p.1) (.int q.1)&&(cA (.int p.2) (.int q.2)&&true))=_
 rw [cY]
 simp only [cA,Bool.and_true,aY,beq_iff_eq,decide_eq_true_eq]
 exact ⟨fun h=>jT h.1 h.2,fun h=>by subst h;exact ⟨rfl,rfl⟩⟩
theorem IE (p:PI):(toP (dP p)).canLay0=true:=rfl
theorem ES (p:PI):(toP (dP p)).depth<=60:=by
 simp [dP,toP,ir,d8,bT]
theorem sn:∀ T:List PI,cp (ir (T.map dP))=true
 | []=>rfl
 | p::T=>by
   show (cK (toP (dP p))&&cp (ir (T.map dP)))=true
   rw [IE,sn T];rfl
theorem Fv (p:PI):∀ T:List PI,inD (dP p) (T.map dP)=decide (p∈T)
 | []=>rfl
 | q::T=>by
   have ih:=Fv p T
   unfold inD at ih ⊢
   show (cA (toP (dP q)) (toP (dP p))||(ir (T.map dP)).any fun y=>cA y (toP (dP p)))=_
   rw [ih,JR,cY]
   simp only [iK,decide_eq_true_eq,am]
   exact ⟨fun h=>h.imp (fun z=>z.symm) id,fun h=>h.imp (fun z=>z.symm) id⟩
theorem D8 (p:PI) (T:List PI):Ao (dP p) (T.map dP)=true:=by
 unfold Ao
 rw [IE,sn]
 have:=ES p
 simp only [lU,lV,decide_eq_true_eq]
 lia
theorem Lf (n:Bool) (a b:Kd) (p:PI) (T:List PI):oIn n (a,dP p) (b,.tup (T.map dP))=some (.pu,.bl (if n then !decide (p∈T) else decide (p∈T))):=by
 unfold oIn Ab EX
 dsimp only
 rw [D8,if_pos rfl,Fv]
 rfl
theorem La (n:Bool) (a b:Kd) (p:PI) (T:List PI):oIn n (a,dP p) (b,.lst (T.map dP))=some (.pu,.bl (if n then !decide (p∈T) else decide (p∈T))):=by
 unfold oIn Ab EX
 dsimp only
 rw [D8,if_pos rfl,Fv]
 rfl
@[simp] theorem oIn_T2 (n:Bool) (a b:Kd) (x y:Int) (T:List PI):oIn n (a,.tup [.int x,.int y]) (b,.tup (T.map dP))=some (.pu,.bl (if n then !decide ((x,y)∈T) else decide ((x,y)∈T))):=Lf n a b (x,y) T
@[simp] theorem oIn_L2 (n:Bool) (a b:Kd) (x y:Int) (T:List PI):oIn n (a,.tup [.int x,.int y]) (b,.lst (T.map dP))=some (.pu,.bl (if n then !decide ((x,y)∈T) else decide ((x,y)∈T))):=La n a b (x,y) T
end Ry
namespace G
open PySem L2 Ry
theorem JH {n:Int} {L:List PI} (Y:Yd n L) (h7:n<=7):L.length<=49:=by
 have:=Bf Y.nd Y.rg
 have h:n.toNat<=7:=by lia
 exact bL this (rh h h)
end G
set_option linter.unusedSimpArgs false
namespace G3
open PySem L2 Ry G
def dC (C:List PI):Da:=.dK (C.map fun e=>aq e.1) (C.map fun e=>.int e.2)
def bX (C:List PI):List Int:=C.map (·.1)
def cE:List PI->Int->Int
 | [],_=>0
 | (y,x)::C,a=>if y=a then x else cE C a
theorem HV:∀ (C:List PI) (a:Int),atK (C.map fun e=>(aq e.1:Key)) (C.map fun e=>Da.int e.2) (aq a)=if a∈bX C then some (.int (cE C a)) else none
 | [],a=>by simp [atK,bX]
 | (y,x)::C,a=>by
   show (if (aq y:Key)=aq a then some (Da.int x) else atK (C.map fun e=>(aq e.1:Key)) (C.map fun e=>Da.int e.2) (aq a))=_
   by_cases h:y=a
   ·subst h
    rw [if_pos rfl,if_pos (by simp [bX])]
    simp [cE]
   ·rw [if_neg (fun z=>h (cZ z)),HV C a]
    have e1:(a∈bX ((y,x)::C))↔a∈bX C:=by
     unfold bX
     rw [aw,am]
     constructor
     ·rintro (z | z)
      ·exact absurd z.symm h
      ·exact z
     ·exact .inr
    have e2:cE ((y,x)::C) a=cE C a:=by show (if y=a then x else cE C a)=_;rw [if_neg h]
    rw [e2]
    by_cases h3:a∈bX C
    ·rw [if_pos h3,if_pos (e1.mpr h3)]
    ·rw [if_neg h3,if_neg (fun z=>h3 (e1.mp z))]
theorem vp (C:List PI) (a:Int):ml (dC C) (.int a)=some (if a∈bX C then some (.int (cE C a)) else none):=by
 show some (atK _ _ (aq a))=_
 rw [HV]
theorem Fu (n:Bool) (a b:Kd) (C:List PI) (x:Int):oIn n (a,.int x) (b,dC C)=some (.pu,.bl (if n then !decide (x∈bX C) else decide (x∈bX C))):=by
 unfold oIn Ab
 dsimp only
 rw [vp]
 by_cases h:x∈bX C<;>simp only [h,if_true,if_false]<;>cases n<;>rfl
theorem HQ {a b:Kd} {C:List PI} {x:Int} (h:x∈bX C):oIt (a,dC C) (b,.int x)=some (.pu,.int (cE C x)):=by
 unfold oIt oIx xh
 dsimp only
 rw [vp,if_pos h]
 rfl
theorem nu:∀ (C:List PI) (y x:Int),y∉bX C->gR (C.map fun e=>(aq e.1:Key)) (aq y)=(C++[(y,x)]).map (fun e=>(aq e.1:Key)) /\
 gN (C.map fun e=>(aq e.1:Key)) (C.map fun e=>Da.int e.2) (aq y) (.int x)=(C++[(y,x)]).map fun e=>Da.int e.2
 | [],y,x,_=>⟨rfl,rfl⟩
 | (a,b)::C,y,x,h=>by
   have hne:a≠y:=fun z=>h (by simp [bX,z])
   obtain ⟨i1,i2⟩:=nu C y x fun z=>h (by unfold bX at *;rw [aw];exact ag _ z)
   have hk:¬ (aq a:Key)=aq y:=fun z=>hne (cZ z)
   constructor
   ·show (if (aq a:Key)=aq y then _ else aq a::gR (C.map fun e=>(aq e.1:Key)) (aq y))=_
    rw [if_neg hk,i1];rfl
   ·show (if (aq a:Key)=aq y then _ else Da.int b::gN (C.map fun e=>(aq e.1:Key)) (C.map fun e=>Da.int e.2) (aq y) (.int x))=_
    rw [if_neg hk,i2];rfl
theorem Gg {C:List PI} (h:(bX C).Nodup):(C.map fun e=>(aq e.1:Key)).Nodup:=by
 have e:(C.map fun e=>(aq e.1:Key))=(bX C).map aq:=by unfold bX;rw [aC];rfl
 rw [e]
 exact bB.mpr (h.imp fun {a b} z w=>z (cZ w))
theorem Ez {C:List PI} {y x:Int} (h:y∉bX C) (nd:(bX C).Nodup) (hl:C.length<=1000000):HG (dC C) (.int y) (.int x)=some (dC (C++[(y,x)])):=by
 obtain ⟨i1,i2⟩:=nu C y x h
 show (if (C.map fun e=>(aq e.1:Key)).Nodup/\(C.map fun e=>(aq e.1:Key)).length<=1000000 then some (Da.dK (gR (C.map fun e=>(aq e.1:Key)) (aq y)) (gN (C.map fun e=>(aq e.1:Key)) (C.map fun e=>Da.int e.2) (aq y) (.int x))) else none)=_
 rw [if_pos ⟨Gg nd,by rw [ab];exact hl⟩,i1,i2]
 rfl
theorem sf (C:List PI) (y x:Int):bX (C++[(y,x)])=bX C++[y]:=by unfold bX;rw [bD];rfl
theorem gI {C:List PI} {y x a:Int}:a∈bX (C++[(y,x)])↔a∈bX C\/a=y:=by rw [sf,az,av]
theorem ie:∀ {C:List PI} {y x a:Int},a∈bX C->cE (C++[(y,x)]) a=cE C a
 | [],_,_,a,h=>by cases h
 | (b,c)::C,y,x,a,h=>by
   show (if b=a then c else cE (C++[(y,x)]) a)=if b=a then c else cE C a
   by_cases e:b=a
   ·rw [if_pos e,if_pos e]
   ·rw [if_neg e,if_neg e]
    unfold bX at h
    rw [aw,am] at h
    exact ie (h.resolve_left fun z=>e z.symm)
theorem ol:∀ {C:List PI} {y x:Int},y∉bX C->cE (C++[(y,x)]) y=x
 | [],y,x,_=>by simp [cE]
 | (b,c)::C,y,x,h=>by
   unfold bX at h
   rw [aw,am] at h
   show (if b=y then c else cE (C++[(y,x)]) y)=x
   rw [if_neg (fun z=>h (.inl z.symm)),ol fun z=>h (.inr z)]
end G3
set_option linter.unusedSimpArgs false
namespace G3
open PySem L2 Ry G
theorem EY {C:List PI} {k:Kd} (h:C.length<64):eX [(k,dC C)]=some (.fr,.lst ((Ms.srt Ms.ltI (bX C)).map Da.int)):=by
 have e:(C.map fun e=>(aq e.1:Key)).map ji=(bX C).map Da.int:=by unfold bX;rw [aC,aC];rfl
 unfold eX dC
 dsimp only
 rw [e,nj (by unfold bX;rw [ab];exact h)]
end G3
set_option linter.unusedSimpArgs false
namespace Ry
open PySem L2
theorem xp:∀ P L:List PI,fD (ir (P.map dP)) (ir (L.map dP))=decide (P=L)
 | [],[]=>rfl
 | [],q::L=>rfl
 | p::P,[]=>rfl
 | p::P,q::L=>by
   show (cA (toP (dP p)) (toP (dP q))&&fD (ir (P.map dP)) (ir (L.map dP)))=_
   rw [JR,xp P L,cY]
   simp only [aY,decide_eq_true_eq,mW]
theorem qS:∀ L:List PI,bT (ir (L.map dP))<=1
 | []=>by simp [ir,bT]
 | p::L=>by
   show max (d8 (toP (dP p))) (bT (ir (L.map dP)))<=1
   have:=qS L
   have h:d8 (toP (dP p))=1:=by simp [dP,toP,ir,d8,bT]
   lia
theorem Ik (n:Int) (P:List PI):(toP (dY n P)).canLay0=true:=by
 show (cK (.int n)&&(cp (ir (P.map dP))&&true))=true
 rw [sn];rfl
theorem Hj (n:Int) (P:List PI):(toP (dY n P)).depth<=3:=by
 have h:(toP (dY n P)).depth=max 0 (max (bT (ir (P.map dP))+1) 0)+1:=by simp [dY,toP,ir,d8,bT]
 have:=qS P
 lia
theorem KM (n m:Int) (P L:List PI):cA (toP (dY n P)) (toP (dY m L))=decide (n=m/\P=L):=by
 show (cA (.int n) (.int m)&&(fD (ir (P.map dP)) (ir (L.map dP))&&true))=_
 rw [xp,cY]
 simp only [cA,Bool.and_true,aY,beq_iff_eq,decide_eq_true_eq]
theorem Jb (b:Bool) (k k':Kd) (n m:Int) (P L:List PI):oEq b (k,dY n P) (k',dY m L)=some (.pu,.bl (if b then !decide (n=m/\P=L) else decide (n=m/\P=L))):=by
 have ok:CU (dY n P) (dY m L)=true:=by
  unfold CU
  rw [Ik,Ik]
  have:=Hj n P
  simp only [lU,lV,decide_eq_true_eq]
  lia
 unfold oEq
 rw [if_pos ok]
 show some (Kd.pu,Da.bl (if b=true then !PyData.eqv (toP (dY n P)) (toP (dY m L)) else cA (toP (dY n P)) (toP (dY m L))))=_
 rw [KM]
theorem qN:∀ R:List Int,bT (ir (R.map Da.int))=0
 | []=>by simp [ir,bT]
 | p::T=>by
   show max (d8 (.int p)) (bT (ir (T.map Da.int)))=0
   rw [qN T];simp [d8]
end Ry
namespace GW
open PySem L2 Ry G
noncomputable def g_lowers_of:Rho->Res:=(fZ (cJ fn_uppers_of (aJ (fy [none,none,none] (cF (iG (aW 0))) (tgT 2 (d4 (tgN 1) (d4 (tgN 2) jO))) (fun _=>some true) (kX (aJ (aW 2) (aJ (aW 1) cc)))) cc)))
noncomputable def fn_lowers_of:List Da->Option Da:=jl 1 g_lowers_of
noncomputable def g_upwards:Rho->Res:=(fZ (kz [none,some 1,none] 0 (mn (aJ (aW 0) cc)) (xB xY (aJ (ju (aW 1) (aW 0) (xC2 (.fr,.dK [] []))) cc))))
noncomputable def fn_upwards:List Da->Option Da:=jl 2 g_upwards
noncomputable def g_weights_from:Rho->Res:=(iD (lP 2 (cJ fn_lowers_of (aJ (x2 oIt (aW 0) (xC (.int 1))) cc)))
 (iD (zC 3 (tF (aW 1) (xC (.int 1))))
 (iD (qw (cF (iG (cJ fn_upwards (aJ (x2 oIt (aW 0) (xC (.int 0))) (aJ (aW 2) cc))))) (tgN 4)
 (iD (lP 5 (iG (ju (aW 2) (aW 4) (xC2 (.fr,.dK [] [])))))
 (sIf (tb (x2 (oIn false) (aW 1) (aW 5))) (Ct 3 (aW 4) (o6 (xB EO (aJ (fy [none,none,some 3] (cF (iG (aW 5))) (tgN 1) (tb (x2 (oIn false) (aW 1) (aW 2))) (x2 oIt (aW 2) (aW 1))) cc)))) ni)))
 (fZ (aW 3)))))
noncomputable def fn_weights_from:List Da->Option Da:=jl 6 g_weights_from
noncomputable def g_weight:Rho->Res:=(fZ (ju (cJ fn_weights_from (aJ (aW 0) (aJ (aW 1) cc))) (aW 2) (xC (.int 0))))
noncomputable def fn_weight:List Da->Option Da:=jl 3 g_weight
end GW
namespace GW
open Ry
def sm (R:List Int) (f:Int->Int):Int:=(R.map f).sum
theorem Ar (f:Int->Int):sm [] f=0:=rfl
theorem eY (a:Int) (R:List Int) (f:Int->Int):sm (a::R) f=f a+sm R f:=by unfold sm;rw [aw,sN]
theorem dF {f g:Int->Int}:∀ {R:List Int},(∀ x∈R,f x=g x)->sm R f=sm R g
 | [],_=>rfl
 | a::R,h=>by rw [eY,eY,h a ah,dF fun x hx=>h x (ag _ hx)]
theorem lC {f:Int->Int}:∀ {R:List Int},(∀ x∈R,f x=0)->sm R f=0
 | [],_=>rfl
 | a::R,h=>by rw [eY,h a ah,lC fun x hx=>h x (ag _ hx)];rfl
theorem Bp (f g:Int->Int):∀ R:List Int,sm R (fun x=>f x+g x)=sm R f+sm R g
 | []=>rfl
 | a::R=>by rw [eY,eY,eY,Bp f g R];lia
theorem zN (c:Int) (f:Int->Int):∀ R:List Int,sm R (fun x=>c*f x)=c*sm R f
 | []=>by rw [Ar,Ar,u0]
 | a::R=>by rw [eY,eY,zN c f R,Int.mul_add]
theorem Fk (c:Int) (f:Int->Int) (R:List Int):sm R (fun x=>f x*c)=sm R f*c:=by
 rw [u3,<- zN];exact dF fun x _=>u3 _ _
theorem vo (f:Int->Int->Int):∀ R S:List Int,sm R (fun x=>sm S (fun y=>f x y))=sm S (fun y=>sm R (fun x=>f x y))
 | [],S=>by rw [Ar];exact (lC fun _ _=>rfl).symm
 | a::R,S=>by
   rw [eY,vo f R S,<- Bp]
   exact dF fun y _=>(eY a R fun x=>f x y).symm
theorem FD {R S:List Int} (f:Int->Int) (h:R.Perm S):sm R f=sm S f:=by
 induction h with
 | nil=>rfl
 | cons a _ ih=>rw [eY,eY,ih]
 | swap a b l=>rw [eY,eY,eY,eY];lia
 | trans _ _ i1 i2=>rw [i1,i2]
theorem mw (p:Int->Bool) (f:Int->Int):∀ R:List Int,sm (R.filter p) f=sm R (fun x=>if p x=true then f x else 0)
 | []=>rfl
 | a::R=>by
   rw [eY,<- mw p f R]
   cases h:p a with
   | true=>rw [sW h,eY,if_pos rfl]
   | false=>rw [jY (by rw [h];exact aO),if_neg aO,uZ]
theorem xu {f:Int->Int} {a:Int}:∀ {R:List Int},R.Nodup->a∈R->(∀ x∈R,x≠a->f x=0)->sm R f=f a
 | [],_,h,_=>by cases h
 | b::R,nd,h,z=>by
   obtain ⟨h1,h2⟩:=bf.mp nd
   rw [eY]
   by_cases e:b=a
   ·subst e
    rw [lC fun x hx=>z x (ag _ hx) fun w=>h1 (by rw [<- w];exact hx)]
    lia
   ·rw [z b ah e,xu h2 ((am.mp h).resolve_left fun w=>e w.symm) fun x hx=>z x (ag _ hx)]
    lia
theorem Kw {R:List Int} {a c:Int} (nd:R.Nodup) (h:a∈R):sm R (fun x=>if x=a then c else 0)=c:=by
 rw [xu nd h fun x _ hx=>if_neg hx,if_pos rfl]
structure Tri (n:Int) (L:List PI) (w:Int->Int->Int):Prop where
 one:∀ a,w a a=1
 off:∀ a b,a≠b->(a,b)∉L->w a b=0
def zt (L:List PI) (s t:Int):Int:=if s=t\/(s,t)∈L then 1 else 0
def dl (a b:Int):Int:=if a=b then 1 else 0
end GW
set_option linter.unusedSimpArgs false
namespace GW
open PySem L2 Ry G G3
def sw (p:PI):PI:=(p.2,p.1)
def low (L:List PI):UD:=upp (L.map sw)
theorem EI {L:List PI} {a b:Int}:(a,b)∈L.map sw↔(b,a)∈L:=by
 constructor
 ·intro h
  obtain ⟨p,hp,e⟩:=aK.mp h
  have h1:p.2=a:=congrArg wf e
  have h2:p.1=b:=congrArg wg e
  rw [<- h1,<- h2];exact hp
 ·exact fun h=>aK.mpr ⟨(b,a),h,rfl⟩
theorem EL (L:List PI):Kq (L.map sw) (low L):=j3 _
theorem fF (L:List PI) (a b:Int):b∈dt (low L) a↔(b,a)∈L:=by rw [(EL L).get,EI]
theorem wJ (L:List PI) (a:Int):(dt (low L) a).Nodup:=(EL L).ndv a
theorem vi (L:List PI) (a:Int):(dt (low L) a).length<=L.length:=by
 have h1:(dt (low L) a).length<=(L.map (·.1)).length:=Ms.length_le_of_subset (wJ L a) fun x hx=>aK.mpr ⟨_,(fF L a x).mp hx,rfl⟩
 rw [ab] at h1
 exact h1
theorem oV {L:List PI} (hl:L.length<=1000):fn_lowers_of [.tup (L.map dP)]=some (dU (low L)):=by
 have hc:=oH (enc:=dP) (xs:=L) (ix:=[none,none,none]) (fi:=cF (iG (aW 0))) (i:=1) (j:=2) (c:=fun _=>some true) (f:=kX (aJ (aW 2) (aJ (aW 1) cc))) (ρ:=[.pu (.tup (L.map dP))]) (p:=fun _=>true) (e:=fun p=>dP (sw p)) (a:=fun p=>.int p.1) (b:=fun p=>.int p.2)
  (by simp) (by lia) (fun p hp=>⟨rfl,fun _=>⟨(.pu,dP (sw p)),by simp [mpR,dP,sw],rfl,rfl⟩⟩) (by decide) (fun _=>rfl)
 rw [eF] at hc
 refine mf (ρ:=[.pu (.tup (L.map dP))]) rfl ?_
 have em:(L.map fun p=>dP (sw p))=(L.map sw).map dP:=by rw [aC];rfl
 rw [em] at hc
 simp only [g_lowers_of,hZ,oG,cq,dL,hc,fj,fQ,Bz,C0,Bool.not_false,if_true,cn]
 rw [CB (by rw [ab];exact hl)]
 rfl
theorem rM {α:Type} {lam:Da->Option Da} {enc e:α->Da}:∀ {xs:List α},(∀ x∈xs,lam (enc x)=some (e x))->BX lam (xs.map enc)=some (xs.map e)
 | [],_=>rfl
 | x::xs,h=>by
   have ih:=rM (lam:=lam) (enc:=enc) (e:=e) (xs:=xs) fun y hy=>h y (ag _ hy)
   show (match lam (enc x) with | none=>none | some r=>match BX lam (xs.map enc) with | none=>none | some rs=>some (r::rs))=_
   rw [h x ah,ih]
   rfl
theorem tY {α:Type} {xs:List α} {d:α} {q:List Nat} (h:q.Perm (bG xs.length)):(q.map fun i=>xs.getD i d).Perm xs:=by
 refine (h.map _).trans ?_
 have:(bG xs.length).map (fun i=>xs.getD i d)=xs:=by
  apply jX
  ·simp
  ·intro i h1 h2;simp [h2]
 rw [this]
theorem AK {xs:List Int} {f:Int->Int} {lam:Da->Option Da} (h:∀ x∈xs,lam (.int x)=some (.int (f x))) (hl:xs.length<64):∃ ord:List Int,rB lam (xs.map Da.int)=some (ord.map Da.int)/\ord.Perm xs/\ord.Pairwise fun x y=>f x<=f y:=by
 have e1:=rM (lam:=lam) (enc:=Da.int) (e:=fun x=>Da.int (f x)) (xs:=xs) h
 have em:(xs.map fun x=>Da.int (f x))=(xs.map f).map Da.int:=by rw [aC];rfl
 rw [em] at e1
 obtain ⟨hp,hs⟩:=kI yO (0:Int) (xs.map f)
 have hp':(nJ yO (0:Int) (xs.map f)).Perm (bG xs.length):=by
  have e:gj (α:=yO.α) (xs.map f)=xs.length:=ab _
  rw [e] at hp
  exact hp
 refine ⟨(nJ yO (0:Int) (xs.map f)).map fun i=>xs.getD i 0,?_,tY hp',?_⟩
 ·unfold rB
  rw [if_pos (by rw [ab];lia),e1]
  dsimp only
  unfold wu
  rw [fS]
  dsimp only
  rw [if_pos (show OkN (xs.map f) from .inl (by rw [ab];exact hl))]
  dsimp only
  congr 1
  rw [aC]
  refine dr fun i hi=>?_
  have hi':i<xs.length:=by simpa using hp'.mem_iff.mp hi
  simp [hi']
 ·rw [bB] at hs ⊢
  refine hs.imp_of_mem fun {i j} hi hj z=>?_
  have hi':i<xs.length:=by simpa using hp'.mem_iff.mp hi
  have hj':j<xs.length:=by simpa using hp'.mem_iff.mp hj
  have z:yO.blt ((xs.map f).getD j (0:Int)) ((xs.map f).getD i (0:Int))=false:=z
  have z:decide ((xs.map f).getD j (0:Int)<(xs.map f).getD i (0:Int))=false:=z
  have z:=of_decide_eq_false z
  have ei:(xs.map f).getD i (0:Int)=f (xs.getD i 0):=by simp [hi']
  have ej:(xs.map f).getD j (0:Int)=f (xs.getD j 0):=by simp [hj']
  rw [ei,ej] at z
  lia
theorem zw (k:Kd) (l:List Int):xY [(k,dD l)]=some (.pu,.int l.length):=by
 show (none:Option Rv).or (some (Kd.pu,Da.int ((l.map aq).length:Nat)))=_
 rw [ab]
 rfl
theorem na {n:Int} (D:UD) (h0:0<=n) (h1:n<64):∃ ord:List Int,fn_upwards [.int n,dU D]=some (.lst (ord.map Da.int))/\ord.Perm (rgI 0 n.toNat)/\ord.Pairwise fun x y=>((dt D x).length:Int)<=(dt D y).length:=by
 have hlam:∀ x∈rgI 0 n.toNat,D9 [none,some 1,none] 0 (xB xY (aJ (ju (aW 1) (aW 0) (xC2 (.fr,.dK [] []))) cc)) [.pu (.int n),.pu (dU D)] (.int x)=some (.int ((dt D x).length:Int)):=fun x hx=>by
  unfold D9
  have em:(mpR [none,some 1,none] [.pu (.int n),.pu (dU D)]).set 0 (.pu (.int x))=[.pu (.int x),.pu (dU D),.no]:=rfl
  rw [em]
  simp only [sQ,cq,oR,im,FC,dL,br,bv,vS]
  by_cases hm:x∈D.map (·.1)
  ·rw [if_pos hm]
   dsimp only
   rw [zw]
   rfl
  ·rw [if_neg hm,mx hm]
   dsimp only
   rw [show ([((Kd.fr,Da.dK [] []):Rv)])=[(Kd.fr,dD [])] from rfl,zw]
   rfl
 obtain ⟨ord,e,hp,hs⟩:=AK (f:=fun x=>((dt D x).length:Int)) hlam (by rw [e6];lia)
 refine ⟨ord,?_,hp,hs⟩
 refine mf (ρ:=[.pu (.int n),.pu (dU D)]) rfl ?_
 have er:mn (aJ (aW 0) cc) [.pu (.int n),.pu (dU D)]=some ((rgI 0 n.toNat).map Da.int):=by
  simp only [xc,cq,im,dL,br]
  rw [if_pos (by lia),eQ]
 simp only [g_upwards,hZ]
 unfold kz
 rw [er]
 dsimp only
 rw [e]
theorem sA {n:Int} {L:List PI} (Y:Yd n L) {ord:List Int} (h:ord.Pairwise fun x y=>((dt (low L) x).length:Int)<=(dt (low L) y).length):ord.Pairwise fun x y=>(y,x)∉L:=by
 refine h.imp fun {x y} z m=>?_
 have:(y::dt (low L) y).length<=(dt (low L) x).length:=Ms.length_le_of_subset (bf.mpr ⟨fun w=>Y.irr y ((fF L y y).mp w),wJ L y⟩) fun u hu=>by
  rcases am.mp hu with e | e
  ·subst e;exact (fF L x u).mpr m
  ·exact (fF L x u).mpr (Y.tr _ _ _ ((fF L y u).mp e) m)
 rw [aG] at this
 lia
end GW
set_option linter.unusedSimpArgs false
namespace GW
open PySem L2 Ry G G3
theorem Hn (l:List Int) (f:Int->Int):gL (l.map fun x=>Da.int (f x))=some (l.map f):=by
 have:(l.map fun x=>Da.int (f x))=(l.map f).map Da.int:=by rw [aC];rfl
 rw [this,fS]
theorem Ek (k:Kd) (l:List Int) (f:Int->Int):EO [(k,.lst (l.map fun x=>Da.int (f x)))]=some (.pu,.int (sm l f)):=by
 unfold EO;dsimp only;rw [Hn];rfl
theorem pe {C:List PI} {x:Int} (h:x∈bX C) {k k':Kd}:oIt (k,dC C) (k',.int x)=some (.pu,.int (cE C x)):=HQ h
structure Kv (L:List PI) (one:Int) (pre:List Int) (C:List PI):Prop where
 nd:(bX C).Nodup
 mem:∀ x,x∈bX C↔x=one\/(x∈pre/\(one,x)∈L)
 at1:cE C one=1
 rc:∀ x,x∈pre->(one,x)∈L->cE C x = -(sm ((dt (low L) x).filter fun u=>decide (u∈bX C)) (cE C))
theorem Cw {C:List PI}:(bX C).length=C.length:=by unfold bX;rw [ab]
theorem xZ {n:Int} {L:List PI} {one x:Int} {pre post ord:List Int} {C:List PI} (Y:Yd n L) (hord:ord=pre++x::post) (hnd:ord.Nodup) (ho:ord.Pairwise fun x y=>(y,x)∉L) (W:Kv L one pre C) (hx:(one,x)∈L) :
 x∉bX C/\Kv L one (pre++[x]) (C++[(x,-(sm ((dt (low L) x).filter fun u=>decide (u∈bX C)) (cE C)))]):=by
 have hne:x≠one:=fun z=>by subst z;exact Y.irr x hx
 have hxp:x∉pre:=fun z=>by
  rw [hord] at hnd
  exact (bp.mp hnd).2.2 x z x ah rfl
 have hxC:x∉bX C:=fun z=>((W.mem x).mp z).elim hne fun y=>hxp y.1
 have late:∀ y∈pre,(x,y)∉L:=fun y hy=>by
  rw [hord] at ho
  exact (eZ.mp ho).2.2 y hy x ah
 refine ⟨hxC,?_,fun y=>?_,?_,fun y hy hl=>?_⟩
 ·rw [sf]
  exact bp.mpr ⟨W.nd,aS _ _,fun a ha b hb=>by
   rw [av] at hb
   subst hb
   intro z;subst z;exact hxC ha⟩
 ·rw [gI,W.mem,az,av]
  constructor
  ·rintro ((h | ⟨h1,h2⟩) | h)
   ·exact .inl h
   ·exact .inr ⟨.inl h1,h2⟩
   ·subst h;exact .inr ⟨.inr rfl,hx⟩
  ·rintro (h | ⟨h1 | h1,h2⟩)
   ·exact .inl (.inl h)
   ·exact .inl (.inr ⟨h1,h2⟩)
   ·exact .inr h1
 ·rw [ie ((W.mem one).mpr (.inl rfl))];exact W.at1
 ·
  have same:∀ t:Int,(x,t)∉L->sm ((dt (low L) t).filter fun u=>decide (u∈bX (C++[(x,-(sm ((dt (low L) x).filter fun u=>decide (u∈bX C)) (cE C)))]))) (cE (C++[(x,-(sm ((dt (low L) x).filter fun u=>decide (u∈bX C)) (cE C)))]))=sm ((dt (low L) t).filter fun u=>decide (u∈bX C)) (cE C):=fun t ht=>by
   have e:((dt (low L) t).filter fun u=>decide (u∈bX (C++[(x,-(sm ((dt (low L) x).filter fun u=>decide (u∈bX C)) (cE C)))])))=(dt (low L) t).filter fun u=>decide (u∈bX C):=by
    refine g7 fun u hu=>?_
    have hux:u≠x:=fun z=>ht (by rw [<- z];exact (fF L t u).mp hu)
    rw [cY,decide_eq_true_eq,decide_eq_true_eq,gI]
    exact ⟨fun z=>z.resolve_right hux,.inl⟩
   rw [e]
   refine dF fun u hu=>ie ?_
   simpa using (aI.mp hu).2
  rcases az.mp hy with h | h
  ·rw [ie ((W.mem y).mpr (.inr ⟨h,hl⟩)),same y (late y h)]
   exact W.rc y h hl
  ·rw [av] at h
   subst h
   rw [ol hxC,same y (Y.irr y)]
theorem J9 (one:Int):Da.dK [aq one] [Da.int 1]=dC [(one,1)]:=rfl
theorem pF {n:Int} {L:List PI} (Y:Yd n L) (h0:0<=n) (h1:n<64) (hl:L.length<=1000) (one:Int):∃ C:List PI,fn_weights_from [dY n L,.int one]=some (dC C)/\(bX C).Nodup/\(∀ x,x∈bX C↔x=one\/(one,x)∈L)/\cE C one=1 /\
 ∀ x,(one,x)∈L->cE C x = -(sm ((dt (low L) x).filter fun u=>decide (u∈bX C)) (cE C)):=by
 obtain ⟨ord,hup,hperm,hsrt⟩:=na (low L) h0 h1
 have ho:=sA Y hsrt
 have hnd:ord.Nodup:=hperm.nodup_iff.mpr (fz _ _)
 have inord:∀ a x,(a,x)∈L->x∈ord:=fun a x h=>hperm.mem_iff.mpr (fq.mpr (by have:=(Y.rg _ h).2;dsimp only at this;lia))
 have key:∃ d,fn_weights_from [dY n L,.int one]=some d/\∃ C,d=dC C/\Kv L one ord C:=by
  refine nT ?_
  unfold g_weights_from
  have e0:fm 6 [dY n L,.int one]=[.pu (dY n L),.pu (.int one),.no,.no,.no,.no]:=rfl
  rw [e0]
  refine cS (d9 (ρ':=[.pu (dY n L),.pu (.int one),.pu (dU (low L)),.no,.no,.no]) (by simp [dY,oV hl]) ?_)
  refine cS (d9 (ρ':=[.pu (dY n L),.pu (.int one),.pu (dU (low L)),.ow (dC [(one,1)]),.no,.no]) (by simp [tF,J9]) ?_)
  refine cS ?_
  refine j8 (enc:=Da.int) (xs:=ord) (fun pre ρ=>∃ C s4 s5,ρ=[.pu (dY n L),.pu (.int one),.pu (dU (low L)),.ow (dC C),s4,s5]/\Kv L one pre C) ?_ ⟨_,_,_,rfl,⟨aS _ _,fun x=>?_,by simp [cE],by simp⟩⟩ ?_ ?_
  ·have hz:x2 oIt (aW 0) (xC (.int 0)) [.pu (dY n L),.pu (.int one),.pu (dU (low L)),.ow (dC [(one,1)]),.no,.no]=some (.pu,.int n):=by simp [dY]
   simp only [lc,pg,oG,cq,hz,im,dL,br,bv,fj,fQ,gU,if_true,cn,hup]
  ·simp [bX]
  ·rintro pre x post ρ e ⟨C,s4,s5,rfl,W⟩
   refine ⟨[.pu (dY n L),.pu (.int one),.pu (dU (low L)),.ow (dC C),.pu (.int x),s5],rfl,?_⟩
   refine cS (d9 (ρ':=[.pu (dY n L),.pu (.int one),.pu (dU (low L)),.ow (dC C),.pu (.int x),.pu (dD (dt (low L) x))]) ?_ ?_)
   ·have:=xw (low L) x (aW 2) (aW 4) [.pu (dY n L),.pu (.int one),.pu (dU (low L)),.ow (dC C),.pu (.int x),s5] (k:=.pu) (k':=.pu) rfl rfl
    simp only [iS]
    rw [this]
    rfl
   have hclen:C.length<=1000000:=by
    have h2:(bX C).length<=(one::ord).length:=Ms.length_le_of_subset W.nd fun y hy=>by
     rcases (W.mem y).mp hy with z | z
     ·subst z;exact ah
     ·exact ag _ (inord _ _ z.2)
    rw [Cw,aG,hperm.length_eq,e6] at h2
    lia
   refine rH (b:=decide (one∈dt (low L) x)) (by simp [Gj]) (fun q=>?_) fun q=>?_
   ·have hx:(one,x)∈L:=(fF L x one).mp (by simpa using q)
    obtain ⟨hxC,W'⟩:=xZ Y e hnd ho W hx
    have hc:=eu (enc:=Da.int) (xs:=dt (low L) x) (ix:=[none,none,some 3]) (fi:=cF (iG (aW 5))) (i:=1) (c:=tb (x2 (oIn false) (aW 1) (aW 2))) (f:=x2 oIt (aW 2) (aW 1))
     (ρ:=[.pu (dY n L),.pu (.int one),.pu (dU (low L)),.ow (dC C),.pu (.int x),.pu (dD (dt (low L) x))]) (p:=fun u=>decide (u∈bX C)) (e:=fun u=>.int (cE C u)) (su (by simp)) (by have:=vi L x;lia)
     fun u hu=>⟨by simp [mpR,Fu],fun hq=>⟨(.pu,.int (cE C u)),by simp [mpR,HQ (show u∈bX C by simpa using hq)],rfl,rfl⟩⟩
    refine d9 (ρ':=[.pu (dY n L),.pu (.int one),.pu (dU (low L)),.ow (dC (C++[(x,-(sm ((dt (low L) x).filter fun u=>decide (u∈bX C)) (cE C)))])),.pu (.int x),.pu (dD (dt (low L) x))]) ?_ ⟨_,_,_,rfl,W'⟩
    simp only [w6,JO,sQ,cq,dL,hc,Ek,im,br,bv,gU,if_true]
    rw [Ez hxC W.nd hclen]
    rfl
   ·have hx:(one,x)∉L:=fun z=>by
     have:=(fF L x one).mpr z
     rw [decide_eq_false_iff_not] at q
     exact q this
    refine d9 rfl ⟨C,_,_,rfl,W.nd,fun y=>?_,W.at1,fun y hy hl'=>?_⟩
    ·rw [W.mem,az,av]
     constructor
     ·rintro (h | ⟨h1,h2⟩)
      ·exact .inl h
      ·exact .inr ⟨.inl h1,h2⟩
     ·rintro (h | ⟨h1 | h1,h2⟩)
      ·exact .inl h
      ·exact .inr ⟨h1,h2⟩
      ·subst h1;exact absurd h2 hx
    ·rcases az.mp hy with z | z
     ·exact W.rc y z hl'
     ·rw [av] at z;subst z;exact absurd hl' hx
  ·rintro ρ ⟨C,s4,s5,rfl,W⟩
   exact oe (d:=dC C) rfl ⟨C,rfl,W⟩
 obtain ⟨d,ed,C,rfl,W⟩:=key
 refine ⟨C,ed,W.nd,fun x=>?_,W.at1,fun x hx=>W.rc x (inord _ _ hx) hx⟩
 rw [W.mem]
 exact ⟨fun z=>z.imp id (·.2),fun z=>z.imp id fun y=>⟨inord _ _ y,y⟩⟩
theorem tJ {n:Int} {L:List PI} (Y:Yd n L) (h0:0<=n) (h1:n<64) (hl:L.length<=1000):∃ w:Int->Int->Int,(∀ a b,fn_weight [dY n L,.int a,.int b]=some (.int (w a b)))/\Tri n L w/\∀ a b,(a,b)∈L->w a b = -(sm (dt (low L) b) (w a)):=by
 have hC:=fun a=>pF Y h0 h1 hl a
 obtain ⟨Cf,hF⟩:∃ Cf:Int->List PI,∀ a,fn_weights_from [dY n L,.int a]=some (dC (Cf a))/\(bX (Cf a)).Nodup/\(∀ x,x∈bX (Cf a)↔x=a\/(a,x)∈L)/\cE (Cf a) a=1 /\
  ∀ x,(a,x)∈L->cE (Cf a) x = -(sm ((dt (low L) x).filter fun u=>decide (u∈bX (Cf a))) (cE (Cf a))):=⟨fun a=>e8 (hC a),fun a=>jL (hC a)⟩
 clear hC
 refine ⟨fun a b=>if b∈bX (Cf a) then cE (Cf a) b else 0,fun a b=>?_,⟨fun a=>?_,fun a b hab hn=>?_⟩,fun a b hab=>?_⟩
 ·obtain ⟨e,_⟩:=hF a
  refine mf (ρ:=[.pu (dY n L),.pu (.int a),.pu (.int b)]) rfl ?_
  simp only [g_weight,hZ,oR,oG,cq,im,Iw,dL,br,bv,fj,fQ,gU,if_true,cn,e,vp]
  by_cases h:b∈bX (Cf a)
  ·rw [if_pos h,if_pos h]
  ·rw [if_neg h,if_neg h]
 ·obtain ⟨_,_,m,o,_⟩:=hF a
  rw [if_pos ((m a).mpr (.inl rfl)),o]
 ·obtain ⟨_,_,m,_⟩:=hF a
  rw [if_neg]
  intro z
  rcases (m b).mp z with y | y
  ·exact hab y.symm
  ·exact hn y
 ·obtain ⟨_,_,m,_,r⟩:=hF a
  show (if b∈bX (Cf a) then cE (Cf a) b else 0) = -(sm (dt (low L) b) fun u=>if u∈bX (Cf a) then cE (Cf a) u else 0)
  rw [if_pos ((m b).mpr (.inr hab)),r b hab,mw]
  congr 1
  refine dF fun u _=>?_
  by_cases h:u∈bX (Cf a)
  ·rw [if_pos h,if_pos (by simpa using h)]
  ·rw [if_neg h,if_neg (by simpa using h)]
end GW
set_option linter.unusedSimpArgs false
namespace GW
open PySem L2 Ry G G3
theorem J5 {n:Int} {L:List PI} (Y:Yd n L) (b:Int) (f:Int->Int):sm (dt (low L) b) f=sm (rgI 0 n.toNat) (fun u=>if (u,b)∈L then f u else 0):=by
 have hp:(dt (low L) b).Perm ((rgI 0 n.toNat).filter fun u=>decide ((u,b)∈L)):=(gn (wJ L b) ((fz _ _).filter _)).mpr fun u=>by
  rw [fF,aI,decide_eq_true_eq]
  exact ⟨fun h=>⟨fq.mpr (by have:=(Y.rg _ h).1;dsimp only at this;lia),h⟩,(·.2)⟩
 rw [FD f hp,mw]
 exact dF fun u _=>by by_cases h:(u,b)∈L<;>simp [h]
section
variable {n:Int} {L:List PI} {w:Int->Int->Int}
theorem wz (Y:Yd n L) (T:Tri n L w) (r:∀ a b,(a,b)∈L->w a b = -(sm (dt (low L) b) (w a))):∀ a∈rgI 0 n.toNat,∀ t∈rgI 0 n.toNat,sm (rgI 0 n.toNat) (fun s=>w a s*zt L s t)=dl a t:=by
 intro a ha t ht
 have e:sm (rgI 0 n.toNat) (fun s=>w a s*zt L s t)=w a t+sm (rgI 0 n.toNat) (fun s=>if (s,t)∈L then w a s else 0):=by
  rw [<- Kw (c:=w a t) (fz _ _) ht,<- Bp]
  refine dF fun s _=>?_
  unfold zt
  by_cases h1:s=t
  ·subst h1
   rw [if_pos (.inl rfl),if_pos rfl,if_neg (Y.irr s),pK,Int.add_zero]
  ·rw [if_neg h1]
   by_cases h2:(s,t)∈L
   ·rw [if_pos (.inr h2),if_pos h2,pK,uZ]
   ·rw [if_neg (fun z=>z.elim h1 h2),if_neg h2,u0,Int.add_zero]
 rw [e]
 unfold dl
 by_cases h1:a=t
 ·subst h1
  rw [if_pos rfl,T.one,lC fun s _=>?_]
  ·rfl
  ·by_cases h2:(s,a)∈L
   ·rw [if_pos h2]
    exact T.off a s (fun z=>Y.irr a (by rw [<- z] at h2;exact h2)) fun z=>Y.irr a (Y.tr _ _ _ z h2)
   ·rw [if_neg h2]
 ·rw [if_neg h1]
  by_cases h2:(a,t)∈L
  ·rw [r a t h2,J5 Y];lia
  ·rw [T.off a t h1 h2,lC fun s _=>?_]
   ·rfl
   ·by_cases h3:(s,t)∈L
    ·rw [if_pos h3]
     exact T.off a s (fun z=>h2 (by rw [z];exact h3)) fun z=>h2 (Y.tr _ _ _ z h3)
    ·rw [if_neg h3]
end
end GW
namespace GH
open PySem L2 Ry G GW
noncomputable def g_holds_all:Rho->Res:=(fZ (xB GI (aJ (fy [none,none,some 0] (cF (iG (aW 1))) (tgN 1) (fun _=>some true) (x2 (oIn false) (aW 1) (aW 2))) cc)))
noncomputable def fn_holds_all:List Da->Option Da:=jl 2 g_holds_all
noncomputable def g_heads:Rho->Res:=(iD (lP 1 (cJ fn_lowers_of (aJ (x2 oIt (aW 0) (xC (.int 1))) cc)))
 (iD (lP 2 (CK (aJ (kX cc) cc)))
 (iD (qw (cF (iG (cJ fn_upwards (aJ (x2 oIt (aW 0) (xC (.int 0))) (aJ (aW 1) cc))))) (tgN 3)
 (iD (lP 4 (iG (ju (aW 1) (aW 3) (xC2 (.fr,.dK [] [])))))
 (lP 2 (x2 nL (aW 2) (fy [none,none,none,none,none,some 3,some 4] (cF (iG (aW 2))) (tgN 1) (tTr (cJ fn_holds_all (aJ (aW 1) (aJ (aW 6) cc)))) (xB gv (aJ (xB eX (aJ (x2 nL (aW 1) (kX (aJ (aW 5) cc))) cc)) cc)))))))
 (fZ (xB gv (aJ (kz [none,none] 0 (qG (aW 2)) (kX (aJ (xB p6 (aJ (aW 0) cc)) (aJ (aW 0) cc)))) cc))))))
noncomputable def fn_heads:List Da->Option Da:=jl 5 g_heads
noncomputable def g_ways_up_to:Rho->Res:=(fZ (xB EO (aJ (fy [none,none,some 1,some 0] (mn (aJ (xB p6 (aJ (aW 1) cc)) cc)) (tgN 1) (fun _=>some true) (ju (aW 3) (x2 nL (j6 (aW 2) oT (oa (aW 1))) (j6 (aW 2) (oa (x2 nL (aW 1) (xC (.int 1)))) oT)) (xC (.int 0)))) cc)))
noncomputable def fn_ways_up_to:List Da->Option Da:=jl 2 g_ways_up_to
noncomputable def g_lines:Rho->Res:=(iD (zC 1 (oY (kX cc) (xC (.int 1))))
 (iD (qw (cF (iG (cJ fn_heads (aJ (aW 0) cc)))) (tgN 2)
 (sIf (tTr (aW 2)) (Ct 1 (aW 2) (yd 1 (cJ fn_ways_up_to (aJ (aW 1) (aJ (aW 2) cc))))) ni))
 (fZ (x2 oIt (aW 1) (jt (aJ (x2 oIt (aW 0) (xC (.int 0))) cc))))))
noncomputable def fn_lines:List Da->Option Da:=jl 3 g_lines
end GH
set_option linter.unusedSimpArgs false
namespace GH
open PySem L2 Ry G G3 GW
def dT (H:List Int):Da:=.tup (H.map Da.int)
theorem KA (i j:Int):cA (toP (.int i)) (toP (.int j))=decide (i=j):=by
 show cA (.int i) (.int j)=_
 simp only [cA]
 rw [cY,beq_iff_eq,decide_eq_true_eq]
theorem layAll_I:∀ T:List Int,cp (ir (T.map Da.int))=true
 | []=>rfl
 | p::T=>by
   show (cK (toP (.int p))&&cp (ir (T.map Da.int)))=true
   rw [layAll_I T];rfl
theorem G7 (x:Int):∀ T:List Int,inD (.int x) (T.map Da.int)=decide (x∈T)
 | []=>rfl
 | q::T=>by
   have ih:=G7 x T
   unfold inD at ih ⊢
   show (cA (toP (.int q)) (toP (.int x))||(ir (T.map Da.int)).any fun y=>cA y (toP (.int x)))=_
   rw [ih,KA,cY]
   simp only [iK,decide_eq_true_eq,am]
   exact ⟨fun h=>h.imp (fun z=>z.symm) id,fun h=>h.imp (fun z=>z.symm) id⟩
theorem Et (x:Int) (T:List Int):Ao (.int x) (T.map Da.int)=true:=by
 unfold Ao
 rw [layAll_I]
 have:(toP (Da.int x)).depth<=60:=by simp [toP,d8]
 have h2:(toP (Da.int x)).canLay0=true:=rfl
 rw [h2]
 simp only [lU,lV,decide_eq_true_eq]
 lia
@[simp] theorem Jx (n:Bool) (a b:Kd) (x:Int) (T:List Int):oIn n (a,.int x) (b,.tup (T.map Da.int))=some (.pu,.bl (if n then !decide (x∈T) else decide (x∈T))):=by
  unfold oIn Ab EX
  dsimp only
  rw [Et,if_pos rfl,G7]
  rfl
@[simp] theorem oIn_LI (n:Bool) (a b:Kd) (x:Int) (T:List Int):oIn n (a,.int x) (b,.lst (T.map Da.int))=some (.pu,.bl (if n then !decide (x∈T) else decide (x∈T))):=by
  unfold oIn Ab EX
  dsimp only
  rw [Et,if_pos rfl,G7]
  rfl
theorem Dh {X:Da} {H l:List Int} (hX:X=.tup (H.map Da.int)\/X=.lst (H.map Da.int)) (hl:l.length<=1000000):fn_holds_all [X,dD l]=some (.bl (l.all fun x=>decide (x∈H))):=by
 have hc:=eu (enc:=Da.int) (xs:=l) (ix:=[none,none,some 0]) (fi:=cF (iG (aW 1))) (i:=1) (c:=fun _=>some true) (f:=x2 (oIn false) (aW 1) (aW 2)) (ρ:=[.pu X,.pu (dD l)]) (p:=fun _=>true) (e:=fun x=>.bl (decide (x∈H)))
  (su (by simp)) hl fun x hx=>⟨rfl,fun _=>⟨(.pu,.bl (decide (x∈H))),by rcases hX with rfl | rfl<;>simp [mpR],rfl,rfl⟩⟩
 rw [eF] at hc
 refine mf (ρ:=[.pu X,.pu (dD l)]) rfl ?_
 simp only [g_holds_all,hZ,sQ,cq,dL,hc,FA]
structure Cs (L:List PI) (P H:List Int):Prop where
 ris:H.Pairwise fun a b=>Ms.ltI a b=true
 sub:∀ x∈H,x∈P
 cl:∀ x∈H,∀ a,(a,x)∈L->a∈H
theorem wD {H:List Int} (h:H.Pairwise fun a b=>Ms.ltI a b=true):H.Nodup:=h.imp fun {a b} z w=>by subst w;rw [Ms.linI.irr] at z;cases z
def srI (l:List Int):List Int:=Ms.srt Ms.ltI l
theorem lE {l:List Int} {x:Int}:x∈srI l↔x∈l:=(Ms.srt_perm l).mem_iff
def Hz (L:List PI) (x:Int) (F:List (List Int)):List (List Int):=F++(F.filter fun H=>(dt (low L) x).all fun u=>decide (u∈H)).map fun H=>srI (H++[x])
structure J4 (L:List PI) (P:List Int) (F:List (List Int)):Prop where
 nd:F.Nodup
 mem:∀ H,H∈F↔Cs L P H
 len:F.length<=2 ^ P.length
theorem Ks {L:List PI} {x:Int} {H:List Int}:((dt (low L) x).all fun u=>decide (u∈H))=true↔∀ a,(a,x)∈L->a∈H:=by
 rw [cB]
 exact ⟨fun h a ha=>by simpa using h a ((fF L x a).mpr ha),fun h u hu=>by simpa using h u ((fF L x u).mp hu)⟩
theorem qy {H:List Int} {x:Int} (h:H.Pairwise fun a b=>Ms.ltI a b=true) (hx:x∉H):(srI (H++[x])).Pairwise fun a b=>Ms.ltI a b=true :=
 Ms.srt_strict Ms.linI (bp.mpr ⟨wD h,aS _ _,fun a ha b hb=>by rw [av] at hb;subst hb;intro z;subst z;exact hx ha⟩)
theorem J4.step {n:Int} {L:List PI} (Y:Yd n L) {P:List Int} {F:List (List Int)} {x:Int} (h:J4 L P F) (hx:x∉P) (late:∀ y∈P,(x,y)∉L):J4 L (P++[x]) (Hz L x F):=by
 have hxH:∀ H∈F,x∉H:=fun H hH z=>hx (((h.mem H).mp hH).sub x z)
 refine ⟨?_,fun H'=>?_,?_⟩
 ·unfold Hz
  refine bp.mpr ⟨h.nd,?_,fun a ha b hb=>?_⟩
  ·refine bB.mpr ((h.nd.sublist (bQ)).imp_of_mem fun {A B} hA hB ne e=>ne ?_)
   have hA':=(aI.mp hA).1
   have hB':=(aI.mp hB).1
   refine Ms.strict_ext Ms.linI ((h.mem A).mp hA').ris ((h.mem B).mp hB').ris fun z=>?_
   have hz:z∈srI (A++[x])↔z∈srI (B++[x]):=by rw [e]
   rw [lE,lE,az,az,av] at hz
   by_cases zx:z=x
   ·subst zx
    exact ⟨fun q=>absurd q (hxH A hA'),fun q=>absurd q (hxH B hB')⟩
   ·exact ⟨fun q=>(hz.mp (.inl q)).resolve_right zx,fun q=>(hz.mpr (.inl q)).resolve_right zx⟩
  ·obtain ⟨B,hB,rfl⟩:=aK.mp hb
   intro z
   exact hxH a ha (by rw [z,lE];simp)
 ·unfold Hz
  rw [az,aK]
  constructor
  ·rintro (q | ⟨H,hH,rfl⟩)
   ·have:=(h.mem H').mp q
    exact ⟨this.ris,fun y hy=>bw _ (this.sub y hy),this.cl⟩
   ·obtain ⟨hF,hfit⟩:=aI.mp hH
    have hh:=(h.mem H).mp hF
    refine ⟨qy hh.ris (hxH H hF),fun y hy=>?_,fun y hy a ha=>?_⟩
    ·rw [lE,az] at hy
     rw [az]
     exact hy.imp (hh.sub y) id
    ·rw [lE,az,av] at hy
     rw [lE,az]
     rcases hy with hy | rfl
     ·exact .inl (hh.cl y hy a ha)
     ·exact .inl (Ks.mp hfit a ha)
  ·intro q
   by_cases hm:x∈H'
   ·refine .inr ⟨H'.filter fun y=>decide (y≠x),aI.mpr ⟨(h.mem _).mpr ⟨q.ris.sublist bQ,fun y hy=>?_,fun y hy a ha=>?_⟩,Ks.mpr fun a ha=>?_⟩,?_⟩
    ·obtain ⟨h1,h2⟩:=aI.mp hy
     have:=q.sub y h1
     rw [az,av] at this
     exact this.resolve_right (by simpa using h2)
    ·obtain ⟨h1,h2⟩:=aI.mp hy
     have hyx:y≠x:=by simpa using h2
     have hyP:y∈P:=by
      have:=q.sub y h1
      rw [az,av] at this
      exact this.resolve_right hyx
     exact aI.mpr ⟨q.cl y h1 a ha,by simpa using fun z:a=x=>late y hyP (z▸ha)⟩
    ·exact aI.mpr ⟨q.cl x hm a ha,by simpa using fun z:a=x=>Y.irr x (by rw [z] at ha;exact ha)⟩
    ·refine Ms.strict_ext Ms.linI (qy (q.ris.sublist bQ) (by simp)) q.ris fun y=>?_
     rw [lE,az,av,aI]
     by_cases e:y=x
     ·subst e;simp [hm]
     ·simp [e]
   ·refine .inl ((h.mem H').mpr ⟨q.ris,fun y hy=>?_,q.cl⟩)
    have:=q.sub y hy
    rw [az,av] at this
    exact this.resolve_right fun z=>hm (z▸hy)
 ·unfold Hz
  rw [aN,ab,aN,bx,Nat.pow_succ]
  have h1:=eJ (fun H=>(dt (low L) x).all fun u=>decide (u∈H)) F
  have h2:=h.len
  lia
def hk (H:List Int):List Int:=(H.length:Int)::H
theorem Ig {A B:List Int} (h:hk A=hk B):A=B:=by unfold hk at h;injection h
def ltH (A B:List Int):Bool:=HT.lexLt (hk A) (hk B)
theorem zv:∀ F:List (List Int),hkD (F.map fun H=>.tup [.int H.length,dT H])=some (F.map hk)
 | []=>rfl
 | H::F=>by
   show (match gL (H.map Da.int),hkD (F.map fun H=>.tup [.int H.length,dT H]) with | some ns,some ts=>some (((H.length:Int)::ns)::ts) | _,_=>none)=_
   rw [fS,zv F]
   rfl
theorem yw (F:List (List Int)):∃ hs:List (List Int),(∀ g:List Int->Da,((nJ vF ([]:List Int) (F.map hk)).map fun i=>(F.map g).getD i .non)=hs.map g)/\hs.Perm F/\hs.Pairwise fun x y=>ltH y x=false:=by
 obtain ⟨hp,hs⟩:=kI vF ([]:List Int) (F.map hk)
 have hp':(nJ vF ([]:List Int) (F.map hk)).Perm (bG F.length):=by
  have e:gj (α:=vF.α) (F.map hk)=F.length:=ab _
  rw [e] at hp
  exact hp
 refine ⟨(nJ vF ([]:List Int) (F.map hk)).map fun i=>F.getD i [],fun g=>?_,tY hp',?_⟩
 ·rw [aC]
  refine dr fun i hi=>?_
  have hi':i<F.length:=by simpa using hp'.mem_iff.mp hi
  show (F.map g).getD i .non=g (F.getD i [])
  rw [aB,ay,aj hi',aB,aj hi']
  rfl
 ·rw [bB] at hs ⊢
  refine hs.imp_of_mem fun {i j} hi hj z=>?_
  have hi':i<F.length:=by simpa using hp'.mem_iff.mp hi
  have hj':j<F.length:=by simpa using hp'.mem_iff.mp hj
  have z:HT.lexLt ((F.map hk).getD j []) ((F.map hk).getD i [])=false:=z
  have ei:(F.map hk).getD i []=hk (F.getD i []):=by
   rw [aB,ay,aj hi',aB,aj hi'];rfl
  have ej:(F.map hk).getD j []=hk (F.getD j []):=by
   rw [aB,ay,aj hj',aB,aj hj'];rfl
  rw [ei,ej] at z
  exact z
theorem K3 {F:List (List Int)} (h:F.Nodup):(F.map hk).Nodup:=bB.mpr (h.imp fun {a b} z w=>z (Ig w))
theorem vc {F:List (List Int)} {lam:Da->Option Da} (h:∀ H∈F,lam (dT H)=some (.tup [.int H.length,dT H])) (hl:F.length<=63) (hn:F.Nodup):∃ hs:List (List Int),rB lam (F.map dT)=some (hs.map dT)/\hs.Perm F/\hs.Pairwise fun x y=>ltH y x=false:=by
 have e1:=rM (lam:=lam) (enc:=dT) (e:=fun H=>.tup [.int H.length,dT H]) (xs:=F) h
 obtain ⟨hs,q1,q2,q3⟩:=yw F
 refine ⟨hs,?_,q2,q3⟩
 unfold rB
 rw [if_pos (by rw [ab];lia),e1]
 dsimp only
 have hok:OkN (F.map hk):=.inr ⟨by rw [ab];exact hl,K3 hn⟩
 cases F with
 | nil=>exact congrArg some (q1 dT)
 | cons A F =>
   unfold wu
   rw [show gL ((A::F).map fun H=>Da.tup [.int H.length,dT H])=none from rfl,zv]
   dsimp only
   rw [if_pos hok]
   exact congrArg some (q1 dT)
theorem rJ {n:Int} {L:List PI} (Y:Yd n L) (h0:0<=n) (h5:n<=5) (hl:L.length<=1000):∃ hs:List (List Int),fn_heads [dY n L]=some (.tup (hs.map dT))/\hs.Nodup/\(∀ H,H∈hs↔Cs L (rgI 0 n.toNat) H)/\(hs.Pairwise fun x y=>ltH y x=false)/\hs.length<=32:=by
 obtain ⟨ord,hup,hperm,hsrt⟩:=na (low L) h0 (by lia)
 have ho:=sA Y hsrt
 have hnd:ord.Nodup:=hperm.nodup_iff.mpr (fz _ _)
 have hol:ord.length<=5:=by rw [hperm.length_eq,e6];lia
 have pw:∀ k,k<=5->2 ^ k<=32:=fun k hk=>by
  have:=Nat.pow_le_pow_right (show 0<2 by decide) hk
  lia
 have key:∃ d,fn_heads [dY n L]=some d/\∃ hs:List (List Int),d=.tup (hs.map dT)/\∃ F,J4 L ord F/\hs.Perm F/\hs.Pairwise fun x y=>ltH y x=false:=by
  refine nT ?_
  unfold g_heads
  have e0:fm 5 [dY n L]=[.pu (dY n L),.no,.no,.no,.no]:=rfl
  rw [e0]
  refine cS (d9 (ρ':=[.pu (dY n L),.pu (dU (low L)),.no,.no,.no]) (by simp [dY,oV hl]) ?_)
  refine cS (d9 (ρ':=[.pu (dY n L),.pu (dU (low L)),.pu (.lst (([[]]:List (List Int)).map dT)),.no,.no]) (by simp [dT]) ?_)
  refine cS ?_
  refine j8 (enc:=Da.int) (xs:=ord) (fun pre ρ=>∃ F s3 s4,ρ=[.pu (dY n L),.pu (dU (low L)),.pu (.lst (F.map dT)),s3,s4]/\J4 L pre F) ?_ ⟨[[]],_,_,rfl,⟨aS _ _,fun H=>?_,by simp⟩⟩ ?_ ?_
  ·have hz:x2 oIt (aW 0) (xC (.int 0)) [.pu (dY n L),.pu (dU (low L)),.pu (.lst (([[]]:List (List Int)).map dT)),.no,.no]=some (.pu,.int n):=by simp [dY]
   simp only [lc,pg,oG,cq,hz,im,dL,br,bv,fj,fQ,gU,if_true,cn,hup]
  ·rw [av]
   constructor
   ·rintro rfl;exact ⟨.nil,by simp,by simp⟩
   ·intro q
    cases H with
    | nil=>rfl
    | cons a H=>exact absurd (q.sub a ah) (by simp)
  ·rintro pre x post ρ e ⟨F,s3,s4,rfl,fi⟩
   have hple:pre.length<=5:=by rw [e] at hol;rw [aN] at hol;lia
   have hF:F.length<=32:=bL fi.len (pw _ hple)
   refine ⟨[.pu (dY n L),.pu (dU (low L)),.pu (.lst (F.map dT)),.pu (.int x),s4],rfl,?_⟩
   refine cS (d9 (ρ':=[.pu (dY n L),.pu (dU (low L)),.pu (.lst (F.map dT)),.pu (.int x),.pu (dD (dt (low L) x))]) ?_ ?_)
   ·have:=xw (low L) x (aW 1) (aW 3) [.pu (dY n L),.pu (dU (low L)),.pu (.lst (F.map dT)),.pu (.int x),s4] (k:=.pu) (k':=.pu) rfl rfl
    simp only [iS]
    rw [this]
    rfl
   have hlen:∀ H∈F,H.length<=5:=fun H hH=>by
    have q:=(fi.mem H).mp hH
    exact bL (Ms.length_le_of_subset (wD q.ris) q.sub) hple
   have hc:=eu (enc:=dT) (xs:=F) (ix:=[none,none,none,none,none,some 3,some 4]) (fi:=cF (iG (aW 2))) (i:=1) (c:=tTr (cJ fn_holds_all (aJ (aW 1) (aJ (aW 6) cc)))) (f:=xB gv (aJ (xB eX (aJ (x2 nL (aW 1) (kX (aJ (aW 5) cc))) cc)) cc))
    (ρ:=[.pu (dY n L),.pu (dU (low L)),.pu (.lst (F.map dT)),.pu (.int x),.pu (dD (dt (low L) x))]) (p:=fun H=>(dt (low L) x).all fun u=>decide (u∈H)) (e:=fun H=>dT (srI (H++[x]))) (by simp) (by lia) fun H hH=>?_
   ·refine d9 (ρ':=[.pu (dY n L),.pu (dU (low L)),.pu (.lst ((Hz L x F).map dT)),.pu (.int x),.pu (dD (dt (low L) x))]) ?_ ⟨_,_,_,rfl,fi.step Y ?_ fun y hy=>?_⟩
    ·have hlf:=eJ (fun H=>(dt (low L) x).all fun u=>decide (u∈H)) F
     simp only [iS,sO,hc,im,br,bv,IY]
     rw [if_pos (by rw [ab,ab];lia)]
     unfold Hz
     rw [bD,aC]
     rfl
    ·intro z
     rw [e] at hnd
     exact (bp.mp hnd).2.2 x z x ah rfl
    ·rw [e] at ho
     exact (eZ.mp ho).2.2 y hy x ah
   ·have hh:=Dh (X:=dT H) (H:=H) (l:=dt (low L) x) (.inl rfl) (by have:=vi L x;lia)
    have em:(mpR [none,none,none,none,none,some 3,some 4] [.pu (dY n L),.pu (dU (low L)),.pu (.lst (F.map dT)),.pu (.int x),.pu (dD (dt (low L) x))]).set 1 (.pu (dT H))=[.no,.pu (dT H),.no,.no,.no,.pu (.int x),.pu (dD (dt (low L) x))]:=rfl
    rw [em]
    refine ⟨?_,fun _=>⟨(.pu,dT (srI (H++[x]))),?_,rfl,rfl⟩⟩
    ·simp only [JG,oG,cq,im,dL,br,bv,fj,fQ,gU,if_true,cn,hh]
     rfl
    ·have hs:=nj (ns:=H++[x]) (by have:=hlen H hH;rw [aN,bx];lia)
     rw [bD] at hs
     have hso:eX [(Kd.pu,Da.tup (H.map Da.int++[Da.int x]))]=some (.fr,.lst ((Ms.srt Ms.ltI (H++[x])).map Da.int)):=by
      unfold eX
      dsimp only
      rw [show g6 Da.int H++[Da.int x]=g6 Da.int H++g6 Da.int [x] from rfl,hs]
     simp only [sQ,cq,dL,sO,im,xy,br,bv,fj,fQ,gU,if_true,cn,dT,aG,cX]
     rw [if_pos (by decide)]
     dsimp only
     rw [EK,if_pos (by have:=hlen H hH;rw [ab,bx];lia)]
     dsimp only
     rw [hso]
     rfl
  ·rintro ρ ⟨F,s3,s4,rfl,fi⟩
   have hF:F.length<=32:=bL fi.len (pw _ hol)
   obtain ⟨hs,e1,p1,o1⟩:=vc (F:=F) (lam:=D9 [none,none] 0 (kX (aJ (xB p6 (aJ (aW 0) cc)) (aJ (aW 0) cc))) [.pu (dY n L),.pu (dU (low L)),.pu (.lst (F.map dT)),s3,s4]) (fun H hH=>by
    unfold D9
    have em:(mpR [none,none] [.pu (dY n L),.pu (dU (low L)),.pu (.lst (F.map dT)),s3,s4]).set 0 (.pu (dT H))=[.pu (dT H),.no]:=rfl
    rw [em]
    simp [dT]) (by lia) fi.nd
   refine oe (d:=.tup (hs.map dT)) ?_ ⟨hs,rfl,F,fi,p1,o1⟩
   have ei:qG (aW 2) [.pu (dY n L),.pu (dU (low L)),.pu (.lst (F.map dT)),s3,s4]=some (F.map dT):=rfl
   have es:kz [none,none] 0 (qG (aW 2)) (kX (aJ (xB p6 (aJ (aW 0) cc)) (aJ (aW 0) cc))) [.pu (dY n L),.pu (dU (low L)),.pu (.lst (F.map dT)),s3,s4]=some (.fr,.lst (hs.map dT)):=by
    unfold kz
    rw [ei]
    dsimp only
    rw [e1]
   simp only [hZ,sQ,cq,dL,es,xg]
 obtain ⟨d,ed,hs,rfl,F,fi,p1,o1⟩:=key
 refine ⟨hs,ed,p1.nodup_iff.mpr fi.nd,fun H=>?_,o1,by rw [p1.length_eq];exact bL fi.len (pw _ hol)⟩
 rw [p1.mem_iff,fi.mem]
 exact ⟨fun q=>⟨q.ris,fun x hx=>hperm.mem_iff.mp (q.sub x hx),q.cl⟩,fun q=>⟨q.ris,fun x hx=>hperm.mem_iff.mpr (q.sub x hx),q.cl⟩⟩
end GH
set_option linter.unusedSimpArgs false
namespace GH
open PySem L2 Ry G G3 GW
abbrev Wd:=List (List Int×Int)
def kT (H:List Int):List Key:=H.map aq
theorem xt:∀ {A B:List Int},kT A=kT B->A=B
 | [],[],_=>rfl
 | [],_::_,h=>by cases h
 | _::_,[],h=>by cases h
 | a::A,b::B,h=>by
   unfold kT at h
   rw [aw,aw] at h
   injection h with h1 h2
   rw [cZ h1,xt (A:=A) (B:=B) h2]
theorem vC:∀ H:List Int,my (H.map Da.int)=some (kT H)
 | []=>rfl
 | a::H=>by
   show (match Em (.int a),my (H.map Da.int) with | some j,some js=>some (j::js) | _,_=>none)=_
   rw [vC H]
   rfl
def dW (W:Wd):Da:=.dT (W.map fun e:List Int×Int=>kT e.1) (W.map fun e=>.int e.2)
def vI:Wd->List Int->Option Int
 | [],_=>none
 | (A,d)::W,H=>if A=H then some d else vI W H
def xV:Wd->List Int->Int->Wd
 | [],H,c=>[(H,c)]
 | (A,d)::W,H,c=>if A=H then (A,c)::W else (A,d)::xV W H c
theorem JL:∀ (W:Wd) (H:List Int),atK (W.map fun e:List Int×Int=>kT e.1) (W.map fun e:List Int×Int=>Da.int e.2) (kT H)=(vI W H).map Da.int
 | [],H=>rfl
 | (A,d)::W,H=>by
   show (if kT A=kT H then some (Da.int d) else atK (W.map fun e:List Int×Int=>kT e.1) (W.map fun e:List Int×Int=>Da.int e.2) (kT H))=(if A=H then some d else vI W H).map Da.int
   by_cases h:A=H
   ·subst h;rw [if_pos rfl,if_pos rfl];rfl
   ·rw [if_neg (fun z=>h (xt z)),if_neg h,JL W H]
theorem zy (W:Wd) (H:List Int):ml (dW W) (dT H)=some ((vI W H).map Da.int):=by
 show (match my (H.map Da.int) with | some j=>some (atK (W.map fun e:List Int×Int=>kT e.1) (W.map fun e:List Int×Int=>Da.int e.2) j) | none=>none)=_
 rw [vC]
 dsimp only
 rw [JL]
theorem wH:∀ (W:Wd) (H A:List Int) (c:Int),vI (xV W H c) A=if A=H then some c else vI W A
 | [],H,A,c=>by
   show (if H=A then some c else none)=_
   by_cases h:A=H
   ·subst h;rw [if_pos rfl,if_pos rfl]
   ·rw [if_neg (fun z=>h z.symm),if_neg h];rfl
 | (B,d)::W,H,A,c=>by
   unfold xV
   by_cases h:B=H
   ·subst h
    rw [if_pos rfl]
    show (if B=A then some c else vI W A)=if A=B then some c else (if B=A then some d else vI W A)
    by_cases h2:A=B
    ·subst h2;rw [if_pos rfl,if_pos rfl]
    ·rw [if_neg (fun z=>h2 z.symm),if_neg h2,if_neg (fun z=>h2 z.symm)]
   ·rw [if_neg h]
    show (if B=A then some d else vI (xV W H c) A)=if A=H then some c else (if B=A then some d else vI W A)
    rw [wH W H A c]
    by_cases h2:B=A
    ·subst h2;rw [if_pos rfl,if_neg h,if_pos rfl]
    ·rw [if_neg h2,if_neg h2]
theorem mt:∀ (W:Wd) (H:List Int) (c:Int),(xV W H c).map (·.1)=if H∈W.map (·.1) then W.map (·.1) else W.map (·.1)++[H]
 | [],H,c=>rfl
 | (B,d)::W,H,c=>by
   unfold xV
   by_cases h:B=H
   ·subst h;rw [if_pos rfl,if_pos (by simp)];rfl
   ·rw [if_neg h,aw,mt W H c,aw]
    have hne:H≠B:=fun z=>h z.symm
    by_cases h2:H∈W.map (·.1)
    ·rw [if_pos h2,if_pos (ag _ h2)]
    ·rw [if_neg h2,if_neg (fun z=>(am.mp z).elim hne h2)];rfl
theorem JA {W:Wd} {H:List Int} {c:Int} (h:(W.map (·.1)).Nodup):((xV W H c).map (·.1)).Nodup:=by
 rw [mt]
 split
 ·exact h
 ·rename_i hn
  exact bp.mpr ⟨h,aS _ _,fun a ha b hb=>by rw [av] at hb;subst hb;intro z;subst z;exact hn ha⟩
theorem EZ:∀ (W:Wd) (H:List Int) (c:Int),gR (W.map fun e:List Int×Int=>kT e.1) (kT H)=((xV W H c).map fun e=>kT e.1)/\gN (W.map fun e:List Int×Int=>kT e.1) (W.map fun e:List Int×Int=>Da.int e.2) (kT H) (.int c)=(xV W H c).map fun e=>Da.int e.2
 | [],H,c=>⟨rfl,rfl⟩
 | (B,d)::W,H,c=>by
   have ih:=EZ W H c
   unfold xV
   by_cases h:B=H
   ·subst h
    rw [if_pos rfl]
    exact ⟨if_pos rfl,if_pos rfl⟩
   ·rw [if_neg h]
    have hk:¬ kT B=kT H:=fun z=>h (xt z)
    refine ⟨(if_neg hk).trans ?_,(if_neg hk).trans ?_⟩
    ·rw [ih.1];rfl
    ·rw [ih.2];rfl
theorem JS {W:Wd} (H:List Int) (c:Int) (nd:(W.map (·.1)).Nodup) (hl:W.length<=1000000):HG (dW W) (dT H) (.int c)=some (dW (xV W H c)):=by
 have nd':(W.map fun e:List Int×Int=>kT e.1).Nodup:=by
  have:(W.map fun e:List Int×Int=>kT e.1)=(W.map (·.1)).map kT:=by rw [aC];rfl
  rw [this]
  exact bB.mpr (nd.imp fun {a b} z w=>z (xt w))
 show (match my (H.map Da.int) with | some j=>if (W.map fun e:List Int×Int=>kT e.1).Nodup/\(W.map fun e:List Int×Int=>kT e.1).length<=1000000 then some (Da.dT (gR (W.map fun e:List Int×Int=>kT e.1) j) (gN (W.map fun e:List Int×Int=>kT e.1) (W.map fun e:List Int×Int=>Da.int e.2) j (.int c))) else none | none=>none)=_
 rw [vC]
 dsimp only
 rw [if_pos ⟨nd',by rw [ab];exact hl⟩,(EZ W H c).1,(EZ W H c).2]
 rfl
theorem cR {fn:List Da->Option Da} {g:Rho->Option (List Rv)} {ρ:Rho} {rs:List Rv} {ds:List Da} {d:Da} (hg:g ρ=some rs) (hp:kH rs=some ds) (hf:fn ds=some d):cJ fn g ρ=some (.pu,d):=by
 unfold cJ
 rw [hg]
 dsimp only
 rw [hp]
 dsimp only
 rw [hf]
theorem Ip (ds:List Da) (k:Nat):v3 ds none (some (k:Int))=ds.take k:=by
 unfold v3
 rw [HT.sIx_none,HT.sIx_nat,jb,uX]
 by_cases h:k<=ds.length
 ·rw [D6 h]
 ·rw [Cb (by lia),eC (ax _),eC (by lia)]
theorem Il (ds:List Da) (k:Nat):v3 ds (some (k:Int)) none=ds.drop k:=by
 unfold v3
 rw [HT.sIx_none,HT.sIx_nat]
 by_cases h:k<=ds.length
 ·rw [D6 h,eC (by rw [jU];lia)]
 ·rw [Cb (by lia),uQ (ax _),uQ (by lia),List.take_nil]
theorem Hu (W:Wd) (H:List Int) (hl:H.length<=1000):fn_ways_up_to [dW W,dT H]=some (.int (sm (rgI 0 H.length) fun k=>(vI W (H.eraseIdx k.toNat)).getD 0)):=by
 have hc:=eu (enc:=Da.int) (xs:=rgI 0 H.length) (ix:=[none,none,some 1,some 0]) (fi:=mn (aJ (xB p6 (aJ (aW 1) cc)) cc)) (i:=1) (c:=fun _=>some true)
  (f:=ju (aW 3) (x2 nL (j6 (aW 2) oT (oa (aW 1))) (j6 (aW 2) (oa (x2 nL (aW 1) (xC (.int 1)))) oT)) (xC (.int 0))) (ρ:=[.pu (dW W),.pu (dT H)]) (p:=fun _=>true) (e:=fun k=>.int ((vI W (H.eraseIdx k.toNat)).getD 0))
  ?_ (by rw [e6];lia) fun k hk=>⟨rfl,fun _=>⟨(.pu,.int ((vI W (H.eraseIdx k.toNat)).getD 0)),?_,rfl,rfl⟩⟩
 ·rw [eF] at hc
  refine mf (ρ:=[.pu (dW W),.pu (dT H)]) rfl ?_
  unfold g_ways_up_to
  rw [hZ,sQ,cq,hc,dL]
  dsimp only
  rw [Ek]
 ·simp only [xc,cq,sQ,im,dL,br,bv,dT,IX,ab]
  rw [if_pos (by lia),eQ]
  congr 3
 ·have hm:=fq.mp hk
  obtain ⟨j,rfl⟩:∃ j:Nat,k=(j:Int):=⟨k.toNat,by lia⟩
  have em:(mpR [none,none,some 1,some 0] [.pu (dW W),.pu (dT H)]).set 1 (.pu (.int (j:Int)))=[.no,.pu (.int (j:Int)),.pu (dT H),.pu (dW W)]:=rfl
  rw [em]
  have s1:j6 (aW 2) oT (oa (aW 1)) [.no,.pu (.int (j:Int)),.pu (dT H),.pu (dW W)]=some (.pu,.tup ((H.map Da.int).take j)):=by
   show some (Kd.pu,Da.tup (v3 (H.map Da.int) none (some (j:Int))))=_
   rw [Ip]
  have s2:j6 (aW 2) (oa (x2 nL (aW 1) (xC (.int 1)))) oT [.no,.pu (.int (j:Int)),.pu (dT H),.pu (dW W)]=some (.pu,.tup ((H.map Da.int).drop (j+1))):=by
   show some (Kd.pu,Da.tup (v3 (H.map Da.int) (some ((j:Int)+1)) none))=_
   rw [show (j:Int)+1=((j+1:Nat):Int) by lia,Il]
  have hj:j<H.length:=by lia
  have ek:Da.tup ((H.map Da.int).take j++(H.map Da.int).drop (j+1))=dT (H.eraseIdx j):=by
   unfold dT
   rw [List.eraseIdx_eq_take_drop_succ,bD,List.map_take,List.map_drop]
  simp only [oR,im,sO,s1,s2,EK,Iw,br,bv]
  rw [if_pos (by rw [gx,jU,ab];lia)]
  dsimp only
  rw [ek,zy,g9]
  cases vI W (H.eraseIdx j) with
  | none=>rfl
  | some c=>rfl
def hdB (L:List PI) (H:List Int):Bool:=H.all fun x=>(dt (low L) x).all fun a=>decide (a∈H)
theorem lL {L:List PI} {H:List Int}:hdB L H=true↔∀ x∈H,∀ a,(a,x)∈L->a∈H:=by
 unfold hdB
 rw [cB]
 exact ⟨fun h x hx=>Ks.mp (h x hx),fun h x hx=>Ks.mpr (h x hx)⟩
def wN (p:List Int->Bool):Nat->List Int->Int
 | 0,H=>if p H=true then 1 else 0
 | k+1,H=>if p H=true then sm (rgI 0 (k+1)) fun i=>wN p k (H.eraseIdx i.toNat) else 0
def wL (p:List Int->Bool) (H:List Int):Int:=wN p H.length H
theorem JK {p:List Int->Bool} {H:List Int} (h:p H=false):wL p H=0:=by
 unfold wL
 cases H.length with
 | zero=>unfold wN;rw [h];rfl
 | succ k=>unfold wN;rw [h];rfl
theorem D7 {p:List Int->Bool} {H:List Int} (h:p H=true) (hn:H≠[]):wL p H=sm (rgI 0 H.length) fun i=>wL p (H.eraseIdx i.toNat):=by
 obtain ⟨k,hk⟩:∃ k,H.length=k+1:=⟨H.length-1,by have:=xS.mpr hn;lia⟩
 have e:wL p H=wN p (k+1) H:=by unfold wL;rw [hk]
 rw [e]
 unfold wN
 rw [if_pos h,hk]
 refine dF fun i hi=>?_
 have hm:=fq.mp hi
 unfold wL
 rw [gs (by lia),hk]
 rfl
theorem GX {A B:List Int} (h:A.length<B.length):ltH A B=true:=by
 unfold ltH hk
 rw [HT.lexLt_cons,if_neg (by lia),decide_eq_true_eq]
 lia
theorem Dp {n:Int} {L:List PI} (Y:Yd n L) (h0:0<=n) (h5:n<=5) (hl:L.length<=1000):fn_lines [dY n L]=some (.int (wL (hdB L) (rgI 0 n.toNat))):=by
 obtain ⟨hs,eh,hnd,hmem,hso,hsl⟩:=rJ Y h0 h5 hl
 have hnil:Cs L (rgI 0 n.toNat) []:=⟨.nil,by simp,by simp⟩
 have hall:Cs L (rgI 0 n.toNat) (rgI 0 n.toNat):=⟨jp _ _,fun x hx=>hx,fun x _ a ha=>by
  have:=(Y.rg _ ha).1
  dsimp only at this
  exact fq.mpr (by lia)⟩
 have hlen:∀ H∈hs,H.length<=6:=fun H hH=>by
  have q:=(hmem H).mp hH
  have:=Ms.length_le_of_subset (wD q.ris) q.sub
  rw [e6] at this
  lia
 refine tp ?_
 unfold g_lines
 have e0:fm 3 [dY n L]=[.pu (dY n L),.no,.no]:=rfl
 rw [e0]
 refine cS (d9 (ρ':=[.pu (dY n L),.ow (dW [([],1)]),.no]) (by simp [oY,dW,kT,gL]) ?_)
 refine cS ?_
 refine j8 (enc:=dT) (xs:=hs) (fun pre ρ=>∃ W s2,ρ=[.pu (dY n L),.ow (dW W),s2]/\(W.map (·.1)).Nodup/\(∀ e∈W,e.1=[]\/e.1∈pre)/\∀ H,vI W H=if H=[]\/H∈pre then some (wL (hdB L) H) else none) ?_ ⟨[([],1)],_,rfl,aS _ _,by simp,fun H=>?_⟩ ?_ ?_
 ·simp [eh]
 ·show (if []=H then some 1 else none)=_
  by_cases h:H=[]
  ·subst h;rw [if_pos rfl,if_pos (.inl rfl)];rfl
  ·rw [if_neg (fun z=>h z.symm),if_neg (by simp [h])]
 ·rintro pre H post ρ e ⟨W,s2,rfl,nd,hk,hg⟩
  have hH:H∈hs:=by rw [e];simp
  have qH:=(hmem H).mp hH
  refine ⟨[.pu (dY n L),.ow (dW W),.pu (dT H)],rfl,?_⟩
  refine rH (b:=!H.isEmpty) ?_ (fun q=>?_) fun q=>?_
  ·cases H with
   | nil=>rfl
   | cons a H=>simp [dT,tTr]
  ·have hne:H≠[]:=by intro z;subst z;cases q
   have hpH:hdB L H=true:=lL.mpr qH.cl
   have hw:fn_ways_up_to [dW W,dT H]=some (.int (wL (hdB L) H)):=by
    rw [Hu W H (by have:=hlen H hH;lia),D7 hpH hne]
    congr 2
    refine dF fun k hk=>?_
    have hm:=fq.mp hk
    have hkl:k.toNat<H.length:=by lia
    rw [hg]
    by_cases hp:hdB L (H.eraseIdx k.toNat)=true
    ·have hd':Cs L (rgI 0 n.toNat) (H.eraseIdx k.toNat):=⟨qH.ris.sublist (u4 _ _),fun x hx=>qH.sub x ((u4 _ _).subset hx),lL.mp hp⟩
     have hin:=(hmem _).mpr hd'
     have hlt:(H.eraseIdx k.toNat).length<H.length:=by rw [gs hkl];lia
     have:H.eraseIdx k.toNat∈pre:=by
      rw [e] at hin hso
      rcases az.mp hin with z | z
      ·exact z
      ·rcases am.mp z with z | z
       ·rw [z] at hlt;lia
       ·have:=(bF.mp (eZ.mp hso).2.1).1 _ z
        rw [GX hlt] at this
        cases this
     rw [if_pos (.inr this)]
     rfl
    ·have hp':hdB L (H.eraseIdx k.toNat)=false:=by simpa using hp
     have hnn:¬ (H.eraseIdx k.toNat=[]\/H.eraseIdx k.toNat∈pre):=by
      rintro (z | z)
      ·rw [z] at hp';cases hp'
      ·exact hp (lL.mpr ((hmem _).mp (by rw [e];simp [z])).cl)
     rw [if_neg hnn,JK hp']
     rfl
   have hWl:W.length<=1000000:=by
    have h1:(W.map (·.1)).length<=([]::hs).length:=Ms.length_le_of_subset nd fun A hA=>by
     obtain ⟨x,hx,rfl⟩:=aK.mp hA
     rcases hk x hx with z | z
     ·rw [z];exact ah
     ·exact ag _ (by rw [e];simp [z])
    rw [ab,aG] at h1
    lia
   refine d9 (ρ':=[.pu (dY n L),.ow (dW (xV W H (wL (hdB L) H))),.pu (dT H)]) ?_ ⟨_,_,rfl,JA nd,fun x hx=>?_,fun A=>?_⟩
   ·have hlend:yd 1 (cJ fn_ways_up_to (aJ (aW 1) (aJ (aW 2) cc))) [.pu (dY n L),.ow (dW W),.pu (dT H)]=some (.pu,.int (wL (hdB L) H)):=by
     have hcall:cJ fn_ways_up_to (aJ (aW 1) (aJ (aW 2) cc)) [.pu (dY n L),.pu (dW W),.pu (dT H)]=some (.pu,.int (wL (hdB L) H)):=by
      exact cR (ds:=[dW W,dT H]) rfl rfl hw
     unfold yd
     have e1:([.pu (dY n L),.ow (dW W),.pu (dT H)]:Rho)[1]?=some (.ow (dW W)):=rfl
     rw [e1]
     dsimp only
     rw [if_pos (show nQ (dW W)=true from rfl)]
     have e2:([.pu (dY n L),.ow (dW W),.pu (dT H)]:Rho).set 1 (.pu (dW W))=[.pu (dY n L),.pu (dW W),.pu (dT H)]:=rfl
     rw [e2,hcall]
     dsimp only
     rw [if_pos (show uj (.int (wL (hdB L) H))=true from rfl)]
    rw [w6]
    have e1:([.pu (dY n L),.ow (dW W),.pu (dT H)]:Rho)[1]?=some (.ow (dW W)):=rfl
    have e2:aW 2 [.pu (dY n L),.ow (dW W),.pu (dT H)]=some (.pu,dT H):=rfl
    rw [e1,e2,hlend]
    dsimp only
    rw [if_pos (show e5 (Kd.pu,Da.int (wL (hdB L) H))=true from rfl),JS H _ nd hWl]
    rfl
   ·have hx1:x.1∈(xV W H (wL (hdB L) H)).map (·.1):=aK.mpr ⟨x,hx,rfl⟩
    rw [mt] at hx1
    have:x.1∈W.map (·.1)\/x.1=H:=by
     split at hx1
     ·exact .inl hx1
     ·rcases az.mp hx1 with z | z
      ·exact .inl z
      ·exact .inr (by simpa using z)
    rcases this with z | z
    ·obtain ⟨y,hy,ey⟩:=aK.mp z
     rw [<- ey]
     exact (hk y hy).imp id fun w=>bw _ w
    ·exact .inr (by rw [z];simp)
   ·rw [wH,hg]
    by_cases hA:A=H
    ·subst hA;rw [if_pos rfl,if_pos (.inr (by simp))]
    ·rw [if_neg hA]
     have:(A=[]\/A∈pre)↔(A=[]\/A∈pre++[H]):=by rw [az,av];simp [hA]
     by_cases h2:A=[]\/A∈pre
     ·rw [if_pos h2,if_pos (this.mp h2)]
     ·rw [if_neg h2,if_neg (fun z=>h2 (this.mpr z))]
  ·have hne:H=[]:=by cases H with | nil=>rfl | cons a H=>cases q
   subst hne
   refine d9 rfl ⟨W,_,rfl,nd,fun x hx=>(hk x hx).imp id fun w=>bw _ w,fun A=>?_⟩
   rw [hg]
   have:(A=[]\/A∈pre)↔(A=[]\/A∈pre++[[]]):=by
    rw [az,av]
    exact ⟨fun h=>h.imp id .inl,fun h=>h.elim .inl fun z=>z.elim .inr .inl⟩
   by_cases h2:A=[]\/A∈pre
   ·rw [if_pos h2,if_pos (this.mp h2)]
   ·rw [if_neg h2,if_neg (fun z=>h2 (this.mpr z))]
 ·rintro ρ ⟨W,s2,rfl,nd,hk,hg⟩
  refine oe (d:=.int (wL (hdB L) (rgI 0 n.toNat))) ?_ rfl
  have hz:x2 oIt (aW 0) (xC (.int 0)) [.pu (dY n L),.ow (dW W),s2]=some (.pu,.int n):=by simp [dY]
  have hr:jt (aJ (x2 oIt (aW 0) (xC (.int 0))) cc) [.pu (dY n L),.ow (dW W),s2]=some (.pu,dT (rgI 0 n.toNat)):=by
   unfold jt
   simp only [cq,dL,hz]
   rw [if_pos (by lia),eQ]
   rfl
  have hlk:ml (dW W) (dT (rgI 0 n.toNat))=some (some (.int (wL (hdB L) (rgI 0 n.toNat)))):=by
   rw [zy,hg,if_pos (.inr ((hmem _).mpr hall))]
   rfl
  have hit:oIt (.bo,dW W) (.pu,dT (rgI 0 n.toNat))=some (.pu,.int (wL (hdB L) (rgI 0 n.toNat))):=by
   show (oIx (.bo,dW W) (.pu,dT (rgI 0 n.toNat))).or (xh (.bo,dW W) (.pu,dT (rgI 0 n.toNat)))=_
   have e2:xh (.bo,dW W) (.pu,dT (rgI 0 n.toNat))=some (.pu,.int (wL (hdB L) (rgI 0 n.toNat))):=by
    unfold xh
    dsimp only
    rw [hlk]
   rw [e2]
   rfl
  simp only [hZ,sO,im,hr,br,bv,hit]
end GH
set_option linter.unusedSimpArgs false
set_option linter.unusedSimpArgs false
namespace G17
open PySem L2 Ry G G3 GW GH
theorem eqvAll_J:∀ P L:List Int,fD (ir (P.map Da.int)) (ir (L.map Da.int))=decide (P=L)
 | [],[]=>rfl
 | [],q::L=>rfl
 | p::P,[]=>rfl
 | p::P,q::L=>by
   show (cA (.int p) (.int q)&&fD (ir (P.map Da.int)) (ir (L.map Da.int)))=_
   rw [eqvAll_J P L,cY]
   simp only [cA,aY,beq_iff_eq,decide_eq_true_eq,mW]
end G17
namespace GF
open PySem L2 Ry G GW
noncomputable def g_heights_of:Rho->Res:=(iD (zC 2 (xC2 (.fr,.dK [] [])))
 (iD (qw (cF (iG (cJ fn_upwards (aJ (aW 0) (aJ (aW 1) cc))))) (tgN 3)
 (Ct 2 (aW 3) (x2 nL (xC (.int 1)) (xU (mv 2 (fy [none,none,some 2] (cF (iG (ju (aW 1) (aW 3) (xC2 (.fr,.dK [] []))))) (tgN 1) (fun _=>some true) (x2 oIt (aW 2) (aW 1)))) (o6 (xC (.int 1)))))))
 (fZ (aW 2))))
noncomputable def fn_heights_of:List Da->Option Da:=jl 4 g_heights_of
noncomputable def g_row_at:Rho->Res:=(fZ (xB gv (aJ (fy [none,none,some 1,some 0] (cF (iG (xB eX (aJ (aW 0) cc)))) (tgN 1) (tb (x2 (oEq false) (x2 oIt (aW 3) (aW 1)) (aW 2))) (aW 1)) cc)))
noncomputable def fn_row_at:List Da->Option Da:=jl 2 g_row_at
noncomputable def g_floors:Rho->Res:=(iD (lP 1 (cJ fn_heights_of (aJ (x2 oIt (aW 0) (xC (.int 0))) (aJ (cJ fn_lowers_of (aJ (x2 oIt (aW 0) (xC (.int 1))) cc)) cc))))
 (iD (zC 2 (CK cc))
 (iD (lP 3 (cJ fn_row_at (aJ (aW 1) (aJ (xC (.int 0)) cc))))
 (iD (jr (tTr (aW 3))
 (iD (lJ 2 (aW 3))
 (lP 3 (cJ fn_row_at (aJ (aW 1) (aJ (xB p6 (aJ (aW 2) cc)) cc))))) 200)
 (fZ (xB gv (aJ (aW 2) cc)))))))
noncomputable def fn_floors:List Da->Option Da:=jl 4 g_floors
end GF
set_option linter.unusedSimpArgs false
namespace GF
open PySem L2 Ry G G3 GW GH
theorem Dd {ds:List Da} (h:ds.all uj=true):E8 (.fr,.lst ds)=some (.fr,.lst ds):=by
 show (if ds.all uj=true then some ((Kd.fr,Da.lst ds):Rv) else none)=_
 rw [if_pos h]
theorem DG (ns:List Int):E8 (.fr,.lst (ns.map Da.int))=some (.fr,.lst (ns.map Da.int)):=Dd (by rw [nC,cB];intro x _;rfl)
theorem C6 {i:Nat} {f:Rho->Option Rv} {ρ:Rho} {d:Da} {r r':Rv} (h:ρ[i]?=some (.ow d)) (hd:nQ d=true) (hf:f (ρ.set i (.pu d))=some r) (ho:E8 r=some r'):mv i f ρ=some r':=by
 unfold mv
 rw [h]
 dsimp only
 rw [if_pos hd,hf]
 exact ho
theorem DK {d x:Int}:∀ {l:List Int},x∈l->x<=uC d l
 | [],h=>by cases h
 | a::r,h=>by
   obtain ⟨h1,h2,_⟩:=oS r a
   rcases am.mp h with z | z
   ·rw [z];exact h1
   ·exact h2 x z
theorem zh {d:Int}:∀ {l:List Int},l≠[]->uC d l∈l
 | [],h=>absurd rfl h
 | a::r,_=>by
   obtain ⟨_,_,h3⟩:=oS r a
   rcases h3 with z | z
   ·show yL a r∈_
    rw [z];exact ah
   ·exact ag _ z
structure Hts (L C:List PI):Prop where
 up:∀ x∈bX C,∀ a,(a,x)∈L->a∈bX C/\cE C a<cE C x
 dn:∀ x∈bX C,cE C x=0\/(0<cE C x/\∃ a,(a,x)∈L/\cE C a+1=cE C x)
theorem Hts.ge {L C:List PI} (h:Hts L C) {x:Int} (hx:x∈bX C):0<=cE C x:=by rcases h.dn x hx with z | z<;>lia
theorem Hts.add {n:Int} {L C:List PI} {x:Int} (Y:Yd n L) (h:Hts L C) (hx:x∉bX C) (hb:∀ a,(a,x)∈L->a∈bX C):Hts L (C++[(x,1+uC (-1) ((dt (low L) x).map (cE C)))]):=by
 have hne:∀ a,a∈bX C->a≠x:=fun a ha z=>hx (z▸ha)
 refine ⟨fun y hy a ha=>?_,fun y hy=>?_⟩
 ·rcases gI.mp hy with z | z
  ·obtain ⟨h1,h2⟩:=h.up y z a ha
   exact ⟨gI.mpr (.inl h1),by rw [ie h1,ie z];exact h2⟩
  ·subst z
   have h1:=hb a ha
   refine ⟨gI.mpr (.inl h1),?_⟩
   rw [ie h1,ol hx]
   have:=DK (d:=-1) (aK.mpr ⟨a,(fF L y a).mpr ha,rfl⟩:cE C a∈(dt (low L) y).map (cE C))
   lia
 ·rcases gI.mp hy with z | z
  ·rw [ie z]
   rcases h.dn y z with w | ⟨w1,a,w2,w3⟩
   ·exact .inl w
   ·exact .inr ⟨w1,a,w2,by rw [ie (h.up y z a w2).1];exact w3⟩
  ·subst z
   rw [ol hx]
   by_cases e:(dt (low L) y).map (cE C)=[]
   ·rw [e];exact .inl rfl
   ·obtain ⟨a,ha,ea⟩:=aK.mp (zh (d:=-1) e)
    have haL:=(fF L y a).mp ha
    have h1:=hb a haL
    have:=h.ge h1
    exact .inr ⟨by lia,a,haL,by rw [ie h1];lia⟩
theorem x8 {n:Int} {L:List PI} (Y:Yd n L) (h0:0<=n) (h1:n<64) (hl:L.length<=1000):∃ C:List PI,fn_heights_of [.int n,dU (low L)]=some (dC C)/\(bX C).Perm (rgI 0 n.toNat)/\Hts L C:=by
 obtain ⟨ord,hup,hperm,hsrt⟩:=na (low L) h0 h1
 have ho:=sA Y hsrt
 have hnd:ord.Nodup:=hperm.nodup_iff.mpr (fz _ _)
 have hol:ord.length<64:=by rw [hperm.length_eq,e6];lia
 have key:∃ d,fn_heights_of [.int n,dU (low L)]=some d/\∃ C:List PI,d=dC C/\bX C=ord/\Hts L C:=by
  refine nT ?_
  unfold g_heights_of
  have e0:fm 4 [.int n,dU (low L)]=[.pu (.int n),.pu (dU (low L)),.no,.no]:=rfl
  rw [e0]
  refine cS (d9 (ρ':=[.pu (.int n),.pu (dU (low L)),.ow (dC []),.no]) rfl ?_)
  refine cS ?_
  refine j8 (enc:=Da.int) (xs:=ord) (fun pre ρ=>∃ C s3,ρ=[.pu (.int n),.pu (dU (low L)),.ow (dC C),s3]/\bX C=pre/\Hts L C) ?_ ⟨[],_,rfl,rfl,⟨by simp [bX],by simp [bX]⟩⟩ ?_ ?_
  ·rw [lc,pg,cR (ds:=[.int n,dU (low L)]) rfl rfl hup]
  ·rintro pre x post ρ e ⟨C,s3,rfl,hf,ht⟩
   have hx:x∉bX C:=by
    rw [hf]
    rw [e] at hnd
    exact fun z=>(bp.mp hnd).2.2 x z x ah rfl
   have hCn:(bX C).Nodup:=by rw [hf];rw [e] at hnd;exact (bp.mp hnd).1
   have hCl:C.length<64:=by
    rw [<- Cw,hf]
    rw [e,aN] at hol
    lia
   have hb:∀ a,(a,x)∈L->a∈bX C:=fun a ha=>by
    have hr:=(Y.rg _ ha).1
    dsimp only at hr
    have:a∈ord:=hperm.mem_iff.mpr (fq.mpr (by lia))
    rw [hf]
    rw [e] at this ho
    rcases az.mp this with z | z
    ·exact z
    ·rcases am.mp z with z | z
     ·rw [z] at ha;exact absurd ha (Y.irr x)
     ·exact absurd ha ((bF.mp (eZ.mp ho).2.1).1 a z)
   refine ⟨[.pu (.int n),.pu (dU (low L)),.ow (dC C),.pu (.int x)],rfl,?_⟩
   refine d9 (ρ':=[.pu (.int n),.pu (dU (low L)),.ow (dC (C++[(x,1+uC (-1) ((dt (low L) x).map (cE C)))])),.pu (.int x)]) ?_ ⟨_,_,rfl,by rw [sf,hf],ht.add Y hx hb⟩
   have hg:=xw (low L) x (aW 1) (aW 3) [.pu (.int n),.pu (dU (low L)),.pu (dC C),.pu (.int x)] (k:=.pu) (k':=.pu) rfl rfl
   have hc:=eu (enc:=Da.int) (xs:=dt (low L) x) (ix:=[none,none,some 2]) (fi:=cF (iG (ju (aW 1) (aW 3) (xC2 (.fr,.dK [] []))))) (i:=1) (c:=fun _=>some true) (f:=x2 oIt (aW 2) (aW 1)) (ρ:=[.pu (.int n),.pu (dU (low L)),.pu (dC C),.pu (.int x)]) (p:=fun _=>true) (e:=fun u=>.int (cE C u))
    (su hg) (by have:=vi L x;lia) fun u hu=>⟨rfl,fun _=>⟨(.pu,.int (cE C u)),by
      have em:(mpR [none,none,some 2] [.pu (.int n),.pu (dU (low L)),.pu (dC C),.pu (.int x)]).set 1 (.pu (.int u))=[.no,.pu (.int u),.pu (dC C)]:=rfl
      rw [em]
      exact pe (hb u ((fF L x u).mp hu)),rfl,rfl⟩⟩
   rw [eF] at hc
   have hle:mv 2 (fy [none,none,some 2] (cF (iG (ju (aW 1) (aW 3) (xC2 (.fr,.dK [] []))))) (tgN 1) (fun _=>some true) (x2 oIt (aW 2) (aW 1))) [.pu (.int n),.pu (dU (low L)),.ow (dC C),.pu (.int x)]=some (.fr,.lst (((dt (low L) x).map (cE C)).map Da.int)):=by
    refine C6 (d:=dC C) rfl rfl (r:=(.fr,.lst (((dt (low L) x).map (cE C)).map Da.int))) ?_ (DG _)
    rw [aC]
    exact hc
   have hm:xU (mv 2 (fy [none,none,some 2] (cF (iG (ju (aW 1) (aW 3) (xC2 (.fr,.dK [] []))))) (tgN 1) (fun _=>some true) (x2 oIt (aW 2) (aW 1)))) (o6 (xC (.int 1))) [.pu (.int n),.pu (dU (low L)),.ow (dC C),.pu (.int x)]=some (.pu,.int (uC (-1) ((dt (low L) x).map (cE C)))):=by
    unfold xU
    rw [hle,show o6 (xC (.int 1)) [.pu (.int n),.pu (dU (low L)),.ow (dC C),.pu (.int x)]=some (.pu,.int (-1)) from rfl]
    dsimp only
    rw [fS]
   rw [w6,sO,hm]
   have e1:([.pu (.int n),.pu (dU (low L)),.ow (dC C),.pu (.int x)]:Rho)[2]?=some (.ow (dC C)):=rfl
   have e2:aW 3 [.pu (.int n),.pu (dU (low L)),.ow (dC C),.pu (.int x)]=some (.pu,.int x):=rfl
   rw [e1,e2,Iw]
   dsimp only
   rw [EM]
   dsimp only
   rw [if_pos (gU _),Ez hx hCn (by lia)]
   rfl
  ·rintro ρ ⟨C,s3,rfl,hf,ht⟩
   exact oe rfl ⟨C,rfl,hf,ht⟩
 obtain ⟨d,ed,C,rfl,hf,ht⟩:=key
 exact ⟨C,ed,by rw [hf];exact hperm,ht⟩
def lD (n:Int) (C:List PI) (k:Int):List Int:=(rgI 0 n.toNat).filter fun t=>decide (cE C t=k)
theorem pk {n:Int} {C:List PI} {k t:Int}:t∈lD n C k↔t∈rgI 0 n.toNat/\cE C t=k:=by unfold lD;rw [aI,decide_eq_true_eq]
theorem Ej {n:Int} {C:List PI} (hp:(bX C).Perm (rgI 0 n.toNat)) (h1:n<64) (k:Int):fn_row_at [dC C,.int k]=some (dT (lD n C k)):=by
 have hl:C.length=n.toNat:=by rw [<- Cw,hp.length_eq,e6]
 have hso:=EY (C:=C) (k:=.pu) (by lia)
 have he:Ms.srt Ms.ltI (bX C)=rgI 0 n.toNat:=Ms.strict_ext Ms.linI (Ms.srt_strict Ms.linI (hp.nodup_iff.mpr (fz _ _))) (jp _ _) fun x=>by rw [(Ms.srt_perm _).mem_iff,hp.mem_iff]
 rw [he] at hso
 have hc:=eu (enc:=Da.int) (xs:=rgI 0 n.toNat) (ix:=[none,none,some 1,some 0]) (fi:=cF (iG (xB eX (aJ (aW 0) cc)))) (i:=1) (c:=tb (x2 (oEq false) (x2 oIt (aW 3) (aW 1)) (aW 2))) (f:=aW 1) (ρ:=[.pu (dC C),.pu (.int k)]) (p:=fun t=>decide (cE C t=k)) (e:=Da.int)
  ?_ (by rw [e6];lia) fun t ht=>⟨?_,fun _=>⟨(.pu,.int t),rfl,rfl,rfl⟩⟩
 ·refine mf (ρ:=[.pu (dC C),.pu (.int k)]) rfl ?_
  unfold g_row_at
  rw [hZ,sQ,cq,hc,dL]
  rfl
 ·have h1:xB eX (aJ (aW 0) cc) [.pu (dC C),.pu (.int k)]=some (.fr,.lst ((rgI 0 n.toNat).map Da.int)):=hso
  rw [lc,pg,h1]
 ·have em:(mpR [none,none,some 1,some 0] [.pu (dC C),.pu (.int k)]).set 1 (.pu (.int t))=[.no,.pu (.int t),.pu (.int k),.pu (dC C)]:=rfl
  rw [em]
  have g1:x2 oIt (aW 3) (aW 1) [.no,.pu (.int t),.pu (.int k),.pu (dC C)]=some (.pu,.int (cE C t)):=pe (hp.mem_iff.mpr ht)
  rw [De,sO,g1,show aW 2 [.no,.pu (.int t),.pu (.int k),.pu (dC C)]=some (.pu,.int k) from rfl]
  dsimp only
  rw [J8]
  rfl
def rws (n:Int) (C:List PI) (m:Nat):List (List Int):=(bG m).map fun (i:Nat)=>lD n C (i:Int)
theorem vw (n:Int) (C:List PI) (m:Nat):(rws n C m).length=m:=by unfold rws;rw [ab,dZ]
theorem FB (n:Int) (C:List PI) (m:Nat):rws n C (m+1)=rws n C m++[lD n C (m:Int)]:=by unfold rws;rw [List.range_succ,bD];rfl
theorem Fw {n:Int} {C:List PI} {k:Nat} (h:∀ i:Nat,i<k->lD n C (i:Int)≠[]):k<=n.toNat:=by
 have pick:∀ i:Nat,i<k->(lD n C (i:Int)).headD 0∈lD n C (i:Int):=fun i hi=>by
  cases hr:lD n C (i:Int) with
  | nil=>exact absurd hr (h i hi)
  | cons a r=>exact ah
 have nd:((bG k).map fun (i:Nat)=>(lD n C (i:Int)).headD 0).Nodup:=by
  refine bB.mpr ((List.nodup_range).imp_of_mem fun {a b} ha hb ne e=>ne ?_)
  have h1:=(pk.mp (pick a (by simpa using ha))).2
  have h2:=(pk.mp (pick b (by simpa using hb))).2
  rw [e,h2] at h1
  lia
 have:=Ms.length_le_of_subset nd (m:=rgI 0 n.toNat) fun x hx=>by
  obtain ⟨i,hi,rfl⟩:=aK.mp hx
  exact (pk.mp (pick i (by simpa using hi))).1
 rw [ab,dZ,e6] at this
 exact this
theorem Bb {n:Int} {L:List PI} (Y:Yd n L) (h0:0<=n) (h1:n<64) (hl:L.length<=1000):∃ (C:List PI) (m:Nat),(bX C).Perm (rgI 0 n.toNat)/\Hts L C/\fn_floors [dY n L]=some (.tup ((rws n C m).map dT))/\(∀ i:Nat,i<m->lD n C (i:Int)≠[])/\lD n C (m:Int)=[]:=by
 obtain ⟨C,hC,hp,ht⟩:=x8 Y h0 h1 hl
 have key:∃ d,fn_floors [dY n L]=some d/\∃ m:Nat,d=.tup ((rws n C m).map dT)/\(∀ i:Nat,i<m->lD n C (i:Int)≠[])/\lD n C (m:Int)=[]:=by
  refine nT ?_
  unfold g_floors
  have e0:fm 4 [dY n L]=[.pu (dY n L),.no,.no,.no]:=rfl
  rw [e0]
  refine cS (d9 (ρ':=[.pu (dY n L),.pu (dC C),.no,.no]) ?_ ?_)
  ·have z0:x2 oIt (aW 0) (xC (.int 0)) [.pu (dY n L),.no,.no,.no]=some (.pu,.int n):=by simp [dY]
   have z1:cJ fn_lowers_of (aJ (x2 oIt (aW 0) (xC (.int 1))) cc) [.pu (dY n L),.no,.no,.no]=some (.pu,dU (low L)):=cR (ds:=[.tup (L.map dP)]) (rs:=[(.pu,.tup (L.map dP))]) (by simp [dY]) rfl (oV hl)
   have z2:cJ fn_heights_of (aJ (x2 oIt (aW 0) (xC (.int 0))) (aJ (cJ fn_lowers_of (aJ (x2 oIt (aW 0) (xC (.int 1))) cc)) cc)) [.pu (dY n L),.no,.no,.no]=some (.pu,dC C):=cR (ds:=[.int n,dU (low L)]) (rs:=[(.pu,.int n),(.pu,dU (low L))]) (by rw [cq,z0,cq,z1,dL]) rfl hC
   rw [iS,z2]
   rfl
  refine cS (d9 (ρ':=[.pu (dY n L),.pu (dC C),.ow (.lst ((rws n C 0).map dT)),.no]) rfl ?_)
  refine cS (d9 (ρ':=[.pu (dY n L),.pu (dC C),.ow (.lst ((rws n C 0).map dT)),.pu (dT (lD n C ((0:Nat):Int)))]) ?_ ?_)
  ·rw [iS,cR (ds:=[dC C,.int ((0:Nat):Int)]) rfl rfl (Ej hp h1 _)]
   rfl
  refine cS ?_
  refine om (fun j ρ=>∃ k:Nat,ρ=[.pu (dY n L),.pu (dC C),.ow (.lst ((rws n C k).map dT)),.pu (dT (lD n C (k:Int)))]/\j+k=n.toNat/\∀ i:Nat,i<k->lD n C (i:Int)≠[]) 200 n.toNat _ (by lia) ⟨0,rfl,by lia,fun i hi=>absurd hi (p3 i)⟩ ?_
  rintro j ρ ⟨k,rfl,hjk,hne⟩
  refine ⟨!(lD n C (k:Int)).isEmpty,?_,fun q=>?_,fun q=>?_⟩
  ·cases lD n C (k:Int) with
   | nil=>rfl
   | cons a r=>rfl
  ·have:lD n C (k:Int)=[]:=by cases h:lD n C (k:Int) with | nil=>rfl | cons a r=>rw [h] at q;cases q
   exact oe rfl ⟨k,rfl,hne,this⟩
  ·have hk:lD n C (k:Int)≠[]:=by intro z;rw [z] at q;cases q
   have hne':∀ i:Nat,i<k+1->lD n C (i:Int)≠[]:=fun i hi=>by
    rcases mX (Nat.le_of_lt_succ hi) with z | z
    ·exact hne i z
    ·rw [z];exact hk
   have hkn:=Fw hne'
   refine cS (d9 (ρ':=[.pu (dY n L),.pu (dC C),.ow (.lst ((rws n C (k+1)).map dT)),.pu (dT (lD n C (k:Int)))]) ?_ ?_)
   ·rw [pA,show ([.pu (dY n L),.pu (dC C),.ow (.lst ((rws n C k).map dT)),.pu (dT (lD n C (k:Int)))]:Rho)[2]?=some (.ow (.lst ((rws n C k).map dT))) from rfl,show aW 3 [.pu (dY n L),.pu (dC C),.ow (.lst ((rws n C k).map dT)),.pu (dT (lD n C (k:Int)))]=some (.pu,dT (lD n C (k:Int))) from rfl]
    dsimp only
    rw [if_pos ⟨rfl,by rw [ab,vw];lia⟩,FB,bD]
    rfl
   refine d9 (ρ':=[.pu (dY n L),.pu (dC C),.ow (.lst ((rws n C (k+1)).map dT)),.pu (dT (lD n C ((k+1:Nat):Int)))]) ?_ ⟨j-1,by lia,k+1,rfl,by lia,hne'⟩
   have z1:xB p6 (aJ (aW 2) cc) [.pu (dY n L),.pu (dC C),.ow (.lst ((rws n C (k+1)).map dT)),.pu (dT (lD n C (k:Int)))]=some (.pu,.int ((k+1:Nat):Int)):=by
    show some (Kd.pu,Da.int (((rws n C (k+1)).map dT).length:Nat))=_
    rw [ab,vw]
   rw [iS,cR (ds:=[dC C,.int ((k+1:Nat):Int)]) (rs:=[(.pu,dC C),(.pu,.int ((k+1:Nat):Int))]) (by rw [cq,cq,z1,dL];rfl) rfl (Ej hp h1 _)]
   rfl
 obtain ⟨d,ed,m,rfl,h⟩:=key
 exact ⟨C,m,hp,ht,ed,h⟩
theorem CA {a b:Kd} (F:List Int) (x:Int):oIt (a,.lst ((F++[x]).map Da.int)) (b,.int (-1))=some (.pu,.int x):=by
 unfold oIt oIx xh
 dsimp only
 have:atI ((F++[x]).map Da.int) (-1)=some (Da.int x):=by
  unfold atI ixN
  rw [if_neg (by decide),ab,aN,bx,if_pos (by lia)]
  show ((F++[x]).map Da.int)[((-1:Int)+((F.length+1:Nat):Int)).toNat]?=_
  rw [show ((-1:Int)+((F.length+1:Nat):Int)).toNat=F.length by lia,ay,cM (ax _),n8]
  rfl
 rw [this]
 rfl
end GF
set_option linter.unusedSimpArgs false
set_option linter.unusedSimpArgs false
namespace GT
open PySem L2 Ry G G3
def mH:List PI->Int->Int->List PI
 | [],u,x=>[(u,x)]
 | (a,b)::U,u,x=>if a=u then (a,x)::U else (a,b)::mH U u x
theorem jR:∀ (U:List PI) (u x:Int),bX (mH U u x)=if u∈bX U then bX U else bX U++[u]
 | [],u,x=>rfl
 | (a,b)::U,u,x=>by
   unfold mH
   by_cases h:a=u
   ·subst h
    rw [if_pos rfl,if_pos (by simp [bX])]
    rfl
   ·rw [if_neg h]
    show a::bX (mH U u x)=_
    rw [jR U u x]
    by_cases h2:u∈bX U
    ·rw [if_pos h2,if_pos (by show u∈a::bX U;exact ag _ h2)]
     rfl
    ·rw [if_neg h2,if_neg (by show ¬ u∈a::bX U;exact fun z=>(am.mp z).elim (fun z=>h z.symm) h2)]
     rfl
theorem jM:∀ (U:List PI) (u x v:Int),cE (mH U u x) v=if v=u then x else cE U v
 | [],u,x,v=>by
   show (if u=v then x else _)=_
   by_cases h:v=u
   ·subst h;rw [if_pos rfl]
   ·rw [if_neg (fun z=>h z.symm),if_neg h]
 | (a,b)::U,u,x,v=>by
   unfold mH
   by_cases h:a=u
   ·subst h
    rw [if_pos rfl]
    show (if a=v then x else cE U v)=if v=a then x else (if a=v then b else cE U v)
    by_cases h2:v=a
    ·subst h2;rw [if_pos rfl,if_pos rfl]
    ·rw [if_neg (fun z=>h2 z.symm),if_neg h2,if_neg (fun z=>h2 z.symm)]
   ·rw [if_neg h]
    show (if a=v then b else cE (mH U u x) v)=if v=u then x else (if a=v then b else cE U v)
    rw [jM U u x v]
    by_cases h2:a=v
    ·subst h2;rw [if_pos rfl,if_neg h,if_pos rfl]
    ·rw [if_neg h2,if_neg h2]
abbrev TK:=Option (Bool×List PI×List Int)
def tkL (rec:Int->List PI->List Int->TK) (t:Int):List Int->List PI->List Int->TK
 | [],U,A=>some (false,U,A)
 | u::us,U,A=>if u∈A then tkL rec t us U A else if u∉bX U then some (true,mH U u t,A++[u]) else match rec (cE U u) U (A++[u]) with
   | none=>none
   | some (true,U',A')=>some (true,mH U' u t,A')
   | some (false,U',A')=>tkL rec t us U' A'
def tk (up:Int->List Int):Nat->Int->List PI->List Int->TK
 | 0=>fun _ _ _=>none
 | k+1=>fun t U A=>tkL (tk up k) t (up t) U A
structure wA (up:Int->List Int) (U:List PI) (B:List Int):Prop where
 key:∀ u∈B,u∈bX U
 cl:∀ u∈B,∀ v∈up (cE U u),v∈B
theorem mZ {up:Int->List Int} {B:List Int} {rec:Int->List PI->List Int->TK} {t:Int} {U:List PI} (hc:wA up U B) (hr:∀ x A r,(∀ u∈up x,u∈B)->rec x U A=some r->r.1=false/\r.2.1=U):∀ (us:List Int) (A:List Int) (r:Bool×List PI×List Int),tkL rec t us U A=some r->(∀ u∈us,u∈B)->r.1=false/\r.2.1=U
 | [],A,r,e,_=>by cases e;exact ⟨rfl,rfl⟩
 | u::us,A,r,e,h=>by
   have hu:=h u ah
   have h':=fun v hv=>h v (ag _ hv)
   unfold tkL at e
   split at e
   ·exact mZ hc hr us A r e h'
   ·rw [if_neg (by simpa using hc.key u hu)] at e
    split at e
    ·cases e
    ·rename_i U' A' er
     exact absurd (hr _ _ _ (hc.cl u hu) er).1 (by simp)
    ·rename_i U' A' er
     obtain ⟨_,h2⟩:=hr _ _ _ (hc.cl u hu) er
     dsimp only at h2
     subst h2
     exact mZ hc hr us A' r e h'
theorem t8 {up:Int->List Int} {B:List Int} {U:List PI} (hc:wA up U B):∀ (k:Nat) (t:Int) (A:List Int) (r:Bool×List PI×List Int),(∀ u∈up t,u∈B)->tk up k t U A=some r->r.1=false/\r.2.1=U
 | 0,t,A,r,h,e=>by cases e
 | k+1,t,A,r,h,e=>mZ hc (fun x A r hx er=>t8 hc k x A r hx er) (up t) A r e h
def qb (U:List PI):List Int:=U.map (·.2)
theorem oC:∀ {U:List PI} {u t:Int},u∈bX U->∃ P S,U=P++(u,cE U u)::S/\mH U u t=P++(u,t)::S
 | [],u,t,h=>by cases h
 | (a,b)::U,u,t,h=>by
   by_cases e:a=u
   ·subst e
    refine ⟨[],U,?_,?_⟩
    ·show _=(a,if a=a then b else _)::U
     rw [if_pos rfl]
    ·show (if a=a then (a,t)::U else _)=_
     rw [if_pos rfl];rfl
   ·have h':u∈bX U:=(am.mp (show u∈a::bX U from h)).resolve_left fun z=>e z.symm
    obtain ⟨P,S,e1,e2⟩:=oC (t:=t) h'
    refine ⟨(a,b)::P,S,?_,?_⟩
    ·show _=(a,b)::(P++(u,if a=u then b else cE U u)::S)
     rw [if_neg e,<- e1]
    ·show (if a=u then _ else (a,b)::mH U u t)=_
     rw [if_neg e,e2];rfl
theorem nu:∀ {U:List PI} {u t:Int},u∉bX U->mH U u t=U++[(u,t)]
 | [],u,t,_=>rfl
 | (a,b)::U,u,t,h=>by
   have h1:a≠u:=fun z=>h (by show u∈a::bX U;rw [z];exact ah)
   have h2:u∉bX U:=fun z=>h (ag _ z)
   show (if a=u then _ else (a,b)::mH U u t)=_
   rw [if_neg h1,nu h2];rfl
structure No (up:Int->List Int) (us:List Int) (U:List PI) (A:List Int) (U':List PI) (A':List Int):Prop where
 same:U'=U
 ask:∀ x∈A,x∈A'
 all:∀ u∈us,u∈A'
 new:∀ u∈A',u∉A->u∈bX U/\∀ v∈up (cE U u),v∈A'
structure Yes (up:Int->List Int) (t:Int) (U:List PI) (A:List Int) (U':List PI) (A':List Int):Prop where
 ask:∀ x∈A,x∈A'
 key:∃ k,k∉bX U/\(bX U').Perm (bX U++[k])
 val:(qb U').Perm (t::qb U)
 old:∀ u∈A,cE U' u=cE U u
 ok:(∀ u∈bX U,u∈up (cE U u))->∀ u∈bX U',u∈up (cE U' u)
 cls:∀ B,wA up U B->∀ u∈B,cE U' u=cE U u
def Kz (up:Int->List Int) (t:Int) (us:List Int) (U:List PI) (A:List Int) (r:Bool×List PI×List Int):Prop:=(r.1=false/\No up us U A r.2.1 r.2.2)\/(r.1=true/\Yes up t U A r.2.1 r.2.2)
theorem Fa {up:Int->List Int} {k:Nat} {t:Int} (hr:∀ x U A r,tk up k x U A=some r->Kz up x (up x) U A r):∀ (us:List Int) (U:List PI) (A:List Int) (r:Bool×List PI×List Int),(∀ u∈us,u∈up t)->tkL (tk up k) t us U A=some r->Kz up t us U A r
 | [],U,A,r,_,e=>by cases e;exact .inl ⟨rfl,rfl,fun _ h=>h,by simp,fun u h1 h2=>absurd h1 h2⟩
 | u::us,U,A,r,hs,e=>by
   have hs':=fun v hv=>hs v (ag _ hv)
   unfold tkL at e
   split at e
   ·rename_i hA
    rcases Fa hr us U A r hs' e with ⟨h1,h2⟩ | ⟨h1,h2⟩
    ·exact .inl ⟨h1,h2.same,h2.ask,fun v hv=>(am.mp hv).elim (fun z=>by rw [z];exact h2.ask u hA) (h2.all v),h2.new⟩
    ·exact .inr ⟨h1,h2⟩
   ·rename_i hA
    split at e
    ·rename_i hK
     cases e
     refine .inr ⟨rfl,⟨fun x hx=>bw _ hx,⟨u,hK,?_⟩,?_,fun v hv=>?_,fun hv v hm=>?_,fun B hB v hv=>?_⟩⟩
     ·show (bX (mH U u t)).Perm _
      rw [jR,if_neg hK]
     ·show (qb (mH U u t)).Perm _
      rw [nu hK]
      unfold qb
      rw [bD]
      exact u5
     ·show cE (mH U u t) v=_
      rw [jM,if_neg (fun z=>hA (by rw [<- z];exact hv))]
     ·show v∈up (cE (mH U u t) v)
      have hm:v∈bX (mH U u t):=hm
      rw [jR,if_neg hK,az,av] at hm
      rw [jM]
      by_cases z:v=u
      ·rw [if_pos z,z];exact hs u ah
      ·rw [if_neg z];exact hv v (hm.resolve_right z)
     ·show cE (mH U u t) v=_
      rw [jM,if_neg (fun z=>hK (by rw [<- z];exact hB.key v hv))]
    ·rename_i hK
     have hK:u∈bX U:=by simpa using hK
     split at e
     ·cases e
     ·rename_i U1 A1 er
      cases e
      rcases hr _ _ _ _ er with ⟨h1,_⟩ | ⟨_,y⟩
      ·cases h1
      have y:Yes up (cE U u) U (A++[u]) U1 A1:=y
      have hu1:cE U1 u=cE U u:=y.old u (by simp)
      obtain ⟨k0,hk0,hkp⟩:=y.key
      have hK1:u∈bX U1:=hkp.mem_iff.mpr (bw _ hK)
      obtain ⟨P,S,e1,e2⟩:=oC (t:=t) hK1
      refine .inr ⟨rfl,⟨fun x hx=>y.ask x (bw _ hx),⟨k0,hk0,?_⟩,?_,fun v hv=>?_,fun hv v hm=>?_,fun B hB v hv=>?_⟩⟩
      ·show (bX (mH U1 u t)).Perm _
       rw [jR,if_pos hK1]
       exact hkp
      ·show (qb (mH U1 u t)).Perm _
       have p1:(qb U1).Perm (cE U u::qb (P++S)):=by
        rw [e1,hu1]
        unfold qb
        rw [bD,bD,aw]
        exact BS
       have p2:(qb (mH U1 u t)).Perm (t::qb (P++S)):=by
        rw [e2]
        unfold qb
        rw [bD,bD,aw]
        exact BS
       exact p2.trans (((p1.symm.trans y.val).cons_inv).cons t)
      ·show cE (mH U1 u t) v=_
       rw [jM,if_neg (fun z=>hA (by rw [<- z];exact hv)),y.old v (bw _ hv)]
      ·show v∈up (cE (mH U1 u t) v)
       have hm:v∈bX (mH U1 u t):=hm
       rw [jR,if_pos hK1] at hm
       rw [jM]
       by_cases z:v=u
       ·rw [if_pos z,z];exact hs u ah
       ·rw [if_neg z];exact y.ok hv v hm
      ·show cE (mH U1 u t) v=_
       have hvu:v≠u:=fun z=>by
        rw [z] at hv
        exact absurd (t8 hB k _ _ _ (hB.cl u hv) er).1 (by simp)
       rw [jM,if_neg hvu,y.cls B hB v hv]
     ·rename_i U1 A1 er
      have n:No up (up (cE U u)) U (A++[u]) U1 A1:=by
       rcases hr _ _ _ _ er with ⟨_,n⟩ | ⟨h1,_⟩
       ·exact n
       ·cases h1
      have n:No up (up (cE U u)) U (A++[u]) U1 A1:=n
      have hU:=n.same
      subst hU
      have huA:u∈A1:=n.ask u (by simp)
      have hAA:∀ x∈A,x∈A1:=fun x hx=>n.ask x (bw _ hx)
      rcases Fa hr us _ A1 r hs' e with ⟨h1,m⟩ | ⟨h1,m⟩
      ·refine .inl ⟨h1,m.same,fun x hx=>m.ask x (hAA x hx),fun v hv=>(am.mp hv).elim (fun z=>by rw [z];exact m.ask u huA) (m.all v),fun v hv hn=>?_⟩
       by_cases hv1:v∈A1
       ·by_cases hvu:v=u
        ·rw [hvu]
         exact ⟨hK,fun w hw=>m.ask w (n.all w hw)⟩
        ·obtain ⟨q1,q2⟩:=n.new v hv1 (by rw [az,av];exact fun z=>z.elim hn hvu)
         exact ⟨q1,fun w hw=>m.ask w (q2 w hw)⟩
       ·exact m.new v hv hv1
      ·exact .inr ⟨h1,⟨fun x hx=>m.ask x (hAA x hx),m.key,m.val,fun v hv=>m.old v (hAA v hv),m.ok,m.cls⟩⟩
theorem left {up:Int->List Int}:∀ (k:Nat) (t:Int) (U:List PI) (A:List Int) (r:Bool×List PI×List Int),tk up k t U A=some r->Kz up t (up t) U A r
 | 0,t,U,A,r,e=>by cases e
 | k+1,t,U,A,r,e=>Fa (fun x U A r er=>left k x U A r er) (up t) U A r (fun _ h=>h) e
end GT
set_option linter.unusedSimpArgs false
namespace GT
open PySem L2 Ry G G3
theorem Ak {up:Int->List Int} {R:List Int} (hup:∀ t,∀ u∈up t,u∈R):∀ (k:Nat) (t:Int) (U:List PI) (A:List Int),(R.filter fun x=>decide (x∉A)).length<k->∃ r,tk up k t U A=some r
 | 0,t,U,A,h=>absurd h (p3 _)
 | k+1,t,U,A,h=>by
   have less:∀ {A A':List Int},(∀ x∈A,x∈A')->(R.filter fun x=>decide (x∉A')).length<=(R.filter fun x=>decide (x∉A)).length:=fun {A A'} hs=>by
    refine List.Sublist.length_le ?_
    have:(R.filter fun x=>decide (x∉A'))=((R.filter fun x=>decide (x∉A)).filter fun x=>decide (x∉A')):=by
     rw [jd]
     refine g7 fun x _=>?_
     by_cases h1:x∈A'
     ·simp [h1]
     ·have h2:x∉A:=fun z=>h1 (hs x z)
      simp [h1,h2]
    rw [this]
    exact bQ
   have one:∀ {A:List Int} {u:Int},u∈R->u∉A->(R.filter fun x=>decide (x∉A++[u])).length<(R.filter fun x=>decide (x∉A)).length:=fun {A u} hu hn=>by
    have hs:∀ x∈A,x∈A++[u]:=fun x hx=>bw _ hx
    have h1:(R.filter fun x=>decide (x∉A++[u]))=((R.filter fun x=>decide (x∉A)).filter fun x=>decide (x≠u)):=by
     rw [jd]
     refine g7 fun x _=>?_
     by_cases h1:x∈A<;>by_cases h2:x=u<;>simp [h1,h2]
    rw [h1]
    have hm:u∈R.filter fun x=>decide (x∉A):=aI.mpr ⟨hu,by simpa using hn⟩
    have h2:=eJ (fun x=>decide (x≠u)) (R.filter fun x=>decide (x∉A))
    rcases mX h2 with z | z
    ·exact z
    ·have:=nD.mp z u hm
     simp at this
   have go:∀ (us:List Int) (U:List PI) (A:List Int),(∀ u∈us,u∈R)->(R.filter fun x=>decide (x∉A)).length<k+1->∃ r,tkL (tk up k) t us U A=some r:=fun us=>by
    induction us with
    | nil=>intro U A _ _;exact ⟨_,rfl⟩
    | cons u us ih =>
      intro U A hs hl
      have hs':=fun v hv=>hs v (ag _ hv)
      unfold tkL
      by_cases hA:u∈A
      ·rw [if_pos hA];exact ih U A hs' hl
      ·rw [if_neg hA]
       by_cases hK:u∈bX U
       ·rw [if_neg (by simpa using hK)]
        have ho:=one (hs u ah) hA
        obtain ⟨⟨b,U',A'⟩,er⟩:=Ak hup k (cE U u) U (A++[u]) (by lia)
        rw [er]
        cases b with
        | true=>exact ⟨_,rfl⟩
        | false =>
          refine ih U' A' hs' ?_
          have hl':∀ x∈A++[u],x∈A':=by
           rcases left k _ _ _ _ er with ⟨_,n⟩ | ⟨_,y⟩
           ·exact n.ask
           ·exact y.ask
          have:=less hl'
          lia
       ·rw [if_pos hK];exact ⟨_,rfl⟩
   exact go (up t) U A (hup t) h
def iQ (up:Int->List Int) (k:Nat):List Int->List PI->Option (List PI)
 | [],U=>some U
 | t::ts,U=>match tk up k t U [] with
   | none=>none
   | some (_,U',_)=>iQ up k ts U'
structure Std (up:Int->List Int) (ts:List Int) (U:List PI) (F B:List Int):Prop where
 nd:(bX U).Nodup
 ok:∀ u∈bX U,u∈up (cE U u)
 pt:(qb U++F).Perm ts
 cl:wA up U B
 no:∀ t∈F,∀ u∈up t,u∈B
theorem Std.step {up:Int->List Int} {ts:List Int} {U U':List PI} {F B A':List Int} {b:Bool} {k:Nat} {t:Int} (h:Std up ts U F B) (e:tk up k t U []=some (b,U',A')):∃ F' B',Std up (ts++[t]) U' F' B':=by
 rcases left k _ _ _ _ e with ⟨h1,n⟩ | ⟨h1,y⟩
 ·have n:No up (up t) U [] U' A':=n
  have hU:=n.same
  subst hU
  refine ⟨F++[t],B++A',h.nd,h.ok,?_,⟨fun u hu=>?_,fun u hu v hv=>?_⟩,fun x hx u hu=>?_⟩
  ·rw [<- dX]
   exact h.pt.append_right [t]
  ·rcases az.mp hu with z | z
   ·exact h.cl.key u z
   ·exact (n.new u z (by simp)).1
  ·rcases az.mp hu with z | z
   ·exact bw _ (h.cl.cl u z v hv)
   ·exact aU _ ((n.new u z (by simp)).2 v hv)
  ·rcases az.mp hx with z | z
   ·exact bw _ (h.no x z u hu)
   ·rw [av] at z
    rw [z] at hu
    exact aU _ (n.all u hu)
 ·have y:Yes up t U [] U' A':=y
  obtain ⟨k0,hk0,hkp⟩:=y.key
  have hsub:∀ u∈bX U,u∈bX U':=fun u hu=>hkp.mem_iff.mpr (bw _ hu)
  refine ⟨F,B,hkp.nodup_iff.mpr (bp.mpr ⟨h.nd,aS _ _,fun a ha b hb=>by rw [av] at hb;subst hb;intro z;subst z;exact hk0 ha⟩),y.ok h.ok,?_,⟨fun u hu=>hsub u (h.cl.key u hu),fun u hu v hv=>?_⟩,h.no⟩
  ·refine (y.val.append_right F).trans ?_
   rw [BQ]
   refine (h.pt.cons t).trans ?_
   exact (u5 (l₁:=[t]) (l₂:=ts))
  ·rw [y.cls B h.cl u hu] at hv
   exact h.cl.cl u hu v hv
theorem uG {up:Int->List Int} {R:List Int} (hup:∀ t,∀ u∈up t,u∈R) {k:Nat} (hk:R.length<k):∀ (ts pre:List Int) (U:List PI) (F B:List Int),Std up pre U F B->∃ U' F' B',iQ up k ts U=some U'/\Std up (pre++ts) U' F' B'
 | [],pre,U,F,B,h=>⟨U,F,B,rfl,by rw [eV];exact h⟩
 | t::ts,pre,U,F,B,h=>by
   obtain ⟨⟨b,U1,A1⟩,e⟩:=Ak hup k t U [] (yU (eJ _ _) hk)
   obtain ⟨F1,B1,h1⟩:=h.step e
   obtain ⟨U',F',B',e2,h2⟩:=uG hup hk ts (pre++[t]) U1 F1 B1 h1
   refine ⟨U',F',B',?_,by rw [dX] at h2;exact h2⟩
   show (match tk up k t U [] with | none=>none | some (_,U',_)=>iQ up k ts U')=_
   rw [e]
   exact e2
theorem G8 (up:Int->List Int):Std up [] [] [] []:=⟨.nil,by simp [bX],.refl _,⟨by simp,by simp⟩,by simp⟩
end GT
set_option linter.unusedSimpArgs false
namespace GT
open PySem L2 Ry G G3
theorem xx {U:List PI} (nd:(bX U).Nodup):(bX U).map (cE U)=qb U:=by
 induction U with
 | nil=>rfl
 | cons e U ih =>
   obtain ⟨a,b⟩:=e
   obtain ⟨h1,h2⟩:=bf.mp (show (a::bX U).Nodup from nd)
   show (if a=a then b else cE U a)::(bX U).map (cE ((a,b)::U))=b::qb U
   rw [if_pos rfl,<- ih h2]
   congr 1
   refine dr fun x hx=>?_
   show (if a=x then b else cE U x)=_
   rw [if_neg (fun z=>h1 (by rw [z];exact hx))]
theorem jz {α:Type} (p:α->Bool):∀ l:List α,(l.filter p).length+(l.filter fun x=>!p x).length=l.length
 | []=>rfl
 | a::l=>by
   have ih:=jz p l
   cases h:p a with
   | true =>
     have e1:(a::l).filter p=a::l.filter p:=by rw [jZ,if_pos h]
     have e2:((a::l).filter fun x=>!p x)=l.filter fun x=>!p x:=by rw [jZ,if_neg (by rw [h];decide)]
     rw [e1,e2,aG,aG]
     lia
   | false =>
     have e1:(a::l).filter p=l.filter p:=by rw [jZ,if_neg (by rw [h];decide)]
     have e2:((a::l).filter fun x=>!p x)=a::l.filter fun x=>!p x:=by rw [jZ,if_pos (by rw [h];rfl)]
     rw [e1,e2,aG,aG]
     lia
theorem Std.anti {up:Int->List Int} {R:List Int} {U:List PI} {F B:List Int} (h:Std up R U F B) (nR:R.Nodup) (hk:∀ u∈bX U,u∈R):∃ X:List Int,X.Nodup/\(∀ x∈X,x∈R)/\(∀ x∈X,∀ y∈X,y∉up x)/\F.length<=X.length/\(R.filter fun x=>decide (x∉bX U)).length=F.length:=by
 have nZ0:(qb U++F).Nodup:=h.pt.nodup_iff.mpr nR
 obtain ⟨nS,nF,dj⟩:=bp.mp nZ0
 have inR:∀ x,x∈qb U++F->x∈R:=fun x hx=>h.pt.mem_iff.mp hx
 obtain ⟨nB,mB⟩:=um B
 have getS:∀ u∈bX U,cE U u∈qb U:=fun u hu=>by rw [<- xx h.nd];exact aK.mpr ⟨u,hu,rfl⟩
 have inj:∀ u∈bX U,∀ v∈bX U,cE U u=cE U v->u=v:=fun u hu v hv e=>by
  have hn:=nS
  rw [<- xx h.nd] at hn
  have hp:=bB.mp hn
  obtain ⟨i,hi,ei⟩:=cf hu
  obtain ⟨j,hj,ej⟩:=cf hv
  rcases BU i j with z | z | z
  ·exact absurd (by rw [ei,ej];exact e) (eS.mp hp i j hi hj z)
  ·subst z;rw [<- ei,<- ej]
  ·exact absurd (by rw [ei,ej];exact e.symm) (eS.mp hp j i hj hi z)
 have kB:∀ u∈iJ B,u∈bX U:=fun u hu=>h.cl.key u ((mB u).mp hu)
 have nZ:(F++(iJ B).map (cE U)).Nodup:=by
  refine bp.mpr ⟨nF,bB.mpr (nB.imp_of_mem fun {a b} ha hb ne e=>ne (inj a (kB a ha) b (kB b hb) e)),fun x hx y hy e=>?_⟩
  obtain ⟨u,hu,rfl⟩:=aK.mp hy
  exact dj _ (getS u (kB u hu)) x hx e.symm
 have zup:∀ x∈F++(iJ B).map (cE U),∀ v∈up x,v∈B:=fun x hx v hv=>by
  rcases az.mp hx with z | z
  ·exact h.no x z v hv
  ·obtain ⟨u,hu,rfl⟩:=aK.mp z
   exact h.cl.cl u ((mB u).mp hu) v hv
 have zR:∀ x∈F++(iJ B).map (cE U),x∈R:=fun x hx=>by
  rcases az.mp hx with z | z
  ·exact inR x (aU _ z)
  ·obtain ⟨u,hu,rfl⟩:=aK.mp z
   exact inR _ (bw _ (getS u (kB u hu)))
 refine ⟨(F++(iJ B).map (cE U)).filter fun x=>!decide (x∈B),nZ.sublist bQ,fun x hx=>zR x (aI.mp hx).1,fun x hx y hy hxy=>?_,?_,?_⟩
 ·have h1:=zup x (aI.mp hx).1 y hxy
  have h2:=(aI.mp hy).2
  simp [h1] at h2
 ·have hs:=jz (fun x=>decide (x∈B)) (F++(iJ B).map (cE U))
  have hb:((F++(iJ B).map (cE U)).filter fun x=>decide (x∈B)).length<=(iJ B).length:=Ms.length_le_of_subset (nZ.sublist bQ) fun x hx=>(mB x).mpr (by simpa using (aI.mp hx).2)
  rw [aN,ab] at hs
  lia
 ·have hs:=jz (fun x=>decide (x∈bX U)) R
  have e1:(R.filter fun x=>decide (x∈bX U)).length=(bX U).length:=kO
   (Ms.length_le_of_subset (nR.sublist bQ) fun x hx=>by simpa using (aI.mp hx).2)
   (Ms.length_le_of_subset h.nd fun x hx=>aI.mpr ⟨hk x hx,by simpa using hx⟩)
  have e2:(bX U).length=(qb U).length:=by unfold bX qb;rw [ab,ab]
  have e3:=h.pt.length_eq
  rw [aN] at e3
  have e4:(R.filter fun x=>decide (x∉bX U))=R.filter fun x=>!decide (x∈bX U):=by
   refine g7 fun x _=>?_
   by_cases z:x∈bX U<;>simp [z]
  rw [e4]
  lia
end GT
set_option linter.unusedSimpArgs false
namespace GT
open PySem L2 Ry G G3
def twF (O:List PI):Nat->Int->List Int
 | 0,x=>[x]
 | k+1,x=>x::if x∈bX O then twF O k (cE O x) else []
structure Lnk (L U O:List PI):Prop where
 nx:∀ x∈bX O,cE O x∈bX U/\cE U (cE O x)=x
 pv:∀ u∈bX U,cE U u∈bX O/\cE O (cE U u)=u
 up:∀ u∈bX U,(cE U u,u)∈L
theorem BA (O:List PI) (k:Nat) (x:Int):x∈twF O k x:=by cases k<;>exact ah
theorem oK {L U O:List PI} (h:Lnk L U O):∀ (k:Nat) (b y:Int),y∈twF O k b->y=b\/(y∈bX U/\cE U y∈twF O k b)
 | 0,b,y,hy=>.inl (by simpa [twF] using hy)
 | k+1,b,y,hy=>by
   unfold twF at hy
   rcases am.mp hy with z | z
   ·exact .inl z
   ·split at z
    ·rename_i hb
     obtain ⟨h1,h2⟩:=h.nx b hb
     refine .inr ?_
     unfold twF
     rw [if_pos hb]
     rcases oK h k (cE O b) y z with e | ⟨e1,e2⟩
     ·rw [e];exact ⟨h1,by rw [h2];exact ah⟩
     ·exact ⟨e1,ag _ e2⟩
    ·cases z
theorem oM {n:Int} {L U O:List PI} (Y:Yd n L) (h:Lnk L U O):∀ (k:Nat) (b:Int),(twF O k b).Pairwise fun x y=>(x,y)∈L
 | 0,b=>aS _ _
 | k+1,b=>by
   unfold twF
   split
   ·rename_i hb
    obtain ⟨h1,h2⟩:=h.nx b hb
    have hbn:(b,cE O b)∈L:=by have:=h.up _ h1;rw [h2] at this;exact this
    have ih:=oM Y h k (cE O b)
    refine bF.mpr ⟨fun y hy=>?_,ih⟩
    have hh:∀ y∈twF O k (cE O b),y=cE O b\/(cE O b,y)∈L:=fun y hy=>by
     cases k with
     | zero=>exact .inl (by simpa [twF] using hy)
     | succ k =>
       unfold twF at hy ih
       rcases am.mp hy with z | z
       ·exact .inl z
       ·exact .inr ((bF.mp ih).1 y z)
    rcases hh y hy with z | z
    ·rw [z];exact hbn
    ·exact Y.tr _ _ _ hbn z
   ·exact aS _ _
theorem ED {L U O:List PI} (h:Lnk L U O) {m:Int->Nat} (hm:∀ a b,(a,b)∈L->m a<m b) {k:Nat} {b c:Int} (hb:b∉bX U) (hc:c∉bX U):∀ (j:Nat) (y:Int),m y=j->y∈twF O k b->y∈twF O k c->b=c:=by
 intro j
 induction j using p5 with
 | ind j ih =>
   intro y hj h1 h2
   rcases oK h k b y h1 with e1 | ⟨e1,e2⟩
   ·rcases oK h k c y h2 with f1 | ⟨f1,_⟩
    ·rw [<- e1,f1]
    ·rw [e1] at f1;exact absurd f1 hb
   ·rcases oK h k c y h2 with f1 | ⟨f1,f2⟩
    ·rw [f1] at e1;exact absurd e1 hc
    ·have:=hm _ _ (h.up y e1)
     exact ih _ (by lia) _ rfl e2 f2
theorem AC {L U O:List PI} (h:Lnk L U O) {M:Int->Nat} (hM:∀ a b,(a,b)∈L->M b<M a):∀ (k:Nat) (b y:Int),M b<=k->y∈twF O k b->y∈bX O->cE O y∈twF O k b
 | 0,b,y,hk,hy,ho=>by
   have e:y=b:=by simpa [twF] using hy
   obtain ⟨h1,h2⟩:=h.nx y ho
   have:=hM _ _ (h.up _ h1)
   rw [h2,e] at this
   lia
 | k+1,b,y,hk,hy,ho=>by
   unfold twF at hy ⊢
   rcases am.mp hy with z | z
   ·rw [z] at ho ⊢
    rw [if_pos ho]
    exact ag _ (BA O k _)
   ·split at z
    ·rename_i hb
     rw [if_pos hb]
     obtain ⟨h1,h2⟩:=h.nx b hb
     have hlt:=hM _ _ (h.up _ h1)
     rw [h2] at hlt
     exact ag _ (AC h hM k (cE O b) y (by lia) z ho)
    ·cases z
theorem Ef {n:Int} {L U O:List PI} (Y:Yd n L) (h:Lnk L U O) {m M:Int->Nat} (hm:∀ a b,(a,b)∈L->m a<m b) (hM:∀ a b,(a,b)∈L->M b<M a) {k:Nat} (hk:∀ x,M x<=k):∀ (j:Nat) (y:Int),m y=j->y∈rgI 0 n.toNat->∃ b,b∈rgI 0 n.toNat/\b∉bX U/\y∈twF O k b:=by
 intro j
 induction j using p5 with
 | ind j ih =>
   intro y hj hy
   by_cases hu:y∈bX U
   ·have hL:=h.up y hu
    have hr:=(Y.rg _ hL).1
    dsimp only at hr
    obtain ⟨b,h1,h2,h3⟩:=ih _ (by have:=hm _ _ hL;lia) _ rfl (fq.mpr (by lia:(0:Int)<=cE U y/\cE U y<0+(n.toNat:Int)))
    obtain ⟨q1,q2⟩:=h.pv y hu
    exact ⟨b,h1,h2,by have:=AC h hM k b _ (hk b) h3 q1;rw [q2] at this;exact this⟩
   ·exact ⟨y,hy,hu,BA O k y⟩
end GT
set_option linter.unusedSimpArgs false
namespace GT
open PySem L2 Ry G G3
def tip (T:List Int):Int:=T.getLastD 0
theorem mD {T:List Int} (h:T≠[]):T=T.dropLast++[tip T]:=by
 unfold tip
 rw [List.getLastD_eq_getLast?,List.getLast?_eq_some_getLast h]
 exact (List.dropLast_concat_getLast h).symm
theorem vR {T:List Int} (h:T≠[]):tip T∈T:=by
 have:=mD h
 rw [this]
 have e:tip (T.dropLast++[tip T])=tip T:=by rw [<- this]
 rw [e]
 simp
def yo (L:List PI) (Ps:List (Int×List Int)):List (Int×List Int):=Ps.map fun e=>(e.1,if (Ps.any fun f=>decide ((tip f.2,tip e.2)∈L))=true then e.2.dropLast else e.2)
structure Do (L:List PI) (Ps:List (Int×List Int)):Prop where
 mem:∀ e∈Ps,e.1∈e.2
 ris:∀ e∈Ps,e.2.Pairwise fun x y=>(x,y)∈L
 anti:∀ e∈Ps,∀ f∈Ps,(e.1,f.1)∉L
 dis:Ps.Pairwise fun e f=>∀ y∈e.2,y∉f.2
theorem Ic {L:List PI} {T:List Int} {x:Int} (hr:T.Pairwise fun x y=>(x,y)∈L) (hx:x∈T):x=tip T\/(x,tip T)∈L:=by
 have hne:T≠[]:=by intro z;rw [z] at hx;cases hx
 have e:=mD hne
 rw [e] at hx hr
 have e2:tip (T.dropLast++[tip T])=tip T:=by rw [<- e]
 rcases az.mp hx with z | z
 ·exact .inr ((eZ.mp hr).2.2 x z _ (by simp))
 ·exact .inl (by simpa using z)
theorem Do.step {n:Int} {L:List PI} (Y:Yd n L) {Ps:List (Int×List Int)} (h:Do L Ps):Do L (yo L Ps):=by
 have sub:∀ e:Int×List Int,∀ y∈(if (Ps.any fun f=>decide ((tip f.2,tip e.2)∈L))=true then e.2.dropLast else e.2),y∈e.2:=fun e y hy=>by
  split at hy
  ·exact u6 _ |>.subset hy
  ·exact hy
 refine ⟨fun e' he=>?_,fun e' he=>?_,fun e' he f' hf=>?_,?_⟩
 ·obtain ⟨e,hm,rfl⟩:=aK.mp he
  dsimp only
  split
  ·rename_i ha
   obtain ⟨f,hf,hq⟩:=gz.mp ha
   have hq:(tip f.2,tip e.2)∈L:=by simpa using hq
   have hne:e.2≠[]:=by intro z;have:=h.mem e hm;rw [z] at this;cases this
   have hnt:e.1≠tip e.2:=fun z=>by
    have hfe:(f.1,tip e.2)∈L:=by
     rcases Ic (h.ris f hf) (h.mem f hf) with w | w
     ·rw [w];exact hq
     ·exact Y.tr _ _ _ w hq
    rw [<- z] at hfe
    exact h.anti f hf e hm hfe
   have hin:=h.mem e hm
   rw [mD hne] at hin
   rcases az.mp hin with w | w
   ·exact w
   ·exact absurd (by simpa using w) hnt
  ·exact h.mem e hm
 ·obtain ⟨e,hm,rfl⟩:=aK.mp he
  dsimp only
  split
  ·exact (h.ris e hm).sublist (u6 _)
  ·exact h.ris e hm
 ·obtain ⟨e,hm,rfl⟩:=aK.mp he
  obtain ⟨f,hm2,rfl⟩:=aK.mp hf
  exact h.anti e hm f hm2
 ·refine bB.mpr (h.dis.imp fun {e f} hd y hy hy2=>hd y (sub e y hy) (sub f y hy2))
theorem Do.fix {L:List PI} {Ps:List (Int×List Int)} (h:Do L Ps) (hx:yo L Ps=Ps):∀ e∈Ps,∀ f∈Ps,(tip f.2,tip e.2)∉L:=fun e he f hf hq=>by
 have hne:e.2≠[]:=by intro z;have:=h.mem e he;rw [z] at this;cases this
 have ha:(Ps.any fun f=>decide ((tip f.2,tip e.2)∈L))=true:=gz.mpr ⟨f,hf,by simpa using hq⟩
 have same:∀ (l:List (Int×List Int)) (g:Int×List Int->Int×List Int),l.map g=l->∀ e∈l,g e=e:=fun l g=>by
  induction l with
  | nil=>intro _ e he;cases he
  | cons a l ih =>
    intro hm e he
    rw [aw] at hm
    injection hm with h1 h2
    rcases am.mp he with z | z
    ·rw [z];exact h1
    ·exact ih h2 e z
 have:=congrArg wg (same Ps _ hx e he)
 dsimp only at this
 rw [if_pos ha] at this
 have hl:=congrArg gj this
 rw [iI] at hl
 have:=xS.mpr hne
 lia
theorem Do.tips {L:List PI} {Ps:List (Int×List Int)} (h:Do L Ps):(Ps.map fun e=>tip e.2).Nodup:=by
 have hne:∀ e∈Ps,e.2≠[]:=fun e he z=>by have:=h.mem e he;rw [z] at this;cases this
 exact bB.mpr (h.dis.imp_of_mem fun {e f} he hf hd z=>hd (tip e.2) (vR (hne e he)) (by rw [z];exact vR (hne f hf)))
def tot (Ps:List (Int×List Int)):Nat:=(Ps.map fun e=>e.2.length).sum
theorem AA (L:List PI) (Qs:List (Int×List Int)):∀ Ps:List (Int×List Int),(Ps.map fun e=>(e.1,if (Qs.any fun f=>decide ((tip f.2,tip e.2)∈L))=true then e.2.dropLast else e.2))=Ps\/((Ps.map fun e=>(e.1,if (Qs.any fun f=>decide ((tip f.2,tip e.2)∈L))=true then e.2.dropLast else e.2)).map fun e=>e.2.length).sum<(Ps.map fun e=>e.2.length).sum
 | []=>.inl rfl
 | e::Ps=>by
   have hle:(if (Qs.any fun f=>decide ((tip f.2,tip e.2)∈L))=true then e.2.dropLast else e.2).length<=e.2.length:=by
    split
    ·rw [iI];lia
    ·exact ax _
   have hle2:∀ Ps:List (Int×List Int),((Ps.map fun e=>(e.1,if (Qs.any fun f=>decide ((tip f.2,tip e.2)∈L))=true then e.2.dropLast else e.2)).map fun e=>e.2.length).sum<=(Ps.map fun e=>e.2.length).sum:=fun Ps=>by
    induction Ps with
    | nil=>exact ax _
    | cons a Ps ih =>
      simp only [aw,sN]
      have:(if (Qs.any fun f=>decide ((tip f.2,tip a.2)∈L))=true then a.2.dropLast else a.2).length<=a.2.length:=by
       split
       ·rw [iI];lia
       ·exact ax _
      lia
   simp only [aw,sN]
   rcases mX hle with z | z
   ·right
    have:=hle2 Ps
    lia
   ·rcases AA L Qs Ps with w | w
    ·left
     rw [w]
     congr 1
     refine jT rfl ?_
     dsimp only
     split at z
     ·rename_i hc
      rw [if_pos hc]
      rw [iI] at z
      have:e.2=[]:=iH (by lia)
      rw [this];rfl
     ·rename_i hc
      rw [if_neg hc]
    ·right
     lia
end GT
set_option linter.unusedSimpArgs false
namespace GT
open PySem L2 Ry G G3
theorem DB {n:Int} {L U O:List PI} {X:List Int} {k:Nat} {m M:Int->Nat} (Y:Yd n L) (h:Lnk L U O) (hm:∀ a b,(a,b)∈L->m a<m b) (hM:∀ a b,(a,b)∈L->M b<M a) (hk:∀ x,M x<=k) (nX:X.Nodup) (rX:∀ x∈X,x∈rgI 0 n.toNat) (aX:∀ x∈X,∀ y∈X,(x,y)∉L)
 (hl:((rgI 0 n.toNat).filter fun x=>decide (x∉bX U)).length<=X.length):∀ b∈(rgI 0 n.toNat).filter (fun x=>decide (x∉bX U)),∃ x∈X,x∈twF O k b:=by
 intro b0 hb0
 refine Classical.byContradiction fun hno=>?_
 have ex:∀ x:Int,∃ b:Int,x∈X->b∈(rgI 0 n.toNat).filter (fun x=>decide (x∉bX U))/\x∈twF O k b:=fun x=>by
  by_cases hx:x∈X
  ·obtain ⟨b,h1,h2,h3⟩:=Ef Y h hm hM hk _ x rfl (rX x hx)
   exact ⟨b,fun _=>⟨aI.mpr ⟨h1,by simpa using h2⟩,h3⟩⟩
  ·exact ⟨0,fun z=>absurd z hx⟩
 have hch:∀ x∈X,e8 (ex x)∈(rgI 0 n.toNat).filter (fun x=>decide (x∉bX U))/\x∈twF O k (e8 (ex x)):=fun x hx=>jL (ex x) hx
 have nd:(X.map fun x=>e8 (ex x)).Nodup:=by
  refine bB.mpr (nX.imp_of_mem fun {x y} hx hy ne e=>?_)
  have h1:=(hch x hx).2
  have h2:=(hch y hy).2
  rw [<- e] at h2
  have hp:=oM Y h k (e8 (ex x))
  obtain ⟨i,hi,ei⟩:=cf h1
  obtain ⟨j,hj,ej⟩:=cf h2
  rcases BU i j with z | z | z
  ·have:=eS.mp hp i j hi hj z
   rw [ei,ej] at this
   exact aX x hx y hy this
  ·subst z;exact ne (by rw [<- ei,<- ej])
  ·have:=eS.mp hp j i hj hi z
   rw [ei,ej] at this
   exact aX y hy x hx this
 have hsub:=Ms.length_le_of_subset nd (m:=((rgI 0 n.toNat).filter fun x=>decide (x∉bX U)).filter fun b=>decide (b≠b0)) fun b hb=>by
  obtain ⟨x,hx,rfl⟩:=aK.mp hb
  refine aI.mpr ⟨(hch x hx).1,?_⟩
  rw [decide_eq_true_eq]
  intro z
  exact hno ⟨x,hx,by rw [<- z];exact (hch x hx).2⟩
 rw [ab] at hsub
 have h2:=eJ (fun b=>decide (b≠b0)) ((rgI 0 n.toNat).filter fun x=>decide (x∉bX U))
 have he:=kO h2 (bL hl hsub)
 have:=nD.mp he b0 hb0
 simp at this
theorem Dz {n:Int} {L U O:List PI} {X:List Int} {k:Nat} {m M:Int->Nat} (Y:Yd n L) (h:Lnk L U O) (hm:∀ a b,(a,b)∈L->m a<m b) (hM:∀ a b,(a,b)∈L->M b<M a) (hk:∀ x,M x<=k) (nX:X.Nodup) (rX:∀ x∈X,x∈rgI 0 n.toNat) (aX:∀ x∈X,∀ y∈X,(x,y)∉L)
 (hl:((rgI 0 n.toNat).filter fun x=>decide (x∉bX U)).length<=X.length):∃ Ps:List (Int×List Int),Ps.map (·.2)=((rgI 0 n.toNat).filter fun x=>decide (x∉bX U)).map (twF O k)/\Do L Ps:=by
 have one:=DB Y h hm hM hk nX rX aX hl
 have nb:((rgI 0 n.toNat).filter fun x=>decide (x∉bX U)).Nodup:=(fz _ _).sublist bQ
 have bn:∀ b∈(rgI 0 n.toNat).filter (fun x=>decide (x∉bX U)),b∉bX U:=fun b hb=>by simpa using (aI.mp hb).2
 have go:∀ l:List Int,l.Nodup->(∀ b∈l,b∈(rgI 0 n.toNat).filter (fun x=>decide (x∉bX U)))->∃ Ps:List (Int×List Int),Ps.map (·.2)=l.map (twF O k)/\(∀ e∈Ps,e.1∈X/\e.1∈e.2/\∃ b∈l,e.2=twF O k b)/\Ps.Pairwise fun e f=>∀ y∈e.2,y∉f.2:=fun l=>by
  induction l with
  | nil=>exact fun _ _=>⟨[],rfl,by simp,.nil⟩
  | cons b l ih =>
    intro hn hs
    obtain ⟨hn1,hn2⟩:=bf.mp hn
    obtain ⟨Ps,e1,e2,e3⟩:=ih hn2 fun c hc=>hs c (ag _ hc)
    obtain ⟨x,hx,hxb⟩:=one b (hs b ah)
    refine ⟨(x,twF O k b)::Ps,by rw [aw,aw,e1],fun e he=>?_,bF.mpr ⟨fun f hf y hy hy2=>?_,e3⟩⟩
    ·rcases am.mp he with z | z
     ·rw [z];exact ⟨hx,hxb,b,ah,rfl⟩
     ·obtain ⟨q1,q2,c,hc,q3⟩:=e2 e z
      exact ⟨q1,q2,c,ag _ hc,q3⟩
    ·obtain ⟨_,_,c,hc,q3⟩:=e2 f hf
     rw [q3] at hy2
     have:b=c:=ED h hm (bn b (hs b ah)) (bn c (hs c (ag _ hc))) _ y rfl hy hy2
     rw [this] at hn1
     exact hn1 hc
 obtain ⟨Ps,e1,e2,e3⟩:=go _ nb fun b hb=>hb
 refine ⟨Ps,e1,fun e he=>(e2 e he).2.1,fun e he=>?_,fun e he f hf=>aX _ (e2 e he).1 _ (e2 f hf).1,e3⟩
 obtain ⟨_,_,b,_,q⟩:=e2 e he
 rw [q]
 exact oM Y h k b
end GT
set_option linter.unusedSimpArgs false
namespace GT
open PySem L2 Ry G G3
theorem KP {n:Int} {L U O:List PI} (Y:Yd n L) (h:Lnk L U O) {k:Nat} {b y:Int} (hb:b∈rgI 0 n.toNat) (hy:y∈twF O k b):y∈rgI 0 n.toNat:=by
 rcases oK h k b y hy with z | ⟨z,_⟩
 ·rw [z];exact hb
 ·have:=(Y.rg _ (h.up y z)).2
  dsimp only at this
  exact fq.mpr (by lia)
theorem zE {n:Int} {L U O:List PI} {k:Nat} {m M:Int->Nat} (Y:Yd n L) (h:Lnk L U O) (hm:∀ a b,(a,b)∈L->m a<m b) (hM:∀ a b,(a,b)∈L->M b<M a) (hk:∀ x,M x<=k):((((rgI 0 n.toNat).filter fun x=>decide (x∉bX U)).map (twF O k)).flatten).Perm (rgI 0 n.toNat):=by
 have nb:((rgI 0 n.toNat).filter fun x=>decide (x∉bX U)).Nodup:=(fz _ _).sublist bQ
 have bn:∀ b∈(rgI 0 n.toNat).filter (fun x=>decide (x∉bX U)),b∉bX U:=fun b hb=>by simpa using (aI.mp hb).2
 have nd:∀ l:List Int,l.Nodup->(∀ b∈l,b∈(rgI 0 n.toNat).filter (fun x=>decide (x∉bX U)))->((l.map (twF O k)).flatten).Nodup:=fun l=>by
  induction l with
  | nil=>exact fun _ _=>.nil
  | cons b l ih =>
    intro hn hs
    obtain ⟨hn1,hn2⟩:=bf.mp hn
    rw [aw,List.flatten_cons]
    refine bp.mpr ⟨(oM Y h k b).imp (S:=fun x y=>x≠y) fun {x y} hxy (e:x=y)=>Y.irr x (by rw [<- e] at hxy;exact hxy),ih hn2 fun c hc=>hs c (ag _ hc),fun x hx y hy e=>?_⟩
    subst e
    obtain ⟨T,hT,hxT⟩:=j0.mp hy
    obtain ⟨c,hc,rfl⟩:=aK.mp hT
    have:b=c:=ED h hm (bn b (hs b ah)) (bn c (hs c (ag _ hc))) _ x rfl hx hxT
    rw [this] at hn1
    exact hn1 hc
 refine (gn (nd _ nb fun b hb=>hb) (fz _ _)).mpr fun x=>?_
 rw [j0]
 constructor
 ·rintro ⟨T,hT,hx⟩
  obtain ⟨b,hb,rfl⟩:=aK.mp hT
  exact KP Y h (aI.mp hb).1 hx
 ·intro hx
  obtain ⟨b,h1,h2,h3⟩:=Ef Y h hm hM hk _ x rfl hx
  exact ⟨_,aK.mpr ⟨b,aI.mpr ⟨h1,by simpa using h2⟩,rfl⟩,h3⟩
end GT
set_option linter.unusedSimpArgs false
namespace GT
open PySem PySem.Spec PyProof.Rows L2 Ry G G3
structure Bd (R:List Int) (U:List PI) (A:List Int):Prop where
 un:(bX U).Nodup
 ur:∀ u∈bX U,u∈R
 an:A.Nodup
 ar:∀ a∈A,a∈R
theorem Bd.ask {R:List Int} {U:List PI} {A:List Int} {u:Int} (h:Bd R U A) (hu:u∈R) (hA:u∉A):Bd R U (A++[u]) :=
 ⟨h.un,h.ur,bp.mpr ⟨h.an,aS _ _,fun a ha b hb=>by rw [av] at hb;subst hb;intro z;subst z;exact hA ha⟩,fun a ha=>by
   rcases az.mp ha with z | z
   ·exact h.ar a z
   ·rw [av] at z;rw [z];exact hu⟩
theorem Bd.put {R:List Int} {U:List PI} {A:List Int} {u t:Int} (h:Bd R U A) (hu:u∈R):Bd R (mH U u t) A:=by
 refine ⟨?_,fun v hv=>?_,h.an,h.ar⟩
 ·rw [jR]
  split
  ·exact h.un
  ·rename_i hK
   exact bp.mpr ⟨h.un,aS _ _,fun a ha b hb=>by rw [av] at hb;subst hb;intro z;subst z;exact hK ha⟩
 ·rw [jR] at hv
  split at hv
  ·exact h.ur v hv
  ·rcases az.mp hv with z | z
   ·exact h.ur v z
   ·rw [av] at z;rw [z];exact hu
theorem zk {R:List Int} {rec:Int->List PI->List Int->TK} {t:Int} (hr:∀ x U A r,Bd R U A->rec x U A=some r->Bd R r.2.1 r.2.2):∀ (us:List Int) (U:List PI) (A:List Int) (r:Bool×List PI×List Int),(∀ u∈us,u∈R)->Bd R U A->tkL rec t us U A=some r->Bd R r.2.1 r.2.2
 | [],U,A,r,_,h,e=>by cases e;exact h
 | u::us,U,A,r,hs,h,e=>by
   have hu:=hs u ah
   have hs':=fun v hv=>hs v (ag _ hv)
   unfold tkL at e
   split at e
   ·exact zk hr us U A r hs' h e
   ·rename_i hA
    split at e
    ·cases e;exact (h.ask hu hA).put hu
    ·split at e
     ·cases e
     ·rename_i U' A' er
      cases e
      exact (hr _ _ _ _ (h.ask hu hA) er).put hu
     ·rename_i U' A' er
      exact zk hr us U' A' r hs' (hr _ _ _ _ (h.ask hu hA) er) e
theorem Gb {up:Int->List Int} {R:List Int} (hup:∀ t,∀ u∈up t,u∈R):∀ (k:Nat) (t:Int) (U:List PI) (A:List Int) (r:Bool×List PI×List Int),Bd R U A->tk up k t U A=some r->Bd R r.2.1 r.2.2
 | 0,_,_,_,_,_,e=>by cases e
 | k+1,t,U,A,r,h,e=>zk (fun x U A r h er=>Gb hup k x U A r h er) (up t) U A r (hup t) h e
def cU (U:List PI):List (Key×V):=U.map fun e=>(aq e.1,V.int e.2)
theorem tU:∀ (U:List PI) (u:Int),nI (cU U) (aq u)=if u∈bX U then some (.int (cE U u)) else none
 | [],u=>rfl
 | (a,b)::U,u=>by
   by_cases h:a=u
   ·subst h
    rw [if_pos (by show a∈a::bX U;exact ah)]
    show _=some (V.int (if a=a then b else _))
    rw [if_pos rfl]
    exact jQ (p:=(aq a,V.int b)) rfl
   ·have ek:¬ (aq a:Key)=aq u:=fun z=>h (cZ z)
    have ev:nI (cU ((a,b)::U)) (aq u)=nI (cU U) (aq u):=jN (p:=(aq a,V.int b)) ek
    rw [ev,tU U u]
    show _=if u∈a::bX U then some (V.int (if a=u then b else cE U u)) else none
    rw [if_neg h]
    by_cases h2:u∈bX U
    ·rw [if_pos h2,if_pos (ag _ h2)]
    ·rw [if_neg h2,if_neg (fun z=>(am.mp z).elim (fun z=>h z.symm) h2)]
theorem Jm {U:List PI} (nd:(bX U).Nodup) (u t:Int):lp (cU U) (aq u) (V.int t)=cU (mH U u t):=by
 by_cases h:u∈bX U
 ·obtain ⟨P,S,e1,e2⟩:=oC (t:=t) h
  have hP:∀ e∈P,e.1≠u:=fun e he z=>by
   rw [e1] at nd
   unfold bX at nd
   rw [bD,aw] at nd
   exact (bp.mp nd).2.2 e.1 (aK.mpr ⟨e,he,rfl⟩) u ah z
  have hS:∀ e∈S,e.1≠u:=fun e he z=>by
   rw [e1] at nd
   unfold bX at nd
   rw [bD,aw] at nd
   exact (bf.mp (bp.mp nd).2.1).1 (aK.mpr ⟨e,he,z⟩)
  have keep:∀ l:List PI,(∀ e∈l,e.1≠u)->((cU l).map fun kv=>if kv.1=(aq u:Key) then (kv.1,V.int t) else kv)=cU l:=fun l hl=>by
   unfold cU
   rw [aC]
   refine dr fun e he=>?_
   show (if (aq e.1:Key)=aq u then ((aq e.1:Key),V.int t) else (aq e.1,V.int e.2))=_
   rw [if_neg (fun z=>hl e he (cZ z))]
  unfold lp
  rw [oj,tU,if_pos h]
  rw [show (some (V.int (cE U u))).isSome=true from rfl,if_pos rfl]
  rw [e2,e1]
  show ((cU (P++(u,_)::S)).map _)=_
  have split:∀ x:Int,cU (P++(u,x)::S)=cU P++(aq u,V.int x)::cU S:=fun x=>by unfold cU;rw [bD,aw]
  rw [split,split,bD,aw,keep P hP,keep S hS,if_pos rfl]
 ·rw [rC _ (by rw [tU,if_neg h]),nu h]
  unfold cU
  rw [bD];rfl
theorem FV (A:List Int) (u:Int):nI (idc A) (aq u)=if u∈A then some (.bl true) else none:=by
 induction A with
 | nil=>rfl
 | cons a A ih =>
   by_cases h:a=u
   ·subst h
    rw [if_pos ah]
    exact jQ (p:=(aq a,V.bl true)) rfl
   ·have ek:¬ (aq a:Key)=aq u:=fun z=>h (cZ z)
    have ev:nI (idc (a::A)) (aq u)=nI (idc A) (aq u):=jN (p:=(aq a,V.bl true)) ek
    rw [ev,ih]
    by_cases h2:u∈A
    ·rw [if_pos h2,if_pos (ag _ h2)]
    ·rw [if_neg h2,if_neg (fun z=>(am.mp z).elim (fun z=>h z.symm) h2)]
structure Chg (lu la:ak) (G H G' H':Hp):Prop where
 hh:∀ b o,H b=some o->b≠lu->b≠la->H' b=some o
 gg:cQ G G'
 gh:cQ G' H'
 nw:∀ b o,H b=some o->isT o=false->G b=none->G' b=none
theorem Chg.ext {lu la:ak} {G H G1 H1 G2 H2:Hp} {cu:List (Key×V)} {ca:List (Key×V)} (c:Chg lu la G H G1 H1) (e:Chg lu la G1 H1 G2 H2) (hu:H1 lu=some (.dK cu)) (ha:H1 la=some (.dK ca)):Chg lu la G H G2 H2 :=
 ⟨fun b o q n1 n2=>e.hh b o (c.hh b o q n1 n2) n1 n2,c.gg.trans e.gg,e.gh,fun b o q t g=>by
   have g1:=c.nw b o q t g
   by_cases n1:b=lu
   ·subst n1;exact e.nw _ _ hu rfl g1
   ·by_cases n2:b=la
    ·subst n2;exact e.nw _ _ ha rfl g1
    ·exact e.nw b o (c.hh b o q n1 n2) t g1⟩
theorem Chg.of {lu la:ak} {G H G1 H1:Hp} (e:Ext G H G1 H1):Chg lu la G H G1 H1:=⟨fun b o q _ _=>e.hh b o q,e.gg,e.gh,e.nw⟩
theorem Chg.mut {lu la l:ak} {G H:Hp} {o:HO} (s:cQ G H) (hl:l=lu\/l=la) (g:G l=none):Chg lu la G H G (upd H l o) :=
 ⟨fun b u q n1 n2=>by rw [bq (fun z=>by subst z;exact hl.elim n1 n2)];exact q,cQ.refl _,kY s g,fun _ _ _ _ g=>g⟩
theorem FU {lu la:ak} {G H G1 H1 G2 H2:Hp} (E:Ext G H G1 H1) (hu:H lu=none) (ha:H la=none) (c:Chg lu la G1 H1 G2 H2):Ext G H G2 H2 :=
 ⟨fun b o q=>c.hh b o (E.hh b o q) (b7 q hu) (b7 q ha),E.gg.trans c.gg,c.gh,fun b o q t g=>c.nw b o (E.hh b o q) t (E.nw b o q t g)⟩
def spT (K:ac) (k:Nat):Sp:=fun vs H Q _=>∃ (G:Hp) (D:UD) (R:List Int) (vu:V) (t:Int) (lu la:ak) (U:List PI) (A:List Int) (b:Bool) (U':List PI) (A':List Int),
 vs=[vu,.int t,.ref lu,.ref la]/\cQ G H/\Tbs K G/\Den K G (dU D) vu/\(R.length<=1000/\∀ t,∀ u∈dt D t,u∈R)/\(G lu=none/\G la=none/\lu≠la)/\H lu=some (.dK (cU U))/\H la=some (.dK (idc A))/\Bd R U A/\tk (dt D) k t U A=some (b,U',A') /\
 ∀ G' H',Chg lu la G H G' H'->H' lu=some (.dK (cU U'))->H' la=some (.dK (idc A'))->Q (.bl b) H'
theorem EN {R l:List Int} (nd:l.Nodup) (hs:∀ x∈l,x∈R) (hR:R.length<=1000):l.length<=1000:=bL (Ms.length_le_of_subset nd hs) hR
theorem take_read {K:ac} {H:Hp} {vs:List V} {Q:VK} {E:XK} {E':XK} {k:Nat} {x0 x1 x2 x3 x4:bH} (h:spT K (k+1) vs H Q E') :
 pB (Kr (iX K (cF (iG (ju (aW 0) (aW 1) (xC2 (.fr,.dK [] [])))))) (kC 4)
  (pB (Kt (tB (LC (kh 4) (kh 3))) Kg CV)
  (pB (v6 (kh 3) (kh 4) (tC (V.bl true)))
  (Kt (tOr (tB (vy (kh 4) (kh 2))) (tB (GD (spT K k) [] E (oF (kh 0) (oF (CH (kh 2) (kh 4)) (oF (kh 2) (oF (kh 3) IR)))))))
    (pB (v6 (kh 2) (kh 4) (kh 1)) (HA (tC (V.bl true)))) CV))))
  (HA (tC (V.bl false))) { nx:=fun _ H'=>Q V.non H',rt:=Q } (L2.start [x0,x1,x2,x3,x4] vs) H:=by
 have hs:aL=16777216:=bE
 obtain ⟨G,D,R,vu,t,lu,la,U0,A0,b,U',A',rfl,sg,tg,dv,⟨hR,hup⟩,⟨gu,ga,nla⟩,hu0,ha0,bd0,e0,fin⟩:=h
 have e0:tkL (tk (dt D) k) t (dt D t) U0 A0=some (b,U',A'):=e0
 show pB _ _ _ [some vu,some (.int t),some (.ref lu),some (.ref la),none] H
 have st0:iC K H G H [some vu,some (.int t),some (.ref lu),some (.ref la),none] [.pu (dU D),.pu (.int t),.no,.no,.no]:=by
  refine ⟨rfl,fun i d e=>?_,fun i d e=>?_,fun i j d d' l _ e=>?_,tg⟩
  ·match i,e with
   | 0,e=>cases e;exact ⟨vu,rfl,dv⟩
   | 1,e=>cases e;exact ⟨_,rfl,rfl⟩
   | 2,e=>cases e
   | 3,e=>cases e
   | 4,e=>cases e
  ·match i,e with
   | 0,e=>cases e
   | 1,e=>cases e
   | 2,e=>cases e
   | 3,e=>cases e
   | 4,e=>cases e
  ·match i,e with
   | 0,e=>cases e
   | 1,e=>cases e
   | 2,e=>cases e
   | 3,e=>cases e
   | 4,e=>cases e
 have hit:cF (iG (ju (aW 0) (aW 1) (xC2 (.fr,.dK [] [])))) [.pu (dU D),.pu (.int t),.no,.no,.no]=some ((dt D t).map Da.int):=su (xw D t _ _ _ (k:=.pu) (k':=.pu) rfl rfl)
 refine ⟨H,G,_,_,sg,cQ.refl _,st0,hit,fun J G1 H1 E1 it=>?_⟩
 generalize hus:dt D t=us at e0 it
 have hR':∀ u∈us,u∈R:=by rw [<- hus];exact hup t
 refine ⟨fun i m σ H'=>m=us.length-i/\i<=us.length/\∃ Gc U A s4,σ=[some vu,some (.int t),some (.ref lu),some (.ref la),s4]/\Chg lu la G H Gc H'/\cQ G1 Gc/\H' lu=some (.dK (cU U))/\H' la=some (.dK (idc A))/\Bd R U A/\tkL (tk (dt D) k) t (us.drop i) U A=some (b,U',A'),
  ⟨us.length,rfl,bW _,G1,U0,A0,_,rfl,.of E1,cQ.refl _,E1.hh _ _ hu0,E1.hh _ _ ha0,bd0,e0⟩,?_⟩
 rintro i m σ H' ⟨rfl,hi,Gc,U,A,s4,rfl,Cc,sc,hu,ha,bd,e⟩
 by_cases hlt:i<us.length
 ·obtain ⟨hgo,hy⟩:=(it i Gc H' sc Cc.gh).1 (Da.int us[i]) (by rw [ay,aj hlt];rfl)
  rw [gC hlt] at e
  have huR:=hR' us[i] (gy hlt)
  generalize us[i]=u at e huR hy
  refine .inr ⟨hgo,fun σ3 H3=>∃ Gc U A s4,σ3=[some vu,some (.int t),some (.ref lu),some (.ref la),s4]/\Chg lu la G H Gc H3/\cQ G1 Gc/\H3 lu=some (.dK (cU U))/\H3 la=some (.dK (idc A))/\Bd R U A/\tkL (tk (dt D) k) t (us.drop (i+1)) U A=some (b,U',A'),fun σ3 H3 z=>⟨us.length-(i+1),by lia,rfl,hlt,z⟩,fun x H2 yl=>?_⟩
  obtain ⟨G2,E2,dx⟩:=hy x H2 yl
  cases (show x=.int u from dx)
  have C2:Chg lu la G H G2 H2:=Cc.ext (.of E2) hu ha
  have s2:=sc.trans E2.gg
  have hu2:=E2.hh _ _ hu
  have ha2:=E2.hh _ _ ha
  have gu2:G2 lu=none:=C2.nw _ _ hu0 rfl gu
  have ga2:G2 la=none:=C2.nw _ _ ha0 rfl ga
  have hAl:(idc A).length<aL:=by
   unfold idc
   rw [ab]
   have:=EN bd.an bd.ar hR
   lia
  show pB _ _ _ [some vu,some (.int t),some (.ref lu),some (.ref la),some (.int u)] H2
  refine ⟨_,rfl,_,rfl,la,_,rfl,rW.k (k:=aq u) ha2,_,rfl,?_⟩
  rw [FV]
  unfold tkL at e
  by_cases hA:u∈A
  ·rw [if_pos hA]
   rw [if_pos hA] at e
   refine HF ?_
   exact ⟨G2,U,A,_,rfl,C2,s2,hu2,ha2,bd,e⟩
  ·rw [if_neg hA]
   rw [if_neg hA] at e
   refine JY ?_
   have bd2:=bd.ask huR hA
   refine ⟨_,rfl,_,rfl,la,_,rfl,Dy.k (k:=aq u) ha2 hAl,?_⟩
   rw [wY,show sP A u=A++[u] from if_neg hA]
   have C3:Chg lu la G H G2 (upd H2 la (.dK (idc (A++[u])))):=C2.ext (Chg.mut E2.gh (.inr rfl) ga2) hu2 ha2
   have hu3:(upd H2 la (.dK (idc (A++[u])))) lu=some (.dK (cU U)):=by rw [bq nla];exact hu2
   have ha3:(upd H2 la (.dK (idc (A++[u])))) la=some (.dK (idc (A++[u]))):=aV
   generalize upd H2 la (.dK (idc (A++[u])))=H3 at C3 hu3 ha3
   have last:∀ (Gd Hd:Hp) (Ud:List PI) (Ad:List Int),Chg lu la G H Gd Hd->Hd lu=some (.dK (cU Ud))->Hd la=some (.dK (idc Ad))->Bd R Ud Ad->(true,mH Ud u t,Ad)=(b,U',A')->∀ N B' C',pB (v6 (kh 2) (kh 4) (kh 1)) (HA (tC (V.bl true))) { nx:=N,rt:=Q,bk:=B',ct:=C' } [some vu,some (.int t),some (.ref lu),some (.ref la),some (.int u)] Hd:=fun Gd Hd Ud Ad Cd hud had bdd ee N B' C'=>by
    cases ee
    have hUl:(cU Ud).length<aL:=by
     unfold cU
     rw [ab]
     have:=EN bdd.un bdd.ur hR
     unfold bX at this
     rw [ab] at this
     lia
    have gud:Gd lu=none:=Cd.nw _ _ hu0 rfl gu
    refine ⟨_,rfl,_,rfl,_,rfl,lu,_,rfl,Dy.k (k:=aq u) hud hUl,?_⟩
    rw [Jm bdd.un]
    exact fin Gd _ (Cd.ext (Chg.mut Cd.gh (.inl rfl) gud) hud had) aV (by rw [bq nla.symm];exact had)
   refine ⟨_,rfl,_,rfl,lu,_,rfl,rW.k (k:=aq u) hu3,_,rfl,?_⟩
   rw [tU]
   by_cases hK:u∈bX U
   ·rw [if_pos hK]
    rw [if_neg (by simpa using hK)] at e
    refine JY ?_
    cases er:tk (dt D) k (cE U u) U (A++[u]) with
    | none=>rw [er] at e;cases e
    | some r =>
      obtain ⟨b1,U1,A1⟩:=r
      rw [er] at e
      refine ⟨_,rfl,_,rfl,_,rfl,lu,.int (cE U u),rfl,?_,_,rfl,_,rfl,?_⟩
      ·have:=rW.k (k:=aq u) hu3
       rw [tU,if_pos hK] at this
       exact this
      have gu3:G2 lu=none:=gu2
      refine ⟨G2,D,R,vu,cE U u,lu,la,U,A++[u],b1,U1,A1,rfl,C3.gh,tg.mono C3.gg,Den.mono C3.gg _ dv,⟨hR,hup⟩,⟨gu2,ga2,nla⟩,hu3,ha3,bd2,er,fun G4 H4 C4 hu4 ha4=>⟨_,rfl,?_⟩⟩
      have C5:=C3.ext C4 hu3 ha3
      have bd4:Bd R U1 A1:=Gb hup k _ _ _ _ bd2 er
      cases b1 with
      | true =>
        refine HF ?_
        exact last G4 H4 U1 A1 C5 hu4 ha4 bd4 (by simpa using e) _ _ _
      | false =>
        refine JY ?_
        exact ⟨G4,U1,A1,_,rfl,C5,s2.trans C4.gg,hu4,ha4,bd4,e⟩
   ·rw [if_neg hK]
    rw [if_pos hK] at e
    refine HF ?_
    refine HF ?_
    exact last G2 H3 U (A++[u]) C3 hu3 ha3 bd2 (by simpa using e) _ _ _
 ·have ei:i=us.length:=by lia
  subst ei
  rw [jW] at e
  cases (show some (false,U,A)=some (b,U',A') from e)
  refine .inl ⟨(it us.length Gc H' sc Cc.gh).2 (ab _),?_⟩
  exact fin Gc H' Cc hu ha
end GT
set_option linter.unusedSimpArgs false
namespace GT
open PySem PySem.Spec PyProof.Rows L2 Ry G G3
noncomputable def fn_steps_of:List Da->Option Da
 | [.tup [.int n,.tup ps]]=>match dG ps with
   | some L=>if L.length<=1000/\0<=n/\n<=12/\(L.all fun p=>decide (0<=p.2/\p.2<n))=true then (iQ (dt (upp L)) 13 (rgI 0 n.toNat) []).map dC else none
   | none=>none
 | _=>none
theorem yA {ds:List Da} {d:Da} (h:fn_steps_of ds=some d):∃ n ps L U,ds=[.tup [.int n,.tup ps]]/\dG ps=some L/\L.length<=1000/\0<=n/\n<=12/\(∀ p∈L,0<=p.2/\p.2<n)/\iQ (dt (upp L)) 13 (rgI 0 n.toNat) []=some U/\d=dC U:=by
 unfold fn_steps_of at h
 split at h
 ·rename_i n ps
  split at h
  ·rename_i L eL
   split at h
   ·rename_i hc
    obtain ⟨h1,h2,h3,h4⟩:=hc
    cases eU:iQ (dt (upp L)) 13 (rgI 0 n.toNat) [] with
    | none=>rw [eU] at h;cases h
    | some U =>
      rw [eU] at h
      cases h
      exact ⟨n,ps,L,U,rfl,eL,h1,h2,h3,fun p hp=>by simpa using cB.mp h4 p hp,eU,rfl⟩
   ·cases h
  ·cases h
 ·cases h
theorem KI {K:ac} {G:Hp} {U:List PI} {l:ak} {o:dm} (h:G l=some (.frz o (.dK (cU U)))):Den K G (dC U) (.ref l):=by
 refine ⟨l,o,cU U,rfl,h,?_,?_⟩
 ·unfold cU;rw [aC];rfl
 ·have e1:(cU U).map (·.2)=(U.map (·.2)).map V.int:=by unfold cU;rw [aC,aC];rfl
  have e2:(U.map fun e=>Da.int e.2)=(U.map (·.2)).map Da.int:=by rw [aC];rfl
  rw [e1,e2]
  exact cO.ints.mpr rfl
theorem steps_read {K:ac} {G H:Hp} {ds:List Da} {d:Da} {vs:List V} {Q:VK} {E:XK} {x0 x1 x2 x3:bH} (sg:cQ G H) (tg:Tbs K G) (dl:cO K G ds vs) (ef:fn_steps_of ds=some d) (k:∀ v G' H',Ext G H G' H'->Den K G' d v->Q v H') :
 pB (EH (tX K (cJ fn_uppers_of (aJ (Ry.x2 oIt (aW 0) (xC (.int 1))) cc))) (kC 1)) (pB (EH tj (kC 2))
  (pB (Kr (iX K (mn (aJ (Ry.x2 oIt (aW 0) (xC (.int 0))) cc))) (kC 3)
    (GU (GD (spT K 13) [] E (oF (kh 1) (oF (kh 3) (oF (kh 2) (oF tj IR)))))))
  fun D σ H=>kh 2 σ H fun v H1=>∃ ls,je H1 ls fun H2=>D.rt v H2)) { nx:=fun _ H'=>Q V.non H',rt:=Q } (L2.start [x0,x1,x2,x3] vs) H:=by
 obtain ⟨n,ps,L,Uf,rfl,eL,hL,h0,h12,hrg,eU,rfl⟩:=yA ef
 obtain ⟨v0,r,ev,hd0,er⟩:=dl
 cases (show r=[] from er)
 subst ev
 have stG:∀ (Gx Hx:Hp) (w1 w2 w3:Option V),cQ G Gx->iC K H Gx Hx [some v0,w1,w2,w3] [.pu (.tup [.int n,.tup ps]),.no,.no,.no]:=fun Gx Hx w1 w2 w3 sx=>by
  refine ⟨rfl,fun i d e=>?_,fun i d e=>?_,fun i j d d' l _ e=>?_,tg.mono sx⟩
  ·match i,e with
   | 0,e=>cases e;exact ⟨v0,rfl,Den.mono sx _ hd0⟩
   | 1,e=>cases e
   | 2,e=>cases e
   | 3,e=>cases e
  ·match i,e with
   | 0,e=>cases e
   | 1,e=>cases e
   | 2,e=>cases e
   | 3,e=>cases e
  ·match i,e with
   | 0,e=>cases e
   | 1,e=>cases e
   | 2,e=>cases e
   | 3,e=>cases e
 show pB _ _ _ [some v0,none,none,none] H
 have hup:fn_uppers_of [.tup ps]=some (dU (upp L)):=by
  show (match dG ps with | some T=>if T.length<=1000 then some (dU (upp T)) else none | none=>none)=_
  rw [eL]
  exact if_pos hL
 have hc:cJ fn_uppers_of (aJ (Ry.x2 oIt (aW 0) (xC (.int 1))) cc) [.pu (.tup [.int n,.tup ps]),.no,.no,.no]=some (.pu,dU (upp L)):=by
  show (match fn_uppers_of [.tup ps] with | none=>none | some d=>some (Kd.pu,d))=_
  rw [hup]
 refine ⟨H,G,_,_,sg,cQ.refl _,stG G H _ _ _ (cQ.refl _),hc,fun vu G1 H1 E1 du=>?_⟩
 have du:Den K G1 (dU (upp L)) vu:=du
 show pB _ _ _ [some v0,some vu,none,none] H1
 intro lu hlu
 show pB _ _ _ [some v0,some vu,some (.ref lu),none] (upd H1 lu (.dK []))
 have h0u:H lu=none:=E1.hh.free hlu
 have g1u:G1 lu=none:=E1.gh.free hlu
 have E2:Ext G H G1 (upd H1 lu (.dK [])):=E1.trans (Ext.own E1.gh hlu)
 have hrng:mn (aJ (Ry.x2 oIt (aW 0) (xC (.int 0))) cc) [.pu (.tup [.int n,.tup ps]),.no,.no,.no]=some ((rgI 0 n.toNat).map Da.int):=by
  show (if -(2 ^ 62)<=n/\n<2 ^ 62 then some (fg 0 n.toNat) else none)=_
  rw [if_pos (by lia),eQ]
 refine ⟨H,G1,_,_,E2.gh,E2.hh,stG G1 _ _ _ _ E1.gg,hrng,fun J G3 H3 E3 it=>?_⟩
 generalize hts:rgI 0 n.toNat=ts at eU it
 have hRl:(rgI 0 n.toNat).length<=1000:=by rw [e6];lia
 have hR:∀ t,∀ u∈dt (upp L) t,u∈rgI 0 n.toNat:=fun t u hu=>by
  rw [(j3 L).get] at hu
  have:=hrg _ hu
  exact fq.mpr (by lia)
 refine ⟨fun i m σ H'=>m=ts.length-i/\i<=ts.length/\∃ Gc U s3,σ=[some v0,some vu,some (.ref lu),s3]/\Ext G H Gc H'/\cQ G3 Gc/\H' lu=some (.dK (cU U))/\Gc lu=none/\Bd (rgI 0 n.toNat) U []/\iQ (dt (upp L)) 13 (ts.drop i) U=some Uf,
  ⟨ts.length,rfl,bW _,G3,[],_,rfl,E2.trans E3,cQ.refl _,E3.hh _ _ aV,E3.nw _ _ aV rfl g1u,⟨by simp [bX],by simp [bX],by simp,by simp⟩,eU⟩,?_⟩
 rintro i m σ H' ⟨rfl,hi,Gc,U,s3,rfl,Ec,sc,hu,gu,bd,e⟩
 by_cases hlt:i<ts.length
 ·obtain ⟨hgo,hy⟩:=(it i Gc H' sc Ec.gh).1 (Da.int ts[i]) (by rw [ay,aj hlt];rfl)
  rw [gC hlt] at e
  generalize ts[i]=t at e hy
  refine .inr ⟨hgo,fun σ3 H3=>∃ Gc U s3,σ3=[some v0,some vu,some (.ref lu),s3]/\Ext G H Gc H3/\cQ G3 Gc/\H3 lu=some (.dK (cU U))/\Gc lu=none/\Bd (rgI 0 n.toNat) U []/\iQ (dt (upp L)) 13 (ts.drop (i+1)) U=some Uf,fun σ3 H3 z=>⟨ts.length-(i+1),by lia,rfl,hlt,z⟩,fun x H2 yl=>?_⟩
  obtain ⟨G2,E5,dx⟩:=hy x H2 yl
  cases (show x=.int t from dx)
  have Ec2:=Ec.trans E5
  have gu2:G2 lu=none:=E5.nw _ _ hu rfl gu
  have hu2:=E5.hh _ _ hu
  show GU _ _ [some v0,some vu,some (.ref lu),some (.int t)] H2
  refine ⟨_,rfl,_,rfl,_,rfl,fun la hla=>?_⟩
  have nla:lu≠la:=fun z=>by rw [<- z,hu2] at hla;cases hla
  have h0a:H la=none:=Ec2.hh.free hla
  have ga2:G2 la=none:=Ec2.gh.free hla
  have E6:Ext G H G2 (upd H2 la (.dK [])):=Ec2.trans (Ext.own Ec2.gh hla)
  have du2:Den K G2 (dU (upp L)) vu:=Den.mono (E3.gg.trans (sc.trans E5.gg)) _ du
  cases er:tk (dt (upp L)) 13 t U [] with
  | none =>
    have:iQ (dt (upp L)) 13 (t::ts.drop (i+1)) U=none:=by
     show (match tk (dt (upp L)) 13 t U [] with | none=>none | some (_,U',_)=>iQ (dt (upp L)) 13 (ts.drop (i+1)) U')=none
     rw [er]
    rw [this] at e;cases e
  | some r =>
    obtain ⟨b,U',A'⟩:=r
    have e':iQ (dt (upp L)) 13 (ts.drop (i+1)) U'=some Uf:=by
     have:iQ (dt (upp L)) 13 (t::ts.drop (i+1)) U=iQ (dt (upp L)) 13 (ts.drop (i+1)) U':=by
      show (match tk (dt (upp L)) 13 t U [] with | none=>none | some (_,U',_)=>iQ (dt (upp L)) 13 (ts.drop (i+1)) U')=_
      rw [er]
     rw [this] at e;exact e
    have bd':=Gb hR 13 t U [] _ bd er
    refine ⟨G2,upp L,rgI 0 n.toNat,vu,t,lu,la,U,[],b,U',A',rfl,E6.gh,tg.mono E6.gg,du2,⟨hRl,hR⟩,⟨gu2,ga2,nla⟩,by rw [bq nla];exact hu2,aV,bd,er,fun G4 H4 C4 hu4 ha4=>?_⟩
    exact ⟨G4,U',_,rfl,FU E6 h0u h0a C4,(sc.trans E5.gg).trans C4.gg,hu4,C4.nw _ _ (by rw [bq nla];exact hu2) rfl gu2,⟨bd'.un,bd'.ur,by simp,by simp⟩,e'⟩
 ·have ei:i=ts.length:=by lia
  subst ei
  rw [jW] at e
  cases (show some U=some Uf from e)
  refine .inl ⟨(it ts.length Gc H' sc Ec.gh).2 (ab _),?_⟩
  refine ⟨_,rfl,[lu],?_⟩
  have:=oU (G0:=G) (H0:=H) (k:=fun H2=>Q (.ref lu) H2) [(lu,HO.dK (cU Uf))] Gc H' Ec (by simp) (fun e he=>by
   rw [av] at he;subst he
   exact ⟨h0u,gu,hu,.inl ⟨_,rfl⟩⟩) fun G' H'' E' s' hh=>by
    obtain ⟨o,ho⟩:=hh (lu,HO.dK (cU Uf)) (by simp)
    exact k _ G' H'' E' (KI ho)
  exact this
end GT
namespace GT
open PySem L2 Ry G G3
noncomputable def g_tower_from:Rho->Res:=(iD (zC 2 (CK (aJ (aW 1) cc)))
 (iD (jr (tb (x2 (oIn false) (x2 oIt (aW 2) (o6 (xC (.int 1)))) (aW 0)))
 (lJ 2 (x2 oIt (aW 0) (x2 oIt (aW 2) (o6 (xC (.int 1)))))) 200)
 (fZ (xB gv (aJ (aW 2) cc)))))
noncomputable def fn_tower_from:List Da->Option Da:=jl 3 g_tower_from
noncomputable def g_towers:Rho->Res:=(iD (lP 1 (cJ fn_steps_of (aJ (aW 0) cc)))
 (iD (lP 2 (iG (m9 (fy [none,none,none] (qL (aW 1)) (tgT 2 (d4 (tgN 1) (d4 (tgN 2) jO))) (fun _=>some true) (kX (aJ (aW 2) (aJ (aW 1) cc)))))))
 (fZ (xB gv (aJ (fy [none,none,none,some 2,some 1] (mn (aJ (x2 oIt (aW 0) (xC (.int 0))) cc)) (tgN 1) (tb (x2 (oIn true) (aW 1) (aW 4))) (cJ fn_tower_from (aJ (aW 3) (aJ (aW 1) cc)))) cc)))))
noncomputable def fn_towers:List Da->Option Da:=jl 3 g_towers
noncomputable def g_stands_on_any:Rho->Res:=(fZ (xB Fh (aJ (fy [none,none,some 1,some 0] (cF (iG (aW 2))) (tgN 1) (fun _=>some true) (x2 (oIn false) (aW 2) (ju (aW 3) (aW 1) (xC2 (.fr,.dK [] []))))) cc)))
noncomputable def fn_stands_on_any:List Da->Option Da:=jl 3 g_stands_on_any
noncomputable def g_without_overtopping:Rho->Res:=(iD (lP 2 (fy [none,none] (cF (iG (aW 1))) (tgN 1) (fun _=>some true) (x2 oIt (aW 1) (o6 (xC (.int 1))))))
 (fZ (fy [none,none,none,some 2,some 0] (cF (iG (aW 1))) (tgN 1) (fun _=>some true) (xIf (tTr (cJ fn_stands_on_any (aJ (aW 4) (aJ (x2 oIt (aW 1) (o6 (xC (.int 1)))) (aJ (aW 3) cc))))) (j6 (aW 1) oT (oa (o6 (xC (.int 1))))) (aW 1)))))
noncomputable def fn_without_overtopping:List Da->Option Da:=jl 3 g_without_overtopping
noncomputable def g_broadest:Rho->Res:=(iD (lP 1 (cJ fn_uppers_of (aJ (x2 oIt (aW 0) (xC (.int 1))) cc)))
 (iD (lP 2 (CK cc))
 (iD (lP 3 (xB vz (aJ (cJ fn_towers (aJ (aW 0) cc)) cc)))
 (iD (jr (tb (x2 (oEq true) (aW 3) (aW 2)))
 (iD (lP 2 (aW 3))
 (lP 3 (cJ fn_without_overtopping (aJ (aW 1) (aJ (aW 2) cc))))) 200)
 (fZ (xB gv (aJ (xB eX (aJ (fy [none,none] (cF (iG (aW 3))) (tgN 1) (fun _=>some true) (x2 oIt (aW 1) (o6 (xC (.int 1))))) cc)) cc)))))))
noncomputable def fn_broadest:List Da->Option Da:=jl 4 g_broadest
end GT
set_option linter.unusedSimpArgs false
namespace GT
open PySem L2 Ry G G3 GW GH GF
theorem C8 {a b:Kd} (F:List Int) (x:Int):oIt (a,dT (F++[x])) (b,.int (-1))=some (.pu,.int x):=by
 unfold oIt oIx xh dT
 dsimp only
 have:atI ((F++[x]).map Da.int) (-1)=some (Da.int x):=by
  unfold atI ixN
  rw [if_neg (by decide),ab,aN,bx,if_pos (by lia)]
  show ((F++[x]).map Da.int)[((-1:Int)+((F.length+1:Nat):Int)).toNat]?=_
  rw [show ((-1:Int)+((F.length+1:Nat):Int)).toNat=F.length by lia,ay,cM (ax _),n8]
  rfl
 rw [this]
 rfl
theorem vA {a b:Kd} {T:List Int} (h:T≠[]):oIt (a,dT T) (b,.int (-1))=some (.pu,.int (tip T)):=by
 have:=C8 (a:=a) (b:=b) T.dropLast (tip T)
 rw [<- mD h] at this
 exact this
theorem sj:∀ {C:List PI} {a b:Int},(bX C).Nodup->(a,b)∈C->cE C a=b
 | [],_,_,_,h=>by cases h
 | (x,y)::C,a,b,nd,h=>by
   obtain ⟨n1,n2⟩:=bf.mp (show (x::bX C).Nodup from nd)
   show (if x=a then y else cE C a)=b
   rcases am.mp h with e | e
   ·cases e;rw [if_pos rfl]
   ·have ne:x≠a:=fun z=>n1 (by rw [z];exact aK.mpr ⟨(a,b),e,rfl⟩)
    rw [if_neg ne]
    exact sj n2 e
theorem sI:∀ {C:List PI} {a:Int},a∈bX C->(a,cE C a)∈C
 | [],_,h=>by cases h
 | (x,y)::C,a,h=>by
   show (a,if x=a then y else cE C a)∈_
   by_cases e:x=a
   ·subst e;rw [if_pos rfl];exact ah
   ·rw [if_neg e]
    exact ag _ (sI ((am.mp (show a∈x::bX C from h)).resolve_left fun z=>e z.symm))
theorem JZ {O:List PI} {x:Int} (h:x∉bX O):∀ k:Nat,twF O k x=[x]
 | 0=>rfl
 | k+1=>by
   show x::(if x∈bX O then twF O k (cE O x) else [])=[x]
   rw [if_neg h]
theorem GO {O:List PI} {M:Int->Nat} (hO:∀ x∈bX O,M (cE O x)<M x) {k:Nat} {b:Int} (hk:M b<=k) (hk2:k<200):fn_tower_from [dC O,.int b]=some (dT (twF O k b)):=by
 refine tp ?_
 unfold g_tower_from
 have e0:fm 3 [dC O,.int b]=[.pu (dC O),.pu (.int b),.no]:=rfl
 rw [e0]
 refine cS (d9 (ρ':=[.pu (dC O),.pu (.int b),.ow (.lst (([]++[b]).map Da.int))]) rfl ?_)
 refine cS ?_
 refine om (fun m ρ=>∃ (pre:List Int) (x:Int),ρ=[.pu (dC O),.pu (.int b),.ow (.lst ((pre++[x]).map Da.int))]/\M x<=m/\pre.length+m<=k/\pre++twF O m x=twF O k b) 200 k _ hk2 ⟨[],b,rfl,hk,by simp,rfl⟩ ?_
 rintro m ρ ⟨pre,x,rfl,hm,hp,e⟩
 have g1:x2 oIt (aW 2) (o6 (xC (.int 1))) [.pu (dC O),.pu (.int b),.ow (.lst ((pre++[x]).map Da.int))]=some (.pu,.int x):=CA (a:=.bo) (b:=.pu) pre x
 refine ⟨decide (x∈bX O),?_,fun q=>?_,fun q=>?_⟩
 ·rw [De,sO,g1,show aW 0 [.pu (dC O),.pu (.int b),.ow (.lst ((pre++[x]).map Da.int))]=some (.pu,dC O) from rfl]
  dsimp only
  rw [Fu]
  rfl
 ·have hx:x∉bX O:=of_decide_eq_false q
  rw [JZ hx] at e
  rw [<- e]
  exact oe (d:=dT (pre++[x])) rfl rfl
 ·have hx:x∈bX O:=of_decide_eq_true q
  have hlt:=hO x hx
  obtain ⟨m',rfl⟩:∃ m',m=m'+1:=⟨m-1,by lia⟩
  have e':twF O (m'+1) x=x::twF O m' (cE O x):=by
   show x::(if x∈bX O then twF O m' (cE O x) else [])=_
   rw [if_pos hx]
  rw [e'] at e
  refine d9 (ρ':=[.pu (dC O),.pu (.int b),.ow (.lst (((pre++[x])++[cE O x]).map Da.int))]) ?_ ⟨m',kf _,pre++[x],cE O x,rfl,by lia,by rw [aN,bx];lia,by rw [<- e,dX];rfl⟩
  have g2:x2 oIt (aW 0) (x2 oIt (aW 2) (o6 (xC (.int 1)))) [.pu (dC O),.pu (.int b),.ow (.lst ((pre++[x]).map Da.int))]=some (.pu,.int (cE O x)):=by
   rw [sO,g1]
   exact pe hx (k:=.pu) (k':=.pu)
  rw [pA,g2,show ([.pu (dC O),.pu (.int b),.ow (.lst ((pre++[x]).map Da.int))]:Rho)[2]?=some (.ow (.lst ((pre++[x]).map Da.int))) from rfl]
  dsimp only
  rw [if_pos ⟨rfl,by rw [ab,aN,bx];lia⟩]
  simp only [bD]
  rfl
theorem Ba {n:Int} {L:List PI} (Y:Yd n L):∀ t,∀ u∈dt (upp L) t,u∈rgI 0 n.toNat:=fun t u hu=>by
 have:=(Y.rg _ (((j3 L).get t u).mp hu)).2
 dsimp only at this
 exact fq.mpr (by lia)
theorem Dn {n:Int} {L:List PI} (Y:Yd n L) (h0:0<=n) (h12:n<=12) (hl:L.length<=1000):∃ U F B,fn_steps_of [dY n L]=some (dC U)/\Std (dt (upp L)) (rgI 0 n.toNat) U F B:=by
 obtain ⟨U,F,B,e,h⟩:=uG (Ba Y) (k:=13) (by rw [e6];lia) (rgI 0 n.toNat) [] [] [] [] (G8 _)
 refine ⟨U,F,B,?_,h⟩
 show (match dG (L.map dP) with | some L=>if L.length<=1000/\0<=n/\n<=12/\(L.all fun p=>decide (0<=p.2/\p.2<n))=true then (iQ (dt (upp L)) 13 (rgI 0 n.toNat) []).map dC else none | none=>none)=_
 rw [lW]
 dsimp only
 rw [if_pos ⟨hl,h0,h12,cB.mpr fun p hp=>decide_eq_true (Y.rg p hp).2⟩,e]
 rfl
def swp (U:List PI):List PI:=U.map fun e=>(e.2,e.1)
theorem DW (U:List PI):bX (swp U)=qb U:=by unfold bX swp qb;rw [aC];rfl
theorem Bw {U:List PI} {a b:Int}:(a,b)∈swp U↔(b,a)∈U:=by
 unfold swp
 rw [aK]
 constructor
 ·rintro ⟨e,he,h⟩
  cases h
  exact he
 ·exact fun h=>⟨(b,a),h,rfl⟩
theorem HS {n:Int} {L U:List PI} {F B:List Int} (h:Std (dt (upp L)) (rgI 0 n.toNat) U F B):Lnk L U (swp U)/\(bX (swp U)).Nodup:=by
 have nd:(bX (swp U)).Nodup:=by
  rw [DW]
  exact (bp.mp (h.pt.nodup_iff.mpr (fz _ _))).1
 refine ⟨⟨fun x hx=>?_,fun u hu=>?_,fun u hu=>((j3 L).get _ _).mp (h.ok u hu)⟩,nd⟩
 ·have:=Bw.mp (sI hx)
  exact ⟨aK.mpr ⟨_,this,rfl⟩,sj h.nd this⟩
 ·have:=Bw.mpr (sI hu)
  exact ⟨aK.mpr ⟨_,this,rfl⟩,sj nd this⟩
def Mu (L:List PI) (x:Int):Nat:=(dt (upp L) x).length
def mu (L:List PI) (x:Int):Nat:=(dt (low L) x).length
theorem Di {n:Int} {L:List PI} (Y:Yd n L):∀ a b,(a,b)∈L->Mu L b<Mu L a:=fun a b h=>by
 have:(b::dt (upp L) b).length<=(dt (upp L) a).length:=Ms.length_le_of_subset (bf.mpr ⟨fun w=>Y.irr b (((j3 L).get b b).mp w),(j3 L).ndv b⟩) fun u hu=>by
  rcases am.mp hu with e | e
  ·subst e;exact ((j3 L).get a u).mpr h
  ·exact ((j3 L).get a u).mpr (Y.tr _ _ _ h (((j3 L).get b u).mp e))
 exact this
theorem FF {n:Int} {L:List PI} (Y:Yd n L):∀ a b,(a,b)∈L->mu L a<mu L b:=fun a b h=>by
 have:(a::dt (low L) a).length<=(dt (low L) b).length:=Ms.length_le_of_subset (bf.mpr ⟨fun w=>Y.irr a ((fF L a a).mp w),wJ L a⟩) fun u hu=>by
  rcases am.mp hu with e | e
  ·subst e;exact (fF L b u).mpr h
  ·exact (fF L b u).mpr (Y.tr _ _ _ ((fF L a u).mp e) h)
 exact this
theorem Fn {n:Int} {L:List PI} (Y:Yd n L) (h12:n<=12) (x:Int):Mu L x<=12:=by
 have:=Ms.length_le_of_subset ((j3 L).ndv x) (Ba Y x)
 rw [e6] at this
 unfold Mu
 lia
def qV (n:Int) (U:List PI):List Int:=(rgI 0 n.toNat).filter fun x=>decide (x∉bX U)
theorem Dx (U:List PI):o9 (U.map fun e=>(aq e.1:Key)) (U.map fun e=>Da.int e.2)=U.map dP:=by
 unfold o9
 rw [List.zip_map',aC]
 rfl
theorem BF {n:Int} {L:List PI} (Y:Yd n L) (h0:0<=n) (h12:n<=12) (hl:L.length<=1000):∃ (U:List PI) (X:List Int),fn_towers [dY n L]=some (.tup (((qV n U).map (twF (swp U) 12)).map dT))/\Lnk L U (swp U)/\X.Nodup/\(∀ x∈X,x∈rgI 0 n.toNat)/\(∀ x∈X,∀ y∈X,(x,y)∉L)/\(qV n U).length<=X.length:=by
 obtain ⟨U,F,B,hst,h⟩:=Dn Y h0 h12 hl
 obtain ⟨lk,nO⟩:=HS h
 have hkR:∀ u∈bX U,u∈rgI 0 n.toNat:=fun u hu=>Ba Y _ u (h.ok u hu)
 obtain ⟨X,x1,x2',x3,x4,x5⟩:=h.anti (fz _ _) hkR
 have hU:U.length<=12:=by
  have:=Ms.length_le_of_subset h.nd hkR
  rw [Cw,e6] at this
  lia
 refine ⟨U,X,?_,lk,x1,x2',fun x hx y hy z=>x3 x hx y hy (((j3 L).get x y).mpr z),by unfold qV;lia⟩
 refine tp ?_
 unfold g_towers
 have e0:fm 3 [dY n L]=[.pu (dY n L),.no,.no]:=rfl
 rw [e0]
 refine cS (d9 (ρ':=[.pu (dY n L),.pu (dC U),.no]) (by rw [iS,cR (ds:=[dY n L]) rfl rfl hst];rfl) ?_)
 have hc:=oH (enc:=dP) (xs:=U) (ix:=[none,none,none]) (fi:=qL (aW 1)) (i:=1) (j:=2) (c:=fun _=>some true) (f:=kX (aJ (aW 2) (aJ (aW 1) cc))) (ρ:=[.pu (dY n L),.pu (dC U),.no]) (p:=fun _=>true) (e:=fun e=>dP (e.2,e.1)) (a:=fun e=>.int e.1) (b:=fun e=>.int e.2)
  (by show some (o9 _ _)=_;rw [Dx]) (by lia) (fun e he=>⟨rfl,fun _=>⟨(.pu,dP (e.2,e.1)),by simp [mpR,dP],rfl,rfl⟩⟩) (by decide) (fun _=>rfl)
 rw [eF] at hc
 refine cS (d9 (ρ':=[.pu (dY n L),.pu (dC U),.pu (dC (swp U))]) ?_ ?_)
 ·have hd:m9 (fy [none,none,none] (qL (aW 1)) (tgT 2 (d4 (tgN 1) (d4 (tgN 2) jO))) (fun _=>some true) (kX (aJ (aW 2) (aJ (aW 1) cc)))) [.pu (dY n L),.pu (dC U),.no]=some (.fr,dC (swp U)):=by
   unfold m9
   rw [hc,show (U.map fun e=>dP (e.2,e.1))=(swp U).map dP by unfold swp;rw [aC];rfl]
   dsimp only
   rw [lW]
   dsimp only
   rw [if_pos ⟨nO,by unfold swp;rw [ab];lia⟩]
   rfl
  rw [iS,pg,hd]
  rfl
 have hO:∀ x∈bX (swp U),Mu L (cE (swp U) x)<Mu L x:=fun x hx=>by
  obtain ⟨q1,q2⟩:=lk.nx x hx
  have:=lk.up _ q1
  rw [q2] at this
  exact Di Y _ _ this
 have hh:=eu (enc:=Da.int) (xs:=rgI 0 n.toNat) (ix:=[none,none,none,some 2,some 1]) (fi:=mn (aJ (x2 oIt (aW 0) (xC (.int 0))) cc)) (i:=1) (c:=tb (x2 (oIn true) (aW 1) (aW 4))) (f:=cJ fn_tower_from (aJ (aW 3) (aJ (aW 1) cc))) (ρ:=[.pu (dY n L),.pu (dC U),.pu (dC (swp U))]) (p:=fun x=>decide (x∉bX U)) (e:=fun x=>dT (twF (swp U) 12 x))
  ?_ (by rw [e6];lia) fun x hx=>⟨?_,fun _=>⟨(.pu,dT (twF (swp U) 12 x)),?_,rfl,rfl⟩⟩
 ·refine oe (d:=.tup (((qV n U).map (twF (swp U) 12)).map dT)) ?_ rfl
  rw [hZ,sQ,cq,hh,dL]
  dsimp only
  rw [xg]
  unfold qV
  rw [aC]
  rfl
 ·show (if -(2 ^ 62)<=n/\n<2 ^ 62 then some (fg 0 n.toNat) else none)=_
  rw [if_pos (by lia),eQ]
 ·have em:(mpR [none,none,none,some 2,some 1] [.pu (dY n L),.pu (dC U),.pu (dC (swp U))]).set 1 (.pu (.int x))=[.no,.pu (.int x),.no,.pu (dC (swp U)),.pu (dC U)]:=rfl
  rw [em,De,sO,show aW 1 [.no,.pu (.int x),.no,.pu (dC (swp U)),.pu (dC U)]=some (.pu,.int x) from rfl,show aW 4 [.no,.pu (.int x),.no,.pu (dC (swp U)),.pu (dC U)]=some (.pu,dC U) from rfl]
  dsimp only
  rw [Fu]
  simp
 ·have em:(mpR [none,none,none,some 2,some 1] [.pu (dY n L),.pu (dC U),.pu (dC (swp U))]).set 1 (.pu (.int x))=[.no,.pu (.int x),.no,.pu (dC (swp U)),.pu (dC U)]:=rfl
  rw [em]
  exact cR (ds:=[dC (swp U),.int x]) rfl rfl (GO hO (Fn Y h12 x) (by decide))
theorem zI (L:List PI) (t:Int) (ts:List Int) (hl:ts.length<=1000):fn_stands_on_any [dU (upp L),.int t,.lst (ts.map Da.int)]=some (.bl (ts.any fun o=>decide ((o,t)∈L))):=by
 have hc:=eu (enc:=Da.int) (xs:=ts) (ix:=[none,none,some 1,some 0]) (fi:=cF (iG (aW 2))) (i:=1) (c:=fun _=>some true) (f:=x2 (oIn false) (aW 2) (ju (aW 3) (aW 1) (xC2 (.fr,.dK [] [])))) (ρ:=[.pu (dU (upp L)),.pu (.int t),.pu (.lst (ts.map Da.int))]) (p:=fun _=>true) (e:=fun o=>.bl (decide ((o,t)∈L)))
  rfl (by lia) fun o ho=>⟨rfl,fun _=>⟨(.pu,.bl (decide ((o,t)∈L))),?_,rfl,rfl⟩⟩
 ·rw [eF] at hc
  refine mf (ρ:=[.pu (dU (upp L)),.pu (.int t),.pu (.lst (ts.map Da.int))]) rfl ?_
  unfold g_stands_on_any
  rw [hZ,sQ,cq,hc,dL]
  dsimp only
  rw [Fx]
 ·have em:(mpR [none,none,some 1,some 0] [.pu (dU (upp L)),.pu (.int t),.pu (.lst (ts.map Da.int))]).set 1 (.pu (.int o))=[.no,.pu (.int o),.pu (.int t),.pu (dU (upp L))]:=rfl
  have hd:decide (t∈dt (upp L) o)=decide ((o,t)∈L):=by rw [decide_eq_decide];exact (j3 L).get o t
  rw [em,sO,show aW 2 [.no,.pu (.int o),.pu (.int t),.pu (dU (upp L))]=some (.pu,.int t) from rfl,oR,show aW 3 [.no,.pu (.int o),.pu (.int t),.pu (dU (upp L))]=some (.pu,dU (upp L)) from rfl,show aW 1 [.no,.pu (.int o),.pu (.int t),.pu (dU (upp L))]=some (.pu,.int o) from rfl,FC]
  dsimp only
  rw [vS]
  by_cases hk:o∈(upp L).map (·.1)
  ·rw [if_pos hk]
   dsimp only
   rw [Gj,hd]
   rfl
  ·rw [if_neg hk]
   dsimp only
   rw [<- hd,mx hk]
   exact Gj false .pu .fr [] t
def Jn (L:List PI) (Ts:List (List Int)):List (List Int):=Ts.map fun T=>if (Ts.any fun S=>decide ((tip S,tip T)∈L))=true then T.dropLast else T
theorem DO (T:List Int):v3 (T.map Da.int) none (some (-1))=T.dropLast.map Da.int:=by
 unfold v3
 rw [HT.sIx_none,jb,uX,ab]
 have:HT.sIx T.length T.length (some (-1))=T.length-1:=by
  show (if (-1:Int)<0 then ((-1:Int)+(T.length:Int)).toNat else min (-1:Int).toNat T.length)=T.length-1
  rw [if_pos (by decide)]
  lia
 rw [this,List.dropLast_eq_take,List.map_take]
theorem yu {L:List PI} {Ts:List (List Int)} (hne:∀ T∈Ts,T≠[]) (hl:Ts.length<=1000):fn_without_overtopping [dU (upp L),.lst (Ts.map dT)]=some (.lst ((Jn L Ts).map dT)):=by
 refine tp ?_
 unfold g_without_overtopping
 have e0:fm 3 [dU (upp L),.lst (Ts.map dT)]=[.pu (dU (upp L)),.pu (.lst (Ts.map dT)),.no]:=rfl
 rw [e0]
 have hc:=eu (enc:=dT) (xs:=Ts) (ix:=[none,none]) (fi:=cF (iG (aW 1))) (i:=1) (c:=fun _=>some true) (f:=x2 oIt (aW 1) (o6 (xC (.int 1)))) (ρ:=[.pu (dU (upp L)),.pu (.lst (Ts.map dT)),.no]) (p:=fun _=>true) (e:=fun T=>.int (tip T))
  rfl (by lia) fun T hT=>⟨rfl,fun _=>⟨(.pu,.int (tip T)),vA (a:=.pu) (b:=.pu) (hne T hT),rfl,rfl⟩⟩
 rw [eF] at hc
 refine cS (d9 (ρ':=[.pu (dU (upp L)),.pu (.lst (Ts.map dT)),.pu (.lst ((Ts.map tip).map Da.int))]) (by rw [iS,hc,aC];rfl) ?_)
 have hh:=eu (enc:=dT) (xs:=Ts) (ix:=[none,none,none,some 2,some 0]) (fi:=cF (iG (aW 1))) (i:=1) (c:=fun _=>some true) (f:=xIf (tTr (cJ fn_stands_on_any (aJ (aW 4) (aJ (x2 oIt (aW 1) (o6 (xC (.int 1)))) (aJ (aW 3) cc))))) (j6 (aW 1) oT (oa (o6 (xC (.int 1))))) (aW 1)) (ρ:=[.pu (dU (upp L)),.pu (.lst (Ts.map dT)),.pu (.lst ((Ts.map tip).map Da.int))])
  (p:=fun _=>true) (e:=fun T=>dT (if (Ts.any fun S=>decide ((tip S,tip T)∈L))=true then T.dropLast else T)) rfl (by lia) fun T hT=>⟨rfl,fun _=>⟨(.pu,dT (if (Ts.any fun S=>decide ((tip S,tip T)∈L))=true then T.dropLast else T)),?_,rfl,rfl⟩⟩
 ·rw [eF] at hh
  refine oe (d:=.lst ((Jn L Ts).map dT)) ?_ rfl
  rw [hZ,hh]
  unfold Jn
  rw [aC]
  rfl
 ·have em:(mpR [none,none,none,some 2,some 0] [.pu (dU (upp L)),.pu (.lst (Ts.map dT)),.pu (.lst ((Ts.map tip).map Da.int))]).set 1 (.pu (dT T))=[.no,.pu (dT T),.no,.pu (.lst ((Ts.map tip).map Da.int)),.pu (dU (upp L))]:=rfl
  rw [em]
  have g1:x2 oIt (aW 1) (o6 (xC (.int 1))) [.no,.pu (dT T),.no,.pu (.lst ((Ts.map tip).map Da.int)),.pu (dU (upp L))]=some (.pu,.int (tip T)):=vA (a:=.pu) (b:=.pu) (hne T hT)
  have hs:=zI L (tip T) (Ts.map tip) (by rw [ab];lia)
  rw [uP] at hs
  have g2:cJ fn_stands_on_any (aJ (aW 4) (aJ (x2 oIt (aW 1) (o6 (xC (.int 1)))) (aJ (aW 3) cc))) [.no,.pu (dT T),.no,.pu (.lst ((Ts.map tip).map Da.int)),.pu (dU (upp L))]=some (.pu,.bl (Ts.any fun S=>decide ((tip S,tip T)∈L))) :=
   cR (ds:=[dU (upp L),.int (tip T),.lst ((Ts.map tip).map Da.int)]) (rs:=[(.pu,dU (upp L)),(.pu,.int (tip T)),(.pu,.lst ((Ts.map tip).map Da.int))]) (by rw [cq,cq,g1];rfl) rfl hs
  rw [KQ,JG,g2]
  dsimp only
  rw [Io]
  cases Ts.any fun S=>decide ((tip S,tip T)∈L) with
  | true =>
    show slD none (some (-1)) (dT T)=_
    rw [if_pos rfl]
    show some (Kd.pu,Da.tup (v3 (T.map Da.int) none (some (-1))))=_
    rw [DO]
    rfl
  | false=>rfl
theorem wn:∀ F K:List (List Int),fD (ir (F.map dT)) (ir (K.map dT))=decide (F=K)
 | [],[]=>rfl
 | [],_::_=>rfl
 | _::_,[]=>rfl
 | p::F,q::K=>by
   show (fD (ir (p.map Da.int)) (ir (q.map Da.int))&&fD (ir (F.map dT)) (ir (K.map dT)))=_
   rw [wn F K,G17.eqvAll_J,cY]
   simp only [aY,decide_eq_true_eq,mW]
theorem rO:∀ F:List (List Int),cp (ir (F.map dT))=true
 | []=>rfl
 | A::F=>by
   show (cK (toP (dT A))&&cp (ir (F.map dT)))=true
   rw [rO F,show (toP (dT A)).canLay0=true from GH.layAll_I A];rfl
theorem qE:∀ F:List (List Int),bT (ir (F.map dT))<=1
 | []=>by simp [ir,bT]
 | A::F=>by
   show max (d8 (toP (dT A))) (bT (ir (F.map dT)))<=1
   have:=qE F
   have h:(toP (dT A)).depth=bT (ir (A.map Da.int))+1:=by simp [dT,toP,d8]
   rw [qN] at h
   lia
theorem Es (n:Bool) (a b:Kd) (F K:List (List Int)):oEq n (a,.lst (F.map dT)) (b,.lst (K.map dT))=some (.pu,.bl (if n then !decide (F=K) else decide (F=K))):=by
 have e:eqD (.lst (F.map dT)) (.lst (K.map dT))=decide (F=K):=wn F K
 have ok:CU (.lst (F.map dT)) (.lst (K.map dT))=true:=by
  unfold CU
  rw [show (toP (.lst (F.map dT))).canLay0=true from rO F,show (toP (.lst (K.map dT))).canLay0=true from rO K]
  have h:(toP (.lst (F.map dT))).depth=bT (ir (F.map dT))+1:=by simp [toP,d8]
  have:=qE F
  simp only [lU,lV,decide_eq_true_eq]
  lia
 unfold oEq
 rw [if_pos ok,e]
end GT
set_option linter.unusedSimpArgs false
namespace GT
open PySem L2 Ry G G3 GW GH GF
structure DR (n:Int) (L:List PI) (c:Nat) (Ps:List (Int×List Int)):Prop where
 low:Do L Ps
 len:Ps.length=c
 rg:∀ e∈Ps,∀ y∈e.2,y∈rgI 0 n.toNat
theorem DR.ne {n:Int} {L:List PI} {c:Nat} {Ps:List (Int×List Int)} (h:DR n L c Ps):∀ T∈Ps.map (·.2),T≠[]:=fun T hT z=>by
 obtain ⟨e,he,rfl⟩:=aK.mp hT
 have:=h.low.mem e he
 rw [z] at this
 cases this
theorem DR.step {n:Int} {L:List PI} (Y:Yd n L) {c:Nat} {Ps:List (Int×List Int)} (h:DR n L c Ps):DR n L c (yo L Ps):=by
 refine ⟨h.low.step Y,by unfold yo;rw [ab];exact h.len,fun e he y hy=>?_⟩
 unfold yo at he
 obtain ⟨e',he',rfl⟩:=aK.mp he
 dsimp only at hy
 split at hy
 ·exact h.rg e' he' y (List.dropLast_subset _ hy)
 ·exact h.rg e' he' y hy
theorem CN (L:List PI) (Ps:List (Int×List Int)):(yo L Ps).map (·.2)=Jn L (Ps.map (·.2)):=by
 unfold yo Jn
 rw [aC,aC]
 refine dr fun e _=>?_
 show (if (Ps.any fun f=>decide ((tip f.2,tip e.2)∈L))=true then e.2.dropLast else e.2)=if ((Ps.map (·.2)).any fun S=>decide ((tip S,tip e.2)∈L))=true then e.2.dropLast else e.2
 rw [uP]
 rfl
theorem Ep:∀ {Ps Qs:List (Int×List Int)},Ps.map (·.1)=Qs.map (·.1)->Ps.map (·.2)=Qs.map (·.2)->Ps=Qs
 | [],[],_,_=>rfl
 | [],_::_,h,_=>by cases h
 | _::_,[],h,_=>by cases h
 | (a,b)::Ps,(c,d)::Qs,h1,h2=>by
   rw [aw,aw] at h1 h2
   injection h1 with h1 h1'
   injection h2 with h2 h2'
   dsimp only at h1 h2
   rw [h1,h2,Ep h1' h2']
theorem Co (L:List PI) (Ps:List (Int×List Int)):(yo L Ps).map (·.1)=Ps.map (·.1):=by
 unfold yo
 rw [aC]
 rfl
theorem vU {n:Int} {L U:List PI} {X:List Int} (Y:Yd n L) (h0:0<=n) (h12:n<=12) (hl:L.length<=1000) (ht:fn_towers [dY n L]=some (.tup (((qV n U).map (twF (swp U) 12)).map dT))) (lk:Lnk L U (swp U)) (nX:X.Nodup) (rX:∀ x∈X,x∈rgI 0 n.toNat) (aX:∀ x∈X,∀ y∈X,(x,y)∉L) (hX:(qV n U).length<=X.length) :
 ∃ R:List Int,fn_broadest [dY n L]=some (dT R)/\(R.Pairwise fun a b=>Ms.ltI a b=true)/\R.length=(qV n U).length/\(∀ x∈R,x∈rgI 0 n.toNat)/\∀ x∈R,∀ y∈R,(x,y)∉L:=by
 have hk:=Fn Y h12
 obtain ⟨P0,e0,low0⟩:=Dz Y lk (FF Y) (Di Y) hk nX rX aX hX
 have e0:P0.map (·.2)=(qV n U).map (twF (swp U) 12):=e0
 have hperm:=zE Y lk (FF Y) (Di Y) hk
 have hperm:((qV n U).map (twF (swp U) 12)).flatten.Perm (rgI 0 n.toNat):=hperm
 have hbl:(qV n U).length<=12:=by
  have:=eJ (fun x=>decide (x∉bX U)) (rgI 0 n.toNat)
  rw [e6] at this
  unfold qV
  lia
 have hlen0:P0.length=(qV n U).length:=by
  have:=congrArg gj e0
  rw [ab,ab] at this
  exact this
 have tot0:tot P0<=12:=by
  have h1:=hperm.length_eq
  rw [List.length_flatten,<- e0,e6,aC] at h1
  unfold tot
  have h2:(P0.map fun e=>e.2.length).sum=n.toNat:=h1
  lia
 have J0:DR n L (qV n U).length P0:=⟨low0,hlen0,fun e he y hy=>by
  have:e.2∈(qV n U).map (twF (swp U) 12):=by rw [<- e0];exact aK.mpr ⟨e,he,rfl⟩
  exact hperm.mem_iff.mp (j0.mpr ⟨e.2,this,hy⟩)⟩
 have key:∃ d,fn_broadest [dY n L]=some d/\∃ Ps:List (Int×List Int),DR n L (qV n U).length Ps/\(∀ e∈Ps,∀ f∈Ps,(tip f.2,tip e.2)∉L)/\d=dT (Ms.srt Ms.ltI (Ps.map fun e=>tip e.2)):=by
  refine nT ?_
  unfold g_broadest
  have es:fm 4 [dY n L]=[.pu (dY n L),.no,.no,.no]:=rfl
  rw [es]
  refine cS (d9 (ρ':=[.pu (dY n L),.pu (dU (upp L)),.no,.no]) ?_ ?_)
  ·have z1:cJ fn_uppers_of (aJ (x2 oIt (aW 0) (xC (.int 1))) cc) [.pu (dY n L),.no,.no,.no]=some (.pu,dU (upp L)):=cR (ds:=[.tup (L.map dP)]) (rs:=[(.pu,.tup (L.map dP))]) (by simp [dY]) rfl (DI hl)
   rw [iS,z1]
   rfl
  refine cS (d9 (ρ':=[.pu (dY n L),.pu (dU (upp L)),.pu (.lst (([]:List (List Int)).map dT)),.no]) rfl ?_)
  refine cS (d9 (ρ':=[.pu (dY n L),.pu (dU (upp L)),.pu (.lst (([]:List (List Int)).map dT)),.pu (.lst ((P0.map (·.2)).map dT))]) ?_ ?_)
  ·have z1:cJ fn_towers (aJ (aW 0) cc) [.pu (dY n L),.pu (dU (upp L)),.pu (.lst (([]:List (List Int)).map dT)),.no]=some (.pu,.tup ((P0.map (·.2)).map dT)):=by rw [e0];exact cR (ds:=[dY n L]) rfl rfl ht
   rw [iS,sQ,cq,z1,dL]
   rfl
  refine cS ?_
  refine om (fun m ρ=>∃ (Bs:List (List Int)) (Ps:List (Int×List Int)),ρ=[.pu (dY n L),.pu (dU (upp L)),.pu (.lst (Bs.map dT)),.pu (.lst ((Ps.map (·.2)).map dT))]/\DR n L (qV n U).length Ps/\((Bs=[]/\m=tot Ps+1)\/∃ Qs,DR n L (qV n U).length Qs/\Bs=Qs.map (·.2)/\Ps=yo L Qs/\m=tot Qs)) 200 (tot P0+1) _ (by lia) ⟨[],P0,rfl,J0,.inl ⟨rfl,rfl⟩⟩ ?_
  rintro m ρ ⟨Bs,Ps,rfl,J,hB⟩
  have hPl:Ps.length<=12:=by rw [J.len];exact hbl
  refine ⟨!decide (Ps.map (·.2)=Bs),?_,fun q=>?_,fun q=>?_⟩
  ·rw [De,sO,show aW 3 [.pu (dY n L),.pu (dU (upp L)),.pu (.lst (Bs.map dT)),.pu (.lst ((Ps.map (·.2)).map dT))]=some (.pu,.lst ((Ps.map (·.2)).map dT)) from rfl,show aW 2 [.pu (dY n L),.pu (dU (upp L)),.pu (.lst (Bs.map dT)),.pu (.lst ((Ps.map (·.2)).map dT))]=some (.pu,.lst (Bs.map dT)) from rfl]
   dsimp only
   rw [Es]
   rfl
  ·have hq:Ps.map (·.2)=Bs:=by simpa using q
   have hfix:∀ e∈Ps,∀ f∈Ps,(tip f.2,tip e.2)∉L:=by
    rcases hB with ⟨rfl,_⟩ | ⟨Qs,JQ,rfl,rfl,_⟩
    ·intro e he
     rw [List.map_eq_nil_iff] at hq
     rw [hq] at he
     cases he
    ·have hpq:=Ep (Co L Qs) hq
     rw [hpq]
     exact JQ.low.fix hpq
   have hc:=eu (enc:=dT) (xs:=Ps.map (·.2)) (ix:=[none,none]) (fi:=cF (iG (aW 3))) (i:=1) (c:=fun _=>some true) (f:=x2 oIt (aW 1) (o6 (xC (.int 1)))) (ρ:=[.pu (dY n L),.pu (dU (upp L)),.pu (.lst (Bs.map dT)),.pu (.lst ((Ps.map (·.2)).map dT))]) (p:=fun _=>true) (e:=fun T=>.int (tip T))
    rfl (by rw [ab];lia) fun T hT=>⟨rfl,fun _=>⟨(.pu,.int (tip T)),vA (a:=.pu) (b:=.pu) (J.ne T hT),rfl,rfl⟩⟩
   rw [eF] at hc
   have hm:((Ps.map (·.2)).map fun T=>Da.int (tip T))=(Ps.map fun e=>tip e.2).map Da.int:=by rw [aC,aC];rfl
   rw [hm] at hc
   have hs:xB eX (aJ (fy [none,none] (cF (iG (aW 3))) (tgN 1) (fun _=>some true) (x2 oIt (aW 1) (o6 (xC (.int 1))))) cc) [.pu (dY n L),.pu (dU (upp L)),.pu (.lst (Bs.map dT)),.pu (.lst ((Ps.map (·.2)).map dT))]=some (.fr,.lst ((Ms.srt Ms.ltI (Ps.map fun e=>tip e.2)).map Da.int)):=by
    rw [sQ,cq,hc,dL]
    dsimp only
    unfold eX
    dsimp only
    rw [nj (by rw [ab];lia)]
   refine oe (d:=dT (Ms.srt Ms.ltI (Ps.map fun e=>tip e.2))) ?_ ⟨Ps,J,hfix,rfl⟩
   rw [hZ,sQ,cq,hs,dL]
   rfl
  ·have hq:¬ Ps.map (·.2)=Bs:=by simpa using q
   refine cS (d9 (ρ':=[.pu (dY n L),.pu (dU (upp L)),.pu (.lst ((Ps.map (·.2)).map dT)),.pu (.lst ((Ps.map (·.2)).map dT))]) rfl ?_)
   refine d9 (ρ':=[.pu (dY n L),.pu (dU (upp L)),.pu (.lst ((Ps.map (·.2)).map dT)),.pu (.lst (((yo L Ps).map (·.2)).map dT))]) ?_ ⟨tot Ps,?_,Ps.map (·.2),yo L Ps,rfl,J.step Y,.inr ⟨Ps,J,rfl,rfl,rfl⟩⟩
   ·rw [iS,cR (ds:=[dU (upp L),.lst ((Ps.map (·.2)).map dT)]) rfl rfl (yu J.ne (by rw [ab];lia)),CN]
    rfl
   ·rcases hB with ⟨_,rfl⟩ | ⟨Qs,JQ,rfl,rfl,rfl⟩
    ·exact kf _
    ·rcases AA L Qs Qs with z | z
     ·exact absurd (congrArg (fun l=>l.map (·.2)) (show yo L Qs=Qs from z)) hq
     ·exact z
 obtain ⟨d,ed,Ps,J,hfix,rfl⟩:=key
 have hp:=Ms.srt_perm (lt:=Ms.ltI) (Ps.map fun e=>tip e.2)
 refine ⟨_,ed,Ms.srt_strict Ms.linI J.low.tips,by rw [hp.length_eq,ab,J.len],fun x hx=>?_,fun x hx y hy=>?_⟩
 ·obtain ⟨e,he,rfl⟩:=aK.mp (hp.mem_iff.mp hx)
  exact J.rg e he _ (vR (J.ne e.2 (aK.mpr ⟨e,he,rfl⟩)))
 ·obtain ⟨e,he,rfl⟩:=aK.mp (hp.mem_iff.mp hx)
  obtain ⟨f,hf,rfl⟩:=aK.mp (hp.mem_iff.mp hy)
  exact hfix f hf e he
end GT
namespace GE
open GW
def rm (P:List Int) (x:Int):List Int:=P.filter fun y=>decide (y≠x)
def isT (r:Int->Int->Bool) (P:List Int) (x:Int):Bool:=P.all fun o=>!r x o
def cT (r:Int->Int->Bool):Nat->List Int->Int
 | 0,_=>1
 | k+1,P=>sm P fun x=>if isT r P x=true then cT r k (rm P x) else 0
theorem j4 {P:List Int} {x y:Int}:y∈rm P x↔y∈P/\y≠x:=by unfold rm;rw [aI,decide_eq_true_eq]
theorem nh {r:Int->Int->Bool} {P:List Int} {x:Int}:isT r P x=true↔∀ o∈P,r x o=false:=by
 unfold isT
 rw [cB]
 exact ⟨fun h o ho=>by simpa using h o ho,fun h o ho=>by simpa using h o ho⟩
theorem u9 {P:List Int} (nd:P.Nodup) (x:Int):(rm P x).Nodup:=nd.sublist bQ
theorem Hw (P:List Int) (x y:Int):rm (rm P x) y=rm (rm P y) x:=by
 unfold rm
 rw [jd,jd]
 exact g7 fun z _=>Bool.and_comm _ _
theorem t6:∀ {P:List Int} {x:Int} {k:Nat},P.Nodup->x∈P->P.length=k+1->(rm P x).length=k:=by
 intro P x k nd hx hl
 have h:(x::rm P x).Perm P:=(gn (bf.mpr ⟨fun z=>(j4.mp z).2 rfl,u9 nd x⟩) nd).mpr fun y=>by
  rw [am,j4]
  constructor
  ·rintro (rfl | ⟨z,_⟩)
   ·exact hx
   ·exact z
  ·intro z
   by_cases e:y=x
   ·exact .inl e
   ·exact .inr ⟨z,e⟩
 have:=h.length_eq
 rw [aG] at this
 lia
theorem Ih (P:List Int) (x:Int) (f:Int->Int):sm (rm P x) f=sm P fun y=>if decide (y≠x)=true then f y else 0:=mw _ f P
theorem LN {r:Int->Int->Bool} (irr:∀ a,r a a=false):∀ (k:Nat) (P:List Int),P.Nodup->P.length=k->cT r k P=cT (fun a b=>r b a) k P:=by
 intro k
 induction k using p5 with
 | ind k ih =>
   intro P nd hl
   match k,ih,hl with
   | 0,_,_=>rfl
   | 1,_,hl =>
     match P,hl with
     | [x],_=>simp [cT,isT,sm,irr]
   | k+2,ih,hl =>
     have e1:cT r (k+2) P=sm P fun t=>sm P fun b=>if isT r P t=true/\b≠t/\isT (fun a b=>r b a) (rm P t) b=true then cT (fun a b=>r b a) k (rm (rm P t) b) else 0:=by
      show sm P (fun t=>if isT r P t=true then cT r (k+1) (rm P t) else 0)=_
      refine dF fun t ht=>?_
      by_cases h:isT r P t=true
      ·rw [if_pos h,ih (k+1) (by lia) (rm P t) (u9 nd t) (t6 nd ht hl)]
       show sm (rm P t) (fun b=>if isT (fun a b=>r b a) (rm P t) b=true then cT (fun a b=>r b a) k (rm (rm P t) b) else 0)=_
       rw [Ih]
       refine dF fun b _=>?_
       by_cases hb:b=t
       ·rw [if_neg (by simpa using hb),if_neg (fun z=>z.2.1 hb)]
       ·rw [if_pos (by simpa using hb)]
        by_cases hc:isT (fun a b=>r b a) (rm P t) b=true
        ·rw [if_pos hc,if_pos ⟨h,hb,hc⟩]
        ·rw [if_neg hc,if_neg (fun z=>hc z.2.2)]
      ·rw [if_neg h]
       exact (lC fun b _=>if_neg fun z=>h z.1).symm
     have e2:cT (fun a b=>r b a) (k+2) P=sm P fun b=>sm P fun t=>if isT (fun a b=>r b a) P b=true/\t≠b/\isT r (rm P b) t=true then cT r k (rm (rm P b) t) else 0:=by
      show sm P (fun t=>if isT (fun a b=>r b a) P t=true then cT (fun a b=>r b a) (k+1) (rm P t) else 0)=_
      refine dF fun t ht=>?_
      by_cases h:isT (fun a b=>r b a) P t=true
      ·rw [if_pos h,<- ih (k+1) (by lia) (rm P t) (u9 nd t) (t6 nd ht hl)]
       show sm (rm P t) (fun b=>if isT r (rm P t) b=true then cT r k (rm (rm P t) b) else 0)=_
       rw [Ih]
       refine dF fun b _=>?_
       by_cases hb:b=t
       ·rw [if_neg (by simpa using hb),if_neg (fun z=>z.2.1 hb)]
       ·rw [if_pos (by simpa using hb)]
        by_cases hc:isT r (rm P t) b=true
        ·rw [if_pos hc,if_pos ⟨h,hb,hc⟩]
        ·rw [if_neg hc,if_neg (fun z=>hc z.2.2)]
      ·rw [if_neg h]
       exact (lC fun b _=>if_neg fun z=>h z.1).symm
     rw [e1,e2,vo]
     refine dF fun b hb=>dF fun t ht=>?_
     have hiff:(isT r P t=true/\b≠t/\isT (fun a b=>r b a) (rm P t) b=true)↔(isT (fun a b=>r b a) P b=true/\t≠b/\isT r (rm P b) t=true):=by
      rw [nh,nh,nh,nh]
      constructor
      ·rintro ⟨h1,h2,h3⟩
       refine ⟨fun o ho=>?_,Ne.symm h2,fun o ho=>h1 o (j4.mp ho).1⟩
       by_cases e:o=t
       ·subst e;exact h1 b hb
       ·exact h3 o (j4.mpr ⟨ho,e⟩)
      ·rintro ⟨h1,h2,h3⟩
       refine ⟨fun o ho=>?_,Ne.symm h2,fun o ho=>h1 o (j4.mp ho).1⟩
       by_cases e:o=b
       ·subst e;exact h1 t ht
       ·exact h3 o (j4.mpr ⟨ho,e⟩)
     by_cases h:isT r P t=true/\b≠t/\isT (fun a b=>r b a) (rm P t) b=true
     ·rw [if_pos h,if_pos (hiff.mp h),<- ih k (by lia) _ (u9 (u9 nd t) b) (t6 (u9 nd t) (j4.mpr ⟨hb,h.2.1⟩) (t6 nd ht hl)),Hw]
     ·rw [if_neg h,if_neg (fun z=>h (hiff.mpr z))]
theorem Aw (A B:List Int) (x:Int):rm (A++B) x=rm A x++rm B x:=List.filter_append ..
theorem Ea {A:List Int} {x:Int} (h:x∉A):rm A x=A:=List.filter_eq_self.mpr fun y hy=>by
 have:y≠x:=fun e=>h (e▸hy)
 simpa using this
end GE
namespace GE
open PySem L2 Ry G G3 GW GH GF GT
structure Ko (n:Int) (L:List PI) (m:Nat):Prop where
 has:∃ T:List Int,(T.Pairwise fun a b=>(a,b)∈L)/\(∀ x∈T,x∈rgI 0 n.toNat)/\T.length=m
 top:∀ T:List Int,(T.Pairwise fun a b=>(a,b)∈L)->(∀ x∈T,x∈rgI 0 n.toNat)->T.length<=m
structure HC (n:Int) (L:List PI) (m:Nat):Prop where
 has:∃ Z:List Int,Z.Nodup/\(∀ x∈Z,x∈rgI 0 n.toNat)/\(∀ x∈Z,∀ y∈Z,(x,y)∉L)/\Z.length=m
 top:∀ Z:List Int,Z.Nodup->(∀ x∈Z,x∈rgI 0 n.toNat)->(∀ x∈Z,∀ y∈Z,(x,y)∉L)->Z.length<=m
theorem Ko.le {n n':Int} {L L':List PI} {m m':Nat} (h:Ko n L m) (h':Ko n' L' m') {f:List Int->List Int} (hf:∀ T:List Int,(T.Pairwise fun a b=>(a,b)∈L)->(∀ x∈T,x∈rgI 0 n.toNat)->((f T).Pairwise fun a b=>(a,b)∈L')/\(∀ x∈f T,x∈rgI 0 n'.toNat)/\(f T).length=T.length):m<=m':=by
 obtain ⟨T,h1,h2,h3⟩:=h.has
 obtain ⟨a,b,c⟩:=hf T h1 h2
 have:=h'.top _ a b
 lia
theorem HC.le {n n':Int} {L L':List PI} {m m':Nat} (h:HC n L m) (h':HC n' L' m') {f:List Int->List Int} (hf:∀ Z:List Int,Z.Nodup->(∀ x∈Z,x∈rgI 0 n.toNat)->(∀ x∈Z,∀ y∈Z,(x,y)∉L)->(f Z).Nodup/\(∀ x∈f Z,x∈rgI 0 n'.toNat)/\(∀ x∈f Z,∀ y∈f Z,(x,y)∉L')/\(f Z).length=Z.length):m<=m':=by
 obtain ⟨Z,h1,h2,h3,h4⟩:=h.has
 obtain ⟨a,b,c,d⟩:=hf Z h1 h2 h3
 have:=h'.top _ a b c
 lia
theorem Jl {n:Int} {L C:List PI} {m:Nat} (Y:Yd n L) (hp:(bX C).Perm (rgI 0 n.toNat)) (ht:Hts L C) (he:lD n C (m:Int)=[]):∀ (k:Nat) (x:Int),x∈rgI 0 n.toNat->cE C x≠(m:Int)+k
 | 0,x,hx,e=>by
   have:x∈lD n C (m:Int):=pk.mpr ⟨hx,by simpa using e⟩
   rw [he] at this
   cases this
 | k+1,x,hx,e=>by
   rcases ht.dn x (hp.mem_iff.mpr hx) with z | ⟨_,a,ha,hq⟩
   ·lia
   ·refine Jl Y hp ht he k a ?_ (by lia)
    have:=(Y.rg _ ha).1
    dsimp only at this
    exact fq.mpr (by lia)
theorem wR {n:Int} {L C:List PI} (Y:Yd n L) (hp:(bX C).Perm (rgI 0 n.toNat)) (ht:Hts L C):∀ (k:Nat) (x:Int),x∈rgI 0 n.toNat->cE C x=(k:Int)->∃ T:List Int,(T.Pairwise fun a b=>(a,b)∈L)/\(∀ y∈T,y∈rgI 0 n.toNat/\(y=x\/(y,x)∈L))/\T.length=k+1
 | 0,x,hx,_=>⟨[x],aS _ _,fun y hy=>by rw [av.mp hy];exact ⟨hx,.inl rfl⟩,rfl⟩
 | k+1,x,hx,e=>by
   rcases ht.dn x (hp.mem_iff.mpr hx) with z | ⟨_,a,ha,hq⟩
   ·lia
   ·have hr:a∈rgI 0 n.toNat:=by
     have:=(Y.rg _ ha).1
     dsimp only at this
     exact fq.mpr (by lia)
    obtain ⟨T,t1,t2,t3⟩:=wR Y hp ht k a hr (by lia)
    have up:∀ y∈T,(y,x)∈L:=fun y hy=>by
     rcases (t2 y hy).2 with z | z
     ·rw [z];exact ha
     ·exact Y.tr _ _ _ z ha
    refine ⟨T++[x],eZ.mpr ⟨t1,aS _ _,fun y hy w hw=>by rw [av.mp hw];exact up y hy⟩,fun y hy=>?_,by rw [aN,t3];rfl⟩
    rcases az.mp hy with z | z
    ·exact ⟨(t2 y z).1,.inr (up y z)⟩
    ·rw [av.mp z];exact ⟨hx,.inl rfl⟩
theorem A7 {n:Int} {L:List PI} (Y:Yd n L) (h0:1<=n) (h1:n<64) (hl:L.length<=1000):∃ (C:List PI) (m:Nat),(bX C).Perm (rgI 0 n.toNat)/\Hts L C/\fn_floors [dY n L]=some (.tup ((rws n C m).map dT))/\Ko n L m:=by
 obtain ⟨C,m,hp,ht,hf,hne,he⟩:=Bb Y (by lia) h1 hl
 have lt:∀ x∈rgI 0 n.toNat,0<=cE C x/\cE C x<(m:Int):=fun x hx=>by
  refine ⟨ht.ge (hp.mem_iff.mpr hx),?_⟩
  by_cases z:cE C x<(m:Int)
  ·exact z
  ·exact absurd (by lia) (Jl Y hp ht he (cE C x-m).toNat x hx)
 refine ⟨C,m,hp,ht,hf,⟨?_,fun T t1 t2=>?_⟩⟩
 ·cases m with
  | zero =>
    have:=lt 0 (fq.mpr (by lia))
    lia
  | succ m =>
    obtain ⟨x,hx⟩:=List.exists_mem_of_ne_nil _ (hne m (kf m))
    obtain ⟨hx1,hx2⟩:=pk.mp hx
    obtain ⟨T,t1,t2,t3⟩:=wR Y hp ht m x hx1 hx2
    exact ⟨T,t1,fun y hy=>(t2 y hy).1,t3⟩
 ·have nd:(T.map (cE C)).Nodup:=bB.mpr (t1.imp_of_mem fun {a b} ha hb hab z=>by
   have:=(ht.up b (hp.mem_iff.mpr (t2 b hb)) a hab).2
   lia)
  have:=Ms.length_le_of_subset nd (m:=rgI 0 m) fun v hv=>by
   obtain ⟨x,hx,rfl⟩:=aK.mp hv
   have:=lt x (t2 x hx)
   exact fq.mpr (by lia)
  rw [ab,e6] at this
  exact this
theorem jz (p:Int->Bool):∀ Z:List Int,Z.length=(Z.filter p).length+(Z.filter fun z=>!p z).length
 | []=>rfl
 | z::Z=>by
   have:=jz p Z
   cases h:p z<;>simp [h]<;>lia
theorem EE {L:List PI}:∀ (Ts:List (List Int)) (Z:List Int),Z.Nodup->(∀ z∈Z,∃ T∈Ts,z∈T)->(∀ T∈Ts,∀ x∈T,∀ y∈T,x=y\/(x,y)∈L\/(y,x)∈L)->(∀ x∈Z,∀ y∈Z,(x,y)∉L)->Z.length<=Ts.length
 | [],Z,_,h,_,_=>by
   cases Z with
   | nil=>exact ax _
   | cons z Z=>obtain ⟨T,hT,_⟩:=h z ah;cases hT
 | T::Ts,Z,nd,h,hc,ha=>by
   have i1:=EE Ts (Z.filter fun z=>!decide (z∈T)) (nd.sublist bQ) (fun z hz=>by
    obtain ⟨hz1,hz2⟩:=aI.mp hz
    obtain ⟨T',hT',hzT⟩:=h z hz1
    rcases am.mp hT' with e | e
    ·subst e;simp [hzT] at hz2
    ·exact ⟨T',e,hzT⟩) (fun T' hT'=>hc T' (ag _ hT')) fun x hx y hy=>ha x (aI.mp hx).1 y (aI.mp hy).1
   have i2:(Z.filter fun z=>decide (z∈T)).length<=1:=by
    have nd2:(Z.filter fun z=>decide (z∈T)).Nodup:=nd.sublist bQ
    match e:Z.filter fun z=>decide (z∈T) with
    | []=>simp
    | [_]=>simp
    | a::b::r =>
      have ma:a∈Z.filter fun z=>decide (z∈T):=by rw [e];simp
      have mb:b∈Z.filter fun z=>decide (z∈T):=by rw [e];simp
      obtain ⟨a1,a2⟩:=aI.mp ma
      obtain ⟨b1,b2⟩:=aI.mp mb
      rw [e] at nd2
      rcases hc T ah a (of_decide_eq_true a2) b (of_decide_eq_true b2) with z | z | z
      ·have:=(bf.mp nd2).1
       rw [z] at this
       simp at this
      ·exact absurd z (ha a a1 b b1)
      ·exact absurd z (ha b b1 a a1)
   have hs:Z.length=(Z.filter fun z=>decide (z∈T)).length+(Z.filter fun z=>!decide (z∈T)).length:=by
    exact jz _ Z
   rw [aG]
   lia
theorem EB {L:List PI}:∀ {T:List Int},(T.Pairwise fun a b=>(a,b)∈L)->∀ x∈T,∀ y∈T,x=y\/(x,y)∈L\/(y,x)∈L
 | [],_,x,hx,_,_=>by cases hx
 | a::T,h,x,hx,y,hy=>by
   obtain ⟨h1,h2⟩:=bF.mp h
   rcases am.mp hx with e | hx2
   ·rcases am.mp hy with e' | hy2
    ·exact .inl (e.trans e'.symm)
    ·rw [e];exact .inr (.inl (h1 y hy2))
   ·rcases am.mp hy with e' | hy2
    ·rw [e'];exact .inr (.inr (h1 x hx2))
    ·exact EB h2 x hx2 y hy2
theorem AY {n:Int} {L:List PI} (Y:Yd n L) (h0:0<=n) (h12:n<=12) (hl:L.length<=1000):∃ R:List Int,fn_broadest [dY n L]=some (dT R)/\HC n L R.length:=by
 obtain ⟨U,X,ht,lk,nX,rX,aX,hX⟩:=BF Y h0 h12 hl
 obtain ⟨R,hb,r1,r2,r3,r4⟩:=vU Y h0 h12 hl ht lk nX rX aX hX
 refine ⟨R,hb,⟨R,wD r1,r3,r4,rfl⟩,fun Z z1 z2 z3=>?_⟩
 have hperm:((qV n U).map (twF (swp U) 12)).flatten.Perm (rgI 0 n.toNat):=zE Y lk (FF Y) (Di Y) (Fn Y h12)
 have:=EE (L:=L) ((qV n U).map (twF (swp U) 12)) Z z1 (fun z hz=>j0.mp (hperm.mem_iff.mpr (z2 z hz))) (fun T hT=>by
  obtain ⟨b,_,rfl⟩:=aK.mp hT
  exact EB (oM Y lk 12 b)) z3
 rw [ab] at this
 lia
end GE
namespace GE
open PySem L2 Ry G G3 GW GH
theorem Fd {A B:List Int} {b:Int} (nd:(A++b::B).Nodup):rm (A++b::B) b=A++B:=by
 have h:=bp.mp nd
 rw [Aw,Ea fun w=>h.2.2 b w b ah rfl]
 show A++List.filter _ (b::B)=_
 rw [jY (by simp)]
 show A++rm B b=_
 rw [Ea (bf.mp h.2.1).1]
theorem wW (f:List Int->Int):∀ (B A:List Int),(A++B).Nodup->sm (rgI (A.length:Int) B.length) (fun i=>f ((A++B).eraseIdx i.toNat))=sm B fun x=>f (rm (A++B) x)
 | [],A,_=>rfl
 | b::B,A,nd=>by
   have ih:=wW f B (A++[b]) (by simpa using nd)
   rw [aN,bx,dX,List.singleton_append] at ih
   show sm ((A.length:Int)::rgI ((A.length:Int)+1) B.length) _=_
   have e:(A++b::B).eraseIdx ((A.length:Nat):Int).toNat=A++B:=by
    rw [g9,List.eraseIdx_append_of_length_le (ax _),n8];rfl
   rw [eY,eY,show ((A.length:Int)+1)=((A.length+1:Nat):Int) by lia,ih,Fd nd,e]
def rl (L:List PI) (a b:Int):Bool:=decide ((a,b)∈L)
theorem HN {n:Int} {L:List PI} (Y:Yd n L):∀ (k:Nat) (H:List Int),H.Nodup->H.length=k->hdB L H=true->wL (hdB L) H=cT (rl L) k H
 | 0,H,_,hl,hp=>by
   rw [jV] at hl
   subst hl
   rfl
 | k+1,H,nd,hl,hp=>by
   rw [D7 hp (by intro z;subst z;simp at hl)]
   have h:=wW (wL (hdB L)) H [] (by simpa using nd)
   simp only [List.nil_append,cX,Int.natCast_zero] at h
   rw [h]
   show _=sm H fun x=>if isT (rl L) H x=true then cT (rl L) k (rm H x) else 0
   refine dF fun x hx=>?_
   by_cases ht:isT (rl L) H x=true
   ·rw [if_pos ht]
    refine HN Y k (rm H x) (u9 nd x) (t6 nd hx hl) (lL.mpr fun y hy a ha=>j4.mpr ⟨lL.mp hp y (j4.mp hy).1 a ha,fun e=>?_⟩)
    subst e
    have:=nh.mp ht y (j4.mp hy).1
    rw [rl,decide_eq_false_iff_not] at this
    exact this ha
   ·rw [if_neg ht]
    refine JK ?_
    cases q:hdB L (rm H x) with
    | false=>rfl
    | true =>
      refine absurd (nh.mpr fun o ho=>?_) ht
      rw [rl,decide_eq_false_iff_not]
      intro hxo
      have ne:o≠x:=fun e=>Y.irr x (e▸hxo)
      exact (j4.mp (lL.mp q o (j4.mpr ⟨ho,ne⟩) x hxo)).2 rfl
theorem wl {n:Int} {L:List PI} (Y:Yd n L) (h0:0<=n) (h5:n<=5) (hl:L.length<=1000):fn_lines [dY n L]=some (.int (cT (rl L) n.toNat (rgI 0 n.toNat))):=by
 rw [Dp Y h0 h5 hl,HN Y n.toNat _ (fz _ _) (e6 _ _) (lL.mpr fun x _ a ha=>?_)]
 have:=(Y.rg _ ha).1
 dsimp only at this
 exact fq.mpr (by lia)
theorem K2:Ms.Lin HT.lexLt:=⟨lb,oA,pc⟩
theorem zY:∀ ts:List (List Int),o4 (ts.map dT)=some ts
 | []=>rfl
 | t::ts=>by
   show (match gL (t.map Da.int),o4 (ts.map dT) with | some ns,some ts=>some (ns::ts) | _,_=>none)=_
   rw [fS,zY ts]
theorem EC {ts:List (List Int)} (h:OkN ts):B0 (ts.map dT)=some ((Ms.srt HT.lexLt ts).map dT):=by
 unfold B0
 rw [zY]
 dsimp only
 rw [if_pos h]
 rfl
theorem IH {S:List PI} (h:OkN S):B0 (S.map dP)=some ((Ms.srt Ms.ltP S).map dP):=by
 unfold B0
 rw [v7]
 dsimp only
 rw [if_pos (Ki h),Ms.srt_map (lt:=Ms.ltP) (fun a b=>zL a b),aC]
 rfl
theorem Hm {ts us:List (List Int)} (h1:ts.Nodup) (h2:us.Nodup) (h:∀ t,t∈ts↔t∈us):Ms.srt HT.lexLt ts=Ms.srt HT.lexLt us :=
 Ms.strict_ext K2 (Ms.srt_strict K2 h1) (Ms.srt_strict K2 h2) fun t=>by rw [(Ms.srt_perm _).mem_iff,(Ms.srt_perm _).mem_iff,h]
theorem Kx {R:List Int} (nd:R.Nodup) {b:Int} (hb:b∈R) (f:Int->Int):sm R (fun s=>f s*dl s b)=f b:=by
 rw [xu (a:=b) nd hb fun x _ hx=>by unfold dl;rw [if_neg hx,u0]]
 unfold dl
 rw [if_pos rfl,pK]
theorem KH {R:List Int} (nd:R.Nodup) {a:Int} (ha:a∈R) (f:Int->Int):sm R (fun s=>dl a s*f s)=f a:=by
 rw [xu (a:=a) nd ha fun x _ hx=>by unfold dl;rw [if_neg (Ne.symm hx),Int.zero_mul]]
 unfold dl
 rw [if_pos rfl,Int.one_mul]
theorem He {R:List Int} (nd:R.Nodup) {z w v:Int->Int->Int} (hl:∀ a∈R,∀ t∈R,sm R (fun s=>w a s*z s t)=dl a t) (hr:∀ a∈R,∀ b∈R,sm R (fun t=>z a t*v t b)=dl a b) {a b:Int} (ha:a∈R) (hb:b∈R):w a b=v a b:=by
 have e1:w a b=sm R fun s=>w a s*sm R fun t=>z s t*v t b:=by
  rw [<- Kx nd hb (w a)]
  exact dF fun s hs=>by rw [hr s hs b hb]
 have e2:(sm R fun s=>w a s*sm R fun t=>z s t*v t b)=sm R fun t=>sm R fun s=>w a s*z s t*v t b:=by
  rw [vo]
  exact dF fun s _=>by rw [<- zN];exact dF fun t _=>(Int.mul_assoc _ _ _).symm
 rw [e1,e2,<- KH nd ha fun t=>v t b]
 exact dF fun t ht=>by rw [Fk (v t b) (fun s=>w a s*z s t),hl a ha t ht]
theorem KR (n:Bool) (a b:Kd) (i j:Int):oEq n (a,.int i) (b,.int j)=some (.pu,.bl (if n then !decide (i=j) else decide (i=j))):=by
 rw [J8]
 congr 3
theorem DL {f g:Rho->Option Rv} {ρ:Rho} {k k':Kd} {i:Int} (hf:f ρ=some (k,.int i)) (hg:g ρ=some (k',.int i)):tb (x2 (oEq true) f g) ρ=some false:=by
 rw [De,sO,hf,hg]
 dsimp only
 rw [KR,decide_eq_true rfl]
 rfl
theorem wq {f:Rho->Option Rv} {ρ:Rho} {k:Kd} {ds:List Da} (hf:f ρ=some (k,.tup ds)):xB p6 (aJ f cc) ρ=some (.pu,.int (ds.length:Int)):=by
 rw [sQ,cq,hf,dL]
 rfl
end GE
namespace G13
open PySem L2 Ry G GW GH GF GT
noncomputable def g_yard_of:Rho->Res:=(fZ (kX (aJ (aW 0) (aJ (xB gv (aJ (xB eX (aJ (aW 1) cc)) cc)) cc))))
noncomputable def fn_yard_of:List Da->Option Da:=jl 2 g_yard_of
noncomputable def g_turned:Rho->Res:=(fZ (cJ fn_yard_of (aJ (x2 oIt (aW 0) (xC (.int 0))) (aJ (fy [none,none,none] (cF (iG (x2 oIt (aW 0) (xC (.int 1))))) (tgT 2 (d4 (tgN 1) (d4 (tgN 2) jO))) (fun _=>some true) (kX (aJ (aW 2) (aJ (aW 1) cc)))) cc))))
noncomputable def fn_turned:List Da->Option Da:=jl 1 g_turned
noncomputable def g_law:Rho->Res:=(iD (lP 1 (cJ fn__law_yard (aJ (aW 0) (aJ (xC (.int 0)) (aJ (xC (.int 5)) cc)))))
 (iD (JM (aW 1) (tgT 2 (d4 (tgN 2) (d4 (tgN 3) jO))))
 (iD (lP 4 (cJ fn_turned (aJ (aW 1) cc)))
 (iD (sIf (FX (tb (x2 (oEq true) (aW 4) (kX (aJ (aW 2) (aJ (xB gv (aJ (xB fH (aJ (fy [none,none,none] (cF (iG (aW 3))) (tgT 2 (d4 (tgN 1) (d4 (tgN 2) jO))) (fun _=>some true) (kX (aJ (aW 2) (aJ (aW 1) cc)))) cc)) cc)) cc))))) (tb (x2 (oEq true) (cJ fn_turned (aJ (aW 4) cc)) (aW 1)))) (fZ (xC (.bl false))) ni)
 (iD (sIf (FX (tb (x2 (oEq true) (xB p6 (aJ (cJ fn_floors (aJ (aW 4) cc)) cc)) (xB p6 (aJ (cJ fn_floors (aJ (aW 1) cc)) cc)))) (tb (x2 (oEq true) (xB p6 (aJ (cJ fn_broadest (aJ (aW 4) cc)) cc)) (xB p6 (aJ (cJ fn_broadest (aJ (aW 1) cc)) cc))))) (fZ (xC (.bl false))) ni)
 (iD (sIf (tb (x2 (oEq true) (cJ fn_lines (aJ (aW 4) cc)) (cJ fn_lines (aJ (aW 1) cc)))) (fZ (xC (.bl false))) ni)
 (iD (lP 5 (fy [none,none,none,none,some 2] (cF (iG (cJ fn_heads (aJ (aW 1) cc)))) (tgN 1) (fun _=>some true) (xB gv (aJ (fy [none,none,some 1] (mn (aJ (aW 4) cc)) (tgN 1) (tb (x2 (oIn true) (aW 1) (aW 2))) (aW 1)) cc))))
 (iD (sIf (tb (x2 (oEq true) (xB fH (aJ (aW 5) cc)) (xB fH (aJ (cJ fn_heads (aJ (aW 4) cc)) cc)))) (fZ (xC (.bl false))) ni)
 (iD (qw (mn (aJ (aW 2) cc)) (tgN 6)
 (qw (mn (aJ (aW 2) cc)) (tgN 7)
 (sIf (tb (x2 (oEq true) (cJ fn_weight (aJ (aW 4) (aJ (aW 6) (aJ (aW 7) cc)))) (cJ fn_weight (aJ (aW 1) (aJ (aW 7) (aJ (aW 6) cc)))))) (fZ (xC (.bl false))) ni)))
 (fZ (xC (.bl true))))))))))))
noncomputable def fn_law:List Da->Option Da:=jl 8 g_law
end G13
set_option maxHeartbeats 8000000
namespace C
open PySem PySem.Spec PyProof.Rows L2 Ry
def top (i:Nat):cV:=PySem.Challenge.pw_rankyard_k13_whole_turned_about.main.body.getD i (.Pass ⟨0,0,0,0⟩)
abbrev kx:cV:=top 1
abbrev mF:cV:=top 2
abbrev hV:cV:=top 4
abbrev iY:cV:=top 5
abbrev kJ:cV:=top 6
abbrev iT:cV:=top 8
abbrev oE:cV:=top 9
abbrev il:cV:=top 11
abbrev pj:cV:=top 12
abbrev ik:cV:=top 14
abbrev mm:cV:=top 15
abbrev mr:cV:=top 16
abbrev fT:cV:=top 18
abbrev iM:cV:=top 19
abbrev ip:cV:=top 20
abbrev mC:cV:=top 21
abbrev fP:cV:=top 22
abbrev dH:cV:=top 23
abbrev jw:cV:=top 24
abbrev gF:cV:=top 26
abbrev mh:cV:=top 27
abbrev iU:cV:=top 29
abbrev jy:cV:=top 30
abbrev fO:cV:=top 31
abbrev jx:cV:=top 32
abbrev iP:cV:=top 33
abbrev tz:cV:=top 34
structure Zs (mg:bH->Option ae):Prop where
 «all» : mg "all" = none
 «any» : mg "any" = none
 «dict» : mg "dict" = none
 «len» : mg "len" = none
 «list» : mg "list" = none
 «max» : mg "max" = none
 «range» : mg "range" = none
 «sorted» : mg "sorted" = none
 «sum» : mg "sum" = none
 «tuple» : mg "tuple" = none
section
variable {P:bA} {w:cb} {K:ac} {mg:bH->Option ae} {base:cr}
theorem ya (hf:ft K mg "yard_of" kx) (Z:Zs mg)  : Ca P w K mg base "yard_of" ["count","pairs"] 1 2 G13.fn_yard_of:=qA (k:=0) (N:=["count","pairs"]) (g:=G13.g_yard_of) hf ⟨rfl,rfl,rfl,by decide +kernel,rfl,by decide +kernel,by decide +kernel⟩ rfl (fun _ _ _ _ _ _ us hl=>match us,hl with | [_,_],_=>rfl) fun _ _ _ _ _ _ _ hr hu hu1 nd =>
 (bZ (cC (iR (au (aD 0) (au (gW rfl Z.tuple (au (kD rfl rfl Z.sorted (au (aD 1) aQ)) aQ)) aQ)))))
theorem zO (hf:ft K mg "turned" mF) (Z:Zs mg) (C_yard_of:Ca P w K mg base "yard_of" ["count","pairs"] 1 2 G13.fn_yard_of):Ca P w K mg base "turned" ["yard"] 2 1 G13.fn_turned:=qA (k:=1) (N:=["yard"]) (g:=G13.g_turned) hf ⟨rfl,rfl,rfl,by decide +kernel,rfl,by decide +kernel,by decide +kernel⟩ rfl (fun _ _ _ _ _ _ us hl=>match us,hl with | [_],_=>rfl) fun _ _ _ _ _ _ _ hr hu hu1 nd =>
 (bZ (cC (bO C_yard_of (hr.mono (by decide)) rfl (au (d7 hu1 (aD 0) dc) (au (gw rfl (gJ (ix:=[none,none,none]) rfl (by decide +kernel) rfl rfl) (fE (gG (d7 hu1 (aD 0) dc))) ⟨fun _ _ _=>(pI rfl (ic (cm (i:=1) (cnd (by decide +kernel))) (ic (cm (i:=2) (cnd (by decide +kernel))) oZ))),fun _ _ _=>iF,fun _ _ _=>(iR (au (aD 2) (au (aD 1) aQ)))⟩) aQ)) (aT (aT cj)))))
theorem nE:gQ ["pairs","uppers","under","over"] ["pairs"] (bh hV):=⟨rfl,rfl,rfl,by decide +kernel,rfl,by decide +kernel,by decide +kernel⟩
theorem ua (hf:ft K mg "uppers_of" hV):Ca P w K mg base "uppers_of" ["pairs"] 1 1 Ry.fn_uppers_of:=by
 obtain ⟨a,fd,F,hm⟩:=hf
 refine ⟨a,fd,hm,F.kp,F.binds (fun _ _ _ _ _ _ us hl=>match us,hl with | [_],_=>rfl),?_⟩
 refine F.ok nE (fun vs H Q E ⟨G,ds,d,hl,sg,_,dl,_⟩=>by rw [dl.length,hl];rfl) fun cdv A outer s H vs Q E hr ⟨G,ds,d,hl,sg,tg,dl,ef,k⟩=>?_
 have hu1:_+1<cx:=rD hr
 have nd:=nE.nd
 refine ⟨_,gH (qO (i:=1) nd rfl (dI rfl) mG)
  (gH (wX bM rfl (vg (zH (j5 0))) (Er rfl (sD (mY (i:=2) nd rfl (dI rfl)) (sD (mY (i:=3) nd rfl (dI rfl)) ze)))
    (gH (Dr (Ag (tL hu1 (pv 2) (pv 1))) (iV (oX hu1 (pv 1) (pv 2) mG rfl)) rK)
    (iV (oX hu1 (vN hu1 (pv 1) (pv 2) (fun _ _=>rfl)) (pv 3) AI rfl))))
  (iV (zb (pv 1)))),?_⟩
 exact vV hl sg tg dl ef k
theorem t0 (hf:ft K mg "lowers_of" iY) (Z:Zs mg) (C_uppers_of:Ca P w K mg base "uppers_of" ["pairs"] 1 1 Ry.fn_uppers_of):Ca P w K mg base "lowers_of" ["pairs"] 2 1 GW.fn_lowers_of:=qA (k:=1) (N:=["pairs"]) (g:=GW.g_lowers_of) hf ⟨rfl,rfl,rfl,by decide +kernel,rfl,by decide +kernel,by decide +kernel⟩ rfl (fun _ _ _ _ _ _ us hl=>match us,hl with | [_],_=>rfl) fun _ _ _ _ _ _ _ hr hu hu1 nd =>
 (bZ (cC (bO C_uppers_of (hr.mono (by decide)) rfl (au (gw rfl (gJ (ix:=[none,none,none]) rfl (by decide +kernel) rfl rfl) (fE (gG (aD 0))) ⟨fun _ _ _=>(pI rfl (ic (cm (i:=1) (cnd (by decide +kernel))) (ic (cm (i:=2) (cnd (by decide +kernel))) oZ))),fun _ _ _=>iF,fun _ _ _=>(iR (au (aD 2) (au (aD 1) aQ)))⟩) aQ) (aT cj))))
theorem yj (hf:pz K mg "upwards" kJ) (hK:K.In base) (hB:Bm mg base) (Z:Zs mg)  : Ca P w K mg base "upwards" ["count","lowers"] 5 2 GW.fn_upwards:=Js (k:=4) (N:=["count","lowers"]) (g:=GW.g_upwards) hf hK hB ⟨rfl,rfl,rfl,by decide +kernel,rfl,by decide +kernel,by decide +kernel⟩ rfl (fun _ _ _ _ _ _ us hl=>match us,hl with | [_,_],_=>rfl) fun f c P1 A outer s H E hCd hTb hr hu hu1 nd =>
 (bZ (cC (vK (i0:=0) (x:="thing") rfl (hr.mono (by decide)) rfl Z.sorted rfl Z.range ⟨rfl,hCd,hTb,hB⟩ ⟨⟨gJ (ix:=[none,some 1,none]) rfl (by decide +kernel) rfl rfl,rfl,rfl,by decide +kernel,rfl⟩,rfl,fun _ _ _ _ _ _=>rfl,by
   intro q2 f2 c2 s2 H2
   refine Eo (k:=1) hr fun hr=>?_
   have hu:=hr.units
   have hu1:_+1<cx:=rD hr
   exact (Gh rfl Z.len (au (lM hu1 (aD 1) (aD 0) kR) aQ))⟩ (au (aD 0) aQ))))
theorem tE (hf:ft K mg "holds_all" iT) (Z:Zs mg)  : Ca P w K mg base "holds_all" ["head","things"] 1 2 GH.fn_holds_all:=qA (k:=0) (N:=["head","things"]) (g:=GH.g_holds_all) hf ⟨rfl,rfl,rfl,by decide +kernel,rfl,by decide +kernel,by decide +kernel⟩ rfl (fun _ _ _ _ _ _ us hl=>match us,hl with | [_,_],_=>rfl) fun _ _ _ _ _ _ _ hr hu hu1 nd =>
 (bZ (cC (IT rfl rfl Z.all (au (gw rfl (gJ (ix:=[none,none,some 0]) rfl (by decide +kernel) rfl rfl) (fE (gG (aD 1))) ⟨fun _ _ _=>(cm (i:=1) (cnd (by decide +kernel))),fun _ _ _=>iF,fun _ _ _=>(Lv (GP hu) (aD 1) (aD 2))⟩) aQ))))
theorem DH (hf:pz K mg "heads" oE) (hK:K.In base) (hB:Bm mg base) (Z:Zs mg) (C_holds_all:Ca P w K mg base "holds_all" ["head","things"] 1 2 GH.fn_holds_all) (C_lowers_of:Ca P w K mg base "lowers_of" ["pairs"] 2 1 GW.fn_lowers_of) (C_upwards:Ca P w K mg base "upwards" ["count","lowers"] 5 2 GW.fn_upwards):Ca P w K mg base "heads" ["yard"] 6 1 GH.fn_heads:=Js (k:=5) (N:=["yard","lowers","found","thing","unders"]) (g:=GH.g_heads) hf hK hB ⟨rfl,rfl,rfl,by decide +kernel,rfl,by decide +kernel,by decide +kernel⟩ rfl (fun _ _ _ _ _ _ us hl=>match us,hl with | [_],_=>rfl) fun f c P1 A outer s H E hCd hTb hr hu hu1 nd =>
 (bJ (eK (i:=1) nd (bO C_lowers_of (hr.mono (by decide)) rfl (au (d7 hu1 (aD 0) dc) aQ) (aT cj)))
   (bJ (eK (i:=2) nd (tO (au (iR aQ) aQ)))
   (bJ (iE bM rfl (fE (gG (bO C_upwards (hr.mono (by decide)) rfl (au (d7 hu1 (aD 0) dc) (au (aD 1) aQ)) (aT (aT cj))))) (cm (i:=3) nd)
   (bJ (eK (i:=4) nd (gG (lM hu1 (aD 1) (aD 3) kR)))
   (bZ (eK (i:=2) nd (j7 (aD 2) (gw rfl (gJ (ix:=[none,none,none,none,none,some 3,some 4]) rfl (by decide +kernel) rfl rfl) (fE (gG (aD 2))) ⟨fun _ _ _=>(cm (i:=1) (cnd (by decide +kernel))),fun _ _ _=>(po (xv (bO C_holds_all (hr.mono (by decide)) rfl (au (aD 1) (au (aD 6) aQ)) (aT (aT cj))))),fun _ _ _=>(gW rfl Z.tuple (au (kD rfl rfl Z.sorted (au (j7 (aD 1) (iR (au (aD 5) aQ))) aQ)) aQ))⟩))))))
   (bZ (cC (gW rfl Z.tuple (au (vt (i0:=0) (x:="head") rfl (hr.mono (by decide)) rfl Z.sorted ⟨rfl,hCd,hTb,hB⟩ ⟨⟨gJ (ix:=[none,none]) rfl (by decide +kernel) rfl rfl,rfl,rfl,by decide +kernel,rfl⟩,rfl,fun _ _ _ _ _ _=>rfl,by
     intro q2 f2 c2 s2 H2
     refine Eo (k:=2) hr fun hr=>?_
     have hu:=hr.units
     have hu1:_+1<cx:=rD hr
     exact (iR (au (nN rfl Z.len (au (aD 0) aQ)) (au (aD 0) aQ)))⟩ (aD 2)) aQ)))))))
theorem rn (hf:ft K mg "ways_up_to" il) (Z:Zs mg)  : Ca P w K mg base "ways_up_to" ["ways","head"] 1 2 GH.fn_ways_up_to:=qA (k:=0) (N:=["ways","head"]) (g:=GH.g_ways_up_to) hf ⟨rfl,rfl,rfl,by decide +kernel,rfl,by decide +kernel,by decide +kernel⟩ rfl (fun _ _ _ _ _ _ us hl=>match us,hl with | [_,_],_=>rfl) fun _ _ _ _ _ _ _ hr hu hu1 nd =>
 (bZ (cC (EJ rfl rfl Z.sum (au (gw rfl (gJ (ix:=[none,none,some 1,some 0]) rfl (by decide +kernel) rfl rfl) (gi rfl Z.range (au (nN rfl Z.len (au (aD 1) aQ)) aQ)) ⟨fun _ _ _=>(cm (i:=1) (cnd (by decide +kernel))),fun _ _ _=>iF,fun _ _ _=>(lM hu1 (aD 3) (j7 (rq (aD 2) rE (sE (aD 1))) (rq (aD 2) (sE (j7 (aD 1) dc)) rE)) dc)⟩) aQ))))
theorem CG (hf:ft K mg "lines" pj) (Z:Zs mg) (C_heads:Ca P w K mg base "heads" ["yard"] 6 1 GH.fn_heads) (C_ways_up_to:Ca P w K mg base "ways_up_to" ["ways","head"] 1 2 GH.fn_ways_up_to):Ca P w K mg base "lines" ["yard"] 7 1 GH.fn_lines:=qA (k:=6) (N:=["yard","ways","head"]) (g:=GH.g_lines) hf ⟨rfl,rfl,rfl,by decide +kernel,rfl,by decide +kernel,by decide +kernel⟩ rfl (fun _ _ _ _ _ _ us hl=>match us,hl with | [_],_=>rfl) fun _ _ _ _ _ _ _ hr hu hu1 nd =>
 (bJ (lG (i:=1) nd (zU hu1 (iR aQ) dc))
   (bJ (iE bM rfl (fE (gG (bO C_heads (hr.mono (by decide)) rfl (au (aD 0) aQ) (aT cj)))) (cm (i:=2) nd)
   (bZ (lv (xv (aD 2)) (bZ (o3 (i:=1) hu (aD 2) (FW 1 (bO C_ways_up_to (hr.mono (by decide)) rfl (au (aD 1) (au (aD 2) aQ)) (aT (aT cj)))))) jj)))
   (bZ (cC (d7 hu1 (aD 1) (vm rfl Z.tuple rfl Z.range (au (d7 hu1 (aD 0) dc) aQ)))))))
theorem sy (hf:ft K mg "heights_of" ik) (Z:Zs mg) (C_upwards:Ca P w K mg base "upwards" ["count","lowers"] 5 2 GW.fn_upwards):Ca P w K mg base "heights_of" ["count","lowers"] 6 2 GF.fn_heights_of:=qA (k:=5) (N:=["count","lowers","heights","thing"]) (g:=GF.g_heights_of) hf ⟨rfl,rfl,rfl,by decide +kernel,rfl,by decide +kernel,by decide +kernel⟩ rfl (fun _ _ _ _ _ _ us hl=>match us,hl with | [_,_],_=>rfl) fun _ _ _ _ _ _ _ hr hu hu1 nd =>
 (bJ (lG (i:=2) nd kR)
   (bJ (iE bM rfl (fE (gG (bO C_upwards (hr.mono (by decide)) rfl (au (aD 0) (au (aD 1) aQ)) (aT (aT cj))))) (cm (i:=3) nd)
   (bZ (o3 (i:=2) hu (aD 3) (j7 dc (FI rfl rfl Z.max (Dg 2 (gw rfl (gJ (ix:=[none,none,some 2]) rfl (by decide +kernel) rfl rfl) (fE (gG (lM hu1 (aD 1) (aD 3) kR))) ⟨fun _ _ _=>(cm (i:=1) (cnd (by decide +kernel))),fun _ _ _=>iF,fun _ _ _=>(d7 hu1 (aD 2) (aD 1))⟩)) (nU dc))))))
   (bZ (cC (aD 2)))))
theorem zn (hf:ft K mg "row_at" mm) (Z:Zs mg)  : Ca P w K mg base "row_at" ["heights","height"] 1 2 GF.fn_row_at:=qA (k:=0) (N:=["heights","height"]) (g:=GF.g_row_at) hf ⟨rfl,rfl,rfl,by decide +kernel,rfl,by decide +kernel,by decide +kernel⟩ rfl (fun _ _ _ _ _ _ us hl=>match us,hl with | [_,_],_=>rfl) fun _ _ _ _ _ _ _ hr hu hu1 nd =>
 (bZ (cC (gW rfl Z.tuple (au (gw rfl (gJ (ix:=[none,none,some 1,some 0]) rfl (by decide +kernel) rfl rfl) (fE (gG (kD rfl rfl Z.sorted (au (aD 0) aQ)))) ⟨fun _ _ _=>(cm (i:=1) (cnd (by decide +kernel))),fun _ _ _=>(po (ki (LP hu) (d7 hu1 (aD 3) (aD 1)) (aD 2))),fun _ _ _=>(aD 1)⟩) aQ))))
theorem A8 (hf:ft K mg "floors" mr) (Z:Zs mg) (C_heights_of:Ca P w K mg base "heights_of" ["count","lowers"] 6 2 GF.fn_heights_of) (C_lowers_of:Ca P w K mg base "lowers_of" ["pairs"] 2 1 GW.fn_lowers_of) (C_row_at:Ca P w K mg base "row_at" ["heights","height"] 1 2 GF.fn_row_at):Ca P w K mg base "floors" ["yard"] 7 1 GF.fn_floors:=qA (k:=6) (N:=["yard","heights","rows","row"]) (g:=GF.g_floors) hf ⟨rfl,rfl,rfl,by decide +kernel,rfl,by decide +kernel,by decide +kernel⟩ rfl (fun _ _ _ _ _ _ us hl=>match us,hl with | [_],_=>rfl) fun _ _ _ _ _ _ _ hr hu hu1 nd =>
 (bJ (eK (i:=1) nd (bO C_heights_of (hr.mono (by decide)) rfl (au (d7 hu1 (aD 0) dc) (au (bO C_lowers_of (hr.mono (by decide)) rfl (au (d7 hu1 (aD 0) dc) aQ) (aT cj)) aQ)) (aT (aT cj))))
   (bJ (lG (i:=2) nd (tO aQ))
   (bJ (eK (i:=3) nd (bO C_row_at (hr.mono (by decide)) rfl (au (aD 1) (au dc aQ)) (aT (aT cj))))
   (bJ (pb 200 bM (xv (aD 3))
   (bJ (np (i:=2) (aD 3))
   (bZ (eK (i:=3) nd (bO C_row_at (hr.mono (by decide)) rfl (au (aD 1) (au (nN rfl Z.len (au (aD 2) aQ)) aQ)) (aT (aT cj)))))))
   (bZ (cC (gW rfl Z.tuple (au (aD 2) aQ))))))))
theorem me:gQ ["uppers","thing","under_of","asked","upper"] ["uppers","thing","under_of","asked"] (bh fT):=⟨rfl,rfl,rfl,by decide +kernel,rfl,by decide +kernel,by decide +kernel⟩
theorem mE {a:ak} {fd:dB} (F:Fun K "take_upper" "take_upper" fT a fd) (hm:mg "take_upper" = some (.ref a)):∀ k:Nat,vO P w K mg base CX0 k a fd ["uppers","thing","under_of","asked"] (GT.spT K k)
 | 0=>⟨fun vs H Q E h=>by obtain ⟨_,_,_,_,_,_,_,_,_,_,_,_,rfl,_⟩:=h;rfl,fun A outer s H args us vs Q E hr he hb hv h=>by obtain ⟨_,_,_,_,_,_,_,_,_,_,_,_,_,_,_,_,_,_,_,_,_,e,_⟩:=h;cases e⟩
 | k+1=>by
   have ih:=mE F hm k
   have hb:rp K fd ["uppers","thing","under_of","asked"] []:=F.binds (fun _ _ _ _ _ _ us hl=>match us,hl with | [_,_,_,_],_=>rfl)
   refine F.ok me (fun vs H Q E h=>by obtain ⟨_,_,_,_,_,_,_,_,_,_,_,_,rfl,_⟩:=h;rfl) fun cdv A outer s H vs Q E hr h=>?_
   have hu1:_+1<cx:=rD hr
   have nd:=me.nd
   refine ⟨_,gH (wX bM rfl (vg (zH (A2 hu1 (j5 0) (j5 1) w4))) (mY (i:=4) nd rfl (dI rfl))
    (gH (Dr (Ag (Ir hu1 (pv 4) (pv 3))) (iV wb) rK)
    (gH (oX hu1 (pv 3) (pv 4) AI rfl)
    (iV (Dr (PW.pt (IU (Ag (tL hu1 (pv 4) (pv 2))) (En (IA (vf ih hr rfl hm F.kp hb .nil Hg (fR (pv 0) (fR (vN hu1 (pv 2) (pv 4) (fun _ _=>rfl)) (fR (pv 2) (fR (pv 3) kL)))))))))
      (gH (oX hu1 (pv 2) (pv 4) (pv 1) rfl) (iV (tQ AI))) rK)))))
    (iV (tQ AI)),?_⟩
   exact GT.take_read h
theorem pJ:gQ ["yard","uppers","under_of","thing"] ["yard"] (bh iM):=⟨rfl,rfl,rfl,by decide +kernel,rfl,by decide +kernel,by decide +kernel⟩
theorem vJ (hf:ft K mg "steps_of" iM) (ht:ft K mg "take_upper" fT) (Z:Zs mg) (C_uppers_of:Ca P w K mg base "uppers_of" ["pairs"] 1 1 Ry.fn_uppers_of):Ca P w K mg base "steps_of" ["yard"] 15 1 GT.fn_steps_of:=by
 obtain ⟨a,fd,F,hm⟩:=hf
 obtain ⟨b,fb,Ft,hmt⟩:=ht
 have T:=mE (P:=P) (w:=w) (base:=base) Ft hmt 13
 have hbt:rp K fb ["uppers","thing","under_of","asked"] []:=Ft.binds (fun _ _ _ _ _ _ us hl=>match us,hl with | [_,_,_,_],_=>rfl)
 refine ⟨a,fd,hm,F.kp,F.binds (fun _ _ _ _ _ _ us hl=>match us,hl with | [_],_=>rfl),?_⟩
 refine F.ok (k:=14) pJ (fun vs H Q E ⟨G,ds,d,hl,sg,_,dl,_⟩=>by rw [dl.length,hl];rfl) fun cdv A outer s H vs Q E hr ⟨G,ds,d,hl,sg,tg,dl,ef,k⟩=>?_
 have hu1:_+1<cx:=rD hr
 have nd:=pJ.nd
 refine ⟨_,gH (qO (i:=1) nd rfl (dI rfl) (se C_uppers_of (hr.mono (by decide)) rfl (jf (v9 hu1 (j5 0) tH) m5) (aT cj)))
  (gH (qO (i:=2) nd rfl (dI rfl) mG)
  (gH (wX bM rfl (m8 rfl Z.range (jf (v9 hu1 (j5 0) tH) m5)) (mY (i:=3) nd rfl (dI rfl))
    (iV (Ac (vf T (hr.mono (by decide)) rfl hmt Ft.kp hbt .nil Hg (fR (pv 1) (fR (pv 3) (fR (pv 2) (fR mG kL))))))))
  (iV (zb (pv 2))))),?_⟩
 exact GT.steps_read sg tg dl ef k
theorem rQ (hf:ft K mg "tower_from" ip) (Z:Zs mg)  : Ca P w K mg base "tower_from" ["over_of","bottom"] 1 2 GT.fn_tower_from:=qA (k:=0) (N:=["over_of","bottom","found"]) (g:=GT.g_tower_from) hf ⟨rfl,rfl,rfl,by decide +kernel,rfl,by decide +kernel,by decide +kernel⟩ rfl (fun _ _ _ _ _ _ us hl=>match us,hl with | [_,_],_=>rfl) fun _ _ _ _ _ _ _ hr hu hu1 nd =>
 (bJ (lG (i:=2) nd (tO (au (aD 1) aQ)))
   (bJ (pb 200 bM (ki (GP hu) (d7 hu1 (aD 2) (nU dc)) (aD 0))
   (bZ (np (i:=2) (d7 hu1 (aD 0) (d7 hu1 (aD 2) (nU dc))))))
   (bZ (cC (gW rfl Z.tuple (au (aD 2) aQ))))))
theorem zl (hf:ft K mg "towers" mC) (Z:Zs mg) (C_steps_of:Ca P w K mg base "steps_of" ["yard"] 15 1 GT.fn_steps_of) (C_tower_from:Ca P w K mg base "tower_from" ["over_of","bottom"] 1 2 GT.fn_tower_from):Ca P w K mg base "towers" ["yard"] 16 1 GT.fn_towers:=qA (k:=15) (N:=["yard","under_of","over_of"]) (g:=GT.g_towers) hf ⟨rfl,rfl,rfl,by decide +kernel,rfl,by decide +kernel,by decide +kernel⟩ rfl (fun _ _ _ _ _ _ us hl=>match us,hl with | [_],_=>rfl) fun _ _ _ _ _ _ _ hr hu hu1 nd =>
 (bJ (eK (i:=1) nd (bO C_steps_of (hr.mono (by decide)) rfl (au (aD 0) aQ) (aT cj)))
   (bJ (eK (i:=2) nd (gG (AW rfl rfl Z.dict (gw rfl (gJ (ix:=[none,none,none]) rfl (by decide +kernel) rfl rfl) (Az (aD 1)) ⟨fun _ _ _=>(pI rfl (ic (cm (i:=1) (cnd (by decide +kernel))) (ic (cm (i:=2) (cnd (by decide +kernel))) oZ))),fun _ _ _=>iF,fun _ _ _=>(iR (au (aD 2) (au (aD 1) aQ)))⟩))))
   (bZ (cC (gW rfl Z.tuple (au (gw rfl (gJ (ix:=[none,none,none,some 2,some 1]) rfl (by decide +kernel) rfl rfl) (gi rfl Z.range (au (d7 hu1 (aD 0) dc) aQ)) ⟨fun _ _ _=>(cm (i:=1) (cnd (by decide +kernel))),fun _ _ _=>(po (ki (Jg hu) (aD 1) (aD 4))),fun _ _ _=>(bO C_tower_from (hr.mono (by decide)) rfl (au (aD 3) (au (aD 1) aQ)) (aT (aT cj)))⟩) aQ))))))
theorem n9 (hf:ft K mg "stands_on_any" fP) (Z:Zs mg)  : Ca P w K mg base "stands_on_any" ["uppers","thing","others"] 1 3 GT.fn_stands_on_any:=qA (k:=0) (N:=["uppers","thing","others"]) (g:=GT.g_stands_on_any) hf ⟨rfl,rfl,rfl,by decide +kernel,rfl,by decide +kernel,by decide +kernel⟩ rfl (fun _ _ _ _ _ _ us hl=>match us,hl with | [_,_,_],_=>rfl) fun _ _ _ _ _ _ _ hr hu hu1 nd =>
 (bZ (cC (Iv rfl rfl Z.any (au (gw rfl (gJ (ix:=[none,none,some 1,some 0]) rfl (by decide +kernel) rfl rfl) (fE (gG (aD 2))) ⟨fun _ _ _=>(cm (i:=1) (cnd (by decide +kernel))),fun _ _ _=>iF,fun _ _ _=>(Lv (GP hu) (aD 2) (lM hu1 (aD 3) (aD 1) kR))⟩) aQ))))
theorem kg (hf:ft K mg "without_overtopping" dH) (Z:Zs mg) (C_stands_on_any:Ca P w K mg base "stands_on_any" ["uppers","thing","others"] 1 3 GT.fn_stands_on_any):Ca P w K mg base "without_overtopping" ["uppers","lowered"] 2 2 GT.fn_without_overtopping:=qA (k:=1) (N:=["uppers","lowered","tips"]) (g:=GT.g_without_overtopping) hf ⟨rfl,rfl,rfl,by decide +kernel,rfl,by decide +kernel,by decide +kernel⟩ rfl (fun _ _ _ _ _ _ us hl=>match us,hl with | [_,_],_=>rfl) fun _ _ _ _ _ _ _ hr hu hu1 nd =>
 (bJ (eK (i:=2) nd (gw rfl (gJ (ix:=[none,none]) rfl (by decide +kernel) rfl rfl) (fE (gG (aD 1))) ⟨fun _ _ _=>(cm (i:=1) (cnd (by decide +kernel))),fun _ _ _=>iF,fun _ _ _=>(d7 hu1 (aD 1) (nU dc))⟩))
   (bZ (cC (gw rfl (gJ (ix:=[none,none,none,some 2,some 0]) rfl (by decide +kernel) rfl rfl) (fE (gG (aD 1))) ⟨fun _ _ _=>(cm (i:=1) (cnd (by decide +kernel))),fun _ _ _=>iF,fun _ _ _=>(K4 (xv (bO C_stands_on_any (hr.mono (by decide)) rfl (au (aD 4) (au (d7 hu1 (aD 1) (nU dc)) (au (aD 3) aQ))) (aT (aT (aT cj))))) (rq (aD 1) rE (sE (nU dc))) (aD 1))⟩))))
theorem vE (hf:ft K mg "broadest" jw) (Z:Zs mg) (C_towers:Ca P w K mg base "towers" ["yard"] 16 1 GT.fn_towers) (C_uppers_of:Ca P w K mg base "uppers_of" ["pairs"] 1 1 Ry.fn_uppers_of) (C_without_overtopping:Ca P w K mg base "without_overtopping" ["uppers","lowered"] 2 2 GT.fn_without_overtopping):Ca P w K mg base "broadest" ["yard"] 17 1 GT.fn_broadest:=qA (k:=16) (N:=["yard","uppers","before","lowered"]) (g:=GT.g_broadest) hf ⟨rfl,rfl,rfl,by decide +kernel,rfl,by decide +kernel,by decide +kernel⟩ rfl (fun _ _ _ _ _ _ us hl=>match us,hl with | [_],_=>rfl) fun _ _ _ _ _ _ _ hr hu hu1 nd =>
 (bJ (eK (i:=1) nd (bO C_uppers_of (hr.mono (by decide)) rfl (au (d7 hu1 (aD 0) dc) aQ) (aT cj)))
   (bJ (eK (i:=2) nd (tO aQ))
   (bJ (eK (i:=3) nd (EW rfl Z.list (au (bO C_towers (hr.mono (by decide)) rfl (au (aD 0) aQ) (aT cj)) aQ)))
   (bJ (pb 200 bM (ki (Eu hu) (aD 3) (aD 2))
   (bJ (eK (i:=2) nd (aD 3))
   (bZ (eK (i:=3) nd (bO C_without_overtopping (hr.mono (by decide)) rfl (au (aD 1) (au (aD 2) aQ)) (aT (aT cj)))))))
   (bZ (cC (gW rfl Z.tuple (au (kD rfl rfl Z.sorted (au (gw rfl (gJ (ix:=[none,none]) rfl (by decide +kernel) rfl rfl) (fE (gG (aD 3))) ⟨fun _ _ _=>(cm (i:=1) (cnd (by decide +kernel))),fun _ _ _=>iF,fun _ _ _=>(d7 hu1 (aD 1) (nU dc))⟩) aQ)) aQ))))))))
theorem oN (hf:ft K mg "weights_from" gF) (Z:Zs mg) (C_lowers_of:Ca P w K mg base "lowers_of" ["pairs"] 2 1 GW.fn_lowers_of) (C_upwards:Ca P w K mg base "upwards" ["count","lowers"] 5 2 GW.fn_upwards):Ca P w K mg base "weights_from" ["yard","one"] 6 2 GW.fn_weights_from:=qA (k:=5) (N:=["yard","one","lowers","found","thing","unders"]) (g:=GW.g_weights_from) hf ⟨rfl,rfl,rfl,by decide +kernel,rfl,by decide +kernel,by decide +kernel⟩ rfl (fun _ _ _ _ _ _ us hl=>match us,hl with | [_,_],_=>rfl) fun _ _ _ _ _ _ _ hr hu hu1 nd =>
 (bJ (eK (i:=2) nd (bO C_lowers_of (hr.mono (by decide)) rfl (au (d7 hu1 (aD 0) dc) aQ) (aT cj)))
   (bJ (lG (i:=3) nd (Cj (aD 1) dc))
   (bJ (iE bM rfl (fE (gG (bO C_upwards (hr.mono (by decide)) rfl (au (d7 hu1 (aD 0) dc) (au (aD 2) aQ)) (aT (aT cj))))) (cm (i:=4) nd)
   (bJ (eK (i:=5) nd (gG (lM hu1 (aD 2) (aD 4) kR)))
   (bZ (lv (ki (GP hu) (aD 1) (aD 5)) (bZ (o3 (i:=3) hu (aD 4) (nU (EJ rfl rfl Z.sum (au (gw rfl (gJ (ix:=[none,none,some 3]) rfl (by decide +kernel) rfl rfl) (fE (gG (aD 5))) ⟨fun _ _ _=>(cm (i:=1) (cnd (by decide +kernel))),fun _ _ _=>(po (ki (GP hu) (aD 1) (aD 2))),fun _ _ _=>(d7 hu1 (aD 2) (aD 1))⟩) aQ))))) jj))))
   (bZ (cC (aD 3))))))
theorem AD (hf:ft K mg "weight" mh) (Z:Zs mg) (C_weights_from:Ca P w K mg base "weights_from" ["yard","one"] 6 2 GW.fn_weights_from):Ca P w K mg base "weight" ["yard","one","other"] 7 3 GW.fn_weight:=qA (k:=6) (N:=["yard","one","other"]) (g:=GW.g_weight) hf ⟨rfl,rfl,rfl,by decide +kernel,rfl,by decide +kernel,by decide +kernel⟩ rfl (fun _ _ _ _ _ _ us hl=>match us,hl with | [_,_,_],_=>rfl) fun _ _ _ _ _ _ _ hr hu hu1 nd =>
 (bZ (cC (lM hu1 (bO C_weights_from (hr.mono (by decide)) rfl (au (aD 0) (au (aD 1) aQ)) (aT (aT cj))) (aD 2) dc)))
theorem uF (hf:ft K mg "_law_cell" iU) (Z:Zs mg)  : Ca P w K mg base "_law_cell" ["_law_script","_law_k"] 1 2 G.fn__law_cell:=qA (k:=0) (N:=["_law_script","_law_k"]) (g:=G.g__law_cell) hf ⟨rfl,rfl,rfl,by decide +kernel,rfl,by decide +kernel,by decide +kernel⟩ rfl (fun _ _ _ _ _ _ us hl=>match us,hl with | [_,_],_=>rfl) fun _ _ _ _ _ _ _ hr hu hu1 nd =>
 (bJ (lv (ki (Lz hu) (aD 1) (nN rfl Z.len (au (aD 0) aQ))) (bZ (cC (d7 hu1 (aD 0) (aD 1)))) jj)
   (bZ (cC dc)))
theorem vQ (hf:ft K mg "_law_mix" jy) (Z:Zs mg)  : Ca P w K mg base "_law_mix" ["_law_cell_here","_law_prime","_law_many"] 1 3 G.fn__law_mix:=qA (k:=0) (N:=["_law_cell_here","_law_prime","_law_many"]) (g:=G.g__law_mix) hf ⟨rfl,rfl,rfl,by decide +kernel,rfl,by decide +kernel,by decide +kernel⟩ rfl (fun _ _ _ _ _ _ us hl=>match us,hl with | [_,_,_],_=>rfl) fun _ _ _ _ _ _ _ hr hu hu1 nd =>
 (bZ (cC (Eb (Eb (BC (aD 0) dc) (aD 1)) (aD 2))))
theorem nP:gQ ["_law_cell_here","_law_many","_law_left"] ["_law_cell_here","_law_many"] (bh fO):=⟨rfl,rfl,rfl,by decide +kernel,rfl,by decide +kernel,by decide +kernel⟩
theorem uh (hf:ft K mg "_law_perm" fO) (Z:Zs mg) (C__law_mix:Ca P w K mg base "_law_mix" ["_law_cell_here","_law_prime","_law_many"] 1 3 G.fn__law_mix):Ca P w K mg base "_law_perm" ["_law_cell_here","_law_many"] 2 2 G.fn__law_perm:=by
 obtain ⟨a,fd,F,hm⟩:=hf
 refine ⟨a,fd,hm,F.kp,F.binds (fun _ _ _ _ _ _ us hl=>match us,hl with | [_,_],_=>rfl),?_⟩
 refine F.ok nP (fun vs H Q E ⟨Gp,ds,d,hl,sg,_,dl,_⟩=>by rw [dl.length,hl];rfl) fun cdv A outer s H vs Q E hr ⟨Gp,ds,d,hl,sg,tg,dl,ef,k⟩=>?_
 have hu1:_+1<cx:=rD hr
 have nd:=nP.nd
 have hps:PSs (wm CX0 P w K mg base ["_law_cell_here","_law_many","_law_left"] "_law_perm" (bh fO) a cdv A outer s H E).nox (cg fO) (pB (EH (tX K (kU (aJ (aW 1) cc))) (kC 2))
  (HA (yq (mpS [none,none,none,some 0,some 2,some 1]) (iX K (mn (aJ (aW 1) cc))) (kC 1) (fun _ H Q=>Q true H)
    (tBM K "list" Au (kh 4) (oF (tX K (cJ G.fn__law_mix (aJ (x2 nL (aW 3) (x2 (oI tN (·*·)) (xC (.int 5)) (aW 1))) (aJ (xC (.int 9967)) (aJ (x2 (oI (fun _ _=>true) (·-·)) (aW 5) (aW 1)) cc))))) IR))))):=by
  refine gH (qO (i:=2) nd rfl (by first | exact dI rfl | exact dQ rfl) ?e1) (iV (tQ ?e2))
  case e1=>exact t9 rfl Z.list rfl Z.range (jf (j5 1) m5)
  case e2 =>
   refine Cu rfl (gJ (ix:=[none,none,none,some 0,some 2,some 1]) rfl (by decide +kernel) rfl rfl) ?i1 ?i2 ?i3 ?i4
   case i1=>exact m8 rfl Z.range (jf (j5 1) m5)
   case i2=>exact fun s3 H3 fp3=>mY (i:=1) (cnd (by decide +kernel)) rfl (dI rfl)
   case i3=>exact fun s3 H3 fp3=>AG
   case i4 =>
    intro s3 H3 fp3
    refine JU qo PySem.F.slot_list_pop PySem.F.type_list_pop Dv ?o ?ar
    case o=>exact pv 4
    case ar=>exact fR (se C__law_mix (hr.mono (by decide)) rfl (jf (EQ (j5 3) (EA tH (j5 1))) (jf tH (jf (Kl (j5 5) (j5 1)) m5))) (aT (aT (aT cj)))) kL
 refine ⟨_,hps,?_⟩
 exact AO hl sg tg dl ef k
theorem vx (hf:ft K mg "_law_all" jx) (Z:Zs mg)  : Ca P w K mg base "_law_all" ["_law_count","_law_pairs"] 1 2 G.fn__law_all:=qA (k:=0) (N:=["_law_count","_law_pairs","_law_found","_law_pair","_law_c","_law_a","_law_b"]) (g:=G.g__law_all) hf ⟨rfl,rfl,rfl,by decide +kernel,rfl,by decide +kernel,by decide +kernel⟩ rfl (fun _ _ _ _ _ _ us hl=>match us,hl with | [_,_],_=>rfl) fun _ _ _ _ _ _ _ hr hu hu1 nd =>
 (bJ (lG (i:=2) nd Cr)
   (bJ (iE bM rfl (fE (gG (aD 1))) (cm (i:=3) nd)
   (bZ (o3 (i:=2) hu (aD 3) tu)))
   (bJ (iE bM rfl (gi rfl Z.range (au (aD 0) aQ)) (cm (i:=4) nd)
   (bZ (iE bM rfl (gi rfl Z.range (au (aD 0) aQ)) (cm (i:=5) nd)
   (bZ (iE bM rfl (gi rfl Z.range (au (aD 0) aQ)) (cm (i:=6) nd)
   (bZ (lv (GS (GA (ki (GP hu) (iR (au (aD 5) (au (aD 4) aQ))) (aD 2)) (Dt (ki (GP hu) (iR (au (aD 4) (au (aD 6) aQ))) (aD 2))))) (bZ (o3 (i:=2) hu (iR (au (aD 5) (au (aD 6) aQ))) tu)) jj)))))))
   (bZ (cC (kD rfl rfl Z.sorted (au (aD 2) aQ)))))))
theorem uD (hf:ft K mg "_law_yard" iP) (Z:Zs mg) (C__law_all:Ca P w K mg base "_law_all" ["_law_count","_law_pairs"] 1 2 G.fn__law_all) (C__law_cell:Ca P w K mg base "_law_cell" ["_law_script","_law_k"] 1 2 G.fn__law_cell) (C__law_mix:Ca P w K mg base "_law_mix" ["_law_cell_here","_law_prime","_law_many"] 1 3 G.fn__law_mix) (C__law_perm:Ca P w K mg base "_law_perm" ["_law_cell_here","_law_many"] 2 2 G.fn__law_perm):Ca P w K mg base "_law_yard" ["_law_script","_law_k","_law_most"] 3 3 G.fn__law_yard:=qA (k:=2) (N:=["_law_script","_law_k","_law_most","_law_count","_law_share","_law_places","_law_told","_law_a","_law_b"]) (g:=G.g__law_yard) hf ⟨rfl,rfl,rfl,by decide +kernel,rfl,by decide +kernel,by decide +kernel⟩ rfl (fun _ _ _ _ _ _ us hl=>match us,hl with | [_,_,_],_=>rfl) fun _ _ _ _ _ _ _ hr hu hu1 nd =>
 (bJ (eK (i:=3) nd (j7 dc (bO C__law_mix (hr.mono (by decide)) rfl (au (bO C__law_cell (hr.mono (by decide)) rfl (au (aD 0) (au (aD 1) aQ)) (aT (aT cj))) (au dc (au (aD 2) aQ))) (aT (aT (aT cj))))))
   (bJ (eK (i:=4) nd (j7 dc (bO C__law_mix (hr.mono (by decide)) rfl (au (bO C__law_cell (hr.mono (by decide)) rfl (au (aD 0) (au (aD 1) aQ)) (aT (aT cj))) (au dc (au dc aQ))) (aT (aT (aT cj))))))
   (bJ (eK (i:=5) nd (bO C__law_perm (hr.mono (by decide)) rfl (au (bO C__law_cell (hr.mono (by decide)) rfl (au (aD 0) (au (j7 (aD 1) dc) aQ)) (aT (aT cj))) (au (aD 3) aQ)) (aT (aT cj))))
   (bJ (lG (i:=6) nd (tO aQ))
   (bJ (iE bM rfl (gi rfl Z.range (au (aD 3) aQ)) (cm (i:=7) nd)
   (bZ (iE bM rfl (x9 rfl Z.range (au (j7 (aD 7) dc) (au (aD 3) aQ))) (cm (i:=8) nd)
   (bZ (lv (ki (Lz hu) (bO C__law_mix (hr.mono (by decide)) rfl (au (j7 (j7 (bO C__law_cell (hr.mono (by decide)) rfl (au (aD 0) (au (j7 (aD 1) dc) aQ)) (aT (aT cj))) (BC dc (aD 7))) (BC dc (aD 8))) (au dc (au dc aQ))) (aT (aT (aT cj)))) (aD 4)) (bZ (np (i:=6) (iR (au (d7 hu1 (aD 5) (aD 7)) (au (d7 hu1 (aD 5) (aD 8)) aQ))))) jj)))))
   (bZ (Hc 6 (cC (iR (au (aD 3) (au (gW rfl Z.tuple (au (bO C__law_all (hr.mono (by decide)) rfl (au (aD 3) (au (aD 6) aQ)) (aT (aT cj))) aQ)) aQ)))))))))))
theorem HY {fa:ak} {fd:dB} (F:Fun K "law" "law" tz fa fd) (Z:Zs mg) (C__law_yard:Ca P w K mg base "_law_yard" ["_law_script","_law_k","_law_most"] 3 3 G.fn__law_yard) (C_broadest:Ca P w K mg base "broadest" ["yard"] 17 1 GT.fn_broadest) (C_floors:Ca P w K mg base "floors" ["yard"] 7 1 GF.fn_floors) (C_heads:Ca P w K mg base "heads" ["yard"] 6 1 GH.fn_heads) (C_lines:Ca P w K mg base "lines" ["yard"] 7 1 GH.fn_lines) (C_turned:Ca P w K mg base "turned" ["yard"] 2 1 G13.fn_turned) (C_weight:Ca P w K mg base "weight" ["yard","one","other"] 7 3 GW.fn_weight):vO P w K mg base CX0 18 fa fd ["_law_script"] (spD K 1 G13.fn_law):=KD (k:=17) (N:=["_law_script","_law_yard_here","_law_count","_law_pairs","_law_other","_law_left","_law_a","_law_b"]) (g:=G13.g_law) F ⟨rfl,rfl,rfl,by decide +kernel,rfl,by decide +kernel,by decide +kernel⟩ rfl fun _ _ _ _ _ _ hr hu hu1 nd =>
 (bJ (eK (i:=1) nd (bO C__law_yard (hr.mono (by decide)) rfl (au (aD 0) (au dc (au dc aQ))) (aT (aT (aT cj)))))
   (bJ (Fq (aD 1) (pI rfl (ic (cm (i:=2) nd) (ic (cm (i:=3) nd) oZ))))
   (bJ (eK (i:=4) nd (bO C_turned (hr.mono (by decide)) rfl (au (aD 1) aQ) (aT cj)))
   (bJ (lv (GS (EG (ki (Eu hu) (aD 4) (iR (au (aD 2) (au (gW rfl Z.tuple (au (m7 (hr.mono (by decide)) rfl Z.sorted (au (gw rfl (gJ (ix:=[none,none,none]) rfl (by decide +kernel) rfl rfl) (fE (gG (aD 3))) ⟨fun _ _ _=>(pI rfl (ic (cm (i:=1) (cnd (by decide +kernel))) (ic (cm (i:=2) (cnd (by decide +kernel))) oZ))),fun _ _ _=>iF,fun _ _ _=>(iR (au (aD 2) (au (aD 1) aQ)))⟩) aQ)) aQ)) aQ)))) (BE (ki (Eu hu) (bO C_turned (hr.mono (by decide)) rfl (au (aD 4) aQ) (aT cj)) (aD 1))))) (bZ (cC tu)) jj)
   (bJ (lv (GS (EG (ki (Eu hu) (nN rfl Z.len (au (bO C_floors (hr.mono (by decide)) rfl (au (aD 4) aQ) (aT cj)) aQ)) (nN rfl Z.len (au (bO C_floors (hr.mono (by decide)) rfl (au (aD 1) aQ) (aT cj)) aQ))) (BE (ki (Eu hu) (nN rfl Z.len (au (bO C_broadest (hr.mono (by decide)) rfl (au (aD 4) aQ) (aT cj)) aQ)) (nN rfl Z.len (au (bO C_broadest (hr.mono (by decide)) rfl (au (aD 1) aQ) (aT cj)) aQ)))))) (bZ (cC tu)) jj)
   (bJ (lv (ki (Eu hu) (bO C_lines (hr.mono (by decide)) rfl (au (aD 4) aQ) (aT cj)) (bO C_lines (hr.mono (by decide)) rfl (au (aD 1) aQ) (aT cj))) (bZ (cC tu)) jj)
   (bJ (DD (i:=5) nd rfl (gJ (ix:=[none,none,none,none,some 2]) rfl (by decide +kernel) rfl rfl) (fE (gG (bO C_heads (hr.mono (by decide)) rfl (au (aD 1) aQ) (aT cj)))) ⟨fun _ _ _=>(cm (i:=1) (cnd (by decide +kernel))),fun _ _ _=>iF,fun _ _ _=>(gW rfl Z.tuple (au (gw rfl (gJ (ix:=[none,none,some 1]) rfl (by decide +kernel) rfl rfl) (gi rfl Z.range (au (aD 4) aQ)) ⟨fun _ _ _=>(cm (i:=1) (cnd (by decide +kernel))),fun _ _ _=>(po (ki (Jg hu) (aD 1) (aD 2))),fun _ _ _=>(aD 1)⟩) aQ))⟩)
   (bJ (lv (ki (Eu hu) (m7 (hr.mono (by decide)) rfl Z.sorted (au (aD 5) aQ)) (m7 (hr.mono (by decide)) rfl Z.sorted (au (bO C_heads (hr.mono (by decide)) rfl (au (aD 4) aQ) (aT cj)) aQ))) (bZ (cC tu)) jj)
   (bJ (iE bM rfl (gi rfl Z.range (au (aD 2) aQ)) (cm (i:=6) nd)
   (bZ (iE bM rfl (gi rfl Z.range (au (aD 2) aQ)) (cm (i:=7) nd)
   (bZ (lv (ki (Eu hu) (bO C_weight (hr.mono (by decide)) rfl (au (aD 4) (au (aD 6) (au (aD 7) aQ))) (aT (aT (aT cj)))) (bO C_weight (hr.mono (by decide)) rfl (au (aD 1) (au (aD 7) (au (aD 6) aQ))) (aT (aT (aT cj))))) (bZ (cC tu)) jj)))))
   (bZ (cC tu)))))))))))
end
end C
namespace G13
open PySem L2 Ry G G3 GW GH GF GT GE
def tn (L:List PI):List PI:=Ms.srt Ms.ltP (L.map sw)
theorem Ll {L:List PI} (h:L.Nodup):(L.map sw).Nodup:=bB.mpr (h.imp fun {a b} ne e=>ne (by
 have h1:=congrArg wf e
 have h2:=congrArg wg e
 exact jT h2 h1))
theorem iW {L:List PI} {a b:Int}:(a,b)∈tn L↔(b,a)∈L:=by
 unfold tn
 rw [(Ms.srt_perm _).mem_iff,EI]
theorem Kk (L:List PI):(tn L).length=L.length:=by
 unfold tn
 rw [(Ms.srt_perm _).length_eq,ab]
theorem BG {n:Int} {L:List PI} (Y:Yd n L):Yd n (tn L) where
 srt:=Ms.srt_strict Ms.linP (Ll Y.nd)
 rg:=fun p hp=>by
  have:=Y.rg _ (iW.mp (show (p.1,p.2)∈tn L from hp))
  exact ⟨this.2,this.1⟩
 irr:=fun a h=>Y.irr a (iW.mp h)
 tr:=fun a b c h1 h2=>iW.mpr (Y.tr _ _ _ (iW.mp h2) (iW.mp h1))
theorem Ja {n:Int} {L:List PI} (Y:Yd n L):tn (tn L)=L:=Ms.strict_ext Ms.linP (BG (BG Y)).srt Y.srt fun p=>by
 rw [show p=(p.1,p.2) from rfl,iW,iW]
theorem xW {m:Int} {S:List PI} (h:S.length<64):fn_yard_of [.int m,.lst (S.map dP)]=some (dY m (Ms.srt Ms.ltP S)):=by
 have hso:eX [(Kd.pu,Da.lst (S.map dP))]=some (.fr,.lst ((Ms.srt Ms.ltP S).map dP)):=by
  unfold eX
  dsimp only
  rw [vG h]
 refine mf (ρ:=[.pu (.int m),.pu (.lst (S.map dP))]) rfl ?_
 simp [g_yard_of,hso,dY]
theorem y9 {ρ:Rho} {L:List PI} {fi:Rho->Option (List Da)} (h:fi ρ=some (L.map dP)) (hl:L.length<=1000):fy [none,none,none] fi (tgT 2 (d4 (tgN 1) (d4 (tgN 2) jO))) (fun _=>some true) (kX (aJ (aW 2) (aJ (aW 1) cc))) ρ=some (.fr,.lst ((L.map sw).map dP)):=by
 have hc:=oH (enc:=dP) (xs:=L) (ix:=[none,none,none]) (fi:=fi) (i:=1) (j:=2) (c:=fun _=>some true) (f:=kX (aJ (aW 2) (aJ (aW 1) cc))) (ρ:=ρ) (p:=fun _=>true) (e:=fun p=>dP (sw p)) (a:=fun p=>.int p.1) (b:=fun p=>.int p.2)
  h (by lia) (fun p _=>⟨rfl,fun _=>⟨(.pu,dP (sw p)),rfl,rfl,rfl⟩⟩) (by decide) fun _=>rfl
 rw [eF] at hc
 rw [hc,aC]
 rfl
theorem tP {n:Int} {L:List PI} (hl:L.length<64):fn_turned [dY n L]=some (dY n (tn L)):=by
 refine mf (ρ:=[.pu (dY n L)]) rfl ?_
 have hc:=y9 (ρ:=[.pu (dY n L)]) (L:=L) (fi:=cF (iG (x2 oIt (aW 0) (xC (.int 1))))) (by simp [dY]) (by lia)
 unfold g_turned
 have ha:aJ (x2 oIt (aW 0) (xC (.int 0))) (aJ (fy [none,none,none] (cF (iG (x2 oIt (aW 0) (xC (.int 1))))) (tgT 2 (d4 (tgN 1) (d4 (tgN 2) jO))) (fun _=>some true) (kX (aJ (aW 2) (aJ (aW 1) cc)))) cc) [.pu (dY n L)]=some [(.pu,.int n),(.fr,.lst ((L.map sw).map dP))]:=by
  rw [cq,show x2 oIt (aW 0) (xC (.int 0)) [.pu (dY n L)]=some (.pu,.int n) from rfl]
  dsimp only
  rw [cq,hc,dL]
 rw [hZ,cR (ds:=[.int n,.lst ((L.map sw).map dP)]) ha rfl (xW (by rw [ab];exact hl))]
 rfl
theorem zd {n:Int} {L:List PI} (Y:Yd n L) (H:List Int):Cs (tn L) (rgI 0 n.toNat) H↔∃ K,Cs L (rgI 0 n.toNat) K/\H=(rgI 0 n.toNat).filter fun x=>!decide (x∈K):=by
 have key:∀ {L:List PI},Yd n L->∀ {K:List Int},Cs L (rgI 0 n.toNat) K->Cs (tn L) (rgI 0 n.toNat) ((rgI 0 n.toNat).filter fun x=>!decide (x∈K)):=fun {L} Y {K} h=>by
  refine ⟨(jp _ _).sublist bQ,fun x hx=>(aI.mp hx).1,fun x hx a ha=>?_⟩
  obtain ⟨h1,h2⟩:=aI.mp hx
  have ha:=iW.mp ha
  have hr:=(Y.rg _ ha).2
  dsimp only at hr
  refine aI.mpr ⟨fq.mpr (by lia),?_⟩
  have h2:x∉K:=by simpa using h2
  have:a∉K:=fun w=>h2 (h.cl a w x ha)
  simpa using this
 constructor
 ·intro h
  have:=key (BG Y) h
  rw [Ja Y] at this
  refine ⟨_,this,Ms.strict_ext Ms.linI h.ris ((jp _ _).sublist bQ) fun x=>?_⟩
  rw [aI]
  constructor
  ·intro hx
   refine ⟨h.sub x hx,?_⟩
   have:x∉(rgI 0 n.toNat).filter fun x=>!decide (x∈H):=fun w=>by
    have:=(aI.mp w).2
    simp [hx] at this
   rw [Bool.not_eq_true',decide_eq_false_iff_not]
   exact this
  ·rintro ⟨h1,h2⟩
   by_cases hx:x∈H
   ·exact hx
   ·have:x∈(rgI 0 n.toNat).filter fun x=>!decide (x∈H):=aI.mpr ⟨h1,by simpa using hx⟩
    simp [this] at h2
 ·rintro ⟨K,hK,rfl⟩
  exact key Y hK
theorem vB {n:Int} {L:List PI} (Y:Yd n L) {w v:Int->Int->Int} (T:Tri n L w) (r:∀ a b,(a,b)∈L->w a b = -(sm (dt (low L) b) (w a))) (T':Tri n (tn L) v) (r':∀ a b,(a,b)∈tn L->v a b = -(sm (dt (low (tn L)) b) (v a))) {a b:Int} (ha:a∈rgI 0 n.toNat) (hb:b∈rgI 0 n.toNat):v a b=w b a:=by
 have zz:∀ s t,zt (tn L) s t=zt L t s:=fun s t=>by
  unfold zt
  by_cases h:s=t\/(s,t)∈tn L
  ·rw [if_pos h,if_pos (h.imp Eq.symm iW.mp)]
  ·rw [if_neg h,if_neg (fun z=>h (z.imp Eq.symm iW.mpr))]
 refine (He (fz _ _) (z:=zt L) (w:=w) (v:=fun x y=>v y x) (wz Y T r) (fun a ha b hb=>?_) hb ha).symm
 have:=wz (BG Y) T' r' b hb a ha
 rw [show dl a b=dl b a by unfold dl;by_cases h:a=b;rw [if_pos h,if_pos h.symm];rw [if_neg h,if_neg (Ne.symm h)],<- this]
 exact dF fun s _=>by rw [zz,u3]
theorem law_eq (S:List Int):fn_law [.lst (S.map Da.int)]=some (.bl true):=by
 obtain ⟨n,L,hY,h1,h5,Y⟩:=FM S 0 5 (by decide) (by decide) (by decide)
 have hl:=JH Y (by lia)
 have Y':=BG Y
 have hl':(tn L).length<=49:=by rw [Kk];exact hl
 obtain ⟨C,m,_,_,f1,t1⟩:=A7 Y (by lia) (by lia) (by lia)
 obtain ⟨C',m',_,_,f2,t2⟩:=A7 Y' (by lia) (by lia) (by lia)
 have em:m'=m:=kO (t2.le t1 (f:=List.reverse) fun T h1 h2=>⟨u7.mpr (h1.imp fun {a b} z=>iW.mp z),fun x hx=>h2 x (BV.mp hx),xT⟩)
  (t1.le t2 (f:=List.reverse) fun T h1 h2=>⟨u7.mpr (h1.imp fun {a b} z=>iW.mpr z),fun x hx=>h2 x (BV.mp hx),xT⟩)
 obtain ⟨B,b1,w1⟩:=AY Y (by lia) (by lia) (by lia)
 obtain ⟨B',b2,w2⟩:=AY Y' (by lia) (by lia) (by lia)
 have eb:B'.length=B.length:=kO (w2.le w1 (f:=id) fun Z z1 z2 z3=>⟨z1,z2,fun x hx y hy w=>z3 y hy x hx (iW.mpr w),rfl⟩)
  (w1.le w2 (f:=id) fun Z z1 z2 z3=>⟨z1,z2,fun x hx y hy w=>z3 y hy x hx (iW.mp w),rfl⟩)
 have l1:=wl Y (by lia) (by lia) (by lia)
 have l2:=wl Y' (by lia) (by lia) (by lia)
 have er:rl (tn L)=fun a b=>rl L b a:=funext fun a=>funext fun b=>by
  unfold rl
  rw [decide_eq_decide]
  exact iW
 rw [er,<- LN (r:=rl L) (fun a=>decide_eq_false (Y.irr a)) n.toNat _ (fz _ _) (e6 _ _)] at l2
 obtain ⟨hs,eh,n1,n2,_,n4⟩:=rJ Y (by lia) (by lia) (by lia)
 obtain ⟨hs',eh',n1',n2',_,n4'⟩:=rJ Y' (by lia) (by lia) (by lia)
 obtain ⟨w,ew,wt,wr⟩:=tJ Y (by lia) (by lia) (by lia)
 obtain ⟨w',ew',wt',wr'⟩:=tJ Y' (by lia) (by lia) (by lia)
 refine tp ?_
 unfold g_law
 have e0:fm 8 [.lst (S.map Da.int)]=[.pu (.lst (S.map Da.int)),.no,.no,.no,.no,.no,.no,.no]:=rfl
 rw [e0]
 refine cS (d9 (ρ':=[.pu (.lst (S.map Da.int)),.pu (dY n L),.no,.no,.no,.no,.no,.no]) (by rw [iS,cR (ds:=[.lst (S.map Da.int),.int 0,.int 5]) rfl rfl hY];rfl) ?_)
 refine cS (d9 (ρ':=[.pu (.lst (S.map Da.int)),.pu (dY n L),.pu (.int n),.pu (.tup (L.map dP)),.no,.no,.no,.no]) rfl ?_)
 refine cS (d9 (ρ':=[.pu (.lst (S.map Da.int)),.pu (dY n L),.pu (.int n),.pu (.tup (L.map dP)),.pu (dY n (tn L)),.no,.no,.no]) (by rw [iS,cR (ds:=[dY n L]) rfl rfl (tP (by lia))];rfl) ?_)
 refine cS (rH (b:=false) ?_ (fun q=>absurd q aO) fun _=>d9 rfl ?_)
 ·have hc:=y9 (ρ:=[.pu (.lst (S.map Da.int)),.pu (dY n L),.pu (.int n),.pu (.tup (L.map dP)),.pu (dY n (tn L)),.no,.no,.no]) (L:=L) (fi:=cF (iG (aW 3))) rfl (by lia)
  have hs1:xB fH (aJ (fy [none,none,none] (cF (iG (aW 3))) (tgT 2 (d4 (tgN 1) (d4 (tgN 2) jO))) (fun _=>some true) (kX (aJ (aW 2) (aJ (aW 1) cc)))) cc) [.pu (.lst (S.map Da.int)),.pu (dY n L),.pu (.int n),.pu (.tup (L.map dP)),.pu (dY n (tn L)),.no,.no,.no]=some (.fr,.lst ((tn L).map dP)):=by
   rw [sQ,cq,hc,dL]
   dsimp only
   unfold fH
   dsimp only
   rw [IH (.inl (by rw [ab];lia))]
   rfl
  have hs2:kX (aJ (aW 2) (aJ (xB gv (aJ (xB fH (aJ (fy [none,none,none] (cF (iG (aW 3))) (tgT 2 (d4 (tgN 1) (d4 (tgN 2) jO))) (fun _=>some true) (kX (aJ (aW 2) (aJ (aW 1) cc)))) cc)) cc)) cc)) [.pu (.lst (S.map Da.int)),.pu (dY n L),.pu (.int n),.pu (.tup (L.map dP)),.pu (dY n (tn L)),.no,.no,.no]=some (.pu,dY n (tn L)):=by
   have:xB gv (aJ (xB fH (aJ (fy [none,none,none] (cF (iG (aW 3))) (tgT 2 (d4 (tgN 1) (d4 (tgN 2) jO))) (fun _=>some true) (kX (aJ (aW 2) (aJ (aW 1) cc)))) cc)) cc) [.pu (.lst (S.map Da.int)),.pu (dY n L),.pu (.int n),.pu (.tup (L.map dP)),.pu (dY n (tn L)),.no,.no,.no]=some (.pu,.tup ((tn L).map dP)):=by
    rw [sQ,cq,hs1,dL]
    rfl
   rw [xy,cq,show aW 2 [.pu (.lst (S.map Da.int)),.pu (dY n L),.pu (.int n),.pu (.tup (L.map dP)),.pu (dY n (tn L)),.no,.no,.no]=some (.pu,.int n) from rfl]
   dsimp only
   rw [cq,this,dL]
   rfl
  have q1:tb (x2 (oEq true) (aW 4) (kX (aJ (aW 2) (aJ (xB gv (aJ (xB fH (aJ (fy [none,none,none] (cF (iG (aW 3))) (tgT 2 (d4 (tgN 1) (d4 (tgN 2) jO))) (fun _=>some true) (kX (aJ (aW 2) (aJ (aW 1) cc)))) cc)) cc)) cc)))) [.pu (.lst (S.map Da.int)),.pu (dY n L),.pu (.int n),.pu (.tup (L.map dP)),.pu (dY n (tn L)),.no,.no,.no]=some false:=by
   rw [De,sO,hs2,show aW 4 [.pu (.lst (S.map Da.int)),.pu (dY n L),.pu (.int n),.pu (.tup (L.map dP)),.pu (dY n (tn L)),.no,.no,.no]=some (.pu,dY n (tn L)) from rfl]
   dsimp only
   rw [Jb,decide_eq_true ⟨rfl,rfl⟩]
   rfl
  rw [Ee,q1]
  dsimp only
  rw [De,sO,cR (ds:=[dY n (tn L)]) rfl rfl (tP (by lia)),show aW 1 [.pu (.lst (S.map Da.int)),.pu (dY n L),.pu (.int n),.pu (.tup (L.map dP)),.pu (dY n (tn L)),.no,.no,.no]=some (.pu,dY n L) from rfl,Ja Y]
  dsimp only
  rw [Jb,decide_eq_true ⟨rfl,rfl⟩]
  rfl
 refine cS (rH (b:=false) ?_ (fun q=>absurd q aO) fun _=>d9 rfl ?_)
 ·have c1:=wq (f:=cJ fn_floors (aJ (aW 1) cc)) (ρ:=[.pu (.lst (S.map Da.int)),.pu (dY n L),.pu (.int n),.pu (.tup (L.map dP)),.pu (dY n (tn L)),.no,.no,.no]) (cR (ds:=[dY n L]) rfl rfl f1)
  have c2:=wq (f:=cJ fn_floors (aJ (aW 4) cc)) (ρ:=[.pu (.lst (S.map Da.int)),.pu (dY n L),.pu (.int n),.pu (.tup (L.map dP)),.pu (dY n (tn L)),.no,.no,.no]) (cR (ds:=[dY n (tn L)]) rfl rfl f2)
  have c3:=wq (f:=cJ fn_broadest (aJ (aW 1) cc)) (ρ:=[.pu (.lst (S.map Da.int)),.pu (dY n L),.pu (.int n),.pu (.tup (L.map dP)),.pu (dY n (tn L)),.no,.no,.no]) (cR (ds:=[dY n L]) rfl rfl b1)
  have c4:=wq (f:=cJ fn_broadest (aJ (aW 4) cc)) (ρ:=[.pu (.lst (S.map Da.int)),.pu (dY n L),.pu (.int n),.pu (.tup (L.map dP)),.pu (dY n (tn L)),.no,.no,.no]) (cR (ds:=[dY n (tn L)]) rfl rfl b2)
  rw [ab,vw] at c1 c2
  rw [ab] at c3 c4
  rw [em] at c2
  rw [eb] at c4
  rw [Ee,DL c2 c1]
  exact DL c4 c3
 refine cS (rH (b:=false) (DL (cR (ds:=[dY n (tn L)]) rfl rfl l2) (cR (ds:=[dY n L]) rfl rfl l1)) (fun q=>absurd q aO) fun _=>d9 rfl ?_)
 have hc:=eu (enc:=dT) (xs:=hs) (ix:=[none,none,none,none,some 2]) (fi:=cF (iG (cJ fn_heads (aJ (aW 1) cc)))) (i:=1) (c:=fun _=>some true) (f:=xB gv (aJ (fy [none,none,some 1] (mn (aJ (aW 4) cc)) (tgN 1) (tb (x2 (oIn true) (aW 1) (aW 2))) (aW 1)) cc)) (ρ:=[.pu (.lst (S.map Da.int)),.pu (dY n L),.pu (.int n),.pu (.tup (L.map dP)),.pu (dY n (tn L)),.no,.no,.no]) (p:=fun _=>true) (e:=fun H=>dT ((rgI 0 n.toNat).filter fun x=>!decide (x∈H)))
  (by rw [lc,pg,cR (ds:=[dY n L]) rfl rfl eh]) (by lia) fun H hH=>⟨rfl,fun _=>⟨(.pu,dT ((rgI 0 n.toNat).filter fun x=>!decide (x∈H))),by
    have em:(mpR [none,none,none,none,some 2] [.pu (.lst (S.map Da.int)),.pu (dY n L),.pu (.int n),.pu (.tup (L.map dP)),.pu (dY n (tn L)),.no,.no,.no]).set 1 (.pu (dT H))=[.no,.pu (dT H),.no,.no,.pu (.int n)]:=rfl
    rw [em]
    have hi:=eu (enc:=Da.int) (xs:=rgI 0 n.toNat) (ix:=[none,none,some 1]) (fi:=mn (aJ (aW 4) cc)) (i:=1) (c:=tb (x2 (oIn true) (aW 1) (aW 2))) (f:=aW 1) (ρ:=[.no,.pu (dT H),.no,.no,.pu (.int n)]) (p:=fun x=>!decide (x∈H)) (e:=Da.int)
     (by
       show (if -(2 ^ 62)<=n/\n<2 ^ 62 then some (fg 0 n.toNat) else none)=_
       rw [if_pos (by lia),eQ]) (by rw [e6];lia) fun x hx=>⟨by
       have em2:(mpR [none,none,some 1] [.no,.pu (dT H),.no,.no,.pu (.int n)]).set 1 (.pu (.int x))=[.no,.pu (.int x),.pu (dT H)]:=rfl
       rw [em2,De,sO,show aW 1 [.no,.pu (.int x),.pu (dT H)]=some (.pu,.int x) from rfl,show aW 2 [.no,.pu (.int x),.pu (dT H)]=some (.pu,.tup (H.map Da.int)) from rfl]
       dsimp only
       rw [Jx]
       rfl,fun _=>⟨(.pu,.int x),rfl,rfl,rfl⟩⟩
    rw [sQ,cq,hi,dL]
    rfl,rfl,rfl⟩⟩
 rw [eF] at hc
 have ec:(hs.map fun H=>dT ((rgI 0 n.toNat).filter fun x=>!decide (x∈H)))=(hs.map fun H=>(rgI 0 n.toNat).filter fun x=>!decide (x∈H)).map dT:=by rw [aC];rfl
 rw [ec] at hc
 have hin:∀ H∈hs,∀ K∈hs,((rgI 0 n.toNat).filter fun x=>!decide (x∈H))=((rgI 0 n.toNat).filter fun x=>!decide (x∈K))->H=K:=fun H hH K hK e=>by
  refine Ms.strict_ext Ms.linI ((n2 H).mp hH).ris ((n2 K).mp hK).ris fun x=>?_
  have sub:∀ {A B:List Int},(∀ x∈A,x∈rgI 0 n.toNat)->((rgI 0 n.toNat).filter fun x=>!decide (x∈A))=((rgI 0 n.toNat).filter fun x=>!decide (x∈B))->x∈A->x∈B:=fun {A B} hA e hx=>by
   by_cases hb:x∈B
   ·exact hb
   ·have:x∈(rgI 0 n.toNat).filter fun x=>!decide (x∈B):=aI.mpr ⟨hA x hx,by simpa using hb⟩
    rw [<- e] at this
    have:=(aI.mp this).2
    simp [hx] at this
  exact ⟨sub ((n2 H).mp hH).sub e,sub ((n2 K).mp hK).sub e.symm⟩
 have ndl:(hs.map fun H=>(rgI 0 n.toNat).filter fun x=>!decide (x∈H)).Nodup:=bB.mpr (n1.imp_of_mem fun {a b} ha hb ne e=>ne (hin a ha b hb e))
 have es:Ms.srt HT.lexLt (hs.map fun H=>(rgI 0 n.toNat).filter fun x=>!decide (x∈H))=Ms.srt HT.lexLt hs':=Hm ndl n1' fun t=>by
  rw [n2',zd Y,aK]
  exact ⟨fun ⟨K,hK,e⟩=>⟨K,(n2 K).mp hK,e.symm⟩,fun ⟨K,hK,e⟩=>⟨K,(n2 K).mpr hK,e.symm⟩⟩
 have o1:OkN (hs.map fun H=>(rgI 0 n.toNat).filter fun x=>!decide (x∈H)):=.inr ⟨by rw [ab];lia,ndl⟩
 have o2:OkN hs':=.inr ⟨by lia,n1'⟩
 generalize (hs.map fun H=>(rgI 0 n.toNat).filter fun x=>!decide (x∈H))=LF at hc es o1
 refine cS (d9 (ρ':=[.pu (.lst (S.map Da.int)),.pu (dY n L),.pu (.int n),.pu (.tup (L.map dP)),.pu (dY n (tn L)),.pu (.lst (LF.map dT)),.no,.no]) (by rw [iS,hc];rfl) ?_)
 refine cS (rH (b:=false) ?_ (fun q=>absurd q aO) fun _=>d9 rfl ?_)
 ·have q1:xB fH (aJ (aW 5) cc) [.pu (.lst (S.map Da.int)),.pu (dY n L),.pu (.int n),.pu (.tup (L.map dP)),.pu (dY n (tn L)),.pu (.lst (LF.map dT)),.no,.no]=some (.fr,.lst ((Ms.srt HT.lexLt hs').map dT)):=by
   show (match B0 (LF.map dT) with | some es=>some ((.fr:Kd),Da.lst es) | none=>none)=_
   rw [EC o1,es]
  have q2:xB fH (aJ (cJ fn_heads (aJ (aW 4) cc)) cc) [.pu (.lst (S.map Da.int)),.pu (dY n L),.pu (.int n),.pu (.tup (L.map dP)),.pu (dY n (tn L)),.pu (.lst (LF.map dT)),.no,.no]=some (.fr,.lst ((Ms.srt HT.lexLt hs').map dT)):=by
   rw [sQ,cq,cR (ds:=[dY n (tn L)]) rfl rfl eh',dL]
   show (match B0 (hs'.map dT) with | some es=>some ((.fr:Kd),Da.lst es) | none=>none)=_
   rw [EC o2]
  rw [De,sO,q1,q2]
  dsimp only
  rw [Es,decide_eq_true rfl]
  rfl
 refine cS ?_
 have rng:∀ s6 s7,mn (aJ (aW 2) cc) [.pu (.lst (S.map Da.int)),.pu (dY n L),.pu (.int n),.pu (.tup (L.map dP)),.pu (dY n (tn L)),.pu (.lst (LF.map dT)),s6,s7]=some ((rgI 0 n.toNat).map Da.int):=fun s6 s7=>by
  show (if -(2 ^ 62)<=n/\n<2 ^ 62 then some (fg 0 n.toNat) else none)=_
  rw [if_pos (by lia),eQ]
 refine j8 (enc:=Da.int) (xs:=rgI 0 n.toNat) (fun _ ρ=>∃ s6 s7,ρ=[.pu (.lst (S.map Da.int)),.pu (dY n L),.pu (.int n),.pu (.tup (L.map dP)),.pu (dY n (tn L)),.pu (.lst (LF.map dT)),s6,s7]) (rng _ _) ⟨_,_,rfl⟩ ?_ ?_
 ·rintro pre a post ρ e ⟨s6,s7,rfl⟩
  have ha:a∈rgI 0 n.toNat:=by rw [e];simp
  refine ⟨[.pu (.lst (S.map Da.int)),.pu (dY n L),.pu (.int n),.pu (.tup (L.map dP)),.pu (dY n (tn L)),.pu (.lst (LF.map dT)),.pu (.int a),s7],rfl,?_⟩
  refine j8 (enc:=Da.int) (xs:=rgI 0 n.toNat) (fun _ ρ=>∃ s7,ρ=[.pu (.lst (S.map Da.int)),.pu (dY n L),.pu (.int n),.pu (.tup (L.map dP)),.pu (dY n (tn L)),.pu (.lst (LF.map dT)),.pu (.int a),s7]) (rng _ _) ⟨_,rfl⟩ ?_ ?_
  ·rintro pre' b post' ρ e' ⟨s7,rfl⟩
   have hb:b∈rgI 0 n.toNat:=by rw [e'];simp
   refine ⟨[.pu (.lst (S.map Da.int)),.pu (dY n L),.pu (.int n),.pu (.tup (L.map dP)),.pu (dY n (tn L)),.pu (.lst (LF.map dT)),.pu (.int a),.pu (.int b)],rfl,?_⟩
   refine rH (b:=false) ?_ (fun q=>absurd q aO) fun _=>d9 rfl ⟨_,rfl⟩
   have q2:=ew' a b
   rw [vB Y wt wr wt' wr' ha hb] at q2
   exact DL (cR (ds:=[dY n (tn L),.int a,.int b]) rfl rfl q2) (cR (ds:=[dY n L,.int b,.int a]) rfl rfl (ew b a))
  ·rintro ρ ⟨s7,rfl⟩
   exact ⟨_,_,rfl⟩
 ·rintro ρ ⟨s6,s7,rfl⟩
  exact oe (d:=.bl true) rfl rfl
end G13
namespace C
open PySem PySem.Spec PyProof.Rows L2 Ry
theorem all_mk {P:bA} {w:cb} {K:ac} {h:cr} {mg:bH->Option ae} {fa:ak} (X:K.In h) (Gm:h.Ns aR mg) (hfa:mg "law" = some (.ref fa))
 {f0:ak} {od0 an0:Option ak} {sl0:Array (Option ae)} {oc0 kV0 dc0 pm0 cd0 ct0:ae}
 {f1:ak} {od1 an1:Option ak} {sl1:Array (Option ae)} {oc1 kV1 dc1 pm1 cd1 ct1:ae}
 {f2:ak} {od2 an2:Option ak} {sl2:Array (Option ae)} {oc2 kV2 dc2 pm2 cd2 ct2:ae}
 {f3:ak} {od3 an3:Option ak} {sl3:Array (Option ae)} {oc3 kV3 dc3 pm3 cd3 ct3:ae}
 {f4:ak} {od4 an4:Option ak} {sl4:Array (Option ae)} {oc4 kV4 dc4 pm4 cd4 ct4:ae}
 {f5:ak} {od5 an5:Option ak} {sl5:Array (Option ae)} {oc5 kV5 dc5 pm5 cd5 ct5:ae}
 {f6:ak} {od6 an6:Option ak} {sl6:Array (Option ae)} {oc6 kV6 dc6 pm6 cd6 ct6:ae}
 {f7:ak} {od7 an7:Option ak} {sl7:Array (Option ae)} {oc7 kV7 dc7 pm7 cd7 ct7:ae}
 {f8:ak} {od8 an8:Option ak} {sl8:Array (Option ae)} {oc8 kV8 dc8 pm8 cd8 ct8:ae}
 {f9:ak} {od9 an9:Option ak} {sl9:Array (Option ae)} {oc9 kV9 dc9 pm9 cd9 ct9:ae}
 {f10:ak} {od10 an10:Option ak} {sl10:Array (Option ae)} {oc10 kV10 dc10 pm10 cd10 ct10:ae}
 {f11:ak} {od11 an11:Option ak} {sl11:Array (Option ae)} {oc11 kV11 dc11 pm11 cd11 ct11:ae}
 {f12:ak} {od12 an12:Option ak} {sl12:Array (Option ae)} {oc12 kV12 dc12 pm12 cd12 ct12:ae}
 {f13:ak} {od13 an13:Option ak} {sl13:Array (Option ae)} {oc13 kV13 dc13 pm13 cd13 ct13:ae}
 {f14:ak} {od14 an14:Option ak} {sl14:Array (Option ae)} {oc14 kV14 dc14 pm14 cd14 ct14:ae}
 {f15:ak} {od15 an15:Option ak} {sl15:Array (Option ae)} {oc15 kV15 dc15 pm15 cd15 ct15:ae}
 {f16:ak} {od16 an16:Option ak} {sl16:Array (Option ae)} {oc16 kV16 dc16 pm16 cd16 ct16:ae}
 {f17:ak} {od17 an17:Option ak} {sl17:Array (Option ae)} {oc17 kV17 dc17 pm17 cd17 ct17:ae}
 {f18:ak} {od18 an18:Option ak} {sl18:Array (Option ae)} {oc18 kV18 dc18 pm18 cd18 ct18:ae}
 {f19:ak} {od19 an19:Option ak} {sl19:Array (Option ae)} {oc19 kV19 dc19 pm19 cd19 ct19:ae}
 {f20:ak} {od20 an20:Option ak} {sl20:Array (Option ae)} {oc20 kV20 dc20 pm20 cd20 ct20:ae}
 {f21:ak} {od21 an21:Option ak} {sl21:Array (Option ae)} {oc21 kV21 dc21 pm21 cd21 ct21:ae}
 {f22:ak} {od22 an22:Option ak} {sl22:Array (Option ae)} {oc22 kV22 dc22 pm22 cd22 ct22:ae}
 {f23:ak} {od23 an23:Option ak} {sl23:Array (Option ae)} {oc23 kV23 dc23 pm23 cd23 ct23:ae}
 {f24:ak} {od24 an24:Option ak} {sl24:Array (Option ae)} {oc24 kV24 dc24 pm24 cd24 ct24:ae}
 {f25:ak} {od25 an25:Option ak} {sl25:Array (Option ae)} {oc25 kV25 dc25 pm25 cd25 ct25:ae}
 {f26:ak} {od26 an26:Option ak} {sl26:Array (Option ae)} {oc26 kV26 dc26 pm26 cd26 ct26:ae}
 (a0:bg K aR "yard_of" = some (some (.ref f0))) (l0:K.lookup f0=some ⟨oc0,od0,.func (bc "yard_of" "yard_of" (cD kx) (cg kx) (bh kx) .none kV0 dc0 pm0 an0 cd0 ct0),sl0⟩) (c0:bj K cd0 "yard_of" = true) (k0:bb K (.ref f0)=true)
 (a1:bg K aR "turned" = some (some (.ref f1))) (l1:K.lookup f1=some ⟨oc1,od1,.func (bc "turned" "turned" (cD mF) (cg mF) (bh mF) .none kV1 dc1 pm1 an1 cd1 ct1),sl1⟩) (c1:bj K cd1 "turned" = true) (k1:bb K (.ref f1)=true)
 (a2:bg K aR "uppers_of" = some (some (.ref f2))) (l2:K.lookup f2=some ⟨oc2,od2,.func (bc "uppers_of" "uppers_of" (cD hV) (cg hV) (bh hV) .none kV2 dc2 pm2 an2 cd2 ct2),sl2⟩) (c2:bj K cd2 "uppers_of" = true) (k2:bb K (.ref f2)=true)
 (a3:bg K aR "lowers_of" = some (some (.ref f3))) (l3:K.lookup f3=some ⟨oc3,od3,.func (bc "lowers_of" "lowers_of" (cD iY) (cg iY) (bh iY) .none kV3 dc3 pm3 an3 cd3 ct3),sl3⟩) (c3:bj K cd3 "lowers_of" = true) (k3:bb K (.ref f3)=true)
 (a4:bg K aR "upwards" = some (some (.ref f4))) (l4:K.lookup f4=some ⟨oc4,od4,.func (bc "upwards" "upwards" (cD kJ) (cg kJ) (bh kJ) .none kV4 dc4 pm4 an4 cd4 ct4),sl4⟩) (c4:bj K cd4 "upwards" = true) (k4:bb K (.ref f4)=true)
 (a5:bg K aR "holds_all" = some (some (.ref f5))) (l5:K.lookup f5=some ⟨oc5,od5,.func (bc "holds_all" "holds_all" (cD iT) (cg iT) (bh iT) .none kV5 dc5 pm5 an5 cd5 ct5),sl5⟩) (c5:bj K cd5 "holds_all" = true) (k5:bb K (.ref f5)=true)
 (a6:bg K aR "heads" = some (some (.ref f6))) (l6:K.lookup f6=some ⟨oc6,od6,.func (bc "heads" "heads" (cD oE) (cg oE) (bh oE) .none kV6 dc6 pm6 an6 cd6 ct6),sl6⟩) (c6:bj K cd6 "heads" = true) (k6:bb K (.ref f6)=true)
 (a7:bg K aR "ways_up_to" = some (some (.ref f7))) (l7:K.lookup f7=some ⟨oc7,od7,.func (bc "ways_up_to" "ways_up_to" (cD il) (cg il) (bh il) .none kV7 dc7 pm7 an7 cd7 ct7),sl7⟩) (c7:bj K cd7 "ways_up_to" = true) (k7:bb K (.ref f7)=true)
 (a8:bg K aR "lines" = some (some (.ref f8))) (l8:K.lookup f8=some ⟨oc8,od8,.func (bc "lines" "lines" (cD pj) (cg pj) (bh pj) .none kV8 dc8 pm8 an8 cd8 ct8),sl8⟩) (c8:bj K cd8 "lines" = true) (k8:bb K (.ref f8)=true)
 (a9:bg K aR "heights_of" = some (some (.ref f9))) (l9:K.lookup f9=some ⟨oc9,od9,.func (bc "heights_of" "heights_of" (cD ik) (cg ik) (bh ik) .none kV9 dc9 pm9 an9 cd9 ct9),sl9⟩) (c9:bj K cd9 "heights_of" = true) (k9:bb K (.ref f9)=true)
 (a10:bg K aR "row_at" = some (some (.ref f10))) (l10:K.lookup f10=some ⟨oc10,od10,.func (bc "row_at" "row_at" (cD mm) (cg mm) (bh mm) .none kV10 dc10 pm10 an10 cd10 ct10),sl10⟩) (c10:bj K cd10 "row_at" = true) (k10:bb K (.ref f10)=true)
 (a11:bg K aR "floors" = some (some (.ref f11))) (l11:K.lookup f11=some ⟨oc11,od11,.func (bc "floors" "floors" (cD mr) (cg mr) (bh mr) .none kV11 dc11 pm11 an11 cd11 ct11),sl11⟩) (c11:bj K cd11 "floors" = true) (k11:bb K (.ref f11)=true)
 (a12:bg K aR "take_upper" = some (some (.ref f12))) (l12:K.lookup f12=some ⟨oc12,od12,.func (bc "take_upper" "take_upper" (cD fT) (cg fT) (bh fT) .none kV12 dc12 pm12 an12 cd12 ct12),sl12⟩) (c12:bj K cd12 "take_upper" = true) (k12:bb K (.ref f12)=true)
 (a13:bg K aR "steps_of" = some (some (.ref f13))) (l13:K.lookup f13=some ⟨oc13,od13,.func (bc "steps_of" "steps_of" (cD iM) (cg iM) (bh iM) .none kV13 dc13 pm13 an13 cd13 ct13),sl13⟩) (c13:bj K cd13 "steps_of" = true) (k13:bb K (.ref f13)=true)
 (a14:bg K aR "tower_from" = some (some (.ref f14))) (l14:K.lookup f14=some ⟨oc14,od14,.func (bc "tower_from" "tower_from" (cD ip) (cg ip) (bh ip) .none kV14 dc14 pm14 an14 cd14 ct14),sl14⟩) (c14:bj K cd14 "tower_from" = true) (k14:bb K (.ref f14)=true)
 (a15:bg K aR "towers" = some (some (.ref f15))) (l15:K.lookup f15=some ⟨oc15,od15,.func (bc "towers" "towers" (cD mC) (cg mC) (bh mC) .none kV15 dc15 pm15 an15 cd15 ct15),sl15⟩) (c15:bj K cd15 "towers" = true) (k15:bb K (.ref f15)=true)
 (a16:bg K aR "stands_on_any" = some (some (.ref f16))) (l16:K.lookup f16=some ⟨oc16,od16,.func (bc "stands_on_any" "stands_on_any" (cD fP) (cg fP) (bh fP) .none kV16 dc16 pm16 an16 cd16 ct16),sl16⟩) (c16:bj K cd16 "stands_on_any" = true) (k16:bb K (.ref f16)=true)
 (a17:bg K aR "without_overtopping" = some (some (.ref f17))) (l17:K.lookup f17=some ⟨oc17,od17,.func (bc "without_overtopping" "without_overtopping" (cD dH) (cg dH) (bh dH) .none kV17 dc17 pm17 an17 cd17 ct17),sl17⟩) (c17:bj K cd17 "without_overtopping" = true) (k17:bb K (.ref f17)=true)
 (a18:bg K aR "broadest" = some (some (.ref f18))) (l18:K.lookup f18=some ⟨oc18,od18,.func (bc "broadest" "broadest" (cD jw) (cg jw) (bh jw) .none kV18 dc18 pm18 an18 cd18 ct18),sl18⟩) (c18:bj K cd18 "broadest" = true) (k18:bb K (.ref f18)=true)
 (a19:bg K aR "weights_from" = some (some (.ref f19))) (l19:K.lookup f19=some ⟨oc19,od19,.func (bc "weights_from" "weights_from" (cD gF) (cg gF) (bh gF) .none kV19 dc19 pm19 an19 cd19 ct19),sl19⟩) (c19:bj K cd19 "weights_from" = true) (k19:bb K (.ref f19)=true)
 (a20:bg K aR "weight" = some (some (.ref f20))) (l20:K.lookup f20=some ⟨oc20,od20,.func (bc "weight" "weight" (cD mh) (cg mh) (bh mh) .none kV20 dc20 pm20 an20 cd20 ct20),sl20⟩) (c20:bj K cd20 "weight" = true) (k20:bb K (.ref f20)=true)
 (a21:bg K aR "_law_cell" = some (some (.ref f21))) (l21:K.lookup f21=some ⟨oc21,od21,.func (bc "_law_cell" "_law_cell" (cD iU) (cg iU) (bh iU) .none kV21 dc21 pm21 an21 cd21 ct21),sl21⟩) (c21:bj K cd21 "_law_cell" = true) (k21:bb K (.ref f21)=true)
 (a22:bg K aR "_law_mix" = some (some (.ref f22))) (l22:K.lookup f22=some ⟨oc22,od22,.func (bc "_law_mix" "_law_mix" (cD jy) (cg jy) (bh jy) .none kV22 dc22 pm22 an22 cd22 ct22),sl22⟩) (c22:bj K cd22 "_law_mix" = true) (k22:bb K (.ref f22)=true)
 (a23:bg K aR "_law_perm" = some (some (.ref f23))) (l23:K.lookup f23=some ⟨oc23,od23,.func (bc "_law_perm" "_law_perm" (cD fO) (cg fO) (bh fO) .none kV23 dc23 pm23 an23 cd23 ct23),sl23⟩) (c23:bj K cd23 "_law_perm" = true) (k23:bb K (.ref f23)=true)
 (a24:bg K aR "_law_all" = some (some (.ref f24))) (l24:K.lookup f24=some ⟨oc24,od24,.func (bc "_law_all" "_law_all" (cD jx) (cg jx) (bh jx) .none kV24 dc24 pm24 an24 cd24 ct24),sl24⟩) (c24:bj K cd24 "_law_all" = true) (k24:bb K (.ref f24)=true)
 (a25:bg K aR "_law_yard" = some (some (.ref f25))) (l25:K.lookup f25=some ⟨oc25,od25,.func (bc "_law_yard" "_law_yard" (cD iP) (cg iP) (bh iP) .none kV25 dc25 pm25 an25 cd25 ct25),sl25⟩) (c25:bj K cd25 "_law_yard" = true) (k25:bb K (.ref f25)=true)
 (a26:bg K aR "law" = some (some (.ref f26))) (l26:K.lookup f26=some ⟨oc26,od26,.func (bc "law" "law" (cD tz) (cg tz) (bh tz) .none kV26 dc26 pm26 an26 cd26 ct26),sl26⟩) (c26:bj K cd26 "law" = true) (k26:bb K (.ref f26)=true)
 (m4:sC K cd4 "upwards" = true)
 (m6:sC K cd6 "heads" = true)
 (z0:bg K aR "all" = some none)
 (z1:bg K aR "any" = some none)
 (z2:bg K aR "dict" = some none)
 (z3:bg K aR "len" = some none)
 (z4:bg K aR "list" = some none)
 (z5:bg K aR "max" = some none)
 (z6:bg K aR "range" = some none)
 (z7:bg K aR "sorted" = some none)
 (z8:bg K aR "sum" = some none)
 (z9:bg K aR "tuple" = some none) :
 ∃ fd:dB,(∀ (s:ai) (v:ae),uJ s fd ⟨[v],[]⟩ [("_law_script",v)])/\∀ base:cr,K.In base->base.Ns aR mg->Bm mg base->vO P w K mg base CX0 18 fa fd ["_law_script"] (spD K 1 G13.fn_law):=by
 have e:=hfa.symm.trans (bz X Gm a26)
 cases e
 have Z:Zs mg:=⟨cH X Gm z0,cH X Gm z1,cH X Gm z2,cH X Gm z3,cH X Gm z4,cH X Gm z5,cH X Gm z6,cH X Gm z7,cH X Gm z8,cH X Gm z9⟩
 have F0:=e9 (st:=kx) l0 c0 k0
 have F1:=e9 (st:=mF) l1 c1 k1
 have F2:=e9 (st:=hV) l2 c2 k2
 have F3:=e9 (st:=iY) l3 c3 k3
 have F4:=e9 (st:=kJ) l4 c4 k4
 have F5:=e9 (st:=iT) l5 c5 k5
 have F6:=e9 (st:=oE) l6 c6 k6
 have F7:=e9 (st:=il) l7 c7 k7
 have F8:=e9 (st:=pj) l8 c8 k8
 have F9:=e9 (st:=ik) l9 c9 k9
 have F10:=e9 (st:=mm) l10 c10 k10
 have F11:=e9 (st:=mr) l11 c11 k11
 have F12:=e9 (st:=fT) l12 c12 k12
 have F13:=e9 (st:=iM) l13 c13 k13
 have F14:=e9 (st:=ip) l14 c14 k14
 have F15:=e9 (st:=mC) l15 c15 k15
 have F16:=e9 (st:=fP) l16 c16 k16
 have F17:=e9 (st:=dH) l17 c17 k17
 have F18:=e9 (st:=jw) l18 c18 k18
 have F19:=e9 (st:=gF) l19 c19 k19
 have F20:=e9 (st:=mh) l20 c20 k20
 have F21:=e9 (st:=iU) l21 c21 k21
 have F22:=e9 (st:=jy) l22 c22 k22
 have F23:=e9 (st:=fO) l23 c23 k23
 have F24:=e9 (st:=jx) l24 c24 k24
 have F25:=e9 (st:=iP) l25 c25 k25
 have F26:=e9 (st:=tz) l26 c26 k26
 refine ⟨bc "law" "law" (cD tz) (cg tz) (bh tz) .none kV26 dc26 pm26 an26 cd26 ct26,fun s v=>.of_eq rfl,fun base hK _ hB=>?_⟩
 have C_yard_of:=ya (P:=P) (w:=w) (base:=base) ⟨_,_,F0,bz X Gm a0⟩ Z
 have C_turned:=zO (P:=P) (w:=w) (base:=base) ⟨_,_,F1,bz X Gm a1⟩ Z C_yard_of
 have C_uppers_of:=ua (P:=P) (w:=w) (base:=base) ⟨_,_,F2,bz X Gm a2⟩
 have C_lowers_of:=t0 (P:=P) (w:=w) (base:=base) ⟨_,_,F3,bz X Gm a3⟩ Z C_uppers_of
 have C_upwards:=yj (P:=P) (w:=w) (base:=base) (AQ F4 (bz X Gm a4) m4) hK hB Z
 have C_holds_all:=tE (P:=P) (w:=w) (base:=base) ⟨_,_,F5,bz X Gm a5⟩ Z
 have C_heads:=DH (P:=P) (w:=w) (base:=base) (AQ F6 (bz X Gm a6) m6) hK hB Z C_holds_all C_lowers_of C_upwards
 have C_ways_up_to:=rn (P:=P) (w:=w) (base:=base) ⟨_,_,F7,bz X Gm a7⟩ Z
 have C_lines:=CG (P:=P) (w:=w) (base:=base) ⟨_,_,F8,bz X Gm a8⟩ Z C_heads C_ways_up_to
 have C_heights_of:=sy (P:=P) (w:=w) (base:=base) ⟨_,_,F9,bz X Gm a9⟩ Z C_upwards
 have C_row_at:=zn (P:=P) (w:=w) (base:=base) ⟨_,_,F10,bz X Gm a10⟩ Z
 have C_floors:=A8 (P:=P) (w:=w) (base:=base) ⟨_,_,F11,bz X Gm a11⟩ Z C_heights_of C_lowers_of C_row_at
 have C_steps_of:=vJ (P:=P) (w:=w) (base:=base) ⟨_,_,F13,bz X Gm a13⟩ ⟨_,_,F12,bz X Gm a12⟩ Z C_uppers_of
 have C_tower_from:=rQ (P:=P) (w:=w) (base:=base) ⟨_,_,F14,bz X Gm a14⟩ Z
 have C_towers:=zl (P:=P) (w:=w) (base:=base) ⟨_,_,F15,bz X Gm a15⟩ Z C_steps_of C_tower_from
 have C_stands_on_any:=n9 (P:=P) (w:=w) (base:=base) ⟨_,_,F16,bz X Gm a16⟩ Z
 have C_without_overtopping:=kg (P:=P) (w:=w) (base:=base) ⟨_,_,F17,bz X Gm a17⟩ Z C_stands_on_any
 have C_broadest:=vE (P:=P) (w:=w) (base:=base) ⟨_,_,F18,bz X Gm a18⟩ Z C_towers C_uppers_of C_without_overtopping
 have C_weights_from:=oN (P:=P) (w:=w) (base:=base) ⟨_,_,F19,bz X Gm a19⟩ Z C_lowers_of C_upwards
 have C_weight:=AD (P:=P) (w:=w) (base:=base) ⟨_,_,F20,bz X Gm a20⟩ Z C_weights_from
 have C__law_cell:=uF (P:=P) (w:=w) (base:=base) ⟨_,_,F21,bz X Gm a21⟩ Z
 have C__law_mix:=vQ (P:=P) (w:=w) (base:=base) ⟨_,_,F22,bz X Gm a22⟩ Z
 have C__law_perm:=uh (P:=P) (w:=w) (base:=base) ⟨_,_,F23,bz X Gm a23⟩ Z C__law_mix
 have C__law_all:=vx (P:=P) (w:=w) (base:=base) ⟨_,_,F24,bz X Gm a24⟩ Z
 have C__law_yard:=uD (P:=P) (w:=w) (base:=base) ⟨_,_,F25,bz X Gm a25⟩ Z C__law_all C__law_cell C__law_mix C__law_perm
 exact HY F26 Z C__law_yard C_broadest C_floors C_heads C_lines C_turned C_weight
theorem walk {l:yK} {q:bA} {loose:List bH} {XP:(bH->Option ae)->cr->Prop} {YP:cb->cr->Prop} {d:DefRec} {K:yT->ac} {ts:List ak} (hn:l.most=some 63) (hdf:d.params.defaults=[])
 (hY:∀ (w:cb) (h:cr),YP w h->(K w.params).In h) (hT:∀ (w:cb) (h:cr),YP w h->∀ P∈ts,h.get? P=some (ku #[])) (hok:∀ P:yT,AU (K P) ts=true)
 (F:∀ (w:cb) (mg:bH->Option ae) (fa:ak) (h:cr),(K w.params).In h->h.Ns aR mg->mg d.name=some (.ref fa) ->
   ∃ fd:dB,(∀ (s:ai) (u:ae),uJ s fd ⟨[u],[]⟩ [("_law_script",u)])/\∀ base:cr,(K w.params).In base->base.Ns aR mg->Bm mg base->vO l.prog w (K w.params) mg base CX0 18 fa fd ["_law_script"] (spD (K w.params) 1 G13.fn_law)) :
 BO q loose XP YP l.row.toRowW d [] (fun f vs=>xJ f vs) :=
 DT (n:=63) (k:=18) (x:="_law_script") (fn:=G13.fn_law) hn (by decide) hdf ⟨rfl,rfl,by decide,by decide⟩ hY hT hok F G13.law_eq
end C
open PySem PySem.W PyProof.Rows
set_option maxRecDepth 100000 in
set_option maxHeartbeats 0 in
theorem PySem.Challenge.cw_rankyard_k13_whole_turned_about_holds : PySem.Challenge.rw_rankyard_k13_whole_turned_about.Holds := by
 w_on;o_law;k_head;(case hw=>w_witness2)
 k_fill
 refine C.walk (l:=PySem.Challenge.rw_rankyard_k13_whole_turned_about) rfl rfl (fun w h Y=>PySem.W.km_in_of Y) (fun w h Y=>PySem.W.km_tabs_of Y) (fun P=>by kernel_rfl) ?F
 case F =>
  intro w mg fa h KX G hmg
  refine' C.all_mk KX G hmg ?a0 ?l0 ?c0 ?k0 ?a1 ?l1 ?c1 ?k1 ?a2 ?l2 ?c2 ?k2 ?a3 ?l3 ?c3 ?k3 ?a4 ?l4 ?c4 ?k4 ?a5 ?l5 ?c5 ?k5 ?a6 ?l6 ?c6 ?k6 ?a7 ?l7 ?c7 ?k7 ?a8 ?l8 ?c8 ?k8 ?a9 ?l9 ?c9 ?k9 ?a10 ?l10 ?c10 ?k10 ?a11 ?l11 ?c11 ?k11 ?a12 ?l12 ?c12 ?k12 ?a13 ?l13 ?c13 ?k13 ?a14 ?l14 ?c14 ?k14 ?a15 ?l15 ?c15 ?k15 ?a16 ?l16 ?c16 ?k16 ?a17 ?l17 ?c17 ?k17 ?a18 ?l18 ?c18 ?k18 ?a19 ?l19 ?c19 ?k19 ?a20 ?l20 ?c20 ?k20 ?a21 ?l21 ?c21 ?k21 ?a22 ?l22 ?c22 ?k22 ?a23 ?l23 ?c23 ?k23 ?a24 ?l24 ?c24 ?k24 ?a25 ?l25 ?c25 ?k25 ?a26 ?l26 ?c26 ?k26 ?m4 ?m6 ?z0 ?z1 ?z2 ?z3 ?z4 ?z5 ?z6 ?z7 ?z8 ?z9
  (case a0=>k_is)
  (case l0=>k_is)
  (case c0=>k_is)
  (case k0=>k_is)
  (case a1=>k_is)
  (case l1=>k_is)
  (case c1=>k_is)
  (case k1=>k_is)
  (case a2=>k_is)
  (case l2=>k_is)
  (case c2=>k_is)
  (case k2=>k_is)
  (case a3=>k_is)
  (case l3=>k_is)
  (case c3=>k_is)
  (case k3=>k_is)
  (case a4=>k_is)
  (case l4=>k_is)
  (case c4=>k_is)
  (case k4=>k_is)
  (case a5=>k_is)
  (case l5=>k_is)
  (case c5=>k_is)
  (case k5=>k_is)
  (case a6=>k_is)
  (case l6=>k_is)
  (case c6=>k_is)
  (case k6=>k_is)
  (case a7=>k_is)
  (case l7=>k_is)
  (case c7=>k_is)
  (case k7=>k_is)
  (case a8=>k_is)
  (case l8=>k_is)
  (case c8=>k_is)
  (case k8=>k_is)
  (case a9=>k_is)
  (case l9=>k_is)
  (case c9=>k_is)
  (case k9=>k_is)
  (case a10=>k_is)
  (case l10=>k_is)
  (case c10=>k_is)
  (case k10=>k_is)
  (case a11=>k_is)
  (case l11=>k_is)
  (case c11=>k_is)
  (case k11=>k_is)
  (case a12=>k_is)
  (case l12=>k_is)
  (case c12=>k_is)
  (case k12=>k_is)
  (case a13=>k_is)
  (case l13=>k_is)
  (case c13=>k_is)
  (case k13=>k_is)
  (case a14=>k_is)
  (case l14=>k_is)
  (case c14=>k_is)
  (case k14=>k_is)
  (case a15=>k_is)
  (case l15=>k_is)
  (case c15=>k_is)
  (case k15=>k_is)
  (case a16=>k_is)
  (case l16=>k_is)
  (case c16=>k_is)
  (case k16=>k_is)
  (case a17=>k_is)
  (case l17=>k_is)
  (case c17=>k_is)
  (case k17=>k_is)
  (case a18=>k_is)
  (case l18=>k_is)
  (case c18=>k_is)
  (case k18=>k_is)
  (case a19=>k_is)
  (case l19=>k_is)
  (case c19=>k_is)
  (case k19=>k_is)
  (case a20=>k_is)
  (case l20=>k_is)
  (case c20=>k_is)
  (case k20=>k_is)
  (case a21=>k_is)
  (case l21=>k_is)
  (case c21=>k_is)
  (case k21=>k_is)
  (case a22=>k_is)
  (case l22=>k_is)
  (case c22=>k_is)
  (case k22=>k_is)
  (case a23=>k_is)
  (case l23=>k_is)
  (case c23=>k_is)
  (case k23=>k_is)
  (case a24=>k_is)
  (case l24=>k_is)
  (case c24=>k_is)
  (case k24=>k_is)
  (case a25=>k_is)
  (case l25=>k_is)
  (case c25=>k_is)
  (case k25=>k_is)
  (case a26=>k_is)
  (case l26=>k_is)
  (case c26=>k_is)
  (case k26=>k_is)
  (case m4=>kernel_rfl)
  (case m6=>kernel_rfl)
  (case z0=>k_is)
  (case z1=>k_is)
  (case z2=>k_is)
  (case z3=>k_is)
  (case z4=>k_is)
  (case z5=>k_is)
  (case z6=>k_is)
  (case z7=>k_is)
  (case z8=>k_is)
  (case z9=>k_is)
