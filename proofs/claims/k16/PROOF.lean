import PyProof.Rows.All
import Wide.All
import OpenK.AllK
import Wide.FinOn
import Lean
import PyProof.EqAt
import PyProof.EqKinds
import PyProof.TupleCall
import PySem.Challenge.RW_rankyard_k16_whole_numbered_anew
set_option maxHeartbeats 4000000
open PySem renaming wpAny_bind->aa,Value->ae,Shared->ai,Addr->ak,wpAny_pure->al,starEach->am,sizeLine->aK,wpAny->aM,mainGlobals->aQ,Expr->aS,model->bg,Program->bC,sizeLine_eq->bG,Around->bL,Str->bM,eval->b9,World->cf,cLine->cr,Heap->cy,backTo->cz,wpAny_newObj_type->cQ,Stmt->cX,wpAny_holding->dm,codeAny_builtin->dr,sysModules->dt,Obj->dz,wpAny_truthy_bool->dF,FuncData->dG,wpAny_mono->d6,compareOp->d7,NameKind->eC,Scope->eI,cellsFrom->eJ,behindInMarks->eV,plainId_quiet->eW,assignEach->e7,Pos->ft,foldedSetIterable->fz,wpAny_call_entry->fH,wpAny_typeNameOfWhole_keyiter->fQ,wpAny_Call_Name_kw->fR,wpAny_passesOwn->gk,attributeBase->gv,mem_of_lookup->gG,swapsWith->gT,wpAny_typeNameOf_keyiter->h9,tupleKind_room_in1->ib,keywordEach->ik,wpAny_callSpecial?_slot->il,bootBuiltins->iE,wpAny_typeOf->iG,wpAny_tryCatch->iJ,rawInt->iT,Arguments->iU,Keyword->jb,binaryOp->jd,sliceBounds->je,tupleKind->jL,bindArgs->jT,wpAny_pyIter_list->ky,getItem->kz,pyNext->kD,wpAny_standAt->kF,wpAny_newList->kG,backToKw->lw,DictEntry->lx,codeAny->lN,relabel->lO,wpAny_execs_nil->lY,IsPart->mR,intItems->mW,wpAny_letGo->mY,wpAny_seqItems->mZ,PassesOwn->nE,argBest->nH,Paired->oF,builtinsNs->oG,wpAny_load->oH,call_meets->oJ,Env->p4,CmpOp->p6,codeAny_mono->p7,valueAt->p8,concat_meets->p9,callerA->qa,wpAny_dictEntries->qc,wpAny_eqBool_int->ri,pairTrees->rj,noFill_tuple_add->rA,seqItems?->rC,wpAny_callSpecialIfBound?_slot->rF,subscripted->tz,letOwnedTupleGo->tG,wpAny_dictEpoch->tH,wpAny_updateSeq->tK,standAt->u9,holding->va,BindsTo->vc,collect->vf,recursionLimit->vk,atKey->vm,wpAny_rule->vp,rangeSize_one->xU,seq_tuple_add->xW,call->xX,wpAny_attempt->xY,bindL->yT,bindC->yU,numAt->yY,Tok->zc,Result->zd,call_meetsIn->ze,Params->zg,wpAny_isTrue_Compare1->B5,wpAny_notOrdered_dict->B7,wpAny_isOneOf_keyiter->B8,wpAny_field->Cs,wpAny_of_eq->Cv
open List renaming length_map->ab,mem_cons_of_mem->af,mem_cons_self->ah,getElem?_eq_getElem->aj,mem_cons->ao,getD_eq_getElem?_getD->av,map_cons->ax,mem_singleton->ay,mem_map->az,getElem?_map->aA,size_toArray->aB,map_map->aC,mem_append->aD,getElem?_eq_some_iff->aF,mem_filter->aG,length_cons->aI,length_append->aO,mem_append_right->aW,getElem?_set_self->ba,getElem?_set_ne->bb,pairwise_singleton->bc,nodup_cons->be,nodup_append->bp,getElem?_cons_zero->br,getElem?_cons_succ->bv,mem_append_left->bw,length_singleton->bx,pairwise_map->bz,map_append->bE,filter_sublist->bF,range->bH,pairwise_cons->bI,mem_of_getElem?->bJ,getElem_of_mem->bT,length_set->bX,all_eq_true->cH,getElem?_append_right->cR,map_congr_left->cY,length_nil->dg,lookup_cons->dq,length_range->dA,getElem?_append_left->dH,append_assoc->eB,take_of_length_le->eK,perm_ext_iff_of_nodup->eP,length_filter_le->eS,drop_eq_getElem_cons->e5,pairwise_iff_getElem->e6,append_nil->e8,drop_of_length_le->fF,getElem?_eq_none->fP,length->gs,map->gx,range_eq_range'->gy,length_eraseIdx_of_lt->gz,pairwise_append->gA,length_take->gC,getElem_mem->gD,any_eq_true->gE,find?_cons->gU,length_eq_zero_iff->gY,filter_congr->ia,getElem_inj->iD,eq_nil_of_length_eq_zero->iM,length_dropLast->iN,map_nil->ja,mem_range->jg,drop_zero->ji,any_cons->jM,getElem?_replicate->j6,length_drop->j8,drop_length->j9,ext_getElem->kc,filter_cons_of_neg->ke,filter_cons->kf,mem_flatten->kg,length_replicate->lb,filterMap_cons->lX,zip_cons_cons->mP,lookup_append->mQ,ext_getElem?->nG,all_map->nI,length_filter_eq_length_iff->nJ,range'_succ->oy,of_mem_zip->pX,length_zip->p0,forIn_nil->qz,sum_cons->tD,filter_cons_of_pos->tL,length_pos_of_mem->vg,set_set->vi,any_map->vj,eraseIdx_sublist->vw,perm_append_comm->vx,dropLast_sublist->vy,mem_iff_getElem->wC,range'->wD,length_pos_iff->yb,map_eq_nil_iff->yc,mem_filterMap->yR,zip_nil_right->yV,filter_filter->y4,getElem?_set->zp,mapM_toArray->zq,take_length->B6,getElem_map->B9,map_snd_zip->Cb,getElem_zip->Cg,cons_append->Ci,all_toArray->Cj,perm_middle->Ck,forIn_cons->Cu,replicate->Ek,nodup_nil->El
open PySem.W renaming Frag->ac,keepIn->aY,fnOf->aZ,nsIn->bf,codeIn->bi,mg_of->bA,mg_none_of->cM,cellsFrom_some->gW,kas_ask->iI,CodeHd->iV,tabObj->kH,methodObj->lZ,kat_cons->mT,kas_kind->mV,kas_sort->mX,codeHdIn->m3,kat_yes->oh,kat_one->oj,kat_no->oO,kla_fn->oP,KasT->rB,codeHd_of_K->vh,kat_lt_int->vt,kat_snds->xZ,kat_kind->x8,kas_item->x9,KatTups->yX,kla_obj->yZ,OpenLaw->y3,KatLex->zl,kat_lt->zo,WalkO->Ce
open PySem.Heap renaming get?_push_of_some->ag,lt_size->aH,get?_push_size->aJ,get?_update_other->cV,SameBut->kx,get?_update_self->lc,size_push->lF,size_update->oz,get?_update_ne->x6
open Sum renaming inl->au,inr->oe
open Nat renaming le_refl->aw,lt_of_lt_of_le->bj,ne_of_lt->bu,le_trans->bO,zero_le->bV,lt_irrefl->cq,le_of_succ_le->ie,le_of_lt->jc,le_of_eq->kE,le_antisymm->lf,lt_or_eq_of_le->m7,sub_self->om,le_of_not_lt->oK,lt_succ_self->oM,not_lt_zero->qd,mul_le_mul->rE,sub_zero->vq,lt_of_le_of_lt->zh,lt_trichotomy->Cm,min_eq_right->CB,min_eq_left->Ep,strongRecOn->Er
open Bool renaming false_ne_true->aN,and_eq_true->aU,eq_iff_iff->cp,false_eq_true->eO,or_eq_true->iQ,and_self->jO,true_and->jP
open PySem.Value renaming none->bB,ref->bN,int->eZ,bool->gf,type->gj,str->tu,isStrOf->Ej
open PySem.PyData renaming depthAll->bD,canLayAll0->ce,canLay0->cD,eqv->cG,depth->dc,eqvAll->dJ
open PySem.PassesOwn renaming never->bQ
open Array renaming length_toList->bS,perm_iff_toList_perm->cx,getElem?_toList->fN,getElem?_eq_getElem->gF,toArray_toList->lz,getD_eq_getD_getElem?->pY,getElem?_eq_none->tI,forIn_toList->ya
open Option.some renaming inj->bU
open PySem.Obj renaming mapSeq->bY,data_mapFields->zj
open PyProof.Rows renaming seqObj->bZ,IntsAre->dR,slot_tuple_getitem->eR,callWith_type1->fC,envOfC->fG,KeyOrd->fI,get?_update_seq->gm,listUpdate_at->gw,SortKind->iH,listItems_at->jx,IsTup->jS,oneType'->ly,AllBare->lL,seqEpoch_at->mS,failedOf->vo,subscriptTail->xV,subscriptTail_builtinR->zf,keyLt'->zm,tuples'->zn,arrOf->Ct,keyKind'->Cw,entry_proto_collect'->Cy,callWith_kw->Cz,entry_tuple_getitem->Em
open PySem.Paired renaming length->cj
open False renaming elim->cm
open Option renaming map_some->cw,isSome_iff_exists->jv,isSome_map->mO,map_eq_some_iff->tw,isSome_some->wB,getD_none->yW
open PySem.Str renaming ofString->cL
open PySem.Around renaming under_plainId->cP,frames_deeper->vd
open Sum.inl renaming inj->dh
open PySem.Builtin.Tuple renaming tupleExact->dB,tupleItemsOf->mh
open Or renaming inl->dX,inr->d9
open PyProof.Rows.KeyOrd renaming kle_refl->eA,kle_of_klt->hW,kle_trans->im,kle_antisymm->lE
open Classical renaming choose->eD,choose_spec->hZ
open PySem.F renaming plain_max_loop->eE,args_tuple_add_2->jn,entry_tuple_add->jw,slot_tuple_add->jU,slot_dict_get->ko,slot_tuple_lt->kr,args_dict_get_3->qu,plainAttrs_dict->qv,args_tuple_lt_2->qw,plainAttrs_list->qy,plain_list_iadd->qA,plain_tuple_new->qB,slot_dict_items->qC,entry_dict_get->rp,entry_tuple_lt->rq,entry_max_loop->rD,slot_list_lt->tM
open PySem.Heap.SameBut renaming update->eY
open PySem.Builtin.Slice renaming slicePlaces->fL,sliceAdjust->iF,sliceApplied->mf
open Int renaming toNat_natCast->gc,mul_zero->kI,mul_one->lM,emod_lt_of_pos->m5,zero_mul->oq,one_mul->p3,emod_nonneg->qe,zero_add->vv
open PySem.NameKind renaming free->ic,cell->zi
open PySem.Builtin.List renaming listExtendWith->io
open True renaming intro->jh
open ForInStep renaming yield->jN
open List.cons renaming injEq->jQ
open Prod renaming ext->j7,fst->En,snd->Eo
open PySem.Calls renaming callWith_builtin->kq,spliced_cons->me,Name_function_global->p5,evalArgs_plain->vn,spliced_nil->yS
open PySem.Builtin.Dict_items renaming ownsTuple->kC
open PySem.Builtin.Builtins renaming bindParams->lA
open PyProof.Rows.IsTup renaming new->og
open PySem.Builtin.Dict renaming updateFrom->ol,showsAll->oN
open PyProof.Rows.SortSt renaming mk'->pZ
open PySem.Walks renaming list->qb
open List.Pairwise renaming nil->qx
open List.Perm renaming cons_inv->tJ
open PySem.Heap.DictOf renaming new->ve
open StateT renaming run_pure->zk
open PySem.W.Looks renaming ld->CA
set_option Elab.async false
set_option linter.all false
set_option maxRecDepth 100000
namespace L2
open PySem PySem.Spec PyProof.Rows
noncomputable abbrev Key:=Sum Int bM
noncomputable def rW:Key->ae->Bool
 | .inl k,v=>Value.isInt k v
 | .inr x,v=>Ej x v
noncomputable def Me (w:cf):Key->Int
 | .inl k=>hashInt k
 | .inr x=>hashStr w x
theorem d8:∀ {k:Key} {v:ae},rW k v=true->(∃ i t,k=au i/\v=eZ i t)\/(∃ x t,k=oe x/\v=tu x t)
 | .inl i,v,h=>by
   obtain ⟨t,e⟩:=Value.isInt_shape (k:=i) (v:=v) h
   exact .inl ⟨i,t,rfl,e⟩
 | .inr x,v,h=>by
   obtain ⟨t,e⟩:=Value.isStrOf_shape (x:=x) (v:=v) h
   exact .inr ⟨x,t,rfl,e⟩
theorem Bp (i:Int) (t:zc):rW (.inl i) (.int i t)=true:=by simp [rW,Value.isInt]
theorem Bv (x:bM) (t:zc):rW (.inr x) (.str x t)=true:=by simp [rW,Ej]
theorem Kk (a b:Int):decide ((au a:Key)=au b)=(a == b):=by
 by_cases e:a=b
 ·subst e;simp
 ·have h:¬ (au a:Key)=au b:=fun q=>e (dh q)
  rw [decide_eq_false h]
  exact (beq_eq_false_iff_ne.mpr e).symm
theorem KL (a b:bM):decide ((oe a:Key)=oe b)=decide (a=b):=by
 by_cases e:a=b
 ·subst e;simp
 ·have h:¬ (oe a:Key)=oe b:=fun q=>e (Sum.inr.inj q)
  rw [decide_eq_false h,decide_eq_false e]
theorem Jj (a:Int) (b:bM):decide ((au a:Key)=oe b)=false:=decide_eq_false (fun q=>nomatch q)
theorem IV (a:bM) (b:Int):decide ((oe a:Key)=au b)=false:=decide_eq_false (fun q=>nomatch q)
noncomputable def cN (prog:bC) (w:cf):PySem.KeyKind prog w Key where
 is:=rW
 hash:=Me w
 inj:=fun v a b ha hb=>by
  rcases d8 ha with ⟨i,t,rfl,rfl⟩ | ⟨x,t,rfl,rfl⟩
  ·rcases d8 hb with ⟨j,u,rfl,e⟩ | ⟨y,u,rfl,e⟩
   ·injection e with e1 _;rw [e1]
   ·exact nomatch e
  ·rcases d8 hb with ⟨j,u,rfl,e⟩ | ⟨y,u,rfl,e⟩
   ·exact nomatch e
   ·injection e with e1 _;rw [e1]
 byValue:=fun k v h=>by
  rcases d8 h with ⟨i,t,rfl,rfl⟩ | ⟨x,t,rfl,rfl⟩<;>rfl
 pyHash:=fun hv h=>by
  rcases d8 hv with ⟨i,t,rfl,rfl⟩ | ⟨x,t,rfl,rfl⟩
  ·exact wpAny_pyHash_int h
  ·exact wpAny_pyHash_str h
 eqBool:=fun hu hv h=>by
  rcases d8 hu with ⟨i,t,rfl,rfl⟩ | ⟨x,t,rfl,rfl⟩
  ·rcases d8 hv with ⟨j,u,rfl,rfl⟩ | ⟨y,u,rfl,rfl⟩
   ·rw [Kk] at h;exact ri h
   ·rw [Jj] at h;exact SeqAt.EqAt.int_str i t y u _ _ _ _ h
  ·rcases d8 hv with ⟨j,u,rfl,rfl⟩ | ⟨y,u,rfl,rfl⟩
   ·rw [IV] at h;exact SeqAt.EqAt.str_int x t j u _ _ _ _ h
   ·rw [KL] at h;exact wpAny_eqBool_str h
 «strs»:=fun k x t v h=>by
  rcases d8 h with ⟨i,u,rfl,e⟩ | ⟨y,u,rfl,e⟩
  ·exact nomatch e
  ·injection e with e1 _
   subst e1
   cases v<;>rfl
theorem vC (prog:bC) (w:cf) (i:Int) (t:zc):(cN prog w).is (.inl i) (.int i t)=true:=Bp i t
theorem vJ (prog:bC) (w:cf) (x:bM) (t:zc):(cN prog w).is (.inr x) (.str x t)=true:=Bv x t
inductive V where
 | non | bl (b:Bool) | int (i:Int) | str (x:bM) | byt (b:Array UInt8) | flt (b:UInt64) | ref (a:ak) | ty (n:String)
 deriving DecidableEq
noncomputable def gH:V->ae->Prop
 | .non,u=>u=bB
 | .bl b,u=>u=gf b
 | .int i,u=>∃ t,u=eZ i t
 | .str x,u=>∃ t,u=tu x t
 | .byt b,u=>∃ t,u=Value.bytes b t
 | .flt b,u=>∃ t,u=Value.float b t
 | .ref a,u=>u=bN a
 | .ty n,u=>u=gj n
noncomputable abbrev eG:List V->List ae->Prop:=oF gH
theorem eG.length {xs:List V} {us:List ae} (r:eG xs us):xs.length=us.length:=cj r
theorem eG.get:∀ {xs:List V} {us:List ae} {i:Nat} {x:V},eG xs us->xs[i]?=some x->∃ u,us[i]?=some u/\gH x u
 | _,_,_,_,.nil,e=>by simp at e
 | _,_,0,_,.cons r _,e=>by simp at e;subst e;exact ⟨_,rfl,r⟩
 | _,_,i+1,x,.cons _ t,e=>by
   obtain ⟨u,h1,h2⟩:=eG.get (i:=i) (x:=x) t (by simpa using e)
   exact ⟨u,by simpa using h1,h2⟩
theorem eG.append:∀ {xs ys:List V} {us ws:List ae},eG xs us->eG ys ws->eG (xs++ys) (us++ws)
 | _,_,_,_,.nil,s=>s
 | _,_,_,_,.cons r t,s=>.cons r (eG.append t s)
theorem eG.take:∀ {xs:List V} {us:List ae} (n:Nat),eG xs us->eG (xs.take n) (us.take n)
 | _,_,0,_=>.nil
 | _,_,_+1,.nil=>.nil
 | _,_,n+1,.cons r t=>.cons r (eG.take n t)
theorem eG.drop:∀ {xs:List V} {us:List ae} (n:Nat),eG xs us->eG (xs.drop n) (us.drop n)
 | _,_,0,r=>r
 | _,_,_+1,.nil=>.nil
 | _,_,n+1,.cons _ t=>eG.drop n t
noncomputable def y9:Option V->Option ae->Prop
 | some v,some u=>gH v u
 | none,none=>True
 | _,_=>False
noncomputable def KV {κ:Type}:List (κ×V)->List (κ×ae)->Prop:=oF fun (p:κ×V) (q:κ×ae)=>p.1=q.1/\gH p.2 q.2
noncomputable def kV:Key->V
 | .inl i=>.int i
 | .inr x=>.str x
inductive HO where
 | lst (xs:List V)
 | tup (xs:List V)
 | dK (kvs:List (Key×V)) | dT (kvs:List (List Key×V))
 | set (S:Int->Bool) (n:Nat)
 | ins (C dx:ak) (fs:List (bM×V))
 | own (x:ak)
 | xd (fs:List (bM×V))
 | met (f x:ak)
 | rng (lo hi:Int)
 | frz (o:dz) (u:HO)
 | tbl (ps:Array ae)
 | tab (q:bM)
 | cod (q:bM)
 | ext (φ:cy->Prop)
noncomputable abbrev Hp:=ak->Option HO
noncomputable def upd (H:Hp) (a:ak) (o:HO):Hp:=fun b=>if b=a then some o else H b
theorem aV {H:Hp} {a:ak} {o:HO}:upd H a o a=some o:=by unfold upd;rw [if_pos rfl]
theorem bq {H:Hp} {a b:ak} {o:HO} (h:b≠a):upd H a o b=H b:=by unfold upd;rw [if_neg h]
theorem Kp {H:Hp} {a b:ak} {o u:HO} (h:H a=some o) (h':H b=some u) (d:o≠u):a≠b:=by
 intro e;subst e;rw [h] at h';exact d (bU h')
theorem cb {H:Hp} {a b:ak} {o:HO} (h:H a=some o) (h':H b=none):a≠b:=by
 intro e;subst e;rw [h] at h';cases h'
noncomputable def mH (h:cy) (a:ak):Prop:=∃ o,h.get? a=some o/\o.dict=none
theorem mH.new (h:cy) (o:dz) (e:o.dict=none:=by rfl) (f:o.isFreed=false:=by rfl):mH (h.push o) h.objs.size:=⟨o,aJ _ f,e⟩
noncomputable def yf (H:Hp) (q:bM):List ae->Prop
 | []=>True
 | .int _ _::.int _ _::.ref c::r=>H c=some (.cod q)/\yf H q r
 | _=>False
section
variable (P:bC) (w:cf)
noncomputable def gV (H:Hp) (h:cy) (a:ak):HO->Prop
 | .lst xs=>xs.length<=aK/\∃ (its:List ae) (n:Nat),eG xs its/\h.get? a=some { cls:=.type "list",data:=.seq its.toArray n }
 | .tup xs=>(xs.length<=aK/\mH h a)/\∃ its:List ae,eG xs its/\jS h a its.toArray
 | .dK kvs=>kvs.length<=aK/\(a == dt)=false/\∃ vs,KV kvs vs/\h.DictOf (cN P w) a vs
 | .dT kvs=>kvs.length<=aK/\(a == dt)=false/\∃ xs:List (List Key×ak×ae),
    oF (fun (p:List Key×V) (q:List Key×ak×ae)=>p.1=q.1/\H q.2.1=some (.tup (p.1.map kV))/\gH p.2 q.2.2) kvs xs /\
    ∃ o es ep,h.get? a=some o/\o.ExactDict/\o.data=.dict es ep/\es.toList=xs.map (entryOfKey (jL (cN P w)))/\(xs.map (·.1)).Nodup
 | .set S n=>h.SetOf (intKind P w) a S n
 | .ins C dx fs=>H dx=some (.own a)/\fs.length<=1000/\dx≠a/\h.get? a=some (PySem.W.instObj C dx) /\
    ∃ mA,h.Ns1 dx mA/\(∀ f,y9 (fs.lookup f) (mA f))/\PySem.Within mA (fs.map (·.1))
 | .own _=>∃ o,h.get? a=some o
 | .xd fs=>∃ mA,h.Ns1 a mA/\∀ f,y9 (fs.lookup f) (mA f)
 | .rng lo hi=>∃ t u v,h.get? a=some { cls:=.type "range",data:=.fields #[.int lo t,.int hi u,.int 1 v] }
 | .frz o u=>h.get? a=some o/\gV H h a u
 | .tbl ps=>h.get? a=some { cls:=.none,data:=.fields ps }
 | .met f x=>h.get? a=some (lZ (.ref f) (.ref x))
 | .tab q=>∃ ps:Array ae,h.get? a=some { cls:=.none,data:=.fields ps }/\yf H q ps.toList
 | .cod q=>h.CodeRec (.ref a) q
 | .ext φ=>φ h/\(∃ o,h.get? a=some o)/\∀ h1 h2:cy,φ h1->(∀ o,h1.get? a=some o->h2.get? a=some o)->φ h2
noncomputable def HOk (H:Hp) (h:cy):Prop:=∀ a o,H a=some o->gV P w H h a o
end
section
variable {P:bC} {w:cf} {H H':Hp} {h h':cy} {a:ak} {o:HO}
theorem gV.lt (x:gV P w H h a o):a<h.objs.size:=by
 cases o with
 | lst xs=>obtain ⟨_,_,_,_,e⟩:=x;exact aH e
 | tup xs=>obtain ⟨_,_,_,p⟩:=x;exact p.lt
 | dK kvs=>obtain ⟨_,_,_,_,o,_,_,e,_⟩:=x;exact aH e
 | dT kvs=>obtain ⟨_,_,_,_,o,_,_,e,_⟩:=x;exact aH e
 | set S n=>obtain ⟨o,_,_,_,e,_⟩:=x;exact aH e
 | ins C dx fs=>obtain ⟨_,_,_,e,_⟩:=x;exact aH e
 | own y=>obtain ⟨_,e⟩:=x;exact aH e
 | xd fs=>obtain ⟨_,⟨_,_,_,e,_⟩,_⟩:=x;exact aH e
 | rng lo hi=>obtain ⟨_,_,_,e⟩:=x;exact aH e
 | frz ob u=>obtain ⟨e,_⟩:=x;exact aH e
 | tbl ps=>exact aH (show h.get? a=some _ from x)
 | tab q=>obtain ⟨_,e,_⟩:=x;exact aH e
 | cod q=>obtain ⟨c,_,_,_,e0,e,_⟩:=x;cases e0;exact aH e
 | met f y=>exact aH (show h.get? a=some _ from x)
 | ext φ=>obtain ⟨_,⟨_,e⟩,_⟩:=x;exact aH e
theorem Paired.mapP {α β:Type} {F G:α->β->Prop}:∀ {l₁:List α} {l₂:List β},oF F l₁ l₂->(∀ a b,F a b->G a b)->oF G l₁ l₂
 | _,_,.nil,_=>.nil
 | _,_,.cons r t,f=>.cons (f _ _ r) (Paired.mapP t f)
theorem yf.stay {H H':Hp} {q:bM} (hc:∀ b q,H b=some (.cod q)->H' b=some (.cod q)):∀ {l:List ae},yf H q l->yf H' q l:=fun {l} t=>by
 fun_induction yf H q l with
 | case1=>exact t
 | case2 _ _ _ _ c r ih=>exact ⟨hc _ _ t.1,ih t.2⟩
 | case3=>exact t.elim
theorem gV.stay (x:gV P w H h a o) (k:∀ b u,(b=a\/H b=some (.own a))->h.get? b=some u->h'.get? b=some u)
 (ho:∀ b,H b=some (.own a)->H' b=some (.own a)) (ht:∀ b xs,H b=some (.tup xs)->H' b=some (.tup xs)) (hcd:∀ b q,H b=some (.cod q)->H' b=some (.cod q)):gV P w H' h' a o:=by
 induction o with
 | lst xs=>obtain ⟨z,its,n,r,e⟩:=x;exact ⟨z,its,n,r,k _ _ (.inl rfl) e⟩
 | tup xs=>obtain ⟨⟨z,o0,e0,d0⟩,its,r,ob,e,c⟩:=x;exact ⟨⟨z,o0,k _ _ (.inl rfl) e0,d0⟩,its,r,ob,k _ _ (.inl rfl) e,c⟩
 | dK kvs=>obtain ⟨z,y,vs,r,ob,es,ep,e,c⟩:=x;exact ⟨z,y,vs,r,ob,es,ep,k _ _ (.inl rfl) e,c⟩
 | dT kvs =>
   obtain ⟨z,y,xs,r,ob,es,ep,e,c⟩:=x
   exact ⟨z,y,xs,Paired.mapP r fun p q z=>⟨z.1,ht _ _ z.2.1,z.2.2⟩,ob,es,ep,k _ _ (.inl rfl) e,c⟩
 | set S n=>obtain ⟨ob,es,ep,t,e,c⟩:=x;exact ⟨ob,es,ep,t,k _ _ (.inl rfl) e,c⟩
 | ins C dx fs =>
   obtain ⟨d,z,ne,e,mA,⟨od,es,ep,e2,c⟩,r⟩:=x
   exact ⟨ho _ d,z,ne,k _ _ (.inl rfl) e,mA,⟨od,es,ep,k _ _ (.inr d) e2,c⟩,r⟩
 | own y=>obtain ⟨ob,e⟩:=x;exact ⟨ob,k _ _ (.inl rfl) e⟩
 | xd fs=>obtain ⟨mA,⟨od,es,ep,e,c⟩,r⟩:=x;exact ⟨mA,⟨od,es,ep,k _ _ (.inl rfl) e,c⟩,r⟩
 | rng lo hi=>obtain ⟨t,u,v,e⟩:=x;exact ⟨t,u,v,k _ _ (.inl rfl) e⟩
 | frz ob u ih=>obtain ⟨e,q⟩:=x;exact ⟨k _ _ (.inl rfl) e,ih q⟩
 | tbl ps =>
   have e:h.get? a=some { cls:=.none,data:=.fields ps }:=x
   show h'.get? a=some { cls:=.none,data:=.fields ps }
   exact k a _ (.inl rfl) e
 | tab q=>obtain ⟨ps,e,t⟩:=x;exact ⟨ps,k _ _ (.inl rfl) e,t.stay hcd⟩
 | cod q=>obtain ⟨c,o,vs,t,e0,e,r⟩:=x;cases e0;exact ⟨_,o,vs,t,rfl,k _ _ (.inl rfl) e,r⟩
 | met f y =>
   have e:h.get? a=some (lZ (.ref f) (.ref y)):=x
   show h'.get? a=some (lZ (.ref f) (.ref y))
   exact k a _ (.inl rfl) e
 | ext φ=>obtain ⟨p,⟨o,e⟩,st⟩:=x;exact ⟨st _ _ p fun o q=>k _ _ (.inl rfl) q,⟨o,k _ _ (.inl rfl) e⟩,st⟩
theorem HOk.lt (x:HOk P w H h) (e:H a=some o):a<h.objs.size:=(x a o e).lt
theorem HOk.fresh (x:HOk P w H h) (e:h.objs.size<=a):H a=none:=by
 cases q:H a with
 | none=>rfl
 | some u=>exact absurd (bj (x.lt q) e) (cq _)
theorem HOk.kept (x:HOk P w H h) (k:∀ b u,h.get? b=some u->h'.get? b=some u):HOk P w H h':=fun a o e =>
 (x a o e).stay (fun b u _ q=>k b u q) (fun _ q=>q) (fun _ _ q=>q) fun _ _ q=>q
theorem HOk.laid (x:HOk P w H h) (k:∀ b u,h.get? b=some u->h'.get? b=some u) (hp:h.objs.size<=a) (new:gV P w (upd H a o) h' a o):HOk P w (upd H a o) h':=fun b u e=>by
 have hn:=x.fresh hp
 by_cases hb:b=a
 ·subst hb;rw [aV] at e;cases e;exact new
 ·rw [bq hb] at e
  exact (x b u e).stay (fun c v _ q=>k c v q) (fun c q=>by rw [bq (cb q hn)];exact q) (fun c xs q=>by rw [bq (cb q hn)];exact q) fun c xs q=>by rw [bq (cb q hn)];exact q
end
noncomputable def Rd (H:Hp) (a:ak) (u:HO):Prop:=H a=some u\/∃ o,H a=some (.frz o u)
theorem Rd.ok {P:bC} {w:cf} {H:Hp} {h:cy} {a:ak} {u:HO} (r:Rd H a u) (x:HOk P w H h):gV P w H h a u:=by
 rcases r with r | ⟨o,r⟩
 ·exact x a u r
 ·obtain ⟨_,q⟩:=x a _ r
  exact q
noncomputable def Mut:Option HO->Prop
 | some (.lst _)=>True
 | some (.dK _)=>True
 | some (.dT _)=>True
 | some (.set _ _)=>True
 | some (.ins _ _ _)=>True
 | some (.ext _)=>True
 | _=>False
section
variable {P:bC} {w:cf} {H:Hp} {h h':cy} {x e:ak} {o':HO}
theorem HOk.write (ok:HOk P w H h) (mu:Mut (H x)) (he:e=x\/H e=some (.own x)) (k:∀ b u,b≠e->h.get? b=some u->h'.get? b=some u) (heo:∃ u,h'.get? e=some u)
 (new:gV P w (upd H x o') h' x o'):HOk P w (upd H x o') h':=fun b u q=>by
 have nown:∀ c y,H c=some (.own y)->c≠x:=fun c y r z=>by subst z;rw [r] at mu;exact mu
 have ntup:∀ c xs,H c=some (.tup xs)->c≠x:=fun c xs r z=>by subst z;rw [r] at mu;exact mu
 by_cases hb:b=x
 ·subst hb;rw [aV] at q;cases q;exact new
 ·rw [bq hb] at q
  by_cases hbe:b=e
  ·have q':H b=some (.own x):=by
    rcases he with z | z
    ·exact absurd (hbe.trans z) hb
    ·rw [hbe];exact z
   rw [q] at q';cases q'
   obtain ⟨v,hv⟩:=heo
   exact ⟨v,by rw [hbe];exact hv⟩
  ·refine (ok b u q).stay (fun c v hc r=>k c v ?_ r) (fun c r=>by rw [bq (nown c b r)];exact r) (fun c xs r=>by rw [bq (ntup c xs r)];exact r) fun c q r=>by rw [bq (show c≠x from fun z=>by subst z;rw [r] at mu;exact mu)];exact r
   rcases hc with rfl | hc
   ·exact hbe
   ·rintro rfl
    rcases he with z | z
    ·exact nown c b hc z
    ·rw [hc] at z;cases z;exact hb rfl
end
structure Un (fs ex:List ak) (H H':Hp) (h h':cy):Prop where
 keep:∀ b o,h.get? b=some o->H b=none->b∉fs->b∉ex->h'.get? b=some o
 slot:∀ b o,h.get? b=some o->H b=none->b∈fs->b∉ex->∃ sl,h'.get? b=some { o with slots:=sl }
 free:∀ b o,h.get? b=some o->H b=none->b∉ex->H' b=none
 there:∀ b o,h.get? b=some o->b∉ex->∃ o',h'.get? b=some o'
 tups:∀ b xs,H b=some (.tup xs)->H' b=some (.tup xs)
 frzs:∀ b o u,H b=some (.frz o u)->H' b=some (.frz o u)
 tbls:∀ b ps,H b=some (.tbl ps)->∃ more,H' b=some (.tbl (ps++more))
section
variable {fs fs' ex ex':List ak} {H H1 H2:Hp} {h h1 h2 h':cy} {a x e:ak} {o:HO}
theorem Un.any (u:Un fs ex H H1 h h1) {b:ak} {ob:dz} (q:h.get? b=some ob) (n:H b=none) (hx:b∉ex):∃ sl,h1.get? b=some { ob with slots:=sl }:=by
 by_cases hb:b∈fs
 ·exact u.slot b ob q n hb hx
 ·exact ⟨ob.slots,u.keep b ob q n hb hx⟩
theorem Un.kept (k:∀ b u,h.get? b=some u->h'.get? b=some u):Un fs ex H H h h' :=
 ⟨fun b ob q _ _ _=>k b ob q,fun b ob q _ _ _=>⟨ob.slots,k b ob q⟩,fun _ _ _ n _=>n,fun b ob q _=>⟨ob,k b ob q⟩,fun _ _ q=>q,fun _ _ _ q=>q,fun _ ps q=>⟨#[],by rw [q];simp⟩⟩
theorem Un.refl:Un fs ex H H h h:=Un.kept fun _ _ q=>q
theorem Un.laid (k:∀ b u,h.get? b=some u->h'.get? b=some u) (hp:h.objs.size<=a) (hn:H a=none):Un fs ex H (upd H a o) h h' where
 keep:=fun b u q _ _ _=>k b u q
 slot:=fun b u q _ _ _=>⟨u.slots,k b u q⟩
 free:=fun b u q n _=>by rw [bq (bu (bj (aH q) hp))];exact n
 there:=fun b u q _=>⟨u,k b u q⟩
 tups:=fun b xs q=>by rw [bq (cb q hn)];exact q
 frzs:=fun b u xs q=>by rw [bq (cb q hn)];exact q
 tbls:=fun b ps q=>⟨#[],by rw [bq (cb q hn),q];simp⟩
theorem Un.write (mu:Mut (H x)) (he:e=x\/H e=some (.own x)) (k:∀ b u,b≠e->h.get? b=some u->h'.get? b=some u) (heo:∃ u,h'.get? e=some u):Un fs ex H (upd H x o) h h':=by
 have hx:∀ b,H b=none->b≠x:=fun b n z=>by subst z;rw [n] at mu;exact mu
 have hb:∀ b,H b=none->b≠e:=fun b n z=>by
  subst z
  rcases he with r | r
  ·exact hx b n r
  ·rw [n] at r;cases r
 have hm:∀ b u,H b=some u->¬ Mut (some u)->b≠x:=fun b u q nm z=>by subst z;rw [q] at mu;exact nm mu
 refine ⟨fun b u q n _ _=>k b u (hb b n) q,fun b u q n _ _=>⟨u.slots,k b u (hb b n) q⟩,fun b u q n _=>by rw [bq (hx b n)];exact n,fun b u q _=>?_,
  fun b xs q=>by rw [bq (hm b _ q fun z=>z)];exact q,fun b u xs q=>by rw [bq (hm b _ q fun z=>z)];exact q,fun b ps q=>⟨#[],by rw [bq (hm b _ q fun z=>z),q];simp⟩⟩
 by_cases hbe:b=e
 ·subst hbe;exact heo
 ·exact ⟨u,k b u hbe q⟩
end
noncomputable def trk (h:cy) (H:Hp):List ak:=(bH h.objs.size).filter fun a=>(H a).isSome
noncomputable def Cp (h:cy) (H:Hp):cy:=PySem.W.hideAll h (trk h H)
theorem BW (h:cy) (H:Hp):(Cp h H).objs.size=h.objs.size:=PySem.W.hideAll_size _ _
theorem Dn {h:cy} {H:Hp} {b:ak} {o:dz} (e:h.get? b=some o) (n:H b=none):(Cp h H).get? b=some o :=
 PySem.W.hideAll_get _ e fun hm=>by
  have q:(H b).isSome=true:=(aG.mp hm).2
  rw [n] at q;simp at q
theorem Fo {h:cy} {H:Hp} {b:ak} {o:dz} (e:(Cp h H).get? b=some o):h.get? b=some o/\H b=none:=by
 have e':h.get? b=some o:=PySem.W.of_hideAll (trk h H) e
 refine ⟨e',?_⟩
 cases q:H b with
 | none=>rfl
 | some x =>
   have hm:b∈trk h H:=aG.mpr ⟨jg.mpr (aH e'),by simp [q]⟩
   have z:(Cp h H).get? b=none:=PySem.W.hideAll_none (trk h H) hm
   rw [z] at e;cases e
structure Mod (K:ac) (mg:bM->Option ae) (base:cy):Prop where
 kin:K.In base
 glob:base.Ns aQ mg
 blt:∃ mb,base.Ns oG mb/\∀ x:bM,x≠"__name__"->mb x=iE x
 nolimit:base.NoLimit
structure Cx where
 prog:bC
 w:cf
 K:ac
 mg:bM->Option ae
 base:cy
 A:bL
 N:List bM
 s₀:ai
 H₀:Hp
 env:p4
 outer:List p4
 stack:List p4
 ex:List ak
 fn:bM->Bool
 calm:Bool
 pn:List (ak×dz)
 xe:ae->ai->Prop
noncomputable def frs (l:List p4):List ak:=l.filterMap (·.frame)
noncomputable abbrev Cx.fs (X:Cx):List ak:=frs X.outer
noncomputable def Vis (sc:eI) (x:bM):Prop:=sc.names.lookup x=some .local\/sc.names.lookup x=some .cell\/sc.names.lookup x=some .free
noncomputable def Loc (sc:eI) (x:bM):Prop:=sc.names.lookup x=some .local\/sc.names.lookup x=some .cell
noncomputable def Mk (env:p4) (h:cy) (m:bM->Option ae) (x:bM) (u:ae):Prop :=
 (env.kindOf x=some .local/\m x=some u)\/((env.kindOf x=some .cell\/env.kindOf x=some .free)/\∃ c,env.cells.lookup x=some c/\h.IsCell c (some u))
structure Cx.Ok (X:Cx):Prop where
 mod:Mod X.K X.mg X.base
 kind:X.env.scope.kind=.function
 glob:X.env.globals=aQ
 blt:X.env.builtins=oG
 above:X.s₀.heap.objs.size<=X.env.locals
 inj:∀ x y c,X.env.cells.lookup x=some c->X.env.cells.lookup y=some c->x=y
 has:∀ x,(X.env.kindOf x=some .cell\/X.env.kindOf x=some .free)->∃ c,X.env.cells.lookup x=some c
 cab:∀ x c,X.fn x=true->X.env.cells.lookup x=some c->X.s₀.heap.objs.size<=c
 hd:X.calm=true->X.A.handled=none
 frames:X.A.frames=some X.stack
 stk:X.stack=X.outer\/(X.stack=X.env::X.outer/\X.env.frame=some X.env.locals)
 exf:∀ b∈X.ex,b≠X.env.locals/\∀ x c,X.env.cells.lookup x=some c->c≠b
 bs:∀ b o,X.base.get? b=some o->X.s₀.heap.get? b=some o/\X.H₀ b=none
 bsz:X.base.objs.size<=X.s₀.heap.objs.size
 noex:∀ b o,X.base.get? b=some o->b∉X.ex
 exfs:∀ b∈X.ex,b∉X.fs
 funs:X.s₀.heap.FunFrames X.base X.outer
 frf:∀ b∈X.fs,X.H₀ b=none
structure Inv (X:Cx) (pins:List (ak×dz)) (σ:List (Option V)) (H:Hp) (s:ai):Prop where
 ok:X.Ok
 os:s.os=X.s₀.os
 bare:lL s.gens
 base:Un X.fs X.ex X.H₀ H X.s₀.heap s.heap
 loc:∃ m,s.heap.Ns X.env.locals m/\∀ (i:Nat) (x:bM) (v:V),X.N[i]?=some x->σ[i]?=some (some v)->Vis X.env.scope x->∃ u,gH v u/\Mk X.env s.heap m x u
 cell:∀ x c,X.env.cells.lookup x=some c->∃ v,s.heap.IsCell c v
 free:H X.env.locals=none
 freeC:∀ x c,X.env.cells.lookup x=some c->H c=none
 pin:∀ p∈X.pn++pins,s.heap.get? p.1=some p.2/\H p.1=none/\p.1≠X.env.locals/\p.1∉X.fs/\∀ v,p.2.data≠.cell v
 hok:HOk X.prog X.w H s.heap
 len:σ.length=X.N.length
section
variable {X:Cx} {pins:List (ak×dz)} {σ:List (Option V)} {H H':Hp} {s:ai} {h':cy}
theorem Cx.Ok.nofr (ok:X.Ok) {b:ak} {o:dz} (e:X.base.get? b=some o):b∉X.fs:=fun hb=>by
 have:=(ok.funs.mem hb).1
 rw [e] at this;cases this
theorem Inv.bs (I:Inv X pins σ H s):∀ b o,X.base.get? b=some o->s.heap.get? b=some o/\H b=none:=fun b o e =>
 ⟨I.base.keep b o (I.ok.bs b o e).1 (I.ok.bs b o e).2 (I.ok.nofr e) (I.ok.noex b o e),I.base.free b o (I.ok.bs b o e).1 (I.ok.bs b o e).2 (I.ok.noex b o e)⟩
theorem Inv.bk (I:Inv X pins σ H s):∀ b o,X.base.get? b=some o->s.heap.get? b=some o:=fun b o e=>(I.bs b o e).1
theorem Inv.mod (I:Inv X pins σ H s):Mod X.K X.mg X.base:=I.ok.mod
theorem Inv.kIn (I:Inv X pins σ H s):X.K.In s.heap:=I.ok.mod.kin.keeps I.bk
theorem Inv.nolimit (I:Inv X pins σ H s):s.heap.NoLimit:=I.ok.mod.nolimit.keeps I.bk
theorem Inv.lt (I:Inv X pins σ H s):X.env.locals<s.heap.objs.size:=let ⟨_,hn,_⟩:=I.loc;hn.lt
theorem Inv.sz (I:Inv X pins σ H s):X.s₀.heap.objs.size<=s.heap.objs.size:=bO I.ok.above (jc I.lt)
theorem Inv.nofs (I:Inv X pins σ H s) {a:ak} (h:s.heap.objs.size<=a):a∉X.fs:=fun hb=>by
 obtain ⟨_,o,ho,_⟩:=I.ok.funs.mem hb
 exact absurd (bj (aH ho) (bO I.sz h)) (cq _)
theorem Inv.cne (I:Inv X pins σ H s):∀ x c,X.env.cells.lookup x=some c->c≠X.env.locals:=fun x c e z=>by
 obtain ⟨v,o,ho,hd⟩:=I.cell x c e
 obtain ⟨m,⟨o',es,ep,ho',hd',_⟩,_⟩:=I.loc
 rw [z,ho'] at ho;cases ho;rw [hd'] at hd;cases hd
theorem Inv.funs (I:Inv X pins σ H s):s.heap.FunFrames X.base X.outer:=by
 have all:∀ (l:List p4),(∀ b∈frs l,b∈X.fs)->X.s₀.heap.FunFrames X.base l->s.heap.FunFrames X.base l:=by
  intro l
  induction l with
  | nil=>intro _ _;trivial
  | cons env r ih =>
    intro hs hl
    obtain ⟨hk,⟨L,o,hf,hn,ho,hd⟩,hr⟩:=hl
    have hL:L∈X.fs:=hs L (by unfold frs;rw [lX,hf];exact ah)
    obtain ⟨sl,e⟩:=I.base.slot L o ho (I.ok.frf L hL) hL fun z=>I.ok.exfs L z hL
    exact ⟨hk,⟨L,_,hf,hn,e,hd⟩,ih (fun b hb=>hs b (by unfold frs;rw [lX,hf];exact af _ hb)) hr⟩
 exact all X.outer (fun _ hb=>hb) I.ok.funs
theorem Inv.stack (I:Inv X pins σ H s):s.heap.FunFrames X.base X.stack:=by
 rcases I.ok.stk with e | ⟨e,hf⟩
 ·rw [e];exact I.funs
 ·rw [e]
  obtain ⟨m,hn,_⟩:=I.loc
  refine .cons (by rw [I.ok.kind];decide) hf hn ?_ I.funs
  exact Heap.get?_none_of_le (bO I.ok.bsz I.ok.above)
theorem Inv.stkSub (I:Inv X pins σ H s):∀ b∈frs X.stack,b∈X.env.locals::X.fs:=fun b hb=>by
 rcases I.ok.stk with e | ⟨e,hf⟩
 ·rw [e] at hb;exact af _ hb
 ·rw [e] at hb
  unfold frs at hb
  rw [lX,hf] at hb
  exact hb
theorem Inv.stkFree (I:Inv X pins σ H s):∀ b∈frs X.stack,H b=none:=fun b hb=>by
 rcases ao.mp (I.stkSub b hb) with e | hb
 ·rw [e];exact I.free
 ·obtain ⟨_,o,ho,_⟩:=I.ok.funs.mem hb
  exact I.base.free b o ho (I.ok.frf b hb) fun z=>I.ok.exfs b z hb
theorem Inv.step {g':Array GenState} {t':Nat} {d':Drawn} {ch:List ak} (I:Inv X pins σ H s)
 (hch:∀ b∈ch,(b∈X.ex\/X.s₀.heap.objs.size<=b)/\b≠X.env.locals/\(∀ x c,X.env.cells.lookup x=some c->c≠b)/\∀ p∈X.pn++pins,p.1≠b)
 (keep:∀ b o,b≠X.env.locals->b∉X.fs->b∉ch->s.heap.get? b=some o->H b=none->h'.get? b=some o)
 (slot:∀ b o,b≠X.env.locals->b∈X.fs->b∉ch->s.heap.get? b=some o->H b=none->∃ sl,h'.get? b=some { o with slots:=sl }) (free:∀ b o,b∉ch->s.heap.get? b=some o->H b=none->H' b=none)
 (there:∀ b o,b∉ch->s.heap.get? b=some o->∃ o',h'.get? b=some o')
 (tups:∀ b xs,H b=some (.tup xs)->H' b=some (.tup xs)) (frzs:∀ b o u,H b=some (.frz o u)->H' b=some (.frz o u)) (tbls:∀ b ps,H b=some (.tbl ps)->∃ more,H' b=some (.tbl (ps++more)))
 (ns:∀ m,s.heap.Ns X.env.locals m->h'.Ns X.env.locals m) (hok:HOk X.prog X.w H' h') (hg:lL g') :
 Inv X pins σ H' { s with heap:=h',gens:=g',drawn:=d',toks:=t' }:=by
 have neL:∀ b o,X.s₀.heap.get? b=some o->b≠X.env.locals:=fun b o e=>bu (bj (aH e) I.ok.above)
 have neC:∀ b o,X.s₀.heap.get? b=some o->b∉X.ex->b∉ch:=fun b o e hx hb=>by
  rcases (hch b hb).1 with z | z
  ·exact hx z
  ·exact absurd (bj (aH e) z) (cq _)
 have cellK:∀ x c,X.env.cells.lookup x=some c->∀ v,s.heap.IsCell c v->h'.IsCell c v:=fun x c e v ⟨o,ho,hd⟩=>by
  have nch:c∉ch:=fun z=>(hch c z).2.2.1 x c e rfl
  by_cases hc:c∈X.fs
  ·obtain ⟨sl,q⟩:=slot c o (I.cne x c e) hc nch ho (I.freeC x c e)
   exact ⟨_,q,hd⟩
  ·exact ⟨o,keep c o (I.cne x c e) hc nch ho (I.freeC x c e),hd⟩
 refine ⟨I.ok,I.os,hg,⟨fun b o e n hb hx=>?_,fun b o e n hb hx=>?_,fun b o e n hx=>?_,fun b o e hx=>?_,fun b xs e=>tups b xs (I.base.tups b xs e),fun b o xs e=>frzs b o xs (I.base.frzs b o xs e),fun b ps e=>?_⟩,?_,fun x c e=>?_,?_,fun x c e=>?_,fun p hp=>?_,hok,I.len⟩
 ·exact keep b o (neL b o e) hb (neC b o e hx) (I.base.keep b o e n hb hx) (I.base.free b o e n hx)
 ·obtain ⟨sl,e1⟩:=I.base.slot b o e n hb hx
  obtain ⟨sl',e2⟩:=slot b _ (neL b o e) hb (neC b o e hx) e1 (I.base.free b o e n hx)
  exact ⟨sl',e2⟩
 ·obtain ⟨o',e1⟩:=I.base.there b o e hx
  exact free b o' (neC b o e hx) e1 (I.base.free b o e n hx)
 ·obtain ⟨o',e1⟩:=I.base.there b o e hx
  exact there b o' (neC b o e hx) e1
 ·obtain ⟨m1,e1⟩:=I.base.tbls b ps e
  obtain ⟨m2,e2⟩:=tbls b _ e1
  exact ⟨m1++m2,by rw [e2,Array.append_assoc]⟩
 ·obtain ⟨m,hn,hl⟩:=I.loc
  refine ⟨m,ns m hn,fun i x v e1 e2 e3=>?_⟩
  obtain ⟨u,r,l⟩:=hl i x v e1 e2 e3
  refine ⟨u,r,?_⟩
  rcases l with l | ⟨k,c,e,z⟩
  ·exact .inl l
  ·exact .inr ⟨k,c,e,cellK x c e _ z⟩
 ·obtain ⟨v,z⟩:=I.cell x c e
  exact ⟨v,cellK x c e v z⟩
 ·obtain ⟨m,⟨o,_,_,ho,_⟩,_⟩:=I.loc
  exact free _ o (fun z=>(hch _ z).2.1 rfl) ho I.free
 ·obtain ⟨v,o,ho,hd⟩:=I.cell x c e
  exact free c o (fun z=>(hch c z).2.2.1 x c e rfl) ho (I.freeC x c e)
 ·obtain ⟨e,n,ne,nf,d⟩:=I.pin p hp
  have nch:p.1∉ch:=fun z=>(hch p.1 z).2.2.2 p hp rfl
  exact ⟨keep p.1 p.2 ne nf nch e n,free p.1 p.2 nch e n,ne,nf,d⟩
theorem Inv.un {t':Nat} (I:Inv X pins σ H s) (u:Un X.fs [] H H' s.heap h') (hok:HOk X.prog X.w H' h'):Inv X pins σ H' { s with heap:=h',toks:=t' }:=by
 obtain ⟨m,⟨o,es,ep,ho,r⟩,_⟩:=id I.loc
 obtain ⟨sl,hL⟩:=u.any ho I.free (by simp)
 exact I.step (g':=s.gens) (d':=s.drawn) (ch:=[]) (fun _ z=>nomatch z) (fun b o _ hb _ e n=>u.keep b o e n hb (by simp)) (fun b o _ hb _ e n=>u.slot b o e n hb (by simp)) (fun b o _ e n=>u.free b o e n (by simp)) (fun b o _ e=>u.there b o e (by simp)) u.tups u.frzs u.tbls (fun m' hm=>by
  obtain ⟨o',es',ep',ho',r'⟩:=hm
  rw [ho] at ho';cases ho'
  exact ⟨_,es',ep',hL,r'⟩) hok I.bare
theorem Inv.call {g':Array GenState} {t':Nat} {d':Drawn} {ch:List ak} (I:Inv X pins σ H s) (u:Un (frs X.stack) ch H H' s.heap h') (hok:HOk X.prog X.w H' h') (hg:lL g')
 (hch:∀ b∈ch,(b∈X.ex\/X.s₀.heap.objs.size<=b)/\b≠X.env.locals/\(∀ x c,X.env.cells.lookup x=some c->c≠b)/\∀ p∈X.pn++pins,p.1≠b) :
 Inv X pins σ H' { s with heap:=h',gens:=g',drawn:=d',toks:=t' }:=by
 obtain ⟨m,⟨o,es,ep,ho,r⟩,_⟩:=id I.loc
 obtain ⟨sl,hL⟩:=u.any ho I.free fun z=>(hch _ z).2.1 rfl
 exact I.step (ch:=ch) hch (fun b o hL hb hc e n=>u.keep b o e n (fun z=>(ao.mp (I.stkSub b z)).elim hL hb) hc) (fun b o _ _ hc e n=>u.any e n hc) (fun b o hc e n=>u.free b o e n hc) (fun b o hc e=>u.there b o e hc) u.tups u.frzs u.tbls (fun m' hm=>by
  obtain ⟨o',es',ep',ho',r'⟩:=hm
  rw [ho] at ho';cases ho'
  exact ⟨_,es',ep',hL,r'⟩) hok hg
theorem Inv.turned {t':Nat} {it:ak} (I:Inv X pins σ H s) (k:∀ b o,b≠it->s.heap.get? b=some o->h'.get? b=some o) (hn:H it=none) (hL:it≠X.env.locals)
 (h1:it∈X.ex\/X.s₀.heap.objs.size<=it) (h2:∀ x c,X.env.cells.lookup x=some c->c≠it) (h3:∀ p∈X.pn++pins,p.1≠it):Inv X pins σ H { s with heap:=h',toks:=t' }:=by
 have nit:∀ b u,H b=some u->b≠it:=fun b u e z=>by rw [z,hn] at e;cases e
 refine I.step (g':=s.gens) (d':=s.drawn) (ch:=[it]) (fun b hb=>?_) (fun b o _ _ hc e _=>k b o (fun z=>hc (by simp [z])) e) (fun b o _ _ hc e _=>⟨o.slots,k b o (fun z=>hc (by simp [z])) e⟩) (fun _ _ _ _ n=>n)
  (fun b o hc e=>⟨o,k b o (fun z=>hc (by simp [z])) e⟩) (fun _ _ e=>e) (fun _ _ _ e=>e) (fun b ps e=>⟨#[],by rw [e];simp⟩) (fun m hm=>?_) (fun b u e=>?_) I.bare
 ·have e:b=it:=by simpa using hb
  subst e
  exact ⟨h1,hL,h2,h3⟩
 ·obtain ⟨o,es,ep,ho,r⟩:=hm
  exact ⟨o,es,ep,k _ o (Ne.symm hL) ho,r⟩
 ·refine (I.hok b u e).stay (fun c v hc q=>k c v ?_ q) (fun _ q=>q) (fun _ _ q=>q) fun _ _ q=>q
  rcases hc with z | z
  ·rw [z];exact nit b u e
  ·exact nit c _ z
theorem Inv.tok (I:Inv X pins σ H s) (t:Nat):Inv X pins σ H { s with toks:=t }:=I.un (h':=s.heap) (t':=t) Un.refl I.hok
theorem Inv.kept {t':Nat} (I:Inv X pins σ H s) (k:∀ b u,s.heap.get? b=some u->h'.get? b=some u):Inv X pins σ H { s with heap:=h',toks:=t' }:=I.un (Un.kept k) (I.hok.kept k)
theorem Inv.laid {a:ak} {o:HO} {t':Nat} (I:Inv X pins σ H s) (k:∀ b u,s.heap.get? b=some u->h'.get? b=some u) (hp:s.heap.objs.size<=a) (new:gV X.prog X.w (upd H a o) h' a o) :
 Inv X pins σ (upd H a o) { s with heap:=h',toks:=t' }:=I.un (Un.laid k hp (I.hok.fresh hp)) (I.hok.laid k hp new)
theorem Inv.write {x e:ak} {o:HO} {t':Nat} (I:Inv X pins σ H s) (mu:Mut (H x)) (he:e=x\/H e=some (.own x)) (k:∀ b u,b≠e->s.heap.get? b=some u->h'.get? b=some u) (heo:∃ u,h'.get? e=some u)
 (new:gV X.prog X.w (upd H x o) h' x o):Inv X pins σ (upd H x o) { s with heap:=h',toks:=t' }:=I.un (Un.write mu he k heo) (I.hok.write mu he k heo new)
theorem Inv.pins_of {pins':List (ak×dz)} (I:Inv X pins σ H s) (h:∀ p∈pins',s.heap.get? p.1=some p.2/\H p.1=none/\p.1≠X.env.locals/\p.1∉X.fs/\∀ v,p.2.data≠.cell v):Inv X pins' σ H s :=
 ⟨I.ok,I.os,I.bare,I.base,I.loc,I.cell,I.free,I.freeC,fun p hp=>(aD.mp hp).elim (fun z=>I.pin p (bw _ z)) (h p),I.hok,I.len⟩
theorem si {N:List bM} (hN:N.Nodup) {i j:Nat} {x:bM} (a:N[i]?=some x) (b:N[j]?=some x):i=j:=by
 obtain ⟨h1,e1⟩:=aF.mp a
 obtain ⟨h2,e2⟩:=aF.mp b
 exact (iD hN).mp (e1.trans e2.symm)
theorem AS {M:Model} {A:bL} {E:ae->ai->Prop} {i:Nat} {x:bM} {v:V} {u:ae} {Q:Unit->ai->Prop} (I:Inv X pins σ H s) (hN:X.N.Nodup) (hi:X.N[i]?=some x) (hx:Loc X.env.scope x) (r:gH v u)
 (h:∀ s',Inv X pins (σ.set i (some v)) H s'->(∃ a,kx a s.heap s'.heap/\(a=X.env.locals\/X.env.cells.lookup x=some a))->Q () s') (hf:X.fn x=true\/X.env.scope.names.lookup x=some .local:=by first | exact .inl rfl | exact .inr rfl | assumption):aM M A (storeName X.env x u) Q E s:=by
 obtain ⟨m,hn,hl⟩:=id I.loc
 have hcls:(X.env.scope.kind == .class||(X.env.scope.kind == .module&&X.env.locals != X.env.globals))=false:=by rw [I.ok.kind];rfl
 have hiσ:i<σ.length:=by rw [I.len];exact (aF.mp hi).1
 have cne:=I.cne
 have tracked:∀ {a:ak} {h':cy},(∃ o,s.heap.get? a=some o/\H a=none)->kx a s.heap h'->HOk X.prog X.w H h':=fun {a h'} ha hs b ob e=>by
  obtain ⟨_,_,hfree⟩:=ha
  refine (I.hok b ob e).stay (fun c w' hc q=>(hs.2 c ?_).trans q) (fun _ q=>q) (fun _ _ q=>q) fun _ _ q=>q
  rintro rfl
  rcases hc with rfl | hc
  ·rw [hfree] at e;cases e
  ·rw [hfree] at hc;cases hc
 rcases hx with hk | hk
 ·refine wpAny_storeName_local hk hn (fun h' hn' hs=>?_) hcls
  obtain ⟨oL,_,_,hoL,_⟩:=id hn
  refine h _ ⟨I.ok,I.os,I.bare,⟨fun b o e n hb hx=>?_,fun b o e n hb hx=>?_,I.base.free,fun b o e hx=>?_,I.base.tups,I.base.frzs,I.base.tbls⟩,⟨_,hn',fun j y v' e1 e2 e3=>?_⟩,fun y c e=>?_,I.free,I.freeC,fun p hp=>?_,tracked ⟨oL,hoL,I.free⟩ hs,by simpa using I.len⟩ ⟨_,hs,.inl rfl⟩
  ·exact (hs.2 b (bu (bj (aH e) I.ok.above))).trans (I.base.keep b o e n hb hx)
  ·obtain ⟨sl,e1⟩:=I.base.slot b o e n hb hx
   exact ⟨sl,(hs.2 b (bu (bj (aH e) I.ok.above))).trans e1⟩
  ·obtain ⟨o',e1⟩:=I.base.there b o e hx
   exact ⟨o',(hs.2 b (bu (bj (aH e) I.ok.above))).trans e1⟩
  ·by_cases hj:j=i
   ·subst hj
    rw [hi] at e1;cases e1
    rw [ba hiσ] at e2
    cases e2
    exact ⟨u,r,.inl ⟨hk,by simp⟩⟩
   ·rw [bb (Ne.symm hj)] at e2
    obtain ⟨u',r',q⟩:=hl j y v' e1 e2 e3
    refine ⟨u',r',?_⟩
    rcases q with ⟨k,e⟩ | ⟨k,c,e,z⟩
    ·refine .inl ⟨k,?_⟩
     have:y≠x:=fun e=>hj (si hN e1 (e▸hi))
     simp [this,e]
    ·exact .inr ⟨k,c,e,z.sameBut hs (cne y c e)⟩
  ·obtain ⟨w',z⟩:=I.cell y c e
   exact ⟨w',z.sameBut hs (cne y c e)⟩
  ·obtain ⟨e,n,ne,nf,d⟩:=I.pin p hp
   exact ⟨(hs.2 p.1 ne).trans e,n,ne,nf,d⟩
 ·have hfn:X.fn x=true:=by
   rcases hf with z | z
   ·exact z
   ·rw [z] at hk;cases hk
  obtain ⟨c,hc⟩:=I.ok.has x (.inl hk)
  obtain ⟨w',z⟩:=I.cell x c hc
  refine wpAny_storeName_cell I.ok.kind hk hc z (fun h' hc' hs=>?_)
  obtain ⟨oc,hoc,hocd⟩:=id z
  refine h { s with heap:=h' } ⟨I.ok,I.os,I.bare,⟨fun b o e n hb hx=>?_,fun b o e n hb hx=>?_,I.base.free,fun b o e hx=>?_,I.base.tups,I.base.frzs,I.base.tbls⟩,⟨m,hn.sameBut hs (Ne.symm (cne x c hc)),fun j y v' e1 e2 e3=>?_⟩,fun y c' e=>?_,I.free,I.freeC,fun p hp=>?_,tracked ⟨oc,hoc,I.freeC x c hc⟩ hs,by simpa using I.len⟩ ⟨c,hs,.inr hc⟩
  ·exact (hs.2 b (bu (bj (aH e) (I.ok.cab x c hfn hc)))).trans (I.base.keep b o e n hb hx)
  ·obtain ⟨sl,e1⟩:=I.base.slot b o e n hb hx
   exact ⟨sl,(hs.2 b (bu (bj (aH e) (I.ok.cab x c hfn hc)))).trans e1⟩
  ·obtain ⟨o',e1⟩:=I.base.there b o e hx
   exact ⟨o',(hs.2 b (bu (bj (aH e) (I.ok.cab x c hfn hc)))).trans e1⟩
  ·by_cases hj:j=i
   ·subst hj
    rw [hi] at e1;cases e1
    rw [ba hiσ] at e2
    cases e2
    exact ⟨u,r,.inr ⟨.inl hk,c,hc,hc'⟩⟩
   ·rw [bb (Ne.symm hj)] at e2
    obtain ⟨u',r',q⟩:=hl j y v' e1 e2 e3
    refine ⟨u',r',?_⟩
    rcases q with q | ⟨k,c',e,z'⟩
    ·exact .inl q
    ·refine .inr ⟨k,c',e,z'.sameBut hs ?_⟩
     rintro rfl
     exact hj (si hN e1 (I.ok.inj _ _ _ e hc▸hi))
  ·by_cases hcc:c'=c
   ·subst hcc;exact ⟨_,hc'⟩
   ·obtain ⟨w2,z2⟩:=I.cell y c' e
    exact ⟨w2,z2.sameBut hs hcc⟩
  ·obtain ⟨e,n,ne,nf,d⟩:=I.pin p hp
   refine ⟨(hs.2 p.1 ?_).trans e,n,ne,nf,d⟩
   intro q
   rw [q,hoc] at e
   have q':oc=p.2:=bU e
   exact d w' (by rw [<- q'];exact hocd)
theorem xT {M:Model} {A:bL} {E:ae->ai->Prop} {i:Nat} {x:bM} {v:V} {u:ae} {Q:Unit->ai->Prop} (I:Inv X pins σ H s) (hN:X.N.Nodup) (hi:X.N[i]?=some x) (hx:Loc X.env.scope x) (r:gH v u)
 (h:∀ s',Inv X pins (σ.set i (some v)) H s'->Q () s') (hf:X.fn x=true\/X.env.scope.names.lookup x=some .local:=by first | exact .inl rfl | exact .inr rfl | assumption):aM M A (storeName X.env x u) Q E s :=
 AS I hN hi hx r (fun s' I' _=>h s' I') hf
theorem Inv.call' {s':ai} {ch:List ak} (I:Inv X pins σ H s) (ho:s'.os=s.os) (u:Un (frs X.stack) ch H H' s.heap s'.heap) (hok:HOk X.prog X.w H' s'.heap) (hg:lL s'.gens)
 (hch:∀ b∈ch,(b∈X.ex\/X.s₀.heap.objs.size<=b)/\b≠X.env.locals/\(∀ x c,X.env.cells.lookup x=some c->c≠b)/\∀ p∈X.pn++pins,p.1≠b):Inv X pins σ H' s':=by
 obtain ⟨h',g',d',t',o'⟩:=s'
 have e:o'=s.os:=ho
 subst e
 exact I.call (g':=g') (t':=t') (d':=d') u hok hg hch
end
noncomputable abbrev XK:=ae->Option ak->Hp->Prop
noncomputable abbrev St:=List (Option V)
noncomputable abbrev VK:=V->Hp->Prop
noncomputable abbrev TE:=St->Hp->VK->Prop
noncomputable abbrev TT:=St->Hp->(Bool->Hp->Prop)->Prop
noncomputable abbrev TA:=St->Hp->(List V->Hp->Prop)->Prop
structure FH where
 nx:St->Hp->Prop
 rt:VK
 bk:St->Hp->Prop:=fun _ _=>False
 ct:St->Hp->Prop:=fun _ _=>False
noncomputable abbrev TS:=FH->St->Hp->Prop
noncomputable def EP (X:Cx) (pins:List (ak×dz)) (σ:St) (Q:VK) (u:ae) (s':ai):Prop:=∃ v H',Inv X pins σ H' s'/\gH v u/\Q v H'
noncomputable def TP (X:Cx) (pins:List (ak×dz)) (σ:St) (Q:Bool->Hp->Prop) (b:Bool) (s':ai):Prop:=∃ H',Inv X pins σ H' s'/\Q b H'
noncomputable def AP (X:Cx) (pins:List (ak×dz)) (σ:St) (Q:List V->Hp->Prop) (us:List ae) (s':ai):Prop:=∃ vs H',Inv X pins σ H' s'/\eG vs us/\Q vs H'
noncomputable def SP (X:Cx) (pins:List (ak×dz)) (D:FH) (f:Flow) (s':ai):Prop :=
 match f with
 | .next=>∃ σ' H',Inv X pins σ' H' s'/\D.nx σ' H'
 | .brk=>∃ σ' H',Inv X pins σ' H' s'/\D.bk σ' H'
 | .cont=>∃ σ' H',Inv X pins σ' H' s'/\D.ct σ' H'
 | .ret u=>∃ v σ' H',Inv X pins σ' H' s'/\gH v u/\D.rt v H'
noncomputable def PE (X:Cx) (e:aS) (t:TE):Prop :=
 ∀ (pins:List (ak×dz)) (s:ai) (σ:St) (H:Hp) (Q:VK),Inv X pins σ H s->t σ H Q->aM (bg X.prog X.w) X.A (b9 e X.env) (EP X pins σ Q) X.xe s
noncomputable def PT (X:Cx) (e:aS) (t:TT):Prop :=
 ∀ (pins:List (ak×dz)) (s:ai) (σ:St) (H:Hp) (Q:Bool->Hp->Prop),Inv X pins σ H s->t σ H Q->aM (bg X.prog X.w) X.A (isTrue e X.env (b9 e X.env)) (TP X pins σ Q) X.xe s
noncomputable def PW (X:Cx) (e:aS) (t:TT):Prop :=
 ∀ (whole:Sem ae) (pins:List (ak×dz)) (s:ai) (σ:St) (H:Hp) (Q:Bool->Hp->Prop),Inv X pins σ H s->t σ H Q->aM (bg X.prog X.w) X.A (isTrue e X.env whole) (TP X pins σ Q) X.xe s
theorem PW.pt {X:Cx} {e:aS} {t:TT} (h:PW X e t):PT X e t:=h _
noncomputable def PA (X:Cx) (es:List aS) (t:TA):Prop :=
 ∀ (pos:ft) (pins:List (ak×dz)) (s:ai) (σ:St) (H:Hp) (Q:List V->Hp->Prop),Inv X pins σ H s->t σ H Q->aM (bg X.prog X.w) X.A (spliced (cz pos (am es X.env))) (AP X pins σ Q) X.xe s
noncomputable def PS (X:Cx) (st:cX) (t:TS):Prop :=
 ∀ (pins:List (ak×dz)) (s:ai) (σ:St) (H:Hp) (D:FH),Inv X pins σ H s->t D σ H->aM (bg X.prog X.w) X.A (exec st X.env) (SP X pins D) X.xe s
noncomputable def PSs (X:Cx) (st:List cX) (t:TS):Prop :=
 ∀ (pins:List (ak×dz)) (s:ai) (σ:St) (H:Hp) (D:FH),Inv X pins σ H s->t D σ H->aM (bg X.prog X.w) X.A (execs st X.env) (SP X pins D) X.xe s
theorem thn {α:Type} {t:Sem α} {Q Q':α->ai->Prop} {M:Model} {A:bL} {E:ae->ai->Prop} {s:ai} (h:aM M A t Q E s) (hQ:∀ a s,Q a s->Q' a s):aM M A t Q' E s:=d6 h hQ fun _ _ x=>x
section
variable {X:Cx}
noncomputable def ku (i:Nat):TE:=fun σ H Q=>∃ v,σ[i]?=some (some v)/\Q v H
noncomputable def tC (v:V):TE:=fun _ H Q=>Q v H
theorem wQ {i:Nat} {x:bM} {pos:ft} (hN:X.N[i]?=some x) (hv:Vis X.env.scope x) (hd:(x == ("__debug__" : bM))=false:=by decide) (hcd:(x == ("__classdict__" : bM))=false:=by decide):PE X (.Name x pos) (ku i):=by
 intro pins s σ H Q I h
 obtain ⟨v,e,h⟩:=h
 obtain ⟨m,hn,hl⟩:=I.loc
 obtain ⟨u,r,l⟩:=hl i x v hN e hv
 have fin:EP X pins σ Q u s:=⟨v,H,I,r,h⟩
 rcases l with ⟨hk,hm⟩ | ⟨hk,c,hc,hcell⟩
 ·exact wpAny_Name (wpAny_loadName_local I.ok.kind hk hn hm fin) hd
 ·rcases hk with hk | hk
  ·exact wpAny_Name (wpAny_loadName_cell I.ok.kind hk hc hcell fin) hd
  ·exact wpAny_Name (wpAny_loadName_free I.ok.kind hk hc hcell fin hcd) hd
theorem Iq {i j pos}:PE X (.Constant (.int i) j pos) (tC (.int i)):=fun _ _ _ H _ I h=>wpAny_Constant_int ⟨.int i,H,I.tok _,⟨_,rfl⟩,h⟩
theorem Bq {b j pos}:PE X (.Constant (.bool b) j pos) (tC (.bl b)):=fun _ _ _ H _ I h=>Constant_bool ⟨.bl b,H,I,rfl,h⟩
noncomputable def Gl (X:Cx) (x:bM):Prop:=X.env.kindOf x=some .globalImplicit
theorem Fu {E:ae->ai->Prop} {pins:List (ak×dz)} {s:ai} {σ:St} {H:Hp} {x:bM} {u:ae} {pos:ft} {Q:ae->ai->Prop} (I:Inv X pins σ H s) (hg:Gl X x) (hm:X.mg x=some u) (h:Q u s)
 (hd:(x == ("__debug__" : bM))=false:=by decide):aM (bg X.prog X.w) X.A (b9 (.Name x pos) X.env) Q E s :=
 p5 I.ok.kind hg (Calls.loadGlobal_global (by rw [I.ok.glob];exact I.mod.glob.keeps I.bk) hm h) hd
theorem nU {E:ae->ai->Prop} {pins:List (ak×dz)} {s:ai} {σ:St} {H:Hp} {x:bM} {u:ae} {pos:ft} {Q:ae->ai->Prop} (I:Inv X pins σ H s) (hg:Gl X x) (hm:X.mg x=none) (hv:iE x=some u) (h:Q u s)
 (hn:x≠"__name__":=by decide) (hd:(x == ("__debug__" : bM))=false:=by decide):aM (bg X.prog X.w) X.A (b9 (.Name x pos) X.env) Q E s:=by
 obtain ⟨mb,h1,h2⟩:=I.mod.blt
 exact p5 I.ok.kind hg (Calls.loadGlobal_builtin (by rw [I.ok.glob];exact I.mod.glob.keeps I.bk) hm (by rw [I.ok.blt];exact h1.keeps I.bk) ((h2 x hn).trans hv) h) hd
variable {a b:aS} {ta tb:TE} {pos:ft}
noncomputable def PC (X:Cx) (op:p6) (a b:aS) (t:TE):Prop :=
 ∀ (pins:List (ak×dz)) (s:ai) (σ:St) (H:Hp) (Q:VK),Inv X pins σ H s->t σ H Q ->
   aM (bg X.prog X.w) X.A (b9 a X.env) (fun v s₁=>aM (bg X.prog X.w) X.A (b9 b X.env) (fun u s₂=>aM (bg X.prog X.w) X.A (d7 op v u) (EP X pins σ Q) X.xe s₂) X.xe s₁) X.xe s
noncomputable def tB (t:TE):TT:=fun σ H Q=>t σ H fun x H1=>∃ c,x=.bl c/\Q c H1
theorem AR {op:p6} {t:TE} (h:PC X op a b t) (h1:eV op b=false:=by first | exact nobehind _ (by decide) (by decide) | rfl):PT X (.Compare a [op] [b] pos) (tB t):=by
 intro pins s σ H Q I hw
 refine B5 (thn (h pins s σ H _ I hw) fun v s1 h1=>thn h1 fun u s2 h2=>thn h2 fun c s3 ⟨x,H1,I1,r1,q1⟩=>?_) h1
 obtain ⟨d,rfl,q⟩:=q1
 cases r1
 exact dF ⟨H1,I1,q⟩
theorem Ku {e:aS} {t:TE} (h:PE X e t) (he:∀ whole,isTrue e X.env whole=(do let v <- whole;u9 e.pos;va [v] (truthy v)):=by intro _;rfl):PT X e (tB t):=by
 intro pins s σ H Q I hw
 refine isTrue_plain (thn (h pins s σ H _ I hw) fun v s1 ⟨x,H1,I1,r1,q1⟩=>?_) (he _)
 obtain ⟨d,rfl,q⟩:=q1
 cases r1
 exact dF ⟨H1,I1,q⟩
variable {tA tB':TT} {rest:List aS}
noncomputable def LU (t u:TT):TT:=fun σ H Q=>t σ H fun c H1=>if c=true then u σ H1 Q else Q false H1
noncomputable def tOr (t u:TT):TT:=fun σ H Q=>t σ H fun c H1=>if c=true then Q true H1 else u σ H1 Q
theorem GA (ha:PT X a tA):PW X (.BoolOp .And [a] pos) tA:=by
 intro wh pins s σ H Q I h
 refine isTrue_and (thn (ha pins s σ H Q I h) fun c s1 e=>?_)
 cases c with
 | true=>exact isTrue_and_nil e
 | false=>exact e
theorem Eu (ha:PT X a tA):PW X (.BoolOp .Or [a] pos) tA:=by
 intro wh pins s σ H Q I h
 refine isTrue_or (thn (ha pins s σ H Q I h) fun c s1 e=>?_)
 cases c with
 | false=>exact isTrue_or_nil e
 | true=>exact e
theorem Kc (ha:PT X a tA) (hb:PW X (.BoolOp .And (b::rest) pos) tB'):PW X (.BoolOp .And (a::b::rest) pos) (LU tA tB'):=by
 intro wh pins s σ H Q I h
 refine isTrue_and (thn (ha pins s σ H _ I h) fun c s1 ⟨H1,I1,q1⟩=>?_)
 cases c with
 | true=>exact hb wh pins s1 σ H1 Q I1 q1
 | false=>exact ⟨H1,I1,q1⟩
theorem Is (ha:PT X a tA) (hb:PW X (.BoolOp .Or (b::rest) pos) tB'):PW X (.BoolOp .Or (a::b::rest) pos) (tOr tA tB'):=by
 intro wh pins s σ H Q I h
 refine isTrue_or (thn (ha pins s σ H _ I h) fun c s1 ⟨H1,I1,q1⟩=>?_)
 cases c with
 | true=>exact ⟨H1,I1,q1⟩
 | false=>exact hb wh pins s1 σ H1 Q I1 q1
noncomputable def tIf (t:TT) (ta tb:TE):TE:=fun σ H Q=>t σ H fun c H1=>if c=true then ta σ H1 Q else tb σ H1 Q
theorem Dt {c:aS} (hc:PT X c tA) (ha:PE X a ta) (hb:PE X b tb):PE X (.IfExp c a b pos) (tIf tA ta tb):=by
 intro pins s σ H Q I h
 refine wpAny_IfExp (thn (hc pins s σ H _ I h) fun d s1 ⟨H1,I1,q1⟩=>?_)
 cases d with
 | true=>exact ha pins s1 σ H1 Q I1 q1
 | false=>exact hb pins s1 σ H1 Q I1 q1
end
noncomputable def SqL (K:ac) (H:Hp) (a:ak) (xs:List V):Prop :=
 Rd H a (.lst xs) \/
  ∃ (o:dz) (its:Array ae) (n:Nat),K.lookup a=some o/\o.cls=.type "list"/\o.dict=none/\o.data=.seq its n/\its.size<=aK/\eG xs its.toList
noncomputable def SqT (K:ac) (H:Hp) (a:ak) (xs:List V):Prop :=
 Rd H a (.tup xs) \/
  ∃ (o:dz) (its:Array ae) (n:Nat),K.lookup a=some o/\o.cls=.type "tuple"/\o.data=.seq its n/\its.size<=aK/\eG xs its.toList
noncomputable def Ml:ae->Option V
 | .none=>some .non
 | .bool b=>some (.bl b)
 | .int i _=>some (.int i)
 | .str x _=>some (.str x)
 | .bytes b _=>some (.byt b)
 | .float b _=>some (.flt b)
 | .ref a=>some (.ref a)
 | .type n=>some (.ty n)
 | _=>none
theorem gH.abs {x:V} {u:ae} (r:gH x u):Ml u=some x:=by
 cases x with
 | non=>cases r;rfl
 | bl _=>cases r;rfl
 | int _=>obtain ⟨t,rfl⟩:=r;rfl
 | str _=>obtain ⟨t,rfl⟩:=r;rfl
 | byt _=>obtain ⟨t,rfl⟩:=r;rfl
 | flt _=>obtain ⟨t,rfl⟩:=r;rfl
 | ref _=>cases r;rfl
 | ty _=>cases r;rfl
theorem gH.inj {x y:V} {u:ae} (r:gH x u) (q:gH y u):x=y:=bU (r.abs.symm.trans q.abs)
theorem eG.inj:∀ {xs ys:List V} {us:List ae},eG xs us->eG ys us->xs=ys
 | _,_,_,.nil,.nil=>rfl
 | _,_,_,.cons r t,.cons r' t'=>by rw [r.inj r',eG.inj t t']
section
variable {X:Cx} {pins:List (ak×dz)} {σ:St} {H:Hp} {s:ai} {a:ak} {xs ys:List V}
theorem SqL.of {K:ac} (h:H a=some (.lst xs)):SqL K H a xs:=.inl (.inl h)
theorem SqT.of {K:ac} (h:H a=some (.tup xs)):SqT K H a xs:=.inl (.inl h)
theorem Inv.list (I:Inv X pins σ H s) (h:SqL X.K H a xs):∃ its:List ae,eG xs its/\PlainL s.heap a its.toArray/\xs.length<=aK:=by
 rcases h with h | ⟨o,its,n,hk,hc,hd,hs,hz,r⟩
 ·obtain ⟨z,its,n,r,e⟩:=h.ok I.hok
  exact ⟨its,r,⟨_,n,e,rfl,rfl,rfl⟩,z⟩
 ·refine ⟨its.toList,r,⟨o,n,I.kIn a o hk,hc,hd,by simpa using hs⟩,?_⟩
  have e:=r.length
  simp only [bS] at e
  lia
theorem Inv.tuple (I:Inv X pins σ H s) (h:SqT X.K H a xs):∃ its:List ae,eG xs its/\jS s.heap a its.toArray/\xs.length<=aK:=by
 rcases h with h | ⟨o,its,n,hk,hc,hs,hz,r⟩
 ·obtain ⟨z,its,r,p⟩:=h.ok I.hok
  exact ⟨its,r,p,z.1⟩
 ·refine ⟨its.toList,r,⟨o,I.kIn a o hk,hc,n,by simpa using hs⟩,?_⟩
  have e:=r.length
  simp only [bS] at e
  lia
theorem Inv.list_inj (I:Inv X pins σ H s) (h:SqL X.K H a xs) (h':SqL X.K H a ys):xs=ys:=by
 obtain ⟨its,r,⟨o,n,e,_,_,d⟩,_⟩:=I.list h
 obtain ⟨its',r',⟨o',n',e',_,_,d'⟩,_⟩:=I.list h'
 rw [e] at e';cases e'
 rw [d] at d'
 injection d' with d1 _
 have:its=its':=by simpa using congrArg Array.toList d1
 subst this
 exact r.inj r'
theorem Inv.tuple_inj (I:Inv X pins σ H s) (h:SqT X.K H a xs) (h':SqT X.K H a ys):xs=ys:=by
 obtain ⟨its,r,⟨o,e,_,n,d⟩,_⟩:=I.tuple h
 obtain ⟨its',r',⟨o',e',_,n',d'⟩,_⟩:=I.tuple h'
 rw [e] at e';cases e'
 rw [d] at d'
 injection d' with d1 _
 have:its=its':=by simpa using congrArg Array.toList d1
 subst this
 exact r.inj r'
end
noncomputable abbrev Cx.wish (X:Cx) (E:ae->ai->Prop):Cx:={ X with xe:=E }
noncomputable abbrev Cx.nox (X:Cx):Cx:=X.wish fun _ _=>False
theorem Cx.Ok.wish {X:Cx} (ok:X.Ok) (E:ae->ai->Prop):(X.wish E).Ok :=
 ⟨ok.mod,ok.kind,ok.glob,ok.blt,ok.above,ok.inj,ok.has,ok.cab,ok.hd,ok.frames,ok.stk,ok.exf,ok.bs,ok.bsz,ok.noex,ok.exfs,ok.funs,ok.frf⟩
theorem Cx.Ok.unwish {X:Cx} {E:ae->ai->Prop} (ok:(X.wish E).Ok):X.Ok :=
 ⟨ok.mod,ok.kind,ok.glob,ok.blt,ok.above,ok.inj,ok.has,ok.cab,ok.hd,ok.frames,ok.stk,ok.exf,ok.bs,ok.bsz,ok.noex,ok.exfs,ok.funs,ok.frf⟩
section
variable {X:Cx} {pins:List (ak×dz)} {σ:St} {H:Hp} {s:ai} {E:ae->ai->Prop}
theorem Inv.wish (I:Inv X pins σ H s) (E:ae->ai->Prop):Inv (X.wish E) pins σ H s:=⟨I.ok.wish E,I.os,I.bare,I.base,I.loc,I.cell,I.free,I.freeC,I.pin,I.hok,I.len⟩
theorem Inv.unwish (I:Inv (X.wish E) pins σ H s):Inv X pins σ H s:=⟨I.ok.unwish,I.os,I.bare,I.base,I.loc,I.cell,I.free,I.freeC,I.pin,I.hok,I.len⟩
theorem SP.unwish {D:FH} {f:Flow} {s':ai} (h:SP (X.wish E) pins D f s'):SP X pins D f s':=by
 cases f with
 | next=>obtain ⟨σ',H',I,q⟩:=h;exact ⟨σ',H',I.unwish,q⟩
 | brk=>obtain ⟨σ',H',I,q⟩:=h;exact ⟨σ',H',I.unwish,q⟩
 | cont=>obtain ⟨σ',H',I,q⟩:=h;exact ⟨σ',H',I.unwish,q⟩
 | ret u=>obtain ⟨v,σ',H',I,r,q⟩:=h;exact ⟨v,σ',H',I.unwish,r,q⟩
theorem PSs.nox {st:List cX} {t:TS} (h:PSs X.nox st t):PSs X st t:=fun pins s σ H D I hw =>
 d6 (h pins s σ H D (I.wish _) hw) (fun _ _ q=>q.unwish) fun _ _ z=>cm z
end
section
variable {X:Cx} {st:cX} {rest:List cX} {t u:TS} {e:aS} {te:TE} {pos:ft}
noncomputable def CS:TS:=fun D σ H=>D.nx σ H
noncomputable def oX (t u:TS):TS:=fun D σ H=>t { D with nx:=u D } σ H
theorem sH:PSs X [] CS:=fun _ _ σ H _ I h=>lY ⟨σ,H,I,h⟩
theorem gN (h1:PS X st t) (h2:PSs X rest u):PSs X (st::rest) (oX t u):=by
 intro pins s σ H D I h
 refine wpAny_execs_cons (thn (h1 pins s σ H { D with nx:=u D } I h) fun f s1 q=>?_)
 cases f with
 | next =>
   obtain ⟨σ',H',I',q⟩:=q
   exact h2 pins s1 σ' H' D I' q
 | ret v=>exact q
 | brk=>exact q
 | cont=>exact q
theorem iZ (h1:PS X st t):PSs X [st] t:=by
 intro pins s σ H D I h
 refine wpAny_execs_cons (thn (h1 pins s σ H D I h) fun f s1 q=>?_)
 cases f with
 | next=>exact lY q
 | ret v=>exact q
 | brk=>exact q
 | cont=>exact q
noncomputable def IL:TS:=fun D σ H=>D.ct σ H
theorem vN:PS X (.Continue pos) IL:=fun _ _ σ H _ I h=>wpAny_Continue ⟨σ,H,I,h⟩
theorem Inv.quiet {pins:List (ak×dz)} {σ:St} {H:Hp} {s:ai} (I:Inv X pins σ H s):interactive X.env=false:=by simp [interactive,I.ok.kind]
noncomputable def FY (te:TE):TS:=fun D σ H=>te σ H fun _ H1=>D.nx σ H1
theorem Bb (he:PE X e te) (hs:gT e none pos.line X.env=pure false:=by rfl):PS X (.Expr e pos) (FY te):=by
 intro pins s σ H D I h
 exact wpAny_Expr_any (thn (he pins s σ H _ I h) fun v s1 ⟨x,H1,I1,r1,q1⟩=>⟨σ,H1,I1,q1⟩) I.quiet hs
noncomputable def HS (te:TE):TS:=fun D σ H=>te σ H D.rt
theorem t8 (he:PE X e te):PS X (.Return (some e) pos) (HS te):=by
 intro pins s σ H D I h
 exact wpAny_Return_some (thn (he pins s σ H _ I h) fun v s1 ⟨x,H1,I1,r1,q1⟩=>⟨x,σ,H1,I1,r1,q1⟩)
noncomputable def KR (c:TT) (t u:TS):TS:=fun D σ H=>c σ H fun b H1=>if b=true then t D σ H1 else u D σ H1
theorem Dz {c:aS} {a b:List cX} {tc:TT} (hc:PT X c tc) (ha:PSs X a t) (hb:PSs X b u):PS X (.If c a b pos) (KR tc t u):=by
 intro pins s σ H D I h
 refine wpAny_If (thn (hc pins s σ H _ I h) fun d s1 ⟨H1,I1,q1⟩=>?_)
 cases d with
 | true=>exact ha pins s1 σ H1 D I1 q1
 | false=>exact hb pins s1 σ H1 D I1 q1
end
noncomputable abbrev TG:=V->St->Hp->(St->Hp->Prop)->Prop
noncomputable abbrev TGs:=List V->St->Hp->(St->Hp->Prop)->Prop
noncomputable def PG (X:Cx) (target:aS) (t:TG):Prop :=
 ∀ (pins:List (ak×dz)) (s:ai) (σ:St) (H:Hp) (v:V) (u:ae) (Q:St->Hp->Prop),Inv X pins σ H s->gH v u->t v σ H Q ->
   aM (bg X.prog X.w) X.A (assign target X.env u) (fun _ s'=>∃ σ' H',Inv X pins σ' H' s'/\Q σ' H') X.xe s
noncomputable def PGs (X:Cx) (ts:List aS) (t:TGs):Prop :=
 ∀ (pins:List (ak×dz)) (s:ai) (σ:St) (H:Hp) (vs:List V) (us:List ae) (Q:St->Hp->Prop),Inv X pins σ H s->eG vs us->t vs σ H Q ->
   aM (bg X.prog X.w) X.A (assignInOrder ((e7 ts X.env).map (·.2)) us) (fun _ s'=>∃ σ' H',Inv X pins σ' H' s'/\Q σ' H') X.xe s
section
variable {X:Cx} {pos:ft}
noncomputable def mw (i:Nat):TG:=fun v σ H Q=>Q (σ.set i (some v)) H
theorem m9 {i:Nat} {x:bM} (hN:X.N.Nodup) (hi:X.N[i]?=some x) (hx:Loc X.env.scope x) (hf:X.fn x=true\/X.env.scope.names.lookup x=some .local:=by first | exact .inl rfl | exact .inr rfl | assumption):PG X (.Name x pos) (mw i):=by
 intro pins s σ H v u Q I r h
 exact wpAny_assign_Name (xT I hN hi hx r (fun s' I'=>⟨_,H,I',h⟩) hf)
noncomputable def L3:TGs:=fun vs σ H Q=>vs=[]/\Q σ H
noncomputable def HN (t:TG) (u:TGs):TGs:=fun vs σ H Q=>∃ v r,vs=v::r/\t v σ H fun σ' H'=>u r σ' H' Q
theorem zA:PGs X [] L3:=by
 intro pins s σ H vs us Q I r h
 obtain ⟨e,h⟩:=h
 subst e
 cases r
 exact assignInOrder_nil ⟨σ,H,I,h⟩
theorem sV {e:aS} {es:List aS} {t:TG} {u:TGs} (h1:PG X e t) (h2:PGs X es u)
 (hs:(e7 (e::es) X.env).map (·.2)=assign e X.env::(e7 es X.env).map (·.2):=by rfl):PGs X (e::es) (HN t u):=by
 intro pins s σ H vs us Q I r h
 obtain ⟨v,vr,e1,h⟩:=h
 subst e1
 cases r with
 | cons r rr =>
   rw [hs]
   refine assignInOrder_cons (thn (h1 pins s σ H _ _ _ I r h) fun _ s1 ⟨σ1,H1,I1,q1⟩=>?_)
   exact h2 pins s1 σ1 H1 _ _ Q I1 rr q1
noncomputable def LT (K:ac) (n:Nat) (t:TGs):TG:=fun v σ H Q=>∃ a xs,v=.ref a/\SqT K H a xs/\xs.length=n/\t xs σ H Q
theorem EM {es:List aS} {k:Nat} {t:TGs} {n:Nat} (hc:X.calm=true) (h:PGs X es t)
 (hn:(e7 es X.env).length=n:=by rfl) (hst:(e7 es X.env).findIdx? (·.1)=none:=by rfl):PG X (.Tuple es k pos) (LT X.K n t):=by
 intro pins s σ H v u Q I r hw
 obtain ⟨a,xs,e1,hq,hl,hw⟩:=hw
 subst e1
 cases r
 obtain ⟨its,rv,ht,hz⟩:=I.tuple hq
 refine assign_Tuple_tuple (I.ok.hd hc) ht (by simp [hn,<- hl,rv.length]) hst fun h' hx=>?_
 have I1:Inv X pins σ H { s with heap:=h' }:=I.kept (t':=s.toks) fun b o e=>hx b o (bu (aH e)) e
 exact h pins _ σ H xs _ Q I1 (by simpa using rv) hw
noncomputable def HX (te:TE) (g:TG):TS:=fun D σ H=>te σ H fun x H1=>g x σ H1 D.nx
theorem qZ {i:Nat} {x:bM} {e:aS} {te:TE} {pos':ft} (hN:X.N.Nodup) (hi:X.N[i]?=some x) (hx:Loc X.env.scope x) (he:PE X e te) (hs:gT e (some (.Name x pos')) pos.line X.env=pure false:=by rfl) (hf:X.fn x=true\/X.env.scope.names.lookup x=some .local:=by first | exact .inl rfl | exact .inr rfl | assumption) :
 PS X (.Assign [.Name x pos'] e pos) (HX te (mw i)):=by
 intro pins s σ H D I h
 refine wpAny_Assign_Name (thn (he pins s σ H _ I h) fun v s1 ⟨y,H1,I1,r1,q1⟩=>?_) hs
 exact xT I1 hN hi hx r1 (fun s2 I2=>⟨_,H1,I2,q1⟩) hf
noncomputable def Kj (c:TT) (tb:TS):TS:=fun D σ H=>∃ W:Nat->St->Hp->Prop,(∃ m,W m σ H)/\∀ m σ H,W m σ H ->
 c σ H fun b H1=>if b=true then ∃ N:St->Hp->Prop,(∀ σ' H',N σ' H'->∃ m',m'<m/\W m' σ' H')/\tb { D with nx:=N,ct:=N,bk:=D.nx } σ H1 else D.nx σ H1
theorem D3 {c:aS} {body:List cX} {tc:TT} {tb:TS} (hp:nE (bg X.prog X.w) X.A X.env X.xe) (hc:PT X c tc) (hb:PSs X body tb):PS X (.While c body [] pos) (Kj tc tb):=by
 intro pins s σ H D I h
 obtain ⟨W,⟨m0,w0⟩,turn⟩:=h
 refine wpAny_While (codeAny_whileLoop (fun n s'=>∃ σ' H',Inv X pins σ' H' s'/\W n σ' H') ?_ m0 ⟨σ,H,I,w0⟩)
 rintro n s1 ⟨σ1,H1,I1,w1⟩
 refine gk hp (thn (hc pins s1 σ1 H1 _ I1 (turn n σ1 H1 w1)) fun b s2 ⟨H2,I2,q2⟩=>?_)
 cases b with
 | true =>
   obtain ⟨N,hN,q2⟩:=q2
   rw [if_pos rfl]
   refine gk hp (thn (hb pins s2 σ1 H2 _ I2 q2) fun f s3 q3=>?_)
   cases f with
   | next =>
     obtain ⟨σ3,H3,I3,n3⟩:=q3
     obtain ⟨m',hm,w3⟩:=hN σ3 H3 n3
     exact ⟨m',hm,σ3,H3,I3,w3⟩
   | cont =>
     obtain ⟨σ3,H3,I3,n3⟩:=q3
     obtain ⟨m',hm,w3⟩:=hN σ3 H3 n3
     exact ⟨m',hm,σ3,H3,I3,w3⟩
   | brk=>exact q3
   | ret v=>exact q3
 | false =>
   rw [if_neg aN]
   exact lY ⟨σ1,H2,I2,q2⟩
end
structure It where
 go:Nat->Hp->Prop
 yld:Nat->Hp->V->Hp->Prop
 stop:Nat->Hp->Prop
noncomputable def y8 (X:Cx) (pins:List (ak×dz)) (H:Hp) (b:ak):Prop :=
 H b=none/\b≠X.env.locals/\b∉X.fs/\(b∈X.ex\/X.s₀.heap.objs.size<=b)/\(∀ x c,X.env.cells.lookup x=some c->c≠b)/\∀ p∈X.pn++pins,p.1≠b
theorem Inv.fpOk {X:Cx} {pins:List (ak×dz)} {σ:St} {H H':Hp} {s:ai} {b:ak} (I:Inv X pins σ H s) (hb:s.heap.objs.size<=b) (hn:H' b=none):y8 X pins H' b:=by
 refine ⟨hn,Nat.ne_of_gt (bj I.lt hb),I.nofs hb,.inr (bO I.sz hb),fun x c e z=>?_,fun p hp z=>?_⟩
 ·obtain ⟨v,q⟩:=I.cell x c e
  exact absurd (bj q.lt (by rw [z];exact hb)) (cq _)
 ·exact absurd (bj (aH (I.pin p hp).1) (by rw [z];exact hb)) (cq _)
structure G7 (P:bC) (w:cf) (K:ac) (tg:aS) (J:It) (fp:List ak) (it:ak) (tn:Nat->cy->Prop):Prop where
 mem:it∈fp
 obj:∀ i h,tn i h->∀ b∈fp,∃ o,h.get? b=some o/\∀ v,o.data≠.cell v
 keep:∀ i h h',tn i h->(∀ b∈fp,∀ o,h.get? b=some o->h'.get? b=some o)->tn i h'
 item:∀ (X:Cx),X.prog=P->X.w=w->X.K=K->X.calm=true->∀ (i:Nat) (pins:List (ak×dz)) (s:ai) (σ:St) (H:Hp) (E:ae->ai->Prop),Inv X pins σ H s->(∀ b∈fp,y8 X pins H b)->tn i s.heap->J.go i H ->
  aM (bg P w) X.A (kD (.ref it)) (fun r s1=>∃ u,r=some u /\
   aM (bg P w) X.A (tG tg (.ref it) u) (fun _ s2=>∃ x H',Inv X pins σ H' s2/\gH x u/\J.yld i H x H'/\tn (i+1) s2.heap/\∀ b∈fp,H' b=none) E s1) E s
 done:∀ (X:Cx),X.prog=P->X.w=w->X.K=K->X.calm=true->∀ (i:Nat) (pins:List (ak×dz)) (s:ai) (σ:St) (H:Hp) (E:ae->ai->Prop),Inv X pins σ H s->(∀ b∈fp,y8 X pins H b)->tn i s.heap->J.stop i H ->
  aM (bg P w) X.A (kD (.ref it)) (fun r s1=>r=none/\Inv X pins σ H s1) E s
 self:∀ (A:bL) (i:Nat) (s:ai) (Q:ae->ai->Prop) (E:ae->ai->Prop),tn i s.heap->Q (.ref it) s->aM (bg P w) A (pyIter (.ref it)) Q E s
noncomputable abbrev TI:=St->Hp->(It->Hp->Prop)->Prop
noncomputable def PIE (X:Cx) (pins:List (ak×dz)) (σ:St) (tg:aS) (R:It->Hp->Prop) (itv:ae) (s2:ai):Prop :=
 ∃ (it:ak) (fp:List ak) (tn:Nat->cy->Prop) (J:It) (H':Hp),itv=.ref it/\Inv X pins σ H' s2/\G7 X.prog X.w X.K tg J fp it tn/\tn 0 s2.heap/\(∀ b∈fp,y8 X pins H' b)/\R J H'
noncomputable def PI (X:Cx) (tg iter:aS) (wi:TI):Prop :=
 ∀ (pins:List (ak×dz)) (s:ai) (σ:St) (H:Hp) (R:It->Hp->Prop),Inv X pins σ H s->wi σ H R ->
   aM (bg X.prog X.w) X.A (b9 iter X.env) (fun v s1=>aM (bg X.prog X.w) X.A (pyIter v) (PIE X pins σ tg R) X.xe s1) X.xe s
theorem CG {M:Model} {A:bL} {E:ae->ai->Prop} {s:ai} {tg:aS} {it:ak} {u:ae} {o:dz} {n:String} {vs:Array ae} {Q:Unit->ai->Prop} (ho:s.heap.get? it=some o) (hc:o.cls=.type n) (hd:o.data=.fields vs)
 (hn:["enumerate","zip","dict_itemiterator","dict_reverseitemiterator","odict_iterator","itertools.zip_longest","itertools.pairwise"].contains n=false) (hQ:Q () s):aM M A (tG tg (.ref it) u) Q E s:=by
 unfold tG
 cases tg<;>first
  | exact al hQ
  | (cases u<;>first
      | exact al hQ
      | (refine aa (oH ho ?_)
         rw [hc,hd]
         show aM M A (if (["enumerate","zip","dict_itemiterator","dict_reverseitemiterator","odict_iterator","itertools.zip_longest","itertools.pairwise"].contains n&&vs[0]? == some (iT _))=true then _ else _) Q E s
         rw [if_neg (by intro h;rw [hn,Bool.false_and] at h;cases h)]
         exact al hQ))
noncomputable def Itl (K:ac) (a:ak):It :=
 ⟨fun i H=>∃ xs x,SqL K H a xs/\xs[i]?=some x,fun i H x H'=>H'=H/\∀ xs,SqL K H a xs->xs[i]?=some x,fun i H=>∃ xs,SqL K H a xs/\xs.length<=i⟩
noncomputable def Itt (K:ac) (a:ak):It :=
 ⟨fun i H=>∃ xs x,SqT K H a xs/\xs[i]?=some x,fun i H x H'=>H'=H/\∀ xs,SqT K H a xs->xs[i]?=some x,fun i H=>∃ xs,SqT K H a xs/\xs.length<=i⟩
noncomputable def Itr (lo:Int) (n:Nat):It:=⟨fun i _=>i<n,fun i H x H'=>H'=H/\x=.int (lo+i),fun i _=>n<=i⟩
theorem Ap {P:bC} {w:cf} {K:ac} {tg:aS} (a it:ak):G7 P w K tg (Itl K a) [it] it (fun i h=>h.IsListIter it a i) where
 mem:=by simp
 obj:=fun i h st b hb=>by
  have e:b=it:=by simpa using hb
  subst e
  obtain ⟨o,e,c,d⟩:=st
  exact ⟨o,e,fun v z=>by rw [d] at z;cases z⟩
 keep:=fun i h h' st k=>st.at fun o e=>k it (by simp) o e
 item:=by
  intro X hP hw hK hc i pins s σ H E I hf st hg
  subst hP hw hK
  obtain ⟨xs,x,hq,hx⟩:=hg
  obtain ⟨its,rv,p,hz⟩:=I.list hq
  obtain ⟨u,hu,ru⟩:=rv.get hx
  obtain ⟨f0,f1,f2,f3,f4,f5⟩:=hf it (by simp)
  refine wpAny_pyNext_list_item st p.isList (x:=u) (by simpa using hu) fun h' st' sb=>?_
  have I1:Inv X pins σ H { s with heap:=h' }:=I.turned (t':=s.toks) (fun b o hb e=>(sb.2 b hb).trans e) f0 f1 f3 f4 f5
  obtain ⟨o,e,c,d⟩:=id st'
  exact ⟨u,rfl,CG (s:={ s with heap:=h' }) e c d (by decide) ⟨x,H,I1,ru,⟨rfl,fun ys hy=>by rw [I.list_inj hy hq];exact hx⟩,st',fun b hb=>(hf b hb).1⟩⟩
 done:=by
  intro X hP hw hK hc i pins s σ H E I hf st hg
  subst hP hw hK
  obtain ⟨xs,hq,hx⟩:=hg
  obtain ⟨its,rv,p,hz⟩:=I.list hq
  obtain ⟨f0,f1,f2,f3,f4,f5⟩:=hf it (by simp)
  have hl:=rv.length
  exact wpAny_pyNext_list_end (I.ok.hd hc) st p.isList (by simp;lia) fun h' eb=>⟨rfl,I.turned (t':=s.toks) (fun b o hb e=>eb b o hb e) f0 f1 f3 f4 f5⟩
 self:=fun _ _ _ _ _ st h=>wpAny_pyIter_listiter st h
theorem yJ {P:bC} {w:cf} {K:ac} {tg:aS} (a it:ak):G7 P w K tg (Itt K a) [it] it (fun i h=>h.IsTupleIter it a i) where
 mem:=by simp
 obj:=fun i h st b hb=>by
  have e:b=it:=by simpa using hb
  subst e
  obtain ⟨o,e,c,d⟩:=st
  exact ⟨o,e,fun v z=>by rw [d] at z;cases z⟩
 keep:=fun i h h' st k=>st.at fun o e=>k it (by simp) o e
 item:=by
  intro X hP hw hK hc i pins s σ H E I hf st hg
  subst hP hw hK
  obtain ⟨xs,x,hq,hx⟩:=hg
  obtain ⟨its,rv,p,hz⟩:=I.tuple hq
  obtain ⟨u,hu,ru⟩:=rv.get hx
  obtain ⟨f0,f1,f2,f3,f4,f5⟩:=hf it (by simp)
  refine wpAny_pyNext_tuple_item st (show s.heap.IsTuple a its.toArray from p) (x:=u) (by simpa using hu) fun h' st' sb=>?_
  have I1:Inv X pins σ H { s with heap:=h' }:=I.turned (t':=s.toks) (fun b o hb e=>(sb.2 b hb).trans e) f0 f1 f3 f4 f5
  obtain ⟨o,e,c,d⟩:=id st'
  exact ⟨u,rfl,CG (s:={ s with heap:=h' }) e c d (by decide) ⟨x,H,I1,ru,⟨rfl,fun ys hy=>by rw [I.tuple_inj hy hq];exact hx⟩,st',fun b hb=>(hf b hb).1⟩⟩
 done:=by
  intro X hP hw hK hc i pins s σ H E I hf st hg
  subst hP hw hK
  obtain ⟨xs,hq,hx⟩:=hg
  obtain ⟨its,rv,p,hz⟩:=I.tuple hq
  obtain ⟨f0,f1,f2,f3,f4,f5⟩:=hf it (by simp)
  have hl:=rv.length
  exact wpAny_pyNext_tuple_end (I.ok.hd hc) st (show s.heap.IsTuple a its.toArray from p) (by simp;lia) fun h' eb=>⟨rfl,I.turned (t':=s.toks) (fun b o hb e=>eb b o hb e) f0 f1 f3 f4 f5⟩
 self:=fun _ _ _ _ _ st h=>wpAny_pyIter_tupleiter st h
theorem ym {P:bC} {w:cf} {K:ac} {tg:aS} (it:ak) (lo:Int) (n:Nat):G7 P w K tg (Itr lo n) [it] it (fun i h=>IsRangeIter h it (lo+(i:Nat)*1) ((n:Int)-(i:Nat)) 1) where
 mem:=by simp
 obj:=fun i h st b hb=>by
  have e:b=it:=by simpa using hb
  subst e
  exact ⟨_,st,fun v z=>by
   have z':Data.fields _=Data.cell v:=z
   cases z'⟩
 keep:=fun i h h' st k=>k it (by simp) _ st
 item:=by
  intro X hP hw hK hc i pins s σ H E I hf st hg
  subst hP hw hK
  obtain ⟨f0,f1,f2,f3,f4,f5⟩:=hf it (by simp)
  have W:=Walks.range (prog:=X.prog) (w:=X.w) (I.ok.hd hc) it lo 1 n
  refine W.item i s _ _ hg st fun v h' tk hv st' kk=>?_
  obtain ⟨t,rfl⟩:=hv
  have I1:Inv X pins σ H { s with heap:=h',toks:=tk }:=I.turned (fun b o hb e=>kk b o (by simpa using hb) e) f0 f1 f3 f4 f5
  refine ⟨_,rfl,CG (s:={ s with heap:=h',toks:=tk }) (n:="range_iterator") st' rfl rfl (by decide) ⟨.int (lo+i),H,I1,⟨t,?_⟩,⟨rfl,rfl⟩,st',fun b hb=>(hf b hb).1⟩⟩
  rw [lM]
 done:=by
  intro X hP hw hK hc i pins s σ H E I hf st hg
  subst hP hw hK
  obtain ⟨f0,f1,f2,f3,f4,f5⟩:=hf it (by simp)
  exact wpAny_pyNext_range_end (I.ok.hd hc) st (by have:n<=i:=hg;lia) fun h' eb=>⟨rfl,I.turned (t':=s.toks) (fun b o hb e=>eb b o hb e) f0 f1 f3 f4 f5⟩
 self:=fun _ _ _ _ _ st h=>wpAny_pyIter_rangeiter st h
section
variable {X:Cx} {tg:aS}
noncomputable def LD (K:ac) (tl:TE):TI:=fun σ H R=>tl σ H fun x H1=>∃ a,x=.ref a/\(∃ xs,SqL K H1 a xs)/\R (Itl K a) H1
noncomputable def L5 (K:ac) (tl:TE):TI:=fun σ H R=>tl σ H fun x H1=>∃ a,x=.ref a/\(∃ xs,SqT K H1 a xs)/\R (Itt K a) H1
theorem HK {l:aS} {tl:TE} (hl:PE X l tl):PI X tg l (LD X.K tl):=by
 intro pins s σ H R I h
 refine thn (hl pins s σ H _ I h) fun v s1 ⟨x,H1,I1,r1,q1⟩=>?_
 obtain ⟨a,e,⟨xs,hq⟩,q⟩:=q1
 subst e
 cases r1
 obtain ⟨its,rv,p,hz⟩:=I1.list hq
 refine ky p.isList ?_
 refine ⟨s1.heap.objs.size,[s1.heap.objs.size],_,_,H1,rfl,I1.kept (t':=s1.toks) fun b o e=>ag _ e,Ap a _,⟨_,aJ _ rfl,rfl,rfl⟩,fun b hb=>?_,q⟩
 have e:b=s1.heap.objs.size:=by simpa using hb
 subst e
 exact I1.fpOk (aw _) (I1.hok.fresh (aw _))
theorem Iu {l:aS} {tl:TE} (hl:PE X l tl):PI X tg l (L5 X.K tl):=by
 intro pins s σ H R I h
 refine thn (hl pins s σ H _ I h) fun v s1 ⟨x,H1,I1,r1,q1⟩=>?_
 obtain ⟨a,e,⟨xs,hq⟩,q⟩:=q1
 subst e
 cases r1
 obtain ⟨its,rv,p,hz⟩:=I1.tuple hq
 refine wpAny_pyIter_tuple (show s1.heap.IsTuple a its.toArray from p) ?_
 refine ⟨s1.heap.objs.size,[s1.heap.objs.size],_,_,H1,rfl,I1.kept (t':=s1.toks) fun b o e=>ag _ e,yJ a _,⟨_,aJ _ rfl,rfl,rfl⟩,fun b hb=>?_,q⟩
 have e:b=s1.heap.objs.size:=by simpa using hb
 subst e
 exact I1.fpOk (aw _) (I1.hok.fresh (aw _))
theorem xJ {pins:List (ak×dz)} {σ:St} {H:Hp} {s:ai} {R:It->Hp->Prop} {E:ae->ai->Prop} {lo hi:Int} {t u v:zc} {tk:Nat} (I:Inv X pins σ H s) (h1 : -(2 ^ 62)<=lo) (h2:lo<2 ^ 62) (h3 : -(2 ^ 62)<=hi) (h4:hi<2 ^ 62)
 (q:R (Itr lo (hi-lo).toNat) H):aM (bg X.prog X.w) X.A (pyIter (.ref s.heap.objs.size)) (PIE X pins σ tg R) E { s with heap:=s.heap.push { cls:=.type "range",data:=.fields #[.int lo t,.int hi u,.int 1 v] },toks:=tk }:=by
 refine wpAny_pyIter_range (IsRange.new ..) (small_one h1 h2 h3 h4) ?_
 have I1:Inv X pins σ H { s with heap:=s.heap.push { cls:=.type "range",data:=.fields #[.int lo t,.int hi u,.int 1 v] },toks:=tk }:=I.kept fun b o e=>ag _ e
 refine ⟨(s.heap.push { cls:=.type "range",data:=.fields #[.int lo t,.int hi u,.int 1 v] }).objs.size,[(s.heap.push { cls:=.type "range",data:=.fields #[.int lo t,.int hi u,.int 1 v] }).objs.size],_,_,H,rfl,
  I1.kept (t':=tk) fun b o e=>ag _ e,ym _ lo (hi-lo).toNat,?_,fun b hb=>?_,q⟩
 ·have e1:lo+((0:Nat):Int)*1=lo:=by simp
  have e2:(((hi-lo).toNat:Nat):Int)-((0:Nat):Int)=Builtin.Range.rangeSize lo hi 1:=by rw [xU];split<;>lia
  show IsRangeIter _ _ (lo+((0:Nat):Int)*1) ((((hi-lo).toNat:Nat):Int)-((0:Nat):Int)) 1
  rw [e1,e2]
  exact aJ _ rfl
 ·have e:b=(s.heap.push { cls:=.type "range",data:=.fields #[.int lo t,.int hi u,.int 1 v] }).objs.size:=by simpa using hb
  subst e
  exact I1.fpOk (aw _) (I1.hok.fresh (aw _))
noncomputable def Li (ta:TA):TI:=fun σ H R=>ta σ H fun vs H1=>∃ j:Int,vs=[.int j]/\-(2 ^ 62)<=j/\j<2 ^ 62/\R (Itr 0 j.toNat) H1
noncomputable def Lv (ta:TA):TI:=fun σ H R=>ta σ H fun vs H1=>∃ i j:Int,vs=[.int i,.int j]/\(-(2 ^ 62)<=i/\i<2 ^ 62/\-(2 ^ 62)<=j/\j<2 ^ 62)/\R (Itr i (j-i).toNat) H1
theorem A9 {a:aS} {ta:TA} {p pos:ft} (hg:Gl X "range") (hm:X.mg "range" = none) (ha:PA X [a] ta) (hs:am [a] X.env=[(false,b9 a X.env)]:=by rfl):PI X tg (.Call (.Name "range" p) [a] [] pos) (Li ta):=by
 intro pins s σ H R I h
 refine Call_ (nU I hg hm boot_range (fC (thn (ha pos pins s σ H _ I h) fun us s1 ⟨vs,H1,I1,r1,q1⟩=>?_) hs rfl))
 obtain ⟨j,e,q1,q2,q⟩:=q1
 subst e
 cases r1 with
 | cons r rr =>
   cases rr
   obtain ⟨t,rfl⟩:=r
   exact call_range_1 (xJ I1 (by lia) (by lia) q1 q2 (by simpa using q))
theorem Ag {a b:aS} {ta:TA} {p pos:ft} (hg:Gl X "range") (hm:X.mg "range" = none) (ha:PA X [a,b] ta) (hs:am [a,b] X.env=[(false,b9 a X.env),(false,b9 b X.env)]:=by rfl) (hs2:am [b] X.env=[(false,b9 b X.env)]:=by rfl) :
 PI X tg (.Call (.Name "range" p) [a,b] [] pos) (Lv ta):=by
 intro pins s σ H R I h
 refine Call_ (nU I hg hm boot_range (fC (thn (ha pos pins s σ H _ I h) fun us s1 ⟨vs,H1,I1,r1,q1⟩=>?_) (by rw [hs,hs2]) (by rw [hs2];rfl)))
 obtain ⟨i,j,e,⟨q1,q2,q3,q4⟩,q⟩:=q1
 subst e
 cases r1 with
 | cons r rr =>
   cases rr with
   | cons r' rr =>
     cases rr
     obtain ⟨t,rfl⟩:=r
     obtain ⟨t',rfl⟩:=r'
     exact call_range_2 (xJ I1 q1 q2 q3 q4 q)
noncomputable def KW (wi:TI) (g:TG) (tb:TS):TS:=fun D σ H=>wi σ H fun J H1=>∃ W:Nat->Nat->St->Hp->Prop,(∃ m,W 0 m σ H1)/\∀ i m σ H,W i m σ H ->
 (J.stop i H/\D.nx σ H)\/(J.go i H/\∃ N:St->Hp->Prop,(∀ σ' H',N σ' H'->∃ m',m'<m/\W (i+1) m' σ' H')/\∀ x H',J.yld i H x H'->g x σ H' fun σ2 H2=>tb { D with nx:=N,ct:=N,bk:=D.nx } σ2 H2)
noncomputable def tU (fp:List ak) (h:cy):List (ak×dz):=fp.filterMap fun b=>(h.get? b).map fun o=>(b,o)
theorem lq {fp:List ak} {h:cy} {b:ak} {o:dz} (hb:b∈fp) (e:h.get? b=some o):(b,o)∈tU fp h:=yR.mpr ⟨b,hb,by rw [e];rfl⟩
theorem BU {fp:List ak} {h:cy} {p:ak×dz} (hp:p∈tU fp h):p.1∈fp/\h.get? p.1=some p.2:=by
 obtain ⟨b,hb,e⟩:=yR.mp hp
 cases q:h.get? b with
 | none=>rw [q] at e;cases e
 | some o =>
   rw [q] at e
   have e':(b,o)=p:=bU e
   subst e'
   exact ⟨hb,q⟩
theorem Inv.pinned {pins:List (ak×dz)} {σ:St} {H:Hp} {s:ai} {fp:List ak} (I:Inv X pins σ H s) (hf:∀ b∈fp,y8 X pins H b) (ho:∀ b∈fp,∃ o,s.heap.get? b=some o/\∀ v,o.data≠.cell v):Inv X (pins++tU fp s.heap) σ H s :=
 I.pins_of fun p hp=>(aD.mp hp).elim (fun z=>I.pin p (aW _ z)) fun z=>by
  obtain ⟨hb,e⟩:=BU z
  obtain ⟨f0,f1,f2,_⟩:=hf p.1 hb
  obtain ⟨o,e',d⟩:=ho p.1 hb
  rw [e] at e';cases e'
  exact ⟨e,f0,f1,f2,d⟩
theorem Inv.unpinned {pins pl:List (ak×dz)} {σ:St} {H:Hp} {s:ai} (I:Inv X (pins++pl) σ H s):Inv X pins σ H s:=I.pins_of fun p hp=>I.pin p (aW _ (bw _ hp))
theorem wM {iter:aS} {body:List cX} {wi:TI} {g:TG} {tb:TS} {pos:ft} (hp:nE (bg X.prog X.w) X.A X.env X.xe) (hc:X.calm=true) (hi:PI X tg iter wi) (hg:PG X tg g) (hb:PSs X body tb)
 (hs:∀ x,fz iter X.env x=pure x:=by intro _;rfl):PS X (.For tg iter body [] pos) (KW wi g tb):=by
 intro pins s σ H D I h
 refine wpAny_For (thn (hi pins s σ H _ I h) fun v s1 h1=>thn h1 fun itv s2 h2=>?_) hs
 obtain ⟨it,fp,tn,J,H2,e,I2,T,st2,f2,W,⟨m0,w0⟩,turn⟩:=h2
 subst e
 have stat:∀ {H':Hp},(∀ b∈fp,H' b=none)->∀ b∈fp,y8 X pins H' b:=fun hn b hb=>⟨hn b hb,(f2 b hb).2⟩
 refine codeAny_forLoop_any (fun n s'=>∃ i σ' H',Inv X pins σ' H' s'/\tn i s'.heap/\(∀ b∈fp,H' b=none)/\W i n σ' H') ?_ m0 ⟨0,σ,H2,I2,st2,fun b hb=>(f2 b hb).1,w0⟩
 rintro n s3 ⟨i,σ3,H3,I3,st3,fr3,w3⟩
 rcases turn i n σ3 H3 w3 with ⟨stop,qn⟩ | ⟨go,N,hN,step⟩
 ·refine gk hp (thn (T.done X rfl rfl rfl hc i pins s3 σ3 H3 X.xe I3 (stat fr3) st3 stop) fun r s4 ⟨hr,I4⟩=>?_)
  subst hr
  exact lY ⟨σ3,H3,I4,qn⟩
 ·refine gk hp (thn (T.item X rfl rfl rfl hc i pins s3 σ3 H3 X.xe I3 (stat fr3) st3 go) fun r s4 ⟨u,hr,h4⟩=>?_)
  subst hr
  refine gk hp (thn h4 fun _ s5 ⟨x,H5,I5,r5,y5,st5,fr5⟩=>?_)
  have I5':=I5.pinned (stat fr5) (T.obj _ _ st5)
  refine gk hp (thn (hg _ s5 σ3 H5 x u _ I5' r5 (step x H5 y5)) fun _ s6 ⟨σ6,H6,I6,q6⟩=>?_)
  refine gk hp (thn (hb _ s6 σ6 H6 _ I6 q6) fun f s7 q7=>?_)
  have again:∀ {σ7:St} {H7:Hp},Inv X (pins++tU fp s5.heap) σ7 H7 s7->N σ7 H7->∃ m,m<n/\∃ i σ' H',Inv X pins σ' H' s7/\tn i s7.heap/\(∀ b∈fp,H' b=none)/\W i m σ' H':=fun {σ7 H7} I7 n7=>by
   obtain ⟨m',hm,w7⟩:=hN σ7 H7 n7
   refine ⟨m',hm,i+1,σ7,H7,I7.unpinned,T.keep _ _ _ st5 fun b hb o e=>(I7.pin (b,o) (aW _ (aW _ (lq hb e)))).1,fun b hb=>?_,w7⟩
   obtain ⟨o,e,d⟩:=T.obj _ _ st5 b hb
   exact (I7.pin (b,o) (aW _ (aW _ (lq hb e)))).2.1
  cases f with
  | next=>obtain ⟨σ7,H7,I7,n7⟩:=q7;exact again I7 n7
  | cont=>obtain ⟨σ7,H7,I7,n7⟩:=q7;exact again I7 n7
  | brk=>obtain ⟨σ7,H7,I7,q7⟩:=q7;exact ⟨σ7,H7,I7.unpinned,q7⟩
  | ret v=>obtain ⟨x7,σ7,H7,I7,r7,q7⟩:=q7;exact ⟨x7,σ7,H7,I7.unpinned,r7,q7⟩
end
noncomputable abbrev R2:=V->V->Hp->VK->Prop
noncomputable def OpR (X:Cx) (f:ae->ae->Sem ae) (r:R2):Prop :=
 ∀ (pins:List (ak×dz)) (s:ai) (σ:St) (H:Hp) (x y:V) (v u:ae) (Q:VK),Inv X pins σ H s->gH x v->gH y u->r x y H Q ->
   aM (bg X.prog X.w) X.A (f v u) (EP X pins σ Q) X.xe s
noncomputable def UnR (X:Cx) (f:ae->Sem ae) (r:V->Hp->VK->Prop):Prop :=
 ∀ (pins:List (ak×dz)) (s:ai) (σ:St) (H:Hp) (x:V) (v:ae) (Q:VK),Inv X pins σ H s->gH x v->r x H Q ->
   aM (bg X.prog X.w) X.A (f v) (EP X pins σ Q) X.xe s
noncomputable def kY (X:Cx) (f:ae) (r:List V->Hp->VK->Prop):Prop :=
 ∀ (pins:List (ak×dz)) (s:ai) (σ:St) (H:Hp) (xs:List V) (us:List ae) (Q:VK),Inv X pins σ H s->eG xs us->r xs H Q ->
   aM (bg X.prog X.w) X.A (call f us) (EP X pins σ Q) X.xe s
noncomputable def L9 (X:Cx) (r:V->Hp->(Bool->Hp->Prop)->Prop):Prop :=
 ∀ (pins:List (ak×dz)) (s:ai) (σ:St) (H:Hp) (x:V) (v:ae) (Q:Bool->Hp->Prop),Inv X pins σ H s->gH x v->r x H Q ->
   aM (bg X.prog X.w) X.A (truthy v) (TP X pins σ Q) X.xe s
noncomputable def tOp (r:R2) (ta tb:TE):TE:=fun σ H Q=>ta σ H fun x H1=>tb σ H1 fun y H2=>r x y H2 Q
noncomputable def tUn (r:V->Hp->VK->Prop) (ta:TE):TE:=fun σ H Q=>ta σ H fun x H1=>r x H1 Q
noncomputable def rI (C:Int->Int->Prop) (g:Int->Int->V):R2:=fun x y H Q=>∃ i j,x=.int i/\y=.int j/\C i j/\Q (g i j) H
noncomputable def rI0 (g:Int->Int->V):R2:=fun x y H Q=>∃ i j,x=.int i/\y=.int j/\Q (g i j) H
noncomputable def rU (g:Int->V):V->Hp->VK->Prop:=fun x H Q=>∃ i,x=.int i/\Q (g i) H
section
variable {X:Cx} {a b c:aS} {ta tb tc:TE} {pos:ft}
theorem K2 (ha:PE X a ta) (hb:PE X b tb) {pins:List (ak×dz)} {s:ai} {σ:St} {H:Hp} {R:V->V->Hp->Prop} (I:Inv X pins σ H s)
 (h:ta σ H fun x H1=>tb σ H1 fun y H2=>R x y H2) {Q:ae->ai->Prop} {f:ae->ae->Sem ae}
 (hf:∀ v u s2 x y H2,Inv X pins σ H2 s2->gH x v->gH y u->R x y H2->aM (bg X.prog X.w) X.A (f v u) Q X.xe s2) :
 aM (bg X.prog X.w) X.A (b9 a X.env) (fun v s₁=>aM (bg X.prog X.w) X.A (b9 b X.env) (fun u s₂=>aM (bg X.prog X.w) X.A (f v u) Q X.xe s₂) X.xe s₁) X.xe s:=by
 refine thn (ha pins s σ H _ I h) fun v s1 ⟨x,H1,I1,r1,q1⟩=>?_
 refine thn (hb pins s1 σ H1 _ I1 q1) fun u s2 ⟨y,H2,I2,r2,q2⟩=>?_
 exact hf v u s2 x y H2 I2 r1 r2 q2
theorem LE {op:Operator} {r:R2} (ho:OpR X (jd op) r) (ha:PE X a ta) (hb:PE X b tb):PE X (.BinOp a op b pos) (tOp r ta tb):=by
 intro pins s σ H Q I h
 exact wpAny_BinOp (K2 ha hb I h fun v u s2 x y H2 I2 rx ry q=>ho pins s2 σ H2 x y v u Q I2 rx ry q)
theorem Lc {op:UnaryOp} {r:V->Hp->VK->Prop} (ho:UnR X (unaryOp op) r) (ha:PE X a ta):PE X (.UnaryOp op a pos) (tUn r ta):=by
 intro pins s σ H Q I h
 exact UnaryOp_ (thn (ha pins s σ H _ I h) fun v s1 ⟨x,H1,I1,r1,q1⟩=>ho pins s1 σ H1 x v Q I1 r1 q1)
theorem opI {f:ae->ae->Sem ae} {C:Int->Int->Prop} {g:Int->Int->Int}
 (rule:∀ (i j:Int) (t u:zc) (s:ai) (Q:ae->ai->Prop) (E:ae->ai->Prop),C i j->Q (.int (g i j) s.toks) { s with toks:=s.toks+1 }->aM (bg X.prog X.w) X.A (f (.int i t) (.int j u)) Q E s) :
 OpR X f (rI C fun i j=>.int (g i j)):=by
 intro pins s σ H x y v u Q I rx ry h
 obtain ⟨i,j,rfl,rfl,hc,q⟩:=h
 obtain ⟨t,rfl⟩:=rx
 obtain ⟨t',rfl⟩:=ry
 exact rule i j t t' s _ _ hc ⟨.int (g i j),H,I.tok _,⟨_,rfl⟩,q⟩
theorem LO {f:ae->ae->Sem ae} {g:Int->Int->Int}
 (rule:∀ (i j:Int) (t u:zc) (s:ai) (Q:ae->ai->Prop) (E:ae->ai->Prop),Q (.int (g i j) s.toks) { s with toks:=s.toks+1 }->aM (bg X.prog X.w) X.A (f (.int i t) (.int j u)) Q E s) :
 OpR X f (rI0 fun i j=>.int (g i j)):=by
 intro pins s σ H x y v u Q I rx ry h
 obtain ⟨i,j,rfl,rfl,q⟩:=h
 obtain ⟨t,rfl⟩:=rx
 obtain ⟨t',rfl⟩:=ry
 exact rule i j t t' s _ _ ⟨.int (g i j),H,I.tok _,⟨_,rfl⟩,q⟩
theorem Mc {f:ae->ae->Sem ae} {g:Int->Int->Bool}
 (rule:∀ (i j:Int) (t u:zc) (s:ai) (Q:ae->ai->Prop) (E:ae->ai->Prop),Q (.bool (g i j)) s->aM (bg X.prog X.w) X.A (f (.int i t) (.int j u)) Q E s) :
 OpR X f (rI0 fun i j=>.bl (g i j)):=by
 intro pins s σ H x y v u Q I rx ry h
 obtain ⟨i,j,rfl,rfl,q⟩:=h
 obtain ⟨t,rfl⟩:=rx
 obtain ⟨t',rfl⟩:=ry
 exact rule i j t t' s _ _ ⟨.bl (g i j),H,I,rfl,q⟩
noncomputable def KQ (i j:Int):Prop:=(-(2 ^ 64)<i/\i<2 ^ 64)\/(-(2 ^ 64)<j/\j<2 ^ 64)
theorem KQ.ok {i j:Int} (h:KQ i j):IntMulOk i j:=by
 rcases h with ⟨h1,h2⟩ | ⟨h1,h2⟩
 ·exact .of_left (intBits_le_64 h1 h2)
 ·exact .of_right (intBits_le_64 h1 h2)
theorem JV:OpR X (jd .Add) (rI0 fun i j=>.int (i+j)):=LO fun _ _ _ _ _ _ _ q=>add_int q
theorem JO:OpR X (jd .Sub) (rI0 fun i j=>.int (i-j)):=LO fun _ _ _ _ _ _ _ q=>sub_int q
theorem J6:OpR X (jd .Mult) (rI KQ fun i j=>.int (i*j)):=opI fun _ _ _ _ _ _ _ hc q=>mul_int q hc.ok
theorem J3:OpR X (jd .Mod) (rI (fun _ j=>0<j) fun i j=>.int (i%j)):=opI fun i j _ _ _ _ _ hc q=>by
 have h1:(0:Int)<j:=hc
 exact mod_int' (by lia) (by rw [Int.fmod_eq_emod_of_nonneg i (by lia)];exact q)
theorem unI {f:ae->Sem ae} {g:Int->Int}
 (rule:∀ (i:Int) (t:zc) (s:ai) (Q:ae->ai->Prop) (E:ae->ai->Prop),Q (.int (g i) s.toks) { s with toks:=s.toks+1 }->aM (bg X.prog X.w) X.A (f (.int i t)) Q E s) :
 UnR X f (rU fun i=>.int (g i)):=by
 intro pins s σ H x v Q I rx h
 obtain ⟨i,rfl,q⟩:=h
 obtain ⟨t,rfl⟩:=rx
 exact rule i t s _ _ ⟨.int (g i),H,I.tok _,⟨_,rfl⟩,q⟩
theorem Jl:UnR X (unaryOp .USub) (rU fun i=>.int (-i)):=unI fun _ _ _ _ _ q=>neg_int q
theorem K3:OpR X (d7 .Lt) (rI0 fun i j=>.bl (decide (i<j))):=Mc fun _ _ _ _ _ _ _ q=>lt_int q
theorem OpR.or {f:ae->ae->Sem ae} {r r':R2} (h:OpR X f r) (h':OpR X f r'):OpR X f (fun x y H Q=>r x y H Q\/r' x y H Q):=by
 intro pins s σ H x y v u Q I rx ry q
 rcases q with q | q
 ·exact h pins s σ H x y v u Q I rx ry q
 ·exact h' pins s σ H x y v u Q I rx ry q
theorem xn (b:aS) {op:p6} (h:op≠.In:=by decide) (h2:op≠.NotIn:=by decide):eV op b=false:=by
 have e1:(op == CmpOp.In)=false:=by cases op<;>first | rfl | exact absurd rfl h
 have e2:(op == CmpOp.NotIn)=false:=by cases op<;>first | rfl | exact absurd rfl h2
 cases b<;>simp [eV,e1,e2]
theorem FD {op:p6} {r:R2} (ho:OpR X (d7 op) r) (ha:PE X a ta) (hb:PE X b tb) (hm:eV op b=false):PE X (.Compare a [op] [b] pos) (tOp r ta tb):=by
 intro pins s σ H Q I h
 exact wpAny_Compare1 (K2 ha hb I h fun v u s2 x y H2 I2 rx ry q=>ho pins s2 σ H2 x y v u Q I2 rx ry q) hm
noncomputable def LC (t:TE):TT:=fun σ H Q=>t σ H fun x H'=>∃ k,x=.bl k/\Q k H'
theorem Hn {op:p6} {r:R2} (ho:OpR X (d7 op) r) (ha:PE X a ta) (hb:PE X b tb) (hm:eV op b=false):PT X (.Compare a [op] [b] pos) (LC (tOp r ta tb)):=by
 intro pins s σ H Q I h
 refine B5 (thn (ha pins s σ H _ I h) fun v s1 ⟨x,H1,I1,r1,q1⟩=>thn (hb pins s1 σ H1 _ I1 q1) fun u s2 ⟨y,H2,I2,r2,q2⟩ =>
  thn (ho pins s2 σ H2 x y v u _ I2 r1 r2 q2) fun c s3 ⟨z,H3,I3,r3,k,e,q3⟩=>?_) hm
 subst e
 cases r3
 exact dF ⟨H3,I3,q3⟩
noncomputable def LV (K:ac) (x:V) (H:Hp) (k:Bool):Prop :=
 match x with
 | .non=>k=false
 | .bl b=>k=b
 | .int i=>k=(i != 0)
 | .str y=>y.length<=aK/\k=((y.length:Int) != 0)
 | .byt y=>y.size<=aK/\k=((y.size:Int) != 0)
 | .ref p=>(∃ xs,SqL K H p xs/\k = !xs.isEmpty)\/(∃ xs,SqT K H p xs/\k = !xs.isEmpty)\/∃ kvs,H p=some (.dK kvs)/\k = !kvs.isEmpty
 | _=>False
theorem yN {κ:Type} {kvs:List (κ×V)} {vs:List (κ×ae)} (r:KV kvs vs):(!vs.isEmpty) = !kvs.isEmpty:=by
 cases r<;>rfl
theorem qN {xs:List V} {its:List ae} (r:eG xs its):(!its.toArray.isEmpty) = !xs.isEmpty:=by
 cases r<;>simp
theorem ug:(aK:Nat)<2 ^ 63:=by rw [bG];decide
theorem J7:L9 X (fun x H Q=>∃ k,LV X.K x H k/\Q k H):=by
 intro pins s σ H x v Q I rx h
 obtain ⟨k,e,q⟩:=h
 have hl:=ug
 have hs:aK=16777216:=bG
 cases x with
 | non =>
   cases rx
   have e':k=false:=e
   subst e'
   exact truthy_none ⟨H,I,q⟩
 | bl b =>
   cases rx
   have e':k=b:=e
   subst e'
   exact dF ⟨H,I,q⟩
 | int i =>
   obtain ⟨t,rfl⟩:=rx
   have e':k=(i != 0):=e
   subst e'
   exact PySem.P.truthy_int ⟨H,I,q⟩
 | str y =>
   obtain ⟨t,rfl⟩:=rx
   obtain ⟨hy,e'⟩:y.length<=aK/\k=((y.length:Int) != 0):=e
   subst e'
   exact PySem.P.truthy_str (by lia) ⟨H,I.tok _,q⟩
 | byt y =>
   obtain ⟨t,rfl⟩:=rx
   obtain ⟨hy,e'⟩:y.size<=aK/\k=((y.size:Int) != 0):=e
   subst e'
   exact PySem.W.truthy_bytes (by lia) ⟨H,I.tok _,q⟩
 | ref p =>
   cases rx
   have e':(∃ xs,SqL X.K H p xs/\k = !xs.isEmpty)\/(∃ xs,SqT X.K H p xs/\k = !xs.isEmpty)\/∃ kvs,H p=some (.dK kvs)/\k = !kvs.isEmpty:=e
   rcases e' with ⟨xs,hx,e'⟩ | ⟨xs,hx,e'⟩ | ⟨kvs,hx,e'⟩
   ·subst e'
    obtain ⟨its,r,pl,hz⟩:=I.list hx
    have hlen:=r.length
    exact wpAny_truthy_list pl.isList (by simp only [aB];lia) ⟨H,I.tok _,by rw [qN r];exact q⟩
   ·subst e'
    obtain ⟨its,r,pl,hz⟩:=I.tuple hx
    have hlen:=r.length
    exact truthy_tuple pl (by simp only [aB];lia) ⟨H,I.tok _,by rw [qN r];exact q⟩
   ·subst e'
    obtain ⟨hz,hS,vs,r,m⟩:kvs.length<=aK/\(p == dt)=false/\∃ vs,KV kvs vs/\s.heap.DictOf (cN X.prog X.w) p vs:=I.hok p _ hx
    have hlen:kvs.length=vs.length:=cj r
    exact wpAny_truthy_dict hS m (by lia) ⟨H,I.tok _,by rw [yN r];exact q⟩
 | _=>exact (show False from e).elim
theorem Dc (ha:PE X a ta) (he:∀ whole,isTrue a X.env whole=(do let v <- whole;u9 a.pos;va [v] (truthy v))) :
 PT X a (fun σ H Q=>ta σ H fun x H'=>∃ k,LV X.K x H' k/\Q k H'):=by
 intro pins s σ H Q I h
 exact isTrue_plain (thn (ha pins s σ H _ I h) fun v s1 ⟨x,H1,I1,r1,q1⟩=>J7 pins s1 σ H1 x v Q I1 r1 q1) (he _)
theorem lC {x:V} {us:List ae} (r:eG [x] us):∃ u,us=[u]/\gH x u:=by
 cases r with
 | cons r1 r2=>cases r2;exact ⟨_,rfl,r1⟩
end
theorem y9.some_of {v:V} {o:Option ae} (r:y9 (some v) o):∃ u,o=some u/\gH v u:=by
 cases o with
 | none=>exact (show False from r).elim
 | some u=>exact ⟨u,rfl,r⟩
structure jf (k:Nat) (A:bL):Prop where
 gd:A.guards=some []
 hd:A.handled=none
 dp:A.depth+3*k+5<vk
 un:A.units+16*k+200<cr
theorem jf.mono {j k:Nat} {A:bL} (r:jf k A) (h:j<=k):jf j A:=⟨r.gd,r.hd,by have:=r.dp;lia,by have:=r.un;lia⟩
theorem jf.deeper {k:Nat} {A:bL} (r:jf (k+1) A) (env:p4):jf k (A.deeper env) :=
 ⟨r.gd,r.hd,by have:=r.dp;show A.depth+1+3*k+5<_;lia,by have:=r.un;show A.units+3+16*k+200<_;lia⟩
theorem jf.in1 {k:Nat} {A:bL} (r:jf (k+1) A):jf k A.in1 :=
 ⟨r.gd,r.hd,by have:=r.dp;show A.depth+3*k+5<_;lia,by have:=r.un;show A.units+1+16*k+200<_;lia⟩
theorem jf.depth {k:Nat} {A:bL} (r:jf k A):A.depth<vk:=by have:=r.dp;lia
theorem jf.units {k:Nat} {A:bL} (r:jf k A):A.units+64<cr:=by have:=r.un;lia
noncomputable def Kr:TA:=fun _ H Q=>Q [] H
noncomputable def o5 (ta:TE) (tr:TA):TA:=fun σ H Q=>ta σ H fun x H1=>tr σ H1 fun xs H2=>Q (x::xs) H2
section
variable {X:Cx} {e:aS} {es:List aS} {te:TE} {t:TA} {pos:ft}
theorem kW:PA X [] Kr:=fun _ _ _ _ H Q I h=>yS ⟨[],H,I,.nil,h⟩
theorem fX (ha:PE X e te) (hr:PA X es t) (hs:am (e::es) X.env=(false,b9 e X.env)::am es X.env:=by rfl):PA X (e::es) (o5 te t):=by
 intro pos pins s σ H Q I h
 rw [hs]
 show aM _ _ (spliced ((false,b9 e X.env)::cz pos (am es X.env))) _ _ s
 refine me (thn (ha pins s σ H _ I h) fun u s1 ⟨x,H1,I1,r1,q1⟩=>?_)
 exact thn (hr pos pins s1 σ H1 _ I1 q1) fun us s2 ⟨xs,H2,I2,r2,q2⟩=>⟨x::xs,H2,I2,.cons r1 r2,q2⟩
noncomputable def Mb (t:TA):TE:=fun σ H Q=>t σ H fun xs H1=>xs.length<=aK/\∀ p,H1 p=none->Q (.ref p) (upd H1 p (.tup xs))
noncomputable def Mf (t:TA):TE:=fun σ H Q=>t σ H fun xs H1=>xs.length<=aK/\∀ p,H1 p=none->Q (.ref p) (upd H1 p (.lst xs))
theorem IA {x1} (h:PA X es t):PE X (.Tuple es x1 pos) (Mb t):=by
 intro pins s σ H Q I hq
 refine wpAny_Tuple_spliced (thn (h pos pins s σ H _ I hq) fun us s1 ⟨xs,H1,I1,r,z,q⟩=>⟨by rw [<- r.length];exact z,?_⟩)
 have hf:H1 s1.heap.objs.size=none:=I1.hok.fresh (aw _)
 refine ⟨.ref s1.heap.objs.size,upd H1 s1.heap.objs.size (.tup xs),I1.laid (t':=s1.toks) (fun b u e=>ag _ e) (aw _) ?_,rfl,q _ hf⟩
 exact ⟨⟨z,mH.new _ _⟩,us,r,⟨_,aJ _ rfl,rfl,_,rfl⟩⟩
theorem Km (h:PA X es t):PE X (.List es pos) (Mf t):=by
 intro pins s σ H Q I hq
 refine wpAny_List_spliced (thn (h pos pins s σ H _ I hq) fun us s1 ⟨xs,H1,I1,r,z,q⟩=>⟨by rw [<- r.length];exact z,?_⟩)
 have hf:H1 s1.heap.objs.size=none:=I1.hok.fresh (aw _)
 refine ⟨.ref s1.heap.objs.size,upd H1 s1.heap.objs.size (.lst xs),I1.laid (t':=s1.toks) (fun b u e=>ag _ e) (aw _) ?_,rfl,q _ hf⟩
 exact ⟨z,us,0,r,aJ _ rfl⟩
end
noncomputable abbrev Sp:=List V->Hp->VK->XK->Prop
noncomputable abbrev CXT:=List p4->Hp->ai->XK->ae->ai->Prop
structure KU (P:bC) (w:cf) (K:ac) (mg:bM->Option ae) (base:cy) (A:bL) (outer:List p4) (s:ai) (H:Hp):Prop where
 frames:A.frames=some outer
 mod:Mod K mg base
 bs:∀ b o,base.get? b=some o->s.heap.get? b=some o/\H b=none
 bsz:base.objs.size<=s.heap.objs.size
 funs:s.heap.FunFrames base outer
 frf:∀ b∈frs outer,H b=none
 hok:HOk P w H s.heap
 bare:lL s.gens
noncomputable def CE (outer:List p4) (P:bC) (w:cf) (H:Hp) (s:ai) (Q:VK) (u:ae) (s':ai):Prop :=
 ∃ v H',s'.os=s.os/\lL s'.gens/\Un (frs outer) [] H H' s.heap s'.heap/\HOk P w H' s'.heap/\gH v u/\Q v H'
noncomputable def CR (CX:CXT) (outer:List p4) (P:bC) (w:cf) (H:Hp) (s:ai) (Q:VK) (E:XK) (r:zd) (s':ai):Prop :=
 match r with
 | .ok (.ret u)=>CE outer P w H s Q u s'
 | .ok _=>False
 | .error e=>CX outer H s E e s'
structure vF (P:bC) (w:cf) (K:ac) (mg:bM->Option ae) (base:cy) (CX:CXT) (k:Nat) (f:ak) (fd:dG) (ps:List bM) (sp:Sp):Prop where
 len:∀ vs H Q E,sp vs H Q E->vs.length=ps.length
 run:∀ (A:bL) (outer:List p4) (s:ai) (H:Hp) (args:Args) (us:List ae) (vs:List V) (Q:VK) (E:XK),jf k A->KU P w K mg base A outer s H->vc s fd args (ps.zip us)->eG vs us->sp vs H Q E ->
  lN (bg P w) A (.call (.ref f) args) (CR CX outer P w H s Q E) s
section
variable {X:Cx} {pins:List (ak×dz)} {σ:St} {H:Hp} {s s':ai}
theorem Inv.env0 (I:Inv X pins σ H s):KU X.prog X.w X.K X.mg X.base X.A X.stack s H :=
 ⟨I.ok.frames,I.ok.mod,I.bs,bO I.ok.bsz I.sz,I.stack,I.stkFree,I.hok,I.bare⟩
theorem Inv.after {Q:VK} {u:ae} (I:Inv X pins σ H s) (h:CE X.stack X.prog X.w H s Q u s'):EP X pins σ Q u s':=by
 obtain ⟨v,H',os,bare,un,hok,r,q⟩:=h
 obtain ⟨hh,g,d,t,os'⟩:=s'
 obtain rfl:os'=s.os:=os
 exact ⟨v,H',I.call (h':=hh) (g':=g) (d':=d) (t':=t) (ch:=[]) un hok bare (fun b z=>absurd z (by simp)),r,q⟩
end
noncomputable def GG (sp:Sp) (dvs:List V) (E:XK) (t:TA):TE:=fun σ H Q=>t σ H fun vs H1=>sp (vs++dvs) H1 Q E
noncomputable def sr (K:ac) (fd:dG) (ps:List bM) (ds:List ae):Prop :=
 ∀ (s:ai) (us:List ae),K.In s.heap->(us++ds).length=ps.length->vc s fd ⟨us,[]⟩ (ps.zip (us++ds))
theorem sr.all {K:ac} {fd:dG} {ps:List bM} (h:∀ us:List ae,us.length=ps.length->jT fd ⟨us,[]⟩=pure (ps.zip us)):sr K fd ps []:=fun s us _ hl=>by
 rw [e8] at hl ⊢
 exact .of_eq (h us hl)
noncomputable def Aq (CX:CXT) (X:Cx) (E:XK):Prop:=∀ (pins:List (ak×dz)) (σ:St) (H:Hp) (s:ai) (e:ae) (s':ai),Inv X pins σ H s->CX X.stack H s E e s'->X.xe e s'
section
variable {X:Cx} {CX:CXT} {k:Nat} {f C:ak} {fd:dG} {ps:List bM} {sp:Sp} {dvs:List V} {ds:List ae} {E:XK} {x m:bM} {p pos apos:ft} {e o:aS} {es:List aS} {ta:TE} {t:TA}
theorem Jc {pins:List (ak×dz)} {σ:St} {H:Hp} {s:ai} {Q:VK} {us:List ae} {vs:List V} (F:vF X.prog X.w X.K X.mg X.base CX k f fd ps sp) (hr:jf k X.A) (hb:sr X.K fd ps ds) (hd:eG dvs ds) (hx:Aq CX X E)
 (I:Inv X pins σ H s) (r:eG vs us) (h:sp (vs++dvs) H Q E):aM (bg X.prog X.w) X.A (call (.ref f) us) (EP X pins σ Q) X.xe s:=by
 have r2:eG (vs++dvs) (us++ds):=r.append hd
 have hl:(us++ds).length=ps.length:=by rw [<- r2.length];exact F.len _ _ _ _ h
 refine wpAny_call (p7 (F.run X.A X.stack s H ⟨us,[]⟩ (us++ds) (vs++dvs) Q E hr I.env0 (hb s us I.kIn hl) r2 h) fun r s' hq=>?_)
 cases r with
 | error e=>exact hx pins σ H s e s' I hq
 | ok fl =>
   cases fl with
   | ret u=>exact I.after hq
   | next=>exact cm hq
   | brk=>exact cm hq
   | cont=>exact cm hq
theorem vB (F:vF X.prog X.w X.K X.mg X.base CX k f fd ps sp) (hr:jf k X.A) (hg:Gl X x) (hm:X.mg x=some (.ref f)) (hk:aY X.K (.ref f)=true) (hb:sr X.K fd ps ds) (hd:eG dvs ds) (hx:Aq CX X E)
 (ha:PA X (e::es) t) (hdb:(x == ("__debug__" : bM))=false:=by decide) (he:am (e::es) X.env=(false,b9 e X.env)::am es X.env:=by rfl) (hpl:(cz pos (am es X.env)).any (·.1)=false:=by rfl) :
 PE X (.Call (.Name x p) (e::es) [] pos) (GG sp dvs E t):=by
 intro pins s σ H Q I h
 refine fR (Fu I hg hm ?_ hdb)
 refine PySem.W.callWith_K (h₀:=X.base) I.ok.mod.kin hk (thn (ha pos pins s σ H _ I h) fun us s1 ⟨vs,H1,I1,r,q⟩=>⟨I1.kIn,?_⟩) he hpl
 exact Jc F hr hb hd hx I1 r q
end
structure g8 (N P:List bM) (sc:eI):Prop where
 kind:sc.kind=.function
 co:sc.isCoroutine=false
 gen:sc.isGenerator=false
 nd:N.Nodup
 pre:N.take P.length=P
 par:∀ x∈P,sc.names.lookup x=some .local\/sc.names.lookup x=some .cell
 nofree:∀ y∈sc.names,y.2≠.free
theorem uB {kindOf:bM->Option eC} {x:bM}:∀ {binds:List (bM×ae)} {m:bM->Option ae},(∀ v,(x,v)∉binds)->yT kindOf binds m x=m x
 | [],_,_=>rfl
 | (n,v)::r,m,h=>by
   unfold yT
   rw [uB fun w hw=>h w (af _ hw)]
   split
   ·have:x≠n:=by rintro rfl;exact h v ah
    simp [this]
   ·rfl
theorem uP {kindOf:bM->Option eC} {x:bM}:∀ {binds:List (bM×ae)} {m:bM->Option ae},(∀ v,(x,v)∉binds)->yU kindOf binds m x=m x
 | [],_,_=>rfl
 | (n,v)::r,m,h=>by
   unfold yU
   rw [uP fun w hw=>h w (af _ hw)]
   split
   ·rfl
   ·have:x≠n:=by rintro rfl;exact h v ah
    simp [this]
theorem uQ {kindOf:bM->Option eC} {x:bM} {v:ae}:∀ {P:List bM} {vs:List ae} {i:Nat} {m:bM->Option ae},P.Nodup->P[i]?=some x->vs[i]?=some v->kindOf x=some .local ->
 yT kindOf (P.zip vs) m x=some v
 | [],_,_,_,_,h,_,_=>by simp at h
 | _::_,[],_,_,_,_,h,_=>by simp at h
 | p::P,w::vs,0,m,nd,h1,h2,hk=>by
   simp at h1 h2;subst h1;subst h2
   show yT kindOf ((p,w)::P.zip vs) m p=_
   unfold yT
   rw [uB fun v hv=>(be.mp nd).1 (pX hv).1,if_pos hk]
   simp
 | p::P,w::vs,i+1,m,nd,h1,h2,hk=>by
   show yT kindOf ((p,w)::P.zip vs) m x=_
   unfold yT
   exact uQ (i:=i) (be.mp nd).2 (by simpa using h1) (by simpa using h2) hk
theorem uH {kindOf:bM->Option eC} {x:bM} {v:ae}:∀ {P:List bM} {vs:List ae} {i:Nat} {m:bM->Option ae},P.Nodup->P[i]?=some x->vs[i]?=some v->kindOf x≠some .local ->
 yU kindOf (P.zip vs) m x=some v
 | [],_,_,_,_,h,_,_=>by simp at h
 | _::_,[],_,_,_,_,h,_=>by simp at h
 | p::P,w::vs,0,m,nd,h1,h2,hk=>by
   simp at h1 h2;subst h1;subst h2
   show yU kindOf ((p,w)::P.zip vs) m p=_
   unfold yU
   rw [uP fun v hv=>(be.mp nd).1 (pX hv).1,if_neg hk]
   simp
 | p::P,w::vs,i+1,m,nd,h1,h2,hk=>by
   show yU kindOf ((p,w)::P.zip vs) m x=_
   unfold yU
   exact uH (i:=i) (be.mp nd).2 (by simpa using h1) (by simpa using h2) hk
noncomputable def start (N:List bM) (vs:List V):St:=vs.map some++Ek (N.length-vs.length) none
noncomputable def xg (CX:CXT) (P:bC) (w:cf) (K:ac) (mg:bM->Option ae) (base:cy) (N:List bM) (qual:bM) (scope:eI) (f:ak) (cd:ae) (A:bL) (outer:List p4) (s:ai) (H:Hp) (E:XK):Cx where
 prog:=P
 w:=w
 K:=K
 mg:=mg
 base:=base
 A:=A.deeper (fG qual scope s.heap.objs.size f cd)
 N:=N
 s₀:=s
 H₀:=H
 env:=fG qual scope s.heap.objs.size f cd
 outer:=outer
 stack:=fG qual scope s.heap.objs.size f cd::outer
 ex:=[]
 calm:=true
 fn:=fun _=>true
 pn:=[]
 xe:=fun e s'=>aM (bg P w) (A.deeper (fG qual scope s.heap.objs.size f cd)) (leaving (fG qual scope s.heap.objs.size f cd) e) (fun _ s''=>CX outer H s E e s'') (fun e' s''=>CX outer H s E e' s'') s'
theorem xi {sc:eI} {n:Nat} {x:bM} (h:sc.names.lookup x=some .cell):∃ c,(eJ n sc.names []).lookup x=some c:=by
 have q:=gW sc.names n [] (.inl h)
 exact jv.mp q
theorem AK {CX:CXT} {P:bC} {w:cf} {K:ac} {mg:bM->Option ae} {base:cy} {N ps:List bM} {qual:bM} {scope:eI} {f:ak} {cd:ae} {A:bL} {outer:List p4} {s s1:ai} {H:Hp} {E:XK} {us:List ae} {vs:List V}
 (S:g8 N ps scope) (hd:A.handled=none) (e0:KU P w K mg base A outer s H) (hl:vs.length=ps.length) (r:eG vs us)
 (x:InCallC s s.heap.objs.size (yT (fG qual scope s.heap.objs.size f cd).kindOf (ps.zip us) fun _=>none) (eJ (s.heap.objs.size+1) scope.names []) (yU (fG qual scope s.heap.objs.size f cd).kindOf (ps.zip us) fun _=>none) s1) :
 Inv (xg CX P w K mg base N qual scope f cd A outer s H E) [] (start N vs) H s1:=by
 have hpl:ps.length<=N.length:=by have:=congrArg gs S.pre;rw [gC] at this;lia
 obtain ⟨h1,tk,rfl,hk⟩:=x.done
 have noA:∀ b:ak,b∉(xg CX P w K mg base N qual scope f cd A outer s H E).ex:=fun b z=>absurd (show b∈([]:List ak) from z) (by simp)
 refine ⟨⟨e0.mod,S.kind,rfl,rfl,aw _,fun y z c h1 h2=>?_,fun y hy=>?_,fun y c _ h=>?_,fun _=>hd,vd e0.frames,.inr ⟨rfl,rfl⟩,fun b z=>absurd z (noA b),e0.bs,e0.bsz,fun b _ _=>noA b,fun b z=>absurd z (noA b),e0.funs,e0.frf⟩,
  rfl,e0.bare,Un.kept hk,⟨_,x.toInCall.ns,fun i y v h1 h2 h3=>?_⟩,fun y c h=>⟨_,x.cell y c h⟩,e0.hok.fresh (aw _),fun y c h=>?_,fun p hp=>absurd (show p∈([]:List (ak×dz)) from hp) (by simp),e0.hok.kept hk,?_⟩
 ·exact name_of_addr x.apart (gG h1) (gG h2)
 ·have hy:scope.names.lookup y=some .cell\/scope.names.lookup y=some .free:=hy
  rcases hy with hy | hy
  ·exact xi hy
  ·exact absurd rfl (S.nofree _ (gG hy))
 ·exact jc (x.above y c (gG h))
 ·have hi:i<vs.length:=by
   unfold start at h2
   by_cases hi:i<vs.length
   ·exact hi
   ·rw [cR (by simpa using hi)] at h2
    rw [j6] at h2
    split at h2<;>cases h2
  have ha:vs[i]?=some v:=by
   unfold start at h2
   rw [dH (by simpa using hi),aA] at h2
   cases e:vs[i]? with
   | none=>rw [e] at h2;cases h2
   | some a=>rw [e] at h2;cases h2;rfl
  obtain ⟨u,hu,rv⟩:=r.get ha
  have hp:ps[i]?=some y:=by
   rw [<- S.pre,List.getElem?_take_of_lt (by lia)];exact h1
  have ndP:ps.Nodup:=by rw [<- S.pre];exact S.nd.sublist (List.take_sublist _ _)
  refine ⟨u,rv,?_⟩
  rcases S.par y (bJ hp) with k | k
  ·exact .inl ⟨k,uQ ndP hp hu k⟩
  ·obtain ⟨c,e⟩:=xi (n:=s.heap.objs.size+1) k
   refine .inr ⟨.inl k,c,e,?_⟩
   have q:=x.cell y c e
   rw [uH ndP hp hu (by show scope.names.lookup y≠_;rw [k];decide)] at q
   exact q
 ·exact e0.hok.fresh (jc (x.above y c (gG h)))
 ·unfold start
  show _=N.length
  rw [aO,ab,lb]
  lia
theorem Kn {CX:CXT} {P:bC} {w:cf} {K:ac} {mg:bM->Option ae} {base:cy} {k:Nat} {f:ak} {name qual:bM} {params:iU} {body:List cX} {scope:eI} {dV kV doc pm cdv ct oc:ae} {an od:Option ak}
 {osl:Array (Option ae)} {N ps:List bM} {sp:Sp} (lk:K.lookup f=some ⟨oc,od,.func (aZ name qual params body scope dV kV doc pm an cdv ct),osl⟩) (hcd:bi K cdv qual=true) (S:g8 N ps scope)
 (len:∀ vs H Q E,sp vs H Q E->vs.length=ps.length)
 (hbody:∀ (A:bL) (outer:List p4) (s:ai) (H:Hp) (vs:List V) (Q:VK) (E:XK),jf k (A.deeper (fG qual scope s.heap.objs.size f cdv))->sp vs H Q E ->
   ∃ t,PSs (xg CX P w K mg base N qual scope f cdv A outer s H E) body t/\t { nx:=fun _ H'=>Q .non H',rt:=Q } (start N vs) H) :
 vF P w K mg base CX (k+1) f (aZ name qual params body scope dV kV doc pm an cdv ct) ps sp:=by
 refine ⟨len,fun A outer s H args us vs Q E hr e0 hb r hsp=>?_⟩
 have hl:=len _ _ _ _ hsp
 have KX:K.In s.heap:=e0.mod.kin.keeps fun b o e=>(e0.bs b o e).1
 have lim:s.heap.NoLimit:=e0.mod.nolimit.keeps fun b o e=>(e0.bs b o e).1
 have hkind:∀ y∈ps.zip us,scope.names.lookup y.1=some .local\/(scope.names.lookup y.1=some .cell/\((eJ (s.heap.objs.size+1) scope.names []).lookup y.1).isSome=true):=fun ⟨n,v⟩ hy=>by
  rcases S.par n (pX hy).1 with q | q
  ·exact .inl q
  ·exact .inr ⟨q,gW _ _ _ (.inl q)⟩
 refine codeAny_call_function hr.depth (KX _ _ lk) rfl S.co S.gen rfl (PySem.W.codeRec_of KX hcd) (hb _ _ _ _ ?_)
 refine wpAny_newFunctionEnv_cells S.kind hkind fun env he s1 x=>?_
 subst he
 refine ⟨lim.keeps x.toInCall.keep,codeAny_func ?_⟩
 obtain ⟨t,ht,hq⟩:=hbody A outer s H vs Q E (hr.deeper _) hsp
 have I:Inv (xg CX P w K mg base N qual scope f cdv A outer s H E) [] (start N vs) H s1:=AK S hr.hd e0 hl r x
 refine d6 (ht [] s1 (start N vs) H _ I hq) (fun fl s' hs=>?_) fun e s' hs=>hs
 have fin:∀ {σ':St} {H':Hp} {v:V} {u:ae},Inv (xg CX P w K mg base N qual scope f cdv A outer s H E) [] σ' H' s'->gH v u->Q v H'->CE outer P w H s Q u s' :=
  fun {σ' H' v u} J rv q=>⟨v,H',J.os,J.bare,J.base,J.hok,rv,q⟩
 cases fl with
 | ret u =>
   obtain ⟨v,σ',H',J,rv,q⟩:=hs
   exact fin J rv q
 | next =>
   obtain ⟨σ',H',J,q⟩:=hs
   exact fin (v:=V.non) (u:=bB) J rfl q
 | brk =>
   obtain ⟨_,_,_,q⟩:=hs
   exact cm q
 | cont =>
   obtain ⟨_,_,_,q⟩:=hs
   exact cm q
section
variable {X:Cx} {x:bM} {p pos:ft} {e:aS} {es:List aS} {t:TA} {id T:String} {r:List V->Hp->VK->Prop}
noncomputable def tCB (r:List V->Hp->VK->Prop) (t:TA):TE:=fun σ H Q=>t σ H fun vs H1=>r vs H1 Q
theorem CU (hc:kY X (.builtin id) r) (hg:Gl X x) (hm:X.mg x=none) (hv:iE x=some (.builtin id)) (ha:PA X (e::es) t) (hn:x≠"__name__":=by decide) (hdb:(x == ("__debug__" : bM))=false:=by decide)
 (he:am (e::es) X.env=(false,b9 e X.env)::am es X.env:=by rfl) (hpl:(cz pos (am es X.env)).any (·.1)=false:=by rfl):PE X (.Call (.Name x p) (e::es) [] pos) (tCB r t):=by
 intro pins s σ H Q I h
 refine fR (nU I hg hm hv ?_ hn hdb)
 exact PyProof.Rows.callWith_builtin1 (thn (ha pos pins s σ H _ I h) fun us s1 ⟨vs,H1,I1,r1,q1⟩=>hc pins s1 σ H1 vs us Q I1 r1 q1) he hpl
theorem mC (hc:kY X (.type T) r) (hg:Gl X x) (hm:X.mg x=none) (hv:iE x=some (.type T)) (ha:PA X (e::es) t) (hn:x≠"__name__":=by decide) (hdb:(x == ("__debug__" : bM))=false:=by decide)
 (he:am (e::es) X.env=(false,b9 e X.env)::am es X.env:=by rfl) (hpl:(cz pos (am es X.env)).any (·.1)=false:=by rfl):PE X (.Call (.Name x p) (e::es) [] pos) (tCB r t):=by
 intro pins s σ H Q I h
 refine fR (nU I hg hm hv ?_ hn hdb)
 exact fC (thn (ha pos pins s σ H _ I h) fun us s1 ⟨vs,H1,I1,r1,q1⟩=>hc pins s1 σ H1 vs us Q I1 r1 q1) he hpl
end
section
variable {κ:Type} [DecidableEq κ]
noncomputable def nV (kvs:List (κ×V)) (k:κ):Option V:=(kvs.find? fun kv=>decide (kv.1=k)).map (·.2)
noncomputable def lB (kvs:List (κ×V)) (k:κ) (v:V):List (κ×V) :=
 if (kvs.any fun kv=>decide (kv.1=k))=true then kvs.map (fun kv=>if kv.1=k then (kv.1,v) else kv) else kvs++[(k,v)]
theorem j4 {p:κ×V} {r:List (κ×V)} {k:κ} (e:p.1=k):nV (p::r) k=some p.2:=by simp [nV,gU,e]
theorem jZ {p:κ×V} {r:List (κ×V)} {k:κ} (e:¬ p.1=k):nV (p::r) k=nV r k:=by simp [nV,gU,e]
theorem oC (k:κ):∀ kvs:List (κ×V),(kvs.any fun kv=>decide (kv.1=k))=(nV kvs k).isSome
 | []=>rfl
 | p::r=>by
   rw [jM]
   by_cases e:p.1=k
   ·simp only [j4 e,decide_eq_true e,Bool.true_or,wB]
   ·rw [jZ e,decide_eq_false e,Bool.false_or];exact oC k r
theorem jX (kvs:List (κ×V)) (k:κ) (v:V):(lB kvs k v).length<=kvs.length+1:=by
 unfold lB
 split
 ·rw [ab];lia
 ·rw [aO,aI,dg];lia
theorem so {kvs:List (κ×V)} {k:κ} (v:V) (h:nV kvs k=none):lB kvs k v=kvs++[(k,v)]:=by
 unfold lB
 rw [oC,h]
 exact if_neg (by decide)
theorem y9.isSome_eq {o:Option V} {u:Option ae} (r:y9 o u):o.isSome=u.isSome:=by
 cases o with
 | none=>cases u with
   | none=>rfl
   | some _=>exact (show False from r).elim
 | some _=>cases u with
   | none=>exact (show False from r).elim
   | some _=>rfl
theorem y9.getD {o:Option V} {u:Option ae} {d:V} {d':ae} (r:y9 o u) (rd:gH d d'):gH (o.getD d) (u.getD d'):=by
 cases o with
 | none=>cases u with
   | none=>exact rd
   | some _=>exact (show False from r).elim
 | some _=>cases u with
   | none=>exact (show False from r).elim
   | some _=>exact r
theorem KV.val {kvs:List (κ×V)} {vs:List (κ×ae)} (r:KV kvs vs) (k:κ):y9 (nV kvs k) (p8 vs k):=by
 unfold KV at r
 induction r with
 | nil=>exact jh
 | @cons p q ps qs h t ih =>
   obtain ⟨h1,h2⟩:=h
   by_cases e:p.1=k
   ·have e':q.1=k:=h1.symm.trans e
    have b:p8 (q::qs) k=some q.2:=by simp [p8,gU,e']
    rw [j4 e,b];exact h2
   ·have e':¬ q.1=k:=fun z=>e (h1.trans z)
    have b:p8 (q::qs) k=p8 qs k:=by simp [p8,gU,e']
    rw [jZ e,b];exact ih
theorem KV.any {kvs:List (κ×V)} {vs:List (κ×ae)} (r:KV kvs vs) (k:κ):(kvs.any fun kv=>decide (kv.1=k))=vs.any fun kv=>decide (kv.1=k):=by
 unfold KV at r
 induction r with
 | nil=>rfl
 | cons h t ih=>rw [jM,jM,ih,h.1]
theorem KV.repl {kvs:List (κ×V)} {vs:List (κ×ae)} (r:KV kvs vs) (k:κ) {y:V} {u:ae} (ry:gH y u) :
 KV (kvs.map fun kv=>if kv.1=k then (kv.1,y) else kv) (vs.map fun kv=>if kv.1=k then (kv.1,u) else kv):=by
 unfold KV at r ⊢
 induction r with
 | nil=>exact .nil
 | @cons p q ps qs h t ih =>
   rw [ax,ax]
   refine .cons ?_ ih
   obtain ⟨h1,h2⟩:=h
   by_cases e:p.1=k
   ·rw [if_pos e,if_pos (h1.symm.trans e)];exact ⟨h1,ry⟩
   ·rw [if_neg e,if_neg (fun z=>e (h1.trans z))];exact ⟨h1,h2⟩
theorem KV.put {kvs:List (κ×V)} {vs:List (κ×ae)} (r:KV kvs vs) (k:κ) {y:V} {u:ae} (ry:gH y u):KV (lB kvs k y) (stored vs k u):=by
 unfold lB stored
 rw [r.any k]
 by_cases e:(vs.any fun kv=>decide (kv.1=k))=true
 ·rw [if_pos e,if_pos e];exact r.repl k ry
 ·rw [if_neg e,if_neg e];exact Paired.snoc r ⟨rfl,ry⟩
theorem KV.keys {kvs:List (κ×V)} {vs:List (κ×ae)} (r:KV kvs vs):kvs.map (·.1)=vs.map (·.1):=by
 unfold KV at r
 induction r with
 | nil=>rfl
 | cons h t ih=>rw [ax,ax,ih,h.1]
theorem KV.length {kvs:List (κ×V)} {vs:List (κ×ae)} (r:KV kvs vs):kvs.length=vs.length:=cj r
end
theorem uq {P:bC} {w:cf} {k:Key} {u:ae} (r:gH (kV k) u):(cN P w).is k u=true:=by
 cases k with
 | inl i=>obtain ⟨t,e⟩:=(show ∃ t,u=eZ i t from r);subst e;exact vC P w i t
 | inr x=>obtain ⟨t,e⟩:=(show ∃ t,u=tu x t from r);subst e;exact vJ P w x t
theorem uk {P:bC} {w:cf}:∀ {ks:List Key} {us:List ae},eG (ks.map kV) us->ItemsAre (cN P w) ks us
 | [],_,r=>by rw [ja] at r;cases r;exact .nil
 | k::ks,_,r=>by
   rw [ax] at r
   cases r with
   | cons h t=>exact .cons (uq h) (uk t)
noncomputable abbrev KT (H:Hp):List (List Key×V)->List (List Key×ak×ae)->Prop:=oF fun p q=>p.1=q.1/\H q.2.1=some (.tup (p.1.map kV))/\gH p.2 q.2.2
theorem KT.val {H:Hp} {kvs:List (List Key×V)} {xs:List (List Key×ak×ae)} (r:KT H kvs xs) (k:List Key):y9 (nV kvs k) ((vm xs k).map (·.2)):=by
 induction r with
 | nil=>exact jh
 | @cons p q ps qs h t ih =>
   obtain ⟨h1,_,h2⟩:=h
   by_cases e:p.1=k
   ·have e':q.1=k:=h1.symm.trans e
    have b:vm (q::qs) k=some q.2:=by simp [vm,gU,e']
    rw [j4 e,b];exact h2
   ·have e':¬ q.1=k:=fun z=>e (h1.trans z)
    have b:vm (q::qs) k=vm qs k:=by simp [vm,gU,e']
    rw [jZ e,b];exact ih
theorem KT.repl {H:Hp} {kvs:List (List Key×V)} {xs:List (List Key×ak×ae)} (r:KT H kvs xs) (k:List Key) {y:V} {u:ae} (ry:gH y u) :
 KT H (kvs.map fun kv=>if kv.1=k then (kv.1,y) else kv) (xs.map (putAt k u)):=by
 induction r with
 | nil=>exact .nil
 | @cons p q ps qs h t ih =>
   rw [ax,ax]
   refine .cons ?_ ih
   obtain ⟨h1,h2,h3⟩:=h
   unfold putAt
   by_cases e:p.1=k
   ·rw [if_pos e,if_pos (h1.symm.trans e)];exact ⟨h1,h2,ry⟩
   ·rw [if_neg e,if_neg (fun z=>e (h1.trans z))];exact ⟨h1,h2,h3⟩
theorem KT.put {H:Hp} {kvs:List (List Key×V)} {xs:List (List Key×ak×ae)} (r:KT H kvs xs) (k:List Key) {b:ak} {y:V} {u:ae} (hb:H b=some (.tup (k.map kV))) (ry:gH y u) :
 KT H (lB kvs k y) (storedH xs k b u):=by
 have e:(kvs.any fun kv=>decide (kv.1=k))=(vm xs k).isSome:=by
  rw [oC,(r.val k).isSome_eq,mO]
 unfold lB storedH
 rw [e]
 by_cases q:(vm xs k).isSome=true
 ·rw [if_pos q,if_pos q];exact r.repl k ry
 ·rw [if_neg q,if_neg q];exact Paired.snoc r ⟨rfl,hb,ry⟩
theorem KT.keeps {H H':Hp} {kvs:List (List Key×V)} {xs:List (List Key×ak×ae)} (r:KT H kvs xs) (ht:∀ b ys,H b=some (.tup ys)->H' b=some (.tup ys)):KT H' kvs xs :=
 Paired.mapP r fun _ _ z=>⟨z.1,ht _ _ z.2.1,z.2.2⟩
section
variable {P:bC} {w:cf} {H:Hp} {h:cy} {a:ak}
theorem JJ {u:HO} (ok:HOk P w H h) (e:Rd H a u):gV P w H h a u:=e.ok ok
theorem uJ {kvs:List (Key×V)} (ok:HOk P w H h) (e:Rd H a (.dK kvs)):kvs.length<=aK/\(a == dt)=false/\∃ vs,KV kvs vs/\h.DictOf (cN P w) a vs :=
 show gV P w H h a (.dK kvs) from JJ ok e
theorem Kg {kvs:List (Key×V)} (ok:HOk P w H h) (e:H a=some (.dK kvs)):kvs.length<=aK/\(a == dt)=false/\∃ vs,KV kvs vs/\h.DictOf (cN P w) a vs:=uJ ok (.inl e)
theorem mI {ks:List Key} (ok:HOk P w H h) (e:H a=some (.tup (ks.map kV))):(jL (cN P w)).is h ks a:=by
 obtain ⟨_,its,r,o,h1,h2,n,h3⟩:=(show gV P w H h a (.tup (ks.map kV)) from ok a _ e)
 exact ⟨o,its.toArray,n,h1,h2,h3,by simpa using uk r⟩
theorem wq {kvs:List (List Key×V)} (ok:HOk P w H h) (e:Rd H a (.dT kvs)):kvs.length<=aK/\(a == dt)=false /\
 ∃ xs,KT H kvs xs/\h.DictOfH (jL (cN P w)) a xs:=by
 obtain ⟨z,y,xs,r,o,es,ep,h1,h2,h3,h4,h5⟩:=(show gV P w H h a (.dT kvs) from JJ ok e)
 refine ⟨z,y,xs,r,o,es,ep,h1,h2,h3,h4,fun x hx=>?_,h5⟩
 have all:∀ {l:List (List Key×V)} {m:List (List Key×ak×ae)},KT H l m->∀ x∈m,(jL (cN P w)).is h x.1 x.2.1:=by
  intro l m q
  induction q with
  | nil=>intro x hx;exact nomatch hx
  | @cons p q ps qs hq t ih =>
    intro x hx
    rcases ao.mp hx with e | hx
    ·subst e
     exact mI ok (by rw [<- hq.1];exact hq.2.1)
    ·exact ih x hx
 exact all r x hx
theorem Jq {kvs:List (List Key×V)} (ok:HOk P w H h) (e:H a=some (.dT kvs)):kvs.length<=aK/\(a == dt)=false /\
 ∃ xs,KT H kvs xs/\h.DictOfH (jL (cN P w)) a xs:=wq ok (.inl e)
end
noncomputable def sR (H:Hp) (a:ak) (y:V) (r:Option V):Prop :=
 (∃ kvs k,Rd H a (.dK kvs)/\y=kV k/\r=nV kvs k)\/∃ kvs k b,Rd H a (.dT kvs)/\y=.ref b/\H b=some (.tup (k.map kV))/\r=nV kvs k
noncomputable def CV (H:Hp) (a:ak) (y v:V) (H':Hp):Prop :=
 (∃ kvs k,H a=some (.dK kvs)/\y=kV k/\kvs.length<aK/\H'=upd H a (.dK (lB kvs k v))) \/
 ∃ kvs k b,H a=some (.dT kvs)/\y=.ref b/\H b=some (.tup (k.map kV))/\kvs.length<aK/\H'=upd H a (.dT (lB kvs k v))
theorem sR.k {H:Hp} {a:ak} {kvs:List (Key×V)} {k:Key} (e:H a=some (.dK kvs)):sR H a (kV k) (nV kvs k):=.inl ⟨kvs,k,.inl e,rfl,rfl⟩
theorem CV.k {H:Hp} {a:ak} {kvs:List (Key×V)} {k:Key} {v:V} (e:H a=some (.dK kvs)) (hl:kvs.length<aK):CV H a (kV k) v (upd H a (.dK (lB kvs k v))):=.inl ⟨kvs,k,e,rfl,hl,rfl⟩
section
variable {X:Cx} {pins:List (ak×dz)} {σ:St} {H:Hp} {s:ai} {a:ak} {y v:V} {u r:ae} {o:Option V} {A:bL} {E:ae->ai->Prop}
theorem Inv.big (I:Inv X pins σ H s):dt<s.heap.objs.size:=by
 have h:aQ<s.heap.objs.size:=(I.mod.glob.keeps I.bk).lt
 exact Nat.lt_trans (by decide) h
theorem BK {Q:ae->ai->Prop} (hu:A.units+1<cr) (I:Inv X pins σ H s) (g:sR H a y (some v)) (ry:gH y u) (h:∀ w' s',Inv X pins σ H s'->gH v w'->Q w' s') :
 aM (bg X.prog X.w) A (kz (.ref a) u) Q E s:=by
 rcases g with ⟨kvs,k,e,ey,l⟩ | ⟨kvs,k,b,e,ey,eb,l⟩
 ·subst ey
  obtain ⟨z,hd,vs,rel,dd⟩:=uJ I.hok e
  obtain ⟨w',hw,rw'⟩:=y9.some_of (v:=v) (o:=p8 vs k) (by rw [l];exact rel.val k)
  exact wpAny_getItem_of (uq ry) dd.mapOf hw (h w' _ (I.tok _) rw')
 ·subst ey
  cases (show u=bN b from ry)
  obtain ⟨z,hd,xs,rel,dd⟩:=wq I.hok e
  obtain ⟨w',hw,rw'⟩:=y9.some_of (v:=v) (o:=(vm xs k).map (·.2)) (by rw [l];exact rel.val k)
  obtain ⟨p,hp,hp2⟩:=tw.mp hw
  refine wpAny_getItem_heap (ib hu) (mI I.hok eb) dd hp ?_
  rw [hp2]
  exact h w' _ (I.tok _) rw'
theorem LW {Q:ae->ai->Prop} (hu:A.units+1<cr) (I:Inv X pins σ H s) (g:sR H a y o) (ry:gH y u) (h:∀ s',Inv X pins σ H s'->Q (.bool o.isSome) s') :
 aM (bg X.prog X.w) A (d7 .In u (.ref a)) Q E s:=by
 rcases g with ⟨kvs,k,e,ey,l⟩ | ⟨kvs,k,b,e,ey,eb,l⟩
 ·subst ey
  obtain ⟨z,hd,vs,rel,dd⟩:=uJ I.hok e
  refine wpAny_in_of (uq ry) hd dd.mapOf ?_
  rw [<- (rel.val k).isSome_eq,<- l]
  exact h _ (I.tok _)
 ·subst ey
  cases (show u=bN b from ry)
  obtain ⟨z,hd,xs,rel,dd⟩:=wq I.hok e
  refine wpAny_in_heap (ib hu) (mI I.hok eb) hd dd ?_
  have q:=(rel.val k).isSome_eq
  rw [mO] at q
  rw [<- q,<- l]
  exact h _ (I.tok _)
theorem Aa {Q:ae->ai->Prop} (hu:A.units+1<cr) (I:Inv X pins σ H s) (g:sR H a y o) (ry:gH y u) (h:∀ s',Inv X pins σ H s'->Q (.bool (!o.isSome)) s') :
 aM (bg X.prog X.w) A (d7 .NotIn u (.ref a)) Q E s:=by
 rcases g with ⟨kvs,k,e,ey,l⟩ | ⟨kvs,k,b,e,ey,eb,l⟩
 ·subst ey
  obtain ⟨z,hd,vs,rel,dd⟩:=uJ I.hok e
  refine wpAny_notIn_of (uq ry) hd dd.mapOf ?_
  rw [<- (rel.val k).isSome_eq,<- l]
  exact h _ (I.tok _)
 ·subst ey
  cases (show u=bN b from ry)
  obtain ⟨z,hd,xs,rel,dd⟩:=wq I.hok e
  refine wpAny_notIn_heap (ib hu) (mI I.hok eb) hd dd ?_
  have q:=(rel.val k).isSome_eq
  rw [mO] at q
  rw [<- q,<- l]
  exact h _ (I.tok _)
theorem tf {h':cy} {t':Nat} {ob:HO} (I:Inv X pins σ H s) (mu:Mut (H a)) (hs:kx a s.heap h') (he:∃ q,h'.get? a=some q) (new:gV X.prog X.w (upd H a ob) h' a ob) :
 Inv X pins σ (upd H a ob) { s with heap:=h',toks:=t' } :=
 I.write (x:=a) (e:=a) mu (.inl rfl) (fun b q hb z=>(hs.2 b hb).trans z) he new
theorem Ae {P:bC} {w:cf} {H':Hp} {h':cy} {kvs:List (Key×V)} {vs:List (Key×ae)} (z:kvs.length<=aK) (hd:(a == dt)=false) (rel:KV kvs vs) (dd:h'.DictOf (cN P w) a vs) :
 gV P w H' h' a (.dK kvs):=⟨z,hd,vs,rel,dd⟩
theorem BX {H':Hp} {Q:Unit->ai->Prop} (hu:A.units+1<cr) (I:Inv X pins σ H s) (g:CV H a y v H') (ry:gH y u) (rv:gH v r) (h:∀ s',Inv X pins σ H' s'->Q () s') :
 aM (bg X.prog X.w) A (setItem (.ref a) u r) Q E s:=by
 rcases g with ⟨kvs,k,e,ey,l,eH⟩ | ⟨kvs,k,b,e,ey,eb,l,eH⟩
 ·subst ey eH
  obtain ⟨z,hd,vs,rel,dd⟩:=Kg I.hok e
  have hz:vs.length<=aK:=by rw [<- rel.length];exact z
  have hl:(lB kvs k v).length<=aK:=by have:=jX kvs k v;lia
  refine wpAny_setItem_pairs (hsz:=hz) (uq ry) dd fun h' dd' hs=>h _ ?_
  have he:∃ q,h'.get? a=some q:=let ⟨q,_,_,hq,_⟩:=dd';⟨q,hq⟩
  exact tf I (by rw [e];exact jh) hs he (Ae hl hd (rel.put k rv) dd')
 ·subst ey eH
  cases (show u=bN b from ry)
  obtain ⟨z,hd,xs,rel,dd⟩:=Jq I.hok e
  have hz:xs.length<=aK:=by rw [<- cj rel];exact z
  have hl:(lB kvs k v).length<=aK:=by have:=jX kvs k v;lia
  refine wpAny_setItem_heap (hsz:=hz) (ib hu) (mI I.hok eb) dd fun h' dd' hs=>h _ ?_
  obtain ⟨q,es,ep,hq,h2,h3,h4,_,h5⟩:=dd'
  refine tf I (by rw [e];exact jh) hs ⟨q,hq⟩ ⟨hl,hd,_,(rel.put k eb rv).keeps fun c ys ec=>?_,q,es,ep,hq,h2,h3,h4,h5⟩
  rw [bq (Kp ec e (fun z=>nomatch z))]
  exact ec
end
section
variable {X:Cx} {pins:List (ak×dz)} {σ:St} {H:Hp} {s:ai} {a:ak} {kvs:List (Key×V)} {k:Key} {u:ae} {A:bL} {E:ae->ai->Prop}
theorem LI {Q:ae->ai->Prop} (I:Inv X pins σ H s) (e:Rd H a (.dK kvs)) (h:∀ t s',Inv X pins σ H s'->Q (.int kvs.length t) s'):aM (bg X.prog X.w) A (call (.builtin "len") [.ref a]) Q E s:=by
 obtain ⟨z,hd,vs,rel,dd⟩:=uJ I.hok e
 refine call_len_dict hd dd (by rw [<- rel.length];rw [bG] at z;lia) ?_
 rw [<- rel.length]
 exact h _ _ (I.tok _)
end
noncomputable def Lq (i:aS):Prop:=∀ ov iv,tz i false ov iv=operate [ov,iv] (kz ov iv)
theorem FU {prog:bC} {w:cf} {A:bL} {E:ae->ai->Prop} {s:ai} {env:p4} {value slice:aS} {pos:ft} {T id:String} {Q:ae->ai->Prop}
 (hl:typeLookup (.type T) "__getitem__" = pure (some (.builtin id))) (hs:Lq slice)
 (h:aM (bg prog w) A (b9 value env) (fun o s₁=>aM (bg prog w) A (b9 slice env) (fun i s₂=>s₂.TypeIs o T/\aM (bg prog w) A (kz o i) Q E s₂) E s₁) E s) :
 aM (bg prog w) A (b9 (.Subscript value slice pos) env) Q E s:=by
 refine Subscript_ (d6 h (fun o s₁ h₁=>d6 h₁ (fun i s₂ h₂=>?_) fun _ _ x=>x) fun _ _ x=>x)
 obtain ⟨hT,h₂⟩:=h₂
 unfold xV
 refine aa ?_
 rw [getitemInPython_of_ne hT.not_modules]
 refine aa (wpAny_specialOf hT hl ?_)
 have fin:aM (bg prog w) A (tz slice false o i) (fun r s₃=>aM (bg prog w) A (letTemporaryGo value o r>>=fun _=>pure r) Q E s₃) E s₂:=by
  rw [hs o i]
  exact wpAny_operating (d6 h₂ (fun r s₃ h₃=>aa (wpAny_letTemporaryGo (al h₃))) fun _ _ x=>x)
 first
  | exact al (aa fin)
  | exact aa (al (aa fin))
  | exact aa fin
theorem wA {X:Cx} {pins:List (ak×dz)} {σ:St} {H:Hp} {s:ai} {a:ak} {y:V} {o:Option V} (I:Inv X pins σ H s) (g:sR H a y o):s.TypeIs (.ref a) "dict":=by
 rcases g with ⟨kvs,k,e,_,_⟩ | ⟨kvs,k,b,e,_,_,_⟩
 ·obtain ⟨_,_,vs,_,dd⟩:=uJ I.hok e
  exact dd.typeIs
 ·obtain ⟨_,_,xs,_,dd⟩:=wq I.hok e
  exact dd.typeIs
noncomputable def DR (td ty:TE):TE:=fun σ H Q=>td σ H fun x H1=>ty σ H1 fun y H2=>∃ a v,x=.ref a/\sR H2 a y (some v)/\Q v H2
noncomputable def L0 (ty td:TE):TE:=fun σ H Q=>ty σ H fun y H1=>td σ H1 fun x H2=>∃ a o,x=.ref a/\sR H2 a y o/\Q (.bl o.isSome) H2
noncomputable def wl (ty td:TE):TE:=fun σ H Q=>ty σ H fun y H1=>td σ H1 fun x H2=>∃ a o,x=.ref a/\sR H2 a y o/\Q (.bl (!o.isSome)) H2
noncomputable def vQ (td ty tv:TE):TS:=fun D σ H=>tv σ H fun v H1=>td σ H1 fun x H2=>ty σ H2 fun y H3=>∃ a H4,x=.ref a/\CV H3 a y v H4/\D.nx σ H4
section
variable {X:Cx} {o i e value:aS} {pos pos' tpos:ft} {td ty tv:TE}
theorem vP (hu:X.A.units+1<cr) (ho:PE X o td) (hi:PE X i ty) (hs:Lq i):PE X (.Subscript o i pos) (DR td ty):=by
 intro pins s σ H Q I h
 refine FU PySem.F.slot_dict_getitem.lookup hs (thn (ho pins s σ H _ I h) fun u s1 ⟨x,H1,I1,rx,q1⟩=>thn (hi pins s1 σ H1 _ I1 q1) fun iv s2 ⟨y,H2,I2,ry,a,v,ex,g,q2⟩=>?_)
 subst ex
 obtain rfl:u=bN a:=rx
 exact ⟨wA I2 g,BK hu I2 g ry fun w' s3 I3 rw'=>⟨v,H2,I3,rw',q2⟩⟩
theorem J4 (hu:X.A.units+1<cr) (hi:PE X i ty) (ho:PE X o td):PC X .In i o (L0 ty td):=by
 intro pins s σ H Q I h
 refine thn (hi pins s σ H _ I h) fun iv s1 ⟨y,H1,I1,ry,q1⟩=>thn (ho pins s1 σ H1 _ I1 q1) fun u s2 ⟨x,H2,I2,rx,a,ov,ex,g,q2⟩=>?_
 subst ex
 obtain rfl:u=bN a:=rx
 exact LW hu I2 g ry fun s3 I3=>⟨.bl ov.isSome,H2,I3,rfl,q2⟩
theorem u3 (hu:X.A.units+1<cr) (hi:PE X i ty) (ho:PE X o td):PC X .NotIn i o (wl ty td):=by
 intro pins s σ H Q I h
 refine thn (hi pins s σ H _ I h) fun iv s1 ⟨y,H1,I1,ry,q1⟩=>thn (ho pins s1 σ H1 _ I1 q1) fun u s2 ⟨x,H2,I2,rx,a,ov,ex,g,q2⟩=>?_
 subst ex
 obtain rfl:u=bN a:=rx
 exact Aa hu I2 g ry fun s3 I3=>⟨.bl (!ov.isSome),H2,I3,rfl,q2⟩
theorem po (hu:X.A.units+1<cr) (ho:PE X o td) (hi:PE X i ty) (hv:PE X value tv) (hs:gT value (some (.Subscript o i pos')) pos.line X.env=pure false) :
 PS X (.Assign [.Subscript o i pos'] value pos) (vQ td ty tv):=by
 intro pins s σ H D I h
 refine wpAny_Assign_Subscript (thn (hv pins s σ H _ I h) fun r s1 ⟨v,H1,I1,rv,q1⟩=>thn (ho pins s1 σ H1 _ I1 q1) fun u s2 ⟨x,H2,I2,rx,q2⟩=>thn (hi pins s2 σ H2 _ I2 q2) fun iv s3 ⟨y,H3,I3,ry,a,H4,ex,g,q3⟩=>?_) hs
 subst ex
 obtain rfl:u=bN a:=rx
 exact BX hu I3 g ry rv fun s4 I4=>⟨σ,H4,I4,q3⟩
end
theorem xO {P:bC} {w:cf} {H:Hp} (h:cy) (hb:dt<h.objs.size):gV P w H (h.push { cls:=.type "dict",data:=.dict #[] }) h.objs.size (.dK []) :=
 ⟨bV _,beq_eq_false_iff_ne.mpr (Ne.symm (bu hb)),[],.nil,ve h⟩
theorem xM {P:bC} {w:cf} {H:Hp} (h:cy) (hb:dt<h.objs.size):gV P w H (h.push { cls:=.type "dict",data:=.dict #[] }) h.objs.size (.dT []) :=
 ⟨bV _,beq_eq_false_iff_ne.mpr (Ne.symm (bu hb)),[],.nil,_,#[],0,aJ _ rfl,⟨rfl,rfl,rfl⟩,rfl,rfl,El⟩
noncomputable def uO:TE:=fun _ H Q=>∀ p,H p=none->Q (.ref p) (upd H p (.dK []))
noncomputable def Ih:TE:=fun _ H Q=>∀ p,H p=none->Q (.ref p) (upd H p (.dT []))
section
variable {X:Cx} {pos:ft}
theorem mD:PE X (.Dict [] [] pos) uO:=fun pins s σ H Q I h =>
 wpAny_Dict_empty ⟨.ref s.heap.objs.size,_,I.laid (a:=s.heap.objs.size) (o:=.dK []) (t':=s.toks) (fun _ _ q=>ag _ q) (aw _) (xO s.heap I.big),rfl,h _ (I.hok.fresh (aw _))⟩
theorem DL:PE X (.Dict [] [] pos) Ih:=fun pins s σ H Q I h =>
 wpAny_Dict_empty ⟨.ref s.heap.objs.size,_,I.laid (a:=s.heap.objs.size) (o:=.dT []) (t':=s.toks) (fun _ _ q=>ag _ q) (aw _) (xM s.heap I.big),rfl,h _ (I.hok.fresh (aw _))⟩
end
noncomputable def zV:List (TE×TE)->St->Hp->(List (V×V)->Hp->Prop)->Prop
 | [],_,H,Q=>Q [] H
 | (tk,tv)::r,σ,H,Q=>tk σ H fun x H1=>tv σ H1 fun y H2=>zV r σ H2 fun ps H3=>Q ((x,y)::ps) H3
noncomputable abbrev VV:List (V×V)->List (ae×ae)->Prop:=oF fun p q=>gH p.1 q.1/\gH p.2 q.2
noncomputable def PPs (X:Cx) (pos:ft) (keys:List (Option aS)) (values:List aS) (trs:List (TE×TE)):Prop :=
 ∀ (pins:List (ak×dz)) (s:ai) (σ:St) (H:Hp) (Q:List (V×V)->Hp->Prop),Inv X pins σ H s->zV trs σ H Q ->
   aM (bg X.prog X.w) X.A (evalPairs (rj keys values X.env pos)) (fun vs s'=>∃ ps H',Inv X pins σ H' s'/\VV ps vs/\Q ps H') X.xe s
theorem Ar {X:Cx} {pos:ft}:PPs X pos [] [] []:=fun pins s σ H Q I h=>pairTrees_nil_walk ⟨[],H,I,.nil,h⟩
theorem xt {X:Cx} {pos:ft} {k v:aS} {ks:List (Option aS)} {vs:List aS} {tk tv:TE} {trs:List (TE×TE)} (hk:PE X k tk) (hv:PE X v tv) (hr:PPs X pos ks vs trs) :
 PPs X pos (some k::ks) (v::vs) ((tk,tv)::trs):=fun pins s σ H Q I h =>
 pairTrees_cons_walk (thn (hk pins s σ H _ I h) fun u s1 ⟨x,H1,I1,rx,q1⟩=>thn (hv pins s1 σ H1 _ I1 q1) fun w2 s2 ⟨y,H2,I2,ry,q2⟩ =>
  thn (hr pins s2 σ H2 _ I2 q2) fun ws s3 ⟨ps,H3,I3,rel,q3⟩=>⟨(x,y)::ps,H3,I3,.cons ⟨rx,ry⟩ rel,q3⟩)
noncomputable def uu (kvs more:List (Key×V)):List (Key×V):=more.foldl (fun acc kv=>lB acc kv.1 kv.2) kvs
theorem KV.merge:∀ {more:List (Key×V)} {rs:List (Key×ae)} {kvs:List (Key×V)} {vs:List (Key×ae)},KV more rs->KV kvs vs->KV (uu kvs more) (merged vs rs):=by
 intro more rs kvs vs r
 unfold KV at r
 induction r generalizing kvs vs with
 | nil=>intro q;exact q
 | @cons p q ps qs h t ih =>
   intro r0
   have e:KV (lB kvs p.1 p.2) (stored vs q.1 q.2):=by
    have:=r0.put p.1 h.2
    rw [<- h.1];exact this
   exact ih e
theorem mM:∀ (more kvs:List (Key×V)),(uu kvs more).length<=kvs.length+more.length
 | [],kvs=>by show kvs.length<=kvs.length+0;lia
 | p::r,kvs=>by
   have h1:=mM r (lB kvs p.1 p.2)
   have h2:=jX kvs p.1 p.2
   show (uu (lB kvs p.1 p.2) r).length<=_
   rw [aI];lia
theorem qM {P:bC} {w:cf}:∀ {kvs:List (Key×V)} {ws:List (ae×ae)},VV (kvs.map fun kv=>(kV kv.1,kv.2)) ws->∃ rs,Carries (cN P w) ws rs/\KV kvs rs
 | [],_,r=>by rw [ja] at r;cases r;exact ⟨[],jh,.nil⟩
 | p::kvs,_,r=>by
   rw [ax] at r
   cases r with
   | @cons a b as bs h t =>
     obtain ⟨rs,c,q⟩:=qM (P:=P) (w:=w) t
     obtain ⟨b1,b2⟩:=b
     exact ⟨(p.1,b2)::rs,⟨uq h.1,rfl,c⟩,.cons ⟨rfl,h.2⟩ q⟩
noncomputable def LG (trs:List (TE×TE)):TE:=fun σ H Q=>∀ p,H p=none->zV trs σ (upd H p (.dK [])) fun ps H2=>H2 p=some (.dK [])/\∃ kvs:List (Key×V),ps=kvs.map (fun kv=>(kV kv.1,kv.2))/\kvs.length<=15/\Q (.ref p) (upd H2 p (.dK (uu [] kvs)))
theorem FQ {X:Cx} {pos:ft} {keys:List (Option aS)} {values:List aS} {trs:List (TE×TE)} (h:PPs X pos keys values trs) (hall:keys.all (·.isSome)=true) (hl:keys.length=values.length) (h0:keys≠[])
 (h15:keys.length<=15):PE X (.Dict keys values pos) (LG trs):=by
 intro pins s σ H Q I q
 have hn:=I.hok.fresh (aw s.heap.objs.size)
 have I1:=I.laid (a:=s.heap.objs.size) (o:=.dK []) (h':=s.heap.push { cls:=.type "dict",data:=.dict #[] }) (t':=s.toks) (fun _ _ q=>ag _ q) (aw _) (xO s.heap I.big)
 refine wpAny_Dict_walk (knd:=cN X.prog X.w) hall hl h0 h15 (thn (h pins _ σ _ _ I1 (q _ hn)) fun ws s2 ⟨ps,H2,I2,rel,e,kvs,ep,lk,q2⟩=>?_)
 subst ep
 obtain ⟨rs,c,rk⟩:=qM (P:=X.prog) (w:=X.w) rel
 obtain ⟨z,hd,vs0,r0,dd⟩:=Kg I2.hok e
 cases r0
 refine ⟨rs,c,dd,fun h' dd' hs=>⟨.ref s.heap.objs.size,_,?_,rfl,q2⟩⟩
 have hz:(uu [] kvs).length<=aK:=by
  have h1:=mM kvs []
  rw [dg] at h1
  rw [bG];lia
 have he:∃ q,h'.get? s.heap.objs.size=some q:=let ⟨q,_,_,hq,_⟩:=dd';⟨q,hq⟩
 exact tf I2 (by rw [e];exact jh) hs he (Ae hz hd (rk.merge .nil) dd')
structure M2 (X:Cx) (o:aS) (m:bM) (apos:ft) (e f:aS) (cpos:ft):Prop where
 base:gv o m X.env (b9 o X.env)=b9 o X.env
 few:((cz cpos (am [e,f] X.env)).all (fun x=>!x.1)&&(lw cpos (ik [] X.env)).all (fun x=>x.1.isSome)
  && decide (([e,f]:List aS).length+([]:List jb).length+(if ([]:List jb).isEmpty then 0 else 1)<30))=true
 line:(apos.endLine == cpos.line)=true
 trees:cz cpos (am [e,f] X.env)=[(false,b9 e X.env),(false,b9 f X.env)]
noncomputable def IsD (H:Hp) (a:ak):Prop:=(∃ kvs,Rd H a (.dK kvs))\/∃ kvs,Rd H a (.dT kvs)
theorem Ey {X:Cx} {pins:List (ak×dz)} {σ:St} {H:Hp} {s:ai} {a:ak} (I:Inv X pins σ H s) (d:IsD H a) :
 s.TypeIs (.ref a) "dict"/\(∀ b,bN a=.ref b->∃ ob,s.heap.get? b=some ob/\ob.dict=none)/\(a == dt)=false:=by
 rcases d with ⟨kvs,e⟩ | ⟨kvs,e⟩
 ·obtain ⟨_,hd,vs,_,dd⟩:=uJ I.hok e
  refine ⟨dd.typeIs,fun b q=>?_,hd⟩
  cases q
  obtain ⟨ob,_,_,h1,h2,_⟩:=dd
  exact ⟨ob,h1,h2.2.1⟩
 ·obtain ⟨_,hd,xs,_,dd⟩:=wq I.hok e
  refine ⟨dd.typeIs,fun b q=>?_,hd⟩
  cases q
  obtain ⟨ob,_,_,h1,h2,_⟩:=dd
  exact ⟨ob,h1,h2.2.1⟩
section
variable {X:Cx} {pins:List (ak×dz)} {σ:St} {H:Hp} {s:ai} {a:ak} {y d:V} {u r:ae} {o:Option V} {A:bL} {E:ae->ai->Prop}
theorem Id {Q:ae->ai->Prop} (hu:A.units+1<cr) (I:Inv X pins σ H s) (g:sR H a y o) (ry:gH y u) (rd:gH d r) (h:∀ w' s',Inv X pins σ H s'->gH (o.getD d) w'->Q w' s') :
 aM (bg X.prog X.w) A (call (.builtin "dict.get") [.ref a,u,r]) Q E s:=by
 rcases g with ⟨kvs,k,e,ey,l⟩ | ⟨kvs,k,b,e,ey,eb,l⟩
 ·subst ey
  obtain ⟨z,hd,vs,rel,dd⟩:=uJ I.hok e
  refine ze ko dd.typeIs rp (qu _ _ _) (meets_dict_get_default (cN X.prog X.w) a (uq ry) hd r) ⟨_,dd.mapOf,h _ _ (I.tok _) ?_⟩
  rw [l]
  exact (rel.val k).getD rd
 ·subst ey
  cases (show u=bN b from ry)
  obtain ⟨z,hd,xs,rel,dd⟩:=wq I.hok e
  refine ze ko dd.typeIs rp (qu _ _ _) (meetsH_dict_get_default (jL (cN X.prog X.w)) a b hd r) ⟨ib hu,k,xs,mI I.hok eb,dd,h _ _ (I.tok _) ?_⟩
  rw [l]
  exact (rel.val k).getD rd
end
noncomputable def J2 (td ty tx:TE):TE:=fun σ H Q=>td σ H fun x H1=>∃ a,x=.ref a/\IsD H1 a/\ty σ H1 fun y H2=>tx σ H2 fun z H3=>∃ o,sR H3 a y o/\Q (o.getD z) H3
section
variable {X:Cx} {o e f:aS} {apos cpos:ft} {td ty tx:TE}
theorem DY (hu:X.A.units+1<cr) (ho:PE X o td) (he:PE X e ty) (hf:PE X f tx) (m:M2 X o "get" apos e f cpos):PE X (.Call (.Attribute o "get" apos) [e,f] [] cpos) (J2 td ty tx):=by
 intro pins s σ H Q I h
 refine wpAny_Call_method m.base m.few m.line qv ko PySem.F.type_dict_get (thn (ho pins s σ H _ I h) fun u s1 ⟨x,H1,I1,rx,a,ex,d,q1⟩=>?_)
 subst ex
 obtain rfl:u=bN a:=rx
 obtain ⟨t1,t2,_⟩:=Ey I1 d
 refine ⟨t1,t2,?_⟩
 rw [m.trees]
 refine kq rfl (vn (me (thn (he pins s1 σ H1 _ I1 q1) fun iv s2 ⟨y,H2,I2,ry,q2⟩ =>
  me (thn (hf pins s2 σ H2 _ I2 q2) fun fv s3 ⟨z,H3,I3,rz,ov,g,q3⟩=>yS ?_))))
 exact Id hu I3 g ry rz fun w' s4 I4 rw'=>⟨_,H3,I4,rw',q3⟩
end
end L2
namespace HT
open PySem PyProof.Rows
noncomputable def lexLt:List Int->List Int->Bool
 | [],[]=>false
 | [],_::_=>true
 | _::_,[]=>false
 | x::xs,y::ys=>if x=y then lexLt xs ys else decide (x<y)
theorem lexLt_cons (x y:Int) (xs ys:List Int):lexLt (x::xs) (y::ys)=if x=y then lexLt xs ys else decide (x<y):=rfl
theorem lexLt_nil_nil:lexLt [] []=false:=rfl
theorem lexLt_nil_cons (y:Int) (ys:List Int):lexLt [] (y::ys)=true:=rfl
theorem lexLt_cons_nil (x:Int) (xs:List Int):lexLt (x::xs) []=false:=rfl
theorem eqAt_int (A:bL) (s:ai) (a:Int) (t:zc) (c:Int) (u:zc):∃ e,SeqAt.EqAt A s (.int a t) (.int c u) e/\(e=true↔a=c) :=
 ⟨(a == c),SeqAt.EqAt.int_int a t c u,by simp⟩
theorem rcLt_int (A:bL) (s:ai) (a:Int) (t:zc) (c:Int) (u:zc) (prog:bC) (w:cf) (E:ae->ai->Prop) (Q:ae->ai->Prop) (h:Q (.bool (decide (a<c))) s) :
 aM (bg prog w) A (richCompare .Lt (.int a t) (.int c u)) Q E s :=
 (PyProof.Rows.lt_int h:aM (bg prog w) A (d7 .Lt (.int a t) (.int c u)) Q E s)
section
open PySem.SeqAt
open PySem.AutoSeq1 (wpAny_loadPart')
open PySem.MeetsSeq PySem.MeetsSeq2 PySem.MeetsSeq3
theorem tuple_lt_ints (l b:ak) (items items2:Array ae) (n n2:Nat) (dd dd2:Option ak) (sl sl2:Array (Option ae)) (ns ms:List Int) (hi:dR items.toList ns) (hj:dR items2.toList ms) :
 Meets (Builtin.«tuple.__lt__» ⟨[.ref l,.ref b],[]⟩)
  (fun _ R s=>s.heap.get? l=some { cls:=.type "tuple",dict:=dd,data:=.seq items n,slots:=sl }/\s.heap.get? b=some { cls:=.type "tuple",dict:=dd2,data:=.seq items2 n2,slots:=sl2 } /\
    R (.ok (.ret (.bool (lexLt ns ms)))) s) :=
 .of_wp fun prog w A R s h=>by
  obtain ⟨hp,g,d,tk,os⟩:=s;obtain ⟨hl,hb,h⟩:=h
  have f2:=AutoSeq1.sub_tuple_tuple
  have z1:items.size=ns.length:=by rw [<- hi.length];simp
  have z2:items2.size=ms.length:=by rw [<- hj.length];simp
  wp_walk using wpAny_loadPart' hl,wpAny_loadPart' hb,wpAny_forIn_list _ (fun rest b s'=>b.1=none/\s'=⟨hp,g,d,tk,os⟩/\∃ (vs ws:List ae) (ns' ms':List Int),rest=vs.zip ws /\
   dR vs ns'/\dR ws ms'/\ns'.length+items2.size=ms'.length+items.size/\R (.ok (.ret (.bool (lexLt ns' ms')))) ⟨hp,g,d,tk,os⟩) _
  case turn =>
   rintro ⟨y,x⟩ rest b s' ⟨hb',rfl,vs,ws,ns',ms',hz,hvi,hwi,hlen,hR⟩
   cases hvi with
   | nil=>rw [List.zip_nil_left] at hz;cases hz
   | cons a t hvi' =>
     cases hwi with
     | nil=>rw [yV] at hz;cases hz
     | cons c u hwi' =>
       rw [mP] at hz
       injection hz with hyx hrest
       injection hyx with hy hx
       subst hy hx
       rw [lexLt_cons] at hR
       simp only [aI] at hlen
       obtain ⟨e,he,hiff⟩:=eqAt_int A.in1 ⟨hp,g,d,tk,os⟩ a t c u
       refine aa (he prog w _ _ ?_)
       cases e with
       | true =>
         rw [if_pos (hiff.mp rfl)] at hR
         wp_walk
         exact ⟨rfl,rfl,_,_,_,_,hrest,hvi',hwi',by lia,hR⟩
       | false =>
         rw [if_neg (fun q=>absurd (hiff.mpr q) aN)] at hR
         have hri:=rcLt_int A.in1 ⟨hp,g,d,tk,os⟩ a t c u prog w
         wp_walk using hri
         exact ⟨_,rfl,by simpa using hR⟩
  case fin =>
   rintro ⟨b1,b2⟩ s' ⟨hb',rfl,vs,ws,ns',ms',hz,hvi,hwi,hlen,hR⟩
   simp only at hb'
   subst hb'
   have hv:lexLt ns' ms'=decide (items.size<items2.size):=by
    cases hvi with
    | nil =>
      cases hwi with
      | nil =>
        simp only [dg] at hlen
        rw [lexLt_nil_nil]
        exact (decide_eq_false (by lia)).symm
      | cons c u hw =>
        simp only [dg,aI] at hlen
        rw [lexLt_nil_cons]
        exact (decide_eq_true (by lia)).symm
    | cons a t hv =>
      cases hwi with
      | nil =>
        simp only [dg,aI] at hlen
        rw [lexLt_cons_nil]
        exact (decide_eq_false (by lia)).symm
      | cons c u hw =>
        rw [mP] at hz
        cases hz
   rw [hv] at hR
   wp_walk
   exact ⟨_,rfl,by simpa [Builtin.Tuple.tupleCompareSizes] using hR⟩
  case h =>
   exact ⟨rfl,rfl,items.toList,items2.toList,ns,ms,rfl,hi,hj,by lia,h⟩
end
section
variable {prog:bC} {w:cf} {A:bL} {E:ae->ai->Prop} {s:ai}
theorem lt_tupInts {l b:ak} {items items2:Array ae} {ns ms:List Int} {Q:ae->ai->Prop} (hl:jS s.heap l items) (hb:jS s.heap b items2) (hi:dR items.toList ns) (hj:dR items2.toList ms)
 (hu:A.units<cr) (h:Q (.bool (lexLt ns ms)) s):aM (bg prog w) A (d7 .Lt (.ref l) (.ref b)) Q E s:=by
 obtain ⟨⟨cls,dd,data,sl⟩,ho,hc,n,hd⟩:=id hl
 obtain ⟨⟨cls2,dd2,data2,sl2⟩,ho2,hc2,n2,hd2⟩:=id hb
 simp only at hc hd hc2 hd2
 subst hc hd hc2 hd2
 exact richCompare_meets_room (op:=.Lt) ⟨_,ho,rfl⟩ ⟨_,ho2,rfl⟩ kr rq (qw _ _) (tuple_lt_ints l b items items2 n n2 dd dd2 sl sl2 ns ms hi hj)
  ⟨ho,ho2,show gf (lexLt ns ms)≠Value.notImplemented/\Q (.bool (lexLt ns ms)) s from ⟨(fun x=>nomatch x),h⟩⟩ hu
theorem cat_tup {t b:ak} {vs ws:List ae} {Q:ae->ai->Prop} (ht:jS s.heap t vs.toArray) (hb:jS s.heap b ws.toArray) (hv:vs≠[])
 (h1:ws=[]->Q (.ref t) s) (h2:ws≠[]->Q (.ref s.heap.objs.size) { s with heap:=s.heap.push { cls:=.type "tuple",data:=.seq (vs++ws).toArray } })
 (hsz:vs.length+ws.length<=aK):aM (bg prog w) A (jd .Add (.ref t) (.ref b)) Q E s:=by
 obtain ⟨⟨cls,dd,data,sl⟩,ho,hc,n,hd⟩:=id ht
 obtain ⟨⟨cls2,dd2,data2,sl2⟩,ho2,hc2,n2,hd2⟩:=id hb
 simp only at hc hd hc2 hd2
 subst hc hd hc2 hd2
 have e:vs.toArray++ws.toArray=(vs++ws).toArray:=by simp
 by_cases hw:ws=[]
 ·exact p9 ⟨_,ho,rfl⟩ ⟨_,ho2,rfl⟩ rA xW jU jw (jn _ _)
   (tuple_addW1 t b vs.toArray ws.toArray n n2 dd dd2 sl sl2 (by simpa using hv) (by simp [hw])) ⟨ho,ho2,h1 hw⟩
 ·refine p9 ⟨_,ho,rfl⟩ ⟨_,ho2,rfl⟩ rA xW jU jw (jn _ _)
   (tuple_addW2 t b vs.toArray ws.toArray n n2 dd dd2 sl sl2 (by simpa using hv) (by simpa using hw) (by rw [aB,aB];exact hsz)) ⟨ho,ho2,?_⟩
  rw [e]
  exact h2 hw
noncomputable def sIx (n d:Nat):Option Int->Nat
 | none=>d
 | some v=>if v<0 then (v+(n:Int)).toNat else min v.toNat n
theorem sIx_none (n d:Nat):sIx n d none=d:=rfl
theorem sIx_nat (n d k:Nat):sIx n d (some (k:Int))=min k n:=by
 show (if (k:Int)<0 then ((k:Int)+(n:Int)).toNat else min (k:Int).toNat n)=min k n
 rw [if_neg (by lia),gc]
theorem Kb (n d:Nat) (hd:d<=n) (o:Option Int):sIx n d o<=n:=by
 cases o with
 | none=>exact hd
 | some v =>
   show (if v<0 then (v+(n:Int)).toNat else min v.toNat n)<=n
   by_cases hv:v<0
   ·rw [if_pos hv];lia
   ·rw [if_neg hv];exact Nat.min_le_right _ _
theorem AV (v:Int) (n d:Nat):(if v<0 then max (v+(n:Int)) 0 else min v (n:Int))=((sIx n d (some v):Nat):Int):=by
 show (if v<0 then max (v+(n:Int)) 0 else min v (n:Int))=(((if v<0 then (v+(n:Int)).toNat else min v.toNat n):Nat):Int)
 by_cases hv:v<0
 ·simp only [if_pos hv];lia
 ·simp only [if_neg hv];lia
theorem yM (lo hi:Option Int) (n:Nat):iF lo hi 1 (n:Int)=(((sIx n 0 lo:Nat):Int),((sIx n n hi:Nat):Int)):=by
 have h1:¬ ((1:Int)<0):=by lia
 unfold iF
 simp only [h1,if_false]
 refine j7 ?_ ?_
 ·cases lo with
  | none=>rfl
  | some v=>exact AV v n 0
 ·cases hi with
  | none=>rfl
  | some v=>exact AV v n n
theorem yn (i j:Nat):fL (i:Int) (j:Int) 1=j-i:=by
 unfold fL
 have h1:(1:Int) > 0:=by lia
 simp only [h1,if_true,Int.ediv_one]
 split<;>lia
theorem q0 {v:ae} {o:Option Int} {Q:Option Int->ai->Prop} (p:mR v o) (h:Q o s):aM (bg prog w) A (Builtin.Slice.slicePartIndex v) Q E s:=by
 cases p with
 | none=>exact slicePart_none h
 | int i t=>exact slicePart_int h
theorem sliceApplied_gen {sl:ak} {vl vu:ae} {lo hi:Option Int} {n:Nat} {Q:Int×Int×Nat->ai->Prop} (hs:s.heap.IsSliceOf sl vl vu .none) (pl:mR vl lo) (pu:mR vu hi)
 (h:Q (((sIx n 0 lo:Nat):Int),1,sIx n n hi-sIx n 0 lo) s):aM (bg prog w) A (mf (.ref sl) (pure (n:Int))) Q E s:=by
 obtain ⟨os,hos,hcs,hds⟩:=id hs
 unfold mf Builtin.Slice.sliceFields
 refine aa (aa (Cs hos hds (x:=vl) rfl (aa (Cs hos hds (x:=vu) rfl (aa (Cs hos hds (x:=.none) rfl (al ?_)))))))
 refine aa (slicePart_none ?_)
 show aM _ _ (if ((1:Int) == 0)=true then _ else _) _ _ s
 rw [if_neg (by decide)]
 refine aa (q0 pl (aa (q0 pu (aa (al ?_)))))
 show aM _ _ (match iF lo hi 1 (n:Int) with | (lo,hi)=>pure (lo,(1:Int),fL lo hi 1)) _ _ s
 rw [yM lo hi n]
 show aM _ _ (pure (((sIx n 0 lo:Nat):Int),(1:Int),fL ((sIx n 0 lo:Nat):Int) ((sIx n n hi:Nat):Int) 1)) _ _ s
 rw [yn]
 exact al h
theorem DP (xs:Array ae) (i k:Nat):((bH k).filterMap fun (m:Nat)=>xs[((i:Int)+(m:Int)*1).toNat]?).toArray=((xs.toList.drop i).take k).toArray:=by
 have e:(fun (m:Nat)=>xs[((i:Int)+(m:Int)*1).toNat]?)=fun m=>xs[i+m]?:=by
  funext m
  have:((i:Int)+(m:Int)*1).toNat=i+m:=by lia
  rw [this]
 rw [e]
 have:=pick_run xs i k
 rw [List.filterMap_map] at this
 have e2:((fun x=>xs[x]?)∘fun x=>i+x)=fun m=>xs[i+m]?:=rfl
 rw [e2] at this
 rw [this]
theorem getItem_tuple_cut {t sl:ak} {items:Array ae} {vl vu:ae} {lo hi:Option Int} {Q:ae->ai->Prop} (ht:jS s.heap t items) (hs:s.heap.IsSliceOf sl vl vu .none) (pl:mR vl lo) (pu:mR vu hi)
 (hw:¬ (sIx items.size 0 lo=0/\sIx items.size items.size hi=items.size))
 (h:Q (.ref s.heap.objs.size) { s with heap:=s.heap.push { cls:=.type "tuple",data:=.seq ((items.toList.drop (sIx items.size 0 lo)).take (sIx items.size items.size hi-sIx items.size 0 lo)).toArray } })
 (hsz:items.size<=aK):aM (bg prog w) A (kz (.ref t) (.ref sl)) Q E s:=by
 have htake:sizeOk (.seq ((items.toList.drop (sIx items.size 0 lo)).take (sIx items.size items.size hi-sIx items.size 0 lo)).toArray):=by
  show ((items.toList.drop (sIx items.size 0 lo)).take (sIx items.size items.size hi-sIx items.size 0 lo)).toArray.size<=aK
  rw [aB,gC,j8,bS]
  lia
 have hj:sIx items.size items.size hi<=items.size:=Kb _ _ (aw _) hi
 obtain ⟨os,hos,hcs,hds⟩:=id hs
 have hTs:s.TypeIs (.ref sl) "slice":=⟨os,hos,hcs⟩
 unfold kz
 try with_reducible refine dm ?_
 first | refine aa (al ?_) | skip
 refine aa (wpAny_sequenceKey ht.typeIs (by decide) ?_)
 refine aa (il (name:=cL "__getitem__") ht.typeIs eR
  (fH eR ht.typeIs Em ?_ (args_tuple_getitem _ _)))
 show aM _ _ (mh (.ref t)>>=_) _ _ s
 refine aa (tupleItemsOf_ ht ?_)
 refine aa (iG hTs ?_)
 rw [if_pos (by decide)]
 refine aa (sliceApplied_gen hs pl pu ?_)
 have hno:¬ ((((sIx items.size 0 lo:Nat):Int) == 0&&(1:Int) == 1&&(sIx items.size items.size hi-sIx items.size 0 lo) == items.size)=true):=by
  intro q
  rw [aU,aU] at q
  have q1:((sIx items.size 0 lo:Nat):Int)=0:=eq_of_beq q.1.1
  have q2:sIx items.size items.size hi-sIx items.size 0 lo=items.size:=eq_of_beq q.2
  exact hw ⟨by lia,by lia⟩
 show aM _ _ (if (((sIx items.size 0 lo:Nat):Int) == 0&&(1:Int) == 1&&(sIx items.size items.size hi-sIx items.size 0 lo) == items.size)=true then _ else _) _ _ s
 rw [if_neg hno,DP]
 first
  | exact aa (m:=dB _) (cQ (al ⟨_,rfl,al h⟩) htake)
  | exact aa (m:=dB _) (cQ (aa (al (al ⟨_,rfl,al h⟩))) htake)
  | exact aa (aa (m:=dB _) (cQ (al (al ⟨_,rfl,al h⟩)) htake))
  | exact aa (aa (m:=dB _) (cQ (al ⟨_,rfl,al h⟩) htake))
end
end HT
namespace L2
open PySem PySem.Spec PyProof.Rows
noncomputable abbrev TO:=St->Hp->(Option Int->Hp->Prop)->Prop
noncomputable def PO (X:Cx) (e:Option aS) (t:TO):Prop :=
 ∀ (pins:List (ak×dz)) (s:ai) (σ:St) (H:Hp) (Q:Option Int->Hp->Prop),Inv X pins σ H s->t σ H Q ->
   aM (bg X.prog X.w) X.A (evalPart e X.env) (fun u s'=>∃ o H',Inv X pins σ H' s'/\mR u o/\Q o H') X.xe s
noncomputable def Gb:TO:=fun _ H Q=>Q none H
noncomputable def K6 (t:TE):TO:=fun σ H Q=>t σ H fun x H1=>∃ i,x=.int i/\Q (some i) H1
theorem qT {ns:List Int}:∀ {us:List ae},eG (ns.map V.int) us->dR us ns:=by
 induction ns with
 | nil=>intro us r;rw [ja] at r;cases r;exact .nil
 | cons n ns ih =>
   intro us r
   rw [ax] at r
   cases r with
   | cons r1 r2 =>
     obtain ⟨t,e⟩:=r1
     subst e
     exact .cons n t (ih r2)
section
variable {X:Cx} {e:aS} {te:TE} {lo hi:Option aS} {tl th:TO} {pos p2:ft}
theorem Gj:PO X none Gb:=by
 intro pins s σ H Q I h
 rw [evalPart_none]
 exact al ⟨none,H,I,.none,h⟩
theorem HR (h:PE X e te):PO X (some e) (K6 te):=by
 intro pins s σ H Q I hw
 rw [evalPart_some]
 refine thn (h pins s σ H _ I hw) fun u s1 ⟨x,H1,I1,r1,q1⟩=>?_
 obtain ⟨i,rfl,q⟩:=q1
 obtain ⟨t,rfl⟩:=r1
 exact ⟨some i,H1,I1,.int i t,q⟩
noncomputable def SlR (X:Cx) (r:V->Option Int->Option Int->Hp->VK->Prop):Prop :=
 ∀ (pins:List (ak×dz)) (s:ai) (σ:St) (H:Hp) (x:V) (v vl vu:ae) (lo hi:Option Int) (sl:ak) (Q:VK),Inv X pins σ H s->gH x v->s.heap.IsSliceOf sl vl vu .none->mR vl lo->mR vu hi->r x lo hi H Q ->
   ∃ T id,typeLookup (.type T) "__getitem__" = pure (some (.builtin id))/\s.TypeIs v T/\aM (bg X.prog X.w) X.A (kz v (.ref sl)) (EP X pins σ Q) X.xe s
theorem SlR.or {r r':V->Option Int->Option Int->Hp->VK->Prop} (h:SlR X r) (h':SlR X r'):SlR X (fun x lo hi H Q=>r x lo hi H Q\/r' x lo hi H Q):=by
 intro pins s σ H x v vl vu lo hi sl Q I rx hs pl pu q
 rcases q with q | q
 ·exact h pins s σ H x v vl vu lo hi sl Q I rx hs pl pu q
 ·exact h' pins s σ H x v vl vu lo hi sl Q I rx hs pl pu q
noncomputable def tSl (r:V->Option Int->Option Int->Hp->VK->Prop) (te:TE) (tl th:TO):TE:=fun σ H Q=>te σ H fun x H1=>tl σ H1 fun l H2=>th σ H2 fun u H3=>r x l u H3 Q
theorem Eg {r:V->Option Int->Option Int->Hp->VK->Prop} (hr:SlR X r) (he:PE X e te) (hl:PO X lo tl) (hu:PO X hi th):PE X (.Subscript e (.Slice lo hi none p2) pos) (tSl r te tl th):=by
 intro pins s σ H Q I h
 refine Subscript_ (thn (he pins s σ H _ I h) fun v s1 ⟨x,H1,I1,r1,q1⟩=>?_)
 refine wpAny_Slice (thn (hl pins s1 σ H1 _ I1 q1) fun vl s2 ⟨l,H2,I2,pl,q2⟩=>thn (hu pins s2 σ H2 _ I2 q2) fun vu s3 ⟨u,H3,I3,pu,q3⟩=>?_)
 rw [evalPart_none]
 refine al ?_
 have I4:Inv X pins σ H3 { s3 with heap:=s3.heap.push { cls:=.type "slice",data:=.fields #[vl,vu,.none] } }:=I3.kept (t':=s3.toks) fun b ob q=>ag _ q
 obtain ⟨T,id,hT,ht,hg⟩:=hr pins { s3 with heap:=s3.heap.push { cls:=.type "slice",data:=.fields #[vl,vu,.none] } } σ H3 x v vl vu l u s3.heap.objs.size Q I4 r1 (Heap.IsSliceOf.new ..) pl pu q3
 show aM (bg X.prog X.w) X.A (xV e (.Slice lo hi none p2) v (.ref s3.heap.objs.size)) (EP X pins σ Q) X.xe { s3 with heap:=s3.heap.push { cls:=.type "slice",data:=.fields #[vl,vu,.none] } }
 exact tail_any (ops:=[.ref s3.heap.objs.size,v]) ht hT hg (by with_unfolding_all rfl)
noncomputable def Ez (xs:List V) (lo hi:Option Int):List V:=(xs.drop (HT.sIx xs.length 0 lo)).take (HT.sIx xs.length xs.length hi-HT.sIx xs.length 0 lo)
theorem pB (xs:List V) (lo hi:Option Int):(Ez xs lo hi).length<=xs.length:=by
 unfold Ez
 rw [gC,j8]
 lia
noncomputable def L8 (K:ac):V->Option Int->Option Int->Hp->VK->Prop:=fun x lo hi H Q=>∃ a xs,x=.ref a/\SqT K H a xs /\
 ¬ (HT.sIx xs.length 0 lo=0/\HT.sIx xs.length xs.length hi=xs.length)/\∀ p,H p=none->Q (.ref p) (upd H p (.tup (Ez xs lo hi)))
theorem JD:SlR X (L8 X.K):=by
 intro pins s σ H x v vl vu lo hi sl Q I rx hs pl pu h
 obtain ⟨a,xs,rfl,hx,hw,q⟩:=h
 cases rx
 obtain ⟨its,r,ht,hz⟩:=I.tuple hx
 have hlen:its.toArray.size=xs.length:=by rw [aB];exact r.length.symm
 refine ⟨"tuple",_,PyProof.Rows.slot_tuple_getitem.lookup,ht.typeIs,?_⟩
 refine HT.getItem_tuple_cut ht hs pl pu (by rw [hlen];exact hw) ?_ (by rw [hlen];exact hz)
 rw [hlen]
 refine ⟨.ref s.heap.objs.size,_,I.laid (t':=s.toks) (o:=.tup (Ez xs lo hi)) (fun b ob q=>ag _ q) (aw _) ?_,rfl,q _ (I.hok.fresh (aw _))⟩
 exact ⟨⟨bO (pB xs lo hi) hz,mH.new _ _⟩,_,(r.drop (HT.sIx xs.length 0 lo)).take (HT.sIx xs.length xs.length hi-HT.sIx xs.length 0 lo),og _ _⟩
noncomputable def LY (K:ac):R2:=fun x y H Q=>∃ a b ns ms,x=.ref a/\y=.ref b/\SqT K H a (ns.map V.int)/\SqT K H b (ms.map V.int)/\Q (.bl (HT.lexLt ns ms)) H
theorem J1 (hu:X.A.units<cr):OpR X (d7 .Lt) (LY X.K):=by
 intro pins s σ H x y v u Q I rx ry h
 obtain ⟨a,b,ns,ms,rfl,rfl,ha,hb,q⟩:=h
 cases rx
 cases ry
 obtain ⟨its,r1,p1,_⟩:=I.tuple ha
 obtain ⟨its2,r2,p2,_⟩:=I.tuple hb
 have i1:dR its.toArray.toList ns:=qT r1
 have i2:dR its2.toArray.toList ms:=qT r2
 exact HT.lt_tupInts p1 p2 i1 i2 hu ⟨.bl (HT.lexLt ns ms),H,I,rfl,q⟩
noncomputable def Il (K:ac):R2:=fun x y H Q=>∃ a b xs ys,x=.ref a/\y=.ref b/\SqT K H a xs/\SqT K H b ys/\xs≠[]/\xs.length+ys.length<=aK /\
 (ys=[]->Q (.ref a) H)/\(ys≠[]->∀ p,H p=none->Q (.ref p) (upd H p (.tup (xs++ys))))
theorem eG.nil_iff {xs:List V} {us:List ae} (r:eG xs us):us=[]↔xs=[]:=by
 cases r with
 | nil=>simp
 | cons _ _=>simp
theorem FL:OpR X (jd .Add) (Il X.K):=by
 intro pins s σ H x y v u Q I rx ry h
 obtain ⟨a,b,xs,ys,rfl,rfl,ha,hb,hx,hz,q1,q2⟩:=h
 cases rx
 cases ry
 obtain ⟨its,r1,p1,_⟩:=I.tuple ha
 obtain ⟨its2,r2,p2,_⟩:=I.tuple hb
 refine HT.cat_tup p1 p2 (fun z=>hx (r1.nil_iff.mp z)) (fun z=>⟨.ref a,H,I,rfl,q1 (r2.nil_iff.mp z)⟩) (fun z=>?_) (by rw [<- r1.length,<- r2.length];exact hz)
 refine ⟨.ref s.heap.objs.size,_,I.laid (t':=s.toks) (o:=.tup (xs++ys)) (fun b ob q=>ag _ q) (aw _) ?_,rfl,q2 (fun w=>z (r2.nil_iff.mpr w)) _ (I.hok.fresh (aw _))⟩
 exact ⟨⟨by rw [aO];exact hz,mH.new _ _⟩,_,r1.append r2,og _ _⟩
end
noncomputable def ixN (n:Nat) (i:Int):Option Nat:=if 0<=i then (if i<n then some i.toNat else none) else if -(n:Int)<=i then some (i+n).toNat else none
noncomputable def atI {α:Type} (xs:List α) (i:Int):Option α:=(ixN xs.length i).bind fun j=>xs[j]?
theorem AB {n:Nat} {i:Int} {j:Nat} (h:ixN n i=some j):seqIndex? i n=some j/\j<n/\-(n:Int)<=i/\i<n:=by
 unfold ixN at h
 by_cases h0:0<=i
 ·rw [if_pos h0] at h
  by_cases h1:i<n
  ·rw [if_pos h1] at h
   have e:i.toNat=j:=bU h
   exact ⟨by rw [seqIndex_of h0 h1,e],by lia,by lia,h1⟩
  ·rw [if_neg h1] at h;cases h
 ·rw [if_neg h0] at h
  by_cases h1 : -(n:Int)<=i
  ·rw [if_pos h1] at h
   have e:(i+n).toNat=j:=bU h
   exact ⟨by rw [seqIndex_neg (by lia) h1,e],by lia,h1,by lia⟩
  ·rw [if_neg h1] at h;cases h
theorem vL {α:Type} {xs:List α} {i:Int} {v:α} (h:atI xs i=some v):∃ j,seqIndex? i xs.length=some j/\xs[j]?=some v/\j<xs.length/\-(xs.length:Int)<=i/\i<xs.length:=by
 unfold atI at h
 cases e:ixN xs.length i with
 | none=>rw [e] at h;cases h
 | some j =>
   rw [e] at h
   obtain ⟨h1,h2,h3,h4⟩:=AB e
   exact ⟨j,h1,h,h2,h3,h4⟩
noncomputable def rP (b:aS):Prop:=∀ o i,tz b false o i=operate [o,i] (kz o i)
noncomputable def IxR (X:Cx) (r:R2):Prop :=
 ∀ (value slice:aS) (pins:List (ak×dz)) (s:ai) (σ:St) (H:Hp) (x y:V) (v u:ae) (Q:VK),Inv X pins σ H s->gH x v->gH y u->r x y H Q ->
   tz slice false v u=operate [v,u] (kz v u)->aM (bg X.prog X.w) X.A (xV value slice v u) (EP X pins σ Q) X.xe s
noncomputable def MtR (X:Cx) (id:String) (r:V->List V->Hp->VK->Prop):Prop :=
 ∀ (pins:List (ak×dz)) (s:ai) (σ:St) (H:Hp) (x:V) (xs:List V) (v:ae) (us:List ae) (Q:VK),Inv X pins σ H s->gH x v->eG xs us->r x xs H Q ->
   aM (bg X.prog X.w) X.A (call (.builtin id) (v::us)) (EP X pins σ Q) X.xe s
section
variable {X:Cx} {a b:aS} {ta tb:TE} {pos:ft}
theorem IxR.or {r r':R2} (h:IxR X r) (h':IxR X r'):IxR X (fun x y H Q=>r x y H Q\/r' x y H Q):=by
 intro value slice pins s σ H x y v u Q I rx ry q hs
 rcases q with q | q
 ·exact h value slice pins s σ H x y v u Q I rx ry q hs
 ·exact h' value slice pins s σ H x y v u Q I rx ry q hs
theorem K9 {r:R2} (hr:IxR X r) (ha:PE X a ta) (hb:PE X b tb) (hs:rP b):PE X (.Subscript a b pos) (tOp r ta tb):=by
 intro pins s σ H Q I h
 exact Subscript_ (K2 ha hb I h fun v u s2 x y H2 I2 rx ry q=>hr a b pins s2 σ H2 x y v u Q I2 rx ry q (hs _ _))
noncomputable def K4 (K:ac):R2:=fun x y H Q=>∃ p xs i v,x=.ref p/\y=.int i/\SqL K H p xs/\atI xs i=some v/\Q v H
noncomputable def Ll (K:ac):R2:=fun x y H Q=>∃ p xs i v,x=.ref p/\y=.int i/\SqT K H p xs/\atI xs i=some v/\Q v H
noncomputable def Lj:R2:=fun x y H Q=>∃ z i c,x=.str z/\y=.int i/\z.length<=aK/\atI z.cps.toList i=some c/\Q (.str ⟨#[c]⟩) H
theorem FK:IxR X (K4 X.K):=by
 intro value slice pins s σ H x y v u Q I rx ry h hs
 obtain ⟨p,xs,i,z,rfl,rfl,hq,he,q⟩:=h
 cases rx
 obtain ⟨t,rfl⟩:=ry
 obtain ⟨its,r,pl,hz⟩:=I.list hq
 obtain ⟨j,h1,h2,h3,h4,h5⟩:=vL he
 obtain ⟨w,ew,rw'⟩:=r.get h2
 have hl:=r.length
 have hn:=ug
 have fin:EP X pins σ Q w s:=⟨z,H,I,rw',q⟩
 by_cases h0:0<=i
 ·have hj:i.toNat=j:=by
   rw [seqIndex_of h0 h5] at h1
   exact bU h1
  exact item_listR pl.isList h0 (by lia) (by rw [hj];simpa using ew) fin hs
 ·have hj:(i+(its.toArray.size:Int)).toNat=j:=by
   rw [seqIndex_neg (by lia) h4] at h1
   rw [aB,<- hl]
   exact bU h1
  exact zf (x:=w) pl.isList.typeIs slot_list_getitem.lookup
   (wpAny_getItem_list_neg (Q:=fun r s'=>r=w/\EP X pins σ Q r s') pl.isList (by lia) (by rw [aB]<;>lia) (by lia) (by rw [hj];simpa using ew) ⟨rfl,fin⟩) hs
theorem IB:IxR X (Ll X.K):=by
 intro value slice pins s σ H x y v u Q I rx ry h hs
 obtain ⟨p,xs,i,z,rfl,rfl,hq,he,q⟩:=h
 cases rx
 obtain ⟨t,rfl⟩:=ry
 obtain ⟨its,r,pl,hz⟩:=I.tuple hq
 obtain ⟨j,h1,h2,h3,h4,h5⟩:=vL he
 obtain ⟨w,ew,rw'⟩:=r.get h2
 have hl:=r.length
 have hn:=ug
 have fin:EP X pins σ Q w s:=⟨z,H,I,rw',q⟩
 exact zf (x:=w) pl.typeIs slot_tuple_getitem.lookup
  (getItem_tuple (j:=j) (Q:=fun r s'=>r=w/\EP X pins σ Q r s') pl (by lia) (by lia) (by rw [aB,<- hl];exact h1) (by simpa using ew) ⟨rfl,fin⟩) hs
theorem Ig:IxR X Lj:=by
 intro value slice pins s σ H x y v u Q I rx ry h hs
 obtain ⟨z,i,c,rfl,rfl,hz,he,q⟩:=h
 obtain ⟨t,rfl⟩:=rx
 obtain ⟨t',rfl⟩:=ry
 obtain ⟨j,h1,h2,h3,h4,h5⟩:=vL he
 have hl:z.cps.toList.length=z.length:=by simp [Str.length]
 rw [hl] at h1 h4 h5
 have hn:=ug
 exact tail_any (typeIs_str s z t) slot_str_getitem.lookup (getItem_str (c:=c) (by
  have e1:decide (i < -(2 ^ 63:Int))=false:=decide_eq_false (by lia)
  have e2:decide (i≥2 ^ 63)=false:=decide_eq_false (by lia)
  rw [e1,e2,Bool.or_false]) (by rw [h1];simpa using h2) ⟨.str ⟨#[c]⟩,H,I.tok _,⟨_,rfl⟩,q⟩) hs
noncomputable def rIx (K:ac):R2:=fun x y H Q=>K4 K x y H Q\/Ll K x y H Q\/Lj x y H Q
theorem IR:IxR X (rIx X.K):=FK.or (IB.or Ig)
theorem u5 (lo hi:Option Int) (n:Nat):(je lo hi none n).1=((HT.sIx n 0 lo:Nat):Int)/\(je lo hi none n).2.1=((HT.sIx n n hi:Nat):Int)/\(je lo hi none n).2.2=1:=by
 refine ⟨?_,?_,rfl⟩
 ·cases lo with
  | none=>simp [je,HT.sIx]
  | some i =>
    simp only [je,HT.sIx,yW,show (1:Int) > 0 by decide,if_true]
    by_cases h:i<0
    ·simp only [h,if_true]<;>lia
    ·simp only [h,if_false]<;>lia
 ·cases hi with
  | none=>simp [je,HT.sIx]
  | some i =>
    simp only [je,HT.sIx,yW,show (1:Int) > 0 by decide,if_true]
    by_cases h:i<0
    ·simp only [h,if_true]<;>lia
    ·simp only [h,if_false]<;>lia
theorem sS (its:List ae) (lo hi:Option Int):slicePick its.toArray lo hi none=((its.drop (HT.sIx its.length 0 lo)).take (HT.sIx its.length its.length hi-HT.sIx its.length 0 lo)).toArray:=by
 obtain ⟨h1,h2,h3⟩:=u5 lo hi its.toArray.size
 unfold slicePick
 rw [h1,h2,h3]
 simp only [sliceRange_one,pick_run,aB]<;>rfl
noncomputable def L4 (K:ac):V->Option Int->Option Int->Hp->VK->Prop:=fun x lo hi H Q=>∃ a xs,x=.ref a/\SqL K H a xs/\∀ p,H p=none->Q (.ref p) (upd H p (.lst (Ez xs lo hi)))
theorem Fn:SlR X (L4 X.K):=by
 intro pins s σ H x v vl vu lo hi sl Q I rx hs pl pu h
 obtain ⟨a,xs,rfl,hx,q⟩:=h
 cases rx
 obtain ⟨its,r,ht,hz⟩:=I.list hx
 have hlen:=r.length
 refine ⟨"list",_,slot_list_getitem.lookup,ht.isList.typeIs,?_⟩
 refine wpAny_getItem_list_slice ht.isList hs pl pu .none (by simp) ?_ (by rw [aB]<;>lia)
 rw [sS,<- hlen]
 refine ⟨.ref s.heap.objs.size,_,I.laid (t':=s.toks) (o:=.lst (Ez xs lo hi)) (fun b ob q=>ag _ q) (aw _) ?_,rfl,q _ (I.hok.fresh (aw _))⟩
 exact ⟨bO (pB xs lo hi) hz,_,0,(r.drop (HT.sIx xs.length 0 lo)).take (HT.sIx xs.length xs.length hi-HT.sIx xs.length 0 lo),aJ _ rfl⟩
theorem uC:kY X (.builtin "len") (fun xs H Q=>∃ p ys,xs=[.ref p]/\(SqL X.K H p ys\/SqT X.K H p ys)/\Q (.int ys.length) H):=by
 intro pins s σ H xs us Q I r h
 obtain ⟨p,ys,rfl,hq,q⟩:=h
 obtain ⟨u,rfl,rx⟩:=lC r
 cases rx
 have hn:=ug
 rcases hq with hq | hq
 ·obtain ⟨its,r',pl,hz⟩:=I.list hq
  have hlen:=r'.length
  exact Calls.call_len_list pl.isList (by simp only [aB]<;>lia) ⟨.int ys.length,H,I.tok _,⟨s.toks+1,by rw [aB,hlen]⟩,q⟩
 ·obtain ⟨its,r',pl,hz⟩:=I.tuple hq
  have hlen:=r'.length
  exact len_tuple pl (by simp only [aB]<;>lia) ⟨.int ys.length,H,I.tok _,⟨s.toks+1,by rw [aB,hlen]⟩,q⟩
theorem ue:kY X (.type "list") (fun xs H Q=>∃ p ys,xs=[.ref p]/\(SqL X.K H p ys\/SqT X.K H p ys)/\∀ l,H l=none->Q (.ref l) (upd H l (.lst ys))):=by
 intro pins s σ H xs us Q I r h
 obtain ⟨p,ys,rfl,hq,q⟩:=h
 obtain ⟨u,rfl,rx⟩:=lC r
 cases rx
 have fin:∀ (its:List ae),eG ys its->ys.length<=aK->∀ (h':cy) (c':Nat),(∀ b o',s.heap.get? b=some o'->h'.get? b=some o') ->
  h'.get? s.heap.objs.size=some { cls:=.type "list",dict:=none,data:=.seq its.toArray c',slots:=#[] }->EP X pins σ Q (.ref s.heap.objs.size) { s with heap:=h' }:=fun its r' hz h' c' kp e =>
  ⟨.ref s.heap.objs.size,_,I.laid (t':=s.toks) kp (aw _) (show gV X.prog X.w _ h' _ (.lst ys) from ⟨hz,its,c',r',e⟩),rfl,q _ (I.hok.fresh (aw _))⟩
 rcases hq with hq | hq
 ·obtain ⟨its,r',pl,hz⟩:=I.list hq
  have hlen:=r'.length
  obtain ⟨o,ho,hc,n,hd⟩:=pl.isList
  exact call_list_seq p (.inl rfl) ho hc hd (fun h' c' kp e=>fin its r' hz h' c' kp e) (by simp only [aB]<;>lia)
 ·obtain ⟨its,r',pl,hz⟩:=I.tuple hq
  have hlen:=r'.length
  obtain ⟨o,ho,hc,n,hd⟩:=pl
  exact call_list_seq p (.inr rfl) ho hc hd (fun h' c' kp e=>fin its r' hz h' c' kp e) (by simp only [aB]<;>lia)
theorem rV:kY X (.type "tuple") (fun xs H Q=>∃ p ys,xs=[.ref p]/\((SqL X.K H p ys/\∀ l,H l=none->Q (.ref l) (upd H l (.tup ys)))\/(SqT X.K H p ys/\Q (.ref p) H))):=by
 intro pins s σ H xs us Q I r h
 obtain ⟨p,ys,rfl,h⟩:=h
 obtain ⟨u,rfl,rx⟩:=lC r
 cases rx
 rcases h with ⟨hq,q⟩ | ⟨hq,q⟩
 ·obtain ⟨its,r',pl,hz⟩:=I.list hq
  have hlen:=r'.length
  refine call_tuple_list pl.isList (fun h' kp=>?_) (by simp only [aB]<;>lia)
  have I1:Inv X pins σ H { s with heap:=h' }:=I.kept (t':=s.toks) kp
  have I2:Inv X pins σ (upd H h'.objs.size (.tup ys)) { s with heap:=h'.push { cls:=.type "tuple",data:=.seq its.toArray } } :=
   I1.laid (t':=s.toks) (fun b o e=>ag _ e) (aw _) (show gV X.prog X.w _ _ _ (.tup ys) from ⟨⟨hz,mH.new _ _⟩,its,r',og _ _⟩)
  exact ⟨.ref h'.objs.size,_,I2,rfl,q _ (I1.hok.fresh (aw _))⟩
 ·obtain ⟨its,r',pl,hz⟩:=I.tuple hq
  exact call_tuple_same pl ⟨.ref p,H,I,rfl,q⟩
noncomputable def tyV (K:ac) (T:String) (x:V) (H:Hp):Prop:=match x with
 | .str _=>T = "str"
 | .int _=>T = "int"
 | .ref p=>(T = "list"/\∃ xs,SqL K H p xs)\/(T = "tuple"/\∃ o,K.lookup p=some o/\o.cls=.type "tuple"/\o.dict=none) \/
    (T = "dict"/\((∃ kvs,H p=some (.dK kvs))\/∃ kvs,H p=some (.dT kvs)))\/(T = "set"/\∃ S n,H p=some (.set S n))
 | _=>False
theorem Jk {pins:List (ak×dz)} {σ:St} {H:Hp} {s:ai} {T:String} {x:V} {v:ae} (I:Inv X pins σ H s) (r:gH x v) (ty:tyV X.K T x H) :
 s.TypeIs v T/\∀ a,v=.ref a->∃ ob,s.heap.get? a=some ob/\ob.dict=none:=by
 cases x with
 | str z =>
   obtain ⟨t,rfl⟩:=r
   cases (show T = "str" from ty)
   exact ⟨typeIs_str s z t,fun _ e=>nomatch e⟩
 | int i =>
   obtain ⟨t,rfl⟩:=r
   cases (show T = "int" from ty)
   exact ⟨typeIs_int s i t,fun _ e=>nomatch e⟩
 | ref p =>
   cases r
   rcases ty with ⟨rfl,xs,hq⟩ | ⟨rfl,o,hk,hc,hd⟩ | ⟨rfl,hk⟩ | ⟨rfl,S,n,hk⟩
   ·obtain ⟨its,_,pl,_⟩:=I.list hq
    refine ⟨pl.isList.typeIs,fun a e=>?_⟩
    cases e
    obtain ⟨o,n,e,c,hd,_⟩:=pl
    exact ⟨o,e,hd⟩
   ·refine ⟨⟨o,I.kIn p o hk,hc⟩,fun a e=>?_⟩
    cases e
    exact ⟨o,I.kIn _ o hk,hd⟩
   ·have z:∃ o,s.heap.get? p=some o/\o.ExactDict:=by
     rcases hk with ⟨kvs,hk⟩ | ⟨kvs,hk⟩
     ·obtain ⟨_,_,_,_,o,_,_,e,ex,_⟩:=I.hok p _ hk
      exact ⟨o,e,ex⟩
     ·obtain ⟨_,_,_,_,o,_,_,e,ex,_⟩:=I.hok p _ hk
      exact ⟨o,e,ex⟩
    obtain ⟨o,e,ex⟩:=z
    refine ⟨⟨o,e,ex.1⟩,fun a e2=>?_⟩
    cases e2
    exact ⟨o,e,ex.2.1⟩
   ·obtain ⟨o,_,_,_,e,ex,_⟩:=I.hok p _ hk
    refine ⟨⟨o,e,ex.1⟩,fun a e2=>?_⟩
    cases e2
    exact ⟨o,e,ex.2.1⟩
 | _=>exact cm ty
noncomputable def tBM (K:ac) (T:String) (r:V->List V->Hp->VK->Prop) (to:TE) (t:TA):TE:=fun σ H Q=>to σ H fun x H1=>tyV K T x H1/\t σ H1 fun xs H2=>r x xs H2 Q
variable {o e:aS} {es:List aS} {to:TE} {t:TA} {name:bM} {apos cpos:ft} {T id:String} {r:V->List V->Hp->VK->Prop}
theorem Iw (pa:PlainAttrs T) (slot:Slot T name id) (hty:typeOf (.builtin id)=pure (.type "method_descriptor")) (hm:MtR X id r) (ho:PE X o to) (ha:PA X (e::es) t)
 (hbase:gv o name X.env (b9 o X.env)=b9 o X.env:=by rfl)
 (hfew:((cz cpos (am (e::es) X.env)).all (fun x=>!x.1)&&(lw cpos (ik [] X.env)).all (fun x=>x.1.isSome)
   && decide ((e::es).length+([]:List jb).length+(if ([]:List jb).isEmpty then 0 else 1)<30))=true:=by rfl)
 (hline:(apos.endLine == cpos.line)=true:=by rfl) (hs:am (e::es) X.env=(false,b9 e X.env)::am es X.env:=by rfl) (hplain:(cz cpos (am es X.env)).any (·.1)=false:=by rfl) :
 PE X (.Call (.Attribute o name apos) (e::es) [] cpos) (tBM X.K T r to t):=by
 intro pins s σ H Q I h
 refine wpAny_Call_method_late hbase hfew hline rfl (thn (ho pins s σ H _ I h) fun v s1 ⟨x,H1,I1,r1,ty,q1⟩=>?_)
 obtain ⟨h1,h2⟩:=Jk I1 r1 ty
 refine ⟨T,id,pa,slot,hty,h1,h2,?_⟩
 have hA:=ha cpos pins s1 σ H1 _ I1 q1
 rw [hs] at hA ⊢
 refine kq (by show (false||(cz cpos (am es X.env)).any (·.1))=false;rw [hplain]<;>rfl) (vn ?_)
 exact thn hA fun us s2 ⟨vs,H2,I2,r2,q2⟩=>hm pins s2 σ H2 x vs v us Q I2 r1 r2 q2
end
noncomputable def MtM (X:Cx) (id:String) (r:V->List V->Hp->VK->Prop):Prop :=
 ∀ (pins:List (ak×dz)) (s:ai) (σ:St) (H:Hp) (x:V) (xs:List V) (v:ae) (us:List ae) (Q:VK),Inv X pins σ H s->gH x v->eG xs us->r x xs H Q ->
   aM (bg X.prog X.w) X.A (call (.builtin id) (v::us)) (EP X pins σ Q) X.xe s
theorem eG.one:∀ {x:V} {us:List ae},eG [x] us->∃ u,us=[u]/\gH x u
 | _,_,.cons r .nil=>⟨_,rfl,r⟩
theorem eG.two:∀ {x y:V} {us:List ae},eG [x,y] us->∃ u v,us=[u,v]/\gH x u/\gH y v
 | _,_,_,.cons r (.cons q .nil)=>⟨_,_,rfl,r,q⟩
theorem eG.zero:∀ {us:List ae},eG [] us->us=[]
 | _,.nil=>rfl
theorem eG.eraseIdx:∀ {xs:List V} {us:List ae} (i:Nat),eG xs us->eG (xs.eraseIdx i) (us.eraseIdx i)
 | _,_,_,.nil=>.nil
 | _,_,0,.cons _ t=>t
 | _,_,i+1,.cons r t=>.cons r (eG.eraseIdx i t)
theorem t4 {α:Type}:∀ (l:List α) (i:Nat),(l.eraseIdx i).length<=l.length
 | [],_=>aw _
 | _::_,0=>Nat.le_succ _
 | _::r,i+1=>Nat.succ_le_succ (t4 r i)
section
variable {X:Cx} {pins:List (ak×dz)} {σ:St} {H:Hp} {s:ai} {l b:ak} {xs ys zs:List V}
theorem Inv.lset {its its':List ae} {n:Nat} {f:Array ae->Array ae} {t':Nat} (I:Inv X pins σ H s) (hH:H l=some (.lst xs))
 (e:s.heap.get? l=some { cls:=.type "list",data:=.seq its.toArray n }) (hf:f its.toArray=its'.toArray) (hv:eG ys its') (hz:ys.length<=aK) :
 Inv X pins σ (upd H l (.lst ys)) { s with heap:=s.heap.update l (bY f),toks:=t' }:=by
 have q:=PySem.IsL.update e f
 rw [hf] at q
 refine I.write (x:=l) (e:=l) (by rw [hH];exact trivial) (.inl rfl) (fun b' u hb hu=>(cV s.heap (bY f) (Ne.symm hb)).trans hu) ⟨_,q⟩ ?_
 exact ⟨hz,its',_,hv,q⟩
theorem Inv.lnew {its:List ae} {t':Nat} (I:Inv X pins σ H s) (hv:eG ys its) (hz:ys.length<=aK) :
 Inv X pins σ (upd H s.heap.objs.size (.lst ys)) { s with heap:=s.heap.push { cls:=.type "list",data:=.seq its.toArray },toks:=t' } :=
 I.laid (fun _ _ q=>ag _ q) (aw _) ⟨hz,its,0,hv,aJ _ rfl⟩
theorem Inv.fresh (I:Inv X pins σ H s):H s.heap.objs.size=none:=I.hok.fresh (aw _)
theorem Inv.lstM (I:Inv X pins σ H s) (hH:H l=some (.lst xs)):xs.length<=aK/\∃ (its:List ae) (n:Nat),eG xs its/\xs.length=its.length/\s.heap.get? l=some { cls:=.type "list",data:=.seq its.toArray n }:=by
 obtain ⟨z,its,n,r,e⟩:=I.hok l _ hH
 exact ⟨z,its,n,r,r.length,e⟩
end
section
variable {X:Cx}
noncomputable def FB:V->List V->Hp->VK->Prop:=fun x vs H Q=>∃ l xs y,x=.ref l/\vs=[y]/\H l=some (.lst xs)/\xs.length<aK/\Q .non (upd H l (.lst (xs++[y])))
theorem tV:MtM X "list.append" FB:=by
 intro pins s σ H x vs v us Q I rx rv h
 obtain ⟨l,xs,y,rfl,rfl,hH,hz,q⟩:=h
 cases rx
 obtain ⟨u,rfl,ru⟩:=rv.one
 obtain ⟨z,its,n,r,hl,e⟩:=I.lstM hH
 refine oJ F.slot_list_append ⟨_,e,rfl⟩ F.entry_list_append (F.args_list_append_2 _ _) (PySem.list_append l its.toArray n u (by rw [aB];lia)) ⟨e,?_⟩
 refine ⟨.non,_,I.lset (its':=its++[u]) hH e (by simp) (r.append (.cons ru .nil)) ?_,rfl,q⟩
 rw [aO,bx]
 lia
noncomputable def A4:V->List V->Hp->VK->Prop:=fun x vs H Q=>∃ l xs i k y,x=.ref l/\vs=[.int i]/\H l=some (.lst xs)/\-(2 ^ 63)<=i/\i<2 ^ 63/\seqIndex? i xs.length=some k/\xs[k]?=some y/\Q y (upd H l (.lst (xs.eraseIdx k)))
theorem DS:MtM X "list.pop" A4:=by
 intro pins s σ H x vs v us Q I rx rv h
 obtain ⟨l,xs,i,k,y,rfl,rfl,hH,h1,h2,hk,hy,q⟩:=h
 cases rx
 obtain ⟨u,rfl,ru⟩:=rv.one
 obtain ⟨t,rfl⟩:=ru
 obtain ⟨z,its,n,r,hl,e⟩:=I.lstM hH
 obtain ⟨w,hw,rw'⟩:=r.get hy
 refine oJ F.slot_list_pop ⟨_,e,rfl⟩ F.entry_list_pop (F.args_list_pop_2 _ _)
  (MeetsSeq.list_pop_at l its.toArray n i t k w (fitsIndex_both h1 h2) (by rw [aB,<- hl];exact hk) (by rw [<- fN];exact hw) (by rw [aB];lia)) ⟨e,?_⟩
 refine ⟨y,_,I.lset (its':=its.eraseIdx k) hH e ?_ (r.eraseIdx k) ?_,rw',q⟩
 ·show its.toArray.eraseIdxIfInBounds k=(its.eraseIdx k).toArray
  rw [List.eraseIdxIfInBounds_toArray]
 ·have:=t4 xs k
  lia
end
end L2
namespace Att
open PySem PySem.W PySem.Calls PyProof.Rows
theorem pW {P:zg} {h:cy}:∀ (ns:List Int) (vs:List ae),WellAll P h vs (ns.map WData.int)->dR vs ns:=by
 intro ns
 induction ns with
 | nil =>
   intro vs w
   rw [ja] at w
   cases w
   exact .nil
 | cons n ns ih =>
   intro vs w
   rw [ax] at w
   cases w with
   | cons a b =>
     cases a
     exact .cons _ _ (ih _ b)
theorem B0 {l:OpenLaw} {n:Nat} (hn:l.most=some n) {P:zg} {h:cy} {args:List WData} {vals:List ae}
 (hpre:l.row.toRowW.claim.pre args=true) (hwl:WellAll P h vals args) :
 ∃ a vs ns,vals=[bN a]/\args=[WData.list (ns.map WData.int)]/\h.get? a=some { cls:=.type "list",data:=.seq vs.toArray }/\dR vs ns/\ns.length<=n:=by
 have hsh:WShape.hasAll [] args [.list .int]=true:=(pre_splitW hpre).1
 have hc:l.pre.holds [] { args:=args }=true:=(pre_splitW hpre).2
 obtain ⟨d,r,rfl,h1,h2⟩:=hasAllW_cons hsh
 obtain rfl:=hasAllW_nil h2
 obtain ⟨xs,rfl,h3⟩:=hasW_list h1
 obtain ⟨ns,rfl⟩:=items_int h3
 have hlen:ns.length<=n:=by
  unfold OpenLaw.pre at hc
  have h4:(WTm.not (.lt (.lit (.int (n:Int))) (.len (.arg 0)))).holds [] { args:=[.list (ns.map .int)] }=true:=by
   have h4:=(holds_andW hc).1
   rw [hn] at h4
   exact h4
  have h5:=condW_of h4 (w_not (w_lt w_lit (w_len_list (w_arg rfl))))
  rw [ab] at h5
  refine oK fun q=>?_
  have q':(n:Int)<((ns.length:Nat):Int):=by lia
  first
   | (rw [decide_eq_true q'] at h5;exact absurd h5 (by decide))
   | (simp at h5;lia)
 cases hwl with
 | cons w1 w2 =>
   cases w2
   cases w1 with
   | list ho hall=>exact ⟨_,_,ns,rfl,rfl,ho,pW ns _ hall,hlen⟩
theorem AM (l:OpenLaw) (args:List WData):l.row.toRowW.claim.post args (.bool true) args=true :=
 postW_of (r:=l.row.toRowW) (X:=(true == true))
  (show WShape.has [] (.bool true) .bool=true by first | rfl | decide | simp [WShape.has,WShape.arms,WShape.armsAll])
  (show (WTm.eq .res (.lit (.bool true))).value [] { args:=args,res:=some (.bool true),after:=args }=some (.bool (true == true)) from w_eq_bool (w_res rfl) w_lit) rfl
theorem attach_call {l:OpenLaw} {n:Nat} {q:bC} {loose:List bM} {XP:(bM->Option ae)->cy->Prop} {YP:cf->cy->Prop} {d:DefRec}
 (hn:l.most=some n) (hdf:d.params.defaults=[])
 (call:∀ (w:cf) (s₀ s₁:ai) (mg mb:bM->Option ae) (fa:ak) (o:dz) (pm cd doc:ae) (a:ak) (vs:List ae) (ns:List Int),
   Ground q loose [] XP w s₀ mg mb s₁.heap->YP w s₁.heap ->
   s₁.heap.get? fa=some o->o.data=.func (docDef d.name d.params d.body d.scope pm cd doc)->s₁.heap.CodeRec cd d.name->mg d.name=some (.ref fa) ->
   s₁.heap.get? a=some { cls:=.type "list",data:=.seq vs.toArray }->dR vs ns->ns.length<=n->s₁.gens = #[] ->
   lN (bg l.prog w) qa (.call (.ref fa) ⟨[.ref a],[]⟩) (fun r s'=>r=.ok (.ret (.bool true))/\OldK s₁.heap s'.heap/\s'.os=s₁.os/\lL s'.gens) s₁) :
 WalkO q loose XP YP l.row.toRowW d [] (fun f vs=>xX f vs):=by
 intro w s₀ s₁ mg mb G Y fa o pm cd doc dV kV ho hd hcd hD hmg hg args vals as hpre hlay hrd hwl hlo
 obtain rfl:dV=.none:=Dflts.none hD hdf
 obtain rfl:kV=.none:=Dflts.noKw hD
 obtain ⟨a,vs,ns,rfl,rfl,hobj,hints,hlen⟩:=B0 hn hpre hwl
 refine enter_call (p7 (call w s₀ s₁ mg mb fa o pm cd doc a vs ns G Y ho (fd_plain hd) hcd hmg hobj hints hlen hg) fun r s' hq=>?_)
 obtain ⟨rfl,h2,h3,h4⟩:=hq
 exact ⟨.inl ⟨.bool true,.bool true,[],rfl,fun _=>rfl,.bool true,AM l _,fun _=>⟨qx,fun _ hm=>(nomatch hm)⟩⟩,h2,h3,h4⟩
end Att
namespace L2
open PySem PySem.Spec PyProof.Rows
theorem tQ:∀ {vs:List ae} {ns:List Int},dR vs ns->eG (ns.map V.int) vs
 | _,_,.nil=>.nil
 | _,_,.cons n t h=>.cons ⟨t,rfl⟩ (tQ h)
end L2
namespace L2
open PySem PySem.Spec PyProof.Rows
noncomputable def cF (s:cX):iU:=match s with
 | .FunctionDef _ a _ _ _ _ _ _ _ _=>a
 | _=>{ posonlyargs:=[],args:=[],vararg:=none,kwonlyargs:=[],kw_defaults:=[],kwarg:=none,defaults:=[] }
noncomputable def cg (s:cX):List cX:=match s with
 | .FunctionDef _ _ b _ _ _ _ _ _ _=>b
 | _=>[]
noncomputable def bh (s:cX):eI:=match s with
 | .FunctionDef _ _ _ _ _ _ sc _ _ _=>sc
 | _=>{ kind:=.function,names:=[],isGenerator:=false,isCoroutine:=false }
noncomputable abbrev CX0:CXT:=fun _ _ _ _ _ _=>False
noncomputable abbrev E0:XK:=fun _ _ _=>False
theorem GY {X:Cx}:Aq CX0 X E0:=fun _ _ _ _ _ _ _ h=>h.elim
structure Fun (K:ac) (x qual:bM) (st:cX) (f:ak) (fd:dG):Prop where
 ex:∃ (oc:ae) (od:Option ak) (kV doc pm:ae) (an:Option ak) (cdv ct:ae) (osl:Array (Option ae)),
  fd=aZ x qual (cF st) (cg st) (bh st) .none kV doc pm an cdv ct/\K.lookup f=some ⟨oc,od,.func fd,osl⟩/\bi K cdv qual=true
 kp:aY K (.ref f)=true
section
variable {P:bC} {w:cf} {K:ac} {mg:bM->Option ae} {base:cy}
theorem Fun.ok {x qual:bM} {st:cX} {f:ak} {fd:dG} {N ps:List bM} {k:Nat} {sp:Sp} (F:Fun K x qual st f fd) (S:g8 N ps (bh st)) (len:∀ vs H Q E,sp vs H Q E->vs.length=ps.length)
 (hbody:∀ (cdv:ae) (A:bL) (outer:List p4) (s:ai) (H:Hp) (vs:List V) (Q:VK) (E:XK),jf k (A.deeper (fG qual (bh st) s.heap.objs.size f cdv))->sp vs H Q E ->
   ∃ t,PSs (xg CX0 P w K mg base N qual (bh st) f cdv A outer s H E).nox (cg st) t/\t { nx:=fun _ H'=>Q .non H',rt:=Q } (start N vs) H):vF P w K mg base CX0 (k+1) f fd ps sp:=by
 obtain ⟨oc,od,kV,doc,pm,an,cdv,ct,osl,rfl,lk,hcd⟩:=F.ex
 refine Kn lk hcd S len fun A outer s H vs Q E hr hsp=>?_
 obtain ⟨t,h,q⟩:=hbody cdv A outer s H vs Q E hr hsp
 exact ⟨t,h.nox,q⟩
theorem Fun.binds {x qual:bM} {st:cX} {f:ak} {fd:dG} {ps:List bM} (F:Fun K x qual st f fd)
 (h:∀ (kV doc pm:ae) (an:Option ak) (cdv ct:ae) (us:List ae),us.length=ps.length->jT (aZ x qual (cF st) (cg st) (bh st) .none kV doc pm an cdv ct) ⟨us,[]⟩=pure (ps.zip us)):sr K fd ps []:=by
 obtain ⟨oc,od,kV,doc,pm,an,cdv,ct,osl,rfl,lk,hcd⟩:=F.ex
 exact .all (h kV doc pm an cdv ct)
theorem fq {x qual:bM} {st:cX} {f:ak} {oc:ae} {od an:Option ak} {osl:Array (Option ae)} {kV doc pm cdv ct:ae} (l:K.lookup f=some ⟨oc,od,.func (aZ x qual (cF st) (cg st) (bh st) .none kV doc pm an cdv ct),osl⟩)
 (c:bi K cdv qual=true) (k:aY K (.ref f)=true):Fun K x qual st f (aZ x qual (cF st) (cg st) (bh st) .none kV doc pm an cdv ct):=⟨⟨oc,od,kV,doc,pm,an,cdv,ct,osl,rfl,l,c⟩,k⟩
end
theorem sF {A:bL} {k:Nat} (hr:jf k A):A.units+1<cr:=zh (Nat.add_le_add_left (by decide:1<=64) _) hr.units
section
variable {X:Cx}
theorem pv (i:Nat) {x:bM} {pos:ft} (hN:X.N[i]?=some x:=by rfl) (hv:Vis X.env.scope x:=by first | exact dX rfl | exact d9 (dX rfl) | exact d9 (d9 rfl)) (hd:(x == ("__debug__" : bM))=false:=by decide)
 (hcd:(x == ("__classdict__" : bM))=false:=by decide):PE X (.Name x pos) (ku i):=wQ hN hv hd hcd
end
theorem JL {A B:Prop} (h:B):if false=true then A else B:=by
 rw [if_neg aN]
 exact h
theorem HU {A B:Prop} (h:A):if true=true then A else B:=by
 rw [if_pos rfl]
 exact h
noncomputable def cW (H H':Hp):Prop:=∀ b o,H b=some o->H' b=some o
theorem cW.refl (H:Hp):cW H H:=fun _ _ h=>h
theorem cW.trans {H H1 H2:Hp} (a:cW H H1) (b:cW H1 H2):cW H H2:=fun c o h=>b c o (a c o h)
theorem cW.free {H H':Hp} (e:cW H H') {l:ak} (h:H' l=Option.none):H l=Option.none:=by
 cases q:H l with
 | none=>rfl
 | some o =>
   rw [e l o q] at h
   cases h
theorem cW.seq {K:ac} {H H':Hp} {a:ak} {xs:List V} (e:cW H H') (h:SqL K H a xs):SqL K H' a xs:=by
 rcases h with (h | ⟨o,h⟩) | h
 ·exact .inl (.inl (e _ _ h))
 ·exact .inl (.inr ⟨o,e _ _ h⟩)
 ·exact .inr h
end L2
namespace Ry
open PySem PySem.W PyProof.Rows
variable (O:fI) (key:Nat->O.α) (n:Nat)
noncomputable def fg {α:Type}:KasT α->(α->Prop)->Prop
 | .ret a,Q=>Q a
 | .ask i j k,Q=>i<n/\j<n/\fg (k (O.blt (key i) (key j))) Q
variable {O key n}
theorem fg.mono {α:Type} {Q Q':α->Prop} (h:∀ a,Q a->Q' a):∀ {t:KasT α},fg O key n t Q->fg O key n t Q'
 | .ret a,q=>h a q
 | .ask i j k,q=>⟨q.1,q.2.1,fg.mono h q.2.2⟩
theorem fg.bind {α β:Type} {f:α->KasT β} {Q:β->Prop}:∀ {t:KasT α},fg O key n t (fun a=>fg O key n (f a) Q)->fg O key n (t.bind f) Q
 | .ret _,q=>q
 | .ask i j k,q=>⟨q.1,q.2.1,fg.bind q.2.2⟩
theorem fg.wp {α:Type} {cmp:Nat->Nat->(Bool->ai->Prop)->ai->Prop} {s:ai} (hc:∀ i j (C:Bool->ai->Prop),i<n->j<n->C (O.blt (key i) (key j)) s->cmp i j C s) {Q:α->ai->Prop} :
 ∀ {t:KasT α},fg O key n t (fun a=>Q a s)->t.kasWp cmp Q s
 | .ret _,q=>q
 | .ask i j k,q=>hc i j _ q.1 q.2.1 (fg.wp hc (t:=k (O.blt (key i) (key j))) q.2.2)
noncomputable abbrev KN (O:fI) (key:Nat->O.α) (p:Array Nat) (i:Nat):O.α:=key (p.getD i 0)
structure gr (n:Nat) (p:Array Nat):Prop where
 perm:p.Perm (bH n).toArray
theorem gr.size {p:Array Nat} (h:gr n p):p.size=n:=by
 have:=h.perm.size_eq
 simpa using this
theorem gr.lt {p:Array Nat} (h:gr n p) {i:Nat} (hi:i<n):p.getD i 0<n:=by
 have hs:i<p.size:=by rw [h.size];exact hi
 have e:p.getD i 0=p[i]:=by simp [Array.getD,hs]
 rw [e]
 have hm:p[i]∈(bH n).toArray.toList:=(cx.mp h.perm).mem_iff.mp (by simp)
 simpa using hm
theorem jA {p q:Array Nat} {i j:Nat} (h:p[i]?=q[j]?):p.getD i 0=q.getD j 0:=by
 rw [pY,pY,h]
theorem uN {xs:Array Nat} {src d:Nat} (hs:src<xs.size) (hd:d<=src) (k:Nat) :
 KN O key (bubble xs src d) k=if k=src-d then KN O key xs src else if src-d<k/\k<=src then KN O key xs (k-1) else KN O key xs k:=by
 have e:=getElem?_bubble hs d hd k
 unfold KN
 by_cases h1:k=src-d
 ·rw [if_pos h1] at e ⊢;rw [jA e]
 ·rw [if_neg h1] at e ⊢
  by_cases h2:src-d<k/\k<=src
  ·rw [if_pos h2] at e ⊢;rw [jA e]
  ·rw [if_neg h2] at e ⊢;rw [jA e]
theorem zW {xs:Array Nat} {i j:Nat} (hj:j<=xs.size) (k:Nat):KN O key (kas_rev xs i j) k=if i<=k/\k<j then KN O key xs (i+j-1-k) else KN O key xs k:=by
 have e:=getElem?_mirror_all (i:=i) hj k
 unfold KN kas_rev
 by_cases h1:i<=k/\k<j
 ·rw [if_pos h1] at e ⊢;rw [jA e]
 ·rw [if_neg h1] at e ⊢;rw [jA e]
theorem iA {xs:Array Nat} {i j:Nat} (hj:j<=xs.size) (heq:∀ k,i<=k->k<j->KN O key xs k=KN O key xs (j-1)) (k:Nat):KN O key (kas_rev xs i j) k=KN O key xs k:=by
 rw [zW hj]
 split
 ·rw [heq _ (by lia) (by lia),heq k (by lia) (by lia)]
 ·rfl
theorem gr.rev {p:Array Nat} (h:gr n p) (i j:Nat):gr n (kas_rev p i j):=⟨(mirror_perm _ _ _ _).trans h.perm⟩
theorem gr.bub {p:Array Nat} (h:gr n p) (i j:Nat):gr n (bubble p i j):=⟨(bubble_perm _ _ _).trans h.perm⟩
noncomputable def sA (O:fI) (key:Nat->O.α) (p:Array Nat) (k:Nat):Prop:=∀ i j,i<=j->j<k->O.kle (KN O key p i) (KN O key p j)
noncomputable def uI (O:fI) (key:Nat->O.α) (p:Array Nat) (k:Nat):Prop:=∀ i j,i<=j->j<k->O.kle (KN O key p j) (KN O key p i)
theorem AF {p:Array Nat} (hp:gr n p) {Q:Nat->Prop}:∀ (f a:Nat),1<=a->a+f=n->sA O key p a ->
 (∀ m,a<=m->m<=n->sA O key p m->(m=n\/O.klt (KN O key p m) (KN O key p (m-1)))->Q m)->fg O key n (kas_asc p f a) Q
 | 0,a,_,hf,hs,h=>h a (aw _) (by lia) hs (.inl (by lia))
 | f+1,a,h1,hf,hs,h=>by
   refine ⟨hp.lt (by lia),hp.lt (by lia),?_⟩
   show fg O key n (if O.blt (KN O key p a) (KN O key p (a-1))=true then _ else _) Q
   cases hless:O.blt (KN O key p a) (KN O key p (a-1)) with
   | true=>rw [if_pos rfl];exact h a (aw _) (by lia) hs (.inr hless)
   | false =>
     rw [if_neg aN]
     refine AF hp f (a+1) (by lia) (by lia) (fun i j hij hj=>?_) fun m h2 h3 h4 h5=>h m (by lia) h3 h4 h5
     by_cases hjx:j<a
     ·exact hs i j hij hjx
     ·have hj':j=a:=by lia
      subst hj'
      by_cases hi':i=j
      ·subst hi';exact eA _
      ·exact im (hs i (j-1) (by lia) (by lia)) hless
theorem xQ {p:Array Nat} {m:Nat} (hp:gr n p) {Q:Nat×Array Nat->Prop} (h1:1<=m) (hm:m<=n) (hs:uI O key p m)
 (h:∀ k p',gr n p'->1<=k->k<=n->sA O key p' k->Q (k,p')):fg O key n (kas_tail3 m n p) Q:=by
 unfold kas_tail3
 have hz:m<=p.size:=by rw [hp.size];exact hm
 refine fg.bind (AF (hp.rev 0 m) (n-m) m h1 (by lia) (fun i j hij hj=>?_) fun k h2 h3 h4 _=>h k _ (hp.rev 0 m) (by lia) h3 h4)
 rw [zW hz,zW hz,if_pos (by lia),if_pos (by lia)]
 exact hs _ _ (by lia) (by lia)
theorem rG {Q:Array Nat×Nat×Nat->Prop}:∀ (f:Nat) (p:Array Nat) (a q:Nat),gr n p->1<=a->a+f=n->uI O key p a->q+1<=a ->
 (∀ i,a-(q+1)<=i->i<a->KN O key p i=KN O key p (a-1)) ->
 (∀ p' m q',gr n p'->a<=m->m<=n->uI O key p' m->q'+1<=m->(∀ i,m-(q'+1)<=i->i<m->KN O key p' i=KN O key p' (m-1))->Q (p',m,q'))->fg O key n (kas_desc f p a q) Q
 | 0,p,a,q,hp,_,hf,hs,hq,he,h=>h p a q hp (aw _) (by lia) hs hq he
 | f+1,p,a,q,hp,h1,hf,hs,hq,he,h=>by
   have hz:a<=p.size:=by rw [hp.size];lia
   refine ⟨hp.lt (by lia),hp.lt (by lia),?_⟩
   show fg O key n (if O.blt (KN O key p a) (KN O key p (a-1))=true then _ else _) Q
   cases hless:O.blt (KN O key p a) (KN O key p (a-1)) with
   | true =>
     rw [if_pos rfl]
     have step1:∀ xs:Array Nat,(∀ k,KN O key xs k=KN O key p k)->uI O key xs (a+1):=by
      intro xs hk i j hij hj
      rw [hk,hk]
      by_cases hjx:j<a
      ·exact hs i j hij hjx
      ·have hj':j=a:=by lia
       subst hj'
       by_cases hi':i=j
       ·subst hi';exact eA _
       ·exact im (hW hless) (hs i (j-1) (by lia) (by lia))
     by_cases hneq:q > 0
     ·rw [if_pos hneq]
      exact rG f _ (a+1) 0 (hp.rev _ _) (by lia) (by lia) (step1 _ (iA hz he)) (by lia) (fun i h1 h2=>by congr 1;congr 1;lia) fun p' m q' a1 a2 a3 a4 a5 a6=>h p' m q' a1 (by lia) a3 a4 a5 a6
     ·rw [if_neg hneq]
      exact rG f _ (a+1) 0 hp (by lia) (by lia) (step1 _ fun _=>rfl) (by lia) (fun i h1 h2=>by congr 1;congr 1;lia) fun p' m q' a1 a2 a3 a4 a5 a6=>h p' m q' a1 (by lia) a3 a4 a5 a6
   | false =>
     rw [if_neg aN]
     refine ⟨hp.lt (by lia),hp.lt (by lia),?_⟩
     show fg O key n (if O.blt (KN O key p (a-1)) (KN O key p a)=true then _ else _) Q
     cases hlarger:O.blt (KN O key p (a-1)) (KN O key p a) with
     | true=>rw [if_pos rfl];exact h p a q hp (aw _) (by lia) hs hq he
     | false =>
       rw [if_neg aN]
       have heqx:KN O key p a=KN O key p (a-1):=lE hlarger hless
       refine rG f p (a+1) (q+1) hp (by lia) (by lia) (fun i j hij hj=>?_) (by lia) (fun i h1 h2=>?_) fun p' m q' a1 a2 a3 a4 a5 a6=>h p' m q' a1 (by lia) a3 a4 a5 a6
       ·by_cases hjx:j<a
        ·exact hs i j hij hjx
        ·have hj':j=a:=by lia
         subst hj'
         by_cases hi':i=j
         ·subst hi';exact eA _
         ·rw [heqx];exact hs i (j-1) (by lia) (by lia)
       ·rw [show a+1-1=a by lia]
        by_cases hix:i=a
        ·subst hix;rfl
        ·rw [heqx];exact he i (by lia) (by lia)
theorem oR {p:Array Nat} {m:Nat} (hp:gr n p) {Q:Nat×Array Nat->Prop} (hm:m+1<=n) (hs:uI O key p (m+1))
 (h:∀ k p',gr n p'->1<=k->k<=n->sA O key p' k->Q (k,p')):fg O key n (kas_descPart m n p) Q:=by
 unfold kas_descPart
 refine fg.bind (rG (n-(m+1)) p (m+1) 0 hp (by lia) (by lia) hs (by lia) (fun i h1 h2=>by congr 1;congr 1;lia) fun p' k q' a1 a2 a3 a4 a5 a6=>?_)
 have hz:k<=p'.size:=by rw [a1.size];exact a3
 by_cases hq:q' > 0
 ·rw [if_pos hq]
  refine xQ (m:=k) (a1.rev _ _) (by lia) a3 (fun i j hij hj=>?_) h
  rw [iA hz a6,iA hz a6]
  exact a4 i j hij hj
 ·rw [if_neg hq]
  exact xQ (m:=k) a1 (by lia) a3 a4 h
theorem CC {p:Array Nat} (hp:gr n p) {Q:Nat×Array Nat->Prop} (h1:1<=n) (h:∀ k p',gr n p'->1<=k->k<=n->sA O key p' k->Q (k,p')):fg O key n (kas_count n p) Q:=by
 unfold kas_count
 refine fg.bind (AF hp (n-1) 1 (aw _) (by lia) (fun i j hij hj=>by have:i=j:=(by lia);subst this;exact eA _) fun m hm1 hm2 hsm hor=>?_)
 by_cases hnn:m=n
 ·rw [if_pos (by simpa using hnn)];exact h m p hp hm1 hm2 hsm
 ·rw [if_neg (by simpa using hnn)]
  have hlt:O.klt (KN O key p m) (KN O key p (m-1)):=hor.resolve_left hnn
  have hz:m<=p.size:=by rw [hp.size];exact hm2
  by_cases hgt:m > 1
  ·rw [if_pos hgt]
   refine ⟨hp.lt (by lia),hp.lt (by lia),?_⟩
   show fg O key n (if O.blt (KN O key p 0) (KN O key p (m-1))=true then _ else _) Q
   cases hrose:O.blt (KN O key p 0) (KN O key p (m-1)) with
   | true=>rw [if_pos rfl];exact h m p hp hm1 hm2 hsm
   | false =>
     rw [if_neg aN]
     have hall:∀ k,0<=k->k<m->KN O key p k=KN O key p (m-1):=by
      intro k _ hk
      have a1:=hsm 0 k (by lia) hk
      have a2:=hsm k (m-1) (by lia) (by lia)
      have a3:O.kle (KN O key p (m-1)) (KN O key p 0):=hrose
      exact lE a2 (im a3 a1)
     refine oR (hp.rev 0 m) (by lia) (fun i j hij hj=>?_) h
     rw [iA hz hall,iA hz hall]
     by_cases hjm:j<m
     ·rw [hall i (by lia) (by lia),hall j (by lia) hjm];exact eA _
     ·have hj':j=m:=by lia
      subst hj'
      by_cases hi':i=j
      ·subst hi';exact eA _
      ·rw [hall i (by lia) (by lia)];exact hW hlt
  ·rw [if_neg hgt]
   have e1:m=1:=by lia
   subst e1
   refine oR hp (by lia) (fun i j hij hj=>?_) h
   by_cases hi':i=j
   ·subst hi';exact eA _
   ·have ei:i=0:=by lia
    have ej:j=1:=by lia
    subst ei ej
    exact hW hlt
theorem rH {p:Array Nat} {k:Nat} (hp:gr n p) (hk:k<n) (hs:sA O key p k) {Q:Nat->Prop}:∀ (f l r:Nat),l<=r->r<=k->r-l<=f ->
 (∀ i,i<l->O.kle (KN O key p i) (KN O key p k))->(∀ i,r<=i->i<k->O.klt (KN O key p k) (KN O key p i)) ->
 (∀ l,l<=k->(∀ i,i<l->O.kle (KN O key p i) (KN O key p k))->(∀ i,l<=i->i<k->O.klt (KN O key p k) (KN O key p i))->Q l)->fg O key n (kas_place p k f l r) Q
 | 0,l,r,hlr,hrk,hf,hlo,hhi,h=>by
   have:l=r:=by lia
   subst this
   exact h l hrk hlo hhi
 | f+1,l,r,hlr,hrk,hf,hlo,hhi,h=>by
   unfold kas_place
   by_cases hge:l≥r
   ·rw [if_pos hge]
    have:l=r:=by lia
    subst this
    exact h l hrk hlo hhi
   ·rw [if_neg hge]
    refine ⟨hp.lt hk,hp.lt (by lia),?_⟩
    show fg O key n (if O.blt (KN O key p k) (KN O key p ((l+r) / 2))=true then _ else _) Q
    cases hless:O.blt (KN O key p k) (KN O key p ((l+r) / 2)) with
    | true =>
      rw [if_pos rfl]
      exact rH hp hk hs f l ((l+r) / 2) (by lia) (by lia) (by lia) hlo (fun i h1 h2=>KeyOrd.klt_of_klt_of_kle hless (hs _ _ h1 h2)) h
    | false =>
      rw [if_neg aN]
      exact rH hp hk hs f ((l+r) / 2+1) r (by lia) (by lia) (by lia) (fun i h1=>im (hs i ((l+r) / 2) (by lia) (by lia)) (show O.kle _ _ from hless)) hhi h
theorem EJ {Q:Array Nat->Prop}:∀ (f:Nat) (p:Array Nat) (k:Nat),gr n p->k+f=n->sA O key p k->(∀ p',gr n p'->sA O key p' n->Q p')->fg O key n (kas_bin f p k) Q
 | 0,p,k,hp,hf,hs,h=>h p hp ((show k=n by lia)▸hs)
 | f+1,p,k,hp,hf,hs,h=>by
   unfold kas_bin
   refine fg.bind (rH hp (by lia) hs k 0 k (by lia) (aw _) (by lia) (fun i hi=>by lia) (fun i h1 h2=>by lia) fun l hl hlo hhi=>?_)
   refine EJ f _ (k+1) (hp.bub _ _) (by lia) (fun i j hij hj=>?_) h
   have hks:k<p.size:=by rw [hp.size];lia
   rw [uN hks (by lia),uN hks (by lia),show k-(k-l)=l by lia]
   repeat' split
   all_goals first
    | (exfalso;lia)
    | exact eA _
    | exact hlo _ (by lia)
    | exact hW (hhi _ (by lia) (by lia))
    | exact hs _ _ (by lia) (by lia)
theorem vH {Q:Array Nat->Prop} (h1:1<=n) (h:∀ p,gr n p->sA O key p n->Q p):fg O key n (kas_sort n) Q:=by
 unfold kas_sort
 refine fg.bind (CC ⟨Array.Perm.refl _⟩ h1 fun k p hp a1 a2 a3=>?_)
 dsimp only
 by_cases hk:k<n
 ·rw [if_pos hk]
  rw [show max k 1=k by lia]
  exact EJ (n-k) p k hp (by lia) a3 h
 ·rw [if_neg hk]
  have:k=n:=by lia
  subst this
  exact h p hp a3
end Ry
namespace Ry
open PySem PySem.W PyProof.Rows
noncomputable abbrev OkN {α:Type} (ts:List α):Prop:=ts.length<64\/(ts.length<=63/\ts.Nodup)
theorem OkN.inj {α:Type} {ts:List α} (h:OkN ts) (d:α):ts.length<64\/(ts.length<=63/\∀ i j,i<ts.length->j<ts.length->ts.getD i d=ts.getD j d->i=j) :=
 h.imp id fun ⟨h1,h2⟩=>⟨h1,fun i j hi hj e=>by
  rw [av,aj hi,av,aj hj] at e
  exact (iD h2).mp e⟩
section
variable {prog:bC} {w:cf} {A:bL} {E:ae->ai->Prop} {s:ai} {O:fI} {κ:iH} {key:Nat->O.α} {ks vs:List ae}
theorem wR (hl:ks.length=vs.length) (h2:2<=vs.length) (h64:vs.length<64\/(vs.length<=63/\∀ i j,i<vs.length->j<vs.length->key i=key j->i=j))
 (lt:∀ i j (C:Bool->ai->Prop),i<vs.length->j<vs.length->C (O.blt (key i) (key j)) s->kas_ask prog w A κ ks i j C s) :
 aM (bg prog w) A ((sortRuns').run (pZ κ (ks.toArray.zip vs.toArray) #[] 7 none)) (fun r s'=>s'=s/\∃ p:Array Nat,Ct r.2=p.map (kas_item (ks.toArray.zip vs.toArray))/\vo r.2=none/\gr vs.length p/\sA O key p vs.length) E s:=by
 by_cases hs:vs.length<64
 ·exact kat_run (Q:=fun st' s'=>s'=s/\∃ p:Array Nat,Ct st'=p.map (kas_item (ks.toArray.zip vs.toArray))/\vo st'=none/\gr vs.length p/\sA O key p vs.length) hl h2 hs
   (G:=fun p s'=>s'=s/\gr vs.length p/\sA O key p vs.length) (fun p st' s' _ a b c=>⟨c.1,p,a,b,c.2⟩) (fg.wp (O:=O) (key:=key) (n:=vs.length) lt (vH (by lia) fun p hp hu=>⟨rfl,hp,hu⟩))
 ·have:=h64.resolve_left hs
  lia
end
end Ry
namespace Ry
open PySem PySem.Spec PyProof.Rows L2
noncomputable abbrev St:=L2.St
inductive Da where
 | non | bl (b:Bool) | int (i:Int) | str (x:bM) | tup (ds:List Da) | lst (ds:List Da) | dK (ks:List Key) (ds:List Da) | dT (ks:List (List Key)) (ds:List Da)
mutual
noncomputable def Den (K:ac) (G:Hp):Da->V->Prop
 | .non,v=>v=.non
 | .bl b,v=>v=.bl b
 | .int i,v=>v=.int i
 | .str x,v=>v=.str x
 | .tup ds,v=>∃ a xs,v=.ref a/\G a=some (.tup xs)/\cS K G ds xs
 | .lst ds,v=>∃ a xs,v=.ref a/\SqL K G a xs/\cS K G ds xs
 | .dK ks ds,v=>∃ a o kvs,v=.ref a/\G a=some (.frz o (.dK kvs))/\kvs.map (·.1)=ks/\cS K G ds (kvs.map (·.2))
 | .dT ks ds,v=>∃ a o kvs,v=.ref a/\G a=some (.frz o (.dT kvs))/\kvs.map (·.1)=ks/\cS K G ds (kvs.map (·.2))
noncomputable def cS (K:ac) (G:Hp):List Da->List V->Prop
 | [],xs=>xs=[]
 | d::ds,xs=>∃ x r,xs=x::r/\Den K G d x/\cS K G ds r
end
theorem HB {H H':Hp} {a:ak} {u:HO} (e:cW H H') (h:Rd H a u):Rd H' a u:=by
 rcases h with h | ⟨o,h⟩
 ·exact .inl (e _ _ h)
 ·exact .inr ⟨o,e _ _ h⟩
mutual
theorem Den.mono {K:ac} {G G':Hp} (e:cW G G'):∀ (d:Da) {v:V},Den K G d v->Den K G' d v
 | .non,_,h=>h
 | .bl _,_,h=>h
 | .int _,_,h=>h
 | .str _,_,h=>h
 | .tup ds,_,h=>by obtain ⟨a,xs,rfl,q,r⟩:=h;exact ⟨a,xs,rfl,e _ _ q,cS.mono e ds r⟩
 | .lst ds,_,h=>by obtain ⟨a,xs,rfl,q,r⟩:=h;exact ⟨a,xs,rfl,e.seq q,cS.mono e ds r⟩
 | .dK ks ds,_,h=>by obtain ⟨a,o,kvs,rfl,q,k,r⟩:=h;exact ⟨a,o,kvs,rfl,e _ _ q,k,cS.mono e ds r⟩
 | .dT ks ds,_,h=>by obtain ⟨a,o,kvs,rfl,q,k,r⟩:=h;exact ⟨a,o,kvs,rfl,e _ _ q,k,cS.mono e ds r⟩
theorem cS.mono {K:ac} {G G':Hp} (e:cW G G'):∀ (ds:List Da) {xs:List V},cS K G ds xs->cS K G' ds xs
 | [],_,h=>h
 | d::ds,_,h=>by obtain ⟨x,r,rfl,h1,h2⟩:=h;exact ⟨x,r,rfl,Den.mono e d h1,cS.mono e ds h2⟩
end
section
variable {K:ac} {G:Hp}
theorem cS.length:∀ {ds:List Da} {xs:List V},cS K G ds xs->xs.length=ds.length
 | [],_,h=>by cases (show _=_ from h);rfl
 | d::ds,_,h=>by obtain ⟨x,r,rfl,_,h2⟩:=h;rw [aI,aI,cS.length h2]
theorem cS.get:∀ {ds:List Da} {xs:List V} {i:Nat} {d:Da},cS K G ds xs->ds[i]?=some d->∃ x,xs[i]?=some x/\Den K G d x
 | [],_,_,_,_,e=>by simp at e
 | d::ds,_,0,_,h,e=>by obtain ⟨x,r,rfl,h1,_⟩:=h;simp at e;subst e;exact ⟨x,rfl,h1⟩
 | d::ds,_,i+1,_,h,e=>by obtain ⟨x,r,rfl,_,h2⟩:=h;simpa using cS.get (i:=i) h2 (by simpa using e)
theorem cS.of_get:∀ {ds:List Da} {xs:List V} {i:Nat} {x:V},cS K G ds xs->xs[i]?=some x->∃ d,ds[i]?=some d/\Den K G d x
 | [],_,_,_,h,e=>by cases (show _=_ from h);simp at e
 | d::ds,_,0,_,h,e=>by obtain ⟨x,r,rfl,h1,_⟩:=h;simp at e;subst e;exact ⟨d,rfl,h1⟩
 | d::ds,_,i+1,_,h,e=>by obtain ⟨x,r,rfl,_,h2⟩:=h;simpa using cS.of_get (i:=i) h2 (by simpa using e)
theorem cS.append:∀ {ds es:List Da} {xs ys:List V},cS K G ds xs->cS K G es ys->cS K G (ds++es) (xs++ys)
 | [],_,_,_,h,h'=>by cases (show _=_ from h);exact h'
 | d::ds,_,_,_,h,h'=>by obtain ⟨x,r,rfl,h1,h2⟩:=h;exact ⟨x,_,rfl,h1,cS.append h2 h'⟩
theorem cS.one {d:Da} {x:V} (h:Den K G d x):cS K G [d] [x]:=⟨x,[],rfl,h,rfl⟩
theorem cS.two {d e:Da} {x y:V} (h:Den K G d x) (h':Den K G e y):cS K G [d,e] [x,y]:=⟨x,[y],rfl,h,cS.one h'⟩
theorem cS.drop:∀ {ds:List Da} {xs:List V} (n:Nat),cS K G ds xs->cS K G (ds.drop n) (xs.drop n)
 | _,_,0,h=>h
 | [],_,_+1,h=>by cases (show _=_ from h);rfl
 | d::ds,_,n+1,h=>by obtain ⟨x,r,rfl,_,h2⟩:=h;exact cS.drop n h2
theorem cS.take:∀ {ds:List Da} {xs:List V} (n:Nat),cS K G ds xs->cS K G (ds.take n) (xs.take n)
 | _,_,0,_=>rfl
 | [],_,_+1,h=>by cases (show _=_ from h);rfl
 | d::ds,_,n+1,h=>by obtain ⟨x,r,rfl,h1,h2⟩:=h;exact ⟨x,_,rfl,h1,cS.take n h2⟩
theorem cS.ints:∀ {ns:List Int} {xs:List V},cS K G (ns.map Da.int) xs↔xs=ns.map V.int
 | [],_=>Iff.rfl
 | n::ns,xs=>by
   constructor
   ·rintro ⟨x,r,rfl,h1,h2⟩
    cases (show _=_ from h1)
    rw [cS.ints.mp h2];rfl
   ·intro e
    subst e
    exact ⟨_,_,rfl,rfl,cS.ints.mpr rfl⟩
end
inductive Kd where
 | pu | bo | fr
 deriving DecidableEq
noncomputable abbrev Rv:=Kd×Da
noncomputable def Holds (K:ac) (G:Hp):Da->HO->Prop
 | .lst ds,o=>∃ xs,o=.lst xs/\cS K G ds xs
 | .dK ks ds,o=>∃ kvs,o=.dK kvs/\kvs.map (·.1)=ks/\cS K G ds (kvs.map (·.2))
 | .dT ks ds,o=>∃ kvs,o=.dT kvs/\kvs.map (·.1)=ks/\cS K G ds (kvs.map (·.2))
 | _,_=>False
theorem Holds.mono {K:ac} {G G':Hp} (e:cW G G') {d:Da} {o:HO} (h:Holds K G d o):Holds K G' d o:=by
 cases d with
 | lst ds=>obtain ⟨xs,rfl,r⟩:=h;exact ⟨xs,rfl,cS.mono e ds r⟩
 | dK ks ds=>obtain ⟨kvs,rfl,k,r⟩:=h;exact ⟨kvs,rfl,k,cS.mono e ds r⟩
 | dT ks ds=>obtain ⟨kvs,rfl,k,r⟩:=h;exact ⟨kvs,rfl,k,cS.mono e ds r⟩
 | _=>exact cm h
noncomputable def nN:Da->Bool
 | .dK _ _=>true
 | .dT _ _=>true
 | _=>false
theorem Holds.den {K:ac} {G:Hp} {d:Da} {o:HO} {l:ak} (e:G l=some o) (h:Holds K G d o) (nd:nN d=false):Den K G d (.ref l):=by
 cases d with
 | lst ds=>obtain ⟨xs,rfl,r⟩:=h;exact ⟨l,xs,rfl,SqL.of e,r⟩
 | dK ks ds=>cases nd
 | dT ks ds=>cases nd
 | _=>exact cm h
noncomputable def fj:Kd×Da->Bool
 | (.pu,_)=>true
 | (.bo,_)=>false
 | (.fr,d)=>!nN d
noncomputable def isT:HO->Bool
 | .tup _=>true
 | _=>false
theorem Holds.nt {K:ac} {G:Hp} {d:Da} {o:HO} (h:Holds K G d o):isT o=false:=by
 cases d with
 | lst ds=>obtain ⟨xs,rfl,_⟩:=h;rfl
 | dK ks ds=>obtain ⟨xs,rfl,_⟩:=h;rfl
 | dT ks ds=>obtain ⟨xs,rfl,_⟩:=h;rfl
 | _=>exact cm h
structure Ext (G H G' H':Hp):Prop where
 hh:cW H H'
 gg:cW G G'
 gh:cW G' H'
 nw:∀ b o,H b=some o->isT o=false->G b=none->G' b=none
theorem Ext.refl {G H:Hp} (h:cW G H):Ext G H G H:=⟨cW.refl _,cW.refl _,h,fun _ _ _ _ n=>n⟩
theorem Ext.trans {G H G1 H1 G2 H2:Hp} (a:Ext G H G1 H1) (b:Ext G1 H1 G2 H2):Ext G H G2 H2 :=
 ⟨a.hh.trans b.hh,a.gg.trans b.gg,b.gh,fun c o e t n=>b.nw c o (a.hh c o e) t (a.nw c o e t n)⟩
theorem cA {G:Hp} {l:ak} {o:HO} (h:G l=none):cW G (upd G l o):=fun b u e=>by rw [bq (cb e h)];exact e
theorem kK {G H:Hp} {l:ak} {o:HO} (h:cW G H):cW (upd G l o) (upd H l o):=fun b u e=>by
 by_cases hb:b=l
 ·subst hb;rw [aV] at e ⊢;exact e
 ·rw [bq hb] at e ⊢;exact h b u e
theorem Ext.new {G H:Hp} {l:ak} {o:HO} (h:cW G H) (n:H l=none):Ext G H (upd G l o) (upd H l o) :=
 ⟨cA n,cA (h.free n),kK h,fun b u e _ g=>by rw [bq (cb e n)];exact g⟩
theorem Ext.own {G H:Hp} {l:ak} {o:HO} (h:cW G H) (n:H l=none):Ext G H G (upd H l o) :=
 ⟨cA n,cW.refl _,h.trans (cA n),fun _ _ _ _ g=>g⟩
noncomputable def h8 (K:ac) (B H0 G H:Hp):Rv->V->Prop
 | (.pu,d),v=>Den K G d v
 | (.bo,d),v=>∃ l o,v=.ref l/\B l=none/\G l=none/\H l=some o/\Holds K G d o
 | (.fr,d),v=>∃ l o,v=.ref l/\H0 l=none/\G l=none/\H l=some o/\Holds K G d o
section
variable {K:ac} {B H0 H1 G H G' H':Hp} {r:Rv} {v:V}
theorem h8.ext (h:h8 K B H0 G H r v) (e:Ext G H G' H'):h8 K B H0 G' H' r v:=by
 obtain ⟨k,d⟩:=r
 cases k with
 | pu=>exact Den.mono e.gg d h
 | bo=>obtain ⟨l,o,rfl,b,g,q,r⟩:=h;exact ⟨l,o,rfl,b,e.nw _ _ q r.nt g,e.hh _ _ q,r.mono e.gg⟩
 | fr=>obtain ⟨l,o,rfl,n,g,q,r⟩:=h;exact ⟨l,o,rfl,n,e.nw _ _ q r.nt g,e.hh _ _ q,r.mono e.gg⟩
theorem h8.base (h:h8 K B H1 G H r v) (e:cW H0 H1):h8 K B H0 G H r v:=by
 obtain ⟨k,d⟩:=r
 cases k with
 | pu=>exact h
 | bo=>exact h
 | fr=>obtain ⟨l,o,rfl,n,g,q,r⟩:=h;exact ⟨l,o,rfl,e.free n,g,q,r⟩
theorem h8.den (s:cW G H) (h:h8 K B H0 G H r v) (nd:nN r.2=false):Den K H r.2 v:=by
 obtain ⟨k,d⟩:=r
 cases k with
 | pu=>exact Den.mono s d h
 | bo=>obtain ⟨l,o,rfl,_,_,q,r⟩:=h;exact (r.mono s).den q nd
 | fr=>obtain ⟨l,o,rfl,_,_,q,r⟩:=h;exact (r.mono s).den q nd
theorem h8.pure {G0:Hp} (e:Ext G0 H0 G H) (h:h8 K B H0 G H r v) (k:fj r=true):∃ G',Ext G0 H0 G' H/\cW G G'/\Den K G' r.2 v:=by
 obtain ⟨kd,d⟩:=r
 cases kd with
 | pu=>exact ⟨G,e,cW.refl _,h⟩
 | bo=>cases k
 | fr =>
   have nd:nN d=false:=by simpa [fj] using k
   obtain ⟨l,o,rfl,n,g,q,r⟩:=h
   refine ⟨upd G l o,⟨e.hh,e.gg.trans (cA g),fun b u z=>?_,fun b u z t w=>?_⟩,cA g,(r.mono (cA g)).den aV nd⟩
   ·by_cases hb:b=l
    ·subst hb;rw [aV] at z;rw [<- z];exact q
    ·rw [bq hb] at z;exact e.gh b u z
   ·rw [bq (cb z n)];exact e.nw b u z t w
theorem h8.pureB {G0:Hp} (sb:cW B H0) (e:Ext G0 B G H) (h:h8 K B H0 G H r v) (nd:r.1=.pu\/nN r.2=false):∃ G',Ext G0 B G' H/\cW G G'/\Den K G' r.2 v:=by
 obtain ⟨kd,d⟩:=r
 have go:nN d=false->∀ (l:ak) (o:HO),v=.ref l->B l=none->H l=some o->Holds K G d o->∃ G',Ext G0 B G' H/\cW G G'/\Den K G' d v:=fun nd l o ev n q r=>by
  subst ev
  cases g:G l with
  | some o' =>
    have:=e.gh l o' g
    rw [q] at this;cases this
    exact ⟨G,e,cW.refl _,r.den g nd⟩
  | none =>
    refine ⟨upd G l o,⟨e.hh,e.gg.trans (cA g),fun b u z=>?_,fun b u z t w=>?_⟩,cA g,(r.mono (cA g)).den aV nd⟩
    ·by_cases hb:b=l
     ·subst hb;rw [aV] at z;rw [<- z];exact q
     ·rw [bq hb] at z;exact e.gh b u z
    ·rw [bq (cb z n)];exact e.nw b u z t w
 cases kd with
 | pu=>exact ⟨G,e,cW.refl _,h⟩
 | bo=>obtain ⟨l,o,ev,n,_,q,r⟩:=h;exact go (nd.resolve_left (by intro z;cases z)) l o ev n q r
 | fr=>obtain ⟨l,o,ev,n,_,q,r⟩:=h;exact go (nd.resolve_left (by intro z;cases z)) l o ev (sb.free n) q r
theorem h8.non {k:Kd} (h:h8 K B H0 G H (k,.non) v):v=.non:=by
 cases k with
 | pu=>exact h
 | bo=>obtain ⟨_,_,_,_,_,_,r⟩:=h;exact cm r
 | fr=>obtain ⟨_,_,_,_,_,_,r⟩:=h;exact cm r
theorem h8.bl {k:Kd} {b:Bool} (h:h8 K B H0 G H (k,.bl b) v):v=.bl b:=by
 cases k with
 | pu=>exact h
 | bo=>obtain ⟨_,_,_,_,_,_,r⟩:=h;exact cm r
 | fr=>obtain ⟨_,_,_,_,_,_,r⟩:=h;exact cm r
theorem h8.int {k:Kd} {i:Int} (h:h8 K B H0 G H (k,.int i) v):v=.int i:=by
 cases k with
 | pu=>exact h
 | bo=>obtain ⟨_,_,_,_,_,_,r⟩:=h;exact cm r
 | fr=>obtain ⟨_,_,_,_,_,_,r⟩:=h;exact cm r
theorem h8.str {k:Kd} {x:bM} (h:h8 K B H0 G H (k,.str x) v):v=.str x:=by
 cases k with
 | pu=>exact h
 | bo=>obtain ⟨_,_,_,_,_,_,r⟩:=h;exact cm r
 | fr=>obtain ⟨_,_,_,_,_,_,r⟩:=h;exact cm r
theorem h8.tup {k:Kd} {ds:List Da} (s:cW G H) (h:h8 K B H0 G H (k,.tup ds) v):∃ a xs,v=.ref a/\H a=some (.tup xs)/\cS K G ds xs/\G a=some (.tup xs):=by
 cases k with
 | pu=>obtain ⟨a,xs,rfl,q,r⟩:=h;exact ⟨a,xs,rfl,s _ _ q,r,q⟩
 | bo=>obtain ⟨_,_,_,_,_,_,r⟩:=h;exact cm r
 | fr=>obtain ⟨_,_,_,_,_,_,r⟩:=h;exact cm r
theorem h8.lst {k:Kd} {ds:List Da} (s:cW G H) (h:h8 K B H0 G H (k,.lst ds) v):∃ a xs,v=.ref a/\SqL K H a xs/\cS K G ds xs:=by
 cases k with
 | pu=>obtain ⟨a,xs,rfl,q,r⟩:=h;exact ⟨a,xs,rfl,s.seq q,r⟩
 | bo=>obtain ⟨l,o,rfl,_,_,q,xs,rfl,r⟩:=h;exact ⟨l,xs,rfl,SqL.of q,r⟩
 | fr=>obtain ⟨l,o,rfl,_,_,q,xs,rfl,r⟩:=h;exact ⟨l,xs,rfl,SqL.of q,r⟩
theorem h8.dK {k:Kd} {ks:List Key} {ds:List Da} (s:cW G H) (h:h8 K B H0 G H (k,.dK ks ds) v):∃ a kvs,v=.ref a/\Rd H a (.dK kvs)/\kvs.map (·.1)=ks/\cS K G ds (kvs.map (·.2)):=by
 cases k with
 | pu=>obtain ⟨a,o,kvs,rfl,q,e,r⟩:=h;exact ⟨a,kvs,rfl,.inr ⟨o,s _ _ q⟩,e,r⟩
 | bo=>obtain ⟨l,o,rfl,_,_,q,kvs,rfl,e,r⟩:=h;exact ⟨l,kvs,rfl,.inl q,e,r⟩
 | fr=>obtain ⟨l,o,rfl,_,_,q,kvs,rfl,e,r⟩:=h;exact ⟨l,kvs,rfl,.inl q,e,r⟩
theorem h8.dT {k:Kd} {ks:List (List Key)} {ds:List Da} (s:cW G H) (h:h8 K B H0 G H (k,.dT ks ds) v):∃ a kvs,v=.ref a/\Rd H a (.dT kvs)/\kvs.map (·.1)=ks/\cS K G ds (kvs.map (·.2)):=by
 cases k with
 | pu=>obtain ⟨a,o,kvs,rfl,q,e,r⟩:=h;exact ⟨a,kvs,rfl,.inr ⟨o,s _ _ q⟩,e,r⟩
 | bo=>obtain ⟨l,o,rfl,_,_,q,kvs,rfl,e,r⟩:=h;exact ⟨l,kvs,rfl,.inl q,e,r⟩
 | fr=>obtain ⟨l,o,rfl,_,_,q,kvs,rfl,e,r⟩:=h;exact ⟨l,kvs,rfl,.inl q,e,r⟩
end
inductive Sl where
 | no | pu (d:Da) | ow (d:Da)
noncomputable abbrev Rho:=List Sl
noncomputable def Kz:List bM:=["upwards","heads","_law_turns"]
noncomputable def KZ (e:ak×dz):Option (ak×bM):=match e.2.data with
 | .fields vs=>(match (vs.toList[1]?:Option ae),(vs.toList[11]?:Option ae) with
   | some (.str q _),some (.ref P)=>if Kz.contains q then some (P,q++".<locals>."++"<lambda>") else none
   | _,_=>none)
 | _=>none
noncomputable def iB (K:ac):List (ak×bM):=K.filterMap KZ
noncomputable def Tbs (K:ac) (G:Hp):Prop:=∀ e∈iB K,G e.1=some (.tab e.2)
theorem Tbs.mono {K:ac} {G G':Hp} (h:Tbs K G) (s:cW G G'):Tbs K G':=fun e he=>s _ _ (h e he)
structure iK (K:ac) (B G H:Hp) (σ:St) (ρ:Rho):Prop where
 len:σ.length=ρ.length
 pu:∀ (i:Nat) (d:Da),ρ[i]?=some (.pu d)->∃ v,σ[i]?=some (some v)/\Den K G d v
 ow:∀ (i:Nat) (d:Da),ρ[i]?=some (.ow d)->∃ l o,σ[i]?=some (some (.ref l))/\B l=none/\G l=none/\H l=some o/\Holds K G d o
 ap:∀ (i j:Nat) (d d':Da) (l:ak),i≠j->ρ[i]?=some (.ow d)->ρ[j]?=some (.ow d')->σ[i]?=some (some (.ref l))->σ[j]?=some (some (.ref l))->False
 tg:Tbs K G
section
variable {K:ac} {B G H G' H':Hp} {σ:St} {ρ:Rho}
theorem iK.ext (h:iK K B G H σ ρ) (e:Ext G H G' H'):iK K B G' H' σ ρ :=
 ⟨h.len,fun i d q=>let ⟨v,a,b⟩:=h.pu i d q;⟨v,a,Den.mono e.gg d b⟩,fun i d q=>let ⟨l,o,a,b,c,f,g⟩:=h.ow i d q;⟨l,o,a,b,e.nw _ _ f g.nt c,e.hh _ _ f,g.mono e.gg⟩,h.ap,h.tg.mono e.gg⟩
theorem iK.setPu {i:Nat} {d:Da} {v:V} (h:iK K B G H σ ρ) (r:Den K G d v):iK K B G H (σ.set i (some v)) (ρ.set i (.pu d)):=by
 refine ⟨by rw [bX,bX,h.len],fun j d' q=>?_,fun j d' q=>?_,fun j k d1 d2 l hjk q1 q2 s1 s2=>?_,h.tg⟩
 ·by_cases e:i=j
  ·subst e
   have hi:i<ρ.length:=by
    have:=(aF.mp q).1;rwa [bX] at this
   rw [ba hi] at q
   cases q
   exact ⟨v,ba (by rw [h.len];exact hi),r⟩
  ·rw [bb e] at q ⊢;exact h.pu j d' q
 ·by_cases e:i=j
  ·subst e
   have hi:i<ρ.length:=by
    have:=(aF.mp q).1;rwa [bX] at this
   rw [ba hi] at q
   cases q
  ·rw [bb e] at q ⊢;exact h.ow j d' q
 ·have nij:∀ m d',(ρ.set i (.pu d))[m]?=some (.ow d')->i≠m:=fun m d' q e=>by
   subst e
   have hi:i<ρ.length:=by
    have:=(aF.mp q).1;rwa [bX] at this
   rw [ba hi] at q;cases q
  have n1:=nij _ _ q1
  have n2:=nij _ _ q2
  rw [bb n1] at q1 s1
  rw [bb n2] at q2 s2
  exact h.ap j k d1 d2 l hjk q1 q2 s1 s2
theorem iK.setOw {i:Nat} {d:Da} {l:ak} {o:HO} (h:iK K B G H σ ρ) (nb:B l=none) (ng:G l=none) (q:H l=some o) (r:Holds K G d o)
 (fresh:∀ (j:Nat) (d':Da),j≠i->ρ[j]?=some (.ow d')->σ[j]?≠some (some (.ref l))):iK K B G H (σ.set i (some (.ref l))) (ρ.set i (.ow d)):=by
 refine ⟨by rw [bX,bX,h.len],fun j d' q=>?_,fun j d' q'=>?_,fun j k d1 d2 l' hjk q1 q2 s1 s2=>?_,h.tg⟩
 ·by_cases e:i=j
  ·subst e
   have hi:i<ρ.length:=by
    have:=(aF.mp q).1;rwa [bX] at this
   rw [ba hi] at q;cases q
  ·rw [bb e] at q ⊢;exact h.pu j d' q
 ·by_cases e:i=j
  ·subst e
   have hi:i<ρ.length:=by
    have:=(aF.mp q').1;rwa [bX] at this
   rw [ba hi] at q'
   cases q'
   exact ⟨l,o,ba (by rw [h.len];exact hi),nb,ng,q,r⟩
  ·rw [bb e] at q' ⊢;exact h.ow j d' q'
 ·by_cases e1:i=j
  ·subst e1
   have hi:i<ρ.length:=by
    have:=(aF.mp q1).1;rwa [bX] at this
   rw [ba (by rw [h.len];exact hi)] at s1
   cases s1
   rw [bb hjk] at q2 s2
   exact fresh k d2 (Ne.symm hjk) q2 s2
  ·by_cases e2:i=k
   ·subst e2
    have hi:i<ρ.length:=by
     have:=(aF.mp q2).1;rwa [bX] at this
    rw [ba (by rw [h.len];exact hi)] at s2
    cases s2
    rw [bb e1] at q1 s1
    exact fresh j d1 (Ne.symm e1) q1 s1
   ·rw [bb e1] at q1 s1
    rw [bb e2] at q2 s2
    exact h.ap j k d1 d2 l' hjk q1 q2 s1 s2
theorem iK.mut {i:Nat} {d d':Da} {l:ak} {o':HO} (h:iK K B G H σ ρ) (e:ρ[i]?=some (.ow d)) (s:σ[i]?=some (some (.ref l))) (r:Holds K G d' o'):iK K B G (upd H l o') σ (ρ.set i (.ow d')):=by
 have hi:i<ρ.length:=(aF.mp e).1
 refine ⟨by rw [bX,h.len],fun j d1 q=>?_,fun j d1 q=>?_,fun j k d1 d2 l' hjk q1 q2 s1 s2=>?_,h.tg⟩
 ·by_cases ej:i=j
  ·subst ej;rw [ba hi] at q;cases q
  ·rw [bb ej] at q;exact h.pu j d1 q
 ·by_cases ej:i=j
  ·subst ej
   rw [ba hi] at q;cases q
   obtain ⟨l0,o,a,b,c,f,g⟩:=h.ow i d e
   rw [s] at a;cases a
   exact ⟨l,o',s,b,c,aV,r⟩
  ·rw [bb ej] at q
   obtain ⟨l0,o,a,b,c,f,g⟩:=h.ow j d1 q
   refine ⟨l0,o,a,b,c,?_,g⟩
   have ne:l0≠l:=fun z=>by subst z;exact h.ap i j d d1 l0 ej e q s a
   rw [bq ne];exact f
 ·have back:∀ (m:Nat) (d0:Da),(ρ.set i (.ow d'))[m]?=some (Sl.ow d0)->∃ d1,ρ[m]?=some (Sl.ow d1):=fun m d0 q=>by
   by_cases em:i=m
   ·subst em;exact ⟨d,e⟩
   ·rw [bb em] at q;exact ⟨d0,q⟩
  obtain ⟨x1,y1⟩:=back _ _ q1
  obtain ⟨x2,y2⟩:=back _ _ q2
  exact h.ap j k x1 x2 l' hjk y1 y2 s1 s2
theorem lh {G H:Hp} {l:ak} {o:HO} (s:cW G H) (g:G l=none):cW G (upd H l o):=fun b u e=>by rw [bq (cb e g)];exact s b u e
theorem Ext.mut {G0 B G H:Hp} {l:ak} {o:HO} (e:Ext G0 B G H) (nb:B l=none) (ng:G l=none):Ext G0 B G (upd H l o) :=
 ⟨lh e.hh nb,e.gg,lh e.gh ng,e.nw⟩
noncomputable def frz (i:Nat) (ρ:Rho):Rho:=match ρ[i]? with
 | some (.ow (.lst ds))=>ρ.set i (.pu (.lst ds))
 | _=>ρ
theorem iK.frz {G0:Hp} (i:Nat) (e:Ext G0 B G H) (h:iK K B G H σ ρ):∃ G',Ext G0 B G' H/\cW G G'/\iK K B G' H σ (Ry.frz i ρ):=by
 unfold Ry.frz
 split
 ·rename_i ds q
  obtain ⟨l,o,a,nb,ng,f,g⟩:=h.ow i (.lst ds) q
  have hi:i<ρ.length:=(aF.mp q).1
  have sG:cW G (upd G l o):=cA ng
  refine ⟨upd G l o,⟨e.hh,e.gg.trans sG,fun b u z=>?_,fun b u z t w=>by rw [bq (cb z nb)];exact e.nw b u z t w⟩,sG,by rw [bX,h.len],fun j d1 q1=>?_,fun j d1 q1=>?_,fun j k d1 d2 l' hjk q1 q2 s1 s2=>?_,h.tg.mono sG⟩
  ·by_cases hb:b=l
   ·subst hb;rw [aV] at z;rw [<- z];exact f
   ·rw [bq hb] at z;exact e.gh b u z
  ·by_cases ej:i=j
   ·subst ej
    rw [ba hi] at q1;cases q1
    exact ⟨_,a,(g.mono sG).den aV rfl⟩
   ·rw [bb ej] at q1
    obtain ⟨v,x,y⟩:=h.pu j d1 q1
    exact ⟨v,x,Den.mono sG d1 y⟩
  ·by_cases ej:i=j
   ·subst ej;rw [ba hi] at q1;cases q1
   ·rw [bb ej] at q1
    obtain ⟨l0,o0,x,y,z,f0,g0⟩:=h.ow j d1 q1
    refine ⟨l0,o0,x,y,?_,f0,g0.mono sG⟩
    have ne:l0≠l:=fun w=>by subst w;exact h.ap i j (.lst ds) d1 l0 ej q q1 a x
    rw [bq ne];exact z
  ·have back:∀ (m:Nat) (d0:Da),(ρ.set i (.pu (.lst ds)))[m]?=some (Sl.ow d0)->ρ[m]?=some (Sl.ow d0):=fun m d0 q=>by
    by_cases em:i=m
    ·subst em;rw [ba hi] at q;cases q
    ·rw [bb em] at q;exact q
   exact h.ap j k d1 d2 l' hjk (back _ _ q1) (back _ _ q2) s1 s2
 ·exact ⟨G,e,cW.refl _,h⟩
end
noncomputable def tX (K:ac) (f:Rho->Option Rv):TE:=fun σ H Q=>∃ B G ρ r,cW G H/\cW B H/\iK K B G H σ ρ/\f ρ=some r/\∀ v G' H',Ext G H G' H'->h8 K B H G' H' r v->Q v H'
noncomputable abbrev PX (X:Cx) (e:aS) (f:Rho->Option Rv):Prop:=PE X e (tX X.K f)
noncomputable def tXT (K:ac) (f:Rho->Option Bool):TT:=fun σ H Q=>∃ B G ρ b,cW G H/\cW B H/\iK K B G H σ ρ/\f ρ=some b/\∀ G' H',Ext G H G' H'->Q b H'
noncomputable abbrev PXT (X:Cx) (e:aS) (f:Rho->Option Bool):Prop:=PT X e (tXT X.K f)
noncomputable abbrev PXW (X:Cx) (e:aS) (f:Rho->Option Bool):Prop:=PW X e (tXT X.K f)
noncomputable def fK (K:ac) (B H0 G H:Hp):List Rv->List V->Prop
 | [],vs=>vs=[]
 | r::rs,vs=>∃ v r',vs=v::r'/\h8 K B H0 G H r v/\fK K B H0 G H rs r'
noncomputable def tXA (K:ac) (f:Rho->Option (List Rv)):TA:=fun σ H Q=>∃ B G ρ rs,cW G H/\cW B H/\iK K B G H σ ρ/\f ρ=some rs/\∀ vs G' H',Ext G H G' H'->fK K B H G' H' rs vs->Q vs H'
noncomputable abbrev PXA (X:Cx) (es:List aS) (f:Rho->Option (List Rv)):Prop:=PA X es (tXA X.K f)
theorem PE.imp {X:Cx} {e:aS} {t t':TE} (h:PE X e t) (i:∀ σ H Q,t' σ H Q->t σ H Q):PE X e t':=fun pins s σ H Q I q=>h pins s σ H Q I (i σ H Q q)
theorem PT.imp {X:Cx} {e:aS} {t t':TT} (h:PT X e t) (i:∀ σ H Q,t' σ H Q->t σ H Q):PT X e t':=fun pins s σ H Q I q=>h pins s σ H Q I (i σ H Q q)
theorem PW.imp {X:Cx} {e:aS} {t t':TT} (h:PW X e t) (i:∀ σ H Q,t' σ H Q->t σ H Q):PW X e t':=fun wh pins s σ H Q I q=>h wh pins s σ H Q I (i σ H Q q)
theorem PA.imp {X:Cx} {es:List aS} {t t':TA} (h:PA X es t) (i:∀ σ H Q,t' σ H Q->t σ H Q):PA X es t':=fun pos pins s σ H Q I q=>h pos pins s σ H Q I (i σ H Q q)
theorem PS.imp {X:Cx} {st:cX} {t t':TS} (h:PS X st t) (i:∀ D σ H,t' D σ H->t D σ H):PS X st t':=fun pins s σ H D I q=>h pins s σ H D I (i D σ H q)
theorem PSs.imp {X:Cx} {st:List cX} {t t':TS} (h:PSs X st t) (i:∀ D σ H,t' D σ H->t D σ H):PSs X st t':=fun pins s σ H D I q=>h pins s σ H D I (i D σ H q)
section
variable {K:ac} {B H0 H1 G H G' H':Hp}
theorem fK.base:∀ {rs:List Rv} {vs:List V},fK K B H1 G H rs vs->cW H0 H1->fK K B H0 G H rs vs
 | [],_,h,_=>h
 | r::rs,_,h,e=>by obtain ⟨v,r',rfl,a,b⟩:=h;exact ⟨v,r',rfl,a.base e,fK.base b e⟩
noncomputable def kX:List Rv->Option (List Da)
 | []=>some []
 | r::rs=>if fj r=true then (kX rs).map (r.2::·) else none
theorem fK.pure {G0:Hp}:∀ {rs:List Rv} {vs:List V} {ds:List Da} {G:Hp},Ext G0 H0 G H->fK K B H0 G H rs vs->kX rs=some ds->∃ G',Ext G0 H0 G' H/\cW G G'/\cS K G' ds vs
 | [],_,_,G,e,h,q=>by cases (show _=_ from h);cases q;exact ⟨G,e,cW.refl _,rfl⟩
 | (k,d)::rs,_,ds,G,e,h,q=>by
   obtain ⟨v,r',rfl,a,b⟩:=h
   unfold kX at q
   by_cases hk:fj (k,d)=true
   case neg=>rw [if_neg hk] at q;cases q
   case pos =>
    rw [if_pos hk] at q
    cases q':kX rs with
    | none=>rw [q'] at q;cases q
    | some ds' =>
      rw [q'] at q
      cases q
      obtain ⟨G1,e1,s1,b1⟩:=fK.pure e b q'
      have go:∃ G',Ext G0 H0 G' H/\cW G1 G'/\Den K G' d v:=by
       cases k with
       | pu=>exact ⟨G1,e1,cW.refl _,Den.mono s1 d a⟩
       | bo=>cases hk
       | fr =>
         have nd:nN d=false:=by simpa [fj] using hk
         obtain ⟨l,o,rfl,n,g,qq,r⟩:=a
         cases g1:G1 l with
         | some o' =>
           have:=e1.gh l o' g1
           rw [qq] at this;cases this
           exact ⟨G1,e1,cW.refl _,(r.mono s1).den g1 nd⟩
         | none =>
           refine ⟨upd G1 l o,⟨e1.hh,e1.gg.trans (cA g1),fun b u z=>?_,fun b u z t w=>?_⟩,cA g1,(r.mono (s1.trans (cA g1))).den aV nd⟩
           ·by_cases hb:b=l
            ·subst hb;rw [aV] at z;rw [<- z];exact qq
            ·rw [bq hb] at z;exact e1.gh b u z
           ·rw [bq (cb z n)];exact e1.nw b u z t w
      obtain ⟨G2,e2,s2,a2⟩:=go
      exact ⟨G2,e2,s1.trans s2,v,r',rfl,a2,cS.mono s2 ds' b1⟩
end
section
variable {X:Cx}
noncomputable def aT (i:Nat):Rho->Option Rv:=fun ρ=>match ρ[i]? with
 | some (.pu d)=>some (.pu,d)
 | some (.ow d)=>some (.bo,d)
 | _=>none
theorem ki (i:Nat) {x:bM} {pos:ft} (hN:X.N[i]?=some x:=by rfl) (hv:Vis X.env.scope x:=by first | exact dX rfl | exact d9 (dX rfl) | exact d9 (d9 rfl)) (hd:(x == ("__debug__" : bM))=false:=by decide)
 (hcd:(x == ("__classdict__" : bM))=false:=by decide):PX X (.Name x pos) (aT i):=by
 refine PE.imp (wQ hN hv hd hcd) fun σ H Q ⟨B,G,ρ,r,sg,sb,st,e,k⟩=>?_
 unfold aT at e
 split at e
 ·rename_i d q
  cases e
  obtain ⟨v,a,b⟩:=st.pu i d q
  exact ⟨v,a,k v G H (Ext.refl sg) b⟩
 ·rename_i d q
  cases e
  obtain ⟨l,o,a,nb,ng,f,g⟩:=st.ow i d q
  exact ⟨_,a,k _ G H (Ext.refl sg) ⟨l,o,rfl,nb,ng,f,g⟩⟩
 ·cases e
noncomputable def xC (d:Da):Rho->Option Rv:=fun _=>some (.pu,d)
theorem tW {i j pos}:PX X (.Constant (.int i) j pos) (xC (.int i)):=PE.imp Iq fun σ H Q ⟨B,G,ρ,r,sg,sb,st,e,k⟩=>by cases e;exact k _ G H (Ext.refl sg) rfl
theorem Lu {b j pos}:PX X (.Constant (.bool b) j pos) (xC (.bl b)):=PE.imp Bq fun σ H Q ⟨B,G,ρ,r,sg,sb,st,e,k⟩=>by cases e;exact k _ G H (Ext.refl sg) rfl
noncomputable def x2 (op:Rv->Rv->Option Rv) (fa fb:Rho->Option Rv):Rho->Option Rv:=fun ρ=>match fa ρ with
 | none=>none
 | some a=>match fb ρ with
   | none=>none
   | some b=>op a b
noncomputable def Op2 (K:ac) (r:R2) (op:Rv->Rv->Option Rv):Prop:=∀ (B H0 G H:Hp) (a b c:Rv) (x y:V) (Q:VK),cW G H->h8 K B H0 G H a x->h8 K B H0 G H b y->op a b=some c ->
 (∀ v G' H',Ext G H G' H'->h8 K B H G' H' c v->Q v H')->r x y H Q
theorem KB {K:ac} {r:R2} {op:Rv->Rv->Option Rv} {fa fb:Rho->Option Rv} (h:Op2 K r op) {σ:St} {H:Hp} {Q:VK} (q:tX K (x2 op fa fb) σ H Q):tOp r (tX K fa) (tX K fb) σ H Q:=by
 obtain ⟨B,G,ρ,c,sg,sb,st,e,k⟩:=q
 unfold x2 at e
 split at e
 ·cases e
 ·rename_i a ea
  split at e
  ·cases e
  ·rename_i b eb
   refine ⟨B,G,ρ,a,sg,sb,st,ea,fun x G1 H1 E1 ra=>⟨B,G1,ρ,b,E1.gh,sb.trans E1.hh,st.ext E1,eb,fun y G2 H2 E2 rb=>?_⟩⟩
   exact h B H G2 H2 a b c x y _ E2.gh (ra.ext E2) (rb.base E1.hh) e fun v G3 H3 E3 rc=>k v G3 H3 ((E1.trans E2).trans E3) (rc.base (E1.hh.trans E2.hh))
theorem CZ {a b:aS} {pos:ft} {o:Operator} {r:R2} {op:Rv->Rv->Option Rv} {fa fb:Rho->Option Rv} (ho:OpR X (jd o) r) (h:Op2 X.K r op) (ha:PX X a fa) (hb:PX X b fb):PX X (.BinOp a o b pos) (x2 op fa fb) :=
 PE.imp (LE ho ha hb) fun _ _ _ q=>KB h q
theorem Ke {a b:aS} {pos:ft} {o:p6} {r:R2} {op:Rv->Rv->Option Rv} {fa fb:Rho->Option Rv} (ho:OpR X (d7 o) r) (h:Op2 X.K r op) (ha:PX X a fa) (hb:PX X b fb) (hm:eV o b=false):PX X (.Compare a [o] [b] pos) (x2 op fa fb) :=
 PE.imp (FD ho ha hb hm) fun _ _ _ q=>KB h q
theorem Op2.or {K:ac} {r r':R2} {op op':Rv->Rv->Option Rv} (h:Op2 K r op) (h':Op2 K r' op'):Op2 K (fun x y H Q=>r x y H Q\/r' x y H Q) (fun a b=>(op a b).or (op' a b)):=by
 intro B H0 G H a b c x y Q sg ra rb e k
 dsimp only at e
 cases q:op a b with
 | some z=>rw [q] at e;exact .inl (h B H0 G H a b c x y Q sg ra rb (by rw [q];exact e) k)
 | none=>rw [q] at e;exact .inr (h' B H0 G H a b c x y Q sg ra rb e k)
end
noncomputable def oI (c:Int->Int->Bool) (g:Int->Int->Int):Rv->Rv->Option Rv
 | (_,.int i),(_,.int j)=>if c i j=true then some (.pu,.int (g i j)) else none
 | _,_=>none
theorem BG {K:ac} {C:Int->Int->Prop} {c:Int->Int->Bool} {g:Int->Int->Int} (h:∀ i j,c i j=true->C i j):Op2 K (rI C fun i j=>.int (g i j)) (oI c g):=by
 rintro B H0 G H ⟨ka,a⟩ ⟨kb,b⟩ r x y Q sg ra rb e k
 cases a with
 | int i =>
   cases b with
   | int j =>
     have e:(if c i j=true then some ((Kd.pu,Da.int (g i j)):Rv) else none)=some r:=e
     split at e
     ·rename_i hc
      cases e
      cases ra.int;cases rb.int
      exact ⟨i,j,rfl,rfl,h i j hc,k _ G H (Ext.refl sg) rfl⟩
     ·cases e
   | _=>cases e
 | _=>cases e
theorem wG {K:ac} {g:Int->Int->Int}:Op2 K (rI0 fun i j=>.int (g i j)) (oI (fun _ _=>true) g):=by
 rintro B H0 G H ⟨ka,a⟩ ⟨kb,b⟩ r x y Q sg ra rb e k
 cases a with
 | int i =>
   cases b with
   | int j =>
     cases e
     cases ra.int;cases rb.int
     exact ⟨i,j,rfl,rfl,k _ G H (Ext.refl sg) rfl⟩
   | _=>cases e
 | _=>cases e
noncomputable def oB (g:Int->Int->Bool):Rv->Rv->Option Rv
 | (_,.int i),(_,.int j)=>some (.pu,.bl (g i j))
 | _,_=>none
theorem FW {K:ac} {g:Int->Int->Bool}:Op2 K (rI0 fun i j=>.bl (g i j)) (oB g):=by
 rintro B H0 G H ⟨ka,a⟩ ⟨kb,b⟩ r x y Q sg ra rb e k
 cases a with
 | int i =>
   cases b with
   | int j =>
     cases e
     cases ra.int;cases rb.int
     exact ⟨i,j,rfl,rfl,k _ G H (Ext.refl sg) rfl⟩
   | _=>cases e
 | _=>cases e
noncomputable def Kl (K:ac):R2:=fun x y H Q=>∃ a b ys,x=.ref a/\y=.ref b/\SqT K H a []/\SqT K H b ys/\Q (.ref b) H
theorem GI {X:Cx}:OpR X (jd .Add) (Kl X.K):=by
 intro pins s σ H x y v u Q I rx ry h
 obtain ⟨a,b,ys,rfl,rfl,ha,hb,q⟩:=h
 cases rx
 cases ry
 obtain ⟨its,r1,p1,_⟩:=I.tuple ha
 obtain ⟨its2,r2,p2,_⟩:=I.tuple hb
 cases r1
 obtain ⟨⟨cls,dd,data,sl⟩,ho,hc,n,hd⟩:=id p1
 obtain ⟨⟨cls2,dd2,data2,sl2⟩,ho2,hc2,n2,hd2⟩:=id p2
 simp only at hc hd hc2 hd2
 subst hc hd hc2 hd2
 exact p9 ⟨_,ho,rfl⟩ ⟨_,ho2,rfl⟩ rA xW jU jw (jn _ _)
  (tuple_addW0 a b ([]:List ae).toArray its2.toArray n n2 dd dd2 sl sl2 (by simp)) ⟨ho,ho2,⟨.ref b,H,I,rfl,q⟩⟩
noncomputable def D4:Rv->Rv->Option Rv
 | (_,.tup xs),(_,.tup ys)=>if xs.length+ys.length<=1000000 then some (.pu,.tup (xs++ys)) else none
 | _,_=>none
theorem DF {K:ac}:Op2 K (fun x y H Q=>Il K x y H Q\/Kl K x y H Q) D4:=by
 rintro B H0 G H ⟨ka,a⟩ ⟨kb,b⟩ r x y Q sg ra rb e k
 cases a with
 | tup xs =>
   cases b with
   | tup ys =>
   have e:(if xs.length+ys.length<=1000000 then some ((Kd.pu,Da.tup (xs++ys)):Rv) else none)=some r:=e
   split at e
   ·rename_i hz
    cases e
    obtain ⟨p,vs,rfl,q1,d1,g1⟩:=ra.tup sg
    obtain ⟨p',ws,rfl,q2,d2,g2⟩:=rb.tup sg
    have l1:=d1.length
    have l2:=d2.length
    have hs:aK=16777216:=bG
    by_cases hv:vs=[]
    ·subst hv
     refine .inr ⟨p,p',ws,rfl,rfl,SqT.of q1,SqT.of q2,k _ G H (Ext.refl sg) ?_⟩
     have:xs=[]:=gY.mp (by rw [<- l1];rfl)
     subst this
     exact ⟨p',ws,rfl,g2,d2⟩
    ·refine .inl ⟨p,p',vs,ws,rfl,rfl,SqT.of q1,SqT.of q2,hv,by lia,fun hw=>?_,fun hw l hl=>?_⟩
     ·subst hw
      refine k _ G H (Ext.refl sg) ?_
      have:ys=[]:=gY.mp (by rw [<- l2];rfl)
      subst this
      rw [e8]
      exact ⟨p,vs,rfl,g1,d1⟩
     ·refine k _ _ _ (Ext.new sg hl) ⟨l,_,rfl,aV,?_⟩
      exact cS.mono (cA (sg.free hl)) _ (cS.append d1 d2)
   ·cases e
   | _=>cases e
 | _=>cases e
noncomputable def KI (K:ac):R2:=fun x y H Q=>∃ l b xs zs,x=.ref l/\y=.ref b/\SqL K H l xs/\SqL K H b zs/\xs.length+zs.length<=aK/\∀ p,H p=none->Q (.ref p) (upd H p (.lst (xs++zs)))
theorem FN {X:Cx}:OpR X (jd .Add) (KI X.K):=by
 intro pins s σ H x y v u Q I rx ry h
 obtain ⟨l,b,xs,zs,rfl,rfl,hH,hB,hz,q⟩:=h
 cases rx
 cases ry
 obtain ⟨its,r,⟨⟨cls,dd,data,sl⟩,n,ho,hc,hd,hs⟩,z⟩:=I.list hH
 obtain ⟨its2,r2,⟨⟨cls2,dd2,data2,sl2⟩,n2,ho2,hc2,hd2,hs2⟩,z2⟩:=I.list hB
 simp only at hc hs hc2 hs2
 subst hc hs hc2 hs2
 have l1:=r.length
 have l2:=r2.length
 have ea:its.toArray++its2.toArray=(its++its2).toArray:=by simp
 refine p9 ⟨_,ho,rfl⟩ ⟨_,ho2,rfl⟩ noFill_list_add seq_list_add PySem.F.slot_list_add PySem.F.entry_list_add (PySem.F.args_list_add_2 _ _) (list_addW l b its.toArray its2.toArray n n2 dd dd2 sl sl2 (by rw [aB,aB];lia)) ⟨ho,ho2,?_⟩
 rw [ea]
 exact ⟨.ref _,_,I.lnew (t':=s.toks) (r.append r2) (by rw [aO];lia),rfl,q _ I.fresh⟩
noncomputable def DX:Rv->Rv->Option Rv
 | (_,.lst xs),(_,.lst ys)=>if xs.length+ys.length<=1000000 then some (.fr,.lst (xs++ys)) else none
 | _,_=>none
theorem DV {K:ac}:Op2 K (KI K) DX:=by
 rintro B H0 G H ⟨ka,a⟩ ⟨kb,b⟩ r x y Q sg ra rb e k
 have hs:aK=16777216:=bG
 cases a with
 | lst xs =>
   cases b with
   | lst ys =>
   have e:(if xs.length+ys.length<=1000000 then some ((Kd.fr,Da.lst (xs++ys)):Rv) else none)=some r:=e
   split at e
   ·rename_i hz
    cases e
    obtain ⟨l1,vs,rfl,q1,d1⟩:=ra.lst sg
    obtain ⟨l2,ws,rfl,q2,d2⟩:=rb.lst sg
    have e1:=d1.length
    have e2:=d2.length
    refine ⟨l1,l2,vs,ws,rfl,rfl,q1,q2,by lia,fun p hp=>k _ G _ (Ext.own sg hp) ?_⟩
    exact ⟨p,_,rfl,hp,sg.free hp,aV,_,rfl,cS.append d1 d2⟩
   ·cases e
   | _=>cases e
 | _=>cases e
noncomputable def n8:Rv->Rv->Option Rv:=fun a b=>(oI (fun _ _=>true) (·+·) a b).or ((D4 a b).or (DX a b))
section
variable {X:Cx} {a b:aS} {pos:ft} {fa fb:Rho->Option Rv}
theorem EY (ha:PX X a fa) (hb:PX X b fb):PX X (.BinOp a .Add b pos) (x2 n8 fa fb) :=
 CZ (JV.or ((FL.or GI).or FN)) (wG.or (DF.or DV)) ha hb
theorem Jn (ha:PX X a fa) (hb:PX X b fb):PX X (.BinOp a .Sub b pos) (x2 (oI (fun _ _=>true) (·-·)) fa fb):=CZ JO wG ha hb
noncomputable def uv (i j:Int):Bool:=(decide (-(2 ^ 64)<i)&&decide (i<2 ^ 64))||(decide (-(2 ^ 64)<j)&&decide (j<2 ^ 64))
theorem FZ (i j:Int) (h:uv i j=true):KQ i j:=by
 unfold uv at h
 rcases iQ _ _▸h with h | h
 ·rw [aU] at h;exact .inl ⟨of_decide_eq_true h.1,of_decide_eq_true h.2⟩
 ·rw [aU] at h;exact .inr ⟨of_decide_eq_true h.1,of_decide_eq_true h.2⟩
theorem Fb (ha:PX X a fa) (hb:PX X b fb):PX X (.BinOp a .Mult b pos) (x2 (oI uv (·*·)) fa fb):=CZ J6 (BG FZ) ha hb
theorem JW (ha:PX X a fa) (hb:PX X b fb):PX X (.BinOp a .Mod b pos) (x2 (oI (fun _ j=>decide (0<j)) (·%·)) fa fb):=CZ J3 (BG fun _ _ h=>of_decide_eq_true h) ha hb
end
noncomputable def gK:List Da->Option (List Int)
 | []=>some []
 | .int i::r=>(gK r).map (i::·)
 | _=>none
theorem gO:∀ {ds:List Da} {ns:List Int},gK ds=some ns->ds=ns.map Da.int
 | [],ns,h=>by cases h;rfl
 | d::r,ns,h=>by
   cases d with
   | int i =>
     have h:(gK r).map (i::·)=some ns:=h
     cases q:gK r with
     | none=>rw [q] at h;cases h
     | some ms=>rw [q] at h;cases h;rw [gO q];rfl
   | _=>cases h
noncomputable def LX:Rv->Rv->Option Rv
 | (_,.tup xs),(_,.tup ys)=>match gK xs,gK ys with
   | some ns,some ms=>some (.pu,.bl (HT.lexLt ns ms))
   | _,_=>none
 | _,_=>none
theorem HQ {K:ac}:Op2 K (LY K) LX:=by
 rintro B H0 G H ⟨ka,a⟩ ⟨kb,b⟩ r x y Q sg ra rb e k
 cases a with
 | tup xs =>
   cases b with
   | tup ys =>
   have e:(match gK xs,gK ys with
    | some ns,some ms=>some ((Kd.pu,Da.bl (HT.lexLt ns ms)):Rv)
    | _,_=>none)=some r:=e
   split at e
   ·rename_i ns ms e1 e2
    cases e
    obtain ⟨p,vs,rfl,q1,d1,_⟩:=ra.tup sg
    obtain ⟨p',ws,rfl,q2,d2,_⟩:=rb.tup sg
    rw [gO e1] at d1
    rw [gO e2] at d2
    cases cS.ints.mp d1
    cases cS.ints.mp d2
    exact ⟨p,p',ns,ms,rfl,rfl,SqT.of q1,SqT.of q2,k _ G H (Ext.refl sg) rfl⟩
   ·cases e
   | _=>cases e
 | _=>cases e
noncomputable def oLt:Rv->Rv->Option Rv:=fun a b=>(oB (fun i j=>decide (i<j)) a b).or (LX a b)
mutual
noncomputable def toP:Da->PyData
 | .non=>.none
 | .bl b=>.bool b
 | .int i=>.int i
 | .str x=>.str x
 | .tup ds=>.tuple (gM ds)
 | .lst ds=>.list (gM ds)
 | .dK _ _=>.dict []
 | .dT _ _=>.dict []
noncomputable def gM:List Da->List PyData
 | []=>[]
 | d::ds=>toP d::gM ds
end
section
variable {X:Cx} {pins:List (ak×dz)} {σ:St} {H:Hp} {s:ai}
mutual
theorem g4 (I:Inv X pins σ H s):∀ (d:Da) (v:V) (u:ae),Den X.K H d v->gH v u->(toP d).canLay0=true->∃ as,Reads s.heap u (toP d) as
 | .non,v,u,h,r,_=>by cases (show v=_ from h);cases (show u=_ from r);exact ⟨_,.none⟩
 | .bl b,v,u,h,r,_=>by cases (show v=_ from h);cases (show u=_ from r);exact ⟨_,.bool b⟩
 | .int i,v,u,h,r,_=>by cases (show v=_ from h);obtain ⟨t,rfl⟩:=(show ∃ t,u=eZ i t from r);exact ⟨_,.int i t⟩
 | .str x,v,u,h,r,_=>by cases (show v=_ from h);obtain ⟨t,rfl⟩:=(show ∃ t,u=tu x t from r);exact ⟨_,.str x t⟩
 | .tup ds,v,u,h,r,c=>by
   obtain ⟨a,xs,rfl,q,dl⟩:=h
   cases (show u=bN a from r)
   obtain ⟨its,rv,⟨o,ho,hc,n,hd⟩,_⟩:=I.tuple (SqT.of q)
   obtain ⟨as,ra⟩:=readsAll_of I ds xs its dl rv (by simpa [toP,cD] using c)
   exact ⟨_,.tuple ho hc hd (by simpa using ra)⟩
 | .lst ds,v,u,h,r,c=>by
   obtain ⟨a,xs,rfl,q,dl⟩:=h
   cases (show u=bN a from r)
   obtain ⟨its,rv,pl,_⟩:=I.list q
   obtain ⟨o,ho,hc,n,hd⟩:=pl.isList
   obtain ⟨as,ra⟩:=readsAll_of I ds xs its dl rv (by simpa [toP,cD] using c)
   exact ⟨_,.list ho hc hd (by simpa using ra)⟩
 | .dK _ _,_,_,_,_,c=>by simp [toP,cD] at c
 | .dT _ _,_,_,_,_,c=>by simp [toP,cD] at c
theorem readsAll_of (I:Inv X pins σ H s):∀ (ds:List Da) (xs:List V) (us:List ae),cS X.K H ds xs->eG xs us->ce (gM ds)=true->∃ as,ReadsAll s.heap us (gM ds) as
 | [],xs,us,h,r,_=>by cases (show xs=_ from h);cases r;exact ⟨_,.nil⟩
 | d::ds,xs,us,h,r,c=>by
   obtain ⟨x,xr,rfl,h1,h2⟩:=h
   cases r with
   | cons r1 r2 =>
     have c':(toP d).canLay0=true/\ce (gM ds)=true:=by simpa [gM,ce] using c
     obtain ⟨as,a1⟩:=g4 I d _ _ h1 r1 c'.1
     obtain ⟨bs,a2⟩:=readsAll_of I ds _ _ h2 r2 c'.2
     exact ⟨_,.cons a1 a2⟩
end
end
noncomputable def Ay (d e:Da):Bool:=(toP d).canLay0&&(toP e).canLay0&&decide (min (toP d).depth (toP e).depth<=60)
noncomputable def eqD (d e:Da):Bool:=cG (toP d) (toP e)
noncomputable def LN (K:ac) (neg:Bool):R2:=fun x y H Q=>∃ d e,Den K H d x/\Den K H e y/\Ay d e=true/\Q (.bl (if neg then !eqD d e else eqD d e)) H
noncomputable def oEq (neg:Bool):Rv->Rv->Option Rv:=fun a b=>if Ay a.2 b.2=true then some (.pu,.bl (if neg then !eqD a.2 b.2 else eqD a.2 b.2)) else none
theorem xj {d:Da} (h:(toP d).canLay0=true):nN d=false:=by
 cases d<;>first | rfl | (simp [toP,cD] at h)
theorem Fe {K:ac} {neg:Bool}:Op2 K (LN K neg) (oEq neg):=by
 rintro B H0 G H a b r x y Q sg ra rb e k
 unfold oEq at e
 split at e
 ·rename_i h
  cases e
  have h2:=h
  unfold Ay at h2
  rw [aU,aU] at h2
  exact ⟨a.2,b.2,ra.den sg (xj h2.1.1),rb.den sg (xj h2.1.2),h,k _ G H (Ext.refl sg) rfl⟩
 ·cases e
theorem BE {d e:Da} (h:Ay d e=true):(toP d).canLay0=true/\(toP e).canLay0=true/\min (toP d).depth (toP e).depth<=60:=by
 unfold Ay at h
 rw [aU,aU] at h
 exact ⟨h.1.1,h.1.2,of_decide_eq_true h.2⟩
section
variable {X:Cx}
theorem Ie (hu:X.A.units+64<cr):OpR X (d7 .Eq) (LN X.K false):=by
 intro pins s σ H x y v u Q I rx ry h
 obtain ⟨d,e,hd,he,ok,q⟩:=h
 obtain ⟨c1,c2,c3⟩:=BE ok
 obtain ⟨as,r1⟩:=g4 I d x v hd rx c1
 obtain ⟨bs,r2⟩:=g4 I e y u he ry c2
 exact SeqAt.compareEq_reads r1 r2 c1 c2 (by lia) ⟨.bl _,H,I,rfl,q⟩
theorem Kf (hu:X.A.units+64<cr):OpR X (d7 .NotEq) (LN X.K true):=by
 intro pins s σ H x y v u Q I rx ry h
 obtain ⟨d,e,hd,he,ok,q⟩:=h
 obtain ⟨c1,c2,c3⟩:=BE ok
 obtain ⟨as,r1⟩:=g4 I d x v hd rx c1
 obtain ⟨bs,r2⟩:=g4 I e y u he ry c2
 exact SeqAt.compareNe_reads r1 r2 c1 c2 (by lia) ⟨.bl _,H,I,rfl,q⟩
end
noncomputable def A5 (d:Da) (ds:List Da):Bool:=(toP d).canLay0&&ce (gM ds)&&decide (min (bD (gM ds)) (toP d).depth<=60)
noncomputable def inD (d:Da) (ds:List Da):Bool:=(gM ds).any fun y=>cG y (toP d)
noncomputable def Ls (K:ac) (neg:Bool):R2:=fun x y H Q=>∃ d ds,Den K H d x/\(Den K H (.tup ds) y\/Den K H (.lst ds) y)/\A5 d ds=true/\Q (.bl (if neg then !inD d ds else inD d ds)) H
noncomputable def Gw (neg:Bool):Rv->Rv->Option Rv:=fun a b=>match b.2 with
 | .tup ds=>if A5 a.2 ds=true then some (.pu,.bl (if neg then !inD a.2 ds else inD a.2 ds)) else none
 | .lst ds=>if A5 a.2 ds=true then some (.pu,.bl (if neg then !inD a.2 ds else inD a.2 ds)) else none
 | _=>none
theorem AC {K:ac} {neg:Bool}:Op2 K (Ls K neg) (Gw neg):=by
 rintro B H0 G H a b r x y Q sg ra rb e k
 unfold Gw at e
 split at e
 ·rename_i ds eb
  split at e
  ·rename_i h
   cases e
   have db:=rb.den sg (by rw [eb];rfl)
   rw [eb] at db
   unfold A5 at h
   have h2:=h
   rw [aU,aU] at h2
   exact ⟨a.2,ds,ra.den sg (xj h2.1.1),.inl db,h,k _ G H (Ext.refl sg) rfl⟩
  ·cases e
 ·rename_i ds eb
  split at e
  ·rename_i h
   cases e
   have db:=rb.den sg (by rw [eb];rfl)
   rw [eb] at db
   unfold A5 at h
   have h2:=h
   rw [aU,aU] at h2
   exact ⟨a.2,ds,ra.den sg (xj h2.1.1),.inr db,h,k _ G H (Ext.refl sg) rfl⟩
  ·cases e
 ·cases e
section
variable {X:Cx}
theorem BY {d:Da} {ds:List Da} (h:A5 d ds=true):(toP d).canLay0=true/\ce (gM ds)=true/\min (bD (gM ds)) (toP d).depth<=60:=by
 unfold A5 at h
 rw [aU,aU] at h
 exact ⟨h.1.1,h.1.2,of_decide_eq_true h.2⟩
theorem J5 (hu:X.A.units+64<cr):OpR X (d7 .In) (Ls X.K false):=by
 intro pins s σ H x y v u Q I rx ry h
 obtain ⟨d,ds,hd,he,ok,q⟩:=h
 obtain ⟨c1,c2,c3⟩:=BY ok
 obtain ⟨as,r1⟩:=g4 I d x v hd rx c1
 rcases he with he | he
 ·obtain ⟨bs,r2⟩:=g4 I _ y u he ry (by simpa [toP,cD] using c2)
  exact SeqAt.in_tuple_reads (by simpa [toP] using r2) r1 c2 c1 (by lia) ⟨.bl _,H,I,rfl,q⟩
 ·obtain ⟨bs,r2⟩:=g4 I _ y u he ry (by simpa [toP,cD] using c2)
  exact SeqAt.in_list_reads (by simpa [toP] using r2) r1 c2 c1 (by lia) ⟨.bl _,H,I,rfl,q⟩
theorem FJ (hu:X.A.units+64<cr):OpR X (d7 .NotIn) (Ls X.K true):=by
 intro pins s σ H x y v u Q I rx ry h
 obtain ⟨d,ds,hd,he,ok,q⟩:=h
 obtain ⟨c1,c2,c3⟩:=BY ok
 obtain ⟨as,r1⟩:=g4 I d x v hd rx c1
 rcases he with he | he
 ·obtain ⟨bs,r2⟩:=g4 I _ y u he ry (by simpa [toP,cD] using c2)
  exact SeqAt.notIn_tuple_reads (by simpa [toP] using r2) r1 c2 c1 (by lia) ⟨.bl _,H,I,rfl,q⟩
 ·obtain ⟨bs,r2⟩:=g4 I _ y u he ry (by simpa [toP,cD] using c2)
  exact SeqAt.notIn_list_reads (by simpa [toP] using r2) r1 c2 c1 (by lia) ⟨.bl _,H,I,rfl,q⟩
end
noncomputable def E8:Da->Option Key
 | .int i=>some (.inl i)
 | .str x=>some (.inr x)
 | _=>none
noncomputable def mN:List Da->Option (List Key)
 | []=>some []
 | d::r=>match E8 d,mN r with
   | some k,some ks=>some (k::ks)
   | _,_=>none
noncomputable def jq:Key->Da
 | .inl i=>.int i
 | .inr x=>.str x
theorem BF {d:Da} {k:Key} (e:E8 d=some k):nN d=false:=by
 cases d<;>first | rfl | cases e
theorem Bg {K:ac} {G:Hp} {d:Da} {k:Key} {v:V} (e:E8 d=some k) (h:Den K G d v):v=kV k:=by
 cases d with
 | int i=>cases e;exact h
 | str x=>cases e;exact h
 | _=>cases e
theorem vY {K:ac} {G:Hp}:∀ {ds:List Da} {ks:List Key} {xs:List V},mN ds=some ks->cS K G ds xs->xs=ks.map kV
 | [],ks,xs,e,h=>by cases e;exact h
 | d::r,ks,xs,e,h=>by
   obtain ⟨x,xr,rfl,h1,h2⟩:=h
   unfold mN at e
   split at e
   ·rename_i k ks' e1 e2
    cases e
    rw [Bg e1 h1,vY e2 h2];rfl
   ·cases e
theorem uY {K:ac} {G:Hp} (k:Key):Den K G (jq k) (kV k):=by
 cases k<;>rfl
noncomputable def atK {κ:Type} [DecidableEq κ]:List κ->List Da->κ->Option Da
 | k::ks,d::ds,j=>if k=j then some d else atK ks ds j
 | _,_,_=>none
noncomputable def LZ (K:ac) (G:Hp) (ov:Option V):Option Da->Prop
 | some d=>∃ v,ov=some v/\Den K G d v
 | none=>ov=none
theorem vS {K:ac} {G:Hp} {κ:Type} [DecidableEq κ]:∀ {kvs:List (κ×V)} {ks:List κ} {ds:List Da} (j:κ),kvs.map (·.1)=ks->cS K G ds (kvs.map (·.2)) ->
 LZ K G (nV kvs j) (atK ks ds j)
 | [],ks,ds,j,e,h=>by
   subst e
   cases ds with
   | nil=>rfl
   | cons d ds=>obtain ⟨x,r,e,_⟩:=h;cases e
 | (k,v)::kvs,ks,ds,j,e,h=>by
   subst e
   cases ds with
   | nil=>cases (show (v::kvs.map (·.2))=[] from h)
   | cons d ds =>
     obtain ⟨x,r,ex,h1,h2⟩:=h
     injection ex with e1 e2
     subst e1;subst e2
     have ih:=vS (K:=K) (G:=G) (kvs:=kvs) (ks:=kvs.map (·.1)) (ds:=ds) j rfl h2
     by_cases hk:k=j
     ·have e1:atK (((k,v)::kvs).map (·.1)) (d::ds) j=some d:=by show (if k=j then some d else _)=_;rw [if_pos hk]
      rw [e1]
      exact ⟨v,j4 (p:=(k,v)) hk,h1⟩
     ·have e1:atK (((k,v)::kvs).map (·.1)) (d::ds) j=atK (kvs.map (·.1)) ds j:=by show (if k=j then some d else _)=_;rw [if_neg hk]
      rw [e1,jZ (p:=(k,v)) hk]
      exact ih
noncomputable def mv:Da->Da->Option (Option Da)
 | .dK ks ds,k=>match E8 k with
   | some j=>some (atK ks ds j)
   | none=>none
 | .dT ks ds,.tup es=>match mN es with
   | some j=>some (atK ks ds j)
   | none=>none
 | _,_=>none
theorem o4 {K:ac} {B H0 G H:Hp} {a b:Rv} {x y:V} {o:Option Da} (sg:cW G H) (ra:h8 K B H0 G H a x) (rb:h8 K B H0 G H b y) (e:mv a.2 b.2=some o) :
 ∃ p ov,x=.ref p/\sR H p y ov/\LZ K G ov o:=by
 obtain ⟨ka,a⟩:=a
 obtain ⟨kb,b⟩:=b
 cases a with
 | dK ks ds =>
   have e:(match E8 b with
    | some j=>some (atK ks ds j)
    | none=>none)=some o:=by cases b<;>exact e
   split at e
   ·rename_i j ej
    cases e
    obtain ⟨p,kvs,rfl,q,e1,r⟩:=ra.dK sg
    have ey:y=kV j:=Bg ej (rb.den sg (BF ej))
    refine ⟨p,nV kvs j,rfl,.inl ⟨kvs,j,q,ey,rfl⟩,?_⟩
    exact vS (K:=K) (G:=G) (ks:=ks) (ds:=ds) j e1 r
   ·cases e
 | dT ks ds =>
   cases b with
   | tup es =>
     have e:(match mN es with
      | some j=>some (atK ks ds j)
      | none=>none)=some o:=e
     split at e
     ·rename_i j ej
      cases e
      obtain ⟨p,kvs,rfl,q,e1,r⟩:=ra.dT sg
      obtain ⟨t,xs,rfl,qt,dl,_⟩:=rb.tup sg
      rw [vY ej dl] at qt
      refine ⟨p,nV kvs j,rfl,.inr ⟨kvs,j,t,q,rfl,qt,rfl⟩,?_⟩
      exact vS (K:=K) (G:=G) (ks:=ks) (ds:=ds) j e1 r
     ·cases e
   | _=>cases e
 | _=>cases e
noncomputable def Lz (neg:Bool):R2:=fun y x H Q=>∃ a o,x=.ref a/\sR H a y o/\Q (.bl (if neg then !o.isSome else o.isSome)) H
theorem Ja {X:Cx} (hu:X.A.units+1<cr):OpR X (d7 .In) (Lz false):=by
 intro pins s σ H y x v u Q I ry rx h
 obtain ⟨a,o,rfl,g,q⟩:=h
 cases rx
 exact LW hu I g ry fun s' I'=>⟨.bl _,H,I',rfl,q⟩
theorem G9 {X:Cx} (hu:X.A.units+1<cr):OpR X (d7 .NotIn) (Lz true):=by
 intro pins s σ H y x v u Q I ry rx h
 obtain ⟨a,o,rfl,g,q⟩:=h
 cases rx
 exact Aa hu I g ry fun s' I'=>⟨.bl _,H,I',rfl,q⟩
noncomputable def Aw (neg:Bool):Rv->Rv->Option Rv:=fun a b=>match mv b.2 a.2 with
 | some o=>some (.pu,.bl (if neg then !o.isSome else o.isSome))
 | none=>none
theorem zX {K:ac} {neg:Bool}:Op2 K (Lz neg) (Aw neg):=by
 rintro B H0 G H a b r x y Q sg ra rb e k
 unfold Aw at e
 split at e
 ·rename_i o eo
  cases e
  obtain ⟨p,ov,rfl,g,m⟩:=o4 sg rb ra eo
  have ei:ov.isSome=o.isSome:=by
   cases o with
   | some d=>obtain ⟨v,rfl,_⟩:=m;rfl
   | none=>cases m;rfl
  refine ⟨p,ov,rfl,g,?_⟩
  rw [ei]
  exact k _ G H (Ext.refl sg) rfl
 ·cases e
noncomputable def oIn (neg:Bool):Rv->Rv->Option Rv:=fun a b=>(Aw neg a b).or (Gw neg a b)
section
variable {X:Cx} {a b:aS} {pos:ft} {fa fb:Rho->Option Rv}
theorem B2 {K:ac} {G:Hp} {ds:List Da} {xs:List V} {i:Int} {d:Da} (h:cS K G ds xs) (e:atI ds i=some d):∃ v,atI xs i=some v/\Den K G d v:=by
 have hl:=h.length
 unfold atI at e ⊢
 rw [hl]
 cases q:ixN ds.length i with
 | none=>rw [q] at e;cases e
 | some j=>rw [q] at e;exact h.get e
noncomputable def oIx:Rv->Rv->Option Rv:=fun a b=>match a.2,b.2 with
 | .tup ds,.int i=>(atI ds i).map fun d=>(.pu,d)
 | .lst ds,.int i=>(atI ds i).map fun d=>(.pu,d)
 | _,_=>none
theorem KD {K:ac}:Op2 K (fun x y H Q=>K4 K x y H Q\/Ll K x y H Q\/Lj x y H Q) oIx:=by
 rintro B H0 G H ⟨ka,a⟩ ⟨kb,b⟩ r x y Q sg ra rb e k
 unfold oIx at e
 dsimp only at e
 split at e
 ·rename_i ds i
  cases q:atI ds i with
  | none=>rw [q] at e;cases e
  | some d =>
    rw [q] at e
    cases e
    obtain ⟨p,xs,rfl,q1,d1,_⟩:=ra.tup sg
    obtain ⟨v,hv,dv⟩:=B2 d1 q
    cases rb.int
    exact .inr (.inl ⟨p,xs,i,v,rfl,rfl,SqT.of q1,hv,k v G H (Ext.refl sg) dv⟩)
 ·rename_i ds i
  cases q:atI ds i with
  | none=>rw [q] at e;cases e
  | some d =>
    rw [q] at e
    cases e
    obtain ⟨p,xs,rfl,q1,d1⟩:=ra.lst sg
    obtain ⟨v,hv,dv⟩:=B2 d1 q
    cases rb.int
    exact .inl ⟨p,xs,i,v,rfl,rfl,q1,hv,k v G H (Ext.refl sg) dv⟩
 ·cases e
noncomputable def IW:R2:=fun x y H Q=>∃ a v,x=.ref a/\sR H a y (some v)/\Q v H
noncomputable def xE:Rv->Rv->Option Rv:=fun a b=>match mv a.2 b.2 with
 | some (some d)=>some (.pu,d)
 | _=>none
theorem Fj {K:ac}:Op2 K IW xE:=by
 rintro B H0 G H a b r x y Q sg ra rb e k
 unfold xE at e
 split at e
 ·rename_i d eo
  cases e
  obtain ⟨p,ov,rfl,g,v,rfl,dv⟩:=o4 sg ra rb eo
  exact ⟨p,v,rfl,g,k v G H (Ext.refl sg) dv⟩
 ·cases e
theorem KG {pos:ft} (ha:PX X a fa) (hb:PX X b fb) (hs:rP b:=by intro _ _;rfl):PX X (.Subscript a b pos) (x2 oIx fa fb):=PE.imp (K9 IR ha hb hs) fun _ _ _ q=>KB KD q
theorem Jt {pos:ft} (hu:X.A.units+1<cr) (ha:PX X a fa) (hb:PX X b fb) (hs:Lq b:=by intro _ _;rfl):PX X (.Subscript a b pos) (x2 xE fa fb) :=
 PE.imp (vP hu ha hb hs) fun σ H Q q=>by
  have:=KB (r:=IW) Fj q
  exact this
noncomputable def oIt:Rv->Rv->Option Rv:=fun a b=>(oIx a b).or (xE a b)
theorem ww {pos:ft} (hu:X.A.units+1<cr) (ha:PX X a fa) (hb:PX X b fb) (hs:rP b:=by intro _ _;rfl):PX X (.Subscript a b pos) (x2 oIt fa fb):=by
 intro pins s σ H Q I q
 obtain ⟨B,G,ρ,c,sg,sb,st,e,k⟩:=q
 have e0:=e
 unfold x2 at e
 split at e
 ·cases e
 ·rename_i ra ea
  split at e
  ·cases e
  ·rename_i rb eb
   unfold oIt at e
   cases z:oIx ra rb with
   | some z' =>
     rw [z] at e
     cases e
     exact KG ha hb hs pins s σ H Q I ⟨B,G,ρ,_,sg,sb,st,by unfold x2;rw [ea,eb];exact z,k⟩
   | none =>
     rw [z] at e
     exact Jt hu ha hb hs pins s σ H Q I ⟨B,G,ρ,c,sg,sb,st,by unfold x2;rw [ea,eb];exact e,k⟩
noncomputable def ck:Rho->Option (List Rv):=fun _=>some []
noncomputable def aL (f:Rho->Option Rv) (g:Rho->Option (List Rv)):Rho->Option (List Rv):=fun ρ=>match f ρ with
 | none=>none
 | some r=>match g ρ with
   | none=>none
   | some rs=>some (r::rs)
theorem nj:PXA X [] ck:=PA.imp kW fun σ H Q ⟨B,G,ρ,rs,sg,sb,st,e,k⟩=>by cases e;exact k [] G H (Ext.refl sg) rfl
noncomputable def nst:aS->Bool
 | .Starred ..=>false
 | _=>true
theorem bR {e:aS} {es:List aS} {env:p4} (h:nst e=true):am (e::es) env=(false,b9 e env)::am es env:=by
 cases e<;>first | rfl | cases h
theorem jl {e:aS} {es:List aS} {f:Rho->Option Rv} {g:Rho->Option (List Rv)} (ha:PX X e f) (hr:PXA X es g) (hs:am (e::es) X.env=(false,b9 e X.env)::am es X.env:=by exact bR rfl):PXA X (e::es) (aL f g) :=
 PA.imp (fX ha hr hs) fun σ H Q ⟨B,G,ρ,rs,sg,sb,st,eq,k⟩=>by
  unfold aL at eq
  split at eq
  ·cases eq
  ·rename_i r er
   split at eq
   ·cases eq
   ·rename_i rs' ers
    cases eq
    refine ⟨B,G,ρ,r,sg,sb,st,er,fun v G1 H1 E1 r1=>⟨B,G1,ρ,rs',E1.gh,sb.trans E1.hh,st.ext E1,ers,fun vs G2 H2 E2 r2=>?_⟩⟩
    exact k _ G2 H2 (E1.trans E2) ⟨v,vs,rfl,r1.ext E2,r2.base E1.hh⟩
noncomputable def mz (g:Rho->Option (List Rv)):Rho->Option Rv:=fun ρ=>match g ρ with
 | none=>none
 | some rs=>match kX rs with
   | none=>none
   | some ds=>if ds.length<=1000 then some (.pu,.tup ds) else none
theorem Jo {es:List aS} {x1:Nat} {pos:ft} {g:Rho->Option (List Rv)} (h:PXA X es g):PX X (.Tuple es x1 pos) (mz g) :=
 PE.imp (IA h) fun σ H Q ⟨B,G,ρ,r,sg,sb,st,e,k⟩=>by
  unfold mz at e
  split at e
  ·cases e
  ·rename_i rs er
   split at e
   ·cases e
   ·rename_i ds ed
    split at e
    ·rename_i hz
     cases e
     refine ⟨B,G,ρ,rs,sg,sb,st,er,fun vs G1 H1 E1 r1=>?_⟩
     obtain ⟨G2,E2,s12,d2⟩:=r1.pure E1 ed
     have hs:aK=16777216:=bG
     have hl:=d2.length
     refine ⟨by lia,fun p hp=>k _ _ _ (E2.trans (Ext.new E2.gh hp)) ⟨p,vs,rfl,aV,cS.mono (cA (E2.gh.free hp)) ds d2⟩⟩
    ·cases e
noncomputable def DQ (g:Rho->Option (List Rv)):Rho->Option Rv:=fun ρ=>match g ρ with
 | none=>none
 | some rs=>match kX rs with
   | none=>none
   | some ds=>if ds.length<=1000 then some (.fr,.lst ds) else none
theorem ID {es:List aS} {pos:ft} {g:Rho->Option (List Rv)} (h:PXA X es g):PX X (.List es pos) (DQ g) :=
 PE.imp (Km h) fun σ H Q ⟨B,G,ρ,r,sg,sb,st,e,k⟩=>by
  unfold DQ at e
  split at e
  ·cases e
  ·rename_i rs er
   split at e
   ·cases e
   ·rename_i ds ed
    split at e
    ·rename_i hz
     cases e
     refine ⟨B,G,ρ,rs,sg,sb,st,er,fun vs G1 H1 E1 r1=>?_⟩
     obtain ⟨G2,E2,s12,d2⟩:=r1.pure E1 ed
     have hs:aK=16777216:=bG
     have hl:=d2.length
     refine ⟨by lia,fun p hp=>k _ _ _ (E2.trans (Ext.own E2.gh hp)) ⟨p,_,rfl,E2.hh.free hp,E2.gh.free hp,aV,vs,rfl,d2⟩⟩
    ·cases e
noncomputable def xC2 (r:Rv):Rho->Option Rv:=fun _=>some r
theorem xD {pos:ft}:PX X (.Dict [] [] pos) (xC2 (.fr,.dK [] [])):=PE.imp mD fun σ H Q ⟨B,G,ρ,r,sg,sb,st,e,k⟩ p hp=>by
 cases e;exact k _ G _ (Ext.own sg hp) ⟨p,_,rfl,hp,sg.free hp,aV,[],rfl,rfl,rfl⟩
theorem Dh {pos:ft}:PX X (.Dict [] [] pos) (xC2 (.fr,.dT [] [])):=PE.imp DL fun σ H Q ⟨B,G,ρ,r,sg,sb,st,e,k⟩ p hp=>by
 cases e;exact k _ G _ (Ext.own sg hp) ⟨p,_,rfl,hp,sg.free hp,aV,[],rfl,rfl,rfl⟩
noncomputable def xB (f:List Rv->Option Rv) (g:Rho->Option (List Rv)):Rho->Option Rv:=fun ρ=>match g ρ with
 | none=>none
 | some rs=>f rs
noncomputable def Cal (K:ac) (r:List V->Hp->VK->Prop) (f:List Rv->Option Rv):Prop:=∀ (B H0 G H:Hp) (rs:List Rv) (c:Rv) (xs:List V) (Q:VK),cW G H->fK K B H0 G H rs xs->f rs=some c ->
 (∀ v G' H',Ext G H G' H'->h8 K B H G' H' c v->Q v H')->r xs H Q
theorem L1 {K:ac} {r:List V->Hp->VK->Prop} {f:List Rv->Option Rv} {g:Rho->Option (List Rv)} (h:Cal K r f) {σ:St} {H:Hp} {Q:VK} (q:tX K (xB f g) σ H Q):tCB r (tXA K g) σ H Q:=by
 obtain ⟨B,G,ρ,c,sg,sb,st,e,k⟩:=q
 unfold xB at e
 split at e
 ·cases e
 ·rename_i rs er
  refine ⟨B,G,ρ,rs,sg,sb,st,er,fun vs G1 H1 E1 r1=>h B H G1 H1 rs c vs _ E1.gh r1 e fun v G2 H2 E2 r2=>k v G2 H2 (E1.trans E2) (r2.base E1.hh)⟩
theorem EC {x:bM} {p pos:ft} {e:aS} {es:List aS} {id:String} {r:List V->Hp->VK->Prop} {f:List Rv->Option Rv} {g:Rho->Option (List Rv)} (hc:kY X (.builtin id) r) (h:Cal X.K r f) (hg:Gl X x) (hm:X.mg x=none) (hv:iE x=some (.builtin id)) (ha:PXA X (e::es) g)
 (hn:x≠"__name__":=by decide) (hdb:(x == ("__debug__" : bM))=false:=by decide) (he:am (e::es) X.env=(false,b9 e X.env)::am es X.env:=by exact bR rfl) (hpl:(cz pos (am es X.env)).any (·.1)=false:=by rfl) :
 PX X (.Call (.Name x p) (e::es) [] pos) (xB f g):=PE.imp (CU hc hg hm hv ha hn hdb he hpl) fun _ _ _ q=>L1 h q
theorem Kw {x:bM} {p pos:ft} {e:aS} {es:List aS} {T:String} {r:List V->Hp->VK->Prop} {f:List Rv->Option Rv} {g:Rho->Option (List Rv)} (hc:kY X (.type T) r) (h:Cal X.K r f) (hg:Gl X x) (hm:X.mg x=none) (hv:iE x=some (.type T)) (ha:PXA X (e::es) g)
 (hn:x≠"__name__":=by decide) (hdb:(x == ("__debug__" : bM))=false:=by decide) (he:am (e::es) X.env=(false,b9 e X.env)::am es X.env:=by exact bR rfl) (hpl:(cz pos (am es X.env)).any (·.1)=false:=by rfl) :
 PX X (.Call (.Name x p) (e::es) [] pos) (xB f g):=PE.imp (mC hc hg hm hv ha hn hdb he hpl) fun _ _ _ q=>L1 h q
theorem fK.one {K:ac} {B H0 G H:Hp} {r:Rv} {xs:List V} (h:fK K B H0 G H [r] xs):∃ v,xs=[v]/\h8 K B H0 G H r v:=by
 obtain ⟨v,r',rfl,h1,h2⟩:=h;cases (show r'=[] from h2);exact ⟨v,rfl,h1⟩
theorem fK.two {K:ac} {B H0 G H:Hp} {r r2:Rv} {xs:List V} (h:fK K B H0 G H [r,r2] xs):∃ v v2,xs=[v,v2]/\h8 K B H0 G H r v/\h8 K B H0 G H r2 v2:=by
 obtain ⟨v,r',rfl,h1,h2⟩:=h
 obtain ⟨v2,rfl,h3⟩:=fK.one h2
 exact ⟨v,v2,rfl,h1,h3⟩
noncomputable def sI:List Rv->Option Rv
 | [(_,.tup ds)]=>some (.pu,.int ds.length)
 | [(_,.lst ds)]=>some (.pu,.int ds.length)
 | _=>none
theorem HJ {K:ac}:Cal K (fun xs H Q=>∃ p ys,xs=[.ref p]/\(SqL K H p ys\/SqT K H p ys)/\Q (.int ys.length) H) sI:=by
 intro B H0 G H rs c xs Q sg ra e k
 unfold sI at e
 split at e
 ·cases e
  obtain ⟨v,rfl,h⟩:=fK.one ra
  obtain ⟨p,ys,rfl,q,d,_⟩:=h.tup sg
  exact ⟨p,ys,rfl,.inr (SqT.of q),by rw [d.length];exact k _ G H (Ext.refl sg) rfl⟩
 ·cases e
  obtain ⟨v,rfl,h⟩:=fK.one ra
  obtain ⟨p,ys,rfl,q,d⟩:=h.lst sg
  exact ⟨p,ys,rfl,.inl q,by rw [d.length];exact k _ G H (Ext.refl sg) rfl⟩
 ·cases e
noncomputable def hE:List Rv->Option Rv
 | [(_,.tup ds)]=>some (.pu,.tup ds)
 | [(_,.lst ds)]=>some (.pu,.tup ds)
 | _=>none
theorem zG {K:ac}:Cal K (fun xs H Q=>∃ p ys,xs=[.ref p]/\((SqL K H p ys/\∀ l,H l=none->Q (.ref l) (upd H l (.tup ys)))\/(SqT K H p ys/\Q (.ref p) H))) hE:=by
 intro B H0 G H rs c xs Q sg ra e k
 unfold hE at e
 split at e
 ·cases e
  obtain ⟨v,rfl,h⟩:=fK.one ra
  obtain ⟨p,ys,rfl,q,d,g⟩:=h.tup sg
  exact ⟨p,ys,rfl,.inr ⟨SqT.of q,k _ G H (Ext.refl sg) ⟨p,ys,rfl,g,d⟩⟩⟩
 ·cases e
  obtain ⟨v,rfl,h⟩:=fK.one ra
  obtain ⟨p,ys,rfl,q,d⟩:=h.lst sg
  exact ⟨p,ys,rfl,.inl ⟨q,fun l hl=>k _ _ _ (Ext.new sg hl) ⟨l,ys,rfl,aV,cS.mono (cA (sg.free hl)) _ d⟩⟩⟩
 ·cases e
noncomputable def oZ:List Rv->Option Rv
 | [(_,.tup ds)]=>some (.fr,.lst ds)
 | [(_,.lst ds)]=>some (.fr,.lst ds)
 | _=>none
theorem DW {K:ac}:Cal K (fun xs H Q=>∃ p ys,xs=[.ref p]/\(SqL K H p ys\/SqT K H p ys)/\∀ l,H l=none->Q (.ref l) (upd H l (.lst ys))) oZ:=by
 intro B H0 G H rs c xs Q sg ra e k
 unfold oZ at e
 split at e
 ·cases e
  obtain ⟨v,rfl,h⟩:=fK.one ra
  obtain ⟨p,ys,rfl,q,d,g⟩:=h.tup sg
  exact ⟨p,ys,rfl,.inr (SqT.of q),fun l hl=>k _ _ _ (Ext.own sg hl) ⟨l,_,rfl,hl,sg.free hl,aV,ys,rfl,d⟩⟩
 ·cases e
  obtain ⟨v,rfl,h⟩:=fK.one ra
  obtain ⟨p,ys,rfl,q,d⟩:=h.lst sg
  exact ⟨p,ys,rfl,.inl q,fun l hl=>k _ _ _ (Ext.own sg hl) ⟨l,_,rfl,hl,sg.free hl,aV,ys,rfl,d⟩⟩
 ·cases e
end
section
variable {X:Cx} {a b c:aS} {pos:ft} {fa fb fc:Rho->Option Rv}
noncomputable def tb (f:Rho->Option Rv):Rho->Option Bool:=fun ρ=>match f ρ with
 | some (_,.bl b)=>some b
 | _=>none
noncomputable def CR2 (X:Cx) (o:p6) (op:Rv->Rv->Option Rv):Prop:=∃ r,OpR X (d7 o) r/\Op2 X.K r op
theorem Mg {o:p6} {op:Rv->Rv->Option Rv} (h:CR2 X o op) (ha:PX X a fa) (hb:PX X b fb) (hm:eV o b=false:=by first | exact xn _ | with_unfolding_all rfl):PX X (.Compare a [o] [b] pos) (x2 op fa fb) :=
 let ⟨_,h1,h2⟩:=h;Ke h1 h2 ha hb hm
theorem LL {o:p6} {op:Rv->Rv->Option Rv} (h:CR2 X o op) (ha:PX X a fa) (hb:PX X b fb) (hm:eV o b=false:=by first | exact xn _ | with_unfolding_all rfl):PXT X (.Compare a [o] [b] pos) (tb (x2 op fa fb)):=by
 obtain ⟨r,h1,h2⟩:=h
 refine PT.imp (Hn h1 ha hb hm) fun σ H Q q=>?_
 obtain ⟨B,G,ρ,b,sg,sb,st,e,k⟩:=q
 unfold tb at e
 split at e
 ·rename_i kd b' q
  cases e
  exact KB h2 ⟨B,G,ρ,_,sg,sb,st,q,fun v G1 H1 E1 r1=>⟨b,r1.bl,k G1 H1 E1⟩⟩
 ·cases e
theorem LP (hu:X.A.units+64<cr):CR2 X .Lt oLt:=⟨_,K3.or (J1 (by lia)),FW.or HQ⟩
theorem Md (hu:X.A.units+64<cr):CR2 X .Eq (oEq false):=⟨_,Ie hu,Fe⟩
theorem HA (hu:X.A.units+64<cr):CR2 X .NotEq (oEq true):=⟨_,Kf hu,Fe⟩
theorem HI (hu:X.A.units+64<cr):CR2 X .In (oIn false):=⟨_,(Ja (by lia)).or (J5 hu),zX.or AC⟩
theorem Lr (hu:X.A.units+64<cr):CR2 X .NotIn (oIn true):=⟨_,(G9 (by lia)).or (FJ hu),zX.or AC⟩
noncomputable def oIs (neg:Bool):Rv->Rv->Option Rv
 | (_,.bl i),(_,.bl j)=>some (.pu,.bl (if neg then !(i == j) else i == j))
 | _,_=>none
noncomputable def JN (op op':Rv->Rv->Option Rv) (fa fb fc:Rho->Option Rv):Rho->Option Rv:=fun ρ=>match fa ρ,fb ρ with
 | some a,some b=>match op a b with
   | some (_,.bl true)=>match fc ρ with
     | some c=>op' b c
     | none=>none
   | some (_,.bl false)=>some (.pu,.bl false)
   | _=>none
 | _,_=>none
variable {ta tc:Rho->Option Bool} {rest:List aS}
noncomputable def yx (ta tc:Rho->Option Bool):Rho->Option Bool:=fun ρ=>match ta ρ with
 | some true=>tc ρ
 | some false=>some false
 | none=>none
noncomputable def HZ (ta tc:Rho->Option Bool):Rho->Option Bool:=fun ρ=>match ta ρ with
 | some true=>some true
 | some false=>tc ρ
 | none=>none
theorem Jd {K:ac} {σ:St} {H:Hp} {Q:Bool->Hp->Prop} (q:tXT K (yx ta tc) σ H Q):LU (tXT K ta) (tXT K tc) σ H Q:=by
 obtain ⟨B,G,ρ,r,sg,sb,st,e,k⟩:=q
 unfold yx at e
 split at e
 ·rename_i ea
  exact ⟨B,G,ρ,true,sg,sb,st,ea,fun G1 H1 E1=>by dsimp only;rw [if_pos rfl];exact ⟨B,G1,ρ,r,E1.gh,sb.trans E1.hh,st.ext E1,e,fun G2 H2 E2=>k G2 H2 (E1.trans E2)⟩⟩
 ·rename_i ea
  cases e
  exact ⟨B,G,ρ,false,sg,sb,st,ea,fun G1 H1 E1=>by dsimp only;rw [if_neg aN];exact k G1 H1 E1⟩
 ·cases e
theorem K5 {K:ac} {σ:St} {H:Hp} {Q:Bool->Hp->Prop} (q:tXT K (HZ ta tc) σ H Q):tOr (tXT K ta) (tXT K tc) σ H Q:=by
 obtain ⟨B,G,ρ,r,sg,sb,st,e,k⟩:=q
 unfold HZ at e
 split at e
 ·rename_i ea
  cases e
  exact ⟨B,G,ρ,true,sg,sb,st,ea,fun G1 H1 E1=>by dsimp only;rw [if_pos rfl];exact k G1 H1 E1⟩
 ·rename_i ea
  exact ⟨B,G,ρ,false,sg,sb,st,ea,fun G1 H1 E1=>by dsimp only;rw [if_neg aN];exact ⟨B,G1,ρ,r,E1.gh,sb.trans E1.hh,st.ext E1,e,fun G2 H2 E2=>k G2 H2 (E1.trans E2)⟩⟩
 ·cases e
theorem Dl (ha:PXT X a ta):PXW X (.BoolOp .And [a] pos) ta:=GA ha
theorem Gg (ha:PXT X a ta):PXW X (.BoolOp .Or [a] pos) ta:=Eu ha
theorem HH (ha:PXT X a ta) (hb:PXW X (.BoolOp .And (b::rest) pos) tc):PXW X (.BoolOp .And (a::b::rest) pos) (yx ta tc):=PW.imp (Kc ha hb) fun _ _ _ q=>Jd q
theorem Iz (ha:PXT X a ta) (hb:PXW X (.BoolOp .Or (b::rest) pos) tc):PXW X (.BoolOp .Or (a::b::rest) pos) (HZ ta tc):=PW.imp (Is ha hb) fun _ _ _ q=>K5 q
theorem LA {e:aS} (h:PXW X e ta):PXT X e ta:=h.pt
noncomputable def La (ta:Rho->Option Bool):Rho->Option Bool:=fun ρ=>(ta ρ).map (!·)
noncomputable def LR (fa fb:Rho->Option Rv):Rho->Option Rv:=fun ρ=>match fa ρ with
 | some (_,.bl true)=>fb ρ
 | some (_,.bl false)=>some (.pu,.bl false)
 | _=>none
noncomputable def xOr (fa fb:Rho->Option Rv):Rho->Option Rv:=fun ρ=>match fa ρ with
 | some (_,.bl true)=>some (.pu,.bl true)
 | some (_,.bl false)=>fb ρ
 | _=>none
noncomputable def LQ (fa:Rho->Option Rv):Rho->Option Rv:=fun ρ=>match fa ρ with
 | some (_,.bl b)=>some (.pu,.bl (!b))
 | _=>none
noncomputable def xIf (t:Rho->Option Bool) (fa fb:Rho->Option Rv):Rho->Option Rv:=fun ρ=>match t ρ with
 | some true=>fa ρ
 | some false=>fb ρ
 | none=>none
theorem K8 (hc:PXT X c ta) (ha:PX X a fa) (hb:PX X b fb):PX X (.IfExp c a b pos) (xIf ta fa fb):=PE.imp (Dt hc ha hb) fun σ H Q ⟨B,G,ρ,r,sg,sb,st,e,k⟩=>by
 unfold xIf at e
 split at e
 ·rename_i ea
  exact ⟨B,G,ρ,true,sg,sb,st,ea,fun G1 H1 E1=>by dsimp only;rw [if_pos rfl];exact ⟨B,G1,ρ,r,E1.gh,sb.trans E1.hh,st.ext E1,e,fun v2 G2 H2 E2 r2=>k v2 G2 H2 (E1.trans E2) (r2.base E1.hh)⟩⟩
 ·rename_i ea
  exact ⟨B,G,ρ,false,sg,sb,st,ea,fun G1 H1 E1=>by dsimp only;rw [if_neg aN];exact ⟨B,G1,ρ,r,E1.gh,sb.trans E1.hh,st.ext E1,e,fun v2 G2 H2 E2 r2=>k v2 G2 H2 (E1.trans E2) (r2.base E1.hh)⟩⟩
 ·cases e
noncomputable def trD:Da->Option Bool
 | .non=>some false
 | .bl b=>some b
 | .int i=>some (i != 0)
 | .tup ds=>some (!ds.isEmpty)
 | .lst ds=>some (!ds.isEmpty)
 | _=>none
noncomputable def tTr (f:Rho->Option Rv):Rho->Option Bool:=fun ρ=>match f ρ with
 | some r=>trD r.2
 | none=>none
theorem pK {α β:Type} {l:List α} {m:List β} (h:l.length=m.length):l.isEmpty=m.isEmpty:=by
 cases l<;>cases m<;>first | rfl | cases h
theorem IP (ha:PX X a fa) (he:∀ whole,isTrue a X.env whole=(do let v <- whole;u9 a.pos;va [v] (truthy v)):=by intro _;rfl):PXT X a (tTr fa):=PT.imp (Dc ha he) fun σ H Q ⟨B,G,ρ,b,sg,sb,st,e,k⟩=>by
 unfold tTr at e
 split at e
 ·rename_i r er
  obtain ⟨kd,d⟩:=r
  refine ⟨B,G,ρ,_,sg,sb,st,er,fun v G1 H1 E1 r1=>⟨b,?_,k G1 H1 E1⟩⟩
  cases d with
  | non=>cases e;cases r1.non;rfl
  | bl b=>cases e;cases r1.bl;rfl
  | int i=>cases e;cases r1.int;rfl
  | str x=>cases e
  | tup ds=>cases e;obtain ⟨p,xs,rfl,q,dl,_⟩:=r1.tup E1.gh;exact .inr (.inl ⟨xs,SqT.of q,by rw [pK dl.length]⟩)
  | lst ds=>cases e;obtain ⟨p,xs,rfl,q,dl⟩:=r1.lst E1.gh;exact .inl ⟨xs,q,by rw [pK dl.length]⟩
  | dK ks ds=>cases e
  | dT ks ds=>cases e
 ·cases e
end
noncomputable def spD (K:ac) (n:Nat) (fn:List Da->Option Da):Sp:=fun vs H Q _=>∃ G ds d,ds.length=n/\cW G H/\Tbs K G/\cS K G ds vs/\fn ds=some d/\∀ v G' H',Ext G H G' H'->Den K G' d v->Q v H'
noncomputable def cC (fn:List Da->Option Da) (g:Rho->Option (List Rv)):Rho->Option Rv:=fun ρ=>match g ρ with
 | none=>none
 | some rs=>match kX rs with
   | none=>none
   | some ds=>match fn ds with
     | none=>none
     | some d=>some (.pu,d)
theorem uL:∀ {rs:List Rv} {ds:List Da},kX rs=some ds->ds.length=rs.length
 | [],ds,h=>by cases h;rfl
 | (k,d)::rs,ds,h=>by
   unfold kX at h
   split at h
   ·cases q:kX rs with
    | none=>rw [q] at h;cases h
    | some ds'=>rw [q] at h;cases h;rw [aI,aI,uL q]
   ·cases h
theorem GZ {X:Cx} {k n:Nat} {f:ak} {fd:dG} {ps:List bM} {fn:List Da->Option Da} {x:bM} {p pos:ft} {e:aS} {es:List aS} {g:Rho->Option (List Rv)} (F:vF X.prog X.w X.K X.mg X.base CX0 k f fd ps (spD X.K n fn)) (hr:jf k X.A) (hg:Gl X x) (hm:X.mg x=some (.ref f))
 (hk:aY X.K (.ref f)=true) (hb:sr X.K fd ps []) (ha:PXA X (e::es) g) (hlen:∀ ρ rs,g ρ=some rs->rs.length=n) (hdb:(x == ("__debug__" : bM))=false:=by decide) (he:am (e::es) X.env=(false,b9 e X.env)::am es X.env:=by exact bR rfl)
 (hpl:(cz pos (am es X.env)).any (·.1)=false:=by rfl):PX X (.Call (.Name x p) (e::es) [] pos) (cC fn g) :=
 PE.imp (vB F hr hg hm hk hb .nil GY ha hdb he hpl) fun σ H Q ⟨B,G,ρ,r,sg,sb,st,e,kk⟩=>by
  unfold cC at e
  split at e
  ·cases e
  ·rename_i rs er
   split at e
   ·cases e
   ·rename_i ds ed
    split at e
    ·cases e
    ·rename_i d ef
     cases e
     refine ⟨B,G,ρ,rs,sg,sb,st,er,fun vs G1 H1 E1 r1=>?_⟩
     obtain ⟨G2,E2,s12,d2⟩:=r1.pure E1 ed
     refine ⟨G2,ds,d,by rw [uL ed];exact hlen ρ rs er,E2.gh,st.tg.mono E2.gg,by rw [e8];exact d2,ef,fun v G3 H3 E3 r3=>kk v G3 H3 (E2.trans E3) r3⟩
theorem cc:∀ ρ rs,ck ρ=some rs->rs.length=0:=fun _ _ h=>by cases h;rfl
theorem aR {n:Nat} {f:Rho->Option Rv} {g:Rho->Option (List Rv)} (h:∀ ρ rs,g ρ=some rs->rs.length=n):∀ ρ rs,aL f g ρ=some rs->rs.length=n+1:=fun ρ rs e=>by
 unfold aL at e
 split at e
 ·cases e
 ·split at e
  ·cases e
  ·rename_i rs' er
   cases e
   rw [aI,h ρ rs' er]
inductive Res where
 | nx (ρ:Rho) | rt (d:Da) | bk (ρ:Rho) | ct (ρ:Rho) | bad
noncomputable def EF (K:ac) (B G0 Gs:Hp) (D:FH):Res->Prop
 | .nx ρ=>∀ σ G H,Ext G0 B G H->cW Gs G->iK K B G H σ ρ->D.nx σ H
 | .rt d=>∀ v G H,Ext G0 B G H->cW Gs G->Den K G d v->D.rt v H
 | .bk ρ=>∀ σ G H,Ext G0 B G H->cW Gs G->iK K B G H σ ρ->D.bk σ H
 | .ct ρ=>∀ σ G H,Ext G0 B G H->cW Gs G->iK K B G H σ ρ->D.ct σ H
 | .bad=>False
theorem EF.mono {K:ac} {B G0 Gs Gt:Hp} {D:FH} {r:Res} (h:EF K B G0 Gs D r) (s:cW Gs Gt):EF K B G0 Gt D r:=by
 cases r with
 | nx ρ=>exact fun σ G H E t st=>h σ G H E (s.trans t) st
 | rt d=>exact fun v G H E t st=>h v G H E (s.trans t) st
 | bk ρ=>exact fun σ G H E t st=>h σ G H E (s.trans t) st
 | ct ρ=>exact fun σ G H E t st=>h σ G H E (s.trans t) st
 | bad=>exact h
noncomputable def tS (K:ac) (g:Rho->Res):TS:=fun D σ H=>∃ B G0 G ρ,Ext G0 B G H/\iK K B G H σ ρ/\EF K B G0 G D (g ρ)
noncomputable abbrev PXS (X:Cx) (st:cX) (g:Rho->Res):Prop:=PS X st (tS X.K g)
noncomputable abbrev xK (X:Cx) (st:List cX) (g:Rho->Res):Prop:=PSs X st (tS X.K g)
section
variable {X:Cx} {st:cX} {rest:List cX} {g h:Rho->Res} {pos pos':ft} {e:aS} {f:Rho->Option Rv}
noncomputable def m8:Rho->Res:=fun ρ=>.nx ρ
noncomputable def iP (g h:Rho->Res):Rho->Res:=fun ρ=>match g ρ with
 | .nx ρ'=>h ρ'
 | r=>r
theorem Gy:xK X [] m8:=PSs.imp sH fun D σ H ⟨B,G0,G,ρ,E,st,k⟩=>k σ G H E (cW.refl _) st
theorem CJ (h1:PXS X st g) (h2:xK X rest h):xK X (st::rest) (iP g h):=PSs.imp (gN h1 h2) fun D σ H ⟨B,G0,G,ρ,E,st,k⟩=>by
 refine ⟨B,G0,G,ρ,E,st,?_⟩
 unfold iP at k
 cases q:g ρ with
 | nx ρ'=>rw [q] at k;exact fun σ' G' H' E' s' st'=>⟨B,G0,G',ρ',E',st',k.mono s'⟩
 | rt d=>rw [q] at k;exact k
 | bk ρ'=>rw [q] at k;exact k
 | ct ρ'=>rw [q] at k;exact k
 | bad=>rw [q] at k;exact k
theorem FI (h1:PXS X st g):xK X [st] g:=iZ h1
noncomputable def L7 (f:Rho->Option Rv):Rho->Res:=fun ρ=>match f ρ with
 | some r=>if r.1=.pu\/nN r.2=false then .rt r.2 else .bad
 | none=>.bad
noncomputable def sIf (t:Rho->Option Bool) (g h:Rho->Res):Rho->Res:=fun ρ=>match t ρ with
 | some true=>g ρ
 | some false=>h ρ
 | none=>.bad
theorem Kv {c:aS} {a b:List cX} {t:Rho->Option Bool} (hc:PXT X c t) (ha:xK X a g) (hb:xK X b h):PXS X (.If c a b pos) (sIf t g h):=PS.imp (Dz hc ha hb) fun D σ H ⟨B,G0,G,ρ,E,st,k⟩=>by
 unfold sIf at k
 cases q:t ρ with
 | none=>rw [q] at k;exact k.elim
 | some b =>
   rw [q] at k
   refine ⟨B,G,ρ,b,E.gh,E.hh,st,q,fun G1 H1 E1=>?_⟩
   cases b with
   | true=>rw [if_pos rfl];exact ⟨B,G0,G1,ρ,E.trans E1,st.ext E1,k.mono E1.gg⟩
   | false=>rw [if_neg aN];exact ⟨B,G0,G1,ρ,E.trans E1,st.ext E1,k.mono E1.gg⟩
noncomputable def nv (i:Nat) (f:Rho->Option Rv):Rho->Res:=fun ρ=>match f ρ with
 | some r=>if fj r=true then .nx (ρ.set i (.pu r.2)) else .bad
 | none=>.bad
theorem FC {i:Nat} {x:bM} (hN:X.N.Nodup) (he:PX X e f) (hi:X.N[i]?=some x:=by rfl) (hx:Loc X.env.scope x:=by first | exact dX rfl | exact d9 rfl) (hs:gT e (some (.Name x pos')) pos.line X.env=pure false:=by rfl)
 (hf:X.fn x=true\/X.env.scope.names.lookup x=some .local:=by first | exact .inl rfl | exact .inr rfl | assumption):PXS X (.Assign [.Name x pos'] e pos) (nv i f) :=
 PS.imp (qZ hN hi hx he hs hf) fun D σ H ⟨B,G0,G,ρ,E,st,k⟩=>by
  unfold nv at k
  cases q:f ρ with
  | none=>rw [q] at k;exact k.elim
  | some r =>
    rw [q] at k
    dsimp only at k
    split at k
    ·rename_i hk
     refine ⟨B,G,ρ,r,E.gh,E.hh,st,q,fun v G1 H1 E1 r1=>?_⟩
     obtain ⟨G2,E2,_,d2⟩:=r1.pure E1 hk
     exact k _ G2 H1 (E.trans E2) E2.gg ((st.ext E2).setPu d2)
    ·exact k.elim
noncomputable def AN (i:Nat) (f:Rho->Option Rv):Rho->Res:=fun ρ=>match f ρ with
 | some (.fr,d)=>.nx (ρ.set i (.ow d))
 | _=>.bad
theorem Hu {i:Nat} {x:bM} (hN:X.N.Nodup) (he:PX X e f) (hi:X.N[i]?=some x:=by rfl) (hx:Loc X.env.scope x:=by first | exact dX rfl | exact d9 rfl) (hs:gT e (some (.Name x pos')) pos.line X.env=pure false:=by rfl)
 (hf:X.fn x=true\/X.env.scope.names.lookup x=some .local:=by first | exact .inl rfl | exact .inr rfl | assumption):PXS X (.Assign [.Name x pos'] e pos) (AN i f) :=
 PS.imp (qZ hN hi hx he hs hf) fun D σ H ⟨B,G0,G,ρ,E,st,k⟩=>by
  unfold AN at k
  split at k
  ·rename_i d q
   refine ⟨B,G,ρ,_,E.gh,E.hh,st,q,fun v G1 H1 E1 r1=>?_⟩
   obtain ⟨l,o,rfl,n,g,qh,r⟩:=r1
   refine k _ G1 H1 (E.trans E1) E1.gg ((st.ext E1).setOw (E.hh.free n) g qh r fun j d' hj ej z=>?_)
   obtain ⟨l',o',a,_,_,f',_⟩:=st.ow j d' ej
   rw [a] at z
   cases z
   rw [n] at f';cases f'
  ·exact k.elim
theorem Gk (i:Nat) (h1:PXS X st g):PXS X st (fun ρ=>g (frz i ρ)):=PS.imp h1 fun D σ H ⟨B,G0,G,ρ,E,st,k⟩=>by
 obtain ⟨G',E',s',st'⟩:=st.frz i E
 exact ⟨B,G0,G',_,E',st',k.mono s'⟩
noncomputable def Lx (f:Rho->Option Rv):Rho->Res:=fun ρ=>match f ρ with
 | some _=>.nx ρ
 | none=>.bad
noncomputable def lT (i:Nat) (f:Rho->Option Rv):Rho->Res:=fun ρ=>match ρ[i]?,f ρ with
 | some (.ow (.lst ds)),some r=>if fj r=true/\ds.length<=1000000 then .nx (ρ.set i (.ow (.lst (ds++[r.2])))) else .bad
 | _,_=>.bad
theorem yw {i:Nat} {x:bM} {p1 apos cpos:ft} (he:PX X e f) (hN:X.N[i]?=some x:=by rfl) (hv:Vis X.env.scope x:=by first | exact dX rfl | exact d9 (dX rfl) | exact d9 (d9 rfl)) (hd:(x == ("__debug__" : bM))=false:=by decide)
 (hcd:(x == ("__classdict__" : bM))=false:=by decide)
 (hs:gT (.Call (.Attribute (.Name x p1) "append" apos) [e] [] cpos) none pos.line X.env=pure false:=by rfl) (hbase:gv (.Name x p1) "append" X.env (b9 (.Name x p1) X.env)=b9 (.Name x p1) X.env:=by rfl)
 (hfew:((cz cpos (am [e] X.env)).all (fun x=>!x.1)&&(lw cpos (ik [] X.env)).all (fun x=>x.1.isSome)&&decide (([e]:List aS).length+([]:List jb).length+(if ([]:List jb).isEmpty then 0 else 1)<30))=true:=by rfl)
 (hline:(apos.endLine == cpos.line)=true:=by rfl) (hst:am [e] X.env=[(false,b9 e X.env)]:=by exact bR rfl) (hplain:(cz cpos (am [] X.env)).any (·.1)=false:=by rfl) :
 PXS X (.Expr (.Call (.Attribute (.Name x p1) "append" apos) [e] [] cpos) pos) (lT i f) :=
 PS.imp (Bb (Iw qy PySem.F.slot_list_append PySem.F.type_list_append tV (wQ hN hv hd hcd) (fX he kW hst) hbase hfew hline hst hplain) hs) fun D σ H ⟨B,G0,G,ρ,E,st,k⟩=>by
  unfold lT at k
  split at k
  ·rename_i ds r eo ef
   split at k
   ·rename_i hk
    obtain ⟨l,o,a,nb,ng,hl,xs,rfl,dl⟩:=st.ow i _ eo
    refine ⟨_,a,.inl ⟨rfl,xs,SqL.of hl⟩,B,G,ρ,_,E.gh,E.hh,st,ef,fun v G1 H1 E1 r1=>?_⟩
    obtain ⟨G2,E2,_,d2⟩:=r1.pure E1 hk.1
    have hs:aK=16777216:=bG
    have ln:=dl.length
    refine ⟨l,xs,v,rfl,rfl,E1.hh _ _ hl,by lia,?_⟩
    have st2:=st.ext E2
    have g2:G2 l=none:=E2.nw _ _ hl rfl ng
    exact k _ G2 _ ((E.trans E2).mut nb g2) E2.gg (st2.mut eo a ⟨_,rfl,cS.append (cS.mono E2.gg _ dl) (cS.one d2)⟩)
   ·exact k.elim
  ·exact k.elim
end
section
variable {X:Cx} {pins:List (ak×dz)} {σ:St} {H:Hp} {s:ai} {l:ak}
noncomputable def se (u:HO):Prop:=(∃ kvs,u=.dK kvs)\/∃ kvs,u=.dT kvs
theorem Dd {u:HO} (I:Inv X pins σ H s) (e:H l=some u) (hu:se u):∃ o,Inv X pins σ (upd H l (.frz o u)) s:=by
 have ok:=I.hok l u e
 obtain ⟨o,ho⟩:∃ o,s.heap.get? l=some o:=by
  rcases hu with ⟨kvs,rfl⟩ | ⟨kvs,rfl⟩
  ·obtain ⟨_,_,vs,_,o,_,_,q,_⟩:=ok;exact ⟨o,q⟩
  ·obtain ⟨_,_,xs,_,o,_,_,q,_⟩:=ok;exact ⟨o,q⟩
 have nn:∀ {b:ak},H b=none->b≠l:=fun n z=>by rw [z,e] at n;cases n
 have nt:∀ {b:ak} {w:HO},H b=some w->¬ se w->b≠l:=fun q n z=>by rw [z,e] at q;cases q;exact n hu
 have n1:∀ xs,¬ se (.tup xs):=fun xs z=>by rcases z with ⟨_,z⟩ | ⟨_,z⟩<;>cases z
 have n2:∀ ob w,¬ se (.frz ob w):=fun ob w z=>by rcases z with ⟨_,z⟩ | ⟨_,z⟩<;>cases z
 have n3:∀ ps,¬ se (.tbl ps):=fun ps z=>by rcases z with ⟨_,z⟩ | ⟨_,z⟩<;>cases z
 have n4:∀ y,¬ se (.own y):=fun y z=>by rcases z with ⟨_,z⟩ | ⟨_,z⟩<;>cases z
 refine ⟨o,I.ok,I.os,I.bare,⟨I.base.keep,I.base.slot,fun b ob q n hx=>?_,I.base.there,fun b xs q=>?_,fun b ob w q=>?_,fun b ps q=>?_⟩,I.loc,I.cell,?_,fun x c q=>?_,fun p hp=>?_,fun b v q=>?_,I.len⟩
 ·have z:=I.base.free b ob q n hx
  rw [bq (nn z)];exact z
 ·have z:=I.base.tups b xs q
  rw [bq (nt z (n1 xs))];exact z
 ·have z:=I.base.frzs b ob w q
  rw [bq (nt z (n2 ob w))];exact z
 ·obtain ⟨m,z⟩:=I.base.tbls b ps q
  exact ⟨m,by rw [bq (nt z (n3 _))];exact z⟩
 ·rw [bq (nn I.free)];exact I.free
 ·rw [bq (nn (I.freeC x c q))];exact I.freeC x c q
 ·obtain ⟨a,b,c⟩:=I.pin p hp
  exact ⟨a,by rw [bq (nn b)];exact b,c⟩
 ·have hown:∀ c y,H c=some (.own y)->upd H l (.frz o u) c=some (.own y):=fun c y z=>by rw [bq (nt z (n4 y))];exact z
  have htup:∀ c xs,H c=some (.tup xs)->upd H l (.frz o u) c=some (.tup xs):=fun c xs z=>by rw [bq (nt z (n1 xs))];exact z
  have hcod:∀ c x,H c=some (.cod x)->upd H l (.frz o u) c=some (.cod x):=fun c x z=>by rw [bq (nt z (fun y=>by rcases y with ⟨_,y⟩ | ⟨_,y⟩<;>cases y))];exact z
  by_cases hb:b=l
  ·subst hb
   rw [aV] at q
   cases q
   exact ⟨ho,ok.stay (fun _ _ _ z=>z) (fun c z=>hown c _ z) htup hcod⟩
  ·rw [bq hb] at q
   exact (I.hok b v q).stay (fun _ _ _ z=>z) (fun c z=>hown c _ z) htup hcod
end
noncomputable def ig (f:Rho->Option Rv):Rho->Option Rv:=fun ρ=>match f ρ with
 | some (.fr,d)=>some (.pu,d)
 | r=>r
theorem Holds.dct {K:ac} {G:Hp} {d:Da} {o:HO} (h:Holds K G d o) (nd:nN d=true):se o/\∀ (l:ak) (ob:dz),G l=some (.frz ob o)->Den K G d (.ref l):=by
 cases d with
 | dK ks ds=>obtain ⟨kvs,rfl,k,r⟩:=h;exact ⟨.inl ⟨kvs,rfl⟩,fun l ob e=>⟨l,ob,kvs,rfl,e,k,r⟩⟩
 | dT ks ds=>obtain ⟨kvs,rfl,k,r⟩:=h;exact ⟨.inr ⟨kvs,rfl⟩,fun l ob e=>⟨l,ob,kvs,rfl,e,k,r⟩⟩
 | _=>cases nd
theorem AQ {X:Cx} {e:aS} {f:Rho->Option Rv} (h:PX X e f):PX X e (ig f):=by
 intro pins s σ H Q I ⟨B,G,ρ,r,sg,sb,st,eq,k⟩
 unfold ig at eq
 split at eq
 ·rename_i d q
  cases eq
  refine thn (h pins s σ H (fun v H1=>∃ G1,Ext G H G1 H1/\h8 X.K B H G1 H1 (.fr,d) v) I ⟨B,G,ρ,_,sg,sb,st,q,fun v G1 H1 E1 r1=>⟨G1,E1,r1⟩⟩) fun u s1 ⟨v,H1,I1,rv,G1,E1,r1⟩=>?_
  by_cases nd:nN d=true
  ·obtain ⟨l,o,rfl,n,g,ql,hd⟩:=r1
   obtain ⟨hdct,hden⟩:=(hd.mono (cA (o:=o) g)).dct nd
   obtain ⟨ob,I2⟩:=Dd I1 ql (hd.dct nd).1
   refine ⟨.ref l,_,I2,rv,k _ (upd G1 l (.frz ob o)) _ ⟨fun b w z=>?_,E1.gg.trans (cA g),kK E1.gh,fun b w z t y=>?_⟩ ?_⟩
   ·rw [bq (cb z n)];exact E1.hh b w z
   ·rw [bq (cb z n)];exact E1.nw b w z t y
   ·exact ((hd.mono (cA (o:=.frz ob o) g)).dct nd).2 l ob aV
  ·obtain ⟨G2,E2,_,d2⟩:=r1.pure E1 (by simpa [fj] using nd)
   exact ⟨v,H1,I1,rv,k v G2 H1 E2 d2⟩
 ·exact h pins s σ H Q I ⟨B,G,ρ,r,sg,sb,st,eq,k⟩
noncomputable def fT (f:Rho->Option Rv):Rho->Res:=fun ρ=>match f ρ with
 | some r=>.rt r.2
 | none=>.bad
theorem C0 {X:Cx} {e:aS} {f:Rho->Option Rv} {pos:ft} (he:PX X e f):PXS X (.Return (some e) pos) (fT f):=by
 intro pins s σ H D I ⟨B,G0,G,ρ,E,st,k⟩
 unfold fT at k
 cases q:f ρ with
 | none=>rw [q] at k;exact k.elim
 | some r =>
   rw [q] at k
   refine thn (t8 (pos:=pos) he pins s σ H { nx:=fun _ _=>False,rt:=fun v H1=>∃ G1,Ext G H G1 H1/\h8 X.K B H G1 H1 r v } I ⟨B,G,ρ,r,E.gh,E.hh,st,q,fun v G1 H1 E1 r1=>⟨G1,E1,r1⟩⟩) fun fl s1 h1=>?_
   cases fl with
   | next=>obtain ⟨_,_,_,z⟩:=h1;exact z.elim
   | brk=>obtain ⟨_,_,_,z⟩:=h1;exact z.elim
   | cont=>obtain ⟨_,_,_,z⟩:=h1;exact z.elim
   | ret u =>
     obtain ⟨v,σ1,H1,I1,rv,G1,E1,r1⟩:=h1
     by_cases nd:r.1=.pu\/nN r.2=false
     ·obtain ⟨G2,E2,s2,d2⟩:=r1.pureB E.hh (E.trans E1) nd
      exact ⟨v,σ1,H1,I1,rv,k v G2 H1 E2 (E1.gg.trans s2) d2⟩
     ·obtain ⟨kd,d⟩:=r
      have hk:¬ kd=.pu:=fun z=>nd (.inl z)
      have hd:nN d=true:=by
       cases z:nN d with
       | true=>rfl
       | false=>exact absurd (.inr z) nd
      have go:∃ l o,v=.ref l/\B l=none/\G1 l=none/\H1 l=some o/\Holds X.K G1 d o:=by
       cases kd with
       | pu=>exact absurd rfl hk
       | bo =>
         obtain ⟨l,o,rfl,nb,g,ql,hh⟩:=r1
         exact ⟨l,o,rfl,nb,g,ql,hh⟩
       | fr=>obtain ⟨l,o,rfl,n,g,ql,hh⟩:=r1;exact ⟨l,o,rfl,E.hh.free n,g,ql,hh⟩
      obtain ⟨l,o,rfl,nb,g,ql,hh⟩:=go
      obtain ⟨ob,I2⟩:=Dd I1 ql (hh.dct hd).1
      have E2:=E.trans E1
      refine ⟨.ref l,σ1,_,I2,rv,k _ (upd G1 l (.frz ob o)) _ ⟨fun b w z=>?_,E2.gg.trans (cA g),kK E2.gh,fun b w z t y=>?_⟩ (E1.gg.trans (cA g)) ?_⟩
      ·rw [bq (cb z nb)];exact E2.hh b w z
      ·rw [bq (cb z nb)];exact E2.nw b w z t y
      ·exact ((hh.mono (cA (o:=.frz ob o) g)).dct hd).2 l ob aV
noncomputable def HV (K:ac) (J:It) (items:List Da) (G:Hp):Prop:=∀ (i:Nat) (G' H':Hp),cW G G'->cW G' H' ->
 (∀ d,items[i]?=some d->J.go i H'/\∀ x H'',J.yld i H' x H''->∃ G'',Ext G' H' G'' H''/\Den K G'' d x)/\(items.length=i->J.stop i H')
noncomputable def iX (K:ac) (f:Rho->Option (List Da)):TI:=fun σ H R=>∃ B G ρ ds,cW G H/\cW B H/\iK K B G H σ ρ/\f ρ=some ds/\∀ J G' H',Ext G H G' H'->HV K J ds G'->R J H'
noncomputable abbrev PXI (X:Cx) (tg iter:aS) (f:Rho->Option (List Da)):Prop:=PI X tg iter (iX X.K f)
section
variable {X:Cx} {tg e:aS} {f:Rho->Option Rv} {pos:ft}
theorem Gf {K:ac} {G:Hp} {a:ak} {xs:List V} {ds:List Da} (q:SqL K G a xs) (h:cS K G ds xs) (inj:∀ (H:Hp) (ys:List V),cW G H->SqL K H a ys->ys=xs\/True):HV K (Itl K a) ds G:=by
 intro i G' H' s1 s2
 have q2:=(s1.trans s2).seq q
 refine ⟨fun d e=>?_,fun hl=>⟨xs,q2,by rw [h.length];exact kE hl⟩⟩
 obtain ⟨x,hx,dx⟩:=h.get e
 refine ⟨⟨xs,x,q2,hx⟩,fun y H'' z=>?_⟩
 obtain ⟨rfl,z⟩:=z
 have:=z xs q2
 rw [hx] at this;cases this
 exact ⟨G',Ext.refl s2,Den.mono s1 d dx⟩
theorem KE {K:ac} {G:Hp} {a:ak} {xs:List V} {ds:List Da} (q:G a=some (.tup xs)) (h:cS K G ds xs):HV K (Itt K a) ds G:=by
 intro i G' H' s1 s2
 have q2:SqT K H' a xs:=SqT.of ((s1.trans s2) _ _ q)
 refine ⟨fun d e=>?_,fun hl=>⟨xs,q2,by rw [h.length];exact kE hl⟩⟩
 obtain ⟨x,hx,dx⟩:=h.get e
 refine ⟨⟨xs,x,q2,hx⟩,fun y H'' z=>?_⟩
 obtain ⟨rfl,z⟩:=z
 have:=z xs q2
 rw [hx] at this;cases this
 exact ⟨G',Ext.refl s2,Den.mono s1 d dx⟩
noncomputable def fE (lo:Int):Nat->List Da
 | 0=>[]
 | n+1=>.int lo::fE (lo+1) n
theorem qG:∀ (n:Nat) (lo:Int),(fE lo n).length=n
 | 0,_=>rfl
 | n+1,lo=>by unfold fE;rw [aI,qG n]
theorem qD:∀ (n:Nat) (lo:Int) (i:Nat) (d:Da),(fE lo n)[i]?=some d->d=.int (lo+i)/\i<n
 | 0,_,_,_,h=>by simp [fE] at h
 | n+1,lo,0,d,h=>by unfold fE at h;simp at h;subst h;exact ⟨by simp,by lia⟩
 | n+1,lo,i+1,d,h=>by
   unfold fE at h
   rw [bv] at h
   obtain ⟨e,l⟩:=qD n (lo+1) i d h
   refine ⟨?_,by lia⟩
   rw [e]
   congr 1
   push_cast
   lia
theorem w4 {K:ac} {G:Hp} {lo:Int} {n:Nat}:HV K (Itr lo n) (fE lo n) G:=by
 intro i G' H' s1 s2
 refine ⟨fun d e=>?_,fun hl=>?_⟩
 ·obtain ⟨rfl,hi⟩:=qD n lo i d e
  refine ⟨hi,fun y H'' z=>?_⟩
  obtain ⟨rfl,rfl⟩:=z
  exact ⟨G',Ext.refl s2,rfl⟩
 ·rw [qG] at hl;exact kE hl
noncomputable def Itd (a:ak) (o:dz) (kvs:List (Key×V)):It :=
 ⟨fun i H=>H a=some (.frz o (.dK kvs))/\i<kvs.length,fun i H x H'=>H'=H/\∃ kv,kvs[i]?=some kv/\x=kV kv.1,fun i H=>H a=some (.frz o (.dK kvs))/\kvs.length=i⟩
theorem Hj {K:ac} {G:Hp} {a:ak} {o:dz} {kvs:List (Key×V)} (q:G a=some (.frz o (.dK kvs))):HV K (Itd a o kvs) (kvs.map fun kv=>jq kv.1) G:=by
 intro i G' H' s1 s2
 have q2:=(s1.trans s2) _ _ q
 refine ⟨fun d e=>?_,fun hl=>⟨q2,by rw [ab] at hl;exact hl⟩⟩
 rw [aA] at e
 cases z:kvs[i]? with
 | none=>rw [z] at e;cases e
 | some kv =>
   rw [z] at e
   cases e
   refine ⟨⟨q2,(aF.mp z).1⟩,fun y H'' w=>?_⟩
   obtain ⟨rfl,kv',e',rfl⟩:=w
   rw [z] at e';cases e'
   exact ⟨G',Ext.refl s2,uY _⟩
theorem lr {pins:List (ak×dz)} {σ:St} {H:Hp} {s:ai} {a:ak} {o:dz} {kvs:List (Key×V)} (I:Inv X pins σ H s) (q:H a=some (.frz o (.dK kvs))) :
 s.heap.get? a=some o/\(a == dt)=false/\∃ vs,KV kvs vs/\s.heap.DictOf (cN X.prog X.w) a vs:=by
 obtain ⟨e,_,hd,vs,r,dd⟩:=I.hok a _ q
 exact ⟨e,hd,vs,r,dd⟩
theorem Bz {P:bC} {w:cf} {K:ac} {tg:aS} (a it:ak) (o:dz) (kvs:List (Key×V)) (vs:List (Key×ae)) (ep:Nat) (es:Array lx) (hd:o.data=.dict es ep) (rel:KV kvs vs) :
 G7 P w K tg (Itd a o kvs) [it] it (fun i h=>h.IsKeyIter it a i vs.length ep) where
 mem:=by simp
 obj:=fun i h st b hb=>by
  have e:b=it:=by simpa using hb
  subst e
  obtain ⟨o,e,c,d⟩:=st
  exact ⟨o,e,fun v z=>by rw [d] at z;cases z⟩
 keep:=fun i h h' st k=>st.at fun o e=>k it (by simp) o e
 item:=by
  intro X hP hw hK hc i pins s σ H E I hf st hg
  subst hP hw hK
  obtain ⟨hq,hi⟩:=hg
  obtain ⟨ho,hm,vs',rel',dd⟩:=lr I hq
  obtain ⟨f0,f1,f2,f3,f4,f5⟩:=hf it (by simp)
  have hkv:∃ kv,kvs[i]?=some kv:=⟨kvs[i],by simp [hi]⟩
  obtain ⟨kv,hkv⟩:=hkv
  have hv:∃ kv',vs'[i]?=some kv'/\kv'.1=kv.1:=by
   have hl:=cj rel'
   have:i<vs'.length:=by lia
   refine ⟨vs'[i],by simp [this],?_⟩
   have e:=rel'.keys
   have e2:=congrArg (fun l=>l[i]?) e
   simp only [aA,hkv,cw] at e2
   rw [aj this] at e2
   simpa using e2.symm
  obtain ⟨⟨k',x'⟩,hv,hk⟩:=hv
  obtain ⟨o2,es2,ep2,e2,r2⟩:=dd
  rw [ho] at e2;cases e2
  have hep:ep2=ep:=by
   have:=r2.2.1
   rw [hd] at this;cases this;rfl
  subst hep
  have hlen:vs.length=vs'.length:=by rw [<- cj rel,<- cj rel']
  rw [hlen] at st
  refine wpAny_pyNext_dict_item (knd:=cN X.prog X.w) st ⟨o,es2,ho,r2⟩ hv fun key h' hkey st' sb=>?_
  have I1:Inv X pins σ H { s with heap:=h' }:=I.turned (t':=s.toks) (fun b o hb e=>(sb.2 b hb).trans e) f0 f1 f3 f4 f5
  obtain ⟨oi,ei,ci,di⟩:=id st'
  rw [<- hlen] at st'
  refine ⟨key,rfl,CG (s:={ s with heap:=h' }) ei ci di (by decide) ⟨kV kv.1,H,I1,?_,⟨rfl,kv,hkv,rfl⟩,st',fun b hb=>(hf b hb).1⟩⟩
  dsimp only at hk
  subst hk
  rcases d8 (show rW kv.1 key=true from hkey) with ⟨z,t,e1,e2⟩ | ⟨z,t,e1,e2⟩
  ·rw [e1,e2];exact ⟨t,rfl⟩
  ·rw [e1,e2];exact ⟨t,rfl⟩
 done:=by
  intro X hP hw hK hc i pins s σ H E I hf st hg
  subst hP hw hK
  obtain ⟨hq,hi⟩:=hg
  obtain ⟨ho,hm,vs',rel',dd⟩:=lr I hq
  obtain ⟨f0,f1,f2,f3,f4,f5⟩:=hf it (by simp)
  obtain ⟨o2,es2,ep2,e2,r2⟩:=dd
  rw [ho] at e2;cases e2
  have hep:ep2=ep:=by
   have:=r2.2.1
   rw [hd] at this;cases this;rfl
  subst hep
  have hlen:vs.length=vs'.length:=by rw [<- cj rel,<- cj rel']
  rw [hlen] at st
  have hl:=cj rel'
  exact wpAny_pyNext_dict_end (knd:=cN X.prog X.w) (I.ok.hd hc) st ⟨o,es2,ho,r2⟩ (fP (by lia)) fun h' eb=>⟨rfl,I.turned (t':=s.toks) (fun b o hb e=>eb b o hb e) f0 f1 f3 f4 f5⟩
 self:=fun _ _ _ _ _ st h=>wpAny_pyIter_keyiter st h
noncomputable def cB (f:Rho->Option Rv):Rho->Option (List Da):=fun ρ=>match f ρ with
 | some (.pu,.lst ds)=>some ds
 | some (.pu,.tup ds)=>some ds
 | some (.pu,.dK ks _)=>some (ks.map jq)
 | _=>none
theorem v7 (he:PX X e f):PXI X tg e (cB f):=by
 intro pins s σ H R I ⟨B,G,ρ,ds,sg,sb,st,eq,k⟩
 unfold cB at eq
 split at eq
 ·rename_i ds' q
  cases eq
  refine HK he pins s σ H R I ⟨B,G,ρ,_,sg,sb,st,q,fun v G1 H1 E1 r1=>?_⟩
  obtain ⟨a,xs,rfl,q1,d1⟩:=r1
  exact ⟨a,rfl,⟨xs,E1.gh.seq q1⟩,k _ G1 H1 E1 (Gf q1 d1 fun _ _ _ _=>.inr trivial)⟩
 ·rename_i ds' q
  cases eq
  refine Iu he pins s σ H R I ⟨B,G,ρ,_,sg,sb,st,q,fun v G1 H1 E1 r1=>?_⟩
  obtain ⟨a,xs,rfl,q1,d1⟩:=r1
  exact ⟨a,rfl,⟨xs,SqT.of (E1.gh _ _ q1)⟩,k _ G1 H1 E1 (KE q1 d1)⟩
 ·rename_i ks vs q
  cases eq
  refine thn (he pins s σ H (fun v H1=>∃ G1,Ext G H G1 H1/\h8 X.K B H G1 H1 (.pu,.dK ks vs) v) I ⟨B,G,ρ,_,sg,sb,st,q,fun v G1 H1 E1 r1=>⟨G1,E1,r1⟩⟩) fun u s1 ⟨v,H1,I1,rv,G1,E1,r1⟩=>?_
  obtain ⟨a,o,kvs,rfl,q1,ek,d1⟩:=r1
  cases rv
  have q2:=E1.gh _ _ q1
  obtain ⟨ho,hm,vs',rel,dd⟩:=lr I1 q2
  obtain ⟨o2,es,ep,e2,r2⟩:=dd
  rw [ho] at e2;cases e2
  have hks:ks.map jq=kvs.map fun kv=>jq kv.1:=by rw [<- ek,aC];rfl
  refine wpAny_pyIter_dict (knd:=cN X.prog X.w) hm ⟨o,es,ho,r2⟩ ?_
  refine ⟨s1.heap.objs.size,[s1.heap.objs.size],_,Itd a o kvs,H1,rfl,I1.kept (t':=s1.toks) fun b o e=>ag _ e,Bz a _ o kvs vs' ep es r2.2.1 rel,⟨_,aJ _ rfl,rfl,rfl⟩,fun b hb=>?_,k _ G1 H1 E1 (by rw [hks];exact Hj q1)⟩
  have e:b=s1.heap.objs.size:=by simpa using hb
  subst e
  exact I1.fpOk (aw _) (I1.hok.fresh (aw _))
 ·cases eq
noncomputable def nM (f:Rho->Option (List Rv)):Rho->Option (List Da):=fun ρ=>match f ρ with
 | some [(_,.int j)]=>if -(2 ^ 62)<=j/\j<2 ^ 62 then some (fE 0 j.toNat) else none
 | _=>none
noncomputable def Ib (f:Rho->Option (List Rv)):Rho->Option (List Da):=fun ρ=>match f ρ with
 | some [(_,.int i),(_,.int j)]=>if -(2 ^ 62)<=i/\i<2 ^ 62/\-(2 ^ 62)<=j/\j<2 ^ 62 then some (fE i (j-i).toNat) else none
 | _=>none
theorem PI.imp {X:Cx} {tg e:aS} {t t':TI} (h:PI X tg e t) (i:∀ σ H R,t' σ H R->t σ H R):PI X tg e t':=fun pins s σ H R I q=>h pins s σ H R I (i σ H R q)
theorem nD {a:aS} {p:ft} {g:Rho->Option (List Rv)} (hg:Gl X "range") (hm:X.mg "range" = none) (ha:PXA X [a] g) (hs:am [a] X.env=[(false,b9 a X.env)]:=by exact bR rfl):PXI X tg (.Call (.Name "range" p) [a] [] pos) (nM g) :=
 PI.imp (A9 hg hm ha hs) fun σ H R ⟨B,G,ρ,ds,sg,sb,st,eq,k⟩=>by
  unfold nM at eq
  split at eq
  ·rename_i kd j q
   split at eq
   ·rename_i hb
    cases eq
    refine ⟨B,G,ρ,_,sg,sb,st,q,fun vs G1 H1 E1 r1=>?_⟩
    obtain ⟨v,rfl,r⟩:=fK.one r1
    cases r.int
    exact ⟨j,rfl,hb.1,hb.2,k _ G1 H1 E1 w4⟩
   ·cases eq
  ·cases eq
theorem yr {a b:aS} {p:ft} {g:Rho->Option (List Rv)} (hg:Gl X "range") (hm:X.mg "range" = none) (ha:PXA X [a,b] g) (hs:am [a,b] X.env=[(false,b9 a X.env),(false,b9 b X.env)]:=by rfl) (hs2:am [b] X.env=[(false,b9 b X.env)]:=by rfl) :
 PXI X tg (.Call (.Name "range" p) [a,b] [] pos) (Ib g) :=
 PI.imp (Ag hg hm ha hs hs2) fun σ H R ⟨B,G,ρ,ds,sg,sb,st,eq,k⟩=>by
  unfold Ib at eq
  split at eq
  ·rename_i k1 i k2 j q
   split at eq
   ·rename_i hb
    cases eq
    refine ⟨B,G,ρ,_,sg,sb,st,q,fun vs G1 H1 E1 r1=>?_⟩
    obtain ⟨v,v2,rfl,r,r2⟩:=fK.two r1
    cases r.int
    cases r2.int
    exact ⟨i,j,rfl,hb,k _ G1 H1 E1 w4⟩
   ·cases eq
  ·cases eq
end
noncomputable def gX (K:ac) (t:Da->Rho->Option Rho):TG:=fun v σ H Q=>∃ B G0 G ρ d ρ',Ext G0 B G H/\iK K B G H σ ρ/\Den K G d v/\t d ρ=some ρ'/\∀ σ',iK K B G H σ' ρ'->Q σ' H
noncomputable def gXs (K:ac) (t:List Da->Rho->Option Rho):TGs:=fun vs σ H Q=>∃ B G0 G ρ ds ρ',Ext G0 B G H/\iK K B G H σ ρ/\cS K G ds vs/\t ds ρ=some ρ'/\∀ σ',iK K B G H σ' ρ'->Q σ' H
noncomputable abbrev PXG (X:Cx) (tg:aS) (t:Da->Rho->Option Rho):Prop:=PG X tg (gX X.K t)
noncomputable abbrev Gz (X:Cx) (ts:List aS) (t:List Da->Rho->Option Rho):Prop:=PGs X ts (gXs X.K t)
theorem PG.imp {X:Cx} {tg:aS} {t t':TG} (h:PG X tg t) (i:∀ v σ H Q,t' v σ H Q->t v σ H Q):PG X tg t':=fun pins s σ H v u Q I r q=>h pins s σ H v u Q I r (i v σ H Q q)
theorem PGs.imp {X:Cx} {tg:List aS} {t t':TGs} (h:PGs X tg t) (i:∀ v σ H Q,t' v σ H Q->t v σ H Q):PGs X tg t':=fun pins s σ H v u Q I r q=>h pins s σ H v u Q I r (i v σ H Q q)
section
variable {X:Cx} {pos:ft}
noncomputable def tgN (i:Nat):Da->Rho->Option Rho:=fun d ρ=>some (ρ.set i (.pu d))
theorem Ee {i:Nat} {x:bM} (hN:X.N.Nodup) (hi:X.N[i]?=some x:=by rfl) (hx:Loc X.env.scope x:=by first | exact dX rfl | exact d9 rfl) (hf:X.fn x=true\/X.env.scope.names.lookup x=some .local:=by first | exact .inl rfl | exact .inr rfl | assumption):PXG X (.Name x pos) (tgN i) :=
 PG.imp (m9 hN hi hx hf) fun v σ H Q ⟨B,G0,G,ρ,d,ρ',E,st,dv,e,k⟩=>by cases e;exact k _ (st.setPu dv)
noncomputable def mo:List Da->Rho->Option Rho
 | [],ρ=>some ρ
 | _,_=>none
noncomputable def fW (t:Da->Rho->Option Rho) (u:List Da->Rho->Option Rho):List Da->Rho->Option Rho
 | d::ds,ρ=>match t d ρ with
   | some ρ'=>u ds ρ'
   | none=>none
 | [],_=>none
theorem FO:Gz X [] mo:=PGs.imp zA fun v σ H Q ⟨B,G0,G,ρ,ds,ρ',E,st,dv,e,k⟩=>by
 unfold mo at e
 split at e
 ·cases e;exact ⟨dv,k _ st⟩
 ·cases e
theorem D8 {e:aS} {es:List aS} {t:Da->Rho->Option Rho} {u:List Da->Rho->Option Rho} (h1:PXG X e t) (h2:Gz X es u) (hs:(e7 (e::es) X.env).map (·.2)=assign e X.env::(e7 es X.env).map (·.2):=by rfl):Gz X (e::es) (fW t u) :=
 PGs.imp (sV h1 h2 hs) fun v σ H Q ⟨B,G0,G,ρ,ds,ρ',E,st,dv,eq,k⟩=>by
  unfold fW at eq
  split at eq
  ·rename_i d ds'
   obtain ⟨x,r,rfl,d1,d2⟩:=dv
   split at eq
   ·rename_i ρ1 e1
    exact ⟨x,r,rfl,B,G0,G,ρ,d,ρ1,E,st,d1,e1,fun σ' st'=>⟨B,G0,G,ρ1,ds',ρ',E,st',d2,eq,k⟩⟩
   ·cases eq
  ·cases eq
noncomputable def tgT (n:Nat) (t:List Da->Rho->Option Rho):Da->Rho->Option Rho
 | .tup ds,ρ=>if ds.length=n then t ds ρ else none
 | _,_=>none
theorem Fw {es:List aS} {k n:Nat} {t:List Da->Rho->Option Rho} (hc:X.calm=true) (h:Gz X es t) (hn:(e7 es X.env).length=n:=by rfl) (hst:(e7 es X.env).findIdx? (·.1)=none:=by rfl):PXG X (.Tuple es k pos) (tgT n t) :=
 PG.imp (EM hc h hn hst) fun v σ H Q ⟨B,G0,G,ρ,d,ρ',E,st,dv,eq,kk⟩=>by
  unfold tgT at eq
  split at eq
  ·rename_i ds
   split at eq
   ·rename_i hl
    obtain ⟨a,xs,rfl,q,dl⟩:=dv
    exact ⟨a,xs,rfl,SqT.of (E.gh _ _ q),by rw [dl.length];exact hl,B,G0,G,ρ,ds,ρ',E,st,dl,eq,kk⟩
   ·cases eq
  ·cases eq
noncomputable def Mj (f:Rho->Option Rv) (t:Da->Rho->Option Rho):Rho->Res:=fun ρ=>match f ρ with
 | some r=>if fj r=true then (match t r.2 ρ with
   | some ρ'=>.nx ρ'
   | none=>.bad) else .bad
 | none=>.bad
end
noncomputable def Co (t:Da->Rho->Option Rho) (g:Rho->Res):List Da->Rho->Res
 | [],ρ=>.nx ρ
 | d::ds,ρ=>match t d ρ with
   | none=>.bad
   | some ρ1=>match g ρ1 with
     | .nx ρ2=>Co t g ds ρ2
     | .ct ρ2=>Co t g ds ρ2
     | .bk ρ2=>.nx ρ2
     | .rt d=>.rt d
     | .bad=>.bad
noncomputable def qV (f:Rho->Option (List Da)) (t:Da->Rho->Option Rho) (g:Rho->Res):Rho->Res:=fun ρ=>match f ρ with
 | some ds=>Co t g ds ρ
 | none=>.bad
theorem GR {X:Cx} {tg iter:aS} {body:List cX} {f:Rho->Option (List Da)} {t:Da->Rho->Option Rho} {g:Rho->Res} {pos:ft} (hp:nE (bg X.prog X.w) X.A X.env X.xe) (hc:X.calm=true) (hi:PXI X tg iter f) (hg:PXG X tg t) (hb:xK X body g)
 (hs:∀ x,fz iter X.env x=pure x:=by intro _;rfl):PXS X (.For tg iter body [] pos) (qV f t g):=PS.imp (wM hp hc hi hg hb hs) fun D σ H ⟨B,G0,G,ρ,E,st,k⟩=>by
 unfold qV at k
 cases q:f ρ with
 | none=>rw [q] at k;exact k.elim
 | some ds =>
   rw [q] at k
   dsimp only at k
   refine ⟨B,G,ρ,ds,E.gh,E.hh,st,q,fun J G1 H1 E1 it=>?_⟩
   refine ⟨fun i m σ' H'=>m=ds.length-i/\i<=ds.length/\∃ G' ρ',Ext G0 B G' H'/\cW G1 G'/\iK X.K B G' H' σ' ρ'/\EF X.K B G0 G D (Co t g (ds.drop i) ρ'),⟨ds.length,by simp,bV _,G1,ρ,E.trans E1,cW.refl _,st.ext E1,by rw [ji];exact k⟩,?_⟩
   rintro i m σ' H' ⟨rfl,hi',G',ρ',E',s1,st',k'⟩
   have s2:cW G G':=E1.gg.trans s1
   by_cases hlt:i<ds.length
   ·obtain ⟨d,hd⟩:∃ d,ds[i]?=some d:=⟨ds[i],by simp [hlt]⟩
    have hdrop:ds.drop i=d::ds.drop (i+1):=by
     rw [e5 hlt]
     congr 1
     rw [aj hlt] at hd
     exact bU hd
    rw [hdrop] at k'
    unfold Co at k'
    cases et:t d ρ' with
    | none=>rw [et] at k';exact k'.elim
    | some ρ1 =>
      rw [et] at k'
      dsimp only at k'
      obtain ⟨hgo,hy⟩:=(it i G' H' s1 E'.gh).1 d hd
      refine .inr ⟨hgo,fun σ3 H3=>i+1<=ds.length/\∃ G3 ρ3,Ext G0 B G3 H3/\cW G1 G3/\iK X.K B G3 H3 σ3 ρ3/\EF X.K B G0 G D (Co t g (ds.drop (i+1)) ρ3),fun σ3 H3 z=>⟨ds.length-(i+1),by lia,rfl,z⟩,fun x H2 yl=>?_⟩
      obtain ⟨G2,E2,dx⟩:=hy x H2 yl
      refine ⟨B,G0,G2,ρ',d,ρ1,E'.trans E2,st'.ext E2,dx,et,fun σ2 st2=>⟨B,G0,G2,ρ1,E'.trans E2,st2,?_⟩⟩
      have s3:cW G1 G2:=s1.trans E2.gg
      have s4:cW G G2:=s2.trans E2.gg
      cases eg:g ρ1 with
      | nx ρ2=>rw [eg] at k';exact fun σ3 G3 H3 E3 t3 st3=>⟨hlt,G3,ρ2,E3,s3.trans t3,st3,k'⟩
      | ct ρ2=>rw [eg] at k';exact fun σ3 G3 H3 E3 t3 st3=>⟨hlt,G3,ρ2,E3,s3.trans t3,st3,k'⟩
      | bk ρ2=>rw [eg] at k';exact fun σ3 G3 H3 E3 t3 st3=>k' σ3 G3 H3 E3 (s4.trans t3) st3
      | rt d=>rw [eg] at k';exact fun σ3 G3 H3 E3 t3 st3=>k' σ3 G3 H3 E3 (s4.trans t3) st3
      | bad=>rw [eg] at k';exact k'
   ·have e:i=ds.length:=by lia
    subst e
    rw [j9] at k'
    exact .inl ⟨(it ds.length G' H' s1 E'.gh).2 rfl,k' σ' G' H' E' s2 st'⟩
noncomputable def jC (t:Rho->Option Bool) (g:Rho->Res):Nat->Rho->Res
 | 0,_=>.bad
 | n+1,ρ=>match t ρ with
   | none=>.bad
   | some false=>.nx ρ
   | some true=>match g ρ with
     | .nx ρ2=>jC t g n ρ2
     | .ct ρ2=>jC t g n ρ2
     | .bk ρ2=>.nx ρ2
     | .rt d=>.rt d
     | .bad=>.bad
theorem Ba {X:Cx} {c:aS} {body:List cX} {t:Rho->Option Bool} {g:Rho->Res} {pos:ft} (n:Nat) (hp:nE (bg X.prog X.w) X.A X.env X.xe) (hc:PXT X c t) (hb:xK X body g):PXS X (.While c body [] pos) (jC t g n) :=
 PS.imp (D3 hp hc hb) fun D σ H ⟨B,G0,G,ρ,E,st,k⟩=>by
  refine ⟨fun m σ' H'=>∃ G' ρ',Ext G0 B G' H'/\cW G G'/\iK X.K B G' H' σ' ρ'/\EF X.K B G0 G D (jC t g m ρ'),⟨n,G,ρ,E,cW.refl _,st,k⟩,?_⟩
  rintro m σ' H' ⟨G',ρ',E',s1,st',k'⟩
  cases m with
  | zero=>exact k'.elim
  | succ m =>
    unfold jC at k'
    cases et:t ρ' with
    | none=>rw [et] at k';exact k'.elim
    | some b =>
      rw [et] at k'
      refine ⟨B,G',ρ',b,E'.gh,E'.hh,st',et,fun G2 H2 E2=>?_⟩
      cases b with
      | false=>rw [if_neg aN];exact k' σ' G2 H2 (E'.trans E2) (s1.trans E2.gg) (st'.ext E2)
      | true =>
        rw [if_pos rfl]
        dsimp only at k'
        refine ⟨fun σ3 H3=>∃ G3 ρ3,Ext G0 B G3 H3/\cW G G3/\iK X.K B G3 H3 σ3 ρ3/\EF X.K B G0 G D (jC t g m ρ3),fun σ3 H3 z=>⟨m,oM _,z⟩,B,G0,G2,ρ',E'.trans E2,st'.ext E2,?_⟩
        have s4:cW G G2:=s1.trans E2.gg
        cases eg:g ρ' with
        | nx ρ2=>rw [eg] at k';exact fun σ3 G3 H3 E3 t3 st3=>⟨G3,ρ2,E3,s4.trans t3,st3,k'⟩
        | ct ρ2=>rw [eg] at k';exact fun σ3 G3 H3 E3 t3 st3=>⟨G3,ρ2,E3,s4.trans t3,st3,k'⟩
        | bk ρ2=>rw [eg] at k';exact fun σ3 G3 H3 E3 t3 st3=>k' σ3 G3 H3 E3 (s4.trans t3) st3
        | rt d=>rw [eg] at k';exact fun σ3 G3 H3 E3 t3 st3=>k' σ3 G3 H3 E3 (s4.trans t3) st3
        | bad=>rw [eg] at k';exact k'
noncomputable def fB (n:Nat) (ds:List Da):Rho:=ds.map Sl.pu++Ek (n-ds.length) .no
noncomputable def jr (n:Nat) (g:Rho->Res) (ds:List Da):Option Da:=match g (fB n ds) with
 | .rt d=>some d
 | .nx _=>some .non
 | _=>none
theorem xb {K:ac} {B G H:Hp} {N:List bM} {ds:List Da} {vs:List V} (tg:Tbs K G) (h:cS K G ds vs):iK K B G H (L2.start N vs) (fB N.length ds):=by
 have hl:=h.length
 refine ⟨?_,fun i d e=>?_,fun i d e=>?_,fun i j d d' l _ e=>?_,tg⟩
 ·unfold L2.start fB
  rw [aO,aO,ab,ab,lb,lb,hl]
 ·unfold fB at e
  by_cases hi:i<ds.length
  ·rw [dH (by simpa using hi),aA] at e
   cases q:ds[i]? with
   | none=>rw [q] at e;cases e
   | some d' =>
     rw [q] at e
     cases e
     obtain ⟨v,hv,dv⟩:=h.get q
     refine ⟨v,?_,dv⟩
     unfold L2.start
     rw [dH (by rw [ab,hl];exact hi),aA,hv]
     rfl
  ·rw [cR (by simpa using hi),j6] at e
   split at e<;>cases e
 all_goals
  exfalso
  unfold fB at e
  by_cases hi:i<ds.length
  ·rw [dH (by simpa using hi),aA] at e
   cases q:ds[i]? with
   | none=>rw [q] at e;cases e
   | some d'=>rw [q] at e;cases e
  ·rw [cR (by simpa using hi),j6] at e
   split at e<;>cases e
theorem ES {P:bC} {w:cf} {K:ac} {mg:bM->Option ae} {base:cy} {x qual:bM} {st:cX} {f:ak} {fd:dG} {N ps:List bM} {k n:Nat} {g:Rho->Res} (F:Fun K x qual st f fd) (S:g8 N ps (bh st)) (hn:ps.length=n)
 (hbody:∀ (cdv:ae) (A:bL) (outer:List p4) (s:ai) (H:Hp) (E:XK),jf k (A.deeper (fG qual (bh st) s.heap.objs.size f cdv))->xK (xg CX0 P w K mg base N qual (bh st) f cdv A outer s H E).nox (cg st) g) :
 vF P w K mg base CX0 (k+1) f fd ps (spD K n (jr N.length g)):=by
 refine F.ok S (fun vs H Q E ⟨G,ds,d,hl,sg,_,dl,_⟩=>by rw [dl.length,hl,hn]) fun cdv A outer s H vs Q E hr ⟨G,ds,d,hl,sg,tg,dl,ef,k⟩=>?_
 refine ⟨_,hbody cdv A outer s H E hr,H,G,G,fB N.length ds,Ext.refl sg,xb tg dl,?_⟩
 unfold jr at ef
 split at ef
 ·rename_i d' q
  cases ef
  rw [q]
  exact fun v G' H' E' _ dv=>k v G' H' E' dv
 ·rename_i ρ q
  cases ef
  rw [q]
  exact fun σ G' H' E' _ _=>k .non G' H' E' rfl
 ·cases ef
noncomputable def gJ (cells:List (bM×ak)):List (bM×eC)->List (bM×ak)->List (bM×ak)
 | [],acc=>acc
 | (x,k)::r,acc=>if k == .free then gJ cells r ((x,(cells.lookup x).getD 0)::acc) else gJ cells r acc
theorem kN {env:p4} (f:bM×eC->List (bM×ak)->Sem (ForInStep (List (bM×ak))))
 (hf:∀ name kind cs,f (name,kind) cs=if kind == .free then (do let a <- cellOf env name;pure (.yield ((name,a)::cs))) else pure (.yield cs)) :
 ∀ (names:List (bM×eC)) (acc:List (bM×ak)),(∀ y∈names,y.2=.free->∃ c,env.cells.lookup y.1=some c)->forIn names acc f=pure (gJ env.cells names acc)
 | [],acc,_=>by rw [qz];rfl
 | (x,k)::r,acc,h=>by
   rw [Cu,hf]
   unfold gJ
   by_cases hk:(k == ic)=true
   ·obtain ⟨c,hc⟩:=h (x,k) ah (by simpa using hk)
    rw [if_pos hk,if_pos hk]
    have e:cellOf env x=pure c:=by unfold cellOf;rw [show env.cells.lookup x=some c from hc]
    rw [e]
    simp only [pure_bind]
    rw [show (env.cells.lookup x).getD 0=c by rw [show env.cells.lookup x=some c from hc];rfl]
    exact kN f hf r _ fun y hy=>h y (af _ hy)
   ·rw [if_neg hk,if_neg hk]
    simp only [pure_bind]
    exact kN f hf r _ fun y hy=>h y (af _ hy)
theorem nq {scope:eI} {env:p4} (h:∀ y∈scope.names,y.2=.free->∃ c,env.cells.lookup y.1=some c):closureFor scope env=pure (gJ env.cells scope.names []):=by
 show (forIn scope.names ([]:List (bM×ak)) (fun x cs=>match x with
  | (name,kind)=>if (kind == ic)=true then (do let a <- cellOf env name;pure (jN ((name,a)::cs))) else pure (jN cs))>>=fun cs=>pure cs)=_
 rw [kN (env:=env) _ (fun _ _ _=>rfl) scope.names [] h]
 rfl
theorem ll {cells:List (bM×ak)}:∀ (names:List (bM×eC)) (acc:List (bM×ak)) {x:bM} {c:ak},(∀ y∈names,y.2=.free->∃ c,cells.lookup y.1=some c) ->
 (gJ cells names acc).lookup x=some c->cells.lookup x=some c\/acc.lookup x=some c
 | [],_,_,_,_,h=>.inr h
 | (n,k)::r,acc,x,c,hc,h=>by
   unfold gJ at h
   split at h
   ·rename_i hk
    rcases ll r _ (fun y hy=>hc y (af _ hy)) h with q | q
    ·exact .inl q
    ·rw [dq] at q
     cases hb:x == n with
     | true =>
       rw [hb] at q
       have e:x=n:=beq_iff_eq.mp hb
       subst e
       obtain ⟨c',h'⟩:=hc (x,k) ah (by simpa using hk)
       have h':cells.lookup x=some c':=h'
       rw [h'] at q
       cases q
       exact .inl h'
     | false=>rw [hb] at q;exact .inr q
   ·exact ll r _ (fun y hy=>hc y (af _ hy)) h
theorem jD {cells:List (bM×ak)}:∀ (names:List (bM×eC)) (acc:List (bM×ak)) {x:bM},(∀ y∈names,y.2=.free->∃ c,cells.lookup y.1=some c) ->
 ((x,ic)∈names\/acc.lookup x=cells.lookup x)->(gJ cells names acc).lookup x=cells.lookup x
 | [],_,_,_,h=>by
   rcases h with h | h
   ·simp at h
   ·exact h
 | (n,k)::r,acc,x,hc,h=>by
   unfold gJ
   have hr:∀ y∈r,y.2=.free->∃ c,cells.lookup y.1=some c:=fun y hy=>hc y (af _ hy)
   split
   ·rename_i hk
    refine jD r _ hr ?_
    by_cases hx:x=n
    ·subst hx
     obtain ⟨c',h'⟩:=hc (x,k) ah (by simpa using hk)
     have h':cells.lookup x=some c':=h'
     refine .inr ?_
     rw [dq,beq_self_eq_true,h']
     rfl
    ·rcases h with h | h
     ·rcases ao.mp h with e | e
      ·cases e;exact absurd rfl hx
      ·exact .inl e
     ·refine .inr ?_
      rw [dq,show (x == n)=false by simpa using hx]
      exact h
   ·rename_i hk
    refine jD r _ hr ?_
    rcases h with h | h
    ·rcases ao.mp h with e | e
     ·cases e;exact absurd (beq_self_eq_true _) hk
     ·exact .inl e
    ·exact .inr h
theorem gn:∀ (names:List (bM×eC)) (n:Nat) (acc:List (bM×ak)),eJ n names acc=eJ n names []++acc
 | [],_,_=>rfl
 | (x,k)::r,n,acc=>by
   unfold eJ
   split
   ·rw [gn r (n+1) ((x,n)::acc),gn r (n+1) [(x,n)],eB];rfl
   ·exact gn r n acc
noncomputable def nh (X:Cx) (scope:eI) (C:ak):p4 :=
 { scope:=lO scope X.env,locals:=C,globals:=X.env.globals,cells:=eJ (C+1) scope.names (gJ X.env.cells scope.names []),qual:=X.env.qual,func:=none,code:=X.env.code,frame:=X.env.frame,builtins:=X.env.builtins }
noncomputable def inC (X:Cx) (scope:eI) (s:ai) (H:Hp) (fp:List ak):Cx :=
 { X with N:=scope.names.map (·.1),s₀:=s,H₀:=H,env:=nh X scope s.heap.objs.size,outer:=X.stack,stack:=X.stack,ex:=fp,fn:=fun x=>scope.names.lookup x == some .cell,pn:=[],xe:=fun _ _=>False }
noncomputable def uf (N:List bM):List (bM×eC)->List (Option Nat)->Bool
 | [],[]=>true
 | _::r,none::ix=>uf N r ix
 | (x,k)::r,some j::ix=>(k == .free)&&(N[j]? == some x)&&uf N r ix
 | _,_=>false
noncomputable def mpS (ix:List (Option Nat)) (σ:St):St:=ix.map fun o=>match o with
 | some j=>(σ[j]?).getD none
 | none=>none
theorem kM {N:List bM}:∀ {names:List (bM×eC)} {ix:List (Option Nat)},uf N names ix=true->ix.length=names.length
 | [],[],_=>rfl
 | [],_::_,h=>by cases h
 | _::_,[],h=>by cases h
 | _::r,none::ix,h=>by rw [aI,aI,kM (names:=r) (ix:=ix) h]
 | (x,k)::r,some j::ix,h=>by
   unfold uf at h
   rw [aU] at h
   rw [aI,aI,kM h.2]
theorem jB {N:List bM}:∀ {names:List (bM×eC)} {ix:List (Option Nat)} {i j:Nat},uf N names ix=true->ix[i]?=some (some j)->∃ x,names[i]?=some (x,.free)/\N[j]?=some x
 | [],[],_,_,_,e=>by simp at e
 | [],_::_,_,_,h,_=>by cases h
 | _::_,[],_,_,h,_=>by cases h
 | _::r,none::ix,0,_,_,e=>by simp at e
 | _::r,none::ix,i+1,j,h,e=>by simpa using jB (names:=r) (ix:=ix) (i:=i) h (by simpa using e)
 | (x,k)::r,some j'::ix,i,j,h,e=>by
   unfold uf at h
   rw [aU,aU] at h
   cases i with
   | zero =>
     simp at e
     subst e
     refine ⟨x,?_,by simpa using h.1.2⟩
     have:=h.1.1
     simp at this
     simp [this]
   | succ i=>simpa using jB (names:=r) (ix:=ix) (i:=i) h.2 (by simpa using e)
theorem eX {α:Type}:∀ {l:List (bM×α)} {i:Nat} {x:bM} {a:α},(l.map (·.1)).Nodup->l[i]?=some (x,a)->l.lookup x=some a
 | [],_,_,_,_,e=>by simp at e
 | (y,b)::r,0,x,a,_,e=>by simp at e;rw [<- e.1,<- e.2];simp
 | (y,b)::r,i+1,x,a,nd,e=>by
   have e':r[i]?=some (x,a):=by simpa using e
   rw [ax] at nd
   obtain ⟨h1,h2⟩:=be.mp nd
   have hm:(x,a)∈r:=bJ e'
   have ne:x≠y:=fun z=>h1 (by rw [<- z];exact az.mpr ⟨_,hm,rfl⟩)
   rw [dq,show (x == y)=false by simpa using ne]
   exact eX h2 e'
theorem lJ {scope:eI} {env:p4} {x:bM}:(lO scope env).names.lookup x=(scope.names.lookup x).map fun k=>if (k == .free&&env.scope.kind == .function&&env.kindOf x == some .cell) then .cell else k:=by
 unfold lO
 show List.lookup x (scope.names.map _)=_
 generalize scope.names=l
 induction l with
 | nil=>rfl
 | cons p r ih =>
   obtain ⟨n,k⟩:=p
   rw [ax]
   dsimp only
   by_cases hx:x=n
   ·subst hx
    by_cases hc:(k == ic&&env.scope.kind == .function&&env.kindOf x == some .cell)=true
    ·rw [if_pos hc]
     simp only [dq,beq_self_eq_true,cw]
     rw [if_pos hc]
    ·rw [if_neg hc]
     simp only [dq,beq_self_eq_true,cw]
     rw [if_neg hc]
   ·have hb:(x == n)=false:=by simpa using hx
    by_cases hc:(k == ic&&env.scope.kind == .function&&env.kindOf n == some .cell)=true
    ·rw [if_pos hc];simp only [dq,hb];exact ih
    ·rw [if_neg hc];simp only [dq,hb];exact ih
structure CScope (X:Cx) (scope:eI) (ix:List (Option Nat)):Prop where
 kind:scope.kind=.function
 nd:(scope.names.map (·.1)).Nodup
 free:∀ y∈scope.names,y.2=.free->X.env.kindOf y.1=some .cell\/X.env.kindOf y.1=some .free
 ix:uf X.N scope.names ix=true
section
variable {X:Cx} {pins:List (ak×dz)} {σ:St} {H:Hp} {s:ai} {scope:eI} {ix:List (Option Nat)} {fp:List ak}
theorem CScope.cells (S:CScope X scope ix) (I:Inv X pins σ H s):∀ y∈scope.names,y.2=.free->∃ c,X.env.cells.lookup y.1=some c:=fun y hy hf=>I.ok.has y.1 (S.free y hy hf)
theorem CScope.names (S:CScope X scope ix) {x:bM} {k:eC}:(x,k)∈scope.names->scope.names.lookup x=some k:=fun hm=>by
 obtain ⟨i,hi⟩:=List.mem_iff_getElem?.mp hm
 exact eX S.nd hi
theorem yO {M:Model} {A:bL} {E:ae->ai->Prop} {Q:p4->ai->Prop} (S:CScope X scope ix) (I:Inv X pins σ H s) (hfp:∀ b∈fp,y8 X pins H b/\b<s.heap.objs.size)
 (h:∀ env h',{ env with scope:=lO scope X.env }=nh X scope s.heap.objs.size->env.locals=s.heap.objs.size->Inv (inC X scope s H fp) [] (mpS ix σ) H { s with heap:=h' }->(∀ b o,s.heap.get? b=some o->h'.get? b=some o)->Q env { s with heap:=h' }) :
 aM M A (newFunctionEnv scope X.env.globals (gJ X.env.cells scope.names []) [] X.env.qual none .none (some X.env)) Q E s:=by
 simp only [newFunctionEnv,wB,if_true]
 refine aa (wpAny_alloc ?_)
 refine aa (wpAny_layCells _ (fun name kind cells=>by cases hkc:kind == zi<;>simp [hkc]) _ _ _ _ ?_)
 rw [show ({ s with heap:=s.heap.push { cls:=.type "dict",data:=.dict #[] } }:ai).heap.objs.size=s.heap.objs.size+1 from lF ..]
 refine aa ?_
 rw [qz]
 refine al (al ?_)
 have ok:=cellsFrom_ok scope.names (s.heap.push { cls:=.type "dict",data:=.dict #[] }) (s.heap.objs.size+1) [] ⟨fun _ _ hm=>(nomatch hm),qx⟩ (by rw [lF];exact aw _)
 rw [lF] at ok
 have keep:∀ b o,s.heap.get? b=some o->(pushCells (s.heap.push { cls:=.type "dict",data:=.dict #[] }) scope.names).get? b=some o:=fun b o e=>pushCells_keeps _ _ b o (ag _ e)
 have cl:=S.cells I
 have look:∀ x c,(eJ (s.heap.objs.size+1) scope.names (gJ X.env.cells scope.names [])).lookup x=some c ->
  ((eJ (s.heap.objs.size+1) scope.names []).lookup x=some c/\s.heap.objs.size+1<=c/\(pushCells (s.heap.push { cls:=.type "dict",data:=.dict #[] }) scope.names).IsCell c none)\/(X.env.cells.lookup x=some c/\c<s.heap.objs.size):=fun x c e=>by
  rw [gn,mQ] at e
  cases q:(eJ (s.heap.objs.size+1) scope.names []).lookup x with
  | some c' =>
    rw [q] at e
    cases e
    obtain ⟨e1,e2⟩:=ok.empty x c (mem_of_lookup q)
    exact .inl ⟨rfl,e2,e1⟩
  | none =>
    rw [q] at e
    rcases ll _ _ cl (show (gJ X.env.cells scope.names []).lookup x=some c from e) with z | z
    ·obtain ⟨v,hv⟩:=I.cell x c z
     exact .inr ⟨z,hv.lt⟩
    ·simp at z
 have ownNone:∀ x,scope.names.lookup x=some .free->(eJ (s.heap.objs.size+1) scope.names []).lookup x=none:=fun x hx=>by
  cases q:(eJ (s.heap.objs.size+1) scope.names []).lookup x with
  | none=>rfl
  | some c =>
    exfalso
    have:∀ (names:List (bM×eC)) (n:Nat) (acc:List (bM×ak)),(eJ n names acc).lookup x=some c->(x,zi)∈names\/acc.lookup x=some c:=by
     intro names
     induction names with
     | nil=>intro n acc h;exact .inr h
     | cons p r ih =>
       intro n acc h
       obtain ⟨y,k⟩:=p
       unfold eJ at h
       split at h
       ·rename_i hk
        rcases ih _ _ h with z | z
        ·exact .inl (af _ z)
        ·rw [dq] at z
         cases hb:x == y with
         | true =>
           have e:x=y:=beq_iff_eq.mp hb
           subst e
           have hk':k=.cell:=by simpa using hk
           subst hk'
           exact .inl ah
         | false=>rw [hb] at z;exact .inr z
       ·rcases ih _ _ h with z | z
        ·exact .inl (af _ z)
        ·exact .inr z
    rcases this _ _ _ q with z | z
    ·rw [S.names z] at hx;cases hx
    ·simp at z
 have freeLook:∀ x,scope.names.lookup x=some .free->(eJ (s.heap.objs.size+1) scope.names (gJ X.env.cells scope.names [])).lookup x=X.env.cells.lookup x:=fun x hx=>by
  rw [gn,mQ,ownNone x hx,jD _ _ cl (.inl (mem_of_lookup hx))]
  rfl
 refine h _ _ rfl rfl ⟨⟨I.ok.mod,?_,I.ok.glob,I.ok.blt,aw _,fun x y c h1 h2=>?_,fun x hx=>?_,fun x c hf h1=>?_,I.ok.hd,I.ok.frames,.inl rfl,fun b hb=>⟨?_,fun x c h1 z=>?_⟩,I.bs,bO I.ok.bsz I.sz,fun b o e hb=>?_,fun b hb hb2=>?_,I.stack,I.stkFree⟩,
  rfl,I.bare,Un.kept keep,⟨fun _=>none,(Heap.Ns.new s.heap (.type "dict")).keeps (pushCells_keeps _ _),fun i x v e1 e2 e3=>?_⟩,fun x c h1=>?_,I.hok.fresh (aw _),fun x c h1=>?_,fun p hp=>absurd (show p∈([]:List (ak×dz)) from hp) (by simp),I.hok.kept keep,?_⟩ keep
 ·exact S.kind
 ·rcases look x c h1 with ⟨a1,a2,_⟩ | ⟨a1,a2⟩<;>rcases look y c h2 with ⟨b1,b2,_⟩ | ⟨b1,b2⟩
  ·exact name_of_addr ok.apart (mem_of_lookup a1) (mem_of_lookup b1)
  ·exact absurd (bj b2 (ie a2)) (cq _)
  ·exact absurd (bj a2 (ie b2)) (cq _)
  ·exact I.ok.inj x y c a1 b1
 ·
  have hx':scope.names.lookup x=some .cell\/scope.names.lookup x=some .free:=by
   have e:(nh X scope s.heap.objs.size).kindOf x=(lO scope X.env).names.lookup x:=rfl
   have hx:(lO scope X.env).names.lookup x=some .cell\/(lO scope X.env).names.lookup x=some .free:=hx
   rw [lJ] at hx
   cases q:scope.names.lookup x with
   | none=>rw [q] at hx;rcases hx with z | z<;>cases z
   | some k =>
     rw [q] at hx
     simp only [cw] at hx
     by_cases hc:(k == ic&&X.env.scope.kind == .function&&X.env.kindOf x == some .cell)=true
     ·have:k=.free:=by
       rw [aU,aU] at hc
       simpa using hc.1.1
      exact .inr (by rw [this])
     ·rw [if_neg hc] at hx
      rcases hx with z | z
      ·cases z;exact .inl rfl
      ·cases z;exact .inr rfl
  rcases hx' with hx | hx
  ·have q:=gW scope.names (s.heap.objs.size+1) (gJ X.env.cells scope.names []) (.inl hx)
   exact jv.mp q
  ·obtain ⟨c,hc⟩:=cl _ (mem_of_lookup hx) rfl
   exact ⟨c,(freeLook x hx).trans hc⟩
 ·rcases look x c h1 with ⟨_,a2,_⟩ | ⟨a1,a2⟩
  ·exact ie a2
  ·
   exfalso
   have hf':scope.names.lookup x=some .cell:=by simpa using (show (scope.names.lookup x == some .cell)=true from hf)
   have q:=gW scope.names (s.heap.objs.size+1) ([]:List (bM×ak)) (.inl hf')
   obtain ⟨c',hc'⟩:=jv.mp q
   have h1':(eJ (s.heap.objs.size+1) scope.names (gJ X.env.cells scope.names [])).lookup x=some c:=h1
   rw [gn,mQ,hc'] at h1'
   cases h1'
   have:=(ok.empty x c (mem_of_lookup hc')).2
   exact absurd (bj a2 (ie this)) (cq _)
 ·exact bu (hfp b hb).2
 ·have:=(hfp b hb).2
  rcases look x c h1 with ⟨_,a2,_⟩ | ⟨a1,a2⟩
  ·subst z
   exact absurd (bj this (ie a2)) (cq _)
  ·exact (hfp b hb).1.2.2.2.2.1 x c a1 z
 ·rcases (hfp b hb).1.2.2.2.1 with z | z
  ·exact I.ok.noex b o e z
  ·have:=aH e
   have h2:=I.ok.bsz
   exact absurd (bj this (bO h2 z)) (cq _)
 ·rcases ao.mp (I.stkSub b hb2) with z | z
  ·exact (hfp b hb).1.2.1 z
  ·exact (hfp b hb).1.2.2.1 z
 ·
  unfold mpS at e2
  rw [aA] at e2
  cases q:ix[i]? with
  | none=>rw [q] at e2;cases e2
  | some o =>
    rw [q] at e2
    cases o with
    | none=>cases e2
    | some j =>
      obtain ⟨x',hx1,hx2⟩:=jB S.ix q
      have ex:x=x':=by
       have e1':(scope.names.map (·.1))[i]?=some x:=e1
       rw [aA,hx1] at e1'
       cases e1';rfl
      subst ex
      have hs:σ[j]?=some (some v):=by
       have e2':(σ[j]?).getD none=some v:=by simpa using e2
       cases q2:σ[j]? with
       | none=>rw [q2] at e2';cases e2'
       | some z=>rw [q2] at e2';exact congrArg some e2'
      have hl:=eX S.nd hx1
      have hk:=S.free _ (bJ hx1) rfl
      obtain ⟨m,_,hm⟩:=I.loc
      have hvis:Vis X.env.scope x:=by
       rcases hk with z | z
       ·exact .inr (.inl z)
       ·exact .inr (.inr z)
      obtain ⟨u,ru,lk⟩:=hm j x v hx2 hs hvis
      refine ⟨u,ru,.inr ⟨?_,?_⟩⟩
      ·show (lO scope X.env).names.lookup x=some .cell\/(lO scope X.env).names.lookup x=some .free
       rw [lJ,hl]
       simp only [cw]
       split
       ·exact .inl rfl
       ·exact .inr rfl
      ·rcases lk with ⟨z,_⟩ | ⟨_,c,hc,hcell⟩
       ·exfalso
        have hk':X.env.kindOf x=some .cell\/X.env.kindOf x=some .free:=hk
        rw [z] at hk'
        rcases hk' with y | y<;>cases y
       ·exact ⟨c,(freeLook x hl).trans hc,hcell.keeps keep⟩
 ·rcases look x c h1 with ⟨_,_,a3⟩ | ⟨a1,_⟩
  ·exact ⟨none,a3⟩
  ·obtain ⟨v,hv⟩:=I.cell x c a1
   exact ⟨v,hv.keeps keep⟩
 ·rcases look x c h1 with ⟨_,a2,_⟩ | ⟨a1,_⟩
  ·exact I.hok.fresh (by lia)
  ·exact I.freeC x c a1
 ·show (mpS ix σ).length=(scope.names.map (·.1)).length
  unfold mpS
  rw [ab,ab,kM S.ix]
end
noncomputable def PTS (X:Cx) (ifs:List aS) (t:TT):Prop :=
 ∀ (pins:List (ak×dz)) (s:ai) (σ:St) (H:Hp) (Q:Bool->Hp->Prop),Inv X pins σ H s->t σ H Q ->
   aM (bg X.prog X.w) X.A (forIn ifs true fun c r=>if r=true then do let ok <- isTrue c X.env (b9 c X.env);pure (jN ok) else pure (jN r)) (TP X pins σ Q) X.xe s
theorem Bx {X:Cx}:PTS X [] (fun _ H Q=>Q true H):=fun _ _ _ H _ I h=>wpAny_tests_nil ⟨H,I,h⟩
theorem FX {X:Cx} {c:aS} {t:TT} (h:PT X c t):PTS X [c] t:=fun pins s σ H Q I q=>wpAny_tests_one (h pins s σ H Q I q)
noncomputable def BV (mp:St->St) (wi:TI) (g:TG) (tt:TT) (te:TE):TE:=fun σ H Q=>wi σ H fun J H1=>∀ p,H1 p=none->∃ W:Nat->Nat->St->List V->Hp->Prop,(∃ m,W 0 m (mp σ) [] (upd H1 p (.lst []))) /\
 ∀ i m σ2 ys H2,W i m σ2 ys H2->H2 p=some (.lst ys)/\ys.length<aK/\((J.stop i H2/\Q (.ref p) H2)\/(J.go i H2/\∀ x H3,J.yld i H2 x H3->g x σ2 H3 fun σ4 H4=>tt σ4 H4 fun b H5 =>
   if b=true then te σ4 H5 fun y H6=>H6 p=some (.lst ys)/\∃ m',m'<m/\W (i+1) m' σ4 (ys++[y]) (upd H6 p (.lst (ys++[y]))) else ∃ m',m'<m/\W (i+1) m' σ4 ys H5))
structure JG (X:Cx) (scope:eI) (tg elt:aS) (ifs:List aS) (g:TG) (tt:TT) (te:TE):Prop where
 tg:∀ s H fp,PG (inC X scope s H fp) tg g
 ifs:∀ s H fp,PTS (inC X scope s H fp) ifs tt
 elt:∀ s H fp,PE (inC X scope s H fp) elt te
section
variable {X:Cx} {elt tg iter:aS} {ifs:List aS} {scope:eI} {pos:ft} {ix:List (Option Nat)} {wi:TI} {g:TG} {tt:TT} {te:TE}
theorem Bc {pins:List (ak×dz)} {σ σ1:St} {H3 H':Hp} {s3 s1:ai} {fp:List ak} {pl:List (ak×dz)} (I3:Inv X pins σ H3 s3) (f3:∀ b∈fp,y8 X pins H3 b) (I1:Inv (inC X scope s3 H3 fp) pl σ1 H' s1):Inv X pins σ H' s1 :=
 I3.call' (ch:=fp) I1.os I1.base I1.hok I1.bare fun b hb=>let ⟨_,a,_,c,d,e⟩:=f3 b hb;⟨c,a,d,e⟩
theorem B3 {pins:List (ak×dz)} {σ σ1:St} {H3 H':Hp} {s3 s1:ai} {fp:List ak} {pl:List (ak×dz)} {h':cy} (I3:Inv X pins σ H3 s3) (f3:∀ b∈fp,y8 X pins H3 b) (I1:Inv (inC X scope s3 H3 fp) pl σ1 H' s1)
 {s2:ai} {σ2:St} (J:Inv X pins σ2 H' s2) (hs:kx s3.heap.objs.size s2.heap h'):Inv X pins σ2 H' { s2 with heap:=h' }:=by
 refine J.turned (t':=s2.toks) (it:=s3.heap.objs.size) (fun b o hb e=>(hs.2 b hb).trans e) I1.free (Nat.ne_of_gt I3.lt) (.inr I3.sz) (fun x c e z=>?_) fun p hp z=>?_
 ·obtain ⟨v,hv⟩:=I3.cell x c e
  exact absurd hv.lt (by rw [z];exact cq _)
 ·have:=aH (I3.pin p hp).1
  rw [z] at this
  exact absurd this (cq _)
theorem Be {R:zd->ai->Prop} {pins:List (ak×dz)} {σ:St} {H3:Hp} {s3 s4:ai} {fp:List ak} {it p:ak} {tn:Nat->cy->Prop} {J:It} {Q:VK} (hc:X.calm=true) (I3:Inv X pins σ H3 s3) (f3:∀ b∈fp,y8 X pins H3 b) (T:G7 X.prog X.w X.K tg J fp it tn)
 (B:JG X scope tg elt ifs g tt te) (W:Nat->Nat->St->List V->Hp->Prop)
 (turn:∀ i m σ2 ys H2,W i m σ2 ys H2->H2 p=some (.lst ys)/\ys.length<aK/\((J.stop i H2/\Q (.ref p) H2)\/(J.go i H2/\∀ x H3,J.yld i H2 x H3->g x σ2 H3 fun σ4 H4=>tt σ4 H4 fun b H5 =>
   if b=true then te σ4 H5 fun y H6=>H6 p=some (.lst ys)/\∃ m',m'<m/\W (i+1) m' σ4 (ys++[y]) (upd H6 p (.lst (ys++[y]))) else ∃ m',m'<m/\W (i+1) m' σ4 ys H5)))
 (fin:∀ σ1 H1 s1,Inv (inC X scope s3 H3 fp) [] σ1 H1 s1->Q (.ref p) H1->R (.ok .next) s1)
 (m:Nat) (σ4:St) (I4:Inv (inC X scope s3 H3 fp) [] σ4 H3 s4) (st4:tn 0 s4.heap) (w0:W 0 m σ4 [] H3) :
 lN (bg X.prog X.w) X.A (.compLoop (.ListComp elt [⟨tg,iter,ifs,0⟩] scope pos) 0 (.ref it) (.ref p) (nh X scope s3.heap.objs.size)) R s4:=by
 have stat:∀ {H':Hp},(∀ b∈fp,H' b=none)->∀ b∈fp,y8 (inC X scope s3 H3 fp) [] H' b:=fun {H'} hn b hb=>by
  obtain ⟨a0,a1,a2,a3,a4,a5⟩:=f3 b hb
  have I4':=I4.ok.exf b hb
  refine ⟨hn b hb,I4'.1,fun z=>?_,.inl hb,I4'.2,fun q hq=>absurd (show q∈([]:List (ak×dz)) from hq) (by simp)⟩
  exact I4.ok.exfs b hb z
 refine codeAny_loop rfl (fun n s'=>∃ i σ' ys H',Inv (inC X scope s3 H3 fp) [] σ' H' s'/\tn i s'.heap/\(∀ b∈fp,H' b=none)/\W i n σ' ys H') ?_ m ⟨0,σ4,[],H3,I4,st4,fun b hb=>(f3 b hb).1,w0⟩
 rintro n s5 ⟨i,σ5,ys,H5,I5,st5,fr5,w5⟩
 show aM _ X.A ((compTurn (.ListComp elt [⟨tg,iter,ifs,0⟩] scope pos) 0 (.ref it) (.ref p) (nh X scope s3.heap.objs.size)).onRaise (fun x=>do noteFrame x (nh X scope s3.heap.objs.size);theTreesLotGoes x)) _ _ s5
 refine wpAny_noted ?_
 rw [compTurn_list]
 obtain ⟨hp,hz,alt⟩:=turn i n σ5 ys H5 w5
 rcases alt with ⟨stop,qn⟩ | ⟨go,step⟩
 ·refine aa (kF (aa (thn (T.done (inC X scope s3 H3 fp) rfl rfl rfl hc i [] s5 σ5 H5 _ I5 (stat fr5) st5 stop) fun r s6 ⟨hr,I6⟩=>?_)))
  subst hr
  exact al (fin σ5 H5 s6 I6 qn)
 ·refine aa (kF (aa (thn (T.item (inC X scope s3 H3 fp) rfl rfl rfl hc i [] s5 σ5 H5 _ I5 (stat fr5) st5 go) fun r s6 ⟨u,hr,h6⟩=>?_)))
  subst hr
  refine aa (thn h6 fun _ s7 ⟨x,H7,I7,r7,y7,st7,fr7⟩=>?_)
  have I7':=I7.pinned (stat fr7) (T.obj _ _ st7)
  have nox:∀ {α:Type} {t:Sem α} {P:α->ai->Prop} {E':ae->ai->Prop} {s':ai},aM (bg X.prog X.w) X.A t P (fun _ _=>False) s'->aM (bg X.prog X.w) X.A t P E' s':=fun h=>d6 h (fun _ _ z=>z) fun _ _ z=>z.elim
  refine aa (thn (nox (B.tg s3 H3 fp _ s7 σ5 H7 x u _ I7' r7 (step x H7 y7))) fun _ s8 ⟨σ8,H8,I8,q8⟩=>?_)
  refine aa (thn (nox (B.ifs s3 H3 fp _ s8 σ8 H8 _ I8 q8)) fun ok s9 ⟨H9,I9,q9⟩=>?_)
  have again:∀ {σ7:St} {H7':Hp} {s':ai} {zs:List V},Inv (inC X scope s3 H3 fp) ([]++tU fp s7.heap) σ7 H7' s'->(∃ m',m'<n/\W (i+1) m' σ7 zs H7')->∃ m',m'<n/\∃ i σ' ys H',Inv (inC X scope s3 H3 fp) [] σ' H' s'/\tn i s'.heap/\(∀ b∈fp,H' b=none)/\W i m' σ' ys H':=fun {σ7 H7' s' zs} J w=>by
   obtain ⟨m',hm,w⟩:=w
   refine ⟨m',hm,i+1,σ7,zs,H7',J.unpinned,T.keep _ _ _ st7 fun b hb o e=>(J.pin (b,o) (aW _ (aW _ (lq hb e)))).1,fun b hb=>?_,w⟩
   obtain ⟨o,e,d⟩:=T.obj _ _ st7 b hb
   exact (J.pin (b,o) (aW _ (aW _ (lq hb e)))).2.1
  cases ok with
  | false =>
    rw [if_neg aN] at q9
    exact al ⟨rfl,again I9 q9⟩
  | true =>
    rw [if_pos rfl] at q9
    refine aa (aa (thn (nox (B.elt s3 H3 fp _ s9 σ8 H9 _ I9 q9)) fun uy s10 ⟨y,H10,I10,ry,hp10,q10⟩=>?_))
    refine aa (thn (nox (tV (X:=inC X scope s3 H3 fp) _ s10 σ8 H10 (.ref p) [y] (.ref p) [uy] (fun _ H'=>H'=upd H10 p (.lst (ys++[y]))) I10 rfl (.cons ry .nil) ⟨p,ys,y,rfl,rfl,hp10,hz,rfl⟩)) fun _ s11 ⟨_,H11,I11,_,e11⟩=>?_)
    subst e11
    exact al (al ⟨rfl,again I11 q10⟩)
theorem zL (hc:X.calm=true) (S:CScope X scope ix) (hi:PI X tg iter wi) (B:JG X scope tg elt ifs g tt te) (hs:∀ x,fz iter X.env x=pure x:=by intro _;rfl):PE X (.ListComp elt [⟨tg,iter,ifs,0⟩] scope pos) (BV (mpS ix) wi g tt te):=by
 intro pins s σ H Q I h
 rw [eval_ListComp]
 refine wpAny_comprehension_free (use:=none) rfl hs (nq (S.cells I)) S.kind (fun y hy hl=>S.names (by rw [<- hl];exact hy)) ?_
 refine thn (hi pins s σ H _ I h) fun v s1 h1=>thn h1 fun itv s2 h2=>?_
 obtain ⟨it,fp,tn,J,H2,rfl,I2,T,st2,f2,hq⟩:=h2
 obtain ⟨W,⟨m0,w0⟩,turn⟩:=hq s2.heap.objs.size I2.fresh
 refine cQ ?_
 have I3:Inv X pins σ (upd H2 s2.heap.objs.size (.lst [])) { s2 with heap:=s2.heap.push { cls:=.type "list",data:=.seq ([]:List ae).toArray } }:=I2.lnew (its:=[]) (t':=s2.toks) .nil (bV _)
 have lt2:∀ b∈fp,b<s2.heap.objs.size:=fun b hb=>by obtain ⟨o,e,_⟩:=T.obj _ _ st2 b hb;exact aH e
 have f3:∀ b∈fp,y8 X pins (upd H2 s2.heap.objs.size (.lst [])) b:=fun b hb=>⟨by rw [bq (bu (lt2 b hb))];exact (f2 b hb).1,(f2 b hb).2⟩
 refine yO S I3 (fp:=fp) (fun b hb=>⟨f3 b hb,?_⟩) fun env h4 ee el I4 keep4=>?_
 ·show b<(s2.heap.push _).objs.size
  rw [lF]
  exact Nat.lt_succ_of_lt (lt2 b hb)
 rw [ee,el]
 have st4:tn 0 h4:=T.keep _ _ _ st2 fun b hb o e=>keep4 b o (ag _ e)
 have fin:∀ σ1 H1 s1,Inv (inC X scope { s2 with heap:=s2.heap.push { cls:=.type "list",data:=.seq ([]:List ae).toArray } } (upd H2 s2.heap.objs.size (.lst [])) fp) [] σ1 H1 s1->Q (.ref s2.heap.objs.size) H1 ->
  compPost (bg X.prog X.w) X.A X.xe none (EP X pins σ Q) (.ref s2.heap.objs.size) ((s2.heap.push { cls:=.type "list",data:=.seq ([]:List ae).toArray }).objs.size) (.ok .next) s1:=fun σ1 H1 s1 I1 q1=>by
  obtain ⟨m,hn,_⟩:=I1.loc
  exact ⟨m,hn,fun h' hs'=>⟨.ref s2.heap.objs.size,H1,B3 I3 f3 I1 (Bc I3 f3 I1) hs',rfl,q1⟩⟩
 have loop:=Be (iter:=iter) (pos:=pos) (R:=compPost (bg X.prog X.w) X.A X.xe none (EP X pins σ Q) (.ref s2.heap.objs.size) ((s2.heap.push { cls:=.type "list",data:=.seq ([]:List ae).toArray }).objs.size)) hc I3 f3 T B W turn fin m0 (mpS ix σ) I4 st4 w0
 exact codeAny_compStart_list loop (T.self X.A 0 _ _ _ st4 loop)
end
noncomputable def mpR (ix:List (Option Nat)) (ρ:Rho):Rho:=ix.map fun o=>match o with
 | some j=>(ρ[j]?).getD .no
 | none=>.no
theorem Ij {X:Cx} {scope:eI} {ix:List (Option Nat)} (S:CScope X scope ix) {i k j:Nat} (h1:ix[i]?=some (some j)) (h2:ix[k]?=some (some j)):i=k:=by
 obtain ⟨x,a1,a2⟩:=jB S.ix h1
 obtain ⟨y,b1,b2⟩:=jB S.ix h2
 rw [a2] at b2
 cases b2
 have c1:(scope.names.map (·.1))[i]?=some x:=by rw [aA,a1];rfl
 have c2:(scope.names.map (·.1))[k]?=some x:=by rw [aA,b1];rfl
 exact si S.nd c1 c2
theorem pL {ix:List (Option Nat)} {ρ:Rho} {i:Nat} {x:Sl} (h:(mpR ix ρ)[i]?=some x) (hx:x≠.no):∃ j,ix[i]?=some (some j)/\ρ[j]?=some x:=by
 unfold mpR at h
 rw [aA] at h
 cases q:ix[i]? with
 | none=>rw [q] at h;cases h
 | some o =>
   rw [q] at h
   cases o with
   | none=>cases h;exact absurd rfl hx
   | some j =>
     have h':(ρ[j]?).getD .no=x:=by simpa using h
     cases z:ρ[j]? with
     | none=>rw [z] at h';exact absurd h'.symm hx
     | some y=>rw [z] at h';exact ⟨j,rfl,z.trans (congrArg some h')⟩
theorem v4 {ix:List (Option Nat)} {σ:St} {i j:Nat} {v:V} (h:ix[i]?=some (some j)) (hs:σ[j]?=some (some v)):(mpS ix σ)[i]?=some (some v):=by
 unfold mpS
 rw [aA,h]
 simp [hs]
theorem wU {ix:List (Option Nat)} {σ:St} {i j:Nat} {v:V} (h:ix[i]?=some (some j)) (hs:(mpS ix σ)[i]?=some (some v)):σ[j]?=some (some v):=by
 unfold mpS at hs
 rw [aA,h] at hs
 have h':(σ[j]?).getD none=some v:=by simpa using hs
 cases z:σ[j]? with
 | none=>rw [z] at h';cases h'
 | some y=>rw [z] at h';exact congrArg some h'
theorem iK.mp {X:Cx} {scope:eI} {ix:List (Option Nat)} {K:ac} {B G H:Hp} {σ:St} {ρ:Rho} (S:CScope X scope ix) (h:iK K B G H σ ρ):iK K B G H (mpS ix σ) (mpR ix ρ):=by
 refine ⟨by unfold mpS mpR;rw [ab,ab],fun i d e=>?_,fun i d e=>?_,fun i k d d' l hik e1 e2 s1 s2=>?_,h.tg⟩
 ·obtain ⟨j,hj,hr⟩:=pL e (by intro z;cases z)
  obtain ⟨v,hv,dv⟩:=h.pu j d hr
  exact ⟨v,v4 hj hv,dv⟩
 ·obtain ⟨j,hj,hr⟩:=pL e (by intro z;cases z)
  obtain ⟨l,o,hv,r⟩:=h.ow j d hr
  exact ⟨l,o,v4 hj hv,r⟩
 ·obtain ⟨j,hj,hr⟩:=pL e1 (by intro z;cases z)
  obtain ⟨j',hj',hr'⟩:=pL e2 (by intro z;cases z)
  refine h.ap j j' d d' l (fun z=>?_) hr hr' (wU hj s1) (wU hj' s2)
  subst z
  exact hik (Ij S hj hj')
theorem iK.other {K:ac} {B G H:Hp} {σ:St} {ρ:Rho} {p:ak} {o o':HO} (h:iK K (upd B p o) G H σ ρ):iK K (upd B p o') G (upd H p o') σ ρ:=by
 refine ⟨h.len,h.pu,fun i d e=>?_,h.ap,h.tg⟩
 obtain ⟨l,ob,a,nb,ng,hl,r⟩:=h.ow i d e
 have ne:l≠p:=fun z=>by subst z;rw [aV] at nb;cases nb
 exact ⟨l,ob,a,by rw [bq ne] at nb ⊢;exact nb,ng,by rw [bq ne];exact hl,r⟩
noncomputable def qk (t:Da->Rho->Option Rho) (c:Rho->Option Bool) (f:Rho->Option Rv):List Da->Rho->Option (List Da)
 | [],_=>some []
 | d::ds,ρ=>match t d ρ with
   | none=>none
   | some ρ1=>match c ρ1 with
     | none=>none
     | some false=>qk t c f ds ρ1
     | some true=>match f ρ1 with
       | none=>none
       | some r=>if fj r=true then (match qk t c f ds ρ1 with
         | none=>none
         | some es=>some (r.2::es)) else none
noncomputable def fO (ix:List (Option Nat)) (fi:Rho->Option (List Da)) (t:Da->Rho->Option Rho) (c:Rho->Option Bool) (f:Rho->Option Rv):Rho->Option Rv:=fun ρ=>match fi ρ with
 | none=>none
 | some ds=>if ds.length<=1000000 then (match qk t c f ds (mpR ix ρ) with
   | none=>none
   | some es=>some (.fr,.lst es)) else none
theorem GC {X:Cx} {scope:eI} {ix:List (Option Nat)} {fi:Rho->Option (List Da)} {t:Da->Rho->Option Rho} {c:Rho->Option Bool} {f:Rho->Option Rv} (S:CScope X scope ix) {σ:St} {H:Hp} {Q:VK} (q:tX X.K (fO ix fi t c f) σ H Q) :
 BV (mpS ix) (iX X.K fi) (gX X.K t) (tXT X.K c) (tX X.K f) σ H Q:=by
 obtain ⟨B,G,ρ,r,sg,sb,st,e,k⟩:=q
 unfold fO at e
 split at e
 ·cases e
 ·rename_i ds efi
  split at e
  case isFalse=>cases e
  case isTrue hz =>
  split at e
  ·cases e
  ·rename_i es ees
   cases e
   have hsz:aK=16777216:=bG
   refine ⟨B,G,ρ,ds,sg,sb,st,efi,fun J G1 H1 E1 it p hp=>?_⟩
   have hp0:H p=none:=E1.hh.free hp
   refine ⟨fun i m σ2 ys H2=>m=ds.length-i/\i<=ds.length/\∃ G2 ρ2 done rest,Ext G H G2 H2/\cW G1 G2/\G2 p=none/\H2 p=some (.lst ys)/\cS X.K G2 done ys/\done.length<=i/\qk t c f (ds.drop i) ρ2=some rest/\done++rest=es/\iK X.K (upd B p (.lst ys)) G2 H2 σ2 ρ2,
    ⟨ds.length,by simp,bV _,G1,mpR ix ρ,[],es,E1.trans (Ext.own E1.gh hp),cW.refl _,E1.gh.free hp,aV,rfl,bV _,by rw [ji];exact ees,rfl,?_⟩,?_⟩
   ·have st1:=((st.ext E1).ext (Ext.own (o:=.lst []) E1.gh hp)).mp S
    refine ⟨st1.len,st1.pu,fun i d q=>?_,st1.ap,st1.tg⟩
    obtain ⟨l,o,a,nb,ng,hl,r⟩:=st1.ow i d q
    have ne:l≠p:=fun z=>by
     subst z
     obtain ⟨j,hj,hr⟩:=pL q (by intro z;cases z)
     obtain ⟨l',o',a',_,_,hl',_⟩:=(st.ext E1).ow j d hr
     have:=v4 hj a'
     rw [a] at this
     cases this
     rw [hp] at hl';cases hl'
    exact ⟨l,o,a,by rw [bq ne];exact nb,ng,hl,r⟩
   ·rintro i m σ2 ys H2 ⟨rfl,hi,G2,ρ2,done,rest,E2,s12,gp,hp2,dl,hdl,ecl,eapp,st2⟩
    have hln:=dl.length
    refine ⟨hp2,by lia,?_⟩
    have sB2:cW (upd B p (.lst ys)) H2:=fun b o z=>by
     by_cases hb:b=p
     ·subst hb;rw [aV] at z;rw [<- z];exact hp2
     ·rw [bq hb] at z;exact E2.hh b o (sb b o z)
    by_cases hlt:i<ds.length
    ·obtain ⟨d,hd⟩:∃ d,ds[i]?=some d:=⟨ds[i],by simp [hlt]⟩
     have hdrop:ds.drop i=d::ds.drop (i+1):=by
      rw [e5 hlt]
      congr 1
      rw [aj hlt] at hd
      exact bU hd
     rw [hdrop] at ecl
     unfold qk at ecl
     split at ecl
     ·cases ecl
     ·rename_i ρ1 et
      obtain ⟨hgo,hy⟩:=(it i G2 H2 s12 E2.gh).1 d hd
      refine .inr ⟨hgo,fun x H3 yl=>?_⟩
      obtain ⟨G3,E3,dx⟩:=hy x H3 yl
      refine ⟨upd B p (.lst ys),G3,G3,ρ2,d,ρ1,⟨sB2.trans E3.hh,cW.refl _,E3.gh,fun _ _ _ _ z=>z⟩,st2.ext E3,dx,et,fun σ4 st4=>?_⟩
      split at ecl
      ·cases ecl
      ·rename_i ec
       refine ⟨upd B p (.lst ys),G3,ρ1,false,E3.gh,sB2.trans E3.hh,st4,ec,fun G4 H4 E4=>?_⟩
       refine JL ?_
       have E24:=E3.trans E4
       refine ⟨ds.length-(i+1),by lia,rfl,hlt,G4,ρ1,done,rest,E2.trans E24,s12.trans E24.gg,E24.nw _ _ hp2 rfl gp,E24.hh _ _ hp2,cS.mono E24.gg _ dl,by lia,ecl,eapp,st4.ext E4⟩
      ·rename_i ec
       refine ⟨upd B p (.lst ys),G3,ρ1,true,E3.gh,sB2.trans E3.hh,st4,ec,fun G4 H4 E4=>?_⟩
       refine HU ?_
       split at ecl
       ·cases ecl
       ·rename_i r er
        split at ecl
        case isFalse=>cases ecl
        case isTrue hpu =>
        split at ecl
        ·cases ecl
        ·rename_i es' ees'
         cases ecl
         refine ⟨upd B p (.lst ys),G4,ρ1,r,E4.gh,(sB2.trans E3.hh).trans E4.hh,st4.ext E4,er,fun y G5 H5 E5 r5=>?_⟩
         obtain ⟨G6,E6,s56,dy⟩:=r5.pure E5 hpu
         have E26:=(E3.trans E4).trans E6
         have hp5:=E26.hh _ _ hp2
         have gp6:=E26.nw _ _ hp2 rfl gp
         have E06:=E2.trans E26
         refine ⟨hp5,ds.length-(i+1),by lia,rfl,hlt,G6,ρ1,done++[r.2],es',⟨lh E06.hh hp0,E06.gg,lh E06.gh gp6,E06.nw⟩,s12.trans E26.gg,gp6,aV,cS.append (cS.mono E26.gg _ dl) (cS.one dy),by rw [aO,bx];lia,ees',by rw [eB];exact eapp,?_⟩
         exact ((st4.ext E4).ext E6).other
    ·have ei:i=ds.length:=by lia
     subst ei
     rw [j9] at ecl
     cases ecl
     rw [e8] at eapp
     subst eapp
     exact .inl ⟨(it ds.length G2 H2 s12 E2.gh).2 rfl,k _ G2 H2 E2 ⟨p,_,rfl,hp0,gp,hp2,ys,rfl,dl⟩⟩
structure Jm (X:Cx) (scope:eI) (tg elt:aS) (ifs:List aS) (t:Da->Rho->Option Rho) (c:Rho->Option Bool) (f:Rho->Option Rv):Prop where
 tg:∀ s H fp,PXG (inC X scope s H fp) tg t
 ifs:∀ s H fp,PTS (inC X scope s H fp) ifs (tXT X.K c)
 elt:∀ s H fp,PX (inC X scope s H fp) elt f
theorem Fg {X:Cx}:PTS X [] (tXT X.K fun _=>some true):=fun pins s σ H Q I ⟨B,G,ρ,b,sg,sb,st,e,k⟩=>by cases e;exact Bx pins s σ H Q I (k G H (Ext.refl sg))
theorem Hm {X:Cx} {c:aS} {t:Rho->Option Bool} (h:PXT X c t):PTS X [c] (tXT X.K t):=FX h
section
variable {X:Cx} {elt tg iter:aS} {ifs:List aS} {scope:eI} {pos spos py:ft} {ix:List (Option Nat)} {fi:Rho->Option (List Da)} {t:Da->Rho->Option Rho} {c:Rho->Option Bool} {f:Rho->Option Rv}
theorem GB (hc:X.calm=true) (S:CScope X scope ix) (hi:PXI X tg iter fi) (B:Jm X scope tg elt ifs t c f) (hs:∀ x,fz iter X.env x=pure x:=by intro _;rfl):PX X (.ListComp elt [⟨tg,iter,ifs,0⟩] scope pos) (fO ix fi t c f) :=
 PE.imp (zL hc S hi ⟨B.tg,B.ifs,B.elt⟩ hs) fun _ _ _ q=>GC S q
end
noncomputable def wI (outer:List (bM×eC)):List (bM×eC)->Bool
 | []=>true
 | (x,k)::r=>(!(k == .free)||outer.lookup x == some .cell||outer.lookup x == some .free)&&wI outer r
theorem t6 {outer:List (bM×eC)}:∀ {names:List (bM×eC)},wI outer names=true->∀ y∈names,y.2=.free->outer.lookup y.1=some .cell\/outer.lookup y.1=some .free
 | [],_,y,hy,_=>by simp at hy
 | (x,k)::r,h,y,hy,hf=>by
   unfold wI at h
   rw [aU] at h
   rcases ao.mp hy with rfl | hy
   ·have h1:=h.1
    dsimp only at hf
    subst hf
    rcases iQ _ _▸h1 with z | z
    ·rcases iQ _ _▸z with w | w
     ·exact absurd w (by decide)
     ·exact .inl (by simpa using w)
    ·exact .inr (by simpa using z)
   ·exact t6 h.2 y hy hf
theorem gB {X:Cx} {scope:eI} {ix:List (Option Nat)} (h1:scope.kind=.function) (h2:(scope.names.map (·.1)).Nodup) (h3:wI X.env.scope.names scope.names=true) (h4:uf X.N scope.names ix=true):CScope X scope ix :=
 ⟨h1,h2,fun y hy hf=>t6 h3 y hy hf,h4⟩
theorem cnd {X:Cx} {scope:eI} {s:ai} {H:Hp} {fp:List ak} (h:(scope.names.map (·.1)).Nodup):(inC X scope s H fp).N.Nodup:=h
section
variable {X:Cx} {a b c e:aS} {es:List aS} {p pos pos':ft} {f fa fb fc:Rho->Option Rv} {g:Rho->Option (List Rv)}
theorem Et (hg:Gl X "len") (hm:X.mg "len" = none) (ha:PXA X (e::es) g) (he:am (e::es) X.env=(false,b9 e X.env)::am es X.env:=by exact bR rfl) (hpl:(cz pos (am es X.env)).any (·.1)=false:=by rfl):PX X (.Call (.Name "len" p) (e::es) [] pos) (xB sI g) :=
 EC uC HJ hg hm PySem.boot_len ha (by decide) (by decide) he hpl
theorem Dv (hg:Gl X "tuple") (hm:X.mg "tuple" = none) (ha:PXA X (e::es) g) (he:am (e::es) X.env=(false,b9 e X.env)::am es X.env:=by exact bR rfl) (hpl:(cz pos (am es X.env)).any (·.1)=false:=by rfl):PX X (.Call (.Name "tuple" p) (e::es) [] pos) (xB hE g) :=
 Kw rV zG hg hm (by decide +kernel) ha (by decide) (by decide) he hpl
theorem Fz (hg:Gl X "list") (hm:X.mg "list" = none) (ha:PXA X (e::es) g) (he:am (e::es) X.env=(false,b9 e X.env)::am es X.env:=by exact bR rfl) (hpl:(cz pos (am es X.env)).any (·.1)=false:=by rfl):PX X (.Call (.Name "list" p) (e::es) [] pos) (xB oZ g) :=
 Kw ue DW hg hm (by decide +kernel) ha (by decide) (by decide) he hpl
noncomputable def pe (f:Rho->Option Rv):Rho->Option Rv:=fun ρ=>match f ρ with
 | some (_,.int i)=>some (.pu,.int (-i))
 | _=>none
theorem J9 (ha:PX X a fa):PX X (.UnaryOp .USub a pos) (pe fa):=PE.imp (Lc Jl ha) fun σ H Q ⟨B,G,ρ,r,sg,sb,st,eq,k⟩=>by
 unfold pe at eq
 split at eq
 ·rename_i kd i q
  cases eq
  exact ⟨B,G,ρ,_,sg,sb,st,q,fun v G1 H1 E1 r1=>⟨i,r1.int,k _ G1 H1 E1 rfl⟩⟩
 ·cases eq
noncomputable def jE (fd fk fx:Rho->Option Rv):Rho->Option Rv:=fun ρ=>match fd ρ,fk ρ,fx ρ with
 | some d,some k,some x=>match mv d.2 k.2 with
   | some (some e)=>some (.pu,e)
   | some none=>some x
   | none=>none
 | _,_,_=>none
theorem Jx {K:ac} {B H0 G H:Hp} {r:Rv} {v:V} {k:Da} {o:Option Da} (sg:cW G H) (h:h8 K B H0 G H r v) (e:mv r.2 k=some o):∃ a,v=.ref a/\IsD H a:=by
 obtain ⟨kd,d⟩:=r
 cases d with
 | dK ks ds=>obtain ⟨a,kvs,rfl,q,_⟩:=h.dK sg;exact ⟨a,rfl,.inl ⟨kvs,q⟩⟩
 | dT ks ds=>obtain ⟨a,kvs,rfl,q,_⟩:=h.dT sg;exact ⟨a,rfl,.inr ⟨kvs,q⟩⟩
 | _=>unfold mv at e;cases e
theorem BD {apos:ft} {o:aS} {fo:Rho->Option Rv} (hu:X.A.units+1<cr) (ho:PX X o fo) (ha:PX X a fa) (hb:PX X b fb) (hbase:gv o "get" X.env (b9 o X.env)=b9 o X.env:=by rfl)
 (hfew:((cz pos (am [a,b] X.env)).all (fun x=>!x.1)&&(lw pos (ik [] X.env)).all (fun x=>x.1.isSome)&&decide (([a,b]:List aS).length+([]:List jb).length+(if ([]:List jb).isEmpty then 0 else 1)<30))=true:=by rfl)
 (hline:(apos.endLine == pos.line)=true:=by rfl) (htr:cz pos (am [a,b] X.env)=[(false,b9 a X.env),(false,b9 b X.env)]:=by rfl):PX X (.Call (.Attribute o "get" apos) [a,b] [] pos) (jE fo fa fb) :=
 PE.imp (DY hu ho ha hb ⟨hbase,hfew,hline,htr⟩) fun σ H Q ⟨B,G,ρ,r,sg,sb,st,eq,k⟩=>by
  unfold jE at eq
  split at eq
  ·rename_i d k' x ed ek ex
   refine ⟨B,G,ρ,d,sg,sb,st,ed,fun v G1 H1 E1 r1=>?_⟩
   have look:∃ o,mv d.2 k'.2=some o:=by
    split at eq
    ·exact ⟨_,by assumption⟩
    ·exact ⟨_,by assumption⟩
    ·cases eq
   obtain ⟨oo,eo⟩:=look
   obtain ⟨a',rfl,isd⟩:=Jx E1.gh r1 eo
   refine ⟨a',rfl,isd,B,G1,ρ,k',E1.gh,sb.trans E1.hh,st.ext E1,ek,fun y G2 H2 E2 r2=>⟨B,G2,ρ,x,E2.gh,(sb.trans E1.hh).trans E2.hh,(st.ext E1).ext E2,ex,fun z G3 H3 E3 r3=>?_⟩⟩
   have E12:=E1.trans E2
   obtain ⟨p',ov,ep,g,m⟩:=o4 (H0:=H) E3.gh ((r1.ext E2).ext E3) ((r2.base (H0:=H) E1.hh).ext E3) eo
   cases ep
   refine ⟨ov,g,?_⟩
   rw [eo] at eq
   cases oo with
   | some e' =>
     cases eq
     obtain ⟨w,rfl,dw⟩:=m
     exact k w G3 H3 (E12.trans E3) dw
   | none =>
     cases eq
     cases m
     exact k z G3 H3 (E12.trans E3) (r3.base (E1.hh.trans E2.hh))
  ·cases eq
noncomputable def gZ {κ:Type} [DecidableEq κ]:List κ->List Da->κ->Da->List Da
 | k::ks,d::ds,j,e=>if k=j then e::ds else d::gZ ks ds j e
 | _,_,_,e=>[e]
noncomputable def hV {κ:Type} [DecidableEq κ]:List κ->κ->List κ
 | k::ks,j=>if k=j then k::ks else k::hV ks j
 | [],j=>[j]
theorem Ac {κ:Type} [DecidableEq κ] {k j:κ} {v y:V} {r:List (κ×V)} (nd:((k,v)::r).map (·.1) |>.Nodup):lB ((k,v)::r) j y=if k=j then (k,y)::r else (k,v)::lB r j y:=by
 have nd':k∉r.map (·.1)/\(r.map (·.1)).Nodup:=be.mp nd
 unfold lB
 by_cases h:k=j
 ·subst h
  rw [if_pos (by rw [jM];simp),if_pos rfl,ax,if_pos rfl]
  congr 1
  conv=>rhs;rw [<- List.map_id r]
  refine cY fun p hp=>?_
  have:p.1≠k:=fun z=>nd'.1 (by rw [<- z];exact az.mpr ⟨p,hp,rfl⟩)
  rw [if_neg this];rfl
 ·rw [if_neg h,jM,decide_eq_false h,Bool.false_or]
  by_cases h2:(r.any fun kv=>decide (kv.1=j))=true
  ·rw [if_pos h2,if_pos h2,ax,if_neg h]
  ·rw [if_neg h2,if_neg h2];rfl
theorem vE {K:ac} {G:Hp} {κ:Type} [DecidableEq κ]:∀ {kvs:List (κ×V)} {ks:List κ} {ds:List Da} (j:κ) {d:Da} {v:V},ks.Nodup->kvs.map (·.1)=ks->cS K G ds (kvs.map (·.2))->Den K G d v ->
 (lB kvs j v).map (·.1)=hV ks j/\cS K G (gZ ks ds j d) ((lB kvs j v).map (·.2))
 | [],ks,ds,j,d,v,_,e,h,hd=>by
   subst e
   cases ds with
   | nil=>exact ⟨rfl,cS.one hd⟩
   | cons d ds=>obtain ⟨x,r,e,_⟩:=h;cases e
 | (k,w)::r,ks,ds,j,d,v,nd,e,h,hd=>by
   subst e
   cases ds with
   | nil=>cases (show (w::r.map (·.2))=[] from h)
   | cons d' ds =>
     obtain ⟨x,xr,ex,h1,h2⟩:=h
     injection ex with e1 e2
     subst e1;subst e2
     rw [Ac nd]
     have nd2:(r.map (·.1)).Nodup:=(be.mp (show (k::r.map (·.1)).Nodup from nd)).2
     by_cases hk:k=j
     ·rw [if_pos hk]
      refine ⟨?_,?_⟩
      ·show k::r.map (·.1)=if k=j then _ else _;rw [if_pos hk]
      ·show cS K G (if k=j then _ else _) _;rw [if_pos hk];exact ⟨_,_,rfl,hd,h2⟩
     ·rw [if_neg hk]
      obtain ⟨i1,i2⟩:=vE (K:=K) (G:=G) (kvs:=r) (ks:=r.map (·.1)) (ds:=ds) j nd2 rfl h2 hd
      refine ⟨?_,?_⟩
      ·show k::(lB r j v).map (·.1)=if k=j then _ else _;rw [if_neg hk,i1]
      ·show cS K G (if k=j then _ else _) _;rw [if_neg hk];exact ⟨_,_,rfl,h1,i2⟩
noncomputable def HY:Da->Da->Da->Option Da
 | .dK ks ds,k,v=>match E8 k with
   | some j=>if ks.Nodup/\ks.length<=1000000 then some (.dK (hV ks j) (gZ ks ds j v)) else none
   | none=>none
 | .dT ks ds,.tup es,v=>match mN es with
   | some j=>if ks.Nodup/\ks.length<=1000000 then some (.dT (hV ks j) (gZ ks ds j v)) else none
   | none=>none
 | _,_,_=>none
noncomputable def CQ (i:Nat) (fk fv:Rho->Option Rv):Rho->Res:=fun ρ=>match ρ[i]?,fk ρ,fv ρ with
 | some (.ow d),some k,some v=>if fj v=true then (match HY d k.2 v.2 with
   | some d'=>.nx (ρ.set i (.ow d'))
   | none=>.bad) else .bad
 | _,_,_=>.bad
theorem Ds {K:ac} {B H0 G H:Hp} {d d':Da} {o:HO} {l:ak} {k:Rv} {y v:V} {dv:Da} (sg:cW G H) (hl:H l=some o) (hd:Holds K G d o) (rk:h8 K B H0 G H k y) (hv:Den K G dv v) (e:HY d k.2 dv=some d') :
 ∃ o',CV H l y v (upd H l o')/\Holds K G d' o':=by
 obtain ⟨kd,kk⟩:=k
 have hs:aK=16777216:=bG
 cases d with
 | dK ks ds =>
   have e:(match E8 kk with
    | some j=>if ks.Nodup/\ks.length<=1000000 then some (Da.dK (hV ks j) (gZ ks ds j dv)) else none
    | none=>none)=some d':=by cases kk<;>exact e
   split at e
   ·rename_i j ej
    split at e
    ·rename_i hnd
     cases e
     obtain ⟨kvs,rfl,ek,dl⟩:=hd
     have ey:y=kV j:=Bg ej (rk.den sg (BF ej))
     obtain ⟨p1,p2⟩:=vE (K:=K) (G:=G) j hnd.1 ek dl hv
     have hlen:kvs.length=ks.length:=by rw [<- ek,ab]
     exact ⟨.dK (lB kvs j v),.inl ⟨kvs,j,hl,ey,by lia,rfl⟩,_,rfl,p1,p2⟩
    ·cases e
   ·cases e
 | dT ks ds =>
   cases kk with
   | tup es =>
     have e:(match mN es with
      | some j=>if ks.Nodup/\ks.length<=1000000 then some (Da.dT (hV ks j) (gZ ks ds j dv)) else none
      | none=>none)=some d':=e
     split at e
     ·rename_i j ej
      split at e
      ·rename_i hnd
       cases e
       obtain ⟨kvs,rfl,ek,dl⟩:=hd
       obtain ⟨t,xs,rfl,qt,dl2,_⟩:=rk.tup sg
       rw [vY ej dl2] at qt
       obtain ⟨p1,p2⟩:=vE (K:=K) (G:=G) j hnd.1 ek dl hv
       have hlen:kvs.length=ks.length:=by rw [<- ek,ab]
       exact ⟨.dT (lB kvs j v),.inr ⟨kvs,j,t,hl,rfl,qt,by lia,rfl⟩,_,rfl,p1,p2⟩
      ·cases e
     ·cases e
   | _=>cases e
 | _=>cases e
theorem Hl {i:Nat} {x:bM} {px:ft} (hu:X.A.units+64<cr) (hk:PX X a fa) (hv:PX X b fb) (hN:X.N[i]?=some x:=by rfl) (hvis:Vis X.env.scope x:=by first | exact dX rfl | exact d9 (dX rfl) | exact d9 (d9 rfl)) (hd:(x == ("__debug__" : bM))=false:=by decide)
 (hcd:(x == ("__classdict__" : bM))=false:=by decide) (hs:gT b (some (.Subscript (.Name x px) a pos')) pos.line X.env=pure false:=by rfl):PXS X (.Assign [.Subscript (.Name x px) a pos'] b pos) (CQ i fa fb) :=
 PS.imp (po (by lia) (wQ hN hvis hd hcd) hk hv hs) fun D σ H ⟨B,G0,G,ρ,E,st,k⟩=>by
  unfold CQ at k
  split at k
  ·rename_i d rk rv eo ek ev
   split at k
   ·rename_i hpu
    refine ⟨B,G,ρ,rv,E.gh,E.hh,st,ev,fun v G1 H1 E1 r1=>?_⟩
    obtain ⟨G2,E2,_,dv⟩:=r1.pure E1 hpu
    obtain ⟨l,o,a',nb,ng,hl,hd'⟩:=(st.ext E2).ow i d eo
    refine ⟨_,a',B,G2,ρ,rk,E2.gh,E.hh.trans E2.hh,st.ext E2,ek,fun y G3 H3 E3 r3=>?_⟩
    split at k
    ·rename_i d' ed
     obtain ⟨o',hput,hh⟩:=Ds E3.gh (E3.hh _ _ hl) (hd'.mono E3.gg) r3 (Den.mono E3.gg _ dv) ed
     have E03:=(E.trans E2).trans E3
     exact ⟨l,_,rfl,hput,k _ G3 _ (E03.mut nb (E3.nw _ _ hl hd'.nt ng)) (E2.gg.trans E3.gg) (((st.ext E2).ext E3).mut eo a' hh)⟩
    ·exact k.elim
   ·exact k.elim
  ·exact k.elim
noncomputable def Mi (i j:Nat):Rho->Res:=fun ρ=>match ρ[i]? with
 | some (.ow (.lst ds))=>match ds.getLast? with
   | some d=>.nx ((ρ.set i (.ow (.lst ds.dropLast))).set j (.pu d))
   | none=>.bad
 | _=>.bad
noncomputable def Fk (i:Nat) (f:Rho->Option Rv):Rho->Res:=fun ρ=>match ρ[i]?,f ρ with
 | some (.ow (.lst ds)),some (.fr,.lst es)=>if ds.length+es.length<=1000000 then .nx (ρ.set i (.ow (.lst (ds++es)))) else .bad
 | _,_=>.bad
end
structure Ca (P:bC) (w:cf) (K:ac) (mg:bM->Option ae) (base:cy) (x:bM) (ps:List bM) (k n:Nat) (fn:List Da->Option Da):Prop where
 ex:∃ (a:ak) (fd:dG),mg x=some (.ref a)/\aY K (.ref a)=true/\sr K fd ps []/\vF P w K mg base CX0 k a fd ps (spD K n fn)
theorem rQ {X:Cx} {k n:Nat} {ps:List bM} {fn:List Da->Option Da} {x:bM} {p pos:ft} {e:aS} {es:List aS} {g:Rho->Option (List Rv)} (C:Ca X.prog X.w X.K X.mg X.base x ps k n fn) (hr:jf k X.A) (hg:Gl X x) (ha:PXA X (e::es) g) (hlen:∀ ρ rs,g ρ=some rs->rs.length=n)
 (hdb:(x == ("__debug__" : bM))=false:=by decide) (he:am (e::es) X.env=(false,b9 e X.env)::am es X.env:=by exact bR rfl) (hpl:(cz pos (am es X.env)).any (·.1)=false:=by rfl):PX X (.Call (.Name x p) (e::es) [] pos) (cC fn g):=by
 obtain ⟨a,fd,hm,hk,hb,F⟩:=C.ex
 exact GZ F hr hg hm hk hb ha hlen hdb he hpl
noncomputable def fy (K:ac) (mg:bM->Option ae) (x:bM) (st:cX):Prop:=∃ (a:ak) (fd:dG),Fun K x x st a fd/\mg x=some (.ref a)
theorem K0 {P:bC} {w:cf} {K:ac} {mg:bM->Option ae} {base:cy} {x:bM} {st:cX} {N ps:List bM} {k n:Nat} {g:Rho->Res} (hf:fy K mg x st) (S:g8 N ps (bh st)) (hn:ps.length=n)
 (hbind:∀ (kV doc pm:ae) (an:Option ak) (cdv ct:ae) (us:List ae),us.length=ps.length->jT (aZ x x (cF st) (cg st) (bh st) .none kV doc pm an cdv ct) ⟨us,[]⟩=pure (ps.zip us))
 (hbody:∀ (f:ak) (cdv:ae) (A:bL) (outer:List p4) (s:ai) (H:Hp) (E:XK),jf k (A.deeper (fG x (bh st) s.heap.objs.size f cdv))->xK (xg CX0 P w K mg base N x (bh st) f cdv A outer s H E).nox (cg st) g) :
 Ca P w K mg base x ps (k+1) n (jr N.length g):=by
 obtain ⟨a,fd,F,hm⟩:=hf
 exact ⟨a,fd,hm,F.kp,F.binds hbind,ES F S hn fun cdv A outer s H E hr=>hbody a cdv A outer s H E hr⟩
section
variable {X:Cx} {a b c e:aS} {es:List aS} {p p2 pos pos':ft} {fa fb fc f:Rho->Option Rv} {g:Rho->Option (List Rv)}
noncomputable def wf (i:Da->Option Bool) (f:Rho->Option Rv):Rho->Option Rv:=fun ρ=>match f ρ with
 | some r=>match i r.2 with
   | some b=>some (.pu,.bl b)
   | none=>none
 | none=>none
noncomputable def Hk:Da->Option Bool
 | .bl _=>some true | .int _=>some true | .non=>some false | .str _=>some false | .tup _=>some false | .lst _=>some false | _=>none
noncomputable def Dw:Da->Option Bool
 | .bl _=>some true | .int _=>some false | .non=>some false | .str _=>some false | .tup _=>some false | .lst _=>some false | _=>none
noncomputable def nW:List Da->Option (List Bool)
 | []=>some []
 | .bl b::r=>(nW r).map (b::·)
 | _=>none
theorem pO:∀ {ds:List Da} {bs:List Bool},nW ds=some bs->ds=bs.map Da.bl
 | [],ns,h=>by cases h;rfl
 | d::r,ns,h=>by
   cases d with
   | bl i =>
     have h:(nW r).map (i::·)=some ns:=h
     cases q:nW r with
     | none=>rw [q] at h;cases h
     | some ms=>rw [q] at h;cases h;rw [pO q];rfl
   | _=>cases h
theorem pk {K:ac} {G:Hp}:∀ {bs:List Bool} {xs:List V},cS K G (bs.map Da.bl) xs->xs=bs.map V.bl
 | [],_,h=>h
 | b::bs,_,h=>by obtain ⟨x,r,rfl,h1,h2⟩:=h;cases (show _=_ from h1);rw [pk h2];rfl
theorem nC:∀ {bs:List Bool} {us:List ae},eG (bs.map V.bl) us->us=bs.map gf
 | [],_,r=>by rw [ja] at r;cases r;rfl
 | b::bs,_,r=>by rw [ax] at r;cases r with | cons r1 r2=>cases (show _=_ from r1);rw [nC r2];rfl
theorem sU {bs:List Bool} {i:Nat} (h:i<bs.length):bs.getD i false=bs[i]:=by simp [h]
theorem Bu (bs:List Bool):(bH bs.length).all (fun i=>bs.getD i false)=bs.all id:=by
 rw [cp,cH,cH]
 constructor
 ·intro h x hx
  obtain ⟨i,hi,e⟩:=wC.mp hx
  have:=h i (jg.mpr hi)
  rw [sU hi,e] at this
  exact this
 ·intro h i hi
  have hi':=jg.mp hi
  rw [sU hi']
  exact h _ (gD hi')
theorem zI (bs:List Bool):(bH bs.length).any (fun i=>bs.getD i false)=bs.any id:=by
 rw [cp,gE,gE]
 constructor
 ·rintro ⟨i,hi,e⟩
  have hi':=jg.mp hi
  rw [sU hi'] at e
  exact ⟨_,gD hi',e⟩
 ·rintro ⟨x,hx,e⟩
  obtain ⟨i,hi,e'⟩:=wC.mp hx
  exact ⟨i,jg.mpr hi,by rw [sU hi,e'];exact e⟩
theorem Bo (hc:X.calm=true):kY X (.builtin "all") (fun xs H Q=>∃ (p:ak) (ys:List V) (bs:List Bool),xs=[.ref p]/\SqL X.K H p ys/\ys=bs.map V.bl/\Q (.bl (bs.all id)) H):=by
 intro pins s σ H xs us Q I r h
 obtain ⟨p,ys,bs,rfl,hq,rfl,q⟩:=h
 obtain ⟨u,rfl,rx⟩:=lC r
 cases rx
 obtain ⟨its,rv,pl,hz⟩:=I.list hq
 have e:=nC rv
 subst e
 have hh:X.A.in1.handled=none:=I.ok.hd hc
 have hlt:p<s.heap.objs.size:=let ⟨o,ho,_⟩:=pl.isList;aH ho
 refine call_all_walk (ky pl.isList ?_)
 have W:=qb (prog:=X.prog) (w:=X.w) (A:=X.A.in1) hh s.heap.objs.size p (bu hlt) (bs.map gf).toArray
 refine ⟨s.heap.objs.size,_,_,_,_,_,fun i=>bs.getD i false,rfl,W,⟨⟨_,aJ _ rfl,rfl,rfl⟩,pl.isList.at fun o e=>ag _ e⟩,fun i v s' Q' E' hP hQ=>?_,fun h' tk hk=>?_⟩
 ·have e:(bs.map gf)[i]?=some v:=by simpa using hP
  rw [aA] at e
  cases q:bs[i]? with
  | none=>rw [q] at e;cases e
  | some b =>
    rw [q] at e
    cases e
    have:bs.getD i false=b:=by rw [av,q];rfl
    have hQ:Q' (bs.getD i false) s':=hQ
    rw [this] at hQ
    exact dF hQ
 ·have e:(bH (bs.map gf).toArray.size).all (fun i=>bs.getD i false)=bs.all id:=by
   rw [aB,ab];exact Bu bs
  rw [e]
  refine ⟨.bl _,H,I.kept (h':=h') (t':=tk) fun b o eb=>hk b o (fun z=>?_) (ag _ eb),rfl,q⟩
  have:b=s.heap.objs.size:=by simpa using z
  exact absurd (aH eb) (by rw [this];exact cq _)
theorem As (hc:X.calm=true):kY X (.builtin "any") (fun xs H Q=>∃ (p:ak) (ys:List V) (bs:List Bool),xs=[.ref p]/\SqL X.K H p ys/\ys=bs.map V.bl/\Q (.bl (bs.any id)) H):=by
 intro pins s σ H xs us Q I r h
 obtain ⟨p,ys,bs,rfl,hq,rfl,q⟩:=h
 obtain ⟨u,rfl,rx⟩:=lC r
 cases rx
 obtain ⟨its,rv,pl,hz⟩:=I.list hq
 have e:=nC rv
 subst e
 have hh:X.A.in1.handled=none:=I.ok.hd hc
 have hlt:p<s.heap.objs.size:=let ⟨o,ho,_⟩:=pl.isList;aH ho
 refine call_any_walk (ky pl.isList ?_)
 have W:=qb (prog:=X.prog) (w:=X.w) (A:=X.A.in1) hh s.heap.objs.size p (bu hlt) (bs.map gf).toArray
 refine ⟨s.heap.objs.size,_,_,_,_,_,fun i=>bs.getD i false,rfl,W,⟨⟨_,aJ _ rfl,rfl,rfl⟩,pl.isList.at fun o e=>ag _ e⟩,fun i v s' Q' E' hP hQ=>?_,fun h' tk hk=>?_⟩
 ·have e:(bs.map gf)[i]?=some v:=by simpa using hP
  rw [aA] at e
  cases q:bs[i]? with
  | none=>rw [q] at e;cases e
  | some b =>
    rw [q] at e
    cases e
    have:bs.getD i false=b:=by rw [av,q];rfl
    have hQ:Q' (bs.getD i false) s':=hQ
    rw [this] at hQ
    exact dF hQ
 ·have e:(bH (bs.map gf).toArray.size).any (fun i=>bs.getD i false)=bs.any id:=by
   rw [aB,ab];exact zI bs
  rw [e]
  refine ⟨.bl _,H,I.kept (h':=h') (t':=tk) fun b o eb=>hk b o (fun z=>?_) (ag _ eb),rfl,q⟩
  have:b=s.heap.objs.size:=by simpa using z
  exact absurd (aH eb) (by rw [this];exact cq _)
noncomputable def Fy:List Rv->Option Rv
 | [(_,.lst ds)]=>match nW ds with
   | some bs=>some (.pu,.bl (bs.all id))
   | none=>none
 | _=>none
noncomputable def Ge:List Rv->Option Rv
 | [(_,.lst ds)]=>match nW ds with
   | some bs=>some (.pu,.bl (bs.any id))
   | none=>none
 | _=>none
theorem Gq {K:ac}:Cal K (fun xs H Q=>∃ (p:ak) (ys:List V) (bs:List Bool),xs=[.ref p]/\SqL K H p ys/\ys=bs.map V.bl/\Q (.bl (bs.all id)) H) Fy:=by
 intro B H0 G H rs c xs Q sg ra e k
 unfold Fy at e
 split at e
 ·split at e
  ·rename_i bs eb
   cases e
   obtain ⟨v,rfl,h⟩:=fK.one ra
   obtain ⟨p,ys,rfl,q,d⟩:=h.lst sg
   rw [pO eb] at d
   exact ⟨p,ys,bs,rfl,q,pk d,k _ G H (Ext.refl sg) rfl⟩
  ·cases e
 ·cases e
theorem HD {K:ac}:Cal K (fun xs H Q=>∃ (p:ak) (ys:List V) (bs:List Bool),xs=[.ref p]/\SqL K H p ys/\ys=bs.map V.bl/\Q (.bl (bs.any id)) H) Ge:=by
 intro B H0 G H rs c xs Q sg ra e k
 unfold Ge at e
 split at e
 ·split at e
  ·rename_i bs eb
   cases e
   obtain ⟨v,rfl,h⟩:=fK.one ra
   obtain ⟨p,ys,rfl,q,d⟩:=h.lst sg
   rw [pO eb] at d
   exact ⟨p,ys,bs,rfl,q,pk d,k _ G H (Ext.refl sg) rfl⟩
  ·cases e
 ·cases e
theorem Io (hc:X.calm=true) (hg:Gl X "all") (hm:X.mg "all" = none) (ha:PXA X (e::es) g) (he:am (e::es) X.env=(false,b9 e X.env)::am es X.env:=by exact bR rfl) (hpl:(cz pos (am es X.env)).any (·.1)=false:=by rfl):PX X (.Call (.Name "all" p) (e::es) [] pos) (xB Fy g) :=
 EC (Bo hc) Gq hg hm (by decide +kernel) ha (by decide) (by decide) he hpl
theorem IY (hc:X.calm=true) (hg:Gl X "any") (hm:X.mg "any" = none) (ha:PXA X (e::es) g) (he:am (e::es) X.env=(false,b9 e X.env)::am es X.env:=by exact bR rfl) (hpl:(cz pos (am es X.env)).any (·.1)=false:=by rfl):PX X (.Call (.Name "any" p) (e::es) [] pos) (xB Ge g) :=
 EC (As hc) HD hg hm (by decide +kernel) ha (by decide) (by decide) he hpl
noncomputable def tXO (K:ac) (f:Rho->Option (Option Int)):TO:=fun σ H Q=>∃ B G ρ o,cW G H/\cW B H/\iK K B G H σ ρ/\f ρ=some o/\∀ G' H',Ext G H G' H'->Q o H'
noncomputable abbrev PXO (X:Cx) (e:Option aS) (f:Rho->Option (Option Int)):Prop:=PO X e (tXO X.K f)
theorem PO.imp {X:Cx} {e:Option aS} {t t':TO} (h:PO X e t) (i:∀ σ H Q,t' σ H Q->t σ H Q):PO X e t':=fun pins s σ H Q I q=>h pins s σ H Q I (i σ H Q q)
noncomputable def pT:Rho->Option (Option Int):=fun _=>some none
noncomputable def ot (f:Rho->Option Rv):Rho->Option (Option Int):=fun ρ=>match f ρ with
 | some (_,.int i)=>some (some i)
 | _=>none
theorem DU:PXO X none pT:=PO.imp Gj fun σ H Q ⟨B,G,ρ,o,sg,sb,st,e,k⟩=>by cases e;exact k G H (Ext.refl sg)
theorem Eh (ha:PX X a fa):PXO X (some a) (ot fa):=PO.imp (HR ha) fun σ H Q ⟨B,G,ρ,o,sg,sb,st,e,k⟩=>by
 unfold ot at e
 split at e
 ·rename_i kd i q
  cases e
  exact ⟨B,G,ρ,_,sg,sb,st,q,fun v G1 H1 E1 r1=>⟨i,r1.int,k G1 H1 E1⟩⟩
 ·cases e
noncomputable def vK (ds:List Da) (lo hi:Option Int):List Da:=(ds.drop (HT.sIx ds.length 0 lo)).take (HT.sIx ds.length ds.length hi-HT.sIx ds.length 0 lo)
theorem A2 {K:ac} {G:Hp} {ds:List Da} {xs:List V} (h:cS K G ds xs) (lo hi:Option Int):cS K G (vK ds lo hi) (Ez xs lo hi):=by
 unfold vK Ez
 rw [h.length]
 exact (h.drop _).take _
theorem lR {prog:bC} {w:cf} {A:bL} {E:ae->ai->Prop} {s:ai} {t sl:ak} {items:Array ae} {vl vu:ae} {lo hi:Option Int} {Q:ae->ai->Prop} (ht:jS s.heap t items) (hs:s.heap.IsSliceOf sl vl vu .none) (pl:mR vl lo) (pu:mR vu hi)
 (hw:HT.sIx items.size 0 lo=0/\HT.sIx items.size items.size hi=items.size) (h:Q (.ref t) s):aM (bg prog w) A (kz (.ref t) (.ref sl)) Q E s:=by
 obtain ⟨os,hos,hcs,hds⟩:=id hs
 have hTs:s.TypeIs (.ref sl) "slice":=⟨os,hos,hcs⟩
 unfold kz
 try with_reducible refine dm ?_
 first | refine aa (al ?_) | skip
 refine aa (wpAny_sequenceKey ht.typeIs (by decide) ?_)
 refine aa (il (name:=cL "__getitem__") ht.typeIs eR
  (fH eR ht.typeIs Em ?_ (args_tuple_getitem _ _)))
 show aM _ _ (mh (.ref t)>>=_) _ _ s
 refine aa (tupleItemsOf_ ht ?_)
 refine aa (iG hTs ?_)
 rw [if_pos (by decide)]
 refine aa (HT.sliceApplied_gen hs pl pu ?_)
 have hyes:(((HT.sIx items.size 0 lo:Nat):Int) == 0&&(1:Int) == 1&&(HT.sIx items.size items.size hi-HT.sIx items.size 0 lo) == items.size)=true:=by
  rw [hw.1,hw.2];simp
 show aM _ _ (if (((HT.sIx items.size 0 lo:Nat):Int) == 0&&(1:Int) == 1&&(HT.sIx items.size items.size hi-HT.sIx items.size 0 lo) == items.size)=true then _ else _) _ _ s
 rw [if_pos hyes]
 refine aa (m:=Builtin.Tuple.tupleIsExact _) (aa (iG ht.typeIs (al ?_)))
 rw [if_pos (by decide)]
 exact aa (vp (al ⟨_,rfl,al h⟩))
noncomputable def Ma (K:ac):V->Option Int->Option Int->Hp->VK->Prop:=fun x lo hi H Q=>∃ a xs,x=.ref a/\SqT K H a xs/\(HT.sIx xs.length 0 lo=0/\HT.sIx xs.length xs.length hi=xs.length)/\Q (.ref a) H
theorem G8:SlR X (Ma X.K):=by
 intro pins s σ H x v vl vu lo hi sl Q I rx hs pl pu h
 obtain ⟨a,xs,rfl,hx,hw,q⟩:=h
 cases rx
 obtain ⟨its,r,ht,hz⟩:=I.tuple hx
 have hlen:its.toArray.size=xs.length:=by rw [aB];exact r.length.symm
 refine ⟨"tuple",_,PyProof.Rows.slot_tuple_getitem.lookup,ht.typeIs,?_⟩
 exact lR ht hs pl pu (by rw [hlen];exact hw) ⟨.ref a,H,I,rfl,q⟩
theorem BH {ds:List Da} {lo hi:Option Int} (h:HT.sIx ds.length 0 lo=0/\HT.sIx ds.length ds.length hi=ds.length):vK ds lo hi=ds:=by
 unfold vK
 rw [h.1,h.2,ji,vq,B6]
noncomputable def slD (lo hi:Option Int):Da->Option Rv
 | .tup ds=>some (.pu,.tup (vK ds lo hi))
 | .lst ds=>some (.fr,.lst (vK ds lo hi))
 | _=>none
noncomputable def kh (fa:Rho->Option Rv) (fl fh:Rho->Option (Option Int)):Rho->Option Rv:=fun ρ=>match fa ρ,fl ρ,fh ρ with
 | some r,some l,some h=>slD l h r.2
 | _,_,_=>none
theorem DB {lo hi:Option aS} {fl fh:Rho->Option (Option Int)} (ha:PX X a fa) (hl:PXO X lo fl) (hh:PXO X hi fh):PX X (.Subscript a (.Slice lo hi none p2) pos) (kh fa fl fh) :=
 PE.imp (Eg ((JD.or G8).or Fn) ha hl hh) fun σ H Q ⟨B,G,ρ,r,sg,sb,st,eq,k⟩=>by
  unfold kh at eq
  split at eq
  ·rename_i ra l h ea el eh
   refine ⟨B,G,ρ,ra,sg,sb,st,ea,fun v G1 H1 E1 r1=>⟨B,G1,ρ,l,E1.gh,sb.trans E1.hh,st.ext E1,el,fun G2 H2 E2=>⟨B,G2,ρ,h,E2.gh,(sb.trans E1.hh).trans E2.hh,(st.ext E1).ext E2,eh,fun G3 H3 E3=>?_⟩⟩⟩
   have E:=(E1.trans E2).trans E3
   have r3:=(r1.ext E2).ext E3
   obtain ⟨kd,d⟩:=ra
   cases d with
   | tup ds =>
     cases eq
     obtain ⟨t,xs,rfl,q,dl,qg⟩:=r3.tup E3.gh
     have hlen:=dl.length
     by_cases hw:HT.sIx ds.length 0 l=0/\HT.sIx ds.length ds.length h=ds.length
     ·refine .inl (.inr ⟨t,xs,rfl,SqT.of q,by rw [hlen];exact hw,k _ _ _ E ?_⟩)
      rw [BH hw]
      exact ⟨t,xs,rfl,qg,dl⟩
     ·refine .inl (.inl ⟨t,xs,rfl,SqT.of q,by rw [hlen];exact hw,fun p hp=>k _ _ _ (E.trans (Ext.new E3.gh hp)) ⟨p,_,rfl,aV,cS.mono (cA (E3.gh.free hp)) _ (A2 dl l h)⟩⟩)
   | lst ds =>
     cases eq
     obtain ⟨t,xs,rfl,q,dl⟩:=r3.lst E3.gh
     exact .inr ⟨t,xs,rfl,q,fun p hp=>k _ _ _ (E.trans (Ext.own E3.gh hp)) ⟨p,_,rfl,E.hh.free hp,E3.gh.free hp,aV,_,rfl,A2 dl l h⟩⟩
   | _=>cases eq
  ·cases eq
end
noncomputable def hJ (h:cy) (d:ak) (es:Array lx) (ep:Nat):Prop:=∃ o,h.get? d=some o/\o.ExactDict/\o.data=.dict es ep
section
variable {prog:bC} {w:cf} {A:bL} {E:ae->ai->Prop} {s:ai} {d it:ak} {es:Array lx} {ep i:Nat}
theorem hJ.ty (h:hJ s.heap d es ep):s.TypeIs (.ref d) "dict":=let ⟨o,ho,hx,_⟩:=h;⟨o,ho,hx.1⟩
theorem hJ.at {h h':cy} (x:hJ h d es ep) (k:∀ o,h.get? d=some o->h'.get? d=some o):hJ h' d es ep:=let ⟨o,ho,r⟩:=x;⟨o,k o ho,r⟩
theorem AJ {Q:ae->ai->Prop} (lo:(d == dt)=false) (hm:hJ s.heap d es ep)
 (hQ:Q (.ref s.heap.objs.size) { s with heap:=s.heap.push { cls:=.type "dict_keyiterator",data:=.fields #[.ref d,.int 0 0,.int es.size 0,.int ep 0] } }):aM (bg prog w) A (pyIter (.ref d)) Q E s:=by
 obtain ⟨o,ho,hx,hdat⟩:=id hm
 have T:=hm.ty
 refine wpAny_pyIter_slot T F.slot_dict_iter (fH F.slot_dict_iter T F.entry_dict_iter ?_ (F.args_dict_iter_1 _));unfold Builtin.«dict.__iter__»
 refine aa ?_;unfold Builtin.Dict.dictSlotNone
 refine aa (B7 T ?_);show aM _ _ (pure (bN d)) _ _ s
 refine al ?_;show aM _ _ (oN d>>=_) _ _ s;unfold oN
 rw [if_neg (fun z=>aN (lo▸z))]
 refine aa (al (aa (qc ho hdat (aa (tH ho hdat ?_)))))
 refine aa (cQ (al ⟨_,rfl,"dict_keyiterator",_,⟨_,aJ _ rfl,rfl⟩,F.slot_dict_keyiterator_next.lookup,?_⟩))
 simpa [iT] using hQ
theorem AH {Q:Option ae->ai->Prop} (hit:s.heap.IsKeyIter it d i es.size ep) (hm:hJ s.heap d es ep) (hlt:i<es.size)
 (hQ:∀ h',h'.IsKeyIter it d (i+1) es.size ep->kx it s.heap h'->Q (some es[i].key) { s with heap:=h' }):aM (bg prog w) A (kD (.ref it)) Q E s:=by
 obtain ⟨⟨o,ho,hc,hd⟩,od,hod,hx,hdd⟩:=And.intro (id hit) (id hm)
 unfold kD;refine aa (xY (il (name:=cL "__next__") hit.typeIs F.slot_dict_keyiterator_next (fH F.slot_dict_keyiterator_next hit.typeIs F.entry_dict_keyiterator_next ?_ (F.args_dict_keyiterator_next_1 _))))
 refine aa (al (aa (aa ?_)));first | refine aa (fQ hit.typeIs (al ?_)) | refine aa (h9 hit.typeIs (al ?_))
 refine aa (wpAny_fieldsOf ho hd ?_);simp only [show kC "dict_keyiterator" = false by decide,eO,if_false]
 show aM _ _ (if (bN d == bB)=true then _ else _) _ _ s;rw [if_neg (show ¬ ((bN d == bB)=true) from fun z=>aN z)]
 refine aa (al (aa (qc hod hdd ?_)));rw [if_neg (by simp)]
 refine aa (al (aa (tH hod hdd ?_)));rw [if_neg (by simp)]
 refine al ?_
 simp only [show ¬ ((i:Int)<0) by lia,if_false,gc,gF hlt]
 refine aa ?_;first | refine aa (fQ hit.typeIs (al ?_)) | refine aa (h9 hit.typeIs (al ?_))
 refine aa (B8 hit.typeIs ?_);show aM _ _ (setField (.ref it) 1 (iT ((i:Int)+1))>>=_) _ _ s;refine aa (wpAny_setField ho hd (by simp) ?_)
 have nx:(s.heap.update it (Obj.mapFields (·.setIfInBounds 1 (iT ((i:Int)+1))))).IsKeyIter it d (i+1) es.size ep:=⟨_,lc _ ho (Obj.isFreed_of_fields (zj hd _)),(Obj.cls_mapFields ..).trans hc,by rw [zj hd];simp [iT]⟩
 refine aa (dm ?_);refine aa (B8 (s:={ s with heap:=s.heap.update it (Obj.mapFields (·.setIfInBounds 1 (iT ((i:Int)+1)))) }) nx.typeIs ?_);show aM _ _ (pure es[i].key) _ _ _
 exact al (al ⟨_,rfl,al (hQ _ nx (eY ..))⟩)
theorem CP {Q:Option ae->ai->Prop} (hh:A.handled=none) (hit:s.heap.IsKeyIter it d i es.size ep) (hm:hJ s.heap d es ep) (hge:es.size<=i)
 (hQ:∀ h',Heap.ExtBut it s.heap h'->Q none { s with heap:=h' }):aM (bg prog w) A (kD (.ref it)) Q E s:=by
 obtain ⟨⟨o,ho,hc,hd⟩,od,hod,hx,hdd⟩:=And.intro (id hit) (id hm)
 unfold kD;refine aa (xY (il (name:=cL "__next__") hit.typeIs F.slot_dict_keyiterator_next (fH F.slot_dict_keyiterator_next hit.typeIs F.entry_dict_keyiterator_next ?_ (F.args_dict_keyiterator_next_1 _))))
 refine aa (al (aa (aa ?_)));first | refine aa (fQ hit.typeIs (al ?_)) | refine aa (h9 hit.typeIs (al ?_))
 refine aa (wpAny_fieldsOf ho hd ?_);simp only [show kC "dict_keyiterator" = false by decide,eO,if_false]
 show aM _ _ (if (bN d == bB)=true then _ else _) _ _ s;rw [if_neg (show ¬ ((bN d == bB)=true) from fun z=>aN z)]
 refine aa (al (aa (qc hod hdd ?_)));rw [if_neg (by simp)]
 refine aa (al (aa (tH hod hdd ?_)));rw [if_neg (by simp)]
 refine al ?_
 simp only [show ¬ ((i:Int)<0) by lia,if_false,gc,tI hge]
 refine aa ?_;first | refine aa (fQ hit.typeIs (al ?_)) | refine aa (h9 hit.typeIs (al ?_))
 show aM _ _ (setField (.ref it) 0 .none>>=_) _ _ s;refine aa (wpAny_setField ho hd (by simp) ?_);show aM _ _ (newExc (.type "StopIteration") []>>=_) _ _ _
 refine aa ?_;simp only [newExc,newTuple];refine aa (cQ ?_ (by size_fits))
 refine aa (m:=firstArgMember _ _) (Cv (a:=bB) (by first | rfl | (simp only [firstArgMember];rfl)) (cQ ?_ (by size_fits)));simp only [raiseNew]
 refine aa (wpAny_handled ?_);rw [show A.in1.handled=none from hh];refine aa (al (wpAny_throw ?_))
 refine aa (wpAny_isInstance (T:="StopIteration") (b:=true) ⟨_,aJ _ rfl,rfl⟩ isSubtype_stop (al (hQ _ (((eY ..).extBut.push _).push _))))
theorem Al (hh:A.handled=none) (hne:d≠it):Walks prog w A it [it,d] [it] es.size (fun i v=>∃ h:i<es.size,v=es[i].key) (fun i h=>h.IsKeyIter it d i es.size ep/\hJ h d es ep) where
 sub:=fun b hb=>by simp at hb;simp [hb]
 frame:=fun i h h' st k=>⟨let ⟨o,ho,r⟩:=st.1;⟨o,k it (by simp) o ho,r⟩,st.2.at fun o e=>k d (by simp) o e⟩
 item:=fun i s Q E hi st hQ=>AH st.1 st.2 hi fun h' nx sb=>hQ _ h' s.toks ⟨hi,rfl⟩ ⟨nx,st.2.at fun o e=>(sb.2 d hne).trans e⟩ fun b o hb e=>sb.extBut b o (fun z=>hb (by simp [z])) e
 done:=fun s Q E st hQ=>CP hh st.1 st.2 (aw _) fun h' eb=>hQ h' s.toks fun b o hb e=>eb b o (fun z=>hb (by simp [z])) e
 self:=fun i s Q E st hQ=>by
  obtain ⟨o,ho,hc,hd⟩:=st.1
  refine wpAny_pyIter_slot ⟨o,ho,hc⟩ F.slot_dict_keyiterator_iter (fH F.slot_dict_keyiterator_iter ⟨o,ho,hc⟩ F.entry_dict_keyiterator_iter ?_ (F.args_dict_keyiterator_iter_1 _))
  show aM _ _ (ret (.ref it)) _ _ s
  exact al ⟨_,rfl,"dict_keyiterator",_,⟨o,ho,hc⟩,F.slot_dict_keyiterator_next.lookup,hQ⟩
theorem DD (lo:(d == dt)=false):PySem.W.KdlSrc prog w "dict" d d es.size (fun i v=>∃ h:i<es.size,v=es[i].key) (fun h=>hJ h d es ep) where
 type:=fun s hm=>hm.ty
 there:=fun h hm=>let ⟨o,ho,_⟩:=hm;⟨aH ho,aH ho⟩
 keep:=fun h h' hm k=>hm.at fun o e=>k d (.inl rfl) o e
 notList:=by decide
 notTuple:=by decide
 hint:=fun A E s Q hm hq=>PySem.W.kdl_hint_dict hm.ty hq
 iter:=fun A s hh hm=>⟨_,_,fun E Q hq=>AJ lo hm hq,Al hh (let ⟨o,ho,_⟩:=hm;bu (aH ho)),⟨_,aJ _ rfl,rfl,rfl⟩,hm.at fun o e=>ag _ e⟩
end
section
variable (O:fI)
noncomputable def Dg (a:O.α):List O.α->List O.α
 | []=>[a]
 | b::r=>if O.blt b a=true then b::Dg a r else a::b::r
noncomputable def Ic:List O.α->List O.α
 | []=>[]
 | a::r=>Dg O a (Ic r)
variable {O}
theorem oS (a:O.α):∀ l:List O.α,(Dg O a l).Perm (a::l)
 | []=>.refl _
 | b::r=>by
   unfold Dg
   split
   ·exact ((oS a r).cons b).trans (.swap ..)
   ·exact .refl _
theorem t5:∀ l:List O.α,(Ic O l).Perm l
 | []=>.refl _
 | a::r=>(oS a _).trans ((t5 r).cons a)
theorem oU (a:O.α):∀ {l:List O.α},l.Pairwise O.kle->(Dg O a l).Pairwise O.kle
 | [],_=>by unfold Dg;exact bc _ _
 | b::r,h=>by
   obtain ⟨h1,h2⟩:=bI.mp h
   unfold Dg
   split
   ·rename_i hb
    refine bI.mpr ⟨fun x hx=>?_,oU a h2⟩
    rcases ao.mp ((oS a r).mem_iff.mp hx) with e | e
    ·subst e;exact hW hb
    ·exact h1 x e
   ·rename_i hb
    have hab:O.kle a b:=by unfold KeyOrd.kle;simpa using hb
    refine bI.mpr ⟨fun x hx=>?_,h⟩
    rcases ao.mp hx with e | e
    ·subst e;exact hab
    ·exact im hab (h1 x e)
theorem pf:∀ l:List O.α,(Ic O l).Pairwise O.kle
 | []=>.nil
 | a::r=>oU a (pf r)
theorem gq:∀ {l m:List O.α},l.Perm m->l.Pairwise O.kle->m.Pairwise O.kle->l=m
 | [],m,h,_,_=>(List.nil_perm.mp h).symm
 | a::l,[],h,_,_=>absurd (h.length_eq) (by simp)
 | a::l,b::m,h,h1,h2=>by
   obtain ⟨a1,a2⟩:=bI.mp h1
   obtain ⟨b1,b2⟩:=bI.mp h2
   have e:a=b:=by
    rcases ao.mp (h.mem_iff.mp (ah)) with e | e
    ·exact e
    ·rcases ao.mp (h.mem_iff.mpr (ah (a:=b) (l:=m))) with e' | e'
     ·exact e'.symm
     ·exact lE (a1 b e') (b1 a e)
   subst e
   rw [gq (tJ h) a2 b2]
end
noncomputable def y6:fI where
 α:=Int
 blt a b:=decide (a<b)
 irrefl a:=by simp
 trans a b c h1 h2:=by simp at *;lia
 negTrans a b c h:=by simp at *;lia
 total a b h1 h2:=by simp at *;lia
section
open HT
theorem lm:∀ xs:List Int,lexLt xs xs=false
 | []=>rfl
 | x::xs=>by rw [lexLt_cons,if_pos rfl];exact lm xs
theorem pI:∀ xs ys zs:List Int,lexLt xs ys=true->lexLt ys zs=true->lexLt xs zs=true
 | [],[],_,h,_=>by cases h
 | [],_::_,[],_,h=>by cases h
 | [],_::_,_::_,_,_=>rfl
 | _::_,[],_,h,_=>by cases h
 | _::_,_::_,[],_,h=>by cases h
 | x::xs,y::ys,z::zs,h1,h2=>by
   rw [lexLt_cons] at *
   by_cases e1:x=y<;>by_cases e2:y=z
   ·subst e1;subst e2;rw [if_pos rfl] at *;exact pI xs ys zs h1 h2
   ·subst e1;rw [if_neg e2] at *;exact h2
   ·subst e2;rw [if_neg e1] at *;exact h1
   ·rw [if_neg e1] at h1;rw [if_neg e2] at h2
    have a1:=of_decide_eq_true h1
    have a2:=of_decide_eq_true h2
    rw [if_neg (by lia)]
    exact decide_eq_true (by lia)
theorem Ao:∀ xs ys zs:List Int,lexLt xs zs=true->lexLt xs ys=true\/lexLt ys zs=true
 | [],_,[],h=>by cases h
 | [],[],_::_,h=>.inr h
 | [],_::_,_::_,_=>.inl rfl
 | _::_,_,[],h=>by cases h
 | _::_,[],_::_,_=>.inr rfl
 | x::xs,y::ys,z::zs,h=>by
   rw [lexLt_cons] at h
   rw [lexLt_cons,lexLt_cons]
   by_cases e1:x=y<;>by_cases e2:y=z
   ·subst e1;subst e2;rw [if_pos rfl] at *;rw [if_pos rfl];exact Ao xs ys zs h
   ·subst e1;rw [if_neg e2] at *;exact .inr h
   ·subst e2;rw [if_neg e1] at *;exact .inl h
   ·rw [if_neg e1,if_neg e2]
    by_cases e3:x=z
    ·subst e3
     by_cases hxy:x<y
     ·exact .inl (decide_eq_true hxy)
     ·exact .inr (decide_eq_true (by lia))
    ·rw [if_neg e3] at h
     have a1:=of_decide_eq_true h
     by_cases hxy:x<y
     ·exact .inl (decide_eq_true hxy)
     ·exact .inr (decide_eq_true (by lia))
theorem oT:∀ xs ys:List Int,lexLt xs ys=false->lexLt ys xs=false->xs=ys
 | [],[],_,_=>rfl
 | [],_::_,h,_=>by cases h
 | _::_,[],_,h=>by cases h
 | x::xs,y::ys,h1,h2=>by
   rw [lexLt_cons] at *
   by_cases e:x=y
   ·subst e;rw [if_pos rfl] at *;rw [oT xs ys h1 h2]
   ·rw [if_neg e] at h1;rw [if_neg (fun z=>e z.symm)] at h2
    have a1:=of_decide_eq_false h1
    have a2:=of_decide_eq_false h2
    lia
end
noncomputable def tE:fI:=⟨List Int,HT.lexLt,lm,pI,Ao,oT⟩
section
variable {O:fI}
theorem qj {α:Type} {p:Array Nat} {n:Nat} (h:gr n p) {l:List α} (hl:l.length=n) (d:α):(p.toList.map fun i=>l.getD i d).Perm l:=by
 have h1:p.toList.Perm (bH n):=by simpa using cx.mp h.perm
 refine (h1.map _).trans ?_
 have:(bH n).map (fun i=>l.getD i d)=l:=by
  apply kc
  ·simp [hl]
  ·intro i h1 h2;simp [h2]
 rw [this]
theorem lQ {p:Array Nat} {n:Nat} (h:gr n p) {ks:List O.α} (d:O.α) (u:sA O (fun i=>ks.getD i d) p n):(p.toList.map fun i=>ks.getD i d).Pairwise O.kle:=by
 rw [e6]
 intro i j hi hj hij
 have hs:p.toList.length=n:=by rw [bS];exact h.size
 rw [ab] at hi hj
 have:=u i j (jc hij) (by lia)
 have e:∀ k,(hk:k<p.toList.length)->KN O (fun i=>ks.getD i d) p k=ks.getD (p.toList[k]) d:=fun k hk=>by
  have hk':k<p.size:=by simpa using hk
  show ks.getD (p.getD k 0) d=_
  congr 1
  simp [Array.getD,hk']
 rw [e i hi,e j hj] at this
 rw [B9,B9]
 exact this
theorem j0 {p:Array Nat} {ks:List O.α} (d:O.α) (h:gr ks.length p) (u:sA O (fun i=>ks.getD i d) p ks.length):(p.toList.map fun i=>ks.getD i d)=Ic O ks :=
 gq ((qj h rfl d).trans (t5 ks).symm) (lQ h d u) (pf ks)
end
section
variable {prog:bC} {w:cf} {A:bL} {E:ae->ai->Prop} {s:ai} {O:fI} {κ:iH} {key:Nat->O.α} {vs:List ae} {a:ak} {n:Nat}
noncomputable def np (a:ak) (h h':cy):Prop:=∀ b o,b≠a->h.get? b=some o->h'.get? b=some o
theorem C6 {P:PySem.Fin->ai->Prop} (ho:s.heap.get? a=some (bZ "list" vs.toArray n)) (h64:vs.length<64\/(vs.length<=63/\∀ i j,i<vs.length->j<vs.length->key i=key j->i=j))
 (kind:∀ h',np a s.heap h'->2<=vs.length->∀ Q:iH->ai->Prop,Q κ { s with heap:=h' }->aM (bg prog w) A (Cw vs.toArray) Q (fun _ _=>False) { s with heap:=h' })
 (lt:∀ h',np a s.heap h'->∀ i j (C:Bool->ai->Prop),i<vs.length->j<vs.length->C (O.blt (key i) (key j)) { s with heap:=h' }->iI prog w A κ vs i j C { s with heap:=h' })
 (h:∀ p h' c,gr vs.length p->sA O key p vs.length->np a s.heap h'->h'.get? a=some (bZ "list" (p.toList.map fun i=>vs.getD i bB).toArray c)->P (.done (.ret .none)) { s with heap:=h' }) :
 aM (bg prog w) A (Builtin.«list.sort» ⟨[.ref a],[]⟩) P E s:=by
 have ha:a<s.heap.objs.size:=aH ho
 have sz:aK=16777216:=bG
 have h127:vs.length<=63:=by rcases h64 with h | h<;>lia
 rw [list_sort_plain]
 refine aa (jx ho rfl (aa (gw ho rfl ?_ (by rw [aB];lia) (bV _))))
 obtain ⟨e1,ho1⟩:∃ e1,(s.heap.update a (bY fun _=>(#[]:Array ae))).get? a=some (bZ "list" #[] e1):=⟨_,gm ho fun _=>#[]⟩
 refine aa (mS ho1 rfl (aa (wpAny_newTuple (aa (kG (dm ?_) (bV _))) (by show vs.length<=_;lia))))
 show aM (bg prog w) A _ P E { s with heap:=(((s.heap.update a (bY fun _=>(#[]:Array ae))).push (bZ "tuple" vs.toArray 0)).push (bZ "list" #[] 0)) }
 generalize hg:(((s.heap.update a (bY fun _=>(#[]:Array ae))).push (bZ "tuple" vs.toArray 0)).push (bZ "list" #[] 0))=g
 have hga:g.get? a=some (bZ "list" #[] e1):=by rw [<- hg];exact ag _ (ag _ ho1)
 have hgk:np a s.heap g:=fun b o hb e=>by rw [<- hg];exact ag _ (ag _ ((cV _ _ (Ne.symm hb)).trans e))
 dsimp only
 have fin:∀ (out:Array ae) (p:Array Nat),out=(p.toList.map fun i=>vs.getD i bB).toArray->gr vs.length p->sA O key p vs.length->P (.done (.ret .none)) { s with heap:=g.update a (bY fun _=>out) }:=fun out p eo hp hu=>by
  subst eo
  refine h p _ _ hp hu (fun b o hb e=>(cV _ _ (Ne.symm hb)).trans (hgk b o hb e)) (gm hga fun _=>_)
 by_cases h2:vs.toArray.size<2
 ·rw [if_pos h2,if_pos h2]
  refine aa (al ?_)
  rw [zk]
  refine aa (al ?_)
  dsimp only
  have es:(Ct (pZ general' (vs.toArray.zip vs.toArray) #[] 7 none)).map (·.2)=vs.toArray:=by
   show (vs.toArray.zip vs.toArray).map (·.2)=_
   have e:gx (fun x=>x.snd) (vs.zip vs)=vs:=Cb (aw _)
   simp [e]
  rw [es]
  refine aa (mS hga rfl (aa (gw hga rfl ?_ (bV _) (by rw [aB];lia))))
  simp only [bne_self_eq_false,eO,if_false]
  refine al (fin _ (bH vs.length).toArray ?_ ⟨.refl _⟩ fun i j hij hj=>?_)
  ·congr 1
   apply kc
   ·simp
   ·intro i h1 h2;simp [h1]
  ·rw [aB] at h2
   have:i=j:=by lia
   subst this
   exact eA _
 ·rw [if_neg h2,if_neg h2]
  rw [aB] at h2
  refine aa (d6 (kind g hgk (by lia) _ ?_) (fun _ _ x=>x) fun _ _ x=>x.elim)
  refine aa (d6 (wR (O:=O) (key:=key) (ks:=vs) (vs:=vs) rfl (by lia) h64 (fun i j C hi hj hc=>lt g hgk i j C hi hj hc)) ?_ fun _ _ e=>e)
  rintro ⟨⟨⟩,st'⟩ s' ⟨rfl,p,har,hf,hp,hu⟩
  dsimp only
  have hout:=xZ rfl har
  rw [hout]
  refine aa (mS hga rfl (aa (gw hga rfl ?_ (bV _) ?_)))
  ·rw [hf]
   simp only [bne_self_eq_false,eO,if_false]
   exact al (fin _ p rfl hp hu)
  ·rw [aB,ab,bS,hp.size];lia
noncomputable def gP (prog:bC) (w:cf) (A:bL) (s:ai) (x:ae) (vs:List ae):Prop :=
 ∀ (E:ae->ai->Prop) (R:List ae->ai->Prop),(∀ h' tk,(∀ b o,s.heap.get? b=some o->h'.get? b=some o)->R vs { s with heap:=h',toks:=tk })->aM (bg prog w) A (vf x) R E s
theorem lj {x:ae} {Q:ae->ai->Prop} (col:gP prog w A.in1 s x vs) (h64:vs.length<64\/(vs.length<=63/\∀ i j,i<vs.length->j<vs.length->key i=key j->i=j))
 (kind:∀ h' tk,(∀ b o,s.heap.get? b=some o->h'.get? b=some o)->2<=vs.length->∀ Q:iH->ai->Prop,Q κ { s with heap:=h',toks:=tk }->aM (bg prog w) A.in1.in1 (Cw vs.toArray) Q (fun _ _=>False) { s with heap:=h',toks:=tk })
 (lt:∀ h' tk,(∀ b o,s.heap.get? b=some o->h'.get? b=some o)->∀ i j (C:Bool->ai->Prop),i<vs.length->j<vs.length->C (O.blt (key i) (key j)) { s with heap:=h',toks:=tk }->iI prog w A.in1.in1 κ vs i j C { s with heap:=h',toks:=tk })
 (h:∀ (p:Array Nat) (h1 h':cy) (tk:Nat) (c:Nat),gr vs.length p->sA O key p vs.length->(∀ b o,s.heap.get? b=some o->h1.get? b=some o)->(∀ b o,h1.get? b=some o->h'.get? b=some o)->h'.get? h1.objs.size=some (bZ "list" (p.toList.map fun i=>vs.getD i bB).toArray c)->Q (.ref h1.objs.size) { s with heap:=h',toks:=tk }) :
 aM (bg prog w) A (call (.builtin "sorted") [x]) Q E s:=by
 have sz:aK=16777216:=bG
 have h127:vs.length<=63:=by rcases h64 with h | h<;>lia
 refine Calls.call_function_entry kind_sorted plain_sorted entry_sorted (args_sorted1 _) ?_
 unfold Builtin.«sorted»
 refine aa (m:=checkCount "sorted" 1 1 _) (al (aa (col _ _ fun h1 tk k1=>?_)))
 refine aa (kG ?_ (by lia))
 have hoD:(h1.push (bZ "list" vs.toArray 0)).get? h1.objs.size=some (bZ "list" vs.toArray 0):=aJ _ rfl
 have kp1:∀ h',np h1.objs.size (h1.push (bZ "list" vs.toArray 0)) h'->∀ b o,h1.get? b=some o->h'.get? b=some o:=fun h' k b o e =>
  k b o (bu (aH e)) (ag _ e)
 have kp:∀ h',np h1.objs.size (h1.push (bZ "list" vs.toArray 0)) h'->∀ b o,s.heap.get? b=some o->h'.get? b=some o:=fun h' k b o e=>kp1 h' k b o (k1 b o e)
 show aM _ _ _ _ _ { s with heap:=h1.push (bZ "list" vs.toArray 0),toks:=tk }
 refine aa (dm (fH slot_list_sort ⟨_,hoD,rfl⟩ entry_list_sort ?body (args_list_sort _)))
 case body =>
  refine C6 (s:={ s with heap:=h1.push (bZ "list" vs.toArray 0),toks:=tk }) (O:=O) (key:=key) (κ:=κ) hoD h64 (fun h' k h2 Q' q=>kind h' tk (kp h' k) h2 Q' q) (fun h' k i j C hi hj c=>lt h' tk (kp h' k) i j C hi hj c) fun p h' c hp hu k e=>?_
  exact ⟨_,rfl,al ⟨_,rfl,h p h1 h' tk c hp hu k1 (kp1 h' k) e⟩⟩
end
end Ry
namespace Ms
structure Lin {α:Type} (lt:α->α->Bool):Prop where
 irr:∀ a,lt a a=false
 tr:∀ a b c,lt a b=true->lt b c=true->lt a c=true
 tot:∀ a b,lt a b=false->lt b a=false->a=b
section
variable {α:Type} (lt:α->α->Bool)
noncomputable def ins (a:α):List α->List α
 | []=>[a]
 | b::r=>if lt b a=true then b::ins a r else a::b::r
noncomputable def srt:List α->List α
 | []=>[]
 | a::r=>ins lt a (srt r)
variable {lt}
noncomputable def Le (lt:α->α->Bool) (a b:α):Prop:=lt b a=false
theorem Lin.asym (h:Lin lt) {a b:α} (q:lt a b=true):lt b a=false:=by
 cases e:lt b a with
 | false=>rfl
 | true=>have:=h.tr _ _ _ q e;rw [h.irr] at this;cases this
theorem Lin.letr (h:Lin lt) {a b c:α} (p:Le lt a b) (q:Le lt b c):Le lt a c:=by
 unfold Le at *
 cases e:lt c a with
 | false=>rfl
 | true =>
   cases e2:lt a b with
   | true=>have:=h.tr _ _ _ e e2;rw [q] at this;cases this
   | false=>have:=h.tot _ _ e2 p;subst this;rw [q] at e;cases e
theorem Lin.ofLt (h:Lin lt) {a b:α} (q:lt a b=true):Le lt a b:=h.asym q
theorem s0 (a:α):∀ l:List α,(ins lt a l).Perm (a::l)
 | []=>.refl _
 | b::r=>by
   unfold ins
   split
   ·exact ((s0 a r).cons b).trans (.swap ..)
   ·exact .refl _
theorem srt_perm:∀ l:List α,(srt lt l).Perm l
 | []=>.refl _
 | a::r=>(s0 a _).trans ((srt_perm r).cons a)
theorem re (h:Lin lt) (a:α):∀ {l:List α},l.Pairwise (Le lt)->(ins lt a l).Pairwise (Le lt)
 | [],_=>by unfold ins;exact bc _ _
 | b::r,q=>by
   obtain ⟨h1,h2⟩:=bI.mp q
   unfold ins
   split
   ·rename_i hb
    refine bI.mpr ⟨fun x hx=>?_,re h a h2⟩
    rcases ao.mp ((s0 a r).mem_iff.mp hx) with e | e
    ·subst e;exact h.ofLt hb
    ·exact h1 x e
   ·rename_i hb
    have hab:Le lt a b:=by unfold Le;simpa using hb
    refine bI.mpr ⟨fun x hx=>?_,q⟩
    rcases ao.mp hx with e | e
    ·subst e;exact hab
    ·exact h.letr hab (h1 x e)
theorem qJ (h:Lin lt):∀ l:List α,(srt lt l).Pairwise (Le lt)
 | []=>.nil
 | a::r=>re h a (qJ h r)
theorem gq (h:Lin lt):∀ {l m:List α},l.Perm m->l.Pairwise (Le lt)->m.Pairwise (Le lt)->l=m
 | [],m,p,_,_=>(List.nil_perm.mp p).symm
 | a::l,[],p,_,_=>absurd (p.length_eq) (by simp)
 | a::l,b::m,p,h1,h2=>by
   obtain ⟨a1,a2⟩:=bI.mp h1
   obtain ⟨b1,b2⟩:=bI.mp h2
   have e:a=b:=by
    rcases ao.mp (p.mem_iff.mp (ah)) with e | e
    ·exact e
    ·rcases ao.mp (p.mem_iff.mpr (ah (a:=b) (l:=m))) with e' | e'
     ·exact e'.symm
     ·exact h.tot _ _ (b1 a e) (a1 b e')
   subst e
   rw [gq h (tJ p) a2 b2]
theorem srt_strict (h:Lin lt) {l:List α} (q:l.Nodup):(srt lt l).Pairwise fun a b=>lt a b=true:=by
 have nd:(srt lt l).Nodup:=(srt_perm l).nodup_iff.mpr q
 have hs:=qJ h l
 have both:=hs.and nd
 refine both.imp fun {a b} z=>?_
 cases e:lt a b with
 | true=>rfl
 | false=>exact absurd (h.tot _ _ e z.1) z.2
theorem strict_ext (h:Lin lt) {l m:List α} (p:l.Pairwise fun a b=>lt a b=true) (q:m.Pairwise fun a b=>lt a b=true) (e:∀ x,x∈l↔x∈m):l=m:=by
 have ndl:l.Nodup:=p.imp fun {a b} z w=>by subst w;rw [h.irr] at z;cases z
 have ndm:m.Nodup:=q.imp fun {a b} z w=>by subst w;rw [h.irr] at z;cases z
 exact gq h ((eP ndl ndm).mpr e) (p.imp fun z=>h.ofLt z) (q.imp fun z=>h.ofLt z)
theorem srt_map {β:Type} {lt':β->β->Bool} {f:α->β} (e:∀ a b,lt' (f a) (f b)=lt a b):∀ l:List α,srt lt' (l.map f)=(srt lt l).map f
 | []=>rfl
 | a::r=>by
   have hi:∀ l:List α,ins lt' (f a) (l.map f)=(ins lt a l).map f:=fun l=>by
    induction l with
    | nil=>rfl
    | cons b r ih =>
      show (if lt' (f b) (f a)=true then _ else _)=gx f (if lt b a=true then _ else _)
      rw [e]
      split
      ·rw [ax,<- ih]
      ·rfl
   show ins lt' (f a) (srt lt' (r.map f))=(ins lt a (srt lt r)).map f
   rw [srt_map e r,hi]
end
noncomputable def ltI (a b:Int):Bool:=decide (a<b)
theorem linI:Lin ltI:=⟨fun a=>by simp [ltI],fun a b c=>by simp only [ltI,decide_eq_true_eq];lia,fun a b=>by simp only [ltI,decide_eq_false_iff_not];lia⟩
noncomputable def ltP (p q:Int×Int):Bool:=if p.1=q.1 then decide (p.2<q.2) else decide (p.1<q.1)
theorem linP:Lin ltP:=by
 refine ⟨fun a=>by simp [ltP],fun a b c h1 h2=>?_,fun a b h1 h2=>?_⟩
 ·unfold ltP at *
  split at h1<;>split at h2<;>split<;>simp only [decide_eq_true_eq] at *<;>lia
 ·unfold ltP at *
  split at h1<;>split at h2<;>simp only [decide_eq_false_iff_not] at *<;>(first | lia | exact j7 (by lia) (by lia))
theorem length_le_of_subset {α:Type} [DecidableEq α]:∀ {l m:List α},l.Nodup->(∀ x∈l,x∈m)->l.length<=m.length
 | [],_,_,_=>bV _
 | a::l,m,nd,h=>by
   obtain ⟨n1,n2⟩:=be.mp nd
   have ha:a∈m:=h a (ah)
   have:=length_le_of_subset (l:=l) (m:=m.erase a) n2 fun x hx=>(List.mem_erase_of_ne (fun z=>n1 (by rw [<- z];exact hx))).mpr (h x (af _ hx))
   rw [List.length_erase_of_mem ha] at this
   have hp:0<m.length:=vg ha
   rw [aI]
   lia
end Ms
namespace Ry
open PySem PySem.Spec PyProof.Rows L2
theorem sy (O:fI):∀ l:List O.α,Ic O l=Ms.srt O.blt l:=by
 have hi:∀ (a:O.α) (l:List O.α),Dg O a l=Ms.ins O.blt a l:=fun a l=>by
  induction l with
  | nil=>rfl
  | cons b r ih=>unfold Dg Ms.ins;rw [ih]
 intro l
 induction l with
 | nil=>rfl
 | cons a r ih=>unfold Ic Ms.srt;rw [hi,ih]
section
variable {prog:bC} {w:cf} {A:bL} {s:ai}
theorem rK {l:ak} {vs:List ae} (hl:s.heap.IsList l vs.toArray) (hsz:vs.length<=aK):gP prog w A s (.ref l) vs:=by
 intro E R h
 refine collect_list hl ?_ hsz
 have:=h ((s.heap.push (bZ "list" #[] 0)).update s.heap.objs.size (bY (·++vs.toArray))) s.toks fun b o e=>by
  rw [x6 _ _ _ _ (bu (aH e))]
  exact ag _ e
 exact this
theorem qm {l:ak} {vs:List ae} (hl:jS s.heap l vs.toArray) (hsz:vs.length<=aK):gP prog w A s (.ref l) vs:=by
 intro E R h
 obtain ⟨o,ho,hc,n,hd⟩:=id hl
 unfold vf
 refine aa (wpAny_runValue (dr Cy ?_))
 show aM _ _ (do again (.builtin "list.__iadd__" ⟨[<- newList [],.ref l],[]⟩)) _ _ s
 refine aa (kG (al ⟨Code.quiet_builtin _ (by decide +kernel),dr entry_list_iadd' ?_⟩))
 show aM _ _ (io (.ref s.heap.objs.size) (.ref l) (.ref s.heap.objs.size)) _ _ { s with heap:=s.heap.push (bZ "list" #[] 0) }
 unfold io
 have ho':(s.heap.push (bZ "list" #[] 0)).get? l=some o:=ag _ ho
 refine aa (iG (T:="tuple") ⟨o,ho',hc⟩ ?_)
 have ht:(gj "tuple" == gj "tuple")=true:=by rfl
 rw [if_pos (by rw [ht];simp)]
 refine aa (jx ho' hd ?_)
 refine aa (jx (xs:=#[]) (n:=0) (aJ _ rfl) rfl ?_)
 rw [if_neg (by simp)]
 refine aa (gw (xs:=#[]) (n:=0) (aJ _ rfl) rfl ?_ (bV _) (by show (#[]++vs.toArray).size<=aK+1;simp only [Array.size_append,aB,dg];lia))
 refine al ?_
 show aM (bg prog w) A (do
  let o <- load s.heap.objs.size
  match o.data with
  | .seq xs _=>pure xs.toList
  | _=>unsupported "internal:collect") R E { s with heap:=(s.heap.push (bZ "list" #[] 0)).update s.heap.objs.size (bY (·++vs.toArray)) }
 refine aa (oH (gm (aJ _ rfl) _) ?_)
 show aM _ _ (pure ((#[]:Array ae)++vs.toArray).toList) R E _
 rw [show ((#[]:Array ae)++vs.toArray).toList=vs by simp]
 exact al (h ((s.heap.push (bZ "list" #[] 0)).update s.heap.objs.size (bY (·++vs.toArray))) s.toks fun b o e=>by
  rw [x6 _ _ _ _ (bu (aH e))]
  exact ag _ e)
theorem mn {d:ak} {es:Array lx} {ep:Nat} (hh:A.handled=none) (lo:(d == dt)=false) (hm:hJ s.heap d es ep) (hz:es.size<=aK):gP prog w A s (.ref d) (es.toList.map (·.key)):=by
 intro E R h
 refine PySem.W.kdu_collect (DD lo) hh hm hz fun h' tk acc k it=>?_
 have e:acc.toList=es.toList.map (·.key):=by
  apply nG
  intro i
  rw [fN,aA,fN]
  cases q:acc[i]? with
  | none =>
    have:es.size<=i:=by rw [<- it.1];exact Array.getElem?_eq_none_iff.mp q
    rw [tI this];rfl
  | some v =>
    obtain ⟨hl,rfl⟩:=it.2 i v q
    rw [gF hl];rfl
 rw [e]
 exact h h' tk k
theorem BZ {Q:Bool->ai->Prop}:∀ {ns ms:List Int} {us ws:List ae} {fin:Bool} (i:Nat),eG (ns.map V.int) us->eG (ms.map V.int) ws->fin=decide (ns.length<ms.length)->Q (HT.lexLt ns ms) s->zl prog w A true fin Q (us.zip ws) i s
 | [],ms,us,ws,fin,i,r1,r2,hf,q=>by
   have:us=[]:=eG.zero r1
   subst this
   have e:HT.lexLt [] ms=fin:=by rw [hf];cases ms<;>simp [HT.lexLt]
   rw [e] at q
   exact q
 | n::ns,[],us,ws,fin,i,r1,r2,hf,q=>by
   have:ws=[]:=eG.zero r2
   subst this
   have e:HT.lexLt (n::ns) []=fin:=by rw [hf];simp [HT.lexLt]
   rw [e] at q
   rw [yV]
   exact q
 | n::ns,m::ms,us,ws,fin,i,r1,r2,hf,q=>by
   cases r1 with
   | cons h1 r1 =>
     cases r2 with
     | cons h2 r2 =>
       obtain ⟨t,rfl⟩:=h1
       obtain ⟨t',rfl⟩:=h2
       rw [mP]
       refine mT (ri ?_)
       by_cases e:n=m
       ·subst e
        rw [beq_self_eq_true]
        refine oh (BZ (i+1) r1 r2 (by rw [hf];simp) ?_)
        have:HT.lexLt (n::ns) (n::ms)=HT.lexLt ns ms:=by rw [HT.lexLt_cons,if_pos rfl]
        rw [this] at q
        exact q
       ·rw [show (n == m)=false from beq_eq_false_iff_ne.mpr e]
        have hq:HT.lexLt (n::ns) (m::ms)=decide (n<m):=by rw [HT.lexLt_cons,if_neg e]
        rw [hq] at q
        refine oO ?_
        cases hb:(true&&i == 0) with
        | true=>exact oneLt_int q
        | false=>exact oj _ _ (lt_int q)
end
structure Plc {α:Type} (lt:α->α->Bool) (d:α) (ks:List α) (q:List Nat):Prop where
 perm:q.Perm (bH ks.length)
 srt:q.map (fun i=>ks.getD i d)=Ms.srt lt ks
section
variable {X:Cx} {pins:List (ak×dz)} {σ:St} {H:Hp} {s:ai}
theorem jJ {xs:List V} {us:List ae} (r:eG xs us):∀ q:List Nat,(∀ i∈q,i<xs.length)->eG (q.map fun i=>xs.getD i .non) (q.map fun i=>us.getD i bB)
 | [],_=>.nil
 | i::q,h=>by
   obtain ⟨u,hu,ru⟩:=r.get (aj (h i (ah)))
   refine .cons ?_ (jJ r q fun j hj=>h j (af _ hj))
   have e1:xs.getD i .non=xs[i]'(h i (ah)):=by simp [h i (ah)]
   have e2:us.getD i bB=u:=by rw [av,hu];rfl
   show gH (xs.getD i .non) (us.getD i bB)
   rw [e1,e2]
   exact ru
theorem lG {x:ae} {ns:List Int} {vs:List ae} {Q:VK} (I:Inv X pins σ H s) (col:gP X.prog X.w X.A.in1 s x vs) (rv:eG (ns.map V.int) vs) (h64:ns.length<64)
 (k:∀ p,H p=none->Q (.ref p) (upd H p (.lst ((Ms.srt Ms.ltI ns).map V.int)))):aM (bg X.prog X.w) X.A (call (.builtin "sorted") [x]) (EP X pins σ Q) X.xe s:=by
 have hl:vs.length=ns.length:=by rw [<- rv.length,ab]
 have at':∀ i,i<vs.length->∃ t,vs.getD i bB=.int (ns.getD i 0) t:=fun i hi=>by
  have hi':i<ns.length:=by lia
  obtain ⟨u,hu,ru⟩:=rv.get (i:=i) (x:=.int ns[i]) (by rw [aA,aj hi'];rfl)
  obtain ⟨t,rfl⟩:=ru
  refine ⟨t,?_⟩
  rw [av,hu,av,aj hi'];rfl
 refine lj (O:=y6) (κ:=ly) (key:=fun i=>ns.getD i 0) col (.inl (by lia)) (fun h' tk kp h2 Q' q=>?_) (fun h' tk kp i j C hi hj c=>?_) fun p h1 h' tk c hp hu k1 kp e=>?_
 ·refine mV (T:=.type "int") h2 (fun v hv=>?_) (by decide) (by decide) q
  obtain ⟨i,hi,rfl⟩:=bT hv
  obtain ⟨t,e⟩:=at' i hi
  have e2:vs[i]=.int (ns.getD i 0) t:=by rw [<- e];simp [hi]
  rw [e2]
  exact .now
 ·show aM (bg X.prog X.w) _ (zm ly (vs.getD i bB) (vs.getD j bB)) C _ _
  obtain ⟨t,e1⟩:=at' i hi
  obtain ⟨t',e2⟩:=at' j hj
  rw [e1,e2]
  exact vt c
 ·rw [hl] at hp hu
  have pl:=j0 (O:=y6) (0:Int) hp hu
  have hz:aK=16777216:=bG
  have hpm:∀ i∈p.toList,i<(ns.map V.int).length:=fun i hi=>by
   have h1:p.toList.Perm (bH ns.length):=by simpa using cx.mp hp.perm
   rw [ab]
   simpa using h1.mem_iff.mp hi
  have r2:=jJ rv p.toList hpm
  have e3:(p.toList.map fun i=>(ns.map V.int).getD i .non)=(Ms.srt Ms.ltI ns).map V.int:=by
   have:(p.toList.map fun i=>ns.getD i 0)=Ms.srt Ms.ltI ns:=by
    exact pl.trans (sy y6 ns)
   rw [<- this,aC]
   refine cY fun i hi=>?_
   have hi':=hpm i hi
   rw [ab] at hi'
   simp [hi']
  rw [e3] at r2
  have hlen:((Ms.srt Ms.ltI ns).map V.int).length<=aK:=by rw [ab,(Ms.srt_perm ns).length_eq];lia
  have I1:Inv X pins σ H { s with heap:=h1,toks:=tk }:=I.kept (t':=tk) k1
  exact ⟨.ref h1.objs.size,_,I1.laid (t':=tk) kp (aw _) (show gV X.prog X.w _ h' _ (.lst _) from ⟨hlen,_,c,r2,e⟩),rfl,k _ (I1.hok.fresh (aw _))⟩
theorem ju {x:ae} {ts:List (List Int)} {ys:List V} {vs:List ae} {Q:VK} (I:Inv X pins σ H s) (col:gP X.prog X.w X.A.in1 s x vs) (rv:eG ys vs) (hy:ys.length=ts.length)
 (hys:∀ i,i<ts.length->∃ a,ys[i]?=some (.ref a)/\SqT X.K H a ((ts.getD i []).map V.int)/\ts.getD i []≠[]) (h64:OkN ts)
 (k:∀ p q,H p=none->Plc HT.lexLt [] ts q->Q (.ref p) (upd H p (.lst (q.map fun i=>ys.getD i .non)))):aM (bg X.prog X.w) X.A (call (.builtin "sorted") [x]) (EP X pins σ Q) X.xe s:=by
 have hl:vs.length=ts.length:=by rw [<- rv.length,hy]
 have at':∀ i,i<vs.length->∃ (a:ak) (its:List ae),vs.getD i bB=.ref a/\eG ((ts.getD i []).map V.int) its/\jS s.heap a its.toArray/\ts.getD i []≠[]:=fun i hi=>by
  obtain ⟨a,e,sq,ne⟩:=hys i (by lia)
  obtain ⟨u,hu,ru⟩:=rv.get e
  cases (show u=bN a from ru)
  obtain ⟨its,r,it,_⟩:=I.tuple sq
  exact ⟨a,its,by rw [av,hu];rfl,r,it,ne⟩
 refine lj (O:=tE) (κ:=zn true) (key:=fun i=>ts.getD i []) col (by rw [hl];exact h64.inj []) (fun h' tk kp h2 Q' q=>?_) (fun h' tk kp i j C hi hj c=>?_) fun p h1 h' tk c hp hu k1 kp e=>?_
 ·have firsts:∀ us:List ae,(∀ u∈us,∃ i,i<vs.length/\u=vs.getD i bB)->∃ fs:List ae,yX h' us fs/\us.length=fs.length/\∀ f∈fs,∃ n t,f=eZ n t:=fun us=>by
   induction us with
   | nil=>exact fun _=>⟨[],.nil,rfl,by simp⟩
   | cons u us ih =>
     intro hu
     obtain ⟨fs,h1,h2,h3⟩:=ih fun v hv=>hu v (af _ hv)
     obtain ⟨i,hi,rfl⟩:=hu u (ah)
     obtain ⟨a,its,ea,r,⟨o,ho,hc,n,hd⟩,ne⟩:=at' i hi
     cases ht:ts.getD i [] with
     | nil=>exact absurd ht ne
     | cons m ms =>
       rw [ht] at r
       cases r with
       | @cons _ w _ ws rw' r =>
         obtain ⟨t,rfl⟩:=rw'
         refine ⟨.int m t::fs,?_,by rw [aI,aI,h2],fun f hf=>?_⟩
         ·rw [ea]
          exact .cons (kp _ _ ho) hc hd (by simp) h1
         ·rcases ao.mp hf with z | z
          ·exact ⟨m,t,z⟩
          ·exact h3 f z
  obtain ⟨fs,f1,f2,f3⟩:=firsts vs fun u hu=>by
   obtain ⟨i,hi,rfl⟩:=bT hu
   exact ⟨i,hi,by simp [hi]⟩
  refine x8 (T:=.type "int") f1 (by lia) (fun v hv=>?_) (by decide) q
  obtain ⟨n,t,rfl⟩:=f3 v hv
  exact .now
 ·show aM (bg X.prog X.w) _ (zm (zn true) (vs.getD i bB) (vs.getD j bB)) C _ _
  obtain ⟨a,its,e1,r1,⟨o,ho,hc,n,hd⟩,_⟩:=at' i hi
  obtain ⟨a',its',e2,r2,⟨o',ho',hc',n',hd'⟩,_⟩:=at' j hj
  rw [e1,e2]
  refine zo (kp _ _ ho) hd (kp _ _ ho') hd' ?_
  have l1:=r1.length
  have l2:=r2.length
  rw [ab] at l1 l2
  exact BZ 0 r1 r2 (by rw [aB,aB,l1,l2]) c
 ·rw [hl] at hp hu
  have pl:=j0 (O:=tE) ([]:List Int) hp hu
  have hz:aK=16777216:=bG
  have h1p:p.toList.Perm (bH ts.length):=by simpa using cx.mp hp.perm
  have hpm:∀ i∈p.toList,i<ys.length:=fun i hi=>by rw [hy];simpa using h1p.mem_iff.mp hi
  have r2:=jJ rv p.toList hpm
  have hlen:(p.toList.map fun i=>ys.getD i .non).length<=aK:=by rw [ab,h1p.length_eq,dA];lia
  have I1:Inv X pins σ H { s with heap:=h1,toks:=tk }:=I.kept (t':=tk) k1
  refine ⟨.ref h1.objs.size,_,I1.laid (t':=tk) kp (aw _) (show gV X.prog X.w _ h' _ (.lst _) from ⟨hlen,_,c,r2,e⟩),rfl,k _ p.toList (I1.hok.fresh (aw _)) ⟨h1p,?_⟩⟩
  exact pl.trans (sy tE ts)
end
section
variable {X:Cx} {pins:List (ak×dz)} {σ:St} {H:Hp} {s:ai} {A:bL} {p:ak}
theorem pq {ys:List V} (I:Inv X pins σ H s) (h:SqL X.K H p ys\/SqT X.K H p ys):∃ vs,gP X.prog X.w A s (.ref p) vs/\eG ys vs:=by
 rcases h with h | h
 ·obtain ⟨its,r,pl,z⟩:=I.list h
  exact ⟨its,rK pl.isList (by rw [<- r.length];exact z),r⟩
 ·obtain ⟨its,r,pl,z⟩:=I.tuple h
  exact ⟨its,qm pl (by rw [<- r.length];exact z),r⟩
theorem yk {prog:bC} {w:cf} {knd:KeyKind prog w Key} (hk:∀ k v,knd.is k v=true->gH (kV k) v) {es:List lx} {kvs:List (Key×ae)} (h:Pairs knd es kvs):eG (kvs.map fun kv=>kV kv.1) (es.map (·.key)):=by
 induction h with
 | nil=>exact .nil
 | cons h1 _ _ ih=>exact .cons (hk _ _ h1) ih
theorem C9 {k:Key} {v:ae} (h:rW k v=true):gH (kV k) v:=by
 rcases d8 h with ⟨z,t,e1,e2⟩ | ⟨z,t,e1,e2⟩
 ·rw [e1,e2];exact ⟨t,rfl⟩
 ·rw [e1,e2];exact ⟨t,rfl⟩
theorem IF {kvs:List (Key×V)} (I:Inv X pins σ H s) (hh:A.handled=none) (h:Rd H p (.dK kvs)):∃ vs,gP X.prog X.w A s (.ref p) vs/\eG (kvs.map fun kv=>kV kv.1) vs:=by
 obtain ⟨hz,lo,vs,r,o,es,ep,ho,hx,hd,hk,hp,hn⟩:=h.ok I.hok
 have e:kvs.map (fun kv=>kV kv.1)=vs.map (fun kv=>kV kv.1):=by
  have:=r.keys
  have e2:=congrArg (gx kV) this
  rw [aC,aC] at e2
  exact e2
 have rv:=yk (fun k v h=>C9 h) hp
 refine ⟨es.toList.map (·.key),mn hh lo ⟨o,ho,hx,hd⟩ ?_,by rw [e];exact rv⟩
 have l1:=rv.length
 rw [ab,ab,bS] at l1
 have l2:=cj r
 show es.size<=aK
 have hz':kvs.length<=aK:=hz
 have l3:kvs.length=vs.length:=l2
 have l4:vs.length=es.size:=l1
 rw [<- l4,<- l3]
 exact hz'
theorem KH {kvs:List (List Key×V)} (I:Inv X pins σ H s) (hh:A.handled=none) (h:Rd H p (.dT kvs)):∃ (vs:List ae) (as:List ak),gP X.prog X.w A s (.ref p) vs/\eG (as.map V.ref) vs/\as.length=kvs.length/\∀ (i:Nat) (kv:List Key×V) (a:ak),kvs[i]?=some kv->as[i]?=some a->H a=some (.tup (kv.1.map kV)):=by
 obtain ⟨hz,lo,xs,r,o,es,ep,ho,hx,hd,he,hn⟩:=h.ok I.hok
 have l2:=cj r
 have hes:es.toList.map (·.key)=xs.map fun x=>bN x.2.1:=by rw [he,aC];rfl
 refine ⟨es.toList.map (·.key),xs.map (·.2.1),mn hh lo ⟨o,ho,hx,hd⟩ ?_,?_,by rw [ab];exact l2.symm,fun i kv a h1 h2=>?_⟩
 ·have:=congrArg gs he
  rw [bS,ab] at this
  lia
 ·rw [hes,aC]
  have:∀ l:List (List Key×ak×ae),eG (l.map (V.ref∘fun x=>x.2.1)) (l.map fun x=>bN x.2.1):=fun l=>by
   induction l with
   | nil=>exact .nil
   | cons a l ih=>exact .cons rfl ih
  exact this xs
 ·rw [aA] at h2
  cases q:xs[i]? with
  | none=>rw [q] at h2;cases h2
  | some x =>
    rw [q] at h2
    cases h2
    have:∀ {l:List (List Key×V)} {m:List (List Key×ak×ae)} {i:Nat} {kv:List Key×V} {x:List Key×ak×ae},oF (fun (p:List Key×V) (q:List Key×ak×ae)=>p.1=q.1/\H q.2.1=some (.tup (p.1.map kV))/\gH p.2 q.2.2) l m->l[i]?=some kv->m[i]?=some x->H x.2.1=some (.tup (kv.1.map kV)):=fun {l m}=>by
     intro i kv x rr
     induction rr generalizing i with
     | nil=>intro h;simp at h
     | cons h _ ih =>
       cases i with
       | zero=>intro h1 h2;simp at h1 h2;subst h1 h2;exact h.2.1
       | succ i=>intro h1 h2;exact ih (by simpa using h1) (by simpa using h2)
    exact this r h1 q
end
end Ry
namespace Ry
open L2
noncomputable def sM:List Da->Option (List (List Int))
 | []=>some []
 | .tup xs::r=>match gK xs,sM r with
   | some ns,some ts=>some (ns::ts)
   | _,_=>none
 | _=>none
noncomputable def lU (ds:List Da):Option (List Da):=match gK ds with
 | some ns=>if ns.length<64 then some ((Ms.srt Ms.ltI ns).map Da.int) else none
 | none=>match sM ds with
   | some ts=>if OkN ts/\ts.all (fun t=>!t.isEmpty)=true then some ((Ms.srt HT.lexLt ts).map fun t=>.tup (t.map Da.int)) else none
   | none=>none
noncomputable def eF:List Rv->Option Rv
 | [(_,.lst ds)]=>match lU ds with | some es=>some (.fr,.lst es) | none=>none
 | [(_,.tup ds)]=>match lU ds with | some es=>some (.fr,.lst es) | none=>none
 | [(_,.dK ks _)]=>match lU (ks.map jq) with | some es=>some (.fr,.lst es) | none=>none
 | [(_,.dT ks _)]=>match lU (ks.map fun k=>.tup (k.map jq)) with | some es=>some (.fr,.lst es) | none=>none
 | _=>none
end Ry
namespace Ry
open PySem PySem.Spec PyProof.Rows L2
noncomputable def pN (K:ac):List V->Hp->VK->Prop:=fun xs H Q=>∃ p,xs=[.ref p]/\(
 (∃ ns:List Int,ns.length<64/\((SqL K H p (ns.map V.int)\/SqT K H p (ns.map V.int))\/∃ kvs,Rd H p (.dK kvs)/\kvs.map (·.1)=ns.map au)/\∀ l,H l=none->Q (.ref l) (upd H l (.lst ((Ms.srt Ms.ltI ns).map V.int)))) \/
 (∃ (ts:List (List Int)) (ys:List V),OkN ts/\ys.length=ts.length/\(SqL K H p ys\/SqT K H p ys)/\(∀ i,i<ts.length->∃ a,ys[i]?=some (.ref a)/\SqT K H a ((ts.getD i []).map V.int)/\ts.getD i []≠[])/\∀ l q,H l=none->Plc HT.lexLt [] ts q->Q (.ref l) (upd H l (.lst (q.map fun i=>ys.getD i .non)))) \/
 (∃ (ts:List (List Int)) (kvs:List (List Key×V)),OkN ts/\Rd H p (.dT kvs)/\kvs.map (·.1)=ts.map (fun t=>t.map au)/\(∀ t∈ts,t≠[])/\∀ l q (as:List ak),H l=none->Plc HT.lexLt [] ts q->as.length=ts.length->(∀ i,i<ts.length->∃ a,as[i]?=some a/\H a=some (.tup ((ts.getD i []).map V.int)))->Q (.ref l) (upd H l (.lst (q.map fun i=>(as.map V.ref).getD i .non)))))
theorem gI {α:Type} {l:List α} {i:Nat} (h:i<l.length) (d:α):l[i]?=some (l.getD i d):=by rw [av,aj h];rfl
theorem vO {X:Cx} (hc:X.calm=true):kY X (.builtin "sorted") (pN X.K):=by
 intro pins s σ H xs us Q I r h
 obtain ⟨p,rfl,h⟩:=h
 obtain ⟨u,rfl,rx⟩:=lC r
 cases rx
 have hh:X.A.in1.handled=none:=I.ok.hd hc
 rcases h with ⟨ns,h64,src,k⟩ | ⟨ts,ys,h64,hy,src,hys,k⟩ | ⟨ts,kvs,h64,src,hk,ne,k⟩
 ·rcases src with src | ⟨kvs,src,hk⟩
  ·obtain ⟨vs,col,rv⟩:=pq (A:=X.A.in1) I src
   exact lG I col rv h64 k
  ·obtain ⟨vs,col,rv⟩:=IF (A:=X.A.in1) I hh src
   have e:kvs.map (fun kv=>kV kv.1)=ns.map V.int:=by
    have:=congrArg (gx kV) hk
    rw [aC,aC] at this
    exact this
   rw [e] at rv
   exact lG I col rv h64 k
 ·obtain ⟨vs,col,rv⟩:=pq (A:=X.A.in1) I src
  exact ju I col rv hy hys h64 k
 ·obtain ⟨vs,as,col,rv,hl,hat⟩:=KH (A:=X.A.in1) I hh src
  have hkl:kvs.length=ts.length:=by have:=congrArg gs hk;simpa using this
  have hat':∀ i,i<ts.length->∃ a,as[i]?=some a/\H a=some (.tup ((ts.getD i []).map V.int)):=fun i hi=>by
   have h1:i<kvs.length:=by lia
   have h2:i<as.length:=by lia
   refine ⟨as[i],aj h2,?_⟩
   have:=hat i kvs[i] as[i] (aj h1) (aj h2)
   have e:kvs[i].1=(ts.getD i []).map au:=by
    have:=congrArg (fun l=>l[i]?) hk
    simp only [aA,aj h1,gI hi [],cw] at this
    exact bU this
   rw [e,aC] at this
   exact this
  refine ju I col rv (by rw [ab];lia) (fun i hi=>?_) h64 fun l q hl' hq=>k l q as hl' hq (by lia) hat'
  obtain ⟨a,e1,e2⟩:=hat' i hi
  exact ⟨a,by rw [aA,e1];rfl,SqT.of e2,ne _ (bJ (gI hi []))⟩
theorem sE:∀ {ds:List Da} {ts:List (List Int)},sM ds=some ts->ds=ts.map fun t=>Da.tup (t.map Da.int)
 | [],ts,h=>by cases h;rfl
 | .tup xs::r,ts,h=>by
   have h:(match gK xs,sM r with | some ns,some ts=>some (ns::ts) | _,_=>none)=some ts:=h
   split at h
   ·rename_i ns ts' e1 e2
    cases h
    rw [sE e2,gO e1]
    rfl
   ·cases h
 | .non::r,ts,h=>by cases h
 | .bl _::r,ts,h=>by cases h
 | .int _::r,ts,h=>by cases h
 | .str _::r,ts,h=>by cases h
 | .lst _::r,ts,h=>by cases h
 | .dK _ _::r,ts,h=>by cases h
 | .dT _ _::r,ts,h=>by cases h
theorem uT {G H:Hp}:∀ (l:List (ak×List V)),cW G H->(∀ e∈l,H e.1=some (.tup e.2))->∃ G',Ext G H G' H/\∀ e∈l,G' e.1=some (.tup e.2)
 | [],sg,_=>⟨G,Ext.refl sg,by simp⟩
 | (a,xs)::l,sg,h=>by
   obtain ⟨G1,E1,h1⟩:=uT l sg fun e he=>h e (af _ he)
   have ha:=h (a,xs) (ah)
   dsimp only at ha
   cases q:G1 a with
   | some o =>
     have:=E1.gh a o q
     rw [ha] at this
     cases this
     refine ⟨G1,E1,fun e he=>?_⟩
     rcases ao.mp he with z | z
     ·subst z;exact q
     ·exact h1 e z
   | none =>
     refine ⟨upd G1 a (.tup xs),⟨E1.hh,E1.gg.trans (cA q),fun b o z=>?_,fun b o z t w=>?_⟩,fun e he=>?_⟩
     ·by_cases hb:b=a
      ·subst hb;rw [aV] at z;rw [<- z];exact ha
      ·rw [bq hb] at z;exact E1.gh b o z
     ·have hb:b≠a:=fun z'=>by subst z';rw [ha] at z;cases z;cases t
      rw [bq hb];exact E1.nw b o z t w
     ·rcases ao.mp he with z | z
      ·subst z;exact aV
      ·have hb:e.1≠a:=fun z'=>by have:=h1 e z;rw [z',q] at this;cases this
       rw [bq hb];exact h1 e z
theorem jW {K:ac} {G:Hp} {ds:Nat->Da} {xs:Nat->V}:∀ (q:List Nat),(∀ i∈q,Den K G (ds i) (xs i))->cS K G (q.map ds) (q.map xs)
 | [],_=>rfl
 | i::q,h=>⟨_,_,rfl,h i (ah),jW q fun j hj=>h j (af _ hj)⟩
theorem w9 {α:Type} {lt:α->α->Bool} {d:α} {ks:List α} {q:List Nat} (h:Plc lt d ks q) {i:Nat} (hi:i∈q):i<ks.length:=by simpa using h.perm.mem_iff.mp hi
theorem rO {α:Type} {lt:α->α->Bool} {d:α} {ks:List α} {q:List Nat} (h:Plc lt d ks q) (f:α->Da):(Ms.srt lt ks).map f=q.map fun i=>f (ks.getD i d):=by rw [<- h.srt,aC];rfl
theorem yA {K:ac}:Cal K (pN K) eF:=by
 intro B H0 G H rs c xs Q sg ra e k
 have goI:∀ {p:ak} {ns:List Int},ns.length<64->((SqL K H p (ns.map V.int)\/SqT K H p (ns.map V.int))\/∃ kvs,Rd H p (.dK kvs)/\kvs.map (·.1)=ns.map au)->(∀ l,H l=none->Q (.ref l) (upd H l (.lst ((Ms.srt Ms.ltI ns).map V.int))))->pN K [.ref p] H Q:=fun h1 h2 h3=>⟨_,rfl,.inl ⟨_,h1,h2,h3⟩⟩
 have fin1:∀ ns:List Int,c=(.fr,.lst ((Ms.srt Ms.ltI ns).map Da.int))->∀ l,H l=none->Q (.ref l) (upd H l (.lst ((Ms.srt Ms.ltI ns).map V.int))):=fun ns ec l hl=>by
  refine k _ G _ (Ext.own sg hl) ?_
  rw [ec]
  exact ⟨l,_,rfl,hl,sg.free hl,aV,_,rfl,cS.ints.mpr rfl⟩
 have seq:∀ {p:ak} {ds:List Da} {ys:List V} {es:List Da},(SqL K H p ys\/SqT K H p ys)->cS K G ds ys->lU ds=some es->c=(.fr,.lst es)->pN K [.ref p] H Q:=fun {p ds ys es} sq dl es' ec=>by
  unfold lU at es'
  split at es'
  ·rename_i ns en
   split at es'
   ·rename_i h64
    cases es'
    rw [gO en] at dl
    have:=cS.ints.mp dl
    subst this
    exact goI h64 (.inl sq) (fin1 ns ec)
   ·cases es'
  ·split at es'
   ·rename_i ts et
    split at es'
    ·rename_i hcond
     obtain ⟨h64,hne⟩:=hcond
     cases es'
     have ed:=sE et
     have hlen:ys.length=ts.length:=by rw [dl.length,ed,ab]
     have itm:∀ i,i<ts.length->∃ a xs,ys[i]?=some (.ref a)/\G a=some (.tup xs)/\xs=(ts.getD i []).map V.int:=fun i hi=>by
      have:ds[i]?=some (.tup ((ts.getD i []).map Da.int)):=by rw [ed,aA,gI hi []];rfl
      obtain ⟨x,hx,a,xs,rfl,ga,da⟩:=dl.get this
      exact ⟨a,xs,hx,ga,cS.ints.mp da⟩
     refine ⟨p,rfl,.inr (.inl ⟨ts,ys,h64,hlen,sq,fun i hi=>?_,fun l q hl hq=>?_⟩)⟩
     ·obtain ⟨a,xs,e1,e2,e3⟩:=itm i hi
      subst e3
      refine ⟨a,e1,SqT.of (sg _ _ e2),fun z=>?_⟩
      have:=cH.mp hne _ (bJ (gI hi []))
      rw [z] at this
      cases this
     ·refine k _ G _ (Ext.own sg hl) ?_
      rw [ec,rO hq]
      refine ⟨l,_,rfl,hl,sg.free hl,aV,_,rfl,jW (K:=K) (G:=G) q fun i hi=>?_⟩
      obtain ⟨a,xs,e1,e2,e3⟩:=itm i (w9 hq hi)
      subst e3
      have e4:ys.getD i .non=.ref a:=by rw [av,e1];rfl
      show Den K G (.tup _) (ys.getD i .non)
      rw [e4]
      exact ⟨a,_,rfl,e2,cS.ints.mpr rfl⟩
    ·cases es'
   ·cases es'
 unfold eF at e
 split at e
 ·split at e
  ·rename_i es' he
   cases e
   obtain ⟨v,rfl,h⟩:=fK.one ra
   obtain ⟨p,ys,rfl,q,d⟩:=h.lst sg
   exact seq (.inl q) d he rfl
  ·cases e
 ·split at e
  ·rename_i es' he
   cases e
   obtain ⟨v,rfl,h⟩:=fK.one ra
   obtain ⟨p,ys,rfl,q,d,g⟩:=h.tup sg
   exact seq (.inr (SqT.of q)) d he rfl
  ·cases e
 ·rename_i kd ks ds
  split at e
  ·rename_i es' he
   cases e
   obtain ⟨v,rfl,h⟩:=fK.one ra
   obtain ⟨p,kvs,rfl,q,ek,d⟩:=h.dK sg
   unfold lU at he
   have ofK:∀ {ks:List Key} {ns:List Int},gK (ks.map jq)=some ns->ks=ns.map au:=fun {ks}=>by
    induction ks with
    | nil=>intro ns h;cases h;rfl
    | cons k ks ih =>
      intro ns h
      cases k with
      | inl i =>
        have h:(gK (ks.map jq)).map (i::·)=some ns:=h
        cases z:gK (ks.map jq) with
        | none=>rw [z] at h;cases h
        | some ms=>rw [z] at h;cases h;rw [ih z];rfl
      | inr x=>cases h
   split at he
   ·rename_i ns en
    split at he
    ·rename_i h64
     cases he
     exact goI h64 (.inr ⟨kvs,q,by rw [ek];exact ofK en⟩) (fin1 ns rfl)
    ·cases he
   ·exfalso
    split at he
    ·rename_i hq ts et
     cases ks with
     | nil=>exact absurd (show (some []:Option (List Int))=none by assumption) (by simp)
     | cons k ks=>cases k<;>(simp only [ax,jq] at et;cases et)
    ·cases he
  ·cases e
 ·rename_i kd ks ds
  split at e
  ·rename_i es' he
   cases e
   obtain ⟨v,rfl,h⟩:=fK.one ra
   obtain ⟨p,kvs,rfl,q,ek,d⟩:=h.dT sg
   unfold lU at he
   have none_ints:∀ {ns:List Int},gK (ks.map fun k=>Da.tup (k.map jq))=some ns->ks=[]:=fun {ns} h=>by
    cases ks with
    | nil=>rfl
    | cons k ks=>cases h
   have go:∀ ts:List (List Int),OkN ts->(∀ t∈ts,t≠[])->ks=ts.map (fun t=>t.map au)->es'=(Ms.srt HT.lexLt ts).map (fun t=>Da.tup (t.map Da.int))->pN K [.ref p] H Q:=fun ts h64 hne ek2 ee=>by
    refine ⟨p,rfl,.inr (.inr ⟨ts,kvs,h64,q,by rw [ek,ek2],hne,fun l qq as hl hq hlen hat=>?_⟩)⟩
    obtain ⟨G',E',hG⟩:=uT (G:=G) (H:=H) ((bH ts.length).map fun i=>(as.getD i 0,(ts.getD i []).map V.int)) sg fun e he=>by
     obtain ⟨i,hi,rfl⟩:=az.mp he
     obtain ⟨a,e1,e2⟩:=hat i (by simpa using hi)
     have e3:as.getD i 0=a:=by rw [av,e1];rfl
     dsimp only
     rw [e3];exact e2
    have E2:Ext G H G' (upd H l (.lst (qq.map fun i=>(as.map V.ref).getD i .non))):=E'.trans (Ext.own E'.gh hl)
    refine k _ G' _ E2 ?_
    rw [ee,rO hq]
    refine ⟨l,_,rfl,hl,E'.gh.free hl,aV,_,rfl,jW (K:=K) (G:=G') qq fun i hi=>?_⟩
    have hi':=w9 hq hi
    have g:=hG (as.getD i 0,(ts.getD i []).map V.int) (az.mpr ⟨i,by simpa using hi',rfl⟩)
    have e4:(as.map V.ref).getD i .non=.ref (as.getD i 0):=by
     have:i<as.length:=by lia
     simp [this]
    show Den K G' (.tup _) ((as.map V.ref).getD i .non)
    rw [e4]
    exact ⟨_,_,rfl,g,cS.ints.mpr rfl⟩
   split at he
   ·rename_i ns en
    have e0:=none_ints en
    subst e0
    split at he
    ·cases he
     have:ns=[]:=by cases en;rfl
     subst this
     exact go [] (.inl (by simp)) (by simp) rfl rfl
    ·cases he
   ·split at he
    ·rename_i ts et
     split at he
     ·rename_i hcond
      cases he
      have conv:∀ {ks:List (List Key)} {ts:List (List Int)},sM (ks.map fun k=>Da.tup (k.map jq))=some ts->ks=ts.map (fun t=>t.map au):=fun {ks}=>by
       induction ks with
       | nil=>intro ts h;cases h;rfl
       | cons k ks ih =>
         intro ts h
         have h:(match gK (k.map jq),sM (ks.map fun k=>Da.tup (k.map jq)) with | some ns,some ts=>some (ns::ts) | _,_=>none)=some ts:=h
         split at h
         ·rename_i ns ts' e1 e2
          cases h
          have e3:k=ns.map au:=by
           have e4:=gO e1
           have:∀ {k:List Key} {ns:List Int},k.map jq=ns.map Da.int->k=ns.map au:=fun {k}=>by
            induction k with
            | nil=>intro ns h;cases ns with
              | nil=>rfl
              | cons _ _=>cases h
            | cons a k ihk =>
              intro ns h
              cases ns with
              | nil=>cases h
              | cons n ns =>
                rw [ax,ax] at h
                injection h with h1 h2
                cases a with
                | inl i=>cases h1;rw [ihk h2];rfl
                | inr x=>cases h1
           exact this e4
          rw [ih e2,e3]
          rfl
         ·cases h
      exact go ts hcond.1 (fun t ht z=>by have:=cH.mp hcond.2 t ht;rw [z] at this;cases this) (conv et) rfl
     ·cases he
    ·cases he
  ·cases e
 ·cases e
section
variable {X:Cx} {e:aS} {es:List aS} {p pos:ft} {g:Rho->Option (List Rv)}
theorem zE (hc:X.calm=true) (hg:Gl X "sorted") (hm:X.mg "sorted" = none) (ha:PXA X (e::es) g) (he:am (e::es) X.env=(false,b9 e X.env)::am es X.env:=by exact bR rfl) (hpl:(cz pos (am es X.env)).any (·.1)=false:=by rfl):PX X (.Call (.Name "sorted" p) (e::es) [] pos) (xB eF g) :=
 EC (vO hc) yA hg hm (by decide +kernel) ha (by decide) (by decide) he hpl
end
end Ry
namespace Ry
open PySem L2
noncomputable abbrev UD:=List (Int×List Int)
noncomputable def dD (l:List Int):Da:=.dK (l.map au) (l.map fun _=>.bl true)
noncomputable def dU (D:UD):Da:=.dK (D.map fun e=>au e.1) (D.map fun e=>dD e.2)
noncomputable def tF (l:List Int) (b:Int):List Int:=if b∈l then l else l++[b]
noncomputable def jR:UD->Int->Int->UD
 | [],a,b=>[(a,[b])]
 | (x,l)::D,a,b=>if x=a then (x,tF l b)::D else (x,l)::jR D a b
noncomputable def upp (T:List (Int×Int)):UD:=T.foldl (fun D p=>jR D p.1 p.2) []
noncomputable def dQ:List Da->Option (List (Int×Int))
 | []=>some []
 | .tup [.int a,.int b]::r=>(dQ r).map ((a,b)::·)
 | _=>none
noncomputable def fn_uppers_of:List Da->Option Da
 | [.tup ds]=>match dQ ds with | some T=>if T.length<=1000 then some (dU (upp T)) else none | none=>none
 | [.lst ds]=>match dQ ds with | some T=>if T.length<=1000 then some (dU (upp T)) else none | none=>none
 | _=>none
noncomputable def za:Int->List Int->Int
 | m,[]=>m
 | m,a::r=>za (if m<a then a else m) r
noncomputable def iO:List Int->List Int
 | []=>[]
 | a::r=>if a∈r then iO r else a::iO r
noncomputable def lp (g:Rho->Option (List Rv)):Rho->Option Rv:=fun ρ=>match g ρ with
 | some [(_,.int j)]=>if -(2 ^ 62)<=j/\j<=1000000 then some (.fr,.lst (fE 0 j.toNat)) else none
 | _=>none
end Ry
namespace Ry
open PySem PySem.Spec PyProof.Rows L2
section
variable {X:Cx} {a e:aS} {es:List aS} {p p2 pos pos2:ft} {fa:Rho->Option Rv} {g:Rho->Option (List Rv)}
noncomputable def Mh (ta:TA):TE:=fun σ H Q=>ta σ H fun vs H1=>∃ j:Int,vs=[.int j]/\∀ r,H1 r=none->Q (.ref r) (upd H1 r (.rng 0 j))
theorem pc {ta:TA} (hg:Gl X "range") (hm:X.mg "range" = none) (ha:PA X [a] ta) (hs:am [a] X.env=[(false,b9 a X.env)]:=by exact bR rfl):PE X (.Call (.Name "range" p) [a] [] pos) (Mh ta):=by
 intro pins s σ H Q I h
 refine Call_ (nU I hg hm boot_range (fC (thn (ha pos pins s σ H _ I h) fun us s1 ⟨vs,H1,I1,r1,q1⟩=>?_) hs rfl))
 obtain ⟨j,e,q⟩:=q1
 subst e
 cases r1 with
 | cons r rr =>
   cases rr
   obtain ⟨t,rfl⟩:=r
   refine call_range_1 ⟨.ref s1.heap.objs.size,_,I1.laid (a:=s1.heap.objs.size) (o:=.rng 0 j) (fun b o e=>ag _ e) (aw _) ⟨_,_,_,aJ _ rfl⟩,rfl,q _ (I1.hok.fresh (aw _))⟩
theorem rL (hc:X.calm=true):kY X (.type "list") (fun xs H Q=>∃ (r:ak) (j:Int),xs=[.ref r]/\H r=some (.rng 0 j)/\-(2 ^ 62)<=j/\j<=1000000/\∀ l,H l=none->Q (.ref l) (upd H l (.lst ((bH j.toNat).map fun (i:Nat)=>V.int (i:Int))))):=by
 intro pins s σ H xs us Q I r h
 obtain ⟨r',j,rfl,hr,j1,j2,q⟩:=h
 obtain ⟨u,rfl,rx⟩:=lC r
 cases rx
 obtain ⟨t,u,v,hr'⟩:=I.hok r' _ hr
 have hs:aK=16777216:=bG
 refine call_list_range (n:=j.toNat) (I.ok.hd hc) (show IsRange s.heap r' 0 j 1 t u v from hr') (small_one (by lia) (by lia) (by lia) (by lia)) (by rw [xU];split<;>lia) (by lia) fun h' tk acc' c' kp e it=>?_
 have rv:eG ((bH j.toNat).map fun (i:Nat)=>V.int (i:Int)) acc'.toList:=by
  have:∀ (n:Nat) (l:List ae) (lo:Nat),l.length=n->(∀ i v,l[i]?=some v->∃ t,v=eZ ((lo+i:Nat):Int) t)->eG ((wD lo n).map fun (i:Nat)=>V.int (i:Int)) l:=fun n=>by
   induction n with
   | zero=>intro l lo hl _;cases l with
     | nil=>exact .nil
     | cons _ _=>cases hl
   | succ n ih =>
     intro l lo hl hv
     cases l with
     | nil=>cases hl
     | cons x l =>
       obtain ⟨t,ht⟩:=hv 0 x rfl
       rw [oy,ax]
       refine .cons ⟨t,by simpa using ht⟩ (ih l (lo+1) (by simpa using hl) fun i v hi=>?_)
       obtain ⟨t,ht⟩:=hv (i+1) v (by simpa using hi)
       exact ⟨t,by rw [ht];congr 2;lia⟩
  rw [gy]
  refine this j.toNat acc'.toList 0 (by rw [bS];exact it.1) fun i v hi=>?_
  obtain ⟨t,ht⟩:=it.2 i v (by rw [<- fN];exact hi)
  exact ⟨t,by rw [ht];congr 1;simp⟩
 refine ⟨.ref s.heap.objs.size,_,I.laid (t':=tk) kp (aw _) (show gV X.prog X.w _ h' _ (.lst _) from ⟨by rw [ab,dA];lia,acc'.toList,c',rv,by simpa using e⟩),rfl,q _ (I.hok.fresh (aw _))⟩
theorem kQ {K:ac} {G:Hp}:∀ (n:Nat) (lo:Nat),cS K G (fE (lo:Int) n) ((wD lo n).map fun (i:Nat)=>V.int (i:Int))
 | 0,_=>rfl
 | n+1,lo=>by
   rw [oy,ax]
   refine ⟨_,_,rfl,rfl,?_⟩
   have:=kQ (K:=K) (G:=G) n (lo+1)
   have e:((lo+1:Nat):Int)=(lo:Int)+1:=by lia
   rw [e] at this
   exact this
theorem ux (hg:Gl X "list") (hm:X.mg "list" = none) (hg2:Gl X "range") (hm2:X.mg "range" = none) (ha:PXA X [a] g) (hc:X.calm=true:=by rfl) (hs:am [a] X.env=[(false,b9 a X.env)]:=by exact bR rfl)
 (he:am [.Call (.Name "range" p2) [a] [] pos2] X.env=[(false,b9 (.Call (.Name "range" p2) [a] [] pos2) X.env)]:=by rfl):PX X (.Call (.Name "list" p) [.Call (.Name "range" p2) [a] [] pos2] [] pos) (lp g) :=
 PE.imp (mC (rL hc) hg hm (by decide +kernel) (fX (pc hg2 hm2 ha hs) kW he) (by decide) (by decide) he rfl) fun σ H Q ⟨B,G,ρ,r,sg,sb,st,eq,k⟩=>by
  unfold lp at eq
  split at eq
  ·rename_i kd j ej
   split at eq
   ·rename_i hj
    cases eq
    refine ⟨B,G,ρ,_,sg,sb,st,ej,fun vs G1 H1 E1 r1=>?_⟩
    obtain ⟨v,rfl,r2⟩:=fK.one r1
    refine ⟨j,by rw [r2.int],fun rr hrr=>?_⟩
    refine ⟨rr,j,rfl,aV,hj.1,hj.2,fun l hl=>?_⟩
    have E2:=E1.trans (Ext.own (o:=.rng 0 j) E1.gh hrr)
    refine k _ G1 _ (E2.trans (Ext.own E2.gh hl)) ⟨l,_,rfl,E2.hh.free hl,E2.gh.free hl,aV,_,rfl,?_⟩
    rw [gy]
    exact kQ j.toNat 0
   ·cases eq
  ·cases eq
end
theorem DG {X:Cx} {elt tg iter:aS} {ifs:List aS} {scope:eI} {pos:ft} {ix:List (Option Nat)} {wi:TI} {g:TG} {tt:TT} {te:TE} (hc:X.calm=true) (S:CScope X scope ix) (hi:PI X tg iter wi) (h1:∀ s H fp,PG (inC X scope s H fp) tg g) (h2:∀ s H fp,PTS (inC X scope s H fp) ifs tt) (h3:∀ s H fp,PE (inC X scope s H fp) elt te)
 (hs:∀ x,fz iter X.env x=pure x:=by intro _;rfl):PE X (.ListComp elt [⟨tg,iter,ifs,0⟩] scope pos) (BV (mpS ix) wi g tt te):=zL hc S hi ⟨h1,h2,h3⟩ hs
theorem uU:∀ ns:List Int,(iO ns).Nodup/\∀ x,x∈iO ns↔x∈ns
 | []=>⟨El,fun x=>Iff.rfl⟩
 | a::ns=>by
   obtain ⟨h1,h2⟩:=uU ns
   show (if a∈ns then iO ns else a::iO ns).Nodup/\∀ x,x∈(if a∈ns then iO ns else a::iO ns)↔_
   by_cases m:a∈ns
   ·rw [if_pos m]
    refine ⟨h1,fun x=>?_⟩
    rw [h2,ao]
    exact ⟨.inr,fun z=>z.elim (fun e=>e▸m) id⟩
   ·rw [if_neg m]
    refine ⟨be.mpr ⟨fun z=>m ((h2 a).mp z),h1⟩,fun x=>?_⟩
    rw [ao,ao,h2]
section
variable {X:Cx} {a b e:aS} {es:List aS} {p pos:ft} {fa fb:Rho->Option Rv} {g:Rho->Option (List Rv)}
noncomputable def GO:List Rv->Option Rv
 | [(_,.dK ks _)]=>some (.pu,.int ks.length)
 | _=>none
noncomputable def yj:List Rv->Option Rv:=fun rs=>(sI rs).or (GO rs)
theorem zK:kY X (.builtin "len") (fun xs H Q=>∃ a kvs,xs=[V.ref a]/\Rd H a (.dK kvs)/\Q (.int kvs.length) H):=by
 intro pins s σ H xs us Q I r h
 obtain ⟨a,kvs,rfl,ha,q⟩:=h
 obtain ⟨u,rfl,ru⟩:=lC r
 cases ru
 exact LI I ha fun t s' I'=>⟨.int kvs.length,H,I',⟨t,rfl⟩,q⟩
theorem Ea {K:ac}:Cal K (fun xs H Q=>∃ a kvs,xs=[V.ref a]/\Rd H a (.dK kvs)/\Q (.int kvs.length) H) GO:=by
 intro B H0 G H rs c xs Q sg ra e k
 unfold GO at e
 split at e
 ·cases e
  obtain ⟨v,rfl,h⟩:=fK.one ra
  obtain ⟨p,kvs,rfl,q,ek,d⟩:=h.dK sg
  refine ⟨p,kvs,rfl,q,?_⟩
  have:kvs.length=(kvs.map (·.1)).length:=(ab _).symm
  rw [this,ek]
  exact k _ G H (Ext.refl sg) rfl
 ·cases e
theorem Gr (hg:Gl X "len") (hm:X.mg "len" = none) (ha:PXA X (e::es) g) (he:am (e::es) X.env=(false,b9 e X.env)::am es X.env:=by exact bR rfl) (hpl:(cz pos (am es X.env)).any (·.1)=false:=by rfl):PX X (.Call (.Name "len" p) (e::es) [] pos) (xB yj g):=by
 intro pins s σ H Q I q
 obtain ⟨B,G,ρ,c,sg,sb,st,eq,k⟩:=q
 unfold xB at eq
 split at eq
 ·cases eq
 ·rename_i rs er
  unfold yj at eq
  cases z:sI rs with
  | some z' =>
    rw [z] at eq
    cases eq
    exact Et hg hm ha he hpl pins s σ H Q I ⟨B,G,ρ,_,sg,sb,st,by unfold xB;rw [er];exact z,k⟩
  | none =>
    rw [z] at eq
    have:=EC (X:=X) (p:=p) (pos:=pos) zK Ea hg hm (by decide +kernel) ha (by decide) (by decide) he hpl
    exact this pins s σ H Q I ⟨B,G,ρ,c,sg,sb,st,by unfold xB;rw [er];exact eq,k⟩
theorem dM:∀ {ns:List Int} {us:List ae},eG (ns.map V.int) us->dR us ns
 | [],us,r=>by rw [ja] at r;cases r;exact .nil
 | n::ns,us,r=>by
   rw [ax] at r
   cases r with
   | cons h t =>
     obtain ⟨tk,rfl⟩:=h
     exact .cons n tk (dM t)
theorem AG (hc:X.calm=true):kY X (.builtin "sum") (fun xs H Q=>∃ (p:ak) (ns:List Int),xs=[.ref p]/\SqL X.K H p (ns.map V.int)/\Q (.int ns.sum) H):=by
 intro pins s σ H xs us Q I r h
 obtain ⟨p,ns,rfl,hq,q⟩:=h
 obtain ⟨u,rfl,rx⟩:=lC r
 cases rx
 obtain ⟨its,rv,pl,hz⟩:=I.list hq
 have hi:=dM rv
 have hh:X.A.handled=none:=I.ok.hd hc
 obtain ⟨xs,hx⟩:=hi.allInts.items
 have hl':s.heap.IsList p (mW xs):=hx▸pl.isList
 refine sum_intListG hh hl' fun h' tk t' hk=>?_
 have e1:ns=xs.toList.map (·.1):=by
  rw [<- nums_intItems,<- hx]
  exact (show numsOf its.toArray.toList=ns from hi.numsOf).symm
 have e2:preSum (yY xs) xs.size=ns.sum:=by
  rw [preSum_eq,eK (by simp),e1]
 rw [e2]
 exact ⟨.int ns.sum,H,I.kept (t':=tk) hk,⟨t',rfl⟩,q⟩
noncomputable def ER:List Rv->Option Rv
 | [(_,.lst ds)]=>match gK ds with
   | some ns=>some (.pu,.int ns.sum)
   | none=>none
 | _=>none
theorem Ho {K:ac}:Cal K (fun xs H Q=>∃ (p:ak) (ns:List Int),xs=[.ref p]/\SqL K H p (ns.map V.int)/\Q (.int ns.sum) H) ER:=by
 intro B H0 G H rs c xs Q sg ra e k
 unfold ER at e
 split at e
 ·split at e
  ·rename_i ns en
   cases e
   obtain ⟨v,rfl,h⟩:=fK.one ra
   obtain ⟨p,ys,rfl,q,d⟩:=h.lst sg
   rw [gO en] at d
   have:=cS.ints.mp d
   subst this
   exact ⟨p,ns,rfl,q,k _ G H (Ext.refl sg) rfl⟩
  ·cases e
 ·cases e
theorem Im (hc:X.calm=true) (hg:Gl X "sum") (hm:X.mg "sum" = none) (ha:PXA X (e::es) g) (he:am (e::es) X.env=(false,b9 e X.env)::am es X.env:=by exact bR rfl) (hpl:(cz pos (am es X.env)).any (·.1)=false:=by rfl):PX X (.Call (.Name "sum" p) (e::es) [] pos) (xB ER g) :=
 EC (AG hc) Ho hg hm (by decide +kernel) ha (by decide) (by decide) he hpl
noncomputable def uj (fk fv:Rho->Option Rv):Rho->Option Rv:=fun ρ=>match fk ρ,fv ρ with
 | some (_,.int i),some r=>if fj r=true then some (.fr,.dK [.inl i] [r.2]) else none
 | _,_=>none
theorem DN (ha:PX X a fa) (hb:PX X b fb):PX X (.Dict [some a] [b] pos) (uj fa fb) :=
 PE.imp (FQ (xt ha hb Ar) rfl rfl (by simp) (show 1<=15 by decide)) fun σ H Q ⟨B,G,ρ,r,sg,sb,st,eq,k⟩ p hp=>by
  unfold uj at eq
  split at eq
  ·rename_i kd i rv efa efb
   split at eq
   ·rename_i hpu
    cases eq
    have E0:Ext G H G (upd H p (.dK [])):=Ext.own sg hp
    refine ⟨B,G,ρ,_,E0.gh,sb.trans E0.hh,st.ext E0,efa,fun x G1 H1 E1 r1=>⟨B,G1,ρ,_,E1.gh,(sb.trans E0.hh).trans E1.hh,(st.ext E0).ext E1,efb,fun y G2 H2 E2 r2=>?_⟩⟩
    obtain ⟨G3,E3,_,d3⟩:=r2.pure E2 hpu
    have E03:=(E0.trans E1).trans E3
    have hp2:H2 p=some (.dK []):=(E1.trans E3).hh _ _ aV
    have gp:G3 p=none:=(E1.trans E3).nw p _ aV rfl (sg.free hp)
    have ex:x=.int i:=r1.int
    subst ex
    refine ⟨hp2,[(.inl i,y)],rfl,by simp,?_⟩
    refine k _ G3 _ (E03.mut hp gp) ⟨p,_,rfl,hp,gp,aV,[(.inl i,y)],rfl,rfl,⟨y,[],rfl,d3,rfl⟩⟩
   ·cases eq
  ·cases eq
end
section
variable {X:Cx} {pins:List (ak×dz)} {σ:St} {H:Hp} {s:ai} {l:ak} {o:HO} {ob:dz}
theorem L6 (I:Inv X pins σ H s) (e:H l=some (.frz ob o)) (n1:∀ ob u,X.H₀ l≠some (.frz ob u)):Inv X pins σ (upd H l o) s:=by
 have nn:∀ {b:ak},H b=none->b≠l:=fun n z=>by rw [z,e] at n;cases n
 have ne:∀ {b:ak} {w:HO},H b=some w->(∀ ob u,w≠.frz ob u)->b≠l:=fun q n z=>by rw [z,e] at q;exact n _ _ (bU q).symm
 refine ⟨I.ok,I.os,I.bare,⟨I.base.keep,I.base.slot,fun b w q n hx=>?_,I.base.there,fun b xs q=>?_,fun b w u q=>?_,fun b ps q=>?_⟩,I.loc,I.cell,?_,fun x c q=>?_,fun p hp=>?_,fun b v q=>?_,I.len⟩
 ·have z:=I.base.free b w q n hx
  rw [bq (nn z)];exact z
 ·have z:=I.base.tups b xs q
  rw [bq (ne z (fun _ _ y=>by cases y))];exact z
 ·have z:=I.base.frzs b w u q
  rw [bq (fun y=>n1 w u (by rw [<- y];exact q))];exact z
 ·obtain ⟨m,z⟩:=I.base.tbls b ps q
  exact ⟨m,by rw [bq (ne z (fun _ _ y=>by cases y))];exact z⟩
 ·rw [bq (nn I.free)];exact I.free
 ·rw [bq (nn (I.freeC x c q))];exact I.freeC x c q
 ·obtain ⟨a,b,c⟩:=I.pin p hp
  exact ⟨a,by rw [bq (nn b)];exact b,c⟩
 ·have hown:∀ c y,H c=some (.own y)->upd H l o c=some (.own y):=fun c y z=>by rw [bq (ne z (fun _ _ y=>by cases y))];exact z
  have htup:∀ c xs,H c=some (.tup xs)->upd H l o c=some (.tup xs):=fun c xs z=>by rw [bq (ne z (fun _ _ y=>by cases y))];exact z
  have hcod:∀ c x,H c=some (.cod x)->upd H l o c=some (.cod x):=fun c x z=>by rw [bq (ne z (fun _ _ y=>by cases y))];exact z
  by_cases hb:b=l
  ·subst hb
   rw [aV] at q
   cases q
   obtain ⟨_,ok⟩:=I.hok b _ e
   exact gV.stay ok (fun _ _ _ z=>z) (fun c z=>hown c _ z) htup hcod
  ·rw [bq hb] at q
   exact (I.hok b v q).stay (fun _ _ _ z=>z) (fun c z=>hown c _ z) htup hcod
end
noncomputable def u6:Da->Bool
 | .non=>true
 | .bl _=>true
 | .int _=>true
 | .str _=>true
 | _=>false
theorem FT {K:ac} {B H0 G H:Hp} {k:Kd} {d:Da} {v:V} (h:h8 K B H0 G H (k,d) v) (f:u6 d=true):∀ {B' H0' G' H':Hp},h8 K B' H0' G' H' (.pu,d) v:=by
 intro B' H0' G' H'
 cases d with
 | non=>exact h.non
 | bl b=>exact h.bl
 | int i=>exact h.int
 | str x=>exact h.str
 | _=>cases f
noncomputable def yE (i:Nat) (f:Rho->Option Rv):Rho->Option Rv:=fun ρ=>match ρ[i]? with
 | some (.ow d)=>if nN d=true then (match f (ρ.set i (.pu d)) with
   | some (_,r)=>if u6 r=true then some (.pu,r) else none
   | none=>none) else none
 | _=>none
theorem tY {K:ac} {G G':Hp}:∀ {ds:List Da} {xs:List V},ds.all u6=true->cS K G ds xs->cS K G' ds xs
 | [],_,_,h=>h
 | d::ds,xs,f,h=>by
   rw [List.all_cons,aU] at f
   obtain ⟨v,r,rfl,hv,hr⟩:=h
   refine ⟨v,r,rfl,?_,tY f.2 hr⟩
   have f1:=f.1
   cases d with
   | non=>exact hv
   | bl b=>exact hv
   | int i=>exact hv
   | str x=>exact hv
   | _=>cases f1
noncomputable def Gh (r:Rv):Option Rv:=if u6 r.2=true then some (.pu,r.2) else match r with
 | (.fr,.lst ds)=>if ds.all u6=true then some (.fr,.lst ds) else none
 | _=>none
theorem Jb {K:ac} {B H0 G H B' H0' G' H':Hp} {r r':Rv} {v:V} {l:ak} (h:h8 K B H0 G H r v) (e:Gh r=some r') (h0:∀ b,H0 b=none->b≠l/\H0' b=none) (hg:∀ b,G b=none->G' b=none) (hh:∀ b w,b≠l->H b=some w->H' b=some w):h8 K B' H0' G' H' r' v:=by
 unfold Gh at e
 split at e
 ·rename_i hf
  cases e
  exact FT (k:=r.1) h hf
 ·split at e
  ·rename_i ds _
   split at e
   ·rename_i hi
    cases e
    obtain ⟨a,o,rfl,n0,g,q,xs,rfl,dl⟩:=h
    obtain ⟨ne,n0'⟩:=h0 a n0
    exact ⟨a,_,rfl,n0',hg a g,hh a _ ne q,xs,rfl,tY hi dl⟩
   ·cases e
  ·cases e
noncomputable def mF (i:Nat) (f:Rho->Option Rv):Rho->Option Rv:=fun ρ=>match ρ[i]? with
 | some (.ow d)=>if nN d=true then (match f (ρ.set i (.pu d)) with
   | some r=>Gh r
   | none=>none) else none
 | _=>none
theorem BP {X:Cx} {pins:List (ak×dz)} {s:ai} {σ:St} {B G H:Hp} {ρ:Rho} {i:Nat} {d:Da} (I:Inv X pins σ H s) (sg:cW G H) (sb:cW B H) (st:iK X.K B G H σ ρ) (ed:ρ[i]?=some (.ow d)) (hd:nN d=true) :
 ∃ G1 H1,Inv X pins σ H1 s/\cW G1 H1/\cW B H1/\iK X.K B G1 H1 σ (ρ.set i (.pu d))/\∀ (σ2:St) (s2:ai) (G2 H2:Hp) (r r':Rv) (v:V),Inv X pins σ2 H2 s2->Ext G1 H1 G2 H2->h8 X.K B H1 G2 H2 r v->Gh r=some r'->∃ G3 H3,Inv X pins σ2 H3 s2/\Ext G H G3 H3/\h8 X.K B H G3 H3 r' v:=by
 obtain ⟨l,o,es,nb,ng,hl,ho⟩:=st.ow i d ed
 have hi:i<ρ.length:=(aF.mp ed).1
 have hdc:=(ho.dct hd).1
 obtain ⟨ob,I1⟩:=Dd I hl hdc
 have n1:∀ ob u,X.H₀ l≠some (.frz ob u):=fun ob u z=>by
  have:=I.base.frzs l ob u z
  rw [hl] at this
  rcases hdc with ⟨_,y⟩ | ⟨_,y⟩<;>(subst y;cases this)
 have sG:cW G (upd G l (.frz ob o)):=cA ng
 have st1:iK X.K B (upd G l (.frz ob o)) (upd H l (.frz ob o)) σ (ρ.set i (.pu d)):=by
  refine ⟨by rw [bX];exact st.len,fun j d1 q=>?_,fun j d1 q=>?_,fun j j' d1 d2 l' hjj q1 q2 s1 s2=>?_,st.tg.mono sG⟩
  ·by_cases ej:i=j
   ·subst ej
    rw [ba hi] at q
    cases q
    exact ⟨_,es,((ho.mono sG).dct hd).2 l ob aV⟩
   ·rw [bb ej] at q
    obtain ⟨v,a,b⟩:=st.pu j d1 q
    exact ⟨v,a,Den.mono sG d1 b⟩
  ·by_cases ej:i=j
   ·subst ej;rw [ba hi] at q;cases q
   ·rw [bb ej] at q
    obtain ⟨l0,o0,a,b,c',f0,g0⟩:=st.ow j d1 q
    have ne:l0≠l:=fun z=>by subst z;exact st.ap i j d d1 l0 ej ed q es a
    exact ⟨l0,o0,a,b,by rw [bq ne];exact c',by rw [bq ne];exact f0,g0.mono sG⟩
  ·have back:∀ (m:Nat) (d0:Da),(ρ.set i (.pu d))[m]?=some (Sl.ow d0)->ρ[m]?=some (Sl.ow d0):=fun m d0 q=>by
    by_cases em:i=m
    ·subst em;rw [ba hi] at q;cases q
    ·rw [bb em] at q;exact q
   exact st.ap j j' d1 d2 l' hjj (back _ _ q1) (back _ _ q2) s1 s2
 refine ⟨_,_,I1,kK sg,lh sb nb,st1,fun σ2 s2 G2 H2 r r' v I2 E2 r2 eq=>?_⟩
 have hl2:H2 l=some (.frz ob o):=E2.hh _ _ aV
 refine ⟨fun b=>if b=l then none else G2 b,_,L6 I2 hl2 n1,⟨fun b w z=>?_,fun b w z=>?_,fun b w z=>?_,fun b w z t y=>?_⟩,Jb (l:=l) r2 eq (fun b z=>?_) (fun b z=>?_) fun b w hb z=>?_⟩
 ·by_cases hb:b=l
  ·subst hb;rw [aV,<- z];exact hl.symm
  ·rw [bq hb];exact E2.hh b w (by rw [bq hb];exact z)
 ·have hb:b≠l:=cb z ng
  show (if b=l then none else G2 b)=some w
  rw [if_neg hb]
  exact E2.gg b w (by rw [bq hb];exact z)
 ·have z:(if b=l then none else G2 b)=some w:=z
  by_cases hb:b=l
  ·rw [if_pos hb] at z;cases z
  ·rw [if_neg hb] at z
   rw [bq hb]
   exact E2.gh b w z
 ·show (if b=l then none else G2 b)=none
  by_cases hb:b=l
  ·rw [if_pos hb]
  ·rw [if_neg hb]
   exact E2.nw b w (by rw [bq hb];exact z) t (by rw [bq hb];exact y)
 ·have hb:b≠l:=fun y=>by subst y;rw [aV] at z;cases z
  rw [bq hb] at z
  exact ⟨hb,z⟩
 ·show (if b=l then none else G2 b)=none
  split
  ·rfl
  ·exact z
 ·rw [bq hb]
  exact z
theorem xw (i:Nat) {X:Cx} {e:aS} {f:Rho->Option Rv} (h:PX X e f):PX X e (mF i f):=by
 intro pins s σ H Q I ⟨B,G,ρ,r,sg,sb,st,eq,k⟩
 unfold mF at eq
 split at eq
 ·rename_i d ed
  split at eq
  case isFalse=>cases eq
  case isTrue hd =>
  split at eq
  ·rename_i rr efr
   obtain ⟨G1,H1,I1,sg1,sb1,st1,back⟩:=BP I sg sb st ed hd
   refine thn (h pins s σ _ (fun v H2=>∃ G2,Ext G1 H1 G2 H2/\h8 X.K B H1 G2 H2 rr v) I1 ⟨B,_,_,_,sg1,sb1,st1,efr,fun v G2 H2 E2 r2=>⟨G2,E2,r2⟩⟩) fun u s' ⟨v,H2,I2,ru,G2,E2,r2⟩=>?_
   obtain ⟨G3,H3,I3,E3,r3⟩:=back σ s' G2 H2 rr r v I2 E2 r2 eq
   exact ⟨v,H3,I3,ru,k v G3 H3 E3 r3⟩
  ·cases eq
 ·cases eq
theorem PX.le {X:Cx} {e:aS} {f g:Rho->Option Rv} (h:PX X e f) (hl:∀ ρ r,g ρ=some r->f ρ=some r):PX X e g :=
 fun pins s σ H Q I ⟨B,G,ρ,r,sg,sb,st,eq,k⟩=>h pins s σ H Q I ⟨B,G,ρ,r,sg,sb,st,hl ρ r eq,k⟩
theorem GL (i:Nat) {X:Cx} {e:aS} {f:Rho->Option Rv} (h:PX X e f):PX X e (yE i f):=(xw i h).le fun ρ r eq=>by
 unfold yE at eq
 unfold mF
 split at eq
 ·split at eq
  case isFalse=>cases eq
  case isTrue hd =>
  split at eq
  ·rename_i efr
   split at eq
   ·rename_i hfl
    cases eq
    rw [if_pos hd,efr]
    exact if_pos hfl
   ·cases eq
  ·cases eq
 ·cases eq
section
variable {O:fI} {key:Nat->O.α} {n:Nat}
noncomputable def JS (O:fI) (key:Nat->O.α) {α:Type}:rB α->α
 | .ret a=>a
 | .ask i j k=>JS O key (k (O.blt (key i) (key j)))
theorem fg.det {α:Type} {Q:α->Prop}:∀ {t:rB α},fg O key n t Q->fg O key n t (fun a=>Q a/\a=JS O key t)
 | .ret _,q=>⟨q,rfl⟩
 | .ask i j k,q=>⟨q.1,q.2.1,fg.det (t:=k (O.blt (key i) (key j))) q.2.2⟩
theorem fg.run {α:Type} {Q:α->Prop}:∀ {t:rB α},fg O key n t Q->Q (JS O key t)
 | .ret _,q=>q
 | .ask i j k,q=>fg.run (t:=k (O.blt (key i) (key j))) q.2.2
noncomputable def n9 (O:fI) (d:O.α) (ks:List O.α):List Nat:=if ks.length<2 then bH ks.length else (JS O (fun i=>ks.getD i d) (mX ks.length)).toList
theorem kR (O:fI) (d:O.α) (ks:List O.α):(n9 O d ks).Perm (bH ks.length)/\((n9 O d ks).map fun i=>ks.getD i d).Pairwise O.kle:=by
 unfold n9
 split
 ·rename_i h
  refine ⟨.refl _,?_⟩
  match ks,h with
  | [],_=>exact .nil
  | [a],_=>exact bc _ _
  | _::_::_,h=>simp at h;lia
 ·rename_i h
  obtain ⟨hp,hu⟩:=fg.run (O:=O) (key:=fun i=>ks.getD i d) (n:=ks.length) (vH (Q:=fun p=>gr ks.length p/\sA O (fun i=>ks.getD i d) p ks.length) (by lia) fun p hp hu=>⟨hp,hu⟩)
  exact ⟨by simpa using cx.mp hp.perm,lQ hp d hu⟩
theorem xR (O:fI) (d:O.α) (ks:List O.α):(n9 O d ks).length=ks.length:=by rw [(kR O d ks).1.length_eq,dA]
theorem rM {O:fI} {d:O.α} {ks:List O.α} {i:Nat} (h:i∈n9 O d ks):i<ks.length:=by simpa using (kR O d ks).1.mem_iff.mp h
end
section
variable {prog:bC} {w:cf} {A:bL} {s:ai}
theorem qf {r:ak} {j:Int} {t u v:zc} (hh:A.handled=none) (hr:IsRange s.heap r 0 j 1 t u v) (j1 : -(2 ^ 62)<=j) (j2:j<=1000000) :
 ∀ (E:ae->ai->Prop) (R:List ae->ai->Prop),(∀ h' tk acc,(∀ b o,s.heap.get? b=some o->h'.get? b=some o)->ItemsOf (fun i v=>∃ t,v=.int (0+i*1) t) acc j.toNat->R acc.toList { s with heap:=h',toks:=tk })->aM (bg prog w) A (vf (.ref r)) R E s:=by
 intro E R h
 have hsz:aK=16777216:=bG
 unfold vf
 refine aa (wpAny_runValue (dr Cy ?_))
 rw [cP PySem.F.plain_proto_collect _]
 show aM _ A.in1 (newList []>>=fun l=>again (.builtin "list.__iadd__" ⟨[l,.ref r],[]⟩)) _ _ s
 refine aa (cQ ?_)
 refine al ⟨eW qA _,dr entry_list_iadd' ?_⟩
 rw [cP qA _]
 have hS₁:(s.heap.push { cls:=.type "list",data:=.seq ([]:List ae).toArray }).get? s.heap.objs.size=some { cls:=.type "list",data:=.seq #[] }:=aJ _ rfl
 show aM _ A.in1 (io (.ref s.heap.objs.size) (.ref r) (.ref s.heap.objs.size)) _ _ _
 have key:=wpAny_extend_range (prog:=prog) (w:=w) (A:=A) (s:={ s with heap:=s.heap.push { cls:=.type "list",data:=.seq ([]:List ae).toArray } })
  (R:=fun (q:zd) (s':ai)=>∃ (h':cy) (tk:Nat) (acc':Array ae) (c':Nat),q=.ok (.ret (.ref s.heap.objs.size))/\s'={ s with heap:=h',toks:=tk } /\
    (∀ b o,s.heap.get? b=some o->h'.get? b=some o)/\h'.get? s.heap.objs.size=some { cls:=.type "list",dict:=none,data:=.seq acc' c',slots:=#[] }/\ItemsOf (fun i v=>∃ t,v=.int (0+i*1) t) acc' j.toNat)
  (n:=j.toNat) hh (ag _ hr) (small_one (by lia) (by lia) (by lia) (by lia)) (by rw [xU];split<;>lia) (by lia) s.heap.objs.size (.ref s.heap.objs.size) 0 hS₁
  (fun h' tk acc' c' hk hS' hacc=>⟨h',tk,acc',c',rfl,rfl,fun b o e=>hk b o (bu (aH e)) (ag _ e),hS',hacc⟩)
 refine d6 key (fun fin s' x=>?_) fun e s' x=>?_
 ·cases fin with
  | done f =>
    obtain ⟨h',tk,acc',c',e,rfl,hk,hS',hacc⟩:=x
    cases e
    show aM _ A (load s.heap.objs.size>>=_) _ _ _
    refine aa (oH hS' ?_)
    exact al (h h' tk acc' hk hacc)
  | again c₁ =>
    refine ⟨x.1,p7 x.2 fun q s₂ y=>?_⟩
    obtain ⟨h',tk,acc',c',rfl,rfl,hk,hS',hacc⟩:=y
    show aM _ A (load s.heap.objs.size>>=_) _ _ _
    refine aa (oH hS' ?_)
    exact al (h h' tk acc' hk hacc)
 ·obtain ⟨_,_,_,_,e',_⟩:=x
  cases e'
end
section
variable {X:Cx} {pins:List (ak×dz)} {σ:St} {H:Hp} {s:ai}
theorem _root_.L2.Inv.pinNew {o:dz} {p:ak} {h':cy} {t':Nat} (I:Inv X pins σ H s) (k:∀ b u,s.heap.get? b=some u->h'.get? b=some u) (hp:s.heap.objs.size<=p) (ho:h'.get? p=some o) (hd:∀ v,o.data≠.cell v) :
 Inv X ((p,o)::pins) σ H { s with heap:=h',toks:=t' }:=by
 have I':=I.kept (t':=t') k
 refine I'.pins_of fun q hq=>?_
 rcases ao.mp hq with rfl | hq
 ·refine ⟨ho,I.hok.fresh hp,?_,I.nofs hp,hd⟩
  intro z
  have z:p=X.env.locals:=z
  exact absurd (bj (z▸I.lt) hp) (cq _)
 ·exact I'.pin q (aW _ hq)
theorem _root_.L2.Inv.pinSet {o o':dz} {p:ak} {h':cy} {t':Nat} (I:Inv X ((p,o)::pins) σ H s) (k:∀ b u,b≠p->s.heap.get? b=some u->h'.get? b=some u) (ho:h'.get? p=some o') (hd:∀ v,o'.data≠.cell v) (h0:X.s₀.heap.objs.size<=p) (hne:∀ q∈X.pn++pins,q.1≠p) :
 Inv X ((p,o')::pins) σ H { s with heap:=h',toks:=t' }:=by
 obtain ⟨e,n,nl,nf,nc⟩:=I.pin (p,o) (aW _ ah)
 have I1:Inv X pins σ H s:=I.pins_of fun q hq=>I.pin q (aW _ (af _ hq))
 have I2:=I1.turned (t':=t') k n nl (.inr h0) (fun x c hc z=>by
  obtain ⟨v,oc,hoc,hdc⟩:=I.cell x c hc
  rw [z] at hoc
  dsimp only at e
  rw [e] at hoc
  cases hoc
  exact nc v hdc) hne
 refine I2.pins_of fun q hq=>?_
 rcases ao.mp hq with rfl | hq
 ·exact ⟨ho,n,nl,nf,hd⟩
 ·exact I2.pin q (aW _ hq)
theorem _root_.L2.Inv.adopt {o:dz} {p:ak} {u:HO} (I:Inv X ((p,o)::pins) σ H s) (h0:X.s₀.heap.objs.size<=p) (hne:∀ q∈X.pn++pins,q.1≠p) (new:gV X.prog X.w (upd H p u) s.heap p u):Inv X pins σ (upd H p u) s:=by
 obtain ⟨e,n,nl,nf,nc⟩:=I.pin (p,o) (aW _ ah)
 dsimp only at e n nl nf nc
 have nb:∀ b w,X.s₀.heap.get? b=some w->b≠p:=fun b w q=>bu (bj (aH q) h0)
 have cne:∀ x c,X.env.cells.lookup x=some c->c≠p:=fun x c hc z=>by
  obtain ⟨v,oc,hoc,hdc⟩:=I.cell x c hc
  rw [z,e] at hoc
  cases hoc
  exact nc v hdc
 have up:∀ {b:ak} {w:HO},H b=some w->upd H p u b=some w:=fun {b w} q=>by rw [bq (cb q n)];exact q
 refine ⟨I.ok,I.os,I.bare,⟨I.base.keep,I.base.slot,fun b w q z hx=>?_,I.base.there,fun b xs q=>up (I.base.tups b xs q),fun b w q z=>up (I.base.frzs b w q z),fun b ps q=>?_⟩,I.loc,I.cell,?_,fun x c hc=>?_,fun q hq=>?_,fun b w q=>?_,I.len⟩
 ·rw [bq (nb b w q)];exact I.base.free b w q z hx
 ·obtain ⟨m,z⟩:=I.base.tbls b ps q
  exact ⟨m,up z⟩
 ·rw [bq (Ne.symm nl)];exact I.free
 ·rw [bq (cne x c hc)];exact I.freeC x c hc
 ·obtain ⟨a1,a2,a3⟩:=I.pin q (by
   rcases aD.mp hq with z | z
   ·exact bw _ z
   ·exact aW _ (af _ z))
  exact ⟨a1,by rw [bq (hne q hq)];exact a2,a3⟩
 ·by_cases hb:b=p
  ·subst hb;rw [aV] at q;cases q;exact new
  ·rw [bq hb] at q
   exact (I.hok b w q).stay (fun _ _ _ z=>z) (fun c z=>up z) (fun c xs z=>up z) fun c x z=>up z
end
noncomputable def CN (X:Cx) (A:bL) (f:ae) (σ:St) (G0 H0:Hp) (lam:Da->Option Da):Prop :=
 ∀ (pins:List (ak×dz)) (s:ai) (G H:Hp) (d r:Da) (v:V) (u:ae),Ext G0 H0 G H->Inv X pins σ H s->Den X.K G d v->gH v u->lam d=some r ->
   aM (bg X.prog X.w) A (call f [u]) (fun u' s'=>∃ v' G' H',Inv X pins σ H' s'/\gH v' u'/\Ext G H G' H'/\Den X.K G' r v') (fun _ _=>False) s
noncomputable def Cq (lam:Da->Option Da):List Da->Option (List Da)
 | []=>some []
 | d::ds=>match lam d with
   | none=>none
   | some r=>match Cq lam ds with
     | none=>none
     | some rs=>some (r::rs)
theorem xx {lam:Da->Option Da}:∀ {ds kd:List Da} {j:Nat} {d:Da},Cq lam ds=some kd->ds[j]?=some d->∃ r,lam d=some r/\kd[j]?=some r
 | [],_,_,_,_,e=>by simp at e
 | d::ds,kd,j,x,h,e=>by
   unfold Cq at h
   split at h
   ·cases h
   ·rename_i r er
    split at h
    ·cases h
    ·rename_i rs ers
     cases h
     cases j with
     | zero=>simp at e;subst e;exact ⟨r,er,rfl⟩
     | succ j=>simpa using xx (j:=j) ers (by simpa using e)
theorem mt {lam:Da->Option Da}:∀ {ds kd:List Da},Cq lam ds=some kd->kd.length=ds.length
 | [],_,h=>by cases h;rfl
 | d::ds,kd,h=>by
   unfold Cq at h
   split at h
   ·cases h
   ·split at h
    ·cases h
    ·rename_i rs ers
     cases h
     rw [aI,aI,mt ers]
noncomputable def xA (prog:bC) (w:cf) (A:bL) (s:ai) (us:List ae) (O:fI) (κ:iH) (key:Nat->O.α):Prop :=
 (2<=us.length->∀ Q:iH->ai->Prop,Q κ s->aM (bg prog w) A (Cw us.toArray) Q (fun _ _=>False) s) /\
 ∀ i j (C:Bool->ai->Prop),i<us.length->j<us.length->C (O.blt (key i) (key j)) s->iI prog w A κ us i j C s
theorem Ah {O:fI} {d:O.α} {ks:List O.α} {p:List Nat} (hn:ks.Nodup) (hp:p.Perm (bH ks.length)) (hs:(p.map fun i=>ks.getD i d).Pairwise O.kle):p=n9 O d ks:=by
 obtain ⟨h1,h2⟩:=kR O d ks
 have e:(p.map fun i=>ks.getD i d)=(n9 O d ks).map fun i=>ks.getD i d:=gq ((hp.trans h1.symm).map _) hs h2
 have inj:∀ i j,i<ks.length->j<ks.length->ks.getD i d=ks.getD j d->i=j:=fun i j hi hj e=>by
  rw [av,aj hi,av,aj hj] at e
  exact (iD hn).mp e
 have go:∀ (p q:List Nat),(∀ i∈p,i<ks.length)->(∀ i∈q,i<ks.length)->(p.map fun i=>ks.getD i d)=(q.map fun i=>ks.getD i d)->p=q:=fun p=>by
  induction p with
  | nil=>intro q _ _ e;cases q with
    | nil=>rfl
    | cons _ _=>cases e
  | cons i p ih=>intro q hp hq e;cases q with
    | nil=>cases e
    | cons j q =>
      rw [ax,ax] at e
      injection e with e1 e2
      rw [inj i j (hp i ah) (hq j ah) e1,ih q (fun i hi=>hp i (af _ hi)) (fun i hi=>hq i (af _ hi)) e2]
 exact go _ _ (fun i hi=>by simpa using hp.mem_iff.mp hi) (fun i hi=>rM hi) e
section
variable {prog:bC} {w:cf} {A:bL} {E:ae->ai->Prop} {s:ai} {O:fI} {κ:iH} {d:O.α} {kl:List O.α} {ks vs:List ae}
theorem zJ (hl:ks.length=vs.length) (h2:2<=vs.length) (hk:kl.length=vs.length) (h64:OkN kl)
 (lt:∀ i j (C:Bool->ai->Prop),i<vs.length->j<vs.length->C (O.blt (kl.getD i d) (kl.getD j d)) s->iI prog w A κ ks i j C s) :
 aM (bg prog w) A ((sortRuns').run (pZ κ (ks.toArray.zip vs.toArray) #[] 7 none)) (fun r s'=>s'=s/\∃ p:Array Nat,Ct r.2=p.map (x9 (ks.toArray.zip vs.toArray))/\vo r.2=none/\p.toList=n9 O d kl) E s:=by
 by_cases hs:vs.length<64
 ·have ask:(mX vs.length).kasWp (iI prog w A κ ks) (fun p s'=>s'=s/\p=JS O (fun i=>kl.getD i d) (mX vs.length)) s :=
   fg.wp (O:=O) (key:=fun i=>kl.getD i d) (n:=vs.length) lt (fg.mono (fun p hp=>⟨rfl,hp.2⟩) (fg.det (vH (Q:=fun p=>gr vs.length p/\sA O (fun i=>kl.getD i d) p vs.length) (by lia) fun p hp hu=>⟨hp,hu⟩)))
  refine PySem.W.kat_run (Q:=fun st' s'=>s'=s/\∃ p:Array Nat,Ct st'=p.map (x9 (ks.toArray.zip vs.toArray))/\vo st'=none/\p.toList=n9 O d kl) hl h2 hs (fun p st' s' _ a b c=>⟨c.1,p,a,b,?_⟩) ask
  rw [c.2]
  unfold n9
  rw [if_neg (by lia),hk]
 ·have h127:=h64.resolve_left (by lia)
  refine d6 (wR (O:=O) (key:=fun i=>kl.getD i d) hl h2 (by rw [<- hk];exact h64.inj d) lt) ?_ fun _ _ e=>e
  rintro r s' ⟨h1,p,h2,h3,h4,h5⟩
  refine ⟨h1,p,h2,h3,Ah h127.2 ?_ ?_⟩
  ·rw [hk]
   simpa using cx.mp h4.perm
  ·exact lQ h4 d h5
end
section
variable {X:Cx} {pins:List (ak×dz)} {σ:St} {H:Hp} {s:ai} {A:bL} {E:ae->ai->Prop} {P:PySem.Fin->ai->Prop}
theorem _root_.L2.Inv.pinsSub {pins':List (ak×dz)} (I:Inv X pins σ H s) (h:∀ q∈pins',q∈pins):Inv X pins' σ H s:=I.pins_of fun q hq=>I.pin q (aW _ (h q hq))
theorem _root_.L2.Inv.pinGet {p:ak} {o:dz} (I:Inv X ((p,o)::pins) σ H s):s.heap.get? p=some o:=(I.pin (p,o) (aW _ ah)).1
theorem iR {c:String} {xs:Array ae} {n:Nat}:∀ v,(bZ c xs n).data≠.cell v:=fun v z=>by cases z
theorem Jf {a kS:ak} {kA:Array ae} {e e1:Nat} {st:SortSt} {out:List ae} (I:Inv X ((kS,bZ "list" kA e)::(a,bZ "list" #[] e1)::pins) σ H s) (h0k:X.s₀.heap.objs.size<=kS) (h0:X.s₀.heap.objs.size<=a) (hnk:∀ q∈X.pn++((a,bZ "list" #[] e1)::pins),q.1≠kS) (hne:∀ q∈X.pn++pins,q.1≠a)
 (hka:kA.size<=63) (hout:(Ct st).map (·.2)=out.toArray) (hol:out.length<=63) (hfl:vo st=none)
 (fin:∀ s' c,Inv X ((a,bZ "list" out.toArray c)::pins) σ H s'->P (.done (.ret .none)) s'):aM (bg X.prog X.w) A (ksk_tail a false e1 (.ref kS) st) P E s:=by
 have sz:aK=16777216:=bG
 have s1:=eY s.heap kS (bY fun _=>(#[]:Array ae))
 obtain ⟨c1,hc1⟩:∃ c1,(s.heap.update kS (bY fun _=>(#[]:Array ae))).get? kS=some (bZ "list" #[] c1):=⟨_,gm I.pinGet fun _=>#[]⟩
 have I1:=I.pinSet (t':=s.toks) (fun b u hb e=>(s1.2 b hb).trans e) hc1 iR h0k hnk
 have I2:Inv X ((a,bZ "list" #[] e1)::pins) σ H _:=I1.pinsSub fun q hq=>af _ hq
 unfold ksk_tail
 try dsimp only
 refine aa (gw I.pinGet rfl ?_ (by lia) (bV _))
 refine aa (mY ?_)
 refine aa (mS I2.pinGet rfl ?_)
 refine aa (gw I2.pinGet rfl ?_ (bV _) ?_)
 ·rw [hfl]
  simp only [bne_self_eq_false,eO,if_false]
  rw [hout]
  have s2:=eY (s.heap.update kS (bY fun _=>(#[]:Array ae))) a (bY fun _=>out.toArray)
  obtain ⟨c2,hc2⟩:∃ c2,((s.heap.update kS (bY fun _=>(#[]:Array ae))).update a (bY fun _=>out.toArray)).get? a=some (bZ "list" out.toArray c2):=⟨_,gm I2.pinGet fun _=>out.toArray⟩
  exact al (fin _ c2 (I2.pinSet (t':=s.toks) (fun b u hb e=>(s2.2 b hb).trans e) hc2 iR h0 hne))
 ·show (if false=true then _ else (Ct st).map (·.2)).size<=_
  rw [if_neg aN,hout,aB]
  lia
theorem Br {G0 H0 G:Hp} {a:ak} {n:Nat} {vs:List ae} {xs:List V} {ds kd:List Da} {f:ae} {lam:Da->Option Da} {O:fI} {κ:iH} {d0:O.α} {ks:List O.α}
 (I:Inv X ((a,bZ "list" vs.toArray n)::pins) σ H s) (E0:Ext G0 H0 G H) (h0:X.s₀.heap.objs.size<=a) (hne:∀ q∈X.pn++pins,q.1≠a) (L:CN X A f σ G0 H0 lam)
 (dl:cS X.K G ds xs) (rv:eG xs vs) (hk:Cq lam ds=some kd) (h64:OkN ks) (hks:ks.length=kd.length)
 (cmp:∀ (s':ai) (G' H':Hp) (pins':List (ak×dz)) (kvs:List V) (us:List ae),Inv X pins' σ H' s'->cW G' H'->cS X.K G' kd kvs->eG kvs us->xA X.prog X.w A s' us O κ (fun i=>ks.getD i d0))
 (fin:∀ (s':ai) (G' H':Hp) (c:Nat),Ext G H G' H'->Inv X ((a,bZ "list" ((n9 O d0 ks).map fun i=>vs.getD i bB).toArray c)::pins) σ H' s'->P (.done (.ret .none)) s') :
 aM (bg X.prog X.w) A (ksk_tree a f false) P E s:=by
 have sz:aK=16777216:=bG
 have hlx:xs.length=vs.length:=rv.length
 have hld:xs.length=ds.length:=dl.length
 have hlk:kd.length=ds.length:=mt hk
 have h127:vs.length<=63:=by rcases h64 with h | h<;>lia
 have pa:=I.pinGet
 have ha:a<s.heap.objs.size:=aH pa
 have s1:=eY s.heap a (bY fun _=>(#[]:Array ae))
 obtain ⟨e1,ho1⟩:∃ e1,(s.heap.update a (bY fun _=>(#[]:Array ae))).get? a=some (bZ "list" #[] e1):=⟨_,gm pa fun _=>#[]⟩
 have I1:=I.pinSet (t':=s.toks) (fun b u hb e=>(s1.2 b hb).trans e) ho1 iR h0 hne
 unfold ksk_tree
 refine aa (jx pa rfl ?_)
 refine aa (gw pa rfl ?_ (by rw [aB];lia) (bV _))
 refine aa (mS ho1 rfl ?_)
 refine aa (wpAny_newTuple ?_ (by show vs.length<=_;lia))
 refine aa (kG ?_ (bV _))
 refine dm ?_
 show aM (bg X.prog X.w) A (ksk_rest a f false vs.toArray e1 (.ref ((s.heap.update a (bY fun _=>(#[]:Array ae))).push (bZ "tuple" vs.toArray 0)).objs.size)) P E { s with heap:=((s.heap.update a (bY fun _=>(#[]:Array ae))).push (bZ "tuple" vs.toArray 0)).push (bZ "list" #[] 0) }
 have hkS:((s.heap.update a (bY fun _=>(#[]:Array ae))).push (bZ "tuple" vs.toArray 0)).objs.size=s.heap.objs.size+1:=by rw [size_push',oz]
 have I3:Inv X ((((s.heap.update a (bY fun _=>(#[]:Array ae))).push (bZ "tuple" vs.toArray 0)).objs.size,bZ "list" #[] 0)::(a,bZ "list" #[] e1)::pins) σ H { s with heap:=((s.heap.update a (bY fun _=>(#[]:Array ae))).push (bZ "tuple" vs.toArray 0)).push (bZ "list" #[] 0) } :=
  I1.pinNew (t':=s.toks) (fun b u e=>ag _ (ag _ e)) (by rw [hkS];show (s.heap.update a _).objs.size<=_;rw [oz];lia) (aJ _ rfl) iR
 generalize hkg:((s.heap.update a (bY fun _=>(#[]:Array ae))).push (bZ "tuple" vs.toArray 0)).objs.size=kS at I3 ⊢
 generalize hsg:({ s with heap:=((s.heap.update a (bY fun _=>(#[]:Array ae))).push (bZ "tuple" vs.toArray 0)).push (bZ "list" #[] 0) }:ai)=sk at I3 ⊢
 have hkl:kS=s.heap.objs.size+1:=by rw [<- hkg];exact hkS
 have h0k:X.s₀.heap.objs.size<=kS:=by have:=I.sz;lia
 have hnk:∀ q∈X.pn++((a,bZ "list" #[] e1)::pins),q.1≠kS:=fun q hq z=>by
  have:=aH (I1.pin q hq).1
  have this:q.1<(s.heap.update a (bY fun _=>(#[]:Array ae))).objs.size:=this
  rw [oz] at this
  rw [z,hkl] at this
  exact absurd this (Nat.not_lt.mpr (Nat.le_succ _))
 unfold ksk_rest
 refine aa (vp ?_)
 first
  | rw [List.forIn_toArray]
  | (rw [<- ya];simp only [List.toList_toArray])
  | rw [<- ya]
 refine aa (ksk_fold (fun i s'=>∃ Gi Hi kvs kA e,Ext G H Gi Hi/\Inv X ((kS,bZ "list" kA e)::(a,bZ "list" #[] e1)::pins) σ Hi s'/\cS X.K Gi (kd.take i) kvs/\eG kvs kA.toList) vs 0 sk
  ⟨G,H,[],#[],0,Ext.refl E0.gh,I3,by simpa using (show cS X.K G [] [] from rfl),.nil⟩ ?step ?done)
 case step =>
  rintro j x s' hx ⟨Gi,Hi,kvs,kA,e,Ei,Ii,dk,rk⟩
  simp only [Nat.zero_add] at dk ⊢
  have hj:j<vs.length:=(aF.mp hx).1
  have hxj:xs[j]?=some (xs[j]'(by lia)):=aj (by lia)
  obtain ⟨u,hu,ru⟩:=rv.get hxj
  have:u=x:=by rw [hx] at hu;exact (bU hu).symm
  subst this
  obtain ⟨d,hd,dd⟩:=dl.of_get hxj
  obtain ⟨r,hr,hkj⟩:=xx hk hd
  have hz:kA.size<=vs.length:=by
   have h1:kvs.length=kA.toList.length:=rk.length
   have h2:kvs.length=(kd.take j).length:=dk.length
   have h3:kA.toList.length=kA.size:=bS
   rw [gC] at h2
   rw [<- h3,<- h1,h2]
   exact bO (Nat.min_le_left _ _) (jc hj)
  refine aa (xY (d6 (L _ s' Gi Hi d r _ u (E0.trans Ei) Ii (Den.mono Ei.gg d dd) ru hr) (fun u' s'' he=>?_) fun _ _ hF=>hF.elim))
  obtain ⟨v',G',H',I',r',E',d'⟩:=he
  try dsimp only
  have nk:=I'.pinGet
  have s2:=eY s''.heap kS (bY (·.push u'))
  obtain ⟨c2,hc2⟩:∃ c2,(s''.heap.update kS (bY (·.push u'))).get? kS=some (bZ "list" (kA.push u') c2):=⟨_,gm nk (·.push u')⟩
  refine aa (gw nk rfl ?_ (by lia) (bO (kE (Array.size_push ..)) (by lia)))
  refine al ⟨rfl,G',H',kvs++[v'],kA.push u',c2,Ei.trans E',I'.pinSet (t':=s''.toks) (fun b w hb e=>(s2.2 b hb).trans e) hc2 iR h0k hnk,?_,?_⟩
  ·have ek:kd.take (j+1)=kd.take j++[r]:=by rw [List.take_add_one,hkj];simp
   rw [ek]
   exact cS.append (cS.mono E'.gg _ dk) (cS.one d')
  ·rw [show (kA.push u').toList=kA.toList++[u'] by simp]
   exact rk.append (.cons r' .nil)
 case done =>
  rintro s' ⟨Gi,Hi,kvs,kA,e,Ei,Ii,dk,rk⟩
  have dk':cS X.K Gi kd kvs:=by
   have e3:kd.take (0+vs.length)=kd:=eK (by lia)
   rw [e3] at dk
   exact dk
  have hkA:kA.toList.length=vs.length:=by rw [<- rk.length,dk'.length];lia
  have hksl:ks.length=vs.length:=by lia
  obtain ⟨c1,c2⟩:=cmp s' Gi Hi _ kvs kA.toList Ii Ei.gh dk' rk
  try dsimp only
  refine aa (jx Ii.pinGet rfl ?_)
  unfold ksk_end
  try dsimp only
  rw [if_neg aN]
  have ekA:kA=kA.toList.toArray:=by simp
  have hka:kA.size<=63:=by rw [bS] at hkA;lia
  have hpl:((n9 O d0 ks).map fun i=>vs.getD i bB).length<=63:=by rw [ab,xR];lia
  by_cases h2:vs.toArray.size<2
  ·rw [if_pos h2,if_pos h2]
   refine aa (al ?_)
   rw [zk]
   refine aa (al ?_)
   try dsimp only
   rw [if_neg aN]
   refine Jf (st:=pZ general' (kA.zip vs.toArray) #[] 7 none) (out:=(n9 O d0 ks).map fun i=>vs.getD i bB) Ii h0k h0 hnk hne hka ?_ hpl rfl fun s'' c I'=>fin s'' Gi Hi c Ei I'
   show (kA.zip vs.toArray).map (·.2)=_
   rw [aB] at h2
   have hp:n9 O d0 ks=bH vs.length:=by unfold n9;rw [if_pos (by lia),hksl]
   rw [hp]
   apply Array.toList_inj.mp
   rw [Array.toList_map,ksk_zip,Cb (by lia)]
   apply kc
   ·simp
   ·intro i h1 h2;simp [h1]
  ·rw [if_neg h2,if_neg h2]
   rw [aB] at h2
   have c1':=c1 (by lia)
   rw [lz] at c1'
   refine aa (d6 (c1' _ ?_) (fun _ _ x=>x) fun _ _ x=>x.elim)
   rw [if_neg aN]
   have run:=zJ (E:=E) (ks:=kA.toList) (vs:=vs) (A:=A) (κ:=κ) (w:=X.w) (prog:=X.prog) hkA (by lia) hksl h64 fun i j C hi hj hc=>c2 i j C (by lia) (by lia) hc
   rw [lz] at run
   refine aa (d6 run ?_ fun _ _ e=>e)
   rintro ⟨⟨⟩,st'⟩ s'' ⟨rfl,p,har,hf,hp⟩
   try dsimp only
   refine Jf (out:=(n9 O d0 ks).map fun i=>vs.getD i bB) Ii h0k h0 hnk hne hka ?_ hpl hf fun s'' c I'=>fin s'' Gi Hi c Ei I'
   have hsn:=xZ (ks:=kA.toList) (vs:=vs) hkA (st:=st') (p:=p) (by rw [lz];exact har)
   rw [hsn,hp]
end
theorem BJ {H:Hp} {q:bM}:∀ {l:List ae},yf H q l->TriplesOk l:=fun {l} t=>by
 fun_induction yf H q l with
 | case1=>trivial
 | case2 _ _ _ _ c r ih=>exact ih t.2
 | case3=>exact t.elim
theorem yB {H:Hp} {q:bM} {pos:ft} {cv:ae}:∀ {l:List ae},yf H q l->codeAmong pos l=some cv->∃ c,cv=.ref c/\H c=some (.cod q):=fun {l} t e=>by
 fun_induction yf H q l with
 | case1=>cases e
 | case2 a ta b tb c r ih =>
   simp only [codeAmong] at e
   split at e
   ·cases e;exact ⟨c,rfl,t.1⟩
   ·exact ih t.2 e
 | case3=>exact t.elim
theorem AU {H:Hp} {q:bM} {a b:Nat} {c:ak} (hc:H c=some (.cod q)):∀ {l:List ae},yf H q l->yf H q (l++[iT a,iT b,.ref c]):=fun {l} t=>by
 fun_induction yf H q l with
 | case1=>exact ⟨hc,trivial⟩
 | case2 _ _ _ _ c' r ih=>exact ⟨t.1,ih t.2⟩
 | case3=>exact t.elim
noncomputable def Bm (mg:bM->Option ae) (h:cy):Prop:=∃ bm ob,mg "__builtins__" = some (.ref bm)/\bm≠oG/\h.get? bm=some ob/\ob.cls=.type "module"/\ob.dict=some oG/\ob.data=.plain
section
variable {X:Cx} {pins:List (ak×dz)} {σ:St} {H:Hp} {s:ai} {params:iU} {body:aS} {scope:eI} {pos:ft} {c P:ak} {q:bM}
noncomputable abbrev xI (X:Cx) (q:bM) (params:iU) (body:aS) (scope:eI) (pm:ae) (c':ak) (ctv:ae):dz:=yZ "<lambda>" q params body scope (gJ X.env.cells scope.names []) pm c' ctv
theorem CD (I:Inv X pins σ H s) (hB:Bm X.mg X.base) (hcode:X.env.code=.ref c) (C:iV X.base c P) (hP:H P=some (.tab q)) (hq:X.env.qual++"<lambda>" = q)
 (hfree:∀ y∈scope.names,y.2=.free->∃ c,X.env.cells.lookup y.1=some c) (hdef:defaultsOf params X.env=([],[])) {Q:ae->ai->Prop}
 (k:∀ (f c':ak) (pm ctv:ae) (s':ai) (H':Hp),Inv X pins σ H' s'->H f=none->H' f=some (.frz (xI X q params body scope pm c' ctv) (.own 0))->H' c'=some (.cod q)->(∀ G,cW G H->Ext G H G H')->Q (.ref f) s') :
 aM (bg X.prog X.w) X.A (b9 (.Lambda params body scope pos) X.env) Q X.xe s:=by
 obtain ⟨ps,hps,tr⟩:=I.hok P _ hP
 obtain ⟨bm,ob,b1,b2,b3,b4,b5,b6⟩:=hB
 have hgb:=I.mod.glob
 have neP:∀ {b:ak} {o:dz},X.base.get? b=some o->b≠P:=fun e z=>by
  have:=(I.bs _ _ e).2
  rw [z,hP] at this;cases this
 have hgP:aQ≠P:=by obtain ⟨o,_,_,e,_⟩:=hgb;exact neP e
 have hbG:bm≠aQ:=fun z=>by
  obtain ⟨o,es,ep,e,hd,_⟩:=hgb
  rw [z,e] at b3;cases b3;rw [hd] at b6;cases b6
 have hbuilt:s.heap.BuiltinsAt X.mg P:=⟨bm,ob,b1,b2,hbG,neP b3,I.bk _ _ b3,b4,b5,b6⟩
 refine PySem.W.kla_eval hdef ?_
 rw [hq]
 cases hc:codeAmong pos ps.toList with
 | none =>
   refine PySem.W.kla_makeFunction (mg:=X.mg) (nq hfree) I.ok.glob (hgb.keeps I.bk) hcode (C.keeps I.bk) hps (BJ tr) hc hgP hbuilt fun c' ctv h' tk hx hge hlt hrec htb=>?_
   have hHc:H c'=none:=I.hok.fresh hge
   have hsz:s.heap.objs.size<=h'.objs.size:=bO hge (jc hlt)
   have hHf:H h'.objs.size=none:=I.hok.fresh hsz
   have hcf:c'≠h'.objs.size:=bu hlt
   generalize hof:yZ "<lambda>" q params body scope (gJ X.env.cells scope.names []) ((X.mg "__name__").getD .none) c' ctv=fo
   have hfo:fo.isFreed=false:=by rw [<- hof];rfl
   have up:∀ {b:ak} {w:HO},H b=some w->upd (upd H c' (.cod q)) h'.objs.size (.frz fo (.own 0)) b=some w:=fun {b w} e=>by
    rw [bq (cb e hHf),bq (cb e hHc)];exact e
   have old:∀ {b:ak} {o:dz},s.heap.get? b=some o->b≠c'/\b≠h'.objs.size:=fun e=>⟨bu (bj (aH e) hge),bu (bj (aH e) hsz)⟩
   have keepN:∀ {b:ak} {o:dz},b≠P->s.heap.get? b=some o->(h'.push fo).get? b=some o:=fun hb e=>ag _ (hx _ _ hb e)
   have hcP:c'≠P:=fun z=>by rw [z,hP] at hHc;cases hHc
   have hfP:h'.objs.size≠P:=fun z=>by rw [z,hP] at hHf;cases hHf
   have hcc:upd (upd H c' (.cod q)) h'.objs.size (.frz fo (.own 0)) c'=some (.cod q):=by rw [bq hcf];exact aV
   have I':Inv X pins σ (upd (upd H c' (.cod q)) h'.objs.size (.frz fo (.own 0))) { s with heap:=h'.push fo,toks:=tk }:=by
    refine I.un (t':=tk) ⟨fun b o e n _ _=>keepN (fun z=>by rw [z,hP] at n;cases n) e,fun b o e n _ _=>⟨o.slots,keepN (fun z=>by rw [z,hP] at n;cases n) e⟩,fun b o e n _=>?_,fun b o e _=>?_,fun b xs e=>up e,fun b o u e=>up e,fun b ps' e=>⟨#[],by rw [Array.append_empty];exact up e⟩⟩ fun b u e=>?_
    ·rw [bq (old e).2,bq (old e).1];exact n
    ·by_cases hb:b=P
     ·subst hb;exact ⟨_,ag _ htb⟩
     ·exact ⟨o,keepN hb e⟩
    ·by_cases hbf:b=h'.objs.size
     ·subst hbf
      rw [aV] at e;cases e
      exact ⟨aJ _ hfo,fo,aJ _ hfo⟩
     ·rw [bq hbf] at e
      by_cases hbc:b=c'
      ·subst hbc
       rw [aV] at e;cases e
       obtain ⟨c0,o,vs,t,e0,e1,e2⟩:=hrec
       exact ⟨c0,o,vs,t,e0,ag _ e1,e2⟩
      ·rw [bq hbc] at e
       by_cases hbP:b=P
       ·subst hbP
        rw [hP] at e;cases e
        refine ⟨_,ag _ htb,?_⟩
        have:(ps++#[iT pos.line,iT pos.col,.ref c']).toList=ps.toList++[iT pos.line,iT pos.col,.ref c']:=by simp
        rw [this]
        exact AU hcc (tr.stay fun b' q' z=>up z)
       ·refine (I.hok b u e).stay (fun b' o' hb' e'=>keepN ?_ e') (fun b' z=>up z) (fun b' xs z=>up z) fun b' q' z=>up z
        rcases hb' with z | z
        ·rw [z];exact hbP
        ·intro z';rw [z',hP] at z;cases z
   refine k h'.objs.size c' ((X.mg "__name__").getD .none) ctv _ _ I' hHf ?_ hcc fun G sg=>?_
   ·rw [aV,<- hof]
   ·have E1:Ext G H G (upd H c' (.cod q)):=Ext.own sg hHc
    exact E1.trans (Ext.own E1.gh (by rw [bq (Ne.symm hcf)];exact hHf))
 | some cv =>
   obtain ⟨c',rfl,hc'⟩:=yB tr hc
   refine PySem.W.kla_makeFunctionHit (mg:=X.mg) (nq hfree) I.ok.glob (hgb.keeps I.bk) hcode (C.keeps I.bk) hps (BJ tr) hc hbuilt fun ctv h' tk hk hsz=>?_
   have hHf:H h'.objs.size=none:=I.hok.fresh hsz
   have I':=I.laid (a:=h'.objs.size) (o:=.frz (xI X q params body scope ((X.mg "__name__").getD .none) c' ctv) (.own 0)) (t':=tk) (fun b u e=>ag (xI X q params body scope ((X.mg "__name__").getD .none) c' ctv) (hk b u e)) hsz ⟨aJ _ rfl,_,aJ _ rfl⟩
   refine k h'.objs.size c' _ ctv _ _ I' hHf aV ?_ fun G sg=>Ext.own sg hHf
   rw [bq (cb hc' hHf)];exact hc'
end
structure xc (X:Cx) (scope:eI) (ix:List (Option Nat)) (x:bM) (i0:Nat):Prop extends CScope X scope ix where
 co:scope.isCoroutine=false
 gen:scope.isGenerator=false
 nocell:∀ y∈scope.names,y.2≠.cell
 par:scope.names[i0]?=some (x,.local)
noncomputable abbrev wZ (X:Cx) (scope:eI) (q:bM) (L f c':ak):p4:=PySem.W.envX q scope L f (.ref c') (gJ X.env.cells scope.names [])
noncomputable def D6 (X:Cx) (A:bL) (scope:eI) (q:bM) (f c':ak) (s:ai) (H:Hp):Cx :=
 { X with A:=A.deeper (wZ X scope q s.heap.objs.size f c'),N:=scope.names.map (·.1),s₀:=s,H₀:=H,env:=wZ X scope q s.heap.objs.size f c',outer:=X.stack,stack:=wZ X scope q s.heap.objs.size f c'::X.stack,ex:=[],fn:=fun _=>false,calm:=true,pn:=[],xe:=fun _ _=>False }
section
variable {X:Cx} {pins:List (ak×dz)} {σ:St} {H:Hp} {s:ai} {scope:eI} {ix:List (Option Nat)} {x:bM} {i0:Nat} {A:bL} {f c':ak} {q:bM}
theorem BA {v:V} {u:ae} {h₁:cy} {tk:Nat} (S:xc X scope ix x i0) (I:Inv X pins σ H s) (hh:A.handled=none) (hfr:A.frames=X.A.frames) (rv:gH v u)
 (hns:h₁.Ns s.heap.objs.size (fun y=>[(x,u)].reverse.lookup y)) (hk:∀ b o,s.heap.get? b=some o->h₁.get? b=some o) :
 Inv (D6 X A scope q f c' s H) [] ((mpS ix σ).set i0 (some v)) H { s with heap:=h₁,toks:=tk }:=by
 have cl:=S.toCScope.cells I
 have hlk:∀ y c,(gJ X.env.cells scope.names []).lookup y=some c->X.env.cells.lookup y=some c:=fun y c e=>by
  rcases ll _ _ cl e with z | z
  ·exact z
  ·simp at z
 have hno:∀ b:ak,b∉(D6 X A scope q f c' s H).ex:=fun b z=>absurd (show b∈([]:List ak) from z) (by simp)
 have hi0:i0<ix.length:=by rw [kM S.ix];exact (aF.mp S.par).1
 refine ⟨⟨I.ok.mod,S.kind,rfl,rfl,aw _,fun y z c h1 h2=>I.ok.inj y z c (hlk y c h1) (hlk z c h2),fun y hy=>?_,fun y c hf _=>absurd (show false=true from hf) (by simp),fun _=>hh,vd (hfr.trans I.ok.frames),.inr ⟨rfl,rfl⟩,fun b z=>absurd z (hno b),I.bs,bO I.ok.bsz I.sz,fun b _ _=>hno b,fun b z=>absurd z (hno b),I.stack,I.stkFree⟩,
  rfl,I.bare,Un.kept hk,⟨_,hns,fun i y w e1 e2 e3=>?_⟩,fun y c e=>?_,I.hok.fresh (aw _),fun y c e=>I.freeC y c (hlk y c e),fun p hp=>absurd (show p∈([]:List (ak×dz)) from hp) (by simp),I.hok.kept hk,?_⟩
 ·have hy:scope.names.lookup y=some .cell\/scope.names.lookup y=some .free:=hy
  rcases hy with hy | hy
  ·exact absurd rfl (S.nocell _ (mem_of_lookup hy))
  ·obtain ⟨c,hc⟩:=cl _ (mem_of_lookup hy) rfl
   exact ⟨c,(jD _ _ cl (.inl (mem_of_lookup hy))).trans hc⟩
 ·have e1:(scope.names.map (·.1))[i]?=some y:=e1
  by_cases hi:i0=i
  ·subst hi
   rw [ba (by unfold mpS;rw [ab];exact hi0)] at e2
   cases e2
   rw [aA,S.par] at e1
   cases e1
   exact ⟨u,rv,.inl ⟨eX S.nd S.par,by simp⟩⟩
  ·rw [bb hi] at e2
   unfold mpS at e2
   rw [aA] at e2
   cases qi:ix[i]? with
   | none=>rw [qi] at e2;cases e2
   | some o =>
     rw [qi] at e2
     cases o with
     | none=>cases e2
     | some j =>
       obtain ⟨x',hx1,hx2⟩:=jB S.ix qi
       have ex:y=x':=by rw [aA,hx1] at e1;cases e1;rfl
       subst ex
       have hs:σ[j]?=some (some w):=by
        have e2':(σ[j]?).getD none=some w:=by simpa using e2
        cases q2:σ[j]? with
        | none=>rw [q2] at e2';cases e2'
        | some z=>rw [q2] at e2';exact congrArg some e2'
       have hl:=eX S.nd hx1
       have hkd:=S.free _ (bJ hx1) rfl
       obtain ⟨m,_,hm⟩:=I.loc
       have hvis:Vis X.env.scope y:=by
        rcases hkd with z | z
        ·exact .inr (.inl z)
        ·exact .inr (.inr z)
       obtain ⟨u',r',lk⟩:=hm j y w hx2 hs hvis
       refine ⟨u',r',.inr ⟨.inr hl,?_⟩⟩
       rcases lk with ⟨z,_⟩ | ⟨_,c,hc,o,ho,hd⟩
       ·rcases hkd with w' | w'<;>(rw [z] at w';cases w')
       ·exact ⟨c,(jD _ _ cl (.inl (mem_of_lookup hl))).trans hc,o,hk _ _ ho,hd⟩
 ·obtain ⟨w,o,ho,hd⟩:=I.cell y c (hlk y c e)
  exact ⟨w,o,hk _ _ ho,hd⟩
 ·rw [bX]
  unfold mpS
  rw [ab,kM S.ix]
  show _=(scope.names.map (·.1)).length
  rw [ab]
noncomputable def EZ (ix:List (Option Nat)) (i0:Nat) (g:Rho->Option Rv) (ρ:Rho):Da->Option Da:=fun d=>match g ((mpR ix ρ).set i0 (.pu d)) with
 | none=>none
 | some r=>if fj r=true then some r.2 else none
theorem JT {B G0 H0:Hp} {ρ:Rho} {g:Rho->Option Rv} {params:iU} {body:aS} {pm ctv:ae} (S:xc X scope ix x i0) (hh:A.handled=none) (hfr:A.frames=X.A.frames) (hroom:A.depth<vk)
 (hbind:∀ u,jT (oP "<lambda>" q params body scope (gJ X.env.cells scope.names []) pm (.ref c') ctv) ⟨[u],[]⟩=pure [(x,u)])
 (hbody:∀ (s:ai) (H:Hp),PX (D6 X A scope q f c' s H) body g)
 (sb:cW B H0) (st:iK X.K B G0 H0 σ ρ) (hf:H0 f=some (.frz (xI X q params body scope pm c' ctv) (.own 0))) (hc:H0 c'=some (.cod q)):CN X A (.ref f) σ G0 H0 (EZ ix i0 g ρ):=by
 intro pins s G H d r v u E I dv rv el
 unfold EZ at el
 split at el
 ·cases el
 ·rename_i rr er
  split at el
  case isFalse=>cases el
  case isTrue hp =>
  cases el
  obtain ⟨ho,_⟩:=I.hok f _ (E.hh _ _ hf)
  have hcd:s.heap.CodeRec (.ref c') q:=I.hok c' _ (E.hh _ _ hc)
  have st':iK X.K B G H ((mpS ix σ).set i0 (some v)) ((mpR ix ρ).set i0 (.pu d)):=((st.ext E).mp S.toCScope).setPu dv
  refine wpAny_call (PySem.W.kla_callFunE hroom ho rfl S.co S.gen rfl hcd ?_)
  rw [hbind u]
  refine al (wpAny_newFunctionEnv S.nocell (fun y hy=>by rw [ay.mp hy];exact eX S.nd S.par) (fun h₁ hns hsb=>?_) S.kind)
  have hk₁:∀ b o,s.heap.get? b=some o->h₁.get? b=some o:=fun b o e=>hsb.extBut b o (bu (aH e)) (ag _ e)
  refine ⟨I.nolimit.keeps hk₁,?_⟩
  show lN _ _ (.expr body (wZ X scope q s.heap.objs.size f c')) _ _
  have J:Inv (D6 X A scope q f c' s H) [] ((mpS ix σ).set i0 (some v)) H { s with heap:=h₁,toks:=s.toks+1 }:=BA S I hh hfr rv hns hk₁
  refine PySem.W.kla_codeExpr (d6 (hbody s H [] _ _ H (fun v' H'=>∃ G',Ext G H G' H'/\h8 X.K B H G' H' rr v') J ⟨B,G,_,rr,E.gh,sb.trans E.hh,st',er,fun v' G' H' E' r'=>⟨G',E',r'⟩⟩) (fun u' s' he=>?_) fun _ _ z=>z.elim)
  obtain ⟨v',H',J',r',G',E',ro⟩:=he
  obtain ⟨G2,E2,_,d2⟩:=ro.pure E' hp
  exact ⟨v',G2,H',I.call' (ch:=[]) J'.os J'.base J'.hok J'.bare (fun b z=>absurd z (by simp)),r',E2,d2⟩
end
noncomputable def jH (prog:bC) (w:cf) (A:bL) (s:ai) (x:ae) (xs:List V):Prop :=
 ∀ (E:ae->ai->Prop) (R:List ae->ai->Prop),(∀ h' tk vs,(∀ b o,s.heap.get? b=some o->h'.get? b=some o)->eG xs vs->R vs { s with heap:=h',toks:=tk })->aM (bg prog w) A (vf x) R E s
theorem yL {n:Nat} {acc:Array ae} (it:ItemsOf (fun i v=>∃ t,v=.int (0+i*1) t) acc n):eG ((bH n).map fun (i:Nat)=>V.int (i:Int)) acc.toList:=by
 have:∀ (n:Nat) (l:List ae) (lo:Nat),l.length=n->(∀ i v,l[i]?=some v->∃ t,v=eZ ((lo+i:Nat):Int) t)->eG ((wD lo n).map fun (i:Nat)=>V.int (i:Int)) l:=fun n=>by
  induction n with
  | zero=>intro l lo hl _;cases l with
    | nil=>exact .nil
    | cons _ _=>cases hl
  | succ n ih =>
    intro l lo hl hv
    cases l with
    | nil=>cases hl
    | cons x l =>
      obtain ⟨t,ht⟩:=hv 0 x rfl
      rw [oy,ax]
      refine .cons ⟨t,by simpa using ht⟩ (ih l (lo+1) (by simpa using hl) fun i v hi=>?_)
      obtain ⟨t,ht⟩:=hv (i+1) v (by simpa using hi)
      exact ⟨t,by rw [ht];congr 2;lia⟩
 rw [gy]
 refine this n acc.toList 0 (by rw [bS];exact it.1) fun i v hi=>?_
 obtain ⟨t,ht⟩:=it.2 i v (by rw [<- fN];exact hi)
 exact ⟨t,by rw [ht];congr 1;simp⟩
noncomputable def hkD:List Da->Option (List (List Int))
 | []=>some []
 | .tup [.int n,.tup xs]::r=>match gK xs,hkD r with
   | some ns,some ts=>some ((n::ns)::ts)
   | _,_=>none
 | _=>none
theorem HL {kd:List Da}:∀ {ts:List (List Int)},hkD kd=some ts->ts.length=kd.length:=by
 fun_induction hkD kd with
 | case1=>intro ts e;cases e;rfl
 | case2 n xs r ns ts0 er en ih=>intro ts e;cases e;rw [aI,aI,ih er]
 | case3=>intro ts e;cases e
 | case4=>intro ts e;cases e
section
variable {X:Cx} {pins:List (ak×dz)} {σ:St} {H:Hp} {s:ai}
theorem wO {A:bL} {r:ak} {j:Int} (I:Inv X pins σ H s) (hh:A.handled=none) (hr:H r=some (.rng 0 j)) (j1 : -(2 ^ 62)<=j) (j2:j<=1000000):jH X.prog X.w A s (.ref r) ((bH j.toNat).map fun (i:Nat)=>V.int (i:Int)):=by
 intro E R h
 obtain ⟨t,u,v,hr'⟩:=I.hok r _ hr
 exact qf hh (show IsRange s.heap r 0 j 1 t u v from hr') j1 j2 E R fun h' tk acc kp it=>h h' tk _ kp (yL it)
theorem Hz {A:bL} {x:ae} {xs:List V} {vs:List ae} (c:gP X.prog X.w A s x vs) (r:eG xs vs):jH X.prog X.w A s x xs:=fun E R h=>c E R fun h' tk kp=>h h' tk vs kp r
theorem oa {G0 H0 G:Hp} {x:ae} {xs:List V} {ds kd:List Da} {lam:Da->Option Da} {O:fI} {κ:iH} {d0:O.α} {ks:List O.α} {fv:ak} (I:Inv X pins σ H s) (E0:Ext G0 H0 G H) (col:jH X.prog X.w X.A.in1 s x xs) (dl:cS X.K G ds xs)
 (L:CN X X.A.in1.in1 (.ref fv) σ G0 H0 lam) (hk:Cq lam ds=some kd) (h64:OkN ks) (hks:ks.length=kd.length)
 (cmp:∀ (s':ai) (G' H':Hp) (pins':List (ak×dz)) (kvs:List V) (us:List ae),Inv X pins' σ H' s'->cW G' H'->cS X.K G' kd kvs->eG kvs us->xA X.prog X.w X.A.in1.in1 s' us O κ (fun i=>ks.getD i d0)) {Q:VK}
 (k:∀ D G' H',Ext G H G' H'->H' D=none->Q (.ref D) (upd H' D (.lst ((n9 O d0 ks).map fun i=>xs.getD i .non)))):aM (bg X.prog X.w) X.A (call (.builtin "sorted") [x] [(cL "key",.ref fv)]) (EP X pins σ Q) X.xe s:=by
 have sz:aK=16777216:=bG
 have hld:xs.length=ds.length:=dl.length
 have hlk:kd.length=ds.length:=mt hk
 have h127:ds.length<=63:=by rcases h64 with h | h<;>lia
 refine call_function_entry_kw kind_sorted plain_sorted entry_sorted (ksk_s1 _ _) ?_
 unfold Builtin.«sorted»
 refine aa (m:=checkCount "sorted" 1 1 _) (al (aa (col _ _ fun h1 tk vs k1 rv=>?_)))
 have hlv:xs.length=vs.length:=rv.length
 refine aa (kG ?_ (by lia))
 have I0:Inv X pins σ H { s with heap:=h1,toks:=tk }:=I.kept (t':=tk) k1
 have hoD:(h1.push (bZ "list" vs.toArray 0)).get? h1.objs.size=some (bZ "list" vs.toArray 0):=aJ _ rfl
 have I1:Inv X ((h1.objs.size,bZ "list" vs.toArray 0)::pins) σ H { s with heap:=h1.push (bZ "list" vs.toArray 0),toks:=tk }:=I0.pinNew (t':=tk) (fun b u e=>ag _ e) (aw _) hoD iR
 have h0:X.s₀.heap.objs.size<=h1.objs.size:=I0.sz
 have hne:∀ q∈X.pn++pins,q.1≠h1.objs.size:=fun q hq=>bu (aH (I0.pin q hq).1)
 show aM _ _ _ _ _ { s with heap:=h1.push (bZ "list" vs.toArray 0),toks:=tk }
 refine aa (dm (wpAny_call_entry_kw slot_list_sort ⟨_,hoD,rfl⟩ entry_list_sort ?body (ksk_l1 _ _)))
 case body =>
  show aM (bg X.prog X.w) X.A.in1.in1 (Builtin.«list.sort» ⟨[.ref h1.objs.size],[(cL "key",.ref fv)]⟩) _ _ _
  rw [ksk_t1]
  refine Br I1 E0 h0 hne L dl rv hk h64 hks cmp fun s' G' H' c E' I'=>⟨_,rfl,al ⟨_,rfl,?_⟩⟩
  have hpm:∀ i∈n9 O d0 ks,i<xs.length:=fun i hi=>by have:=rM hi;lia
  have r2:=jJ rv _ hpm
  have hD:H' h1.objs.size=none:=(I'.pin _ (aW _ ah)).2.1
  refine ⟨.ref h1.objs.size,_,I'.adopt h0 hne (show gV X.prog X.w _ s'.heap _ (.lst ((n9 O d0 ks).map fun i=>xs.getD i .non)) from ⟨by rw [ab,xR];lia,_,c,r2,I'.pinGet⟩),rfl,k _ G' H' E' hD⟩
theorem CO {A:bL} {ns:List Int} {s':ai} {G':Hp} {kvs:List V} {us:List ae} (dk:cS X.K G' (ns.map Da.int) kvs) (rk:eG kvs us):xA X.prog X.w A s' us y6 ly (fun i=>ns.getD i (0:Int)):=by
 have ek:=cS.ints.mp dk
 subst ek
 have hl:us.length=ns.length:=by rw [<- rk.length,ab]
 have at':∀ i,i<us.length->∃ t,us.getD i bB=.int (ns.getD i 0) t:=fun i hi=>by
  have hi':i<ns.length:=by lia
  obtain ⟨u,hu,ru⟩:=rk.get (i:=i) (x:=.int ns[i]) (by rw [aA,aj hi'];rfl)
  obtain ⟨t,rfl⟩:=ru
  refine ⟨t,?_⟩
  rw [av,hu,av,aj hi'];rfl
 refine ⟨fun h2 Q q=>?_,fun i j C hi hj c=>?_⟩
 ·refine mV (T:=.type "int") h2 (fun v hv=>?_) (by decide) (by decide) q
  obtain ⟨i,hi,rfl⟩:=bT hv
  obtain ⟨t,e⟩:=at' i hi
  have e2:us[i]=.int (ns.getD i 0) t:=by rw [<- e];simp [hi]
  rw [e2]
  exact .now
 ·show aM (bg X.prog X.w) _ (zm ly (us.getD i bB) (us.getD j bB)) C _ _
  obtain ⟨t,e1⟩:=at' i hi
  obtain ⟨t',e2⟩:=at' j hj
  rw [e1,e2]
  exact vt c
theorem Ln {K:ac} {G:Hp}:∀ {kd:List Da} {ts:List (List Int)} {kvs:List V},hkD kd=some ts->cS K G kd kvs->∀ i,i<ts.length->∃ (a b:ak) (n:Int) (ns:List Int),kvs[i]?=some (.ref a)/\G a=some (.tup [.int n,.ref b])/\G b=some (.tup (ns.map V.int))/\ts.getD i []=n::ns:=by
 intro kd
 fun_induction hkD kd with
 | case1=>intro ts kvs e d i hi;cases e;cases hi
 | case2 n xs r ns ts0 er en ih =>
   intro ts kvs e d i hi
   cases e
   obtain ⟨x,rr,rfl,d1,d2⟩:=d
   obtain ⟨a,ys,rfl,ga,da⟩:=d1
   obtain ⟨y1,r1,rfl,e1,da2⟩:=da
   obtain ⟨y2,r2,rfl,e2,e3⟩:=da2
   cases (show r2=[] from e3)
   cases (show y1=.int n from e1)
   obtain ⟨b,zs,rfl,gb,db⟩:=e2
   rw [gO en] at db
   have ez:=cS.ints.mp db
   subst ez
   cases i with
   | zero=>exact ⟨a,b,n,ns,rfl,ga,gb,rfl⟩
   | succ i =>
     obtain ⟨a',b',n',ns',h1,h2,h3,h4⟩:=ih er d2 i (by simpa using hi)
     exact ⟨a',b',n',ns',by simpa using h1,h2,h3,by simpa using h4⟩
 | case3=>intro ts kvs e;cases e
 | case4=>intro ts kvs e;cases e
theorem Bw {A:bL} {pins':List (ak×dz)} {kd:List Da} {ts:List (List Int)} {s':ai} {G' H':Hp} {kvs:List V} {us:List ae} (hk:hkD kd=some ts) (hlen:ts.length=kd.length) (I':Inv X pins' σ H' s') (sm:cW G' H') (hu:A.units<cr)
 (dk:cS X.K G' kd kvs) (rk:eG kvs us):xA X.prog X.w A s' us tE (zn true) (fun i=>ts.getD i []):=by
 have hl:us.length=ts.length:=by rw [<- rk.length,dk.length,hlen]
 have at':∀ i,i<us.length->∃ (a b:ak) (n:Int) (t:zc) (ns:List Int) (o:dz) (m:Nat),us.getD i bB=.ref a/\ts.getD i []=n::ns/\s'.heap.get? a=some o/\o.cls=.type "tuple"/\o.data=.seq #[.int n t,.ref b] m/\H' b=some (.tup (ns.map V.int)):=fun i hi=>by
  obtain ⟨a,b,n,ns,h1,h2,h3,h4⟩:=Ln hk dk i (by lia)
  obtain ⟨u,hu,ru⟩:=rk.get h1
  cases (show u=bN a from ru)
  obtain ⟨_,its,rv,o,ho,hc,m,hd⟩:=I'.hok a _ (sm _ _ h2)
  obtain ⟨u1,u2,rfl,e1,e2⟩:=eG.two rv
  obtain ⟨t,rfl⟩:=e1
  cases (show u2=bN b from e2)
  exact ⟨a,b,n,t,ns,o,m,by rw [av,hu];rfl,h4,ho,hc,hd,sm _ _ h3⟩
 refine ⟨fun h2 Q q=>?_,fun i j C hi hj c=>?_⟩
 ·have firsts:∀ vs:List ae,(∀ u∈vs,∃ i,i<us.length/\u=us.getD i bB)->∃ fs:List ae,yX s'.heap vs fs/\vs.length=fs.length/\∀ f∈fs,∃ n t,f=eZ n t:=fun vs=>by
   induction vs with
   | nil=>exact fun _=>⟨[],.nil,rfl,by simp⟩
   | cons u vs ih =>
     intro hu
     obtain ⟨fs,h1,h2,h3⟩:=ih fun v hv=>hu v (af _ hv)
     obtain ⟨i,hi,rfl⟩:=hu u (ah)
     obtain ⟨a,b,n,t,ns,o,m,ea,et,ho,hc,hd,hb⟩:=at' i hi
     refine ⟨.int n t::fs,?_,by rw [aI,aI,h2],fun f hf=>?_⟩
     ·rw [ea]
      exact .cons ho hc hd (by simp) h1
     ·rcases ao.mp hf with z | z
      ·exact ⟨n,t,z⟩
      ·exact h3 f z
  obtain ⟨fs,f1,f2,f3⟩:=firsts us fun u hu=>by
   obtain ⟨i,hi,rfl⟩:=bT hu
   exact ⟨i,hi,by simp [hi]⟩
  refine x8 (T:=.type "int") f1 (by lia) (fun v hv=>?_) (by decide) q
  obtain ⟨n,t,rfl⟩:=f3 v hv
  exact .now
 ·show aM (bg X.prog X.w) _ (zm (zn true) (us.getD i bB) (us.getD j bB)) C _ _
  obtain ⟨a,b,n,t,ns,o,m,ea,et,ho,hc,hd,hb⟩:=at' i hi
  obtain ⟨a',b',n',t',ns',o',m',ea',et',ho',hc',hd',hb'⟩:=at' j hj
  have c:C (HT.lexLt (ts.getD i []) (ts.getD j [])) s':=c
  rw [et,et'] at c
  rw [ea,ea']
  refine zo ho hd ho' hd' ?_
  show zl X.prog X.w A true (decide (2<2)) C [(eZ n t,eZ n' t'),(bN b,bN b')] 0 s'
  refine mT (ri ?_)
  by_cases e:n=n'
  ·subst e
   rw [beq_self_eq_true]
   have hq:HT.lexLt (n::ns) (n::ns')=HT.lexLt ns ns':=by rw [HT.lexLt_cons,if_pos rfl]
   rw [hq] at c
   have e1:ns.map V.int=(ns.map (au:Int->Key)).map kV:=by rw [aC];rfl
   have e2:ns'.map V.int=(ns'.map (au:Int->Key)).map kV:=by rw [aC];rfl
   have k1:=mI I'.hok (e1▸hb)
   have k2:=mI I'.hok (e2▸hb')
   refine oh (mT ((jL (cN X.prog X.w)).eqBool hu k1 k2 ?_))
   by_cases en:ns=ns'
   ·subst en
    rw [decide_eq_true rfl]
    refine oh (PySem.W.kat_nil ?_)
    have:HT.lexLt ns ns=false:=lm ns
    rw [this] at c
    exact c
   ·have hne:¬ (ns.map (au:Int->Key)=ns'.map au):=fun z=>en (by
     have:=congrArg (gx fun k:Key=>match k with | .inl i=>i | .inr _=>0) z
     simpa [aC,Function.comp_def] using this)
    rw [decide_eq_false hne]
    refine oO ?_
    show aM _ _ (oneLt' false (bN b) (bN b')) _ _ _
    refine oj _ _ ?_
    obtain ⟨its,r1,it1,_⟩:=I'.tuple (SqT.of hb)
    obtain ⟨its',r1',it1',_⟩:=I'.tuple (SqT.of hb')
    exact HT.lt_tupInts it1 it1' (dM r1) (dM r1') hu c
  ·rw [show (n == n')=false from beq_eq_false_iff_ne.mpr e]
   have hq:HT.lexLt (n::ns) (n'::ns')=decide (n<n'):=by rw [HT.lexLt_cons,if_neg e]
   rw [hq] at c
   exact oO (oneLt_int c)
end
noncomputable def wH (kd:List Da):Option (List Nat):=match gK kd with
 | some ns=>if OkN ns then some (n9 y6 (0:Int) ns) else none
 | none=>match hkD kd with
   | some ts=>if OkN ts then some (n9 tE ([]:List Int) ts) else none
   | none=>none
noncomputable def sn (lam:Da->Option Da) (ds:List Da):Option (List Da):=if ds.length<128 then (match Cq lam ds with
 | none=>none
 | some kd=>match wH kd with
   | none=>none
   | some pl=>some (pl.map fun i=>ds.getD i .non)) else none
noncomputable def kJ (ix:List (Option Nat)) (i0:Nat) (fi:Rho->Option (List Da)) (g:Rho->Option Rv):Rho->Option Rv:=fun ρ=>match fi ρ with
 | none=>none
 | some ds=>match sn (EZ ix i0 g ρ) ds with
   | none=>none
   | some es=>some (.fr,.lst es)
section
variable {X:Cx} {pins:List (ak×dz)} {σ:St} {H:Hp} {s:ai}
theorem tP (hu:X.A.in1.in1.units<cr) {B G0 H0 G:Hp} {x:ae} {xs:List V} {ds es:List Da} {lam:Da->Option Da} {fv:ak} (I:Inv X pins σ H s) (E0:Ext G0 H0 G H) (col:jH X.prog X.w X.A.in1 s x xs) (dl:cS X.K G ds xs)
 (L:CN X X.A.in1.in1 (.ref fv) σ G0 H0 lam) (hs:sn lam ds=some es) {Q:VK} (k:∀ v G' H',Ext G H G' H'->h8 X.K B H G' H' (.fr,.lst es) v->Q v H') :
 aM (bg X.prog X.w) X.A (call (.builtin "sorted") [x] [(cL "key",.ref fv)]) (EP X pins σ Q) X.xe s:=by
 unfold sn at hs
 split at hs
 case isFalse=>cases hs
 case isTrue h64 =>
 split at hs
 ·cases hs
 ·rename_i kd hkd
  split at hs
  ·cases hs
  ·rename_i pl hpl
   cases hs
   unfold wH at hpl
   split at hpl
   ·rename_i ns hns
    split at hpl
    case isFalse=>cases hpl
    rename_i hok
    cases hpl
    have ekd:=gO hns
    subst ekd
    refine oa (O:=y6) (κ:=ly) (d0:=(0:Int)) (ks:=ns) I E0 col dl L hkd hok (ab _).symm (fun s' G' H' pins' kvs us _ _ dk rk=>CO dk rk) fun D G' H' E' hD=>?_
    refine k _ G' _ (E'.trans (Ext.own E'.gh hD)) ⟨D,_,rfl,E'.hh.free hD,E'.gh.free hD,aV,_,rfl,jW (K:=X.K) (G:=G') _ fun i hi=>?_⟩
    have hi':i<ds.length:=by
     have h1:i<ns.length:=rM (O:=y6) hi
     have h2:=mt hkd
     rw [ab] at h2
     exact h2▸h1
    obtain ⟨v,hv,dv⟩:=dl.get (i:=i) (gI hi' .non)
    have e:xs.getD i .non=v:=by rw [av,hv];rfl
    show Den X.K G' (ds.getD i .non) (xs.getD i .non)
    rw [e]
    exact Den.mono E'.gg _ dv
   ·split at hpl
    ·rename_i ts hts
     split at hpl
     case isFalse=>cases hpl
     rename_i hok
     cases hpl
     have hln:=HL hts
     refine oa (O:=tE) (κ:=zn true) (d0:=([]:List Int)) (ks:=ts) I E0 col dl L hkd hok hln (fun s' G' H' pins' kvs us I' sm dk rk=>Bw hts hln I' sm hu dk rk) fun D G' H' E' hD=>?_
     refine k _ G' _ (E'.trans (Ext.own E'.gh hD)) ⟨D,_,rfl,E'.hh.free hD,E'.gh.free hD,aV,_,rfl,jW (K:=X.K) (G:=G') _ fun i hi=>?_⟩
     have hi':i<ds.length:=by
      have h1:i<ts.length:=rM (O:=tE) hi
      have h2:=mt hkd
      lia
     obtain ⟨v,hv,dv⟩:=dl.get (i:=i) (gI hi' .non)
     have e:xs.getD i .non=v:=by rw [av,hv];rfl
     show Den X.K G' (ds.getD i .non) (xs.getD i .non)
     rw [e]
     exact Den.mono E'.gg _ dv
    ·cases hpl
end
structure Mkr (X:Cx) (c P:ak):Prop where
 code:X.env.code=.ref c
 hd:iV X.base c P
 tab:(P,X.env.qual++"<lambda>")∈iB X.K
 bm:Bm X.mg X.base
section
variable {X:Cx} {a e body:aS} {params:iU} {scope:eI} {p p2 pos pos2 kpos lpos:ft} {c P:ak} {ix:List (Option Nat)} {x:bM} {i0:Nat} {g:Rho->Option Rv} {ga:Rho->Option (List Rv)}
structure CF (X:Cx) (params:iU) (body:aS) (scope:eI) (ix:List (Option Nat)) (x:bM) (i0:Nat) (g:Rho->Option Rv):Prop where
 S:xc X scope ix x i0
 df:defaultsOf params X.env=([],[])
 bind:∀ (q:bM) (cl:List (bM×ak)) (pm cd ctv u:ae),jT (oP "<lambda>" q params body scope cl pm cd ctv) ⟨[u],[]⟩=pure [(x,u)]
 body:∀ (q:bM) (f c':ak) (s:ai) (H:Hp),PX (D6 X X.A.in1.in1 scope q f c' s H) body g
theorem qP {pins:List (ak×dz)} {s1:ai} {σ:St} {H H1 B G G1:Hp} {ρ:Rho} {u:ae} {xs:List V} {ds es:List Da} {Q:VK} (hc:X.calm=true) (hr:jf 2 X.A) (M:Mkr X c P) (Lm:CF X params body scope ix x i0 g)
 (I1:Inv X pins σ H1 s1) (sb:cW B H) (st:iK X.K B G H σ ρ) (E1:Ext G H G1 H1) (col:∀ (s2:ai) (H2:Hp),Inv X pins σ H2 s2->cW H1 H2->jH X.prog X.w X.A.in1 s2 u xs) (dl:cS X.K G1 ds xs) (hs:sn (EZ ix i0 g ρ) ds=some es)
 (k:∀ v G' H',Ext G H G' H'->h8 X.K B H G' H' (.fr,.lst es) v->Q v H') :
 aM (bg X.prog X.w) X.A (evalAll ((lw pos (ik [⟨some "key",.Lambda params body scope lpos,kpos⟩] X.env)).map (·.2)))
  (fun kvs s₂=>aM (bg X.prog X.w) X.A (call (.builtin "sorted") [u] (((lw pos (ik [⟨some "key",.Lambda params body scope lpos,kpos⟩] X.env)).filterMap (·.1)).zip kvs)) (EP X pins σ Q) X.xe s₂) X.xe s1:=by
 show aM _ _ (evalAll ((do let v <- b9 (.Lambda params body scope lpos) X.env;u9 pos;pure v)::[])) _ _ s1
 refine wpAny_evalAll_cons (aa (CD I1 M.bm M.code M.hd (E1.gh _ _ (E1.gg _ _ (st.tg _ M.tab))) rfl (Lm.S.toCScope.cells I1) Lm.df fun f c' pm ctv s2 H2 I2 hf0 hf hc' ext=>aa (kF (al (wpAny_evalAll_nil ?_)))))
 show aM (bg X.prog X.w) X.A (call (.builtin "sorted") [u] [(cL "key",.ref f)]) (EP X pins σ Q) X.xe s2
 have E2:=ext G1 E1.gh
 have E12:=E1.trans E2
 have L:=JT (A:=X.A.in1.in1) (B:=B) (G0:=G1) (H0:=H2) (ρ:=ρ) (g:=g) (σ:=σ) (pm:=pm) (ctv:=ctv) Lm.S (show X.A.in1.in1.handled=none from hr.hd) rfl (hr.in1.in1.depth) (fun u=>Lm.bind _ _ _ _ _ u) (fun s H=>Lm.body _ f c' s H) (sb.trans E12.hh) (st.ext E12) hf hc'
 refine tP (show X.A.in1.in1.units<cr from by have:=hr.un;show X.A.units+1+1<cr;lia) (B:=B) I2 (Ext.refl E12.gh) (col s2 H2 I2 E2.hh) dl L hs fun v G' H' E' rv=>?_
 refine k v G' H' (E12.trans E') ?_
 exact rv.base E12.hh
theorem vU (hc:X.calm=true) (hr:jf 2 X.A) (hg:Gl X "sorted") (hm:X.mg "sorted" = none) (hg2:Gl X "range") (hm2:X.mg "range" = none) (M:Mkr X c P) (Lm:CF X params body scope ix x i0 g) (ha:PXA X [a] ga)
 (hs:am [a] X.env=[(false,b9 a X.env)]:=by exact bR rfl) (he:am [.Call (.Name "range" p2) [a] [] pos2] X.env=[(false,b9 (.Call (.Name "range" p2) [a] [] pos2) X.env)]:=by rfl) :
 PX X (.Call (.Name "sorted" p) [.Call (.Name "range" p2) [a] [] pos2] [⟨some "key",.Lambda params body scope lpos,kpos⟩] pos) (kJ ix i0 (nM ga) g):=by
 intro pins s σ H Q I ⟨B,G,ρ,r,sg,sb,st,eq,k⟩
 unfold kJ at eq
 split at eq
 ·cases eq
 ·rename_i ds efi
  split at eq
  ·cases eq
  ·rename_i es ees
   cases eq
   unfold nM at efi
   split at efi
   ·rename_i kd j ej
    split at efi
    ·rename_i hj
     cases efi
     have hds:(fE 0 j.toNat).length<128:=by
      unfold sn at ees
      split at ees
      ·assumption
      ·cases ees
     have hdn:(fE 0 j.toNat).length=j.toNat:=by
      have:=(kQ (K:=X.K) (G:=G) j.toNat 0).length
      rw [ab,List.length_range'] at this
      exact this.symm
     refine fR (nU (u:=.builtin "sorted") I hg hm (by decide +kernel) ?_)
     refine Cz (thn (fX (pc hg2 hm2 ha hs) kW he pos pins s σ H (fun vs H1=>∃ G1 rr,vs=[.ref rr]/\Ext G H G1 H1/\H1 rr=some (.rng 0 j)) I ?_) fun us s1 ⟨vs,H1,I1,r1,G1,rr,ev,E1,hrr⟩=>?_) (by rw [he];rfl) (by rw [he];rfl)
     ·refine ⟨B,G,ρ,_,sg,sb,st,ej,fun vs G1 H1 E1 r1=>?_⟩
      obtain ⟨v,rfl,r2⟩:=fK.one r1
      refine ⟨j,by rw [r2.int],fun rr hrr=>?_⟩
      exact ⟨G1,rr,rfl,E1.trans (Ext.own E1.gh hrr),aV⟩
     ·subst ev
      obtain ⟨u,rfl,ru⟩:=lC r1
      cases ru
      refine qP hc hr M Lm I1 sb st E1 (xs:=(bH j.toNat).map fun (i:Nat)=>V.int (i:Int)) (fun s2 H2 I2 sm=>wO I2 (I2.ok.hd hc) (sm _ _ hrr) hj.1 (by lia)) (by rw [gy];exact kQ j.toNat 0) ees k
    ·cases efi
   ·cases efi
noncomputable def qU (f:Rho->Option Rv):Rho->Option (List Da):=fun ρ=>match f ρ with
 | some (.pu,.lst ds)=>some ds
 | _=>none
theorem wc {fe:Rho->Option Rv} (hc:X.calm=true) (hr:jf 2 X.A) (hg:Gl X "sorted") (hm:X.mg "sorted" = none) (M:Mkr X c P) (Lm:CF X params body scope ix x i0 g) (ha:PX X e fe)
 (he:am [e] X.env=[(false,b9 e X.env)]:=by exact bR rfl) :
 PX X (.Call (.Name "sorted" p) [e] [⟨some "key",.Lambda params body scope lpos,kpos⟩] pos) (kJ ix i0 (qU fe) g):=by
 intro pins s σ H Q I ⟨B,G,ρ,r,sg,sb,st,eq,k⟩
 unfold kJ at eq
 split at eq
 ·cases eq
 ·rename_i ds efi
  split at eq
  ·cases eq
  ·rename_i es ees
   cases eq
   unfold qU at efi
   split at efi
   ·rename_i ds' ee
    cases efi
    refine fR (nU (u:=.builtin "sorted") I hg hm (by decide +kernel) ?_)
    refine Cz (thn (fX ha kW he pos pins s σ H (fun vs H1=>∃ G1 rr xs,vs=[.ref rr]/\Ext G H G1 H1/\SqL X.K G1 rr xs/\cS X.K G1 ds xs) I ?_) fun us s1 ⟨vs,H1,I1,r1,G1,rr,xs,ev,E1,hrr,dl⟩=>?_) (by rw [he];rfl) (by rw [he];rfl)
    ·refine ⟨B,G,ρ,_,sg,sb,st,ee,fun v G1 H1 E1 r1=>?_⟩
     obtain ⟨a,xs,rfl,q1,d1⟩:=r1
     exact ⟨G1,a,xs,rfl,E1,q1,d1⟩
    ·subst ev
     obtain ⟨u,rfl,ru⟩:=lC r1
     cases ru
     refine qP hc hr M Lm I1 sb st E1 (xs:=xs) (fun s2 H2 I2 sm=>?_) dl ees k
     obtain ⟨vs,cl,rv⟩:=pq (A:=X.A.in1) I2 (.inl (sm.seq (E1.gh.seq hrr)))
     exact Hz cl rv
   ·cases efi
end
section
variable {prog:bC} {w:cf} {A:bL} {E:ae->ai->Prop} {s:ai}
theorem AO {x:ae} {T:String} {xs:List V} {Q:ae->ai->Prop} (hT:s.TypeIs x T) (nt:(gj T == gj "tuple")=false) (col:jH prog w A.in1.in1 s x xs) (hn:xs.length<=aK)
 (h:∀ (h':cy) (tk:Nat) (vs:List ae),(∀ b o,s.heap.get? b=some o->h'.get? b=some o)->eG xs vs->Q (.ref h'.objs.size) { s with heap:=h'.push { cls:=.type "tuple",data:=.seq vs.toArray },toks:=tk }):aM (bg prog w) A (call (.type "tuple") [x]) Q E s:=by
 refine callType_codes (Q₁:=fun obj s₁=>s₁.TypeIs obj "tuple"/\Q obj s₁) PySem.F.called_tuple (PySem.F.typeCall_tuple_1 _) PySem.F.entry_object_init ?_ fun obj s₁ h₁ =>
  ⟨h₁.1,PySem.F.args_object_init_2 obj _,object_init_meets PySem.F.called_tuple.init.lookup PySem.F.called_tuple.made (by decide) prog w A.in1 _ s₁ ⟨h₁.1,rfl,h₁.2⟩⟩
 refine codeAny_of_tree ?_
 show aM _ A.in1.in1 (do checkBuiltinCall "tuple.__new__" ⟨[.type "tuple",x],[]⟩;again (.builtin "tuple.__new__" ⟨[.type "tuple",x],[]⟩)) _ _ s
 refine aa (Cv (PySem.F.newCall_tuple_1 _) (al ⟨eW qB _,dr PySem.F.entry_tuple_new ?_⟩))
 rw [cP qB _]
 have hsub:=sub_tuple_self
 have hinit:=init_tuple_lookup
 have hmh:=madeHere_tuple
 have colT:∀ {R:List ae->ai->Prop} {E:ae->ai->Prop},(∀ (h':cy) (tk:Nat) (vs:List ae),(∀ b o,s.heap.get? b=some o->h'.get? b=some o)->eG xs vs->R vs { s with heap:=h',toks:=tk })->aM (bg prog w) A.in1.in1 (vf x) R E s:=fun h=>col _ _ h
 wp_walk using iG hT,colT
 intro h' tk vs hk rv
 show aM _ _ (dB vs.toArray>>=fun v=>ret v) _ _ _
 unfold dB
 refine aa (cQ ?_ (by show vs.toArray.size<=aK;rw [aB,<- rv.length];exact hn))
 refine al ?_
 exact ⟨⟨_,aJ _ rfl,rfl⟩,h h' tk vs hk rv⟩
end
section
variable {X:Cx} {a b e:aS} {p p2 pos pos2:ft} {fa fb:Rho->Option Rv} {g:Rho->Option (List Rv)}
theorem qr (hc:X.calm=true):kY X (.type "tuple") (fun xs H Q=>∃ (r:ak) (j:Int),xs=[.ref r]/\H r=some (.rng 0 j)/\-(2 ^ 62)<=j/\j<=1000000/\∀ l,H l=none->Q (.ref l) (upd H l (.tup ((bH j.toNat).map fun (i:Nat)=>V.int (i:Int))))):=by
 intro pins s σ H xs us Q I r h
 obtain ⟨r',j,rfl,hr,j1,j2,q⟩:=h
 obtain ⟨u,rfl,rx⟩:=lC r
 cases rx
 obtain ⟨t,u,v,hr'⟩:=I.hok r' _ hr
 have hs:aK=16777216:=bG
 refine AO (T:="range") ⟨_,hr',rfl⟩ (by decide) (wO (A:=X.A.in1.in1) I (I.ok.hd hc) hr j1 j2) (by rw [ab,dA];lia) fun h' tk vs kp rv=>?_
 have I2:Inv X pins σ H { s with heap:=h',toks:=tk }:=I.kept (t':=tk) kp
 exact ⟨.ref h'.objs.size,_,I2.laid (t':=tk) (o:=.tup _) (fun b o e=>ag _ e) (aw _) ⟨⟨by rw [ab,dA];lia,mH.new _ _⟩,vs,rv,og _ _⟩,rfl,q _ (I2.hok.fresh (aw _))⟩
noncomputable def jF (g:Rho->Option (List Rv)):Rho->Option Rv:=fun ρ=>match g ρ with
 | some [(_,.int j)]=>if -(2 ^ 62)<=j/\j<=1000000 then some (.pu,.tup (fE 0 j.toNat)) else none
 | _=>none
theorem v5 (hg:Gl X "tuple") (hm:X.mg "tuple" = none) (hg2:Gl X "range") (hm2:X.mg "range" = none) (ha:PXA X [a] g) (hc:X.calm=true:=by rfl) (hs:am [a] X.env=[(false,b9 a X.env)]:=by exact bR rfl)
 (he:am [.Call (.Name "range" p2) [a] [] pos2] X.env=[(false,b9 (.Call (.Name "range" p2) [a] [] pos2) X.env)]:=by rfl):PX X (.Call (.Name "tuple" p) [.Call (.Name "range" p2) [a] [] pos2] [] pos) (jF g) :=
 PE.imp (mC (qr hc) hg hm (by decide +kernel) (fX (pc hg2 hm2 ha hs) kW he) (by decide) (by decide) he rfl) fun σ H Q ⟨B,G,ρ,r,sg,sb,st,eq,k⟩=>by
  unfold jF at eq
  split at eq
  ·rename_i kd j ej
   split at eq
   ·rename_i hj
    cases eq
    refine ⟨B,G,ρ,_,sg,sb,st,ej,fun vs G1 H1 E1 r1=>?_⟩
    obtain ⟨v,rfl,r2⟩:=fK.one r1
    refine ⟨j,by rw [r2.int],fun rr hrr=>?_⟩
    refine ⟨rr,j,rfl,aV,hj.1,hj.2,fun l hl=>?_⟩
    have E2:=E1.trans (Ext.own (o:=.rng 0 j) E1.gh hrr)
    refine k _ _ _ (E2.trans (Ext.new E2.gh hl)) ⟨l,_,rfl,aV,?_⟩
    rw [gy]
    exact kQ j.toNat 0
   ·cases eq
  ·cases eq
theorem Ji {A:bL} {E:ae->ai->Prop} {pins:List (ak×dz)} {σ:St} {H:Hp} {s:ai} {a b:ak} {kvs:List (List Key×V)} {k:List Key} {v:V} {r:ae} {Q:Unit->ai->Prop} (hu:A.units<cr) (I:Inv X pins σ H s) (e:H a=some (.dT kvs)) (eb:H b=some (.tup (k.map kV))) (l:kvs.length<aK)
 (rv:gH v r) (h:∀ s',Inv X pins σ (upd H a (.dT (lB kvs k v))) s'->Q () s'):aM (bg X.prog X.w) A (dictSet a (.ref b) r) Q E s:=by
 obtain ⟨z,hd,xs,rel,dd⟩:=Jq I.hok e
 have hz:xs.length<=aK:=by rw [<- cj rel];exact z
 have hl:(lB kvs k v).length<=aK:=by have:=jX kvs k v;lia
 refine wpAny_dictSet_heap (knd:=jL (cN X.prog X.w)) (hsz:=hz) hu (mI I.hok eb) dd fun h' dd' hs=>h _ ?_
 obtain ⟨q,es,ep,hq,h2,h3,h4,_,h5⟩:=dd'
 refine tf I (by rw [e];exact jh) hs ⟨q,hq⟩ ⟨hl,hd,_,(rel.put k eb rv).keeps fun c ys ec=>?_,q,es,ep,hq,h2,h3,h4,h5⟩
 rw [bq (Kp ec e (fun z=>nomatch z))]
 exact ec
noncomputable def pV (fk fv:Rho->Option Rv):Rho->Option Rv:=fun ρ=>match fk ρ,fv ρ with
 | some (_,.tup ds),some r=>(match gK ds with
   | some ns=>if fj r=true then some (.fr,.dT [ns.map au] [r.2]) else none
   | none=>none)
 | _,_=>none
theorem BN (hu:X.A.units+1<cr) (ha:PX X a fa) (hb:PX X b fb):PX X (.Dict [some a] [b] pos) (pV fa fb):=by
 intro pins s σ H Q I ⟨B,G,ρ,r,sg,sb,st,eq,k⟩
 unfold pV at eq
 split at eq
 ·rename_i kd ds rv efa efb
  split at eq
  ·rename_i ns en
   split at eq
   ·rename_i hpu
    cases eq
    have hn:=I.hok.fresh (aw s.heap.objs.size)
    have I1:=I.laid (a:=s.heap.objs.size) (o:=.dT []) (h':=s.heap.push { cls:=.type "dict",data:=.dict #[] }) (t':=s.toks) (fun _ _ q=>ag _ q) (aw _) (xM s.heap I.big)
    rw [arm_eval_Dict,zip_pairTrees [some a] [b] X.env pos rfl rfl,dictDisplay_pairs (rj [some a] [b] X.env pos) (by simp [rj]) (by simp [rj])]
    refine aa (kF (aa ?_))
    unfold subDict
    refine aa (wpAny_alloc ?_)
    refine aa (dm ?_)
    rw [if_pos (by simp [rj])]
    have E0:Ext G H G (upd H s.heap.objs.size (.dT [])):=Ext.own sg hn
    refine aa (thn (xt ha hb Ar pins _ σ _ (fun ps H2=>∃ x y G1 G2 H1,ps=[(x,y)]/\Ext G (upd H s.heap.objs.size (.dT [])) G1 H1/\h8 X.K B (upd H s.heap.objs.size (.dT [])) G1 H1 (kd,.tup ds) x/\Ext G1 H1 G2 H2/\h8 X.K B H1 G2 H2 rv y) I1
     ⟨B,G,ρ,_,E0.gh,sb.trans E0.hh,st.ext E0,efa,fun x G1 H1 E1 r1=>⟨B,G1,ρ,_,E1.gh,(sb.trans E0.hh).trans E1.hh,(st.ext E0).ext E1,efb,fun y G2 H2 E2 r2=>⟨x,y,G1,G2,H1,rfl,E1,r1,E2,r2⟩⟩⟩) fun ws s2 ⟨ps,H2,I2,rel,x,y,G1,G2,H1,ep,E1,r1,E2,r2⟩=>?_)
    subst ep
    obtain ⟨G3,E3,_,d3⟩:=r2.pure E2 hpu
    obtain ⟨t,xs,rfl,ht,dl,_⟩:=r1.tup E1.gh
    rw [gO en] at dl
    have ex:=cS.ints.mp dl
    have ek:ns.map V.int=(ns.map (au:Int->Key)).map kV:=by rw [aC];rfl
    have e03:=(E0.trans E1).trans E3
    have hp2:H2 s.heap.objs.size=some (.dT []):=(E1.trans E3).hh _ _ aV
    have gp:G3 s.heap.objs.size=none:=(E1.trans E3).nw _ _ aV rfl (sg.free hn)
    have ht2:H2 t=some (.tup ((ns.map (au:Int->Key)).map kV)):=by rw [<- ek,<- ex];exact E3.hh _ _ ht
    cases rel with
    | @cons _ w _ _ h tl =>
      cases tl
      obtain ⟨wk,wv⟩:=w
      obtain ⟨h1,h2⟩:=h
      cases (show wk=bN t from h1)
      refine dm ?_
      refine aa ?_
      rw [Cu]
      refine aa (aa (Ji (by lia) I2 hp2 ht2 (by rw [bG];decide) h2 fun s' I'=>al ?_))
      dsimp only
      rw [qz]
      refine al (al (al (al ?_)))
      exact ⟨.ref s.heap.objs.size,_,I',rfl,k _ G3 _ (e03.mut hn gp) ⟨s.heap.objs.size,_,rfl,hn,gp,aV,[(ns.map au,y)],rfl,rfl,⟨y,[],rfl,d3,rfl⟩⟩⟩
   ·cases eq
  ·cases eq
 ·cases eq
end
section
variable {prog:bC} {w:cf} {A:bL} {E:ae->ai->Prop} {s:ai}
theorem wm:typeLookup (.type "list") "keys" = pure none:=by rw [typeLookup_type,builtinLookup_eq_fast];kernel_rfl
theorem Ak {a:ak} {xs:Array ae} {k:Nat} {Q:Option ae->ai->Prop} (hx:s.heap.get? a=some { cls:=.type "list",data:=.seq xs k }) (hA:A.handled=none)
 (h:∀ h' tk,(∀ b o,s.heap.get? b=some o->h'.get? b=some o)->Q none { s with heap:=h',toks:=tk }):aM (bg prog w) A (getAttr? (.ref a) "keys") Q E s:=by
 obtain ⟨hp,g,d,tk,os⟩:=s
 have hT:∀ tk',(⟨hp,g,d,tk',os⟩:ai).TypeIs (.ref a) "list":=fun _=>⟨_,hx,rfl⟩
 have f1:=sub_AttributeError
 have f3:=PySem.F.slot_list_getattribute.lookup
 have f4:=PySem.F.slot_list_getattribute.bind (.ref a)
 have f5:=am_list_getattr_none
 unfold getAttr? getAttrBy? getAttrBy
 repeat (any_goals (first | assumption | exact hT _ | ((with_reducible show aM _ _ (call (Value.builtin "list.__getattribute__") _ _) _ _ _);refine oJ PySem.F.slot_list_getattribute (hT _) am_entry_list_getattribute (PySem.F.args_list_getattribute_2 _ _) (meets_getattribute_miss_list a xs k #[] "keys" _ wm (by decide +kernel) (by rw [bG];decide)) ⟨hx,hA,fun h' tk' e hx'=>?_⟩) | wp_step))
 obtain ⟨t',u',he⟩:=hx'.there
 show aM _ _ (getattributeRaised _ _ _ _ _ _ _) _ _ _
 unfold getattributeRaised
 repeat (any_goals (first | assumption | wp_step))
 exact h _ _ hx'.keeps
theorem lH:entryFor table "dict.update.loop" = some Builtin.«dict.update.loop»:=entryFor_of_tree (by kernel_rfl)
theorem ip:plainId "dict.update.loop" = true:=by decide +kernel
noncomputable def tT (h:cy) (x:ae) (kv:Int×ae):Prop:=∃ (t:ak) (o:dz) (m:Nat) (tk:zc),x=.ref t/\h.get? t=some o/\o.cls=.type "tuple"/\o.data=.seq #[.int kv.1 tk,kv.2] m
theorem tT.keep {h h':cy} {x:ae} {kv:Int×ae} (p:tT h x kv) (k:∀ b o,h.get? b=some o->(∀ o',o'=o->o'.cls=.type "tuple")->h'.get? b=some o):tT h' x kv:=by
 obtain ⟨t,o,m,tk,e,ho,hc,hd⟩:=p
 exact ⟨t,o,m,tk,e,k t o ho fun o' z=>by rw [z];exact hc,hc,hd⟩
theorem Dk {I l D:ak} {its:Array ae} {T:List (Int×ae)} {R:zd->ai->Prop} (hh:A.in1.handled=none) (hIl:l≠I) (hDI:D≠I) (hDl:D≠l) (hT:T.length=its.size) (hn:T.length<=1000) :
 ∀ (k i:Nat) (s:ai),its.size-i=k->i<=its.size->s.heap.IsListIter I l i->s.heap.IsList l its->s.heap.DictOf (cN prog w) D (merged [] ((T.map fun e=>((au e.1:Key),e.2)).take i)) ->
 (∀ j (hj:j<its.size) kv,T[j]?=some kv->tT s.heap its[j] kv) ->
 (∀ s',(∀ b o,b≠I->b≠D->s.heap.get? b=some o->s'.heap.get? b=some o)->s'.heap.DictOf (cN prog w) D (merged [] (T.map fun e=>((au e.1:Key),e.2)))->s'.gens=s.gens->s'.drawn=s.drawn->s'.os=s.os->R (.ok (.ret .none)) s') ->
 lN (bg prog w) A (.builtin "dict.update.loop" ⟨[.ref D,.ref I,iT i,.none],[]⟩) R s:=by
 have W:=qb (prog:=prog) (w:=w) (A:=A.in1) hh I l hIl its
 intro k
 induction k with
 | zero =>
   intro i s hk hi hit hl hd hp hR
   have hin:i=its.size:=by lia
   subst hin
   refine dr lH ?_
   rw [cP ip _]
   show aM _ A.in1 (kD (.ref I)>>=_) _ _ s
   refine aa (W.done s _ _ ⟨hit,hl⟩ fun h' tk hm=>?_)
   show aM _ _ (Builtin.Dict.addKeywords D []>>=_) _ _ _
   refine aa (al (al (hR _ (fun b o hb _ e=>hm b o (by simpa using hb) e) ?_ rfl rfl rfl)))
   rw [eK (by rw [ab];lia)] at hd
   exact hd.extBut (fun b o hb e=>hm b o (by simpa using hb) e) hDI
 | succ k ih =>
   intro i s hk hi hit hl hd hp hR
   have hlt:i<its.size:=by lia
   refine dr lH ?_
   rw [cP ip _]
   show aM _ A.in1 (kD (.ref I)>>=_) _ _ s
   refine aa (W.item i s _ _ hlt ⟨hit,hl⟩ fun v h' tk hP hst hm=>?_)
   have hm':∀ b o,b≠I->s.heap.get? b=some o->h'.get? b=some o:=fun b o hb e=>hm b o (by simpa using hb) e
   have hiT:i<T.length:=by lia
   have ev:v=its[i]:=by rw [gF hlt] at hP;exact (bU hP).symm
   obtain ⟨t,o,m,tk1,ex,ho,hc,hdt⟩:=hp i hlt T[i] (aj hiT)
   have hitObj:∃ oI,s.heap.get? I=some oI/\oI.cls=.type "list_iterator":=let ⟨oI,e,c,_⟩:=hit;⟨oI,e,c⟩
   have htI:t≠I:=fun z=>by
    obtain ⟨oI,e1,c1⟩:=hitObj
    rw [<- z,ho] at e1
    cases e1
    rw [hc] at c1
    injection c1 with z2
    exact absurd z2 (by decide)
   have ho':=hm' t o htI ho
   rw [ev,ex]
   refine aa (dm ?_)
   refine aa (iJ ?_)
   unfold Builtin.Dict.pairItems
   refine aa (iG (T:="tuple") ⟨o,ho',hc⟩ ?_)
   rw [if_pos (by decide)]
   refine aa ?_
   unfold rC
   refine aa (oH ho' ?_)
   rw [hdt]
   refine al (al ?_)
   show aM _ _ (va [eZ T[i].1 tk1,T[i].2] (dictSet D (.int T[i].1 tk1) T[i].2)) _ _ _
   have hd':h'.DictOf (cN prog w) D (merged [] ((T.map fun e=>((au e.1:Key),e.2)).take i)):=hd.extBut (fun b o hb e=>hm' b o hb e) hDI
   have hlen:(merged [] ((T.map fun e=>((au e.1:Key),e.2)).take i)).length<=aK:=by
    have h1:=merged_length_le [] ((T.map fun e=>((au e.1:Key),e.2)).take i)
    rw [gC,ab,dg] at h1
    rw [bG]
    lia
   refine dm (wpAny_dictSet_pairs (s:={ s with heap:=h',toks:=tk }) (knd:=cN prog w) (k:=au T[i].1) (hsz:=hlen) (uq ⟨_,rfl⟩) hd' fun h'' hd'' hs=>?_)
   have hst2:h''.IsListIter I l (i+1):=let ⟨oI,e1,r1⟩:=hst.1;⟨oI,(hs.2 I (Ne.symm hDI)).trans e1,r1⟩
   have hst3:h''.IsList l its:=let ⟨oI,e1,r1⟩:=hst.2;⟨oI,(hs.2 l (Ne.symm hDl)).trans e1,r1⟩
   have hdObj:∃ oD,s.heap.get? D=some oD/\oD.cls=.type "dict":=let ⟨oD,_,_,e1,c1,_⟩:=hd;⟨oD,e1,c1.1⟩
   have hk2:∀ b o,b≠I->b≠D->s.heap.get? b=some o->h''.get? b=some o:=fun b o h1 h2 e=>(hs.2 b h2).trans (hm' b o h1 e)
   refine al ⟨eW ip _,?_⟩
   have:=ih (i+1) { s with heap:=h'',toks:=tk+1 } (by lia) hlt hst2 hst3 ?_ (fun j hj kv hkv=>?_) fun s' k' d' g1 g2 g3=>hR s' (fun b o h1 h2 e=>k' b o h1 h2 (hk2 b o h1 h2 e)) d' g1 g2 g3
   ·exact this
   ·rw [merged_take_succ (kv:=((au T[i].1:Key),T[i].2)) _ _ _ (by rw [aA,aj hiT];rfl)]
    exact hd''
   ·refine (hp j hj kv hkv).keep fun b o e hc'=>hk2 b o (fun z=>?_) (fun z=>?_) e
    ·obtain ⟨oI,e1,c1⟩:=hitObj
     rw [<- z,e] at e1
     cases e1
     rw [hc' _ rfl] at c1
     injection c1 with z2
     exact absurd z2 (by decide)
    ·obtain ⟨oI,e1,c1⟩:=hdObj
     rw [<- z,e] at e1
     cases e1
     rw [hc' _ rfl] at c1
     injection c1 with z2
     exact absurd z2 (by decide)
theorem sW {l:ak} {its:Array ae} {n:Nat} {T:List (Int×ae)} {Q:ae->ai->Prop} (hh:A.handled=none) (hl:s.heap.get? l=some { cls:=.type "list",data:=.seq its n }) (hT:T.length=its.size) (hn:T.length<=1000) (nd:(T.map (·.1)).Nodup)
 (hp:∀ j (hj:j<its.size) kv,T[j]?=some kv->tT s.heap its[j] kv)
 (h:∀ h' tk,(∀ b o,s.heap.get? b=some o->h'.get? b=some o)->h'.DictOf (cN prog w) s.heap.objs.size (T.map fun e=>((au e.1:Key),e.2))->Q (.ref s.heap.objs.size) { s with heap:=h',toks:=tk }) :
 aM (bg prog w) A (call (.type "dict") [.ref l]) Q E s:=by
 refine callType_codes (Q₁:=fun obj s₁=>obj=.ref s.heap.objs.size/\s₁={ s with heap:=s.heap.push { cls:=.type "dict",data:=.dict #[] } }) PySem.F.kt_called_dict (PySem.F.kt_typeCall_dict_1 _) PySem.F.entry_dict_init (kt_code_dict_new _ ⟨rfl,rfl⟩) ?_
 rintro obj s₁ ⟨rfl,rfl⟩
 have hnew:(s.heap.push { cls:=.type "dict",data:=.dict #[] }).DictOf (cN prog w) s.heap.objs.size []:=ve s.heap
 have hl':(s.heap.push { cls:=.type "dict",data:=.dict #[] }).get? l=some { cls:=.type "list",data:=.seq its n }:=ag _ hl
 have hDl:s.heap.objs.size≠l:=fun e=>absurd (aH hl) (by rw [e];exact cq _)
 refine ⟨hnew.typeIs,PySem.F.args_dict_init_2 _ _,?_⟩
 unfold Builtin.«dict.__init__»
 refine aa ?_
 unfold Builtin.Dict.selfAndRest
 refine aa (B7 hnew.typeIs ?_)
 show aM _ _ (pure (s.heap.objs.size,[bN l])) _ _ _
 refine al ?_
 show aM _ _ (ol "dict.__init__" s.heap.objs.size (.ref l) [] .none) _ _ _
 unfold ol
 refine aa (iG (T:="list") ⟨_,hl',rfl⟩ ?_)
 rw [if_pos (by decide)]
 refine aa (Ak hl' hh fun h1 tk1 k1=>?_)
 rw [if_pos (show (none:Option ae).isNone=true from rfl)]
 refine aa (vp ?_)
 have hl1:h1.IsList l its:=⟨_,k1 _ _ hl',rfl,n,rfl⟩
 refine aa (ky (s:={ s with heap:=h1,toks:=tk1 }) hl1 ?_)
 have hD1:h1.DictOf (cN prog w) s.heap.objs.size []:=hnew.keep k1
 have hDlt:s.heap.objs.size<h1.objs.size:=let ⟨o,_,_,e,_⟩:=hD1;aH e
 refine al ⟨eW ip _,?_⟩
 have hnd:((T.map fun e=>((au e.1:Key),e.2)).map (·.1)).Nodup:=by
  rw [aC]
  have:(T.map ((·.1)∘fun e:Int×ae=>((au e.1:Key),e.2)))=(T.map (·.1)).map (au:Int->Key):=by rw [aC];rfl
  rw [this]
  exact bz.mpr (nd.imp fun {a b} z y=>z (dh y))
 have hll:l<h1.objs.size:=let ⟨o,e,_⟩:=hl1;aH e
 refine Dk (prog:=prog) (w:=w) (A:=A.in1) (D:=s.heap.objs.size) (I:=h1.objs.size) (l:=l) (its:=its) (T:=T) hh (bu hll) (bu hDlt) hDl hT hn its.size 0 { s with heap:=h1.push { cls:=.type "list_iterator",data:=.fields #[.ref l,.int 0 0] },toks:=tk1 } (by lia) (bV _) ⟨_,aJ _ rfl,rfl,rfl⟩ (hl1.at fun o e=>ag _ e) (by rw [List.take_zero];exact hD1.push _) (fun j hj kv hkv=>(hp j hj kv hkv).keep fun b o e _=>ag _ (k1 b o (ag _ e))) fun s' k' d' g1 g2 g3=>?_
 rw [merged_nil_of_nodup _ hnd] at d'
 refine ⟨rfl,?_⟩
 obtain ⟨hp',gg,dd,tt,oo⟩:=s'
 cases g1
 cases g2
 cases g3
 refine h hp' tt (fun b o e=>k' b o ?_ ?_ (ag _ (k1 b o (ag _ e)))) d'
 ·exact bu (Nat.lt_trans (aH e) hDlt)
 ·exact bu (aH e)
end
section
variable {X:Cx} {e:aS} {p pos:ft} {f:Rho->Option Rv}
theorem uc (hc:X.calm=true):kY X (.type "dict") (fun xs H Q=>∃ (a:ak) (T:List (Int×Int)) (ts:List ak),xs=[.ref a]/\H a=some (.lst (ts.map V.ref))/\ts.length=T.length/\(∀ (j:Nat) (t:ak) (p:Int×Int),ts[j]?=some t->T[j]?=some p->H t=some (.tup [.int p.1,.int p.2]))/\T.length<=1000/\(T.map (·.1)).Nodup /\
 ∀ D,H D=none->Q (.ref D) (upd H D (.dK (T.map fun e=>((au e.1:Key),V.int e.2))))):=by
 intro pins s σ H xs us Q I r h
 obtain ⟨a,T,ts,rfl,ha,hlt,htup,h1000,nd,q⟩:=h
 obtain ⟨u,rfl,rx⟩:=lC r
 cases rx
 obtain ⟨z,its,n,rv,e⟩:=I.hok a _ ha
 have hli:its.length=ts.length:=by rw [<- rv.length,ab]
 have at':∀ j (hj:j<ts.length),∃ (o:dz) (m:Nat) (tk tk2:zc),its.toArray[j]?=some (.ref ts[j])/\s.heap.get? ts[j]=some o/\o.cls=.type "tuple"/\o.data=.seq #[.int (T[j]'(by lia)).1 tk,.int (T[j]'(by lia)).2 tk2] m:=fun j hj=>by
  obtain ⟨u,hu,ru⟩:=rv.get (i:=j) (x:=.ref ts[j]) (by rw [aA,aj hj];rfl)
  cases (show u=bN ts[j] from ru)
  obtain ⟨_,its2,rv2,o,ho,hcl,m,hd⟩:=I.hok ts[j] _ (htup j ts[j] (T[j]'(by lia)) (aj hj) (aj (by lia)))
  obtain ⟨u1,u2,rfl,⟨tk,e1⟩,⟨tk2,e2⟩⟩:=eG.two rv2
  subst e1 e2
  exact ⟨o,m,tk,tk2,by simpa using hu,ho,hcl,hd⟩
 obtain ⟨vs,hvl,hvs⟩:∃ vs:List (Int×ae),vs.length=T.length/\∀ j (hj:j<T.length),∃ tk2,vs[j]?=some (T[j].1,.int T[j].2 tk2)/\∃ (o:dz) (m:Nat) (tk:zc),its.toArray[j]?=some (.ref (ts[j]'(by lia)))/\s.heap.get? (ts[j]'(by lia))=some o/\o.cls=.type "tuple"/\o.data=.seq #[.int T[j].1 tk,.int T[j].2 tk2] m:=by
  have g:∀ j:Fin T.length,∃ tk2:zc,∃ (o:dz) (m:Nat) (tk:zc),its.toArray[j.1]?=some (.ref (ts[j.1]'(by lia)))/\s.heap.get? (ts[j.1]'(by lia))=some o/\o.cls=.type "tuple"/\o.data=.seq #[.int T[j.1].1 tk,.int T[j.1].2 tk2] m:=fun j=>by
   obtain ⟨o,m,tk,tk2,h1,h2,h3,h4⟩:=at' j.1 (by lia)
   exact ⟨tk2,o,m,tk,h1,h2,h3,h4⟩
  refine ⟨List.ofFn fun j:Fin T.length=>(T[j.1].1,eZ T[j.1].2 (eD (g j))),by simp,fun j hj=>⟨eD (g ⟨j,hj⟩),by simp [hj],hZ (g ⟨j,hj⟩)⟩⟩
 have hfst:vs.map (·.1)=T.map (·.1):=by
  apply nG
  intro j
  by_cases hj:j<T.length
  ·obtain ⟨tk2,h1,_⟩:=hvs j hj
   rw [aA,h1,aA,aj hj]
   rfl
  ·rw [fP (by rw [ab];lia),fP (by rw [ab];lia)]
 refine sW (T:=vs) (its:=its.toArray) (I.ok.hd hc) e (by rw [aB];lia) (by lia) (by rw [hfst];exact nd) (fun j hj kv hkv=>?_) fun h' tk kp dd=>?_
 ·rw [aB] at hj
  obtain ⟨tk2,h1,o,m,tk,h2,h3,h4,h5⟩:=hvs j (by lia)
  rw [h1] at hkv
  cases hkv
  have ei:its.toArray[j]=.ref (ts[j]'(by lia)):=by
   have:=h2
   rw [gF (by rw [aB];exact hj)] at this
   exact bU this
  exact ⟨_,o,m,tk,ei,h3,h4,h5⟩
 ·have rel:KV (T.map fun e=>((au e.1:Key),V.int e.2)) (vs.map fun e=>((au e.1:Key),e.2)):=by
   have go:∀ (T:List (Int×Int)) (vs:List (Int×ae)),vs.length=T.length->(∀ j (hj:j<T.length),∃ tk2,vs[j]?=some (T[j].1,.int T[j].2 tk2))->KV (T.map fun e=>((au e.1:Key),V.int e.2)) (vs.map fun e=>((au e.1:Key),e.2)):=fun T=>by
    induction T with
    | nil=>intro vs h1 _;cases vs with | nil=>exact .nil | cons _ _=>cases h1
    | cons x T ih =>
      intro vs h1 h2
      cases vs with
      | nil=>cases h1
      | cons y vs =>
        obtain ⟨tk2,e0⟩:=h2 0 (by simp)
        have e0:y=(x.1,.int x.2 tk2):=by simpa using e0
        subst e0
        exact .cons ⟨rfl,tk2,rfl⟩ (ih vs (by simpa using h1) fun j hj=>by
         obtain ⟨tk2,e⟩:=h2 (j+1) (by simpa using hj)
         exact ⟨tk2,by simpa using e⟩)
   exact go T vs hvl fun j hj=>by obtain ⟨tk2,h1,_⟩:=hvs j hj;exact ⟨tk2,h1⟩
  have hb:(s.heap.objs.size == dt)=false:=beq_eq_false_iff_ne.mpr (Ne.symm (bu I.big))
  have hz:(T.map fun e=>((au e.1:Key),V.int e.2)).length<=aK:=by rw [ab,bG];lia
  exact ⟨.ref s.heap.objs.size,_,I.laid (t':=tk) (o:=.dK (T.map fun e=>((au e.1:Key),V.int e.2))) kp (aw _) (Ae hz hb rel dd),rfl,q _ I.fresh⟩
noncomputable def ni (f:Rho->Option Rv):Rho->Option Rv:=fun ρ=>match f ρ with
 | some (.fr,.lst ds)=>(match dQ ds with
   | some T=>if (T.map (·.1)).Nodup/\T.length<=1000 then some (.fr,.dK (T.map fun e=>au e.1) (T.map fun e=>.int e.2)) else none
   | none=>none)
 | _=>none
theorem yg {K:ac} {G:Hp}:∀ {ds:List Da} {T:List (Int×Int)} {xs:List V},dQ ds=some T->cS K G ds xs->∃ ts:List ak,xs=ts.map V.ref/\ts.length=T.length/\∀ (j:Nat) (t:ak) (p:Int×Int),ts[j]?=some t->T[j]?=some p->G t=some (.tup [.int p.1,.int p.2]):=by
 intro ds
 fun_induction dQ ds with
 | case1=>intro T xs e d;cases e;cases (show xs=[] from d);exact ⟨[],rfl,rfl,by simp⟩
 | case2 a b r ih =>
   intro T xs e d
   obtain ⟨T0,eT,rfl⟩:=tw.mp e
   obtain ⟨x,rr,rfl,d1,d2⟩:=d
   obtain ⟨t,ys,rfl,gt,dy⟩:=d1
   obtain ⟨y1,r1,rfl,e1,dy⟩:=dy
   obtain ⟨y2,r2,rfl,e2,e3⟩:=dy
   cases (show r2=[] from e3)
   cases (show y1=.int a from e1)
   cases (show y2=.int b from e2)
   obtain ⟨ts,h1,h2,h3⟩:=ih eT d2
   refine ⟨t::ts,by rw [h1];rfl,by simp [h2],fun j u p hj hp=>?_⟩
   cases j with
   | zero=>simp at hj hp;subst hj hp;exact gt
   | succ j=>exact h3 j u p (by simpa using hj) (by simpa using hp)
 | case3=>intro T xs e;cases e
theorem zr (hc:X.calm=true) (hg:Gl X "dict") (hm:X.mg "dict" = none) (ha:PX X e f) (he:am [e] X.env=[(false,b9 e X.env)]:=by exact bR rfl):PX X (.Call (.Name "dict" p) [e] [] pos) (ni f) :=
 PE.imp (mC (uc hc) hg hm (by decide +kernel) (fX ha kW he) (by decide) (by decide) he rfl) fun σ H Q ⟨B,G,ρ,r,sg,sb,st,eq,k⟩=>by
  unfold ni at eq
  split at eq
  ·rename_i ds ef
   split at eq
   ·rename_i T eT
    split at eq
    ·rename_i hT
     cases eq
     refine ⟨B,G,ρ,_,sg,sb,st,ef,fun v G1 H1 E1 r1=>?_⟩
     obtain ⟨l,o,rfl,n1,g1,q1,xs,rfl,dl⟩:=r1
     obtain ⟨ts,rfl,hl,ht⟩:=yg eT dl
     refine ⟨l,T,ts,rfl,q1,hl,fun j t p h1 h2=>E1.gh _ _ (ht j t p h1 h2),hT.2,hT.1,fun D hD=>?_⟩
     refine k _ G1 _ (E1.trans (Ext.own E1.gh hD)) ⟨D,_,rfl,E1.hh.free hD,E1.gh.free hD,aV,_,rfl,by rw [aC];rfl,?_⟩
     have:((T.map fun e=>((au e.1:Key),V.int e.2)).map (·.2))=(T.map (·.2)).map V.int:=by rw [aC,aC];rfl
     rw [this]
     have e2:(T.map fun e=>Da.int e.2)=(T.map (·.2)).map Da.int:=by rw [aC];rfl
     rw [e2]
     exact cS.ints.mpr rfl
    ·cases eq
   ·cases eq
  ·cases eq
end
open AutoSeq1 (wpAny_loadPart') in
section
variable {prog:bC} {w:cf} {A:bL} {R:zd->ai->Prop} {I:ak} {fp wr:List ak} {n:Nat} {P:Nat->ae->Prop} {St:Nat->cy->Prop}
theorem BC (W:Walks prog w A.in1 I fp wr n P St) (bt:Nat->Nat->Bool) (hcmp:CmpOf prog w A.in1 .Gt P bt) (S:ak) (hSf:S∉fp) (d:ae) :
 ∀ (k j:Nat) (s:ai) (its:Array ae) (c:Nat),n-j=k->j<=n->St j s.heap->s.heap.get? S=some (bZ "list" its c)->(j=0/\its = #[]\/∃ vb i,j=i+1/\its = #[vb,vb]/\P (nH bt i) vb) ->
 (∀ v h' tk,(n=0/\v=d\/∃ i,n=i+1/\P (nH bt i) v)->(∀ b o,b∉wr->b≠S->s.heap.get? b=some o->h'.get? b=some o)->R (.ok (.ret v)) { s with heap:=h',toks:=tk }) ->
 lN (bg prog w) A (.builtin "max.loop" ⟨[.ref I,.none,.ref S],[(cL "default",d)]⟩) R s:=by
 have hSw:S∉wr:=fun h=>hSf (W.sub _ h)
 have hname:(toString "max"++toString ".loop" : String) = "max.loop":=by decide
 intro k
 induction k with
 | zero =>
   intro j s its c hk hj hst hS hI hR
   have hin:j=n:=by lia
   subst hin
   refine dr rD ?_
   rw [cP eE _]
   rcases hI with ⟨rfl,rfl⟩ | ⟨vb,i,rfl,rfl,hP⟩
   ·show aM _ A.in1 (rC (.ref S)>>=_) _ _ s
    refine aa (mZ hS rfl ?_)
    show aM _ A.in1 (tryCatch (kD (.ref I)) _>>=_) _ _ s
    refine aa (iJ (W.done s _ _ hst fun h' tk hk'=>?_))
    refine aa (vp (al ?_))
    exact hR d _ tk (.inl ⟨rfl,rfl⟩) fun b o hbw hbS e=>hk' b o hbw e
   ·show aM _ A.in1 (rC (.ref S)>>=_) _ _ s
    refine aa (mZ hS rfl ?_)
    show aM _ A.in1 (tryCatch (kD (.ref I)) _>>=_) _ _ s
    refine aa (iJ (W.done s _ _ hst fun h' tk hk'=>?_))
    have hS':=hk' S _ hSw hS
    show aM _ A.in1 (updateSeq S (fun _=>#[])>>=_) _ _ _
    refine aa ?_
    refine tK hS' rfl (aa (mY (al ?_)))
    exact hR vb _ tk (.inr ⟨i,rfl,hP⟩) fun b o hbw hbS e=>(cV _ _ (Ne.symm hbS)).trans (hk' b o hbw e)
 | succ k ih =>
   intro j s its c hk hj hst hS hI hR
   have hlt:j<n:=by lia
   refine dr rD ?_
   rw [cP eE _]
   rcases hI with ⟨rfl,rfl⟩ | ⟨vb,i,rfl,rfl,hPb⟩
   ·show aM _ A.in1 (rC (.ref S)>>=_) _ _ s
    refine aa (mZ hS rfl ?_)
    show aM _ A.in1 (tryCatch (kD (.ref I)) _>>=_) _ _ s
    refine aa (iJ (W.item 0 s _ _ hlt hst fun v h' tk hP hst' hk'=>?_))
    have hS':=hk' S _ hSw hS
    show aM _ A.in1 (updateSeq S (fun _=>#[v,v])>>=_) _ _ _
    refine aa ?_
    refine tK hS' rfl ?_
    rw [hname]
    refine al ⟨eW eE _,ih 1 _ _ _ (by lia) hlt (W.frame _ _ _ hst' fun b hbf o e=>?_) (lc _ hS' rfl) (.inr ⟨v,0,rfl,rfl,hP⟩) fun v' h'' tk'' hP' hk''=>?_⟩
    ·exact (cV _ _ (fun h:S=b=>hSf (by rw [h];exact hbf))).trans e
    ·exact hR v' h'' tk'' hP' fun b o hbw hbS e=>hk'' b o hbw hbS ((cV _ _ (Ne.symm hbS)).trans (hk' b o hbw e))
   ·show aM _ A.in1 (rC (.ref S)>>=_) _ _ s
    refine aa (mZ hS rfl ?_)
    show aM _ A.in1 (tryCatch (kD (.ref I)) _>>=_) _ _ s
    refine aa (iJ (W.item (i+1) s _ _ hlt hst fun v h' tk hP hst' hk'=>?_))
    have hS':=hk' S _ hSw hS
    show aM _ A.in1 (tryCatch (va [v,v] (richCompare .Gt v vb>>=_)) _>>=_) _ _ _
    refine aa (iJ (dm (aa (hcmp (i+1) (nH bt i) v vb _ _ _ hP hPb ?_))))
    refine aa (dm (dF ?_))
    refine aa (mY (al ?_))
    cases hb:bt (i+1) (nH bt i) with
    | true =>
      simp only [if_true]
      refine aa ?_
      refine tK hS' rfl (aa (mY ?_))
      rw [hname]
      refine al ⟨eW eE _,ih (i+2) _ _ _ (by lia) hlt (W.frame _ _ _ hst' fun b hbf o e=>?_) (lc _ hS' rfl) (.inr ⟨v,i+1,rfl,rfl,by simp only [nH,hb,if_true];exact hP⟩)
       fun v' h'' tk'' hP' hk''=>?_⟩
      ·exact (cV _ _ (fun h:S=b=>hSf (by rw [h];exact hbf))).trans e
      ·exact hR v' h'' tk'' hP' fun b o hbw hbS e=>hk'' b o hbw hbS ((cV _ _ (Ne.symm hbS)).trans (hk' b o hbw e))
    | false =>
      simp only [eO,if_false]
      refine aa (mY ?_)
      rw [hname]
      refine al ⟨eW eE _,ih (i+2) _ _ c (by lia) hlt hst' hS' (.inr ⟨vb,i+1,rfl,rfl,by simp only [nH,hb,eO,if_false];exact hPb⟩) fun v' h'' tk'' hP' hk''=>?_⟩
      exact hR v' h'' tk'' hP' fun b o hbw hbS e=>hk'' b o hbw hbS (hk' b o hbw e)
end
theorem zM (a v:ae):argsOk "max" ⟨[a],[(cL "default",v)]⟩:=by unfold argsOk;kernel_rfl
section
variable {prog:bC} {w:cf} {A:bL} {E:ae->ai->Prop} {s:ai} {l:ak} {xs:Array (Int×zc)}
theorem uX {d:ae} {Q:ae->ai->Prop} (hh:A.handled=none) (hl:s.heap.IsList l (mW xs))
 (h:∀ v h' tk,(xs.size=0/\v=d\/0<xs.size/\(mW xs)[nH (fun i j=>decide (yY xs i > yY xs j)) (xs.size-1)]?=some v)->(∀ b o,s.heap.get? b=some o->h'.get? b=some o)->Q v { s with heap:=h',toks:=tk }) :
 aM (bg prog w) A (call (.builtin "max") [.ref l] [(cL "default",d)]) Q E s:=by
 have hname:(toString "max"++toString ".loop" : String) = "max.loop":=by decide
 refine wpAny_call (codeAny_call_builtin PySem.F.plain_max PySem.F.entry_max ?_)
 have body:aM (bg prog w) A.in1 (Builtin.«max» ⟨[.ref l],[(cL "default",d)]⟩) (fun fin s'=>match fin with
  | .done f=>(match (Except.ok f:zd) with | .ok (.ret v)=>Q v s' | .ok _=>False | .error e=>E e s')
  | .again c'=>c'.quiet=true/\lN (bg prog w) A c' (fun r s'=>match r with | .ok (.ret v)=>Q v s' | .ok _=>False | .error e=>E e s') s') (fun e s'=>E e s') s:=by
  show aM _ A.in1 (lA "max" ["key","default"] 0 ⟨[],[(cL "default",d)]⟩>>=_) _ _ s
  refine aa (Cv (show lA "max" ["key","default"] 0 ⟨[],[(cL "default",d)]⟩=pure [none,some d] from rfl) ?_)
  refine aa (al ?_)
  refine aa (iter_intList hl fun s₂ e st hfp hlI=>?_)
  subst e
  refine aa (cQ ?_)
  rw [hname]
  have W:=qb (prog:=prog) (w:=w) (A:=A.in1) hh s.heap.objs.size l hlI (mW xs)
  refine al ⟨eW eE _,BC W _ (CmpOf.ints_gt (yY xs) (fun _ _=>intItems_at)) _ (fun hm=>cq _ (hfp _ hm)) d _ 0 _ #[] 0 rfl (bV _) (W.frame _ _ _ st fun b _ o e=>ag _ e) (aJ _ rfl) (.inl ⟨rfl,rfl⟩) fun v h' tk hP hk=>?_⟩
  refine h v h' tk ?_ (old_kept fun b o hbw e=>hk b o hbw (bu (aH e)) (ag _ e))
  have hsz:(mW xs).size=xs.size:=by simp [mW]
  rw [hsz] at hP
  rcases hP with z | ⟨i,hi,hP⟩
  ·exact .inl z
  ·exact .inr ⟨by lia,by rw [hi];exact hP⟩
 simp only [checkBuiltinCall,PySem.F.kind_max]
 cases hsig:Manifest.signature? "max" with
 | none=>exact al body
 | some sig =>
   have ha':Bind.checkArgs "max" sig ⟨[.ref l],[(cL "default",d)]⟩=pure ():=by simpa only [argsOk,hsig] using zM (.ref l) d
   simp only [ha']
   exact al body
end
theorem pG:∀ (r:List Int) (m:Int),m<=za m r/\(∀ x∈r,x<=za m r)/\(za m r=m\/za m r∈r)
 | [],m=>⟨Int.le_refl _,by simp,.inl rfl⟩
 | a::r,m=>by
   unfold za
   by_cases hm:m<a
   ·rw [if_pos hm]
    obtain ⟨h1,h2,h3⟩:=pG r a
    refine ⟨by lia,fun x hx=>?_,.inr ?_⟩
    ·rcases ao.mp hx with z | z
     ·subst z;exact h1
     ·exact h2 x z
    ·rcases h3 with z | z
     ·rw [z];exact ah
     ·exact af _ z
   ·rw [if_neg hm]
    obtain ⟨h1,h2,h3⟩:=pG r m
    refine ⟨h1,fun x hx=>?_,h3.imp id fun z=>af _ z⟩
    rcases ao.mp hx with z | z
    ·subst z;lia
    ·exact h2 x z
theorem Ab {a:Int} {r:List Int} {v:Int} (hm:v∈a::r) (hle:∀ x∈a::r,x<=v):za a r=v:=by
 obtain ⟨h1,h2,h3⟩:=pG r a
 have h4:za a r∈a::r:=h3.elim (fun z=>by rw [z];exact ah) fun z=>af _ z
 have h5:=hle _ h4
 rcases ao.mp hm with z | z
 ·subst z;lia
 ·have:=h2 v z;lia
noncomputable def uh (d:Int):List Int->Int
 | []=>d
 | a::r=>za a r
noncomputable def yI (f g:Rho->Option Rv):Rho->Option Rv:=fun ρ=>match f ρ,g ρ with
 | some (_,.lst ds),some (_,.int d)=>(match gK ds with
   | some ns=>some (.pu,.int (uh d ns))
   | none=>none)
 | _,_=>none
theorem FF {X:Cx} {e e2:aS} {p pos kpos:ft} {fe fd:Rho->Option Rv} (hc:X.calm=true) (hg:Gl X "max") (hm:X.mg "max" = none) (ha:PX X e fe) (hb:PX X e2 fd)
 (he:am [e] X.env=[(false,b9 e X.env)]:=by exact bR rfl):PX X (.Call (.Name "max" p) [e] [⟨some "default",e2,kpos⟩] pos) (yI fe fd):=by
 intro pins s σ H Q I ⟨B,G,ρ,r,sg,sb,st,eq,k⟩
 unfold yI at eq
 split at eq
 ·rename_i k1 ds k2 d e1 e2'
  split at eq
  ·rename_i ns en
   cases eq
   refine fR (nU (u:=.builtin "max") I hg hm (by decide +kernel) ?_)
   refine Cz (thn (fX ha kW he pos pins s σ H (fun vs H1=>∃ G1 v,vs=[v]/\Ext G H G1 H1/\h8 X.K B H G1 H1 (k1,.lst ds) v) I ⟨B,G,ρ,_,sg,sb,st,e1,fun v G1 H1 E1 r1=>⟨G1,v,rfl,E1,r1⟩⟩) fun us s1 ⟨vs,H1,I1,r1,G1,v,ev,E1,rv1⟩=>?_) (by rw [he];rfl) (by rw [he];rfl)
   subst ev
   obtain ⟨u,rfl,ru⟩:=lC r1
   show aM _ _ (evalAll ((do let v <- b9 e2 X.env;u9 pos;pure v)::[])) _ _ s1
   refine wpAny_evalAll_cons (aa (thn (hb pins s1 σ H1 (fun v2 H2=>∃ G2,Ext G1 H1 G2 H2/\v2=.int d) I1 ⟨B,G1,ρ,_,E1.gh,sb.trans E1.hh,st.ext E1,e2',fun v2 G2 H2 E2 r2=>⟨G2,E2,r2.int⟩⟩) fun u2 s2 ⟨v2,H2,I2,r2,G2,E2,ev2⟩=>aa (kF (al (wpAny_evalAll_nil ?_)))))
   subst ev2
   obtain ⟨t,rfl⟩:=r2
   show aM (bg X.prog X.w) X.A (call (.builtin "max") [u] [(cL "default",.int d t)]) (EP X pins σ Q) X.xe s2
   obtain ⟨pp,ys,rfl,q,dl⟩:=(rv1.ext E2).lst E2.gh
   cases ru
   have:=gO en
   subst this
   have:=cS.ints.mp dl
   subst this
   obtain ⟨its,rv,pl,hz⟩:=I2.list q
   have hi:=dM rv
   have hh:X.A.handled=none:=I2.ok.hd hc
   obtain ⟨xs,ex⟩:=hi.allInts.items
   have hns:ns=xs.toList.map (·.1):=by
    rw [<- nums_intItems,<- ex]
    exact (show numsOf its.toArray.toList=ns from hi.numsOf).symm
   have hlen:ns.length=xs.size:=by rw [hns,ab,bS]
   have hl':s2.heap.IsList pp (mW xs):=ex▸pl.isList
   refine uX hh hl' fun v h' tk hv hk=>?_
   have fin:∀ t',v=.int (uh d ns) t'->EP X pins σ Q v { s2 with heap:=h',toks:=tk }:=fun t' ev =>
    ⟨.int (uh d ns),H2,I2.kept (t':=tk) hk,⟨t',ev⟩,k _ G2 H2 (E1.trans E2) rfl⟩
   rcases hv with ⟨h0,rfl⟩ | ⟨h0,hv⟩
   ·have:ns=[]:=iM (by lia)
    exact fin t (by rw [this];rfl)
   ·obtain ⟨t',rfl⟩:=intItems_at hv
    refine fin t' ?_
    cases ns with
    | nil=>simp at hlen;lia
    | cons a r =>
      obtain ⟨h1,h2⟩:=argBest_gt (yY xs) (xs.size-1)
      have em:za a r=yY xs (nH (fun i j=>decide (yY xs i > yY xs j)) (xs.size-1)):=by
       refine Ab ?_ fun x hx=>?_
       ·rw [hns,numAt_eq];exact getD_mem (by rw [ab,bS];lia)
       ·rw [hns] at hx
        obtain ⟨j,hj,rfl⟩:=mem_getD hx
        rw [ab,bS] at hj
        rw [<- numAt_eq];exact h2 j (by lia)
      show eZ _ _=eZ (za a r) _
      rw [em]
  ·cases eq
 ·cases eq
noncomputable def Iti (a:ak) (o:dz) (kvs:List (Key×V)):It :=
 ⟨fun i H=>H a=some (.frz o (.dK kvs))/\i<kvs.length,fun i H x H'=>∃ l kv,x=.ref l/\H l=none/\kvs[i]?=some kv/\H'=upd H l (.tup [kV kv.1,kv.2]),fun i H=>H a=some (.frz o (.dK kvs))/\kvs.length=i⟩
noncomputable def pj (ks:List Key) (ds:List Da):List Da:=(ks.zip ds).map fun e=>.tup [jq e.1,e.2]
theorem DC {K:ac} {G:Hp} {a:ak} {o:dz} {kvs:List (Key×V)} {ds:List Da} (q:G a=some (.frz o (.dK kvs))) (h:cS K G ds (kvs.map (·.2))):HV K (Iti a o kvs) (pj (kvs.map (·.1)) ds) G:=by
 intro i G' H' s1 s2
 have q2:=(s1.trans s2) _ _ q
 have hl:=h.length
 rw [ab] at hl
 refine ⟨fun d e=>?_,fun hn=>⟨q2,by unfold pj at hn;rw [ab,p0,ab,<- hl,Nat.min_self] at hn;exact hn⟩⟩
 unfold pj at e
 rw [aA] at e
 cases z:((kvs.map (·.1)).zip ds)[i]? with
 | none=>rw [z] at e;cases e
 | some c =>
   rw [z] at e
   cases e
   obtain ⟨z1,z2⟩:=List.getElem?_zip_eq_some.mp z
   obtain ⟨x,hx,dx⟩:=h.get z2
   rw [aA] at z1 hx
   cases w:kvs[i]? with
   | none=>rw [w] at z1;cases z1
   | some kv =>
     rw [w] at z1 hx
     have e1:kv.1=c.1:=bU z1
     have e2:kv.2=x:=bU hx
     refine ⟨⟨q2,(aF.mp w).1⟩,fun y H'' u=>?_⟩
     obtain ⟨l,kv',rfl,hl',e',rfl⟩:=u
     rw [w] at e';cases e'
     refine ⟨_,Ext.new s2 hl',l,_,rfl,aV,cS.two ?_ ?_⟩
     ·rw [e1];exact uY _
     ·rw [e2];exact Den.mono (s1.trans (cA (s2.free hl'))) c.2 dx
theorem wV {α β:Type} {F:α->β->Prop}:∀ {l₁:List α} {l₂:List β} {i:Nat} {a:α},oF F l₁ l₂->l₁[i]?=some a->∃ b,l₂[i]?=some b/\F a b
 | _,_,i,a,.nil,e=>by simp at e
 | _,_,0,a,.cons h _,e=>by simp at e;subst e;exact ⟨_,rfl,h⟩
 | _,_,i+1,a,.cons _ r,e=>by simpa using wV r (by simpa using e)
theorem yG {P:bC} {w:cf} {K:ac} {elts:List aS} {x1:Nat} {pos:ft} (a it:ak) (o:dz) (kvs:List (Key×V)) (vs:List (Key×ae)) (ep:Nat) (es:Array lx) (hd:o.data=.dict es ep) (rel:KV kvs vs) :
 G7 P w K (.Tuple elts x1 pos) (Iti a o kvs) [it] it (fun i h=>∃ ok ov,IsItemIter h it a i vs.length ep ok ov) where
 mem:=by simp
 obj:=fun i h st b hb=>by
  have e:b=it:=by simpa using hb
  subst e
  obtain ⟨ok,ov,e⟩:=st
  exact ⟨_,e,fun v z=>by cases z⟩
 keep:=fun i h h' st k=>by
  obtain ⟨ok,ov,e⟩:=st
  exact ⟨ok,ov,k it (by simp) _ e⟩
 item:=by
  intro X hP hw hK hc i pins s σ H E I hf st hg
  subst hP hw hK
  obtain ⟨hq,hi⟩:=hg
  obtain ⟨ok,ov,st⟩:=st
  obtain ⟨ho,hm,vs',rel',dd⟩:=lr I hq
  have fi:=hf it (by simp)
  obtain ⟨kv,hkv⟩:∃ kv,kvs[i]?=some kv:=⟨kvs[i],by simp [hi]⟩
  obtain ⟨⟨k',x'⟩,hv,hk,ru⟩:=wV rel' hkv
  obtain ⟨o2,es2,ep2,e2,r2⟩:=dd
  rw [ho] at e2;cases e2
  have hep:ep2=ep:=by
   have:=r2.2.1
   rw [hd] at this;cases this;rfl
  subst hep
  have hlen:vs.length=vs'.length:=by rw [<- cj rel,<- cj rel']
  rw [hlen] at st
  have li:it<s.heap.objs.size:=aH st
  refine wpAny_pyNext_items_item (knd:=cN X.prog X.w) st ⟨o,es2,ho,r2⟩ hv fun key h' hkey ho' hT hsz hkp=>⟨_,rfl,wpAny_letOwnedTupleGo_items ho' fun h2 he2 hs2=>?_⟩
  have fr:=I.hok.fresh (aw s.heap.objs.size)
  dsimp only at hk ru
  subst hk
  have rk:gH (kV kv.1) key:=by
   rcases d8 (show rW kv.1 key=true from hkey) with ⟨z,t,e1,e2⟩ | ⟨z,t,e1,e2⟩
   ·rw [e1,e2];exact ⟨t,rfl⟩
   ·rw [e1,e2];exact ⟨t,rfl⟩
  have I1:Inv X pins σ (upd H s.heap.objs.size (.tup [kV kv.1,kv.2])) { s with heap:=s.heap.push { cls:=.type "tuple",data:=.seq #[key,x'] },toks:=s.toks } :=
   I.laid (t':=s.toks) (o:=.tup [kV kv.1,kv.2]) (fun b o e=>ag _ e) (aw _) ⟨⟨by rw [bG];simp,mH.new _ _⟩,[key,x'],.cons rk (.cons ru .nil),og _ _⟩
  have ne:upd H s.heap.objs.size (.tup [kV kv.1,kv.2]) it=H it:=bq (bu li)
  obtain ⟨f0,f1,f2,f3,f4,f5⟩:=fi
  have I2:=I1.turned (h':=h2) (t':=s.toks) (it:=it) (fun b o n1 eb=>by
   rcases Heap.get?_push_cases eb with ⟨rfl,rfl⟩ | q
   ·exact (hs2.2 _ n1).trans hT
   ·exact (hs2.2 _ n1).trans (hkp b o n1 q)) (by rw [ne];exact f0) f1 f3 f4 f5
  refine ⟨.ref s.heap.objs.size,_,I2,rfl,⟨_,kv,rfl,fr,hkv,rfl⟩,⟨_,_,by rw [hlen];exact he2⟩,fun b hb=>?_⟩
  have e:b=it:=by simpa using hb
  subst e
  rw [ne];exact f0
 done:=by
  intro X hP hw hK hc i pins s σ H E I hf st hg
  subst hP hw hK
  obtain ⟨hq,hi⟩:=hg
  obtain ⟨ok,ov,st⟩:=st
  obtain ⟨ho,hm,vs',rel',dd⟩:=lr I hq
  obtain ⟨f0,f1,f2,f3,f4,f5⟩:=hf it (by simp)
  obtain ⟨o2,es2,ep2,e2,r2⟩:=dd
  rw [ho] at e2;cases e2
  have hep:ep2=ep:=by
   have:=r2.2.1
   rw [hd] at this;cases this;rfl
  subst hep
  have hlen:vs.length=vs'.length:=by rw [<- cj rel,<- cj rel']
  rw [hlen] at st
  have hl:=cj rel'
  exact wpAny_pyNext_items_end (knd:=cN X.prog X.w) (I.ok.hd hc) st ⟨o,es2,ho,r2⟩ (fP (by lia)) fun h' eb=>⟨rfl,I.turned (t':=s.toks) (fun b o hb e=>eb b o hb e) f0 f1 f3 f4 f5⟩
 self:=fun _ _ _ _ _ st h=>by
  obtain ⟨ok,ov,st⟩:=st
  exact PySem.W.kcp_self st h
noncomputable def q5 (f:Rho->Option Rv):Rho->Option (List Da):=fun ρ=>match f ρ with
 | some (.pu,.dK ks ds)=>some (pj ks ds)
 | _=>none
section
variable {X:Cx} {o:aS} {elts:List aS} {x1:Nat} {apos cpos pt:ft} {f:Rho->Option Rv}
theorem zH (he:PX X o f) (hbase:gv o "items" X.env (b9 o X.env)=b9 o X.env:=by rfl) (hline:(apos.endLine == cpos.line)=true:=by rfl):PXI X (.Tuple elts x1 pt) (.Call (.Attribute o "items" apos) [] [] cpos) (q5 f):=by
 intro pins s σ H R I ⟨B,G,ρ,ds,sg,sb,st,eq,k⟩
 unfold q5 at eq
 split at eq
 ·rename_i ks vs q
  cases eq
  refine wpAny_Call_method0_late hbase hline (thn (he pins s σ H (fun v H1=>∃ G1,Ext G H G1 H1/\h8 X.K B H G1 H1 (.pu,.dK ks vs) v) I ⟨B,G,ρ,_,sg,sb,st,q,fun v G1 H1 E1 r1=>⟨G1,E1,r1⟩⟩) fun u s1 ⟨v,H1,I1,rv,G1,E1,r1⟩=>?_)
  obtain ⟨a,oo,kvs,rfl,q1,ek,d1⟩:=r1
  cases rv
  have q2:=E1.gh _ _ q1
  obtain ⟨t1,t2,_⟩:=Ey I1 (.inl ⟨kvs,.inr ⟨oo,q2⟩⟩)
  obtain ⟨ho,hm,vs',rel,dd⟩:=lr I1 q2
  refine ⟨"dict","dict.items",qv,qC,PySem.F.type_dict_items,t1,t2,kq rfl (PySem.evalArgs_none ?_)⟩
  refine ze qC t1 PySem.F.entry_dict_items (PySem.F.args_dict_items_1 _) (meets_dict_items (cN X.prog X.w) a hm) ⟨⟨vs',dd⟩,?_⟩
  obtain ⟨o2,es,ep,e2,r2⟩:=dd
  rw [ho] at e2;cases e2
  have hv:Heap.IsItemsView (s1.heap.push { cls:=.type "dict_items",data:=.fields #[.ref a] }) s1.heap.objs.size a:=⟨_,aJ _ rfl,rfl,rfl⟩
  refine wpAny_pyIter_items (knd:=cN X.prog X.w) hv ⟨oo,es,ag _ ho,r2⟩ ?_
  have I2:=I1.kept (t':=s1.toks) (h':=s1.heap.push { cls:=.type "dict_items",data:=.fields #[.ref a] }) fun b o e=>ag _ e
  generalize hh1:s1.heap.push { cls:=.type "dict_items",data:=.fields #[.ref a] }=h1 at I2
  refine ⟨h1.objs.size,[h1.objs.size],_,Iti a oo kvs,H1,rfl,I2.kept (t':=s1.toks) fun b o e=>ag _ e,yG a _ oo kvs vs' ep es r2.2.1 rel,⟨_,_,aJ _ rfl⟩,fun b hb=>?_,k _ G1 H1 E1 (by rw [<- ek];exact DC q1 d1)⟩
  have e:b=h1.objs.size:=by simpa using hb
  subst e
  exact I2.fpOk (aw _) (I2.hok.fresh (aw _))
 ·cases eq
end
open AutoSeq1 (wpAny_loadPart' idx_int) in
@[irreducible] noncomputable def QX (X:Cx) (e:aS) (f:Rho->Option Rv):Prop:=PX X e f
theorem QX.mk {X:Cx} {e:aS} {f:Rho->Option Rv} (h:PX X e f):QX X e f:=by unfold QX;exact h
theorem QX.out {X:Cx} {e:aS} {f:Rho->Option Rv} (h:QX X e f):PX X e f:=by unfold QX at h;exact h
@[irreducible] noncomputable def QXT (X:Cx) (e:aS) (f:Rho->Option Bool):Prop:=PXT X e f
theorem QXT.mk {X:Cx} {e:aS} {f:Rho->Option Bool} (h:PXT X e f):QXT X e f:=by unfold QXT;exact h
theorem QXT.out {X:Cx} {e:aS} {f:Rho->Option Bool} (h:QXT X e f):PXT X e f:=by unfold QXT at h;exact h
@[irreducible] noncomputable def QXW (X:Cx) (e:aS) (f:Rho->Option Bool):Prop:=PXW X e f
theorem QXW.mk {X:Cx} {e:aS} {f:Rho->Option Bool} (h:PXW X e f):QXW X e f:=by unfold QXW;exact h
theorem QXW.out {X:Cx} {e:aS} {f:Rho->Option Bool} (h:QXW X e f):PXW X e f:=by unfold QXW at h;exact h
@[irreducible] noncomputable def QXA (X:Cx) (es:List aS) (f:Rho->Option (List Rv)):Prop:=PXA X es f
theorem QXA.mk {X:Cx} {es:List aS} {f:Rho->Option (List Rv)} (h:PXA X es f):QXA X es f:=by unfold QXA;exact h
theorem QXA.out {X:Cx} {es:List aS} {f:Rho->Option (List Rv)} (h:QXA X es f):PXA X es f:=by unfold QXA at h;exact h
@[irreducible] noncomputable def QXS (X:Cx) (st:cX) (g:Rho->Res):Prop:=PXS X st g
theorem QXS.mk {X:Cx} {st:cX} {g:Rho->Res} (h:PXS X st g):QXS X st g:=by unfold QXS;exact h
theorem QXS.out {X:Cx} {st:cX} {g:Rho->Res} (h:QXS X st g):PXS X st g:=by unfold QXS at h;exact h
@[irreducible] noncomputable def qI (X:Cx) (st:List cX) (g:Rho->Res):Prop:=xK X st g
theorem qI.mk {X:Cx} {st:List cX} {g:Rho->Res} (h:xK X st g):qI X st g:=by unfold qI;exact h
theorem qI.out {X:Cx} {st:List cX} {g:Rho->Res} (h:qI X st g):xK X st g:=by unfold qI at h;exact h
@[irreducible] noncomputable def QXI (X:Cx) (tg iter:aS) (f:Rho->Option (List Da)):Prop:=PXI X tg iter f
theorem QXI.mk {X:Cx} {tg iter:aS} {f:Rho->Option (List Da)} (h:PXI X tg iter f):QXI X tg iter f:=by unfold QXI;exact h
theorem QXI.out {X:Cx} {tg iter:aS} {f:Rho->Option (List Da)} (h:QXI X tg iter f):PXI X tg iter f:=by unfold QXI at h;exact h
@[irreducible] noncomputable def QXG (X:Cx) (tg:aS) (t:Da->Rho->Option Rho):Prop:=PXG X tg t
theorem QXG.mk {X:Cx} {tg:aS} {t:Da->Rho->Option Rho} (h:PXG X tg t):QXG X tg t:=by unfold QXG;exact h
theorem QXG.out {X:Cx} {tg:aS} {t:Da->Rho->Option Rho} (h:QXG X tg t):PXG X tg t:=by unfold QXG at h;exact h
@[irreducible] noncomputable def zb (X:Cx) (ts:List aS) (t:List Da->Rho->Option Rho):Prop:=Gz X ts t
theorem zb.mk {X:Cx} {ts:List aS} {t:List Da->Rho->Option Rho} (h:Gz X ts t):zb X ts t:=by unfold zb;exact h
theorem zb.out {X:Cx} {ts:List aS} {t:List Da->Rho->Option Rho} (h:zb X ts t):Gz X ts t:=by unfold zb at h;exact h
@[irreducible] noncomputable def QXO (X:Cx) (e:Option aS) (f:Rho->Option (Option Int)):Prop:=PXO X e f
theorem QXO.mk {X:Cx} {e:Option aS} {f:Rho->Option (Option Int)} (h:PXO X e f):QXO X e f:=by unfold QXO;exact h
theorem QXO.out {X:Cx} {e:Option aS} {f:Rho->Option (Option Int)} (h:QXO X e f):PXO X e f:=by unfold QXO at h;exact h
@[irreducible] noncomputable def QTS (X:Cx) (ifs:List aS) (c:Rho->Option Bool):Prop:=PTS X ifs (tXT X.K c)
theorem QTS.mk {X:Cx} {ifs:List aS} {c:Rho->Option Bool} (h:PTS X ifs (tXT X.K c)):QTS X ifs c:=by unfold QTS;exact h
theorem QTS.out {X:Cx} {ifs:List aS} {c:Rho->Option Bool} (h:QTS X ifs c):PTS X ifs (tXT X.K c):=by unfold QTS at h;exact h
theorem gQ {X:Cx}:QTS X [] (fun _=>some true):=QTS.mk Fg
theorem sN {X:Cx} {c:aS} {t:Rho->Option Bool} (h:QXT X c t):QTS X [c] t:=QTS.mk (Hm h.out)
structure Hg (X:Cx) (scope:eI) (tg elt:aS) (ifs:List aS) (t:Da->Rho->Option Rho) (c:Rho->Option Bool) (f:Rho->Option Rv):Prop where
 tg:∀ s H fp,QXG (inC X scope s H fp) tg t
 ifs:∀ s H fp,QTS (inC X scope s H fp) ifs c
 elt:∀ s H fp,QX (inC X scope s H fp) elt f
theorem Hg.out {X:Cx} {scope:eI} {tg elt:aS} {ifs:List aS} {t:Da->Rho->Option Rho} {c:Rho->Option Bool} {f:Rho->Option Rv} (h:Hg X scope tg elt ifs t c f):Jm X scope tg elt ifs t c f:=⟨fun s H fp=>(h.tg s H fp).out,fun s H fp=>(h.ifs s H fp).out,fun s H fp=>(h.elt s H fp).out⟩
theorem aE (i:Nat) {x:bM} {pos:ft} (hN:X.N[i]?=some x:=by rfl) (hv:Vis X.env.scope x:=by first | exact dX rfl | exact d9 (dX rfl) | exact d9 (d9 rfl)) (hd:(x == ("__debug__" : bM))=false:=by decide)
 (hcd:(x == ("__classdict__" : bM))=false:=by decide):QX X (.Name x pos) (aT i):=QX.mk (ki (i:=i) (x:=x) (pos:=pos) (hN:=hN) (hv:=hv) (hd:=hd) (hcd:=hcd))
theorem cO {i j pos}:QX X (.Constant (.int i) j pos) (xC (.int i)):=QX.mk (tW (i:=i) (j:=j) (pos:=pos))
theorem t9 {b j pos}:QX X (.Constant (.bool b) j pos) (xC (.bl b)):=QX.mk (Lu (b:=b) (j:=j) (pos:=pos))
theorem km (ha:QX X a fa) (hb:QX X b fb):QX X (.BinOp a .Add b pos) (x2 n8 fa fb):=QX.mk (EY (ha:=ha.out) (hb:=hb.out))
theorem BL (ha:QX X a fa) (hb:QX X b fb):QX X (.BinOp a .Mult b pos) (x2 (oI uv (·*·)) fa fb):=QX.mk (Fb (ha:=ha.out) (hb:=hb.out))
theorem ED (ha:QX X a fa) (hb:QX X b fb):QX X (.BinOp a .Mod b pos) (x2 (oI (fun _ j=>decide (0<j)) (·%·)) fa fb):=QX.mk (JW (ha:=ha.out) (hb:=hb.out))
theorem cK {pos:ft} (hu:X.A.units+1<cr) (ha:QX X a fa) (hb:QX X b fb) (hs:rP b:=by intro _ _;rfl):QX X (.Subscript a b pos) (x2 oIt fa fb):=QX.mk (ww (pos:=pos) (hu:=hu) (ha:=ha.out) (hb:=hb.out) (hs:=hs))
theorem aP:QXA X [] ck:=QXA.mk (nj )
theorem aq {e:aS} {es:List aS} {f:Rho->Option Rv} {g:Rho->Option (List Rv)} (ha:QX X e f) (hr:QXA X es g) (hs:am (e::es) X.env=(false,b9 e X.env)::am es X.env:=by exact bR rfl):QXA X (e::es) (aL f g):=QXA.mk (jl (e:=e) (es:=es) (f:=f) (g:=g) (ha:=ha.out) (hr:=hr.out) (hs:=hs))
theorem i9 {es:List aS} {x1:Nat} {pos:ft} {g:Rho->Option (List Rv)} (h:QXA X es g):QX X (.Tuple es x1 pos) (mz g):=QX.mk (Jo (es:=es) (x1:=x1) (pos:=pos) (g:=g) (h:=h.out))
theorem t0 {es:List aS} {pos:ft} {g:Rho->Option (List Rv)} (h:QXA X es g):QX X (.List es pos) (DQ g):=QX.mk (ID (es:=es) (pos:=pos) (g:=g) (h:=h.out))
theorem lg {pos:ft}:QX X (.Dict [] [] pos) (xC2 (.fr,.dK [] [])):=QX.mk (xD (pos:=pos))
theorem Dq {pos:ft}:QX X (.Dict [] [] pos) (xC2 (.fr,.dT [] [])):=QX.mk (Dh (pos:=pos))
theorem LS {o:p6} {op:Rv->Rv->Option Rv} (h:CR2 X o op) (ha:QX X a fa) (hb:QX X b fb) (hm:eV o b=false:=by first | exact xn _ | with_unfolding_all rfl):QX X (.Compare a [o] [b] pos) (x2 op fa fb):=QX.mk (Mg (o:=o) (op:=op) (h:=h) (ha:=ha.out) (hb:=hb.out) (hm:=hm))
theorem lD {o:p6} {op:Rv->Rv->Option Rv} (h:CR2 X o op) (ha:QX X a fa) (hb:QX X b fb) (hm:eV o b=false:=by first | exact xn _ | with_unfolding_all rfl):QXT X (.Compare a [o] [b] pos) (tb (x2 op fa fb)):=QXT.mk (LL (o:=o) (op:=op) (h:=h) (ha:=ha.out) (hb:=hb.out) (hm:=hm))
theorem DE (ha:QXT X a ta):QXW X (.BoolOp .And [a] pos) ta:=QXW.mk (Dl (ha:=ha.out))
theorem FV (ha:QXT X a ta):QXW X (.BoolOp .Or [a] pos) ta:=QXW.mk (Gg (ha:=ha.out))
theorem HC (ha:QXT X a ta) (hb:QXW X (.BoolOp .And (b::rest1) pos) tc):QXW X (.BoolOp .And (a::b::rest1) pos) (yx ta tc):=QXW.mk (HH (ha:=ha.out) (hb:=hb.out))
theorem IJ (ha:QXT X a ta) (hb:QXW X (.BoolOp .Or (b::rest1) pos) tc):QXW X (.BoolOp .Or (a::b::rest1) pos) (HZ ta tc):=QXW.mk (Iz (ha:=ha.out) (hb:=hb.out))
theorem KC {e:aS} (h:QXW X e ta):QXT X e ta:=QXT.mk (LA (e:=e) (h:=h.out))
theorem Lg (hc:QXT X c ta) (ha:QX X a fa) (hb:QX X b fb):QX X (.IfExp c a b pos) (xIf ta fa fb):=QX.mk (K8 (hc:=hc.out) (ha:=ha.out) (hb:=hb.out))
theorem xL (ha:QX X a fa) (he:∀ whole,isTrue a X.env whole=(do let v <- whole;u9 a.pos;va [v] (truthy v)):=by intro _;rfl):QXT X a (tTr fa):=QXT.mk (IP (ha:=ha.out) (he:=he))
theorem jp:qI X [] m8:=qI.mk (Gy )
theorem bP (h1:QXS X st1 g) (h2:qI X rest1 h):qI X (st1::rest1) (iP g h):=qI.mk (CJ (h1:=h1.out) (h2:=h2.out))
theorem b7 (h1:QXS X st1 g):qI X [st1] g:=qI.mk (FI (h1:=h1.out))
theorem lI {c:aS} {a b:List cX} {t:Rho->Option Bool} (hc:QXT X c t) (ha:qI X a g) (hb:qI X b h):QXS X (.If c a b pos) (sIf t g h):=QXS.mk (Kv (c:=c) (a:=a) (b:=b) (t:=t) (hc:=hc.out) (ha:=ha.out) (hb:=hb.out))
theorem eN {i:Nat} {x:bM} (hN:X.N.Nodup) (he:QX X e f) (hi:X.N[i]?=some x:=by rfl) (hx:Loc X.env.scope x:=by first | exact dX rfl | exact d9 rfl) (hs:gT e (some (.Name x pos')) pos.line X.env=pure false:=by rfl)
 (hf:X.fn x=true\/X.env.scope.names.lookup x=some .local:=by first | exact .inl rfl | exact .inr rfl | assumption):QXS X (.Assign [.Name x pos'] e pos) (nv i f):=QXS.mk (FC (i:=i) (x:=x) (hN:=hN) (he:=he.out) (hi:=hi) (hx:=hx) (hs:=hs) (hf:=hf))
theorem lV {i:Nat} {x:bM} (hN:X.N.Nodup) (he:QX X e f) (hi:X.N[i]?=some x:=by rfl) (hx:Loc X.env.scope x:=by first | exact dX rfl | exact d9 rfl) (hs:gT e (some (.Name x pos')) pos.line X.env=pure false:=by rfl)
 (hf:X.fn x=true\/X.env.scope.names.lookup x=some .local:=by first | exact .inl rfl | exact .inr rfl | assumption):QXS X (.Assign [.Name x pos'] e pos) (AN i f):=QXS.mk (Hu (i:=i) (x:=x) (hN:=hN) (he:=he.out) (hi:=hi) (hx:=hx) (hs:=hs) (hf:=hf))
theorem HG (i:Nat) (h1:QXS X st1 g):QXS X st1 (fun ρ=>g (frz i ρ)):=QXS.mk (Gk (i:=i) (h1:=h1.out))
theorem nr {i:Nat} {x:bM} {p1 apos cpos:ft} (he:QX X e f) (hN:X.N[i]?=some x:=by rfl) (hv:Vis X.env.scope x:=by first | exact dX rfl | exact d9 (dX rfl) | exact d9 (d9 rfl)) (hd:(x == ("__debug__" : bM))=false:=by decide)
 (hcd:(x == ("__classdict__" : bM))=false:=by decide)
 (hs:gT (.Call (.Attribute (.Name x p1) "append" apos) [e] [] cpos) none pos.line X.env=pure false:=by rfl) (hbase:gv (.Name x p1) "append" X.env (b9 (.Name x p1) X.env)=b9 (.Name x p1) X.env:=by rfl)
 (hfew:((cz cpos (am [e] X.env)).all (fun x=>!x.1)&&(lw cpos (ik [] X.env)).all (fun x=>x.1.isSome)&&decide (([e]:List aS).length+([]:List jb).length+(if ([]:List jb).isEmpty then 0 else 1)<30))=true:=by rfl)
 (hline:(apos.endLine == cpos.line)=true:=by rfl) (hst:am [e] X.env=[(false,b9 e X.env)]:=by exact bR rfl) (hplain:(cz cpos (am [] X.env)).any (·.1)=false:=by rfl) :
 QXS X (.Expr (.Call (.Attribute (.Name x p1) "append" apos) [e] [] cpos) pos) (lT i f):=QXS.mk (yw (i:=i) (x:=x) (p1:=p1) (apos:=apos) (cpos:=cpos) (he:=he.out) (hN:=hN) (hv:=hv) (hd:=hd) (hcd:=hcd) (hs:=hs) (hbase:=hbase) (hfew:=hfew) (hline:=hline) (hst:=hst) (hplain:=hplain))
theorem fM {X:Cx} {e:aS} {f:Rho->Option Rv} (h:QX X e f):QX X e (ig f):=QX.mk (AQ (X:=X) (e:=e) (f:=f) (h:=h.out))
theorem cE {X:Cx} {e:aS} {f:Rho->Option Rv} {pos:ft} (he:QX X e f):QXS X (.Return (some e) pos) (fT f):=QXS.mk (C0 (X:=X) (e:=e) (f:=f) (pos:=pos) (he:=he.out))
theorem e9 (he:QX X e f):QXI X tg e (cB f):=QXI.mk (v7 (he:=he.out))
theorem gR {a:aS} {p:ft} {g:Rho->Option (List Rv)} (hg:Gl X "range") (hm:X.mg "range" = none) (ha:QXA X [a] g) (hs:am [a] X.env=[(false,b9 a X.env)]:=by exact bR rfl):QXI X tg (.Call (.Name "range" p) [a] [] pos) (nM g):=QXI.mk (nD (a:=a) (p:=p) (g:=g) (hg:=hg) (hm:=hm) (ha:=ha.out) (hs:=hs))
theorem yo {a b:aS} {p:ft} {g:Rho->Option (List Rv)} (hg:Gl X "range") (hm:X.mg "range" = none) (ha:QXA X [a,b] g) (hs:am [a,b] X.env=[(false,b9 a X.env),(false,b9 b X.env)]:=by rfl) (hs2:am [b] X.env=[(false,b9 b X.env)]:=by rfl) :
 QXI X tg (.Call (.Name "range" p) [a,b] [] pos) (Ib g):=QXI.mk (yr (a:=a) (b:=b) (p:=p) (g:=g) (hg:=hg) (hm:=hm) (ha:=ha.out) (hs:=hs) (hs2:=hs2))
theorem cn {i:Nat} {x:bM} (hN:X.N.Nodup) (hi:X.N[i]?=some x:=by rfl) (hx:Loc X.env.scope x:=by first | exact dX rfl | exact d9 rfl) (hf:X.fn x=true\/X.env.scope.names.lookup x=some .local:=by first | exact .inl rfl | exact .inr rfl | assumption):QXG X (.Name x pos) (tgN i):=QXG.mk (Ee (i:=i) (x:=x) (hN:=hN) (hi:=hi) (hx:=hx) (hf:=hf))
theorem ti:zb X [] mo:=zb.mk (FO )
theorem jk {e:aS} {es:List aS} {t:Da->Rho->Option Rho} {u:List Da->Rho->Option Rho} (h1:QXG X e t) (h2:zb X es u) (hs:(e7 (e::es) X.env).map (·.2)=assign e X.env::(e7 es X.env).map (·.2):=by rfl):zb X (e::es) (fW t u):=zb.mk (D8 (e:=e) (es:=es) (t:=t) (u:=u) (h1:=h1.out) (h2:=h2.out) (hs:=hs))
theorem sf {es:List aS} {k n:Nat} {t:List Da->Rho->Option Rho} (hc:X.calm=true) (h:zb X es t) (hn:(e7 es X.env).length=n:=by rfl) (hst:(e7 es X.env).findIdx? (·.1)=none:=by rfl):QXG X (.Tuple es k pos) (tgT n t):=QXG.mk (Fw (es:=es) (k:=k) (n:=n) (t:=t) (hc:=hc) (h:=h.out) (hn:=hn) (hst:=hst))
theorem iL {X:Cx} {tg iter:aS} {body:List cX} {f:Rho->Option (List Da)} {t:Da->Rho->Option Rho} {g:Rho->Res} {pos:ft} (hp:nE (bg X.prog X.w) X.A X.env X.xe) (hc:X.calm=true) (hi:QXI X tg iter f) (hg:QXG X tg t) (hb:qI X body g)
 (hs:∀ x,fz iter X.env x=pure x:=by intro _;rfl):QXS X (.For tg iter body [] pos) (qV f t g):=QXS.mk (GR (X:=X) (tg:=tg) (iter:=iter) (body:=body) (f:=f) (t:=t) (g:=g) (pos:=pos) (hp:=hp) (hc:=hc) (hi:=hi.out) (hg:=hg.out) (hb:=hb.out) (hs:=hs))
theorem pJ {X:Cx} {c:aS} {body:List cX} {t:Rho->Option Bool} {g:Rho->Res} {pos:ft} (n:Nat) (hp:nE (bg X.prog X.w) X.A X.env X.xe) (hc:QXT X c t) (hb:qI X body g):QXS X (.While c body [] pos) (jC t g n):=QXS.mk (Ba (X:=X) (c:=c) (body:=body) (t:=t) (g:=g) (pos:=pos) (n:=n) (hp:=hp) (hc:=hc.out) (hb:=hb.out))
theorem fD (hc:X.calm=true) (S:CScope X scope ix) (hi:QXI X tg iter fi) (B:Hg X scope tg elt ifs t c f) (hs:∀ x,fz iter X.env x=pure x:=by intro _;rfl):QX X (.ListComp elt [⟨tg,iter,ifs,0⟩] scope pos) (fO ix fi t c f):=QX.mk (GB (hc:=hc) (S:=S) (hi:=hi.out) (B:=B.out) (hs:=hs))
theorem qL (hg:Gl X "len") (hm:X.mg "len" = none) (ha:QXA X (e::es) g) (he:am (e::es) X.env=(false,b9 e X.env)::am es X.env:=by exact bR rfl) (hpl:(cz pos (am es X.env)).any (·.1)=false:=by rfl):QX X (.Call (.Name "len" p) (e::es) [] pos) (xB sI g):=QX.mk (Et (hg:=hg) (hm:=hm) (ha:=ha.out) (he:=he) (hpl:=hpl))
theorem g6 (hg:Gl X "tuple") (hm:X.mg "tuple" = none) (ha:QXA X (e::es) g) (he:am (e::es) X.env=(false,b9 e X.env)::am es X.env:=by exact bR rfl) (hpl:(cz pos (am es X.env)).any (·.1)=false:=by rfl):QX X (.Call (.Name "tuple" p) (e::es) [] pos) (xB hE g):=QX.mk (Dv (hg:=hg) (hm:=hm) (ha:=ha.out) (he:=he) (hpl:=hpl))
theorem vX (hg:Gl X "list") (hm:X.mg "list" = none) (ha:QXA X (e::es) g) (he:am (e::es) X.env=(false,b9 e X.env)::am es X.env:=by exact bR rfl) (hpl:(cz pos (am es X.env)).any (·.1)=false:=by rfl):QX X (.Call (.Name "list" p) (e::es) [] pos) (xB oZ g):=QX.mk (Fz (hg:=hg) (hm:=hm) (ha:=ha.out) (he:=he) (hpl:=hpl))
theorem nP (ha:QX X a fa):QX X (.UnaryOp .USub a pos) (pe fa):=QX.mk (J9 (ha:=ha.out))
theorem lP {apos:ft} {o:aS} {fo:Rho->Option Rv} (hu:X.A.units+1<cr) (ho:QX X o fo) (ha:QX X a fa) (hb:QX X b fb) (hbase:gv o "get" X.env (b9 o X.env)=b9 o X.env:=by rfl)
 (hfew:((cz pos (am [a,b] X.env)).all (fun x=>!x.1)&&(lw pos (ik [] X.env)).all (fun x=>x.1.isSome)&&decide (([a,b]:List aS).length+([]:List jb).length+(if ([]:List jb).isEmpty then 0 else 1)<30))=true:=by rfl)
 (hline:(apos.endLine == pos.line)=true:=by rfl) (htr:cz pos (am [a,b] X.env)=[(false,b9 a X.env),(false,b9 b X.env)]:=by rfl):QX X (.Call (.Attribute o "get" apos) [a,b] [] pos) (jE fo fa fb):=QX.mk (BD (apos:=apos) (o:=o) (fo:=fo) (hu:=hu) (ho:=ho.out) (ha:=ha.out) (hb:=hb.out) (hbase:=hbase) (hfew:=hfew) (hline:=hline) (htr:=htr))
theorem pg {i:Nat} {x:bM} {px:ft} (hu:X.A.units+64<cr) (hk:QX X a fa) (hv:QX X b fb) (hN:X.N[i]?=some x:=by rfl) (hvis:Vis X.env.scope x:=by first | exact dX rfl | exact d9 (dX rfl) | exact d9 (d9 rfl)) (hd:(x == ("__debug__" : bM))=false:=by decide)
 (hcd:(x == ("__classdict__" : bM))=false:=by decide) (hs:gT b (some (.Subscript (.Name x px) a pos')) pos.line X.env=pure false:=by rfl):QXS X (.Assign [.Subscript (.Name x px) a pos'] b pos) (CQ i fa fb):=QXS.mk (Hl (i:=i) (x:=x) (px:=px) (hu:=hu) (hk:=hk.out) (hv:=hv.out) (hN:=hN) (hvis:=hvis) (hd:=hd) (hcd:=hcd) (hs:=hs))
theorem bK {X:Cx} {k n:Nat} {ps:List bM} {fn:List Da->Option Da} {x:bM} {p pos:ft} {e:aS} {es:List aS} {g:Rho->Option (List Rv)} (C:Ca X.prog X.w X.K X.mg X.base x ps k n fn) (hr:jf k X.A) (hg:Gl X x) (ha:QXA X (e::es) g) (hlen:∀ ρ rs,g ρ=some rs->rs.length=n)
 (hdb:(x == ("__debug__" : bM))=false:=by decide) (he:am (e::es) X.env=(false,b9 e X.env)::am es X.env:=by exact bR rfl) (hpl:(cz pos (am es X.env)).any (·.1)=false:=by rfl):QX X (.Call (.Name x p) (e::es) [] pos) (cC fn g):=QX.mk (rQ (X:=X) (k:=k) (n:=n) (ps:=ps) (fn:=fn) (x:=x) (p:=p) (pos:=pos) (e:=e) (es:=es) (g:=g) (C:=C) (hr:=hr) (hg:=hg) (ha:=ha.out) (hlen:=hlen) (hdb:=hdb) (he:=he) (hpl:=hpl))
theorem Ky (hc:X.calm=true) (hg:Gl X "all") (hm:X.mg "all" = none) (ha:QXA X (e::es) g) (he:am (e::es) X.env=(false,b9 e X.env)::am es X.env:=by exact bR rfl) (hpl:(cz pos (am es X.env)).any (·.1)=false:=by rfl):QX X (.Call (.Name "all" p) (e::es) [] pos) (xB Fy g):=QX.mk (Io (hc:=hc) (hg:=hg) (hm:=hm) (ha:=ha.out) (he:=he) (hpl:=hpl))
theorem Kq (hc:X.calm=true) (hg:Gl X "any") (hm:X.mg "any" = none) (ha:QXA X (e::es) g) (he:am (e::es) X.env=(false,b9 e X.env)::am es X.env:=by exact bR rfl) (hpl:(cz pos (am es X.env)).any (·.1)=false:=by rfl):QX X (.Call (.Name "any" p) (e::es) [] pos) (xB Ge g):=QX.mk (IY (hc:=hc) (hg:=hg) (hm:=hm) (ha:=ha.out) (he:=he) (hpl:=hpl))
theorem rT:QXO X none pT:=QXO.mk (DU )
theorem sQ (ha:QX X a fa):QXO X (some a) (ot fa):=QXO.mk (Eh (ha:=ha.out))
theorem sZ {lo hi:Option aS} {fl fh:Rho->Option (Option Int)} (ha:QX X a fa) (hl:QXO X lo fl) (hh:QXO X hi fh):QX X (.Subscript a (.Slice lo hi none p2) pos) (kh fa fl fh):=QX.mk (DB (lo:=lo) (hi:=hi) (fl:=fl) (fh:=fh) (ha:=ha.out) (hl:=hl.out) (hh:=hh.out))
theorem jI (hc:X.calm=true) (hg:Gl X "sorted") (hm:X.mg "sorted" = none) (ha:QXA X (e::es) g) (he:am (e::es) X.env=(false,b9 e X.env)::am es X.env:=by exact bR rfl) (hpl:(cz pos (am es X.env)).any (·.1)=false:=by rfl):QX X (.Call (.Name "sorted" p) (e::es) [] pos) (xB eF g):=QX.mk (zE (hc:=hc) (hg:=hg) (hm:=hm) (ha:=ha.out) (he:=he) (hpl:=hpl))
theorem FS (hg:Gl X "len") (hm:X.mg "len" = none) (ha:QXA X (e::es) g) (he:am (e::es) X.env=(false,b9 e X.env)::am es X.env:=by exact bR rfl) (hpl:(cz pos (am es X.env)).any (·.1)=false:=by rfl):QX X (.Call (.Name "len" p) (e::es) [] pos) (xB yj g):=QX.mk (Gr (hg:=hg) (hm:=hm) (ha:=ha.out) (he:=he) (hpl:=hpl))
theorem EO (hc:X.calm=true) (hg:Gl X "sum") (hm:X.mg "sum" = none) (ha:QXA X (e::es) g) (he:am (e::es) X.env=(false,b9 e X.env)::am es X.env:=by exact bR rfl) (hpl:(cz pos (am es X.env)).any (·.1)=false:=by rfl):QX X (.Call (.Name "sum" p) (e::es) [] pos) (xB ER g):=QX.mk (Im (hc:=hc) (hg:=hg) (hm:=hm) (ha:=ha.out) (he:=he) (hpl:=hpl))
theorem DI (ha:QX X a fa) (hb:QX X b fb):QX X (.Dict [some a] [b] pos) (uj fa fb):=QX.mk (DN (ha:=ha.out) (hb:=hb.out))
theorem CM (i:Nat) {X:Cx} {e:aS} {f:Rho->Option Rv} (h:QX X e f):QX X e (mF i f):=QX.mk (xw (i:=i) (X:=X) (e:=e) (f:=f) (h:=h.out))
theorem HM (i:Nat) {X:Cx} {e:aS} {f:Rho->Option Rv} (h:QX X e f):QX X e (yE i f):=QX.mk (GL (i:=i) (X:=X) (e:=e) (f:=f) (h:=h.out))
theorem vZ (hg:Gl X "tuple") (hm:X.mg "tuple" = none) (hg2:Gl X "range") (hm2:X.mg "range" = none) (ha:QXA X [a] g) (hc:X.calm=true:=by rfl) (hs:am [a] X.env=[(false,b9 a X.env)]:=by exact bR rfl)
 (he:am [.Call (.Name "range" p2) [a] [] pos2] X.env=[(false,b9 (.Call (.Name "range" p2) [a] [] pos2) X.env)]:=by rfl):QX X (.Call (.Name "tuple" p) [.Call (.Name "range" p2) [a] [] pos2] [] pos) (jF g):=QX.mk (v5 (hg:=hg) (hm:=hm) (hg2:=hg2) (hm2:=hm2) (ha:=ha.out) (hc:=hc) (hs:=hs) (he:=he))
theorem BB (hu:X.A.units+1<cr) (ha:QX X a fa) (hb:QX X b fb):QX X (.Dict [some a] [b] pos) (pV fa fb):=QX.mk (BN (hu:=hu) (ha:=ha.out) (hb:=hb.out))
theorem AD (hc:X.calm=true) (hg:Gl X "dict") (hm:X.mg "dict" = none) (ha:QX X e f) (he:am [e] X.env=[(false,b9 e X.env)]:=by exact bR rfl):QX X (.Call (.Name "dict" p) [e] [] pos) (ni f):=QX.mk (zr (hc:=hc) (hg:=hg) (hm:=hm) (ha:=ha.out) (he:=he))
theorem Hr {X:Cx} {e e2:aS} {p pos kpos:ft} {fe fd:Rho->Option Rv} (hc:X.calm=true) (hg:Gl X "max") (hm:X.mg "max" = none) (ha:QX X e fe) (hb:QX X e2 fd)
 (he:am [e] X.env=[(false,b9 e X.env)]:=by exact bR rfl):QX X (.Call (.Name "max" p) [e] [⟨some "default",e2,kpos⟩] pos) (yI fe fd):=QX.mk (FF (X:=X) (e:=e) (e2:=e2) (p:=p) (pos:=pos) (kpos:=kpos) (fe:=fe) (fd:=fd) (hc:=hc) (hg:=hg) (hm:=hm) (ha:=ha.out) (hb:=hb.out) (he:=he))
theorem Bk (he:QX X o f) (hbase:gv o "items" X.env (b9 o X.env)=b9 o X.env:=by rfl) (hline:(apos.endLine == cpos.line)=true:=by rfl):QXI X (.Tuple elts x1 pt) (.Call (.Attribute o "items" apos) [] [] cpos) (q5 f):=QXI.mk (zH (he:=he.out) (hbase:=hbase) (hline:=hline))
section
variable {X:Cx} {a body:aS} {params:iU} {scope:eI} {p p2 pos pos2 kpos lpos:ft} {c P:ak} {ix:List (Option Nat)} {x:bM} {i0:Nat} {g:Rho->Option Rv} {ga:Rho->Option (List Rv)}
structure KP (X:Cx) (params:iU) (body:aS) (scope:eI) (ix:List (Option Nat)) (x:bM) (i0:Nat) (g:Rho->Option Rv):Prop where
 S:xc X scope ix x i0
 df:defaultsOf params X.env=([],[])
 bind:∀ (q:bM) (cl:List (bM×ak)) (pm cd ctv u:ae),jT (oP "<lambda>" q params body scope cl pm cd ctv) ⟨[u],[]⟩=pure [(x,u)]
 body:∀ (q:bM) (f c':ak) (s:ai) (H:Hp),QX (D6 X X.A.in1.in1 scope q f c' s H) body g
theorem KP.out (h:KP X params body scope ix x i0 g):CF X params body scope ix x i0 g:=⟨h.S,h.df,h.bind,fun q f c' s H=>(h.body q f c' s H).out⟩
theorem wu (hc:X.calm=true) (hr:jf 2 X.A) (hg:Gl X "sorted") (hm:X.mg "sorted" = none) (hg2:Gl X "range") (hm2:X.mg "range" = none) (M:Mkr X c P) (Lm:KP X params body scope ix x i0 g) (ha:QXA X [a] ga)
 (hs:am [a] X.env=[(false,b9 a X.env)]:=by exact bR rfl) (he:am [.Call (.Name "range" p2) [a] [] pos2] X.env=[(false,b9 (.Call (.Name "range" p2) [a] [] pos2) X.env)]:=by rfl) :
 QX X (.Call (.Name "sorted" p) [.Call (.Name "range" p2) [a] [] pos2] [⟨some "key",.Lambda params body scope lpos,kpos⟩] pos) (kJ ix i0 (nM ga) g):=QX.mk (vU hc hr hg hm hg2 hm2 M Lm.out ha.out hs he)
theorem vR {e:aS} {fe:Rho->Option Rv} (hc:X.calm=true) (hr:jf 2 X.A) (hg:Gl X "sorted") (hm:X.mg "sorted" = none) (M:Mkr X c P) (Lm:KP X params body scope ix x i0 g) (ha:QX X e fe)
 (he:am [e] X.env=[(false,b9 e X.env)]:=by exact bR rfl) :
 QX X (.Call (.Name "sorted" p) [e] [⟨some "key",.Lambda params body scope lpos,kpos⟩] pos) (kJ ix i0 (qU fe) g):=QX.mk (wc hc hr hg hm M Lm.out ha.out he)
theorem EA {k:Nat} {q:bM} {f c':ak} {s:ai} {H:Hp} (hr:jf (k+3) X.A) (h:jf k (D6 X X.A.in1.in1 scope q f c' s H).A->QX (D6 X X.A.in1.in1 scope q f c' s H) body g):QX (D6 X X.A.in1.in1 scope q f c' s H) body g:=h (jf.deeper hr.in1.in1 _)
end
noncomputable def Ld (K:ac) (c:ak):ak:=match K.lookup c with
 | some ⟨_,_,.fields vs,_⟩=>(match (vs.toList[11]?:Option ae) with | some (.ref P)=>P | _=>0)
 | _=>0
noncomputable def sC (K:ac) (cd:ae) (x:bM):Bool:=match cd with
 | .ref c=>m3 K c (Ld K c)&&(iB K).contains (Ld K c,x++".<locals>."++"<lambda>")
 | _=>false
noncomputable def o3 (K:ac) (mg:bM->Option ae) (x:bM) (st:cX):Prop:=∃ (a:ak) (fd:dG),Fun K x x st a fd/\mg x=some (.ref a)/\∃ c P,fd.code=.ref c/\m3 K c P=true/\(P,x++".<locals>."++"<lambda>")∈iB K
theorem B4 {K:ac} {mg:bM->Option ae} {x:bM} {st:cX} {f:ak} {fd:dG} (F:Fun K x x st f fd) (hm:mg x=some (.ref f)) (hk:sC K fd.code x=true):o3 K mg x st:=by
 unfold sC at hk
 split at hk
 ·rename_i c hc
  rw [aU] at hk
  exact ⟨f,fd,F,hm,c,Ld K c,hc,hk.1,by simpa using hk.2⟩
 ·cases hk
section
variable {P:bC} {w:cf} {K:ac} {mg:bM->Option ae} {base:cy}
theorem GP {x qual:bM} {st:cX} {f:ak} {fd:dG} {N ps:List bM} {k:Nat} {sp:Sp} (F:Fun K x qual st f fd) (S:g8 N ps (bh st)) (len:∀ vs H Q E,sp vs H Q E->vs.length=ps.length)
 (hbody:∀ (cdv:ae) (A:bL) (outer:List p4) (s:ai) (H:Hp) (vs:List V) (Q:VK) (E:XK),fd.code=cdv->jf k (A.deeper (fG qual (bh st) s.heap.objs.size f cdv))->sp vs H Q E ->
   ∃ t,PSs (xg CX0 P w K mg base N qual (bh st) f cdv A outer s H E).nox (cg st) t/\t { nx:=fun _ H'=>Q .non H',rt:=Q } (start N vs) H):vF P w K mg base CX0 (k+1) f fd ps sp:=by
 obtain ⟨oc,od,kV,doc,pm,an,cdv,ct,osl,rfl,lk,hcd⟩:=F.ex
 refine Kn lk hcd S len fun A outer s H vs Q E hr hsp=>?_
 obtain ⟨t,h,q⟩:=hbody cdv A outer s H vs Q E rfl hr hsp
 exact ⟨t,h.nox,q⟩
theorem Ip {x:bM} {st:cX} {N ps:List bM} {k n:Nat} {g:Rho->Res} (hf:o3 K mg x st) (hK:K.In base) (_hB:Bm mg base) (S:g8 N ps (bh st)) (hn:ps.length=n)
 (hbind:∀ (kV doc pm:ae) (an:Option ak) (cdv ct:ae) (us:List ae),us.length=ps.length->jT (aZ x x (cF st) (cg st) (bh st) .none kV doc pm an cdv ct) ⟨us,[]⟩=pure (ps.zip us))
 (hbody:∀ (f c P1:ak) (A:bL) (outer:List p4) (s:ai) (H:Hp) (E:XK),iV base c P1->(P1,x++".<locals>."++"<lambda>")∈iB K->jf k (A.deeper (fG x (bh st) s.heap.objs.size f (.ref c)))->xK (xg CX0 P w K mg base N x (bh st) f (.ref c) A outer s H E).nox (cg st) g) :
 Ca P w K mg base x ps (k+1) n (jr N.length g):=by
 obtain ⟨a,fd,F,hm,c,P1,hcode,hhd,htab⟩:=hf
 refine ⟨a,fd,hm,F.kp,F.binds hbind,?_⟩
 refine GP F S (fun vs H Q E ⟨G,ds,d,hl,sg,_,dl,_⟩=>by rw [dl.length,hl,hn]) fun cdv A outer s H vs Q E hcd hr ⟨G,ds,d,hl,sg,tg,dl,ef,kk⟩=>?_
 have:cdv=.ref c:=hcd.symm.trans hcode
 subst this
 refine ⟨_,hbody a c P1 A outer s H E (vh hK hhd) htab hr,H,G,G,fB N.length ds,Ext.refl sg,xb tg dl,?_⟩
 unfold jr at ef
 split at ef
 ·rename_i d' q
  cases ef
  rw [q]
  exact fun v G1 H1 E1 _ dv=>kk v G1 H1 E1 dv
 ·rename_i ρ' q
  cases ef
  rw [q]
  exact fun σ G1 H1 E1 _ _=>kk .non G1 H1 E1 rfl
 ·cases ef
end
theorem wJ:∀ {l:List (ak×bM)} {b:ak} {q:bM},l.lookup b=some q->(b,q)∈l
 | [],_,_,h=>by cases h
 | (c,r)::l,b,q,h=>by
   rw [dq] at h
   cases e:b == c with
   | true=>rw [e] at h;cases h;rw [beq_iff_eq.mp e];exact ah
   | false=>rw [e] at h;exact af _ (wJ h)
noncomputable def BR (K:ac) (ts:List ak):Bool:=(iB K).all fun e=>ts.contains e.1&&(K.lookup e.1).isNone&&(K.any fun p=>m3 K p.1 e.1)&&((iB K).lookup e.1 == some e.2)
theorem By {P:bC} {w:cf} {K:ac} {mg mb:bM->Option ae} {k:Nat} {fa a:ak} {fd:dG} {x:bM} {fn:List Da->Option Da} {s₁:ai} {vs:List ae} {ns:List Int} {ts:List ak} {Pb:cy->Prop}
 (KX:K.In s₁.heap) (hns:s₁.heap.Ns aQ mg) (hb:s₁.heap.Ns oG mb) (hbb:∀ x:bM,x≠"__name__"->mb x=iE x) (hlim:s₁.heap.NoLimit) (hbm:Bm mg s₁.heap) (hg:s₁.gens = #[])
 (ha:s₁.heap.get? a=some { cls:=.type "list",data:=.seq vs.toArray }) (hi:dR vs ns) (hl:ns.length<=aK) (hr:jf k qa) (hT:∀ P∈ts,s₁.heap.get? P=some (kH #[])) (hok:BR K ts=true)
 (hPb:∀ h':cy,(∀ b o,s₁.heap.get? b=some o->(∀ xs n,o.data≠.seq xs n)->(∀ ps,o.data≠.fields ps)->h'.get? b=some o)->Pb h')
 (F:∀ base:cy,K.In base->base.Ns aQ mg->Bm mg base->Pb base->vF P w K mg base CX0 k fa fd [x] (spD K 1 fn)) (hbind:∀ (s:ai) (u:ae),vc s fd ⟨[u],[]⟩ [(x,u)])
 (eq:fn [.lst (ns.map Da.int)]=some (.bl true)) :
 lN (bg P w) qa (.call (.ref fa) ⟨[.ref a],[]⟩) (fun r s'=>r=.ok (.ret (.bool true))/\OldK s₁.heap s'.heap/\s'.os=s₁.os/\lL s'.gens) s₁:=by
 have rv:=tQ hi
 have lenV:=hi.length
 have ok1:∀ e∈iB K,s₁.heap.get? e.1=some (kH #[])/\K.lookup e.1=none/\(∃ c,iV s₁.heap c e.1)/\(iB K).lookup e.1=some e.2:=fun e he=>by
  have:=cH.mp hok e he
  simp only [aU] at this
  obtain ⟨⟨⟨h1,h2⟩,h3⟩,h4⟩:=this
  obtain ⟨p,_,h3⟩:=gE.mp h3
  exact ⟨hT _ (by simpa using h1),Option.isNone_iff_eq_none.mp h2,⟨p.1,vh KX h3⟩,by simpa using h4⟩
 have lk:∀ {b:ak} {q:bM},(iB K).lookup b=some q->(b,q)∈iB K:=fun {b q} e=>wJ e
 have core:∀ Hs:Option HO,(Hs=none\/Hs=some (.frz { cls:=.type "list",data:=.seq vs.toArray } (.lst (ns.map V.int))))->(Hs≠none->K.lookup a=none)->(∀ H:Hp,H a=Hs->SqL K H a (ns.map V.int)) ->
  lN (bg P w) qa (.call (.ref fa) ⟨[.ref a],[]⟩) (fun r s'=>r=.ok (.ret (.bool true))/\OldK s₁.heap s'.heap/\s'.os=s₁.os/\lL s'.gens) s₁:=by
  intro Hs hHs hK hS
  have eH:∃ H:Hp,H=fun b=>if b=a then Hs else ((iB K).lookup b).map HO.tab:=⟨_,rfl⟩
  obtain ⟨H,eH⟩:=eH
  have Ha:H a=Hs:=by rw [eH];exact if_pos rfl
  have Hb:∀ {b:ak},b≠a->H b=((iB K).lookup b).map HO.tab:=fun h=>by rw [eH];exact if_neg h
  have cases3:∀ {b:ak} {u:HO},H b=some u->(b=a/\u=.frz { cls:=.type "list",data:=.seq vs.toArray } (.lst (ns.map V.int)))\/(b≠a/\∃ q,u=.tab q/\(b,q)∈iB K):=fun {b u} e=>by
   by_cases hb:b=a
   ·subst hb
    rw [Ha] at e
    rcases hHs with z | z
    ·rw [z] at e;cases e
    ·rw [z] at e;cases e;exact .inl ⟨rfl,rfl⟩
   ·rw [Hb hb] at e
    cases z:(iB K).lookup b with
    | none=>rw [z] at e;cases e
    | some q=>rw [z] at e;cases e;exact .inr ⟨hb,q,rfl,lk z⟩
  have nea:∀ e∈iB K,e.1≠a:=fun e he z=>by
   have:=(ok1 e he).1
   rw [z,ha] at this
   cases this
  have base_of:∀ {b:ak} {o:dz},s₁.heap.get? b=some o->H b=none->(Cp s₁.heap H).get? b=some o:=fun e n=>Dn e n
  have noT:∀ {b:ak} {o:dz},s₁.heap.get? b=some o->(∀ xs n,o.data≠.seq xs n)->(∀ ps,o.data≠.fields ps)->H b=none:=fun {b o} e d1 d2=>by
   cases q:H b with
   | none=>rfl
   | some u =>
     rcases cases3 q with ⟨z,_⟩ | ⟨_,q',_,z⟩
     ·subst z
      rw [ha] at e;cases e
      exact absurd rfl (d1 _ _)
     ·have:=(ok1 _ z).1
      dsimp only at this
      rw [this] at e;cases e
      exact absurd rfl (d2 _)
  have noA:∀ {b:ak} {o:dz} {es:Array lx} {ep:Nat},s₁.heap.get? b=some o->o.data=.dict es ep->H b=none:=fun {b o es ep} e d=>noT e (fun _ _ z=>by rw [d] at z;cases z) fun _ z=>by rw [d] at z;cases z
  have nsK:∀ {b:ak} {m:bM->Option ae},s₁.heap.Ns b m->(Cp s₁.heap H).Ns b m:=fun {b m} ⟨o,es,ep,e,d,r⟩=>⟨o,es,ep,base_of e (noA e d),d,r⟩
  have hKb:K.In (Cp s₁.heap H):=fun b o e=>base_of (KX b o e) (by
   cases q:H b with
   | none=>rfl
   | some u =>
     rcases cases3 q with ⟨z,zu⟩ | ⟨_,q',_,z⟩
     ·subst z
      rw [hK (by rw [<- Ha,q];simp)] at e;cases e
     ·have:=(ok1 _ z).2.1
      dsimp only at this
      rw [this] at e;cases e)
  have hBm:Bm mg (Cp s₁.heap H):=let ⟨bm,ob,b1,b2,b3,b4,b5,b6⟩:=hbm
   ⟨bm,ob,b1,b2,base_of b3 (noT b3 (fun _ _ z=>by rw [b6] at z;cases z) fun _ z=>by rw [b6] at z;cases z),b4,b5,b6⟩
  have hok':HOk P w H s₁.heap:=fun b u e=>by
   rcases cases3 e with ⟨z,zu⟩ | ⟨_,q',zu,z⟩
   ·subst z zu
    exact ⟨ha,by rw [ab];exact hl,vs,_,rv,ha⟩
   ·subst zu
    exact ⟨#[],(ok1 _ z).1,trivial⟩
  have hM:Mod K mg (Cp s₁.heap H):=⟨hKb,nsK hns,⟨mb,nsK hb,hbb⟩,let ⟨mc,h1,h2⟩:=hlim;⟨mc,nsK h1,h2⟩⟩
  have e0:KU P w K mg (Cp s₁.heap H) qa [] s₁ H:=⟨rfl,hM,fun b o e=>Fo e,kE (BW _ _),trivial,fun b hb=>absurd (show b∈([]:List ak) from hb) (by simp),hok',.of_eq hg⟩
  have tg:Tbs K H:=fun e he=>by rw [Hb (nea e he),(ok1 e he).2.2.2];rfl
  refine p7 ((F _ hKb (nsK hns) hBm (hPb _ fun b o e d1 d2=>base_of e (noT e d1 d2))).run qa [] s₁ H ⟨[.ref a],[]⟩ [.ref a] [.ref a] (fun v H'=>v=.bl true/\cW H H') E0 hr e0 (hbind s₁ (.ref a)) (.cons rfl .nil)
   ⟨H,[.lst (ns.map Da.int)],.bl true,rfl,cW.refl _,tg,⟨_,_,rfl,⟨a,_,rfl,hS H Ha,cS.ints.mpr rfl⟩,rfl⟩,eq,fun v _ _ E d=>⟨d,E.hh⟩⟩) fun r s' h=>?_
  cases r with
  | error e=>exact cm h
  | ok fl =>
    cases fl with
    | next=>exact cm h
    | brk=>exact cm h
    | cont=>exact cm h
    | ret u =>
      obtain ⟨v,H',os,bare,un,hok2,r',q,sm⟩:=h
      subst q
      obtain rfl:u=gf true:=r'
      have each:∀ b o,s₁.heap.get? b=some o->asItWas s₁.heap s'.heap b o/\∃ o',s'.heap.get? b=some o':=fun b o e=>by
       cases q:H b with
       | none=>have:=un.keep b o e q (by intro z;exact absurd (show b∈([]:List ak) from z) (by simp)) (by simp);exact ⟨.inl this,o,this⟩
       | some u =>
         rcases cases3 q with ⟨z,zu⟩ | ⟨_,q',zu,z⟩
         ·subst zu
          have z2:=un.frzs b _ _ q
          obtain ⟨e1,_⟩:=hok' b _ q
          obtain ⟨e2,_⟩:=hok2 b _ z2
          rw [e] at e1;cases e1
          exact ⟨.inl e2,_,e2⟩
         ·subst zu
          obtain ⟨h1,_,⟨c,h3⟩,_⟩:=ok1 _ z
          dsimp only at h1 h3
          rw [e] at h1
          cases h1
          obtain ⟨ps,e2,_⟩:=hok2 b _ (sm _ _ q)
          exact ⟨.inr (.inl ⟨(h3.tab e).isCodeTable,rfl,#[],ps,rfl,by rw [Array.empty_append];exact e2⟩),_,e2⟩
      exact ⟨rfl,⟨fun b o e=>(each b o e).1,fun b o e=>(each b o e).2⟩,os,bare⟩
 cases hk:K.lookup a with
 | some o =>
   have e:=KX a o hk
   rw [ha] at e
   cases e
   exact core none (.inl rfl) (fun z=>absurd rfl z) fun H _=>.inr ⟨_,vs.toArray,_,hk,rfl,rfl,rfl,by rw [aB,lenV];exact hl,by simpa using rv⟩
 | none=>exact core _ (.inr rfl) (fun _=>hk) fun H e=>.inl (.inr ⟨_,e⟩)
theorem CK {l:y3} {n k:Nat} {q:bC} {loose:List bM} {XP:(bM->Option ae)->cy->Prop} {YP:cf->cy->Prop} {d:DefRec} {K:zg->ac} {x:bM} {ts:List ak} {fn:List Da->Option Da}
 (hn:l.most=some n) (hn2:n<=aK) (hdf:d.params.defaults=[]) (hr:jf k qa)
 (hY:∀ (w:cf) (h:cy),YP w h->(K w.params).In h) (hT:∀ (w:cf) (h:cy),YP w h->∀ P∈ts,h.get? P=some (kH #[])) (hok:∀ P:zg,BR (K P) ts=true)
 (F:∀ (w:cf) (mg:bM->Option ae) (fa:ak) (h:cy),(K w.params).In h->h.Ns aQ mg->mg d.name=some (.ref fa) ->
   ∃ fd:dG,(∀ (s:ai) (u:ae),vc s fd ⟨[u],[]⟩ [(x,u)]) /\
     ∀ base:cy,(K w.params).In base->base.Ns aQ mg->Bm mg base->vF l.prog w (K w.params) mg base CX0 k fa fd [x] (spD (K w.params) 1 fn))
 (eq:∀ ns:List Int,fn [.lst (ns.map Da.int)]=some (.bl true)) :
 Ce q loose XP YP l.row.toRowW d [] (fun f vs=>xX f vs):=by
 refine Att.attach_call hn hdf fun w s₀ s₁ mg mb fa o pm cd doc a vs ns G Y ho hd hcd hmg hobj hints hlen hg=>?_
 have KX:=hY w _ Y
 obtain ⟨fd,hb,hF⟩:=F w mg fa _ KX G.T.g hmg
 exact By KX G.T.g G.T.b G.T.builtins G.T.nolimit G.T.bmain hg hobj hints (bO hlen hn2) hr (hT w _ Y) (hok w.params) (Pb:=fun _=>True) (fun _ _=>trivial) (fun base h1 h2 h3 _=>hF base h1 h2 h3) hb (eq ns)
noncomputable def jm:Hp->List ak->(Hp->Prop)->Prop
 | H,[],k=>k H
 | H,l::ls,k=>∃ u,H l=some u/\se u/\∀ o,jm (upd H l (.frz o u)) ls k
theorem uR {X:Cx} {pins:List (ak×dz)} {σ:St} {s:ai} {k:Hp->Prop}:∀ (ls:List ak) (H:Hp),Inv X pins σ H s->jm H ls k->∃ H',Inv X pins σ H' s/\k H'
 | [],H,I,h=>⟨H,I,h⟩
 | l::ls,H,I,h=>by
   obtain ⟨u,hl,hd,h⟩:=h
   obtain ⟨o,I'⟩:=Dd I hl hd
   exact uR ls _ I' (h o)
theorem AI {X:Cx} {e:aS} {te:TE} {pos:ft} (he:PE X e te):PS X (.Return (some e) pos) (fun D σ H=>te σ H fun v H1=>∃ ls,jm H1 ls fun H2=>D.rt v H2):=by
 intro pins s σ H D I h
 refine thn (t8 (pos:=pos) he pins s σ H { nx:=fun _ _=>False,rt:=fun v H1=>∃ ls,jm H1 ls fun H2=>D.rt v H2 } I h) fun fl s1 h1=>?_
 cases fl with
 | next=>obtain ⟨_,_,_,z⟩:=h1;exact z.elim
 | brk=>obtain ⟨_,_,_,z⟩:=h1;exact z.elim
 | cont=>obtain ⟨_,_,_,z⟩:=h1;exact z.elim
 | ret u =>
   obtain ⟨v,σ1,H1,I1,rv,ls,g⟩:=h1
   obtain ⟨H2,I2,q⟩:=uR ls H1 I1 g
   exact ⟨v,σ1,H2,I2,rv,q⟩
theorem pF {G0 H0:Hp} {k:Hp->Prop}:∀ (ls:List (ak×HO)) (G H:Hp),Ext G0 H0 G H->(ls.map (·.1)).Nodup->(∀ e∈ls,H0 e.1=none/\G e.1=none/\H e.1=some e.2/\se e.2) ->
 (∀ G' H',Ext G0 H0 G' H'->cW G G'->(∀ e∈ls,∃ o,G' e.1=some (.frz o e.2))->k H')->jm H (ls.map (·.1)) k
 | [],G,H,E,_,_,fin=>fin G H E (cW.refl _) (by simp)
 | (l,u)::ls,G,H,E,nd,h,fin=>by
   obtain ⟨h0,hg,hl,hd⟩:=h (l,u) (ah)
   dsimp only at h0 hg hl hd
   obtain ⟨n1,n2⟩:=be.mp nd
   refine ⟨u,hl,hd,fun o=>?_⟩
   have E1:Ext G0 H0 (upd G l (.frz o u)) (upd H l (.frz o u)):=⟨fun b w z=>by rw [bq (cb z h0)];exact E.hh b w z,E.gg.trans (cA hg),kK E.gh,fun b w z t y=>by rw [bq (cb z h0)];exact E.nw b w z t y⟩
   refine pF ls _ _ E1 n2 (fun e he=>?_) fun G' H' E' s' hh=>fin G' H' E' ((cA hg).trans s') fun e he=>?_
   ·obtain ⟨a1,a2,a3,a4⟩:=h e (af _ he)
    have ne:e.1≠l:=fun z=>n1 (az.mpr ⟨e,he,z⟩)
    exact ⟨a1,by rw [bq ne];exact a2,by rw [bq ne];exact a3,a4⟩
   ·rcases ao.mp he with z | z
    ·subst z;exact ⟨o,s' _ _ aV⟩
    ·exact hh e z
noncomputable def idc (l:List Int):List (Key×V):=l.map fun b=>(au b,V.bl true)
noncomputable def ud:List ak->UD->List (Key×V)
 | d::ds,(a,_)::D=>(au a,V.ref d)::ud ds D
 | _,_=>[]
structure UR (H0 G H:Hp) (u:ak) (ds:List ak) (D:UD):Prop where
 ln:ds.length=D.length
 out:H u=some (.dK (ud ds D))
 inn:∀ (i:Nat) (e:Int×List Int) (d:ak),D[i]?=some e->ds[i]?=some d->H d=some (.dK (idc e.2))
 nd:(u::ds).Nodup
 fr:∀ d∈u::ds,H0 d=none/\G d=none
theorem wo:∀ {ds:List ak} {D:UD},ds.length=D.length->(ud ds D).map (·.1)=D.map fun e=>au e.1
 | [],[],_=>rfl
 | d::ds,(a,l)::D,h=>by unfold ud;rw [ax,ax,wo (by simpa using h)]
theorem AA:∀ {ds:List ak} {D:UD},ds.length=D.length->(ud ds D).map (·.2)=ds.map V.ref
 | [],[],_=>rfl
 | d::ds,(a,l)::D,h=>by unfold ud;rw [ax,ax,AA (by simpa using h)]
theorem IG {ds:List ak} {D:UD} (h:ds.length=D.length):(ud ds D).length=D.length:=by
 have:=congrArg gs (wo h)
 rw [ab,ab] at this
 exact this
theorem AL:∀ {ds:List ak} {D:UD} (d:ak) (a:Int) (l:List Int),ds.length=D.length->ud (ds++[d]) (D++[(a,l)])=ud ds D++[(au a,V.ref d)]
 | [],[],_,_,_,_=>rfl
 | x::ds,(b,m)::D,d,a,l,h=>by
   show (au b,V.ref x)::ud (ds++[d]) (D++[(a,l)])=_
   rw [AL d a l (by simpa using h)]
   rfl
theorem uE:∀ {ds:List ak} {D:UD} {a:Int},ds.length=D.length->(a∉D.map (·.1)->nV (ud ds D) (au a)=none)/\(a∈D.map (·.1)->∃ (i:Nat) (e:Int×List Int) (d:ak),D[i]?=some e/\ds[i]?=some d/\e.1=a/\nV (ud ds D) (au a)=some (.ref d))
 | [],[],a,_=>⟨fun _=>rfl,fun h=>by cases h⟩
 | d::ds,(b,l)::D,a,h=>by
   obtain ⟨i1,i2⟩:=uE (ds:=ds) (D:=D) (a:=a) (by simpa using h)
   by_cases e:b=a
   ·subst e
    exact ⟨fun z=>absurd (by simp) z,fun _=>⟨0,(b,l),d,rfl,rfl,rfl,j4 (p:=(au b,V.ref d)) rfl⟩⟩
   ·have ek:¬ (au b:Key)=au a:=fun z=>e (dh z)
    have ev:nV (ud (d::ds) ((b,l)::D)) (au a)=nV (ud ds D) (au a):=jZ (p:=(au b,V.ref d)) ek
    refine ⟨fun z=>by rw [ev];exact i1 fun y=>z (by rw [ax];exact af _ y),fun z=>?_⟩
    rw [ax,ao] at z
    obtain ⟨i,e',d',h1,h2,h3,h4⟩:=i2 (z.resolve_left fun w=>e w.symm)
    exact ⟨i+1,e',d',by simpa using h1,by simpa using h2,h3,by rw [ev];exact h4⟩
theorem xH (l:List Int) (b:Int):lB (idc l) (au b) (V.bl true)=idc (tF l b):=by
 unfold tF
 by_cases h:b∈l
 ·rw [if_pos h]
  unfold lB
  have ha:((idc l).any fun kv=>decide (kv.1=(au b:Key)))=true:=by
   rw [gE]
   exact ⟨(au b,V.bl true),az.mpr ⟨b,h,rfl⟩,by simp⟩
  rw [if_pos ha]
  unfold idc
  rw [aC]
  refine cY fun x hx=>?_
  show (if (au x:Key)=au b then ((au x:Key),V.bl true) else (au x,V.bl true))=_
  split<;>rfl
 ·rw [if_neg h,so]
  ·unfold idc;rw [bE];rfl
  ·unfold nV
   rw [Option.map_eq_none_iff,List.find?_eq_none]
   intro x hx
   obtain ⟨y,hy,rfl⟩:=az.mp hx
   simp only [decide_eq_true_eq]
   exact fun z=>h (by rw [<- dh z];exact hy)
theorem xF:∀ {D:UD} {a b:Int},a∉D.map (·.1)->jR (D++[(a,[])]) a b=jR D a b
 | [],a,b,_=>by
   show (if a=a then [(a,tF [] b)] else _)=[(a,[b])]
   rw [if_pos rfl];rfl
 | (x,l)::D,a,b,h=>by
   rw [ax,ao] at h
   show (if x=a then _ else (x,l)::jR (D++[(a,[])]) a b)=if x=a then _ else (x,l)::jR D a b
   rw [if_neg (fun z=>h (.inl z.symm)),if_neg (fun z=>h (.inl z.symm)),xF fun z=>h (.inr z)]
theorem mJ:∀ {D:UD} {a b:Int} {i:Nat} {l:List Int},(D.map (·.1)).Nodup->D[i]?=some (a,l)->jR D a b=D.set i (a,tF l b)
 | [],_,_,_,_,_,h=>by simp at h
 | (x,m)::D,a,b,0,l,nd,h=>by
   simp at h
   obtain ⟨rfl,rfl⟩:=h
   show (if x=x then _ else _)=_
   rw [if_pos rfl];rfl
 | (x,m)::D,a,b,i+1,l,nd,h=>by
   rw [ax,be] at nd
   have h':D[i]?=some (a,l):=by simpa using h
   have ne:x≠a:=fun z=>nd.1 (by rw [z];exact az.mpr ⟨(a,l),bJ h',rfl⟩)
   show (if x=a then _ else (x,m)::jR D a b)=_
   rw [if_neg ne,mJ nd.2 h']
   rfl
theorem mx {D:UD} {a:Int} {i:Nat} {l m:List Int} (h:D[i]?=some (a,l)):((D.set i (a,m)).map fun e=>e.1)=D.map (·.1):=by
 rw [List.map_set]
 apply nG
 intro j
 rw [zp,ab]
 by_cases e:i=j
 ·subst e
  have hl:=(aF.mp h).1
  rw [if_pos rfl,if_pos hl,aA,h]
  rfl
 ·rw [if_neg e]
theorem Jy {ds:List ak}:∀ {D:UD} {a:Int} {i:Nat} {l m:List Int},D[i]?=some (a,l)->ud ds (D.set i (a,m))=ud ds D:=by
 induction ds with
 | nil=>intro D a i l m h;cases D<;>cases i<;>rfl
 | cons d ds ih =>
   intro D a i l m h
   cases D with
   | nil=>simp at h
   | cons e D =>
     obtain ⟨x,y⟩:=e
     cases i with
     | zero=>simp at h;obtain ⟨rfl,rfl⟩:=h;rfl
     | succ i =>
       show (au x,V.ref d)::ud ds (D.set i (a,m))=(au x,V.ref d)::ud ds D
       rw [ih (by simpa using h)]
section
variable {H0 G H:Hp} {u:ak} {ds:List ak} {D:UD}
theorem UR.dne (h:UR H0 G H u ds D) {d:ak} (hd:d∈ds):d≠u:=fun z=>(be.mp h.nd).1 (by rw [<- z];exact hd)
theorem UR.snoc (h:UR H0 G H u ds D) {d:ak} {a:Int} (hd:H d=none) (h0:H0 d=none) (hg:G d=none) (ha:a∉D.map (·.1)) :
 UR H0 G (upd (upd H d (.dK [])) u (.dK (lB (ud ds D) (au a) (.ref d)))) u (ds++[d]) (D++[(a,[])]):=by
 have hdu:d≠u:=fun z=>by rw [z,h.out] at hd;cases hd
 have hds:d∉ds:=fun z=>by
  obtain ⟨i,hi,e⟩:=bT z
  have h1:i<D.length:=by rw [<- h.ln];exact hi
  have:=h.inn i D[i] d (aj h1) (by rw [aj hi,e])
  rw [hd] at this;cases this
 refine ⟨by simp [h.ln],?_,fun i e d' h1 h2=>?_,?_,fun x hx=>?_⟩
 ·rw [aV,so _ ((uE h.ln).1 ha),AL d a [] h.ln]
 ·by_cases hi:i<D.length
  ·rw [dH hi] at h1
   rw [dH (by rw [h.ln];exact hi)] at h2
   have hm:=bJ h2
   have:=h.inn i e d' h1 h2
   rw [bq (h.dne hm),bq (fun z=>hds (by rw [<- z];exact hm))]
   exact this
  ·rw [cR (by lia)] at h1
   rw [cR (by rw [h.ln];lia)] at h2
   have e0:i-D.length=0:=by
    have:=(aF.mp h1).1
    simp at this
    lia
   rw [e0] at h1
   rw [h.ln,e0] at h2
   have e1:(a,[])=e:=by simpa using h1
   have e2:d=d':=by simpa using h2
   subst e1 e2
   rw [bq hdu,aV]
   rfl
 ·have n:=be.mp h.nd
  refine be.mpr ⟨fun z=>?_,bp.mpr ⟨n.2,bc _ _,fun x hx y hy=>by rw [ay] at hy;subst hy;intro z;subst z;exact hds hx⟩⟩
  rcases aD.mp z with z | z
  ·exact n.1 z
  ·rw [ay] at z;exact hdu z.symm
 ·rcases ao.mp hx with z | z
  ·subst z;exact h.fr _ (ah)
  ·rcases aD.mp z with z | z
   ·exact h.fr x (af _ z)
   ·rw [ay] at z;subst z;exact ⟨h0,hg⟩
theorem UR.put (h:UR H0 G H u ds D) {i:Nat} {a b:Int} {l:List Int} {d:ak} (e:D[i]?=some (a,l)) (ed:ds[i]?=some d) :
 UR H0 G (upd H d (.dK (lB (idc l) (au b) (V.bl true)))) u ds (D.set i (a,tF l b)):=by
 have hm:=bJ ed
 refine ⟨by rw [bX];exact h.ln,?_,fun j e' d' h1 h2=>?_,h.nd,h.fr⟩
 ·rw [bq (h.dne hm).symm,Jy e];exact h.out
 ·rw [xH]
  rw [zp] at h1
  by_cases hj:i=j
  ·subst hj
   have hl:=(aF.mp e).1
   rw [if_pos rfl,if_pos hl] at h1
   cases h1
   rw [ed] at h2
   cases h2
   exact aV
  ·rw [if_neg hj] at h1
   have hne:d'≠d:=fun z=>by
    subst z
    obtain ⟨l1,e1⟩:=aF.mp ed
    obtain ⟨l2,e2⟩:=aF.mp h2
    exact hj ((iD (be.mp h.nd).2).mp (e1.trans e2.symm))
   rw [bq hne]
   exact h.inn j e' d' h1 h2
theorem UR.ext {G' H':Hp} (h:UR H0 G H u ds D) (e:Ext G H G' H') (hg:cW G H):UR H0 G' H' u ds D:=by
 refine ⟨h.ln,e.hh _ _ h.out,fun i x d a b=>e.hh _ _ (h.inn i x d a b),h.nd,fun d hd=>⟨(h.fr d hd).1,?_⟩⟩
 rcases ao.mp hd with z | z
 ·subst z;exact e.nw _ _ h.out rfl (h.fr _ hd).2
 ·obtain ⟨i,hi,ei⟩:=bT z
  have h1:i<D.length:=by rw [<- h.ln];exact hi
  exact e.nw _ _ (h.inn i D[i] d (aj h1) (by rw [aj hi,ei])) rfl (h.fr _ hd).2
end
theorem pz:∀ {ds:List Da} {T:List (Int×Int)},dQ ds=some T->ds=T.map fun p=>Da.tup [.int p.1,.int p.2]
 | [],T,h=>by cases h;rfl
 | d::r,T,h=>by
   cases d with
   | tup xs =>
     match xs,h with
     | [.int a,.int b],h =>
       have h:(dQ r).map ((a,b)::·)=some T:=h
       cases q:dQ r with
       | none=>rw [q] at h;cases h
       | some T'=>rw [q] at h;cases h;rw [pz q];rfl
     | [],h=>simp [dQ] at h
     | [_],h=>simp [dQ] at h
     | _::_::_::_,h=>simp [dQ] at h
     | [.non,_],h=>simp [dQ] at h
     | [.bl _,_],h=>simp [dQ] at h
     | [.str _,_],h=>simp [dQ] at h
     | [.tup _,_],h=>simp [dQ] at h
     | [.lst _,_],h=>simp [dQ] at h
     | [.dK _ _,_],h=>simp [dQ] at h
     | [.dT _ _,_],h=>simp [dQ] at h
     | [.int _,.non],h=>simp [dQ] at h
     | [.int _,.bl _],h=>simp [dQ] at h
     | [.int _,.str _],h=>simp [dQ] at h
     | [.int _,.tup _],h=>simp [dQ] at h
     | [.int _,.lst _],h=>simp [dQ] at h
     | [.int _,.dK _ _],h=>simp [dQ] at h
     | [.int _,.dT _ _],h=>simp [dQ] at h
   | _=>simp [dQ] at h
theorem Lp {K:ac} {G:Hp} {D:UD} {ds:List ak} (hl:ds.length=D.length) (h:∀ (i:Nat) (e:Int×List Int) (d:ak),D[i]?=some e->ds[i]?=some d->∃ o,G d=some (.frz o (.dK (idc e.2)))):cS K G (D.map fun e=>dD e.2) (ds.map V.ref):=by
 induction D generalizing ds with
 | nil =>
   cases ds with
   | nil=>rfl
   | cons _ _=>cases hl
 | cons e D ih =>
   cases ds with
   | nil=>cases hl
   | cons d ds =>
     obtain ⟨o,ho⟩:=h 0 e d rfl rfl
     refine ⟨_,_,rfl,?_,ih (by simpa using hl) fun i e' d' h1 h2=>h (i+1) e' d' (by simpa using h1) (by simpa using h2)⟩
     refine ⟨d,o,_,rfl,ho,?_,?_⟩
     ·unfold idc;rw [aC];rfl
     ·unfold idc
      rw [aC]
      have:∀ l:List Int,cS K G (l.map fun _=>Da.bl true) (l.map ((fun kv:Key×V=>kv.2)∘fun b=>(au b,V.bl true))):=fun l=>by
       induction l with
       | nil=>rfl
       | cons a l ih=>exact ⟨_,_,rfl,rfl,ih⟩
      exact this e.2
theorem wy {K:ac} {G H:Hp} {ds:List Da} {d:Da} {vs:List V} {Q:VK} {x0 x1 x2 x3:bM} (hl:ds.length=1) (sg:cW G H) (tg:Tbs K G) (dl:cS K G ds vs) (ef:fn_uppers_of ds=some d) (k:∀ v G' H',Ext G H G' H'->Den K G' d v->Q v H') :
 oX (HX uO (mw 1)) (oX (KW (iX K (cB (ig (aT 0)))) (LT K 2 (HN (mw 2) (HN (mw 3) L3)))
  (oX (KR (tB (wl (ku 2) (ku 1))) (vQ (ku 1) (ku 2) uO) CS) (vQ (DR (ku 1) (ku 2)) (ku 3) (tC (V.bl true)))))
  fun D σ H=>ku 1 σ H fun v H1=>∃ ls,jm H1 ls fun H2=>D.rt v H2) { nx:=fun _ H'=>Q V.non H',rt:=Q } (L2.start [x0,x1,x2,x3] vs) H:=by
 have hs:aK=16777216:=bG
 match ds,hl with
 | [d0],_ =>
   obtain ⟨v0,r,ev,hd0,er⟩:=dl
   cases (show r=[] from er)
   subst ev
   obtain ⟨T,hT,hTl,hd,items⟩:∃ T:List (Int×Int),cB (ig (aT 0)) [.pu d0,.no,.no,.no]=some (T.map fun p=>Da.tup [.int p.1,.int p.2])/\T.length<=1000/\d=dU (upp T)/\True:=by
    cases d0 with
    | tup xs =>
      have ef:(match dQ xs with | some T=>if T.length<=1000 then some (dU (upp T)) else none | none=>none)=some d:=ef
      split at ef
      ·rename_i T eT
       split at ef
       ·rename_i hT;cases ef;exact ⟨T,by rw [pz eT];rfl,hT,rfl,trivial⟩
       ·cases ef
      ·cases ef
    | lst xs =>
      have ef:(match dQ xs with | some T=>if T.length<=1000 then some (dU (upp T)) else none | none=>none)=some d:=ef
      split at ef
      ·rename_i T eT
       split at ef
       ·rename_i hT;cases ef;exact ⟨T,by rw [pz eT];rfl,hT,rfl,trivial⟩
       ·cases ef
      ·cases ef
    | _=>cases ef
   show oX _ _ _ [some v0,none,none,none] H
   intro u hu
   show oX _ _ _ [some v0,some (.ref u),none,none] (upd H u (.dK []))
   have E0:Ext G H G (upd H u (.dK [])):=Ext.own sg hu
   have st0:iK K H G (upd H u (.dK [])) [some v0,some (.ref u),none,none] [.pu d0,.no,.no,.no]:=by
    refine ⟨rfl,fun i d e=>?_,fun i d e=>?_,fun i j d d' l _ e=>?_,tg⟩
    ·match i,e with
     | 0,e=>cases e;exact ⟨v0,rfl,hd0⟩
     | 1,e=>cases e
     | 2,e=>cases e
     | 3,e=>cases e
    ·match i,e with
     | 0,e=>cases e
     | 1,e=>cases e
     | 2,e=>cases e
     | 3,e=>cases e
    ·match i,e with
     | 0,e=>cases e
     | 1,e=>cases e
     | 2,e=>cases e
     | 3,e=>cases e
   refine ⟨H,G,_,_,E0.gh,cA hu,st0,hT,fun J G1 H1 E1 it=>?_⟩
   have E01:=E0.trans E1
   have G1u:G1 u=none:=E1.nw u _ aV rfl (sg.free hu)
   refine ⟨fun i m σ H'=>m=T.length-i/\i<=T.length/\∃ Gc dd s2 s3,σ=[some v0,some (.ref u),s2,s3]/\Ext G H Gc H'/\cW G1 Gc/\UR H Gc H' u dd ((T.take i).foldl (fun D p=>jR D p.1 p.2) [])/\(((T.take i).foldl (fun D p=>jR D p.1 p.2) []).map (·.1)).Nodup/\((T.take i).foldl (fun D p=>jR D p.1 p.2) []).length<=i/\∀ e∈(T.take i).foldl (fun D p=>jR D p.1 p.2) [],e.2.length<=i,
    ⟨T.length,by simp,bV _,G1,[],_,_,rfl,E01,cW.refl _,⟨rfl,E1.hh _ _ aV,by simp,by simp,fun d hd=>?_⟩,by simp,by simp,by simp⟩,?_⟩
   ·rw [ay] at hd;subst hd;exact ⟨hu,G1u⟩
   rintro i m σ H' ⟨rfl,hi,Gc,dd,s2,s3,rfl,Ec,sc,ur,ndk,hlen,hin0⟩
   generalize hD:(T.take i).foldl (fun D p=>jR D p.1 p.2) []=D at ur ndk hlen hin0
   have lenM:(T.map fun p=>Da.tup [.int p.1,.int p.2]).length=T.length:=ab _
   by_cases hlt:i<T.length
   ·
    obtain ⟨hgo,hy⟩:=(it i Gc H' sc Ec.gh).1 (Da.tup [.int T[i].1,.int T[i].2]) (by rw [aA,aj hlt];rfl)
    have hDn:(T.take (i+1)).foldl (fun D p=>jR D p.1 p.2) []=jR D T[i].1 T[i].2:=by
     rw [List.take_succ_eq_append_getElem hlt,List.foldl_append,hD];rfl
    refine .inr ⟨hgo,fun σ3 H3=>∃ Gc dd s2 s3,σ3=[some v0,some (.ref u),s2,s3]/\Ext G H Gc H3/\cW G1 Gc/\UR H Gc H3 u dd (jR D T[i].1 T[i].2)/\((jR D T[i].1 T[i].2).map (·.1)).Nodup/\(jR D T[i].1 T[i].2).length<=i+1/\∀ e∈jR D T[i].1 T[i].2,e.2.length<=i+1,fun σ3 H3 z=>⟨T.length-(i+1),by lia,rfl,hlt,?_⟩,fun x H2 yl=>?_⟩
    ·rw [hDn];exact z
    obtain ⟨G2,E2,dx⟩:=hy x H2 yl
    obtain ⟨t,xs,rfl,gt,dxs⟩:=dx
    have ex:xs=[.int T[i].1,.int T[i].2]:=by
     obtain ⟨x1,r1,e1,h1,x2,r2,e2,h2,e3⟩:=dxs
     cases (show x1=_ from h1)
     cases (show x2=_ from h2)
     cases (show r2=[] from e3)
     rw [e1,e2]
    subst ex
    generalize T[i].1=a at *
    generalize T[i].2=b at *
    have Ec2:=Ec.trans E2
    have ur2:=ur.ext E2 Ec.gh
    refine ⟨t,_,rfl,SqT.of (E2.gh _ _ gt),rfl,_,_,rfl,_,_,rfl,rfl,?_⟩
    show oX _ _ _ [some v0,some (.ref u),some (.int a),some (.int b)] H2
    have second:∀ (Gd:Hp) (H3:Hp) (de:List ak) (D1:UD),Ext G H Gd H3->cW G1 Gd->UR H Gd H3 u de D1->(D1.map (·.1)).Nodup->a∈D1.map (·.1)->jR D1 a b=jR D a b->D1.length<=i+1->(∀ e∈D1,e.2.length<=i) ->
     vQ (DR (ku 1) (ku 2)) (ku 3) (tC (V.bl true)) { nx:=fun σ3 H3=>∃ Gc dd s2 s3,σ3=[some v0,some (.ref u),s2,s3]/\Ext G H Gc H3/\cW G1 Gc/\UR H Gc H3 u dd (jR D a b)/\((jR D a b).map (·.1)).Nodup/\(jR D a b).length<=i+1/\∀ e∈jR D a b,e.2.length<=i+1,rt:=Q,bk:=fun σ H=>ku 1 σ H fun v H1=>∃ ls,jm H1 ls fun H2=>Q v H2,ct:=fun σ3 H3=>∃ Gc dd s2 s3,σ3=[some v0,some (.ref u),s2,s3]/\Ext G H Gc H3/\cW G1 Gc/\UR H Gc H3 u dd (jR D a b)/\((jR D a b).map (·.1)).Nodup/\(jR D a b).length<=i+1/\(∀ e∈jR D a b,e.2.length<=i+1) } [some v0,some (.ref u),some (.int a),some (.int b)] H3:=fun Gd H3 de D1 Ed sd ud1 ndk1 ha hadd hl1 hin1=>by
     obtain ⟨j,e,dj,e1,e2,e3,e4⟩:=(uE (a:=a) ud1.ln).2 ha
     obtain ⟨x,l⟩:=e
     dsimp only at e3
     subst e3
     have hin:=ud1.inn j _ dj e1 e2
     have hmem:=af u (bJ e2)
     have hll:(idc l).length<aK:=by
      have:=hin1 _ (bJ e1)
      unfold idc
      rw [ab]
      dsimp only at this
      lia
     refine ⟨_,rfl,_,rfl,u,.ref dj,rfl,?_,_,rfl,dj,_,rfl,CV.k (k:=au b) hin hll,Gd,de,_,_,rfl,Ed.mut (ud1.fr dj hmem).1 (ud1.fr dj hmem).2,sd,?_,?_,?_,?_⟩
     ·rw [<- e4];exact sR.k (k:=au x) ud1.out
     ·rw [<- hadd,mJ ndk1 e1];exact ud1.put e1 e2
     ·rw [<- hadd,mJ ndk1 e1,mx e1];exact ndk1
     ·rw [<- hadd,mJ ndk1 e1,bX];exact hl1
     ·rw [<- hadd,mJ ndk1 e1]
      intro e he
      rcases List.mem_or_eq_of_mem_set he with z | z
      ·have:=hin1 e z;lia
      ·subst z
       have:=hin1 _ (bJ e1)
       show (tF l b).length<=i+1
       unfold tF
       split
       ·dsimp only at this;lia
       ·rw [aO,bx];dsimp only at this;lia
    refine ⟨_,rfl,_,rfl,u,_,rfl,sR.k (k:=au a) ur2.out,_,rfl,?_⟩
    by_cases ha:a∈D.map (·.1)
    ·obtain ⟨j,e,dj,e1,e2,e3,e4⟩:=(uE (a:=a) ur2.ln).2 ha
     rw [e4]
     refine JL ?_
     exact second G2 H2 dd D Ec2 (sc.trans E2.gg) ur2 ndk ha rfl (by lia) hin0
    ·rw [(uE (a:=a) ur2.ln).1 ha]
     refine HU ?_
     intro dn hdn
     have h0:H dn=none:=Ec2.hh.free hdn
     have hg2:G2 dn=none:=Ec2.gh.free hdn
     have ul:(ud dd D).length<aK:=by rw [IG ur2.ln];lia
     have hun:dn≠u:=fun z=>by rw [z,ur2.out] at hdn;cases hdn
     refine ⟨_,rfl,_,rfl,u,_,rfl,CV.k (k:=au a) (by rw [bq hun.symm];exact ur2.out) ul,?_⟩
     have fu:=ur2.fr u (ah)
     refine second G2 _ (dd++[dn]) (D++[(a,[])]) ((Ec2.mut h0 hg2).mut fu.1 fu.2) (sc.trans E2.gg) (ur2.snoc hdn h0 hg2 ha) ?_ (by simp) (xF ha) (by rw [aO,bx];lia) ?_
     rotate_left
     ·intro e he
      rcases aD.mp he with z | z
      ·exact hin0 e z
      ·rw [ay] at z;subst z;exact bV _
     rw [bE]
     exact bp.mpr ⟨ndk,bc _ _,fun y hy2 z hz=>by
      have hz':z=a:=by simpa using hz
      intro w
      rw [w,hz'] at hy2
      exact ha hy2⟩
   ·
    have ei:i=T.length:=by lia
    subst ei
    refine .inl ⟨(it T.length Gc H' sc Ec.gh).2 lenM,?_⟩
    rw [B6] at hD
    refine ⟨_,rfl,(dd++[u]),?_⟩
    have contents:∀ (j:Nat) (hj:j<dd.length),∃ e,D[j]?=some e/\H' dd[j]=some (.dK (idc e.2)):=fun j hj=>by
     have h1:j<D.length:=by rw [<- ur.ln];exact hj
     exact ⟨D[j],aj h1,ur.inn j D[j] dd[j] (aj h1) (aj hj)⟩
    have el:dd++[u]=(((dd.zip D).map fun e=>(e.1,HO.dK (idc e.2.2)))++[(u,HO.dK (ud dd D))]).map (·.1):=by
     rw [bE,aC]
     have:(dd.zip D).map ((fun x=>x.1)∘fun e:ak×Int×List Int=>(e.1,HO.dK (idc e.2.2)))=dd:=by
      rw [show ((fun x:ak×HO=>x.1)∘fun e:ak×Int×List Int=>(e.1,HO.dK (idc e.2.2)))=En from rfl]
      exact List.map_fst_zip (by rw [ur.ln];exact aw _)
     rw [this];rfl
    rw [el]
    refine pF (G0:=G) (H0:=H) _ Gc H' Ec ?_ (fun e he=>?_) fun G' H'' E' s' hh=>?_
    ·rw [<- el]
     have n:=be.mp ur.nd
     exact bp.mpr ⟨n.2,bc _ _,fun x hx y hy=>by rw [ay] at hy;subst hy;intro z;subst z;exact n.1 hx⟩
    ·rcases aD.mp he with z | z
     ·obtain ⟨⟨da,e'⟩,hz,rfl⟩:=az.mp z
      obtain ⟨j,hj,ej⟩:=bT hz
      rw [Cg] at ej
      rw [p0] at hj
      cases ej
      have h1:j<dd.length:=by lia
      have h2:j<D.length:=by lia
      have f:=ur.fr dd[j] (af _ (gD h1))
      exact ⟨f.1,f.2,ur.inn j D[j] dd[j] (aj h2) (aj h1),.inl ⟨_,rfl⟩⟩
     ·rw [ay] at z;subst z
      have f:=ur.fr u (ah)
      exact ⟨f.1,f.2,ur.out,.inl ⟨_,rfl⟩⟩
    ·refine k _ G' H'' E' ?_
     rw [hd]
     have hD':upp T=D:=hD
     rw [hD']
     obtain ⟨o,ho⟩:=hh (u,HO.dK (ud dd D)) (by simp)
     refine ⟨u,o,_,rfl,ho,wo ur.ln,?_⟩
     rw [AA ur.ln]
     refine Lp ur.ln fun j e dj h1 h2=>?_
     have hmem:(dj,HO.dK (idc e.2))∈((dd.zip D).map fun e=>(e.1,HO.dK (idc e.2.2))):=by
      refine az.mpr ⟨(dj,e),?_,rfl⟩
      obtain ⟨l1,q1⟩:=aF.mp h1
      obtain ⟨l2,q2⟩:=aF.mp h2
      have:(dd.zip D)[j]'(by rw [p0];lia)=(dj,e):=by rw [Cg,q1,q2]
      rw [<- this]
      exact gD _
     exact hh _ (bw _ hmem)
end Ry
namespace Ry
inductive GoI (N C B:Rho->Prop) (R:Da->Prop):Res->Prop where
 | nx {ρ:Rho}:N ρ->GoI N C B R (.nx ρ)
 | ct {ρ:Rho}:C ρ->GoI N C B R (.ct ρ)
 | bk {ρ:Rho}:B ρ->GoI N C B R (.bk ρ)
 | rt {d:Da}:R d->GoI N C B R (.rt d)
noncomputable abbrev Go (r:Res) (N C B:Rho->Prop) (R:Da->Prop):Prop:=GoI N C B R r
section
variable {N C B:Rho->Prop} {R:Da->Prop} {ρ:Rho} {g h:Rho->Res}
theorem Go.mono {r:Res} {N' C' B':Rho->Prop} {R':Da->Prop} (q:Go r N C B R) (n:∀ ρ,N ρ->N' ρ) (c:∀ ρ,C ρ->C' ρ) (b:∀ ρ,B ρ->B' ρ) (r':∀ d,R d->R' d):Go r N' C' B' R':=by
 cases q with
 | nx q=>exact .nx (n _ q)
 | ct q=>exact .ct (c _ q)
 | bk q=>exact .bk (b _ q)
 | rt q=>exact .rt (r' _ q)
theorem cZ (q:Go (g ρ) (fun ρ'=>Go (h ρ') N C B R) C B R):Go (iP g h ρ) N C B R:=by
 unfold iP
 generalize g ρ=r at q
 cases q with
 | nx q=>exact q
 | ct q=>exact .ct q
 | bk q=>exact .bk q
 | rt q=>exact .rt q
theorem eM {ρ':Rho} (e:g ρ=.nx ρ') (q:N ρ'):Go (g ρ) N C B R:=by rw [e];exact .nx q
theorem ou {d:Da} (e:g ρ=.rt d) (q:R d):Go (g ρ) N C B R:=by rw [e];exact .rt q
theorem su {t:Rho->Option Bool} {b:Bool} (e:t ρ=some b) (q1:b=true->Go (g ρ) N C B R) (q2:b=false->Go (h ρ) N C B R):Go (sIf t g h ρ) N C B R:=by
 unfold sIf
 cases b with
 | true=>rw [e];exact q1 rfl
 | false=>rw [e];exact q2 rfl
theorem AZ {α:Type} (enc:α->Da) {t:Da->Rho->Option Rho} (I:List α->Rho->Prop):∀ (post pre:List α) (ρ:Rho),I pre ρ ->
 (∀ pre' x post' ρ,pre++post=pre'++x::post'->I pre' ρ->∃ ρ1,t (enc x) ρ=some ρ1/\Go (g ρ1) (I (pre'++[x])) (I (pre'++[x])) N R)->(∀ ρ,I (pre++post) ρ->N ρ)->Go (Co t g (post.map enc) ρ) N C B R
 | [],pre,ρ,i,_,fin=>.nx (fin ρ (by rw [e8];exact i))
 | x::post,pre,ρ,i,step,fin=>by
   obtain ⟨ρ1,e1,q⟩:=step pre x post ρ rfl i
   show Go (match t (enc x) ρ with | none=>.bad | some ρ1=>match g ρ1 with | .nx ρ2=>Co t g (post.map enc) ρ2 | .ct ρ2=>Co t g (post.map enc) ρ2 | .bk ρ2=>.nx ρ2 | .rt d=>.rt d | .bad=>.bad) N C B R
   rw [e1]
   dsimp only
   have again:∀ ρ2,I (pre++[x]) ρ2->Go (Co t g (post.map enc) ρ2) N C B R:=fun ρ2 i2 =>
    AZ enc I post (pre++[x]) ρ2 i2 (fun pre' y post' ρ e=>step pre' y post' ρ (by rw [<- e];simp)) (fun ρ i=>fin ρ (by simpa using i))
   generalize g ρ1=r at q
   cases q with
   | nx q=>exact again _ q
   | ct q=>exact again _ q
   | bk q=>exact .nx q
   | rt q=>exact .rt q
theorem kj {α:Type} {enc:α->Da} {t:Da->Rho->Option Rho} {f:Rho->Option (List Da)} (I:List α->Rho->Prop) {xs:List α} (e:f ρ=some (xs.map enc)) (i0:I [] ρ)
 (step:∀ pre x post ρ,xs=pre++x::post->I pre ρ->∃ ρ1,t (enc x) ρ=some ρ1/\Go (g ρ1) (I (pre++[x])) (I (pre++[x])) N R) (fin:∀ ρ,I xs ρ->N ρ):Go (qV f t g ρ) N C B R:=by
 unfold qV
 rw [e]
 exact AZ enc I xs [] ρ i0 (fun pre x post ρ e=>step pre x post ρ e) fin
theorem oE {t:Rho->Option Bool} (I:Nat->Rho->Prop):∀ (n m:Nat) (ρ:Rho),m<n->I m ρ->(∀ m ρ,I m ρ->∃ b,t ρ=some b/\(b=false->N ρ)/\(b=true->Go (g ρ) (fun ρ'=>∃ m',m'<m/\I m' ρ') (fun ρ'=>∃ m',m'<m/\I m' ρ') N R))->Go (jC t g n ρ) N C B R
 | 0,m,ρ,h,_,_=>absurd h (qd _)
 | n+1,m,ρ,hm,i,step=>by
   obtain ⟨b,eb,h0,h1⟩:=step m ρ i
   unfold jC
   rw [eb]
   cases b with
   | false=>exact .nx (h0 rfl)
   | true =>
     dsimp only
     have q:=h1 rfl
     have again:∀ ρ2,(∃ m',m'<m/\I m' ρ2)->Go (jC t g n ρ2) N C B R:=fun ρ2 ⟨m',l,i2⟩=>oE I n m' ρ2 (by lia) i2 step
     generalize g ρ=r at q
     cases q with
     | nx q=>exact again _ q
     | ct q=>exact again _ q
     | bk q=>exact .nx q
     | rt q=>exact .rt q
theorem nQ {n:Nat} {ds:List Da} {P:Da->Prop} (q:Go (g (fB n ds)) (fun _=>P .non) (fun _=>False) (fun _=>False) P):∃ d,jr n g ds=some d/\P d:=by
 unfold jr
 generalize g (fB n ds)=r at q
 cases q with
 | nx q=>exact ⟨_,rfl,q⟩
 | ct q=>exact q.elim
 | bk q=>exact q.elim
 | rt q=>exact ⟨_,rfl,q⟩
theorem um {n:Nat} {ds:List Da} {d:Da} (q:Go (g (fB n ds)) (fun _=>False) (fun _=>False) (fun _=>False) (fun d'=>d'=d)):jr n g ds=some d:=by
 obtain ⟨d',e,h⟩:=nQ (P:=fun d'=>d'=d) (q.mono (fun _ z=>z.elim) (fun _ z=>z) (fun _ z=>z) fun _ z=>z)
 rw [e,h]
end
section
variable {α:Type} {enc:α->Da} {c:Rho->Option Bool} {f:Rho->Option Rv} {p:α->Bool} {e:α->Da}
theorem tp {t:Da->Rho->Option Rho} (I:Rho->Prop):∀ (xs:List α) (ρ:Rho),I ρ->(∀ x∈xs,∀ ρ,I ρ->∃ ρ1,t (enc x) ρ=some ρ1/\I ρ1/\c ρ1=some (p x)/\(p x=true->∃ r,f ρ1=some r/\fj r=true/\r.2=e x)) ->
 qk t c f (xs.map enc) ρ=some ((xs.filter p).map e)
 | [],_,_,_=>rfl
 | x::xs,ρ,i,h=>by
   obtain ⟨ρ1,e1,i1,ec,ef⟩:=h x (ah) ρ i
   have ih:=tp (t:=t) I xs ρ1 i1 fun y hy=>h y (af _ hy)
   show (match t (enc x) ρ with
    | none=>none
    | some ρ1=>match c ρ1 with
      | none=>none
      | some false=>qk t c f (xs.map enc) ρ1
      | some true=>match f ρ1 with
        | none=>none
        | some r=>if fj r=true then (match qk t c f (xs.map enc) ρ1 with
          | none=>none
          | some es=>some (r.2::es)) else none)=_
   rw [e1]
   dsimp only
   rw [ec]
   cases hp:p x with
   | false=>dsimp only;rw [ih,ke (by rw [hp];exact aN)]
   | true =>
     dsimp only
     obtain ⟨r,er,pr,e2⟩:=ef hp
     rw [er]
     dsimp only
     rw [if_pos pr,ih,tL hp,ax,e2]
theorem Bl {i:Nat} {ρ:Rho} {xs:List α} (h:∀ x∈xs,c (ρ.set i (.pu (enc x)))=some (p x)/\(p x=true->∃ r,f (ρ.set i (.pu (enc x)))=some r/\fj r=true/\r.2=e x)):qk (tgN i) c f (xs.map enc) ρ=some ((xs.filter p).map e):=by
 refine tp (fun ρ'=>∀ d,ρ'.set i (.pu d)=ρ.set i (.pu d)) xs ρ (fun _=>rfl) fun x hx ρ' i'=>⟨ρ'.set i (.pu (enc x)),rfl,fun d=>?_,?_⟩
 ·rw [vi,i']
 ·rw [i'];exact h x hx
theorem DM {i j:Nat} {ρ:Rho} {xs:List α} {a b:α->Da} (h:∀ x∈xs,c ((ρ.set i (.pu (a x))).set j (.pu (b x)))=some (p x)/\(p x=true->∃ r,f ((ρ.set i (.pu (a x))).set j (.pu (b x)))=some r/\fj r=true/\r.2=e x)) (hij:i≠j) (henc:∀ x,enc x=.tup [a x,b x]) :
 qk (tgT 2 (fW (tgN i) (fW (tgN j) mo))) c f (xs.map enc) ρ=some ((xs.filter p).map e):=by
 refine tp (fun ρ'=>∀ d d',(ρ'.set i (.pu d)).set j (.pu d')=(ρ.set i (.pu d)).set j (.pu d')) xs ρ (fun _ _=>rfl) fun x hx ρ' i'=>⟨(ρ'.set i (.pu (a x))).set j (.pu (b x)),?_,fun d d'=>?_,?_⟩
 ·rw [henc];simp [tgT,fW,tgN,mo]
 ·have e:((ρ'.set i (.pu (a x))).set j (.pu (b x))).set i (.pu d)=(ρ'.set i (.pu d)).set j (.pu (b x)):=by rw [List.set_comm _ _ hij,vi];exact List.set_comm _ _ (Ne.symm hij)
  rw [e,vi,i']
 ·rw [i'];exact h x hx
end
end Ry
namespace Ry
open L2
noncomputable abbrev PI:=Int×Int
noncomputable def dP (p:PI):Da:=.tup [.int p.1,.int p.2]
noncomputable def kP (p:PI):List Key:=[.inl p.1,.inl p.2]
noncomputable def dY (n:Int) (L:List PI):Da:=.tup [.int n,.tup (L.map dP)]
theorem BM {p q:PI} (h:kP p=kP q):p=q:=by
 unfold kP at h
 injection h with h1 h2
 injection h2 with h2 _
 exact j7 (dh h1) (dh h2)
theorem zv (p:PI):mN [.int p.1,.int p.2]=some (kP p):=rfl
theorem fS:∀ ns:List Int,gK (ns.map Da.int)=some ns
 | []=>rfl
 | n::ns=>by show (gK (ns.map Da.int)).map (n::·)=_;rw [fS ns];rfl
theorem vA:∀ S:List PI,sM (S.map dP)=some (S.map fun p=>[p.1,p.2])
 | []=>rfl
 | p::S=>by
   show (match gK [Da.int p.1,Da.int p.2],sM (S.map dP) with | some ns,some ts=>some (ns::ts) | _,_=>none)=_
   rw [vA S];rfl
theorem BS (p q:PI):HT.lexLt [p.1,p.2] [q.1,q.2]=Ms.ltP p q:=by
 unfold HT.lexLt Ms.ltP
 split
 ·unfold HT.lexLt
  split
  ·rename_i h;simp [HT.lexLt,h]
  ·rfl
 ·rfl
theorem lv {ns:List Int} (h:ns.length<64):lU (ns.map Da.int)=some ((Ms.srt Ms.ltI ns).map Da.int):=by
 unfold lU
 rw [fS]
 dsimp only
 rw [if_pos h]
theorem IE {S:List PI} (h:OkN S):OkN (S.map fun p:PI=>[p.1,p.2]):=by
 unfold OkN at *
 rw [ab]
 refine h.imp id fun ⟨a,b⟩=>⟨a,?_⟩
 rw [List.nodup_iff_pairwise_ne] at *
 rw [bz]
 exact b.imp fun {x y} n e=>n (by injection e with e1 e2;injection e2 with e2 _;exact j7 e1 e2)
theorem nT {S:List PI} (h:OkN S):lU (S.map dP)=some ((Ms.srt Ms.ltP S).map dP):=by
 cases S with
 | nil=>rfl
 | cons p S =>
   unfold lU
   have e:gK (gx dP (p::S))=none:=rfl
   rw [e]
   dsimp only
   rw [vA]
   dsimp only
   rw [if_pos ⟨IE h,by simp⟩,Ms.srt_map (lt:=Ms.ltP) (fun a b=>BS a b),aC]
   rfl
theorem wn {S:List PI} (h:S.length<64):lU (S.map dP)=some ((Ms.srt Ms.ltP S).map dP):=nT (.inl h)
noncomputable def dS (S:List PI):Da:=.dT (S.map kP) (S.map fun _=>.bl true)
noncomputable def vz (S:List PI) (p:PI):List PI:=if p∈S then S else S++[p]
theorem sJ {S:List PI} {p q:PI}:q∈vz S p↔q∈S\/q=p:=by
 unfold vz
 split
 ·constructor
  ·exact .inl
  ·rintro (h | h)
   ·exact h
   ·subst h;assumption
 ·rw [aD,ay]
theorem rf {S:List PI} {p:PI} (h:S.Nodup):(vz S p).Nodup:=by
 unfold vz
 split
 ·exact h
 ·rename_i hn
  exact bp.mpr ⟨h,bc _ _,fun a ha b hb=>by rw [ay] at hb;subst hb;intro z;subst z;exact hn ha⟩
theorem CL {S:List PI}:(S.map kP).Nodup↔S.Nodup:=by
 constructor
 ·intro h
  exact List.Pairwise.imp (fun {a b} z w=>z (by rw [w])) (bz.mp h)
 ·intro h
  exact bz.mpr (h.imp fun {a b} z w=>z (BM w))
theorem KJ:∀ (S:List PI) (p:PI),atK (S.map kP) (S.map fun _=>Da.bl true) (kP p)=if p∈S then some (.bl true) else none
 | [],p=>by simp [atK]
 | q::S,p=>by
   show (if kP q=kP p then some (Da.bl true) else atK (S.map kP) (S.map fun _=>Da.bl true) (kP p))=_
   by_cases h:kP q=kP p
   ·rw [if_pos h,if_pos (by rw [BM h];exact ah)]
   ·rw [if_neg h,KJ S p]
    have hne:p≠q:=fun z=>h (by rw [z])
    by_cases hp:p∈S
    ·rw [if_pos hp,if_pos (af _ hp)]
    ·rw [if_neg hp,if_neg (fun z=>(ao.mp z).elim hne hp)]
theorem HF (S:List PI) (p:PI):mv (dS S) (dP p)=some (if p∈S then some (.bl true) else none):=by
 show (match mN [Da.int p.1,Da.int p.2] with | some j=>some (atK (S.map kP) (S.map fun _=>Da.bl true) j) | none=>none)=_
 rw [zv]
 dsimp only
 rw [KJ]
theorem Ht:∀ (S:List PI) (p:PI),hV (S.map kP) (kP p)=(vz S p).map kP/\gZ (S.map kP) (S.map fun _=>Da.bl true) (kP p) (.bl true)=(vz S p).map fun _=>Da.bl true
 | [],p=>⟨rfl,rfl⟩
 | q::S,p=>by
   have ih:=Ht S p
   by_cases h:kP q=kP p
   ·have e:=BM h
    subst e
    have ea:vz (q::S) q=q::S:=by unfold vz;rw [if_pos ah]
    rw [ea]
    constructor
    ·show (if kP q=kP q then _ else _)=_;rw [if_pos rfl];rfl
    ·show (if kP q=kP q then _ else _)=_;rw [if_pos rfl];rfl
   ·have hne:p≠q:=fun z=>h (by rw [z])
    have ea:vz (q::S) p=q::vz S p:=by
     unfold vz
     by_cases hp:p∈S
     ·rw [if_pos hp,if_pos (af _ hp)]
     ·rw [if_neg hp,if_neg (fun z=>(ao.mp z).elim hne hp)];rfl
    rw [ea]
    constructor
    ·show (if kP q=kP p then _ else kP q::hV (S.map kP) (kP p))=_;rw [if_neg h,ih.1];rfl
    ·show (if kP q=kP p then _ else Da.bl true::gZ (S.map kP) (S.map fun _=>Da.bl true) (kP p) (.bl true))=_;rw [if_neg h,ih.2];rfl
theorem EE {S:List PI} (p:PI) (nd:S.Nodup) (hl:S.length<=1000000):HY (dS S) (dP p) (.bl true)=some (dS (vz S p)):=by
 show (match mN [Da.int p.1,Da.int p.2] with | some j=>if (S.map kP).Nodup/\(S.map kP).length<=1000000 then some (Da.dT (hV (S.map kP) j) (gZ (S.map kP) (S.map fun _=>Da.bl true) j (.bl true))) else none | none=>none)=_
 rw [zv]
 dsimp only
 rw [if_pos ⟨CL.mpr nd,by rw [ab];exact hl⟩,(Ht S p).1,(Ht S p).2]
 rfl
noncomputable def rgI (lo:Int):Nat->List Int
 | 0=>[]
 | n+1=>lo::rgI (lo+1) n
theorem fw:∀ (n:Nat) (lo:Int),fE lo n=(rgI lo n).map Da.int
 | 0,_=>rfl
 | n+1,lo=>by show Da.int lo::fE (lo+1) n=_;rw [fw n];rfl
theorem eQ:∀ {n:Nat} {lo x:Int},x∈rgI lo n↔lo<=x/\x<lo+n
 | 0,lo,x=>by unfold rgI;constructor;intro h;cases h;intro h;exfalso;lia
 | n+1,lo,x=>by unfold rgI;rw [ao,eQ];lia
theorem fm:∀ (n:Nat) (lo:Int),(rgI lo n).length=n
 | 0,_=>rfl
 | n+1,lo=>by unfold rgI;rw [aI,fm n]
theorem iy:∀ (n:Nat) (lo:Int),(rgI lo n).Pairwise fun a b=>Ms.ltI a b=true
 | 0,_=>.nil
 | n+1,lo=>bI.mpr ⟨fun x hx=>by have:=eQ.mp hx;simp only [Ms.ltI,decide_eq_true_eq];lia,iy n _⟩
structure Yd (n:Int) (L:List PI):Prop where
 srt:L.Pairwise fun p q=>Ms.ltP p q=true
 rg:∀ p∈L,(0<=p.1/\p.1<n)/\0<=p.2/\p.2<n
 irr:∀ a,(a,a)∉L
 tr:∀ a b c,(a,b)∈L->(b,c)∈L->(a,c)∈L
theorem Yd.nd {n:Int} {L:List PI} (h:Yd n L):L.Nodup:=h.srt.imp fun {a b} z w=>by subst w;rw [Ms.linP.irr] at z;cases z
end Ry
set_option linter.unusedSimpArgs false
namespace Ry
open PySem L2
@[simp] theorem iw (i:Nat) (ρ:Rho):aT i ρ=( match ρ[i]? with
  | some (.pu d)=>some (.pu,d)
  | some (.ow d)=>some (.bo,d)
  | _=>none:Option Rv):=rfl
@[simp] theorem JM (d:Da) (ρ:Rho):xC d ρ=( some (.pu,d):Option Rv):=rfl
@[simp] theorem GU (r:Rv) (ρ:Rho):xC2 r ρ=( some r:Option Rv):=rfl
@[simp] theorem u4 (op:Rv->Rv->Option Rv) (fa fb:Rho->Option Rv) (ρ:Rho):x2 op fa fb ρ=( match fa ρ with
  | none=>none
  | some a=>match fb ρ with
    | none=>none
    | some b=>op a b:Option Rv):=rfl
@[simp] theorem rY (f:List Rv->Option Rv) (g:Rho->Option (List Rv)) (ρ:Rho):xB f g ρ=( match g ρ with
  | none=>none
  | some rs=>f rs:Option Rv):=rfl
@[simp] theorem b8 (f:Rho->Option Rv) (g:Rho->Option (List Rv)) (ρ:Rho):aL f g ρ=( match f ρ with
  | none=>none
  | some r=>match g ρ with
    | none=>none
    | some rs=>some (r::rs):Option (List Rv)):=rfl
@[simp] theorem dN (ρ:Rho):ck ρ=( some []:Option (List Rv)):=rfl
@[simp] theorem uG (g:Rho->Option (List Rv)) (ρ:Rho):mz g ρ=( match g ρ with
  | none=>none
  | some rs=>match kX rs with
    | none=>none
    | some ds=>if ds.length<=1000 then some (.pu,.tup ds) else none:Option Rv):=rfl
@[simp] theorem xLst_s (g:Rho->Option (List Rv)) (ρ:Rho):DQ g ρ=( match g ρ with
  | none=>none
  | some rs=>match kX rs with
    | none=>none
    | some ds=>if ds.length<=1000 then some (.fr,.lst ds) else none:Option Rv):=rfl
@[simp] theorem Kt (f:Rho->Option Rv) (ρ:Rho):pe f ρ=( match f ρ with
  | some (_,.int i)=>some (.pu,.int (-i))
  | _=>none:Option Rv):=rfl
@[simp] theorem xNot_s (fa:Rho->Option Rv) (ρ:Rho):LQ fa ρ=( match fa ρ with
  | some (_,.bl b)=>some (.pu,.bl (!b))
  | _=>none:Option Rv):=rfl
@[simp] theorem xAnd_s (fa fb:Rho->Option Rv) (ρ:Rho):LR fa fb ρ=( match fa ρ with
  | some (_,.bl true)=>fb ρ
  | some (_,.bl false)=>some (.pu,.bl false)
  | _=>none:Option Rv):=rfl
@[simp] theorem xOr_s (fa fb:Rho->Option Rv) (ρ:Rho):xOr fa fb ρ=( match fa ρ with
  | some (_,.bl true)=>some (.pu,.bl true)
  | some (_,.bl false)=>fb ρ
  | _=>none:Option Rv):=rfl
@[simp] theorem LF (t:Rho->Option Bool) (fa fb:Rho->Option Rv) (ρ:Rho):xIf t fa fb ρ=( match t ρ with
  | some true=>fa ρ
  | some false=>fb ρ
  | none=>none:Option Rv):=rfl
@[simp] theorem pE (fn:List Da->Option Da) (g:Rho->Option (List Rv)) (ρ:Rho):cC fn g ρ=( match g ρ with
  | none=>none
  | some rs=>match kX rs with
    | none=>none
    | some ds=>match fn ds with
      | none=>none
      | some d=>some (.pu,d):Option Rv):=rfl
@[simp] theorem Es (f:Rho->Option Rv) (ρ:Rho):tb f ρ=( match f ρ with
  | some (_,.bl b)=>some b
  | _=>none:Option Bool):=rfl
@[simp] theorem Ki (f:Rho->Option Rv) (ρ:Rho):tTr f ρ=( match f ρ with
  | some r=>trD r.2
  | none=>none:Option Bool):=rfl
@[simp] theorem tNotX_s (ta:Rho->Option Bool) (ρ:Rho):La ta ρ=( (ta ρ).map (!·):Option Bool):=rfl
@[simp] theorem tAndX_s (ta tc:Rho->Option Bool) (ρ:Rho):yx ta tc ρ=( match ta ρ with
  | some true=>tc ρ
  | some false=>some false
  | none=>none:Option Bool):=rfl
@[simp] theorem JH (ta tc:Rho->Option Bool) (ρ:Rho):HZ ta tc ρ=( match ta ρ with
  | some true=>some true
  | some false=>tc ρ
  | none=>none:Option Bool):=rfl
@[simp] theorem i6 (i:Nat) (f:Rho->Option Rv) (ρ:Rho):nv i f ρ=( match f ρ with
  | some r=>if fj r=true then .nx (ρ.set i (.pu r.2)) else .bad
  | none=>.bad:Res):=rfl
@[simp] theorem sOwn_s (i:Nat) (f:Rho->Option Rv) (ρ:Rho):AN i f ρ=( match f ρ with
  | some (.fr,d)=>.nx (ρ.set i (.ow d))
  | _=>.bad:Res):=rfl
@[simp] theorem g9 (f:Rho->Option Rv) (ρ:Rho):fT f ρ=( match f ρ with
  | some r=>.rt r.2
  | none=>.bad:Res):=rfl
@[simp] theorem sRet_s (f:Rho->Option Rv) (ρ:Rho):L7 f ρ=( match f ρ with
  | some r=>if r.1=.pu\/nN r.2=false then .rt r.2 else .bad
  | none=>.bad:Res):=rfl
@[simp] theorem sSeq_s (g h:Rho->Res) (ρ:Rho):iP g h ρ=( match g ρ with
  | .nx ρ'=>h ρ'
  | r=>r:Res):=rfl
@[simp] theorem sNext_s (ρ:Rho):m8 ρ=( .nx ρ:Res):=rfl
@[simp] theorem sIf_s (t:Rho->Option Bool) (g h:Rho->Res) (ρ:Rho):sIf t g h ρ=( match t ρ with
  | some true=>g ρ
  | some false=>h ρ
  | none=>.bad:Res):=rfl
@[simp] theorem o7 (i:Nat) (f:Rho->Option Rv) (ρ:Rho):lT i f ρ=( match ρ[i]?,f ρ with
  | some (.ow (.lst ds)),some r=>if fj r=true/\ds.length<=1000000 then .nx (ρ.set i (.ow (.lst (ds++[r.2])))) else .bad
  | _,_=>.bad:Res):=rfl
@[simp] theorem sPop_s (i j:Nat) (ρ:Rho):Mi i j ρ=( match ρ[i]? with
  | some (.ow (.lst ds))=>match ds.getLast? with
    | some d=>.nx ((ρ.set i (.ow (.lst ds.dropLast))).set j (.pu d))
    | none=>.bad
  | _=>.bad:Res):=rfl
@[simp] theorem xq (i:Nat) (fk fv:Rho->Option Rv) (ρ:Rho):CQ i fk fv ρ=( match ρ[i]?,fk ρ,fv ρ with
  | some (.ow d),some k,some v=>if fj v=true then (match HY d k.2 v.2 with
    | some d'=>.nx (ρ.set i (.ow d'))
    | none=>.bad) else .bad
  | _,_,_=>.bad:Res):=rfl
@[simp] theorem sExtend_s (i:Nat) (f:Rho->Option Rv) (ρ:Rho):Fk i f ρ=( match ρ[i]?,f ρ with
  | some (.ow (.lst ds)),some (.fr,.lst es)=>if ds.length+es.length<=1000000 then .nx (ρ.set i (.ow (.lst (ds++es)))) else .bad
  | _,_=>.bad:Res):=rfl
@[simp] theorem sAsg_s (f:Rho->Option Rv) (t:Da->Rho->Option Rho) (ρ:Rho):Mj f t ρ=( match f ρ with
  | some r=>if fj r=true then (match t r.2 ρ with
    | some ρ'=>.nx ρ'
    | none=>.bad) else .bad
  | none=>.bad:Res):=rfl
@[simp] theorem sDrop_s (f:Rho->Option Rv) (ρ:Rho):Lx f ρ=( match f ρ with
  | some _=>.nx ρ
  | none=>.bad:Res):=rfl
@[simp] theorem nY (f:Rho->Option Rv) (ρ:Rho):ig f ρ=( match f ρ with
  | some (.fr,d)=>some (.pu,d)
  | r=>r:Option Rv):=rfl
@[simp] theorem xSlice_s (fa:Rho->Option Rv) (fl fh:Rho->Option (Option Int)) (ρ:Rho):kh fa fl fh ρ=( match fa ρ,fl ρ,fh ρ with
  | some r,some l,some h=>slD l h r.2
  | _,_,_=>none:Option Rv):=rfl
@[simp] theorem oNone_s (ρ:Rho):pT ρ=( some none:Option (Option Int)):=rfl
@[simp] theorem oSome_s (f:Rho->Option Rv) (ρ:Rho):ot f ρ=( match f ρ with
  | some (_,.int i)=>some (some i)
  | _=>none:Option (Option Int)):=rfl
@[simp] theorem xIsInst_s (i:Da->Option Bool) (f:Rho->Option Rv) (ρ:Rho):wf i f ρ=( match f ρ with
  | some r=>match i r.2 with
    | some b=>some (.pu,.bl b)
    | none=>none
  | none=>none:Option Rv):=rfl
@[simp] theorem xChain_s (op op':Rv->Rv->Option Rv) (fa fb fc:Rho->Option Rv) (ρ:Rho):JN op op' fa fb fc ρ=( match fa ρ,fb ρ with
  | some a,some b=>match op a b with
    | some (_,.bl true)=>match fc ρ with
      | some c=>op' b c
      | none=>none
    | some (_,.bl false)=>some (.pu,.bl false)
    | _=>none
  | _,_=>none:Option Rv):=rfl
@[simp] theorem pC (fd fk fx:Rho->Option Rv) (ρ:Rho):jE fd fk fx ρ=( match fd ρ,fk ρ,fx ρ with
  | some d,some k,some x=>match mv d.2 k.2 with
    | some (some e)=>some (.pu,e)
    | some none=>some x
    | none=>none
  | _,_,_=>none:Option Rv):=rfl
@[simp] theorem jY (f:Rho->Option Rv) (ρ:Rho):cB f ρ=( match f ρ with
  | some (.pu,.lst ds)=>some ds
  | some (.pu,.tup ds)=>some ds
  | some (.pu,.dK ks _)=>some (ks.map jq)
  | _=>none:Option (List Da)):=rfl
@[simp] theorem xN (f:Rho->Option (List Rv)) (ρ:Rho):nM f ρ=( match f ρ with
  | some [(_,.int j)]=>if -(2 ^ 62)<=j/\j<2 ^ 62 then some (fE 0 j.toNat) else none
  | _=>none:Option (List Da)):=rfl
@[simp] theorem JB (f:Rho->Option (List Rv)) (ρ:Rho):Ib f ρ=( match f ρ with
  | some [(_,.int i),(_,.int j)]=>if -(2 ^ 62)<=i/\i<2 ^ 62/\-(2 ^ 62)<=j/\j<2 ^ 62 then some (fE i (j-i).toNat) else none
  | _=>none:Option (List Da)):=rfl
@[simp] theorem tgN_s (i:Nat) (d:Da) (ρ:Rho):tgN i d ρ=( some (ρ.set i (.pu d)):Option Rho):=rfl
@[simp] theorem tgT_s (n:Nat) (t:List Da->Rho->Option Rho) (ds:List Da) (ρ:Rho):tgT n t (.tup ds) ρ=if ds.length=n then t ds ρ else none:=rfl
@[simp] theorem tgCons_s (t:Da->Rho->Option Rho) (u:List Da->Rho->Option Rho) (d:Da) (ds:List Da) (ρ:Rho):fW t u (d::ds) ρ=(match t d ρ with | some ρ'=>u ds ρ' | none=>none):=rfl
@[simp] theorem tgNil_s (ρ:Rho):mo [] ρ=some ρ:=rfl
@[simp] theorem fU:kX []=some []:=rfl
@[simp] theorem fA (r:Rv) (rs:List Rv):kX (r::rs)=if fj r=true then (kX rs).map (r.2::·) else none:=rfl
@[simp] theorem g7 (d:Da):fj (.pu,d)=true:=rfl
@[simp] theorem A8 (d:Da):fj (.fr,d) = !nN d:=rfl
@[simp] theorem De (d:List Da):nN (.lst d)=false:=rfl
@[simp] theorem isDk_tup (d:List Da):nN (.tup d)=false:=rfl
@[simp] theorem isDk_int (d:Int):nN (.int d)=false:=rfl
@[simp] theorem isDk_bl (d:Bool):nN (.bl d)=false:=rfl
@[simp] theorem oI_s (c:Int->Int->Bool) (g:Int->Int->Int) (a b:Kd) (i j:Int):oI c g (a,.int i) (b,.int j)=if c i j=true then some (.pu,.int (g i j)) else none:=rfl
@[simp] theorem oB_s (g:Int->Int->Bool) (a b:Kd) (i j:Int):oB g (a,.int i) (b,.int j)=some (.pu,.bl (g i j)):=rfl
@[simp] theorem oLt_s (a b:Kd) (i j:Int):oLt (a,.int i) (b,.int j)=some (.pu,.bl (decide (i<j))):=rfl
@[simp] theorem Fd (a b:Kd) (i j:Int):n8 (a,.int i) (b,.int j)=some (.pu,.int (i+j)):=rfl
@[simp] theorem E9 (a b:Kd) (xs ys:List Da):n8 (a,.tup xs) (b,.tup ys)=if xs.length+ys.length<=1000000 then some (.pu,.tup (xs++ys)) else none:=by
  unfold n8 D4 DX oI;dsimp only;split<;>rfl
@[simp] theorem Jg (a b:Kd) (xs ys:List Da):n8 (a,.lst xs) (b,.lst ys)=if xs.length+ys.length<=1000000 then some (.fr,.lst (xs++ys)) else none:=by
  unfold n8 D4 DX oI;dsimp only;split<;>rfl
@[simp] theorem oIs_s (n:Bool) (a b:Kd) (i j:Bool):oIs n (a,.bl i) (b,.bl j)=some (.pu,.bl (if n then !(i == j) else i == j)):=rfl
@[simp] theorem cMul_lit (i:Int):uv i 48271=true:=by simp [uv]
@[simp] theorem Je (k:Kd) (ds:List Da):sI [(k,.tup ds)]=some (.pu,.int ds.length):=rfl
@[simp] theorem fLen_l (k:Kd) (ds:List Da):sI [(k,.lst ds)]=some (.pu,.int ds.length):=rfl
@[simp] theorem fTuple_t (k:Kd) (ds:List Da):hE [(k,.tup ds)]=some (.pu,.tup ds):=rfl
@[simp] theorem xS (k:Kd) (ds:List Da):hE [(k,.lst ds)]=some (.pu,.tup ds):=rfl
@[simp] theorem fList_t (k:Kd) (ds:List Da):oZ [(k,.tup ds)]=some (.fr,.lst ds):=rfl
@[simp] theorem fList_l (k:Kd) (ds:List Da):oZ [(k,.lst ds)]=some (.fr,.lst ds):=rfl
@[simp] theorem trD_non:trD .non=some false:=rfl
@[simp] theorem Iv (b:Bool):trD (.bl b)=some b:=rfl
@[simp] theorem trD_int (i:Int):trD (.int i)=some (i != 0):=rfl
@[simp] theorem trD_tup (ds:List Da):trD (.tup ds)=some (!ds.isEmpty):=rfl
@[simp] theorem trD_lst (ds:List Da):trD (.lst ds)=some (!ds.isEmpty):=rfl
theorem zD {α:Type} {xs:List α} {k:Int} (h0:0<=k):atI xs k=xs[k.toNat]?:=by
 unfold atI ixN
 rw [if_pos h0]
 split
 ·rfl
 ·rename_i h
  rw [fP (by lia)];rfl
theorem Fl {a b:Kd} {ds:List Da} {i:Int} {d:Da} (h0:0<=i) (h:ds[i.toNat]?=some d):oIt (a,.tup ds) (b,.int i)=some (.pu,d):=by
 unfold oIt oIx xE
 dsimp only
 rw [zD h0,h]
 rfl
theorem IT {a b:Kd} {ds:List Da} {i:Int} {d:Da} (h0:0<=i) (h:ds[i.toNat]?=some d):oIt (a,.lst ds) (b,.int i)=some (.pu,d):=by
 unfold oIt oIx xE
 dsimp only
 rw [zD h0,h]
 rfl
@[simp] theorem oIt_0 (a b:Kd) (d:Da) (ds:List Da):oIt (a,.tup (d::ds)) (b,.int 0)=some (.pu,d):=Fl (by decide) rfl
@[simp] theorem oIt_1 (a b:Kd) (d e:Da) (ds:List Da):oIt (a,.tup (d::e::ds)) (b,.int 1)=some (.pu,e):=Fl (by decide) rfl
theorem Ir (n:Bool) (a b:Kd) (S:List PI) (p:PI):Aw n (a,dP p) (b,dS S)=some (.pu,.bl (if n then !decide (p∈S) else decide (p∈S))):=by
 unfold Aw
 dsimp only
 rw [HF]
 by_cases h:p∈S<;>simp [h]
@[simp] theorem oIn_S (n:Bool) (a b:Kd) (S:List PI) (x y:Int):oIn n (a,.tup [.int x,.int y]) (b,dS S)=some (.pu,.bl (if n then !decide ((x,y)∈S) else decide ((x,y)∈S))):=by
  unfold oIn
  rw [show Da.tup [.int x,.int y]=dP (x,y) from rfl,Ir]
  rfl
end Ry
namespace G
open PySem L2 Ry
noncomputable def g__law_cell:Rho->Res:=(iP (sIf (tb (x2 oLt (aT 1) (xB sI (aL (aT 0) ck)))) (fT (x2 oIt (aT 0) (aT 1))) m8)
 (fT (xC (.int 0))))
noncomputable def fn__law_cell:List Da->Option Da:=jr 2 g__law_cell
noncomputable def g__law_mix:Rho->Res:=(fT (x2 (oI (fun _ j=>decide (0<j)) (·%·)) (x2 (oI (fun _ j=>decide (0<j)) (·%·)) (x2 (oI uv (·*·)) (aT 0) (xC (.int 48271))) (aT 1)) (aT 2)))
noncomputable def fn__law_mix:List Da->Option Da:=jr 3 g__law_mix
noncomputable def Cr (c m:Int):Nat->Int->List Int->List Int
 | 0,_,_=>[]
 | f+1,k,left=>left.getD ((c+5*k)*48271%9967%(m-k)).toNat 0::Cr c m f (k+1) (left.eraseIdx ((c+5*k)*48271%9967%(m-k)).toNat)
noncomputable def fn__law_perm:List Da->Option Da
 | [.int c,.int m]=>if 0<=m/\m<=1000 then some (.lst ((Cr c m m.toNat 0 (rgI 0 m.toNat)).map Da.int)) else none
 | _=>none
noncomputable def g__law_all:Rho->Res:=(iP (AN 2 (xC2 (.fr,.dT [] [])))
 (iP (qV (cB (ig (aT 1))) (tgN 3)
 (CQ 2 (aT 3) (xC (.bl true))))
 (iP (qV (nM (aL (aT 0) ck)) (tgN 4)
 (qV (nM (aL (aT 0) ck)) (tgN 5)
 (qV (nM (aL (aT 0) ck)) (tgN 6)
 (sIf (yx (tb (x2 (oIn false) (mz (aL (aT 5) (aL (aT 4) ck))) (aT 2))) (tb (x2 (oIn false) (mz (aL (aT 4) (aL (aT 6) ck))) (aT 2)))) (CQ 2 (mz (aL (aT 5) (aL (aT 6) ck))) (xC (.bl true))) m8))))
 (fT (xB eF (aL (aT 2) ck))))))
noncomputable def fn__law_all:List Da->Option Da:=jr 7 g__law_all
noncomputable def g__law_yard:Rho->Res:=(iP (nv 3 (x2 n8 (xC (.int 1)) (cC fn__law_mix (aL (cC fn__law_cell (aL (aT 0) (aL (aT 1) ck))) (aL (xC (.int 9973)) (aL (aT 2) ck))))))
 (iP (nv 4 (x2 n8 (xC (.int 1)) (cC fn__law_mix (aL (cC fn__law_cell (aL (aT 0) (aL (aT 1) ck))) (aL (xC (.int 9949)) (aL (xC (.int 6)) ck))))))
 (iP (nv 5 (cC fn__law_perm (aL (cC fn__law_cell (aL (aT 0) (aL (x2 n8 (aT 1) (xC (.int 1))) ck))) (aL (aT 3) ck))))
 (iP (AN 6 (DQ ck))
 (iP (qV (nM (aL (aT 3) ck)) (tgN 7)
 (qV (Ib (aL (x2 n8 (aT 7) (xC (.int 1))) (aL (aT 3) ck))) (tgN 8)
 (sIf (tb (x2 oLt (cC fn__law_mix (aL (x2 n8 (x2 n8 (cC fn__law_cell (aL (aT 0) (aL (x2 n8 (aT 1) (xC (.int 2))) ck))) (x2 (oI uv (·*·)) (xC (.int 131)) (aT 7))) (x2 (oI uv (·*·)) (xC (.int 17)) (aT 8))) (aL (xC (.int 9941)) (aL (xC (.int 10)) ck)))) (aT 4))) (lT 6 (mz (aL (x2 oIt (aT 5) (aT 7)) (aL (x2 oIt (aT 5) (aT 8)) ck)))) m8)))
 (fun ρ=>(fT (mz (aL (aT 3) (aL (xB hE (aL (cC fn__law_all (aL (aT 3) (aL (aT 6) ck))) ck)) ck)))) (frz 6 ρ)))))))
noncomputable def fn__law_yard:List Da->Option Da:=jr 9 g__law_yard
end G
set_option linter.unusedSimpArgs false
namespace G
open PySem L2 Ry
theorem sB (S:List Int) (k:Int) (hk:0<=k):fn__law_cell [.lst (S.map Da.int),.int k]=some (.int (S.getD k.toNat 0)):=by
 by_cases h:k<(S.length:Int)
 ·have h2:k.toNat<S.length:=by lia
  simp [fn__law_cell,jr,fB,g__law_cell,h,oIt,oIx,xE,atI,ixN,hk,h2]
 ·have h2:¬ k.toNat<S.length:=by lia
  simp [fn__law_cell,jr,fB,g__law_cell,h,oIt,oIx,xE,atI,ixN,hk,h2]
theorem w8 (c p m:Int) (hp:0<p) (hm:0<m):fn__law_mix [.int c,.int p,.int m]=some (.int (c*48271%p%m)):=by
 simp [fn__law_mix,jr,fB,g__law_mix,hp,hm]
inductive Cl (T:List PI):Int->Int->Prop where
 | of {a b:Int}:(a,b)∈T->Cl T a b
 | tr {a b c:Int}:Cl T a b->Cl T b c->Cl T a c
theorem Cl.rg {T:List PI} {n:Int} (h:∀ p∈T,(0<=p.1/\p.1<n)/\0<=p.2/\p.2<n) {a b:Int} (c:Cl T a b):(0<=a/\a<n)/\0<=b/\b<n:=by
 induction c with
 | of m=>exact h _ m
 | tr _ _ i1 i2=>exact ⟨i1.1,i2.2⟩
structure Ph (n c:Int) (S cur:List PI) (done:Int->Int->Prop):Prop where
 nd:cur.Nodup
 mem:∀ a b,(a,b)∈cur↔(a,b)∈S\/(done a b/\(a,c)∈S/\(c,b)∈S)
theorem Ph.l {n c:Int} {S cur:List PI} {done:Int->Int->Prop} (h:Ph n c S cur done) (a:Int):(a,c)∈cur↔(a,c)∈S:=by
 rw [h.mem];constructor
 ·rintro (z | z);exact z;exact z.2.1
 ·exact .inl
theorem Ph.r {n c:Int} {S cur:List PI} {done:Int->Int->Prop} (h:Ph n c S cur done) (b:Int):(c,b)∈cur↔(c,b)∈S:=by
 rw [h.mem];constructor
 ·rintro (z | z);exact z;exact z.2.2
 ·exact .inl
theorem Ph.start {n c:Int} {S:List PI} (nd:S.Nodup):Ph n c S S (fun _ _=>False):=⟨nd,fun a b=>by simp⟩
theorem Ph.weak {n c:Int} {S cur:List PI} {d d':Int->Int->Prop} (h:Ph n c S cur d) (e:∀ a b,d a b↔d' a b):Ph n c S cur d':=⟨h.nd,fun a b=>by rw [h.mem,e]⟩
theorem Ph.yes {n c:Int} {S cur:List PI} {d:Int->Int->Prop} (h:Ph n c S cur d) {a b:Int} (h1:(a,c)∈cur) (h2:(c,b)∈cur):Ph n c S (vz cur (a,b)) (fun x y=>d x y\/(x=a/\y=b)):=by
 refine ⟨rf h.nd,fun x y=>?_⟩
 rw [sJ,h.mem]
 rw [h.l] at h1
 rw [h.r] at h2
 constructor
 ·rintro ((z | z) | z)
  ·exact .inl z
  ·exact .inr ⟨.inl z.1,z.2⟩
  ·cases z;exact .inr ⟨.inr ⟨rfl,rfl⟩,h1,h2⟩
 ·rintro (z | ⟨z | ⟨rfl,rfl⟩,w⟩)
  ·exact .inl (.inl z)
  ·exact .inl (.inr ⟨z,w⟩)
  ·exact .inr rfl
theorem Ph.no {n c:Int} {S cur:List PI} {d:Int->Int->Prop} (h:Ph n c S cur d) {a b:Int} (hn:¬ ((a,c)∈cur/\(c,b)∈cur)):Ph n c S cur (fun x y=>d x y\/(x=a/\y=b)):=by
 refine ⟨h.nd,fun x y=>?_⟩
 rw [h.l,h.r] at hn
 rw [h.mem]
 constructor
 ·rintro (z | z)
  ·exact .inl z
  ·exact .inr ⟨.inl z.1,z.2⟩
 ·rintro (z | ⟨z | ⟨rfl,rfl⟩,w⟩)
  ·exact .inl z
  ·exact .inr ⟨z,w⟩
  ·exact absurd w hn
structure Wa (T:List PI) (n:Int) (k:Int) (S:List PI):Prop where
 nd:S.Nodup
 told:∀ p∈T,p∈S
 cl:∀ a b,(a,b)∈S->Cl T a b
 thr:∀ c,0<=c->c<k->∀ a b,(a,c)∈S->(c,b)∈S->(a,b)∈S
theorem Wa.step {T:List PI} {n k:Int} {S S':List PI} (rg:∀ p∈T,(0<=p.1/\p.1<n)/\0<=p.2/\p.2<n) (h:Wa T n k S) (p:Ph n k S S' (fun a b=>(0<=a/\a<n)/\0<=b/\b<n)):Wa T n (k+1) S':=by
 have all:∀ a b,(a,k)∈S->(k,b)∈S->(a,b)∈S':=fun a b h1 h2 =>
  (p.mem a b).mpr (.inr ⟨⟨((h.cl _ _ h1).rg rg).1,((h.cl _ _ h2).rg rg).2⟩,h1,h2⟩)
 refine ⟨p.nd,fun q hq=>(p.mem q.1 q.2).mpr (.inl (h.told q hq)),fun a b hab=>?_,fun c h0 hc a b h1 h2=>?_⟩
 ·rcases (p.mem a b).mp hab with z | ⟨_,z1,z2⟩
  ·exact h.cl _ _ z
  ·exact (h.cl _ _ z1).tr (h.cl _ _ z2)
 ·by_cases hk:c=k
  ·subst hk
   exact all a b ((p.l a).mp h1) ((p.r b).mp h2)
  ·have hlt:c<k:=by lia
   rcases (p.mem a c).mp h1 with z1 | ⟨_,z1,z2⟩<;>rcases (p.mem c b).mp h2 with w1 | ⟨_,w1,w2⟩
   ·exact (p.mem a b).mpr (.inl (h.thr c h0 hlt a b z1 w1))
   ·exact all a b (h.thr c h0 hlt a k z1 w1) w2
   ·exact all a b z1 (h.thr c h0 hlt k b z2 w1)
   ·exact all a b z1 w2
theorem Wa.fin {T:List PI} {n:Int} {S:List PI} (rg:∀ p∈T,(0<=p.1/\p.1<n)/\0<=p.2/\p.2<n) (h:Wa T n n S) (a b:Int):(a,b)∈S↔Cl T a b:=by
 refine ⟨h.cl a b,fun c=>?_⟩
 induction c with
 | of m=>exact h.told _ m
 | @tr a b c c1 c2 i1 i2=>exact h.thr b (c1.rg rg).2.1 (c1.rg rg).2.2 a c i1 i2
end G
set_option linter.unusedSimpArgs false
namespace G
open PySem L2 Ry
theorem CY (n:Int):((rgI 0 n.toNat).flatMap fun a=>(rgI 0 n.toNat).map fun b=>((a,b):PI)).length=n.toNat*n.toNat:=by
 have:∀ (l m:List Int),(l.flatMap fun a=>m.map fun b=>((a,b):PI)).length=l.length*m.length:=fun l m=>by
  induction l with
  | nil=>simp
  | cons a l ih=>rw [List.flatMap_cons,aO,ih,ab,aI,Nat.add_mul,Nat.one_mul,Nat.add_comm]
 rw [this,fm]
theorem AT {n:Int} {S:List PI} (nd:S.Nodup) (h:∀ p∈S,(0<=p.1/\p.1<n)/\0<=p.2/\p.2<n):S.length<=n.toNat*n.toNat:=by
 rw [<- CY n]
 refine Ms.length_le_of_subset nd fun p hp=>?_
 obtain ⟨h1,h2⟩:=h p hp
 rw [List.mem_flatMap]
 exact ⟨p.1,eQ.mpr (by lia),az.mpr ⟨p.2,eQ.mpr (by lia),rfl⟩⟩
theorem Fi {n:Int} (hn:0<=n) {pre post:List Int} {x:Int} (e:rgI 0 n.toNat=pre++x::post):0<=x/\x<n:=by
 have:x∈rgI 0 n.toNat:=by rw [e];simp
 have:=eQ.mp this
 lia
theorem Di:∀ {m:Nat} {lo:Int} {pre post:List Int} {x:Int},rgI lo m=pre++x::post->x=lo+pre.length
 | 0,lo,pre,post,x,e=>by
   have:=congrArg gs e
   simp [rgI] at this
 | m+1,lo,[],post,x,e=>by
   unfold rgI at e
   injection e with e _
   simp [e]
 | m+1,lo,y::pre,post,x,e=>by
   unfold rgI at e
   rw [Ci] at e
   injection e with _ e
   have:=Di e
   simp only [aI]
   lia
theorem IU {n:Int} {T:List PI} {X:Da} (hn:0<=n) (hn2:n<=1000) (hX:X=.lst (T.map dP)\/X=.tup (T.map dP)) (rg:∀ p∈T,(0<=p.1/\p.1<n)/\0<=p.2/\p.2<n)
 (hl:∀ S:List PI,S.Nodup->(∀ a b,(a,b)∈S↔Cl T a b)->S.length<=63) :
 ∃ L:List PI,fn__law_all [.int n,X]=some (.lst (L.map dP))/\(L.Pairwise fun p q=>Ms.ltP p q=true)/\∀ a b,(a,b)∈L↔Cl T a b:=by
 have small:∀ S:List PI,S.Nodup->(∀ a b,(a,b)∈S->Cl T a b)->S.length<=1000000:=fun S nd h=>by
  refine bO (AT nd fun p hp=>(h p.1 p.2 hp).rg rg) ?_
  exact bO (rE (show n.toNat<=1000 by lia) (show n.toNat<=1000 by lia)) (by decide)
 have key:∃ d,jr 7 g__law_all [.int n,X]=some d/\∃ L:List PI,d=.lst (L.map dP)/\(L.Pairwise fun p q=>Ms.ltP p q=true)/\∀ a b,(a,b)∈L↔Cl T a b:=by
  refine nQ ?_
  unfold g__law_all
  have e0:fB 7 [.int n,X]=[.pu (.int n),.pu X,.no,.no,.no,.no,.no]:=rfl
  rw [e0]
  refine cZ (eM (ρ':=[.pu (.int n),.pu X,.ow (dS []),.no,.no,.no,.no]) rfl ?_)
  refine cZ ?_
  refine kj (enc:=dP) (xs:=T) (fun pre ρ=>∃ S s3,ρ=[.pu (.int n),.pu X,.ow (dS S),s3,.no,.no,.no]/\S.Nodup/\(∀ p∈S,p∈T)/\∀ p∈pre,p∈S) ?_ ⟨[],_,rfl,.nil,by simp,by simp⟩ ?_ ?_
  ·rcases hX with rfl | rfl<;>rfl
  ·rintro pre x post ρ e ⟨S,s3,rfl,nd,sub,has⟩
   refine ⟨_,rfl,?_⟩
   have hp:=EE x nd (small S nd fun a b z=>.of (sub _ z))
   refine eM (ρ':=[.pu (.int n),.pu X,.ow (dS (vz S x)),.pu (dP x),.no,.no,.no]) (by simp [hp]) ⟨_,_,rfl,rf nd,fun p z=>?_,fun p z=>?_⟩
   ·rcases sJ.mp z with z | z
    ·exact sub p z
    ·subst z;rw [e];simp
   ·rw [sJ]
    rcases aD.mp z with z | z
    ·exact .inl (has p z)
    ·exact .inr (by simpa using z)
  rintro ρ ⟨S0,s3,rfl,nd0,sub0,has0⟩
  have rng:∀ (X':Da) (S:List PI) (s3 s4 s5 s6:Sl),nM (aL (aT 0) ck) [.pu (.int n),.pu X',.ow (dS S),s3,s4,s5,s6]=some ((rgI 0 n.toNat).map Da.int):=fun X' S s3 s4 s5 s6=>by
   simp only [xN,b8,iw,dN,br]
   rw [if_pos (by lia),fw]
  refine cZ ?_
  refine kj (enc:=Da.int) (xs:=rgI 0 n.toNat) (fun pre ρ=>∃ S s4 s5 s6,ρ=[.pu (.int n),.pu X,.ow (dS S),s3,s4,s5,s6]/\Wa T n pre.length S) (rng ..) ⟨S0,_,_,_,rfl,nd0,has0,fun a b z=>.of (sub0 _ z),fun c h0 hc=>by simp at hc;lia⟩ ?_ ?_
  ·rintro prec c postc ρ ec ⟨S,s4,s5,s6,rfl,wa⟩
   have hc:=Di ec
   refine ⟨_,rfl,?_⟩
   show Go (qV _ _ _ [.pu (.int n),.pu X,.ow (dS S),s3,.pu (.int c),s5,s6]) _ _ _ _
   refine kj (enc:=Da.int) (xs:=rgI 0 n.toNat) (fun pre ρ=>∃ cur s5 s6,ρ=[.pu (.int n),.pu X,.ow (dS cur),s3,.pu (.int c),s5,s6]/\Ph n c S cur (fun x y=>x∈pre/\0<=y/\y<n)) (rng ..) ⟨S,_,_,rfl,(Ph.start wa.nd).weak fun a b=>by simp⟩ ?_ ?_
   ·rintro prea a posta ρ ea ⟨cur,s5,s6,rfl,ph⟩
    refine ⟨_,rfl,?_⟩
    show Go (qV _ _ _ [.pu (.int n),.pu X,.ow (dS cur),s3,.pu (.int c),.pu (.int a),s6]) _ _ _ _
    refine kj (enc:=Da.int) (xs:=rgI 0 n.toNat) (fun pre ρ=>∃ cur s6,ρ=[.pu (.int n),.pu X,.ow (dS cur),s3,.pu (.int c),.pu (.int a),s6]/\Ph n c S cur (fun x y=>(x∈prea/\0<=y/\y<n)\/(x=a/\y∈pre))) (rng ..) ⟨cur,_,rfl,ph.weak fun x y=>by simp⟩ ?_ ?_
    ·rintro preb b postb ρ eb ⟨cur,s6,rfl,ph⟩
     refine ⟨_,rfl,?_⟩
     have hcl:∀ x y,(x,y)∈cur->Cl T x y:=fun x y z=>by
      rcases (ph.mem x y).mp z with z | ⟨_,z1,z2⟩
      ·exact wa.cl _ _ z
      ·exact (wa.cl _ _ z1).tr (wa.cl _ _ z2)
     have hput:=EE (a,b) ph.nd (small cur ph.nd hcl)
     have ew:∀ x y:Int,((x∈prea/\0<=y/\y<n)\/(x=a/\y∈preb))\/(x=a/\y=b)↔(x∈prea/\0<=y/\y<n)\/(x=a/\y∈preb++[b]):=fun x y=>by
      rw [aD,ay,and_or_left,or_assoc]
     show Go (sIf _ _ _ [.pu (.int n),.pu X,.ow (dS cur),s3,.pu (.int c),.pu (.int a),.pu (.int b)]) _ _ _ _
     refine su (b:=decide ((a,c)∈cur)&&decide ((c,b)∈cur)) ?_ (fun q=>?_) fun q=>?_
     ·cases h1:decide ((a,c)∈cur)<;>simp [h1]
     ·rw [aU,decide_eq_true_eq,decide_eq_true_eq] at q
      refine eM (ρ':=[.pu (.int n),.pu X,.ow (dS (vz cur (a,b))),s3,.pu (.int c),.pu (.int a),.pu (.int b)]) ?_ ⟨_,_,rfl,(ph.yes q.1 q.2).weak ew⟩
      simp only [xq,uG,b8,iw,dN,JM,fA,fU,br,bv,g7,if_true,cw,aI,dg]
      rw [if_pos (by decide)]
      dsimp only
      rw [show Da.tup [.int a,.int b]=dP (a,b) from rfl,hput]
      rfl
     ·rw [Bool.and_eq_false_iff,decide_eq_false_iff_not,decide_eq_false_iff_not] at q
      exact eM rfl ⟨_,_,rfl,(ph.no fun z=>q.elim (fun h=>h z.1) fun h=>h z.2).weak ew⟩
    ·rintro ρ ⟨cur,s6,rfl,ph⟩
     refine ⟨_,_,_,rfl,ph.weak fun x y=>?_⟩
     rw [eQ,aD,ay,or_and_right]
     have:(0<=y/\y<0+(n.toNat:Int))↔0<=y/\y<n:=by lia
     rw [this]
   ·rintro ρ ⟨cur,s5,s6,rfl,ph⟩
    refine ⟨_,_,_,_,rfl,?_⟩
    have wa2:Wa T n (c+1) cur:=by
     have wa':Wa T n c S:=by rw [hc,vv];exact wa
     refine wa'.step rg (ph.weak fun x y=>?_)
     rw [eQ]
     have:(0<=x/\x<0+(n.toNat:Int))↔0<=x/\x<n:=by lia
     rw [this]
    rw [aO,bx]
    have e2:((prec.length+1:Nat):Int)=c+1:=by lia
    rw [e2]
    exact wa2
  ·rintro ρ ⟨S,s4,s5,s6,rfl,wa⟩
   rw [fm] at wa
   have wa':Wa T n n S:=by
    have:((n.toNat:Nat):Int)=n:=by lia
    rw [this] at wa
    exact wa
   have hfin:=wa'.fin rg
   have hlt:=hl S wa'.nd hfin
   have es:(S.map kP).map (fun k=>Da.tup (k.map jq))=S.map dP:=by rw [aC];rfl
   have hso:eF [(.bo,dS S)]=some (.fr,.lst ((Ms.srt Ms.ltP S).map dP)):=by
    show (match lU ((S.map kP).map fun k=>Da.tup (k.map jq)) with | some es=>some (Kd.fr,Da.lst es) | none=>none)=_
    rw [es,nT (.inr ⟨hlt,wa'.nd⟩)]
   refine ou (d:=.lst ((Ms.srt Ms.ltP S).map dP)) (by simp [hso]) ⟨_,rfl,Ms.srt_strict Ms.linP wa'.nd,fun a b=>?_⟩
   rw [(Ms.srt_perm S).mem_iff]
   exact hfin a b
 obtain ⟨d,e,L,rfl,h⟩:=key
 exact ⟨L,e,h⟩
end G
set_option linter.unusedSimpArgs false
namespace G
open PySem L2 Ry
theorem qF {α:Type}:∀ {l:List α} {i:Nat} (d:α),i<l.length->(l.getD i d::l.eraseIdx i).Perm l
 | a::l,0,d,_=>.refl _
 | a::l,i+1,d,h=>by
   have ih:=qF (l:=l) (i:=i) d (by simpa using h)
   rw [List.getD_cons_succ,List.eraseIdx_cons_succ]
   exact (List.Perm.swap ..).trans (ih.cons a)
theorem uw (c m:Int):∀ (f:Nat) (k:Int) (left:List Int),left.length=f->m-k=f->(Cr c m f k left).Perm left
 | 0,k,left,h,_=>by
   have:left=[]:=iM h
   subst this;exact .refl _
 | f+1,k,left,h,hm=>by
   unfold Cr
   have hi:((c+5*k)*48271%9967%(m-k)).toNat<left.length:=by
    have h1:=qe ((c+5*k)*48271%9967) (show m-k≠0 by lia)
    have h2:=m5 ((c+5*k)*48271%9967) (show 0<m-k by lia)
    lia
   refine ((uw c m f (k+1) _ ?_ (by lia)).cons _).trans (qF 0 hi)
   rw [gz hi];lia
theorem BQ (c m:Int) (h0:0<=m) (h1:m<=1000):∃ P:List Int,fn__law_perm [.int c,.int m]=some (.lst (P.map Da.int))/\P.Perm (rgI 0 m.toNat):=by
 refine ⟨Cr c m m.toNat 0 (rgI 0 m.toNat),?_,uw c m m.toNat 0 _ (fm ..) (by lia)⟩
 show (if 0<=m/\m<=1000 then _ else none)=_
 rw [if_pos ⟨h0,h1⟩]
theorem d5 (n:Nat) (lo:Int):(rgI lo n).Nodup:=(iy n lo).imp fun {a b} z w=>by subst w;rw [Ms.linI.irr] at z;cases z
theorem zz {α:Type} {l:List α} {f:α->Da} {i:Nat} {a:α} (h:l[i]?=some a):(l.map f)[i]?=some (f a):=by rw [aA,h];rfl
theorem pH {l:List Int} (nd:l.Nodup) {i j:Nat} {a:Int} (h1:l[i]?=some a) (h2:l[j]?=some a):i=j:=by
 obtain ⟨l1,e1⟩:=aF.mp h1
 obtain ⟨l2,e2⟩:=aF.mp h2
 exact (iD nd).mp (e1.trans e2.symm)
noncomputable def Up (P:List Int) (x y:Int):Prop:=∃ i j:Nat,i<j/\P[i]?=some x/\P[j]?=some y
theorem Up.tr {P:List Int} (nd:P.Nodup) {x y z:Int} (h:Up P x y) (h':Up P y z):Up P x z:=by
 obtain ⟨i,j,l,a,b⟩:=h
 obtain ⟨i',j',l',a',b'⟩:=h'
 have:=pH nd b a'
 exact ⟨i,j',by lia,a,b'⟩
theorem Up.irr {P:List Int} (nd:P.Nodup) {x:Int}:¬ Up P x x:=fun ⟨i,j,l,a,b⟩=>by
 have:=pH nd a b
 lia
theorem Cl.up {P:List Int} (nd:P.Nodup) {T:List PI} (h:∀ a b,(a,b)∈T->Up P a b) {a b:Int} (c:Cl T a b):Up P a b:=by
 induction c with
 | of m=>exact h _ _ m
 | tr _ _ i1 i2=>exact i1.tr nd i2
theorem JZ (c p m:Int) (hm:0<m):0<=c*48271%p%m/\c*48271%p%m<m:=⟨qe _ (by lia),m5 _ hm⟩
theorem C1 {n:Int} {U:List PI} (nd:U.Nodup) (rg:∀ p∈U,(0<=p.1/\p.1<n)/\0<=p.2/\p.2<n) (anti:∀ a b,(a,b)∈U->(b,a)∈U->False):2*U.length<=n.toNat*n.toNat:=by
 have h:=AT (n:=n) (S:=U++U.map fun p=>(p.2,p.1)) (bp.mpr ⟨nd,bz.mpr (nd.imp fun {a b} ne e=>ne (by
  have e1:=congrArg En e
  have e2:=congrArg Eo e
  exact j7 e2 e1)),fun p hp q hq e=>by
   obtain ⟨r,hr,rfl⟩:=az.mp hq
   subst e
   exact anti _ _ hp hr⟩) fun p hp=>by
  rcases aD.mp hp with z | z
  ·exact rg p z
  ·obtain ⟨r,hr,rfl⟩:=az.mp z
   exact ⟨(rg r hr).2,(rg r hr).1⟩
 rw [aO,ab] at h
 lia
theorem Fq (S:List Int) (k most:Int) (hk:0<=k) (h1:1<=most) (h2:most<=11) :
 ∃ (n:Int) (L:List PI),fn__law_yard [.lst (S.map Da.int),.int k,.int most]=some (dY n L)/\1<=n/\n<=most/\Yd n L:=by
 obtain ⟨c0,hc0⟩:∃ c,fn__law_cell [.lst (S.map Da.int),.int k]=some (.int c):=⟨_,sB S k hk⟩
 obtain ⟨c1,hc1⟩:∃ c,fn__law_cell [.lst (S.map Da.int),.int (k+1)]=some (.int c):=⟨_,sB S (k+1) (by lia)⟩
 obtain ⟨c2,hc2⟩:∃ c,fn__law_cell [.lst (S.map Da.int),.int (k+2)]=some (.int c):=⟨_,sB S (k+2) (by lia)⟩
 generalize hn:1+c0*48271%9973%most=n
 have hm0:=w8 (c0) 9973 most (by decide) (by lia)
 have hm1:=w8 (c0) 9949 6 (by decide) (by decide)
 have hr:=JZ (c0) 9973 most (by lia)
 obtain ⟨P,hP,pP⟩:=BQ (c1) n (by lia) (by lia)
 have ndP:P.Nodup:=pP.nodup_iff.mpr (d5 ..)
 have lenP:P.length=n.toNat:=by rw [pP.length_eq,fm]
 have memP:∀ x,x∈P↔0<=x/\x<n:=fun x=>by rw [pP.mem_iff,eQ];lia
 generalize hsh:1+c0*48271%9949%6=sh
 have key:∃ d,jr 9 g__law_yard [.lst (S.map Da.int),.int k,.int most]=some d/\∃ L,d=dY n L/\Yd n L:=by
  refine nQ ?_
  unfold g__law_yard
  have e0:fB 9 [.lst (S.map Da.int),.int k,.int most]=[.pu (.lst (S.map Da.int)),.pu (.int k),.pu (.int most),.no,.no,.no,.no,.no,.no]:=rfl
  rw [e0]
  refine cZ (eM (ρ':=[.pu (.lst (S.map Da.int)),.pu (.int k),.pu (.int most),.pu (.int n),.no,.no,.no,.no,.no]) (by simp [hc0,hm0,<- hn]) ?_)
  refine cZ (eM (ρ':=[.pu (.lst (S.map Da.int)),.pu (.int k),.pu (.int most),.pu (.int n),.pu (.int sh),.no,.no,.no,.no]) (by simp [hc0,hm1,<- hsh]) ?_)
  refine cZ (eM (ρ':=[.pu (.lst (S.map Da.int)),.pu (.int k),.pu (.int most),.pu (.int n),.pu (.int sh),.pu (.lst (P.map Da.int)),.no,.no,.no]) (by simp [hc1,hP]) ?_)
  refine cZ (eM (ρ':=[.pu (.lst (S.map Da.int)),.pu (.int k),.pu (.int most),.pu (.int n),.pu (.int sh),.pu (.lst (P.map Da.int)),.ow (.lst (([]:List PI).map dP)),.no,.no]) (by simp) ?_)
  refine cZ ?_
  have rng:∀ (T:Da) (s7 s8:Sl),nM (aL (aT 3) ck) [.pu (.lst (S.map Da.int)),.pu (.int k),.pu (.int most),.pu (.int n),.pu (.int sh),.pu (.lst (P.map Da.int)),.ow T,s7,s8]=some ((rgI 0 n.toNat).map Da.int):=fun T s7 s8=>by
   simp only [xN,b8,iw,dN,br,bv]
   rw [if_pos (by lia),fw]
  refine kj (enc:=Da.int) (xs:=rgI 0 n.toNat) (fun pre ρ=>∃ (T:List PI) (s7 s8:Sl),ρ=[.pu (.lst (S.map Da.int)),.pu (.int k),.pu (.int most),.pu (.int n),.pu (.int sh),.pu (.lst (P.map Da.int)),.ow (.lst (T.map dP)),s7,s8]/\(∀ a b,(a,b)∈T->Up P a b)/\T.length<=pre.length*12) (rng ..) ⟨[],_,_,rfl,by simp,by simp⟩ ?_ ?_
  ·rintro pre a post ρ e ⟨T,s7,s8,rfl,hT,hl⟩
   have ha:=Di e
   have hpa:=Fi (by lia) e
   have hpl:pre.length<12:=by lia
   refine ⟨_,rfl,?_⟩
   show Go (qV _ _ _ [.pu (.lst (S.map Da.int)),.pu (.int k),.pu (.int most),.pu (.int n),.pu (.int sh),.pu (.lst (P.map Da.int)),.ow (.lst (T.map dP)),.pu (.int a),s8]) _ _ _ _
   have rng2':∀ (T:Da) (s8:Sl),Ib (aL (x2 n8 (aT 7) (xC (.int 1))) (aL (aT 3) ck)) [.pu (.lst (S.map Da.int)),.pu (.int k),.pu (.int most),.pu (.int n),.pu (.int sh),.pu (.lst (P.map Da.int)),.ow T,.pu (.int a),s8]=some ((rgI (a+1) (n-(a+1)).toNat).map Da.int):=fun T s8=>by
    simp only [JB,b8,iw,dN,u4,JM,Fd,br,bv]
    rw [if_pos (by lia),fw]
   refine kj (enc:=Da.int) (xs:=rgI (a+1) (n-(a+1)).toNat) (fun pre2 ρ=>∃ (T:List PI) (s8:Sl),ρ=[.pu (.lst (S.map Da.int)),.pu (.int k),.pu (.int most),.pu (.int n),.pu (.int sh),.pu (.lst (P.map Da.int)),.ow (.lst (T.map dP)),.pu (.int a),s8]/\(∀ a b,(a,b)∈T->Up P a b)/\T.length<=pre.length*12+pre2.length) (rng2' ..) ⟨T,_,rfl,hT,by simpa using hl⟩ ?_ ?_
   ·rintro pre2 b post2 ρ e2 ⟨T,s8,rfl,hT,hl⟩
    have hb:=Di e2
    have hpb:a<b/\b<n:=by
     have:b∈rgI (a+1) (n-(a+1)).toNat:=by rw [e2];simp
     have:=eQ.mp this
     lia
    have hl2:pre2.length<=12:=by lia
    refine ⟨_,rfl,?_⟩
    have hm2:=w8 (c2+131*a+17*b) 9941 10 (by decide) (by decide)
    show Go (sIf _ _ _ [.pu (.lst (S.map Da.int)),.pu (.int k),.pu (.int most),.pu (.int n),.pu (.int sh),.pu (.lst (P.map Da.int)),.ow (.lst (T.map dP)),.pu (.int a),.pu (.int b)]) _ _ _ _
    have cm1:uv 131 a=true:=by simp [uv]
    have cm2:uv 17 b=true:=by simp [uv]
    refine su (b:=decide ((c2+131*a+17*b)*48271%9941%10<sh)) (by simp [hc2,hm2,cm1,cm2]) (fun _=>?_) fun _=>?_
    ·obtain ⟨x,hx⟩:∃ x,P[a.toNat]?=some x:=⟨P[a.toNat]'(by lia),aj _⟩
     obtain ⟨y,hy⟩:∃ y,P[b.toNat]?=some y:=⟨P[b.toNat]'(by lia),aj _⟩
     have hix:=IT (a:=.pu) (b:=.pu) (show (0:Int)<=a by lia) (zz (f:=Da.int) hx)
     have hiy:=IT (a:=.pu) (b:=.pu) (show (0:Int)<=b by lia) (zz (f:=Da.int) hy)
     refine eM (ρ':=[.pu (.lst (S.map Da.int)),.pu (.int k),.pu (.int most),.pu (.int n),.pu (.int sh),.pu (.lst (P.map Da.int)),.ow (.lst ((T++[(x,y)]).map dP)),.pu (.int a),.pu (.int b)]) ?_ ⟨_,_,rfl,fun u v huv=>?_,?_⟩
     ·simp only [o7,uG,b8,iw,dN,u4,fA,fU,br,bv,hix,hiy,g7,if_true,cw,aI,dg,ab,bE]
      rw [if_pos (by decide)]
      dsimp only
      rw [if_pos ⟨rfl,by rw [ab];lia⟩]
      rfl
     ·rcases aD.mp huv with z | z
      ·exact hT u v z
      ·rw [ay] at z;cases z;exact ⟨a.toNat,b.toNat,by lia,hx,hy⟩
     ·rw [aO,aO,bx,bx];lia
    ·exact eM rfl ⟨_,_,rfl,hT,by rw [aO];lia⟩
   ·rintro ρ ⟨T,s8,rfl,hT,hl⟩
    rw [fm] at hl
    exact ⟨_,_,_,rfl,hT,by rw [aO,bx];lia⟩
  ·rintro ρ ⟨T,s7,s8,rfl,hT,hl⟩
   have rg:∀ p∈T,(0<=p.1/\p.1<n)/\0<=p.2/\p.2<n:=fun p hp=>by
    obtain ⟨i,j,_,a,b⟩:=hT p.1 p.2 hp
    exact ⟨(memP _).mp (bJ a),(memP _).mp (bJ b)⟩
   obtain ⟨L,hL,sL,mL⟩:=IU (X:=.lst (T.map dP)) (show 0<=n by lia) (by lia) (.inl rfl) rg fun U nd mU=>by
    have:=C1 (n:=n) nd (fun p hp=>((mU p.1 p.2).mp hp).rg rg) fun a b h1 h2=>((((mU a b).mp h1).tr ((mU b a).mp h2)).up ndP hT).irr ndP
    have h7:n.toNat<=11:=by lia
    have:=bO this (rE h7 h7)
    lia
   refine ou (d:=dY n L) (by simp [frz,hL,dY]) ⟨L,rfl,sL,fun p hp=>((mL p.1 p.2).mp hp).rg rg,fun a ha=>?_,fun a b c h1 h2=>?_⟩
   ·exact (((mL a a).mp ha).up ndP hT).irr ndP
   ·exact (mL a c).mpr (((mL a b).mp h1).tr ((mL b c).mp h2))
 obtain ⟨d,e,L,rfl,h⟩:=key
 exact ⟨n,L,e,by lia,by lia,h⟩
end G
namespace Ry
open PySem PySem.Spec PyProof.Rows L2 G
theorem Bi:∀ {n:Nat} {lo:Int} {i:Nat},i<n->(rgI lo n)[i]?=some (lo+i)
 | n+1,lo,0,_=>by show some lo=_;simp
 | n+1,lo,i+1,h=>by
   show (rgI (lo+1) n)[i]?=_
   rw [Bi (by lia)]
   congr 1
   lia
theorem tR {α β:Type} (f:α->β):∀ (l:List α) (i:Nat),(l.eraseIdx i).map f=(l.map f).eraseIdx i
 | [],_=>rfl
 | a::l,0=>rfl
 | a::l,i+1=>by
   show f a::(l.eraseIdx i).map f=f a::(l.map f).eraseIdx i
   rw [tR f l i]
theorem Au {K:ac} {Gp H:Hp} {ds:List Da} {d:Da} {vs:List V} {Q:VK} {y0 y1 y2:bM} (hl:ds.length=2) (sg:cW Gp H) (tg:Tbs K Gp) (dl:cS K Gp ds vs) (ef:G.fn__law_perm ds=some d) (k:∀ v G' H',Ext Gp H G' H'->Den K G' d v->Q v H') :
 oX (HX (tX K (lp (aL (aT 1) ck))) (mw 2))
  (HS (BV (mpS [none,none,none,some 0,some 2,some 1]) (iX K (nM (aL (aT 1) ck))) (mw 1) (fun _ H Q=>Q true H)
    (tBM K "list" A4 (ku 4) (o5 (tX K (cC G.fn__law_mix (aL (x2 n8 (aT 3) (x2 (oI uv (·*·)) (xC (.int 5)) (aT 1))) (aL (xC (.int 9967)) (aL (x2 (oI (fun _ _=>true) (·-·)) (aT 5) (aT 1)) ck))))) Kr)))) { nx:=fun _ H'=>Q V.non H',rt:=Q } (L2.start [y0,y1,y2] vs) H:=by
 have hs:aK=16777216:=bG
 match ds,hl with
 | [d0,d1],_ =>
   have ⟨c,m,e0,e1⟩:∃ c m,d0=.int c/\d1=.int m:=by
    cases d0<;>cases d1<;>first | exact ⟨_,_,rfl,rfl⟩ | cases ef
   subst e0 e1
   have ef:(if 0<=m/\m<=1000 then some (Da.lst ((Cr c m m.toNat 0 (rgI 0 m.toNat)).map Da.int)) else none)=some d:=ef
   split at ef
   case isFalse=>cases ef
   case isTrue hm =>
   cases ef
   obtain ⟨v0,r,ev,h0,v1,r1,ev1,h1,er⟩:=dl
   cases (show v0=_ from h0)
   cases (show v1=_ from h1)
   cases (show r1=[] from er)
   subst ev1
   subst ev
   show oX _ _ _ [some (.int c),some (.int m),none] H
   have st0:∀ {B Gx Hx:Hp} {s2:Option V},Tbs K Gx->iK K B Gx Hx [some (.int c),some (.int m),s2] [.pu (.int c),.pu (.int m),.no]:=fun {B Gx Hx s2} tg=>by
    refine ⟨rfl,fun i d e=>?_,fun i d e=>?_,fun i j d d' l _ e=>?_,tg⟩
    ·match i,e with
     | 0,e=>cases e;exact ⟨_,rfl,rfl⟩
     | 1,e=>cases e;exact ⟨_,rfl,rfl⟩
     | 2,e=>cases e
    ·match i,e with
     | 0,e=>cases e
     | 1,e=>cases e
     | 2,e=>cases e
    ·match i,e with
     | 0,e=>cases e
     | 1,e=>cases e
     | 2,e=>cases e
   refine ⟨H,Gp,_,(.fr,.lst (fE 0 m.toNat)),sg,cW.refl _,st0 tg,?_,fun v G1 H1 E1 r1=>?_⟩
   ·show (if -(2 ^ 62)<=m/\m<=1000000 then _ else none)=_
    rw [if_pos (by lia)]
   obtain ⟨l,o,rfl,hl0,gl0,hl1,xs,rfl,dxs⟩:=r1
   rw [fw] at dxs
   have exs:=cS.ints.mp dxs
   subst exs
   refine ⟨H,G1,_,fE 0 m.toNat,E1.gh,E1.hh,st0 (tg.mono E1.gg),?_,fun J G2 H2 E2 it p hp=>?_⟩
   ·show (if -(2 ^ 62)<=m/\m<2 ^ 62 then _ else none)=_
    rw [if_pos (by lia)]
   have E02:=E1.trans E2
   have hl2:=E2.hh _ _ hl1
   have gl2:G2 l=none:=E2.nw _ _ hl1 rfl gl0
   have hp0:H p=none:=E02.hh.free hp
   have gp2:G2 p=none:=E02.gh.free hp
   have hlp:l≠p:=fun z=>by rw [z,hp] at hl2;cases hl2
   refine ⟨fun i n σ ys H'=>n=m.toNat-i/\i<=m.toNat/\∃ Gc s1 left don,σ=[none,s1,none,some (.int c),some (.ref l),some (.int m)]/\Ext Gp H Gc H'/\cW G2 Gc/\Gc l=none/\Gc p=none/\H' l=some (.lst (left.map V.int))/\H' p=some (.lst ys)/\ys=don.map V.int/\left.length=m.toNat-i/\don.length=i/\don++Cr c m (m.toNat-i) i left=Cr c m m.toNat 0 (rgI 0 m.toNat),
    ⟨m.toNat,by simp,bV _,G2,_,rgI 0 m.toNat,[],rfl,E02.trans (Ext.own E02.gh hp),cW.refl _,gl2,gp2,by rw [bq hlp];exact hl2,aV,rfl,by rw [fm];lia,rfl,by simp⟩,?_⟩
   rintro i n σ ys H' ⟨rfl,hi,Gc,s1,left,don,rfl,Ec,sc,gl,gp,hl',hp',rfl,lleft,ldon,epop⟩
   refine ⟨hp',by rw [ab];lia,?_⟩
   have lenM:(fE 0 m.toNat).length=m.toNat:=by rw [fw,ab,fm]
   by_cases hlt:i<m.toNat
   ·obtain ⟨hgo,hy⟩:=(it i Gc H' sc Ec.gh).1 (Da.int (i:Int)) (by rw [fw,aA,Bi hlt];simp)
    refine .inr ⟨hgo,fun x H3 yl=>?_⟩
    obtain ⟨G3,E3,dx⟩:=hy x H3 yl
    cases (show x=_ from dx)
    have Ec3:=Ec.trans E3
    have iteX:∀ {A B:Prop},A->(if true=true then A else B):=fun {A B} h=>by rw [if_pos rfl];exact h
    unfold mw
    dsimp only
    refine iteX ?_
    have st3:iK K H G3 H3 [none,some (.int (i:Int)),none,some (.int c),some (.ref l),some (.int m)] [.no,.pu (.int i),.no,.pu (.int c),.no,.pu (.int m)]:=by
     refine ⟨rfl,fun j d e=>?_,fun j d e=>?_,fun j j' d d' l _ e=>?_,tg.mono Ec3.gg⟩
     ·match j,e with
      | 0,e=>cases e
      | 1,e=>cases e;exact ⟨_,rfl,rfl⟩
      | 2,e=>cases e
      | 3,e=>cases e;exact ⟨_,rfl,rfl⟩
      | 4,e=>cases e
      | 5,e=>cases e;exact ⟨_,rfl,rfl⟩
     ·match j,e with
      | 0,e=>cases e
      | 1,e=>cases e
      | 2,e=>cases e
      | 3,e=>cases e
      | 4,e=>cases e
      | 5,e=>cases e
     ·match j,e with
      | 0,e=>cases e
      | 1,e=>cases e
      | 2,e=>cases e
      | 3,e=>cases e
      | 4,e=>cases e
      | 5,e=>cases e
    have hl3:=E3.hh _ _ hl'
    refine ⟨_,rfl,.inl ⟨rfl,_,SqL.of hl3⟩,H,G3,_,(.pu,.int ((c+5*(i:Int))*48271%9967%(m-i))),Ec3.gh,Ec3.hh,st3,?_,fun v G4 H4 E4 r4=>?_⟩
    ·have hmix:=w8 (c+5*(i:Int)) 9967 (m-i) (by decide) (by lia)
     have hcm:uv 5 (i:Int)=true:=by simp [uv]
     simp [hmix,hcm]
    ·cases (show v=_ from r4)
     generalize hidx:(c+5*(i:Int))*48271%9967%(m-i)=idx
     have hmp:0<m-(i:Int):=by lia
     have hi0:0<=idx:=by rw [<- hidx];exact qe _ (by lia)
     have hi1:idx<m-i:=by rw [<- hidx];exact m5 _ hmp
     have hlt2:idx.toNat<left.length:=by lia
     have hl4:=E4.hh _ _ hl3
     have hp4:=E4.hh _ _ (E3.hh _ _ hp')
     refine ⟨l,left.map V.int,idx,idx.toNat,.int (left.getD idx.toNat 0),rfl,rfl,hl4,by lia,by lia,?_,?_,?_⟩
     ·rw [ab]
      exact (AB (by unfold ixN;rw [if_pos hi0,if_pos (by lia)])).1
     ·rw [aA,gI hlt2 0];rfl
     ·have E34:=E3.trans E4
      have gl4:G4 l=none:=E34.nw _ _ hl' rfl gl
      have gp4:G4 p=none:=E34.nw _ _ hp' rfl gp
      have Ec4:=Ec.trans E34
      refine ⟨by rw [bq hlp.symm];exact hp4,m.toNat-(i+1),by lia,rfl,hlt,G4,_,left.eraseIdx idx.toNat,don++[left.getD idx.toNat 0],rfl,(Ec4.mut hl0 gl4).mut hp0 gp4,sc.trans E34.gg,gl4,gp4,?_,aV,by rw [bE];rfl,?_,by rw [aO,bx,ldon],?_⟩
      ·rw [bq hlp,aV,tR]
      ·rw [gz hlt2];lia
      ·rw [<- epop]
       have ef:m.toNat-i=(m.toNat-(i+1))+1:=by lia
       rw [ef]
       show _=don++(left.getD ((c+5*(i:Int))*48271%9967%(m-(i:Int))).toNat 0::Cr c m (m.toNat-(i+1)) ((i:Int)+1) (left.eraseIdx ((c+5*(i:Int))*48271%9967%(m-(i:Int))).toNat))
       rw [hidx,eB]
       rfl
   ·have ei:i=m.toNat:=by lia
    subst ei
    refine .inl ⟨(it m.toNat Gc H' sc Ec.gh).2 lenM,?_⟩
    rw [om] at epop
    have epop':don=Cr c m m.toNat 0 (rgI 0 m.toNat):=by rw [<- epop];exact (e8 _).symm
    refine k _ (upd Gc p (.lst (don.map V.int))) H' ⟨Ec.hh,Ec.gg.trans (cA gp),fun b u z=>?_,fun b u z t w=>?_⟩ ⟨p,_,rfl,SqL.of aV,by rw [<- epop'];exact cS.ints.mpr rfl⟩
    ·by_cases hb:b=p
     ·subst hb;rw [aV] at z;rw [<- z];exact hp'
     ·rw [bq hb] at z;exact Ec.gh b u z
    ·rw [bq (cb z hp0)];exact Ec.nw b u z t w
end Ry
set_option linter.unusedSimpArgs false
namespace Ry
open PySem L2
noncomputable def dE:UD->Int->List Int
 | [],_=>[]
 | (x,l)::D,a=>if x=a then l else dE D a
theorem D7 {l:List Int} {b x:Int}:x∈tF l b↔x∈l\/x=b:=by
 unfold tF
 split
 ·constructor
  ·exact .inl
  ·rintro (h | h)
   ·exact h
   ·subst h;assumption
 ·rw [aD,ay]
theorem tm:∀ (D:UD) (a b x:Int),dE (jR D a b) x=if a=x then tF (dE D a) b else dE D x
 | [],a,b,x=>by
   show (if a=x then [b] else [])=_
   split<;>rfl
 | (y,l)::D,a,b,x=>by
   by_cases h:y=a
   ·subst h
    show dE (if y=y then (y,tF l b)::D else _) x=_
    rw [if_pos rfl]
    show (if y=x then tF l b else dE D x)=if y=x then tF (if y=y then l else _) b else if y=x then l else dE D x
    rw [if_pos rfl]
    split<;>rfl
   ·show dE (if y=a then _ else (y,l)::jR D a b) x=_
    rw [if_neg h]
    show (if y=x then l else dE (jR D a b) x)=if a=x then tF (if y=a then l else dE D a) b else if y=x then l else dE D x
    rw [if_neg h,tm D a b x]
    by_cases h2:a=x
    ·subst h2;rw [if_neg h,if_pos rfl,if_pos rfl]
    ·rw [if_neg h2,if_neg h2]
theorem rN:∀ (D:UD) (a b x:Int),x∈(jR D a b).map (·.1)↔x∈D.map (·.1)\/x=a
 | [],a,b,x=>by simp [jR]
 | (y,l)::D,a,b,x=>by
   unfold jR
   split
   ·rename_i h
    subst h
    simp only [ax,ao]
    constructor
    ·exact .inl
    ·rintro (z | z)
     ·exact z
     ·exact .inl z
   ·rw [ax,ao,ax,ao,rN D a b x,or_assoc]
theorem u7:∀ (D:UD) (a b:Int),(D.map (·.1)).Nodup->((jR D a b).map (·.1)).Nodup
 | [],a,b,_=>by simp [jR]
 | (y,l)::D,a,b,h=>by
   unfold jR
   split
   ·exact h
   ·rename_i hne
    rw [ax,be] at h ⊢
    refine ⟨fun z=>?_,u7 D a b h.2⟩
    rcases (rN D a b y).mp z with z | z
    ·exact h.1 z
    ·exact hne z
structure KS (T:List PI) (D:UD):Prop where
 get:∀ a b,b∈dE D a↔(a,b)∈T
 key:∀ a,a∈D.map (·.1)↔∃ b,(a,b)∈T
 nd:(D.map (·.1)).Nodup
 ndv:∀ a,(dE D a).Nodup
theorem yQ {l:List Int} {b:Int} (h:l.Nodup):(tF l b).Nodup:=by
 unfold tF
 split
 ·exact h
 ·rename_i hn
  exact bp.mpr ⟨h,bc _ _,fun a ha c hc=>by rw [ay] at hc;subst hc;intro z;subst z;exact hn ha⟩
theorem wX:∀ (T T0:List PI) (D:UD),KS T0 D->KS (T0++T) (T.foldl (fun D p=>jR D p.1 p.2) D)
 | [],T0,D,h=>by rw [e8];exact h
 | p::T,T0,D,h=>by
   have:=wX T (T0++[p]) (jR D p.1 p.2) ⟨fun a b=>?_,fun a=>?_,u7 _ _ _ h.nd,fun a=>?_⟩
   ·rw [eB] at this;exact this
   ·rw [tm]
    by_cases e:p.1=a
    ·subst e
     rw [if_pos rfl,D7,h.get,aD,ay]
     constructor
     ·rintro (z | z)
      ·exact .inl z
      ·subst z;exact .inr rfl
     ·rintro (z | z)
      ·exact .inl z
      ·right;rw [<- z]
    ·rw [if_neg e,h.get,aD,ay]
     constructor
     ·exact .inl
     ·rintro (z | z)
      ·exact z
      ·exact absurd (by rw [<- z]) e
   ·rw [rN,h.key]
    constructor
    ·rintro (⟨b,z⟩ | z)
     ·exact ⟨b,bw _ z⟩
     ·subst z;exact ⟨p.2,by simp⟩
    ·rintro ⟨b,z⟩
     rcases aD.mp z with z | z
     ·exact .inl ⟨b,z⟩
     ·rw [ay] at z;right;rw [<- z]
   ·rw [tm]
    split
    ·exact yQ (h.ndv _)
    ·exact h.ndv a
theorem kn (T:List PI):KS T (upp T):=by
 exact wX T [] [] ⟨by simp [dE],by simp,.nil,fun a=>.nil⟩
theorem mj:∀ T:List PI,dQ (T.map dP)=some T
 | []=>rfl
 | p::T=>by show (dQ (T.map dP)).map ((p.1,p.2)::·)=_;rw [mj T];rfl
theorem DA {T:List PI} (h:T.length<=1000):fn_uppers_of [.tup (T.map dP)]=some (dU (upp T)):=by
 unfold fn_uppers_of;dsimp only;rw [mj];dsimp only;rw [if_pos h]
theorem Ef {T:List PI} (h:T.length<=1000):fn_uppers_of [.lst (T.map dP)]=some (dU (upp T)):=by
 unfold fn_uppers_of;dsimp only;rw [mj];dsimp only;rw [if_pos h]
theorem Iy:∀ (D:UD) (a:Int),atK (D.map fun e=>(au e.1:Key)) (D.map fun e=>dD e.2) (au a)=if a∈D.map (·.1) then some (dD (dE D a)) else none
 | [],a=>by simp [atK]
 | (y,l)::D,a=>by
   show (if (au y:Key)=au a then some (dD l) else atK (D.map fun e=>(au e.1:Key)) (D.map fun e=>dD e.2) (au a))=_
   by_cases h:y=a
   ·subst h
    rw [if_pos rfl,if_pos (by simp)]
    simp [dE]
   ·rw [if_neg (fun z=>h (dh z)),Iy D a]
    have e1:(a∈((y,l)::D).map (·.1))↔a∈D.map (·.1):=by
     rw [ax,ao]
     constructor
     ·rintro (z | z)
      ·exact absurd z.symm h
      ·exact z
     ·exact .inr
    have e2:dE ((y,l)::D) a=dE D a:=by show (if y=a then l else dE D a)=_;rw [if_neg h]
    rw [e2]
    by_cases h3:a∈D.map (·.1)
    ·rw [if_pos h3,if_pos (e1.mpr h3)]
    ·rw [if_neg h3,if_neg (fun z=>h3 (e1.mp z))]
theorem v6 (D:UD) (a:Int):mv (dU D) (.int a)=some (if a∈D.map (·.1) then some (dD (dE D a)) else none):=by
 show some (atK _ _ (au a))=_
 rw [Iy]
theorem mG:∀ {D:UD} {a:Int},a∉D.map (·.1)->dE D a=[]
 | [],_,_=>rfl
 | (y,l)::D,a,h=>by
   rw [ax,ao] at h
   unfold dE
   rw [if_neg (fun z=>h (.inl z.symm)),mG fun z=>h (.inr z)]
theorem xu (D:UD) (a:Int) (f g:Rho->Option Rv) (ρ:Rho) {k k':Kd} (hf:f ρ=some (k,dU D)) (hg:g ρ=some (k',.int a)) :
 ig (jE f g (xC2 (.fr,.dK [] []))) ρ=some (.pu,dD (dE D a)):=by
 simp only [nY,pC,hf,hg,GU,v6]
 by_cases h:a∈D.map (·.1)
 ·rw [if_pos h]
 ·rw [if_neg h,mG h];rfl
theorem rS {f:Rho->Option Rv} {ρ:Rho} {l:List Int} (h:f ρ=some (.pu,dD l)):cB f ρ=some (l.map Da.int):=by
 simp only [jY,h,dD,aC]
 rfl
theorem Ik:∀ (l:List Int) (a:Int),atK (l.map (au:Int->Key)) (l.map fun _=>Da.bl true) (au a)=if a∈l then some (.bl true) else none
 | [],a=>by simp [atK]
 | y::l,a=>by
   show (if (au y:Key)=au a then some (Da.bl true) else atK (l.map (au:Int->Key)) (l.map fun _=>Da.bl true) (au a))=_
   by_cases h:y=a
   ·subst h;rw [if_pos rfl,if_pos (by simp)]
   ·rw [if_neg (fun z=>h (dh z)),Ik l a]
    by_cases h3:a∈l
    ·rw [if_pos h3,if_pos (af _ h3)]
    ·rw [if_neg h3,if_neg (fun z=>(ao.mp z).elim (fun w=>h w.symm) h3)]
theorem Hv (n:Bool) (a b:Kd) (l:List Int) (x:Int):oIn n (a,.int x) (b,dD l)=some (.pu,.bl (if n then !decide (x∈l) else decide (x∈l))):=by
 unfold oIn Aw
 dsimp only
 rw [show mv (dD l) (.int x)=some (if x∈l then some (.bl true) else none) from by show some (atK _ _ (au x))=_;rw [Ik]]
 by_cases h:x∈l<;>simp [h]
end Ry
namespace Ry
open PySem PySem.Spec PyProof.Rows L2
open PySem.W (Looks)
section
variable {prog:bC} {w:cf} {A:bL} {E:ae->ai->Prop} {s:ai}
theorem zU {l b:ak} {items items2:Array ae} {ns ms:List Int} {Q:Bool->ai->Prop} (hl:jS s.heap l items) (hb:jS s.heap b items2) (hi:dR items.toList ns) (hj:dR items2.toList ms)
 (hu:A.units<cr) (h:Q (HT.lexLt ns ms) s):aM (bg prog w) A (oneLt' true (.ref l) (.ref b)) Q E s:=by
 obtain ⟨⟨cls,dd,data,sl⟩,ho,hc,n,hd⟩:=id hl
 obtain ⟨⟨cls2,dd2,data2,sl2⟩,ho2,hc2,n2,hd2⟩:=id hb
 simp only at hc hd hc2 hd2
 subst hc hd hc2 hd2
 rw [oneLt'_eq]
 simp only [if_true]
 refine aa (wpAny_cRoomFor hu ?_)
 refine aa (rF (T:="tuple") ⟨_,ho,rfl⟩ kr (oJ kr ⟨_,ho,rfl⟩ rq (qw _ _) (HT.tuple_lt_ints l b items items2 n n2 dd dd2 sl sl2 ns ms hi hj) ⟨ho,ho2,?_⟩))
 exact dF h
end
noncomputable def Am (h:cy):List ae->List (Option ae)->Prop
 | [],[]=>True
 | v::vs,f::fs=>(∃ a o xs n,v=.ref a/\h.get? a=some o/\o.cls=.type "tuple"/\o.data=.seq xs n/\xs[0]?=f)/\Am h vs fs
 | _,_=>False
section
variable {M:Model} {A:bL} {E:ae->ai->Prop} {s:ai}
theorem wW:∀ (vs:List ae) (fs:List (Option ae)) {Q:List (Option ae)->ai->Prop},Am s.heap vs fs->Q fs s->aM M A (vs.mapM firstOfTuple') Q E s
 | [],[],_,_,h=>by rw [List.mapM_nil];exact al h
 | [],_::_,_,t,_=>t.elim
 | _::_,[],_,t,_=>t.elim
 | v::vs,f::fs,Q,t,h=>by
   obtain ⟨⟨a,o,xs,n,rfl,ho,hc,hd,hf⟩,t⟩:=t
   rw [List.mapM_cons]
   refine aa ?_
   rw [PySem.W.kas_first_eq]
   refine aa (Looks.here (show Looks M s.heap (typeOf (.ref a)) o.cls from (CA ho).andThen .now) ?_)
   rw [hc,if_neg (by first | decide | simp)]
   refine aa (jx ho hd (al ?_))
   rw [hf]
   exact aa (wW vs fs (Q:=fun bs s'=>aM M A (pure (f::bs)) Q E s') t (al h))
theorem qW:∀ {vs:List ae} {fs:List (Option ae)},Am s.heap vs fs->∀ v∈vs,Looks M s.heap (typeOf v) (.type "tuple")
 | [],_,_,v,h=>by cases h
 | _::_,[],t,_,_=>t.elim
 | u::vs,f::fs,t,v,h=>by
   rcases ao.mp h with rfl | h
   ·obtain ⟨⟨a,o,xs,n,rfl,ho,hc,hd,hf⟩,_⟩:=t
    rw [<- hc]
    exact (CA ho).andThen .now
   ·exact qW t.2 v h
noncomputable def Af (fs:List (Option ae)):iH:=if (fs.toArray[0]?.bind id).isSome=true then general' else ly
theorem KF {vs:List ae} {fs:List (Option ae)} {Q:iH->ai->Prop} (t:Am s.heap vs fs) (h0:vs≠[]) (hne:(fs.toArray.all fun x=>x.isSome)=false) (h:Q (Af fs) s):aM M A (Cw vs.toArray) Q E s:=by
 rw [kat_kind_eq,zq,map_eq_pure_bind]
 refine aa (aa (wW vs fs t (al ?_)))
 rw [if_neg (by rw [hne];exact aN)]
 unfold Af at h
 by_cases z:(fs.toArray[0]?.bind id).isSome=true
 ·rw [if_pos z] at h ⊢
  exact al h
 ·rw [if_neg z] at h ⊢
  rw [oneTypeOnly'_eq,zq,map_eq_pure_bind]
  refine aa (aa (aa (PySem.W.kas_mapM (r:=gj "tuple") _ (fun v hv Q' hq=>(qW t v hv).here hq) (al ?_))))
  obtain ⟨v,r,rfl⟩:∃ v r,vs=v::r:=by
   cases vs with
   | nil=>exact absurd rfl h0
   | cons v r=>exact ⟨v,r,rfl⟩
  have hall:((gx (fun _=>gj "tuple") (v::r)).toArray.all fun x=>x == gj "tuple")=true:=by
   simp only [Cj,nI,cH]
   intro _ _
   rfl
  have h0:(gx (fun _=>gj "tuple") (v::r)).toArray[0]?=some (gj "tuple"):=by simp
  rw [h0]
  simp only [hall,if_true]
  exact al (al h)
end
end Ry
namespace Ry
open PySem PySem.Spec PyProof.Rows L2
noncomputable def qQ (h:cy):ae->Option ae
 | .ref a=>match h.get? a with
   | some o=>match o.data with
     | .seq xs _=>xs[0]?
     | _=>none
   | none=>none
 | _=>none
theorem u0 {h:cy} {a:ak} {o:dz} {xs:Array ae} {n:Nat} (ho:h.get? a=some o) (hd:o.data=.seq xs n):qQ h (.ref a)=xs[0]?:=by
 unfold qQ
 dsimp only
 rw [ho]
 dsimp only
 rw [hd]
theorem xy {h h':cy} (kp:∀ b o,h.get? b=some o->h'.get? b=some o):∀ (vs:List ae),(∀ v∈vs,∃ (a:ak) (its:List ae),v=.ref a/\jS h a its.toArray)->Am h' vs (vs.map (qQ h))
 | [],_=>trivial
 | v::vs,hv=>by
   refine ⟨?_,xy kp vs fun u hu=>hv u (af _ hu)⟩
   obtain ⟨a,its,rfl,o,ho,hc,n,hd⟩:=hv v ah
   refine ⟨a,o,_,n,rfl,kp _ _ ho,hc,hd,(u0 ho hd).symm⟩
section
variable {X:Cx} {pins:List (ak×dz)} {σ:St} {H:Hp} {s:ai}
theorem pb {x:ae} {ts:List (List Int)} {ys:List V} {vs:List ae} {Q:VK} (hu:X.A.in1.in1.units<cr) (I:Inv X pins σ H s) (col:gP X.prog X.w X.A.in1 s x vs) (rv:eG ys vs) (hy:ys.length=ts.length)
 (hys:∀ i,i<ts.length->∃ a,ys[i]?=some (.ref a)/\SqT X.K H a ((ts.getD i []).map V.int)) (h64:OkN ts)
 (k:∀ p q,H p=none->Plc HT.lexLt [] ts q->Q (.ref p) (upd H p (.lst (q.map fun i=>ys.getD i .non)))):aM (bg X.prog X.w) X.A (call (.builtin "sorted") [x]) (EP X pins σ Q) X.xe s:=by
 by_cases hall:∀ i,i<ts.length->ts.getD i []≠[]
 ·exact ju I col rv hy (fun i hi=>by obtain ⟨a,e1,e2⟩:=hys i hi;exact ⟨a,e1,e2,hall i hi⟩) h64 k
 have ⟨i0,hi0,he0⟩:∃ i,i<ts.length/\ts.getD i []=[]:=by
  by_cases z:∃ i,i<ts.length/\ts.getD i []=[]
  ·exact z
  ·exact absurd (fun i hi e=>z ⟨i,hi,e⟩) hall
 have hl:vs.length=ts.length:=by rw [<- rv.length,hy]
 have at':∀ i,i<vs.length->∃ (a:ak) (its:List ae),vs.getD i bB=.ref a/\eG ((ts.getD i []).map V.int) its/\jS s.heap a its.toArray:=fun i hi=>by
  obtain ⟨a,e,sq⟩:=hys i (by lia)
  obtain ⟨u,hu,ru⟩:=rv.get e
  cases (show u=bN a from ru)
  obtain ⟨its,r,it,_⟩:=I.tuple sq
  exact ⟨a,its,by rw [av,hu];rfl,r,it⟩
 have all':∀ v∈vs,∃ (a:ak) (its:List ae),v=.ref a/\jS s.heap a its.toArray:=fun v hv=>by
  obtain ⟨i,hi,rfl⟩:=bT hv
  obtain ⟨a,its,e,_,it⟩:=at' i hi
  exact ⟨a,its,by rw [<- e];simp [hi],it⟩
 refine lj (O:=tE) (κ:=Af (vs.map (qQ s.heap))) (key:=fun i=>ts.getD i []) col (by rw [hl];exact h64.inj []) (fun h' tk kp h2 Q' q=>?_) (fun h' tk kp i j C hi hj c=>?_) fun p h1 h' tk c hp hu k1 kp e=>?_
 ·refine KF (xy kp vs all') (fun z=>by rw [z] at h2;simp at h2) ?_ q
  have hi':i0<vs.length:=by lia
  obtain ⟨a,its,ea,r,o,ho,hc,n,hd⟩:=at' i0 hi'
  rw [he0] at r
  cases r
  rw [Cj,nI,List.all_eq_false]
  refine ⟨vs.getD i0 bB,by rw [av,aj hi'];exact gD hi',?_⟩
  rw [ea]
  show ¬ (qQ s.heap (.ref a)).isSome=true
  rw [u0 ho hd]
  simp
 ·show aM (bg X.prog X.w) _ (zm (Af (vs.map (qQ s.heap))) (vs.getD i bB) (vs.getD j bB)) C _ _
  obtain ⟨a,its,e1,r1,⟨o,ho,hc,n,hd⟩⟩:=at' i hi
  obtain ⟨a',its',e2,r2,⟨o',ho',hc',n',hd'⟩⟩:=at' j hj
  rw [e1,e2]
  have t1:jS h' a its.toArray:=⟨o,kp _ _ ho,hc,n,hd⟩
  have t2:jS h' a' its'.toArray:=⟨o',kp _ _ ho',hc',n',hd'⟩
  unfold Af
  split
  ·exact oj _ _ (HT.lt_tupInts t1 t2 (dM r1) (dM r2) hu c)
  ·exact zU t1 t2 (dM r1) (dM r2) hu c
 ·rw [hl] at hp hu
  have pl:=j0 (O:=tE) ([]:List Int) hp hu
  have hz:aK=16777216:=bG
  have h1p:p.toList.Perm (bH ts.length):=by simpa using cx.mp hp.perm
  have hpm:∀ i∈p.toList,i<ys.length:=fun i hi=>by rw [hy];simpa using h1p.mem_iff.mp hi
  have r2:=jJ rv p.toList hpm
  have h127:ts.length<=63:=by rcases h64 with z | z<;>lia
  have hlen:(p.toList.map fun i=>ys.getD i .non).length<=aK:=by rw [ab,h1p.length_eq,dA];lia
  have I1:Inv X pins σ H { s with heap:=h1,toks:=tk }:=I.kept (t':=tk) k1
  refine ⟨.ref h1.objs.size,_,I1.laid (t':=tk) kp (aw _) (show gV X.prog X.w _ h' _ (.lst _) from ⟨hlen,_,c,r2,e⟩),rfl,k _ p.toList (I1.hok.fresh (aw _)) ⟨h1p,?_⟩⟩
  exact pl.trans (sy tE ts)
end
noncomputable def An (K:ac):List V->Hp->VK->Prop:=fun xs H Q=>∃ (p:ak) (ts:List (List Int)) (ys:List V),xs=[.ref p]/\OkN ts/\ys.length=ts.length/\(SqL K H p ys\/SqT K H p ys)/\(∀ i,i<ts.length->∃ a,ys[i]?=some (.ref a)/\SqT K H a ((ts.getD i []).map V.int)) /\
 ∀ l q,H l=none->Plc HT.lexLt [] ts q->Q (.ref l) (upd H l (.lst (q.map fun i=>ys.getD i .non)))
theorem tZ {X:Cx} (hr:jf 2 X.A):kY X (.builtin "sorted") (An X.K):=by
 intro pins s σ H xs us Q I r h
 obtain ⟨p,ts,ys,rfl,h64,hy,src,hys,k⟩:=h
 obtain ⟨u,rfl,rx⟩:=lC r
 cases rx
 obtain ⟨vs,col,rv⟩:=pq (A:=X.A.in1) I src
 have hu:X.A.in1.in1.units<cr:=by have:=hr.un;show X.A.units+1+1<cr;lia
 exact pb hu I col rv hy hys h64 k
noncomputable def HW (ds:List Da):Option (List Da):=match sM ds with
 | some ts=>if OkN ts then some ((Ms.srt HT.lexLt ts).map fun t=>.tup (t.map Da.int)) else none
 | none=>none
noncomputable def j5:List Rv->Option Rv
 | [(_,.lst ds)]=>match HW ds with | some es=>some (.fr,.lst es) | none=>none
 | [(_,.tup ds)]=>match HW ds with | some es=>some (.fr,.lst es) | none=>none
 | _=>none
theorem vT {K:ac}:Cal K (An K) j5:=by
 intro B H0 G H rs c xs Q sg ra e k
 have seq:∀ {p:ak} {ds:List Da} {ys:List V} {es:List Da},(SqL K H p ys\/SqT K H p ys)->cS K G ds ys->HW ds=some es->c=(.fr,.lst es)->An K [.ref p] H Q:=fun {p ds ys es} sq dl es' ec=>by
  unfold HW at es'
  split at es'
  ·rename_i ts et
   split at es'
   ·rename_i h64
    cases es'
    have ed:=sE et
    have hlen:ys.length=ts.length:=by rw [dl.length,ed,ab]
    have itm:∀ i,i<ts.length->∃ a xs,ys[i]?=some (.ref a)/\G a=some (.tup xs)/\xs=(ts.getD i []).map V.int:=fun i hi=>by
     have:ds[i]?=some (.tup ((ts.getD i []).map Da.int)):=by rw [ed,aA,gI hi []];rfl
     obtain ⟨x,hx,a,xs,rfl,ga,da⟩:=dl.get this
     exact ⟨a,xs,hx,ga,cS.ints.mp da⟩
    refine ⟨p,ts,ys,rfl,h64,hlen,sq,fun i hi=>?_,fun l q hl hq=>?_⟩
    ·obtain ⟨a,xs,e1,e2,e3⟩:=itm i hi
     subst e3
     exact ⟨a,e1,SqT.of (sg _ _ e2)⟩
    ·refine k _ G _ (Ext.own sg hl) ?_
     rw [ec,rO hq]
     refine ⟨l,_,rfl,hl,sg.free hl,aV,_,rfl,jW (K:=K) (G:=G) q fun i hi=>?_⟩
     obtain ⟨a,xs,e1,e2,e3⟩:=itm i (w9 hq hi)
     subst e3
     have e4:ys.getD i .non=.ref a:=by rw [av,e1];rfl
     show Den K G (.tup _) (ys.getD i .non)
     rw [e4]
     exact ⟨a,_,rfl,e2,cS.ints.mpr rfl⟩
   ·cases es'
  ·cases es'
 unfold j5 at e
 split at e
 ·split at e
  ·rename_i es' he
   cases e
   obtain ⟨v,rfl,h⟩:=fK.one ra
   obtain ⟨p,ys,rfl,q,d⟩:=h.lst sg
   exact seq (.inl q) d he rfl
  ·cases e
 ·split at e
  ·rename_i es' he
   cases e
   obtain ⟨v,rfl,h⟩:=fK.one ra
   obtain ⟨p,ys,rfl,q,d,g⟩:=h.tup sg
   exact seq (.inr (SqT.of q)) d he rfl
  ·cases e
 ·cases e
section
variable {X:Cx} {e:aS} {es:List aS} {p pos:ft} {g:Rho->Option (List Rv)}
theorem yq (hr:jf 2 X.A) (hg:Gl X "sorted") (hm:X.mg "sorted" = none) (ha:PXA X (e::es) g) (he:am (e::es) X.env=(false,b9 e X.env)::am es X.env:=by exact bR rfl) (hpl:(cz pos (am es X.env)).any (·.1)=false:=by rfl):PX X (.Call (.Name "sorted" p) (e::es) [] pos) (xB j5 g) :=
 EC (tZ hr) vT hg hm (by decide +kernel) ha (by decide) (by decide) he hpl
end
end Ry
namespace Ry
open PySem PySem.Spec PyProof.Rows L2
open PySem.W (Looks)
section
open PySem.SeqAt
open PySem.AutoSeq1 (wpAny_loadPart')
open PySem.MeetsSeq PySem.MeetsSeq2 PySem.MeetsSeq3
theorem AW {vs:List ae} {ns:List Int} (h:dR vs ns):∀ {i:Nat},i<ns.length->∃ t,vs[i]?=some (.int (ns.getD i 0) t):=by
 induction h with
 | nil=>intro i hi;cases hi
 | cons a t h ih =>
   intro i hi
   cases i with
   | zero=>exact ⟨t,rfl⟩
   | succ i=>exact ih (by simpa using hi)
theorem tq {ns:List Int} {i:Nat} (hi:i<ns.length):ns.drop i=ns.getD i 0::ns.drop (i+1):=by
 rw [e5 hi,av,aj hi];rfl
theorem GX (l b:ak) (items items2:Array ae) (n n2:Nat) (dd dd2:Option ak) (sl sl2:Array (Option ae)) (ns ms:List Int) (hi:dR items.toList ns) (hj:dR items2.toList ms) (k:Nat) :
 ∀ i:Nat,ns.length-i=k->Meets (Builtin.«list.__eq__.loop» ⟨[.ref l,.ref b,iT i,iT 0],[]⟩)
   (fun _ R s=>s.heap.get? l=some { cls:=.type "list",dict:=dd,data:=.seq items n,slots:=sl }/\s.heap.get? b=some { cls:=.type "list",dict:=dd2,data:=.seq items2 n2,slots:=sl2 } /\
     i<=ns.length/\i<=ms.length/\R (.ok (.ret (.bool (HT.lexLt (ns.drop i) (ms.drop i))))) s):=by
 have z1:items.size=ns.length:=by rw [<- hi.length];simp
 have z2:items2.size=ms.length:=by rw [<- hj.length];simp
 induction k with
 | zero =>
   intro i hk prog w A R s h
   obtain ⟨hp,g,d,tk,os⟩:=s;obtain ⟨hl,hb,h1,h2,h⟩:=h
   wp_walk using wpAny_loadPart' hl,wpAny_loadPart' hb
   have hi1:items[((i:Nat):Int).toNat]?=none:=by simp;lia
   rw [hi1]
   have e:HT.lexLt (ns.drop i) (ms.drop i)=decide (items.size<items2.size):=by
    rw [fF (show ns.length<=i by lia)]
    by_cases z:i<ms.length
    ·rw [tq z,HT.lexLt_nil_cons];exact (decide_eq_true (by lia)).symm
    ·rw [fF (by lia),HT.lexLt_nil_nil];exact (decide_eq_false (by lia)).symm
   rw [e] at h
   wp_walk using wpAny_loadPart' hl,wpAny_loadPart' hb
   exact h
 | succ k ih =>
   intro i hk prog w A R s h
   obtain ⟨hp,g,d,tk,os⟩:=s;obtain ⟨hl,hb,h1,h2,h⟩:=h
   wp_walk using wpAny_loadPart' hl,wpAny_loadPart' hb
   obtain ⟨t,et⟩:=AW hi (show i<ns.length by lia)
   have hi1:items[((i:Nat):Int).toNat]?=some (.int (ns.getD i 0) t):=by rw [<- et];simp
   by_cases z:i<ms.length
   ·obtain ⟨u,eu⟩:=AW hj z
    have hi2:items2[((i:Nat):Int).toNat]?=some (.int (ms.getD i 0) u):=by rw [<- eu];simp
    have hc:((i:Int)+1)=((i+1:Nat):Int):=by push_cast;rfl
    rw [tq (show i<ns.length by lia),tq z,HT.lexLt_cons] at h
    rw [hi1,hi2]
    obtain ⟨e,he,hiff⟩:=HT.eqAt_int A.in1 ⟨hp,g,d,tk,os⟩ (ns.getD i 0) t (ms.getD i 0) u
    refine aa (he prog w _ _ ?_)
    cases e with
    | true =>
      rw [if_pos (hiff.mp rfl)] at h
      wp_walk
      rw [hc]
      exact ⟨eW plain_eq_loop _,dr entry_eq_loop (by
       rw [cP plain_eq_loop _]
       exact ih (i+1) (by lia) prog w A R _ ⟨hl,hb,by lia,by lia,h⟩)⟩
    | false =>
      rw [if_neg (fun q=>absurd (hiff.mpr q) aN)] at h
      have hri:=HT.rcLt_int A.in1 ⟨hp,g,d,tk,os⟩ (ns.getD i 0) t (ms.getD i 0) u prog w
      wp_walk using wpAny_loadPart' hl,wpAny_loadPart' hb
      rw [hi1,hi2]
      wp_walk using hri
      exact h
   ·have hi2:items2[((i:Nat):Int).toNat]?=none:=by simp;lia
    rw [hi1,hi2]
    have e:HT.lexLt (ns.drop i) (ms.drop i)=decide (items.size<items2.size):=by
     rw [tq (show i<ns.length by lia),fF (show ms.length<=i by lia),HT.lexLt_cons_nil];exact (decide_eq_false (by lia)).symm
    rw [e] at h
    wp_walk using wpAny_loadPart' hl,wpAny_loadPart' hb
    exact h
theorem uF (l b:ak) (items items2:Array ae) (n n2:Nat) (dd dd2:Option ak) (sl sl2:Array (Option ae)) (ns ms:List Int) (hi:dR items.toList ns) (hj:dR items2.toList ms) :
 Meets (Builtin.«list.__lt__» ⟨[.ref l,.ref b],[]⟩)
  (fun _ R s=>s.heap.get? l=some { cls:=.type "list",dict:=dd,data:=.seq items n,slots:=sl }/\s.heap.get? b=some { cls:=.type "list",dict:=dd2,data:=.seq items2 n2,slots:=sl2 } /\
    R (.ok (.ret (.bool (HT.lexLt ns ms)))) s):=by
 intro prog w A R s h
 obtain ⟨hp,g,d,tk,os⟩:=s;obtain ⟨hl,hb,h⟩:=h
 have f3:=AutoSeq1.sub_list_list
 wp_walk using wpAny_loadPart' hl,wpAny_loadPart' hb
 exact ⟨eW plain_eq_loop _,dr entry_eq_loop (by
  rw [cP plain_eq_loop _]
  exact GX l b items items2 n n2 dd dd2 sl sl2 ns ms hi hj _ 0 rfl prog w A R _ ⟨hl,hb,bV _,bV _,h⟩)⟩
end
section
variable {prog:bC} {w:cf} {A:bL} {E:ae->ai->Prop} {s:ai}
theorem AE {l b:ak} {items items2:Array ae} {ns ms:List Int} {Q:Bool->ai->Prop} (hl:PlainL s.heap l items) (hb:PlainL s.heap b items2) (hi:dR items.toList ns) (hj:dR items2.toList ms)
 (hu:A.units<cr) (h:Q (HT.lexLt ns ms) s):aM (bg prog w) A (oneLt' true (.ref l) (.ref b)) Q E s:=by
 obtain ⟨⟨cls,dd,data,sl⟩,n,ho,hc,_,hd⟩:=id hl
 obtain ⟨⟨cls2,dd2,data2,sl2⟩,n2,ho2,hc2,_,hd2⟩:=id hb
 simp only at hc hd hc2 hd2
 subst hc hd hc2 hd2
 rw [oneLt'_eq]
 simp only [if_true]
 refine aa (wpAny_cRoomFor hu ?_)
 refine aa (rF (T:="list") ⟨_,ho,rfl⟩ tM (oJ tM ⟨_,ho,rfl⟩ PySem.F.entry_list_lt (PySem.F.args_list_lt_2 _ _) (uF l b items items2 n n2 dd dd2 sl sl2 ns ms hi hj) ⟨ho,ho2,?_⟩))
 exact dF h
end
section
variable {X:Cx} {pins:List (ak×dz)} {σ:St} {H:Hp} {s:ai}
theorem oW {x:ae} {ts:List (List Int)} {ys:List V} {vs:List ae} {Q:VK} (hu:X.A.in1.in1.units<cr) (I:Inv X pins σ H s) (col:gP X.prog X.w X.A.in1 s x vs) (rv:eG ys vs) (hy:ys.length=ts.length)
 (hys:∀ i,i<ts.length->∃ a,ys[i]?=some (.ref a)/\SqL X.K H a ((ts.getD i []).map V.int)) (h64:OkN ts)
 (k:∀ p q,H p=none->Plc HT.lexLt [] ts q->Q (.ref p) (upd H p (.lst (q.map fun i=>ys.getD i .non)))):aM (bg X.prog X.w) X.A (call (.builtin "sorted") [x]) (EP X pins σ Q) X.xe s:=by
 have hl:vs.length=ts.length:=by rw [<- rv.length,hy]
 have at':∀ i,i<vs.length->∃ (a:ak) (its:List ae),vs.getD i bB=.ref a/\eG ((ts.getD i []).map V.int) its/\PlainL s.heap a its.toArray:=fun i hi=>by
  obtain ⟨a,e,sq⟩:=hys i (by lia)
  obtain ⟨u,hu,ru⟩:=rv.get e
  cases (show u=bN a from ru)
  obtain ⟨its,r,it,_⟩:=I.list sq
  exact ⟨a,its,by rw [av,hu];rfl,r,it⟩
 refine lj (O:=tE) (κ:=ly) (key:=fun i=>ts.getD i []) col (by rw [hl];exact h64.inj []) (fun h' tk kp h2 Q' q=>?_) (fun h' tk kp i j C hi hj c=>?_) fun p h1 h' tk c hp hu k1 kp e=>?_
 ·refine mV (T:=.type "list") h2 (fun v hv=>?_) (by decide) (by decide) q
  obtain ⟨i,hi,rfl⟩:=bT hv
  obtain ⟨a,its,e,_,o,n,ho,hc,_⟩:=at' i hi
  have e2:vs[i]=.ref a:=by rw [<- e];simp [hi]
  rw [e2,<- hc]
  exact (CA (kp _ _ ho)).andThen .now
 ·show aM (bg X.prog X.w) _ (zm ly (vs.getD i bB) (vs.getD j bB)) C _ _
  obtain ⟨a,its,e1,r1,l1⟩:=at' i hi
  obtain ⟨a',its',e2,r2,l2⟩:=at' j hj
  rw [e1,e2,keyLt'_oneType]
  exact AE (ns:=ts.getD i []) (ms:=ts.getD j []) (l1.keeps kp) (l2.keeps kp) (dM r1) (dM r2) hu c
 ·rw [hl] at hp hu
  have pl:=j0 (O:=tE) ([]:List Int) hp hu
  have hz:aK=16777216:=bG
  have h1p:p.toList.Perm (bH ts.length):=by simpa using cx.mp hp.perm
  have hpm:∀ i∈p.toList,i<ys.length:=fun i hi=>by rw [hy];simpa using h1p.mem_iff.mp hi
  have r2:=jJ rv p.toList hpm
  have h127:ts.length<=63:=by rcases h64 with z | z<;>lia
  have hlen:(p.toList.map fun i=>ys.getD i .non).length<=aK:=by rw [ab,h1p.length_eq,dA];lia
  have I1:Inv X pins σ H { s with heap:=h1,toks:=tk }:=I.kept (t':=tk) k1
  refine ⟨.ref h1.objs.size,_,I1.laid (t':=tk) kp (aw _) (show gV X.prog X.w _ h' _ (.lst _) from ⟨hlen,_,c,r2,e⟩),rfl,k _ p.toList (I1.hok.fresh (aw _)) ⟨h1p,?_⟩⟩
  exact pl.trans (sy tE ts)
end
noncomputable def Ex (K:ac):List V->Hp->VK->Prop:=fun xs H Q=>∃ (p:ak) (ts:List (List Int)) (ys:List V),xs=[.ref p]/\OkN ts/\ys.length=ts.length/\SqL K H p ys/\(∀ i,i<ts.length->∃ a,ys[i]?=some (.ref a)/\SqL K H a ((ts.getD i []).map V.int)) /\
 ∀ l q,H l=none->Plc HT.lexLt [] ts q->Q (.ref l) (upd H l (.lst (q.map fun i=>ys.getD i .non)))
theorem ub {X:Cx} (hr:jf 2 X.A):kY X (.builtin "sorted") (Ex X.K):=by
 intro pins s σ H xs us Q I r h
 obtain ⟨p,ts,ys,rfl,h64,hy,src,hys,k⟩:=h
 obtain ⟨u,rfl,rx⟩:=lC r
 cases rx
 obtain ⟨vs,col,rv⟩:=pq (A:=X.A.in1) I (.inl src)
 have hu:X.A.in1.in1.units<cr:=by have:=hr.un;show X.A.units+1+1<cr;lia
 exact oW hu I col rv hy hys h64 k
theorem DZ {K:ac} {H H':Hp} {a:ak} {xs:List V} (e:cW H H') (h:SqL K H a xs):SqL K H' a xs:=h.imp (HB e) id
noncomputable def yu:List Da->Option (List (List Int))
 | []=>some []
 | .lst xs::r=>match gK xs,yu r with
   | some ns,some ts=>some (ns::ts)
   | _,_=>none
 | _=>none
theorem xv:∀ {ds:List Da} {ts:List (List Int)},yu ds=some ts->ds=ts.map fun t=>Da.lst (t.map Da.int)
 | [],ts,h=>by cases h;rfl
 | .lst xs::r,ts,h=>by
   have h:(match gK xs,yu r with | some ns,some ts=>some (ns::ts) | _,_=>none)=some ts:=h
   split at h
   ·rename_i ns ts' e1 e2
    cases h
    rw [xv e2,gO e1]
    rfl
   ·cases h
 | .non::r,ts,h=>by cases h
 | .bl _::r,ts,h=>by cases h
 | .int _::r,ts,h=>by cases h
 | .str _::r,ts,h=>by cases h
 | .tup _::r,ts,h=>by cases h
 | .dK _ _::r,ts,h=>by cases h
 | .dT _ _::r,ts,h=>by cases h
noncomputable def jj:List Rv->Option Rv
 | [(_,.lst ds)]=>match yu ds with
   | some ts=>if OkN ts then some (.fr,.lst ((Ms.srt HT.lexLt ts).map fun t=>.lst (t.map Da.int))) else none
   | none=>none
 | _=>none
theorem vG {K:ac}:Cal K (Ex K) jj:=by
 intro B H0 G H rs c xs Q sg ra e k
 unfold jj at e
 split at e
 ·rename_i kd ds
  split at e
  ·rename_i ts et
   split at e
   ·rename_i h64
    cases e
    obtain ⟨v,rfl,h⟩:=fK.one ra
    obtain ⟨p,ys,rfl,sq,dl⟩:=h.lst sg
    have ed:=xv et
    have hlen:ys.length=ts.length:=by rw [dl.length,ed,ab]
    have itm:∀ i,i<ts.length->∃ a,ys[i]?=some (.ref a)/\SqL K G a ((ts.getD i []).map V.int):=fun i hi=>by
     have:ds[i]?=some (.lst ((ts.getD i []).map Da.int)):=by rw [ed,aA,gI hi []];rfl
     obtain ⟨x,hx,a,xs,rfl,ga,da⟩:=dl.get this
     have:=cS.ints.mp da
     subst this
     exact ⟨a,hx,ga⟩
    refine ⟨p,ts,ys,rfl,h64,hlen,sq,fun i hi=>?_,fun l q hl hq=>?_⟩
    ·obtain ⟨a,e1,e2⟩:=itm i hi
     exact ⟨a,e1,DZ sg e2⟩
    ·refine k _ G _ (Ext.own sg hl) ?_
     rw [rO hq]
     refine ⟨l,_,rfl,hl,sg.free hl,aV,_,rfl,jW (K:=K) (G:=G) q fun i hi=>?_⟩
     obtain ⟨a,e1,e2⟩:=itm i (w9 hq hi)
     have e4:ys.getD i .non=.ref a:=by rw [av,e1];rfl
     show Den K G (.lst _) (ys.getD i .non)
     rw [e4]
     exact ⟨a,_,rfl,e2,cS.ints.mpr rfl⟩
   ·cases e
  ·cases e
 ·cases e
section
variable {X:Cx} {e:aS} {es:List aS} {p pos:ft} {g:Rho->Option (List Rv)}
theorem yK (hr:jf 2 X.A) (hg:Gl X "sorted") (hm:X.mg "sorted" = none) (ha:PXA X (e::es) g) (he:am (e::es) X.env=(false,b9 e X.env)::am es X.env:=by exact bR rfl) (hpl:(cz pos (am es X.env)).any (·.1)=false:=by rfl):PX X (.Call (.Name "sorted" p) (e::es) [] pos) (xB jj g) :=
 EC (ub hr) vG hg hm (by decide +kernel) ha (by decide) (by decide) he hpl
end
end Ry
namespace Ry
open PySem PySem.Spec PyProof.Rows L2
section
variable {X:Cx} {p pos:ft}
theorem yt {e:aS} {es:List aS} {g:Rho->Option (List Rv)} (hr:jf 2 X.A) (hg:Gl X "sorted") (hm:X.mg "sorted" = none) (ha:QXA X (e::es) g) (he:am (e::es) X.env=(false,b9 e X.env)::am es X.env:=by exact bR rfl) (hpl:(cz pos (am es X.env)).any (·.1)=false:=by rfl) :
 QX X (.Call (.Name "sorted" p) (e::es) [] pos) (xB j5 g):=QX.mk (yq hr hg hm ha.out he hpl)
end
section
variable {P:bC} {w:cf} {K:ac} {mg:bM->Option ae} {base:cy} {x:bM} {st:cX} {N ps:List bM} {k n:Nat} {g:Rho->Res}
theorem qp (hf:fy K mg x st) (S:g8 N ps (bh st)) (hn:ps.length=n)
 (hbind:∀ (kV doc pm:ae) (an:Option ak) (cdv ct:ae) (us:List ae),us.length=ps.length->jT (aZ x x (cF st) (cg st) (bh st) .none kV doc pm an cdv ct) ⟨us,[]⟩=pure (ps.zip us))
 (h:∀ (f:ak) (cdv:ae) (A:bL) (outer:List p4) (s:ai) (H:Hp) (E:XK),jf k (A.deeper (fG x (bh st) s.heap.objs.size f cdv))->(A.deeper (fG x (bh st) s.heap.objs.size f cdv)).units+64<cr->(A.deeper (fG x (bh st) s.heap.objs.size f cdv)).units+1<cr->N.Nodup->qI (xg CX0 P w K mg base N x (bh st) f cdv A outer s H E).nox (cg st) g) :
 Ca P w K mg base x ps (k+1) n (jr N.length g):=K0 hf S hn hbind fun f cdv A outer s H E hr=>(h f cdv A outer s H E hr hr.units (sF hr) S.nd).out
theorem II (hf:o3 K mg x st) (hK:K.In base) (hB:Bm mg base) (S:g8 N ps (bh st)) (hn:ps.length=n)
 (hbind:∀ (kV doc pm:ae) (an:Option ak) (cdv ct:ae) (us:List ae),us.length=ps.length->jT (aZ x x (cF st) (cg st) (bh st) .none kV doc pm an cdv ct) ⟨us,[]⟩=pure (ps.zip us))
 (h:∀ (f c P1:ak) (A:bL) (outer:List p4) (s:ai) (H:Hp) (E:XK),iV base c P1->(P1,x++".<locals>."++"<lambda>")∈iB K->jf k (A.deeper (fG x (bh st) s.heap.objs.size f (.ref c)))->(A.deeper (fG x (bh st) s.heap.objs.size f (.ref c))).units+64<cr->(A.deeper (fG x (bh st) s.heap.objs.size f (.ref c))).units+1<cr->N.Nodup->qI (xg CX0 P w K mg base N x (bh st) f (.ref c) A outer s H E).nox (cg st) g) :
 Ca P w K mg base x ps (k+1) n (jr N.length g):=Ip hf hK hB S hn hbind fun f c P1 A outer s H E hCd hTb hr=>(h f c P1 A outer s H E hCd hTb hr hr.units (sF hr) S.nd).out
theorem LK {f:ak} {fd:dG} (F:Fun K x x st f fd) (S:g8 N ps (bh st)) (hn:ps.length=n)
 (h:∀ (cdv:ae) (A:bL) (outer:List p4) (s:ai) (H:Hp) (E:XK),jf k (A.deeper (fG x (bh st) s.heap.objs.size f cdv))->(A.deeper (fG x (bh st) s.heap.objs.size f cdv)).units+64<cr->(A.deeper (fG x (bh st) s.heap.objs.size f cdv)).units+1<cr->N.Nodup->qI (xg CX0 P w K mg base N x (bh st) f cdv A outer s H E).nox (cg st) g) :
 vF P w K mg base CX0 (k+1) f fd ps (spD K n (jr N.length g)):=ES F S hn fun cdv A outer s H E hr=>(h cdv A outer s H E hr hr.units (sF hr) S.nd).out
end
end Ry
namespace G
open PySem L2 Ry
noncomputable def yH:Rho->Res:=(fT (LR (wf Hk (aT 0)) (LQ (wf Dw (aT 0)))))
noncomputable def ij:List Da->Option Da:=jr 1 yH
end G
set_option linter.unusedSimpArgs false
namespace Ry
open PySem L2
@[simp] theorem JC (n:Bool) (a b:Kd) (i j:Int):oEq n (a,.int i) (b,.int j)=some (.pu,.bl (if n then !(i == j) else i == j)):=by
  unfold oEq
  rw [if_pos (by rfl)]
  rfl
theorem pR:∀ bs:List Bool,nW (bs.map Da.bl)=some bs
 | []=>rfl
 | b::bs=>by unfold nW;rw [ax];dsimp only;rw [pR bs];rfl
@[simp] theorem FM {α:Type} (k:Kd) (f:α->Bool) (xs:List α):Fy [(k,.lst (xs.map fun x=>Da.bl (f x)))]=some (.pu,.bl (xs.all f)):=by
  have:xs.map (fun x=>Da.bl (f x))=(xs.map f).map Da.bl:=by rw [aC];rfl
  rw [this];unfold Fy;dsimp only;rw [pR];dsimp only;rw [nI];rfl
@[simp] theorem Gv {α:Type} (k:Kd) (f:α->Bool) (xs:List α):Ge [(k,.lst (xs.map fun x=>Da.bl (f x)))]=some (.pu,.bl (xs.any f)):=by
  have:xs.map (fun x=>Da.bl (f x))=(xs.map f).map Da.bl:=by rw [aC];rfl
  rw [this];unfold Ge;dsimp only;rw [pR];dsimp only;rw [vj];rfl
theorem lK {n:Nat} {g:Rho->Res} {ds:List Da} {ρ:Rho} {d:Da} (e0:fB n ds=ρ) (h:g ρ=.rt d):jr n g ds=some d:=by unfold jr;rw [e0,h]
theorem dI {α:Type} (xs:List α):xs.filter (fun _=>true)=xs:=by simp
theorem dZ {α:Type} {enc:α->Da} {ix:List (Option Nat)} {fi:Rho->Option (List Da)} {c:Rho->Option Bool} {f:Rho->Option Rv} {i:Nat} {ρ:Rho} {xs:List α} {p:α->Bool} {e:α->Da} (hi:fi ρ=some (xs.map enc)) (hl:xs.length<=1000000)
 (h:∀ x∈xs,c ((mpR ix ρ).set i (.pu (enc x)))=some (p x)/\(p x=true->∃ r,f ((mpR ix ρ).set i (.pu (enc x)))=some r/\fj r=true/\r.2=e x)):fO ix fi (tgN i) c f ρ=some (.fr,.lst ((xs.filter p).map e)):=by
 unfold fO
 rw [hi]
 dsimp only
 rw [if_pos (by rw [ab];exact hl),Bl h]
theorem pD {α:Type} {enc:α->Da} {ix:List (Option Nat)} {fi:Rho->Option (List Da)} {c:Rho->Option Bool} {f:Rho->Option Rv} {i j:Nat} {ρ:Rho} {xs:List α} {p:α->Bool} {e a b:α->Da} (hi:fi ρ=some (xs.map enc)) (hl:xs.length<=1000000)
 (h:∀ x∈xs,c (((mpR ix ρ).set i (.pu (a x))).set j (.pu (b x)))=some (p x)/\(p x=true->∃ r,f (((mpR ix ρ).set i (.pu (a x))).set j (.pu (b x)))=some r/\fj r=true/\r.2=e x)) (hij:i≠j) (henc:∀ x,enc x=.tup [a x,b x]):fO ix fi (tgT 2 (fW (tgN i) (fW (tgN j) mo))) c f ρ=some (.fr,.lst ((xs.filter p).map e)):=by
 unfold fO
 rw [hi]
 dsimp only
 rw [if_pos (by rw [ab];exact hl),DM h hij henc]
end Ry
namespace G
open PySem L2 Ry
@[simp] theorem whole_int (i:Int):ij [.int i]=some (.bl true):=rfl
@[simp] theorem whole_bl (i:Bool):ij [.bl i]=some (.bl false):=rfl
@[simp] theorem whole_non:ij [.non]=some (.bl false):=rfl
@[simp] theorem whole_str (i:bM):ij [.str i]=some (.bl false):=rfl
@[simp] theorem whole_tup (i:List Da):ij [.tup i]=some (.bl false):=rfl
@[simp] theorem whole_lst (i:List Da):ij [.lst i]=some (.bl false):=rfl
end G
set_option linter.unusedSimpArgs false
set_option linter.unusedSimpArgs false
namespace Ry
open PySem L2
theorem JU (p q:PI):cG (toP (dP p)) (toP (dP q))=decide (p=q):=by
 show (cG (.int p.1) (.int q.1)&&(cG (.int p.2) (.int q.2)&&true))=_
 rw [cp]
 simp only [cG,Bool.and_true,aU,beq_iff_eq,decide_eq_true_eq]
 exact ⟨fun h=>j7 h.1 h.2,fun h=>by subst h;exact ⟨rfl,rfl⟩⟩
theorem J8 (p:PI):(toP (dP p)).canLay0=true:=rfl
theorem HP (p:PI):(toP (dP p)).depth<=60:=by
 simp [dP,toP,gM,dc,bD]
theorem sX:∀ T:List PI,ce (gM (T.map dP))=true
 | []=>rfl
 | p::T=>by
   show (cD (toP (dP p))&&ce (gM (T.map dP)))=true
   rw [J8,sX T];rfl
theorem GJ (p:PI):∀ T:List PI,inD (dP p) (T.map dP)=decide (p∈T)
 | []=>rfl
 | q::T=>by
   have ih:=GJ p T
   unfold inD at ih ⊢
   show (cG (toP (dP q)) (toP (dP p))||(gM (T.map dP)).any fun y=>cG y (toP (dP p)))=_
   rw [ih,JU,cp]
   simp only [iQ,decide_eq_true_eq,ao]
   exact ⟨fun h=>h.imp (fun z=>z.symm) id,fun h=>h.imp (fun z=>z.symm) id⟩
theorem Fc (p:PI) (T:List PI):A5 (dP p) (T.map dP)=true:=by
 unfold A5
 rw [J8,sX]
 have:=HP p
 simp only [jO,jP,decide_eq_true_eq]
 lia
theorem Lb (n:Bool) (a b:Kd) (p:PI) (T:List PI):oIn n (a,dP p) (b,.tup (T.map dP))=some (.pu,.bl (if n then !decide (p∈T) else decide (p∈T))):=by
 unfold oIn Aw Gw
 dsimp only
 rw [Fc,if_pos rfl,GJ]
 rfl
theorem Lk (n:Bool) (a b:Kd) (p:PI) (T:List PI):oIn n (a,dP p) (b,.lst (T.map dP))=some (.pu,.bl (if n then !decide (p∈T) else decide (p∈T))):=by
 unfold oIn Aw Gw
 dsimp only
 rw [Fc,if_pos rfl,GJ]
 rfl
@[simp] theorem oIn_T2 (n:Bool) (a b:Kd) (x y:Int) (T:List PI):oIn n (a,.tup [.int x,.int y]) (b,.tup (T.map dP))=some (.pu,.bl (if n then !decide ((x,y)∈T) else decide ((x,y)∈T))):=Lb n a b (x,y) T
@[simp] theorem oIn_L2 (n:Bool) (a b:Kd) (x y:Int) (T:List PI):oIn n (a,.tup [.int x,.int y]) (b,.lst (T.map dP))=some (.pu,.bl (if n then !decide ((x,y)∈T) else decide ((x,y)∈T))):=Lk n a b (x,y) T
end Ry
namespace G
open PySem L2 Ry
theorem Ka {n:Int} {L:List PI} (Y:Yd n L) (h7:n<=7):L.length<=49:=by
 have:=AT Y.nd Y.rg
 have h:n.toNat<=7:=by lia
 exact bO this (rE h h)
end G
set_option linter.unusedSimpArgs false
namespace G3
open PySem L2 Ry G
noncomputable def dC (C:List PI):Da:=.dK (C.map fun e=>au e.1) (C.map fun e=>.int e.2)
noncomputable def bW (C:List PI):List Int:=C.map (·.1)
noncomputable def cI:List PI->Int->Int
 | [],_=>0
 | (y,x)::C,a=>if y=a then x else cI C a
theorem IN:∀ (C:List PI) (a:Int),atK (C.map fun e=>(au e.1:Key)) (C.map fun e=>Da.int e.2) (au a)=if a∈bW C then some (.int (cI C a)) else none
 | [],a=>by simp [atK,bW]
 | (y,x)::C,a=>by
   show (if (au y:Key)=au a then some (Da.int x) else atK (C.map fun e=>(au e.1:Key)) (C.map fun e=>Da.int e.2) (au a))=_
   by_cases h:y=a
   ·subst h
    rw [if_pos rfl,if_pos (by simp [bW])]
    simp [cI]
   ·rw [if_neg (fun z=>h (dh z)),IN C a]
    have e1:(a∈bW ((y,x)::C))↔a∈bW C:=by
     unfold bW
     rw [ax,ao]
     constructor
     ·rintro (z | z)
      ·exact absurd z.symm h
      ·exact z
     ·exact .inr
    have e2:cI ((y,x)::C) a=cI C a:=by show (if y=a then x else cI C a)=_;rw [if_neg h]
    rw [e2]
    by_cases h3:a∈bW C
    ·rw [if_pos h3,if_pos (e1.mpr h3)]
    ·rw [if_neg h3,if_neg (fun z=>h3 (e1.mp z))]
theorem v8 (C:List PI) (a:Int):mv (dC C) (.int a)=some (if a∈bW C then some (.int (cI C a)) else none):=by
 show some (atK _ _ (au a))=_
 rw [IN]
theorem GS (n:Bool) (a b:Kd) (C:List PI) (x:Int):oIn n (a,.int x) (b,dC C)=some (.pu,.bl (if n then !decide (x∈bW C) else decide (x∈bW C))):=by
 unfold oIn Aw
 dsimp only
 rw [v8]
 by_cases h:x∈bW C<;>simp only [h,if_true,if_false]<;>cases n<;>rfl
theorem JF {a b:Kd} {C:List PI} {x:Int} (h:x∈bW C):oIt (a,dC C) (b,.int x)=some (.pu,.int (cI C x)):=by
 unfold oIt oIx xE
 dsimp only
 rw [v8,if_pos h]
 rfl
theorem nu:∀ (C:List PI) (y x:Int),y∉bW C->hV (C.map fun e=>(au e.1:Key)) (au y)=(C++[(y,x)]).map (fun e=>(au e.1:Key)) /\
 gZ (C.map fun e=>(au e.1:Key)) (C.map fun e=>Da.int e.2) (au y) (.int x)=(C++[(y,x)]).map fun e=>Da.int e.2
 | [],y,x,_=>⟨rfl,rfl⟩
 | (a,b)::C,y,x,h=>by
   have hne:a≠y:=fun z=>h (by simp [bW,z])
   obtain ⟨i1,i2⟩:=nu C y x fun z=>h (by unfold bW at *;rw [ax];exact af _ z)
   have hk:¬ (au a:Key)=au y:=fun z=>hne (dh z)
   constructor
   ·show (if (au a:Key)=au y then _ else au a::hV (C.map fun e=>(au e.1:Key)) (au y))=_
    rw [if_neg hk,i1];rfl
   ·show (if (au a:Key)=au y then _ else Da.int b::gZ (C.map fun e=>(au e.1:Key)) (C.map fun e=>Da.int e.2) (au y) (.int x))=_
    rw [if_neg hk,i2];rfl
theorem FE {C:List PI} (h:(bW C).Nodup):(C.map fun e=>(au e.1:Key)).Nodup:=by
 have e:(C.map fun e=>(au e.1:Key))=(bW C).map au:=by unfold bW;rw [aC];rfl
 rw [e]
 exact bz.mpr (h.imp fun {a b} z w=>z (dh w))
theorem EQ {C:List PI} {y x:Int} (h:y∉bW C) (nd:(bW C).Nodup) (hl:C.length<=1000000):HY (dC C) (.int y) (.int x)=some (dC (C++[(y,x)])):=by
 obtain ⟨i1,i2⟩:=nu C y x h
 show (if (C.map fun e=>(au e.1:Key)).Nodup/\(C.map fun e=>(au e.1:Key)).length<=1000000 then some (Da.dK (hV (C.map fun e=>(au e.1:Key)) (au y)) (gZ (C.map fun e=>(au e.1:Key)) (C.map fun e=>Da.int e.2) (au y) (.int x))) else none)=_
 rw [if_pos ⟨FE nd,by rw [ab];exact hl⟩,i1,i2]
 rfl
theorem rR (C:List PI) (y x:Int):bW (C++[(y,x)])=bW C++[y]:=by unfold bW;rw [bE];rfl
theorem gS {C:List PI} {y x a:Int}:a∈bW (C++[(y,x)])↔a∈bW C\/a=y:=by rw [rR,aD,ay]
theorem iq:∀ {C:List PI} {y x a:Int},a∈bW C->cI (C++[(y,x)]) a=cI C a
 | [],_,_,a,h=>by cases h
 | (b,c)::C,y,x,a,h=>by
   show (if b=a then c else cI (C++[(y,x)]) a)=if b=a then c else cI C a
   by_cases e:b=a
   ·rw [if_pos e,if_pos e]
   ·rw [if_neg e,if_neg e]
    unfold bW at h
    rw [ax,ao] at h
    exact iq (h.resolve_left fun z=>e z.symm)
theorem oA:∀ {C:List PI} {y x:Int},y∉bW C->cI (C++[(y,x)]) y=x
 | [],y,x,_=>by simp [cI]
 | (b,c)::C,y,x,h=>by
   unfold bW at h
   rw [ax,ao] at h
   show (if b=y then c else cI (C++[(y,x)]) y)=x
   rw [if_neg (fun z=>h (.inl z.symm)),oA fun z=>h (.inr z)]
end G3
set_option linter.unusedSimpArgs false
namespace G3
open PySem L2 Ry G
theorem Hf {C:List PI} {k:Kd} (h:C.length<64):eF [(k,dC C)]=some (.fr,.lst ((Ms.srt Ms.ltI (bW C)).map Da.int)):=by
 have e:(C.map fun e=>(au e.1:Key)).map jq=(bW C).map Da.int:=by unfold bW;rw [aC,aC];rfl
 unfold eF dC
 dsimp only
 rw [e,lv (by unfold bW;rw [ab];exact h)]
end G3
set_option linter.unusedSimpArgs false
namespace Ry
open PySem L2
theorem xP:∀ P L:List PI,dJ (gM (P.map dP)) (gM (L.map dP))=decide (P=L)
 | [],[]=>rfl
 | [],q::L=>rfl
 | p::P,[]=>rfl
 | p::P,q::L=>by
   show (cG (toP (dP p)) (toP (dP q))&&dJ (gM (P.map dP)) (gM (L.map dP)))=_
   rw [JU,xP P L,cp]
   simp only [aU,decide_eq_true_eq,jQ]
theorem qE:∀ L:List PI,bD (gM (L.map dP))<=1
 | []=>by simp [gM,bD]
 | p::L=>by
   show max (dc (toP (dP p))) (bD (gM (L.map dP)))<=1
   have:=qE L
   have h:dc (toP (dP p))=1:=by simp [dP,toP,gM,dc,bD]
   lia
theorem IC (n:Int) (P:List PI):(toP (dY n P)).canLay0=true:=by
 show (cD (.int n)&&(ce (gM (P.map dP))&&true))=true
 rw [sX];rfl
theorem Gn (n:Int) (P:List PI):(toP (dY n P)).depth<=3:=by
 have h:(toP (dY n P)).depth=max 0 (max (bD (gM (P.map dP))+1) 0)+1:=by simp [dY,toP,gM,dc,bD]
 have:=qE P
 lia
theorem KY (n m:Int) (P L:List PI):cG (toP (dY n P)) (toP (dY m L))=decide (n=m/\P=L):=by
 show (cG (.int n) (.int m)&&(dJ (gM (P.map dP)) (gM (L.map dP))&&true))=_
 rw [xP,cp]
 simp only [cG,Bool.and_true,aU,beq_iff_eq,decide_eq_true_eq]
theorem LJ (b:Bool) (k k':Kd) (n m:Int) (P L:List PI):oEq b (k,dY n P) (k',dY m L)=some (.pu,.bl (if b then !decide (n=m/\P=L) else decide (n=m/\P=L))):=by
 have ok:Ay (dY n P) (dY m L)=true:=by
  unfold Ay
  rw [IC,IC]
  have:=Gn n P
  simp only [jO,jP,decide_eq_true_eq]
  lia
 unfold oEq
 rw [if_pos ok]
 show some (Kd.pu,Da.bl (if b=true then !PyData.eqv (toP (dY n P)) (toP (dY m L)) else cG (toP (dY n P)) (toP (dY m L))))=_
 rw [KY]
theorem na:∀ R:List Int,bD (gM (R.map Da.int))=0
 | []=>by simp [gM,bD]
 | p::T=>by
   show max (dc (.int p)) (bD (gM (T.map Da.int)))=0
   rw [na T];simp [dc]
end Ry
namespace GW
open PySem L2 Ry G
noncomputable def g_lowers_of:Rho->Res:=(fT (cC fn_uppers_of (aL (fO [none,none,none] (cB (ig (aT 0))) (tgT 2 (fW (tgN 1) (fW (tgN 2) mo))) (fun _=>some true) (mz (aL (aT 2) (aL (aT 1) ck)))) ck)))
noncomputable def fn_lowers_of:List Da->Option Da:=jr 1 g_lowers_of
noncomputable def g_upwards:Rho->Res:=(fT (kJ [none,some 1,none] 0 (nM (aL (aT 0) ck)) (xB yj (aL (jE (aT 1) (aT 0) (xC2 (.fr,.dK [] []))) ck))))
noncomputable def fn_upwards:List Da->Option Da:=jr 2 g_upwards
noncomputable def g_weights_from:Rho->Res:=(iP (nv 2 (cC fn_lowers_of (aL (x2 oIt (aT 0) (xC (.int 1))) ck)))
 (iP (AN 3 (uj (aT 1) (xC (.int 1))))
 (iP (qV (cB (ig (cC fn_upwards (aL (x2 oIt (aT 0) (xC (.int 0))) (aL (aT 2) ck))))) (tgN 4)
 (iP (nv 5 (ig (jE (aT 2) (aT 4) (xC2 (.fr,.dK [] [])))))
 (sIf (tb (x2 (oIn false) (aT 1) (aT 5))) (CQ 3 (aT 4) (pe (xB ER (aL (fO [none,none,some 3] (cB (ig (aT 5))) (tgN 1) (tb (x2 (oIn false) (aT 1) (aT 2))) (x2 oIt (aT 2) (aT 1))) ck)))) m8)))
 (fT (aT 3)))))
noncomputable def fn_weights_from:List Da->Option Da:=jr 6 g_weights_from
noncomputable def g_weight:Rho->Res:=(fT (jE (cC fn_weights_from (aL (aT 0) (aL (aT 1) ck))) (aT 2) (xC (.int 0))))
noncomputable def fn_weight:List Da->Option Da:=jr 3 g_weight
end GW
namespace GW
open Ry
noncomputable def sm (R:List Int) (f:Int->Int):Int:=(R.map f).sum
theorem zZ (f:Int->Int):sm [] f=0:=rfl
theorem ff (a:Int) (R:List Int) (f:Int->Int):sm (a::R) f=f a+sm R f:=by unfold sm;rw [ax,tD]
theorem d4 {f g:Int->Int}:∀ {R:List Int},(∀ x∈R,f x=g x)->sm R f=sm R g
 | [],_=>rfl
 | a::R,h=>by rw [ff,ff,h a ah,d4 fun x hx=>h x (af _ hx)]
theorem o8 {f:Int->Int}:∀ {R:List Int},(∀ x∈R,f x=0)->sm R f=0
 | [],_=>rfl
 | a::R,h=>by rw [ff,h a ah,o8 fun x hx=>h x (af _ hx)];rfl
theorem xh (f g:Int->Int):∀ R:List Int,sm R (fun x=>f x+g x)=sm R f+sm R g
 | []=>rfl
 | a::R=>by rw [ff,ff,ff,xh f g R];lia
theorem uo (c:Int) (f:Int->Int):∀ R:List Int,sm R (fun x=>c*f x)=c*sm R f
 | []=>by rw [zZ,zZ,kI]
 | a::R=>by rw [ff,ff,uo c f R,Int.mul_add]
theorem Bf (c:Int) (f:Int->Int) (R:List Int):sm R (fun x=>f x*c)=sm R f*c:=by
 rw [Int.mul_comm,<- uo];exact d4 fun x _=>Int.mul_comm _ _
theorem v9 (f:Int->Int->Int):∀ R S:List Int,sm R (fun x=>sm S (fun y=>f x y))=sm S (fun y=>sm R (fun x=>f x y))
 | [],S=>by rw [zZ];exact (o8 fun _ _=>rfl).symm
 | a::R,S=>by
   rw [ff,v9 f R S,<- xh]
   exact d4 fun y _=>(ff a R fun x=>f x y).symm
theorem we {R S:List Int} (f:Int->Int) (h:R.Perm S):sm R f=sm S f:=by
 induction h with
 | nil=>rfl
 | cons a _ ih=>rw [ff,ff,ih]
 | swap a b l=>rw [ff,ff,ff,ff];lia
 | trans _ _ i1 i2=>rw [i1,i2]
theorem o6 (p:Int->Bool) (f:Int->Int):∀ R:List Int,sm (R.filter p) f=sm R (fun x=>if p x=true then f x else 0)
 | []=>rfl
 | a::R=>by
   rw [ff,<- o6 p f R]
   cases h:p a with
   | true=>rw [tL h,ff,if_pos rfl]
   | false=>rw [ke (by rw [h];exact aN),if_neg aN,vv]
theorem nL {f:Int->Int} {a:Int}:∀ {R:List Int},R.Nodup->a∈R->(∀ x∈R,x≠a->f x=0)->sm R f=f a
 | [],_,h,_=>by cases h
 | b::R,nd,h,z=>by
   obtain ⟨h1,h2⟩:=be.mp nd
   rw [ff]
   by_cases e:b=a
   ·subst e
    rw [o8 fun x hx=>z x (af _ hx) fun w=>h1 (by rw [<- w];exact hx)]
    lia
   ·rw [z b ah e,nL h2 ((ao.mp h).resolve_left fun w=>e w.symm) fun x hx=>z x (af _ hx)]
    lia
theorem LB {R:List Int} {a c:Int} (nd:R.Nodup) (h:a∈R):sm R (fun x=>if x=a then c else 0)=c:=by
 rw [nL nd h fun x _ hx=>if_neg hx,if_pos rfl]
structure Tri (n:Int) (L:List PI) (w:Int->Int->Int):Prop where
 one:∀ a,w a a=1
 off:∀ a b,a≠b->(a,b)∉L->w a b=0
noncomputable def zt (L:List PI) (s t:Int):Int:=if s=t\/(s,t)∈L then 1 else 0
noncomputable def dl (a b:Int):Int:=if a=b then 1 else 0
section
variable {n:Int} {L:List PI} {w:Int->Int->Int}
theorem Tri.null (Y:Yd n L) (T:Tri n L w) {g:Int->Int} (h:∀ a∈rgI 0 n.toNat,sm (rgI 0 n.toNat) (fun s=>w a s*g s)=0):∀ a∈rgI 0 n.toNat,g a=0:=by
 have ndR:(rgI 0 n.toNat).Nodup:=(iy _ _).imp fun {a b} z y=>by subst y;rw [Ms.linI.irr] at z;cases z
 have key:∀ (k:Nat) (a:Int),a∈rgI 0 n.toNat->((rgI 0 n.toNat).filter fun s=>decide ((a,s)∈L)).length<=k->g a=0:=fun k=>by
  induction k with
  | zero =>
    intro a ha hk
    have:=h a ha
    rw [nL ndR ha fun x hx hxa=>?_,T.one,p3] at this
    ·exact this
    ·have hn:(a,x)∉L:=fun z=>by
      have hm:x∈(rgI 0 n.toNat).filter fun s=>decide ((a,s)∈L):=aG.mpr ⟨hx,by simpa using z⟩
      have:=vg hm
      lia
     rw [T.off a x (fun z=>hxa z.symm) hn,oq]
  | succ k ih =>
    intro a ha hk
    have:=h a ha
    rw [nL ndR ha fun x hx hxa=>?_,T.one,p3] at this
    ·exact this
    ·by_cases hl:(a,x)∈L
     ·rw [ih x hx ?_,kI]
      have hx1:x∈(rgI 0 n.toNat).filter fun s=>decide ((a,s)∈L):=aG.mpr ⟨hx,by simpa using hl⟩
      have:(x::(rgI 0 n.toNat).filter fun s=>decide ((x,s)∈L)).length<=((rgI 0 n.toNat).filter fun s=>decide ((a,s)∈L)).length :=
       Ms.length_le_of_subset (be.mpr ⟨fun z=>Y.irr x (by simpa using (aG.mp z).2),ndR.filter _⟩) fun y hy=>by
        rcases ao.mp hy with e | e
        ·subst e;exact hx1
        ·obtain ⟨e1,e2⟩:=aG.mp e
         exact aG.mpr ⟨e1,by simpa using Y.tr _ _ _ hl (by simpa using e2)⟩
      rw [aI] at this
      lia
     ·rw [T.off a x (fun z=>hxa z.symm) hl,oq]
 exact fun a ha=>key _ a ha (aw _)
theorem Tri.both (Y:Yd n L) (T:Tri n L w) (h:∀ a∈rgI 0 n.toNat,∀ t∈rgI 0 n.toNat,sm (rgI 0 n.toNat) (fun s=>w a s*zt L s t)=dl a t) :
 ∀ a∈rgI 0 n.toNat,∀ b∈rgI 0 n.toNat,sm (rgI 0 n.toNat) (fun t=>zt L a t*w t b)=dl a b:=by
 intro a ha b hb
 have ndR:(rgI 0 n.toNat).Nodup:=(iy _ _).imp fun {a b} z y=>by subst y;rw [Ms.linI.irr] at z;cases z
 have:=T.null Y (g:=fun s=>sm (rgI 0 n.toNat) (fun t=>zt L s t*w t b)-dl s b) (fun c hc=>?_) a ha
 ·lia
 have e1:sm (rgI 0 n.toNat) (fun s=>w c s*(sm (rgI 0 n.toNat) (fun t=>zt L s t*w t b)-dl s b))=sm (rgI 0 n.toNat) (fun s=>sm (rgI 0 n.toNat) (fun t=>w c s*zt L s t*w t b))+sm (rgI 0 n.toNat) (fun s=>-1*(w c s*dl s b)):=by
  rw [<- xh]
  refine d4 fun s _=>?_
  have:sm (rgI 0 n.toNat) (fun t=>w c s*zt L s t*w t b)=w c s*sm (rgI 0 n.toNat) (fun t=>zt L s t*w t b):=by
   rw [<- uo];exact d4 fun t _=>Int.mul_assoc _ _ _
  rw [this,Int.mul_sub]
  lia
 have e2:sm (rgI 0 n.toNat) (fun s=>sm (rgI 0 n.toNat) (fun t=>w c s*zt L s t*w t b))=w c b:=by
  rw [v9]
  have:sm (rgI 0 n.toNat) (fun t=>sm (rgI 0 n.toNat) (fun s=>w c s*zt L s t*w t b))=sm (rgI 0 n.toNat) (fun t=>dl c t*w t b):=d4 fun t ht=>by rw [Bf,h c hc t ht]
  rw [this,nL ndR hc fun x _ hx=>by unfold dl;rw [if_neg (fun z=>hx z.symm),oq]]
  unfold dl
  rw [if_pos rfl,p3]
 have e3:sm (rgI 0 n.toNat) (fun s=>-1*(w c s*dl s b)) = -(w c b):=by
  rw [uo,nL ndR hb fun x _ hx=>by unfold dl;rw [if_neg hx,kI]]
  unfold dl
  rw [if_pos rfl,lM]
  lia
 show sm (rgI 0 n.toNat) (fun s=>w c s*(sm (rgI 0 n.toNat) (fun t=>zt L s t*w t b)-dl s b))=0
 rw [e1,e2,e3]
 lia
end
end GW
set_option linter.unusedSimpArgs false
namespace GW
open PySem L2 Ry G G3
noncomputable def sw (p:PI):PI:=(p.2,p.1)
noncomputable def low (L:List PI):UD:=upp (L.map sw)
theorem JA {L:List PI} {a b:Int}:(a,b)∈L.map sw↔(b,a)∈L:=by
 constructor
 ·intro h
  obtain ⟨p,hp,e⟩:=az.mp h
  have h1:p.2=a:=congrArg En e
  have h2:p.1=b:=congrArg Eo e
  rw [<- h1,<- h2];exact hp
 ·exact fun h=>az.mpr ⟨(b,a),h,rfl⟩
theorem Fa (L:List PI):KS (L.map sw) (low L):=kn _
theorem fJ (L:List PI) (a b:Int):b∈dE (low L) a↔(b,a)∈L:=by rw [(Fa L).get,JA]
theorem xo (L:List PI) (a:Int):(dE (low L) a).Nodup:=(Fa L).ndv a
theorem vW (L:List PI) (a:Int):(dE (low L) a).length<=L.length:=by
 have h1:(dE (low L) a).length<=(L.map (·.1)).length:=Ms.length_le_of_subset (xo L a) fun x hx=>az.mpr ⟨_,(fJ L a x).mp hx,rfl⟩
 rw [ab] at h1
 exact h1
theorem pA {L:List PI} (hl:L.length<=1000):fn_lowers_of [.tup (L.map dP)]=some (dU (low L)):=by
 have hc:=pD (enc:=dP) (xs:=L) (ix:=[none,none,none]) (fi:=cB (ig (aT 0))) (i:=1) (j:=2) (c:=fun _=>some true) (f:=mz (aL (aT 2) (aL (aT 1) ck))) (ρ:=[.pu (.tup (L.map dP))]) (p:=fun _=>true) (e:=fun p=>dP (sw p)) (a:=fun p=>.int p.1) (b:=fun p=>.int p.2)
  (by simp) (by lia) (fun p hp=>⟨rfl,fun _=>⟨(.pu,dP (sw p)),by simp [mpR,dP,sw],rfl,rfl⟩⟩) (by decide) (fun _=>rfl)
 rw [dI] at hc
 refine lK (ρ:=[.pu (.tup (L.map dP))]) rfl ?_
 have em:(L.map fun p=>dP (sw p))=(L.map sw).map dP:=by rw [aC];rfl
 rw [em] at hc
 simp only [g_lowers_of,g9,pE,b8,dN,hc,fA,fU,A8,De,Bool.not_false,if_true,cw]
 rw [Ef (by rw [ab];exact hl)]
 rfl
theorem sT {α:Type} {lam:Da->Option Da} {enc e:α->Da}:∀ {xs:List α},(∀ x∈xs,lam (enc x)=some (e x))->Cq lam (xs.map enc)=some (xs.map e)
 | [],_=>rfl
 | x::xs,h=>by
   have ih:=sT (lam:=lam) (enc:=enc) (e:=e) (xs:=xs) fun y hy=>h y (af _ hy)
   show (match lam (enc x) with | none=>none | some r=>match Cq lam (xs.map enc) with | none=>none | some rs=>some (r::rs))=_
   rw [h x ah,ih]
   rfl
theorem uV {α:Type} {xs:List α} {d:α} {q:List Nat} (h:q.Perm (bH xs.length)):(q.map fun i=>xs.getD i d).Perm xs:=by
 refine (h.map _).trans ?_
 have:(bH xs.length).map (fun i=>xs.getD i d)=xs:=by
  apply kc
  ·simp
  ·intro i h1 h2;simp [h2]
 rw [this]
theorem Av {xs:List Int} {f:Int->Int} {lam:Da->Option Da} (h:∀ x∈xs,lam (.int x)=some (.int (f x))) (hl:xs.length<64):∃ ord:List Int,sn lam (xs.map Da.int)=some (ord.map Da.int)/\ord.Perm xs/\ord.Pairwise fun x y=>f x<=f y:=by
 have e1:=sT (lam:=lam) (enc:=Da.int) (e:=fun x=>Da.int (f x)) (xs:=xs) h
 have em:(xs.map fun x=>Da.int (f x))=(xs.map f).map Da.int:=by rw [aC];rfl
 rw [em] at e1
 obtain ⟨hp,hs⟩:=kR y6 (0:Int) (xs.map f)
 have hp':(n9 y6 (0:Int) (xs.map f)).Perm (bH xs.length):=by
  have e:gs (α:=y6.α) (xs.map f)=xs.length:=ab _
  rw [e] at hp
  exact hp
 refine ⟨(n9 y6 (0:Int) (xs.map f)).map fun i=>xs.getD i 0,?_,uV hp',?_⟩
 ·unfold sn
  rw [if_pos (by rw [ab];lia),e1]
  dsimp only
  unfold wH
  rw [fS]
  dsimp only
  rw [if_pos (show OkN (xs.map f) from .inl (by rw [ab];exact hl))]
  dsimp only
  congr 1
  rw [aC]
  refine cY fun i hi=>?_
  have hi':i<xs.length:=by simpa using hp'.mem_iff.mp hi
  simp [hi']
 ·rw [bz] at hs ⊢
  refine hs.imp_of_mem fun {i j} hi hj z=>?_
  have hi':i<xs.length:=by simpa using hp'.mem_iff.mp hi
  have hj':j<xs.length:=by simpa using hp'.mem_iff.mp hj
  have z:y6.blt ((xs.map f).getD j (0:Int)) ((xs.map f).getD i (0:Int))=false:=z
  have z:decide ((xs.map f).getD j (0:Int)<(xs.map f).getD i (0:Int))=false:=z
  have z:=of_decide_eq_false z
  have ei:(xs.map f).getD i (0:Int)=f (xs.getD i 0):=by simp [hi']
  have ej:(xs.map f).getD j (0:Int)=f (xs.getD j 0):=by simp [hj']
  rw [ei,ej] at z
  lia
theorem A7 (k:Kd) (l:List Int):yj [(k,dD l)]=some (.pu,.int l.length):=by
 show (none:Option Rv).or (some (Kd.pu,Da.int ((l.map au).length:Nat)))=_
 rw [ab]
 rfl
theorem nz {n:Int} (D:UD) (h0:0<=n) (h1:n<64):∃ ord:List Int,fn_upwards [.int n,dU D]=some (.lst (ord.map Da.int))/\ord.Perm (rgI 0 n.toNat)/\ord.Pairwise fun x y=>((dE D x).length:Int)<=(dE D y).length:=by
 have hlam:∀ x∈rgI 0 n.toNat,EZ [none,some 1,none] 0 (xB yj (aL (jE (aT 1) (aT 0) (xC2 (.fr,.dK [] []))) ck)) [.pu (.int n),.pu (dU D)] (.int x)=some (.int ((dE D x).length:Int)):=fun x hx=>by
  unfold EZ
  have em:(mpR [none,some 1,none] [.pu (.int n),.pu (dU D)]).set 0 (.pu (.int x))=[.pu (.int x),.pu (dU D),.no]:=rfl
  rw [em]
  simp only [rY,b8,pC,iw,GU,dN,br,bv,v6]
  by_cases hm:x∈D.map (·.1)
  ·rw [if_pos hm]
   dsimp only
   rw [A7]
   rfl
  ·rw [if_neg hm,mG hm]
   dsimp only
   rw [show ([((Kd.fr,Da.dK [] []):Rv)])=[(Kd.fr,dD [])] from rfl,A7]
   rfl
 obtain ⟨ord,e,hp,hs⟩:=Av (f:=fun x=>((dE D x).length:Int)) hlam (by rw [fm];lia)
 refine ⟨ord,?_,hp,hs⟩
 refine lK (ρ:=[.pu (.int n),.pu (dU D)]) rfl ?_
 have er:nM (aL (aT 0) ck) [.pu (.int n),.pu (dU D)]=some ((rgI 0 n.toNat).map Da.int):=by
  simp only [xN,b8,iw,dN,br]
  rw [if_pos (by lia),fw]
 simp only [g_upwards,g9]
 unfold kJ
 rw [er]
 dsimp only
 rw [e]
theorem rJ {n:Int} {L:List PI} (Y:Yd n L) {ord:List Int} (h:ord.Pairwise fun x y=>((dE (low L) x).length:Int)<=(dE (low L) y).length):ord.Pairwise fun x y=>(y,x)∉L:=by
 refine h.imp fun {x y} z m=>?_
 have:(y::dE (low L) y).length<=(dE (low L) x).length:=Ms.length_le_of_subset (be.mpr ⟨fun w=>Y.irr y ((fJ L y y).mp w),xo L y⟩) fun u hu=>by
  rcases ao.mp hu with e | e
  ·subst e;exact (fJ L x u).mpr m
  ·exact (fJ L x u).mpr (Y.tr _ _ _ ((fJ L y u).mp e) m)
 rw [aI] at this
 lia
end GW
set_option linter.unusedSimpArgs false
namespace GW
open PySem L2 Ry G G3
theorem Hh (l:List Int) (f:Int->Int):gK (l.map fun x=>Da.int (f x))=some (l.map f):=by
 have:(l.map fun x=>Da.int (f x))=(l.map f).map Da.int:=by rw [aC];rfl
 rw [this,fS]
theorem EU (k:Kd) (l:List Int) (f:Int->Int):ER [(k,.lst (l.map fun x=>Da.int (f x)))]=some (.pu,.int (sm l f)):=by
 unfold ER;dsimp only;rw [Hh];rfl
theorem pM {C:List PI} {x:Int} (h:x∈bW C) {k k':Kd}:oIt (k,dC C) (k',.int x)=some (.pu,.int (cI C x)):=JF h
structure KM (L:List PI) (one:Int) (pre:List Int) (C:List PI):Prop where
 nd:(bW C).Nodup
 mem:∀ x,x∈bW C↔x=one\/(x∈pre/\(one,x)∈L)
 at1:cI C one=1
 rc:∀ x,x∈pre->(one,x)∈L->cI C x = -(sm ((dE (low L) x).filter fun u=>decide (u∈bW C)) (cI C))
theorem Dr {C:List PI}:(bW C).length=C.length:=by unfold bW;rw [ab]
theorem yd {n:Int} {L:List PI} {one x:Int} {pre post ord:List Int} {C:List PI} (Y:Yd n L) (hord:ord=pre++x::post) (hnd:ord.Nodup) (ho:ord.Pairwise fun x y=>(y,x)∉L) (W:KM L one pre C) (hx:(one,x)∈L) :
 x∉bW C/\KM L one (pre++[x]) (C++[(x,-(sm ((dE (low L) x).filter fun u=>decide (u∈bW C)) (cI C)))]):=by
 have hne:x≠one:=fun z=>by subst z;exact Y.irr x hx
 have hxp:x∉pre:=fun z=>by
  rw [hord] at hnd
  exact (bp.mp hnd).2.2 x z x ah rfl
 have hxC:x∉bW C:=fun z=>((W.mem x).mp z).elim hne fun y=>hxp y.1
 have late:∀ y∈pre,(x,y)∉L:=fun y hy=>by
  rw [hord] at ho
  exact (gA.mp ho).2.2 y hy x ah
 refine ⟨hxC,?_,fun y=>?_,?_,fun y hy hl=>?_⟩
 ·rw [rR]
  exact bp.mpr ⟨W.nd,bc _ _,fun a ha b hb=>by
   rw [ay] at hb
   subst hb
   intro z;subst z;exact hxC ha⟩
 ·rw [gS,W.mem,aD,ay]
  constructor
  ·rintro ((h | ⟨h1,h2⟩) | h)
   ·exact .inl h
   ·exact .inr ⟨.inl h1,h2⟩
   ·subst h;exact .inr ⟨.inr rfl,hx⟩
  ·rintro (h | ⟨h1 | h1,h2⟩)
   ·exact .inl (.inl h)
   ·exact .inl (.inr ⟨h1,h2⟩)
   ·exact .inr h1
 ·rw [iq ((W.mem one).mpr (.inl rfl))];exact W.at1
 ·
  have same:∀ t:Int,(x,t)∉L->sm ((dE (low L) t).filter fun u=>decide (u∈bW (C++[(x,-(sm ((dE (low L) x).filter fun u=>decide (u∈bW C)) (cI C)))]))) (cI (C++[(x,-(sm ((dE (low L) x).filter fun u=>decide (u∈bW C)) (cI C)))]))=sm ((dE (low L) t).filter fun u=>decide (u∈bW C)) (cI C):=fun t ht=>by
   have e:((dE (low L) t).filter fun u=>decide (u∈bW (C++[(x,-(sm ((dE (low L) x).filter fun u=>decide (u∈bW C)) (cI C)))])))=(dE (low L) t).filter fun u=>decide (u∈bW C):=by
    refine ia fun u hu=>?_
    have hux:u≠x:=fun z=>ht (by rw [<- z];exact (fJ L t u).mp hu)
    rw [cp,decide_eq_true_eq,decide_eq_true_eq,gS]
    exact ⟨fun z=>z.resolve_right hux,.inl⟩
   rw [e]
   refine d4 fun u hu=>iq ?_
   simpa using (aG.mp hu).2
  rcases aD.mp hy with h | h
  ·rw [iq ((W.mem y).mpr (.inr ⟨h,hl⟩)),same y (late y h)]
   exact W.rc y h hl
  ·rw [ay] at h
   subst h
   rw [oA hxC,same y (Y.irr y)]
theorem JY (one:Int):Da.dK [au one] [Da.int 1]=dC [(one,1)]:=rfl
theorem oV {n:Int} {L:List PI} (Y:Yd n L) (h0:0<=n) (h1:n<64) (hl:L.length<=1000) (one:Int):∃ C:List PI,fn_weights_from [dY n L,.int one]=some (dC C)/\(bW C).Nodup/\(∀ x,x∈bW C↔x=one\/(one,x)∈L)/\cI C one=1 /\
 ∀ x,(one,x)∈L->cI C x = -(sm ((dE (low L) x).filter fun u=>decide (u∈bW C)) (cI C)):=by
 obtain ⟨ord,hup,hperm,hsrt⟩:=nz (low L) h0 h1
 have ho:=rJ Y hsrt
 have hnd:ord.Nodup:=hperm.nodup_iff.mpr (d5 _ _)
 have inord:∀ a x,(a,x)∈L->x∈ord:=fun a x h=>hperm.mem_iff.mpr (eQ.mpr (by have:=(Y.rg _ h).2;dsimp only at this;lia))
 have key:∃ d,fn_weights_from [dY n L,.int one]=some d/\∃ C,d=dC C/\KM L one ord C:=by
  refine nQ ?_
  unfold g_weights_from
  have e0:fB 6 [dY n L,.int one]=[.pu (dY n L),.pu (.int one),.no,.no,.no,.no]:=rfl
  rw [e0]
  refine cZ (eM (ρ':=[.pu (dY n L),.pu (.int one),.pu (dU (low L)),.no,.no,.no]) (by simp [dY,pA hl]) ?_)
  refine cZ (eM (ρ':=[.pu (dY n L),.pu (.int one),.pu (dU (low L)),.ow (dC [(one,1)]),.no,.no]) (by simp [uj,JY]) ?_)
  refine cZ ?_
  refine kj (enc:=Da.int) (xs:=ord) (fun pre ρ=>∃ C s4 s5,ρ=[.pu (dY n L),.pu (.int one),.pu (dU (low L)),.ow (dC C),s4,s5]/\KM L one pre C) ?_ ⟨_,_,_,rfl,⟨bc _ _,fun x=>?_,by simp [cI],by simp⟩⟩ ?_ ?_
  ·have hz:x2 oIt (aT 0) (xC (.int 0)) [.pu (dY n L),.pu (.int one),.pu (dU (low L)),.ow (dC [(one,1)]),.no,.no]=some (.pu,.int n):=by simp [dY]
   simp only [jY,nY,pE,b8,hz,iw,dN,br,bv,fA,fU,g7,if_true,cw,hup]
  ·simp [bW]
  ·rintro pre x post ρ e ⟨C,s4,s5,rfl,W⟩
   refine ⟨[.pu (dY n L),.pu (.int one),.pu (dU (low L)),.ow (dC C),.pu (.int x),s5],rfl,?_⟩
   refine cZ (eM (ρ':=[.pu (dY n L),.pu (.int one),.pu (dU (low L)),.ow (dC C),.pu (.int x),.pu (dD (dE (low L) x))]) ?_ ?_)
   ·have:=xu (low L) x (aT 2) (aT 4) [.pu (dY n L),.pu (.int one),.pu (dU (low L)),.ow (dC C),.pu (.int x),s5] (k:=.pu) (k':=.pu) rfl rfl
    simp only [i6]
    rw [this]
    rfl
   have hclen:C.length<=1000000:=by
    have h2:(bW C).length<=(one::ord).length:=Ms.length_le_of_subset W.nd fun y hy=>by
     rcases (W.mem y).mp hy with z | z
     ·subst z;exact ah
     ·exact af _ (inord _ _ z.2)
    rw [Dr,aI,hperm.length_eq,fm] at h2
    lia
   refine su (b:=decide (one∈dE (low L) x)) (by simp [Hv]) (fun q=>?_) fun q=>?_
   ·have hx:(one,x)∈L:=(fJ L x one).mp (by simpa using q)
    obtain ⟨hxC,W'⟩:=yd Y e hnd ho W hx
    have hc:=dZ (enc:=Da.int) (xs:=dE (low L) x) (ix:=[none,none,some 3]) (fi:=cB (ig (aT 5))) (i:=1) (c:=tb (x2 (oIn false) (aT 1) (aT 2))) (f:=x2 oIt (aT 2) (aT 1))
     (ρ:=[.pu (dY n L),.pu (.int one),.pu (dU (low L)),.ow (dC C),.pu (.int x),.pu (dD (dE (low L) x))]) (p:=fun u=>decide (u∈bW C)) (e:=fun u=>.int (cI C u)) (rS (by simp)) (by have:=vW L x;lia)
     fun u hu=>⟨by simp [mpR,GS],fun hq=>⟨(.pu,.int (cI C u)),by simp [mpR,JF (show u∈bW C by simpa using hq)],rfl,rfl⟩⟩
    refine eM (ρ':=[.pu (dY n L),.pu (.int one),.pu (dU (low L)),.ow (dC (C++[(x,-(sm ((dE (low L) x).filter fun u=>decide (u∈bW C)) (cI C)))])),.pu (.int x),.pu (dD (dE (low L) x))]) ?_ ⟨_,_,_,rfl,W'⟩
    simp only [xq,Kt,rY,b8,dN,hc,EU,iw,br,bv,g7,if_true]
    rw [EQ hxC W.nd hclen]
    rfl
   ·have hx:(one,x)∉L:=fun z=>by
     have:=(fJ L x one).mpr z
     rw [decide_eq_false_iff_not] at q
     exact q this
    refine eM rfl ⟨C,_,_,rfl,W.nd,fun y=>?_,W.at1,fun y hy hl'=>?_⟩
    ·rw [W.mem,aD,ay]
     constructor
     ·rintro (h | ⟨h1,h2⟩)
      ·exact .inl h
      ·exact .inr ⟨.inl h1,h2⟩
     ·rintro (h | ⟨h1 | h1,h2⟩)
      ·exact .inl h
      ·exact .inr ⟨h1,h2⟩
      ·subst h1;exact absurd h2 hx
    ·rcases aD.mp hy with z | z
     ·exact W.rc y z hl'
     ·rw [ay] at z;subst z;exact absurd hl' hx
  ·rintro ρ ⟨C,s4,s5,rfl,W⟩
   exact ou (d:=dC C) rfl ⟨C,rfl,W⟩
 obtain ⟨d,ed,C,rfl,W⟩:=key
 refine ⟨C,ed,W.nd,fun x=>?_,W.at1,fun x hx=>W.rc x (inord _ _ hx) hx⟩
 rw [W.mem]
 exact ⟨fun z=>z.imp id (·.2),fun z=>z.imp id fun y=>⟨inord _ _ y,y⟩⟩
theorem t7 {n:Int} {L:List PI} (Y:Yd n L) (h0:0<=n) (h1:n<64) (hl:L.length<=1000):∃ w:Int->Int->Int,(∀ a b,fn_weight [dY n L,.int a,.int b]=some (.int (w a b)))/\Tri n L w/\∀ a b,(a,b)∈L->w a b = -(sm (dE (low L) b) (w a)):=by
 have hC:=fun a=>oV Y h0 h1 hl a
 obtain ⟨Cf,hF⟩:∃ Cf:Int->List PI,∀ a,fn_weights_from [dY n L,.int a]=some (dC (Cf a))/\(bW (Cf a)).Nodup/\(∀ x,x∈bW (Cf a)↔x=a\/(a,x)∈L)/\cI (Cf a) a=1 /\
  ∀ x,(a,x)∈L->cI (Cf a) x = -(sm ((dE (low L) x).filter fun u=>decide (u∈bW (Cf a))) (cI (Cf a))):=⟨fun a=>eD (hC a),fun a=>hZ (hC a)⟩
 clear hC
 refine ⟨fun a b=>if b∈bW (Cf a) then cI (Cf a) b else 0,fun a b=>?_,⟨fun a=>?_,fun a b hab hn=>?_⟩,fun a b hab=>?_⟩
 ·obtain ⟨e,_⟩:=hF a
  refine lK (ρ:=[.pu (dY n L),.pu (.int a),.pu (.int b)]) rfl ?_
  simp only [g_weight,g9,pC,pE,b8,iw,JM,dN,br,bv,fA,fU,g7,if_true,cw,e,v8]
  by_cases h:b∈bW (Cf a)
  ·rw [if_pos h,if_pos h]
  ·rw [if_neg h,if_neg h]
 ·obtain ⟨_,_,m,o,_⟩:=hF a
  rw [if_pos ((m a).mpr (.inl rfl)),o]
 ·obtain ⟨_,_,m,_⟩:=hF a
  rw [if_neg]
  intro z
  rcases (m b).mp z with y | y
  ·exact hab y.symm
  ·exact hn y
 ·obtain ⟨_,_,m,_,r⟩:=hF a
  show (if b∈bW (Cf a) then cI (Cf a) b else 0) = -(sm (dE (low L) b) fun u=>if u∈bW (Cf a) then cI (Cf a) u else 0)
  rw [if_pos ((m b).mpr (.inr hab)),r b hab,o6]
  congr 1
  refine d4 fun u _=>?_
  by_cases h:u∈bW (Cf a)
  ·rw [if_pos h,if_pos (by simpa using h)]
  ·rw [if_neg h,if_neg (by simpa using h)]
end GW
set_option linter.unusedSimpArgs false
namespace GW
open PySem L2 Ry G G3
theorem Ju {n:Int} {L:List PI} (Y:Yd n L) (b:Int) (f:Int->Int):sm (dE (low L) b) f=sm (rgI 0 n.toNat) (fun u=>if (u,b)∈L then f u else 0):=by
 have hp:(dE (low L) b).Perm ((rgI 0 n.toNat).filter fun u=>decide ((u,b)∈L)):=(eP (xo L b) ((d5 _ _).filter _)).mpr fun u=>by
  rw [fJ,aG,decide_eq_true_eq]
  exact ⟨fun h=>⟨eQ.mpr (by have:=(Y.rg _ h).1;dsimp only at this;lia),h⟩,(·.2)⟩
 rw [we f hp,o6]
 exact d4 fun u _=>by by_cases h:(u,b)∈L<;>simp [h]
section
variable {n:Int} {L:List PI} {w:Int->Int->Int}
theorem wz (Y:Yd n L) (T:Tri n L w) (r:∀ a b,(a,b)∈L->w a b = -(sm (dE (low L) b) (w a))):∀ a∈rgI 0 n.toNat,∀ t∈rgI 0 n.toNat,sm (rgI 0 n.toNat) (fun s=>w a s*zt L s t)=dl a t:=by
 intro a ha t ht
 have e:sm (rgI 0 n.toNat) (fun s=>w a s*zt L s t)=w a t+sm (rgI 0 n.toNat) (fun s=>if (s,t)∈L then w a s else 0):=by
  rw [<- LB (c:=w a t) (d5 _ _) ht,<- xh]
  refine d4 fun s _=>?_
  unfold zt
  by_cases h1:s=t
  ·subst h1
   rw [if_pos (.inl rfl),if_pos rfl,if_neg (Y.irr s),lM,Int.add_zero]
  ·rw [if_neg h1]
   by_cases h2:(s,t)∈L
   ·rw [if_pos (.inr h2),if_pos h2,lM,vv]
   ·rw [if_neg (fun z=>z.elim h1 h2),if_neg h2,kI,Int.add_zero]
 rw [e]
 unfold dl
 by_cases h1:a=t
 ·subst h1
  rw [if_pos rfl,T.one,o8 fun s _=>?_]
  ·rfl
  ·by_cases h2:(s,a)∈L
   ·rw [if_pos h2]
    exact T.off a s (fun z=>Y.irr a (by rw [<- z] at h2;exact h2)) fun z=>Y.irr a (Y.tr _ _ _ z h2)
   ·rw [if_neg h2]
 ·rw [if_neg h1]
  by_cases h2:(a,t)∈L
  ·rw [r a t h2,Ju Y];lia
  ·rw [T.off a t h1 h2,o8 fun s _=>?_]
   ·rfl
   ·by_cases h3:(s,t)∈L
    ·rw [if_pos h3]
     exact T.off a s (fun z=>h2 (by rw [z];exact h3)) fun z=>h2 (Y.tr _ _ _ z h3)
    ·rw [if_neg h3]
theorem zw (Y:Yd n L) (T:Tri n L w) (r:∀ a b,(a,b)∈L->w a b = -(sm (dE (low L) b) (w a))):∀ a∈rgI 0 n.toNat,∀ b∈rgI 0 n.toNat,sm (rgI 0 n.toNat) (fun t=>zt L a t*w t b)=dl a b:=T.both Y (wz Y T r)
end
end GW
namespace GH
open PySem L2 Ry G GW
noncomputable def g_holds_all:Rho->Res:=(fT (xB Fy (aL (fO [none,none,some 0] (cB (ig (aT 1))) (tgN 1) (fun _=>some true) (x2 (oIn false) (aT 1) (aT 2))) ck)))
noncomputable def fn_holds_all:List Da->Option Da:=jr 2 g_holds_all
noncomputable def g_heads:Rho->Res:=(iP (nv 1 (cC fn_lowers_of (aL (x2 oIt (aT 0) (xC (.int 1))) ck)))
 (iP (nv 2 (DQ (aL (mz ck) ck)))
 (iP (qV (cB (ig (cC fn_upwards (aL (x2 oIt (aT 0) (xC (.int 0))) (aL (aT 1) ck))))) (tgN 3)
 (iP (nv 4 (ig (jE (aT 1) (aT 3) (xC2 (.fr,.dK [] [])))))
 (nv 2 (x2 n8 (aT 2) (fO [none,none,none,none,none,some 3,some 4] (cB (ig (aT 2))) (tgN 1) (tTr (cC fn_holds_all (aL (aT 1) (aL (aT 6) ck)))) (xB hE (aL (xB eF (aL (x2 n8 (aT 1) (mz (aL (aT 5) ck))) ck)) ck)))))))
 (fT (xB hE (aL (kJ [none,none] 0 (qU (aT 2)) (mz (aL (xB sI (aL (aT 0) ck)) (aL (aT 0) ck)))) ck))))))
noncomputable def fn_heads:List Da->Option Da:=jr 5 g_heads
noncomputable def g_ways_up_to:Rho->Res:=(fT (xB ER (aL (fO [none,none,some 1,some 0] (nM (aL (xB sI (aL (aT 1) ck)) ck)) (tgN 1) (fun _=>some true) (jE (aT 3) (x2 n8 (kh (aT 2) pT (ot (aT 1))) (kh (aT 2) (ot (x2 n8 (aT 1) (xC (.int 1)))) pT)) (xC (.int 0)))) ck)))
noncomputable def fn_ways_up_to:List Da->Option Da:=jr 2 g_ways_up_to
noncomputable def g_lines:Rho->Res:=(iP (AN 1 (pV (mz ck) (xC (.int 1))))
 (iP (qV (cB (ig (cC fn_heads (aL (aT 0) ck)))) (tgN 2)
 (sIf (tTr (aT 2)) (CQ 1 (aT 2) (yE 1 (cC fn_ways_up_to (aL (aT 1) (aL (aT 2) ck))))) m8))
 (fT (x2 oIt (aT 1) (jF (aL (x2 oIt (aT 0) (xC (.int 0))) ck))))))
noncomputable def fn_lines:List Da->Option Da:=jr 3 g_lines
end GH
set_option linter.unusedSimpArgs false
namespace GH
open PySem L2 Ry G G3 GW
noncomputable def dT (H:List Int):Da:=.tup (H.map Da.int)
theorem K7 (i j:Int):cG (toP (.int i)) (toP (.int j))=decide (i=j):=by
 show cG (.int i) (.int j)=_
 simp only [cG]
 rw [cp,beq_iff_eq,decide_eq_true_eq]
theorem layAll_I:∀ T:List Int,ce (gM (T.map Da.int))=true
 | []=>rfl
 | p::T=>by
   show (cD (toP (.int p))&&ce (gM (T.map Da.int)))=true
   rw [layAll_I T];rfl
theorem Hy (x:Int):∀ T:List Int,inD (.int x) (T.map Da.int)=decide (x∈T)
 | []=>rfl
 | q::T=>by
   have ih:=Hy x T
   unfold inD at ih ⊢
   show (cG (toP (.int q)) (toP (.int x))||(gM (T.map Da.int)).any fun y=>cG y (toP (.int x)))=_
   rw [ih,K7,cp]
   simp only [iQ,decide_eq_true_eq,ao]
   exact ⟨fun h=>h.imp (fun z=>z.symm) id,fun h=>h.imp (fun z=>z.symm) id⟩
theorem EI (x:Int) (T:List Int):A5 (.int x) (T.map Da.int)=true:=by
 unfold A5
 rw [layAll_I]
 have:(toP (Da.int x)).depth<=60:=by simp [toP,dc]
 have h2:(toP (Da.int x)).canLay0=true:=rfl
 rw [h2]
 simp only [jO,jP,decide_eq_true_eq]
 lia
@[simp] theorem oIn_TI (n:Bool) (a b:Kd) (x:Int) (T:List Int):oIn n (a,.int x) (b,.tup (T.map Da.int))=some (.pu,.bl (if n then !decide (x∈T) else decide (x∈T))):=by
  unfold oIn Aw Gw
  dsimp only
  rw [EI,if_pos rfl,Hy]
  rfl
@[simp] theorem oIn_LI (n:Bool) (a b:Kd) (x:Int) (T:List Int):oIn n (a,.int x) (b,.lst (T.map Da.int))=some (.pu,.bl (if n then !decide (x∈T) else decide (x∈T))):=by
  unfold oIn Aw Gw
  dsimp only
  rw [EI,if_pos rfl,Hy]
  rfl
theorem DK {X:Da} {H l:List Int} (hX:X=.tup (H.map Da.int)\/X=.lst (H.map Da.int)) (hl:l.length<=1000000):fn_holds_all [X,dD l]=some (.bl (l.all fun x=>decide (x∈H))):=by
 have hc:=dZ (enc:=Da.int) (xs:=l) (ix:=[none,none,some 0]) (fi:=cB (ig (aT 1))) (i:=1) (c:=fun _=>some true) (f:=x2 (oIn false) (aT 1) (aT 2)) (ρ:=[.pu X,.pu (dD l)]) (p:=fun _=>true) (e:=fun x=>.bl (decide (x∈H)))
  (rS (by simp)) hl fun x hx=>⟨rfl,fun _=>⟨(.pu,.bl (decide (x∈H))),by rcases hX with rfl | rfl<;>simp [mpR],rfl,rfl⟩⟩
 rw [dI] at hc
 refine lK (ρ:=[.pu X,.pu (dD l)]) rfl ?_
 simp only [g_holds_all,g9,rY,b8,dN,hc,FM]
structure GD (L:List PI) (P H:List Int):Prop where
 ris:H.Pairwise fun a b=>Ms.ltI a b=true
 sub:∀ x∈H,x∈P
 cl:∀ x∈H,∀ a,(a,x)∈L->a∈H
theorem qS {H:List Int} (h:H.Pairwise fun a b=>Ms.ltI a b=true):H.Nodup:=h.imp fun {a b} z w=>by subst w;rw [Ms.linI.irr] at z;cases z
noncomputable def srI (l:List Int):List Int:=Ms.srt Ms.ltI l
theorem g5 {l:List Int} {x:Int}:x∈srI l↔x∈l:=(Ms.srt_perm l).mem_iff
noncomputable def Ia (L:List PI) (x:Int) (F:List (List Int)):List (List Int):=F++(F.filter fun H=>(dE (low L) x).all fun u=>decide (u∈H)).map fun H=>srI (H++[x])
structure Js (L:List PI) (P:List Int) (F:List (List Int)):Prop where
 nd:F.Nodup
 mem:∀ H,H∈F↔GD L P H
 len:F.length<=2 ^ P.length
theorem KO {L:List PI} {x:Int} {H:List Int}:((dE (low L) x).all fun u=>decide (u∈H))=true↔∀ a,(a,x)∈L->a∈H:=by
 rw [cH]
 exact ⟨fun h a ha=>by simpa using h a ((fJ L x a).mpr ha),fun h u hu=>by simpa using h u ((fJ L x u).mp hu)⟩
theorem qR {H:List Int} {x:Int} (h:H.Pairwise fun a b=>Ms.ltI a b=true) (hx:x∉H):(srI (H++[x])).Pairwise fun a b=>Ms.ltI a b=true :=
 Ms.srt_strict Ms.linI (bp.mpr ⟨qS h,bc _ _,fun a ha b hb=>by rw [ay] at hb;subst hb;intro z;subst z;exact hx ha⟩)
theorem Js.step {n:Int} {L:List PI} (Y:Yd n L) {P:List Int} {F:List (List Int)} {x:Int} (h:Js L P F) (hx:x∉P) (late:∀ y∈P,(x,y)∉L):Js L (P++[x]) (Ia L x F):=by
 have hxH:∀ H∈F,x∉H:=fun H hH z=>hx (((h.mem H).mp hH).sub x z)
 refine ⟨?_,fun H'=>?_,?_⟩
 ·unfold Ia
  refine bp.mpr ⟨h.nd,?_,fun a ha b hb=>?_⟩
  ·refine bz.mpr ((h.nd.sublist (bF)).imp_of_mem fun {A B} hA hB ne e=>ne ?_)
   have hA':=(aG.mp hA).1
   have hB':=(aG.mp hB).1
   refine Ms.strict_ext Ms.linI ((h.mem A).mp hA').ris ((h.mem B).mp hB').ris fun z=>?_
   have hz:z∈srI (A++[x])↔z∈srI (B++[x]):=by rw [e]
   rw [g5,g5,aD,aD,ay] at hz
   by_cases zx:z=x
   ·subst zx
    exact ⟨fun q=>absurd q (hxH A hA'),fun q=>absurd q (hxH B hB')⟩
   ·exact ⟨fun q=>(hz.mp (.inl q)).resolve_right zx,fun q=>(hz.mpr (.inl q)).resolve_right zx⟩
  ·obtain ⟨B,hB,rfl⟩:=az.mp hb
   intro z
   exact hxH a ha (by rw [z,g5];simp)
 ·unfold Ia
  rw [aD,az]
  constructor
  ·rintro (q | ⟨H,hH,rfl⟩)
   ·have:=(h.mem H').mp q
    exact ⟨this.ris,fun y hy=>bw _ (this.sub y hy),this.cl⟩
   ·obtain ⟨hF,hfit⟩:=aG.mp hH
    have hh:=(h.mem H).mp hF
    refine ⟨qR hh.ris (hxH H hF),fun y hy=>?_,fun y hy a ha=>?_⟩
    ·rw [g5,aD] at hy
     rw [aD]
     exact hy.imp (hh.sub y) id
    ·rw [g5,aD,ay] at hy
     rw [g5,aD]
     rcases hy with hy | rfl
     ·exact .inl (hh.cl y hy a ha)
     ·exact .inl (KO.mp hfit a ha)
  ·intro q
   by_cases hm:x∈H'
   ·refine .inr ⟨H'.filter fun y=>decide (y≠x),aG.mpr ⟨(h.mem _).mpr ⟨q.ris.sublist bF,fun y hy=>?_,fun y hy a ha=>?_⟩,KO.mpr fun a ha=>?_⟩,?_⟩
    ·obtain ⟨h1,h2⟩:=aG.mp hy
     have:=q.sub y h1
     rw [aD,ay] at this
     exact this.resolve_right (by simpa using h2)
    ·obtain ⟨h1,h2⟩:=aG.mp hy
     have hyx:y≠x:=by simpa using h2
     have hyP:y∈P:=by
      have:=q.sub y h1
      rw [aD,ay] at this
      exact this.resolve_right hyx
     exact aG.mpr ⟨q.cl y h1 a ha,by simpa using fun z:a=x=>late y hyP (z▸ha)⟩
    ·exact aG.mpr ⟨q.cl x hm a ha,by simpa using fun z:a=x=>Y.irr x (by rw [z] at ha;exact ha)⟩
    ·refine Ms.strict_ext Ms.linI (qR (q.ris.sublist bF) (by simp)) q.ris fun y=>?_
     rw [g5,aD,ay,aG]
     by_cases e:y=x
     ·subst e;simp [hm]
     ·simp [e]
   ·refine .inl ((h.mem H').mpr ⟨q.ris,fun y hy=>?_,q.cl⟩)
    have:=q.sub y hy
    rw [aD,ay] at this
    exact this.resolve_right fun z=>hm (z▸hy)
 ·unfold Ia
  rw [aO,ab,aO,bx,Nat.pow_succ]
  have h1:=eS (fun H=>(dE (low L) x).all fun u=>decide (u∈H)) F
  have h2:=h.len
  lia
noncomputable def hk (H:List Int):List Int:=(H.length:Int)::H
theorem Jr {A B:List Int} (h:hk A=hk B):A=B:=by unfold hk at h;injection h
noncomputable def ltH (A B:List Int):Bool:=HT.lexLt (hk A) (hk B)
theorem zN:∀ F:List (List Int),hkD (F.map fun H=>.tup [.int H.length,dT H])=some (F.map hk)
 | []=>rfl
 | H::F=>by
   show (match gK (H.map Da.int),hkD (F.map fun H=>.tup [.int H.length,dT H]) with | some ns,some ts=>some (((H.length:Int)::ns)::ts) | _,_=>none)=_
   rw [fS,zN F]
   rfl
theorem ye (F:List (List Int)):∃ hs:List (List Int),(∀ g:List Int->Da,((n9 tE ([]:List Int) (F.map hk)).map fun i=>(F.map g).getD i .non)=hs.map g)/\hs.Perm F/\hs.Pairwise fun x y=>ltH y x=false:=by
 obtain ⟨hp,hs⟩:=kR tE ([]:List Int) (F.map hk)
 have hp':(n9 tE ([]:List Int) (F.map hk)).Perm (bH F.length):=by
  have e:gs (α:=tE.α) (F.map hk)=F.length:=ab _
  rw [e] at hp
  exact hp
 refine ⟨(n9 tE ([]:List Int) (F.map hk)).map fun i=>F.getD i [],fun g=>?_,uV hp',?_⟩
 ·rw [aC]
  refine cY fun i hi=>?_
  have hi':i<F.length:=by simpa using hp'.mem_iff.mp hi
  show (F.map g).getD i .non=g (F.getD i [])
  rw [av,aA,aj hi',av,aj hi']
  rfl
 ·rw [bz] at hs ⊢
  refine hs.imp_of_mem fun {i j} hi hj z=>?_
  have hi':i<F.length:=by simpa using hp'.mem_iff.mp hi
  have hj':j<F.length:=by simpa using hp'.mem_iff.mp hj
  have z:HT.lexLt ((F.map hk).getD j []) ((F.map hk).getD i [])=false:=z
  have ei:(F.map hk).getD i []=hk (F.getD i []):=by
   rw [av,aA,aj hi',av,aj hi'];rfl
  have ej:(F.map hk).getD j []=hk (F.getD j []):=by
   rw [av,aA,aj hj',av,aj hj'];rfl
  rw [ei,ej] at z
  exact z
theorem Lf {F:List (List Int)} (h:F.Nodup):(F.map hk).Nodup:=bz.mpr (h.imp fun {a b} z w=>z (Jr w))
theorem vD {F:List (List Int)} {lam:Da->Option Da} (h:∀ H∈F,lam (dT H)=some (.tup [.int H.length,dT H])) (hl:F.length<=63) (hn:F.Nodup):∃ hs:List (List Int),sn lam (F.map dT)=some (hs.map dT)/\hs.Perm F/\hs.Pairwise fun x y=>ltH y x=false:=by
 have e1:=sT (lam:=lam) (enc:=dT) (e:=fun H=>.tup [.int H.length,dT H]) (xs:=F) h
 obtain ⟨hs,q1,q2,q3⟩:=ye F
 refine ⟨hs,?_,q2,q3⟩
 unfold sn
 rw [if_pos (by rw [ab];lia),e1]
 dsimp only
 have hok:OkN (F.map hk):=.inr ⟨by rw [ab];exact hl,Lf hn⟩
 cases F with
 | nil=>exact congrArg some (q1 dT)
 | cons A F =>
   unfold wH
   rw [show gK ((A::F).map fun H=>Da.tup [.int H.length,dT H])=none from rfl,zN]
   dsimp only
   rw [if_pos hok]
   exact congrArg some (q1 dT)
theorem sD {n:Int} {L:List PI} (Y:Yd n L) (h0:0<=n) (h5:n<=5) (hl:L.length<=1000):∃ hs:List (List Int),fn_heads [dY n L]=some (.tup (hs.map dT))/\hs.Nodup/\(∀ H,H∈hs↔GD L (rgI 0 n.toNat) H)/\(hs.Pairwise fun x y=>ltH y x=false)/\hs.length<=32:=by
 obtain ⟨ord,hup,hperm,hsrt⟩:=nz (low L) h0 (by lia)
 have ho:=rJ Y hsrt
 have hnd:ord.Nodup:=hperm.nodup_iff.mpr (d5 _ _)
 have hol:ord.length<=5:=by rw [hperm.length_eq,fm];lia
 have pw:∀ k,k<=5->2 ^ k<=32:=fun k hk=>by
  have:=Nat.pow_le_pow_right (show 0<2 by decide) hk
  lia
 have key:∃ d,fn_heads [dY n L]=some d/\∃ hs:List (List Int),d=.tup (hs.map dT)/\∃ F,Js L ord F/\hs.Perm F/\hs.Pairwise fun x y=>ltH y x=false:=by
  refine nQ ?_
  unfold g_heads
  have e0:fB 5 [dY n L]=[.pu (dY n L),.no,.no,.no,.no]:=rfl
  rw [e0]
  refine cZ (eM (ρ':=[.pu (dY n L),.pu (dU (low L)),.no,.no,.no]) (by simp [dY,pA hl]) ?_)
  refine cZ (eM (ρ':=[.pu (dY n L),.pu (dU (low L)),.pu (.lst (([[]]:List (List Int)).map dT)),.no,.no]) (by simp [dT]) ?_)
  refine cZ ?_
  refine kj (enc:=Da.int) (xs:=ord) (fun pre ρ=>∃ F s3 s4,ρ=[.pu (dY n L),.pu (dU (low L)),.pu (.lst (F.map dT)),s3,s4]/\Js L pre F) ?_ ⟨[[]],_,_,rfl,⟨bc _ _,fun H=>?_,by simp⟩⟩ ?_ ?_
  ·have hz:x2 oIt (aT 0) (xC (.int 0)) [.pu (dY n L),.pu (dU (low L)),.pu (.lst (([[]]:List (List Int)).map dT)),.no,.no]=some (.pu,.int n):=by simp [dY]
   simp only [jY,nY,pE,b8,hz,iw,dN,br,bv,fA,fU,g7,if_true,cw,hup]
  ·rw [ay]
   constructor
   ·rintro rfl;exact ⟨.nil,by simp,by simp⟩
   ·intro q
    cases H with
    | nil=>rfl
    | cons a H=>exact absurd (q.sub a ah) (by simp)
  ·rintro pre x post ρ e ⟨F,s3,s4,rfl,fi⟩
   have hple:pre.length<=5:=by rw [e] at hol;rw [aO] at hol;lia
   have hF:F.length<=32:=bO fi.len (pw _ hple)
   refine ⟨[.pu (dY n L),.pu (dU (low L)),.pu (.lst (F.map dT)),.pu (.int x),s4],rfl,?_⟩
   refine cZ (eM (ρ':=[.pu (dY n L),.pu (dU (low L)),.pu (.lst (F.map dT)),.pu (.int x),.pu (dD (dE (low L) x))]) ?_ ?_)
   ·have:=xu (low L) x (aT 1) (aT 3) [.pu (dY n L),.pu (dU (low L)),.pu (.lst (F.map dT)),.pu (.int x),s4] (k:=.pu) (k':=.pu) rfl rfl
    simp only [i6]
    rw [this]
    rfl
   have hlen:∀ H∈F,H.length<=5:=fun H hH=>by
    have q:=(fi.mem H).mp hH
    exact bO (Ms.length_le_of_subset (qS q.ris) q.sub) hple
   have hc:=dZ (enc:=dT) (xs:=F) (ix:=[none,none,none,none,none,some 3,some 4]) (fi:=cB (ig (aT 2))) (i:=1) (c:=tTr (cC fn_holds_all (aL (aT 1) (aL (aT 6) ck)))) (f:=xB hE (aL (xB eF (aL (x2 n8 (aT 1) (mz (aL (aT 5) ck))) ck)) ck))
    (ρ:=[.pu (dY n L),.pu (dU (low L)),.pu (.lst (F.map dT)),.pu (.int x),.pu (dD (dE (low L) x))]) (p:=fun H=>(dE (low L) x).all fun u=>decide (u∈H)) (e:=fun H=>dT (srI (H++[x]))) (by simp) (by lia) fun H hH=>?_
   ·refine eM (ρ':=[.pu (dY n L),.pu (dU (low L)),.pu (.lst ((Ia L x F).map dT)),.pu (.int x),.pu (dD (dE (low L) x))]) ?_ ⟨_,_,_,rfl,fi.step Y ?_ fun y hy=>?_⟩
    ·have hlf:=eS (fun H=>(dE (low L) x).all fun u=>decide (u∈H)) F
     simp only [i6,u4,hc,iw,br,bv,Jg]
     rw [if_pos (by rw [ab,ab];lia)]
     unfold Ia
     rw [bE,aC]
     rfl
    ·intro z
     rw [e] at hnd
     exact (bp.mp hnd).2.2 x z x ah rfl
    ·rw [e] at ho
     exact (gA.mp ho).2.2 y hy x ah
   ·have hh:=DK (X:=dT H) (H:=H) (l:=dE (low L) x) (.inl rfl) (by have:=vW L x;lia)
    have em:(mpR [none,none,none,none,none,some 3,some 4] [.pu (dY n L),.pu (dU (low L)),.pu (.lst (F.map dT)),.pu (.int x),.pu (dD (dE (low L) x))]).set 1 (.pu (dT H))=[.no,.pu (dT H),.no,.no,.no,.pu (.int x),.pu (dD (dE (low L) x))]:=rfl
    rw [em]
    refine ⟨?_,fun _=>⟨(.pu,dT (srI (H++[x]))),?_,rfl,rfl⟩⟩
    ·simp only [Ki,pE,b8,iw,dN,br,bv,fA,fU,g7,if_true,cw,hh]
     rfl
    ·have hs:=lv (ns:=H++[x]) (by have:=hlen H hH;rw [aO,bx];lia)
     rw [bE] at hs
     have hso:eF [(Kd.pu,Da.tup (H.map Da.int++[Da.int x]))]=some (.fr,.lst ((Ms.srt Ms.ltI (H++[x])).map Da.int)):=by
      unfold eF
      dsimp only
      rw [show gx Da.int H++[Da.int x]=gx Da.int H++gx Da.int [x] from rfl,hs]
     simp only [rY,b8,dN,u4,iw,uG,br,bv,fA,fU,g7,if_true,cw,dT,aI,dg]
     rw [if_pos (by decide)]
     dsimp only
     rw [E9,if_pos (by have:=hlen H hH;rw [ab,bx];lia)]
     dsimp only
     rw [hso]
     rfl
  ·rintro ρ ⟨F,s3,s4,rfl,fi⟩
   have hF:F.length<=32:=bO fi.len (pw _ hol)
   obtain ⟨hs,e1,p1,o1⟩:=vD (F:=F) (lam:=EZ [none,none] 0 (mz (aL (xB sI (aL (aT 0) ck)) (aL (aT 0) ck))) [.pu (dY n L),.pu (dU (low L)),.pu (.lst (F.map dT)),s3,s4]) (fun H hH=>by
    unfold EZ
    have em:(mpR [none,none] [.pu (dY n L),.pu (dU (low L)),.pu (.lst (F.map dT)),s3,s4]).set 0 (.pu (dT H))=[.pu (dT H),.no]:=rfl
    rw [em]
    simp [dT]) (by lia) fi.nd
   refine ou (d:=.tup (hs.map dT)) ?_ ⟨hs,rfl,F,fi,p1,o1⟩
   have ei:qU (aT 2) [.pu (dY n L),.pu (dU (low L)),.pu (.lst (F.map dT)),s3,s4]=some (F.map dT):=rfl
   have es:kJ [none,none] 0 (qU (aT 2)) (mz (aL (xB sI (aL (aT 0) ck)) (aL (aT 0) ck))) [.pu (dY n L),.pu (dU (low L)),.pu (.lst (F.map dT)),s3,s4]=some (.fr,.lst (hs.map dT)):=by
    unfold kJ
    rw [ei]
    dsimp only
    rw [e1]
   simp only [g9,rY,b8,dN,es,xS]
 obtain ⟨d,ed,hs,rfl,F,fi,p1,o1⟩:=key
 refine ⟨hs,ed,p1.nodup_iff.mpr fi.nd,fun H=>?_,o1,by rw [p1.length_eq];exact bO fi.len (pw _ hol)⟩
 rw [p1.mem_iff,fi.mem]
 exact ⟨fun q=>⟨q.ris,fun x hx=>hperm.mem_iff.mp (q.sub x hx),q.cl⟩,fun q=>⟨q.ris,fun x hx=>hperm.mem_iff.mpr (q.sub x hx),q.cl⟩⟩
end GH
set_option linter.unusedSimpArgs false
namespace GH
open PySem L2 Ry G G3 GW
noncomputable abbrev Wd:=List (List Int×Int)
noncomputable def kT (H:List Int):List Key:=H.map au
theorem wK:∀ {A B:List Int},kT A=kT B->A=B
 | [],[],_=>rfl
 | [],_::_,h=>by cases h
 | _::_,[],h=>by cases h
 | a::A,b::B,h=>by
   unfold kT at h
   rw [ax,ax] at h
   injection h with h1 h2
   rw [dh h1,wK (A:=A) (B:=B) h2]
theorem wj:∀ H:List Int,mN (H.map Da.int)=some (kT H)
 | []=>rfl
 | a::H=>by
   show (match E8 (.int a),mN (H.map Da.int) with | some j,some js=>some (j::js) | _,_=>none)=_
   rw [wj H]
   rfl
noncomputable def dW (W:Wd):Da:=.dT (W.map fun e:List Int×Int=>kT e.1) (W.map fun e=>.int e.2)
noncomputable def vI:Wd->List Int->Option Int
 | [],_=>none
 | (A,d)::W,H=>if A=H then some d else vI W H
noncomputable def yF:Wd->List Int->Int->Wd
 | [],H,c=>[(H,c)]
 | (A,d)::W,H,c=>if A=H then (A,c)::W else (A,d)::yF W H c
theorem IK:∀ (W:Wd) (H:List Int),atK (W.map fun e:List Int×Int=>kT e.1) (W.map fun e:List Int×Int=>Da.int e.2) (kT H)=(vI W H).map Da.int
 | [],H=>rfl
 | (A,d)::W,H=>by
   show (if kT A=kT H then some (Da.int d) else atK (W.map fun e:List Int×Int=>kT e.1) (W.map fun e:List Int×Int=>Da.int e.2) (kT H))=(if A=H then some d else vI W H).map Da.int
   by_cases h:A=H
   ·subst h;rw [if_pos rfl,if_pos rfl];rfl
   ·rw [if_neg (fun z=>h (wK z)),if_neg h,IK W H]
theorem zP (W:Wd) (H:List Int):mv (dW W) (dT H)=some ((vI W H).map Da.int):=by
 show (match mN (H.map Da.int) with | some j=>some (atK (W.map fun e:List Int×Int=>kT e.1) (W.map fun e:List Int×Int=>Da.int e.2) j) | none=>none)=_
 rw [wj]
 dsimp only
 rw [IK]
theorem wY:∀ (W:Wd) (H A:List Int) (c:Int),vI (yF W H c) A=if A=H then some c else vI W A
 | [],H,A,c=>by
   show (if H=A then some c else none)=_
   by_cases h:A=H
   ·subst h;rw [if_pos rfl,if_pos rfl]
   ·rw [if_neg (fun z=>h z.symm),if_neg h];rfl
 | (B,d)::W,H,A,c=>by
   unfold yF
   by_cases h:B=H
   ·subst h
    rw [if_pos rfl]
    show (if B=A then some c else vI W A)=if A=B then some c else (if B=A then some d else vI W A)
    by_cases h2:A=B
    ·subst h2;rw [if_pos rfl,if_pos rfl]
    ·rw [if_neg (fun z=>h2 z.symm),if_neg h2,if_neg (fun z=>h2 z.symm)]
   ·rw [if_neg h]
    show (if B=A then some d else vI (yF W H c) A)=if A=H then some c else (if B=A then some d else vI W A)
    rw [wY W H A c]
    by_cases h2:B=A
    ·subst h2;rw [if_pos rfl,if_neg h,if_pos rfl]
    ·rw [if_neg h2,if_neg h2]
theorem mx:∀ (W:Wd) (H:List Int) (c:Int),(yF W H c).map (·.1)=if H∈W.map (·.1) then W.map (·.1) else W.map (·.1)++[H]
 | [],H,c=>rfl
 | (B,d)::W,H,c=>by
   unfold yF
   by_cases h:B=H
   ·subst h;rw [if_pos rfl,if_pos (by simp)];rfl
   ·rw [if_neg h,ax,mx W H c,ax]
    have hne:H≠B:=fun z=>h z.symm
    by_cases h2:H∈W.map (·.1)
    ·rw [if_pos h2,if_pos (af _ h2)]
    ·rw [if_neg h2,if_neg (fun z=>(ao.mp z).elim hne h2)];rfl
theorem Kh {W:Wd} {H:List Int} {c:Int} (h:(W.map (·.1)).Nodup):((yF W H c).map (·.1)).Nodup:=by
 rw [mx]
 split
 ·exact h
 ·rename_i hn
  exact bp.mpr ⟨h,bc _ _,fun a ha b hb=>by rw [ay] at hb;subst hb;intro z;subst z;exact hn ha⟩
theorem Fp:∀ (W:Wd) (H:List Int) (c:Int),hV (W.map fun e:List Int×Int=>kT e.1) (kT H)=((yF W H c).map fun e=>kT e.1)/\gZ (W.map fun e:List Int×Int=>kT e.1) (W.map fun e:List Int×Int=>Da.int e.2) (kT H) (.int c)=(yF W H c).map fun e=>Da.int e.2
 | [],H,c=>⟨rfl,rfl⟩
 | (B,d)::W,H,c=>by
   have ih:=Fp W H c
   unfold yF
   by_cases h:B=H
   ·subst h
    rw [if_pos rfl]
    exact ⟨if_pos rfl,if_pos rfl⟩
   ·rw [if_neg h]
    have hk:¬ kT B=kT H:=fun z=>h (wK z)
    refine ⟨(if_neg hk).trans ?_,(if_neg hk).trans ?_⟩
    ·rw [ih.1];rfl
    ·rw [ih.2];rfl
theorem Jp {W:Wd} (H:List Int) (c:Int) (nd:(W.map (·.1)).Nodup) (hl:W.length<=1000000):HY (dW W) (dT H) (.int c)=some (dW (yF W H c)):=by
 have nd':(W.map fun e:List Int×Int=>kT e.1).Nodup:=by
  have:(W.map fun e:List Int×Int=>kT e.1)=(W.map (·.1)).map kT:=by rw [aC];rfl
  rw [this]
  exact bz.mpr (nd.imp fun {a b} z w=>z (wK w))
 show (match mN (H.map Da.int) with | some j=>if (W.map fun e:List Int×Int=>kT e.1).Nodup/\(W.map fun e:List Int×Int=>kT e.1).length<=1000000 then some (Da.dT (hV (W.map fun e:List Int×Int=>kT e.1) j) (gZ (W.map fun e:List Int×Int=>kT e.1) (W.map fun e:List Int×Int=>Da.int e.2) j (.int c))) else none | none=>none)=_
 rw [wj]
 dsimp only
 rw [if_pos ⟨nd',by rw [ab];exact hl⟩,(Fp W H c).1,(Fp W H c).2]
 rfl
theorem cJ {fn:List Da->Option Da} {g:Rho->Option (List Rv)} {ρ:Rho} {rs:List Rv} {ds:List Da} {d:Da} (hg:g ρ=some rs) (hp:kX rs=some ds) (hf:fn ds=some d):cC fn g ρ=some (.pu,d):=by
 unfold cC
 rw [hg]
 dsimp only
 rw [hp]
 dsimp only
 rw [hf]
theorem IZ (ds:List Da) (k:Nat):vK ds none (some (k:Int))=ds.take k:=by
 unfold vK
 rw [HT.sIx_none,HT.sIx_nat,ji,vq]
 by_cases h:k<=ds.length
 ·rw [Ep h]
 ·rw [CB (by lia),eK (aw _),eK (by lia)]
theorem JX (ds:List Da) (k:Nat):vK ds (some (k:Int)) none=ds.drop k:=by
 unfold vK
 rw [HT.sIx_none,HT.sIx_nat]
 by_cases h:k<=ds.length
 ·rw [Ep h,eK (by rw [j8];lia)]
 ·rw [CB (by lia),fF (aw _),fF (by lia),List.take_nil]
theorem He (W:Wd) (H:List Int) (hl:H.length<=1000):fn_ways_up_to [dW W,dT H]=some (.int (sm (rgI 0 H.length) fun k=>(vI W (H.eraseIdx k.toNat)).getD 0)):=by
 have hc:=dZ (enc:=Da.int) (xs:=rgI 0 H.length) (ix:=[none,none,some 1,some 0]) (fi:=nM (aL (xB sI (aL (aT 1) ck)) ck)) (i:=1) (c:=fun _=>some true)
  (f:=jE (aT 3) (x2 n8 (kh (aT 2) pT (ot (aT 1))) (kh (aT 2) (ot (x2 n8 (aT 1) (xC (.int 1)))) pT)) (xC (.int 0))) (ρ:=[.pu (dW W),.pu (dT H)]) (p:=fun _=>true) (e:=fun k=>.int ((vI W (H.eraseIdx k.toNat)).getD 0))
  ?_ (by rw [fm];lia) fun k hk=>⟨rfl,fun _=>⟨(.pu,.int ((vI W (H.eraseIdx k.toNat)).getD 0)),?_,rfl,rfl⟩⟩
 ·rw [dI] at hc
  refine lK (ρ:=[.pu (dW W),.pu (dT H)]) rfl ?_
  unfold g_ways_up_to
  rw [g9,rY,b8,hc,dN]
  dsimp only
  rw [EU]
 ·simp only [xN,b8,rY,iw,dN,br,bv,dT,Je,ab]
  rw [if_pos (by lia),fw]
  congr 3
 ·have hm:=eQ.mp hk
  obtain ⟨j,rfl⟩:∃ j:Nat,k=(j:Int):=⟨k.toNat,by lia⟩
  have em:(mpR [none,none,some 1,some 0] [.pu (dW W),.pu (dT H)]).set 1 (.pu (.int (j:Int)))=[.no,.pu (.int (j:Int)),.pu (dT H),.pu (dW W)]:=rfl
  rw [em]
  have s1:kh (aT 2) pT (ot (aT 1)) [.no,.pu (.int (j:Int)),.pu (dT H),.pu (dW W)]=some (.pu,.tup ((H.map Da.int).take j)):=by
   show some (Kd.pu,Da.tup (vK (H.map Da.int) none (some (j:Int))))=_
   rw [IZ]
  have s2:kh (aT 2) (ot (x2 n8 (aT 1) (xC (.int 1)))) pT [.no,.pu (.int (j:Int)),.pu (dT H),.pu (dW W)]=some (.pu,.tup ((H.map Da.int).drop (j+1))):=by
   show some (Kd.pu,Da.tup (vK (H.map Da.int) (some ((j:Int)+1)) none))=_
   rw [show (j:Int)+1=((j+1:Nat):Int) by lia,JX]
  have hj:j<H.length:=by lia
  have ek:Da.tup ((H.map Da.int).take j++(H.map Da.int).drop (j+1))=dT (H.eraseIdx j):=by
   unfold dT
   rw [List.eraseIdx_eq_take_drop_succ,bE,List.map_take,List.map_drop]
  simp only [pC,iw,u4,s1,s2,E9,JM,br,bv]
  rw [if_pos (by rw [gC,j8,ab];lia)]
  dsimp only
  rw [ek,zP,gc]
  cases vI W (H.eraseIdx j) with
  | none=>rfl
  | some c=>rfl
noncomputable def hdB (L:List PI) (H:List Int):Bool:=H.all fun x=>(dE (low L) x).all fun a=>decide (a∈H)
theorem lS {L:List PI} {H:List Int}:hdB L H=true↔∀ x∈H,∀ a,(a,x)∈L->a∈H:=by
 unfold hdB
 rw [cH]
 exact ⟨fun h x hx=>KO.mp (h x hx),fun h x hx=>KO.mpr (h x hx)⟩
noncomputable def wN (p:List Int->Bool):Nat->List Int->Int
 | 0,H=>if p H=true then 1 else 0
 | k+1,H=>if p H=true then sm (rgI 0 (k+1)) fun i=>wN p k (H.eraseIdx i.toNat) else 0
noncomputable def wL (p:List Int->Bool) (H:List Int):Int:=wN p H.length H
theorem Jh {p:List Int->Bool} {H:List Int} (h:p H=false):wL p H=0:=by
 unfold wL
 cases H.length with
 | zero=>unfold wN;rw [h];rfl
 | succ k=>unfold wN;rw [h];rfl
theorem EN {p:List Int->Bool} {H:List Int} (h:p H=true) (hn:H≠[]):wL p H=sm (rgI 0 H.length) fun i=>wL p (H.eraseIdx i.toNat):=by
 obtain ⟨k,hk⟩:∃ k,H.length=k+1:=⟨H.length-1,by have:=yb.mpr hn;lia⟩
 have e:wL p H=wN p (k+1) H:=by unfold wL;rw [hk]
 rw [e]
 unfold wN
 rw [if_pos h,hk]
 refine d4 fun i hi=>?_
 have hm:=eQ.mp hi
 unfold wL
 rw [gz (by lia),hk]
 rfl
theorem Fx {A B:List Int} (h:A.length<B.length):ltH A B=true:=by
 unfold ltH hk
 rw [HT.lexLt_cons,if_neg (by lia),decide_eq_true_eq]
 lia
theorem Dp {n:Int} {L:List PI} (Y:Yd n L) (h0:0<=n) (h5:n<=5) (hl:L.length<=1000):fn_lines [dY n L]=some (.int (wL (hdB L) (rgI 0 n.toNat))):=by
 obtain ⟨hs,eh,hnd,hmem,hso,hsl⟩:=sD Y h0 h5 hl
 have hnil:GD L (rgI 0 n.toNat) []:=⟨.nil,by simp,by simp⟩
 have hall:GD L (rgI 0 n.toNat) (rgI 0 n.toNat):=⟨iy _ _,fun x hx=>hx,fun x _ a ha=>by
  have:=(Y.rg _ ha).1
  dsimp only at this
  exact eQ.mpr (by lia)⟩
 have hlen:∀ H∈hs,H.length<=6:=fun H hH=>by
  have q:=(hmem H).mp hH
  have:=Ms.length_le_of_subset (qS q.ris) q.sub
  rw [fm] at this
  lia
 refine um ?_
 unfold g_lines
 have e0:fB 3 [dY n L]=[.pu (dY n L),.no,.no]:=rfl
 rw [e0]
 refine cZ (eM (ρ':=[.pu (dY n L),.ow (dW [([],1)]),.no]) (by simp [pV,dW,kT,gK]) ?_)
 refine cZ ?_
 refine kj (enc:=dT) (xs:=hs) (fun pre ρ=>∃ W s2,ρ=[.pu (dY n L),.ow (dW W),s2]/\(W.map (·.1)).Nodup/\(∀ e∈W,e.1=[]\/e.1∈pre)/\∀ H,vI W H=if H=[]\/H∈pre then some (wL (hdB L) H) else none) ?_ ⟨[([],1)],_,rfl,bc _ _,by simp,fun H=>?_⟩ ?_ ?_
 ·simp [eh]
 ·show (if []=H then some 1 else none)=_
  by_cases h:H=[]
  ·subst h;rw [if_pos rfl,if_pos (.inl rfl)];rfl
  ·rw [if_neg (fun z=>h z.symm),if_neg (by simp [h])]
 ·rintro pre H post ρ e ⟨W,s2,rfl,nd,hk,hg⟩
  have hH:H∈hs:=by rw [e];simp
  have qH:=(hmem H).mp hH
  refine ⟨[.pu (dY n L),.ow (dW W),.pu (dT H)],rfl,?_⟩
  refine su (b:=!H.isEmpty) ?_ (fun q=>?_) fun q=>?_
  ·cases H with
   | nil=>rfl
   | cons a H=>simp [dT,tTr]
  ·have hne:H≠[]:=by intro z;subst z;cases q
   have hpH:hdB L H=true:=lS.mpr qH.cl
   have hw:fn_ways_up_to [dW W,dT H]=some (.int (wL (hdB L) H)):=by
    rw [He W H (by have:=hlen H hH;lia),EN hpH hne]
    congr 2
    refine d4 fun k hk=>?_
    have hm:=eQ.mp hk
    have hkl:k.toNat<H.length:=by lia
    rw [hg]
    by_cases hp:hdB L (H.eraseIdx k.toNat)=true
    ·have hd':GD L (rgI 0 n.toNat) (H.eraseIdx k.toNat):=⟨qH.ris.sublist (vw _ _),fun x hx=>qH.sub x ((vw _ _).subset hx),lS.mp hp⟩
     have hin:=(hmem _).mpr hd'
     have hlt:(H.eraseIdx k.toNat).length<H.length:=by rw [gz hkl];lia
     have:H.eraseIdx k.toNat∈pre:=by
      rw [e] at hin hso
      rcases aD.mp hin with z | z
      ·exact z
      ·rcases ao.mp z with z | z
       ·rw [z] at hlt;lia
       ·have:=(bI.mp (gA.mp hso).2.1).1 _ z
        rw [Fx hlt] at this
        cases this
     rw [if_pos (.inr this)]
     rfl
    ·have hp':hdB L (H.eraseIdx k.toNat)=false:=by simpa using hp
     have hnn:¬ (H.eraseIdx k.toNat=[]\/H.eraseIdx k.toNat∈pre):=by
      rintro (z | z)
      ·rw [z] at hp';cases hp'
      ·exact hp (lS.mpr ((hmem _).mp (by rw [e];simp [z])).cl)
     rw [if_neg hnn,Jh hp']
     rfl
   have hWl:W.length<=1000000:=by
    have h1:(W.map (·.1)).length<=([]::hs).length:=Ms.length_le_of_subset nd fun A hA=>by
     obtain ⟨x,hx,rfl⟩:=az.mp hA
     rcases hk x hx with z | z
     ·rw [z];exact ah
     ·exact af _ (by rw [e];simp [z])
    rw [ab,aI] at h1
    lia
   refine eM (ρ':=[.pu (dY n L),.ow (dW (yF W H (wL (hdB L) H))),.pu (dT H)]) ?_ ⟨_,_,rfl,Kh nd,fun x hx=>?_,fun A=>?_⟩
   ·have hlend:yE 1 (cC fn_ways_up_to (aL (aT 1) (aL (aT 2) ck))) [.pu (dY n L),.ow (dW W),.pu (dT H)]=some (.pu,.int (wL (hdB L) H)):=by
     have hcall:cC fn_ways_up_to (aL (aT 1) (aL (aT 2) ck)) [.pu (dY n L),.pu (dW W),.pu (dT H)]=some (.pu,.int (wL (hdB L) H)):=by
      exact cJ (ds:=[dW W,dT H]) rfl rfl hw
     unfold yE
     have e1:([.pu (dY n L),.ow (dW W),.pu (dT H)]:Rho)[1]?=some (.ow (dW W)):=rfl
     rw [e1]
     dsimp only
     rw [if_pos (show nN (dW W)=true from rfl)]
     have e2:([.pu (dY n L),.ow (dW W),.pu (dT H)]:Rho).set 1 (.pu (dW W))=[.pu (dY n L),.pu (dW W),.pu (dT H)]:=rfl
     rw [e2,hcall]
     dsimp only
     rw [if_pos (show u6 (.int (wL (hdB L) H))=true from rfl)]
    rw [xq]
    have e1:([.pu (dY n L),.ow (dW W),.pu (dT H)]:Rho)[1]?=some (.ow (dW W)):=rfl
    have e2:aT 2 [.pu (dY n L),.ow (dW W),.pu (dT H)]=some (.pu,dT H):=rfl
    rw [e1,e2,hlend]
    dsimp only
    rw [if_pos (show fj (Kd.pu,Da.int (wL (hdB L) H))=true from rfl),Jp H _ nd hWl]
    rfl
   ·have hx1:x.1∈(yF W H (wL (hdB L) H)).map (·.1):=az.mpr ⟨x,hx,rfl⟩
    rw [mx] at hx1
    have:x.1∈W.map (·.1)\/x.1=H:=by
     split at hx1
     ·exact .inl hx1
     ·rcases aD.mp hx1 with z | z
      ·exact .inl z
      ·exact .inr (by simpa using z)
    rcases this with z | z
    ·obtain ⟨y,hy,ey⟩:=az.mp z
     rw [<- ey]
     exact (hk y hy).imp id fun w=>bw _ w
    ·exact .inr (by rw [z];simp)
   ·rw [wY,hg]
    by_cases hA:A=H
    ·subst hA;rw [if_pos rfl,if_pos (.inr (by simp))]
    ·rw [if_neg hA]
     have:(A=[]\/A∈pre)↔(A=[]\/A∈pre++[H]):=by rw [aD,ay];simp [hA]
     by_cases h2:A=[]\/A∈pre
     ·rw [if_pos h2,if_pos (this.mp h2)]
     ·rw [if_neg h2,if_neg (fun z=>h2 (this.mpr z))]
  ·have hne:H=[]:=by cases H with | nil=>rfl | cons a H=>cases q
   subst hne
   refine eM rfl ⟨W,_,rfl,nd,fun x hx=>(hk x hx).imp id fun w=>bw _ w,fun A=>?_⟩
   rw [hg]
   have:(A=[]\/A∈pre)↔(A=[]\/A∈pre++[[]]):=by
    rw [aD,ay]
    exact ⟨fun h=>h.imp id .inl,fun h=>h.elim .inl fun z=>z.elim .inr .inl⟩
   by_cases h2:A=[]\/A∈pre
   ·rw [if_pos h2,if_pos (this.mp h2)]
   ·rw [if_neg h2,if_neg (fun z=>h2 (this.mpr z))]
 ·rintro ρ ⟨W,s2,rfl,nd,hk,hg⟩
  refine ou (d:=.int (wL (hdB L) (rgI 0 n.toNat))) ?_ rfl
  have hz:x2 oIt (aT 0) (xC (.int 0)) [.pu (dY n L),.ow (dW W),s2]=some (.pu,.int n):=by simp [dY]
  have hr:jF (aL (x2 oIt (aT 0) (xC (.int 0))) ck) [.pu (dY n L),.ow (dW W),s2]=some (.pu,dT (rgI 0 n.toNat)):=by
   unfold jF
   simp only [b8,dN,hz]
   rw [if_pos (by lia),fw]
   rfl
  have hlk:mv (dW W) (dT (rgI 0 n.toNat))=some (some (.int (wL (hdB L) (rgI 0 n.toNat)))):=by
   rw [zP,hg,if_pos (.inr ((hmem _).mpr hall))]
   rfl
  have hit:oIt (.bo,dW W) (.pu,dT (rgI 0 n.toNat))=some (.pu,.int (wL (hdB L) (rgI 0 n.toNat))):=by
   show (oIx (.bo,dW W) (.pu,dT (rgI 0 n.toNat))).or (xE (.bo,dW W) (.pu,dT (rgI 0 n.toNat)))=_
   have e2:xE (.bo,dW W) (.pu,dT (rgI 0 n.toNat))=some (.pu,.int (wL (hdB L) (rgI 0 n.toNat))):=by
    unfold xE
    dsimp only
    rw [hlk]
   rw [e2]
   rfl
  simp only [g9,u4,iw,hr,br,bv,hit]
end GH
set_option linter.unusedSimpArgs false
set_option linter.unusedSimpArgs false
namespace G17
open PySem L2 Ry G G3 GW GH
theorem eqvAll_J:∀ P L:List Int,dJ (gM (P.map Da.int)) (gM (L.map Da.int))=decide (P=L)
 | [],[]=>rfl
 | [],q::L=>rfl
 | p::P,[]=>rfl
 | p::P,q::L=>by
   show (cG (.int p) (.int q)&&dJ (gM (P.map Da.int)) (gM (L.map Da.int)))=_
   rw [eqvAll_J P L,cp]
   simp only [cG,aU,beq_iff_eq,decide_eq_true_eq,jQ]
end G17
namespace GF
open PySem L2 Ry G GW
noncomputable def g_heights_of:Rho->Res:=(iP (AN 2 (xC2 (.fr,.dK [] [])))
 (iP (qV (cB (ig (cC fn_upwards (aL (aT 0) (aL (aT 1) ck))))) (tgN 3)
 (CQ 2 (aT 3) (x2 n8 (xC (.int 1)) (yI (mF 2 (fO [none,none,some 2] (cB (ig (jE (aT 1) (aT 3) (xC2 (.fr,.dK [] []))))) (tgN 1) (fun _=>some true) (x2 oIt (aT 2) (aT 1)))) (pe (xC (.int 1)))))))
 (fT (aT 2))))
noncomputable def fn_heights_of:List Da->Option Da:=jr 4 g_heights_of
noncomputable def g_row_at:Rho->Res:=(fT (xB hE (aL (fO [none,none,some 1,some 0] (cB (ig (xB eF (aL (aT 0) ck)))) (tgN 1) (tb (x2 (oEq false) (x2 oIt (aT 3) (aT 1)) (aT 2))) (aT 1)) ck)))
noncomputable def fn_row_at:List Da->Option Da:=jr 2 g_row_at
noncomputable def g_floors:Rho->Res:=(iP (nv 1 (cC fn_heights_of (aL (x2 oIt (aT 0) (xC (.int 0))) (aL (cC fn_lowers_of (aL (x2 oIt (aT 0) (xC (.int 1))) ck)) ck))))
 (iP (AN 2 (DQ ck))
 (iP (nv 3 (cC fn_row_at (aL (aT 1) (aL (xC (.int 0)) ck))))
 (iP (jC (tTr (aT 3))
 (iP (lT 2 (aT 3))
 (nv 3 (cC fn_row_at (aL (aT 1) (aL (xB sI (aL (aT 2) ck)) ck))))) 200)
 (fT (xB hE (aL (aT 2) ck)))))))
noncomputable def fn_floors:List Da->Option Da:=jr 4 g_floors
end GF
set_option linter.unusedSimpArgs false
namespace GF
open PySem L2 Ry G G3 GW GH
theorem DH {ds:List Da} (h:ds.all u6=true):Gh (.fr,.lst ds)=some (.fr,.lst ds):=by
 show (if ds.all u6=true then some ((Kd.fr,Da.lst ds):Rv) else none)=_
 rw [if_pos h]
theorem D2 (ns:List Int):Gh (.fr,.lst (ns.map Da.int))=some (.fr,.lst (ns.map Da.int)):=DH (by rw [nI,cH];intro x _;rfl)
theorem Dm {i:Nat} {f:Rho->Option Rv} {ρ:Rho} {d:Da} {r r':Rv} (h:ρ[i]?=some (.ow d)) (hd:nN d=true) (hf:f (ρ.set i (.pu d))=some r) (ho:Gh r=some r'):mF i f ρ=some r':=by
 unfold mF
 rw [h]
 dsimp only
 rw [if_pos hd,hf]
 exact ho
theorem D9 {d x:Int}:∀ {l:List Int},x∈l->x<=uh d l
 | [],h=>by cases h
 | a::r,h=>by
   obtain ⟨h1,h2,_⟩:=pG r a
   rcases ao.mp h with z | z
   ·rw [z];exact h1
   ·exact h2 x z
theorem A6 {d:Int}:∀ {l:List Int},l≠[]->uh d l∈l
 | [],h=>absurd rfl h
 | a::r,_=>by
   obtain ⟨_,_,h3⟩:=pG r a
   rcases h3 with z | z
   ·show za a r∈_
    rw [z];exact ah
   ·exact af _ z
structure Hts (L C:List PI):Prop where
 up:∀ x∈bW C,∀ a,(a,x)∈L->a∈bW C/\cI C a<cI C x
 dn:∀ x∈bW C,cI C x=0\/(0<cI C x/\∃ a,(a,x)∈L/\cI C a+1=cI C x)
theorem Hts.ge {L C:List PI} (h:Hts L C) {x:Int} (hx:x∈bW C):0<=cI C x:=by rcases h.dn x hx with z | z<;>lia
theorem Hts.add {n:Int} {L C:List PI} {x:Int} (Y:Yd n L) (h:Hts L C) (hx:x∉bW C) (hb:∀ a,(a,x)∈L->a∈bW C):Hts L (C++[(x,1+uh (-1) ((dE (low L) x).map (cI C)))]):=by
 have hne:∀ a,a∈bW C->a≠x:=fun a ha z=>hx (z▸ha)
 refine ⟨fun y hy a ha=>?_,fun y hy=>?_⟩
 ·rcases gS.mp hy with z | z
  ·obtain ⟨h1,h2⟩:=h.up y z a ha
   exact ⟨gS.mpr (.inl h1),by rw [iq h1,iq z];exact h2⟩
  ·subst z
   have h1:=hb a ha
   refine ⟨gS.mpr (.inl h1),?_⟩
   rw [iq h1,oA hx]
   have:=D9 (d:=-1) (az.mpr ⟨a,(fJ L y a).mpr ha,rfl⟩:cI C a∈(dE (low L) y).map (cI C))
   lia
 ·rcases gS.mp hy with z | z
  ·rw [iq z]
   rcases h.dn y z with w | ⟨w1,a,w2,w3⟩
   ·exact .inl w
   ·exact .inr ⟨w1,a,w2,by rw [iq (h.up y z a w2).1];exact w3⟩
  ·subst z
   rw [oA hx]
   by_cases e:(dE (low L) y).map (cI C)=[]
   ·rw [e];exact .inl rfl
   ·obtain ⟨a,ha,ea⟩:=az.mp (A6 (d:=-1) e)
    have haL:=(fJ L y a).mp ha
    have h1:=hb a haL
    have:=h.ge h1
    exact .inr ⟨by lia,a,haL,by rw [iq h1];lia⟩
theorem yv {n:Int} {L:List PI} (Y:Yd n L) (h0:0<=n) (h1:n<64) (hl:L.length<=1000):∃ C:List PI,fn_heights_of [.int n,dU (low L)]=some (dC C)/\(bW C).Perm (rgI 0 n.toNat)/\Hts L C:=by
 obtain ⟨ord,hup,hperm,hsrt⟩:=nz (low L) h0 h1
 have ho:=rJ Y hsrt
 have hnd:ord.Nodup:=hperm.nodup_iff.mpr (d5 _ _)
 have hol:ord.length<64:=by rw [hperm.length_eq,fm];lia
 have key:∃ d,fn_heights_of [.int n,dU (low L)]=some d/\∃ C:List PI,d=dC C/\bW C=ord/\Hts L C:=by
  refine nQ ?_
  unfold g_heights_of
  have e0:fB 4 [.int n,dU (low L)]=[.pu (.int n),.pu (dU (low L)),.no,.no]:=rfl
  rw [e0]
  refine cZ (eM (ρ':=[.pu (.int n),.pu (dU (low L)),.ow (dC []),.no]) rfl ?_)
  refine cZ ?_
  refine kj (enc:=Da.int) (xs:=ord) (fun pre ρ=>∃ C s3,ρ=[.pu (.int n),.pu (dU (low L)),.ow (dC C),s3]/\bW C=pre/\Hts L C) ?_ ⟨[],_,rfl,rfl,⟨by simp [bW],by simp [bW]⟩⟩ ?_ ?_
  ·rw [jY,nY,cJ (ds:=[.int n,dU (low L)]) rfl rfl hup]
  ·rintro pre x post ρ e ⟨C,s3,rfl,hf,ht⟩
   have hx:x∉bW C:=by
    rw [hf]
    rw [e] at hnd
    exact fun z=>(bp.mp hnd).2.2 x z x ah rfl
   have hCn:(bW C).Nodup:=by rw [hf];rw [e] at hnd;exact (bp.mp hnd).1
   have hCl:C.length<64:=by
    rw [<- Dr,hf]
    rw [e,aO] at hol
    lia
   have hb:∀ a,(a,x)∈L->a∈bW C:=fun a ha=>by
    have hr:=(Y.rg _ ha).1
    dsimp only at hr
    have:a∈ord:=hperm.mem_iff.mpr (eQ.mpr (by lia))
    rw [hf]
    rw [e] at this ho
    rcases aD.mp this with z | z
    ·exact z
    ·rcases ao.mp z with z | z
     ·rw [z] at ha;exact absurd ha (Y.irr x)
     ·exact absurd ha ((bI.mp (gA.mp ho).2.1).1 a z)
   refine ⟨[.pu (.int n),.pu (dU (low L)),.ow (dC C),.pu (.int x)],rfl,?_⟩
   refine eM (ρ':=[.pu (.int n),.pu (dU (low L)),.ow (dC (C++[(x,1+uh (-1) ((dE (low L) x).map (cI C)))])),.pu (.int x)]) ?_ ⟨_,_,rfl,by rw [rR,hf],ht.add Y hx hb⟩
   have hg:=xu (low L) x (aT 1) (aT 3) [.pu (.int n),.pu (dU (low L)),.pu (dC C),.pu (.int x)] (k:=.pu) (k':=.pu) rfl rfl
   have hc:=dZ (enc:=Da.int) (xs:=dE (low L) x) (ix:=[none,none,some 2]) (fi:=cB (ig (jE (aT 1) (aT 3) (xC2 (.fr,.dK [] []))))) (i:=1) (c:=fun _=>some true) (f:=x2 oIt (aT 2) (aT 1)) (ρ:=[.pu (.int n),.pu (dU (low L)),.pu (dC C),.pu (.int x)]) (p:=fun _=>true) (e:=fun u=>.int (cI C u))
    (rS hg) (by have:=vW L x;lia) fun u hu=>⟨rfl,fun _=>⟨(.pu,.int (cI C u)),by
      have em:(mpR [none,none,some 2] [.pu (.int n),.pu (dU (low L)),.pu (dC C),.pu (.int x)]).set 1 (.pu (.int u))=[.no,.pu (.int u),.pu (dC C)]:=rfl
      rw [em]
      exact pM (hb u ((fJ L x u).mp hu)),rfl,rfl⟩⟩
   rw [dI] at hc
   have hle:mF 2 (fO [none,none,some 2] (cB (ig (jE (aT 1) (aT 3) (xC2 (.fr,.dK [] []))))) (tgN 1) (fun _=>some true) (x2 oIt (aT 2) (aT 1))) [.pu (.int n),.pu (dU (low L)),.ow (dC C),.pu (.int x)]=some (.fr,.lst (((dE (low L) x).map (cI C)).map Da.int)):=by
    refine Dm (d:=dC C) rfl rfl (r:=(.fr,.lst (((dE (low L) x).map (cI C)).map Da.int))) ?_ (D2 _)
    rw [aC]
    exact hc
   have hm:yI (mF 2 (fO [none,none,some 2] (cB (ig (jE (aT 1) (aT 3) (xC2 (.fr,.dK [] []))))) (tgN 1) (fun _=>some true) (x2 oIt (aT 2) (aT 1)))) (pe (xC (.int 1))) [.pu (.int n),.pu (dU (low L)),.ow (dC C),.pu (.int x)]=some (.pu,.int (uh (-1) ((dE (low L) x).map (cI C)))):=by
    unfold yI
    rw [hle,show pe (xC (.int 1)) [.pu (.int n),.pu (dU (low L)),.ow (dC C),.pu (.int x)]=some (.pu,.int (-1)) from rfl]
    dsimp only
    rw [fS]
   rw [xq,u4,hm]
   have e1:([.pu (.int n),.pu (dU (low L)),.ow (dC C),.pu (.int x)]:Rho)[2]?=some (.ow (dC C)):=rfl
   have e2:aT 3 [.pu (.int n),.pu (dU (low L)),.ow (dC C),.pu (.int x)]=some (.pu,.int x):=rfl
   rw [e1,e2,JM]
   dsimp only
   rw [Fd]
   dsimp only
   rw [if_pos (g7 _),EQ hx hCn (by lia)]
   rfl
  ·rintro ρ ⟨C,s3,rfl,hf,ht⟩
   exact ou rfl ⟨C,rfl,hf,ht⟩
 obtain ⟨d,ed,C,rfl,hf,ht⟩:=key
 exact ⟨C,ed,by rw [hf];exact hperm,ht⟩
noncomputable def lW (n:Int) (C:List PI) (k:Int):List Int:=(rgI 0 n.toNat).filter fun t=>decide (cI C t=k)
theorem jo {n:Int} {C:List PI} {k t:Int}:t∈lW n C k↔t∈rgI 0 n.toNat/\cI C t=k:=by unfold lW;rw [aG,decide_eq_true_eq]
theorem EH {n:Int} {C:List PI} (hp:(bW C).Perm (rgI 0 n.toNat)) (h1:n<64) (k:Int):fn_row_at [dC C,.int k]=some (dT (lW n C k)):=by
 have hl:C.length=n.toNat:=by rw [<- Dr,hp.length_eq,fm]
 have hso:=Hf (C:=C) (k:=.pu) (by lia)
 have he:Ms.srt Ms.ltI (bW C)=rgI 0 n.toNat:=Ms.strict_ext Ms.linI (Ms.srt_strict Ms.linI (hp.nodup_iff.mpr (d5 _ _))) (iy _ _) fun x=>by rw [(Ms.srt_perm _).mem_iff,hp.mem_iff]
 rw [he] at hso
 have hc:=dZ (enc:=Da.int) (xs:=rgI 0 n.toNat) (ix:=[none,none,some 1,some 0]) (fi:=cB (ig (xB eF (aL (aT 0) ck)))) (i:=1) (c:=tb (x2 (oEq false) (x2 oIt (aT 3) (aT 1)) (aT 2))) (f:=aT 1) (ρ:=[.pu (dC C),.pu (.int k)]) (p:=fun t=>decide (cI C t=k)) (e:=Da.int)
  ?_ (by rw [fm];lia) fun t ht=>⟨?_,fun _=>⟨(.pu,.int t),rfl,rfl,rfl⟩⟩
 ·refine lK (ρ:=[.pu (dC C),.pu (.int k)]) rfl ?_
  unfold g_row_at
  rw [g9,rY,b8,hc,dN]
  rfl
 ·have h1:xB eF (aL (aT 0) ck) [.pu (dC C),.pu (.int k)]=some (.fr,.lst ((rgI 0 n.toNat).map Da.int)):=hso
  rw [jY,nY,h1]
 ·have em:(mpR [none,none,some 1,some 0] [.pu (dC C),.pu (.int k)]).set 1 (.pu (.int t))=[.no,.pu (.int t),.pu (.int k),.pu (dC C)]:=rfl
  rw [em]
  have g1:x2 oIt (aT 3) (aT 1) [.no,.pu (.int t),.pu (.int k),.pu (dC C)]=some (.pu,.int (cI C t)):=pM (hp.mem_iff.mpr ht)
  rw [Es,u4,g1,show aT 2 [.no,.pu (.int t),.pu (.int k),.pu (dC C)]=some (.pu,.int k) from rfl]
  dsimp only
  rw [JC]
  rfl
noncomputable def rws (n:Int) (C:List PI) (m:Nat):List (List Int):=(bH m).map fun (i:Nat)=>lW n C (i:Int)
theorem sO (n:Int) (C:List PI) (m:Nat):(rws n C m).length=m:=by unfold rws;rw [ab,dA]
theorem Hq (n:Int) (C:List PI) (m:Nat):rws n C (m+1)=rws n C m++[lW n C (m:Int)]:=by unfold rws;rw [List.range_succ,bE];rfl
theorem BO {n:Int} {C:List PI} {k:Nat} (h:∀ i:Nat,i<k->lW n C (i:Int)≠[]):k<=n.toNat:=by
 have pick:∀ i:Nat,i<k->(lW n C (i:Int)).headD 0∈lW n C (i:Int):=fun i hi=>by
  cases hr:lW n C (i:Int) with
  | nil=>exact absurd hr (h i hi)
  | cons a r=>exact ah
 have nd:((bH k).map fun (i:Nat)=>(lW n C (i:Int)).headD 0).Nodup:=by
  refine bz.mpr ((List.nodup_range).imp_of_mem fun {a b} ha hb ne e=>ne ?_)
  have h1:=(jo.mp (pick a (by simpa using ha))).2
  have h2:=(jo.mp (pick b (by simpa using hb))).2
  rw [e,h2] at h1
  lia
 have:=Ms.length_le_of_subset nd (m:=rgI 0 n.toNat) fun x hx=>by
  obtain ⟨i,hi,rfl⟩:=az.mp hx
  exact (jo.mp (pick i (by simpa using hi))).1
 rw [ab,dA,fm] at this
 exact this
theorem ut {n:Int} {L:List PI} (Y:Yd n L) (h0:0<=n) (h1:n<64) (hl:L.length<=1000):∃ (C:List PI) (m:Nat),(bW C).Perm (rgI 0 n.toNat)/\Hts L C/\fn_floors [dY n L]=some (.tup ((rws n C m).map dT))/\(∀ i:Nat,i<m->lW n C (i:Int)≠[])/\lW n C (m:Int)=[]:=by
 obtain ⟨C,hC,hp,ht⟩:=yv Y h0 h1 hl
 have key:∃ d,fn_floors [dY n L]=some d/\∃ m:Nat,d=.tup ((rws n C m).map dT)/\(∀ i:Nat,i<m->lW n C (i:Int)≠[])/\lW n C (m:Int)=[]:=by
  refine nQ ?_
  unfold g_floors
  have e0:fB 4 [dY n L]=[.pu (dY n L),.no,.no,.no]:=rfl
  rw [e0]
  refine cZ (eM (ρ':=[.pu (dY n L),.pu (dC C),.no,.no]) ?_ ?_)
  ·have z0:x2 oIt (aT 0) (xC (.int 0)) [.pu (dY n L),.no,.no,.no]=some (.pu,.int n):=by simp [dY]
   have z1:cC fn_lowers_of (aL (x2 oIt (aT 0) (xC (.int 1))) ck) [.pu (dY n L),.no,.no,.no]=some (.pu,dU (low L)):=cJ (ds:=[.tup (L.map dP)]) (rs:=[(.pu,.tup (L.map dP))]) (by simp [dY]) rfl (pA hl)
   have z2:cC fn_heights_of (aL (x2 oIt (aT 0) (xC (.int 0))) (aL (cC fn_lowers_of (aL (x2 oIt (aT 0) (xC (.int 1))) ck)) ck)) [.pu (dY n L),.no,.no,.no]=some (.pu,dC C):=cJ (ds:=[.int n,dU (low L)]) (rs:=[(.pu,.int n),(.pu,dU (low L))]) (by rw [b8,z0,b8,z1,dN]) rfl hC
   rw [i6,z2]
   rfl
  refine cZ (eM (ρ':=[.pu (dY n L),.pu (dC C),.ow (.lst ((rws n C 0).map dT)),.no]) rfl ?_)
  refine cZ (eM (ρ':=[.pu (dY n L),.pu (dC C),.ow (.lst ((rws n C 0).map dT)),.pu (dT (lW n C ((0:Nat):Int)))]) ?_ ?_)
  ·rw [i6,cJ (ds:=[dC C,.int ((0:Nat):Int)]) rfl rfl (EH hp h1 _)]
   rfl
  refine cZ ?_
  refine oE (fun j ρ=>∃ k:Nat,ρ=[.pu (dY n L),.pu (dC C),.ow (.lst ((rws n C k).map dT)),.pu (dT (lW n C (k:Int)))]/\j+k=n.toNat/\∀ i:Nat,i<k->lW n C (i:Int)≠[]) 200 n.toNat _ (by lia) ⟨0,rfl,by lia,fun i hi=>absurd hi (qd i)⟩ ?_
  rintro j ρ ⟨k,rfl,hjk,hne⟩
  refine ⟨!(lW n C (k:Int)).isEmpty,?_,fun q=>?_,fun q=>?_⟩
  ·cases lW n C (k:Int) with
   | nil=>rfl
   | cons a r=>rfl
  ·have:lW n C (k:Int)=[]:=by cases h:lW n C (k:Int) with | nil=>rfl | cons a r=>rw [h] at q;cases q
   exact ou rfl ⟨k,rfl,hne,this⟩
  ·have hk:lW n C (k:Int)≠[]:=by intro z;rw [z] at q;cases q
   have hne':∀ i:Nat,i<k+1->lW n C (i:Int)≠[]:=fun i hi=>by
    rcases m7 (Nat.le_of_lt_succ hi) with z | z
    ·exact hne i z
    ·rw [z];exact hk
   have hkn:=BO hne'
   refine cZ (eM (ρ':=[.pu (dY n L),.pu (dC C),.ow (.lst ((rws n C (k+1)).map dT)),.pu (dT (lW n C (k:Int)))]) ?_ ?_)
   ·rw [o7,show ([.pu (dY n L),.pu (dC C),.ow (.lst ((rws n C k).map dT)),.pu (dT (lW n C (k:Int)))]:Rho)[2]?=some (.ow (.lst ((rws n C k).map dT))) from rfl,show aT 3 [.pu (dY n L),.pu (dC C),.ow (.lst ((rws n C k).map dT)),.pu (dT (lW n C (k:Int)))]=some (.pu,dT (lW n C (k:Int))) from rfl]
    dsimp only
    rw [if_pos ⟨rfl,by rw [ab,sO];lia⟩,Hq,bE]
    rfl
   refine eM (ρ':=[.pu (dY n L),.pu (dC C),.ow (.lst ((rws n C (k+1)).map dT)),.pu (dT (lW n C ((k+1:Nat):Int)))]) ?_ ⟨j-1,by lia,k+1,rfl,by lia,hne'⟩
   have z1:xB sI (aL (aT 2) ck) [.pu (dY n L),.pu (dC C),.ow (.lst ((rws n C (k+1)).map dT)),.pu (dT (lW n C (k:Int)))]=some (.pu,.int ((k+1:Nat):Int)):=by
    show some (Kd.pu,Da.int (((rws n C (k+1)).map dT).length:Nat))=_
    rw [ab,sO]
   rw [i6,cJ (ds:=[dC C,.int ((k+1:Nat):Int)]) (rs:=[(.pu,dC C),(.pu,.int ((k+1:Nat):Int))]) (by rw [b8,b8,z1,dN];rfl) rfl (EH hp h1 _)]
   rfl
 obtain ⟨d,ed,m,rfl,h⟩:=key
 exact ⟨C,m,hp,ht,ed,h⟩
theorem C7 {a b:Kd} (F:List Int) (x:Int):oIt (a,.lst ((F++[x]).map Da.int)) (b,.int (-1))=some (.pu,.int x):=by
 unfold oIt oIx xE
 dsimp only
 have:atI ((F++[x]).map Da.int) (-1)=some (Da.int x):=by
  unfold atI ixN
  rw [if_neg (by decide),ab,aO,bx,if_pos (by lia)]
  show ((F++[x]).map Da.int)[((-1:Int)+((F.length+1:Nat):Int)).toNat]?=_
  rw [show ((-1:Int)+((F.length+1:Nat):Int)).toNat=F.length by lia,aA,cR (aw _),om]
  rfl
 rw [this]
 rfl
end GF
set_option linter.unusedSimpArgs false
set_option linter.unusedSimpArgs false
namespace GT
open PySem L2 Ry G G3
noncomputable def ml:List PI->Int->Int->List PI
 | [],u,x=>[(u,x)]
 | (a,b)::U,u,x=>if a=u then (a,x)::U else (a,b)::ml U u x
theorem j3:∀ (U:List PI) (u x:Int),bW (ml U u x)=if u∈bW U then bW U else bW U++[u]
 | [],u,x=>rfl
 | (a,b)::U,u,x=>by
   unfold ml
   by_cases h:a=u
   ·subst h
    rw [if_pos rfl,if_pos (by simp [bW])]
    rfl
   ·rw [if_neg h]
    show a::bW (ml U u x)=_
    rw [j3 U u x]
    by_cases h2:u∈bW U
    ·rw [if_pos h2,if_pos (by show u∈a::bW U;exact af _ h2)]
     rfl
    ·rw [if_neg h2,if_neg (by show ¬ u∈a::bW U;exact fun z=>(ao.mp z).elim (fun z=>h z.symm) h2)]
     rfl
theorem jV:∀ (U:List PI) (u x v:Int),cI (ml U u x) v=if v=u then x else cI U v
 | [],u,x,v=>by
   show (if u=v then x else _)=_
   by_cases h:v=u
   ·subst h;rw [if_pos rfl]
   ·rw [if_neg (fun z=>h z.symm),if_neg h]
 | (a,b)::U,u,x,v=>by
   unfold ml
   by_cases h:a=u
   ·subst h
    rw [if_pos rfl]
    show (if a=v then x else cI U v)=if v=a then x else (if a=v then b else cI U v)
    by_cases h2:v=a
    ·subst h2;rw [if_pos rfl,if_pos rfl]
    ·rw [if_neg (fun z=>h2 z.symm),if_neg h2,if_neg (fun z=>h2 z.symm)]
   ·rw [if_neg h]
    show (if a=v then b else cI (ml U u x) v)=if v=u then x else (if a=v then b else cI U v)
    rw [jV U u x v]
    by_cases h2:a=v
    ·subst h2;rw [if_pos rfl,if_neg h,if_pos rfl]
    ·rw [if_neg h2,if_neg h2]
noncomputable abbrev TK:=Option (Bool×List PI×List Int)
noncomputable def tkL (rec:Int->List PI->List Int->TK) (t:Int):List Int->List PI->List Int->TK
 | [],U,A=>some (false,U,A)
 | u::us,U,A=>if u∈A then tkL rec t us U A else if u∉bW U then some (true,ml U u t,A++[u]) else match rec (cI U u) U (A++[u]) with
   | none=>none
   | some (true,U',A')=>some (true,ml U' u t,A')
   | some (false,U',A')=>tkL rec t us U' A'
noncomputable def tk (up:Int->List Int):Nat->Int->List PI->List Int->TK
 | 0=>fun _ _ _=>none
 | k+1=>fun t U A=>tkL (tk up k) t (up t) U A
structure w6 (up:Int->List Int) (U:List PI) (B:List Int):Prop where
 key:∀ u∈B,u∈bW U
 cl:∀ u∈B,∀ v∈up (cI U u),v∈B
theorem nA {up:Int->List Int} {B:List Int} {rec:Int->List PI->List Int->TK} {t:Int} {U:List PI} (hc:w6 up U B) (hr:∀ x A r,(∀ u∈up x,u∈B)->rec x U A=some r->r.1=false/\r.2.1=U):∀ (us:List Int) (A:List Int) (r:Bool×List PI×List Int),tkL rec t us U A=some r->(∀ u∈us,u∈B)->r.1=false/\r.2.1=U
 | [],A,r,e,_=>by cases e;exact ⟨rfl,rfl⟩
 | u::us,A,r,e,h=>by
   have hu:=h u ah
   have h':=fun v hv=>h v (af _ hv)
   unfold tkL at e
   split at e
   ·exact nA hc hr us A r e h'
   ·rw [if_neg (by simpa using hc.key u hu)] at e
    split at e
    ·cases e
    ·rename_i U' A' er
     exact absurd (hr _ _ _ (hc.cl u hu) er).1 (by simp)
    ·rename_i U' A' er
     obtain ⟨_,h2⟩:=hr _ _ _ (hc.cl u hu) er
     dsimp only at h2
     subst h2
     exact nA hc hr us A' r e h'
theorem tO {up:Int->List Int} {B:List Int} {U:List PI} (hc:w6 up U B):∀ (k:Nat) (t:Int) (A:List Int) (r:Bool×List PI×List Int),(∀ u∈up t,u∈B)->tk up k t U A=some r->r.1=false/\r.2.1=U
 | 0,t,A,r,h,e=>by cases e
 | k+1,t,A,r,h,e=>nA hc (fun x A r hx er=>tO hc k x A r hx er) (up t) A r e h
noncomputable def qo (U:List PI):List Int:=U.map (·.2)
theorem oY:∀ {U:List PI} {u t:Int},u∈bW U->∃ P S,U=P++(u,cI U u)::S/\ml U u t=P++(u,t)::S
 | [],u,t,h=>by cases h
 | (a,b)::U,u,t,h=>by
   by_cases e:a=u
   ·subst e
    refine ⟨[],U,?_,?_⟩
    ·show _=(a,if a=a then b else _)::U
     rw [if_pos rfl]
    ·show (if a=a then (a,t)::U else _)=_
     rw [if_pos rfl];rfl
   ·have h':u∈bW U:=(ao.mp (show u∈a::bW U from h)).resolve_left fun z=>e z.symm
    obtain ⟨P,S,e1,e2⟩:=oY (t:=t) h'
    refine ⟨(a,b)::P,S,?_,?_⟩
    ·show _=(a,b)::(P++(u,if a=u then b else cI U u)::S)
     rw [if_neg e,<- e1]
    ·show (if a=u then _ else (a,b)::ml U u t)=_
     rw [if_neg e,e2];rfl
theorem nu:∀ {U:List PI} {u t:Int},u∉bW U->ml U u t=U++[(u,t)]
 | [],u,t,_=>rfl
 | (a,b)::U,u,t,h=>by
   have h1:a≠u:=fun z=>h (by show u∈a::bW U;rw [z];exact ah)
   have h2:u∉bW U:=fun z=>h (af _ z)
   show (if a=u then _ else (a,b)::ml U u t)=_
   rw [if_neg h1,nu h2];rfl
structure No (up:Int->List Int) (us:List Int) (U:List PI) (A:List Int) (U':List PI) (A':List Int):Prop where
 same:U'=U
 ask:∀ x∈A,x∈A'
 all:∀ u∈us,u∈A'
 new:∀ u∈A',u∉A->u∈bW U/\∀ v∈up (cI U u),v∈A'
structure Yes (up:Int->List Int) (t:Int) (U:List PI) (A:List Int) (U':List PI) (A':List Int):Prop where
 ask:∀ x∈A,x∈A'
 key:∃ k,k∉bW U/\(bW U').Perm (bW U++[k])
 val:(qo U').Perm (t::qo U)
 old:∀ u∈A,cI U' u=cI U u
 ok:(∀ u∈bW U,u∈up (cI U u))->∀ u∈bW U',u∈up (cI U' u)
 cls:∀ B,w6 up U B->∀ u∈B,cI U' u=cI U u
noncomputable def LH (up:Int->List Int) (t:Int) (us:List Int) (U:List PI) (A:List Int) (r:Bool×List PI×List Int):Prop:=(r.1=false/\No up us U A r.2.1 r.2.2)\/(r.1=true/\Yes up t U A r.2.1 r.2.2)
theorem Gu {up:Int->List Int} {k:Nat} {t:Int} (hr:∀ x U A r,tk up k x U A=some r->LH up x (up x) U A r):∀ (us:List Int) (U:List PI) (A:List Int) (r:Bool×List PI×List Int),(∀ u∈us,u∈up t)->tkL (tk up k) t us U A=some r->LH up t us U A r
 | [],U,A,r,_,e=>by cases e;exact .inl ⟨rfl,rfl,fun _ h=>h,by simp,fun u h1 h2=>absurd h1 h2⟩
 | u::us,U,A,r,hs,e=>by
   have hs':=fun v hv=>hs v (af _ hv)
   unfold tkL at e
   split at e
   ·rename_i hA
    rcases Gu hr us U A r hs' e with ⟨h1,h2⟩ | ⟨h1,h2⟩
    ·exact .inl ⟨h1,h2.same,h2.ask,fun v hv=>(ao.mp hv).elim (fun z=>by rw [z];exact h2.ask u hA) (h2.all v),h2.new⟩
    ·exact .inr ⟨h1,h2⟩
   ·rename_i hA
    split at e
    ·rename_i hK
     cases e
     refine .inr ⟨rfl,⟨fun x hx=>bw _ hx,⟨u,hK,?_⟩,?_,fun v hv=>?_,fun hv v hm=>?_,fun B hB v hv=>?_⟩⟩
     ·show (bW (ml U u t)).Perm _
      rw [j3,if_neg hK]
     ·show (qo (ml U u t)).Perm _
      rw [nu hK]
      unfold qo
      rw [bE]
      exact vx
     ·show cI (ml U u t) v=_
      rw [jV,if_neg (fun z=>hA (by rw [<- z];exact hv))]
     ·show v∈up (cI (ml U u t) v)
      have hm:v∈bW (ml U u t):=hm
      rw [j3,if_neg hK,aD,ay] at hm
      rw [jV]
      by_cases z:v=u
      ·rw [if_pos z,z];exact hs u ah
      ·rw [if_neg z];exact hv v (hm.resolve_right z)
     ·show cI (ml U u t) v=_
      rw [jV,if_neg (fun z=>hK (by rw [<- z];exact hB.key v hv))]
    ·rename_i hK
     have hK:u∈bW U:=by simpa using hK
     split at e
     ·cases e
     ·rename_i U1 A1 er
      cases e
      rcases hr _ _ _ _ er with ⟨h1,_⟩ | ⟨_,y⟩
      ·cases h1
      have y:Yes up (cI U u) U (A++[u]) U1 A1:=y
      have hu1:cI U1 u=cI U u:=y.old u (by simp)
      obtain ⟨k0,hk0,hkp⟩:=y.key
      have hK1:u∈bW U1:=hkp.mem_iff.mpr (bw _ hK)
      obtain ⟨P,S,e1,e2⟩:=oY (t:=t) hK1
      refine .inr ⟨rfl,⟨fun x hx=>y.ask x (bw _ hx),⟨k0,hk0,?_⟩,?_,fun v hv=>?_,fun hv v hm=>?_,fun B hB v hv=>?_⟩⟩
      ·show (bW (ml U1 u t)).Perm _
       rw [j3,if_pos hK1]
       exact hkp
      ·show (qo (ml U1 u t)).Perm _
       have p1:(qo U1).Perm (cI U u::qo (P++S)):=by
        rw [e1,hu1]
        unfold qo
        rw [bE,bE,ax]
        exact Ck
       have p2:(qo (ml U1 u t)).Perm (t::qo (P++S)):=by
        rw [e2]
        unfold qo
        rw [bE,bE,ax]
        exact Ck
       exact p2.trans (((p1.symm.trans y.val).cons_inv).cons t)
      ·show cI (ml U1 u t) v=_
       rw [jV,if_neg (fun z=>hA (by rw [<- z];exact hv)),y.old v (bw _ hv)]
      ·show v∈up (cI (ml U1 u t) v)
       have hm:v∈bW (ml U1 u t):=hm
       rw [j3,if_pos hK1] at hm
       rw [jV]
       by_cases z:v=u
       ·rw [if_pos z,z];exact hs u ah
       ·rw [if_neg z];exact y.ok hv v hm
      ·show cI (ml U1 u t) v=_
       have hvu:v≠u:=fun z=>by
        rw [z] at hv
        exact absurd (tO hB k _ _ _ (hB.cl u hv) er).1 (by simp)
       rw [jV,if_neg hvu,y.cls B hB v hv]
     ·rename_i U1 A1 er
      have n:No up (up (cI U u)) U (A++[u]) U1 A1:=by
       rcases hr _ _ _ _ er with ⟨_,n⟩ | ⟨h1,_⟩
       ·exact n
       ·cases h1
      have n:No up (up (cI U u)) U (A++[u]) U1 A1:=n
      have hU:=n.same
      subst hU
      have huA:u∈A1:=n.ask u (by simp)
      have hAA:∀ x∈A,x∈A1:=fun x hx=>n.ask x (bw _ hx)
      rcases Gu hr us _ A1 r hs' e with ⟨h1,m⟩ | ⟨h1,m⟩
      ·refine .inl ⟨h1,m.same,fun x hx=>m.ask x (hAA x hx),fun v hv=>(ao.mp hv).elim (fun z=>by rw [z];exact m.ask u huA) (m.all v),fun v hv hn=>?_⟩
       by_cases hv1:v∈A1
       ·by_cases hvu:v=u
        ·rw [hvu]
         exact ⟨hK,fun w hw=>m.ask w (n.all w hw)⟩
        ·obtain ⟨q1,q2⟩:=n.new v hv1 (by rw [aD,ay];exact fun z=>z.elim hn hvu)
         exact ⟨q1,fun w hw=>m.ask w (q2 w hw)⟩
       ·exact m.new v hv hv1
      ·exact .inr ⟨h1,⟨fun x hx=>m.ask x (hAA x hx),m.key,m.val,fun v hv=>m.old v (hAA v hv),m.ok,m.cls⟩⟩
theorem left {up:Int->List Int}:∀ (k:Nat) (t:Int) (U:List PI) (A:List Int) (r:Bool×List PI×List Int),tk up k t U A=some r->LH up t (up t) U A r
 | 0,t,U,A,r,e=>by cases e
 | k+1,t,U,A,r,e=>Gu (fun x U A r er=>left k x U A r er) (up t) U A r (fun _ h=>h) e
end GT
set_option linter.unusedSimpArgs false
namespace GT
open PySem L2 Ry G G3
theorem Aj {up:Int->List Int} {R:List Int} (hup:∀ t,∀ u∈up t,u∈R):∀ (k:Nat) (t:Int) (U:List PI) (A:List Int),(R.filter fun x=>decide (x∉A)).length<k->∃ r,tk up k t U A=some r
 | 0,t,U,A,h=>absurd h (qd _)
 | k+1,t,U,A,h=>by
   have less:∀ {A A':List Int},(∀ x∈A,x∈A')->(R.filter fun x=>decide (x∉A')).length<=(R.filter fun x=>decide (x∉A)).length:=fun {A A'} hs=>by
    refine List.Sublist.length_le ?_
    have:(R.filter fun x=>decide (x∉A'))=((R.filter fun x=>decide (x∉A)).filter fun x=>decide (x∉A')):=by
     rw [y4]
     refine ia fun x _=>?_
     by_cases h1:x∈A'
     ·simp [h1]
     ·have h2:x∉A:=fun z=>h1 (hs x z)
      simp [h1,h2]
    rw [this]
    exact bF
   have one:∀ {A:List Int} {u:Int},u∈R->u∉A->(R.filter fun x=>decide (x∉A++[u])).length<(R.filter fun x=>decide (x∉A)).length:=fun {A u} hu hn=>by
    have hs:∀ x∈A,x∈A++[u]:=fun x hx=>bw _ hx
    have h1:(R.filter fun x=>decide (x∉A++[u]))=((R.filter fun x=>decide (x∉A)).filter fun x=>decide (x≠u)):=by
     rw [y4]
     refine ia fun x _=>?_
     by_cases h1:x∈A<;>by_cases h2:x=u<;>simp [h1,h2]
    rw [h1]
    have hm:u∈R.filter fun x=>decide (x∉A):=aG.mpr ⟨hu,by simpa using hn⟩
    have h2:=eS (fun x=>decide (x≠u)) (R.filter fun x=>decide (x∉A))
    rcases m7 h2 with z | z
    ·exact z
    ·have:=nJ.mp z u hm
     simp at this
   have go:∀ (us:List Int) (U:List PI) (A:List Int),(∀ u∈us,u∈R)->(R.filter fun x=>decide (x∉A)).length<k+1->∃ r,tkL (tk up k) t us U A=some r:=fun us=>by
    induction us with
    | nil=>intro U A _ _;exact ⟨_,rfl⟩
    | cons u us ih =>
      intro U A hs hl
      have hs':=fun v hv=>hs v (af _ hv)
      unfold tkL
      by_cases hA:u∈A
      ·rw [if_pos hA];exact ih U A hs' hl
      ·rw [if_neg hA]
       by_cases hK:u∈bW U
       ·rw [if_neg (by simpa using hK)]
        have ho:=one (hs u ah) hA
        obtain ⟨⟨b,U',A'⟩,er⟩:=Aj hup k (cI U u) U (A++[u]) (by lia)
        rw [er]
        cases b with
        | true=>exact ⟨_,rfl⟩
        | false =>
          refine ih U' A' hs' ?_
          have hl':∀ x∈A++[u],x∈A':=by
           rcases left k _ _ _ _ er with ⟨_,n⟩ | ⟨_,y⟩
           ·exact n.ask
           ·exact y.ask
          have:=less hl'
          lia
       ·rw [if_pos hK];exact ⟨_,rfl⟩
   exact go (up t) U A (hup t) h
noncomputable def iY (up:Int->List Int) (k:Nat):List Int->List PI->Option (List PI)
 | [],U=>some U
 | t::ts,U=>match tk up k t U [] with
   | none=>none
   | some (_,U',_)=>iY up k ts U'
structure Std (up:Int->List Int) (ts:List Int) (U:List PI) (F B:List Int):Prop where
 nd:(bW U).Nodup
 ok:∀ u∈bW U,u∈up (cI U u)
 pt:(qo U++F).Perm ts
 cl:w6 up U B
 no:∀ t∈F,∀ u∈up t,u∈B
theorem Std.step {up:Int->List Int} {ts:List Int} {U U':List PI} {F B A':List Int} {b:Bool} {k:Nat} {t:Int} (h:Std up ts U F B) (e:tk up k t U []=some (b,U',A')):∃ F' B',Std up (ts++[t]) U' F' B':=by
 rcases left k _ _ _ _ e with ⟨h1,n⟩ | ⟨h1,y⟩
 ·have n:No up (up t) U [] U' A':=n
  have hU:=n.same
  subst hU
  refine ⟨F++[t],B++A',h.nd,h.ok,?_,⟨fun u hu=>?_,fun u hu v hv=>?_⟩,fun x hx u hu=>?_⟩
  ·rw [<- eB]
   exact h.pt.append_right [t]
  ·rcases aD.mp hu with z | z
   ·exact h.cl.key u z
   ·exact (n.new u z (by simp)).1
  ·rcases aD.mp hu with z | z
   ·exact bw _ (h.cl.cl u z v hv)
   ·exact aW _ ((n.new u z (by simp)).2 v hv)
  ·rcases aD.mp hx with z | z
   ·exact bw _ (h.no x z u hu)
   ·rw [ay] at z
    rw [z] at hu
    exact aW _ (n.all u hu)
 ·have y:Yes up t U [] U' A':=y
  obtain ⟨k0,hk0,hkp⟩:=y.key
  have hsub:∀ u∈bW U,u∈bW U':=fun u hu=>hkp.mem_iff.mpr (bw _ hu)
  refine ⟨F,B,hkp.nodup_iff.mpr (bp.mpr ⟨h.nd,bc _ _,fun a ha b hb=>by rw [ay] at hb;subst hb;intro z;subst z;exact hk0 ha⟩),y.ok h.ok,?_,⟨fun u hu=>hsub u (h.cl.key u hu),fun u hu v hv=>?_⟩,h.no⟩
  ·refine (y.val.append_right F).trans ?_
   rw [Ci]
   refine (h.pt.cons t).trans ?_
   exact (vx (l₁:=[t]) (l₂:=ts))
  ·rw [y.cls B h.cl u hu] at hv
   exact h.cl.cl u hu v hv
theorem uZ {up:Int->List Int} {R:List Int} (hup:∀ t,∀ u∈up t,u∈R) {k:Nat} (hk:R.length<k):∀ (ts pre:List Int) (U:List PI) (F B:List Int),Std up pre U F B->∃ U' F' B',iY up k ts U=some U'/\Std up (pre++ts) U' F' B'
 | [],pre,U,F,B,h=>⟨U,F,B,rfl,by rw [e8];exact h⟩
 | t::ts,pre,U,F,B,h=>by
   obtain ⟨⟨b,U1,A1⟩,e⟩:=Aj hup k t U [] (zh (eS _ _) hk)
   obtain ⟨F1,B1,h1⟩:=h.step e
   obtain ⟨U',F',B',e2,h2⟩:=uZ hup hk ts (pre++[t]) U1 F1 B1 h1
   refine ⟨U',F',B',?_,by rw [eB] at h2;exact h2⟩
   show (match tk up k t U [] with | none=>none | some (_,U',_)=>iY up k ts U')=_
   rw [e]
   exact e2
theorem GV (up:Int->List Int):Std up [] [] [] []:=⟨.nil,by simp [bW],.refl _,⟨by simp,by simp⟩,by simp⟩
end GT
set_option linter.unusedSimpArgs false
namespace GT
open PySem L2 Ry G G3
theorem xk {U:List PI} (nd:(bW U).Nodup):(bW U).map (cI U)=qo U:=by
 induction U with
 | nil=>rfl
 | cons e U ih =>
   obtain ⟨a,b⟩:=e
   obtain ⟨h1,h2⟩:=be.mp (show (a::bW U).Nodup from nd)
   show (if a=a then b else cI U a)::(bW U).map (cI ((a,b)::U))=b::qo U
   rw [if_pos rfl,<- ih h2]
   congr 1
   refine cY fun x hx=>?_
   show (if a=x then b else cI U x)=_
   rw [if_neg (fun z=>h1 (by rw [z];exact hx))]
theorem jz {α:Type} (p:α->Bool):∀ l:List α,(l.filter p).length+(l.filter fun x=>!p x).length=l.length
 | []=>rfl
 | a::l=>by
   have ih:=jz p l
   cases h:p a with
   | true =>
     have e1:(a::l).filter p=a::l.filter p:=by rw [kf,if_pos h]
     have e2:((a::l).filter fun x=>!p x)=l.filter fun x=>!p x:=by rw [kf,if_neg (by rw [h];decide)]
     rw [e1,e2,aI,aI]
     lia
   | false =>
     have e1:(a::l).filter p=l.filter p:=by rw [kf,if_neg (by rw [h];decide)]
     have e2:((a::l).filter fun x=>!p x)=a::l.filter fun x=>!p x:=by rw [kf,if_pos (by rw [h];rfl)]
     rw [e1,e2,aI,aI]
     lia
theorem Std.anti {up:Int->List Int} {R:List Int} {U:List PI} {F B:List Int} (h:Std up R U F B) (nR:R.Nodup) (hk:∀ u∈bW U,u∈R):∃ X:List Int,X.Nodup/\(∀ x∈X,x∈R)/\(∀ x∈X,∀ y∈X,y∉up x)/\F.length<=X.length/\(R.filter fun x=>decide (x∉bW U)).length=F.length:=by
 have nZ0:(qo U++F).Nodup:=h.pt.nodup_iff.mpr nR
 obtain ⟨nS,nF,dj⟩:=bp.mp nZ0
 have inR:∀ x,x∈qo U++F->x∈R:=fun x hx=>h.pt.mem_iff.mp hx
 obtain ⟨nB,mB⟩:=uU B
 have getS:∀ u∈bW U,cI U u∈qo U:=fun u hu=>by rw [<- xk h.nd];exact az.mpr ⟨u,hu,rfl⟩
 have inj:∀ u∈bW U,∀ v∈bW U,cI U u=cI U v->u=v:=fun u hu v hv e=>by
  have hn:=nS
  rw [<- xk h.nd] at hn
  have hp:=bz.mp hn
  obtain ⟨i,hi,ei⟩:=bT hu
  obtain ⟨j,hj,ej⟩:=bT hv
  rcases Cm i j with z | z | z
  ·exact absurd (by rw [ei,ej];exact e) (e6.mp hp i j hi hj z)
  ·subst z;rw [<- ei,<- ej]
  ·exact absurd (by rw [ei,ej];exact e.symm) (e6.mp hp j i hj hi z)
 have kB:∀ u∈iO B,u∈bW U:=fun u hu=>h.cl.key u ((mB u).mp hu)
 have nZ:(F++(iO B).map (cI U)).Nodup:=by
  refine bp.mpr ⟨nF,bz.mpr (nB.imp_of_mem fun {a b} ha hb ne e=>ne (inj a (kB a ha) b (kB b hb) e)),fun x hx y hy e=>?_⟩
  obtain ⟨u,hu,rfl⟩:=az.mp hy
  exact dj _ (getS u (kB u hu)) x hx e.symm
 have zup:∀ x∈F++(iO B).map (cI U),∀ v∈up x,v∈B:=fun x hx v hv=>by
  rcases aD.mp hx with z | z
  ·exact h.no x z v hv
  ·obtain ⟨u,hu,rfl⟩:=az.mp z
   exact h.cl.cl u ((mB u).mp hu) v hv
 have zR:∀ x∈F++(iO B).map (cI U),x∈R:=fun x hx=>by
  rcases aD.mp hx with z | z
  ·exact inR x (aW _ z)
  ·obtain ⟨u,hu,rfl⟩:=az.mp z
   exact inR _ (bw _ (getS u (kB u hu)))
 refine ⟨(F++(iO B).map (cI U)).filter fun x=>!decide (x∈B),nZ.sublist bF,fun x hx=>zR x (aG.mp hx).1,fun x hx y hy hxy=>?_,?_,?_⟩
 ·have h1:=zup x (aG.mp hx).1 y hxy
  have h2:=(aG.mp hy).2
  simp [h1] at h2
 ·have hs:=jz (fun x=>decide (x∈B)) (F++(iO B).map (cI U))
  have hb:((F++(iO B).map (cI U)).filter fun x=>decide (x∈B)).length<=(iO B).length:=Ms.length_le_of_subset (nZ.sublist bF) fun x hx=>(mB x).mpr (by simpa using (aG.mp hx).2)
  rw [aO,ab] at hs
  lia
 ·have hs:=jz (fun x=>decide (x∈bW U)) R
  have e1:(R.filter fun x=>decide (x∈bW U)).length=(bW U).length:=lf
   (Ms.length_le_of_subset (nR.sublist bF) fun x hx=>by simpa using (aG.mp hx).2)
   (Ms.length_le_of_subset h.nd fun x hx=>aG.mpr ⟨hk x hx,by simpa using hx⟩)
  have e2:(bW U).length=(qo U).length:=by unfold bW qo;rw [ab,ab]
  have e3:=h.pt.length_eq
  rw [aO] at e3
  have e4:(R.filter fun x=>decide (x∉bW U))=R.filter fun x=>!decide (x∈bW U):=by
   refine ia fun x _=>?_
   by_cases z:x∈bW U<;>simp [z]
  rw [e4]
  lia
end GT
set_option linter.unusedSimpArgs false
namespace GT
open PySem L2 Ry G G3
noncomputable def twF (O:List PI):Nat->Int->List Int
 | 0,x=>[x]
 | k+1,x=>x::if x∈bW O then twF O k (cI O x) else []
structure Lnk (L U O:List PI):Prop where
 nx:∀ x∈bW O,cI O x∈bW U/\cI U (cI O x)=x
 pv:∀ u∈bW U,cI U u∈bW O/\cI O (cI U u)=u
 up:∀ u∈bW U,(cI U u,u)∈L
theorem zB (O:List PI) (k:Nat) (x:Int):x∈twF O k x:=by cases k<;>exact ah
theorem pU {L U O:List PI} (h:Lnk L U O):∀ (k:Nat) (b y:Int),y∈twF O k b->y=b\/(y∈bW U/\cI U y∈twF O k b)
 | 0,b,y,hy=>.inl (by simpa [twF] using hy)
 | k+1,b,y,hy=>by
   unfold twF at hy
   rcases ao.mp hy with z | z
   ·exact .inl z
   ·split at z
    ·rename_i hb
     obtain ⟨h1,h2⟩:=h.nx b hb
     refine .inr ?_
     unfold twF
     rw [if_pos hb]
     rcases pU h k (cI O b) y z with e | ⟨e1,e2⟩
     ·rw [e];exact ⟨h1,by rw [h2];exact ah⟩
     ·exact ⟨e1,af _ e2⟩
    ·cases z
theorem pd {n:Int} {L U O:List PI} (Y:Yd n L) (h:Lnk L U O):∀ (k:Nat) (b:Int),(twF O k b).Pairwise fun x y=>(x,y)∈L
 | 0,b=>bc _ _
 | k+1,b=>by
   unfold twF
   split
   ·rename_i hb
    obtain ⟨h1,h2⟩:=h.nx b hb
    have hbn:(b,cI O b)∈L:=by have:=h.up _ h1;rw [h2] at this;exact this
    have ih:=pd Y h k (cI O b)
    refine bI.mpr ⟨fun y hy=>?_,ih⟩
    have hh:∀ y∈twF O k (cI O b),y=cI O b\/(cI O b,y)∈L:=fun y hy=>by
     cases k with
     | zero=>exact .inl (by simpa [twF] using hy)
     | succ k =>
       unfold twF at hy ih
       rcases ao.mp hy with z | z
       ·exact .inl z
       ·exact .inr ((bI.mp ih).1 y z)
    rcases hh y hy with z | z
    ·rw [z];exact hbn
    ·exact Y.tr _ _ _ hbn z
   ·exact bc _ _
theorem EK {L U O:List PI} (h:Lnk L U O) {m:Int->Nat} (hm:∀ a b,(a,b)∈L->m a<m b) {k:Nat} {b c:Int} (hb:b∉bW U) (hc:c∉bW U):∀ (j:Nat) (y:Int),m y=j->y∈twF O k b->y∈twF O k c->b=c:=by
 intro j
 induction j using Er with
 | ind j ih =>
   intro y hj h1 h2
   rcases pU h k b y h1 with e1 | ⟨e1,e2⟩
   ·rcases pU h k c y h2 with f1 | ⟨f1,_⟩
    ·rw [<- e1,f1]
    ·rw [e1] at f1;exact absurd f1 hb
   ·rcases pU h k c y h2 with f1 | ⟨f1,f2⟩
    ·rw [f1] at e1;exact absurd e1 hc
    ·have:=hm _ _ (h.up y e1)
     exact ih _ (by lia) _ rfl e2 f2
theorem AY {L U O:List PI} (h:Lnk L U O) {M:Int->Nat} (hM:∀ a b,(a,b)∈L->M b<M a):∀ (k:Nat) (b y:Int),M b<=k->y∈twF O k b->y∈bW O->cI O y∈twF O k b
 | 0,b,y,hk,hy,ho=>by
   have e:y=b:=by simpa [twF] using hy
   obtain ⟨h1,h2⟩:=h.nx y ho
   have:=hM _ _ (h.up _ h1)
   rw [h2,e] at this
   lia
 | k+1,b,y,hk,hy,ho=>by
   unfold twF at hy ⊢
   rcases ao.mp hy with z | z
   ·rw [z] at ho ⊢
    rw [if_pos ho]
    exact af _ (zB O k _)
   ·split at z
    ·rename_i hb
     rw [if_pos hb]
     obtain ⟨h1,h2⟩:=h.nx b hb
     have hlt:=hM _ _ (h.up _ h1)
     rw [h2] at hlt
     exact af _ (AY h hM k (cI O b) y (by lia) z ho)
    ·cases z
theorem ET {n:Int} {L U O:List PI} (Y:Yd n L) (h:Lnk L U O) {m M:Int->Nat} (hm:∀ a b,(a,b)∈L->m a<m b) (hM:∀ a b,(a,b)∈L->M b<M a) {k:Nat} (hk:∀ x,M x<=k):∀ (j:Nat) (y:Int),m y=j->y∈rgI 0 n.toNat->∃ b,b∈rgI 0 n.toNat/\b∉bW U/\y∈twF O k b:=by
 intro j
 induction j using Er with
 | ind j ih =>
   intro y hj hy
   by_cases hu:y∈bW U
   ·have hL:=h.up y hu
    have hr:=(Y.rg _ hL).1
    dsimp only at hr
    obtain ⟨b,h1,h2,h3⟩:=ih _ (by have:=hm _ _ hL;lia) _ rfl (eQ.mpr (by lia:(0:Int)<=cI U y/\cI U y<0+(n.toNat:Int)))
    obtain ⟨q1,q2⟩:=h.pv y hu
    exact ⟨b,h1,h2,by have:=AY h hM k b _ (hk b) h3 q1;rw [q2] at this;exact this⟩
   ·exact ⟨y,hy,hu,zB O k y⟩
end GT
set_option linter.unusedSimpArgs false
namespace GT
open PySem L2 Ry G G3
noncomputable def tip (T:List Int):Int:=T.getLastD 0
theorem my {T:List Int} (h:T≠[]):T=T.dropLast++[tip T]:=by
 unfold tip
 rw [List.getLastD_eq_getLast?,List.getLast?_eq_some_getLast h]
 exact (List.dropLast_concat_getLast h).symm
theorem vV {T:List Int} (h:T≠[]):tip T∈T:=by
 have:=my h
 rw [this]
 have e:tip (T.dropLast++[tip T])=tip T:=by rw [<- this]
 rw [e]
 simp
noncomputable def yi (L:List PI) (Ps:List (Int×List Int)):List (Int×List Int):=Ps.map fun e=>(e.1,if (Ps.any fun f=>decide ((tip f.2,tip e.2)∈L))=true then e.2.dropLast else e.2)
structure CI (L:List PI) (Ps:List (Int×List Int)):Prop where
 mem:∀ e∈Ps,e.1∈e.2
 ris:∀ e∈Ps,e.2.Pairwise fun x y=>(x,y)∈L
 anti:∀ e∈Ps,∀ f∈Ps,(e.1,f.1)∉L
 dis:Ps.Pairwise fun e f=>∀ y∈e.2,y∉f.2
theorem IQ {L:List PI} {T:List Int} {x:Int} (hr:T.Pairwise fun x y=>(x,y)∈L) (hx:x∈T):x=tip T\/(x,tip T)∈L:=by
 have hne:T≠[]:=by intro z;rw [z] at hx;cases hx
 have e:=my hne
 rw [e] at hx hr
 have e2:tip (T.dropLast++[tip T])=tip T:=by rw [<- e]
 rcases aD.mp hx with z | z
 ·exact .inr ((gA.mp hr).2.2 x z _ (by simp))
 ·exact .inl (by simpa using z)
theorem CI.step {n:Int} {L:List PI} (Y:Yd n L) {Ps:List (Int×List Int)} (h:CI L Ps):CI L (yi L Ps):=by
 have sub:∀ e:Int×List Int,∀ y∈(if (Ps.any fun f=>decide ((tip f.2,tip e.2)∈L))=true then e.2.dropLast else e.2),y∈e.2:=fun e y hy=>by
  split at hy
  ·exact vy _ |>.subset hy
  ·exact hy
 refine ⟨fun e' he=>?_,fun e' he=>?_,fun e' he f' hf=>?_,?_⟩
 ·obtain ⟨e,hm,rfl⟩:=az.mp he
  dsimp only
  split
  ·rename_i ha
   obtain ⟨f,hf,hq⟩:=gE.mp ha
   have hq:(tip f.2,tip e.2)∈L:=by simpa using hq
   have hne:e.2≠[]:=by intro z;have:=h.mem e hm;rw [z] at this;cases this
   have hnt:e.1≠tip e.2:=fun z=>by
    have hfe:(f.1,tip e.2)∈L:=by
     rcases IQ (h.ris f hf) (h.mem f hf) with w | w
     ·rw [w];exact hq
     ·exact Y.tr _ _ _ w hq
    rw [<- z] at hfe
    exact h.anti f hf e hm hfe
   have hin:=h.mem e hm
   rw [my hne] at hin
   rcases aD.mp hin with w | w
   ·exact w
   ·exact absurd (by simpa using w) hnt
  ·exact h.mem e hm
 ·obtain ⟨e,hm,rfl⟩:=az.mp he
  dsimp only
  split
  ·exact (h.ris e hm).sublist (vy _)
  ·exact h.ris e hm
 ·obtain ⟨e,hm,rfl⟩:=az.mp he
  obtain ⟨f,hm2,rfl⟩:=az.mp hf
  exact h.anti e hm f hm2
 ·refine bz.mpr (h.dis.imp fun {e f} hd y hy hy2=>hd y (sub e y hy) (sub f y hy2))
theorem CI.fix {L:List PI} {Ps:List (Int×List Int)} (h:CI L Ps) (hx:yi L Ps=Ps):∀ e∈Ps,∀ f∈Ps,(tip f.2,tip e.2)∉L:=fun e he f hf hq=>by
 have hne:e.2≠[]:=by intro z;have:=h.mem e he;rw [z] at this;cases this
 have ha:(Ps.any fun f=>decide ((tip f.2,tip e.2)∈L))=true:=gE.mpr ⟨f,hf,by simpa using hq⟩
 have same:∀ (l:List (Int×List Int)) (g:Int×List Int->Int×List Int),l.map g=l->∀ e∈l,g e=e:=fun l g=>by
  induction l with
  | nil=>intro _ e he;cases he
  | cons a l ih =>
    intro hm e he
    rw [ax] at hm
    injection hm with h1 h2
    rcases ao.mp he with z | z
    ·rw [z];exact h1
    ·exact ih h2 e z
 have:=congrArg Eo (same Ps _ hx e he)
 dsimp only at this
 rw [if_pos ha] at this
 have hl:=congrArg gs this
 rw [iN] at hl
 have:=yb.mpr hne
 lia
theorem CI.tips {L:List PI} {Ps:List (Int×List Int)} (h:CI L Ps):(Ps.map fun e=>tip e.2).Nodup:=by
 have hne:∀ e∈Ps,e.2≠[]:=fun e he z=>by have:=h.mem e he;rw [z] at this;cases this
 exact bz.mpr (h.dis.imp_of_mem fun {e f} he hf hd z=>hd (tip e.2) (vV (hne e he)) (by rw [z];exact vV (hne f hf)))
noncomputable def tot (Ps:List (Int×List Int)):Nat:=(Ps.map fun e=>e.2.length).sum
theorem zF (L:List PI) (Qs:List (Int×List Int)):∀ Ps:List (Int×List Int),(Ps.map fun e=>(e.1,if (Qs.any fun f=>decide ((tip f.2,tip e.2)∈L))=true then e.2.dropLast else e.2))=Ps\/((Ps.map fun e=>(e.1,if (Qs.any fun f=>decide ((tip f.2,tip e.2)∈L))=true then e.2.dropLast else e.2)).map fun e=>e.2.length).sum<(Ps.map fun e=>e.2.length).sum
 | []=>.inl rfl
 | e::Ps=>by
   have hle:(if (Qs.any fun f=>decide ((tip f.2,tip e.2)∈L))=true then e.2.dropLast else e.2).length<=e.2.length:=by
    split
    ·rw [iN];lia
    ·exact aw _
   have hle2:∀ Ps:List (Int×List Int),((Ps.map fun e=>(e.1,if (Qs.any fun f=>decide ((tip f.2,tip e.2)∈L))=true then e.2.dropLast else e.2)).map fun e=>e.2.length).sum<=(Ps.map fun e=>e.2.length).sum:=fun Ps=>by
    induction Ps with
    | nil=>exact aw _
    | cons a Ps ih =>
      simp only [ax,tD]
      have:(if (Qs.any fun f=>decide ((tip f.2,tip a.2)∈L))=true then a.2.dropLast else a.2).length<=a.2.length:=by
       split
       ·rw [iN];lia
       ·exact aw _
      lia
   simp only [ax,tD]
   rcases m7 hle with z | z
   ·right
    have:=hle2 Ps
    lia
   ·rcases zF L Qs Ps with w | w
    ·left
     rw [w]
     congr 1
     refine j7 rfl ?_
     dsimp only
     split at z
     ·rename_i hc
      rw [if_pos hc]
      rw [iN] at z
      have:e.2=[]:=iM (by lia)
      rw [this];rfl
     ·rename_i hc
      rw [if_neg hc]
    ·right
     lia
end GT
set_option linter.unusedSimpArgs false
namespace GT
open PySem L2 Ry G G3
theorem C8 {n:Int} {L U O:List PI} {X:List Int} {k:Nat} {m M:Int->Nat} (Y:Yd n L) (h:Lnk L U O) (hm:∀ a b,(a,b)∈L->m a<m b) (hM:∀ a b,(a,b)∈L->M b<M a) (hk:∀ x,M x<=k) (nX:X.Nodup) (rX:∀ x∈X,x∈rgI 0 n.toNat) (aX:∀ x∈X,∀ y∈X,(x,y)∉L)
 (hl:((rgI 0 n.toNat).filter fun x=>decide (x∉bW U)).length<=X.length):∀ b∈(rgI 0 n.toNat).filter (fun x=>decide (x∉bW U)),∃ x∈X,x∈twF O k b:=by
 intro b0 hb0
 refine Classical.byContradiction fun hno=>?_
 have ex:∀ x:Int,∃ b:Int,x∈X->b∈(rgI 0 n.toNat).filter (fun x=>decide (x∉bW U))/\x∈twF O k b:=fun x=>by
  by_cases hx:x∈X
  ·obtain ⟨b,h1,h2,h3⟩:=ET Y h hm hM hk _ x rfl (rX x hx)
   exact ⟨b,fun _=>⟨aG.mpr ⟨h1,by simpa using h2⟩,h3⟩⟩
  ·exact ⟨0,fun z=>absurd z hx⟩
 have hch:∀ x∈X,eD (ex x)∈(rgI 0 n.toNat).filter (fun x=>decide (x∉bW U))/\x∈twF O k (eD (ex x)):=fun x hx=>hZ (ex x) hx
 have nd:(X.map fun x=>eD (ex x)).Nodup:=by
  refine bz.mpr (nX.imp_of_mem fun {x y} hx hy ne e=>?_)
  have h1:=(hch x hx).2
  have h2:=(hch y hy).2
  rw [<- e] at h2
  have hp:=pd Y h k (eD (ex x))
  obtain ⟨i,hi,ei⟩:=bT h1
  obtain ⟨j,hj,ej⟩:=bT h2
  rcases Cm i j with z | z | z
  ·have:=e6.mp hp i j hi hj z
   rw [ei,ej] at this
   exact aX x hx y hy this
  ·subst z;exact ne (by rw [<- ei,<- ej])
  ·have:=e6.mp hp j i hj hi z
   rw [ei,ej] at this
   exact aX y hy x hx this
 have hsub:=Ms.length_le_of_subset nd (m:=((rgI 0 n.toNat).filter fun x=>decide (x∉bW U)).filter fun b=>decide (b≠b0)) fun b hb=>by
  obtain ⟨x,hx,rfl⟩:=az.mp hb
  refine aG.mpr ⟨(hch x hx).1,?_⟩
  rw [decide_eq_true_eq]
  intro z
  exact hno ⟨x,hx,by rw [<- z];exact (hch x hx).2⟩
 rw [ab] at hsub
 have h2:=eS (fun b=>decide (b≠b0)) ((rgI 0 n.toNat).filter fun x=>decide (x∉bW U))
 have he:=lf h2 (bO hl hsub)
 have:=nJ.mp he b0 hb0
 simp at this
theorem D5 {n:Int} {L U O:List PI} {X:List Int} {k:Nat} {m M:Int->Nat} (Y:Yd n L) (h:Lnk L U O) (hm:∀ a b,(a,b)∈L->m a<m b) (hM:∀ a b,(a,b)∈L->M b<M a) (hk:∀ x,M x<=k) (nX:X.Nodup) (rX:∀ x∈X,x∈rgI 0 n.toNat) (aX:∀ x∈X,∀ y∈X,(x,y)∉L)
 (hl:((rgI 0 n.toNat).filter fun x=>decide (x∉bW U)).length<=X.length):∃ Ps:List (Int×List Int),Ps.map (·.2)=((rgI 0 n.toNat).filter fun x=>decide (x∉bW U)).map (twF O k)/\CI L Ps:=by
 have one:=C8 Y h hm hM hk nX rX aX hl
 have nb:((rgI 0 n.toNat).filter fun x=>decide (x∉bW U)).Nodup:=(d5 _ _).sublist bF
 have bn:∀ b∈(rgI 0 n.toNat).filter (fun x=>decide (x∉bW U)),b∉bW U:=fun b hb=>by simpa using (aG.mp hb).2
 have go:∀ l:List Int,l.Nodup->(∀ b∈l,b∈(rgI 0 n.toNat).filter (fun x=>decide (x∉bW U)))->∃ Ps:List (Int×List Int),Ps.map (·.2)=l.map (twF O k)/\(∀ e∈Ps,e.1∈X/\e.1∈e.2/\∃ b∈l,e.2=twF O k b)/\Ps.Pairwise fun e f=>∀ y∈e.2,y∉f.2:=fun l=>by
  induction l with
  | nil=>exact fun _ _=>⟨[],rfl,by simp,.nil⟩
  | cons b l ih =>
    intro hn hs
    obtain ⟨hn1,hn2⟩:=be.mp hn
    obtain ⟨Ps,e1,e2,e3⟩:=ih hn2 fun c hc=>hs c (af _ hc)
    obtain ⟨x,hx,hxb⟩:=one b (hs b ah)
    refine ⟨(x,twF O k b)::Ps,by rw [ax,ax,e1],fun e he=>?_,bI.mpr ⟨fun f hf y hy hy2=>?_,e3⟩⟩
    ·rcases ao.mp he with z | z
     ·rw [z];exact ⟨hx,hxb,b,ah,rfl⟩
     ·obtain ⟨q1,q2,c,hc,q3⟩:=e2 e z
      exact ⟨q1,q2,c,af _ hc,q3⟩
    ·obtain ⟨_,_,c,hc,q3⟩:=e2 f hf
     rw [q3] at hy2
     have:b=c:=EK h hm (bn b (hs b ah)) (bn c (hs c (af _ hc))) _ y rfl hy hy2
     rw [this] at hn1
     exact hn1 hc
 obtain ⟨Ps,e1,e2,e3⟩:=go _ nb fun b hb=>hb
 refine ⟨Ps,e1,fun e he=>(e2 e he).2.1,fun e he=>?_,fun e he f hf=>aX _ (e2 e he).1 _ (e2 f hf).1,e3⟩
 obtain ⟨_,_,b,_,q⟩:=e2 e he
 rw [q]
 exact pd Y h k b
end GT
set_option linter.unusedSimpArgs false
namespace GT
open PySem L2 Ry G G3
theorem Ly {n:Int} {L U O:List PI} (Y:Yd n L) (h:Lnk L U O) {k:Nat} {b y:Int} (hb:b∈rgI 0 n.toNat) (hy:y∈twF O k b):y∈rgI 0 n.toNat:=by
 rcases pU h k b y hy with z | ⟨z,_⟩
 ·rw [z];exact hb
 ·have:=(Y.rg _ (h.up y z)).2
  dsimp only at this
  exact eQ.mpr (by lia)
theorem zQ {n:Int} {L U O:List PI} {k:Nat} {m M:Int->Nat} (Y:Yd n L) (h:Lnk L U O) (hm:∀ a b,(a,b)∈L->m a<m b) (hM:∀ a b,(a,b)∈L->M b<M a) (hk:∀ x,M x<=k):((((rgI 0 n.toNat).filter fun x=>decide (x∉bW U)).map (twF O k)).flatten).Perm (rgI 0 n.toNat):=by
 have nb:((rgI 0 n.toNat).filter fun x=>decide (x∉bW U)).Nodup:=(d5 _ _).sublist bF
 have bn:∀ b∈(rgI 0 n.toNat).filter (fun x=>decide (x∉bW U)),b∉bW U:=fun b hb=>by simpa using (aG.mp hb).2
 have nd:∀ l:List Int,l.Nodup->(∀ b∈l,b∈(rgI 0 n.toNat).filter (fun x=>decide (x∉bW U)))->((l.map (twF O k)).flatten).Nodup:=fun l=>by
  induction l with
  | nil=>exact fun _ _=>.nil
  | cons b l ih =>
    intro hn hs
    obtain ⟨hn1,hn2⟩:=be.mp hn
    rw [ax,List.flatten_cons]
    refine bp.mpr ⟨(pd Y h k b).imp (S:=fun x y=>x≠y) fun {x y} hxy (e:x=y)=>Y.irr x (by rw [<- e] at hxy;exact hxy),ih hn2 fun c hc=>hs c (af _ hc),fun x hx y hy e=>?_⟩
    subst e
    obtain ⟨T,hT,hxT⟩:=kg.mp hy
    obtain ⟨c,hc,rfl⟩:=az.mp hT
    have:b=c:=EK h hm (bn b (hs b ah)) (bn c (hs c (af _ hc))) _ x rfl hx hxT
    rw [this] at hn1
    exact hn1 hc
 refine (eP (nd _ nb fun b hb=>hb) (d5 _ _)).mpr fun x=>?_
 rw [kg]
 constructor
 ·rintro ⟨T,hT,hx⟩
  obtain ⟨b,hb,rfl⟩:=az.mp hT
  exact Ly Y h (aG.mp hb).1 hx
 ·intro hx
  obtain ⟨b,h1,h2,h3⟩:=ET Y h hm hM hk _ x rfl hx
  exact ⟨_,az.mpr ⟨b,aG.mpr ⟨h1,by simpa using h2⟩,rfl⟩,h3⟩
end GT
set_option linter.unusedSimpArgs false
namespace GT
open PySem PySem.Spec PyProof.Rows L2 Ry G G3
structure Bd (R:List Int) (U:List PI) (A:List Int):Prop where
 un:(bW U).Nodup
 ur:∀ u∈bW U,u∈R
 an:A.Nodup
 ar:∀ a∈A,a∈R
theorem Bd.ask {R:List Int} {U:List PI} {A:List Int} {u:Int} (h:Bd R U A) (hu:u∈R) (hA:u∉A):Bd R U (A++[u]) :=
 ⟨h.un,h.ur,bp.mpr ⟨h.an,bc _ _,fun a ha b hb=>by rw [ay] at hb;subst hb;intro z;subst z;exact hA ha⟩,fun a ha=>by
   rcases aD.mp ha with z | z
   ·exact h.ar a z
   ·rw [ay] at z;rw [z];exact hu⟩
theorem Bd.put {R:List Int} {U:List PI} {A:List Int} {u t:Int} (h:Bd R U A) (hu:u∈R):Bd R (ml U u t) A:=by
 refine ⟨?_,fun v hv=>?_,h.an,h.ar⟩
 ·rw [j3]
  split
  ·exact h.un
  ·rename_i hK
   exact bp.mpr ⟨h.un,bc _ _,fun a ha b hb=>by rw [ay] at hb;subst hb;intro z;subst z;exact hK ha⟩
 ·rw [j3] at hv
  split at hv
  ·exact h.ur v hv
  ·rcases aD.mp hv with z | z
   ·exact h.ur v z
   ·rw [ay] at z;rw [z];exact hu
theorem Bj {R:List Int} {rec:Int->List PI->List Int->TK} {t:Int} (hr:∀ x U A r,Bd R U A->rec x U A=some r->Bd R r.2.1 r.2.2):∀ (us:List Int) (U:List PI) (A:List Int) (r:Bool×List PI×List Int),(∀ u∈us,u∈R)->Bd R U A->tkL rec t us U A=some r->Bd R r.2.1 r.2.2
 | [],U,A,r,_,h,e=>by cases e;exact h
 | u::us,U,A,r,hs,h,e=>by
   have hu:=hs u ah
   have hs':=fun v hv=>hs v (af _ hv)
   unfold tkL at e
   split at e
   ·exact Bj hr us U A r hs' h e
   ·rename_i hA
    split at e
    ·cases e;exact (h.ask hu hA).put hu
    ·split at e
     ·cases e
     ·rename_i U' A' er
      cases e
      exact (hr _ _ _ _ (h.ask hu hA) er).put hu
     ·rename_i U' A' er
      exact Bj hr us U' A' r hs' (hr _ _ _ _ (h.ask hu hA) er) e
theorem FR {up:Int->List Int} {R:List Int} (hup:∀ t,∀ u∈up t,u∈R):∀ (k:Nat) (t:Int) (U:List PI) (A:List Int) (r:Bool×List PI×List Int),Bd R U A->tk up k t U A=some r->Bd R r.2.1 r.2.2
 | 0,_,_,_,_,_,e=>by cases e
 | k+1,t,U,A,r,h,e=>Bj (fun x U A r h er=>FR hup k x U A r h er) (up t) U A r (hup t) h e
noncomputable def cU (U:List PI):List (Key×V):=U.map fun e=>(au e.1,V.int e.2)
theorem uA:∀ (U:List PI) (u:Int),nV (cU U) (au u)=if u∈bW U then some (.int (cI U u)) else none
 | [],u=>rfl
 | (a,b)::U,u=>by
   by_cases h:a=u
   ·subst h
    rw [if_pos (by show a∈a::bW U;exact ah)]
    show _=some (V.int (if a=a then b else _))
    rw [if_pos rfl]
    exact j4 (p:=(au a,V.int b)) rfl
   ·have ek:¬ (au a:Key)=au u:=fun z=>h (dh z)
    have ev:nV (cU ((a,b)::U)) (au u)=nV (cU U) (au u):=jZ (p:=(au a,V.int b)) ek
    rw [ev,uA U u]
    show _=if u∈a::bW U then some (V.int (if a=u then b else cI U u)) else none
    rw [if_neg h]
    by_cases h2:u∈bW U
    ·rw [if_pos h2,if_pos (af _ h2)]
    ·rw [if_neg h2,if_neg (fun z=>(ao.mp z).elim (fun z=>h z.symm) h2)]
theorem Ko {U:List PI} (nd:(bW U).Nodup) (u t:Int):lB (cU U) (au u) (V.int t)=cU (ml U u t):=by
 by_cases h:u∈bW U
 ·obtain ⟨P,S,e1,e2⟩:=oY (t:=t) h
  have hP:∀ e∈P,e.1≠u:=fun e he z=>by
   rw [e1] at nd
   unfold bW at nd
   rw [bE,ax] at nd
   exact (bp.mp nd).2.2 e.1 (az.mpr ⟨e,he,rfl⟩) u ah z
  have hS:∀ e∈S,e.1≠u:=fun e he z=>by
   rw [e1] at nd
   unfold bW at nd
   rw [bE,ax] at nd
   exact (be.mp (bp.mp nd).2.1).1 (az.mpr ⟨e,he,z⟩)
  have keep:∀ l:List PI,(∀ e∈l,e.1≠u)->((cU l).map fun kv=>if kv.1=(au u:Key) then (kv.1,V.int t) else kv)=cU l:=fun l hl=>by
   unfold cU
   rw [aC]
   refine cY fun e he=>?_
   show (if (au e.1:Key)=au u then ((au e.1:Key),V.int t) else (au e.1,V.int e.2))=_
   rw [if_neg (fun z=>hl e he (dh z))]
  unfold lB
  rw [oC,uA,if_pos h]
  rw [show (some (V.int (cI U u))).isSome=true from rfl,if_pos rfl]
  rw [e2,e1]
  show ((cU (P++(u,_)::S)).map _)=_
  have split:∀ x:Int,cU (P++(u,x)::S)=cU P++(au u,V.int x)::cU S:=fun x=>by unfold cU;rw [bE,ax]
  rw [split,split,bE,ax,keep P hP,keep S hS,if_pos rfl]
 ·rw [so _ (by rw [uA,if_neg h]),nu h]
  unfold cU
  rw [bE];rfl
theorem HE (A:List Int) (u:Int):nV (idc A) (au u)=if u∈A then some (.bl true) else none:=by
 induction A with
 | nil=>rfl
 | cons a A ih =>
   by_cases h:a=u
   ·subst h
    rw [if_pos ah]
    exact j4 (p:=(au a,V.bl true)) rfl
   ·have ek:¬ (au a:Key)=au u:=fun z=>h (dh z)
    have ev:nV (idc (a::A)) (au u)=nV (idc A) (au u):=jZ (p:=(au a,V.bl true)) ek
    rw [ev,ih]
    by_cases h2:u∈A
    ·rw [if_pos h2,if_pos (af _ h2)]
    ·rw [if_neg h2,if_neg (fun z=>(ao.mp z).elim (fun z=>h z.symm) h2)]
structure Chg (lu la:ak) (G H G' H':Hp):Prop where
 hh:∀ b o,H b=some o->b≠lu->b≠la->H' b=some o
 gg:cW G G'
 gh:cW G' H'
 nw:∀ b o,H b=some o->isT o=false->G b=none->G' b=none
theorem Chg.ext {lu la:ak} {G H G1 H1 G2 H2:Hp} {cu:List (Key×V)} {ca:List (Key×V)} (c:Chg lu la G H G1 H1) (e:Chg lu la G1 H1 G2 H2) (hu:H1 lu=some (.dK cu)) (ha:H1 la=some (.dK ca)):Chg lu la G H G2 H2 :=
 ⟨fun b o q n1 n2=>e.hh b o (c.hh b o q n1 n2) n1 n2,c.gg.trans e.gg,e.gh,fun b o q t g=>by
   have g1:=c.nw b o q t g
   by_cases n1:b=lu
   ·subst n1;exact e.nw _ _ hu rfl g1
   ·by_cases n2:b=la
    ·subst n2;exact e.nw _ _ ha rfl g1
    ·exact e.nw b o (c.hh b o q n1 n2) t g1⟩
theorem Chg.of {lu la:ak} {G H G1 H1:Hp} (e:Ext G H G1 H1):Chg lu la G H G1 H1:=⟨fun b o q _ _=>e.hh b o q,e.gg,e.gh,e.nw⟩
theorem Chg.mut {lu la l:ak} {G H:Hp} {o:HO} (s:cW G H) (hl:l=lu\/l=la) (g:G l=none):Chg lu la G H G (upd H l o) :=
 ⟨fun b u q n1 n2=>by rw [bq (fun z=>by subst z;exact hl.elim n1 n2)];exact q,cW.refl _,lh s g,fun _ _ _ _ g=>g⟩
theorem Fh {lu la:ak} {G H G1 H1 G2 H2:Hp} (E:Ext G H G1 H1) (hu:H lu=none) (ha:H la=none) (c:Chg lu la G1 H1 G2 H2):Ext G H G2 H2 :=
 ⟨fun b o q=>c.hh b o (E.hh b o q) (cb q hu) (cb q ha),E.gg.trans c.gg,c.gh,fun b o q t g=>c.nw b o (E.hh b o q) t (E.nw b o q t g)⟩
noncomputable def spT (K:ac) (k:Nat):Sp:=fun vs H Q _=>∃ (G:Hp) (D:UD) (R:List Int) (vu:V) (t:Int) (lu la:ak) (U:List PI) (A:List Int) (b:Bool) (U':List PI) (A':List Int),
 vs=[vu,.int t,.ref lu,.ref la]/\cW G H/\Tbs K G/\Den K G (dU D) vu/\(R.length<=1000/\∀ t,∀ u∈dE D t,u∈R)/\(G lu=none/\G la=none/\lu≠la)/\H lu=some (.dK (cU U))/\H la=some (.dK (idc A))/\Bd R U A/\tk (dE D) k t U A=some (b,U',A') /\
 ∀ G' H',Chg lu la G H G' H'->H' lu=some (.dK (cU U'))->H' la=some (.dK (idc A'))->Q (.bl b) H'
theorem Ff {R l:List Int} (nd:l.Nodup) (hs:∀ x∈l,x∈R) (hR:R.length<=1000):l.length<=1000:=bO (Ms.length_le_of_subset nd hs) hR
theorem take_read {K:ac} {H:Hp} {vs:List V} {Q:VK} {E:XK} {E':XK} {k:Nat} {x0 x1 x2 x3 x4:bM} (h:spT K (k+1) vs H Q E') :
 oX (KW (iX K (cB (ig (jE (aT 0) (aT 1) (xC2 (.fr,.dK [] [])))))) (mw 4)
  (oX (KR (tB (L0 (ku 4) (ku 3))) IL CS)
  (oX (vQ (ku 3) (ku 4) (tC (V.bl true)))
  (KR (tOr (tB (wl (ku 4) (ku 2))) (tB (GG (spT K k) [] E (o5 (ku 0) (o5 (DR (ku 2) (ku 4)) (o5 (ku 2) (o5 (ku 3) Kr)))))))
    (oX (vQ (ku 2) (ku 4) (ku 1)) (HS (tC (V.bl true)))) CS))))
  (HS (tC (V.bl false))) { nx:=fun _ H'=>Q V.non H',rt:=Q } (L2.start [x0,x1,x2,x3,x4] vs) H:=by
 have hs:aK=16777216:=bG
 obtain ⟨G,D,R,vu,t,lu,la,U0,A0,b,U',A',rfl,sg,tg,dv,⟨hR,hup⟩,⟨gu,ga,nla⟩,hu0,ha0,bd0,e0,fin⟩:=h
 have e0:tkL (tk (dE D) k) t (dE D t) U0 A0=some (b,U',A'):=e0
 show oX _ _ _ [some vu,some (.int t),some (.ref lu),some (.ref la),none] H
 have st0:iK K H G H [some vu,some (.int t),some (.ref lu),some (.ref la),none] [.pu (dU D),.pu (.int t),.no,.no,.no]:=by
  refine ⟨rfl,fun i d e=>?_,fun i d e=>?_,fun i j d d' l _ e=>?_,tg⟩
  ·match i,e with
   | 0,e=>cases e;exact ⟨vu,rfl,dv⟩
   | 1,e=>cases e;exact ⟨_,rfl,rfl⟩
   | 2,e=>cases e
   | 3,e=>cases e
   | 4,e=>cases e
  ·match i,e with
   | 0,e=>cases e
   | 1,e=>cases e
   | 2,e=>cases e
   | 3,e=>cases e
   | 4,e=>cases e
  ·match i,e with
   | 0,e=>cases e
   | 1,e=>cases e
   | 2,e=>cases e
   | 3,e=>cases e
   | 4,e=>cases e
 have hit:cB (ig (jE (aT 0) (aT 1) (xC2 (.fr,.dK [] [])))) [.pu (dU D),.pu (.int t),.no,.no,.no]=some ((dE D t).map Da.int):=rS (xu D t _ _ _ (k:=.pu) (k':=.pu) rfl rfl)
 refine ⟨H,G,_,_,sg,cW.refl _,st0,hit,fun J G1 H1 E1 it=>?_⟩
 generalize hus:dE D t=us at e0 it
 have hR':∀ u∈us,u∈R:=by rw [<- hus];exact hup t
 refine ⟨fun i m σ H'=>m=us.length-i/\i<=us.length/\∃ Gc U A s4,σ=[some vu,some (.int t),some (.ref lu),some (.ref la),s4]/\Chg lu la G H Gc H'/\cW G1 Gc/\H' lu=some (.dK (cU U))/\H' la=some (.dK (idc A))/\Bd R U A/\tkL (tk (dE D) k) t (us.drop i) U A=some (b,U',A'),
  ⟨us.length,rfl,bV _,G1,U0,A0,_,rfl,.of E1,cW.refl _,E1.hh _ _ hu0,E1.hh _ _ ha0,bd0,e0⟩,?_⟩
 rintro i m σ H' ⟨rfl,hi,Gc,U,A,s4,rfl,Cc,sc,hu,ha,bd,e⟩
 by_cases hlt:i<us.length
 ·obtain ⟨hgo,hy⟩:=(it i Gc H' sc Cc.gh).1 (Da.int us[i]) (by rw [aA,aj hlt];rfl)
  rw [e5 hlt] at e
  have huR:=hR' us[i] (gD hlt)
  generalize us[i]=u at e huR hy
  refine .inr ⟨hgo,fun σ3 H3=>∃ Gc U A s4,σ3=[some vu,some (.int t),some (.ref lu),some (.ref la),s4]/\Chg lu la G H Gc H3/\cW G1 Gc/\H3 lu=some (.dK (cU U))/\H3 la=some (.dK (idc A))/\Bd R U A/\tkL (tk (dE D) k) t (us.drop (i+1)) U A=some (b,U',A'),fun σ3 H3 z=>⟨us.length-(i+1),by lia,rfl,hlt,z⟩,fun x H2 yl=>?_⟩
  obtain ⟨G2,E2,dx⟩:=hy x H2 yl
  cases (show x=.int u from dx)
  have C2:Chg lu la G H G2 H2:=Cc.ext (.of E2) hu ha
  have s2:=sc.trans E2.gg
  have hu2:=E2.hh _ _ hu
  have ha2:=E2.hh _ _ ha
  have gu2:G2 lu=none:=C2.nw _ _ hu0 rfl gu
  have ga2:G2 la=none:=C2.nw _ _ ha0 rfl ga
  have hAl:(idc A).length<aK:=by
   unfold idc
   rw [ab]
   have:=Ff bd.an bd.ar hR
   lia
  show oX _ _ _ [some vu,some (.int t),some (.ref lu),some (.ref la),some (.int u)] H2
  refine ⟨_,rfl,_,rfl,la,_,rfl,sR.k (k:=au u) ha2,_,rfl,?_⟩
  rw [HE]
  unfold tkL at e
  by_cases hA:u∈A
  ·rw [if_pos hA]
   rw [if_pos hA] at e
   refine HU ?_
   exact ⟨G2,U,A,_,rfl,C2,s2,hu2,ha2,bd,e⟩
  ·rw [if_neg hA]
   rw [if_neg hA] at e
   refine JL ?_
   have bd2:=bd.ask huR hA
   refine ⟨_,rfl,_,rfl,la,_,rfl,CV.k (k:=au u) ha2 hAl,?_⟩
   rw [xH,show tF A u=A++[u] from if_neg hA]
   have C3:Chg lu la G H G2 (upd H2 la (.dK (idc (A++[u])))):=C2.ext (Chg.mut E2.gh (.inr rfl) ga2) hu2 ha2
   have hu3:(upd H2 la (.dK (idc (A++[u])))) lu=some (.dK (cU U)):=by rw [bq nla];exact hu2
   have ha3:(upd H2 la (.dK (idc (A++[u])))) la=some (.dK (idc (A++[u]))):=aV
   generalize upd H2 la (.dK (idc (A++[u])))=H3 at C3 hu3 ha3
   have last:∀ (Gd Hd:Hp) (Ud:List PI) (Ad:List Int),Chg lu la G H Gd Hd->Hd lu=some (.dK (cU Ud))->Hd la=some (.dK (idc Ad))->Bd R Ud Ad->(true,ml Ud u t,Ad)=(b,U',A')->∀ N B' C',oX (vQ (ku 2) (ku 4) (ku 1)) (HS (tC (V.bl true))) { nx:=N,rt:=Q,bk:=B',ct:=C' } [some vu,some (.int t),some (.ref lu),some (.ref la),some (.int u)] Hd:=fun Gd Hd Ud Ad Cd hud had bdd ee N B' C'=>by
    cases ee
    have hUl:(cU Ud).length<aK:=by
     unfold cU
     rw [ab]
     have:=Ff bdd.un bdd.ur hR
     unfold bW at this
     rw [ab] at this
     lia
    have gud:Gd lu=none:=Cd.nw _ _ hu0 rfl gu
    refine ⟨_,rfl,_,rfl,_,rfl,lu,_,rfl,CV.k (k:=au u) hud hUl,?_⟩
    rw [Ko bdd.un]
    exact fin Gd _ (Cd.ext (Chg.mut Cd.gh (.inl rfl) gud) hud had) aV (by rw [bq nla.symm];exact had)
   refine ⟨_,rfl,_,rfl,lu,_,rfl,sR.k (k:=au u) hu3,_,rfl,?_⟩
   rw [uA]
   by_cases hK:u∈bW U
   ·rw [if_pos hK]
    rw [if_neg (by simpa using hK)] at e
    refine JL ?_
    cases er:tk (dE D) k (cI U u) U (A++[u]) with
    | none=>rw [er] at e;cases e
    | some r =>
      obtain ⟨b1,U1,A1⟩:=r
      rw [er] at e
      refine ⟨_,rfl,_,rfl,_,rfl,lu,.int (cI U u),rfl,?_,_,rfl,_,rfl,?_⟩
      ·have:=sR.k (k:=au u) hu3
       rw [uA,if_pos hK] at this
       exact this
      have gu3:G2 lu=none:=gu2
      refine ⟨G2,D,R,vu,cI U u,lu,la,U,A++[u],b1,U1,A1,rfl,C3.gh,tg.mono C3.gg,Den.mono C3.gg _ dv,⟨hR,hup⟩,⟨gu2,ga2,nla⟩,hu3,ha3,bd2,er,fun G4 H4 C4 hu4 ha4=>⟨_,rfl,?_⟩⟩
      have C5:=C3.ext C4 hu3 ha3
      have bd4:Bd R U1 A1:=FR hup k _ _ _ _ bd2 er
      cases b1 with
      | true =>
        refine HU ?_
        exact last G4 H4 U1 A1 C5 hu4 ha4 bd4 (by simpa using e) _ _ _
      | false =>
        refine JL ?_
        exact ⟨G4,U1,A1,_,rfl,C5,s2.trans C4.gg,hu4,ha4,bd4,e⟩
   ·rw [if_neg hK]
    rw [if_pos hK] at e
    refine HU ?_
    refine HU ?_
    exact last G2 H3 U (A++[u]) C3 hu3 ha3 bd2 (by simpa using e) _ _ _
 ·have ei:i=us.length:=by lia
  subst ei
  rw [j9] at e
  cases (show some (false,U,A)=some (b,U',A') from e)
  refine .inl ⟨(it us.length Gc H' sc Cc.gh).2 (ab _),?_⟩
  exact fin Gc H' Cc hu ha
end GT
set_option linter.unusedSimpArgs false
namespace GT
open PySem PySem.Spec PyProof.Rows L2 Ry G G3
noncomputable def fn_steps_of:List Da->Option Da
 | [.tup [.int n,.tup ps]]=>match dQ ps with
   | some L=>if L.length<=1000/\0<=n/\n<=12/\(L.all fun p=>decide (0<=p.2/\p.2<n))=true then (iY (dE (upp L)) 13 (rgI 0 n.toNat) []).map dC else none
   | none=>none
 | _=>none
theorem yz {ds:List Da} {d:Da} (h:fn_steps_of ds=some d):∃ n ps L U,ds=[.tup [.int n,.tup ps]]/\dQ ps=some L/\L.length<=1000/\0<=n/\n<=12/\(∀ p∈L,0<=p.2/\p.2<n)/\iY (dE (upp L)) 13 (rgI 0 n.toNat) []=some U/\d=dC U:=by
 unfold fn_steps_of at h
 split at h
 ·rename_i n ps
  split at h
  ·rename_i L eL
   split at h
   ·rename_i hc
    obtain ⟨h1,h2,h3,h4⟩:=hc
    cases eU:iY (dE (upp L)) 13 (rgI 0 n.toNat) [] with
    | none=>rw [eU] at h;cases h
    | some U =>
      rw [eU] at h
      cases h
      exact ⟨n,ps,L,U,rfl,eL,h1,h2,h3,fun p hp=>by simpa using cH.mp h4 p hp,eU,rfl⟩
   ·cases h
  ·cases h
 ·cases h
theorem Lh {K:ac} {G:Hp} {U:List PI} {l:ak} {o:dz} (h:G l=some (.frz o (.dK (cU U)))):Den K G (dC U) (.ref l):=by
 refine ⟨l,o,cU U,rfl,h,?_,?_⟩
 ·unfold cU;rw [aC];rfl
 ·have e1:(cU U).map (·.2)=(U.map (·.2)).map V.int:=by unfold cU;rw [aC,aC];rfl
  have e2:(U.map fun e=>Da.int e.2)=(U.map (·.2)).map Da.int:=by rw [aC];rfl
  rw [e1,e2]
  exact cS.ints.mpr rfl
theorem steps_read {K:ac} {G H:Hp} {ds:List Da} {d:Da} {vs:List V} {Q:VK} {E:XK} {x0 x1 x2 x3:bM} (sg:cW G H) (tg:Tbs K G) (dl:cS K G ds vs) (ef:fn_steps_of ds=some d) (k:∀ v G' H',Ext G H G' H'->Den K G' d v->Q v H') :
 oX (HX (tX K (cC fn_uppers_of (aL (Ry.x2 oIt (aT 0) (xC (.int 1))) ck))) (mw 1)) (oX (HX uO (mw 2))
  (oX (KW (iX K (nM (aL (Ry.x2 oIt (aT 0) (xC (.int 0))) ck))) (mw 3)
    (FY (GG (spT K 13) [] E (o5 (ku 1) (o5 (ku 3) (o5 (ku 2) (o5 uO Kr)))))))
  fun D σ H=>ku 2 σ H fun v H1=>∃ ls,jm H1 ls fun H2=>D.rt v H2)) { nx:=fun _ H'=>Q V.non H',rt:=Q } (L2.start [x0,x1,x2,x3] vs) H:=by
 obtain ⟨n,ps,L,Uf,rfl,eL,hL,h0,h12,hrg,eU,rfl⟩:=yz ef
 obtain ⟨v0,r,ev,hd0,er⟩:=dl
 cases (show r=[] from er)
 subst ev
 have stG:∀ (Gx Hx:Hp) (w1 w2 w3:Option V),cW G Gx->iK K H Gx Hx [some v0,w1,w2,w3] [.pu (.tup [.int n,.tup ps]),.no,.no,.no]:=fun Gx Hx w1 w2 w3 sx=>by
  refine ⟨rfl,fun i d e=>?_,fun i d e=>?_,fun i j d d' l _ e=>?_,tg.mono sx⟩
  ·match i,e with
   | 0,e=>cases e;exact ⟨v0,rfl,Den.mono sx _ hd0⟩
   | 1,e=>cases e
   | 2,e=>cases e
   | 3,e=>cases e
  ·match i,e with
   | 0,e=>cases e
   | 1,e=>cases e
   | 2,e=>cases e
   | 3,e=>cases e
  ·match i,e with
   | 0,e=>cases e
   | 1,e=>cases e
   | 2,e=>cases e
   | 3,e=>cases e
 show oX _ _ _ [some v0,none,none,none] H
 have hup:fn_uppers_of [.tup ps]=some (dU (upp L)):=by
  show (match dQ ps with | some T=>if T.length<=1000 then some (dU (upp T)) else none | none=>none)=_
  rw [eL]
  exact if_pos hL
 have hc:cC fn_uppers_of (aL (Ry.x2 oIt (aT 0) (xC (.int 1))) ck) [.pu (.tup [.int n,.tup ps]),.no,.no,.no]=some (.pu,dU (upp L)):=by
  show (match fn_uppers_of [.tup ps] with | none=>none | some d=>some (Kd.pu,d))=_
  rw [hup]
 refine ⟨H,G,_,_,sg,cW.refl _,stG G H _ _ _ (cW.refl _),hc,fun vu G1 H1 E1 du=>?_⟩
 have du:Den K G1 (dU (upp L)) vu:=du
 show oX _ _ _ [some v0,some vu,none,none] H1
 intro lu hlu
 show oX _ _ _ [some v0,some vu,some (.ref lu),none] (upd H1 lu (.dK []))
 have h0u:H lu=none:=E1.hh.free hlu
 have g1u:G1 lu=none:=E1.gh.free hlu
 have E2:Ext G H G1 (upd H1 lu (.dK [])):=E1.trans (Ext.own E1.gh hlu)
 have hrng:nM (aL (Ry.x2 oIt (aT 0) (xC (.int 0))) ck) [.pu (.tup [.int n,.tup ps]),.no,.no,.no]=some ((rgI 0 n.toNat).map Da.int):=by
  show (if -(2 ^ 62)<=n/\n<2 ^ 62 then some (fE 0 n.toNat) else none)=_
  rw [if_pos (by lia),fw]
 refine ⟨H,G1,_,_,E2.gh,E2.hh,stG G1 _ _ _ _ E1.gg,hrng,fun J G3 H3 E3 it=>?_⟩
 generalize hts:rgI 0 n.toNat=ts at eU it
 have hRl:(rgI 0 n.toNat).length<=1000:=by rw [fm];lia
 have hR:∀ t,∀ u∈dE (upp L) t,u∈rgI 0 n.toNat:=fun t u hu=>by
  rw [(kn L).get] at hu
  have:=hrg _ hu
  exact eQ.mpr (by lia)
 refine ⟨fun i m σ H'=>m=ts.length-i/\i<=ts.length/\∃ Gc U s3,σ=[some v0,some vu,some (.ref lu),s3]/\Ext G H Gc H'/\cW G3 Gc/\H' lu=some (.dK (cU U))/\Gc lu=none/\Bd (rgI 0 n.toNat) U []/\iY (dE (upp L)) 13 (ts.drop i) U=some Uf,
  ⟨ts.length,rfl,bV _,G3,[],_,rfl,E2.trans E3,cW.refl _,E3.hh _ _ aV,E3.nw _ _ aV rfl g1u,⟨by simp [bW],by simp [bW],by simp,by simp⟩,eU⟩,?_⟩
 rintro i m σ H' ⟨rfl,hi,Gc,U,s3,rfl,Ec,sc,hu,gu,bd,e⟩
 by_cases hlt:i<ts.length
 ·obtain ⟨hgo,hy⟩:=(it i Gc H' sc Ec.gh).1 (Da.int ts[i]) (by rw [aA,aj hlt];rfl)
  rw [e5 hlt] at e
  generalize ts[i]=t at e hy
  refine .inr ⟨hgo,fun σ3 H3=>∃ Gc U s3,σ3=[some v0,some vu,some (.ref lu),s3]/\Ext G H Gc H3/\cW G3 Gc/\H3 lu=some (.dK (cU U))/\Gc lu=none/\Bd (rgI 0 n.toNat) U []/\iY (dE (upp L)) 13 (ts.drop (i+1)) U=some Uf,fun σ3 H3 z=>⟨ts.length-(i+1),by lia,rfl,hlt,z⟩,fun x H2 yl=>?_⟩
  obtain ⟨G2,E5,dx⟩:=hy x H2 yl
  cases (show x=.int t from dx)
  have Ec2:=Ec.trans E5
  have gu2:G2 lu=none:=E5.nw _ _ hu rfl gu
  have hu2:=E5.hh _ _ hu
  show FY _ _ [some v0,some vu,some (.ref lu),some (.int t)] H2
  refine ⟨_,rfl,_,rfl,_,rfl,fun la hla=>?_⟩
  have nla:lu≠la:=fun z=>by rw [<- z,hu2] at hla;cases hla
  have h0a:H la=none:=Ec2.hh.free hla
  have ga2:G2 la=none:=Ec2.gh.free hla
  have E6:Ext G H G2 (upd H2 la (.dK [])):=Ec2.trans (Ext.own Ec2.gh hla)
  have du2:Den K G2 (dU (upp L)) vu:=Den.mono (E3.gg.trans (sc.trans E5.gg)) _ du
  cases er:tk (dE (upp L)) 13 t U [] with
  | none =>
    have:iY (dE (upp L)) 13 (t::ts.drop (i+1)) U=none:=by
     show (match tk (dE (upp L)) 13 t U [] with | none=>none | some (_,U',_)=>iY (dE (upp L)) 13 (ts.drop (i+1)) U')=none
     rw [er]
    rw [this] at e;cases e
  | some r =>
    obtain ⟨b,U',A'⟩:=r
    have e':iY (dE (upp L)) 13 (ts.drop (i+1)) U'=some Uf:=by
     have:iY (dE (upp L)) 13 (t::ts.drop (i+1)) U=iY (dE (upp L)) 13 (ts.drop (i+1)) U':=by
      show (match tk (dE (upp L)) 13 t U [] with | none=>none | some (_,U',_)=>iY (dE (upp L)) 13 (ts.drop (i+1)) U')=_
      rw [er]
     rw [this] at e;exact e
    have bd':=FR hR 13 t U [] _ bd er
    refine ⟨G2,upp L,rgI 0 n.toNat,vu,t,lu,la,U,[],b,U',A',rfl,E6.gh,tg.mono E6.gg,du2,⟨hRl,hR⟩,⟨gu2,ga2,nla⟩,by rw [bq nla];exact hu2,aV,bd,er,fun G4 H4 C4 hu4 ha4=>?_⟩
    exact ⟨G4,U',_,rfl,Fh E6 h0u h0a C4,(sc.trans E5.gg).trans C4.gg,hu4,C4.nw _ _ (by rw [bq nla];exact hu2) rfl gu2,⟨bd'.un,bd'.ur,by simp,by simp⟩,e'⟩
 ·have ei:i=ts.length:=by lia
  subst ei
  rw [j9] at e
  cases (show some U=some Uf from e)
  refine .inl ⟨(it ts.length Gc H' sc Ec.gh).2 (ab _),?_⟩
  refine ⟨_,rfl,[lu],?_⟩
  have:=pF (G0:=G) (H0:=H) (k:=fun H2=>Q (.ref lu) H2) [(lu,HO.dK (cU Uf))] Gc H' Ec (by simp) (fun e he=>by
   rw [ay] at he;subst he
   exact ⟨h0u,gu,hu,.inl ⟨_,rfl⟩⟩) fun G' H'' E' s' hh=>by
    obtain ⟨o,ho⟩:=hh (lu,HO.dK (cU Uf)) (by simp)
    exact k _ G' H'' E' (Lh ho)
  exact this
end GT
namespace GT
open PySem L2 Ry G G3
noncomputable def g_tower_from:Rho->Res:=(iP (AN 2 (DQ (aL (aT 1) ck)))
 (iP (jC (tb (x2 (oIn false) (x2 oIt (aT 2) (pe (xC (.int 1)))) (aT 0)))
 (lT 2 (x2 oIt (aT 0) (x2 oIt (aT 2) (pe (xC (.int 1)))))) 200)
 (fT (xB hE (aL (aT 2) ck)))))
noncomputable def fn_tower_from:List Da->Option Da:=jr 3 g_tower_from
noncomputable def g_towers:Rho->Res:=(iP (nv 1 (cC fn_steps_of (aL (aT 0) ck)))
 (iP (nv 2 (ig (ni (fO [none,none,none] (q5 (aT 1)) (tgT 2 (fW (tgN 1) (fW (tgN 2) mo))) (fun _=>some true) (mz (aL (aT 2) (aL (aT 1) ck)))))))
 (fT (xB hE (aL (fO [none,none,none,some 2,some 1] (nM (aL (x2 oIt (aT 0) (xC (.int 0))) ck)) (tgN 1) (tb (x2 (oIn true) (aT 1) (aT 4))) (cC fn_tower_from (aL (aT 3) (aL (aT 1) ck)))) ck)))))
noncomputable def fn_towers:List Da->Option Da:=jr 3 g_towers
noncomputable def g_stands_on_any:Rho->Res:=(fT (xB Ge (aL (fO [none,none,some 1,some 0] (cB (ig (aT 2))) (tgN 1) (fun _=>some true) (x2 (oIn false) (aT 2) (jE (aT 3) (aT 1) (xC2 (.fr,.dK [] []))))) ck)))
noncomputable def fn_stands_on_any:List Da->Option Da:=jr 3 g_stands_on_any
noncomputable def g_without_overtopping:Rho->Res:=(iP (nv 2 (fO [none,none] (cB (ig (aT 1))) (tgN 1) (fun _=>some true) (x2 oIt (aT 1) (pe (xC (.int 1))))))
 (fT (fO [none,none,none,some 2,some 0] (cB (ig (aT 1))) (tgN 1) (fun _=>some true) (xIf (tTr (cC fn_stands_on_any (aL (aT 4) (aL (x2 oIt (aT 1) (pe (xC (.int 1)))) (aL (aT 3) ck))))) (kh (aT 1) pT (ot (pe (xC (.int 1))))) (aT 1)))))
noncomputable def fn_without_overtopping:List Da->Option Da:=jr 3 g_without_overtopping
noncomputable def g_broadest:Rho->Res:=(iP (nv 1 (cC fn_uppers_of (aL (x2 oIt (aT 0) (xC (.int 1))) ck)))
 (iP (nv 2 (DQ ck))
 (iP (nv 3 (xB oZ (aL (cC fn_towers (aL (aT 0) ck)) ck)))
 (iP (jC (tb (x2 (oEq true) (aT 3) (aT 2)))
 (iP (nv 2 (aT 3))
 (nv 3 (cC fn_without_overtopping (aL (aT 1) (aL (aT 2) ck))))) 200)
 (fT (xB hE (aL (xB eF (aL (fO [none,none] (cB (ig (aT 3))) (tgN 1) (fun _=>some true) (x2 oIt (aT 1) (pe (xC (.int 1))))) ck)) ck)))))))
noncomputable def fn_broadest:List Da->Option Da:=jr 4 g_broadest
end GT
set_option linter.unusedSimpArgs false
namespace GT
open PySem L2 Ry G G3 GW GH GF
theorem D0 {a b:Kd} (F:List Int) (x:Int):oIt (a,dT (F++[x])) (b,.int (-1))=some (.pu,.int x):=by
 unfold oIt oIx xE dT
 dsimp only
 have:atI ((F++[x]).map Da.int) (-1)=some (Da.int x):=by
  unfold atI ixN
  rw [if_neg (by decide),ab,aO,bx,if_pos (by lia)]
  show ((F++[x]).map Da.int)[((-1:Int)+((F.length+1:Nat):Int)).toNat]?=_
  rw [show ((-1:Int)+((F.length+1:Nat):Int)).toNat=F.length by lia,aA,cR (aw _),om]
  rfl
 rw [this]
 rfl
theorem wx {a b:Kd} {T:List Int} (h:T≠[]):oIt (a,dT T) (b,.int (-1))=some (.pu,.int (tip T)):=by
 have:=D0 (a:=a) (b:=b) T.dropLast (tip T)
 rw [<- my h] at this
 exact this
theorem sv:∀ {C:List PI} {a b:Int},(bW C).Nodup->(a,b)∈C->cI C a=b
 | [],_,_,_,h=>by cases h
 | (x,y)::C,a,b,nd,h=>by
   obtain ⟨n1,n2⟩:=be.mp (show (x::bW C).Nodup from nd)
   show (if x=a then y else cI C a)=b
   rcases ao.mp h with e | e
   ·cases e;rw [if_pos rfl]
   ·have ne:x≠a:=fun z=>n1 (by rw [z];exact az.mpr ⟨(a,b),e,rfl⟩)
    rw [if_neg ne]
    exact sv n2 e
theorem sK:∀ {C:List PI} {a:Int},a∈bW C->(a,cI C a)∈C
 | [],_,h=>by cases h
 | (x,y)::C,a,h=>by
   show (a,if x=a then y else cI C a)∈_
   by_cases e:x=a
   ·subst e;rw [if_pos rfl];exact ah
   ·rw [if_neg e]
    exact af _ (sK ((ao.mp (show a∈x::bW C from h)).resolve_left fun z=>e z.symm))
theorem IS {O:List PI} {x:Int} (h:x∉bW O):∀ k:Nat,twF O k x=[x]
 | 0=>rfl
 | k+1=>by
   show x::(if x∈bW O then twF O k (cI O x) else [])=[x]
   rw [if_neg h]
theorem Hc {O:List PI} {M:Int->Nat} (hO:∀ x∈bW O,M (cI O x)<M x) {k:Nat} {b:Int} (hk:M b<=k) (hk2:k<200):fn_tower_from [dC O,.int b]=some (dT (twF O k b)):=by
 refine um ?_
 unfold g_tower_from
 have e0:fB 3 [dC O,.int b]=[.pu (dC O),.pu (.int b),.no]:=rfl
 rw [e0]
 refine cZ (eM (ρ':=[.pu (dC O),.pu (.int b),.ow (.lst (([]++[b]).map Da.int))]) rfl ?_)
 refine cZ ?_
 refine oE (fun m ρ=>∃ (pre:List Int) (x:Int),ρ=[.pu (dC O),.pu (.int b),.ow (.lst ((pre++[x]).map Da.int))]/\M x<=m/\pre.length+m<=k/\pre++twF O m x=twF O k b) 200 k _ hk2 ⟨[],b,rfl,hk,by simp,rfl⟩ ?_
 rintro m ρ ⟨pre,x,rfl,hm,hp,e⟩
 have g1:x2 oIt (aT 2) (pe (xC (.int 1))) [.pu (dC O),.pu (.int b),.ow (.lst ((pre++[x]).map Da.int))]=some (.pu,.int x):=C7 (a:=.bo) (b:=.pu) pre x
 refine ⟨decide (x∈bW O),?_,fun q=>?_,fun q=>?_⟩
 ·rw [Es,u4,g1,show aT 0 [.pu (dC O),.pu (.int b),.ow (.lst ((pre++[x]).map Da.int))]=some (.pu,dC O) from rfl]
  dsimp only
  rw [GS]
  rfl
 ·have hx:x∉bW O:=of_decide_eq_false q
  rw [IS hx] at e
  rw [<- e]
  exact ou (d:=dT (pre++[x])) rfl rfl
 ·have hx:x∈bW O:=of_decide_eq_true q
  have hlt:=hO x hx
  obtain ⟨m',rfl⟩:∃ m',m=m'+1:=⟨m-1,by lia⟩
  have e':twF O (m'+1) x=x::twF O m' (cI O x):=by
   show x::(if x∈bW O then twF O m' (cI O x) else [])=_
   rw [if_pos hx]
  rw [e'] at e
  refine eM (ρ':=[.pu (dC O),.pu (.int b),.ow (.lst (((pre++[x])++[cI O x]).map Da.int))]) ?_ ⟨m',oM _,pre++[x],cI O x,rfl,by lia,by rw [aO,bx];lia,by rw [<- e,eB];rfl⟩
  have g2:x2 oIt (aT 0) (x2 oIt (aT 2) (pe (xC (.int 1)))) [.pu (dC O),.pu (.int b),.ow (.lst ((pre++[x]).map Da.int))]=some (.pu,.int (cI O x)):=by
   rw [u4,g1]
   exact pM hx (k:=.pu) (k':=.pu)
  rw [o7,g2,show ([.pu (dC O),.pu (.int b),.ow (.lst ((pre++[x]).map Da.int))]:Rho)[2]?=some (.ow (.lst ((pre++[x]).map Da.int))) from rfl]
  dsimp only
  rw [if_pos ⟨rfl,by rw [ab,aO,bx];lia⟩]
  simp only [bE]
  rfl
theorem zT {n:Int} {L:List PI} (Y:Yd n L):∀ t,∀ u∈dE (upp L) t,u∈rgI 0 n.toNat:=fun t u hu=>by
 have:=(Y.rg _ (((kn L).get t u).mp hu)).2
 dsimp only at this
 exact eQ.mpr (by lia)
theorem Dx {n:Int} {L:List PI} (Y:Yd n L) (h0:0<=n) (h12:n<=12) (hl:L.length<=1000):∃ U F B,fn_steps_of [dY n L]=some (dC U)/\Std (dE (upp L)) (rgI 0 n.toNat) U F B:=by
 obtain ⟨U,F,B,e,h⟩:=uZ (zT Y) (k:=13) (by rw [fm];lia) (rgI 0 n.toNat) [] [] [] [] (GV _)
 refine ⟨U,F,B,?_,h⟩
 show (match dQ (L.map dP) with | some L=>if L.length<=1000/\0<=n/\n<=12/\(L.all fun p=>decide (0<=p.2/\p.2<n))=true then (iY (dE (upp L)) 13 (rgI 0 n.toNat) []).map dC else none | none=>none)=_
 rw [mj]
 dsimp only
 rw [if_pos ⟨hl,h0,h12,cH.mpr fun p hp=>decide_eq_true (Y.rg p hp).2⟩,e]
 rfl
noncomputable def swp (U:List PI):List PI:=U.map fun e=>(e.2,e.1)
theorem Do (U:List PI):bW (swp U)=qo U:=by unfold bW swp qo;rw [aC];rfl
theorem zY {U:List PI} {a b:Int}:(a,b)∈swp U↔(b,a)∈U:=by
 unfold swp
 rw [az]
 constructor
 ·rintro ⟨e,he,h⟩
  cases h
  exact he
 ·exact fun h=>⟨(b,a),h,rfl⟩
theorem JK {n:Int} {L U:List PI} {F B:List Int} (h:Std (dE (upp L)) (rgI 0 n.toNat) U F B):Lnk L U (swp U)/\(bW (swp U)).Nodup:=by
 have nd:(bW (swp U)).Nodup:=by
  rw [Do]
  exact (bp.mp (h.pt.nodup_iff.mpr (d5 _ _))).1
 refine ⟨⟨fun x hx=>?_,fun u hu=>?_,fun u hu=>((kn L).get _ _).mp (h.ok u hu)⟩,nd⟩
 ·have:=zY.mp (sK hx)
  exact ⟨az.mpr ⟨_,this,rfl⟩,sv h.nd this⟩
 ·have:=zY.mpr (sK hu)
  exact ⟨az.mpr ⟨_,this,rfl⟩,sv nd this⟩
noncomputable def Mu (L:List PI) (x:Int):Nat:=(dE (upp L) x).length
noncomputable def mu (L:List PI) (x:Int):Nat:=(dE (low L) x).length
theorem Df {n:Int} {L:List PI} (Y:Yd n L):∀ a b,(a,b)∈L->Mu L b<Mu L a:=fun a b h=>by
 have:(b::dE (upp L) b).length<=(dE (upp L) a).length:=Ms.length_le_of_subset (be.mpr ⟨fun w=>Y.irr b (((kn L).get b b).mp w),(kn L).ndv b⟩) fun u hu=>by
  rcases ao.mp hu with e | e
  ·subst e;exact ((kn L).get a u).mpr h
  ·exact ((kn L).get a u).mpr (Y.tr _ _ _ h (((kn L).get b u).mp e))
 exact this
theorem Ga {n:Int} {L:List PI} (Y:Yd n L):∀ a b,(a,b)∈L->mu L a<mu L b:=fun a b h=>by
 have:(a::dE (low L) a).length<=(dE (low L) b).length:=Ms.length_le_of_subset (be.mpr ⟨fun w=>Y.irr a ((fJ L a a).mp w),xo L a⟩) fun u hu=>by
  rcases ao.mp hu with e | e
  ·subst e;exact (fJ L b u).mpr h
  ·exact (fJ L b u).mpr (Y.tr _ _ _ ((fJ L a u).mp e) h)
 exact this
theorem FG {n:Int} {L:List PI} (Y:Yd n L) (h12:n<=12) (x:Int):Mu L x<=12:=by
 have:=Ms.length_le_of_subset ((kn L).ndv x) (zT Y x)
 rw [fm] at this
 unfold Mu
 lia
noncomputable def qO (n:Int) (U:List PI):List Int:=(rgI 0 n.toNat).filter fun x=>decide (x∉bW U)
theorem Eb (U:List PI):pj (U.map fun e=>(au e.1:Key)) (U.map fun e=>Da.int e.2)=U.map dP:=by
 unfold pj
 rw [List.zip_map',aC]
 rfl
theorem zC {n:Int} {L:List PI} (Y:Yd n L) (h0:0<=n) (h12:n<=12) (hl:L.length<=1000):∃ (U:List PI) (X:List Int),fn_towers [dY n L]=some (.tup (((qO n U).map (twF (swp U) 12)).map dT))/\Lnk L U (swp U)/\X.Nodup/\(∀ x∈X,x∈rgI 0 n.toNat)/\(∀ x∈X,∀ y∈X,(x,y)∉L)/\(qO n U).length<=X.length:=by
 obtain ⟨U,F,B,hst,h⟩:=Dx Y h0 h12 hl
 obtain ⟨lk,nO⟩:=JK h
 have hkR:∀ u∈bW U,u∈rgI 0 n.toNat:=fun u hu=>zT Y _ u (h.ok u hu)
 obtain ⟨X,x1,x2',x3,x4,x5⟩:=h.anti (d5 _ _) hkR
 have hU:U.length<=12:=by
  have:=Ms.length_le_of_subset h.nd hkR
  rw [Dr,fm] at this
  lia
 refine ⟨U,X,?_,lk,x1,x2',fun x hx y hy z=>x3 x hx y hy (((kn L).get x y).mpr z),by unfold qO;lia⟩
 refine um ?_
 unfold g_towers
 have e0:fB 3 [dY n L]=[.pu (dY n L),.no,.no]:=rfl
 rw [e0]
 refine cZ (eM (ρ':=[.pu (dY n L),.pu (dC U),.no]) (by rw [i6,cJ (ds:=[dY n L]) rfl rfl hst];rfl) ?_)
 have hc:=pD (enc:=dP) (xs:=U) (ix:=[none,none,none]) (fi:=q5 (aT 1)) (i:=1) (j:=2) (c:=fun _=>some true) (f:=mz (aL (aT 2) (aL (aT 1) ck))) (ρ:=[.pu (dY n L),.pu (dC U),.no]) (p:=fun _=>true) (e:=fun e=>dP (e.2,e.1)) (a:=fun e=>.int e.1) (b:=fun e=>.int e.2)
  (by show some (pj _ _)=_;rw [Eb]) (by lia) (fun e he=>⟨rfl,fun _=>⟨(.pu,dP (e.2,e.1)),by simp [mpR,dP],rfl,rfl⟩⟩) (by decide) (fun _=>rfl)
 rw [dI] at hc
 refine cZ (eM (ρ':=[.pu (dY n L),.pu (dC U),.pu (dC (swp U))]) ?_ ?_)
 ·have hd:ni (fO [none,none,none] (q5 (aT 1)) (tgT 2 (fW (tgN 1) (fW (tgN 2) mo))) (fun _=>some true) (mz (aL (aT 2) (aL (aT 1) ck)))) [.pu (dY n L),.pu (dC U),.no]=some (.fr,dC (swp U)):=by
   unfold ni
   rw [hc,show (U.map fun e=>dP (e.2,e.1))=(swp U).map dP by unfold swp;rw [aC];rfl]
   dsimp only
   rw [mj]
   dsimp only
   rw [if_pos ⟨nO,by unfold swp;rw [ab];lia⟩]
   rfl
  rw [i6,nY,hd]
  rfl
 have hO:∀ x∈bW (swp U),Mu L (cI (swp U) x)<Mu L x:=fun x hx=>by
  obtain ⟨q1,q2⟩:=lk.nx x hx
  have:=lk.up _ q1
  rw [q2] at this
  exact Df Y _ _ this
 have hh:=dZ (enc:=Da.int) (xs:=rgI 0 n.toNat) (ix:=[none,none,none,some 2,some 1]) (fi:=nM (aL (x2 oIt (aT 0) (xC (.int 0))) ck)) (i:=1) (c:=tb (x2 (oIn true) (aT 1) (aT 4))) (f:=cC fn_tower_from (aL (aT 3) (aL (aT 1) ck))) (ρ:=[.pu (dY n L),.pu (dC U),.pu (dC (swp U))]) (p:=fun x=>decide (x∉bW U)) (e:=fun x=>dT (twF (swp U) 12 x))
  ?_ (by rw [fm];lia) fun x hx=>⟨?_,fun _=>⟨(.pu,dT (twF (swp U) 12 x)),?_,rfl,rfl⟩⟩
 ·refine ou (d:=.tup (((qO n U).map (twF (swp U) 12)).map dT)) ?_ rfl
  rw [g9,rY,b8,hh,dN]
  dsimp only
  rw [xS]
  unfold qO
  rw [aC]
  rfl
 ·show (if -(2 ^ 62)<=n/\n<2 ^ 62 then some (fE 0 n.toNat) else none)=_
  rw [if_pos (by lia),fw]
 ·have em:(mpR [none,none,none,some 2,some 1] [.pu (dY n L),.pu (dC U),.pu (dC (swp U))]).set 1 (.pu (.int x))=[.no,.pu (.int x),.no,.pu (dC (swp U)),.pu (dC U)]:=rfl
  rw [em,Es,u4,show aT 1 [.no,.pu (.int x),.no,.pu (dC (swp U)),.pu (dC U)]=some (.pu,.int x) from rfl,show aT 4 [.no,.pu (.int x),.no,.pu (dC (swp U)),.pu (dC U)]=some (.pu,dC U) from rfl]
  dsimp only
  rw [GS]
  simp
 ·have em:(mpR [none,none,none,some 2,some 1] [.pu (dY n L),.pu (dC U),.pu (dC (swp U))]).set 1 (.pu (.int x))=[.no,.pu (.int x),.no,.pu (dC (swp U)),.pu (dC U)]:=rfl
  rw [em]
  exact cJ (ds:=[dC (swp U),.int x]) rfl rfl (Hc hO (FG Y h12 x) (by decide))
theorem Az (L:List PI) (t:Int) (ts:List Int) (hl:ts.length<=1000):fn_stands_on_any [dU (upp L),.int t,.lst (ts.map Da.int)]=some (.bl (ts.any fun o=>decide ((o,t)∈L))):=by
 have hc:=dZ (enc:=Da.int) (xs:=ts) (ix:=[none,none,some 1,some 0]) (fi:=cB (ig (aT 2))) (i:=1) (c:=fun _=>some true) (f:=x2 (oIn false) (aT 2) (jE (aT 3) (aT 1) (xC2 (.fr,.dK [] [])))) (ρ:=[.pu (dU (upp L)),.pu (.int t),.pu (.lst (ts.map Da.int))]) (p:=fun _=>true) (e:=fun o=>.bl (decide ((o,t)∈L)))
  rfl (by lia) fun o ho=>⟨rfl,fun _=>⟨(.pu,.bl (decide ((o,t)∈L))),?_,rfl,rfl⟩⟩
 ·rw [dI] at hc
  refine lK (ρ:=[.pu (dU (upp L)),.pu (.int t),.pu (.lst (ts.map Da.int))]) rfl ?_
  unfold g_stands_on_any
  rw [g9,rY,b8,hc,dN]
  dsimp only
  rw [Gv]
 ·have em:(mpR [none,none,some 1,some 0] [.pu (dU (upp L)),.pu (.int t),.pu (.lst (ts.map Da.int))]).set 1 (.pu (.int o))=[.no,.pu (.int o),.pu (.int t),.pu (dU (upp L))]:=rfl
  have hd:decide (t∈dE (upp L) o)=decide ((o,t)∈L):=by rw [decide_eq_decide];exact (kn L).get o t
  rw [em,u4,show aT 2 [.no,.pu (.int o),.pu (.int t),.pu (dU (upp L))]=some (.pu,.int t) from rfl,pC,show aT 3 [.no,.pu (.int o),.pu (.int t),.pu (dU (upp L))]=some (.pu,dU (upp L)) from rfl,show aT 1 [.no,.pu (.int o),.pu (.int t),.pu (dU (upp L))]=some (.pu,.int o) from rfl,GU]
  dsimp only
  rw [v6]
  by_cases hk:o∈(upp L).map (·.1)
  ·rw [if_pos hk]
   dsimp only
   rw [Hv,hd]
   rfl
  ·rw [if_neg hk]
   dsimp only
   rw [<- hd,mG hk]
   exact Hv false .pu .fr [] t
noncomputable def Ks (L:List PI) (Ts:List (List Int)):List (List Int):=Ts.map fun T=>if (Ts.any fun S=>decide ((tip S,tip T)∈L))=true then T.dropLast else T
theorem DT (T:List Int):vK (T.map Da.int) none (some (-1))=T.dropLast.map Da.int:=by
 unfold vK
 rw [HT.sIx_none,ji,vq,ab]
 have:HT.sIx T.length T.length (some (-1))=T.length-1:=by
  show (if (-1:Int)<0 then ((-1:Int)+(T.length:Int)).toNat else min (-1:Int).toNat T.length)=T.length-1
  rw [if_pos (by decide)]
  lia
 rw [this,List.dropLast_eq_take,List.map_take]
theorem yC {L:List PI} {Ts:List (List Int)} (hne:∀ T∈Ts,T≠[]) (hl:Ts.length<=1000):fn_without_overtopping [dU (upp L),.lst (Ts.map dT)]=some (.lst ((Ks L Ts).map dT)):=by
 refine um ?_
 unfold g_without_overtopping
 have e0:fB 3 [dU (upp L),.lst (Ts.map dT)]=[.pu (dU (upp L)),.pu (.lst (Ts.map dT)),.no]:=rfl
 rw [e0]
 have hc:=dZ (enc:=dT) (xs:=Ts) (ix:=[none,none]) (fi:=cB (ig (aT 1))) (i:=1) (c:=fun _=>some true) (f:=x2 oIt (aT 1) (pe (xC (.int 1)))) (ρ:=[.pu (dU (upp L)),.pu (.lst (Ts.map dT)),.no]) (p:=fun _=>true) (e:=fun T=>.int (tip T))
  rfl (by lia) fun T hT=>⟨rfl,fun _=>⟨(.pu,.int (tip T)),wx (a:=.pu) (b:=.pu) (hne T hT),rfl,rfl⟩⟩
 rw [dI] at hc
 refine cZ (eM (ρ':=[.pu (dU (upp L)),.pu (.lst (Ts.map dT)),.pu (.lst ((Ts.map tip).map Da.int))]) (by rw [i6,hc,aC];rfl) ?_)
 have hh:=dZ (enc:=dT) (xs:=Ts) (ix:=[none,none,none,some 2,some 0]) (fi:=cB (ig (aT 1))) (i:=1) (c:=fun _=>some true) (f:=xIf (tTr (cC fn_stands_on_any (aL (aT 4) (aL (x2 oIt (aT 1) (pe (xC (.int 1)))) (aL (aT 3) ck))))) (kh (aT 1) pT (ot (pe (xC (.int 1))))) (aT 1)) (ρ:=[.pu (dU (upp L)),.pu (.lst (Ts.map dT)),.pu (.lst ((Ts.map tip).map Da.int))])
  (p:=fun _=>true) (e:=fun T=>dT (if (Ts.any fun S=>decide ((tip S,tip T)∈L))=true then T.dropLast else T)) rfl (by lia) fun T hT=>⟨rfl,fun _=>⟨(.pu,dT (if (Ts.any fun S=>decide ((tip S,tip T)∈L))=true then T.dropLast else T)),?_,rfl,rfl⟩⟩
 ·rw [dI] at hh
  refine ou (d:=.lst ((Ks L Ts).map dT)) ?_ rfl
  rw [g9,hh]
  unfold Ks
  rw [aC]
  rfl
 ·have em:(mpR [none,none,none,some 2,some 0] [.pu (dU (upp L)),.pu (.lst (Ts.map dT)),.pu (.lst ((Ts.map tip).map Da.int))]).set 1 (.pu (dT T))=[.no,.pu (dT T),.no,.pu (.lst ((Ts.map tip).map Da.int)),.pu (dU (upp L))]:=rfl
  rw [em]
  have g1:x2 oIt (aT 1) (pe (xC (.int 1))) [.no,.pu (dT T),.no,.pu (.lst ((Ts.map tip).map Da.int)),.pu (dU (upp L))]=some (.pu,.int (tip T)):=wx (a:=.pu) (b:=.pu) (hne T hT)
  have hs:=Az L (tip T) (Ts.map tip) (by rw [ab];lia)
  rw [vj] at hs
  have g2:cC fn_stands_on_any (aL (aT 4) (aL (x2 oIt (aT 1) (pe (xC (.int 1)))) (aL (aT 3) ck))) [.no,.pu (dT T),.no,.pu (.lst ((Ts.map tip).map Da.int)),.pu (dU (upp L))]=some (.pu,.bl (Ts.any fun S=>decide ((tip S,tip T)∈L))) :=
   cJ (ds:=[dU (upp L),.int (tip T),.lst ((Ts.map tip).map Da.int)]) (rs:=[(.pu,dU (upp L)),(.pu,.int (tip T)),(.pu,.lst ((Ts.map tip).map Da.int))]) (by rw [b8,b8,g1];rfl) rfl hs
  rw [LF,Ki,g2]
  dsimp only
  rw [Iv]
  cases Ts.any fun S=>decide ((tip S,tip T)∈L) with
  | true =>
    show slD none (some (-1)) (dT T)=_
    rw [if_pos rfl]
    show some (Kd.pu,Da.tup (vK (T.map Da.int) none (some (-1))))=_
    rw [DT]
    rfl
  | false=>rfl
theorem xG:∀ F K:List (List Int),dJ (gM (F.map dT)) (gM (K.map dT))=decide (F=K)
 | [],[]=>rfl
 | [],_::_=>rfl
 | _::_,[]=>rfl
 | p::F,q::K=>by
   show (dJ (gM (p.map Da.int)) (gM (q.map Da.int))&&dJ (gM (F.map dT)) (gM (K.map dT)))=_
   rw [xG F K,G17.eqvAll_J,cp]
   simp only [aU,decide_eq_true_eq,jQ]
theorem ss:∀ F:List (List Int),ce (gM (F.map dT))=true
 | []=>rfl
 | A::F=>by
   show (cD (toP (dT A))&&ce (gM (F.map dT)))=true
   rw [ss F,show (toP (dT A)).canLay0=true from GH.layAll_I A];rfl
theorem qX:∀ F:List (List Int),bD (gM (F.map dT))<=1
 | []=>by simp [gM,bD]
 | A::F=>by
   show max (dc (toP (dT A))) (bD (gM (F.map dT)))<=1
   have:=qX F
   have h:(toP (dT A)).depth=bD (gM (A.map Da.int))+1:=by simp [dT,toP,dc]
   rw [na] at h
   lia
theorem Jz (n:Bool) (a b:Kd) (F K:List (List Int)):oEq n (a,.lst (F.map dT)) (b,.lst (K.map dT))=some (.pu,.bl (if n then !decide (F=K) else decide (F=K))):=by
 have e:eqD (.lst (F.map dT)) (.lst (K.map dT))=decide (F=K):=xG F K
 have ok:Ay (.lst (F.map dT)) (.lst (K.map dT))=true:=by
  unfold Ay
  rw [show (toP (.lst (F.map dT))).canLay0=true from ss F,show (toP (.lst (K.map dT))).canLay0=true from ss K]
  have h:(toP (.lst (F.map dT))).depth=bD (gM (F.map dT))+1:=by simp [toP,dc]
  have:=qX F
  simp only [jO,jP,decide_eq_true_eq]
  lia
 unfold oEq
 rw [if_pos ok,e]
end GT
set_option linter.unusedSimpArgs false
namespace GT
open PySem L2 Ry G G3 GW GH GF
structure Dy (n:Int) (L:List PI) (c:Nat) (Ps:List (Int×List Int)):Prop where
 low:CI L Ps
 len:Ps.length=c
 rg:∀ e∈Ps,∀ y∈e.2,y∈rgI 0 n.toNat
theorem Dy.ne {n:Int} {L:List PI} {c:Nat} {Ps:List (Int×List Int)} (h:Dy n L c Ps):∀ T∈Ps.map (·.2),T≠[]:=fun T hT z=>by
 obtain ⟨e,he,rfl⟩:=az.mp hT
 have:=h.low.mem e he
 rw [z] at this
 cases this
theorem Dy.step {n:Int} {L:List PI} (Y:Yd n L) {c:Nat} {Ps:List (Int×List Int)} (h:Dy n L c Ps):Dy n L c (yi L Ps):=by
 refine ⟨h.low.step Y,by unfold yi;rw [ab];exact h.len,fun e he y hy=>?_⟩
 unfold yi at he
 obtain ⟨e',he',rfl⟩:=az.mp he
 dsimp only at hy
 split at hy
 ·exact h.rg e' he' y (List.dropLast_subset _ hy)
 ·exact h.rg e' he' y hy
theorem DO (L:List PI) (Ps:List (Int×List Int)):(yi L Ps).map (·.2)=Ks L (Ps.map (·.2)):=by
 unfold yi Ks
 rw [aC,aC]
 refine cY fun e _=>?_
 show (if (Ps.any fun f=>decide ((tip f.2,tip e.2)∈L))=true then e.2.dropLast else e.2)=if ((Ps.map (·.2)).any fun S=>decide ((tip S,tip e.2)∈L))=true then e.2.dropLast else e.2
 rw [vj]
 rfl
theorem E7:∀ {Ps Qs:List (Int×List Int)},Ps.map (·.1)=Qs.map (·.1)->Ps.map (·.2)=Qs.map (·.2)->Ps=Qs
 | [],[],_,_=>rfl
 | [],_::_,h,_=>by cases h
 | _::_,[],h,_=>by cases h
 | (a,b)::Ps,(c,d)::Qs,h1,h2=>by
   rw [ax,ax] at h1 h2
   injection h1 with h1 h1'
   injection h2 with h2 h2'
   dsimp only at h1 h2
   rw [h1,h2,E7 h1' h2']
theorem Dj (L:List PI) (Ps:List (Int×List Int)):(yi L Ps).map (·.1)=Ps.map (·.1):=by
 unfold yi
 rw [aC]
 rfl
theorem wd {n:Int} {L U:List PI} {X:List Int} (Y:Yd n L) (h0:0<=n) (h12:n<=12) (hl:L.length<=1000) (ht:fn_towers [dY n L]=some (.tup (((qO n U).map (twF (swp U) 12)).map dT))) (lk:Lnk L U (swp U)) (nX:X.Nodup) (rX:∀ x∈X,x∈rgI 0 n.toNat) (aX:∀ x∈X,∀ y∈X,(x,y)∉L) (hX:(qO n U).length<=X.length) :
 ∃ R:List Int,fn_broadest [dY n L]=some (dT R)/\(R.Pairwise fun a b=>Ms.ltI a b=true)/\R.length=(qO n U).length/\(∀ x∈R,x∈rgI 0 n.toNat)/\∀ x∈R,∀ y∈R,(x,y)∉L:=by
 have hk:=FG Y h12
 obtain ⟨P0,e0,low0⟩:=D5 Y lk (Ga Y) (Df Y) hk nX rX aX hX
 have e0:P0.map (·.2)=(qO n U).map (twF (swp U) 12):=e0
 have hperm:=zQ Y lk (Ga Y) (Df Y) hk
 have hperm:((qO n U).map (twF (swp U) 12)).flatten.Perm (rgI 0 n.toNat):=hperm
 have hbl:(qO n U).length<=12:=by
  have:=eS (fun x=>decide (x∉bW U)) (rgI 0 n.toNat)
  rw [fm] at this
  unfold qO
  lia
 have hlen0:P0.length=(qO n U).length:=by
  have:=congrArg gs e0
  rw [ab,ab] at this
  exact this
 have tot0:tot P0<=12:=by
  have h1:=hperm.length_eq
  rw [List.length_flatten,<- e0,fm,aC] at h1
  unfold tot
  have h2:(P0.map fun e=>e.2.length).sum=n.toNat:=h1
  lia
 have J0:Dy n L (qO n U).length P0:=⟨low0,hlen0,fun e he y hy=>by
  have:e.2∈(qO n U).map (twF (swp U) 12):=by rw [<- e0];exact az.mpr ⟨e,he,rfl⟩
  exact hperm.mem_iff.mp (kg.mpr ⟨e.2,this,hy⟩)⟩
 have key:∃ d,fn_broadest [dY n L]=some d/\∃ Ps:List (Int×List Int),Dy n L (qO n U).length Ps/\(∀ e∈Ps,∀ f∈Ps,(tip f.2,tip e.2)∉L)/\d=dT (Ms.srt Ms.ltI (Ps.map fun e=>tip e.2)):=by
  refine nQ ?_
  unfold g_broadest
  have es:fB 4 [dY n L]=[.pu (dY n L),.no,.no,.no]:=rfl
  rw [es]
  refine cZ (eM (ρ':=[.pu (dY n L),.pu (dU (upp L)),.no,.no]) ?_ ?_)
  ·have z1:cC fn_uppers_of (aL (x2 oIt (aT 0) (xC (.int 1))) ck) [.pu (dY n L),.no,.no,.no]=some (.pu,dU (upp L)):=cJ (ds:=[.tup (L.map dP)]) (rs:=[(.pu,.tup (L.map dP))]) (by simp [dY]) rfl (DA hl)
   rw [i6,z1]
   rfl
  refine cZ (eM (ρ':=[.pu (dY n L),.pu (dU (upp L)),.pu (.lst (([]:List (List Int)).map dT)),.no]) rfl ?_)
  refine cZ (eM (ρ':=[.pu (dY n L),.pu (dU (upp L)),.pu (.lst (([]:List (List Int)).map dT)),.pu (.lst ((P0.map (·.2)).map dT))]) ?_ ?_)
  ·have z1:cC fn_towers (aL (aT 0) ck) [.pu (dY n L),.pu (dU (upp L)),.pu (.lst (([]:List (List Int)).map dT)),.no]=some (.pu,.tup ((P0.map (·.2)).map dT)):=by rw [e0];exact cJ (ds:=[dY n L]) rfl rfl ht
   rw [i6,rY,b8,z1,dN]
   rfl
  refine cZ ?_
  refine oE (fun m ρ=>∃ (Bs:List (List Int)) (Ps:List (Int×List Int)),ρ=[.pu (dY n L),.pu (dU (upp L)),.pu (.lst (Bs.map dT)),.pu (.lst ((Ps.map (·.2)).map dT))]/\Dy n L (qO n U).length Ps/\((Bs=[]/\m=tot Ps+1)\/∃ Qs,Dy n L (qO n U).length Qs/\Bs=Qs.map (·.2)/\Ps=yi L Qs/\m=tot Qs)) 200 (tot P0+1) _ (by lia) ⟨[],P0,rfl,J0,.inl ⟨rfl,rfl⟩⟩ ?_
  rintro m ρ ⟨Bs,Ps,rfl,J,hB⟩
  have hPl:Ps.length<=12:=by rw [J.len];exact hbl
  refine ⟨!decide (Ps.map (·.2)=Bs),?_,fun q=>?_,fun q=>?_⟩
  ·rw [Es,u4,show aT 3 [.pu (dY n L),.pu (dU (upp L)),.pu (.lst (Bs.map dT)),.pu (.lst ((Ps.map (·.2)).map dT))]=some (.pu,.lst ((Ps.map (·.2)).map dT)) from rfl,show aT 2 [.pu (dY n L),.pu (dU (upp L)),.pu (.lst (Bs.map dT)),.pu (.lst ((Ps.map (·.2)).map dT))]=some (.pu,.lst (Bs.map dT)) from rfl]
   dsimp only
   rw [Jz]
   rfl
  ·have hq:Ps.map (·.2)=Bs:=by simpa using q
   have hfix:∀ e∈Ps,∀ f∈Ps,(tip f.2,tip e.2)∉L:=by
    rcases hB with ⟨rfl,_⟩ | ⟨Qs,JQ,rfl,rfl,_⟩
    ·intro e he
     rw [yc] at hq
     rw [hq] at he
     cases he
    ·have hpq:=E7 (Dj L Qs) hq
     rw [hpq]
     exact JQ.low.fix hpq
   have hc:=dZ (enc:=dT) (xs:=Ps.map (·.2)) (ix:=[none,none]) (fi:=cB (ig (aT 3))) (i:=1) (c:=fun _=>some true) (f:=x2 oIt (aT 1) (pe (xC (.int 1)))) (ρ:=[.pu (dY n L),.pu (dU (upp L)),.pu (.lst (Bs.map dT)),.pu (.lst ((Ps.map (·.2)).map dT))]) (p:=fun _=>true) (e:=fun T=>.int (tip T))
    rfl (by rw [ab];lia) fun T hT=>⟨rfl,fun _=>⟨(.pu,.int (tip T)),wx (a:=.pu) (b:=.pu) (J.ne T hT),rfl,rfl⟩⟩
   rw [dI] at hc
   have hm:((Ps.map (·.2)).map fun T=>Da.int (tip T))=(Ps.map fun e=>tip e.2).map Da.int:=by rw [aC,aC];rfl
   rw [hm] at hc
   have hs:xB eF (aL (fO [none,none] (cB (ig (aT 3))) (tgN 1) (fun _=>some true) (x2 oIt (aT 1) (pe (xC (.int 1))))) ck) [.pu (dY n L),.pu (dU (upp L)),.pu (.lst (Bs.map dT)),.pu (.lst ((Ps.map (·.2)).map dT))]=some (.fr,.lst ((Ms.srt Ms.ltI (Ps.map fun e=>tip e.2)).map Da.int)):=by
    rw [rY,b8,hc,dN]
    dsimp only
    unfold eF
    dsimp only
    rw [lv (by rw [ab];lia)]
   refine ou (d:=dT (Ms.srt Ms.ltI (Ps.map fun e=>tip e.2))) ?_ ⟨Ps,J,hfix,rfl⟩
   rw [g9,rY,b8,hs,dN]
   rfl
  ·have hq:¬ Ps.map (·.2)=Bs:=by simpa using q
   refine cZ (eM (ρ':=[.pu (dY n L),.pu (dU (upp L)),.pu (.lst ((Ps.map (·.2)).map dT)),.pu (.lst ((Ps.map (·.2)).map dT))]) rfl ?_)
   refine eM (ρ':=[.pu (dY n L),.pu (dU (upp L)),.pu (.lst ((Ps.map (·.2)).map dT)),.pu (.lst (((yi L Ps).map (·.2)).map dT))]) ?_ ⟨tot Ps,?_,Ps.map (·.2),yi L Ps,rfl,J.step Y,.inr ⟨Ps,J,rfl,rfl,rfl⟩⟩
   ·rw [i6,cJ (ds:=[dU (upp L),.lst ((Ps.map (·.2)).map dT)]) rfl rfl (yC J.ne (by rw [ab];lia)),DO]
    rfl
   ·rcases hB with ⟨_,rfl⟩ | ⟨Qs,JQ,rfl,rfl,rfl⟩
    ·exact oM _
    ·rcases zF L Qs Qs with z | z
     ·exact absurd (congrArg (fun l=>l.map (·.2)) (show yi L Qs=Qs from z)) hq
     ·exact z
 obtain ⟨d,ed,Ps,J,hfix,rfl⟩:=key
 have hp:=Ms.srt_perm (lt:=Ms.ltI) (Ps.map fun e=>tip e.2)
 refine ⟨_,ed,Ms.srt_strict Ms.linI J.low.tips,by rw [hp.length_eq,ab,J.len],fun x hx=>?_,fun x hx y hy=>?_⟩
 ·obtain ⟨e,he,rfl⟩:=az.mp (hp.mem_iff.mp hx)
  exact J.rg e he _ (vV (J.ne e.2 (az.mpr ⟨e,he,rfl⟩)))
 ·obtain ⟨e,he,rfl⟩:=az.mp (hp.mem_iff.mp hx)
  obtain ⟨f,hf,rfl⟩:=az.mp (hp.mem_iff.mp hy)
  exact hfix f hf e he
end GT
namespace GE
open GW
noncomputable def rm (P:List Int) (x:Int):List Int:=P.filter fun y=>decide (y≠x)
noncomputable def isT (r:Int->Int->Bool) (P:List Int) (x:Int):Bool:=P.all fun o=>!r x o
noncomputable def cT (r:Int->Int->Bool):Nat->List Int->Int
 | 0,_=>1
 | k+1,P=>sm P fun x=>if isT r P x=true then cT r k (rm P x) else 0
theorem kU {P:List Int} {x y:Int}:y∈rm P x↔y∈P/\y≠x:=by unfold rm;rw [aG,decide_eq_true_eq]
theorem ny {r:Int->Int->Bool} {P:List Int} {x:Int}:isT r P x=true↔∀ o∈P,r x o=false:=by
 unfold isT
 rw [cH]
 exact ⟨fun h o ho=>by simpa using h o ho,fun h o ho=>by simpa using h o ho⟩
theorem IH {P:List Int} (nd:P.Nodup) (x:Int):(rm P x).Nodup:=nd.sublist bF
theorem IM:∀ {P:List Int} {x:Int} {k:Nat},P.Nodup->x∈P->P.length=k+1->(rm P x).length=k:=by
 intro P x k nd hx hl
 have h:(x::rm P x).Perm P:=(eP (be.mpr ⟨fun z=>(kU.mp z).2 rfl,IH nd x⟩) nd).mpr fun y=>by
  rw [ao,kU]
  constructor
  ·rintro (rfl | ⟨z,_⟩)
   ·exact hx
   ·exact z
  ·intro z
   by_cases e:y=x
   ·exact .inl e
   ·exact .inr ⟨z,e⟩
 have:=h.length_eq
 rw [aI] at this
 lia
theorem CT {r:Int->Int->Bool} {P Q:List Int} (h:P.Perm Q) (x:Int):isT r P x=isT r Q x:=by
 rw [cp,ny,ny]
 exact ⟨fun z o ho=>z o (h.mem_iff.mpr ho),fun z o ho=>z o (h.mem_iff.mp ho)⟩
theorem Bt {r:Int->Int->Bool}:∀ (k:Nat) {P Q:List Int},P.Perm Q->cT r k P=cT r k Q
 | 0,_,_,_=>rfl
 | k+1,P,Q,h=>by
   show sm P _=sm Q _
   rw [we _ h]
   refine d4 fun x _=>?_
   rw [CT h x,Bt k (show (rm P x).Perm (rm Q x) from h.filter _)]
theorem EV {r q:Int->Int->Bool} {g:Int->Int}:∀ (k:Nat) (P:List Int),(∀ x∈P,∀ y∈P,q (g x) (g y)=r x y)->(∀ x∈P,∀ y∈P,g x=g y->x=y)->cT q k (P.map g)=cT r k P
 | 0,_,_,_=>rfl
 | k+1,P,h,inj=>by
   show sm (P.map g) _=sm P _
   have e:∀ f:Int->Int,sm (P.map g) f=sm P fun x=>f (g x):=fun f=>by unfold sm;rw [aC];rfl
   rw [e]
   refine d4 fun x hx=>?_
   have e1:isT q (P.map g) (g x)=isT r P x:=by
    rw [cp,ny,ny]
    constructor
    ·intro z o ho;rw [<- h x hx o ho];exact z _ (az.mpr ⟨o,ho,rfl⟩)
    ·intro z o ho
     obtain ⟨u,hu,rfl⟩:=az.mp ho
     rw [h x hx u hu];exact z u hu
   have e2:rm (P.map g) (g x)=(rm P x).map g:=by
    unfold rm
    rw [List.filter_map]
    congr 1
    refine ia fun y hy=>?_
    simp only [Function.comp]
    rw [cp,decide_eq_true_eq,decide_eq_true_eq]
    exact ⟨fun z w=>z (by rw [w]),fun z w=>z (inj y hy x hx w)⟩
   rw [e1,e2,EV k (rm P x) (fun a ha b hb=>h a (kU.mp ha).1 b (kU.mp hb).1) fun a ha b hb=>inj a (kU.mp ha).1 b (kU.mp hb).1]
theorem BI (A B:List Int) (x:Int):rm (A++B) x=rm A x++rm B x:=List.filter_append ..
theorem EG {A:List Int} {x:Int} (h:x∉A):rm A x=A:=List.filter_eq_self.mpr fun y hy=>by
 have:y≠x:=fun e=>h (e▸hy)
 simpa using this
end GE
namespace GE
open PySem L2 Ry G G3 GW GH GF GT
structure EW (n:Int) (L:List PI) (m:Nat):Prop where
 has:∃ Z:List Int,Z.Nodup/\(∀ x∈Z,x∈rgI 0 n.toNat)/\(∀ x∈Z,∀ y∈Z,(x,y)∉L)/\Z.length=m
 top:∀ Z:List Int,Z.Nodup->(∀ x∈Z,x∈rgI 0 n.toNat)->(∀ x∈Z,∀ y∈Z,(x,y)∉L)->Z.length<=m
theorem EW.le {n n':Int} {L L':List PI} {m m':Nat} (h:EW n L m) (h':EW n' L' m') {f:List Int->List Int} (hf:∀ Z:List Int,Z.Nodup->(∀ x∈Z,x∈rgI 0 n.toNat)->(∀ x∈Z,∀ y∈Z,(x,y)∉L)->(f Z).Nodup/\(∀ x∈f Z,x∈rgI 0 n'.toNat)/\(∀ x∈f Z,∀ y∈f Z,(x,y)∉L')/\(f Z).length=Z.length):m<=m':=by
 obtain ⟨Z,h1,h2,h3,h4⟩:=h.has
 obtain ⟨a,b,c,d⟩:=hf Z h1 h2 h3
 have:=h'.top _ a b c
 lia
theorem jz (p:Int->Bool):∀ Z:List Int,Z.length=(Z.filter p).length+(Z.filter fun z=>!p z).length
 | []=>rfl
 | z::Z=>by
   have:=jz p Z
   cases h:p z<;>simp [h]<;>lia
theorem EL {L:List PI}:∀ (Ts:List (List Int)) (Z:List Int),Z.Nodup->(∀ z∈Z,∃ T∈Ts,z∈T)->(∀ T∈Ts,∀ x∈T,∀ y∈T,x=y\/(x,y)∈L\/(y,x)∈L)->(∀ x∈Z,∀ y∈Z,(x,y)∉L)->Z.length<=Ts.length
 | [],Z,_,h,_,_=>by
   cases Z with
   | nil=>exact aw _
   | cons z Z=>obtain ⟨T,hT,_⟩:=h z ah;cases hT
 | T::Ts,Z,nd,h,hc,ha=>by
   have i1:=EL Ts (Z.filter fun z=>!decide (z∈T)) (nd.sublist bF) (fun z hz=>by
    obtain ⟨hz1,hz2⟩:=aG.mp hz
    obtain ⟨T',hT',hzT⟩:=h z hz1
    rcases ao.mp hT' with e | e
    ·subst e;simp [hzT] at hz2
    ·exact ⟨T',e,hzT⟩) (fun T' hT'=>hc T' (af _ hT')) fun x hx y hy=>ha x (aG.mp hx).1 y (aG.mp hy).1
   have i2:(Z.filter fun z=>decide (z∈T)).length<=1:=by
    have nd2:(Z.filter fun z=>decide (z∈T)).Nodup:=nd.sublist bF
    match e:Z.filter fun z=>decide (z∈T) with
    | []=>simp
    | [_]=>simp
    | a::b::r =>
      have ma:a∈Z.filter fun z=>decide (z∈T):=by rw [e];simp
      have mb:b∈Z.filter fun z=>decide (z∈T):=by rw [e];simp
      obtain ⟨a1,a2⟩:=aG.mp ma
      obtain ⟨b1,b2⟩:=aG.mp mb
      rw [e] at nd2
      rcases hc T ah a (of_decide_eq_true a2) b (of_decide_eq_true b2) with z | z | z
      ·have:=(be.mp nd2).1
       rw [z] at this
       simp at this
      ·exact absurd z (ha a a1 b b1)
      ·exact absurd z (ha b b1 a a1)
   have hs:Z.length=(Z.filter fun z=>decide (z∈T)).length+(Z.filter fun z=>!decide (z∈T)).length:=by
    exact jz _ Z
   rw [aI]
   lia
theorem EX {L:List PI}:∀ {T:List Int},(T.Pairwise fun a b=>(a,b)∈L)->∀ x∈T,∀ y∈T,x=y\/(x,y)∈L\/(y,x)∈L
 | [],_,x,hx,_,_=>by cases hx
 | a::T,h,x,hx,y,hy=>by
   obtain ⟨h1,h2⟩:=bI.mp h
   rcases ao.mp hx with e | hx2
   ·rcases ao.mp hy with e' | hy2
    ·exact .inl (e.trans e'.symm)
    ·rw [e];exact .inr (.inl (h1 y hy2))
   ·rcases ao.mp hy with e' | hy2
    ·rw [e'];exact .inr (.inr (h1 x hx2))
    ·exact EX h2 x hx2 y hy2
theorem Bn {n:Int} {L:List PI} (Y:Yd n L) (h0:0<=n) (h12:n<=12) (hl:L.length<=1000):∃ R:List Int,fn_broadest [dY n L]=some (dT R)/\EW n L R.length:=by
 obtain ⟨U,X,ht,lk,nX,rX,aX,hX⟩:=zC Y h0 h12 hl
 obtain ⟨R,hb,r1,r2,r3,r4⟩:=wd Y h0 h12 hl ht lk nX rX aX hX
 refine ⟨R,hb,⟨R,qS r1,r3,r4,rfl⟩,fun Z z1 z2 z3=>?_⟩
 have hperm:((qO n U).map (twF (swp U) 12)).flatten.Perm (rgI 0 n.toNat):=zQ Y lk (Ga Y) (Df Y) (FG Y h12)
 have:=EL (L:=L) ((qO n U).map (twF (swp U) 12)) Z z1 (fun z hz=>kg.mp (hperm.mem_iff.mpr (z2 z hz))) (fun T hT=>by
  obtain ⟨b,_,rfl⟩:=az.mp hT
  exact EX (pd Y lk 12 b)) z3
 rw [ab] at this
 lia
end GE
namespace GE
open PySem L2 Ry G G3 GW GH
theorem FP {A B:List Int} {b:Int} (nd:(A++b::B).Nodup):rm (A++b::B) b=A++B:=by
 have h:=bp.mp nd
 rw [BI,EG fun w=>h.2.2 b w b ah rfl]
 show A++List.filter _ (b::B)=_
 rw [ke (by simp)]
 show A++rm B b=_
 rw [EG (be.mp h.2.1).1]
theorem wF (f:List Int->Int):∀ (B A:List Int),(A++B).Nodup->sm (rgI (A.length:Int) B.length) (fun i=>f ((A++B).eraseIdx i.toNat))=sm B fun x=>f (rm (A++B) x)
 | [],A,_=>rfl
 | b::B,A,nd=>by
   have ih:=wF f B (A++[b]) (by simpa using nd)
   rw [aO,bx,eB,List.singleton_append] at ih
   show sm ((A.length:Int)::rgI ((A.length:Int)+1) B.length) _=_
   have e:(A++b::B).eraseIdx ((A.length:Nat):Int).toNat=A++B:=by
    rw [gc,List.eraseIdx_append_of_length_le (aw _),om];rfl
   rw [ff,ff,show ((A.length:Int)+1)=((A.length+1:Nat):Int) by lia,ih,FP nd,e]
noncomputable def rl (L:List PI) (a b:Int):Bool:=decide ((a,b)∈L)
theorem IX {n:Int} {L:List PI} (Y:Yd n L):∀ (k:Nat) (H:List Int),H.Nodup->H.length=k->hdB L H=true->wL (hdB L) H=cT (rl L) k H
 | 0,H,_,hl,hp=>by
   rw [gY] at hl
   subst hl
   rfl
 | k+1,H,nd,hl,hp=>by
   rw [EN hp (by intro z;subst z;simp at hl)]
   have h:=wF (wL (hdB L)) H [] (by simpa using nd)
   simp only [List.nil_append,dg,Int.natCast_zero] at h
   rw [h]
   show _=sm H fun x=>if isT (rl L) H x=true then cT (rl L) k (rm H x) else 0
   refine d4 fun x hx=>?_
   by_cases ht:isT (rl L) H x=true
   ·rw [if_pos ht]
    refine IX Y k (rm H x) (IH nd x) (IM nd hx hl) (lS.mpr fun y hy a ha=>kU.mpr ⟨lS.mp hp y (kU.mp hy).1 a ha,fun e=>?_⟩)
    subst e
    have:=ny.mp ht y (kU.mp hy).1
    rw [rl,decide_eq_false_iff_not] at this
    exact this ha
   ·rw [if_neg ht]
    refine Jh ?_
    cases q:hdB L (rm H x) with
    | false=>rfl
    | true =>
      refine absurd (ny.mpr fun o ho=>?_) ht
      rw [rl,decide_eq_false_iff_not]
      intro hxo
      have ne:o≠x:=fun e=>Y.irr x (e▸hxo)
      exact (kU.mp (lS.mp q o (kU.mpr ⟨ho,ne⟩) x hxo)).2 rfl
theorem xp {n:Int} {L:List PI} (Y:Yd n L) (h0:0<=n) (h5:n<=5) (hl:L.length<=1000):fn_lines [dY n L]=some (.int (cT (rl L) n.toNat (rgI 0 n.toNat))):=by
 rw [Dp Y h0 h5 hl,IX Y n.toNat _ (d5 _ _) (fm _ _) (lS.mpr fun x _ a ha=>?_)]
 have:=(Y.rg _ ha).1
 dsimp only at this
 exact eQ.mpr (by lia)
theorem Lo:Ms.Lin HT.lexLt:=⟨lm,pI,oT⟩
theorem Kx {S:List PI} (h:OkN S):HW (S.map dP)=some ((Ms.srt Ms.ltP S).map dP):=by
 unfold HW
 rw [vA]
 dsimp only
 rw [if_pos (IE h),Ms.srt_map (lt:=Ms.ltP) (fun a b=>BS a b),aC]
 rfl
theorem Hw {ts us:List (List Int)} (h1:ts.Nodup) (h2:us.Nodup) (h:∀ t,t∈ts↔t∈us):Ms.srt HT.lexLt ts=Ms.srt HT.lexLt us :=
 Ms.strict_ext Lo (Ms.srt_strict Lo h1) (Ms.srt_strict Lo h2) fun t=>by rw [(Ms.srt_perm _).mem_iff,(Ms.srt_perm _).mem_iff,h]
theorem K1 {R:List Int} (nd:R.Nodup) {b:Int} (hb:b∈R) (f:Int->Int):sm R (fun s=>f s*dl s b)=f b:=by
 rw [nL (a:=b) nd hb fun x _ hx=>by unfold dl;rw [if_neg hx,kI]]
 unfold dl
 rw [if_pos rfl,lM]
theorem LM {R:List Int} (nd:R.Nodup) {a:Int} (ha:a∈R) (f:Int->Int):sm R (fun s=>dl a s*f s)=f a:=by
 rw [nL (a:=a) nd ha fun x _ hx=>by unfold dl;rw [if_neg (Ne.symm hx),oq]]
 unfold dl
 rw [if_pos rfl,p3]
theorem GK {R:List Int} (nd:R.Nodup) {z w v:Int->Int->Int} (hl:∀ a∈R,∀ t∈R,sm R (fun s=>w a s*z s t)=dl a t) (hr:∀ a∈R,∀ b∈R,sm R (fun t=>z a t*v t b)=dl a b) {a b:Int} (ha:a∈R) (hb:b∈R):w a b=v a b:=by
 have e1:w a b=sm R fun s=>w a s*sm R fun t=>z s t*v t b:=by
  rw [<- K1 nd hb (w a)]
  exact d4 fun s hs=>by rw [hr s hs b hb]
 have e2:(sm R fun s=>w a s*sm R fun t=>z s t*v t b)=sm R fun t=>sm R fun s=>w a s*z s t*v t b:=by
  rw [v9]
  exact d4 fun s _=>by rw [<- uo];exact d4 fun t _=>(Int.mul_assoc _ _ _).symm
 rw [e1,e2,<- LM nd ha fun t=>v t b]
 exact d4 fun t ht=>by rw [Bf (v t b) (fun s=>w a s*z s t),hl a ha t ht]
theorem Lw (n:Bool) (a b:Kd) (i j:Int):oEq n (a,.int i) (b,.int j)=some (.pu,.bl (if n then !decide (i=j) else decide (i=j))):=by
 rw [JC]
 congr 3
theorem GQ {f g:Rho->Option Rv} {ρ:Rho} {k k':Kd} {i:Int} (hf:f ρ=some (k,.int i)) (hg:g ρ=some (k',.int i)):tb (x2 (oEq true) f g) ρ=some false:=by
 rw [Es,u4,hf,hg]
 dsimp only
 rw [Lw,decide_eq_true rfl]
 rfl
theorem Ew {f:Rho->Option Rv} {ρ:Rho} {k:Kd} {ds:List Da} (hf:f ρ=some (k,.tup ds)):xB sI (aL f ck) ρ=some (.pu,.int (ds.length:Int)):=by
 rw [rY,b8,hf,dN]
 rfl
end GE
namespace G16
open PySem L2 Ry G GW GH GF GT
noncomputable def g_yard_of:Rho->Res:=(fT (mz (aL (aT 0) (aL (xB hE (aL (xB eF (aL (aT 1) ck)) ck)) ck))))
noncomputable def fn_yard_of:List Da->Option Da:=jr 2 g_yard_of
noncomputable def g_renamed:Rho->Res:=(fT (cC fn_yard_of (aL (x2 oIt (aT 0) (xC (.int 0))) (aL (fO [none,none,none,some 1] (cB (ig (x2 oIt (aT 0) (xC (.int 1))))) (tgT 2 (fW (tgN 1) (fW (tgN 2) mo))) (fun _=>some true) (mz (aL (x2 oIt (aT 3) (aT 1)) (aL (x2 oIt (aT 3) (aT 2)) ck)))) ck))))
noncomputable def fn_renamed:List Da->Option Da:=jr 2 g_renamed
noncomputable def g__law_moved:Rho->Res:=(fT (fO [none,none,none,some 1] (cB (ig (aT 0))) (tgN 1) (fun _=>some true) (xB eF (aL (fO [none,none,some 3] (cB (ig (aT 1))) (tgN 1) (fun _=>some true) (x2 oIt (aT 2) (aT 1))) ck))))
noncomputable def fn__law_moved:List Da->Option Da:=jr 2 g__law_moved
noncomputable def g_law:Rho->Res:=(iP (nv 1 (cC fn__law_yard (aL (aT 0) (aL (xC (.int 0)) (aL (xC (.int 5)) ck)))))
 (iP (nv 2 (xB hE (aL (cC fn__law_perm (aL (cC fn__law_cell (aL (aT 0) (aL (xC (.int 3)) ck))) (aL (x2 oIt (aT 1) (xC (.int 0))) ck))) ck)))
 (iP (nv 3 (cC fn_renamed (aL (aT 1) (aL (aT 2) ck))))
 (iP (sIf (tb (x2 (oEq true) (aT 3) (mz (aL (x2 oIt (aT 1) (xC (.int 0))) (aL (xB hE (aL (xB j5 (aL (fO [none,none,none,some 2] (cB (ig (x2 oIt (aT 1) (xC (.int 1))))) (tgT 2 (fW (tgN 1) (fW (tgN 2) mo))) (fun _=>some true) (mz (aL (x2 oIt (aT 3) (aT 1)) (aL (x2 oIt (aT 3) (aT 2)) ck)))) ck)) ck)) ck))))) (fT (xC (.bl false))) m8)
 (iP (sIf (tb (x2 (oEq true) (cC fn__law_moved (aL (cC fn_floors (aL (aT 1) ck)) (aL (aT 2) ck))) (fO [none,none,none] (cB (ig (cC fn_floors (aL (aT 3) ck)))) (tgN 1) (fun _=>some true) (xB oZ (aL (aT 1) ck))))) (fT (xC (.bl false))) m8)
 (iP (sIf (tb (x2 (oEq true) (xB jj (aL (cC fn__law_moved (aL (cC fn_heads (aL (aT 1) ck)) (aL (aT 2) ck))) ck)) (xB jj (aL (fO [none,none,none] (cB (ig (cC fn_heads (aL (aT 3) ck)))) (tgN 1) (fun _=>some true) (xB oZ (aL (aT 1) ck))) ck)))) (fT (xC (.bl false))) m8)
 (iP (sIf (HZ (tb (x2 (oEq true) (cC fn_lines (aL (aT 3) ck)) (cC fn_lines (aL (aT 1) ck)))) (tb (x2 (oEq true) (xB sI (aL (cC fn_broadest (aL (aT 3) ck)) ck)) (xB sI (aL (cC fn_broadest (aL (aT 1) ck)) ck))))) (fT (xC (.bl false))) m8)
 (iP (qV (nM (aL (x2 oIt (aT 1) (xC (.int 0))) ck)) (tgN 4)
 (qV (nM (aL (x2 oIt (aT 1) (xC (.int 0))) ck)) (tgN 5)
 (sIf (tb (x2 (oEq true) (cC fn_weight (aL (aT 3) (aL (x2 oIt (aT 2) (aT 4)) (aL (x2 oIt (aT 2) (aT 5)) ck)))) (cC fn_weight (aL (aT 1) (aL (aT 4) (aL (aT 5) ck)))))) (fT (xC (.bl false))) m8)))
 (fT (xC (.bl true)))))))))))
noncomputable def fn_law:List Da->Option Da:=jr 6 g_law
end G16
namespace Ry
open PySem PySem.Spec PyProof.Rows L2
section
variable {X:Cx} {p pos:ft}
theorem qK {e:aS} {es:List aS} {g:Rho->Option (List Rv)} (hr:jf 2 X.A) (hg:Gl X "sorted") (hm:X.mg "sorted" = none) (ha:QXA X (e::es) g) (he:am (e::es) X.env=(false,b9 e X.env)::am es X.env:=by exact bR rfl) (hpl:(cz pos (am es X.env)).any (·.1)=false:=by rfl) :
 QX X (.Call (.Name "sorted" p) (e::es) [] pos) (xB jj g):=QX.mk (yK hr hg hm ha.out he hpl)
end
end Ry
set_option maxHeartbeats 8000000
namespace C
open PySem PySem.Spec PyProof.Rows L2 Ry
noncomputable def top (i:Nat):cX:=PySem.Challenge.pw_rankyard_k16_whole_numbered_anew.main.body.getD i (.Pass ⟨0,0,0,0⟩)
noncomputable abbrev kZ:cX:=top 1
noncomputable abbrev kO:cX:=top 2
noncomputable abbrev ii:cX:=top 4
noncomputable abbrev iW:cX:=top 5
noncomputable abbrev kL:cX:=top 6
noncomputable abbrev i8:cX:=top 8
noncomputable abbrev oQ:cX:=top 9
noncomputable abbrev iC:cX:=top 11
noncomputable abbrev o9:cX:=top 12
noncomputable abbrev iu:cX:=top 14
noncomputable abbrev mq:cX:=top 15
noncomputable abbrev mr:cX:=top 16
noncomputable abbrev fZ:cX:=top 18
noncomputable abbrev iS:cX:=top 19
noncomputable abbrev iz:cX:=top 20
noncomputable abbrev mK:cX:=top 21
noncomputable abbrev fV:cX:=top 22
noncomputable abbrev dO:cX:=top 23
noncomputable abbrev jG:cX:=top 24
noncomputable abbrev gL:cX:=top 26
noncomputable abbrev mm:cX:=top 27
noncomputable abbrev i5:cX:=top 29
noncomputable abbrev jK:cX:=top 30
noncomputable abbrev fY:cX:=top 31
noncomputable abbrev jy:cX:=top 32
noncomputable abbrev i7:cX:=top 33
noncomputable abbrev ir:cX:=top 34
noncomputable abbrev uD:cX:=top 35
structure Zs (mg:bM->Option ae):Prop where
 «all» : mg "all" = none
 «any» : mg "any" = none
 «dict» : mg "dict" = none
 «len» : mg "len" = none
 «list» : mg "list" = none
 «max» : mg "max" = none
 «range» : mg "range" = none
 «sorted» : mg "sorted" = none
 «sum» : mg "sum" = none
 «tuple» : mg "tuple" = none
section
variable {P:bC} {w:cf} {K:ac} {mg:bM->Option ae} {base:cy}
theorem yh (hf:fy K mg "yard_of" kZ) (Z:Zs mg)  : Ca P w K mg base "yard_of" ["count","pairs"] 1 2 G16.fn_yard_of:=qp (k:=0) (N:=["count","pairs"]) (g:=G16.g_yard_of) hf ⟨rfl,rfl,rfl,by decide +kernel,rfl,by decide +kernel,by decide +kernel⟩ rfl (fun _ _ _ _ _ _ us hl=>match us,hl with | [_,_],_=>rfl) fun _ _ _ _ _ _ _ hr hu hu1 nd =>
 (b7 (cE (i9 (aq (aE 0) (aq (g6 rfl Z.tuple (aq (jI rfl rfl Z.sorted (aq (aE 1) aP)) aP)) aP)))))
theorem yP (hf:fy K mg "renamed" kO) (Z:Zs mg) (C_yard_of:Ca P w K mg base "yard_of" ["count","pairs"] 1 2 G16.fn_yard_of):Ca P w K mg base "renamed" ["yard","places"] 2 2 G16.fn_renamed:=qp (k:=1) (N:=["yard","places"]) (g:=G16.g_renamed) hf ⟨rfl,rfl,rfl,by decide +kernel,rfl,by decide +kernel,by decide +kernel⟩ rfl (fun _ _ _ _ _ _ us hl=>match us,hl with | [_,_],_=>rfl) fun _ _ _ _ _ _ _ hr hu hu1 nd =>
 (b7 (cE (bK C_yard_of (hr.mono (by decide)) rfl (aq (cK hu1 (aE 0) cO) (aq (fD rfl (gB (ix:=[none,none,none,some 1]) rfl (by decide +kernel) rfl rfl) (e9 (fM (cK hu1 (aE 0) cO))) ⟨fun _ _ _=>(sf rfl (jk (cn (i:=1) (cnd (by decide +kernel))) (jk (cn (i:=2) (cnd (by decide +kernel))) ti))),fun _ _ _=>gQ,fun _ _ _=>(i9 (aq (cK hu1 (aE 3) (aE 1)) (aq (cK hu1 (aE 3) (aE 2)) aP)))⟩) aP)) (aR (aR cc)))))
theorem n5:g8 ["pairs","uppers","under","over"] ["pairs"] (bh ii):=⟨rfl,rfl,rfl,by decide +kernel,rfl,by decide +kernel,by decide +kernel⟩
theorem uS (hf:fy K mg "uppers_of" ii):Ca P w K mg base "uppers_of" ["pairs"] 1 1 Ry.fn_uppers_of:=by
 obtain ⟨a,fd,F,hm⟩:=hf
 refine ⟨a,fd,hm,F.kp,F.binds (fun _ _ _ _ _ _ us hl=>match us,hl with | [_],_=>rfl),?_⟩
 refine F.ok n5 (fun vs H Q E ⟨G,ds,d,hl,sg,_,dl,_⟩=>by rw [dl.length,hl];rfl) fun cdv A outer s H vs Q E hr ⟨G,ds,d,hl,sg,tg,dl,ef,k⟩=>?_
 have hu1:_+1<cr:=sF hr
 have nd:=n5.nd
 refine ⟨_,gN (qZ (i:=1) nd rfl (dX rfl) mD)
  (gN (wM bQ rfl (v7 (AQ (ki 0))) (EM rfl (sV (m9 (i:=2) nd rfl (dX rfl)) (sV (m9 (i:=3) nd rfl (dX rfl)) zA)))
    (gN (Dz (AR (u3 hu1 (pv 2) (pv 1))) (iZ (po hu1 (pv 1) (pv 2) mD rfl)) sH)
    (iZ (po hu1 (vP hu1 (pv 1) (pv 2) (fun _ _=>rfl)) (pv 3) Bq rfl))))
  (iZ (AI (pv 1)))),?_⟩
 exact wy hl sg tg dl ef k
theorem ua (hf:fy K mg "lowers_of" iW) (Z:Zs mg) (C_uppers_of:Ca P w K mg base "uppers_of" ["pairs"] 1 1 Ry.fn_uppers_of):Ca P w K mg base "lowers_of" ["pairs"] 2 1 GW.fn_lowers_of:=qp (k:=1) (N:=["pairs"]) (g:=GW.g_lowers_of) hf ⟨rfl,rfl,rfl,by decide +kernel,rfl,by decide +kernel,by decide +kernel⟩ rfl (fun _ _ _ _ _ _ us hl=>match us,hl with | [_],_=>rfl) fun _ _ _ _ _ _ _ hr hu hu1 nd =>
 (b7 (cE (bK C_uppers_of (hr.mono (by decide)) rfl (aq (fD rfl (gB (ix:=[none,none,none]) rfl (by decide +kernel) rfl rfl) (e9 (fM (aE 0))) ⟨fun _ _ _=>(sf rfl (jk (cn (i:=1) (cnd (by decide +kernel))) (jk (cn (i:=2) (cnd (by decide +kernel))) ti))),fun _ _ _=>gQ,fun _ _ _=>(i9 (aq (aE 2) (aq (aE 1) aP)))⟩) aP) (aR cc))))
theorem yy (hf:o3 K mg "upwards" kL) (hK:K.In base) (hB:Bm mg base) (Z:Zs mg)  : Ca P w K mg base "upwards" ["count","lowers"] 5 2 GW.fn_upwards:=II (k:=4) (N:=["count","lowers"]) (g:=GW.g_upwards) hf hK hB ⟨rfl,rfl,rfl,by decide +kernel,rfl,by decide +kernel,by decide +kernel⟩ rfl (fun _ _ _ _ _ _ us hl=>match us,hl with | [_,_],_=>rfl) fun f c P1 A outer s H E hCd hTb hr hu hu1 nd =>
 (b7 (cE (wu (i0:=0) (x:="thing") rfl (hr.mono (by decide)) rfl Z.sorted rfl Z.range ⟨rfl,hCd,hTb,hB⟩ ⟨⟨gB (ix:=[none,some 1,none]) rfl (by decide +kernel) rfl rfl,rfl,rfl,by decide +kernel,rfl⟩,rfl,fun _ _ _ _ _ _=>rfl,by
   intro q2 f2 c2 s2 H2
   refine EA (k:=1) hr fun hr=>?_
   have hu:=hr.units
   have hu1:_+1<cr:=sF hr
   exact (FS rfl Z.len (aq (lP hu1 (aE 1) (aE 0) lg) aP))⟩ (aq (aE 0) aP))))
theorem ui (hf:fy K mg "holds_all" i8) (Z:Zs mg)  : Ca P w K mg base "holds_all" ["head","things"] 1 2 GH.fn_holds_all:=qp (k:=0) (N:=["head","things"]) (g:=GH.g_holds_all) hf ⟨rfl,rfl,rfl,by decide +kernel,rfl,by decide +kernel,by decide +kernel⟩ rfl (fun _ _ _ _ _ _ us hl=>match us,hl with | [_,_],_=>rfl) fun _ _ _ _ _ _ _ hr hu hu1 nd =>
 (b7 (cE (Ky rfl rfl Z.all (aq (fD rfl (gB (ix:=[none,none,some 0]) rfl (by decide +kernel) rfl rfl) (e9 (fM (aE 1))) ⟨fun _ _ _=>(cn (i:=1) (cnd (by decide +kernel))),fun _ _ _=>gQ,fun _ _ _=>(LS (HI hu) (aE 1) (aE 2))⟩) aP))))
theorem DJ (hf:o3 K mg "heads" oQ) (hK:K.In base) (hB:Bm mg base) (Z:Zs mg) (C_holds_all:Ca P w K mg base "holds_all" ["head","things"] 1 2 GH.fn_holds_all) (C_lowers_of:Ca P w K mg base "lowers_of" ["pairs"] 2 1 GW.fn_lowers_of) (C_upwards:Ca P w K mg base "upwards" ["count","lowers"] 5 2 GW.fn_upwards):Ca P w K mg base "heads" ["yard"] 6 1 GH.fn_heads:=II (k:=5) (N:=["yard","lowers","found","thing","unders"]) (g:=GH.g_heads) hf hK hB ⟨rfl,rfl,rfl,by decide +kernel,rfl,by decide +kernel,by decide +kernel⟩ rfl (fun _ _ _ _ _ _ us hl=>match us,hl with | [_],_=>rfl) fun f c P1 A outer s H E hCd hTb hr hu hu1 nd =>
 (bP (eN (i:=1) nd (bK C_lowers_of (hr.mono (by decide)) rfl (aq (cK hu1 (aE 0) cO) aP) (aR cc)))
   (bP (eN (i:=2) nd (t0 (aq (i9 aP) aP)))
   (bP (iL bQ rfl (e9 (fM (bK C_upwards (hr.mono (by decide)) rfl (aq (cK hu1 (aE 0) cO) (aq (aE 1) aP)) (aR (aR cc))))) (cn (i:=3) nd)
   (bP (eN (i:=4) nd (fM (lP hu1 (aE 1) (aE 3) lg)))
   (b7 (eN (i:=2) nd (km (aE 2) (fD rfl (gB (ix:=[none,none,none,none,none,some 3,some 4]) rfl (by decide +kernel) rfl rfl) (e9 (fM (aE 2))) ⟨fun _ _ _=>(cn (i:=1) (cnd (by decide +kernel))),fun _ _ _=>(sN (xL (bK C_holds_all (hr.mono (by decide)) rfl (aq (aE 1) (aq (aE 6) aP)) (aR (aR cc))))),fun _ _ _=>(g6 rfl Z.tuple (aq (jI rfl rfl Z.sorted (aq (km (aE 1) (i9 (aq (aE 5) aP))) aP)) aP))⟩))))))
   (b7 (cE (g6 rfl Z.tuple (aq (vR (i0:=0) (x:="head") rfl (hr.mono (by decide)) rfl Z.sorted ⟨rfl,hCd,hTb,hB⟩ ⟨⟨gB (ix:=[none,none]) rfl (by decide +kernel) rfl rfl,rfl,rfl,by decide +kernel,rfl⟩,rfl,fun _ _ _ _ _ _=>rfl,by
     intro q2 f2 c2 s2 H2
     refine EA (k:=2) hr fun hr=>?_
     have hu:=hr.units
     have hu1:_+1<cr:=sF hr
     exact (i9 (aq (qL rfl Z.len (aq (aE 0) aP)) (aq (aE 0) aP)))⟩ (aE 2)) aP)))))))
theorem sY (hf:fy K mg "ways_up_to" iC) (Z:Zs mg)  : Ca P w K mg base "ways_up_to" ["ways","head"] 1 2 GH.fn_ways_up_to:=qp (k:=0) (N:=["ways","head"]) (g:=GH.g_ways_up_to) hf ⟨rfl,rfl,rfl,by decide +kernel,rfl,by decide +kernel,by decide +kernel⟩ rfl (fun _ _ _ _ _ _ us hl=>match us,hl with | [_,_],_=>rfl) fun _ _ _ _ _ _ _ hr hu hu1 nd =>
 (b7 (cE (EO rfl rfl Z.sum (aq (fD rfl (gB (ix:=[none,none,some 1,some 0]) rfl (by decide +kernel) rfl rfl) (gR rfl Z.range (aq (qL rfl Z.len (aq (aE 1) aP)) aP)) ⟨fun _ _ _=>(cn (i:=1) (cnd (by decide +kernel))),fun _ _ _=>gQ,fun _ _ _=>(lP hu1 (aE 3) (km (sZ (aE 2) rT (sQ (aE 1))) (sZ (aE 2) (sQ (km (aE 1) cO)) rT)) cO)⟩) aP))))
theorem Du (hf:fy K mg "lines" o9) (Z:Zs mg) (C_heads:Ca P w K mg base "heads" ["yard"] 6 1 GH.fn_heads) (C_ways_up_to:Ca P w K mg base "ways_up_to" ["ways","head"] 1 2 GH.fn_ways_up_to):Ca P w K mg base "lines" ["yard"] 7 1 GH.fn_lines:=qp (k:=6) (N:=["yard","ways","head"]) (g:=GH.g_lines) hf ⟨rfl,rfl,rfl,by decide +kernel,rfl,by decide +kernel,by decide +kernel⟩ rfl (fun _ _ _ _ _ _ us hl=>match us,hl with | [_],_=>rfl) fun _ _ _ _ _ _ _ hr hu hu1 nd =>
 (bP (lV (i:=1) nd (BB hu1 (i9 aP) cO))
   (bP (iL bQ rfl (e9 (fM (bK C_heads (hr.mono (by decide)) rfl (aq (aE 0) aP) (aR cc)))) (cn (i:=2) nd)
   (b7 (lI (xL (aE 2)) (b7 (pg (i:=1) hu (aE 2) (HM 1 (bK C_ways_up_to (hr.mono (by decide)) rfl (aq (aE 1) (aq (aE 2) aP)) (aR (aR cc)))))) jp)))
   (b7 (cE (cK hu1 (aE 1) (vZ rfl Z.tuple rfl Z.range (aq (cK hu1 (aE 0) cO) aP)))))))
theorem rZ (hf:fy K mg "heights_of" iu) (Z:Zs mg) (C_upwards:Ca P w K mg base "upwards" ["count","lowers"] 5 2 GW.fn_upwards):Ca P w K mg base "heights_of" ["count","lowers"] 6 2 GF.fn_heights_of:=qp (k:=5) (N:=["count","lowers","heights","thing"]) (g:=GF.g_heights_of) hf ⟨rfl,rfl,rfl,by decide +kernel,rfl,by decide +kernel,by decide +kernel⟩ rfl (fun _ _ _ _ _ _ us hl=>match us,hl with | [_,_],_=>rfl) fun _ _ _ _ _ _ _ hr hu hu1 nd =>
 (bP (lV (i:=2) nd lg)
   (bP (iL bQ rfl (e9 (fM (bK C_upwards (hr.mono (by decide)) rfl (aq (aE 0) (aq (aE 1) aP)) (aR (aR cc))))) (cn (i:=3) nd)
   (b7 (pg (i:=2) hu (aE 3) (km cO (Hr rfl rfl Z.max (CM 2 (fD rfl (gB (ix:=[none,none,some 2]) rfl (by decide +kernel) rfl rfl) (e9 (fM (lP hu1 (aE 1) (aE 3) lg))) ⟨fun _ _ _=>(cn (i:=1) (cnd (by decide +kernel))),fun _ _ _=>gQ,fun _ _ _=>(cK hu1 (aE 2) (aE 1))⟩)) (nP cO))))))
   (b7 (cE (aE 2)))))
theorem zy (hf:fy K mg "row_at" mq) (Z:Zs mg)  : Ca P w K mg base "row_at" ["heights","height"] 1 2 GF.fn_row_at:=qp (k:=0) (N:=["heights","height"]) (g:=GF.g_row_at) hf ⟨rfl,rfl,rfl,by decide +kernel,rfl,by decide +kernel,by decide +kernel⟩ rfl (fun _ _ _ _ _ _ us hl=>match us,hl with | [_,_],_=>rfl) fun _ _ _ _ _ _ _ hr hu hu1 nd =>
 (b7 (cE (g6 rfl Z.tuple (aq (fD rfl (gB (ix:=[none,none,some 1,some 0]) rfl (by decide +kernel) rfl rfl) (e9 (fM (jI rfl rfl Z.sorted (aq (aE 0) aP)))) ⟨fun _ _ _=>(cn (i:=1) (cnd (by decide +kernel))),fun _ _ _=>(sN (lD (Md hu) (cK hu1 (aE 3) (aE 1)) (aE 2))),fun _ _ _=>(aE 1)⟩) aP))))
theorem Ax (hf:fy K mg "floors" mr) (Z:Zs mg) (C_heights_of:Ca P w K mg base "heights_of" ["count","lowers"] 6 2 GF.fn_heights_of) (C_lowers_of:Ca P w K mg base "lowers_of" ["pairs"] 2 1 GW.fn_lowers_of) (C_row_at:Ca P w K mg base "row_at" ["heights","height"] 1 2 GF.fn_row_at):Ca P w K mg base "floors" ["yard"] 7 1 GF.fn_floors:=qp (k:=6) (N:=["yard","heights","rows","row"]) (g:=GF.g_floors) hf ⟨rfl,rfl,rfl,by decide +kernel,rfl,by decide +kernel,by decide +kernel⟩ rfl (fun _ _ _ _ _ _ us hl=>match us,hl with | [_],_=>rfl) fun _ _ _ _ _ _ _ hr hu hu1 nd =>
 (bP (eN (i:=1) nd (bK C_heights_of (hr.mono (by decide)) rfl (aq (cK hu1 (aE 0) cO) (aq (bK C_lowers_of (hr.mono (by decide)) rfl (aq (cK hu1 (aE 0) cO) aP) (aR cc)) aP)) (aR (aR cc))))
   (bP (lV (i:=2) nd (t0 aP))
   (bP (eN (i:=3) nd (bK C_row_at (hr.mono (by decide)) rfl (aq (aE 1) (aq cO aP)) (aR (aR cc))))
   (bP (pJ 200 bQ (xL (aE 3))
   (bP (nr (i:=2) (aE 3))
   (b7 (eN (i:=3) nd (bK C_row_at (hr.mono (by decide)) rfl (aq (aE 1) (aq (qL rfl Z.len (aq (aE 2) aP)) aP)) (aR (aR cc)))))))
   (b7 (cE (g6 rfl Z.tuple (aq (aE 2) aP))))))))
theorem mi:g8 ["uppers","thing","under_of","asked","upper"] ["uppers","thing","under_of","asked"] (bh fZ):=⟨rfl,rfl,rfl,by decide +kernel,rfl,by decide +kernel,by decide +kernel⟩
theorem mE {a:ak} {fd:dG} (F:Fun K "take_upper" "take_upper" fZ a fd) (hm:mg "take_upper" = some (.ref a)):∀ k:Nat,vF P w K mg base CX0 k a fd ["uppers","thing","under_of","asked"] (GT.spT K k)
 | 0=>⟨fun vs H Q E h=>by obtain ⟨_,_,_,_,_,_,_,_,_,_,_,_,rfl,_⟩:=h;rfl,fun A outer s H args us vs Q E hr he hb hv h=>by obtain ⟨_,_,_,_,_,_,_,_,_,_,_,_,_,_,_,_,_,_,_,_,_,e,_⟩:=h;cases e⟩
 | k+1=>by
   have ih:=mE F hm k
   have hb:sr K fd ["uppers","thing","under_of","asked"] []:=F.binds (fun _ _ _ _ _ _ us hl=>match us,hl with | [_,_,_,_],_=>rfl)
   refine F.ok mi (fun vs H Q E h=>by obtain ⟨_,_,_,_,_,_,_,_,_,_,_,_,rfl,_⟩:=h;rfl) fun cdv A outer s H vs Q E hr h=>?_
   have hu1:_+1<cr:=sF hr
   have nd:=mi.nd
   refine ⟨_,gN (wM bQ rfl (v7 (AQ (BD hu1 (ki 0) (ki 1) xD))) (m9 (i:=4) nd rfl (dX rfl))
    (gN (Dz (AR (J4 hu1 (pv 4) (pv 3))) (iZ vN) sH)
    (gN (po hu1 (pv 3) (pv 4) Bq rfl)
    (iZ (Dz (PW.pt (Is (AR (u3 hu1 (pv 4) (pv 2))) (Eu (Ku (vB ih hr rfl hm F.kp hb .nil GY (fX (pv 0) (fX (vP hu1 (pv 2) (pv 4) (fun _ _=>rfl)) (fX (pv 2) (fX (pv 3) kW)))))))))
      (gN (po hu1 (pv 2) (pv 4) (pv 1) rfl) (iZ (t8 Bq))) sH)))))
    (iZ (t8 Bq)),?_⟩
   exact GT.take_read h
theorem pQ:g8 ["yard","uppers","under_of","thing"] ["yard"] (bh iS):=⟨rfl,rfl,rfl,by decide +kernel,rfl,by decide +kernel,by decide +kernel⟩
theorem vM (hf:fy K mg "steps_of" iS) (ht:fy K mg "take_upper" fZ) (Z:Zs mg) (C_uppers_of:Ca P w K mg base "uppers_of" ["pairs"] 1 1 Ry.fn_uppers_of):Ca P w K mg base "steps_of" ["yard"] 15 1 GT.fn_steps_of:=by
 obtain ⟨a,fd,F,hm⟩:=hf
 obtain ⟨b,fb,Ft,hmt⟩:=ht
 have T:=mE (P:=P) (w:=w) (base:=base) Ft hmt 13
 have hbt:sr K fb ["uppers","thing","under_of","asked"] []:=Ft.binds (fun _ _ _ _ _ _ us hl=>match us,hl with | [_,_,_,_],_=>rfl)
 refine ⟨a,fd,hm,F.kp,F.binds (fun _ _ _ _ _ _ us hl=>match us,hl with | [_],_=>rfl),?_⟩
 refine F.ok (k:=14) pQ (fun vs H Q E ⟨G,ds,d,hl,sg,_,dl,_⟩=>by rw [dl.length,hl];rfl) fun cdv A outer s H vs Q E hr ⟨G,ds,d,hl,sg,tg,dl,ef,k⟩=>?_
 have hu1:_+1<cr:=sF hr
 have nd:=pQ.nd
 refine ⟨_,gN (qZ (i:=1) nd rfl (dX rfl) (rQ C_uppers_of (hr.mono (by decide)) rfl (jl (ww hu1 (ki 0) tW) nj) (aR cc)))
  (gN (qZ (i:=2) nd rfl (dX rfl) mD)
  (gN (wM bQ rfl (nD rfl Z.range (jl (ww hu1 (ki 0) tW) nj)) (m9 (i:=3) nd rfl (dX rfl))
    (iZ (Bb (vB T (hr.mono (by decide)) rfl hmt Ft.kp hbt .nil GY (fX (pv 1) (fX (pv 3) (fX (pv 2) (fX mD kW))))))))
  (iZ (AI (pv 2))))),?_⟩
 exact GT.steps_read sg tg dl ef k
theorem sj (hf:fy K mg "tower_from" iz) (Z:Zs mg)  : Ca P w K mg base "tower_from" ["over_of","bottom"] 1 2 GT.fn_tower_from:=qp (k:=0) (N:=["over_of","bottom","found"]) (g:=GT.g_tower_from) hf ⟨rfl,rfl,rfl,by decide +kernel,rfl,by decide +kernel,by decide +kernel⟩ rfl (fun _ _ _ _ _ _ us hl=>match us,hl with | [_,_],_=>rfl) fun _ _ _ _ _ _ _ hr hu hu1 nd =>
 (bP (lV (i:=2) nd (t0 (aq (aE 1) aP)))
   (bP (pJ 200 bQ (lD (HI hu) (cK hu1 (aE 2) (nP cO)) (aE 0))
   (b7 (nr (i:=2) (cK hu1 (aE 0) (cK hu1 (aE 2) (nP cO))))))
   (b7 (cE (g6 rfl Z.tuple (aq (aE 2) aP))))))
theorem Ai (hf:fy K mg "towers" mK) (Z:Zs mg) (C_steps_of:Ca P w K mg base "steps_of" ["yard"] 15 1 GT.fn_steps_of) (C_tower_from:Ca P w K mg base "tower_from" ["over_of","bottom"] 1 2 GT.fn_tower_from):Ca P w K mg base "towers" ["yard"] 16 1 GT.fn_towers:=qp (k:=15) (N:=["yard","under_of","over_of"]) (g:=GT.g_towers) hf ⟨rfl,rfl,rfl,by decide +kernel,rfl,by decide +kernel,by decide +kernel⟩ rfl (fun _ _ _ _ _ _ us hl=>match us,hl with | [_],_=>rfl) fun _ _ _ _ _ _ _ hr hu hu1 nd =>
 (bP (eN (i:=1) nd (bK C_steps_of (hr.mono (by decide)) rfl (aq (aE 0) aP) (aR cc)))
   (bP (eN (i:=2) nd (fM (AD rfl rfl Z.dict (fD rfl (gB (ix:=[none,none,none]) rfl (by decide +kernel) rfl rfl) (Bk (aE 1)) ⟨fun _ _ _=>(sf rfl (jk (cn (i:=1) (cnd (by decide +kernel))) (jk (cn (i:=2) (cnd (by decide +kernel))) ti))),fun _ _ _=>gQ,fun _ _ _=>(i9 (aq (aE 2) (aq (aE 1) aP)))⟩))))
   (b7 (cE (g6 rfl Z.tuple (aq (fD rfl (gB (ix:=[none,none,none,some 2,some 1]) rfl (by decide +kernel) rfl rfl) (gR rfl Z.range (aq (cK hu1 (aE 0) cO) aP)) ⟨fun _ _ _=>(cn (i:=1) (cnd (by decide +kernel))),fun _ _ _=>(sN (lD (Lr hu) (aE 1) (aE 4))),fun _ _ _=>(bK C_tower_from (hr.mono (by decide)) rfl (aq (aE 3) (aq (aE 1) aP)) (aR (aR cc)))⟩) aP))))))
theorem ox (hf:fy K mg "stands_on_any" fV) (Z:Zs mg)  : Ca P w K mg base "stands_on_any" ["uppers","thing","others"] 1 3 GT.fn_stands_on_any:=qp (k:=0) (N:=["uppers","thing","others"]) (g:=GT.g_stands_on_any) hf ⟨rfl,rfl,rfl,by decide +kernel,rfl,by decide +kernel,by decide +kernel⟩ rfl (fun _ _ _ _ _ _ us hl=>match us,hl with | [_,_,_],_=>rfl) fun _ _ _ _ _ _ _ hr hu hu1 nd =>
 (b7 (cE (Kq rfl rfl Z.any (aq (fD rfl (gB (ix:=[none,none,some 1,some 0]) rfl (by decide +kernel) rfl rfl) (e9 (fM (aE 2))) ⟨fun _ _ _=>(cn (i:=1) (cnd (by decide +kernel))),fun _ _ _=>gQ,fun _ _ _=>(LS (HI hu) (aE 2) (lP hu1 (aE 3) (aE 1) lg))⟩) aP))))
theorem kt (hf:fy K mg "without_overtopping" dO) (Z:Zs mg) (C_stands_on_any:Ca P w K mg base "stands_on_any" ["uppers","thing","others"] 1 3 GT.fn_stands_on_any):Ca P w K mg base "without_overtopping" ["uppers","lowered"] 2 2 GT.fn_without_overtopping:=qp (k:=1) (N:=["uppers","lowered","tips"]) (g:=GT.g_without_overtopping) hf ⟨rfl,rfl,rfl,by decide +kernel,rfl,by decide +kernel,by decide +kernel⟩ rfl (fun _ _ _ _ _ _ us hl=>match us,hl with | [_,_],_=>rfl) fun _ _ _ _ _ _ _ hr hu hu1 nd =>
 (bP (eN (i:=2) nd (fD rfl (gB (ix:=[none,none]) rfl (by decide +kernel) rfl rfl) (e9 (fM (aE 1))) ⟨fun _ _ _=>(cn (i:=1) (cnd (by decide +kernel))),fun _ _ _=>gQ,fun _ _ _=>(cK hu1 (aE 1) (nP cO))⟩))
   (b7 (cE (fD rfl (gB (ix:=[none,none,none,some 2,some 0]) rfl (by decide +kernel) rfl rfl) (e9 (fM (aE 1))) ⟨fun _ _ _=>(cn (i:=1) (cnd (by decide +kernel))),fun _ _ _=>gQ,fun _ _ _=>(Lg (xL (bK C_stands_on_any (hr.mono (by decide)) rfl (aq (aE 4) (aq (cK hu1 (aE 1) (nP cO)) (aq (aE 3) aP))) (aR (aR (aR cc))))) (sZ (aE 1) rT (sQ (nP cO))) (aE 1))⟩))))
theorem v3 (hf:fy K mg "broadest" jG) (Z:Zs mg) (C_towers:Ca P w K mg base "towers" ["yard"] 16 1 GT.fn_towers) (C_uppers_of:Ca P w K mg base "uppers_of" ["pairs"] 1 1 Ry.fn_uppers_of) (C_without_overtopping:Ca P w K mg base "without_overtopping" ["uppers","lowered"] 2 2 GT.fn_without_overtopping):Ca P w K mg base "broadest" ["yard"] 17 1 GT.fn_broadest:=qp (k:=16) (N:=["yard","uppers","before","lowered"]) (g:=GT.g_broadest) hf ⟨rfl,rfl,rfl,by decide +kernel,rfl,by decide +kernel,by decide +kernel⟩ rfl (fun _ _ _ _ _ _ us hl=>match us,hl with | [_],_=>rfl) fun _ _ _ _ _ _ _ hr hu hu1 nd =>
 (bP (eN (i:=1) nd (bK C_uppers_of (hr.mono (by decide)) rfl (aq (cK hu1 (aE 0) cO) aP) (aR cc)))
   (bP (eN (i:=2) nd (t0 aP))
   (bP (eN (i:=3) nd (vX rfl Z.list (aq (bK C_towers (hr.mono (by decide)) rfl (aq (aE 0) aP) (aR cc)) aP)))
   (bP (pJ 200 bQ (lD (HA hu) (aE 3) (aE 2))
   (bP (eN (i:=2) nd (aE 3))
   (b7 (eN (i:=3) nd (bK C_without_overtopping (hr.mono (by decide)) rfl (aq (aE 1) (aq (aE 2) aP)) (aR (aR cc)))))))
   (b7 (cE (g6 rfl Z.tuple (aq (jI rfl rfl Z.sorted (aq (fD rfl (gB (ix:=[none,none]) rfl (by decide +kernel) rfl rfl) (e9 (fM (aE 3))) ⟨fun _ _ _=>(cn (i:=1) (cnd (by decide +kernel))),fun _ _ _=>gQ,fun _ _ _=>(cK hu1 (aE 1) (nP cO))⟩) aP)) aP))))))))
theorem pS (hf:fy K mg "weights_from" gL) (Z:Zs mg) (C_lowers_of:Ca P w K mg base "lowers_of" ["pairs"] 2 1 GW.fn_lowers_of) (C_upwards:Ca P w K mg base "upwards" ["count","lowers"] 5 2 GW.fn_upwards):Ca P w K mg base "weights_from" ["yard","one"] 6 2 GW.fn_weights_from:=qp (k:=5) (N:=["yard","one","lowers","found","thing","unders"]) (g:=GW.g_weights_from) hf ⟨rfl,rfl,rfl,by decide +kernel,rfl,by decide +kernel,by decide +kernel⟩ rfl (fun _ _ _ _ _ _ us hl=>match us,hl with | [_,_],_=>rfl) fun _ _ _ _ _ _ _ hr hu hu1 nd =>
 (bP (eN (i:=2) nd (bK C_lowers_of (hr.mono (by decide)) rfl (aq (cK hu1 (aE 0) cO) aP) (aR cc)))
   (bP (lV (i:=3) nd (DI (aE 1) cO))
   (bP (iL bQ rfl (e9 (fM (bK C_upwards (hr.mono (by decide)) rfl (aq (cK hu1 (aE 0) cO) (aq (aE 2) aP)) (aR (aR cc))))) (cn (i:=4) nd)
   (bP (eN (i:=5) nd (fM (lP hu1 (aE 2) (aE 4) lg)))
   (b7 (lI (lD (HI hu) (aE 1) (aE 5)) (b7 (pg (i:=3) hu (aE 4) (nP (EO rfl rfl Z.sum (aq (fD rfl (gB (ix:=[none,none,some 3]) rfl (by decide +kernel) rfl rfl) (e9 (fM (aE 5))) ⟨fun _ _ _=>(cn (i:=1) (cnd (by decide +kernel))),fun _ _ _=>(sN (lD (HI hu) (aE 1) (aE 2))),fun _ _ _=>(cK hu1 (aE 2) (aE 1))⟩) aP))))) jp))))
   (b7 (cE (aE 3))))))
theorem AX (hf:fy K mg "weight" mm) (Z:Zs mg) (C_weights_from:Ca P w K mg base "weights_from" ["yard","one"] 6 2 GW.fn_weights_from):Ca P w K mg base "weight" ["yard","one","other"] 7 3 GW.fn_weight:=qp (k:=6) (N:=["yard","one","other"]) (g:=GW.g_weight) hf ⟨rfl,rfl,rfl,by decide +kernel,rfl,by decide +kernel,by decide +kernel⟩ rfl (fun _ _ _ _ _ _ us hl=>match us,hl with | [_,_,_],_=>rfl) fun _ _ _ _ _ _ _ hr hu hu1 nd =>
 (b7 (cE (lP hu1 (bK C_weights_from (hr.mono (by decide)) rfl (aq (aE 0) (aq (aE 1) aP)) (aR (aR cc))) (aE 2) cO)))
theorem uM (hf:fy K mg "_law_cell" i5) (Z:Zs mg)  : Ca P w K mg base "_law_cell" ["_law_script","_law_k"] 1 2 G.fn__law_cell:=qp (k:=0) (N:=["_law_script","_law_k"]) (g:=G.g__law_cell) hf ⟨rfl,rfl,rfl,by decide +kernel,rfl,by decide +kernel,by decide +kernel⟩ rfl (fun _ _ _ _ _ _ us hl=>match us,hl with | [_,_],_=>rfl) fun _ _ _ _ _ _ _ hr hu hu1 nd =>
 (bP (lI (lD (LP hu) (aE 1) (qL rfl Z.len (aq (aE 0) aP))) (b7 (cE (cK hu1 (aE 0) (aE 1)))) jp)
   (b7 (cE cO)))
theorem wb (hf:fy K mg "_law_mix" jK) (Z:Zs mg)  : Ca P w K mg base "_law_mix" ["_law_cell_here","_law_prime","_law_many"] 1 3 G.fn__law_mix:=qp (k:=0) (N:=["_law_cell_here","_law_prime","_law_many"]) (g:=G.g__law_mix) hf ⟨rfl,rfl,rfl,by decide +kernel,rfl,by decide +kernel,by decide +kernel⟩ rfl (fun _ _ _ _ _ _ us hl=>match us,hl with | [_,_,_],_=>rfl) fun _ _ _ _ _ _ _ hr hu hu1 nd =>
 (b7 (cE (ED (ED (BL (aE 0) cO) (aE 1)) (aE 2))))
theorem nK:g8 ["_law_cell_here","_law_many","_law_left"] ["_law_cell_here","_law_many"] (bh fY):=⟨rfl,rfl,rfl,by decide +kernel,rfl,by decide +kernel,by decide +kernel⟩
theorem tN (hf:fy K mg "_law_perm" fY) (Z:Zs mg) (C__law_mix:Ca P w K mg base "_law_mix" ["_law_cell_here","_law_prime","_law_many"] 1 3 G.fn__law_mix):Ca P w K mg base "_law_perm" ["_law_cell_here","_law_many"] 2 2 G.fn__law_perm:=by
 obtain ⟨a,fd,F,hm⟩:=hf
 refine ⟨a,fd,hm,F.kp,F.binds (fun _ _ _ _ _ _ us hl=>match us,hl with | [_,_],_=>rfl),?_⟩
 refine F.ok nK (fun vs H Q E ⟨Gp,ds,d,hl,sg,_,dl,_⟩=>by rw [dl.length,hl];rfl) fun cdv A outer s H vs Q E hr ⟨Gp,ds,d,hl,sg,tg,dl,ef,k⟩=>?_
 have hu1:_+1<cr:=sF hr
 have nd:=nK.nd
 have hps:PSs (xg CX0 P w K mg base ["_law_cell_here","_law_many","_law_left"] "_law_perm" (bh fY) a cdv A outer s H E).nox (cg fY) (oX (HX (tX K (lp (aL (aT 1) ck))) (mw 2))
  (HS (BV (mpS [none,none,none,some 0,some 2,some 1]) (iX K (nM (aL (aT 1) ck))) (mw 1) (fun _ H Q=>Q true H)
    (tBM K "list" A4 (ku 4) (o5 (tX K (cC G.fn__law_mix (aL (x2 n8 (aT 3) (x2 (oI uv (·*·)) (xC (.int 5)) (aT 1))) (aL (xC (.int 9967)) (aL (x2 (oI (fun _ _=>true) (·-·)) (aT 5) (aT 1)) ck))))) Kr))))):=by
  refine gN (qZ (i:=2) nd rfl (by first | exact dX rfl | exact d9 rfl) ?e1) (iZ (t8 ?e2))
  case e1=>exact ux rfl Z.list rfl Z.range (jl (ki 1) nj)
  case e2 =>
   refine DG rfl (gB (ix:=[none,none,none,some 0,some 2,some 1]) rfl (by decide +kernel) rfl rfl) ?i1 ?i2 ?i3 ?i4
   case i1=>exact nD rfl Z.range (jl (ki 1) nj)
   case i2=>exact fun s3 H3 fp3=>m9 (i:=1) (cnd (by decide +kernel)) rfl (dX rfl)
   case i3=>exact fun s3 H3 fp3=>Bx
   case i4 =>
    intro s3 H3 fp3
    refine Iw qy PySem.F.slot_list_pop PySem.F.type_list_pop DS ?o ?ar
    case o=>exact pv 4
    case ar=>exact fX (rQ C__law_mix (hr.mono (by decide)) rfl (jl (EY (ki 3) (Fb tW (ki 1))) (jl tW (jl (Jn (ki 5) (ki 1)) nj))) (aR (aR (aR cc)))) kW
 refine ⟨_,hps,?_⟩
 exact Au hl sg tg dl ef k
theorem wg (hf:fy K mg "_law_all" jy) (Z:Zs mg)  : Ca P w K mg base "_law_all" ["_law_count","_law_pairs"] 1 2 G.fn__law_all:=qp (k:=0) (N:=["_law_count","_law_pairs","_law_found","_law_pair","_law_c","_law_a","_law_b"]) (g:=G.g__law_all) hf ⟨rfl,rfl,rfl,by decide +kernel,rfl,by decide +kernel,by decide +kernel⟩ rfl (fun _ _ _ _ _ _ us hl=>match us,hl with | [_,_],_=>rfl) fun _ _ _ _ _ _ _ hr hu hu1 nd =>
 (bP (lV (i:=2) nd Dq)
   (bP (iL bQ rfl (e9 (fM (aE 1))) (cn (i:=3) nd)
   (b7 (pg (i:=2) hu (aE 3) t9)))
   (bP (iL bQ rfl (gR rfl Z.range (aq (aE 0) aP)) (cn (i:=4) nd)
   (b7 (iL bQ rfl (gR rfl Z.range (aq (aE 0) aP)) (cn (i:=5) nd)
   (b7 (iL bQ rfl (gR rfl Z.range (aq (aE 0) aP)) (cn (i:=6) nd)
   (b7 (lI (KC (HC (lD (HI hu) (i9 (aq (aE 5) (aq (aE 4) aP))) (aE 2)) (DE (lD (HI hu) (i9 (aq (aE 4) (aq (aE 6) aP))) (aE 2))))) (b7 (pg (i:=2) hu (i9 (aq (aE 5) (aq (aE 6) aP))) t9)) jp)))))))
   (b7 (cE (jI rfl rfl Z.sorted (aq (aE 2) aP)))))))
theorem uK (hf:fy K mg "_law_yard" i7) (Z:Zs mg) (C__law_all:Ca P w K mg base "_law_all" ["_law_count","_law_pairs"] 1 2 G.fn__law_all) (C__law_cell:Ca P w K mg base "_law_cell" ["_law_script","_law_k"] 1 2 G.fn__law_cell) (C__law_mix:Ca P w K mg base "_law_mix" ["_law_cell_here","_law_prime","_law_many"] 1 3 G.fn__law_mix) (C__law_perm:Ca P w K mg base "_law_perm" ["_law_cell_here","_law_many"] 2 2 G.fn__law_perm):Ca P w K mg base "_law_yard" ["_law_script","_law_k","_law_most"] 3 3 G.fn__law_yard:=qp (k:=2) (N:=["_law_script","_law_k","_law_most","_law_count","_law_share","_law_places","_law_told","_law_a","_law_b"]) (g:=G.g__law_yard) hf ⟨rfl,rfl,rfl,by decide +kernel,rfl,by decide +kernel,by decide +kernel⟩ rfl (fun _ _ _ _ _ _ us hl=>match us,hl with | [_,_,_],_=>rfl) fun _ _ _ _ _ _ _ hr hu hu1 nd =>
 (bP (eN (i:=3) nd (km cO (bK C__law_mix (hr.mono (by decide)) rfl (aq (bK C__law_cell (hr.mono (by decide)) rfl (aq (aE 0) (aq (aE 1) aP)) (aR (aR cc))) (aq cO (aq (aE 2) aP))) (aR (aR (aR cc))))))
   (bP (eN (i:=4) nd (km cO (bK C__law_mix (hr.mono (by decide)) rfl (aq (bK C__law_cell (hr.mono (by decide)) rfl (aq (aE 0) (aq (aE 1) aP)) (aR (aR cc))) (aq cO (aq cO aP))) (aR (aR (aR cc))))))
   (bP (eN (i:=5) nd (bK C__law_perm (hr.mono (by decide)) rfl (aq (bK C__law_cell (hr.mono (by decide)) rfl (aq (aE 0) (aq (km (aE 1) cO) aP)) (aR (aR cc))) (aq (aE 3) aP)) (aR (aR cc))))
   (bP (lV (i:=6) nd (t0 aP))
   (bP (iL bQ rfl (gR rfl Z.range (aq (aE 3) aP)) (cn (i:=7) nd)
   (b7 (iL bQ rfl (yo rfl Z.range (aq (km (aE 7) cO) (aq (aE 3) aP))) (cn (i:=8) nd)
   (b7 (lI (lD (LP hu) (bK C__law_mix (hr.mono (by decide)) rfl (aq (km (km (bK C__law_cell (hr.mono (by decide)) rfl (aq (aE 0) (aq (km (aE 1) cO) aP)) (aR (aR cc))) (BL cO (aE 7))) (BL cO (aE 8))) (aq cO (aq cO aP))) (aR (aR (aR cc)))) (aE 4)) (b7 (nr (i:=6) (i9 (aq (cK hu1 (aE 5) (aE 7)) (aq (cK hu1 (aE 5) (aE 8)) aP))))) jp)))))
   (b7 (HG 6 (cE (i9 (aq (aE 3) (aq (g6 rfl Z.tuple (aq (bK C__law_all (hr.mono (by decide)) rfl (aq (aE 3) (aq (aE 6) aP)) (aR (aR cc))) aP)) aP)))))))))))
theorem sP (hf:fy K mg "_law_moved" ir) (Z:Zs mg)  : Ca P w K mg base "_law_moved" ["_law_rows","_law_places"] 1 2 G16.fn__law_moved:=qp (k:=0) (N:=["_law_rows","_law_places"]) (g:=G16.g__law_moved) hf ⟨rfl,rfl,rfl,by decide +kernel,rfl,by decide +kernel,by decide +kernel⟩ rfl (fun _ _ _ _ _ _ us hl=>match us,hl with | [_,_],_=>rfl) fun _ _ _ _ _ _ _ hr hu hu1 nd =>
 (b7 (cE (fD rfl (gB (ix:=[none,none,none,some 1]) rfl (by decide +kernel) rfl rfl) (e9 (fM (aE 0))) ⟨fun _ _ _=>(cn (i:=1) (cnd (by decide +kernel))),fun _ _ _=>gQ,fun _ _ _=>(jI rfl rfl Z.sorted (aq (fD rfl (gB (ix:=[none,none,some 3]) rfl (by decide +kernel) rfl rfl) (e9 (fM (aE 1))) ⟨fun _ _ _=>(cn (i:=1) (cnd (by decide +kernel))),fun _ _ _=>gQ,fun _ _ _=>(cK hu1 (aE 2) (aE 1))⟩) aP))⟩)))
theorem Jw {fa:ak} {fd:dG} (F:Fun K "law" "law" uD fa fd) (Z:Zs mg) (C__law_cell:Ca P w K mg base "_law_cell" ["_law_script","_law_k"] 1 2 G.fn__law_cell) (C__law_moved:Ca P w K mg base "_law_moved" ["_law_rows","_law_places"] 1 2 G16.fn__law_moved) (C__law_perm:Ca P w K mg base "_law_perm" ["_law_cell_here","_law_many"] 2 2 G.fn__law_perm) (C__law_yard:Ca P w K mg base "_law_yard" ["_law_script","_law_k","_law_most"] 3 3 G.fn__law_yard) (C_broadest:Ca P w K mg base "broadest" ["yard"] 17 1 GT.fn_broadest) (C_floors:Ca P w K mg base "floors" ["yard"] 7 1 GF.fn_floors) (C_heads:Ca P w K mg base "heads" ["yard"] 6 1 GH.fn_heads) (C_lines:Ca P w K mg base "lines" ["yard"] 7 1 GH.fn_lines) (C_renamed:Ca P w K mg base "renamed" ["yard","places"] 2 2 G16.fn_renamed) (C_weight:Ca P w K mg base "weight" ["yard","one","other"] 7 3 GW.fn_weight):vF P w K mg base CX0 18 fa fd ["_law_script"] (spD K 1 G16.fn_law):=LK (k:=17) (N:=["_law_script","_law_yard_here","_law_places","_law_other","_law_a","_law_b"]) (g:=G16.g_law) F ⟨rfl,rfl,rfl,by decide +kernel,rfl,by decide +kernel,by decide +kernel⟩ rfl fun _ _ _ _ _ _ hr hu hu1 nd =>
 (bP (eN (i:=1) nd (bK C__law_yard (hr.mono (by decide)) rfl (aq (aE 0) (aq cO (aq cO aP))) (aR (aR (aR cc)))))
   (bP (eN (i:=2) nd (g6 rfl Z.tuple (aq (bK C__law_perm (hr.mono (by decide)) rfl (aq (bK C__law_cell (hr.mono (by decide)) rfl (aq (aE 0) (aq cO aP)) (aR (aR cc))) (aq (cK hu1 (aE 1) cO) aP)) (aR (aR cc))) aP)))
   (bP (eN (i:=3) nd (bK C_renamed (hr.mono (by decide)) rfl (aq (aE 1) (aq (aE 2) aP)) (aR (aR cc))))
   (bP (lI (lD (HA hu) (aE 3) (i9 (aq (cK hu1 (aE 1) cO) (aq (g6 rfl Z.tuple (aq (yt (hr.mono (by decide)) rfl Z.sorted (aq (fD rfl (gB (ix:=[none,none,none,some 2]) rfl (by decide +kernel) rfl rfl) (e9 (fM (cK hu1 (aE 1) cO))) ⟨fun _ _ _=>(sf rfl (jk (cn (i:=1) (cnd (by decide +kernel))) (jk (cn (i:=2) (cnd (by decide +kernel))) ti))),fun _ _ _=>gQ,fun _ _ _=>(i9 (aq (cK hu1 (aE 3) (aE 1)) (aq (cK hu1 (aE 3) (aE 2)) aP)))⟩) aP)) aP)) aP)))) (b7 (cE t9)) jp)
   (bP (lI (lD (HA hu) (bK C__law_moved (hr.mono (by decide)) rfl (aq (bK C_floors (hr.mono (by decide)) rfl (aq (aE 1) aP) (aR cc)) (aq (aE 2) aP)) (aR (aR cc))) (fD rfl (gB (ix:=[none,none,none]) rfl (by decide +kernel) rfl rfl) (e9 (fM (bK C_floors (hr.mono (by decide)) rfl (aq (aE 3) aP) (aR cc)))) ⟨fun _ _ _=>(cn (i:=1) (cnd (by decide +kernel))),fun _ _ _=>gQ,fun _ _ _=>(vX rfl Z.list (aq (aE 1) aP))⟩)) (b7 (cE t9)) jp)
   (bP (lI (lD (HA hu) (qK (hr.mono (by decide)) rfl Z.sorted (aq (bK C__law_moved (hr.mono (by decide)) rfl (aq (bK C_heads (hr.mono (by decide)) rfl (aq (aE 1) aP) (aR cc)) (aq (aE 2) aP)) (aR (aR cc))) aP)) (qK (hr.mono (by decide)) rfl Z.sorted (aq (fD rfl (gB (ix:=[none,none,none]) rfl (by decide +kernel) rfl rfl) (e9 (fM (bK C_heads (hr.mono (by decide)) rfl (aq (aE 3) aP) (aR cc)))) ⟨fun _ _ _=>(cn (i:=1) (cnd (by decide +kernel))),fun _ _ _=>gQ,fun _ _ _=>(vX rfl Z.list (aq (aE 1) aP))⟩) aP))) (b7 (cE t9)) jp)
   (bP (lI (KC (IJ (lD (HA hu) (bK C_lines (hr.mono (by decide)) rfl (aq (aE 3) aP) (aR cc)) (bK C_lines (hr.mono (by decide)) rfl (aq (aE 1) aP) (aR cc))) (FV (lD (HA hu) (qL rfl Z.len (aq (bK C_broadest (hr.mono (by decide)) rfl (aq (aE 3) aP) (aR cc)) aP)) (qL rfl Z.len (aq (bK C_broadest (hr.mono (by decide)) rfl (aq (aE 1) aP) (aR cc)) aP)))))) (b7 (cE t9)) jp)
   (bP (iL bQ rfl (gR rfl Z.range (aq (cK hu1 (aE 1) cO) aP)) (cn (i:=4) nd)
   (b7 (iL bQ rfl (gR rfl Z.range (aq (cK hu1 (aE 1) cO) aP)) (cn (i:=5) nd)
   (b7 (lI (lD (HA hu) (bK C_weight (hr.mono (by decide)) rfl (aq (aE 3) (aq (cK hu1 (aE 2) (aE 4)) (aq (cK hu1 (aE 2) (aE 5)) aP))) (aR (aR (aR cc)))) (bK C_weight (hr.mono (by decide)) rfl (aq (aE 1) (aq (aE 4) (aq (aE 5) aP))) (aR (aR (aR cc))))) (b7 (cE t9)) jp)))))
   (b7 (cE t9))))))))))
end
end C
namespace G16
open PySem L2 Ry G G3 GW GH GF GT GE
noncomputable def dL (H:List Int):Da:=.lst (H.map Da.int)
theorem xm:∀ F K:List (List Int),dJ (gM (F.map dL)) (gM (K.map dL))=decide (F=K)
 | [],[]=>rfl
 | [],_::_=>rfl
 | _::_,[]=>rfl
 | p::F,q::K=>by
   show (dJ (gM (p.map Da.int)) (gM (q.map Da.int))&&dJ (gM (F.map dL)) (gM (K.map dL)))=_
   rw [xm F K,G17.eqvAll_J,cp]
   simp only [aU,decide_eq_true_eq,jQ]
theorem tj:∀ F:List (List Int),ce (gM (F.map dL))=true
 | []=>rfl
 | A::F=>by
   show (cD (toP (dL A))&&ce (gM (F.map dL)))=true
   rw [tj F,show (toP (dL A)).canLay0=true from GH.layAll_I A];rfl
theorem qY:∀ F:List (List Int),bD (gM (F.map dL))<=1
 | []=>by simp [gM,bD]
 | A::F=>by
   show max (dc (toP (dL A))) (bD (gM (F.map dL)))<=1
   have:=qY F
   have h:(toP (dL A)).depth=bD (gM (A.map Da.int))+1:=by simp [dL,toP,dc]
   rw [na] at h
   lia
theorem EB (n:Bool) (a b:Kd) (F K:List (List Int)):oEq n (a,.lst (F.map dL)) (b,.lst (K.map dL))=some (.pu,.bl (if n then !decide (F=K) else decide (F=K))):=by
 have e:eqD (.lst (F.map dL)) (.lst (K.map dL))=decide (F=K):=xm F K
 have ok:Ay (.lst (F.map dL)) (.lst (K.map dL))=true:=by
  unfold Ay
  rw [show (toP (.lst (F.map dL))).canLay0=true from tj F,show (toP (.lst (K.map dL))).canLay0=true from tj K]
  have h:(toP (.lst (F.map dL))).depth=bD (gM (F.map dL))+1:=by simp [toP,dc]
  have:=qY F
  simp only [jO,jP,decide_eq_true_eq]
  lia
 unfold oEq
 rw [if_pos ok,e]
theorem Bh:∀ ts:List (List Int),yu (ts.map dL)=some ts
 | []=>rfl
 | t::ts=>by
   show (match gK (t.map Da.int),yu (ts.map dL) with | some ns,some ts=>some (ns::ts) | _,_=>none)=_
   rw [fS,Bh ts]
theorem zO {f:Rho->Option Rv} {ρ:Rho} {k:Kd} {ts:List (List Int)} (hf:f ρ=some (k,.lst (ts.map dL))) (h:OkN ts):xB jj (aL f ck) ρ=some (.fr,.lst ((Ms.srt HT.lexLt ts).map dL)):=by
 rw [rY,b8,hf,dN]
 dsimp only
 unfold jj
 dsimp only
 rw [Bh]
 dsimp only
 rw [if_pos h]
 rfl
structure Ren (n:Int) (g gi:Int->Int):Prop where
 i:∀ x∈rgI 0 n.toNat,g x∈rgI 0 n.toNat
 j:∀ x∈rgI 0 n.toNat,gi x∈rgI 0 n.toNat/\g (gi x)=x
 inj:∀ x∈rgI 0 n.toNat,∀ y∈rgI 0 n.toNat,g x=g y->x=y
noncomputable def gp (P:List Int) (i:Int):Int:=P.getD i.toNat 0
theorem CW {P:List Int} {n x:Int} (h:P.Perm (rgI 0 n.toNat)) (hx:x∈rgI 0 n.toNat):P[x.toNat]?=some (gp P x):=by
 have hl:P.length=n.toNat:=by rw [h.length_eq,fm]
 have:=eQ.mp hx
 exact gI (by lia) 0
theorem JP {P:List Int} {n:Int} (h:P.Perm (rgI 0 n.toNat)):∃ gi,Ren n (gp P) gi:=by
 have hl:P.length=n.toNat:=by rw [h.length_eq,fm]
 have nd:P.Nodup:=h.nodup_iff.mpr (d5 _ _)
 have ex:∀ x,∃ a,x∈rgI 0 n.toNat->a∈rgI 0 n.toNat/\gp P a=x:=fun x=>by
  by_cases hx:x∈rgI 0 n.toNat
  ·obtain ⟨k,hk,e⟩:=bT (h.mem_iff.mpr hx)
   refine ⟨(k:Int),fun _=>⟨eQ.mpr (by lia),?_⟩⟩
   unfold gp
   rw [gc,av,aj hk,e]
   rfl
  ·exact ⟨0,fun z=>absurd z hx⟩
 refine ⟨fun x=>eD (ex x),fun x hx=>h.mem_iff.mp (bJ (CW h hx)),fun x hx=>hZ (ex x) hx,fun x hx y hy e=>?_⟩
 have h1:=CW h hx
 have h2:=CW h hy
 rw [<- e] at h2
 have:=pH nd h1 h2
 have:=eQ.mp hx
 have:=eQ.mp hy
 lia
noncomputable def rn (g:Int->Int) (L:List PI):List PI:=Ms.srt Ms.ltP (L.map fun p=>(g p.1,g p.2))
section
variable {n:Int} {L:List PI} {g gi:Int->Int}
theorem jt (Y:Yd n L) {a b:Int} (h:(a,b)∈L):a∈rgI 0 n.toNat/\b∈rgI 0 n.toNat:=by
 have:=Y.rg _ h
 dsimp only at this
 exact ⟨eQ.mpr (by lia),eQ.mpr (by lia)⟩
theorem n6 {x y:Int}:(x,y)∈rn g L↔∃ a b,(a,b)∈L/\g a=x/\g b=y:=by
 unfold rn
 rw [(Ms.srt_perm _).mem_iff,az]
 constructor
 ·rintro ⟨⟨a,b⟩,h,e⟩
  injection e with e1 e2
  exact ⟨a,b,h,e1,e2⟩
 ·rintro ⟨a,b,h,e1,e2⟩
  exact ⟨(a,b),h,by rw [<- e1,<- e2]⟩
theorem GN (Y:Yd n L) (R:Ren n g gi) {a b:Int} (ha:a∈rgI 0 n.toNat) (hb:b∈rgI 0 n.toNat):(g a,g b)∈rn g L↔(a,b)∈L:=by
 rw [n6]
 constructor
 ·rintro ⟨c,d,h,e1,e2⟩
  rw [<- R.inj c (jt Y h).1 a ha e1,<- R.inj d (jt Y h).2 b hb e2]
  exact h
 ·exact fun h=>⟨a,b,h,rfl,rfl⟩
theorem JR (Y:Yd n L) (R:Ren n g gi):Yd n (rn g L) where
 srt:=Ms.srt_strict Ms.linP (bz.mpr (Y.nd.imp_of_mem fun {p q} hp hq ne e=>ne (by
  injection e with e1 e2
  exact j7 (R.inj _ (jt Y hp).1 _ (jt Y hq).1 e1) (R.inj _ (jt Y hp).2 _ (jt Y hq).2 e2))))
 rg:=fun p hp=>by
  obtain ⟨a,b,h,e1,e2⟩:=n6.mp (show (p.1,p.2)∈rn g L from hp)
  have h1:=eQ.mp (R.i a (jt Y h).1)
  have h2:=eQ.mp (R.i b (jt Y h).2)
  rw [e1] at h1
  rw [e2] at h2
  lia
 irr:=fun x h=>by
  obtain ⟨a,b,h,e1,e2⟩:=n6.mp h
  have:=R.inj a (jt Y h).1 b (jt Y h).2 (e1.trans e2.symm)
  subst this
  exact Y.irr a h
 tr:=fun x y z h1 h2=>by
  obtain ⟨a,b,h1,e1,e2⟩:=n6.mp h1
  obtain ⟨c,d,h2,e3,e4⟩:=n6.mp h2
  have:=R.inj b (jt Y h1).2 c (jt Y h2).1 (e2.trans e3.symm)
  subst this
  exact n6.mpr ⟨a,d,Y.tr _ _ _ h1 h2,e1,e4⟩
theorem KA:(rn g L).length=L.length:=by
 unfold rn
 rw [(Ms.srt_perm _).length_eq,ab]
theorem uz (R:Ren n g gi) {Z:List Int} (nd:Z.Nodup) (hz:∀ x∈Z,x∈rgI 0 n.toNat):(Z.map g).Nodup:=bz.mpr (nd.imp_of_mem fun {a b} ha hb ne e=>ne (R.inj a (hz a ha) b (hz b hb) e))
theorem xa (R:Ren n g gi):((rgI 0 n.toNat).map g).Perm (rgI 0 n.toNat):=(eP (uz R (d5 _ _) fun _ h=>h) (d5 _ _)).mpr fun x=>by
 rw [az]
 constructor
 ·rintro ⟨a,ha,rfl⟩
  exact R.i a ha
 ·exact fun hx=>⟨gi x,R.j x hx⟩
theorem CH (Y:Yd n L) (R:Ren n g gi):cT (rl (rn g L)) n.toNat (rgI 0 n.toNat)=cT (rl L) n.toNat (rgI 0 n.toNat):=by
 rw [<- Bt _ (xa R)]
 refine EV _ _ (fun x hx y hy=>?_) R.inj
 unfold rl
 rw [decide_eq_decide]
 exact GN Y R hx hy
theorem Fm (Y:Yd n L) (R:Ren n g gi) {m m':Nat} (h:EW n L m) (h':EW n (rn g L) m'):m'=m:=by
 refine lf (h'.le h (f:=gx gi) fun Z z1 z2 z3=>⟨?_,fun x hx=>?_,fun x hx y hy w=>?_,ab _⟩)
  (h.le h' (f:=gx g) fun Z z1 z2 z3=>⟨uz R z1 z2,fun x hx=>?_,fun x hx y hy w=>?_,ab _⟩)
 ·exact bz.mpr (z1.imp_of_mem fun {a b} ha hb ne e=>ne (by rw [<- (R.j a (z2 a ha)).2,e,(R.j b (z2 b hb)).2]))
 ·obtain ⟨a,ha,rfl⟩:=az.mp hx
  exact (R.j a (z2 a ha)).1
 ·obtain ⟨a,ha,rfl⟩:=az.mp hx
  obtain ⟨b,hb,rfl⟩:=az.mp hy
  have:=(GN Y R (R.j a (z2 a ha)).1 (R.j b (z2 b hb)).1).mpr w
  rw [(R.j a (z2 a ha)).2,(R.j b (z2 b hb)).2] at this
  exact z3 a ha b hb this
 ·obtain ⟨a,ha,rfl⟩:=az.mp hx
  exact R.i a (z2 a ha)
 ·obtain ⟨a,ha,rfl⟩:=az.mp hx
  obtain ⟨b,hb,rfl⟩:=az.mp hy
  exact z3 a ha b hb ((GN Y R (z2 a ha) (z2 b hb)).mp w)
theorem zS (Y:Yd n L) (R:Ren n g gi) {w v:Int->Int->Int} (T:Tri n L w) (r:∀ a b,(a,b)∈L->w a b = -(sm (dE (low L) b) (w a))) (T':Tri n (rn g L) v) (r':∀ a b,(a,b)∈rn g L->v a b = -(sm (dE (low (rn g L)) b) (v a))) {a b:Int} (ha:a∈rgI 0 n.toNat) (hb:b∈rgI 0 n.toNat):v (g a) (g b)=w a b:=by
 refine (GK (d5 _ _) (z:=zt L) (w:=w) (v:=fun x y=>v (g x) (g y)) (wz Y T r) (fun a ha b hb=>?_) ha hb).symm
 have h:=zw (JR Y R) T' r' (g a) (R.i a ha) (g b) (R.i b hb)
 rw [<- we _ (xa R)] at h
 have e:∀ f:Int->Int,sm ((rgI 0 n.toNat).map g) f=sm (rgI 0 n.toNat) fun x=>f (g x):=fun f=>by unfold sm;rw [aC];rfl
 rw [e] at h
 have ed:dl (g a) (g b)=dl a b:=by
  unfold dl
  by_cases z:a=b
  ·rw [z,if_pos rfl,if_pos rfl]
  ·rw [if_neg z,if_neg fun q=>z (R.inj a ha b hb q)]
 rw [<- ed,<- h]
 refine d4 fun t ht=>?_
 have:zt (rn g L) (g a) (g t)=zt L a t:=by
  unfold zt
  by_cases z:a=t\/(a,t)∈L
  ·rw [if_pos z,if_pos (z.imp (fun q=>by rw [q]) (GN Y R ha ht).mpr)]
  ·rw [if_neg z,if_neg fun q=>z (q.imp (R.inj a ha t ht) (GN Y R ha ht).mp)]
 rw [this]
theorem JE (Y:Yd n L) (R:Ren n g gi) {C C':List PI} (p:(bW C).Perm (rgI 0 n.toNat)) (h:Hts L C) (p':(bW C').Perm (rgI 0 n.toNat)) (h':Hts (rn g L) C'):∀ (k:Nat) (x:Int),x∈rgI 0 n.toNat->cI C x=(k:Int)->cI C x<=cI C' (g x)
 | 0,x,hx,e=>by
   rw [e]
   exact h'.ge (p'.mem_iff.mpr (R.i x hx))
 | k+1,x,hx,e=>by
   rcases h.dn x (p.mem_iff.mpr hx) with z | ⟨_,a,ha,hq⟩
   ·lia
   ·have:=JE Y R p h p' h' k a (jt Y ha).1 (by lia)
    have:=(h'.up (g x) (p'.mem_iff.mpr (R.i x hx)) (g a) ((GN Y R (jt Y ha).1 hx).mpr ha)).2
    lia
theorem JI (Y:Yd n L) (R:Ren n g gi) {C C':List PI} (p:(bW C).Perm (rgI 0 n.toNat)) (h:Hts L C) (p':(bW C').Perm (rgI 0 n.toNat)) (h':Hts (rn g L) C'):∀ (k:Nat) (x:Int),x∈rgI 0 n.toNat->cI C' (g x)=(k:Int)->cI C' (g x)<=cI C x
 | 0,x,hx,e=>by
   rw [e]
   exact h.ge (p.mem_iff.mpr hx)
 | k+1,x,hx,e=>by
   rcases h'.dn (g x) (p'.mem_iff.mpr (R.i x hx)) with z | ⟨_,y,hy,hq⟩
   ·lia
   ·obtain ⟨a,b,hab,e1,e2⟩:=n6.mp hy
    have:=R.inj b (jt Y hab).2 x hx e2
    subst this
    subst e1
    have:=JI Y R p h p' h' k a (jt Y hab).1 (by lia)
    have:=(h.up b (p.mem_iff.mpr hx) a hab).2
    lia
theorem Jv (Y:Yd n L) (R:Ren n g gi) {C C':List PI} (p:(bW C).Perm (rgI 0 n.toNat)) (h:Hts L C) (p':(bW C').Perm (rgI 0 n.toNat)) (h':Hts (rn g L) C') (k:Int):srI ((lW n C k).map g)=lW n C' k:=by
 have e:∀ x∈rgI 0 n.toNat,cI C' (g x)=cI C x:=fun x hx=>by
  have h1:=h.ge (p.mem_iff.mpr hx)
  have h2:=h'.ge (p'.mem_iff.mpr (R.i x hx))
  exact Int.le_antisymm (JI Y R p h p' h' (cI C' (g x)).toNat x hx (by lia)) (JE Y R p h p' h' (cI C x).toNat x hx (by lia))
 refine Ms.strict_ext Ms.linI (Ms.srt_strict Ms.linI (uz R ((d5 _ _).sublist bF) fun x hx=>(jo.mp hx).1)) ((iy _ _).sublist bF) fun x=>?_
 rw [g5,az]
 constructor
 ·rintro ⟨a,ha,rfl⟩
  obtain ⟨h1,h2⟩:=jo.mp ha
  exact jo.mpr ⟨R.i a h1,by rw [e a h1];exact h2⟩
 ·intro hx
  obtain ⟨h1,h2⟩:=jo.mp hx
  refine ⟨gi x,jo.mpr ⟨(R.j x h1).1,?_⟩,(R.j x h1).2⟩
  rw [<- e _ (R.j x h1).1,(R.j x h1).2]
  exact h2
theorem Fv {Z:List Int} (h:srI Z=[]):Z=[]:=by
 have:=(Ms.srt_perm (lt:=Ms.ltI) Z).length_eq
 have h:Ms.srt Ms.ltI Z=[]:=h
 rw [h] at this
 exact gY.mp this.symm
theorem FA (Y:Yd n L) (R:Ren n g gi) (t:List Int):GD (rn g L) (rgI 0 n.toNat) t↔∃ K,GD L (rgI 0 n.toNat) K/\srI (K.map g)=t:=by
 constructor
 ·intro h
  refine ⟨(rgI 0 n.toNat).filter fun x=>decide (g x∈t),⟨(iy _ _).sublist bF,fun x hx=>(aG.mp hx).1,fun x hx a ha=>?_⟩,?_⟩
  ·obtain ⟨h1,h2⟩:=aG.mp hx
   exact aG.mpr ⟨(jt Y ha).1,decide_eq_true (h.cl _ (of_decide_eq_true h2) _ ((GN Y R (jt Y ha).1 h1).mpr ha))⟩
  ·refine Ms.strict_ext Ms.linI (Ms.srt_strict Ms.linI (uz R ((d5 _ _).sublist bF) fun x hx=>(aG.mp hx).1)) h.ris fun x=>?_
   rw [g5,az]
   constructor
   ·rintro ⟨a,ha,rfl⟩
    exact of_decide_eq_true (aG.mp ha).2
   ·intro hx
    have:=R.j x (h.sub x hx)
    exact ⟨gi x,aG.mpr ⟨this.1,decide_eq_true (by rw [this.2];exact hx)⟩,this.2⟩
 ·rintro ⟨K,hK,rfl⟩
  refine ⟨Ms.srt_strict Ms.linI (uz R (qS hK.ris) hK.sub),fun x hx=>?_,fun x hx y hy=>?_⟩
  ·obtain ⟨a,ha,rfl⟩:=az.mp (g5.mp hx)
   exact R.i a (hK.sub a ha)
  ·obtain ⟨a,ha,rfl⟩:=az.mp (g5.mp hx)
   obtain ⟨c,d,hcd,e1,e2⟩:=n6.mp hy
   have:=R.inj d (jt Y hcd).2 a (hK.sub a ha) e2
   subst this
   exact g5.mpr (az.mpr ⟨c,hK.cl _ ha c hcd,e1⟩)
theorem GM (R:Ren n g gi) {A B:List Int} (ha:A.Pairwise fun a b=>Ms.ltI a b=true) (sa:∀ x∈A,x∈rgI 0 n.toNat) (hb:B.Pairwise fun a b=>Ms.ltI a b=true) (sb:∀ x∈B,x∈rgI 0 n.toNat) (e:srI (A.map g)=srI (B.map g)):A=B:=by
 have sub:∀ {A B:List Int},(∀ x∈A,x∈rgI 0 n.toNat)->(∀ x∈B,x∈rgI 0 n.toNat)->srI (A.map g)=srI (B.map g)->∀ x∈A,x∈B:=fun {A B} sa sb e x hx=>by
  have:g x∈srI (A.map g):=g5.mpr (az.mpr ⟨x,hx,rfl⟩)
  rw [e] at this
  obtain ⟨y,hy,ey⟩:=az.mp (g5.mp this)
  rw [<- R.inj y (sb y hy) x (sa x hx) ey]
  exact hy
 exact Ms.strict_ext Ms.linI ha hb fun x=>⟨sub sa sb e x,sub sb sa e.symm x⟩
end
theorem yD {m:Int} {S:List PI} (h:S.length<64):fn_yard_of [.int m,.lst (S.map dP)]=some (dY m (Ms.srt Ms.ltP S)):=by
 have hso:eF [(Kd.pu,Da.lst (S.map dP))]=some (.fr,.lst ((Ms.srt Ms.ltP S).map dP)):=by
  unfold eF
  dsimp only
  rw [wn h]
 refine lK (ρ:=[.pu (.int m),.pu (.lst (S.map dP))]) rfl ?_
 simp [g_yard_of,hso,dY]
theorem uW {P:List Int} {n x:Int} {a b:Kd} (h:P.Perm (rgI 0 n.toNat)) (hx:x∈rgI 0 n.toNat):oIt (a,dT P) (b,.int x)=some (.pu,.int (gp P x)):=Fl (eQ.mp hx).1 (by rw [aA,CW h hx];rfl)
theorem A3 {ρ:Rho} {ix:List (Option Nat)} {n:Int} {P:List Int} {L:List PI} {fi:Rho->Option (List Da)} (hm:mpR ix ρ=[.no,.no,.no,.pu (dT P)]) (hP:P.Perm (rgI 0 n.toNat)) (Y:Yd n L) (h:fi ρ=some (L.map dP)) (hl:L.length<=1000) :
 fO ix fi (tgT 2 (fW (tgN 1) (fW (tgN 2) mo))) (fun _=>some true) (mz (aL (x2 oIt (aT 3) (aT 1)) (aL (x2 oIt (aT 3) (aT 2)) ck))) ρ=some (.fr,.lst ((L.map fun p=>(gp P p.1,gp P p.2)).map dP)):=by
 have hc:=pD (enc:=dP) (xs:=L) (ix:=ix) (fi:=fi) (i:=1) (j:=2) (c:=fun _=>some true) (f:=mz (aL (x2 oIt (aT 3) (aT 1)) (aL (x2 oIt (aT 3) (aT 2)) ck))) (ρ:=ρ) (p:=fun _=>true) (e:=fun p=>dP (gp P p.1,gp P p.2)) (a:=fun p=>.int p.1) (b:=fun p=>.int p.2)
  h (by lia) (fun p hp=>⟨rfl,fun _=>⟨(.pu,dP (gp P p.1,gp P p.2)),by
    rw [hm]
    show mz (aL (x2 oIt (aT 3) (aT 1)) (aL (x2 oIt (aT 3) (aT 2)) ck)) [.no,.pu (.int p.1),.pu (.int p.2),.pu (dT P)]=_
    have q1:x2 oIt (aT 3) (aT 1) [.no,.pu (.int p.1),.pu (.int p.2),.pu (dT P)]=some (.pu,.int (gp P p.1)):=uW (a:=.pu) (b:=.pu) hP (jt Y hp).1
    have q2:x2 oIt (aT 3) (aT 2) [.no,.pu (.int p.1),.pu (.int p.2),.pu (dT P)]=some (.pu,.int (gp P p.2)):=uW (a:=.pu) (b:=.pu) hP (jt Y hp).2
    rw [uG,b8,q1]
    dsimp only
    rw [b8,q2,dN]
    rfl,rfl,rfl⟩⟩) (by decide) fun _=>rfl
 rw [dI] at hc
 rw [hc,aC]
 rfl
theorem yp {n:Int} {P:List Int} {L:List PI} (hP:P.Perm (rgI 0 n.toNat)) (Y:Yd n L) (hl:L.length<64):fn_renamed [dY n L,dT P]=some (dY n (rn (gp P) L)):=by
 refine lK (ρ:=[.pu (dY n L),.pu (dT P)]) rfl ?_
 have hc:=A3 (ρ:=[.pu (dY n L),.pu (dT P)]) (ix:=[none,none,none,some 1]) (fi:=cB (ig (x2 oIt (aT 0) (xC (.int 1))))) rfl hP Y (by simp [dY]) (by lia)
 unfold g_renamed
 rw [g9,cJ (ds:=[.int n,.lst ((L.map fun p=>(gp P p.1,gp P p.2)).map dP)]) (rs:=[(.pu,.int n),(.fr,.lst ((L.map fun p=>(gp P p.1,gp P p.2)).map dP))]) ?_ rfl (yD (by rw [ab];exact hl))]
 ·rfl
 ·rw [b8,show x2 oIt (aT 0) (xC (.int 0)) [.pu (dY n L),.pu (dT P)]=some (.pu,.int n) from rfl]
  dsimp only
  rw [b8,hc,dN]
theorem xf {n:Int} {P:List Int} {Fs:List (List Int)} (hP:P.Perm (rgI 0 n.toNat)) (hl:Fs.length<=1000) (hF:∀ F∈Fs,F.length<64/\∀ x∈F,x∈rgI 0 n.toNat):fn__law_moved [.tup (Fs.map dT),dT P]=some (.lst ((Fs.map fun F=>srI (F.map (gp P))).map dL)):=by
 refine lK (ρ:=[.pu (.tup (Fs.map dT)),.pu (dT P)]) rfl ?_
 unfold g__law_moved
 have hc:=dZ (enc:=dT) (xs:=Fs) (ix:=[none,none,none,some 1]) (fi:=cB (ig (aT 0))) (i:=1) (c:=fun _=>some true) (f:=xB eF (aL (fO [none,none,some 3] (cB (ig (aT 1))) (tgN 1) (fun _=>some true) (x2 oIt (aT 2) (aT 1))) ck)) (ρ:=[.pu (.tup (Fs.map dT)),.pu (dT P)]) (p:=fun _=>true) (e:=fun F=>dL (srI (F.map (gp P))))
  rfl (by lia) fun F hFm=>⟨rfl,fun _=>⟨(.fr,dL (srI (F.map (gp P)))),by
   obtain ⟨h64,hr⟩:=hF F hFm
   show xB eF (aL (fO [none,none,some 3] (cB (ig (aT 1))) (tgN 1) (fun _=>some true) (x2 oIt (aT 2) (aT 1))) ck) [.no,.pu (dT F),.no,.pu (dT P)]=_
   have hi:=dZ (enc:=Da.int) (xs:=F) (ix:=[none,none,some 3]) (fi:=cB (ig (aT 1))) (i:=1) (c:=fun _=>some true) (f:=x2 oIt (aT 2) (aT 1)) (ρ:=[.no,.pu (dT F),.no,.pu (dT P)]) (p:=fun _=>true) (e:=fun x=>.int (gp P x))
    rfl (by lia) fun x hx=>⟨rfl,fun _=>⟨(.pu,.int (gp P x)),uW (a:=.pu) (b:=.pu) hP (hr x hx),rfl,rfl⟩⟩
   rw [dI,show (F.map fun x=>Da.int (gp P x))=(F.map (gp P)).map Da.int by rw [aC];rfl] at hi
   rw [rY,b8,hi,dN]
   show (match lU ((F.map (gp P)).map Da.int) with | some es=>some ((.fr:Kd),Da.lst es) | none=>none)=_
   rw [lv (by rw [ab];exact h64)]
   rfl,rfl,rfl⟩⟩
 rw [dI] at hc
 rw [g9,hc,aC]
 rfl
theorem xl {ρ:Rho} {fi:Rho->Option (List Da)} {Fs:List (List Int)} (h:fi ρ=some (Fs.map dT)) (hl:Fs.length<=1000):fO [none,none,none] fi (tgN 1) (fun _=>some true) (xB oZ (aL (aT 1) ck)) ρ=some (.fr,.lst (Fs.map dL)):=by
 have hc:=dZ (enc:=dT) (xs:=Fs) (ix:=[none,none,none]) (fi:=fi) (i:=1) (c:=fun _=>some true) (f:=xB oZ (aL (aT 1) ck)) (ρ:=ρ) (p:=fun _=>true) (e:=dL)
  h (by lia) fun F _=>⟨rfl,fun _=>⟨(.fr,dL F),rfl,rfl,rfl⟩⟩
 rw [dI] at hc
 exact hc
noncomputable abbrev rh (S:List Int) (n:Int) (L:List PI) (P:List Int) (M:List PI) (s4 s5:Sl):Rho:=[.pu (.lst (S.map Da.int)),.pu (dY n L),.pu (dT P),.pu (dY n M),s4,s5]
theorem law_eq (S:List Int):fn_law [.lst (S.map Da.int)]=some (.bl true):=by
 obtain ⟨n,L,hY,h1,h5,Y⟩:=Fq S 0 5 (by decide) (by decide) (by decide)
 have hl:=Ka Y (by lia)
 obtain ⟨P,hP,pP⟩:=BQ (S.getD 3 0) n (by lia) (by lia)
 obtain ⟨gi,R⟩:=JP pP
 have Y':=JR Y R
 have hl':(rn (gp P) L).length<=49:=by rw [KA];exact hl
 obtain ⟨C,m,p1,t1,f1,ne1,e1⟩:=ut Y (by lia) (by lia) (by lia)
 obtain ⟨C',m',p2,t2,f2,ne2,e2⟩:=ut Y' (by lia) (by lia) (by lia)
 have hrow:=Jv Y R p1 t1 p2 t2
 have em:m'=m:=by
  refine lf ?_ ?_
  ·refine oK fun z=>ne2 m z ?_
   rw [<- hrow,e1]
   rfl
  ·refine oK fun z=>ne1 m' z ?_
   have:=Fv ((hrow (m':Int)).trans e2)
   exact yc.mp this
 subst em
 have hm:=BO ne1
 obtain ⟨B,b1,w1⟩:=Bn Y (by lia) (by lia) (by lia)
 obtain ⟨B',b2,w2⟩:=Bn Y' (by lia) (by lia) (by lia)
 have eb:=Fm Y R w1 w2
 have l1:=xp Y (by lia) (by lia) (by lia)
 have l2:=xp Y' (by lia) (by lia) (by lia)
 rw [CH Y R] at l2
 obtain ⟨hs,eh,n1,n2,_,n4⟩:=sD Y (by lia) (by lia) (by lia)
 obtain ⟨hs',eh',n1',n2',_,n4'⟩:=sD Y' (by lia) (by lia) (by lia)
 obtain ⟨w,ew,wt,wr⟩:=t7 Y (by lia) (by lia) (by lia)
 obtain ⟨w',ew',wt',wr'⟩:=t7 Y' (by lia) (by lia) (by lia)
 have nlen:∀ F:List Int,F.Nodup->(∀ x∈F,x∈rgI 0 n.toNat)->F.length<64:=fun F nd hr=>by
  have:=Ms.length_le_of_subset nd hr
  rw [fm] at this
  lia
 refine um ?_
 unfold g_law
 have e0:fB 6 [.lst (S.map Da.int)]=[.pu (.lst (S.map Da.int)),.no,.no,.no,.no,.no]:=rfl
 rw [e0]
 refine cZ (eM (ρ':=[.pu (.lst (S.map Da.int)),.pu (dY n L),.no,.no,.no,.no]) (by rw [i6,cJ (ds:=[.lst (S.map Da.int),.int 0,.int 5]) rfl rfl hY];rfl) ?_)
 refine cZ (eM (ρ':=[.pu (.lst (S.map Da.int)),.pu (dY n L),.pu (dT P),.no,.no,.no]) ?_ ?_)
 ·have q:cC fn__law_perm (aL (cC fn__law_cell (aL (aT 0) (aL (xC (.int 3)) ck))) (aL (x2 oIt (aT 1) (xC (.int 0))) ck)) [.pu (.lst (S.map Da.int)),.pu (dY n L),.no,.no,.no,.no]=some (.pu,.lst (P.map Da.int)):=by
   refine cJ (ds:=[.int (S.getD 3 0),.int n]) (rs:=[(.pu,.int (S.getD 3 0)),(.pu,.int n)]) ?_ rfl hP
   rw [b8,cJ (ds:=[.lst (S.map Da.int),.int 3]) rfl rfl (sB S 3 (by decide))]
   rfl
  rw [i6,rY,b8,q,dN]
  rfl
 refine cZ (eM (ρ':=rh S n L P (rn (gp P) L) .no .no) (by rw [i6,cJ (ds:=[dY n L,dT P]) rfl rfl (yp pP Y (by lia))];rfl) ?_)
 refine cZ (su (b:=false) ?_ (fun q=>absurd q aN) fun _=>eM rfl ?_)
 ·have hc:=A3 (ρ:=rh S n L P (rn (gp P) L) .no .no) (ix:=[none,none,none,some 2]) (fi:=cB (ig (x2 oIt (aT 1) (xC (.int 1))))) rfl pP Y (by simp [rh,dY]) (by lia)
  have hs1:xB hE (aL (xB j5 (aL (fO [none,none,none,some 2] (cB (ig (x2 oIt (aT 1) (xC (.int 1))))) (tgT 2 (fW (tgN 1) (fW (tgN 2) mo))) (fun _=>some true) (mz (aL (x2 oIt (aT 3) (aT 1)) (aL (x2 oIt (aT 3) (aT 2)) ck)))) ck)) ck) (rh S n L P (rn (gp P) L) .no .no)=some (.pu,.tup ((rn (gp P) L).map dP)):=by
   rw [rY,b8,rY,b8,hc,dN]
   dsimp only
   unfold j5
   dsimp only
   rw [Kx (.inl (by rw [ab];lia))]
   rfl
  rw [Es,u4,uG,b8,b8,hs1,dN]
  show (match oEq true (.pu,dY n (rn (gp P) L)) (.pu,dY n (rn (gp P) L)) with | some (_,.bl b)=>some b | _=>none)=_
  rw [LJ,decide_eq_true ⟨rfl,rfl⟩]
  rfl
 refine cZ (su (b:=false) ?_ (fun q=>absurd q aN) fun _=>eM rfl ?_)
 ·have q1:cC fn__law_moved (aL (cC fn_floors (aL (aT 1) ck)) (aL (aT 2) ck)) (rh S n L P (rn (gp P) L) .no .no)=some (.pu,.lst ((rws n C' m').map dL)):=by
   have hmv:=xf (Fs:=rws n C m') pP (by rw [sO];lia) fun F hF=>by
    obtain ⟨i,_,rfl⟩:=az.mp hF
    exact ⟨nlen _ ((d5 _ _).sublist bF) fun x hx=>(jo.mp hx).1,fun x hx=>(jo.mp hx).1⟩
   have er:((rws n C m').map fun F=>srI (F.map (gp P)))=rws n C' m':=by
    unfold rws
    rw [aC]
    exact cY fun i _=>hrow (i:Int)
   rw [er] at hmv
   refine cJ (ds:=[.tup ((rws n C m').map dT),dT P]) (rs:=[(.pu,.tup ((rws n C m').map dT)),(.pu,dT P)]) ?_ rfl hmv
   rw [b8,cJ (ds:=[dY n L]) rfl rfl f1]
   rfl
  have q2:=xl (ρ:=rh S n L P (rn (gp P) L) .no .no) (fi:=cB (ig (cC fn_floors (aL (aT 3) ck)))) (Fs:=rws n C' m') (by rw [jY,nY,cJ (ds:=[dY n (rn (gp P) L)]) rfl rfl f2]) (by rw [sO];lia)
  rw [Es,u4,q1,q2]
  dsimp only
  rw [EB,decide_eq_true rfl]
  rfl
 refine cZ (su (b:=false) ?_ (fun q=>absurd q aN) fun _=>eM rfl ?_)
 ·have hmv:=xf (Fs:=hs) pP (by lia) fun F hF=>⟨nlen F (qS ((n2 F).mp hF).ris) ((n2 F).mp hF).sub,((n2 F).mp hF).sub⟩
  have ndl:(hs.map fun F=>srI (F.map (gp P))).Nodup:=bz.mpr (n1.imp_of_mem fun {a b} ha hb ne e=>ne (GM R ((n2 a).mp ha).ris ((n2 a).mp ha).sub ((n2 b).mp hb).ris ((n2 b).mp hb).sub e))
  have es:Ms.srt HT.lexLt (hs.map fun F=>srI (F.map (gp P)))=Ms.srt HT.lexLt hs':=Hw ndl n1' fun t=>by
   rw [n2',FA Y R,az]
   exact ⟨fun ⟨K,hK,e⟩=>⟨K,(n2 K).mp hK,e⟩,fun ⟨K,hK,e⟩=>⟨K,(n2 K).mpr hK,e⟩⟩
  have q1:=zO (f:=cC fn__law_moved (aL (cC fn_heads (aL (aT 1) ck)) (aL (aT 2) ck))) (ρ:=rh S n L P (rn (gp P) L) .no .no) (cJ (ds:=[.tup (hs.map dT),dT P]) (rs:=[(.pu,.tup (hs.map dT)),(.pu,dT P)]) (by
   rw [b8,cJ (ds:=[dY n L]) rfl rfl eh]
   rfl) rfl hmv) (.inr ⟨by rw [ab];lia,ndl⟩)
  have q2:=zO (xl (ρ:=rh S n L P (rn (gp P) L) .no .no) (fi:=cB (ig (cC fn_heads (aL (aT 3) ck)))) (Fs:=hs') (by rw [jY,nY,cJ (ds:=[dY n (rn (gp P) L)]) rfl rfl eh']) (by lia)) (.inr ⟨by lia,n1'⟩)
  rw [Es,u4,q1,q2,es]
  dsimp only
  rw [EB,decide_eq_true rfl]
  rfl
 refine cZ (su (b:=false) ?_ (fun q=>absurd q aN) fun _=>eM rfl ?_)
 ·have c3:=Ew (f:=cC fn_broadest (aL (aT 1) ck)) (ρ:=rh S n L P (rn (gp P) L) .no .no) (cJ (ds:=[dY n L]) rfl rfl b1)
  have c4:=Ew (f:=cC fn_broadest (aL (aT 3) ck)) (ρ:=rh S n L P (rn (gp P) L) .no .no) (cJ (ds:=[dY n (rn (gp P) L)]) rfl rfl b2)
  rw [ab] at c3 c4
  rw [eb] at c4
  rw [JH,GQ (cJ (ds:=[dY n (rn (gp P) L)]) rfl rfl l2) (cJ (ds:=[dY n L]) rfl rfl l1)]
  exact GQ c4 c3
 refine cZ ?_
 have rng:∀ s4 s5,nM (aL (x2 oIt (aT 1) (xC (.int 0))) ck) (rh S n L P (rn (gp P) L) s4 s5)=some ((rgI 0 n.toNat).map Da.int):=fun s4 s5=>by
  show (if -(2 ^ 62)<=n/\n<2 ^ 62 then some (fE 0 n.toNat) else none)=_
  rw [if_pos (by lia),fw]
 refine kj (enc:=Da.int) (xs:=rgI 0 n.toNat) (fun _ ρ=>∃ s4 s5,ρ=rh S n L P (rn (gp P) L) s4 s5) (rng _ _) ⟨_,_,rfl⟩ ?_ ?_
 ·rintro pre a post ρ e ⟨s4,s5,rfl⟩
  have ha:a∈rgI 0 n.toNat:=by rw [e];simp
  refine ⟨rh S n L P (rn (gp P) L) (.pu (.int a)) s5,rfl,?_⟩
  refine kj (enc:=Da.int) (xs:=rgI 0 n.toNat) (fun _ ρ=>∃ s5,ρ=rh S n L P (rn (gp P) L) (.pu (.int a)) s5) (rng _ _) ⟨_,rfl⟩ ?_ ?_
  ·rintro pre' b post' ρ e' ⟨s5,rfl⟩
   have hb:b∈rgI 0 n.toNat:=by rw [e'];simp
   refine ⟨rh S n L P (rn (gp P) L) (.pu (.int a)) (.pu (.int b)),rfl,?_⟩
   refine su (b:=false) ?_ (fun q=>absurd q aN) fun _=>eM rfl ⟨_,rfl⟩
   have q2:=ew' (gp P a) (gp P b)
   rw [zS Y R wt wr wt' wr' ha hb] at q2
   refine GQ (cJ (ds:=[dY n (rn (gp P) L),.int (gp P a),.int (gp P b)]) (rs:=[(.pu,dY n (rn (gp P) L)),(.pu,.int (gp P a)),(.pu,.int (gp P b))]) ?_ rfl q2) (cJ (ds:=[dY n L,.int a,.int b]) rfl rfl (ew a b))
   rw [b8,b8,b8,show x2 oIt (aT 2) (aT 4) (rh S n L P (rn (gp P) L) (.pu (.int a)) (.pu (.int b)))=some (.pu,.int (gp P a)) from uW (a:=.pu) (b:=.pu) pP ha,show x2 oIt (aT 2) (aT 5) (rh S n L P (rn (gp P) L) (.pu (.int a)) (.pu (.int b)))=some (.pu,.int (gp P b)) from uW (a:=.pu) (b:=.pu) pP hb]
   rfl
  ·rintro ρ ⟨s5,rfl⟩
   exact ⟨_,_,rfl⟩
 ·rintro ρ ⟨s4,s5,rfl⟩
  exact ou (d:=.bl true) rfl rfl
end G16
namespace C
open PySem PySem.Spec PyProof.Rows L2 Ry
theorem all_mk {P:bC} {w:cf} {K:ac} {h:cy} {mg:bM->Option ae} {fa:ak} (X:K.In h) (Gm:h.Ns aQ mg) (hfa:mg "law" = some (.ref fa))
 {f0:ak} {od0 an0:Option ak} {sl0:Array (Option ae)} {oc0 kV0 dc0 pm0 cd0 ct0:ae}
 {f1:ak} {od1 an1:Option ak} {sl1:Array (Option ae)} {oc1 kV1 dc1 pm1 cd1 ct1:ae}
 {f2:ak} {od2 an2:Option ak} {sl2:Array (Option ae)} {oc2 kV2 dc2 pm2 cd2 ct2:ae}
 {f3:ak} {od3 an3:Option ak} {sl3:Array (Option ae)} {oc3 kV3 dc3 pm3 cd3 ct3:ae}
 {f4:ak} {od4 an4:Option ak} {sl4:Array (Option ae)} {oc4 kV4 dc4 pm4 cd4 ct4:ae}
 {f5:ak} {od5 an5:Option ak} {sl5:Array (Option ae)} {oc5 kV5 dc5 pm5 cd5 ct5:ae}
 {f6:ak} {od6 an6:Option ak} {sl6:Array (Option ae)} {oc6 kV6 dc6 pm6 cd6 ct6:ae}
 {f7:ak} {od7 an7:Option ak} {sl7:Array (Option ae)} {oc7 kV7 dc7 pm7 cd7 ct7:ae}
 {f8:ak} {od8 an8:Option ak} {sl8:Array (Option ae)} {oc8 kV8 dc8 pm8 cd8 ct8:ae}
 {f9:ak} {od9 an9:Option ak} {sl9:Array (Option ae)} {oc9 kV9 dc9 pm9 cd9 ct9:ae}
 {f10:ak} {od10 an10:Option ak} {sl10:Array (Option ae)} {oc10 kV10 dc10 pm10 cd10 ct10:ae}
 {f11:ak} {od11 an11:Option ak} {sl11:Array (Option ae)} {oc11 kV11 dc11 pm11 cd11 ct11:ae}
 {f12:ak} {od12 an12:Option ak} {sl12:Array (Option ae)} {oc12 kV12 dc12 pm12 cd12 ct12:ae}
 {f13:ak} {od13 an13:Option ak} {sl13:Array (Option ae)} {oc13 kV13 dc13 pm13 cd13 ct13:ae}
 {f14:ak} {od14 an14:Option ak} {sl14:Array (Option ae)} {oc14 kV14 dc14 pm14 cd14 ct14:ae}
 {f15:ak} {od15 an15:Option ak} {sl15:Array (Option ae)} {oc15 kV15 dc15 pm15 cd15 ct15:ae}
 {f16:ak} {od16 an16:Option ak} {sl16:Array (Option ae)} {oc16 kV16 dc16 pm16 cd16 ct16:ae}
 {f17:ak} {od17 an17:Option ak} {sl17:Array (Option ae)} {oc17 kV17 dc17 pm17 cd17 ct17:ae}
 {f18:ak} {od18 an18:Option ak} {sl18:Array (Option ae)} {oc18 kV18 dc18 pm18 cd18 ct18:ae}
 {f19:ak} {od19 an19:Option ak} {sl19:Array (Option ae)} {oc19 kV19 dc19 pm19 cd19 ct19:ae}
 {f20:ak} {od20 an20:Option ak} {sl20:Array (Option ae)} {oc20 kV20 dc20 pm20 cd20 ct20:ae}
 {f21:ak} {od21 an21:Option ak} {sl21:Array (Option ae)} {oc21 kV21 dc21 pm21 cd21 ct21:ae}
 {f22:ak} {od22 an22:Option ak} {sl22:Array (Option ae)} {oc22 kV22 dc22 pm22 cd22 ct22:ae}
 {f23:ak} {od23 an23:Option ak} {sl23:Array (Option ae)} {oc23 kV23 dc23 pm23 cd23 ct23:ae}
 {f24:ak} {od24 an24:Option ak} {sl24:Array (Option ae)} {oc24 kV24 dc24 pm24 cd24 ct24:ae}
 {f25:ak} {od25 an25:Option ak} {sl25:Array (Option ae)} {oc25 kV25 dc25 pm25 cd25 ct25:ae}
 {f26:ak} {od26 an26:Option ak} {sl26:Array (Option ae)} {oc26 kV26 dc26 pm26 cd26 ct26:ae}
 {f27:ak} {od27 an27:Option ak} {sl27:Array (Option ae)} {oc27 kV27 dc27 pm27 cd27 ct27:ae}
 (a0:bf K aQ "yard_of" = some (some (.ref f0))) (l0:K.lookup f0=some ⟨oc0,od0,.func (aZ "yard_of" "yard_of" (cF kZ) (cg kZ) (bh kZ) .none kV0 dc0 pm0 an0 cd0 ct0),sl0⟩) (c0:bi K cd0 "yard_of" = true) (k0:aY K (.ref f0)=true)
 (a1:bf K aQ "renamed" = some (some (.ref f1))) (l1:K.lookup f1=some ⟨oc1,od1,.func (aZ "renamed" "renamed" (cF kO) (cg kO) (bh kO) .none kV1 dc1 pm1 an1 cd1 ct1),sl1⟩) (c1:bi K cd1 "renamed" = true) (k1:aY K (.ref f1)=true)
 (a2:bf K aQ "uppers_of" = some (some (.ref f2))) (l2:K.lookup f2=some ⟨oc2,od2,.func (aZ "uppers_of" "uppers_of" (cF ii) (cg ii) (bh ii) .none kV2 dc2 pm2 an2 cd2 ct2),sl2⟩) (c2:bi K cd2 "uppers_of" = true) (k2:aY K (.ref f2)=true)
 (a3:bf K aQ "lowers_of" = some (some (.ref f3))) (l3:K.lookup f3=some ⟨oc3,od3,.func (aZ "lowers_of" "lowers_of" (cF iW) (cg iW) (bh iW) .none kV3 dc3 pm3 an3 cd3 ct3),sl3⟩) (c3:bi K cd3 "lowers_of" = true) (k3:aY K (.ref f3)=true)
 (a4:bf K aQ "upwards" = some (some (.ref f4))) (l4:K.lookup f4=some ⟨oc4,od4,.func (aZ "upwards" "upwards" (cF kL) (cg kL) (bh kL) .none kV4 dc4 pm4 an4 cd4 ct4),sl4⟩) (c4:bi K cd4 "upwards" = true) (k4:aY K (.ref f4)=true)
 (a5:bf K aQ "holds_all" = some (some (.ref f5))) (l5:K.lookup f5=some ⟨oc5,od5,.func (aZ "holds_all" "holds_all" (cF i8) (cg i8) (bh i8) .none kV5 dc5 pm5 an5 cd5 ct5),sl5⟩) (c5:bi K cd5 "holds_all" = true) (k5:aY K (.ref f5)=true)
 (a6:bf K aQ "heads" = some (some (.ref f6))) (l6:K.lookup f6=some ⟨oc6,od6,.func (aZ "heads" "heads" (cF oQ) (cg oQ) (bh oQ) .none kV6 dc6 pm6 an6 cd6 ct6),sl6⟩) (c6:bi K cd6 "heads" = true) (k6:aY K (.ref f6)=true)
 (a7:bf K aQ "ways_up_to" = some (some (.ref f7))) (l7:K.lookup f7=some ⟨oc7,od7,.func (aZ "ways_up_to" "ways_up_to" (cF iC) (cg iC) (bh iC) .none kV7 dc7 pm7 an7 cd7 ct7),sl7⟩) (c7:bi K cd7 "ways_up_to" = true) (k7:aY K (.ref f7)=true)
 (a8:bf K aQ "lines" = some (some (.ref f8))) (l8:K.lookup f8=some ⟨oc8,od8,.func (aZ "lines" "lines" (cF o9) (cg o9) (bh o9) .none kV8 dc8 pm8 an8 cd8 ct8),sl8⟩) (c8:bi K cd8 "lines" = true) (k8:aY K (.ref f8)=true)
 (a9:bf K aQ "heights_of" = some (some (.ref f9))) (l9:K.lookup f9=some ⟨oc9,od9,.func (aZ "heights_of" "heights_of" (cF iu) (cg iu) (bh iu) .none kV9 dc9 pm9 an9 cd9 ct9),sl9⟩) (c9:bi K cd9 "heights_of" = true) (k9:aY K (.ref f9)=true)
 (a10:bf K aQ "row_at" = some (some (.ref f10))) (l10:K.lookup f10=some ⟨oc10,od10,.func (aZ "row_at" "row_at" (cF mq) (cg mq) (bh mq) .none kV10 dc10 pm10 an10 cd10 ct10),sl10⟩) (c10:bi K cd10 "row_at" = true) (k10:aY K (.ref f10)=true)
 (a11:bf K aQ "floors" = some (some (.ref f11))) (l11:K.lookup f11=some ⟨oc11,od11,.func (aZ "floors" "floors" (cF mr) (cg mr) (bh mr) .none kV11 dc11 pm11 an11 cd11 ct11),sl11⟩) (c11:bi K cd11 "floors" = true) (k11:aY K (.ref f11)=true)
 (a12:bf K aQ "take_upper" = some (some (.ref f12))) (l12:K.lookup f12=some ⟨oc12,od12,.func (aZ "take_upper" "take_upper" (cF fZ) (cg fZ) (bh fZ) .none kV12 dc12 pm12 an12 cd12 ct12),sl12⟩) (c12:bi K cd12 "take_upper" = true) (k12:aY K (.ref f12)=true)
 (a13:bf K aQ "steps_of" = some (some (.ref f13))) (l13:K.lookup f13=some ⟨oc13,od13,.func (aZ "steps_of" "steps_of" (cF iS) (cg iS) (bh iS) .none kV13 dc13 pm13 an13 cd13 ct13),sl13⟩) (c13:bi K cd13 "steps_of" = true) (k13:aY K (.ref f13)=true)
 (a14:bf K aQ "tower_from" = some (some (.ref f14))) (l14:K.lookup f14=some ⟨oc14,od14,.func (aZ "tower_from" "tower_from" (cF iz) (cg iz) (bh iz) .none kV14 dc14 pm14 an14 cd14 ct14),sl14⟩) (c14:bi K cd14 "tower_from" = true) (k14:aY K (.ref f14)=true)
 (a15:bf K aQ "towers" = some (some (.ref f15))) (l15:K.lookup f15=some ⟨oc15,od15,.func (aZ "towers" "towers" (cF mK) (cg mK) (bh mK) .none kV15 dc15 pm15 an15 cd15 ct15),sl15⟩) (c15:bi K cd15 "towers" = true) (k15:aY K (.ref f15)=true)
 (a16:bf K aQ "stands_on_any" = some (some (.ref f16))) (l16:K.lookup f16=some ⟨oc16,od16,.func (aZ "stands_on_any" "stands_on_any" (cF fV) (cg fV) (bh fV) .none kV16 dc16 pm16 an16 cd16 ct16),sl16⟩) (c16:bi K cd16 "stands_on_any" = true) (k16:aY K (.ref f16)=true)
 (a17:bf K aQ "without_overtopping" = some (some (.ref f17))) (l17:K.lookup f17=some ⟨oc17,od17,.func (aZ "without_overtopping" "without_overtopping" (cF dO) (cg dO) (bh dO) .none kV17 dc17 pm17 an17 cd17 ct17),sl17⟩) (c17:bi K cd17 "without_overtopping" = true) (k17:aY K (.ref f17)=true)
 (a18:bf K aQ "broadest" = some (some (.ref f18))) (l18:K.lookup f18=some ⟨oc18,od18,.func (aZ "broadest" "broadest" (cF jG) (cg jG) (bh jG) .none kV18 dc18 pm18 an18 cd18 ct18),sl18⟩) (c18:bi K cd18 "broadest" = true) (k18:aY K (.ref f18)=true)
 (a19:bf K aQ "weights_from" = some (some (.ref f19))) (l19:K.lookup f19=some ⟨oc19,od19,.func (aZ "weights_from" "weights_from" (cF gL) (cg gL) (bh gL) .none kV19 dc19 pm19 an19 cd19 ct19),sl19⟩) (c19:bi K cd19 "weights_from" = true) (k19:aY K (.ref f19)=true)
 (a20:bf K aQ "weight" = some (some (.ref f20))) (l20:K.lookup f20=some ⟨oc20,od20,.func (aZ "weight" "weight" (cF mm) (cg mm) (bh mm) .none kV20 dc20 pm20 an20 cd20 ct20),sl20⟩) (c20:bi K cd20 "weight" = true) (k20:aY K (.ref f20)=true)
 (a21:bf K aQ "_law_cell" = some (some (.ref f21))) (l21:K.lookup f21=some ⟨oc21,od21,.func (aZ "_law_cell" "_law_cell" (cF i5) (cg i5) (bh i5) .none kV21 dc21 pm21 an21 cd21 ct21),sl21⟩) (c21:bi K cd21 "_law_cell" = true) (k21:aY K (.ref f21)=true)
 (a22:bf K aQ "_law_mix" = some (some (.ref f22))) (l22:K.lookup f22=some ⟨oc22,od22,.func (aZ "_law_mix" "_law_mix" (cF jK) (cg jK) (bh jK) .none kV22 dc22 pm22 an22 cd22 ct22),sl22⟩) (c22:bi K cd22 "_law_mix" = true) (k22:aY K (.ref f22)=true)
 (a23:bf K aQ "_law_perm" = some (some (.ref f23))) (l23:K.lookup f23=some ⟨oc23,od23,.func (aZ "_law_perm" "_law_perm" (cF fY) (cg fY) (bh fY) .none kV23 dc23 pm23 an23 cd23 ct23),sl23⟩) (c23:bi K cd23 "_law_perm" = true) (k23:aY K (.ref f23)=true)
 (a24:bf K aQ "_law_all" = some (some (.ref f24))) (l24:K.lookup f24=some ⟨oc24,od24,.func (aZ "_law_all" "_law_all" (cF jy) (cg jy) (bh jy) .none kV24 dc24 pm24 an24 cd24 ct24),sl24⟩) (c24:bi K cd24 "_law_all" = true) (k24:aY K (.ref f24)=true)
 (a25:bf K aQ "_law_yard" = some (some (.ref f25))) (l25:K.lookup f25=some ⟨oc25,od25,.func (aZ "_law_yard" "_law_yard" (cF i7) (cg i7) (bh i7) .none kV25 dc25 pm25 an25 cd25 ct25),sl25⟩) (c25:bi K cd25 "_law_yard" = true) (k25:aY K (.ref f25)=true)
 (a26:bf K aQ "_law_moved" = some (some (.ref f26))) (l26:K.lookup f26=some ⟨oc26,od26,.func (aZ "_law_moved" "_law_moved" (cF ir) (cg ir) (bh ir) .none kV26 dc26 pm26 an26 cd26 ct26),sl26⟩) (c26:bi K cd26 "_law_moved" = true) (k26:aY K (.ref f26)=true)
 (a27:bf K aQ "law" = some (some (.ref f27))) (l27:K.lookup f27=some ⟨oc27,od27,.func (aZ "law" "law" (cF uD) (cg uD) (bh uD) .none kV27 dc27 pm27 an27 cd27 ct27),sl27⟩) (c27:bi K cd27 "law" = true) (k27:aY K (.ref f27)=true)
 (m4:sC K cd4 "upwards" = true)
 (m6:sC K cd6 "heads" = true)
 (z0:bf K aQ "all" = some none)
 (z1:bf K aQ "any" = some none)
 (z2:bf K aQ "dict" = some none)
 (z3:bf K aQ "len" = some none)
 (z4:bf K aQ "list" = some none)
 (z5:bf K aQ "max" = some none)
 (z6:bf K aQ "range" = some none)
 (z7:bf K aQ "sorted" = some none)
 (z8:bf K aQ "sum" = some none)
 (z9:bf K aQ "tuple" = some none) :
 ∃ fd:dG,(∀ (s:ai) (v:ae),vc s fd ⟨[v],[]⟩ [("_law_script",v)])/\∀ base:cy,K.In base->base.Ns aQ mg->Bm mg base->vF P w K mg base CX0 18 fa fd ["_law_script"] (spD K 1 G16.fn_law):=by
 have e:=hfa.symm.trans (bA X Gm a27)
 cases e
 have Z:Zs mg:=⟨cM X Gm z0,cM X Gm z1,cM X Gm z2,cM X Gm z3,cM X Gm z4,cM X Gm z5,cM X Gm z6,cM X Gm z7,cM X Gm z8,cM X Gm z9⟩
 have F0:=fq (st:=kZ) l0 c0 k0
 have F1:=fq (st:=kO) l1 c1 k1
 have F2:=fq (st:=ii) l2 c2 k2
 have F3:=fq (st:=iW) l3 c3 k3
 have F4:=fq (st:=kL) l4 c4 k4
 have F5:=fq (st:=i8) l5 c5 k5
 have F6:=fq (st:=oQ) l6 c6 k6
 have F7:=fq (st:=iC) l7 c7 k7
 have F8:=fq (st:=o9) l8 c8 k8
 have F9:=fq (st:=iu) l9 c9 k9
 have F10:=fq (st:=mq) l10 c10 k10
 have F11:=fq (st:=mr) l11 c11 k11
 have F12:=fq (st:=fZ) l12 c12 k12
 have F13:=fq (st:=iS) l13 c13 k13
 have F14:=fq (st:=iz) l14 c14 k14
 have F15:=fq (st:=mK) l15 c15 k15
 have F16:=fq (st:=fV) l16 c16 k16
 have F17:=fq (st:=dO) l17 c17 k17
 have F18:=fq (st:=jG) l18 c18 k18
 have F19:=fq (st:=gL) l19 c19 k19
 have F20:=fq (st:=mm) l20 c20 k20
 have F21:=fq (st:=i5) l21 c21 k21
 have F22:=fq (st:=jK) l22 c22 k22
 have F23:=fq (st:=fY) l23 c23 k23
 have F24:=fq (st:=jy) l24 c24 k24
 have F25:=fq (st:=i7) l25 c25 k25
 have F26:=fq (st:=ir) l26 c26 k26
 have F27:=fq (st:=uD) l27 c27 k27
 refine ⟨aZ "law" "law" (cF uD) (cg uD) (bh uD) .none kV27 dc27 pm27 an27 cd27 ct27,fun s v=>.of_eq rfl,fun base hK _ hB=>?_⟩
 have C_yard_of:=yh (P:=P) (w:=w) (base:=base) ⟨_,_,F0,bA X Gm a0⟩ Z
 have C_renamed:=yP (P:=P) (w:=w) (base:=base) ⟨_,_,F1,bA X Gm a1⟩ Z C_yard_of
 have C_uppers_of:=uS (P:=P) (w:=w) (base:=base) ⟨_,_,F2,bA X Gm a2⟩
 have C_lowers_of:=ua (P:=P) (w:=w) (base:=base) ⟨_,_,F3,bA X Gm a3⟩ Z C_uppers_of
 have C_upwards:=yy (P:=P) (w:=w) (base:=base) (B4 F4 (bA X Gm a4) m4) hK hB Z
 have C_holds_all:=ui (P:=P) (w:=w) (base:=base) ⟨_,_,F5,bA X Gm a5⟩ Z
 have C_heads:=DJ (P:=P) (w:=w) (base:=base) (B4 F6 (bA X Gm a6) m6) hK hB Z C_holds_all C_lowers_of C_upwards
 have C_ways_up_to:=sY (P:=P) (w:=w) (base:=base) ⟨_,_,F7,bA X Gm a7⟩ Z
 have C_lines:=Du (P:=P) (w:=w) (base:=base) ⟨_,_,F8,bA X Gm a8⟩ Z C_heads C_ways_up_to
 have C_heights_of:=rZ (P:=P) (w:=w) (base:=base) ⟨_,_,F9,bA X Gm a9⟩ Z C_upwards
 have C_row_at:=zy (P:=P) (w:=w) (base:=base) ⟨_,_,F10,bA X Gm a10⟩ Z
 have C_floors:=Ax (P:=P) (w:=w) (base:=base) ⟨_,_,F11,bA X Gm a11⟩ Z C_heights_of C_lowers_of C_row_at
 have C_steps_of:=vM (P:=P) (w:=w) (base:=base) ⟨_,_,F13,bA X Gm a13⟩ ⟨_,_,F12,bA X Gm a12⟩ Z C_uppers_of
 have C_tower_from:=sj (P:=P) (w:=w) (base:=base) ⟨_,_,F14,bA X Gm a14⟩ Z
 have C_towers:=Ai (P:=P) (w:=w) (base:=base) ⟨_,_,F15,bA X Gm a15⟩ Z C_steps_of C_tower_from
 have C_stands_on_any:=ox (P:=P) (w:=w) (base:=base) ⟨_,_,F16,bA X Gm a16⟩ Z
 have C_without_overtopping:=kt (P:=P) (w:=w) (base:=base) ⟨_,_,F17,bA X Gm a17⟩ Z C_stands_on_any
 have C_broadest:=v3 (P:=P) (w:=w) (base:=base) ⟨_,_,F18,bA X Gm a18⟩ Z C_towers C_uppers_of C_without_overtopping
 have C_weights_from:=pS (P:=P) (w:=w) (base:=base) ⟨_,_,F19,bA X Gm a19⟩ Z C_lowers_of C_upwards
 have C_weight:=AX (P:=P) (w:=w) (base:=base) ⟨_,_,F20,bA X Gm a20⟩ Z C_weights_from
 have C__law_cell:=uM (P:=P) (w:=w) (base:=base) ⟨_,_,F21,bA X Gm a21⟩ Z
 have C__law_mix:=wb (P:=P) (w:=w) (base:=base) ⟨_,_,F22,bA X Gm a22⟩ Z
 have C__law_perm:=tN (P:=P) (w:=w) (base:=base) ⟨_,_,F23,bA X Gm a23⟩ Z C__law_mix
 have C__law_all:=wg (P:=P) (w:=w) (base:=base) ⟨_,_,F24,bA X Gm a24⟩ Z
 have C__law_yard:=uK (P:=P) (w:=w) (base:=base) ⟨_,_,F25,bA X Gm a25⟩ Z C__law_all C__law_cell C__law_mix C__law_perm
 have C__law_moved:=sP (P:=P) (w:=w) (base:=base) ⟨_,_,F26,bA X Gm a26⟩ Z
 exact Jw F27 Z C__law_cell C__law_moved C__law_perm C__law_yard C_broadest C_floors C_heads C_lines C_renamed C_weight
theorem walk {l:y3} {q:bC} {loose:List bM} {XP:(bM->Option ae)->cy->Prop} {YP:cf->cy->Prop} {d:DefRec} {K:zg->ac} {ts:List ak} (hn:l.most=some 63) (hdf:d.params.defaults=[])
 (hY:∀ (w:cf) (h:cy),YP w h->(K w.params).In h) (hT:∀ (w:cf) (h:cy),YP w h->∀ P∈ts,h.get? P=some (kH #[])) (hok:∀ P:zg,BR (K P) ts=true)
 (F:∀ (w:cf) (mg:bM->Option ae) (fa:ak) (h:cy),(K w.params).In h->h.Ns aQ mg->mg d.name=some (.ref fa) ->
   ∃ fd:dG,(∀ (s:ai) (u:ae),vc s fd ⟨[u],[]⟩ [("_law_script",u)])/\∀ base:cy,(K w.params).In base->base.Ns aQ mg->Bm mg base->vF l.prog w (K w.params) mg base CX0 18 fa fd ["_law_script"] (spD (K w.params) 1 G16.fn_law)) :
 Ce q loose XP YP l.row.toRowW d [] (fun f vs=>xX f vs) :=
 CK (n:=63) (k:=18) (x:="_law_script") (fn:=G16.fn_law) hn (by decide) hdf ⟨rfl,rfl,by decide,by decide⟩ hY hT hok F G16.law_eq
end C
open PySem PySem.W PyProof.Rows
set_option maxRecDepth 100000 in
set_option maxHeartbeats 0 in
theorem PySem.Challenge.cw_rankyard_k16_whole_numbered_anew_holds : PySem.Challenge.rw_rankyard_k16_whole_numbered_anew.Holds := by
 w_on;o_law;k_head;(case hw=>w_witness2)
 k_fill
 refine C.walk (l:=PySem.Challenge.rw_rankyard_k16_whole_numbered_anew) rfl rfl (fun w h Y=>PySem.W.km_in_of Y) (fun w h Y=>PySem.W.km_tabs_of Y) (fun P=>by kernel_rfl) ?F
 case F =>
  intro w mg fa h KX G hmg
  refine' C.all_mk KX G hmg ?a0 ?l0 ?c0 ?k0 ?a1 ?l1 ?c1 ?k1 ?a2 ?l2 ?c2 ?k2 ?a3 ?l3 ?c3 ?k3 ?a4 ?l4 ?c4 ?k4 ?a5 ?l5 ?c5 ?k5 ?a6 ?l6 ?c6 ?k6 ?a7 ?l7 ?c7 ?k7 ?a8 ?l8 ?c8 ?k8 ?a9 ?l9 ?c9 ?k9 ?a10 ?l10 ?c10 ?k10 ?a11 ?l11 ?c11 ?k11 ?a12 ?l12 ?c12 ?k12 ?a13 ?l13 ?c13 ?k13 ?a14 ?l14 ?c14 ?k14 ?a15 ?l15 ?c15 ?k15 ?a16 ?l16 ?c16 ?k16 ?a17 ?l17 ?c17 ?k17 ?a18 ?l18 ?c18 ?k18 ?a19 ?l19 ?c19 ?k19 ?a20 ?l20 ?c20 ?k20 ?a21 ?l21 ?c21 ?k21 ?a22 ?l22 ?c22 ?k22 ?a23 ?l23 ?c23 ?k23 ?a24 ?l24 ?c24 ?k24 ?a25 ?l25 ?c25 ?k25 ?a26 ?l26 ?c26 ?k26 ?a27 ?l27 ?c27 ?k27 ?m4 ?m6 ?z0 ?z1 ?z2 ?z3 ?z4 ?z5 ?z6 ?z7 ?z8 ?z9
  (case a0=>k_is)
  (case l0=>k_is)
  (case c0=>k_is)
  (case k0=>k_is)
  (case a1=>k_is)
  (case l1=>k_is)
  (case c1=>k_is)
  (case k1=>k_is)
  (case a2=>k_is)
  (case l2=>k_is)
  (case c2=>k_is)
  (case k2=>k_is)
  (case a3=>k_is)
  (case l3=>k_is)
  (case c3=>k_is)
  (case k3=>k_is)
  (case a4=>k_is)
  (case l4=>k_is)
  (case c4=>k_is)
  (case k4=>k_is)
  (case a5=>k_is)
  (case l5=>k_is)
  (case c5=>k_is)
  (case k5=>k_is)
  (case a6=>k_is)
  (case l6=>k_is)
  (case c6=>k_is)
  (case k6=>k_is)
  (case a7=>k_is)
  (case l7=>k_is)
  (case c7=>k_is)
  (case k7=>k_is)
  (case a8=>k_is)
  (case l8=>k_is)
  (case c8=>k_is)
  (case k8=>k_is)
  (case a9=>k_is)
  (case l9=>k_is)
  (case c9=>k_is)
  (case k9=>k_is)
  (case a10=>k_is)
  (case l10=>k_is)
  (case c10=>k_is)
  (case k10=>k_is)
  (case a11=>k_is)
  (case l11=>k_is)
  (case c11=>k_is)
  (case k11=>k_is)
  (case a12=>k_is)
  (case l12=>k_is)
  (case c12=>k_is)
  (case k12=>k_is)
  (case a13=>k_is)
  (case l13=>k_is)
  (case c13=>k_is)
  (case k13=>k_is)
  (case a14=>k_is)
  (case l14=>k_is)
  (case c14=>k_is)
  (case k14=>k_is)
  (case a15=>k_is)
  (case l15=>k_is)
  (case c15=>k_is)
  (case k15=>k_is)
  (case a16=>k_is)
  (case l16=>k_is)
  (case c16=>k_is)
  (case k16=>k_is)
  (case a17=>k_is)
  (case l17=>k_is)
  (case c17=>k_is)
  (case k17=>k_is)
  (case a18=>k_is)
  (case l18=>k_is)
  (case c18=>k_is)
  (case k18=>k_is)
  (case a19=>k_is)
  (case l19=>k_is)
  (case c19=>k_is)
  (case k19=>k_is)
  (case a20=>k_is)
  (case l20=>k_is)
  (case c20=>k_is)
  (case k20=>k_is)
  (case a21=>k_is)
  (case l21=>k_is)
  (case c21=>k_is)
  (case k21=>k_is)
  (case a22=>k_is)
  (case l22=>k_is)
  (case c22=>k_is)
  (case k22=>k_is)
  (case a23=>k_is)
  (case l23=>k_is)
  (case c23=>k_is)
  (case k23=>k_is)
  (case a24=>k_is)
  (case l24=>k_is)
  (case c24=>k_is)
  (case k24=>k_is)
  (case a25=>k_is)
  (case l25=>k_is)
  (case c25=>k_is)
  (case k25=>k_is)
  (case a26=>k_is)
  (case l26=>k_is)
  (case c26=>k_is)
  (case k26=>k_is)
  (case a27=>k_is)
  (case l27=>k_is)
  (case c27=>k_is)
  (case k27=>k_is)
  (case m4=>kernel_rfl)
  (case m6=>kernel_rfl)
  (case z0=>k_is)
  (case z1=>k_is)
  (case z2=>k_is)
  (case z3=>k_is)
  (case z4=>k_is)
  (case z5=>k_is)
  (case z6=>k_is)
  (case z7=>k_is)
  (case z8=>k_is)
  (case z9=>k_is)
