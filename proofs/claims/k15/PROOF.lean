import PyProof.Rows.All
import Wide.All
import OpenK.AllK
import Wide.FinOn
import Lean
import PyProof.EqAt
import PyProof.EqKinds
import PyProof.TupleCall
import PySem.Challenge.RW_rankyard_k15_whole_one_on_top_of_the_oth
set_option maxHeartbeats 4000000
open PySem renaming wpAny_bind->ac,Value->ag,Shared->ai,starEach->ao,wpAny_pure->aq,Addr->au,sizeLine->aK,wpAny->aN,Expr->aR,model->aZ,Program->bh,sizeLine_eq->bu,Str->bv,Around->bE,mainGlobals->bF,eval->bL,World->bT,backTo->bZ,Heap->b9,cLine->cg,Stmt->cq,wpAny_newObj_type->cA,FuncData->cJ,wpAny_holding->cN,sysModules->cV,Obj->cX,wpAny_truthy_bool->c5,wpAny_mono->dm,compareOp->dq,NameKind->dA,Scope->dG,cellsFrom->dH,codeAny_builtin->dL,Pos->d4,behindInMarks->d5,attributeBase->d6,assignEach->eD,foldedSetIterable->eM,swapsWith->eX,wpAny_call_entry->eY,keywordEach->fm,wpAny_typeNameOfWhole_keyiter->ft,wpAny_Call_Name_kw->fw,wpAny_passesOwn->fI,plainId_quiet->fT,Keyword->f9,mem_of_lookup->gi,wpAny_typeNameOf_keyiter->gN,tupleKind_room_in1->gR,wpAny_callSpecial?_slot->gZ,bootBuiltins->h8,wpAny_typeOf->ia,wpAny_tryCatch->ie,Arguments->ip,binaryOp->iC,bindArgs->iD,backToKw->iE,sliceBounds->iF,tupleKind->i8,rawInt->je,wpAny_pyIter_list->jE,getItem->jF,pyNext->jH,wpAny_standAt->jJ,wpAny_newList->jK,DictEntry->km,codeAny->kI,relabel->kJ,wpAny_execs_nil->k9,IsPart->lQ,intItems->lU,wpAny_letGo->lW,wpAny_seqItems->lX,PassesOwn->mt,argBest->mw,Paired->m6,builtinsNs->m7,Env->m8,wpAny_load->m9,call_meets->nh,CmpOp->oG,codeAny_mono->oH,valueAt->oJ,concat_meets->oK,callerA->oM,wpAny_dictEntries->oO,wpAny_eqBool_int->pY,pairTrees->pZ,noFill_tuple_add->p4,seqItems?->p6,subscripted->rF,letOwnedTupleGo->rJ,wpAny_dictEpoch->rK,wpAny_updateSeq->rN,standAt->tO,holding->tP,BindsTo->tQ,collect->tU,recursionLimit->t4,atKey->t5,wpAny_rule->t8,rangeSize_one->wu,seq_tuple_add->wy,call->wA,wpAny_attempt->wB,bindL->xE,bindC->xF,numAt->xJ,Tok->xS,Result->xT,call_meetsIn->xU,Params->xW,wpAny_isTrue_Compare1->AU,wpAny_notOrdered_dict->AW,wpAny_isOneOf_keyiter->AX,wpAny_field->Ba,wpAny_of_eq->Be
open PySem.W renaming Frag->ae,mg_none_of->cx,fnOf->cW,nsIn->c8,keepIn->eI,cellsFrom_some->gx,kas_ask->ic,codeIn->iq,CodeHd->ir,tabObj->jL,methodObj->lc,kat_cons->lT,kas_sort->lV,codeHdIn->lY,kat_yes->mN,kat_one->mO,kat_no->nj,kla_fn->np,mg_of->oR,KasT->p5,codeHd_of_K->tW,kat_lt_int->t9,kat_snds->wC,kas_kind->wF,kat_kind->wG,kas_item->wH,KatTups->xI,kla_obj->xK,OpenLaw->xL,KatLex->x5,kat_lt->x8,WalkO->A2
open List renaming length_map->af,getElem?_eq_getElem->aj,mem_cons_of_mem->al,mem_cons_self->am,size_toArray->ax,mem_singleton->ay,mem_append->aA,getD_eq_getElem?_getD->aB,getElem?_map->aC,map_cons->aD,mem_cons->aE,getElem?_eq_some_iff->aF,length_cons->aJ,length_append->aO,map_map->aQ,mem_map->aS,getElem?_set_self->aV,mem_append_right->aW,getElem?_set_ne->aX,mem_filter->a9,getElem?_cons_zero->bc,getElem?_cons_succ->bf,pairwise_singleton->bg,nodup_cons->bi,nodup_append->bj,pairwise_map->bx,mem_of_getElem?->bz,length_singleton->bB,map_append->bC,range->bG,length_set->bP,all_eq_true->bX,pairwise_cons->b8,append_nil->cC,getElem_of_mem->cH,filter_sublist->cI,length_nil->cK,mem_append_left->cQ,lookup_cons->cS,getElem?_append_left->c6,take_of_length_le->dI,getElem?_append_right->dN,map_congr_left->eN,length_eq_zero_iff->eP,getElem?_eq_none->fq,append_assoc->fz,length_range->fA,range_eq_range'->fS,length_eraseIdx_of_lt->fU,length_take->f7,getElem_mem->gc,drop_eq_getElem_cons->gj,find?_cons->gr,filter_cons_of_neg->gy,map_nil->gO,map->gP,getElem_inj->hV,length->ii,pairwise_append->ij,mem_range->iG,perm_ext_iff_of_nodup->iI,any_cons->i9,getElem?_replicate->jo,length_drop->jp,drop_length->jq,any_eq_true->jr,ext_getElem->jt,filter_cons_of_pos->ju,length_replicate->j4,length_filter_le->j6,drop_zero->ky,filterMap_cons->k8,zip_cons_cons->lO,lookup_append->lP,ext_getElem?->mv,range'_succ->mW,mem_flatMap->mY,eq_nil_of_length_eq_zero->nq,of_mem_zip->ou,length_zip->oz,forIn_nil->pc,exists_mem_of_ne_nil->p8,getElem?_take_of_lt->rD,length_pos_of_mem->tV,set_set->tY,all_map->tZ,drop_of_length_le->t0,eraseIdx_sublist->uc,pairwise_flatMap->uf,mem_iff_getElem->vj,range'->vk,mem_filterMap->xA,zip_nil_right->xG,getElem?_set->x9,mapM_toArray->ya,filter_congr->yb,take_length->AV,getElem_map->AY,map_snd_zip->AZ,getElem_zip->A3,all_toArray->A4,forIn_cons->Bc,replicate->CV
open PySem.Heap renaming get?_push_of_some->ah,lt_size->aG,get?_push_size->aL,get?_update_other->cF,SameBut->jD,get?_update_self->j5,size_push->kz,size_update->mX,get?_update_ne->wD
open Sum renaming inl->av,inr->mK
open Nat renaming le_refl->az,lt_of_lt_of_le->a7,ne_of_lt->be,le_trans->bO,zero_le->bW,lt_irrefl->cb,le_of_succ_le->gU,le_of_lt->iB,le_of_eq->jI,mul_le_mul->kK,pow_le_pow_right->kM,zero_add->ua,mul_le_mul_right->wJ,min_eq_right->Bi,min_eq_left->CZ
open Bool renaming false_ne_true->aM,and_eq_true->aT,eq_iff_iff->ce,false_eq_true->dO,or_eq_true->im,and_self->lm,true_and->lp
open PySem.Value renaming none->bq,ref->bI,int->eC,bool->fG,type->fH,str->rC,isStrOf->CU
open PySem.PassesOwn renaming never->bA
open Option.some renaming inj->bH
open Array renaming length_toList->bJ,perm_iff_toList_perm->cB,getElem?_toList->fg,getElem?_eq_getElem->gf,toArray_toList->kn,getD_eq_getD_getElem?->ox,getElem?_eq_none->rL,forIn_toList->wI
open PySem.PyData renaming depthAll->bN,canLayAll0->cf,eqv->cp,canLay0->cz,depth->dE,eqvAll->e5
open PySem.Obj renaming mapSeq->bQ,data_mapFields->xY
open PyProof.Rows renaming seqObj->bR,envOfC->dR,slot_tuple_getitem->dX,callWith_type1->eS,KeyOrd->eZ,IntsAre->fy,get?_update_seq->fJ,listUpdate_at->fR,SortKind->ib,listItems_at->iU,IsTup->jd,AllBare->kH,seqEpoch_at->lR,oneType'->oP,failedOf->t7,subscriptTail->wx,subscriptTail_builtinR->xV,tuples'->x6,arrOf->Bb,keyKind'->Bf,entry_proto_collect'->Bg,callWith_kw->Bh,entry_tuple_getitem->CW
open PySem.Paired renaming length->bY
open False renaming elim->b0
open Option renaming map_some->cc,isSome_iff_exists->iR,isSome_map->lN,map_eq_some_iff->rE,isSome_some->vi,getD_none->xH
open PySem.Str renaming ofString->cw
open Or renaming inr->cL,inl->cR
open Sum.inl renaming inj->cM
open PySem.Builtin.Tuple renaming tupleExact->cY,tupleItemsOf->lh
open PySem.Around renaming under_plainId->dg,frames_deeper->tR
open PyProof.Rows.KeyOrd renaming kle_refl->dt,kle_of_klt->gM,kle_trans->g4,kle_antisymm->kx
open PySem.F renaming plain_max_loop->dB,args_tuple_add_2->iM,entry_tuple_add->iS,plainAttrs_list->iT,slot_tuple_add->jf,slot_dict_get->jy,slot_tuple_lt->jA,args_dict_get_3->o6,plainAttrs_dict->o7,args_tuple_lt_2->o8,plain_list_iadd->pd,plain_tuple_new->pe,slot_dict_items->pg,entry_dict_get->p0,entry_tuple_lt->p3,entry_max_loop->p7
open PySem.Heap.SameBut renaming update->d9
open PySem.Builtin.Slice renaming slicePlaces->e8,sliceAdjust->h9,sliceApplied->lg
open Int renaming mul_zero->gk,toNat_natCast->gS,mul_one->ik,zero_add->jM,zero_mul->jN,one_mul->kL,emod_lt_of_pos->lZ,add_zero->mQ,pow_pos->oA,emod_nonneg->oQ,mul_assoc->rO,mul_comm->ub,le_of_lt->ue,add_comm->ug,natCast_add->C0
open PySem.NameKind renaming free->gT,cell->xX
open PySem.Builtin.List renaming listExtendWith->g5,listTooLong->il
open True renaming intro->iH
open ForInStep renaming yield->ja
open PySem.Calls renaming callWith_builtin->jz,spliced_cons->lf,Name_function_global->oF,evalArgs_plain->t6,spliced_nil->xD
open PySem.Builtin.Dict_items renaming ownsTuple->jG
open PySem.Builtin.Builtins renaming bindParams->ko
open Prod renaming ext->ku,fst->CY
open Classical renaming choose->lj,choose_spec->pf
open List.cons renaming injEq->l5
open PyProof.Rows.IsTup renaming new->mM
open PySem.Builtin.Dict renaming updateFrom->mP,showsAll->ni
open PyProof.Rows.SortSt renaming mk'->oy
open PySem.Walks renaming list->oN
open List.Pairwise renaming nil->o9
open List.Perm renaming cons_inv->rM
open PySem.Heap.DictOf renaming new->tT
open StateT renaming run_pure->xZ
set_option Elab.async false
set_option linter.all false
set_option maxRecDepth 100000
namespace L2
open PySem PySem.Spec PyProof.Rows
noncomputable abbrev Key:=Sum Int bv
noncomputable def qC:Key->ag->Bool
 | .inl k,v=>Value.isInt k v
 | .inr x,v=>CU x v
noncomputable def K0 (w:bT):Key->Int
 | .inl k=>hashInt k
 | .inr x=>hashStr w x
theorem dr:∀ {k:Key} {v:ag},qC k v=true->(∃ i t,k=av i/\v=eC i t)\/(∃ x t,k=mK x/\v=rC x t)
 | .inl i,v,h=>by
   obtain ⟨t,e⟩:=Value.isInt_shape (k:=i) (v:=v) h
   exact .inl ⟨i,t,rfl,e⟩
 | .inr x,v,h=>by
   obtain ⟨t,e⟩:=Value.isStrOf_shape (x:=x) (v:=v) h
   exact .inr ⟨x,t,rfl,e⟩
theorem zE (i:Int) (t:xS):qC (.inl i) (.int i t)=true:=by simp [qC,Value.isInt]
theorem yK (x:bv) (t:xS):qC (.inr x) (.str x t)=true:=by simp [qC,CU]
theorem FS (a b:Int):decide ((av a:Key)=av b)=(a == b):=by
 by_cases e:a=b
 ·subst e;simp
 ·have h:¬ (av a:Key)=av b:=fun q=>e (cM q)
  rw [decide_eq_false h]
  exact (beq_eq_false_iff_ne.mpr e).symm
theorem IP (a b:bv):decide ((mK a:Key)=mK b)=decide (a=b):=by
 by_cases e:a=b
 ·subst e;simp
 ·have h:¬ (mK a:Key)=mK b:=fun q=>e (Sum.inr.inj q)
  rw [decide_eq_false h,decide_eq_false e]
theorem HF (a:Int) (b:bv):decide ((av a:Key)=mK b)=false:=decide_eq_false (fun q=>nomatch q)
theorem Gy (a:bv) (b:Int):decide ((mK a:Key)=av b)=false:=decide_eq_false (fun q=>nomatch q)
noncomputable def cy (prog:bh) (w:bT):PySem.KeyKind prog w Key where
 is:=qC
 hash:=K0 w
 inj:=fun v a b ha hb=>by
  rcases dr ha with ⟨i,t,rfl,rfl⟩ | ⟨x,t,rfl,rfl⟩
  ·rcases dr hb with ⟨j,u,rfl,e⟩ | ⟨y,u,rfl,e⟩
   ·injection e with e1 _;rw [e1]
   ·exact nomatch e
  ·rcases dr hb with ⟨j,u,rfl,e⟩ | ⟨y,u,rfl,e⟩
   ·exact nomatch e
   ·injection e with e1 _;rw [e1]
 byValue:=fun k v h=>by
  rcases dr h with ⟨i,t,rfl,rfl⟩ | ⟨x,t,rfl,rfl⟩<;>rfl
 pyHash:=fun hv h=>by
  rcases dr hv with ⟨i,t,rfl,rfl⟩ | ⟨x,t,rfl,rfl⟩
  ·exact wpAny_pyHash_int h
  ·exact wpAny_pyHash_str h
 eqBool:=fun hu hv h=>by
  rcases dr hu with ⟨i,t,rfl,rfl⟩ | ⟨x,t,rfl,rfl⟩
  ·rcases dr hv with ⟨j,u,rfl,rfl⟩ | ⟨y,u,rfl,rfl⟩
   ·rw [FS] at h;exact pY h
   ·rw [HF] at h;exact SeqAt.EqAt.int_str i t y u _ _ _ _ h
  ·rcases dr hv with ⟨j,u,rfl,rfl⟩ | ⟨y,u,rfl,rfl⟩
   ·rw [Gy] at h;exact SeqAt.EqAt.str_int x t j u _ _ _ _ h
   ·rw [IP] at h;exact wpAny_eqBool_str h
 «strs»:=fun k x t v h=>by
  rcases dr h with ⟨i,u,rfl,e⟩ | ⟨y,u,rfl,e⟩
  ·exact nomatch e
  ·injection e with e1 _
   subst e1
   cases v<;>rfl
theorem uj (prog:bh) (w:bT) (i:Int) (t:xS):(cy prog w).is (.inl i) (.int i t)=true:=zE i t
theorem ui (prog:bh) (w:bT) (x:bv) (t:xS):(cy prog w).is (.inr x) (.str x t)=true:=yK x t
inductive V where
 | non | bl (b:Bool) | int (i:Int) | str (x:bv) | byt (b:Array UInt8) | flt (b:UInt64) | ref (a:au) | ty (n:String)
 deriving DecidableEq
noncomputable def fZ:V->ag->Prop
 | .non,u=>u=bq
 | .bl b,u=>u=fG b
 | .int i,u=>∃ t,u=eC i t
 | .str x,u=>∃ t,u=rC x t
 | .byt b,u=>∃ t,u=Value.bytes b t
 | .flt b,u=>∃ t,u=Value.float b t
 | .ref a,u=>u=bI a
 | .ty n,u=>u=fH n
noncomputable abbrev dJ:List V->List ag->Prop:=m6 fZ
theorem dJ.length {xs:List V} {us:List ag} (r:dJ xs us):xs.length=us.length:=bY r
theorem dJ.get:∀ {xs:List V} {us:List ag} {i:Nat} {x:V},dJ xs us->xs[i]?=some x->∃ u,us[i]?=some u/\fZ x u
 | _,_,_,_,.nil,e=>by simp at e
 | _,_,0,_,.cons r _,e=>by simp at e;subst e;exact ⟨_,rfl,r⟩
 | _,_,i+1,x,.cons _ t,e=>by
   obtain ⟨u,h1,h2⟩:=dJ.get (i:=i) (x:=x) t (by simpa using e)
   exact ⟨u,by simpa using h1,h2⟩
theorem dJ.append:∀ {xs ys:List V} {us ws:List ag},dJ xs us->dJ ys ws->dJ (xs++ys) (us++ws)
 | _,_,_,_,.nil,s=>s
 | _,_,_,_,.cons r t,s=>.cons r (dJ.append t s)
theorem dJ.take:∀ {xs:List V} {us:List ag} (n:Nat),dJ xs us->dJ (xs.take n) (us.take n)
 | _,_,0,_=>.nil
 | _,_,_+1,.nil=>.nil
 | _,_,n+1,.cons r t=>.cons r (dJ.take n t)
theorem dJ.drop:∀ {xs:List V} {us:List ag} (n:Nat),dJ xs us->dJ (xs.drop n) (us.drop n)
 | _,_,0,r=>r
 | _,_,_+1,.nil=>.nil
 | _,_,n+1,.cons _ t=>dJ.drop n t
noncomputable def xQ:Option V->Option ag->Prop
 | some v,some u=>fZ v u
 | none,none=>True
 | _,_=>False
noncomputable def KV {κ:Type}:List (κ×V)->List (κ×ag)->Prop:=m6 fun (p:κ×V) (q:κ×ag)=>p.1=q.1/\fZ p.2 q.2
noncomputable def kV:Key->V
 | .inl i=>.int i
 | .inr x=>.str x
inductive HO where
 | lst (xs:List V)
 | tup (xs:List V)
 | dK (kvs:List (Key×V)) | dT (kvs:List (List Key×V))
 | set (S:Int->Bool) (n:Nat)
 | ins (C dx:au) (fs:List (bv×V))
 | own (x:au)
 | xd (fs:List (bv×V))
 | met (f x:au)
 | rng (lo hi:Int)
 | frz (o:cX) (u:HO)
 | tbl (ps:Array ag)
 | tab (q:bv)
 | cod (q:bv)
 | ext (φ:b9->Prop)
noncomputable abbrev Hp:=au->Option HO
noncomputable def upd (H:Hp) (a:au) (o:HO):Hp:=fun b=>if b=a then some o else H b
theorem aU {H:Hp} {a:au} {o:HO}:upd H a o a=some o:=by unfold upd;rw [if_pos rfl]
theorem a8 {H:Hp} {a b:au} {o:HO} (h:b≠a):upd H a o b=H b:=by unfold upd;rw [if_neg h]
theorem Jb {H:Hp} {a b:au} {o u:HO} (h:H a=some o) (h':H b=some u) (d:o≠u):a≠b:=by
 intro e;subst e;rw [h] at h';exact d (bH h')
theorem bV {H:Hp} {a b:au} {o:HO} (h:H a=some o) (h':H b=none):a≠b:=by
 intro e;subst e;rw [h] at h';cases h'
noncomputable def lH (h:b9) (a:au):Prop:=∃ o,h.get? a=some o/\o.dict=none
theorem lH.new (h:b9) (o:cX) (e:o.dict=none:=by rfl) (f:o.isFreed=false:=by rfl):lH (h.push o) h.objs.size:=⟨o,aL _ f,e⟩
noncomputable def wW (H:Hp) (q:bv):List ag->Prop
 | []=>True
 | .int _ _::.int _ _::.ref c::r=>H c=some (.cod q)/\wW H q r
 | _=>False
section
variable (P:bh) (w:bT)
noncomputable def gz (H:Hp) (h:b9) (a:au):HO->Prop
 | .lst xs=>xs.length<=aK/\∃ (its:List ag) (n:Nat),dJ xs its/\h.get? a=some { cls:=.type "list",data:=.seq its.toArray n }
 | .tup xs=>(xs.length<=aK/\lH h a)/\∃ its:List ag,dJ xs its/\jd h a its.toArray
 | .dK kvs=>kvs.length<=aK/\(a == cV)=false/\∃ vs,KV kvs vs/\h.DictOf (cy P w) a vs
 | .dT kvs=>kvs.length<=aK/\(a == cV)=false/\∃ xs:List (List Key×au×ag),
    m6 (fun (p:List Key×V) (q:List Key×au×ag)=>p.1=q.1/\H q.2.1=some (.tup (p.1.map kV))/\fZ p.2 q.2.2) kvs xs /\
    ∃ o es ep,h.get? a=some o/\o.ExactDict/\o.data=.dict es ep/\es.toList=xs.map (entryOfKey (i8 (cy P w)))/\(xs.map (·.1)).Nodup
 | .set S n=>h.SetOf (intKind P w) a S n
 | .ins C dx fs=>H dx=some (.own a)/\fs.length<=1000/\dx≠a/\h.get? a=some (PySem.W.instObj C dx) /\
    ∃ mA,h.Ns1 dx mA/\(∀ f,xQ (fs.lookup f) (mA f))/\PySem.Within mA (fs.map (·.1))
 | .own _=>∃ o,h.get? a=some o
 | .xd fs=>∃ mA,h.Ns1 a mA/\∀ f,xQ (fs.lookup f) (mA f)
 | .rng lo hi=>∃ t u v,h.get? a=some { cls:=.type "range",data:=.fields #[.int lo t,.int hi u,.int 1 v] }
 | .frz o u=>h.get? a=some o/\gz H h a u
 | .tbl ps=>h.get? a=some { cls:=.none,data:=.fields ps }
 | .met f x=>h.get? a=some (lc (.ref f) (.ref x))
 | .tab q=>∃ ps:Array ag,h.get? a=some { cls:=.none,data:=.fields ps }/\wW H q ps.toList
 | .cod q=>h.CodeRec (.ref a) q
 | .ext φ=>φ h/\(∃ o,h.get? a=some o)/\∀ h1 h2:b9,φ h1->(∀ o,h1.get? a=some o->h2.get? a=some o)->φ h2
noncomputable def HOk (H:Hp) (h:b9):Prop:=∀ a o,H a=some o->gz P w H h a o
end
section
variable {P:bh} {w:bT} {H H':Hp} {h h':b9} {a:au} {o:HO}
theorem gz.lt (x:gz P w H h a o):a<h.objs.size:=by
 cases o with
 | lst xs=>obtain ⟨_,_,_,_,e⟩:=x;exact aG e
 | tup xs=>obtain ⟨_,_,_,p⟩:=x;exact p.lt
 | dK kvs=>obtain ⟨_,_,_,_,o,_,_,e,_⟩:=x;exact aG e
 | dT kvs=>obtain ⟨_,_,_,_,o,_,_,e,_⟩:=x;exact aG e
 | set S n=>obtain ⟨o,_,_,_,e,_⟩:=x;exact aG e
 | ins C dx fs=>obtain ⟨_,_,_,e,_⟩:=x;exact aG e
 | own y=>obtain ⟨_,e⟩:=x;exact aG e
 | xd fs=>obtain ⟨_,⟨_,_,_,e,_⟩,_⟩:=x;exact aG e
 | rng lo hi=>obtain ⟨_,_,_,e⟩:=x;exact aG e
 | frz ob u=>obtain ⟨e,_⟩:=x;exact aG e
 | tbl ps=>exact aG (show h.get? a=some _ from x)
 | tab q=>obtain ⟨_,e,_⟩:=x;exact aG e
 | cod q=>obtain ⟨c,_,_,_,e0,e,_⟩:=x;cases e0;exact aG e
 | met f y=>exact aG (show h.get? a=some _ from x)
 | ext φ=>obtain ⟨_,⟨_,e⟩,_⟩:=x;exact aG e
theorem Paired.mapP {α β:Type} {F G:α->β->Prop}:∀ {l₁:List α} {l₂:List β},m6 F l₁ l₂->(∀ a b,F a b->G a b)->m6 G l₁ l₂
 | _,_,.nil,_=>.nil
 | _,_,.cons r t,f=>.cons (f _ _ r) (Paired.mapP t f)
theorem wW.stay {H H':Hp} {q:bv} (hc:∀ b q,H b=some (.cod q)->H' b=some (.cod q)):∀ {l:List ag},wW H q l->wW H' q l:=fun {l} t=>by
 fun_induction wW H q l with
 | case1=>exact t
 | case2 _ _ _ _ c r ih=>exact ⟨hc _ _ t.1,ih t.2⟩
 | case3=>exact t.elim
theorem gz.stay (x:gz P w H h a o) (k:∀ b u,(b=a\/H b=some (.own a))->h.get? b=some u->h'.get? b=some u)
 (ho:∀ b,H b=some (.own a)->H' b=some (.own a)) (ht:∀ b xs,H b=some (.tup xs)->H' b=some (.tup xs)) (hcd:∀ b q,H b=some (.cod q)->H' b=some (.cod q)):gz P w H' h' a o:=by
 induction o with
 | lst xs=>obtain ⟨z,its,n,r,e⟩:=x;exact ⟨z,its,n,r,k _ _ (.inl rfl) e⟩
 | tup xs=>obtain ⟨⟨z,o0,e0,d0⟩,its,r,ob,e,c⟩:=x;exact ⟨⟨z,o0,k _ _ (.inl rfl) e0,d0⟩,its,r,ob,k _ _ (.inl rfl) e,c⟩
 | dK kvs=>obtain ⟨z,y,vs,r,ob,es,ep,e,c⟩:=x;exact ⟨z,y,vs,r,ob,es,ep,k _ _ (.inl rfl) e,c⟩
 | dT kvs =>
   obtain ⟨z,y,xs,r,ob,es,ep,e,c⟩:=x
   exact ⟨z,y,xs,Paired.mapP r fun p q z=>⟨z.1,ht _ _ z.2.1,z.2.2⟩,ob,es,ep,k _ _ (.inl rfl) e,c⟩
 | set S n=>obtain ⟨ob,es,ep,t,e,c⟩:=x;exact ⟨ob,es,ep,t,k _ _ (.inl rfl) e,c⟩
 | ins C dx fs =>
   obtain ⟨d,z,ne,e,mA,⟨od,es,ep,e2,c⟩,r⟩:=x
   exact ⟨ho _ d,z,ne,k _ _ (.inl rfl) e,mA,⟨od,es,ep,k _ _ (.inr d) e2,c⟩,r⟩
 | own y=>obtain ⟨ob,e⟩:=x;exact ⟨ob,k _ _ (.inl rfl) e⟩
 | xd fs=>obtain ⟨mA,⟨od,es,ep,e,c⟩,r⟩:=x;exact ⟨mA,⟨od,es,ep,k _ _ (.inl rfl) e,c⟩,r⟩
 | rng lo hi=>obtain ⟨t,u,v,e⟩:=x;exact ⟨t,u,v,k _ _ (.inl rfl) e⟩
 | frz ob u ih=>obtain ⟨e,q⟩:=x;exact ⟨k _ _ (.inl rfl) e,ih q⟩
 | tbl ps =>
   have e:h.get? a=some { cls:=.none,data:=.fields ps }:=x
   show h'.get? a=some { cls:=.none,data:=.fields ps }
   exact k a _ (.inl rfl) e
 | tab q=>obtain ⟨ps,e,t⟩:=x;exact ⟨ps,k _ _ (.inl rfl) e,t.stay hcd⟩
 | cod q=>obtain ⟨c,o,vs,t,e0,e,r⟩:=x;cases e0;exact ⟨_,o,vs,t,rfl,k _ _ (.inl rfl) e,r⟩
 | met f y =>
   have e:h.get? a=some (lc (.ref f) (.ref y)):=x
   show h'.get? a=some (lc (.ref f) (.ref y))
   exact k a _ (.inl rfl) e
 | ext φ=>obtain ⟨p,⟨o,e⟩,st⟩:=x;exact ⟨st _ _ p fun o q=>k _ _ (.inl rfl) q,⟨o,k _ _ (.inl rfl) e⟩,st⟩
theorem HOk.lt (x:HOk P w H h) (e:H a=some o):a<h.objs.size:=(x a o e).lt
theorem HOk.fresh (x:HOk P w H h) (e:h.objs.size<=a):H a=none:=by
 cases q:H a with
 | none=>rfl
 | some u=>exact absurd (a7 (x.lt q) e) (cb _)
theorem HOk.kept (x:HOk P w H h) (k:∀ b u,h.get? b=some u->h'.get? b=some u):HOk P w H h':=fun a o e =>
 (x a o e).stay (fun b u _ q=>k b u q) (fun _ q=>q) (fun _ _ q=>q) fun _ _ q=>q
theorem HOk.laid (x:HOk P w H h) (k:∀ b u,h.get? b=some u->h'.get? b=some u) (hp:h.objs.size<=a) (new:gz P w (upd H a o) h' a o):HOk P w (upd H a o) h':=fun b u e=>by
 have hn:=x.fresh hp
 by_cases hb:b=a
 ·subst hb;rw [aU] at e;cases e;exact new
 ·rw [a8 hb] at e
  exact (x b u e).stay (fun c v _ q=>k c v q) (fun c q=>by rw [a8 (bV q hn)];exact q) (fun c xs q=>by rw [a8 (bV q hn)];exact q) fun c xs q=>by rw [a8 (bV q hn)];exact q
end
noncomputable def Rd (H:Hp) (a:au) (u:HO):Prop:=H a=some u\/∃ o,H a=some (.frz o u)
theorem Rd.ok {P:bh} {w:bT} {H:Hp} {h:b9} {a:au} {u:HO} (r:Rd H a u) (x:HOk P w H h):gz P w H h a u:=by
 rcases r with r | ⟨o,r⟩
 ·exact x a u r
 ·obtain ⟨_,q⟩:=x a _ r
  exact q
noncomputable def Mut:Option HO->Prop
 | some (.lst _)=>True
 | some (.dK _)=>True
 | some (.dT _)=>True
 | some (.set _ _)=>True
 | some (.ins _ _ _)=>True
 | some (.ext _)=>True
 | _=>False
section
variable {P:bh} {w:bT} {H:Hp} {h h':b9} {x e:au} {o':HO}
theorem HOk.write (ok:HOk P w H h) (mu:Mut (H x)) (he:e=x\/H e=some (.own x)) (k:∀ b u,b≠e->h.get? b=some u->h'.get? b=some u) (heo:∃ u,h'.get? e=some u)
 (new:gz P w (upd H x o') h' x o'):HOk P w (upd H x o') h':=fun b u q=>by
 have nown:∀ c y,H c=some (.own y)->c≠x:=fun c y r z=>by subst z;rw [r] at mu;exact mu
 have ntup:∀ c xs,H c=some (.tup xs)->c≠x:=fun c xs r z=>by subst z;rw [r] at mu;exact mu
 by_cases hb:b=x
 ·subst hb;rw [aU] at q;cases q;exact new
 ·rw [a8 hb] at q
  by_cases hbe:b=e
  ·have q':H b=some (.own x):=by
    rcases he with z | z
    ·exact absurd (hbe.trans z) hb
    ·rw [hbe];exact z
   rw [q] at q';cases q'
   obtain ⟨v,hv⟩:=heo
   exact ⟨v,by rw [hbe];exact hv⟩
  ·refine (ok b u q).stay (fun c v hc r=>k c v ?_ r) (fun c r=>by rw [a8 (nown c b r)];exact r) (fun c xs r=>by rw [a8 (ntup c xs r)];exact r) fun c q r=>by rw [a8 (show c≠x from fun z=>by subst z;rw [r] at mu;exact mu)];exact r
   rcases hc with rfl | hc
   ·exact hbe
   ·rintro rfl
    rcases he with z | z
    ·exact nown c b hc z
    ·rw [hc] at z;cases z;exact hb rfl
end
structure Un (fs ex:List au) (H H':Hp) (h h':b9):Prop where
 keep:∀ b o,h.get? b=some o->H b=none->b∉fs->b∉ex->h'.get? b=some o
 slot:∀ b o,h.get? b=some o->H b=none->b∈fs->b∉ex->∃ sl,h'.get? b=some { o with slots:=sl }
 free:∀ b o,h.get? b=some o->H b=none->b∉ex->H' b=none
 there:∀ b o,h.get? b=some o->b∉ex->∃ o',h'.get? b=some o'
 tups:∀ b xs,H b=some (.tup xs)->H' b=some (.tup xs)
 frzs:∀ b o u,H b=some (.frz o u)->H' b=some (.frz o u)
 tbls:∀ b ps,H b=some (.tbl ps)->∃ more,H' b=some (.tbl (ps++more))
section
variable {fs fs' ex ex':List au} {H H1 H2:Hp} {h h1 h2 h':b9} {a x e:au} {o:HO}
theorem Un.any (u:Un fs ex H H1 h h1) {b:au} {ob:cX} (q:h.get? b=some ob) (n:H b=none) (hx:b∉ex):∃ sl,h1.get? b=some { ob with slots:=sl }:=by
 by_cases hb:b∈fs
 ·exact u.slot b ob q n hb hx
 ·exact ⟨ob.slots,u.keep b ob q n hb hx⟩
theorem Un.kept (k:∀ b u,h.get? b=some u->h'.get? b=some u):Un fs ex H H h h' :=
 ⟨fun b ob q _ _ _=>k b ob q,fun b ob q _ _ _=>⟨ob.slots,k b ob q⟩,fun _ _ _ n _=>n,fun b ob q _=>⟨ob,k b ob q⟩,fun _ _ q=>q,fun _ _ _ q=>q,fun _ ps q=>⟨#[],by rw [q];simp⟩⟩
theorem Un.refl:Un fs ex H H h h:=Un.kept fun _ _ q=>q
theorem Un.laid (k:∀ b u,h.get? b=some u->h'.get? b=some u) (hp:h.objs.size<=a) (hn:H a=none):Un fs ex H (upd H a o) h h' where
 keep:=fun b u q _ _ _=>k b u q
 slot:=fun b u q _ _ _=>⟨u.slots,k b u q⟩
 free:=fun b u q n _=>by rw [a8 (be (a7 (aG q) hp))];exact n
 there:=fun b u q _=>⟨u,k b u q⟩
 tups:=fun b xs q=>by rw [a8 (bV q hn)];exact q
 frzs:=fun b u xs q=>by rw [a8 (bV q hn)];exact q
 tbls:=fun b ps q=>⟨#[],by rw [a8 (bV q hn),q];simp⟩
theorem Un.write (mu:Mut (H x)) (he:e=x\/H e=some (.own x)) (k:∀ b u,b≠e->h.get? b=some u->h'.get? b=some u) (heo:∃ u,h'.get? e=some u):Un fs ex H (upd H x o) h h':=by
 have hx:∀ b,H b=none->b≠x:=fun b n z=>by subst z;rw [n] at mu;exact mu
 have hb:∀ b,H b=none->b≠e:=fun b n z=>by
  subst z
  rcases he with r | r
  ·exact hx b n r
  ·rw [n] at r;cases r
 have hm:∀ b u,H b=some u->¬ Mut (some u)->b≠x:=fun b u q nm z=>by subst z;rw [q] at mu;exact nm mu
 refine ⟨fun b u q n _ _=>k b u (hb b n) q,fun b u q n _ _=>⟨u.slots,k b u (hb b n) q⟩,fun b u q n _=>by rw [a8 (hx b n)];exact n,fun b u q _=>?_,
  fun b xs q=>by rw [a8 (hm b _ q fun z=>z)];exact q,fun b u xs q=>by rw [a8 (hm b _ q fun z=>z)];exact q,fun b ps q=>⟨#[],by rw [a8 (hm b _ q fun z=>z),q];simp⟩⟩
 by_cases hbe:b=e
 ·subst hbe;exact heo
 ·exact ⟨u,k b u hbe q⟩
end
noncomputable def trk (h:b9) (H:Hp):List au:=(bG h.objs.size).filter fun a=>(H a).isSome
noncomputable def A9 (h:b9) (H:Hp):b9:=PySem.W.hideAll h (trk h H)
theorem AH (h:b9) (H:Hp):(A9 h H).objs.size=h.objs.size:=PySem.W.hideAll_size _ _
theorem B5 {h:b9} {H:Hp} {b:au} {o:cX} (e:h.get? b=some o) (n:H b=none):(A9 h H).get? b=some o :=
 PySem.W.hideAll_get _ e fun hm=>by
  have q:(H b).isSome=true:=(a9.mp hm).2
  rw [n] at q;simp at q
theorem Fx {h:b9} {H:Hp} {b:au} {o:cX} (e:(A9 h H).get? b=some o):h.get? b=some o/\H b=none:=by
 have e':h.get? b=some o:=PySem.W.of_hideAll (trk h H) e
 refine ⟨e',?_⟩
 cases q:H b with
 | none=>rfl
 | some x =>
   have hm:b∈trk h H:=a9.mpr ⟨iG.mpr (aG e'),by simp [q]⟩
   have z:(A9 h H).get? b=none:=PySem.W.hideAll_none (trk h H) hm
   rw [z] at e;cases e
structure Mod (K:ae) (mg:bv->Option ag) (base:b9):Prop where
 kin:K.In base
 glob:base.Ns bF mg
 blt:∃ mb,base.Ns m7 mb/\∀ x:bv,x≠"__name__"->mb x=h8 x
 nolimit:base.NoLimit
structure Cx where
 prog:bh
 w:bT
 K:ae
 mg:bv->Option ag
 base:b9
 A:bE
 N:List bv
 s₀:ai
 H₀:Hp
 env:m8
 outer:List m8
 stack:List m8
 ex:List au
 fn:bv->Bool
 calm:Bool
 pn:List (au×cX)
 xe:ag->ai->Prop
noncomputable def frs (l:List m8):List au:=l.filterMap (·.frame)
noncomputable abbrev Cx.fs (X:Cx):List au:=frs X.outer
noncomputable def Vis (sc:dG) (x:bv):Prop:=sc.names.lookup x=some .local\/sc.names.lookup x=some .cell\/sc.names.lookup x=some .free
noncomputable def Loc (sc:dG) (x:bv):Prop:=sc.names.lookup x=some .local\/sc.names.lookup x=some .cell
noncomputable def KJ (env:m8) (h:b9) (m:bv->Option ag) (x:bv) (u:ag):Prop :=
 (env.kindOf x=some .local/\m x=some u)\/((env.kindOf x=some .cell\/env.kindOf x=some .free)/\∃ c,env.cells.lookup x=some c/\h.IsCell c (some u))
structure Cx.Ok (X:Cx):Prop where
 mod:Mod X.K X.mg X.base
 kind:X.env.scope.kind=.function
 glob:X.env.globals=bF
 blt:X.env.builtins=m7
 above:X.s₀.heap.objs.size<=X.env.locals
 inj:∀ x y c,X.env.cells.lookup x=some c->X.env.cells.lookup y=some c->x=y
 has:∀ x,(X.env.kindOf x=some .cell\/X.env.kindOf x=some .free)->∃ c,X.env.cells.lookup x=some c
 cab:∀ x c,X.fn x=true->X.env.cells.lookup x=some c->X.s₀.heap.objs.size<=c
 hd:X.calm=true->X.A.handled=none
 frames:X.A.frames=some X.stack
 stk:X.stack=X.outer\/(X.stack=X.env::X.outer/\X.env.frame=some X.env.locals)
 exf:∀ b∈X.ex,b≠X.env.locals/\∀ x c,X.env.cells.lookup x=some c->c≠b
 bs:∀ b o,X.base.get? b=some o->X.s₀.heap.get? b=some o/\X.H₀ b=none
 bsz:X.base.objs.size<=X.s₀.heap.objs.size
 noex:∀ b o,X.base.get? b=some o->b∉X.ex
 exfs:∀ b∈X.ex,b∉X.fs
 funs:X.s₀.heap.FunFrames X.base X.outer
 frf:∀ b∈X.fs,X.H₀ b=none
structure Inv (X:Cx) (pins:List (au×cX)) (σ:List (Option V)) (H:Hp) (s:ai):Prop where
 ok:X.Ok
 os:s.os=X.s₀.os
 bare:kH s.gens
 base:Un X.fs X.ex X.H₀ H X.s₀.heap s.heap
 loc:∃ m,s.heap.Ns X.env.locals m/\∀ (i:Nat) (x:bv) (v:V),X.N[i]?=some x->σ[i]?=some (some v)->Vis X.env.scope x->∃ u,fZ v u/\KJ X.env s.heap m x u
 cell:∀ x c,X.env.cells.lookup x=some c->∃ v,s.heap.IsCell c v
 free:H X.env.locals=none
 freeC:∀ x c,X.env.cells.lookup x=some c->H c=none
 pin:∀ p∈X.pn++pins,s.heap.get? p.1=some p.2/\H p.1=none/\p.1≠X.env.locals/\p.1∉X.fs/\∀ v,p.2.data≠.cell v
 hok:HOk X.prog X.w H s.heap
 len:σ.length=X.N.length
section
variable {X:Cx} {pins:List (au×cX)} {σ:List (Option V)} {H H':Hp} {s:ai} {h':b9}
theorem Cx.Ok.nofr (ok:X.Ok) {b:au} {o:cX} (e:X.base.get? b=some o):b∉X.fs:=fun hb=>by
 have:=(ok.funs.mem hb).1
 rw [e] at this;cases this
theorem Inv.bs (I:Inv X pins σ H s):∀ b o,X.base.get? b=some o->s.heap.get? b=some o/\H b=none:=fun b o e =>
 ⟨I.base.keep b o (I.ok.bs b o e).1 (I.ok.bs b o e).2 (I.ok.nofr e) (I.ok.noex b o e),I.base.free b o (I.ok.bs b o e).1 (I.ok.bs b o e).2 (I.ok.noex b o e)⟩
theorem Inv.bk (I:Inv X pins σ H s):∀ b o,X.base.get? b=some o->s.heap.get? b=some o:=fun b o e=>(I.bs b o e).1
theorem Inv.mod (I:Inv X pins σ H s):Mod X.K X.mg X.base:=I.ok.mod
theorem Inv.kIn (I:Inv X pins σ H s):X.K.In s.heap:=I.ok.mod.kin.keeps I.bk
theorem Inv.nolimit (I:Inv X pins σ H s):s.heap.NoLimit:=I.ok.mod.nolimit.keeps I.bk
theorem Inv.lt (I:Inv X pins σ H s):X.env.locals<s.heap.objs.size:=let ⟨_,hn,_⟩:=I.loc;hn.lt
theorem Inv.sz (I:Inv X pins σ H s):X.s₀.heap.objs.size<=s.heap.objs.size:=bO I.ok.above (iB I.lt)
theorem Inv.nofs (I:Inv X pins σ H s) {a:au} (h:s.heap.objs.size<=a):a∉X.fs:=fun hb=>by
 obtain ⟨_,o,ho,_⟩:=I.ok.funs.mem hb
 exact absurd (a7 (aG ho) (bO I.sz h)) (cb _)
theorem Inv.cne (I:Inv X pins σ H s):∀ x c,X.env.cells.lookup x=some c->c≠X.env.locals:=fun x c e z=>by
 obtain ⟨v,o,ho,hd⟩:=I.cell x c e
 obtain ⟨m,⟨o',es,ep,ho',hd',_⟩,_⟩:=I.loc
 rw [z,ho'] at ho;cases ho;rw [hd'] at hd;cases hd
theorem Inv.funs (I:Inv X pins σ H s):s.heap.FunFrames X.base X.outer:=by
 have all:∀ (l:List m8),(∀ b∈frs l,b∈X.fs)->X.s₀.heap.FunFrames X.base l->s.heap.FunFrames X.base l:=by
  intro l
  induction l with
  | nil=>intro _ _;trivial
  | cons env r ih =>
    intro hs hl
    obtain ⟨hk,⟨L,o,hf,hn,ho,hd⟩,hr⟩:=hl
    have hL:L∈X.fs:=hs L (by unfold frs;rw [k8,hf];exact am)
    obtain ⟨sl,e⟩:=I.base.slot L o ho (I.ok.frf L hL) hL fun z=>I.ok.exfs L z hL
    exact ⟨hk,⟨L,_,hf,hn,e,hd⟩,ih (fun b hb=>hs b (by unfold frs;rw [k8,hf];exact al _ hb)) hr⟩
 exact all X.outer (fun _ hb=>hb) I.ok.funs
theorem Inv.stack (I:Inv X pins σ H s):s.heap.FunFrames X.base X.stack:=by
 rcases I.ok.stk with e | ⟨e,hf⟩
 ·rw [e];exact I.funs
 ·rw [e]
  obtain ⟨m,hn,_⟩:=I.loc
  refine .cons (by rw [I.ok.kind];decide) hf hn ?_ I.funs
  exact Heap.get?_none_of_le (bO I.ok.bsz I.ok.above)
theorem Inv.stkSub (I:Inv X pins σ H s):∀ b∈frs X.stack,b∈X.env.locals::X.fs:=fun b hb=>by
 rcases I.ok.stk with e | ⟨e,hf⟩
 ·rw [e] at hb;exact al _ hb
 ·rw [e] at hb
  unfold frs at hb
  rw [k8,hf] at hb
  exact hb
theorem Inv.stkFree (I:Inv X pins σ H s):∀ b∈frs X.stack,H b=none:=fun b hb=>by
 rcases aE.mp (I.stkSub b hb) with e | hb
 ·rw [e];exact I.free
 ·obtain ⟨_,o,ho,_⟩:=I.ok.funs.mem hb
  exact I.base.free b o ho (I.ok.frf b hb) fun z=>I.ok.exfs b z hb
theorem Inv.step {g':Array GenState} {t':Nat} {d':Drawn} {ch:List au} (I:Inv X pins σ H s)
 (hch:∀ b∈ch,(b∈X.ex\/X.s₀.heap.objs.size<=b)/\b≠X.env.locals/\(∀ x c,X.env.cells.lookup x=some c->c≠b)/\∀ p∈X.pn++pins,p.1≠b)
 (keep:∀ b o,b≠X.env.locals->b∉X.fs->b∉ch->s.heap.get? b=some o->H b=none->h'.get? b=some o)
 (slot:∀ b o,b≠X.env.locals->b∈X.fs->b∉ch->s.heap.get? b=some o->H b=none->∃ sl,h'.get? b=some { o with slots:=sl }) (free:∀ b o,b∉ch->s.heap.get? b=some o->H b=none->H' b=none)
 (there:∀ b o,b∉ch->s.heap.get? b=some o->∃ o',h'.get? b=some o')
 (tups:∀ b xs,H b=some (.tup xs)->H' b=some (.tup xs)) (frzs:∀ b o u,H b=some (.frz o u)->H' b=some (.frz o u)) (tbls:∀ b ps,H b=some (.tbl ps)->∃ more,H' b=some (.tbl (ps++more)))
 (ns:∀ m,s.heap.Ns X.env.locals m->h'.Ns X.env.locals m) (hok:HOk X.prog X.w H' h') (hg:kH g') :
 Inv X pins σ H' { s with heap:=h',gens:=g',drawn:=d',toks:=t' }:=by
 have neL:∀ b o,X.s₀.heap.get? b=some o->b≠X.env.locals:=fun b o e=>be (a7 (aG e) I.ok.above)
 have neC:∀ b o,X.s₀.heap.get? b=some o->b∉X.ex->b∉ch:=fun b o e hx hb=>by
  rcases (hch b hb).1 with z | z
  ·exact hx z
  ·exact absurd (a7 (aG e) z) (cb _)
 have cellK:∀ x c,X.env.cells.lookup x=some c->∀ v,s.heap.IsCell c v->h'.IsCell c v:=fun x c e v ⟨o,ho,hd⟩=>by
  have nch:c∉ch:=fun z=>(hch c z).2.2.1 x c e rfl
  by_cases hc:c∈X.fs
  ·obtain ⟨sl,q⟩:=slot c o (I.cne x c e) hc nch ho (I.freeC x c e)
   exact ⟨_,q,hd⟩
  ·exact ⟨o,keep c o (I.cne x c e) hc nch ho (I.freeC x c e),hd⟩
 refine ⟨I.ok,I.os,hg,⟨fun b o e n hb hx=>?_,fun b o e n hb hx=>?_,fun b o e n hx=>?_,fun b o e hx=>?_,fun b xs e=>tups b xs (I.base.tups b xs e),fun b o xs e=>frzs b o xs (I.base.frzs b o xs e),fun b ps e=>?_⟩,?_,fun x c e=>?_,?_,fun x c e=>?_,fun p hp=>?_,hok,I.len⟩
 ·exact keep b o (neL b o e) hb (neC b o e hx) (I.base.keep b o e n hb hx) (I.base.free b o e n hx)
 ·obtain ⟨sl,e1⟩:=I.base.slot b o e n hb hx
  obtain ⟨sl',e2⟩:=slot b _ (neL b o e) hb (neC b o e hx) e1 (I.base.free b o e n hx)
  exact ⟨sl',e2⟩
 ·obtain ⟨o',e1⟩:=I.base.there b o e hx
  exact free b o' (neC b o e hx) e1 (I.base.free b o e n hx)
 ·obtain ⟨o',e1⟩:=I.base.there b o e hx
  exact there b o' (neC b o e hx) e1
 ·obtain ⟨m1,e1⟩:=I.base.tbls b ps e
  obtain ⟨m2,e2⟩:=tbls b _ e1
  exact ⟨m1++m2,by rw [e2,Array.append_assoc]⟩
 ·obtain ⟨m,hn,hl⟩:=I.loc
  refine ⟨m,ns m hn,fun i x v e1 e2 e3=>?_⟩
  obtain ⟨u,r,l⟩:=hl i x v e1 e2 e3
  refine ⟨u,r,?_⟩
  rcases l with l | ⟨k,c,e,z⟩
  ·exact .inl l
  ·exact .inr ⟨k,c,e,cellK x c e _ z⟩
 ·obtain ⟨v,z⟩:=I.cell x c e
  exact ⟨v,cellK x c e v z⟩
 ·obtain ⟨m,⟨o,_,_,ho,_⟩,_⟩:=I.loc
  exact free _ o (fun z=>(hch _ z).2.1 rfl) ho I.free
 ·obtain ⟨v,o,ho,hd⟩:=I.cell x c e
  exact free c o (fun z=>(hch c z).2.2.1 x c e rfl) ho (I.freeC x c e)
 ·obtain ⟨e,n,ne,nf,d⟩:=I.pin p hp
  have nch:p.1∉ch:=fun z=>(hch p.1 z).2.2.2 p hp rfl
  exact ⟨keep p.1 p.2 ne nf nch e n,free p.1 p.2 nch e n,ne,nf,d⟩
theorem Inv.un {t':Nat} (I:Inv X pins σ H s) (u:Un X.fs [] H H' s.heap h') (hok:HOk X.prog X.w H' h'):Inv X pins σ H' { s with heap:=h',toks:=t' }:=by
 obtain ⟨m,⟨o,es,ep,ho,r⟩,_⟩:=id I.loc
 obtain ⟨sl,hL⟩:=u.any ho I.free (by simp)
 exact I.step (g':=s.gens) (d':=s.drawn) (ch:=[]) (fun _ z=>nomatch z) (fun b o _ hb _ e n=>u.keep b o e n hb (by simp)) (fun b o _ hb _ e n=>u.slot b o e n hb (by simp)) (fun b o _ e n=>u.free b o e n (by simp)) (fun b o _ e=>u.there b o e (by simp)) u.tups u.frzs u.tbls (fun m' hm=>by
  obtain ⟨o',es',ep',ho',r'⟩:=hm
  rw [ho] at ho';cases ho'
  exact ⟨_,es',ep',hL,r'⟩) hok I.bare
theorem Inv.call {g':Array GenState} {t':Nat} {d':Drawn} {ch:List au} (I:Inv X pins σ H s) (u:Un (frs X.stack) ch H H' s.heap h') (hok:HOk X.prog X.w H' h') (hg:kH g')
 (hch:∀ b∈ch,(b∈X.ex\/X.s₀.heap.objs.size<=b)/\b≠X.env.locals/\(∀ x c,X.env.cells.lookup x=some c->c≠b)/\∀ p∈X.pn++pins,p.1≠b) :
 Inv X pins σ H' { s with heap:=h',gens:=g',drawn:=d',toks:=t' }:=by
 obtain ⟨m,⟨o,es,ep,ho,r⟩,_⟩:=id I.loc
 obtain ⟨sl,hL⟩:=u.any ho I.free fun z=>(hch _ z).2.1 rfl
 exact I.step (ch:=ch) hch (fun b o hL hb hc e n=>u.keep b o e n (fun z=>(aE.mp (I.stkSub b z)).elim hL hb) hc) (fun b o _ _ hc e n=>u.any e n hc) (fun b o hc e n=>u.free b o e n hc) (fun b o hc e=>u.there b o e hc) u.tups u.frzs u.tbls (fun m' hm=>by
  obtain ⟨o',es',ep',ho',r'⟩:=hm
  rw [ho] at ho';cases ho'
  exact ⟨_,es',ep',hL,r'⟩) hok hg
theorem Inv.turned {t':Nat} {it:au} (I:Inv X pins σ H s) (k:∀ b o,b≠it->s.heap.get? b=some o->h'.get? b=some o) (hn:H it=none) (hL:it≠X.env.locals)
 (h1:it∈X.ex\/X.s₀.heap.objs.size<=it) (h2:∀ x c,X.env.cells.lookup x=some c->c≠it) (h3:∀ p∈X.pn++pins,p.1≠it):Inv X pins σ H { s with heap:=h',toks:=t' }:=by
 have nit:∀ b u,H b=some u->b≠it:=fun b u e z=>by rw [z,hn] at e;cases e
 refine I.step (g':=s.gens) (d':=s.drawn) (ch:=[it]) (fun b hb=>?_) (fun b o _ _ hc e _=>k b o (fun z=>hc (by simp [z])) e) (fun b o _ _ hc e _=>⟨o.slots,k b o (fun z=>hc (by simp [z])) e⟩) (fun _ _ _ _ n=>n)
  (fun b o hc e=>⟨o,k b o (fun z=>hc (by simp [z])) e⟩) (fun _ _ e=>e) (fun _ _ _ e=>e) (fun b ps e=>⟨#[],by rw [e];simp⟩) (fun m hm=>?_) (fun b u e=>?_) I.bare
 ·have e:b=it:=by simpa using hb
  subst e
  exact ⟨h1,hL,h2,h3⟩
 ·obtain ⟨o,es,ep,ho,r⟩:=hm
  exact ⟨o,es,ep,k _ o (Ne.symm hL) ho,r⟩
 ·refine (I.hok b u e).stay (fun c v hc q=>k c v ?_ q) (fun _ q=>q) (fun _ _ q=>q) fun _ _ q=>q
  rcases hc with z | z
  ·rw [z];exact nit b u e
  ·exact nit c _ z
theorem Inv.tok (I:Inv X pins σ H s) (t:Nat):Inv X pins σ H { s with toks:=t }:=I.un (h':=s.heap) (t':=t) Un.refl I.hok
theorem Inv.kept {t':Nat} (I:Inv X pins σ H s) (k:∀ b u,s.heap.get? b=some u->h'.get? b=some u):Inv X pins σ H { s with heap:=h',toks:=t' }:=I.un (Un.kept k) (I.hok.kept k)
theorem Inv.laid {a:au} {o:HO} {t':Nat} (I:Inv X pins σ H s) (k:∀ b u,s.heap.get? b=some u->h'.get? b=some u) (hp:s.heap.objs.size<=a) (new:gz X.prog X.w (upd H a o) h' a o) :
 Inv X pins σ (upd H a o) { s with heap:=h',toks:=t' }:=I.un (Un.laid k hp (I.hok.fresh hp)) (I.hok.laid k hp new)
theorem Inv.write {x e:au} {o:HO} {t':Nat} (I:Inv X pins σ H s) (mu:Mut (H x)) (he:e=x\/H e=some (.own x)) (k:∀ b u,b≠e->s.heap.get? b=some u->h'.get? b=some u) (heo:∃ u,h'.get? e=some u)
 (new:gz X.prog X.w (upd H x o) h' x o):Inv X pins σ (upd H x o) { s with heap:=h',toks:=t' }:=I.un (Un.write mu he k heo) (I.hok.write mu he k heo new)
theorem Inv.pins_of {pins':List (au×cX)} (I:Inv X pins σ H s) (h:∀ p∈pins',s.heap.get? p.1=some p.2/\H p.1=none/\p.1≠X.env.locals/\p.1∉X.fs/\∀ v,p.2.data≠.cell v):Inv X pins' σ H s :=
 ⟨I.ok,I.os,I.bare,I.base,I.loc,I.cell,I.free,I.freeC,fun p hp=>(aA.mp hp).elim (fun z=>I.pin p (cQ _ z)) (h p),I.hok,I.len⟩
theorem qx {N:List bv} (hN:N.Nodup) {i j:Nat} {x:bv} (a:N[i]?=some x) (b:N[j]?=some x):i=j:=by
 obtain ⟨h1,e1⟩:=aF.mp a
 obtain ⟨h2,e2⟩:=aF.mp b
 exact (hV hN).mp (e1.trans e2.symm)
theorem zm {M:Model} {A:bE} {E:ag->ai->Prop} {i:Nat} {x:bv} {v:V} {u:ag} {Q:Unit->ai->Prop} (I:Inv X pins σ H s) (hN:X.N.Nodup) (hi:X.N[i]?=some x) (hx:Loc X.env.scope x) (r:fZ v u)
 (h:∀ s',Inv X pins (σ.set i (some v)) H s'->(∃ a,jD a s.heap s'.heap/\(a=X.env.locals\/X.env.cells.lookup x=some a))->Q () s') (hf:X.fn x=true\/X.env.scope.names.lookup x=some .local:=by first | exact .inl rfl | exact .inr rfl | assumption):aN M A (storeName X.env x u) Q E s:=by
 obtain ⟨m,hn,hl⟩:=id I.loc
 have hcls:(X.env.scope.kind == .class||(X.env.scope.kind == .module&&X.env.locals != X.env.globals))=false:=by rw [I.ok.kind];rfl
 have hiσ:i<σ.length:=by rw [I.len];exact (aF.mp hi).1
 have cne:=I.cne
 have tracked:∀ {a:au} {h':b9},(∃ o,s.heap.get? a=some o/\H a=none)->jD a s.heap h'->HOk X.prog X.w H h':=fun {a h'} ha hs b ob e=>by
  obtain ⟨_,_,hfree⟩:=ha
  refine (I.hok b ob e).stay (fun c w' hc q=>(hs.2 c ?_).trans q) (fun _ q=>q) (fun _ _ q=>q) fun _ _ q=>q
  rintro rfl
  rcases hc with rfl | hc
  ·rw [hfree] at e;cases e
  ·rw [hfree] at hc;cases hc
 rcases hx with hk | hk
 ·refine wpAny_storeName_local hk hn (fun h' hn' hs=>?_) hcls
  obtain ⟨oL,_,_,hoL,_⟩:=id hn
  refine h _ ⟨I.ok,I.os,I.bare,⟨fun b o e n hb hx=>?_,fun b o e n hb hx=>?_,I.base.free,fun b o e hx=>?_,I.base.tups,I.base.frzs,I.base.tbls⟩,⟨_,hn',fun j y v' e1 e2 e3=>?_⟩,fun y c e=>?_,I.free,I.freeC,fun p hp=>?_,tracked ⟨oL,hoL,I.free⟩ hs,by simpa using I.len⟩ ⟨_,hs,.inl rfl⟩
  ·exact (hs.2 b (be (a7 (aG e) I.ok.above))).trans (I.base.keep b o e n hb hx)
  ·obtain ⟨sl,e1⟩:=I.base.slot b o e n hb hx
   exact ⟨sl,(hs.2 b (be (a7 (aG e) I.ok.above))).trans e1⟩
  ·obtain ⟨o',e1⟩:=I.base.there b o e hx
   exact ⟨o',(hs.2 b (be (a7 (aG e) I.ok.above))).trans e1⟩
  ·by_cases hj:j=i
   ·subst hj
    rw [hi] at e1;cases e1
    rw [aV hiσ] at e2
    cases e2
    exact ⟨u,r,.inl ⟨hk,by simp⟩⟩
   ·rw [aX (Ne.symm hj)] at e2
    obtain ⟨u',r',q⟩:=hl j y v' e1 e2 e3
    refine ⟨u',r',?_⟩
    rcases q with ⟨k,e⟩ | ⟨k,c,e,z⟩
    ·refine .inl ⟨k,?_⟩
     have:y≠x:=fun e=>hj (qx hN e1 (e▸hi))
     simp [this,e]
    ·exact .inr ⟨k,c,e,z.sameBut hs (cne y c e)⟩
  ·obtain ⟨w',z⟩:=I.cell y c e
   exact ⟨w',z.sameBut hs (cne y c e)⟩
  ·obtain ⟨e,n,ne,nf,d⟩:=I.pin p hp
   exact ⟨(hs.2 p.1 ne).trans e,n,ne,nf,d⟩
 ·have hfn:X.fn x=true:=by
   rcases hf with z | z
   ·exact z
   ·rw [z] at hk;cases hk
  obtain ⟨c,hc⟩:=I.ok.has x (.inl hk)
  obtain ⟨w',z⟩:=I.cell x c hc
  refine wpAny_storeName_cell I.ok.kind hk hc z (fun h' hc' hs=>?_)
  obtain ⟨oc,hoc,hocd⟩:=id z
  refine h { s with heap:=h' } ⟨I.ok,I.os,I.bare,⟨fun b o e n hb hx=>?_,fun b o e n hb hx=>?_,I.base.free,fun b o e hx=>?_,I.base.tups,I.base.frzs,I.base.tbls⟩,⟨m,hn.sameBut hs (Ne.symm (cne x c hc)),fun j y v' e1 e2 e3=>?_⟩,fun y c' e=>?_,I.free,I.freeC,fun p hp=>?_,tracked ⟨oc,hoc,I.freeC x c hc⟩ hs,by simpa using I.len⟩ ⟨c,hs,.inr hc⟩
  ·exact (hs.2 b (be (a7 (aG e) (I.ok.cab x c hfn hc)))).trans (I.base.keep b o e n hb hx)
  ·obtain ⟨sl,e1⟩:=I.base.slot b o e n hb hx
   exact ⟨sl,(hs.2 b (be (a7 (aG e) (I.ok.cab x c hfn hc)))).trans e1⟩
  ·obtain ⟨o',e1⟩:=I.base.there b o e hx
   exact ⟨o',(hs.2 b (be (a7 (aG e) (I.ok.cab x c hfn hc)))).trans e1⟩
  ·by_cases hj:j=i
   ·subst hj
    rw [hi] at e1;cases e1
    rw [aV hiσ] at e2
    cases e2
    exact ⟨u,r,.inr ⟨.inl hk,c,hc,hc'⟩⟩
   ·rw [aX (Ne.symm hj)] at e2
    obtain ⟨u',r',q⟩:=hl j y v' e1 e2 e3
    refine ⟨u',r',?_⟩
    rcases q with q | ⟨k,c',e,z'⟩
    ·exact .inl q
    ·refine .inr ⟨k,c',e,z'.sameBut hs ?_⟩
     rintro rfl
     exact hj (qx hN e1 (I.ok.inj _ _ _ e hc▸hi))
  ·by_cases hcc:c'=c
   ·subst hcc;exact ⟨_,hc'⟩
   ·obtain ⟨w2,z2⟩:=I.cell y c' e
    exact ⟨w2,z2.sameBut hs hcc⟩
  ·obtain ⟨e,n,ne,nf,d⟩:=I.pin p hp
   refine ⟨(hs.2 p.1 ?_).trans e,n,ne,nf,d⟩
   intro q
   rw [q,hoc] at e
   have q':oc=p.2:=bH e
   exact d w' (by rw [<- q'];exact hocd)
theorem v5 {M:Model} {A:bE} {E:ag->ai->Prop} {i:Nat} {x:bv} {v:V} {u:ag} {Q:Unit->ai->Prop} (I:Inv X pins σ H s) (hN:X.N.Nodup) (hi:X.N[i]?=some x) (hx:Loc X.env.scope x) (r:fZ v u)
 (h:∀ s',Inv X pins (σ.set i (some v)) H s'->Q () s') (hf:X.fn x=true\/X.env.scope.names.lookup x=some .local:=by first | exact .inl rfl | exact .inr rfl | assumption):aN M A (storeName X.env x u) Q E s :=
 zm I hN hi hx r (fun s' I' _=>h s' I') hf
theorem Inv.call' {s':ai} {ch:List au} (I:Inv X pins σ H s) (ho:s'.os=s.os) (u:Un (frs X.stack) ch H H' s.heap s'.heap) (hok:HOk X.prog X.w H' s'.heap) (hg:kH s'.gens)
 (hch:∀ b∈ch,(b∈X.ex\/X.s₀.heap.objs.size<=b)/\b≠X.env.locals/\(∀ x c,X.env.cells.lookup x=some c->c≠b)/\∀ p∈X.pn++pins,p.1≠b):Inv X pins σ H' s':=by
 obtain ⟨h',g',d',t',o'⟩:=s'
 have e:o'=s.os:=ho
 subst e
 exact I.call (g':=g') (t':=t') (d':=d') u hok hg hch
end
noncomputable abbrev XK:=ag->Option au->Hp->Prop
noncomputable abbrev St:=List (Option V)
noncomputable abbrev VK:=V->Hp->Prop
noncomputable abbrev TE:=St->Hp->VK->Prop
noncomputable abbrev TT:=St->Hp->(Bool->Hp->Prop)->Prop
noncomputable abbrev TA:=St->Hp->(List V->Hp->Prop)->Prop
structure Ef where
 nx:St->Hp->Prop
 rt:VK
 bk:St->Hp->Prop:=fun _ _=>False
 ct:St->Hp->Prop:=fun _ _=>False
noncomputable abbrev TS:=Ef->St->Hp->Prop
noncomputable def EP (X:Cx) (pins:List (au×cX)) (σ:St) (Q:VK) (u:ag) (s':ai):Prop:=∃ v H',Inv X pins σ H' s'/\fZ v u/\Q v H'
noncomputable def TP (X:Cx) (pins:List (au×cX)) (σ:St) (Q:Bool->Hp->Prop) (b:Bool) (s':ai):Prop:=∃ H',Inv X pins σ H' s'/\Q b H'
noncomputable def AP (X:Cx) (pins:List (au×cX)) (σ:St) (Q:List V->Hp->Prop) (us:List ag) (s':ai):Prop:=∃ vs H',Inv X pins σ H' s'/\dJ vs us/\Q vs H'
noncomputable def SP (X:Cx) (pins:List (au×cX)) (D:Ef) (f:Flow) (s':ai):Prop :=
 match f with
 | .next=>∃ σ' H',Inv X pins σ' H' s'/\D.nx σ' H'
 | .brk=>∃ σ' H',Inv X pins σ' H' s'/\D.bk σ' H'
 | .cont=>∃ σ' H',Inv X pins σ' H' s'/\D.ct σ' H'
 | .ret u=>∃ v σ' H',Inv X pins σ' H' s'/\fZ v u/\D.rt v H'
noncomputable def PE (X:Cx) (e:aR) (t:TE):Prop :=
 ∀ (pins:List (au×cX)) (s:ai) (σ:St) (H:Hp) (Q:VK),Inv X pins σ H s->t σ H Q->aN (aZ X.prog X.w) X.A (bL e X.env) (EP X pins σ Q) X.xe s
noncomputable def PT (X:Cx) (e:aR) (t:TT):Prop :=
 ∀ (pins:List (au×cX)) (s:ai) (σ:St) (H:Hp) (Q:Bool->Hp->Prop),Inv X pins σ H s->t σ H Q->aN (aZ X.prog X.w) X.A (isTrue e X.env (bL e X.env)) (TP X pins σ Q) X.xe s
noncomputable def PW (X:Cx) (e:aR) (t:TT):Prop :=
 ∀ (whole:Sem ag) (pins:List (au×cX)) (s:ai) (σ:St) (H:Hp) (Q:Bool->Hp->Prop),Inv X pins σ H s->t σ H Q->aN (aZ X.prog X.w) X.A (isTrue e X.env whole) (TP X pins σ Q) X.xe s
theorem PW.pt {X:Cx} {e:aR} {t:TT} (h:PW X e t):PT X e t:=h _
noncomputable def PA (X:Cx) (es:List aR) (t:TA):Prop :=
 ∀ (pos:d4) (pins:List (au×cX)) (s:ai) (σ:St) (H:Hp) (Q:List V->Hp->Prop),Inv X pins σ H s->t σ H Q->aN (aZ X.prog X.w) X.A (spliced (bZ pos (ao es X.env))) (AP X pins σ Q) X.xe s
noncomputable def PS (X:Cx) (st:cq) (t:TS):Prop :=
 ∀ (pins:List (au×cX)) (s:ai) (σ:St) (H:Hp) (D:Ef),Inv X pins σ H s->t D σ H->aN (aZ X.prog X.w) X.A (exec st X.env) (SP X pins D) X.xe s
noncomputable def PSs (X:Cx) (st:List cq) (t:TS):Prop :=
 ∀ (pins:List (au×cX)) (s:ai) (σ:St) (H:Hp) (D:Ef),Inv X pins σ H s->t D σ H->aN (aZ X.prog X.w) X.A (execs st X.env) (SP X pins D) X.xe s
theorem thn {α:Type} {t:Sem α} {Q Q':α->ai->Prop} {M:Model} {A:bE} {E:ag->ai->Prop} {s:ai} (h:aN M A t Q E s) (hQ:∀ a s,Q a s->Q' a s):aN M A t Q' E s:=dm h hQ fun _ _ x=>x
section
variable {X:Cx}
noncomputable def jB (i:Nat):TE:=fun σ H Q=>∃ v,σ[i]?=some (some v)/\Q v H
noncomputable def tC (v:V):TE:=fun _ H Q=>Q v H
theorem sO {i:Nat} {x:bv} {pos:d4} (hN:X.N[i]?=some x) (hv:Vis X.env.scope x) (hd:(x == ("__debug__" : bv))=false:=by decide) (hcd:(x == ("__classdict__" : bv))=false:=by decide):PE X (.Name x pos) (jB i):=by
 intro pins s σ H Q I h
 obtain ⟨v,e,h⟩:=h
 obtain ⟨m,hn,hl⟩:=I.loc
 obtain ⟨u,r,l⟩:=hl i x v hN e hv
 have fin:EP X pins σ Q u s:=⟨v,H,I,r,h⟩
 rcases l with ⟨hk,hm⟩ | ⟨hk,c,hc,hcell⟩
 ·exact wpAny_Name (wpAny_loadName_local I.ok.kind hk hn hm fin) hd
 ·rcases hk with hk | hk
  ·exact wpAny_Name (wpAny_loadName_cell I.ok.kind hk hc hcell fin) hd
  ·exact wpAny_Name (wpAny_loadName_free I.ok.kind hk hc hcell fin hcd) hd
theorem Gg {i j pos}:PE X (.Constant (.int i) j pos) (tC (.int i)):=fun _ _ _ H _ I h=>wpAny_Constant_int ⟨.int i,H,I.tok _,⟨_,rfl⟩,h⟩
theorem yZ {b j pos}:PE X (.Constant (.bool b) j pos) (tC (.bl b)):=fun _ _ _ H _ I h=>Constant_bool ⟨.bl b,H,I,rfl,h⟩
noncomputable def Gl (X:Cx) (x:bv):Prop:=X.env.kindOf x=some .globalImplicit
theorem DM {E:ag->ai->Prop} {pins:List (au×cX)} {s:ai} {σ:St} {H:Hp} {x:bv} {u:ag} {pos:d4} {Q:ag->ai->Prop} (I:Inv X pins σ H s) (hg:Gl X x) (hm:X.mg x=some u) (h:Q u s)
 (hd:(x == ("__debug__" : bv))=false:=by decide):aN (aZ X.prog X.w) X.A (bL (.Name x pos) X.env) Q E s :=
 oF I.ok.kind hg (Calls.loadGlobal_global (by rw [I.ok.glob];exact I.mod.glob.keeps I.bk) hm h) hd
theorem mz {E:ag->ai->Prop} {pins:List (au×cX)} {s:ai} {σ:St} {H:Hp} {x:bv} {u:ag} {pos:d4} {Q:ag->ai->Prop} (I:Inv X pins σ H s) (hg:Gl X x) (hm:X.mg x=none) (hv:h8 x=some u) (h:Q u s)
 (hn:x≠"__name__":=by decide) (hd:(x == ("__debug__" : bv))=false:=by decide):aN (aZ X.prog X.w) X.A (bL (.Name x pos) X.env) Q E s:=by
 obtain ⟨mb,h1,h2⟩:=I.mod.blt
 exact oF I.ok.kind hg (Calls.loadGlobal_builtin (by rw [I.ok.glob];exact I.mod.glob.keeps I.bk) hm (by rw [I.ok.blt];exact h1.keeps I.bk) ((h2 x hn).trans hv) h) hd
variable {a b:aR} {ta tb:TE} {pos:d4}
noncomputable def PC (X:Cx) (op:oG) (a b:aR) (t:TE):Prop :=
 ∀ (pins:List (au×cX)) (s:ai) (σ:St) (H:Hp) (Q:VK),Inv X pins σ H s->t σ H Q ->
   aN (aZ X.prog X.w) X.A (bL a X.env) (fun v s₁=>aN (aZ X.prog X.w) X.A (bL b X.env) (fun u s₂=>aN (aZ X.prog X.w) X.A (dq op v u) (EP X pins σ Q) X.xe s₂) X.xe s₁) X.xe s
noncomputable def tB (t:TE):TT:=fun σ H Q=>t σ H fun x H1=>∃ c,x=.bl c/\Q c H1
theorem yc {op:oG} {t:TE} (h:PC X op a b t) (h1:d5 op b=false:=by first | exact nobehind _ (by decide) (by decide) | rfl):PT X (.Compare a [op] [b] pos) (tB t):=by
 intro pins s σ H Q I hw
 refine AU (thn (h pins s σ H _ I hw) fun v s1 h1=>thn h1 fun u s2 h2=>thn h2 fun c s3 ⟨x,H1,I1,r1,q1⟩=>?_) h1
 obtain ⟨d,rfl,q⟩:=q1
 cases r1
 exact c5 ⟨H1,I1,q⟩
theorem Id {e:aR} {t:TE} (h:PE X e t) (he:∀ whole,isTrue e X.env whole=(do let v <- whole;tO e.pos;tP [v] (truthy v)):=by intro _;rfl):PT X e (tB t):=by
 intro pins s σ H Q I hw
 refine isTrue_plain (thn (h pins s σ H _ I hw) fun v s1 ⟨x,H1,I1,r1,q1⟩=>?_) (he _)
 obtain ⟨d,rfl,q⟩:=q1
 cases r1
 exact c5 ⟨H1,I1,q⟩
variable {tA tB':TT} {rest:List aR}
noncomputable def KD (t u:TT):TT:=fun σ H Q=>t σ H fun c H1=>if c=true then u σ H1 Q else Q false H1
noncomputable def tOr (t u:TT):TT:=fun σ H Q=>t σ H fun c H1=>if c=true then Q true H1 else u σ H1 Q
theorem Es (ha:PT X a tA):PW X (.BoolOp .And [a] pos) tA:=by
 intro wh pins s σ H Q I h
 refine isTrue_and (thn (ha pins s σ H Q I h) fun c s1 e=>?_)
 cases c with
 | true=>exact isTrue_and_nil e
 | false=>exact e
theorem Dx (ha:PT X a tA):PW X (.BoolOp .Or [a] pos) tA:=by
 intro wh pins s σ H Q I h
 refine isTrue_or (thn (ha pins s σ H Q I h) fun c s1 e=>?_)
 cases c with
 | false=>exact isTrue_or_nil e
 | true=>exact e
theorem Il (ha:PT X a tA) (hb:PW X (.BoolOp .And (b::rest) pos) tB'):PW X (.BoolOp .And (a::b::rest) pos) (KD tA tB'):=by
 intro wh pins s σ H Q I h
 refine isTrue_and (thn (ha pins s σ H _ I h) fun c s1 ⟨H1,I1,q1⟩=>?_)
 cases c with
 | true=>exact hb wh pins s1 σ H1 Q I1 q1
 | false=>exact ⟨H1,I1,q1⟩
theorem Gz (ha:PT X a tA) (hb:PW X (.BoolOp .Or (b::rest) pos) tB'):PW X (.BoolOp .Or (a::b::rest) pos) (tOr tA tB'):=by
 intro wh pins s σ H Q I h
 refine isTrue_or (thn (ha pins s σ H _ I h) fun c s1 ⟨H1,I1,q1⟩=>?_)
 cases c with
 | true=>exact ⟨H1,I1,q1⟩
 | false=>exact hb wh pins s1 σ H1 Q I1 q1
noncomputable def JK (ta tb:TE):TE:=fun σ H Q=>ta σ H fun x H1=>∃ c,x=.bl c/\if c=true then tb σ H1 Q else Q (.bl false) H1
theorem GV {op} {t:TE} (h:PE X a t):PE X (.BoolOp op [a] pos) t:=fun pins s σ H Q I hw=>BoolOp_one (h pins s σ H Q I hw)
theorem Hz (ha:PE X a ta) (hb:PE X (.BoolOp .And (b::rest) pos) tb):PE X (.BoolOp .And (a::b::rest) pos) (JK ta tb):=by
 intro pins s σ H Q I h
 refine BoolOp_and (thn (ha pins s σ H _ I h) fun v s1 ⟨x,H1,I1,r1,q1⟩=>?_)
 obtain ⟨c,rfl,q1⟩:=q1
 cases r1
 refine c5 ?_
 cases c with
 | true=>exact hb pins s1 σ H1 Q I1 q1
 | false=>exact ⟨.bl false,H1,I1,rfl,q1⟩
noncomputable def tIf (t:TT) (ta tb:TE):TE:=fun σ H Q=>t σ H fun c H1=>if c=true then ta σ H1 Q else tb σ H1 Q
theorem B4 {c:aR} (hc:PT X c tA) (ha:PE X a ta) (hb:PE X b tb):PE X (.IfExp c a b pos) (tIf tA ta tb):=by
 intro pins s σ H Q I h
 refine wpAny_IfExp (thn (hc pins s σ H _ I h) fun d s1 ⟨H1,I1,q1⟩=>?_)
 cases d with
 | true=>exact ha pins s1 σ H1 Q I1 q1
 | false=>exact hb pins s1 σ H1 Q I1 q1
end
noncomputable def SqL (K:ae) (H:Hp) (a:au) (xs:List V):Prop :=
 Rd H a (.lst xs) \/
  ∃ (o:cX) (its:Array ag) (n:Nat),K.lookup a=some o/\o.cls=.type "list"/\o.dict=none/\o.data=.seq its n/\its.size<=aK/\dJ xs its.toList
noncomputable def SqT (K:ae) (H:Hp) (a:au) (xs:List V):Prop :=
 Rd H a (.tup xs) \/
  ∃ (o:cX) (its:Array ag) (n:Nat),K.lookup a=some o/\o.cls=.type "tuple"/\o.data=.seq its n/\its.size<=aK/\dJ xs its.toList
noncomputable def KP:ag->Option V
 | .none=>some .non
 | .bool b=>some (.bl b)
 | .int i _=>some (.int i)
 | .str x _=>some (.str x)
 | .bytes b _=>some (.byt b)
 | .float b _=>some (.flt b)
 | .ref a=>some (.ref a)
 | .type n=>some (.ty n)
 | _=>none
theorem fZ.abs {x:V} {u:ag} (r:fZ x u):KP u=some x:=by
 cases x with
 | non=>cases r;rfl
 | bl _=>cases r;rfl
 | int _=>obtain ⟨t,rfl⟩:=r;rfl
 | str _=>obtain ⟨t,rfl⟩:=r;rfl
 | byt _=>obtain ⟨t,rfl⟩:=r;rfl
 | flt _=>obtain ⟨t,rfl⟩:=r;rfl
 | ref _=>cases r;rfl
 | ty _=>cases r;rfl
theorem fZ.inj {x y:V} {u:ag} (r:fZ x u) (q:fZ y u):x=y:=bH (r.abs.symm.trans q.abs)
theorem dJ.inj:∀ {xs ys:List V} {us:List ag},dJ xs us->dJ ys us->xs=ys
 | _,_,_,.nil,.nil=>rfl
 | _,_,_,.cons r t,.cons r' t'=>by rw [r.inj r',dJ.inj t t']
section
variable {X:Cx} {pins:List (au×cX)} {σ:St} {H:Hp} {s:ai} {a:au} {xs ys:List V}
theorem SqL.of {K:ae} (h:H a=some (.lst xs)):SqL K H a xs:=.inl (.inl h)
theorem SqT.of {K:ae} (h:H a=some (.tup xs)):SqT K H a xs:=.inl (.inl h)
theorem Inv.list (I:Inv X pins σ H s) (h:SqL X.K H a xs):∃ its:List ag,dJ xs its/\PlainL s.heap a its.toArray/\xs.length<=aK:=by
 rcases h with h | ⟨o,its,n,hk,hc,hd,hs,hz,r⟩
 ·obtain ⟨z,its,n,r,e⟩:=h.ok I.hok
  exact ⟨its,r,⟨_,n,e,rfl,rfl,rfl⟩,z⟩
 ·refine ⟨its.toList,r,⟨o,n,I.kIn a o hk,hc,hd,by simpa using hs⟩,?_⟩
  have e:=r.length
  simp only [bJ] at e
  lia
theorem Inv.tuple (I:Inv X pins σ H s) (h:SqT X.K H a xs):∃ its:List ag,dJ xs its/\jd s.heap a its.toArray/\xs.length<=aK:=by
 rcases h with h | ⟨o,its,n,hk,hc,hs,hz,r⟩
 ·obtain ⟨z,its,r,p⟩:=h.ok I.hok
  exact ⟨its,r,p,z.1⟩
 ·refine ⟨its.toList,r,⟨o,I.kIn a o hk,hc,n,by simpa using hs⟩,?_⟩
  have e:=r.length
  simp only [bJ] at e
  lia
theorem Inv.list_inj (I:Inv X pins σ H s) (h:SqL X.K H a xs) (h':SqL X.K H a ys):xs=ys:=by
 obtain ⟨its,r,⟨o,n,e,_,_,d⟩,_⟩:=I.list h
 obtain ⟨its',r',⟨o',n',e',_,_,d'⟩,_⟩:=I.list h'
 rw [e] at e';cases e'
 rw [d] at d'
 injection d' with d1 _
 have:its=its':=by simpa using congrArg Array.toList d1
 subst this
 exact r.inj r'
theorem Inv.tuple_inj (I:Inv X pins σ H s) (h:SqT X.K H a xs) (h':SqT X.K H a ys):xs=ys:=by
 obtain ⟨its,r,⟨o,e,_,n,d⟩,_⟩:=I.tuple h
 obtain ⟨its',r',⟨o',e',_,n',d'⟩,_⟩:=I.tuple h'
 rw [e] at e';cases e'
 rw [d] at d'
 injection d' with d1 _
 have:its=its':=by simpa using congrArg Array.toList d1
 subst this
 exact r.inj r'
end
noncomputable abbrev Cx.wish (X:Cx) (E:ag->ai->Prop):Cx:={ X with xe:=E }
noncomputable abbrev Cx.nox (X:Cx):Cx:=X.wish fun _ _=>False
theorem Cx.Ok.wish {X:Cx} (ok:X.Ok) (E:ag->ai->Prop):(X.wish E).Ok :=
 ⟨ok.mod,ok.kind,ok.glob,ok.blt,ok.above,ok.inj,ok.has,ok.cab,ok.hd,ok.frames,ok.stk,ok.exf,ok.bs,ok.bsz,ok.noex,ok.exfs,ok.funs,ok.frf⟩
theorem Cx.Ok.unwish {X:Cx} {E:ag->ai->Prop} (ok:(X.wish E).Ok):X.Ok :=
 ⟨ok.mod,ok.kind,ok.glob,ok.blt,ok.above,ok.inj,ok.has,ok.cab,ok.hd,ok.frames,ok.stk,ok.exf,ok.bs,ok.bsz,ok.noex,ok.exfs,ok.funs,ok.frf⟩
section
variable {X:Cx} {pins:List (au×cX)} {σ:St} {H:Hp} {s:ai} {E:ag->ai->Prop}
theorem Inv.wish (I:Inv X pins σ H s) (E:ag->ai->Prop):Inv (X.wish E) pins σ H s:=⟨I.ok.wish E,I.os,I.bare,I.base,I.loc,I.cell,I.free,I.freeC,I.pin,I.hok,I.len⟩
theorem Inv.unwish (I:Inv (X.wish E) pins σ H s):Inv X pins σ H s:=⟨I.ok.unwish,I.os,I.bare,I.base,I.loc,I.cell,I.free,I.freeC,I.pin,I.hok,I.len⟩
theorem SP.unwish {D:Ef} {f:Flow} {s':ai} (h:SP (X.wish E) pins D f s'):SP X pins D f s':=by
 cases f with
 | next=>obtain ⟨σ',H',I,q⟩:=h;exact ⟨σ',H',I.unwish,q⟩
 | brk=>obtain ⟨σ',H',I,q⟩:=h;exact ⟨σ',H',I.unwish,q⟩
 | cont=>obtain ⟨σ',H',I,q⟩:=h;exact ⟨σ',H',I.unwish,q⟩
 | ret u=>obtain ⟨v,σ',H',I,r,q⟩:=h;exact ⟨v,σ',H',I.unwish,r,q⟩
theorem PSs.nox {st:List cq} {t:TS} (h:PSs X.nox st t):PSs X st t:=fun pins s σ H D I hw =>
 dm (h pins s σ H D (I.wish _) hw) (fun _ _ q=>q.unwish) fun _ _ z=>b0 z
end
section
variable {X:Cx} {st:cq} {rest:List cq} {t u:TS} {e:aR} {te:TE} {pos:d4}
noncomputable def CI:TS:=fun D σ H=>D.nx σ H
noncomputable def nz (t u:TS):TS:=fun D σ H=>t { D with nx:=u D } σ H
theorem qp:PSs X [] CI:=fun _ _ σ H _ I h=>k9 ⟨σ,H,I,h⟩
theorem fQ (h1:PS X st t) (h2:PSs X rest u):PSs X (st::rest) (nz t u):=by
 intro pins s σ H D I h
 refine wpAny_execs_cons (thn (h1 pins s σ H { D with nx:=u D } I h) fun f s1 q=>?_)
 cases f with
 | next =>
   obtain ⟨σ',H',I',q⟩:=q
   exact h2 pins s1 σ' H' D I' q
 | ret v=>exact q
 | brk=>exact q
 | cont=>exact q
theorem ig (h1:PS X st t):PSs X [st] t:=by
 intro pins s σ H D I h
 refine wpAny_execs_cons (thn (h1 pins s σ H D I h) fun f s1 q=>?_)
 cases f with
 | next=>exact k9 q
 | ret v=>exact q
 | brk=>exact q
 | cont=>exact q
noncomputable def Jc:TS:=fun D σ H=>D.ct σ H
theorem uV:PS X (.Continue pos) Jc:=fun _ _ σ H _ I h=>wpAny_Continue ⟨σ,H,I,h⟩
theorem Inv.quiet {pins:List (au×cX)} {σ:St} {H:Hp} {s:ai} (I:Inv X pins σ H s):interactive X.env=false:=by simp [interactive,I.ok.kind]
noncomputable def Fw (te:TE):TS:=fun D σ H=>te σ H fun _ H1=>D.nx σ H1
theorem uK (he:PE X e te) (hs:eX e none pos.line X.env=pure false:=by rfl):PS X (.Expr e pos) (Fw te):=by
 intro pins s σ H D I h
 exact wpAny_Expr_any (thn (he pins s σ H _ I h) fun v s1 ⟨x,H1,I1,r1,q1⟩=>⟨σ,H1,I1,q1⟩) I.quiet hs
noncomputable def FN (te:TE):TS:=fun D σ H=>te σ H D.rt
theorem pN (he:PE X e te):PS X (.Return (some e) pos) (FN te):=by
 intro pins s σ H D I h
 exact wpAny_Return_some (thn (he pins s σ H _ I h) fun v s1 ⟨x,H1,I1,r1,q1⟩=>⟨x,σ,H1,I1,r1,q1⟩)
noncomputable def Jf (c:TT) (t u:TS):TS:=fun D σ H=>c σ H fun b H1=>if b=true then t D σ H1 else u D σ H1
theorem Cz {c:aR} {a b:List cq} {tc:TT} (hc:PT X c tc) (ha:PSs X a t) (hb:PSs X b u):PS X (.If c a b pos) (Jf tc t u):=by
 intro pins s σ H D I h
 refine wpAny_If (thn (hc pins s σ H _ I h) fun d s1 ⟨H1,I1,q1⟩=>?_)
 cases d with
 | true=>exact ha pins s1 σ H1 D I1 q1
 | false=>exact hb pins s1 σ H1 D I1 q1
end
noncomputable abbrev TG:=V->St->Hp->(St->Hp->Prop)->Prop
noncomputable abbrev TGs:=List V->St->Hp->(St->Hp->Prop)->Prop
noncomputable def PG (X:Cx) (target:aR) (t:TG):Prop :=
 ∀ (pins:List (au×cX)) (s:ai) (σ:St) (H:Hp) (v:V) (u:ag) (Q:St->Hp->Prop),Inv X pins σ H s->fZ v u->t v σ H Q ->
   aN (aZ X.prog X.w) X.A (assign target X.env u) (fun _ s'=>∃ σ' H',Inv X pins σ' H' s'/\Q σ' H') X.xe s
noncomputable def PGs (X:Cx) (ts:List aR) (t:TGs):Prop :=
 ∀ (pins:List (au×cX)) (s:ai) (σ:St) (H:Hp) (vs:List V) (us:List ag) (Q:St->Hp->Prop),Inv X pins σ H s->dJ vs us->t vs σ H Q ->
   aN (aZ X.prog X.w) X.A (assignInOrder ((eD ts X.env).map (·.2)) us) (fun _ s'=>∃ σ' H',Inv X pins σ' H' s'/\Q σ' H') X.xe s
section
variable {X:Cx} {pos:d4}
noncomputable def ly (i:Nat):TG:=fun v σ H Q=>Q (σ.set i (some v)) H
theorem l7 {i:Nat} {x:bv} (hN:X.N.Nodup) (hi:X.N[i]?=some x) (hx:Loc X.env.scope x) (hf:X.fn x=true\/X.env.scope.names.lookup x=some .local:=by first | exact .inl rfl | exact .inr rfl | assumption):PG X (.Name x pos) (ly i):=by
 intro pins s σ H v u Q I r h
 exact wpAny_assign_Name (v5 I hN hi hx r (fun s' I'=>⟨_,H,I',h⟩) hf)
noncomputable def Ku:TGs:=fun vs σ H Q=>vs=[]/\Q σ H
noncomputable def Ej (t:TG) (u:TGs):TGs:=fun vs σ H Q=>∃ v r,vs=v::r/\t v σ H fun σ' H'=>u r σ' H' Q
theorem zO:PGs X [] Ku:=by
 intro pins s σ H vs us Q I r h
 obtain ⟨e,h⟩:=h
 subst e
 cases r
 exact assignInOrder_nil ⟨σ,H,I,h⟩
theorem qF {e:aR} {es:List aR} {t:TG} {u:TGs} (h1:PG X e t) (h2:PGs X es u)
 (hs:(eD (e::es) X.env).map (·.2)=assign e X.env::(eD es X.env).map (·.2):=by rfl):PGs X (e::es) (Ej t u):=by
 intro pins s σ H vs us Q I r h
 obtain ⟨v,vr,e1,h⟩:=h
 subst e1
 cases r with
 | cons r rr =>
   rw [hs]
   refine assignInOrder_cons (thn (h1 pins s σ H _ _ _ I r h) fun _ s1 ⟨σ1,H1,I1,q1⟩=>?_)
   exact h2 pins s1 σ1 H1 _ _ Q I1 rr q1
noncomputable def KA (K:ae) (n:Nat) (t:TGs):TG:=fun v σ H Q=>∃ a xs,v=.ref a/\SqT K H a xs/\xs.length=n/\t xs σ H Q
theorem DA {es:List aR} {k:Nat} {t:TGs} {n:Nat} (hc:X.calm=true) (h:PGs X es t)
 (hn:(eD es X.env).length=n:=by rfl) (hst:(eD es X.env).findIdx? (·.1)=none:=by rfl):PG X (.Tuple es k pos) (KA X.K n t):=by
 intro pins s σ H v u Q I r hw
 obtain ⟨a,xs,e1,hq,hl,hw⟩:=hw
 subst e1
 cases r
 obtain ⟨its,rv,ht,hz⟩:=I.tuple hq
 refine assign_Tuple_tuple (I.ok.hd hc) ht (by simp [hn,<- hl,rv.length]) hst fun h' hx=>?_
 have I1:Inv X pins σ H { s with heap:=h' }:=I.kept (t':=s.toks) fun b o e=>hx b o (be (aG e)) e
 exact h pins _ σ H xs _ Q I1 (by simpa using rv) hw
noncomputable def FL (te:TE) (g:TG):TS:=fun D σ H=>te σ H fun x H1=>g x σ H1 D.nx
theorem pW {i:Nat} {x:bv} {e:aR} {te:TE} {pos':d4} (hN:X.N.Nodup) (hi:X.N[i]?=some x) (hx:Loc X.env.scope x) (he:PE X e te) (hs:eX e (some (.Name x pos')) pos.line X.env=pure false:=by rfl) (hf:X.fn x=true\/X.env.scope.names.lookup x=some .local:=by first | exact .inl rfl | exact .inr rfl | assumption) :
 PS X (.Assign [.Name x pos'] e pos) (FL te (ly i)):=by
 intro pins s σ H D I h
 refine wpAny_Assign_Name (thn (he pins s σ H _ I h) fun v s1 ⟨y,H1,I1,r1,q1⟩=>?_) hs
 exact v5 I1 hN hi hx r1 (fun s2 I2=>⟨_,H1,I2,q1⟩) hf
noncomputable def Iy (c:TT) (tb:TS):TS:=fun D σ H=>∃ W:Nat->St->Hp->Prop,(∃ m,W m σ H)/\∀ m σ H,W m σ H ->
 c σ H fun b H1=>if b=true then ∃ N:St->Hp->Prop,(∀ σ' H',N σ' H'->∃ m',m'<m/\W m' σ' H')/\tb { D with nx:=N,ct:=N,bk:=D.nx } σ H1 else D.nx σ H1
theorem By {c:aR} {body:List cq} {tc:TT} {tb:TS} (hp:mt (aZ X.prog X.w) X.A X.env X.xe) (hc:PT X c tc) (hb:PSs X body tb):PS X (.While c body [] pos) (Iy tc tb):=by
 intro pins s σ H D I h
 obtain ⟨W,⟨m0,w0⟩,turn⟩:=h
 refine wpAny_While (codeAny_whileLoop (fun n s'=>∃ σ' H',Inv X pins σ' H' s'/\W n σ' H') ?_ m0 ⟨σ,H,I,w0⟩)
 rintro n s1 ⟨σ1,H1,I1,w1⟩
 refine fI hp (thn (hc pins s1 σ1 H1 _ I1 (turn n σ1 H1 w1)) fun b s2 ⟨H2,I2,q2⟩=>?_)
 cases b with
 | true =>
   obtain ⟨N,hN,q2⟩:=q2
   rw [if_pos rfl]
   refine fI hp (thn (hb pins s2 σ1 H2 _ I2 q2) fun f s3 q3=>?_)
   cases f with
   | next =>
     obtain ⟨σ3,H3,I3,n3⟩:=q3
     obtain ⟨m',hm,w3⟩:=hN σ3 H3 n3
     exact ⟨m',hm,σ3,H3,I3,w3⟩
   | cont =>
     obtain ⟨σ3,H3,I3,n3⟩:=q3
     obtain ⟨m',hm,w3⟩:=hN σ3 H3 n3
     exact ⟨m',hm,σ3,H3,I3,w3⟩
   | brk=>exact q3
   | ret v=>exact q3
 | false =>
   rw [if_neg aM]
   exact k9 ⟨σ1,H2,I2,q2⟩
end
structure It where
 go:Nat->Hp->Prop
 yld:Nat->Hp->V->Hp->Prop
 stop:Nat->Hp->Prop
noncomputable def xN (X:Cx) (pins:List (au×cX)) (H:Hp) (b:au):Prop :=
 H b=none/\b≠X.env.locals/\b∉X.fs/\(b∈X.ex\/X.s₀.heap.objs.size<=b)/\(∀ x c,X.env.cells.lookup x=some c->c≠b)/\∀ p∈X.pn++pins,p.1≠b
theorem Inv.fpOk {X:Cx} {pins:List (au×cX)} {σ:St} {H H':Hp} {s:ai} {b:au} (I:Inv X pins σ H s) (hb:s.heap.objs.size<=b) (hn:H' b=none):xN X pins H' b:=by
 refine ⟨hn,Nat.ne_of_gt (a7 I.lt hb),I.nofs hb,.inr (bO I.sz hb),fun x c e z=>?_,fun p hp z=>?_⟩
 ·obtain ⟨v,q⟩:=I.cell x c e
  exact absurd (a7 q.lt (by rw [z];exact hb)) (cb _)
 ·exact absurd (a7 (aG (I.pin p hp).1) (by rw [z];exact hb)) (cb _)
structure DN (P:bh) (w:bT) (K:ae) (tg:aR) (J:It) (fp:List au) (it:au) (tn:Nat->b9->Prop):Prop where
 mem:it∈fp
 obj:∀ i h,tn i h->∀ b∈fp,∃ o,h.get? b=some o/\∀ v,o.data≠.cell v
 keep:∀ i h h',tn i h->(∀ b∈fp,∀ o,h.get? b=some o->h'.get? b=some o)->tn i h'
 item:∀ (X:Cx),X.prog=P->X.w=w->X.K=K->X.calm=true->∀ (i:Nat) (pins:List (au×cX)) (s:ai) (σ:St) (H:Hp) (E:ag->ai->Prop),Inv X pins σ H s->(∀ b∈fp,xN X pins H b)->tn i s.heap->J.go i H ->
  aN (aZ P w) X.A (jH (.ref it)) (fun r s1=>∃ u,r=some u /\
   aN (aZ P w) X.A (rJ tg (.ref it) u) (fun _ s2=>∃ x H',Inv X pins σ H' s2/\fZ x u/\J.yld i H x H'/\tn (i+1) s2.heap/\∀ b∈fp,H' b=none) E s1) E s
 done:∀ (X:Cx),X.prog=P->X.w=w->X.K=K->X.calm=true->∀ (i:Nat) (pins:List (au×cX)) (s:ai) (σ:St) (H:Hp) (E:ag->ai->Prop),Inv X pins σ H s->(∀ b∈fp,xN X pins H b)->tn i s.heap->J.stop i H ->
  aN (aZ P w) X.A (jH (.ref it)) (fun r s1=>r=none/\Inv X pins σ H s1) E s
 self:∀ (A:bE) (i:Nat) (s:ai) (Q:ag->ai->Prop) (E:ag->ai->Prop),tn i s.heap->Q (.ref it) s->aN (aZ P w) A (pyIter (.ref it)) Q E s
noncomputable abbrev TI:=St->Hp->(It->Hp->Prop)->Prop
noncomputable def PIE (X:Cx) (pins:List (au×cX)) (σ:St) (tg:aR) (R:It->Hp->Prop) (itv:ag) (s2:ai):Prop :=
 ∃ (it:au) (fp:List au) (tn:Nat->b9->Prop) (J:It) (H':Hp),itv=.ref it/\Inv X pins σ H' s2/\DN X.prog X.w X.K tg J fp it tn/\tn 0 s2.heap/\(∀ b∈fp,xN X pins H' b)/\R J H'
noncomputable def PI (X:Cx) (tg iter:aR) (wi:TI):Prop :=
 ∀ (pins:List (au×cX)) (s:ai) (σ:St) (H:Hp) (R:It->Hp->Prop),Inv X pins σ H s->wi σ H R ->
   aN (aZ X.prog X.w) X.A (bL iter X.env) (fun v s1=>aN (aZ X.prog X.w) X.A (pyIter v) (PIE X pins σ tg R) X.xe s1) X.xe s
theorem Cu {M:Model} {A:bE} {E:ag->ai->Prop} {s:ai} {tg:aR} {it:au} {u:ag} {o:cX} {n:String} {vs:Array ag} {Q:Unit->ai->Prop} (ho:s.heap.get? it=some o) (hc:o.cls=.type n) (hd:o.data=.fields vs)
 (hn:["enumerate","zip","dict_itemiterator","dict_reverseitemiterator","odict_iterator","itertools.zip_longest","itertools.pairwise"].contains n=false) (hQ:Q () s):aN M A (rJ tg (.ref it) u) Q E s:=by
 unfold rJ
 cases tg<;>first
  | exact aq hQ
  | (cases u<;>first
      | exact aq hQ
      | (refine ac (m9 ho ?_)
         rw [hc,hd]
         show aN M A (if (["enumerate","zip","dict_itemiterator","dict_reverseitemiterator","odict_iterator","itertools.zip_longest","itertools.pairwise"].contains n&&vs[0]? == some (je _))=true then _ else _) Q E s
         rw [if_neg (by intro h;rw [hn,Bool.false_and] at h;cases h)]
         exact aq hQ))
noncomputable def Itl (K:ae) (a:au):It :=
 ⟨fun i H=>∃ xs x,SqL K H a xs/\xs[i]?=some x,fun i H x H'=>H'=H/\∀ xs,SqL K H a xs->xs[i]?=some x,fun i H=>∃ xs,SqL K H a xs/\xs.length<=i⟩
noncomputable def Itt (K:ae) (a:au):It :=
 ⟨fun i H=>∃ xs x,SqT K H a xs/\xs[i]?=some x,fun i H x H'=>H'=H/\∀ xs,SqT K H a xs->xs[i]?=some x,fun i H=>∃ xs,SqT K H a xs/\xs.length<=i⟩
noncomputable def Itr (lo:Int) (n:Nat):It:=⟨fun i _=>i<n,fun i H x H'=>H'=H/\x=.int (lo+i),fun i _=>n<=i⟩
theorem y8 {P:bh} {w:bT} {K:ae} {tg:aR} (a it:au):DN P w K tg (Itl K a) [it] it (fun i h=>h.IsListIter it a i) where
 mem:=by simp
 obj:=fun i h st b hb=>by
  have e:b=it:=by simpa using hb
  subst e
  obtain ⟨o,e,c,d⟩:=st
  exact ⟨o,e,fun v z=>by rw [d] at z;cases z⟩
 keep:=fun i h h' st k=>st.at fun o e=>k it (by simp) o e
 item:=by
  intro X hP hw hK hc i pins s σ H E I hf st hg
  subst hP hw hK
  obtain ⟨xs,x,hq,hx⟩:=hg
  obtain ⟨its,rv,p,hz⟩:=I.list hq
  obtain ⟨u,hu,ru⟩:=rv.get hx
  obtain ⟨f0,f1,f2,f3,f4,f5⟩:=hf it (by simp)
  refine wpAny_pyNext_list_item st p.isList (x:=u) (by simpa using hu) fun h' st' sb=>?_
  have I1:Inv X pins σ H { s with heap:=h' }:=I.turned (t':=s.toks) (fun b o hb e=>(sb.2 b hb).trans e) f0 f1 f3 f4 f5
  obtain ⟨o,e,c,d⟩:=id st'
  exact ⟨u,rfl,Cu (s:={ s with heap:=h' }) e c d (by decide) ⟨x,H,I1,ru,⟨rfl,fun ys hy=>by rw [I.list_inj hy hq];exact hx⟩,st',fun b hb=>(hf b hb).1⟩⟩
 done:=by
  intro X hP hw hK hc i pins s σ H E I hf st hg
  subst hP hw hK
  obtain ⟨xs,hq,hx⟩:=hg
  obtain ⟨its,rv,p,hz⟩:=I.list hq
  obtain ⟨f0,f1,f2,f3,f4,f5⟩:=hf it (by simp)
  have hl:=rv.length
  exact wpAny_pyNext_list_end (I.ok.hd hc) st p.isList (by simp;lia) fun h' eb=>⟨rfl,I.turned (t':=s.toks) (fun b o hb e=>eb b o hb e) f0 f1 f3 f4 f5⟩
 self:=fun _ _ _ _ _ st h=>wpAny_pyIter_listiter st h
theorem xa {P:bh} {w:bT} {K:ae} {tg:aR} (a it:au):DN P w K tg (Itt K a) [it] it (fun i h=>h.IsTupleIter it a i) where
 mem:=by simp
 obj:=fun i h st b hb=>by
  have e:b=it:=by simpa using hb
  subst e
  obtain ⟨o,e,c,d⟩:=st
  exact ⟨o,e,fun v z=>by rw [d] at z;cases z⟩
 keep:=fun i h h' st k=>st.at fun o e=>k it (by simp) o e
 item:=by
  intro X hP hw hK hc i pins s σ H E I hf st hg
  subst hP hw hK
  obtain ⟨xs,x,hq,hx⟩:=hg
  obtain ⟨its,rv,p,hz⟩:=I.tuple hq
  obtain ⟨u,hu,ru⟩:=rv.get hx
  obtain ⟨f0,f1,f2,f3,f4,f5⟩:=hf it (by simp)
  refine wpAny_pyNext_tuple_item st (show s.heap.IsTuple a its.toArray from p) (x:=u) (by simpa using hu) fun h' st' sb=>?_
  have I1:Inv X pins σ H { s with heap:=h' }:=I.turned (t':=s.toks) (fun b o hb e=>(sb.2 b hb).trans e) f0 f1 f3 f4 f5
  obtain ⟨o,e,c,d⟩:=id st'
  exact ⟨u,rfl,Cu (s:={ s with heap:=h' }) e c d (by decide) ⟨x,H,I1,ru,⟨rfl,fun ys hy=>by rw [I.tuple_inj hy hq];exact hx⟩,st',fun b hb=>(hf b hb).1⟩⟩
 done:=by
  intro X hP hw hK hc i pins s σ H E I hf st hg
  subst hP hw hK
  obtain ⟨xs,hq,hx⟩:=hg
  obtain ⟨its,rv,p,hz⟩:=I.tuple hq
  obtain ⟨f0,f1,f2,f3,f4,f5⟩:=hf it (by simp)
  have hl:=rv.length
  exact wpAny_pyNext_tuple_end (I.ok.hd hc) st (show s.heap.IsTuple a its.toArray from p) (by simp;lia) fun h' eb=>⟨rfl,I.turned (t':=s.toks) (fun b o hb e=>eb b o hb e) f0 f1 f3 f4 f5⟩
 self:=fun _ _ _ _ _ st h=>wpAny_pyIter_tupleiter st h
theorem xn {P:bh} {w:bT} {K:ae} {tg:aR} (it:au) (lo:Int) (n:Nat):DN P w K tg (Itr lo n) [it] it (fun i h=>IsRangeIter h it (lo+(i:Nat)*1) ((n:Int)-(i:Nat)) 1) where
 mem:=by simp
 obj:=fun i h st b hb=>by
  have e:b=it:=by simpa using hb
  subst e
  exact ⟨_,st,fun v z=>by
   have z':Data.fields _=Data.cell v:=z
   cases z'⟩
 keep:=fun i h h' st k=>k it (by simp) _ st
 item:=by
  intro X hP hw hK hc i pins s σ H E I hf st hg
  subst hP hw hK
  obtain ⟨f0,f1,f2,f3,f4,f5⟩:=hf it (by simp)
  have W:=Walks.range (prog:=X.prog) (w:=X.w) (I.ok.hd hc) it lo 1 n
  refine W.item i s _ _ hg st fun v h' tk hv st' kk=>?_
  obtain ⟨t,rfl⟩:=hv
  have I1:Inv X pins σ H { s with heap:=h',toks:=tk }:=I.turned (fun b o hb e=>kk b o (by simpa using hb) e) f0 f1 f3 f4 f5
  refine ⟨_,rfl,Cu (s:={ s with heap:=h',toks:=tk }) (n:="range_iterator") st' rfl rfl (by decide) ⟨.int (lo+i),H,I1,⟨t,?_⟩,⟨rfl,rfl⟩,st',fun b hb=>(hf b hb).1⟩⟩
  rw [ik]
 done:=by
  intro X hP hw hK hc i pins s σ H E I hf st hg
  subst hP hw hK
  obtain ⟨f0,f1,f2,f3,f4,f5⟩:=hf it (by simp)
  exact wpAny_pyNext_range_end (I.ok.hd hc) st (by have:n<=i:=hg;lia) fun h' eb=>⟨rfl,I.turned (t':=s.toks) (fun b o hb e=>eb b o hb e) f0 f1 f3 f4 f5⟩
 self:=fun _ _ _ _ _ st h=>wpAny_pyIter_rangeiter st h
section
variable {X:Cx} {tg:aR}
noncomputable def JA (K:ae) (tl:TE):TI:=fun σ H R=>tl σ H fun x H1=>∃ a,x=.ref a/\(∃ xs,SqL K H1 a xs)/\R (Itl K a) H1
noncomputable def KO (K:ae) (tl:TE):TI:=fun σ H R=>tl σ H fun x H1=>∃ a,x=.ref a/\(∃ xs,SqT K H1 a xs)/\R (Itt K a) H1
theorem EO {l:aR} {tl:TE} (hl:PE X l tl):PI X tg l (JA X.K tl):=by
 intro pins s σ H R I h
 refine thn (hl pins s σ H _ I h) fun v s1 ⟨x,H1,I1,r1,q1⟩=>?_
 obtain ⟨a,e,⟨xs,hq⟩,q⟩:=q1
 subst e
 cases r1
 obtain ⟨its,rv,p,hz⟩:=I1.list hq
 refine jE p.isList ?_
 refine ⟨s1.heap.objs.size,[s1.heap.objs.size],_,_,H1,rfl,I1.kept (t':=s1.toks) fun b o e=>ah _ e,y8 a _,⟨_,aL _ rfl,rfl,rfl⟩,fun b hb=>?_,q⟩
 have e:b=s1.heap.objs.size:=by simpa using hb
 subst e
 exact I1.fpOk (az _) (I1.hok.fresh (az _))
theorem IF {l:aR} {tl:TE} (hl:PE X l tl):PI X tg l (KO X.K tl):=by
 intro pins s σ H R I h
 refine thn (hl pins s σ H _ I h) fun v s1 ⟨x,H1,I1,r1,q1⟩=>?_
 obtain ⟨a,e,⟨xs,hq⟩,q⟩:=q1
 subst e
 cases r1
 obtain ⟨its,rv,p,hz⟩:=I1.tuple hq
 refine wpAny_pyIter_tuple (show s1.heap.IsTuple a its.toArray from p) ?_
 refine ⟨s1.heap.objs.size,[s1.heap.objs.size],_,_,H1,rfl,I1.kept (t':=s1.toks) fun b o e=>ah _ e,xa a _,⟨_,aL _ rfl,rfl,rfl⟩,fun b hb=>?_,q⟩
 have e:b=s1.heap.objs.size:=by simpa using hb
 subst e
 exact I1.fpOk (az _) (I1.hok.fresh (az _))
theorem vm {pins:List (au×cX)} {σ:St} {H:Hp} {s:ai} {R:It->Hp->Prop} {E:ag->ai->Prop} {lo hi:Int} {t u v:xS} {tk:Nat} (I:Inv X pins σ H s) (h1 : -(2 ^ 62)<=lo) (h2:lo<2 ^ 62) (h3 : -(2 ^ 62)<=hi) (h4:hi<2 ^ 62)
 (q:R (Itr lo (hi-lo).toNat) H):aN (aZ X.prog X.w) X.A (pyIter (.ref s.heap.objs.size)) (PIE X pins σ tg R) E { s with heap:=s.heap.push { cls:=.type "range",data:=.fields #[.int lo t,.int hi u,.int 1 v] },toks:=tk }:=by
 refine wpAny_pyIter_range (IsRange.new ..) (small_one h1 h2 h3 h4) ?_
 have I1:Inv X pins σ H { s with heap:=s.heap.push { cls:=.type "range",data:=.fields #[.int lo t,.int hi u,.int 1 v] },toks:=tk }:=I.kept fun b o e=>ah _ e
 refine ⟨(s.heap.push { cls:=.type "range",data:=.fields #[.int lo t,.int hi u,.int 1 v] }).objs.size,[(s.heap.push { cls:=.type "range",data:=.fields #[.int lo t,.int hi u,.int 1 v] }).objs.size],_,_,H,rfl,
  I1.kept (t':=tk) fun b o e=>ah _ e,xn _ lo (hi-lo).toNat,?_,fun b hb=>?_,q⟩
 ·have e1:lo+((0:Nat):Int)*1=lo:=by simp
  have e2:(((hi-lo).toNat:Nat):Int)-((0:Nat):Int)=Builtin.Range.rangeSize lo hi 1:=by rw [wu];split<;>lia
  show IsRangeIter _ _ (lo+((0:Nat):Int)*1) ((((hi-lo).toNat:Nat):Int)-((0:Nat):Int)) 1
  rw [e1,e2]
  exact aL _ rfl
 ·have e:b=(s.heap.push { cls:=.type "range",data:=.fields #[.int lo t,.int hi u,.int 1 v] }).objs.size:=by simpa using hb
  subst e
  exact I1.fpOk (az _) (I1.hok.fresh (az _))
noncomputable def JT (ta:TA):TI:=fun σ H R=>ta σ H fun vs H1=>∃ j:Int,vs=[.int j]/\-(2 ^ 62)<=j/\j<2 ^ 62/\R (Itr 0 j.toNat) H1
noncomputable def Jr (ta:TA):TI:=fun σ H R=>ta σ H fun vs H1=>∃ i j:Int,vs=[.int i,.int j]/\(-(2 ^ 62)<=i/\i<2 ^ 62/\-(2 ^ 62)<=j/\j<2 ^ 62)/\R (Itr i (j-i).toNat) H1
theorem Aj {a:aR} {ta:TA} {p pos:d4} (hg:Gl X "range") (hm:X.mg "range" = none) (ha:PA X [a] ta) (hs:ao [a] X.env=[(false,bL a X.env)]:=by rfl):PI X tg (.Call (.Name "range" p) [a] [] pos) (JT ta):=by
 intro pins s σ H R I h
 refine Call_ (mz I hg hm boot_range (eS (thn (ha pos pins s σ H _ I h) fun us s1 ⟨vs,H1,I1,r1,q1⟩=>?_) hs rfl))
 obtain ⟨j,e,q1,q2,q⟩:=q1
 subst e
 cases r1 with
 | cons r rr =>
   cases rr
   obtain ⟨t,rfl⟩:=r
   exact call_range_1 (vm I1 (by lia) (by lia) q1 q2 (by simpa using q))
theorem yA {a b:aR} {ta:TA} {p pos:d4} (hg:Gl X "range") (hm:X.mg "range" = none) (ha:PA X [a,b] ta) (hs:ao [a,b] X.env=[(false,bL a X.env),(false,bL b X.env)]:=by rfl) (hs2:ao [b] X.env=[(false,bL b X.env)]:=by rfl) :
 PI X tg (.Call (.Name "range" p) [a,b] [] pos) (Jr ta):=by
 intro pins s σ H R I h
 refine Call_ (mz I hg hm boot_range (eS (thn (ha pos pins s σ H _ I h) fun us s1 ⟨vs,H1,I1,r1,q1⟩=>?_) (by rw [hs,hs2]) (by rw [hs2];rfl)))
 obtain ⟨i,j,e,⟨q1,q2,q3,q4⟩,q⟩:=q1
 subst e
 cases r1 with
 | cons r rr =>
   cases rr with
   | cons r' rr =>
     cases rr
     obtain ⟨t,rfl⟩:=r
     obtain ⟨t',rfl⟩:=r'
     exact call_range_2 (vm I1 q1 q2 q3 q4 q)
noncomputable def Jn (wi:TI) (g:TG) (tb:TS):TS:=fun D σ H=>wi σ H fun J H1=>∃ W:Nat->Nat->St->Hp->Prop,(∃ m,W 0 m σ H1)/\∀ i m σ H,W i m σ H ->
 (J.stop i H/\D.nx σ H)\/(J.go i H/\∃ N:St->Hp->Prop,(∀ σ' H',N σ' H'->∃ m',m'<m/\W (i+1) m' σ' H')/\∀ x H',J.yld i H x H'->g x σ H' fun σ2 H2=>tb { D with nx:=N,ct:=N,bk:=D.nx } σ2 H2)
noncomputable def s0 (fp:List au) (h:b9):List (au×cX):=fp.filterMap fun b=>(h.get? b).map fun o=>(b,o)
theorem kj {fp:List au} {h:b9} {b:au} {o:cX} (hb:b∈fp) (e:h.get? b=some o):(b,o)∈s0 fp h:=xA.mpr ⟨b,hb,by rw [e];rfl⟩
theorem zR {fp:List au} {h:b9} {p:au×cX} (hp:p∈s0 fp h):p.1∈fp/\h.get? p.1=some p.2:=by
 obtain ⟨b,hb,e⟩:=xA.mp hp
 cases q:h.get? b with
 | none=>rw [q] at e;cases e
 | some o =>
   rw [q] at e
   have e':(b,o)=p:=bH e
   subst e'
   exact ⟨hb,q⟩
theorem Inv.pinned {pins:List (au×cX)} {σ:St} {H:Hp} {s:ai} {fp:List au} (I:Inv X pins σ H s) (hf:∀ b∈fp,xN X pins H b) (ho:∀ b∈fp,∃ o,s.heap.get? b=some o/\∀ v,o.data≠.cell v):Inv X (pins++s0 fp s.heap) σ H s :=
 I.pins_of fun p hp=>(aA.mp hp).elim (fun z=>I.pin p (aW _ z)) fun z=>by
  obtain ⟨hb,e⟩:=zR z
  obtain ⟨f0,f1,f2,_⟩:=hf p.1 hb
  obtain ⟨o,e',d⟩:=ho p.1 hb
  rw [e] at e';cases e'
  exact ⟨e,f0,f1,f2,d⟩
theorem Inv.unpinned {pins pl:List (au×cX)} {σ:St} {H:Hp} {s:ai} (I:Inv X (pins++pl) σ H s):Inv X pins σ H s:=I.pins_of fun p hp=>I.pin p (aW _ (cQ _ hp))
theorem vX {iter:aR} {body:List cq} {wi:TI} {g:TG} {tb:TS} {pos:d4} (hp:mt (aZ X.prog X.w) X.A X.env X.xe) (hc:X.calm=true) (hi:PI X tg iter wi) (hg:PG X tg g) (hb:PSs X body tb)
 (hs:∀ x,eM iter X.env x=pure x:=by intro _;rfl):PS X (.For tg iter body [] pos) (Jn wi g tb):=by
 intro pins s σ H D I h
 refine wpAny_For (thn (hi pins s σ H _ I h) fun v s1 h1=>thn h1 fun itv s2 h2=>?_) hs
 obtain ⟨it,fp,tn,J,H2,e,I2,T,st2,f2,W,⟨m0,w0⟩,turn⟩:=h2
 subst e
 have stat:∀ {H':Hp},(∀ b∈fp,H' b=none)->∀ b∈fp,xN X pins H' b:=fun hn b hb=>⟨hn b hb,(f2 b hb).2⟩
 refine codeAny_forLoop_any (fun n s'=>∃ i σ' H',Inv X pins σ' H' s'/\tn i s'.heap/\(∀ b∈fp,H' b=none)/\W i n σ' H') ?_ m0 ⟨0,σ,H2,I2,st2,fun b hb=>(f2 b hb).1,w0⟩
 rintro n s3 ⟨i,σ3,H3,I3,st3,fr3,w3⟩
 rcases turn i n σ3 H3 w3 with ⟨stop,qn⟩ | ⟨go,N,hN,step⟩
 ·refine fI hp (thn (T.done X rfl rfl rfl hc i pins s3 σ3 H3 X.xe I3 (stat fr3) st3 stop) fun r s4 ⟨hr,I4⟩=>?_)
  subst hr
  exact k9 ⟨σ3,H3,I4,qn⟩
 ·refine fI hp (thn (T.item X rfl rfl rfl hc i pins s3 σ3 H3 X.xe I3 (stat fr3) st3 go) fun r s4 ⟨u,hr,h4⟩=>?_)
  subst hr
  refine fI hp (thn h4 fun _ s5 ⟨x,H5,I5,r5,y5,st5,fr5⟩=>?_)
  have I5':=I5.pinned (stat fr5) (T.obj _ _ st5)
  refine fI hp (thn (hg _ s5 σ3 H5 x u _ I5' r5 (step x H5 y5)) fun _ s6 ⟨σ6,H6,I6,q6⟩=>?_)
  refine fI hp (thn (hb _ s6 σ6 H6 _ I6 q6) fun f s7 q7=>?_)
  have again:∀ {σ7:St} {H7:Hp},Inv X (pins++s0 fp s5.heap) σ7 H7 s7->N σ7 H7->∃ m,m<n/\∃ i σ' H',Inv X pins σ' H' s7/\tn i s7.heap/\(∀ b∈fp,H' b=none)/\W i m σ' H':=fun {σ7 H7} I7 n7=>by
   obtain ⟨m',hm,w7⟩:=hN σ7 H7 n7
   refine ⟨m',hm,i+1,σ7,H7,I7.unpinned,T.keep _ _ _ st5 fun b hb o e=>(I7.pin (b,o) (aW _ (aW _ (kj hb e)))).1,fun b hb=>?_,w7⟩
   obtain ⟨o,e,d⟩:=T.obj _ _ st5 b hb
   exact (I7.pin (b,o) (aW _ (aW _ (kj hb e)))).2.1
  cases f with
  | next=>obtain ⟨σ7,H7,I7,n7⟩:=q7;exact again I7 n7
  | cont=>obtain ⟨σ7,H7,I7,n7⟩:=q7;exact again I7 n7
  | brk=>obtain ⟨σ7,H7,I7,q7⟩:=q7;exact ⟨σ7,H7,I7.unpinned,q7⟩
  | ret v=>obtain ⟨x7,σ7,H7,I7,r7,q7⟩:=q7;exact ⟨x7,σ7,H7,I7.unpinned,r7,q7⟩
end
noncomputable abbrev R2:=V->V->Hp->VK->Prop
noncomputable def OpR (X:Cx) (f:ag->ag->Sem ag) (r:R2):Prop :=
 ∀ (pins:List (au×cX)) (s:ai) (σ:St) (H:Hp) (x y:V) (v u:ag) (Q:VK),Inv X pins σ H s->fZ x v->fZ y u->r x y H Q ->
   aN (aZ X.prog X.w) X.A (f v u) (EP X pins σ Q) X.xe s
noncomputable def UnR (X:Cx) (f:ag->Sem ag) (r:V->Hp->VK->Prop):Prop :=
 ∀ (pins:List (au×cX)) (s:ai) (σ:St) (H:Hp) (x:V) (v:ag) (Q:VK),Inv X pins σ H s->fZ x v->r x H Q ->
   aN (aZ X.prog X.w) X.A (f v) (EP X pins σ Q) X.xe s
noncomputable def j0 (X:Cx) (f:ag) (r:List V->Hp->VK->Prop):Prop :=
 ∀ (pins:List (au×cX)) (s:ai) (σ:St) (H:Hp) (xs:List V) (us:List ag) (Q:VK),Inv X pins σ H s->dJ xs us->r xs H Q ->
   aN (aZ X.prog X.w) X.A (call f us) (EP X pins σ Q) X.xe s
noncomputable def KW (X:Cx) (r:V->Hp->(Bool->Hp->Prop)->Prop):Prop :=
 ∀ (pins:List (au×cX)) (s:ai) (σ:St) (H:Hp) (x:V) (v:ag) (Q:Bool->Hp->Prop),Inv X pins σ H s->fZ x v->r x H Q ->
   aN (aZ X.prog X.w) X.A (truthy v) (TP X pins σ Q) X.xe s
noncomputable def tOp (r:R2) (ta tb:TE):TE:=fun σ H Q=>ta σ H fun x H1=>tb σ H1 fun y H2=>r x y H2 Q
noncomputable def tUn (r:V->Hp->VK->Prop) (ta:TE):TE:=fun σ H Q=>ta σ H fun x H1=>r x H1 Q
noncomputable def rI (C:Int->Int->Prop) (g:Int->Int->V):R2:=fun x y H Q=>∃ i j,x=.int i/\y=.int j/\C i j/\Q (g i j) H
noncomputable def rI0 (g:Int->Int->V):R2:=fun x y H Q=>∃ i j,x=.int i/\y=.int j/\Q (g i j) H
noncomputable def rU (g:Int->V):V->Hp->VK->Prop:=fun x H Q=>∃ i,x=.int i/\Q (g i) H
section
variable {X:Cx} {a b c:aR} {ta tb tc:TE} {pos:d4}
theorem JI (ha:PE X a ta) (hb:PE X b tb) {pins:List (au×cX)} {s:ai} {σ:St} {H:Hp} {R:V->V->Hp->Prop} (I:Inv X pins σ H s)
 (h:ta σ H fun x H1=>tb σ H1 fun y H2=>R x y H2) {Q:ag->ai->Prop} {f:ag->ag->Sem ag}
 (hf:∀ v u s2 x y H2,Inv X pins σ H2 s2->fZ x v->fZ y u->R x y H2->aN (aZ X.prog X.w) X.A (f v u) Q X.xe s2) :
 aN (aZ X.prog X.w) X.A (bL a X.env) (fun v s₁=>aN (aZ X.prog X.w) X.A (bL b X.env) (fun u s₂=>aN (aZ X.prog X.w) X.A (f v u) Q X.xe s₂) X.xe s₁) X.xe s:=by
 refine thn (ha pins s σ H _ I h) fun v s1 ⟨x,H1,I1,r1,q1⟩=>?_
 refine thn (hb pins s1 σ H1 _ I1 q1) fun u s2 ⟨y,H2,I2,r2,q2⟩=>?_
 exact hf v u s2 x y H2 I2 r1 r2 q2
theorem J3 {op:Operator} {r:R2} (ho:OpR X (iC op) r) (ha:PE X a ta) (hb:PE X b tb):PE X (.BinOp a op b pos) (tOp r ta tb):=by
 intro pins s σ H Q I h
 exact wpAny_BinOp (JI ha hb I h fun v u s2 x y H2 I2 rx ry q=>ho pins s2 σ H2 x y v u Q I2 rx ry q)
theorem JX {op:UnaryOp} {r:V->Hp->VK->Prop} (ho:UnR X (unaryOp op) r) (ha:PE X a ta):PE X (.UnaryOp op a pos) (tUn r ta):=by
 intro pins s σ H Q I h
 exact UnaryOp_ (thn (ha pins s σ H _ I h) fun v s1 ⟨x,H1,I1,r1,q1⟩=>ho pins s1 σ H1 x v Q I1 r1 q1)
theorem opI {f:ag->ag->Sem ag} {C:Int->Int->Prop} {g:Int->Int->Int}
 (rule:∀ (i j:Int) (t u:xS) (s:ai) (Q:ag->ai->Prop) (E:ag->ai->Prop),C i j->Q (.int (g i j) s.toks) { s with toks:=s.toks+1 }->aN (aZ X.prog X.w) X.A (f (.int i t) (.int j u)) Q E s) :
 OpR X f (rI C fun i j=>.int (g i j)):=by
 intro pins s σ H x y v u Q I rx ry h
 obtain ⟨i,j,rfl,rfl,hc,q⟩:=h
 obtain ⟨t,rfl⟩:=rx
 obtain ⟨t',rfl⟩:=ry
 exact rule i j t t' s _ _ hc ⟨.int (g i j),H,I.tok _,⟨_,rfl⟩,q⟩
theorem Kr {f:ag->ag->Sem ag} {g:Int->Int->Int}
 (rule:∀ (i j:Int) (t u:xS) (s:ai) (Q:ag->ai->Prop) (E:ag->ai->Prop),Q (.int (g i j) s.toks) { s with toks:=s.toks+1 }->aN (aZ X.prog X.w) X.A (f (.int i t) (.int j u)) Q E s) :
 OpR X f (rI0 fun i j=>.int (g i j)):=by
 intro pins s σ H x y v u Q I rx ry h
 obtain ⟨i,j,rfl,rfl,q⟩:=h
 obtain ⟨t,rfl⟩:=rx
 obtain ⟨t',rfl⟩:=ry
 exact rule i j t t' s _ _ ⟨.int (g i j),H,I.tok _,⟨_,rfl⟩,q⟩
theorem K1 {f:ag->ag->Sem ag} {g:Int->Int->Bool}
 (rule:∀ (i j:Int) (t u:xS) (s:ai) (Q:ag->ai->Prop) (E:ag->ai->Prop),Q (.bool (g i j)) s->aN (aZ X.prog X.w) X.A (f (.int i t) (.int j u)) Q E s) :
 OpR X f (rI0 fun i j=>.bl (g i j)):=by
 intro pins s σ H x y v u Q I rx ry h
 obtain ⟨i,j,rfl,rfl,q⟩:=h
 obtain ⟨t,rfl⟩:=rx
 obtain ⟨t',rfl⟩:=ry
 exact rule i j t t' s _ _ ⟨.bl (g i j),H,I,rfl,q⟩
noncomputable def Je (i j:Int):Prop:=(-(2 ^ 64)<i/\i<2 ^ 64)\/(-(2 ^ 64)<j/\j<2 ^ 64)
theorem Je.ok {i j:Int} (h:Je i j):IntMulOk i j:=by
 rcases h with ⟨h1,h2⟩ | ⟨h1,h2⟩
 ·exact .of_left (intBits_le_64 h1 h2)
 ·exact .of_right (intBits_le_64 h1 h2)
theorem IX:OpR X (iC .Add) (rI0 fun i j=>.int (i+j)):=Kr fun _ _ _ _ _ _ _ q=>add_int q
theorem FZ:OpR X (iC .Sub) (rI0 fun i j=>.int (i-j)):=Kr fun _ _ _ _ _ _ _ q=>sub_int q
theorem Ja:OpR X (iC .Mult) (rI Je fun i j=>.int (i*j)):=opI fun _ _ _ _ _ _ _ hc q=>mul_int q hc.ok
theorem IW:OpR X (iC .Mod) (rI (fun _ j=>0<j) fun i j=>.int (i%j)):=opI fun i j _ _ _ _ _ hc q=>by
 have h1:(0:Int)<j:=hc
 exact mod_int' (by lia) (by rw [Int.fmod_eq_emod_of_nonneg i (by lia)];exact q)
theorem unI {f:ag->Sem ag} {g:Int->Int}
 (rule:∀ (i:Int) (t:xS) (s:ai) (Q:ag->ai->Prop) (E:ag->ai->Prop),Q (.int (g i) s.toks) { s with toks:=s.toks+1 }->aN (aZ X.prog X.w) X.A (f (.int i t)) Q E s) :
 UnR X f (rU fun i=>.int (g i)):=by
 intro pins s σ H x v Q I rx h
 obtain ⟨i,rfl,q⟩:=h
 obtain ⟨t,rfl⟩:=rx
 exact rule i t s _ _ ⟨.int (g i),H,I.tok _,⟨_,rfl⟩,q⟩
theorem Hv:UnR X (unaryOp .USub) (rU fun i=>.int (-i)):=unI fun _ _ _ _ _ q=>neg_int q
theorem J7:OpR X (dq .Lt) (rI0 fun i j=>.bl (decide (i<j))):=K1 fun _ _ _ _ _ _ _ q=>lt_int q
theorem OpR.or {f:ag->ag->Sem ag} {r r':R2} (h:OpR X f r) (h':OpR X f r'):OpR X f (fun x y H Q=>r x y H Q\/r' x y H Q):=by
 intro pins s σ H x y v u Q I rx ry q
 rcases q with q | q
 ·exact h pins s σ H x y v u Q I rx ry q
 ·exact h' pins s σ H x y v u Q I rx ry q
theorem wb (b:aR) {op:oG} (h:op≠.In:=by decide) (h2:op≠.NotIn:=by decide):d5 op b=false:=by
 have e1:(op == CmpOp.In)=false:=by cases op<;>first | rfl | exact absurd rfl h
 have e2:(op == CmpOp.NotIn)=false:=by cases op<;>first | rfl | exact absurd rfl h2
 cases b<;>simp [d5,e1,e2]
theorem EI {op:oG} {r:R2} (ho:OpR X (dq op) r) (ha:PE X a ta) (hb:PE X b tb) (hm:d5 op b=false):PE X (.Compare a [op] [b] pos) (tOp r ta tb):=by
 intro pins s σ H Q I h
 exact wpAny_Compare1 (JI ha hb I h fun v u s2 x y H2 I2 rx ry q=>ho pins s2 σ H2 x y v u Q I2 rx ry q) hm
noncomputable def Jv (t:TE):TT:=fun σ H Q=>t σ H fun x H'=>∃ k,x=.bl k/\Q k H'
theorem Fb {op:oG} {r:R2} (ho:OpR X (dq op) r) (ha:PE X a ta) (hb:PE X b tb) (hm:d5 op b=false):PT X (.Compare a [op] [b] pos) (Jv (tOp r ta tb)):=by
 intro pins s σ H Q I h
 refine AU (thn (ha pins s σ H _ I h) fun v s1 ⟨x,H1,I1,r1,q1⟩=>thn (hb pins s1 σ H1 _ I1 q1) fun u s2 ⟨y,H2,I2,r2,q2⟩ =>
  thn (ho pins s2 σ H2 x y v u _ I2 r1 r2 q2) fun c s3 ⟨z,H3,I3,r3,k,e,q3⟩=>?_) hm
 subst e
 cases r3
 exact c5 ⟨H3,I3,q3⟩
noncomputable def KC (K:ae) (x:V) (H:Hp) (k:Bool):Prop :=
 match x with
 | .non=>k=false
 | .bl b=>k=b
 | .int i=>k=(i != 0)
 | .str y=>y.length<=aK/\k=((y.length:Int) != 0)
 | .byt y=>y.size<=aK/\k=((y.size:Int) != 0)
 | .ref p=>(∃ xs,SqL K H p xs/\k = !xs.isEmpty)\/(∃ xs,SqT K H p xs/\k = !xs.isEmpty)\/∃ kvs,H p=some (.dK kvs)/\k = !kvs.isEmpty
 | _=>False
theorem xu {κ:Type} {kvs:List (κ×V)} {vs:List (κ×ag)} (r:KV kvs vs):(!vs.isEmpty) = !kvs.isEmpty:=by
 cases r<;>rfl
theorem pD {xs:List V} {its:List ag} (r:dJ xs its):(!its.toArray.isEmpty) = !xs.isEmpty:=by
 cases r<;>simp
theorem sn:(aK:Nat)<2 ^ 63:=by rw [bu];decide
theorem IU:KW X (fun x H Q=>∃ k,KC X.K x H k/\Q k H):=by
 intro pins s σ H x v Q I rx h
 obtain ⟨k,e,q⟩:=h
 have hl:=sn
 have hs:aK=16777216:=bu
 cases x with
 | non =>
   cases rx
   have e':k=false:=e
   subst e'
   exact truthy_none ⟨H,I,q⟩
 | bl b =>
   cases rx
   have e':k=b:=e
   subst e'
   exact c5 ⟨H,I,q⟩
 | int i =>
   obtain ⟨t,rfl⟩:=rx
   have e':k=(i != 0):=e
   subst e'
   exact PySem.P.truthy_int ⟨H,I,q⟩
 | str y =>
   obtain ⟨t,rfl⟩:=rx
   obtain ⟨hy,e'⟩:y.length<=aK/\k=((y.length:Int) != 0):=e
   subst e'
   exact PySem.P.truthy_str (by lia) ⟨H,I.tok _,q⟩
 | byt y =>
   obtain ⟨t,rfl⟩:=rx
   obtain ⟨hy,e'⟩:y.size<=aK/\k=((y.size:Int) != 0):=e
   subst e'
   exact PySem.W.truthy_bytes (by lia) ⟨H,I.tok _,q⟩
 | ref p =>
   cases rx
   have e':(∃ xs,SqL X.K H p xs/\k = !xs.isEmpty)\/(∃ xs,SqT X.K H p xs/\k = !xs.isEmpty)\/∃ kvs,H p=some (.dK kvs)/\k = !kvs.isEmpty:=e
   rcases e' with ⟨xs,hx,e'⟩ | ⟨xs,hx,e'⟩ | ⟨kvs,hx,e'⟩
   ·subst e'
    obtain ⟨its,r,pl,hz⟩:=I.list hx
    have hlen:=r.length
    exact wpAny_truthy_list pl.isList (by simp only [ax];lia) ⟨H,I.tok _,by rw [pD r];exact q⟩
   ·subst e'
    obtain ⟨its,r,pl,hz⟩:=I.tuple hx
    have hlen:=r.length
    exact truthy_tuple pl (by simp only [ax];lia) ⟨H,I.tok _,by rw [pD r];exact q⟩
   ·subst e'
    obtain ⟨hz,hS,vs,r,m⟩:kvs.length<=aK/\(p == cV)=false/\∃ vs,KV kvs vs/\s.heap.DictOf (cy X.prog X.w) p vs:=I.hok p _ hx
    have hlen:kvs.length=vs.length:=bY r
    exact wpAny_truthy_dict hS m (by lia) ⟨H,I.tok _,by rw [xu r];exact q⟩
 | _=>exact (show False from e).elim
theorem BZ (ha:PE X a ta) (he:∀ whole,isTrue a X.env whole=(do let v <- whole;tO a.pos;tP [v] (truthy v))) :
 PT X a (fun σ H Q=>ta σ H fun x H'=>∃ k,KC X.K x H' k/\Q k H'):=by
 intro pins s σ H Q I h
 exact isTrue_plain (thn (ha pins s σ H _ I h) fun v s1 ⟨x,H1,I1,r1,q1⟩=>IU pins s1 σ H1 x v Q I1 r1 q1) (he _)
theorem kZ {x:V} {us:List ag} (r:dJ [x] us):∃ u,us=[u]/\fZ x u:=by
 cases r with
 | cons r1 r2=>cases r2;exact ⟨_,rfl,r1⟩
theorem Kk {x y:V} {us:List ag} (r:dJ [x,y] us):∃ u w',us=[u,w']/\fZ x u/\fZ y w':=by
 cases r with
 | cons r1 r2 =>
   cases r2 with
   | cons r3 r4=>cases r4;exact ⟨_,_,rfl,r1,r3⟩
end
theorem xQ.some_of {v:V} {o:Option ag} (r:xQ (some v) o):∃ u,o=some u/\fZ v u:=by
 cases o with
 | none=>exact (show False from r).elim
 | some u=>exact ⟨u,rfl,r⟩
structure iz (k:Nat) (A:bE):Prop where
 gd:A.guards=some []
 hd:A.handled=none
 dp:A.depth+3*k+5<t4
 un:A.units+16*k+200<cg
theorem iz.mono {j k:Nat} {A:bE} (r:iz k A) (h:j<=k):iz j A:=⟨r.gd,r.hd,by have:=r.dp;lia,by have:=r.un;lia⟩
theorem iz.deeper {k:Nat} {A:bE} (r:iz (k+1) A) (env:m8):iz k (A.deeper env) :=
 ⟨r.gd,r.hd,by have:=r.dp;show A.depth+1+3*k+5<_;lia,by have:=r.un;show A.units+3+16*k+200<_;lia⟩
theorem iz.in1 {k:Nat} {A:bE} (r:iz (k+1) A):iz k A.in1 :=
 ⟨r.gd,r.hd,by have:=r.dp;show A.depth+3*k+5<_;lia,by have:=r.un;show A.units+1+16*k+200<_;lia⟩
theorem iz.depth {k:Nat} {A:bE} (r:iz k A):A.depth<t4:=by have:=r.dp;lia
theorem iz.units {k:Nat} {A:bE} (r:iz k A):A.units+64<cg:=by have:=r.un;lia
noncomputable def Iw:TA:=fun _ H Q=>Q [] H
noncomputable def nW (ta:TE) (tr:TA):TA:=fun σ H Q=>ta σ H fun x H1=>tr σ H1 fun xs H2=>Q (x::xs) H2
section
variable {X:Cx} {e:aR} {es:List aR} {te:TE} {t:TA} {pos:d4}
theorem jx:PA X [] Iw:=fun _ _ _ _ H Q I h=>xD ⟨[],H,I,.nil,h⟩
theorem e6 (ha:PE X e te) (hr:PA X es t) (hs:ao (e::es) X.env=(false,bL e X.env)::ao es X.env:=by rfl):PA X (e::es) (nW te t):=by
 intro pos pins s σ H Q I h
 rw [hs]
 show aN _ _ (spliced ((false,bL e X.env)::bZ pos (ao es X.env))) _ _ s
 refine lf (thn (ha pins s σ H _ I h) fun u s1 ⟨x,H1,I1,r1,q1⟩=>?_)
 exact thn (hr pos pins s1 σ H1 _ I1 q1) fun us s2 ⟨xs,H2,I2,r2,q2⟩=>⟨x::xs,H2,I2,.cons r1 r2,q2⟩
noncomputable def KR (t:TA):TE:=fun σ H Q=>t σ H fun xs H1=>xs.length<=aK/\∀ p,H1 p=none->Q (.ref p) (upd H1 p (.tup xs))
noncomputable def KS (t:TA):TE:=fun σ H Q=>t σ H fun xs H1=>xs.length<=aK/\∀ p,H1 p=none->Q (.ref p) (upd H1 p (.lst xs))
theorem Iq {x1} (h:PA X es t):PE X (.Tuple es x1 pos) (KR t):=by
 intro pins s σ H Q I hq
 refine wpAny_Tuple_spliced (thn (h pos pins s σ H _ I hq) fun us s1 ⟨xs,H1,I1,r,z,q⟩=>⟨by rw [<- r.length];exact z,?_⟩)
 have hf:H1 s1.heap.objs.size=none:=I1.hok.fresh (az _)
 refine ⟨.ref s1.heap.objs.size,upd H1 s1.heap.objs.size (.tup xs),I1.laid (t':=s1.toks) (fun b u e=>ah _ e) (az _) ?_,rfl,q _ hf⟩
 exact ⟨⟨z,lH.new _ _⟩,us,r,⟨_,aL _ rfl,rfl,_,rfl⟩⟩
theorem Iz (h:PA X es t):PE X (.List es pos) (KS t):=by
 intro pins s σ H Q I hq
 refine wpAny_List_spliced (thn (h pos pins s σ H _ I hq) fun us s1 ⟨xs,H1,I1,r,z,q⟩=>⟨by rw [<- r.length];exact z,?_⟩)
 have hf:H1 s1.heap.objs.size=none:=I1.hok.fresh (az _)
 refine ⟨.ref s1.heap.objs.size,upd H1 s1.heap.objs.size (.lst xs),I1.laid (t':=s1.toks) (fun b u e=>ah _ e) (az _) ?_,rfl,q _ hf⟩
 exact ⟨z,us,0,r,aL _ rfl⟩
end
noncomputable abbrev Sp:=List V->Hp->VK->XK->Prop
noncomputable abbrev CXT:=List m8->Hp->ai->XK->ag->ai->Prop
structure Jg (P:bh) (w:bT) (K:ae) (mg:bv->Option ag) (base:b9) (A:bE) (outer:List m8) (s:ai) (H:Hp):Prop where
 frames:A.frames=some outer
 mod:Mod K mg base
 bs:∀ b o,base.get? b=some o->s.heap.get? b=some o/\H b=none
 bsz:base.objs.size<=s.heap.objs.size
 funs:s.heap.FunFrames base outer
 frf:∀ b∈frs outer,H b=none
 hok:HOk P w H s.heap
 bare:kH s.gens
noncomputable def CE (outer:List m8) (P:bh) (w:bT) (H:Hp) (s:ai) (Q:VK) (u:ag) (s':ai):Prop :=
 ∃ v H',s'.os=s.os/\kH s'.gens/\Un (frs outer) [] H H' s.heap s'.heap/\HOk P w H' s'.heap/\fZ v u/\Q v H'
noncomputable def CR (CX:CXT) (outer:List m8) (P:bh) (w:bT) (H:Hp) (s:ai) (Q:VK) (E:XK) (r:xT) (s':ai):Prop :=
 match r with
 | .ok (.ret u)=>CE outer P w H s Q u s'
 | .ok _=>False
 | .error e=>CX outer H s E e s'
structure rH (P:bh) (w:bT) (K:ae) (mg:bv->Option ag) (base:b9) (CX:CXT) (k:Nat) (f:au) (fd:cJ) (ps:List bv) (sp:Sp):Prop where
 len:∀ vs H Q E,sp vs H Q E->vs.length=ps.length
 run:∀ (A:bE) (outer:List m8) (s:ai) (H:Hp) (args:Args) (us:List ag) (vs:List V) (Q:VK) (E:XK),iz k A->Jg P w K mg base A outer s H->tQ s fd args (ps.zip us)->dJ vs us->sp vs H Q E ->
  kI (aZ P w) A (.call (.ref f) args) (CR CX outer P w H s Q E) s
section
variable {X:Cx} {pins:List (au×cX)} {σ:St} {H:Hp} {s s':ai}
theorem Inv.env0 (I:Inv X pins σ H s):Jg X.prog X.w X.K X.mg X.base X.A X.stack s H :=
 ⟨I.ok.frames,I.ok.mod,I.bs,bO I.ok.bsz I.sz,I.stack,I.stkFree,I.hok,I.bare⟩
theorem Inv.after {Q:VK} {u:ag} (I:Inv X pins σ H s) (h:CE X.stack X.prog X.w H s Q u s'):EP X pins σ Q u s':=by
 obtain ⟨v,H',os,bare,un,hok,r,q⟩:=h
 obtain ⟨hh,g,d,t,os'⟩:=s'
 obtain rfl:os'=s.os:=os
 exact ⟨v,H',I.call (h':=hh) (g':=g) (d':=d) (t':=t) (ch:=[]) un hok bare (fun b z=>absurd z (by simp)),r,q⟩
end
noncomputable def D3 (sp:Sp) (dvs:List V) (E:XK) (t:TA):TE:=fun σ H Q=>t σ H fun vs H1=>sp (vs++dvs) H1 Q E
noncomputable def o5 (K:ae) (fd:cJ) (ps:List bv) (ds:List ag):Prop :=
 ∀ (s:ai) (us:List ag),K.In s.heap->(us++ds).length=ps.length->tQ s fd ⟨us,[]⟩ (ps.zip (us++ds))
theorem o5.all {K:ae} {fd:cJ} {ps:List bv} (h:∀ us:List ag,us.length=ps.length->iD fd ⟨us,[]⟩=pure (ps.zip us)):o5 K fd ps []:=fun s us _ hl=>by
 rw [cC] at hl ⊢
 exact .of_eq (h us hl)
noncomputable def yp (CX:CXT) (X:Cx) (E:XK):Prop:=∀ (pins:List (au×cX)) (σ:St) (H:Hp) (s:ai) (e:ag) (s':ai),Inv X pins σ H s->CX X.stack H s E e s'->X.xe e s'
section
variable {X:Cx} {CX:CXT} {k:Nat} {f C:au} {fd:cJ} {ps:List bv} {sp:Sp} {dvs:List V} {ds:List ag} {E:XK} {x m:bv} {p pos apos:d4} {e o:aR} {es:List aR} {ta:TE} {t:TA}
theorem Gw {pins:List (au×cX)} {σ:St} {H:Hp} {s:ai} {Q:VK} {us:List ag} {vs:List V} (F:rH X.prog X.w X.K X.mg X.base CX k f fd ps sp) (hr:iz k X.A) (hb:o5 X.K fd ps ds) (hd:dJ dvs ds) (hx:yp CX X E)
 (I:Inv X pins σ H s) (r:dJ vs us) (h:sp (vs++dvs) H Q E):aN (aZ X.prog X.w) X.A (call (.ref f) us) (EP X pins σ Q) X.xe s:=by
 have r2:dJ (vs++dvs) (us++ds):=r.append hd
 have hl:(us++ds).length=ps.length:=by rw [<- r2.length];exact F.len _ _ _ _ h
 refine wpAny_call (oH (F.run X.A X.stack s H ⟨us,[]⟩ (us++ds) (vs++dvs) Q E hr I.env0 (hb s us I.kIn hl) r2 h) fun r s' hq=>?_)
 cases r with
 | error e=>exact hx pins σ H s e s' I hq
 | ok fl =>
   cases fl with
   | ret u=>exact I.after hq
   | next=>exact b0 hq
   | brk=>exact b0 hq
   | cont=>exact b0 hq
theorem qd (F:rH X.prog X.w X.K X.mg X.base CX k f fd ps sp) (hr:iz k X.A) (hg:Gl X x) (hm:X.mg x=some (.ref f)) (hk:eI X.K (.ref f)=true) (hb:o5 X.K fd ps ds) (hd:dJ dvs ds) (hx:yp CX X E)
 (ha:PA X (e::es) t) (hdb:(x == ("__debug__" : bv))=false:=by decide) (he:ao (e::es) X.env=(false,bL e X.env)::ao es X.env:=by rfl) (hpl:(bZ pos (ao es X.env)).any (·.1)=false:=by rfl) :
 PE X (.Call (.Name x p) (e::es) [] pos) (D3 sp dvs E t):=by
 intro pins s σ H Q I h
 refine fw (DM I hg hm ?_ hdb)
 refine PySem.W.callWith_K (h₀:=X.base) I.ok.mod.kin hk (thn (ha pos pins s σ H _ I h) fun us s1 ⟨vs,H1,I1,r,q⟩=>⟨I1.kIn,?_⟩) he hpl
 exact Gw F hr hb hd hx I1 r q
end
structure fX (N P:List bv) (sc:dG):Prop where
 kind:sc.kind=.function
 co:sc.isCoroutine=false
 gen:sc.isGenerator=false
 nd:N.Nodup
 pre:N.take P.length=P
 par:∀ x∈P,sc.names.lookup x=some .local\/sc.names.lookup x=some .cell
 nofree:∀ y∈sc.names,y.2≠.free
theorem tL {kindOf:bv->Option dA} {x:bv}:∀ {binds:List (bv×ag)} {m:bv->Option ag},(∀ v,(x,v)∉binds)->xE kindOf binds m x=m x
 | [],_,_=>rfl
 | (n,v)::r,m,h=>by
   unfold xE
   rw [tL fun w hw=>h w (al _ hw)]
   split
   ·have:x≠n:=by rintro rfl;exact h v am
    simp [this]
   ·rfl
theorem sK {kindOf:bv->Option dA} {x:bv}:∀ {binds:List (bv×ag)} {m:bv->Option ag},(∀ v,(x,v)∉binds)->xF kindOf binds m x=m x
 | [],_,_=>rfl
 | (n,v)::r,m,h=>by
   unfold xF
   rw [sK fun w hw=>h w (al _ hw)]
   split
   ·rfl
   ·have:x≠n:=by rintro rfl;exact h v am
    simp [this]
theorem tN {kindOf:bv->Option dA} {x:bv} {v:ag}:∀ {P:List bv} {vs:List ag} {i:Nat} {m:bv->Option ag},P.Nodup->P[i]?=some x->vs[i]?=some v->kindOf x=some .local ->
 xE kindOf (P.zip vs) m x=some v
 | [],_,_,_,_,h,_,_=>by simp at h
 | _::_,[],_,_,_,_,h,_=>by simp at h
 | p::P,w::vs,0,m,nd,h1,h2,hk=>by
   simp at h1 h2;subst h1;subst h2
   show xE kindOf ((p,w)::P.zip vs) m p=_
   unfold xE
   rw [tL fun v hv=>(bi.mp nd).1 (ou hv).1,if_pos hk]
   simp
 | p::P,w::vs,i+1,m,nd,h1,h2,hk=>by
   show xE kindOf ((p,w)::P.zip vs) m x=_
   unfold xE
   exact tN (i:=i) (bi.mp nd).2 (by simpa using h1) (by simpa using h2) hk
theorem ti {kindOf:bv->Option dA} {x:bv} {v:ag}:∀ {P:List bv} {vs:List ag} {i:Nat} {m:bv->Option ag},P.Nodup->P[i]?=some x->vs[i]?=some v->kindOf x≠some .local ->
 xF kindOf (P.zip vs) m x=some v
 | [],_,_,_,_,h,_,_=>by simp at h
 | _::_,[],_,_,_,_,h,_=>by simp at h
 | p::P,w::vs,0,m,nd,h1,h2,hk=>by
   simp at h1 h2;subst h1;subst h2
   show xF kindOf ((p,w)::P.zip vs) m p=_
   unfold xF
   rw [sK fun v hv=>(bi.mp nd).1 (ou hv).1,if_neg hk]
   simp
 | p::P,w::vs,i+1,m,nd,h1,h2,hk=>by
   show xF kindOf ((p,w)::P.zip vs) m x=_
   unfold xF
   exact ti (i:=i) (bi.mp nd).2 (by simpa using h1) (by simpa using h2) hk
noncomputable def start (N:List bv) (vs:List V):St:=vs.map some++CV (N.length-vs.length) none
noncomputable def rV (CX:CXT) (P:bh) (w:bT) (K:ae) (mg:bv->Option ag) (base:b9) (N:List bv) (qual:bv) (scope:dG) (f:au) (cd:ag) (A:bE) (outer:List m8) (s:ai) (H:Hp) (E:XK):Cx where
 prog:=P
 w:=w
 K:=K
 mg:=mg
 base:=base
 A:=A.deeper (dR qual scope s.heap.objs.size f cd)
 N:=N
 s₀:=s
 H₀:=H
 env:=dR qual scope s.heap.objs.size f cd
 outer:=outer
 stack:=dR qual scope s.heap.objs.size f cd::outer
 ex:=[]
 calm:=true
 fn:=fun _=>true
 pn:=[]
 xe:=fun e s'=>aN (aZ P w) (A.deeper (dR qual scope s.heap.objs.size f cd)) (leaving (dR qual scope s.heap.objs.size f cd) e) (fun _ s''=>CX outer H s E e s'') (fun e' s''=>CX outer H s E e' s'') s'
theorem vP {sc:dG} {n:Nat} {x:bv} (h:sc.names.lookup x=some .cell):∃ c,(dH n sc.names []).lookup x=some c:=by
 have q:=gx sc.names n [] (.inl h)
 exact iR.mp q
theorem zZ {CX:CXT} {P:bh} {w:bT} {K:ae} {mg:bv->Option ag} {base:b9} {N ps:List bv} {qual:bv} {scope:dG} {f:au} {cd:ag} {A:bE} {outer:List m8} {s s1:ai} {H:Hp} {E:XK} {us:List ag} {vs:List V}
 (S:fX N ps scope) (hd:A.handled=none) (e0:Jg P w K mg base A outer s H) (hl:vs.length=ps.length) (r:dJ vs us)
 (x:InCallC s s.heap.objs.size (xE (dR qual scope s.heap.objs.size f cd).kindOf (ps.zip us) fun _=>none) (dH (s.heap.objs.size+1) scope.names []) (xF (dR qual scope s.heap.objs.size f cd).kindOf (ps.zip us) fun _=>none) s1) :
 Inv (rV CX P w K mg base N qual scope f cd A outer s H E) [] (start N vs) H s1:=by
 have hpl:ps.length<=N.length:=by have:=congrArg ii S.pre;rw [f7] at this;lia
 obtain ⟨h1,tk,rfl,hk⟩:=x.done
 have noA:∀ b:au,b∉(rV CX P w K mg base N qual scope f cd A outer s H E).ex:=fun b z=>absurd (show b∈([]:List au) from z) (by simp)
 refine ⟨⟨e0.mod,S.kind,rfl,rfl,az _,fun y z c h1 h2=>?_,fun y hy=>?_,fun y c _ h=>?_,fun _=>hd,tR e0.frames,.inr ⟨rfl,rfl⟩,fun b z=>absurd z (noA b),e0.bs,e0.bsz,fun b _ _=>noA b,fun b z=>absurd z (noA b),e0.funs,e0.frf⟩,
  rfl,e0.bare,Un.kept hk,⟨_,x.toInCall.ns,fun i y v h1 h2 h3=>?_⟩,fun y c h=>⟨_,x.cell y c h⟩,e0.hok.fresh (az _),fun y c h=>?_,fun p hp=>absurd (show p∈([]:List (au×cX)) from hp) (by simp),e0.hok.kept hk,?_⟩
 ·exact name_of_addr x.apart (gi h1) (gi h2)
 ·have hy:scope.names.lookup y=some .cell\/scope.names.lookup y=some .free:=hy
  rcases hy with hy | hy
  ·exact vP hy
  ·exact absurd rfl (S.nofree _ (gi hy))
 ·exact iB (x.above y c (gi h))
 ·have hi:i<vs.length:=by
   unfold start at h2
   by_cases hi:i<vs.length
   ·exact hi
   ·rw [dN (by simpa using hi)] at h2
    rw [jo] at h2
    split at h2<;>cases h2
  have ha:vs[i]?=some v:=by
   unfold start at h2
   rw [c6 (by simpa using hi),aC] at h2
   cases e:vs[i]? with
   | none=>rw [e] at h2;cases h2
   | some a=>rw [e] at h2;cases h2;rfl
  obtain ⟨u,hu,rv⟩:=r.get ha
  have hp:ps[i]?=some y:=by
   rw [<- S.pre,rD (by lia)];exact h1
  have ndP:ps.Nodup:=by rw [<- S.pre];exact S.nd.sublist (List.take_sublist _ _)
  refine ⟨u,rv,?_⟩
  rcases S.par y (bz hp) with k | k
  ·exact .inl ⟨k,tN ndP hp hu k⟩
  ·obtain ⟨c,e⟩:=vP (n:=s.heap.objs.size+1) k
   refine .inr ⟨.inl k,c,e,?_⟩
   have q:=x.cell y c e
   rw [ti ndP hp hu (by show scope.names.lookup y≠_;rw [k];decide)] at q
   exact q
 ·exact e0.hok.fresh (iB (x.above y c (gi h)))
 ·unfold start
  show _=N.length
  rw [aO,af,j4]
  lia
theorem F6 {CX:CXT} {P:bh} {w:bT} {K:ae} {mg:bv->Option ag} {base:b9} {k:Nat} {f:au} {name qual:bv} {params:ip} {body:List cq} {scope:dG} {dV kV doc pm cdv ct oc:ag} {an od:Option au}
 {osl:Array (Option ag)} {N ps:List bv} {sp:Sp} (lk:K.lookup f=some ⟨oc,od,.func (cW name qual params body scope dV kV doc pm an cdv ct),osl⟩) (hcd:iq K cdv qual=true) (S:fX N ps scope)
 (len:∀ vs H Q E,sp vs H Q E->vs.length=ps.length)
 (hbody:∀ (A:bE) (outer:List m8) (s:ai) (H:Hp) (vs:List V) (Q:VK) (E:XK),iz k (A.deeper (dR qual scope s.heap.objs.size f cdv))->sp vs H Q E ->
   ∃ t,PSs (rV CX P w K mg base N qual scope f cdv A outer s H E) body t/\t { nx:=fun _ H'=>Q .non H',rt:=Q } (start N vs) H) :
 rH P w K mg base CX (k+1) f (cW name qual params body scope dV kV doc pm an cdv ct) ps sp:=by
 refine ⟨len,fun A outer s H args us vs Q E hr e0 hb r hsp=>?_⟩
 have hl:=len _ _ _ _ hsp
 have KX:K.In s.heap:=e0.mod.kin.keeps fun b o e=>(e0.bs b o e).1
 have lim:s.heap.NoLimit:=e0.mod.nolimit.keeps fun b o e=>(e0.bs b o e).1
 have hkind:∀ y∈ps.zip us,scope.names.lookup y.1=some .local\/(scope.names.lookup y.1=some .cell/\((dH (s.heap.objs.size+1) scope.names []).lookup y.1).isSome=true):=fun ⟨n,v⟩ hy=>by
  rcases S.par n (ou hy).1 with q | q
  ·exact .inl q
  ·exact .inr ⟨q,gx _ _ _ (.inl q)⟩
 refine codeAny_call_function hr.depth (KX _ _ lk) rfl S.co S.gen rfl (PySem.W.codeRec_of KX hcd) (hb _ _ _ _ ?_)
 refine wpAny_newFunctionEnv_cells S.kind hkind fun env he s1 x=>?_
 subst he
 refine ⟨lim.keeps x.toInCall.keep,codeAny_func ?_⟩
 obtain ⟨t,ht,hq⟩:=hbody A outer s H vs Q E (hr.deeper _) hsp
 have I:Inv (rV CX P w K mg base N qual scope f cdv A outer s H E) [] (start N vs) H s1:=zZ S hr.hd e0 hl r x
 refine dm (ht [] s1 (start N vs) H _ I hq) (fun fl s' hs=>?_) fun e s' hs=>hs
 have fin:∀ {σ':St} {H':Hp} {v:V} {u:ag},Inv (rV CX P w K mg base N qual scope f cdv A outer s H E) [] σ' H' s'->fZ v u->Q v H'->CE outer P w H s Q u s' :=
  fun {σ' H' v u} J rv q=>⟨v,H',J.os,J.bare,J.base,J.hok,rv,q⟩
 cases fl with
 | ret u =>
   obtain ⟨v,σ',H',J,rv,q⟩:=hs
   exact fin J rv q
 | next =>
   obtain ⟨σ',H',J,q⟩:=hs
   exact fin (v:=V.non) (u:=bq) J rfl q
 | brk =>
   obtain ⟨_,_,_,q⟩:=hs
   exact b0 q
 | cont =>
   obtain ⟨_,_,_,q⟩:=hs
   exact b0 q
section
variable {X:Cx} {x:bv} {p pos:d4} {e:aR} {es:List aR} {t:TA} {id T:String} {r:List V->Hp->VK->Prop}
noncomputable def tCB (r:List V->Hp->VK->Prop) (t:TA):TE:=fun σ H Q=>t σ H fun vs H1=>r vs H1 Q
theorem BF (hc:j0 X (.builtin id) r) (hg:Gl X x) (hm:X.mg x=none) (hv:h8 x=some (.builtin id)) (ha:PA X (e::es) t) (hn:x≠"__name__":=by decide) (hdb:(x == ("__debug__" : bv))=false:=by decide)
 (he:ao (e::es) X.env=(false,bL e X.env)::ao es X.env:=by rfl) (hpl:(bZ pos (ao es X.env)).any (·.1)=false:=by rfl):PE X (.Call (.Name x p) (e::es) [] pos) (tCB r t):=by
 intro pins s σ H Q I h
 refine fw (mz I hg hm hv ?_ hn hdb)
 exact PyProof.Rows.callWith_builtin1 (thn (ha pos pins s σ H _ I h) fun us s1 ⟨vs,H1,I1,r1,q1⟩=>hc pins s1 σ H1 vs us Q I1 r1 q1) he hpl
theorem lC (hc:j0 X (.type T) r) (hg:Gl X x) (hm:X.mg x=none) (hv:h8 x=some (.type T)) (ha:PA X (e::es) t) (hn:x≠"__name__":=by decide) (hdb:(x == ("__debug__" : bv))=false:=by decide)
 (he:ao (e::es) X.env=(false,bL e X.env)::ao es X.env:=by rfl) (hpl:(bZ pos (ao es X.env)).any (·.1)=false:=by rfl):PE X (.Call (.Name x p) (e::es) [] pos) (tCB r t):=by
 intro pins s σ H Q I h
 refine fw (mz I hg hm hv ?_ hn hdb)
 exact eS (thn (ha pos pins s σ H _ I h) fun us s1 ⟨vs,H1,I1,r1,q1⟩=>hc pins s1 σ H1 vs us Q I1 r1 q1) he hpl
end
section
variable {κ:Type} [DecidableEq κ]
noncomputable def mC (kvs:List (κ×V)) (k:κ):Option V:=(kvs.find? fun kv=>decide (kv.1=k)).map (·.2)
noncomputable def kt (kvs:List (κ×V)) (k:κ) (v:V):List (κ×V) :=
 if (kvs.any fun kv=>decide (kv.1=k))=true then kvs.map (fun kv=>if kv.1=k then (kv.1,v) else kv) else kvs++[(k,v)]
theorem jj {p:κ×V} {r:List (κ×V)} {k:κ} (e:p.1=k):mC (p::r) k=some p.2:=by simp [mC,gr,e]
theorem jg {p:κ×V} {r:List (κ×V)} {k:κ} (e:¬ p.1=k):mC (p::r) k=mC r k:=by simp [mC,gr,e]
theorem m4 (k:κ):∀ kvs:List (κ×V),(kvs.any fun kv=>decide (kv.1=k))=(mC kvs k).isSome
 | []=>rfl
 | p::r=>by
   rw [i9]
   by_cases e:p.1=k
   ·simp only [jj e,decide_eq_true e,Bool.true_or,vi]
   ·rw [jg e,decide_eq_false e,Bool.false_or];exact m4 k r
theorem jm (kvs:List (κ×V)) (k:κ) (v:V):(kt kvs k v).length<=kvs.length+1:=by
 unfold kt
 split
 ·rw [af];lia
 ·rw [aO,aJ,cK];lia
theorem rA {kvs:List (κ×V)} {k:κ} (v:V) (h:mC kvs k=none):kt kvs k v=kvs++[(k,v)]:=by
 unfold kt
 rw [m4,h]
 exact if_neg (by decide)
theorem xQ.isSome_eq {o:Option V} {u:Option ag} (r:xQ o u):o.isSome=u.isSome:=by
 cases o with
 | none=>cases u with
   | none=>rfl
   | some _=>exact (show False from r).elim
 | some _=>cases u with
   | none=>exact (show False from r).elim
   | some _=>rfl
theorem xQ.getD {o:Option V} {u:Option ag} {d:V} {d':ag} (r:xQ o u) (rd:fZ d d'):fZ (o.getD d) (u.getD d'):=by
 cases o with
 | none=>cases u with
   | none=>exact rd
   | some _=>exact (show False from r).elim
 | some _=>cases u with
   | none=>exact (show False from r).elim
   | some _=>exact r
theorem KV.val {kvs:List (κ×V)} {vs:List (κ×ag)} (r:KV kvs vs) (k:κ):xQ (mC kvs k) (oJ vs k):=by
 unfold KV at r
 induction r with
 | nil=>exact iH
 | @cons p q ps qs h t ih =>
   obtain ⟨h1,h2⟩:=h
   by_cases e:p.1=k
   ·have e':q.1=k:=h1.symm.trans e
    have b:oJ (q::qs) k=some q.2:=by simp [oJ,gr,e']
    rw [jj e,b];exact h2
   ·have e':¬ q.1=k:=fun z=>e (h1.trans z)
    have b:oJ (q::qs) k=oJ qs k:=by simp [oJ,gr,e']
    rw [jg e,b];exact ih
theorem KV.any {kvs:List (κ×V)} {vs:List (κ×ag)} (r:KV kvs vs) (k:κ):(kvs.any fun kv=>decide (kv.1=k))=vs.any fun kv=>decide (kv.1=k):=by
 unfold KV at r
 induction r with
 | nil=>rfl
 | cons h t ih=>rw [i9,i9,ih,h.1]
theorem KV.repl {kvs:List (κ×V)} {vs:List (κ×ag)} (r:KV kvs vs) (k:κ) {y:V} {u:ag} (ry:fZ y u) :
 KV (kvs.map fun kv=>if kv.1=k then (kv.1,y) else kv) (vs.map fun kv=>if kv.1=k then (kv.1,u) else kv):=by
 unfold KV at r ⊢
 induction r with
 | nil=>exact .nil
 | @cons p q ps qs h t ih =>
   rw [aD,aD]
   refine .cons ?_ ih
   obtain ⟨h1,h2⟩:=h
   by_cases e:p.1=k
   ·rw [if_pos e,if_pos (h1.symm.trans e)];exact ⟨h1,ry⟩
   ·rw [if_neg e,if_neg (fun z=>e (h1.trans z))];exact ⟨h1,h2⟩
theorem KV.put {kvs:List (κ×V)} {vs:List (κ×ag)} (r:KV kvs vs) (k:κ) {y:V} {u:ag} (ry:fZ y u):KV (kt kvs k y) (stored vs k u):=by
 unfold kt stored
 rw [r.any k]
 by_cases e:(vs.any fun kv=>decide (kv.1=k))=true
 ·rw [if_pos e,if_pos e];exact r.repl k ry
 ·rw [if_neg e,if_neg e];exact Paired.snoc r ⟨rfl,ry⟩
theorem KV.keys {kvs:List (κ×V)} {vs:List (κ×ag)} (r:KV kvs vs):kvs.map (·.1)=vs.map (·.1):=by
 unfold KV at r
 induction r with
 | nil=>rfl
 | cons h t ih=>rw [aD,aD,ih,h.1]
theorem KV.length {kvs:List (κ×V)} {vs:List (κ×ag)} (r:KV kvs vs):kvs.length=vs.length:=bY r
end
theorem sP {P:bh} {w:bT} {k:Key} {u:ag} (r:fZ (kV k) u):(cy P w).is k u=true:=by
 cases k with
 | inl i=>obtain ⟨t,e⟩:=(show ∃ t,u=eC i t from r);subst e;exact uj P w i t
 | inr x=>obtain ⟨t,e⟩:=(show ∃ t,u=rC x t from r);subst e;exact ui P w x t
theorem sR {P:bh} {w:bT}:∀ {ks:List Key} {us:List ag},dJ (ks.map kV) us->ItemsAre (cy P w) ks us
 | [],_,r=>by rw [gO] at r;cases r;exact .nil
 | k::ks,_,r=>by
   rw [aD] at r
   cases r with
   | cons h t=>exact .cons (sP h) (sR t)
noncomputable abbrev KT (H:Hp):List (List Key×V)->List (List Key×au×ag)->Prop:=m6 fun p q=>p.1=q.1/\H q.2.1=some (.tup (p.1.map kV))/\fZ p.2 q.2.2
theorem KT.val {H:Hp} {kvs:List (List Key×V)} {xs:List (List Key×au×ag)} (r:KT H kvs xs) (k:List Key):xQ (mC kvs k) ((t5 xs k).map (·.2)):=by
 induction r with
 | nil=>exact iH
 | @cons p q ps qs h t ih =>
   obtain ⟨h1,_,h2⟩:=h
   by_cases e:p.1=k
   ·have e':q.1=k:=h1.symm.trans e
    have b:t5 (q::qs) k=some q.2:=by simp [t5,gr,e']
    rw [jj e,b];exact h2
   ·have e':¬ q.1=k:=fun z=>e (h1.trans z)
    have b:t5 (q::qs) k=t5 qs k:=by simp [t5,gr,e']
    rw [jg e,b];exact ih
theorem KT.repl {H:Hp} {kvs:List (List Key×V)} {xs:List (List Key×au×ag)} (r:KT H kvs xs) (k:List Key) {y:V} {u:ag} (ry:fZ y u) :
 KT H (kvs.map fun kv=>if kv.1=k then (kv.1,y) else kv) (xs.map (putAt k u)):=by
 induction r with
 | nil=>exact .nil
 | @cons p q ps qs h t ih =>
   rw [aD,aD]
   refine .cons ?_ ih
   obtain ⟨h1,h2,h3⟩:=h
   unfold putAt
   by_cases e:p.1=k
   ·rw [if_pos e,if_pos (h1.symm.trans e)];exact ⟨h1,h2,ry⟩
   ·rw [if_neg e,if_neg (fun z=>e (h1.trans z))];exact ⟨h1,h2,h3⟩
theorem KT.put {H:Hp} {kvs:List (List Key×V)} {xs:List (List Key×au×ag)} (r:KT H kvs xs) (k:List Key) {b:au} {y:V} {u:ag} (hb:H b=some (.tup (k.map kV))) (ry:fZ y u) :
 KT H (kt kvs k y) (storedH xs k b u):=by
 have e:(kvs.any fun kv=>decide (kv.1=k))=(t5 xs k).isSome:=by
  rw [m4,(r.val k).isSome_eq,lN]
 unfold kt storedH
 rw [e]
 by_cases q:(t5 xs k).isSome=true
 ·rw [if_pos q,if_pos q];exact r.repl k ry
 ·rw [if_neg q,if_neg q];exact Paired.snoc r ⟨rfl,hb,ry⟩
theorem KT.keeps {H H':Hp} {kvs:List (List Key×V)} {xs:List (List Key×au×ag)} (r:KT H kvs xs) (ht:∀ b ys,H b=some (.tup ys)->H' b=some (.tup ys)):KT H' kvs xs :=
 Paired.mapP r fun _ _ z=>⟨z.1,ht _ _ z.2.1,z.2.2⟩
section
variable {P:bh} {w:bT} {H:Hp} {h:b9} {a:au}
theorem HZ {u:HO} (ok:HOk P w H h) (e:Rd H a u):gz P w H h a u:=e.ok ok
theorem rR {kvs:List (Key×V)} (ok:HOk P w H h) (e:Rd H a (.dK kvs)):kvs.length<=aK/\(a == cV)=false/\∃ vs,KV kvs vs/\h.DictOf (cy P w) a vs :=
 show gz P w H h a (.dK kvs) from HZ ok e
theorem GG {kvs:List (Key×V)} (ok:HOk P w H h) (e:H a=some (.dK kvs)):kvs.length<=aK/\(a == cV)=false/\∃ vs,KV kvs vs/\h.DictOf (cy P w) a vs:=rR ok (.inl e)
theorem lF {ks:List Key} (ok:HOk P w H h) (e:H a=some (.tup (ks.map kV))):(i8 (cy P w)).is h ks a:=by
 obtain ⟨_,its,r,o,h1,h2,n,h3⟩:=(show gz P w H h a (.tup (ks.map kV)) from ok a _ e)
 exact ⟨o,its.toArray,n,h1,h2,h3,by simpa using sR r⟩
theorem uQ {kvs:List (List Key×V)} (ok:HOk P w H h) (e:Rd H a (.dT kvs)):kvs.length<=aK/\(a == cV)=false /\
 ∃ xs,KT H kvs xs/\h.DictOfH (i8 (cy P w)) a xs:=by
 obtain ⟨z,y,xs,r,o,es,ep,h1,h2,h3,h4,h5⟩:=(show gz P w H h a (.dT kvs) from HZ ok e)
 refine ⟨z,y,xs,r,o,es,ep,h1,h2,h3,h4,fun x hx=>?_,h5⟩
 have all:∀ {l:List (List Key×V)} {m:List (List Key×au×ag)},KT H l m->∀ x∈m,(i8 (cy P w)).is h x.1 x.2.1:=by
  intro l m q
  induction q with
  | nil=>intro x hx;exact nomatch hx
  | @cons p q ps qs hq t ih =>
    intro x hx
    rcases aE.mp hx with e | hx
    ·subst e
     exact lF ok (by rw [<- hq.1];exact hq.2.1)
    ·exact ih x hx
 exact all r x hx
theorem GS {kvs:List (List Key×V)} (ok:HOk P w H h) (e:H a=some (.dT kvs)):kvs.length<=aK/\(a == cV)=false /\
 ∃ xs,KT H kvs xs/\h.DictOfH (i8 (cy P w)) a xs:=uQ ok (.inl e)
end
noncomputable def qP (H:Hp) (a:au) (y:V) (r:Option V):Prop :=
 (∃ kvs k,Rd H a (.dK kvs)/\y=kV k/\r=mC kvs k)\/∃ kvs k b,Rd H a (.dT kvs)/\y=.ref b/\H b=some (.tup (k.map kV))/\r=mC kvs k
noncomputable def BN (H:Hp) (a:au) (y v:V) (H':Hp):Prop :=
 (∃ kvs k,H a=some (.dK kvs)/\y=kV k/\kvs.length<aK/\H'=upd H a (.dK (kt kvs k v))) \/
 ∃ kvs k b,H a=some (.dT kvs)/\y=.ref b/\H b=some (.tup (k.map kV))/\kvs.length<aK/\H'=upd H a (.dT (kt kvs k v))
theorem qP.k {H:Hp} {a:au} {kvs:List (Key×V)} {k:Key} (e:H a=some (.dK kvs)):qP H a (kV k) (mC kvs k):=.inl ⟨kvs,k,.inl e,rfl,rfl⟩
theorem BN.k {H:Hp} {a:au} {kvs:List (Key×V)} {k:Key} {v:V} (e:H a=some (.dK kvs)) (hl:kvs.length<aK):BN H a (kV k) v (upd H a (.dK (kt kvs k v))):=.inl ⟨kvs,k,e,rfl,hl,rfl⟩
section
variable {X:Cx} {pins:List (au×cX)} {σ:St} {H:Hp} {s:ai} {a:au} {y v:V} {u r:ag} {o:Option V} {A:bE} {E:ag->ai->Prop}
theorem Inv.big (I:Inv X pins σ H s):cV<s.heap.objs.size:=by
 have h:bF<s.heap.objs.size:=(I.mod.glob.keeps I.bk).lt
 exact Nat.lt_trans (by decide) h
theorem zQ {Q:ag->ai->Prop} (hu:A.units+1<cg) (I:Inv X pins σ H s) (g:qP H a y (some v)) (ry:fZ y u) (h:∀ w' s',Inv X pins σ H s'->fZ v w'->Q w' s') :
 aN (aZ X.prog X.w) A (jF (.ref a) u) Q E s:=by
 rcases g with ⟨kvs,k,e,ey,l⟩ | ⟨kvs,k,b,e,ey,eb,l⟩
 ·subst ey
  obtain ⟨z,hd,vs,rel,dd⟩:=rR I.hok e
  obtain ⟨w',hw,rw'⟩:=xQ.some_of (v:=v) (o:=oJ vs k) (by rw [l];exact rel.val k)
  exact wpAny_getItem_of (sP ry) dd.mapOf hw (h w' _ (I.tok _) rw')
 ·subst ey
  cases (show u=bI b from ry)
  obtain ⟨z,hd,xs,rel,dd⟩:=uQ I.hok e
  obtain ⟨w',hw,rw'⟩:=xQ.some_of (v:=v) (o:=(t5 xs k).map (·.2)) (by rw [l];exact rel.val k)
  obtain ⟨p,hp,hp2⟩:=rE.mp hw
  refine wpAny_getItem_heap (gR hu) (lF I.hok eb) dd hp ?_
  rw [hp2]
  exact h w' _ (I.tok _) rw'
theorem Kz {Q:ag->ai->Prop} (hu:A.units+1<cg) (I:Inv X pins σ H s) (g:qP H a y o) (ry:fZ y u) (h:∀ s',Inv X pins σ H s'->Q (.bool o.isSome) s') :
 aN (aZ X.prog X.w) A (dq .In u (.ref a)) Q E s:=by
 rcases g with ⟨kvs,k,e,ey,l⟩ | ⟨kvs,k,b,e,ey,eb,l⟩
 ·subst ey
  obtain ⟨z,hd,vs,rel,dd⟩:=rR I.hok e
  refine wpAny_in_of (sP ry) hd dd.mapOf ?_
  rw [<- (rel.val k).isSome_eq,<- l]
  exact h _ (I.tok _)
 ·subst ey
  cases (show u=bI b from ry)
  obtain ⟨z,hd,xs,rel,dd⟩:=uQ I.hok e
  refine wpAny_in_heap (gR hu) (lF I.hok eb) hd dd ?_
  have q:=(rel.val k).isSome_eq
  rw [lN] at q
  rw [<- q,<- l]
  exact h _ (I.tok _)
theorem AA {Q:ag->ai->Prop} (hu:A.units+1<cg) (I:Inv X pins σ H s) (g:qP H a y o) (ry:fZ y u) (h:∀ s',Inv X pins σ H s'->Q (.bool (!o.isSome)) s') :
 aN (aZ X.prog X.w) A (dq .NotIn u (.ref a)) Q E s:=by
 rcases g with ⟨kvs,k,e,ey,l⟩ | ⟨kvs,k,b,e,ey,eb,l⟩
 ·subst ey
  obtain ⟨z,hd,vs,rel,dd⟩:=rR I.hok e
  refine wpAny_notIn_of (sP ry) hd dd.mapOf ?_
  rw [<- (rel.val k).isSome_eq,<- l]
  exact h _ (I.tok _)
 ·subst ey
  cases (show u=bI b from ry)
  obtain ⟨z,hd,xs,rel,dd⟩:=uQ I.hok e
  refine wpAny_notIn_heap (gR hu) (lF I.hok eb) hd dd ?_
  have q:=(rel.val k).isSome_eq
  rw [lN] at q
  rw [<- q,<- l]
  exact h _ (I.tok _)
theorem qT {h':b9} {t':Nat} {ob:HO} (I:Inv X pins σ H s) (mu:Mut (H a)) (hs:jD a s.heap h') (he:∃ q,h'.get? a=some q) (new:gz X.prog X.w (upd H a ob) h' a ob) :
 Inv X pins σ (upd H a ob) { s with heap:=h',toks:=t' } :=
 I.write (x:=a) (e:=a) mu (.inl rfl) (fun b q hb z=>(hs.2 b hb).trans z) he new
theorem yO {P:bh} {w:bT} {H':Hp} {h':b9} {kvs:List (Key×V)} {vs:List (Key×ag)} (z:kvs.length<=aK) (hd:(a == cV)=false) (rel:KV kvs vs) (dd:h'.DictOf (cy P w) a vs) :
 gz P w H' h' a (.dK kvs):=⟨z,hd,vs,rel,dd⟩
theorem AR {H':Hp} {Q:Unit->ai->Prop} (hu:A.units+1<cg) (I:Inv X pins σ H s) (g:BN H a y v H') (ry:fZ y u) (rv:fZ v r) (h:∀ s',Inv X pins σ H' s'->Q () s') :
 aN (aZ X.prog X.w) A (setItem (.ref a) u r) Q E s:=by
 rcases g with ⟨kvs,k,e,ey,l,eH⟩ | ⟨kvs,k,b,e,ey,eb,l,eH⟩
 ·subst ey eH
  obtain ⟨z,hd,vs,rel,dd⟩:=GG I.hok e
  have hz:vs.length<=aK:=by rw [<- rel.length];exact z
  have hl:(kt kvs k v).length<=aK:=by have:=jm kvs k v;lia
  refine wpAny_setItem_pairs (hsz:=hz) (sP ry) dd fun h' dd' hs=>h _ ?_
  have he:∃ q,h'.get? a=some q:=let ⟨q,_,_,hq,_⟩:=dd';⟨q,hq⟩
  exact qT I (by rw [e];exact iH) hs he (yO hl hd (rel.put k rv) dd')
 ·subst ey eH
  cases (show u=bI b from ry)
  obtain ⟨z,hd,xs,rel,dd⟩:=GS I.hok e
  have hz:xs.length<=aK:=by rw [<- bY rel];exact z
  have hl:(kt kvs k v).length<=aK:=by have:=jm kvs k v;lia
  refine wpAny_setItem_heap (hsz:=hz) (gR hu) (lF I.hok eb) dd fun h' dd' hs=>h _ ?_
  obtain ⟨q,es,ep,hq,h2,h3,h4,_,h5⟩:=dd'
  refine qT I (by rw [e];exact iH) hs ⟨q,hq⟩ ⟨hl,hd,_,(rel.put k eb rv).keeps fun c ys ec=>?_,q,es,ep,hq,h2,h3,h4,h5⟩
  rw [a8 (Jb ec e (fun z=>nomatch z))]
  exact ec
end
section
variable {X:Cx} {pins:List (au×cX)} {σ:St} {H:Hp} {s:ai} {a:au} {kvs:List (Key×V)} {k:Key} {u:ag} {A:bE} {E:ag->ai->Prop}
theorem Jt {Q:ag->ai->Prop} (I:Inv X pins σ H s) (e:Rd H a (.dK kvs)) (h:∀ t s',Inv X pins σ H s'->Q (.int kvs.length t) s'):aN (aZ X.prog X.w) A (call (.builtin "len") [.ref a]) Q E s:=by
 obtain ⟨z,hd,vs,rel,dd⟩:=rR I.hok e
 refine call_len_dict hd dd (by rw [<- rel.length];rw [bu] at z;lia) ?_
 rw [<- rel.length]
 exact h _ _ (I.tok _)
end
noncomputable def J2 (i:aR):Prop:=∀ ov iv,rF i false ov iv=operate [ov,iv] (jF ov iv)
theorem Fn {prog:bh} {w:bT} {A:bE} {E:ag->ai->Prop} {s:ai} {env:m8} {value slice:aR} {pos:d4} {T id:String} {Q:ag->ai->Prop}
 (hl:typeLookup (.type T) "__getitem__" = pure (some (.builtin id))) (hs:J2 slice)
 (h:aN (aZ prog w) A (bL value env) (fun o s₁=>aN (aZ prog w) A (bL slice env) (fun i s₂=>s₂.TypeIs o T/\aN (aZ prog w) A (jF o i) Q E s₂) E s₁) E s) :
 aN (aZ prog w) A (bL (.Subscript value slice pos) env) Q E s:=by
 refine Subscript_ (dm h (fun o s₁ h₁=>dm h₁ (fun i s₂ h₂=>?_) fun _ _ x=>x) fun _ _ x=>x)
 obtain ⟨hT,h₂⟩:=h₂
 unfold wx
 refine ac ?_
 rw [getitemInPython_of_ne hT.not_modules]
 refine ac (wpAny_specialOf hT hl ?_)
 have fin:aN (aZ prog w) A (rF slice false o i) (fun r s₃=>aN (aZ prog w) A (letTemporaryGo value o r>>=fun _=>pure r) Q E s₃) E s₂:=by
  rw [hs o i]
  exact wpAny_operating (dm h₂ (fun r s₃ h₃=>ac (wpAny_letTemporaryGo (aq h₃))) fun _ _ x=>x)
 first
  | exact aq (ac fin)
  | exact ac (aq (ac fin))
  | exact ac fin
theorem uS {X:Cx} {pins:List (au×cX)} {σ:St} {H:Hp} {s:ai} {a:au} {y:V} {o:Option V} (I:Inv X pins σ H s) (g:qP H a y o):s.TypeIs (.ref a) "dict":=by
 rcases g with ⟨kvs,k,e,_,_⟩ | ⟨kvs,k,b,e,_,_,_⟩
 ·obtain ⟨_,_,vs,_,dd⟩:=rR I.hok e
  exact dd.typeIs
 ·obtain ⟨_,_,xs,_,dd⟩:=uQ I.hok e
  exact dd.typeIs
noncomputable def CN (td ty:TE):TE:=fun σ H Q=>td σ H fun x H1=>ty σ H1 fun y H2=>∃ a v,x=.ref a/\qP H2 a y (some v)/\Q v H2
noncomputable def KE (ty td:TE):TE:=fun σ H Q=>ty σ H fun y H1=>td σ H1 fun x H2=>∃ a o,x=.ref a/\qP H2 a y o/\Q (.bl o.isSome) H2
noncomputable def uB (ty td:TE):TE:=fun σ H Q=>ty σ H fun y H1=>td σ H1 fun x H2=>∃ a o,x=.ref a/\qP H2 a y o/\Q (.bl (!o.isSome)) H2
noncomputable def uG (td ty tv:TE):TS:=fun D σ H=>tv σ H fun v H1=>td σ H1 fun x H2=>ty σ H2 fun y H3=>∃ a H4,x=.ref a/\BN H3 a y v H4/\D.nx σ H4
section
variable {X:Cx} {o i e value:aR} {pos pos' tpos:d4} {td ty tv:TE}
theorem uP (hu:X.A.units+1<cg) (ho:PE X o td) (hi:PE X i ty) (hs:J2 i):PE X (.Subscript o i pos) (CN td ty):=by
 intro pins s σ H Q I h
 refine Fn PySem.F.slot_dict_getitem.lookup hs (thn (ho pins s σ H _ I h) fun u s1 ⟨x,H1,I1,rx,q1⟩=>thn (hi pins s1 σ H1 _ I1 q1) fun iv s2 ⟨y,H2,I2,ry,a,v,ex,g,q2⟩=>?_)
 subst ex
 obtain rfl:u=bI a:=rx
 exact ⟨uS I2 g,zQ hu I2 g ry fun w' s3 I3 rw'=>⟨v,H2,I3,rw',q2⟩⟩
theorem G8 (hu:X.A.units+1<cg) (hi:PE X i ty) (ho:PE X o td):PC X .In i o (KE ty td):=by
 intro pins s σ H Q I h
 refine thn (hi pins s σ H _ I h) fun iv s1 ⟨y,H1,I1,ry,q1⟩=>thn (ho pins s1 σ H1 _ I1 q1) fun u s2 ⟨x,H2,I2,rx,a,ov,ex,g,q2⟩=>?_
 subst ex
 obtain rfl:u=bI a:=rx
 exact Kz hu I2 g ry fun s3 I3=>⟨.bl ov.isSome,H2,I3,rfl,q2⟩
theorem se (hu:X.A.units+1<cg) (hi:PE X i ty) (ho:PE X o td):PC X .NotIn i o (uB ty td):=by
 intro pins s σ H Q I h
 refine thn (hi pins s σ H _ I h) fun iv s1 ⟨y,H1,I1,ry,q1⟩=>thn (ho pins s1 σ H1 _ I1 q1) fun u s2 ⟨x,H2,I2,rx,a,ov,ex,g,q2⟩=>?_
 subst ex
 obtain rfl:u=bI a:=rx
 exact AA hu I2 g ry fun s3 I3=>⟨.bl (!ov.isSome),H2,I3,rfl,q2⟩
theorem nU (hu:X.A.units+1<cg) (ho:PE X o td) (hi:PE X i ty) (hv:PE X value tv) (hs:eX value (some (.Subscript o i pos')) pos.line X.env=pure false) :
 PS X (.Assign [.Subscript o i pos'] value pos) (uG td ty tv):=by
 intro pins s σ H D I h
 refine wpAny_Assign_Subscript (thn (hv pins s σ H _ I h) fun r s1 ⟨v,H1,I1,rv,q1⟩=>thn (ho pins s1 σ H1 _ I1 q1) fun u s2 ⟨x,H2,I2,rx,q2⟩=>thn (hi pins s2 σ H2 _ I2 q2) fun iv s3 ⟨y,H3,I3,ry,a,H4,ex,g,q3⟩=>?_) hs
 subst ex
 obtain rfl:u=bI a:=rx
 exact AR hu I3 g ry rv fun s4 I4=>⟨σ,H4,I4,q3⟩
end
theorem v9 {P:bh} {w:bT} {H:Hp} (h:b9) (hb:cV<h.objs.size):gz P w H (h.push { cls:=.type "dict",data:=.dict #[] }) h.objs.size (.dK []) :=
 ⟨bW _,beq_eq_false_iff_ne.mpr (Ne.symm (be hb)),[],.nil,tT h⟩
theorem wm {P:bh} {w:bT} {H:Hp} (h:b9) (hb:cV<h.objs.size):gz P w H (h.push { cls:=.type "dict",data:=.dict #[] }) h.objs.size (.dT []) :=
 ⟨bW _,beq_eq_false_iff_ne.mpr (Ne.symm (be hb)),[],.nil,_,#[],0,aL _ rfl,⟨rfl,rfl,rfl⟩,rfl,rfl,List.nodup_nil⟩
noncomputable def rX:TE:=fun _ H Q=>∀ p,H p=none->Q (.ref p) (upd H p (.dK []))
noncomputable def Ik:TE:=fun _ H Q=>∀ p,H p=none->Q (.ref p) (upd H p (.dT []))
section
variable {X:Cx} {pos:d4}
theorem lI:PE X (.Dict [] [] pos) rX:=fun pins s σ H Q I h =>
 wpAny_Dict_empty ⟨.ref s.heap.objs.size,_,I.laid (a:=s.heap.objs.size) (o:=.dK []) (t':=s.toks) (fun _ _ q=>ah _ q) (az _) (v9 s.heap I.big),rfl,h _ (I.hok.fresh (az _))⟩
theorem B3:PE X (.Dict [] [] pos) Ik:=fun pins s σ H Q I h =>
 wpAny_Dict_empty ⟨.ref s.heap.objs.size,_,I.laid (a:=s.heap.objs.size) (o:=.dT []) (t':=s.toks) (fun _ _ q=>ah _ q) (az _) (wm s.heap I.big),rfl,h _ (I.hok.fresh (az _))⟩
end
noncomputable def yS:List (TE×TE)->St->Hp->(List (V×V)->Hp->Prop)->Prop
 | [],_,H,Q=>Q [] H
 | (tk,tv)::r,σ,H,Q=>tk σ H fun x H1=>tv σ H1 fun y H2=>yS r σ H2 fun ps H3=>Q ((x,y)::ps) H3
noncomputable abbrev VV:List (V×V)->List (ag×ag)->Prop:=m6 fun p q=>fZ p.1 q.1/\fZ p.2 q.2
noncomputable def PPs (X:Cx) (pos:d4) (keys:List (Option aR)) (values:List aR) (trs:List (TE×TE)):Prop :=
 ∀ (pins:List (au×cX)) (s:ai) (σ:St) (H:Hp) (Q:List (V×V)->Hp->Prop),Inv X pins σ H s->yS trs σ H Q ->
   aN (aZ X.prog X.w) X.A (evalPairs (pZ keys values X.env pos)) (fun vs s'=>∃ ps H',Inv X pins σ H' s'/\VV ps vs/\Q ps H') X.xe s
theorem zl {X:Cx} {pos:d4}:PPs X pos [] [] []:=fun pins s σ H Q I h=>pairTrees_nil_walk ⟨[],H,I,.nil,h⟩
theorem wj {X:Cx} {pos:d4} {k v:aR} {ks:List (Option aR)} {vs:List aR} {tk tv:TE} {trs:List (TE×TE)} (hk:PE X k tk) (hv:PE X v tv) (hr:PPs X pos ks vs trs) :
 PPs X pos (some k::ks) (v::vs) ((tk,tv)::trs):=fun pins s σ H Q I h =>
 pairTrees_cons_walk (thn (hk pins s σ H _ I h) fun u s1 ⟨x,H1,I1,rx,q1⟩=>thn (hv pins s1 σ H1 _ I1 q1) fun w2 s2 ⟨y,H2,I2,ry,q2⟩ =>
  thn (hr pins s2 σ H2 _ I2 q2) fun ws s3 ⟨ps,H3,I3,rel,q3⟩=>⟨(x,y)::ps,H3,I3,.cons ⟨rx,ry⟩ rel,q3⟩)
noncomputable def tj (kvs more:List (Key×V)):List (Key×V):=more.foldl (fun acc kv=>kt acc kv.1 kv.2) kvs
theorem KV.merge:∀ {more:List (Key×V)} {rs:List (Key×ag)} {kvs:List (Key×V)} {vs:List (Key×ag)},KV more rs->KV kvs vs->KV (tj kvs more) (merged vs rs):=by
 intro more rs kvs vs r
 unfold KV at r
 induction r generalizing kvs vs with
 | nil=>intro q;exact q
 | @cons p q ps qs h t ih =>
   intro r0
   have e:KV (kt kvs p.1 p.2) (stored vs q.1 q.2):=by
    have:=r0.put p.1 h.2
    rw [<- h.1];exact this
   exact ih e
theorem lM:∀ (more kvs:List (Key×V)),(tj kvs more).length<=kvs.length+more.length
 | [],kvs=>by show kvs.length<=kvs.length+0;lia
 | p::r,kvs=>by
   have h1:=lM r (kt kvs p.1 p.2)
   have h2:=jm kvs p.1 p.2
   show (tj (kt kvs p.1 p.2) r).length<=_
   rw [aJ];lia
theorem pq {P:bh} {w:bT}:∀ {kvs:List (Key×V)} {ws:List (ag×ag)},VV (kvs.map fun kv=>(kV kv.1,kv.2)) ws->∃ rs,Carries (cy P w) ws rs/\KV kvs rs
 | [],_,r=>by rw [gO] at r;cases r;exact ⟨[],iH,.nil⟩
 | p::kvs,_,r=>by
   rw [aD] at r
   cases r with
   | @cons a b as bs h t =>
     obtain ⟨rs,c,q⟩:=pq (P:=P) (w:=w) t
     obtain ⟨b1,b2⟩:=b
     exact ⟨(p.1,b2)::rs,⟨sP h.1,rfl,c⟩,.cons ⟨rfl,h.2⟩ q⟩
noncomputable def Kf (trs:List (TE×TE)):TE:=fun σ H Q=>∀ p,H p=none->yS trs σ (upd H p (.dK [])) fun ps H2=>H2 p=some (.dK [])/\∃ kvs:List (Key×V),ps=kvs.map (fun kv=>(kV kv.1,kv.2))/\kvs.length<=15/\Q (.ref p) (upd H2 p (.dK (tj [] kvs)))
theorem DU {X:Cx} {pos:d4} {keys:List (Option aR)} {values:List aR} {trs:List (TE×TE)} (h:PPs X pos keys values trs) (hall:keys.all (·.isSome)=true) (hl:keys.length=values.length) (h0:keys≠[])
 (h15:keys.length<=15):PE X (.Dict keys values pos) (Kf trs):=by
 intro pins s σ H Q I q
 have hn:=I.hok.fresh (az s.heap.objs.size)
 have I1:=I.laid (a:=s.heap.objs.size) (o:=.dK []) (h':=s.heap.push { cls:=.type "dict",data:=.dict #[] }) (t':=s.toks) (fun _ _ q=>ah _ q) (az _) (v9 s.heap I.big)
 refine wpAny_Dict_walk (knd:=cy X.prog X.w) hall hl h0 h15 (thn (h pins _ σ _ _ I1 (q _ hn)) fun ws s2 ⟨ps,H2,I2,rel,e,kvs,ep,lk,q2⟩=>?_)
 subst ep
 obtain ⟨rs,c,rk⟩:=pq (P:=X.prog) (w:=X.w) rel
 obtain ⟨z,hd,vs0,r0,dd⟩:=GG I2.hok e
 cases r0
 refine ⟨rs,c,dd,fun h' dd' hs=>⟨.ref s.heap.objs.size,_,?_,rfl,q2⟩⟩
 have hz:(tj [] kvs).length<=aK:=by
  have h1:=lM kvs []
  rw [cK] at h1
  rw [bu];lia
 have he:∃ q,h'.get? s.heap.objs.size=some q:=let ⟨q,_,_,hq,_⟩:=dd';⟨q,hq⟩
 exact qT I2 (by rw [e];exact iH) hs he (yO hz hd (rk.merge .nil) dd')
structure M2 (X:Cx) (o:aR) (m:bv) (apos:d4) (e f:aR) (cpos:d4):Prop where
 base:d6 o m X.env (bL o X.env)=bL o X.env
 few:((bZ cpos (ao [e,f] X.env)).all (fun x=>!x.1)&&(iE cpos (fm [] X.env)).all (fun x=>x.1.isSome)
  && decide (([e,f]:List aR).length+([]:List f9).length+(if ([]:List f9).isEmpty then 0 else 1)<30))=true
 line:(apos.endLine == cpos.line)=true
 trees:bZ cpos (ao [e,f] X.env)=[(false,bL e X.env),(false,bL f X.env)]
noncomputable def IsD (H:Hp) (a:au):Prop:=(∃ kvs,Rd H a (.dK kvs))\/∃ kvs,Rd H a (.dT kvs)
theorem Dh {X:Cx} {pins:List (au×cX)} {σ:St} {H:Hp} {s:ai} {a:au} (I:Inv X pins σ H s) (d:IsD H a) :
 s.TypeIs (.ref a) "dict"/\(∀ b,bI a=.ref b->∃ ob,s.heap.get? b=some ob/\ob.dict=none)/\(a == cV)=false:=by
 rcases d with ⟨kvs,e⟩ | ⟨kvs,e⟩
 ·obtain ⟨_,hd,vs,_,dd⟩:=rR I.hok e
  refine ⟨dd.typeIs,fun b q=>?_,hd⟩
  cases q
  obtain ⟨ob,_,_,h1,h2,_⟩:=dd
  exact ⟨ob,h1,h2.2.1⟩
 ·obtain ⟨_,hd,xs,_,dd⟩:=uQ I.hok e
  refine ⟨dd.typeIs,fun b q=>?_,hd⟩
  cases q
  obtain ⟨ob,_,_,h1,h2,_⟩:=dd
  exact ⟨ob,h1,h2.2.1⟩
section
variable {X:Cx} {pins:List (au×cX)} {σ:St} {H:Hp} {s:ai} {a:au} {y d:V} {u r:ag} {o:Option V} {A:bE} {E:ag->ai->Prop}
theorem GA {Q:ag->ai->Prop} (hu:A.units+1<cg) (I:Inv X pins σ H s) (g:qP H a y o) (ry:fZ y u) (rd:fZ d r) (h:∀ w' s',Inv X pins σ H s'->fZ (o.getD d) w'->Q w' s') :
 aN (aZ X.prog X.w) A (call (.builtin "dict.get") [.ref a,u,r]) Q E s:=by
 rcases g with ⟨kvs,k,e,ey,l⟩ | ⟨kvs,k,b,e,ey,eb,l⟩
 ·subst ey
  obtain ⟨z,hd,vs,rel,dd⟩:=rR I.hok e
  refine xU jy dd.typeIs p0 (o6 _ _ _) (meets_dict_get_default (cy X.prog X.w) a (sP ry) hd r) ⟨_,dd.mapOf,h _ _ (I.tok _) ?_⟩
  rw [l]
  exact (rel.val k).getD rd
 ·subst ey
  cases (show u=bI b from ry)
  obtain ⟨z,hd,xs,rel,dd⟩:=uQ I.hok e
  refine xU jy dd.typeIs p0 (o6 _ _ _) (meetsH_dict_get_default (i8 (cy X.prog X.w)) a b hd r) ⟨gR hu,k,xs,lF I.hok eb,dd,h _ _ (I.tok _) ?_⟩
  rw [l]
  exact (rel.val k).getD rd
end
noncomputable def G9 (td ty tx:TE):TE:=fun σ H Q=>td σ H fun x H1=>∃ a,x=.ref a/\IsD H1 a/\ty σ H1 fun y H2=>tx σ H2 fun z H3=>∃ o,qP H3 a y o/\Q (o.getD z) H3
section
variable {X:Cx} {o e f:aR} {apos cpos:d4} {td ty tx:TE}
theorem BX (hu:X.A.units+1<cg) (ho:PE X o td) (he:PE X e ty) (hf:PE X f tx) (m:M2 X o "get" apos e f cpos):PE X (.Call (.Attribute o "get" apos) [e,f] [] cpos) (G9 td ty tx):=by
 intro pins s σ H Q I h
 refine wpAny_Call_method m.base m.few m.line o7 jy PySem.F.type_dict_get (thn (ho pins s σ H _ I h) fun u s1 ⟨x,H1,I1,rx,a,ex,d,q1⟩=>?_)
 subst ex
 obtain rfl:u=bI a:=rx
 obtain ⟨t1,t2,_⟩:=Dh I1 d
 refine ⟨t1,t2,?_⟩
 rw [m.trees]
 refine jz rfl (t6 (lf (thn (he pins s1 σ H1 _ I1 q1) fun iv s2 ⟨y,H2,I2,ry,q2⟩ =>
  lf (thn (hf pins s2 σ H2 _ I2 q2) fun fv s3 ⟨z,H3,I3,rz,ov,g,q3⟩=>xD ?_))))
 exact GA hu I3 g ry rz fun w' s4 I4 rw'=>⟨_,H3,I4,rw',q3⟩
end
end L2
namespace HT
open PySem PyProof.Rows
noncomputable def lexLt:List Int->List Int->Bool
 | [],[]=>false
 | [],_::_=>true
 | _::_,[]=>false
 | x::xs,y::ys=>if x=y then lexLt xs ys else decide (x<y)
theorem lexLt_cons (x y:Int) (xs ys:List Int):lexLt (x::xs) (y::ys)=if x=y then lexLt xs ys else decide (x<y):=rfl
theorem q0:lexLt [] []=false:=rfl
theorem o4 (y:Int) (ys:List Int):lexLt [] (y::ys)=true:=rfl
theorem oY (x:Int) (xs:List Int):lexLt (x::xs) []=false:=rfl
theorem Bz (A:bE) (s:ai) (a:Int) (t:xS) (c:Int) (u:xS):∃ e,SeqAt.EqAt A s (.int a t) (.int c u) e/\(e=true↔a=c) :=
 ⟨(a == c),SeqAt.EqAt.int_int a t c u,by simp⟩
theorem BR (A:bE) (s:ai) (a:Int) (t:xS) (c:Int) (u:xS) (prog:bh) (w:bT) (E:ag->ai->Prop) (Q:ag->ai->Prop) (h:Q (.bool (decide (a<c))) s) :
 aN (aZ prog w) A (richCompare .Lt (.int a t) (.int c u)) Q E s :=
 (PyProof.Rows.lt_int h:aN (aZ prog w) A (dq .Lt (.int a t) (.int c u)) Q E s)
section
open PySem.SeqAt
open PySem.AutoSeq1 (wpAny_loadPart')
open PySem.MeetsSeq PySem.MeetsSeq2 PySem.MeetsSeq3
theorem tuple_lt_ints (l b:au) (items items2:Array ag) (n n2:Nat) (dd dd2:Option au) (sl sl2:Array (Option ag)) (ns ms:List Int) (hi:fy items.toList ns) (hj:fy items2.toList ms) :
 Meets (Builtin.«tuple.__lt__» ⟨[.ref l,.ref b],[]⟩)
  (fun _ R s=>s.heap.get? l=some { cls:=.type "tuple",dict:=dd,data:=.seq items n,slots:=sl }/\s.heap.get? b=some { cls:=.type "tuple",dict:=dd2,data:=.seq items2 n2,slots:=sl2 } /\
    R (.ok (.ret (.bool (lexLt ns ms)))) s) :=
 .of_wp fun prog w A R s h=>by
  obtain ⟨hp,g,d,tk,os⟩:=s;obtain ⟨hl,hb,h⟩:=h
  have f2:=AutoSeq1.sub_tuple_tuple
  have z1:items.size=ns.length:=by rw [<- hi.length];simp
  have z2:items2.size=ms.length:=by rw [<- hj.length];simp
  wp_walk using wpAny_loadPart' hl,wpAny_loadPart' hb,wpAny_forIn_list _ (fun rest b s'=>b.1=none/\s'=⟨hp,g,d,tk,os⟩/\∃ (vs ws:List ag) (ns' ms':List Int),rest=vs.zip ws /\
   fy vs ns'/\fy ws ms'/\ns'.length+items2.size=ms'.length+items.size/\R (.ok (.ret (.bool (lexLt ns' ms')))) ⟨hp,g,d,tk,os⟩) _
  case turn =>
   rintro ⟨y,x⟩ rest b s' ⟨hb',rfl,vs,ws,ns',ms',hz,hvi,hwi,hlen,hR⟩
   cases hvi with
   | nil=>rw [List.zip_nil_left] at hz;cases hz
   | cons a t hvi' =>
     cases hwi with
     | nil=>rw [xG] at hz;cases hz
     | cons c u hwi' =>
       rw [lO] at hz
       injection hz with hyx hrest
       injection hyx with hy hx
       subst hy hx
       rw [lexLt_cons] at hR
       simp only [aJ] at hlen
       obtain ⟨e,he,hiff⟩:=Bz A.in1 ⟨hp,g,d,tk,os⟩ a t c u
       refine ac (he prog w _ _ ?_)
       cases e with
       | true =>
         rw [if_pos (hiff.mp rfl)] at hR
         wp_walk
         exact ⟨rfl,rfl,_,_,_,_,hrest,hvi',hwi',by lia,hR⟩
       | false =>
         rw [if_neg (fun q=>absurd (hiff.mpr q) aM)] at hR
         have hri:=BR A.in1 ⟨hp,g,d,tk,os⟩ a t c u prog w
         wp_walk using hri
         exact ⟨_,rfl,by simpa using hR⟩
  case fin =>
   rintro ⟨b1,b2⟩ s' ⟨hb',rfl,vs,ws,ns',ms',hz,hvi,hwi,hlen,hR⟩
   simp only at hb'
   subst hb'
   have hv:lexLt ns' ms'=decide (items.size<items2.size):=by
    cases hvi with
    | nil =>
      cases hwi with
      | nil =>
        simp only [cK] at hlen
        rw [q0]
        exact (decide_eq_false (by lia)).symm
      | cons c u hw =>
        simp only [cK,aJ] at hlen
        rw [o4]
        exact (decide_eq_true (by lia)).symm
    | cons a t hv =>
      cases hwi with
      | nil =>
        simp only [cK,aJ] at hlen
        rw [oY]
        exact (decide_eq_false (by lia)).symm
      | cons c u hw =>
        rw [lO] at hz
        cases hz
   rw [hv] at hR
   wp_walk
   exact ⟨_,rfl,by simpa [Builtin.Tuple.tupleCompareSizes] using hR⟩
  case h =>
   exact ⟨rfl,rfl,items.toList,items2.toList,ns,ms,rfl,hi,hj,by lia,h⟩
end
section
variable {prog:bh} {w:bT} {A:bE} {E:ag->ai->Prop} {s:ai}
theorem lt_tupInts {l b:au} {items items2:Array ag} {ns ms:List Int} {Q:ag->ai->Prop} (hl:jd s.heap l items) (hb:jd s.heap b items2) (hi:fy items.toList ns) (hj:fy items2.toList ms)
 (hu:A.units<cg) (h:Q (.bool (lexLt ns ms)) s):aN (aZ prog w) A (dq .Lt (.ref l) (.ref b)) Q E s:=by
 obtain ⟨⟨cls,dd,data,sl⟩,ho,hc,n,hd⟩:=id hl
 obtain ⟨⟨cls2,dd2,data2,sl2⟩,ho2,hc2,n2,hd2⟩:=id hb
 simp only at hc hd hc2 hd2
 subst hc hd hc2 hd2
 exact richCompare_meets_room (op:=.Lt) ⟨_,ho,rfl⟩ ⟨_,ho2,rfl⟩ jA p3 (o8 _ _) (tuple_lt_ints l b items items2 n n2 dd dd2 sl sl2 ns ms hi hj)
  ⟨ho,ho2,show fG (lexLt ns ms)≠Value.notImplemented/\Q (.bool (lexLt ns ms)) s from ⟨(fun x=>nomatch x),h⟩⟩ hu
theorem cat_tup {t b:au} {vs ws:List ag} {Q:ag->ai->Prop} (ht:jd s.heap t vs.toArray) (hb:jd s.heap b ws.toArray) (hv:vs≠[])
 (h1:ws=[]->Q (.ref t) s) (h2:ws≠[]->Q (.ref s.heap.objs.size) { s with heap:=s.heap.push { cls:=.type "tuple",data:=.seq (vs++ws).toArray } })
 (hsz:vs.length+ws.length<=aK):aN (aZ prog w) A (iC .Add (.ref t) (.ref b)) Q E s:=by
 obtain ⟨⟨cls,dd,data,sl⟩,ho,hc,n,hd⟩:=id ht
 obtain ⟨⟨cls2,dd2,data2,sl2⟩,ho2,hc2,n2,hd2⟩:=id hb
 simp only at hc hd hc2 hd2
 subst hc hd hc2 hd2
 have e:vs.toArray++ws.toArray=(vs++ws).toArray:=by simp
 by_cases hw:ws=[]
 ·exact oK ⟨_,ho,rfl⟩ ⟨_,ho2,rfl⟩ p4 wy jf iS (iM _ _)
   (tuple_addW1 t b vs.toArray ws.toArray n n2 dd dd2 sl sl2 (by simpa using hv) (by simp [hw])) ⟨ho,ho2,h1 hw⟩
 ·refine oK ⟨_,ho,rfl⟩ ⟨_,ho2,rfl⟩ p4 wy jf iS (iM _ _)
   (tuple_addW2 t b vs.toArray ws.toArray n n2 dd dd2 sl sl2 (by simpa using hv) (by simpa using hw) (by rw [ax,ax];exact hsz)) ⟨ho,ho2,?_⟩
  rw [e]
  exact h2 hw
noncomputable def sIx (n d:Nat):Option Int->Nat
 | none=>d
 | some v=>if v<0 then (v+(n:Int)).toNat else min v.toNat n
theorem sIx_none (n d:Nat):sIx n d none=d:=rfl
theorem sIx_nat (n d k:Nat):sIx n d (some (k:Int))=min k n:=by
 show (if (k:Int)<0 then ((k:Int)+(n:Int)).toNat else min (k:Int).toNat n)=min k n
 rw [if_neg (by lia),gS]
theorem Hh (n d:Nat) (hd:d<=n) (o:Option Int):sIx n d o<=n:=by
 cases o with
 | none=>exact hd
 | some v =>
   show (if v<0 then (v+(n:Int)).toNat else min v.toNat n)<=n
   by_cases hv:v<0
   ·rw [if_pos hv];lia
   ·rw [if_neg hv];exact Nat.min_le_right _ _
theorem Aw (v:Int) (n d:Nat):(if v<0 then max (v+(n:Int)) 0 else min v (n:Int))=((sIx n d (some v):Nat):Int):=by
 show (if v<0 then max (v+(n:Int)) 0 else min v (n:Int))=(((if v<0 then (v+(n:Int)).toNat else min v.toNat n):Nat):Int)
 by_cases hv:v<0
 ·simp only [if_pos hv];lia
 ·simp only [if_neg hv];lia
theorem wK (lo hi:Option Int) (n:Nat):h9 lo hi 1 (n:Int)=(((sIx n 0 lo:Nat):Int),((sIx n n hi:Nat):Int)):=by
 have h1:¬ ((1:Int)<0):=by lia
 unfold h9
 simp only [h1,if_false]
 refine ku ?_ ?_
 ·cases lo with
  | none=>rfl
  | some v=>exact Aw v n 0
 ·cases hi with
  | none=>rfl
  | some v=>exact Aw v n n
theorem w8 (i j:Nat):e8 (i:Int) (j:Int) 1=j-i:=by
 unfold e8
 have h1:(1:Int) > 0:=by lia
 simp only [h1,if_true,Int.ediv_one]
 split<;>lia
theorem pJ {v:ag} {o:Option Int} {Q:Option Int->ai->Prop} (p:lQ v o) (h:Q o s):aN (aZ prog w) A (Builtin.Slice.slicePartIndex v) Q E s:=by
 cases p with
 | none=>exact slicePart_none h
 | int i t=>exact slicePart_int h
theorem sliceApplied_gen {sl:au} {vl vu:ag} {lo hi:Option Int} {n:Nat} {Q:Int×Int×Nat->ai->Prop} (hs:s.heap.IsSliceOf sl vl vu .none) (pl:lQ vl lo) (pu:lQ vu hi)
 (h:Q (((sIx n 0 lo:Nat):Int),1,sIx n n hi-sIx n 0 lo) s):aN (aZ prog w) A (lg (.ref sl) (pure (n:Int))) Q E s:=by
 obtain ⟨os,hos,hcs,hds⟩:=id hs
 unfold lg Builtin.Slice.sliceFields
 refine ac (ac (Ba hos hds (x:=vl) rfl (ac (Ba hos hds (x:=vu) rfl (ac (Ba hos hds (x:=.none) rfl (aq ?_)))))))
 refine ac (slicePart_none ?_)
 show aN _ _ (if ((1:Int) == 0)=true then _ else _) _ _ s
 rw [if_neg (by decide)]
 refine ac (pJ pl (ac (pJ pu (ac (aq ?_)))))
 show aN _ _ (match h9 lo hi 1 (n:Int) with | (lo,hi)=>pure (lo,(1:Int),e8 lo hi 1)) _ _ s
 rw [wK lo hi n]
 show aN _ _ (pure (((sIx n 0 lo:Nat):Int),(1:Int),e8 ((sIx n 0 lo:Nat):Int) ((sIx n n hi:Nat):Int) 1)) _ _ s
 rw [w8]
 exact aq h
theorem BB (xs:Array ag) (i k:Nat):((bG k).filterMap fun (m:Nat)=>xs[((i:Int)+(m:Int)*1).toNat]?).toArray=((xs.toList.drop i).take k).toArray:=by
 have e:(fun (m:Nat)=>xs[((i:Int)+(m:Int)*1).toNat]?)=fun m=>xs[i+m]?:=by
  funext m
  have:((i:Int)+(m:Int)*1).toNat=i+m:=by lia
  rw [this]
 rw [e]
 have:=pick_run xs i k
 rw [List.filterMap_map] at this
 have e2:((fun x=>xs[x]?)∘fun x=>i+x)=fun m=>xs[i+m]?:=rfl
 rw [e2] at this
 rw [this]
theorem getItem_tuple_cut {t sl:au} {items:Array ag} {vl vu:ag} {lo hi:Option Int} {Q:ag->ai->Prop} (ht:jd s.heap t items) (hs:s.heap.IsSliceOf sl vl vu .none) (pl:lQ vl lo) (pu:lQ vu hi)
 (hw:¬ (sIx items.size 0 lo=0/\sIx items.size items.size hi=items.size))
 (h:Q (.ref s.heap.objs.size) { s with heap:=s.heap.push { cls:=.type "tuple",data:=.seq ((items.toList.drop (sIx items.size 0 lo)).take (sIx items.size items.size hi-sIx items.size 0 lo)).toArray } })
 (hsz:items.size<=aK):aN (aZ prog w) A (jF (.ref t) (.ref sl)) Q E s:=by
 have htake:sizeOk (.seq ((items.toList.drop (sIx items.size 0 lo)).take (sIx items.size items.size hi-sIx items.size 0 lo)).toArray):=by
  show ((items.toList.drop (sIx items.size 0 lo)).take (sIx items.size items.size hi-sIx items.size 0 lo)).toArray.size<=aK
  rw [ax,f7,jp,bJ]
  lia
 have hj:sIx items.size items.size hi<=items.size:=Hh _ _ (az _) hi
 obtain ⟨os,hos,hcs,hds⟩:=id hs
 have hTs:s.TypeIs (.ref sl) "slice":=⟨os,hos,hcs⟩
 unfold jF
 try with_reducible refine cN ?_
 first | refine ac (aq ?_) | skip
 refine ac (wpAny_sequenceKey ht.typeIs (by decide) ?_)
 refine ac (gZ (name:=cw "__getitem__") ht.typeIs dX
  (eY dX ht.typeIs CW ?_ (args_tuple_getitem _ _)))
 show aN _ _ (lh (.ref t)>>=_) _ _ s
 refine ac (tupleItemsOf_ ht ?_)
 refine ac (ia hTs ?_)
 rw [if_pos (by decide)]
 refine ac (sliceApplied_gen hs pl pu ?_)
 have hno:¬ ((((sIx items.size 0 lo:Nat):Int) == 0&&(1:Int) == 1&&(sIx items.size items.size hi-sIx items.size 0 lo) == items.size)=true):=by
  intro q
  rw [aT,aT] at q
  have q1:((sIx items.size 0 lo:Nat):Int)=0:=eq_of_beq q.1.1
  have q2:sIx items.size items.size hi-sIx items.size 0 lo=items.size:=eq_of_beq q.2
  exact hw ⟨by lia,by lia⟩
 show aN _ _ (if (((sIx items.size 0 lo:Nat):Int) == 0&&(1:Int) == 1&&(sIx items.size items.size hi-sIx items.size 0 lo) == items.size)=true then _ else _) _ _ s
 rw [if_neg hno,BB]
 first
  | exact ac (m:=cY _) (cA (aq ⟨_,rfl,aq h⟩) htake)
  | exact ac (m:=cY _) (cA (ac (aq (aq ⟨_,rfl,aq h⟩))) htake)
  | exact ac (ac (m:=cY _) (cA (aq (aq ⟨_,rfl,aq h⟩)) htake))
  | exact ac (ac (m:=cY _) (cA (aq ⟨_,rfl,aq h⟩) htake))
end
end HT
namespace L2
open PySem PySem.Spec PyProof.Rows
noncomputable abbrev TO:=St->Hp->(Option Int->Hp->Prop)->Prop
noncomputable def PO (X:Cx) (e:Option aR) (t:TO):Prop :=
 ∀ (pins:List (au×cX)) (s:ai) (σ:St) (H:Hp) (Q:Option Int->Hp->Prop),Inv X pins σ H s->t σ H Q ->
   aN (aZ X.prog X.w) X.A (evalPart e X.env) (fun u s'=>∃ o H',Inv X pins σ H' s'/\lQ u o/\Q o H') X.xe s
noncomputable def Eu:TO:=fun _ H Q=>Q none H
noncomputable def JH (t:TE):TO:=fun σ H Q=>t σ H fun x H1=>∃ i,x=.int i/\Q (some i) H1
theorem pz {ns:List Int}:∀ {us:List ag},dJ (ns.map V.int) us->fy us ns:=by
 induction ns with
 | nil=>intro us r;rw [gO] at r;cases r;exact .nil
 | cons n ns ih =>
   intro us r
   rw [aD] at r
   cases r with
   | cons r1 r2 =>
     obtain ⟨t,e⟩:=r1
     subst e
     exact .cons n t (ih r2)
section
variable {X:Cx} {e:aR} {te:TE} {lo hi:Option aR} {tl th:TO} {pos p2:d4}
theorem Fz:PO X none Eu:=by
 intro pins s σ H Q I h
 rw [evalPart_none]
 exact aq ⟨none,H,I,.none,h⟩
theorem EW (h:PE X e te):PO X (some e) (JH te):=by
 intro pins s σ H Q I hw
 rw [evalPart_some]
 refine thn (h pins s σ H _ I hw) fun u s1 ⟨x,H1,I1,r1,q1⟩=>?_
 obtain ⟨i,rfl,q⟩:=q1
 obtain ⟨t,rfl⟩:=r1
 exact ⟨some i,H1,I1,.int i t,q⟩
noncomputable def SlR (X:Cx) (r:V->Option Int->Option Int->Hp->VK->Prop):Prop :=
 ∀ (pins:List (au×cX)) (s:ai) (σ:St) (H:Hp) (x:V) (v vl vu:ag) (lo hi:Option Int) (sl:au) (Q:VK),Inv X pins σ H s->fZ x v->s.heap.IsSliceOf sl vl vu .none->lQ vl lo->lQ vu hi->r x lo hi H Q ->
   ∃ T id,typeLookup (.type T) "__getitem__" = pure (some (.builtin id))/\s.TypeIs v T/\aN (aZ X.prog X.w) X.A (jF v (.ref sl)) (EP X pins σ Q) X.xe s
theorem SlR.or {r r':V->Option Int->Option Int->Hp->VK->Prop} (h:SlR X r) (h':SlR X r'):SlR X (fun x lo hi H Q=>r x lo hi H Q\/r' x lo hi H Q):=by
 intro pins s σ H x v vl vu lo hi sl Q I rx hs pl pu q
 rcases q with q | q
 ·exact h pins s σ H x v vl vu lo hi sl Q I rx hs pl pu q
 ·exact h' pins s σ H x v vl vu lo hi sl Q I rx hs pl pu q
noncomputable def tSl (r:V->Option Int->Option Int->Hp->VK->Prop) (te:TE) (tl th:TO):TE:=fun σ H Q=>te σ H fun x H1=>tl σ H1 fun l H2=>th σ H2 fun u H3=>r x l u H3 Q
theorem Co {r:V->Option Int->Option Int->Hp->VK->Prop} (hr:SlR X r) (he:PE X e te) (hl:PO X lo tl) (hu:PO X hi th):PE X (.Subscript e (.Slice lo hi none p2) pos) (tSl r te tl th):=by
 intro pins s σ H Q I h
 refine Subscript_ (thn (he pins s σ H _ I h) fun v s1 ⟨x,H1,I1,r1,q1⟩=>?_)
 refine wpAny_Slice (thn (hl pins s1 σ H1 _ I1 q1) fun vl s2 ⟨l,H2,I2,pl,q2⟩=>thn (hu pins s2 σ H2 _ I2 q2) fun vu s3 ⟨u,H3,I3,pu,q3⟩=>?_)
 rw [evalPart_none]
 refine aq ?_
 have I4:Inv X pins σ H3 { s3 with heap:=s3.heap.push { cls:=.type "slice",data:=.fields #[vl,vu,.none] } }:=I3.kept (t':=s3.toks) fun b ob q=>ah _ q
 obtain ⟨T,id,hT,ht,hg⟩:=hr pins { s3 with heap:=s3.heap.push { cls:=.type "slice",data:=.fields #[vl,vu,.none] } } σ H3 x v vl vu l u s3.heap.objs.size Q I4 r1 (Heap.IsSliceOf.new ..) pl pu q3
 show aN (aZ X.prog X.w) X.A (wx e (.Slice lo hi none p2) v (.ref s3.heap.objs.size)) (EP X pins σ Q) X.xe { s3 with heap:=s3.heap.push { cls:=.type "slice",data:=.fields #[vl,vu,.none] } }
 exact tail_any (ops:=[.ref s3.heap.objs.size,v]) ht hT hg (by with_unfolding_all rfl)
noncomputable def Du (xs:List V) (lo hi:Option Int):List V:=(xs.drop (HT.sIx xs.length 0 lo)).take (HT.sIx xs.length xs.length hi-HT.sIx xs.length 0 lo)
theorem nP (xs:List V) (lo hi:Option Int):(Du xs lo hi).length<=xs.length:=by
 unfold Du
 rw [f7,jp]
 lia
noncomputable def KF (K:ae):V->Option Int->Option Int->Hp->VK->Prop:=fun x lo hi H Q=>∃ a xs,x=.ref a/\SqT K H a xs /\
 ¬ (HT.sIx xs.length 0 lo=0/\HT.sIx xs.length xs.length hi=xs.length)/\∀ p,H p=none->Q (.ref p) (upd H p (.tup (Du xs lo hi)))
theorem Ib:SlR X (KF X.K):=by
 intro pins s σ H x v vl vu lo hi sl Q I rx hs pl pu h
 obtain ⟨a,xs,rfl,hx,hw,q⟩:=h
 cases rx
 obtain ⟨its,r,ht,hz⟩:=I.tuple hx
 have hlen:its.toArray.size=xs.length:=by rw [ax];exact r.length.symm
 refine ⟨"tuple",_,PyProof.Rows.slot_tuple_getitem.lookup,ht.typeIs,?_⟩
 refine HT.getItem_tuple_cut ht hs pl pu (by rw [hlen];exact hw) ?_ (by rw [hlen];exact hz)
 rw [hlen]
 refine ⟨.ref s.heap.objs.size,_,I.laid (t':=s.toks) (o:=.tup (Du xs lo hi)) (fun b ob q=>ah _ q) (az _) ?_,rfl,q _ (I.hok.fresh (az _))⟩
 exact ⟨⟨bO (nP xs lo hi) hz,lH.new _ _⟩,_,(r.drop (HT.sIx xs.length 0 lo)).take (HT.sIx xs.length xs.length hi-HT.sIx xs.length 0 lo),mM _ _⟩
noncomputable def Kp (K:ae):R2:=fun x y H Q=>∃ a b ns ms,x=.ref a/\y=.ref b/\SqT K H a (ns.map V.int)/\SqT K H b (ms.map V.int)/\Q (.bl (HT.lexLt ns ms)) H
theorem Hm (hu:X.A.units<cg):OpR X (dq .Lt) (Kp X.K):=by
 intro pins s σ H x y v u Q I rx ry h
 obtain ⟨a,b,ns,ms,rfl,rfl,ha,hb,q⟩:=h
 cases rx
 cases ry
 obtain ⟨its,r1,p1,_⟩:=I.tuple ha
 obtain ⟨its2,r2,p2,_⟩:=I.tuple hb
 have i1:fy its.toArray.toList ns:=pz r1
 have i2:fy its2.toArray.toList ms:=pz r2
 exact HT.lt_tupInts p1 p2 i1 i2 hu ⟨.bl (HT.lexLt ns ms),H,I,rfl,q⟩
noncomputable def HX (K:ae):R2:=fun x y H Q=>∃ a b xs ys,x=.ref a/\y=.ref b/\SqT K H a xs/\SqT K H b ys/\xs≠[]/\xs.length+ys.length<=aK /\
 (ys=[]->Q (.ref a) H)/\(ys≠[]->∀ p,H p=none->Q (.ref p) (upd H p (.tup (xs++ys))))
theorem dJ.nil_iff {xs:List V} {us:List ag} (r:dJ xs us):us=[]↔xs=[]:=by
 cases r with
 | nil=>simp
 | cons _ _=>simp
theorem EY:OpR X (iC .Add) (HX X.K):=by
 intro pins s σ H x y v u Q I rx ry h
 obtain ⟨a,b,xs,ys,rfl,rfl,ha,hb,hx,hz,q1,q2⟩:=h
 cases rx
 cases ry
 obtain ⟨its,r1,p1,_⟩:=I.tuple ha
 obtain ⟨its2,r2,p2,_⟩:=I.tuple hb
 refine HT.cat_tup p1 p2 (fun z=>hx (r1.nil_iff.mp z)) (fun z=>⟨.ref a,H,I,rfl,q1 (r2.nil_iff.mp z)⟩) (fun z=>?_) (by rw [<- r1.length,<- r2.length];exact hz)
 refine ⟨.ref s.heap.objs.size,_,I.laid (t':=s.toks) (o:=.tup (xs++ys)) (fun b ob q=>ah _ q) (az _) ?_,rfl,q2 (fun w=>z (r2.nil_iff.mpr w)) _ (I.hok.fresh (az _))⟩
 exact ⟨⟨by rw [aO];exact hz,lH.new _ _⟩,_,r1.append r2,mM _ _⟩
end
noncomputable def ixN (n:Nat) (i:Int):Option Nat:=if 0<=i then (if i<n then some i.toNat else none) else if -(n:Int)<=i then some (i+n).toNat else none
noncomputable def atI {α:Type} (xs:List α) (i:Int):Option α:=(ixN xs.length i).bind fun j=>xs[j]?
theorem yw {n:Nat} {i:Int} {j:Nat} (h:ixN n i=some j):seqIndex? i n=some j/\j<n/\-(n:Int)<=i/\i<n:=by
 unfold ixN at h
 by_cases h0:0<=i
 ·rw [if_pos h0] at h
  by_cases h1:i<n
  ·rw [if_pos h1] at h
   have e:i.toNat=j:=bH h
   exact ⟨by rw [seqIndex_of h0 h1,e],by lia,by lia,h1⟩
  ·rw [if_neg h1] at h;cases h
 ·rw [if_neg h0] at h
  by_cases h1 : -(n:Int)<=i
  ·rw [if_pos h1] at h
   have e:(i+n).toNat=j:=bH h
   exact ⟨by rw [seqIndex_neg (by lia) h1,e],by lia,h1,by lia⟩
  ·rw [if_neg h1] at h;cases h
theorem uD {α:Type} {xs:List α} {i:Int} {v:α} (h:atI xs i=some v):∃ j,seqIndex? i xs.length=some j/\xs[j]?=some v/\j<xs.length/\-(xs.length:Int)<=i/\i<xs.length:=by
 unfold atI at h
 cases e:ixN xs.length i with
 | none=>rw [e] at h;cases h
 | some j =>
   rw [e] at h
   obtain ⟨h1,h2,h3,h4⟩:=yw e
   exact ⟨j,h1,h,h2,h3,h4⟩
noncomputable def qB (b:aR):Prop:=∀ o i,rF b false o i=operate [o,i] (jF o i)
noncomputable def IxR (X:Cx) (r:R2):Prop :=
 ∀ (value slice:aR) (pins:List (au×cX)) (s:ai) (σ:St) (H:Hp) (x y:V) (v u:ag) (Q:VK),Inv X pins σ H s->fZ x v->fZ y u->r x y H Q ->
   rF slice false v u=operate [v,u] (jF v u)->aN (aZ X.prog X.w) X.A (wx value slice v u) (EP X pins σ Q) X.xe s
noncomputable def MtR (X:Cx) (id:String) (r:V->List V->Hp->VK->Prop):Prop :=
 ∀ (pins:List (au×cX)) (s:ai) (σ:St) (H:Hp) (x:V) (xs:List V) (v:ag) (us:List ag) (Q:VK),Inv X pins σ H s->fZ x v->dJ xs us->r x xs H Q ->
   aN (aZ X.prog X.w) X.A (call (.builtin id) (v::us)) (EP X pins σ Q) X.xe s
section
variable {X:Cx} {a b:aR} {ta tb:TE} {pos:d4}
theorem IxR.or {r r':R2} (h:IxR X r) (h':IxR X r'):IxR X (fun x y H Q=>r x y H Q\/r' x y H Q):=by
 intro value slice pins s σ H x y v u Q I rx ry q hs
 rcases q with q | q
 ·exact h value slice pins s σ H x y v u Q I rx ry q hs
 ·exact h' value slice pins s σ H x y v u Q I rx ry q hs
theorem Km {r:R2} (hr:IxR X r) (ha:PE X a ta) (hb:PE X b tb) (hs:qB b):PE X (.Subscript a b pos) (tOp r ta tb):=by
 intro pins s σ H Q I h
 exact Subscript_ (JI ha hb I h fun v u s2 x y H2 I2 rx ry q=>hr a b pins s2 σ H2 x y v u Q I2 rx ry q (hs _ _))
noncomputable def JM (K:ae):R2:=fun x y H Q=>∃ p xs i v,x=.ref p/\y=.int i/\SqL K H p xs/\atI xs i=some v/\Q v H
noncomputable def J6 (K:ae):R2:=fun x y H Q=>∃ p xs i v,x=.ref p/\y=.int i/\SqT K H p xs/\atI xs i=some v/\Q v H
noncomputable def JZ:R2:=fun x y H Q=>∃ z i c,x=.str z/\y=.int i/\z.length<=aK/\atI z.cps.toList i=some c/\Q (.str ⟨#[c]⟩) H
theorem DO:IxR X (JM X.K):=by
 intro value slice pins s σ H x y v u Q I rx ry h hs
 obtain ⟨p,xs,i,z,rfl,rfl,hq,he,q⟩:=h
 cases rx
 obtain ⟨t,rfl⟩:=ry
 obtain ⟨its,r,pl,hz⟩:=I.list hq
 obtain ⟨j,h1,h2,h3,h4,h5⟩:=uD he
 obtain ⟨w,ew,rw'⟩:=r.get h2
 have hl:=r.length
 have hn:=sn
 have fin:EP X pins σ Q w s:=⟨z,H,I,rw',q⟩
 by_cases h0:0<=i
 ·have hj:i.toNat=j:=by
   rw [seqIndex_of h0 h5] at h1
   exact bH h1
  exact item_listR pl.isList h0 (by lia) (by rw [hj];simpa using ew) fin hs
 ·have hj:(i+(its.toArray.size:Int)).toNat=j:=by
   rw [seqIndex_neg (by lia) h4] at h1
   rw [ax,<- hl]
   exact bH h1
  exact xV (x:=w) pl.isList.typeIs slot_list_getitem.lookup
   (wpAny_getItem_list_neg (Q:=fun r s'=>r=w/\EP X pins σ Q r s') pl.isList (by lia) (by rw [ax]<;>lia) (by lia) (by rw [hj];simpa using ew) ⟨rfl,fin⟩) hs
theorem Ie:IxR X (J6 X.K):=by
 intro value slice pins s σ H x y v u Q I rx ry h hs
 obtain ⟨p,xs,i,z,rfl,rfl,hq,he,q⟩:=h
 cases rx
 obtain ⟨t,rfl⟩:=ry
 obtain ⟨its,r,pl,hz⟩:=I.tuple hq
 obtain ⟨j,h1,h2,h3,h4,h5⟩:=uD he
 obtain ⟨w,ew,rw'⟩:=r.get h2
 have hl:=r.length
 have hn:=sn
 have fin:EP X pins σ Q w s:=⟨z,H,I,rw',q⟩
 exact xV (x:=w) pl.typeIs slot_tuple_getitem.lookup
  (getItem_tuple (j:=j) (Q:=fun r s'=>r=w/\EP X pins σ Q r s') pl (by lia) (by lia) (by rw [ax,<- hl];exact h1) (by simpa using ew) ⟨rfl,fin⟩) hs
theorem GX:IxR X JZ:=by
 intro value slice pins s σ H x y v u Q I rx ry h hs
 obtain ⟨z,i,c,rfl,rfl,hz,he,q⟩:=h
 obtain ⟨t,rfl⟩:=rx
 obtain ⟨t',rfl⟩:=ry
 obtain ⟨j,h1,h2,h3,h4,h5⟩:=uD he
 have hl:z.cps.toList.length=z.length:=by simp [Str.length]
 rw [hl] at h1 h4 h5
 have hn:=sn
 exact tail_any (typeIs_str s z t) slot_str_getitem.lookup (getItem_str (c:=c) (by
  have e1:decide (i < -(2 ^ 63:Int))=false:=decide_eq_false (by lia)
  have e2:decide (i≥2 ^ 63)=false:=decide_eq_false (by lia)
  rw [e1,e2,Bool.or_false]) (by rw [h1];simpa using h2) ⟨.str ⟨#[c]⟩,H,I.tok _,⟨_,rfl⟩,q⟩) hs
noncomputable def rIx (K:ae):R2:=fun x y H Q=>JM K x y H Q\/J6 K x y H Q\/JZ x y H Q
theorem GQ:IxR X (rIx X.K):=DO.or (Ie.or GX)
theorem sf (lo hi:Option Int) (n:Nat):(iF lo hi none n).1=((HT.sIx n 0 lo:Nat):Int)/\(iF lo hi none n).2.1=((HT.sIx n n hi:Nat):Int)/\(iF lo hi none n).2.2=1:=by
 refine ⟨?_,?_,rfl⟩
 ·cases lo with
  | none=>simp [iF,HT.sIx]
  | some i =>
    simp only [iF,HT.sIx,xH,show (1:Int) > 0 by decide,if_true]
    by_cases h:i<0
    ·simp only [h,if_true]<;>lia
    ·simp only [h,if_false]<;>lia
 ·cases hi with
  | none=>simp [iF,HT.sIx]
  | some i =>
    simp only [iF,HT.sIx,xH,show (1:Int) > 0 by decide,if_true]
    by_cases h:i<0
    ·simp only [h,if_true]<;>lia
    ·simp only [h,if_false]<;>lia
theorem p9 (its:List ag) (lo hi:Option Int):slicePick its.toArray lo hi none=((its.drop (HT.sIx its.length 0 lo)).take (HT.sIx its.length its.length hi-HT.sIx its.length 0 lo)).toArray:=by
 obtain ⟨h1,h2,h3⟩:=sf lo hi its.toArray.size
 unfold slicePick
 rw [h1,h2,h3]
 simp only [sliceRange_one,pick_run,ax]<;>rfl
noncomputable def KI (K:ae):V->Option Int->Option Int->Hp->VK->Prop:=fun x lo hi H Q=>∃ a xs,x=.ref a/\SqL K H a xs/\∀ p,H p=none->Q (.ref p) (upd H p (.lst (Du xs lo hi)))
theorem D8:SlR X (KI X.K):=by
 intro pins s σ H x v vl vu lo hi sl Q I rx hs pl pu h
 obtain ⟨a,xs,rfl,hx,q⟩:=h
 cases rx
 obtain ⟨its,r,ht,hz⟩:=I.list hx
 have hlen:=r.length
 refine ⟨"list",_,slot_list_getitem.lookup,ht.isList.typeIs,?_⟩
 refine wpAny_getItem_list_slice ht.isList hs pl pu .none (by simp) ?_ (by rw [ax]<;>lia)
 rw [p9,<- hlen]
 refine ⟨.ref s.heap.objs.size,_,I.laid (t':=s.toks) (o:=.lst (Du xs lo hi)) (fun b ob q=>ah _ q) (az _) ?_,rfl,q _ (I.hok.fresh (az _))⟩
 exact ⟨bO (nP xs lo hi) hz,_,0,(r.drop (HT.sIx xs.length 0 lo)).take (HT.sIx xs.length xs.length hi-HT.sIx xs.length 0 lo),aL _ rfl⟩
theorem tJ:j0 X (.builtin "len") (fun xs H Q=>∃ p ys,xs=[.ref p]/\(SqL X.K H p ys\/SqT X.K H p ys)/\Q (.int ys.length) H):=by
 intro pins s σ H xs us Q I r h
 obtain ⟨p,ys,rfl,hq,q⟩:=h
 obtain ⟨u,rfl,rx⟩:=kZ r
 cases rx
 have hn:=sn
 rcases hq with hq | hq
 ·obtain ⟨its,r',pl,hz⟩:=I.list hq
  have hlen:=r'.length
  exact Calls.call_len_list pl.isList (by simp only [ax]<;>lia) ⟨.int ys.length,H,I.tok _,⟨s.toks+1,by rw [ax,hlen]⟩,q⟩
 ·obtain ⟨its,r',pl,hz⟩:=I.tuple hq
  have hlen:=r'.length
  exact len_tuple pl (by simp only [ax]<;>lia) ⟨.int ys.length,H,I.tok _,⟨s.toks+1,by rw [ax,hlen]⟩,q⟩
theorem tq:j0 X (.type "list") (fun xs H Q=>∃ p ys,xs=[.ref p]/\(SqL X.K H p ys\/SqT X.K H p ys)/\∀ l,H l=none->Q (.ref l) (upd H l (.lst ys))):=by
 intro pins s σ H xs us Q I r h
 obtain ⟨p,ys,rfl,hq,q⟩:=h
 obtain ⟨u,rfl,rx⟩:=kZ r
 cases rx
 have fin:∀ (its:List ag),dJ ys its->ys.length<=aK->∀ (h':b9) (c':Nat),(∀ b o',s.heap.get? b=some o'->h'.get? b=some o') ->
  h'.get? s.heap.objs.size=some { cls:=.type "list",dict:=none,data:=.seq its.toArray c',slots:=#[] }->EP X pins σ Q (.ref s.heap.objs.size) { s with heap:=h' }:=fun its r' hz h' c' kp e =>
  ⟨.ref s.heap.objs.size,_,I.laid (t':=s.toks) kp (az _) (show gz X.prog X.w _ h' _ (.lst ys) from ⟨hz,its,c',r',e⟩),rfl,q _ (I.hok.fresh (az _))⟩
 rcases hq with hq | hq
 ·obtain ⟨its,r',pl,hz⟩:=I.list hq
  have hlen:=r'.length
  obtain ⟨o,ho,hc,n,hd⟩:=pl.isList
  exact call_list_seq p (.inl rfl) ho hc hd (fun h' c' kp e=>fin its r' hz h' c' kp e) (by simp only [ax]<;>lia)
 ·obtain ⟨its,r',pl,hz⟩:=I.tuple hq
  have hlen:=r'.length
  obtain ⟨o,ho,hc,n,hd⟩:=pl
  exact call_list_seq p (.inr rfl) ho hc hd (fun h' c' kp e=>fin its r' hz h' c' kp e) (by simp only [ax]<;>lia)
theorem qw:j0 X (.type "tuple") (fun xs H Q=>∃ p ys,xs=[.ref p]/\((SqL X.K H p ys/\∀ l,H l=none->Q (.ref l) (upd H l (.tup ys)))\/(SqT X.K H p ys/\Q (.ref p) H))):=by
 intro pins s σ H xs us Q I r h
 obtain ⟨p,ys,rfl,h⟩:=h
 obtain ⟨u,rfl,rx⟩:=kZ r
 cases rx
 rcases h with ⟨hq,q⟩ | ⟨hq,q⟩
 ·obtain ⟨its,r',pl,hz⟩:=I.list hq
  have hlen:=r'.length
  refine call_tuple_list pl.isList (fun h' kp=>?_) (by simp only [ax]<;>lia)
  have I1:Inv X pins σ H { s with heap:=h' }:=I.kept (t':=s.toks) kp
  have I2:Inv X pins σ (upd H h'.objs.size (.tup ys)) { s with heap:=h'.push { cls:=.type "tuple",data:=.seq its.toArray } } :=
   I1.laid (t':=s.toks) (fun b o e=>ah _ e) (az _) (show gz X.prog X.w _ _ _ (.tup ys) from ⟨⟨hz,lH.new _ _⟩,its,r',mM _ _⟩)
  exact ⟨.ref h'.objs.size,_,I2,rfl,q _ (I1.hok.fresh (az _))⟩
 ·obtain ⟨its,r',pl,hz⟩:=I.tuple hq
  exact call_tuple_same pl ⟨.ref p,H,I,rfl,q⟩
noncomputable def tyV (K:ae) (T:String) (x:V) (H:Hp):Prop:=match x with
 | .str _=>T = "str"
 | .int _=>T = "int"
 | .ref p=>(T = "list"/\∃ xs,SqL K H p xs)\/(T = "tuple"/\∃ o,K.lookup p=some o/\o.cls=.type "tuple"/\o.dict=none) \/
    (T = "dict"/\((∃ kvs,H p=some (.dK kvs))\/∃ kvs,H p=some (.dT kvs)))\/(T = "set"/\∃ S n,H p=some (.set S n))
 | _=>False
theorem ID {pins:List (au×cX)} {σ:St} {H:Hp} {s:ai} {T:String} {x:V} {v:ag} (I:Inv X pins σ H s) (r:fZ x v) (ty:tyV X.K T x H) :
 s.TypeIs v T/\∀ a,v=.ref a->∃ ob,s.heap.get? a=some ob/\ob.dict=none:=by
 cases x with
 | str z =>
   obtain ⟨t,rfl⟩:=r
   cases (show T = "str" from ty)
   exact ⟨typeIs_str s z t,fun _ e=>nomatch e⟩
 | int i =>
   obtain ⟨t,rfl⟩:=r
   cases (show T = "int" from ty)
   exact ⟨typeIs_int s i t,fun _ e=>nomatch e⟩
 | ref p =>
   cases r
   rcases ty with ⟨rfl,xs,hq⟩ | ⟨rfl,o,hk,hc,hd⟩ | ⟨rfl,hk⟩ | ⟨rfl,S,n,hk⟩
   ·obtain ⟨its,_,pl,_⟩:=I.list hq
    refine ⟨pl.isList.typeIs,fun a e=>?_⟩
    cases e
    obtain ⟨o,n,e,c,hd,_⟩:=pl
    exact ⟨o,e,hd⟩
   ·refine ⟨⟨o,I.kIn p o hk,hc⟩,fun a e=>?_⟩
    cases e
    exact ⟨o,I.kIn _ o hk,hd⟩
   ·have z:∃ o,s.heap.get? p=some o/\o.ExactDict:=by
     rcases hk with ⟨kvs,hk⟩ | ⟨kvs,hk⟩
     ·obtain ⟨_,_,_,_,o,_,_,e,ex,_⟩:=I.hok p _ hk
      exact ⟨o,e,ex⟩
     ·obtain ⟨_,_,_,_,o,_,_,e,ex,_⟩:=I.hok p _ hk
      exact ⟨o,e,ex⟩
    obtain ⟨o,e,ex⟩:=z
    refine ⟨⟨o,e,ex.1⟩,fun a e2=>?_⟩
    cases e2
    exact ⟨o,e,ex.2.1⟩
   ·obtain ⟨o,_,_,_,e,ex,_⟩:=I.hok p _ hk
    refine ⟨⟨o,e,ex.1⟩,fun a e2=>?_⟩
    cases e2
    exact ⟨o,e,ex.2.1⟩
 | _=>exact b0 ty
noncomputable def tBM (K:ae) (T:String) (r:V->List V->Hp->VK->Prop) (to:TE) (t:TA):TE:=fun σ H Q=>to σ H fun x H1=>tyV K T x H1/\t σ H1 fun xs H2=>r x xs H2 Q
variable {o e:aR} {es:List aR} {to:TE} {t:TA} {name:bv} {apos cpos:d4} {T id:String} {r:V->List V->Hp->VK->Prop}
theorem D9 (pa:PlainAttrs T) (slot:Slot T name id) (hty:typeOf (.builtin id)=pure (.type "method_descriptor")) (hm:MtR X id r) (ho:PE X o to) (ha:PA X (e::es) t)
 (hbase:d6 o name X.env (bL o X.env)=bL o X.env:=by rfl)
 (hfew:((bZ cpos (ao (e::es) X.env)).all (fun x=>!x.1)&&(iE cpos (fm [] X.env)).all (fun x=>x.1.isSome)
   && decide ((e::es).length+([]:List f9).length+(if ([]:List f9).isEmpty then 0 else 1)<30))=true:=by rfl)
 (hline:(apos.endLine == cpos.line)=true:=by rfl) (hs:ao (e::es) X.env=(false,bL e X.env)::ao es X.env:=by rfl) (hplain:(bZ cpos (ao es X.env)).any (·.1)=false:=by rfl) :
 PE X (.Call (.Attribute o name apos) (e::es) [] cpos) (tBM X.K T r to t):=by
 intro pins s σ H Q I h
 refine wpAny_Call_method_late hbase hfew hline rfl (thn (ho pins s σ H _ I h) fun v s1 ⟨x,H1,I1,r1,ty,q1⟩=>?_)
 obtain ⟨h1,h2⟩:=ID I1 r1 ty
 refine ⟨T,id,pa,slot,hty,h1,h2,?_⟩
 have hA:=ha cpos pins s1 σ H1 _ I1 q1
 rw [hs] at hA ⊢
 refine jz (by show (false||(bZ cpos (ao es X.env)).any (·.1))=false;rw [hplain]<;>rfl) (t6 ?_)
 exact thn hA fun us s2 ⟨vs,H2,I2,r2,q2⟩=>hm pins s2 σ H2 x vs v us Q I2 r1 r2 q2
end
noncomputable def MtM (X:Cx) (id:String) (r:V->List V->Hp->VK->Prop):Prop :=
 ∀ (pins:List (au×cX)) (s:ai) (σ:St) (H:Hp) (x:V) (xs:List V) (v:ag) (us:List ag) (Q:VK),Inv X pins σ H s->fZ x v->dJ xs us->r x xs H Q ->
   aN (aZ X.prog X.w) X.A (call (.builtin id) (v::us)) (EP X pins σ Q) X.xe s
theorem dJ.one:∀ {x:V} {us:List ag},dJ [x] us->∃ u,us=[u]/\fZ x u
 | _,_,.cons r .nil=>⟨_,rfl,r⟩
theorem dJ.two:∀ {x y:V} {us:List ag},dJ [x,y] us->∃ u v,us=[u,v]/\fZ x u/\fZ y v
 | _,_,_,.cons r (.cons q .nil)=>⟨_,_,rfl,r,q⟩
theorem dJ.zero:∀ {us:List ag},dJ [] us->us=[]
 | _,.nil=>rfl
theorem dJ.eraseIdx:∀ {xs:List V} {us:List ag} (i:Nat),dJ xs us->dJ (xs.eraseIdx i) (us.eraseIdx i)
 | _,_,_,.nil=>.nil
 | _,_,0,.cons _ t=>t
 | _,_,i+1,.cons r t=>.cons r (dJ.eraseIdx i t)
theorem sy {α:Type}:∀ (l:List α) (i:Nat),(l.eraseIdx i).length<=l.length
 | [],_=>az _
 | _::_,0=>Nat.le_succ _
 | _::r,i+1=>Nat.succ_le_succ (sy r i)
section
variable {X:Cx} {pins:List (au×cX)} {σ:St} {H:Hp} {s:ai} {l b:au} {xs ys zs:List V}
theorem Inv.lset {its its':List ag} {n:Nat} {f:Array ag->Array ag} {t':Nat} (I:Inv X pins σ H s) (hH:H l=some (.lst xs))
 (e:s.heap.get? l=some { cls:=.type "list",data:=.seq its.toArray n }) (hf:f its.toArray=its'.toArray) (hv:dJ ys its') (hz:ys.length<=aK) :
 Inv X pins σ (upd H l (.lst ys)) { s with heap:=s.heap.update l (bQ f),toks:=t' }:=by
 have q:=PySem.IsL.update e f
 rw [hf] at q
 refine I.write (x:=l) (e:=l) (by rw [hH];exact trivial) (.inl rfl) (fun b' u hb hu=>(cF s.heap (bQ f) (Ne.symm hb)).trans hu) ⟨_,q⟩ ?_
 exact ⟨hz,its',_,hv,q⟩
theorem Inv.lnew {its:List ag} {t':Nat} (I:Inv X pins σ H s) (hv:dJ ys its) (hz:ys.length<=aK) :
 Inv X pins σ (upd H s.heap.objs.size (.lst ys)) { s with heap:=s.heap.push { cls:=.type "list",data:=.seq its.toArray },toks:=t' } :=
 I.laid (fun _ _ q=>ah _ q) (az _) ⟨hz,its,0,hv,aL _ rfl⟩
theorem Inv.fresh (I:Inv X pins σ H s):H s.heap.objs.size=none:=I.hok.fresh (az _)
theorem Inv.lstM (I:Inv X pins σ H s) (hH:H l=some (.lst xs)):xs.length<=aK/\∃ (its:List ag) (n:Nat),dJ xs its/\xs.length=its.length/\s.heap.get? l=some { cls:=.type "list",data:=.seq its.toArray n }:=by
 obtain ⟨z,its,n,r,e⟩:=I.hok l _ hH
 exact ⟨z,its,n,r,r.length,e⟩
theorem CP {n:Nat} (h:n<=aK):il n=false:=by
 unfold il
 exact decide_eq_false (by lia)
end
section
variable {X:Cx}
noncomputable def Fk:V->List V->Hp->VK->Prop:=fun x vs H Q=>∃ l xs y,x=.ref l/\vs=[y]/\H l=some (.lst xs)/\xs.length<aK/\Q .non (upd H l (.lst (xs++[y])))
theorem sY:MtM X "list.append" Fk:=by
 intro pins s σ H x vs v us Q I rx rv h
 obtain ⟨l,xs,y,rfl,rfl,hH,hz,q⟩:=h
 cases rx
 obtain ⟨u,rfl,ru⟩:=rv.one
 obtain ⟨z,its,n,r,hl,e⟩:=I.lstM hH
 refine nh F.slot_list_append ⟨_,e,rfl⟩ F.entry_list_append (F.args_list_append_2 _ _) (PySem.list_append l its.toArray n u (by rw [ax];lia)) ⟨e,?_⟩
 refine ⟨.non,_,I.lset (its':=its++[u]) hH e (by simp) (r.append (.cons ru .nil)) ?_,rfl,q⟩
 rw [aO,bB]
 lia
noncomputable def Fj:V->List V->Hp->VK->Prop:=fun x vs H Q=>∃ l b xs zs,x=.ref l/\vs=[.ref b]/\H l=some (.lst xs)/\H b=some (.lst zs)/\xs.length+zs.length<=aK/\Q .non (upd H l (.lst (xs++zs)))
theorem Az:MtM X "list.extend" Fj:=by
 intro pins s σ H x vs v us Q I rx rv h
 obtain ⟨l,b,xs,zs,rfl,rfl,hH,hB,hz,q⟩:=h
 cases rx
 obtain ⟨u,rfl,ru⟩:=rv.one
 cases ru
 obtain ⟨z,its,n,r,hl,e⟩:=I.lstM hH
 obtain ⟨z2,its2,n2,r2,hl2,e2⟩:=I.lstM hB
 have hsz:its.toArray.size+its2.toArray.size<=aK:=by rw [ax,ax];lia
 have hlong:¬ (!its.toArray.isEmpty&&il (its.toArray.size+its2.toArray.size))=true:=by
  rw [CP hsz,Bool.and_false]
  exact aM
 refine nh F.slot_list_extend ⟨_,e,rfl⟩ F.entry_list_extend (F.args_list_extend_2 _ _)
  (AutoSeq1.list_extend_list_list_0 l its.toArray n b its2.toArray n2 hlong (by rw [ax];lia) (by lia)) ⟨e,e2,?_⟩
 refine ⟨.non,_,I.lset (its':=its++its2) hH e (by simp) (r.append r2) ?_,rfl,q⟩
 rw [aO]
 lia
noncomputable def AF:V->List V->Hp->VK->Prop:=fun x vs H Q=>∃ l xs i k y,x=.ref l/\vs=[.int i]/\H l=some (.lst xs)/\-(2 ^ 63)<=i/\i<2 ^ 63/\seqIndex? i xs.length=some k/\xs[k]?=some y/\Q y (upd H l (.lst (xs.eraseIdx k)))
theorem CM:MtM X "list.pop" AF:=by
 intro pins s σ H x vs v us Q I rx rv h
 obtain ⟨l,xs,i,k,y,rfl,rfl,hH,h1,h2,hk,hy,q⟩:=h
 cases rx
 obtain ⟨u,rfl,ru⟩:=rv.one
 obtain ⟨t,rfl⟩:=ru
 obtain ⟨z,its,n,r,hl,e⟩:=I.lstM hH
 obtain ⟨w,hw,rw'⟩:=r.get hy
 refine nh F.slot_list_pop ⟨_,e,rfl⟩ F.entry_list_pop (F.args_list_pop_2 _ _)
  (MeetsSeq.list_pop_at l its.toArray n i t k w (fitsIndex_both h1 h2) (by rw [ax,<- hl];exact hk) (by rw [<- fg];exact hw) (by rw [ax];lia)) ⟨e,?_⟩
 refine ⟨y,_,I.lset (its':=its.eraseIdx k) hH e ?_ (r.eraseIdx k) ?_,rw',q⟩
 ·show its.toArray.eraseIdxIfInBounds k=(its.eraseIdx k).toArray
  rw [List.eraseIdxIfInBounds_toArray]
 ·have:=sy xs k
  lia
end
end L2
namespace Att
open PySem PySem.W PySem.Calls PyProof.Rows
theorem nT {P:xW} {h:b9}:∀ (ns:List Int) (vs:List ag),WellAll P h vs (ns.map WData.int)->fy vs ns:=by
 intro ns
 induction ns with
 | nil =>
   intro vs w
   rw [gO] at w
   cases w
   exact .nil
 | cons n ns ih =>
   intro vs w
   rw [aD] at w
   cases w with
   | cons a b =>
     cases a
     exact .cons _ _ (ih _ b)
theorem yH {l:OpenLaw} {n:Nat} (hn:l.most=some n) {P:xW} {h:b9} {args:List WData} {vals:List ag}
 (hpre:l.row.toRowW.claim.pre args=true) (hwl:WellAll P h vals args) :
 ∃ a vs ns,vals=[bI a]/\args=[WData.list (ns.map WData.int)]/\h.get? a=some { cls:=.type "list",data:=.seq vs.toArray }/\fy vs ns/\ns.length<=n:=by
 have hsh:WShape.hasAll [] args [.list .int]=true:=(pre_splitW hpre).1
 have hc:l.pre.holds [] { args:=args }=true:=(pre_splitW hpre).2
 obtain ⟨d,r,rfl,h1,h2⟩:=hasAllW_cons hsh
 obtain rfl:=hasAllW_nil h2
 obtain ⟨xs,rfl,h3⟩:=hasW_list h1
 obtain ⟨ns,rfl⟩:=items_int h3
 have hlen:ns.length<=n:=by
  unfold OpenLaw.pre at hc
  have h4:(WTm.not (.lt (.lit (.int (n:Int))) (.len (.arg 0)))).holds [] { args:=[.list (ns.map .int)] }=true:=by
   have h4:=(holds_andW hc).1
   rw [hn] at h4
   exact h4
  have h5:=condW_of h4 (w_not (w_lt w_lit (w_len_list (w_arg rfl))))
  rw [af] at h5
  refine Nat.le_of_not_lt fun q=>?_
  have q':(n:Int)<((ns.length:Nat):Int):=by lia
  first
   | (rw [decide_eq_true q'] at h5;exact absurd h5 (by decide))
   | (simp at h5;lia)
 cases hwl with
 | cons w1 w2 =>
   cases w2
   cases w1 with
   | list ho hall=>exact ⟨_,_,ns,rfl,rfl,ho,nT ns _ hall,hlen⟩
theorem yB (l:OpenLaw) (args:List WData):l.row.toRowW.claim.post args (.bool true) args=true :=
 postW_of (r:=l.row.toRowW) (X:=(true == true))
  (show WShape.has [] (.bool true) .bool=true by first | rfl | decide | simp [WShape.has,WShape.arms,WShape.armsAll])
  (show (WTm.eq .res (.lit (.bool true))).value [] { args:=args,res:=some (.bool true),after:=args }=some (.bool (true == true)) from w_eq_bool (w_res rfl) w_lit) rfl
theorem attach_call {l:OpenLaw} {n:Nat} {q:bh} {loose:List bv} {XP:(bv->Option ag)->b9->Prop} {YP:bT->b9->Prop} {d:DefRec}
 (hn:l.most=some n) (hdf:d.params.defaults=[])
 (call:∀ (w:bT) (s₀ s₁:ai) (mg mb:bv->Option ag) (fa:au) (o:cX) (pm cd doc:ag) (a:au) (vs:List ag) (ns:List Int),
   Ground q loose [] XP w s₀ mg mb s₁.heap->YP w s₁.heap ->
   s₁.heap.get? fa=some o->o.data=.func (docDef d.name d.params d.body d.scope pm cd doc)->s₁.heap.CodeRec cd d.name->mg d.name=some (.ref fa) ->
   s₁.heap.get? a=some { cls:=.type "list",data:=.seq vs.toArray }->fy vs ns->ns.length<=n->s₁.gens = #[] ->
   kI (aZ l.prog w) oM (.call (.ref fa) ⟨[.ref a],[]⟩) (fun r s'=>r=.ok (.ret (.bool true))/\OldK s₁.heap s'.heap/\s'.os=s₁.os/\kH s'.gens) s₁) :
 WalkO q loose XP YP l.row.toRowW d [] (fun f vs=>wA f vs):=by
 intro w s₀ s₁ mg mb G Y fa o pm cd doc dV kV ho hd hcd hD hmg hg args vals as hpre hlay hrd hwl hlo
 obtain rfl:dV=.none:=Dflts.none hD hdf
 obtain rfl:kV=.none:=Dflts.noKw hD
 obtain ⟨a,vs,ns,rfl,rfl,hobj,hints,hlen⟩:=yH hn hpre hwl
 refine enter_call (oH (call w s₀ s₁ mg mb fa o pm cd doc a vs ns G Y ho (fd_plain hd) hcd hmg hobj hints hlen hg) fun r s' hq=>?_)
 obtain ⟨rfl,h2,h3,h4⟩:=hq
 exact ⟨.inl ⟨.bool true,.bool true,[],rfl,fun _=>rfl,.bool true,yB l _,fun _=>⟨o9,fun _ hm=>(nomatch hm)⟩⟩,h2,h3,h4⟩
end Att
namespace L2
open PySem PySem.Spec PyProof.Rows
theorem so:∀ {vs:List ag} {ns:List Int},fy vs ns->dJ (ns.map V.int) vs
 | _,_,.nil=>.nil
 | _,_,.cons n t h=>.cons ⟨t,rfl⟩ (so h)
end L2
namespace L2
open PySem PySem.Spec PyProof.Rows
noncomputable def iu (s:cq):ip:=match s with
 | .FunctionDef _ a _ _ _ _ _ _ _ _=>a
 | _=>{ posonlyargs:=[],args:=[],vararg:=none,kwonlyargs:=[],kw_defaults:=[],kwarg:=none,defaults:=[] }
noncomputable def dZ (s:cq):List cq:=match s with
 | .FunctionDef _ _ b _ _ _ _ _ _ _=>b
 | _=>[]
noncomputable def bn (s:cq):dG:=match s with
 | .FunctionDef _ _ _ _ _ _ sc _ _ _=>sc
 | _=>{ kind:=.function,names:=[],isGenerator:=false,isCoroutine:=false }
noncomputable abbrev CX0:CXT:=fun _ _ _ _ _ _=>False
noncomputable abbrev E0:XK:=fun _ _ _=>False
theorem CO {X:Cx}:yp CX0 X E0:=fun _ _ _ _ _ _ _ h=>h.elim
structure Fun (K:ae) (x qual:bv) (st:cq) (f:au) (fd:cJ):Prop where
 ex:∃ (oc:ag) (od:Option au) (kV doc pm:ag) (an:Option au) (cdv ct:ag) (osl:Array (Option ag)),
  fd=cW x qual (iu st) (dZ st) (bn st) .none kV doc pm an cdv ct/\K.lookup f=some ⟨oc,od,.func fd,osl⟩/\iq K cdv qual=true
 kp:eI K (.ref f)=true
section
variable {P:bh} {w:bT} {K:ae} {mg:bv->Option ag} {base:b9}
theorem Fun.ok {x qual:bv} {st:cq} {f:au} {fd:cJ} {N ps:List bv} {k:Nat} {sp:Sp} (F:Fun K x qual st f fd) (S:fX N ps (bn st)) (len:∀ vs H Q E,sp vs H Q E->vs.length=ps.length)
 (hbody:∀ (cdv:ag) (A:bE) (outer:List m8) (s:ai) (H:Hp) (vs:List V) (Q:VK) (E:XK),iz k (A.deeper (dR qual (bn st) s.heap.objs.size f cdv))->sp vs H Q E ->
   ∃ t,PSs (rV CX0 P w K mg base N qual (bn st) f cdv A outer s H E).nox (dZ st) t/\t { nx:=fun _ H'=>Q .non H',rt:=Q } (start N vs) H):rH P w K mg base CX0 (k+1) f fd ps sp:=by
 obtain ⟨oc,od,kV,doc,pm,an,cdv,ct,osl,rfl,lk,hcd⟩:=F.ex
 refine F6 lk hcd S len fun A outer s H vs Q E hr hsp=>?_
 obtain ⟨t,h,q⟩:=hbody cdv A outer s H vs Q E hr hsp
 exact ⟨t,h.nox,q⟩
theorem Fun.binds {x qual:bv} {st:cq} {f:au} {fd:cJ} {ps:List bv} (F:Fun K x qual st f fd)
 (h:∀ (kV doc pm:ag) (an:Option au) (cdv ct:ag) (us:List ag),us.length=ps.length->iD (cW x qual (iu st) (dZ st) (bn st) .none kV doc pm an cdv ct) ⟨us,[]⟩=pure (ps.zip us)):o5 K fd ps []:=by
 obtain ⟨oc,od,kV,doc,pm,an,cdv,ct,osl,rfl,lk,hcd⟩:=F.ex
 exact .all (h kV doc pm an cdv ct)
theorem zp {x qual:bv} {st:cq} {f:au} {oc:ag} {od an:Option au} {osl:Array (Option ag)} {kV doc pm cdv ct:ag} (l:K.lookup f=some ⟨oc,od,.func (cW x qual (iu st) (dZ st) (bn st) .none kV doc pm an cdv ct),osl⟩)
 (c:iq K cdv qual=true) (k:eI K (.ref f)=true):Fun K x qual st f (cW x qual (iu st) (dZ st) (bn st) .none kV doc pm an cdv ct):=⟨⟨oc,od,kV,doc,pm,an,cdv,ct,osl,rfl,l,c⟩,k⟩
end
theorem oT {A:bE} {k:Nat} (hr:iz k A):A.units+1<cg:=Nat.lt_of_le_of_lt (Nat.add_le_add_left (by decide:1<=64) _) hr.units
section
variable {X:Cx}
theorem pv (i:Nat) {x:bv} {pos:d4} (hN:X.N[i]?=some x:=by rfl) (hv:Vis X.env.scope x:=by first | exact cR rfl | exact cL (cR rfl) | exact cL (cL rfl)) (hd:(x == ("__debug__" : bv))=false:=by decide)
 (hcd:(x == ("__classdict__" : bv))=false:=by decide):PE X (.Name x pos) (jB i):=sO hN hv hd hcd
end
theorem Gb {A B:Prop} (h:B):if false=true then A else B:=by
 rw [if_neg aM]
 exact h
theorem FH {A B:Prop} (h:A):if true=true then A else B:=by
 rw [if_pos rfl]
 exact h
noncomputable def cG (H H':Hp):Prop:=∀ b o,H b=some o->H' b=some o
theorem cG.refl (H:Hp):cG H H:=fun _ _ h=>h
theorem cG.trans {H H1 H2:Hp} (a:cG H H1) (b:cG H1 H2):cG H H2:=fun c o h=>b c o (a c o h)
theorem cG.free {H H':Hp} (e:cG H H') {l:au} (h:H' l=Option.none):H l=Option.none:=by
 cases q:H l with
 | none=>rfl
 | some o =>
   rw [e l o q] at h
   cases h
theorem cG.seq {K:ae} {H H':Hp} {a:au} {xs:List V} (e:cG H H') (h:SqL K H a xs):SqL K H' a xs:=by
 rcases h with (h | ⟨o,h⟩) | h
 ·exact .inl (.inl (e _ _ h))
 ·exact .inl (.inr ⟨o,e _ _ h⟩)
 ·exact .inr h
end L2
namespace Ry
open PySem PySem.W PyProof.Rows
variable (O:eZ) (key:Nat->O.α) (n:Nat)
noncomputable def eE {α:Type}:KasT α->(α->Prop)->Prop
 | .ret a,Q=>Q a
 | .ask i j k,Q=>i<n/\j<n/\eE (k (O.blt (key i) (key j))) Q
variable {O key n}
theorem eE.mono {α:Type} {Q Q':α->Prop} (h:∀ a,Q a->Q' a):∀ {t:KasT α},eE O key n t Q->eE O key n t Q'
 | .ret a,q=>h a q
 | .ask i j k,q=>⟨q.1,q.2.1,eE.mono h q.2.2⟩
theorem eE.bind {α β:Type} {f:α->KasT β} {Q:β->Prop}:∀ {t:KasT α},eE O key n t (fun a=>eE O key n (f a) Q)->eE O key n (t.bind f) Q
 | .ret _,q=>q
 | .ask i j k,q=>⟨q.1,q.2.1,eE.bind q.2.2⟩
theorem eE.wp {α:Type} {cmp:Nat->Nat->(Bool->ai->Prop)->ai->Prop} {s:ai} (hc:∀ i j (C:Bool->ai->Prop),i<n->j<n->C (O.blt (key i) (key j)) s->cmp i j C s) {Q:α->ai->Prop} :
 ∀ {t:KasT α},eE O key n t (fun a=>Q a s)->t.kasWp cmp Q s
 | .ret _,q=>q
 | .ask i j k,q=>hc i j _ q.1 q.2.1 (eE.wp hc (t:=k (O.blt (key i) (key j))) q.2.2)
noncomputable abbrev KN (O:eZ) (key:Nat->O.α) (p:Array Nat) (i:Nat):O.α:=key (p.getD i 0)
structure fN (n:Nat) (p:Array Nat):Prop where
 perm:p.Perm (bG n).toArray
theorem fN.size {p:Array Nat} (h:fN n p):p.size=n:=by
 have:=h.perm.size_eq
 simpa using this
theorem fN.lt {p:Array Nat} (h:fN n p) {i:Nat} (hi:i<n):p.getD i 0<n:=by
 have hs:i<p.size:=by rw [h.size];exact hi
 have e:p.getD i 0=p[i]:=by simp [Array.getD,hs]
 rw [e]
 have hm:p[i]∈(bG n).toArray.toList:=(cB.mp h.perm).mem_iff.mp (by simp)
 simpa using hm
theorem i6 {p q:Array Nat} {i j:Nat} (h:p[i]?=q[j]?):p.getD i 0=q.getD j 0:=by
 rw [ox,ox,h]
theorem sS {xs:Array Nat} {src d:Nat} (hs:src<xs.size) (hd:d<=src) (k:Nat) :
 KN O key (bubble xs src d) k=if k=src-d then KN O key xs src else if src-d<k/\k<=src then KN O key xs (k-1) else KN O key xs k:=by
 have e:=getElem?_bubble hs d hd k
 unfold KN
 by_cases h1:k=src-d
 ·rw [if_pos h1] at e ⊢;rw [i6 e]
 ·rw [if_neg h1] at e ⊢
  by_cases h2:src-d<k/\k<=src
  ·rw [if_pos h2] at e ⊢;rw [i6 e]
  ·rw [if_neg h2] at e ⊢;rw [i6 e]
theorem zr {xs:Array Nat} {i j:Nat} (hj:j<=xs.size) (k:Nat):KN O key (kas_rev xs i j) k=if i<=k/\k<j then KN O key xs (i+j-1-k) else KN O key xs k:=by
 have e:=getElem?_mirror_all (i:=i) hj k
 unfold KN kas_rev
 by_cases h1:i<=k/\k<j
 ·rw [if_pos h1] at e ⊢;rw [i6 e]
 ·rw [if_neg h1] at e ⊢;rw [i6 e]
theorem hU {xs:Array Nat} {i j:Nat} (hj:j<=xs.size) (heq:∀ k,i<=k->k<j->KN O key xs k=KN O key xs (j-1)) (k:Nat):KN O key (kas_rev xs i j) k=KN O key xs k:=by
 rw [zr hj]
 split
 ·rw [heq _ (by lia) (by lia),heq k (by lia) (by lia)]
 ·rfl
theorem fN.rev {p:Array Nat} (h:fN n p) (i j:Nat):fN n (kas_rev p i j):=⟨(mirror_perm _ _ _ _).trans h.perm⟩
theorem fN.bub {p:Array Nat} (h:fN n p) (i j:Nat):fN n (bubble p i j):=⟨(bubble_perm _ _ _).trans h.perm⟩
noncomputable def qk (O:eZ) (key:Nat->O.α) (p:Array Nat) (k:Nat):Prop:=∀ i j,i<=j->j<k->O.kle (KN O key p i) (KN O key p j)
noncomputable def sD (O:eZ) (key:Nat->O.α) (p:Array Nat) (k:Nat):Prop:=∀ i j,i<=j->j<k->O.kle (KN O key p j) (KN O key p i)
theorem zA {p:Array Nat} (hp:fN n p) {Q:Nat->Prop}:∀ (f a:Nat),1<=a->a+f=n->qk O key p a ->
 (∀ m,a<=m->m<=n->qk O key p m->(m=n\/O.klt (KN O key p m) (KN O key p (m-1)))->Q m)->eE O key n (kas_asc p f a) Q
 | 0,a,_,hf,hs,h=>h a (az _) (by lia) hs (.inl (by lia))
 | f+1,a,h1,hf,hs,h=>by
   refine ⟨hp.lt (by lia),hp.lt (by lia),?_⟩
   show eE O key n (if O.blt (KN O key p a) (KN O key p (a-1))=true then _ else _) Q
   cases hless:O.blt (KN O key p a) (KN O key p (a-1)) with
   | true=>rw [if_pos rfl];exact h a (az _) (by lia) hs (.inr hless)
   | false =>
     rw [if_neg aM]
     refine zA hp f (a+1) (by lia) (by lia) (fun i j hij hj=>?_) fun m h2 h3 h4 h5=>h m (by lia) h3 h4 h5
     by_cases hjx:j<a
     ·exact hs i j hij hjx
     ·have hj':j=a:=by lia
      subst hj'
      by_cases hi':i=j
      ·subst hi';exact dt _
      ·exact g4 (hs i (j-1) (by lia) (by lia)) hless
theorem vQ {p:Array Nat} {m:Nat} (hp:fN n p) {Q:Nat×Array Nat->Prop} (h1:1<=m) (hm:m<=n) (hs:sD O key p m)
 (h:∀ k p',fN n p'->1<=k->k<=n->qk O key p' k->Q (k,p')):eE O key n (kas_tail3 m n p) Q:=by
 unfold kas_tail3
 have hz:m<=p.size:=by rw [hp.size];exact hm
 refine eE.bind (zA (hp.rev 0 m) (n-m) m h1 (by lia) (fun i j hij hj=>?_) fun k h2 h3 h4 _=>h k _ (hp.rev 0 m) (by lia) h3 h4)
 rw [zr hz,zr hz,if_pos (by lia),if_pos (by lia)]
 exact hs _ _ (by lia) (by lia)
theorem qc {Q:Array Nat×Nat×Nat->Prop}:∀ (f:Nat) (p:Array Nat) (a q:Nat),fN n p->1<=a->a+f=n->sD O key p a->q+1<=a ->
 (∀ i,a-(q+1)<=i->i<a->KN O key p i=KN O key p (a-1)) ->
 (∀ p' m q',fN n p'->a<=m->m<=n->sD O key p' m->q'+1<=m->(∀ i,m-(q'+1)<=i->i<m->KN O key p' i=KN O key p' (m-1))->Q (p',m,q'))->eE O key n (kas_desc f p a q) Q
 | 0,p,a,q,hp,_,hf,hs,hq,he,h=>h p a q hp (az _) (by lia) hs hq he
 | f+1,p,a,q,hp,h1,hf,hs,hq,he,h=>by
   have hz:a<=p.size:=by rw [hp.size];lia
   refine ⟨hp.lt (by lia),hp.lt (by lia),?_⟩
   show eE O key n (if O.blt (KN O key p a) (KN O key p (a-1))=true then _ else _) Q
   cases hless:O.blt (KN O key p a) (KN O key p (a-1)) with
   | true =>
     rw [if_pos rfl]
     have step1:∀ xs:Array Nat,(∀ k,KN O key xs k=KN O key p k)->sD O key xs (a+1):=by
      intro xs hk i j hij hj
      rw [hk,hk]
      by_cases hjx:j<a
      ·exact hs i j hij hjx
      ·have hj':j=a:=by lia
       subst hj'
       by_cases hi':i=j
       ·subst hi';exact dt _
       ·exact g4 (gM hless) (hs i (j-1) (by lia) (by lia))
     by_cases hneq:q > 0
     ·rw [if_pos hneq]
      exact qc f _ (a+1) 0 (hp.rev _ _) (by lia) (by lia) (step1 _ (hU hz he)) (by lia) (fun i h1 h2=>by congr 1;congr 1;lia) fun p' m q' a1 a2 a3 a4 a5 a6=>h p' m q' a1 (by lia) a3 a4 a5 a6
     ·rw [if_neg hneq]
      exact qc f _ (a+1) 0 hp (by lia) (by lia) (step1 _ fun _=>rfl) (by lia) (fun i h1 h2=>by congr 1;congr 1;lia) fun p' m q' a1 a2 a3 a4 a5 a6=>h p' m q' a1 (by lia) a3 a4 a5 a6
   | false =>
     rw [if_neg aM]
     refine ⟨hp.lt (by lia),hp.lt (by lia),?_⟩
     show eE O key n (if O.blt (KN O key p (a-1)) (KN O key p a)=true then _ else _) Q
     cases hlarger:O.blt (KN O key p (a-1)) (KN O key p a) with
     | true=>rw [if_pos rfl];exact h p a q hp (az _) (by lia) hs hq he
     | false =>
       rw [if_neg aM]
       have heqx:KN O key p a=KN O key p (a-1):=kx hlarger hless
       refine qc f p (a+1) (q+1) hp (by lia) (by lia) (fun i j hij hj=>?_) (by lia) (fun i h1 h2=>?_) fun p' m q' a1 a2 a3 a4 a5 a6=>h p' m q' a1 (by lia) a3 a4 a5 a6
       ·by_cases hjx:j<a
        ·exact hs i j hij hjx
        ·have hj':j=a:=by lia
         subst hj'
         by_cases hi':i=j
         ·subst hi';exact dt _
         ·rw [heqx];exact hs i (j-1) (by lia) (by lia)
       ·rw [show a+1-1=a by lia]
        by_cases hix:i=a
        ·subst hix;rfl
        ·rw [heqx];exact he i (by lia) (by lia)
theorem nO {p:Array Nat} {m:Nat} (hp:fN n p) {Q:Nat×Array Nat->Prop} (hm:m+1<=n) (hs:sD O key p (m+1))
 (h:∀ k p',fN n p'->1<=k->k<=n->qk O key p' k->Q (k,p')):eE O key n (kas_descPart m n p) Q:=by
 unfold kas_descPart
 refine eE.bind (qc (n-(m+1)) p (m+1) 0 hp (by lia) (by lia) hs (by lia) (fun i h1 h2=>by congr 1;congr 1;lia) fun p' k q' a1 a2 a3 a4 a5 a6=>?_)
 have hz:k<=p'.size:=by rw [a1.size];exact a3
 by_cases hq:q' > 0
 ·rw [if_pos hq]
  refine vQ (m:=k) (a1.rev _ _) (by lia) a3 (fun i j hij hj=>?_) h
  rw [hU hz a6,hU hz a6]
  exact a4 i j hij hj
 ·rw [if_neg hq]
  exact vQ (m:=k) a1 (by lia) a3 a4 h
theorem Bj {p:Array Nat} (hp:fN n p) {Q:Nat×Array Nat->Prop} (h1:1<=n) (h:∀ k p',fN n p'->1<=k->k<=n->qk O key p' k->Q (k,p')):eE O key n (kas_count n p) Q:=by
 unfold kas_count
 refine eE.bind (zA hp (n-1) 1 (az _) (by lia) (fun i j hij hj=>by have:i=j:=(by lia);subst this;exact dt _) fun m hm1 hm2 hsm hor=>?_)
 by_cases hnn:m=n
 ·rw [if_pos (by simpa using hnn)];exact h m p hp hm1 hm2 hsm
 ·rw [if_neg (by simpa using hnn)]
  have hlt:O.klt (KN O key p m) (KN O key p (m-1)):=hor.resolve_left hnn
  have hz:m<=p.size:=by rw [hp.size];exact hm2
  by_cases hgt:m > 1
  ·rw [if_pos hgt]
   refine ⟨hp.lt (by lia),hp.lt (by lia),?_⟩
   show eE O key n (if O.blt (KN O key p 0) (KN O key p (m-1))=true then _ else _) Q
   cases hrose:O.blt (KN O key p 0) (KN O key p (m-1)) with
   | true=>rw [if_pos rfl];exact h m p hp hm1 hm2 hsm
   | false =>
     rw [if_neg aM]
     have hall:∀ k,0<=k->k<m->KN O key p k=KN O key p (m-1):=by
      intro k _ hk
      have a1:=hsm 0 k (by lia) hk
      have a2:=hsm k (m-1) (by lia) (by lia)
      have a3:O.kle (KN O key p (m-1)) (KN O key p 0):=hrose
      exact kx a2 (g4 a3 a1)
     refine nO (hp.rev 0 m) (by lia) (fun i j hij hj=>?_) h
     rw [hU hz hall,hU hz hall]
     by_cases hjm:j<m
     ·rw [hall i (by lia) (by lia),hall j (by lia) hjm];exact dt _
     ·have hj':j=m:=by lia
      subst hj'
      by_cases hi':i=j
      ·subst hi';exact dt _
      ·rw [hall i (by lia) (by lia)];exact gM hlt
  ·rw [if_neg hgt]
   have e1:m=1:=by lia
   subst e1
   refine nO hp (by lia) (fun i j hij hj=>?_) h
   by_cases hi':i=j
   ·subst hi';exact dt _
   ·have ei:i=0:=by lia
    have ej:j=1:=by lia
    subst ei ej
    exact gM hlt
theorem rB {p:Array Nat} {k:Nat} (hp:fN n p) (hk:k<n) (hs:qk O key p k) {Q:Nat->Prop}:∀ (f l r:Nat),l<=r->r<=k->r-l<=f ->
 (∀ i,i<l->O.kle (KN O key p i) (KN O key p k))->(∀ i,r<=i->i<k->O.klt (KN O key p k) (KN O key p i)) ->
 (∀ l,l<=k->(∀ i,i<l->O.kle (KN O key p i) (KN O key p k))->(∀ i,l<=i->i<k->O.klt (KN O key p k) (KN O key p i))->Q l)->eE O key n (kas_place p k f l r) Q
 | 0,l,r,hlr,hrk,hf,hlo,hhi,h=>by
   have:l=r:=by lia
   subst this
   exact h l hrk hlo hhi
 | f+1,l,r,hlr,hrk,hf,hlo,hhi,h=>by
   unfold kas_place
   by_cases hge:l≥r
   ·rw [if_pos hge]
    have:l=r:=by lia
    subst this
    exact h l hrk hlo hhi
   ·rw [if_neg hge]
    refine ⟨hp.lt hk,hp.lt (by lia),?_⟩
    show eE O key n (if O.blt (KN O key p k) (KN O key p ((l+r) / 2))=true then _ else _) Q
    cases hless:O.blt (KN O key p k) (KN O key p ((l+r) / 2)) with
    | true =>
      rw [if_pos rfl]
      exact rB hp hk hs f l ((l+r) / 2) (by lia) (by lia) (by lia) hlo (fun i h1 h2=>KeyOrd.klt_of_klt_of_kle hless (hs _ _ h1 h2)) h
    | false =>
      rw [if_neg aM]
      exact rB hp hk hs f ((l+r) / 2+1) r (by lia) (by lia) (by lia) (fun i h1=>g4 (hs i ((l+r) / 2) (by lia) (by lia)) (show O.kle _ _ from hless)) hhi h
theorem DD {Q:Array Nat->Prop}:∀ (f:Nat) (p:Array Nat) (k:Nat),fN n p->k+f=n->qk O key p k->(∀ p',fN n p'->qk O key p' n->Q p')->eE O key n (kas_bin f p k) Q
 | 0,p,k,hp,hf,hs,h=>h p hp ((show k=n by lia)▸hs)
 | f+1,p,k,hp,hf,hs,h=>by
   unfold kas_bin
   refine eE.bind (rB hp (by lia) hs k 0 k (by lia) (az _) (by lia) (fun i hi=>by lia) (fun i h1 h2=>by lia) fun l hl hlo hhi=>?_)
   refine DD f _ (k+1) (hp.bub _ _) (by lia) (fun i j hij hj=>?_) h
   have hks:k<p.size:=by rw [hp.size];lia
   rw [sS hks (by lia),sS hks (by lia),show k-(k-l)=l by lia]
   repeat' split
   all_goals first
    | (exfalso;lia)
    | exact dt _
    | exact hlo _ (by lia)
    | exact gM (hhi _ (by lia) (by lia))
    | exact hs _ _ (by lia) (by lia)
theorem uO {Q:Array Nat->Prop} (h1:1<=n) (h:∀ p,fN n p->qk O key p n->Q p):eE O key n (kas_sort n) Q:=by
 unfold kas_sort
 refine eE.bind (Bj ⟨Array.Perm.refl _⟩ h1 fun k p hp a1 a2 a3=>?_)
 dsimp only
 by_cases hk:k<n
 ·rw [if_pos hk]
  rw [show max k 1=k by lia]
  exact DD (n-k) p k hp (by lia) a3 h
 ·rw [if_neg hk]
  have:k=n:=by lia
  subst this
  exact h p hp a3
end Ry
namespace Ry
open PySem PySem.W PyProof.Rows
noncomputable abbrev OkN {α:Type} (ts:List α):Prop:=ts.length<64\/(ts.length<=63/\ts.Nodup)
theorem OkN.inj {α:Type} {ts:List α} (h:OkN ts) (d:α):ts.length<64\/(ts.length<=63/\∀ i j,i<ts.length->j<ts.length->ts.getD i d=ts.getD j d->i=j) :=
 h.imp id fun ⟨h1,h2⟩=>⟨h1,fun i j hi hj e=>by
  rw [aB,aj hi,aB,aj hj] at e
  exact (hV h2).mp e⟩
section
variable {prog:bh} {w:bT} {A:bE} {E:ag->ai->Prop} {s:ai} {O:eZ} {κ:ib} {key:Nat->O.α} {ks vs:List ag}
theorem wt (hl:ks.length=vs.length) (h2:2<=vs.length) (h64:vs.length<64\/(vs.length<=63/\∀ i j,i<vs.length->j<vs.length->key i=key j->i=j))
 (lt:∀ i j (C:Bool->ai->Prop),i<vs.length->j<vs.length->C (O.blt (key i) (key j)) s->kas_ask prog w A κ ks i j C s) :
 aN (aZ prog w) A ((sortRuns').run (oy κ (ks.toArray.zip vs.toArray) #[] 7 none)) (fun r s'=>s'=s/\∃ p:Array Nat,Bb r.2=p.map (kas_item (ks.toArray.zip vs.toArray))/\t7 r.2=none/\fN vs.length p/\qk O key p vs.length) E s:=by
 by_cases hs:vs.length<64
 ·exact kat_run (Q:=fun st' s'=>s'=s/\∃ p:Array Nat,Bb st'=p.map (kas_item (ks.toArray.zip vs.toArray))/\t7 st'=none/\fN vs.length p/\qk O key p vs.length) hl h2 hs
   (G:=fun p s'=>s'=s/\fN vs.length p/\qk O key p vs.length) (fun p st' s' _ a b c=>⟨c.1,p,a,b,c.2⟩) (eE.wp (O:=O) (key:=key) (n:=vs.length) lt (uO (by lia) fun p hp hu=>⟨rfl,hp,hu⟩))
 ·have:=h64.resolve_left hs
  lia
end
end Ry
namespace Ry
open PySem PySem.Spec PyProof.Rows L2
noncomputable abbrev St:=L2.St
inductive Da where
 | non | bl (b:Bool) | int (i:Int) | str (x:bv) | tup (ds:List Da) | lst (ds:List Da) | dK (ks:List Key) (ds:List Da) | dT (ks:List (List Key)) (ds:List Da)
mutual
noncomputable def Den (K:ae) (G:Hp):Da->V->Prop
 | .non,v=>v=.non
 | .bl b,v=>v=.bl b
 | .int i,v=>v=.int i
 | .str x,v=>v=.str x
 | .tup ds,v=>∃ a xs,v=.ref a/\G a=some (.tup xs)/\cD K G ds xs
 | .lst ds,v=>∃ a xs,v=.ref a/\SqL K G a xs/\cD K G ds xs
 | .dK ks ds,v=>∃ a o kvs,v=.ref a/\G a=some (.frz o (.dK kvs))/\kvs.map (·.1)=ks/\cD K G ds (kvs.map (·.2))
 | .dT ks ds,v=>∃ a o kvs,v=.ref a/\G a=some (.frz o (.dT kvs))/\kvs.map (·.1)=ks/\cD K G ds (kvs.map (·.2))
noncomputable def cD (K:ae) (G:Hp):List Da->List V->Prop
 | [],xs=>xs=[]
 | d::ds,xs=>∃ x r,xs=x::r/\Den K G d x/\cD K G ds r
end
mutual
theorem Den.mono {K:ae} {G G':Hp} (e:cG G G'):∀ (d:Da) {v:V},Den K G d v->Den K G' d v
 | .non,_,h=>h
 | .bl _,_,h=>h
 | .int _,_,h=>h
 | .str _,_,h=>h
 | .tup ds,_,h=>by obtain ⟨a,xs,rfl,q,r⟩:=h;exact ⟨a,xs,rfl,e _ _ q,cD.mono e ds r⟩
 | .lst ds,_,h=>by obtain ⟨a,xs,rfl,q,r⟩:=h;exact ⟨a,xs,rfl,e.seq q,cD.mono e ds r⟩
 | .dK ks ds,_,h=>by obtain ⟨a,o,kvs,rfl,q,k,r⟩:=h;exact ⟨a,o,kvs,rfl,e _ _ q,k,cD.mono e ds r⟩
 | .dT ks ds,_,h=>by obtain ⟨a,o,kvs,rfl,q,k,r⟩:=h;exact ⟨a,o,kvs,rfl,e _ _ q,k,cD.mono e ds r⟩
theorem cD.mono {K:ae} {G G':Hp} (e:cG G G'):∀ (ds:List Da) {xs:List V},cD K G ds xs->cD K G' ds xs
 | [],_,h=>h
 | d::ds,_,h=>by obtain ⟨x,r,rfl,h1,h2⟩:=h;exact ⟨x,r,rfl,Den.mono e d h1,cD.mono e ds h2⟩
end
section
variable {K:ae} {G:Hp}
theorem cD.length:∀ {ds:List Da} {xs:List V},cD K G ds xs->xs.length=ds.length
 | [],_,h=>by cases (show _=_ from h);rfl
 | d::ds,_,h=>by obtain ⟨x,r,rfl,_,h2⟩:=h;rw [aJ,aJ,cD.length h2]
theorem cD.get:∀ {ds:List Da} {xs:List V} {i:Nat} {d:Da},cD K G ds xs->ds[i]?=some d->∃ x,xs[i]?=some x/\Den K G d x
 | [],_,_,_,_,e=>by simp at e
 | d::ds,_,0,_,h,e=>by obtain ⟨x,r,rfl,h1,_⟩:=h;simp at e;subst e;exact ⟨x,rfl,h1⟩
 | d::ds,_,i+1,_,h,e=>by obtain ⟨x,r,rfl,_,h2⟩:=h;simpa using cD.get (i:=i) h2 (by simpa using e)
theorem cD.of_get:∀ {ds:List Da} {xs:List V} {i:Nat} {x:V},cD K G ds xs->xs[i]?=some x->∃ d,ds[i]?=some d/\Den K G d x
 | [],_,_,_,h,e=>by cases (show _=_ from h);simp at e
 | d::ds,_,0,_,h,e=>by obtain ⟨x,r,rfl,h1,_⟩:=h;simp at e;subst e;exact ⟨d,rfl,h1⟩
 | d::ds,_,i+1,_,h,e=>by obtain ⟨x,r,rfl,_,h2⟩:=h;simpa using cD.of_get (i:=i) h2 (by simpa using e)
theorem cD.append:∀ {ds es:List Da} {xs ys:List V},cD K G ds xs->cD K G es ys->cD K G (ds++es) (xs++ys)
 | [],_,_,_,h,h'=>by cases (show _=_ from h);exact h'
 | d::ds,_,_,_,h,h'=>by obtain ⟨x,r,rfl,h1,h2⟩:=h;exact ⟨x,_,rfl,h1,cD.append h2 h'⟩
theorem cD.one {d:Da} {x:V} (h:Den K G d x):cD K G [d] [x]:=⟨x,[],rfl,h,rfl⟩
theorem cD.two {d e:Da} {x y:V} (h:Den K G d x) (h':Den K G e y):cD K G [d,e] [x,y]:=⟨x,[y],rfl,h,cD.one h'⟩
theorem cD.drop:∀ {ds:List Da} {xs:List V} (n:Nat),cD K G ds xs->cD K G (ds.drop n) (xs.drop n)
 | _,_,0,h=>h
 | [],_,_+1,h=>by cases (show _=_ from h);rfl
 | d::ds,_,n+1,h=>by obtain ⟨x,r,rfl,_,h2⟩:=h;exact cD.drop n h2
theorem cD.take:∀ {ds:List Da} {xs:List V} (n:Nat),cD K G ds xs->cD K G (ds.take n) (xs.take n)
 | _,_,0,_=>rfl
 | [],_,_+1,h=>by cases (show _=_ from h);rfl
 | d::ds,_,n+1,h=>by obtain ⟨x,r,rfl,h1,h2⟩:=h;exact ⟨x,_,rfl,h1,cD.take n h2⟩
theorem cD.ints:∀ {ns:List Int} {xs:List V},cD K G (ns.map Da.int) xs↔xs=ns.map V.int
 | [],_=>Iff.rfl
 | n::ns,xs=>by
   constructor
   ·rintro ⟨x,r,rfl,h1,h2⟩
    cases (show _=_ from h1)
    rw [cD.ints.mp h2];rfl
   ·intro e
    subst e
    exact ⟨_,_,rfl,rfl,cD.ints.mpr rfl⟩
end
inductive Kd where
 | pu | bo | fr
 deriving DecidableEq
noncomputable abbrev Rv:=Kd×Da
noncomputable def Holds (K:ae) (G:Hp):Da->HO->Prop
 | .lst ds,o=>∃ xs,o=.lst xs/\cD K G ds xs
 | .dK ks ds,o=>∃ kvs,o=.dK kvs/\kvs.map (·.1)=ks/\cD K G ds (kvs.map (·.2))
 | .dT ks ds,o=>∃ kvs,o=.dT kvs/\kvs.map (·.1)=ks/\cD K G ds (kvs.map (·.2))
 | _,_=>False
theorem Holds.mono {K:ae} {G G':Hp} (e:cG G G') {d:Da} {o:HO} (h:Holds K G d o):Holds K G' d o:=by
 cases d with
 | lst ds=>obtain ⟨xs,rfl,r⟩:=h;exact ⟨xs,rfl,cD.mono e ds r⟩
 | dK ks ds=>obtain ⟨kvs,rfl,k,r⟩:=h;exact ⟨kvs,rfl,k,cD.mono e ds r⟩
 | dT ks ds=>obtain ⟨kvs,rfl,k,r⟩:=h;exact ⟨kvs,rfl,k,cD.mono e ds r⟩
 | _=>exact b0 h
noncomputable def mS:Da->Bool
 | .dK _ _=>true
 | .dT _ _=>true
 | _=>false
theorem Holds.den {K:ae} {G:Hp} {d:Da} {o:HO} {l:au} (e:G l=some o) (h:Holds K G d o) (nd:mS d=false):Den K G d (.ref l):=by
 cases d with
 | lst ds=>obtain ⟨xs,rfl,r⟩:=h;exact ⟨l,xs,rfl,SqL.of e,r⟩
 | dK ks ds=>cases nd
 | dT ks ds=>cases nd
 | _=>exact b0 h
noncomputable def eG:Kd×Da->Bool
 | (.pu,_)=>true
 | (.bo,_)=>false
 | (.fr,d)=>!mS d
noncomputable def isT:HO->Bool
 | .tup _=>true
 | _=>false
theorem Holds.nt {K:ae} {G:Hp} {d:Da} {o:HO} (h:Holds K G d o):isT o=false:=by
 cases d with
 | lst ds=>obtain ⟨xs,rfl,_⟩:=h;rfl
 | dK ks ds=>obtain ⟨xs,rfl,_⟩:=h;rfl
 | dT ks ds=>obtain ⟨xs,rfl,_⟩:=h;rfl
 | _=>exact b0 h
structure Ext (G H G' H':Hp):Prop where
 hh:cG H H'
 gg:cG G G'
 gh:cG G' H'
 nw:∀ b o,H b=some o->isT o=false->G b=none->G' b=none
theorem Ext.refl {G H:Hp} (h:cG G H):Ext G H G H:=⟨cG.refl _,cG.refl _,h,fun _ _ _ _ n=>n⟩
theorem Ext.trans {G H G1 H1 G2 H2:Hp} (a:Ext G H G1 H1) (b:Ext G1 H1 G2 H2):Ext G H G2 H2 :=
 ⟨a.hh.trans b.hh,a.gg.trans b.gg,b.gh,fun c o e t n=>b.nw c o (a.hh c o e) t (a.nw c o e t n)⟩
theorem cj {G:Hp} {l:au} {o:HO} (h:G l=none):cG G (upd G l o):=fun b u e=>by rw [a8 (bV e h)];exact e
theorem jZ {G H:Hp} {l:au} {o:HO} (h:cG G H):cG (upd G l o) (upd H l o):=fun b u e=>by
 by_cases hb:b=l
 ·subst hb;rw [aU] at e ⊢;exact e
 ·rw [a8 hb] at e ⊢;exact h b u e
theorem Ext.new {G H:Hp} {l:au} {o:HO} (h:cG G H) (n:H l=none):Ext G H (upd G l o) (upd H l o) :=
 ⟨cj n,cj (h.free n),jZ h,fun b u e _ g=>by rw [a8 (bV e n)];exact g⟩
theorem Ext.own {G H:Hp} {l:au} {o:HO} (h:cG G H) (n:H l=none):Ext G H G (upd H l o) :=
 ⟨cj n,cG.refl _,h.trans (cj n),fun _ _ _ _ g=>g⟩
noncomputable def gv (K:ae) (B H0 G H:Hp):Rv->V->Prop
 | (.pu,d),v=>Den K G d v
 | (.bo,d),v=>∃ l o,v=.ref l/\B l=none/\G l=none/\H l=some o/\Holds K G d o
 | (.fr,d),v=>∃ l o,v=.ref l/\H0 l=none/\G l=none/\H l=some o/\Holds K G d o
section
variable {K:ae} {B H0 H1 G H G' H':Hp} {r:Rv} {v:V}
theorem gv.ext (h:gv K B H0 G H r v) (e:Ext G H G' H'):gv K B H0 G' H' r v:=by
 obtain ⟨k,d⟩:=r
 cases k with
 | pu=>exact Den.mono e.gg d h
 | bo=>obtain ⟨l,o,rfl,b,g,q,r⟩:=h;exact ⟨l,o,rfl,b,e.nw _ _ q r.nt g,e.hh _ _ q,r.mono e.gg⟩
 | fr=>obtain ⟨l,o,rfl,n,g,q,r⟩:=h;exact ⟨l,o,rfl,n,e.nw _ _ q r.nt g,e.hh _ _ q,r.mono e.gg⟩
theorem gv.base (h:gv K B H1 G H r v) (e:cG H0 H1):gv K B H0 G H r v:=by
 obtain ⟨k,d⟩:=r
 cases k with
 | pu=>exact h
 | bo=>exact h
 | fr=>obtain ⟨l,o,rfl,n,g,q,r⟩:=h;exact ⟨l,o,rfl,e.free n,g,q,r⟩
theorem gv.den (s:cG G H) (h:gv K B H0 G H r v) (nd:mS r.2=false):Den K H r.2 v:=by
 obtain ⟨k,d⟩:=r
 cases k with
 | pu=>exact Den.mono s d h
 | bo=>obtain ⟨l,o,rfl,_,_,q,r⟩:=h;exact (r.mono s).den q nd
 | fr=>obtain ⟨l,o,rfl,_,_,q,r⟩:=h;exact (r.mono s).den q nd
theorem gv.pure {G0:Hp} (e:Ext G0 H0 G H) (h:gv K B H0 G H r v) (k:eG r=true):∃ G',Ext G0 H0 G' H/\cG G G'/\Den K G' r.2 v:=by
 obtain ⟨kd,d⟩:=r
 cases kd with
 | pu=>exact ⟨G,e,cG.refl _,h⟩
 | bo=>cases k
 | fr =>
   have nd:mS d=false:=by simpa [eG] using k
   obtain ⟨l,o,rfl,n,g,q,r⟩:=h
   refine ⟨upd G l o,⟨e.hh,e.gg.trans (cj g),fun b u z=>?_,fun b u z t w=>?_⟩,cj g,(r.mono (cj g)).den aU nd⟩
   ·by_cases hb:b=l
    ·subst hb;rw [aU] at z;rw [<- z];exact q
    ·rw [a8 hb] at z;exact e.gh b u z
   ·rw [a8 (bV z n)];exact e.nw b u z t w
theorem gv.pureB {G0:Hp} (sb:cG B H0) (e:Ext G0 B G H) (h:gv K B H0 G H r v) (nd:r.1=.pu\/mS r.2=false):∃ G',Ext G0 B G' H/\cG G G'/\Den K G' r.2 v:=by
 obtain ⟨kd,d⟩:=r
 have go:mS d=false->∀ (l:au) (o:HO),v=.ref l->B l=none->H l=some o->Holds K G d o->∃ G',Ext G0 B G' H/\cG G G'/\Den K G' d v:=fun nd l o ev n q r=>by
  subst ev
  cases g:G l with
  | some o' =>
    have:=e.gh l o' g
    rw [q] at this;cases this
    exact ⟨G,e,cG.refl _,r.den g nd⟩
  | none =>
    refine ⟨upd G l o,⟨e.hh,e.gg.trans (cj g),fun b u z=>?_,fun b u z t w=>?_⟩,cj g,(r.mono (cj g)).den aU nd⟩
    ·by_cases hb:b=l
     ·subst hb;rw [aU] at z;rw [<- z];exact q
     ·rw [a8 hb] at z;exact e.gh b u z
    ·rw [a8 (bV z n)];exact e.nw b u z t w
 cases kd with
 | pu=>exact ⟨G,e,cG.refl _,h⟩
 | bo=>obtain ⟨l,o,ev,n,_,q,r⟩:=h;exact go (nd.resolve_left (by intro z;cases z)) l o ev n q r
 | fr=>obtain ⟨l,o,ev,n,_,q,r⟩:=h;exact go (nd.resolve_left (by intro z;cases z)) l o ev (sb.free n) q r
theorem gv.non {k:Kd} (h:gv K B H0 G H (k,.non) v):v=.non:=by
 cases k with
 | pu=>exact h
 | bo=>obtain ⟨_,_,_,_,_,_,r⟩:=h;exact b0 r
 | fr=>obtain ⟨_,_,_,_,_,_,r⟩:=h;exact b0 r
theorem gv.bl {k:Kd} {b:Bool} (h:gv K B H0 G H (k,.bl b) v):v=.bl b:=by
 cases k with
 | pu=>exact h
 | bo=>obtain ⟨_,_,_,_,_,_,r⟩:=h;exact b0 r
 | fr=>obtain ⟨_,_,_,_,_,_,r⟩:=h;exact b0 r
theorem gv.int {k:Kd} {i:Int} (h:gv K B H0 G H (k,.int i) v):v=.int i:=by
 cases k with
 | pu=>exact h
 | bo=>obtain ⟨_,_,_,_,_,_,r⟩:=h;exact b0 r
 | fr=>obtain ⟨_,_,_,_,_,_,r⟩:=h;exact b0 r
theorem gv.str {k:Kd} {x:bv} (h:gv K B H0 G H (k,.str x) v):v=.str x:=by
 cases k with
 | pu=>exact h
 | bo=>obtain ⟨_,_,_,_,_,_,r⟩:=h;exact b0 r
 | fr=>obtain ⟨_,_,_,_,_,_,r⟩:=h;exact b0 r
theorem gv.tup {k:Kd} {ds:List Da} (s:cG G H) (h:gv K B H0 G H (k,.tup ds) v):∃ a xs,v=.ref a/\H a=some (.tup xs)/\cD K G ds xs/\G a=some (.tup xs):=by
 cases k with
 | pu=>obtain ⟨a,xs,rfl,q,r⟩:=h;exact ⟨a,xs,rfl,s _ _ q,r,q⟩
 | bo=>obtain ⟨_,_,_,_,_,_,r⟩:=h;exact b0 r
 | fr=>obtain ⟨_,_,_,_,_,_,r⟩:=h;exact b0 r
theorem gv.lst {k:Kd} {ds:List Da} (s:cG G H) (h:gv K B H0 G H (k,.lst ds) v):∃ a xs,v=.ref a/\SqL K H a xs/\cD K G ds xs:=by
 cases k with
 | pu=>obtain ⟨a,xs,rfl,q,r⟩:=h;exact ⟨a,xs,rfl,s.seq q,r⟩
 | bo=>obtain ⟨l,o,rfl,_,_,q,xs,rfl,r⟩:=h;exact ⟨l,xs,rfl,SqL.of q,r⟩
 | fr=>obtain ⟨l,o,rfl,_,_,q,xs,rfl,r⟩:=h;exact ⟨l,xs,rfl,SqL.of q,r⟩
theorem gv.dK {k:Kd} {ks:List Key} {ds:List Da} (s:cG G H) (h:gv K B H0 G H (k,.dK ks ds) v):∃ a kvs,v=.ref a/\Rd H a (.dK kvs)/\kvs.map (·.1)=ks/\cD K G ds (kvs.map (·.2)):=by
 cases k with
 | pu=>obtain ⟨a,o,kvs,rfl,q,e,r⟩:=h;exact ⟨a,kvs,rfl,.inr ⟨o,s _ _ q⟩,e,r⟩
 | bo=>obtain ⟨l,o,rfl,_,_,q,kvs,rfl,e,r⟩:=h;exact ⟨l,kvs,rfl,.inl q,e,r⟩
 | fr=>obtain ⟨l,o,rfl,_,_,q,kvs,rfl,e,r⟩:=h;exact ⟨l,kvs,rfl,.inl q,e,r⟩
theorem gv.dT {k:Kd} {ks:List (List Key)} {ds:List Da} (s:cG G H) (h:gv K B H0 G H (k,.dT ks ds) v):∃ a kvs,v=.ref a/\Rd H a (.dT kvs)/\kvs.map (·.1)=ks/\cD K G ds (kvs.map (·.2)):=by
 cases k with
 | pu=>obtain ⟨a,o,kvs,rfl,q,e,r⟩:=h;exact ⟨a,kvs,rfl,.inr ⟨o,s _ _ q⟩,e,r⟩
 | bo=>obtain ⟨l,o,rfl,_,_,q,kvs,rfl,e,r⟩:=h;exact ⟨l,kvs,rfl,.inl q,e,r⟩
 | fr=>obtain ⟨l,o,rfl,_,_,q,kvs,rfl,e,r⟩:=h;exact ⟨l,kvs,rfl,.inl q,e,r⟩
end
inductive Sl where
 | no | pu (d:Da) | ow (d:Da)
noncomputable abbrev Rho:=List Sl
noncomputable def Hr:List bv:=["upwards","heads","_law_turns"]
noncomputable def Ko (e:au×cX):Option (au×bv):=match e.2.data with
 | .fields vs=>(match (vs.toList[1]?:Option ag),(vs.toList[11]?:Option ag) with
   | some (.str q _),some (.ref P)=>if Hr.contains q then some (P,q++".<locals>."++"<lambda>") else none
   | _,_=>none)
 | _=>none
noncomputable def g7 (K:ae):List (au×bv):=K.filterMap Ko
noncomputable def Tbs (K:ae) (G:Hp):Prop:=∀ e∈g7 K,G e.1=some (.tab e.2)
theorem Tbs.mono {K:ae} {G G':Hp} (h:Tbs K G) (s:cG G G'):Tbs K G':=fun e he=>s _ _ (h e he)
structure hZ (K:ae) (B G H:Hp) (σ:St) (ρ:Rho):Prop where
 len:σ.length=ρ.length
 pu:∀ (i:Nat) (d:Da),ρ[i]?=some (.pu d)->∃ v,σ[i]?=some (some v)/\Den K G d v
 ow:∀ (i:Nat) (d:Da),ρ[i]?=some (.ow d)->∃ l o,σ[i]?=some (some (.ref l))/\B l=none/\G l=none/\H l=some o/\Holds K G d o
 ap:∀ (i j:Nat) (d d':Da) (l:au),i≠j->ρ[i]?=some (.ow d)->ρ[j]?=some (.ow d')->σ[i]?=some (some (.ref l))->σ[j]?=some (some (.ref l))->False
 tg:Tbs K G
section
variable {K:ae} {B G H G' H':Hp} {σ:St} {ρ:Rho}
theorem hZ.ext (h:hZ K B G H σ ρ) (e:Ext G H G' H'):hZ K B G' H' σ ρ :=
 ⟨h.len,fun i d q=>let ⟨v,a,b⟩:=h.pu i d q;⟨v,a,Den.mono e.gg d b⟩,fun i d q=>let ⟨l,o,a,b,c,f,g⟩:=h.ow i d q;⟨l,o,a,b,e.nw _ _ f g.nt c,e.hh _ _ f,g.mono e.gg⟩,h.ap,h.tg.mono e.gg⟩
theorem hZ.setPu {i:Nat} {d:Da} {v:V} (h:hZ K B G H σ ρ) (r:Den K G d v):hZ K B G H (σ.set i (some v)) (ρ.set i (.pu d)):=by
 refine ⟨by rw [bP,bP,h.len],fun j d' q=>?_,fun j d' q=>?_,fun j k d1 d2 l hjk q1 q2 s1 s2=>?_,h.tg⟩
 ·by_cases e:i=j
  ·subst e
   have hi:i<ρ.length:=by
    have:=(aF.mp q).1;rwa [bP] at this
   rw [aV hi] at q
   cases q
   exact ⟨v,aV (by rw [h.len];exact hi),r⟩
  ·rw [aX e] at q ⊢;exact h.pu j d' q
 ·by_cases e:i=j
  ·subst e
   have hi:i<ρ.length:=by
    have:=(aF.mp q).1;rwa [bP] at this
   rw [aV hi] at q
   cases q
  ·rw [aX e] at q ⊢;exact h.ow j d' q
 ·have nij:∀ m d',(ρ.set i (.pu d))[m]?=some (.ow d')->i≠m:=fun m d' q e=>by
   subst e
   have hi:i<ρ.length:=by
    have:=(aF.mp q).1;rwa [bP] at this
   rw [aV hi] at q;cases q
  have n1:=nij _ _ q1
  have n2:=nij _ _ q2
  rw [aX n1] at q1 s1
  rw [aX n2] at q2 s2
  exact h.ap j k d1 d2 l hjk q1 q2 s1 s2
theorem hZ.setOw {i:Nat} {d:Da} {l:au} {o:HO} (h:hZ K B G H σ ρ) (nb:B l=none) (ng:G l=none) (q:H l=some o) (r:Holds K G d o)
 (fresh:∀ (j:Nat) (d':Da),j≠i->ρ[j]?=some (.ow d')->σ[j]?≠some (some (.ref l))):hZ K B G H (σ.set i (some (.ref l))) (ρ.set i (.ow d)):=by
 refine ⟨by rw [bP,bP,h.len],fun j d' q=>?_,fun j d' q'=>?_,fun j k d1 d2 l' hjk q1 q2 s1 s2=>?_,h.tg⟩
 ·by_cases e:i=j
  ·subst e
   have hi:i<ρ.length:=by
    have:=(aF.mp q).1;rwa [bP] at this
   rw [aV hi] at q;cases q
  ·rw [aX e] at q ⊢;exact h.pu j d' q
 ·by_cases e:i=j
  ·subst e
   have hi:i<ρ.length:=by
    have:=(aF.mp q').1;rwa [bP] at this
   rw [aV hi] at q'
   cases q'
   exact ⟨l,o,aV (by rw [h.len];exact hi),nb,ng,q,r⟩
  ·rw [aX e] at q' ⊢;exact h.ow j d' q'
 ·by_cases e1:i=j
  ·subst e1
   have hi:i<ρ.length:=by
    have:=(aF.mp q1).1;rwa [bP] at this
   rw [aV (by rw [h.len];exact hi)] at s1
   cases s1
   rw [aX hjk] at q2 s2
   exact fresh k d2 (Ne.symm hjk) q2 s2
  ·by_cases e2:i=k
   ·subst e2
    have hi:i<ρ.length:=by
     have:=(aF.mp q2).1;rwa [bP] at this
    rw [aV (by rw [h.len];exact hi)] at s2
    cases s2
    rw [aX e1] at q1 s1
    exact fresh j d1 (Ne.symm e1) q1 s1
   ·rw [aX e1] at q1 s1
    rw [aX e2] at q2 s2
    exact h.ap j k d1 d2 l' hjk q1 q2 s1 s2
theorem hZ.mut {i:Nat} {d d':Da} {l:au} {o':HO} (h:hZ K B G H σ ρ) (e:ρ[i]?=some (.ow d)) (s:σ[i]?=some (some (.ref l))) (r:Holds K G d' o'):hZ K B G (upd H l o') σ (ρ.set i (.ow d')):=by
 have hi:i<ρ.length:=(aF.mp e).1
 refine ⟨by rw [bP,h.len],fun j d1 q=>?_,fun j d1 q=>?_,fun j k d1 d2 l' hjk q1 q2 s1 s2=>?_,h.tg⟩
 ·by_cases ej:i=j
  ·subst ej;rw [aV hi] at q;cases q
  ·rw [aX ej] at q;exact h.pu j d1 q
 ·by_cases ej:i=j
  ·subst ej
   rw [aV hi] at q;cases q
   obtain ⟨l0,o,a,b,c,f,g⟩:=h.ow i d e
   rw [s] at a;cases a
   exact ⟨l,o',s,b,c,aU,r⟩
  ·rw [aX ej] at q
   obtain ⟨l0,o,a,b,c,f,g⟩:=h.ow j d1 q
   refine ⟨l0,o,a,b,c,?_,g⟩
   have ne:l0≠l:=fun z=>by subst z;exact h.ap i j d d1 l0 ej e q s a
   rw [a8 ne];exact f
 ·have back:∀ (m:Nat) (d0:Da),(ρ.set i (.ow d'))[m]?=some (Sl.ow d0)->∃ d1,ρ[m]?=some (Sl.ow d1):=fun m d0 q=>by
   by_cases em:i=m
   ·subst em;exact ⟨d,e⟩
   ·rw [aX em] at q;exact ⟨d0,q⟩
  obtain ⟨x1,y1⟩:=back _ _ q1
  obtain ⟨x2,y2⟩:=back _ _ q2
  exact h.ap j k x1 x2 l' hjk y1 y2 s1 s2
theorem kf {G H:Hp} {l:au} {o:HO} (s:cG G H) (g:G l=none):cG G (upd H l o):=fun b u e=>by rw [a8 (bV e g)];exact s b u e
theorem Ext.mut {G0 B G H:Hp} {l:au} {o:HO} (e:Ext G0 B G H) (nb:B l=none) (ng:G l=none):Ext G0 B G (upd H l o) :=
 ⟨kf e.hh nb,e.gg,kf e.gh ng,e.nw⟩
noncomputable def frz (i:Nat) (ρ:Rho):Rho:=match ρ[i]? with
 | some (.ow (.lst ds))=>ρ.set i (.pu (.lst ds))
 | _=>ρ
theorem hZ.frz {G0:Hp} (i:Nat) (e:Ext G0 B G H) (h:hZ K B G H σ ρ):∃ G',Ext G0 B G' H/\cG G G'/\hZ K B G' H σ (Ry.frz i ρ):=by
 unfold Ry.frz
 split
 ·rename_i ds q
  obtain ⟨l,o,a,nb,ng,f,g⟩:=h.ow i (.lst ds) q
  have hi:i<ρ.length:=(aF.mp q).1
  have sG:cG G (upd G l o):=cj ng
  refine ⟨upd G l o,⟨e.hh,e.gg.trans sG,fun b u z=>?_,fun b u z t w=>by rw [a8 (bV z nb)];exact e.nw b u z t w⟩,sG,by rw [bP,h.len],fun j d1 q1=>?_,fun j d1 q1=>?_,fun j k d1 d2 l' hjk q1 q2 s1 s2=>?_,h.tg.mono sG⟩
  ·by_cases hb:b=l
   ·subst hb;rw [aU] at z;rw [<- z];exact f
   ·rw [a8 hb] at z;exact e.gh b u z
  ·by_cases ej:i=j
   ·subst ej
    rw [aV hi] at q1;cases q1
    exact ⟨_,a,(g.mono sG).den aU rfl⟩
   ·rw [aX ej] at q1
    obtain ⟨v,x,y⟩:=h.pu j d1 q1
    exact ⟨v,x,Den.mono sG d1 y⟩
  ·by_cases ej:i=j
   ·subst ej;rw [aV hi] at q1;cases q1
   ·rw [aX ej] at q1
    obtain ⟨l0,o0,x,y,z,f0,g0⟩:=h.ow j d1 q1
    refine ⟨l0,o0,x,y,?_,f0,g0.mono sG⟩
    have ne:l0≠l:=fun w=>by subst w;exact h.ap i j (.lst ds) d1 l0 ej q q1 a x
    rw [a8 ne];exact z
  ·have back:∀ (m:Nat) (d0:Da),(ρ.set i (.pu (.lst ds)))[m]?=some (Sl.ow d0)->ρ[m]?=some (Sl.ow d0):=fun m d0 q=>by
    by_cases em:i=m
    ·subst em;rw [aV hi] at q;cases q
    ·rw [aX em] at q;exact q
   exact h.ap j k d1 d2 l' hjk (back _ _ q1) (back _ _ q2) s1 s2
 ·exact ⟨G,e,cG.refl _,h⟩
end
noncomputable def tX (K:ae) (f:Rho->Option Rv):TE:=fun σ H Q=>∃ B G ρ r,cG G H/\cG B H/\hZ K B G H σ ρ/\f ρ=some r/\∀ v G' H',Ext G H G' H'->gv K B H G' H' r v->Q v H'
noncomputable abbrev PX (X:Cx) (e:aR) (f:Rho->Option Rv):Prop:=PE X e (tX X.K f)
noncomputable def tXT (K:ae) (f:Rho->Option Bool):TT:=fun σ H Q=>∃ B G ρ b,cG G H/\cG B H/\hZ K B G H σ ρ/\f ρ=some b/\∀ G' H',Ext G H G' H'->Q b H'
noncomputable abbrev PXT (X:Cx) (e:aR) (f:Rho->Option Bool):Prop:=PT X e (tXT X.K f)
noncomputable abbrev PXW (X:Cx) (e:aR) (f:Rho->Option Bool):Prop:=PW X e (tXT X.K f)
noncomputable def e7 (K:ae) (B H0 G H:Hp):List Rv->List V->Prop
 | [],vs=>vs=[]
 | r::rs,vs=>∃ v r',vs=v::r'/\gv K B H0 G H r v/\e7 K B H0 G H rs r'
noncomputable def tXA (K:ae) (f:Rho->Option (List Rv)):TA:=fun σ H Q=>∃ B G ρ rs,cG G H/\cG B H/\hZ K B G H σ ρ/\f ρ=some rs/\∀ vs G' H',Ext G H G' H'->e7 K B H G' H' rs vs->Q vs H'
noncomputable abbrev PXA (X:Cx) (es:List aR) (f:Rho->Option (List Rv)):Prop:=PA X es (tXA X.K f)
theorem PE.imp {X:Cx} {e:aR} {t t':TE} (h:PE X e t) (i:∀ σ H Q,t' σ H Q->t σ H Q):PE X e t':=fun pins s σ H Q I q=>h pins s σ H Q I (i σ H Q q)
theorem PT.imp {X:Cx} {e:aR} {t t':TT} (h:PT X e t) (i:∀ σ H Q,t' σ H Q->t σ H Q):PT X e t':=fun pins s σ H Q I q=>h pins s σ H Q I (i σ H Q q)
theorem PW.imp {X:Cx} {e:aR} {t t':TT} (h:PW X e t) (i:∀ σ H Q,t' σ H Q->t σ H Q):PW X e t':=fun wh pins s σ H Q I q=>h wh pins s σ H Q I (i σ H Q q)
theorem PA.imp {X:Cx} {es:List aR} {t t':TA} (h:PA X es t) (i:∀ σ H Q,t' σ H Q->t σ H Q):PA X es t':=fun pos pins s σ H Q I q=>h pos pins s σ H Q I (i σ H Q q)
theorem PS.imp {X:Cx} {st:cq} {t t':TS} (h:PS X st t) (i:∀ D σ H,t' D σ H->t D σ H):PS X st t':=fun pins s σ H D I q=>h pins s σ H D I (i D σ H q)
theorem PSs.imp {X:Cx} {st:List cq} {t t':TS} (h:PSs X st t) (i:∀ D σ H,t' D σ H->t D σ H):PSs X st t':=fun pins s σ H D I q=>h pins s σ H D I (i D σ H q)
section
variable {K:ae} {B H0 H1 G H G' H':Hp}
theorem e7.base:∀ {rs:List Rv} {vs:List V},e7 K B H1 G H rs vs->cG H0 H1->e7 K B H0 G H rs vs
 | [],_,h,_=>h
 | r::rs,_,h,e=>by obtain ⟨v,r',rfl,a,b⟩:=h;exact ⟨v,r',rfl,a.base e,e7.base b e⟩
noncomputable def ji:List Rv->Option (List Da)
 | []=>some []
 | r::rs=>if eG r=true then (ji rs).map (r.2::·) else none
theorem e7.pure {G0:Hp}:∀ {rs:List Rv} {vs:List V} {ds:List Da} {G:Hp},Ext G0 H0 G H->e7 K B H0 G H rs vs->ji rs=some ds->∃ G',Ext G0 H0 G' H/\cG G G'/\cD K G' ds vs
 | [],_,_,G,e,h,q=>by cases (show _=_ from h);cases q;exact ⟨G,e,cG.refl _,rfl⟩
 | (k,d)::rs,_,ds,G,e,h,q=>by
   obtain ⟨v,r',rfl,a,b⟩:=h
   unfold ji at q
   by_cases hk:eG (k,d)=true
   case neg=>rw [if_neg hk] at q;cases q
   case pos =>
    rw [if_pos hk] at q
    cases q':ji rs with
    | none=>rw [q'] at q;cases q
    | some ds' =>
      rw [q'] at q
      cases q
      obtain ⟨G1,e1,s1,b1⟩:=e7.pure e b q'
      have go:∃ G',Ext G0 H0 G' H/\cG G1 G'/\Den K G' d v:=by
       cases k with
       | pu=>exact ⟨G1,e1,cG.refl _,Den.mono s1 d a⟩
       | bo=>cases hk
       | fr =>
         have nd:mS d=false:=by simpa [eG] using hk
         obtain ⟨l,o,rfl,n,g,qq,r⟩:=a
         cases g1:G1 l with
         | some o' =>
           have:=e1.gh l o' g1
           rw [qq] at this;cases this
           exact ⟨G1,e1,cG.refl _,(r.mono s1).den g1 nd⟩
         | none =>
           refine ⟨upd G1 l o,⟨e1.hh,e1.gg.trans (cj g1),fun b u z=>?_,fun b u z t w=>?_⟩,cj g1,(r.mono (s1.trans (cj g1))).den aU nd⟩
           ·by_cases hb:b=l
            ·subst hb;rw [aU] at z;rw [<- z];exact qq
            ·rw [a8 hb] at z;exact e1.gh b u z
           ·rw [a8 (bV z n)];exact e1.nw b u z t w
      obtain ⟨G2,e2,s2,a2⟩:=go
      exact ⟨G2,e2,s1.trans s2,v,r',rfl,a2,cD.mono s2 ds' b1⟩
end
section
variable {X:Cx}
noncomputable def aY (i:Nat):Rho->Option Rv:=fun ρ=>match ρ[i]? with
 | some (.pu d)=>some (.pu,d)
 | some (.ow d)=>some (.bo,d)
 | _=>none
theorem jw (i:Nat) {x:bv} {pos:d4} (hN:X.N[i]?=some x:=by rfl) (hv:Vis X.env.scope x:=by first | exact cR rfl | exact cL (cR rfl) | exact cL (cL rfl)) (hd:(x == ("__debug__" : bv))=false:=by decide)
 (hcd:(x == ("__classdict__" : bv))=false:=by decide):PX X (.Name x pos) (aY i):=by
 refine PE.imp (sO hN hv hd hcd) fun σ H Q ⟨B,G,ρ,r,sg,sb,st,e,k⟩=>?_
 unfold aY at e
 split at e
 ·rename_i d q
  cases e
  obtain ⟨v,a,b⟩:=st.pu i d q
  exact ⟨v,a,k v G H (Ext.refl sg) b⟩
 ·rename_i d q
  cases e
  obtain ⟨l,o,a,nb,ng,f,g⟩:=st.ow i d q
  exact ⟨_,a,k _ G H (Ext.refl sg) ⟨l,o,rfl,nb,ng,f,g⟩⟩
 ·cases e
noncomputable def xC (d:Da):Rho->Option Rv:=fun _=>some (.pu,d)
theorem sV {i j pos}:PX X (.Constant (.int i) j pos) (xC (.int i)):=PE.imp Gg fun σ H Q ⟨B,G,ρ,r,sg,sb,st,e,k⟩=>by cases e;exact k _ G H (Ext.refl sg) rfl
theorem JJ {b j pos}:PX X (.Constant (.bool b) j pos) (xC (.bl b)):=PE.imp yZ fun σ H Q ⟨B,G,ρ,r,sg,sb,st,e,k⟩=>by cases e;exact k _ G H (Ext.refl sg) rfl
noncomputable def x2 (op:Rv->Rv->Option Rv) (fa fb:Rho->Option Rv):Rho->Option Rv:=fun ρ=>match fa ρ with
 | none=>none
 | some a=>match fb ρ with
   | none=>none
   | some b=>op a b
noncomputable def Op2 (K:ae) (r:R2) (op:Rv->Rv->Option Rv):Prop:=∀ (B H0 G H:Hp) (a b c:Rv) (x y:V) (Q:VK),cG G H->gv K B H0 G H a x->gv K B H0 G H b y->op a b=some c ->
 (∀ v G' H',Ext G H G' H'->gv K B H G' H' c v->Q v H')->r x y H Q
theorem Ic {K:ae} {r:R2} {op:Rv->Rv->Option Rv} {fa fb:Rho->Option Rv} (h:Op2 K r op) {σ:St} {H:Hp} {Q:VK} (q:tX K (x2 op fa fb) σ H Q):tOp r (tX K fa) (tX K fb) σ H Q:=by
 obtain ⟨B,G,ρ,c,sg,sb,st,e,k⟩:=q
 unfold x2 at e
 split at e
 ·cases e
 ·rename_i a ea
  split at e
  ·cases e
  ·rename_i b eb
   refine ⟨B,G,ρ,a,sg,sb,st,ea,fun x G1 H1 E1 ra=>⟨B,G1,ρ,b,E1.gh,sb.trans E1.hh,st.ext E1,eb,fun y G2 H2 E2 rb=>?_⟩⟩
   exact h B H G2 H2 a b c x y _ E2.gh (ra.ext E2) (rb.base E1.hh) e fun v G3 H3 E3 rc=>k v G3 H3 ((E1.trans E2).trans E3) (rc.base (E1.hh.trans E2.hh))
theorem CS {a b:aR} {pos:d4} {o:Operator} {r:R2} {op:Rv->Rv->Option Rv} {fa fb:Rho->Option Rv} (ho:OpR X (iC o) r) (h:Op2 X.K r op) (ha:PX X a fa) (hb:PX X b fb):PX X (.BinOp a o b pos) (x2 op fa fb) :=
 PE.imp (J3 ho ha hb) fun _ _ _ q=>Ic h q
theorem Gk {a b:aR} {pos:d4} {o:oG} {r:R2} {op:Rv->Rv->Option Rv} {fa fb:Rho->Option Rv} (ho:OpR X (dq o) r) (h:Op2 X.K r op) (ha:PX X a fa) (hb:PX X b fb) (hm:d5 o b=false):PX X (.Compare a [o] [b] pos) (x2 op fa fb) :=
 PE.imp (EI ho ha hb hm) fun _ _ _ q=>Ic h q
theorem Op2.or {K:ae} {r r':R2} {op op':Rv->Rv->Option Rv} (h:Op2 K r op) (h':Op2 K r' op'):Op2 K (fun x y H Q=>r x y H Q\/r' x y H Q) (fun a b=>(op a b).or (op' a b)):=by
 intro B H0 G H a b c x y Q sg ra rb e k
 dsimp only at e
 cases q:op a b with
 | some z=>rw [q] at e;exact .inl (h B H0 G H a b c x y Q sg ra rb (by rw [q];exact e) k)
 | none=>rw [q] at e;exact .inr (h' B H0 G H a b c x y Q sg ra rb e k)
end
noncomputable def oI (c:Int->Int->Bool) (g:Int->Int->Int):Rv->Rv->Option Rv
 | (_,.int i),(_,.int j)=>if c i j=true then some (.pu,.int (g i j)) else none
 | _,_=>none
theorem yv {K:ae} {C:Int->Int->Prop} {c:Int->Int->Bool} {g:Int->Int->Int} (h:∀ i j,c i j=true->C i j):Op2 K (rI C fun i j=>.int (g i j)) (oI c g):=by
 rintro B H0 G H ⟨ka,a⟩ ⟨kb,b⟩ r x y Q sg ra rb e k
 cases a with
 | int i =>
   cases b with
   | int j =>
     have e:(if c i j=true then some ((Kd.pu,Da.int (g i j)):Rv) else none)=some r:=e
     split at e
     ·rename_i hc
      cases e
      cases ra.int;cases rb.int
      exact ⟨i,j,rfl,rfl,h i j hc,k _ G H (Ext.refl sg) rfl⟩
     ·cases e
   | _=>cases e
 | _=>cases e
theorem vS {K:ae} {g:Int->Int->Int}:Op2 K (rI0 fun i j=>.int (g i j)) (oI (fun _ _=>true) g):=by
 rintro B H0 G H ⟨ka,a⟩ ⟨kb,b⟩ r x y Q sg ra rb e k
 cases a with
 | int i =>
   cases b with
   | int j =>
     cases e
     cases ra.int;cases rb.int
     exact ⟨i,j,rfl,rfl,k _ G H (Ext.refl sg) rfl⟩
   | _=>cases e
 | _=>cases e
noncomputable def oB (g:Int->Int->Bool):Rv->Rv->Option Rv
 | (_,.int i),(_,.int j)=>some (.pu,.bl (g i j))
 | _,_=>none
theorem EX {K:ae} {g:Int->Int->Bool}:Op2 K (rI0 fun i j=>.bl (g i j)) (oB g):=by
 rintro B H0 G H ⟨ka,a⟩ ⟨kb,b⟩ r x y Q sg ra rb e k
 cases a with
 | int i =>
   cases b with
   | int j =>
     cases e
     cases ra.int;cases rb.int
     exact ⟨i,j,rfl,rfl,k _ G H (Ext.refl sg) rfl⟩
   | _=>cases e
 | _=>cases e
noncomputable def F9 (K:ae):R2:=fun x y H Q=>∃ a b ys,x=.ref a/\y=.ref b/\SqT K H a []/\SqT K H b ys/\Q (.ref b) H
theorem FC {X:Cx}:OpR X (iC .Add) (F9 X.K):=by
 intro pins s σ H x y v u Q I rx ry h
 obtain ⟨a,b,ys,rfl,rfl,ha,hb,q⟩:=h
 cases rx
 cases ry
 obtain ⟨its,r1,p1,_⟩:=I.tuple ha
 obtain ⟨its2,r2,p2,_⟩:=I.tuple hb
 cases r1
 obtain ⟨⟨cls,dd,data,sl⟩,ho,hc,n,hd⟩:=id p1
 obtain ⟨⟨cls2,dd2,data2,sl2⟩,ho2,hc2,n2,hd2⟩:=id p2
 simp only at hc hd hc2 hd2
 subst hc hd hc2 hd2
 exact oK ⟨_,ho,rfl⟩ ⟨_,ho2,rfl⟩ p4 wy jf iS (iM _ _)
  (tuple_addW0 a b ([]:List ag).toArray its2.toArray n n2 dd dd2 sl sl2 (by simp)) ⟨ho,ho2,⟨.ref b,H,I,rfl,q⟩⟩
noncomputable def Bp:Rv->Rv->Option Rv
 | (_,.tup xs),(_,.tup ys)=>if xs.length+ys.length<=1000000 then some (.pu,.tup (xs++ys)) else none
 | _,_=>none
theorem BG {K:ae}:Op2 K (fun x y H Q=>HX K x y H Q\/F9 K x y H Q) Bp:=by
 rintro B H0 G H ⟨ka,a⟩ ⟨kb,b⟩ r x y Q sg ra rb e k
 cases a with
 | tup xs =>
   cases b with
   | tup ys =>
   have e:(if xs.length+ys.length<=1000000 then some ((Kd.pu,Da.tup (xs++ys)):Rv) else none)=some r:=e
   split at e
   ·rename_i hz
    cases e
    obtain ⟨p,vs,rfl,q1,d1,g1⟩:=ra.tup sg
    obtain ⟨p',ws,rfl,q2,d2,g2⟩:=rb.tup sg
    have l1:=d1.length
    have l2:=d2.length
    have hs:aK=16777216:=bu
    by_cases hv:vs=[]
    ·subst hv
     refine .inr ⟨p,p',ws,rfl,rfl,SqT.of q1,SqT.of q2,k _ G H (Ext.refl sg) ?_⟩
     have:xs=[]:=eP.mp (by rw [<- l1];rfl)
     subst this
     exact ⟨p',ws,rfl,g2,d2⟩
    ·refine .inl ⟨p,p',vs,ws,rfl,rfl,SqT.of q1,SqT.of q2,hv,by lia,fun hw=>?_,fun hw l hl=>?_⟩
     ·subst hw
      refine k _ G H (Ext.refl sg) ?_
      have:ys=[]:=eP.mp (by rw [<- l2];rfl)
      subst this
      rw [cC]
      exact ⟨p,vs,rfl,g1,d1⟩
     ·refine k _ _ _ (Ext.new sg hl) ⟨l,_,rfl,aU,?_⟩
      exact cD.mono (cj (sg.free hl)) _ (cD.append d1 d2)
   ·cases e
   | _=>cases e
 | _=>cases e
noncomputable def GO (K:ae):R2:=fun x y H Q=>∃ l b xs zs,x=.ref l/\y=.ref b/\SqL K H l xs/\SqL K H b zs/\xs.length+zs.length<=aK/\∀ p,H p=none->Q (.ref p) (upd H p (.lst (xs++zs)))
theorem FG {X:Cx}:OpR X (iC .Add) (GO X.K):=by
 intro pins s σ H x y v u Q I rx ry h
 obtain ⟨l,b,xs,zs,rfl,rfl,hH,hB,hz,q⟩:=h
 cases rx
 cases ry
 obtain ⟨its,r,⟨⟨cls,dd,data,sl⟩,n,ho,hc,hd,hs⟩,z⟩:=I.list hH
 obtain ⟨its2,r2,⟨⟨cls2,dd2,data2,sl2⟩,n2,ho2,hc2,hd2,hs2⟩,z2⟩:=I.list hB
 simp only at hc hs hc2 hs2
 subst hc hs hc2 hs2
 have l1:=r.length
 have l2:=r2.length
 have ea:its.toArray++its2.toArray=(its++its2).toArray:=by simp
 refine oK ⟨_,ho,rfl⟩ ⟨_,ho2,rfl⟩ noFill_list_add seq_list_add PySem.F.slot_list_add PySem.F.entry_list_add (PySem.F.args_list_add_2 _ _) (list_addW l b its.toArray its2.toArray n n2 dd dd2 sl sl2 (by rw [ax,ax];lia)) ⟨ho,ho2,?_⟩
 rw [ea]
 exact ⟨.ref _,_,I.lnew (t':=s.toks) (r.append r2) (by rw [aO];lia),rfl,q _ I.fresh⟩
noncomputable def BP:Rv->Rv->Option Rv
 | (_,.lst xs),(_,.lst ys)=>if xs.length+ys.length<=1000000 then some (.fr,.lst (xs++ys)) else none
 | _,_=>none
theorem CG {K:ae}:Op2 K (GO K) BP:=by
 rintro B H0 G H ⟨ka,a⟩ ⟨kb,b⟩ r x y Q sg ra rb e k
 have hs:aK=16777216:=bu
 cases a with
 | lst xs =>
   cases b with
   | lst ys =>
   have e:(if xs.length+ys.length<=1000000 then some ((Kd.fr,Da.lst (xs++ys)):Rv) else none)=some r:=e
   split at e
   ·rename_i hz
    cases e
    obtain ⟨l1,vs,rfl,q1,d1⟩:=ra.lst sg
    obtain ⟨l2,ws,rfl,q2,d2⟩:=rb.lst sg
    have e1:=d1.length
    have e2:=d2.length
    refine ⟨l1,l2,vs,ws,rfl,rfl,q1,q2,by lia,fun p hp=>k _ G _ (Ext.own sg hp) ?_⟩
    exact ⟨p,_,rfl,hp,sg.free hp,aU,_,rfl,cD.append d1 d2⟩
   ·cases e
   | _=>cases e
 | _=>cases e
noncomputable def gW:Rv->Rv->Option Rv:=fun a b=>(oI (fun _ _=>true) (·+·) a b).or ((Bp a b).or (BP a b))
section
variable {X:Cx} {a b:aR} {pos:d4} {fa fb:Rho->Option Rv}
theorem DF (ha:PX X a fa) (hb:PX X b fb):PX X (.BinOp a .Add b pos) (x2 gW fa fb) :=
 CS (IX.or ((EY.or FC).or FG)) (vS.or (BG.or CG)) ha hb
theorem He (ha:PX X a fa) (hb:PX X b fb):PX X (.BinOp a .Sub b pos) (x2 (oI (fun _ _=>true) (·-·)) fa fb):=CS FZ vS ha hb
noncomputable def ol (i j:Int):Bool:=(decide (-(2 ^ 64)<i)&&decide (i<2 ^ 64))||(decide (-(2 ^ 64)<j)&&decide (j<2 ^ 64))
theorem DS (i j:Int) (h:ol i j=true):Je i j:=by
 unfold ol at h
 rcases im _ _▸h with h | h
 ·rw [aT] at h;exact .inl ⟨of_decide_eq_true h.1,of_decide_eq_true h.2⟩
 ·rw [aT] at h;exact .inr ⟨of_decide_eq_true h.1,of_decide_eq_true h.2⟩
theorem Dp (ha:PX X a fa) (hb:PX X b fb):PX X (.BinOp a .Mult b pos) (x2 (oI ol (·*·)) fa fb):=CS Ja (yv DS) ha hb
theorem IZ (ha:PX X a fa) (hb:PX X b fb):PX X (.BinOp a .Mod b pos) (x2 (oI (fun _ j=>decide (0<j)) (·%·)) fa fb):=CS IW (yv fun _ _ h=>of_decide_eq_true h) ha hb
end
noncomputable def gs:List Da->Option (List Int)
 | []=>some []
 | .int i::r=>(gs r).map (i::·)
 | _=>none
theorem gC:∀ {ds:List Da} {ns:List Int},gs ds=some ns->ds=ns.map Da.int
 | [],ns,h=>by cases h;rfl
 | d::r,ns,h=>by
   cases d with
   | int i =>
     have h:(gs r).map (i::·)=some ns:=h
     cases q:gs r with
     | none=>rw [q] at h;cases h
     | some ms=>rw [q] at h;cases h;rw [gC q];rfl
   | _=>cases h
noncomputable def Kt:Rv->Rv->Option Rv
 | (_,.tup xs),(_,.tup ys)=>match gs xs,gs ys with
   | some ns,some ms=>some (.pu,.bl (HT.lexLt ns ms))
   | _,_=>none
 | _,_=>none
theorem DH {K:ae}:Op2 K (Kp K) Kt:=by
 rintro B H0 G H ⟨ka,a⟩ ⟨kb,b⟩ r x y Q sg ra rb e k
 cases a with
 | tup xs =>
   cases b with
   | tup ys =>
   have e:(match gs xs,gs ys with
    | some ns,some ms=>some ((Kd.pu,Da.bl (HT.lexLt ns ms)):Rv)
    | _,_=>none)=some r:=e
   split at e
   ·rename_i ns ms e1 e2
    cases e
    obtain ⟨p,vs,rfl,q1,d1,_⟩:=ra.tup sg
    obtain ⟨p',ws,rfl,q2,d2,_⟩:=rb.tup sg
    rw [gC e1] at d1
    rw [gC e2] at d2
    cases cD.ints.mp d1
    cases cD.ints.mp d2
    exact ⟨p,p',ns,ms,rfl,rfl,SqT.of q1,SqT.of q2,k _ G H (Ext.refl sg) rfl⟩
   ·cases e
   | _=>cases e
 | _=>cases e
noncomputable def oLt:Rv->Rv->Option Rv:=fun a b=>(oB (fun i j=>decide (i<j)) a b).or (Kt a b)
mutual
noncomputable def toP:Da->PyData
 | .non=>.none
 | .bl b=>.bool b
 | .int i=>.int i
 | .str x=>.str x
 | .tup ds=>.tuple (hW ds)
 | .lst ds=>.list (hW ds)
 | .dK _ _=>.dict []
 | .dT _ _=>.dict []
noncomputable def hW:List Da->List PyData
 | []=>[]
 | d::ds=>toP d::hW ds
end
section
variable {X:Cx} {pins:List (au×cX)} {σ:St} {H:Hp} {s:ai}
mutual
theorem gB (I:Inv X pins σ H s):∀ (d:Da) (v:V) (u:ag),Den X.K H d v->fZ v u->(toP d).canLay0=true->∃ as,Reads s.heap u (toP d) as
 | .non,v,u,h,r,_=>by cases (show v=_ from h);cases (show u=_ from r);exact ⟨_,.none⟩
 | .bl b,v,u,h,r,_=>by cases (show v=_ from h);cases (show u=_ from r);exact ⟨_,.bool b⟩
 | .int i,v,u,h,r,_=>by cases (show v=_ from h);obtain ⟨t,rfl⟩:=(show ∃ t,u=eC i t from r);exact ⟨_,.int i t⟩
 | .str x,v,u,h,r,_=>by cases (show v=_ from h);obtain ⟨t,rfl⟩:=(show ∃ t,u=rC x t from r);exact ⟨_,.str x t⟩
 | .tup ds,v,u,h,r,c=>by
   obtain ⟨a,xs,rfl,q,dl⟩:=h
   cases (show u=bI a from r)
   obtain ⟨its,rv,⟨o,ho,hc,n,hd⟩,_⟩:=I.tuple (SqT.of q)
   obtain ⟨as,ra⟩:=readsAll_of I ds xs its dl rv (by simpa [toP,cz] using c)
   exact ⟨_,.tuple ho hc hd (by simpa using ra)⟩
 | .lst ds,v,u,h,r,c=>by
   obtain ⟨a,xs,rfl,q,dl⟩:=h
   cases (show u=bI a from r)
   obtain ⟨its,rv,pl,_⟩:=I.list q
   obtain ⟨o,ho,hc,n,hd⟩:=pl.isList
   obtain ⟨as,ra⟩:=readsAll_of I ds xs its dl rv (by simpa [toP,cz] using c)
   exact ⟨_,.list ho hc hd (by simpa using ra)⟩
 | .dK _ _,_,_,_,_,c=>by simp [toP,cz] at c
 | .dT _ _,_,_,_,_,c=>by simp [toP,cz] at c
theorem readsAll_of (I:Inv X pins σ H s):∀ (ds:List Da) (xs:List V) (us:List ag),cD X.K H ds xs->dJ xs us->cf (hW ds)=true->∃ as,ReadsAll s.heap us (hW ds) as
 | [],xs,us,h,r,_=>by cases (show xs=_ from h);cases r;exact ⟨_,.nil⟩
 | d::ds,xs,us,h,r,c=>by
   obtain ⟨x,xr,rfl,h1,h2⟩:=h
   cases r with
   | cons r1 r2 =>
     have c':(toP d).canLay0=true/\cf (hW ds)=true:=by simpa [hW,cf] using c
     obtain ⟨as,a1⟩:=gB I d _ _ h1 r1 c'.1
     obtain ⟨bs,a2⟩:=readsAll_of I ds _ _ h2 r2 c'.2
     exact ⟨_,.cons a1 a2⟩
end
end
noncomputable def CQ (d e:Da):Bool:=(toP d).canLay0&&(toP e).canLay0&&decide (min (toP d).depth (toP e).depth<=60)
noncomputable def eqD (d e:Da):Bool:=cp (toP d) (toP e)
noncomputable def JE (K:ae) (neg:Bool):R2:=fun x y H Q=>∃ d e,Den K H d x/\Den K H e y/\CQ d e=true/\Q (.bl (if neg then !eqD d e else eqD d e)) H
noncomputable def oEq (neg:Bool):Rv->Rv->Option Rv:=fun a b=>if CQ a.2 b.2=true then some (.pu,.bl (if neg then !eqD a.2 b.2 else eqD a.2 b.2)) else none
theorem vq {d:Da} (h:(toP d).canLay0=true):mS d=false:=by
 cases d<;>first | rfl | (simp [toP,cz] at h)
theorem Df {K:ae} {neg:Bool}:Op2 K (JE K neg) (oEq neg):=by
 rintro B H0 G H a b r x y Q sg ra rb e k
 unfold oEq at e
 split at e
 ·rename_i h
  cases e
  have h2:=h
  unfold CQ at h2
  rw [aT,aT] at h2
  exact ⟨a.2,b.2,ra.den sg (vq h2.1.1),rb.den sg (vq h2.1.2),h,k _ G H (Ext.refl sg) rfl⟩
 ·cases e
theorem Aq {d e:Da} (h:CQ d e=true):(toP d).canLay0=true/\(toP e).canLay0=true/\min (toP d).depth (toP e).depth<=60:=by
 unfold CQ at h
 rw [aT,aT] at h
 exact ⟨h.1.1,h.1.2,of_decide_eq_true h.2⟩
section
variable {X:Cx}
theorem Ih (hu:X.A.units+64<cg):OpR X (dq .Eq) (JE X.K false):=by
 intro pins s σ H x y v u Q I rx ry h
 obtain ⟨d,e,hd,he,ok,q⟩:=h
 obtain ⟨c1,c2,c3⟩:=Aq ok
 obtain ⟨as,r1⟩:=gB I d x v hd rx c1
 obtain ⟨bs,r2⟩:=gB I e y u he ry c2
 exact SeqAt.compareEq_reads r1 r2 c1 c2 (by lia) ⟨.bl _,H,I,rfl,q⟩
theorem IJ (hu:X.A.units+64<cg):OpR X (dq .NotEq) (JE X.K true):=by
 intro pins s σ H x y v u Q I rx ry h
 obtain ⟨d,e,hd,he,ok,q⟩:=h
 obtain ⟨c1,c2,c3⟩:=Aq ok
 obtain ⟨as,r1⟩:=gB I d x v hd rx c1
 obtain ⟨bs,r2⟩:=gB I e y u he ry c2
 exact SeqAt.compareNe_reads r1 r2 c1 c2 (by lia) ⟨.bl _,H,I,rfl,q⟩
end
noncomputable def zX (d:Da) (ds:List Da):Bool:=(toP d).canLay0&&cf (hW ds)&&decide (min (bN (hW ds)) (toP d).depth<=60)
noncomputable def inD (d:Da) (ds:List Da):Bool:=(hW ds).any fun y=>cp y (toP d)
noncomputable def JV (K:ae) (neg:Bool):R2:=fun x y H Q=>∃ d ds,Den K H d x/\(Den K H (.tup ds) y\/Den K H (.lst ds) y)/\zX d ds=true/\Q (.bl (if neg then !inD d ds else inD d ds)) H
noncomputable def Fp (neg:Bool):Rv->Rv->Option Rv:=fun a b=>match b.2 with
 | .tup ds=>if zX a.2 ds=true then some (.pu,.bl (if neg then !inD a.2 ds else inD a.2 ds)) else none
 | .lst ds=>if zX a.2 ds=true then some (.pu,.bl (if neg then !inD a.2 ds else inD a.2 ds)) else none
 | _=>none
theorem AT {K:ae} {neg:Bool}:Op2 K (JV K neg) (Fp neg):=by
 rintro B H0 G H a b r x y Q sg ra rb e k
 unfold Fp at e
 split at e
 ·rename_i ds eb
  split at e
  ·rename_i h
   cases e
   have db:=rb.den sg (by rw [eb];rfl)
   rw [eb] at db
   unfold zX at h
   have h2:=h
   rw [aT,aT] at h2
   exact ⟨a.2,ds,ra.den sg (vq h2.1.1),.inl db,h,k _ G H (Ext.refl sg) rfl⟩
  ·cases e
 ·rename_i ds eb
  split at e
  ·rename_i h
   cases e
   have db:=rb.den sg (by rw [eb];rfl)
   rw [eb] at db
   unfold zX at h
   have h2:=h
   rw [aT,aT] at h2
   exact ⟨a.2,ds,ra.den sg (vq h2.1.1),.inr db,h,k _ G H (Ext.refl sg) rfl⟩
  ·cases e
 ·cases e
section
variable {X:Cx}
theorem yQ {d:Da} {ds:List Da} (h:zX d ds=true):(toP d).canLay0=true/\cf (hW ds)=true/\min (bN (hW ds)) (toP d).depth<=60:=by
 unfold zX at h
 rw [aT,aT] at h
 exact ⟨h.1.1,h.1.2,of_decide_eq_true h.2⟩
theorem Iu (hu:X.A.units+64<cg):OpR X (dq .In) (JV X.K false):=by
 intro pins s σ H x y v u Q I rx ry h
 obtain ⟨d,ds,hd,he,ok,q⟩:=h
 obtain ⟨c1,c2,c3⟩:=yQ ok
 obtain ⟨as,r1⟩:=gB I d x v hd rx c1
 rcases he with he | he
 ·obtain ⟨bs,r2⟩:=gB I _ y u he ry (by simpa [toP,cz] using c2)
  exact SeqAt.in_tuple_reads (by simpa [toP] using r2) r1 c2 c1 (by lia) ⟨.bl _,H,I,rfl,q⟩
 ·obtain ⟨bs,r2⟩:=gB I _ y u he ry (by simpa [toP,cz] using c2)
  exact SeqAt.in_list_reads (by simpa [toP] using r2) r1 c2 c1 (by lia) ⟨.bl _,H,I,rfl,q⟩
theorem Fc (hu:X.A.units+64<cg):OpR X (dq .NotIn) (JV X.K true):=by
 intro pins s σ H x y v u Q I rx ry h
 obtain ⟨d,ds,hd,he,ok,q⟩:=h
 obtain ⟨c1,c2,c3⟩:=yQ ok
 obtain ⟨as,r1⟩:=gB I d x v hd rx c1
 rcases he with he | he
 ·obtain ⟨bs,r2⟩:=gB I _ y u he ry (by simpa [toP,cz] using c2)
  exact SeqAt.notIn_tuple_reads (by simpa [toP] using r2) r1 c2 c1 (by lia) ⟨.bl _,H,I,rfl,q⟩
 ·obtain ⟨bs,r2⟩:=gB I _ y u he ry (by simpa [toP,cz] using c2)
  exact SeqAt.notIn_list_reads (by simpa [toP] using r2) r1 c2 c1 (by lia) ⟨.bl _,H,I,rfl,q⟩
end
noncomputable def Dd:Da->Option Key
 | .int i=>some (.inl i)
 | .str x=>some (.inr x)
 | _=>none
noncomputable def lJ:List Da->Option (List Key)
 | []=>some []
 | d::r=>match Dd d,lJ r with
   | some k,some ks=>some (k::ks)
   | _,_=>none
noncomputable def i7:Key->Da
 | .inl i=>.int i
 | .inr x=>.str x
theorem yX {d:Da} {k:Key} (e:Dd d=some k):mS d=false:=by
 cases d<;>first | rfl | cases e
theorem yi {K:ae} {G:Hp} {d:Da} {k:Key} {v:V} (e:Dd d=some k) (h:Den K G d v):v=kV k:=by
 cases d with
 | int i=>cases e;exact h
 | str x=>cases e;exact h
 | _=>cases e
theorem uX {K:ae} {G:Hp}:∀ {ds:List Da} {ks:List Key} {xs:List V},lJ ds=some ks->cD K G ds xs->xs=ks.map kV
 | [],ks,xs,e,h=>by cases e;exact h
 | d::r,ks,xs,e,h=>by
   obtain ⟨x,xr,rfl,h1,h2⟩:=h
   unfold lJ at e
   split at e
   ·rename_i k ks' e1 e2
    cases e
    rw [yi e1 h1,uX e2 h2];rfl
   ·cases e
theorem sM {K:ae} {G:Hp} (k:Key):Den K G (i7 k) (kV k):=by
 cases k<;>rfl
noncomputable def atK {κ:Type} [DecidableEq κ]:List κ->List Da->κ->Option Da
 | k::ks,d::ds,j=>if k=j then some d else atK ks ds j
 | _,_,_=>none
noncomputable def KB (K:ae) (G:Hp) (ov:Option V):Option Da->Prop
 | some d=>∃ v,ov=some v/\Den K G d v
 | none=>ov=none
theorem uk {K:ae} {G:Hp} {κ:Type} [DecidableEq κ]:∀ {kvs:List (κ×V)} {ks:List κ} {ds:List Da} (j:κ),kvs.map (·.1)=ks->cD K G ds (kvs.map (·.2)) ->
 KB K G (mC kvs j) (atK ks ds j)
 | [],ks,ds,j,e,h=>by
   subst e
   cases ds with
   | nil=>rfl
   | cons d ds=>obtain ⟨x,r,e,_⟩:=h;cases e
 | (k,v)::kvs,ks,ds,j,e,h=>by
   subst e
   cases ds with
   | nil=>cases (show (v::kvs.map (·.2))=[] from h)
   | cons d ds =>
     obtain ⟨x,r,ex,h1,h2⟩:=h
     injection ex with e1 e2
     subst e1;subst e2
     have ih:=uk (K:=K) (G:=G) (kvs:=kvs) (ks:=kvs.map (·.1)) (ds:=ds) j rfl h2
     by_cases hk:k=j
     ·have e1:atK (((k,v)::kvs).map (·.1)) (d::ds) j=some d:=by show (if k=j then some d else _)=_;rw [if_pos hk]
      rw [e1]
      exact ⟨v,jj (p:=(k,v)) hk,h1⟩
     ·have e1:atK (((k,v)::kvs).map (·.1)) (d::ds) j=atK (kvs.map (·.1)) ds j:=by show (if k=j then some d else _)=_;rw [if_neg hk]
      rw [e1,jg (p:=(k,v)) hk]
      exact ih
noncomputable def lL:Da->Da->Option (Option Da)
 | .dK ks ds,k=>match Dd k with
   | some j=>some (atK ks ds j)
   | none=>none
 | .dT ks ds,.tup es=>match lJ es with
   | some j=>some (atK ks ds j)
   | none=>none
 | _,_=>none
theorem nu {K:ae} {B H0 G H:Hp} {a b:Rv} {x y:V} {o:Option Da} (sg:cG G H) (ra:gv K B H0 G H a x) (rb:gv K B H0 G H b y) (e:lL a.2 b.2=some o) :
 ∃ p ov,x=.ref p/\qP H p y ov/\KB K G ov o:=by
 obtain ⟨ka,a⟩:=a
 obtain ⟨kb,b⟩:=b
 cases a with
 | dK ks ds =>
   have e:(match Dd b with
    | some j=>some (atK ks ds j)
    | none=>none)=some o:=by cases b<;>exact e
   split at e
   ·rename_i j ej
    cases e
    obtain ⟨p,kvs,rfl,q,e1,r⟩:=ra.dK sg
    have ey:y=kV j:=yi ej (rb.den sg (yX ej))
    refine ⟨p,mC kvs j,rfl,.inl ⟨kvs,j,q,ey,rfl⟩,?_⟩
    exact uk (K:=K) (G:=G) (ks:=ks) (ds:=ds) j e1 r
   ·cases e
 | dT ks ds =>
   cases b with
   | tup es =>
     have e:(match lJ es with
      | some j=>some (atK ks ds j)
      | none=>none)=some o:=e
     split at e
     ·rename_i j ej
      cases e
      obtain ⟨p,kvs,rfl,q,e1,r⟩:=ra.dT sg
      obtain ⟨t,xs,rfl,qt,dl,_⟩:=rb.tup sg
      rw [uX ej dl] at qt
      refine ⟨p,mC kvs j,rfl,.inr ⟨kvs,j,t,q,rfl,qt,rfl⟩,?_⟩
      exact uk (K:=K) (G:=G) (ks:=ks) (ds:=ds) j e1 r
     ·cases e
   | _=>cases e
 | _=>cases e
noncomputable def Jz (neg:Bool):R2:=fun y x H Q=>∃ a o,x=.ref a/\qP H a y o/\Q (.bl (if neg then !o.isSome else o.isSome)) H
theorem Ge {X:Cx} (hu:X.A.units+1<cg):OpR X (dq .In) (Jz false):=by
 intro pins s σ H y x v u Q I ry rx h
 obtain ⟨a,o,rfl,g,q⟩:=h
 cases rx
 exact Kz hu I g ry fun s' I'=>⟨.bl _,H,I',rfl,q⟩
theorem EL {X:Cx} (hu:X.A.units+1<cg):OpR X (dq .NotIn) (Jz true):=by
 intro pins s σ H y x v u Q I ry rx h
 obtain ⟨a,o,rfl,g,q⟩:=h
 cases rx
 exact AA hu I g ry fun s' I'=>⟨.bl _,H,I',rfl,q⟩
noncomputable def AI (neg:Bool):Rv->Rv->Option Rv:=fun a b=>match lL b.2 a.2 with
 | some o=>some (.pu,.bl (if neg then !o.isSome else o.isSome))
 | none=>none
theorem yF {K:ae} {neg:Bool}:Op2 K (Jz neg) (AI neg):=by
 rintro B H0 G H a b r x y Q sg ra rb e k
 unfold AI at e
 split at e
 ·rename_i o eo
  cases e
  obtain ⟨p,ov,rfl,g,m⟩:=nu sg rb ra eo
  have ei:ov.isSome=o.isSome:=by
   cases o with
   | some d=>obtain ⟨v,rfl,_⟩:=m;rfl
   | none=>cases m;rfl
  refine ⟨p,ov,rfl,g,?_⟩
  rw [ei]
  exact k _ G H (Ext.refl sg) rfl
 ·cases e
noncomputable def oIn (neg:Bool):Rv->Rv->Option Rv:=fun a b=>(AI neg a b).or (Fp neg a b)
section
variable {X:Cx} {a b:aR} {pos:d4} {fa fb:Rho->Option Rv}
theorem zN {K:ae} {G:Hp} {ds:List Da} {xs:List V} {i:Int} {d:Da} (h:cD K G ds xs) (e:atI ds i=some d):∃ v,atI xs i=some v/\Den K G d v:=by
 have hl:=h.length
 unfold atI at e ⊢
 rw [hl]
 cases q:ixN ds.length i with
 | none=>rw [q] at e;cases e
 | some j=>rw [q] at e;exact h.get e
noncomputable def oIx:Rv->Rv->Option Rv:=fun a b=>match a.2,b.2 with
 | .tup ds,.int i=>(atI ds i).map fun d=>(.pu,d)
 | .lst ds,.int i=>(atI ds i).map fun d=>(.pu,d)
 | _,_=>none
theorem Hg {K:ae}:Op2 K (fun x y H Q=>JM K x y H Q\/J6 K x y H Q\/JZ x y H Q) oIx:=by
 rintro B H0 G H ⟨ka,a⟩ ⟨kb,b⟩ r x y Q sg ra rb e k
 unfold oIx at e
 dsimp only at e
 split at e
 ·rename_i ds i
  cases q:atI ds i with
  | none=>rw [q] at e;cases e
  | some d =>
    rw [q] at e
    cases e
    obtain ⟨p,xs,rfl,q1,d1,_⟩:=ra.tup sg
    obtain ⟨v,hv,dv⟩:=zN d1 q
    cases rb.int
    exact .inr (.inl ⟨p,xs,i,v,rfl,rfl,SqT.of q1,hv,k v G H (Ext.refl sg) dv⟩)
 ·rename_i ds i
  cases q:atI ds i with
  | none=>rw [q] at e;cases e
  | some d =>
    rw [q] at e
    cases e
    obtain ⟨p,xs,rfl,q1,d1⟩:=ra.lst sg
    obtain ⟨v,hv,dv⟩:=zN d1 q
    cases rb.int
    exact .inl ⟨p,xs,i,v,rfl,rfl,q1,hv,k v G H (Ext.refl sg) dv⟩
 ·cases e
noncomputable def HS:R2:=fun x y H Q=>∃ a v,x=.ref a/\qP H a y (some v)/\Q v H
noncomputable def xM:Rv->Rv->Option Rv:=fun a b=>match lL a.2 b.2 with
 | some (some d)=>some (.pu,d)
 | _=>none
theorem DZ {K:ae}:Op2 K HS xM:=by
 rintro B H0 G H a b r x y Q sg ra rb e k
 unfold xM at e
 split at e
 ·rename_i d eo
  cases e
  obtain ⟨p,ov,rfl,g,v,rfl,dv⟩:=nu sg ra rb eo
  exact ⟨p,v,rfl,g,k v G H (Ext.refl sg) dv⟩
 ·cases e
theorem Hy {pos:d4} (ha:PX X a fa) (hb:PX X b fb) (hs:qB b:=by intro _ _;rfl):PX X (.Subscript a b pos) (x2 oIx fa fb):=PE.imp (Km GQ ha hb hs) fun _ _ _ q=>Ic Hg q
theorem GI {pos:d4} (hu:X.A.units+1<cg) (ha:PX X a fa) (hb:PX X b fb) (hs:J2 b:=by intro _ _;rfl):PX X (.Subscript a b pos) (x2 xM fa fb) :=
 PE.imp (uP hu ha hb hs) fun σ H Q q=>by
  have:=Ic (r:=HS) DZ q
  exact this
noncomputable def oIt:Rv->Rv->Option Rv:=fun a b=>(oIx a b).or (xM a b)
theorem vg {pos:d4} (hu:X.A.units+1<cg) (ha:PX X a fa) (hb:PX X b fb) (hs:qB b:=by intro _ _;rfl):PX X (.Subscript a b pos) (x2 oIt fa fb):=by
 intro pins s σ H Q I q
 obtain ⟨B,G,ρ,c,sg,sb,st,e,k⟩:=q
 have e0:=e
 unfold x2 at e
 split at e
 ·cases e
 ·rename_i ra ea
  split at e
  ·cases e
  ·rename_i rb eb
   unfold oIt at e
   cases z:oIx ra rb with
   | some z' =>
     rw [z] at e
     cases e
     exact Hy ha hb hs pins s σ H Q I ⟨B,G,ρ,_,sg,sb,st,by unfold x2;rw [ea,eb];exact z,k⟩
   | none =>
     rw [z] at e
     exact GI hu ha hb hs pins s σ H Q I ⟨B,G,ρ,c,sg,sb,st,by unfold x2;rw [ea,eb];exact e,k⟩
noncomputable def bU:Rho->Option (List Rv):=fun _=>some []
noncomputable def aH (f:Rho->Option Rv) (g:Rho->Option (List Rv)):Rho->Option (List Rv):=fun ρ=>match f ρ with
 | none=>none
 | some r=>match g ρ with
   | none=>none
   | some rs=>some (r::rs)
theorem l8:PXA X [] bU:=PA.imp jx fun σ H Q ⟨B,G,ρ,rs,sg,sb,st,e,k⟩=>by cases e;exact k [] G H (Ext.refl sg) rfl
noncomputable def nst:aR->Bool
 | .Starred ..=>false
 | _=>true
theorem bD {e:aR} {es:List aR} {env:m8} (h:nst e=true):ao (e::es) env=(false,bL e env)::ao es env:=by
 cases e<;>first | rfl | cases h
theorem iL {e:aR} {es:List aR} {f:Rho->Option Rv} {g:Rho->Option (List Rv)} (ha:PX X e f) (hr:PXA X es g) (hs:ao (e::es) X.env=(false,bL e X.env)::ao es X.env:=by exact bD rfl):PXA X (e::es) (aH f g) :=
 PA.imp (e6 ha hr hs) fun σ H Q ⟨B,G,ρ,rs,sg,sb,st,eq,k⟩=>by
  unfold aH at eq
  split at eq
  ·cases eq
  ·rename_i r er
   split at eq
   ·cases eq
   ·rename_i rs' ers
    cases eq
    refine ⟨B,G,ρ,r,sg,sb,st,er,fun v G1 H1 E1 r1=>⟨B,G1,ρ,rs',E1.gh,sb.trans E1.hh,st.ext E1,ers,fun vs G2 H2 E2 r2=>?_⟩⟩
    exact k _ G2 H2 (E1.trans E2) ⟨v,vs,rfl,r1.ext E2,r2.base E1.hh⟩
noncomputable def lA (g:Rho->Option (List Rv)):Rho->Option Rv:=fun ρ=>match g ρ with
 | none=>none
 | some rs=>match ji rs with
   | none=>none
   | some ds=>if ds.length<=1000 then some (.pu,.tup ds) else none
theorem IE {es:List aR} {x1:Nat} {pos:d4} {g:Rho->Option (List Rv)} (h:PXA X es g):PX X (.Tuple es x1 pos) (lA g) :=
 PE.imp (Iq h) fun σ H Q ⟨B,G,ρ,r,sg,sb,st,e,k⟩=>by
  unfold lA at e
  split at e
  ·cases e
  ·rename_i rs er
   split at e
   ·cases e
   ·rename_i ds ed
    split at e
    ·rename_i hz
     cases e
     refine ⟨B,G,ρ,rs,sg,sb,st,er,fun vs G1 H1 E1 r1=>?_⟩
     obtain ⟨G2,E2,s12,d2⟩:=r1.pure E1 ed
     have hs:aK=16777216:=bu
     have hl:=d2.length
     refine ⟨by lia,fun p hp=>k _ _ _ (E2.trans (Ext.new E2.gh hp)) ⟨p,vs,rfl,aU,cD.mono (cj (E2.gh.free hp)) ds d2⟩⟩
    ·cases e
noncomputable def B8 (g:Rho->Option (List Rv)):Rho->Option Rv:=fun ρ=>match g ρ with
 | none=>none
 | some rs=>match ji rs with
   | none=>none
   | some ds=>if ds.length<=1000 then some (.fr,.lst ds) else none
theorem F7 {es:List aR} {pos:d4} {g:Rho->Option (List Rv)} (h:PXA X es g):PX X (.List es pos) (B8 g) :=
 PE.imp (Iz h) fun σ H Q ⟨B,G,ρ,r,sg,sb,st,e,k⟩=>by
  unfold B8 at e
  split at e
  ·cases e
  ·rename_i rs er
   split at e
   ·cases e
   ·rename_i ds ed
    split at e
    ·rename_i hz
     cases e
     refine ⟨B,G,ρ,rs,sg,sb,st,er,fun vs G1 H1 E1 r1=>?_⟩
     obtain ⟨G2,E2,s12,d2⟩:=r1.pure E1 ed
     have hs:aK=16777216:=bu
     have hl:=d2.length
     refine ⟨by lia,fun p hp=>k _ _ _ (E2.trans (Ext.own E2.gh hp)) ⟨p,_,rfl,E2.hh.free hp,E2.gh.free hp,aU,vs,rfl,d2⟩⟩
    ·cases e
noncomputable def xC2 (r:Rv):Rho->Option Rv:=fun _=>some r
theorem vM {pos:d4}:PX X (.Dict [] [] pos) (xC2 (.fr,.dK [] [])):=PE.imp lI fun σ H Q ⟨B,G,ρ,r,sg,sb,st,e,k⟩ p hp=>by
 cases e;exact k _ G _ (Ext.own sg hp) ⟨p,_,rfl,hp,sg.free hp,aU,[],rfl,rfl,rfl⟩
theorem BD {pos:d4}:PX X (.Dict [] [] pos) (xC2 (.fr,.dT [] [])):=PE.imp B3 fun σ H Q ⟨B,G,ρ,r,sg,sb,st,e,k⟩ p hp=>by
 cases e;exact k _ G _ (Ext.own sg hp) ⟨p,_,rfl,hp,sg.free hp,aU,[],rfl,rfl,rfl⟩
noncomputable def xB (f:List Rv->Option Rv) (g:Rho->Option (List Rv)):Rho->Option Rv:=fun ρ=>match g ρ with
 | none=>none
 | some rs=>f rs
noncomputable def Cal (K:ae) (r:List V->Hp->VK->Prop) (f:List Rv->Option Rv):Prop:=∀ (B H0 G H:Hp) (rs:List Rv) (c:Rv) (xs:List V) (Q:VK),cG G H->e7 K B H0 G H rs xs->f rs=some c ->
 (∀ v G' H',Ext G H G' H'->gv K B H G' H' c v->Q v H')->r xs H Q
theorem Kv {K:ae} {r:List V->Hp->VK->Prop} {f:List Rv->Option Rv} {g:Rho->Option (List Rv)} (h:Cal K r f) {σ:St} {H:Hp} {Q:VK} (q:tX K (xB f g) σ H Q):tCB r (tXA K g) σ H Q:=by
 obtain ⟨B,G,ρ,c,sg,sb,st,e,k⟩:=q
 unfold xB at e
 split at e
 ·cases e
 ·rename_i rs er
  refine ⟨B,G,ρ,rs,sg,sb,st,er,fun vs G1 H1 E1 r1=>h B H G1 H1 rs c vs _ E1.gh r1 e fun v G2 H2 E2 r2=>k v G2 H2 (E1.trans E2) (r2.base E1.hh)⟩
theorem Dz {x:bv} {p pos:d4} {e:aR} {es:List aR} {id:String} {r:List V->Hp->VK->Prop} {f:List Rv->Option Rv} {g:Rho->Option (List Rv)} (hc:j0 X (.builtin id) r) (h:Cal X.K r f) (hg:Gl X x) (hm:X.mg x=none) (hv:h8 x=some (.builtin id)) (ha:PXA X (e::es) g)
 (hn:x≠"__name__":=by decide) (hdb:(x == ("__debug__" : bv))=false:=by decide) (he:ao (e::es) X.env=(false,bL e X.env)::ao es X.env:=by exact bD rfl) (hpl:(bZ pos (ao es X.env)).any (·.1)=false:=by rfl) :
 PX X (.Call (.Name x p) (e::es) [] pos) (xB f g):=PE.imp (BF hc hg hm hv ha hn hdb he hpl) fun _ _ _ q=>Kv h q
theorem GR {x:bv} {p pos:d4} {e:aR} {es:List aR} {T:String} {r:List V->Hp->VK->Prop} {f:List Rv->Option Rv} {g:Rho->Option (List Rv)} (hc:j0 X (.type T) r) (h:Cal X.K r f) (hg:Gl X x) (hm:X.mg x=none) (hv:h8 x=some (.type T)) (ha:PXA X (e::es) g)
 (hn:x≠"__name__":=by decide) (hdb:(x == ("__debug__" : bv))=false:=by decide) (he:ao (e::es) X.env=(false,bL e X.env)::ao es X.env:=by exact bD rfl) (hpl:(bZ pos (ao es X.env)).any (·.1)=false:=by rfl) :
 PX X (.Call (.Name x p) (e::es) [] pos) (xB f g):=PE.imp (lC hc hg hm hv ha hn hdb he hpl) fun _ _ _ q=>Kv h q
theorem e7.one {K:ae} {B H0 G H:Hp} {r:Rv} {xs:List V} (h:e7 K B H0 G H [r] xs):∃ v,xs=[v]/\gv K B H0 G H r v:=by
 obtain ⟨v,r',rfl,h1,h2⟩:=h;cases (show r'=[] from h2);exact ⟨v,rfl,h1⟩
theorem e7.two {K:ae} {B H0 G H:Hp} {r r2:Rv} {xs:List V} (h:e7 K B H0 G H [r,r2] xs):∃ v v2,xs=[v,v2]/\gv K B H0 G H r v/\gv K B H0 G H r2 v2:=by
 obtain ⟨v,r',rfl,h1,h2⟩:=h
 obtain ⟨v2,rfl,h3⟩:=e7.one h2
 exact ⟨v,v2,rfl,h1,h3⟩
noncomputable def oE:List Rv->Option Rv
 | [(_,.tup ds)]=>some (.pu,.int ds.length)
 | [(_,.lst ds)]=>some (.pu,.int ds.length)
 | _=>none
theorem Ff {K:ae}:Cal K (fun xs H Q=>∃ p ys,xs=[.ref p]/\(SqL K H p ys\/SqT K H p ys)/\Q (.int ys.length) H) oE:=by
 intro B H0 G H rs c xs Q sg ra e k
 unfold oE at e
 split at e
 ·cases e
  obtain ⟨v,rfl,h⟩:=e7.one ra
  obtain ⟨p,ys,rfl,q,d,_⟩:=h.tup sg
  exact ⟨p,ys,rfl,.inr (SqT.of q),by rw [d.length];exact k _ G H (Ext.refl sg) rfl⟩
 ·cases e
  obtain ⟨v,rfl,h⟩:=e7.one ra
  obtain ⟨p,ys,rfl,q,d⟩:=h.lst sg
  exact ⟨p,ys,rfl,.inl q,by rw [d.length];exact k _ G H (Ext.refl sg) rfl⟩
 ·cases e
noncomputable def fV:List Rv->Option Rv
 | [(_,.tup ds)]=>some (.pu,.tup ds)
 | [(_,.lst ds)]=>some (.pu,.tup ds)
 | _=>none
theorem yG {K:ae}:Cal K (fun xs H Q=>∃ p ys,xs=[.ref p]/\((SqL K H p ys/\∀ l,H l=none->Q (.ref l) (upd H l (.tup ys)))\/(SqT K H p ys/\Q (.ref p) H))) fV:=by
 intro B H0 G H rs c xs Q sg ra e k
 unfold fV at e
 split at e
 ·cases e
  obtain ⟨v,rfl,h⟩:=e7.one ra
  obtain ⟨p,ys,rfl,q,d,g⟩:=h.tup sg
  exact ⟨p,ys,rfl,.inr ⟨SqT.of q,k _ G H (Ext.refl sg) ⟨p,ys,rfl,g,d⟩⟩⟩
 ·cases e
  obtain ⟨v,rfl,h⟩:=e7.one ra
  obtain ⟨p,ys,rfl,q,d⟩:=h.lst sg
  exact ⟨p,ys,rfl,.inl ⟨q,fun l hl=>k _ _ _ (Ext.new sg hl) ⟨l,ys,rfl,aU,cD.mono (cj (sg.free hl)) _ d⟩⟩⟩
 ·cases e
noncomputable def mq:List Rv->Option Rv
 | [(_,.tup ds)]=>some (.fr,.lst ds)
 | [(_,.lst ds)]=>some (.fr,.lst ds)
 | _=>none
theorem Bq {K:ae}:Cal K (fun xs H Q=>∃ p ys,xs=[.ref p]/\(SqL K H p ys\/SqT K H p ys)/\∀ l,H l=none->Q (.ref l) (upd H l (.lst ys))) mq:=by
 intro B H0 G H rs c xs Q sg ra e k
 unfold mq at e
 split at e
 ·cases e
  obtain ⟨v,rfl,h⟩:=e7.one ra
  obtain ⟨p,ys,rfl,q,d,g⟩:=h.tup sg
  exact ⟨p,ys,rfl,.inr (SqT.of q),fun l hl=>k _ _ _ (Ext.own sg hl) ⟨l,_,rfl,hl,sg.free hl,aU,ys,rfl,d⟩⟩
 ·cases e
  obtain ⟨v,rfl,h⟩:=e7.one ra
  obtain ⟨p,ys,rfl,q,d⟩:=h.lst sg
  exact ⟨p,ys,rfl,.inl q,fun l hl=>k _ _ _ (Ext.own sg hl) ⟨l,_,rfl,hl,sg.free hl,aU,ys,rfl,d⟩⟩
 ·cases e
end
section
variable {X:Cx} {a b c:aR} {pos:d4} {fa fb fc:Rho->Option Rv}
noncomputable def tb (f:Rho->Option Rv):Rho->Option Bool:=fun ρ=>match f ρ with
 | some (_,.bl b)=>some b
 | _=>none
noncomputable def CR2 (X:Cx) (o:oG) (op:Rv->Rv->Option Rv):Prop:=∃ r,OpR X (dq o) r/\Op2 X.K r op
theorem KM {o:oG} {op:Rv->Rv->Option Rv} (h:CR2 X o op) (ha:PX X a fa) (hb:PX X b fb) (hm:d5 o b=false:=by first | exact wb _ | with_unfolding_all rfl):PX X (.Compare a [o] [b] pos) (x2 op fa fb) :=
 let ⟨_,h1,h2⟩:=h;Gk h1 h2 ha hb hm
theorem JW {o:oG} {op:Rv->Rv->Option Rv} (h:CR2 X o op) (ha:PX X a fa) (hb:PX X b fb) (hm:d5 o b=false:=by first | exact wb _ | with_unfolding_all rfl):PXT X (.Compare a [o] [b] pos) (tb (x2 op fa fb)):=by
 obtain ⟨r,h1,h2⟩:=h
 refine PT.imp (Fb h1 ha hb hm) fun σ H Q q=>?_
 obtain ⟨B,G,ρ,b,sg,sb,st,e,k⟩:=q
 unfold tb at e
 split at e
 ·rename_i kd b' q
  cases e
  exact Ic h2 ⟨B,G,ρ,_,sg,sb,st,q,fun v G1 H1 E1 r1=>⟨b,r1.bl,k G1 H1 E1⟩⟩
 ·cases e
theorem Kq (hu:X.A.units+64<cg):CR2 X .Lt oLt:=⟨_,J7.or (Hm (by lia)),EX.or DH⟩
theorem Ks (hu:X.A.units+64<cg):CR2 X .Eq (oEq false):=⟨_,Ih hu,Df⟩
theorem FE (hu:X.A.units+64<cg):CR2 X .NotEq (oEq true):=⟨_,IJ hu,Df⟩
theorem DL (hu:X.A.units+64<cg):CR2 X .In (oIn false):=⟨_,(Ge (by lia)).or (Iu hu),yF.or AT⟩
theorem J9 (hu:X.A.units+64<cg):CR2 X .NotIn (oIn true):=⟨_,(EL (by lia)).or (Fc hu),yF.or AT⟩
noncomputable def oIs (neg:Bool):Rv->Rv->Option Rv
 | (_,.bl i),(_,.bl j)=>some (.pu,.bl (if neg then !(i == j) else i == j))
 | _,_=>none
noncomputable def GL (op op':Rv->Rv->Option Rv) (fa fb fc:Rho->Option Rv):Rho->Option Rv:=fun ρ=>match fa ρ,fb ρ with
 | some a,some b=>match op a b with
   | some (_,.bl true)=>match fc ρ with
     | some c=>op' b c
     | none=>none
   | some (_,.bl false)=>some (.pu,.bl false)
   | _=>none
 | _,_=>none
variable {ta tc:Rho->Option Bool} {rest:List aR}
noncomputable def xt (ta tc:Rho->Option Bool):Rho->Option Bool:=fun ρ=>match ta ρ with
 | some true=>tc ρ
 | some false=>some false
 | none=>none
noncomputable def FP (ta tc:Rho->Option Bool):Rho->Option Bool:=fun ρ=>match ta ρ with
 | some true=>some true
 | some false=>tc ρ
 | none=>none
theorem F3 {K:ae} {σ:St} {H:Hp} {Q:Bool->Hp->Prop} (q:tXT K (xt ta tc) σ H Q):KD (tXT K ta) (tXT K tc) σ H Q:=by
 obtain ⟨B,G,ρ,r,sg,sb,st,e,k⟩:=q
 unfold xt at e
 split at e
 ·rename_i ea
  exact ⟨B,G,ρ,true,sg,sb,st,ea,fun G1 H1 E1=>by dsimp only;rw [if_pos rfl];exact ⟨B,G1,ρ,r,E1.gh,sb.trans E1.hh,st.ext E1,e,fun G2 H2 E2=>k G2 H2 (E1.trans E2)⟩⟩
 ·rename_i ea
  cases e
  exact ⟨B,G,ρ,false,sg,sb,st,ea,fun G1 H1 E1=>by dsimp only;rw [if_neg aM];exact k G1 H1 E1⟩
 ·cases e
theorem JD {K:ae} {σ:St} {H:Hp} {Q:Bool->Hp->Prop} (q:tXT K (FP ta tc) σ H Q):tOr (tXT K ta) (tXT K tc) σ H Q:=by
 obtain ⟨B,G,ρ,r,sg,sb,st,e,k⟩:=q
 unfold FP at e
 split at e
 ·rename_i ea
  cases e
  exact ⟨B,G,ρ,true,sg,sb,st,ea,fun G1 H1 E1=>by dsimp only;rw [if_pos rfl];exact k G1 H1 E1⟩
 ·rename_i ea
  exact ⟨B,G,ρ,false,sg,sb,st,ea,fun G1 H1 E1=>by dsimp only;rw [if_neg aM];exact ⟨B,G1,ρ,r,E1.gh,sb.trans E1.hh,st.ext E1,e,fun G2 H2 E2=>k G2 H2 (E1.trans E2)⟩⟩
 ·cases e
theorem BC (ha:PXT X a ta):PXW X (.BoolOp .And [a] pos) ta:=Es ha
theorem Ew (ha:PXT X a ta):PXW X (.BoolOp .Or [a] pos) ta:=Dx ha
theorem DJ (ha:PXT X a ta) (hb:PXW X (.BoolOp .And (b::rest) pos) tc):PXW X (.BoolOp .And (a::b::rest) pos) (xt ta tc):=PW.imp (Il ha hb) fun _ _ _ q=>F3 q
theorem HH (ha:PXT X a ta) (hb:PXW X (.BoolOp .Or (b::rest) pos) tc):PXW X (.BoolOp .Or (a::b::rest) pos) (FP ta tc):=PW.imp (Gz ha hb) fun _ _ _ q=>JD q
theorem JP {e:aR} (h:PXW X e ta):PXT X e ta:=h.pt
noncomputable def Kl (ta:Rho->Option Bool):Rho->Option Bool:=fun ρ=>(ta ρ).map (!·)
noncomputable def FQ (fa fb:Rho->Option Rv):Rho->Option Rv:=fun ρ=>match fa ρ with
 | some (_,.bl true)=>fb ρ
 | some (_,.bl false)=>some (.pu,.bl false)
 | _=>none
noncomputable def xOr (fa fb:Rho->Option Rv):Rho->Option Rv:=fun ρ=>match fa ρ with
 | some (_,.bl true)=>some (.pu,.bl true)
 | some (_,.bl false)=>fb ρ
 | _=>none
noncomputable def Kw (fa:Rho->Option Rv):Rho->Option Rv:=fun ρ=>match fa ρ with
 | some (_,.bl b)=>some (.pu,.bl (!b))
 | _=>none
theorem F4 {op} (h:PX X a fa):PX X (.BoolOp op [a] pos) fa:=GV h
theorem HA (ha:PX X a fa) (hb:PX X (.BoolOp .And (b::rest) pos) fb):PX X (.BoolOp .And (a::b::rest) pos) (FQ fa fb):=PE.imp (Hz ha hb) fun σ H Q ⟨B,G,ρ,r,sg,sb,st,e,k⟩=>by
 unfold FQ at e
 split at e
 ·rename_i kd ea
  exact ⟨B,G,ρ,_,sg,sb,st,ea,fun v G1 H1 E1 r1=>⟨true,r1.bl,by rw [if_pos rfl];exact ⟨B,G1,ρ,r,E1.gh,sb.trans E1.hh,st.ext E1,e,fun v2 G2 H2 E2 r2=>k v2 G2 H2 (E1.trans E2) (r2.base E1.hh)⟩⟩⟩
 ·rename_i kd ea
  cases e
  exact ⟨B,G,ρ,_,sg,sb,st,ea,fun v G1 H1 E1 r1=>⟨false,r1.bl,by rw [if_neg aM];exact k _ G1 H1 E1 rfl⟩⟩
 ·cases e
noncomputable def xIf (t:Rho->Option Bool) (fa fb:Rho->Option Rv):Rho->Option Rv:=fun ρ=>match t ρ with
 | some true=>fa ρ
 | some false=>fb ρ
 | none=>none
theorem JQ (hc:PXT X c ta) (ha:PX X a fa) (hb:PX X b fb):PX X (.IfExp c a b pos) (xIf ta fa fb):=PE.imp (B4 hc ha hb) fun σ H Q ⟨B,G,ρ,r,sg,sb,st,e,k⟩=>by
 unfold xIf at e
 split at e
 ·rename_i ea
  exact ⟨B,G,ρ,true,sg,sb,st,ea,fun G1 H1 E1=>by dsimp only;rw [if_pos rfl];exact ⟨B,G1,ρ,r,E1.gh,sb.trans E1.hh,st.ext E1,e,fun v2 G2 H2 E2 r2=>k v2 G2 H2 (E1.trans E2) (r2.base E1.hh)⟩⟩
 ·rename_i ea
  exact ⟨B,G,ρ,false,sg,sb,st,ea,fun G1 H1 E1=>by dsimp only;rw [if_neg aM];exact ⟨B,G1,ρ,r,E1.gh,sb.trans E1.hh,st.ext E1,e,fun v2 G2 H2 E2 r2=>k v2 G2 H2 (E1.trans E2) (r2.base E1.hh)⟩⟩
 ·cases e
noncomputable def trD:Da->Option Bool
 | .non=>some false
 | .bl b=>some b
 | .int i=>some (i != 0)
 | .tup ds=>some (!ds.isEmpty)
 | .lst ds=>some (!ds.isEmpty)
 | _=>none
noncomputable def tTr (f:Rho->Option Rv):Rho->Option Bool:=fun ρ=>match f ρ with
 | some r=>trD r.2
 | none=>none
theorem n8 {α β:Type} {l:List α} {m:List β} (h:l.length=m.length):l.isEmpty=m.isEmpty:=by
 cases l<;>cases m<;>first | rfl | cases h
theorem IT (ha:PX X a fa) (he:∀ whole,isTrue a X.env whole=(do let v <- whole;tO a.pos;tP [v] (truthy v)):=by intro _;rfl):PXT X a (tTr fa):=PT.imp (BZ ha he) fun σ H Q ⟨B,G,ρ,b,sg,sb,st,e,k⟩=>by
 unfold tTr at e
 split at e
 ·rename_i r er
  obtain ⟨kd,d⟩:=r
  refine ⟨B,G,ρ,_,sg,sb,st,er,fun v G1 H1 E1 r1=>⟨b,?_,k G1 H1 E1⟩⟩
  cases d with
  | non=>cases e;cases r1.non;rfl
  | bl b=>cases e;cases r1.bl;rfl
  | int i=>cases e;cases r1.int;rfl
  | str x=>cases e
  | tup ds=>cases e;obtain ⟨p,xs,rfl,q,dl,_⟩:=r1.tup E1.gh;exact .inr (.inl ⟨xs,SqT.of q,by rw [n8 dl.length]⟩)
  | lst ds=>cases e;obtain ⟨p,xs,rfl,q,dl⟩:=r1.lst E1.gh;exact .inl ⟨xs,q,by rw [n8 dl.length]⟩
  | dK ks ds=>cases e
  | dT ks ds=>cases e
 ·cases e
end
noncomputable def spD (K:ae) (n:Nat) (fn:List Da->Option Da):Sp:=fun vs H Q _=>∃ G ds d,ds.length=n/\cG G H/\Tbs K G/\cD K G ds vs/\fn ds=some d/\∀ v G' H',Ext G H G' H'->Den K G' d v->Q v H'
noncomputable def cm (fn:List Da->Option Da) (g:Rho->Option (List Rv)):Rho->Option Rv:=fun ρ=>match g ρ with
 | none=>none
 | some rs=>match ji rs with
   | none=>none
   | some ds=>match fn ds with
     | none=>none
     | some d=>some (.pu,d)
theorem nY:∀ {rs:List Rv} {ds:List Da},ji rs=some ds->ds.length=rs.length
 | [],ds,h=>by cases h;rfl
 | (k,d)::rs,ds,h=>by
   unfold ji at h
   split at h
   ·cases q:ji rs with
    | none=>rw [q] at h;cases h
    | some ds'=>rw [q] at h;cases h;rw [aJ,aJ,nY q]
   ·cases h
theorem EM {X:Cx} {k n:Nat} {f:au} {fd:cJ} {ps:List bv} {fn:List Da->Option Da} {x:bv} {p pos:d4} {e:aR} {es:List aR} {g:Rho->Option (List Rv)} (F:rH X.prog X.w X.K X.mg X.base CX0 k f fd ps (spD X.K n fn)) (hr:iz k X.A) (hg:Gl X x) (hm:X.mg x=some (.ref f))
 (hk:eI X.K (.ref f)=true) (hb:o5 X.K fd ps []) (ha:PXA X (e::es) g) (hlen:∀ ρ rs,g ρ=some rs->rs.length=n) (hdb:(x == ("__debug__" : bv))=false:=by decide) (he:ao (e::es) X.env=(false,bL e X.env)::ao es X.env:=by exact bD rfl)
 (hpl:(bZ pos (ao es X.env)).any (·.1)=false:=by rfl):PX X (.Call (.Name x p) (e::es) [] pos) (cm fn g) :=
 PE.imp (qd F hr hg hm hk hb .nil CO ha hdb he hpl) fun σ H Q ⟨B,G,ρ,r,sg,sb,st,e,kk⟩=>by
  unfold cm at e
  split at e
  ·cases e
  ·rename_i rs er
   split at e
   ·cases e
   ·rename_i ds ed
    split at e
    ·cases e
    ·rename_i d ef
     cases e
     refine ⟨B,G,ρ,rs,sg,sb,st,er,fun vs G1 H1 E1 r1=>?_⟩
     obtain ⟨G2,E2,s12,d2⟩:=r1.pure E1 ed
     refine ⟨G2,ds,d,by rw [nY ed];exact hlen ρ rs er,E2.gh,st.tg.mono E2.gg,by rw [cC];exact d2,ef,fun v G3 H3 E3 r3=>kk v G3 H3 (E2.trans E3) r3⟩
theorem bK:∀ ρ rs,bU ρ=some rs->rs.length=0:=fun _ _ h=>by cases h;rfl
theorem aP {n:Nat} {f:Rho->Option Rv} {g:Rho->Option (List Rv)} (h:∀ ρ rs,g ρ=some rs->rs.length=n):∀ ρ rs,aH f g ρ=some rs->rs.length=n+1:=fun ρ rs e=>by
 unfold aH at e
 split at e
 ·cases e
 ·split at e
  ·cases e
  ·rename_i rs' er
   cases e
   rw [aJ,h ρ rs' er]
inductive Res where
 | nx (ρ:Rho) | rt (d:Da) | bk (ρ:Rho) | ct (ρ:Rho) | bad
noncomputable def Di (K:ae) (B G0 Gs:Hp) (D:Ef):Res->Prop
 | .nx ρ=>∀ σ G H,Ext G0 B G H->cG Gs G->hZ K B G H σ ρ->D.nx σ H
 | .rt d=>∀ v G H,Ext G0 B G H->cG Gs G->Den K G d v->D.rt v H
 | .bk ρ=>∀ σ G H,Ext G0 B G H->cG Gs G->hZ K B G H σ ρ->D.bk σ H
 | .ct ρ=>∀ σ G H,Ext G0 B G H->cG Gs G->hZ K B G H σ ρ->D.ct σ H
 | .bad=>False
theorem Di.mono {K:ae} {B G0 Gs Gt:Hp} {D:Ef} {r:Res} (h:Di K B G0 Gs D r) (s:cG Gs Gt):Di K B G0 Gt D r:=by
 cases r with
 | nx ρ=>exact fun σ G H E t st=>h σ G H E (s.trans t) st
 | rt d=>exact fun v G H E t st=>h v G H E (s.trans t) st
 | bk ρ=>exact fun σ G H E t st=>h σ G H E (s.trans t) st
 | ct ρ=>exact fun σ G H E t st=>h σ G H E (s.trans t) st
 | bad=>exact h
noncomputable def tS (K:ae) (g:Rho->Res):TS:=fun D σ H=>∃ B G0 G ρ,Ext G0 B G H/\hZ K B G H σ ρ/\Di K B G0 G D (g ρ)
noncomputable abbrev PXS (X:Cx) (st:cq) (g:Rho->Res):Prop:=PS X st (tS X.K g)
noncomputable abbrev wl (X:Cx) (st:List cq) (g:Rho->Res):Prop:=PSs X st (tS X.K g)
section
variable {X:Cx} {st:cq} {rest:List cq} {g h:Rho->Res} {pos pos':d4} {e:aR} {f:Rho->Option Rv}
noncomputable def mr:Rho->Res:=fun ρ=>.nx ρ
noncomputable def gw (g h:Rho->Res):Rho->Res:=fun ρ=>match g ρ with
 | .nx ρ'=>h ρ'
 | r=>r
theorem Fs:wl X [] mr:=PSs.imp qp fun D σ H ⟨B,G0,G,ρ,E,st,k⟩=>k σ G H E (cG.refl _) st
theorem Bn (h1:PXS X st g) (h2:wl X rest h):wl X (st::rest) (gw g h):=PSs.imp (fQ h1 h2) fun D σ H ⟨B,G0,G,ρ,E,st,k⟩=>by
 refine ⟨B,G0,G,ρ,E,st,?_⟩
 unfold gw at k
 cases q:g ρ with
 | nx ρ'=>rw [q] at k;exact fun σ' G' H' E' s' st'=>⟨B,G0,G',ρ',E',st',k.mono s'⟩
 | rt d=>rw [q] at k;exact k
 | bk ρ'=>rw [q] at k;exact k
 | ct ρ'=>rw [q] at k;exact k
 | bad=>rw [q] at k;exact k
theorem EA (h1:PXS X st g):wl X [st] g:=ig h1
noncomputable def KY (f:Rho->Option Rv):Rho->Res:=fun ρ=>match f ρ with
 | some r=>if r.1=.pu\/mS r.2=false then .rt r.2 else .bad
 | none=>.bad
noncomputable def sIf (t:Rho->Option Bool) (g h:Rho->Res):Rho->Res:=fun ρ=>match t ρ with
 | some true=>g ρ
 | some false=>h ρ
 | none=>.bad
theorem GJ {c:aR} {a b:List cq} {t:Rho->Option Bool} (hc:PXT X c t) (ha:wl X a g) (hb:wl X b h):PXS X (.If c a b pos) (sIf t g h):=PS.imp (Cz hc ha hb) fun D σ H ⟨B,G0,G,ρ,E,st,k⟩=>by
 unfold sIf at k
 cases q:t ρ with
 | none=>rw [q] at k;exact k.elim
 | some b =>
   rw [q] at k
   refine ⟨B,G,ρ,b,E.gh,E.hh,st,q,fun G1 H1 E1=>?_⟩
   cases b with
   | true=>rw [if_pos rfl];exact ⟨B,G0,G1,ρ,E.trans E1,st.ext E1,k.mono E1.gg⟩
   | false=>rw [if_neg aM];exact ⟨B,G0,G1,ρ,E.trans E1,st.ext E1,k.mono E1.gg⟩
noncomputable def j9 (i:Nat) (f:Rho->Option Rv):Rho->Res:=fun ρ=>match f ρ with
 | some r=>if eG r=true then .nx (ρ.set i (.pu r.2)) else .bad
 | none=>.bad
theorem Fg {i:Nat} {x:bv} (hN:X.N.Nodup) (he:PX X e f) (hi:X.N[i]?=some x:=by rfl) (hx:Loc X.env.scope x:=by first | exact cR rfl | exact cL rfl) (hs:eX e (some (.Name x pos')) pos.line X.env=pure false:=by rfl)
 (hf:X.fn x=true\/X.env.scope.names.lookup x=some .local:=by first | exact .inl rfl | exact .inr rfl | assumption):PXS X (.Assign [.Name x pos'] e pos) (j9 i f) :=
 PS.imp (pW hN hi hx he hs hf) fun D σ H ⟨B,G0,G,ρ,E,st,k⟩=>by
  unfold j9 at k
  cases q:f ρ with
  | none=>rw [q] at k;exact k.elim
  | some r =>
    rw [q] at k
    dsimp only at k
    split at k
    ·rename_i hk
     refine ⟨B,G,ρ,r,E.gh,E.hh,st,q,fun v G1 H1 E1 r1=>?_⟩
     obtain ⟨G2,E2,_,d2⟩:=r1.pure E1 hk
     exact k _ G2 H1 (E.trans E2) E2.gg ((st.ext E2).setPu d2)
    ·exact k.elim
noncomputable def wQ (i:Nat) (f:Rho->Option Rv):Rho->Res:=fun ρ=>match f ρ with
 | some (.fr,d)=>.nx (ρ.set i (.ow d))
 | _=>.bad
theorem Ez {i:Nat} {x:bv} (hN:X.N.Nodup) (he:PX X e f) (hi:X.N[i]?=some x:=by rfl) (hx:Loc X.env.scope x:=by first | exact cR rfl | exact cL rfl) (hs:eX e (some (.Name x pos')) pos.line X.env=pure false:=by rfl)
 (hf:X.fn x=true\/X.env.scope.names.lookup x=some .local:=by first | exact .inl rfl | exact .inr rfl | assumption):PXS X (.Assign [.Name x pos'] e pos) (wQ i f) :=
 PS.imp (pW hN hi hx he hs hf) fun D σ H ⟨B,G0,G,ρ,E,st,k⟩=>by
  unfold wQ at k
  split at k
  ·rename_i d q
   refine ⟨B,G,ρ,_,E.gh,E.hh,st,q,fun v G1 H1 E1 r1=>?_⟩
   obtain ⟨l,o,rfl,n,g,qh,r⟩:=r1
   refine k _ G1 H1 (E.trans E1) E1.gg ((st.ext E1).setOw (E.hh.free n) g qh r fun j d' hj ej z=>?_)
   obtain ⟨l',o',a,_,_,f',_⟩:=st.ow j d' ej
   rw [a] at z
   cases z
   rw [n] at f';cases f'
  ·exact k.elim
theorem Fu (i:Nat) (h1:PXS X st g):PXS X st (fun ρ=>g (frz i ρ)):=PS.imp h1 fun D σ H ⟨B,G0,G,ρ,E,st,k⟩=>by
 obtain ⟨G',E',s',st'⟩:=st.frz i E
 exact ⟨B,G0,G',_,E',st',k.mono s'⟩
noncomputable def Js (f:Rho->Option Rv):Rho->Res:=fun ρ=>match f ρ with
 | some _=>.nx ρ
 | none=>.bad
noncomputable def kX (i:Nat) (f:Rho->Option Rv):Rho->Res:=fun ρ=>match ρ[i]?,f ρ with
 | some (.ow (.lst ds)),some r=>if eG r=true/\ds.length<=1000000 then .nx (ρ.set i (.ow (.lst (ds++[r.2])))) else .bad
 | _,_=>.bad
theorem wY {i:Nat} {x:bv} {p1 apos cpos:d4} (he:PX X e f) (hN:X.N[i]?=some x:=by rfl) (hv:Vis X.env.scope x:=by first | exact cR rfl | exact cL (cR rfl) | exact cL (cL rfl)) (hd:(x == ("__debug__" : bv))=false:=by decide)
 (hcd:(x == ("__classdict__" : bv))=false:=by decide)
 (hs:eX (.Call (.Attribute (.Name x p1) "append" apos) [e] [] cpos) none pos.line X.env=pure false:=by rfl) (hbase:d6 (.Name x p1) "append" X.env (bL (.Name x p1) X.env)=bL (.Name x p1) X.env:=by rfl)
 (hfew:((bZ cpos (ao [e] X.env)).all (fun x=>!x.1)&&(iE cpos (fm [] X.env)).all (fun x=>x.1.isSome)&&decide (([e]:List aR).length+([]:List f9).length+(if ([]:List f9).isEmpty then 0 else 1)<30))=true:=by rfl)
 (hline:(apos.endLine == cpos.line)=true:=by rfl) (hst:ao [e] X.env=[(false,bL e X.env)]:=by exact bD rfl) (hplain:(bZ cpos (ao [] X.env)).any (·.1)=false:=by rfl) :
 PXS X (.Expr (.Call (.Attribute (.Name x p1) "append" apos) [e] [] cpos) pos) (kX i f) :=
 PS.imp (uK (D9 iT PySem.F.slot_list_append PySem.F.type_list_append sY (sO hN hv hd hcd) (e6 he jx hst) hbase hfew hline hst hplain) hs) fun D σ H ⟨B,G0,G,ρ,E,st,k⟩=>by
  unfold kX at k
  split at k
  ·rename_i ds r eo ef
   split at k
   ·rename_i hk
    obtain ⟨l,o,a,nb,ng,hl,xs,rfl,dl⟩:=st.ow i _ eo
    refine ⟨_,a,.inl ⟨rfl,xs,SqL.of hl⟩,B,G,ρ,_,E.gh,E.hh,st,ef,fun v G1 H1 E1 r1=>?_⟩
    obtain ⟨G2,E2,_,d2⟩:=r1.pure E1 hk.1
    have hs:aK=16777216:=bu
    have ln:=dl.length
    refine ⟨l,xs,v,rfl,rfl,E1.hh _ _ hl,by lia,?_⟩
    have st2:=st.ext E2
    have g2:G2 l=none:=E2.nw _ _ hl rfl ng
    exact k _ G2 _ ((E.trans E2).mut nb g2) E2.gg (st2.mut eo a ⟨_,rfl,cD.append (cD.mono E2.gg _ dl) (cD.one d2)⟩)
   ·exact k.elim
  ·exact k.elim
end
section
variable {X:Cx} {pins:List (au×cX)} {σ:St} {H:Hp} {s:ai} {l:au}
noncomputable def qu (u:HO):Prop:=(∃ kvs,u=.dK kvs)\/∃ kvs,u=.dT kvs
theorem Cv {u:HO} (I:Inv X pins σ H s) (e:H l=some u) (hu:qu u):∃ o,Inv X pins σ (upd H l (.frz o u)) s:=by
 have ok:=I.hok l u e
 obtain ⟨o,ho⟩:∃ o,s.heap.get? l=some o:=by
  rcases hu with ⟨kvs,rfl⟩ | ⟨kvs,rfl⟩
  ·obtain ⟨_,_,vs,_,o,_,_,q,_⟩:=ok;exact ⟨o,q⟩
  ·obtain ⟨_,_,xs,_,o,_,_,q,_⟩:=ok;exact ⟨o,q⟩
 have nn:∀ {b:au},H b=none->b≠l:=fun n z=>by rw [z,e] at n;cases n
 have nt:∀ {b:au} {w:HO},H b=some w->¬ qu w->b≠l:=fun q n z=>by rw [z,e] at q;cases q;exact n hu
 have n1:∀ xs,¬ qu (.tup xs):=fun xs z=>by rcases z with ⟨_,z⟩ | ⟨_,z⟩<;>cases z
 have n2:∀ ob w,¬ qu (.frz ob w):=fun ob w z=>by rcases z with ⟨_,z⟩ | ⟨_,z⟩<;>cases z
 have n3:∀ ps,¬ qu (.tbl ps):=fun ps z=>by rcases z with ⟨_,z⟩ | ⟨_,z⟩<;>cases z
 have n4:∀ y,¬ qu (.own y):=fun y z=>by rcases z with ⟨_,z⟩ | ⟨_,z⟩<;>cases z
 refine ⟨o,I.ok,I.os,I.bare,⟨I.base.keep,I.base.slot,fun b ob q n hx=>?_,I.base.there,fun b xs q=>?_,fun b ob w q=>?_,fun b ps q=>?_⟩,I.loc,I.cell,?_,fun x c q=>?_,fun p hp=>?_,fun b v q=>?_,I.len⟩
 ·have z:=I.base.free b ob q n hx
  rw [a8 (nn z)];exact z
 ·have z:=I.base.tups b xs q
  rw [a8 (nt z (n1 xs))];exact z
 ·have z:=I.base.frzs b ob w q
  rw [a8 (nt z (n2 ob w))];exact z
 ·obtain ⟨m,z⟩:=I.base.tbls b ps q
  exact ⟨m,by rw [a8 (nt z (n3 _))];exact z⟩
 ·rw [a8 (nn I.free)];exact I.free
 ·rw [a8 (nn (I.freeC x c q))];exact I.freeC x c q
 ·obtain ⟨a,b,c⟩:=I.pin p hp
  exact ⟨a,by rw [a8 (nn b)];exact b,c⟩
 ·have hown:∀ c y,H c=some (.own y)->upd H l (.frz o u) c=some (.own y):=fun c y z=>by rw [a8 (nt z (n4 y))];exact z
  have htup:∀ c xs,H c=some (.tup xs)->upd H l (.frz o u) c=some (.tup xs):=fun c xs z=>by rw [a8 (nt z (n1 xs))];exact z
  have hcod:∀ c x,H c=some (.cod x)->upd H l (.frz o u) c=some (.cod x):=fun c x z=>by rw [a8 (nt z (fun y=>by rcases y with ⟨_,y⟩ | ⟨_,y⟩<;>cases y))];exact z
  by_cases hb:b=l
  ·subst hb
   rw [aU] at q
   cases q
   exact ⟨ho,ok.stay (fun _ _ _ z=>z) (fun c z=>hown c _ z) htup hcod⟩
  ·rw [a8 hb] at q
   exact (I.hok b v q).stay (fun _ _ _ z=>z) (fun c z=>hown c _ z) htup hcod
end
noncomputable def jb (f:Rho->Option Rv):Rho->Option Rv:=fun ρ=>match f ρ with
 | some (.fr,d)=>some (.pu,d)
 | r=>r
theorem Holds.dct {K:ae} {G:Hp} {d:Da} {o:HO} (h:Holds K G d o) (nd:mS d=true):qu o/\∀ (l:au) (ob:cX),G l=some (.frz ob o)->Den K G d (.ref l):=by
 cases d with
 | dK ks ds=>obtain ⟨kvs,rfl,k,r⟩:=h;exact ⟨.inl ⟨kvs,rfl⟩,fun l ob e=>⟨l,ob,kvs,rfl,e,k,r⟩⟩
 | dT ks ds=>obtain ⟨kvs,rfl,k,r⟩:=h;exact ⟨.inr ⟨kvs,rfl⟩,fun l ob e=>⟨l,ob,kvs,rfl,e,k,r⟩⟩
 | _=>cases nd
theorem As {X:Cx} {e:aR} {f:Rho->Option Rv} (h:PX X e f):PX X e (jb f):=by
 intro pins s σ H Q I ⟨B,G,ρ,r,sg,sb,st,eq,k⟩
 unfold jb at eq
 split at eq
 ·rename_i d q
  cases eq
  refine thn (h pins s σ H (fun v H1=>∃ G1,Ext G H G1 H1/\gv X.K B H G1 H1 (.fr,d) v) I ⟨B,G,ρ,_,sg,sb,st,q,fun v G1 H1 E1 r1=>⟨G1,E1,r1⟩⟩) fun u s1 ⟨v,H1,I1,rv,G1,E1,r1⟩=>?_
  by_cases nd:mS d=true
  ·obtain ⟨l,o,rfl,n,g,ql,hd⟩:=r1
   obtain ⟨hdct,hden⟩:=(hd.mono (cj (o:=o) g)).dct nd
   obtain ⟨ob,I2⟩:=Cv I1 ql (hd.dct nd).1
   refine ⟨.ref l,_,I2,rv,k _ (upd G1 l (.frz ob o)) _ ⟨fun b w z=>?_,E1.gg.trans (cj g),jZ E1.gh,fun b w z t y=>?_⟩ ?_⟩
   ·rw [a8 (bV z n)];exact E1.hh b w z
   ·rw [a8 (bV z n)];exact E1.nw b w z t y
   ·exact ((hd.mono (cj (o:=.frz ob o) g)).dct nd).2 l ob aU
  ·obtain ⟨G2,E2,_,d2⟩:=r1.pure E1 (by simpa [eG] using nd)
   exact ⟨v,H1,I1,rv,k v G2 H1 E2 d2⟩
 ·exact h pins s σ H Q I ⟨B,G,ρ,r,sg,sb,st,eq,k⟩
noncomputable def fj (f:Rho->Option Rv):Rho->Res:=fun ρ=>match f ρ with
 | some r=>.rt r.2
 | none=>.bad
theorem BA {X:Cx} {e:aR} {f:Rho->Option Rv} {pos:d4} (he:PX X e f):PXS X (.Return (some e) pos) (fj f):=by
 intro pins s σ H D I ⟨B,G0,G,ρ,E,st,k⟩
 unfold fj at k
 cases q:f ρ with
 | none=>rw [q] at k;exact k.elim
 | some r =>
   rw [q] at k
   refine thn (pN (pos:=pos) he pins s σ H { nx:=fun _ _=>False,rt:=fun v H1=>∃ G1,Ext G H G1 H1/\gv X.K B H G1 H1 r v } I ⟨B,G,ρ,r,E.gh,E.hh,st,q,fun v G1 H1 E1 r1=>⟨G1,E1,r1⟩⟩) fun fl s1 h1=>?_
   cases fl with
   | next=>obtain ⟨_,_,_,z⟩:=h1;exact z.elim
   | brk=>obtain ⟨_,_,_,z⟩:=h1;exact z.elim
   | cont=>obtain ⟨_,_,_,z⟩:=h1;exact z.elim
   | ret u =>
     obtain ⟨v,σ1,H1,I1,rv,G1,E1,r1⟩:=h1
     by_cases nd:r.1=.pu\/mS r.2=false
     ·obtain ⟨G2,E2,s2,d2⟩:=r1.pureB E.hh (E.trans E1) nd
      exact ⟨v,σ1,H1,I1,rv,k v G2 H1 E2 (E1.gg.trans s2) d2⟩
     ·obtain ⟨kd,d⟩:=r
      have hk:¬ kd=.pu:=fun z=>nd (.inl z)
      have hd:mS d=true:=by
       cases z:mS d with
       | true=>rfl
       | false=>exact absurd (.inr z) nd
      have go:∃ l o,v=.ref l/\B l=none/\G1 l=none/\H1 l=some o/\Holds X.K G1 d o:=by
       cases kd with
       | pu=>exact absurd rfl hk
       | bo =>
         obtain ⟨l,o,rfl,nb,g,ql,hh⟩:=r1
         exact ⟨l,o,rfl,nb,g,ql,hh⟩
       | fr=>obtain ⟨l,o,rfl,n,g,ql,hh⟩:=r1;exact ⟨l,o,rfl,E.hh.free n,g,ql,hh⟩
      obtain ⟨l,o,rfl,nb,g,ql,hh⟩:=go
      obtain ⟨ob,I2⟩:=Cv I1 ql (hh.dct hd).1
      have E2:=E.trans E1
      refine ⟨.ref l,σ1,_,I2,rv,k _ (upd G1 l (.frz ob o)) _ ⟨fun b w z=>?_,E2.gg.trans (cj g),jZ E2.gh,fun b w z t y=>?_⟩ (E1.gg.trans (cj g)) ?_⟩
      ·rw [a8 (bV z nb)];exact E2.hh b w z
      ·rw [a8 (bV z nb)];exact E2.nw b w z t y
      ·exact ((hh.mono (cj (o:=.frz ob o) g)).dct hd).2 l ob aU
noncomputable def FK (K:ae) (J:It) (items:List Da) (G:Hp):Prop:=∀ (i:Nat) (G' H':Hp),cG G G'->cG G' H' ->
 (∀ d,items[i]?=some d->J.go i H'/\∀ x H'',J.yld i H' x H''->∃ G'',Ext G' H' G'' H''/\Den K G'' d x)/\(items.length=i->J.stop i H')
noncomputable def iX (K:ae) (f:Rho->Option (List Da)):TI:=fun σ H R=>∃ B G ρ ds,cG G H/\cG B H/\hZ K B G H σ ρ/\f ρ=some ds/\∀ J G' H',Ext G H G' H'->FK K J ds G'->R J H'
noncomputable abbrev PXI (X:Cx) (tg iter:aR) (f:Rho->Option (List Da)):Prop:=PI X tg iter (iX X.K f)
section
variable {X:Cx} {tg e:aR} {f:Rho->Option Rv} {pos:d4}
theorem Fd {K:ae} {G:Hp} {a:au} {xs:List V} {ds:List Da} (q:SqL K G a xs) (h:cD K G ds xs) (inj:∀ (H:Hp) (ys:List V),cG G H->SqL K H a ys->ys=xs\/True):FK K (Itl K a) ds G:=by
 intro i G' H' s1 s2
 have q2:=(s1.trans s2).seq q
 refine ⟨fun d e=>?_,fun hl=>⟨xs,q2,by rw [h.length];exact jI hl⟩⟩
 obtain ⟨x,hx,dx⟩:=h.get e
 refine ⟨⟨xs,x,q2,hx⟩,fun y H'' z=>?_⟩
 obtain ⟨rfl,z⟩:=z
 have:=z xs q2
 rw [hx] at this;cases this
 exact ⟨G',Ext.refl s2,Den.mono s1 d dx⟩
theorem Ig {K:ae} {G:Hp} {a:au} {xs:List V} {ds:List Da} (q:G a=some (.tup xs)) (h:cD K G ds xs):FK K (Itt K a) ds G:=by
 intro i G' H' s1 s2
 have q2:SqT K H' a xs:=SqT.of ((s1.trans s2) _ _ q)
 refine ⟨fun d e=>?_,fun hl=>⟨xs,q2,by rw [h.length];exact jI hl⟩⟩
 obtain ⟨x,hx,dx⟩:=h.get e
 refine ⟨⟨xs,x,q2,hx⟩,fun y H'' z=>?_⟩
 obtain ⟨rfl,z⟩:=z
 have:=z xs q2
 rw [hx] at this;cases this
 exact ⟨G',Ext.refl s2,Den.mono s1 d dx⟩
noncomputable def eW (lo:Int):Nat->List Da
 | 0=>[]
 | n+1=>.int lo::eW (lo+1) n
theorem pL:∀ (n:Nat) (lo:Int),(eW lo n).length=n
 | 0,_=>rfl
 | n+1,lo=>by unfold eW;rw [aJ,pL n]
theorem pM:∀ (n:Nat) (lo:Int) (i:Nat) (d:Da),(eW lo n)[i]?=some d->d=.int (lo+i)/\i<n
 | 0,_,_,_,h=>by simp [eW] at h
 | n+1,lo,0,d,h=>by unfold eW at h;simp at h;subst h;exact ⟨by simp,by lia⟩
 | n+1,lo,i+1,d,h=>by
   unfold eW at h
   rw [bf] at h
   obtain ⟨e,l⟩:=pM n (lo+1) i d h
   refine ⟨?_,by lia⟩
   rw [e]
   congr 1
   push_cast
   lia
theorem vI {K:ae} {G:Hp} {lo:Int} {n:Nat}:FK K (Itr lo n) (eW lo n) G:=by
 intro i G' H' s1 s2
 refine ⟨fun d e=>?_,fun hl=>?_⟩
 ·obtain ⟨rfl,hi⟩:=pM n lo i d e
  refine ⟨hi,fun y H'' z=>?_⟩
  obtain ⟨rfl,rfl⟩:=z
  exact ⟨G',Ext.refl s2,rfl⟩
 ·rw [pL] at hl;exact jI hl
noncomputable def Itd (a:au) (o:cX) (kvs:List (Key×V)):It :=
 ⟨fun i H=>H a=some (.frz o (.dK kvs))/\i<kvs.length,fun i H x H'=>H'=H/\∃ kv,kvs[i]?=some kv/\x=kV kv.1,fun i H=>H a=some (.frz o (.dK kvs))/\kvs.length=i⟩
theorem E7 {K:ae} {G:Hp} {a:au} {o:cX} {kvs:List (Key×V)} (q:G a=some (.frz o (.dK kvs))):FK K (Itd a o kvs) (kvs.map fun kv=>i7 kv.1) G:=by
 intro i G' H' s1 s2
 have q2:=(s1.trans s2) _ _ q
 refine ⟨fun d e=>?_,fun hl=>⟨q2,by rw [af] at hl;exact hl⟩⟩
 rw [aC] at e
 cases z:kvs[i]? with
 | none=>rw [z] at e;cases e
 | some kv =>
   rw [z] at e
   cases e
   refine ⟨⟨q2,(aF.mp z).1⟩,fun y H'' w=>?_⟩
   obtain ⟨rfl,kv',e',rfl⟩:=w
   rw [z] at e';cases e'
   exact ⟨G',Ext.refl s2,sM _⟩
theorem kg {pins:List (au×cX)} {σ:St} {H:Hp} {s:ai} {a:au} {o:cX} {kvs:List (Key×V)} (I:Inv X pins σ H s) (q:H a=some (.frz o (.dK kvs))) :
 s.heap.get? a=some o/\(a == cV)=false/\∃ vs,KV kvs vs/\s.heap.DictOf (cy X.prog X.w) a vs:=by
 obtain ⟨e,_,hd,vs,r,dd⟩:=I.hok a _ q
 exact ⟨e,hd,vs,r,dd⟩
theorem Ar {P:bh} {w:bT} {K:ae} {tg:aR} (a it:au) (o:cX) (kvs:List (Key×V)) (vs:List (Key×ag)) (ep:Nat) (es:Array km) (hd:o.data=.dict es ep) (rel:KV kvs vs) :
 DN P w K tg (Itd a o kvs) [it] it (fun i h=>h.IsKeyIter it a i vs.length ep) where
 mem:=by simp
 obj:=fun i h st b hb=>by
  have e:b=it:=by simpa using hb
  subst e
  obtain ⟨o,e,c,d⟩:=st
  exact ⟨o,e,fun v z=>by rw [d] at z;cases z⟩
 keep:=fun i h h' st k=>st.at fun o e=>k it (by simp) o e
 item:=by
  intro X hP hw hK hc i pins s σ H E I hf st hg
  subst hP hw hK
  obtain ⟨hq,hi⟩:=hg
  obtain ⟨ho,hm,vs',rel',dd⟩:=kg I hq
  obtain ⟨f0,f1,f2,f3,f4,f5⟩:=hf it (by simp)
  have hkv:∃ kv,kvs[i]?=some kv:=⟨kvs[i],by simp [hi]⟩
  obtain ⟨kv,hkv⟩:=hkv
  have hv:∃ kv',vs'[i]?=some kv'/\kv'.1=kv.1:=by
   have hl:=bY rel'
   have:i<vs'.length:=by lia
   refine ⟨vs'[i],by simp [this],?_⟩
   have e:=rel'.keys
   have e2:=congrArg (fun l=>l[i]?) e
   simp only [aC,hkv,cc] at e2
   rw [aj this] at e2
   simpa using e2.symm
  obtain ⟨⟨k',x'⟩,hv,hk⟩:=hv
  obtain ⟨o2,es2,ep2,e2,r2⟩:=dd
  rw [ho] at e2;cases e2
  have hep:ep2=ep:=by
   have:=r2.2.1
   rw [hd] at this;cases this;rfl
  subst hep
  have hlen:vs.length=vs'.length:=by rw [<- bY rel,<- bY rel']
  rw [hlen] at st
  refine wpAny_pyNext_dict_item (knd:=cy X.prog X.w) st ⟨o,es2,ho,r2⟩ hv fun key h' hkey st' sb=>?_
  have I1:Inv X pins σ H { s with heap:=h' }:=I.turned (t':=s.toks) (fun b o hb e=>(sb.2 b hb).trans e) f0 f1 f3 f4 f5
  obtain ⟨oi,ei,ci,di⟩:=id st'
  rw [<- hlen] at st'
  refine ⟨key,rfl,Cu (s:={ s with heap:=h' }) ei ci di (by decide) ⟨kV kv.1,H,I1,?_,⟨rfl,kv,hkv,rfl⟩,st',fun b hb=>(hf b hb).1⟩⟩
  dsimp only at hk
  subst hk
  rcases dr (show qC kv.1 key=true from hkey) with ⟨z,t,e1,e2⟩ | ⟨z,t,e1,e2⟩
  ·rw [e1,e2];exact ⟨t,rfl⟩
  ·rw [e1,e2];exact ⟨t,rfl⟩
 done:=by
  intro X hP hw hK hc i pins s σ H E I hf st hg
  subst hP hw hK
  obtain ⟨hq,hi⟩:=hg
  obtain ⟨ho,hm,vs',rel',dd⟩:=kg I hq
  obtain ⟨f0,f1,f2,f3,f4,f5⟩:=hf it (by simp)
  obtain ⟨o2,es2,ep2,e2,r2⟩:=dd
  rw [ho] at e2;cases e2
  have hep:ep2=ep:=by
   have:=r2.2.1
   rw [hd] at this;cases this;rfl
  subst hep
  have hlen:vs.length=vs'.length:=by rw [<- bY rel,<- bY rel']
  rw [hlen] at st
  have hl:=bY rel'
  exact wpAny_pyNext_dict_end (knd:=cy X.prog X.w) (I.ok.hd hc) st ⟨o,es2,ho,r2⟩ (fq (by lia)) fun h' eb=>⟨rfl,I.turned (t':=s.toks) (fun b o hb e=>eb b o hb e) f0 f1 f3 f4 f5⟩
 self:=fun _ _ _ _ _ st h=>wpAny_pyIter_keyiter st h
noncomputable def c4 (f:Rho->Option Rv):Rho->Option (List Da):=fun ρ=>match f ρ with
 | some (.pu,.lst ds)=>some ds
 | some (.pu,.tup ds)=>some ds
 | some (.pu,.dK ks _)=>some (ks.map i7)
 | _=>none
theorem uE (he:PX X e f):PXI X tg e (c4 f):=by
 intro pins s σ H R I ⟨B,G,ρ,ds,sg,sb,st,eq,k⟩
 unfold c4 at eq
 split at eq
 ·rename_i ds' q
  cases eq
  refine EO he pins s σ H R I ⟨B,G,ρ,_,sg,sb,st,q,fun v G1 H1 E1 r1=>?_⟩
  obtain ⟨a,xs,rfl,q1,d1⟩:=r1
  exact ⟨a,rfl,⟨xs,E1.gh.seq q1⟩,k _ G1 H1 E1 (Fd q1 d1 fun _ _ _ _=>.inr trivial)⟩
 ·rename_i ds' q
  cases eq
  refine IF he pins s σ H R I ⟨B,G,ρ,_,sg,sb,st,q,fun v G1 H1 E1 r1=>?_⟩
  obtain ⟨a,xs,rfl,q1,d1⟩:=r1
  exact ⟨a,rfl,⟨xs,SqT.of (E1.gh _ _ q1)⟩,k _ G1 H1 E1 (Ig q1 d1)⟩
 ·rename_i ks vs q
  cases eq
  refine thn (he pins s σ H (fun v H1=>∃ G1,Ext G H G1 H1/\gv X.K B H G1 H1 (.pu,.dK ks vs) v) I ⟨B,G,ρ,_,sg,sb,st,q,fun v G1 H1 E1 r1=>⟨G1,E1,r1⟩⟩) fun u s1 ⟨v,H1,I1,rv,G1,E1,r1⟩=>?_
  obtain ⟨a,o,kvs,rfl,q1,ek,d1⟩:=r1
  cases rv
  have q2:=E1.gh _ _ q1
  obtain ⟨ho,hm,vs',rel,dd⟩:=kg I1 q2
  obtain ⟨o2,es,ep,e2,r2⟩:=dd
  rw [ho] at e2;cases e2
  have hks:ks.map i7=kvs.map fun kv=>i7 kv.1:=by rw [<- ek,aQ];rfl
  refine wpAny_pyIter_dict (knd:=cy X.prog X.w) hm ⟨o,es,ho,r2⟩ ?_
  refine ⟨s1.heap.objs.size,[s1.heap.objs.size],_,Itd a o kvs,H1,rfl,I1.kept (t':=s1.toks) fun b o e=>ah _ e,Ar a _ o kvs vs' ep es r2.2.1 rel,⟨_,aL _ rfl,rfl,rfl⟩,fun b hb=>?_,k _ G1 H1 E1 (by rw [hks];exact E7 q1)⟩
  have e:b=s1.heap.objs.size:=by simpa using hb
  subst e
  exact I1.fpOk (az _) (I1.hok.fresh (az _))
 ·cases eq
noncomputable def k3 (f:Rho->Option (List Rv)):Rho->Option (List Da):=fun ρ=>match f ρ with
 | some [(_,.int j)]=>if -(2 ^ 62)<=j/\j<2 ^ 62 then some (eW 0 j.toNat) else none
 | _=>none
noncomputable def Dn (f:Rho->Option (List Rv)):Rho->Option (List Da):=fun ρ=>match f ρ with
 | some [(_,.int i),(_,.int j)]=>if -(2 ^ 62)<=i/\i<2 ^ 62/\-(2 ^ 62)<=j/\j<2 ^ 62 then some (eW i (j-i).toNat) else none
 | _=>none
theorem PI.imp {X:Cx} {tg e:aR} {t t':TI} (h:PI X tg e t) (i:∀ σ H R,t' σ H R->t σ H R):PI X tg e t':=fun pins s σ H R I q=>h pins s σ H R I (i σ H R q)
theorem mi {a:aR} {p:d4} {g:Rho->Option (List Rv)} (hg:Gl X "range") (hm:X.mg "range" = none) (ha:PXA X [a] g) (hs:ao [a] X.env=[(false,bL a X.env)]:=by exact bD rfl):PXI X tg (.Call (.Name "range" p) [a] [] pos) (k3 g) :=
 PI.imp (Aj hg hm ha hs) fun σ H R ⟨B,G,ρ,ds,sg,sb,st,eq,k⟩=>by
  unfold k3 at eq
  split at eq
  ·rename_i kd j q
   split at eq
   ·rename_i hb
    cases eq
    refine ⟨B,G,ρ,_,sg,sb,st,q,fun vs G1 H1 E1 r1=>?_⟩
    obtain ⟨v,rfl,r⟩:=e7.one r1
    cases r.int
    exact ⟨j,rfl,hb.1,hb.2,k _ G1 H1 E1 vI⟩
   ·cases eq
  ·cases eq
theorem xx {a b:aR} {p:d4} {g:Rho->Option (List Rv)} (hg:Gl X "range") (hm:X.mg "range" = none) (ha:PXA X [a,b] g) (hs:ao [a,b] X.env=[(false,bL a X.env),(false,bL b X.env)]:=by rfl) (hs2:ao [b] X.env=[(false,bL b X.env)]:=by rfl) :
 PXI X tg (.Call (.Name "range" p) [a,b] [] pos) (Dn g) :=
 PI.imp (yA hg hm ha hs hs2) fun σ H R ⟨B,G,ρ,ds,sg,sb,st,eq,k⟩=>by
  unfold Dn at eq
  split at eq
  ·rename_i k1 i k2 j q
   split at eq
   ·rename_i hb
    cases eq
    refine ⟨B,G,ρ,_,sg,sb,st,q,fun vs G1 H1 E1 r1=>?_⟩
    obtain ⟨v,v2,rfl,r,r2⟩:=e7.two r1
    cases r.int
    cases r2.int
    exact ⟨i,j,rfl,hb,k _ G1 H1 E1 vI⟩
   ·cases eq
  ·cases eq
end
noncomputable def gX (K:ae) (t:Da->Rho->Option Rho):TG:=fun v σ H Q=>∃ B G0 G ρ d ρ',Ext G0 B G H/\hZ K B G H σ ρ/\Den K G d v/\t d ρ=some ρ'/\∀ σ',hZ K B G H σ' ρ'->Q σ' H
noncomputable def gXs (K:ae) (t:List Da->Rho->Option Rho):TGs:=fun vs σ H Q=>∃ B G0 G ρ ds ρ',Ext G0 B G H/\hZ K B G H σ ρ/\cD K G ds vs/\t ds ρ=some ρ'/\∀ σ',hZ K B G H σ' ρ'->Q σ' H
noncomputable abbrev PXG (X:Cx) (tg:aR) (t:Da->Rho->Option Rho):Prop:=PG X tg (gX X.K t)
noncomputable abbrev Eo (X:Cx) (ts:List aR) (t:List Da->Rho->Option Rho):Prop:=PGs X ts (gXs X.K t)
theorem PG.imp {X:Cx} {tg:aR} {t t':TG} (h:PG X tg t) (i:∀ v σ H Q,t' v σ H Q->t v σ H Q):PG X tg t':=fun pins s σ H v u Q I r q=>h pins s σ H v u Q I r (i v σ H Q q)
theorem PGs.imp {X:Cx} {tg:List aR} {t t':TGs} (h:PGs X tg t) (i:∀ v σ H Q,t' v σ H Q->t v σ H Q):PGs X tg t':=fun pins s σ H v u Q I r q=>h pins s σ H v u Q I r (i v σ H Q q)
section
variable {X:Cx} {pos:d4}
noncomputable def tgN (i:Nat):Da->Rho->Option Rho:=fun d ρ=>some (ρ.set i (.pu d))
theorem BQ {i:Nat} {x:bv} (hN:X.N.Nodup) (hi:X.N[i]?=some x:=by rfl) (hx:Loc X.env.scope x:=by first | exact cR rfl | exact cL rfl) (hf:X.fn x=true\/X.env.scope.names.lookup x=some .local:=by first | exact .inl rfl | exact .inr rfl | assumption):PXG X (.Name x pos) (tgN i) :=
 PG.imp (l7 hN hi hx hf) fun v σ H Q ⟨B,G0,G,ρ,d,ρ',E,st,dv,e,k⟩=>by cases e;exact k _ (st.setPu dv)
noncomputable def mV:List Da->Rho->Option Rho
 | [],ρ=>some ρ
 | _,_=>none
noncomputable def gE (t:Da->Rho->Option Rho) (u:List Da->Rho->Option Rho):List Da->Rho->Option Rho
 | d::ds,ρ=>match t d ρ with
   | some ρ'=>u ds ρ'
   | none=>none
 | [],_=>none
theorem Et:Eo X [] mV:=PGs.imp zO fun v σ H Q ⟨B,G0,G,ρ,ds,ρ',E,st,dv,e,k⟩=>by
 unfold mV at e
 split at e
 ·cases e;exact ⟨dv,k _ st⟩
 ·cases e
theorem BH {e:aR} {es:List aR} {t:Da->Rho->Option Rho} {u:List Da->Rho->Option Rho} (h1:PXG X e t) (h2:Eo X es u) (hs:(eD (e::es) X.env).map (·.2)=assign e X.env::(eD es X.env).map (·.2):=by rfl):Eo X (e::es) (gE t u) :=
 PGs.imp (qF h1 h2 hs) fun v σ H Q ⟨B,G0,G,ρ,ds,ρ',E,st,dv,eq,k⟩=>by
  unfold gE at eq
  split at eq
  ·rename_i d ds'
   obtain ⟨x,r,rfl,d1,d2⟩:=dv
   split at eq
   ·rename_i ρ1 e1
    exact ⟨x,r,rfl,B,G0,G,ρ,d,ρ1,E,st,d1,e1,fun σ' st'=>⟨B,G0,G,ρ1,ds',ρ',E,st',d2,eq,k⟩⟩
   ·cases eq
  ·cases eq
noncomputable def tgT (n:Nat) (t:List Da->Rho->Option Rho):Da->Rho->Option Rho
 | .tup ds,ρ=>if ds.length=n then t ds ρ else none
 | _,_=>none
theorem Fy {es:List aR} {k n:Nat} {t:List Da->Rho->Option Rho} (hc:X.calm=true) (h:Eo X es t) (hn:(eD es X.env).length=n:=by rfl) (hst:(eD es X.env).findIdx? (·.1)=none:=by rfl):PXG X (.Tuple es k pos) (tgT n t) :=
 PG.imp (DA hc h hn hst) fun v σ H Q ⟨B,G0,G,ρ,d,ρ',E,st,dv,eq,kk⟩=>by
  unfold tgT at eq
  split at eq
  ·rename_i ds
   split at eq
   ·rename_i hl
    obtain ⟨a,xs,rfl,q,dl⟩:=dv
    exact ⟨a,xs,rfl,SqT.of (E.gh _ _ q),by rw [dl.length];exact hl,B,G0,G,ρ,ds,ρ',E,st,dl,eq,kk⟩
   ·cases eq
  ·cases eq
noncomputable def K2 (f:Rho->Option Rv) (t:Da->Rho->Option Rho):Rho->Res:=fun ρ=>match f ρ with
 | some r=>if eG r=true then (match t r.2 ρ with
   | some ρ'=>.nx ρ'
   | none=>.bad) else .bad
 | none=>.bad
end
noncomputable def A7 (t:Da->Rho->Option Rho) (g:Rho->Res):List Da->Rho->Res
 | [],ρ=>.nx ρ
 | d::ds,ρ=>match t d ρ with
   | none=>.bad
   | some ρ1=>match g ρ1 with
     | .nx ρ2=>A7 t g ds ρ2
     | .ct ρ2=>A7 t g ds ρ2
     | .bk ρ2=>.nx ρ2
     | .rt d=>.rt d
     | .bad=>.bad
noncomputable def oC (f:Rho->Option (List Da)) (t:Da->Rho->Option Rho) (g:Rho->Res):Rho->Res:=fun ρ=>match f ρ with
 | some ds=>A7 t g ds ρ
 | none=>.bad
theorem Ey {X:Cx} {tg iter:aR} {body:List cq} {f:Rho->Option (List Da)} {t:Da->Rho->Option Rho} {g:Rho->Res} {pos:d4} (hp:mt (aZ X.prog X.w) X.A X.env X.xe) (hc:X.calm=true) (hi:PXI X tg iter f) (hg:PXG X tg t) (hb:wl X body g)
 (hs:∀ x,eM iter X.env x=pure x:=by intro _;rfl):PXS X (.For tg iter body [] pos) (oC f t g):=PS.imp (vX hp hc hi hg hb hs) fun D σ H ⟨B,G0,G,ρ,E,st,k⟩=>by
 unfold oC at k
 cases q:f ρ with
 | none=>rw [q] at k;exact k.elim
 | some ds =>
   rw [q] at k
   dsimp only at k
   refine ⟨B,G,ρ,ds,E.gh,E.hh,st,q,fun J G1 H1 E1 it=>?_⟩
   refine ⟨fun i m σ' H'=>m=ds.length-i/\i<=ds.length/\∃ G' ρ',Ext G0 B G' H'/\cG G1 G'/\hZ X.K B G' H' σ' ρ'/\Di X.K B G0 G D (A7 t g (ds.drop i) ρ'),⟨ds.length,by simp,bW _,G1,ρ,E.trans E1,cG.refl _,st.ext E1,by rw [ky];exact k⟩,?_⟩
   rintro i m σ' H' ⟨rfl,hi',G',ρ',E',s1,st',k'⟩
   have s2:cG G G':=E1.gg.trans s1
   by_cases hlt:i<ds.length
   ·obtain ⟨d,hd⟩:∃ d,ds[i]?=some d:=⟨ds[i],by simp [hlt]⟩
    have hdrop:ds.drop i=d::ds.drop (i+1):=by
     rw [gj hlt]
     congr 1
     rw [aj hlt] at hd
     exact bH hd
    rw [hdrop] at k'
    unfold A7 at k'
    cases et:t d ρ' with
    | none=>rw [et] at k';exact k'.elim
    | some ρ1 =>
      rw [et] at k'
      dsimp only at k'
      obtain ⟨hgo,hy⟩:=(it i G' H' s1 E'.gh).1 d hd
      refine .inr ⟨hgo,fun σ3 H3=>i+1<=ds.length/\∃ G3 ρ3,Ext G0 B G3 H3/\cG G1 G3/\hZ X.K B G3 H3 σ3 ρ3/\Di X.K B G0 G D (A7 t g (ds.drop (i+1)) ρ3),fun σ3 H3 z=>⟨ds.length-(i+1),by lia,rfl,z⟩,fun x H2 yl=>?_⟩
      obtain ⟨G2,E2,dx⟩:=hy x H2 yl
      refine ⟨B,G0,G2,ρ',d,ρ1,E'.trans E2,st'.ext E2,dx,et,fun σ2 st2=>⟨B,G0,G2,ρ1,E'.trans E2,st2,?_⟩⟩
      have s3:cG G1 G2:=s1.trans E2.gg
      have s4:cG G G2:=s2.trans E2.gg
      cases eg:g ρ1 with
      | nx ρ2=>rw [eg] at k';exact fun σ3 G3 H3 E3 t3 st3=>⟨hlt,G3,ρ2,E3,s3.trans t3,st3,k'⟩
      | ct ρ2=>rw [eg] at k';exact fun σ3 G3 H3 E3 t3 st3=>⟨hlt,G3,ρ2,E3,s3.trans t3,st3,k'⟩
      | bk ρ2=>rw [eg] at k';exact fun σ3 G3 H3 E3 t3 st3=>k' σ3 G3 H3 E3 (s4.trans t3) st3
      | rt d=>rw [eg] at k';exact fun σ3 G3 H3 E3 t3 st3=>k' σ3 G3 H3 E3 (s4.trans t3) st3
      | bad=>rw [eg] at k';exact k'
   ·have e:i=ds.length:=by lia
    subst e
    rw [jq] at k'
    exact .inl ⟨(it ds.length G' H' s1 E'.gh).2 rfl,k' σ' G' H' E' s2 st'⟩
noncomputable def kF (t:Rho->Option Bool) (g:Rho->Res):Nat->Rho->Res
 | 0,_=>.bad
 | n+1,ρ=>match t ρ with
   | none=>.bad
   | some false=>.nx ρ
   | some true=>match g ρ with
     | .nx ρ2=>kF t g n ρ2
     | .ct ρ2=>kF t g n ρ2
     | .bk ρ2=>.nx ρ2
     | .rt d=>.rt d
     | .bad=>.bad
theorem yM {X:Cx} {c:aR} {body:List cq} {t:Rho->Option Bool} {g:Rho->Res} {pos:d4} (n:Nat) (hp:mt (aZ X.prog X.w) X.A X.env X.xe) (hc:PXT X c t) (hb:wl X body g):PXS X (.While c body [] pos) (kF t g n) :=
 PS.imp (By hp hc hb) fun D σ H ⟨B,G0,G,ρ,E,st,k⟩=>by
  refine ⟨fun m σ' H'=>∃ G' ρ',Ext G0 B G' H'/\cG G G'/\hZ X.K B G' H' σ' ρ'/\Di X.K B G0 G D (kF t g m ρ'),⟨n,G,ρ,E,cG.refl _,st,k⟩,?_⟩
  rintro m σ' H' ⟨G',ρ',E',s1,st',k'⟩
  cases m with
  | zero=>exact k'.elim
  | succ m =>
    unfold kF at k'
    cases et:t ρ' with
    | none=>rw [et] at k';exact k'.elim
    | some b =>
      rw [et] at k'
      refine ⟨B,G',ρ',b,E'.gh,E'.hh,st',et,fun G2 H2 E2=>?_⟩
      cases b with
      | false=>rw [if_neg aM];exact k' σ' G2 H2 (E'.trans E2) (s1.trans E2.gg) (st'.ext E2)
      | true =>
        rw [if_pos rfl]
        dsimp only at k'
        refine ⟨fun σ3 H3=>∃ G3 ρ3,Ext G0 B G3 H3/\cG G G3/\hZ X.K B G3 H3 σ3 ρ3/\Di X.K B G0 G D (kF t g m ρ3),fun σ3 H3 z=>⟨m,Nat.lt_succ_self _,z⟩,B,G0,G2,ρ',E'.trans E2,st'.ext E2,?_⟩
        have s4:cG G G2:=s1.trans E2.gg
        cases eg:g ρ' with
        | nx ρ2=>rw [eg] at k';exact fun σ3 G3 H3 E3 t3 st3=>⟨G3,ρ2,E3,s4.trans t3,st3,k'⟩
        | ct ρ2=>rw [eg] at k';exact fun σ3 G3 H3 E3 t3 st3=>⟨G3,ρ2,E3,s4.trans t3,st3,k'⟩
        | bk ρ2=>rw [eg] at k';exact fun σ3 G3 H3 E3 t3 st3=>k' σ3 G3 H3 E3 (s4.trans t3) st3
        | rt d=>rw [eg] at k';exact fun σ3 G3 H3 E3 t3 st3=>k' σ3 G3 H3 E3 (s4.trans t3) st3
        | bad=>rw [eg] at k';exact k'
noncomputable def ff (n:Nat) (ds:List Da):Rho:=ds.map Sl.pu++CV (n-ds.length) .no
noncomputable def iQ (n:Nat) (g:Rho->Res) (ds:List Da):Option Da:=match g (ff n ds) with
 | .rt d=>some d
 | .nx _=>some .non
 | _=>none
theorem rn {K:ae} {B G H:Hp} {N:List bv} {ds:List Da} {vs:List V} (tg:Tbs K G) (h:cD K G ds vs):hZ K B G H (L2.start N vs) (ff N.length ds):=by
 have hl:=h.length
 refine ⟨?_,fun i d e=>?_,fun i d e=>?_,fun i j d d' l _ e=>?_,tg⟩
 ·unfold L2.start ff
  rw [aO,aO,af,af,j4,j4,hl]
 ·unfold ff at e
  by_cases hi:i<ds.length
  ·rw [c6 (by simpa using hi),aC] at e
   cases q:ds[i]? with
   | none=>rw [q] at e;cases e
   | some d' =>
     rw [q] at e
     cases e
     obtain ⟨v,hv,dv⟩:=h.get q
     refine ⟨v,?_,dv⟩
     unfold L2.start
     rw [c6 (by rw [af,hl];exact hi),aC,hv]
     rfl
  ·rw [dN (by simpa using hi),jo] at e
   split at e<;>cases e
 all_goals
  exfalso
  unfold ff at e
  by_cases hi:i<ds.length
  ·rw [c6 (by simpa using hi),aC] at e
   cases q:ds[i]? with
   | none=>rw [q] at e;cases e
   | some d'=>rw [q] at e;cases e
  ·rw [dN (by simpa using hi),jo] at e
   split at e<;>cases e
theorem Dj {P:bh} {w:bT} {K:ae} {mg:bv->Option ag} {base:b9} {x qual:bv} {st:cq} {f:au} {fd:cJ} {N ps:List bv} {k n:Nat} {g:Rho->Res} (F:Fun K x qual st f fd) (S:fX N ps (bn st)) (hn:ps.length=n)
 (hbody:∀ (cdv:ag) (A:bE) (outer:List m8) (s:ai) (H:Hp) (E:XK),iz k (A.deeper (dR qual (bn st) s.heap.objs.size f cdv))->wl (rV CX0 P w K mg base N qual (bn st) f cdv A outer s H E).nox (dZ st) g) :
 rH P w K mg base CX0 (k+1) f fd ps (spD K n (iQ N.length g)):=by
 refine F.ok S (fun vs H Q E ⟨G,ds,d,hl,sg,_,dl,_⟩=>by rw [dl.length,hl,hn]) fun cdv A outer s H vs Q E hr ⟨G,ds,d,hl,sg,tg,dl,ef,k⟩=>?_
 refine ⟨_,hbody cdv A outer s H E hr,H,G,G,ff N.length ds,Ext.refl sg,rn tg dl,?_⟩
 unfold iQ at ef
 split at ef
 ·rename_i d' q
  cases ef
  rw [q]
  exact fun v G' H' E' _ dv=>k v G' H' E' dv
 ·rename_i ρ q
  cases ef
  rw [q]
  exact fun σ G' H' E' _ _=>k .non G' H' E' rfl
 ·cases ef
noncomputable def gm (cells:List (bv×au)):List (bv×dA)->List (bv×au)->List (bv×au)
 | [],acc=>acc
 | (x,k)::r,acc=>if k == .free then gm cells r ((x,(cells.lookup x).getD 0)::acc) else gm cells r acc
theorem jS {env:m8} (f:bv×dA->List (bv×au)->Sem (ForInStep (List (bv×au))))
 (hf:∀ name kind cs,f (name,kind) cs=if kind == .free then (do let a <- cellOf env name;pure (.yield ((name,a)::cs))) else pure (.yield cs)) :
 ∀ (names:List (bv×dA)) (acc:List (bv×au)),(∀ y∈names,y.2=.free->∃ c,env.cells.lookup y.1=some c)->forIn names acc f=pure (gm env.cells names acc)
 | [],acc,_=>by rw [pc];rfl
 | (x,k)::r,acc,h=>by
   rw [Bc,hf]
   unfold gm
   by_cases hk:(k == gT)=true
   ·obtain ⟨c,hc⟩:=h (x,k) am (by simpa using hk)
    rw [if_pos hk,if_pos hk]
    have e:cellOf env x=pure c:=by unfold cellOf;rw [show env.cells.lookup x=some c from hc]
    rw [e]
    simp only [pure_bind]
    rw [show (env.cells.lookup x).getD 0=c by rw [show env.cells.lookup x=some c from hc];rfl]
    exact jS f hf r _ fun y hy=>h y (al _ hy)
   ·rw [if_neg hk,if_neg hk]
    simp only [pure_bind]
    exact jS f hf r _ fun y hy=>h y (al _ hy)
theorem l6 {scope:dG} {env:m8} (h:∀ y∈scope.names,y.2=.free->∃ c,env.cells.lookup y.1=some c):closureFor scope env=pure (gm env.cells scope.names []):=by
 show (forIn scope.names ([]:List (bv×au)) (fun x cs=>match x with
  | (name,kind)=>if (kind == gT)=true then (do let a <- cellOf env name;pure (ja ((name,a)::cs))) else pure (ja cs))>>=fun cs=>pure cs)=_
 rw [jS (env:=env) _ (fun _ _ _=>rfl) scope.names [] h]
 rfl
theorem kh {cells:List (bv×au)}:∀ (names:List (bv×dA)) (acc:List (bv×au)) {x:bv} {c:au},(∀ y∈names,y.2=.free->∃ c,cells.lookup y.1=some c) ->
 (gm cells names acc).lookup x=some c->cells.lookup x=some c\/acc.lookup x=some c
 | [],_,_,_,_,h=>.inr h
 | (n,k)::r,acc,x,c,hc,h=>by
   unfold gm at h
   split at h
   ·rename_i hk
    rcases kh r _ (fun y hy=>hc y (al _ hy)) h with q | q
    ·exact .inl q
    ·rw [cS] at q
     cases hb:x == n with
     | true =>
       rw [hb] at q
       have e:x=n:=beq_iff_eq.mp hb
       subst e
       obtain ⟨c',h'⟩:=hc (x,k) am (by simpa using hk)
       have h':cells.lookup x=some c':=h'
       rw [h'] at q
       cases q
       exact .inl h'
     | false=>rw [hb] at q;exact .inr q
   ·exact kh r _ (fun y hy=>hc y (al _ hy)) h
theorem i5 {cells:List (bv×au)}:∀ (names:List (bv×dA)) (acc:List (bv×au)) {x:bv},(∀ y∈names,y.2=.free->∃ c,cells.lookup y.1=some c) ->
 ((x,gT)∈names\/acc.lookup x=cells.lookup x)->(gm cells names acc).lookup x=cells.lookup x
 | [],_,_,_,h=>by
   rcases h with h | h
   ·simp at h
   ·exact h
 | (n,k)::r,acc,x,hc,h=>by
   unfold gm
   have hr:∀ y∈r,y.2=.free->∃ c,cells.lookup y.1=some c:=fun y hy=>hc y (al _ hy)
   split
   ·rename_i hk
    refine i5 r _ hr ?_
    by_cases hx:x=n
    ·subst hx
     obtain ⟨c',h'⟩:=hc (x,k) am (by simpa using hk)
     have h':cells.lookup x=some c':=h'
     refine .inr ?_
     rw [cS,beq_self_eq_true,h']
     rfl
    ·rcases h with h | h
     ·rcases aE.mp h with e | e
      ·cases e;exact absurd rfl hx
      ·exact .inl e
     ·refine .inr ?_
      rw [cS,show (x == n)=false by simpa using hx]
      exact h
   ·rename_i hk
    refine i5 r _ hr ?_
    rcases h with h | h
    ·rcases aE.mp h with e | e
     ·cases e;exact absurd (beq_self_eq_true _) hk
     ·exact .inl e
    ·exact .inr h
theorem fO:∀ (names:List (bv×dA)) (n:Nat) (acc:List (bv×au)),dH n names acc=dH n names []++acc
 | [],_,_=>rfl
 | (x,k)::r,n,acc=>by
   unfold dH
   split
   ·rw [fO r (n+1) ((x,n)::acc),fO r (n+1) [(x,n)],fz];rfl
   ·exact fO r n acc
noncomputable def mo (X:Cx) (scope:dG) (C:au):m8 :=
 { scope:=kJ scope X.env,locals:=C,globals:=X.env.globals,cells:=dH (C+1) scope.names (gm X.env.cells scope.names []),qual:=X.env.qual,func:=none,code:=X.env.code,frame:=X.env.frame,builtins:=X.env.builtins }
noncomputable def inC (X:Cx) (scope:dG) (s:ai) (H:Hp) (fp:List au):Cx :=
 { X with N:=scope.names.map (·.1),s₀:=s,H₀:=H,env:=mo X scope s.heap.objs.size,outer:=X.stack,stack:=X.stack,ex:=fp,fn:=fun x=>scope.names.lookup x == some .cell,pn:=[],xe:=fun _ _=>False }
noncomputable def rW (N:List bv):List (bv×dA)->List (Option Nat)->Bool
 | [],[]=>true
 | _::r,none::ix=>rW N r ix
 | (x,k)::r,some j::ix=>(k == .free)&&(N[j]? == some x)&&rW N r ix
 | _,_=>false
noncomputable def mpS (ix:List (Option Nat)) (σ:St):St:=ix.map fun o=>match o with
 | some j=>(σ[j]?).getD none
 | none=>none
theorem jU {N:List bv}:∀ {names:List (bv×dA)} {ix:List (Option Nat)},rW N names ix=true->ix.length=names.length
 | [],[],_=>rfl
 | [],_::_,h=>by cases h
 | _::_,[],h=>by cases h
 | _::r,none::ix,h=>by rw [aJ,aJ,jU (names:=r) (ix:=ix) h]
 | (x,k)::r,some j::ix,h=>by
   unfold rW at h
   rw [aT] at h
   rw [aJ,aJ,jU h.2]
theorem iY {N:List bv}:∀ {names:List (bv×dA)} {ix:List (Option Nat)} {i j:Nat},rW N names ix=true->ix[i]?=some (some j)->∃ x,names[i]?=some (x,.free)/\N[j]?=some x
 | [],[],_,_,_,e=>by simp at e
 | [],_::_,_,_,h,_=>by cases h
 | _::_,[],_,_,h,_=>by cases h
 | _::r,none::ix,0,_,_,e=>by simp at e
 | _::r,none::ix,i+1,j,h,e=>by simpa using iY (names:=r) (ix:=ix) (i:=i) h (by simpa using e)
 | (x,k)::r,some j'::ix,i,j,h,e=>by
   unfold rW at h
   rw [aT,aT] at h
   cases i with
   | zero =>
     simp at e
     subst e
     refine ⟨x,?_,by simpa using h.1.2⟩
     have:=h.1.1
     simp at this
     simp [this]
   | succ i=>simpa using iY (names:=r) (ix:=ix) (i:=i) h.2 (by simpa using e)
theorem d7 {α:Type}:∀ {l:List (bv×α)} {i:Nat} {x:bv} {a:α},(l.map (·.1)).Nodup->l[i]?=some (x,a)->l.lookup x=some a
 | [],_,_,_,_,e=>by simp at e
 | (y,b)::r,0,x,a,_,e=>by simp at e;rw [<- e.1,<- e.2];simp
 | (y,b)::r,i+1,x,a,nd,e=>by
   have e':r[i]?=some (x,a):=by simpa using e
   rw [aD] at nd
   obtain ⟨h1,h2⟩:=bi.mp nd
   have hm:(x,a)∈r:=bz e'
   have ne:x≠y:=fun z=>h1 (by rw [<- z];exact aS.mpr ⟨_,hm,rfl⟩)
   rw [cS,show (x == y)=false by simpa using ne]
   exact d7 h2 e'
theorem kC {scope:dG} {env:m8} {x:bv}:(kJ scope env).names.lookup x=(scope.names.lookup x).map fun k=>if (k == .free&&env.scope.kind == .function&&env.kindOf x == some .cell) then .cell else k:=by
 unfold kJ
 show List.lookup x (scope.names.map _)=_
 generalize scope.names=l
 induction l with
 | nil=>rfl
 | cons p r ih =>
   obtain ⟨n,k⟩:=p
   rw [aD]
   dsimp only
   by_cases hx:x=n
   ·subst hx
    by_cases hc:(k == gT&&env.scope.kind == .function&&env.kindOf x == some .cell)=true
    ·rw [if_pos hc]
     simp only [cS,beq_self_eq_true,cc]
     rw [if_pos hc]
    ·rw [if_neg hc]
     simp only [cS,beq_self_eq_true,cc]
     rw [if_neg hc]
   ·have hb:(x == n)=false:=by simpa using hx
    by_cases hc:(k == gT&&env.scope.kind == .function&&env.kindOf n == some .cell)=true
    ·rw [if_pos hc];simp only [cS,hb];exact ih
    ·rw [if_neg hc];simp only [cS,hb];exact ih
structure CScope (X:Cx) (scope:dG) (ix:List (Option Nat)):Prop where
 kind:scope.kind=.function
 nd:(scope.names.map (·.1)).Nodup
 free:∀ y∈scope.names,y.2=.free->X.env.kindOf y.1=some .cell\/X.env.kindOf y.1=some .free
 ix:rW X.N scope.names ix=true
section
variable {X:Cx} {pins:List (au×cX)} {σ:St} {H:Hp} {s:ai} {scope:dG} {ix:List (Option Nat)} {fp:List au}
theorem CScope.cells (S:CScope X scope ix) (I:Inv X pins σ H s):∀ y∈scope.names,y.2=.free->∃ c,X.env.cells.lookup y.1=some c:=fun y hy hf=>I.ok.has y.1 (S.free y hy hf)
theorem CScope.names (S:CScope X scope ix) {x:bv} {k:dA}:(x,k)∈scope.names->scope.names.lookup x=some k:=fun hm=>by
 obtain ⟨i,hi⟩:=List.mem_iff_getElem?.mp hm
 exact d7 S.nd hi
theorem xk {M:Model} {A:bE} {E:ag->ai->Prop} {Q:m8->ai->Prop} (S:CScope X scope ix) (I:Inv X pins σ H s) (hfp:∀ b∈fp,xN X pins H b/\b<s.heap.objs.size)
 (h:∀ env h',{ env with scope:=kJ scope X.env }=mo X scope s.heap.objs.size->env.locals=s.heap.objs.size->Inv (inC X scope s H fp) [] (mpS ix σ) H { s with heap:=h' }->(∀ b o,s.heap.get? b=some o->h'.get? b=some o)->Q env { s with heap:=h' }) :
 aN M A (newFunctionEnv scope X.env.globals (gm X.env.cells scope.names []) [] X.env.qual none .none (some X.env)) Q E s:=by
 simp only [newFunctionEnv,vi,if_true]
 refine ac (wpAny_alloc ?_)
 refine ac (wpAny_layCells _ (fun name kind cells=>by cases hkc:kind == xX<;>simp [hkc]) _ _ _ _ ?_)
 rw [show ({ s with heap:=s.heap.push { cls:=.type "dict",data:=.dict #[] } }:ai).heap.objs.size=s.heap.objs.size+1 from kz ..]
 refine ac ?_
 rw [pc]
 refine aq (aq ?_)
 have ok:=cellsFrom_ok scope.names (s.heap.push { cls:=.type "dict",data:=.dict #[] }) (s.heap.objs.size+1) [] ⟨fun _ _ hm=>(nomatch hm),o9⟩ (by rw [kz];exact az _)
 rw [kz] at ok
 have keep:∀ b o,s.heap.get? b=some o->(pushCells (s.heap.push { cls:=.type "dict",data:=.dict #[] }) scope.names).get? b=some o:=fun b o e=>pushCells_keeps _ _ b o (ah _ e)
 have cl:=S.cells I
 have look:∀ x c,(dH (s.heap.objs.size+1) scope.names (gm X.env.cells scope.names [])).lookup x=some c ->
  ((dH (s.heap.objs.size+1) scope.names []).lookup x=some c/\s.heap.objs.size+1<=c/\(pushCells (s.heap.push { cls:=.type "dict",data:=.dict #[] }) scope.names).IsCell c none)\/(X.env.cells.lookup x=some c/\c<s.heap.objs.size):=fun x c e=>by
  rw [fO,lP] at e
  cases q:(dH (s.heap.objs.size+1) scope.names []).lookup x with
  | some c' =>
    rw [q] at e
    cases e
    obtain ⟨e1,e2⟩:=ok.empty x c (mem_of_lookup q)
    exact .inl ⟨rfl,e2,e1⟩
  | none =>
    rw [q] at e
    rcases kh _ _ cl (show (gm X.env.cells scope.names []).lookup x=some c from e) with z | z
    ·obtain ⟨v,hv⟩:=I.cell x c z
     exact .inr ⟨z,hv.lt⟩
    ·simp at z
 have ownNone:∀ x,scope.names.lookup x=some .free->(dH (s.heap.objs.size+1) scope.names []).lookup x=none:=fun x hx=>by
  cases q:(dH (s.heap.objs.size+1) scope.names []).lookup x with
  | none=>rfl
  | some c =>
    exfalso
    have:∀ (names:List (bv×dA)) (n:Nat) (acc:List (bv×au)),(dH n names acc).lookup x=some c->(x,xX)∈names\/acc.lookup x=some c:=by
     intro names
     induction names with
     | nil=>intro n acc h;exact .inr h
     | cons p r ih =>
       intro n acc h
       obtain ⟨y,k⟩:=p
       unfold dH at h
       split at h
       ·rename_i hk
        rcases ih _ _ h with z | z
        ·exact .inl (al _ z)
        ·rw [cS] at z
         cases hb:x == y with
         | true =>
           have e:x=y:=beq_iff_eq.mp hb
           subst e
           have hk':k=.cell:=by simpa using hk
           subst hk'
           exact .inl am
         | false=>rw [hb] at z;exact .inr z
       ·rcases ih _ _ h with z | z
        ·exact .inl (al _ z)
        ·exact .inr z
    rcases this _ _ _ q with z | z
    ·rw [S.names z] at hx;cases hx
    ·simp at z
 have freeLook:∀ x,scope.names.lookup x=some .free->(dH (s.heap.objs.size+1) scope.names (gm X.env.cells scope.names [])).lookup x=X.env.cells.lookup x:=fun x hx=>by
  rw [fO,lP,ownNone x hx,i5 _ _ cl (.inl (mem_of_lookup hx))]
  rfl
 refine h _ _ rfl rfl ⟨⟨I.ok.mod,?_,I.ok.glob,I.ok.blt,az _,fun x y c h1 h2=>?_,fun x hx=>?_,fun x c hf h1=>?_,I.ok.hd,I.ok.frames,.inl rfl,fun b hb=>⟨?_,fun x c h1 z=>?_⟩,I.bs,bO I.ok.bsz I.sz,fun b o e hb=>?_,fun b hb hb2=>?_,I.stack,I.stkFree⟩,
  rfl,I.bare,Un.kept keep,⟨fun _=>none,(Heap.Ns.new s.heap (.type "dict")).keeps (pushCells_keeps _ _),fun i x v e1 e2 e3=>?_⟩,fun x c h1=>?_,I.hok.fresh (az _),fun x c h1=>?_,fun p hp=>absurd (show p∈([]:List (au×cX)) from hp) (by simp),I.hok.kept keep,?_⟩ keep
 ·exact S.kind
 ·rcases look x c h1 with ⟨a1,a2,_⟩ | ⟨a1,a2⟩<;>rcases look y c h2 with ⟨b1,b2,_⟩ | ⟨b1,b2⟩
  ·exact name_of_addr ok.apart (mem_of_lookup a1) (mem_of_lookup b1)
  ·exact absurd (a7 b2 (gU a2)) (cb _)
  ·exact absurd (a7 a2 (gU b2)) (cb _)
  ·exact I.ok.inj x y c a1 b1
 ·
  have hx':scope.names.lookup x=some .cell\/scope.names.lookup x=some .free:=by
   have e:(mo X scope s.heap.objs.size).kindOf x=(kJ scope X.env).names.lookup x:=rfl
   have hx:(kJ scope X.env).names.lookup x=some .cell\/(kJ scope X.env).names.lookup x=some .free:=hx
   rw [kC] at hx
   cases q:scope.names.lookup x with
   | none=>rw [q] at hx;rcases hx with z | z<;>cases z
   | some k =>
     rw [q] at hx
     simp only [cc] at hx
     by_cases hc:(k == gT&&X.env.scope.kind == .function&&X.env.kindOf x == some .cell)=true
     ·have:k=.free:=by
       rw [aT,aT] at hc
       simpa using hc.1.1
      exact .inr (by rw [this])
     ·rw [if_neg hc] at hx
      rcases hx with z | z
      ·cases z;exact .inl rfl
      ·cases z;exact .inr rfl
  rcases hx' with hx | hx
  ·have q:=gx scope.names (s.heap.objs.size+1) (gm X.env.cells scope.names []) (.inl hx)
   exact iR.mp q
  ·obtain ⟨c,hc⟩:=cl _ (mem_of_lookup hx) rfl
   exact ⟨c,(freeLook x hx).trans hc⟩
 ·rcases look x c h1 with ⟨_,a2,_⟩ | ⟨a1,a2⟩
  ·exact gU a2
  ·
   exfalso
   have hf':scope.names.lookup x=some .cell:=by simpa using (show (scope.names.lookup x == some .cell)=true from hf)
   have q:=gx scope.names (s.heap.objs.size+1) ([]:List (bv×au)) (.inl hf')
   obtain ⟨c',hc'⟩:=iR.mp q
   have h1':(dH (s.heap.objs.size+1) scope.names (gm X.env.cells scope.names [])).lookup x=some c:=h1
   rw [fO,lP,hc'] at h1'
   cases h1'
   have:=(ok.empty x c (mem_of_lookup hc')).2
   exact absurd (a7 a2 (gU this)) (cb _)
 ·exact be (hfp b hb).2
 ·have:=(hfp b hb).2
  rcases look x c h1 with ⟨_,a2,_⟩ | ⟨a1,a2⟩
  ·subst z
   exact absurd (a7 this (gU a2)) (cb _)
  ·exact (hfp b hb).1.2.2.2.2.1 x c a1 z
 ·rcases (hfp b hb).1.2.2.2.1 with z | z
  ·exact I.ok.noex b o e z
  ·have:=aG e
   have h2:=I.ok.bsz
   exact absurd (a7 this (bO h2 z)) (cb _)
 ·rcases aE.mp (I.stkSub b hb2) with z | z
  ·exact (hfp b hb).1.2.1 z
  ·exact (hfp b hb).1.2.2.1 z
 ·
  unfold mpS at e2
  rw [aC] at e2
  cases q:ix[i]? with
  | none=>rw [q] at e2;cases e2
  | some o =>
    rw [q] at e2
    cases o with
    | none=>cases e2
    | some j =>
      obtain ⟨x',hx1,hx2⟩:=iY S.ix q
      have ex:x=x':=by
       have e1':(scope.names.map (·.1))[i]?=some x:=e1
       rw [aC,hx1] at e1'
       cases e1';rfl
      subst ex
      have hs:σ[j]?=some (some v):=by
       have e2':(σ[j]?).getD none=some v:=by simpa using e2
       cases q2:σ[j]? with
       | none=>rw [q2] at e2';cases e2'
       | some z=>rw [q2] at e2';exact congrArg some e2'
      have hl:=d7 S.nd hx1
      have hk:=S.free _ (bz hx1) rfl
      obtain ⟨m,_,hm⟩:=I.loc
      have hvis:Vis X.env.scope x:=by
       rcases hk with z | z
       ·exact .inr (.inl z)
       ·exact .inr (.inr z)
      obtain ⟨u,ru,lk⟩:=hm j x v hx2 hs hvis
      refine ⟨u,ru,.inr ⟨?_,?_⟩⟩
      ·show (kJ scope X.env).names.lookup x=some .cell\/(kJ scope X.env).names.lookup x=some .free
       rw [kC,hl]
       simp only [cc]
       split
       ·exact .inl rfl
       ·exact .inr rfl
      ·rcases lk with ⟨z,_⟩ | ⟨_,c,hc,hcell⟩
       ·exfalso
        have hk':X.env.kindOf x=some .cell\/X.env.kindOf x=some .free:=hk
        rw [z] at hk'
        rcases hk' with y | y<;>cases y
       ·exact ⟨c,(freeLook x hl).trans hc,hcell.keeps keep⟩
 ·rcases look x c h1 with ⟨_,_,a3⟩ | ⟨a1,_⟩
  ·exact ⟨none,a3⟩
  ·obtain ⟨v,hv⟩:=I.cell x c a1
   exact ⟨v,hv.keeps keep⟩
 ·rcases look x c h1 with ⟨_,a2,_⟩ | ⟨a1,_⟩
  ·exact I.hok.fresh (by lia)
  ·exact I.freeC x c a1
 ·show (mpS ix σ).length=(scope.names.map (·.1)).length
  unfold mpS
  rw [af,af,jU S.ix]
end
noncomputable def PTS (X:Cx) (ifs:List aR) (t:TT):Prop :=
 ∀ (pins:List (au×cX)) (s:ai) (σ:St) (H:Hp) (Q:Bool->Hp->Prop),Inv X pins σ H s->t σ H Q ->
   aN (aZ X.prog X.w) X.A (forIn ifs true fun c r=>if r=true then do let ok <- isTrue c X.env (bL c X.env);pure (ja ok) else pure (ja r)) (TP X pins σ Q) X.xe s
theorem AC {X:Cx}:PTS X [] (fun _ H Q=>Q true H):=fun _ _ _ H _ I h=>wpAny_tests_nil ⟨H,I,h⟩
theorem EF {X:Cx} {c:aR} {t:TT} (h:PT X c t):PTS X [c] t:=fun pins s σ H Q I q=>wpAny_tests_one (h pins s σ H Q I q)
noncomputable def zT (mp:St->St) (wi:TI) (g:TG) (tt:TT) (te:TE):TE:=fun σ H Q=>wi σ H fun J H1=>∀ p,H1 p=none->∃ W:Nat->Nat->St->List V->Hp->Prop,(∃ m,W 0 m (mp σ) [] (upd H1 p (.lst []))) /\
 ∀ i m σ2 ys H2,W i m σ2 ys H2->H2 p=some (.lst ys)/\ys.length<aK/\((J.stop i H2/\Q (.ref p) H2)\/(J.go i H2/\∀ x H3,J.yld i H2 x H3->g x σ2 H3 fun σ4 H4=>tt σ4 H4 fun b H5 =>
   if b=true then te σ4 H5 fun y H6=>H6 p=some (.lst ys)/\∃ m',m'<m/\W (i+1) m' σ4 (ys++[y]) (upd H6 p (.lst (ys++[y]))) else ∃ m',m'<m/\W (i+1) m' σ4 ys H5))
structure HB (X:Cx) (scope:dG) (tg elt:aR) (ifs:List aR) (g:TG) (tt:TT) (te:TE):Prop where
 tg:∀ s H fp,PG (inC X scope s H fp) tg g
 ifs:∀ s H fp,PTS (inC X scope s H fp) ifs tt
 elt:∀ s H fp,PE (inC X scope s H fp) elt te
section
variable {X:Cx} {elt tg iter:aR} {ifs:List aR} {scope:dG} {pos:d4} {ix:List (Option Nat)} {wi:TI} {g:TG} {tt:TT} {te:TE}
theorem y3 {pins:List (au×cX)} {σ σ1:St} {H3 H':Hp} {s3 s1:ai} {fp:List au} {pl:List (au×cX)} (I3:Inv X pins σ H3 s3) (f3:∀ b∈fp,xN X pins H3 b) (I1:Inv (inC X scope s3 H3 fp) pl σ1 H' s1):Inv X pins σ H' s1 :=
 I3.call' (ch:=fp) I1.os I1.base I1.hok I1.bare fun b hb=>let ⟨_,a,_,c,d,e⟩:=f3 b hb;⟨c,a,d,e⟩
theorem zL {pins:List (au×cX)} {σ σ1:St} {H3 H':Hp} {s3 s1:ai} {fp:List au} {pl:List (au×cX)} {h':b9} (I3:Inv X pins σ H3 s3) (f3:∀ b∈fp,xN X pins H3 b) (I1:Inv (inC X scope s3 H3 fp) pl σ1 H' s1)
 {s2:ai} {σ2:St} (J:Inv X pins σ2 H' s2) (hs:jD s3.heap.objs.size s2.heap h'):Inv X pins σ2 H' { s2 with heap:=h' }:=by
 refine J.turned (t':=s2.toks) (it:=s3.heap.objs.size) (fun b o hb e=>(hs.2 b hb).trans e) I1.free (Nat.ne_of_gt I3.lt) (.inr I3.sz) (fun x c e z=>?_) fun p hp z=>?_
 ·obtain ⟨v,hv⟩:=I3.cell x c e
  exact absurd hv.lt (by rw [z];exact cb _)
 ·have:=aG (I3.pin p hp).1
  rw [z] at this
  exact absurd this (cb _)
theorem zf {R:xT->ai->Prop} {pins:List (au×cX)} {σ:St} {H3:Hp} {s3 s4:ai} {fp:List au} {it p:au} {tn:Nat->b9->Prop} {J:It} {Q:VK} (hc:X.calm=true) (I3:Inv X pins σ H3 s3) (f3:∀ b∈fp,xN X pins H3 b) (T:DN X.prog X.w X.K tg J fp it tn)
 (B:HB X scope tg elt ifs g tt te) (W:Nat->Nat->St->List V->Hp->Prop)
 (turn:∀ i m σ2 ys H2,W i m σ2 ys H2->H2 p=some (.lst ys)/\ys.length<aK/\((J.stop i H2/\Q (.ref p) H2)\/(J.go i H2/\∀ x H3,J.yld i H2 x H3->g x σ2 H3 fun σ4 H4=>tt σ4 H4 fun b H5 =>
   if b=true then te σ4 H5 fun y H6=>H6 p=some (.lst ys)/\∃ m',m'<m/\W (i+1) m' σ4 (ys++[y]) (upd H6 p (.lst (ys++[y]))) else ∃ m',m'<m/\W (i+1) m' σ4 ys H5)))
 (fin:∀ σ1 H1 s1,Inv (inC X scope s3 H3 fp) [] σ1 H1 s1->Q (.ref p) H1->R (.ok .next) s1)
 (m:Nat) (σ4:St) (I4:Inv (inC X scope s3 H3 fp) [] σ4 H3 s4) (st4:tn 0 s4.heap) (w0:W 0 m σ4 [] H3) :
 kI (aZ X.prog X.w) X.A (.compLoop (.ListComp elt [⟨tg,iter,ifs,0⟩] scope pos) 0 (.ref it) (.ref p) (mo X scope s3.heap.objs.size)) R s4:=by
 have stat:∀ {H':Hp},(∀ b∈fp,H' b=none)->∀ b∈fp,xN (inC X scope s3 H3 fp) [] H' b:=fun {H'} hn b hb=>by
  obtain ⟨a0,a1,a2,a3,a4,a5⟩:=f3 b hb
  have I4':=I4.ok.exf b hb
  refine ⟨hn b hb,I4'.1,fun z=>?_,.inl hb,I4'.2,fun q hq=>absurd (show q∈([]:List (au×cX)) from hq) (by simp)⟩
  exact I4.ok.exfs b hb z
 refine codeAny_loop rfl (fun n s'=>∃ i σ' ys H',Inv (inC X scope s3 H3 fp) [] σ' H' s'/\tn i s'.heap/\(∀ b∈fp,H' b=none)/\W i n σ' ys H') ?_ m ⟨0,σ4,[],H3,I4,st4,fun b hb=>(f3 b hb).1,w0⟩
 rintro n s5 ⟨i,σ5,ys,H5,I5,st5,fr5,w5⟩
 show aN _ X.A ((compTurn (.ListComp elt [⟨tg,iter,ifs,0⟩] scope pos) 0 (.ref it) (.ref p) (mo X scope s3.heap.objs.size)).onRaise (fun x=>do noteFrame x (mo X scope s3.heap.objs.size);theTreesLotGoes x)) _ _ s5
 refine wpAny_noted ?_
 rw [compTurn_list]
 obtain ⟨hp,hz,alt⟩:=turn i n σ5 ys H5 w5
 rcases alt with ⟨stop,qn⟩ | ⟨go,step⟩
 ·refine ac (jJ (ac (thn (T.done (inC X scope s3 H3 fp) rfl rfl rfl hc i [] s5 σ5 H5 _ I5 (stat fr5) st5 stop) fun r s6 ⟨hr,I6⟩=>?_)))
  subst hr
  exact aq (fin σ5 H5 s6 I6 qn)
 ·refine ac (jJ (ac (thn (T.item (inC X scope s3 H3 fp) rfl rfl rfl hc i [] s5 σ5 H5 _ I5 (stat fr5) st5 go) fun r s6 ⟨u,hr,h6⟩=>?_)))
  subst hr
  refine ac (thn h6 fun _ s7 ⟨x,H7,I7,r7,y7,st7,fr7⟩=>?_)
  have I7':=I7.pinned (stat fr7) (T.obj _ _ st7)
  have nox:∀ {α:Type} {t:Sem α} {P:α->ai->Prop} {E':ag->ai->Prop} {s':ai},aN (aZ X.prog X.w) X.A t P (fun _ _=>False) s'->aN (aZ X.prog X.w) X.A t P E' s':=fun h=>dm h (fun _ _ z=>z) fun _ _ z=>z.elim
  refine ac (thn (nox (B.tg s3 H3 fp _ s7 σ5 H7 x u _ I7' r7 (step x H7 y7))) fun _ s8 ⟨σ8,H8,I8,q8⟩=>?_)
  refine ac (thn (nox (B.ifs s3 H3 fp _ s8 σ8 H8 _ I8 q8)) fun ok s9 ⟨H9,I9,q9⟩=>?_)
  have again:∀ {σ7:St} {H7':Hp} {s':ai} {zs:List V},Inv (inC X scope s3 H3 fp) ([]++s0 fp s7.heap) σ7 H7' s'->(∃ m',m'<n/\W (i+1) m' σ7 zs H7')->∃ m',m'<n/\∃ i σ' ys H',Inv (inC X scope s3 H3 fp) [] σ' H' s'/\tn i s'.heap/\(∀ b∈fp,H' b=none)/\W i m' σ' ys H':=fun {σ7 H7' s' zs} J w=>by
   obtain ⟨m',hm,w⟩:=w
   refine ⟨m',hm,i+1,σ7,zs,H7',J.unpinned,T.keep _ _ _ st7 fun b hb o e=>(J.pin (b,o) (aW _ (aW _ (kj hb e)))).1,fun b hb=>?_,w⟩
   obtain ⟨o,e,d⟩:=T.obj _ _ st7 b hb
   exact (J.pin (b,o) (aW _ (aW _ (kj hb e)))).2.1
  cases ok with
  | false =>
    rw [if_neg aM] at q9
    exact aq ⟨rfl,again I9 q9⟩
  | true =>
    rw [if_pos rfl] at q9
    refine ac (ac (thn (nox (B.elt s3 H3 fp _ s9 σ8 H9 _ I9 q9)) fun uy s10 ⟨y,H10,I10,ry,hp10,q10⟩=>?_))
    refine ac (thn (nox (sY (X:=inC X scope s3 H3 fp) _ s10 σ8 H10 (.ref p) [y] (.ref p) [uy] (fun _ H'=>H'=upd H10 p (.lst (ys++[y]))) I10 rfl (.cons ry .nil) ⟨p,ys,y,rfl,rfl,hp10,hz,rfl⟩)) fun _ s11 ⟨_,H11,I11,_,e11⟩=>?_)
    subst e11
    exact aq (aq ⟨rfl,again I11 q10⟩)
theorem zb (hc:X.calm=true) (S:CScope X scope ix) (hi:PI X tg iter wi) (B:HB X scope tg elt ifs g tt te) (hs:∀ x,eM iter X.env x=pure x:=by intro _;rfl):PE X (.ListComp elt [⟨tg,iter,ifs,0⟩] scope pos) (zT (mpS ix) wi g tt te):=by
 intro pins s σ H Q I h
 rw [eval_ListComp]
 refine wpAny_comprehension_free (use:=none) rfl hs (l6 (S.cells I)) S.kind (fun y hy hl=>S.names (by rw [<- hl];exact hy)) ?_
 refine thn (hi pins s σ H _ I h) fun v s1 h1=>thn h1 fun itv s2 h2=>?_
 obtain ⟨it,fp,tn,J,H2,rfl,I2,T,st2,f2,hq⟩:=h2
 obtain ⟨W,⟨m0,w0⟩,turn⟩:=hq s2.heap.objs.size I2.fresh
 refine cA ?_
 have I3:Inv X pins σ (upd H2 s2.heap.objs.size (.lst [])) { s2 with heap:=s2.heap.push { cls:=.type "list",data:=.seq ([]:List ag).toArray } }:=I2.lnew (its:=[]) (t':=s2.toks) .nil (bW _)
 have lt2:∀ b∈fp,b<s2.heap.objs.size:=fun b hb=>by obtain ⟨o,e,_⟩:=T.obj _ _ st2 b hb;exact aG e
 have f3:∀ b∈fp,xN X pins (upd H2 s2.heap.objs.size (.lst [])) b:=fun b hb=>⟨by rw [a8 (be (lt2 b hb))];exact (f2 b hb).1,(f2 b hb).2⟩
 refine xk S I3 (fp:=fp) (fun b hb=>⟨f3 b hb,?_⟩) fun env h4 ee el I4 keep4=>?_
 ·show b<(s2.heap.push _).objs.size
  rw [kz]
  exact Nat.lt_succ_of_lt (lt2 b hb)
 rw [ee,el]
 have st4:tn 0 h4:=T.keep _ _ _ st2 fun b hb o e=>keep4 b o (ah _ e)
 have fin:∀ σ1 H1 s1,Inv (inC X scope { s2 with heap:=s2.heap.push { cls:=.type "list",data:=.seq ([]:List ag).toArray } } (upd H2 s2.heap.objs.size (.lst [])) fp) [] σ1 H1 s1->Q (.ref s2.heap.objs.size) H1 ->
  compPost (aZ X.prog X.w) X.A X.xe none (EP X pins σ Q) (.ref s2.heap.objs.size) ((s2.heap.push { cls:=.type "list",data:=.seq ([]:List ag).toArray }).objs.size) (.ok .next) s1:=fun σ1 H1 s1 I1 q1=>by
  obtain ⟨m,hn,_⟩:=I1.loc
  exact ⟨m,hn,fun h' hs'=>⟨.ref s2.heap.objs.size,H1,zL I3 f3 I1 (y3 I3 f3 I1) hs',rfl,q1⟩⟩
 have loop:=zf (iter:=iter) (pos:=pos) (R:=compPost (aZ X.prog X.w) X.A X.xe none (EP X pins σ Q) (.ref s2.heap.objs.size) ((s2.heap.push { cls:=.type "list",data:=.seq ([]:List ag).toArray }).objs.size)) hc I3 f3 T B W turn fin m0 (mpS ix σ) I4 st4 w0
 exact codeAny_compStart_list loop (T.self X.A 0 _ _ _ st4 loop)
end
noncomputable def mpR (ix:List (Option Nat)) (ρ:Rho):Rho:=ix.map fun o=>match o with
 | some j=>(ρ[j]?).getD .no
 | none=>.no
theorem Gj {X:Cx} {scope:dG} {ix:List (Option Nat)} (S:CScope X scope ix) {i k j:Nat} (h1:ix[i]?=some (some j)) (h2:ix[k]?=some (some j)):i=k:=by
 obtain ⟨x,a1,a2⟩:=iY S.ix h1
 obtain ⟨y,b1,b2⟩:=iY S.ix h2
 rw [a2] at b2
 cases b2
 have c1:(scope.names.map (·.1))[i]?=some x:=by rw [aC,a1];rfl
 have c2:(scope.names.map (·.1))[k]?=some x:=by rw [aC,b1];rfl
 exact qx S.nd c1 c2
theorem nX {ix:List (Option Nat)} {ρ:Rho} {i:Nat} {x:Sl} (h:(mpR ix ρ)[i]?=some x) (hx:x≠.no):∃ j,ix[i]?=some (some j)/\ρ[j]?=some x:=by
 unfold mpR at h
 rw [aC] at h
 cases q:ix[i]? with
 | none=>rw [q] at h;cases h
 | some o =>
   rw [q] at h
   cases o with
   | none=>cases h;exact absurd rfl hx
   | some j =>
     have h':(ρ[j]?).getD .no=x:=by simpa using h
     cases z:ρ[j]? with
     | none=>rw [z] at h';exact absurd h'.symm hx
     | some y=>rw [z] at h';exact ⟨j,rfl,z.trans (congrArg some h')⟩
theorem uz {ix:List (Option Nat)} {σ:St} {i j:Nat} {v:V} (h:ix[i]?=some (some j)) (hs:σ[j]?=some (some v)):(mpS ix σ)[i]?=some (some v):=by
 unfold mpS
 rw [aC,h]
 simp [hs]
theorem v3 {ix:List (Option Nat)} {σ:St} {i j:Nat} {v:V} (h:ix[i]?=some (some j)) (hs:(mpS ix σ)[i]?=some (some v)):σ[j]?=some (some v):=by
 unfold mpS at hs
 rw [aC,h] at hs
 have h':(σ[j]?).getD none=some v:=by simpa using hs
 cases z:σ[j]? with
 | none=>rw [z] at h';cases h'
 | some y=>rw [z] at h';exact congrArg some h'
theorem hZ.mp {X:Cx} {scope:dG} {ix:List (Option Nat)} {K:ae} {B G H:Hp} {σ:St} {ρ:Rho} (S:CScope X scope ix) (h:hZ K B G H σ ρ):hZ K B G H (mpS ix σ) (mpR ix ρ):=by
 refine ⟨by unfold mpS mpR;rw [af,af],fun i d e=>?_,fun i d e=>?_,fun i k d d' l hik e1 e2 s1 s2=>?_,h.tg⟩
 ·obtain ⟨j,hj,hr⟩:=nX e (by intro z;cases z)
  obtain ⟨v,hv,dv⟩:=h.pu j d hr
  exact ⟨v,uz hj hv,dv⟩
 ·obtain ⟨j,hj,hr⟩:=nX e (by intro z;cases z)
  obtain ⟨l,o,hv,r⟩:=h.ow j d hr
  exact ⟨l,o,uz hj hv,r⟩
 ·obtain ⟨j,hj,hr⟩:=nX e1 (by intro z;cases z)
  obtain ⟨j',hj',hr'⟩:=nX e2 (by intro z;cases z)
  refine h.ap j j' d d' l (fun z=>?_) hr hr' (v3 hj s1) (v3 hj' s2)
  subst z
  exact hik (Gj S hj hj')
theorem hZ.other {K:ae} {B G H:Hp} {σ:St} {ρ:Rho} {p:au} {o o':HO} (h:hZ K (upd B p o) G H σ ρ):hZ K (upd B p o') G (upd H p o') σ ρ:=by
 refine ⟨h.len,h.pu,fun i d e=>?_,h.ap,h.tg⟩
 obtain ⟨l,ob,a,nb,ng,hl,r⟩:=h.ow i d e
 have ne:l≠p:=fun z=>by subst z;rw [aU] at nb;cases nb
 exact ⟨l,ob,a,by rw [a8 ne] at nb ⊢;exact nb,ng,by rw [a8 ne];exact hl,r⟩
noncomputable def oX (t:Da->Rho->Option Rho) (c:Rho->Option Bool) (f:Rho->Option Rv):List Da->Rho->Option (List Da)
 | [],_=>some []
 | d::ds,ρ=>match t d ρ with
   | none=>none
   | some ρ1=>match c ρ1 with
     | none=>none
     | some false=>oX t c f ds ρ1
     | some true=>match f ρ1 with
       | none=>none
       | some r=>if eG r=true then (match oX t c f ds ρ1 with
         | none=>none
         | some es=>some (r.2::es)) else none
noncomputable def fK (ix:List (Option Nat)) (fi:Rho->Option (List Da)) (t:Da->Rho->Option Rho) (c:Rho->Option Bool) (f:Rho->Option Rv):Rho->Option Rv:=fun ρ=>match fi ρ with
 | none=>none
 | some ds=>if ds.length<=1000000 then (match oX t c f ds (mpR ix ρ) with
   | none=>none
   | some es=>some (.fr,.lst es)) else none
theorem D5 {X:Cx} {scope:dG} {ix:List (Option Nat)} {fi:Rho->Option (List Da)} {t:Da->Rho->Option Rho} {c:Rho->Option Bool} {f:Rho->Option Rv} (S:CScope X scope ix) {σ:St} {H:Hp} {Q:VK} (q:tX X.K (fK ix fi t c f) σ H Q) :
 zT (mpS ix) (iX X.K fi) (gX X.K t) (tXT X.K c) (tX X.K f) σ H Q:=by
 obtain ⟨B,G,ρ,r,sg,sb,st,e,k⟩:=q
 unfold fK at e
 split at e
 ·cases e
 ·rename_i ds efi
  split at e
  case isFalse=>cases e
  case isTrue hz =>
  split at e
  ·cases e
  ·rename_i es ees
   cases e
   have hsz:aK=16777216:=bu
   refine ⟨B,G,ρ,ds,sg,sb,st,efi,fun J G1 H1 E1 it p hp=>?_⟩
   have hp0:H p=none:=E1.hh.free hp
   refine ⟨fun i m σ2 ys H2=>m=ds.length-i/\i<=ds.length/\∃ G2 ρ2 done rest,Ext G H G2 H2/\cG G1 G2/\G2 p=none/\H2 p=some (.lst ys)/\cD X.K G2 done ys/\done.length<=i/\oX t c f (ds.drop i) ρ2=some rest/\done++rest=es/\hZ X.K (upd B p (.lst ys)) G2 H2 σ2 ρ2,
    ⟨ds.length,by simp,bW _,G1,mpR ix ρ,[],es,E1.trans (Ext.own E1.gh hp),cG.refl _,E1.gh.free hp,aU,rfl,bW _,by rw [ky];exact ees,rfl,?_⟩,?_⟩
   ·have st1:=((st.ext E1).ext (Ext.own (o:=.lst []) E1.gh hp)).mp S
    refine ⟨st1.len,st1.pu,fun i d q=>?_,st1.ap,st1.tg⟩
    obtain ⟨l,o,a,nb,ng,hl,r⟩:=st1.ow i d q
    have ne:l≠p:=fun z=>by
     subst z
     obtain ⟨j,hj,hr⟩:=nX q (by intro z;cases z)
     obtain ⟨l',o',a',_,_,hl',_⟩:=(st.ext E1).ow j d hr
     have:=uz hj a'
     rw [a] at this
     cases this
     rw [hp] at hl';cases hl'
    exact ⟨l,o,a,by rw [a8 ne];exact nb,ng,hl,r⟩
   ·rintro i m σ2 ys H2 ⟨rfl,hi,G2,ρ2,done,rest,E2,s12,gp,hp2,dl,hdl,ecl,eapp,st2⟩
    have hln:=dl.length
    refine ⟨hp2,by lia,?_⟩
    have sB2:cG (upd B p (.lst ys)) H2:=fun b o z=>by
     by_cases hb:b=p
     ·subst hb;rw [aU] at z;rw [<- z];exact hp2
     ·rw [a8 hb] at z;exact E2.hh b o (sb b o z)
    by_cases hlt:i<ds.length
    ·obtain ⟨d,hd⟩:∃ d,ds[i]?=some d:=⟨ds[i],by simp [hlt]⟩
     have hdrop:ds.drop i=d::ds.drop (i+1):=by
      rw [gj hlt]
      congr 1
      rw [aj hlt] at hd
      exact bH hd
     rw [hdrop] at ecl
     unfold oX at ecl
     split at ecl
     ·cases ecl
     ·rename_i ρ1 et
      obtain ⟨hgo,hy⟩:=(it i G2 H2 s12 E2.gh).1 d hd
      refine .inr ⟨hgo,fun x H3 yl=>?_⟩
      obtain ⟨G3,E3,dx⟩:=hy x H3 yl
      refine ⟨upd B p (.lst ys),G3,G3,ρ2,d,ρ1,⟨sB2.trans E3.hh,cG.refl _,E3.gh,fun _ _ _ _ z=>z⟩,st2.ext E3,dx,et,fun σ4 st4=>?_⟩
      split at ecl
      ·cases ecl
      ·rename_i ec
       refine ⟨upd B p (.lst ys),G3,ρ1,false,E3.gh,sB2.trans E3.hh,st4,ec,fun G4 H4 E4=>?_⟩
       refine Gb ?_
       have E24:=E3.trans E4
       refine ⟨ds.length-(i+1),by lia,rfl,hlt,G4,ρ1,done,rest,E2.trans E24,s12.trans E24.gg,E24.nw _ _ hp2 rfl gp,E24.hh _ _ hp2,cD.mono E24.gg _ dl,by lia,ecl,eapp,st4.ext E4⟩
      ·rename_i ec
       refine ⟨upd B p (.lst ys),G3,ρ1,true,E3.gh,sB2.trans E3.hh,st4,ec,fun G4 H4 E4=>?_⟩
       refine FH ?_
       split at ecl
       ·cases ecl
       ·rename_i r er
        split at ecl
        case isFalse=>cases ecl
        case isTrue hpu =>
        split at ecl
        ·cases ecl
        ·rename_i es' ees'
         cases ecl
         refine ⟨upd B p (.lst ys),G4,ρ1,r,E4.gh,(sB2.trans E3.hh).trans E4.hh,st4.ext E4,er,fun y G5 H5 E5 r5=>?_⟩
         obtain ⟨G6,E6,s56,dy⟩:=r5.pure E5 hpu
         have E26:=(E3.trans E4).trans E6
         have hp5:=E26.hh _ _ hp2
         have gp6:=E26.nw _ _ hp2 rfl gp
         have E06:=E2.trans E26
         refine ⟨hp5,ds.length-(i+1),by lia,rfl,hlt,G6,ρ1,done++[r.2],es',⟨kf E06.hh hp0,E06.gg,kf E06.gh gp6,E06.nw⟩,s12.trans E26.gg,gp6,aU,cD.append (cD.mono E26.gg _ dl) (cD.one dy),by rw [aO,bB];lia,ees',by rw [fz];exact eapp,?_⟩
         exact ((st4.ext E4).ext E6).other
    ·have ei:i=ds.length:=by lia
     subst ei
     rw [jq] at ecl
     cases ecl
     rw [cC] at eapp
     subst eapp
     exact .inl ⟨(it ds.length G2 H2 s12 E2.gh).2 rfl,k _ G2 H2 E2 ⟨p,_,rfl,hp0,gp,hp2,ys,rfl,dl⟩⟩
structure Ho (X:Cx) (scope:dG) (tg elt:aR) (ifs:List aR) (t:Da->Rho->Option Rho) (c:Rho->Option Bool) (f:Rho->Option Rv):Prop where
 tg:∀ s H fp,PXG (inC X scope s H fp) tg t
 ifs:∀ s H fp,PTS (inC X scope s H fp) ifs (tXT X.K c)
 elt:∀ s H fp,PX (inC X scope s H fp) elt f
theorem Fa {X:Cx}:PTS X [] (tXT X.K fun _=>some true):=fun pins s σ H Q I ⟨B,G,ρ,b,sg,sb,st,e,k⟩=>by cases e;exact AC pins s σ H Q I (k G H (Ext.refl sg))
theorem EG {X:Cx} {c:aR} {t:Rho->Option Bool} (h:PXT X c t):PTS X [c] (tXT X.K t):=EF h
section
variable {X:Cx} {elt tg iter:aR} {ifs:List aR} {scope:dG} {pos spos py:d4} {ix:List (Option Nat)} {fi:Rho->Option (List Da)} {t:Da->Rho->Option Rho} {c:Rho->Option Bool} {f:Rho->Option Rv}
theorem D4 (hc:X.calm=true) (S:CScope X scope ix) (hi:PXI X tg iter fi) (B:Ho X scope tg elt ifs t c f) (hs:∀ x,eM iter X.env x=pure x:=by intro _;rfl):PX X (.ListComp elt [⟨tg,iter,ifs,0⟩] scope pos) (fK ix fi t c f) :=
 PE.imp (zb hc S hi ⟨B.tg,B.ifs,B.elt⟩ hs) fun _ _ _ q=>D5 S q
end
noncomputable def v8 (outer:List (bv×dA)):List (bv×dA)->Bool
 | []=>true
 | (x,k)::r=>(!(k == .free)||outer.lookup x == some .cell||outer.lookup x == some .free)&&v8 outer r
theorem sW {outer:List (bv×dA)}:∀ {names:List (bv×dA)},v8 outer names=true->∀ y∈names,y.2=.free->outer.lookup y.1=some .cell\/outer.lookup y.1=some .free
 | [],_,y,hy,_=>by simp at hy
 | (x,k)::r,h,y,hy,hf=>by
   unfold v8 at h
   rw [aT] at h
   rcases aE.mp hy with rfl | hy
   ·have h1:=h.1
    dsimp only at hf
    subst hf
    rcases im _ _▸h1 with z | z
    ·rcases im _ _▸z with w | w
     ·exact absurd w (by decide)
     ·exact .inl (by simpa using w)
    ·exact .inr (by simpa using z)
   ·exact sW h.2 y hy hf
theorem e9 {X:Cx} {scope:dG} {ix:List (Option Nat)} (h1:scope.kind=.function) (h2:(scope.names.map (·.1)).Nodup) (h3:v8 X.env.scope.names scope.names=true) (h4:rW X.N scope.names ix=true):CScope X scope ix :=
 ⟨h1,h2,fun y hy hf=>sW h3 y hy hf,h4⟩
theorem cnd {X:Cx} {scope:dG} {s:ai} {H:Hp} {fp:List au} (h:(scope.names.map (·.1)).Nodup):(inC X scope s H fp).N.Nodup:=h
section
variable {X:Cx} {a b c e:aR} {es:List aR} {p pos pos':d4} {f fa fb fc:Rho->Option Rv} {g:Rho->Option (List Rv)}
theorem Dt (hg:Gl X "len") (hm:X.mg "len" = none) (ha:PXA X (e::es) g) (he:ao (e::es) X.env=(false,bL e X.env)::ao es X.env:=by exact bD rfl) (hpl:(bZ pos (ao es X.env)).any (·.1)=false:=by rfl):PX X (.Call (.Name "len" p) (e::es) [] pos) (xB oE g) :=
 Dz tJ Ff hg hm PySem.boot_len ha (by decide) (by decide) he hpl
theorem BE (hg:Gl X "tuple") (hm:X.mg "tuple" = none) (ha:PXA X (e::es) g) (he:ao (e::es) X.env=(false,bL e X.env)::ao es X.env:=by exact bD rfl) (hpl:(bZ pos (ao es X.env)).any (·.1)=false:=by rfl):PX X (.Call (.Name "tuple" p) (e::es) [] pos) (xB fV g) :=
 GR qw yG hg hm (by decide +kernel) ha (by decide) (by decide) he hpl
theorem FB (hg:Gl X "list") (hm:X.mg "list" = none) (ha:PXA X (e::es) g) (he:ao (e::es) X.env=(false,bL e X.env)::ao es X.env:=by exact bD rfl) (hpl:(bZ pos (ao es X.env)).any (·.1)=false:=by rfl):PX X (.Call (.Name "list" p) (e::es) [] pos) (xB mq g) :=
 GR tq Bq hg hm (by decide +kernel) ha (by decide) (by decide) he hpl
noncomputable def wc (f:Rho->Option Rv):Rho->Option Rv:=fun ρ=>match f ρ with
 | some (_,.int i)=>some (.pu,.int (-i))
 | _=>none
theorem GN (ha:PX X a fa):PX X (.UnaryOp .USub a pos) (wc fa):=PE.imp (JX Hv ha) fun σ H Q ⟨B,G,ρ,r,sg,sb,st,eq,k⟩=>by
 unfold wc at eq
 split at eq
 ·rename_i kd i q
  cases eq
  exact ⟨B,G,ρ,_,sg,sb,st,q,fun v G1 H1 E1 r1=>⟨i,r1.int,k _ G1 H1 E1 rfl⟩⟩
 ·cases eq
noncomputable def kq (fd fk fx:Rho->Option Rv):Rho->Option Rv:=fun ρ=>match fd ρ,fk ρ,fx ρ with
 | some d,some k,some x=>match lL d.2 k.2 with
   | some (some e)=>some (.pu,e)
   | some none=>some x
   | none=>none
 | _,_,_=>none
theorem Hj {K:ae} {B H0 G H:Hp} {r:Rv} {v:V} {k:Da} {o:Option Da} (sg:cG G H) (h:gv K B H0 G H r v) (e:lL r.2 k=some o):∃ a,v=.ref a/\IsD H a:=by
 obtain ⟨kd,d⟩:=r
 cases d with
 | dK ks ds=>obtain ⟨a,kvs,rfl,q,_⟩:=h.dK sg;exact ⟨a,rfl,.inl ⟨kvs,q⟩⟩
 | dT ks ds=>obtain ⟨a,kvs,rfl,q,_⟩:=h.dT sg;exact ⟨a,rfl,.inr ⟨kvs,q⟩⟩
 | _=>unfold lL at e;cases e
theorem yn {apos:d4} {o:aR} {fo:Rho->Option Rv} (hu:X.A.units+1<cg) (ho:PX X o fo) (ha:PX X a fa) (hb:PX X b fb) (hbase:d6 o "get" X.env (bL o X.env)=bL o X.env:=by rfl)
 (hfew:((bZ pos (ao [a,b] X.env)).all (fun x=>!x.1)&&(iE pos (fm [] X.env)).all (fun x=>x.1.isSome)&&decide (([a,b]:List aR).length+([]:List f9).length+(if ([]:List f9).isEmpty then 0 else 1)<30))=true:=by rfl)
 (hline:(apos.endLine == pos.line)=true:=by rfl) (htr:bZ pos (ao [a,b] X.env)=[(false,bL a X.env),(false,bL b X.env)]:=by rfl):PX X (.Call (.Attribute o "get" apos) [a,b] [] pos) (kq fo fa fb) :=
 PE.imp (BX hu ho ha hb ⟨hbase,hfew,hline,htr⟩) fun σ H Q ⟨B,G,ρ,r,sg,sb,st,eq,k⟩=>by
  unfold kq at eq
  split at eq
  ·rename_i d k' x ed ek ex
   refine ⟨B,G,ρ,d,sg,sb,st,ed,fun v G1 H1 E1 r1=>?_⟩
   have look:∃ o,lL d.2 k'.2=some o:=by
    split at eq
    ·exact ⟨_,by assumption⟩
    ·exact ⟨_,by assumption⟩
    ·cases eq
   obtain ⟨oo,eo⟩:=look
   obtain ⟨a',rfl,isd⟩:=Hj E1.gh r1 eo
   refine ⟨a',rfl,isd,B,G1,ρ,k',E1.gh,sb.trans E1.hh,st.ext E1,ek,fun y G2 H2 E2 r2=>⟨B,G2,ρ,x,E2.gh,(sb.trans E1.hh).trans E2.hh,(st.ext E1).ext E2,ex,fun z G3 H3 E3 r3=>?_⟩⟩
   have E12:=E1.trans E2
   obtain ⟨p',ov,ep,g,m⟩:=nu (H0:=H) E3.gh ((r1.ext E2).ext E3) ((r2.base (H0:=H) E1.hh).ext E3) eo
   cases ep
   refine ⟨ov,g,?_⟩
   rw [eo] at eq
   cases oo with
   | some e' =>
     cases eq
     obtain ⟨w,rfl,dw⟩:=m
     exact k w G3 H3 (E12.trans E3) dw
   | none =>
     cases eq
     cases m
     exact k z G3 H3 (E12.trans E3) (r3.base (E1.hh.trans E2.hh))
  ·cases eq
noncomputable def gJ {κ:Type} [DecidableEq κ]:List κ->List Da->κ->Da->List Da
 | k::ks,d::ds,j,e=>if k=j then e::ds else d::gJ ks ds j e
 | _,_,_,e=>[e]
noncomputable def gI {κ:Type} [DecidableEq κ]:List κ->κ->List κ
 | k::ks,j=>if k=j then k::ks else k::gI ks j
 | [],j=>[j]
theorem AO {κ:Type} [DecidableEq κ] {k j:κ} {v y:V} {r:List (κ×V)} (nd:((k,v)::r).map (·.1) |>.Nodup):kt ((k,v)::r) j y=if k=j then (k,y)::r else (k,v)::kt r j y:=by
 have nd':k∉r.map (·.1)/\(r.map (·.1)).Nodup:=bi.mp nd
 unfold kt
 by_cases h:k=j
 ·subst h
  rw [if_pos (by rw [i9];simp),if_pos rfl,aD,if_pos rfl]
  congr 1
  conv=>rhs;rw [<- List.map_id r]
  refine eN fun p hp=>?_
  have:p.1≠k:=fun z=>nd'.1 (by rw [<- z];exact aS.mpr ⟨p,hp,rfl⟩)
  rw [if_neg this];rfl
 ·rw [if_neg h,i9,decide_eq_false h,Bool.false_or]
  by_cases h2:(r.any fun kv=>decide (kv.1=j))=true
  ·rw [if_pos h2,if_pos h2,aD,if_neg h]
  ·rw [if_neg h2,if_neg h2];rfl
theorem uF {K:ae} {G:Hp} {κ:Type} [DecidableEq κ]:∀ {kvs:List (κ×V)} {ks:List κ} {ds:List Da} (j:κ) {d:Da} {v:V},ks.Nodup->kvs.map (·.1)=ks->cD K G ds (kvs.map (·.2))->Den K G d v ->
 (kt kvs j v).map (·.1)=gI ks j/\cD K G (gJ ks ds j d) ((kt kvs j v).map (·.2))
 | [],ks,ds,j,d,v,_,e,h,hd=>by
   subst e
   cases ds with
   | nil=>exact ⟨rfl,cD.one hd⟩
   | cons d ds=>obtain ⟨x,r,e,_⟩:=h;cases e
 | (k,w)::r,ks,ds,j,d,v,nd,e,h,hd=>by
   subst e
   cases ds with
   | nil=>cases (show (w::r.map (·.2))=[] from h)
   | cons d' ds =>
     obtain ⟨x,xr,ex,h1,h2⟩:=h
     injection ex with e1 e2
     subst e1;subst e2
     rw [AO nd]
     have nd2:(r.map (·.1)).Nodup:=(bi.mp (show (k::r.map (·.1)).Nodup from nd)).2
     by_cases hk:k=j
     ·rw [if_pos hk]
      refine ⟨?_,?_⟩
      ·show k::r.map (·.1)=if k=j then _ else _;rw [if_pos hk]
      ·show cD K G (if k=j then _ else _) _;rw [if_pos hk];exact ⟨_,_,rfl,hd,h2⟩
     ·rw [if_neg hk]
      obtain ⟨i1,i2⟩:=uF (K:=K) (G:=G) (kvs:=r) (ks:=r.map (·.1)) (ds:=ds) j nd2 rfl h2 hd
      refine ⟨?_,?_⟩
      ·show k::(kt r j v).map (·.1)=if k=j then _ else _;rw [if_neg hk,i1]
      ·show cD K G (if k=j then _ else _) _;rw [if_neg hk];exact ⟨_,_,rfl,h1,i2⟩
noncomputable def FM:Da->Da->Da->Option Da
 | .dK ks ds,k,v=>match Dd k with
   | some j=>if ks.Nodup/\ks.length<=1000000 then some (.dK (gI ks j) (gJ ks ds j v)) else none
   | none=>none
 | .dT ks ds,.tup es,v=>match lJ es with
   | some j=>if ks.Nodup/\ks.length<=1000000 then some (.dT (gI ks j) (gJ ks ds j v)) else none
   | none=>none
 | _,_,_=>none
noncomputable def Cq (i:Nat) (fk fv:Rho->Option Rv):Rho->Res:=fun ρ=>match ρ[i]?,fk ρ,fv ρ with
 | some (.ow d),some k,some v=>if eG v=true then (match FM d k.2 v.2 with
   | some d'=>.nx (ρ.set i (.ow d'))
   | none=>.bad) else .bad
 | _,_,_=>.bad
theorem Bt {K:ae} {B H0 G H:Hp} {d d':Da} {o:HO} {l:au} {k:Rv} {y v:V} {dv:Da} (sg:cG G H) (hl:H l=some o) (hd:Holds K G d o) (rk:gv K B H0 G H k y) (hv:Den K G dv v) (e:FM d k.2 dv=some d') :
 ∃ o',BN H l y v (upd H l o')/\Holds K G d' o':=by
 obtain ⟨kd,kk⟩:=k
 have hs:aK=16777216:=bu
 cases d with
 | dK ks ds =>
   have e:(match Dd kk with
    | some j=>if ks.Nodup/\ks.length<=1000000 then some (Da.dK (gI ks j) (gJ ks ds j dv)) else none
    | none=>none)=some d':=by cases kk<;>exact e
   split at e
   ·rename_i j ej
    split at e
    ·rename_i hnd
     cases e
     obtain ⟨kvs,rfl,ek,dl⟩:=hd
     have ey:y=kV j:=yi ej (rk.den sg (yX ej))
     obtain ⟨p1,p2⟩:=uF (K:=K) (G:=G) j hnd.1 ek dl hv
     have hlen:kvs.length=ks.length:=by rw [<- ek,af]
     exact ⟨.dK (kt kvs j v),.inl ⟨kvs,j,hl,ey,by lia,rfl⟩,_,rfl,p1,p2⟩
    ·cases e
   ·cases e
 | dT ks ds =>
   cases kk with
   | tup es =>
     have e:(match lJ es with
      | some j=>if ks.Nodup/\ks.length<=1000000 then some (Da.dT (gI ks j) (gJ ks ds j dv)) else none
      | none=>none)=some d':=e
     split at e
     ·rename_i j ej
      split at e
      ·rename_i hnd
       cases e
       obtain ⟨kvs,rfl,ek,dl⟩:=hd
       obtain ⟨t,xs,rfl,qt,dl2,_⟩:=rk.tup sg
       rw [uX ej dl2] at qt
       obtain ⟨p1,p2⟩:=uF (K:=K) (G:=G) j hnd.1 ek dl hv
       have hlen:kvs.length=ks.length:=by rw [<- ek,af]
       exact ⟨.dT (kt kvs j v),.inr ⟨kvs,j,t,hl,rfl,qt,by lia,rfl⟩,_,rfl,p1,p2⟩
      ·cases e
     ·cases e
   | _=>cases e
 | _=>cases e
theorem DQ {i:Nat} {x:bv} {px:d4} (hu:X.A.units+64<cg) (hk:PX X a fa) (hv:PX X b fb) (hN:X.N[i]?=some x:=by rfl) (hvis:Vis X.env.scope x:=by first | exact cR rfl | exact cL (cR rfl) | exact cL (cL rfl)) (hd:(x == ("__debug__" : bv))=false:=by decide)
 (hcd:(x == ("__classdict__" : bv))=false:=by decide) (hs:eX b (some (.Subscript (.Name x px) a pos')) pos.line X.env=pure false:=by rfl):PXS X (.Assign [.Subscript (.Name x px) a pos'] b pos) (Cq i fa fb) :=
 PS.imp (nU (by lia) (sO hN hvis hd hcd) hk hv hs) fun D σ H ⟨B,G0,G,ρ,E,st,k⟩=>by
  unfold Cq at k
  split at k
  ·rename_i d rk rv eo ek ev
   split at k
   ·rename_i hpu
    refine ⟨B,G,ρ,rv,E.gh,E.hh,st,ev,fun v G1 H1 E1 r1=>?_⟩
    obtain ⟨G2,E2,_,dv⟩:=r1.pure E1 hpu
    obtain ⟨l,o,a',nb,ng,hl,hd'⟩:=(st.ext E2).ow i d eo
    refine ⟨_,a',B,G2,ρ,rk,E2.gh,E.hh.trans E2.hh,st.ext E2,ek,fun y G3 H3 E3 r3=>?_⟩
    split at k
    ·rename_i d' ed
     obtain ⟨o',hput,hh⟩:=Bt E3.gh (E3.hh _ _ hl) (hd'.mono E3.gg) r3 (Den.mono E3.gg _ dv) ed
     have E03:=(E.trans E2).trans E3
     exact ⟨l,_,rfl,hput,k _ G3 _ (E03.mut nb (E3.nw _ _ hl hd'.nt ng)) (E2.gg.trans E3.gg) (((st.ext E2).ext E3).mut eo a' hh)⟩
    ·exact k.elim
   ·exact k.elim
  ·exact k.elim
noncomputable def KZ (i j:Nat):Rho->Res:=fun ρ=>match ρ[i]? with
 | some (.ow (.lst ds))=>match ds.getLast? with
   | some d=>.nx ((ρ.set i (.ow (.lst ds.dropLast))).set j (.pu d))
   | none=>.bad
 | _=>.bad
noncomputable def kO (i:Nat) (f:Rho->Option Rv):Rho->Res:=fun ρ=>match ρ[i]?,f ρ with
 | some (.ow (.lst ds)),some (.fr,.lst es)=>if ds.length+es.length<=1000000 then .nx (ρ.set i (.ow (.lst (ds++es)))) else .bad
 | _,_=>.bad
theorem xi {i:Nat} {x:bv} {p1 apos cpos:d4} (he:PX X e f) (hN:X.N[i]?=some x:=by rfl) (hv:Vis X.env.scope x:=by first | exact cR rfl | exact cL (cR rfl) | exact cL (cL rfl)) (hd:(x == ("__debug__" : bv))=false:=by decide)
 (hcd:(x == ("__classdict__" : bv))=false:=by decide)
 (hs:eX (.Call (.Attribute (.Name x p1) "extend" apos) [e] [] cpos) none pos.line X.env=pure false:=by rfl) (hbase:d6 (.Name x p1) "extend" X.env (bL (.Name x p1) X.env)=bL (.Name x p1) X.env:=by rfl)
 (hfew:((bZ cpos (ao [e] X.env)).all (fun x=>!x.1)&&(iE cpos (fm [] X.env)).all (fun x=>x.1.isSome)&&decide (([e]:List aR).length+([]:List f9).length+(if ([]:List f9).isEmpty then 0 else 1)<30))=true:=by rfl)
 (hline:(apos.endLine == cpos.line)=true:=by rfl) (hst:ao [e] X.env=[(false,bL e X.env)]:=by exact bD rfl) (hplain:(bZ cpos (ao [] X.env)).any (·.1)=false:=by rfl) :
 PXS X (.Expr (.Call (.Attribute (.Name x p1) "extend" apos) [e] [] cpos) pos) (kO i f) :=
 PS.imp (uK (D9 iT PySem.F.slot_list_extend PySem.F.type_list_extend Az (sO hN hv hd hcd) (e6 he jx hst) hbase hfew hline hst hplain) hs) fun D σ H ⟨B,G0,G,ρ,E,st,k⟩=>by
  unfold kO at k
  split at k
  ·rename_i ds es eo ef
   split at k
   ·rename_i hk
    obtain ⟨l,o,a,nb,ng,hl,xs,rfl,dl⟩:=st.ow i _ eo
    refine ⟨_,a,.inl ⟨rfl,xs,SqL.of hl⟩,B,G,ρ,_,E.gh,E.hh,st,ef,fun v G1 H1 E1 r1=>?_⟩
    obtain ⟨l2,o2,rfl,n2,g2,q2,zs,rfl,dz⟩:=r1
    have hs:aK=16777216:=bu
    have ln:=dl.length
    have lz:=dz.length
    refine ⟨l,l2,xs,zs,rfl,rfl,E1.hh _ _ hl,q2,by lia,?_⟩
    have gl:G1 l=none:=E1.nw _ _ hl rfl ng
    exact k _ G1 _ ((E.trans E1).mut nb gl) E1.gg ((st.ext E1).mut eo a ⟨_,rfl,cD.append (cD.mono E1.gg _ dl) dz⟩)
   ·exact k.elim
  ·exact k.elim
end
structure Ca (P:bh) (w:bT) (K:ae) (mg:bv->Option ag) (base:b9) (x:bv) (ps:List bv) (k n:Nat) (fn:List Da->Option Da):Prop where
 ex:∃ (a:au) (fd:cJ),mg x=some (.ref a)/\eI K (.ref a)=true/\o5 K fd ps []/\rH P w K mg base CX0 k a fd ps (spD K n fn)
theorem qX {X:Cx} {k n:Nat} {ps:List bv} {fn:List Da->Option Da} {x:bv} {p pos:d4} {e:aR} {es:List aR} {g:Rho->Option (List Rv)} (C:Ca X.prog X.w X.K X.mg X.base x ps k n fn) (hr:iz k X.A) (hg:Gl X x) (ha:PXA X (e::es) g) (hlen:∀ ρ rs,g ρ=some rs->rs.length=n)
 (hdb:(x == ("__debug__" : bv))=false:=by decide) (he:ao (e::es) X.env=(false,bL e X.env)::ao es X.env:=by exact bD rfl) (hpl:(bZ pos (ao es X.env)).any (·.1)=false:=by rfl):PX X (.Call (.Name x p) (e::es) [] pos) (cm fn g):=by
 obtain ⟨a,fd,hm,hk,hb,F⟩:=C.ex
 exact EM F hr hg hm hk hb ha hlen hdb he hpl
noncomputable def dQ (K:ae) (mg:bv->Option ag) (x:bv) (st:cq):Prop:=∃ (a:au) (fd:cJ),Fun K x x st a fd/\mg x=some (.ref a)
theorem JS {P:bh} {w:bT} {K:ae} {mg:bv->Option ag} {base:b9} {x:bv} {st:cq} {N ps:List bv} {k n:Nat} {g:Rho->Res} (hf:dQ K mg x st) (S:fX N ps (bn st)) (hn:ps.length=n)
 (hbind:∀ (kV doc pm:ag) (an:Option au) (cdv ct:ag) (us:List ag),us.length=ps.length->iD (cW x x (iu st) (dZ st) (bn st) .none kV doc pm an cdv ct) ⟨us,[]⟩=pure (ps.zip us))
 (hbody:∀ (f:au) (cdv:ag) (A:bE) (outer:List m8) (s:ai) (H:Hp) (E:XK),iz k (A.deeper (dR x (bn st) s.heap.objs.size f cdv))->wl (rV CX0 P w K mg base N x (bn st) f cdv A outer s H E).nox (dZ st) g) :
 Ca P w K mg base x ps (k+1) n (iQ N.length g):=by
 obtain ⟨a,fd,F,hm⟩:=hf
 exact ⟨a,fd,hm,F.kp,F.binds hbind,Dj F S hn fun cdv A outer s H E hr=>hbody a cdv A outer s H E hr⟩
section
variable {X:Cx} {a b c e:aR} {es:List aR} {p p2 pos pos':d4} {fa fb fc f:Rho->Option Rv} {g:Rho->Option (List Rv)}
noncomputable def ve (i:Da->Option Bool) (f:Rho->Option Rv):Rho->Option Rv:=fun ρ=>match f ρ with
 | some r=>match i r.2 with
   | some b=>some (.pu,.bl b)
   | none=>none
 | none=>none
noncomputable def E8:Da->Option Bool
 | .bl _=>some true | .int _=>some true | .non=>some false | .str _=>some false | .tup _=>some false | .lst _=>some false | _=>none
noncomputable def Cb:Da->Option Bool
 | .bl _=>some true | .int _=>some false | .non=>some false | .str _=>some false | .tup _=>some false | .lst _=>some false | _=>none
noncomputable def mH:List Da->Option (List Bool)
 | []=>some []
 | .bl b::r=>(mH r).map (b::·)
 | _=>none
theorem nK:∀ {ds:List Da} {bs:List Bool},mH ds=some bs->ds=bs.map Da.bl
 | [],ns,h=>by cases h;rfl
 | d::r,ns,h=>by
   cases d with
   | bl i =>
     have h:(mH r).map (i::·)=some ns:=h
     cases q:mH r with
     | none=>rw [q] at h;cases h
     | some ms=>rw [q] at h;cases h;rw [nK q];rfl
   | _=>cases h
theorem nA {K:ae} {G:Hp}:∀ {bs:List Bool} {xs:List V},cD K G (bs.map Da.bl) xs->xs=bs.map V.bl
 | [],_,h=>h
 | b::bs,_,h=>by obtain ⟨x,r,rfl,h1,h2⟩:=h;cases (show _=_ from h1);rw [nA h2];rfl
theorem mm:∀ {bs:List Bool} {us:List ag},dJ (bs.map V.bl) us->us=bs.map fG
 | [],_,r=>by rw [gO] at r;cases r;rfl
 | b::bs,_,r=>by rw [aD] at r;cases r with | cons r1 r2=>cases (show _=_ from r1);rw [mm r2];rfl
theorem qI {bs:List Bool} {i:Nat} (h:i<bs.length):bs.getD i false=bs[i]:=by simp [h]
theorem yy (bs:List Bool):(bG bs.length).all (fun i=>bs.getD i false)=bs.all id:=by
 rw [ce,bX,bX]
 constructor
 ·intro h x hx
  obtain ⟨i,hi,e⟩:=vj.mp hx
  have:=h i (iG.mpr hi)
  rw [qI hi,e] at this
  exact this
 ·intro h i hi
  have hi':=iG.mp hi
  rw [qI hi']
  exact h _ (gc hi')
theorem zi (bs:List Bool):(bG bs.length).any (fun i=>bs.getD i false)=bs.any id:=by
 rw [ce,jr,jr]
 constructor
 ·rintro ⟨i,hi,e⟩
  have hi':=iG.mp hi
  rw [qI hi'] at e
  exact ⟨_,gc hi',e⟩
 ·rintro ⟨x,hx,e⟩
  obtain ⟨i,hi,e'⟩:=vj.mp hx
  exact ⟨i,iG.mpr hi,by rw [qI hi,e'];exact e⟩
theorem yJ (hc:X.calm=true):j0 X (.builtin "all") (fun xs H Q=>∃ (p:au) (ys:List V) (bs:List Bool),xs=[.ref p]/\SqL X.K H p ys/\ys=bs.map V.bl/\Q (.bl (bs.all id)) H):=by
 intro pins s σ H xs us Q I r h
 obtain ⟨p,ys,bs,rfl,hq,rfl,q⟩:=h
 obtain ⟨u,rfl,rx⟩:=kZ r
 cases rx
 obtain ⟨its,rv,pl,hz⟩:=I.list hq
 have e:=mm rv
 subst e
 have hh:X.A.in1.handled=none:=I.ok.hd hc
 have hlt:p<s.heap.objs.size:=let ⟨o,ho,_⟩:=pl.isList;aG ho
 refine call_all_walk (jE pl.isList ?_)
 have W:=oN (prog:=X.prog) (w:=X.w) (A:=X.A.in1) hh s.heap.objs.size p (be hlt) (bs.map fG).toArray
 refine ⟨s.heap.objs.size,_,_,_,_,_,fun i=>bs.getD i false,rfl,W,⟨⟨_,aL _ rfl,rfl,rfl⟩,pl.isList.at fun o e=>ah _ e⟩,fun i v s' Q' E' hP hQ=>?_,fun h' tk hk=>?_⟩
 ·have e:(bs.map fG)[i]?=some v:=by simpa using hP
  rw [aC] at e
  cases q:bs[i]? with
  | none=>rw [q] at e;cases e
  | some b =>
    rw [q] at e
    cases e
    have:bs.getD i false=b:=by rw [aB,q];rfl
    have hQ:Q' (bs.getD i false) s':=hQ
    rw [this] at hQ
    exact c5 hQ
 ·have e:(bG (bs.map fG).toArray.size).all (fun i=>bs.getD i false)=bs.all id:=by
   rw [ax,af];exact yy bs
  rw [e]
  refine ⟨.bl _,H,I.kept (h':=h') (t':=tk) fun b o eb=>hk b o (fun z=>?_) (ah _ eb),rfl,q⟩
  have:b=s.heap.objs.size:=by simpa using z
  exact absurd (aG eb) (by rw [this];exact cb _)
theorem yt (hc:X.calm=true):j0 X (.builtin "any") (fun xs H Q=>∃ (p:au) (ys:List V) (bs:List Bool),xs=[.ref p]/\SqL X.K H p ys/\ys=bs.map V.bl/\Q (.bl (bs.any id)) H):=by
 intro pins s σ H xs us Q I r h
 obtain ⟨p,ys,bs,rfl,hq,rfl,q⟩:=h
 obtain ⟨u,rfl,rx⟩:=kZ r
 cases rx
 obtain ⟨its,rv,pl,hz⟩:=I.list hq
 have e:=mm rv
 subst e
 have hh:X.A.in1.handled=none:=I.ok.hd hc
 have hlt:p<s.heap.objs.size:=let ⟨o,ho,_⟩:=pl.isList;aG ho
 refine call_any_walk (jE pl.isList ?_)
 have W:=oN (prog:=X.prog) (w:=X.w) (A:=X.A.in1) hh s.heap.objs.size p (be hlt) (bs.map fG).toArray
 refine ⟨s.heap.objs.size,_,_,_,_,_,fun i=>bs.getD i false,rfl,W,⟨⟨_,aL _ rfl,rfl,rfl⟩,pl.isList.at fun o e=>ah _ e⟩,fun i v s' Q' E' hP hQ=>?_,fun h' tk hk=>?_⟩
 ·have e:(bs.map fG)[i]?=some v:=by simpa using hP
  rw [aC] at e
  cases q:bs[i]? with
  | none=>rw [q] at e;cases e
  | some b =>
    rw [q] at e
    cases e
    have:bs.getD i false=b:=by rw [aB,q];rfl
    have hQ:Q' (bs.getD i false) s':=hQ
    rw [this] at hQ
    exact c5 hQ
 ·have e:(bG (bs.map fG).toArray.size).any (fun i=>bs.getD i false)=bs.any id:=by
   rw [ax,af];exact zi bs
  rw [e]
  refine ⟨.bl _,H,I.kept (h':=h') (t':=tk) fun b o eb=>hk b o (fun z=>?_) (ah _ eb),rfl,q⟩
  have:b=s.heap.objs.size:=by simpa using z
  exact absurd (aG eb) (by rw [this];exact cb _)
noncomputable def DG:List Rv->Option Rv
 | [(_,.lst ds)]=>match mH ds with
   | some bs=>some (.pu,.bl (bs.all id))
   | none=>none
 | _=>none
noncomputable def DP:List Rv->Option Rv
 | [(_,.lst ds)]=>match mH ds with
   | some bs=>some (.pu,.bl (bs.any id))
   | none=>none
 | _=>none
theorem Fh {K:ae}:Cal K (fun xs H Q=>∃ (p:au) (ys:List V) (bs:List Bool),xs=[.ref p]/\SqL K H p ys/\ys=bs.map V.bl/\Q (.bl (bs.all id)) H) DG:=by
 intro B H0 G H rs c xs Q sg ra e k
 unfold DG at e
 split at e
 ·split at e
  ·rename_i bs eb
   cases e
   obtain ⟨v,rfl,h⟩:=e7.one ra
   obtain ⟨p,ys,rfl,q,d⟩:=h.lst sg
   rw [nK eb] at d
   exact ⟨p,ys,bs,rfl,q,nA d,k _ G H (Ext.refl sg) rfl⟩
  ·cases e
 ·cases e
theorem EB {K:ae}:Cal K (fun xs H Q=>∃ (p:au) (ys:List V) (bs:List Bool),xs=[.ref p]/\SqL K H p ys/\ys=bs.map V.bl/\Q (.bl (bs.any id)) H) DP:=by
 intro B H0 G H rs c xs Q sg ra e k
 unfold DP at e
 split at e
 ·split at e
  ·rename_i bs eb
   cases e
   obtain ⟨v,rfl,h⟩:=e7.one ra
   obtain ⟨p,ys,rfl,q,d⟩:=h.lst sg
   rw [nK eb] at d
   exact ⟨p,ys,bs,rfl,q,nA d,k _ G H (Ext.refl sg) rfl⟩
  ·cases e
 ·cases e
theorem Ip (hc:X.calm=true) (hg:Gl X "all") (hm:X.mg "all" = none) (ha:PXA X (e::es) g) (he:ao (e::es) X.env=(false,bL e X.env)::ao es X.env:=by exact bD rfl) (hpl:(bZ pos (ao es X.env)).any (·.1)=false:=by rfl):PX X (.Call (.Name "all" p) (e::es) [] pos) (xB DG g) :=
 Dz (yJ hc) Fh hg hm (by decide +kernel) ha (by decide) (by decide) he hpl
theorem HM (hc:X.calm=true) (hg:Gl X "any") (hm:X.mg "any" = none) (ha:PXA X (e::es) g) (he:ao (e::es) X.env=(false,bL e X.env)::ao es X.env:=by exact bD rfl) (hpl:(bZ pos (ao es X.env)).any (·.1)=false:=by rfl):PX X (.Call (.Name "any" p) (e::es) [] pos) (xB DP g) :=
 Dz (yt hc) EB hg hm (by decide +kernel) ha (by decide) (by decide) he hpl
noncomputable def tXO (K:ae) (f:Rho->Option (Option Int)):TO:=fun σ H Q=>∃ B G ρ o,cG G H/\cG B H/\hZ K B G H σ ρ/\f ρ=some o/\∀ G' H',Ext G H G' H'->Q o H'
noncomputable abbrev PXO (X:Cx) (e:Option aR) (f:Rho->Option (Option Int)):Prop:=PO X e (tXO X.K f)
theorem PO.imp {X:Cx} {e:Option aR} {t t':TO} (h:PO X e t) (i:∀ σ H Q,t' σ H Q->t σ H Q):PO X e t':=fun pins s σ H Q I q=>h pins s σ H Q I (i σ H Q q)
noncomputable def oU:Rho->Option (Option Int):=fun _=>some none
noncomputable def nM (f:Rho->Option Rv):Rho->Option (Option Int):=fun ρ=>match f ρ with
 | some (_,.int i)=>some (some i)
 | _=>none
theorem Cm:PXO X none oU:=PO.imp Fz fun σ H Q ⟨B,G,ρ,o,sg,sb,st,e,k⟩=>by cases e;exact k G H (Ext.refl sg)
theorem CD (ha:PX X a fa):PXO X (some a) (nM fa):=PO.imp (EW ha) fun σ H Q ⟨B,G,ρ,o,sg,sb,st,e,k⟩=>by
 unfold nM at e
 split at e
 ·rename_i kd i q
  cases e
  exact ⟨B,G,ρ,_,sg,sb,st,q,fun v G1 H1 E1 r1=>⟨i,r1.int,k G1 H1 E1⟩⟩
 ·cases e
noncomputable def xR (ds:List Da) (lo hi:Option Int):List Da:=(ds.drop (HT.sIx ds.length 0 lo)).take (HT.sIx ds.length ds.length hi-HT.sIx ds.length 0 lo)
theorem AD {K:ae} {G:Hp} {ds:List Da} {xs:List V} (h:cD K G ds xs) (lo hi:Option Int):cD K G (xR ds lo hi) (Du xs lo hi):=by
 unfold xR Du
 rw [h.length]
 exact (h.drop _).take _
theorem k0 {prog:bh} {w:bT} {A:bE} {E:ag->ai->Prop} {s:ai} {t sl:au} {items:Array ag} {vl vu:ag} {lo hi:Option Int} {Q:ag->ai->Prop} (ht:jd s.heap t items) (hs:s.heap.IsSliceOf sl vl vu .none) (pl:lQ vl lo) (pu:lQ vu hi)
 (hw:HT.sIx items.size 0 lo=0/\HT.sIx items.size items.size hi=items.size) (h:Q (.ref t) s):aN (aZ prog w) A (jF (.ref t) (.ref sl)) Q E s:=by
 obtain ⟨os,hos,hcs,hds⟩:=id hs
 have hTs:s.TypeIs (.ref sl) "slice":=⟨os,hos,hcs⟩
 unfold jF
 try with_reducible refine cN ?_
 first | refine ac (aq ?_) | skip
 refine ac (wpAny_sequenceKey ht.typeIs (by decide) ?_)
 refine ac (gZ (name:=cw "__getitem__") ht.typeIs dX
  (eY dX ht.typeIs CW ?_ (args_tuple_getitem _ _)))
 show aN _ _ (lh (.ref t)>>=_) _ _ s
 refine ac (tupleItemsOf_ ht ?_)
 refine ac (ia hTs ?_)
 rw [if_pos (by decide)]
 refine ac (HT.sliceApplied_gen hs pl pu ?_)
 have hyes:(((HT.sIx items.size 0 lo:Nat):Int) == 0&&(1:Int) == 1&&(HT.sIx items.size items.size hi-HT.sIx items.size 0 lo) == items.size)=true:=by
  rw [hw.1,hw.2];simp
 show aN _ _ (if (((HT.sIx items.size 0 lo:Nat):Int) == 0&&(1:Int) == 1&&(HT.sIx items.size items.size hi-HT.sIx items.size 0 lo) == items.size)=true then _ else _) _ _ s
 rw [if_pos hyes]
 refine ac (m:=Builtin.Tuple.tupleIsExact _) (ac (ia ht.typeIs (aq ?_)))
 rw [if_pos (by decide)]
 exact ac (t8 (aq ⟨_,rfl,aq h⟩))
noncomputable def KL (K:ae):V->Option Int->Option Int->Hp->VK->Prop:=fun x lo hi H Q=>∃ a xs,x=.ref a/\SqT K H a xs/\(HT.sIx xs.length 0 lo=0/\HT.sIx xs.length xs.length hi=xs.length)/\Q (.ref a) H
theorem Eh:SlR X (KL X.K):=by
 intro pins s σ H x v vl vu lo hi sl Q I rx hs pl pu h
 obtain ⟨a,xs,rfl,hx,hw,q⟩:=h
 cases rx
 obtain ⟨its,r,ht,hz⟩:=I.tuple hx
 have hlen:its.toArray.size=xs.length:=by rw [ax];exact r.length.symm
 refine ⟨"tuple",_,PyProof.Rows.slot_tuple_getitem.lookup,ht.typeIs,?_⟩
 exact k0 ht hs pl pu (by rw [hlen];exact hw) ⟨.ref a,H,I,rfl,q⟩
theorem yf {ds:List Da} {lo hi:Option Int} (h:HT.sIx ds.length 0 lo=0/\HT.sIx ds.length ds.length hi=ds.length):xR ds lo hi=ds:=by
 unfold xR
 rw [h.1,h.2,ky,Nat.sub_zero,AV]
noncomputable def slD (lo hi:Option Int):Da->Option Rv
 | .tup ds=>some (.pu,.tup (xR ds lo hi))
 | .lst ds=>some (.fr,.lst (xR ds lo hi))
 | _=>none
noncomputable def jQ (fa:Rho->Option Rv) (fl fh:Rho->Option (Option Int)):Rho->Option Rv:=fun ρ=>match fa ρ,fl ρ,fh ρ with
 | some r,some l,some h=>slD l h r.2
 | _,_,_=>none
theorem Br {lo hi:Option aR} {fl fh:Rho->Option (Option Int)} (ha:PX X a fa) (hl:PXO X lo fl) (hh:PXO X hi fh):PX X (.Subscript a (.Slice lo hi none p2) pos) (jQ fa fl fh) :=
 PE.imp (Co ((Ib.or Eh).or D8) ha hl hh) fun σ H Q ⟨B,G,ρ,r,sg,sb,st,eq,k⟩=>by
  unfold jQ at eq
  split at eq
  ·rename_i ra l h ea el eh
   refine ⟨B,G,ρ,ra,sg,sb,st,ea,fun v G1 H1 E1 r1=>⟨B,G1,ρ,l,E1.gh,sb.trans E1.hh,st.ext E1,el,fun G2 H2 E2=>⟨B,G2,ρ,h,E2.gh,(sb.trans E1.hh).trans E2.hh,(st.ext E1).ext E2,eh,fun G3 H3 E3=>?_⟩⟩⟩
   have E:=(E1.trans E2).trans E3
   have r3:=(r1.ext E2).ext E3
   obtain ⟨kd,d⟩:=ra
   cases d with
   | tup ds =>
     cases eq
     obtain ⟨t,xs,rfl,q,dl,qg⟩:=r3.tup E3.gh
     have hlen:=dl.length
     by_cases hw:HT.sIx ds.length 0 l=0/\HT.sIx ds.length ds.length h=ds.length
     ·refine .inl (.inr ⟨t,xs,rfl,SqT.of q,by rw [hlen];exact hw,k _ _ _ E ?_⟩)
      rw [yf hw]
      exact ⟨t,xs,rfl,qg,dl⟩
     ·refine .inl (.inl ⟨t,xs,rfl,SqT.of q,by rw [hlen];exact hw,fun p hp=>k _ _ _ (E.trans (Ext.new E3.gh hp)) ⟨p,_,rfl,aU,cD.mono (cj (E3.gh.free hp)) _ (AD dl l h)⟩⟩)
   | lst ds =>
     cases eq
     obtain ⟨t,xs,rfl,q,dl⟩:=r3.lst E3.gh
     exact .inr ⟨t,xs,rfl,q,fun p hp=>k _ _ _ (E.trans (Ext.own E3.gh hp)) ⟨p,_,rfl,E.hh.free hp,E3.gh.free hp,aU,_,rfl,AD dl l h⟩⟩
   | _=>cases eq
  ·cases eq
end
noncomputable def gG (h:b9) (d:au) (es:Array km) (ep:Nat):Prop:=∃ o,h.get? d=some o/\o.ExactDict/\o.data=.dict es ep
section
variable {prog:bh} {w:bT} {A:bE} {E:ag->ai->Prop} {s:ai} {d it:au} {es:Array km} {ep i:Nat}
theorem gG.ty (h:gG s.heap d es ep):s.TypeIs (.ref d) "dict":=let ⟨o,ho,hx,_⟩:=h;⟨o,ho,hx.1⟩
theorem gG.at {h h':b9} (x:gG h d es ep) (k:∀ o,h.get? d=some o->h'.get? d=some o):gG h' d es ep:=let ⟨o,ho,r⟩:=x;⟨o,k o ho,r⟩
theorem Av {Q:ag->ai->Prop} (lo:(d == cV)=false) (hm:gG s.heap d es ep)
 (hQ:Q (.ref s.heap.objs.size) { s with heap:=s.heap.push { cls:=.type "dict_keyiterator",data:=.fields #[.ref d,.int 0 0,.int es.size 0,.int ep 0] } }):aN (aZ prog w) A (pyIter (.ref d)) Q E s:=by
 obtain ⟨o,ho,hx,hdat⟩:=id hm
 have T:=hm.ty
 refine wpAny_pyIter_slot T F.slot_dict_iter (eY F.slot_dict_iter T F.entry_dict_iter ?_ (F.args_dict_iter_1 _));unfold Builtin.«dict.__iter__»
 refine ac ?_;unfold Builtin.Dict.dictSlotNone
 refine ac (AW T ?_);show aN _ _ (pure (bI d)) _ _ s
 refine aq ?_;show aN _ _ (ni d>>=_) _ _ s;unfold ni
 rw [if_neg (fun z=>aM (lo▸z))]
 refine ac (aq (ac (oO ho hdat (ac (rK ho hdat ?_)))))
 refine ac (cA (aq ⟨_,rfl,"dict_keyiterator",_,⟨_,aL _ rfl,rfl⟩,F.slot_dict_keyiterator_next.lookup,?_⟩))
 simpa [je] using hQ
theorem AJ {Q:Option ag->ai->Prop} (hit:s.heap.IsKeyIter it d i es.size ep) (hm:gG s.heap d es ep) (hlt:i<es.size)
 (hQ:∀ h',h'.IsKeyIter it d (i+1) es.size ep->jD it s.heap h'->Q (some es[i].key) { s with heap:=h' }):aN (aZ prog w) A (jH (.ref it)) Q E s:=by
 obtain ⟨⟨o,ho,hc,hd⟩,od,hod,hx,hdd⟩:=And.intro (id hit) (id hm)
 unfold jH;refine ac (wB (gZ (name:=cw "__next__") hit.typeIs F.slot_dict_keyiterator_next (eY F.slot_dict_keyiterator_next hit.typeIs F.entry_dict_keyiterator_next ?_ (F.args_dict_keyiterator_next_1 _))))
 refine ac (aq (ac (ac ?_)));first | refine ac (ft hit.typeIs (aq ?_)) | refine ac (gN hit.typeIs (aq ?_))
 refine ac (wpAny_fieldsOf ho hd ?_);simp only [show jG "dict_keyiterator" = false by decide,dO,if_false]
 show aN _ _ (if (bI d == bq)=true then _ else _) _ _ s;rw [if_neg (show ¬ ((bI d == bq)=true) from fun z=>aM z)]
 refine ac (aq (ac (oO hod hdd ?_)));rw [if_neg (by simp)]
 refine ac (aq (ac (rK hod hdd ?_)));rw [if_neg (by simp)]
 refine aq ?_
 simp only [show ¬ ((i:Int)<0) by lia,if_false,gS,gf hlt]
 refine ac ?_;first | refine ac (ft hit.typeIs (aq ?_)) | refine ac (gN hit.typeIs (aq ?_))
 refine ac (AX hit.typeIs ?_);show aN _ _ (setField (.ref it) 1 (je ((i:Int)+1))>>=_) _ _ s;refine ac (wpAny_setField ho hd (by simp) ?_)
 have nx:(s.heap.update it (Obj.mapFields (·.setIfInBounds 1 (je ((i:Int)+1))))).IsKeyIter it d (i+1) es.size ep:=⟨_,j5 _ ho (Obj.isFreed_of_fields (xY hd _)),(Obj.cls_mapFields ..).trans hc,by rw [xY hd];simp [je]⟩
 refine ac (cN ?_);refine ac (AX (s:={ s with heap:=s.heap.update it (Obj.mapFields (·.setIfInBounds 1 (je ((i:Int)+1)))) }) nx.typeIs ?_);show aN _ _ (pure es[i].key) _ _ _
 exact aq (aq ⟨_,rfl,aq (hQ _ nx (d9 ..))⟩)
theorem CA {Q:Option ag->ai->Prop} (hh:A.handled=none) (hit:s.heap.IsKeyIter it d i es.size ep) (hm:gG s.heap d es ep) (hge:es.size<=i)
 (hQ:∀ h',Heap.ExtBut it s.heap h'->Q none { s with heap:=h' }):aN (aZ prog w) A (jH (.ref it)) Q E s:=by
 obtain ⟨⟨o,ho,hc,hd⟩,od,hod,hx,hdd⟩:=And.intro (id hit) (id hm)
 unfold jH;refine ac (wB (gZ (name:=cw "__next__") hit.typeIs F.slot_dict_keyiterator_next (eY F.slot_dict_keyiterator_next hit.typeIs F.entry_dict_keyiterator_next ?_ (F.args_dict_keyiterator_next_1 _))))
 refine ac (aq (ac (ac ?_)));first | refine ac (ft hit.typeIs (aq ?_)) | refine ac (gN hit.typeIs (aq ?_))
 refine ac (wpAny_fieldsOf ho hd ?_);simp only [show jG "dict_keyiterator" = false by decide,dO,if_false]
 show aN _ _ (if (bI d == bq)=true then _ else _) _ _ s;rw [if_neg (show ¬ ((bI d == bq)=true) from fun z=>aM z)]
 refine ac (aq (ac (oO hod hdd ?_)));rw [if_neg (by simp)]
 refine ac (aq (ac (rK hod hdd ?_)));rw [if_neg (by simp)]
 refine aq ?_
 simp only [show ¬ ((i:Int)<0) by lia,if_false,gS,rL hge]
 refine ac ?_;first | refine ac (ft hit.typeIs (aq ?_)) | refine ac (gN hit.typeIs (aq ?_))
 show aN _ _ (setField (.ref it) 0 .none>>=_) _ _ s;refine ac (wpAny_setField ho hd (by simp) ?_);show aN _ _ (newExc (.type "StopIteration") []>>=_) _ _ _
 refine ac ?_;simp only [newExc,newTuple];refine ac (cA ?_ (by size_fits))
 refine ac (m:=firstArgMember _ _) (Be (a:=bq) (by first | rfl | (simp only [firstArgMember];rfl)) (cA ?_ (by size_fits)));simp only [raiseNew]
 refine ac (wpAny_handled ?_);rw [show A.in1.handled=none from hh];refine ac (aq (wpAny_throw ?_))
 refine ac (wpAny_isInstance (T:="StopIteration") (b:=true) ⟨_,aL _ rfl,rfl⟩ isSubtype_stop (aq (hQ _ (((d9 ..).extBut.push _).push _))))
theorem yR (hh:A.handled=none) (hne:d≠it):Walks prog w A it [it,d] [it] es.size (fun i v=>∃ h:i<es.size,v=es[i].key) (fun i h=>h.IsKeyIter it d i es.size ep/\gG h d es ep) where
 sub:=fun b hb=>by simp at hb;simp [hb]
 frame:=fun i h h' st k=>⟨let ⟨o,ho,r⟩:=st.1;⟨o,k it (by simp) o ho,r⟩,st.2.at fun o e=>k d (by simp) o e⟩
 item:=fun i s Q E hi st hQ=>AJ st.1 st.2 hi fun h' nx sb=>hQ _ h' s.toks ⟨hi,rfl⟩ ⟨nx,st.2.at fun o e=>(sb.2 d hne).trans e⟩ fun b o hb e=>sb.extBut b o (fun z=>hb (by simp [z])) e
 done:=fun s Q E st hQ=>CA hh st.1 st.2 (az _) fun h' eb=>hQ h' s.toks fun b o hb e=>eb b o (fun z=>hb (by simp [z])) e
 self:=fun i s Q E st hQ=>by
  obtain ⟨o,ho,hc,hd⟩:=st.1
  refine wpAny_pyIter_slot ⟨o,ho,hc⟩ F.slot_dict_keyiterator_iter (eY F.slot_dict_keyiterator_iter ⟨o,ho,hc⟩ F.entry_dict_keyiterator_iter ?_ (F.args_dict_keyiterator_iter_1 _))
  show aN _ _ (ret (.ref it)) _ _ s
  exact aq ⟨_,rfl,"dict_keyiterator",_,⟨o,ho,hc⟩,F.slot_dict_keyiterator_next.lookup,hQ⟩
theorem Bv (lo:(d == cV)=false):PySem.W.KdlSrc prog w "dict" d d es.size (fun i v=>∃ h:i<es.size,v=es[i].key) (fun h=>gG h d es ep) where
 type:=fun s hm=>hm.ty
 there:=fun h hm=>let ⟨o,ho,_⟩:=hm;⟨aG ho,aG ho⟩
 keep:=fun h h' hm k=>hm.at fun o e=>k d (.inl rfl) o e
 notList:=by decide
 notTuple:=by decide
 hint:=fun A E s Q hm hq=>PySem.W.kdl_hint_dict hm.ty hq
 iter:=fun A s hh hm=>⟨_,_,fun E Q hq=>Av lo hm hq,yR hh (let ⟨o,ho,_⟩:=hm;be (aG ho)),⟨_,aL _ rfl,rfl,rfl⟩,hm.at fun o e=>ah _ e⟩
end
section
variable (O:eZ)
noncomputable def BU (a:O.α):List O.α->List O.α
 | []=>[a]
 | b::r=>if O.blt b a=true then b::BU a r else a::b::r
noncomputable def FJ:List O.α->List O.α
 | []=>[]
 | a::r=>BU O a (FJ r)
variable {O}
theorem oq (a:O.α):∀ l:List O.α,(BU O a l).Perm (a::l)
 | []=>.refl _
 | b::r=>by
   unfold BU
   split
   ·exact ((oq a r).cons b).trans (.swap ..)
   ·exact .refl _
theorem rS:∀ l:List O.α,(FJ O l).Perm l
 | []=>.refl _
 | a::r=>(oq a _).trans ((rS r).cons a)
theorem nI (a:O.α):∀ {l:List O.α},l.Pairwise O.kle->(BU O a l).Pairwise O.kle
 | [],_=>by unfold BU;exact bg _ _
 | b::r,h=>by
   obtain ⟨h1,h2⟩:=b8.mp h
   unfold BU
   split
   ·rename_i hb
    refine b8.mpr ⟨fun x hx=>?_,nI a h2⟩
    rcases aE.mp ((oq a r).mem_iff.mp hx) with e | e
    ·subst e;exact gM hb
    ·exact h1 x e
   ·rename_i hb
    have hab:O.kle a b:=by unfold KeyOrd.kle;simpa using hb
    refine b8.mpr ⟨fun x hx=>?_,h⟩
    rcases aE.mp hx with e | e
    ·subst e;exact hab
    ·exact g4 hab (h1 x e)
theorem nQ:∀ l:List O.α,(FJ O l).Pairwise O.kle
 | []=>.nil
 | a::r=>nI a (nQ r)
theorem fL:∀ {l m:List O.α},l.Perm m->l.Pairwise O.kle->m.Pairwise O.kle->l=m
 | [],m,h,_,_=>(List.nil_perm.mp h).symm
 | a::l,[],h,_,_=>absurd (h.length_eq) (by simp)
 | a::l,b::m,h,h1,h2=>by
   obtain ⟨a1,a2⟩:=b8.mp h1
   obtain ⟨b1,b2⟩:=b8.mp h2
   have e:a=b:=by
    rcases aE.mp (h.mem_iff.mp (am)) with e | e
    ·exact e
    ·rcases aE.mp (h.mem_iff.mpr (am (a:=b) (l:=m))) with e' | e'
     ·exact e'.symm
     ·exact kx (a1 b e') (b1 a e)
   subst e
   rw [fL (rM h) a2 b2]
end
noncomputable def xP:eZ where
 α:=Int
 blt a b:=decide (a<b)
 irrefl a:=by simp
 trans a b c h1 h2:=by simp at *;lia
 negTrans a b c h:=by simp at *;lia
 total a b h1 h2:=by simp at *;lia
section
open HT
theorem j7:∀ xs:List Int,lexLt xs xs=false
 | []=>rfl
 | x::xs=>by rw [lexLt_cons,if_pos rfl];exact j7 xs
theorem nG:∀ xs ys zs:List Int,lexLt xs ys=true->lexLt ys zs=true->lexLt xs zs=true
 | [],[],_,h,_=>by cases h
 | [],_::_,[],_,h=>by cases h
 | [],_::_,_::_,_,_=>rfl
 | _::_,[],_,h,_=>by cases h
 | _::_,_::_,[],_,h=>by cases h
 | x::xs,y::ys,z::zs,h1,h2=>by
   rw [lexLt_cons] at *
   by_cases e1:x=y<;>by_cases e2:y=z
   ·subst e1;subst e2;rw [if_pos rfl] at *;exact nG xs ys zs h1 h2
   ·subst e1;rw [if_neg e2] at *;exact h2
   ·subst e2;rw [if_neg e1] at *;exact h1
   ·rw [if_neg e1] at h1;rw [if_neg e2] at h2
    have a1:=of_decide_eq_true h1
    have a2:=of_decide_eq_true h2
    rw [if_neg (by lia)]
    exact decide_eq_true (by lia)
theorem zY:∀ xs ys zs:List Int,lexLt xs zs=true->lexLt xs ys=true\/lexLt ys zs=true
 | [],_,[],h=>by cases h
 | [],[],_::_,h=>.inr h
 | [],_::_,_::_,_=>.inl rfl
 | _::_,_,[],h=>by cases h
 | _::_,[],_::_,_=>.inr rfl
 | x::xs,y::ys,z::zs,h=>by
   rw [lexLt_cons] at h
   rw [lexLt_cons,lexLt_cons]
   by_cases e1:x=y<;>by_cases e2:y=z
   ·subst e1;subst e2;rw [if_pos rfl] at *;rw [if_pos rfl];exact zY xs ys zs h
   ·subst e1;rw [if_neg e2] at *;exact .inr h
   ·subst e2;rw [if_neg e1] at *;exact .inl h
   ·rw [if_neg e1,if_neg e2]
    by_cases e3:x=z
    ·subst e3
     by_cases hxy:x<y
     ·exact .inl (decide_eq_true hxy)
     ·exact .inr (decide_eq_true (by lia))
    ·rw [if_neg e3] at h
     have a1:=of_decide_eq_true h
     by_cases hxy:x<y
     ·exact .inl (decide_eq_true hxy)
     ·exact .inr (decide_eq_true (by lia))
theorem nZ:∀ xs ys:List Int,lexLt xs ys=false->lexLt ys xs=false->xs=ys
 | [],[],_,_=>rfl
 | [],_::_,h,_=>by cases h
 | _::_,[],_,h=>by cases h
 | x::xs,y::ys,h1,h2=>by
   rw [lexLt_cons] at *
   by_cases e:x=y
   ·subst e;rw [if_pos rfl] at *;rw [nZ xs ys h1 h2]
   ·rw [if_neg e] at h1;rw [if_neg (fun z=>e z.symm)] at h2
    have a1:=of_decide_eq_false h1
    have a2:=of_decide_eq_false h2
    lia
end
noncomputable def uR:eZ:=⟨List Int,HT.lexLt,j7,nG,zY,nZ⟩
section
variable {O:eZ}
theorem o3 {α:Type} {p:Array Nat} {n:Nat} (h:fN n p) {l:List α} (hl:l.length=n) (d:α):(p.toList.map fun i=>l.getD i d).Perm l:=by
 have h1:p.toList.Perm (bG n):=by simpa using cB.mp h.perm
 refine (h1.map _).trans ?_
 have:(bG n).map (fun i=>l.getD i d)=l:=by
  apply jt
  ·simp [hl]
  ·intro i h1 h2;simp [h2]
 rw [this]
theorem kW {p:Array Nat} {n:Nat} (h:fN n p) {ks:List O.α} (d:O.α) (u:qk O (fun i=>ks.getD i d) p n):(p.toList.map fun i=>ks.getD i d).Pairwise O.kle:=by
 rw [List.pairwise_iff_getElem]
 intro i j hi hj hij
 have hs:p.toList.length=n:=by rw [bJ];exact h.size
 rw [af] at hi hj
 have:=u i j (iB hij) (by lia)
 have e:∀ k,(hk:k<p.toList.length)->KN O (fun i=>ks.getD i d) p k=ks.getD (p.toList[k]) d:=fun k hk=>by
  have hk':k<p.size:=by simpa using hk
  show ks.getD (p.getD k 0) d=_
  congr 1
  simp [Array.getD,hk']
 rw [e i hi,e j hj] at this
 rw [AY,AY]
 exact this
theorem kQ {p:Array Nat} {ks:List O.α} (d:O.α) (h:fN ks.length p) (u:qk O (fun i=>ks.getD i d) p ks.length):(p.toList.map fun i=>ks.getD i d)=FJ O ks :=
 fL ((o3 h rfl d).trans (rS ks).symm) (kW h d u) (nQ ks)
end
section
variable {prog:bh} {w:bT} {A:bE} {E:ag->ai->Prop} {s:ai} {O:eZ} {κ:ib} {key:Nat->O.α} {vs:List ag} {a:au} {n:Nat}
noncomputable def ma (a:au) (h h':b9):Prop:=∀ b o,b≠a->h.get? b=some o->h'.get? b=some o
theorem Cs {P:PySem.Fin->ai->Prop} (ho:s.heap.get? a=some (bR "list" vs.toArray n)) (h64:vs.length<64\/(vs.length<=63/\∀ i j,i<vs.length->j<vs.length->key i=key j->i=j))
 (kind:∀ h',ma a s.heap h'->2<=vs.length->∀ Q:ib->ai->Prop,Q κ { s with heap:=h' }->aN (aZ prog w) A (Bf vs.toArray) Q (fun _ _=>False) { s with heap:=h' })
 (lt:∀ h',ma a s.heap h'->∀ i j (C:Bool->ai->Prop),i<vs.length->j<vs.length->C (O.blt (key i) (key j)) { s with heap:=h' }->ic prog w A κ vs i j C { s with heap:=h' })
 (h:∀ p h' c,fN vs.length p->qk O key p vs.length->ma a s.heap h'->h'.get? a=some (bR "list" (p.toList.map fun i=>vs.getD i bq).toArray c)->P (.done (.ret .none)) { s with heap:=h' }) :
 aN (aZ prog w) A (Builtin.«list.sort» ⟨[.ref a],[]⟩) P E s:=by
 have ha:a<s.heap.objs.size:=aG ho
 have sz:aK=16777216:=bu
 have h127:vs.length<=63:=by rcases h64 with h | h<;>lia
 rw [list_sort_plain]
 refine ac (iU ho rfl (ac (fR ho rfl ?_ (by rw [ax];lia) (bW _))))
 obtain ⟨e1,ho1⟩:∃ e1,(s.heap.update a (bQ fun _=>(#[]:Array ag))).get? a=some (bR "list" #[] e1):=⟨_,fJ ho fun _=>#[]⟩
 refine ac (lR ho1 rfl (ac (wpAny_newTuple (ac (jK (cN ?_) (bW _))) (by show vs.length<=_;lia))))
 show aN (aZ prog w) A _ P E { s with heap:=(((s.heap.update a (bQ fun _=>(#[]:Array ag))).push (bR "tuple" vs.toArray 0)).push (bR "list" #[] 0)) }
 generalize hg:(((s.heap.update a (bQ fun _=>(#[]:Array ag))).push (bR "tuple" vs.toArray 0)).push (bR "list" #[] 0))=g
 have hga:g.get? a=some (bR "list" #[] e1):=by rw [<- hg];exact ah _ (ah _ ho1)
 have hgk:ma a s.heap g:=fun b o hb e=>by rw [<- hg];exact ah _ (ah _ ((cF _ _ (Ne.symm hb)).trans e))
 dsimp only
 have fin:∀ (out:Array ag) (p:Array Nat),out=(p.toList.map fun i=>vs.getD i bq).toArray->fN vs.length p->qk O key p vs.length->P (.done (.ret .none)) { s with heap:=g.update a (bQ fun _=>out) }:=fun out p eo hp hu=>by
  subst eo
  refine h p _ _ hp hu (fun b o hb e=>(cF _ _ (Ne.symm hb)).trans (hgk b o hb e)) (fJ hga fun _=>_)
 by_cases h2:vs.toArray.size<2
 ·rw [if_pos h2,if_pos h2]
  refine ac (aq ?_)
  rw [xZ]
  refine ac (aq ?_)
  dsimp only
  have es:(Bb (oy general' (vs.toArray.zip vs.toArray) #[] 7 none)).map (·.2)=vs.toArray:=by
   show (vs.toArray.zip vs.toArray).map (·.2)=_
   have e:gP (fun x=>x.snd) (vs.zip vs)=vs:=AZ (az _)
   simp [e]
  rw [es]
  refine ac (lR hga rfl (ac (fR hga rfl ?_ (bW _) (by rw [ax];lia))))
  simp only [bne_self_eq_false,dO,if_false]
  refine aq (fin _ (bG vs.length).toArray ?_ ⟨.refl _⟩ fun i j hij hj=>?_)
  ·congr 1
   apply jt
   ·simp
   ·intro i h1 h2;simp [h1]
  ·rw [ax] at h2
   have:i=j:=by lia
   subst this
   exact dt _
 ·rw [if_neg h2,if_neg h2]
  rw [ax] at h2
  refine ac (dm (kind g hgk (by lia) _ ?_) (fun _ _ x=>x) fun _ _ x=>x.elim)
  refine ac (dm (wt (O:=O) (key:=key) (ks:=vs) (vs:=vs) rfl (by lia) h64 (fun i j C hi hj hc=>lt g hgk i j C hi hj hc)) ?_ fun _ _ e=>e)
  rintro ⟨⟨⟩,st'⟩ s' ⟨rfl,p,har,hf,hp,hu⟩
  dsimp only
  have hout:=wC rfl har
  rw [hout]
  refine ac (lR hga rfl (ac (fR hga rfl ?_ (bW _) ?_)))
  ·rw [hf]
   simp only [bne_self_eq_false,dO,if_false]
   exact aq (fin _ p rfl hp hu)
  ·rw [ax,af,bJ,hp.size];lia
noncomputable def gD (prog:bh) (w:bT) (A:bE) (s:ai) (x:ag) (vs:List ag):Prop :=
 ∀ (E:ag->ai->Prop) (R:List ag->ai->Prop),(∀ h' tk,(∀ b o,s.heap.get? b=some o->h'.get? b=some o)->R vs { s with heap:=h',toks:=tk })->aN (aZ prog w) A (tU x) R E s
theorem me {x:ag} {Q:ag->ai->Prop} (col:gD prog w A.in1 s x vs) (h64:vs.length<64\/(vs.length<=63/\∀ i j,i<vs.length->j<vs.length->key i=key j->i=j))
 (kind:∀ h' tk,(∀ b o,s.heap.get? b=some o->h'.get? b=some o)->2<=vs.length->∀ Q:ib->ai->Prop,Q κ { s with heap:=h',toks:=tk }->aN (aZ prog w) A.in1.in1 (Bf vs.toArray) Q (fun _ _=>False) { s with heap:=h',toks:=tk })
 (lt:∀ h' tk,(∀ b o,s.heap.get? b=some o->h'.get? b=some o)->∀ i j (C:Bool->ai->Prop),i<vs.length->j<vs.length->C (O.blt (key i) (key j)) { s with heap:=h',toks:=tk }->ic prog w A.in1.in1 κ vs i j C { s with heap:=h',toks:=tk })
 (h:∀ (p:Array Nat) (h1 h':b9) (tk:Nat) (c:Nat),fN vs.length p->qk O key p vs.length->(∀ b o,s.heap.get? b=some o->h1.get? b=some o)->(∀ b o,h1.get? b=some o->h'.get? b=some o)->h'.get? h1.objs.size=some (bR "list" (p.toList.map fun i=>vs.getD i bq).toArray c)->Q (.ref h1.objs.size) { s with heap:=h',toks:=tk }) :
 aN (aZ prog w) A (call (.builtin "sorted") [x]) Q E s:=by
 have sz:aK=16777216:=bu
 have h127:vs.length<=63:=by rcases h64 with h | h<;>lia
 refine Calls.call_function_entry kind_sorted plain_sorted entry_sorted (args_sorted1 _) ?_
 unfold Builtin.«sorted»
 refine ac (m:=checkCount "sorted" 1 1 _) (aq (ac (col _ _ fun h1 tk k1=>?_)))
 refine ac (jK ?_ (by lia))
 have hoD:(h1.push (bR "list" vs.toArray 0)).get? h1.objs.size=some (bR "list" vs.toArray 0):=aL _ rfl
 have kp1:∀ h',ma h1.objs.size (h1.push (bR "list" vs.toArray 0)) h'->∀ b o,h1.get? b=some o->h'.get? b=some o:=fun h' k b o e =>
  k b o (be (aG e)) (ah _ e)
 have kp:∀ h',ma h1.objs.size (h1.push (bR "list" vs.toArray 0)) h'->∀ b o,s.heap.get? b=some o->h'.get? b=some o:=fun h' k b o e=>kp1 h' k b o (k1 b o e)
 show aN _ _ _ _ _ { s with heap:=h1.push (bR "list" vs.toArray 0),toks:=tk }
 refine ac (cN (eY slot_list_sort ⟨_,hoD,rfl⟩ entry_list_sort ?body (args_list_sort _)))
 case body =>
  refine Cs (s:={ s with heap:=h1.push (bR "list" vs.toArray 0),toks:=tk }) (O:=O) (key:=key) (κ:=κ) hoD h64 (fun h' k h2 Q' q=>kind h' tk (kp h' k) h2 Q' q) (fun h' k i j C hi hj c=>lt h' tk (kp h' k) i j C hi hj c) fun p h' c hp hu k e=>?_
  exact ⟨_,rfl,aq ⟨_,rfl,h p h1 h' tk c hp hu k1 (kp1 h' k) e⟩⟩
end
end Ry
namespace Ms
structure Lin {α:Type} (lt:α->α->Bool):Prop where
 irr:∀ a,lt a a=false
 tr:∀ a b c,lt a b=true->lt b c=true->lt a c=true
 tot:∀ a b,lt a b=false->lt b a=false->a=b
section
variable {α:Type} (lt:α->α->Bool)
noncomputable def ins (a:α):List α->List α
 | []=>[a]
 | b::r=>if lt b a=true then b::ins a r else a::b::r
noncomputable def srt:List α->List α
 | []=>[]
 | a::r=>ins lt a (srt r)
variable {lt}
noncomputable def Le (lt:α->α->Bool) (a b:α):Prop:=lt b a=false
theorem Lin.asym (h:Lin lt) {a b:α} (q:lt a b=true):lt b a=false:=by
 cases e:lt b a with
 | false=>rfl
 | true=>have:=h.tr _ _ _ q e;rw [h.irr] at this;cases this
theorem Lin.letr (h:Lin lt) {a b c:α} (p:Le lt a b) (q:Le lt b c):Le lt a c:=by
 unfold Le at *
 cases e:lt c a with
 | false=>rfl
 | true =>
   cases e2:lt a b with
   | true=>have:=h.tr _ _ _ e e2;rw [q] at this;cases this
   | false=>have:=h.tot _ _ e2 p;subst this;rw [q] at e;cases e
theorem Lin.ofLt (h:Lin lt) {a b:α} (q:lt a b=true):Le lt a b:=h.asym q
theorem qm (a:α):∀ l:List α,(ins lt a l).Perm (a::l)
 | []=>.refl _
 | b::r=>by
   unfold ins
   split
   ·exact ((qm a r).cons b).trans (.swap ..)
   ·exact .refl _
theorem srt_perm:∀ l:List α,(srt lt l).Perm l
 | []=>.refl _
 | a::r=>(qm a _).trans ((srt_perm r).cons a)
theorem pC (h:Lin lt) (a:α):∀ {l:List α},l.Pairwise (Le lt)->(ins lt a l).Pairwise (Le lt)
 | [],_=>by unfold ins;exact bg _ _
 | b::r,q=>by
   obtain ⟨h1,h2⟩:=b8.mp q
   unfold ins
   split
   ·rename_i hb
    refine b8.mpr ⟨fun x hx=>?_,pC h a h2⟩
    rcases aE.mp ((qm a r).mem_iff.mp hx) with e | e
    ·subst e;exact h.ofLt hb
    ·exact h1 x e
   ·rename_i hb
    have hab:Le lt a b:=by unfold Le;simpa using hb
    refine b8.mpr ⟨fun x hx=>?_,q⟩
    rcases aE.mp hx with e | e
    ·subst e;exact hab
    ·exact h.letr hab (h1 x e)
theorem pU (h:Lin lt):∀ l:List α,(srt lt l).Pairwise (Le lt)
 | []=>.nil
 | a::r=>pC h a (pU h r)
theorem fL (h:Lin lt):∀ {l m:List α},l.Perm m->l.Pairwise (Le lt)->m.Pairwise (Le lt)->l=m
 | [],m,p,_,_=>(List.nil_perm.mp p).symm
 | a::l,[],p,_,_=>absurd (p.length_eq) (by simp)
 | a::l,b::m,p,h1,h2=>by
   obtain ⟨a1,a2⟩:=b8.mp h1
   obtain ⟨b1,b2⟩:=b8.mp h2
   have e:a=b:=by
    rcases aE.mp (p.mem_iff.mp (am)) with e | e
    ·exact e
    ·rcases aE.mp (p.mem_iff.mpr (am (a:=b) (l:=m))) with e' | e'
     ·exact e'.symm
     ·exact h.tot _ _ (b1 a e) (a1 b e')
   subst e
   rw [fL h (rM p) a2 b2]
theorem srt_strict (h:Lin lt) {l:List α} (q:l.Nodup):(srt lt l).Pairwise fun a b=>lt a b=true:=by
 have nd:(srt lt l).Nodup:=(srt_perm l).nodup_iff.mpr q
 have hs:=pU h l
 have both:=hs.and nd
 refine both.imp fun {a b} z=>?_
 cases e:lt a b with
 | true=>rfl
 | false=>exact absurd (h.tot _ _ e z.1) z.2
theorem strict_ext (h:Lin lt) {l m:List α} (p:l.Pairwise fun a b=>lt a b=true) (q:m.Pairwise fun a b=>lt a b=true) (e:∀ x,x∈l↔x∈m):l=m:=by
 have ndl:l.Nodup:=p.imp fun {a b} z w=>by subst w;rw [h.irr] at z;cases z
 have ndm:m.Nodup:=q.imp fun {a b} z w=>by subst w;rw [h.irr] at z;cases z
 exact fL h ((iI ndl ndm).mpr e) (p.imp fun z=>h.ofLt z) (q.imp fun z=>h.ofLt z)
theorem srt_map {β:Type} {lt':β->β->Bool} {f:α->β} (e:∀ a b,lt' (f a) (f b)=lt a b):∀ l:List α,srt lt' (l.map f)=(srt lt l).map f
 | []=>rfl
 | a::r=>by
   have hi:∀ l:List α,ins lt' (f a) (l.map f)=(ins lt a l).map f:=fun l=>by
    induction l with
    | nil=>rfl
    | cons b r ih =>
      show (if lt' (f b) (f a)=true then _ else _)=gP f (if lt b a=true then _ else _)
      rw [e]
      split
      ·rw [aD,<- ih]
      ·rfl
   show ins lt' (f a) (srt lt' (r.map f))=(ins lt a (srt lt r)).map f
   rw [srt_map e r,hi]
end
noncomputable def ltI (a b:Int):Bool:=decide (a<b)
theorem linI:Lin ltI:=⟨fun a=>by simp [ltI],fun a b c=>by simp only [ltI,decide_eq_true_eq];lia,fun a b=>by simp only [ltI,decide_eq_false_iff_not];lia⟩
noncomputable def ltP (p q:Int×Int):Bool:=if p.1=q.1 then decide (p.2<q.2) else decide (p.1<q.1)
theorem linP:Lin ltP:=by
 refine ⟨fun a=>by simp [ltP],fun a b c h1 h2=>?_,fun a b h1 h2=>?_⟩
 ·unfold ltP at *
  split at h1<;>split at h2<;>split<;>simp only [decide_eq_true_eq] at *<;>lia
 ·unfold ltP at *
  split at h1<;>split at h2<;>simp only [decide_eq_false_iff_not] at *<;>(first | lia | exact ku (by lia) (by lia))
theorem ltP_iff {p q:Int×Int}:ltP p q=true↔p.1<q.1\/(p.1=q.1/\p.2<q.2):=by
 unfold ltP;split<;>simp only [decide_eq_true_eq]<;>lia
theorem length_le_of_subset {α:Type} [DecidableEq α]:∀ {l m:List α},l.Nodup->(∀ x∈l,x∈m)->l.length<=m.length
 | [],_,_,_=>bW _
 | a::l,m,nd,h=>by
   obtain ⟨n1,n2⟩:=bi.mp nd
   have ha:a∈m:=h a (am)
   have:=length_le_of_subset (l:=l) (m:=m.erase a) n2 fun x hx=>(List.mem_erase_of_ne (fun z=>n1 (by rw [<- z];exact hx))).mpr (h x (al _ hx))
   rw [List.length_erase_of_mem ha] at this
   have hp:0<m.length:=tV ha
   rw [aJ]
   lia
end Ms
namespace Ry
open PySem PySem.Spec PyProof.Rows L2
theorem uo (O:eZ):∀ l:List O.α,FJ O l=Ms.srt O.blt l:=by
 have hi:∀ (a:O.α) (l:List O.α),BU O a l=Ms.ins O.blt a l:=fun a l=>by
  induction l with
  | nil=>rfl
  | cons b r ih=>unfold BU Ms.ins;rw [ih]
 intro l
 induction l with
 | nil=>rfl
 | cons a r ih=>unfold FJ Ms.srt;rw [hi,ih]
section
variable {prog:bh} {w:bT} {A:bE} {s:ai}
theorem qb {l:au} {vs:List ag} (hl:s.heap.IsList l vs.toArray) (hsz:vs.length<=aK):gD prog w A s (.ref l) vs:=by
 intro E R h
 refine collect_list hl ?_ hsz
 have:=h ((s.heap.push (bR "list" #[] 0)).update s.heap.objs.size (bQ (·++vs.toArray))) s.toks fun b o e=>by
  rw [wD _ _ _ _ (be (aG e))]
  exact ah _ e
 exact this
theorem oZ {l:au} {vs:List ag} (hl:jd s.heap l vs.toArray) (hsz:vs.length<=aK):gD prog w A s (.ref l) vs:=by
 intro E R h
 obtain ⟨o,ho,hc,n,hd⟩:=id hl
 unfold tU
 refine ac (wpAny_runValue (dL Bg ?_))
 show aN _ _ (do again (.builtin "list.__iadd__" ⟨[<- newList [],.ref l],[]⟩)) _ _ s
 refine ac (jK (aq ⟨Code.quiet_builtin _ (by decide +kernel),dL entry_list_iadd' ?_⟩))
 show aN _ _ (g5 (.ref s.heap.objs.size) (.ref l) (.ref s.heap.objs.size)) _ _ { s with heap:=s.heap.push (bR "list" #[] 0) }
 unfold g5
 have ho':(s.heap.push (bR "list" #[] 0)).get? l=some o:=ah _ ho
 refine ac (ia (T:="tuple") ⟨o,ho',hc⟩ ?_)
 have ht:(fH "tuple" == fH "tuple")=true:=by rfl
 rw [if_pos (by rw [ht];simp)]
 refine ac (iU ho' hd ?_)
 refine ac (iU (xs:=#[]) (n:=0) (aL _ rfl) rfl ?_)
 rw [if_neg (by simp)]
 refine ac (fR (xs:=#[]) (n:=0) (aL _ rfl) rfl ?_ (bW _) (by show (#[]++vs.toArray).size<=aK+1;simp only [Array.size_append,ax,cK];lia))
 refine aq ?_
 show aN (aZ prog w) A (do
  let o <- load s.heap.objs.size
  match o.data with
  | .seq xs _=>pure xs.toList
  | _=>unsupported "internal:collect") R E { s with heap:=(s.heap.push (bR "list" #[] 0)).update s.heap.objs.size (bQ (·++vs.toArray)) }
 refine ac (m9 (fJ (aL _ rfl) _) ?_)
 show aN _ _ (pure ((#[]:Array ag)++vs.toArray).toList) R E _
 rw [show ((#[]:Array ag)++vs.toArray).toList=vs by simp]
 exact aq (h ((s.heap.push (bR "list" #[] 0)).update s.heap.objs.size (bQ (·++vs.toArray))) s.toks fun b o e=>by
  rw [wD _ _ _ _ (be (aG e))]
  exact ah _ e)
theorem lD {d:au} {es:Array km} {ep:Nat} (hh:A.handled=none) (lo:(d == cV)=false) (hm:gG s.heap d es ep) (hz:es.size<=aK):gD prog w A s (.ref d) (es.toList.map (·.key)):=by
 intro E R h
 refine PySem.W.kdu_collect (Bv lo) hh hm hz fun h' tk acc k it=>?_
 have e:acc.toList=es.toList.map (·.key):=by
  apply mv
  intro i
  rw [fg,aC,fg]
  cases q:acc[i]? with
  | none =>
    have:es.size<=i:=by rw [<- it.1];exact Array.getElem?_eq_none_iff.mp q
    rw [rL this];rfl
  | some v =>
    obtain ⟨hl,rfl⟩:=it.2 i v q
    rw [gf hl];rfl
 rw [e]
 exact h h' tk k
theorem AS {Q:Bool->ai->Prop}:∀ {ns ms:List Int} {us ws:List ag} {fin:Bool} (i:Nat),dJ (ns.map V.int) us->dJ (ms.map V.int) ws->fin=decide (ns.length<ms.length)->Q (HT.lexLt ns ms) s->x5 prog w A true fin Q (us.zip ws) i s
 | [],ms,us,ws,fin,i,r1,r2,hf,q=>by
   have:us=[]:=dJ.zero r1
   subst this
   have e:HT.lexLt [] ms=fin:=by rw [hf];cases ms<;>simp [HT.lexLt]
   rw [e] at q
   exact q
 | n::ns,[],us,ws,fin,i,r1,r2,hf,q=>by
   have:ws=[]:=dJ.zero r2
   subst this
   have e:HT.lexLt (n::ns) []=fin:=by rw [hf];simp [HT.lexLt]
   rw [e] at q
   rw [xG]
   exact q
 | n::ns,m::ms,us,ws,fin,i,r1,r2,hf,q=>by
   cases r1 with
   | cons h1 r1 =>
     cases r2 with
     | cons h2 r2 =>
       obtain ⟨t,rfl⟩:=h1
       obtain ⟨t',rfl⟩:=h2
       rw [lO]
       refine lT (pY ?_)
       by_cases e:n=m
       ·subst e
        rw [beq_self_eq_true]
        refine mN (AS (i+1) r1 r2 (by rw [hf];simp) ?_)
        have:HT.lexLt (n::ns) (n::ms)=HT.lexLt ns ms:=by rw [HT.lexLt_cons,if_pos rfl]
        rw [this] at q
        exact q
       ·rw [show (n == m)=false from beq_eq_false_iff_ne.mpr e]
        have hq:HT.lexLt (n::ns) (m::ms)=decide (n<m):=by rw [HT.lexLt_cons,if_neg e]
        rw [hq] at q
        refine nj ?_
        cases hb:(true&&i == 0) with
        | true=>exact oneLt_int q
        | false=>exact mO _ _ (lt_int q)
end
structure Plc {α:Type} (lt:α->α->Bool) (d:α) (ks:List α) (q:List Nat):Prop where
 perm:q.Perm (bG ks.length)
 srt:q.map (fun i=>ks.getD i d)=Ms.srt lt ks
section
variable {X:Cx} {pins:List (au×cX)} {σ:St} {H:Hp} {s:ai}
theorem jY {xs:List V} {us:List ag} (r:dJ xs us):∀ q:List Nat,(∀ i∈q,i<xs.length)->dJ (q.map fun i=>xs.getD i .non) (q.map fun i=>us.getD i bq)
 | [],_=>.nil
 | i::q,h=>by
   obtain ⟨u,hu,ru⟩:=r.get (aj (h i (am)))
   refine .cons ?_ (jY r q fun j hj=>h j (al _ hj))
   have e1:xs.getD i .non=xs[i]'(h i (am)):=by simp [h i (am)]
   have e2:us.getD i bq=u:=by rw [aB,hu];rfl
   show fZ (xs.getD i .non) (us.getD i bq)
   rw [e1,e2]
   exact ru
theorem kE {x:ag} {ns:List Int} {vs:List ag} {Q:VK} (I:Inv X pins σ H s) (col:gD X.prog X.w X.A.in1 s x vs) (rv:dJ (ns.map V.int) vs) (h64:ns.length<64)
 (k:∀ p,H p=none->Q (.ref p) (upd H p (.lst ((Ms.srt Ms.ltI ns).map V.int)))):aN (aZ X.prog X.w) X.A (call (.builtin "sorted") [x]) (EP X pins σ Q) X.xe s:=by
 have hl:vs.length=ns.length:=by rw [<- rv.length,af]
 have at':∀ i,i<vs.length->∃ t,vs.getD i bq=.int (ns.getD i 0) t:=fun i hi=>by
  have hi':i<ns.length:=by lia
  obtain ⟨u,hu,ru⟩:=rv.get (i:=i) (x:=.int ns[i]) (by rw [aC,aj hi'];rfl)
  obtain ⟨t,rfl⟩:=ru
  refine ⟨t,?_⟩
  rw [aB,hu,aB,aj hi'];rfl
 refine me (O:=xP) (κ:=oP) (key:=fun i=>ns.getD i 0) col (.inl (by lia)) (fun h' tk kp h2 Q' q=>?_) (fun h' tk kp i j C hi hj c=>?_) fun p h1 h' tk c hp hu k1 kp e=>?_
 ·refine wF (T:=.type "int") h2 (fun v hv=>?_) (by decide) (by decide) q
  obtain ⟨i,hi,rfl⟩:=cH hv
  obtain ⟨t,e⟩:=at' i hi
  have e2:vs[i]=.int (ns.getD i 0) t:=by rw [<- e];simp [hi]
  rw [e2]
  exact .now
 ·show aN (aZ X.prog X.w) _ (keyLt' oP (vs.getD i bq) (vs.getD j bq)) C _ _
  obtain ⟨t,e1⟩:=at' i hi
  obtain ⟨t',e2⟩:=at' j hj
  rw [e1,e2]
  exact t9 c
 ·rw [hl] at hp hu
  have pl:=kQ (O:=xP) (0:Int) hp hu
  have hz:aK=16777216:=bu
  have hpm:∀ i∈p.toList,i<(ns.map V.int).length:=fun i hi=>by
   have h1:p.toList.Perm (bG ns.length):=by simpa using cB.mp hp.perm
   rw [af]
   simpa using h1.mem_iff.mp hi
  have r2:=jY rv p.toList hpm
  have e3:(p.toList.map fun i=>(ns.map V.int).getD i .non)=(Ms.srt Ms.ltI ns).map V.int:=by
   have:(p.toList.map fun i=>ns.getD i 0)=Ms.srt Ms.ltI ns:=by
    exact pl.trans (uo xP ns)
   rw [<- this,aQ]
   refine eN fun i hi=>?_
   have hi':=hpm i hi
   rw [af] at hi'
   simp [hi']
  rw [e3] at r2
  have hlen:((Ms.srt Ms.ltI ns).map V.int).length<=aK:=by rw [af,(Ms.srt_perm ns).length_eq];lia
  have I1:Inv X pins σ H { s with heap:=h1,toks:=tk }:=I.kept (t':=tk) k1
  exact ⟨.ref h1.objs.size,_,I1.laid (t':=tk) kp (az _) (show gz X.prog X.w _ h' _ (.lst _) from ⟨hlen,_,c,r2,e⟩),rfl,k _ (I1.hok.fresh (az _))⟩
theorem iP {x:ag} {ts:List (List Int)} {ys:List V} {vs:List ag} {Q:VK} (I:Inv X pins σ H s) (col:gD X.prog X.w X.A.in1 s x vs) (rv:dJ ys vs) (hy:ys.length=ts.length)
 (hys:∀ i,i<ts.length->∃ a,ys[i]?=some (.ref a)/\SqT X.K H a ((ts.getD i []).map V.int)/\ts.getD i []≠[]) (h64:OkN ts)
 (k:∀ p q,H p=none->Plc HT.lexLt [] ts q->Q (.ref p) (upd H p (.lst (q.map fun i=>ys.getD i .non)))):aN (aZ X.prog X.w) X.A (call (.builtin "sorted") [x]) (EP X pins σ Q) X.xe s:=by
 have hl:vs.length=ts.length:=by rw [<- rv.length,hy]
 have at':∀ i,i<vs.length->∃ (a:au) (its:List ag),vs.getD i bq=.ref a/\dJ ((ts.getD i []).map V.int) its/\jd s.heap a its.toArray/\ts.getD i []≠[]:=fun i hi=>by
  obtain ⟨a,e,sq,ne⟩:=hys i (by lia)
  obtain ⟨u,hu,ru⟩:=rv.get e
  cases (show u=bI a from ru)
  obtain ⟨its,r,it,_⟩:=I.tuple sq
  exact ⟨a,its,by rw [aB,hu];rfl,r,it,ne⟩
 refine me (O:=uR) (κ:=x6 true) (key:=fun i=>ts.getD i []) col (by rw [hl];exact h64.inj []) (fun h' tk kp h2 Q' q=>?_) (fun h' tk kp i j C hi hj c=>?_) fun p h1 h' tk c hp hu k1 kp e=>?_
 ·have firsts:∀ us:List ag,(∀ u∈us,∃ i,i<vs.length/\u=vs.getD i bq)->∃ fs:List ag,xI h' us fs/\us.length=fs.length/\∀ f∈fs,∃ n t,f=eC n t:=fun us=>by
   induction us with
   | nil=>exact fun _=>⟨[],.nil,rfl,by simp⟩
   | cons u us ih =>
     intro hu
     obtain ⟨fs,h1,h2,h3⟩:=ih fun v hv=>hu v (al _ hv)
     obtain ⟨i,hi,rfl⟩:=hu u (am)
     obtain ⟨a,its,ea,r,⟨o,ho,hc,n,hd⟩,ne⟩:=at' i hi
     cases ht:ts.getD i [] with
     | nil=>exact absurd ht ne
     | cons m ms =>
       rw [ht] at r
       cases r with
       | @cons _ w _ ws rw' r =>
         obtain ⟨t,rfl⟩:=rw'
         refine ⟨.int m t::fs,?_,by rw [aJ,aJ,h2],fun f hf=>?_⟩
         ·rw [ea]
          exact .cons (kp _ _ ho) hc hd (by simp) h1
         ·rcases aE.mp hf with z | z
          ·exact ⟨m,t,z⟩
          ·exact h3 f z
  obtain ⟨fs,f1,f2,f3⟩:=firsts vs fun u hu=>by
   obtain ⟨i,hi,rfl⟩:=cH hu
   exact ⟨i,hi,by simp [hi]⟩
  refine wG (T:=.type "int") f1 (by lia) (fun v hv=>?_) (by decide) q
  obtain ⟨n,t,rfl⟩:=f3 v hv
  exact .now
 ·show aN (aZ X.prog X.w) _ (keyLt' (x6 true) (vs.getD i bq) (vs.getD j bq)) C _ _
  obtain ⟨a,its,e1,r1,⟨o,ho,hc,n,hd⟩,_⟩:=at' i hi
  obtain ⟨a',its',e2,r2,⟨o',ho',hc',n',hd'⟩,_⟩:=at' j hj
  rw [e1,e2]
  refine x8 (kp _ _ ho) hd (kp _ _ ho') hd' ?_
  have l1:=r1.length
  have l2:=r2.length
  rw [af] at l1 l2
  exact AS 0 r1 r2 (by rw [ax,ax,l1,l2]) c
 ·rw [hl] at hp hu
  have pl:=kQ (O:=uR) ([]:List Int) hp hu
  have hz:aK=16777216:=bu
  have h1p:p.toList.Perm (bG ts.length):=by simpa using cB.mp hp.perm
  have hpm:∀ i∈p.toList,i<ys.length:=fun i hi=>by rw [hy];simpa using h1p.mem_iff.mp hi
  have r2:=jY rv p.toList hpm
  have hlen:(p.toList.map fun i=>ys.getD i .non).length<=aK:=by rw [af,h1p.length_eq,fA];lia
  have I1:Inv X pins σ H { s with heap:=h1,toks:=tk }:=I.kept (t':=tk) k1
  refine ⟨.ref h1.objs.size,_,I1.laid (t':=tk) kp (az _) (show gz X.prog X.w _ h' _ (.lst _) from ⟨hlen,_,c,r2,e⟩),rfl,k _ p.toList (I1.hok.fresh (az _)) ⟨h1p,?_⟩⟩
  exact pl.trans (uo uR ts)
end
section
variable {X:Cx} {pins:List (au×cX)} {σ:St} {H:Hp} {s:ai} {A:bE} {p:au}
theorem rq {ys:List V} (I:Inv X pins σ H s) (h:SqL X.K H p ys\/SqT X.K H p ys):∃ vs,gD X.prog X.w A s (.ref p) vs/\dJ ys vs:=by
 rcases h with h | h
 ·obtain ⟨its,r,pl,z⟩:=I.list h
  exact ⟨its,qb pl.isList (by rw [<- r.length];exact z),r⟩
 ·obtain ⟨its,r,pl,z⟩:=I.tuple h
  exact ⟨its,oZ pl (by rw [<- r.length];exact z),r⟩
theorem xl {prog:bh} {w:bT} {knd:KeyKind prog w Key} (hk:∀ k v,knd.is k v=true->fZ (kV k) v) {es:List km} {kvs:List (Key×ag)} (h:Pairs knd es kvs):dJ (kvs.map fun kv=>kV kv.1) (es.map (·.key)):=by
 induction h with
 | nil=>exact .nil
 | cons h1 _ _ ih=>exact .cons (hk _ _ h1) ih
theorem Ck {k:Key} {v:ag} (h:qC k v=true):fZ (kV k) v:=by
 rcases dr h with ⟨z,t,e1,e2⟩ | ⟨z,t,e1,e2⟩
 ·rw [e1,e2];exact ⟨t,rfl⟩
 ·rw [e1,e2];exact ⟨t,rfl⟩
theorem Gu {kvs:List (Key×V)} (I:Inv X pins σ H s) (hh:A.handled=none) (h:Rd H p (.dK kvs)):∃ vs,gD X.prog X.w A s (.ref p) vs/\dJ (kvs.map fun kv=>kV kv.1) vs:=by
 obtain ⟨hz,lo,vs,r,o,es,ep,ho,hx,hd,hk,hp,hn⟩:=h.ok I.hok
 have e:kvs.map (fun kv=>kV kv.1)=vs.map (fun kv=>kV kv.1):=by
  have:=r.keys
  have e2:=congrArg (gP kV) this
  rw [aQ,aQ] at e2
  exact e2
 have rv:=xl (fun k v h=>Ck h) hp
 refine ⟨es.toList.map (·.key),lD hh lo ⟨o,ho,hx,hd⟩ ?_,by rw [e];exact rv⟩
 have l1:=rv.length
 rw [af,af,bJ] at l1
 have l2:=bY r
 show es.size<=aK
 have hz':kvs.length<=aK:=hz
 have l3:kvs.length=vs.length:=l2
 have l4:vs.length=es.size:=l1
 rw [<- l4,<- l3]
 exact hz'
theorem F5 {kvs:List (List Key×V)} (I:Inv X pins σ H s) (hh:A.handled=none) (h:Rd H p (.dT kvs)):∃ (vs:List ag) (as:List au),gD X.prog X.w A s (.ref p) vs/\dJ (as.map V.ref) vs/\as.length=kvs.length/\∀ (i:Nat) (kv:List Key×V) (a:au),kvs[i]?=some kv->as[i]?=some a->H a=some (.tup (kv.1.map kV)):=by
 obtain ⟨hz,lo,xs,r,o,es,ep,ho,hx,hd,he,hn⟩:=h.ok I.hok
 have l2:=bY r
 have hes:es.toList.map (·.key)=xs.map fun x=>bI x.2.1:=by rw [he,aQ];rfl
 refine ⟨es.toList.map (·.key),xs.map (·.2.1),lD hh lo ⟨o,ho,hx,hd⟩ ?_,?_,by rw [af];exact l2.symm,fun i kv a h1 h2=>?_⟩
 ·have:=congrArg ii he
  rw [bJ,af] at this
  lia
 ·rw [hes,aQ]
  have:∀ l:List (List Key×au×ag),dJ (l.map (V.ref∘fun x=>x.2.1)) (l.map fun x=>bI x.2.1):=fun l=>by
   induction l with
   | nil=>exact .nil
   | cons a l ih=>exact .cons rfl ih
  exact this xs
 ·rw [aC] at h2
  cases q:xs[i]? with
  | none=>rw [q] at h2;cases h2
  | some x =>
    rw [q] at h2
    cases h2
    have:∀ {l:List (List Key×V)} {m:List (List Key×au×ag)} {i:Nat} {kv:List Key×V} {x:List Key×au×ag},m6 (fun (p:List Key×V) (q:List Key×au×ag)=>p.1=q.1/\H q.2.1=some (.tup (p.1.map kV))/\fZ p.2 q.2.2) l m->l[i]?=some kv->m[i]?=some x->H x.2.1=some (.tup (kv.1.map kV)):=fun {l m}=>by
     intro i kv x rr
     induction rr generalizing i with
     | nil=>intro h;simp at h
     | cons h _ ih =>
       cases i with
       | zero=>intro h1 h2;simp at h1 h2;subst h1 h2;exact h.2.1
       | succ i=>intro h1 h2;exact ih (by simpa using h1) (by simpa using h2)
    exact this r h1 q
end
end Ry
namespace Ry
open L2
noncomputable def n6:List Da->Option (List (List Int))
 | []=>some []
 | .tup xs::r=>match gs xs,n6 r with
   | some ns,some ts=>some (ns::ts)
   | _,_=>none
 | _=>none
noncomputable def lv (ds:List Da):Option (List Da):=match gs ds with
 | some ns=>if ns.length<64 then some ((Ms.srt Ms.ltI ns).map Da.int) else none
 | none=>match n6 ds with
   | some ts=>if OkN ts/\ts.all (fun t=>!t.isEmpty)=true then some ((Ms.srt HT.lexLt ts).map fun t=>.tup (t.map Da.int)) else none
   | none=>none
noncomputable def gn:List Rv->Option Rv
 | [(_,.lst ds)]=>match lv ds with | some es=>some (.fr,.lst es) | none=>none
 | [(_,.tup ds)]=>match lv ds with | some es=>some (.fr,.lst es) | none=>none
 | [(_,.dK ks _)]=>match lv (ks.map i7) with | some es=>some (.fr,.lst es) | none=>none
 | [(_,.dT ks _)]=>match lv (ks.map fun k=>.tup (k.map i7)) with | some es=>some (.fr,.lst es) | none=>none
 | _=>none
end Ry
namespace Ry
open PySem PySem.Spec PyProof.Rows L2
noncomputable def nr (K:ae):List V->Hp->VK->Prop:=fun xs H Q=>∃ p,xs=[.ref p]/\(
 (∃ ns:List Int,ns.length<64/\((SqL K H p (ns.map V.int)\/SqT K H p (ns.map V.int))\/∃ kvs,Rd H p (.dK kvs)/\kvs.map (·.1)=ns.map av)/\∀ l,H l=none->Q (.ref l) (upd H l (.lst ((Ms.srt Ms.ltI ns).map V.int)))) \/
 (∃ (ts:List (List Int)) (ys:List V),OkN ts/\ys.length=ts.length/\(SqL K H p ys\/SqT K H p ys)/\(∀ i,i<ts.length->∃ a,ys[i]?=some (.ref a)/\SqT K H a ((ts.getD i []).map V.int)/\ts.getD i []≠[])/\∀ l q,H l=none->Plc HT.lexLt [] ts q->Q (.ref l) (upd H l (.lst (q.map fun i=>ys.getD i .non)))) \/
 (∃ (ts:List (List Int)) (kvs:List (List Key×V)),OkN ts/\Rd H p (.dT kvs)/\kvs.map (·.1)=ts.map (fun t=>t.map av)/\(∀ t∈ts,t≠[])/\∀ l q (as:List au),H l=none->Plc HT.lexLt [] ts q->as.length=ts.length->(∀ i,i<ts.length->∃ a,as[i]?=some a/\H a=some (.tup ((ts.getD i []).map V.int)))->Q (.ref l) (upd H l (.lst (q.map fun i=>(as.map V.ref).getD i .non)))))
theorem g9 {α:Type} {l:List α} {i:Nat} (h:i<l.length) (d:α):l[i]?=some (l.getD i d):=by rw [aB,aj h];rfl
theorem uH {X:Cx} (hc:X.calm=true):j0 X (.builtin "sorted") (nr X.K):=by
 intro pins s σ H xs us Q I r h
 obtain ⟨p,rfl,h⟩:=h
 obtain ⟨u,rfl,rx⟩:=kZ r
 cases rx
 have hh:X.A.in1.handled=none:=I.ok.hd hc
 rcases h with ⟨ns,h64,src,k⟩ | ⟨ts,ys,h64,hy,src,hys,k⟩ | ⟨ts,kvs,h64,src,hk,ne,k⟩
 ·rcases src with src | ⟨kvs,src,hk⟩
  ·obtain ⟨vs,col,rv⟩:=rq (A:=X.A.in1) I src
   exact kE I col rv h64 k
  ·obtain ⟨vs,col,rv⟩:=Gu (A:=X.A.in1) I hh src
   have e:kvs.map (fun kv=>kV kv.1)=ns.map V.int:=by
    have:=congrArg (gP kV) hk
    rw [aQ,aQ] at this
    exact this
   rw [e] at rv
   exact kE I col rv h64 k
 ·obtain ⟨vs,col,rv⟩:=rq (A:=X.A.in1) I src
  exact iP I col rv hy hys h64 k
 ·obtain ⟨vs,as,col,rv,hl,hat⟩:=F5 (A:=X.A.in1) I hh src
  have hkl:kvs.length=ts.length:=by have:=congrArg ii hk;simpa using this
  have hat':∀ i,i<ts.length->∃ a,as[i]?=some a/\H a=some (.tup ((ts.getD i []).map V.int)):=fun i hi=>by
   have h1:i<kvs.length:=by lia
   have h2:i<as.length:=by lia
   refine ⟨as[i],aj h2,?_⟩
   have:=hat i kvs[i] as[i] (aj h1) (aj h2)
   have e:kvs[i].1=(ts.getD i []).map av:=by
    have:=congrArg (fun l=>l[i]?) hk
    simp only [aC,aj h1,g9 hi [],cc] at this
    exact bH this
   rw [e,aQ] at this
   exact this
  refine iP I col rv (by rw [af];lia) (fun i hi=>?_) h64 fun l q hl' hq=>k l q as hl' hq (by lia) hat'
  obtain ⟨a,e1,e2⟩:=hat' i hi
  exact ⟨a,by rw [aC,e1];rfl,SqT.of e2,ne _ (bz (g9 hi []))⟩
theorem qV:∀ {ds:List Da} {ts:List (List Int)},n6 ds=some ts->ds=ts.map fun t=>Da.tup (t.map Da.int)
 | [],ts,h=>by cases h;rfl
 | .tup xs::r,ts,h=>by
   have h:(match gs xs,n6 r with | some ns,some ts=>some (ns::ts) | _,_=>none)=some ts:=h
   split at h
   ·rename_i ns ts' e1 e2
    cases h
    rw [qV e2,gC e1]
    rfl
   ·cases h
 | .non::r,ts,h=>by cases h
 | .bl _::r,ts,h=>by cases h
 | .int _::r,ts,h=>by cases h
 | .str _::r,ts,h=>by cases h
 | .lst _::r,ts,h=>by cases h
 | .dK _ _::r,ts,h=>by cases h
 | .dT _ _::r,ts,h=>by cases h
theorem sB {G H:Hp}:∀ (l:List (au×List V)),cG G H->(∀ e∈l,H e.1=some (.tup e.2))->∃ G',Ext G H G' H/\∀ e∈l,G' e.1=some (.tup e.2)
 | [],sg,_=>⟨G,Ext.refl sg,by simp⟩
 | (a,xs)::l,sg,h=>by
   obtain ⟨G1,E1,h1⟩:=sB l sg fun e he=>h e (al _ he)
   have ha:=h (a,xs) (am)
   dsimp only at ha
   cases q:G1 a with
   | some o =>
     have:=E1.gh a o q
     rw [ha] at this
     cases this
     refine ⟨G1,E1,fun e he=>?_⟩
     rcases aE.mp he with z | z
     ·subst z;exact q
     ·exact h1 e z
   | none =>
     refine ⟨upd G1 a (.tup xs),⟨E1.hh,E1.gg.trans (cj q),fun b o z=>?_,fun b o z t w=>?_⟩,fun e he=>?_⟩
     ·by_cases hb:b=a
      ·subst hb;rw [aU] at z;rw [<- z];exact ha
      ·rw [a8 hb] at z;exact E1.gh b o z
     ·have hb:b≠a:=fun z'=>by subst z';rw [ha] at z;cases z;cases t
      rw [a8 hb];exact E1.nw b o z t w
     ·rcases aE.mp he with z | z
      ·subst z;exact aU
      ·have hb:e.1≠a:=fun z'=>by have:=h1 e z;rw [z',q] at this;cases this
       rw [a8 hb];exact h1 e z
theorem kc {K:ae} {G:Hp} {ds:Nat->Da} {xs:Nat->V}:∀ (q:List Nat),(∀ i∈q,Den K G (ds i) (xs i))->cD K G (q.map ds) (q.map xs)
 | [],_=>rfl
 | i::q,h=>⟨_,_,rfl,h i (am),kc q fun j hj=>h j (al _ hj)⟩
theorem ym {α:Type} {lt:α->α->Bool} {d:α} {ks:List α} {q:List Nat} (h:Plc lt d ks q) {i:Nat} (hi:i∈q):i<ks.length:=by simpa using h.perm.mem_iff.mp hi
theorem vd {α:Type} {lt:α->α->Bool} {d:α} {ks:List α} {q:List Nat} (h:Plc lt d ks q) (f:α->Da):(Ms.srt lt ks).map f=q.map fun i=>f (ks.getD i d):=by rw [<- h.srt,aQ];rfl
theorem xj {K:ae}:Cal K (nr K) gn:=by
 intro B H0 G H rs c xs Q sg ra e k
 have goI:∀ {p:au} {ns:List Int},ns.length<64->((SqL K H p (ns.map V.int)\/SqT K H p (ns.map V.int))\/∃ kvs,Rd H p (.dK kvs)/\kvs.map (·.1)=ns.map av)->(∀ l,H l=none->Q (.ref l) (upd H l (.lst ((Ms.srt Ms.ltI ns).map V.int))))->nr K [.ref p] H Q:=fun h1 h2 h3=>⟨_,rfl,.inl ⟨_,h1,h2,h3⟩⟩
 have fin1:∀ ns:List Int,c=(.fr,.lst ((Ms.srt Ms.ltI ns).map Da.int))->∀ l,H l=none->Q (.ref l) (upd H l (.lst ((Ms.srt Ms.ltI ns).map V.int))):=fun ns ec l hl=>by
  refine k _ G _ (Ext.own sg hl) ?_
  rw [ec]
  exact ⟨l,_,rfl,hl,sg.free hl,aU,_,rfl,cD.ints.mpr rfl⟩
 have seq:∀ {p:au} {ds:List Da} {ys:List V} {es:List Da},(SqL K H p ys\/SqT K H p ys)->cD K G ds ys->lv ds=some es->c=(.fr,.lst es)->nr K [.ref p] H Q:=fun {p ds ys es} sq dl es' ec=>by
  unfold lv at es'
  split at es'
  ·rename_i ns en
   split at es'
   ·rename_i h64
    cases es'
    rw [gC en] at dl
    have:=cD.ints.mp dl
    subst this
    exact goI h64 (.inl sq) (fin1 ns ec)
   ·cases es'
  ·split at es'
   ·rename_i ts et
    split at es'
    ·rename_i hcond
     obtain ⟨h64,hne⟩:=hcond
     cases es'
     have ed:=qV et
     have hlen:ys.length=ts.length:=by rw [dl.length,ed,af]
     have itm:∀ i,i<ts.length->∃ a xs,ys[i]?=some (.ref a)/\G a=some (.tup xs)/\xs=(ts.getD i []).map V.int:=fun i hi=>by
      have:ds[i]?=some (.tup ((ts.getD i []).map Da.int)):=by rw [ed,aC,g9 hi []];rfl
      obtain ⟨x,hx,a,xs,rfl,ga,da⟩:=dl.get this
      exact ⟨a,xs,hx,ga,cD.ints.mp da⟩
     refine ⟨p,rfl,.inr (.inl ⟨ts,ys,h64,hlen,sq,fun i hi=>?_,fun l q hl hq=>?_⟩)⟩
     ·obtain ⟨a,xs,e1,e2,e3⟩:=itm i hi
      subst e3
      refine ⟨a,e1,SqT.of (sg _ _ e2),fun z=>?_⟩
      have:=bX.mp hne _ (bz (g9 hi []))
      rw [z] at this
      cases this
     ·refine k _ G _ (Ext.own sg hl) ?_
      rw [ec,vd hq]
      refine ⟨l,_,rfl,hl,sg.free hl,aU,_,rfl,kc (K:=K) (G:=G) q fun i hi=>?_⟩
      obtain ⟨a,xs,e1,e2,e3⟩:=itm i (ym hq hi)
      subst e3
      have e4:ys.getD i .non=.ref a:=by rw [aB,e1];rfl
      show Den K G (.tup _) (ys.getD i .non)
      rw [e4]
      exact ⟨a,_,rfl,e2,cD.ints.mpr rfl⟩
    ·cases es'
   ·cases es'
 unfold gn at e
 split at e
 ·split at e
  ·rename_i es' he
   cases e
   obtain ⟨v,rfl,h⟩:=e7.one ra
   obtain ⟨p,ys,rfl,q,d⟩:=h.lst sg
   exact seq (.inl q) d he rfl
  ·cases e
 ·split at e
  ·rename_i es' he
   cases e
   obtain ⟨v,rfl,h⟩:=e7.one ra
   obtain ⟨p,ys,rfl,q,d,g⟩:=h.tup sg
   exact seq (.inr (SqT.of q)) d he rfl
  ·cases e
 ·rename_i kd ks ds
  split at e
  ·rename_i es' he
   cases e
   obtain ⟨v,rfl,h⟩:=e7.one ra
   obtain ⟨p,kvs,rfl,q,ek,d⟩:=h.dK sg
   unfold lv at he
   have ofK:∀ {ks:List Key} {ns:List Int},gs (ks.map i7)=some ns->ks=ns.map av:=fun {ks}=>by
    induction ks with
    | nil=>intro ns h;cases h;rfl
    | cons k ks ih =>
      intro ns h
      cases k with
      | inl i =>
        have h:(gs (ks.map i7)).map (i::·)=some ns:=h
        cases z:gs (ks.map i7) with
        | none=>rw [z] at h;cases h
        | some ms=>rw [z] at h;cases h;rw [ih z];rfl
      | inr x=>cases h
   split at he
   ·rename_i ns en
    split at he
    ·rename_i h64
     cases he
     exact goI h64 (.inr ⟨kvs,q,by rw [ek];exact ofK en⟩) (fin1 ns rfl)
    ·cases he
   ·exfalso
    split at he
    ·rename_i hq ts et
     cases ks with
     | nil=>exact absurd (show (some []:Option (List Int))=none by assumption) (by simp)
     | cons k ks=>cases k<;>(simp only [aD,i7] at et;cases et)
    ·cases he
  ·cases e
 ·rename_i kd ks ds
  split at e
  ·rename_i es' he
   cases e
   obtain ⟨v,rfl,h⟩:=e7.one ra
   obtain ⟨p,kvs,rfl,q,ek,d⟩:=h.dT sg
   unfold lv at he
   have none_ints:∀ {ns:List Int},gs (ks.map fun k=>Da.tup (k.map i7))=some ns->ks=[]:=fun {ns} h=>by
    cases ks with
    | nil=>rfl
    | cons k ks=>cases h
   have go:∀ ts:List (List Int),OkN ts->(∀ t∈ts,t≠[])->ks=ts.map (fun t=>t.map av)->es'=(Ms.srt HT.lexLt ts).map (fun t=>Da.tup (t.map Da.int))->nr K [.ref p] H Q:=fun ts h64 hne ek2 ee=>by
    refine ⟨p,rfl,.inr (.inr ⟨ts,kvs,h64,q,by rw [ek,ek2],hne,fun l qq as hl hq hlen hat=>?_⟩)⟩
    obtain ⟨G',E',hG⟩:=sB (G:=G) (H:=H) ((bG ts.length).map fun i=>(as.getD i 0,(ts.getD i []).map V.int)) sg fun e he=>by
     obtain ⟨i,hi,rfl⟩:=aS.mp he
     obtain ⟨a,e1,e2⟩:=hat i (by simpa using hi)
     have e3:as.getD i 0=a:=by rw [aB,e1];rfl
     dsimp only
     rw [e3];exact e2
    have E2:Ext G H G' (upd H l (.lst (qq.map fun i=>(as.map V.ref).getD i .non))):=E'.trans (Ext.own E'.gh hl)
    refine k _ G' _ E2 ?_
    rw [ee,vd hq]
    refine ⟨l,_,rfl,hl,E'.gh.free hl,aU,_,rfl,kc (K:=K) (G:=G') qq fun i hi=>?_⟩
    have hi':=ym hq hi
    have g:=hG (as.getD i 0,(ts.getD i []).map V.int) (aS.mpr ⟨i,by simpa using hi',rfl⟩)
    have e4:(as.map V.ref).getD i .non=.ref (as.getD i 0):=by
     have:i<as.length:=by lia
     simp [this]
    show Den K G' (.tup _) ((as.map V.ref).getD i .non)
    rw [e4]
    exact ⟨_,_,rfl,g,cD.ints.mpr rfl⟩
   split at he
   ·rename_i ns en
    have e0:=none_ints en
    subst e0
    split at he
    ·cases he
     have:ns=[]:=by cases en;rfl
     subst this
     exact go [] (.inl (by simp)) (by simp) rfl rfl
    ·cases he
   ·split at he
    ·rename_i ts et
     split at he
     ·rename_i hcond
      cases he
      have conv:∀ {ks:List (List Key)} {ts:List (List Int)},n6 (ks.map fun k=>Da.tup (k.map i7))=some ts->ks=ts.map (fun t=>t.map av):=fun {ks}=>by
       induction ks with
       | nil=>intro ts h;cases h;rfl
       | cons k ks ih =>
         intro ts h
         have h:(match gs (k.map i7),n6 (ks.map fun k=>Da.tup (k.map i7)) with | some ns,some ts=>some (ns::ts) | _,_=>none)=some ts:=h
         split at h
         ·rename_i ns ts' e1 e2
          cases h
          have e3:k=ns.map av:=by
           have e4:=gC e1
           have:∀ {k:List Key} {ns:List Int},k.map i7=ns.map Da.int->k=ns.map av:=fun {k}=>by
            induction k with
            | nil=>intro ns h;cases ns with
              | nil=>rfl
              | cons _ _=>cases h
            | cons a k ihk =>
              intro ns h
              cases ns with
              | nil=>cases h
              | cons n ns =>
                rw [aD,aD] at h
                injection h with h1 h2
                cases a with
                | inl i=>cases h1;rw [ihk h2];rfl
                | inr x=>cases h1
           exact this e4
          rw [ih e2,e3]
          rfl
         ·cases h
      exact go ts hcond.1 (fun t ht z=>by have:=bX.mp hcond.2 t ht;rw [z] at this;cases this) (conv et) rfl
     ·cases he
    ·cases he
  ·cases e
 ·cases e
section
variable {X:Cx} {e:aR} {es:List aR} {p pos:d4} {g:Rho->Option (List Rv)}
theorem zG (hc:X.calm=true) (hg:Gl X "sorted") (hm:X.mg "sorted" = none) (ha:PXA X (e::es) g) (he:ao (e::es) X.env=(false,bL e X.env)::ao es X.env:=by exact bD rfl) (hpl:(bZ pos (ao es X.env)).any (·.1)=false:=by rfl):PX X (.Call (.Name "sorted" p) (e::es) [] pos) (xB gn g) :=
 Dz (uH hc) xj hg hm (by decide +kernel) ha (by decide) (by decide) he hpl
end
end Ry
namespace Ry
open PySem L2
noncomputable abbrev UD:=List (Int×List Int)
noncomputable def dD (l:List Int):Da:=.dK (l.map av) (l.map fun _=>.bl true)
noncomputable def dU (D:UD):Da:=.dK (D.map fun e=>av e.1) (D.map fun e=>dD e.2)
noncomputable def rG (l:List Int) (b:Int):List Int:=if b∈l then l else l++[b]
noncomputable def jc:UD->Int->Int->UD
 | [],a,b=>[(a,[b])]
 | (x,l)::D,a,b=>if x=a then (x,rG l b)::D else (x,l)::jc D a b
noncomputable def upp (T:List (Int×Int)):UD:=T.foldl (fun D p=>jc D p.1 p.2) []
noncomputable def dh:List Da->Option (List (Int×Int))
 | []=>some []
 | .tup [.int a,.int b]::r=>(dh r).map ((a,b)::·)
 | _=>none
noncomputable def fn_uppers_of:List Da->Option Da
 | [.tup ds]=>match dh ds with | some T=>if T.length<=1000 then some (dU (upp T)) else none | none=>none
 | [.lst ds]=>match dh ds with | some T=>if T.length<=1000 then some (dU (upp T)) else none | none=>none
 | _=>none
noncomputable def yI:Int->List Int->Int
 | m,[]=>m
 | m,a::r=>yI (if m<a then a else m) r
noncomputable def FO:List Rv->Option Rv
 | [(_,.int a),(_,.int b)]=>some (.pu,.int (if a<b then b else a))
 | _=>none
noncomputable def ke (g:Rho->Option (List Rv)):Rho->Option Rv:=fun ρ=>match g ρ with
 | some [(_,.int j)]=>if -(2 ^ 62)<=j/\j<=1000000 then some (.fr,.lst (eW 0 j.toNat)) else none
 | _=>none
end Ry
namespace Ry
open PySem PySem.Spec PyProof.Rows L2
section
variable {X:Cx} {a e:aR} {es:List aR} {p p2 pos pos2:d4} {fa:Rho->Option Rv} {g:Rho->Option (List Rv)}
noncomputable def KG (ta:TA):TE:=fun σ H Q=>ta σ H fun vs H1=>∃ j:Int,vs=[.int j]/\∀ r,H1 r=none->Q (.ref r) (upd H1 r (.rng 0 j))
theorem nH {ta:TA} (hg:Gl X "range") (hm:X.mg "range" = none) (ha:PA X [a] ta) (hs:ao [a] X.env=[(false,bL a X.env)]:=by exact bD rfl):PE X (.Call (.Name "range" p) [a] [] pos) (KG ta):=by
 intro pins s σ H Q I h
 refine Call_ (mz I hg hm boot_range (eS (thn (ha pos pins s σ H _ I h) fun us s1 ⟨vs,H1,I1,r1,q1⟩=>?_) hs rfl))
 obtain ⟨j,e,q⟩:=q1
 subst e
 cases r1 with
 | cons r rr =>
   cases rr
   obtain ⟨t,rfl⟩:=r
   refine call_range_1 ⟨.ref s1.heap.objs.size,_,I1.laid (a:=s1.heap.objs.size) (o:=.rng 0 j) (fun b o e=>ah _ e) (az _) ⟨_,_,_,aL _ rfl⟩,rfl,q _ (I1.hok.fresh (az _))⟩
theorem q5 (hc:X.calm=true):j0 X (.type "list") (fun xs H Q=>∃ (r:au) (j:Int),xs=[.ref r]/\H r=some (.rng 0 j)/\-(2 ^ 62)<=j/\j<=1000000/\∀ l,H l=none->Q (.ref l) (upd H l (.lst ((bG j.toNat).map fun (i:Nat)=>V.int (i:Int))))):=by
 intro pins s σ H xs us Q I r h
 obtain ⟨r',j,rfl,hr,j1,j2,q⟩:=h
 obtain ⟨u,rfl,rx⟩:=kZ r
 cases rx
 obtain ⟨t,u,v,hr'⟩:=I.hok r' _ hr
 have hs:aK=16777216:=bu
 refine call_list_range (n:=j.toNat) (I.ok.hd hc) (show IsRange s.heap r' 0 j 1 t u v from hr') (small_one (by lia) (by lia) (by lia) (by lia)) (by rw [wu];split<;>lia) (by lia) fun h' tk acc' c' kp e it=>?_
 have rv:dJ ((bG j.toNat).map fun (i:Nat)=>V.int (i:Int)) acc'.toList:=by
  have:∀ (n:Nat) (l:List ag) (lo:Nat),l.length=n->(∀ i v,l[i]?=some v->∃ t,v=eC ((lo+i:Nat):Int) t)->dJ ((vk lo n).map fun (i:Nat)=>V.int (i:Int)) l:=fun n=>by
   induction n with
   | zero=>intro l lo hl _;cases l with
     | nil=>exact .nil
     | cons _ _=>cases hl
   | succ n ih =>
     intro l lo hl hv
     cases l with
     | nil=>cases hl
     | cons x l =>
       obtain ⟨t,ht⟩:=hv 0 x rfl
       rw [mW,aD]
       refine .cons ⟨t,by simpa using ht⟩ (ih l (lo+1) (by simpa using hl) fun i v hi=>?_)
       obtain ⟨t,ht⟩:=hv (i+1) v (by simpa using hi)
       exact ⟨t,by rw [ht];congr 2;lia⟩
  rw [fS]
  refine this j.toNat acc'.toList 0 (by rw [bJ];exact it.1) fun i v hi=>?_
  obtain ⟨t,ht⟩:=it.2 i v (by rw [<- fg];exact hi)
  exact ⟨t,by rw [ht];congr 1;simp⟩
 refine ⟨.ref s.heap.objs.size,_,I.laid (t':=tk) kp (az _) (show gz X.prog X.w _ h' _ (.lst _) from ⟨by rw [af,fA];lia,acc'.toList,c',rv,by simpa using e⟩),rfl,q _ (I.hok.fresh (az _))⟩
theorem j3 {K:ae} {G:Hp}:∀ (n:Nat) (lo:Nat),cD K G (eW (lo:Int) n) ((vk lo n).map fun (i:Nat)=>V.int (i:Int))
 | 0,_=>rfl
 | n+1,lo=>by
   rw [mW,aD]
   refine ⟨_,_,rfl,rfl,?_⟩
   have:=j3 (K:=K) (G:=G) n (lo+1)
   have e:((lo+1:Nat):Int)=(lo:Int)+1:=by lia
   rw [e] at this
   exact this
theorem tf (hg:Gl X "list") (hm:X.mg "list" = none) (hg2:Gl X "range") (hm2:X.mg "range" = none) (ha:PXA X [a] g) (hc:X.calm=true:=by rfl) (hs:ao [a] X.env=[(false,bL a X.env)]:=by exact bD rfl)
 (he:ao [.Call (.Name "range" p2) [a] [] pos2] X.env=[(false,bL (.Call (.Name "range" p2) [a] [] pos2) X.env)]:=by rfl):PX X (.Call (.Name "list" p) [.Call (.Name "range" p2) [a] [] pos2] [] pos) (ke g) :=
 PE.imp (lC (q5 hc) hg hm (by decide +kernel) (e6 (nH hg2 hm2 ha hs) jx he) (by decide) (by decide) he rfl) fun σ H Q ⟨B,G,ρ,r,sg,sb,st,eq,k⟩=>by
  unfold ke at eq
  split at eq
  ·rename_i kd j ej
   split at eq
   ·rename_i hj
    cases eq
    refine ⟨B,G,ρ,_,sg,sb,st,ej,fun vs G1 H1 E1 r1=>?_⟩
    obtain ⟨v,rfl,r2⟩:=e7.one r1
    refine ⟨j,by rw [r2.int],fun rr hrr=>?_⟩
    refine ⟨rr,j,rfl,aU,hj.1,hj.2,fun l hl=>?_⟩
    have E2:=E1.trans (Ext.own (o:=.rng 0 j) E1.gh hrr)
    refine k _ G1 _ (E2.trans (Ext.own E2.gh hl)) ⟨l,_,rfl,E2.hh.free hl,E2.gh.free hl,aU,_,rfl,?_⟩
    rw [fS]
    exact j3 j.toNat 0
   ·cases eq
  ·cases eq
end
theorem Bo {X:Cx} {elt tg iter:aR} {ifs:List aR} {scope:dG} {pos:d4} {ix:List (Option Nat)} {wi:TI} {g:TG} {tt:TT} {te:TE} (hc:X.calm=true) (S:CScope X scope ix) (hi:PI X tg iter wi) (h1:∀ s H fp,PG (inC X scope s H fp) tg g) (h2:∀ s H fp,PTS (inC X scope s H fp) ifs tt) (h3:∀ s H fp,PE (inC X scope s H fp) elt te)
 (hs:∀ x,eM iter X.env x=pure x:=by intro _;rfl):PE X (.ListComp elt [⟨tg,iter,ifs,0⟩] scope pos) (zT (mpS ix) wi g tt te):=zb hc S hi ⟨h1,h2,h3⟩ hs
section
variable {X:Cx} {a b c e:aR} {es:List aR} {p pos pos':d4} {f fa fb fc:Rho->Option Rv} {g:Rho->Option (List Rv)}
theorem yj (hc:X.calm=true):j0 X (.builtin "max") (fun xs H Q=>∃ a b:Int,xs=[.int a,.int b]/\Q (.int (if a<b then b else a)) H):=by
 intro pins s σ H xs us Q I r h
 obtain ⟨a,b,rfl,q⟩:=h
 obtain ⟨u,v,rfl,⟨t,rfl⟩,⟨t',rfl⟩⟩:=Kk r
 refine PySem.max_two_ints (I.ok.hd hc) fun h' tk kp=>⟨.int (if a<b then b else a),H,I.kept kp,?_,q⟩
 by_cases z:a<b
 ·rw [if_pos z,if_pos z];exact ⟨_,rfl⟩
 ·rw [if_neg z,if_neg z];exact ⟨_,rfl⟩
theorem BM {K:ae}:Cal K (fun xs H Q=>∃ a b:Int,xs=[.int a,.int b]/\Q (.int (if a<b then b else a)) H) FO:=by
 intro B H0 G H rs c xs Q sg ra e k
 unfold FO at e
 split at e
 ·cases e
  obtain ⟨v,v',rfl,h,h'⟩:=e7.two ra
  cases h.int
  cases h'.int
  exact ⟨_,_,rfl,k _ G H (Ext.refl sg) rfl⟩
 ·cases e
theorem Fq (hc:X.calm=true) (hg:Gl X "max") (hm:X.mg "max" = none) (ha:PXA X (e::es) g) (he:ao (e::es) X.env=(false,bL e X.env)::ao es X.env:=by exact bD rfl) (hpl:(bZ pos (ao es X.env)).any (·.1)=false:=by rfl):PX X (.Call (.Name "max" p) (e::es) [] pos) (xB FO g) :=
 Dz (yj hc) BM hg hm boot_max ha (by decide) (by decide) he hpl
end
section
variable {X:Cx} {a b e:aR} {es:List aR} {p pos:d4} {fa fb:Rho->Option Rv} {g:Rho->Option (List Rv)}
noncomputable def Ex:List Rv->Option Rv
 | [(_,.dK ks _)]=>some (.pu,.int ks.length)
 | _=>none
noncomputable def xf:List Rv->Option Rv:=fun rs=>(oE rs).or (Ex rs)
theorem y9:j0 X (.builtin "len") (fun xs H Q=>∃ a kvs,xs=[V.ref a]/\Rd H a (.dK kvs)/\Q (.int kvs.length) H):=by
 intro pins s σ H xs us Q I r h
 obtain ⟨a,kvs,rfl,ha,q⟩:=h
 obtain ⟨u,rfl,ru⟩:=kZ r
 cases ru
 exact Jt I ha fun t s' I'=>⟨.int kvs.length,H,I',⟨t,rfl⟩,q⟩
theorem B0 {K:ae}:Cal K (fun xs H Q=>∃ a kvs,xs=[V.ref a]/\Rd H a (.dK kvs)/\Q (.int kvs.length) H) Ex:=by
 intro B H0 G H rs c xs Q sg ra e k
 unfold Ex at e
 split at e
 ·cases e
  obtain ⟨v,rfl,h⟩:=e7.one ra
  obtain ⟨p,kvs,rfl,q,ek,d⟩:=h.dK sg
  refine ⟨p,kvs,rfl,q,?_⟩
  have:kvs.length=(kvs.map (·.1)).length:=(af _).symm
  rw [this,ek]
  exact k _ G H (Ext.refl sg) rfl
 ·cases e
theorem ES (hg:Gl X "len") (hm:X.mg "len" = none) (ha:PXA X (e::es) g) (he:ao (e::es) X.env=(false,bL e X.env)::ao es X.env:=by exact bD rfl) (hpl:(bZ pos (ao es X.env)).any (·.1)=false:=by rfl):PX X (.Call (.Name "len" p) (e::es) [] pos) (xB xf g):=by
 intro pins s σ H Q I q
 obtain ⟨B,G,ρ,c,sg,sb,st,eq,k⟩:=q
 unfold xB at eq
 split at eq
 ·cases eq
 ·rename_i rs er
  unfold xf at eq
  cases z:oE rs with
  | some z' =>
    rw [z] at eq
    cases eq
    exact Dt hg hm ha he hpl pins s σ H Q I ⟨B,G,ρ,_,sg,sb,st,by unfold xB;rw [er];exact z,k⟩
  | none =>
    rw [z] at eq
    have:=Dz (X:=X) (p:=p) (pos:=pos) y9 B0 hg hm (by decide +kernel) ha (by decide) (by decide) he hpl
    exact this pins s σ H Q I ⟨B,G,ρ,c,sg,sb,st,by unfold xB;rw [er];exact eq,k⟩
theorem eu:∀ {ns:List Int} {us:List ag},dJ (ns.map V.int) us->fy us ns
 | [],us,r=>by rw [gO] at r;cases r;exact .nil
 | n::ns,us,r=>by
   rw [aD] at r
   cases r with
   | cons h t =>
     obtain ⟨tk,rfl⟩:=h
     exact .cons n tk (eu t)
theorem zS (hc:X.calm=true):j0 X (.builtin "sum") (fun xs H Q=>∃ (p:au) (ns:List Int),xs=[.ref p]/\SqL X.K H p (ns.map V.int)/\Q (.int ns.sum) H):=by
 intro pins s σ H xs us Q I r h
 obtain ⟨p,ns,rfl,hq,q⟩:=h
 obtain ⟨u,rfl,rx⟩:=kZ r
 cases rx
 obtain ⟨its,rv,pl,hz⟩:=I.list hq
 have hi:=eu rv
 have hh:X.A.handled=none:=I.ok.hd hc
 obtain ⟨xs,hx⟩:=hi.allInts.items
 have hl':s.heap.IsList p (lU xs):=hx▸pl.isList
 refine sum_intListG hh hl' fun h' tk t' hk=>?_
 have e1:ns=xs.toList.map (·.1):=by
  rw [<- nums_intItems,<- hx]
  exact (show numsOf its.toArray.toList=ns from hi.numsOf).symm
 have e2:preSum (xJ xs) xs.size=ns.sum:=by
  rw [preSum_eq,dI (by simp),e1]
 rw [e2]
 exact ⟨.int ns.sum,H,I.kept (t':=tk) hk,⟨t',rfl⟩,q⟩
noncomputable def zk:List Rv->Option Rv
 | [(_,.lst ds)]=>match gs ds with
   | some ns=>some (.pu,.int ns.sum)
   | none=>none
 | _=>none
theorem EZ {K:ae}:Cal K (fun xs H Q=>∃ (p:au) (ns:List Int),xs=[.ref p]/\SqL K H p (ns.map V.int)/\Q (.int ns.sum) H) zk:=by
 intro B H0 G H rs c xs Q sg ra e k
 unfold zk at e
 split at e
 ·split at e
  ·rename_i ns en
   cases e
   obtain ⟨v,rfl,h⟩:=e7.one ra
   obtain ⟨p,ys,rfl,q,d⟩:=h.lst sg
   rw [gC en] at d
   have:=cD.ints.mp d
   subst this
   exact ⟨p,ns,rfl,q,k _ G H (Ext.refl sg) rfl⟩
  ·cases e
 ·cases e
theorem IB (hc:X.calm=true) (hg:Gl X "sum") (hm:X.mg "sum" = none) (ha:PXA X (e::es) g) (he:ao (e::es) X.env=(false,bL e X.env)::ao es X.env:=by exact bD rfl) (hpl:(bZ pos (ao es X.env)).any (·.1)=false:=by rfl):PX X (.Call (.Name "sum" p) (e::es) [] pos) (xB zk g) :=
 Dz (zS hc) EZ hg hm (by decide +kernel) ha (by decide) (by decide) he hpl
noncomputable def sv (fk fv:Rho->Option Rv):Rho->Option Rv:=fun ρ=>match fk ρ,fv ρ with
 | some (_,.int i),some r=>if eG r=true then some (.fr,.dK [.inl i] [r.2]) else none
 | _,_=>none
theorem Bk (ha:PX X a fa) (hb:PX X b fb):PX X (.Dict [some a] [b] pos) (sv fa fb) :=
 PE.imp (DU (wj ha hb zl) rfl rfl (by simp) (show 1<=15 by decide)) fun σ H Q ⟨B,G,ρ,r,sg,sb,st,eq,k⟩ p hp=>by
  unfold sv at eq
  split at eq
  ·rename_i kd i rv efa efb
   split at eq
   ·rename_i hpu
    cases eq
    have E0:Ext G H G (upd H p (.dK [])):=Ext.own sg hp
    refine ⟨B,G,ρ,_,E0.gh,sb.trans E0.hh,st.ext E0,efa,fun x G1 H1 E1 r1=>⟨B,G1,ρ,_,E1.gh,(sb.trans E0.hh).trans E1.hh,(st.ext E0).ext E1,efb,fun y G2 H2 E2 r2=>?_⟩⟩
    obtain ⟨G3,E3,_,d3⟩:=r2.pure E2 hpu
    have E03:=(E0.trans E1).trans E3
    have hp2:H2 p=some (.dK []):=(E1.trans E3).hh _ _ aU
    have gp:G3 p=none:=(E1.trans E3).nw p _ aU rfl (sg.free hp)
    have ex:x=.int i:=r1.int
    subst ex
    refine ⟨hp2,[(.inl i,y)],rfl,by simp,?_⟩
    refine k _ G3 _ (E03.mut hp gp) ⟨p,_,rfl,hp,gp,aU,[(.inl i,y)],rfl,rfl,⟨y,[],rfl,d3,rfl⟩⟩
   ·cases eq
  ·cases eq
end
section
variable {X:Cx} {pins:List (au×cX)} {σ:St} {H:Hp} {s:ai} {l:au} {o:HO} {ob:cX}
theorem KU (I:Inv X pins σ H s) (e:H l=some (.frz ob o)) (n1:∀ ob u,X.H₀ l≠some (.frz ob u)):Inv X pins σ (upd H l o) s:=by
 have nn:∀ {b:au},H b=none->b≠l:=fun n z=>by rw [z,e] at n;cases n
 have ne:∀ {b:au} {w:HO},H b=some w->(∀ ob u,w≠.frz ob u)->b≠l:=fun q n z=>by rw [z,e] at q;exact n _ _ (bH q).symm
 refine ⟨I.ok,I.os,I.bare,⟨I.base.keep,I.base.slot,fun b w q n hx=>?_,I.base.there,fun b xs q=>?_,fun b w u q=>?_,fun b ps q=>?_⟩,I.loc,I.cell,?_,fun x c q=>?_,fun p hp=>?_,fun b v q=>?_,I.len⟩
 ·have z:=I.base.free b w q n hx
  rw [a8 (nn z)];exact z
 ·have z:=I.base.tups b xs q
  rw [a8 (ne z (fun _ _ y=>by cases y))];exact z
 ·have z:=I.base.frzs b w u q
  rw [a8 (fun y=>n1 w u (by rw [<- y];exact q))];exact z
 ·obtain ⟨m,z⟩:=I.base.tbls b ps q
  exact ⟨m,by rw [a8 (ne z (fun _ _ y=>by cases y))];exact z⟩
 ·rw [a8 (nn I.free)];exact I.free
 ·rw [a8 (nn (I.freeC x c q))];exact I.freeC x c q
 ·obtain ⟨a,b,c⟩:=I.pin p hp
  exact ⟨a,by rw [a8 (nn b)];exact b,c⟩
 ·have hown:∀ c y,H c=some (.own y)->upd H l o c=some (.own y):=fun c y z=>by rw [a8 (ne z (fun _ _ y=>by cases y))];exact z
  have htup:∀ c xs,H c=some (.tup xs)->upd H l o c=some (.tup xs):=fun c xs z=>by rw [a8 (ne z (fun _ _ y=>by cases y))];exact z
  have hcod:∀ c x,H c=some (.cod x)->upd H l o c=some (.cod x):=fun c x z=>by rw [a8 (ne z (fun _ _ y=>by cases y))];exact z
  by_cases hb:b=l
  ·subst hb
   rw [aU] at q
   cases q
   obtain ⟨_,ok⟩:=I.hok b _ e
   exact gz.stay ok (fun _ _ _ z=>z) (fun c z=>hown c _ z) htup hcod
  ·rw [a8 hb] at q
   exact (I.hok b v q).stay (fun _ _ _ z=>z) (fun c z=>hown c _ z) htup hcod
end
noncomputable def xq:Da->Bool
 | .non=>true
 | .bl _=>true
 | .int _=>true
 | .str _=>true
 | _=>false
theorem Fv {K:ae} {B H0 G H:Hp} {k:Kd} {d:Da} {v:V} (h:gv K B H0 G H (k,d) v) (f:xq d=true):∀ {B' H0' G' H':Hp},gv K B' H0' G' H' (.pu,d) v:=by
 intro B' H0' G' H'
 cases d with
 | non=>exact h.non
 | bl b=>exact h.bl
 | int i=>exact h.int
 | str x=>exact h.str
 | _=>cases f
noncomputable def w6 (i:Nat) (f:Rho->Option Rv):Rho->Option Rv:=fun ρ=>match ρ[i]? with
 | some (.ow d)=>if mS d=true then (match f (ρ.set i (.pu d)) with
   | some (_,r)=>if xq r=true then some (.pu,r) else none
   | none=>none) else none
 | _=>none
theorem rT {K:ae} {G G':Hp}:∀ {ds:List Da} {xs:List V},ds.all xq=true->cD K G ds xs->cD K G' ds xs
 | [],_,_,h=>h
 | d::ds,xs,f,h=>by
   rw [List.all_cons,aT] at f
   obtain ⟨v,r,rfl,hv,hr⟩:=h
   refine ⟨v,r,rfl,?_,rT f.2 hr⟩
   have f1:=f.1
   cases d with
   | non=>exact hv
   | bl b=>exact hv
   | int i=>exact hv
   | str x=>exact hv
   | _=>cases f1
noncomputable def Jk (r:Rv):Option Rv:=if xq r.2=true then some (.pu,r.2) else match r with
 | (.fr,.lst ds)=>if ds.all xq=true then some (.fr,.lst ds) else none
 | _=>none
theorem IQ {K:ae} {B H0 G H B' H0' G' H':Hp} {r r':Rv} {v:V} {l:au} (h:gv K B H0 G H r v) (e:Jk r=some r') (h0:∀ b,H0 b=none->b≠l/\H0' b=none) (hg:∀ b,G b=none->G' b=none) (hh:∀ b w,b≠l->H b=some w->H' b=some w):gv K B' H0' G' H' r' v:=by
 unfold Jk at e
 split at e
 ·rename_i hf
  cases e
  exact Fv (k:=r.1) h hf
 ·split at e
  ·rename_i ds _
   split at e
   ·rename_i hi
    cases e
    obtain ⟨a,o,rfl,n0,g,q,xs,rfl,dl⟩:=h
    obtain ⟨ne,n0'⟩:=h0 a n0
    exact ⟨a,_,rfl,n0',hg a g,hh a _ ne q,xs,rfl,rT hi dl⟩
   ·cases e
  ·cases e
noncomputable def tG (i:Nat) (f:Rho->Option Rv):Rho->Option Rv:=fun ρ=>match ρ[i]? with
 | some (.ow d)=>if mS d=true then (match f (ρ.set i (.pu d)) with
   | some r=>Jk r
   | none=>none) else none
 | _=>none
theorem zv {X:Cx} {pins:List (au×cX)} {s:ai} {σ:St} {B G H:Hp} {ρ:Rho} {i:Nat} {d:Da} (I:Inv X pins σ H s) (sg:cG G H) (sb:cG B H) (st:hZ X.K B G H σ ρ) (ed:ρ[i]?=some (.ow d)) (hd:mS d=true) :
 ∃ G1 H1,Inv X pins σ H1 s/\cG G1 H1/\cG B H1/\hZ X.K B G1 H1 σ (ρ.set i (.pu d))/\∀ (σ2:St) (s2:ai) (G2 H2:Hp) (r r':Rv) (v:V),Inv X pins σ2 H2 s2->Ext G1 H1 G2 H2->gv X.K B H1 G2 H2 r v->Jk r=some r'->∃ G3 H3,Inv X pins σ2 H3 s2/\Ext G H G3 H3/\gv X.K B H G3 H3 r' v:=by
 obtain ⟨l,o,es,nb,ng,hl,ho⟩:=st.ow i d ed
 have hi:i<ρ.length:=(aF.mp ed).1
 have hdc:=(ho.dct hd).1
 obtain ⟨ob,I1⟩:=Cv I hl hdc
 have n1:∀ ob u,X.H₀ l≠some (.frz ob u):=fun ob u z=>by
  have:=I.base.frzs l ob u z
  rw [hl] at this
  rcases hdc with ⟨_,y⟩ | ⟨_,y⟩<;>(subst y;cases this)
 have sG:cG G (upd G l (.frz ob o)):=cj ng
 have st1:hZ X.K B (upd G l (.frz ob o)) (upd H l (.frz ob o)) σ (ρ.set i (.pu d)):=by
  refine ⟨by rw [bP];exact st.len,fun j d1 q=>?_,fun j d1 q=>?_,fun j j' d1 d2 l' hjj q1 q2 s1 s2=>?_,st.tg.mono sG⟩
  ·by_cases ej:i=j
   ·subst ej
    rw [aV hi] at q
    cases q
    exact ⟨_,es,((ho.mono sG).dct hd).2 l ob aU⟩
   ·rw [aX ej] at q
    obtain ⟨v,a,b⟩:=st.pu j d1 q
    exact ⟨v,a,Den.mono sG d1 b⟩
  ·by_cases ej:i=j
   ·subst ej;rw [aV hi] at q;cases q
   ·rw [aX ej] at q
    obtain ⟨l0,o0,a,b,c',f0,g0⟩:=st.ow j d1 q
    have ne:l0≠l:=fun z=>by subst z;exact st.ap i j d d1 l0 ej ed q es a
    exact ⟨l0,o0,a,b,by rw [a8 ne];exact c',by rw [a8 ne];exact f0,g0.mono sG⟩
  ·have back:∀ (m:Nat) (d0:Da),(ρ.set i (.pu d))[m]?=some (Sl.ow d0)->ρ[m]?=some (Sl.ow d0):=fun m d0 q=>by
    by_cases em:i=m
    ·subst em;rw [aV hi] at q;cases q
    ·rw [aX em] at q;exact q
   exact st.ap j j' d1 d2 l' hjj (back _ _ q1) (back _ _ q2) s1 s2
 refine ⟨_,_,I1,jZ sg,kf sb nb,st1,fun σ2 s2 G2 H2 r r' v I2 E2 r2 eq=>?_⟩
 have hl2:H2 l=some (.frz ob o):=E2.hh _ _ aU
 refine ⟨fun b=>if b=l then none else G2 b,_,KU I2 hl2 n1,⟨fun b w z=>?_,fun b w z=>?_,fun b w z=>?_,fun b w z t y=>?_⟩,IQ (l:=l) r2 eq (fun b z=>?_) (fun b z=>?_) fun b w hb z=>?_⟩
 ·by_cases hb:b=l
  ·subst hb;rw [aU,<- z];exact hl.symm
  ·rw [a8 hb];exact E2.hh b w (by rw [a8 hb];exact z)
 ·have hb:b≠l:=bV z ng
  show (if b=l then none else G2 b)=some w
  rw [if_neg hb]
  exact E2.gg b w (by rw [a8 hb];exact z)
 ·have z:(if b=l then none else G2 b)=some w:=z
  by_cases hb:b=l
  ·rw [if_pos hb] at z;cases z
  ·rw [if_neg hb] at z
   rw [a8 hb]
   exact E2.gh b w z
 ·show (if b=l then none else G2 b)=none
  by_cases hb:b=l
  ·rw [if_pos hb]
  ·rw [if_neg hb]
   exact E2.nw b w (by rw [a8 hb];exact z) t (by rw [a8 hb];exact y)
 ·have hb:b≠l:=fun y=>by subst y;rw [aU] at z;cases z
  rw [a8 hb] at z
  exact ⟨hb,z⟩
 ·show (if b=l then none else G2 b)=none
  split
  ·rfl
  ·exact z
 ·rw [a8 hb]
  exact z
theorem vH (i:Nat) {X:Cx} {e:aR} {f:Rho->Option Rv} (h:PX X e f):PX X e (tG i f):=by
 intro pins s σ H Q I ⟨B,G,ρ,r,sg,sb,st,eq,k⟩
 unfold tG at eq
 split at eq
 ·rename_i d ed
  split at eq
  case isFalse=>cases eq
  case isTrue hd =>
  split at eq
  ·rename_i rr efr
   obtain ⟨G1,H1,I1,sg1,sb1,st1,back⟩:=zv I sg sb st ed hd
   refine thn (h pins s σ _ (fun v H2=>∃ G2,Ext G1 H1 G2 H2/\gv X.K B H1 G2 H2 rr v) I1 ⟨B,_,_,_,sg1,sb1,st1,efr,fun v G2 H2 E2 r2=>⟨G2,E2,r2⟩⟩) fun u s' ⟨v,H2,I2,ru,G2,E2,r2⟩=>?_
   obtain ⟨G3,H3,I3,E3,r3⟩:=back σ s' G2 H2 rr r v I2 E2 r2 eq
   exact ⟨v,H3,I3,ru,k v G3 H3 E3 r3⟩
  ·cases eq
 ·cases eq
theorem PX.le {X:Cx} {e:aR} {f g:Rho->Option Rv} (h:PX X e f) (hl:∀ ρ r,g ρ=some r->f ρ=some r):PX X e g :=
 fun pins s σ H Q I ⟨B,G,ρ,r,sg,sb,st,eq,k⟩=>h pins s σ H Q I ⟨B,G,ρ,r,sg,sb,st,hl ρ r eq,k⟩
theorem Er (i:Nat) {X:Cx} {e:aR} {f:Rho->Option Rv} (h:PX X e f):PX X e (w6 i f):=(vH i h).le fun ρ r eq=>by
 unfold w6 at eq
 unfold tG
 split at eq
 ·split at eq
  case isFalse=>cases eq
  case isTrue hd =>
  split at eq
  ·rename_i efr
   split at eq
   ·rename_i hfl
    cases eq
    rw [if_pos hd,efr]
    exact if_pos hfl
   ·cases eq
  ·cases eq
 ·cases eq
section
variable {O:eZ} {key:Nat->O.α} {n:Nat}
noncomputable def Ht (O:eZ) (key:Nat->O.α) {α:Type}:p5 α->α
 | .ret a=>a
 | .ask i j k=>Ht O key (k (O.blt (key i) (key j)))
theorem eE.det {α:Type} {Q:α->Prop}:∀ {t:p5 α},eE O key n t Q->eE O key n t (fun a=>Q a/\a=Ht O key t)
 | .ret _,q=>⟨q,rfl⟩
 | .ask i j k,q=>⟨q.1,q.2.1,eE.det (t:=k (O.blt (key i) (key j))) q.2.2⟩
theorem eE.run {α:Type} {Q:α->Prop}:∀ {t:p5 α},eE O key n t Q->Q (Ht O key t)
 | .ret _,q=>q
 | .ask i j k,q=>eE.run (t:=k (O.blt (key i) (key j))) q.2.2
noncomputable def mF (O:eZ) (d:O.α) (ks:List O.α):List Nat:=if ks.length<2 then bG ks.length else (Ht O (fun i=>ks.getD i d) (lV ks.length)).toList
theorem jT (O:eZ) (d:O.α) (ks:List O.α):(mF O d ks).Perm (bG ks.length)/\((mF O d ks).map fun i=>ks.getD i d).Pairwise O.kle:=by
 unfold mF
 split
 ·rename_i h
  refine ⟨.refl _,?_⟩
  match ks,h with
  | [],_=>exact .nil
  | [a],_=>exact bg _ _
  | _::_::_,h=>simp at h;lia
 ·rename_i h
  obtain ⟨hp,hu⟩:=eE.run (O:=O) (key:=fun i=>ks.getD i d) (n:=ks.length) (uO (Q:=fun p=>fN ks.length p/\qk O (fun i=>ks.getD i d) p ks.length) (by lia) fun p hp hu=>⟨hp,hu⟩)
  exact ⟨by simpa using cB.mp hp.perm,kW hp d hu⟩
theorem vL (O:eZ) (d:O.α) (ks:List O.α):(mF O d ks).length=ks.length:=by rw [(jT O d ks).1.length_eq,fA]
theorem qJ {O:eZ} {d:O.α} {ks:List O.α} {i:Nat} (h:i∈mF O d ks):i<ks.length:=by simpa using (jT O d ks).1.mem_iff.mp h
end
section
variable {prog:bh} {w:bT} {A:bE} {s:ai}
theorem oV {r:au} {j:Int} {t u v:xS} (hh:A.handled=none) (hr:IsRange s.heap r 0 j 1 t u v) (j1 : -(2 ^ 62)<=j) (j2:j<=1000000) :
 ∀ (E:ag->ai->Prop) (R:List ag->ai->Prop),(∀ h' tk acc,(∀ b o,s.heap.get? b=some o->h'.get? b=some o)->ItemsOf (fun i v=>∃ t,v=.int (0+i*1) t) acc j.toNat->R acc.toList { s with heap:=h',toks:=tk })->aN (aZ prog w) A (tU (.ref r)) R E s:=by
 intro E R h
 have hsz:aK=16777216:=bu
 unfold tU
 refine ac (wpAny_runValue (dL Bg ?_))
 rw [dg PySem.F.plain_proto_collect _]
 show aN _ A.in1 (newList []>>=fun l=>again (.builtin "list.__iadd__" ⟨[l,.ref r],[]⟩)) _ _ s
 refine ac (cA ?_)
 refine aq ⟨fT pd _,dL entry_list_iadd' ?_⟩
 rw [dg pd _]
 have hS₁:(s.heap.push { cls:=.type "list",data:=.seq ([]:List ag).toArray }).get? s.heap.objs.size=some { cls:=.type "list",data:=.seq #[] }:=aL _ rfl
 show aN _ A.in1 (g5 (.ref s.heap.objs.size) (.ref r) (.ref s.heap.objs.size)) _ _ _
 have key:=wpAny_extend_range (prog:=prog) (w:=w) (A:=A) (s:={ s with heap:=s.heap.push { cls:=.type "list",data:=.seq ([]:List ag).toArray } })
  (R:=fun (q:xT) (s':ai)=>∃ (h':b9) (tk:Nat) (acc':Array ag) (c':Nat),q=.ok (.ret (.ref s.heap.objs.size))/\s'={ s with heap:=h',toks:=tk } /\
    (∀ b o,s.heap.get? b=some o->h'.get? b=some o)/\h'.get? s.heap.objs.size=some { cls:=.type "list",dict:=none,data:=.seq acc' c',slots:=#[] }/\ItemsOf (fun i v=>∃ t,v=.int (0+i*1) t) acc' j.toNat)
  (n:=j.toNat) hh (ah _ hr) (small_one (by lia) (by lia) (by lia) (by lia)) (by rw [wu];split<;>lia) (by lia) s.heap.objs.size (.ref s.heap.objs.size) 0 hS₁
  (fun h' tk acc' c' hk hS' hacc=>⟨h',tk,acc',c',rfl,rfl,fun b o e=>hk b o (be (aG e)) (ah _ e),hS',hacc⟩)
 refine dm key (fun fin s' x=>?_) fun e s' x=>?_
 ·cases fin with
  | done f =>
    obtain ⟨h',tk,acc',c',e,rfl,hk,hS',hacc⟩:=x
    cases e
    show aN _ A (load s.heap.objs.size>>=_) _ _ _
    refine ac (m9 hS' ?_)
    exact aq (h h' tk acc' hk hacc)
  | again c₁ =>
    refine ⟨x.1,oH x.2 fun q s₂ y=>?_⟩
    obtain ⟨h',tk,acc',c',rfl,rfl,hk,hS',hacc⟩:=y
    show aN _ A (load s.heap.objs.size>>=_) _ _ _
    refine ac (m9 hS' ?_)
    exact aq (h h' tk acc' hk hacc)
 ·obtain ⟨_,_,_,_,e',_⟩:=x
  cases e'
end
section
variable {X:Cx} {pins:List (au×cX)} {σ:St} {H:Hp} {s:ai}
theorem _root_.L2.Inv.pinNew {o:cX} {p:au} {h':b9} {t':Nat} (I:Inv X pins σ H s) (k:∀ b u,s.heap.get? b=some u->h'.get? b=some u) (hp:s.heap.objs.size<=p) (ho:h'.get? p=some o) (hd:∀ v,o.data≠.cell v) :
 Inv X ((p,o)::pins) σ H { s with heap:=h',toks:=t' }:=by
 have I':=I.kept (t':=t') k
 refine I'.pins_of fun q hq=>?_
 rcases aE.mp hq with rfl | hq
 ·refine ⟨ho,I.hok.fresh hp,?_,I.nofs hp,hd⟩
  intro z
  have z:p=X.env.locals:=z
  exact absurd (a7 (z▸I.lt) hp) (cb _)
 ·exact I'.pin q (aW _ hq)
theorem _root_.L2.Inv.pinSet {o o':cX} {p:au} {h':b9} {t':Nat} (I:Inv X ((p,o)::pins) σ H s) (k:∀ b u,b≠p->s.heap.get? b=some u->h'.get? b=some u) (ho:h'.get? p=some o') (hd:∀ v,o'.data≠.cell v) (h0:X.s₀.heap.objs.size<=p) (hne:∀ q∈X.pn++pins,q.1≠p) :
 Inv X ((p,o')::pins) σ H { s with heap:=h',toks:=t' }:=by
 obtain ⟨e,n,nl,nf,nc⟩:=I.pin (p,o) (aW _ am)
 have I1:Inv X pins σ H s:=I.pins_of fun q hq=>I.pin q (aW _ (al _ hq))
 have I2:=I1.turned (t':=t') k n nl (.inr h0) (fun x c hc z=>by
  obtain ⟨v,oc,hoc,hdc⟩:=I.cell x c hc
  rw [z] at hoc
  dsimp only at e
  rw [e] at hoc
  cases hoc
  exact nc v hdc) hne
 refine I2.pins_of fun q hq=>?_
 rcases aE.mp hq with rfl | hq
 ·exact ⟨ho,n,nl,nf,hd⟩
 ·exact I2.pin q (aW _ hq)
theorem _root_.L2.Inv.adopt {o:cX} {p:au} {u:HO} (I:Inv X ((p,o)::pins) σ H s) (h0:X.s₀.heap.objs.size<=p) (hne:∀ q∈X.pn++pins,q.1≠p) (new:gz X.prog X.w (upd H p u) s.heap p u):Inv X pins σ (upd H p u) s:=by
 obtain ⟨e,n,nl,nf,nc⟩:=I.pin (p,o) (aW _ am)
 dsimp only at e n nl nf nc
 have nb:∀ b w,X.s₀.heap.get? b=some w->b≠p:=fun b w q=>be (a7 (aG q) h0)
 have cne:∀ x c,X.env.cells.lookup x=some c->c≠p:=fun x c hc z=>by
  obtain ⟨v,oc,hoc,hdc⟩:=I.cell x c hc
  rw [z,e] at hoc
  cases hoc
  exact nc v hdc
 have up:∀ {b:au} {w:HO},H b=some w->upd H p u b=some w:=fun {b w} q=>by rw [a8 (bV q n)];exact q
 refine ⟨I.ok,I.os,I.bare,⟨I.base.keep,I.base.slot,fun b w q z hx=>?_,I.base.there,fun b xs q=>up (I.base.tups b xs q),fun b w q z=>up (I.base.frzs b w q z),fun b ps q=>?_⟩,I.loc,I.cell,?_,fun x c hc=>?_,fun q hq=>?_,fun b w q=>?_,I.len⟩
 ·rw [a8 (nb b w q)];exact I.base.free b w q z hx
 ·obtain ⟨m,z⟩:=I.base.tbls b ps q
  exact ⟨m,up z⟩
 ·rw [a8 (Ne.symm nl)];exact I.free
 ·rw [a8 (cne x c hc)];exact I.freeC x c hc
 ·obtain ⟨a1,a2,a3⟩:=I.pin q (by
   rcases aA.mp hq with z | z
   ·exact cQ _ z
   ·exact aW _ (al _ z))
  exact ⟨a1,by rw [a8 (hne q hq)];exact a2,a3⟩
 ·by_cases hb:b=p
  ·subst hb;rw [aU] at q;cases q;exact new
  ·rw [a8 hb] at q
   exact (I.hok b w q).stay (fun _ _ _ z=>z) (fun c z=>up z) (fun c xs z=>up z) fun c x z=>up z
end
noncomputable def CJ (X:Cx) (A:bE) (f:ag) (σ:St) (G0 H0:Hp) (lam:Da->Option Da):Prop :=
 ∀ (pins:List (au×cX)) (s:ai) (G H:Hp) (d r:Da) (v:V) (u:ag),Ext G0 H0 G H->Inv X pins σ H s->Den X.K G d v->fZ v u->lam d=some r ->
   aN (aZ X.prog X.w) A (call f [u]) (fun u' s'=>∃ v' G' H',Inv X pins σ H' s'/\fZ v' u'/\Ext G H G' H'/\Den X.K G' r v') (fun _ _=>False) s
noncomputable def A6 (lam:Da->Option Da):List Da->Option (List Da)
 | []=>some []
 | d::ds=>match lam d with
   | none=>none
   | some r=>match A6 lam ds with
     | none=>none
     | some rs=>some (r::rs)
theorem vA {lam:Da->Option Da}:∀ {ds kd:List Da} {j:Nat} {d:Da},A6 lam ds=some kd->ds[j]?=some d->∃ r,lam d=some r/\kd[j]?=some r
 | [],_,_,_,_,e=>by simp at e
 | d::ds,kd,j,x,h,e=>by
   unfold A6 at h
   split at h
   ·cases h
   ·rename_i r er
    split at h
    ·cases h
    ·rename_i rs ers
     cases h
     cases j with
     | zero=>simp at e;subst e;exact ⟨r,er,rfl⟩
     | succ j=>simpa using vA (j:=j) ers (by simpa using e)
theorem lK {lam:Da->Option Da}:∀ {ds kd:List Da},A6 lam ds=some kd->kd.length=ds.length
 | [],_,h=>by cases h;rfl
 | d::ds,kd,h=>by
   unfold A6 at h
   split at h
   ·cases h
   ·split at h
    ·cases h
    ·rename_i rs ers
     cases h
     rw [aJ,aJ,lK ers]
noncomputable def vG (prog:bh) (w:bT) (A:bE) (s:ai) (us:List ag) (O:eZ) (κ:ib) (key:Nat->O.α):Prop :=
 (2<=us.length->∀ Q:ib->ai->Prop,Q κ s->aN (aZ prog w) A (Bf us.toArray) Q (fun _ _=>False) s) /\
 ∀ i j (C:Bool->ai->Prop),i<us.length->j<us.length->C (O.blt (key i) (key j)) s->ic prog w A κ us i j C s
theorem zJ {O:eZ} {d:O.α} {ks:List O.α} {p:List Nat} (hn:ks.Nodup) (hp:p.Perm (bG ks.length)) (hs:(p.map fun i=>ks.getD i d).Pairwise O.kle):p=mF O d ks:=by
 obtain ⟨h1,h2⟩:=jT O d ks
 have e:(p.map fun i=>ks.getD i d)=(mF O d ks).map fun i=>ks.getD i d:=fL ((hp.trans h1.symm).map _) hs h2
 have inj:∀ i j,i<ks.length->j<ks.length->ks.getD i d=ks.getD j d->i=j:=fun i j hi hj e=>by
  rw [aB,aj hi,aB,aj hj] at e
  exact (hV hn).mp e
 have go:∀ (p q:List Nat),(∀ i∈p,i<ks.length)->(∀ i∈q,i<ks.length)->(p.map fun i=>ks.getD i d)=(q.map fun i=>ks.getD i d)->p=q:=fun p=>by
  induction p with
  | nil=>intro q _ _ e;cases q with
    | nil=>rfl
    | cons _ _=>cases e
  | cons i p ih=>intro q hp hq e;cases q with
    | nil=>cases e
    | cons j q =>
      rw [aD,aD] at e
      injection e with e1 e2
      rw [inj i j (hp i am) (hq j am) e1,ih q (fun i hi=>hp i (al _ hi)) (fun i hi=>hq i (al _ hi)) e2]
 exact go _ _ (fun i hi=>by simpa using hp.mem_iff.mp hi) (fun i hi=>qJ hi) e
section
variable {prog:bh} {w:bT} {A:bE} {E:ag->ai->Prop} {s:ai} {O:eZ} {κ:ib} {d:O.α} {kl:List O.α} {ks vs:List ag}
theorem Ax (hl:ks.length=vs.length) (h2:2<=vs.length) (hk:kl.length=vs.length) (h64:OkN kl)
 (lt:∀ i j (C:Bool->ai->Prop),i<vs.length->j<vs.length->C (O.blt (kl.getD i d) (kl.getD j d)) s->ic prog w A κ ks i j C s) :
 aN (aZ prog w) A ((sortRuns').run (oy κ (ks.toArray.zip vs.toArray) #[] 7 none)) (fun r s'=>s'=s/\∃ p:Array Nat,Bb r.2=p.map (wH (ks.toArray.zip vs.toArray))/\t7 r.2=none/\p.toList=mF O d kl) E s:=by
 by_cases hs:vs.length<64
 ·have ask:(lV vs.length).kasWp (ic prog w A κ ks) (fun p s'=>s'=s/\p=Ht O (fun i=>kl.getD i d) (lV vs.length)) s :=
   eE.wp (O:=O) (key:=fun i=>kl.getD i d) (n:=vs.length) lt (eE.mono (fun p hp=>⟨rfl,hp.2⟩) (eE.det (uO (Q:=fun p=>fN vs.length p/\qk O (fun i=>kl.getD i d) p vs.length) (by lia) fun p hp hu=>⟨hp,hu⟩)))
  refine PySem.W.kat_run (Q:=fun st' s'=>s'=s/\∃ p:Array Nat,Bb st'=p.map (wH (ks.toArray.zip vs.toArray))/\t7 st'=none/\p.toList=mF O d kl) hl h2 hs (fun p st' s' _ a b c=>⟨c.1,p,a,b,?_⟩) ask
  rw [c.2]
  unfold mF
  rw [if_neg (by lia),hk]
 ·have h127:=h64.resolve_left (by lia)
  refine dm (wt (O:=O) (key:=fun i=>kl.getD i d) hl h2 (by rw [<- hk];exact h64.inj d) lt) ?_ fun _ _ e=>e
  rintro r s' ⟨h1,p,h2,h3,h4,h5⟩
  refine ⟨h1,p,h2,h3,zJ h127.2 ?_ ?_⟩
  ·rw [hk]
   simpa using cB.mp h4.perm
  ·exact kW h4 d h5
end
section
variable {X:Cx} {pins:List (au×cX)} {σ:St} {H:Hp} {s:ai} {A:bE} {E:ag->ai->Prop} {P:PySem.Fin->ai->Prop}
theorem _root_.L2.Inv.pinsSub {pins':List (au×cX)} (I:Inv X pins σ H s) (h:∀ q∈pins',q∈pins):Inv X pins' σ H s:=I.pins_of fun q hq=>I.pin q (aW _ (h q hq))
theorem _root_.L2.Inv.pinGet {p:au} {o:cX} (I:Inv X ((p,o)::pins) σ H s):s.heap.get? p=some o:=(I.pin (p,o) (aW _ am)).1
theorem io {c:String} {xs:Array ag} {n:Nat}:∀ v,(bR c xs n).data≠.cell v:=fun v z=>by cases z
theorem GP {a kS:au} {kA:Array ag} {e e1:Nat} {st:SortSt} {out:List ag} (I:Inv X ((kS,bR "list" kA e)::(a,bR "list" #[] e1)::pins) σ H s) (h0k:X.s₀.heap.objs.size<=kS) (h0:X.s₀.heap.objs.size<=a) (hnk:∀ q∈X.pn++((a,bR "list" #[] e1)::pins),q.1≠kS) (hne:∀ q∈X.pn++pins,q.1≠a)
 (hka:kA.size<=63) (hout:(Bb st).map (·.2)=out.toArray) (hol:out.length<=63) (hfl:t7 st=none)
 (fin:∀ s' c,Inv X ((a,bR "list" out.toArray c)::pins) σ H s'->P (.done (.ret .none)) s'):aN (aZ X.prog X.w) A (ksk_tail a false e1 (.ref kS) st) P E s:=by
 have sz:aK=16777216:=bu
 have s1:=d9 s.heap kS (bQ fun _=>(#[]:Array ag))
 obtain ⟨c1,hc1⟩:∃ c1,(s.heap.update kS (bQ fun _=>(#[]:Array ag))).get? kS=some (bR "list" #[] c1):=⟨_,fJ I.pinGet fun _=>#[]⟩
 have I1:=I.pinSet (t':=s.toks) (fun b u hb e=>(s1.2 b hb).trans e) hc1 io h0k hnk
 have I2:Inv X ((a,bR "list" #[] e1)::pins) σ H _:=I1.pinsSub fun q hq=>al _ hq
 unfold ksk_tail
 try dsimp only
 refine ac (fR I.pinGet rfl ?_ (by lia) (bW _))
 refine ac (lW ?_)
 refine ac (lR I2.pinGet rfl ?_)
 refine ac (fR I2.pinGet rfl ?_ (bW _) ?_)
 ·rw [hfl]
  simp only [bne_self_eq_false,dO,if_false]
  rw [hout]
  have s2:=d9 (s.heap.update kS (bQ fun _=>(#[]:Array ag))) a (bQ fun _=>out.toArray)
  obtain ⟨c2,hc2⟩:∃ c2,((s.heap.update kS (bQ fun _=>(#[]:Array ag))).update a (bQ fun _=>out.toArray)).get? a=some (bR "list" out.toArray c2):=⟨_,fJ I2.pinGet fun _=>out.toArray⟩
  exact aq (fin _ c2 (I2.pinSet (t':=s.toks) (fun b u hb e=>(s2.2 b hb).trans e) hc2 io h0 hne))
 ·show (if false=true then _ else (Bb st).map (·.2)).size<=_
  rw [if_neg aM,hout,ax]
  lia
theorem yU {G0 H0 G:Hp} {a:au} {n:Nat} {vs:List ag} {xs:List V} {ds kd:List Da} {f:ag} {lam:Da->Option Da} {O:eZ} {κ:ib} {d0:O.α} {ks:List O.α}
 (I:Inv X ((a,bR "list" vs.toArray n)::pins) σ H s) (E0:Ext G0 H0 G H) (h0:X.s₀.heap.objs.size<=a) (hne:∀ q∈X.pn++pins,q.1≠a) (L:CJ X A f σ G0 H0 lam)
 (dl:cD X.K G ds xs) (rv:dJ xs vs) (hk:A6 lam ds=some kd) (h64:OkN ks) (hks:ks.length=kd.length)
 (cmp:∀ (s':ai) (G' H':Hp) (pins':List (au×cX)) (kvs:List V) (us:List ag),Inv X pins' σ H' s'->cG G' H'->cD X.K G' kd kvs->dJ kvs us->vG X.prog X.w A s' us O κ (fun i=>ks.getD i d0))
 (fin:∀ (s':ai) (G' H':Hp) (c:Nat),Ext G H G' H'->Inv X ((a,bR "list" ((mF O d0 ks).map fun i=>vs.getD i bq).toArray c)::pins) σ H' s'->P (.done (.ret .none)) s') :
 aN (aZ X.prog X.w) A (ksk_tree a f false) P E s:=by
 have sz:aK=16777216:=bu
 have hlx:xs.length=vs.length:=rv.length
 have hld:xs.length=ds.length:=dl.length
 have hlk:kd.length=ds.length:=lK hk
 have h127:vs.length<=63:=by rcases h64 with h | h<;>lia
 have pa:=I.pinGet
 have ha:a<s.heap.objs.size:=aG pa
 have s1:=d9 s.heap a (bQ fun _=>(#[]:Array ag))
 obtain ⟨e1,ho1⟩:∃ e1,(s.heap.update a (bQ fun _=>(#[]:Array ag))).get? a=some (bR "list" #[] e1):=⟨_,fJ pa fun _=>#[]⟩
 have I1:=I.pinSet (t':=s.toks) (fun b u hb e=>(s1.2 b hb).trans e) ho1 io h0 hne
 unfold ksk_tree
 refine ac (iU pa rfl ?_)
 refine ac (fR pa rfl ?_ (by rw [ax];lia) (bW _))
 refine ac (lR ho1 rfl ?_)
 refine ac (wpAny_newTuple ?_ (by show vs.length<=_;lia))
 refine ac (jK ?_ (bW _))
 refine cN ?_
 show aN (aZ X.prog X.w) A (ksk_rest a f false vs.toArray e1 (.ref ((s.heap.update a (bQ fun _=>(#[]:Array ag))).push (bR "tuple" vs.toArray 0)).objs.size)) P E { s with heap:=((s.heap.update a (bQ fun _=>(#[]:Array ag))).push (bR "tuple" vs.toArray 0)).push (bR "list" #[] 0) }
 have hkS:((s.heap.update a (bQ fun _=>(#[]:Array ag))).push (bR "tuple" vs.toArray 0)).objs.size=s.heap.objs.size+1:=by rw [size_push',mX]
 have I3:Inv X ((((s.heap.update a (bQ fun _=>(#[]:Array ag))).push (bR "tuple" vs.toArray 0)).objs.size,bR "list" #[] 0)::(a,bR "list" #[] e1)::pins) σ H { s with heap:=((s.heap.update a (bQ fun _=>(#[]:Array ag))).push (bR "tuple" vs.toArray 0)).push (bR "list" #[] 0) } :=
  I1.pinNew (t':=s.toks) (fun b u e=>ah _ (ah _ e)) (by rw [hkS];show (s.heap.update a _).objs.size<=_;rw [mX];lia) (aL _ rfl) io
 generalize hkg:((s.heap.update a (bQ fun _=>(#[]:Array ag))).push (bR "tuple" vs.toArray 0)).objs.size=kS at I3 ⊢
 generalize hsg:({ s with heap:=((s.heap.update a (bQ fun _=>(#[]:Array ag))).push (bR "tuple" vs.toArray 0)).push (bR "list" #[] 0) }:ai)=sk at I3 ⊢
 have hkl:kS=s.heap.objs.size+1:=by rw [<- hkg];exact hkS
 have h0k:X.s₀.heap.objs.size<=kS:=by have:=I.sz;lia
 have hnk:∀ q∈X.pn++((a,bR "list" #[] e1)::pins),q.1≠kS:=fun q hq z=>by
  have:=aG (I1.pin q hq).1
  have this:q.1<(s.heap.update a (bQ fun _=>(#[]:Array ag))).objs.size:=this
  rw [mX] at this
  rw [z,hkl] at this
  exact absurd this (Nat.not_lt.mpr (Nat.le_succ _))
 unfold ksk_rest
 refine ac (t8 ?_)
 first
  | rw [List.forIn_toArray]
  | (rw [<- wI];simp only [List.toList_toArray])
  | rw [<- wI]
 refine ac (ksk_fold (fun i s'=>∃ Gi Hi kvs kA e,Ext G H Gi Hi/\Inv X ((kS,bR "list" kA e)::(a,bR "list" #[] e1)::pins) σ Hi s'/\cD X.K Gi (kd.take i) kvs/\dJ kvs kA.toList) vs 0 sk
  ⟨G,H,[],#[],0,Ext.refl E0.gh,I3,by simpa using (show cD X.K G [] [] from rfl),.nil⟩ ?step ?done)
 case step =>
  rintro j x s' hx ⟨Gi,Hi,kvs,kA,e,Ei,Ii,dk,rk⟩
  simp only [ua] at dk ⊢
  have hj:j<vs.length:=(aF.mp hx).1
  have hxj:xs[j]?=some (xs[j]'(by lia)):=aj (by lia)
  obtain ⟨u,hu,ru⟩:=rv.get hxj
  have:u=x:=by rw [hx] at hu;exact (bH hu).symm
  subst this
  obtain ⟨d,hd,dd⟩:=dl.of_get hxj
  obtain ⟨r,hr,hkj⟩:=vA hk hd
  have hz:kA.size<=vs.length:=by
   have h1:kvs.length=kA.toList.length:=rk.length
   have h2:kvs.length=(kd.take j).length:=dk.length
   have h3:kA.toList.length=kA.size:=bJ
   rw [f7] at h2
   rw [<- h3,<- h1,h2]
   exact bO (Nat.min_le_left _ _) (iB hj)
  refine ac (wB (dm (L _ s' Gi Hi d r _ u (E0.trans Ei) Ii (Den.mono Ei.gg d dd) ru hr) (fun u' s'' he=>?_) fun _ _ hF=>hF.elim))
  obtain ⟨v',G',H',I',r',E',d'⟩:=he
  try dsimp only
  have nk:=I'.pinGet
  have s2:=d9 s''.heap kS (bQ (·.push u'))
  obtain ⟨c2,hc2⟩:∃ c2,(s''.heap.update kS (bQ (·.push u'))).get? kS=some (bR "list" (kA.push u') c2):=⟨_,fJ nk (·.push u')⟩
  refine ac (fR nk rfl ?_ (by lia) (bO (jI (Array.size_push ..)) (by lia)))
  refine aq ⟨rfl,G',H',kvs++[v'],kA.push u',c2,Ei.trans E',I'.pinSet (t':=s''.toks) (fun b w hb e=>(s2.2 b hb).trans e) hc2 io h0k hnk,?_,?_⟩
  ·have ek:kd.take (j+1)=kd.take j++[r]:=by rw [List.take_add_one,hkj];simp
   rw [ek]
   exact cD.append (cD.mono E'.gg _ dk) (cD.one d')
  ·rw [show (kA.push u').toList=kA.toList++[u'] by simp]
   exact rk.append (.cons r' .nil)
 case done =>
  rintro s' ⟨Gi,Hi,kvs,kA,e,Ei,Ii,dk,rk⟩
  have dk':cD X.K Gi kd kvs:=by
   have e3:kd.take (0+vs.length)=kd:=dI (by lia)
   rw [e3] at dk
   exact dk
  have hkA:kA.toList.length=vs.length:=by rw [<- rk.length,dk'.length];lia
  have hksl:ks.length=vs.length:=by lia
  obtain ⟨c1,c2⟩:=cmp s' Gi Hi _ kvs kA.toList Ii Ei.gh dk' rk
  try dsimp only
  refine ac (iU Ii.pinGet rfl ?_)
  unfold ksk_end
  try dsimp only
  rw [if_neg aM]
  have ekA:kA=kA.toList.toArray:=by simp
  have hka:kA.size<=63:=by rw [bJ] at hkA;lia
  have hpl:((mF O d0 ks).map fun i=>vs.getD i bq).length<=63:=by rw [af,vL];lia
  by_cases h2:vs.toArray.size<2
  ·rw [if_pos h2,if_pos h2]
   refine ac (aq ?_)
   rw [xZ]
   refine ac (aq ?_)
   try dsimp only
   rw [if_neg aM]
   refine GP (st:=oy general' (kA.zip vs.toArray) #[] 7 none) (out:=(mF O d0 ks).map fun i=>vs.getD i bq) Ii h0k h0 hnk hne hka ?_ hpl rfl fun s'' c I'=>fin s'' Gi Hi c Ei I'
   show (kA.zip vs.toArray).map (·.2)=_
   rw [ax] at h2
   have hp:mF O d0 ks=bG vs.length:=by unfold mF;rw [if_pos (by lia),hksl]
   rw [hp]
   apply Array.toList_inj.mp
   rw [Array.toList_map,ksk_zip,AZ (by lia)]
   apply jt
   ·simp
   ·intro i h1 h2;simp [h1]
  ·rw [if_neg h2,if_neg h2]
   rw [ax] at h2
   have c1':=c1 (by lia)
   rw [kn] at c1'
   refine ac (dm (c1' _ ?_) (fun _ _ x=>x) fun _ _ x=>x.elim)
   rw [if_neg aM]
   have run:=Ax (E:=E) (ks:=kA.toList) (vs:=vs) (A:=A) (κ:=κ) (w:=X.w) (prog:=X.prog) hkA (by lia) hksl h64 fun i j C hi hj hc=>c2 i j C (by lia) (by lia) hc
   rw [kn] at run
   refine ac (dm run ?_ fun _ _ e=>e)
   rintro ⟨⟨⟩,st'⟩ s'' ⟨rfl,p,har,hf,hp⟩
   try dsimp only
   refine GP (out:=(mF O d0 ks).map fun i=>vs.getD i bq) Ii h0k h0 hnk hne hka ?_ hpl hf fun s'' c I'=>fin s'' Gi Hi c Ei I'
   have hsn:=wC (ks:=kA.toList) (vs:=vs) hkA (st:=st') (p:=p) (by rw [kn];exact har)
   rw [hsn,hp]
end
theorem Au {H:Hp} {q:bv}:∀ {l:List ag},wW H q l->TriplesOk l:=fun {l} t=>by
 fun_induction wW H q l with
 | case1=>trivial
 | case2 _ _ _ _ c r ih=>exact ih t.2
 | case3=>exact t.elim
theorem xh {H:Hp} {q:bv} {pos:d4} {cv:ag}:∀ {l:List ag},wW H q l->codeAmong pos l=some cv->∃ c,cv=.ref c/\H c=some (.cod q):=fun {l} t e=>by
 fun_induction wW H q l with
 | case1=>cases e
 | case2 a ta b tb c r ih =>
   simp only [codeAmong] at e
   split at e
   ·cases e;exact ⟨c,rfl,t.1⟩
   ·exact ih t.2 e
 | case3=>exact t.elim
theorem yC {H:Hp} {q:bv} {a b:Nat} {c:au} (hc:H c=some (.cod q)):∀ {l:List ag},wW H q l->wW H q (l++[je a,je b,.ref c]):=fun {l} t=>by
 fun_induction wW H q l with
 | case1=>exact ⟨hc,trivial⟩
 | case2 _ _ _ _ c' r ih=>exact ⟨t.1,ih t.2⟩
 | case3=>exact t.elim
noncomputable def Bm (mg:bv->Option ag) (h:b9):Prop:=∃ bm ob,mg "__builtins__" = some (.ref bm)/\bm≠m7/\h.get? bm=some ob/\ob.cls=.type "module"/\ob.dict=some m7/\ob.data=.plain
section
variable {X:Cx} {pins:List (au×cX)} {σ:St} {H:Hp} {s:ai} {params:ip} {body:aR} {scope:dG} {pos:d4} {c P:au} {q:bv}
noncomputable abbrev vt (X:Cx) (q:bv) (params:ip) (body:aR) (scope:dG) (pm:ag) (c':au) (ctv:ag):cX:=xK "<lambda>" q params body scope (gm X.env.cells scope.names []) pm c' ctv
theorem CF (I:Inv X pins σ H s) (hB:Bm X.mg X.base) (hcode:X.env.code=.ref c) (C:ir X.base c P) (hP:H P=some (.tab q)) (hq:X.env.qual++"<lambda>" = q)
 (hfree:∀ y∈scope.names,y.2=.free->∃ c,X.env.cells.lookup y.1=some c) (hdef:defaultsOf params X.env=([],[])) {Q:ag->ai->Prop}
 (k:∀ (f c':au) (pm ctv:ag) (s':ai) (H':Hp),Inv X pins σ H' s'->H f=none->H' f=some (.frz (vt X q params body scope pm c' ctv) (.own 0))->H' c'=some (.cod q)->(∀ G,cG G H->Ext G H G H')->Q (.ref f) s') :
 aN (aZ X.prog X.w) X.A (bL (.Lambda params body scope pos) X.env) Q X.xe s:=by
 obtain ⟨ps,hps,tr⟩:=I.hok P _ hP
 obtain ⟨bm,ob,b1,b2,b3,b4,b5,b6⟩:=hB
 have hgb:=I.mod.glob
 have neP:∀ {b:au} {o:cX},X.base.get? b=some o->b≠P:=fun e z=>by
  have:=(I.bs _ _ e).2
  rw [z,hP] at this;cases this
 have hgP:bF≠P:=by obtain ⟨o,_,_,e,_⟩:=hgb;exact neP e
 have hbG:bm≠bF:=fun z=>by
  obtain ⟨o,es,ep,e,hd,_⟩:=hgb
  rw [z,e] at b3;cases b3;rw [hd] at b6;cases b6
 have hbuilt:s.heap.BuiltinsAt X.mg P:=⟨bm,ob,b1,b2,hbG,neP b3,I.bk _ _ b3,b4,b5,b6⟩
 refine PySem.W.kla_eval hdef ?_
 rw [hq]
 cases hc:codeAmong pos ps.toList with
 | none =>
   refine PySem.W.kla_makeFunction (mg:=X.mg) (l6 hfree) I.ok.glob (hgb.keeps I.bk) hcode (C.keeps I.bk) hps (Au tr) hc hgP hbuilt fun c' ctv h' tk hx hge hlt hrec htb=>?_
   have hHc:H c'=none:=I.hok.fresh hge
   have hsz:s.heap.objs.size<=h'.objs.size:=bO hge (iB hlt)
   have hHf:H h'.objs.size=none:=I.hok.fresh hsz
   have hcf:c'≠h'.objs.size:=be hlt
   generalize hof:xK "<lambda>" q params body scope (gm X.env.cells scope.names []) ((X.mg "__name__").getD .none) c' ctv=fo
   have hfo:fo.isFreed=false:=by rw [<- hof];rfl
   have up:∀ {b:au} {w:HO},H b=some w->upd (upd H c' (.cod q)) h'.objs.size (.frz fo (.own 0)) b=some w:=fun {b w} e=>by
    rw [a8 (bV e hHf),a8 (bV e hHc)];exact e
   have old:∀ {b:au} {o:cX},s.heap.get? b=some o->b≠c'/\b≠h'.objs.size:=fun e=>⟨be (a7 (aG e) hge),be (a7 (aG e) hsz)⟩
   have keepN:∀ {b:au} {o:cX},b≠P->s.heap.get? b=some o->(h'.push fo).get? b=some o:=fun hb e=>ah _ (hx _ _ hb e)
   have hcP:c'≠P:=fun z=>by rw [z,hP] at hHc;cases hHc
   have hfP:h'.objs.size≠P:=fun z=>by rw [z,hP] at hHf;cases hHf
   have hcc:upd (upd H c' (.cod q)) h'.objs.size (.frz fo (.own 0)) c'=some (.cod q):=by rw [a8 hcf];exact aU
   have I':Inv X pins σ (upd (upd H c' (.cod q)) h'.objs.size (.frz fo (.own 0))) { s with heap:=h'.push fo,toks:=tk }:=by
    refine I.un (t':=tk) ⟨fun b o e n _ _=>keepN (fun z=>by rw [z,hP] at n;cases n) e,fun b o e n _ _=>⟨o.slots,keepN (fun z=>by rw [z,hP] at n;cases n) e⟩,fun b o e n _=>?_,fun b o e _=>?_,fun b xs e=>up e,fun b o u e=>up e,fun b ps' e=>⟨#[],by rw [Array.append_empty];exact up e⟩⟩ fun b u e=>?_
    ·rw [a8 (old e).2,a8 (old e).1];exact n
    ·by_cases hb:b=P
     ·subst hb;exact ⟨_,ah _ htb⟩
     ·exact ⟨o,keepN hb e⟩
    ·by_cases hbf:b=h'.objs.size
     ·subst hbf
      rw [aU] at e;cases e
      exact ⟨aL _ hfo,fo,aL _ hfo⟩
     ·rw [a8 hbf] at e
      by_cases hbc:b=c'
      ·subst hbc
       rw [aU] at e;cases e
       obtain ⟨c0,o,vs,t,e0,e1,e2⟩:=hrec
       exact ⟨c0,o,vs,t,e0,ah _ e1,e2⟩
      ·rw [a8 hbc] at e
       by_cases hbP:b=P
       ·subst hbP
        rw [hP] at e;cases e
        refine ⟨_,ah _ htb,?_⟩
        have:(ps++#[je pos.line,je pos.col,.ref c']).toList=ps.toList++[je pos.line,je pos.col,.ref c']:=by simp
        rw [this]
        exact yC hcc (tr.stay fun b' q' z=>up z)
       ·refine (I.hok b u e).stay (fun b' o' hb' e'=>keepN ?_ e') (fun b' z=>up z) (fun b' xs z=>up z) fun b' q' z=>up z
        rcases hb' with z | z
        ·rw [z];exact hbP
        ·intro z';rw [z',hP] at z;cases z
   refine k h'.objs.size c' ((X.mg "__name__").getD .none) ctv _ _ I' hHf ?_ hcc fun G sg=>?_
   ·rw [aU,<- hof]
   ·have E1:Ext G H G (upd H c' (.cod q)):=Ext.own sg hHc
    exact E1.trans (Ext.own E1.gh (by rw [a8 (Ne.symm hcf)];exact hHf))
 | some cv =>
   obtain ⟨c',rfl,hc'⟩:=xh tr hc
   refine PySem.W.kla_makeFunctionHit (mg:=X.mg) (l6 hfree) I.ok.glob (hgb.keeps I.bk) hcode (C.keeps I.bk) hps (Au tr) hc hbuilt fun ctv h' tk hk hsz=>?_
   have hHf:H h'.objs.size=none:=I.hok.fresh hsz
   have I':=I.laid (a:=h'.objs.size) (o:=.frz (vt X q params body scope ((X.mg "__name__").getD .none) c' ctv) (.own 0)) (t':=tk) (fun b u e=>ah (vt X q params body scope ((X.mg "__name__").getD .none) c' ctv) (hk b u e)) hsz ⟨aL _ rfl,_,aL _ rfl⟩
   refine k h'.objs.size c' _ ctv _ _ I' hHf aU ?_ fun G sg=>Ext.own sg hHf
   rw [a8 (bV hc' hHf)];exact hc'
end
structure we (X:Cx) (scope:dG) (ix:List (Option Nat)) (x:bv) (i0:Nat):Prop extends CScope X scope ix where
 co:scope.isCoroutine=false
 gen:scope.isGenerator=false
 nocell:∀ y∈scope.names,y.2≠.cell
 par:scope.names[i0]?=some (x,.local)
noncomputable abbrev vp (X:Cx) (scope:dG) (q:bv) (L f c':au):m8:=PySem.W.envX q scope L f (.ref c') (gm X.env.cells scope.names [])
noncomputable def Bw (X:Cx) (A:bE) (scope:dG) (q:bv) (f c':au) (s:ai) (H:Hp):Cx :=
 { X with A:=A.deeper (vp X scope q s.heap.objs.size f c'),N:=scope.names.map (·.1),s₀:=s,H₀:=H,env:=vp X scope q s.heap.objs.size f c',outer:=X.stack,stack:=vp X scope q s.heap.objs.size f c'::X.stack,ex:=[],fn:=fun _=>false,calm:=true,pn:=[],xe:=fun _ _=>False }
section
variable {X:Cx} {pins:List (au×cX)} {σ:St} {H:Hp} {s:ai} {scope:dG} {ix:List (Option Nat)} {x:bv} {i0:Nat} {A:bE} {f c':au} {q:bv}
theorem yY {v:V} {u:ag} {h₁:b9} {tk:Nat} (S:we X scope ix x i0) (I:Inv X pins σ H s) (hh:A.handled=none) (hfr:A.frames=X.A.frames) (rv:fZ v u)
 (hns:h₁.Ns s.heap.objs.size (fun y=>[(x,u)].reverse.lookup y)) (hk:∀ b o,s.heap.get? b=some o->h₁.get? b=some o) :
 Inv (Bw X A scope q f c' s H) [] ((mpS ix σ).set i0 (some v)) H { s with heap:=h₁,toks:=tk }:=by
 have cl:=S.toCScope.cells I
 have hlk:∀ y c,(gm X.env.cells scope.names []).lookup y=some c->X.env.cells.lookup y=some c:=fun y c e=>by
  rcases kh _ _ cl e with z | z
  ·exact z
  ·simp at z
 have hno:∀ b:au,b∉(Bw X A scope q f c' s H).ex:=fun b z=>absurd (show b∈([]:List au) from z) (by simp)
 have hi0:i0<ix.length:=by rw [jU S.ix];exact (aF.mp S.par).1
 refine ⟨⟨I.ok.mod,S.kind,rfl,rfl,az _,fun y z c h1 h2=>I.ok.inj y z c (hlk y c h1) (hlk z c h2),fun y hy=>?_,fun y c hf _=>absurd (show false=true from hf) (by simp),fun _=>hh,tR (hfr.trans I.ok.frames),.inr ⟨rfl,rfl⟩,fun b z=>absurd z (hno b),I.bs,bO I.ok.bsz I.sz,fun b _ _=>hno b,fun b z=>absurd z (hno b),I.stack,I.stkFree⟩,
  rfl,I.bare,Un.kept hk,⟨_,hns,fun i y w e1 e2 e3=>?_⟩,fun y c e=>?_,I.hok.fresh (az _),fun y c e=>I.freeC y c (hlk y c e),fun p hp=>absurd (show p∈([]:List (au×cX)) from hp) (by simp),I.hok.kept hk,?_⟩
 ·have hy:scope.names.lookup y=some .cell\/scope.names.lookup y=some .free:=hy
  rcases hy with hy | hy
  ·exact absurd rfl (S.nocell _ (mem_of_lookup hy))
  ·obtain ⟨c,hc⟩:=cl _ (mem_of_lookup hy) rfl
   exact ⟨c,(i5 _ _ cl (.inl (mem_of_lookup hy))).trans hc⟩
 ·have e1:(scope.names.map (·.1))[i]?=some y:=e1
  by_cases hi:i0=i
  ·subst hi
   rw [aV (by unfold mpS;rw [af];exact hi0)] at e2
   cases e2
   rw [aC,S.par] at e1
   cases e1
   exact ⟨u,rv,.inl ⟨d7 S.nd S.par,by simp⟩⟩
  ·rw [aX hi] at e2
   unfold mpS at e2
   rw [aC] at e2
   cases qi:ix[i]? with
   | none=>rw [qi] at e2;cases e2
   | some o =>
     rw [qi] at e2
     cases o with
     | none=>cases e2
     | some j =>
       obtain ⟨x',hx1,hx2⟩:=iY S.ix qi
       have ex:y=x':=by rw [aC,hx1] at e1;cases e1;rfl
       subst ex
       have hs:σ[j]?=some (some w):=by
        have e2':(σ[j]?).getD none=some w:=by simpa using e2
        cases q2:σ[j]? with
        | none=>rw [q2] at e2';cases e2'
        | some z=>rw [q2] at e2';exact congrArg some e2'
       have hl:=d7 S.nd hx1
       have hkd:=S.free _ (bz hx1) rfl
       obtain ⟨m,_,hm⟩:=I.loc
       have hvis:Vis X.env.scope y:=by
        rcases hkd with z | z
        ·exact .inr (.inl z)
        ·exact .inr (.inr z)
       obtain ⟨u',r',lk⟩:=hm j y w hx2 hs hvis
       refine ⟨u',r',.inr ⟨.inr hl,?_⟩⟩
       rcases lk with ⟨z,_⟩ | ⟨_,c,hc,o,ho,hd⟩
       ·rcases hkd with w' | w'<;>(rw [z] at w';cases w')
       ·exact ⟨c,(i5 _ _ cl (.inl (mem_of_lookup hl))).trans hc,o,hk _ _ ho,hd⟩
 ·obtain ⟨w,o,ho,hd⟩:=I.cell y c (hlk y c e)
  exact ⟨w,o,hk _ _ ho,hd⟩
 ·rw [bP]
  unfold mpS
  rw [af,jU S.ix]
  show _=(scope.names.map (·.1)).length
  rw [af]
noncomputable def DC (ix:List (Option Nat)) (i0:Nat) (g:Rho->Option Rv) (ρ:Rho):Da->Option Da:=fun d=>match g ((mpR ix ρ).set i0 (.pu d)) with
 | none=>none
 | some r=>if eG r=true then some r.2 else none
theorem FW {B G0 H0:Hp} {ρ:Rho} {g:Rho->Option Rv} {params:ip} {body:aR} {pm ctv:ag} (S:we X scope ix x i0) (hh:A.handled=none) (hfr:A.frames=X.A.frames) (hroom:A.depth<t4)
 (hbind:∀ u,iD (np "<lambda>" q params body scope (gm X.env.cells scope.names []) pm (.ref c') ctv) ⟨[u],[]⟩=pure [(x,u)])
 (hbody:∀ (s:ai) (H:Hp),PX (Bw X A scope q f c' s H) body g)
 (sb:cG B H0) (st:hZ X.K B G0 H0 σ ρ) (hf:H0 f=some (.frz (vt X q params body scope pm c' ctv) (.own 0))) (hc:H0 c'=some (.cod q)):CJ X A (.ref f) σ G0 H0 (DC ix i0 g ρ):=by
 intro pins s G H d r v u E I dv rv el
 unfold DC at el
 split at el
 ·cases el
 ·rename_i rr er
  split at el
  case isFalse=>cases el
  case isTrue hp =>
  cases el
  obtain ⟨ho,_⟩:=I.hok f _ (E.hh _ _ hf)
  have hcd:s.heap.CodeRec (.ref c') q:=I.hok c' _ (E.hh _ _ hc)
  have st':hZ X.K B G H ((mpS ix σ).set i0 (some v)) ((mpR ix ρ).set i0 (.pu d)):=((st.ext E).mp S.toCScope).setPu dv
  refine wpAny_call (PySem.W.kla_callFunE hroom ho rfl S.co S.gen rfl hcd ?_)
  rw [hbind u]
  refine aq (wpAny_newFunctionEnv S.nocell (fun y hy=>by rw [ay.mp hy];exact d7 S.nd S.par) (fun h₁ hns hsb=>?_) S.kind)
  have hk₁:∀ b o,s.heap.get? b=some o->h₁.get? b=some o:=fun b o e=>hsb.extBut b o (be (aG e)) (ah _ e)
  refine ⟨I.nolimit.keeps hk₁,?_⟩
  show kI _ _ (.expr body (vp X scope q s.heap.objs.size f c')) _ _
  have J:Inv (Bw X A scope q f c' s H) [] ((mpS ix σ).set i0 (some v)) H { s with heap:=h₁,toks:=s.toks+1 }:=yY S I hh hfr rv hns hk₁
  refine PySem.W.kla_codeExpr (dm (hbody s H [] _ _ H (fun v' H'=>∃ G',Ext G H G' H'/\gv X.K B H G' H' rr v') J ⟨B,G,_,rr,E.gh,sb.trans E.hh,st',er,fun v' G' H' E' r'=>⟨G',E',r'⟩⟩) (fun u' s' he=>?_) fun _ _ z=>z.elim)
  obtain ⟨v',H',J',r',G',E',ro⟩:=he
  obtain ⟨G2,E2,_,d2⟩:=ro.pure E' hp
  exact ⟨v',G2,H',I.call' (ch:=[]) J'.os J'.base J'.hok J'.bare (fun b z=>absurd z (by simp)),r',E2,d2⟩
end
noncomputable def iV (prog:bh) (w:bT) (A:bE) (s:ai) (x:ag) (xs:List V):Prop :=
 ∀ (E:ag->ai->Prop) (R:List ag->ai->Prop),(∀ h' tk vs,(∀ b o,s.heap.get? b=some o->h'.get? b=some o)->dJ xs vs->R vs { s with heap:=h',toks:=tk })->aN (aZ prog w) A (tU x) R E s
theorem wR {n:Nat} {acc:Array ag} (it:ItemsOf (fun i v=>∃ t,v=.int (0+i*1) t) acc n):dJ ((bG n).map fun (i:Nat)=>V.int (i:Int)) acc.toList:=by
 have:∀ (n:Nat) (l:List ag) (lo:Nat),l.length=n->(∀ i v,l[i]?=some v->∃ t,v=eC ((lo+i:Nat):Int) t)->dJ ((vk lo n).map fun (i:Nat)=>V.int (i:Int)) l:=fun n=>by
  induction n with
  | zero=>intro l lo hl _;cases l with
    | nil=>exact .nil
    | cons _ _=>cases hl
  | succ n ih =>
    intro l lo hl hv
    cases l with
    | nil=>cases hl
    | cons x l =>
      obtain ⟨t,ht⟩:=hv 0 x rfl
      rw [mW,aD]
      refine .cons ⟨t,by simpa using ht⟩ (ih l (lo+1) (by simpa using hl) fun i v hi=>?_)
      obtain ⟨t,ht⟩:=hv (i+1) v (by simpa using hi)
      exact ⟨t,by rw [ht];congr 2;lia⟩
 rw [fS]
 refine this n acc.toList 0 (by rw [bJ];exact it.1) fun i v hi=>?_
 obtain ⟨t,ht⟩:=it.2 i v (by rw [<- fg];exact hi)
 exact ⟨t,by rw [ht];congr 1;simp⟩
noncomputable def hkD:List Da->Option (List (List Int))
 | []=>some []
 | .tup [.int n,.tup xs]::r=>match gs xs,hkD r with
   | some ns,some ts=>some ((n::ns)::ts)
   | _,_=>none
 | _=>none
theorem D7 {kd:List Da}:∀ {ts:List (List Int)},hkD kd=some ts->ts.length=kd.length:=by
 fun_induction hkD kd with
 | case1=>intro ts e;cases e;rfl
 | case2 n xs r ns ts0 er en ih=>intro ts e;cases e;rw [aJ,aJ,ih er]
 | case3=>intro ts e;cases e
 | case4=>intro ts e;cases e
section
variable {X:Cx} {pins:List (au×cX)} {σ:St} {H:Hp} {s:ai}
theorem vx {A:bE} {r:au} {j:Int} (I:Inv X pins σ H s) (hh:A.handled=none) (hr:H r=some (.rng 0 j)) (j1 : -(2 ^ 62)<=j) (j2:j<=1000000):iV X.prog X.w A s (.ref r) ((bG j.toNat).map fun (i:Nat)=>V.int (i:Int)):=by
 intro E R h
 obtain ⟨t,u,v,hr'⟩:=I.hok r _ hr
 exact oV hh (show IsRange s.heap r 0 j 1 t u v from hr') j1 j2 E R fun h' tk acc kp it=>h h' tk _ kp (wR it)
theorem EQ {A:bE} {x:ag} {xs:List V} {vs:List ag} (c:gD X.prog X.w A s x vs) (r:dJ xs vs):iV X.prog X.w A s x xs:=fun E R h=>c E R fun h' tk kp=>h h' tk vs kp r
theorem my {G0 H0 G:Hp} {x:ag} {xs:List V} {ds kd:List Da} {lam:Da->Option Da} {O:eZ} {κ:ib} {d0:O.α} {ks:List O.α} {fv:au} (I:Inv X pins σ H s) (E0:Ext G0 H0 G H) (col:iV X.prog X.w X.A.in1 s x xs) (dl:cD X.K G ds xs)
 (L:CJ X X.A.in1.in1 (.ref fv) σ G0 H0 lam) (hk:A6 lam ds=some kd) (h64:OkN ks) (hks:ks.length=kd.length)
 (cmp:∀ (s':ai) (G' H':Hp) (pins':List (au×cX)) (kvs:List V) (us:List ag),Inv X pins' σ H' s'->cG G' H'->cD X.K G' kd kvs->dJ kvs us->vG X.prog X.w X.A.in1.in1 s' us O κ (fun i=>ks.getD i d0)) {Q:VK}
 (k:∀ D G' H',Ext G H G' H'->H' D=none->Q (.ref D) (upd H' D (.lst ((mF O d0 ks).map fun i=>xs.getD i .non)))):aN (aZ X.prog X.w) X.A (call (.builtin "sorted") [x] [(cw "key",.ref fv)]) (EP X pins σ Q) X.xe s:=by
 have sz:aK=16777216:=bu
 have hld:xs.length=ds.length:=dl.length
 have hlk:kd.length=ds.length:=lK hk
 have h127:ds.length<=63:=by rcases h64 with h | h<;>lia
 refine call_function_entry_kw kind_sorted plain_sorted entry_sorted (ksk_s1 _ _) ?_
 unfold Builtin.«sorted»
 refine ac (m:=checkCount "sorted" 1 1 _) (aq (ac (col _ _ fun h1 tk vs k1 rv=>?_)))
 have hlv:xs.length=vs.length:=rv.length
 refine ac (jK ?_ (by lia))
 have I0:Inv X pins σ H { s with heap:=h1,toks:=tk }:=I.kept (t':=tk) k1
 have hoD:(h1.push (bR "list" vs.toArray 0)).get? h1.objs.size=some (bR "list" vs.toArray 0):=aL _ rfl
 have I1:Inv X ((h1.objs.size,bR "list" vs.toArray 0)::pins) σ H { s with heap:=h1.push (bR "list" vs.toArray 0),toks:=tk }:=I0.pinNew (t':=tk) (fun b u e=>ah _ e) (az _) hoD io
 have h0:X.s₀.heap.objs.size<=h1.objs.size:=I0.sz
 have hne:∀ q∈X.pn++pins,q.1≠h1.objs.size:=fun q hq=>be (aG (I0.pin q hq).1)
 show aN _ _ _ _ _ { s with heap:=h1.push (bR "list" vs.toArray 0),toks:=tk }
 refine ac (cN (wpAny_call_entry_kw slot_list_sort ⟨_,hoD,rfl⟩ entry_list_sort ?body (ksk_l1 _ _)))
 case body =>
  show aN (aZ X.prog X.w) X.A.in1.in1 (Builtin.«list.sort» ⟨[.ref h1.objs.size],[(cw "key",.ref fv)]⟩) _ _ _
  rw [ksk_t1]
  refine yU I1 E0 h0 hne L dl rv hk h64 hks cmp fun s' G' H' c E' I'=>⟨_,rfl,aq ⟨_,rfl,?_⟩⟩
  have hpm:∀ i∈mF O d0 ks,i<xs.length:=fun i hi=>by have:=qJ hi;lia
  have r2:=jY rv _ hpm
  have hD:H' h1.objs.size=none:=(I'.pin _ (aW _ am)).2.1
  refine ⟨.ref h1.objs.size,_,I'.adopt h0 hne (show gz X.prog X.w _ s'.heap _ (.lst ((mF O d0 ks).map fun i=>xs.getD i .non)) from ⟨by rw [af,vL];lia,_,c,r2,I'.pinGet⟩),rfl,k _ G' H' E' hD⟩
theorem BW {A:bE} {ns:List Int} {s':ai} {G':Hp} {kvs:List V} {us:List ag} (dk:cD X.K G' (ns.map Da.int) kvs) (rk:dJ kvs us):vG X.prog X.w A s' us xP oP (fun i=>ns.getD i (0:Int)):=by
 have ek:=cD.ints.mp dk
 subst ek
 have hl:us.length=ns.length:=by rw [<- rk.length,af]
 have at':∀ i,i<us.length->∃ t,us.getD i bq=.int (ns.getD i 0) t:=fun i hi=>by
  have hi':i<ns.length:=by lia
  obtain ⟨u,hu,ru⟩:=rk.get (i:=i) (x:=.int ns[i]) (by rw [aC,aj hi'];rfl)
  obtain ⟨t,rfl⟩:=ru
  refine ⟨t,?_⟩
  rw [aB,hu,aB,aj hi'];rfl
 refine ⟨fun h2 Q q=>?_,fun i j C hi hj c=>?_⟩
 ·refine wF (T:=.type "int") h2 (fun v hv=>?_) (by decide) (by decide) q
  obtain ⟨i,hi,rfl⟩:=cH hv
  obtain ⟨t,e⟩:=at' i hi
  have e2:us[i]=.int (ns.getD i 0) t:=by rw [<- e];simp [hi]
  rw [e2]
  exact .now
 ·show aN (aZ X.prog X.w) _ (keyLt' oP (us.getD i bq) (us.getD j bq)) C _ _
  obtain ⟨t,e1⟩:=at' i hi
  obtain ⟨t',e2⟩:=at' j hj
  rw [e1,e2]
  exact t9 c
theorem Ju {K:ae} {G:Hp}:∀ {kd:List Da} {ts:List (List Int)} {kvs:List V},hkD kd=some ts->cD K G kd kvs->∀ i,i<ts.length->∃ (a b:au) (n:Int) (ns:List Int),kvs[i]?=some (.ref a)/\G a=some (.tup [.int n,.ref b])/\G b=some (.tup (ns.map V.int))/\ts.getD i []=n::ns:=by
 intro kd
 fun_induction hkD kd with
 | case1=>intro ts kvs e d i hi;cases e;cases hi
 | case2 n xs r ns ts0 er en ih =>
   intro ts kvs e d i hi
   cases e
   obtain ⟨x,rr,rfl,d1,d2⟩:=d
   obtain ⟨a,ys,rfl,ga,da⟩:=d1
   obtain ⟨y1,r1,rfl,e1,da2⟩:=da
   obtain ⟨y2,r2,rfl,e2,e3⟩:=da2
   cases (show r2=[] from e3)
   cases (show y1=.int n from e1)
   obtain ⟨b,zs,rfl,gb,db⟩:=e2
   rw [gC en] at db
   have ez:=cD.ints.mp db
   subst ez
   cases i with
   | zero=>exact ⟨a,b,n,ns,rfl,ga,gb,rfl⟩
   | succ i =>
     obtain ⟨a',b',n',ns',h1,h2,h3,h4⟩:=ih er d2 i (by simpa using hi)
     exact ⟨a',b',n',ns',by simpa using h1,h2,h3,by simpa using h4⟩
 | case3=>intro ts kvs e;cases e
 | case4=>intro ts kvs e;cases e
theorem yW {A:bE} {pins':List (au×cX)} {kd:List Da} {ts:List (List Int)} {s':ai} {G' H':Hp} {kvs:List V} {us:List ag} (hk:hkD kd=some ts) (hlen:ts.length=kd.length) (I':Inv X pins' σ H' s') (sm:cG G' H') (hu:A.units<cg)
 (dk:cD X.K G' kd kvs) (rk:dJ kvs us):vG X.prog X.w A s' us uR (x6 true) (fun i=>ts.getD i []):=by
 have hl:us.length=ts.length:=by rw [<- rk.length,dk.length,hlen]
 have at':∀ i,i<us.length->∃ (a b:au) (n:Int) (t:xS) (ns:List Int) (o:cX) (m:Nat),us.getD i bq=.ref a/\ts.getD i []=n::ns/\s'.heap.get? a=some o/\o.cls=.type "tuple"/\o.data=.seq #[.int n t,.ref b] m/\H' b=some (.tup (ns.map V.int)):=fun i hi=>by
  obtain ⟨a,b,n,ns,h1,h2,h3,h4⟩:=Ju hk dk i (by lia)
  obtain ⟨u,hu,ru⟩:=rk.get h1
  cases (show u=bI a from ru)
  obtain ⟨_,its,rv,o,ho,hc,m,hd⟩:=I'.hok a _ (sm _ _ h2)
  obtain ⟨u1,u2,rfl,e1,e2⟩:=dJ.two rv
  obtain ⟨t,rfl⟩:=e1
  cases (show u2=bI b from e2)
  exact ⟨a,b,n,t,ns,o,m,by rw [aB,hu];rfl,h4,ho,hc,hd,sm _ _ h3⟩
 refine ⟨fun h2 Q q=>?_,fun i j C hi hj c=>?_⟩
 ·have firsts:∀ vs:List ag,(∀ u∈vs,∃ i,i<us.length/\u=us.getD i bq)->∃ fs:List ag,xI s'.heap vs fs/\vs.length=fs.length/\∀ f∈fs,∃ n t,f=eC n t:=fun vs=>by
   induction vs with
   | nil=>exact fun _=>⟨[],.nil,rfl,by simp⟩
   | cons u vs ih =>
     intro hu
     obtain ⟨fs,h1,h2,h3⟩:=ih fun v hv=>hu v (al _ hv)
     obtain ⟨i,hi,rfl⟩:=hu u (am)
     obtain ⟨a,b,n,t,ns,o,m,ea,et,ho,hc,hd,hb⟩:=at' i hi
     refine ⟨.int n t::fs,?_,by rw [aJ,aJ,h2],fun f hf=>?_⟩
     ·rw [ea]
      exact .cons ho hc hd (by simp) h1
     ·rcases aE.mp hf with z | z
      ·exact ⟨n,t,z⟩
      ·exact h3 f z
  obtain ⟨fs,f1,f2,f3⟩:=firsts us fun u hu=>by
   obtain ⟨i,hi,rfl⟩:=cH hu
   exact ⟨i,hi,by simp [hi]⟩
  refine wG (T:=.type "int") f1 (by lia) (fun v hv=>?_) (by decide) q
  obtain ⟨n,t,rfl⟩:=f3 v hv
  exact .now
 ·show aN (aZ X.prog X.w) _ (keyLt' (x6 true) (us.getD i bq) (us.getD j bq)) C _ _
  obtain ⟨a,b,n,t,ns,o,m,ea,et,ho,hc,hd,hb⟩:=at' i hi
  obtain ⟨a',b',n',t',ns',o',m',ea',et',ho',hc',hd',hb'⟩:=at' j hj
  have c:C (HT.lexLt (ts.getD i []) (ts.getD j [])) s':=c
  rw [et,et'] at c
  rw [ea,ea']
  refine x8 ho hd ho' hd' ?_
  show x5 X.prog X.w A true (decide (2<2)) C [(eC n t,eC n' t'),(bI b,bI b')] 0 s'
  refine lT (pY ?_)
  by_cases e:n=n'
  ·subst e
   rw [beq_self_eq_true]
   have hq:HT.lexLt (n::ns) (n::ns')=HT.lexLt ns ns':=by rw [HT.lexLt_cons,if_pos rfl]
   rw [hq] at c
   have e1:ns.map V.int=(ns.map (av:Int->Key)).map kV:=by rw [aQ];rfl
   have e2:ns'.map V.int=(ns'.map (av:Int->Key)).map kV:=by rw [aQ];rfl
   have k1:=lF I'.hok (e1▸hb)
   have k2:=lF I'.hok (e2▸hb')
   refine mN (lT ((i8 (cy X.prog X.w)).eqBool hu k1 k2 ?_))
   by_cases en:ns=ns'
   ·subst en
    rw [decide_eq_true rfl]
    refine mN (PySem.W.kat_nil ?_)
    have:HT.lexLt ns ns=false:=j7 ns
    rw [this] at c
    exact c
   ·have hne:¬ (ns.map (av:Int->Key)=ns'.map av):=fun z=>en (by
     have:=congrArg (gP fun k:Key=>match k with | .inl i=>i | .inr _=>0) z
     simpa [aQ,Function.comp_def] using this)
    rw [decide_eq_false hne]
    refine nj ?_
    show aN _ _ (oneLt' false (bI b) (bI b')) _ _ _
    refine mO _ _ ?_
    obtain ⟨its,r1,it1,_⟩:=I'.tuple (SqT.of hb)
    obtain ⟨its',r1',it1',_⟩:=I'.tuple (SqT.of hb')
    exact HT.lt_tupInts it1 it1' (eu r1) (eu r1') hu c
  ·rw [show (n == n')=false from beq_eq_false_iff_ne.mpr e]
   have hq:HT.lexLt (n::ns) (n'::ns')=decide (n<n'):=by rw [HT.lexLt_cons,if_neg e]
   rw [hq] at c
   exact nj (oneLt_int c)
end
noncomputable def vR (kd:List Da):Option (List Nat):=match gs kd with
 | some ns=>if OkN ns then some (mF xP (0:Int) ns) else none
 | none=>match hkD kd with
   | some ts=>if OkN ts then some (mF uR ([]:List Int) ts) else none
   | none=>none
noncomputable def rp (lam:Da->Option Da) (ds:List Da):Option (List Da):=if ds.length<128 then (match A6 lam ds with
 | none=>none
 | some kd=>match vR kd with
   | none=>none
   | some pl=>some (pl.map fun i=>ds.getD i .non)) else none
noncomputable def jO (ix:List (Option Nat)) (i0:Nat) (fi:Rho->Option (List Da)) (g:Rho->Option Rv):Rho->Option Rv:=fun ρ=>match fi ρ with
 | none=>none
 | some ds=>match rp (DC ix i0 g ρ) ds with
   | none=>none
   | some es=>some (.fr,.lst es)
section
variable {X:Cx} {pins:List (au×cX)} {σ:St} {H:Hp} {s:ai}
theorem tw (hu:X.A.in1.in1.units<cg) {B G0 H0 G:Hp} {x:ag} {xs:List V} {ds es:List Da} {lam:Da->Option Da} {fv:au} (I:Inv X pins σ H s) (E0:Ext G0 H0 G H) (col:iV X.prog X.w X.A.in1 s x xs) (dl:cD X.K G ds xs)
 (L:CJ X X.A.in1.in1 (.ref fv) σ G0 H0 lam) (hs:rp lam ds=some es) {Q:VK} (k:∀ v G' H',Ext G H G' H'->gv X.K B H G' H' (.fr,.lst es) v->Q v H') :
 aN (aZ X.prog X.w) X.A (call (.builtin "sorted") [x] [(cw "key",.ref fv)]) (EP X pins σ Q) X.xe s:=by
 unfold rp at hs
 split at hs
 case isFalse=>cases hs
 case isTrue h64 =>
 split at hs
 ·cases hs
 ·rename_i kd hkd
  split at hs
  ·cases hs
  ·rename_i pl hpl
   cases hs
   unfold vR at hpl
   split at hpl
   ·rename_i ns hns
    split at hpl
    case isFalse=>cases hpl
    rename_i hok
    cases hpl
    have ekd:=gC hns
    subst ekd
    refine my (O:=xP) (κ:=oP) (d0:=(0:Int)) (ks:=ns) I E0 col dl L hkd hok (af _).symm (fun s' G' H' pins' kvs us _ _ dk rk=>BW dk rk) fun D G' H' E' hD=>?_
    refine k _ G' _ (E'.trans (Ext.own E'.gh hD)) ⟨D,_,rfl,E'.hh.free hD,E'.gh.free hD,aU,_,rfl,kc (K:=X.K) (G:=G') _ fun i hi=>?_⟩
    have hi':i<ds.length:=by
     have h1:i<ns.length:=qJ (O:=xP) hi
     have h2:=lK hkd
     rw [af] at h2
     exact h2▸h1
    obtain ⟨v,hv,dv⟩:=dl.get (i:=i) (g9 hi' .non)
    have e:xs.getD i .non=v:=by rw [aB,hv];rfl
    show Den X.K G' (ds.getD i .non) (xs.getD i .non)
    rw [e]
    exact Den.mono E'.gg _ dv
   ·split at hpl
    ·rename_i ts hts
     split at hpl
     case isFalse=>cases hpl
     rename_i hok
     cases hpl
     have hln:=D7 hts
     refine my (O:=uR) (κ:=x6 true) (d0:=([]:List Int)) (ks:=ts) I E0 col dl L hkd hok hln (fun s' G' H' pins' kvs us I' sm dk rk=>yW hts hln I' sm hu dk rk) fun D G' H' E' hD=>?_
     refine k _ G' _ (E'.trans (Ext.own E'.gh hD)) ⟨D,_,rfl,E'.hh.free hD,E'.gh.free hD,aU,_,rfl,kc (K:=X.K) (G:=G') _ fun i hi=>?_⟩
     have hi':i<ds.length:=by
      have h1:i<ts.length:=qJ (O:=uR) hi
      have h2:=lK hkd
      lia
     obtain ⟨v,hv,dv⟩:=dl.get (i:=i) (g9 hi' .non)
     have e:xs.getD i .non=v:=by rw [aB,hv];rfl
     show Den X.K G' (ds.getD i .non) (xs.getD i .non)
     rw [e]
     exact Den.mono E'.gg _ dv
    ·cases hpl
end
structure Mkr (X:Cx) (c P:au):Prop where
 code:X.env.code=.ref c
 hd:ir X.base c P
 tab:(P,X.env.qual++"<lambda>")∈g7 X.K
 bm:Bm X.mg X.base
section
variable {X:Cx} {a e body:aR} {params:ip} {scope:dG} {p p2 pos pos2 kpos lpos:d4} {c P:au} {ix:List (Option Nat)} {x:bv} {i0:Nat} {g:Rho->Option Rv} {ga:Rho->Option (List Rv)}
structure Ce (X:Cx) (params:ip) (body:aR) (scope:dG) (ix:List (Option Nat)) (x:bv) (i0:Nat) (g:Rho->Option Rv):Prop where
 S:we X scope ix x i0
 df:defaultsOf params X.env=([],[])
 bind:∀ (q:bv) (cl:List (bv×au)) (pm cd ctv u:ag),iD (np "<lambda>" q params body scope cl pm cd ctv) ⟨[u],[]⟩=pure [(x,u)]
 body:∀ (q:bv) (f c':au) (s:ai) (H:Hp),PX (Bw X X.A.in1.in1 scope q f c' s H) body g
theorem pX {pins:List (au×cX)} {s1:ai} {σ:St} {H H1 B G G1:Hp} {ρ:Rho} {u:ag} {xs:List V} {ds es:List Da} {Q:VK} (hc:X.calm=true) (hr:iz 2 X.A) (M:Mkr X c P) (Lm:Ce X params body scope ix x i0 g)
 (I1:Inv X pins σ H1 s1) (sb:cG B H) (st:hZ X.K B G H σ ρ) (E1:Ext G H G1 H1) (col:∀ (s2:ai) (H2:Hp),Inv X pins σ H2 s2->cG H1 H2->iV X.prog X.w X.A.in1 s2 u xs) (dl:cD X.K G1 ds xs) (hs:rp (DC ix i0 g ρ) ds=some es)
 (k:∀ v G' H',Ext G H G' H'->gv X.K B H G' H' (.fr,.lst es) v->Q v H') :
 aN (aZ X.prog X.w) X.A (evalAll ((iE pos (fm [⟨some "key",.Lambda params body scope lpos,kpos⟩] X.env)).map (·.2)))
  (fun kvs s₂=>aN (aZ X.prog X.w) X.A (call (.builtin "sorted") [u] (((iE pos (fm [⟨some "key",.Lambda params body scope lpos,kpos⟩] X.env)).filterMap (·.1)).zip kvs)) (EP X pins σ Q) X.xe s₂) X.xe s1:=by
 show aN _ _ (evalAll ((do let v <- bL (.Lambda params body scope lpos) X.env;tO pos;pure v)::[])) _ _ s1
 refine wpAny_evalAll_cons (ac (CF I1 M.bm M.code M.hd (E1.gh _ _ (E1.gg _ _ (st.tg _ M.tab))) rfl (Lm.S.toCScope.cells I1) Lm.df fun f c' pm ctv s2 H2 I2 hf0 hf hc' ext=>ac (jJ (aq (wpAny_evalAll_nil ?_)))))
 show aN (aZ X.prog X.w) X.A (call (.builtin "sorted") [u] [(cw "key",.ref f)]) (EP X pins σ Q) X.xe s2
 have E2:=ext G1 E1.gh
 have E12:=E1.trans E2
 have L:=FW (A:=X.A.in1.in1) (B:=B) (G0:=G1) (H0:=H2) (ρ:=ρ) (g:=g) (σ:=σ) (pm:=pm) (ctv:=ctv) Lm.S (show X.A.in1.in1.handled=none from hr.hd) rfl (hr.in1.in1.depth) (fun u=>Lm.bind _ _ _ _ _ u) (fun s H=>Lm.body _ f c' s H) (sb.trans E12.hh) (st.ext E12) hf hc'
 refine tw (show X.A.in1.in1.units<cg from by have:=hr.un;show X.A.units+1+1<cg;lia) (B:=B) I2 (Ext.refl E12.gh) (col s2 H2 I2 E2.hh) dl L hs fun v G' H' E' rv=>?_
 refine k v G' H' (E12.trans E') ?_
 exact rv.base E12.hh
theorem u0 (hc:X.calm=true) (hr:iz 2 X.A) (hg:Gl X "sorted") (hm:X.mg "sorted" = none) (hg2:Gl X "range") (hm2:X.mg "range" = none) (M:Mkr X c P) (Lm:Ce X params body scope ix x i0 g) (ha:PXA X [a] ga)
 (hs:ao [a] X.env=[(false,bL a X.env)]:=by exact bD rfl) (he:ao [.Call (.Name "range" p2) [a] [] pos2] X.env=[(false,bL (.Call (.Name "range" p2) [a] [] pos2) X.env)]:=by rfl) :
 PX X (.Call (.Name "sorted" p) [.Call (.Name "range" p2) [a] [] pos2] [⟨some "key",.Lambda params body scope lpos,kpos⟩] pos) (jO ix i0 (k3 ga) g):=by
 intro pins s σ H Q I ⟨B,G,ρ,r,sg,sb,st,eq,k⟩
 unfold jO at eq
 split at eq
 ·cases eq
 ·rename_i ds efi
  split at eq
  ·cases eq
  ·rename_i es ees
   cases eq
   unfold k3 at efi
   split at efi
   ·rename_i kd j ej
    split at efi
    ·rename_i hj
     cases efi
     have hds:(eW 0 j.toNat).length<128:=by
      unfold rp at ees
      split at ees
      ·assumption
      ·cases ees
     have hdn:(eW 0 j.toNat).length=j.toNat:=by
      have:=(j3 (K:=X.K) (G:=G) j.toNat 0).length
      rw [af,List.length_range'] at this
      exact this.symm
     refine fw (mz (u:=.builtin "sorted") I hg hm (by decide +kernel) ?_)
     refine Bh (thn (e6 (nH hg2 hm2 ha hs) jx he pos pins s σ H (fun vs H1=>∃ G1 rr,vs=[.ref rr]/\Ext G H G1 H1/\H1 rr=some (.rng 0 j)) I ?_) fun us s1 ⟨vs,H1,I1,r1,G1,rr,ev,E1,hrr⟩=>?_) (by rw [he];rfl) (by rw [he];rfl)
     ·refine ⟨B,G,ρ,_,sg,sb,st,ej,fun vs G1 H1 E1 r1=>?_⟩
      obtain ⟨v,rfl,r2⟩:=e7.one r1
      refine ⟨j,by rw [r2.int],fun rr hrr=>?_⟩
      exact ⟨G1,rr,rfl,E1.trans (Ext.own E1.gh hrr),aU⟩
     ·subst ev
      obtain ⟨u,rfl,ru⟩:=kZ r1
      cases ru
      refine pX hc hr M Lm I1 sb st E1 (xs:=(bG j.toNat).map fun (i:Nat)=>V.int (i:Int)) (fun s2 H2 I2 sm=>vx I2 (I2.ok.hd hc) (sm _ _ hrr) hj.1 (by lia)) (by rw [fS];exact j3 j.toNat 0) ees k
    ·cases efi
   ·cases efi
noncomputable def pB (f:Rho->Option Rv):Rho->Option (List Da):=fun ρ=>match f ρ with
 | some (.pu,.lst ds)=>some ds
 | _=>none
theorem vh {fe:Rho->Option Rv} (hc:X.calm=true) (hr:iz 2 X.A) (hg:Gl X "sorted") (hm:X.mg "sorted" = none) (M:Mkr X c P) (Lm:Ce X params body scope ix x i0 g) (ha:PX X e fe)
 (he:ao [e] X.env=[(false,bL e X.env)]:=by exact bD rfl) :
 PX X (.Call (.Name "sorted" p) [e] [⟨some "key",.Lambda params body scope lpos,kpos⟩] pos) (jO ix i0 (pB fe) g):=by
 intro pins s σ H Q I ⟨B,G,ρ,r,sg,sb,st,eq,k⟩
 unfold jO at eq
 split at eq
 ·cases eq
 ·rename_i ds efi
  split at eq
  ·cases eq
  ·rename_i es ees
   cases eq
   unfold pB at efi
   split at efi
   ·rename_i ds' ee
    cases efi
    refine fw (mz (u:=.builtin "sorted") I hg hm (by decide +kernel) ?_)
    refine Bh (thn (e6 ha jx he pos pins s σ H (fun vs H1=>∃ G1 rr xs,vs=[.ref rr]/\Ext G H G1 H1/\SqL X.K G1 rr xs/\cD X.K G1 ds xs) I ?_) fun us s1 ⟨vs,H1,I1,r1,G1,rr,xs,ev,E1,hrr,dl⟩=>?_) (by rw [he];rfl) (by rw [he];rfl)
    ·refine ⟨B,G,ρ,_,sg,sb,st,ee,fun v G1 H1 E1 r1=>?_⟩
     obtain ⟨a,xs,rfl,q1,d1⟩:=r1
     exact ⟨G1,a,xs,rfl,E1,q1,d1⟩
    ·subst ev
     obtain ⟨u,rfl,ru⟩:=kZ r1
     cases ru
     refine pX hc hr M Lm I1 sb st E1 (xs:=xs) (fun s2 H2 I2 sm=>?_) dl ees k
     obtain ⟨vs,cl,rv⟩:=rq (A:=X.A.in1) I2 (.inl (sm.seq (E1.gh.seq hrr)))
     exact EQ cl rv
   ·cases efi
end
section
variable {prog:bh} {w:bT} {A:bE} {E:ag->ai->Prop} {s:ai}
theorem yz {x:ag} {T:String} {xs:List V} {Q:ag->ai->Prop} (hT:s.TypeIs x T) (nt:(fH T == fH "tuple")=false) (col:iV prog w A.in1.in1 s x xs) (hn:xs.length<=aK)
 (h:∀ (h':b9) (tk:Nat) (vs:List ag),(∀ b o,s.heap.get? b=some o->h'.get? b=some o)->dJ xs vs->Q (.ref h'.objs.size) { s with heap:=h'.push { cls:=.type "tuple",data:=.seq vs.toArray },toks:=tk }):aN (aZ prog w) A (call (.type "tuple") [x]) Q E s:=by
 refine callType_codes (Q₁:=fun obj s₁=>s₁.TypeIs obj "tuple"/\Q obj s₁) PySem.F.called_tuple (PySem.F.typeCall_tuple_1 _) PySem.F.entry_object_init ?_ fun obj s₁ h₁ =>
  ⟨h₁.1,PySem.F.args_object_init_2 obj _,object_init_meets PySem.F.called_tuple.init.lookup PySem.F.called_tuple.made (by decide) prog w A.in1 _ s₁ ⟨h₁.1,rfl,h₁.2⟩⟩
 refine codeAny_of_tree ?_
 show aN _ A.in1.in1 (do checkBuiltinCall "tuple.__new__" ⟨[.type "tuple",x],[]⟩;again (.builtin "tuple.__new__" ⟨[.type "tuple",x],[]⟩)) _ _ s
 refine ac (Be (PySem.F.newCall_tuple_1 _) (aq ⟨fT pe _,dL PySem.F.entry_tuple_new ?_⟩))
 rw [dg pe _]
 have hsub:=sub_tuple_self
 have hinit:=init_tuple_lookup
 have hmh:=madeHere_tuple
 have colT:∀ {R:List ag->ai->Prop} {E:ag->ai->Prop},(∀ (h':b9) (tk:Nat) (vs:List ag),(∀ b o,s.heap.get? b=some o->h'.get? b=some o)->dJ xs vs->R vs { s with heap:=h',toks:=tk })->aN (aZ prog w) A.in1.in1 (tU x) R E s:=fun h=>col _ _ h
 wp_walk using ia hT,colT
 intro h' tk vs hk rv
 show aN _ _ (cY vs.toArray>>=fun v=>ret v) _ _ _
 unfold cY
 refine ac (cA ?_ (by show vs.toArray.size<=aK;rw [ax,<- rv.length];exact hn))
 refine aq ?_
 exact ⟨⟨_,aL _ rfl,rfl⟩,h h' tk vs hk rv⟩
end
section
variable {X:Cx} {a b e:aR} {p p2 pos pos2:d4} {fa fb:Rho->Option Rv} {g:Rho->Option (List Rv)}
theorem oS (hc:X.calm=true):j0 X (.type "tuple") (fun xs H Q=>∃ (r:au) (j:Int),xs=[.ref r]/\H r=some (.rng 0 j)/\-(2 ^ 62)<=j/\j<=1000000/\∀ l,H l=none->Q (.ref l) (upd H l (.tup ((bG j.toNat).map fun (i:Nat)=>V.int (i:Int))))):=by
 intro pins s σ H xs us Q I r h
 obtain ⟨r',j,rfl,hr,j1,j2,q⟩:=h
 obtain ⟨u,rfl,rx⟩:=kZ r
 cases rx
 obtain ⟨t,u,v,hr'⟩:=I.hok r' _ hr
 have hs:aK=16777216:=bu
 refine yz (T:="range") ⟨_,hr',rfl⟩ (by decide) (vx (A:=X.A.in1.in1) I (I.ok.hd hc) hr j1 j2) (by rw [af,fA];lia) fun h' tk vs kp rv=>?_
 have I2:Inv X pins σ H { s with heap:=h',toks:=tk }:=I.kept (t':=tk) kp
 exact ⟨.ref h'.objs.size,_,I2.laid (t':=tk) (o:=.tup _) (fun b o e=>ah _ e) (az _) ⟨⟨by rw [af,fA];lia,lH.new _ _⟩,vs,rv,mM _ _⟩,rfl,q _ (I2.hok.fresh (az _))⟩
noncomputable def gL (g:Rho->Option (List Rv)):Rho->Option Rv:=fun ρ=>match g ρ with
 | some [(_,.int j)]=>if -(2 ^ 62)<=j/\j<=1000000 then some (.pu,.tup (eW 0 j.toNat)) else none
 | _=>none
theorem vf (hg:Gl X "tuple") (hm:X.mg "tuple" = none) (hg2:Gl X "range") (hm2:X.mg "range" = none) (ha:PXA X [a] g) (hc:X.calm=true:=by rfl) (hs:ao [a] X.env=[(false,bL a X.env)]:=by exact bD rfl)
 (he:ao [.Call (.Name "range" p2) [a] [] pos2] X.env=[(false,bL (.Call (.Name "range" p2) [a] [] pos2) X.env)]:=by rfl):PX X (.Call (.Name "tuple" p) [.Call (.Name "range" p2) [a] [] pos2] [] pos) (gL g) :=
 PE.imp (lC (oS hc) hg hm (by decide +kernel) (e6 (nH hg2 hm2 ha hs) jx he) (by decide) (by decide) he rfl) fun σ H Q ⟨B,G,ρ,r,sg,sb,st,eq,k⟩=>by
  unfold gL at eq
  split at eq
  ·rename_i kd j ej
   split at eq
   ·rename_i hj
    cases eq
    refine ⟨B,G,ρ,_,sg,sb,st,ej,fun vs G1 H1 E1 r1=>?_⟩
    obtain ⟨v,rfl,r2⟩:=e7.one r1
    refine ⟨j,by rw [r2.int],fun rr hrr=>?_⟩
    refine ⟨rr,j,rfl,aU,hj.1,hj.2,fun l hl=>?_⟩
    have E2:=E1.trans (Ext.own (o:=.rng 0 j) E1.gh hrr)
    refine k _ _ _ (E2.trans (Ext.new E2.gh hl)) ⟨l,_,rfl,aU,?_⟩
    rw [fS]
    exact j3 j.toNat 0
   ·cases eq
  ·cases eq
theorem IA {A:bE} {E:ag->ai->Prop} {pins:List (au×cX)} {σ:St} {H:Hp} {s:ai} {a b:au} {kvs:List (List Key×V)} {k:List Key} {v:V} {r:ag} {Q:Unit->ai->Prop} (hu:A.units<cg) (I:Inv X pins σ H s) (e:H a=some (.dT kvs)) (eb:H b=some (.tup (k.map kV))) (l:kvs.length<aK)
 (rv:fZ v r) (h:∀ s',Inv X pins σ (upd H a (.dT (kt kvs k v))) s'->Q () s'):aN (aZ X.prog X.w) A (dictSet a (.ref b) r) Q E s:=by
 obtain ⟨z,hd,xs,rel,dd⟩:=GS I.hok e
 have hz:xs.length<=aK:=by rw [<- bY rel];exact z
 have hl:(kt kvs k v).length<=aK:=by have:=jm kvs k v;lia
 refine wpAny_dictSet_heap (knd:=i8 (cy X.prog X.w)) (hsz:=hz) hu (lF I.hok eb) dd fun h' dd' hs=>h _ ?_
 obtain ⟨q,es,ep,hq,h2,h3,h4,_,h5⟩:=dd'
 refine qT I (by rw [e];exact iH) hs ⟨q,hq⟩ ⟨hl,hd,_,(rel.put k eb rv).keeps fun c ys ec=>?_,q,es,ep,hq,h2,h3,h4,h5⟩
 rw [a8 (Jb ec e (fun z=>nomatch z))]
 exact ec
noncomputable def nv (fk fv:Rho->Option Rv):Rho->Option Rv:=fun ρ=>match fk ρ,fv ρ with
 | some (_,.tup ds),some r=>(match gs ds with
   | some ns=>if eG r=true then some (.fr,.dT [ns.map av] [r.2]) else none
   | none=>none)
 | _,_=>none
theorem za (hu:X.A.units+1<cg) (ha:PX X a fa) (hb:PX X b fb):PX X (.Dict [some a] [b] pos) (nv fa fb):=by
 intro pins s σ H Q I ⟨B,G,ρ,r,sg,sb,st,eq,k⟩
 unfold nv at eq
 split at eq
 ·rename_i kd ds rv efa efb
  split at eq
  ·rename_i ns en
   split at eq
   ·rename_i hpu
    cases eq
    have hn:=I.hok.fresh (az s.heap.objs.size)
    have I1:=I.laid (a:=s.heap.objs.size) (o:=.dT []) (h':=s.heap.push { cls:=.type "dict",data:=.dict #[] }) (t':=s.toks) (fun _ _ q=>ah _ q) (az _) (wm s.heap I.big)
    rw [arm_eval_Dict,zip_pairTrees [some a] [b] X.env pos rfl rfl,dictDisplay_pairs (pZ [some a] [b] X.env pos) (by simp [pZ]) (by simp [pZ])]
    refine ac (jJ (ac ?_))
    unfold subDict
    refine ac (wpAny_alloc ?_)
    refine ac (cN ?_)
    rw [if_pos (by simp [pZ])]
    have E0:Ext G H G (upd H s.heap.objs.size (.dT [])):=Ext.own sg hn
    refine ac (thn (wj ha hb zl pins _ σ _ (fun ps H2=>∃ x y G1 G2 H1,ps=[(x,y)]/\Ext G (upd H s.heap.objs.size (.dT [])) G1 H1/\gv X.K B (upd H s.heap.objs.size (.dT [])) G1 H1 (kd,.tup ds) x/\Ext G1 H1 G2 H2/\gv X.K B H1 G2 H2 rv y) I1
     ⟨B,G,ρ,_,E0.gh,sb.trans E0.hh,st.ext E0,efa,fun x G1 H1 E1 r1=>⟨B,G1,ρ,_,E1.gh,(sb.trans E0.hh).trans E1.hh,(st.ext E0).ext E1,efb,fun y G2 H2 E2 r2=>⟨x,y,G1,G2,H1,rfl,E1,r1,E2,r2⟩⟩⟩) fun ws s2 ⟨ps,H2,I2,rel,x,y,G1,G2,H1,ep,E1,r1,E2,r2⟩=>?_)
    subst ep
    obtain ⟨G3,E3,_,d3⟩:=r2.pure E2 hpu
    obtain ⟨t,xs,rfl,ht,dl,_⟩:=r1.tup E1.gh
    rw [gC en] at dl
    have ex:=cD.ints.mp dl
    have ek:ns.map V.int=(ns.map (av:Int->Key)).map kV:=by rw [aQ];rfl
    have e03:=(E0.trans E1).trans E3
    have hp2:H2 s.heap.objs.size=some (.dT []):=(E1.trans E3).hh _ _ aU
    have gp:G3 s.heap.objs.size=none:=(E1.trans E3).nw _ _ aU rfl (sg.free hn)
    have ht2:H2 t=some (.tup ((ns.map (av:Int->Key)).map kV)):=by rw [<- ek,<- ex];exact E3.hh _ _ ht
    cases rel with
    | @cons _ w _ _ h tl =>
      cases tl
      obtain ⟨wk,wv⟩:=w
      obtain ⟨h1,h2⟩:=h
      cases (show wk=bI t from h1)
      refine cN ?_
      refine ac ?_
      rw [Bc]
      refine ac (ac (IA (by lia) I2 hp2 ht2 (by rw [bu];decide) h2 fun s' I'=>aq ?_))
      dsimp only
      rw [pc]
      refine aq (aq (aq (aq ?_)))
      exact ⟨.ref s.heap.objs.size,_,I',rfl,k _ G3 _ (e03.mut hn gp) ⟨s.heap.objs.size,_,rfl,hn,gp,aU,[(ns.map av,y)],rfl,rfl,⟨y,[],rfl,d3,rfl⟩⟩⟩
   ·cases eq
  ·cases eq
 ·cases eq
end
section
variable {prog:bh} {w:bT} {A:bE} {E:ag->ai->Prop} {s:ai}
theorem uv:typeLookup (.type "list") "keys" = pure none:=by rw [typeLookup_type,builtinLookup_eq_fast];kernel_rfl
theorem yL {a:au} {xs:Array ag} {k:Nat} {Q:Option ag->ai->Prop} (hx:s.heap.get? a=some { cls:=.type "list",data:=.seq xs k }) (hA:A.handled=none)
 (h:∀ h' tk,(∀ b o,s.heap.get? b=some o->h'.get? b=some o)->Q none { s with heap:=h',toks:=tk }):aN (aZ prog w) A (getAttr? (.ref a) "keys") Q E s:=by
 obtain ⟨hp,g,d,tk,os⟩:=s
 have hT:∀ tk',(⟨hp,g,d,tk',os⟩:ai).TypeIs (.ref a) "list":=fun _=>⟨_,hx,rfl⟩
 have f1:=sub_AttributeError
 have f3:=PySem.F.slot_list_getattribute.lookup
 have f4:=PySem.F.slot_list_getattribute.bind (.ref a)
 have f5:=am_list_getattr_none
 unfold getAttr? getAttrBy? getAttrBy
 repeat (any_goals (first | assumption | exact hT _ | ((with_reducible show aN _ _ (call (Value.builtin "list.__getattribute__") _ _) _ _ _);refine nh PySem.F.slot_list_getattribute (hT _) am_entry_list_getattribute (PySem.F.args_list_getattribute_2 _ _) (meets_getattribute_miss_list a xs k #[] "keys" _ uv (by decide +kernel) (by rw [bu];decide)) ⟨hx,hA,fun h' tk' e hx'=>?_⟩) | wp_step))
 obtain ⟨t',u',he⟩:=hx'.there
 show aN _ _ (getattributeRaised _ _ _ _ _ _ _) _ _ _
 unfold getattributeRaised
 repeat (any_goals (first | assumption | wp_step))
 exact h _ _ hx'.keeps
theorem kG:entryFor table "dict.update.loop" = some Builtin.«dict.update.loop»:=entryFor_of_tree (by kernel_rfl)
theorem g6:plainId "dict.update.loop" = true:=by decide +kernel
noncomputable def sN (h:b9) (x:ag) (kv:Int×ag):Prop:=∃ (t:au) (o:cX) (m:Nat) (tk:xS),x=.ref t/\h.get? t=some o/\o.cls=.type "tuple"/\o.data=.seq #[.int kv.1 tk,kv.2] m
theorem sN.keep {h h':b9} {x:ag} {kv:Int×ag} (p:sN h x kv) (k:∀ b o,h.get? b=some o->(∀ o',o'=o->o'.cls=.type "tuple")->h'.get? b=some o):sN h' x kv:=by
 obtain ⟨t,o,m,tk,e,ho,hc,hd⟩:=p
 exact ⟨t,o,m,tk,e,k t o ho fun o' z=>by rw [z];exact hc,hc,hd⟩
theorem B6 {I l D:au} {its:Array ag} {T:List (Int×ag)} {R:xT->ai->Prop} (hh:A.in1.handled=none) (hIl:l≠I) (hDI:D≠I) (hDl:D≠l) (hT:T.length=its.size) (hn:T.length<=1000) :
 ∀ (k i:Nat) (s:ai),its.size-i=k->i<=its.size->s.heap.IsListIter I l i->s.heap.IsList l its->s.heap.DictOf (cy prog w) D (merged [] ((T.map fun e=>((av e.1:Key),e.2)).take i)) ->
 (∀ j (hj:j<its.size) kv,T[j]?=some kv->sN s.heap its[j] kv) ->
 (∀ s',(∀ b o,b≠I->b≠D->s.heap.get? b=some o->s'.heap.get? b=some o)->s'.heap.DictOf (cy prog w) D (merged [] (T.map fun e=>((av e.1:Key),e.2)))->s'.gens=s.gens->s'.drawn=s.drawn->s'.os=s.os->R (.ok (.ret .none)) s') ->
 kI (aZ prog w) A (.builtin "dict.update.loop" ⟨[.ref D,.ref I,je i,.none],[]⟩) R s:=by
 have W:=oN (prog:=prog) (w:=w) (A:=A.in1) hh I l hIl its
 intro k
 induction k with
 | zero =>
   intro i s hk hi hit hl hd hp hR
   have hin:i=its.size:=by lia
   subst hin
   refine dL kG ?_
   rw [dg g6 _]
   show aN _ A.in1 (jH (.ref I)>>=_) _ _ s
   refine ac (W.done s _ _ ⟨hit,hl⟩ fun h' tk hm=>?_)
   show aN _ _ (Builtin.Dict.addKeywords D []>>=_) _ _ _
   refine ac (aq (aq (hR _ (fun b o hb _ e=>hm b o (by simpa using hb) e) ?_ rfl rfl rfl)))
   rw [dI (by rw [af];lia)] at hd
   exact hd.extBut (fun b o hb e=>hm b o (by simpa using hb) e) hDI
 | succ k ih =>
   intro i s hk hi hit hl hd hp hR
   have hlt:i<its.size:=by lia
   refine dL kG ?_
   rw [dg g6 _]
   show aN _ A.in1 (jH (.ref I)>>=_) _ _ s
   refine ac (W.item i s _ _ hlt ⟨hit,hl⟩ fun v h' tk hP hst hm=>?_)
   have hm':∀ b o,b≠I->s.heap.get? b=some o->h'.get? b=some o:=fun b o hb e=>hm b o (by simpa using hb) e
   have hiT:i<T.length:=by lia
   have ev:v=its[i]:=by rw [gf hlt] at hP;exact (bH hP).symm
   obtain ⟨t,o,m,tk1,ex,ho,hc,hdt⟩:=hp i hlt T[i] (aj hiT)
   have hitObj:∃ oI,s.heap.get? I=some oI/\oI.cls=.type "list_iterator":=let ⟨oI,e,c,_⟩:=hit;⟨oI,e,c⟩
   have htI:t≠I:=fun z=>by
    obtain ⟨oI,e1,c1⟩:=hitObj
    rw [<- z,ho] at e1
    cases e1
    rw [hc] at c1
    injection c1 with z2
    exact absurd z2 (by decide)
   have ho':=hm' t o htI ho
   rw [ev,ex]
   refine ac (cN ?_)
   refine ac (ie ?_)
   unfold Builtin.Dict.pairItems
   refine ac (ia (T:="tuple") ⟨o,ho',hc⟩ ?_)
   rw [if_pos (by decide)]
   refine ac ?_
   unfold p6
   refine ac (m9 ho' ?_)
   rw [hdt]
   refine aq (aq ?_)
   show aN _ _ (tP [eC T[i].1 tk1,T[i].2] (dictSet D (.int T[i].1 tk1) T[i].2)) _ _ _
   have hd':h'.DictOf (cy prog w) D (merged [] ((T.map fun e=>((av e.1:Key),e.2)).take i)):=hd.extBut (fun b o hb e=>hm' b o hb e) hDI
   have hlen:(merged [] ((T.map fun e=>((av e.1:Key),e.2)).take i)).length<=aK:=by
    have h1:=merged_length_le [] ((T.map fun e=>((av e.1:Key),e.2)).take i)
    rw [f7,af,cK] at h1
    rw [bu]
    lia
   refine cN (wpAny_dictSet_pairs (s:={ s with heap:=h',toks:=tk }) (knd:=cy prog w) (k:=av T[i].1) (hsz:=hlen) (sP ⟨_,rfl⟩) hd' fun h'' hd'' hs=>?_)
   have hst2:h''.IsListIter I l (i+1):=let ⟨oI,e1,r1⟩:=hst.1;⟨oI,(hs.2 I (Ne.symm hDI)).trans e1,r1⟩
   have hst3:h''.IsList l its:=let ⟨oI,e1,r1⟩:=hst.2;⟨oI,(hs.2 l (Ne.symm hDl)).trans e1,r1⟩
   have hdObj:∃ oD,s.heap.get? D=some oD/\oD.cls=.type "dict":=let ⟨oD,_,_,e1,c1,_⟩:=hd;⟨oD,e1,c1.1⟩
   have hk2:∀ b o,b≠I->b≠D->s.heap.get? b=some o->h''.get? b=some o:=fun b o h1 h2 e=>(hs.2 b h2).trans (hm' b o h1 e)
   refine aq ⟨fT g6 _,?_⟩
   have:=ih (i+1) { s with heap:=h'',toks:=tk+1 } (by lia) hlt hst2 hst3 ?_ (fun j hj kv hkv=>?_) fun s' k' d' g1 g2 g3=>hR s' (fun b o h1 h2 e=>k' b o h1 h2 (hk2 b o h1 h2 e)) d' g1 g2 g3
   ·exact this
   ·rw [merged_take_succ (kv:=((av T[i].1:Key),T[i].2)) _ _ _ (by rw [aC,aj hiT];rfl)]
    exact hd''
   ·refine (hp j hj kv hkv).keep fun b o e hc'=>hk2 b o (fun z=>?_) (fun z=>?_) e
    ·obtain ⟨oI,e1,c1⟩:=hitObj
     rw [<- z,e] at e1
     cases e1
     rw [hc' _ rfl] at c1
     injection c1 with z2
     exact absurd z2 (by decide)
    ·obtain ⟨oI,e1,c1⟩:=hdObj
     rw [<- z,e] at e1
     cases e1
     rw [hc' _ rfl] at c1
     injection c1 with z2
     exact absurd z2 (by decide)
theorem qZ {l:au} {its:Array ag} {n:Nat} {T:List (Int×ag)} {Q:ag->ai->Prop} (hh:A.handled=none) (hl:s.heap.get? l=some { cls:=.type "list",data:=.seq its n }) (hT:T.length=its.size) (hn:T.length<=1000) (nd:(T.map (·.1)).Nodup)
 (hp:∀ j (hj:j<its.size) kv,T[j]?=some kv->sN s.heap its[j] kv)
 (h:∀ h' tk,(∀ b o,s.heap.get? b=some o->h'.get? b=some o)->h'.DictOf (cy prog w) s.heap.objs.size (T.map fun e=>((av e.1:Key),e.2))->Q (.ref s.heap.objs.size) { s with heap:=h',toks:=tk }) :
 aN (aZ prog w) A (call (.type "dict") [.ref l]) Q E s:=by
 refine callType_codes (Q₁:=fun obj s₁=>obj=.ref s.heap.objs.size/\s₁={ s with heap:=s.heap.push { cls:=.type "dict",data:=.dict #[] } }) PySem.F.kt_called_dict (PySem.F.kt_typeCall_dict_1 _) PySem.F.entry_dict_init (kt_code_dict_new _ ⟨rfl,rfl⟩) ?_
 rintro obj s₁ ⟨rfl,rfl⟩
 have hnew:(s.heap.push { cls:=.type "dict",data:=.dict #[] }).DictOf (cy prog w) s.heap.objs.size []:=tT s.heap
 have hl':(s.heap.push { cls:=.type "dict",data:=.dict #[] }).get? l=some { cls:=.type "list",data:=.seq its n }:=ah _ hl
 have hDl:s.heap.objs.size≠l:=fun e=>absurd (aG hl) (by rw [e];exact cb _)
 refine ⟨hnew.typeIs,PySem.F.args_dict_init_2 _ _,?_⟩
 unfold Builtin.«dict.__init__»
 refine ac ?_
 unfold Builtin.Dict.selfAndRest
 refine ac (AW hnew.typeIs ?_)
 show aN _ _ (pure (s.heap.objs.size,[bI l])) _ _ _
 refine aq ?_
 show aN _ _ (mP "dict.__init__" s.heap.objs.size (.ref l) [] .none) _ _ _
 unfold mP
 refine ac (ia (T:="list") ⟨_,hl',rfl⟩ ?_)
 rw [if_pos (by decide)]
 refine ac (yL hl' hh fun h1 tk1 k1=>?_)
 rw [if_pos (show (none:Option ag).isNone=true from rfl)]
 refine ac (t8 ?_)
 have hl1:h1.IsList l its:=⟨_,k1 _ _ hl',rfl,n,rfl⟩
 refine ac (jE (s:={ s with heap:=h1,toks:=tk1 }) hl1 ?_)
 have hD1:h1.DictOf (cy prog w) s.heap.objs.size []:=hnew.keep k1
 have hDlt:s.heap.objs.size<h1.objs.size:=let ⟨o,_,_,e,_⟩:=hD1;aG e
 refine aq ⟨fT g6 _,?_⟩
 have hnd:((T.map fun e=>((av e.1:Key),e.2)).map (·.1)).Nodup:=by
  rw [aQ]
  have:(T.map ((·.1)∘fun e:Int×ag=>((av e.1:Key),e.2)))=(T.map (·.1)).map (av:Int->Key):=by rw [aQ];rfl
  rw [this]
  exact bx.mpr (nd.imp fun {a b} z y=>z (cM y))
 have hll:l<h1.objs.size:=let ⟨o,e,_⟩:=hl1;aG e
 refine B6 (prog:=prog) (w:=w) (A:=A.in1) (D:=s.heap.objs.size) (I:=h1.objs.size) (l:=l) (its:=its) (T:=T) hh (be hll) (be hDlt) hDl hT hn its.size 0 { s with heap:=h1.push { cls:=.type "list_iterator",data:=.fields #[.ref l,.int 0 0] },toks:=tk1 } (by lia) (bW _) ⟨_,aL _ rfl,rfl,rfl⟩ (hl1.at fun o e=>ah _ e) (by rw [List.take_zero];exact hD1.push _) (fun j hj kv hkv=>(hp j hj kv hkv).keep fun b o e _=>ah _ (k1 b o (ah _ e))) fun s' k' d' g1 g2 g3=>?_
 rw [merged_nil_of_nodup _ hnd] at d'
 refine ⟨rfl,?_⟩
 obtain ⟨hp',gg,dd,tt,oo⟩:=s'
 cases g1
 cases g2
 cases g3
 refine h hp' tt (fun b o e=>k' b o ?_ ?_ (ah _ (k1 b o (ah _ e)))) d'
 ·exact be (Nat.lt_trans (aG e) hDlt)
 ·exact be (aG e)
end
section
variable {X:Cx} {e:aR} {p pos:d4} {f:Rho->Option Rv}
theorem rQ (hc:X.calm=true):j0 X (.type "dict") (fun xs H Q=>∃ (a:au) (T:List (Int×Int)) (ts:List au),xs=[.ref a]/\H a=some (.lst (ts.map V.ref))/\ts.length=T.length/\(∀ (j:Nat) (t:au) (p:Int×Int),ts[j]?=some t->T[j]?=some p->H t=some (.tup [.int p.1,.int p.2]))/\T.length<=1000/\(T.map (·.1)).Nodup /\
 ∀ D,H D=none->Q (.ref D) (upd H D (.dK (T.map fun e=>((av e.1:Key),V.int e.2))))):=by
 intro pins s σ H xs us Q I r h
 obtain ⟨a,T,ts,rfl,ha,hlt,htup,h1000,nd,q⟩:=h
 obtain ⟨u,rfl,rx⟩:=kZ r
 cases rx
 obtain ⟨z,its,n,rv,e⟩:=I.hok a _ ha
 have hli:its.length=ts.length:=by rw [<- rv.length,af]
 have at':∀ j (hj:j<ts.length),∃ (o:cX) (m:Nat) (tk tk2:xS),its.toArray[j]?=some (.ref ts[j])/\s.heap.get? ts[j]=some o/\o.cls=.type "tuple"/\o.data=.seq #[.int (T[j]'(by lia)).1 tk,.int (T[j]'(by lia)).2 tk2] m:=fun j hj=>by
  obtain ⟨u,hu,ru⟩:=rv.get (i:=j) (x:=.ref ts[j]) (by rw [aC,aj hj];rfl)
  cases (show u=bI ts[j] from ru)
  obtain ⟨_,its2,rv2,o,ho,hcl,m,hd⟩:=I.hok ts[j] _ (htup j ts[j] (T[j]'(by lia)) (aj hj) (aj (by lia)))
  obtain ⟨u1,u2,rfl,⟨tk,e1⟩,⟨tk2,e2⟩⟩:=dJ.two rv2
  subst e1 e2
  exact ⟨o,m,tk,tk2,by simpa using hu,ho,hcl,hd⟩
 obtain ⟨vs,hvl,hvs⟩:∃ vs:List (Int×ag),vs.length=T.length/\∀ j (hj:j<T.length),∃ tk2,vs[j]?=some (T[j].1,.int T[j].2 tk2)/\∃ (o:cX) (m:Nat) (tk:xS),its.toArray[j]?=some (.ref (ts[j]'(by lia)))/\s.heap.get? (ts[j]'(by lia))=some o/\o.cls=.type "tuple"/\o.data=.seq #[.int T[j].1 tk,.int T[j].2 tk2] m:=by
  have g:∀ j:Fin T.length,∃ tk2:xS,∃ (o:cX) (m:Nat) (tk:xS),its.toArray[j.1]?=some (.ref (ts[j.1]'(by lia)))/\s.heap.get? (ts[j.1]'(by lia))=some o/\o.cls=.type "tuple"/\o.data=.seq #[.int T[j.1].1 tk,.int T[j.1].2 tk2] m:=fun j=>by
   obtain ⟨o,m,tk,tk2,h1,h2,h3,h4⟩:=at' j.1 (by lia)
   exact ⟨tk2,o,m,tk,h1,h2,h3,h4⟩
  refine ⟨List.ofFn fun j:Fin T.length=>(T[j.1].1,eC T[j.1].2 (lj (g j))),by simp,fun j hj=>⟨lj (g ⟨j,hj⟩),by simp [hj],pf (g ⟨j,hj⟩)⟩⟩
 have hfst:vs.map (·.1)=T.map (·.1):=by
  apply mv
  intro j
  by_cases hj:j<T.length
  ·obtain ⟨tk2,h1,_⟩:=hvs j hj
   rw [aC,h1,aC,aj hj]
   rfl
  ·rw [fq (by rw [af];lia),fq (by rw [af];lia)]
 refine qZ (T:=vs) (its:=its.toArray) (I.ok.hd hc) e (by rw [ax];lia) (by lia) (by rw [hfst];exact nd) (fun j hj kv hkv=>?_) fun h' tk kp dd=>?_
 ·rw [ax] at hj
  obtain ⟨tk2,h1,o,m,tk,h2,h3,h4,h5⟩:=hvs j (by lia)
  rw [h1] at hkv
  cases hkv
  have ei:its.toArray[j]=.ref (ts[j]'(by lia)):=by
   have:=h2
   rw [gf (by rw [ax];exact hj)] at this
   exact bH this
  exact ⟨_,o,m,tk,ei,h3,h4,h5⟩
 ·have rel:KV (T.map fun e=>((av e.1:Key),V.int e.2)) (vs.map fun e=>((av e.1:Key),e.2)):=by
   have go:∀ (T:List (Int×Int)) (vs:List (Int×ag)),vs.length=T.length->(∀ j (hj:j<T.length),∃ tk2,vs[j]?=some (T[j].1,.int T[j].2 tk2))->KV (T.map fun e=>((av e.1:Key),V.int e.2)) (vs.map fun e=>((av e.1:Key),e.2)):=fun T=>by
    induction T with
    | nil=>intro vs h1 _;cases vs with | nil=>exact .nil | cons _ _=>cases h1
    | cons x T ih =>
      intro vs h1 h2
      cases vs with
      | nil=>cases h1
      | cons y vs =>
        obtain ⟨tk2,e0⟩:=h2 0 (by simp)
        have e0:y=(x.1,.int x.2 tk2):=by simpa using e0
        subst e0
        exact .cons ⟨rfl,tk2,rfl⟩ (ih vs (by simpa using h1) fun j hj=>by
         obtain ⟨tk2,e⟩:=h2 (j+1) (by simpa using hj)
         exact ⟨tk2,by simpa using e⟩)
   exact go T vs hvl fun j hj=>by obtain ⟨tk2,h1,_⟩:=hvs j hj;exact ⟨tk2,h1⟩
  have hb:(s.heap.objs.size == cV)=false:=beq_eq_false_iff_ne.mpr (Ne.symm (be I.big))
  have hz:(T.map fun e=>((av e.1:Key),V.int e.2)).length<=aK:=by rw [af,bu];lia
  exact ⟨.ref s.heap.objs.size,_,I.laid (t':=tk) (o:=.dK (T.map fun e=>((av e.1:Key),V.int e.2))) kp (az _) (yO hz hb rel dd),rfl,q _ I.fresh⟩
noncomputable def qA (f:Rho->Option Rv):Rho->Option Rv:=fun ρ=>match f ρ with
 | some (.fr,.lst ds)=>(match dh ds with
   | some T=>if (T.map (·.1)).Nodup/\T.length<=1000 then some (.fr,.dK (T.map fun e=>av e.1) (T.map fun e=>.int e.2)) else none
   | none=>none)
 | _=>none
theorem wO {K:ae} {G:Hp}:∀ {ds:List Da} {T:List (Int×Int)} {xs:List V},dh ds=some T->cD K G ds xs->∃ ts:List au,xs=ts.map V.ref/\ts.length=T.length/\∀ (j:Nat) (t:au) (p:Int×Int),ts[j]?=some t->T[j]?=some p->G t=some (.tup [.int p.1,.int p.2]):=by
 intro ds
 fun_induction dh ds with
 | case1=>intro T xs e d;cases e;cases (show xs=[] from d);exact ⟨[],rfl,rfl,by simp⟩
 | case2 a b r ih =>
   intro T xs e d
   obtain ⟨T0,eT,rfl⟩:=rE.mp e
   obtain ⟨x,rr,rfl,d1,d2⟩:=d
   obtain ⟨t,ys,rfl,gt,dy⟩:=d1
   obtain ⟨y1,r1,rfl,e1,dy⟩:=dy
   obtain ⟨y2,r2,rfl,e2,e3⟩:=dy
   cases (show r2=[] from e3)
   cases (show y1=.int a from e1)
   cases (show y2=.int b from e2)
   obtain ⟨ts,h1,h2,h3⟩:=ih eT d2
   refine ⟨t::ts,by rw [h1];rfl,by simp [h2],fun j u p hj hp=>?_⟩
   cases j with
   | zero=>simp at hj hp;subst hj hp;exact gt
   | succ j=>exact h3 j u p (by simpa using hj) (by simpa using hp)
 | case3=>intro T xs e;cases e
theorem Ae (hc:X.calm=true) (hg:Gl X "dict") (hm:X.mg "dict" = none) (ha:PX X e f) (he:ao [e] X.env=[(false,bL e X.env)]:=by exact bD rfl):PX X (.Call (.Name "dict" p) [e] [] pos) (qA f) :=
 PE.imp (lC (rQ hc) hg hm (by decide +kernel) (e6 ha jx he) (by decide) (by decide) he rfl) fun σ H Q ⟨B,G,ρ,r,sg,sb,st,eq,k⟩=>by
  unfold qA at eq
  split at eq
  ·rename_i ds ef
   split at eq
   ·rename_i T eT
    split at eq
    ·rename_i hT
     cases eq
     refine ⟨B,G,ρ,_,sg,sb,st,ef,fun v G1 H1 E1 r1=>?_⟩
     obtain ⟨l,o,rfl,n1,g1,q1,xs,rfl,dl⟩:=r1
     obtain ⟨ts,rfl,hl,ht⟩:=wO eT dl
     refine ⟨l,T,ts,rfl,q1,hl,fun j t p h1 h2=>E1.gh _ _ (ht j t p h1 h2),hT.2,hT.1,fun D hD=>?_⟩
     refine k _ G1 _ (E1.trans (Ext.own E1.gh hD)) ⟨D,_,rfl,E1.hh.free hD,E1.gh.free hD,aU,_,rfl,by rw [aQ];rfl,?_⟩
     have:((T.map fun e=>((av e.1:Key),V.int e.2)).map (·.2))=(T.map (·.2)).map V.int:=by rw [aQ,aQ];rfl
     rw [this]
     have e2:(T.map fun e=>Da.int e.2)=(T.map (·.2)).map Da.int:=by rw [aQ];rfl
     rw [e2]
     exact cD.ints.mpr rfl
    ·cases eq
   ·cases eq
  ·cases eq
end
open AutoSeq1 (wpAny_loadPart') in
section
variable {prog:bh} {w:bT} {A:bE} {R:xT->ai->Prop} {I:au} {fp wr:List au} {n:Nat} {P:Nat->ag->Prop} {St:Nat->b9->Prop}
theorem yk (W:Walks prog w A.in1 I fp wr n P St) (bt:Nat->Nat->Bool) (hcmp:CmpOf prog w A.in1 .Gt P bt) (S:au) (hSf:S∉fp) (d:ag) :
 ∀ (k j:Nat) (s:ai) (its:Array ag) (c:Nat),n-j=k->j<=n->St j s.heap->s.heap.get? S=some (bR "list" its c)->(j=0/\its = #[]\/∃ vb i,j=i+1/\its = #[vb,vb]/\P (mw bt i) vb) ->
 (∀ v h' tk,(n=0/\v=d\/∃ i,n=i+1/\P (mw bt i) v)->(∀ b o,b∉wr->b≠S->s.heap.get? b=some o->h'.get? b=some o)->R (.ok (.ret v)) { s with heap:=h',toks:=tk }) ->
 kI (aZ prog w) A (.builtin "max.loop" ⟨[.ref I,.none,.ref S],[(cw "default",d)]⟩) R s:=by
 have hSw:S∉wr:=fun h=>hSf (W.sub _ h)
 have hname:(toString "max"++toString ".loop" : String) = "max.loop":=by decide
 intro k
 induction k with
 | zero =>
   intro j s its c hk hj hst hS hI hR
   have hin:j=n:=by lia
   subst hin
   refine dL p7 ?_
   rw [dg dB _]
   rcases hI with ⟨rfl,rfl⟩ | ⟨vb,i,rfl,rfl,hP⟩
   ·show aN _ A.in1 (p6 (.ref S)>>=_) _ _ s
    refine ac (lX hS rfl ?_)
    show aN _ A.in1 (tryCatch (jH (.ref I)) _>>=_) _ _ s
    refine ac (ie (W.done s _ _ hst fun h' tk hk'=>?_))
    refine ac (t8 (aq ?_))
    exact hR d _ tk (.inl ⟨rfl,rfl⟩) fun b o hbw hbS e=>hk' b o hbw e
   ·show aN _ A.in1 (p6 (.ref S)>>=_) _ _ s
    refine ac (lX hS rfl ?_)
    show aN _ A.in1 (tryCatch (jH (.ref I)) _>>=_) _ _ s
    refine ac (ie (W.done s _ _ hst fun h' tk hk'=>?_))
    have hS':=hk' S _ hSw hS
    show aN _ A.in1 (updateSeq S (fun _=>#[])>>=_) _ _ _
    refine ac ?_
    refine rN hS' rfl (ac (lW (aq ?_)))
    exact hR vb _ tk (.inr ⟨i,rfl,hP⟩) fun b o hbw hbS e=>(cF _ _ (Ne.symm hbS)).trans (hk' b o hbw e)
 | succ k ih =>
   intro j s its c hk hj hst hS hI hR
   have hlt:j<n:=by lia
   refine dL p7 ?_
   rw [dg dB _]
   rcases hI with ⟨rfl,rfl⟩ | ⟨vb,i,rfl,rfl,hPb⟩
   ·show aN _ A.in1 (p6 (.ref S)>>=_) _ _ s
    refine ac (lX hS rfl ?_)
    show aN _ A.in1 (tryCatch (jH (.ref I)) _>>=_) _ _ s
    refine ac (ie (W.item 0 s _ _ hlt hst fun v h' tk hP hst' hk'=>?_))
    have hS':=hk' S _ hSw hS
    show aN _ A.in1 (updateSeq S (fun _=>#[v,v])>>=_) _ _ _
    refine ac ?_
    refine rN hS' rfl ?_
    rw [hname]
    refine aq ⟨fT dB _,ih 1 _ _ _ (by lia) hlt (W.frame _ _ _ hst' fun b hbf o e=>?_) (j5 _ hS' rfl) (.inr ⟨v,0,rfl,rfl,hP⟩) fun v' h'' tk'' hP' hk''=>?_⟩
    ·exact (cF _ _ (fun h:S=b=>hSf (by rw [h];exact hbf))).trans e
    ·exact hR v' h'' tk'' hP' fun b o hbw hbS e=>hk'' b o hbw hbS ((cF _ _ (Ne.symm hbS)).trans (hk' b o hbw e))
   ·show aN _ A.in1 (p6 (.ref S)>>=_) _ _ s
    refine ac (lX hS rfl ?_)
    show aN _ A.in1 (tryCatch (jH (.ref I)) _>>=_) _ _ s
    refine ac (ie (W.item (i+1) s _ _ hlt hst fun v h' tk hP hst' hk'=>?_))
    have hS':=hk' S _ hSw hS
    show aN _ A.in1 (tryCatch (tP [v,v] (richCompare .Gt v vb>>=_)) _>>=_) _ _ _
    refine ac (ie (cN (ac (hcmp (i+1) (mw bt i) v vb _ _ _ hP hPb ?_))))
    refine ac (cN (c5 ?_))
    refine ac (lW (aq ?_))
    cases hb:bt (i+1) (mw bt i) with
    | true =>
      simp only [if_true]
      refine ac ?_
      refine rN hS' rfl (ac (lW ?_))
      rw [hname]
      refine aq ⟨fT dB _,ih (i+2) _ _ _ (by lia) hlt (W.frame _ _ _ hst' fun b hbf o e=>?_) (j5 _ hS' rfl) (.inr ⟨v,i+1,rfl,rfl,by simp only [mw,hb,if_true];exact hP⟩)
       fun v' h'' tk'' hP' hk''=>?_⟩
      ·exact (cF _ _ (fun h:S=b=>hSf (by rw [h];exact hbf))).trans e
      ·exact hR v' h'' tk'' hP' fun b o hbw hbS e=>hk'' b o hbw hbS ((cF _ _ (Ne.symm hbS)).trans (hk' b o hbw e))
    | false =>
      simp only [dO,if_false]
      refine ac (lW ?_)
      rw [hname]
      refine aq ⟨fT dB _,ih (i+2) _ _ c (by lia) hlt hst' hS' (.inr ⟨vb,i+1,rfl,rfl,by simp only [mw,hb,dO,if_false];exact hPb⟩) fun v' h'' tk'' hP' hk''=>?_⟩
      exact hR v' h'' tk'' hP' fun b o hbw hbS e=>hk'' b o hbw hbS (hk' b o hbw e)
end
theorem Ab (a v:ag):argsOk "max" ⟨[a],[(cw "default",v)]⟩:=by unfold argsOk;kernel_rfl
section
variable {prog:bh} {w:bT} {A:bE} {E:ag->ai->Prop} {s:ai} {l:au} {xs:Array (Int×xS)}
theorem tu {d:ag} {Q:ag->ai->Prop} (hh:A.handled=none) (hl:s.heap.IsList l (lU xs))
 (h:∀ v h' tk,(xs.size=0/\v=d\/0<xs.size/\(lU xs)[mw (fun i j=>decide (xJ xs i > xJ xs j)) (xs.size-1)]?=some v)->(∀ b o,s.heap.get? b=some o->h'.get? b=some o)->Q v { s with heap:=h',toks:=tk }) :
 aN (aZ prog w) A (call (.builtin "max") [.ref l] [(cw "default",d)]) Q E s:=by
 have hname:(toString "max"++toString ".loop" : String) = "max.loop":=by decide
 refine wpAny_call (codeAny_call_builtin PySem.F.plain_max PySem.F.entry_max ?_)
 have body:aN (aZ prog w) A.in1 (Builtin.«max» ⟨[.ref l],[(cw "default",d)]⟩) (fun fin s'=>match fin with
  | .done f=>(match (Except.ok f:xT) with | .ok (.ret v)=>Q v s' | .ok _=>False | .error e=>E e s')
  | .again c'=>c'.quiet=true/\kI (aZ prog w) A c' (fun r s'=>match r with | .ok (.ret v)=>Q v s' | .ok _=>False | .error e=>E e s') s') (fun e s'=>E e s') s:=by
  show aN _ A.in1 (ko "max" ["key","default"] 0 ⟨[],[(cw "default",d)]⟩>>=_) _ _ s
  refine ac (Be (show ko "max" ["key","default"] 0 ⟨[],[(cw "default",d)]⟩=pure [none,some d] from rfl) ?_)
  refine ac (aq ?_)
  refine ac (iter_intList hl fun s₂ e st hfp hlI=>?_)
  subst e
  refine ac (cA ?_)
  rw [hname]
  have W:=oN (prog:=prog) (w:=w) (A:=A.in1) hh s.heap.objs.size l hlI (lU xs)
  refine aq ⟨fT dB _,yk W _ (CmpOf.ints_gt (xJ xs) (fun _ _=>intItems_at)) _ (fun hm=>cb _ (hfp _ hm)) d _ 0 _ #[] 0 rfl (bW _) (W.frame _ _ _ st fun b _ o e=>ah _ e) (aL _ rfl) (.inl ⟨rfl,rfl⟩) fun v h' tk hP hk=>?_⟩
  refine h v h' tk ?_ (old_kept fun b o hbw e=>hk b o hbw (be (aG e)) (ah _ e))
  have hsz:(lU xs).size=xs.size:=by simp [lU]
  rw [hsz] at hP
  rcases hP with z | ⟨i,hi,hP⟩
  ·exact .inl z
  ·exact .inr ⟨by lia,by rw [hi];exact hP⟩
 simp only [checkBuiltinCall,PySem.F.kind_max]
 cases hsig:Manifest.signature? "max" with
 | none=>exact aq body
 | some sig =>
   have ha':Bind.checkArgs "max" sig ⟨[.ref l],[(cw "default",d)]⟩=pure ():=by simpa only [argsOk,hsig] using Ab (.ref l) d
   simp only [ha']
   exact aq body
end
theorem uN:∀ (r:List Int) (m:Int),m<=yI m r/\(∀ x∈r,x<=yI m r)/\(yI m r=m\/yI m r∈r)
 | [],m=>⟨Int.le_refl _,by simp,.inl rfl⟩
 | a::r,m=>by
   unfold yI
   by_cases hm:m<a
   ·rw [if_pos hm]
    obtain ⟨h1,h2,h3⟩:=uN r a
    refine ⟨by lia,fun x hx=>?_,.inr ?_⟩
    ·rcases aE.mp hx with z | z
     ·subst z;exact h1
     ·exact h2 x z
    ·rcases h3 with z | z
     ·rw [z];exact am
     ·exact al _ z
   ·rw [if_neg hm]
    obtain ⟨h1,h2,h3⟩:=uN r m
    refine ⟨h1,fun x hx=>?_,h3.imp id fun z=>al _ z⟩
    rcases aE.mp hx with z | z
    ·subst z;lia
    ·exact h2 x z
theorem Ai {a:Int} {r:List Int} {v:Int} (hm:v∈a::r) (hle:∀ x∈a::r,x<=v):yI a r=v:=by
 obtain ⟨h1,h2,h3⟩:=uN r a
 have h4:yI a r∈a::r:=h3.elim (fun z=>by rw [z];exact am) fun z=>al _ z
 have h5:=hle _ h4
 rcases aE.mp hm with z | z
 ·subst z;lia
 ·have:=h2 v z;lia
noncomputable def EC (d:Int):List Int->Int
 | []=>d
 | a::r=>yI a r
noncomputable def Bu (f g:Rho->Option Rv):Rho->Option Rv:=fun ρ=>match f ρ,g ρ with
 | some (_,.lst ds),some (_,.int d)=>(match gs ds with
   | some ns=>some (.pu,.int (EC d ns))
   | none=>none)
 | _,_=>none
theorem EN {X:Cx} {e e2:aR} {p pos kpos:d4} {fe fd:Rho->Option Rv} (hc:X.calm=true) (hg:Gl X "max") (hm:X.mg "max" = none) (ha:PX X e fe) (hb:PX X e2 fd)
 (he:ao [e] X.env=[(false,bL e X.env)]:=by exact bD rfl):PX X (.Call (.Name "max" p) [e] [⟨some "default",e2,kpos⟩] pos) (Bu fe fd):=by
 intro pins s σ H Q I ⟨B,G,ρ,r,sg,sb,st,eq,k⟩
 unfold Bu at eq
 split at eq
 ·rename_i k1 ds k2 d e1 e2'
  split at eq
  ·rename_i ns en
   cases eq
   refine fw (mz (u:=.builtin "max") I hg hm (by decide +kernel) ?_)
   refine Bh (thn (e6 ha jx he pos pins s σ H (fun vs H1=>∃ G1 v,vs=[v]/\Ext G H G1 H1/\gv X.K B H G1 H1 (k1,.lst ds) v) I ⟨B,G,ρ,_,sg,sb,st,e1,fun v G1 H1 E1 r1=>⟨G1,v,rfl,E1,r1⟩⟩) fun us s1 ⟨vs,H1,I1,r1,G1,v,ev,E1,rv1⟩=>?_) (by rw [he];rfl) (by rw [he];rfl)
   subst ev
   obtain ⟨u,rfl,ru⟩:=kZ r1
   show aN _ _ (evalAll ((do let v <- bL e2 X.env;tO pos;pure v)::[])) _ _ s1
   refine wpAny_evalAll_cons (ac (thn (hb pins s1 σ H1 (fun v2 H2=>∃ G2,Ext G1 H1 G2 H2/\v2=.int d) I1 ⟨B,G1,ρ,_,E1.gh,sb.trans E1.hh,st.ext E1,e2',fun v2 G2 H2 E2 r2=>⟨G2,E2,r2.int⟩⟩) fun u2 s2 ⟨v2,H2,I2,r2,G2,E2,ev2⟩=>ac (jJ (aq (wpAny_evalAll_nil ?_)))))
   subst ev2
   obtain ⟨t,rfl⟩:=r2
   show aN (aZ X.prog X.w) X.A (call (.builtin "max") [u] [(cw "default",.int d t)]) (EP X pins σ Q) X.xe s2
   obtain ⟨pp,ys,rfl,q,dl⟩:=(rv1.ext E2).lst E2.gh
   cases ru
   have:=gC en
   subst this
   have:=cD.ints.mp dl
   subst this
   obtain ⟨its,rv,pl,hz⟩:=I2.list q
   have hi:=eu rv
   have hh:X.A.handled=none:=I2.ok.hd hc
   obtain ⟨xs,ex⟩:=hi.allInts.items
   have hns:ns=xs.toList.map (·.1):=by
    rw [<- nums_intItems,<- ex]
    exact (show numsOf its.toArray.toList=ns from hi.numsOf).symm
   have hlen:ns.length=xs.size:=by rw [hns,af,bJ]
   have hl':s2.heap.IsList pp (lU xs):=ex▸pl.isList
   refine tu hh hl' fun v h' tk hv hk=>?_
   have fin:∀ t',v=.int (EC d ns) t'->EP X pins σ Q v { s2 with heap:=h',toks:=tk }:=fun t' ev =>
    ⟨.int (EC d ns),H2,I2.kept (t':=tk) hk,⟨t',ev⟩,k _ G2 H2 (E1.trans E2) rfl⟩
   rcases hv with ⟨h0,rfl⟩ | ⟨h0,hv⟩
   ·have:ns=[]:=nq (by lia)
    exact fin t (by rw [this];rfl)
   ·obtain ⟨t',rfl⟩:=intItems_at hv
    refine fin t' ?_
    cases ns with
    | nil=>simp at hlen;lia
    | cons a r =>
      obtain ⟨h1,h2⟩:=argBest_gt (xJ xs) (xs.size-1)
      have em:yI a r=xJ xs (mw (fun i j=>decide (xJ xs i > xJ xs j)) (xs.size-1)):=by
       refine Ai ?_ fun x hx=>?_
       ·rw [hns,numAt_eq];exact getD_mem (by rw [af,bJ];lia)
       ·rw [hns] at hx
        obtain ⟨j,hj,rfl⟩:=mem_getD hx
        rw [af,bJ] at hj
        rw [<- numAt_eq];exact h2 j (by lia)
      show eC _ _=eC (yI a r) _
      rw [em]
  ·cases eq
 ·cases eq
noncomputable def Iti (a:au) (o:cX) (kvs:List (Key×V)):It :=
 ⟨fun i H=>H a=some (.frz o (.dK kvs))/\i<kvs.length,fun i H x H'=>∃ l kv,x=.ref l/\H l=none/\kvs[i]?=some kv/\H'=upd H l (.tup [kV kv.1,kv.2]),fun i H=>H a=some (.frz o (.dK kvs))/\kvs.length=i⟩
noncomputable def wd (ks:List Key) (ds:List Da):List Da:=(ks.zip ds).map fun e=>.tup [i7 e.1,e.2]
theorem B9 {K:ae} {G:Hp} {a:au} {o:cX} {kvs:List (Key×V)} {ds:List Da} (q:G a=some (.frz o (.dK kvs))) (h:cD K G ds (kvs.map (·.2))):FK K (Iti a o kvs) (wd (kvs.map (·.1)) ds) G:=by
 intro i G' H' s1 s2
 have q2:=(s1.trans s2) _ _ q
 have hl:=h.length
 rw [af] at hl
 refine ⟨fun d e=>?_,fun hn=>⟨q2,by unfold wd at hn;rw [af,oz,af,<- hl,Nat.min_self] at hn;exact hn⟩⟩
 unfold wd at e
 rw [aC] at e
 cases z:((kvs.map (·.1)).zip ds)[i]? with
 | none=>rw [z] at e;cases e
 | some c =>
   rw [z] at e
   cases e
   obtain ⟨z1,z2⟩:=List.getElem?_zip_eq_some.mp z
   obtain ⟨x,hx,dx⟩:=h.get z2
   rw [aC] at z1 hx
   cases w:kvs[i]? with
   | none=>rw [w] at z1;cases z1
   | some kv =>
     rw [w] at z1 hx
     have e1:kv.1=c.1:=bH z1
     have e2:kv.2=x:=bH hx
     refine ⟨⟨q2,(aF.mp w).1⟩,fun y H'' u=>?_⟩
     obtain ⟨l,kv',rfl,hl',e',rfl⟩:=u
     rw [w] at e';cases e'
     refine ⟨_,Ext.new s2 hl',l,_,rfl,aU,cD.two ?_ ?_⟩
     ·rw [e1];exact sM _
     ·rw [e2];exact Den.mono (s1.trans (cj (s2.free hl'))) c.2 dx
theorem v4 {α β:Type} {F:α->β->Prop}:∀ {l₁:List α} {l₂:List β} {i:Nat} {a:α},m6 F l₁ l₂->l₁[i]?=some a->∃ b,l₂[i]?=some b/\F a b
 | _,_,i,a,.nil,e=>by simp at e
 | _,_,0,a,.cons h _,e=>by simp at e;subst e;exact ⟨_,rfl,h⟩
 | _,_,i+1,a,.cons _ r,e=>by simpa using v4 r (by simpa using e)
theorem wX {P:bh} {w:bT} {K:ae} {elts:List aR} {x1:Nat} {pos:d4} (a it:au) (o:cX) (kvs:List (Key×V)) (vs:List (Key×ag)) (ep:Nat) (es:Array km) (hd:o.data=.dict es ep) (rel:KV kvs vs) :
 DN P w K (.Tuple elts x1 pos) (Iti a o kvs) [it] it (fun i h=>∃ ok ov,IsItemIter h it a i vs.length ep ok ov) where
 mem:=by simp
 obj:=fun i h st b hb=>by
  have e:b=it:=by simpa using hb
  subst e
  obtain ⟨ok,ov,e⟩:=st
  exact ⟨_,e,fun v z=>by cases z⟩
 keep:=fun i h h' st k=>by
  obtain ⟨ok,ov,e⟩:=st
  exact ⟨ok,ov,k it (by simp) _ e⟩
 item:=by
  intro X hP hw hK hc i pins s σ H E I hf st hg
  subst hP hw hK
  obtain ⟨hq,hi⟩:=hg
  obtain ⟨ok,ov,st⟩:=st
  obtain ⟨ho,hm,vs',rel',dd⟩:=kg I hq
  have fi:=hf it (by simp)
  obtain ⟨kv,hkv⟩:∃ kv,kvs[i]?=some kv:=⟨kvs[i],by simp [hi]⟩
  obtain ⟨⟨k',x'⟩,hv,hk,ru⟩:=v4 rel' hkv
  obtain ⟨o2,es2,ep2,e2,r2⟩:=dd
  rw [ho] at e2;cases e2
  have hep:ep2=ep:=by
   have:=r2.2.1
   rw [hd] at this;cases this;rfl
  subst hep
  have hlen:vs.length=vs'.length:=by rw [<- bY rel,<- bY rel']
  rw [hlen] at st
  have li:it<s.heap.objs.size:=aG st
  refine wpAny_pyNext_items_item (knd:=cy X.prog X.w) st ⟨o,es2,ho,r2⟩ hv fun key h' hkey ho' hT hsz hkp=>⟨_,rfl,wpAny_letOwnedTupleGo_items ho' fun h2 he2 hs2=>?_⟩
  have fr:=I.hok.fresh (az s.heap.objs.size)
  dsimp only at hk ru
  subst hk
  have rk:fZ (kV kv.1) key:=by
   rcases dr (show qC kv.1 key=true from hkey) with ⟨z,t,e1,e2⟩ | ⟨z,t,e1,e2⟩
   ·rw [e1,e2];exact ⟨t,rfl⟩
   ·rw [e1,e2];exact ⟨t,rfl⟩
  have I1:Inv X pins σ (upd H s.heap.objs.size (.tup [kV kv.1,kv.2])) { s with heap:=s.heap.push { cls:=.type "tuple",data:=.seq #[key,x'] },toks:=s.toks } :=
   I.laid (t':=s.toks) (o:=.tup [kV kv.1,kv.2]) (fun b o e=>ah _ e) (az _) ⟨⟨by rw [bu];simp,lH.new _ _⟩,[key,x'],.cons rk (.cons ru .nil),mM _ _⟩
  have ne:upd H s.heap.objs.size (.tup [kV kv.1,kv.2]) it=H it:=a8 (be li)
  obtain ⟨f0,f1,f2,f3,f4,f5⟩:=fi
  have I2:=I1.turned (h':=h2) (t':=s.toks) (it:=it) (fun b o n1 eb=>by
   rcases Heap.get?_push_cases eb with ⟨rfl,rfl⟩ | q
   ·exact (hs2.2 _ n1).trans hT
   ·exact (hs2.2 _ n1).trans (hkp b o n1 q)) (by rw [ne];exact f0) f1 f3 f4 f5
  refine ⟨.ref s.heap.objs.size,_,I2,rfl,⟨_,kv,rfl,fr,hkv,rfl⟩,⟨_,_,by rw [hlen];exact he2⟩,fun b hb=>?_⟩
  have e:b=it:=by simpa using hb
  subst e
  rw [ne];exact f0
 done:=by
  intro X hP hw hK hc i pins s σ H E I hf st hg
  subst hP hw hK
  obtain ⟨hq,hi⟩:=hg
  obtain ⟨ok,ov,st⟩:=st
  obtain ⟨ho,hm,vs',rel',dd⟩:=kg I hq
  obtain ⟨f0,f1,f2,f3,f4,f5⟩:=hf it (by simp)
  obtain ⟨o2,es2,ep2,e2,r2⟩:=dd
  rw [ho] at e2;cases e2
  have hep:ep2=ep:=by
   have:=r2.2.1
   rw [hd] at this;cases this;rfl
  subst hep
  have hlen:vs.length=vs'.length:=by rw [<- bY rel,<- bY rel']
  rw [hlen] at st
  have hl:=bY rel'
  exact wpAny_pyNext_items_end (knd:=cy X.prog X.w) (I.ok.hd hc) st ⟨o,es2,ho,r2⟩ (fq (by lia)) fun h' eb=>⟨rfl,I.turned (t':=s.toks) (fun b o hb e=>eb b o hb e) f0 f1 f3 f4 f5⟩
 self:=fun _ _ _ _ _ st h=>by
  obtain ⟨ok,ov,st⟩:=st
  exact PySem.W.kcp_self st h
noncomputable def vU (f:Rho->Option Rv):Rho->Option (List Da):=fun ρ=>match f ρ with
 | some (.pu,.dK ks ds)=>some (wd ks ds)
 | _=>none
section
variable {X:Cx} {o:aR} {elts:List aR} {x1:Nat} {apos cpos pt:d4} {f:Rho->Option Rv}
theorem Am (he:PX X o f) (hbase:d6 o "items" X.env (bL o X.env)=bL o X.env:=by rfl) (hline:(apos.endLine == cpos.line)=true:=by rfl):PXI X (.Tuple elts x1 pt) (.Call (.Attribute o "items" apos) [] [] cpos) (vU f):=by
 intro pins s σ H R I ⟨B,G,ρ,ds,sg,sb,st,eq,k⟩
 unfold vU at eq
 split at eq
 ·rename_i ks vs q
  cases eq
  refine wpAny_Call_method0_late hbase hline (thn (he pins s σ H (fun v H1=>∃ G1,Ext G H G1 H1/\gv X.K B H G1 H1 (.pu,.dK ks vs) v) I ⟨B,G,ρ,_,sg,sb,st,q,fun v G1 H1 E1 r1=>⟨G1,E1,r1⟩⟩) fun u s1 ⟨v,H1,I1,rv,G1,E1,r1⟩=>?_)
  obtain ⟨a,oo,kvs,rfl,q1,ek,d1⟩:=r1
  cases rv
  have q2:=E1.gh _ _ q1
  obtain ⟨t1,t2,_⟩:=Dh I1 (.inl ⟨kvs,.inr ⟨oo,q2⟩⟩)
  obtain ⟨ho,hm,vs',rel,dd⟩:=kg I1 q2
  refine ⟨"dict","dict.items",o7,pg,PySem.F.type_dict_items,t1,t2,jz rfl (PySem.evalArgs_none ?_)⟩
  refine xU pg t1 PySem.F.entry_dict_items (PySem.F.args_dict_items_1 _) (meets_dict_items (cy X.prog X.w) a hm) ⟨⟨vs',dd⟩,?_⟩
  obtain ⟨o2,es,ep,e2,r2⟩:=dd
  rw [ho] at e2;cases e2
  have hv:Heap.IsItemsView (s1.heap.push { cls:=.type "dict_items",data:=.fields #[.ref a] }) s1.heap.objs.size a:=⟨_,aL _ rfl,rfl,rfl⟩
  refine wpAny_pyIter_items (knd:=cy X.prog X.w) hv ⟨oo,es,ah _ ho,r2⟩ ?_
  have I2:=I1.kept (t':=s1.toks) (h':=s1.heap.push { cls:=.type "dict_items",data:=.fields #[.ref a] }) fun b o e=>ah _ e
  generalize hh1:s1.heap.push { cls:=.type "dict_items",data:=.fields #[.ref a] }=h1 at I2
  refine ⟨h1.objs.size,[h1.objs.size],_,Iti a oo kvs,H1,rfl,I2.kept (t':=s1.toks) fun b o e=>ah _ e,wX a _ oo kvs vs' ep es r2.2.1 rel,⟨_,_,aL _ rfl⟩,fun b hb=>?_,k _ G1 H1 E1 (by rw [<- ek];exact B9 q1 d1)⟩
  have e:b=h1.objs.size:=by simpa using hb
  subst e
  exact I2.fpOk (az _) (I2.hok.fresh (az _))
 ·cases eq
end
open AutoSeq1 (wpAny_loadPart' idx_int) in
@[irreducible] noncomputable def QX (X:Cx) (e:aR) (f:Rho->Option Rv):Prop:=PX X e f
theorem QX.mk {X:Cx} {e:aR} {f:Rho->Option Rv} (h:PX X e f):QX X e f:=by unfold QX;exact h
theorem QX.out {X:Cx} {e:aR} {f:Rho->Option Rv} (h:QX X e f):PX X e f:=by unfold QX at h;exact h
@[irreducible] noncomputable def QXT (X:Cx) (e:aR) (f:Rho->Option Bool):Prop:=PXT X e f
theorem QXT.mk {X:Cx} {e:aR} {f:Rho->Option Bool} (h:PXT X e f):QXT X e f:=by unfold QXT;exact h
theorem QXT.out {X:Cx} {e:aR} {f:Rho->Option Bool} (h:QXT X e f):PXT X e f:=by unfold QXT at h;exact h
@[irreducible] noncomputable def QXW (X:Cx) (e:aR) (f:Rho->Option Bool):Prop:=PXW X e f
theorem QXW.mk {X:Cx} {e:aR} {f:Rho->Option Bool} (h:PXW X e f):QXW X e f:=by unfold QXW;exact h
theorem QXW.out {X:Cx} {e:aR} {f:Rho->Option Bool} (h:QXW X e f):PXW X e f:=by unfold QXW at h;exact h
@[irreducible] noncomputable def QXA (X:Cx) (es:List aR) (f:Rho->Option (List Rv)):Prop:=PXA X es f
theorem QXA.mk {X:Cx} {es:List aR} {f:Rho->Option (List Rv)} (h:PXA X es f):QXA X es f:=by unfold QXA;exact h
theorem QXA.out {X:Cx} {es:List aR} {f:Rho->Option (List Rv)} (h:QXA X es f):PXA X es f:=by unfold QXA at h;exact h
@[irreducible] noncomputable def QXS (X:Cx) (st:cq) (g:Rho->Res):Prop:=PXS X st g
theorem QXS.mk {X:Cx} {st:cq} {g:Rho->Res} (h:PXS X st g):QXS X st g:=by unfold QXS;exact h
theorem QXS.out {X:Cx} {st:cq} {g:Rho->Res} (h:QXS X st g):PXS X st g:=by unfold QXS at h;exact h
@[irreducible] noncomputable def pO (X:Cx) (st:List cq) (g:Rho->Res):Prop:=wl X st g
theorem pO.mk {X:Cx} {st:List cq} {g:Rho->Res} (h:wl X st g):pO X st g:=by unfold pO;exact h
theorem pO.out {X:Cx} {st:List cq} {g:Rho->Res} (h:pO X st g):wl X st g:=by unfold pO at h;exact h
@[irreducible] noncomputable def QXI (X:Cx) (tg iter:aR) (f:Rho->Option (List Da)):Prop:=PXI X tg iter f
theorem QXI.mk {X:Cx} {tg iter:aR} {f:Rho->Option (List Da)} (h:PXI X tg iter f):QXI X tg iter f:=by unfold QXI;exact h
theorem QXI.out {X:Cx} {tg iter:aR} {f:Rho->Option (List Da)} (h:QXI X tg iter f):PXI X tg iter f:=by unfold QXI at h;exact h
@[irreducible] noncomputable def QXG (X:Cx) (tg:aR) (t:Da->Rho->Option Rho):Prop:=PXG X tg t
theorem QXG.mk {X:Cx} {tg:aR} {t:Da->Rho->Option Rho} (h:PXG X tg t):QXG X tg t:=by unfold QXG;exact h
theorem QXG.out {X:Cx} {tg:aR} {t:Da->Rho->Option Rho} (h:QXG X tg t):PXG X tg t:=by unfold QXG at h;exact h
@[irreducible] noncomputable def xO (X:Cx) (ts:List aR) (t:List Da->Rho->Option Rho):Prop:=Eo X ts t
theorem xO.mk {X:Cx} {ts:List aR} {t:List Da->Rho->Option Rho} (h:Eo X ts t):xO X ts t:=by unfold xO;exact h
theorem xO.out {X:Cx} {ts:List aR} {t:List Da->Rho->Option Rho} (h:xO X ts t):Eo X ts t:=by unfold xO at h;exact h
@[irreducible] noncomputable def QXO (X:Cx) (e:Option aR) (f:Rho->Option (Option Int)):Prop:=PXO X e f
theorem QXO.mk {X:Cx} {e:Option aR} {f:Rho->Option (Option Int)} (h:PXO X e f):QXO X e f:=by unfold QXO;exact h
theorem QXO.out {X:Cx} {e:Option aR} {f:Rho->Option (Option Int)} (h:QXO X e f):PXO X e f:=by unfold QXO at h;exact h
@[irreducible] noncomputable def QTS (X:Cx) (ifs:List aR) (c:Rho->Option Bool):Prop:=PTS X ifs (tXT X.K c)
theorem QTS.mk {X:Cx} {ifs:List aR} {c:Rho->Option Bool} (h:PTS X ifs (tXT X.K c)):QTS X ifs c:=by unfold QTS;exact h
theorem QTS.out {X:Cx} {ifs:List aR} {c:Rho->Option Bool} (h:QTS X ifs c):PTS X ifs (tXT X.K c):=by unfold QTS at h;exact h
theorem fY {X:Cx}:QTS X [] (fun _=>some true):=QTS.mk Fa
theorem n5 {X:Cx} {c:aR} {t:Rho->Option Bool} (h:QXT X c t):QTS X [c] t:=QTS.mk (EG h.out)
structure EJ (X:Cx) (scope:dG) (tg elt:aR) (ifs:List aR) (t:Da->Rho->Option Rho) (c:Rho->Option Bool) (f:Rho->Option Rv):Prop where
 tg:∀ s H fp,QXG (inC X scope s H fp) tg t
 ifs:∀ s H fp,QTS (inC X scope s H fp) ifs c
 elt:∀ s H fp,QX (inC X scope s H fp) elt f
theorem EJ.out {X:Cx} {scope:dG} {tg elt:aR} {ifs:List aR} {t:Da->Rho->Option Rho} {c:Rho->Option Bool} {f:Rho->Option Rv} (h:EJ X scope tg elt ifs t c f):Ho X scope tg elt ifs t c f:=⟨fun s H fp=>(h.tg s H fp).out,fun s H fp=>(h.ifs s H fp).out,fun s H fp=>(h.elt s H fp).out⟩
theorem aw (i:Nat) {x:bv} {pos:d4} (hN:X.N[i]?=some x:=by rfl) (hv:Vis X.env.scope x:=by first | exact cR rfl | exact cL (cR rfl) | exact cL (cL rfl)) (hd:(x == ("__debug__" : bv))=false:=by decide)
 (hcd:(x == ("__classdict__" : bv))=false:=by decide):QX X (.Name x pos) (aY i):=QX.mk (jw (i:=i) (x:=x) (pos:=pos) (hN:=hN) (hv:=hv) (hd:=hd) (hcd:=hcd))
theorem b7 {i j pos}:QX X (.Constant (.int i) j pos) (xC (.int i)):=QX.mk (sV (i:=i) (j:=j) (pos:=pos))
theorem rP {b j pos}:QX X (.Constant (.bool b) j pos) (xC (.bl b)):=QX.mk (JJ (b:=b) (j:=j) (pos:=pos))
theorem eJ (ha:QX X a fa) (hb:QX X b fb):QX X (.BinOp a .Add b pos) (x2 gW fa fb):=QX.mk (DF (ha:=ha.out) (hb:=hb.out))
theorem tE (ha:QX X a fa) (hb:QX X b fb):QX X (.BinOp a .Mult b pos) (x2 (oI ol (·*·)) fa fb):=QX.mk (Dp (ha:=ha.out) (hb:=hb.out))
theorem C1 (ha:QX X a fa) (hb:QX X b fb):QX X (.BinOp a .Mod b pos) (x2 (oI (fun _ j=>decide (0<j)) (·%·)) fa fb):=QX.mk (IZ (ha:=ha.out) (hb:=hb.out))
theorem cn {pos:d4} (hu:X.A.units+1<cg) (ha:QX X a fa) (hb:QX X b fb) (hs:qB b:=by intro _ _;rfl):QX X (.Subscript a b pos) (x2 oIt fa fb):=QX.mk (vg (pos:=pos) (hu:=hu) (ha:=ha.out) (hb:=hb.out) (hs:=hs))
theorem aI:QXA X [] bU:=QXA.mk (l8 )
theorem ak {e:aR} {es:List aR} {f:Rho->Option Rv} {g:Rho->Option (List Rv)} (ha:QX X e f) (hr:QXA X es g) (hs:ao (e::es) X.env=(false,bL e X.env)::ao es X.env:=by exact bD rfl):QXA X (e::es) (aH f g):=QXA.mk (iL (e:=e) (es:=es) (f:=f) (g:=g) (ha:=ha.out) (hr:=hr.out) (hs:=hs))
theorem hO {es:List aR} {x1:Nat} {pos:d4} {g:Rho->Option (List Rv)} (h:QXA X es g):QX X (.Tuple es x1 pos) (lA g):=QX.mk (IE (es:=es) (x1:=x1) (pos:=pos) (g:=g) (h:=h.out))
theorem tH {es:List aR} {pos:d4} {g:Rho->Option (List Rv)} (h:QXA X es g):QX X (.List es pos) (B8 g):=QX.mk (F7 (es:=es) (pos:=pos) (g:=g) (h:=h.out))
theorem j8 {pos:d4}:QX X (.Dict [] [] pos) (xC2 (.fr,.dK [] [])):=QX.mk (vM (pos:=pos))
theorem Ci {pos:d4}:QX X (.Dict [] [] pos) (xC2 (.fr,.dT [] [])):=QX.mk (BD (pos:=pos))
theorem JG {o:oG} {op:Rv->Rv->Option Rv} (h:CR2 X o op) (ha:QX X a fa) (hb:QX X b fb) (hm:d5 o b=false:=by first | exact wb _ | with_unfolding_all rfl):QX X (.Compare a [o] [b] pos) (x2 op fa fb):=QX.mk (KM (o:=o) (op:=op) (h:=h) (ha:=ha.out) (hb:=hb.out) (hm:=hm))
theorem kr {o:oG} {op:Rv->Rv->Option Rv} (h:CR2 X o op) (ha:QX X a fa) (hb:QX X b fb) (hm:d5 o b=false:=by first | exact wb _ | with_unfolding_all rfl):QXT X (.Compare a [o] [b] pos) (tb (x2 op fa fb)):=QXT.mk (JW (o:=o) (op:=op) (h:=h) (ha:=ha.out) (hb:=hb.out) (hm:=hm))
theorem CC (ha:QXT X a ta):QXW X (.BoolOp .And [a] pos) ta:=QXW.mk (BC (ha:=ha.out))
theorem ER (ha:QXT X a ta):QXW X (.BoolOp .Or [a] pos) ta:=QXW.mk (Ew (ha:=ha.out))
theorem DK (ha:QXT X a ta) (hb:QXW X (.BoolOp .And (b::rest1) pos) tc):QXW X (.BoolOp .And (a::b::rest1) pos) (xt ta tc):=QXW.mk (DJ (ha:=ha.out) (hb:=hb.out))
theorem HI (ha:QXT X a ta) (hb:QXW X (.BoolOp .Or (b::rest1) pos) tc):QXW X (.BoolOp .Or (a::b::rest1) pos) (FP ta tc):=QXW.mk (HH (ha:=ha.out) (hb:=hb.out))
theorem Gh {e:aR} (h:QXW X e ta):QXT X e ta:=QXT.mk (JP (e:=e) (h:=h.out))
theorem Gr {op} (h:QX X a fa):QX X (.BoolOp op [a] pos) fa:=QX.mk (F4 (op:=op) (h:=h.out))
theorem F8 (ha:QX X a fa) (hb:QX X (.BoolOp .And (b::rest1) pos) fb):QX X (.BoolOp .And (a::b::rest1) pos) (FQ fa fb):=QX.mk (HA (ha:=ha.out) (hb:=hb.out))
theorem Jx (hc:QXT X c ta) (ha:QX X a fa) (hb:QX X b fb):QX X (.IfExp c a b pos) (xIf ta fa fb):=QX.mk (JQ (hc:=hc.out) (ha:=ha.out) (hb:=hb.out))
theorem sH (ha:QX X a fa) (he:∀ whole,isTrue a X.env whole=(do let v <- whole;tO a.pos;tP [v] (truthy v)):=by intro _;rfl):QXT X a (tTr fa):=QXT.mk (IT (ha:=ha.out) (he:=he))
theorem iO:pO X [] mr:=pO.mk (Fs )
theorem bp (h1:QXS X st1 g) (h2:pO X rest1 h):pO X (st1::rest1) (gw g h):=pO.mk (Bn (h1:=h1.out) (h2:=h2.out))
theorem bM (h1:QXS X st1 g):pO X [st1] g:=pO.mk (EA (h1:=h1.out))
theorem kB {c:aR} {a b:List cq} {t:Rho->Option Bool} (hc:QXT X c t) (ha:pO X a g) (hb:pO X b h):QXS X (.If c a b pos) (sIf t g h):=QXS.mk (GJ (c:=c) (a:=a) (b:=b) (t:=t) (hc:=hc.out) (ha:=ha.out) (hb:=hb.out))
theorem cO {i:Nat} {x:bv} (hN:X.N.Nodup) (he:QX X e f) (hi:X.N[i]?=some x:=by rfl) (hx:Loc X.env.scope x:=by first | exact cR rfl | exact cL rfl) (hs:eX e (some (.Name x pos')) pos.line X.env=pure false:=by rfl)
 (hf:X.fn x=true\/X.env.scope.names.lookup x=some .local:=by first | exact .inl rfl | exact .inr rfl | assumption):QXS X (.Assign [.Name x pos'] e pos) (j9 i f):=QXS.mk (Fg (i:=i) (x:=x) (hN:=hN) (he:=he.out) (hi:=hi) (hx:=hx) (hs:=hs) (hf:=hf))
theorem jh {i:Nat} {x:bv} (hN:X.N.Nodup) (he:QX X e f) (hi:X.N[i]?=some x:=by rfl) (hx:Loc X.env.scope x:=by first | exact cR rfl | exact cL rfl) (hs:eX e (some (.Name x pos')) pos.line X.env=pure false:=by rfl)
 (hf:X.fn x=true\/X.env.scope.names.lookup x=some .local:=by first | exact .inl rfl | exact .inr rfl | assumption):QXS X (.Assign [.Name x pos'] e pos) (wQ i f):=QXS.mk (Ez (i:=i) (x:=x) (hN:=hN) (he:=he.out) (hi:=hi) (hx:=hx) (hs:=hs) (hf:=hf))
theorem Ah (i:Nat) (h1:QXS X st1 g):QXS X st1 (fun ρ=>g (frz i ρ)):=QXS.mk (Fu (i:=i) (h1:=h1.out))
theorem ml {i:Nat} {x:bv} {p1 apos cpos:d4} (he:QX X e f) (hN:X.N[i]?=some x:=by rfl) (hv:Vis X.env.scope x:=by first | exact cR rfl | exact cL (cR rfl) | exact cL (cL rfl)) (hd:(x == ("__debug__" : bv))=false:=by decide)
 (hcd:(x == ("__classdict__" : bv))=false:=by decide)
 (hs:eX (.Call (.Attribute (.Name x p1) "append" apos) [e] [] cpos) none pos.line X.env=pure false:=by rfl) (hbase:d6 (.Name x p1) "append" X.env (bL (.Name x p1) X.env)=bL (.Name x p1) X.env:=by rfl)
 (hfew:((bZ cpos (ao [e] X.env)).all (fun x=>!x.1)&&(iE cpos (fm [] X.env)).all (fun x=>x.1.isSome)&&decide (([e]:List aR).length+([]:List f9).length+(if ([]:List f9).isEmpty then 0 else 1)<30))=true:=by rfl)
 (hline:(apos.endLine == cpos.line)=true:=by rfl) (hst:ao [e] X.env=[(false,bL e X.env)]:=by exact bD rfl) (hplain:(bZ cpos (ao [] X.env)).any (·.1)=false:=by rfl) :
 QXS X (.Expr (.Call (.Attribute (.Name x p1) "append" apos) [e] [] cpos) pos) (kX i f):=QXS.mk (wY (i:=i) (x:=x) (p1:=p1) (apos:=apos) (cpos:=cpos) (he:=he.out) (hN:=hN) (hv:=hv) (hd:=hd) (hcd:=hcd) (hs:=hs) (hbase:=hbase) (hfew:=hfew) (hline:=hline) (hst:=hst) (hplain:=hplain))
theorem fW {X:Cx} {e:aR} {f:Rho->Option Rv} (h:QX X e f):QX X e (jb f):=QX.mk (As (X:=X) (e:=e) (f:=f) (h:=h.out))
theorem ck {X:Cx} {e:aR} {f:Rho->Option Rv} {pos:d4} (he:QX X e f):QXS X (.Return (some e) pos) (fj f):=QXS.mk (BA (X:=X) (e:=e) (f:=f) (pos:=pos) (he:=he.out))
theorem eV (he:QX X e f):QXI X tg e (c4 f):=QXI.mk (uE (he:=he.out))
theorem dF {a:aR} {p:d4} {g:Rho->Option (List Rv)} (hg:Gl X "range") (hm:X.mg "range" = none) (ha:QXA X [a] g) (hs:ao [a] X.env=[(false,bL a X.env)]:=by exact bD rfl):QXI X tg (.Call (.Name "range" p) [a] [] pos) (k3 g):=QXI.mk (mi (a:=a) (p:=p) (g:=g) (hg:=hg) (hm:=hm) (ha:=ha.out) (hs:=hs))
theorem pG {a b:aR} {p:d4} {g:Rho->Option (List Rv)} (hg:Gl X "range") (hm:X.mg "range" = none) (ha:QXA X [a,b] g) (hs:ao [a,b] X.env=[(false,bL a X.env),(false,bL b X.env)]:=by rfl) (hs2:ao [b] X.env=[(false,bL b X.env)]:=by rfl) :
 QXI X tg (.Call (.Name "range" p) [a,b] [] pos) (Dn g):=QXI.mk (xx (a:=a) (b:=b) (p:=p) (g:=g) (hg:=hg) (hm:=hm) (ha:=ha.out) (hs:=hs) (hs2:=hs2))
theorem bS {i:Nat} {x:bv} (hN:X.N.Nodup) (hi:X.N[i]?=some x:=by rfl) (hx:Loc X.env.scope x:=by first | exact cR rfl | exact cL rfl) (hf:X.fn x=true\/X.env.scope.names.lookup x=some .local:=by first | exact .inl rfl | exact .inr rfl | assumption):QXG X (.Name x pos) (tgN i):=QXG.mk (BQ (i:=i) (x:=x) (hN:=hN) (hi:=hi) (hx:=hx) (hf:=hf))
theorem qG:xO X [] mV:=xO.mk (Et )
theorem iJ {e:aR} {es:List aR} {t:Da->Rho->Option Rho} {u:List Da->Rho->Option Rho} (h1:QXG X e t) (h2:xO X es u) (hs:(eD (e::es) X.env).map (·.2)=assign e X.env::(eD es X.env).map (·.2):=by rfl):xO X (e::es) (gE t u):=xO.mk (BH (e:=e) (es:=es) (t:=t) (u:=u) (h1:=h1.out) (h2:=h2.out) (hs:=hs))
theorem qR {es:List aR} {k n:Nat} {t:List Da->Rho->Option Rho} (hc:X.calm=true) (h:xO X es t) (hn:(eD es X.env).length=n:=by rfl) (hst:(eD es X.env).findIdx? (·.1)=none:=by rfl):QXG X (.Tuple es k pos) (tgT n t):=QXG.mk (Fy (es:=es) (k:=k) (n:=n) (t:=t) (hc:=hc) (h:=h.out) (hn:=hn) (hst:=hst))
theorem gA {X:Cx} {tg iter:aR} {body:List cq} {f:Rho->Option (List Da)} {t:Da->Rho->Option Rho} {g:Rho->Res} {pos:d4} (hp:mt (aZ X.prog X.w) X.A X.env X.xe) (hc:X.calm=true) (hi:QXI X tg iter f) (hg:QXG X tg t) (hb:pO X body g)
 (hs:∀ x,eM iter X.env x=pure x:=by intro _;rfl):QXS X (.For tg iter body [] pos) (oC f t g):=QXS.mk (Ey (X:=X) (tg:=tg) (iter:=iter) (body:=body) (f:=f) (t:=t) (g:=g) (pos:=pos) (hp:=hp) (hc:=hc) (hi:=hi.out) (hg:=hg.out) (hb:=hb.out) (hs:=hs))
theorem nJ {X:Cx} {c:aR} {body:List cq} {t:Rho->Option Bool} {g:Rho->Res} {pos:d4} (n:Nat) (hp:mt (aZ X.prog X.w) X.A X.env X.xe) (hc:QXT X c t) (hb:pO X body g):QXS X (.While c body [] pos) (kF t g n):=QXS.mk (yM (X:=X) (c:=c) (body:=body) (t:=t) (g:=g) (pos:=pos) (n:=n) (hp:=hp) (hc:=hc.out) (hb:=hb.out))
theorem eF (hc:X.calm=true) (S:CScope X scope ix) (hi:QXI X tg iter fi) (B:EJ X scope tg elt ifs t c f) (hs:∀ x,eM iter X.env x=pure x:=by intro _;rfl):QX X (.ListComp elt [⟨tg,iter,ifs,0⟩] scope pos) (fK ix fi t c f):=QX.mk (D4 (hc:=hc) (S:=S) (hi:=hi.out) (B:=B.out) (hs:=hs))
theorem kD (hg:Gl X "len") (hm:X.mg "len" = none) (ha:QXA X (e::es) g) (he:ao (e::es) X.env=(false,bL e X.env)::ao es X.env:=by exact bD rfl) (hpl:(bZ pos (ao es X.env)).any (·.1)=false:=by rfl):QX X (.Call (.Name "len" p) (e::es) [] pos) (xB oE g):=QX.mk (Dt (hg:=hg) (hm:=hm) (ha:=ha.out) (he:=he) (hpl:=hpl))
theorem gF (hg:Gl X "tuple") (hm:X.mg "tuple" = none) (ha:QXA X (e::es) g) (he:ao (e::es) X.env=(false,bL e X.env)::ao es X.env:=by exact bD rfl) (hpl:(bZ pos (ao es X.env)).any (·.1)=false:=by rfl):QX X (.Call (.Name "tuple" p) (e::es) [] pos) (xB fV g):=QX.mk (BE (hg:=hg) (hm:=hm) (ha:=ha.out) (he:=he) (hpl:=hpl))
theorem qN (hg:Gl X "list") (hm:X.mg "list" = none) (ha:QXA X (e::es) g) (he:ao (e::es) X.env=(false,bL e X.env)::ao es X.env:=by exact bD rfl) (hpl:(bZ pos (ao es X.env)).any (·.1)=false:=by rfl):QX X (.Call (.Name "list" p) (e::es) [] pos) (xB mq g):=QX.mk (FB (hg:=hg) (hm:=hm) (ha:=ha.out) (he:=he) (hpl:=hpl))
theorem lB (ha:QX X a fa):QX X (.UnaryOp .USub a pos) (wc fa):=QX.mk (GN (ha:=ha.out))
theorem kY {apos:d4} {o:aR} {fo:Rho->Option Rv} (hu:X.A.units+1<cg) (ho:QX X o fo) (ha:QX X a fa) (hb:QX X b fb) (hbase:d6 o "get" X.env (bL o X.env)=bL o X.env:=by rfl)
 (hfew:((bZ pos (ao [a,b] X.env)).all (fun x=>!x.1)&&(iE pos (fm [] X.env)).all (fun x=>x.1.isSome)&&decide (([a,b]:List aR).length+([]:List f9).length+(if ([]:List f9).isEmpty then 0 else 1)<30))=true:=by rfl)
 (hline:(apos.endLine == pos.line)=true:=by rfl) (htr:bZ pos (ao [a,b] X.env)=[(false,bL a X.env),(false,bL b X.env)]:=by rfl):QX X (.Call (.Attribute o "get" apos) [a,b] [] pos) (kq fo fa fb):=QX.mk (yn (apos:=apos) (o:=o) (fo:=fo) (hu:=hu) (ho:=ho.out) (ha:=ha.out) (hb:=hb.out) (hbase:=hbase) (hfew:=hfew) (hline:=hline) (htr:=htr))
theorem ny {i:Nat} {x:bv} {px:d4} (hu:X.A.units+64<cg) (hk:QX X a fa) (hv:QX X b fb) (hN:X.N[i]?=some x:=by rfl) (hvis:Vis X.env.scope x:=by first | exact cR rfl | exact cL (cR rfl) | exact cL (cL rfl)) (hd:(x == ("__debug__" : bv))=false:=by decide)
 (hcd:(x == ("__classdict__" : bv))=false:=by decide) (hs:eX b (some (.Subscript (.Name x px) a pos')) pos.line X.env=pure false:=by rfl):QXS X (.Assign [.Subscript (.Name x px) a pos'] b pos) (Cq i fa fb):=QXS.mk (DQ (i:=i) (x:=x) (px:=px) (hu:=hu) (hk:=hk.out) (hv:=hv.out) (hN:=hN) (hvis:=hvis) (hd:=hd) (hcd:=hcd) (hs:=hs))
theorem pV {i:Nat} {x:bv} {p1 apos cpos:d4} (he:QX X e f) (hN:X.N[i]?=some x:=by rfl) (hv:Vis X.env.scope x:=by first | exact cR rfl | exact cL (cR rfl) | exact cL (cL rfl)) (hd:(x == ("__debug__" : bv))=false:=by decide)
 (hcd:(x == ("__classdict__" : bv))=false:=by decide)
 (hs:eX (.Call (.Attribute (.Name x p1) "extend" apos) [e] [] cpos) none pos.line X.env=pure false:=by rfl) (hbase:d6 (.Name x p1) "extend" X.env (bL (.Name x p1) X.env)=bL (.Name x p1) X.env:=by rfl)
 (hfew:((bZ cpos (ao [e] X.env)).all (fun x=>!x.1)&&(iE cpos (fm [] X.env)).all (fun x=>x.1.isSome)&&decide (([e]:List aR).length+([]:List f9).length+(if ([]:List f9).isEmpty then 0 else 1)<30))=true:=by rfl)
 (hline:(apos.endLine == cpos.line)=true:=by rfl) (hst:ao [e] X.env=[(false,bL e X.env)]:=by exact bD rfl) (hplain:(bZ cpos (ao [] X.env)).any (·.1)=false:=by rfl) :
 QXS X (.Expr (.Call (.Attribute (.Name x p1) "extend" apos) [e] [] cpos) pos) (kO i f):=QXS.mk (xi (i:=i) (x:=x) (p1:=p1) (apos:=apos) (cpos:=cpos) (he:=he.out) (hN:=hN) (hv:=hv) (hd:=hd) (hcd:=hcd) (hs:=hs) (hbase:=hbase) (hfew:=hfew) (hline:=hline) (hst:=hst) (hplain:=hplain))
theorem bw {X:Cx} {k n:Nat} {ps:List bv} {fn:List Da->Option Da} {x:bv} {p pos:d4} {e:aR} {es:List aR} {g:Rho->Option (List Rv)} (C:Ca X.prog X.w X.K X.mg X.base x ps k n fn) (hr:iz k X.A) (hg:Gl X x) (ha:QXA X (e::es) g) (hlen:∀ ρ rs,g ρ=some rs->rs.length=n)
 (hdb:(x == ("__debug__" : bv))=false:=by decide) (he:ao (e::es) X.env=(false,bL e X.env)::ao es X.env:=by exact bD rfl) (hpl:(bZ pos (ao es X.env)).any (·.1)=false:=by rfl):QX X (.Call (.Name x p) (e::es) [] pos) (cm fn g):=QX.mk (qX (X:=X) (k:=k) (n:=n) (ps:=ps) (fn:=fn) (x:=x) (p:=p) (pos:=pos) (e:=e) (es:=es) (g:=g) (C:=C) (hr:=hr) (hg:=hg) (ha:=ha.out) (hlen:=hlen) (hdb:=hdb) (he:=he) (hpl:=hpl))
theorem FV (hc:X.calm=true) (hg:Gl X "all") (hm:X.mg "all" = none) (ha:QXA X (e::es) g) (he:ao (e::es) X.env=(false,bL e X.env)::ao es X.env:=by exact bD rfl) (hpl:(bZ pos (ao es X.env)).any (·.1)=false:=by rfl):QX X (.Call (.Name "all" p) (e::es) [] pos) (xB DG g):=QX.mk (Ip (hc:=hc) (hg:=hg) (hm:=hm) (ha:=ha.out) (he:=he) (hpl:=hpl))
theorem Ga (hc:X.calm=true) (hg:Gl X "any") (hm:X.mg "any" = none) (ha:QXA X (e::es) g) (he:ao (e::es) X.env=(false,bL e X.env)::ao es X.env:=by exact bD rfl) (hpl:(bZ pos (ao es X.env)).any (·.1)=false:=by rfl):QX X (.Call (.Name "any" p) (e::es) [] pos) (xB DP g):=QX.mk (HM (hc:=hc) (hg:=hg) (hm:=hm) (ha:=ha.out) (he:=he) (hpl:=hpl))
theorem qy:QXO X none oU:=QXO.mk (Cm )
theorem rf (ha:QX X a fa):QXO X (some a) (nM fa):=QXO.mk (CD (ha:=ha.out))
theorem qo {lo hi:Option aR} {fl fh:Rho->Option (Option Int)} (ha:QX X a fa) (hl:QXO X lo fl) (hh:QXO X hi fh):QX X (.Subscript a (.Slice lo hi none p2) pos) (jQ fa fl fh):=QX.mk (Br (lo:=lo) (hi:=hi) (fl:=fl) (fh:=fh) (ha:=ha.out) (hl:=hl.out) (hh:=hh.out))
theorem jR (hc:X.calm=true) (hg:Gl X "sorted") (hm:X.mg "sorted" = none) (ha:QXA X (e::es) g) (he:ao (e::es) X.env=(false,bL e X.env)::ao es X.env:=by exact bD rfl) (hpl:(bZ pos (ao es X.env)).any (·.1)=false:=by rfl):QX X (.Call (.Name "sorted" p) (e::es) [] pos) (xB gn g):=QX.mk (zG (hc:=hc) (hg:=hg) (hm:=hm) (ha:=ha.out) (he:=he) (hpl:=hpl))
theorem Eb (hc:X.calm=true) (hg:Gl X "max") (hm:X.mg "max" = none) (ha:QXA X (e::es) g) (he:ao (e::es) X.env=(false,bL e X.env)::ao es X.env:=by exact bD rfl) (hpl:(bZ pos (ao es X.env)).any (·.1)=false:=by rfl):QX X (.Call (.Name "max" p) (e::es) [] pos) (xB FO g):=QX.mk (Fq (hc:=hc) (hg:=hg) (hm:=hm) (ha:=ha.out) (he:=he) (hpl:=hpl))
theorem El (hg:Gl X "len") (hm:X.mg "len" = none) (ha:QXA X (e::es) g) (he:ao (e::es) X.env=(false,bL e X.env)::ao es X.env:=by exact bD rfl) (hpl:(bZ pos (ao es X.env)).any (·.1)=false:=by rfl):QX X (.Call (.Name "len" p) (e::es) [] pos) (xB xf g):=QX.mk (ES (hg:=hg) (hm:=hm) (ha:=ha.out) (he:=he) (hpl:=hpl))
theorem vn (hc:X.calm=true) (hg:Gl X "sum") (hm:X.mg "sum" = none) (ha:QXA X (e::es) g) (he:ao (e::es) X.env=(false,bL e X.env)::ao es X.env:=by exact bD rfl) (hpl:(bZ pos (ao es X.env)).any (·.1)=false:=by rfl):QX X (.Call (.Name "sum" p) (e::es) [] pos) (xB zk g):=QX.mk (IB (hc:=hc) (hg:=hg) (hm:=hm) (ha:=ha.out) (he:=he) (hpl:=hpl))
theorem CL (ha:QX X a fa) (hb:QX X b fb):QX X (.Dict [some a] [b] pos) (sv fa fb):=QX.mk (Bk (ha:=ha.out) (hb:=hb.out))
theorem BK (i:Nat) {X:Cx} {e:aR} {f:Rho->Option Rv} (h:QX X e f):QX X e (tG i f):=QX.mk (vH (i:=i) (X:=X) (e:=e) (f:=f) (h:=h.out))
theorem EU (i:Nat) {X:Cx} {e:aR} {f:Rho->Option Rv} (h:QX X e f):QX X e (w6 i f):=QX.mk (Er (i:=i) (X:=X) (e:=e) (f:=f) (h:=h.out))
theorem om (hg:Gl X "tuple") (hm:X.mg "tuple" = none) (hg2:Gl X "range") (hm2:X.mg "range" = none) (ha:QXA X [a] g) (hc:X.calm=true:=by rfl) (hs:ao [a] X.env=[(false,bL a X.env)]:=by exact bD rfl)
 (he:ao [.Call (.Name "range" p2) [a] [] pos2] X.env=[(false,bL (.Call (.Name "range" p2) [a] [] pos2) X.env)]:=by rfl):QX X (.Call (.Name "tuple" p) [.Call (.Name "range" p2) [a] [] pos2] [] pos) (gL g):=QX.mk (vf (hg:=hg) (hm:=hm) (hg2:=hg2) (hm2:=hm2) (ha:=ha.out) (hc:=hc) (hs:=hs) (he:=he))
theorem AB (hu:X.A.units+1<cg) (ha:QX X a fa) (hb:QX X b fb):QX X (.Dict [some a] [b] pos) (nv fa fb):=QX.mk (za (hu:=hu) (ha:=ha.out) (hb:=hb.out))
theorem zF (hc:X.calm=true) (hg:Gl X "dict") (hm:X.mg "dict" = none) (ha:QX X e f) (he:ao [e] X.env=[(false,bL e X.env)]:=by exact bD rfl):QX X (.Call (.Name "dict" p) [e] [] pos) (qA f):=QX.mk (Ae (hc:=hc) (hg:=hg) (hm:=hm) (ha:=ha.out) (he:=he))
theorem Ea {X:Cx} {e e2:aR} {p pos kpos:d4} {fe fd:Rho->Option Rv} (hc:X.calm=true) (hg:Gl X "max") (hm:X.mg "max" = none) (ha:QX X e fe) (hb:QX X e2 fd)
 (he:ao [e] X.env=[(false,bL e X.env)]:=by exact bD rfl):QX X (.Call (.Name "max" p) [e] [⟨some "default",e2,kpos⟩] pos) (Bu fe fd):=QX.mk (EN (X:=X) (e:=e) (e2:=e2) (p:=p) (pos:=pos) (kpos:=kpos) (fe:=fe) (fd:=fd) (hc:=hc) (hg:=hg) (hm:=hm) (ha:=ha.out) (hb:=hb.out) (he:=he))
theorem zq (he:QX X o f) (hbase:d6 o "items" X.env (bL o X.env)=bL o X.env:=by rfl) (hline:(apos.endLine == cpos.line)=true:=by rfl):QXI X (.Tuple elts x1 pt) (.Call (.Attribute o "items" apos) [] [] cpos) (vU f):=QXI.mk (Am (he:=he.out) (hbase:=hbase) (hline:=hline))
section
variable {X:Cx} {a body:aR} {params:ip} {scope:dG} {p p2 pos pos2 kpos lpos:d4} {c P:au} {ix:List (Option Nat)} {x:bv} {i0:Nat} {g:Rho->Option Rv} {ga:Rho->Option (List Rv)}
structure Jh (X:Cx) (params:ip) (body:aR) (scope:dG) (ix:List (Option Nat)) (x:bv) (i0:Nat) (g:Rho->Option Rv):Prop where
 S:we X scope ix x i0
 df:defaultsOf params X.env=([],[])
 bind:∀ (q:bv) (cl:List (bv×au)) (pm cd ctv u:ag),iD (np "<lambda>" q params body scope cl pm cd ctv) ⟨[u],[]⟩=pure [(x,u)]
 body:∀ (q:bv) (f c':au) (s:ai) (H:Hp),QX (Bw X X.A.in1.in1 scope q f c' s H) body g
theorem Jh.out (h:Jh X params body scope ix x i0 g):Ce X params body scope ix x i0 g:=⟨h.S,h.df,h.bind,fun q f c' s H=>(h.body q f c' s H).out⟩
theorem u4 (hc:X.calm=true) (hr:iz 2 X.A) (hg:Gl X "sorted") (hm:X.mg "sorted" = none) (hg2:Gl X "range") (hm2:X.mg "range" = none) (M:Mkr X c P) (Lm:Jh X params body scope ix x i0 g) (ha:QXA X [a] ga)
 (hs:ao [a] X.env=[(false,bL a X.env)]:=by exact bD rfl) (he:ao [.Call (.Name "range" p2) [a] [] pos2] X.env=[(false,bL (.Call (.Name "range" p2) [a] [] pos2) X.env)]:=by rfl) :
 QX X (.Call (.Name "sorted" p) [.Call (.Name "range" p2) [a] [] pos2] [⟨some "key",.Lambda params body scope lpos,kpos⟩] pos) (jO ix i0 (k3 ga) g):=QX.mk (u0 hc hr hg hm hg2 hm2 M Lm.out ha.out hs he)
theorem u6 {e:aR} {fe:Rho->Option Rv} (hc:X.calm=true) (hr:iz 2 X.A) (hg:Gl X "sorted") (hm:X.mg "sorted" = none) (M:Mkr X c P) (Lm:Jh X params body scope ix x i0 g) (ha:QX X e fe)
 (he:ao [e] X.env=[(false,bL e X.env)]:=by exact bD rfl) :
 QX X (.Call (.Name "sorted" p) [e] [⟨some "key",.Lambda params body scope lpos,kpos⟩] pos) (jO ix i0 (pB fe) g):=QX.mk (vh hc hr hg hm M Lm.out ha.out he)
theorem Dq {k:Nat} {q:bv} {f c':au} {s:ai} {H:Hp} (hr:iz (k+3) X.A) (h:iz k (Bw X X.A.in1.in1 scope q f c' s H).A->QX (Bw X X.A.in1.in1 scope q f c' s H) body g):QX (Bw X X.A.in1.in1 scope q f c' s H) body g:=h (iz.deeper hr.in1.in1 _)
end
noncomputable def Kb (K:ae) (c:au):au:=match K.lookup c with
 | some ⟨_,_,.fields vs,_⟩=>(match (vs.toList[11]?:Option ag) with | some (.ref P)=>P | _=>0)
 | _=>0
noncomputable def uu (K:ae) (cd:ag) (x:bv):Bool:=match cd with
 | .ref c=>lY K c (Kb K c)&&(g7 K).contains (Kb K c,x++".<locals>."++"<lambda>")
 | _=>false
noncomputable def mh (K:ae) (mg:bv->Option ag) (x:bv) (st:cq):Prop:=∃ (a:au) (fd:cJ),Fun K x x st a fd/\mg x=some (.ref a)/\∃ c P,fd.code=.ref c/\lY K c P=true/\(P,x++".<locals>."++"<lambda>")∈g7 K
theorem E9 {K:ae} {mg:bv->Option ag} {x:bv} {st:cq} {f:au} {fd:cJ} (F:Fun K x x st f fd) (hm:mg x=some (.ref f)) (hk:uu K fd.code x=true):mh K mg x st:=by
 unfold uu at hk
 split at hk
 ·rename_i c hc
  rw [aT] at hk
  exact ⟨f,fd,F,hm,c,Kb K c,hc,hk.1,by simpa using hk.2⟩
 ·cases hk
section
variable {P:bh} {w:bT} {K:ae} {mg:bv->Option ag} {base:b9}
theorem Eg {x qual:bv} {st:cq} {f:au} {fd:cJ} {N ps:List bv} {k:Nat} {sp:Sp} (F:Fun K x qual st f fd) (S:fX N ps (bn st)) (len:∀ vs H Q E,sp vs H Q E->vs.length=ps.length)
 (hbody:∀ (cdv:ag) (A:bE) (outer:List m8) (s:ai) (H:Hp) (vs:List V) (Q:VK) (E:XK),fd.code=cdv->iz k (A.deeper (dR qual (bn st) s.heap.objs.size f cdv))->sp vs H Q E ->
   ∃ t,PSs (rV CX0 P w K mg base N qual (bn st) f cdv A outer s H E).nox (dZ st) t/\t { nx:=fun _ H'=>Q .non H',rt:=Q } (start N vs) H):rH P w K mg base CX0 (k+1) f fd ps sp:=by
 obtain ⟨oc,od,kV,doc,pm,an,cdv,ct,osl,rfl,lk,hcd⟩:=F.ex
 refine F6 lk hcd S len fun A outer s H vs Q E hr hsp=>?_
 obtain ⟨t,h,q⟩:=hbody cdv A outer s H vs Q E rfl hr hsp
 exact ⟨t,h.nox,q⟩
theorem FY {x:bv} {st:cq} {N ps:List bv} {k n:Nat} {g:Rho->Res} (hf:mh K mg x st) (hK:K.In base) (_hB:Bm mg base) (S:fX N ps (bn st)) (hn:ps.length=n)
 (hbind:∀ (kV doc pm:ag) (an:Option au) (cdv ct:ag) (us:List ag),us.length=ps.length->iD (cW x x (iu st) (dZ st) (bn st) .none kV doc pm an cdv ct) ⟨us,[]⟩=pure (ps.zip us))
 (hbody:∀ (f c P1:au) (A:bE) (outer:List m8) (s:ai) (H:Hp) (E:XK),ir base c P1->(P1,x++".<locals>."++"<lambda>")∈g7 K->iz k (A.deeper (dR x (bn st) s.heap.objs.size f (.ref c)))->wl (rV CX0 P w K mg base N x (bn st) f (.ref c) A outer s H E).nox (dZ st) g) :
 Ca P w K mg base x ps (k+1) n (iQ N.length g):=by
 obtain ⟨a,fd,F,hm,c,P1,hcode,hhd,htab⟩:=hf
 refine ⟨a,fd,hm,F.kp,F.binds hbind,?_⟩
 refine Eg F S (fun vs H Q E ⟨G,ds,d,hl,sg,_,dl,_⟩=>by rw [dl.length,hl,hn]) fun cdv A outer s H vs Q E hcd hr ⟨G,ds,d,hl,sg,tg,dl,ef,kk⟩=>?_
 have:cdv=.ref c:=hcd.symm.trans hcode
 subst this
 refine ⟨_,hbody a c P1 A outer s H E (tW hK hhd) htab hr,H,G,G,ff N.length ds,Ext.refl sg,rn tg dl,?_⟩
 unfold iQ at ef
 split at ef
 ·rename_i d' q
  cases ef
  rw [q]
  exact fun v G1 H1 E1 _ dv=>kk v G1 H1 E1 dv
 ·rename_i ρ' q
  cases ef
  rw [q]
  exact fun σ G1 H1 E1 _ _=>kk .non G1 H1 E1 rfl
 ·cases ef
end
theorem vD:∀ {l:List (au×bv)} {b:au} {q:bv},l.lookup b=some q->(b,q)∈l
 | [],_,_,h=>by cases h
 | (c,r)::l,b,q,h=>by
   rw [cS] at h
   cases e:b == c with
   | true=>rw [e] at h;cases h;rw [beq_iff_eq.mp e];exact am
   | false=>rw [e] at h;exact al _ (vD h)
noncomputable def zj (K:ae) (ts:List au):Bool:=(g7 K).all fun e=>ts.contains e.1&&(K.lookup e.1).isNone&&(K.any fun p=>lY K p.1 e.1)&&((g7 K).lookup e.1 == some e.2)
theorem An {P:bh} {w:bT} {K:ae} {mg mb:bv->Option ag} {k:Nat} {fa a:au} {fd:cJ} {x:bv} {fn:List Da->Option Da} {s₁:ai} {vs:List ag} {ns:List Int} {ts:List au} {Pb:b9->Prop}
 (KX:K.In s₁.heap) (hns:s₁.heap.Ns bF mg) (hb:s₁.heap.Ns m7 mb) (hbb:∀ x:bv,x≠"__name__"->mb x=h8 x) (hlim:s₁.heap.NoLimit) (hbm:Bm mg s₁.heap) (hg:s₁.gens = #[])
 (ha:s₁.heap.get? a=some { cls:=.type "list",data:=.seq vs.toArray }) (hi:fy vs ns) (hl:ns.length<=aK) (hr:iz k oM) (hT:∀ P∈ts,s₁.heap.get? P=some (jL #[])) (hok:zj K ts=true)
 (hPb:∀ h':b9,(∀ b o,s₁.heap.get? b=some o->(∀ xs n,o.data≠.seq xs n)->(∀ ps,o.data≠.fields ps)->h'.get? b=some o)->Pb h')
 (F:∀ base:b9,K.In base->base.Ns bF mg->Bm mg base->Pb base->rH P w K mg base CX0 k fa fd [x] (spD K 1 fn)) (hbind:∀ (s:ai) (u:ag),tQ s fd ⟨[u],[]⟩ [(x,u)])
 (eq:fn [.lst (ns.map Da.int)]=some (.bl true)) :
 kI (aZ P w) oM (.call (.ref fa) ⟨[.ref a],[]⟩) (fun r s'=>r=.ok (.ret (.bool true))/\OldK s₁.heap s'.heap/\s'.os=s₁.os/\kH s'.gens) s₁:=by
 have rv:=so hi
 have lenV:=hi.length
 have ok1:∀ e∈g7 K,s₁.heap.get? e.1=some (jL #[])/\K.lookup e.1=none/\(∃ c,ir s₁.heap c e.1)/\(g7 K).lookup e.1=some e.2:=fun e he=>by
  have:=bX.mp hok e he
  simp only [aT] at this
  obtain ⟨⟨⟨h1,h2⟩,h3⟩,h4⟩:=this
  obtain ⟨p,_,h3⟩:=jr.mp h3
  exact ⟨hT _ (by simpa using h1),Option.isNone_iff_eq_none.mp h2,⟨p.1,tW KX h3⟩,by simpa using h4⟩
 have lk:∀ {b:au} {q:bv},(g7 K).lookup b=some q->(b,q)∈g7 K:=fun {b q} e=>vD e
 have core:∀ Hs:Option HO,(Hs=none\/Hs=some (.frz { cls:=.type "list",data:=.seq vs.toArray } (.lst (ns.map V.int))))->(Hs≠none->K.lookup a=none)->(∀ H:Hp,H a=Hs->SqL K H a (ns.map V.int)) ->
  kI (aZ P w) oM (.call (.ref fa) ⟨[.ref a],[]⟩) (fun r s'=>r=.ok (.ret (.bool true))/\OldK s₁.heap s'.heap/\s'.os=s₁.os/\kH s'.gens) s₁:=by
  intro Hs hHs hK hS
  have eH:∃ H:Hp,H=fun b=>if b=a then Hs else ((g7 K).lookup b).map HO.tab:=⟨_,rfl⟩
  obtain ⟨H,eH⟩:=eH
  have Ha:H a=Hs:=by rw [eH];exact if_pos rfl
  have Hb:∀ {b:au},b≠a->H b=((g7 K).lookup b).map HO.tab:=fun h=>by rw [eH];exact if_neg h
  have cases3:∀ {b:au} {u:HO},H b=some u->(b=a/\u=.frz { cls:=.type "list",data:=.seq vs.toArray } (.lst (ns.map V.int)))\/(b≠a/\∃ q,u=.tab q/\(b,q)∈g7 K):=fun {b u} e=>by
   by_cases hb:b=a
   ·subst hb
    rw [Ha] at e
    rcases hHs with z | z
    ·rw [z] at e;cases e
    ·rw [z] at e;cases e;exact .inl ⟨rfl,rfl⟩
   ·rw [Hb hb] at e
    cases z:(g7 K).lookup b with
    | none=>rw [z] at e;cases e
    | some q=>rw [z] at e;cases e;exact .inr ⟨hb,q,rfl,lk z⟩
  have nea:∀ e∈g7 K,e.1≠a:=fun e he z=>by
   have:=(ok1 e he).1
   rw [z,ha] at this
   cases this
  have base_of:∀ {b:au} {o:cX},s₁.heap.get? b=some o->H b=none->(A9 s₁.heap H).get? b=some o:=fun e n=>B5 e n
  have noT:∀ {b:au} {o:cX},s₁.heap.get? b=some o->(∀ xs n,o.data≠.seq xs n)->(∀ ps,o.data≠.fields ps)->H b=none:=fun {b o} e d1 d2=>by
   cases q:H b with
   | none=>rfl
   | some u =>
     rcases cases3 q with ⟨z,_⟩ | ⟨_,q',_,z⟩
     ·subst z
      rw [ha] at e;cases e
      exact absurd rfl (d1 _ _)
     ·have:=(ok1 _ z).1
      dsimp only at this
      rw [this] at e;cases e
      exact absurd rfl (d2 _)
  have noA:∀ {b:au} {o:cX} {es:Array km} {ep:Nat},s₁.heap.get? b=some o->o.data=.dict es ep->H b=none:=fun {b o es ep} e d=>noT e (fun _ _ z=>by rw [d] at z;cases z) fun _ z=>by rw [d] at z;cases z
  have nsK:∀ {b:au} {m:bv->Option ag},s₁.heap.Ns b m->(A9 s₁.heap H).Ns b m:=fun {b m} ⟨o,es,ep,e,d,r⟩=>⟨o,es,ep,base_of e (noA e d),d,r⟩
  have hKb:K.In (A9 s₁.heap H):=fun b o e=>base_of (KX b o e) (by
   cases q:H b with
   | none=>rfl
   | some u =>
     rcases cases3 q with ⟨z,zu⟩ | ⟨_,q',_,z⟩
     ·subst z
      rw [hK (by rw [<- Ha,q];simp)] at e;cases e
     ·have:=(ok1 _ z).2.1
      dsimp only at this
      rw [this] at e;cases e)
  have hBm:Bm mg (A9 s₁.heap H):=let ⟨bm,ob,b1,b2,b3,b4,b5,b6⟩:=hbm
   ⟨bm,ob,b1,b2,base_of b3 (noT b3 (fun _ _ z=>by rw [b6] at z;cases z) fun _ z=>by rw [b6] at z;cases z),b4,b5,b6⟩
  have hok':HOk P w H s₁.heap:=fun b u e=>by
   rcases cases3 e with ⟨z,zu⟩ | ⟨_,q',zu,z⟩
   ·subst z zu
    exact ⟨ha,by rw [af];exact hl,vs,_,rv,ha⟩
   ·subst zu
    exact ⟨#[],(ok1 _ z).1,trivial⟩
  have hM:Mod K mg (A9 s₁.heap H):=⟨hKb,nsK hns,⟨mb,nsK hb,hbb⟩,let ⟨mc,h1,h2⟩:=hlim;⟨mc,nsK h1,h2⟩⟩
  have e0:Jg P w K mg (A9 s₁.heap H) oM [] s₁ H:=⟨rfl,hM,fun b o e=>Fx e,jI (AH _ _),trivial,fun b hb=>absurd (show b∈([]:List au) from hb) (by simp),hok',.of_eq hg⟩
  have tg:Tbs K H:=fun e he=>by rw [Hb (nea e he),(ok1 e he).2.2.2];rfl
  refine oH ((F _ hKb (nsK hns) hBm (hPb _ fun b o e d1 d2=>base_of e (noT e d1 d2))).run oM [] s₁ H ⟨[.ref a],[]⟩ [.ref a] [.ref a] (fun v H'=>v=.bl true/\cG H H') E0 hr e0 (hbind s₁ (.ref a)) (.cons rfl .nil)
   ⟨H,[.lst (ns.map Da.int)],.bl true,rfl,cG.refl _,tg,⟨_,_,rfl,⟨a,_,rfl,hS H Ha,cD.ints.mpr rfl⟩,rfl⟩,eq,fun v _ _ E d=>⟨d,E.hh⟩⟩) fun r s' h=>?_
  cases r with
  | error e=>exact b0 h
  | ok fl =>
    cases fl with
    | next=>exact b0 h
    | brk=>exact b0 h
    | cont=>exact b0 h
    | ret u =>
      obtain ⟨v,H',os,bare,un,hok2,r',q,sm⟩:=h
      subst q
      obtain rfl:u=fG true:=r'
      have each:∀ b o,s₁.heap.get? b=some o->asItWas s₁.heap s'.heap b o/\∃ o',s'.heap.get? b=some o':=fun b o e=>by
       cases q:H b with
       | none=>have:=un.keep b o e q (by intro z;exact absurd (show b∈([]:List au) from z) (by simp)) (by simp);exact ⟨.inl this,o,this⟩
       | some u =>
         rcases cases3 q with ⟨z,zu⟩ | ⟨_,q',zu,z⟩
         ·subst zu
          have z2:=un.frzs b _ _ q
          obtain ⟨e1,_⟩:=hok' b _ q
          obtain ⟨e2,_⟩:=hok2 b _ z2
          rw [e] at e1;cases e1
          exact ⟨.inl e2,_,e2⟩
         ·subst zu
          obtain ⟨h1,_,⟨c,h3⟩,_⟩:=ok1 _ z
          dsimp only at h1 h3
          rw [e] at h1
          cases h1
          obtain ⟨ps,e2,_⟩:=hok2 b _ (sm _ _ q)
          exact ⟨.inr (.inl ⟨(h3.tab e).isCodeTable,rfl,#[],ps,rfl,by rw [Array.empty_append];exact e2⟩),_,e2⟩
      exact ⟨rfl,⟨fun b o e=>(each b o e).1,fun b o e=>(each b o e).2⟩,os,bare⟩
 cases hk:K.lookup a with
 | some o =>
   have e:=KX a o hk
   rw [ha] at e
   cases e
   exact core none (.inl rfl) (fun z=>absurd rfl z) fun H _=>.inr ⟨_,vs.toArray,_,hk,rfl,rfl,rfl,by rw [ax,lenV];exact hl,by simpa using rv⟩
 | none=>exact core _ (.inr rfl) (fun _=>hk) fun H e=>.inl (.inr ⟨_,e⟩)
theorem BS {l:xL} {n k:Nat} {q:bh} {loose:List bv} {XP:(bv->Option ag)->b9->Prop} {YP:bT->b9->Prop} {d:DefRec} {K:xW->ae} {x:bv} {ts:List au} {fn:List Da->Option Da}
 (hn:l.most=some n) (hn2:n<=aK) (hdf:d.params.defaults=[]) (hr:iz k oM)
 (hY:∀ (w:bT) (h:b9),YP w h->(K w.params).In h) (hT:∀ (w:bT) (h:b9),YP w h->∀ P∈ts,h.get? P=some (jL #[])) (hok:∀ P:xW,zj (K P) ts=true)
 (F:∀ (w:bT) (mg:bv->Option ag) (fa:au) (h:b9),(K w.params).In h->h.Ns bF mg->mg d.name=some (.ref fa) ->
   ∃ fd:cJ,(∀ (s:ai) (u:ag),tQ s fd ⟨[u],[]⟩ [(x,u)]) /\
     ∀ base:b9,(K w.params).In base->base.Ns bF mg->Bm mg base->rH l.prog w (K w.params) mg base CX0 k fa fd [x] (spD (K w.params) 1 fn))
 (eq:∀ ns:List Int,fn [.lst (ns.map Da.int)]=some (.bl true)) :
 A2 q loose XP YP l.row.toRowW d [] (fun f vs=>wA f vs):=by
 refine Att.attach_call hn hdf fun w s₀ s₁ mg mb fa o pm cd doc a vs ns G Y ho hd hcd hmg hobj hints hlen hg=>?_
 have KX:=hY w _ Y
 obtain ⟨fd,hb,hF⟩:=F w mg fa _ KX G.T.g hmg
 exact An KX G.T.g G.T.b G.T.builtins G.T.nolimit G.T.bmain hg hobj hints (bO hlen hn2) hr (hT w _ Y) (hok w.params) (Pb:=fun _=>True) (fun _ _=>trivial) (fun base h1 h2 h3 _=>hF base h1 h2 h3) hb (eq ns)
noncomputable def iK:Hp->List au->(Hp->Prop)->Prop
 | H,[],k=>k H
 | H,l::ls,k=>∃ u,H l=some u/\qu u/\∀ o,iK (upd H l (.frz o u)) ls k
theorem tp {X:Cx} {pins:List (au×cX)} {σ:St} {s:ai} {k:Hp->Prop}:∀ (ls:List au) (H:Hp),Inv X pins σ H s->iK H ls k->∃ H',Inv X pins σ H' s/\k H'
 | [],H,I,h=>⟨H,I,h⟩
 | l::ls,H,I,h=>by
   obtain ⟨u,hl,hd,h⟩:=h
   obtain ⟨o,I'⟩:=Cv I hl hd
   exact tp ls _ I' (h o)
theorem Af {X:Cx} {e:aR} {te:TE} {pos:d4} (he:PE X e te):PS X (.Return (some e) pos) (fun D σ H=>te σ H fun v H1=>∃ ls,iK H1 ls fun H2=>D.rt v H2):=by
 intro pins s σ H D I h
 refine thn (pN (pos:=pos) he pins s σ H { nx:=fun _ _=>False,rt:=fun v H1=>∃ ls,iK H1 ls fun H2=>D.rt v H2 } I h) fun fl s1 h1=>?_
 cases fl with
 | next=>obtain ⟨_,_,_,z⟩:=h1;exact z.elim
 | brk=>obtain ⟨_,_,_,z⟩:=h1;exact z.elim
 | cont=>obtain ⟨_,_,_,z⟩:=h1;exact z.elim
 | ret u =>
   obtain ⟨v,σ1,H1,I1,rv,ls,g⟩:=h1
   obtain ⟨H2,I2,q⟩:=tp ls H1 I1 g
   exact ⟨v,σ1,H2,I2,rv,q⟩
theorem nL {G0 H0:Hp} {k:Hp->Prop}:∀ (ls:List (au×HO)) (G H:Hp),Ext G0 H0 G H->(ls.map (·.1)).Nodup->(∀ e∈ls,H0 e.1=none/\G e.1=none/\H e.1=some e.2/\qu e.2) ->
 (∀ G' H',Ext G0 H0 G' H'->cG G G'->(∀ e∈ls,∃ o,G' e.1=some (.frz o e.2))->k H')->iK H (ls.map (·.1)) k
 | [],G,H,E,_,_,fin=>fin G H E (cG.refl _) (by simp)
 | (l,u)::ls,G,H,E,nd,h,fin=>by
   obtain ⟨h0,hg,hl,hd⟩:=h (l,u) (am)
   dsimp only at h0 hg hl hd
   obtain ⟨n1,n2⟩:=bi.mp nd
   refine ⟨u,hl,hd,fun o=>?_⟩
   have E1:Ext G0 H0 (upd G l (.frz o u)) (upd H l (.frz o u)):=⟨fun b w z=>by rw [a8 (bV z h0)];exact E.hh b w z,E.gg.trans (cj hg),jZ E.gh,fun b w z t y=>by rw [a8 (bV z h0)];exact E.nw b w z t y⟩
   refine nL ls _ _ E1 n2 (fun e he=>?_) fun G' H' E' s' hh=>fin G' H' E' ((cj hg).trans s') fun e he=>?_
   ·obtain ⟨a1,a2,a3,a4⟩:=h e (al _ he)
    have ne:e.1≠l:=fun z=>n1 (aS.mpr ⟨e,he,z⟩)
    exact ⟨a1,by rw [a8 ne];exact a2,by rw [a8 ne];exact a3,a4⟩
   ·rcases aE.mp he with z | z
    ·subst z;exact ⟨o,s' _ _ aU⟩
    ·exact hh e z
noncomputable def idc (l:List Int):List (Key×V):=l.map fun b=>(av b,V.bl true)
noncomputable def ud:List au->UD->List (Key×V)
 | d::ds,(a,_)::D=>(av a,V.ref d)::ud ds D
 | _,_=>[]
structure UR (H0 G H:Hp) (u:au) (ds:List au) (D:UD):Prop where
 ln:ds.length=D.length
 out:H u=some (.dK (ud ds D))
 inn:∀ (i:Nat) (e:Int×List Int) (d:au),D[i]?=some e->ds[i]?=some d->H d=some (.dK (idc e.2))
 nd:(u::ds).Nodup
 fr:∀ d∈u::ds,H0 d=none/\G d=none
theorem vc:∀ {ds:List au} {D:UD},ds.length=D.length->(ud ds D).map (·.1)=D.map fun e=>av e.1
 | [],[],_=>rfl
 | d::ds,(a,l)::D,h=>by unfold ud;rw [aD,aD,vc (by simpa using h)]
theorem Al:∀ {ds:List au} {D:UD},ds.length=D.length->(ud ds D).map (·.2)=ds.map V.ref
 | [],[],_=>rfl
 | d::ds,(a,l)::D,h=>by unfold ud;rw [aD,aD,Al (by simpa using h)]
theorem Hl {ds:List au} {D:UD} (h:ds.length=D.length):(ud ds D).length=D.length:=by
 have:=congrArg ii (vc h)
 rw [af,af] at this
 exact this
theorem zd:∀ {ds:List au} {D:UD} (d:au) (a:Int) (l:List Int),ds.length=D.length->ud (ds++[d]) (D++[(a,l)])=ud ds D++[(av a,V.ref d)]
 | [],[],_,_,_,_=>rfl
 | x::ds,(b,m)::D,d,a,l,h=>by
   show (av b,V.ref x)::ud (ds++[d]) (D++[(a,l)])=_
   rw [zd d a l (by simpa using h)]
   rfl
theorem sZ:∀ {ds:List au} {D:UD} {a:Int},ds.length=D.length->(a∉D.map (·.1)->mC (ud ds D) (av a)=none)/\(a∈D.map (·.1)->∃ (i:Nat) (e:Int×List Int) (d:au),D[i]?=some e/\ds[i]?=some d/\e.1=a/\mC (ud ds D) (av a)=some (.ref d))
 | [],[],a,_=>⟨fun _=>rfl,fun h=>by cases h⟩
 | d::ds,(b,l)::D,a,h=>by
   obtain ⟨i1,i2⟩:=sZ (ds:=ds) (D:=D) (a:=a) (by simpa using h)
   by_cases e:b=a
   ·subst e
    exact ⟨fun z=>absurd (by simp) z,fun _=>⟨0,(b,l),d,rfl,rfl,rfl,jj (p:=(av b,V.ref d)) rfl⟩⟩
   ·have ek:¬ (av b:Key)=av a:=fun z=>e (cM z)
    have ev:mC (ud (d::ds) ((b,l)::D)) (av a)=mC (ud ds D) (av a):=jg (p:=(av b,V.ref d)) ek
    refine ⟨fun z=>by rw [ev];exact i1 fun y=>z (by rw [aD];exact al _ y),fun z=>?_⟩
    rw [aD,aE] at z
    obtain ⟨i,e',d',h1,h2,h3,h4⟩:=i2 (z.resolve_left fun w=>e w.symm)
    exact ⟨i+1,e',d',by simpa using h1,by simpa using h2,h3,by rw [ev];exact h4⟩
theorem wo (l:List Int) (b:Int):kt (idc l) (av b) (V.bl true)=idc (rG l b):=by
 unfold rG
 by_cases h:b∈l
 ·rw [if_pos h]
  unfold kt
  have ha:((idc l).any fun kv=>decide (kv.1=(av b:Key)))=true:=by
   rw [jr]
   exact ⟨(av b,V.bl true),aS.mpr ⟨b,h,rfl⟩,by simp⟩
  rw [if_pos ha]
  unfold idc
  rw [aQ]
  refine eN fun x hx=>?_
  show (if (av x:Key)=av b then ((av x:Key),V.bl true) else (av x,V.bl true))=_
  split<;>rfl
 ·rw [if_neg h,rA]
  ·unfold idc;rw [bC];rfl
  ·unfold mC
   rw [Option.map_eq_none_iff,List.find?_eq_none]
   intro x hx
   obtain ⟨y,hy,rfl⟩:=aS.mp hx
   simp only [decide_eq_true_eq]
   exact fun z=>h (by rw [<- cM z];exact hy)
theorem vN:∀ {D:UD} {a b:Int},a∉D.map (·.1)->jc (D++[(a,[])]) a b=jc D a b
 | [],a,b,_=>by
   show (if a=a then [(a,rG [] b)] else _)=[(a,[b])]
   rw [if_pos rfl];rfl
 | (x,l)::D,a,b,h=>by
   rw [aD,aE] at h
   show (if x=a then _ else (x,l)::jc (D++[(a,[])]) a b)=if x=a then _ else (x,l)::jc D a b
   rw [if_neg (fun z=>h (.inl z.symm)),if_neg (fun z=>h (.inl z.symm)),vN fun z=>h (.inr z)]
theorem lr:∀ {D:UD} {a b:Int} {i:Nat} {l:List Int},(D.map (·.1)).Nodup->D[i]?=some (a,l)->jc D a b=D.set i (a,rG l b)
 | [],_,_,_,_,_,h=>by simp at h
 | (x,m)::D,a,b,0,l,nd,h=>by
   simp at h
   obtain ⟨rfl,rfl⟩:=h
   show (if x=x then _ else _)=_
   rw [if_pos rfl];rfl
 | (x,m)::D,a,b,i+1,l,nd,h=>by
   rw [aD,bi] at nd
   have h':D[i]?=some (a,l):=by simpa using h
   have ne:x≠a:=fun z=>nd.1 (by rw [z];exact aS.mpr ⟨(a,l),bz h',rfl⟩)
   show (if x=a then _ else (x,m)::jc D a b)=_
   rw [if_neg ne,lr nd.2 h']
   rfl
theorem lE {D:UD} {a:Int} {i:Nat} {l m:List Int} (h:D[i]?=some (a,l)):((D.set i (a,m)).map fun e=>e.1)=D.map (·.1):=by
 rw [List.map_set]
 apply mv
 intro j
 rw [x9,af]
 by_cases e:i=j
 ·subst e
  have hl:=(aF.mp h).1
  rw [if_pos rfl,if_pos hl,aC,h]
  rfl
 ·rw [if_neg e]
theorem IR {ds:List au}:∀ {D:UD} {a:Int} {i:Nat} {l m:List Int},D[i]?=some (a,l)->ud ds (D.set i (a,m))=ud ds D:=by
 induction ds with
 | nil=>intro D a i l m h;cases D<;>cases i<;>rfl
 | cons d ds ih =>
   intro D a i l m h
   cases D with
   | nil=>simp at h
   | cons e D =>
     obtain ⟨x,y⟩:=e
     cases i with
     | zero=>simp at h;obtain ⟨rfl,rfl⟩:=h;rfl
     | succ i =>
       show (av x,V.ref d)::ud ds (D.set i (a,m))=(av x,V.ref d)::ud ds D
       rw [ih (by simpa using h)]
section
variable {H0 G H:Hp} {u:au} {ds:List au} {D:UD}
theorem UR.dne (h:UR H0 G H u ds D) {d:au} (hd:d∈ds):d≠u:=fun z=>(bi.mp h.nd).1 (by rw [<- z];exact hd)
theorem UR.snoc (h:UR H0 G H u ds D) {d:au} {a:Int} (hd:H d=none) (h0:H0 d=none) (hg:G d=none) (ha:a∉D.map (·.1)) :
 UR H0 G (upd (upd H d (.dK [])) u (.dK (kt (ud ds D) (av a) (.ref d)))) u (ds++[d]) (D++[(a,[])]):=by
 have hdu:d≠u:=fun z=>by rw [z,h.out] at hd;cases hd
 have hds:d∉ds:=fun z=>by
  obtain ⟨i,hi,e⟩:=cH z
  have h1:i<D.length:=by rw [<- h.ln];exact hi
  have:=h.inn i D[i] d (aj h1) (by rw [aj hi,e])
  rw [hd] at this;cases this
 refine ⟨by simp [h.ln],?_,fun i e d' h1 h2=>?_,?_,fun x hx=>?_⟩
 ·rw [aU,rA _ ((sZ h.ln).1 ha),zd d a [] h.ln]
 ·by_cases hi:i<D.length
  ·rw [c6 hi] at h1
   rw [c6 (by rw [h.ln];exact hi)] at h2
   have hm:=bz h2
   have:=h.inn i e d' h1 h2
   rw [a8 (h.dne hm),a8 (fun z=>hds (by rw [<- z];exact hm))]
   exact this
  ·rw [dN (by lia)] at h1
   rw [dN (by rw [h.ln];lia)] at h2
   have e0:i-D.length=0:=by
    have:=(aF.mp h1).1
    simp at this
    lia
   rw [e0] at h1
   rw [h.ln,e0] at h2
   have e1:(a,[])=e:=by simpa using h1
   have e2:d=d':=by simpa using h2
   subst e1 e2
   rw [a8 hdu,aU]
   rfl
 ·have n:=bi.mp h.nd
  refine bi.mpr ⟨fun z=>?_,bj.mpr ⟨n.2,bg _ _,fun x hx y hy=>by rw [ay] at hy;subst hy;intro z;subst z;exact hds hx⟩⟩
  rcases aA.mp z with z | z
  ·exact n.1 z
  ·rw [ay] at z;exact hdu z.symm
 ·rcases aE.mp hx with z | z
  ·subst z;exact h.fr _ (am)
  ·rcases aA.mp z with z | z
   ·exact h.fr x (al _ z)
   ·rw [ay] at z;subst z;exact ⟨h0,hg⟩
theorem UR.put (h:UR H0 G H u ds D) {i:Nat} {a b:Int} {l:List Int} {d:au} (e:D[i]?=some (a,l)) (ed:ds[i]?=some d) :
 UR H0 G (upd H d (.dK (kt (idc l) (av b) (V.bl true)))) u ds (D.set i (a,rG l b)):=by
 have hm:=bz ed
 refine ⟨by rw [bP];exact h.ln,?_,fun j e' d' h1 h2=>?_,h.nd,h.fr⟩
 ·rw [a8 (h.dne hm).symm,IR e];exact h.out
 ·rw [wo]
  rw [x9] at h1
  by_cases hj:i=j
  ·subst hj
   have hl:=(aF.mp e).1
   rw [if_pos rfl,if_pos hl] at h1
   cases h1
   rw [ed] at h2
   cases h2
   exact aU
  ·rw [if_neg hj] at h1
   have hne:d'≠d:=fun z=>by
    subst z
    obtain ⟨l1,e1⟩:=aF.mp ed
    obtain ⟨l2,e2⟩:=aF.mp h2
    exact hj ((hV (bi.mp h.nd).2).mp (e1.trans e2.symm))
   rw [a8 hne]
   exact h.inn j e' d' h1 h2
theorem UR.ext {G' H':Hp} (h:UR H0 G H u ds D) (e:Ext G H G' H') (hg:cG G H):UR H0 G' H' u ds D:=by
 refine ⟨h.ln,e.hh _ _ h.out,fun i x d a b=>e.hh _ _ (h.inn i x d a b),h.nd,fun d hd=>⟨(h.fr d hd).1,?_⟩⟩
 rcases aE.mp hd with z | z
 ·subst z;exact e.nw _ _ h.out rfl (h.fr _ hd).2
 ·obtain ⟨i,hi,ei⟩:=cH z
  have h1:i<D.length:=by rw [<- h.ln];exact hi
  exact e.nw _ _ (h.inn i D[i] d (aj h1) (by rw [aj hi,ei])) rfl (h.fr _ hd).2
end
theorem og:∀ {ds:List Da} {T:List (Int×Int)},dh ds=some T->ds=T.map fun p=>Da.tup [.int p.1,.int p.2]
 | [],T,h=>by cases h;rfl
 | d::r,T,h=>by
   cases d with
   | tup xs =>
     match xs,h with
     | [.int a,.int b],h =>
       have h:(dh r).map ((a,b)::·)=some T:=h
       cases q:dh r with
       | none=>rw [q] at h;cases h
       | some T'=>rw [q] at h;cases h;rw [og q];rfl
     | [],h=>simp [dh] at h
     | [_],h=>simp [dh] at h
     | _::_::_::_,h=>simp [dh] at h
     | [.non,_],h=>simp [dh] at h
     | [.bl _,_],h=>simp [dh] at h
     | [.str _,_],h=>simp [dh] at h
     | [.tup _,_],h=>simp [dh] at h
     | [.lst _,_],h=>simp [dh] at h
     | [.dK _ _,_],h=>simp [dh] at h
     | [.dT _ _,_],h=>simp [dh] at h
     | [.int _,.non],h=>simp [dh] at h
     | [.int _,.bl _],h=>simp [dh] at h
     | [.int _,.str _],h=>simp [dh] at h
     | [.int _,.tup _],h=>simp [dh] at h
     | [.int _,.lst _],h=>simp [dh] at h
     | [.int _,.dK _ _],h=>simp [dh] at h
     | [.int _,.dT _ _],h=>simp [dh] at h
   | _=>simp [dh] at h
theorem J4 {K:ae} {G:Hp} {D:UD} {ds:List au} (hl:ds.length=D.length) (h:∀ (i:Nat) (e:Int×List Int) (d:au),D[i]?=some e->ds[i]?=some d->∃ o,G d=some (.frz o (.dK (idc e.2)))):cD K G (D.map fun e=>dD e.2) (ds.map V.ref):=by
 induction D generalizing ds with
 | nil =>
   cases ds with
   | nil=>rfl
   | cons _ _=>cases hl
 | cons e D ih =>
   cases ds with
   | nil=>cases hl
   | cons d ds =>
     obtain ⟨o,ho⟩:=h 0 e d rfl rfl
     refine ⟨_,_,rfl,?_,ih (by simpa using hl) fun i e' d' h1 h2=>h (i+1) e' d' (by simpa using h1) (by simpa using h2)⟩
     refine ⟨d,o,_,rfl,ho,?_,?_⟩
     ·unfold idc;rw [aQ];rfl
     ·unfold idc
      rw [aQ]
      have:∀ l:List Int,cD K G (l.map fun _=>Da.bl true) (l.map ((fun kv:Key×V=>kv.2)∘fun b=>(av b,V.bl true))):=fun l=>by
       induction l with
       | nil=>rfl
       | cons a l ih=>exact ⟨_,_,rfl,rfl,ih⟩
      exact this e.2
theorem uA {K:ae} {G H:Hp} {ds:List Da} {d:Da} {vs:List V} {Q:VK} {x0 x1 x2 x3:bv} (hl:ds.length=1) (sg:cG G H) (tg:Tbs K G) (dl:cD K G ds vs) (ef:fn_uppers_of ds=some d) (k:∀ v G' H',Ext G H G' H'->Den K G' d v->Q v H') :
 nz (FL rX (ly 1)) (nz (Jn (iX K (c4 (jb (aY 0)))) (KA K 2 (Ej (ly 2) (Ej (ly 3) Ku)))
  (nz (Jf (tB (uB (jB 2) (jB 1))) (uG (jB 1) (jB 2) rX) CI) (uG (CN (jB 1) (jB 2)) (jB 3) (tC (V.bl true)))))
  fun D σ H=>jB 1 σ H fun v H1=>∃ ls,iK H1 ls fun H2=>D.rt v H2) { nx:=fun _ H'=>Q V.non H',rt:=Q } (L2.start [x0,x1,x2,x3] vs) H:=by
 have hs:aK=16777216:=bu
 match ds,hl with
 | [d0],_ =>
   obtain ⟨v0,r,ev,hd0,er⟩:=dl
   cases (show r=[] from er)
   subst ev
   obtain ⟨T,hT,hTl,hd,items⟩:∃ T:List (Int×Int),c4 (jb (aY 0)) [.pu d0,.no,.no,.no]=some (T.map fun p=>Da.tup [.int p.1,.int p.2])/\T.length<=1000/\d=dU (upp T)/\True:=by
    cases d0 with
    | tup xs =>
      have ef:(match dh xs with | some T=>if T.length<=1000 then some (dU (upp T)) else none | none=>none)=some d:=ef
      split at ef
      ·rename_i T eT
       split at ef
       ·rename_i hT;cases ef;exact ⟨T,by rw [og eT];rfl,hT,rfl,trivial⟩
       ·cases ef
      ·cases ef
    | lst xs =>
      have ef:(match dh xs with | some T=>if T.length<=1000 then some (dU (upp T)) else none | none=>none)=some d:=ef
      split at ef
      ·rename_i T eT
       split at ef
       ·rename_i hT;cases ef;exact ⟨T,by rw [og eT];rfl,hT,rfl,trivial⟩
       ·cases ef
      ·cases ef
    | _=>cases ef
   show nz _ _ _ [some v0,none,none,none] H
   intro u hu
   show nz _ _ _ [some v0,some (.ref u),none,none] (upd H u (.dK []))
   have E0:Ext G H G (upd H u (.dK [])):=Ext.own sg hu
   have st0:hZ K H G (upd H u (.dK [])) [some v0,some (.ref u),none,none] [.pu d0,.no,.no,.no]:=by
    refine ⟨rfl,fun i d e=>?_,fun i d e=>?_,fun i j d d' l _ e=>?_,tg⟩
    ·match i,e with
     | 0,e=>cases e;exact ⟨v0,rfl,hd0⟩
     | 1,e=>cases e
     | 2,e=>cases e
     | 3,e=>cases e
    ·match i,e with
     | 0,e=>cases e
     | 1,e=>cases e
     | 2,e=>cases e
     | 3,e=>cases e
    ·match i,e with
     | 0,e=>cases e
     | 1,e=>cases e
     | 2,e=>cases e
     | 3,e=>cases e
   refine ⟨H,G,_,_,E0.gh,cj hu,st0,hT,fun J G1 H1 E1 it=>?_⟩
   have E01:=E0.trans E1
   have G1u:G1 u=none:=E1.nw u _ aU rfl (sg.free hu)
   refine ⟨fun i m σ H'=>m=T.length-i/\i<=T.length/\∃ Gc dd s2 s3,σ=[some v0,some (.ref u),s2,s3]/\Ext G H Gc H'/\cG G1 Gc/\UR H Gc H' u dd ((T.take i).foldl (fun D p=>jc D p.1 p.2) [])/\(((T.take i).foldl (fun D p=>jc D p.1 p.2) []).map (·.1)).Nodup/\((T.take i).foldl (fun D p=>jc D p.1 p.2) []).length<=i/\∀ e∈(T.take i).foldl (fun D p=>jc D p.1 p.2) [],e.2.length<=i,
    ⟨T.length,by simp,bW _,G1,[],_,_,rfl,E01,cG.refl _,⟨rfl,E1.hh _ _ aU,by simp,by simp,fun d hd=>?_⟩,by simp,by simp,by simp⟩,?_⟩
   ·rw [ay] at hd;subst hd;exact ⟨hu,G1u⟩
   rintro i m σ H' ⟨rfl,hi,Gc,dd,s2,s3,rfl,Ec,sc,ur,ndk,hlen,hin0⟩
   generalize hD:(T.take i).foldl (fun D p=>jc D p.1 p.2) []=D at ur ndk hlen hin0
   have lenM:(T.map fun p=>Da.tup [.int p.1,.int p.2]).length=T.length:=af _
   by_cases hlt:i<T.length
   ·
    obtain ⟨hgo,hy⟩:=(it i Gc H' sc Ec.gh).1 (Da.tup [.int T[i].1,.int T[i].2]) (by rw [aC,aj hlt];rfl)
    have hDn:(T.take (i+1)).foldl (fun D p=>jc D p.1 p.2) []=jc D T[i].1 T[i].2:=by
     rw [List.take_succ_eq_append_getElem hlt,List.foldl_append,hD];rfl
    refine .inr ⟨hgo,fun σ3 H3=>∃ Gc dd s2 s3,σ3=[some v0,some (.ref u),s2,s3]/\Ext G H Gc H3/\cG G1 Gc/\UR H Gc H3 u dd (jc D T[i].1 T[i].2)/\((jc D T[i].1 T[i].2).map (·.1)).Nodup/\(jc D T[i].1 T[i].2).length<=i+1/\∀ e∈jc D T[i].1 T[i].2,e.2.length<=i+1,fun σ3 H3 z=>⟨T.length-(i+1),by lia,rfl,hlt,?_⟩,fun x H2 yl=>?_⟩
    ·rw [hDn];exact z
    obtain ⟨G2,E2,dx⟩:=hy x H2 yl
    obtain ⟨t,xs,rfl,gt,dxs⟩:=dx
    have ex:xs=[.int T[i].1,.int T[i].2]:=by
     obtain ⟨x1,r1,e1,h1,x2,r2,e2,h2,e3⟩:=dxs
     cases (show x1=_ from h1)
     cases (show x2=_ from h2)
     cases (show r2=[] from e3)
     rw [e1,e2]
    subst ex
    generalize T[i].1=a at *
    generalize T[i].2=b at *
    have Ec2:=Ec.trans E2
    have ur2:=ur.ext E2 Ec.gh
    refine ⟨t,_,rfl,SqT.of (E2.gh _ _ gt),rfl,_,_,rfl,_,_,rfl,rfl,?_⟩
    show nz _ _ _ [some v0,some (.ref u),some (.int a),some (.int b)] H2
    have second:∀ (Gd:Hp) (H3:Hp) (de:List au) (D1:UD),Ext G H Gd H3->cG G1 Gd->UR H Gd H3 u de D1->(D1.map (·.1)).Nodup->a∈D1.map (·.1)->jc D1 a b=jc D a b->D1.length<=i+1->(∀ e∈D1,e.2.length<=i) ->
     uG (CN (jB 1) (jB 2)) (jB 3) (tC (V.bl true)) { nx:=fun σ3 H3=>∃ Gc dd s2 s3,σ3=[some v0,some (.ref u),s2,s3]/\Ext G H Gc H3/\cG G1 Gc/\UR H Gc H3 u dd (jc D a b)/\((jc D a b).map (·.1)).Nodup/\(jc D a b).length<=i+1/\∀ e∈jc D a b,e.2.length<=i+1,rt:=Q,bk:=fun σ H=>jB 1 σ H fun v H1=>∃ ls,iK H1 ls fun H2=>Q v H2,ct:=fun σ3 H3=>∃ Gc dd s2 s3,σ3=[some v0,some (.ref u),s2,s3]/\Ext G H Gc H3/\cG G1 Gc/\UR H Gc H3 u dd (jc D a b)/\((jc D a b).map (·.1)).Nodup/\(jc D a b).length<=i+1/\(∀ e∈jc D a b,e.2.length<=i+1) } [some v0,some (.ref u),some (.int a),some (.int b)] H3:=fun Gd H3 de D1 Ed sd ud1 ndk1 ha hadd hl1 hin1=>by
     obtain ⟨j,e,dj,e1,e2,e3,e4⟩:=(sZ (a:=a) ud1.ln).2 ha
     obtain ⟨x,l⟩:=e
     dsimp only at e3
     subst e3
     have hin:=ud1.inn j _ dj e1 e2
     have hmem:=al u (bz e2)
     have hll:(idc l).length<aK:=by
      have:=hin1 _ (bz e1)
      unfold idc
      rw [af]
      dsimp only at this
      lia
     refine ⟨_,rfl,_,rfl,u,.ref dj,rfl,?_,_,rfl,dj,_,rfl,BN.k (k:=av b) hin hll,Gd,de,_,_,rfl,Ed.mut (ud1.fr dj hmem).1 (ud1.fr dj hmem).2,sd,?_,?_,?_,?_⟩
     ·rw [<- e4];exact qP.k (k:=av x) ud1.out
     ·rw [<- hadd,lr ndk1 e1];exact ud1.put e1 e2
     ·rw [<- hadd,lr ndk1 e1,lE e1];exact ndk1
     ·rw [<- hadd,lr ndk1 e1,bP];exact hl1
     ·rw [<- hadd,lr ndk1 e1]
      intro e he
      rcases List.mem_or_eq_of_mem_set he with z | z
      ·have:=hin1 e z;lia
      ·subst z
       have:=hin1 _ (bz e1)
       show (rG l b).length<=i+1
       unfold rG
       split
       ·dsimp only at this;lia
       ·rw [aO,bB];dsimp only at this;lia
    refine ⟨_,rfl,_,rfl,u,_,rfl,qP.k (k:=av a) ur2.out,_,rfl,?_⟩
    by_cases ha:a∈D.map (·.1)
    ·obtain ⟨j,e,dj,e1,e2,e3,e4⟩:=(sZ (a:=a) ur2.ln).2 ha
     rw [e4]
     refine Gb ?_
     exact second G2 H2 dd D Ec2 (sc.trans E2.gg) ur2 ndk ha rfl (by lia) hin0
    ·rw [(sZ (a:=a) ur2.ln).1 ha]
     refine FH ?_
     intro dn hdn
     have h0:H dn=none:=Ec2.hh.free hdn
     have hg2:G2 dn=none:=Ec2.gh.free hdn
     have ul:(ud dd D).length<aK:=by rw [Hl ur2.ln];lia
     have hun:dn≠u:=fun z=>by rw [z,ur2.out] at hdn;cases hdn
     refine ⟨_,rfl,_,rfl,u,_,rfl,BN.k (k:=av a) (by rw [a8 hun.symm];exact ur2.out) ul,?_⟩
     have fu:=ur2.fr u (am)
     refine second G2 _ (dd++[dn]) (D++[(a,[])]) ((Ec2.mut h0 hg2).mut fu.1 fu.2) (sc.trans E2.gg) (ur2.snoc hdn h0 hg2 ha) ?_ (by simp) (vN ha) (by rw [aO,bB];lia) ?_
     rotate_left
     ·intro e he
      rcases aA.mp he with z | z
      ·exact hin0 e z
      ·rw [ay] at z;subst z;exact bW _
     rw [bC]
     exact bj.mpr ⟨ndk,bg _ _,fun y hy2 z hz=>by
      have hz':z=a:=by simpa using hz
      intro w
      rw [w,hz'] at hy2
      exact ha hy2⟩
   ·
    have ei:i=T.length:=by lia
    subst ei
    refine .inl ⟨(it T.length Gc H' sc Ec.gh).2 lenM,?_⟩
    rw [AV] at hD
    refine ⟨_,rfl,(dd++[u]),?_⟩
    have contents:∀ (j:Nat) (hj:j<dd.length),∃ e,D[j]?=some e/\H' dd[j]=some (.dK (idc e.2)):=fun j hj=>by
     have h1:j<D.length:=by rw [<- ur.ln];exact hj
     exact ⟨D[j],aj h1,ur.inn j D[j] dd[j] (aj h1) (aj hj)⟩
    have el:dd++[u]=(((dd.zip D).map fun e=>(e.1,HO.dK (idc e.2.2)))++[(u,HO.dK (ud dd D))]).map (·.1):=by
     rw [bC,aQ]
     have:(dd.zip D).map ((fun x=>x.1)∘fun e:au×Int×List Int=>(e.1,HO.dK (idc e.2.2)))=dd:=by
      rw [show ((fun x:au×HO=>x.1)∘fun e:au×Int×List Int=>(e.1,HO.dK (idc e.2.2)))=CY from rfl]
      exact List.map_fst_zip (by rw [ur.ln];exact az _)
     rw [this];rfl
    rw [el]
    refine nL (G0:=G) (H0:=H) _ Gc H' Ec ?_ (fun e he=>?_) fun G' H'' E' s' hh=>?_
    ·rw [<- el]
     have n:=bi.mp ur.nd
     exact bj.mpr ⟨n.2,bg _ _,fun x hx y hy=>by rw [ay] at hy;subst hy;intro z;subst z;exact n.1 hx⟩
    ·rcases aA.mp he with z | z
     ·obtain ⟨⟨da,e'⟩,hz,rfl⟩:=aS.mp z
      obtain ⟨j,hj,ej⟩:=cH hz
      rw [A3] at ej
      rw [oz] at hj
      cases ej
      have h1:j<dd.length:=by lia
      have h2:j<D.length:=by lia
      have f:=ur.fr dd[j] (al _ (gc h1))
      exact ⟨f.1,f.2,ur.inn j D[j] dd[j] (aj h2) (aj h1),.inl ⟨_,rfl⟩⟩
     ·rw [ay] at z;subst z
      have f:=ur.fr u (am)
      exact ⟨f.1,f.2,ur.out,.inl ⟨_,rfl⟩⟩
    ·refine k _ G' H'' E' ?_
     rw [hd]
     have hD':upp T=D:=hD
     rw [hD']
     obtain ⟨o,ho⟩:=hh (u,HO.dK (ud dd D)) (by simp)
     refine ⟨u,o,_,rfl,ho,vc ur.ln,?_⟩
     rw [Al ur.ln]
     refine J4 ur.ln fun j e dj h1 h2=>?_
     have hmem:(dj,HO.dK (idc e.2))∈((dd.zip D).map fun e=>(e.1,HO.dK (idc e.2.2))):=by
      refine aS.mpr ⟨(dj,e),?_,rfl⟩
      obtain ⟨l1,q1⟩:=aF.mp h1
      obtain ⟨l2,q2⟩:=aF.mp h2
      have:(dd.zip D)[j]'(by rw [oz];lia)=(dj,e):=by rw [A3,q1,q2]
      rw [<- this]
      exact gc _
     exact hh _ (cQ _ hmem)
end Ry
namespace Ry
inductive GoI (N C B:Rho->Prop) (R:Da->Prop):Res->Prop where
 | nx {ρ:Rho}:N ρ->GoI N C B R (.nx ρ)
 | ct {ρ:Rho}:C ρ->GoI N C B R (.ct ρ)
 | bk {ρ:Rho}:B ρ->GoI N C B R (.bk ρ)
 | rt {d:Da}:R d->GoI N C B R (.rt d)
noncomputable abbrev Go (r:Res) (N C B:Rho->Prop) (R:Da->Prop):Prop:=GoI N C B R r
section
variable {N C B:Rho->Prop} {R:Da->Prop} {ρ:Rho} {g h:Rho->Res}
theorem Go.mono {r:Res} {N' C' B':Rho->Prop} {R':Da->Prop} (q:Go r N C B R) (n:∀ ρ,N ρ->N' ρ) (c:∀ ρ,C ρ->C' ρ) (b:∀ ρ,B ρ->B' ρ) (r':∀ d,R d->R' d):Go r N' C' B' R':=by
 cases q with
 | nx q=>exact .nx (n _ q)
 | ct q=>exact .ct (c _ q)
 | bk q=>exact .bk (b _ q)
 | rt q=>exact .rt (r' _ q)
theorem c7 (q:Go (g ρ) (fun ρ'=>Go (h ρ') N C B R) C B R):Go (gw g h ρ) N C B R:=by
 unfold gw
 generalize g ρ=r at q
 cases q with
 | nx q=>exact q
 | ct q=>exact .ct q
 | bk q=>exact .bk q
 | rt q=>exact .rt q
theorem eO {ρ':Rho} (e:g ρ=.nx ρ') (q:N ρ'):Go (g ρ) N C B R:=by rw [e];exact .nx q
theorem sa {d:Da} (e:g ρ=.rt d) (q:R d):Go (g ρ) N C B R:=by rw [e];exact .rt q
theorem qY {t:Rho->Option Bool} {b:Bool} (e:t ρ=some b) (q1:b=true->Go (g ρ) N C B R) (q2:b=false->Go (h ρ) N C B R):Go (sIf t g h ρ) N C B R:=by
 unfold sIf
 cases b with
 | true=>rw [e];exact q1 rfl
 | false=>rw [e];exact q2 rfl
theorem yu {α:Type} (enc:α->Da) {t:Da->Rho->Option Rho} (I:List α->Rho->Prop):∀ (post pre:List α) (ρ:Rho),I pre ρ ->
 (∀ pre' x post' ρ,pre++post=pre'++x::post'->I pre' ρ->∃ ρ1,t (enc x) ρ=some ρ1/\Go (g ρ1) (I (pre'++[x])) (I (pre'++[x])) N R)->(∀ ρ,I (pre++post) ρ->N ρ)->Go (A7 t g (post.map enc) ρ) N C B R
 | [],pre,ρ,i,_,fin=>.nx (fin ρ (by rw [cC];exact i))
 | x::post,pre,ρ,i,step,fin=>by
   obtain ⟨ρ1,e1,q⟩:=step pre x post ρ rfl i
   show Go (match t (enc x) ρ with | none=>.bad | some ρ1=>match g ρ1 with | .nx ρ2=>A7 t g (post.map enc) ρ2 | .ct ρ2=>A7 t g (post.map enc) ρ2 | .bk ρ2=>.nx ρ2 | .rt d=>.rt d | .bad=>.bad) N C B R
   rw [e1]
   dsimp only
   have again:∀ ρ2,I (pre++[x]) ρ2->Go (A7 t g (post.map enc) ρ2) N C B R:=fun ρ2 i2 =>
    yu enc I post (pre++[x]) ρ2 i2 (fun pre' y post' ρ e=>step pre' y post' ρ (by rw [<- e];simp)) (fun ρ i=>fin ρ (by simpa using i))
   generalize g ρ1=r at q
   cases q with
   | nx q=>exact again _ q
   | ct q=>exact again _ q
   | bk q=>exact .nx q
   | rt q=>exact .rt q
theorem iW {α:Type} {enc:α->Da} {t:Da->Rho->Option Rho} {f:Rho->Option (List Da)} (I:List α->Rho->Prop) {xs:List α} (e:f ρ=some (xs.map enc)) (i0:I [] ρ)
 (step:∀ pre x post ρ,xs=pre++x::post->I pre ρ->∃ ρ1,t (enc x) ρ=some ρ1/\Go (g ρ1) (I (pre++[x])) (I (pre++[x])) N R) (fin:∀ ρ,I xs ρ->N ρ):Go (oC f t g ρ) N C B R:=by
 unfold oC
 rw [e]
 exact yu enc I xs [] ρ i0 (fun pre x post ρ e=>step pre x post ρ e) fin
theorem sF {n:Nat} {ds:List Da} {P:Da->Prop} (q:Go (g (ff n ds)) (fun _=>P .non) (fun _=>False) (fun _=>False) P):∃ d,iQ n g ds=some d/\P d:=by
 unfold iQ
 generalize g (ff n ds)=r at q
 cases q with
 | nx q=>exact ⟨_,rfl,q⟩
 | ct q=>exact q.elim
 | bk q=>exact q.elim
 | rt q=>exact ⟨_,rfl,q⟩
theorem vV {n:Nat} {ds:List Da} {d:Da} (q:Go (g (ff n ds)) (fun _=>False) (fun _=>False) (fun _=>False) (fun d'=>d'=d)):iQ n g ds=some d:=by
 obtain ⟨d',e,h⟩:=sF (P:=fun d'=>d'=d) (q.mono (fun _ z=>z.elim) (fun _ z=>z) (fun _ z=>z) fun _ z=>z)
 rw [e,h]
end
section
variable {α:Type} {enc:α->Da} {c:Rho->Option Bool} {f:Rho->Option Rv} {p:α->Bool} {e:α->Da}
theorem qr {t:Da->Rho->Option Rho} (I:Rho->Prop):∀ (xs:List α) (ρ:Rho),I ρ->(∀ x∈xs,∀ ρ,I ρ->∃ ρ1,t (enc x) ρ=some ρ1/\I ρ1/\c ρ1=some (p x)/\(p x=true->∃ r,f ρ1=some r/\eG r=true/\r.2=e x)) ->
 oX t c f (xs.map enc) ρ=some ((xs.filter p).map e)
 | [],_,_,_=>rfl
 | x::xs,ρ,i,h=>by
   obtain ⟨ρ1,e1,i1,ec,ef⟩:=h x (am) ρ i
   have ih:=qr (t:=t) I xs ρ1 i1 fun y hy=>h y (al _ hy)
   show (match t (enc x) ρ with
    | none=>none
    | some ρ1=>match c ρ1 with
      | none=>none
      | some false=>oX t c f (xs.map enc) ρ1
      | some true=>match f ρ1 with
        | none=>none
        | some r=>if eG r=true then (match oX t c f (xs.map enc) ρ1 with
          | none=>none
          | some es=>some (r.2::es)) else none)=_
   rw [e1]
   dsimp only
   rw [ec]
   cases hp:p x with
   | false=>dsimp only;rw [ih,gy (by rw [hp];exact aM)]
   | true =>
     dsimp only
     obtain ⟨r,er,pr,e2⟩:=ef hp
     rw [er]
     dsimp only
     rw [if_pos pr,ih,ju hp,aD,e2]
theorem zD {i:Nat} {ρ:Rho} {xs:List α} (h:∀ x∈xs,c (ρ.set i (.pu (enc x)))=some (p x)/\(p x=true->∃ r,f (ρ.set i (.pu (enc x)))=some r/\eG r=true/\r.2=e x)):oX (tgN i) c f (xs.map enc) ρ=some ((xs.filter p).map e):=by
 refine qr (fun ρ'=>∀ d,ρ'.set i (.pu d)=ρ.set i (.pu d)) xs ρ (fun _=>rfl) fun x hx ρ' i'=>⟨ρ'.set i (.pu (enc x)),rfl,fun d=>?_,?_⟩
 ·rw [tY,i']
 ·rw [i'];exact h x hx
theorem Cy {i j:Nat} {ρ:Rho} {xs:List α} {a b:α->Da} (h:∀ x∈xs,c ((ρ.set i (.pu (a x))).set j (.pu (b x)))=some (p x)/\(p x=true->∃ r,f ((ρ.set i (.pu (a x))).set j (.pu (b x)))=some r/\eG r=true/\r.2=e x)) (hij:i≠j) (henc:∀ x,enc x=.tup [a x,b x]) :
 oX (tgT 2 (gE (tgN i) (gE (tgN j) mV))) c f (xs.map enc) ρ=some ((xs.filter p).map e):=by
 refine qr (fun ρ'=>∀ d d',(ρ'.set i (.pu d)).set j (.pu d')=(ρ.set i (.pu d)).set j (.pu d')) xs ρ (fun _ _=>rfl) fun x hx ρ' i'=>⟨(ρ'.set i (.pu (a x))).set j (.pu (b x)),?_,fun d d'=>?_,?_⟩
 ·rw [henc];simp [tgT,gE,tgN,mV]
 ·have e:((ρ'.set i (.pu (a x))).set j (.pu (b x))).set i (.pu d)=(ρ'.set i (.pu d)).set j (.pu (b x)):=by rw [List.set_comm _ _ hij,tY];exact List.set_comm _ _ (Ne.symm hij)
  rw [e,tY,i']
 ·rw [i'];exact h x hx
end
end Ry
namespace Ry
open L2
noncomputable abbrev PI:=Int×Int
noncomputable def dP (p:PI):Da:=.tup [.int p.1,.int p.2]
noncomputable def kP (p:PI):List Key:=[.inl p.1,.inl p.2]
noncomputable def dY (n:Int) (L:List PI):Da:=.tup [.int n,.tup (L.map dP)]
theorem yh {p q:PI} (h:kP p=kP q):p=q:=by
 unfold kP at h
 injection h with h1 h2
 injection h2 with h2 _
 exact ku (cM h1) (cM h2)
theorem zH (p:PI):lJ [.int p.1,.int p.2]=some (kP p):=rfl
theorem gq:∀ ns:List Int,gs (ns.map Da.int)=some ns
 | []=>rfl
 | n::ns=>by show (gs (ns.map Da.int)).map (n::·)=_;rw [gq ns];rfl
theorem uq:∀ S:List PI,n6 (S.map dP)=some (S.map fun p=>[p.1,p.2])
 | []=>rfl
 | p::S=>by
   show (match gs [Da.int p.1,Da.int p.2],n6 (S.map dP) with | some ns,some ts=>some (ns::ts) | _,_=>none)=_
   rw [uq S];rfl
theorem zC (p q:PI):HT.lexLt [p.1,p.2] [q.1,q.2]=Ms.ltP p q:=by
 unfold HT.lexLt Ms.ltP
 split
 ·unfold HT.lexLt
  split
  ·rename_i h;simp [HT.lexLt,h]
  ·rfl
 ·rfl
theorem xp {ns:List Int} (h:ns.length<64):lv (ns.map Da.int)=some ((Ms.srt Ms.ltI ns).map Da.int):=by
 unfold lv
 rw [gq]
 dsimp only
 rw [if_pos h]
theorem Im {S:List PI} (h:OkN S):OkN (S.map fun p:PI=>[p.1,p.2]):=by
 unfold OkN at *
 rw [af]
 refine h.imp id fun ⟨a,b⟩=>⟨a,?_⟩
 rw [List.nodup_iff_pairwise_ne] at *
 rw [bx]
 exact b.imp fun {x y} n e=>n (by injection e with e1 e2;injection e2 with e2 _;exact ku e1 e2)
theorem mI {S:List PI} (h:OkN S):lv (S.map dP)=some ((Ms.srt Ms.ltP S).map dP):=by
 cases S with
 | nil=>rfl
 | cons p S =>
   unfold lv
   have e:gs (gP dP (p::S))=none:=rfl
   rw [e]
   dsimp only
   rw [uq]
   dsimp only
   rw [if_pos ⟨Im h,by simp⟩,Ms.srt_map (lt:=Ms.ltP) (fun a b=>zC a b),aQ]
   rfl
theorem u3 {S:List PI} (h:S.length<64):lv (S.map dP)=some ((Ms.srt Ms.ltP S).map dP):=mI (.inl h)
noncomputable def dS (S:List PI):Da:=.dT (S.map kP) (S.map fun _=>.bl true)
noncomputable def uw (S:List PI) (p:PI):List PI:=if p∈S then S else S++[p]
theorem qL {S:List PI} {p q:PI}:q∈uw S p↔q∈S\/q=p:=by
 unfold uw
 split
 ·constructor
  ·exact .inl
  ·rintro (h | h)
   ·exact h
   ·subst h;assumption
 ·rw [aA,ay]
theorem pA {S:List PI} {p:PI} (h:S.Nodup):(uw S p).Nodup:=by
 unfold uw
 split
 ·exact h
 ·rename_i hn
  exact bj.mpr ⟨h,bg _ _,fun a ha b hb=>by rw [ay] at hb;subst hb;intro z;subst z;exact hn ha⟩
theorem Bl {S:List PI}:(S.map kP).Nodup↔S.Nodup:=by
 constructor
 ·intro h
  exact List.Pairwise.imp (fun {a b} z w=>z (by rw [w])) (bx.mp h)
 ·intro h
  exact bx.mpr (h.imp fun {a b} z w=>z (yh w))
theorem Hn:∀ (S:List PI) (p:PI),atK (S.map kP) (S.map fun _=>Da.bl true) (kP p)=if p∈S then some (.bl true) else none
 | [],p=>by simp [atK]
 | q::S,p=>by
   show (if kP q=kP p then some (Da.bl true) else atK (S.map kP) (S.map fun _=>Da.bl true) (kP p))=_
   by_cases h:kP q=kP p
   ·rw [if_pos h,if_pos (by rw [yh h];exact am)]
   ·rw [if_neg h,Hn S p]
    have hne:p≠q:=fun z=>h (by rw [z])
    by_cases hp:p∈S
    ·rw [if_pos hp,if_pos (al _ hp)]
    ·rw [if_neg hp,if_neg (fun z=>(aE.mp z).elim hne hp)]
theorem DI (S:List PI) (p:PI):lL (dS S) (dP p)=some (if p∈S then some (.bl true) else none):=by
 show (match lJ [Da.int p.1,Da.int p.2] with | some j=>some (atK (S.map kP) (S.map fun _=>Da.bl true) j) | none=>none)=_
 rw [zH]
 dsimp only
 rw [Hn]
theorem Fm:∀ (S:List PI) (p:PI),gI (S.map kP) (kP p)=(uw S p).map kP/\gJ (S.map kP) (S.map fun _=>Da.bl true) (kP p) (.bl true)=(uw S p).map fun _=>Da.bl true
 | [],p=>⟨rfl,rfl⟩
 | q::S,p=>by
   have ih:=Fm S p
   by_cases h:kP q=kP p
   ·have e:=yh h
    subst e
    have ea:uw (q::S) q=q::S:=by unfold uw;rw [if_pos am]
    rw [ea]
    constructor
    ·show (if kP q=kP q then _ else _)=_;rw [if_pos rfl];rfl
    ·show (if kP q=kP q then _ else _)=_;rw [if_pos rfl];rfl
   ·have hne:p≠q:=fun z=>h (by rw [z])
    have ea:uw (q::S) p=q::uw S p:=by
     unfold uw
     by_cases hp:p∈S
     ·rw [if_pos hp,if_pos (al _ hp)]
     ·rw [if_neg hp,if_neg (fun z=>(aE.mp z).elim hne hp)];rfl
    rw [ea]
    constructor
    ·show (if kP q=kP p then _ else kP q::gI (S.map kP) (kP p))=_;rw [if_neg h,ih.1];rfl
    ·show (if kP q=kP p then _ else Da.bl true::gJ (S.map kP) (S.map fun _=>Da.bl true) (kP p) (.bl true))=_;rw [if_neg h,ih.2];rfl
theorem Dw {S:List PI} (p:PI) (nd:S.Nodup) (hl:S.length<=1000000):FM (dS S) (dP p) (.bl true)=some (dS (uw S p)):=by
 show (match lJ [Da.int p.1,Da.int p.2] with | some j=>if (S.map kP).Nodup/\(S.map kP).length<=1000000 then some (Da.dT (gI (S.map kP) j) (gJ (S.map kP) (S.map fun _=>Da.bl true) j (.bl true))) else none | none=>none)=_
 rw [zH]
 dsimp only
 rw [if_pos ⟨Bl.mpr nd,by rw [af];exact hl⟩,(Fm S p).1,(Fm S p).2]
 rfl
noncomputable def rgI (lo:Int):Nat->List Int
 | 0=>[]
 | n+1=>lo::rgI (lo+1) n
theorem eB:∀ (n:Nat) (lo:Int),eW lo n=(rgI lo n).map Da.int
 | 0,_=>rfl
 | n+1,lo=>by show Da.int lo::eW (lo+1) n=_;rw [eB n];rfl
theorem fE:∀ {n:Nat} {lo x:Int},x∈rgI lo n↔lo<=x/\x<lo+n
 | 0,lo,x=>by unfold rgI;constructor;intro h;cases h;intro h;exfalso;lia
 | n+1,lo,x=>by unfold rgI;rw [aE,fE];lia
theorem eA:∀ (n:Nat) (lo:Int),(rgI lo n).length=n
 | 0,_=>rfl
 | n+1,lo=>by unfold rgI;rw [aJ,eA n]
theorem gK:∀ (n:Nat) (lo:Int),(rgI lo n).Pairwise fun a b=>Ms.ltI a b=true
 | 0,_=>.nil
 | n+1,lo=>b8.mpr ⟨fun x hx=>by have:=fE.mp hx;simp only [Ms.ltI,decide_eq_true_eq];lia,gK n _⟩
structure Yd (n:Int) (L:List PI):Prop where
 srt:L.Pairwise fun p q=>Ms.ltP p q=true
 rg:∀ p∈L,(0<=p.1/\p.1<n)/\0<=p.2/\p.2<n
 irr:∀ a,(a,a)∉L
 tr:∀ a b c,(a,b)∈L->(b,c)∈L->(a,c)∈L
theorem Yd.nd {n:Int} {L:List PI} (h:Yd n L):L.Nodup:=h.srt.imp fun {a b} z w=>by subst w;rw [Ms.linP.irr] at z;cases z
end Ry
set_option linter.unusedSimpArgs false
namespace Ry
open PySem L2
@[simp] theorem g8 (i:Nat) (ρ:Rho):aY i ρ=( match ρ[i]? with
  | some (.pu d)=>some (.pu,d)
  | some (.ow d)=>some (.bo,d)
  | _=>none:Option Rv):=rfl
@[simp] theorem Jm (d:Da) (ρ:Rho):xC d ρ=( some (.pu,d):Option Rv):=rfl
@[simp] theorem Hc (r:Rv) (ρ:Rho):xC2 r ρ=( some r:Option Rv):=rfl
@[simp] theorem uI (op:Rv->Rv->Option Rv) (fa fb:Rho->Option Rv) (ρ:Rho):x2 op fa fb ρ=( match fa ρ with
  | none=>none
  | some a=>match fb ρ with
    | none=>none
    | some b=>op a b:Option Rv):=rfl
@[simp] theorem uM (f:List Rv->Option Rv) (g:Rho->Option (List Rv)) (ρ:Rho):xB f g ρ=( match g ρ with
  | none=>none
  | some rs=>f rs:Option Rv):=rfl
@[simp] theorem cP (f:Rho->Option Rv) (g:Rho->Option (List Rv)) (ρ:Rho):aH f g ρ=( match f ρ with
  | none=>none
  | some r=>match g ρ with
    | none=>none
    | some rs=>some (r::rs):Option (List Rv)):=rfl
@[simp] theorem eK (ρ:Rho):bU ρ=( some []:Option (List Rv)):=rfl
@[simp] theorem vW (g:Rho->Option (List Rv)) (ρ:Rho):lA g ρ=( match g ρ with
  | none=>none
  | some rs=>match ji rs with
    | none=>none
    | some ds=>if ds.length<=1000 then some (.pu,.tup ds) else none:Option Rv):=rfl
@[simp] theorem xLst_s (g:Rho->Option (List Rv)) (ρ:Rho):B8 g ρ=( match g ρ with
  | none=>none
  | some rs=>match ji rs with
    | none=>none
    | some ds=>if ds.length<=1000 then some (.fr,.lst ds) else none:Option Rv):=rfl
@[simp] theorem F0 (f:Rho->Option Rv) (ρ:Rho):wc f ρ=( match f ρ with
  | some (_,.int i)=>some (.pu,.int (-i))
  | _=>none:Option Rv):=rfl
@[simp] theorem xNot_s (fa:Rho->Option Rv) (ρ:Rho):Kw fa ρ=( match fa ρ with
  | some (_,.bl b)=>some (.pu,.bl (!b))
  | _=>none:Option Rv):=rfl
@[simp] theorem Ia (fa fb:Rho->Option Rv) (ρ:Rho):FQ fa fb ρ=( match fa ρ with
  | some (_,.bl true)=>fb ρ
  | some (_,.bl false)=>some (.pu,.bl false)
  | _=>none:Option Rv):=rfl
@[simp] theorem xOr_s (fa fb:Rho->Option Rv) (ρ:Rho):xOr fa fb ρ=( match fa ρ with
  | some (_,.bl true)=>some (.pu,.bl true)
  | some (_,.bl false)=>fb ρ
  | _=>none:Option Rv):=rfl
@[simp] theorem xIf_s (t:Rho->Option Bool) (fa fb:Rho->Option Rv) (ρ:Rho):xIf t fa fb ρ=( match t ρ with
  | some true=>fa ρ
  | some false=>fb ρ
  | none=>none:Option Rv):=rfl
@[simp] theorem ot (fn:List Da->Option Da) (g:Rho->Option (List Rv)) (ρ:Rho):cm fn g ρ=( match g ρ with
  | none=>none
  | some rs=>match ji rs with
    | none=>none
    | some ds=>match fn ds with
      | none=>none
      | some d=>some (.pu,d):Option Rv):=rfl
@[simp] theorem Kx (f:Rho->Option Rv) (ρ:Rho):tb f ρ=( match f ρ with
  | some (_,.bl b)=>some b
  | _=>none:Option Bool):=rfl
@[simp] theorem JF (f:Rho->Option Rv) (ρ:Rho):tTr f ρ=( match f ρ with
  | some r=>trD r.2
  | none=>none:Option Bool):=rfl
@[simp] theorem tNotX_s (ta:Rho->Option Bool) (ρ:Rho):Kl ta ρ=( (ta ρ).map (!·):Option Bool):=rfl
@[simp] theorem tAndX_s (ta tc:Rho->Option Bool) (ρ:Rho):xt ta tc ρ=( match ta ρ with
  | some true=>tc ρ
  | some false=>some false
  | none=>none:Option Bool):=rfl
@[simp] theorem II (ta tc:Rho->Option Bool) (ρ:Rho):FP ta tc ρ=( match ta ρ with
  | some true=>some true
  | some false=>tc ρ
  | none=>none:Option Bool):=rfl
@[simp] theorem lw (i:Nat) (f:Rho->Option Rv) (ρ:Rho):j9 i f ρ=( match f ρ with
  | some r=>if eG r=true then .nx (ρ.set i (.pu r.2)) else .bad
  | none=>.bad:Res):=rfl
@[simp] theorem DB (i:Nat) (f:Rho->Option Rv) (ρ:Rho):wQ i f ρ=( match f ρ with
  | some (.fr,d)=>.nx (ρ.set i (.ow d))
  | _=>.bad:Res):=rfl
@[simp] theorem jl (f:Rho->Option Rv) (ρ:Rho):fj f ρ=( match f ρ with
  | some r=>.rt r.2
  | none=>.bad:Res):=rfl
@[simp] theorem sRet_s (f:Rho->Option Rv) (ρ:Rho):KY f ρ=( match f ρ with
  | some r=>if r.1=.pu\/mS r.2=false then .rt r.2 else .bad
  | none=>.bad:Res):=rfl
@[simp] theorem sSeq_s (g h:Rho->Res) (ρ:Rho):gw g h ρ=( match g ρ with
  | .nx ρ'=>h ρ'
  | r=>r:Res):=rfl
@[simp] theorem sNext_s (ρ:Rho):mr ρ=( .nx ρ:Res):=rfl
@[simp] theorem sIf_s (t:Rho->Option Bool) (g h:Rho->Res) (ρ:Rho):sIf t g h ρ=( match t ρ with
  | some true=>g ρ
  | some false=>h ρ
  | none=>.bad:Res):=rfl
@[simp] theorem zy (i:Nat) (f:Rho->Option Rv) (ρ:Rho):kX i f ρ=( match ρ[i]?,f ρ with
  | some (.ow (.lst ds)),some r=>if eG r=true/\ds.length<=1000000 then .nx (ρ.set i (.ow (.lst (ds++[r.2])))) else .bad
  | _,_=>.bad:Res):=rfl
@[simp] theorem sPop_s (i j:Nat) (ρ:Rho):KZ i j ρ=( match ρ[i]? with
  | some (.ow (.lst ds))=>match ds.getLast? with
    | some d=>.nx ((ρ.set i (.ow (.lst ds.dropLast))).set j (.pu d))
    | none=>.bad
  | _=>.bad:Res):=rfl
@[simp] theorem AQ (i:Nat) (fk fv:Rho->Option Rv) (ρ:Rho):Cq i fk fv ρ=( match ρ[i]?,fk ρ,fv ρ with
  | some (.ow d),some k,some v=>if eG v=true then (match FM d k.2 v.2 with
    | some d'=>.nx (ρ.set i (.ow d'))
    | none=>.bad) else .bad
  | _,_,_=>.bad:Res):=rfl
@[simp] theorem zg (i:Nat) (f:Rho->Option Rv) (ρ:Rho):kO i f ρ=( match ρ[i]?,f ρ with
  | some (.ow (.lst ds)),some (.fr,.lst es)=>if ds.length+es.length<=1000000 then .nx (ρ.set i (.ow (.lst (ds++es)))) else .bad
  | _,_=>.bad:Res):=rfl
@[simp] theorem sAsg_s (f:Rho->Option Rv) (t:Da->Rho->Option Rho) (ρ:Rho):K2 f t ρ=( match f ρ with
  | some r=>if eG r=true then (match t r.2 ρ with
    | some ρ'=>.nx ρ'
    | none=>.bad) else .bad
  | none=>.bad:Res):=rfl
@[simp] theorem sDrop_s (f:Rho->Option Rv) (ρ:Rho):Js f ρ=( match f ρ with
  | some _=>.nx ρ
  | none=>.bad:Res):=rfl
@[simp] theorem vO (f:Rho->Option Rv) (ρ:Rho):jb f ρ=( match f ρ with
  | some (.fr,d)=>some (.pu,d)
  | r=>r:Option Rv):=rfl
@[simp] theorem xSlice_s (fa:Rho->Option Rv) (fl fh:Rho->Option (Option Int)) (ρ:Rho):jQ fa fl fh ρ=( match fa ρ,fl ρ,fh ρ with
  | some r,some l,some h=>slD l h r.2
  | _,_,_=>none:Option Rv):=rfl
@[simp] theorem oNone_s (ρ:Rho):oU ρ=( some none:Option (Option Int)):=rfl
@[simp] theorem oSome_s (f:Rho->Option Rv) (ρ:Rho):nM f ρ=( match f ρ with
  | some (_,.int i)=>some (some i)
  | _=>none:Option (Option Int)):=rfl
@[simp] theorem xIsInst_s (i:Da->Option Bool) (f:Rho->Option Rv) (ρ:Rho):ve i f ρ=( match f ρ with
  | some r=>match i r.2 with
    | some b=>some (.pu,.bl b)
    | none=>none
  | none=>none:Option Rv):=rfl
@[simp] theorem xChain_s (op op':Rv->Rv->Option Rv) (fa fb fc:Rho->Option Rv) (ρ:Rho):GL op op' fa fb fc ρ=( match fa ρ,fb ρ with
  | some a,some b=>match op a b with
    | some (_,.bl true)=>match fc ρ with
      | some c=>op' b c
      | none=>none
    | some (_,.bl false)=>some (.pu,.bl false)
    | _=>none
  | _,_=>none:Option Rv):=rfl
@[simp] theorem qK (fd fk fx:Rho->Option Rv) (ρ:Rho):kq fd fk fx ρ=( match fd ρ,fk ρ,fx ρ with
  | some d,some k,some x=>match lL d.2 k.2 with
    | some (some e)=>some (.pu,e)
    | some none=>some x
    | none=>none
  | _,_,_=>none:Option Rv):=rfl
@[simp] theorem mZ (f:Rho->Option Rv) (ρ:Rho):c4 f ρ=( match f ρ with
  | some (.pu,.lst ds)=>some ds
  | some (.pu,.tup ds)=>some ds
  | some (.pu,.dK ks _)=>some (ks.map i7)
  | _=>none:Option (List Da)):=rfl
@[simp] theorem sA (f:Rho->Option (List Rv)) (ρ:Rho):k3 f ρ=( match f ρ with
  | some [(_,.int j)]=>if -(2 ^ 62)<=j/\j<2 ^ 62 then some (eW 0 j.toNat) else none
  | _=>none:Option (List Da)):=rfl
@[simp] theorem Is (f:Rho->Option (List Rv)) (ρ:Rho):Dn f ρ=( match f ρ with
  | some [(_,.int i),(_,.int j)]=>if -(2 ^ 62)<=i/\i<2 ^ 62/\-(2 ^ 62)<=j/\j<2 ^ 62 then some (eW i (j-i).toNat) else none
  | _=>none:Option (List Da)):=rfl
@[simp] theorem tgN_s (i:Nat) (d:Da) (ρ:Rho):tgN i d ρ=( some (ρ.set i (.pu d)):Option Rho):=rfl
@[simp] theorem tgT_s (n:Nat) (t:List Da->Rho->Option Rho) (ds:List Da) (ρ:Rho):tgT n t (.tup ds) ρ=if ds.length=n then t ds ρ else none:=rfl
@[simp] theorem tgCons_s (t:Da->Rho->Option Rho) (u:List Da->Rho->Option Rho) (d:Da) (ds:List Da) (ρ:Rho):gE t u (d::ds) ρ=(match t d ρ with | some ρ'=>u ds ρ' | none=>none):=rfl
@[simp] theorem tgNil_s (ρ:Rho):mV [] ρ=some ρ:=rfl
@[simp] theorem fC:ji []=some []:=rfl
@[simp] theorem eQ (r:Rv) (rs:List Rv):ji (r::rs)=if eG r=true then (ji rs).map (r.2::·) else none:=rfl
@[simp] theorem hE (d:Da):eG (.pu,d)=true:=rfl
@[simp] theorem yo (d:Da):eG (.fr,d) = !mS d:=rfl
@[simp] theorem CH (d:List Da):mS (.lst d)=false:=rfl
@[simp] theorem isDk_tup (d:List Da):mS (.tup d)=false:=rfl
@[simp] theorem isDk_int (d:Int):mS (.int d)=false:=rfl
@[simp] theorem isDk_bl (d:Bool):mS (.bl d)=false:=rfl
@[simp] theorem KQ (c:Int->Int->Bool) (g:Int->Int->Int) (a b:Kd) (i j:Int):oI c g (a,.int i) (b,.int j)=if c i j=true then some (.pu,.int (g i j)) else none:=rfl
@[simp] theorem oB_s (g:Int->Int->Bool) (a b:Kd) (i j:Int):oB g (a,.int i) (b,.int j)=some (.pu,.bl (g i j)):=rfl
@[simp] theorem oLt_s (a b:Kd) (i j:Int):oLt (a,.int i) (b,.int j)=some (.pu,.bl (decide (i<j))):=rfl
@[simp] theorem IG (a b:Kd) (i j:Int):gW (a,.int i) (b,.int j)=some (.pu,.int (i+j)):=rfl
@[simp] theorem zV (a b:Kd) (xs ys:List Da):gW (a,.tup xs) (b,.tup ys)=if xs.length+ys.length<=1000000 then some (.pu,.tup (xs++ys)) else none:=by
  unfold gW Bp BP oI;dsimp only;split<;>rfl
@[simp] theorem vv (a b:Kd) (xs ys:List Da):gW (a,.lst xs) (b,.lst ys)=if xs.length+ys.length<=1000000 then some (.fr,.lst (xs++ys)) else none:=by
  unfold gW Bp BP oI;dsimp only;split<;>rfl
@[simp] theorem oIs_s (n:Bool) (a b:Kd) (i j:Bool):oIs n (a,.bl i) (b,.bl j)=some (.pu,.bl (if n then !(i == j) else i == j)):=rfl
@[simp] theorem cMul_lit (i:Int):ol i 48271=true:=by simp [ol]
@[simp] theorem IV (k:Kd) (ds:List Da):oE [(k,.tup ds)]=some (.pu,.int ds.length):=rfl
@[simp] theorem fLen_l (k:Kd) (ds:List Da):oE [(k,.lst ds)]=some (.pu,.int ds.length):=rfl
@[simp] theorem fTuple_t (k:Kd) (ds:List Da):fV [(k,.tup ds)]=some (.pu,.tup ds):=rfl
@[simp] theorem Cg (k:Kd) (ds:List Da):fV [(k,.lst ds)]=some (.pu,.tup ds):=rfl
@[simp] theorem fList_t (k:Kd) (ds:List Da):mq [(k,.tup ds)]=some (.fr,.lst ds):=rfl
@[simp] theorem fList_l (k:Kd) (ds:List Da):mq [(k,.lst ds)]=some (.fr,.lst ds):=rfl
@[simp] theorem trD_non:trD .non=some false:=rfl
@[simp] theorem trD_bl (b:Bool):trD (.bl b)=some b:=rfl
@[simp] theorem trD_int (i:Int):trD (.int i)=some (i != 0):=rfl
@[simp] theorem trD_tup (ds:List Da):trD (.tup ds)=some (!ds.isEmpty):=rfl
@[simp] theorem trD_lst (ds:List Da):trD (.lst ds)=some (!ds.isEmpty):=rfl
theorem Aa {α:Type} {xs:List α} {k:Int} (h0:0<=k):atI xs k=xs[k.toNat]?:=by
 unfold atI ixN
 rw [if_pos h0]
 split
 ·rfl
 ·rename_i h
  rw [fq (by lia)];rfl
theorem IM {a b:Kd} {ds:List Da} {i:Int} {d:Da} (h0:0<=i) (h:ds[i.toNat]?=some d):oIt (a,.tup ds) (b,.int i)=some (.pu,d):=by
 unfold oIt oIx xM
 dsimp only
 rw [Aa h0,h]
 rfl
theorem G7 {a b:Kd} {ds:List Da} {i:Int} {d:Da} (h0:0<=i) (h:ds[i.toNat]?=some d):oIt (a,.lst ds) (b,.int i)=some (.pu,d):=by
 unfold oIt oIx xM
 dsimp only
 rw [Aa h0,h]
 rfl
@[simp] theorem oIt_0 (a b:Kd) (d:Da) (ds:List Da):oIt (a,.tup (d::ds)) (b,.int 0)=some (.pu,d):=IM (by decide) rfl
@[simp] theorem oIt_1 (a b:Kd) (d e:Da) (ds:List Da):oIt (a,.tup (d::e::ds)) (b,.int 1)=some (.pu,e):=IM (by decide) rfl
theorem FU (n:Bool) (a b:Kd) (S:List PI) (p:PI):AI n (a,dP p) (b,dS S)=some (.pu,.bl (if n then !decide (p∈S) else decide (p∈S))):=by
 unfold AI
 dsimp only
 rw [DI]
 by_cases h:p∈S<;>simp [h]
@[simp] theorem oIn_S (n:Bool) (a b:Kd) (S:List PI) (x y:Int):oIn n (a,.tup [.int x,.int y]) (b,dS S)=some (.pu,.bl (if n then !decide ((x,y)∈S) else decide ((x,y)∈S))):=by
  unfold oIn
  rw [show Da.tup [.int x,.int y]=dP (x,y) from rfl,FU]
  rfl
end Ry
namespace G
open PySem L2 Ry
noncomputable def g__law_cell:Rho->Res:=(gw (sIf (tb (x2 oLt (aY 1) (xB oE (aH (aY 0) bU)))) (fj (x2 oIt (aY 0) (aY 1))) mr)
 (fj (xC (.int 0))))
noncomputable def fn__law_cell:List Da->Option Da:=iQ 2 g__law_cell
noncomputable def g__law_mix:Rho->Res:=(fj (x2 (oI (fun _ j=>decide (0<j)) (·%·)) (x2 (oI (fun _ j=>decide (0<j)) (·%·)) (x2 (oI ol (·*·)) (aY 0) (xC (.int 48271))) (aY 1)) (aY 2)))
noncomputable def fn__law_mix:List Da->Option Da:=iQ 3 g__law_mix
noncomputable def A8 (c m:Int):Nat->Int->List Int->List Int
 | 0,_,_=>[]
 | f+1,k,left=>left.getD ((c+5*k)*48271%9967%(m-k)).toNat 0::A8 c m f (k+1) (left.eraseIdx ((c+5*k)*48271%9967%(m-k)).toNat)
noncomputable def fn__law_perm:List Da->Option Da
 | [.int c,.int m]=>if 0<=m/\m<=1000 then some (.lst ((A8 c m m.toNat 0 (rgI 0 m.toNat)).map Da.int)) else none
 | _=>none
noncomputable def g__law_all:Rho->Res:=(gw (wQ 2 (xC2 (.fr,.dT [] [])))
 (gw (oC (c4 (jb (aY 1))) (tgN 3)
 (Cq 2 (aY 3) (xC (.bl true))))
 (gw (oC (k3 (aH (aY 0) bU)) (tgN 4)
 (oC (k3 (aH (aY 0) bU)) (tgN 5)
 (oC (k3 (aH (aY 0) bU)) (tgN 6)
 (sIf (xt (tb (x2 (oIn false) (lA (aH (aY 5) (aH (aY 4) bU))) (aY 2))) (tb (x2 (oIn false) (lA (aH (aY 4) (aH (aY 6) bU))) (aY 2)))) (Cq 2 (lA (aH (aY 5) (aH (aY 6) bU))) (xC (.bl true))) mr))))
 (fj (xB gn (aH (aY 2) bU))))))
noncomputable def fn__law_all:List Da->Option Da:=iQ 7 g__law_all
noncomputable def g__law_yard:Rho->Res:=(gw (j9 3 (x2 gW (xC (.int 1)) (cm fn__law_mix (aH (cm fn__law_cell (aH (aY 0) (aH (aY 1) bU))) (aH (xC (.int 9973)) (aH (aY 2) bU))))))
 (gw (j9 4 (x2 gW (xC (.int 1)) (cm fn__law_mix (aH (cm fn__law_cell (aH (aY 0) (aH (aY 1) bU))) (aH (xC (.int 9949)) (aH (xC (.int 6)) bU))))))
 (gw (j9 5 (cm fn__law_perm (aH (cm fn__law_cell (aH (aY 0) (aH (x2 gW (aY 1) (xC (.int 1))) bU))) (aH (aY 3) bU))))
 (gw (wQ 6 (B8 bU))
 (gw (oC (k3 (aH (aY 3) bU)) (tgN 7)
 (oC (Dn (aH (x2 gW (aY 7) (xC (.int 1))) (aH (aY 3) bU))) (tgN 8)
 (sIf (tb (x2 oLt (cm fn__law_mix (aH (x2 gW (x2 gW (cm fn__law_cell (aH (aY 0) (aH (x2 gW (aY 1) (xC (.int 2))) bU))) (x2 (oI ol (·*·)) (xC (.int 131)) (aY 7))) (x2 (oI ol (·*·)) (xC (.int 17)) (aY 8))) (aH (xC (.int 9941)) (aH (xC (.int 10)) bU)))) (aY 4))) (kX 6 (lA (aH (x2 oIt (aY 5) (aY 7)) (aH (x2 oIt (aY 5) (aY 8)) bU)))) mr)))
 (fun ρ=>(fj (lA (aH (aY 3) (aH (xB fV (aH (cm fn__law_all (aH (aY 3) (aH (aY 6) bU))) bU)) bU)))) (frz 6 ρ)))))))
noncomputable def fn__law_yard:List Da->Option Da:=iQ 9 g__law_yard
end G
set_option linter.unusedSimpArgs false
namespace G
open PySem L2 Ry
theorem ux (S:List Int) (k:Int) (hk:0<=k):fn__law_cell [.lst (S.map Da.int),.int k]=some (.int (S.getD k.toNat 0)):=by
 by_cases h:k<(S.length:Int)
 ·have h2:k.toNat<S.length:=by lia
  simp [fn__law_cell,iQ,ff,g__law_cell,h,oIt,oIx,xM,atI,ixN,hk,h2]
 ·have h2:¬ k.toNat<S.length:=by lia
  simp [fn__law_cell,iQ,ff,g__law_cell,h,oIt,oIx,xM,atI,ixN,hk,h2]
theorem vZ (c p m:Int) (hp:0<p) (hm:0<m):fn__law_mix [.int c,.int p,.int m]=some (.int (c*48271%p%m)):=by
 simp [fn__law_mix,iQ,ff,g__law_mix,hp,hm]
inductive Cl (T:List PI):Int->Int->Prop where
 | of {a b:Int}:(a,b)∈T->Cl T a b
 | tr {a b c:Int}:Cl T a b->Cl T b c->Cl T a c
theorem Cl.rg {T:List PI} {n:Int} (h:∀ p∈T,(0<=p.1/\p.1<n)/\0<=p.2/\p.2<n) {a b:Int} (c:Cl T a b):(0<=a/\a<n)/\0<=b/\b<n:=by
 induction c with
 | of m=>exact h _ m
 | tr _ _ i1 i2=>exact ⟨i1.1,i2.2⟩
structure Ph (n c:Int) (S cur:List PI) (done:Int->Int->Prop):Prop where
 nd:cur.Nodup
 mem:∀ a b,(a,b)∈cur↔(a,b)∈S\/(done a b/\(a,c)∈S/\(c,b)∈S)
theorem Ph.l {n c:Int} {S cur:List PI} {done:Int->Int->Prop} (h:Ph n c S cur done) (a:Int):(a,c)∈cur↔(a,c)∈S:=by
 rw [h.mem];constructor
 ·rintro (z | z);exact z;exact z.2.1
 ·exact .inl
theorem Ph.r {n c:Int} {S cur:List PI} {done:Int->Int->Prop} (h:Ph n c S cur done) (b:Int):(c,b)∈cur↔(c,b)∈S:=by
 rw [h.mem];constructor
 ·rintro (z | z);exact z;exact z.2.2
 ·exact .inl
theorem Ph.start {n c:Int} {S:List PI} (nd:S.Nodup):Ph n c S S (fun _ _=>False):=⟨nd,fun a b=>by simp⟩
theorem Ph.weak {n c:Int} {S cur:List PI} {d d':Int->Int->Prop} (h:Ph n c S cur d) (e:∀ a b,d a b↔d' a b):Ph n c S cur d':=⟨h.nd,fun a b=>by rw [h.mem,e]⟩
theorem Ph.yes {n c:Int} {S cur:List PI} {d:Int->Int->Prop} (h:Ph n c S cur d) {a b:Int} (h1:(a,c)∈cur) (h2:(c,b)∈cur):Ph n c S (uw cur (a,b)) (fun x y=>d x y\/(x=a/\y=b)):=by
 refine ⟨pA h.nd,fun x y=>?_⟩
 rw [qL,h.mem]
 rw [h.l] at h1
 rw [h.r] at h2
 constructor
 ·rintro ((z | z) | z)
  ·exact .inl z
  ·exact .inr ⟨.inl z.1,z.2⟩
  ·cases z;exact .inr ⟨.inr ⟨rfl,rfl⟩,h1,h2⟩
 ·rintro (z | ⟨z | ⟨rfl,rfl⟩,w⟩)
  ·exact .inl (.inl z)
  ·exact .inl (.inr ⟨z,w⟩)
  ·exact .inr rfl
theorem Ph.no {n c:Int} {S cur:List PI} {d:Int->Int->Prop} (h:Ph n c S cur d) {a b:Int} (hn:¬ ((a,c)∈cur/\(c,b)∈cur)):Ph n c S cur (fun x y=>d x y\/(x=a/\y=b)):=by
 refine ⟨h.nd,fun x y=>?_⟩
 rw [h.l,h.r] at hn
 rw [h.mem]
 constructor
 ·rintro (z | z)
  ·exact .inl z
  ·exact .inr ⟨.inl z.1,z.2⟩
 ·rintro (z | ⟨z | ⟨rfl,rfl⟩,w⟩)
  ·exact .inl z
  ·exact .inr ⟨z,w⟩
  ·exact absurd w hn
structure Wa (T:List PI) (n:Int) (k:Int) (S:List PI):Prop where
 nd:S.Nodup
 told:∀ p∈T,p∈S
 cl:∀ a b,(a,b)∈S->Cl T a b
 thr:∀ c,0<=c->c<k->∀ a b,(a,c)∈S->(c,b)∈S->(a,b)∈S
theorem Wa.step {T:List PI} {n k:Int} {S S':List PI} (rg:∀ p∈T,(0<=p.1/\p.1<n)/\0<=p.2/\p.2<n) (h:Wa T n k S) (p:Ph n k S S' (fun a b=>(0<=a/\a<n)/\0<=b/\b<n)):Wa T n (k+1) S':=by
 have all:∀ a b,(a,k)∈S->(k,b)∈S->(a,b)∈S':=fun a b h1 h2 =>
  (p.mem a b).mpr (.inr ⟨⟨((h.cl _ _ h1).rg rg).1,((h.cl _ _ h2).rg rg).2⟩,h1,h2⟩)
 refine ⟨p.nd,fun q hq=>(p.mem q.1 q.2).mpr (.inl (h.told q hq)),fun a b hab=>?_,fun c h0 hc a b h1 h2=>?_⟩
 ·rcases (p.mem a b).mp hab with z | ⟨_,z1,z2⟩
  ·exact h.cl _ _ z
  ·exact (h.cl _ _ z1).tr (h.cl _ _ z2)
 ·by_cases hk:c=k
  ·subst hk
   exact all a b ((p.l a).mp h1) ((p.r b).mp h2)
  ·have hlt:c<k:=by lia
   rcases (p.mem a c).mp h1 with z1 | ⟨_,z1,z2⟩<;>rcases (p.mem c b).mp h2 with w1 | ⟨_,w1,w2⟩
   ·exact (p.mem a b).mpr (.inl (h.thr c h0 hlt a b z1 w1))
   ·exact all a b (h.thr c h0 hlt a k z1 w1) w2
   ·exact all a b z1 (h.thr c h0 hlt k b z2 w1)
   ·exact all a b z1 w2
theorem Wa.fin {T:List PI} {n:Int} {S:List PI} (rg:∀ p∈T,(0<=p.1/\p.1<n)/\0<=p.2/\p.2<n) (h:Wa T n n S) (a b:Int):(a,b)∈S↔Cl T a b:=by
 refine ⟨h.cl a b,fun c=>?_⟩
 induction c with
 | of m=>exact h.told _ m
 | @tr a b c c1 c2 i1 i2=>exact h.thr b (c1.rg rg).2.1 (c1.rg rg).2.2 a c i1 i2
end G
set_option linter.unusedSimpArgs false
namespace G
open PySem L2 Ry
theorem BO (n:Int):((rgI 0 n.toNat).flatMap fun a=>(rgI 0 n.toNat).map fun b=>((a,b):PI)).length=n.toNat*n.toNat:=by
 have:∀ (l m:List Int),(l.flatMap fun a=>m.map fun b=>((a,b):PI)).length=l.length*m.length:=fun l m=>by
  induction l with
  | nil=>simp
  | cons a l ih=>rw [List.flatMap_cons,aO,ih,af,aJ,Nat.add_mul,Nat.one_mul,Nat.add_comm]
 rw [this,eA]
theorem DE {n:Int} {S:List PI} (nd:S.Nodup) (h:∀ p∈S,(0<=p.1/\p.1<n)/\0<=p.2/\p.2<n):S.length<=n.toNat*n.toNat:=by
 rw [<- BO n]
 refine Ms.length_le_of_subset nd fun p hp=>?_
 obtain ⟨h1,h2⟩:=h p hp
 rw [mY]
 exact ⟨p.1,fE.mpr (by lia),aS.mpr ⟨p.2,fE.mpr (by lia),rfl⟩⟩
theorem Fi {n:Int} (hn:0<=n) {pre post:List Int} {x:Int} (e:rgI 0 n.toNat=pre++x::post):0<=x/\x<n:=by
 have:x∈rgI 0 n.toNat:=by rw [e];simp
 have:=fE.mp this
 lia
theorem Cj:∀ {m:Nat} {lo:Int} {pre post:List Int} {x:Int},rgI lo m=pre++x::post->x=lo+pre.length
 | 0,lo,pre,post,x,e=>by
   have:=congrArg ii e
   simp [rgI] at this
 | m+1,lo,[],post,x,e=>by
   unfold rgI at e
   injection e with e _
   simp [e]
 | m+1,lo,y::pre,post,x,e=>by
   unfold rgI at e
   rw [List.cons_append] at e
   injection e with _ e
   have:=Cj e
   simp only [aJ]
   lia
theorem HK {n:Int} {T:List PI} {X:Da} (hn:0<=n) (hn2:n<=1000) (hX:X=.lst (T.map dP)\/X=.tup (T.map dP)) (rg:∀ p∈T,(0<=p.1/\p.1<n)/\0<=p.2/\p.2<n)
 (hl:∀ S:List PI,S.Nodup->(∀ a b,(a,b)∈S↔Cl T a b)->S.length<=63) :
 ∃ L:List PI,fn__law_all [.int n,X]=some (.lst (L.map dP))/\(L.Pairwise fun p q=>Ms.ltP p q=true)/\∀ a b,(a,b)∈L↔Cl T a b:=by
 have small:∀ S:List PI,S.Nodup->(∀ a b,(a,b)∈S->Cl T a b)->S.length<=1000000:=fun S nd h=>by
  refine bO (DE nd fun p hp=>(h p.1 p.2 hp).rg rg) ?_
  exact bO (kK (show n.toNat<=1000 by lia) (show n.toNat<=1000 by lia)) (by decide)
 have key:∃ d,iQ 7 g__law_all [.int n,X]=some d/\∃ L:List PI,d=.lst (L.map dP)/\(L.Pairwise fun p q=>Ms.ltP p q=true)/\∀ a b,(a,b)∈L↔Cl T a b:=by
  refine sF ?_
  unfold g__law_all
  have e0:ff 7 [.int n,X]=[.pu (.int n),.pu X,.no,.no,.no,.no,.no]:=rfl
  rw [e0]
  refine c7 (eO (ρ':=[.pu (.int n),.pu X,.ow (dS []),.no,.no,.no,.no]) rfl ?_)
  refine c7 ?_
  refine iW (enc:=dP) (xs:=T) (fun pre ρ=>∃ S s3,ρ=[.pu (.int n),.pu X,.ow (dS S),s3,.no,.no,.no]/\S.Nodup/\(∀ p∈S,p∈T)/\∀ p∈pre,p∈S) ?_ ⟨[],_,rfl,.nil,by simp,by simp⟩ ?_ ?_
  ·rcases hX with rfl | rfl<;>rfl
  ·rintro pre x post ρ e ⟨S,s3,rfl,nd,sub,has⟩
   refine ⟨_,rfl,?_⟩
   have hp:=Dw x nd (small S nd fun a b z=>.of (sub _ z))
   refine eO (ρ':=[.pu (.int n),.pu X,.ow (dS (uw S x)),.pu (dP x),.no,.no,.no]) (by simp [hp]) ⟨_,_,rfl,pA nd,fun p z=>?_,fun p z=>?_⟩
   ·rcases qL.mp z with z | z
    ·exact sub p z
    ·subst z;rw [e];simp
   ·rw [qL]
    rcases aA.mp z with z | z
    ·exact .inl (has p z)
    ·exact .inr (by simpa using z)
  rintro ρ ⟨S0,s3,rfl,nd0,sub0,has0⟩
  have rng:∀ (X':Da) (S:List PI) (s3 s4 s5 s6:Sl),k3 (aH (aY 0) bU) [.pu (.int n),.pu X',.ow (dS S),s3,s4,s5,s6]=some ((rgI 0 n.toNat).map Da.int):=fun X' S s3 s4 s5 s6=>by
   simp only [sA,cP,g8,eK,bc]
   rw [if_pos (by lia),eB]
  refine c7 ?_
  refine iW (enc:=Da.int) (xs:=rgI 0 n.toNat) (fun pre ρ=>∃ S s4 s5 s6,ρ=[.pu (.int n),.pu X,.ow (dS S),s3,s4,s5,s6]/\Wa T n pre.length S) (rng ..) ⟨S0,_,_,_,rfl,nd0,has0,fun a b z=>.of (sub0 _ z),fun c h0 hc=>by simp at hc;lia⟩ ?_ ?_
  ·rintro prec c postc ρ ec ⟨S,s4,s5,s6,rfl,wa⟩
   have hc:=Cj ec
   refine ⟨_,rfl,?_⟩
   show Go (oC _ _ _ [.pu (.int n),.pu X,.ow (dS S),s3,.pu (.int c),s5,s6]) _ _ _ _
   refine iW (enc:=Da.int) (xs:=rgI 0 n.toNat) (fun pre ρ=>∃ cur s5 s6,ρ=[.pu (.int n),.pu X,.ow (dS cur),s3,.pu (.int c),s5,s6]/\Ph n c S cur (fun x y=>x∈pre/\0<=y/\y<n)) (rng ..) ⟨S,_,_,rfl,(Ph.start wa.nd).weak fun a b=>by simp⟩ ?_ ?_
   ·rintro prea a posta ρ ea ⟨cur,s5,s6,rfl,ph⟩
    refine ⟨_,rfl,?_⟩
    show Go (oC _ _ _ [.pu (.int n),.pu X,.ow (dS cur),s3,.pu (.int c),.pu (.int a),s6]) _ _ _ _
    refine iW (enc:=Da.int) (xs:=rgI 0 n.toNat) (fun pre ρ=>∃ cur s6,ρ=[.pu (.int n),.pu X,.ow (dS cur),s3,.pu (.int c),.pu (.int a),s6]/\Ph n c S cur (fun x y=>(x∈prea/\0<=y/\y<n)\/(x=a/\y∈pre))) (rng ..) ⟨cur,_,rfl,ph.weak fun x y=>by simp⟩ ?_ ?_
    ·rintro preb b postb ρ eb ⟨cur,s6,rfl,ph⟩
     refine ⟨_,rfl,?_⟩
     have hcl:∀ x y,(x,y)∈cur->Cl T x y:=fun x y z=>by
      rcases (ph.mem x y).mp z with z | ⟨_,z1,z2⟩
      ·exact wa.cl _ _ z
      ·exact (wa.cl _ _ z1).tr (wa.cl _ _ z2)
     have hput:=Dw (a,b) ph.nd (small cur ph.nd hcl)
     have ew:∀ x y:Int,((x∈prea/\0<=y/\y<n)\/(x=a/\y∈preb))\/(x=a/\y=b)↔(x∈prea/\0<=y/\y<n)\/(x=a/\y∈preb++[b]):=fun x y=>by
      rw [aA,ay,and_or_left,or_assoc]
     show Go (sIf _ _ _ [.pu (.int n),.pu X,.ow (dS cur),s3,.pu (.int c),.pu (.int a),.pu (.int b)]) _ _ _ _
     refine qY (b:=decide ((a,c)∈cur)&&decide ((c,b)∈cur)) ?_ (fun q=>?_) fun q=>?_
     ·cases h1:decide ((a,c)∈cur)<;>simp [h1]
     ·rw [aT,decide_eq_true_eq,decide_eq_true_eq] at q
      refine eO (ρ':=[.pu (.int n),.pu X,.ow (dS (uw cur (a,b))),s3,.pu (.int c),.pu (.int a),.pu (.int b)]) ?_ ⟨_,_,rfl,(ph.yes q.1 q.2).weak ew⟩
      simp only [AQ,vW,cP,g8,eK,Jm,eQ,fC,bc,bf,hE,if_true,cc,aJ,cK]
      rw [if_pos (by decide)]
      dsimp only
      rw [show Da.tup [.int a,.int b]=dP (a,b) from rfl,hput]
      rfl
     ·rw [Bool.and_eq_false_iff,decide_eq_false_iff_not,decide_eq_false_iff_not] at q
      exact eO rfl ⟨_,_,rfl,(ph.no fun z=>q.elim (fun h=>h z.1) fun h=>h z.2).weak ew⟩
    ·rintro ρ ⟨cur,s6,rfl,ph⟩
     refine ⟨_,_,_,rfl,ph.weak fun x y=>?_⟩
     rw [fE,aA,ay,or_and_right]
     have:(0<=y/\y<0+(n.toNat:Int))↔0<=y/\y<n:=by lia
     rw [this]
   ·rintro ρ ⟨cur,s5,s6,rfl,ph⟩
    refine ⟨_,_,_,_,rfl,?_⟩
    have wa2:Wa T n (c+1) cur:=by
     have wa':Wa T n c S:=by rw [hc,jM];exact wa
     refine wa'.step rg (ph.weak fun x y=>?_)
     rw [fE]
     have:(0<=x/\x<0+(n.toNat:Int))↔0<=x/\x<n:=by lia
     rw [this]
    rw [aO,bB]
    have e2:((prec.length+1:Nat):Int)=c+1:=by lia
    rw [e2]
    exact wa2
  ·rintro ρ ⟨S,s4,s5,s6,rfl,wa⟩
   rw [eA] at wa
   have wa':Wa T n n S:=by
    have:((n.toNat:Nat):Int)=n:=by lia
    rw [this] at wa
    exact wa
   have hfin:=wa'.fin rg
   have hlt:=hl S wa'.nd hfin
   have es:(S.map kP).map (fun k=>Da.tup (k.map i7))=S.map dP:=by rw [aQ];rfl
   have hso:gn [(.bo,dS S)]=some (.fr,.lst ((Ms.srt Ms.ltP S).map dP)):=by
    show (match lv ((S.map kP).map fun k=>Da.tup (k.map i7)) with | some es=>some (Kd.fr,Da.lst es) | none=>none)=_
    rw [es,mI (.inr ⟨hlt,wa'.nd⟩)]
   refine sa (d:=.lst ((Ms.srt Ms.ltP S).map dP)) (by simp [hso]) ⟨_,rfl,Ms.srt_strict Ms.linP wa'.nd,fun a b=>?_⟩
   rw [(Ms.srt_perm S).mem_iff]
   exact hfin a b
 obtain ⟨d,e,L,rfl,h⟩:=key
 exact ⟨L,e,h⟩
end G
set_option linter.unusedSimpArgs false
namespace G
open PySem L2 Ry
theorem pH {α:Type}:∀ {l:List α} {i:Nat} (d:α),i<l.length->(l.getD i d::l.eraseIdx i).Perm l
 | a::l,0,d,_=>.refl _
 | a::l,i+1,d,h=>by
   have ih:=pH (l:=l) (i:=i) d (by simpa using h)
   rw [List.getD_cons_succ,List.eraseIdx_cons_succ]
   exact (List.Perm.swap ..).trans (ih.cons a)
theorem sr (c m:Int):∀ (f:Nat) (k:Int) (left:List Int),left.length=f->m-k=f->(A8 c m f k left).Perm left
 | 0,k,left,h,_=>by
   have:left=[]:=nq h
   subst this;exact .refl _
 | f+1,k,left,h,hm=>by
   unfold A8
   have hi:((c+5*k)*48271%9967%(m-k)).toNat<left.length:=by
    have h1:=oQ ((c+5*k)*48271%9967) (show m-k≠0 by lia)
    have h2:=lZ ((c+5*k)*48271%9967) (show 0<m-k by lia)
    lia
   refine ((sr c m f (k+1) _ ?_ (by lia)).cons _).trans (pH 0 hi)
   rw [fU hi];lia
theorem D0 (c m:Int) (h0:0<=m) (h1:m<=1000):∃ P:List Int,fn__law_perm [.int c,.int m]=some (.lst (P.map Da.int))/\P.Perm (rgI 0 m.toNat):=by
 refine ⟨A8 c m m.toNat 0 (rgI 0 m.toNat),?_,sr c m m.toNat 0 _ (eA ..) (by lia)⟩
 show (if 0<=m/\m<=1000 then _ else none)=_
 rw [if_pos ⟨h0,h1⟩]
theorem fP (n:Nat) (lo:Int):(rgI lo n).Nodup:=(gK n lo).imp fun {a b} z w=>by subst w;rw [Ms.linI.irr] at z;cases z
theorem zI {α:Type} {l:List α} {f:α->Da} {i:Nat} {a:α} (h:l[i]?=some a):(l.map f)[i]?=some (f a):=by rw [aC,h];rfl
theorem sU {l:List Int} (nd:l.Nodup) {i j:Nat} {a:Int} (h1:l[i]?=some a) (h2:l[j]?=some a):i=j:=by
 obtain ⟨l1,e1⟩:=aF.mp h1
 obtain ⟨l2,e2⟩:=aF.mp h2
 exact (hV nd).mp (e1.trans e2.symm)
noncomputable def Up (P:List Int) (x y:Int):Prop:=∃ i j:Nat,i<j/\P[i]?=some x/\P[j]?=some y
theorem Up.tr {P:List Int} (nd:P.Nodup) {x y z:Int} (h:Up P x y) (h':Up P y z):Up P x z:=by
 obtain ⟨i,j,l,a,b⟩:=h
 obtain ⟨i',j',l',a',b'⟩:=h'
 have:=sU nd b a'
 exact ⟨i,j',by lia,a,b'⟩
theorem Up.irr {P:List Int} (nd:P.Nodup) {x:Int}:¬ Up P x x:=fun ⟨i,j,l,a,b⟩=>by
 have:=sU nd a b
 lia
theorem Cl.up {P:List Int} (nd:P.Nodup) {T:List PI} (h:∀ a b,(a,b)∈T->Up P a b) {a b:Int} (c:Cl T a b):Up P a b:=by
 induction c with
 | of m=>exact h _ _ m
 | tr _ _ i1 i2=>exact i1.tr nd i2
theorem IH (c p m:Int) (hm:0<m):0<=c*48271%p%m/\c*48271%p%m<m:=⟨oQ _ (by lia),lZ _ hm⟩
theorem v6 {n:Int} {U:List PI} (nd:U.Nodup) (rg:∀ p∈U,(0<=p.1/\p.1<n)/\0<=p.2/\p.2<n) (anti:∀ a b,(a,b)∈U->(b,a)∈U->False):2*U.length<=n.toNat*n.toNat:=by
 have h:=DE (n:=n) (S:=U++U.map fun p=>(p.2,p.1)) (bj.mpr ⟨nd,bx.mpr (nd.imp fun {a b} ne e=>ne (by
  have e1:=congrArg CY e
  have e2:=congrArg Prod.snd e
  exact ku e2 e1)),fun p hp q hq e=>by
   obtain ⟨r,hr,rfl⟩:=aS.mp hq
   subst e
   exact anti _ _ hp hr⟩) fun p hp=>by
  rcases aA.mp hp with z | z
  ·exact rg p z
  ·obtain ⟨r,hr,rfl⟩:=aS.mp z
   exact ⟨(rg r hr).2,(rg r hr).1⟩
 rw [aO,af] at h
 lia
theorem yD (S:List Int) (k most:Int) (hk:0<=k) (h1:1<=most) (h2:most<=11) :
 ∃ (n:Int) (L:List PI),fn__law_yard [.lst (S.map Da.int),.int k,.int most]=some (dY n L)/\1<=n/\n<=most/\Yd n L:=by
 obtain ⟨c0,hc0⟩:∃ c,fn__law_cell [.lst (S.map Da.int),.int k]=some (.int c):=⟨_,ux S k hk⟩
 obtain ⟨c1,hc1⟩:∃ c,fn__law_cell [.lst (S.map Da.int),.int (k+1)]=some (.int c):=⟨_,ux S (k+1) (by lia)⟩
 obtain ⟨c2,hc2⟩:∃ c,fn__law_cell [.lst (S.map Da.int),.int (k+2)]=some (.int c):=⟨_,ux S (k+2) (by lia)⟩
 generalize hn:1+c0*48271%9973%most=n
 have hm0:=vZ (c0) 9973 most (by decide) (by lia)
 have hm1:=vZ (c0) 9949 6 (by decide) (by decide)
 have hr:=IH (c0) 9973 most (by lia)
 obtain ⟨P,hP,pP⟩:=D0 (c1) n (by lia) (by lia)
 have ndP:P.Nodup:=pP.nodup_iff.mpr (fP ..)
 have lenP:P.length=n.toNat:=by rw [pP.length_eq,eA]
 have memP:∀ x,x∈P↔0<=x/\x<n:=fun x=>by rw [pP.mem_iff,fE];lia
 generalize hsh:1+c0*48271%9949%6=sh
 have key:∃ d,iQ 9 g__law_yard [.lst (S.map Da.int),.int k,.int most]=some d/\∃ L,d=dY n L/\Yd n L:=by
  refine sF ?_
  unfold g__law_yard
  have e0:ff 9 [.lst (S.map Da.int),.int k,.int most]=[.pu (.lst (S.map Da.int)),.pu (.int k),.pu (.int most),.no,.no,.no,.no,.no,.no]:=rfl
  rw [e0]
  refine c7 (eO (ρ':=[.pu (.lst (S.map Da.int)),.pu (.int k),.pu (.int most),.pu (.int n),.no,.no,.no,.no,.no]) (by simp [hc0,hm0,<- hn]) ?_)
  refine c7 (eO (ρ':=[.pu (.lst (S.map Da.int)),.pu (.int k),.pu (.int most),.pu (.int n),.pu (.int sh),.no,.no,.no,.no]) (by simp [hc0,hm1,<- hsh]) ?_)
  refine c7 (eO (ρ':=[.pu (.lst (S.map Da.int)),.pu (.int k),.pu (.int most),.pu (.int n),.pu (.int sh),.pu (.lst (P.map Da.int)),.no,.no,.no]) (by simp [hc1,hP]) ?_)
  refine c7 (eO (ρ':=[.pu (.lst (S.map Da.int)),.pu (.int k),.pu (.int most),.pu (.int n),.pu (.int sh),.pu (.lst (P.map Da.int)),.ow (.lst (([]:List PI).map dP)),.no,.no]) (by simp) ?_)
  refine c7 ?_
  have rng:∀ (T:Da) (s7 s8:Sl),k3 (aH (aY 3) bU) [.pu (.lst (S.map Da.int)),.pu (.int k),.pu (.int most),.pu (.int n),.pu (.int sh),.pu (.lst (P.map Da.int)),.ow T,s7,s8]=some ((rgI 0 n.toNat).map Da.int):=fun T s7 s8=>by
   simp only [sA,cP,g8,eK,bc,bf]
   rw [if_pos (by lia),eB]
  refine iW (enc:=Da.int) (xs:=rgI 0 n.toNat) (fun pre ρ=>∃ (T:List PI) (s7 s8:Sl),ρ=[.pu (.lst (S.map Da.int)),.pu (.int k),.pu (.int most),.pu (.int n),.pu (.int sh),.pu (.lst (P.map Da.int)),.ow (.lst (T.map dP)),s7,s8]/\(∀ a b,(a,b)∈T->Up P a b)/\T.length<=pre.length*12) (rng ..) ⟨[],_,_,rfl,by simp,by simp⟩ ?_ ?_
  ·rintro pre a post ρ e ⟨T,s7,s8,rfl,hT,hl⟩
   have ha:=Cj e
   have hpa:=Fi (by lia) e
   have hpl:pre.length<12:=by lia
   refine ⟨_,rfl,?_⟩
   show Go (oC _ _ _ [.pu (.lst (S.map Da.int)),.pu (.int k),.pu (.int most),.pu (.int n),.pu (.int sh),.pu (.lst (P.map Da.int)),.ow (.lst (T.map dP)),.pu (.int a),s8]) _ _ _ _
   have rng2':∀ (T:Da) (s8:Sl),Dn (aH (x2 gW (aY 7) (xC (.int 1))) (aH (aY 3) bU)) [.pu (.lst (S.map Da.int)),.pu (.int k),.pu (.int most),.pu (.int n),.pu (.int sh),.pu (.lst (P.map Da.int)),.ow T,.pu (.int a),s8]=some ((rgI (a+1) (n-(a+1)).toNat).map Da.int):=fun T s8=>by
    simp only [Is,cP,g8,eK,uI,Jm,IG,bc,bf]
    rw [if_pos (by lia),eB]
   refine iW (enc:=Da.int) (xs:=rgI (a+1) (n-(a+1)).toNat) (fun pre2 ρ=>∃ (T:List PI) (s8:Sl),ρ=[.pu (.lst (S.map Da.int)),.pu (.int k),.pu (.int most),.pu (.int n),.pu (.int sh),.pu (.lst (P.map Da.int)),.ow (.lst (T.map dP)),.pu (.int a),s8]/\(∀ a b,(a,b)∈T->Up P a b)/\T.length<=pre.length*12+pre2.length) (rng2' ..) ⟨T,_,rfl,hT,by simpa using hl⟩ ?_ ?_
   ·rintro pre2 b post2 ρ e2 ⟨T,s8,rfl,hT,hl⟩
    have hb:=Cj e2
    have hpb:a<b/\b<n:=by
     have:b∈rgI (a+1) (n-(a+1)).toNat:=by rw [e2];simp
     have:=fE.mp this
     lia
    have hl2:pre2.length<=12:=by lia
    refine ⟨_,rfl,?_⟩
    have hm2:=vZ (c2+131*a+17*b) 9941 10 (by decide) (by decide)
    show Go (sIf _ _ _ [.pu (.lst (S.map Da.int)),.pu (.int k),.pu (.int most),.pu (.int n),.pu (.int sh),.pu (.lst (P.map Da.int)),.ow (.lst (T.map dP)),.pu (.int a),.pu (.int b)]) _ _ _ _
    have cm1:ol 131 a=true:=by simp [ol]
    have cm2:ol 17 b=true:=by simp [ol]
    refine qY (b:=decide ((c2+131*a+17*b)*48271%9941%10<sh)) (by simp [hc2,hm2,cm1,cm2]) (fun _=>?_) fun _=>?_
    ·obtain ⟨x,hx⟩:∃ x,P[a.toNat]?=some x:=⟨P[a.toNat]'(by lia),aj _⟩
     obtain ⟨y,hy⟩:∃ y,P[b.toNat]?=some y:=⟨P[b.toNat]'(by lia),aj _⟩
     have hix:=G7 (a:=.pu) (b:=.pu) (show (0:Int)<=a by lia) (zI (f:=Da.int) hx)
     have hiy:=G7 (a:=.pu) (b:=.pu) (show (0:Int)<=b by lia) (zI (f:=Da.int) hy)
     refine eO (ρ':=[.pu (.lst (S.map Da.int)),.pu (.int k),.pu (.int most),.pu (.int n),.pu (.int sh),.pu (.lst (P.map Da.int)),.ow (.lst ((T++[(x,y)]).map dP)),.pu (.int a),.pu (.int b)]) ?_ ⟨_,_,rfl,fun u v huv=>?_,?_⟩
     ·simp only [zy,vW,cP,g8,eK,uI,eQ,fC,bc,bf,hix,hiy,hE,if_true,cc,aJ,cK,af,bC]
      rw [if_pos (by decide)]
      dsimp only
      rw [if_pos ⟨rfl,by rw [af];lia⟩]
      rfl
     ·rcases aA.mp huv with z | z
      ·exact hT u v z
      ·rw [ay] at z;cases z;exact ⟨a.toNat,b.toNat,by lia,hx,hy⟩
     ·rw [aO,aO,bB,bB];lia
    ·exact eO rfl ⟨_,_,rfl,hT,by rw [aO];lia⟩
   ·rintro ρ ⟨T,s8,rfl,hT,hl⟩
    rw [eA] at hl
    exact ⟨_,_,_,rfl,hT,by rw [aO,bB];lia⟩
  ·rintro ρ ⟨T,s7,s8,rfl,hT,hl⟩
   have rg:∀ p∈T,(0<=p.1/\p.1<n)/\0<=p.2/\p.2<n:=fun p hp=>by
    obtain ⟨i,j,_,a,b⟩:=hT p.1 p.2 hp
    exact ⟨(memP _).mp (bz a),(memP _).mp (bz b)⟩
   obtain ⟨L,hL,sL,mL⟩:=HK (X:=.lst (T.map dP)) (show 0<=n by lia) (by lia) (.inl rfl) rg fun U nd mU=>by
    have:=v6 (n:=n) nd (fun p hp=>((mU p.1 p.2).mp hp).rg rg) fun a b h1 h2=>((((mU a b).mp h1).tr ((mU b a).mp h2)).up ndP hT).irr ndP
    have h7:n.toNat<=11:=by lia
    have:=bO this (kK h7 h7)
    lia
   refine sa (d:=dY n L) (by simp [frz,hL,dY]) ⟨L,rfl,sL,fun p hp=>((mL p.1 p.2).mp hp).rg rg,fun a ha=>?_,fun a b c h1 h2=>?_⟩
   ·exact (((mL a a).mp ha).up ndP hT).irr ndP
   ·exact (mL a c).mpr (((mL a b).mp h1).tr ((mL b c).mp h2))
 obtain ⟨d,e,L,rfl,h⟩:=key
 exact ⟨n,L,e,by lia,by lia,h⟩
end G
namespace Ry
open PySem PySem.Spec PyProof.Rows L2 G
theorem Ag:∀ {n:Nat} {lo:Int} {i:Nat},i<n->(rgI lo n)[i]?=some (lo+i)
 | n+1,lo,0,_=>by show some lo=_;simp
 | n+1,lo,i+1,h=>by
   show (rgI (lo+1) n)[i]?=_
   rw [Ag (by lia)]
   congr 1
   lia
theorem sQ {α β:Type} (f:α->β):∀ (l:List α) (i:Nat),(l.eraseIdx i).map f=(l.map f).eraseIdx i
 | [],_=>rfl
 | a::l,0=>rfl
 | a::l,i+1=>by
   show f a::(l.eraseIdx i).map f=f a::(l.map f).eraseIdx i
   rw [sQ f l i]
theorem yx {K:ae} {Gp H:Hp} {ds:List Da} {d:Da} {vs:List V} {Q:VK} {y0 y1 y2:bv} (hl:ds.length=2) (sg:cG Gp H) (tg:Tbs K Gp) (dl:cD K Gp ds vs) (ef:G.fn__law_perm ds=some d) (k:∀ v G' H',Ext Gp H G' H'->Den K G' d v->Q v H') :
 nz (FL (tX K (ke (aH (aY 1) bU))) (ly 2))
  (FN (zT (mpS [none,none,none,some 0,some 2,some 1]) (iX K (k3 (aH (aY 1) bU))) (ly 1) (fun _ H Q=>Q true H)
    (tBM K "list" AF (jB 4) (nW (tX K (cm G.fn__law_mix (aH (x2 gW (aY 3) (x2 (oI ol (·*·)) (xC (.int 5)) (aY 1))) (aH (xC (.int 9967)) (aH (x2 (oI (fun _ _=>true) (·-·)) (aY 5) (aY 1)) bU))))) Iw)))) { nx:=fun _ H'=>Q V.non H',rt:=Q } (L2.start [y0,y1,y2] vs) H:=by
 have hs:aK=16777216:=bu
 match ds,hl with
 | [d0,d1],_ =>
   have ⟨c,m,e0,e1⟩:∃ c m,d0=.int c/\d1=.int m:=by
    cases d0<;>cases d1<;>first | exact ⟨_,_,rfl,rfl⟩ | cases ef
   subst e0 e1
   have ef:(if 0<=m/\m<=1000 then some (Da.lst ((A8 c m m.toNat 0 (rgI 0 m.toNat)).map Da.int)) else none)=some d:=ef
   split at ef
   case isFalse=>cases ef
   case isTrue hm =>
   cases ef
   obtain ⟨v0,r,ev,h0,v1,r1,ev1,h1,er⟩:=dl
   cases (show v0=_ from h0)
   cases (show v1=_ from h1)
   cases (show r1=[] from er)
   subst ev1
   subst ev
   show nz _ _ _ [some (.int c),some (.int m),none] H
   have st0:∀ {B Gx Hx:Hp} {s2:Option V},Tbs K Gx->hZ K B Gx Hx [some (.int c),some (.int m),s2] [.pu (.int c),.pu (.int m),.no]:=fun {B Gx Hx s2} tg=>by
    refine ⟨rfl,fun i d e=>?_,fun i d e=>?_,fun i j d d' l _ e=>?_,tg⟩
    ·match i,e with
     | 0,e=>cases e;exact ⟨_,rfl,rfl⟩
     | 1,e=>cases e;exact ⟨_,rfl,rfl⟩
     | 2,e=>cases e
    ·match i,e with
     | 0,e=>cases e
     | 1,e=>cases e
     | 2,e=>cases e
    ·match i,e with
     | 0,e=>cases e
     | 1,e=>cases e
     | 2,e=>cases e
   refine ⟨H,Gp,_,(.fr,.lst (eW 0 m.toNat)),sg,cG.refl _,st0 tg,?_,fun v G1 H1 E1 r1=>?_⟩
   ·show (if -(2 ^ 62)<=m/\m<=1000000 then _ else none)=_
    rw [if_pos (by lia)]
   obtain ⟨l,o,rfl,hl0,gl0,hl1,xs,rfl,dxs⟩:=r1
   rw [eB] at dxs
   have exs:=cD.ints.mp dxs
   subst exs
   refine ⟨H,G1,_,eW 0 m.toNat,E1.gh,E1.hh,st0 (tg.mono E1.gg),?_,fun J G2 H2 E2 it p hp=>?_⟩
   ·show (if -(2 ^ 62)<=m/\m<2 ^ 62 then _ else none)=_
    rw [if_pos (by lia)]
   have E02:=E1.trans E2
   have hl2:=E2.hh _ _ hl1
   have gl2:G2 l=none:=E2.nw _ _ hl1 rfl gl0
   have hp0:H p=none:=E02.hh.free hp
   have gp2:G2 p=none:=E02.gh.free hp
   have hlp:l≠p:=fun z=>by rw [z,hp] at hl2;cases hl2
   refine ⟨fun i n σ ys H'=>n=m.toNat-i/\i<=m.toNat/\∃ Gc s1 left don,σ=[none,s1,none,some (.int c),some (.ref l),some (.int m)]/\Ext Gp H Gc H'/\cG G2 Gc/\Gc l=none/\Gc p=none/\H' l=some (.lst (left.map V.int))/\H' p=some (.lst ys)/\ys=don.map V.int/\left.length=m.toNat-i/\don.length=i/\don++A8 c m (m.toNat-i) i left=A8 c m m.toNat 0 (rgI 0 m.toNat),
    ⟨m.toNat,by simp,bW _,G2,_,rgI 0 m.toNat,[],rfl,E02.trans (Ext.own E02.gh hp),cG.refl _,gl2,gp2,by rw [a8 hlp];exact hl2,aU,rfl,by rw [eA];lia,rfl,by simp⟩,?_⟩
   rintro i n σ ys H' ⟨rfl,hi,Gc,s1,left,don,rfl,Ec,sc,gl,gp,hl',hp',rfl,lleft,ldon,epop⟩
   refine ⟨hp',by rw [af];lia,?_⟩
   have lenM:(eW 0 m.toNat).length=m.toNat:=by rw [eB,af,eA]
   by_cases hlt:i<m.toNat
   ·obtain ⟨hgo,hy⟩:=(it i Gc H' sc Ec.gh).1 (Da.int (i:Int)) (by rw [eB,aC,Ag hlt];simp)
    refine .inr ⟨hgo,fun x H3 yl=>?_⟩
    obtain ⟨G3,E3,dx⟩:=hy x H3 yl
    cases (show x=_ from dx)
    have Ec3:=Ec.trans E3
    have iteX:∀ {A B:Prop},A->(if true=true then A else B):=fun {A B} h=>by rw [if_pos rfl];exact h
    unfold ly
    dsimp only
    refine iteX ?_
    have st3:hZ K H G3 H3 [none,some (.int (i:Int)),none,some (.int c),some (.ref l),some (.int m)] [.no,.pu (.int i),.no,.pu (.int c),.no,.pu (.int m)]:=by
     refine ⟨rfl,fun j d e=>?_,fun j d e=>?_,fun j j' d d' l _ e=>?_,tg.mono Ec3.gg⟩
     ·match j,e with
      | 0,e=>cases e
      | 1,e=>cases e;exact ⟨_,rfl,rfl⟩
      | 2,e=>cases e
      | 3,e=>cases e;exact ⟨_,rfl,rfl⟩
      | 4,e=>cases e
      | 5,e=>cases e;exact ⟨_,rfl,rfl⟩
     ·match j,e with
      | 0,e=>cases e
      | 1,e=>cases e
      | 2,e=>cases e
      | 3,e=>cases e
      | 4,e=>cases e
      | 5,e=>cases e
     ·match j,e with
      | 0,e=>cases e
      | 1,e=>cases e
      | 2,e=>cases e
      | 3,e=>cases e
      | 4,e=>cases e
      | 5,e=>cases e
    have hl3:=E3.hh _ _ hl'
    refine ⟨_,rfl,.inl ⟨rfl,_,SqL.of hl3⟩,H,G3,_,(.pu,.int ((c+5*(i:Int))*48271%9967%(m-i))),Ec3.gh,Ec3.hh,st3,?_,fun v G4 H4 E4 r4=>?_⟩
    ·have hmix:=vZ (c+5*(i:Int)) 9967 (m-i) (by decide) (by lia)
     have hcm:ol 5 (i:Int)=true:=by simp [ol]
     simp [hmix,hcm]
    ·cases (show v=_ from r4)
     generalize hidx:(c+5*(i:Int))*48271%9967%(m-i)=idx
     have hmp:0<m-(i:Int):=by lia
     have hi0:0<=idx:=by rw [<- hidx];exact oQ _ (by lia)
     have hi1:idx<m-i:=by rw [<- hidx];exact lZ _ hmp
     have hlt2:idx.toNat<left.length:=by lia
     have hl4:=E4.hh _ _ hl3
     have hp4:=E4.hh _ _ (E3.hh _ _ hp')
     refine ⟨l,left.map V.int,idx,idx.toNat,.int (left.getD idx.toNat 0),rfl,rfl,hl4,by lia,by lia,?_,?_,?_⟩
     ·rw [af]
      exact (yw (by unfold ixN;rw [if_pos hi0,if_pos (by lia)])).1
     ·rw [aC,g9 hlt2 0];rfl
     ·have E34:=E3.trans E4
      have gl4:G4 l=none:=E34.nw _ _ hl' rfl gl
      have gp4:G4 p=none:=E34.nw _ _ hp' rfl gp
      have Ec4:=Ec.trans E34
      refine ⟨by rw [a8 hlp.symm];exact hp4,m.toNat-(i+1),by lia,rfl,hlt,G4,_,left.eraseIdx idx.toNat,don++[left.getD idx.toNat 0],rfl,(Ec4.mut hl0 gl4).mut hp0 gp4,sc.trans E34.gg,gl4,gp4,?_,aU,by rw [bC];rfl,?_,by rw [aO,bB,ldon],?_⟩
      ·rw [a8 hlp,aU,sQ]
      ·rw [fU hlt2];lia
      ·rw [<- epop]
       have ef:m.toNat-i=(m.toNat-(i+1))+1:=by lia
       rw [ef]
       show _=don++(left.getD ((c+5*(i:Int))*48271%9967%(m-(i:Int))).toNat 0::A8 c m (m.toNat-(i+1)) ((i:Int)+1) (left.eraseIdx ((c+5*(i:Int))*48271%9967%(m-(i:Int))).toNat))
       rw [hidx,fz]
       rfl
   ·have ei:i=m.toNat:=by lia
    subst ei
    refine .inl ⟨(it m.toNat Gc H' sc Ec.gh).2 lenM,?_⟩
    rw [Nat.sub_self] at epop
    have epop':don=A8 c m m.toNat 0 (rgI 0 m.toNat):=by rw [<- epop];exact (cC _).symm
    refine k _ (upd Gc p (.lst (don.map V.int))) H' ⟨Ec.hh,Ec.gg.trans (cj gp),fun b u z=>?_,fun b u z t w=>?_⟩ ⟨p,_,rfl,SqL.of aU,by rw [<- epop'];exact cD.ints.mpr rfl⟩
    ·by_cases hb:b=p
     ·subst hb;rw [aU] at z;rw [<- z];exact hp'
     ·rw [a8 hb] at z;exact Ec.gh b u z
    ·rw [a8 (bV z hp0)];exact Ec.nw b u z t w
end Ry
set_option linter.unusedSimpArgs false
namespace Ry
open PySem L2
noncomputable def c9:UD->Int->List Int
 | [],_=>[]
 | (x,l)::D,a=>if x=a then l else c9 D a
theorem Cr {l:List Int} {b x:Int}:x∈rG l b↔x∈l\/x=b:=by
 unfold rG
 split
 ·constructor
  ·exact .inl
  ·rintro (h | h)
   ·exact h
   ·subst h;assumption
 ·rw [aA,ay]
theorem qD:∀ (D:UD) (a b x:Int),c9 (jc D a b) x=if a=x then rG (c9 D a) b else c9 D x
 | [],a,b,x=>by
   show (if a=x then [b] else [])=_
   split<;>rfl
 | (y,l)::D,a,b,x=>by
   by_cases h:y=a
   ·subst h
    show c9 (if y=y then (y,rG l b)::D else _) x=_
    rw [if_pos rfl]
    show (if y=x then rG l b else c9 D x)=if y=x then rG (if y=y then l else _) b else if y=x then l else c9 D x
    rw [if_pos rfl]
    split<;>rfl
   ·show c9 (if y=a then _ else (y,l)::jc D a b) x=_
    rw [if_neg h]
    show (if y=x then l else c9 (jc D a b) x)=if a=x then rG (if y=a then l else c9 D a) b else if y=x then l else c9 D x
    rw [if_neg h,qD D a b x]
    by_cases h2:a=x
    ·subst h2;rw [if_neg h,if_pos rfl,if_pos rfl]
    ·rw [if_neg h2,if_neg h2]
theorem qE:∀ (D:UD) (a b x:Int),x∈(jc D a b).map (·.1)↔x∈D.map (·.1)\/x=a
 | [],a,b,x=>by simp [jc]
 | (y,l)::D,a,b,x=>by
   unfold jc
   split
   ·rename_i h
    subst h
    simp only [aD,aE]
    constructor
    ·exact .inl
    ·rintro (z | z)
     ·exact z
     ·exact .inl z
   ·rw [aD,aE,aD,aE,qE D a b x,or_assoc]
theorem sI:∀ (D:UD) (a b:Int),(D.map (·.1)).Nodup->((jc D a b).map (·.1)).Nodup
 | [],a,b,_=>by simp [jc]
 | (y,l)::D,a,b,h=>by
   unfold jc
   split
   ·exact h
   ·rename_i hne
    rw [aD,bi] at h ⊢
    refine ⟨fun z=>?_,sI D a b h.2⟩
    rcases (qE D a b y).mp z with z | z
    ·exact h.1 z
    ·exact hne z
structure Jj (T:List PI) (D:UD):Prop where
 get:∀ a b,b∈c9 D a↔(a,b)∈T
 key:∀ a,a∈D.map (·.1)↔∃ b,(a,b)∈T
 nd:(D.map (·.1)).Nodup
 ndv:∀ a,(c9 D a).Nodup
theorem wU {l:List Int} {b:Int} (h:l.Nodup):(rG l b).Nodup:=by
 unfold rG
 split
 ·exact h
 ·rename_i hn
  exact bj.mpr ⟨h,bg _ _,fun a ha c hc=>by rw [ay] at hc;subst hc;intro z;subst z;exact hn ha⟩
theorem vo:∀ (T T0:List PI) (D:UD),Jj T0 D->Jj (T0++T) (T.foldl (fun D p=>jc D p.1 p.2) D)
 | [],T0,D,h=>by rw [cC];exact h
 | p::T,T0,D,h=>by
   have:=vo T (T0++[p]) (jc D p.1 p.2) ⟨fun a b=>?_,fun a=>?_,sI _ _ _ h.nd,fun a=>?_⟩
   ·rw [fz] at this;exact this
   ·rw [qD]
    by_cases e:p.1=a
    ·subst e
     rw [if_pos rfl,Cr,h.get,aA,ay]
     constructor
     ·rintro (z | z)
      ·exact .inl z
      ·subst z;exact .inr rfl
     ·rintro (z | z)
      ·exact .inl z
      ·right;rw [<- z]
    ·rw [if_neg e,h.get,aA,ay]
     constructor
     ·exact .inl
     ·rintro (z | z)
      ·exact z
      ·exact absurd (by rw [<- z]) e
   ·rw [qE,h.key]
    constructor
    ·rintro (⟨b,z⟩ | z)
     ·exact ⟨b,cQ _ z⟩
     ·subst z;exact ⟨p.2,by simp⟩
    ·rintro ⟨b,z⟩
     rcases aA.mp z with z | z
     ·exact .inl ⟨b,z⟩
     ·rw [ay] at z;right;rw [<- z]
   ·rw [qD]
    split
    ·exact wU (h.ndv _)
    ·exact h.ndv a
theorem De (T:List PI):Jj T (upp T):=by
 exact vo T [] [] ⟨by simp [c9],by simp,.nil,fun a=>.nil⟩
theorem vz:∀ T:List PI,dh (T.map dP)=some T
 | []=>rfl
 | p::T=>by show (dh (T.map dP)).map ((p.1,p.2)::·)=_;rw [vz T];rfl
theorem BI {T:List PI} (h:T.length<=1000):fn_uppers_of [.lst (T.map dP)]=some (dU (upp T)):=by
 unfold fn_uppers_of;dsimp only;rw [vz];dsimp only;rw [if_pos h]
theorem FX:∀ (D:UD) (a:Int),atK (D.map fun e=>(av e.1:Key)) (D.map fun e=>dD e.2) (av a)=if a∈D.map (·.1) then some (dD (c9 D a)) else none
 | [],a=>by simp [atK]
 | (y,l)::D,a=>by
   show (if (av y:Key)=av a then some (dD l) else atK (D.map fun e=>(av e.1:Key)) (D.map fun e=>dD e.2) (av a))=_
   by_cases h:y=a
   ·subst h
    rw [if_pos rfl,if_pos (by simp)]
    simp [c9]
   ·rw [if_neg (fun z=>h (cM z)),FX D a]
    have e1:(a∈((y,l)::D).map (·.1))↔a∈D.map (·.1):=by
     rw [aD,aE]
     constructor
     ·rintro (z | z)
      ·exact absurd z.symm h
      ·exact z
     ·exact .inr
    have e2:c9 ((y,l)::D) a=c9 D a:=by show (if y=a then l else c9 D a)=_;rw [if_neg h]
    rw [e2]
    by_cases h3:a∈D.map (·.1)
    ·rw [if_pos h3,if_pos (e1.mpr h3)]
    ·rw [if_neg h3,if_neg (fun z=>h3 (e1.mp z))]
theorem zM (D:UD) (a:Int):lL (dU D) (.int a)=some (if a∈D.map (·.1) then some (dD (c9 D a)) else none):=by
 show some (atK _ _ (av a))=_
 rw [FX]
theorem nF:∀ {D:UD} {a:Int},a∉D.map (·.1)->c9 D a=[]
 | [],_,_=>rfl
 | (y,l)::D,a,h=>by
   rw [aD,aE] at h
   unfold c9
   rw [if_neg (fun z=>h (.inl z.symm)),nF fun z=>h (.inr z)]
theorem AL (D:UD) (a:Int) (f g:Rho->Option Rv) (ρ:Rho) {k k':Kd} (hf:f ρ=some (k,dU D)) (hg:g ρ=some (k',.int a)) :
 jb (kq f g (xC2 (.fr,.dK [] []))) ρ=some (.pu,dD (c9 D a)):=by
 simp only [vO,qK,hf,hg,Hc,zM]
 by_cases h:a∈D.map (·.1)
 ·rw [if_pos h]
 ·rw [if_neg h,nF h];rfl
theorem uU {f:Rho->Option Rv} {ρ:Rho} {l:List Int} (h:f ρ=some (.pu,dD l)):c4 f ρ=some (l.map Da.int):=by
 simp only [mZ,h,dD,aQ]
 rfl
theorem Hu:∀ (l:List Int) (a:Int),atK (l.map (av:Int->Key)) (l.map fun _=>Da.bl true) (av a)=if a∈l then some (.bl true) else none
 | [],a=>by simp [atK]
 | y::l,a=>by
   show (if (av y:Key)=av a then some (Da.bl true) else atK (l.map (av:Int->Key)) (l.map fun _=>Da.bl true) (av a))=_
   by_cases h:y=a
   ·subst h;rw [if_pos rfl,if_pos (by simp)]
   ·rw [if_neg (fun z=>h (cM z)),Hu l a]
    by_cases h3:a∈l
    ·rw [if_pos h3,if_pos (al _ h3)]
    ·rw [if_neg h3,if_neg (fun z=>(aE.mp z).elim (fun w=>h w.symm) h3)]
theorem Jp (n:Bool) (a b:Kd) (l:List Int) (x:Int):oIn n (a,.int x) (b,dD l)=some (.pu,.bl (if n then !decide (x∈l) else decide (x∈l))):=by
 unfold oIn AI
 dsimp only
 rw [show lL (dD l) (.int x)=some (if x∈l then some (.bl true) else none) from by show some (atK _ _ (av x))=_;rw [Hu]]
 by_cases h:x∈l<;>simp [h]
end Ry
namespace Ry
open PySem PySem.Spec PyProof.Rows L2
open PySem.W (Looks)
section
variable {prog:bh} {w:bT} {A:bE} {E:ag->ai->Prop} {s:ai}
theorem ze {l b:au} {items items2:Array ag} {ns ms:List Int} {Q:Bool->ai->Prop} (hl:jd s.heap l items) (hb:jd s.heap b items2) (hi:fy items.toList ns) (hj:fy items2.toList ms)
 (hu:A.units<cg) (h:Q (HT.lexLt ns ms) s):aN (aZ prog w) A (oneLt' true (.ref l) (.ref b)) Q E s:=by
 obtain ⟨⟨cls,dd,data,sl⟩,ho,hc,n,hd⟩:=id hl
 obtain ⟨⟨cls2,dd2,data2,sl2⟩,ho2,hc2,n2,hd2⟩:=id hb
 simp only at hc hd hc2 hd2
 subst hc hd hc2 hd2
 rw [oneLt'_eq]
 simp only [if_true]
 refine ac (wpAny_cRoomFor hu ?_)
 refine ac (wpAny_callSpecialIfBound?_slot (T:="tuple") ⟨_,ho,rfl⟩ jA (nh jA ⟨_,ho,rfl⟩ p3 (o8 _ _) (HT.tuple_lt_ints l b items items2 n n2 dd dd2 sl sl2 ns ms hi hj) ⟨ho,ho2,?_⟩))
 exact c5 h
end
noncomputable def y4 (h:b9):List ag->List (Option ag)->Prop
 | [],[]=>True
 | v::vs,f::fs=>(∃ a o xs n,v=.ref a/\h.get? a=some o/\o.cls=.type "tuple"/\o.data=.seq xs n/\xs[0]?=f)/\y4 h vs fs
 | _,_=>False
section
variable {M:Model} {A:bE} {E:ag->ai->Prop} {s:ai}
theorem vF:∀ (vs:List ag) (fs:List (Option ag)) {Q:List (Option ag)->ai->Prop},y4 s.heap vs fs->Q fs s->aN M A (vs.mapM firstOfTuple') Q E s
 | [],[],_,_,h=>by rw [List.mapM_nil];exact aq h
 | [],_::_,_,t,_=>t.elim
 | _::_,[],_,t,_=>t.elim
 | v::vs,f::fs,Q,t,h=>by
   obtain ⟨⟨a,o,xs,n,rfl,ho,hc,hd,hf⟩,t⟩:=t
   rw [List.mapM_cons]
   refine ac ?_
   rw [PySem.W.kas_first_eq]
   refine ac (Looks.here (show Looks M s.heap (typeOf (.ref a)) o.cls from (Looks.ld ho).andThen .now) ?_)
   rw [hc,if_neg (by first | decide | simp)]
   refine ac (iU ho hd (aq ?_))
   rw [hf]
   exact ac (vF vs fs (Q:=fun bs s'=>aN M A (pure (f::bs)) Q E s') t (aq h))
theorem pT:∀ {vs:List ag} {fs:List (Option ag)},y4 s.heap vs fs->∀ v∈vs,Looks M s.heap (typeOf v) (.type "tuple")
 | [],_,_,v,h=>by cases h
 | _::_,[],t,_,_=>t.elim
 | u::vs,f::fs,t,v,h=>by
   rcases aE.mp h with rfl | h
   ·obtain ⟨⟨a,o,xs,n,rfl,ho,hc,hd,hf⟩,_⟩:=t
    rw [<- hc]
    exact (Looks.ld ho).andThen .now
   ·exact pT t.2 v h
noncomputable def yV (fs:List (Option ag)):ib:=if (fs.toArray[0]?.bind id).isSome=true then general' else oP
theorem HG {vs:List ag} {fs:List (Option ag)} {Q:ib->ai->Prop} (t:y4 s.heap vs fs) (h0:vs≠[]) (hne:(fs.toArray.all fun x=>x.isSome)=false) (h:Q (yV fs) s):aN M A (Bf vs.toArray) Q E s:=by
 rw [kat_kind_eq,ya,map_eq_pure_bind]
 refine ac (ac (vF vs fs t (aq ?_)))
 rw [if_neg (by rw [hne];exact aM)]
 unfold yV at h
 by_cases z:(fs.toArray[0]?.bind id).isSome=true
 ·rw [if_pos z] at h ⊢
  exact aq h
 ·rw [if_neg z] at h ⊢
  rw [oneTypeOnly'_eq,ya,map_eq_pure_bind]
  refine ac (ac (ac (PySem.W.kas_mapM (r:=fH "tuple") _ (fun v hv Q' hq=>(pT t v hv).here hq) (aq ?_))))
  obtain ⟨v,r,rfl⟩:∃ v r,vs=v::r:=by
   cases vs with
   | nil=>exact absurd rfl h0
   | cons v r=>exact ⟨v,r,rfl⟩
  have hall:((gP (fun _=>fH "tuple") (v::r)).toArray.all fun x=>x == fH "tuple")=true:=by
   simp only [A4,tZ,bX]
   intro _ _
   rfl
  have h0:(gP (fun _=>fH "tuple") (v::r)).toArray[0]?=some (fH "tuple"):=by simp
  rw [h0]
  simp only [hall,if_true]
  exact aq (aq h)
end
end Ry
namespace Ry
open PySem PySem.Spec PyProof.Rows L2
noncomputable def pj (h:b9):ag->Option ag
 | .ref a=>match h.get? a with
   | some o=>match o.data with
     | .seq xs _=>xs[0]?
     | _=>none
   | none=>none
 | _=>none
theorem sC {h:b9} {a:au} {o:cX} {xs:Array ag} {n:Nat} (ho:h.get? a=some o) (hd:o.data=.seq xs n):pj h (.ref a)=xs[0]?:=by
 unfold pj
 dsimp only
 rw [ho]
 dsimp only
 rw [hd]
theorem vy {h h':b9} (kp:∀ b o,h.get? b=some o->h'.get? b=some o):∀ (vs:List ag),(∀ v∈vs,∃ (a:au) (its:List ag),v=.ref a/\jd h a its.toArray)->y4 h' vs (vs.map (pj h))
 | [],_=>trivial
 | v::vs,hv=>by
   refine ⟨?_,vy kp vs fun u hu=>hv u (al _ hu)⟩
   obtain ⟨a,its,rfl,o,ho,hc,n,hd⟩:=hv v am
   refine ⟨a,o,_,n,rfl,kp _ _ ho,hc,hd,(sC ho hd).symm⟩
section
variable {X:Cx} {pins:List (au×cX)} {σ:St} {H:Hp} {s:ai}
theorem nS {x:ag} {ts:List (List Int)} {ys:List V} {vs:List ag} {Q:VK} (hu:X.A.in1.in1.units<cg) (I:Inv X pins σ H s) (col:gD X.prog X.w X.A.in1 s x vs) (rv:dJ ys vs) (hy:ys.length=ts.length)
 (hys:∀ i,i<ts.length->∃ a,ys[i]?=some (.ref a)/\SqT X.K H a ((ts.getD i []).map V.int)) (h64:OkN ts)
 (k:∀ p q,H p=none->Plc HT.lexLt [] ts q->Q (.ref p) (upd H p (.lst (q.map fun i=>ys.getD i .non)))):aN (aZ X.prog X.w) X.A (call (.builtin "sorted") [x]) (EP X pins σ Q) X.xe s:=by
 by_cases hall:∀ i,i<ts.length->ts.getD i []≠[]
 ·exact iP I col rv hy (fun i hi=>by obtain ⟨a,e1,e2⟩:=hys i hi;exact ⟨a,e1,e2,hall i hi⟩) h64 k
 have ⟨i0,hi0,he0⟩:∃ i,i<ts.length/\ts.getD i []=[]:=by
  by_cases z:∃ i,i<ts.length/\ts.getD i []=[]
  ·exact z
  ·exact absurd (fun i hi e=>z ⟨i,hi,e⟩) hall
 have hl:vs.length=ts.length:=by rw [<- rv.length,hy]
 have at':∀ i,i<vs.length->∃ (a:au) (its:List ag),vs.getD i bq=.ref a/\dJ ((ts.getD i []).map V.int) its/\jd s.heap a its.toArray:=fun i hi=>by
  obtain ⟨a,e,sq⟩:=hys i (by lia)
  obtain ⟨u,hu,ru⟩:=rv.get e
  cases (show u=bI a from ru)
  obtain ⟨its,r,it,_⟩:=I.tuple sq
  exact ⟨a,its,by rw [aB,hu];rfl,r,it⟩
 have all':∀ v∈vs,∃ (a:au) (its:List ag),v=.ref a/\jd s.heap a its.toArray:=fun v hv=>by
  obtain ⟨i,hi,rfl⟩:=cH hv
  obtain ⟨a,its,e,_,it⟩:=at' i hi
  exact ⟨a,its,by rw [<- e];simp [hi],it⟩
 refine me (O:=uR) (κ:=yV (vs.map (pj s.heap))) (key:=fun i=>ts.getD i []) col (by rw [hl];exact h64.inj []) (fun h' tk kp h2 Q' q=>?_) (fun h' tk kp i j C hi hj c=>?_) fun p h1 h' tk c hp hu k1 kp e=>?_
 ·refine HG (vy kp vs all') (fun z=>by rw [z] at h2;simp at h2) ?_ q
  have hi':i0<vs.length:=by lia
  obtain ⟨a,its,ea,r,o,ho,hc,n,hd⟩:=at' i0 hi'
  rw [he0] at r
  cases r
  rw [A4,tZ,List.all_eq_false]
  refine ⟨vs.getD i0 bq,by rw [aB,aj hi'];exact gc hi',?_⟩
  rw [ea]
  show ¬ (pj s.heap (.ref a)).isSome=true
  rw [sC ho hd]
  simp
 ·show aN (aZ X.prog X.w) _ (keyLt' (yV (vs.map (pj s.heap))) (vs.getD i bq) (vs.getD j bq)) C _ _
  obtain ⟨a,its,e1,r1,⟨o,ho,hc,n,hd⟩⟩:=at' i hi
  obtain ⟨a',its',e2,r2,⟨o',ho',hc',n',hd'⟩⟩:=at' j hj
  rw [e1,e2]
  have t1:jd h' a its.toArray:=⟨o,kp _ _ ho,hc,n,hd⟩
  have t2:jd h' a' its'.toArray:=⟨o',kp _ _ ho',hc',n',hd'⟩
  unfold yV
  split
  ·exact mO _ _ (HT.lt_tupInts t1 t2 (eu r1) (eu r2) hu c)
  ·exact ze t1 t2 (eu r1) (eu r2) hu c
 ·rw [hl] at hp hu
  have pl:=kQ (O:=uR) ([]:List Int) hp hu
  have hz:aK=16777216:=bu
  have h1p:p.toList.Perm (bG ts.length):=by simpa using cB.mp hp.perm
  have hpm:∀ i∈p.toList,i<ys.length:=fun i hi=>by rw [hy];simpa using h1p.mem_iff.mp hi
  have r2:=jY rv p.toList hpm
  have h127:ts.length<=63:=by rcases h64 with z | z<;>lia
  have hlen:(p.toList.map fun i=>ys.getD i .non).length<=aK:=by rw [af,h1p.length_eq,fA];lia
  have I1:Inv X pins σ H { s with heap:=h1,toks:=tk }:=I.kept (t':=tk) k1
  refine ⟨.ref h1.objs.size,_,I1.laid (t':=tk) kp (az _) (show gz X.prog X.w _ h' _ (.lst _) from ⟨hlen,_,c,r2,e⟩),rfl,k _ p.toList (I1.hok.fresh (az _)) ⟨h1p,?_⟩⟩
  exact pl.trans (uo uR ts)
end
noncomputable def AN (K:ae):List V->Hp->VK->Prop:=fun xs H Q=>∃ (p:au) (ts:List (List Int)) (ys:List V),xs=[.ref p]/\OkN ts/\ys.length=ts.length/\(SqL K H p ys\/SqT K H p ys)/\(∀ i,i<ts.length->∃ a,ys[i]?=some (.ref a)/\SqT K H a ((ts.getD i []).map V.int)) /\
 ∀ l q,H l=none->Plc HT.lexLt [] ts q->Q (.ref l) (upd H l (.lst (q.map fun i=>ys.getD i .non)))
theorem sT {X:Cx} (hr:iz 2 X.A):j0 X (.builtin "sorted") (AN X.K):=by
 intro pins s σ H xs us Q I r h
 obtain ⟨p,ts,ys,rfl,h64,hy,src,hys,k⟩:=h
 obtain ⟨u,rfl,rx⟩:=kZ r
 cases rx
 obtain ⟨vs,col,rv⟩:=rq (A:=X.A.in1) I src
 have hu:X.A.in1.in1.units<cg:=by have:=hr.un;show X.A.units+1+1<cg;lia
 exact nS hu I col rv hy hys h64 k
noncomputable def BV (ds:List Da):Option (List Da):=match n6 ds with
 | some ts=>if OkN ts then some ((Ms.srt HT.lexLt ts).map fun t=>.tup (t.map Da.int)) else none
 | none=>none
noncomputable def gH:List Rv->Option Rv
 | [(_,.lst ds)]=>match BV ds with | some es=>some (.fr,.lst es) | none=>none
 | [(_,.tup ds)]=>match BV ds with | some es=>some (.fr,.lst es) | none=>none
 | _=>none
theorem uY {K:ae}:Cal K (AN K) gH:=by
 intro B H0 G H rs c xs Q sg ra e k
 have seq:∀ {p:au} {ds:List Da} {ys:List V} {es:List Da},(SqL K H p ys\/SqT K H p ys)->cD K G ds ys->BV ds=some es->c=(.fr,.lst es)->AN K [.ref p] H Q:=fun {p ds ys es} sq dl es' ec=>by
  unfold BV at es'
  split at es'
  ·rename_i ts et
   split at es'
   ·rename_i h64
    cases es'
    have ed:=qV et
    have hlen:ys.length=ts.length:=by rw [dl.length,ed,af]
    have itm:∀ i,i<ts.length->∃ a xs,ys[i]?=some (.ref a)/\G a=some (.tup xs)/\xs=(ts.getD i []).map V.int:=fun i hi=>by
     have:ds[i]?=some (.tup ((ts.getD i []).map Da.int)):=by rw [ed,aC,g9 hi []];rfl
     obtain ⟨x,hx,a,xs,rfl,ga,da⟩:=dl.get this
     exact ⟨a,xs,hx,ga,cD.ints.mp da⟩
    refine ⟨p,ts,ys,rfl,h64,hlen,sq,fun i hi=>?_,fun l q hl hq=>?_⟩
    ·obtain ⟨a,xs,e1,e2,e3⟩:=itm i hi
     subst e3
     exact ⟨a,e1,SqT.of (sg _ _ e2)⟩
    ·refine k _ G _ (Ext.own sg hl) ?_
     rw [ec,vd hq]
     refine ⟨l,_,rfl,hl,sg.free hl,aU,_,rfl,kc (K:=K) (G:=G) q fun i hi=>?_⟩
     obtain ⟨a,xs,e1,e2,e3⟩:=itm i (ym hq hi)
     subst e3
     have e4:ys.getD i .non=.ref a:=by rw [aB,e1];rfl
     show Den K G (.tup _) (ys.getD i .non)
     rw [e4]
     exact ⟨a,_,rfl,e2,cD.ints.mpr rfl⟩
   ·cases es'
  ·cases es'
 unfold gH at e
 split at e
 ·split at e
  ·rename_i es' he
   cases e
   obtain ⟨v,rfl,h⟩:=e7.one ra
   obtain ⟨p,ys,rfl,q,d⟩:=h.lst sg
   exact seq (.inl q) d he rfl
  ·cases e
 ·split at e
  ·rename_i es' he
   cases e
   obtain ⟨v,rfl,h⟩:=e7.one ra
   obtain ⟨p,ys,rfl,q,d,g⟩:=h.tup sg
   exact seq (.inr (SqT.of q)) d he rfl
  ·cases e
 ·cases e
section
variable {X:Cx} {e:aR} {es:List aR} {p pos:d4} {g:Rho->Option (List Rv)}
theorem xb (hr:iz 2 X.A) (hg:Gl X "sorted") (hm:X.mg "sorted" = none) (ha:PXA X (e::es) g) (he:ao (e::es) X.env=(false,bL e X.env)::ao es X.env:=by exact bD rfl) (hpl:(bZ pos (ao es X.env)).any (·.1)=false:=by rfl):PX X (.Call (.Name "sorted" p) (e::es) [] pos) (xB gH g) :=
 Dz (sT hr) uY hg hm (by decide +kernel) ha (by decide) (by decide) he hpl
end
section
variable {X:Cx} {p pos:d4}
theorem l9 {e:aR} {es:List aR} {g:Rho->Option (List Rv)} (hr:iz 2 X.A) (hg:Gl X "sorted") (hm:X.mg "sorted" = none) (ha:QXA X (e::es) g) (he:ao (e::es) X.env=(false,bL e X.env)::ao es X.env:=by exact bD rfl) (hpl:(bZ pos (ao es X.env)).any (·.1)=false:=by rfl) :
 QX X (.Call (.Name "sorted" p) (e::es) [] pos) (xB gH g):=QX.mk (xb hr hg hm ha.out he hpl)
end
section
variable {P:bh} {w:bT} {K:ae} {mg:bv->Option ag} {base:b9} {x:bv} {st:cq} {N ps:List bv} {k n:Nat} {g:Rho->Res}
theorem oW (hf:dQ K mg x st) (S:fX N ps (bn st)) (hn:ps.length=n)
 (hbind:∀ (kV doc pm:ag) (an:Option au) (cdv ct:ag) (us:List ag),us.length=ps.length->iD (cW x x (iu st) (dZ st) (bn st) .none kV doc pm an cdv ct) ⟨us,[]⟩=pure (ps.zip us))
 (h:∀ (f:au) (cdv:ag) (A:bE) (outer:List m8) (s:ai) (H:Hp) (E:XK),iz k (A.deeper (dR x (bn st) s.heap.objs.size f cdv))->(A.deeper (dR x (bn st) s.heap.objs.size f cdv)).units+64<cg->(A.deeper (dR x (bn st) s.heap.objs.size f cdv)).units+1<cg->N.Nodup->pO (rV CX0 P w K mg base N x (bn st) f cdv A outer s H E).nox (dZ st) g) :
 Ca P w K mg base x ps (k+1) n (iQ N.length g):=JS hf S hn hbind fun f cdv A outer s H E hr=>(h f cdv A outer s H E hr hr.units (oT hr) S.nd).out
theorem Gn (hf:mh K mg x st) (hK:K.In base) (hB:Bm mg base) (S:fX N ps (bn st)) (hn:ps.length=n)
 (hbind:∀ (kV doc pm:ag) (an:Option au) (cdv ct:ag) (us:List ag),us.length=ps.length->iD (cW x x (iu st) (dZ st) (bn st) .none kV doc pm an cdv ct) ⟨us,[]⟩=pure (ps.zip us))
 (h:∀ (f c P1:au) (A:bE) (outer:List m8) (s:ai) (H:Hp) (E:XK),ir base c P1->(P1,x++".<locals>."++"<lambda>")∈g7 K->iz k (A.deeper (dR x (bn st) s.heap.objs.size f (.ref c)))->(A.deeper (dR x (bn st) s.heap.objs.size f (.ref c))).units+64<cg->(A.deeper (dR x (bn st) s.heap.objs.size f (.ref c))).units+1<cg->N.Nodup->pO (rV CX0 P w K mg base N x (bn st) f (.ref c) A outer s H E).nox (dZ st) g) :
 Ca P w K mg base x ps (k+1) n (iQ N.length g):=FY hf hK hB S hn hbind fun f c P1 A outer s H E hCd hTb hr=>(h f c P1 A outer s H E hCd hTb hr hr.units (oT hr) S.nd).out
theorem Ke {f:au} {fd:cJ} (F:Fun K x x st f fd) (S:fX N ps (bn st)) (hn:ps.length=n)
 (h:∀ (cdv:ag) (A:bE) (outer:List m8) (s:ai) (H:Hp) (E:XK),iz k (A.deeper (dR x (bn st) s.heap.objs.size f cdv))->(A.deeper (dR x (bn st) s.heap.objs.size f cdv)).units+64<cg->(A.deeper (dR x (bn st) s.heap.objs.size f cdv)).units+1<cg->N.Nodup->pO (rV CX0 P w K mg base N x (bn st) f cdv A outer s H E).nox (dZ st) g) :
 rH P w K mg base CX0 (k+1) f fd ps (spD K n (iQ N.length g)):=Dj F S hn fun cdv A outer s H E hr=>(h cdv A outer s H E hr hr.units (oT hr) S.nd).out
end
end Ry
namespace G
open PySem L2 Ry
noncomputable def wV:Rho->Res:=(fj (FQ (ve E8 (aY 0)) (Kw (ve Cb (aY 0)))))
noncomputable def gV:List Da->Option Da:=iQ 1 wV
end G
set_option linter.unusedSimpArgs false
namespace Ry
open PySem L2
@[simp] theorem Kn (n:Bool) (a b:Kd) (i j:Int):oEq n (a,.int i) (b,.int j)=some (.pu,.bl (if n then !(i == j) else i == j)):=by
  unfold oEq
  rw [if_pos (by rfl)]
  rfl
theorem oh:∀ bs:List Bool,mH (bs.map Da.bl)=some bs
 | []=>rfl
 | b::bs=>by unfold mH;rw [aD];dsimp only;rw [oh bs];rfl
@[simp] theorem DV {α:Type} (k:Kd) (f:α->Bool) (xs:List α):DG [(k,.lst (xs.map fun x=>Da.bl (f x)))]=some (.pu,.bl (xs.all f)):=by
  have:xs.map (fun x=>Da.bl (f x))=(xs.map f).map Da.bl:=by rw [aQ];rfl
  rw [this];unfold DG;dsimp only;rw [oh];dsimp only;rw [tZ];rfl
@[simp] theorem fAny_bl {α:Type} (k:Kd) (f:α->Bool) (xs:List α):DP [(k,.lst (xs.map fun x=>Da.bl (f x)))]=some (.pu,.bl (xs.any f)):=by
  have:xs.map (fun x=>Da.bl (f x))=(xs.map f).map Da.bl:=by rw [aQ];rfl
  rw [this];unfold DP;dsimp only;rw [oh];dsimp only;rw [List.any_map];rfl
theorem pI {n:Nat} {g:Rho->Res} {ds:List Da} {ρ:Rho} {d:Da} (e0:ff n ds=ρ) (h:g ρ=.rt d):iQ n g ds=some d:=by unfold iQ;rw [e0,h]
theorem fF {α:Type} (xs:List α):xs.filter (fun _=>true)=xs:=by simp
theorem fM {α:Type} {enc:α->Da} {ix:List (Option Nat)} {fi:Rho->Option (List Da)} {c:Rho->Option Bool} {f:Rho->Option Rv} {i:Nat} {ρ:Rho} {xs:List α} {p:α->Bool} {e:α->Da} (hi:fi ρ=some (xs.map enc)) (hl:xs.length<=1000000)
 (h:∀ x∈xs,c ((mpR ix ρ).set i (.pu (enc x)))=some (p x)/\(p x=true->∃ r,f ((mpR ix ρ).set i (.pu (enc x)))=some r/\eG r=true/\r.2=e x)):fK ix fi (tgN i) c f ρ=some (.fr,.lst ((xs.filter p).map e)):=by
 unfold fK
 rw [hi]
 dsimp only
 rw [if_pos (by rw [af];exact hl),zD h]
theorem sj {α:Type} {enc:α->Da} {ix:List (Option Nat)} {fi:Rho->Option (List Da)} {c:Rho->Option Bool} {f:Rho->Option Rv} {i j:Nat} {ρ:Rho} {xs:List α} {p:α->Bool} {e a b:α->Da} (hi:fi ρ=some (xs.map enc)) (hl:xs.length<=1000000)
 (h:∀ x∈xs,c (((mpR ix ρ).set i (.pu (a x))).set j (.pu (b x)))=some (p x)/\(p x=true->∃ r,f (((mpR ix ρ).set i (.pu (a x))).set j (.pu (b x)))=some r/\eG r=true/\r.2=e x)) (hij:i≠j) (henc:∀ x,enc x=.tup [a x,b x]):fK ix fi (tgT 2 (gE (tgN i) (gE (tgN j) mV))) c f ρ=some (.fr,.lst ((xs.filter p).map e)):=by
 unfold fK
 rw [hi]
 dsimp only
 rw [if_pos (by rw [af];exact hl),Cy h hij henc]
end Ry
namespace G
open PySem L2 Ry
@[simp] theorem whole_int (i:Int):gV [.int i]=some (.bl true):=rfl
@[simp] theorem whole_bl (i:Bool):gV [.bl i]=some (.bl false):=rfl
@[simp] theorem whole_non:gV [.non]=some (.bl false):=rfl
@[simp] theorem whole_str (i:bv):gV [.str i]=some (.bl false):=rfl
@[simp] theorem whole_tup (i:List Da):gV [.tup i]=some (.bl false):=rfl
@[simp] theorem whole_lst (i:List Da):gV [.lst i]=some (.bl false):=rfl
end G
set_option linter.unusedSimpArgs false
set_option linter.unusedSimpArgs false
namespace Ry
open PySem L2
theorem GB (p q:PI):cp (toP (dP p)) (toP (dP q))=decide (p=q):=by
 show (cp (.int p.1) (.int q.1)&&(cp (.int p.2) (.int q.2)&&true))=_
 rw [ce]
 simp only [cp,Bool.and_true,aT,beq_iff_eq,decide_eq_true_eq]
 exact ⟨fun h=>ku h.1 h.2,fun h=>by subst h;exact ⟨rfl,rfl⟩⟩
theorem Ir (p:PI):(toP (dP p)).canLay0=true:=rfl
theorem En (p:PI):(toP (dP p)).depth<=60:=by
 simp [dP,toP,hW,dE,bN]
theorem qz:∀ T:List PI,cf (hW (T.map dP))=true
 | []=>rfl
 | p::T=>by
   show (cz (toP (dP p))&&cf (hW (T.map dP)))=true
   rw [Ir,qz T];rfl
theorem D6 (p:PI):∀ T:List PI,inD (dP p) (T.map dP)=decide (p∈T)
 | []=>rfl
 | q::T=>by
   have ih:=D6 p T
   unfold inD at ih ⊢
   show (cp (toP (dP q)) (toP (dP p))||(hW (T.map dP)).any fun y=>cp y (toP (dP p)))=_
   rw [ih,GB,ce]
   simp only [im,decide_eq_true_eq,aE]
   exact ⟨fun h=>h.imp (fun z=>z.symm) id,fun h=>h.imp (fun z=>z.symm) id⟩
theorem Dr (p:PI) (T:List PI):zX (dP p) (T.map dP)=true:=by
 unfold zX
 rw [Ir,qz]
 have:=En p
 simp only [lm,lp,decide_eq_true_eq]
 lia
theorem Jy (n:Bool) (a b:Kd) (p:PI) (T:List PI):oIn n (a,dP p) (b,.tup (T.map dP))=some (.pu,.bl (if n then !decide (p∈T) else decide (p∈T))):=by
 unfold oIn AI Fp
 dsimp only
 rw [Dr,if_pos rfl,D6]
 rfl
theorem Ka (n:Bool) (a b:Kd) (p:PI) (T:List PI):oIn n (a,dP p) (b,.lst (T.map dP))=some (.pu,.bl (if n then !decide (p∈T) else decide (p∈T))):=by
 unfold oIn AI Fp
 dsimp only
 rw [Dr,if_pos rfl,D6]
 rfl
@[simp] theorem oIn_T2 (n:Bool) (a b:Kd) (x y:Int) (T:List PI):oIn n (a,.tup [.int x,.int y]) (b,.tup (T.map dP))=some (.pu,.bl (if n then !decide ((x,y)∈T) else decide ((x,y)∈T))):=Jy n a b (x,y) T
@[simp] theorem oIn_L2 (n:Bool) (a b:Kd) (x y:Int) (T:List PI):oIn n (a,.tup [.int x,.int y]) (b,.lst (T.map dP))=some (.pu,.bl (if n then !decide ((x,y)∈T) else decide ((x,y)∈T))):=Ka n a b (x,y) T
end Ry
set_option linter.unusedSimpArgs false
namespace G3
open PySem L2 Ry G
noncomputable def dC (C:List PI):Da:=.dK (C.map fun e=>av e.1) (C.map fun e=>.int e.2)
noncomputable def d8 (C:List PI):List Int:=C.map (·.1)
noncomputable def iA:List PI->Int->Int
 | [],_=>0
 | (y,x)::C,a=>if y=a then x else iA C a
theorem IS:∀ (C:List PI) (a:Int),atK (C.map fun e=>(av e.1:Key)) (C.map fun e=>Da.int e.2) (av a)=if a∈d8 C then some (.int (iA C a)) else none
 | [],a=>by simp [atK,d8]
 | (y,x)::C,a=>by
   show (if (av y:Key)=av a then some (Da.int x) else atK (C.map fun e=>(av e.1:Key)) (C.map fun e=>Da.int e.2) (av a))=_
   by_cases h:y=a
   ·subst h
    rw [if_pos rfl,if_pos (by simp [d8])]
    simp [iA]
   ·rw [if_neg (fun z=>h (cM z)),IS C a]
    have e1:(a∈d8 ((y,x)::C))↔a∈d8 C:=by
     unfold d8
     rw [aD,aE]
     constructor
     ·rintro (z | z)
      ·exact absurd z.symm h
      ·exact z
     ·exact .inr
    have e2:iA ((y,x)::C) a=iA C a:=by show (if y=a then x else iA C a)=_;rw [if_neg h]
    rw [e2]
    by_cases h3:a∈d8 C
    ·rw [if_pos h3,if_pos (e1.mpr h3)]
    ·rw [if_neg h3,if_neg (fun z=>h3 (e1.mp z))]
theorem uh (C:List PI) (a:Int):lL (dC C) (.int a)=some (if a∈d8 C then some (.int (iA C a)) else none):=by
 show some (atK _ _ (av a))=_
 rw [IS]
theorem J0 (n:Bool) (a b:Kd) (C:List PI) (x:Int):oIn n (a,.int x) (b,dC C)=some (.pu,.bl (if n then !decide (x∈d8 C) else decide (x∈d8 C))):=by
 unfold oIn AI
 dsimp only
 rw [uh]
 by_cases h:x∈d8 C<;>simp only [h,if_true,if_false]<;>cases n<;>rfl
theorem Kh {a b:Kd} {C:List PI} {x:Int} (h:x∈d8 C):oIt (a,dC C) (b,.int x)=some (.pu,.int (iA C x)):=by
 unfold oIt oIx xM
 dsimp only
 rw [uh,if_pos h]
 rfl
theorem nV:∀ (C:List PI) (y x:Int),y∉d8 C->gI (C.map fun e=>(av e.1:Key)) (av y)=(C++[(y,x)]).map (fun e=>(av e.1:Key)) /\
 gJ (C.map fun e=>(av e.1:Key)) (C.map fun e=>Da.int e.2) (av y) (.int x)=(C++[(y,x)]).map fun e=>Da.int e.2
 | [],y,x,_=>⟨rfl,rfl⟩
 | (a,b)::C,y,x,h=>by
   have hne:a≠y:=fun z=>h (by simp [d8,z])
   obtain ⟨i1,i2⟩:=nV C y x fun z=>h (by unfold d8 at *;rw [aD];exact al _ z)
   have hk:¬ (av a:Key)=av y:=fun z=>hne (cM z)
   constructor
   ·show (if (av a:Key)=av y then _ else av a::gI (C.map fun e=>(av e.1:Key)) (av y))=_
    rw [if_neg hk,i1];rfl
   ·show (if (av a:Key)=av y then _ else Da.int b::gJ (C.map fun e=>(av e.1:Key)) (C.map fun e=>Da.int e.2) (av y) (.int x))=_
    rw [if_neg hk,i2];rfl
theorem ED {C:List PI} (h:(d8 C).Nodup):(C.map fun e=>(av e.1:Key)).Nodup:=by
 have e:(C.map fun e=>(av e.1:Key))=(d8 C).map av:=by unfold d8;rw [aQ];rfl
 rw [e]
 exact bx.mpr (h.imp fun {a b} z w=>z (cM w))
theorem Gv {C:List PI} {y x:Int} (h:y∉d8 C) (nd:(d8 C).Nodup) (hl:C.length<=1000000):FM (dC C) (.int y) (.int x)=some (dC (C++[(y,x)])):=by
 obtain ⟨i1,i2⟩:=nV C y x h
 show (if (C.map fun e=>(av e.1:Key)).Nodup/\(C.map fun e=>(av e.1:Key)).length<=1000000 then some (Da.dK (gI (C.map fun e=>(av e.1:Key)) (av y)) (gJ (C.map fun e=>(av e.1:Key)) (C.map fun e=>Da.int e.2) (av y) (.int x))) else none)=_
 rw [if_pos ⟨ED nd,by rw [af];exact hl⟩,i1,i2]
 rfl
theorem vJ (C:List PI) (y x:Int):d8 (C++[(y,x)])=d8 C++[y]:=by unfold d8;rw [bC];rfl
theorem mG {C:List PI} {y x a:Int}:a∈d8 (C++[(y,x)])↔a∈d8 C\/a=y:=by rw [vJ,aA,ay]
theorem m5:∀ {C:List PI} {y x a:Int},a∈d8 C->iA (C++[(y,x)]) a=iA C a
 | [],_,_,a,h=>by cases h
 | (b,c)::C,y,x,a,h=>by
   show (if b=a then c else iA (C++[(y,x)]) a)=if b=a then c else iA C a
   by_cases e:b=a
   ·rw [if_pos e,if_pos e]
   ·rw [if_neg e,if_neg e]
    unfold d8 at h
    rw [aD,aE] at h
    exact m5 (h.resolve_left fun z=>e z.symm)
theorem wf:∀ {C:List PI} {y x:Int},y∉d8 C->iA (C++[(y,x)]) y=x
 | [],y,x,_=>by simp [iA]
 | (b,c)::C,y,x,h=>by
   unfold d8 at h
   rw [aD,aE] at h
   show (if b=y then c else iA (C++[(y,x)]) y)=x
   rw [if_neg (fun z=>h (.inl z.symm)),wf fun z=>h (.inr z)]
end G3
set_option linter.unusedSimpArgs false
set_option linter.unusedSimpArgs false
namespace Ry
open PySem L2
theorem vY:∀ P L:List PI,e5 (hW (P.map dP)) (hW (L.map dP))=decide (P=L)
 | [],[]=>rfl
 | [],q::L=>rfl
 | p::P,[]=>rfl
 | p::P,q::L=>by
   show (cp (toP (dP p)) (toP (dP q))&&e5 (hW (P.map dP)) (hW (L.map dP)))=_
   rw [GB,vY P L,ce]
   simp only [aT,decide_eq_true_eq,l5]
theorem pE:∀ L:List PI,bN (hW (L.map dP))<=1
 | []=>by simp [hW,bN]
 | p::L=>by
   show max (dE (toP (dP p))) (bN (hW (L.map dP)))<=1
   have:=pE L
   have h:dE (toP (dP p))=1:=by simp [dP,toP,hW,dE,bN]
   lia
theorem HQ (n:Int) (P:List PI):(toP (dY n P)).canLay0=true:=by
 show (cz (.int n)&&(cf (hW (P.map dP))&&true))=true
 rw [qz];rfl
theorem DT (n:Int) (P:List PI):(toP (dY n P)).depth<=3:=by
 have h:(toP (dY n P)).depth=max 0 (max (bN (hW (P.map dP))+1) 0)+1:=by simp [dY,toP,hW,dE,bN]
 have:=pE P
 lia
theorem Kc (n m:Int) (P L:List PI):cp (toP (dY n P)) (toP (dY m L))=decide (n=m/\P=L):=by
 show (cp (.int n) (.int m)&&(e5 (hW (P.map dP)) (hW (L.map dP))&&true))=_
 rw [vY,ce]
 simp only [cp,Bool.and_true,aT,beq_iff_eq,decide_eq_true_eq]
theorem JU (b:Bool) (k k':Kd) (n m:Int) (P L:List PI):oEq b (k,dY n P) (k',dY m L)=some (.pu,.bl (if b then !decide (n=m/\P=L) else decide (n=m/\P=L))):=by
 have ok:CQ (dY n P) (dY m L)=true:=by
  unfold CQ
  rw [HQ,HQ]
  have:=DT n P
  simp only [lm,lp,decide_eq_true_eq]
  lia
 unfold oEq
 rw [if_pos ok]
 show some (Kd.pu,Da.bl (if b=true then !PyData.eqv (toP (dY n P)) (toP (dY m L)) else cp (toP (dY n P)) (toP (dY m L))))=_
 rw [Kc]
theorem pF:∀ R:List Int,bN (hW (R.map Da.int))=0
 | []=>by simp [hW,bN]
 | p::T=>by
   show max (dE (.int p)) (bN (hW (T.map Da.int)))=0
   rw [pF T];simp [dE]
end Ry
namespace GW
open PySem L2 Ry G
noncomputable def g_lowers_of:Rho->Res:=(fj (cm fn_uppers_of (aH (fK [none,none,none] (c4 (jb (aY 0))) (tgT 2 (gE (tgN 1) (gE (tgN 2) mV))) (fun _=>some true) (lA (aH (aY 2) (aH (aY 1) bU)))) bU)))
noncomputable def fn_lowers_of:List Da->Option Da:=iQ 1 g_lowers_of
noncomputable def g_upwards:Rho->Res:=(fj (jO [none,some 1,none] 0 (k3 (aH (aY 0) bU)) (xB xf (aH (kq (aY 1) (aY 0) (xC2 (.fr,.dK [] []))) bU))))
noncomputable def fn_upwards:List Da->Option Da:=iQ 2 g_upwards
noncomputable def g_weights_from:Rho->Res:=(gw (j9 2 (cm fn_lowers_of (aH (x2 oIt (aY 0) (xC (.int 1))) bU)))
 (gw (wQ 3 (sv (aY 1) (xC (.int 1))))
 (gw (oC (c4 (jb (cm fn_upwards (aH (x2 oIt (aY 0) (xC (.int 0))) (aH (aY 2) bU))))) (tgN 4)
 (gw (j9 5 (jb (kq (aY 2) (aY 4) (xC2 (.fr,.dK [] [])))))
 (sIf (tb (x2 (oIn false) (aY 1) (aY 5))) (Cq 3 (aY 4) (wc (xB zk (aH (fK [none,none,some 3] (c4 (jb (aY 5))) (tgN 1) (tb (x2 (oIn false) (aY 1) (aY 2))) (x2 oIt (aY 2) (aY 1))) bU)))) mr)))
 (fj (aY 3)))))
noncomputable def fn_weights_from:List Da->Option Da:=iQ 6 g_weights_from
noncomputable def g_weight:Rho->Res:=(fj (kq (cm fn_weights_from (aH (aY 0) (aH (aY 1) bU))) (aY 2) (xC (.int 0))))
noncomputable def fn_weight:List Da->Option Da:=iQ 3 g_weight
end GW
namespace GW
open Ry
noncomputable def sm (R:List Int) (f:Int->Int):Int:=(R.map f).sum
theorem tM (f:Int->Int):sm [] f=0:=rfl
theorem dM (a:Int) (R:List Int) (f:Int->Int):sm (a::R) f=f a+sm R f:=by unfold sm;rw [aD,List.sum_cons]
theorem tz (R S:List Int) (f:Int->Int):sm (R++S) f=sm R f+sm S f:=by unfold sm;rw [bC,List.sum_append]
theorem cE {f g:Int->Int}:∀ {R:List Int},(∀ x∈R,f x=g x)->sm R f=sm R g
 | [],_=>rfl
 | a::R,h=>by rw [dM,dM,h a am,cE fun x hx=>h x (al _ hx)]
theorem jk {f:Int->Int}:∀ {R:List Int},(∀ x∈R,f x=0)->sm R f=0
 | [],_=>rfl
 | a::R,h=>by rw [dM,h a am,jk fun x hx=>h x (al _ hx)];rfl
theorem vw (f g:Int->Int):∀ R:List Int,sm R (fun x=>f x+g x)=sm R f+sm R g
 | []=>rfl
 | a::R=>by rw [dM,dM,dM,vw f g R];lia
theorem nD (c:Int) (f:Int->Int):∀ R:List Int,sm R (fun x=>c*f x)=c*sm R f
 | []=>by rw [tM,tM,gk]
 | a::R=>by rw [dM,dM,nD c f R,Int.mul_add]
theorem u9 (c:Int) (f:Int->Int) (R:List Int):sm R (fun x=>f x*c)=sm R f*c:=by
 rw [ub,<- nD];exact cE fun x _=>ub _ _
theorem qv (f:Int->Int->Int):∀ R S:List Int,sm R (fun x=>sm S (fun y=>f x y))=sm S (fun y=>sm R (fun x=>f x y))
 | [],S=>by rw [tM];exact (jk fun _ _=>rfl).symm
 | a::R,S=>by
   rw [dM,qv f R S,<- vw]
   exact cE fun y _=>(dM a R fun x=>f x y).symm
theorem DX {R S:List Int} (f:Int->Int) (h:R.Perm S):sm R f=sm S f:=by
 induction h with
 | nil=>rfl
 | cons a _ ih=>rw [dM,dM,ih]
 | swap a b l=>rw [dM,dM,dM,dM];lia
 | trans _ _ i1 i2=>rw [i1,i2]
theorem nN (p:Int->Bool) (f:Int->Int):∀ R:List Int,sm (R.filter p) f=sm R (fun x=>if p x=true then f x else 0)
 | []=>rfl
 | a::R=>by
   rw [dM,<- nN p f R]
   cases h:p a with
   | true=>rw [ju h,dM,if_pos rfl]
   | false=>rw [gy (by rw [h];exact aM),if_neg aM,jM]
theorem mD {f:Int->Int} {a:Int}:∀ {R:List Int},R.Nodup->a∈R->(∀ x∈R,x≠a->f x=0)->sm R f=f a
 | [],_,h,_=>by cases h
 | b::R,nd,h,z=>by
   obtain ⟨h1,h2⟩:=bi.mp nd
   rw [dM]
   by_cases e:b=a
   ·subst e
    rw [jk fun x hx=>z x (al _ hx) fun w=>h1 (by rw [<- w];exact hx)]
    lia
   ·rw [z b am e,mD h2 ((aE.mp h).resolve_left fun w=>e w.symm) fun x hx=>z x (al _ hx)]
    lia
theorem Kj {R:List Int} {a c:Int} (nd:R.Nodup) (h:a∈R):sm R (fun x=>if x=a then c else 0)=c:=by
 rw [mD nd h fun x _ hx=>if_neg hx,if_pos rfl]
structure Tri (n:Int) (L:List PI) (w:Int->Int->Int):Prop where
 one:∀ a,w a a=1
 off:∀ a b,a≠b->(a,b)∉L->w a b=0
noncomputable def zt (L:List PI) (s t:Int):Int:=if s=t\/(s,t)∈L then 1 else 0
noncomputable def dl (a b:Int):Int:=if a=b then 1 else 0
section
variable {n:Int} {L:List PI} {w:Int->Int->Int}
theorem Tri.null (Y:Yd n L) (T:Tri n L w) {g:Int->Int} (h:∀ a∈rgI 0 n.toNat,sm (rgI 0 n.toNat) (fun s=>w a s*g s)=0):∀ a∈rgI 0 n.toNat,g a=0:=by
 have ndR:(rgI 0 n.toNat).Nodup:=(gK _ _).imp fun {a b} z y=>by subst y;rw [Ms.linI.irr] at z;cases z
 have key:∀ (k:Nat) (a:Int),a∈rgI 0 n.toNat->((rgI 0 n.toNat).filter fun s=>decide ((a,s)∈L)).length<=k->g a=0:=fun k=>by
  induction k with
  | zero =>
    intro a ha hk
    have:=h a ha
    rw [mD ndR ha fun x hx hxa=>?_,T.one,kL] at this
    ·exact this
    ·have hn:(a,x)∉L:=fun z=>by
      have hm:x∈(rgI 0 n.toNat).filter fun s=>decide ((a,s)∈L):=a9.mpr ⟨hx,by simpa using z⟩
      have:=tV hm
      lia
     rw [T.off a x (fun z=>hxa z.symm) hn,jN]
  | succ k ih =>
    intro a ha hk
    have:=h a ha
    rw [mD ndR ha fun x hx hxa=>?_,T.one,kL] at this
    ·exact this
    ·by_cases hl:(a,x)∈L
     ·rw [ih x hx ?_,gk]
      have hx1:x∈(rgI 0 n.toNat).filter fun s=>decide ((a,s)∈L):=a9.mpr ⟨hx,by simpa using hl⟩
      have:(x::(rgI 0 n.toNat).filter fun s=>decide ((x,s)∈L)).length<=((rgI 0 n.toNat).filter fun s=>decide ((a,s)∈L)).length :=
       Ms.length_le_of_subset (bi.mpr ⟨fun z=>Y.irr x (by simpa using (a9.mp z).2),ndR.filter _⟩) fun y hy=>by
        rcases aE.mp hy with e | e
        ·subst e;exact hx1
        ·obtain ⟨e1,e2⟩:=a9.mp e
         exact a9.mpr ⟨e1,by simpa using Y.tr _ _ _ hl (by simpa using e2)⟩
      rw [aJ] at this
      lia
     ·rw [T.off a x (fun z=>hxa z.symm) hl,jN]
 exact fun a ha=>key _ a ha (az _)
theorem Tri.both (Y:Yd n L) (T:Tri n L w) (h:∀ a∈rgI 0 n.toNat,∀ t∈rgI 0 n.toNat,sm (rgI 0 n.toNat) (fun s=>w a s*zt L s t)=dl a t) :
 ∀ a∈rgI 0 n.toNat,∀ b∈rgI 0 n.toNat,sm (rgI 0 n.toNat) (fun t=>zt L a t*w t b)=dl a b:=by
 intro a ha b hb
 have ndR:(rgI 0 n.toNat).Nodup:=(gK _ _).imp fun {a b} z y=>by subst y;rw [Ms.linI.irr] at z;cases z
 have:=T.null Y (g:=fun s=>sm (rgI 0 n.toNat) (fun t=>zt L s t*w t b)-dl s b) (fun c hc=>?_) a ha
 ·lia
 have e1:sm (rgI 0 n.toNat) (fun s=>w c s*(sm (rgI 0 n.toNat) (fun t=>zt L s t*w t b)-dl s b))=sm (rgI 0 n.toNat) (fun s=>sm (rgI 0 n.toNat) (fun t=>w c s*zt L s t*w t b))+sm (rgI 0 n.toNat) (fun s=>-1*(w c s*dl s b)):=by
  rw [<- vw]
  refine cE fun s _=>?_
  have:sm (rgI 0 n.toNat) (fun t=>w c s*zt L s t*w t b)=w c s*sm (rgI 0 n.toNat) (fun t=>zt L s t*w t b):=by
   rw [<- nD];exact cE fun t _=>rO _ _ _
  rw [this,Int.mul_sub]
  lia
 have e2:sm (rgI 0 n.toNat) (fun s=>sm (rgI 0 n.toNat) (fun t=>w c s*zt L s t*w t b))=w c b:=by
  rw [qv]
  have:sm (rgI 0 n.toNat) (fun t=>sm (rgI 0 n.toNat) (fun s=>w c s*zt L s t*w t b))=sm (rgI 0 n.toNat) (fun t=>dl c t*w t b):=cE fun t ht=>by rw [u9,h c hc t ht]
  rw [this,mD ndR hc fun x _ hx=>by unfold dl;rw [if_neg (fun z=>hx z.symm),jN]]
  unfold dl
  rw [if_pos rfl,kL]
 have e3:sm (rgI 0 n.toNat) (fun s=>-1*(w c s*dl s b)) = -(w c b):=by
  rw [nD,mD ndR hb fun x _ hx=>by unfold dl;rw [if_neg hx,gk]]
  unfold dl
  rw [if_pos rfl,ik]
  lia
 show sm (rgI 0 n.toNat) (fun s=>w c s*(sm (rgI 0 n.toNat) (fun t=>zt L s t*w t b)-dl s b))=0
 rw [e1,e2,e3]
 lia
end
end GW
set_option linter.unusedSimpArgs false
namespace GW
open PySem L2 Ry G G3
noncomputable def sw (p:PI):PI:=(p.2,p.1)
noncomputable def low (L:List PI):UD:=upp (L.map sw)
theorem Iv {L:List PI} {a b:Int}:(a,b)∈L.map sw↔(b,a)∈L:=by
 constructor
 ·intro h
  obtain ⟨p,hp,e⟩:=aS.mp h
  have h1:p.2=a:=congrArg CY e
  have h2:p.1=b:=congrArg Prod.snd e
  rw [<- h1,<- h2];exact hp
 ·exact fun h=>aS.mpr ⟨(b,a),h,rfl⟩
theorem Dy (L:List PI):Jj (L.map sw) (low L):=De _
theorem fB (L:List PI) (a b:Int):b∈c9 (low L) a↔(b,a)∈L:=by rw [(Dy L).get,Iv]
theorem sE (L:List PI) (a:Int):(c9 (low L) a).Nodup:=(Dy L).ndv a
theorem zP (L:List PI) (a:Int):(c9 (low L) a).length<=L.length:=by
 have h1:(c9 (low L) a).length<=(L.map (·.1)).length:=Ms.length_le_of_subset (sE L a) fun x hx=>aS.mpr ⟨_,(fB L a x).mp hx,rfl⟩
 rw [af] at h1
 exact h1
theorem tK {L:List PI} (hl:L.length<=1000):fn_lowers_of [.tup (L.map dP)]=some (dU (low L)):=by
 have hc:=sj (enc:=dP) (xs:=L) (ix:=[none,none,none]) (fi:=c4 (jb (aY 0))) (i:=1) (j:=2) (c:=fun _=>some true) (f:=lA (aH (aY 2) (aH (aY 1) bU))) (ρ:=[.pu (.tup (L.map dP))]) (p:=fun _=>true) (e:=fun p=>dP (sw p)) (a:=fun p=>.int p.1) (b:=fun p=>.int p.2)
  (by simp) (by lia) (fun p hp=>⟨rfl,fun _=>⟨(.pu,dP (sw p)),by simp [mpR,dP,sw],rfl,rfl⟩⟩) (by decide) (fun _=>rfl)
 rw [fF] at hc
 refine pI (ρ:=[.pu (.tup (L.map dP))]) rfl ?_
 have em:(L.map fun p=>dP (sw p))=(L.map sw).map dP:=by rw [aQ];rfl
 rw [em] at hc
 simp only [g_lowers_of,jl,ot,cP,eK,hc,eQ,fC,yo,CH,Bool.not_false,if_true,cc]
 rw [BI (by rw [af];exact hl)]
 rfl
theorem qj {α:Type} {lam:Da->Option Da} {enc e:α->Da}:∀ {xs:List α},(∀ x∈xs,lam (enc x)=some (e x))->A6 lam (xs.map enc)=some (xs.map e)
 | [],_=>rfl
 | x::xs,h=>by
   have ih:=qj (lam:=lam) (enc:=enc) (e:=e) (xs:=xs) fun y hy=>h y (al _ hy)
   show (match lam (enc x) with | none=>none | some r=>match A6 lam (xs.map enc) with | none=>none | some rs=>some (r::rs))=_
   rw [h x am,ih]
   rfl
theorem sJ {α:Type} {xs:List α} {d:α} {q:List Nat} (h:q.Perm (bG xs.length)):(q.map fun i=>xs.getD i d).Perm xs:=by
 refine (h.map _).trans ?_
 have:(bG xs.length).map (fun i=>xs.getD i d)=xs:=by
  apply jt
  ·simp
  ·intro i h1 h2;simp [h2]
 rw [this]
theorem ye {xs:List Int} {f:Int->Int} {lam:Da->Option Da} (h:∀ x∈xs,lam (.int x)=some (.int (f x))) (hl:xs.length<64):∃ ord:List Int,rp lam (xs.map Da.int)=some (ord.map Da.int)/\ord.Perm xs/\ord.Pairwise fun x y=>f x<=f y:=by
 have e1:=qj (lam:=lam) (enc:=Da.int) (e:=fun x=>Da.int (f x)) (xs:=xs) h
 have em:(xs.map fun x=>Da.int (f x))=(xs.map f).map Da.int:=by rw [aQ];rfl
 rw [em] at e1
 obtain ⟨hp,hs⟩:=jT xP (0:Int) (xs.map f)
 have hp':(mF xP (0:Int) (xs.map f)).Perm (bG xs.length):=by
  have e:ii (α:=xP.α) (xs.map f)=xs.length:=af _
  rw [e] at hp
  exact hp
 refine ⟨(mF xP (0:Int) (xs.map f)).map fun i=>xs.getD i 0,?_,sJ hp',?_⟩
 ·unfold rp
  rw [if_pos (by rw [af];lia),e1]
  dsimp only
  unfold vR
  rw [gq]
  dsimp only
  rw [if_pos (show OkN (xs.map f) from .inl (by rw [af];exact hl))]
  dsimp only
  congr 1
  rw [aQ]
  refine eN fun i hi=>?_
  have hi':i<xs.length:=by simpa using hp'.mem_iff.mp hi
  simp [hi']
 ·rw [bx] at hs ⊢
  refine hs.imp_of_mem fun {i j} hi hj z=>?_
  have hi':i<xs.length:=by simpa using hp'.mem_iff.mp hi
  have hj':j<xs.length:=by simpa using hp'.mem_iff.mp hj
  have z:xP.blt ((xs.map f).getD j (0:Int)) ((xs.map f).getD i (0:Int))=false:=z
  have z:decide ((xs.map f).getD j (0:Int)<(xs.map f).getD i (0:Int))=false:=z
  have z:=of_decide_eq_false z
  have ei:(xs.map f).getD i (0:Int)=f (xs.getD i 0):=by simp [hi']
  have ej:(xs.map f).getD j (0:Int)=f (xs.getD j 0):=by simp [hj']
  rw [ei,ej] at z
  lia
theorem AE (k:Kd) (l:List Int):xf [(k,dD l)]=some (.pu,.int l.length):=by
 show (none:Option Rv).or (some (Kd.pu,Da.int ((l.map av).length:Nat)))=_
 rw [af]
 rfl
theorem pR {n:Int} (D:UD) (h0:0<=n) (h1:n<64):∃ ord:List Int,fn_upwards [.int n,dU D]=some (.lst (ord.map Da.int))/\ord.Perm (rgI 0 n.toNat)/\ord.Pairwise fun x y=>((c9 D x).length:Int)<=(c9 D y).length:=by
 have hlam:∀ x∈rgI 0 n.toNat,DC [none,some 1,none] 0 (xB xf (aH (kq (aY 1) (aY 0) (xC2 (.fr,.dK [] []))) bU)) [.pu (.int n),.pu (dU D)] (.int x)=some (.int ((c9 D x).length:Int)):=fun x hx=>by
  unfold DC
  have em:(mpR [none,some 1,none] [.pu (.int n),.pu (dU D)]).set 0 (.pu (.int x))=[.pu (.int x),.pu (dU D),.no]:=rfl
  rw [em]
  simp only [uM,cP,qK,g8,Hc,eK,bc,bf,zM]
  by_cases hm:x∈D.map (·.1)
  ·rw [if_pos hm]
   dsimp only
   rw [AE]
   rfl
  ·rw [if_neg hm,nF hm]
   dsimp only
   rw [show ([((Kd.fr,Da.dK [] []):Rv)])=[(Kd.fr,dD [])] from rfl,AE]
   rfl
 obtain ⟨ord,e,hp,hs⟩:=ye (f:=fun x=>((c9 D x).length:Int)) hlam (by rw [eA];lia)
 refine ⟨ord,?_,hp,hs⟩
 refine pI (ρ:=[.pu (.int n),.pu (dU D)]) rfl ?_
 have er:k3 (aH (aY 0) bU) [.pu (.int n),.pu (dU D)]=some ((rgI 0 n.toNat).map Da.int):=by
  simp only [sA,cP,g8,eK,bc]
  rw [if_pos (by lia),eB]
 simp only [g_upwards,jl]
 unfold jO
 rw [er]
 dsimp only
 rw [e]
theorem vE {n:Int} {L:List PI} (Y:Yd n L) {ord:List Int} (h:ord.Pairwise fun x y=>((c9 (low L) x).length:Int)<=(c9 (low L) y).length):ord.Pairwise fun x y=>(y,x)∉L:=by
 refine h.imp fun {x y} z m=>?_
 have:(y::c9 (low L) y).length<=(c9 (low L) x).length:=Ms.length_le_of_subset (bi.mpr ⟨fun w=>Y.irr y ((fB L y y).mp w),sE L y⟩) fun u hu=>by
  rcases aE.mp hu with e | e
  ·subst e;exact (fB L x u).mpr m
  ·exact (fB L x u).mpr (Y.tr _ _ _ ((fB L y u).mp e) m)
 rw [aJ] at this
 lia
end GW
set_option linter.unusedSimpArgs false
namespace GW
open PySem L2 Ry G G3
theorem EE (l:List Int) (f:Int->Int):gs (l.map fun x=>Da.int (f x))=some (l.map f):=by
 have:(l.map fun x=>Da.int (f x))=(l.map f).map Da.int:=by rw [aQ];rfl
 rw [this,gq]
theorem Ao (k:Kd) (l:List Int) (f:Int->Int):zk [(k,.lst (l.map fun x=>Da.int (f x)))]=some (.pu,.int (sm l f)):=by
 unfold zk;dsimp only;rw [EE];rfl
structure Jd (L:List PI) (one:Int) (pre:List Int) (C:List PI):Prop where
 nd:(d8 C).Nodup
 mem:∀ x,x∈d8 C↔x=one\/(x∈pre/\(one,x)∈L)
 at1:iA C one=1
 rc:∀ x,x∈pre->(one,x)∈L->iA C x = -(sm ((c9 (low L) x).filter fun u=>decide (u∈d8 C)) (iA C))
theorem J8 {C:List PI}:(d8 C).length=C.length:=by unfold d8;rw [af]
theorem xm {n:Int} {L:List PI} {one x:Int} {pre post ord:List Int} {C:List PI} (Y:Yd n L) (hord:ord=pre++x::post) (hnd:ord.Nodup) (ho:ord.Pairwise fun x y=>(y,x)∉L) (W:Jd L one pre C) (hx:(one,x)∈L) :
 x∉d8 C/\Jd L one (pre++[x]) (C++[(x,-(sm ((c9 (low L) x).filter fun u=>decide (u∈d8 C)) (iA C)))]):=by
 have hne:x≠one:=fun z=>by subst z;exact Y.irr x hx
 have hxp:x∉pre:=fun z=>by
  rw [hord] at hnd
  exact (bj.mp hnd).2.2 x z x am rfl
 have hxC:x∉d8 C:=fun z=>((W.mem x).mp z).elim hne fun y=>hxp y.1
 have late:∀ y∈pre,(x,y)∉L:=fun y hy=>by
  rw [hord] at ho
  exact (ij.mp ho).2.2 y hy x am
 refine ⟨hxC,?_,fun y=>?_,?_,fun y hy hl=>?_⟩
 ·rw [vJ]
  exact bj.mpr ⟨W.nd,bg _ _,fun a ha b hb=>by
   rw [ay] at hb
   subst hb
   intro z;subst z;exact hxC ha⟩
 ·rw [mG,W.mem,aA,ay]
  constructor
  ·rintro ((h | ⟨h1,h2⟩) | h)
   ·exact .inl h
   ·exact .inr ⟨.inl h1,h2⟩
   ·subst h;exact .inr ⟨.inr rfl,hx⟩
  ·rintro (h | ⟨h1 | h1,h2⟩)
   ·exact .inl (.inl h)
   ·exact .inl (.inr ⟨h1,h2⟩)
   ·exact .inr h1
 ·rw [m5 ((W.mem one).mpr (.inl rfl))];exact W.at1
 ·
  have same:∀ t:Int,(x,t)∉L->sm ((c9 (low L) t).filter fun u=>decide (u∈d8 (C++[(x,-(sm ((c9 (low L) x).filter fun u=>decide (u∈d8 C)) (iA C)))]))) (iA (C++[(x,-(sm ((c9 (low L) x).filter fun u=>decide (u∈d8 C)) (iA C)))]))=sm ((c9 (low L) t).filter fun u=>decide (u∈d8 C)) (iA C):=fun t ht=>by
   have e:((c9 (low L) t).filter fun u=>decide (u∈d8 (C++[(x,-(sm ((c9 (low L) x).filter fun u=>decide (u∈d8 C)) (iA C)))])))=(c9 (low L) t).filter fun u=>decide (u∈d8 C):=by
    refine yb fun u hu=>?_
    have hux:u≠x:=fun z=>ht (by rw [<- z];exact (fB L t u).mp hu)
    rw [ce,decide_eq_true_eq,decide_eq_true_eq,mG]
    exact ⟨fun z=>z.resolve_right hux,.inl⟩
   rw [e]
   refine cE fun u hu=>m5 ?_
   simpa using (a9.mp hu).2
  rcases aA.mp hy with h | h
  ·rw [m5 ((W.mem y).mpr (.inr ⟨h,hl⟩)),same y (late y h)]
   exact W.rc y h hl
  ·rw [ay] at h
   subst h
   rw [wf hxC,same y (Y.irr y)]
theorem HW (one:Int):Da.dK [av one] [Da.int 1]=dC [(one,1)]:=rfl
theorem nE {n:Int} {L:List PI} (Y:Yd n L) (h0:0<=n) (h1:n<64) (hl:L.length<=1000) (one:Int):∃ C:List PI,fn_weights_from [dY n L,.int one]=some (dC C)/\(d8 C).Nodup/\(∀ x,x∈d8 C↔x=one\/(one,x)∈L)/\iA C one=1 /\
 ∀ x,(one,x)∈L->iA C x = -(sm ((c9 (low L) x).filter fun u=>decide (u∈d8 C)) (iA C)):=by
 obtain ⟨ord,hup,hperm,hsrt⟩:=pR (low L) h0 h1
 have ho:=vE Y hsrt
 have hnd:ord.Nodup:=hperm.nodup_iff.mpr (fP _ _)
 have inord:∀ a x,(a,x)∈L->x∈ord:=fun a x h=>hperm.mem_iff.mpr (fE.mpr (by have:=(Y.rg _ h).2;dsimp only at this;lia))
 have key:∃ d,fn_weights_from [dY n L,.int one]=some d/\∃ C,d=dC C/\Jd L one ord C:=by
  refine sF ?_
  unfold g_weights_from
  have e0:ff 6 [dY n L,.int one]=[.pu (dY n L),.pu (.int one),.no,.no,.no,.no]:=rfl
  rw [e0]
  refine c7 (eO (ρ':=[.pu (dY n L),.pu (.int one),.pu (dU (low L)),.no,.no,.no]) (by simp [dY,tK hl]) ?_)
  refine c7 (eO (ρ':=[.pu (dY n L),.pu (.int one),.pu (dU (low L)),.ow (dC [(one,1)]),.no,.no]) (by simp [sv,HW]) ?_)
  refine c7 ?_
  refine iW (enc:=Da.int) (xs:=ord) (fun pre ρ=>∃ C s4 s5,ρ=[.pu (dY n L),.pu (.int one),.pu (dU (low L)),.ow (dC C),s4,s5]/\Jd L one pre C) ?_ ⟨_,_,_,rfl,⟨bg _ _,fun x=>?_,by simp [iA],by simp⟩⟩ ?_ ?_
  ·have hz:x2 oIt (aY 0) (xC (.int 0)) [.pu (dY n L),.pu (.int one),.pu (dU (low L)),.ow (dC [(one,1)]),.no,.no]=some (.pu,.int n):=by simp [dY]
   simp only [mZ,vO,ot,cP,hz,g8,eK,bc,bf,eQ,fC,hE,if_true,cc,hup]
  ·simp [d8]
  ·rintro pre x post ρ e ⟨C,s4,s5,rfl,W⟩
   refine ⟨[.pu (dY n L),.pu (.int one),.pu (dU (low L)),.ow (dC C),.pu (.int x),s5],rfl,?_⟩
   refine c7 (eO (ρ':=[.pu (dY n L),.pu (.int one),.pu (dU (low L)),.ow (dC C),.pu (.int x),.pu (dD (c9 (low L) x))]) ?_ ?_)
   ·have:=AL (low L) x (aY 2) (aY 4) [.pu (dY n L),.pu (.int one),.pu (dU (low L)),.ow (dC C),.pu (.int x),s5] (k:=.pu) (k':=.pu) rfl rfl
    simp only [lw]
    rw [this]
    rfl
   have hclen:C.length<=1000000:=by
    have h2:(d8 C).length<=(one::ord).length:=Ms.length_le_of_subset W.nd fun y hy=>by
     rcases (W.mem y).mp hy with z | z
     ·subst z;exact am
     ·exact al _ (inord _ _ z.2)
    rw [J8,aJ,hperm.length_eq,eA] at h2
    lia
   refine qY (b:=decide (one∈c9 (low L) x)) (by simp [Jp]) (fun q=>?_) fun q=>?_
   ·have hx:(one,x)∈L:=(fB L x one).mp (by simpa using q)
    obtain ⟨hxC,W'⟩:=xm Y e hnd ho W hx
    have hc:=fM (enc:=Da.int) (xs:=c9 (low L) x) (ix:=[none,none,some 3]) (fi:=c4 (jb (aY 5))) (i:=1) (c:=tb (x2 (oIn false) (aY 1) (aY 2))) (f:=x2 oIt (aY 2) (aY 1))
     (ρ:=[.pu (dY n L),.pu (.int one),.pu (dU (low L)),.ow (dC C),.pu (.int x),.pu (dD (c9 (low L) x))]) (p:=fun u=>decide (u∈d8 C)) (e:=fun u=>.int (iA C u)) (uU (by simp)) (by have:=zP L x;lia)
     fun u hu=>⟨by simp [mpR,J0],fun hq=>⟨(.pu,.int (iA C u)),by simp [mpR,Kh (show u∈d8 C by simpa using hq)],rfl,rfl⟩⟩
    refine eO (ρ':=[.pu (dY n L),.pu (.int one),.pu (dU (low L)),.ow (dC (C++[(x,-(sm ((c9 (low L) x).filter fun u=>decide (u∈d8 C)) (iA C)))])),.pu (.int x),.pu (dD (c9 (low L) x))]) ?_ ⟨_,_,_,rfl,W'⟩
    simp only [AQ,F0,uM,cP,eK,hc,Ao,g8,bc,bf,hE,if_true]
    rw [Gv hxC W.nd hclen]
    rfl
   ·have hx:(one,x)∉L:=fun z=>by
     have:=(fB L x one).mpr z
     rw [decide_eq_false_iff_not] at q
     exact q this
    refine eO rfl ⟨C,_,_,rfl,W.nd,fun y=>?_,W.at1,fun y hy hl'=>?_⟩
    ·rw [W.mem,aA,ay]
     constructor
     ·rintro (h | ⟨h1,h2⟩)
      ·exact .inl h
      ·exact .inr ⟨.inl h1,h2⟩
     ·rintro (h | ⟨h1 | h1,h2⟩)
      ·exact .inl h
      ·exact .inr ⟨h1,h2⟩
      ·subst h1;exact absurd h2 hx
    ·rcases aA.mp hy with z | z
     ·exact W.rc y z hl'
     ·rw [ay] at z;subst z;exact absurd hl' hx
  ·rintro ρ ⟨C,s4,s5,rfl,W⟩
   exact sa (d:=dC C) rfl ⟨C,rfl,W⟩
 obtain ⟨d,ed,C,rfl,W⟩:=key
 refine ⟨C,ed,W.nd,fun x=>?_,W.at1,fun x hx=>W.rc x (inord _ _ hx) hx⟩
 rw [W.mem]
 exact ⟨fun z=>z.imp id (·.2),fun z=>z.imp id fun y=>⟨inord _ _ y,y⟩⟩
theorem oa {n:Int} {L:List PI} (Y:Yd n L) (h0:0<=n) (h1:n<64) (hl:L.length<=1000):∃ w:Int->Int->Int,(∀ a b,fn_weight [dY n L,.int a,.int b]=some (.int (w a b)))/\Tri n L w/\∀ a b,(a,b)∈L->w a b = -(sm (c9 (low L) b) (w a)):=by
 have hC:=fun a=>nE Y h0 h1 hl a
 obtain ⟨Cf,hF⟩:∃ Cf:Int->List PI,∀ a,fn_weights_from [dY n L,.int a]=some (dC (Cf a))/\(d8 (Cf a)).Nodup/\(∀ x,x∈d8 (Cf a)↔x=a\/(a,x)∈L)/\iA (Cf a) a=1 /\
  ∀ x,(a,x)∈L->iA (Cf a) x = -(sm ((c9 (low L) x).filter fun u=>decide (u∈d8 (Cf a))) (iA (Cf a))):=⟨fun a=>lj (hC a),fun a=>pf (hC a)⟩
 clear hC
 refine ⟨fun a b=>if b∈d8 (Cf a) then iA (Cf a) b else 0,fun a b=>?_,⟨fun a=>?_,fun a b hab hn=>?_⟩,fun a b hab=>?_⟩
 ·obtain ⟨e,_⟩:=hF a
  refine pI (ρ:=[.pu (dY n L),.pu (.int a),.pu (.int b)]) rfl ?_
  simp only [g_weight,jl,qK,ot,cP,g8,Jm,eK,bc,bf,eQ,fC,hE,if_true,cc,e,uh]
  by_cases h:b∈d8 (Cf a)
  ·rw [if_pos h,if_pos h]
  ·rw [if_neg h,if_neg h]
 ·obtain ⟨_,_,m,o,_⟩:=hF a
  rw [if_pos ((m a).mpr (.inl rfl)),o]
 ·obtain ⟨_,_,m,_⟩:=hF a
  rw [if_neg]
  intro z
  rcases (m b).mp z with y | y
  ·exact hab y.symm
  ·exact hn y
 ·obtain ⟨_,_,m,_,r⟩:=hF a
  show (if b∈d8 (Cf a) then iA (Cf a) b else 0) = -(sm (c9 (low L) b) fun u=>if u∈d8 (Cf a) then iA (Cf a) u else 0)
  rw [if_pos ((m b).mpr (.inr hab)),r b hab,nN]
  congr 1
  refine cE fun u _=>?_
  by_cases h:u∈d8 (Cf a)
  ·rw [if_pos h,if_pos (by simpa using h)]
  ·rw [if_neg h,if_neg (by simpa using h)]
end GW
set_option linter.unusedSimpArgs false
namespace GW
open PySem L2 Ry G G3
theorem HR {n:Int} {L:List PI} (Y:Yd n L) (b:Int) (f:Int->Int):sm (c9 (low L) b) f=sm (rgI 0 n.toNat) (fun u=>if (u,b)∈L then f u else 0):=by
 have hp:(c9 (low L) b).Perm ((rgI 0 n.toNat).filter fun u=>decide ((u,b)∈L)):=(iI (sE L b) ((fP _ _).filter _)).mpr fun u=>by
  rw [fB,a9,decide_eq_true_eq]
  exact ⟨fun h=>⟨fE.mpr (by have:=(Y.rg _ h).1;dsimp only at this;lia),h⟩,(·.2)⟩
 rw [DX f hp,nN]
 exact cE fun u _=>by by_cases h:(u,b)∈L<;>simp [h]
section
variable {n:Int} {L:List PI} {w:Int->Int->Int}
theorem wz (Y:Yd n L) (T:Tri n L w) (r:∀ a b,(a,b)∈L->w a b = -(sm (c9 (low L) b) (w a))):∀ a∈rgI 0 n.toNat,∀ t∈rgI 0 n.toNat,sm (rgI 0 n.toNat) (fun s=>w a s*zt L s t)=dl a t:=by
 intro a ha t ht
 have e:sm (rgI 0 n.toNat) (fun s=>w a s*zt L s t)=w a t+sm (rgI 0 n.toNat) (fun s=>if (s,t)∈L then w a s else 0):=by
  rw [<- Kj (c:=w a t) (fP _ _) ht,<- vw]
  refine cE fun s _=>?_
  unfold zt
  by_cases h1:s=t
  ·subst h1
   rw [if_pos (.inl rfl),if_pos rfl,if_neg (Y.irr s),ik,mQ]
  ·rw [if_neg h1]
   by_cases h2:(s,t)∈L
   ·rw [if_pos (.inr h2),if_pos h2,ik,jM]
   ·rw [if_neg (fun z=>z.elim h1 h2),if_neg h2,gk,mQ]
 rw [e]
 unfold dl
 by_cases h1:a=t
 ·subst h1
  rw [if_pos rfl,T.one,jk fun s _=>?_]
  ·rfl
  ·by_cases h2:(s,a)∈L
   ·rw [if_pos h2]
    exact T.off a s (fun z=>Y.irr a (by rw [<- z] at h2;exact h2)) fun z=>Y.irr a (Y.tr _ _ _ z h2)
   ·rw [if_neg h2]
 ·rw [if_neg h1]
  by_cases h2:(a,t)∈L
  ·rw [r a t h2,HR Y];lia
  ·rw [T.off a t h1 h2,jk fun s _=>?_]
   ·rfl
   ·by_cases h3:(s,t)∈L
    ·rw [if_pos h3]
     exact T.off a s (fun z=>h2 (by rw [z];exact h3)) fun z=>h2 (Y.tr _ _ _ z h3)
    ·rw [if_neg h3]
theorem zw (Y:Yd n L) (T:Tri n L w) (r:∀ a b,(a,b)∈L->w a b = -(sm (c9 (low L) b) (w a))):∀ a∈rgI 0 n.toNat,∀ b∈rgI 0 n.toNat,sm (rgI 0 n.toNat) (fun t=>zt L a t*w t b)=dl a b:=T.both Y (wz Y T r)
end
end GW
namespace GH
open PySem L2 Ry G GW
noncomputable def g_holds_all:Rho->Res:=(fj (xB DG (aH (fK [none,none,some 0] (c4 (jb (aY 1))) (tgN 1) (fun _=>some true) (x2 (oIn false) (aY 1) (aY 2))) bU)))
noncomputable def fn_holds_all:List Da->Option Da:=iQ 2 g_holds_all
noncomputable def g_heads:Rho->Res:=(gw (j9 1 (cm fn_lowers_of (aH (x2 oIt (aY 0) (xC (.int 1))) bU)))
 (gw (j9 2 (B8 (aH (lA bU) bU)))
 (gw (oC (c4 (jb (cm fn_upwards (aH (x2 oIt (aY 0) (xC (.int 0))) (aH (aY 1) bU))))) (tgN 3)
 (gw (j9 4 (jb (kq (aY 1) (aY 3) (xC2 (.fr,.dK [] [])))))
 (j9 2 (x2 gW (aY 2) (fK [none,none,none,none,none,some 3,some 4] (c4 (jb (aY 2))) (tgN 1) (tTr (cm fn_holds_all (aH (aY 1) (aH (aY 6) bU)))) (xB fV (aH (xB gn (aH (x2 gW (aY 1) (lA (aH (aY 5) bU))) bU)) bU)))))))
 (fj (xB fV (aH (jO [none,none] 0 (pB (aY 2)) (lA (aH (xB oE (aH (aY 0) bU)) (aH (aY 0) bU)))) bU))))))
noncomputable def fn_heads:List Da->Option Da:=iQ 5 g_heads
noncomputable def g_ways_up_to:Rho->Res:=(fj (xB zk (aH (fK [none,none,some 1,some 0] (k3 (aH (xB oE (aH (aY 1) bU)) bU)) (tgN 1) (fun _=>some true) (kq (aY 3) (x2 gW (jQ (aY 2) oU (nM (aY 1))) (jQ (aY 2) (nM (x2 gW (aY 1) (xC (.int 1)))) oU)) (xC (.int 0)))) bU)))
noncomputable def fn_ways_up_to:List Da->Option Da:=iQ 2 g_ways_up_to
noncomputable def g_lines:Rho->Res:=(gw (wQ 1 (nv (lA bU) (xC (.int 1))))
 (gw (oC (c4 (jb (cm fn_heads (aH (aY 0) bU)))) (tgN 2)
 (sIf (tTr (aY 2)) (Cq 1 (aY 2) (w6 1 (cm fn_ways_up_to (aH (aY 1) (aH (aY 2) bU))))) mr))
 (fj (x2 oIt (aY 1) (gL (aH (x2 oIt (aY 0) (xC (.int 0))) bU))))))
noncomputable def fn_lines:List Da->Option Da:=iQ 3 g_lines
end GH
set_option linter.unusedSimpArgs false
namespace GH
open PySem L2 Ry G G3 GW
noncomputable def dT (H:List Int):Da:=.tup (H.map Da.int)
theorem JR (i j:Int):cp (toP (.int i)) (toP (.int j))=decide (i=j):=by
 show cp (.int i) (.int j)=_
 simp only [cp]
 rw [ce,beq_iff_eq,decide_eq_true_eq]
theorem layAll_I:∀ T:List Int,cf (hW (T.map Da.int))=true
 | []=>rfl
 | p::T=>by
   show (cz (toP (.int p))&&cf (hW (T.map Da.int)))=true
   rw [layAll_I T];rfl
theorem Fl (x:Int):∀ T:List Int,inD (.int x) (T.map Da.int)=decide (x∈T)
 | []=>rfl
 | q::T=>by
   have ih:=Fl x T
   unfold inD at ih ⊢
   show (cp (toP (.int q)) (toP (.int x))||(hW (T.map Da.int)).any fun y=>cp y (toP (.int x)))=_
   rw [ih,JR,ce]
   simp only [im,decide_eq_true_eq,aE]
   exact ⟨fun h=>h.imp (fun z=>z.symm) id,fun h=>h.imp (fun z=>z.symm) id⟩
theorem Dl (x:Int) (T:List Int):zX (.int x) (T.map Da.int)=true:=by
 unfold zX
 rw [layAll_I]
 have:(toP (Da.int x)).depth<=60:=by simp [toP,dE]
 have h2:(toP (Da.int x)).canLay0=true:=rfl
 rw [h2]
 simp only [lm,lp,decide_eq_true_eq]
 lia
@[simp] theorem oIn_TI (n:Bool) (a b:Kd) (x:Int) (T:List Int):oIn n (a,.int x) (b,.tup (T.map Da.int))=some (.pu,.bl (if n then !decide (x∈T) else decide (x∈T))):=by
  unfold oIn AI Fp
  dsimp only
  rw [Dl,if_pos rfl,Fl]
  rfl
@[simp] theorem oIn_LI (n:Bool) (a b:Kd) (x:Int) (T:List Int):oIn n (a,.int x) (b,.lst (T.map Da.int))=some (.pu,.bl (if n then !decide (x∈T) else decide (x∈T))):=by
  unfold oIn AI Fp
  dsimp only
  rw [Dl,if_pos rfl,Fl]
  rfl
theorem Cw {X:Da} {H l:List Int} (hX:X=.tup (H.map Da.int)\/X=.lst (H.map Da.int)) (hl:l.length<=1000000):fn_holds_all [X,dD l]=some (.bl (l.all fun x=>decide (x∈H))):=by
 have hc:=fM (enc:=Da.int) (xs:=l) (ix:=[none,none,some 0]) (fi:=c4 (jb (aY 1))) (i:=1) (c:=fun _=>some true) (f:=x2 (oIn false) (aY 1) (aY 2)) (ρ:=[.pu X,.pu (dD l)]) (p:=fun _=>true) (e:=fun x=>.bl (decide (x∈H)))
  (uU (by simp)) hl fun x hx=>⟨rfl,fun _=>⟨(.pu,.bl (decide (x∈H))),by rcases hX with rfl | rfl<;>simp [mpR],rfl,rfl⟩⟩
 rw [fF] at hc
 refine pI (ρ:=[.pu X,.pu (dD l)]) rfl ?_
 simp only [g_holds_all,jl,uM,cP,eK,hc,DV]
structure A5 (L:List PI) (P H:List Int):Prop where
 ris:H.Pairwise fun a b=>Ms.ltI a b=true
 sub:∀ x∈H,x∈P
 cl:∀ x∈H,∀ a,(a,x)∈L->a∈H
theorem wq {H:List Int} (h:H.Pairwise fun a b=>Ms.ltI a b=true):H.Nodup:=h.imp fun {a b} z w=>by subst w;rw [Ms.linI.irr] at z;cases z
noncomputable def srI (l:List Int):List Int:=Ms.srt Ms.ltI l
theorem kR {l:List Int} {x:Int}:x∈srI l↔x∈l:=(Ms.srt_perm l).mem_iff
noncomputable def FF (L:List PI) (x:Int) (F:List (List Int)):List (List Int):=F++(F.filter fun H=>(c9 (low L) x).all fun u=>decide (u∈H)).map fun H=>srI (H++[x])
structure FI (L:List PI) (P:List Int) (F:List (List Int)):Prop where
 nd:F.Nodup
 mem:∀ H,H∈F↔A5 L P H
 len:F.length<=2 ^ P.length
 lt:(∃ x∈P,∃ a,(a,x)∈L)->F.length<2 ^ P.length
theorem Hk {L:List PI} {x:Int} {H:List Int}:((c9 (low L) x).all fun u=>decide (u∈H))=true↔∀ a,(a,x)∈L->a∈H:=by
 rw [bX]
 exact ⟨fun h a ha=>by simpa using h a ((fB L x a).mpr ha),fun h u hu=>by simpa using h u ((fB L x u).mp hu)⟩
theorem pk {H:List Int} {x:Int} (h:H.Pairwise fun a b=>Ms.ltI a b=true) (hx:x∉H):(srI (H++[x])).Pairwise fun a b=>Ms.ltI a b=true :=
 Ms.srt_strict Ms.linI (bj.mpr ⟨wq h,bg _ _,fun a ha b hb=>by rw [ay] at hb;subst hb;intro z;subst z;exact hx ha⟩)
theorem FI.step {n:Int} {L:List PI} (Y:Yd n L) {P:List Int} {F:List (List Int)} {x:Int} (h:FI L P F) (hx:x∉P) (late:∀ y∈P,(x,y)∉L):FI L (P++[x]) (FF L x F):=by
 have hxH:∀ H∈F,x∉H:=fun H hH z=>hx (((h.mem H).mp hH).sub x z)
 refine ⟨?_,fun H'=>?_,?_,fun ⟨y,hy,a,ha⟩=>?_⟩
 ·unfold FF
  refine bj.mpr ⟨h.nd,?_,fun a ha b hb=>?_⟩
  ·refine bx.mpr ((h.nd.sublist (cI)).imp_of_mem fun {A B} hA hB ne e=>ne ?_)
   have hA':=(a9.mp hA).1
   have hB':=(a9.mp hB).1
   refine Ms.strict_ext Ms.linI ((h.mem A).mp hA').ris ((h.mem B).mp hB').ris fun z=>?_
   have hz:z∈srI (A++[x])↔z∈srI (B++[x]):=by rw [e]
   rw [kR,kR,aA,aA,ay] at hz
   by_cases zx:z=x
   ·subst zx
    exact ⟨fun q=>absurd q (hxH A hA'),fun q=>absurd q (hxH B hB')⟩
   ·exact ⟨fun q=>(hz.mp (.inl q)).resolve_right zx,fun q=>(hz.mpr (.inl q)).resolve_right zx⟩
  ·obtain ⟨B,hB,rfl⟩:=aS.mp hb
   intro z
   exact hxH a ha (by rw [z,kR];simp)
 ·unfold FF
  rw [aA,aS]
  constructor
  ·rintro (q | ⟨H,hH,rfl⟩)
   ·have:=(h.mem H').mp q
    exact ⟨this.ris,fun y hy=>cQ _ (this.sub y hy),this.cl⟩
   ·obtain ⟨hF,hfit⟩:=a9.mp hH
    have hh:=(h.mem H).mp hF
    refine ⟨pk hh.ris (hxH H hF),fun y hy=>?_,fun y hy a ha=>?_⟩
    ·rw [kR,aA] at hy
     rw [aA]
     exact hy.imp (hh.sub y) id
    ·rw [kR,aA,ay] at hy
     rw [kR,aA]
     rcases hy with hy | rfl
     ·exact .inl (hh.cl y hy a ha)
     ·exact .inl (Hk.mp hfit a ha)
  ·intro q
   by_cases hm:x∈H'
   ·refine .inr ⟨H'.filter fun y=>decide (y≠x),a9.mpr ⟨(h.mem _).mpr ⟨q.ris.sublist cI,fun y hy=>?_,fun y hy a ha=>?_⟩,Hk.mpr fun a ha=>?_⟩,?_⟩
    ·obtain ⟨h1,h2⟩:=a9.mp hy
     have:=q.sub y h1
     rw [aA,ay] at this
     exact this.resolve_right (by simpa using h2)
    ·obtain ⟨h1,h2⟩:=a9.mp hy
     have hyx:y≠x:=by simpa using h2
     have hyP:y∈P:=by
      have:=q.sub y h1
      rw [aA,ay] at this
      exact this.resolve_right hyx
     exact a9.mpr ⟨q.cl y h1 a ha,by simpa using fun z:a=x=>late y hyP (z▸ha)⟩
    ·exact a9.mpr ⟨q.cl x hm a ha,by simpa using fun z:a=x=>Y.irr x (by rw [z] at ha;exact ha)⟩
    ·refine Ms.strict_ext Ms.linI (pk (q.ris.sublist cI) (by simp)) q.ris fun y=>?_
     rw [kR,aA,ay,a9]
     by_cases e:y=x
     ·subst e;simp [hm]
     ·simp [e]
   ·refine .inl ((h.mem H').mpr ⟨q.ris,fun y hy=>?_,q.cl⟩)
    have:=q.sub y hy
    rw [aA,ay] at this
    exact this.resolve_right fun z=>hm (z▸hy)
 ·unfold FF
  rw [aO,af,aO,bB,Nat.pow_succ]
  have h1:=j6 (fun H=>(c9 (low L) x).all fun u=>decide (u∈H)) F
  have h2:=h.len
  lia
 ·unfold FF
  rw [aO,af,aO,bB,Nat.pow_succ]
  have h1:=j6 (fun H=>(c9 (low L) x).all fun u=>decide (u∈H)) F
  have h2:=h.len
  rcases aA.mp hy with z | z
  ·have:=h.lt ⟨y,z,a,ha⟩
   lia
  ·rw [ay] at z
   subst z
   have:=(List.length_filter_lt_length_iff_exists (p:=fun H=>(c9 (low L) y).all fun u=>decide (u∈H))).mpr ⟨[],(h.mem []).mpr ⟨.nil,by simp,by simp⟩,fun z=>by have:=Hk.mp z a ha;cases this⟩
   lia
noncomputable def hk (H:List Int):List Int:=(H.length:Int)::H
theorem GD {A B:List Int} (h:hk A=hk B):A=B:=by unfold hk at h;injection h
noncomputable def ltH (A B:List Int):Bool:=HT.lexLt (hk A) (hk B)
theorem zK:∀ F:List (List Int),hkD (F.map fun H=>.tup [.int H.length,dT H])=some (F.map hk)
 | []=>rfl
 | H::F=>by
   show (match gs (H.map Da.int),hkD (F.map fun H=>.tup [.int H.length,dT H]) with | some ns,some ts=>some (((H.length:Int)::ns)::ts) | _,_=>none)=_
   rw [gq,zK F]
   rfl
theorem xy (F:List (List Int)):∃ hs:List (List Int),(∀ g:List Int->Da,((mF uR ([]:List Int) (F.map hk)).map fun i=>(F.map g).getD i .non)=hs.map g)/\hs.Perm F/\hs.Pairwise fun x y=>ltH y x=false:=by
 obtain ⟨hp,hs⟩:=jT uR ([]:List Int) (F.map hk)
 have hp':(mF uR ([]:List Int) (F.map hk)).Perm (bG F.length):=by
  have e:ii (α:=uR.α) (F.map hk)=F.length:=af _
  rw [e] at hp
  exact hp
 refine ⟨(mF uR ([]:List Int) (F.map hk)).map fun i=>F.getD i [],fun g=>?_,sJ hp',?_⟩
 ·rw [aQ]
  refine eN fun i hi=>?_
  have hi':i<F.length:=by simpa using hp'.mem_iff.mp hi
  show (F.map g).getD i .non=g (F.getD i [])
  rw [aB,aC,aj hi',aB,aj hi']
  rfl
 ·rw [bx] at hs ⊢
  refine hs.imp_of_mem fun {i j} hi hj z=>?_
  have hi':i<F.length:=by simpa using hp'.mem_iff.mp hi
  have hj':j<F.length:=by simpa using hp'.mem_iff.mp hj
  have z:HT.lexLt ((F.map hk).getD j []) ((F.map hk).getD i [])=false:=z
  have ei:(F.map hk).getD i []=hk (F.getD i []):=by
   rw [aB,aC,aj hi',aB,aj hi'];rfl
  have ej:(F.map hk).getD j []=hk (F.getD j []):=by
   rw [aB,aC,aj hj',aB,aj hj'];rfl
  rw [ei,ej] at z
  exact z
theorem JB {F:List (List Int)} (h:F.Nodup):(F.map hk).Nodup:=bx.mpr (h.imp fun {a b} z w=>z (GD w))
theorem va {F:List (List Int)} {lam:Da->Option Da} (h:∀ H∈F,lam (dT H)=some (.tup [.int H.length,dT H])) (hl:F.length<=63) (hn:F.Nodup):∃ hs:List (List Int),rp lam (F.map dT)=some (hs.map dT)/\hs.Perm F/\hs.Pairwise fun x y=>ltH y x=false:=by
 have e1:=qj (lam:=lam) (enc:=dT) (e:=fun H=>.tup [.int H.length,dT H]) (xs:=F) h
 obtain ⟨hs,q1,q2,q3⟩:=xy F
 refine ⟨hs,?_,q2,q3⟩
 unfold rp
 rw [if_pos (by rw [af];lia),e1]
 dsimp only
 have hok:OkN (F.map hk):=.inr ⟨by rw [af];exact hl,JB hn⟩
 cases F with
 | nil=>exact congrArg some (q1 dT)
 | cons A F =>
   unfold vR
   rw [show gs ((A::F).map fun H=>Da.tup [.int H.length,dT H])=none from rfl,zK]
   dsimp only
   rw [if_pos hok]
   exact congrArg some (q1 dT)
noncomputable abbrev Nh (n:Int) (L:List PI):Prop:=n<=5\/(n<=6/\L≠[])
theorem nh6 {n:Int} {L:List PI} (h:Nh n L):n<=6:=by rcases h with h | h<;>lia
theorem Dv {n:Int} {L:List PI} {ord:List Int} {F:List (List Int)} (Y:Yd n L) (h:Nh n L) (fi:FI L ord F) (hp:ord.Perm (rgI 0 n.toNat)):F.length<=63:=by
 have:=fi.len
 have ho:ord.length=n.toNat:=by rw [hp.length_eq,eA]
 rcases h with h | ⟨h,hL⟩
 ·have:=kM (show 0<2 by decide) (show ord.length<=5 by lia)
  lia
 ·have:=kM (show 0<2 by decide) (show ord.length<=6 by lia)
  cases L with
  | nil=>exact absurd rfl hL
  | cons p L =>
    have hr:=(Y.rg p am).2
    have:=fi.lt ⟨p.2,hp.mem_iff.mpr (fE.mpr (by lia)),p.1,am⟩
    lia
theorem m3 {n:Int} {L:List PI} (Y:Yd n L) (h0:0<=n) (h5:Nh n L) (hl:L.length<=1000):∃ hs:List (List Int),fn_heads [dY n L]=some (.tup (hs.map dT))/\hs.Nodup/\(∀ H,H∈hs↔A5 L (rgI 0 n.toNat) H)/\(hs.Pairwise fun x y=>ltH y x=false)/\hs.length<=63:=by
 have h6:=nh6 h5
 obtain ⟨ord,hup,hperm,hsrt⟩:=pR (low L) h0 (by lia)
 have ho:=vE Y hsrt
 have hnd:ord.Nodup:=hperm.nodup_iff.mpr (fP _ _)
 have hol:ord.length<=6:=by rw [hperm.length_eq,eA];lia
 have pw:∀ k,k<=6->2 ^ k<=64:=fun k hk=>by
  have:=kM (show 0<2 by decide) hk
  lia
 have key:∃ d,fn_heads [dY n L]=some d/\∃ hs:List (List Int),d=.tup (hs.map dT)/\∃ F,FI L ord F/\hs.Perm F/\hs.Pairwise fun x y=>ltH y x=false:=by
  refine sF ?_
  unfold g_heads
  have e0:ff 5 [dY n L]=[.pu (dY n L),.no,.no,.no,.no]:=rfl
  rw [e0]
  refine c7 (eO (ρ':=[.pu (dY n L),.pu (dU (low L)),.no,.no,.no]) (by simp [dY,tK hl]) ?_)
  refine c7 (eO (ρ':=[.pu (dY n L),.pu (dU (low L)),.pu (.lst (([[]]:List (List Int)).map dT)),.no,.no]) (by simp [dT]) ?_)
  refine c7 ?_
  refine iW (enc:=Da.int) (xs:=ord) (fun pre ρ=>∃ F s3 s4,ρ=[.pu (dY n L),.pu (dU (low L)),.pu (.lst (F.map dT)),s3,s4]/\FI L pre F) ?_ ⟨[[]],_,_,rfl,⟨bg _ _,fun H=>?_,by simp,by simp⟩⟩ ?_ ?_
  ·have hz:x2 oIt (aY 0) (xC (.int 0)) [.pu (dY n L),.pu (dU (low L)),.pu (.lst (([[]]:List (List Int)).map dT)),.no,.no]=some (.pu,.int n):=by simp [dY]
   simp only [mZ,vO,ot,cP,hz,g8,eK,bc,bf,eQ,fC,hE,if_true,cc,hup]
  ·rw [ay]
   constructor
   ·rintro rfl;exact ⟨.nil,by simp,by simp⟩
   ·intro q
    cases H with
    | nil=>rfl
    | cons a H=>exact absurd (q.sub a am) (by simp)
  ·rintro pre x post ρ e ⟨F,s3,s4,rfl,fi⟩
   have hple:pre.length<=6:=by rw [e] at hol;rw [aO] at hol;lia
   have hF:F.length<=64:=bO fi.len (pw _ hple)
   refine ⟨[.pu (dY n L),.pu (dU (low L)),.pu (.lst (F.map dT)),.pu (.int x),s4],rfl,?_⟩
   refine c7 (eO (ρ':=[.pu (dY n L),.pu (dU (low L)),.pu (.lst (F.map dT)),.pu (.int x),.pu (dD (c9 (low L) x))]) ?_ ?_)
   ·have:=AL (low L) x (aY 1) (aY 3) [.pu (dY n L),.pu (dU (low L)),.pu (.lst (F.map dT)),.pu (.int x),s4] (k:=.pu) (k':=.pu) rfl rfl
    simp only [lw]
    rw [this]
    rfl
   have hlen:∀ H∈F,H.length<=6:=fun H hH=>by
    have q:=(fi.mem H).mp hH
    exact bO (Ms.length_le_of_subset (wq q.ris) q.sub) hple
   have hc:=fM (enc:=dT) (xs:=F) (ix:=[none,none,none,none,none,some 3,some 4]) (fi:=c4 (jb (aY 2))) (i:=1) (c:=tTr (cm fn_holds_all (aH (aY 1) (aH (aY 6) bU)))) (f:=xB fV (aH (xB gn (aH (x2 gW (aY 1) (lA (aH (aY 5) bU))) bU)) bU))
    (ρ:=[.pu (dY n L),.pu (dU (low L)),.pu (.lst (F.map dT)),.pu (.int x),.pu (dD (c9 (low L) x))]) (p:=fun H=>(c9 (low L) x).all fun u=>decide (u∈H)) (e:=fun H=>dT (srI (H++[x]))) (by simp) (by lia) fun H hH=>?_
   ·refine eO (ρ':=[.pu (dY n L),.pu (dU (low L)),.pu (.lst ((FF L x F).map dT)),.pu (.int x),.pu (dD (c9 (low L) x))]) ?_ ⟨_,_,_,rfl,fi.step Y ?_ fun y hy=>?_⟩
    ·have hlf:=j6 (fun H=>(c9 (low L) x).all fun u=>decide (u∈H)) F
     simp only [lw,uI,hc,g8,bc,bf,vv]
     rw [if_pos (by rw [af,af];lia)]
     unfold FF
     rw [bC,aQ]
     rfl
    ·intro z
     rw [e] at hnd
     exact (bj.mp hnd).2.2 x z x am rfl
    ·rw [e] at ho
     exact (ij.mp ho).2.2 y hy x am
   ·have hh:=Cw (X:=dT H) (H:=H) (l:=c9 (low L) x) (.inl rfl) (by have:=zP L x;lia)
    have em:(mpR [none,none,none,none,none,some 3,some 4] [.pu (dY n L),.pu (dU (low L)),.pu (.lst (F.map dT)),.pu (.int x),.pu (dD (c9 (low L) x))]).set 1 (.pu (dT H))=[.no,.pu (dT H),.no,.no,.no,.pu (.int x),.pu (dD (c9 (low L) x))]:=rfl
    rw [em]
    refine ⟨?_,fun _=>⟨(.pu,dT (srI (H++[x]))),?_,rfl,rfl⟩⟩
    ·simp only [JF,ot,cP,g8,eK,bc,bf,eQ,fC,hE,if_true,cc,hh]
     rfl
    ·have hs:=xp (ns:=H++[x]) (by have:=hlen H hH;rw [aO,bB];lia)
     rw [bC] at hs
     have hso:gn [(Kd.pu,Da.tup (H.map Da.int++[Da.int x]))]=some (.fr,.lst ((Ms.srt Ms.ltI (H++[x])).map Da.int)):=by
      unfold gn
      dsimp only
      rw [show gP Da.int H++[Da.int x]=gP Da.int H++gP Da.int [x] from rfl,hs]
     simp only [uM,cP,eK,uI,g8,vW,bc,bf,eQ,fC,hE,if_true,cc,dT,aJ,cK]
     rw [if_pos (by decide)]
     dsimp only
     rw [zV,if_pos (by have:=hlen H hH;rw [af,bB];lia)]
     dsimp only
     rw [hso]
     rfl
  ·rintro ρ ⟨F,s3,s4,rfl,fi⟩
   have hF:F.length<=63:=Dv Y h5 fi hperm
   obtain ⟨hs,e1,p1,o1⟩:=va (F:=F) (lam:=DC [none,none] 0 (lA (aH (xB oE (aH (aY 0) bU)) (aH (aY 0) bU))) [.pu (dY n L),.pu (dU (low L)),.pu (.lst (F.map dT)),s3,s4]) (fun H hH=>by
    unfold DC
    have em:(mpR [none,none] [.pu (dY n L),.pu (dU (low L)),.pu (.lst (F.map dT)),s3,s4]).set 0 (.pu (dT H))=[.pu (dT H),.no]:=rfl
    rw [em]
    simp [dT]) (by lia) fi.nd
   refine sa (d:=.tup (hs.map dT)) ?_ ⟨hs,rfl,F,fi,p1,o1⟩
   have ei:pB (aY 2) [.pu (dY n L),.pu (dU (low L)),.pu (.lst (F.map dT)),s3,s4]=some (F.map dT):=rfl
   have es:jO [none,none] 0 (pB (aY 2)) (lA (aH (xB oE (aH (aY 0) bU)) (aH (aY 0) bU))) [.pu (dY n L),.pu (dU (low L)),.pu (.lst (F.map dT)),s3,s4]=some (.fr,.lst (hs.map dT)):=by
    unfold jO
    rw [ei]
    dsimp only
    rw [e1]
   simp only [jl,uM,cP,eK,es,Cg]
 obtain ⟨d,ed,hs,rfl,F,fi,p1,o1⟩:=key
 refine ⟨hs,ed,p1.nodup_iff.mpr fi.nd,fun H=>?_,o1,by rw [p1.length_eq];exact Dv Y h5 fi hperm⟩
 rw [p1.mem_iff,fi.mem]
 exact ⟨fun q=>⟨q.ris,fun x hx=>hperm.mem_iff.mp (q.sub x hx),q.cl⟩,fun q=>⟨q.ris,fun x hx=>hperm.mem_iff.mpr (q.sub x hx),q.cl⟩⟩
end GH
set_option linter.unusedSimpArgs false
namespace GH
open PySem L2 Ry G G3 GW
noncomputable abbrev Wd:=List (List Int×Int)
noncomputable def kT (H:List Int):List Key:=H.map av
theorem vB:∀ {A B:List Int},kT A=kT B->A=B
 | [],[],_=>rfl
 | [],_::_,h=>by cases h
 | _::_,[],h=>by cases h
 | a::A,b::B,h=>by
   unfold kT at h
   rw [aD,aD] at h
   injection h with h1 h2
   rw [cM h1,vB (A:=A) (B:=B) h2]
theorem uZ:∀ H:List Int,lJ (H.map Da.int)=some (kT H)
 | []=>rfl
 | a::H=>by
   show (match Dd (.int a),lJ (H.map Da.int) with | some j,some js=>some (j::js) | _,_=>none)=_
   rw [uZ H]
   rfl
noncomputable def dW (W:Wd):Da:=.dT (W.map fun e:List Int×Int=>kT e.1) (W.map fun e=>.int e.2)
noncomputable def uT:Wd->List Int->Option Int
 | [],_=>none
 | (A,d)::W,H=>if A=H then some d else uT W H
noncomputable def xv:Wd->List Int->Int->Wd
 | [],H,c=>[(H,c)]
 | (A,d)::W,H,c=>if A=H then (A,c)::W else (A,d)::xv W H c
theorem IK:∀ (W:Wd) (H:List Int),atK (W.map fun e:List Int×Int=>kT e.1) (W.map fun e:List Int×Int=>Da.int e.2) (kT H)=(uT W H).map Da.int
 | [],H=>rfl
 | (A,d)::W,H=>by
   show (if kT A=kT H then some (Da.int d) else atK (W.map fun e:List Int×Int=>kT e.1) (W.map fun e:List Int×Int=>Da.int e.2) (kT H))=(if A=H then some d else uT W H).map Da.int
   by_cases h:A=H
   ·subst h;rw [if_pos rfl,if_pos rfl];rfl
   ·rw [if_neg (fun z=>h (vB z)),if_neg h,IK W H]
theorem yN (W:Wd) (H:List Int):lL (dW W) (dT H)=some ((uT W H).map Da.int):=by
 show (match lJ (H.map Da.int) with | some j=>some (atK (W.map fun e:List Int×Int=>kT e.1) (W.map fun e:List Int×Int=>Da.int e.2) j) | none=>none)=_
 rw [uZ]
 dsimp only
 rw [IK]
theorem wn:∀ (W:Wd) (H A:List Int) (c:Int),uT (xv W H c) A=if A=H then some c else uT W A
 | [],H,A,c=>by
   show (if H=A then some c else none)=_
   by_cases h:A=H
   ·subst h;rw [if_pos rfl,if_pos rfl]
   ·rw [if_neg (fun z=>h z.symm),if_neg h];rfl
 | (B,d)::W,H,A,c=>by
   unfold xv
   by_cases h:B=H
   ·subst h
    rw [if_pos rfl]
    show (if B=A then some c else uT W A)=if A=B then some c else (if B=A then some d else uT W A)
    by_cases h2:A=B
    ·subst h2;rw [if_pos rfl,if_pos rfl]
    ·rw [if_neg (fun z=>h2 z.symm),if_neg h2,if_neg (fun z=>h2 z.symm)]
   ·rw [if_neg h]
    show (if B=A then some d else uT (xv W H c) A)=if A=H then some c else (if B=A then some d else uT W A)
    rw [wn W H A c]
    by_cases h2:B=A
    ·subst h2;rw [if_pos rfl,if_neg h,if_pos rfl]
    ·rw [if_neg h2,if_neg h2]
theorem lE:∀ (W:Wd) (H:List Int) (c:Int),(xv W H c).map (·.1)=if H∈W.map (·.1) then W.map (·.1) else W.map (·.1)++[H]
 | [],H,c=>rfl
 | (B,d)::W,H,c=>by
   unfold xv
   by_cases h:B=H
   ·subst h;rw [if_pos rfl,if_pos (by simp)];rfl
   ·rw [if_neg h,aD,lE W H c,aD]
    have hne:H≠B:=fun z=>h z.symm
    by_cases h2:H∈W.map (·.1)
    ·rw [if_pos h2,if_pos (al _ h2)]
    ·rw [if_neg h2,if_neg (fun z=>(aE.mp z).elim hne h2)];rfl
theorem HP {W:Wd} {H:List Int} {c:Int} (h:(W.map (·.1)).Nodup):((xv W H c).map (·.1)).Nodup:=by
 rw [lE]
 split
 ·exact h
 ·rename_i hn
  exact bj.mpr ⟨h,bg _ _,fun a ha b hb=>by rw [ay] at hb;subst hb;intro z;subst z;exact hn ha⟩
theorem Ek:∀ (W:Wd) (H:List Int) (c:Int),gI (W.map fun e:List Int×Int=>kT e.1) (kT H)=((xv W H c).map fun e=>kT e.1)/\gJ (W.map fun e:List Int×Int=>kT e.1) (W.map fun e:List Int×Int=>Da.int e.2) (kT H) (.int c)=(xv W H c).map fun e=>Da.int e.2
 | [],H,c=>⟨rfl,rfl⟩
 | (B,d)::W,H,c=>by
   have ih:=Ek W H c
   unfold xv
   by_cases h:B=H
   ·subst h
    rw [if_pos rfl]
    exact ⟨if_pos rfl,if_pos rfl⟩
   ·rw [if_neg h]
    have hk:¬ kT B=kT H:=fun z=>h (vB z)
    refine ⟨(if_neg hk).trans ?_,(if_neg hk).trans ?_⟩
    ·rw [ih.1];rfl
    ·rw [ih.2];rfl
theorem Hw {W:Wd} (H:List Int) (c:Int) (nd:(W.map (·.1)).Nodup) (hl:W.length<=1000000):FM (dW W) (dT H) (.int c)=some (dW (xv W H c)):=by
 have nd':(W.map fun e:List Int×Int=>kT e.1).Nodup:=by
  have:(W.map fun e:List Int×Int=>kT e.1)=(W.map (·.1)).map kT:=by rw [aQ];rfl
  rw [this]
  exact bx.mpr (nd.imp fun {a b} z w=>z (vB w))
 show (match lJ (H.map Da.int) with | some j=>if (W.map fun e:List Int×Int=>kT e.1).Nodup/\(W.map fun e:List Int×Int=>kT e.1).length<=1000000 then some (Da.dT (gI (W.map fun e:List Int×Int=>kT e.1) j) (gJ (W.map fun e:List Int×Int=>kT e.1) (W.map fun e:List Int×Int=>Da.int e.2) j (.int c))) else none | none=>none)=_
 rw [uZ]
 dsimp only
 rw [if_pos ⟨nd',by rw [af];exact hl⟩,(Ek W H c).1,(Ek W H c).2]
 rfl
theorem cZ {fn:List Da->Option Da} {g:Rho->Option (List Rv)} {ρ:Rho} {rs:List Rv} {ds:List Da} {d:Da} (hg:g ρ=some rs) (hp:ji rs=some ds) (hf:fn ds=some d):cm fn g ρ=some (.pu,d):=by
 unfold cm
 rw [hg]
 dsimp only
 rw [hp]
 dsimp only
 rw [hf]
theorem HL (ds:List Da) (k:Nat):xR ds none (some (k:Int))=ds.take k:=by
 unfold xR
 rw [HT.sIx_none,HT.sIx_nat,ky,Nat.sub_zero]
 by_cases h:k<=ds.length
 ·rw [CZ h]
 ·rw [Bi (by lia),dI (az _),dI (by lia)]
theorem IN (ds:List Da) (k:Nat):xR ds (some (k:Int)) none=ds.drop k:=by
 unfold xR
 rw [HT.sIx_none,HT.sIx_nat]
 by_cases h:k<=ds.length
 ·rw [CZ h,dI (by rw [jp];lia)]
 ·rw [Bi (by lia),t0 (az _),t0 (by lia),List.take_nil]
theorem DW (W:Wd) (H:List Int) (hl:H.length<=1000):fn_ways_up_to [dW W,dT H]=some (.int (sm (rgI 0 H.length) fun k=>(uT W (H.eraseIdx k.toNat)).getD 0)):=by
 have hc:=fM (enc:=Da.int) (xs:=rgI 0 H.length) (ix:=[none,none,some 1,some 0]) (fi:=k3 (aH (xB oE (aH (aY 1) bU)) bU)) (i:=1) (c:=fun _=>some true)
  (f:=kq (aY 3) (x2 gW (jQ (aY 2) oU (nM (aY 1))) (jQ (aY 2) (nM (x2 gW (aY 1) (xC (.int 1)))) oU)) (xC (.int 0))) (ρ:=[.pu (dW W),.pu (dT H)]) (p:=fun _=>true) (e:=fun k=>.int ((uT W (H.eraseIdx k.toNat)).getD 0))
  ?_ (by rw [eA];lia) fun k hk=>⟨rfl,fun _=>⟨(.pu,.int ((uT W (H.eraseIdx k.toNat)).getD 0)),?_,rfl,rfl⟩⟩
 ·rw [fF] at hc
  refine pI (ρ:=[.pu (dW W),.pu (dT H)]) rfl ?_
  unfold g_ways_up_to
  rw [jl,uM,cP,hc,eK]
  dsimp only
  rw [Ao]
 ·simp only [sA,cP,uM,g8,eK,bc,bf,dT,IV,af]
  rw [if_pos (by lia),eB]
  congr 3
 ·have hm:=fE.mp hk
  obtain ⟨j,rfl⟩:∃ j:Nat,k=(j:Int):=⟨k.toNat,by lia⟩
  have em:(mpR [none,none,some 1,some 0] [.pu (dW W),.pu (dT H)]).set 1 (.pu (.int (j:Int)))=[.no,.pu (.int (j:Int)),.pu (dT H),.pu (dW W)]:=rfl
  rw [em]
  have s1:jQ (aY 2) oU (nM (aY 1)) [.no,.pu (.int (j:Int)),.pu (dT H),.pu (dW W)]=some (.pu,.tup ((H.map Da.int).take j)):=by
   show some (Kd.pu,Da.tup (xR (H.map Da.int) none (some (j:Int))))=_
   rw [HL]
  have s2:jQ (aY 2) (nM (x2 gW (aY 1) (xC (.int 1)))) oU [.no,.pu (.int (j:Int)),.pu (dT H),.pu (dW W)]=some (.pu,.tup ((H.map Da.int).drop (j+1))):=by
   show some (Kd.pu,Da.tup (xR (H.map Da.int) (some ((j:Int)+1)) none))=_
   rw [show (j:Int)+1=((j+1:Nat):Int) by lia,IN]
  have hj:j<H.length:=by lia
  have ek:Da.tup ((H.map Da.int).take j++(H.map Da.int).drop (j+1))=dT (H.eraseIdx j):=by
   unfold dT
   rw [List.eraseIdx_eq_take_drop_succ,bC,List.map_take,List.map_drop]
  simp only [qK,g8,uI,s1,s2,zV,Jm,bc,bf]
  rw [if_pos (by rw [f7,jp,af];lia)]
  dsimp only
  rw [ek,yN,gS]
  cases uT W (H.eraseIdx j) with
  | none=>rfl
  | some c=>rfl
noncomputable def hdB (L:List PI) (H:List Int):Bool:=H.all fun x=>(c9 (low L) x).all fun a=>decide (a∈H)
theorem k6 {L:List PI} {H:List Int}:hdB L H=true↔∀ x∈H,∀ a,(a,x)∈L->a∈H:=by
 unfold hdB
 rw [bX]
 exact ⟨fun h x hx=>Hk.mp (h x hx),fun h x hx=>Hk.mpr (h x hx)⟩
noncomputable def wN (p:List Int->Bool):Nat->List Int->Int
 | 0,H=>if p H=true then 1 else 0
 | k+1,H=>if p H=true then sm (rgI 0 (k+1)) fun i=>wN p k (H.eraseIdx i.toNat) else 0
noncomputable def wL (p:List Int->Bool) (H:List Int):Int:=wN p H.length H
theorem Hf {p:List Int->Bool} {H:List Int} (h:p H=false):wL p H=0:=by
 unfold wL
 cases H.length with
 | zero=>unfold wN;rw [h];rfl
 | succ k=>unfold wN;rw [h];rfl
theorem C8 {p:List Int->Bool} {H:List Int} (h:p H=true) (hn:H≠[]):wL p H=sm (rgI 0 H.length) fun i=>wL p (H.eraseIdx i.toNat):=by
 obtain ⟨k,hk⟩:∃ k,H.length=k+1:=⟨H.length-1,by have:=List.length_pos_iff.mpr hn;lia⟩
 have e:wL p H=wN p (k+1) H:=by unfold wL;rw [hk]
 rw [e]
 unfold wN
 rw [if_pos h,hk]
 refine cE fun i hi=>?_
 have hm:=fE.mp hi
 unfold wL
 rw [fU (by lia),hk]
 rfl
theorem Ep {A B:List Int} (h:A.length<B.length):ltH A B=true:=by
 unfold ltH hk
 rw [HT.lexLt_cons,if_neg (by lia),decide_eq_true_eq]
 lia
theorem Cp {n:Int} {L:List PI} (Y:Yd n L) (h0:0<=n) (h5:Nh n L) (hl:L.length<=1000):fn_lines [dY n L]=some (.int (wL (hdB L) (rgI 0 n.toNat))):=by
 obtain ⟨hs,eh,hnd,hmem,hso,hsl⟩:=m3 Y h0 h5 hl
 have hnil:A5 L (rgI 0 n.toNat) []:=⟨.nil,by simp,by simp⟩
 have hall:A5 L (rgI 0 n.toNat) (rgI 0 n.toNat):=⟨gK _ _,fun x hx=>hx,fun x _ a ha=>by
  have:=(Y.rg _ ha).1
  dsimp only at this
  exact fE.mpr (by lia)⟩
 have hlen:∀ H∈hs,H.length<=6:=fun H hH=>by
  have q:=(hmem H).mp hH
  have:=Ms.length_le_of_subset (wq q.ris) q.sub
  rw [eA] at this
  lia
 refine vV ?_
 unfold g_lines
 have e0:ff 3 [dY n L]=[.pu (dY n L),.no,.no]:=rfl
 rw [e0]
 refine c7 (eO (ρ':=[.pu (dY n L),.ow (dW [([],1)]),.no]) (by simp [nv,dW,kT,gs]) ?_)
 refine c7 ?_
 refine iW (enc:=dT) (xs:=hs) (fun pre ρ=>∃ W s2,ρ=[.pu (dY n L),.ow (dW W),s2]/\(W.map (·.1)).Nodup/\(∀ e∈W,e.1=[]\/e.1∈pre)/\∀ H,uT W H=if H=[]\/H∈pre then some (wL (hdB L) H) else none) ?_ ⟨[([],1)],_,rfl,bg _ _,by simp,fun H=>?_⟩ ?_ ?_
 ·simp [eh]
 ·show (if []=H then some 1 else none)=_
  by_cases h:H=[]
  ·subst h;rw [if_pos rfl,if_pos (.inl rfl)];rfl
  ·rw [if_neg (fun z=>h z.symm),if_neg (by simp [h])]
 ·rintro pre H post ρ e ⟨W,s2,rfl,nd,hk,hg⟩
  have hH:H∈hs:=by rw [e];simp
  have qH:=(hmem H).mp hH
  refine ⟨[.pu (dY n L),.ow (dW W),.pu (dT H)],rfl,?_⟩
  refine qY (b:=!H.isEmpty) ?_ (fun q=>?_) fun q=>?_
  ·cases H with
   | nil=>rfl
   | cons a H=>simp [dT,tTr]
  ·have hne:H≠[]:=by intro z;subst z;cases q
   have hpH:hdB L H=true:=k6.mpr qH.cl
   have hw:fn_ways_up_to [dW W,dT H]=some (.int (wL (hdB L) H)):=by
    rw [DW W H (by have:=hlen H hH;lia),C8 hpH hne]
    congr 2
    refine cE fun k hk=>?_
    have hm:=fE.mp hk
    have hkl:k.toNat<H.length:=by lia
    rw [hg]
    by_cases hp:hdB L (H.eraseIdx k.toNat)=true
    ·have hd':A5 L (rgI 0 n.toNat) (H.eraseIdx k.toNat):=⟨qH.ris.sublist (uc _ _),fun x hx=>qH.sub x ((uc _ _).subset hx),k6.mp hp⟩
     have hin:=(hmem _).mpr hd'
     have hlt:(H.eraseIdx k.toNat).length<H.length:=by rw [fU hkl];lia
     have:H.eraseIdx k.toNat∈pre:=by
      rw [e] at hin hso
      rcases aA.mp hin with z | z
      ·exact z
      ·rcases aE.mp z with z | z
       ·rw [z] at hlt;lia
       ·have:=(b8.mp (ij.mp hso).2.1).1 _ z
        rw [Ep hlt] at this
        cases this
     rw [if_pos (.inr this)]
     rfl
    ·have hp':hdB L (H.eraseIdx k.toNat)=false:=by simpa using hp
     have hnn:¬ (H.eraseIdx k.toNat=[]\/H.eraseIdx k.toNat∈pre):=by
      rintro (z | z)
      ·rw [z] at hp';cases hp'
      ·exact hp (k6.mpr ((hmem _).mp (by rw [e];simp [z])).cl)
     rw [if_neg hnn,Hf hp']
     rfl
   have hWl:W.length<=1000000:=by
    have h1:(W.map (·.1)).length<=([]::hs).length:=Ms.length_le_of_subset nd fun A hA=>by
     obtain ⟨x,hx,rfl⟩:=aS.mp hA
     rcases hk x hx with z | z
     ·rw [z];exact am
     ·exact al _ (by rw [e];simp [z])
    rw [af,aJ] at h1
    lia
   refine eO (ρ':=[.pu (dY n L),.ow (dW (xv W H (wL (hdB L) H))),.pu (dT H)]) ?_ ⟨_,_,rfl,HP nd,fun x hx=>?_,fun A=>?_⟩
   ·have hlend:w6 1 (cm fn_ways_up_to (aH (aY 1) (aH (aY 2) bU))) [.pu (dY n L),.ow (dW W),.pu (dT H)]=some (.pu,.int (wL (hdB L) H)):=by
     have hcall:cm fn_ways_up_to (aH (aY 1) (aH (aY 2) bU)) [.pu (dY n L),.pu (dW W),.pu (dT H)]=some (.pu,.int (wL (hdB L) H)):=by
      exact cZ (ds:=[dW W,dT H]) rfl rfl hw
     unfold w6
     have e1:([.pu (dY n L),.ow (dW W),.pu (dT H)]:Rho)[1]?=some (.ow (dW W)):=rfl
     rw [e1]
     dsimp only
     rw [if_pos (show mS (dW W)=true from rfl)]
     have e2:([.pu (dY n L),.ow (dW W),.pu (dT H)]:Rho).set 1 (.pu (dW W))=[.pu (dY n L),.pu (dW W),.pu (dT H)]:=rfl
     rw [e2,hcall]
     dsimp only
     rw [if_pos (show xq (.int (wL (hdB L) H))=true from rfl)]
    rw [AQ]
    have e1:([.pu (dY n L),.ow (dW W),.pu (dT H)]:Rho)[1]?=some (.ow (dW W)):=rfl
    have e2:aY 2 [.pu (dY n L),.ow (dW W),.pu (dT H)]=some (.pu,dT H):=rfl
    rw [e1,e2,hlend]
    dsimp only
    rw [if_pos (show eG (Kd.pu,Da.int (wL (hdB L) H))=true from rfl),Hw H _ nd hWl]
    rfl
   ·have hx1:x.1∈(xv W H (wL (hdB L) H)).map (·.1):=aS.mpr ⟨x,hx,rfl⟩
    rw [lE] at hx1
    have:x.1∈W.map (·.1)\/x.1=H:=by
     split at hx1
     ·exact .inl hx1
     ·rcases aA.mp hx1 with z | z
      ·exact .inl z
      ·exact .inr (by simpa using z)
    rcases this with z | z
    ·obtain ⟨y,hy,ey⟩:=aS.mp z
     rw [<- ey]
     exact (hk y hy).imp id fun w=>cQ _ w
    ·exact .inr (by rw [z];simp)
   ·rw [wn,hg]
    by_cases hA:A=H
    ·subst hA;rw [if_pos rfl,if_pos (.inr (by simp))]
    ·rw [if_neg hA]
     have:(A=[]\/A∈pre)↔(A=[]\/A∈pre++[H]):=by rw [aA,ay];simp [hA]
     by_cases h2:A=[]\/A∈pre
     ·rw [if_pos h2,if_pos (this.mp h2)]
     ·rw [if_neg h2,if_neg (fun z=>h2 (this.mpr z))]
  ·have hne:H=[]:=by cases H with | nil=>rfl | cons a H=>cases q
   subst hne
   refine eO rfl ⟨W,_,rfl,nd,fun x hx=>(hk x hx).imp id fun w=>cQ _ w,fun A=>?_⟩
   rw [hg]
   have:(A=[]\/A∈pre)↔(A=[]\/A∈pre++[[]]):=by
    rw [aA,ay]
    exact ⟨fun h=>h.imp id .inl,fun h=>h.elim .inl fun z=>z.elim .inr .inl⟩
   by_cases h2:A=[]\/A∈pre
   ·rw [if_pos h2,if_pos (this.mp h2)]
   ·rw [if_neg h2,if_neg (fun z=>h2 (this.mpr z))]
 ·rintro ρ ⟨W,s2,rfl,nd,hk,hg⟩
  refine sa (d:=.int (wL (hdB L) (rgI 0 n.toNat))) ?_ rfl
  have hz:x2 oIt (aY 0) (xC (.int 0)) [.pu (dY n L),.ow (dW W),s2]=some (.pu,.int n):=by simp [dY]
  have hr:gL (aH (x2 oIt (aY 0) (xC (.int 0))) bU) [.pu (dY n L),.ow (dW W),s2]=some (.pu,dT (rgI 0 n.toNat)):=by
   unfold gL
   simp only [cP,eK,hz]
   rw [if_pos (by lia),eB]
   rfl
  have hlk:lL (dW W) (dT (rgI 0 n.toNat))=some (some (.int (wL (hdB L) (rgI 0 n.toNat)))):=by
   rw [yN,hg,if_pos (.inr ((hmem _).mpr hall))]
   rfl
  have hit:oIt (.bo,dW W) (.pu,dT (rgI 0 n.toNat))=some (.pu,.int (wL (hdB L) (rgI 0 n.toNat))):=by
   show (oIx (.bo,dW W) (.pu,dT (rgI 0 n.toNat))).or (xM (.bo,dW W) (.pu,dT (rgI 0 n.toNat)))=_
   have e2:xM (.bo,dW W) (.pu,dT (rgI 0 n.toNat))=some (.pu,.int (wL (hdB L) (rgI 0 n.toNat))):=by
    unfold xM
    dsimp only
    rw [hlk]
   rw [e2]
   rfl
  simp only [jl,uI,g8,hr,bc,bf,hit]
end GH
set_option linter.unusedSimpArgs false
set_option linter.unusedSimpArgs false
namespace G17
open PySem L2 Ry G G3 GW GH
theorem eqvAll_J:∀ P L:List Int,e5 (hW (P.map Da.int)) (hW (L.map Da.int))=decide (P=L)
 | [],[]=>rfl
 | [],q::L=>rfl
 | p::P,[]=>rfl
 | p::P,q::L=>by
   show (cp (.int p) (.int q)&&e5 (hW (P.map Da.int)) (hW (L.map Da.int)))=_
   rw [eqvAll_J P L,ce]
   simp only [cp,aT,beq_iff_eq,decide_eq_true_eq,l5]
end G17
namespace GF
open PySem L2 Ry G GW
noncomputable def g_heights_of:Rho->Res:=(gw (wQ 2 (xC2 (.fr,.dK [] [])))
 (gw (oC (c4 (jb (cm fn_upwards (aH (aY 0) (aH (aY 1) bU))))) (tgN 3)
 (Cq 2 (aY 3) (x2 gW (xC (.int 1)) (Bu (tG 2 (fK [none,none,some 2] (c4 (jb (kq (aY 1) (aY 3) (xC2 (.fr,.dK [] []))))) (tgN 1) (fun _=>some true) (x2 oIt (aY 2) (aY 1)))) (wc (xC (.int 1)))))))
 (fj (aY 2))))
noncomputable def fn_heights_of:List Da->Option Da:=iQ 4 g_heights_of
noncomputable def g_row_at:Rho->Res:=(fj (xB fV (aH (fK [none,none,some 1,some 0] (c4 (jb (xB gn (aH (aY 0) bU)))) (tgN 1) (tb (x2 (oEq false) (x2 oIt (aY 3) (aY 1)) (aY 2))) (aY 1)) bU)))
noncomputable def fn_row_at:List Da->Option Da:=iQ 2 g_row_at
noncomputable def g_floors:Rho->Res:=(gw (j9 1 (cm fn_heights_of (aH (x2 oIt (aY 0) (xC (.int 0))) (aH (cm fn_lowers_of (aH (x2 oIt (aY 0) (xC (.int 1))) bU)) bU))))
 (gw (wQ 2 (B8 bU))
 (gw (j9 3 (cm fn_row_at (aH (aY 1) (aH (xC (.int 0)) bU))))
 (gw (kF (tTr (aY 3))
 (gw (kX 2 (aY 3))
 (j9 3 (cm fn_row_at (aH (aY 1) (aH (xB oE (aH (aY 2) bU)) bU))))) 200)
 (fj (xB fV (aH (aY 2) bU)))))))
noncomputable def fn_floors:List Da->Option Da:=iQ 4 g_floors
end GF
set_option linter.unusedSimpArgs false
set_option linter.unusedSimpArgs false
set_option linter.unusedSimpArgs false
namespace GT
open PySem L2 Ry G G3
noncomputable def xo:List PI->Int->Int->List PI
 | [],u,x=>[(u,x)]
 | (a,b)::U,u,x=>if a=u then (a,x)::U else (a,b)::xo U u x
theorem rj:∀ (U:List PI) (u x:Int),d8 (xo U u x)=if u∈d8 U then d8 U else d8 U++[u]
 | [],u,x=>rfl
 | (a,b)::U,u,x=>by
   unfold xo
   by_cases h:a=u
   ·subst h
    rw [if_pos rfl,if_pos (by simp [d8])]
    rfl
   ·rw [if_neg h]
    show a::d8 (xo U u x)=_
    rw [rj U u x]
    by_cases h2:u∈d8 U
    ·rw [if_pos h2,if_pos (by show u∈a::d8 U;exact al _ h2)]
     rfl
    ·rw [if_neg h2,if_neg (by show ¬ u∈a::d8 U;exact fun z=>(aE.mp z).elim (fun z=>h z.symm) h2)]
     rfl
noncomputable abbrev TK:=Option (Bool×List PI×List Int)
noncomputable def tkL (rec:Int->List PI->List Int->TK) (t:Int):List Int->List PI->List Int->TK
 | [],U,A=>some (false,U,A)
 | u::us,U,A=>if u∈A then tkL rec t us U A else if u∉d8 U then some (true,xo U u t,A++[u]) else match rec (iA U u) U (A++[u]) with
   | none=>none
   | some (true,U',A')=>some (true,xo U' u t,A')
   | some (false,U',A')=>tkL rec t us U' A'
noncomputable def tk (up:Int->List Int):Nat->Int->List PI->List Int->TK
 | 0=>fun _ _ _=>none
 | k+1=>fun t U A=>tkL (tk up k) t (up t) U A
theorem su:∀ {U:List PI} {u t:Int},u∈d8 U->∃ P S,U=P++(u,iA U u)::S/\xo U u t=P++(u,t)::S
 | [],u,t,h=>by cases h
 | (a,b)::U,u,t,h=>by
   by_cases e:a=u
   ·subst e
    refine ⟨[],U,?_,?_⟩
    ·show _=(a,if a=a then b else _)::U
     rw [if_pos rfl]
    ·show (if a=a then (a,t)::U else _)=_
     rw [if_pos rfl];rfl
   ·have h':u∈d8 U:=(aE.mp (show u∈a::d8 U from h)).resolve_left fun z=>e z.symm
    obtain ⟨P,S,e1,e2⟩:=su (t:=t) h'
    refine ⟨(a,b)::P,S,?_,?_⟩
    ·show _=(a,b)::(P++(u,if a=u then b else iA U u)::S)
     rw [if_neg e,<- e1]
    ·show (if a=u then _ else (a,b)::xo U u t)=_
     rw [if_neg e,e2];rfl
theorem nV:∀ {U:List PI} {u t:Int},u∉d8 U->xo U u t=U++[(u,t)]
 | [],u,t,_=>rfl
 | (a,b)::U,u,t,h=>by
   have h1:a≠u:=fun z=>h (by show u∈a::d8 U;rw [z];exact am)
   have h2:u∉d8 U:=fun z=>h (al _ z)
   show (if a=u then _ else (a,b)::xo U u t)=_
   rw [if_neg h1,nV h2];rfl
end GT
set_option linter.unusedSimpArgs false
namespace GT
open PySem L2 Ry G G3
noncomputable def jv (up:Int->List Int) (k:Nat):List Int->List PI->Option (List PI)
 | [],U=>some U
 | t::ts,U=>match tk up k t U [] with
   | none=>none
   | some (_,U',_)=>jv up k ts U'
end GT
set_option linter.unusedSimpArgs false
set_option linter.unusedSimpArgs false
set_option linter.unusedSimpArgs false
set_option linter.unusedSimpArgs false
set_option linter.unusedSimpArgs false
set_option linter.unusedSimpArgs false
namespace GT
open PySem PySem.Spec PyProof.Rows L2 Ry G G3
structure Bd (R:List Int) (U:List PI) (A:List Int):Prop where
 un:(d8 U).Nodup
 ur:∀ u∈d8 U,u∈R
 an:A.Nodup
 ar:∀ a∈A,a∈R
theorem Bd.ask {R:List Int} {U:List PI} {A:List Int} {u:Int} (h:Bd R U A) (hu:u∈R) (hA:u∉A):Bd R U (A++[u]) :=
 ⟨h.un,h.ur,bj.mpr ⟨h.an,bg _ _,fun a ha b hb=>by rw [ay] at hb;subst hb;intro z;subst z;exact hA ha⟩,fun a ha=>by
   rcases aA.mp ha with z | z
   ·exact h.ar a z
   ·rw [ay] at z;rw [z];exact hu⟩
theorem Bd.put {R:List Int} {U:List PI} {A:List Int} {u t:Int} (h:Bd R U A) (hu:u∈R):Bd R (xo U u t) A:=by
 refine ⟨?_,fun v hv=>?_,h.an,h.ar⟩
 ·rw [rj]
  split
  ·exact h.un
  ·rename_i hK
   exact bj.mpr ⟨h.un,bg _ _,fun a ha b hb=>by rw [ay] at hb;subst hb;intro z;subst z;exact hK ha⟩
 ·rw [rj] at hv
  split at hv
  ·exact h.ur v hv
  ·rcases aA.mp hv with z | z
   ·exact h.ur v z
   ·rw [ay] at z;rw [z];exact hu
theorem Ak {R:List Int} {rec:Int->List PI->List Int->TK} {t:Int} (hr:∀ x U A r,Bd R U A->rec x U A=some r->Bd R r.2.1 r.2.2):∀ (us:List Int) (U:List PI) (A:List Int) (r:Bool×List PI×List Int),(∀ u∈us,u∈R)->Bd R U A->tkL rec t us U A=some r->Bd R r.2.1 r.2.2
 | [],U,A,r,_,h,e=>by cases e;exact h
 | u::us,U,A,r,hs,h,e=>by
   have hu:=hs u am
   have hs':=fun v hv=>hs v (al _ hv)
   unfold tkL at e
   split at e
   ·exact Ak hr us U A r hs' h e
   ·rename_i hA
    split at e
    ·cases e;exact (h.ask hu hA).put hu
    ·split at e
     ·cases e
     ·rename_i U' A' er
      cases e
      exact (hr _ _ _ _ (h.ask hu hA) er).put hu
     ·rename_i U' A' er
      exact Ak hr us U' A' r hs' (hr _ _ _ _ (h.ask hu hA) er) e
theorem Fe {up:Int->List Int} {R:List Int} (hup:∀ t,∀ u∈up t,u∈R):∀ (k:Nat) (t:Int) (U:List PI) (A:List Int) (r:Bool×List PI×List Int),Bd R U A->tk up k t U A=some r->Bd R r.2.1 r.2.2
 | 0,_,_,_,_,_,e=>by cases e
 | k+1,t,U,A,r,h,e=>Ak (fun x U A r h er=>Fe hup k x U A r h er) (up t) U A r (hup t) h e
noncomputable def cU (U:List PI):List (Key×V):=U.map fun e=>(av e.1,V.int e.2)
theorem tD:∀ (U:List PI) (u:Int),mC (cU U) (av u)=if u∈d8 U then some (.int (iA U u)) else none
 | [],u=>rfl
 | (a,b)::U,u=>by
   by_cases h:a=u
   ·subst h
    rw [if_pos (by show a∈a::d8 U;exact am)]
    show _=some (V.int (if a=a then b else _))
    rw [if_pos rfl]
    exact jj (p:=(av a,V.int b)) rfl
   ·have ek:¬ (av a:Key)=av u:=fun z=>h (cM z)
    have ev:mC (cU ((a,b)::U)) (av u)=mC (cU U) (av u):=jg (p:=(av a,V.int b)) ek
    rw [ev,tD U u]
    show _=if u∈a::d8 U then some (V.int (if a=u then b else iA U u)) else none
    rw [if_neg h]
    by_cases h2:u∈d8 U
    ·rw [if_pos h2,if_pos (al _ h2)]
    ·rw [if_neg h2,if_neg (fun z=>(aE.mp z).elim (fun z=>h z.symm) h2)]
theorem IC {U:List PI} (nd:(d8 U).Nodup) (u t:Int):kt (cU U) (av u) (V.int t)=cU (xo U u t):=by
 by_cases h:u∈d8 U
 ·obtain ⟨P,S,e1,e2⟩:=su (t:=t) h
  have hP:∀ e∈P,e.1≠u:=fun e he z=>by
   rw [e1] at nd
   unfold d8 at nd
   rw [bC,aD] at nd
   exact (bj.mp nd).2.2 e.1 (aS.mpr ⟨e,he,rfl⟩) u am z
  have hS:∀ e∈S,e.1≠u:=fun e he z=>by
   rw [e1] at nd
   unfold d8 at nd
   rw [bC,aD] at nd
   exact (bi.mp (bj.mp nd).2.1).1 (aS.mpr ⟨e,he,z⟩)
  have keep:∀ l:List PI,(∀ e∈l,e.1≠u)->((cU l).map fun kv=>if kv.1=(av u:Key) then (kv.1,V.int t) else kv)=cU l:=fun l hl=>by
   unfold cU
   rw [aQ]
   refine eN fun e he=>?_
   show (if (av e.1:Key)=av u then ((av e.1:Key),V.int t) else (av e.1,V.int e.2))=_
   rw [if_neg (fun z=>hl e he (cM z))]
  unfold kt
  rw [m4,tD,if_pos h]
  rw [show (some (V.int (iA U u))).isSome=true from rfl,if_pos rfl]
  rw [e2,e1]
  show ((cU (P++(u,_)::S)).map _)=_
  have split:∀ x:Int,cU (P++(u,x)::S)=cU P++(av u,V.int x)::cU S:=fun x=>by unfold cU;rw [bC,aD]
  rw [split,split,bC,aD,keep P hP,keep S hS,if_pos rfl]
 ·rw [rA _ (by rw [tD,if_neg h]),nV h]
  unfold cU
  rw [bC];rfl
theorem DR (A:List Int) (u:Int):mC (idc A) (av u)=if u∈A then some (.bl true) else none:=by
 induction A with
 | nil=>rfl
 | cons a A ih =>
   by_cases h:a=u
   ·subst h
    rw [if_pos am]
    exact jj (p:=(av a,V.bl true)) rfl
   ·have ek:¬ (av a:Key)=av u:=fun z=>h (cM z)
    have ev:mC (idc (a::A)) (av u)=mC (idc A) (av u):=jg (p:=(av a,V.bl true)) ek
    rw [ev,ih]
    by_cases h2:u∈A
    ·rw [if_pos h2,if_pos (al _ h2)]
    ·rw [if_neg h2,if_neg (fun z=>(aE.mp z).elim (fun z=>h z.symm) h2)]
structure Chg (lu la:au) (G H G' H':Hp):Prop where
 hh:∀ b o,H b=some o->b≠lu->b≠la->H' b=some o
 gg:cG G G'
 gh:cG G' H'
 nw:∀ b o,H b=some o->isT o=false->G b=none->G' b=none
theorem Chg.ext {lu la:au} {G H G1 H1 G2 H2:Hp} {cu:List (Key×V)} {ca:List (Key×V)} (c:Chg lu la G H G1 H1) (e:Chg lu la G1 H1 G2 H2) (hu:H1 lu=some (.dK cu)) (ha:H1 la=some (.dK ca)):Chg lu la G H G2 H2 :=
 ⟨fun b o q n1 n2=>e.hh b o (c.hh b o q n1 n2) n1 n2,c.gg.trans e.gg,e.gh,fun b o q t g=>by
   have g1:=c.nw b o q t g
   by_cases n1:b=lu
   ·subst n1;exact e.nw _ _ hu rfl g1
   ·by_cases n2:b=la
    ·subst n2;exact e.nw _ _ ha rfl g1
    ·exact e.nw b o (c.hh b o q n1 n2) t g1⟩
theorem Chg.of {lu la:au} {G H G1 H1:Hp} (e:Ext G H G1 H1):Chg lu la G H G1 H1:=⟨fun b o q _ _=>e.hh b o q,e.gg,e.gh,e.nw⟩
theorem Chg.mut {lu la l:au} {G H:Hp} {o:HO} (s:cG G H) (hl:l=lu\/l=la) (g:G l=none):Chg lu la G H G (upd H l o) :=
 ⟨fun b u q n1 n2=>by rw [a8 (fun z=>by subst z;exact hl.elim n1 n2)];exact q,cG.refl _,kf s g,fun _ _ _ _ g=>g⟩
theorem Em {lu la:au} {G H G1 H1 G2 H2:Hp} (E:Ext G H G1 H1) (hu:H lu=none) (ha:H la=none) (c:Chg lu la G1 H1 G2 H2):Ext G H G2 H2 :=
 ⟨fun b o q=>c.hh b o (E.hh b o q) (bV q hu) (bV q ha),E.gg.trans c.gg,c.gh,fun b o q t g=>c.nw b o (E.hh b o q) t (E.nw b o q t g)⟩
noncomputable def spT (K:ae) (k:Nat):Sp:=fun vs H Q _=>∃ (G:Hp) (D:UD) (R:List Int) (vu:V) (t:Int) (lu la:au) (U:List PI) (A:List Int) (b:Bool) (U':List PI) (A':List Int),
 vs=[vu,.int t,.ref lu,.ref la]/\cG G H/\Tbs K G/\Den K G (dU D) vu/\(R.length<=1000/\∀ t,∀ u∈c9 D t,u∈R)/\(G lu=none/\G la=none/\lu≠la)/\H lu=some (.dK (cU U))/\H la=some (.dK (idc A))/\Bd R U A/\tk (c9 D) k t U A=some (b,U',A') /\
 ∀ G' H',Chg lu la G H G' H'->H' lu=some (.dK (cU U'))->H' la=some (.dK (idc A'))->Q (.bl b) H'
theorem Do {R l:List Int} (nd:l.Nodup) (hs:∀ x∈l,x∈R) (hR:R.length<=1000):l.length<=1000:=bO (Ms.length_le_of_subset nd hs) hR
theorem take_read {K:ae} {H:Hp} {vs:List V} {Q:VK} {E:XK} {E':XK} {k:Nat} {x0 x1 x2 x3 x4:bv} (h:spT K (k+1) vs H Q E') :
 nz (Jn (iX K (c4 (jb (kq (aY 0) (aY 1) (xC2 (.fr,.dK [] [])))))) (ly 4)
  (nz (Jf (tB (KE (jB 4) (jB 3))) Jc CI)
  (nz (uG (jB 3) (jB 4) (tC (V.bl true)))
  (Jf (tOr (tB (uB (jB 4) (jB 2))) (tB (D3 (spT K k) [] E (nW (jB 0) (nW (CN (jB 2) (jB 4)) (nW (jB 2) (nW (jB 3) Iw)))))))
    (nz (uG (jB 2) (jB 4) (jB 1)) (FN (tC (V.bl true)))) CI))))
  (FN (tC (V.bl false))) { nx:=fun _ H'=>Q V.non H',rt:=Q } (L2.start [x0,x1,x2,x3,x4] vs) H:=by
 have hs:aK=16777216:=bu
 obtain ⟨G,D,R,vu,t,lu,la,U0,A0,b,U',A',rfl,sg,tg,dv,⟨hR,hup⟩,⟨gu,ga,nla⟩,hu0,ha0,bd0,e0,fin⟩:=h
 have e0:tkL (tk (c9 D) k) t (c9 D t) U0 A0=some (b,U',A'):=e0
 show nz _ _ _ [some vu,some (.int t),some (.ref lu),some (.ref la),none] H
 have st0:hZ K H G H [some vu,some (.int t),some (.ref lu),some (.ref la),none] [.pu (dU D),.pu (.int t),.no,.no,.no]:=by
  refine ⟨rfl,fun i d e=>?_,fun i d e=>?_,fun i j d d' l _ e=>?_,tg⟩
  ·match i,e with
   | 0,e=>cases e;exact ⟨vu,rfl,dv⟩
   | 1,e=>cases e;exact ⟨_,rfl,rfl⟩
   | 2,e=>cases e
   | 3,e=>cases e
   | 4,e=>cases e
  ·match i,e with
   | 0,e=>cases e
   | 1,e=>cases e
   | 2,e=>cases e
   | 3,e=>cases e
   | 4,e=>cases e
  ·match i,e with
   | 0,e=>cases e
   | 1,e=>cases e
   | 2,e=>cases e
   | 3,e=>cases e
   | 4,e=>cases e
 have hit:c4 (jb (kq (aY 0) (aY 1) (xC2 (.fr,.dK [] [])))) [.pu (dU D),.pu (.int t),.no,.no,.no]=some ((c9 D t).map Da.int):=uU (AL D t _ _ _ (k:=.pu) (k':=.pu) rfl rfl)
 refine ⟨H,G,_,_,sg,cG.refl _,st0,hit,fun J G1 H1 E1 it=>?_⟩
 generalize hus:c9 D t=us at e0 it
 have hR':∀ u∈us,u∈R:=by rw [<- hus];exact hup t
 refine ⟨fun i m σ H'=>m=us.length-i/\i<=us.length/\∃ Gc U A s4,σ=[some vu,some (.int t),some (.ref lu),some (.ref la),s4]/\Chg lu la G H Gc H'/\cG G1 Gc/\H' lu=some (.dK (cU U))/\H' la=some (.dK (idc A))/\Bd R U A/\tkL (tk (c9 D) k) t (us.drop i) U A=some (b,U',A'),
  ⟨us.length,rfl,bW _,G1,U0,A0,_,rfl,.of E1,cG.refl _,E1.hh _ _ hu0,E1.hh _ _ ha0,bd0,e0⟩,?_⟩
 rintro i m σ H' ⟨rfl,hi,Gc,U,A,s4,rfl,Cc,sc,hu,ha,bd,e⟩
 by_cases hlt:i<us.length
 ·obtain ⟨hgo,hy⟩:=(it i Gc H' sc Cc.gh).1 (Da.int us[i]) (by rw [aC,aj hlt];rfl)
  rw [gj hlt] at e
  have huR:=hR' us[i] (gc hlt)
  generalize us[i]=u at e huR hy
  refine .inr ⟨hgo,fun σ3 H3=>∃ Gc U A s4,σ3=[some vu,some (.int t),some (.ref lu),some (.ref la),s4]/\Chg lu la G H Gc H3/\cG G1 Gc/\H3 lu=some (.dK (cU U))/\H3 la=some (.dK (idc A))/\Bd R U A/\tkL (tk (c9 D) k) t (us.drop (i+1)) U A=some (b,U',A'),fun σ3 H3 z=>⟨us.length-(i+1),by lia,rfl,hlt,z⟩,fun x H2 yl=>?_⟩
  obtain ⟨G2,E2,dx⟩:=hy x H2 yl
  cases (show x=.int u from dx)
  have C2:Chg lu la G H G2 H2:=Cc.ext (.of E2) hu ha
  have s2:=sc.trans E2.gg
  have hu2:=E2.hh _ _ hu
  have ha2:=E2.hh _ _ ha
  have gu2:G2 lu=none:=C2.nw _ _ hu0 rfl gu
  have ga2:G2 la=none:=C2.nw _ _ ha0 rfl ga
  have hAl:(idc A).length<aK:=by
   unfold idc
   rw [af]
   have:=Do bd.an bd.ar hR
   lia
  show nz _ _ _ [some vu,some (.int t),some (.ref lu),some (.ref la),some (.int u)] H2
  refine ⟨_,rfl,_,rfl,la,_,rfl,qP.k (k:=av u) ha2,_,rfl,?_⟩
  rw [DR]
  unfold tkL at e
  by_cases hA:u∈A
  ·rw [if_pos hA]
   rw [if_pos hA] at e
   refine FH ?_
   exact ⟨G2,U,A,_,rfl,C2,s2,hu2,ha2,bd,e⟩
  ·rw [if_neg hA]
   rw [if_neg hA] at e
   refine Gb ?_
   have bd2:=bd.ask huR hA
   refine ⟨_,rfl,_,rfl,la,_,rfl,BN.k (k:=av u) ha2 hAl,?_⟩
   rw [wo,show rG A u=A++[u] from if_neg hA]
   have C3:Chg lu la G H G2 (upd H2 la (.dK (idc (A++[u])))):=C2.ext (Chg.mut E2.gh (.inr rfl) ga2) hu2 ha2
   have hu3:(upd H2 la (.dK (idc (A++[u])))) lu=some (.dK (cU U)):=by rw [a8 nla];exact hu2
   have ha3:(upd H2 la (.dK (idc (A++[u])))) la=some (.dK (idc (A++[u]))):=aU
   generalize upd H2 la (.dK (idc (A++[u])))=H3 at C3 hu3 ha3
   have last:∀ (Gd Hd:Hp) (Ud:List PI) (Ad:List Int),Chg lu la G H Gd Hd->Hd lu=some (.dK (cU Ud))->Hd la=some (.dK (idc Ad))->Bd R Ud Ad->(true,xo Ud u t,Ad)=(b,U',A')->∀ N B' C',nz (uG (jB 2) (jB 4) (jB 1)) (FN (tC (V.bl true))) { nx:=N,rt:=Q,bk:=B',ct:=C' } [some vu,some (.int t),some (.ref lu),some (.ref la),some (.int u)] Hd:=fun Gd Hd Ud Ad Cd hud had bdd ee N B' C'=>by
    cases ee
    have hUl:(cU Ud).length<aK:=by
     unfold cU
     rw [af]
     have:=Do bdd.un bdd.ur hR
     unfold d8 at this
     rw [af] at this
     lia
    have gud:Gd lu=none:=Cd.nw _ _ hu0 rfl gu
    refine ⟨_,rfl,_,rfl,_,rfl,lu,_,rfl,BN.k (k:=av u) hud hUl,?_⟩
    rw [IC bdd.un]
    exact fin Gd _ (Cd.ext (Chg.mut Cd.gh (.inl rfl) gud) hud had) aU (by rw [a8 nla.symm];exact had)
   refine ⟨_,rfl,_,rfl,lu,_,rfl,qP.k (k:=av u) hu3,_,rfl,?_⟩
   rw [tD]
   by_cases hK:u∈d8 U
   ·rw [if_pos hK]
    rw [if_neg (by simpa using hK)] at e
    refine Gb ?_
    cases er:tk (c9 D) k (iA U u) U (A++[u]) with
    | none=>rw [er] at e;cases e
    | some r =>
      obtain ⟨b1,U1,A1⟩:=r
      rw [er] at e
      refine ⟨_,rfl,_,rfl,_,rfl,lu,.int (iA U u),rfl,?_,_,rfl,_,rfl,?_⟩
      ·have:=qP.k (k:=av u) hu3
       rw [tD,if_pos hK] at this
       exact this
      have gu3:G2 lu=none:=gu2
      refine ⟨G2,D,R,vu,iA U u,lu,la,U,A++[u],b1,U1,A1,rfl,C3.gh,tg.mono C3.gg,Den.mono C3.gg _ dv,⟨hR,hup⟩,⟨gu2,ga2,nla⟩,hu3,ha3,bd2,er,fun G4 H4 C4 hu4 ha4=>⟨_,rfl,?_⟩⟩
      have C5:=C3.ext C4 hu3 ha3
      have bd4:Bd R U1 A1:=Fe hup k _ _ _ _ bd2 er
      cases b1 with
      | true =>
        refine FH ?_
        exact last G4 H4 U1 A1 C5 hu4 ha4 bd4 (by simpa using e) _ _ _
      | false =>
        refine Gb ?_
        exact ⟨G4,U1,A1,_,rfl,C5,s2.trans C4.gg,hu4,ha4,bd4,e⟩
   ·rw [if_neg hK]
    rw [if_pos hK] at e
    refine FH ?_
    refine FH ?_
    exact last G2 H3 U (A++[u]) C3 hu3 ha3 bd2 (by simpa using e) _ _ _
 ·have ei:i=us.length:=by lia
  subst ei
  rw [jq] at e
  cases (show some (false,U,A)=some (b,U',A') from e)
  refine .inl ⟨(it us.length Gc H' sc Cc.gh).2 (af _),?_⟩
  exact fin Gc H' Cc hu ha
end GT
set_option linter.unusedSimpArgs false
namespace GT
open PySem PySem.Spec PyProof.Rows L2 Ry G G3
noncomputable def fn_steps_of:List Da->Option Da
 | [.tup [.int n,.tup ps]]=>match dh ps with
   | some L=>if L.length<=1000/\0<=n/\n<=12/\(L.all fun p=>decide (0<=p.2/\p.2<n))=true then (jv (c9 (upp L)) 13 (rgI 0 n.toNat) []).map dC else none
   | none=>none
 | _=>none
theorem xc {ds:List Da} {d:Da} (h:fn_steps_of ds=some d):∃ n ps L U,ds=[.tup [.int n,.tup ps]]/\dh ps=some L/\L.length<=1000/\0<=n/\n<=12/\(∀ p∈L,0<=p.2/\p.2<n)/\jv (c9 (upp L)) 13 (rgI 0 n.toNat) []=some U/\d=dC U:=by
 unfold fn_steps_of at h
 split at h
 ·rename_i n ps
  split at h
  ·rename_i L eL
   split at h
   ·rename_i hc
    obtain ⟨h1,h2,h3,h4⟩:=hc
    cases eU:jv (c9 (upp L)) 13 (rgI 0 n.toNat) [] with
    | none=>rw [eU] at h;cases h
    | some U =>
      rw [eU] at h
      cases h
      exact ⟨n,ps,L,U,rfl,eL,h1,h2,h3,fun p hp=>by simpa using bX.mp h4 p hp,eU,rfl⟩
   ·cases h
  ·cases h
 ·cases h
theorem Ki {K:ae} {G:Hp} {U:List PI} {l:au} {o:cX} (h:G l=some (.frz o (.dK (cU U)))):Den K G (dC U) (.ref l):=by
 refine ⟨l,o,cU U,rfl,h,?_,?_⟩
 ·unfold cU;rw [aQ];rfl
 ·have e1:(cU U).map (·.2)=(U.map (·.2)).map V.int:=by unfold cU;rw [aQ,aQ];rfl
  have e2:(U.map fun e=>Da.int e.2)=(U.map (·.2)).map Da.int:=by rw [aQ];rfl
  rw [e1,e2]
  exact cD.ints.mpr rfl
theorem steps_read {K:ae} {G H:Hp} {ds:List Da} {d:Da} {vs:List V} {Q:VK} {E:XK} {x0 x1 x2 x3:bv} (sg:cG G H) (tg:Tbs K G) (dl:cD K G ds vs) (ef:fn_steps_of ds=some d) (k:∀ v G' H',Ext G H G' H'->Den K G' d v->Q v H') :
 nz (FL (tX K (cm fn_uppers_of (aH (Ry.x2 oIt (aY 0) (xC (.int 1))) bU))) (ly 1)) (nz (FL rX (ly 2))
  (nz (Jn (iX K (k3 (aH (Ry.x2 oIt (aY 0) (xC (.int 0))) bU))) (ly 3)
    (Fw (D3 (spT K 13) [] E (nW (jB 1) (nW (jB 3) (nW (jB 2) (nW rX Iw)))))))
  fun D σ H=>jB 2 σ H fun v H1=>∃ ls,iK H1 ls fun H2=>D.rt v H2)) { nx:=fun _ H'=>Q V.non H',rt:=Q } (L2.start [x0,x1,x2,x3] vs) H:=by
 obtain ⟨n,ps,L,Uf,rfl,eL,hL,h0,h12,hrg,eU,rfl⟩:=xc ef
 obtain ⟨v0,r,ev,hd0,er⟩:=dl
 cases (show r=[] from er)
 subst ev
 have stG:∀ (Gx Hx:Hp) (w1 w2 w3:Option V),cG G Gx->hZ K H Gx Hx [some v0,w1,w2,w3] [.pu (.tup [.int n,.tup ps]),.no,.no,.no]:=fun Gx Hx w1 w2 w3 sx=>by
  refine ⟨rfl,fun i d e=>?_,fun i d e=>?_,fun i j d d' l _ e=>?_,tg.mono sx⟩
  ·match i,e with
   | 0,e=>cases e;exact ⟨v0,rfl,Den.mono sx _ hd0⟩
   | 1,e=>cases e
   | 2,e=>cases e
   | 3,e=>cases e
  ·match i,e with
   | 0,e=>cases e
   | 1,e=>cases e
   | 2,e=>cases e
   | 3,e=>cases e
  ·match i,e with
   | 0,e=>cases e
   | 1,e=>cases e
   | 2,e=>cases e
   | 3,e=>cases e
 show nz _ _ _ [some v0,none,none,none] H
 have hup:fn_uppers_of [.tup ps]=some (dU (upp L)):=by
  show (match dh ps with | some T=>if T.length<=1000 then some (dU (upp T)) else none | none=>none)=_
  rw [eL]
  exact if_pos hL
 have hc:cm fn_uppers_of (aH (Ry.x2 oIt (aY 0) (xC (.int 1))) bU) [.pu (.tup [.int n,.tup ps]),.no,.no,.no]=some (.pu,dU (upp L)):=by
  show (match fn_uppers_of [.tup ps] with | none=>none | some d=>some (Kd.pu,d))=_
  rw [hup]
 refine ⟨H,G,_,_,sg,cG.refl _,stG G H _ _ _ (cG.refl _),hc,fun vu G1 H1 E1 du=>?_⟩
 have du:Den K G1 (dU (upp L)) vu:=du
 show nz _ _ _ [some v0,some vu,none,none] H1
 intro lu hlu
 show nz _ _ _ [some v0,some vu,some (.ref lu),none] (upd H1 lu (.dK []))
 have h0u:H lu=none:=E1.hh.free hlu
 have g1u:G1 lu=none:=E1.gh.free hlu
 have E2:Ext G H G1 (upd H1 lu (.dK [])):=E1.trans (Ext.own E1.gh hlu)
 have hrng:k3 (aH (Ry.x2 oIt (aY 0) (xC (.int 0))) bU) [.pu (.tup [.int n,.tup ps]),.no,.no,.no]=some ((rgI 0 n.toNat).map Da.int):=by
  show (if -(2 ^ 62)<=n/\n<2 ^ 62 then some (eW 0 n.toNat) else none)=_
  rw [if_pos (by lia),eB]
 refine ⟨H,G1,_,_,E2.gh,E2.hh,stG G1 _ _ _ _ E1.gg,hrng,fun J G3 H3 E3 it=>?_⟩
 generalize hts:rgI 0 n.toNat=ts at eU it
 have hRl:(rgI 0 n.toNat).length<=1000:=by rw [eA];lia
 have hR:∀ t,∀ u∈c9 (upp L) t,u∈rgI 0 n.toNat:=fun t u hu=>by
  rw [(De L).get] at hu
  have:=hrg _ hu
  exact fE.mpr (by lia)
 refine ⟨fun i m σ H'=>m=ts.length-i/\i<=ts.length/\∃ Gc U s3,σ=[some v0,some vu,some (.ref lu),s3]/\Ext G H Gc H'/\cG G3 Gc/\H' lu=some (.dK (cU U))/\Gc lu=none/\Bd (rgI 0 n.toNat) U []/\jv (c9 (upp L)) 13 (ts.drop i) U=some Uf,
  ⟨ts.length,rfl,bW _,G3,[],_,rfl,E2.trans E3,cG.refl _,E3.hh _ _ aU,E3.nw _ _ aU rfl g1u,⟨by simp [d8],by simp [d8],by simp,by simp⟩,eU⟩,?_⟩
 rintro i m σ H' ⟨rfl,hi,Gc,U,s3,rfl,Ec,sc,hu,gu,bd,e⟩
 by_cases hlt:i<ts.length
 ·obtain ⟨hgo,hy⟩:=(it i Gc H' sc Ec.gh).1 (Da.int ts[i]) (by rw [aC,aj hlt];rfl)
  rw [gj hlt] at e
  generalize ts[i]=t at e hy
  refine .inr ⟨hgo,fun σ3 H3=>∃ Gc U s3,σ3=[some v0,some vu,some (.ref lu),s3]/\Ext G H Gc H3/\cG G3 Gc/\H3 lu=some (.dK (cU U))/\Gc lu=none/\Bd (rgI 0 n.toNat) U []/\jv (c9 (upp L)) 13 (ts.drop (i+1)) U=some Uf,fun σ3 H3 z=>⟨ts.length-(i+1),by lia,rfl,hlt,z⟩,fun x H2 yl=>?_⟩
  obtain ⟨G2,E5,dx⟩:=hy x H2 yl
  cases (show x=.int t from dx)
  have Ec2:=Ec.trans E5
  have gu2:G2 lu=none:=E5.nw _ _ hu rfl gu
  have hu2:=E5.hh _ _ hu
  show Fw _ _ [some v0,some vu,some (.ref lu),some (.int t)] H2
  refine ⟨_,rfl,_,rfl,_,rfl,fun la hla=>?_⟩
  have nla:lu≠la:=fun z=>by rw [<- z,hu2] at hla;cases hla
  have h0a:H la=none:=Ec2.hh.free hla
  have ga2:G2 la=none:=Ec2.gh.free hla
  have E6:Ext G H G2 (upd H2 la (.dK [])):=Ec2.trans (Ext.own Ec2.gh hla)
  have du2:Den K G2 (dU (upp L)) vu:=Den.mono (E3.gg.trans (sc.trans E5.gg)) _ du
  cases er:tk (c9 (upp L)) 13 t U [] with
  | none =>
    have:jv (c9 (upp L)) 13 (t::ts.drop (i+1)) U=none:=by
     show (match tk (c9 (upp L)) 13 t U [] with | none=>none | some (_,U',_)=>jv (c9 (upp L)) 13 (ts.drop (i+1)) U')=none
     rw [er]
    rw [this] at e;cases e
  | some r =>
    obtain ⟨b,U',A'⟩:=r
    have e':jv (c9 (upp L)) 13 (ts.drop (i+1)) U'=some Uf:=by
     have:jv (c9 (upp L)) 13 (t::ts.drop (i+1)) U=jv (c9 (upp L)) 13 (ts.drop (i+1)) U':=by
      show (match tk (c9 (upp L)) 13 t U [] with | none=>none | some (_,U',_)=>jv (c9 (upp L)) 13 (ts.drop (i+1)) U')=_
      rw [er]
     rw [this] at e;exact e
    have bd':=Fe hR 13 t U [] _ bd er
    refine ⟨G2,upp L,rgI 0 n.toNat,vu,t,lu,la,U,[],b,U',A',rfl,E6.gh,tg.mono E6.gg,du2,⟨hRl,hR⟩,⟨gu2,ga2,nla⟩,by rw [a8 nla];exact hu2,aU,bd,er,fun G4 H4 C4 hu4 ha4=>?_⟩
    exact ⟨G4,U',_,rfl,Em E6 h0u h0a C4,(sc.trans E5.gg).trans C4.gg,hu4,C4.nw _ _ (by rw [a8 nla];exact hu2) rfl gu2,⟨bd'.un,bd'.ur,by simp,by simp⟩,e'⟩
 ·have ei:i=ts.length:=by lia
  subst ei
  rw [jq] at e
  cases (show some U=some Uf from e)
  refine .inl ⟨(it ts.length Gc H' sc Ec.gh).2 (af _),?_⟩
  refine ⟨_,rfl,[lu],?_⟩
  have:=nL (G0:=G) (H0:=H) (k:=fun H2=>Q (.ref lu) H2) [(lu,HO.dK (cU Uf))] Gc H' Ec (by simp) (fun e he=>by
   rw [ay] at he;subst he
   exact ⟨h0u,gu,hu,.inl ⟨_,rfl⟩⟩) fun G' H'' E' s' hh=>by
    obtain ⟨o,ho⟩:=hh (lu,HO.dK (cU Uf)) (by simp)
    exact k _ G' H'' E' (Ki ho)
  exact this
end GT
namespace GT
open PySem L2 Ry G G3
noncomputable def g_tower_from:Rho->Res:=(gw (wQ 2 (B8 (aH (aY 1) bU)))
 (gw (kF (tb (x2 (oIn false) (x2 oIt (aY 2) (wc (xC (.int 1)))) (aY 0)))
 (kX 2 (x2 oIt (aY 0) (x2 oIt (aY 2) (wc (xC (.int 1)))))) 200)
 (fj (xB fV (aH (aY 2) bU)))))
noncomputable def fn_tower_from:List Da->Option Da:=iQ 3 g_tower_from
noncomputable def g_towers:Rho->Res:=(gw (j9 1 (cm fn_steps_of (aH (aY 0) bU)))
 (gw (j9 2 (jb (qA (fK [none,none,none] (vU (aY 1)) (tgT 2 (gE (tgN 1) (gE (tgN 2) mV))) (fun _=>some true) (lA (aH (aY 2) (aH (aY 1) bU)))))))
 (fj (xB fV (aH (fK [none,none,none,some 2,some 1] (k3 (aH (x2 oIt (aY 0) (xC (.int 0))) bU)) (tgN 1) (tb (x2 (oIn true) (aY 1) (aY 4))) (cm fn_tower_from (aH (aY 3) (aH (aY 1) bU)))) bU)))))
noncomputable def fn_towers:List Da->Option Da:=iQ 3 g_towers
noncomputable def g_stands_on_any:Rho->Res:=(fj (xB DP (aH (fK [none,none,some 1,some 0] (c4 (jb (aY 2))) (tgN 1) (fun _=>some true) (x2 (oIn false) (aY 2) (kq (aY 3) (aY 1) (xC2 (.fr,.dK [] []))))) bU)))
noncomputable def fn_stands_on_any:List Da->Option Da:=iQ 3 g_stands_on_any
noncomputable def g_without_overtopping:Rho->Res:=(gw (j9 2 (fK [none,none] (c4 (jb (aY 1))) (tgN 1) (fun _=>some true) (x2 oIt (aY 1) (wc (xC (.int 1))))))
 (fj (fK [none,none,none,some 2,some 0] (c4 (jb (aY 1))) (tgN 1) (fun _=>some true) (xIf (tTr (cm fn_stands_on_any (aH (aY 4) (aH (x2 oIt (aY 1) (wc (xC (.int 1)))) (aH (aY 3) bU))))) (jQ (aY 1) oU (nM (wc (xC (.int 1))))) (aY 1)))))
noncomputable def fn_without_overtopping:List Da->Option Da:=iQ 3 g_without_overtopping
noncomputable def g_broadest:Rho->Res:=(gw (j9 1 (cm fn_uppers_of (aH (x2 oIt (aY 0) (xC (.int 1))) bU)))
 (gw (j9 2 (B8 bU))
 (gw (j9 3 (xB mq (aH (cm fn_towers (aH (aY 0) bU)) bU)))
 (gw (kF (tb (x2 (oEq true) (aY 3) (aY 2)))
 (gw (j9 2 (aY 3))
 (j9 3 (cm fn_without_overtopping (aH (aY 1) (aH (aY 2) bU))))) 200)
 (fj (xB fV (aH (xB gn (aH (fK [none,none] (c4 (jb (aY 3))) (tgN 1) (fun _=>some true) (x2 oIt (aY 1) (wc (xC (.int 1))))) bU)) bU)))))))
noncomputable def fn_broadest:List Da->Option Da:=iQ 4 g_broadest
end GT
set_option linter.unusedSimpArgs false
namespace GT
open PySem L2 Ry G G3 GW GH GF
theorem wg:∀ F K:List (List Int),e5 (hW (F.map dT)) (hW (K.map dT))=decide (F=K)
 | [],[]=>rfl
 | [],_::_=>rfl
 | _::_,[]=>rfl
 | p::F,q::K=>by
   show (e5 (hW (p.map Da.int)) (hW (q.map Da.int))&&e5 (hW (F.map dT)) (hW (K.map dT)))=_
   rw [wg F K,G17.eqvAll_J,ce]
   simp only [aT,decide_eq_true_eq,l5]
theorem re:∀ F:List (List Int),cf (hW (F.map dT))=true
 | []=>rfl
 | A::F=>by
   show (cz (toP (dT A))&&cf (hW (F.map dT)))=true
   rw [re F,show (toP (dT A)).canLay0=true from GH.layAll_I A];rfl
theorem po:∀ F:List (List Int),bN (hW (F.map dT))<=1
 | []=>by simp [hW,bN]
 | A::F=>by
   show max (dE (toP (dT A))) (bN (hW (F.map dT)))<=1
   have:=po F
   have h:(toP (dT A)).depth=bN (hW (A.map Da.int))+1:=by simp [dT,toP,dE]
   rw [pF] at h
   lia
theorem HJ (n:Bool) (a b:Kd) (F K:List (List Int)):oEq n (a,.lst (F.map dT)) (b,.lst (K.map dT))=some (.pu,.bl (if n then !decide (F=K) else decide (F=K))):=by
 have e:eqD (.lst (F.map dT)) (.lst (K.map dT))=decide (F=K):=wg F K
 have ok:CQ (.lst (F.map dT)) (.lst (K.map dT))=true:=by
  unfold CQ
  rw [show (toP (.lst (F.map dT))).canLay0=true from re F,show (toP (.lst (K.map dT))).canLay0=true from re K]
  have h:(toP (.lst (F.map dT))).depth=bN (hW (F.map dT))+1:=by simp [toP,dE]
  have:=po F
  simp only [lm,lp,decide_eq_true_eq]
  lia
 unfold oEq
 rw [if_pos ok,e]
end GT
set_option linter.unusedSimpArgs false
namespace GE
open GW
noncomputable def rm (P:List Int) (x:Int):List Int:=P.filter fun y=>decide (y≠x)
noncomputable def isT (r:Int->Int->Bool) (P:List Int) (x:Int):Bool:=P.all fun o=>!r x o
noncomputable def cT (r:Int->Int->Bool):Nat->List Int->Int
 | 0,_=>1
 | k+1,P=>sm P fun x=>if isT r P x=true then cT r k (rm P x) else 0
theorem iZ {P:List Int} {x y:Int}:y∈rm P x↔y∈P/\y≠x:=by unfold rm;rw [a9,decide_eq_true_eq]
theorem k5 {r:Int->Int->Bool} {P:List Int} {x:Int}:isT r P x=true↔∀ o∈P,r x o=false:=by
 unfold isT
 rw [bX]
 exact ⟨fun h o ho=>by simpa using h o ho,fun h o ho=>by simpa using h o ho⟩
theorem CT {P:List Int} (nd:P.Nodup) (x:Int):(rm P x).Nodup:=nd.sublist cI
theorem y6:∀ {P:List Int} {x:Int} {k:Nat},P.Nodup->x∈P->P.length=k+1->(rm P x).length=k:=by
 intro P x k nd hx hl
 have h:(x::rm P x).Perm P:=(iI (bi.mpr ⟨fun z=>(iZ.mp z).2 rfl,CT nd x⟩) nd).mpr fun y=>by
  rw [aE,iZ]
  constructor
  ·rintro (rfl | ⟨z,_⟩)
   ·exact hx
   ·exact z
  ·intro z
   by_cases e:y=x
   ·exact .inl e
   ·exact .inr ⟨z,e⟩
 have:=h.length_eq
 rw [aJ] at this
 lia
theorem yq {r q:Int->Int->Bool} {g:Int->Int}:∀ (k:Nat) (P:List Int),(∀ x∈P,∀ y∈P,q (g x) (g y)=r x y)->(∀ x∈P,∀ y∈P,g x=g y->x=y)->cT q k (P.map g)=cT r k P
 | 0,_,_,_=>rfl
 | k+1,P,h,inj=>by
   show sm (P.map g) _=sm P _
   have e:∀ f:Int->Int,sm (P.map g) f=sm P fun x=>f (g x):=fun f=>by unfold sm;rw [aQ];rfl
   rw [e]
   refine cE fun x hx=>?_
   have e1:isT q (P.map g) (g x)=isT r P x:=by
    rw [ce,k5,k5]
    constructor
    ·intro z o ho;rw [<- h x hx o ho];exact z _ (aS.mpr ⟨o,ho,rfl⟩)
    ·intro z o ho
     obtain ⟨u,hu,rfl⟩:=aS.mp ho
     rw [h x hx u hu];exact z u hu
   have e2:rm (P.map g) (g x)=(rm P x).map g:=by
    unfold rm
    rw [List.filter_map]
    congr 1
    refine yb fun y hy=>?_
    simp only [Function.comp]
    rw [ce,decide_eq_true_eq,decide_eq_true_eq]
    exact ⟨fun z w=>z (by rw [w]),fun z w=>z (inj y hy x hx w)⟩
   rw [e1,e2,yq k (rm P x) (fun a ha b hb=>h a (iZ.mp ha).1 b (iZ.mp hb).1) fun a ha b hb=>inj a (iZ.mp ha).1 b (iZ.mp hb).1]
theorem ss (A B:List Int) (x:Int):rm (A++B) x=rm A x++rm B x:=List.filter_append ..
theorem zB {A:List Int} {x:Int} (h:x∉A):rm A x=A:=List.filter_eq_self.mpr fun y hy=>by
 have:y≠x:=fun e=>h (e▸hy)
 simpa using this
theorem vK {r:Int->Int->Bool} {A:List Int} (hA:A.Nodup):∀ (m:Nat) (B:List Int),B.Nodup->B.length=m->(∀ a∈A,a∉B)->(∀ a∈A,∀ b∈B,r a b=true/\r b a=false)->cT r (m+A.length) (A++B)=cT r A.length A*cT r m B
 | 0,B,_,hl,_,_=>by
   rw [eP] at hl
   subst hl
   rw [cC,ua]
   show _=_*1
   rw [ik]
 | m+1,B,nB,hl,dj,h=>by
   rw [show m+1+A.length=(m+A.length)+1 by lia]
   show sm (A++B) (fun x=>if isT r (A++B) x=true then cT r (m+A.length) (rm (A++B) x) else 0)=_*sm B (fun x=>if isT r B x=true then cT r m (rm B x) else 0)
   rw [tz,<- nD]
   have z:sm A (fun x=>if isT r (A++B) x=true then cT r (m+A.length) (rm (A++B) x) else 0)=0:=jk fun a ha=>by
    refine if_neg fun t=>?_
    cases B with
    | nil=>simp at hl
    | cons b B =>
      have:=k5.mp t b (by simp)
      rw [(h a ha b (by simp)).1] at this
      cases this
   rw [z,jM]
   refine cE fun b hb=>?_
   have e:isT r (A++B) b=isT r B b:=by
    rw [ce,k5,k5]
    constructor
    ·intro t o ho;exact t o (aW _ ho)
    ·intro t o ho
     rcases aA.mp ho with w | w
     ·exact (h o w b hb).2
     ·exact t o w
   rw [e,ss,zB (fun w=>dj b w hb)]
   by_cases t:isT r B b=true
   ·rw [if_pos t,if_pos t]
    exact vK hA m (rm B b) (CT nB b) (y6 nB hb hl) (fun a ha w=>dj a ha (iZ.mp w).1) fun a ha c hc=>h a ha c (iZ.mp hc).1
   ·rw [if_neg t,if_neg t,gk]
end GE
namespace GE
open PySem L2 Ry G G3 GW GH
theorem EV {A B:List Int} {b:Int} (nd:(A++b::B).Nodup):rm (A++b::B) b=A++B:=by
 have h:=bj.mp nd
 rw [ss,zB fun w=>h.2.2 b w b am rfl]
 show A++List.filter _ (b::B)=_
 rw [gy (by simp)]
 show A++rm B b=_
 rw [zB (bi.mp h.2.1).1]
theorem v7 (f:List Int->Int):∀ (B A:List Int),(A++B).Nodup->sm (rgI (A.length:Int) B.length) (fun i=>f ((A++B).eraseIdx i.toNat))=sm B fun x=>f (rm (A++B) x)
 | [],A,_=>rfl
 | b::B,A,nd=>by
   have ih:=v7 f B (A++[b]) (by simpa using nd)
   rw [aO,bB,fz,List.singleton_append] at ih
   show sm ((A.length:Int)::rgI ((A.length:Int)+1) B.length) _=_
   have e:(A++b::B).eraseIdx ((A.length:Nat):Int).toNat=A++B:=by
    rw [gS,List.eraseIdx_append_of_length_le (az _),Nat.sub_self];rfl
   rw [dM,dM,show ((A.length:Int)+1)=((A.length+1:Nat):Int) by lia,ih,EV nd,e]
noncomputable def rl (L:List PI) (a b:Int):Bool:=decide ((a,b)∈L)
theorem GC {n:Int} {L:List PI} (Y:Yd n L):∀ (k:Nat) (H:List Int),H.Nodup->H.length=k->hdB L H=true->wL (hdB L) H=cT (rl L) k H
 | 0,H,_,hl,hp=>by
   rw [eP] at hl
   subst hl
   rfl
 | k+1,H,nd,hl,hp=>by
   rw [C8 hp (by intro z;subst z;simp at hl)]
   have h:=v7 (wL (hdB L)) H [] (by simpa using nd)
   simp only [List.nil_append,cK,Int.natCast_zero] at h
   rw [h]
   show _=sm H fun x=>if isT (rl L) H x=true then cT (rl L) k (rm H x) else 0
   refine cE fun x hx=>?_
   by_cases ht:isT (rl L) H x=true
   ·rw [if_pos ht]
    refine GC Y k (rm H x) (CT nd x) (y6 nd hx hl) (k6.mpr fun y hy a ha=>iZ.mpr ⟨k6.mp hp y (iZ.mp hy).1 a ha,fun e=>?_⟩)
    subst e
    have:=k5.mp ht y (iZ.mp hy).1
    rw [rl,decide_eq_false_iff_not] at this
    exact this ha
   ·rw [if_neg ht]
    refine Hf ?_
    cases q:hdB L (rm H x) with
    | false=>rfl
    | true =>
      refine absurd (k5.mpr fun o ho=>?_) ht
      rw [rl,decide_eq_false_iff_not]
      intro hxo
      have ne:o≠x:=fun e=>Y.irr x (e▸hxo)
      exact (iZ.mp (k6.mp q o (iZ.mpr ⟨ho,ne⟩) x hxo)).2 rfl
theorem qQ {n:Int} {L:List PI} (Y:Yd n L) (h0:0<=n) (h5:Nh n L) (hl:L.length<=1000):fn_lines [dY n L]=some (.int (cT (rl L) n.toNat (rgI 0 n.toNat))):=by
 rw [Cp Y h0 h5 hl,GC Y n.toNat _ (fP _ _) (eA _ _) (k6.mpr fun x _ a ha=>?_)]
 have:=(Y.rg _ ha).1
 dsimp only at this
 exact fE.mpr (by lia)
theorem JC:Ms.Lin HT.lexLt:=⟨j7,nG,nZ⟩
theorem Ap:∀ ts:List (List Int),n6 (ts.map dT)=some ts
 | []=>rfl
 | t::ts=>by
   show (match gs (t.map Da.int),n6 (ts.map dT) with | some ns,some ts=>some (ns::ts) | _,_=>none)=_
   rw [gq,Ap ts]
theorem GY {ts:List (List Int)} (h:OkN ts):BV (ts.map dT)=some ((Ms.srt HT.lexLt ts).map dT):=by
 unfold BV
 rw [Ap]
 dsimp only
 rw [if_pos h]
 rfl
theorem HU {S:List PI} (h:OkN S):BV (S.map dP)=some ((Ms.srt Ms.ltP S).map dP):=by
 unfold BV
 rw [uq]
 dsimp only
 rw [if_pos (Im h),Ms.srt_map (lt:=Ms.ltP) (fun a b=>zC a b),aQ]
 rfl
theorem DY {ts us:List (List Int)} (h1:ts.Nodup) (h2:us.Nodup) (h:∀ t,t∈ts↔t∈us):Ms.srt HT.lexLt ts=Ms.srt HT.lexLt us :=
 Ms.strict_ext JC (Ms.srt_strict JC h1) (Ms.srt_strict JC h2) fun t=>by rw [(Ms.srt_perm _).mem_iff,(Ms.srt_perm _).mem_iff,h]
theorem Jo {R:List Int} (nd:R.Nodup) {b:Int} (hb:b∈R) (f:Int->Int):sm R (fun s=>f s*dl s b)=f b:=by
 rw [mD (a:=b) nd hb fun x _ hx=>by unfold dl;rw [if_neg hx,gk]]
 unfold dl
 rw [if_pos rfl,ik]
theorem HE {R:List Int} (nd:R.Nodup) {a:Int} (ha:a∈R) (f:Int->Int):sm R (fun s=>dl a s*f s)=f a:=by
 rw [mD (a:=a) nd ha fun x _ hx=>by unfold dl;rw [if_neg (Ne.symm hx),jN]]
 unfold dl
 rw [if_pos rfl,kL]
theorem Ee {R:List Int} (nd:R.Nodup) {z w v:Int->Int->Int} (hl:∀ a∈R,∀ t∈R,sm R (fun s=>w a s*z s t)=dl a t) (hr:∀ a∈R,∀ b∈R,sm R (fun t=>z a t*v t b)=dl a b) {a b:Int} (ha:a∈R) (hb:b∈R):w a b=v a b:=by
 have e1:w a b=sm R fun s=>w a s*sm R fun t=>z s t*v t b:=by
  rw [<- Jo nd hb (w a)]
  exact cE fun s hs=>by rw [hr s hs b hb]
 have e2:(sm R fun s=>w a s*sm R fun t=>z s t*v t b)=sm R fun t=>sm R fun s=>w a s*z s t*v t b:=by
  rw [qv]
  exact cE fun s _=>by rw [<- nD];exact cE fun t _=>(rO _ _ _).symm
 rw [e1,e2,<- HE nd ha fun t=>v t b]
 exact cE fun t ht=>by rw [u9 (v t b) (fun s=>w a s*z s t),hl a ha t ht]
theorem JL (n:Bool) (a b:Kd) (i j:Int):oEq n (a,.int i) (b,.int j)=some (.pu,.bl (if n then !decide (i=j) else decide (i=j))):=by
 rw [Kn]
 congr 3
theorem zU {f g:Rho->Option Rv} {ρ:Rho} {k k':Kd} {i:Int} (hf:f ρ=some (k,.int i)) (hg:g ρ=some (k',.int i)):tb (x2 (oEq true) f g) ρ=some false:=by
 rw [Kx,uI,hf,hg]
 dsimp only
 rw [JL,decide_eq_true rfl]
 rfl
theorem pQ {f:Rho->Option Rv} {ρ:Rho} {k:Kd} {ds:List Da} (hf:f ρ=some (k,.tup ds)):xB oE (aH f bU) ρ=some (.pu,.int (ds.length:Int)):=by
 rw [uM,cP,hf,eK]
 rfl
end GE
namespace Ry
open PySem PySem.Spec PyProof.Rows L2
noncomputable def spF (K:ae) (n:Nat) (fn:List Da->Option Da):Sp:=fun vs H Q _=>∃ G ds d,ds.length=n/\cG G H/\Tbs K G/\cD K G ds vs/\fn ds=some d/\∀ v G' H',Ext G H G' H'->gv K H H G' H' (.fr,d) v->Q v H'
noncomputable def pK (fn:List Da->Option Da) (g:Rho->Option (List Rv)):Rho->Option Rv:=fun ρ=>match g ρ with
 | none=>none
 | some rs=>match ji rs with
   | none=>none
   | some ds=>match fn ds with
     | none=>none
     | some d=>some (.fr,d)
noncomputable def Jl (n:Nat) (g:Rho->Res) (f:Rho->Option Rv) (ds:List Da):Option Da:=match g (ff n ds) with
 | .nx ρ=>match f ρ with
   | some (.fr,d)=>some d
   | _=>none
 | _=>none
noncomputable def tF (K:ae) (g:Rho->Res) (f:Rho->Option Rv):TS:=fun D σ H=>∃ B G0 G ρ ρ' d,Ext G0 B G H/\hZ K B G H σ ρ/\g ρ=.nx ρ'/\f ρ'=some (.fr,d)/\∀ v G' H',Ext G0 B G' H'->gv K B B G' H' (.fr,d) v->D.rt v H'
theorem xw {X:Cx} {st:cq} {e:aR} {pos:d4} {g:Rho->Res} {f:Rho->Option Rv} (h1:PXS X st g) (he:PX X e f):PSs X [st,.Return (some e) pos] (tF X.K g f) :=
 PSs.imp (fQ h1 (ig (pN he))) fun D σ H ⟨B,G0,G,ρ,ρ',d,E,st,q,qf,k⟩=>⟨B,G0,G,ρ,E,st,by
  rw [q]
  exact fun σ' G' H' E' s' st'=>⟨B,G',ρ',(.fr,d),E'.gh,E'.hh,st',qf,fun v G1 H1 E1 r1=>k v G1 H1 (E'.trans E1) (r1.base E'.hh)⟩⟩
theorem Fo {P:bh} {w:bT} {K:ae} {mg:bv->Option ag} {base:b9} {x qual:bv} {st:cq} {f:au} {fd:cJ} {N ps:List bv} {k n:Nat} {g:Rho->Res} {fr:Rho->Option Rv} (F:Fun K x qual st f fd) (S:fX N ps (bn st)) (hn:ps.length=n)
 (hbody:∀ (cdv:ag) (A:bE) (outer:List m8) (s:ai) (H:Hp) (E:XK),iz k (A.deeper (dR qual (bn st) s.heap.objs.size f cdv))->PSs (rV CX0 P w K mg base N qual (bn st) f cdv A outer s H E).nox (dZ st) (tF K g fr)) :
 rH P w K mg base CX0 (k+1) f fd ps (spF K n (Jl N.length g fr)):=by
 refine F.ok S (fun vs H Q E ⟨G,ds,d,hl,sg,_,dl,_⟩=>by rw [dl.length,hl,hn]) fun cdv A outer s H vs Q E hr ⟨G,ds,d,hl,sg,tg,dl,ef,k⟩=>?_
 unfold Jl at ef
 split at ef
 ·rename_i ρ q
  split at ef
  ·rename_i d' q2
   cases ef
   exact ⟨_,hbody cdv A outer s H E hr,H,G,G,ff N.length ds,ρ,d,Ext.refl sg,rn tg dl,q,q2,fun v G' H' E' r=>k v G' H' E' r⟩
  ·cases ef
 ·cases ef
structure CaF (P:bh) (w:bT) (K:ae) (mg:bv->Option ag) (base:b9) (x:bv) (ps:List bv) (k n:Nat) (fn:List Da->Option Da):Prop where
 ex:∃ (a:au) (fd:cJ),mg x=some (.ref a)/\eI K (.ref a)=true/\o5 K fd ps []/\rH P w K mg base CX0 k a fd ps (spF K n fn)
theorem BL {X:Cx} {k n:Nat} {ps:List bv} {fn:List Da->Option Da} {x:bv} {p pos:d4} {e:aR} {es:List aR} {g:Rho->Option (List Rv)} (C:CaF X.prog X.w X.K X.mg X.base x ps k n fn) (hr:iz k X.A) (hg:Gl X x) (ha:PXA X (e::es) g) (hlen:∀ ρ rs,g ρ=some rs->rs.length=n)
 (hdb:(x == ("__debug__" : bv))=false:=by decide) (he:ao (e::es) X.env=(false,bL e X.env)::ao es X.env:=by exact bD rfl) (hpl:(bZ pos (ao es X.env)).any (·.1)=false:=by rfl):PX X (.Call (.Name x p) (e::es) [] pos) (pK fn g):=by
 obtain ⟨a,fd,hm,hk,hb,F⟩:=C.ex
 refine PE.imp (qd F hr hg hm hk hb .nil CO ha hdb he hpl) fun σ H Q ⟨B,G,ρ,r,sg,sb,st,e,kk⟩=>?_
 unfold pK at e
 split at e
 ·cases e
 ·rename_i rs er
  split at e
  ·cases e
  ·rename_i ds ed
   split at e
   ·cases e
   ·rename_i d ef
    cases e
    refine ⟨B,G,ρ,rs,sg,sb,st,er,fun vs G1 H1 E1 r1=>?_⟩
    obtain ⟨G2,E2,s12,d2⟩:=r1.pure E1 ed
    exact ⟨G2,ds,d,by rw [nY ed];exact hlen ρ rs er,E2.gh,st.tg.mono E2.gg,by rw [cC];exact d2,ef,fun v G3 H3 E3 r3=>kk v G3 H3 (E2.trans E3) (gv.base (B:=H1) r3 E2.hh)⟩
end Ry
namespace G15
open PySem L2 Ry G GW GH GF GT
noncomputable def g_yard_of:Rho->Res:=(fj (lA (aH (aY 0) (aH (xB fV (aH (xB gn (aH (aY 1) bU)) bU)) bU))))
noncomputable def fn_yard_of:List Da->Option Da:=iQ 2 g_yard_of
noncomputable def g_pairs_of_both:Rho->Res:=(j9 2 (x2 oIt (aY 0) (xC (.int 0))))
noncomputable def f_pairs_of_both:Rho->Option Rv:=(x2 gW (xB mq (aH (x2 oIt (aY 0) (xC (.int 1))) bU)) (fK [none,none,none,some 2] (c4 (jb (x2 oIt (aY 1) (xC (.int 1))))) (tgT 2 (gE (tgN 1) (gE (tgN 2) mV))) (fun _=>some true) (lA (aH (x2 gW (aY 3) (aY 1)) (aH (x2 gW (aY 3) (aY 2)) bU)))))
noncomputable def fn_pairs_of_both:List Da->Option Da:=Jl 3 g_pairs_of_both f_pairs_of_both
noncomputable def g_above:Rho->Res:=(gw (j9 2 (x2 gW (x2 oIt (aY 0) (xC (.int 0))) (x2 oIt (aY 1) (xC (.int 0)))))
 (gw (wQ 3 (pK fn_pairs_of_both (aH (aY 0) (aH (aY 1) bU))))
 (gw (oC (k3 (aH (x2 oIt (aY 0) (xC (.int 0))) bU)) (tgN 4)
 (kO 3 (fK [none,none,some 4] (Dn (aH (x2 oIt (aY 0) (xC (.int 0))) (aH (aY 2) bU))) (tgN 1) (fun _=>some true) (lA (aH (aY 2) (aH (aY 1) bU))))))
 (fun ρ=>(fj (cm fn_yard_of (aH (aY 2) (aH (aY 3) bU)))) (frz 3 ρ)))))
noncomputable def fn_above:List Da->Option Da:=iQ 5 g_above
noncomputable def g__law_weights_right:Rho->Res:=(gw (j9 3 (x2 oIt (aY 0) (xC (.int 0))))
 (gw (oC (k3 (aH (aY 3) bU)) (tgN 4)
 (gw (j9 5 (xB zk (aH (fK [none,none,none,some 4,some 0] (k3 (aH (aY 3) bU)) (tgN 1) (fun _=>some true) (cm fn_weight (aH (aY 4) (aH (aY 3) (aH (aY 1) bU))))) bU)))
 (oC (k3 (aH (x2 oIt (aY 1) (xC (.int 0))) bU)) (tgN 6)
 (gw (j9 7 (xB zk (aH (fK [none,none,none,some 6,some 1] (k3 (aH (x2 oIt (aY 1) (xC (.int 0))) bU)) (tgN 1) (fun _=>some true) (cm fn_weight (aH (aY 4) (aH (aY 1) (aH (aY 3) bU))))) bU)))
 (sIf (FP (tb (x2 (oEq true) (cm fn_weight (aH (aY 2) (aH (aY 4) (aH (x2 gW (aY 3) (aY 6)) bU)))) (x2 (oI ol (·*·)) (wc (aY 5)) (aY 7)))) (tb (x2 (oEq true) (cm fn_weight (aH (aY 2) (aH (x2 gW (aY 3) (aY 6)) (aH (aY 4) bU)))) (xC (.int 0))))) (fj (xC (.bl false))) mr)))))
 (fj (xC (.bl true)))))
noncomputable def fn__law_weights_right:List Da->Option Da:=iQ 8 g__law_weights_right
noncomputable def g_law:Rho->Res:=(gw (j9 1 (cm fn__law_yard (aH (aY 0) (aH (xC (.int 0)) (aH (xC (.int 3)) bU)))))
 (gw (j9 2 (cm fn__law_yard (aH (aY 0) (aH (xC (.int 3)) (aH (xC (.int 3)) bU)))))
 (gw (j9 3 (x2 oIt (aY 1) (xC (.int 0))))
 (gw (j9 4 (cm fn_above (aH (aY 1) (aH (aY 2) bU))))
 (gw (wQ 5 (x2 gW (xB mq (aH (x2 oIt (aY 1) (xC (.int 1))) bU)) (fK [none,none,none,some 3] (c4 (jb (x2 oIt (aY 2) (xC (.int 1))))) (tgT 2 (gE (tgN 1) (gE (tgN 2) mV))) (fun _=>some true) (lA (aH (x2 gW (aY 1) (aY 3)) (aH (x2 gW (aY 2) (aY 3)) bU))))))
 (gw (oC (k3 (aH (aY 3) bU)) (tgN 6)
 (kO 5 (fK [none,none,some 6,some 3] (k3 (aH (x2 oIt (aY 2) (xC (.int 0))) bU)) (tgN 1) (fun _=>some true) (lA (aH (aY 2) (aH (x2 gW (aY 3) (aY 1)) bU))))))
 (gw (sIf (tb (x2 (oEq true) (aY 4) (lA (aH (x2 gW (aY 3) (x2 oIt (aY 2) (xC (.int 0)))) (aH (xB fV (aH (xB gH (aH (aY 5) bU)) bU)) bU))))) (fj (xC (.bl false))) mr)
 (gw (sIf (tb (x2 (oEq true) (xB oE (aH (cm fn_floors (aH (aY 4) bU)) bU)) (x2 gW (xB oE (aH (cm fn_floors (aH (aY 1) bU)) bU)) (xB oE (aH (cm fn_floors (aH (aY 2) bU)) bU))))) (fj (xC (.bl false))) mr)
 (gw (sIf (tb (x2 (oEq true) (xB oE (aH (cm fn_broadest (aH (aY 4) bU)) bU)) (xB FO (aH (xB oE (aH (cm fn_broadest (aH (aY 1) bU)) bU)) (aH (xB oE (aH (cm fn_broadest (aH (aY 2) bU)) bU)) bU))))) (fj (xC (.bl false))) mr)
 (gw (sIf (tb (x2 (oEq true) (cm fn_lines (aH (aY 4) bU)) (x2 (oI ol (·*·)) (cm fn_lines (aH (aY 1) bU)) (cm fn_lines (aH (aY 2) bU))))) (fj (xC (.bl false))) mr)
 (gw (j9 7 (x2 gW (xB mq (aH (cm fn_heads (aH (aY 1) bU)) bU)) (fK [none,none,none,none,some 3] (c4 (jb (cm fn_heads (aH (aY 2) bU)))) (tgN 1) (tTr (aY 1)) (x2 gW (gL (aH (aY 4) bU)) (xB fV (aH (fK [none,none,some 4] (c4 (jb (aY 1))) (tgN 1) (fun _=>some true) (x2 gW (aY 1) (aY 2))) bU))))))
 (fj (FQ (x2 (oEq false) (xB gH (aH (cm fn_heads (aH (aY 4) bU)) bU)) (xB gH (aH (aY 7) bU))) (cm fn__law_weights_right (aH (aY 1) (aH (aY 2) (aH (aY 4) bU)))))))))))))))))
noncomputable def fn_law:List Da->Option Da:=iQ 8 g_law
end G15
namespace Ry
open PySem PySem.Spec PyProof.Rows L2
section
variable {K:ae} {x:bv} {st:cq} {h:b9} {mg:bv->Option ag}
noncomputable abbrev FA (K:ae) (x:bv) (st:cq) (T:ag->Prop):Prop:=∃ (f:au) (oc:ag) (od an:Option au) (sl:Array (Option ag)) (kV dc pm cd ct:ag),c8 K bF x=some (some (.ref f))/\K.lookup f=some ⟨oc,od,.func (cW x x (iu st) (dZ st) (bn st) .none kV dc pm an cd ct),sl⟩/\iq K cd x=true/\eI K (.ref f)=true/\T cd
noncomputable abbrev FD (K:ae) (x:bv) (st:cq):Prop:=FA K x st fun _=>True
noncomputable abbrev FT (K:ae) (x:bv) (st:cq):Prop:=FA K x st fun cd=>uu K cd x=true
theorem fa_mk {T:ag->Prop} {f:au} {oc:ag} {od an:Option au} {sl:Array (Option ag)} {kV dc pm cd ct:ag} (a:c8 K bF x=some (some (.ref f))) (l:K.lookup f=some ⟨oc,od,.func (cW x x (iu st) (dZ st) (bn st) .none kV dc pm an cd ct),sl⟩) (c:iq K cd x=true) (k:eI K (.ref f)=true) (t:T cd):FA K x st T:=⟨_,_,_,_,_,_,_,_,_,_,a,l,c,k,t⟩
theorem eR (X:K.In h) (Gm:h.Ns bF mg) (z:FD K x st):dQ K mg x st :=
 let ⟨_,_,_,_,_,_,_,_,_,_,a,l,c,k,_⟩:=z;⟨_,_,zp (st:=st) l c k,oR X Gm a⟩
theorem Dk (X:K.In h) (Gm:h.Ns bF mg) (z:FT K x st):mh K mg x st :=
 let ⟨_,_,_,_,_,_,_,_,_,_,a,l,c,k,m⟩:=z;E9 (zp (st:=st) l c k) (oR X Gm a) m
end
theorem Bs {X:Cx} {k n:Nat} {ps:List bv} {fn:List Da->Option Da} {x:bv} {p pos:d4} {e:aR} {es:List aR} {g:Rho->Option (List Rv)} (C:CaF X.prog X.w X.K X.mg X.base x ps k n fn) (hr:iz k X.A) (hg:Gl X x) (ha:QXA X (e::es) g) (hlen:∀ ρ rs,g ρ=some rs->rs.length=n)
 (hdb:(x == ("__debug__" : bv))=false:=by decide) (he:ao (e::es) X.env=(false,bL e X.env)::ao es X.env:=by exact bD rfl) (hpl:(bZ pos (ao es X.env)).any (·.1)=false:=by rfl):QX X (.Call (.Name x p) (e::es) [] pos) (pK fn g):=QX.mk (BL C hr hg ha.out hlen hdb he hpl)
section
variable {P:bh} {w:bT} {K:ae} {mg:bv->Option ag} {base:b9} {x:bv} {st s1:cq} {e:aR} {pos:d4} {N ps:List bv} {k n:Nat} {g:Rho->Res} {fr:Rho->Option Rv}
theorem JN (hf:dQ K mg x st) (S:fX N ps (bn st)) (hn:ps.length=n)
 (hbind:∀ (kV doc pm:ag) (an:Option au) (cdv ct:ag) (us:List ag),us.length=ps.length->iD (cW x x (iu st) (dZ st) (bn st) .none kV doc pm an cdv ct) ⟨us,[]⟩=pure (ps.zip us)) (eb:dZ st=[s1,.Return (some e) pos])
 (h:∀ (f:au) (cdv:ag) (A:bE) (outer:List m8) (s:ai) (H:Hp) (E:XK),iz k (A.deeper (dR x (bn st) s.heap.objs.size f cdv))->(A.deeper (dR x (bn st) s.heap.objs.size f cdv)).units+64<cg->(A.deeper (dR x (bn st) s.heap.objs.size f cdv)).units+1<cg->N.Nodup->QXS (rV CX0 P w K mg base N x (bn st) f cdv A outer s H E).nox s1 g/\QX (rV CX0 P w K mg base N x (bn st) f cdv A outer s H E).nox e fr) :
 CaF P w K mg base x ps (k+1) n (Jl N.length g fr):=by
 obtain ⟨a,fd,F,hm⟩:=hf
 refine ⟨a,fd,hm,F.kp,F.binds hbind,Fo F S hn fun cdv A outer s H E hr=>?_⟩
 rw [eb]
 obtain ⟨q1,q2⟩:=h a cdv A outer s H E hr hr.units (oT hr) S.nd
 exact xw q1.out q2.out
end
end Ry
set_option maxHeartbeats 8000000
namespace C
open PySem PySem.Spec PyProof.Rows L2 Ry
noncomputable def top (i:Nat):cq:=PySem.Challenge.pw_rankyard_k15_whole_one_on_top_of_the_oth.main.body.getD i (.Pass ⟨0,0,0,0⟩)
noncomputable abbrev n9:cq:=top 1
noncomputable abbrev iw:cq:=top 2
noncomputable abbrev uW:cq:=top 3
noncomputable abbrev jn:cq:=top 5
noncomputable abbrev kU:cq:=top 6
noncomputable abbrev nR:cq:=top 7
noncomputable abbrev k4:cq:=top 9
noncomputable abbrev uJ:cq:=top 10
noncomputable abbrev jV:cq:=top 12
noncomputable abbrev uL:cq:=top 13
noncomputable abbrev jX:cq:=top 15
noncomputable abbrev qa:cq:=top 16
noncomputable abbrev qW:cq:=top 17
noncomputable abbrev hJ:cq:=top 19
noncomputable abbrev ki:cq:=top 20
noncomputable abbrev jP:cq:=top 21
noncomputable abbrev qM:cq:=top 22
noncomputable abbrev iy:cq:=top 23
noncomputable abbrev fD:cq:=top 24
noncomputable abbrev mf:cq:=top 25
noncomputable abbrev iN:cq:=top 27
noncomputable abbrev qO:cq:=top 28
noncomputable abbrev kN:cq:=top 30
noncomputable abbrev mj:cq:=top 31
noncomputable abbrev gY:cq:=top 32
noncomputable abbrev mn:cq:=top 33
noncomputable abbrev k7:cq:=top 34
noncomputable abbrev f6:cq:=top 35
noncomputable abbrev B7:cq:=top 36
structure Zs (mg:bv->Option ag):Prop where
 «all» : mg "all" = none
 «any» : mg "any" = none
 «dict» : mg "dict" = none
 «len» : mg "len" = none
 «list» : mg "list" = none
 «max» : mg "max" = none
 «range» : mg "range" = none
 «sorted» : mg "sorted" = none
 «sum» : mg "sum" = none
 «tuple» : mg "tuple" = none
section
variable {P:bh} {w:bT} {K:ae} {mg:bv->Option ag} {base:b9}
theorem w4 (hf:dQ K mg "yard_of" n9) (Z:Zs mg)  : Ca P w K mg base "yard_of" ["count","pairs"] 1 2 G15.fn_yard_of:=oW (k:=0) (N:=["count","pairs"]) (g:=G15.g_yard_of) hf ⟨rfl,rfl,rfl,by decide +kernel,rfl,by decide +kernel,by decide +kernel⟩ rfl (fun _ _ _ _ _ _ us hl=>match us,hl with | [_,_],_=>rfl) fun _ _ _ _ _ _ _ hr hu hu1 nd =>
 (bM (ck (hO (ak (aw 0) (ak (gF rfl Z.tuple (ak (jR rfl rfl Z.sorted (ak (aw 1) aI)) aI)) aI)))))
theorem mT (hf:dQ K mg "pairs_of_both" iw) (Z:Zs mg)  : CaF P w K mg base "pairs_of_both" ["one","other"] 1 2 G15.fn_pairs_of_both:=JN (k:=0) (N:=["one","other","count"]) (g:=G15.g_pairs_of_both) (fr:=G15.f_pairs_of_both) hf ⟨rfl,rfl,rfl,by decide +kernel,rfl,by decide +kernel,by decide +kernel⟩ rfl (fun _ _ _ _ _ _ us hl=>match us,hl with | [_,_],_=>rfl) rfl fun _ _ _ _ _ _ _ hr hu hu1 nd =>
 ⟨(cO (i:=2) nd (cn hu1 (aw 0) b7)),(eJ (qN rfl Z.list (ak (cn hu1 (aw 0) b7) aI)) (eF rfl (e9 (ix:=[none,none,none,some 2]) rfl (by decide +kernel) rfl rfl) (eV (fW (cn hu1 (aw 1) b7))) ⟨fun _ _ _=>(qR rfl (iJ (bS (i:=1) (cnd (by decide +kernel))) (iJ (bS (i:=2) (cnd (by decide +kernel))) qG))),fun _ _ _=>fY,fun _ _ _=>(hO (ak (eJ (aw 3) (aw 1)) (ak (eJ (aw 3) (aw 2)) aI)))⟩))⟩
theorem CB (hf:dQ K mg "above" uW) (Z:Zs mg) (C_pairs_of_both:CaF P w K mg base "pairs_of_both" ["one","other"] 1 2 G15.fn_pairs_of_both) (C_yard_of:Ca P w K mg base "yard_of" ["count","pairs"] 1 2 G15.fn_yard_of):Ca P w K mg base "above" ["one","other"] 2 2 G15.fn_above:=oW (k:=1) (N:=["one","other","count","pairs","under"]) (g:=G15.g_above) hf ⟨rfl,rfl,rfl,by decide +kernel,rfl,by decide +kernel,by decide +kernel⟩ rfl (fun _ _ _ _ _ _ us hl=>match us,hl with | [_,_],_=>rfl) fun _ _ _ _ _ _ _ hr hu hu1 nd =>
 (bp (cO (i:=2) nd (eJ (cn hu1 (aw 0) b7) (cn hu1 (aw 1) b7)))
   (bp (jh (i:=3) nd (Bs C_pairs_of_both (hr.mono (by decide)) rfl (ak (aw 0) (ak (aw 1) aI)) (aP (aP bK))))
   (bp (gA bA rfl (dF rfl Z.range (ak (cn hu1 (aw 0) b7) aI)) (bS (i:=4) nd)
   (bM (pV (i:=3) (eF rfl (e9 (ix:=[none,none,some 4]) rfl (by decide +kernel) rfl rfl) (pG rfl Z.range (ak (cn hu1 (aw 0) b7) (ak (aw 2) aI))) ⟨fun _ _ _=>(bS (i:=1) (cnd (by decide +kernel))),fun _ _ _=>fY,fun _ _ _=>(hO (ak (aw 2) (ak (aw 1) aI)))⟩))))
   (bM (Ah 3 (ck (bw C_yard_of (hr.mono (by decide)) rfl (ak (aw 2) (ak (aw 3) aI)) (aP (aP bK)))))))))
theorem mE:fX ["pairs","uppers","under","over"] ["pairs"] (bn jn):=⟨rfl,rfl,rfl,by decide +kernel,rfl,by decide +kernel,by decide +kernel⟩
theorem sX (hf:dQ K mg "uppers_of" jn):Ca P w K mg base "uppers_of" ["pairs"] 1 1 Ry.fn_uppers_of:=by
 obtain ⟨a,fd,F,hm⟩:=hf
 refine ⟨a,fd,hm,F.kp,F.binds (fun _ _ _ _ _ _ us hl=>match us,hl with | [_],_=>rfl),?_⟩
 refine F.ok mE (fun vs H Q E ⟨G,ds,d,hl,sg,_,dl,_⟩=>by rw [dl.length,hl];rfl) fun cdv A outer s H vs Q E hr ⟨G,ds,d,hl,sg,tg,dl,ef,k⟩=>?_
 have hu1:_+1<cg:=oT hr
 have nd:=mE.nd
 refine ⟨_,fQ (pW (i:=1) nd rfl (cR rfl) lI)
  (fQ (vX bA rfl (uE (As (jw 0))) (DA rfl (qF (l7 (i:=2) nd rfl (cR rfl)) (qF (l7 (i:=3) nd rfl (cR rfl)) zO)))
    (fQ (Cz (yc (se hu1 (pv 2) (pv 1))) (ig (nU hu1 (pv 1) (pv 2) lI rfl)) qp)
    (ig (nU hu1 (uP hu1 (pv 1) (pv 2) (fun _ _=>rfl)) (pv 3) yZ rfl))))
  (ig (Af (pv 1)))),?_⟩
 exact uA hl sg tg dl ef k
theorem tm (hf:dQ K mg "lowers_of" kU) (Z:Zs mg) (C_uppers_of:Ca P w K mg base "uppers_of" ["pairs"] 1 1 Ry.fn_uppers_of):Ca P w K mg base "lowers_of" ["pairs"] 2 1 GW.fn_lowers_of:=oW (k:=1) (N:=["pairs"]) (g:=GW.g_lowers_of) hf ⟨rfl,rfl,rfl,by decide +kernel,rfl,by decide +kernel,by decide +kernel⟩ rfl (fun _ _ _ _ _ _ us hl=>match us,hl with | [_],_=>rfl) fun _ _ _ _ _ _ _ hr hu hu1 nd =>
 (bM (ck (bw C_uppers_of (hr.mono (by decide)) rfl (ak (eF rfl (e9 (ix:=[none,none,none]) rfl (by decide +kernel) rfl rfl) (eV (fW (aw 0))) ⟨fun _ _ _=>(qR rfl (iJ (bS (i:=1) (cnd (by decide +kernel))) (iJ (bS (i:=2) (cnd (by decide +kernel))) qG))),fun _ _ _=>fY,fun _ _ _=>(hO (ak (aw 2) (ak (aw 1) aI)))⟩) aI) (aP bK))))
theorem xg (hf:mh K mg "upwards" nR) (hK:K.In base) (hB:Bm mg base) (Z:Zs mg)  : Ca P w K mg base "upwards" ["count","lowers"] 5 2 GW.fn_upwards:=Gn (k:=4) (N:=["count","lowers"]) (g:=GW.g_upwards) hf hK hB ⟨rfl,rfl,rfl,by decide +kernel,rfl,by decide +kernel,by decide +kernel⟩ rfl (fun _ _ _ _ _ _ us hl=>match us,hl with | [_,_],_=>rfl) fun f c P1 A outer s H E hCd hTb hr hu hu1 nd =>
 (bM (ck (u4 (i0:=0) (x:="thing") rfl (hr.mono (by decide)) rfl Z.sorted rfl Z.range ⟨rfl,hCd,hTb,hB⟩ ⟨⟨e9 (ix:=[none,some 1,none]) rfl (by decide +kernel) rfl rfl,rfl,rfl,by decide +kernel,rfl⟩,rfl,fun _ _ _ _ _ _=>rfl,by
   intro q2 f2 c2 s2 H2
   refine Dq (k:=1) hr fun hr=>?_
   have hu:=hr.units
   have hu1:_+1<cg:=oT hr
   exact (El rfl Z.len (ak (kY hu1 (aw 1) (aw 0) j8) aI))⟩ (ak (aw 0) aI))))
theorem si (hf:dQ K mg "holds_all" k4) (Z:Zs mg)  : Ca P w K mg base "holds_all" ["head","things"] 1 2 GH.fn_holds_all:=oW (k:=0) (N:=["head","things"]) (g:=GH.g_holds_all) hf ⟨rfl,rfl,rfl,by decide +kernel,rfl,by decide +kernel,by decide +kernel⟩ rfl (fun _ _ _ _ _ _ us hl=>match us,hl with | [_,_],_=>rfl) fun _ _ _ _ _ _ _ hr hu hu1 nd =>
 (bM (ck (FV rfl rfl Z.all (ak (eF rfl (e9 (ix:=[none,none,some 0]) rfl (by decide +kernel) rfl rfl) (eV (fW (aw 1))) ⟨fun _ _ _=>(bS (i:=1) (cnd (by decide +kernel))),fun _ _ _=>fY,fun _ _ _=>(JG (DL hu) (aw 1) (aw 2))⟩) aI))))
theorem Bx (hf:mh K mg "heads" uJ) (hK:K.In base) (hB:Bm mg base) (Z:Zs mg) (C_holds_all:Ca P w K mg base "holds_all" ["head","things"] 1 2 GH.fn_holds_all) (C_lowers_of:Ca P w K mg base "lowers_of" ["pairs"] 2 1 GW.fn_lowers_of) (C_upwards:Ca P w K mg base "upwards" ["count","lowers"] 5 2 GW.fn_upwards):Ca P w K mg base "heads" ["yard"] 6 1 GH.fn_heads:=Gn (k:=5) (N:=["yard","lowers","found","thing","unders"]) (g:=GH.g_heads) hf hK hB ⟨rfl,rfl,rfl,by decide +kernel,rfl,by decide +kernel,by decide +kernel⟩ rfl (fun _ _ _ _ _ _ us hl=>match us,hl with | [_],_=>rfl) fun f c P1 A outer s H E hCd hTb hr hu hu1 nd =>
 (bp (cO (i:=1) nd (bw C_lowers_of (hr.mono (by decide)) rfl (ak (cn hu1 (aw 0) b7) aI) (aP bK)))
   (bp (cO (i:=2) nd (tH (ak (hO aI) aI)))
   (bp (gA bA rfl (eV (fW (bw C_upwards (hr.mono (by decide)) rfl (ak (cn hu1 (aw 0) b7) (ak (aw 1) aI)) (aP (aP bK))))) (bS (i:=3) nd)
   (bp (cO (i:=4) nd (fW (kY hu1 (aw 1) (aw 3) j8)))
   (bM (cO (i:=2) nd (eJ (aw 2) (eF rfl (e9 (ix:=[none,none,none,none,none,some 3,some 4]) rfl (by decide +kernel) rfl rfl) (eV (fW (aw 2))) ⟨fun _ _ _=>(bS (i:=1) (cnd (by decide +kernel))),fun _ _ _=>(n5 (sH (bw C_holds_all (hr.mono (by decide)) rfl (ak (aw 1) (ak (aw 6) aI)) (aP (aP bK))))),fun _ _ _=>(gF rfl Z.tuple (ak (jR rfl rfl Z.sorted (ak (eJ (aw 1) (hO (ak (aw 5) aI))) aI)) aI))⟩))))))
   (bM (ck (gF rfl Z.tuple (ak (u6 (i0:=0) (x:="head") rfl (hr.mono (by decide)) rfl Z.sorted ⟨rfl,hCd,hTb,hB⟩ ⟨⟨e9 (ix:=[none,none]) rfl (by decide +kernel) rfl rfl,rfl,rfl,by decide +kernel,rfl⟩,rfl,fun _ _ _ _ _ _=>rfl,by
     intro q2 f2 c2 s2 H2
     refine Dq (k:=2) hr fun hr=>?_
     have hu:=hr.units
     have hu1:_+1<cg:=oT hr
     exact (hO (ak (kD rfl Z.len (ak (aw 0) aI)) (ak (aw 0) aI)))⟩ (aw 2)) aI)))))))
theorem ri (hf:dQ K mg "ways_up_to" jV) (Z:Zs mg)  : Ca P w K mg base "ways_up_to" ["ways","head"] 1 2 GH.fn_ways_up_to:=oW (k:=0) (N:=["ways","head"]) (g:=GH.g_ways_up_to) hf ⟨rfl,rfl,rfl,by decide +kernel,rfl,by decide +kernel,by decide +kernel⟩ rfl (fun _ _ _ _ _ _ us hl=>match us,hl with | [_,_],_=>rfl) fun _ _ _ _ _ _ _ hr hu hu1 nd =>
 (bM (ck (vn rfl rfl Z.sum (ak (eF rfl (e9 (ix:=[none,none,some 1,some 0]) rfl (by decide +kernel) rfl rfl) (dF rfl Z.range (ak (kD rfl Z.len (ak (aw 1) aI)) aI)) ⟨fun _ _ _=>(bS (i:=1) (cnd (by decide +kernel))),fun _ _ _=>fY,fun _ _ _=>(kY hu1 (aw 3) (eJ (qo (aw 2) qy (rf (aw 1))) (qo (aw 2) (rf (eJ (aw 1) b7)) qy)) b7)⟩) aI))))
theorem BJ (hf:dQ K mg "lines" uL) (Z:Zs mg) (C_heads:Ca P w K mg base "heads" ["yard"] 6 1 GH.fn_heads) (C_ways_up_to:Ca P w K mg base "ways_up_to" ["ways","head"] 1 2 GH.fn_ways_up_to):Ca P w K mg base "lines" ["yard"] 7 1 GH.fn_lines:=oW (k:=6) (N:=["yard","ways","head"]) (g:=GH.g_lines) hf ⟨rfl,rfl,rfl,by decide +kernel,rfl,by decide +kernel,by decide +kernel⟩ rfl (fun _ _ _ _ _ _ us hl=>match us,hl with | [_],_=>rfl) fun _ _ _ _ _ _ _ hr hu hu1 nd =>
 (bp (jh (i:=1) nd (AB hu1 (hO aI) b7))
   (bp (gA bA rfl (eV (fW (bw C_heads (hr.mono (by decide)) rfl (ak (aw 0) aI) (aP bK)))) (bS (i:=2) nd)
   (bM (kB (sH (aw 2)) (bM (ny (i:=1) hu (aw 2) (EU 1 (bw C_ways_up_to (hr.mono (by decide)) rfl (ak (aw 1) (ak (aw 2) aI)) (aP (aP bK)))))) iO)))
   (bM (ck (cn hu1 (aw 1) (om rfl Z.tuple rfl Z.range (ak (cn hu1 (aw 0) b7) aI)))))))
theorem qS (hf:dQ K mg "heights_of" jX) (Z:Zs mg) (C_upwards:Ca P w K mg base "upwards" ["count","lowers"] 5 2 GW.fn_upwards):Ca P w K mg base "heights_of" ["count","lowers"] 6 2 GF.fn_heights_of:=oW (k:=5) (N:=["count","lowers","heights","thing"]) (g:=GF.g_heights_of) hf ⟨rfl,rfl,rfl,by decide +kernel,rfl,by decide +kernel,by decide +kernel⟩ rfl (fun _ _ _ _ _ _ us hl=>match us,hl with | [_,_],_=>rfl) fun _ _ _ _ _ _ _ hr hu hu1 nd =>
 (bp (jh (i:=2) nd j8)
   (bp (gA bA rfl (eV (fW (bw C_upwards (hr.mono (by decide)) rfl (ak (aw 0) (ak (aw 1) aI)) (aP (aP bK))))) (bS (i:=3) nd)
   (bM (ny (i:=2) hu (aw 3) (eJ b7 (Ea rfl rfl Z.max (BK 2 (eF rfl (e9 (ix:=[none,none,some 2]) rfl (by decide +kernel) rfl rfl) (eV (fW (kY hu1 (aw 1) (aw 3) j8))) ⟨fun _ _ _=>(bS (i:=1) (cnd (by decide +kernel))),fun _ _ _=>fY,fun _ _ _=>(cn hu1 (aw 2) (aw 1))⟩)) (lB b7))))))
   (bM (ck (aw 2)))))
theorem zn (hf:dQ K mg "row_at" qa) (Z:Zs mg)  : Ca P w K mg base "row_at" ["heights","height"] 1 2 GF.fn_row_at:=oW (k:=0) (N:=["heights","height"]) (g:=GF.g_row_at) hf ⟨rfl,rfl,rfl,by decide +kernel,rfl,by decide +kernel,by decide +kernel⟩ rfl (fun _ _ _ _ _ _ us hl=>match us,hl with | [_,_],_=>rfl) fun _ _ _ _ _ _ _ hr hu hu1 nd =>
 (bM (ck (gF rfl Z.tuple (ak (eF rfl (e9 (ix:=[none,none,some 1,some 0]) rfl (by decide +kernel) rfl rfl) (eV (fW (jR rfl rfl Z.sorted (ak (aw 0) aI)))) ⟨fun _ _ _=>(bS (i:=1) (cnd (by decide +kernel))),fun _ _ _=>(n5 (kr (Ks hu) (cn hu1 (aw 3) (aw 1)) (aw 2))),fun _ _ _=>(aw 1)⟩) aI))))
theorem Ac (hf:dQ K mg "floors" qW) (Z:Zs mg) (C_heights_of:Ca P w K mg base "heights_of" ["count","lowers"] 6 2 GF.fn_heights_of) (C_lowers_of:Ca P w K mg base "lowers_of" ["pairs"] 2 1 GW.fn_lowers_of) (C_row_at:Ca P w K mg base "row_at" ["heights","height"] 1 2 GF.fn_row_at):Ca P w K mg base "floors" ["yard"] 7 1 GF.fn_floors:=oW (k:=6) (N:=["yard","heights","rows","row"]) (g:=GF.g_floors) hf ⟨rfl,rfl,rfl,by decide +kernel,rfl,by decide +kernel,by decide +kernel⟩ rfl (fun _ _ _ _ _ _ us hl=>match us,hl with | [_],_=>rfl) fun _ _ _ _ _ _ _ hr hu hu1 nd =>
 (bp (cO (i:=1) nd (bw C_heights_of (hr.mono (by decide)) rfl (ak (cn hu1 (aw 0) b7) (ak (bw C_lowers_of (hr.mono (by decide)) rfl (ak (cn hu1 (aw 0) b7) aI) (aP bK)) aI)) (aP (aP bK))))
   (bp (jh (i:=2) nd (tH aI))
   (bp (cO (i:=3) nd (bw C_row_at (hr.mono (by decide)) rfl (ak (aw 1) (ak b7 aI)) (aP (aP bK))))
   (bp (nJ 200 bA (sH (aw 3))
   (bp (ml (i:=2) (aw 3))
   (bM (cO (i:=3) nd (bw C_row_at (hr.mono (by decide)) rfl (ak (aw 1) (ak (kD rfl Z.len (ak (aw 2) aI)) aI)) (aP (aP bK)))))))
   (bM (ck (gF rfl Z.tuple (ak (aw 2) aI))))))))
theorem lq:fX ["uppers","thing","under_of","asked","upper"] ["uppers","thing","under_of","asked"] (bn hJ):=⟨rfl,rfl,rfl,by decide +kernel,rfl,by decide +kernel,by decide +kernel⟩
theorem lG {a:au} {fd:cJ} (F:Fun K "take_upper" "take_upper" hJ a fd) (hm:mg "take_upper" = some (.ref a)):∀ k:Nat,rH P w K mg base CX0 k a fd ["uppers","thing","under_of","asked"] (GT.spT K k)
 | 0=>⟨fun vs H Q E h=>by obtain ⟨_,_,_,_,_,_,_,_,_,_,_,_,rfl,_⟩:=h;rfl,fun A outer s H args us vs Q E hr he hb hv h=>by obtain ⟨_,_,_,_,_,_,_,_,_,_,_,_,_,_,_,_,_,_,_,_,_,e,_⟩:=h;cases e⟩
 | k+1=>by
   have ih:=lG F hm k
   have hb:o5 K fd ["uppers","thing","under_of","asked"] []:=F.binds (fun _ _ _ _ _ _ us hl=>match us,hl with | [_,_,_,_],_=>rfl)
   refine F.ok lq (fun vs H Q E h=>by obtain ⟨_,_,_,_,_,_,_,_,_,_,_,_,rfl,_⟩:=h;rfl) fun cdv A outer s H vs Q E hr h=>?_
   have hu1:_+1<cg:=oT hr
   have nd:=lq.nd
   refine ⟨_,fQ (vX bA rfl (uE (As (yn hu1 (jw 0) (jw 1) vM))) (l7 (i:=4) nd rfl (cR rfl))
    (fQ (Cz (yc (G8 hu1 (pv 4) (pv 3))) (ig uV) qp)
    (fQ (nU hu1 (pv 3) (pv 4) yZ rfl)
    (ig (Cz (PW.pt (Gz (yc (se hu1 (pv 4) (pv 2))) (Dx (Id (qd ih hr rfl hm F.kp hb .nil CO (e6 (pv 0) (e6 (uP hu1 (pv 2) (pv 4) (fun _ _=>rfl)) (e6 (pv 2) (e6 (pv 3) jx)))))))))
      (fQ (nU hu1 (pv 2) (pv 4) (pv 1) rfl) (ig (pN yZ))) qp)))))
    (ig (pN yZ)),?_⟩
   exact GT.take_read h
theorem oe:fX ["yard","uppers","under_of","thing"] ["yard"] (bn ki):=⟨rfl,rfl,rfl,by decide +kernel,rfl,by decide +kernel,by decide +kernel⟩
theorem u5 (hf:dQ K mg "steps_of" ki) (ht:dQ K mg "take_upper" hJ) (Z:Zs mg) (C_uppers_of:Ca P w K mg base "uppers_of" ["pairs"] 1 1 Ry.fn_uppers_of):Ca P w K mg base "steps_of" ["yard"] 15 1 GT.fn_steps_of:=by
 obtain ⟨a,fd,F,hm⟩:=hf
 obtain ⟨b,fb,Ft,hmt⟩:=ht
 have T:=lG (P:=P) (w:=w) (base:=base) Ft hmt 13
 have hbt:o5 K fb ["uppers","thing","under_of","asked"] []:=Ft.binds (fun _ _ _ _ _ _ us hl=>match us,hl with | [_,_,_,_],_=>rfl)
 refine ⟨a,fd,hm,F.kp,F.binds (fun _ _ _ _ _ _ us hl=>match us,hl with | [_],_=>rfl),?_⟩
 refine F.ok (k:=14) oe (fun vs H Q E ⟨G,ds,d,hl,sg,_,dl,_⟩=>by rw [dl.length,hl];rfl) fun cdv A outer s H vs Q E hr ⟨G,ds,d,hl,sg,tg,dl,ef,k⟩=>?_
 have hu1:_+1<cg:=oT hr
 have nd:=oe.nd
 refine ⟨_,fQ (pW (i:=1) nd rfl (cR rfl) (qX C_uppers_of (hr.mono (by decide)) rfl (iL (vg hu1 (jw 0) sV) l8) (aP bK)))
  (fQ (pW (i:=2) nd rfl (cR rfl) lI)
  (fQ (vX bA rfl (mi rfl Z.range (iL (vg hu1 (jw 0) sV) l8)) (l7 (i:=3) nd rfl (cR rfl))
    (ig (uK (qd T (hr.mono (by decide)) rfl hmt Ft.kp hbt .nil CO (e6 (pv 1) (e6 (pv 3) (e6 (pv 2) (e6 lI jx))))))))
  (ig (Af (pv 2))))),?_⟩
 exact GT.steps_read sg tg dl ef k
theorem qe (hf:dQ K mg "tower_from" jP) (Z:Zs mg)  : Ca P w K mg base "tower_from" ["over_of","bottom"] 1 2 GT.fn_tower_from:=oW (k:=0) (N:=["over_of","bottom","found"]) (g:=GT.g_tower_from) hf ⟨rfl,rfl,rfl,by decide +kernel,rfl,by decide +kernel,by decide +kernel⟩ rfl (fun _ _ _ _ _ _ us hl=>match us,hl with | [_,_],_=>rfl) fun _ _ _ _ _ _ _ hr hu hu1 nd =>
 (bp (jh (i:=2) nd (tH (ak (aw 1) aI)))
   (bp (nJ 200 bA (kr (DL hu) (cn hu1 (aw 2) (lB b7)) (aw 0))
   (bM (ml (i:=2) (cn hu1 (aw 0) (cn hu1 (aw 2) (lB b7))))))
   (bM (ck (gF rfl Z.tuple (ak (aw 2) aI))))))
theorem AG (hf:dQ K mg "towers" qM) (Z:Zs mg) (C_steps_of:Ca P w K mg base "steps_of" ["yard"] 15 1 GT.fn_steps_of) (C_tower_from:Ca P w K mg base "tower_from" ["over_of","bottom"] 1 2 GT.fn_tower_from):Ca P w K mg base "towers" ["yard"] 16 1 GT.fn_towers:=oW (k:=15) (N:=["yard","under_of","over_of"]) (g:=GT.g_towers) hf ⟨rfl,rfl,rfl,by decide +kernel,rfl,by decide +kernel,by decide +kernel⟩ rfl (fun _ _ _ _ _ _ us hl=>match us,hl with | [_],_=>rfl) fun _ _ _ _ _ _ _ hr hu hu1 nd =>
 (bp (cO (i:=1) nd (bw C_steps_of (hr.mono (by decide)) rfl (ak (aw 0) aI) (aP bK)))
   (bp (cO (i:=2) nd (fW (zF rfl rfl Z.dict (eF rfl (e9 (ix:=[none,none,none]) rfl (by decide +kernel) rfl rfl) (zq (aw 1)) ⟨fun _ _ _=>(qR rfl (iJ (bS (i:=1) (cnd (by decide +kernel))) (iJ (bS (i:=2) (cnd (by decide +kernel))) qG))),fun _ _ _=>fY,fun _ _ _=>(hO (ak (aw 2) (ak (aw 1) aI)))⟩))))
   (bM (ck (gF rfl Z.tuple (ak (eF rfl (e9 (ix:=[none,none,none,some 2,some 1]) rfl (by decide +kernel) rfl rfl) (dF rfl Z.range (ak (cn hu1 (aw 0) b7) aI)) ⟨fun _ _ _=>(bS (i:=1) (cnd (by decide +kernel))),fun _ _ _=>(n5 (kr (J9 hu) (aw 1) (aw 4))),fun _ _ _=>(bw C_tower_from (hr.mono (by decide)) rfl (ak (aw 3) (ak (aw 1) aI)) (aP (aP bK)))⟩) aI))))))
theorem mR (hf:dQ K mg "stands_on_any" iy) (Z:Zs mg)  : Ca P w K mg base "stands_on_any" ["uppers","thing","others"] 1 3 GT.fn_stands_on_any:=oW (k:=0) (N:=["uppers","thing","others"]) (g:=GT.g_stands_on_any) hf ⟨rfl,rfl,rfl,by decide +kernel,rfl,by decide +kernel,by decide +kernel⟩ rfl (fun _ _ _ _ _ _ us hl=>match us,hl with | [_,_,_],_=>rfl) fun _ _ _ _ _ _ _ hr hu hu1 nd =>
 (bM (ck (Ga rfl rfl Z.any (ak (eF rfl (e9 (ix:=[none,none,some 1,some 0]) rfl (by decide +kernel) rfl rfl) (eV (fW (aw 2))) ⟨fun _ _ _=>(bS (i:=1) (cnd (by decide +kernel))),fun _ _ _=>fY,fun _ _ _=>(JG (DL hu) (aw 2) (kY hu1 (aw 3) (aw 1) j8))⟩) aI))))
theorem jC (hf:dQ K mg "without_overtopping" fD) (Z:Zs mg) (C_stands_on_any:Ca P w K mg base "stands_on_any" ["uppers","thing","others"] 1 3 GT.fn_stands_on_any):Ca P w K mg base "without_overtopping" ["uppers","lowered"] 2 2 GT.fn_without_overtopping:=oW (k:=1) (N:=["uppers","lowered","tips"]) (g:=GT.g_without_overtopping) hf ⟨rfl,rfl,rfl,by decide +kernel,rfl,by decide +kernel,by decide +kernel⟩ rfl (fun _ _ _ _ _ _ us hl=>match us,hl with | [_,_],_=>rfl) fun _ _ _ _ _ _ _ hr hu hu1 nd =>
 (bp (cO (i:=2) nd (eF rfl (e9 (ix:=[none,none]) rfl (by decide +kernel) rfl rfl) (eV (fW (aw 1))) ⟨fun _ _ _=>(bS (i:=1) (cnd (by decide +kernel))),fun _ _ _=>fY,fun _ _ _=>(cn hu1 (aw 1) (lB b7))⟩))
   (bM (ck (eF rfl (e9 (ix:=[none,none,none,some 2,some 0]) rfl (by decide +kernel) rfl rfl) (eV (fW (aw 1))) ⟨fun _ _ _=>(bS (i:=1) (cnd (by decide +kernel))),fun _ _ _=>fY,fun _ _ _=>(Jx (sH (bw C_stands_on_any (hr.mono (by decide)) rfl (ak (aw 4) (ak (cn hu1 (aw 1) (lB b7)) (ak (aw 3) aI))) (aP (aP (aP bK))))) (qo (aw 1) qy (rf (lB b7))) (aw 1))⟩))))
theorem u7 (hf:dQ K mg "broadest" mf) (Z:Zs mg) (C_towers:Ca P w K mg base "towers" ["yard"] 16 1 GT.fn_towers) (C_uppers_of:Ca P w K mg base "uppers_of" ["pairs"] 1 1 Ry.fn_uppers_of) (C_without_overtopping:Ca P w K mg base "without_overtopping" ["uppers","lowered"] 2 2 GT.fn_without_overtopping):Ca P w K mg base "broadest" ["yard"] 17 1 GT.fn_broadest:=oW (k:=16) (N:=["yard","uppers","before","lowered"]) (g:=GT.g_broadest) hf ⟨rfl,rfl,rfl,by decide +kernel,rfl,by decide +kernel,by decide +kernel⟩ rfl (fun _ _ _ _ _ _ us hl=>match us,hl with | [_],_=>rfl) fun _ _ _ _ _ _ _ hr hu hu1 nd =>
 (bp (cO (i:=1) nd (bw C_uppers_of (hr.mono (by decide)) rfl (ak (cn hu1 (aw 0) b7) aI) (aP bK)))
   (bp (cO (i:=2) nd (tH aI))
   (bp (cO (i:=3) nd (qN rfl Z.list (ak (bw C_towers (hr.mono (by decide)) rfl (ak (aw 0) aI) (aP bK)) aI)))
   (bp (nJ 200 bA (kr (FE hu) (aw 3) (aw 2))
   (bp (cO (i:=2) nd (aw 3))
   (bM (cO (i:=3) nd (bw C_without_overtopping (hr.mono (by decide)) rfl (ak (aw 1) (ak (aw 2) aI)) (aP (aP bK)))))))
   (bM (ck (gF rfl Z.tuple (ak (jR rfl rfl Z.sorted (ak (eF rfl (e9 (ix:=[none,none]) rfl (by decide +kernel) rfl rfl) (eV (fW (aw 3))) ⟨fun _ _ _=>(bS (i:=1) (cnd (by decide +kernel))),fun _ _ _=>fY,fun _ _ _=>(cn hu1 (aw 1) (lB b7))⟩) aI)) aI))))))))
theorem nC (hf:dQ K mg "weights_from" iN) (Z:Zs mg) (C_lowers_of:Ca P w K mg base "lowers_of" ["pairs"] 2 1 GW.fn_lowers_of) (C_upwards:Ca P w K mg base "upwards" ["count","lowers"] 5 2 GW.fn_upwards):Ca P w K mg base "weights_from" ["yard","one"] 6 2 GW.fn_weights_from:=oW (k:=5) (N:=["yard","one","lowers","found","thing","unders"]) (g:=GW.g_weights_from) hf ⟨rfl,rfl,rfl,by decide +kernel,rfl,by decide +kernel,by decide +kernel⟩ rfl (fun _ _ _ _ _ _ us hl=>match us,hl with | [_,_],_=>rfl) fun _ _ _ _ _ _ _ hr hu hu1 nd =>
 (bp (cO (i:=2) nd (bw C_lowers_of (hr.mono (by decide)) rfl (ak (cn hu1 (aw 0) b7) aI) (aP bK)))
   (bp (jh (i:=3) nd (CL (aw 1) b7))
   (bp (gA bA rfl (eV (fW (bw C_upwards (hr.mono (by decide)) rfl (ak (cn hu1 (aw 0) b7) (ak (aw 2) aI)) (aP (aP bK))))) (bS (i:=4) nd)
   (bp (cO (i:=5) nd (fW (kY hu1 (aw 2) (aw 4) j8)))
   (bM (kB (kr (DL hu) (aw 1) (aw 5)) (bM (ny (i:=3) hu (aw 4) (lB (vn rfl rfl Z.sum (ak (eF rfl (e9 (ix:=[none,none,some 3]) rfl (by decide +kernel) rfl rfl) (eV (fW (aw 5))) ⟨fun _ _ _=>(bS (i:=1) (cnd (by decide +kernel))),fun _ _ _=>(n5 (kr (DL hu) (aw 1) (aw 2))),fun _ _ _=>(cn hu1 (aw 2) (aw 1))⟩) aI))))) iO))))
   (bM (ck (aw 3))))))
theorem zo (hf:dQ K mg "weight" qO) (Z:Zs mg) (C_weights_from:Ca P w K mg base "weights_from" ["yard","one"] 6 2 GW.fn_weights_from):Ca P w K mg base "weight" ["yard","one","other"] 7 3 GW.fn_weight:=oW (k:=6) (N:=["yard","one","other"]) (g:=GW.g_weight) hf ⟨rfl,rfl,rfl,by decide +kernel,rfl,by decide +kernel,by decide +kernel⟩ rfl (fun _ _ _ _ _ _ us hl=>match us,hl with | [_,_,_],_=>rfl) fun _ _ _ _ _ _ _ hr hu hu1 nd =>
 (bM (ck (kY hu1 (bw C_weights_from (hr.mono (by decide)) rfl (ak (aw 0) (ak (aw 1) aI)) (aP (aP bK))) (aw 2) b7)))
theorem tI (hf:dQ K mg "_law_cell" kN) (Z:Zs mg)  : Ca P w K mg base "_law_cell" ["_law_script","_law_k"] 1 2 G.fn__law_cell:=oW (k:=0) (N:=["_law_script","_law_k"]) (g:=G.g__law_cell) hf ⟨rfl,rfl,rfl,by decide +kernel,rfl,by decide +kernel,by decide +kernel⟩ rfl (fun _ _ _ _ _ _ us hl=>match us,hl with | [_,_],_=>rfl) fun _ _ _ _ _ _ _ hr hu hu1 nd =>
 (bp (kB (kr (Kq hu) (aw 1) (kD rfl Z.len (ak (aw 0) aI))) (bM (ck (cn hu1 (aw 0) (aw 1)))) iO)
   (bM (ck b7)))
theorem um (hf:dQ K mg "_law_mix" mj) (Z:Zs mg)  : Ca P w K mg base "_law_mix" ["_law_cell_here","_law_prime","_law_many"] 1 3 G.fn__law_mix:=oW (k:=0) (N:=["_law_cell_here","_law_prime","_law_many"]) (g:=G.g__law_mix) hf ⟨rfl,rfl,rfl,by decide +kernel,rfl,by decide +kernel,by decide +kernel⟩ rfl (fun _ _ _ _ _ _ us hl=>match us,hl with | [_,_,_],_=>rfl) fun _ _ _ _ _ _ _ hr hu hu1 nd =>
 (bM (ck (C1 (C1 (tE (aw 0) b7) (aw 1)) (aw 2))))
theorem mB:fX ["_law_cell_here","_law_many","_law_left"] ["_law_cell_here","_law_many"] (bn gY):=⟨rfl,rfl,rfl,by decide +kernel,rfl,by decide +kernel,by decide +kernel⟩
theorem rZ (hf:dQ K mg "_law_perm" gY) (Z:Zs mg) (C__law_mix:Ca P w K mg base "_law_mix" ["_law_cell_here","_law_prime","_law_many"] 1 3 G.fn__law_mix):Ca P w K mg base "_law_perm" ["_law_cell_here","_law_many"] 2 2 G.fn__law_perm:=by
 obtain ⟨a,fd,F,hm⟩:=hf
 refine ⟨a,fd,hm,F.kp,F.binds (fun _ _ _ _ _ _ us hl=>match us,hl with | [_,_],_=>rfl),?_⟩
 refine F.ok mB (fun vs H Q E ⟨Gp,ds,d,hl,sg,_,dl,_⟩=>by rw [dl.length,hl];rfl) fun cdv A outer s H vs Q E hr ⟨Gp,ds,d,hl,sg,tg,dl,ef,k⟩=>?_
 have hu1:_+1<cg:=oT hr
 have nd:=mB.nd
 have hps:PSs (rV CX0 P w K mg base ["_law_cell_here","_law_many","_law_left"] "_law_perm" (bn gY) a cdv A outer s H E).nox (dZ gY) (nz (FL (tX K (ke (aH (aY 1) bU))) (ly 2))
  (FN (zT (mpS [none,none,none,some 0,some 2,some 1]) (iX K (k3 (aH (aY 1) bU))) (ly 1) (fun _ H Q=>Q true H)
    (tBM K "list" AF (jB 4) (nW (tX K (cm G.fn__law_mix (aH (x2 gW (aY 3) (x2 (oI ol (·*·)) (xC (.int 5)) (aY 1))) (aH (xC (.int 9967)) (aH (x2 (oI (fun _ _=>true) (·-·)) (aY 5) (aY 1)) bU))))) Iw))))):=by
  refine fQ (pW (i:=2) nd rfl (by first | exact cR rfl | exact cL rfl) ?e1) (ig (pN ?e2))
  case e1=>exact tf rfl Z.list rfl Z.range (iL (jw 1) l8)
  case e2 =>
   refine Bo rfl (e9 (ix:=[none,none,none,some 0,some 2,some 1]) rfl (by decide +kernel) rfl rfl) ?i1 ?i2 ?i3 ?i4
   case i1=>exact mi rfl Z.range (iL (jw 1) l8)
   case i2=>exact fun s3 H3 fp3=>l7 (i:=1) (cnd (by decide +kernel)) rfl (cR rfl)
   case i3=>exact fun s3 H3 fp3=>AC
   case i4 =>
    intro s3 H3 fp3
    refine D9 iT PySem.F.slot_list_pop PySem.F.type_list_pop CM ?o ?ar
    case o=>exact pv 4
    case ar=>exact e6 (qX C__law_mix (hr.mono (by decide)) rfl (iL (DF (jw 3) (Dp sV (jw 1))) (iL sV (iL (He (jw 5) (jw 1)) l8))) (aP (aP (aP bK)))) jx
 refine ⟨_,hps,?_⟩
 exact yx hl sg tg dl ef k
theorem uC (hf:dQ K mg "_law_all" mn) (Z:Zs mg)  : Ca P w K mg base "_law_all" ["_law_count","_law_pairs"] 1 2 G.fn__law_all:=oW (k:=0) (N:=["_law_count","_law_pairs","_law_found","_law_pair","_law_c","_law_a","_law_b"]) (g:=G.g__law_all) hf ⟨rfl,rfl,rfl,by decide +kernel,rfl,by decide +kernel,by decide +kernel⟩ rfl (fun _ _ _ _ _ _ us hl=>match us,hl with | [_,_],_=>rfl) fun _ _ _ _ _ _ _ hr hu hu1 nd =>
 (bp (jh (i:=2) nd Ci)
   (bp (gA bA rfl (eV (fW (aw 1))) (bS (i:=3) nd)
   (bM (ny (i:=2) hu (aw 3) rP)))
   (bp (gA bA rfl (dF rfl Z.range (ak (aw 0) aI)) (bS (i:=4) nd)
   (bM (gA bA rfl (dF rfl Z.range (ak (aw 0) aI)) (bS (i:=5) nd)
   (bM (gA bA rfl (dF rfl Z.range (ak (aw 0) aI)) (bS (i:=6) nd)
   (bM (kB (Gh (DK (kr (DL hu) (hO (ak (aw 5) (ak (aw 4) aI))) (aw 2)) (CC (kr (DL hu) (hO (ak (aw 4) (ak (aw 6) aI))) (aw 2))))) (bM (ny (i:=2) hu (hO (ak (aw 5) (ak (aw 6) aI))) rP)) iO)))))))
   (bM (ck (jR rfl rfl Z.sorted (ak (aw 2) aI)))))))
theorem rY (hf:dQ K mg "_law_yard" k7) (Z:Zs mg) (C__law_all:Ca P w K mg base "_law_all" ["_law_count","_law_pairs"] 1 2 G.fn__law_all) (C__law_cell:Ca P w K mg base "_law_cell" ["_law_script","_law_k"] 1 2 G.fn__law_cell) (C__law_mix:Ca P w K mg base "_law_mix" ["_law_cell_here","_law_prime","_law_many"] 1 3 G.fn__law_mix) (C__law_perm:Ca P w K mg base "_law_perm" ["_law_cell_here","_law_many"] 2 2 G.fn__law_perm):Ca P w K mg base "_law_yard" ["_law_script","_law_k","_law_most"] 3 3 G.fn__law_yard:=oW (k:=2) (N:=["_law_script","_law_k","_law_most","_law_count","_law_share","_law_places","_law_told","_law_a","_law_b"]) (g:=G.g__law_yard) hf ⟨rfl,rfl,rfl,by decide +kernel,rfl,by decide +kernel,by decide +kernel⟩ rfl (fun _ _ _ _ _ _ us hl=>match us,hl with | [_,_,_],_=>rfl) fun _ _ _ _ _ _ _ hr hu hu1 nd =>
 (bp (cO (i:=3) nd (eJ b7 (bw C__law_mix (hr.mono (by decide)) rfl (ak (bw C__law_cell (hr.mono (by decide)) rfl (ak (aw 0) (ak (aw 1) aI)) (aP (aP bK))) (ak b7 (ak (aw 2) aI))) (aP (aP (aP bK))))))
   (bp (cO (i:=4) nd (eJ b7 (bw C__law_mix (hr.mono (by decide)) rfl (ak (bw C__law_cell (hr.mono (by decide)) rfl (ak (aw 0) (ak (aw 1) aI)) (aP (aP bK))) (ak b7 (ak b7 aI))) (aP (aP (aP bK))))))
   (bp (cO (i:=5) nd (bw C__law_perm (hr.mono (by decide)) rfl (ak (bw C__law_cell (hr.mono (by decide)) rfl (ak (aw 0) (ak (eJ (aw 1) b7) aI)) (aP (aP bK))) (ak (aw 3) aI)) (aP (aP bK))))
   (bp (jh (i:=6) nd (tH aI))
   (bp (gA bA rfl (dF rfl Z.range (ak (aw 3) aI)) (bS (i:=7) nd)
   (bM (gA bA rfl (pG rfl Z.range (ak (eJ (aw 7) b7) (ak (aw 3) aI))) (bS (i:=8) nd)
   (bM (kB (kr (Kq hu) (bw C__law_mix (hr.mono (by decide)) rfl (ak (eJ (eJ (bw C__law_cell (hr.mono (by decide)) rfl (ak (aw 0) (ak (eJ (aw 1) b7) aI)) (aP (aP bK))) (tE b7 (aw 7))) (tE b7 (aw 8))) (ak b7 (ak b7 aI))) (aP (aP (aP bK)))) (aw 4)) (bM (ml (i:=6) (hO (ak (cn hu1 (aw 5) (aw 7)) (ak (cn hu1 (aw 5) (aw 8)) aI))))) iO)))))
   (bM (Ah 6 (ck (hO (ak (aw 3) (ak (gF rfl Z.tuple (ak (bw C__law_all (hr.mono (by decide)) rfl (ak (aw 3) (ak (aw 6) aI)) (aP (aP bK))) aI)) aI)))))))))))
theorem jW (hf:dQ K mg "_law_weights_right" f6) (Z:Zs mg) (C_weight:Ca P w K mg base "weight" ["yard","one","other"] 7 3 GW.fn_weight):Ca P w K mg base "_law_weights_right" ["_law_one","_law_other","_law_both"] 8 3 G15.fn__law_weights_right:=oW (k:=7) (N:=["_law_one","_law_other","_law_both","_law_n","_law_a","_law_up","_law_b","_law_down"]) (g:=G15.g__law_weights_right) hf ⟨rfl,rfl,rfl,by decide +kernel,rfl,by decide +kernel,by decide +kernel⟩ rfl (fun _ _ _ _ _ _ us hl=>match us,hl with | [_,_,_],_=>rfl) fun _ _ _ _ _ _ _ hr hu hu1 nd =>
 (bp (cO (i:=3) nd (cn hu1 (aw 0) b7))
   (bp (gA bA rfl (dF rfl Z.range (ak (aw 3) aI)) (bS (i:=4) nd)
   (bp (cO (i:=5) nd (vn rfl rfl Z.sum (ak (eF rfl (e9 (ix:=[none,none,none,some 4,some 0]) rfl (by decide +kernel) rfl rfl) (dF rfl Z.range (ak (aw 3) aI)) ⟨fun _ _ _=>(bS (i:=1) (cnd (by decide +kernel))),fun _ _ _=>fY,fun _ _ _=>(bw C_weight (hr.mono (by decide)) rfl (ak (aw 4) (ak (aw 3) (ak (aw 1) aI))) (aP (aP (aP bK))))⟩) aI)))
   (bM (gA bA rfl (dF rfl Z.range (ak (cn hu1 (aw 1) b7) aI)) (bS (i:=6) nd)
   (bp (cO (i:=7) nd (vn rfl rfl Z.sum (ak (eF rfl (e9 (ix:=[none,none,none,some 6,some 1]) rfl (by decide +kernel) rfl rfl) (dF rfl Z.range (ak (cn hu1 (aw 1) b7) aI)) ⟨fun _ _ _=>(bS (i:=1) (cnd (by decide +kernel))),fun _ _ _=>fY,fun _ _ _=>(bw C_weight (hr.mono (by decide)) rfl (ak (aw 4) (ak (aw 1) (ak (aw 3) aI))) (aP (aP (aP bK))))⟩) aI)))
   (bM (kB (Gh (HI (kr (FE hu) (bw C_weight (hr.mono (by decide)) rfl (ak (aw 2) (ak (aw 4) (ak (eJ (aw 3) (aw 6)) aI))) (aP (aP (aP bK)))) (tE (lB (aw 5)) (aw 7))) (ER (kr (FE hu) (bw C_weight (hr.mono (by decide)) rfl (ak (aw 2) (ak (eJ (aw 3) (aw 6)) (ak (aw 4) aI))) (aP (aP (aP bK)))) b7)))) (bM (ck rP)) iO)))))))
   (bM (ck rP))))
theorem Gf {fa:au} {fd:cJ} (F:Fun K "law" "law" B7 fa fd) (Z:Zs mg) (C__law_weights_right:Ca P w K mg base "_law_weights_right" ["_law_one","_law_other","_law_both"] 8 3 G15.fn__law_weights_right) (C__law_yard:Ca P w K mg base "_law_yard" ["_law_script","_law_k","_law_most"] 3 3 G.fn__law_yard) (C_above:Ca P w K mg base "above" ["one","other"] 2 2 G15.fn_above) (C_broadest:Ca P w K mg base "broadest" ["yard"] 17 1 GT.fn_broadest) (C_floors:Ca P w K mg base "floors" ["yard"] 7 1 GF.fn_floors) (C_heads:Ca P w K mg base "heads" ["yard"] 6 1 GH.fn_heads) (C_lines:Ca P w K mg base "lines" ["yard"] 7 1 GH.fn_lines):rH P w K mg base CX0 18 fa fd ["_law_script"] (spD K 1 G15.fn_law):=Ke (k:=17) (N:=["_law_script","_law_one","_law_other","_law_n","_law_both","_law_due","_law_a","_law_some"]) (g:=G15.g_law) F ⟨rfl,rfl,rfl,by decide +kernel,rfl,by decide +kernel,by decide +kernel⟩ rfl fun _ _ _ _ _ _ hr hu hu1 nd =>
 (bp (cO (i:=1) nd (bw C__law_yard (hr.mono (by decide)) rfl (ak (aw 0) (ak b7 (ak b7 aI))) (aP (aP (aP bK)))))
   (bp (cO (i:=2) nd (bw C__law_yard (hr.mono (by decide)) rfl (ak (aw 0) (ak b7 (ak b7 aI))) (aP (aP (aP bK)))))
   (bp (cO (i:=3) nd (cn hu1 (aw 1) b7))
   (bp (cO (i:=4) nd (bw C_above (hr.mono (by decide)) rfl (ak (aw 1) (ak (aw 2) aI)) (aP (aP bK))))
   (bp (jh (i:=5) nd (eJ (qN rfl Z.list (ak (cn hu1 (aw 1) b7) aI)) (eF rfl (e9 (ix:=[none,none,none,some 3]) rfl (by decide +kernel) rfl rfl) (eV (fW (cn hu1 (aw 2) b7))) ⟨fun _ _ _=>(qR rfl (iJ (bS (i:=1) (cnd (by decide +kernel))) (iJ (bS (i:=2) (cnd (by decide +kernel))) qG))),fun _ _ _=>fY,fun _ _ _=>(hO (ak (eJ (aw 1) (aw 3)) (ak (eJ (aw 2) (aw 3)) aI)))⟩)))
   (bp (gA bA rfl (dF rfl Z.range (ak (aw 3) aI)) (bS (i:=6) nd)
   (bM (pV (i:=5) (eF rfl (e9 (ix:=[none,none,some 6,some 3]) rfl (by decide +kernel) rfl rfl) (dF rfl Z.range (ak (cn hu1 (aw 2) b7) aI)) ⟨fun _ _ _=>(bS (i:=1) (cnd (by decide +kernel))),fun _ _ _=>fY,fun _ _ _=>(hO (ak (aw 2) (ak (eJ (aw 3) (aw 1)) aI)))⟩))))
   (bp (kB (kr (FE hu) (aw 4) (hO (ak (eJ (aw 3) (cn hu1 (aw 2) b7)) (ak (gF rfl Z.tuple (ak (l9 (hr.mono (by decide)) rfl Z.sorted (ak (aw 5) aI)) aI)) aI)))) (bM (ck rP)) iO)
   (bp (kB (kr (FE hu) (kD rfl Z.len (ak (bw C_floors (hr.mono (by decide)) rfl (ak (aw 4) aI) (aP bK)) aI)) (eJ (kD rfl Z.len (ak (bw C_floors (hr.mono (by decide)) rfl (ak (aw 1) aI) (aP bK)) aI)) (kD rfl Z.len (ak (bw C_floors (hr.mono (by decide)) rfl (ak (aw 2) aI) (aP bK)) aI)))) (bM (ck rP)) iO)
   (bp (kB (kr (FE hu) (kD rfl Z.len (ak (bw C_broadest (hr.mono (by decide)) rfl (ak (aw 4) aI) (aP bK)) aI)) (Eb rfl rfl Z.max (ak (kD rfl Z.len (ak (bw C_broadest (hr.mono (by decide)) rfl (ak (aw 1) aI) (aP bK)) aI)) (ak (kD rfl Z.len (ak (bw C_broadest (hr.mono (by decide)) rfl (ak (aw 2) aI) (aP bK)) aI)) aI)))) (bM (ck rP)) iO)
   (bp (kB (kr (FE hu) (bw C_lines (hr.mono (by decide)) rfl (ak (aw 4) aI) (aP bK)) (tE (bw C_lines (hr.mono (by decide)) rfl (ak (aw 1) aI) (aP bK)) (bw C_lines (hr.mono (by decide)) rfl (ak (aw 2) aI) (aP bK)))) (bM (ck rP)) iO)
   (bp (cO (i:=7) nd (eJ (qN rfl Z.list (ak (bw C_heads (hr.mono (by decide)) rfl (ak (aw 1) aI) (aP bK)) aI)) (eF rfl (e9 (ix:=[none,none,none,none,some 3]) rfl (by decide +kernel) rfl rfl) (eV (fW (bw C_heads (hr.mono (by decide)) rfl (ak (aw 2) aI) (aP bK)))) ⟨fun _ _ _=>(bS (i:=1) (cnd (by decide +kernel))),fun _ _ _=>(n5 (sH (aw 1))),fun _ _ _=>(eJ (om rfl Z.tuple rfl Z.range (ak (aw 4) aI)) (gF rfl Z.tuple (ak (eF rfl (e9 (ix:=[none,none,some 4]) rfl (by decide +kernel) rfl rfl) (eV (fW (aw 1))) ⟨fun _ _ _=>(bS (i:=1) (cnd (by decide +kernel))),fun _ _ _=>fY,fun _ _ _=>(eJ (aw 1) (aw 2))⟩) aI)))⟩)))
   (bM (ck (F8 (JG (Ks hu) (l9 (hr.mono (by decide)) rfl Z.sorted (ak (bw C_heads (hr.mono (by decide)) rfl (ak (aw 4) aI) (aP bK)) aI)) (l9 (hr.mono (by decide)) rfl Z.sorted (ak (aw 7) aI))) (Gr (bw C__law_weights_right (hr.mono (by decide)) rfl (ak (aw 1) (ak (aw 2) (ak (aw 4) aI))) (aP (aP (aP bK)))))))))))))))))))
end
end C
namespace GE
open PySem L2 Ry G G3 GW GH GF GT
theorem C7:∀ (k m:Nat) (lo:Int),rgI lo (k+m)=rgI lo k++rgI (lo+k) m
 | 0,m,lo=>by
   rw [ua,show lo+((0:Nat):Int)=lo by lia]
   rfl
 | k+1,m,lo=>by
   rw [show k+1+m=(k+m)+1 by lia]
   show lo::rgI (lo+1) (k+m)=lo::(rgI (lo+1) k++_)
   rw [C7 k m (lo+1),show lo+1+(k:Int)=lo+((k+1:Nat):Int) by lia]
theorem yP (d:Int):∀ (m:Nat) (lo:Int),rgI (d+lo) m=(rgI lo m).map fun x=>d+x
 | 0,_=>rfl
 | m+1,lo=>by
   show (d+lo)::rgI (d+lo+1) m=(d+lo)::(rgI (lo+1) m).map _
   rw [<- yP d m (lo+1),Int.add_assoc]
theorem gQ {n x:Int}:x∈rgI 0 n.toNat↔0<=x/\x<n:=by
 rw [fE]
 lia
structure Two (n1 n2:Int) (L1 L2 M:List PI) (c:Prop):Prop where
 h1:0<=n1
 h2:0<=n2
 y1:Yd n1 L1
 y2:Yd n2 L2
 m:∀ x y,(x,y)∈M↔(x,y)∈L1\/(x-n1,y-n1)∈L2\/(c/\(0<=x/\x<n1)/\n1<=y/\y<n1+n2)
 s:M.Pairwise fun p q=>Ms.ltP p q=true
noncomputable def pa (k:Int) (T:List Int):List Int:=T.filter fun x=>decide (x<k)
noncomputable def pb (k:Int) (T:List Int):List Int:=(T.filter fun x=>!decide (x<k)).map fun x=>x-k
theorem pS {k x:Int} {T:List Int}:x∈pa k T↔x∈T/\x<k:=by unfold pa;rw [a9,decide_eq_true_eq]
theorem mJ {k x:Int} {T:List Int}:x∈pb k T↔k+x∈T/\0<=x:=by
 unfold pb
 rw [aS]
 constructor
 ·rintro ⟨y,hy,rfl⟩
  obtain ⟨h1,h2⟩:=a9.mp hy
  have h2:¬ y<k:=by simpa using h2
  exact ⟨by rw [show k+(y-k)=y by lia];exact h1,by lia⟩
 ·rintro ⟨h1,h2⟩
  exact ⟨k+x,a9.mpr ⟨h1,by rw [Bool.not_eq_true',decide_eq_false_iff_not];lia⟩,by lia⟩
theorem JO {R:Int->Int->Prop} {k:Int} {Z:List Int} (h:Z.Pairwise fun a b=>R (k+a) (k+b)):(Z.map fun x=>k+x).Pairwise R:=bx.mpr h
theorem Jw {k:Int} {Z:List Int} (h:Z.Nodup):(Z.map fun x=>k+x).Nodup:=bx.mpr (h.imp fun ne e=>ne (by lia))
theorem J1 {r q:Int->Int->Bool} (k:Nat) (P:List Int) (h:∀ x∈P,∀ y∈P,q x y=r x y):cT q k P=cT r k P:=by
 have:=yq (r:=r) (q:=q) (g:=id) k P h fun _ _ _ _ e=>e
 rwa [List.map_id] at this
section
variable {n1 n2:Int} {L1 L2 M:List PI} {c:Prop}
theorem yr {n:Int} {L:List PI} (Y:Yd n L) {a b:Int} (h:(a,b)∈L):(0<=a/\a<n)/\0<=b/\b<n:=Y.rg _ h
theorem Two.aa (D:Two n1 n2 L1 L2 M c) {a b:Int} (ha:a<n1) (hb:b<n1):(a,b)∈M↔(a,b)∈L1:=by
 rw [D.m]
 constructor
 ·rintro (h | h | h)
  ·exact h
  ·have:=yr D.y2 h;lia
  ·lia
 ·exact .inl
theorem Two.bb (D:Two n1 n2 L1 L2 M c) {a b:Int} (ha:0<=a) (hb:0<=b):(n1+a,n1+b)∈M↔(a,b)∈L2:=by
 rw [D.m,show n1+a-n1=a by lia,show n1+b-n1=b by lia]
 constructor
 ·rintro (h | h | h)
  ·have:=yr D.y1 h;lia
  ·exact h
  ·lia
 ·exact fun h=>.inr (.inl h)
theorem Two.ab (D:Two n1 n2 L1 L2 M c) {a b:Int} (ha:0<=a/\a<n1) (hb:0<=b/\b<n2):(a,n1+b)∈M↔c:=by
 rw [D.m]
 constructor
 ·rintro (h | h | h)
  ·have:=yr D.y1 h;lia
  ·have:=yr D.y2 h;lia
  ·exact h.1
 ·exact fun h=>.inr (.inr ⟨h,ha,by lia⟩)
theorem Two.ba (D:Two n1 n2 L1 L2 M c) {a b:Int} (ha:a<n1) (hb:0<=b):(n1+b,a)∉M:=by
 rw [D.m]
 rintro (h | h | h)
 ·have:=yr D.y1 h;lia
 ·have:=yr D.y2 h;lia
 ·lia
theorem Two.yd (D:Two n1 n2 L1 L2 M c):Yd (n1+n2) M where
 srt:=D.s
 rg:=fun p hp=>by
  have e1:=D.h1
  have e2:=D.h2
  rcases (D.m p.1 p.2).mp hp with h | h | h
  ·have:=yr D.y1 h;lia
  ·have:=yr D.y2 h;lia
  ·lia
 irr:=fun a h=>by
  rcases (D.m a a).mp h with h | h | h
  ·exact D.y1.irr a h
  ·exact D.y2.irr _ h
  ·lia
 tr:=fun x y z h h'=>by
  rw [D.m]
  rcases (D.m x y).mp h with h | h | h<;>rcases (D.m y z).mp h' with h' | h' | h'
  ·exact .inl (D.y1.tr _ _ _ h h')
  ·have:=yr D.y1 h;have:=yr D.y2 h';lia
  ·have:=yr D.y1 h;exact .inr (.inr ⟨h'.1,this.1,h'.2.2⟩)
  ·have:=yr D.y2 h;have:=yr D.y1 h';lia
  ·exact .inr (.inl (D.y2.tr _ _ _ h h'))
  ·have:=yr D.y2 h;lia
  ·have:=yr D.y1 h';lia
  ·have:=yr D.y2 h';exact .inr (.inr ⟨h.1,h.2.1,by lia⟩)
  ·lia
theorem Two.split (D:Two n1 n2 L1 L2 M c):rgI 0 (n1+n2).toNat=rgI 0 n1.toNat++(rgI 0 n2.toNat).map fun x=>n1+x:=by
 have e1:=D.h1
 have e2:=D.h2
 rw [show (n1+n2).toNat=n1.toNat+n2.toNat by lia,C7,<- yP,show (0:Int)+(n1.toNat:Int)=n1+0 by lia]
theorem Two.in1 (D:Two n1 n2 L1 L2 M c) {T:List Int} (h:∀ x∈T,x∈rgI 0 n1.toNat):∀ x∈T,x∈rgI 0 (n1+n2).toNat:=fun x hx=>by
 have:=gQ.mp (h x hx)
 have:=D.h2
 exact gQ.mpr (by lia)
theorem Two.in2 (D:Two n1 n2 L1 L2 M c) {T:List Int} (h:∀ x∈T,x∈rgI 0 n2.toNat):∀ x∈T.map (fun x=>n1+x),x∈rgI 0 (n1+n2).toNat:=fun x hx=>by
 obtain ⟨y,hy,rfl⟩:=aS.mp hx
 have:=gQ.mp (h y hy)
 have:=D.h1
 exact gQ.mpr (by lia)
theorem HD {T:List Int} (h:∀ x∈T,x∈rgI 0 (n1+n2).toNat):∀ x∈pa n1 T,x∈rgI 0 n1.toNat:=fun x hx=>by
 obtain ⟨a,b⟩:=pS.mp hx
 have:=gQ.mp (h x a)
 exact gQ.mpr (by lia)
theorem Io {T:List Int} (h:∀ x∈T,x∈rgI 0 (n1+n2).toNat):∀ x∈pb n1 T,x∈rgI 0 n2.toNat:=fun x hx=>by
 obtain ⟨a,b⟩:=mJ.mp hx
 have:=gQ.mp (h _ a)
 exact gQ.mpr (by lia)
theorem zc {H K:List Int} (h1:H.Pairwise fun a b=>Ms.ltI a b=true) (h2:K.Pairwise fun a b=>Ms.ltI a b=true) (hH:∀ x∈H,x<n1) (hK:∀ x∈K,0<=x):(H++K.map fun x=>n1+x).Pairwise fun a b=>Ms.ltI a b=true:=by
 refine ij.mpr ⟨h1,JO (h2.imp fun {a b} z=>?_),fun a ha b hb=>?_⟩
 ·have:=of_decide_eq_true z
  exact decide_eq_true (by lia)
 ·obtain ⟨k,hk,rfl⟩:=aS.mp hb
  have:=hH a ha
  have:=hK k hk
  exact decide_eq_true (by lia)
theorem D2 {T:List Int} (h:T.Pairwise fun a b=>Ms.ltI a b=true):((pa n1 T).Pairwise fun a b=>Ms.ltI a b=true)/\((pb n1 T).Pairwise fun a b=>Ms.ltI a b=true)/\T=pa n1 T++(pb n1 T).map fun x=>n1+x:=by
 have r1:(pa n1 T).Pairwise fun a b=>Ms.ltI a b=true:=h.sublist cI
 have r2:(pb n1 T).Pairwise fun a b=>Ms.ltI a b=true:=bx.mpr ((h.sublist cI).imp fun {a b} z=>by
  have:=of_decide_eq_true z
  exact decide_eq_true (by lia))
 refine ⟨r1,r2,Ms.strict_ext Ms.linI h (zc r1 r2 (fun x hx=>(pS.mp hx).2) fun x hx=>(mJ.mp hx).2) fun x=>?_⟩
 rw [aA,pS,aS]
 constructor
 ·intro hx
  by_cases z:x<n1
  ·exact .inl ⟨hx,z⟩
  ·exact .inr ⟨x-n1,mJ.mpr ⟨by rw [show n1+(x-n1)=x by lia];exact hx,by lia⟩,by lia⟩
 ·rintro (⟨hx,_⟩ | ⟨y,hy,rfl⟩)
  ·exact hx
  ·exact (mJ.mp hy).1
theorem Two.zz (D:Two n1 n2 L1 L2 M c):(∀ {a b:Int},a<n1->b<n1->zt M a b=zt L1 a b)/\(∀ {a b:Int},0<=a->0<=b->zt M (n1+a) (n1+b)=zt L2 a b)/\∀ {a b:Int},a<n1->0<=b->zt M (n1+b) a=0:=by
 refine ⟨fun {a b} ha hb=>?_,fun {a b} ha hb=>?_,fun {a b} ha hb=>?_⟩<;>unfold zt
 ·by_cases z:a=b\/(a,b)∈L1
  ·rw [if_pos z,if_pos (z.imp id (D.aa ha hb).mpr)]
  ·rw [if_neg z,if_neg fun q=>z (q.imp id (D.aa ha hb).mp)]
 ·by_cases z:a=b\/(a,b)∈L2
  ·rw [if_pos z,if_pos (z.imp (fun q=>by rw [q]) (D.bb ha hb).mpr)]
  ·rw [if_neg z,if_neg fun q=>z (q.imp (fun q=>by lia) (D.bb ha hb).mp)]
 ·exact if_neg fun q=>q.elim (fun q=>by lia) (D.ba ha hb)
noncomputable def ww (n1:Int) (w1 w2 q:Int->Int->Int) (x y:Int):Int:=if x<n1 then (if y<n1 then w1 x y else q x (y-n1)) else if y<n1 then 0 else w2 (x-n1) (y-n1)
theorem J5 {w1 w2 q:Int->Int->Int} {a b:Int} (ha:a<n1) (hb:b<n1):ww n1 w1 w2 q a b=w1 a b:=by unfold ww;rw [if_pos ha,if_pos hb]
theorem HY {w1 w2 q:Int->Int->Int} {a b:Int} (ha:a<n1) (hb:0<=b):ww n1 w1 w2 q a (n1+b)=q a b:=by unfold ww;rw [if_pos ha,if_neg (by lia),show n1+b-n1=b by lia]
theorem EK {w1 w2 q:Int->Int->Int} {a b:Int} (ha:a<n1) (hb:0<=b):ww n1 w1 w2 q (n1+b) a=0:=by unfold ww;rw [if_neg (by lia),if_pos ha]
theorem HN {w1 w2 q:Int->Int->Int} {a b:Int} (ha:0<=a) (hb:0<=b):ww n1 w1 w2 q (n1+a) (n1+b)=w2 a b:=by unfold ww;rw [if_neg (by lia),if_neg (by lia),show n1+a-n1=a by lia,show n1+b-n1=b by lia]
theorem Two.weight (D:Two n1 n2 L1 L2 M c) {w1 w2 w q:Int->Int->Int} {e:Int} (T1:Tri n1 L1 w1) (r1:∀ a b,(a,b)∈L1->w1 a b = -(sm (c9 (low L1) b) (w1 a))) (T2:Tri n2 L2 w2) (r2:∀ a b,(a,b)∈L2->w2 a b = -(sm (c9 (low L2) b) (w2 a))) (T:Tri (n1+n2) M w) (r:∀ a b,(a,b)∈M->w a b = -(sm (c9 (low M) b) (w a)))
 (hz:∀ a b,(0<=a/\a<n1)->(0<=b/\b<n2)->zt M a (n1+b)=e) (hq:∀ a b,(0<=a/\a<n1)->(0<=b/\b<n2)->sm (rgI 0 n1.toNat) (fun t=>zt L1 a t*q t b)+sm (rgI 0 n2.toNat) (fun t=>e*w2 t b)=0) {a b:Int} (ha:a∈rgI 0 (n1+n2).toNat) (hb:b∈rgI 0 (n1+n2).toNat):w a b=ww n1 w1 w2 q a b:=by
 obtain ⟨z1,z2,z3⟩:=D.zz
 refine Ee (fP _ _) (z:=zt M) (w:=w) (v:=ww n1 w1 w2 q) (wz D.yd T r) (fun a ha b hb=>?_) ha hb
 have sp:∀ f:Int->Int,sm (rgI 0 (n1+n2).toNat) f=sm (rgI 0 n1.toNat) f+sm (rgI 0 n2.toNat) fun x=>f (n1+x):=fun f=>by
  rw [D.split,tz]
  congr 1
  unfold sm
  rw [aQ]
  rfl
 rw [sp]
 have ha:=gQ.mp ha
 have hb:=gQ.mp hb
 by_cases la:a<n1
 ·by_cases lb:b<n1
  ·rw [cE (g:=fun t=>zt L1 a t*w1 t b) fun t ht=>by rw [z1 la (gQ.mp ht).2,J5 (gQ.mp ht).2 lb],jk (R:=rgI 0 n2.toNat) fun t ht=>by rw [EK lb (gQ.mp ht).1,gk],zw D.y1 T1 r1 a (gQ.mpr ⟨ha.1,la⟩) b (gQ.mpr ⟨hb.1,lb⟩),mQ]
  ·obtain ⟨b,rfl⟩:∃ d,b=n1+d:=⟨b-n1,by lia⟩
   rw [cE (g:=fun t=>zt L1 a t*q t b) fun t ht=>by rw [z1 la (gQ.mp ht).2,HY (gQ.mp ht).2 (by lia)],cE (R:=rgI 0 n2.toNat) (g:=fun t=>e*w2 t b) fun t ht=>by rw [hz a t ⟨ha.1,la⟩ (gQ.mp ht),HN (gQ.mp ht).1 (by lia)],hq a b ⟨ha.1,la⟩ (by lia)]
   unfold dl
   rw [if_neg (by lia)]
 ·obtain ⟨a,rfl⟩:∃ d,a=n1+d:=⟨a-n1,by lia⟩
  rw [jk (R:=rgI 0 n1.toNat) fun t ht=>by rw [z3 (gQ.mp ht).2 (by lia),jN],jM]
  by_cases lb:b<n1
  ·rw [jk fun t ht=>by rw [EK lb (gQ.mp ht).1,gk]]
   unfold dl
   rw [if_neg (by lia)]
  ·obtain ⟨b,rfl⟩:∃ d,b=n1+d:=⟨b-n1,by lia⟩
   rw [cE (g:=fun t=>zt L2 a t*w2 t b) fun t ht=>by rw [z2 (by lia) (gQ.mp ht).1,HN (gQ.mp ht).1 (by lia)],zw D.y2 T2 r2 a (gQ.mpr (by lia)) b (gQ.mpr (by lia))]
   unfold dl
   by_cases z:a=b
   ·rw [if_pos z,if_pos (by rw [z])]
   ·rw [if_neg z,if_neg (by lia)]
end
theorem GM {f:Int->Int} {B:Int}:∀ {P:List Int},(∀ x∈P,0<=f x/\f x<=B)->0<=sm P f/\sm P f<=P.length*B
 | [],_=>by rw [tM];simp
 | x::P,h=>by
   have h1:=h x am
   have h2:=GM (P:=P) fun y hy=>h y (al _ hy)
   rw [dM,aJ]
   have:((P.length+1:Nat):Int)*B=P.length*B+B:=by rw [C0,Int.add_mul];simp
   lia
theorem IL {r:Int->Int->Bool}:∀ (k:Nat) {P:List Int},P.Nodup->P.length=k->k<=3->0<=cT r k P/\cT r k P<=3 ^ k
 | 0,_,_,_,_=>by simp [cT]
 | k+1,P,nd,hl,h3=>by
   have:=GM (P:=P) (f:=fun x=>if isT r P x=true then cT r k (rm P x) else 0) (B:=3 ^ k) fun x hx=>by
    by_cases z:isT r P x=true
    ·rw [if_pos z]
     exact IL k (CT nd x) (y6 nd hx hl) (by lia)
    ·rw [if_neg z]
     exact ⟨Int.le_refl _,ue (oA (by decide))⟩
   show 0<=sm P _/\sm P _<=_
   refine ⟨this.1,Int.le_trans this.2 ?_⟩
   rw [Int.pow_succ,ub,hl]
   exact Int.mul_le_mul_of_nonneg_left (by lia) (ue (oA (by decide)))
theorem Ct {n:Int} {L:List PI} (h3:n<=3):0<=cT (rl L) n.toNat (rgI 0 n.toNat)/\cT (rl L) n.toNat (rgI 0 n.toNat)<=27:=by
 have:=IL (r:=rl L) n.toNat (fP n.toNat 0) (eA _ _) (by lia)
 refine ⟨this.1,Int.le_trans this.2 ?_⟩
 have:n.toNat<=3:=by lia
 match n.toNat,this with
 | 0,_=>decide
 | 1,_=>decide
 | 2,_=>decide
 | 3,_=>decide
theorem C9 {i:Int} (j:Int) (h : -1000<=i/\i<=1000):ol i j=true:=by
 unfold ol
 rw [decide_eq_true (show -(2 ^ 64)<i by lia),decide_eq_true (show i<2 ^ 64 by lia)]
 rfl
section
variable {n1 n2:Int} {L1 L2 M:List PI}
theorem ut (D:Two n1 n2 L1 L2 M True):cT (rl M) (n1+n2).toNat (rgI 0 (n1+n2).toNat)=cT (rl L1) n1.toNat (rgI 0 n1.toNat)*cT (rl L2) n2.toNat (rgI 0 n2.toNat):=by
 have e1:=D.h1
 have e2:=D.h2
 have h:=vK (r:=rl M) (A:=rgI 0 n1.toNat) (fP _ _) n2.toNat ((rgI 0 n2.toNat).map fun x=>n1+x) (Jw (fP _ _)) (by rw [af,eA]) (fun a ha hb=>by
  obtain ⟨b,hb,e⟩:=aS.mp hb
  have:=gQ.mp ha
  have:=gQ.mp hb
  lia) fun a ha b hb=>by
  obtain ⟨k,hk,rfl⟩:=aS.mp hb
  exact ⟨decide_eq_true ((D.ab (gQ.mp ha) (gQ.mp hk)).mpr trivial),decide_eq_false (D.ba (gQ.mp ha).2 (gQ.mp hk).1)⟩
 rw [eA,<- D.split,show n2.toNat+n1.toNat=(n1+n2).toNat by lia] at h
 rw [h,J1 (r:=rl L1) (q:=rl M) _ _ fun x hx y hy=>?_,yq (r:=rl L2) (q:=rl M) _ _ (fun x hx y hy=>?_) fun _ _ _ _ e=>by lia]
 ·unfold rl
  rw [decide_eq_decide]
  exact D.bb (gQ.mp hx).1 (gQ.mp hy).1
 ·unfold rl
  rw [decide_eq_decide]
  exact D.aa (gQ.mp hx).2 (gQ.mp hy).2
theorem wZ (D:Two n1 n2 L1 L2 M True) (t:List Int):A5 M (rgI 0 (n1+n2).toNat) t↔A5 L1 (rgI 0 n1.toNat) t\/∃ K,A5 L2 (rgI 0 n2.toNat) K/\K≠[]/\rgI 0 n1.toNat++K.map (fun x=>n1+x)=t:=by
 constructor
 ·intro h
  obtain ⟨r1,r2,e⟩:=D2 (n1:=n1) h.ris
  have cl2:∀ x∈pb n1 t,∀ a,(a,x)∈L2->a∈pb n1 t:=fun x hx a ha=>mJ.mpr ⟨h.cl _ (mJ.mp hx).1 _ ((D.bb (yr D.y2 ha).1.1 (mJ.mp hx).2).mpr ha),(yr D.y2 ha).1.1⟩
  by_cases z:pb n1 t=[]
  ·rw [z,gO,cC] at e
   rw [e]
   exact .inl ⟨r1,HD h.sub,fun x hx a ha=>pS.mpr ⟨h.cl x (pS.mp hx).1 a ((D.m a x).mpr (.inl ha)),(yr D.y1 ha).1.2⟩⟩
  ·refine .inr ⟨pb n1 t,⟨r2,Io h.sub,cl2⟩,z,?_⟩
   obtain ⟨b,hb⟩:=p8 _ z
   have hb0:=gQ.mp (Io h.sub b hb)
   have ea:pa n1 t=rgI 0 n1.toNat:=Ms.strict_ext Ms.linI r1 (gK _ _) fun x=>⟨HD h.sub x,fun hx=>pS.mpr ⟨h.cl _ (mJ.mp hb).1 x ((D.ab (gQ.mp hx) hb0).mpr trivial),(gQ.mp hx).2⟩⟩
   rw [<- ea]
   exact e.symm
 ·rintro (h | ⟨K,h,ne,rfl⟩)
  ·refine ⟨h.ris,D.in1 h.sub,fun x hx a ha=>?_⟩
   have hx0:=gQ.mp (h.sub x hx)
   rcases (D.m a x).mp ha with z | z | z
   ·exact h.cl x hx a z
   ·have:=yr D.y2 z;lia
   ·lia
  ·refine ⟨zc (gK _ _) h.ris (fun x hx=>(gQ.mp hx).2) fun x hx=>(gQ.mp (h.sub x hx)).1,fun x hx=>?_,fun x hx a ha=>?_⟩
   ·rcases aA.mp hx with z | z
    ·exact D.in1 (fun _ q=>q) x z
    ·exact D.in2 h.sub x z
   ·rw [aA]
    rcases (D.m a x).mp ha with z | z | z
    ·exact .inl (gQ.mpr (yr D.y1 z).1)
    ·have hz:=yr D.y2 z
     rcases aA.mp hx with w | w
     ·have:=gQ.mp w;lia
     ·obtain ⟨k,hk,rfl⟩:=aS.mp w
      rw [show n1+k-n1=k by lia] at z
      exact .inr (aS.mpr ⟨a-n1,h.cl k hk _ z,by lia⟩)
    ·exact .inl (gQ.mpr z.2.1)
end
theorem AK {f:Int->Int} {B:Int}:∀ {P:List Int},(∀ x∈P,-B<=f x/\f x<=B)->-(P.length*B)<=sm P f/\sm P f<=P.length*B
 | [],_=>by rw [tM];simp
 | x::P,h=>by
   have h1:=h x am
   have h2:=AK (P:=P) fun y hy=>h y (al _ hy)
   rw [dM,aJ]
   have:((P.length+1:Nat):Int)*B=P.length*B+B:=by rw [C0,Int.add_mul];simp
   lia
theorem AM {n:Int} {L:List PI} (Y:Yd n L) (h3:n<=3) (b:Int):(c9 (low L) b).length<=3:=by
 have:=Ms.length_le_of_subset (sE L b) (m:=rgI 0 n.toNat) fun a ha=>gQ.mpr (yr Y ((fB L b a).mp ha)).1
 rw [eA] at this
 lia
theorem Ky {n:Int} {L:List PI} {w:Int->Int->Int} (Y:Yd n L) (h3:n<=3) (T:Tri n L w) (r:∀ a b,(a,b)∈L->w a b = -(sm (c9 (low L) b) (w a))) (a:Int):∀ (k:Nat) (b:Int),(c9 (low L) b).length<=k->-(3 ^ k)<=w a b/\w a b<=3 ^ k
 | k,b,hk=>by
   have pos:(1:Int)<=3 ^ k:=oA (by decide)
   by_cases e:a=b
   ·rw [<- e,T.one]
    lia
   ·by_cases h:(a,b)∈L
    ·match k,hk with
     | 0,hk =>
       have:a∈c9 (low L) b:=(fB L b a).mpr h
       rw [eP.mp (Nat.le_zero.mp hk)] at this
       cases this
     | k+1,hk =>
       have:=AK (P:=c9 (low L) b) (f:=w a) (B:=3 ^ k) fun u hu=>Ky Y h3 T r a k u (by
        have hub:=(fB L b u).mp hu
        have:=Ms.length_le_of_subset (l:=u::c9 (low L) u) (m:=c9 (low L) b) (bi.mpr ⟨fun z=>Y.irr u ((fB L u u).mp z),sE L u⟩) fun x hx=>by
         rcases aE.mp hx with z | z
         ·rw [z];exact hu
         ·exact (fB L b x).mpr (Y.tr _ _ _ ((fB L u x).mp z) hub)
        rw [aJ] at this
        lia)
       have p:(0:Int)<=3 ^ k:=ue (oA (by decide))
       have l3:=AM Y h3 b
       have:((c9 (low L) b).length:Int)*3 ^ k<=3*3 ^ k:=Int.mul_le_mul_of_nonneg_right (by lia) p
       rw [r a b h,Int.pow_succ]
       lia
    ·rw [T.off a b e h]
     lia
theorem Kg {n:Int} {L:List PI} {w:Int->Int->Int} (Y:Yd n L) (h3:n<=3) (T:Tri n L w) (r:∀ a b,(a,b)∈L->w a b = -(sm (c9 (low L) b) (w a))) (a:Int) : -1000<=sm (rgI 0 n.toNat) (w a)/\sm (rgI 0 n.toNat) (w a)<=1000:=by
 have:=AK (P:=rgI 0 n.toNat) (f:=w a) (B:=3 ^ 3) fun u _=>Ky Y h3 T r a 3 u (AM Y h3 u)
 rw [eA] at this
 have:(n.toNat:Int)<=3:=by lia
 lia
noncomputable def sh (k:Int) (p:PI):PI:=(k+p.1,k+p.2)
noncomputable def FR {α:Type}:List α->List (List α)
 | []=>[[]]
 | x::l=>FR l++(FR l).map fun r=>x::r
theorem qU {α:Type} (p:α->Bool):∀ l:List α,l.filter p∈FR l
 | []=>ay.mpr rfl
 | x::l=>by
   show _∈FR l++(FR l).map fun r=>x::r
   rw [aA]
   cases h:p x with
   | true=>rw [ju h];exact .inr (aS.mpr ⟨_,qU p l,rfl⟩)
   | false=>rw [gy (by rw [h];exact aM)];exact .inl (qU p l)
noncomputable def Ji (n:Nat):List PI:=(rgI 0 n).flatMap fun a=>((rgI 0 n).filter fun b=>decide (a≠b)).map fun b=>(a,b)
noncomputable def okP (L:List PI):Bool:=L.all fun p=>L.all fun q=>!decide (p.2=q.1)||decide ((p.1,q.2)∈L)
noncomputable def ys (n:Nat):List (List PI):=(FR (Ji n)).filter okP
theorem zW {n:Int} {L:List PI} (Y:Yd n L):L∈ys n.toNat:=by
 have hs:(Ji n.toNat).Pairwise fun p q=>Ms.ltP p q=true:=uf.mpr ⟨fun a _=>bx.mpr (((gK _ _).sublist cI).imp fun {b c} h=>(Ms.ltP_iff (p:=(a,b)) (q:=(a,c))).mpr (.inr ⟨rfl,of_decide_eq_true h⟩)),(gK _ _).imp fun {a b} h x hx y hy=>by
  obtain ⟨_,_,rfl⟩:=aS.mp hx
  obtain ⟨_,_,rfl⟩:=aS.mp hy
  exact Ms.ltP_iff.mpr (.inl (of_decide_eq_true h))⟩
 refine a9.mpr ⟨?_,bX.mpr fun p hp=>bX.mpr fun q hq=>?_⟩
 ·have e:L=(Ji n.toNat).filter fun p=>decide (p∈L):=Ms.strict_ext Ms.linP Y.srt (hs.sublist cI) fun p=>by
   rw [a9,decide_eq_true_eq]
   refine ⟨fun h=>⟨?_,h⟩,fun h=>h.2⟩
   have hr:=Y.rg p h
   exact mY.mpr ⟨p.1,fE.mpr (by lia),aS.mpr ⟨p.2,a9.mpr ⟨fE.mpr (by lia),decide_eq_true fun z=>Y.irr p.1 (by
    have h:(p.1,p.2)∈L:=h
    rwa [<- z] at h)⟩,rfl⟩⟩
  have:=qU (fun p=>decide (p∈L)) (Ji n.toNat)
  rwa [<- e] at this
 ·by_cases z:p.2=q.1
  ·rw [decide_eq_true (Y.tr p.1 q.1 q.2 (by rw [<- z];exact hp) hq),Bool.or_true]
  ·rw [decide_eq_false z]
   rfl
theorem HC {α:Type} {l:List α} {x:α} (h:x∈l):∃ i,4*i<l.length/\x∈(l.drop (4*i)).take 4:=by
 obtain ⟨k,hk,e⟩:=cH h
 refine ⟨k / 4,by lia,bz (i:=k-4*(k / 4)) ?_⟩
 rw [rD (by lia),List.getElem?_drop,show 4*(k / 4)+(k-4*(k / 4))=k by lia,aj hk,e]
theorem Ij:(ys 1).length=1/\(ys 2).length=3/\(ys 3).length=19:=by decide +kernel
noncomputable def lnD:Option Da->Option Nat
 | some (.tup l)=>some l.length
 | _=>none
theorem vT {o:Option Da} {v:Nat} (h:lnD o=some v):∃ l,o=some (.tup l)/\l.length=v:=by
 unfold lnD at h
 split at h
 ·exact ⟨_,rfl,bH h⟩
 ·cases h
noncomputable def fl (L:List PI):Nat:=if L.length=0 then 1 else if L.length=3 then 3 else 2
noncomputable def br (n:Nat) (L:List PI):Nat:=n-(if L.length=0 then 0 else if L.length=3 then 2 else 1)
noncomputable def ck1 (n:Nat):Bool:=(ys n).all fun L=>(lnD (fn_floors [dY n L]) == some (fl L))&&(lnD (fn_broadest [dY n L]) == some (br n L))
theorem Gq {n:Nat} (h1:1<=n) (h3:n<=3):ck1 n=true:=by
 match n,h1,h3 with
 | 1,_,_=>decide +kernel
 | 2,_,_=>decide +kernel
 | 3,_,_=>decide +kernel
theorem few {n:Int} {L:List PI} (Y:Yd n L) (h1:1<=n) (h3:n<=3):(∃ l,fn_floors [dY n L]=some (.tup l)/\l.length=fl L)/\∃ l,fn_broadest [dY n L]=some (.tup l)/\l.length=br n.toNat L:=by
 have:=bX.mp (Gq (n:=n.toNat) (by lia) (by lia)) L (zW Y)
 rw [aT,beq_iff_eq,beq_iff_eq,show ((n.toNat:Nat):Int)=n by lia] at this
 exact ⟨vT this.1,vT this.2⟩
theorem Ay {k x y:Int} {L:List PI}:(x,y)∈L.map (sh k)↔(x-k,y-k)∈L:=by
 rw [aS]
 constructor
 ·rintro ⟨⟨a,b⟩,h,e⟩
  injection e with e1 e2
  rw [<- e1,<- e2]
  dsimp only
  rw [show k+a-k=a by lia,show k+b-k=b by lia]
  exact h
 ·intro h
  exact ⟨_,h,by unfold sh;dsimp only;rw [show k+(x-k)=x by lia,show k+(y-k)=y by lia]⟩
theorem mx {n:Int} {L:List PI} (Y:Yd n L) (h0:0<=n) (h3:n<=3):L.length<=4:=by
 have:=v6 Y.nd Y.rg fun a b h h'=>Y.irr a (Y.tr _ _ _ h h')
 have h:=kK (show n.toNat<=3 by lia) (show n.toNat<=3 by lia)
 lia
theorem yT {ρ:Rho} {ix:List (Option Nat)} {k:Int} {L:List PI} {fi:Rho->Option (List Da)} {f:Rho->Option Rv} (h:fi ρ=some (L.map dP)) (hl:L.length<=1000) (hf:∀ a b:Int,f (((mpR ix ρ).set 1 (.pu (.int a))).set 2 (.pu (.int b)))=some (.pu,dP (sh k (a,b)))) :
 fK ix fi (tgT 2 (gE (tgN 1) (gE (tgN 2) mV))) (fun _=>some true) f ρ=some (.fr,.lst ((L.map (sh k)).map dP)):=by
 have hc:=sj (enc:=dP) (xs:=L) (ix:=ix) (fi:=fi) (i:=1) (j:=2) (c:=fun _=>some true) (f:=f) (ρ:=ρ) (p:=fun _=>true) (e:=fun p=>dP (sh k p)) (a:=fun p=>.int p.1) (b:=fun p=>.int p.2)
  h (by lia) (fun p hp=>⟨rfl,fun _=>⟨(.pu,dP (sh k p)),hf p.1 p.2,rfl,rfl⟩⟩) (by decide) fun _=>rfl
 rw [fF] at hc
 rw [hc,aQ]
 rfl
theorem oj {g:Rho->Option (List Rv)} {ρ:Rho} {k:Kd} {n:Int} (h:g ρ=some [(k,.int n)]) (h0:0<=n) (h1:n<=1000):k3 g ρ=some ((rgI 0 n.toNat).map Da.int):=by
 rw [sA,h]
 dsimp only
 rw [if_pos (by lia),eB]
theorem Ds {f g:Rho->Option Rv} {ρ:Rho} {k k':Kd} {i j:Int} (hf:f ρ=some (k,.int i)) (hg:g ρ=some (k',.int j)) (h:ol i j=true):x2 (oI ol (·*·)) f g ρ=some (.pu,.int (i*j)):=by
 rw [uI,hf,hg]
 dsimp only
 rw [KQ,if_pos h]
theorem Dg {ρ:Rho} {ix:List (Option Nat)} {fi:Rho->Option (List Da)} {f:Rho->Option Rv} {n:Int} {v:Int->Int} (h:fi ρ=some ((rgI 0 n.toNat).map Da.int)) (h1:n<=1000) (hf:∀ c,f ((mpR ix ρ).set 1 (.pu (.int c)))=some (.pu,.int (v c))):xB zk (aH (fK ix fi (tgN 1) (fun _=>some true) f) bU) ρ=some (.pu,.int (sm (rgI 0 n.toNat) v)):=by
 have hc:=fM (enc:=Da.int) (xs:=rgI 0 n.toNat) (ix:=ix) (fi:=fi) (i:=1) (c:=fun _=>some true) (f:=f) (ρ:=ρ) (p:=fun _=>true) (e:=fun c=>.int (v c)) h (by rw [eA];lia) fun c _=>⟨rfl,fun _=>⟨(.pu,.int (v c)),hf c,rfl,rfl⟩⟩
 rw [fF] at hc
 rw [uM,cP,hc,eK]
 exact Ao _ _ _
theorem GU {f g:Rho->Option Rv} {ρ:Rho} {k k':Kd} {i j:Int} (hf:f ρ=some (k,.int i)) (hg:g ρ=some (k',.int j)):x2 gW f g ρ=some (.pu,.int (i+j)):=by
 rw [uI,hf,hg]
 rfl
theorem GK {f g:Rho->Option Rv} {ρ:Rho} {k k':Kd} {a b:Nat} (hf:f ρ=some (k,.int (a:Int))) (hg:g ρ=some (k',.int (b:Int))):xB FO (aH f (aH g bU)) ρ=some (.pu,.int ((max a b:Nat):Int)):=by
 rw [uM,cP,hf]
 dsimp only
 rw [cP,hg,eK]
 dsimp only
 show some (Kd.pu,Da.int (if (a:Int)<b then (b:Int) else a))=_
 congr 3
 split<;>lia
theorem Dm {k:Int}:∀ {A B:List Int},(A.map fun x=>k+x)=(B.map fun x=>k+x)->A=B
 | [],[],_=>rfl
 | [],_::_,h=>by cases h
 | _::_,[],h=>by cases h
 | a::A,b::B,h=>by
   rw [aD,aD] at h
   injection h with h1 h2
   rw [Dm h2,show a=b by lia]
theorem Jq {ρ:Rho} {ix:List (Option Nat)} {fi:Rho->Option (List Da)} {k:Int} {K:List Int} (h:fi ρ=some (K.map Da.int)) (hl:K.length<=1000) (hf:∀ x:Int,x2 gW (aY 1) (aY 2) ((mpR ix ρ).set 1 (.pu (.int x)))=some (.pu,.int (x+k))):xB fV (aH (fK ix fi (tgN 1) (fun _=>some true) (x2 gW (aY 1) (aY 2))) bU) ρ=some (.pu,dT (K.map fun x=>k+x)):=by
 have hc:=fM (enc:=Da.int) (xs:=K) (ix:=ix) (fi:=fi) (i:=1) (c:=fun _=>some true) (f:=x2 gW (aY 1) (aY 2)) (ρ:=ρ) (p:=fun _=>true) (e:=fun x=>.int (k+x)) h (by lia) fun x _=>⟨rfl,fun _=>⟨(.pu,.int (k+x)),by rw [hf,ug],rfl,rfl⟩⟩
 rw [fF] at hc
 rw [uM,cP,hc,eK]
 unfold dT
 rw [aQ]
 rfl
theorem HV {f g:Rho->Option Rv} {ρ:Rho} {k k':Kd} {H K:List Int} (hf:f ρ=some (k,dT H)) (hg:g ρ=some (k',dT K)) (hl:H.length+K.length<=1000):x2 gW f g ρ=some (.pu,dT (H++K)):=by
 rw [uI,hf,hg]
 dsimp only
 unfold dT
 rw [zV,if_pos (by rw [af,af];lia),bC]
theorem yE {f:Rho->Option Rv} {ρ:Rho} {k:Kd} {ts:List (List Int)} (hf:f ρ=some (k,.lst (ts.map dT))\/f ρ=some (k,.tup (ts.map dT))) (h:OkN ts):xB gH (aH f bU) ρ=some (.fr,.lst ((Ms.srt HT.lexLt ts).map dT)):=by
 rcases hf with hf | hf<;>rw [uM,cP,hf,eK]<;>dsimp only<;>unfold gH<;>dsimp only<;>rw [GY h]
noncomputable def cr (k:Int) (m:Nat) (A:List Int):List PI:=A.flatMap fun a=>(rgI 0 m).map fun b=>(a,k+b)
noncomputable def abX (n1 n2:Int) (L1 L2:List PI):List PI:=(L1++L2.map (sh n1))++cr n1 n2.toNat (rgI 0 n1.toNat)
noncomputable def abY (n1 n2:Int) (L1 L2:List PI):List PI:=Ms.srt Ms.ltP (abX n1 n2 L1 L2)
noncomputable def ck3 (n1 n2 i:Nat):Bool:=(((ys n1).drop (4*i)).take 4).all fun L1=>(ys n2).all fun L2=>(lnD (fn_floors [dY ((n1:Int)+n2) (abY n1 n2 L1 L2)]) == some (fl L1+fl L2))&&(lnD (fn_broadest [dY ((n1:Int)+n2) (abY n1 n2 L1 L2)]) == some (max (br n1 L1) (br n2 L2)))
set_option maxHeartbeats 8000000 in
theorem GZ {n1 n2 i:Nat} (h1:1<=n1) (h3:n1<=3) (h1':1<=n2) (h3':n2<=3) (hi:4*i<(ys n1).length):ck3 n1 n2 i=true:=by
 obtain ⟨e1,e2,e3⟩:=Ij
 have a:n1=1\/n1=2\/n1=3:=by lia
 have b:n2=1\/n2=2\/n2=3:=by lia
 rcases a with rfl | rfl | rfl
 ·obtain rfl:i=0:=by lia
  rcases b with rfl | rfl | rfl<;>decide +kernel
 ·obtain rfl:i=0:=by lia
  rcases b with rfl | rfl | rfl<;>decide +kernel
 ·have c:i=0\/i=1\/i=2\/i=3\/i=4:=by lia
  rcases b with rfl | rfl | rfl<;>rcases c with rfl | rfl | rfl | rfl | rfl<;>decide +kernel
theorem KH {n1 n2:Int} {L1 L2:List PI} (Y1:Yd n1 L1) (h1:1<=n1) (h3:n1<=3) (Y2:Yd n2 L2) (h1':1<=n2) (h3':n2<=3):(∃ l,fn_floors [dY (n1+n2) (abY n1 n2 L1 L2)]=some (.tup l)/\l.length=fl L1+fl L2)/\∃ l,fn_broadest [dY (n1+n2) (abY n1 n2 L1 L2)]=some (.tup l)/\l.length=max (br n1.toNat L1) (br n2.toNat L2):=by
 obtain ⟨i,hi,hm⟩:=HC (zW Y1)
 have:=bX.mp (bX.mp (GZ (n1:=n1.toNat) (n2:=n2.toNat) (by lia) (by lia) (by lia) (by lia) hi) L1 hm) L2 (zW Y2)
 rw [aT,beq_iff_eq,beq_iff_eq,show ((n1.toNat:Nat):Int)=n1 by lia,show ((n2.toNat:Nat):Int)=n2 by lia] at this
 exact ⟨vT this.1,vT this.2⟩
end GE
namespace G15
open PySem L2 Ry G G3 GW GH GF GT GE
theorem Dc {k x y:Int} {m:Nat} {A:List Int}:(x,y)∈cr k m A↔x∈A/\k<=y/\y<k+m:=by
 unfold cr
 rw [mY]
 constructor
 ·rintro ⟨a,ha,h⟩
  obtain ⟨b,hb,e⟩:=aS.mp h
  injection e with e1 e2
  have:=fE.mp hb
  rw [<- e1]
  exact ⟨ha,by lia⟩
 ·rintro ⟨h1,h2⟩
  exact ⟨x,h1,aS.mpr ⟨y-k,fE.mpr (by lia),by rw [show k+(y-k)=y by lia]⟩⟩
theorem JY {k:Int} {m:Nat} {A:List Int} (h:A.Nodup):(cr k m A).Nodup:=uf.mpr ⟨fun a _=>bx.mpr ((fP m 0).imp fun ne e=>ne (by injection e with _ e2;lia)),h.imp fun {a b} ne x hx y hy e=>ne (by
 obtain ⟨_,_,rfl⟩:=aS.mp hx
 obtain ⟨_,_,rfl⟩:=aS.mp hy
 injection e)⟩
theorem vC {k:Int} {m:Nat}:∀ {A:List Int},(cr k m A).length=A.length*m
 | []=>by simp [cr]
 | a::A=>by
   show ((rgI 0 m).map (fun b=>((a,k+b):PI))++cr k m A).length=_
   rw [aO,af,eA,vC (A:=A),aJ,Nat.add_mul]
   lia
section
variable {n1 n2:Int} {L1 L2:List PI}
theorem Hq (h1:0<=n1) (h2:0<=n2) (Y1:Yd n1 L1) (Y2:Yd n2 L2):Two n1 n2 L1 L2 (abY n1 n2 L1 L2) True where
 h1:=h1
 h2:=h2
 y1:=Y1
 y2:=Y2
 m:=fun x y=>by
  unfold abY
  rw [(Ms.srt_perm _).mem_iff]
  unfold abX
  rw [aA,aA,Ay,Dc,gQ,or_assoc]
  refine or_congr Iff.rfl (or_congr Iff.rfl ?_)
  have:((n2.toNat:Nat):Int)=n2:=by lia
  rw [this]
  exact ⟨fun h=>⟨trivial,h⟩,fun h=>h.2⟩
 s:=by
  refine Ms.srt_strict Ms.linP (bj.mpr ⟨bj.mpr ⟨Y1.nd,bx.mpr (Y2.nd.imp fun {p q} ne e=>ne (by
   injection e with e1 e2
   exact ku (by lia) (by lia))),fun p hp q hq e=>?_⟩,JY (fP _ _),fun p hp q hq e=>?_⟩)
  ·subst e
   have:=yr Y1 (show (p.1,p.2)∈L1 from hp)
   have:=yr Y2 (Ay.mp (show (p.1,p.2)∈L2.map (sh n1) from hq))
   lia
  ·subst e
   obtain ⟨c1,c2⟩:=Dc.mp (show (p.1,p.2)∈cr n1 n2.toNat (rgI 0 n1.toNat) from hq)
   have:=gQ.mp c1
   rcases aA.mp hp with z | z
   ·have:=yr Y1 (show (p.1,p.2)∈L1 from z)
    lia
   ·have:=yr Y2 (Ay.mp (show (p.1,p.2)∈L2.map (sh n1) from z))
    lia
theorem zh (h0:0<=n1) (h3:n1<=3) (h0':0<=n2) (h3':n2<=3) (Y1:Yd n1 L1) (Y2:Yd n2 L2):(abX n1 n2 L1 L2).length<=17:=by
 unfold abX
 rw [aO,aO,af,vC,eA]
 have:=mx Y1 h0 h3
 have:=mx Y2 h0' h3'
 have h:=kK (show n1.toNat<=3 by lia) (show n2.toNat<=3 by lia)
 lia
end
theorem wM {m:Int} {S:List PI} (h:S.length<64):fn_yard_of [.int m,.lst (S.map dP)]=some (dY m (Ms.srt Ms.ltP S)):=by
 have hso:gn [(Kd.pu,Da.lst (S.map dP))]=some (.fr,.lst ((Ms.srt Ms.ltP S).map dP)):=by
  unfold gn
  dsimp only
  rw [u3 h]
 refine pI (ρ:=[.pu (.int m),.pu (.lst (S.map dP))]) rfl ?_
 simp [g_yard_of,hso,dY]
theorem CK {n1 n2:Int} {L1 L2:List PI} (h1:L1.length<=1000) (h2:L2.length<=1000):fn_pairs_of_both [dY n1 L1,dY n2 L2]=some (.lst ((L1++L2.map (sh n1)).map dP)):=by
 have hc:=yT (ρ:=[.pu (dY n1 L1),.pu (dY n2 L2),.pu (.int n1)]) (ix:=[none,none,none,some 2]) (k:=n1) (fi:=c4 (jb (x2 oIt (aY 1) (xC (.int 1))))) (f:=lA (aH (x2 gW (aY 3) (aY 1)) (aH (x2 gW (aY 3) (aY 2)) bU))) (L:=L2) (by simp [dY]) h2 fun a b=>rfl
 have q:xB mq (aH (x2 oIt (aY 0) (xC (.int 1))) bU) [.pu (dY n1 L1),.pu (dY n2 L2),.pu (.int n1)]=some (.fr,.lst (L1.map dP)):=rfl
 have e:f_pairs_of_both [.pu (dY n1 L1),.pu (dY n2 L2),.pu (.int n1)]=some (.fr,.lst ((L1++L2.map (sh n1)).map dP)):=by
  unfold f_pairs_of_both
  rw [uI,q,hc]
  dsimp only
  rw [vv,if_pos (by rw [af,af,af];lia),bC]
 show (match f_pairs_of_both [.pu (dY n1 L1),.pu (dY n2 L2),.pu (.int n1)] with | some (.fr,d)=>some d | _=>none)=_
 rw [e]
theorem yg {fn:List Da->Option Da} {g:Rho->Option (List Rv)} {ρ:Rho} {rs:List Rv} {ds:List Da} {d:Da} (hg:g ρ=some rs) (hp:ji rs=some ds) (hf:fn ds=some d):pK fn g ρ=some (.fr,d):=by
 unfold pK
 rw [hg]
 dsimp only
 rw [hp]
 dsimp only
 rw [hf]
theorem EH {k:Int} {m:Nat} {A:List Int} {a:Int}:cr k m (A++[a])=cr k m A++(rgI 0 m).map fun b=>((a,k+b):PI):=by
 unfold cr
 rw [List.flatMap_append]
 simp
theorem C6 {ρ:Rho} {i:Nat} {k a:Int} {m:Nat} {X:List PI} {A:List Int} {f:Rho->Option Rv} (h:ρ[i]?=some (.ow (.lst ((X++cr k m A).map dP)))) (hl:(X++cr k m A).length+m<=1000) (hc:f ρ=some (.fr,.lst ((rgI 0 m).map fun b=>dP (a,k+b)))) :
 kO i f ρ=.nx (ρ.set i (.ow (.lst ((X++cr k m (A++[a])).map dP)))):=by
 rw [zg,h,hc]
 dsimp only
 rw [if_pos (by rw [af,af,eA];lia),EH,<- fz,bC (l₁:=X++cr k m A),aQ]
 rfl
theorem BY {n1 n2:Int} {L1 L2:List PI} (h0:0<=n1) (h3:n1<=3) (h0':0<=n2) (h3':n2<=3) (Y1:Yd n1 L1) (Y2:Yd n2 L2):fn_above [dY n1 L1,dY n2 L2]=some (dY (n1+n2) (abY n1 n2 L1 L2)):=by
 have l1:=mx Y1 h0 h3
 have l2:=mx Y2 h0' h3'
 have lx:=zh h0 h3 h0' h3' Y1 Y2
 refine vV ?_
 unfold g_above
 have e0:ff 5 [dY n1 L1,dY n2 L2]=[.pu (dY n1 L1),.pu (dY n2 L2),.no,.no,.no]:=rfl
 rw [e0]
 refine c7 (eO (ρ':=[.pu (dY n1 L1),.pu (dY n2 L2),.pu (.int (n1+n2)),.no,.no]) rfl ?_)
 refine c7 (eO (ρ':=[.pu (dY n1 L1),.pu (dY n2 L2),.pu (.int (n1+n2)),.ow (.lst (((L1++L2.map (sh n1))++cr n1 n2.toNat []).map dP)),.no]) ?_ ?_)
 ·have q:=CK (n1:=n1) (n2:=n2) (L1:=L1) (L2:=L2) (by lia) (by lia)
  have e:cr n1 n2.toNat []=[]:=rfl
  rw [e,cC,DB,yg (ds:=[dY n1 L1,dY n2 L2]) rfl rfl q]
  rfl
 have e17:∀ pre post:List Int,rgI 0 n1.toNat=pre++post->((L1++L2.map (sh n1))++cr n1 n2.toNat pre).length<=17:=fun pre post e=>by
  refine bO ?_ lx
  unfold abX
  simp only [aO,vC,e]
  have:=wJ n2.toNat (show pre.length<=pre.length+post.length by lia)
  lia
 refine c7 (iW (enc:=Da.int) (xs:=rgI 0 n1.toNat) (fun pre ρ=>∃ s4,ρ=[.pu (dY n1 L1),.pu (dY n2 L2),.pu (.int (n1+n2)),.ow (.lst (((L1++L2.map (sh n1))++cr n1 n2.toNat pre).map dP)),s4]) (oj (k:=.pu) rfl h0 (by lia)) ⟨_,rfl⟩ ?_ ?_)
 ·rintro pre a post ρ e ⟨s4,rfl⟩
  refine ⟨[.pu (dY n1 L1),.pu (dY n2 L2),.pu (.int (n1+n2)),.ow (.lst (((L1++L2.map (sh n1))++cr n1 n2.toNat pre).map dP)),.pu (.int a)],rfl,?_⟩
  have hc:=fM (enc:=fun b=>Da.int (n1+b)) (xs:=rgI 0 n2.toNat) (ix:=[none,none,some 4]) (fi:=Dn (aH (x2 oIt (aY 0) (xC (.int 0))) (aH (aY 2) bU))) (i:=1) (c:=fun _=>some true) (f:=lA (aH (aY 2) (aH (aY 1) bU)))
   (ρ:=[.pu (dY n1 L1),.pu (dY n2 L2),.pu (.int (n1+n2)),.ow (.lst (((L1++L2.map (sh n1))++cr n1 n2.toNat pre).map dP)),.pu (.int a)]) (p:=fun _=>true) (e:=fun b=>dP (a,n1+b)) (by
     show (if -(2 ^ 62)<=n1/\n1<2 ^ 62/\-(2 ^ 62)<=n1+n2/\n1+n2<2 ^ 62 then some (eW n1 (n1+n2-n1).toNat) else none)=_
     rw [if_pos (by lia),eB,show n1+n2-n1=n2 by lia]
     have:=yP n1 n2.toNat 0
     rw [mQ] at this
     rw [this,aQ]
     rfl) (by rw [eA];lia) fun b _=>⟨rfl,fun _=>⟨(.pu,dP (a,n1+b)),rfl,rfl,rfl⟩⟩
  rw [fF] at hc
  refine eO (C6 (A:=pre) (X:=L1++L2.map (sh n1)) rfl (by have:=e17 pre _ e;lia) hc) ⟨_,rfl⟩
 ·rintro ρ ⟨s4,rfl⟩
  refine sa (d:=dY (n1+n2) (abY n1 n2 L1 L2)) ?_ rfl
  show fj (cm fn_yard_of (aH (aY 2) (aH (aY 3) bU))) [.pu (dY n1 L1),.pu (dY n2 L2),.pu (.int (n1+n2)),.pu (.lst ((abX n1 n2 L1 L2).map dP)),s4]=_
  rw [jl,cZ (ds:=[.int (n1+n2),.lst ((abX n1 n2 L1 L2).map dP)]) rfl rfl (wM (by lia))]
  rfl
theorem ET {n:Int} {L:List PI} {w:Int->Int->Int} (Y:Yd n L) (T:Tri n L w) (r:∀ a b,(a,b)∈L->w a b = -(sm (c9 (low L) b) (w a))) {a:Int} (ha:a∈rgI 0 n.toNat):sm (rgI 0 n.toNat) (fun t=>zt L a t*sm (rgI 0 n.toNat) (w t))=1:=by
 rw [cE (g:=fun t=>sm (rgI 0 n.toNat) fun c=>zt L a t*w t c) fun t _=>(nD _ _ _).symm,qv,cE (g:=fun c=>dl a c*1) fun c hc=>by rw [zw Y T r a ha c hc,ik]]
 exact HE (fP _ _) ha fun _=>1
theorem w9 {n1 n2:Int} {L1 L2 M:List PI} (h3:n1<=3) (h3':n2<=3) (D:Two n1 n2 L1 L2 M True) (hl:M.length<=1000):fn__law_weights_right [dY n1 L1,dY n2 L2,dY (n1+n2) M]=some (.bl true):=by
 have h0:=D.h1
 have h0':=D.h2
 have l1:=mx D.y1 h0 h3
 have l2:=mx D.y2 h0' h3'
 obtain ⟨w1,e1,T1,r1⟩:=oa D.y1 (by lia) (by lia) (by lia)
 obtain ⟨w2,e2,T2,r2⟩:=oa D.y2 (by lia) (by lia) (by lia)
 obtain ⟨w,e,T,r⟩:=oa D.yd (by lia) (by lia) hl
 have W:=fun {a b:Int}=>D.weight (q:=fun a b=>-(sm (rgI 0 n1.toNat) (w1 a))*sm (rgI 0 n2.toNat) (fun c=>w2 c b)) (e:=1) (a:=a) (b:=b) T1 r1 T2 r2 T r (fun a b ha hb=>if_pos (.inr ((D.ab ha hb).mpr trivial))) fun a b ha hb=>by
  have o:=ET D.y1 T1 r1 (gQ.mpr ha)
  rw [cE (g:=fun t=>(zt L1 a t*sm (rgI 0 n1.toNat) (w1 t))*-(sm (rgI 0 n2.toNat) fun c=>w2 c b)) fun t _=>by rw [Int.neg_mul,Int.mul_neg,Int.mul_neg,rO],u9,o,cE (g:=fun t=>w2 t b) fun t _=>kL _]
  lia
 refine vV ?_
 unfold g__law_weights_right
 have e0:ff 8 [dY n1 L1,dY n2 L2,dY (n1+n2) M]=[.pu (dY n1 L1),.pu (dY n2 L2),.pu (dY (n1+n2) M),.no,.no,.no,.no,.no]:=rfl
 rw [e0]
 refine c7 (eO (ρ':=[.pu (dY n1 L1),.pu (dY n2 L2),.pu (dY (n1+n2) M),.pu (.int n1),.no,.no,.no,.no]) rfl ?_)
 refine c7 (iW (enc:=Da.int) (xs:=rgI 0 n1.toNat) (fun _ ρ=>∃ s4 s5 s6 s7,ρ=[.pu (dY n1 L1),.pu (dY n2 L2),.pu (dY (n1+n2) M),.pu (.int n1),s4,s5,s6,s7]) (oj (k:=.pu) rfl h0 (by lia)) ⟨_,_,_,_,rfl⟩ ?_ ?_)
 ·rintro pre a post ρ ep ⟨s4,s5,s6,s7,rfl⟩
  have ha:a∈rgI 0 n1.toNat:=by rw [ep];simp
  refine ⟨[.pu (dY n1 L1),.pu (dY n2 L2),.pu (dY (n1+n2) M),.pu (.int n1),.pu (.int a),s5,s6,s7],rfl,?_⟩
  refine c7 (eO (ρ':=[.pu (dY n1 L1),.pu (dY n2 L2),.pu (dY (n1+n2) M),.pu (.int n1),.pu (.int a),.pu (.int (sm (rgI 0 n1.toNat) (w1 a))),s6,s7]) ?_ ?_)
  ·rw [lw,Dg (v:=w1 a) (oj (k:=.pu) rfl h0 (by lia)) (by lia) fun c=>cZ (ds:=[dY n1 L1,.int a,.int c]) rfl rfl (e1 a c)]
   rfl
  refine iW (enc:=Da.int) (xs:=rgI 0 n2.toNat) (fun _ ρ=>∃ s6 s7,ρ=[.pu (dY n1 L1),.pu (dY n2 L2),.pu (dY (n1+n2) M),.pu (.int n1),.pu (.int a),.pu (.int (sm (rgI 0 n1.toNat) (w1 a))),s6,s7]) (oj (k:=.pu) rfl h0' (by lia)) ⟨_,_,rfl⟩ ?_ ?_
  ·rintro pre' b post' ρ ep' ⟨s6,s7,rfl⟩
   have hb:b∈rgI 0 n2.toNat:=by rw [ep'];simp
   refine ⟨[.pu (dY n1 L1),.pu (dY n2 L2),.pu (dY (n1+n2) M),.pu (.int n1),.pu (.int a),.pu (.int (sm (rgI 0 n1.toNat) (w1 a))),.pu (.int b),s7],rfl,?_⟩
   refine c7 (eO (ρ':=[.pu (dY n1 L1),.pu (dY n2 L2),.pu (dY (n1+n2) M),.pu (.int n1),.pu (.int a),.pu (.int (sm (rgI 0 n1.toNat) (w1 a))),.pu (.int b),.pu (.int (sm (rgI 0 n2.toNat) fun c=>w2 c b))]) ?_ ?_)
   ·rw [lw,Dg (v:=fun c=>w2 c b) (oj (k:=.pu) rfl h0' (by lia)) (by lia) fun c=>cZ (ds:=[dY n2 L2,.int c,.int b]) rfl rfl (e2 c b)]
    rfl
   refine qY (b:=false) ?_ (fun q=>absurd q aM) fun _=>eO rfl ⟨_,_,rfl⟩
   have ha0:=gQ.mp ha
   have hb0:=gQ.mp hb
   have v1:=e a (n1+b)
   rw [W (gQ.mpr (by lia)) (gQ.mpr (by lia)),HY ha0.2 hb0.1] at v1
   have v2:=e (n1+b) a
   rw [W (gQ.mpr (by lia)) (gQ.mpr (by lia)),EK ha0.2 hb0.1] at v2
   have bd:=Kg D.y1 h3 T1 r1 a
   rw [II,zU (cZ (ds:=[dY (n1+n2) M,.int a,.int (n1+b)]) rfl rfl v1) (Ds (f:=wc (aY 5)) (g:=aY 7) (k:=.pu) (k':=.pu) (i:=-(sm (rgI 0 n1.toNat) (w1 a))) (j:=sm (rgI 0 n2.toNat) fun c=>w2 c b) rfl rfl (C9 _ (by lia)))]
   exact zU (cZ (ds:=[dY (n1+n2) M,.int (n1+b),.int a]) rfl rfl v2) rfl
  ·rintro ρ ⟨s6,s7,rfl⟩
   exact ⟨_,_,_,_,rfl⟩
 ·rintro ρ ⟨s4,s5,s6,s7,rfl⟩
  exact sa (d:=.bl true) rfl rfl
noncomputable abbrev rh (S:List Int) (n1 n2:Int) (L1 L2 M:List PI) (s5 s6 s7:Sl):Rho:=[.pu (.lst (S.map Da.int)),.pu (dY n1 L1),.pu (dY n2 L2),.pu (.int n1),.pu (dY (n1+n2) M),s5,s6,s7]
theorem law_eq (S:List Int):fn_law [.lst (S.map Da.int)]=some (.bl true):=by
 obtain ⟨n1,L1,hY1,h1,h3,Y1⟩:=yD S 0 3 (by decide) (by decide) (by decide)
 obtain ⟨n2,L2,hY2,h1',h3',Y2⟩:=yD S 3 3 (by decide) (by decide) (by decide)
 have l1:=mx Y1 (by lia) h3
 have l2:=mx Y2 (by lia) h3'
 have D:=Hq (by lia) (by lia) Y1 Y2
 have hab:=BY (by lia) h3 (by lia) h3' Y1 Y2
 have lx:=zh (by lia) h3 (by lia) h3' Y1 Y2
 have hso:BV ((abX n1 n2 L1 L2).map dP)=some ((abY n1 n2 L1 L2).map dP):=HU (.inl (by lia))
 have ll:(abY n1 n2 L1 L2).length<=17:=by unfold abY;rw [(Ms.srt_perm _).length_eq];exact lx
 generalize hM:abY n1 n2 L1 L2=M at D hab hso ll
 have ne:M≠[]:=fun z=>by
  have:=(D.ab (a:=0) (b:=0) (by lia) (by lia)).mpr trivial
  rw [z] at this
  cases this
 obtain ⟨⟨F1,f1,g1⟩,B1,b1,d1⟩:=few Y1 h1 h3
 obtain ⟨⟨F2,f2,g2⟩,B2,b2,d2⟩:=few Y2 h1' h3'
 obtain ⟨⟨F,f,g⟩,B,b,d⟩:=KH Y1 h1 h3 Y2 h1' h3'
 rw [hM] at f b
 have k1:=qQ Y1 (by lia) (by lia) (by lia)
 have k2:=qQ Y2 (by lia) (by lia) (by lia)
 have k:=qQ D.yd (by lia) (.inr ⟨by lia,ne⟩) (by lia)
 rw [ut D] at k
 have kb:=Ct (L:=L1) h3
 obtain ⟨hs1,eh1,n1a,n1b,_,n1d⟩:=m3 Y1 (by lia) (by lia) (by lia)
 obtain ⟨hs2,eh2,n2a,n2b,_,n2d⟩:=m3 Y2 (by lia) (by lia) (by lia)
 obtain ⟨hs,eh,na,nb,_,nd⟩:=m3 D.yd (by lia) (.inr ⟨by lia,ne⟩) (by lia)
 have hlen:∀ {n:Int} {L:List PI} {H:List Int},n<=3->A5 L (rgI 0 n.toNat) H->H.length<=3:=fun {n L H} h3 h=>by
  have:=Ms.length_le_of_subset (wq h.ris) h.sub
  rw [eA] at this
  lia
 refine vV ?_
 unfold g_law
 have e0:ff 8 [.lst (S.map Da.int)]=[.pu (.lst (S.map Da.int)),.no,.no,.no,.no,.no,.no,.no]:=rfl
 rw [e0]
 refine c7 (eO (ρ':=[.pu (.lst (S.map Da.int)),.pu (dY n1 L1),.no,.no,.no,.no,.no,.no]) (by rw [lw,cZ (ds:=[.lst (S.map Da.int),.int 0,.int 3]) rfl rfl hY1];rfl) ?_)
 refine c7 (eO (ρ':=[.pu (.lst (S.map Da.int)),.pu (dY n1 L1),.pu (dY n2 L2),.no,.no,.no,.no,.no]) (by rw [lw,cZ (ds:=[.lst (S.map Da.int),.int 3,.int 3]) rfl rfl hY2];rfl) ?_)
 refine c7 (eO (ρ':=[.pu (.lst (S.map Da.int)),.pu (dY n1 L1),.pu (dY n2 L2),.pu (.int n1),.no,.no,.no,.no]) rfl ?_)
 refine c7 (eO (ρ':=rh S n1 n2 L1 L2 M .no .no .no) (by rw [lw,cZ (ds:=[dY n1 L1,dY n2 L2]) rfl rfl hab];rfl) ?_)
 refine c7 (eO (ρ':=rh S n1 n2 L1 L2 M (.ow (.lst (((L1++L2.map (sh n1))++cr n1 n2.toNat []).map dP))) .no .no) ?_ ?_)
 ·have hc:=yT (ρ:=rh S n1 n2 L1 L2 M .no .no .no) (ix:=[none,none,none,some 3]) (k:=n1) (fi:=c4 (jb (x2 oIt (aY 2) (xC (.int 1))))) (f:=lA (aH (x2 gW (aY 1) (aY 3)) (aH (x2 gW (aY 2) (aY 3)) bU))) (L:=L2) (by simp [rh,dY]) (by lia) fun a b=>by
   show some (Kd.pu,Da.tup [.int (a+n1),.int (b+n1)])=_
   rw [ug a,ug b]
   rfl
  have q:xB mq (aH (x2 oIt (aY 1) (xC (.int 1))) bU) (rh S n1 n2 L1 L2 M .no .no .no)=some (.fr,.lst (L1.map dP)):=rfl
  rw [DB,uI,q,hc]
  dsimp only
  rw [vv,if_pos (by rw [af,af,af];lia),<- bC]
  show Res.nx _=_
  rw [show cr n1 n2.toNat []=[] from rfl,cC]
  rfl
 have e17:∀ pre post:List Int,rgI 0 n1.toNat=pre++post->((L1++L2.map (sh n1))++cr n1 n2.toNat pre).length<=17:=fun pre post e=>by
  refine bO ?_ lx
  unfold abX
  simp only [aO,vC,e]
  have:=wJ n2.toNat (show pre.length<=pre.length+post.length by lia)
  lia
 refine c7 (iW (enc:=Da.int) (xs:=rgI 0 n1.toNat) (fun pre ρ=>∃ s6,ρ=rh S n1 n2 L1 L2 M (.ow (.lst (((L1++L2.map (sh n1))++cr n1 n2.toNat pre).map dP))) s6 .no) (oj (k:=.pu) rfl (by lia) (by lia)) ⟨_,rfl⟩ ?_ ?_)
 ·rintro pre a post ρ e ⟨s6,rfl⟩
  refine ⟨rh S n1 n2 L1 L2 M (.ow (.lst (((L1++L2.map (sh n1))++cr n1 n2.toNat pre).map dP))) (.pu (.int a)) .no,rfl,?_⟩
  have hc:=fM (enc:=Da.int) (xs:=rgI 0 n2.toNat) (ix:=[none,none,some 6,some 3]) (fi:=k3 (aH (x2 oIt (aY 2) (xC (.int 0))) bU)) (i:=1) (c:=fun _=>some true) (f:=lA (aH (aY 2) (aH (x2 gW (aY 3) (aY 1)) bU)))
   (ρ:=rh S n1 n2 L1 L2 M (.ow (.lst (((L1++L2.map (sh n1))++cr n1 n2.toNat pre).map dP))) (.pu (.int a)) .no) (p:=fun _=>true) (e:=fun b=>dP (a,n1+b)) (oj (k:=.pu) rfl (by lia) (by lia)) (by rw [eA];lia) fun b _=>⟨rfl,fun _=>⟨(.pu,dP (a,n1+b)),rfl,rfl,rfl⟩⟩
  rw [fF] at hc
  exact eO (C6 (A:=pre) (X:=L1++L2.map (sh n1)) rfl (by have:=e17 pre _ e;lia) hc) ⟨_,rfl⟩
 rintro ρ ⟨s6,rfl⟩
 show Go (gw _ _ (rh S n1 n2 L1 L2 M (.ow (.lst ((abX n1 n2 L1 L2).map dP))) s6 .no)) _ _ _ _
 generalize abX n1 n2 L1 L2=X at hso
 refine c7 (qY (b:=false) ?_ (fun q=>absurd q aM) fun _=>eO rfl ?_)
 ·have q:xB fV (aH (xB gH (aH (aY 5) bU)) bU) (rh S n1 n2 L1 L2 M (.ow (.lst (X.map dP))) s6 .no)=some (.pu,.tup (M.map dP)):=by
   rw [uM,cP,uM,cP,show aY 5 (rh S n1 n2 L1 L2 M (.ow (.lst (X.map dP))) s6 .no)=some (.bo,.lst (X.map dP)) from rfl,eK]
   dsimp only
   unfold gH
   dsimp only
   rw [hso]
   rfl
  rw [Kx,uI,vW,cP,cP,q,eK]
  show (match oEq true (.pu,dY (n1+n2) M) (.pu,dY (n1+n2) M) with | some (_,.bl b)=>some b | _=>none)=_
  rw [JU,decide_eq_true ⟨rfl,rfl⟩]
  rfl
 generalize Sl.ow (.lst (X.map dP))=s5
 refine c7 (qY (b:=false) ?_ (fun q=>absurd q aM) fun _=>eO rfl ?_)
 ·have c1:=pQ (f:=cm fn_floors (aH (aY 1) bU)) (ρ:=rh S n1 n2 L1 L2 M s5 s6 .no) (cZ (ds:=[dY n1 L1]) rfl rfl f1)
  have c2:=pQ (f:=cm fn_floors (aH (aY 2) bU)) (ρ:=rh S n1 n2 L1 L2 M s5 s6 .no) (cZ (ds:=[dY n2 L2]) rfl rfl f2)
  have c3:=pQ (f:=cm fn_floors (aH (aY 4) bU)) (ρ:=rh S n1 n2 L1 L2 M s5 s6 .no) (cZ (ds:=[dY (n1+n2) M]) rfl rfl f)
  rw [g1] at c1
  rw [g2] at c2
  rw [g] at c3
  exact zU c3 (GU c1 c2)
 refine c7 (qY (b:=false) ?_ (fun q=>absurd q aM) fun _=>eO rfl ?_)
 ·have c1:=pQ (f:=cm fn_broadest (aH (aY 1) bU)) (ρ:=rh S n1 n2 L1 L2 M s5 s6 .no) (cZ (ds:=[dY n1 L1]) rfl rfl b1)
  have c2:=pQ (f:=cm fn_broadest (aH (aY 2) bU)) (ρ:=rh S n1 n2 L1 L2 M s5 s6 .no) (cZ (ds:=[dY n2 L2]) rfl rfl b2)
  have c3:=pQ (f:=cm fn_broadest (aH (aY 4) bU)) (ρ:=rh S n1 n2 L1 L2 M s5 s6 .no) (cZ (ds:=[dY (n1+n2) M]) rfl rfl b)
  rw [d1] at c1
  rw [d2] at c2
  rw [d] at c3
  exact zU c3 (GK c1 c2)
 refine c7 (qY (b:=false) ?_ (fun q=>absurd q aM) fun _=>eO rfl ?_)
 ·exact zU (cZ (ds:=[dY (n1+n2) M]) rfl rfl k) (Ds (cZ (ds:=[dY n1 L1]) rfl rfl k1) (cZ (ds:=[dY n2 L2]) rfl rfl k2) (C9 _ (by lia)))
 have hc:=fM (enc:=dT) (xs:=hs2) (ix:=[none,none,none,none,some 3]) (fi:=c4 (jb (cm fn_heads (aH (aY 2) bU)))) (i:=1) (c:=tTr (aY 1)) (f:=x2 gW (gL (aH (aY 4) bU)) (xB fV (aH (fK [none,none,some 4] (c4 (jb (aY 1))) (tgN 1) (fun _=>some true) (x2 gW (aY 1) (aY 2))) bU)))
  (ρ:=rh S n1 n2 L1 L2 M s5 s6 .no) (p:=fun K=>!K.isEmpty) (e:=fun K=>dT (rgI 0 n1.toNat++K.map fun x=>n1+x)) (by rw [mZ,vO,cZ (ds:=[dY n2 L2]) rfl rfl eh2]) (by lia) fun K hK=>⟨by cases K<;>rfl,fun _=>⟨(.pu,dT (rgI 0 n1.toNat++K.map fun x=>n1+x)),by
    show x2 gW (gL (aH (aY 4) bU)) (xB fV (aH (fK [none,none,some 4] (c4 (jb (aY 1))) (tgN 1) (fun _=>some true) (x2 gW (aY 1) (aY 2))) bU)) [.no,.pu (dT K),.no,.no,.pu (.int n1)]=_
    have:=hlen h3' ((n2b K).mp hK)
    refine HV (k:=.pu) ?_ (Jq rfl (by lia) fun x=>rfl) (by rw [eA,af];lia)
    show (if -(2 ^ 62)<=n1/\n1<=1000000 then some ((.pu:Kd),Da.tup (eW 0 n1.toNat)) else none)=_
    rw [if_pos (by lia),eB]
    rfl,rfl,rfl⟩⟩
 rw [show ((hs2.filter fun K=>!K.isEmpty).map fun K=>dT (rgI 0 n1.toNat++K.map fun x=>n1+x))=((hs2.filter fun K=>!K.isEmpty).map fun K=>rgI 0 n1.toNat++K.map fun x=>n1+x).map dT by rw [aQ];rfl] at hc
 have mem2:∀ t,t∈((hs2.filter fun K=>!K.isEmpty).map fun K=>rgI 0 n1.toNat++K.map fun x=>n1+x)↔∃ K,A5 L2 (rgI 0 n2.toNat) K/\K≠[]/\rgI 0 n1.toNat++K.map (fun x=>n1+x)=t:=fun t=>by
  rw [aS]
  constructor
  ·rintro ⟨K,hK,e⟩
   obtain ⟨a,b⟩:=a9.mp hK
   exact ⟨K,(n2b K).mp a,(fun z=>by rw [z] at b;cases b),e⟩
  ·rintro ⟨K,hK,ne,e⟩
   exact ⟨K,a9.mpr ⟨(n2b K).mpr hK,by cases K with | nil=>exact absurd rfl ne | cons _ _=>rfl⟩,e⟩
 have ndS:(hs1++(hs2.filter fun K=>!K.isEmpty).map fun K=>rgI 0 n1.toNat++K.map fun x=>n1+x).Nodup:=by
  refine bj.mpr ⟨n1a,bx.mpr ((n2a.sublist cI).imp fun {a b} ne e=>ne ?_),fun p hp q hq e=>?_⟩
  ·subst e
   obtain ⟨K,hK,ne,e⟩:=(mem2 p).mp hq
   obtain ⟨x,hx⟩:=p8 _ ne
   have h1:=gQ.mp (((n1b p).mp hp).sub (n1+x) (by rw [<- e];exact aW _ (aS.mpr ⟨x,hx,rfl⟩)))
   have h2:=gQ.mp (hK.sub x hx)
   lia
  ·have:=List.append_cancel_left e
   exact Dm this
 have memS:∀ t,t∈(hs1++(hs2.filter fun K=>!K.isEmpty).map fun K=>rgI 0 n1.toNat++K.map fun x=>n1+x)↔t∈hs:=fun t=>by
  rw [nb,wZ D,aA,n1b,mem2]
 generalize ((hs2.filter fun K=>!K.isEmpty).map fun K=>rgI 0 n1.toNat++K.map fun x=>n1+x)=U at hc ndS memS
 have lS:=Ms.length_le_of_subset ndS fun t ht=>(memS t).mp ht
 refine c7 (eO (ρ':=rh S n1 n2 L1 L2 M s5 s6 (.pu (.lst ((hs1++U).map dT)))) ?_ ?_)
 ·have q:xB mq (aH (cm fn_heads (aH (aY 1) bU)) bU) (rh S n1 n2 L1 L2 M s5 s6 .no)=some (.fr,.lst (hs1.map dT)):=by
   rw [uM,cP,cZ (ds:=[dY n1 L1]) rfl rfl eh1,eK]
   rfl
  rw [lw,uI,q,hc]
  dsimp only
  rw [aO] at lS
  rw [vv,if_pos (by rw [af,af];lia),<- bC]
  rfl
 refine sa (d:=.bl true) ?_ rfl
 have q1:=yE (f:=cm fn_heads (aH (aY 4) bU)) (ρ:=rh S n1 n2 L1 L2 M s5 s6 (.pu (.lst ((hs1++U).map dT)))) (.inr (cZ (ds:=[dY (n1+n2) M]) rfl rfl eh)) (.inr ⟨by lia,na⟩)
 have q2:=yE (f:=aY 7) (ρ:=rh S n1 n2 L1 L2 M s5 s6 (.pu (.lst ((hs1++U).map dT)))) (k:=.pu) (.inl rfl) (.inr ⟨by lia,ndS⟩)
 rw [jl,Ia,uI,q1,q2,DY ndS na memS]
 dsimp only
 rw [HJ,decide_eq_true rfl]
 show (match cm fn__law_weights_right (aH (aY 1) (aH (aY 2) (aH (aY 4) bU))) (rh S n1 n2 L1 L2 M s5 s6 (.pu (.lst ((hs1++U).map dT)))) with | some r=>Res.rt r.2 | none=>.bad)=_
 rw [cZ (ds:=[dY n1 L1,dY n2 L2,dY (n1+n2) M]) rfl rfl (w9 h3 h3' D (by lia))]
end G15
namespace C
open PySem PySem.Spec PyProof.Rows L2 Ry
section
variable {P:bh} {w:bT} {K:ae} {h:b9} {mg:bv->Option ag} {fa:au} {base:b9}
theorem IY {fd:cJ} (X:K.In h) (Gm:h.Ns bF mg) (hK:K.In base) (hB:Bm mg base) (F:Fun K "law" "law" B7 fa fd) (h_yard_of:FD K "yard_of" n9) (h_pairs_of_both:FD K "pairs_of_both" iw) (h_above:FD K "above" uW) (h_uppers_of:FD K "uppers_of" jn) (h_lowers_of:FD K "lowers_of" kU) (h_upwards:FT K "upwards" nR) (h_holds_all:FD K "holds_all" k4) (h_heads:FT K "heads" uJ) (h_ways_up_to:FD K "ways_up_to" jV) (h_lines:FD K "lines" uL) (h_heights_of:FD K "heights_of" jX) (h_row_at:FD K "row_at" qa) (h_floors:FD K "floors" qW) (h_take_upper:FD K "take_upper" hJ) (h_steps_of:FD K "steps_of" ki) (h_tower_from:FD K "tower_from" jP) (h_towers:FD K "towers" qM) (h_stands_on_any:FD K "stands_on_any" iy) (h_without_overtopping:FD K "without_overtopping" fD) (h_broadest:FD K "broadest" mf) (h_weights_from:FD K "weights_from" iN) (h_weight:FD K "weight" qO) (h__law_cell:FD K "_law_cell" kN) (h__law_mix:FD K "_law_mix" mj) (h__law_perm:FD K "_law_perm" gY) (h__law_all:FD K "_law_all" mn) (h__law_yard:FD K "_law_yard" k7) (h__law_weights_right:FD K "_law_weights_right" f6) (Z:Zs mg):rH P w K mg base CX0 18 fa fd ["_law_script"] (spD K 1 G15.fn_law):=by
 have C_yard_of:=w4 (P:=P) (w:=w) (base:=base) (eR X Gm h_yard_of) Z
 have C_pairs_of_both:=mT (P:=P) (w:=w) (base:=base) (eR X Gm h_pairs_of_both) Z
 have C_above:=CB (P:=P) (w:=w) (base:=base) (eR X Gm h_above) Z C_pairs_of_both C_yard_of
 have C_uppers_of:=sX (P:=P) (w:=w) (base:=base) (eR X Gm h_uppers_of)
 have C_lowers_of:=tm (P:=P) (w:=w) (base:=base) (eR X Gm h_lowers_of) Z C_uppers_of
 have C_upwards:=xg (P:=P) (w:=w) (base:=base) (Dk X Gm h_upwards) hK hB Z
 have C_holds_all:=si (P:=P) (w:=w) (base:=base) (eR X Gm h_holds_all) Z
 have C_heads:=Bx (P:=P) (w:=w) (base:=base) (Dk X Gm h_heads) hK hB Z C_holds_all C_lowers_of C_upwards
 have C_ways_up_to:=ri (P:=P) (w:=w) (base:=base) (eR X Gm h_ways_up_to) Z
 have C_lines:=BJ (P:=P) (w:=w) (base:=base) (eR X Gm h_lines) Z C_heads C_ways_up_to
 have C_heights_of:=qS (P:=P) (w:=w) (base:=base) (eR X Gm h_heights_of) Z C_upwards
 have C_row_at:=zn (P:=P) (w:=w) (base:=base) (eR X Gm h_row_at) Z
 have C_floors:=Ac (P:=P) (w:=w) (base:=base) (eR X Gm h_floors) Z C_heights_of C_lowers_of C_row_at
 have C_steps_of:=u5 (P:=P) (w:=w) (base:=base) (eR X Gm h_steps_of) (eR X Gm h_take_upper) Z C_uppers_of
 have C_tower_from:=qe (P:=P) (w:=w) (base:=base) (eR X Gm h_tower_from) Z
 have C_towers:=AG (P:=P) (w:=w) (base:=base) (eR X Gm h_towers) Z C_steps_of C_tower_from
 have C_stands_on_any:=mR (P:=P) (w:=w) (base:=base) (eR X Gm h_stands_on_any) Z
 have C_without_overtopping:=jC (P:=P) (w:=w) (base:=base) (eR X Gm h_without_overtopping) Z C_stands_on_any
 have C_broadest:=u7 (P:=P) (w:=w) (base:=base) (eR X Gm h_broadest) Z C_towers C_uppers_of C_without_overtopping
 have C_weights_from:=nC (P:=P) (w:=w) (base:=base) (eR X Gm h_weights_from) Z C_lowers_of C_upwards
 have C_weight:=zo (P:=P) (w:=w) (base:=base) (eR X Gm h_weight) Z C_weights_from
 have C__law_cell:=tI (P:=P) (w:=w) (base:=base) (eR X Gm h__law_cell) Z
 have C__law_mix:=um (P:=P) (w:=w) (base:=base) (eR X Gm h__law_mix) Z
 have C__law_perm:=rZ (P:=P) (w:=w) (base:=base) (eR X Gm h__law_perm) Z C__law_mix
 have C__law_all:=uC (P:=P) (w:=w) (base:=base) (eR X Gm h__law_all) Z
 have C__law_yard:=rY (P:=P) (w:=w) (base:=base) (eR X Gm h__law_yard) Z C__law_all C__law_cell C__law_mix C__law_perm
 have C__law_weights_right:=jW (P:=P) (w:=w) (base:=base) (eR X Gm h__law_weights_right) Z C_weight
 exact Gf F Z C__law_weights_right C__law_yard C_above C_broadest C_floors C_heads C_lines
theorem all_mk (X:K.In h) (Gm:h.Ns bF mg) (hfa:mg "law" = some (.ref fa)) (h_yard_of:FD K "yard_of" n9) (h_pairs_of_both:FD K "pairs_of_both" iw) (h_above:FD K "above" uW) (h_uppers_of:FD K "uppers_of" jn) (h_lowers_of:FD K "lowers_of" kU) (h_upwards:FT K "upwards" nR) (h_holds_all:FD K "holds_all" k4) (h_heads:FT K "heads" uJ) (h_ways_up_to:FD K "ways_up_to" jV) (h_lines:FD K "lines" uL) (h_heights_of:FD K "heights_of" jX) (h_row_at:FD K "row_at" qa) (h_floors:FD K "floors" qW) (h_take_upper:FD K "take_upper" hJ) (h_steps_of:FD K "steps_of" ki) (h_tower_from:FD K "tower_from" jP) (h_towers:FD K "towers" qM) (h_stands_on_any:FD K "stands_on_any" iy) (h_without_overtopping:FD K "without_overtopping" fD) (h_broadest:FD K "broadest" mf) (h_weights_from:FD K "weights_from" iN) (h_weight:FD K "weight" qO) (h__law_cell:FD K "_law_cell" kN) (h__law_mix:FD K "_law_mix" mj) (h__law_perm:FD K "_law_perm" gY) (h__law_all:FD K "_law_all" mn) (h__law_yard:FD K "_law_yard" k7) (h__law_weights_right:FD K "_law_weights_right" f6) (h_law:FD K "law" B7) (z0:c8 K bF "all" = some none) (z1:c8 K bF "any" = some none) (z2:c8 K bF "dict" = some none) (z3:c8 K bF "len" = some none) (z4:c8 K bF "list" = some none) (z5:c8 K bF "max" = some none) (z6:c8 K bF "range" = some none) (z7:c8 K bF "sorted" = some none) (z8:c8 K bF "sum" = some none) (z9:c8 K bF "tuple" = some none):∃ fd:cJ,(∀ (s:ai) (v:ag),tQ s fd ⟨[v],[]⟩ [("_law_script",v)])/\∀ base:b9,K.In base->base.Ns bF mg->Bm mg base->rH P w K mg base CX0 18 fa fd ["_law_script"] (spD K 1 G15.fn_law):=by
 obtain ⟨_,_,_,_,_,_,_,_,_,_,a,l,c,k,_⟩:=h_law
 cases hfa.symm.trans (oR X Gm a)
 exact ⟨_,fun s v=>.of_eq rfl,fun base hK _ hB=>IY X Gm hK hB (zp (st:=B7) l c k) h_yard_of h_pairs_of_both h_above h_uppers_of h_lowers_of h_upwards h_holds_all h_heads h_ways_up_to h_lines h_heights_of h_row_at h_floors h_take_upper h_steps_of h_tower_from h_towers h_stands_on_any h_without_overtopping h_broadest h_weights_from h_weight h__law_cell h__law_mix h__law_perm h__law_all h__law_yard h__law_weights_right ⟨cx X Gm z0,cx X Gm z1,cx X Gm z2,cx X Gm z3,cx X Gm z4,cx X Gm z5,cx X Gm z6,cx X Gm z7,cx X Gm z8,cx X Gm z9⟩⟩
end
theorem walk {l:xL} {q:bh} {loose:List bv} {XP:(bv->Option ag)->b9->Prop} {YP:bT->b9->Prop} {d:DefRec} {K:xW->ae} {ts:List au} (hn:l.most=some 63) (hdf:d.params.defaults=[])
 (hY:∀ (w:bT) (h:b9),YP w h->(K w.params).In h) (hT:∀ (w:bT) (h:b9),YP w h->∀ P∈ts,h.get? P=some (jL #[])) (hok:∀ P:xW,zj (K P) ts=true)
 (F:∀ (w:bT) (mg:bv->Option ag) (fa:au) (h:b9),(K w.params).In h->h.Ns bF mg->mg d.name=some (.ref fa) ->
   ∃ fd:cJ,(∀ (s:ai) (u:ag),tQ s fd ⟨[u],[]⟩ [("_law_script",u)])/\∀ base:b9,(K w.params).In base->base.Ns bF mg->Bm mg base->rH l.prog w (K w.params) mg base CX0 18 fa fd ["_law_script"] (spD (K w.params) 1 G15.fn_law)) :
 A2 q loose XP YP l.row.toRowW d [] (fun f vs=>wA f vs) :=
 BS (n:=63) (k:=18) (x:="_law_script") (fn:=G15.fn_law) hn (by decide) hdf ⟨rfl,rfl,by decide,by decide⟩ hY hT hok F G15.law_eq
end C
open PySem PySem.W PyProof.Rows
set_option maxRecDepth 100000 in
set_option maxHeartbeats 0 in
theorem PySem.Challenge.cw_rankyard_k15_whole_one_on_top_of_the_oth_holds : PySem.Challenge.rw_rankyard_k15_whole_one_on_top_of_the_oth.Holds := by
 w_on;o_law;k_head;(case hw=>w_witness2)
 k_fill
 refine C.walk (l:=PySem.Challenge.rw_rankyard_k15_whole_one_on_top_of_the_oth) rfl rfl (fun w h Y=>PySem.W.km_in_of Y) (fun w h Y=>PySem.W.km_tabs_of Y) (fun P=>by kernel_rfl) ?F
 case F =>
  intro w mg fa h KX G hmg
  refine' C.all_mk KX G hmg ?_ ?_ ?_ ?_ ?_ ?_ ?_ ?_ ?_ ?_ ?_ ?_ ?_ ?_ ?_ ?_ ?_ ?_ ?_ ?_ ?_ ?_ ?_ ?_ ?_ ?_ ?_ ?_ ?_ ?_ ?_ ?_ ?_ ?_ ?_ ?_ ?_ ?_ ?_
  all_goals first
   | (refine' Ry.fa_mk ?a ?l ?c ?k ?t
      (case a=>k_is)
      (case l=>k_is)
      (case c=>k_is)
      (case k=>k_is)
      (case t=>first | trivial | kernel_rfl))
   | k_is
