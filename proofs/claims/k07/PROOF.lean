import PyProof.Rows.All
import Wide.All
import OpenK.AllK
import Wide.FinOn
import Lean
import PyProof.EqAt
import PyProof.EqKinds
import PyProof.TupleCall
import PySem.Challenge.RW_rankyard_k07_whole_heads_and_tops_tell_o
set_option maxHeartbeats 4000000
open PySem.Heap renaming get?_push_of_some->aa,get?_push_size->aj,lt_size->aw,get?_update_other->aG,get?_update_self->aY,size_push->cI,get?_none_of_le->xg,get?_update_ne->yd
open List renaming getElem?_eq_getElem->ae,length_map->af,mem_cons->ah,getD_eq_getElem?_getD->ai,mem_cons_of_mem->al,size_toArray->ao,getElem?_eq_some_iff->aq,mem_singleton->au,getElem?_map->av,mem_cons_self->ax,length_cons->aA,map_cons->aC,mem_append->aE,length_append->aH,getElem?_set_self->aK,pairwise_cons->aN,getElem?_set_ne->aP,map_map->aT,nodup_cons->aV,getElem?_cons_zero->aW,append_assoc->aX,mem_of_getElem?->aZ,pairwise_append->ba,getElem?_cons_succ->be,pairwise_singleton->bj,mem_map->bn,range->bp,getElem_of_mem->bq,length_take->bu,all_eq_true->bv,mem_filter->bw,length_set->bx,mem_append_right->bE,length_singleton->bF,append_nil->bH,getElem?_eq_none->bM,pairwise_iff_getElem->bS,lookup_cons->bX,drop_of_length_le->b8,getElem?_append_left->cc,extract_eq_take_drop->ce,length_drop->ck,mem_append_left->cp,length_range->cw,nodup_append->cx,pairwise_map->cy,take_of_length_le->cB,getElem?_append_right->cD,length_nil->cT,map_append->cU,any_eq_true->dh,getElem_drop->dW,getElem_take->dX,ext_getElem?->dZ,length_eraseIdx_of_lt->d4,getElem_inj->eI,not_mem_nil->eJ,map_congr_left->eM,find?_cons->eV,map_take->eW,map_drop->eZ,take_append_drop->fD,length_filter_le->fE,getElem_mem->fI,eq_nil_of_length_eq_zero->fJ,filterMap_cons->fZ,length->gc,map_nil->gB,mem_range->gC,drop_eq_getElem_cons->gE,reverse_cons->g5,getElem?_replicate->h9,any_cons->ic,length_replicate->iQ,getElem?_toArray->iR,replicate->jv,nodup_nil->jw,drop_zero->jx,length_reverse->jD,getD_cons_succ->jE,zip_cons_cons->kn,lookup_append->kq,map_reverse->mV,ext_getElem->mX,map->oP,of_mem_zip->oW,nil_append->oX,length_eq_zero_iff->rU,all_cons->rV,pairwise_lt_range->vp,perm_append_comm->vy,set_set->vD,mem_iff_getElem->xh,range_eq_range'->xi,getElem?_range->ye,filter_sublist->yf,mem_filterMap->Ao,zip_nil_right->Ap,filter_append->As,take_sublist->AE,take_add_one->AG,getElem?_set->AH,foldl_append->AI,any_eq_false->AJ,perm_middle->CS,drop_length->CT,take_length->CU,getElem_map->CV,range'_succ->CW,getElem_zip->CZ,filter_cons->C0,foldl_cons->De,length_zip->Df,take_zero->D6,drop_take->D7,forIn_nil->D8,nil_perm->Et,set_comm->Eu,take_nil->Ew,range'->EY
open Nat renaming le_refl->ag,ne_of_lt->aL,lt_of_lt_of_le->aM,zero_le->aU,lt_irrefl->bz,le_trans->bR,zero_add->cj,lt_succ_of_lt->cW,testBit_lt_two_pow->fy,le_of_succ_le->fz,lt_succ_self->fO,le_of_lt->gD,le_succ->ip,min_eq_right->iu,min_eq_left->i9,pow_le_pow_right->jy,add_sub_cancel->kH,lt_or_eq_of_le->kI,ne_of_gt->mS,add_zero->mT,le_of_eq->mW,mul_le_mul->rM,lt_of_le_of_lt->AF,succ_le_succ->Dc,le_of_not_lt->Dd,not_lt_zero->D9,le_antisymm->Ea,sub_zero->EX,pow_succ->EZ
open Bool renaming false_ne_true->am,and_eq_true->aD,eq_iff_iff->bW,not_eq_true'->b9,false_eq_true->dG,or_eq_true->e6,not_eq_false'->ko,true_and->kt,or_false->rT,and_self->rW,and_eq_false_iff->vC,noConfusion->CY,false_or->Es
open Array renaming length_toList->aF,getElem?_eq_getElem->aI,getElem?_toList->aR,perm_iff_toList_perm->bh,getElem?_eq_some_iff->bZ,getElem?_eq_none->b7,toList_inj->cE,getD->fR,getD_eq_getD_getElem?->fX,toArray_toList->vz,toList_push->Aq,toList->Er
open Int renaming toNat_natCast->bg,emod_lt_of_pos->gF,emod_nonneg->jc,toNat_of_nonneg->Ar,natCast_nonneg->AD
open PySem.Obj renaming mapFields->bt,data_mapFields->bA,isFreed_of_fields->bN,mapSeq->cV,cls_mapFields->fA
set_option Elab.async false
set_option linter.all false
set_option maxRecDepth 100000
noncomputable section
namespace L2
open PySem PySem.Spec PyProof.Rows
noncomputable abbrev Key:=Sum Int Str
noncomputable def oz:Key->Value->Bool
 | .inl k,v=>Value.isInt k v
 | .inr x,v=>Value.isStrOf x v
noncomputable def EN (w:World):Key->Int
 | .inl k=>hashInt k
 | .inr x=>hashStr w x
theorem cm:∀ {k:Key} {v:Value},oz k v=true->(∃ i t,k=Sum.inl i/\v=Value.int i t)\/(∃ x t,k=Sum.inr x/\v=Value.str x t)
 | .inl i,v,h=>by
   obtain ⟨t,e⟩:=Value.isInt_shape (k:=i) (v:=v) h
   exact .inl ⟨i,t,rfl,e⟩
 | .inr x,v,h=>by
   obtain ⟨t,e⟩:=Value.isStrOf_shape (x:=x) (v:=v) h
   exact .inr ⟨x,t,rfl,e⟩
theorem sf (i:Int) (t:Tok):oz (.inl i) (.int i t)=true:=by simp [oz,Value.isInt]
theorem sW (x:Str) (t:Tok):oz (.inr x) (.str x t)=true:=by simp [oz,Value.isStrOf]
theorem B2 (a b:Int):decide ((Sum.inl a:Key)=Sum.inl b)=(a == b):=by
 by_cases e:a=b
 ·subst e;simp
 ·have h:¬ (Sum.inl a:Key)=Sum.inl b:=fun q=>e (Sum.inl.inj q)
  rw [decide_eq_false h]
  exact (beq_eq_false_iff_ne.mpr e).symm
theorem BV (a b:Str):decide ((Sum.inr a:Key)=Sum.inr b)=decide (a=b):=by
 by_cases e:a=b
 ·subst e;simp
 ·have h:¬ (Sum.inr a:Key)=Sum.inr b:=fun q=>e (Sum.inr.inj q)
  rw [decide_eq_false h,decide_eq_false e]
theorem BL (a:Int) (b:Str):decide ((Sum.inl a:Key)=Sum.inr b)=false:=decide_eq_false (fun q=>nomatch q)
theorem AU (a:Str) (b:Int):decide ((Sum.inr a:Key)=Sum.inl b)=false:=decide_eq_false (fun q=>nomatch q)
noncomputable def cr (prog:Program) (w:World):PySem.KeyKind prog w Key where
 is:=oz
 hash:=EN w
 inj:=fun v a b ha hb=>by
  rcases cm ha with ⟨i,t,rfl,rfl⟩ | ⟨x,t,rfl,rfl⟩
  ·rcases cm hb with ⟨j,u,rfl,e⟩ | ⟨y,u,rfl,e⟩
   ·injection e with e1 _;rw [e1]
   ·exact nomatch e
  ·rcases cm hb with ⟨j,u,rfl,e⟩ | ⟨y,u,rfl,e⟩
   ·exact nomatch e
   ·injection e with e1 _;rw [e1]
 byValue:=fun k v h=>by
  rcases cm h with ⟨i,t,rfl,rfl⟩ | ⟨x,t,rfl,rfl⟩<;>rfl
 pyHash:=fun hv h=>by
  rcases cm hv with ⟨i,t,rfl,rfl⟩ | ⟨x,t,rfl,rfl⟩
  ·exact wpAny_pyHash_int h
  ·exact wpAny_pyHash_str h
 eqBool:=fun hu hv h=>by
  rcases cm hu with ⟨i,t,rfl,rfl⟩ | ⟨x,t,rfl,rfl⟩
  ·rcases cm hv with ⟨j,u,rfl,rfl⟩ | ⟨y,u,rfl,rfl⟩
   ·rw [B2] at h;exact wpAny_eqBool_int h
   ·rw [BL] at h;exact SeqAt.EqAt.int_str i t y u _ _ _ _ h
  ·rcases cm hv with ⟨j,u,rfl,rfl⟩ | ⟨y,u,rfl,rfl⟩
   ·rw [AU] at h;exact SeqAt.EqAt.str_int x t j u _ _ _ _ h
   ·rw [BV] at h;exact wpAny_eqBool_str h
 «strs»:=fun k x t v h=>by
  rcases cm h with ⟨i,u,rfl,e⟩ | ⟨y,u,rfl,e⟩
  ·exact nomatch e
  ·injection e with e1 _
   subst e1
   cases v<;>rfl
theorem o3 (prog:Program) (w:World) (i:Int) (t:Tok):(cr prog w).is (.inl i) (.int i t)=true:=sf i t
theorem pV (prog:Program) (w:World) (x:Str) (t:Tok):(cr prog w).is (.inr x) (.str x t)=true:=sW x t
end L2
namespace L2
open PySem PySem.Spec PyProof.Rows
inductive V where
 | non | bl (b:Bool) | int (i:Int) | str (x:Str) | byt (b:Array UInt8) | flt (b:UInt64) | ref (a:Addr) | ty (n:String)
 deriving DecidableEq
noncomputable def dH:V->Value->Prop
 | .non,u=>u=Value.none
 | .bl b,u=>u=Value.bool b
 | .int i,u=>∃ t,u=Value.int i t
 | .str x,u=>∃ t,u=Value.str x t
 | .byt b,u=>∃ t,u=Value.bytes b t
 | .flt b,u=>∃ t,u=Value.float b t
 | .ref a,u=>u=Value.ref a
 | .ty n,u=>u=Value.type n
noncomputable abbrev cq:List V->List Value->Prop:=Paired dH
theorem cq.length {xs:List V} {us:List Value} (r:cq xs us):xs.length=us.length:=Paired.length r
theorem cq.get:∀ {xs:List V} {us:List Value} {i:Nat} {x:V},cq xs us->xs[i]?=some x->∃ u,us[i]?=some u/\dH x u
 | _,_,_,_,.nil,e=>by simp at e
 | _,_,0,_,.cons r _,e=>by simp at e;subst e;exact ⟨_,rfl,r⟩
 | _,_,i+1,x,.cons _ t,e=>by
   obtain ⟨u,h1,h2⟩:=cq.get (i:=i) (x:=x) t (by simpa using e)
   exact ⟨u,by simpa using h1,h2⟩
theorem cq.append:∀ {xs ys:List V} {us ws:List Value},cq xs us->cq ys ws->cq (xs++ys) (us++ws)
 | _,_,_,_,.nil,s=>s
 | _,_,_,_,.cons r t,s=>.cons r (cq.append t s)
theorem cq.take:∀ {xs:List V} {us:List Value} (n:Nat),cq xs us->cq (xs.take n) (us.take n)
 | _,_,0,_=>.nil
 | _,_,_+1,.nil=>.nil
 | _,_,n+1,.cons r t=>.cons r (cq.take n t)
theorem cq.drop:∀ {xs:List V} {us:List Value} (n:Nat),cq xs us->cq (xs.drop n) (us.drop n)
 | _,_,0,r=>r
 | _,_,_+1,.nil=>.nil
 | _,_,n+1,.cons _ t=>cq.drop n t
noncomputable def rN:Option V->Option Value->Prop
 | some v,some u=>dH v u
 | none,none=>True
 | _,_=>False
noncomputable def KV {κ:Type}:List (κ×V)->List (κ×Value)->Prop:=Paired fun (p:κ×V) (q:κ×Value)=>p.1=q.1/\dH p.2 q.2
noncomputable def kV:Key->V
 | .inl i=>.int i
 | .inr x=>.str x
inductive HO where
 | lst (xs:List V)
 | tup (xs:List V)
 | dK (kvs:List (Key×V)) | dT (kvs:List (List Key×V))
 | set (S:Int->Bool) (n:Nat)
 | ins (C dx:Addr) (fs:List (Str×V))
 | own (x:Addr)
 | xd (fs:List (Str×V))
 | met (f x:Addr)
 | rng (lo hi:Int)
 | frz (o:Obj) (u:HO)
 | tbl (ps:Array Value)
 | tab (q:Str)
 | cod (q:Str)
 | ext (φ:Heap->Prop)
noncomputable abbrev Hp:=Addr->Option HO
noncomputable def upd (H:Hp) (a:Addr) (o:HO):Hp:=fun b=>if b=a then some o else H b
theorem aS {H:Hp} {a:Addr} {o:HO}:upd H a o a=some o:=by unfold upd;rw [if_pos rfl]
theorem bf {H:Hp} {a b:Addr} {o:HO} (h:b≠a):upd H a o b=H b:=by unfold upd;rw [if_neg h]
theorem Dr {H:Hp} {a b:Addr} {o u:HO} (h:H a=some o) (h':H b=some u) (d:o≠u):a≠b:=by
 intro e;subst e;rw [h] at h';exact d (Option.some.inj h')
theorem bI {H:Hp} {a b:Addr} {o:HO} (h:H a=some o) (h':H b=none):a≠b:=by
 intro e;subst e;rw [h] at h';cases h'
noncomputable def jg (h:Heap) (a:Addr):Prop:=∃ o,h.get? a=some o/\o.dict=none
theorem jg.new (h:Heap) (o:Obj) (e:o.dict=none:=by rfl) (f:o.isFreed=false:=by rfl):jg (h.push o) h.objs.size:=⟨o,aj _ f,e⟩
noncomputable def Av (H:Hp) (q:Str):List Value->Prop
 | []=>True
 | .int _ _::.int _ _::.ref c::r=>H c=some (.cod q)/\Av H q r
 | _=>False
section
variable (P:Program) (w:World)
noncomputable def eG (H:Hp) (h:Heap) (a:Addr):HO->Prop
 | .lst xs=>xs.length<=sizeLine/\∃ (its:List Value) (n:Nat),cq xs its/\h.get? a=some { cls:=.type "list",data:=.seq its.toArray n }
 | .tup xs=>(xs.length<=sizeLine/\jg h a)/\∃ its:List Value,cq xs its/\IsTup h a its.toArray
 | .dK kvs=>kvs.length<=sizeLine/\(a == sysModules)=false/\∃ vs,KV kvs vs/\h.DictOf (cr P w) a vs
 | .dT kvs=>kvs.length<=sizeLine/\(a == sysModules)=false/\∃ xs:List (List Key×Addr×Value),
    Paired (fun (p:List Key×V) (q:List Key×Addr×Value)=>p.1=q.1/\H q.2.1=some (.tup (p.1.map kV))/\dH p.2 q.2.2) kvs xs /\
    ∃ o es ep,h.get? a=some o/\o.ExactDict/\o.data=.dict es ep/\es.toList=xs.map (entryOfKey (tupleKind (cr P w)))/\(xs.map (·.1)).Nodup
 | .set S n=>h.SetOf (intKind P w) a S n
 | .ins C dx fs=>H dx=some (.own a)/\fs.length<=1000/\dx≠a/\h.get? a=some (PySem.W.instObj C dx) /\
    ∃ mA,h.Ns1 dx mA/\(∀ f,rN (fs.lookup f) (mA f))/\PySem.Within mA (fs.map (·.1))
 | .own _=>∃ o,h.get? a=some o
 | .xd fs=>∃ mA,h.Ns1 a mA/\∀ f,rN (fs.lookup f) (mA f)
 | .rng lo hi=>∃ t u v,h.get? a=some { cls:=.type "range",data:=.fields #[.int lo t,.int hi u,.int 1 v] }
 | .frz o u=>h.get? a=some o/\eG H h a u
 | .tbl ps=>h.get? a=some { cls:=.none,data:=.fields ps }
 | .met f x=>h.get? a=some (PySem.W.methodObj (.ref f) (.ref x))
 | .tab q=>∃ ps:Array Value,h.get? a=some { cls:=.none,data:=.fields ps }/\Av H q ps.toList
 | .cod q=>h.CodeRec (.ref a) q
 | .ext φ=>φ h/\(∃ o,h.get? a=some o)/\∀ h1 h2:Heap,φ h1->(∀ o,h1.get? a=some o->h2.get? a=some o)->φ h2
noncomputable def HOk (H:Hp) (h:Heap):Prop:=∀ a o,H a=some o->eG P w H h a o
end
section
variable {P:Program} {w:World} {H H':Hp} {h h':Heap} {a:Addr} {o:HO}
theorem eG.lt (x:eG P w H h a o):a<h.objs.size:=by
 cases o with
 | lst xs=>obtain ⟨_,_,_,_,e⟩:=x;exact aw e
 | tup xs=>obtain ⟨_,_,_,p⟩:=x;exact p.lt
 | dK kvs=>obtain ⟨_,_,_,_,o,_,_,e,_⟩:=x;exact aw e
 | dT kvs=>obtain ⟨_,_,_,_,o,_,_,e,_⟩:=x;exact aw e
 | set S n=>obtain ⟨o,_,_,_,e,_⟩:=x;exact aw e
 | ins C dx fs=>obtain ⟨_,_,_,e,_⟩:=x;exact aw e
 | own y=>obtain ⟨_,e⟩:=x;exact aw e
 | xd fs=>obtain ⟨_,⟨_,_,_,e,_⟩,_⟩:=x;exact aw e
 | rng lo hi=>obtain ⟨_,_,_,e⟩:=x;exact aw e
 | frz ob u=>obtain ⟨e,_⟩:=x;exact aw e
 | tbl ps=>exact aw (show h.get? a=some _ from x)
 | tab q=>obtain ⟨_,e,_⟩:=x;exact aw e
 | cod q=>obtain ⟨c,_,_,_,e0,e,_⟩:=x;cases e0;exact aw e
 | met f y=>exact aw (show h.get? a=some _ from x)
 | ext φ=>obtain ⟨_,⟨_,e⟩,_⟩:=x;exact aw e
theorem Paired.mapP {α β:Type} {F G:α->β->Prop}:∀ {l₁:List α} {l₂:List β},Paired F l₁ l₂->(∀ a b,F a b->G a b)->Paired G l₁ l₂
 | _,_,.nil,_=>.nil
 | _,_,.cons r t,f=>.cons (f _ _ r) (Paired.mapP t f)
theorem Av.stay {H H':Hp} {q:Str} (hc:∀ b q,H b=some (.cod q)->H' b=some (.cod q)):∀ {l:List Value},Av H q l->Av H' q l:=fun {l} t=>by
 fun_induction Av H q l with
 | case1=>exact t
 | case2 _ _ _ _ c r ih=>exact ⟨hc _ _ t.1,ih t.2⟩
 | case3=>exact t.elim
theorem eG.stay (x:eG P w H h a o) (k:∀ b u,(b=a\/H b=some (.own a))->h.get? b=some u->h'.get? b=some u)
 (ho:∀ b,H b=some (.own a)->H' b=some (.own a)) (ht:∀ b xs,H b=some (.tup xs)->H' b=some (.tup xs)) (hcd:∀ b q,H b=some (.cod q)->H' b=some (.cod q)):eG P w H' h' a o:=by
 induction o with
 | lst xs=>obtain ⟨z,its,n,r,e⟩:=x;exact ⟨z,its,n,r,k _ _ (.inl rfl) e⟩
 | tup xs=>obtain ⟨⟨z,o0,e0,d0⟩,its,r,ob,e,c⟩:=x;exact ⟨⟨z,o0,k _ _ (.inl rfl) e0,d0⟩,its,r,ob,k _ _ (.inl rfl) e,c⟩
 | dK kvs=>obtain ⟨z,y,vs,r,ob,es,ep,e,c⟩:=x;exact ⟨z,y,vs,r,ob,es,ep,k _ _ (.inl rfl) e,c⟩
 | dT kvs =>
   obtain ⟨z,y,xs,r,ob,es,ep,e,c⟩:=x
   exact ⟨z,y,xs,Paired.mapP r fun p q z=>⟨z.1,ht _ _ z.2.1,z.2.2⟩,ob,es,ep,k _ _ (.inl rfl) e,c⟩
 | set S n=>obtain ⟨ob,es,ep,t,e,c⟩:=x;exact ⟨ob,es,ep,t,k _ _ (.inl rfl) e,c⟩
 | ins C dx fs =>
   obtain ⟨d,z,ne,e,mA,⟨od,es,ep,e2,c⟩,r⟩:=x
   exact ⟨ho _ d,z,ne,k _ _ (.inl rfl) e,mA,⟨od,es,ep,k _ _ (.inr d) e2,c⟩,r⟩
 | own y=>obtain ⟨ob,e⟩:=x;exact ⟨ob,k _ _ (.inl rfl) e⟩
 | xd fs=>obtain ⟨mA,⟨od,es,ep,e,c⟩,r⟩:=x;exact ⟨mA,⟨od,es,ep,k _ _ (.inl rfl) e,c⟩,r⟩
 | rng lo hi=>obtain ⟨t,u,v,e⟩:=x;exact ⟨t,u,v,k _ _ (.inl rfl) e⟩
 | frz ob u ih=>obtain ⟨e,q⟩:=x;exact ⟨k _ _ (.inl rfl) e,ih q⟩
 | tbl ps =>
   have e:h.get? a=some { cls:=.none,data:=.fields ps }:=x
   show h'.get? a=some { cls:=.none,data:=.fields ps }
   exact k a _ (.inl rfl) e
 | tab q=>obtain ⟨ps,e,t⟩:=x;exact ⟨ps,k _ _ (.inl rfl) e,t.stay hcd⟩
 | cod q=>obtain ⟨c,o,vs,t,e0,e,r⟩:=x;cases e0;exact ⟨_,o,vs,t,rfl,k _ _ (.inl rfl) e,r⟩
 | met f y =>
   have e:h.get? a=some (PySem.W.methodObj (.ref f) (.ref y)):=x
   show h'.get? a=some (PySem.W.methodObj (.ref f) (.ref y))
   exact k a _ (.inl rfl) e
 | ext φ=>obtain ⟨p,⟨o,e⟩,st⟩:=x;exact ⟨st _ _ p fun o q=>k _ _ (.inl rfl) q,⟨o,k _ _ (.inl rfl) e⟩,st⟩
theorem HOk.lt (x:HOk P w H h) (e:H a=some o):a<h.objs.size:=(x a o e).lt
theorem HOk.fresh (x:HOk P w H h) (e:h.objs.size<=a):H a=none:=by
 cases q:H a with
 | none=>rfl
 | some u=>exact absurd (aM (x.lt q) e) (bz _)
theorem HOk.kept (x:HOk P w H h) (k:∀ b u,h.get? b=some u->h'.get? b=some u):HOk P w H h':=fun a o e =>
 (x a o e).stay (fun b u _ q=>k b u q) (fun _ q=>q) (fun _ _ q=>q) fun _ _ q=>q
theorem HOk.laid (x:HOk P w H h) (k:∀ b u,h.get? b=some u->h'.get? b=some u) (hp:h.objs.size<=a) (new:eG P w (upd H a o) h' a o):HOk P w (upd H a o) h':=fun b u e=>by
 have hn:=x.fresh hp
 by_cases hb:b=a
 ·subst hb;rw [aS] at e;cases e;exact new
 ·rw [bf hb] at e
  exact (x b u e).stay (fun c v _ q=>k c v q) (fun c q=>by rw [bf (bI q hn)];exact q) (fun c xs q=>by rw [bf (bI q hn)];exact q) fun c xs q=>by rw [bf (bI q hn)];exact q
end
noncomputable def Rd (H:Hp) (a:Addr) (u:HO):Prop:=H a=some u\/∃ o,H a=some (.frz o u)
theorem Rd.ok {P:Program} {w:World} {H:Hp} {h:Heap} {a:Addr} {u:HO} (r:Rd H a u) (x:HOk P w H h):eG P w H h a u:=by
 rcases r with r | ⟨o,r⟩
 ·exact x a u r
 ·obtain ⟨_,q⟩:=x a _ r
  exact q
noncomputable def Mut:Option HO->Prop
 | some (.lst _)=>True
 | some (.dK _)=>True
 | some (.dT _)=>True
 | some (.set _ _)=>True
 | some (.ins _ _ _)=>True
 | some (.ext _)=>True
 | _=>False
section
variable {P:Program} {w:World} {H:Hp} {h h':Heap} {x e:Addr} {o':HO}
theorem HOk.write (ok:HOk P w H h) (mu:Mut (H x)) (he:e=x\/H e=some (.own x)) (k:∀ b u,b≠e->h.get? b=some u->h'.get? b=some u) (heo:∃ u,h'.get? e=some u)
 (new:eG P w (upd H x o') h' x o'):HOk P w (upd H x o') h':=fun b u q=>by
 have nown:∀ c y,H c=some (.own y)->c≠x:=fun c y r z=>by subst z;rw [r] at mu;exact mu
 have ntup:∀ c xs,H c=some (.tup xs)->c≠x:=fun c xs r z=>by subst z;rw [r] at mu;exact mu
 by_cases hb:b=x
 ·subst hb;rw [aS] at q;cases q;exact new
 ·rw [bf hb] at q
  by_cases hbe:b=e
  ·have q':H b=some (.own x):=by
    rcases he with z | z
    ·exact absurd (hbe.trans z) hb
    ·rw [hbe];exact z
   rw [q] at q';cases q'
   obtain ⟨v,hv⟩:=heo
   exact ⟨v,by rw [hbe];exact hv⟩
  ·refine (ok b u q).stay (fun c v hc r=>k c v ?_ r) (fun c r=>by rw [bf (nown c b r)];exact r) (fun c xs r=>by rw [bf (ntup c xs r)];exact r) fun c q r=>by rw [bf (show c≠x from fun z=>by subst z;rw [r] at mu;exact mu)];exact r
   rcases hc with rfl | hc
   ·exact hbe
   ·rintro rfl
    rcases he with z | z
    ·exact nown c b hc z
    ·rw [hc] at z;cases z;exact hb rfl
end
structure Un (fs ex:List Addr) (H H':Hp) (h h':Heap):Prop where
 keep:∀ b o,h.get? b=some o->H b=none->b∉fs->b∉ex->h'.get? b=some o
 slot:∀ b o,h.get? b=some o->H b=none->b∈fs->b∉ex->∃ sl,h'.get? b=some { o with slots:=sl }
 free:∀ b o,h.get? b=some o->H b=none->b∉ex->H' b=none
 there:∀ b o,h.get? b=some o->b∉ex->∃ o',h'.get? b=some o'
 tups:∀ b xs,H b=some (.tup xs)->H' b=some (.tup xs)
 frzs:∀ b o u,H b=some (.frz o u)->H' b=some (.frz o u)
 tbls:∀ b ps,H b=some (.tbl ps)->∃ more,H' b=some (.tbl (ps++more))
section
variable {fs fs' ex ex':List Addr} {H H1 H2:Hp} {h h1 h2 h':Heap} {a x e:Addr} {o:HO}
theorem Un.any (u:Un fs ex H H1 h h1) {b:Addr} {ob:Obj} (q:h.get? b=some ob) (n:H b=none) (hx:b∉ex):∃ sl,h1.get? b=some { ob with slots:=sl }:=by
 by_cases hb:b∈fs
 ·exact u.slot b ob q n hb hx
 ·exact ⟨ob.slots,u.keep b ob q n hb hx⟩
theorem Un.kept (k:∀ b u,h.get? b=some u->h'.get? b=some u):Un fs ex H H h h' :=
 ⟨fun b ob q _ _ _=>k b ob q,fun b ob q _ _ _=>⟨ob.slots,k b ob q⟩,fun _ _ _ n _=>n,fun b ob q _=>⟨ob,k b ob q⟩,fun _ _ q=>q,fun _ _ _ q=>q,fun _ ps q=>⟨#[],by rw [q];simp⟩⟩
theorem Un.refl:Un fs ex H H h h:=Un.kept fun _ _ q=>q
theorem Un.laid (k:∀ b u,h.get? b=some u->h'.get? b=some u) (hp:h.objs.size<=a) (hn:H a=none):Un fs ex H (upd H a o) h h' where
 keep:=fun b u q _ _ _=>k b u q
 slot:=fun b u q _ _ _=>⟨u.slots,k b u q⟩
 free:=fun b u q n _=>by rw [bf (aL (aM (aw q) hp))];exact n
 there:=fun b u q _=>⟨u,k b u q⟩
 tups:=fun b xs q=>by rw [bf (bI q hn)];exact q
 frzs:=fun b u xs q=>by rw [bf (bI q hn)];exact q
 tbls:=fun b ps q=>⟨#[],by rw [bf (bI q hn),q];simp⟩
theorem Un.write (mu:Mut (H x)) (he:e=x\/H e=some (.own x)) (k:∀ b u,b≠e->h.get? b=some u->h'.get? b=some u) (heo:∃ u,h'.get? e=some u):Un fs ex H (upd H x o) h h':=by
 have hx:∀ b,H b=none->b≠x:=fun b n z=>by subst z;rw [n] at mu;exact mu
 have hb:∀ b,H b=none->b≠e:=fun b n z=>by
  subst z
  rcases he with r | r
  ·exact hx b n r
  ·rw [n] at r;cases r
 have hm:∀ b u,H b=some u->¬ Mut (some u)->b≠x:=fun b u q nm z=>by subst z;rw [q] at mu;exact nm mu
 refine ⟨fun b u q n _ _=>k b u (hb b n) q,fun b u q n _ _=>⟨u.slots,k b u (hb b n) q⟩,fun b u q n _=>by rw [bf (hx b n)];exact n,fun b u q _=>?_,
  fun b xs q=>by rw [bf (hm b _ q fun z=>z)];exact q,fun b u xs q=>by rw [bf (hm b _ q fun z=>z)];exact q,fun b ps q=>⟨#[],by rw [bf (hm b _ q fun z=>z),q];simp⟩⟩
 by_cases hbe:b=e
 ·subst hbe;exact heo
 ·exact ⟨u,k b u hbe q⟩
end
noncomputable def trk (h:Heap) (H:Hp):List Addr:=(bp h.objs.size).filter fun a=>(H a).isSome
noncomputable def vw (h:Heap) (H:Hp):Heap:=PySem.W.hideAll h (trk h H)
theorem u0 (h:Heap) (H:Hp):(vw h H).objs.size=h.objs.size:=PySem.W.hideAll_size _ _
theorem v9 {h:Heap} {H:Hp} {b:Addr} {o:Obj} (e:h.get? b=some o) (n:H b=none):(vw h H).get? b=some o :=
 PySem.W.hideAll_get _ e fun hm=>by
  have q:(H b).isSome=true:=(bw.mp hm).2
  rw [n] at q;simp at q
theorem yN {h:Heap} {H:Hp} {b:Addr} {o:Obj} (e:(vw h H).get? b=some o):h.get? b=some o/\H b=none:=by
 have e':h.get? b=some o:=PySem.W.of_hideAll (trk h H) e
 refine ⟨e',?_⟩
 cases q:H b with
 | none=>rfl
 | some x =>
   have hm:b∈trk h H:=bw.mpr ⟨gC.mpr (aw e'),by simp [q]⟩
   have z:(vw h H).get? b=none:=PySem.W.hideAll_none (trk h H) hm
   rw [z] at e;cases e
end L2
namespace L2
open PySem PySem.Spec PyProof.Rows
structure Mod (K:PySem.W.Frag) (mg:Str->Option Value) (base:Heap):Prop where
 kin:K.In base
 glob:base.Ns mainGlobals mg
 blt:∃ mb,base.Ns builtinsNs mb/\∀ x:Str,x≠"__name__"->mb x=bootBuiltins x
 nolimit:base.NoLimit
structure Cx where
 prog:Program
 w:World
 K:PySem.W.Frag
 mg:Str->Option Value
 base:Heap
 A:Around
 N:List Str
 s₀:Shared
 H₀:Hp
 env:Env
 outer:List Env
 stack:List Env
 ex:List Addr
 fn:Str->Bool
 calm:Bool
 pn:List (Addr×Obj)
 xe:Value->Shared->Prop
noncomputable def frs (l:List Env):List Addr:=l.filterMap (·.frame)
noncomputable abbrev Cx.fs (X:Cx):List Addr:=frs X.outer
noncomputable def Vis (sc:Scope) (x:Str):Prop:=sc.names.lookup x=some .local\/sc.names.lookup x=some .cell\/sc.names.lookup x=some .free
noncomputable def Loc (sc:Scope) (x:Str):Prop:=sc.names.lookup x=some .local\/sc.names.lookup x=some .cell
noncomputable def EE (env:Env) (h:Heap) (m:Str->Option Value) (x:Str) (u:Value):Prop :=
 (env.kindOf x=some .local/\m x=some u)\/((env.kindOf x=some .cell\/env.kindOf x=some .free)/\∃ c,env.cells.lookup x=some c/\h.IsCell c (some u))
structure Cx.Ok (X:Cx):Prop where
 mod:Mod X.K X.mg X.base
 kind:X.env.scope.kind=.function
 glob:X.env.globals=mainGlobals
 blt:X.env.builtins=builtinsNs
 above:X.s₀.heap.objs.size<=X.env.locals
 inj:∀ x y c,X.env.cells.lookup x=some c->X.env.cells.lookup y=some c->x=y
 has:∀ x,(X.env.kindOf x=some .cell\/X.env.kindOf x=some .free)->∃ c,X.env.cells.lookup x=some c
 cab:∀ x c,X.fn x=true->X.env.cells.lookup x=some c->X.s₀.heap.objs.size<=c
 hd:X.calm=true->X.A.handled=none
 frames:X.A.frames=some X.stack
 stk:X.stack=X.outer\/(X.stack=X.env::X.outer/\X.env.frame=some X.env.locals)
 exf:∀ b∈X.ex,b≠X.env.locals/\∀ x c,X.env.cells.lookup x=some c->c≠b
 bs:∀ b o,X.base.get? b=some o->X.s₀.heap.get? b=some o/\X.H₀ b=none
 bsz:X.base.objs.size<=X.s₀.heap.objs.size
 noex:∀ b o,X.base.get? b=some o->b∉X.ex
 exfs:∀ b∈X.ex,b∉X.fs
 funs:X.s₀.heap.FunFrames X.base X.outer
 frf:∀ b∈X.fs,X.H₀ b=none
structure Inv (X:Cx) (pins:List (Addr×Obj)) (σ:List (Option V)) (H:Hp) (s:Shared):Prop where
 ok:X.Ok
 os:s.os=X.s₀.os
 bare:AllBare s.gens
 base:Un X.fs X.ex X.H₀ H X.s₀.heap s.heap
 loc:∃ m,s.heap.Ns X.env.locals m/\∀ (i:Nat) (x:Str) (v:V),X.N[i]?=some x->σ[i]?=some (some v)->Vis X.env.scope x->∃ u,dH v u/\EE X.env s.heap m x u
 cell:∀ x c,X.env.cells.lookup x=some c->∃ v,s.heap.IsCell c v
 free:H X.env.locals=none
 freeC:∀ x c,X.env.cells.lookup x=some c->H c=none
 pin:∀ p∈X.pn++pins,s.heap.get? p.1=some p.2/\H p.1=none/\p.1≠X.env.locals/\p.1∉X.fs/\∀ v,p.2.data≠.cell v
 hok:HOk X.prog X.w H s.heap
 len:σ.length=X.N.length
section
variable {X:Cx} {pins:List (Addr×Obj)} {σ:List (Option V)} {H H':Hp} {s:Shared} {h':Heap}
theorem Cx.Ok.nofr (ok:X.Ok) {b:Addr} {o:Obj} (e:X.base.get? b=some o):b∉X.fs:=fun hb=>by
 have:=(ok.funs.mem hb).1
 rw [e] at this;cases this
theorem Inv.bs (I:Inv X pins σ H s):∀ b o,X.base.get? b=some o->s.heap.get? b=some o/\H b=none:=fun b o e =>
 ⟨I.base.keep b o (I.ok.bs b o e).1 (I.ok.bs b o e).2 (I.ok.nofr e) (I.ok.noex b o e),I.base.free b o (I.ok.bs b o e).1 (I.ok.bs b o e).2 (I.ok.noex b o e)⟩
theorem Inv.bk (I:Inv X pins σ H s):∀ b o,X.base.get? b=some o->s.heap.get? b=some o:=fun b o e=>(I.bs b o e).1
theorem Inv.mod (I:Inv X pins σ H s):Mod X.K X.mg X.base:=I.ok.mod
theorem Inv.kIn (I:Inv X pins σ H s):X.K.In s.heap:=I.ok.mod.kin.keeps I.bk
theorem Inv.lt (I:Inv X pins σ H s):X.env.locals<s.heap.objs.size:=let ⟨_,hn,_⟩:=I.loc;hn.lt
theorem Inv.sz (I:Inv X pins σ H s):X.s₀.heap.objs.size<=s.heap.objs.size:=bR I.ok.above (gD I.lt)
theorem Inv.nofs (I:Inv X pins σ H s) {a:Addr} (h:s.heap.objs.size<=a):a∉X.fs:=fun hb=>by
 obtain ⟨_,o,ho,_⟩:=I.ok.funs.mem hb
 exact absurd (aM (aw ho) (bR I.sz h)) (bz _)
theorem Inv.cne (I:Inv X pins σ H s):∀ x c,X.env.cells.lookup x=some c->c≠X.env.locals:=fun x c e z=>by
 obtain ⟨v,o,ho,hd⟩:=I.cell x c e
 obtain ⟨m,⟨o',es,ep,ho',hd',_⟩,_⟩:=I.loc
 rw [z,ho'] at ho;cases ho;rw [hd'] at hd;cases hd
theorem Inv.funs (I:Inv X pins σ H s):s.heap.FunFrames X.base X.outer:=by
 have all:∀ (l:List Env),(∀ b∈frs l,b∈X.fs)->X.s₀.heap.FunFrames X.base l->s.heap.FunFrames X.base l:=by
  intro l
  induction l with
  | nil=>intro _ _;trivial
  | cons env r ih =>
    intro hs hl
    obtain ⟨hk,⟨L,o,hf,hn,ho,hd⟩,hr⟩:=hl
    have hL:L∈X.fs:=hs L (by unfold frs;rw [fZ,hf];exact ax)
    obtain ⟨sl,e⟩:=I.base.slot L o ho (I.ok.frf L hL) hL fun z=>I.ok.exfs L z hL
    exact ⟨hk,⟨L,_,hf,hn,e,hd⟩,ih (fun b hb=>hs b (by unfold frs;rw [fZ,hf];exact al _ hb)) hr⟩
 exact all X.outer (fun _ hb=>hb) I.ok.funs
theorem Inv.stack (I:Inv X pins σ H s):s.heap.FunFrames X.base X.stack:=by
 rcases I.ok.stk with e | ⟨e,hf⟩
 ·rw [e];exact I.funs
 ·rw [e]
  obtain ⟨m,hn,_⟩:=I.loc
  refine .cons (by rw [I.ok.kind];decide) hf hn ?_ I.funs
  exact xg (bR I.ok.bsz I.ok.above)
theorem Inv.stkSub (I:Inv X pins σ H s):∀ b∈frs X.stack,b∈X.env.locals::X.fs:=fun b hb=>by
 rcases I.ok.stk with e | ⟨e,hf⟩
 ·rw [e] at hb;exact al _ hb
 ·rw [e] at hb
  unfold frs at hb
  rw [fZ,hf] at hb
  exact hb
theorem Inv.stkFree (I:Inv X pins σ H s):∀ b∈frs X.stack,H b=none:=fun b hb=>by
 rcases ah.mp (I.stkSub b hb) with e | hb
 ·rw [e];exact I.free
 ·obtain ⟨_,o,ho,_⟩:=I.ok.funs.mem hb
  exact I.base.free b o ho (I.ok.frf b hb) fun z=>I.ok.exfs b z hb
theorem Inv.step {g':Array GenState} {t':Nat} {d':Drawn} {ch:List Addr} (I:Inv X pins σ H s)
 (hch:∀ b∈ch,(b∈X.ex\/X.s₀.heap.objs.size<=b)/\b≠X.env.locals/\(∀ x c,X.env.cells.lookup x=some c->c≠b)/\∀ p∈X.pn++pins,p.1≠b)
 (keep:∀ b o,b≠X.env.locals->b∉X.fs->b∉ch->s.heap.get? b=some o->H b=none->h'.get? b=some o)
 (slot:∀ b o,b≠X.env.locals->b∈X.fs->b∉ch->s.heap.get? b=some o->H b=none->∃ sl,h'.get? b=some { o with slots:=sl }) (free:∀ b o,b∉ch->s.heap.get? b=some o->H b=none->H' b=none)
 (there:∀ b o,b∉ch->s.heap.get? b=some o->∃ o',h'.get? b=some o')
 (tups:∀ b xs,H b=some (.tup xs)->H' b=some (.tup xs)) (frzs:∀ b o u,H b=some (.frz o u)->H' b=some (.frz o u)) (tbls:∀ b ps,H b=some (.tbl ps)->∃ more,H' b=some (.tbl (ps++more)))
 (ns:∀ m,s.heap.Ns X.env.locals m->h'.Ns X.env.locals m) (hok:HOk X.prog X.w H' h') (hg:AllBare g') :
 Inv X pins σ H' { s with heap:=h',gens:=g',drawn:=d',toks:=t' }:=by
 have neL:∀ b o,X.s₀.heap.get? b=some o->b≠X.env.locals:=fun b o e=>aL (aM (aw e) I.ok.above)
 have neC:∀ b o,X.s₀.heap.get? b=some o->b∉X.ex->b∉ch:=fun b o e hx hb=>by
  rcases (hch b hb).1 with z | z
  ·exact hx z
  ·exact absurd (aM (aw e) z) (bz _)
 have cellK:∀ x c,X.env.cells.lookup x=some c->∀ v,s.heap.IsCell c v->h'.IsCell c v:=fun x c e v ⟨o,ho,hd⟩=>by
  have nch:c∉ch:=fun z=>(hch c z).2.2.1 x c e rfl
  by_cases hc:c∈X.fs
  ·obtain ⟨sl,q⟩:=slot c o (I.cne x c e) hc nch ho (I.freeC x c e)
   exact ⟨_,q,hd⟩
  ·exact ⟨o,keep c o (I.cne x c e) hc nch ho (I.freeC x c e),hd⟩
 refine ⟨I.ok,I.os,hg,⟨fun b o e n hb hx=>?_,fun b o e n hb hx=>?_,fun b o e n hx=>?_,fun b o e hx=>?_,fun b xs e=>tups b xs (I.base.tups b xs e),fun b o xs e=>frzs b o xs (I.base.frzs b o xs e),fun b ps e=>?_⟩,?_,fun x c e=>?_,?_,fun x c e=>?_,fun p hp=>?_,hok,I.len⟩
 ·exact keep b o (neL b o e) hb (neC b o e hx) (I.base.keep b o e n hb hx) (I.base.free b o e n hx)
 ·obtain ⟨sl,e1⟩:=I.base.slot b o e n hb hx
  obtain ⟨sl',e2⟩:=slot b _ (neL b o e) hb (neC b o e hx) e1 (I.base.free b o e n hx)
  exact ⟨sl',e2⟩
 ·obtain ⟨o',e1⟩:=I.base.there b o e hx
  exact free b o' (neC b o e hx) e1 (I.base.free b o e n hx)
 ·obtain ⟨o',e1⟩:=I.base.there b o e hx
  exact there b o' (neC b o e hx) e1
 ·obtain ⟨m1,e1⟩:=I.base.tbls b ps e
  obtain ⟨m2,e2⟩:=tbls b _ e1
  exact ⟨m1++m2,by rw [e2,Array.append_assoc]⟩
 ·obtain ⟨m,hn,hl⟩:=I.loc
  refine ⟨m,ns m hn,fun i x v e1 e2 e3=>?_⟩
  obtain ⟨u,r,l⟩:=hl i x v e1 e2 e3
  refine ⟨u,r,?_⟩
  rcases l with l | ⟨k,c,e,z⟩
  ·exact .inl l
  ·exact .inr ⟨k,c,e,cellK x c e _ z⟩
 ·obtain ⟨v,z⟩:=I.cell x c e
  exact ⟨v,cellK x c e v z⟩
 ·obtain ⟨m,⟨o,_,_,ho,_⟩,_⟩:=I.loc
  exact free _ o (fun z=>(hch _ z).2.1 rfl) ho I.free
 ·obtain ⟨v,o,ho,hd⟩:=I.cell x c e
  exact free c o (fun z=>(hch c z).2.2.1 x c e rfl) ho (I.freeC x c e)
 ·obtain ⟨e,n,ne,nf,d⟩:=I.pin p hp
  have nch:p.1∉ch:=fun z=>(hch p.1 z).2.2.2 p hp rfl
  exact ⟨keep p.1 p.2 ne nf nch e n,free p.1 p.2 nch e n,ne,nf,d⟩
theorem Inv.un {t':Nat} (I:Inv X pins σ H s) (u:Un X.fs [] H H' s.heap h') (hok:HOk X.prog X.w H' h'):Inv X pins σ H' { s with heap:=h',toks:=t' }:=by
 obtain ⟨m,⟨o,es,ep,ho,r⟩,_⟩:=id I.loc
 obtain ⟨sl,hL⟩:=u.any ho I.free (by simp)
 exact I.step (g':=s.gens) (d':=s.drawn) (ch:=[]) (fun _ z=>nomatch z) (fun b o _ hb _ e n=>u.keep b o e n hb (by simp)) (fun b o _ hb _ e n=>u.slot b o e n hb (by simp)) (fun b o _ e n=>u.free b o e n (by simp)) (fun b o _ e=>u.there b o e (by simp)) u.tups u.frzs u.tbls (fun m' hm=>by
  obtain ⟨o',es',ep',ho',r'⟩:=hm
  rw [ho] at ho';cases ho'
  exact ⟨_,es',ep',hL,r'⟩) hok I.bare
theorem Inv.call {g':Array GenState} {t':Nat} {d':Drawn} {ch:List Addr} (I:Inv X pins σ H s) (u:Un (frs X.stack) ch H H' s.heap h') (hok:HOk X.prog X.w H' h') (hg:AllBare g')
 (hch:∀ b∈ch,(b∈X.ex\/X.s₀.heap.objs.size<=b)/\b≠X.env.locals/\(∀ x c,X.env.cells.lookup x=some c->c≠b)/\∀ p∈X.pn++pins,p.1≠b) :
 Inv X pins σ H' { s with heap:=h',gens:=g',drawn:=d',toks:=t' }:=by
 obtain ⟨m,⟨o,es,ep,ho,r⟩,_⟩:=id I.loc
 obtain ⟨sl,hL⟩:=u.any ho I.free fun z=>(hch _ z).2.1 rfl
 exact I.step (ch:=ch) hch (fun b o hL hb hc e n=>u.keep b o e n (fun z=>(ah.mp (I.stkSub b z)).elim hL hb) hc) (fun b o _ _ hc e n=>u.any e n hc) (fun b o hc e n=>u.free b o e n hc) (fun b o hc e=>u.there b o e hc) u.tups u.frzs u.tbls (fun m' hm=>by
  obtain ⟨o',es',ep',ho',r'⟩:=hm
  rw [ho] at ho';cases ho'
  exact ⟨_,es',ep',hL,r'⟩) hok hg
theorem Inv.turned {t':Nat} {it:Addr} (I:Inv X pins σ H s) (k:∀ b o,b≠it->s.heap.get? b=some o->h'.get? b=some o) (hn:H it=none) (hL:it≠X.env.locals)
 (h1:it∈X.ex\/X.s₀.heap.objs.size<=it) (h2:∀ x c,X.env.cells.lookup x=some c->c≠it) (h3:∀ p∈X.pn++pins,p.1≠it):Inv X pins σ H { s with heap:=h',toks:=t' }:=by
 have nit:∀ b u,H b=some u->b≠it:=fun b u e z=>by rw [z,hn] at e;cases e
 refine I.step (g':=s.gens) (d':=s.drawn) (ch:=[it]) (fun b hb=>?_) (fun b o _ _ hc e _=>k b o (fun z=>hc (by simp [z])) e) (fun b o _ _ hc e _=>⟨o.slots,k b o (fun z=>hc (by simp [z])) e⟩) (fun _ _ _ _ n=>n)
  (fun b o hc e=>⟨o,k b o (fun z=>hc (by simp [z])) e⟩) (fun _ _ e=>e) (fun _ _ _ e=>e) (fun b ps e=>⟨#[],by rw [e];simp⟩) (fun m hm=>?_) (fun b u e=>?_) I.bare
 ·have e:b=it:=by simpa using hb
  subst e
  exact ⟨h1,hL,h2,h3⟩
 ·obtain ⟨o,es,ep,ho,r⟩:=hm
  exact ⟨o,es,ep,k _ o (Ne.symm hL) ho,r⟩
 ·refine (I.hok b u e).stay (fun c v hc q=>k c v ?_ q) (fun _ q=>q) (fun _ _ q=>q) fun _ _ q=>q
  rcases hc with z | z
  ·rw [z];exact nit b u e
  ·exact nit c _ z
theorem Inv.tok (I:Inv X pins σ H s) (t:Nat):Inv X pins σ H { s with toks:=t }:=I.un (h':=s.heap) (t':=t) Un.refl I.hok
theorem Inv.kept {t':Nat} (I:Inv X pins σ H s) (k:∀ b u,s.heap.get? b=some u->h'.get? b=some u):Inv X pins σ H { s with heap:=h',toks:=t' }:=I.un (Un.kept k) (I.hok.kept k)
theorem Inv.laid {a:Addr} {o:HO} {t':Nat} (I:Inv X pins σ H s) (k:∀ b u,s.heap.get? b=some u->h'.get? b=some u) (hp:s.heap.objs.size<=a) (new:eG X.prog X.w (upd H a o) h' a o) :
 Inv X pins σ (upd H a o) { s with heap:=h',toks:=t' }:=I.un (Un.laid k hp (I.hok.fresh hp)) (I.hok.laid k hp new)
theorem Inv.write {x e:Addr} {o:HO} {t':Nat} (I:Inv X pins σ H s) (mu:Mut (H x)) (he:e=x\/H e=some (.own x)) (k:∀ b u,b≠e->s.heap.get? b=some u->h'.get? b=some u) (heo:∃ u,h'.get? e=some u)
 (new:eG X.prog X.w (upd H x o) h' x o):Inv X pins σ (upd H x o) { s with heap:=h',toks:=t' }:=I.un (Un.write mu he k heo) (I.hok.write mu he k heo new)
theorem Inv.pins_of {pins':List (Addr×Obj)} (I:Inv X pins σ H s) (h:∀ p∈pins',s.heap.get? p.1=some p.2/\H p.1=none/\p.1≠X.env.locals/\p.1∉X.fs/\∀ v,p.2.data≠.cell v):Inv X pins' σ H s :=
 ⟨I.ok,I.os,I.bare,I.base,I.loc,I.cell,I.free,I.freeC,fun p hp=>(aE.mp hp).elim (fun z=>I.pin p (cp _ z)) (h p),I.hok,I.len⟩
theorem jC {N:List Str} (hN:N.Nodup) {i j:Nat} {x:Str} (a:N[i]?=some x) (b:N[j]?=some x):i=j:=by
 obtain ⟨h1,e1⟩:=aq.mp a
 obtain ⟨h2,e2⟩:=aq.mp b
 exact (eI hN).mp (e1.trans e2.symm)
theorem uF {M:Model} {A:Around} {E:Value->Shared->Prop} {i:Nat} {x:Str} {v:V} {u:Value} {Q:Unit->Shared->Prop} (I:Inv X pins σ H s) (hN:X.N.Nodup) (hi:X.N[i]?=some x) (hx:Loc X.env.scope x) (r:dH v u)
 (h:∀ s',Inv X pins (σ.set i (some v)) H s'->(∃ a,Heap.SameBut a s.heap s'.heap/\(a=X.env.locals\/X.env.cells.lookup x=some a))->Q () s') (hf:X.fn x=true\/X.env.scope.names.lookup x=some .local:=by first | exact .inl rfl | exact .inr rfl | assumption):wpAny M A (storeName X.env x u) Q E s:=by
 obtain ⟨m,hn,hl⟩:=id I.loc
 have hcls:(X.env.scope.kind == .class||(X.env.scope.kind == .module&&X.env.locals != X.env.globals))=false:=by rw [I.ok.kind];rfl
 have hiσ:i<σ.length:=by rw [I.len];exact (aq.mp hi).1
 have cne:=I.cne
 have tracked:∀ {a:Addr} {h':Heap},(∃ o,s.heap.get? a=some o/\H a=none)->Heap.SameBut a s.heap h'->HOk X.prog X.w H h':=fun {a h'} ha hs b ob e=>by
  obtain ⟨_,_,hfree⟩:=ha
  refine (I.hok b ob e).stay (fun c w' hc q=>(hs.2 c ?_).trans q) (fun _ q=>q) (fun _ _ q=>q) fun _ _ q=>q
  rintro rfl
  rcases hc with rfl | hc
  ·rw [hfree] at e;cases e
  ·rw [hfree] at hc;cases hc
 rcases hx with hk | hk
 ·refine wpAny_storeName_local hk hn (fun h' hn' hs=>?_) hcls
  obtain ⟨oL,_,_,hoL,_⟩:=id hn
  refine h _ ⟨I.ok,I.os,I.bare,⟨fun b o e n hb hx=>?_,fun b o e n hb hx=>?_,I.base.free,fun b o e hx=>?_,I.base.tups,I.base.frzs,I.base.tbls⟩,⟨_,hn',fun j y v' e1 e2 e3=>?_⟩,fun y c e=>?_,I.free,I.freeC,fun p hp=>?_,tracked ⟨oL,hoL,I.free⟩ hs,by simpa using I.len⟩ ⟨_,hs,.inl rfl⟩
  ·exact (hs.2 b (aL (aM (aw e) I.ok.above))).trans (I.base.keep b o e n hb hx)
  ·obtain ⟨sl,e1⟩:=I.base.slot b o e n hb hx
   exact ⟨sl,(hs.2 b (aL (aM (aw e) I.ok.above))).trans e1⟩
  ·obtain ⟨o',e1⟩:=I.base.there b o e hx
   exact ⟨o',(hs.2 b (aL (aM (aw e) I.ok.above))).trans e1⟩
  ·by_cases hj:j=i
   ·subst hj
    rw [hi] at e1;cases e1
    rw [aK hiσ] at e2
    cases e2
    exact ⟨u,r,.inl ⟨hk,by simp⟩⟩
   ·rw [aP (Ne.symm hj)] at e2
    obtain ⟨u',r',q⟩:=hl j y v' e1 e2 e3
    refine ⟨u',r',?_⟩
    rcases q with ⟨k,e⟩ | ⟨k,c,e,z⟩
    ·refine .inl ⟨k,?_⟩
     have:y≠x:=fun e=>hj (jC hN e1 (e▸hi))
     simp [this,e]
    ·exact .inr ⟨k,c,e,z.sameBut hs (cne y c e)⟩
  ·obtain ⟨w',z⟩:=I.cell y c e
   exact ⟨w',z.sameBut hs (cne y c e)⟩
  ·obtain ⟨e,n,ne,nf,d⟩:=I.pin p hp
   exact ⟨(hs.2 p.1 ne).trans e,n,ne,nf,d⟩
 ·have hfn:X.fn x=true:=by
   rcases hf with z | z
   ·exact z
   ·rw [z] at hk;cases hk
  obtain ⟨c,hc⟩:=I.ok.has x (.inl hk)
  obtain ⟨w',z⟩:=I.cell x c hc
  refine wpAny_storeName_cell I.ok.kind hk hc z (fun h' hc' hs=>?_)
  obtain ⟨oc,hoc,hocd⟩:=id z
  refine h { s with heap:=h' } ⟨I.ok,I.os,I.bare,⟨fun b o e n hb hx=>?_,fun b o e n hb hx=>?_,I.base.free,fun b o e hx=>?_,I.base.tups,I.base.frzs,I.base.tbls⟩,⟨m,hn.sameBut hs (Ne.symm (cne x c hc)),fun j y v' e1 e2 e3=>?_⟩,fun y c' e=>?_,I.free,I.freeC,fun p hp=>?_,tracked ⟨oc,hoc,I.freeC x c hc⟩ hs,by simpa using I.len⟩ ⟨c,hs,.inr hc⟩
  ·exact (hs.2 b (aL (aM (aw e) (I.ok.cab x c hfn hc)))).trans (I.base.keep b o e n hb hx)
  ·obtain ⟨sl,e1⟩:=I.base.slot b o e n hb hx
   exact ⟨sl,(hs.2 b (aL (aM (aw e) (I.ok.cab x c hfn hc)))).trans e1⟩
  ·obtain ⟨o',e1⟩:=I.base.there b o e hx
   exact ⟨o',(hs.2 b (aL (aM (aw e) (I.ok.cab x c hfn hc)))).trans e1⟩
  ·by_cases hj:j=i
   ·subst hj
    rw [hi] at e1;cases e1
    rw [aK hiσ] at e2
    cases e2
    exact ⟨u,r,.inr ⟨.inl hk,c,hc,hc'⟩⟩
   ·rw [aP (Ne.symm hj)] at e2
    obtain ⟨u',r',q⟩:=hl j y v' e1 e2 e3
    refine ⟨u',r',?_⟩
    rcases q with q | ⟨k,c',e,z'⟩
    ·exact .inl q
    ·refine .inr ⟨k,c',e,z'.sameBut hs ?_⟩
     rintro rfl
     exact hj (jC hN e1 (I.ok.inj _ _ _ e hc▸hi))
  ·by_cases hcc:c'=c
   ·subst hcc;exact ⟨_,hc'⟩
   ·obtain ⟨w2,z2⟩:=I.cell y c' e
    exact ⟨w2,z2.sameBut hs hcc⟩
  ·obtain ⟨e,n,ne,nf,d⟩:=I.pin p hp
   refine ⟨(hs.2 p.1 ?_).trans e,n,ne,nf,d⟩
   intro q
   rw [q,hoc] at e
   have q':oc=p.2:=Option.some.inj e
   exact d w' (by rw [<- q'];exact hocd)
theorem jB {M:Model} {A:Around} {E:Value->Shared->Prop} {i:Nat} {x:Str} {v:V} {u:Value} {Q:Unit->Shared->Prop} (I:Inv X pins σ H s) (hN:X.N.Nodup) (hi:X.N[i]?=some x) (hx:Loc X.env.scope x) (r:dH v u)
 (h:∀ s',Inv X pins (σ.set i (some v)) H s'->Q () s') (hf:X.fn x=true\/X.env.scope.names.lookup x=some .local:=by first | exact .inl rfl | exact .inr rfl | assumption):wpAny M A (storeName X.env x u) Q E s :=
 uF I hN hi hx r (fun s' I' _=>h s' I') hf
theorem Inv.call' {s':Shared} {ch:List Addr} (I:Inv X pins σ H s) (ho:s'.os=s.os) (u:Un (frs X.stack) ch H H' s.heap s'.heap) (hok:HOk X.prog X.w H' s'.heap) (hg:AllBare s'.gens)
 (hch:∀ b∈ch,(b∈X.ex\/X.s₀.heap.objs.size<=b)/\b≠X.env.locals/\(∀ x c,X.env.cells.lookup x=some c->c≠b)/\∀ p∈X.pn++pins,p.1≠b):Inv X pins σ H' s':=by
 obtain ⟨h',g',d',t',o'⟩:=s'
 have e:o'=s.os:=ho
 subst e
 exact I.call (g':=g') (t':=t') (d':=d') u hok hg hch
end
noncomputable abbrev XK:=Value->Option Addr->Hp->Prop
noncomputable abbrev St:=List (Option V)
noncomputable abbrev VK:=V->Hp->Prop
noncomputable abbrev TE:=St->Hp->VK->Prop
noncomputable abbrev TT:=St->Hp->(Bool->Hp->Prop)->Prop
noncomputable abbrev TA:=St->Hp->(List V->Hp->Prop)->Prop
structure vx where
 nx:St->Hp->Prop
 rt:VK
 bk:St->Hp->Prop:=fun _ _=>False
 ct:St->Hp->Prop:=fun _ _=>False
noncomputable abbrev TS:=vx->St->Hp->Prop
noncomputable def EP (X:Cx) (pins:List (Addr×Obj)) (σ:St) (Q:VK) (u:Value) (s':Shared):Prop:=∃ v H',Inv X pins σ H' s'/\dH v u/\Q v H'
noncomputable def TP (X:Cx) (pins:List (Addr×Obj)) (σ:St) (Q:Bool->Hp->Prop) (b:Bool) (s':Shared):Prop:=∃ H',Inv X pins σ H' s'/\Q b H'
noncomputable def AP (X:Cx) (pins:List (Addr×Obj)) (σ:St) (Q:List V->Hp->Prop) (us:List Value) (s':Shared):Prop:=∃ vs H',Inv X pins σ H' s'/\cq vs us/\Q vs H'
noncomputable def SP (X:Cx) (pins:List (Addr×Obj)) (D:vx) (f:Flow) (s':Shared):Prop :=
 match f with
 | .next=>∃ σ' H',Inv X pins σ' H' s'/\D.nx σ' H'
 | .brk=>∃ σ' H',Inv X pins σ' H' s'/\D.bk σ' H'
 | .cont=>∃ σ' H',Inv X pins σ' H' s'/\D.ct σ' H'
 | .ret u=>∃ v σ' H',Inv X pins σ' H' s'/\dH v u/\D.rt v H'
noncomputable def PE (X:Cx) (e:Expr) (t:TE):Prop :=
 ∀ (pins:List (Addr×Obj)) (s:Shared) (σ:St) (H:Hp) (Q:VK),Inv X pins σ H s->t σ H Q->wpAny (model X.prog X.w) X.A (eval e X.env) (EP X pins σ Q) X.xe s
noncomputable def PT (X:Cx) (e:Expr) (t:TT):Prop :=
 ∀ (pins:List (Addr×Obj)) (s:Shared) (σ:St) (H:Hp) (Q:Bool->Hp->Prop),Inv X pins σ H s->t σ H Q->wpAny (model X.prog X.w) X.A (isTrue e X.env (eval e X.env)) (TP X pins σ Q) X.xe s
noncomputable def PW (X:Cx) (e:Expr) (t:TT):Prop :=
 ∀ (whole:Sem Value) (pins:List (Addr×Obj)) (s:Shared) (σ:St) (H:Hp) (Q:Bool->Hp->Prop),Inv X pins σ H s->t σ H Q->wpAny (model X.prog X.w) X.A (isTrue e X.env whole) (TP X pins σ Q) X.xe s
theorem PW.pt {X:Cx} {e:Expr} {t:TT} (h:PW X e t):PT X e t:=h _
noncomputable def PA (X:Cx) (es:List Expr) (t:TA):Prop :=
 ∀ (pos:Pos) (pins:List (Addr×Obj)) (s:Shared) (σ:St) (H:Hp) (Q:List V->Hp->Prop),Inv X pins σ H s->t σ H Q->wpAny (model X.prog X.w) X.A (spliced (backTo pos (starEach es X.env))) (AP X pins σ Q) X.xe s
noncomputable def PS (X:Cx) (st:Stmt) (t:TS):Prop :=
 ∀ (pins:List (Addr×Obj)) (s:Shared) (σ:St) (H:Hp) (D:vx),Inv X pins σ H s->t D σ H->wpAny (model X.prog X.w) X.A (exec st X.env) (SP X pins D) X.xe s
noncomputable def PSs (X:Cx) (st:List Stmt) (t:TS):Prop :=
 ∀ (pins:List (Addr×Obj)) (s:Shared) (σ:St) (H:Hp) (D:vx),Inv X pins σ H s->t D σ H->wpAny (model X.prog X.w) X.A (execs st X.env) (SP X pins D) X.xe s
theorem thn {α:Type} {t:Sem α} {Q Q':α->Shared->Prop} {M:Model} {A:Around} {E:Value->Shared->Prop} {s:Shared} (h:wpAny M A t Q E s) (hQ:∀ a s,Q a s->Q' a s):wpAny M A t Q' E s:=wpAny_mono h hQ fun _ _ x=>x
end L2
namespace L2
open PySem PySem.Spec PyProof.Rows
section
variable {X:Cx}
noncomputable def kF (i:Nat):TE:=fun σ H Q=>∃ v,σ[i]?=some (some v)/\Q v H
noncomputable def tC (v:V):TE:=fun _ H Q=>Q v H
theorem m9 {i:Nat} {x:Str} {pos:Pos} (hN:X.N[i]?=some x) (hv:Vis X.env.scope x) (hd:(x == ("__debug__" : Str))=false:=by decide) (hcd:(x == ("__classdict__" : Str))=false:=by decide):PE X (.Name x pos) (kF i):=by
 intro pins s σ H Q I h
 obtain ⟨v,e,h⟩:=h
 obtain ⟨m,hn,hl⟩:=I.loc
 obtain ⟨u,r,l⟩:=hl i x v hN e hv
 have fin:EP X pins σ Q u s:=⟨v,H,I,r,h⟩
 rcases l with ⟨hk,hm⟩ | ⟨hk,c,hc,hcell⟩
 ·exact wpAny_Name (wpAny_loadName_local I.ok.kind hk hn hm fin) hd
 ·rcases hk with hk | hk
  ·exact wpAny_Name (wpAny_loadName_cell I.ok.kind hk hc hcell fin) hd
  ·exact wpAny_Name (wpAny_loadName_free I.ok.kind hk hc hcell fin hcd) hd
theorem Bg {i j pos}:PE X (.Constant (.int i) j pos) (tC (.int i)):=fun _ _ _ H _ I h=>wpAny_Constant_int ⟨.int i,H,I.tok _,⟨_,rfl⟩,h⟩
theorem A6 {b j pos}:PE X (.Constant (.bool b) j pos) (tC (.bl b)):=fun _ _ _ H _ I h=>Constant_bool ⟨.bl b,H,I,rfl,h⟩
theorem xl {x j pos}:PE X (.Constant (.str x) j pos) (tC (.str x)):=fun _ _ _ H _ I h=>Calls.Constant_str ⟨.str x,H,I.tok _,⟨_,rfl⟩,h⟩
noncomputable def Gl (X:Cx) (x:Str):Prop:=X.env.kindOf x=some .globalImplicit
theorem mh {E:Value->Shared->Prop} {pins:List (Addr×Obj)} {s:Shared} {σ:St} {H:Hp} {x:Str} {u:Value} {pos:Pos} {Q:Value->Shared->Prop} (I:Inv X pins σ H s) (hg:Gl X x) (hm:X.mg x=some u) (h:Q u s)
 (hd:(x == ("__debug__" : Str))=false:=by decide):wpAny (model X.prog X.w) X.A (eval (.Name x pos) X.env) Q E s :=
 Calls.Name_function_global I.ok.kind hg (Calls.loadGlobal_global (by rw [I.ok.glob];exact I.mod.glob.keeps I.bk) hm h) hd
theorem hU {E:Value->Shared->Prop} {pins:List (Addr×Obj)} {s:Shared} {σ:St} {H:Hp} {x:Str} {u:Value} {pos:Pos} {Q:Value->Shared->Prop} (I:Inv X pins σ H s) (hg:Gl X x) (hm:X.mg x=none) (hv:bootBuiltins x=some u) (h:Q u s)
 (hn:x≠"__name__":=by decide) (hd:(x == ("__debug__" : Str))=false:=by decide):wpAny (model X.prog X.w) X.A (eval (.Name x pos) X.env) Q E s:=by
 obtain ⟨mb,h1,h2⟩:=I.mod.blt
 exact Calls.Name_function_global I.ok.kind hg (Calls.loadGlobal_builtin (by rw [I.ok.glob];exact I.mod.glob.keeps I.bk) hm (by rw [I.ok.blt];exact h1.keeps I.bk) ((h2 x hn).trans hv) h) hd
theorem sS {x:Str} {v:V} {u:Value} {pos:Pos} (hg:Gl X x) (hm:X.mg x=some u) (r:dH v u) (hd:(x == ("__debug__" : Str))=false:=by decide):PE X (.Name x pos) (tC v) :=
 fun _ _ _ H _ I h=>mh I hg hm ⟨v,H,I,r,h⟩ hd
theorem vn {x:Str} {v:V} {u:Value} {pos:Pos} (hg:Gl X x) (hm:X.mg x=none) (hv:bootBuiltins x=some u) (r:dH v u) (hn:x≠"__name__":=by decide) (hd:(x == ("__debug__" : Str))=false:=by decide):PE X (.Name x pos) (tC v) :=
 fun _ _ _ H _ I h=>hU I hg hm hv ⟨v,H,I,r,h⟩ hn hd
variable {a b:Expr} {ta tb:TE} {pos:Pos}
noncomputable def PC (X:Cx) (op:CmpOp) (a b:Expr) (t:TE):Prop :=
 ∀ (pins:List (Addr×Obj)) (s:Shared) (σ:St) (H:Hp) (Q:VK),Inv X pins σ H s->t σ H Q ->
   wpAny (model X.prog X.w) X.A (eval a X.env) (fun v s₁=>wpAny (model X.prog X.w) X.A (eval b X.env) (fun u s₂=>wpAny (model X.prog X.w) X.A (compareOp op v u) (EP X pins σ Q) X.xe s₂) X.xe s₁) X.xe s
noncomputable def tB (t:TE):TT:=fun σ H Q=>t σ H fun x H1=>∃ c,x=.bl c/\Q c H1
theorem Bl {op:CmpOp} {t:TE} (h:PC X op a b t) (h1:behindInMarks op b=false:=by first | exact nobehind _ (by decide) (by decide) | rfl):PT X (.Compare a [op] [b] pos) (tB t):=by
 intro pins s σ H Q I hw
 refine wpAny_isTrue_Compare1 (thn (h pins s σ H _ I hw) fun v s1 h1=>thn h1 fun u s2 h2=>thn h2 fun c s3 ⟨x,H1,I1,r1,q1⟩=>?_) h1
 obtain ⟨d,rfl,q⟩:=q1
 cases r1
 exact wpAny_truthy_bool ⟨H1,I1,q⟩
variable {tA tB':TT} {rest:List Expr}
noncomputable def Ei (t u:TT):TT:=fun σ H Q=>t σ H fun c H1=>if c=true then u σ H1 Q else Q false H1
noncomputable def tOr (t u:TT):TT:=fun σ H Q=>t σ H fun c H1=>if c=true then Q true H1 else u σ H1 Q
noncomputable def EG (t:TT):TT:=fun σ H Q=>t σ H fun c H1=>Q (!c) H1
theorem yv (ha:PT X a tA):PW X (.BoolOp .And [a] pos) tA:=by
 intro wh pins s σ H Q I h
 refine isTrue_and (thn (ha pins s σ H Q I h) fun c s1 e=>?_)
 cases c with
 | true=>exact isTrue_and_nil e
 | false=>exact e
theorem Bo (ha:PT X a tA):PW X (.BoolOp .Or [a] pos) tA:=by
 intro wh pins s σ H Q I h
 refine isTrue_or (thn (ha pins s σ H Q I h) fun c s1 e=>?_)
 cases c with
 | false=>exact isTrue_or_nil e
 | true=>exact e
theorem BI (ha:PT X a tA) (hb:PW X (.BoolOp .And (b::rest) pos) tB'):PW X (.BoolOp .And (a::b::rest) pos) (Ei tA tB'):=by
 intro wh pins s σ H Q I h
 refine isTrue_and (thn (ha pins s σ H _ I h) fun c s1 ⟨H1,I1,q1⟩=>?_)
 cases c with
 | true=>exact hb wh pins s1 σ H1 Q I1 q1
 | false=>exact ⟨H1,I1,q1⟩
theorem D5 (ha:PT X a tA) (hb:PW X (.BoolOp .Or (b::rest) pos) tB'):PW X (.BoolOp .Or (a::b::rest) pos) (tOr tA tB'):=by
 intro wh pins s σ H Q I h
 refine isTrue_or (thn (ha pins s σ H _ I h) fun c s1 ⟨H1,I1,q1⟩=>?_)
 cases c with
 | true=>exact ⟨H1,I1,q1⟩
 | false=>exact hb wh pins s1 σ H1 Q I1 q1
theorem BF (ha:PT X a tA):PT X (.UnaryOp .Not a pos) (EG tA):=by
 intro pins s σ H Q I h
 exact isTrue_not (ha pins s σ H (fun c H1=>Q (!c) H1) I h)
noncomputable def y8 (ta tb:TE):TE:=fun σ H Q=>ta σ H fun x H1=>∃ c,x=.bl c/\if c=true then tb σ H1 Q else Q (.bl false) H1
noncomputable def A1 (ta:TE):TE:=fun σ H Q=>ta σ H fun x H1=>∃ c,x=.bl c/\Q (.bl (!c)) H1
theorem xH {op} {t:TE} (h:PE X a t):PE X (.BoolOp op [a] pos) t:=fun pins s σ H Q I hw=>BoolOp_one (h pins s σ H Q I hw)
theorem sC (ha:PE X a ta) (hb:PE X (.BoolOp .And (b::rest) pos) tb):PE X (.BoolOp .And (a::b::rest) pos) (y8 ta tb):=by
 intro pins s σ H Q I h
 refine BoolOp_and (thn (ha pins s σ H _ I h) fun v s1 ⟨x,H1,I1,r1,q1⟩=>?_)
 obtain ⟨c,rfl,q1⟩:=q1
 cases r1
 refine wpAny_truthy_bool ?_
 cases c with
 | true=>exact hb pins s1 σ H1 Q I1 q1
 | false=>exact ⟨.bl false,H1,I1,rfl,q1⟩
theorem xD (ha:PE X a ta):PE X (.UnaryOp .Not a pos) (A1 ta):=by
 intro pins s σ H Q I h
 refine UnaryOp_ (thn (ha pins s σ H _ I h) fun v s1 ⟨x,H1,I1,r1,q1⟩=>?_)
 obtain ⟨c,rfl,q1⟩:=q1
 cases r1
 exact not_of (wpAny_truthy_bool ⟨.bl (!c),H1,I1,rfl,q1⟩)
end
end L2
namespace L2
open PySem PySem.Spec PyProof.Rows
noncomputable def SqL (K:PySem.W.Frag) (H:Hp) (a:Addr) (xs:List V):Prop :=
 Rd H a (.lst xs) \/
  ∃ (o:Obj) (its:Array Value) (n:Nat),K.lookup a=some o/\o.cls=.type "list"/\o.dict=none/\o.data=.seq its n/\its.size<=sizeLine/\cq xs its.toList
noncomputable def SqT (K:PySem.W.Frag) (H:Hp) (a:Addr) (xs:List V):Prop :=
 Rd H a (.tup xs) \/
  ∃ (o:Obj) (its:Array Value) (n:Nat),K.lookup a=some o/\o.cls=.type "tuple"/\o.data=.seq its n/\its.size<=sizeLine/\cq xs its.toList
noncomputable def ES:Value->Option V
 | .none=>some .non
 | .bool b=>some (.bl b)
 | .int i _=>some (.int i)
 | .str x _=>some (.str x)
 | .bytes b _=>some (.byt b)
 | .float b _=>some (.flt b)
 | .ref a=>some (.ref a)
 | .type n=>some (.ty n)
 | _=>none
theorem dH.abs {x:V} {u:Value} (r:dH x u):ES u=some x:=by
 cases x with
 | non=>cases r;rfl
 | bl _=>cases r;rfl
 | int _=>obtain ⟨t,rfl⟩:=r;rfl
 | str _=>obtain ⟨t,rfl⟩:=r;rfl
 | byt _=>obtain ⟨t,rfl⟩:=r;rfl
 | flt _=>obtain ⟨t,rfl⟩:=r;rfl
 | ref _=>cases r;rfl
 | ty _=>cases r;rfl
theorem dH.inj {x y:V} {u:Value} (r:dH x u) (q:dH y u):x=y:=Option.some.inj (r.abs.symm.trans q.abs)
theorem cq.inj:∀ {xs ys:List V} {us:List Value},cq xs us->cq ys us->xs=ys
 | _,_,_,.nil,.nil=>rfl
 | _,_,_,.cons r t,.cons r' t'=>by rw [r.inj r',cq.inj t t']
section
variable {X:Cx} {pins:List (Addr×Obj)} {σ:St} {H:Hp} {s:Shared} {a:Addr} {xs ys:List V}
theorem SqL.of {K:PySem.W.Frag} (h:H a=some (.lst xs)):SqL K H a xs:=.inl (.inl h)
theorem SqT.of {K:PySem.W.Frag} (h:H a=some (.tup xs)):SqT K H a xs:=.inl (.inl h)
theorem Inv.list (I:Inv X pins σ H s) (h:SqL X.K H a xs):∃ its:List Value,cq xs its/\PlainL s.heap a its.toArray/\xs.length<=sizeLine:=by
 rcases h with h | ⟨o,its,n,hk,hc,hd,hs,hz,r⟩
 ·obtain ⟨z,its,n,r,e⟩:=h.ok I.hok
  exact ⟨its,r,⟨_,n,e,rfl,rfl,rfl⟩,z⟩
 ·refine ⟨its.toList,r,⟨o,n,I.kIn a o hk,hc,hd,by simpa using hs⟩,?_⟩
  have e:=r.length
  simp only [aF] at e
  lia
theorem Inv.tuple (I:Inv X pins σ H s) (h:SqT X.K H a xs):∃ its:List Value,cq xs its/\IsTup s.heap a its.toArray/\xs.length<=sizeLine:=by
 rcases h with h | ⟨o,its,n,hk,hc,hs,hz,r⟩
 ·obtain ⟨z,its,r,p⟩:=h.ok I.hok
  exact ⟨its,r,p,z.1⟩
 ·refine ⟨its.toList,r,⟨o,I.kIn a o hk,hc,n,by simpa using hs⟩,?_⟩
  have e:=r.length
  simp only [aF] at e
  lia
theorem Inv.list_inj (I:Inv X pins σ H s) (h:SqL X.K H a xs) (h':SqL X.K H a ys):xs=ys:=by
 obtain ⟨its,r,⟨o,n,e,_,_,d⟩,_⟩:=I.list h
 obtain ⟨its',r',⟨o',n',e',_,_,d'⟩,_⟩:=I.list h'
 rw [e] at e';cases e'
 rw [d] at d'
 injection d' with d1 _
 have:its=its':=by simpa using congrArg Er d1
 subst this
 exact r.inj r'
theorem Inv.tuple_inj (I:Inv X pins σ H s) (h:SqT X.K H a xs) (h':SqT X.K H a ys):xs=ys:=by
 obtain ⟨its,r,⟨o,e,_,n,d⟩,_⟩:=I.tuple h
 obtain ⟨its',r',⟨o',e',_,n',d'⟩,_⟩:=I.tuple h'
 rw [e] at e';cases e'
 rw [d] at d'
 injection d' with d1 _
 have:its=its':=by simpa using congrArg Er d1
 subst this
 exact r.inj r'
end
noncomputable abbrev Cx.wish (X:Cx) (E:Value->Shared->Prop):Cx:={ X with xe:=E }
noncomputable abbrev Cx.nox (X:Cx):Cx:=X.wish fun _ _=>False
theorem Cx.Ok.wish {X:Cx} (ok:X.Ok) (E:Value->Shared->Prop):(X.wish E).Ok :=
 ⟨ok.mod,ok.kind,ok.glob,ok.blt,ok.above,ok.inj,ok.has,ok.cab,ok.hd,ok.frames,ok.stk,ok.exf,ok.bs,ok.bsz,ok.noex,ok.exfs,ok.funs,ok.frf⟩
theorem Cx.Ok.unwish {X:Cx} {E:Value->Shared->Prop} (ok:(X.wish E).Ok):X.Ok :=
 ⟨ok.mod,ok.kind,ok.glob,ok.blt,ok.above,ok.inj,ok.has,ok.cab,ok.hd,ok.frames,ok.stk,ok.exf,ok.bs,ok.bsz,ok.noex,ok.exfs,ok.funs,ok.frf⟩
section
variable {X:Cx} {pins:List (Addr×Obj)} {σ:St} {H:Hp} {s:Shared} {E:Value->Shared->Prop}
theorem Inv.wish (I:Inv X pins σ H s) (E:Value->Shared->Prop):Inv (X.wish E) pins σ H s:=⟨I.ok.wish E,I.os,I.bare,I.base,I.loc,I.cell,I.free,I.freeC,I.pin,I.hok,I.len⟩
theorem Inv.unwish (I:Inv (X.wish E) pins σ H s):Inv X pins σ H s:=⟨I.ok.unwish,I.os,I.bare,I.base,I.loc,I.cell,I.free,I.freeC,I.pin,I.hok,I.len⟩
theorem SP.unwish {D:vx} {f:Flow} {s':Shared} (h:SP (X.wish E) pins D f s'):SP X pins D f s':=by
 cases f with
 | next=>obtain ⟨σ',H',I,q⟩:=h;exact ⟨σ',H',I.unwish,q⟩
 | brk=>obtain ⟨σ',H',I,q⟩:=h;exact ⟨σ',H',I.unwish,q⟩
 | cont=>obtain ⟨σ',H',I,q⟩:=h;exact ⟨σ',H',I.unwish,q⟩
 | ret u=>obtain ⟨v,σ',H',I,r,q⟩:=h;exact ⟨v,σ',H',I.unwish,r,q⟩
theorem PT.nox {e:Expr} {t:TT} (h:PT X.nox e t):PT X e t:=fun pins s σ H Q I hw =>
 wpAny_mono (h pins s σ H Q (I.wish _) hw) (fun _ _ ⟨H',I',q⟩=>⟨H',I'.unwish,q⟩) fun _ _ z=>False.elim z
theorem PSs.nox {st:List Stmt} {t:TS} (h:PSs X.nox st t):PSs X st t:=fun pins s σ H D I hw =>
 wpAny_mono (h pins s σ H D (I.wish _) hw) (fun _ _ q=>q.unwish) fun _ _ z=>False.elim z
end
section
variable {X:Cx} {st:Stmt} {rest:List Stmt} {t u:TS} {e:Expr} {te:TE} {pos:Pos}
noncomputable def wx:TS:=fun D σ H=>D.nx σ H
noncomputable def mR (t u:TS):TS:=fun D σ H=>t { D with nx:=u D } σ H
theorem o6:PSs X [] wx:=fun _ _ σ H _ I h=>wpAny_execs_nil ⟨σ,H,I,h⟩
theorem fj (h1:PS X st t) (h2:PSs X rest u):PSs X (st::rest) (mR t u):=by
 intro pins s σ H D I h
 refine wpAny_execs_cons (thn (h1 pins s σ H { D with nx:=u D } I h) fun f s1 q=>?_)
 cases f with
 | next =>
   obtain ⟨σ',H',I',q⟩:=q
   exact h2 pins s1 σ' H' D I' q
 | ret v=>exact q
 | brk=>exact q
 | cont=>exact q
theorem fM (h1:PS X st t):PSs X [st] t:=by
 intro pins s σ H D I h
 refine wpAny_execs_cons (thn (h1 pins s σ H D I h) fun f s1 q=>?_)
 cases f with
 | next=>exact wpAny_execs_nil q
 | ret v=>exact q
 | brk=>exact q
 | cont=>exact q
theorem Inv.quiet {pins:List (Addr×Obj)} {σ:St} {H:Hp} {s:Shared} (I:Inv X pins σ H s):interactive X.env=false:=by simp [interactive,I.ok.kind]
noncomputable def AR (te:TE):TS:=fun D σ H=>te σ H fun _ H1=>D.nx σ H1
theorem po (he:PE X e te) (hs:swapsWith e none pos.line X.env=pure false:=by rfl):PS X (.Expr e pos) (AR te):=by
 intro pins s σ H D I h
 exact wpAny_Expr_any (thn (he pins s σ H _ I h) fun v s1 ⟨x,H1,I1,r1,q1⟩=>⟨σ,H1,I1,q1⟩) I.quiet hs
noncomputable def C3 (te:TE):TS:=fun D σ H=>te σ H D.rt
theorem qx (he:PE X e te):PS X (.Return (some e) pos) (C3 te):=by
 intro pins s σ H D I h
 exact wpAny_Return_some (thn (he pins s σ H _ I h) fun v s1 ⟨x,H1,I1,r1,q1⟩=>⟨x,σ,H1,I1,r1,q1⟩)
noncomputable def C2 (c:TT) (t u:TS):TS:=fun D σ H=>c σ H fun b H1=>if b=true then t D σ H1 else u D σ H1
theorem Ai {c:Expr} {a b:List Stmt} {tc:TT} (hc:PT X c tc) (ha:PSs X a t) (hb:PSs X b u):PS X (.If c a b pos) (C2 tc t u):=by
 intro pins s σ H D I h
 refine wpAny_If (thn (hc pins s σ H _ I h) fun d s1 ⟨H1,I1,q1⟩=>?_)
 cases d with
 | true=>exact ha pins s1 σ H1 D I1 q1
 | false=>exact hb pins s1 σ H1 D I1 q1
end
noncomputable abbrev TG:=V->St->Hp->(St->Hp->Prop)->Prop
noncomputable abbrev TGs:=List V->St->Hp->(St->Hp->Prop)->Prop
noncomputable def PG (X:Cx) (target:Expr) (t:TG):Prop :=
 ∀ (pins:List (Addr×Obj)) (s:Shared) (σ:St) (H:Hp) (v:V) (u:Value) (Q:St->Hp->Prop),Inv X pins σ H s->dH v u->t v σ H Q ->
   wpAny (model X.prog X.w) X.A (assign target X.env u) (fun _ s'=>∃ σ' H',Inv X pins σ' H' s'/\Q σ' H') X.xe s
noncomputable def PGs (X:Cx) (ts:List Expr) (t:TGs):Prop :=
 ∀ (pins:List (Addr×Obj)) (s:Shared) (σ:St) (H:Hp) (vs:List V) (us:List Value) (Q:St->Hp->Prop),Inv X pins σ H s->cq vs us->t vs σ H Q ->
   wpAny (model X.prog X.w) X.A (assignInOrder ((assignEach ts X.env).map (·.2)) us) (fun _ s'=>∃ σ' H',Inv X pins σ' H' s'/\Q σ' H') X.xe s
section
variable {X:Cx} {pos:Pos}
noncomputable def jr (i:Nat):TG:=fun v σ H Q=>Q (σ.set i (some v)) H
theorem lT {i:Nat} {x:Str} (hN:X.N.Nodup) (hi:X.N[i]?=some x) (hx:Loc X.env.scope x) (hf:X.fn x=true\/X.env.scope.names.lookup x=some .local:=by first | exact .inl rfl | exact .inr rfl | assumption):PG X (.Name x pos) (jr i):=by
 intro pins s σ H v u Q I r h
 exact wpAny_assign_Name (jB I hN hi hx r (fun s' I'=>⟨_,H,I',h⟩) hf)
noncomputable def Ep:TGs:=fun vs σ H Q=>vs=[]/\Q σ H
noncomputable def zG (t:TG) (u:TGs):TGs:=fun vs σ H Q=>∃ v r,vs=v::r/\t v σ H fun σ' H'=>u r σ' H' Q
theorem ux:PGs X [] Ep:=by
 intro pins s σ H vs us Q I r h
 obtain ⟨e,h⟩:=h
 subst e
 cases r
 exact assignInOrder_nil ⟨σ,H,I,h⟩
theorem mI {e:Expr} {es:List Expr} {t:TG} {u:TGs} (h1:PG X e t) (h2:PGs X es u)
 (hs:(assignEach (e::es) X.env).map (·.2)=assign e X.env::(assignEach es X.env).map (·.2):=by rfl):PGs X (e::es) (zG t u):=by
 intro pins s σ H vs us Q I r h
 obtain ⟨v,vr,e1,h⟩:=h
 subst e1
 cases r with
 | cons r rr =>
   rw [hs]
   refine assignInOrder_cons (thn (h1 pins s σ H _ _ _ I r h) fun _ s1 ⟨σ1,H1,I1,q1⟩=>?_)
   exact h2 pins s1 σ1 H1 _ _ Q I1 rr q1
noncomputable def Eg (K:PySem.W.Frag) (n:Nat) (t:TGs):TG:=fun v σ H Q=>∃ a xs,v=.ref a/\SqT K H a xs/\xs.length=n/\t xs σ H Q
theorem xQ {es:List Expr} {k:Nat} {t:TGs} {n:Nat} (hc:X.calm=true) (h:PGs X es t)
 (hn:(assignEach es X.env).length=n:=by rfl) (hst:(assignEach es X.env).findIdx? (·.1)=none:=by rfl):PG X (.Tuple es k pos) (Eg X.K n t):=by
 intro pins s σ H v u Q I r hw
 obtain ⟨a,xs,e1,hq,hl,hw⟩:=hw
 subst e1
 cases r
 obtain ⟨its,rv,ht,hz⟩:=I.tuple hq
 refine assign_Tuple_tuple (I.ok.hd hc) ht (by simp [hn,<- hl,rv.length]) hst fun h' hx=>?_
 have I1:Inv X pins σ H { s with heap:=h' }:=I.kept (t':=s.toks) fun b o e=>hx b o (aL (aw e)) e
 exact h pins _ σ H xs _ Q I1 (by simpa using rv) hw
noncomputable def yE (te:TE) (g:TG):TS:=fun D σ H=>te σ H fun x H1=>g x σ H1 D.nx
theorem lc {i:Nat} {x:Str} {e:Expr} {te:TE} {pos':Pos} (hN:X.N.Nodup) (hi:X.N[i]?=some x) (hx:Loc X.env.scope x) (he:PE X e te) (hs:swapsWith e (some (.Name x pos')) pos.line X.env=pure false:=by rfl) (hf:X.fn x=true\/X.env.scope.names.lookup x=some .local:=by first | exact .inl rfl | exact .inr rfl | assumption) :
 PS X (.Assign [.Name x pos'] e pos) (yE te (jr i)):=by
 intro pins s σ H D I h
 refine wpAny_Assign_Name (thn (he pins s σ H _ I h) fun v s1 ⟨y,H1,I1,r1,q1⟩=>?_) hs
 exact jB I1 hN hi hx r1 (fun s2 I2=>⟨_,H1,I2,q1⟩) hf
end
section
variable {X:Cx} {pos:Pos}
end
structure It where
 go:Nat->Hp->Prop
 yld:Nat->Hp->V->Hp->Prop
 stop:Nat->Hp->Prop
noncomputable def rS (X:Cx) (pins:List (Addr×Obj)) (H:Hp) (b:Addr):Prop :=
 H b=none/\b≠X.env.locals/\b∉X.fs/\(b∈X.ex\/X.s₀.heap.objs.size<=b)/\(∀ x c,X.env.cells.lookup x=some c->c≠b)/\∀ p∈X.pn++pins,p.1≠b
theorem Inv.fpOk {X:Cx} {pins:List (Addr×Obj)} {σ:St} {H H':Hp} {s:Shared} {b:Addr} (I:Inv X pins σ H s) (hb:s.heap.objs.size<=b) (hn:H' b=none):rS X pins H' b:=by
 refine ⟨hn,mS (aM I.lt hb),I.nofs hb,.inr (bR I.sz hb),fun x c e z=>?_,fun p hp z=>?_⟩
 ·obtain ⟨v,q⟩:=I.cell x c e
  exact absurd (aM q.lt (by rw [z];exact hb)) (bz _)
 ·exact absurd (aM (aw (I.pin p hp).1) (by rw [z];exact hb)) (bz _)
structure AC (P:Program) (w:World) (K:PySem.W.Frag) (tg:Expr) (J:It) (fp:List Addr) (it:Addr) (tn:Nat->Heap->Prop):Prop where
 mem:it∈fp
 obj:∀ i h,tn i h->∀ b∈fp,∃ o,h.get? b=some o/\∀ v,o.data≠.cell v
 keep:∀ i h h',tn i h->(∀ b∈fp,∀ o,h.get? b=some o->h'.get? b=some o)->tn i h'
 item:∀ (X:Cx),X.prog=P->X.w=w->X.K=K->X.calm=true->∀ (i:Nat) (pins:List (Addr×Obj)) (s:Shared) (σ:St) (H:Hp) (E:Value->Shared->Prop),Inv X pins σ H s->(∀ b∈fp,rS X pins H b)->tn i s.heap->J.go i H ->
  wpAny (model P w) X.A (pyNext (.ref it)) (fun r s1=>∃ u,r=some u /\
   wpAny (model P w) X.A (letOwnedTupleGo tg (.ref it) u) (fun _ s2=>∃ x H',Inv X pins σ H' s2/\dH x u/\J.yld i H x H'/\tn (i+1) s2.heap/\∀ b∈fp,H' b=none) E s1) E s
 done:∀ (X:Cx),X.prog=P->X.w=w->X.K=K->X.calm=true->∀ (i:Nat) (pins:List (Addr×Obj)) (s:Shared) (σ:St) (H:Hp) (E:Value->Shared->Prop),Inv X pins σ H s->(∀ b∈fp,rS X pins H b)->tn i s.heap->J.stop i H ->
  wpAny (model P w) X.A (pyNext (.ref it)) (fun r s1=>r=none/\Inv X pins σ H s1) E s
 self:∀ (A:Around) (i:Nat) (s:Shared) (Q:Value->Shared->Prop) (E:Value->Shared->Prop),tn i s.heap->Q (.ref it) s->wpAny (model P w) A (pyIter (.ref it)) Q E s
noncomputable abbrev TI:=St->Hp->(It->Hp->Prop)->Prop
noncomputable def PIE (X:Cx) (pins:List (Addr×Obj)) (σ:St) (tg:Expr) (R:It->Hp->Prop) (itv:Value) (s2:Shared):Prop :=
 ∃ (it:Addr) (fp:List Addr) (tn:Nat->Heap->Prop) (J:It) (H':Hp),itv=.ref it/\Inv X pins σ H' s2/\AC X.prog X.w X.K tg J fp it tn/\tn 0 s2.heap/\(∀ b∈fp,rS X pins H' b)/\R J H'
noncomputable def PI (X:Cx) (tg iter:Expr) (wi:TI):Prop :=
 ∀ (pins:List (Addr×Obj)) (s:Shared) (σ:St) (H:Hp) (R:It->Hp->Prop),Inv X pins σ H s->wi σ H R ->
   wpAny (model X.prog X.w) X.A (eval iter X.env) (fun v s1=>wpAny (model X.prog X.w) X.A (pyIter v) (PIE X pins σ tg R) X.xe s1) X.xe s
theorem w6 {M:Model} {A:Around} {E:Value->Shared->Prop} {s:Shared} {tg:Expr} {it:Addr} {u:Value} {o:Obj} {n:String} {vs:Array Value} {Q:Unit->Shared->Prop} (ho:s.heap.get? it=some o) (hc:o.cls=.type n) (hd:o.data=.fields vs)
 (hn:["enumerate","zip","dict_itemiterator","dict_reverseitemiterator","odict_iterator","itertools.zip_longest","itertools.pairwise"].contains n=false) (hQ:Q () s):wpAny M A (letOwnedTupleGo tg (.ref it) u) Q E s:=by
 unfold letOwnedTupleGo
 cases tg<;>first
  | exact wpAny_pure hQ
  | (cases u<;>first
      | exact wpAny_pure hQ
      | (refine wpAny_bind (wpAny_load ho ?_)
         rw [hc,hd]
         show wpAny M A (if (["enumerate","zip","dict_itemiterator","dict_reverseitemiterator","odict_iterator","itertools.zip_longest","itertools.pairwise"].contains n&&vs[0]? == some (rawInt _))=true then _ else _) Q E s
         rw [if_neg (by intro h;rw [hn,Bool.false_and] at h;cases h)]
         exact wpAny_pure hQ))
noncomputable def Itl (K:PySem.W.Frag) (a:Addr):It :=
 ⟨fun i H=>∃ xs x,SqL K H a xs/\xs[i]?=some x,fun i H x H'=>H'=H/\∀ xs,SqL K H a xs->xs[i]?=some x,fun i H=>∃ xs,SqL K H a xs/\xs.length<=i⟩
noncomputable def Itt (K:PySem.W.Frag) (a:Addr):It :=
 ⟨fun i H=>∃ xs x,SqT K H a xs/\xs[i]?=some x,fun i H x H'=>H'=H/\∀ xs,SqT K H a xs->xs[i]?=some x,fun i H=>∃ xs,SqT K H a xs/\xs.length<=i⟩
noncomputable def Itr (lo:Int) (n:Nat):It:=⟨fun i _=>i<n,fun i H x H'=>H'=H/\x=.int (lo+i),fun i _=>n<=i⟩
theorem sO {P:Program} {w:World} {K:PySem.W.Frag} {tg:Expr} (a it:Addr):AC P w K tg (Itl K a) [it] it (fun i h=>h.IsListIter it a i) where
 mem:=by simp
 obj:=fun i h st b hb=>by
  have e:b=it:=by simpa using hb
  subst e
  obtain ⟨o,e,c,d⟩:=st
  exact ⟨o,e,fun v z=>by rw [d] at z;cases z⟩
 keep:=fun i h h' st k=>st.at fun o e=>k it (by simp) o e
 item:=by
  intro X hP hw hK hc i pins s σ H E I hf st hg
  subst hP hw hK
  obtain ⟨xs,x,hq,hx⟩:=hg
  obtain ⟨its,rv,p,hz⟩:=I.list hq
  obtain ⟨u,hu,ru⟩:=rv.get hx
  obtain ⟨f0,f1,f2,f3,f4,f5⟩:=hf it (by simp)
  refine wpAny_pyNext_list_item st p.isList (x:=u) (by simpa using hu) fun h' st' sb=>?_
  have I1:Inv X pins σ H { s with heap:=h' }:=I.turned (t':=s.toks) (fun b o hb e=>(sb.2 b hb).trans e) f0 f1 f3 f4 f5
  obtain ⟨o,e,c,d⟩:=id st'
  exact ⟨u,rfl,w6 (s:={ s with heap:=h' }) e c d (by decide) ⟨x,H,I1,ru,⟨rfl,fun ys hy=>by rw [I.list_inj hy hq];exact hx⟩,st',fun b hb=>(hf b hb).1⟩⟩
 done:=by
  intro X hP hw hK hc i pins s σ H E I hf st hg
  subst hP hw hK
  obtain ⟨xs,hq,hx⟩:=hg
  obtain ⟨its,rv,p,hz⟩:=I.list hq
  obtain ⟨f0,f1,f2,f3,f4,f5⟩:=hf it (by simp)
  have hl:=rv.length
  exact wpAny_pyNext_list_end (I.ok.hd hc) st p.isList (by simp;lia) fun h' eb=>⟨rfl,I.turned (t':=s.toks) (fun b o hb e=>eb b o hb e) f0 f1 f3 f4 f5⟩
 self:=fun _ _ _ _ _ st h=>wpAny_pyIter_listiter st h
theorem qV {P:Program} {w:World} {K:PySem.W.Frag} {tg:Expr} (a it:Addr):AC P w K tg (Itt K a) [it] it (fun i h=>h.IsTupleIter it a i) where
 mem:=by simp
 obj:=fun i h st b hb=>by
  have e:b=it:=by simpa using hb
  subst e
  obtain ⟨o,e,c,d⟩:=st
  exact ⟨o,e,fun v z=>by rw [d] at z;cases z⟩
 keep:=fun i h h' st k=>st.at fun o e=>k it (by simp) o e
 item:=by
  intro X hP hw hK hc i pins s σ H E I hf st hg
  subst hP hw hK
  obtain ⟨xs,x,hq,hx⟩:=hg
  obtain ⟨its,rv,p,hz⟩:=I.tuple hq
  obtain ⟨u,hu,ru⟩:=rv.get hx
  obtain ⟨f0,f1,f2,f3,f4,f5⟩:=hf it (by simp)
  refine wpAny_pyNext_tuple_item st (show s.heap.IsTuple a its.toArray from p) (x:=u) (by simpa using hu) fun h' st' sb=>?_
  have I1:Inv X pins σ H { s with heap:=h' }:=I.turned (t':=s.toks) (fun b o hb e=>(sb.2 b hb).trans e) f0 f1 f3 f4 f5
  obtain ⟨o,e,c,d⟩:=id st'
  exact ⟨u,rfl,w6 (s:={ s with heap:=h' }) e c d (by decide) ⟨x,H,I1,ru,⟨rfl,fun ys hy=>by rw [I.tuple_inj hy hq];exact hx⟩,st',fun b hb=>(hf b hb).1⟩⟩
 done:=by
  intro X hP hw hK hc i pins s σ H E I hf st hg
  subst hP hw hK
  obtain ⟨xs,hq,hx⟩:=hg
  obtain ⟨its,rv,p,hz⟩:=I.tuple hq
  obtain ⟨f0,f1,f2,f3,f4,f5⟩:=hf it (by simp)
  have hl:=rv.length
  exact wpAny_pyNext_tuple_end (I.ok.hd hc) st (show s.heap.IsTuple a its.toArray from p) (by simp;lia) fun h' eb=>⟨rfl,I.turned (t':=s.toks) (fun b o hb e=>eb b o hb e) f0 f1 f3 f4 f5⟩
 self:=fun _ _ _ _ _ st h=>wpAny_pyIter_tupleiter st h
theorem rC {P:Program} {w:World} {K:PySem.W.Frag} {tg:Expr} (it:Addr) (lo:Int) (n:Nat):AC P w K tg (Itr lo n) [it] it (fun i h=>IsRangeIter h it (lo+(i:Nat)*1) ((n:Int)-(i:Nat)) 1) where
 mem:=by simp
 obj:=fun i h st b hb=>by
  have e:b=it:=by simpa using hb
  subst e
  exact ⟨_,st,fun v z=>by
   have z':Data.fields _=Data.cell v:=z
   cases z'⟩
 keep:=fun i h h' st k=>k it (by simp) _ st
 item:=by
  intro X hP hw hK hc i pins s σ H E I hf st hg
  subst hP hw hK
  obtain ⟨f0,f1,f2,f3,f4,f5⟩:=hf it (by simp)
  have W:=Walks.range (prog:=X.prog) (w:=X.w) (I.ok.hd hc) it lo 1 n
  refine W.item i s _ _ hg st fun v h' tk hv st' kk=>?_
  obtain ⟨t,rfl⟩:=hv
  have I1:Inv X pins σ H { s with heap:=h',toks:=tk }:=I.turned (fun b o hb e=>kk b o (by simpa using hb) e) f0 f1 f3 f4 f5
  refine ⟨_,rfl,w6 (s:={ s with heap:=h',toks:=tk }) (n:="range_iterator") st' rfl rfl (by decide) ⟨.int (lo+i),H,I1,⟨t,?_⟩,⟨rfl,rfl⟩,st',fun b hb=>(hf b hb).1⟩⟩
  rw [Int.mul_one]
 done:=by
  intro X hP hw hK hc i pins s σ H E I hf st hg
  subst hP hw hK
  obtain ⟨f0,f1,f2,f3,f4,f5⟩:=hf it (by simp)
  exact wpAny_pyNext_range_end (I.ok.hd hc) st (by have:n<=i:=hg;lia) fun h' eb=>⟨rfl,I.turned (t':=s.toks) (fun b o hb e=>eb b o hb e) f0 f1 f3 f4 f5⟩
 self:=fun _ _ _ _ _ st h=>wpAny_pyIter_rangeiter st h
end L2
namespace L2
open PySem PySem.Spec PyProof.Rows
section
variable {X:Cx} {tg:Expr}
noncomputable def DM (K:PySem.W.Frag) (tl:TE):TI:=fun σ H R=>tl σ H fun x H1=>∃ a,x=.ref a/\(∃ xs,SqL K H1 a xs)/\R (Itl K a) H1
noncomputable def EA (K:PySem.W.Frag) (tl:TE):TI:=fun σ H R=>tl σ H fun x H1=>∃ a,x=.ref a/\(∃ xs,SqT K H1 a xs)/\R (Itt K a) H1
theorem zH {l:Expr} {tl:TE} (hl:PE X l tl):PI X tg l (DM X.K tl):=by
 intro pins s σ H R I h
 refine thn (hl pins s σ H _ I h) fun v s1 ⟨x,H1,I1,r1,q1⟩=>?_
 obtain ⟨a,e,⟨xs,hq⟩,q⟩:=q1
 subst e
 cases r1
 obtain ⟨its,rv,p,hz⟩:=I1.list hq
 refine wpAny_pyIter_list p.isList ?_
 refine ⟨s1.heap.objs.size,[s1.heap.objs.size],_,_,H1,rfl,I1.kept (t':=s1.toks) fun b o e=>aa _ e,sO a _,⟨_,aj _ rfl,rfl,rfl⟩,fun b hb=>?_,q⟩
 have e:b=s1.heap.objs.size:=by simpa using hb
 subst e
 exact I1.fpOk (ag _) (I1.hok.fresh (ag _))
theorem Bh {l:Expr} {tl:TE} (hl:PE X l tl):PI X tg l (EA X.K tl):=by
 intro pins s σ H R I h
 refine thn (hl pins s σ H _ I h) fun v s1 ⟨x,H1,I1,r1,q1⟩=>?_
 obtain ⟨a,e,⟨xs,hq⟩,q⟩:=q1
 subst e
 cases r1
 obtain ⟨its,rv,p,hz⟩:=I1.tuple hq
 refine wpAny_pyIter_tuple (show s1.heap.IsTuple a its.toArray from p) ?_
 refine ⟨s1.heap.objs.size,[s1.heap.objs.size],_,_,H1,rfl,I1.kept (t':=s1.toks) fun b o e=>aa _ e,qV a _,⟨_,aj _ rfl,rfl,rfl⟩,fun b hb=>?_,q⟩
 have e:b=s1.heap.objs.size:=by simpa using hb
 subst e
 exact I1.fpOk (ag _) (I1.hok.fresh (ag _))
theorem qK {pins:List (Addr×Obj)} {σ:St} {H:Hp} {s:Shared} {R:It->Hp->Prop} {E:Value->Shared->Prop} {lo hi:Int} {t u v:Tok} {tk:Nat} (I:Inv X pins σ H s) (h1 : -(2 ^ 62)<=lo) (h2:lo<2 ^ 62) (h3 : -(2 ^ 62)<=hi) (h4:hi<2 ^ 62)
 (q:R (Itr lo (hi-lo).toNat) H):wpAny (model X.prog X.w) X.A (pyIter (.ref s.heap.objs.size)) (PIE X pins σ tg R) E { s with heap:=s.heap.push { cls:=.type "range",data:=.fields #[.int lo t,.int hi u,.int 1 v] },toks:=tk }:=by
 refine wpAny_pyIter_range (IsRange.new ..) (small_one h1 h2 h3 h4) ?_
 have I1:Inv X pins σ H { s with heap:=s.heap.push { cls:=.type "range",data:=.fields #[.int lo t,.int hi u,.int 1 v] },toks:=tk }:=I.kept fun b o e=>aa _ e
 refine ⟨(s.heap.push { cls:=.type "range",data:=.fields #[.int lo t,.int hi u,.int 1 v] }).objs.size,[(s.heap.push { cls:=.type "range",data:=.fields #[.int lo t,.int hi u,.int 1 v] }).objs.size],_,_,H,rfl,
  I1.kept (t':=tk) fun b o e=>aa _ e,rC _ lo (hi-lo).toNat,?_,fun b hb=>?_,q⟩
 ·have e1:lo+((0:Nat):Int)*1=lo:=by simp
  have e2:(((hi-lo).toNat:Nat):Int)-((0:Nat):Int)=Builtin.Range.rangeSize lo hi 1:=by rw [rangeSize_one];split<;>lia
  show IsRangeIter _ _ (lo+((0:Nat):Int)*1) ((((hi-lo).toNat:Nat):Int)-((0:Nat):Int)) 1
  rw [e1,e2]
  exact aj _ rfl
 ·have e:b=(s.heap.push { cls:=.type "range",data:=.fields #[.int lo t,.int hi u,.int 1 v] }).objs.size:=by simpa using hb
  subst e
  exact I1.fpOk (ag _) (I1.hok.fresh (ag _))
noncomputable def DZ (ta:TA):TI:=fun σ H R=>ta σ H fun vs H1=>∃ j:Int,vs=[.int j]/\-(2 ^ 62)<=j/\j<2 ^ 62/\R (Itr 0 j.toNat) H1
noncomputable def Dw (ta:TA):TI:=fun σ H R=>ta σ H fun vs H1=>∃ i j:Int,vs=[.int i,.int j]/\(-(2 ^ 62)<=i/\i<2 ^ 62/\-(2 ^ 62)<=j/\j<2 ^ 62)/\R (Itr i (j-i).toNat) H1
theorem t8 {a:Expr} {ta:TA} {p pos:Pos} (hg:Gl X "range") (hm:X.mg "range" = none) (ha:PA X [a] ta) (hs:starEach [a] X.env=[(false,eval a X.env)]:=by rfl):PI X tg (.Call (.Name "range" p) [a] [] pos) (DZ ta):=by
 intro pins s σ H R I h
 refine Call_ (hU I hg hm boot_range (PyProof.Rows.callWith_type1 (thn (ha pos pins s σ H _ I h) fun us s1 ⟨vs,H1,I1,r1,q1⟩=>?_) hs rfl))
 obtain ⟨j,e,q1,q2,q⟩:=q1
 subst e
 cases r1 with
 | cons r rr =>
   cases rr
   obtain ⟨t,rfl⟩:=r
   exact call_range_1 (qK I1 (by lia) (by lia) q1 q2 (by simpa using q))
theorem vh {a b:Expr} {ta:TA} {p pos:Pos} (hg:Gl X "range") (hm:X.mg "range" = none) (ha:PA X [a,b] ta) (hs:starEach [a,b] X.env=[(false,eval a X.env),(false,eval b X.env)]:=by rfl) (hs2:starEach [b] X.env=[(false,eval b X.env)]:=by rfl) :
 PI X tg (.Call (.Name "range" p) [a,b] [] pos) (Dw ta):=by
 intro pins s σ H R I h
 refine Call_ (hU I hg hm boot_range (PyProof.Rows.callWith_type1 (thn (ha pos pins s σ H _ I h) fun us s1 ⟨vs,H1,I1,r1,q1⟩=>?_) (by rw [hs,hs2]) (by rw [hs2];rfl)))
 obtain ⟨i,j,e,⟨q1,q2,q3,q4⟩,q⟩:=q1
 subst e
 cases r1 with
 | cons r rr =>
   cases rr with
   | cons r' rr =>
     cases rr
     obtain ⟨t,rfl⟩:=r
     obtain ⟨t',rfl⟩:=r'
     exact call_range_2 (qK I1 q1 q2 q3 q4 q)
noncomputable def Ee (wi:TI) (g:TG) (tb:TS):TS:=fun D σ H=>wi σ H fun J H1=>∃ W:Nat->Nat->St->Hp->Prop,(∃ m,W 0 m σ H1)/\∀ i m σ H,W i m σ H ->
 (J.stop i H/\D.nx σ H)\/(J.go i H/\∃ N:St->Hp->Prop,(∀ σ' H',N σ' H'->∃ m',m'<m/\W (i+1) m' σ' H')/\∀ x H',J.yld i H x H'->g x σ H' fun σ2 H2=>tb { D with nx:=N,ct:=N,bk:=D.nx } σ2 H2)
noncomputable def oJ (fp:List Addr) (h:Heap):List (Addr×Obj):=fp.filterMap fun b=>(h.get? b).map fun o=>(b,o)
theorem gU {fp:List Addr} {h:Heap} {b:Addr} {o:Obj} (hb:b∈fp) (e:h.get? b=some o):(b,o)∈oJ fp h:=Ao.mpr ⟨b,hb,by rw [e];rfl⟩
theorem u5 {fp:List Addr} {h:Heap} {p:Addr×Obj} (hp:p∈oJ fp h):p.1∈fp/\h.get? p.1=some p.2:=by
 obtain ⟨b,hb,e⟩:=Ao.mp hp
 cases q:h.get? b with
 | none=>rw [q] at e;cases e
 | some o =>
   rw [q] at e
   have e':(b,o)=p:=Option.some.inj e
   subst e'
   exact ⟨hb,q⟩
theorem Inv.pinned {pins:List (Addr×Obj)} {σ:St} {H:Hp} {s:Shared} {fp:List Addr} (I:Inv X pins σ H s) (hf:∀ b∈fp,rS X pins H b) (ho:∀ b∈fp,∃ o,s.heap.get? b=some o/\∀ v,o.data≠.cell v):Inv X (pins++oJ fp s.heap) σ H s :=
 I.pins_of fun p hp=>(aE.mp hp).elim (fun z=>I.pin p (bE _ z)) fun z=>by
  obtain ⟨hb,e⟩:=u5 z
  obtain ⟨f0,f1,f2,_⟩:=hf p.1 hb
  obtain ⟨o,e',d⟩:=ho p.1 hb
  rw [e] at e';cases e'
  exact ⟨e,f0,f1,f2,d⟩
theorem Inv.unpinned {pins pl:List (Addr×Obj)} {σ:St} {H:Hp} {s:Shared} (I:Inv X (pins++pl) σ H s):Inv X pins σ H s:=I.pins_of fun p hp=>I.pin p (bE _ (cp _ hp))
theorem xk {iter:Expr} {body:List Stmt} {wi:TI} {g:TG} {tb:TS} {pos:Pos} (hp:PassesOwn (model X.prog X.w) X.A X.env X.xe) (hc:X.calm=true) (hi:PI X tg iter wi) (hg:PG X tg g) (hb:PSs X body tb)
 (hs:∀ x,foldedSetIterable iter X.env x=pure x:=by intro _;rfl):PS X (.For tg iter body [] pos) (Ee wi g tb):=by
 intro pins s σ H D I h
 refine wpAny_For (thn (hi pins s σ H _ I h) fun v s1 h1=>thn h1 fun itv s2 h2=>?_) hs
 obtain ⟨it,fp,tn,J,H2,e,I2,T,st2,f2,W,⟨m0,w0⟩,turn⟩:=h2
 subst e
 have stat:∀ {H':Hp},(∀ b∈fp,H' b=none)->∀ b∈fp,rS X pins H' b:=fun hn b hb=>⟨hn b hb,(f2 b hb).2⟩
 refine codeAny_forLoop_any (fun n s'=>∃ i σ' H',Inv X pins σ' H' s'/\tn i s'.heap/\(∀ b∈fp,H' b=none)/\W i n σ' H') ?_ m0 ⟨0,σ,H2,I2,st2,fun b hb=>(f2 b hb).1,w0⟩
 rintro n s3 ⟨i,σ3,H3,I3,st3,fr3,w3⟩
 rcases turn i n σ3 H3 w3 with ⟨stop,qn⟩ | ⟨go,N,hN,step⟩
 ·refine wpAny_passesOwn hp (thn (T.done X rfl rfl rfl hc i pins s3 σ3 H3 X.xe I3 (stat fr3) st3 stop) fun r s4 ⟨hr,I4⟩=>?_)
  subst hr
  exact wpAny_execs_nil ⟨σ3,H3,I4,qn⟩
 ·refine wpAny_passesOwn hp (thn (T.item X rfl rfl rfl hc i pins s3 σ3 H3 X.xe I3 (stat fr3) st3 go) fun r s4 ⟨u,hr,h4⟩=>?_)
  subst hr
  refine wpAny_passesOwn hp (thn h4 fun _ s5 ⟨x,H5,I5,r5,y5,st5,fr5⟩=>?_)
  have I5':=I5.pinned (stat fr5) (T.obj _ _ st5)
  refine wpAny_passesOwn hp (thn (hg _ s5 σ3 H5 x u _ I5' r5 (step x H5 y5)) fun _ s6 ⟨σ6,H6,I6,q6⟩=>?_)
  refine wpAny_passesOwn hp (thn (hb _ s6 σ6 H6 _ I6 q6) fun f s7 q7=>?_)
  have again:∀ {σ7:St} {H7:Hp},Inv X (pins++oJ fp s5.heap) σ7 H7 s7->N σ7 H7->∃ m,m<n/\∃ i σ' H',Inv X pins σ' H' s7/\tn i s7.heap/\(∀ b∈fp,H' b=none)/\W i m σ' H':=fun {σ7 H7} I7 n7=>by
   obtain ⟨m',hm,w7⟩:=hN σ7 H7 n7
   refine ⟨m',hm,i+1,σ7,H7,I7.unpinned,T.keep _ _ _ st5 fun b hb o e=>(I7.pin (b,o) (bE _ (bE _ (gU hb e)))).1,fun b hb=>?_,w7⟩
   obtain ⟨o,e,d⟩:=T.obj _ _ st5 b hb
   exact (I7.pin (b,o) (bE _ (bE _ (gU hb e)))).2.1
  cases f with
  | next=>obtain ⟨σ7,H7,I7,n7⟩:=q7;exact again I7 n7
  | cont=>obtain ⟨σ7,H7,I7,n7⟩:=q7;exact again I7 n7
  | brk=>obtain ⟨σ7,H7,I7,q7⟩:=q7;exact ⟨σ7,H7,I7.unpinned,q7⟩
  | ret v=>obtain ⟨x7,σ7,H7,I7,r7,q7⟩:=q7;exact ⟨x7,σ7,H7,I7.unpinned,r7,q7⟩
end
end L2
namespace L2
open PySem PySem.Spec PyProof.Rows
noncomputable abbrev R2:=V->V->Hp->VK->Prop
noncomputable def OpR (X:Cx) (f:Value->Value->Sem Value) (r:R2):Prop :=
 ∀ (pins:List (Addr×Obj)) (s:Shared) (σ:St) (H:Hp) (x y:V) (v u:Value) (Q:VK),Inv X pins σ H s->dH x v->dH y u->r x y H Q ->
   wpAny (model X.prog X.w) X.A (f v u) (EP X pins σ Q) X.xe s
noncomputable def iB (X:Cx) (f:Value) (r:List V->Hp->VK->Prop):Prop :=
 ∀ (pins:List (Addr×Obj)) (s:Shared) (σ:St) (H:Hp) (xs:List V) (us:List Value) (Q:VK),Inv X pins σ H s->cq xs us->r xs H Q ->
   wpAny (model X.prog X.w) X.A (call f us) (EP X pins σ Q) X.xe s
noncomputable def ET (X:Cx) (r:V->Hp->(Bool->Hp->Prop)->Prop):Prop :=
 ∀ (pins:List (Addr×Obj)) (s:Shared) (σ:St) (H:Hp) (x:V) (v:Value) (Q:Bool->Hp->Prop),Inv X pins σ H s->dH x v->r x H Q ->
   wpAny (model X.prog X.w) X.A (truthy v) (TP X pins σ Q) X.xe s
noncomputable def tOp (r:R2) (ta tb:TE):TE:=fun σ H Q=>ta σ H fun x H1=>tb σ H1 fun y H2=>r x y H2 Q
noncomputable def rI (C:Int->Int->Prop) (g:Int->Int->V):R2:=fun x y H Q=>∃ i j,x=.int i/\y=.int j/\C i j/\Q (g i j) H
noncomputable def rI0 (g:Int->Int->V):R2:=fun x y H Q=>∃ i j,x=.int i/\y=.int j/\Q (g i j) H
section
variable {X:Cx} {a b c:Expr} {ta tb tc:TE} {pos:Pos}
theorem Dh (ha:PE X a ta) (hb:PE X b tb) {pins:List (Addr×Obj)} {s:Shared} {σ:St} {H:Hp} {R:V->V->Hp->Prop} (I:Inv X pins σ H s)
 (h:ta σ H fun x H1=>tb σ H1 fun y H2=>R x y H2) {Q:Value->Shared->Prop} {f:Value->Value->Sem Value}
 (hf:∀ v u s2 x y H2,Inv X pins σ H2 s2->dH x v->dH y u->R x y H2->wpAny (model X.prog X.w) X.A (f v u) Q X.xe s2) :
 wpAny (model X.prog X.w) X.A (eval a X.env) (fun v s₁=>wpAny (model X.prog X.w) X.A (eval b X.env) (fun u s₂=>wpAny (model X.prog X.w) X.A (f v u) Q X.xe s₂) X.xe s₁) X.xe s:=by
 refine thn (ha pins s σ H _ I h) fun v s1 ⟨x,H1,I1,r1,q1⟩=>?_
 refine thn (hb pins s1 σ H1 _ I1 q1) fun u s2 ⟨y,H2,I2,r2,q2⟩=>?_
 exact hf v u s2 x y H2 I2 r1 r2 q2
theorem DA {op:Operator} {r:R2} (ho:OpR X (binaryOp op) r) (ha:PE X a ta) (hb:PE X b tb):PE X (.BinOp a op b pos) (tOp r ta tb):=by
 intro pins s σ H Q I h
 exact wpAny_BinOp (Dh ha hb I h fun v u s2 x y H2 I2 rx ry q=>ho pins s2 σ H2 x y v u Q I2 rx ry q)
theorem opI {f:Value->Value->Sem Value} {C:Int->Int->Prop} {g:Int->Int->Int}
 (rule:∀ (i j:Int) (t u:Tok) (s:Shared) (Q:Value->Shared->Prop) (E:Value->Shared->Prop),C i j->Q (.int (g i j) s.toks) { s with toks:=s.toks+1 }->wpAny (model X.prog X.w) X.A (f (.int i t) (.int j u)) Q E s) :
 OpR X f (rI C fun i j=>.int (g i j)):=by
 intro pins s σ H x y v u Q I rx ry h
 obtain ⟨i,j,rfl,rfl,hc,q⟩:=h
 obtain ⟨t,rfl⟩:=rx
 obtain ⟨t',rfl⟩:=ry
 exact rule i j t t' s _ _ hc ⟨.int (g i j),H,I.tok _,⟨_,rfl⟩,q⟩
theorem Dy {f:Value->Value->Sem Value} {g:Int->Int->Int}
 (rule:∀ (i j:Int) (t u:Tok) (s:Shared) (Q:Value->Shared->Prop) (E:Value->Shared->Prop),Q (.int (g i j) s.toks) { s with toks:=s.toks+1 }->wpAny (model X.prog X.w) X.A (f (.int i t) (.int j u)) Q E s) :
 OpR X f (rI0 fun i j=>.int (g i j)):=by
 intro pins s σ H x y v u Q I rx ry h
 obtain ⟨i,j,rfl,rfl,q⟩:=h
 obtain ⟨t,rfl⟩:=rx
 obtain ⟨t',rfl⟩:=ry
 exact rule i j t t' s _ _ ⟨.int (g i j),H,I.tok _,⟨_,rfl⟩,q⟩
theorem Dk {f:Value->Value->Sem Value} {g:Int->Int->Bool}
 (rule:∀ (i j:Int) (t u:Tok) (s:Shared) (Q:Value->Shared->Prop) (E:Value->Shared->Prop),Q (.bool (g i j)) s->wpAny (model X.prog X.w) X.A (f (.int i t) (.int j u)) Q E s) :
 OpR X f (rI0 fun i j=>.bl (g i j)):=by
 intro pins s σ H x y v u Q I rx ry h
 obtain ⟨i,j,rfl,rfl,q⟩:=h
 obtain ⟨t,rfl⟩:=rx
 obtain ⟨t',rfl⟩:=ry
 exact rule i j t t' s _ _ ⟨.bl (g i j),H,I,rfl,q⟩
noncomputable def EI (i j:Int):Prop:=0<=j/\j<=1000000/\i.natAbs<2 ^ 64
noncomputable def C8 (i j:Int):Prop:=(-(2 ^ 64)<i/\i<2 ^ 64)\/(-(2 ^ 64)<j/\j<2 ^ 64)
theorem C8.ok {i j:Int} (h:C8 i j):IntMulOk i j:=by
 rcases h with ⟨h1,h2⟩ | ⟨h1,h2⟩
 ·exact .of_left (intBits_le_64 h1 h2)
 ·exact .of_right (intBits_le_64 h1 h2)
theorem qM (k:Nat):(0:Int)<=2 ^ k:=by
 rw [two_pow_cast]
 exact AD _
theorem B0:OpR X (binaryOp .Add) (rI0 fun i j=>.int (i+j)):=Dy fun _ _ _ _ _ _ _ q=>add_int q
theorem B5:OpR X (binaryOp .Sub) (rI0 fun i j=>.int (i-j)):=Dy fun _ _ _ _ _ _ _ q=>sub_int q
theorem Ce:OpR X (binaryOp .Mult) (rI C8 fun i j=>.int (i*j)):=opI fun _ _ _ _ _ _ _ hc q=>mul_int q hc.ok
theorem Ct:OpR X (binaryOp .Mod) (rI (fun _ j=>0<j) fun i j=>.int (i%j)):=opI fun i j _ _ _ _ _ hc q=>by
 have h1:(0:Int)<j:=hc
 exact mod_int' (by lia) (by rw [Int.fmod_eq_emod_of_nonneg i (by lia)];exact q)
theorem AQ:OpR X (binaryOp .Pow) (rI EI fun i j=>.int (i ^ j.toNat)):=opI fun _ _ _ _ _ _ _ hc q=>pow_int_small hc.1 hc.2.1 hc.2.2 q
theorem Bz:OpR X (binaryOp .RShift) (rI (fun _ j=>0<=j) fun i j=>.int (i / 2 ^ j.toNat)):=opI fun i j _ _ _ _ _ hc q =>
 rshift_int hc (by rw [Int.fdiv_eq_ediv_of_nonneg i (qM _)];exact q)
theorem BY:OpR X (binaryOp .BitAnd) (rI0 fun i j=>.int (Builtin.bitAnd i j)):=Dy fun _ _ _ _ _ _ _ q=>and_int q
end
section
variable {X:Cx} {a b c:Expr} {ta tb tc:TE} {pos:Pos}
theorem Dt:OpR X (compareOp .Lt) (rI0 fun i j=>.bl (decide (i<j))):=Dk fun _ _ _ _ _ _ _ q=>lt_int q
theorem DU:OpR X (compareOp .LtE) (rI0 fun i j=>.bl (decide (i<=j))):=Dk fun _ _ _ _ _ _ _ q=>le_int q
theorem D4:OpR X (compareOp .Gt) (rI0 fun i j=>.bl (decide (j<i))):=Dk fun _ _ _ _ _ _ _ q=>gt_int q
theorem OpR.or {f:Value->Value->Sem Value} {r r':R2} (h:OpR X f r) (h':OpR X f r'):OpR X f (fun x y H Q=>r x y H Q\/r' x y H Q):=by
 intro pins s σ H x y v u Q I rx ry q
 rcases q with q | q
 ·exact h pins s σ H x y v u Q I rx ry q
 ·exact h' pins s σ H x y v u Q I rx ry q
theorem qc (b:Expr) {op:CmpOp} (h:op≠.In:=by decide) (h2:op≠.NotIn:=by decide):behindInMarks op b=false:=by
 have e1:(op == CmpOp.In)=false:=by cases op<;>first | rfl | exact absurd rfl h
 have e2:(op == CmpOp.NotIn)=false:=by cases op<;>first | rfl | exact absurd rfl h2
 cases b<;>simp [behindInMarks,e1,e2]
theorem zb {op:CmpOp} {r:R2} (ho:OpR X (compareOp op) r) (ha:PE X a ta) (hb:PE X b tb) (hm:behindInMarks op b=false):PE X (.Compare a [op] [b] pos) (tOp r ta tb):=by
 intro pins s σ H Q I h
 exact wpAny_Compare1 (Dh ha hb I h fun v u s2 x y H2 I2 rx ry q=>ho pins s2 σ H2 x y v u Q I2 rx ry q) hm
noncomputable def Dz (t:TE):TT:=fun σ H Q=>t σ H fun x H'=>∃ k,x=.bl k/\Q k H'
theorem zq {op:CmpOp} {r:R2} (ho:OpR X (compareOp op) r) (ha:PE X a ta) (hb:PE X b tb) (hm:behindInMarks op b=false):PT X (.Compare a [op] [b] pos) (Dz (tOp r ta tb)):=by
 intro pins s σ H Q I h
 refine wpAny_isTrue_Compare1 (thn (ha pins s σ H _ I h) fun v s1 ⟨x,H1,I1,r1,q1⟩=>thn (hb pins s1 σ H1 _ I1 q1) fun u s2 ⟨y,H2,I2,r2,q2⟩ =>
  thn (ho pins s2 σ H2 x y v u _ I2 r1 r2 q2) fun c s3 ⟨z,H3,I3,r3,k,e,q3⟩=>?_) hm
 subst e
 cases r3
 exact wpAny_truthy_bool ⟨H3,I3,q3⟩
noncomputable def Ba (r r':R2) (ta tb tc:TE):TE:=fun σ H Q=>ta σ H fun x H1=>tb σ H1 fun y H2=>r x y H2 fun z H3=>∃ k,z=.bl k /\
 (if k=true then tc σ H3 fun w' H4=>r' y w' H4 Q else Q (.bl false) H3)
theorem wg {op op':CmpOp} {r r':R2} (ho:OpR X (compareOp op) r) (ho':OpR X (compareOp op') r') (ha:PE X a ta) (hb:PE X b tb) (hc:PE X c tc)
 (hm:lastMarks [op,op'] [b,c]=false:=by with_unfolding_all rfl):PE X (.Compare a [op,op'] [b,c] pos) (Ba r r' ta tb tc):=by
 intro pins s σ H Q I h
 refine Compare_chain (thn (ha pins s σ H _ I h) fun v s1 ⟨x,H1,I1,r1,q1⟩=>chain_link (thn (hb pins s1 σ H1 _ I1 q1) fun u s2 ⟨y,H2,I2,r2,q2⟩ =>
  thn (ho pins s2 σ H2 x y v u _ I2 r1 r2 q2) fun d s3 ⟨z,H3,I3,r3,k,e,q3⟩=>?_)) hm
 subst e
 cases r3
 refine wpAny_truthy_bool ?_
 cases k with
 | false=>exact ite_ff ⟨.bl false,H3,I3,rfl,q3⟩
 | true=>exact ite_tt (chain_last (thn (hc pins s3 σ H3 _ I3 q3) fun w' s4 ⟨z',H4,I4,r4,q4⟩=>ho' pins s4 σ H4 y z' u w' Q I4 r2 r4 q4))
noncomputable def Ek (K:PySem.W.Frag) (x:V) (H:Hp) (k:Bool):Prop :=
 match x with
 | .non=>k=false
 | .bl b=>k=b
 | .int i=>k=(i != 0)
 | .str y=>y.length<=sizeLine/\k=((y.length:Int) != 0)
 | .byt y=>y.size<=sizeLine/\k=((y.size:Int) != 0)
 | .ref p=>(∃ xs,SqL K H p xs/\k = !xs.isEmpty)\/(∃ xs,SqT K H p xs/\k = !xs.isEmpty)\/∃ kvs,H p=some (.dK kvs)/\k = !kvs.isEmpty
 | _=>False
theorem rJ {κ:Type} {kvs:List (κ×V)} {vs:List (κ×Value)} (r:KV kvs vs):(!vs.isEmpty) = !kvs.isEmpty:=by
 cases r<;>rfl
theorem ll {xs:List V} {its:List Value} (r:cq xs its):(!its.toArray.isEmpty) = !xs.isEmpty:=by
 cases r<;>simp
theorem nV:(sizeLine:Nat)<2 ^ 63:=by rw [sizeLine_eq];decide
theorem CH:ET X (fun x H Q=>∃ k,Ek X.K x H k/\Q k H):=by
 intro pins s σ H x v Q I rx h
 obtain ⟨k,e,q⟩:=h
 have hl:=nV
 have hs:sizeLine=16777216:=sizeLine_eq
 cases x with
 | non =>
   cases rx
   have e':k=false:=e
   subst e'
   exact truthy_none ⟨H,I,q⟩
 | bl b =>
   cases rx
   have e':k=b:=e
   subst e'
   exact wpAny_truthy_bool ⟨H,I,q⟩
 | int i =>
   obtain ⟨t,rfl⟩:=rx
   have e':k=(i != 0):=e
   subst e'
   exact PySem.P.truthy_int ⟨H,I,q⟩
 | str y =>
   obtain ⟨t,rfl⟩:=rx
   obtain ⟨hy,e'⟩:y.length<=sizeLine/\k=((y.length:Int) != 0):=e
   subst e'
   exact PySem.P.truthy_str (by lia) ⟨H,I.tok _,q⟩
 | byt y =>
   obtain ⟨t,rfl⟩:=rx
   obtain ⟨hy,e'⟩:y.size<=sizeLine/\k=((y.size:Int) != 0):=e
   subst e'
   exact PySem.W.truthy_bytes (by lia) ⟨H,I.tok _,q⟩
 | ref p =>
   cases rx
   have e':(∃ xs,SqL X.K H p xs/\k = !xs.isEmpty)\/(∃ xs,SqT X.K H p xs/\k = !xs.isEmpty)\/∃ kvs,H p=some (.dK kvs)/\k = !kvs.isEmpty:=e
   rcases e' with ⟨xs,hx,e'⟩ | ⟨xs,hx,e'⟩ | ⟨kvs,hx,e'⟩
   ·subst e'
    obtain ⟨its,r,pl,hz⟩:=I.list hx
    have hlen:=r.length
    exact wpAny_truthy_list pl.isList (by simp only [ao];lia) ⟨H,I.tok _,by rw [ll r];exact q⟩
   ·subst e'
    obtain ⟨its,r,pl,hz⟩:=I.tuple hx
    have hlen:=r.length
    exact truthy_tuple pl (by simp only [ao];lia) ⟨H,I.tok _,by rw [ll r];exact q⟩
   ·subst e'
    obtain ⟨hz,hS,vs,r,m⟩:kvs.length<=sizeLine/\(p == sysModules)=false/\∃ vs,KV kvs vs/\s.heap.DictOf (cr X.prog X.w) p vs:=I.hok p _ hx
    have hlen:kvs.length=vs.length:=Paired.length r
    exact wpAny_truthy_dict hS m (by lia) ⟨H,I.tok _,by rw [rJ r];exact q⟩
 | _=>exact (show False from e).elim
theorem v4 (ha:PE X a ta) (he:∀ whole,isTrue a X.env whole=(do let v <- whole;standAt a.pos;holding [v] (truthy v))) :
 PT X a (fun σ H Q=>ta σ H fun x H'=>∃ k,Ek X.K x H' k/\Q k H'):=by
 intro pins s σ H Q I h
 exact isTrue_plain (thn (ha pins s σ H _ I h) fun v s1 ⟨x,H1,I1,r1,q1⟩=>CH pins s1 σ H1 x v Q I1 r1 q1) (he _)
theorem nP {x:V} {us:List Value} (r:cq [x] us):∃ u,us=[u]/\dH x u:=by
 cases r with
 | cons r1 r2=>cases r2;exact ⟨_,rfl,r1⟩
theorem Du {x y:V} {us:List Value} (r:cq [x,y] us):∃ u w',us=[u,w']/\dH x u/\dH y w':=by
 cases r with
 | cons r1 r2 =>
   cases r2 with
   | cons r3 r4=>cases r4;exact ⟨_,_,rfl,r1,r3⟩
end
end L2
namespace L2
open PySem PySem.Spec PyProof.Rows
section
variable {prog:Program} {w:World} {A:Around} {E:Value->Shared->Prop} {s:Shared} {K:PySem.W.Frag} {x dx C f:Addr} {mA:Str->Option Value} {name:Str} {v:Value}
end
theorem rN.some_of {v:V} {o:Option Value} (r:rN (some v) o):∃ u,o=some u/\dH v u:=by
 cases o with
 | none=>exact (show False from r).elim
 | some u=>exact ⟨u,rfl,r⟩
section
variable {P:Program} {w:World} {H H':Hp} {h h':Heap} {a C dx:Addr} {fs fs':List (Str×V)}
end
section
variable {X:Cx} {pins:List (Addr×Obj)} {σ:St} {H:Hp} {s:Shared} {a C dx:Addr} {fs:List (Str×V)} {f:Str} {v:V} {A:Around} {E:Value->Shared->Prop}
end
section
variable {X:Cx} {o e value:Expr} {f:Str} {pos pos' tpos:Pos} {ta tv:TE}
end
section
variable {X:Cx} {pins:List (Addr×Obj)} {σ:St} {H:Hp} {s:Shared} {A:Around} {E:Value->Shared->Prop} {Q:Value->Shared->Prop} {c:Value} {b:Bool}
end
end L2
namespace L2
open PySem PySem.Spec PyProof.Rows
structure fQ (k:Nat) (A:Around):Prop where
 gd:A.guards=some []
 hd:A.handled=none
 dp:A.depth+3*k+5<recursionLimit
 un:A.units+16*k+200<cLine
theorem fQ.mono {j k:Nat} {A:Around} (r:fQ k A) (h:j<=k):fQ j A:=⟨r.gd,r.hd,by have:=r.dp;lia,by have:=r.un;lia⟩
theorem fQ.deeper {k:Nat} {A:Around} (r:fQ (k+1) A) (env:Env):fQ k (A.deeper env) :=
 ⟨r.gd,r.hd,by have:=r.dp;show A.depth+1+3*k+5<_;lia,by have:=r.un;show A.units+3+16*k+200<_;lia⟩
theorem fQ.depth {k:Nat} {A:Around} (r:fQ k A):A.depth<recursionLimit:=by have:=r.dp;lia
theorem fQ.units {k:Nat} {A:Around} (r:fQ k A):A.units+64<cLine:=by have:=r.un;lia
noncomputable def C4:TA:=fun _ H Q=>Q [] H
noncomputable def uf (ta:TE) (tr:TA):TA:=fun σ H Q=>ta σ H fun x H1=>tr σ H1 fun xs H2=>Q (x::xs) H2
section
variable {X:Cx} {e:Expr} {es:List Expr} {te:TE} {t:TA} {pos:Pos}
theorem iF:PA X [] C4:=fun _ _ _ _ H Q I h=>Calls.spliced_nil ⟨[],H,I,.nil,h⟩
theorem e7 (ha:PE X e te) (hr:PA X es t) (hs:starEach (e::es) X.env=(false,eval e X.env)::starEach es X.env:=by rfl):PA X (e::es) (uf te t):=by
 intro pos pins s σ H Q I h
 rw [hs]
 show wpAny _ _ (spliced ((false,eval e X.env)::backTo pos (starEach es X.env))) _ _ s
 refine Calls.spliced_cons (thn (ha pins s σ H _ I h) fun u s1 ⟨x,H1,I1,r1,q1⟩=>?_)
 exact thn (hr pos pins s1 σ H1 _ I1 q1) fun us s2 ⟨xs,H2,I2,r2,q2⟩=>⟨x::xs,H2,I2,.cons r1 r2,q2⟩
noncomputable def EK (t:TA):TE:=fun σ H Q=>t σ H fun xs H1=>xs.length<=sizeLine/\∀ p,H1 p=none->Q (.ref p) (upd H1 p (.tup xs))
noncomputable def EF (t:TA):TE:=fun σ H Q=>t σ H fun xs H1=>xs.length<=sizeLine/\∀ p,H1 p=none->Q (.ref p) (upd H1 p (.lst xs))
theorem CI {x1} (h:PA X es t):PE X (.Tuple es x1 pos) (EK t):=by
 intro pins s σ H Q I hq
 refine wpAny_Tuple_spliced (thn (h pos pins s σ H _ I hq) fun us s1 ⟨xs,H1,I1,r,z,q⟩=>⟨by rw [<- r.length];exact z,?_⟩)
 have hf:H1 s1.heap.objs.size=none:=I1.hok.fresh (ag _)
 refine ⟨.ref s1.heap.objs.size,upd H1 s1.heap.objs.size (.tup xs),I1.laid (t':=s1.toks) (fun b u e=>aa _ e) (ag _) ?_,rfl,q _ hf⟩
 exact ⟨⟨z,jg.new _ _⟩,us,r,⟨_,aj _ rfl,rfl,_,rfl⟩⟩
theorem BM (h:PA X es t):PE X (.List es pos) (EF t):=by
 intro pins s σ H Q I hq
 refine wpAny_List_spliced (thn (h pos pins s σ H _ I hq) fun us s1 ⟨xs,H1,I1,r,z,q⟩=>⟨by rw [<- r.length];exact z,?_⟩)
 have hf:H1 s1.heap.objs.size=none:=I1.hok.fresh (ag _)
 refine ⟨.ref s1.heap.objs.size,upd H1 s1.heap.objs.size (.lst xs),I1.laid (t':=s1.toks) (fun b u e=>aa _ e) (ag _) ?_,rfl,q _ hf⟩
 exact ⟨z,us,0,r,aj _ rfl⟩
end
noncomputable abbrev Sp:=List V->Hp->VK->XK->Prop
noncomputable abbrev CXT:=List Env->Hp->Shared->XK->Value->Shared->Prop
structure C9 (P:Program) (w:World) (K:PySem.W.Frag) (mg:Str->Option Value) (base:Heap) (A:Around) (outer:List Env) (s:Shared) (H:Hp):Prop where
 frames:A.frames=some outer
 mod:Mod K mg base
 bs:∀ b o,base.get? b=some o->s.heap.get? b=some o/\H b=none
 bsz:base.objs.size<=s.heap.objs.size
 funs:s.heap.FunFrames base outer
 frf:∀ b∈frs outer,H b=none
 hok:HOk P w H s.heap
 bare:AllBare s.gens
noncomputable def CE (outer:List Env) (P:Program) (w:World) (H:Hp) (s:Shared) (Q:VK) (u:Value) (s':Shared):Prop :=
 ∃ v H',s'.os=s.os/\AllBare s'.gens/\Un (frs outer) [] H H' s.heap s'.heap/\HOk P w H' s'.heap/\dH v u/\Q v H'
noncomputable def CR (CX:CXT) (outer:List Env) (P:Program) (w:World) (H:Hp) (s:Shared) (Q:VK) (E:XK) (r:Result) (s':Shared):Prop :=
 match r with
 | .ok (.ret u)=>CE outer P w H s Q u s'
 | .ok _=>False
 | .error e=>CX outer H s E e s'
structure pZ (P:Program) (w:World) (K:PySem.W.Frag) (mg:Str->Option Value) (base:Heap) (CX:CXT) (k:Nat) (f:Addr) (fd:FuncData) (ps:List Str) (sp:Sp):Prop where
 len:∀ vs H Q E,sp vs H Q E->vs.length=ps.length
 run:∀ (A:Around) (outer:List Env) (s:Shared) (H:Hp) (args:Args) (us:List Value) (vs:List V) (Q:VK) (E:XK),fQ k A->C9 P w K mg base A outer s H->BindsTo s fd args (ps.zip us)->cq vs us->sp vs H Q E ->
  codeAny (model P w) A (.call (.ref f) args) (CR CX outer P w H s Q E) s
section
variable {X:Cx} {pins:List (Addr×Obj)} {σ:St} {H:Hp} {s s':Shared}
theorem Inv.env0 (I:Inv X pins σ H s):C9 X.prog X.w X.K X.mg X.base X.A X.stack s H :=
 ⟨I.ok.frames,I.ok.mod,I.bs,bR I.ok.bsz I.sz,I.stack,I.stkFree,I.hok,I.bare⟩
theorem Inv.after {Q:VK} {u:Value} (I:Inv X pins σ H s) (h:CE X.stack X.prog X.w H s Q u s'):EP X pins σ Q u s':=by
 obtain ⟨v,H',os,bare,un,hok,r,q⟩:=h
 obtain ⟨hh,g,d,t,os'⟩:=s'
 obtain rfl:os'=s.os:=os
 exact ⟨v,H',I.call (h':=hh) (g':=g) (d':=d) (t':=t) (ch:=[]) un hok bare (fun b z=>absurd z (by simp)),r,q⟩
end
noncomputable def BK (sp:Sp) (dvs:List V) (E:XK) (t:TA):TE:=fun σ H Q=>t σ H fun vs H1=>sp (vs++dvs) H1 Q E
noncomputable def mx (K:PySem.W.Frag) (fd:FuncData) (ps:List Str) (ds:List Value):Prop :=
 ∀ (s:Shared) (us:List Value),K.In s.heap->(us++ds).length=ps.length->BindsTo s fd ⟨us,[]⟩ (ps.zip (us++ds))
theorem mx.all {K:PySem.W.Frag} {fd:FuncData} {ps:List Str} (h:∀ us:List Value,us.length=ps.length->bindArgs fd ⟨us,[]⟩=pure (ps.zip us)):mx K fd ps []:=fun s us _ hl=>by
 rw [bH] at hl ⊢
 exact .of_eq (h us hl)
noncomputable def mY (CX:CXT) (X:Cx) (E:XK):Prop:=∀ (pins:List (Addr×Obj)) (σ:St) (H:Hp) (s:Shared) (e:Value) (s':Shared),Inv X pins σ H s->CX X.stack H s E e s'->X.xe e s'
section
variable {X:Cx} {CX:CXT} {k:Nat} {f C:Addr} {fd:FuncData} {ps:List Str} {sp:Sp} {dvs:List V} {ds:List Value} {E:XK} {x m:Str} {p pos apos:Pos} {e o:Expr} {es:List Expr} {ta:TE} {t:TA}
theorem Bk {pins:List (Addr×Obj)} {σ:St} {H:Hp} {s:Shared} {Q:VK} {us:List Value} {vs:List V} (F:pZ X.prog X.w X.K X.mg X.base CX k f fd ps sp) (hr:fQ k X.A) (hb:mx X.K fd ps ds) (hd:cq dvs ds) (hx:mY CX X E)
 (I:Inv X pins σ H s) (r:cq vs us) (h:sp (vs++dvs) H Q E):wpAny (model X.prog X.w) X.A (call (.ref f) us) (EP X pins σ Q) X.xe s:=by
 have r2:cq (vs++dvs) (us++ds):=r.append hd
 have hl:(us++ds).length=ps.length:=by rw [<- r2.length];exact F.len _ _ _ _ h
 refine wpAny_call (codeAny_mono (F.run X.A X.stack s H ⟨us,[]⟩ (us++ds) (vs++dvs) Q E hr I.env0 (hb s us I.kIn hl) r2 h) fun r s' hq=>?_)
 cases r with
 | error e=>exact hx pins σ H s e s' I hq
 | ok fl =>
   cases fl with
   | ret u=>exact I.after hq
   | next=>exact False.elim hq
   | brk=>exact False.elim hq
   | cont=>exact False.elim hq
theorem sM (F:pZ X.prog X.w X.K X.mg X.base CX k f fd ps sp) (hr:fQ k X.A) (hg:Gl X x) (hm:X.mg x=some (.ref f)) (hk:PySem.W.keepIn X.K (.ref f)=true) (hb:mx X.K fd ps ds) (hd:cq dvs ds) (hx:mY CX X E)
 (ha:PA X (e::es) t) (hdb:(x == ("__debug__" : Str))=false:=by decide) (he:starEach (e::es) X.env=(false,eval e X.env)::starEach es X.env:=by rfl) (hpl:(backTo pos (starEach es X.env)).any (·.1)=false:=by rfl) :
 PE X (.Call (.Name x p) (e::es) [] pos) (BK sp dvs E t):=by
 intro pins s σ H Q I h
 refine wpAny_Call_Name_kw (mh I hg hm ?_ hdb)
 refine PySem.W.callWith_K (h₀:=X.base) I.ok.mod.kin hk (thn (ha pos pins s σ H _ I h) fun us s1 ⟨vs,H1,I1,r,q⟩=>⟨I1.kIn,?_⟩) he hpl
 exact Bk F hr hb hd hx I1 r q
end
section
variable {X:Cx} {CX:CXT} {k:Nat} {f C:Addr} {fd:FuncData} {ps ks:List Str} {sp:Sp} {E:XK} {x m:Str} {p pos apos kpos:Pos} {e o:Expr} {es:List Expr} {kws:List Keyword} {te ta:TE} {t tk:TA} {nm:Option Str}
variable {g:List Value->List Value->List Value} {gV:List V->List V->List V}
end
structure cg (N P:List Str) (sc:Scope):Prop where
 kind:sc.kind=.function
 co:sc.isCoroutine=false
 gen:sc.isGenerator=false
 nd:N.Nodup
 pre:N.take P.length=P
 par:∀ x∈P,sc.names.lookup x=some .local\/sc.names.lookup x=some .cell
 nofree:∀ y∈sc.names,y.2≠.free
theorem nk {kindOf:Str->Option NameKind} {x:Str}:∀ {binds:List (Str×Value)} {m:Str->Option Value},(∀ v,(x,v)∉binds)->bindL kindOf binds m x=m x
 | [],_,_=>rfl
 | (n,v)::r,m,h=>by
   unfold bindL
   rw [nk fun w hw=>h w (al _ hw)]
   split
   ·have:x≠n:=by rintro rfl;exact h v ax
    simp [this]
   ·rfl
theorem og {kindOf:Str->Option NameKind} {x:Str}:∀ {binds:List (Str×Value)} {m:Str->Option Value},(∀ v,(x,v)∉binds)->bindC kindOf binds m x=m x
 | [],_,_=>rfl
 | (n,v)::r,m,h=>by
   unfold bindC
   rw [og fun w hw=>h w (al _ hw)]
   split
   ·rfl
   ·have:x≠n:=by rintro rfl;exact h v ax
    simp [this]
theorem oM {kindOf:Str->Option NameKind} {x:Str} {v:Value}:∀ {P:List Str} {vs:List Value} {i:Nat} {m:Str->Option Value},P.Nodup->P[i]?=some x->vs[i]?=some v->kindOf x=some .local ->
 bindL kindOf (P.zip vs) m x=some v
 | [],_,_,_,_,h,_,_=>by simp at h
 | _::_,[],_,_,_,_,h,_=>by simp at h
 | p::P,w::vs,0,m,nd,h1,h2,hk=>by
   simp at h1 h2;subst h1;subst h2
   show bindL kindOf ((p,w)::P.zip vs) m p=_
   unfold bindL
   rw [nk fun v hv=>(aV.mp nd).1 (oW hv).1,if_pos hk]
   simp
 | p::P,w::vs,i+1,m,nd,h1,h2,hk=>by
   show bindL kindOf ((p,w)::P.zip vs) m x=_
   unfold bindL
   exact oM (i:=i) (aV.mp nd).2 (by simpa using h1) (by simpa using h2) hk
theorem nW {kindOf:Str->Option NameKind} {x:Str} {v:Value}:∀ {P:List Str} {vs:List Value} {i:Nat} {m:Str->Option Value},P.Nodup->P[i]?=some x->vs[i]?=some v->kindOf x≠some .local ->
 bindC kindOf (P.zip vs) m x=some v
 | [],_,_,_,_,h,_,_=>by simp at h
 | _::_,[],_,_,_,_,h,_=>by simp at h
 | p::P,w::vs,0,m,nd,h1,h2,hk=>by
   simp at h1 h2;subst h1;subst h2
   show bindC kindOf ((p,w)::P.zip vs) m p=_
   unfold bindC
   rw [og fun v hv=>(aV.mp nd).1 (oW hv).1,if_neg hk]
   simp
 | p::P,w::vs,i+1,m,nd,h1,h2,hk=>by
   show bindC kindOf ((p,w)::P.zip vs) m x=_
   unfold bindC
   exact nW (i:=i) (aV.mp nd).2 (by simpa using h1) (by simpa using h2) hk
noncomputable def start (N:List Str) (vs:List V):St:=vs.map some++jv (N.length-vs.length) none
noncomputable def g9 (CX:CXT) (P:Program) (w:World) (K:PySem.W.Frag) (mg:Str->Option Value) (base:Heap) (N:List Str) (qual:Str) (scope:Scope) (f:Addr) (cd:Value) (A:Around) (outer:List Env) (s:Shared) (H:Hp) (E:XK):Cx where
 prog:=P
 w:=w
 K:=K
 mg:=mg
 base:=base
 A:=A.deeper (envOfC qual scope s.heap.objs.size f cd)
 N:=N
 s₀:=s
 H₀:=H
 env:=envOfC qual scope s.heap.objs.size f cd
 outer:=outer
 stack:=envOfC qual scope s.heap.objs.size f cd::outer
 ex:=[]
 calm:=true
 fn:=fun _=>true
 pn:=[]
 xe:=fun e s'=>wpAny (model P w) (A.deeper (envOfC qual scope s.heap.objs.size f cd)) (leaving (envOfC qual scope s.heap.objs.size f cd) e) (fun _ s''=>CX outer H s E e s'') (fun e' s''=>CX outer H s E e' s'') s'
theorem qB {sc:Scope} {n:Nat} {x:Str} (h:sc.names.lookup x=some .cell):∃ c,(cellsFrom n sc.names []).lookup x=some c:=by
 have q:=PySem.W.cellsFrom_some sc.names n [] (.inl h)
 exact Option.isSome_iff_exists.mp q
theorem sK {CX:CXT} {P:Program} {w:World} {K:PySem.W.Frag} {mg:Str->Option Value} {base:Heap} {N ps:List Str} {qual:Str} {scope:Scope} {f:Addr} {cd:Value} {A:Around} {outer:List Env} {s s1:Shared} {H:Hp} {E:XK} {us:List Value} {vs:List V}
 (S:cg N ps scope) (hd:A.handled=none) (e0:C9 P w K mg base A outer s H) (hl:vs.length=ps.length) (r:cq vs us)
 (x:InCallC s s.heap.objs.size (bindL (envOfC qual scope s.heap.objs.size f cd).kindOf (ps.zip us) fun _=>none) (cellsFrom (s.heap.objs.size+1) scope.names []) (bindC (envOfC qual scope s.heap.objs.size f cd).kindOf (ps.zip us) fun _=>none) s1) :
 Inv (g9 CX P w K mg base N qual scope f cd A outer s H E) [] (start N vs) H s1:=by
 have hpl:ps.length<=N.length:=by have:=congrArg gc S.pre;rw [bu] at this;lia
 obtain ⟨h1,tk,rfl,hk⟩:=x.done
 have noA:∀ b:Addr,b∉(g9 CX P w K mg base N qual scope f cd A outer s H E).ex:=fun b z=>absurd (show b∈([]:List Addr) from z) (by simp)
 refine ⟨⟨e0.mod,S.kind,rfl,rfl,ag _,fun y z c h1 h2=>?_,fun y hy=>?_,fun y c _ h=>?_,fun _=>hd,Around.frames_deeper e0.frames,.inr ⟨rfl,rfl⟩,fun b z=>absurd z (noA b),e0.bs,e0.bsz,fun b _ _=>noA b,fun b z=>absurd z (noA b),e0.funs,e0.frf⟩,
  rfl,e0.bare,Un.kept hk,⟨_,x.toInCall.ns,fun i y v h1 h2 h3=>?_⟩,fun y c h=>⟨_,x.cell y c h⟩,e0.hok.fresh (ag _),fun y c h=>?_,fun p hp=>absurd (show p∈([]:List (Addr×Obj)) from hp) (by simp),e0.hok.kept hk,?_⟩
 ·exact name_of_addr x.apart (PySem.mem_of_lookup h1) (PySem.mem_of_lookup h2)
 ·have hy:scope.names.lookup y=some .cell\/scope.names.lookup y=some .free:=hy
  rcases hy with hy | hy
  ·exact qB hy
  ·exact absurd rfl (S.nofree _ (PySem.mem_of_lookup hy))
 ·exact gD (x.above y c (PySem.mem_of_lookup h))
 ·have hi:i<vs.length:=by
   unfold start at h2
   by_cases hi:i<vs.length
   ·exact hi
   ·rw [cD (by simpa using hi)] at h2
    rw [h9] at h2
    split at h2<;>cases h2
  have ha:vs[i]?=some v:=by
   unfold start at h2
   rw [cc (by simpa using hi),av] at h2
   cases e:vs[i]? with
   | none=>rw [e] at h2;cases h2
   | some a=>rw [e] at h2;cases h2;rfl
  obtain ⟨u,hu,rv⟩:=r.get ha
  have hp:ps[i]?=some y:=by
   rw [<- S.pre,List.getElem?_take_of_lt (by lia)];exact h1
  have ndP:ps.Nodup:=by rw [<- S.pre];exact S.nd.sublist (AE _ _)
  refine ⟨u,rv,?_⟩
  rcases S.par y (aZ hp) with k | k
  ·exact .inl ⟨k,oM ndP hp hu k⟩
  ·obtain ⟨c,e⟩:=qB (n:=s.heap.objs.size+1) k
   refine .inr ⟨.inl k,c,e,?_⟩
   have q:=x.cell y c e
   rw [nW ndP hp hu (by show scope.names.lookup y≠_;rw [k];decide)] at q
   exact q
 ·exact e0.hok.fresh (gD (x.above y c (PySem.mem_of_lookup h)))
 ·unfold start
  show _=N.length
  rw [aH,af,iQ]
  lia
theorem BB {CX:CXT} {P:Program} {w:World} {K:PySem.W.Frag} {mg:Str->Option Value} {base:Heap} {k:Nat} {f:Addr} {name qual:Str} {params:Arguments} {body:List Stmt} {scope:Scope} {dV kV doc pm cdv ct oc:Value} {an od:Option Addr}
 {osl:Array (Option Value)} {N ps:List Str} {sp:Sp} (lk:K.lookup f=some ⟨oc,od,.func (PySem.W.fnOf name qual params body scope dV kV doc pm an cdv ct),osl⟩) (hcd:PySem.W.codeIn K cdv qual=true) (S:cg N ps scope)
 (len:∀ vs H Q E,sp vs H Q E->vs.length=ps.length)
 (hbody:∀ (A:Around) (outer:List Env) (s:Shared) (H:Hp) (vs:List V) (Q:VK) (E:XK),fQ k (A.deeper (envOfC qual scope s.heap.objs.size f cdv))->sp vs H Q E ->
   ∃ t,PSs (g9 CX P w K mg base N qual scope f cdv A outer s H E) body t/\t { nx:=fun _ H'=>Q .non H',rt:=Q } (start N vs) H) :
 pZ P w K mg base CX (k+1) f (PySem.W.fnOf name qual params body scope dV kV doc pm an cdv ct) ps sp:=by
 refine ⟨len,fun A outer s H args us vs Q E hr e0 hb r hsp=>?_⟩
 have hl:=len _ _ _ _ hsp
 have KX:K.In s.heap:=e0.mod.kin.keeps fun b o e=>(e0.bs b o e).1
 have lim:s.heap.NoLimit:=e0.mod.nolimit.keeps fun b o e=>(e0.bs b o e).1
 have hkind:∀ y∈ps.zip us,scope.names.lookup y.1=some .local\/(scope.names.lookup y.1=some .cell/\((cellsFrom (s.heap.objs.size+1) scope.names []).lookup y.1).isSome=true):=fun ⟨n,v⟩ hy=>by
  rcases S.par n (oW hy).1 with q | q
  ·exact .inl q
  ·exact .inr ⟨q,PySem.W.cellsFrom_some _ _ _ (.inl q)⟩
 refine codeAny_call_function hr.depth (KX _ _ lk) rfl S.co S.gen rfl (PySem.W.codeRec_of KX hcd) (hb _ _ _ _ ?_)
 refine wpAny_newFunctionEnv_cells S.kind hkind fun env he s1 x=>?_
 subst he
 refine ⟨lim.keeps x.toInCall.keep,codeAny_func ?_⟩
 obtain ⟨t,ht,hq⟩:=hbody A outer s H vs Q E (hr.deeper _) hsp
 have I:Inv (g9 CX P w K mg base N qual scope f cdv A outer s H E) [] (start N vs) H s1:=sK S hr.hd e0 hl r x
 refine wpAny_mono (ht [] s1 (start N vs) H _ I hq) (fun fl s' hs=>?_) fun e s' hs=>hs
 have fin:∀ {σ':St} {H':Hp} {v:V} {u:Value},Inv (g9 CX P w K mg base N qual scope f cdv A outer s H E) [] σ' H' s'->dH v u->Q v H'->CE outer P w H s Q u s' :=
  fun {σ' H' v u} J rv q=>⟨v,H',J.os,J.bare,J.base,J.hok,rv,q⟩
 cases fl with
 | ret u =>
   obtain ⟨v,σ',H',J,rv,q⟩:=hs
   exact fin J rv q
 | next =>
   obtain ⟨σ',H',J,q⟩:=hs
   exact fin (v:=V.non) (u:=Value.none) J rfl q
 | brk =>
   obtain ⟨_,_,_,q⟩:=hs
   exact False.elim q
 | cont =>
   obtain ⟨_,_,_,q⟩:=hs
   exact False.elim q
end L2
namespace L2
open PySem PySem.Spec PyProof.Rows
section
variable {X:Cx} {x:Str} {p pos:Pos} {e:Expr} {es:List Expr} {t:TA} {id T:String} {r:List V->Hp->VK->Prop}
noncomputable def tCB (r:List V->Hp->VK->Prop) (t:TA):TE:=fun σ H Q=>t σ H fun vs H1=>r vs H1 Q
theorem mt (hc:iB X (.builtin id) r) (hg:Gl X x) (hm:X.mg x=none) (hv:bootBuiltins x=some (.builtin id)) (ha:PA X (e::es) t) (hn:x≠"__name__":=by decide) (hdb:(x == ("__debug__" : Str))=false:=by decide)
 (he:starEach (e::es) X.env=(false,eval e X.env)::starEach es X.env:=by rfl) (hpl:(backTo pos (starEach es X.env)).any (·.1)=false:=by rfl):PE X (.Call (.Name x p) (e::es) [] pos) (tCB r t):=by
 intro pins s σ H Q I h
 refine wpAny_Call_Name_kw (hU I hg hm hv ?_ hn hdb)
 exact PyProof.Rows.callWith_builtin1 (thn (ha pos pins s σ H _ I h) fun us s1 ⟨vs,H1,I1,r1,q1⟩=>hc pins s1 σ H1 vs us Q I1 r1 q1) he hpl
theorem n9 (hc:iB X (.type T) r) (hg:Gl X x) (hm:X.mg x=none) (hv:bootBuiltins x=some (.type T)) (ha:PA X (e::es) t) (hn:x≠"__name__":=by decide) (hdb:(x == ("__debug__" : Str))=false:=by decide)
 (he:starEach (e::es) X.env=(false,eval e X.env)::starEach es X.env:=by rfl) (hpl:(backTo pos (starEach es X.env)).any (·.1)=false:=by rfl):PE X (.Call (.Name x p) (e::es) [] pos) (tCB r t):=by
 intro pins s σ H Q I h
 refine wpAny_Call_Name_kw (hU I hg hm hv ?_ hn hdb)
 exact PyProof.Rows.callWith_type1 (thn (ha pos pins s σ H _ I h) fun us s1 ⟨vs,H1,I1,r1,q1⟩=>hc pins s1 σ H1 vs us Q I1 r1 q1) he hpl
end
end L2
namespace L2
open PySem PySem.Spec PyProof.Rows
section
variable {κ:Type} [DecidableEq κ]
noncomputable def kS (kvs:List (κ×V)) (k:κ):Option V:=(kvs.find? fun kv=>decide (kv.1=k)).map (·.2)
noncomputable def ir (kvs:List (κ×V)) (k:κ) (v:V):List (κ×V) :=
 if (kvs.any fun kv=>decide (kv.1=k))=true then kvs.map (fun kv=>if kv.1=k then (kv.1,v) else kv) else kvs++[(k,v)]
theorem iJ {p:κ×V} {r:List (κ×V)} {k:κ} (e:p.1=k):kS (p::r) k=some p.2:=by simp [kS,eV,e]
theorem iK {p:κ×V} {r:List (κ×V)} {k:κ} (e:¬ p.1=k):kS (p::r) k=kS r k:=by simp [kS,eV,e]
theorem lH (k:κ):∀ kvs:List (κ×V),(kvs.any fun kv=>decide (kv.1=k))=(kS kvs k).isSome
 | []=>rfl
 | p::r=>by
   rw [ic]
   by_cases e:p.1=k
   ·simp only [iJ e,decide_eq_true e,Bool.true_or,Option.isSome_some]
   ·rw [iK e,decide_eq_false e,Es];exact lH k r
theorem ii (kvs:List (κ×V)) (k:κ) (v:V):(ir kvs k v).length<=kvs.length+1:=by
 unfold ir
 split
 ·rw [af];lia
 ·rw [aH,aA,cT];lia
theorem qG {kvs:List (κ×V)} {k:κ} (v:V) (h:kS kvs k=none):ir kvs k v=kvs++[(k,v)]:=by
 unfold ir
 rw [lH,h]
 exact if_neg (by decide)
theorem rN.isSome_eq {o:Option V} {u:Option Value} (r:rN o u):o.isSome=u.isSome:=by
 cases o with
 | none=>cases u with
   | none=>rfl
   | some _=>exact (show False from r).elim
 | some _=>cases u with
   | none=>exact (show False from r).elim
   | some _=>rfl
theorem rN.getD {o:Option V} {u:Option Value} {d:V} {d':Value} (r:rN o u) (rd:dH d d'):dH (o.getD d) (u.getD d'):=by
 cases o with
 | none=>cases u with
   | none=>exact rd
   | some _=>exact (show False from r).elim
 | some _=>cases u with
   | none=>exact (show False from r).elim
   | some _=>exact r
theorem KV.val {kvs:List (κ×V)} {vs:List (κ×Value)} (r:KV kvs vs) (k:κ):rN (kS kvs k) (valueAt vs k):=by
 unfold KV at r
 induction r with
 | nil=>exact True.intro
 | @cons p q ps qs h t ih =>
   obtain ⟨h1,h2⟩:=h
   by_cases e:p.1=k
   ·have e':q.1=k:=h1.symm.trans e
    have b:valueAt (q::qs) k=some q.2:=by simp [valueAt,eV,e']
    rw [iJ e,b];exact h2
   ·have e':¬ q.1=k:=fun z=>e (h1.trans z)
    have b:valueAt (q::qs) k=valueAt qs k:=by simp [valueAt,eV,e']
    rw [iK e,b];exact ih
theorem KV.any {kvs:List (κ×V)} {vs:List (κ×Value)} (r:KV kvs vs) (k:κ):(kvs.any fun kv=>decide (kv.1=k))=vs.any fun kv=>decide (kv.1=k):=by
 unfold KV at r
 induction r with
 | nil=>rfl
 | cons h t ih=>rw [ic,ic,ih,h.1]
theorem KV.repl {kvs:List (κ×V)} {vs:List (κ×Value)} (r:KV kvs vs) (k:κ) {y:V} {u:Value} (ry:dH y u) :
 KV (kvs.map fun kv=>if kv.1=k then (kv.1,y) else kv) (vs.map fun kv=>if kv.1=k then (kv.1,u) else kv):=by
 unfold KV at r ⊢
 induction r with
 | nil=>exact .nil
 | @cons p q ps qs h t ih =>
   rw [aC,aC]
   refine .cons ?_ ih
   obtain ⟨h1,h2⟩:=h
   by_cases e:p.1=k
   ·rw [if_pos e,if_pos (h1.symm.trans e)];exact ⟨h1,ry⟩
   ·rw [if_neg e,if_neg (fun z=>e (h1.trans z))];exact ⟨h1,h2⟩
theorem KV.put {kvs:List (κ×V)} {vs:List (κ×Value)} (r:KV kvs vs) (k:κ) {y:V} {u:Value} (ry:dH y u):KV (ir kvs k y) (stored vs k u):=by
 unfold ir stored
 rw [r.any k]
 by_cases e:(vs.any fun kv=>decide (kv.1=k))=true
 ·rw [if_pos e,if_pos e];exact r.repl k ry
 ·rw [if_neg e,if_neg e];exact Paired.snoc r ⟨rfl,ry⟩
theorem KV.keys {kvs:List (κ×V)} {vs:List (κ×Value)} (r:KV kvs vs):kvs.map (·.1)=vs.map (·.1):=by
 unfold KV at r
 induction r with
 | nil=>rfl
 | cons h t ih=>rw [aC,aC,ih,h.1]
theorem KV.length {kvs:List (κ×V)} {vs:List (κ×Value)} (r:KV kvs vs):kvs.length=vs.length:=Paired.length r
end
theorem rB {P:Program} {w:World} {k:Key} {u:Value} (r:dH (kV k) u):(cr P w).is k u=true:=by
 cases k with
 | inl i=>obtain ⟨t,e⟩:=(show ∃ t,u=Value.int i t from r);subst e;exact o3 P w i t
 | inr x=>obtain ⟨t,e⟩:=(show ∃ t,u=Value.str x t from r);subst e;exact pV P w x t
theorem nN {P:Program} {w:World}:∀ {ks:List Key} {us:List Value},cq (ks.map kV) us->ItemsAre (cr P w) ks us
 | [],_,r=>by rw [gB] at r;cases r;exact .nil
 | k::ks,_,r=>by
   rw [aC] at r
   cases r with
   | cons h t=>exact .cons (rB h) (nN t)
noncomputable abbrev KT (H:Hp):List (List Key×V)->List (List Key×Addr×Value)->Prop:=Paired fun p q=>p.1=q.1/\H q.2.1=some (.tup (p.1.map kV))/\dH p.2 q.2.2
theorem KT.val {H:Hp} {kvs:List (List Key×V)} {xs:List (List Key×Addr×Value)} (r:KT H kvs xs) (k:List Key):rN (kS kvs k) ((atKey xs k).map (·.2)):=by
 induction r with
 | nil=>exact True.intro
 | @cons p q ps qs h t ih =>
   obtain ⟨h1,_,h2⟩:=h
   by_cases e:p.1=k
   ·have e':q.1=k:=h1.symm.trans e
    have b:atKey (q::qs) k=some q.2:=by simp [atKey,eV,e']
    rw [iJ e,b];exact h2
   ·have e':¬ q.1=k:=fun z=>e (h1.trans z)
    have b:atKey (q::qs) k=atKey qs k:=by simp [atKey,eV,e']
    rw [iK e,b];exact ih
theorem KT.repl {H:Hp} {kvs:List (List Key×V)} {xs:List (List Key×Addr×Value)} (r:KT H kvs xs) (k:List Key) {y:V} {u:Value} (ry:dH y u) :
 KT H (kvs.map fun kv=>if kv.1=k then (kv.1,y) else kv) (xs.map (putAt k u)):=by
 induction r with
 | nil=>exact .nil
 | @cons p q ps qs h t ih =>
   rw [aC,aC]
   refine .cons ?_ ih
   obtain ⟨h1,h2,h3⟩:=h
   unfold putAt
   by_cases e:p.1=k
   ·rw [if_pos e,if_pos (h1.symm.trans e)];exact ⟨h1,h2,ry⟩
   ·rw [if_neg e,if_neg (fun z=>e (h1.trans z))];exact ⟨h1,h2,h3⟩
theorem KT.put {H:Hp} {kvs:List (List Key×V)} {xs:List (List Key×Addr×Value)} (r:KT H kvs xs) (k:List Key) {b:Addr} {y:V} {u:Value} (hb:H b=some (.tup (k.map kV))) (ry:dH y u) :
 KT H (ir kvs k y) (storedH xs k b u):=by
 have e:(kvs.any fun kv=>decide (kv.1=k))=(atKey xs k).isSome:=by
  rw [lH,(r.val k).isSome_eq,Option.isSome_map]
 unfold ir storedH
 rw [e]
 by_cases q:(atKey xs k).isSome=true
 ·rw [if_pos q,if_pos q];exact r.repl k ry
 ·rw [if_neg q,if_neg q];exact Paired.snoc r ⟨rfl,hb,ry⟩
theorem KT.keeps {H H':Hp} {kvs:List (List Key×V)} {xs:List (List Key×Addr×Value)} (r:KT H kvs xs) (ht:∀ b ys,H b=some (.tup ys)->H' b=some (.tup ys)):KT H' kvs xs :=
 Paired.mapP r fun _ _ z=>⟨z.1,ht _ _ z.2.1,z.2.2⟩
section
variable {P:Program} {w:World} {H:Hp} {h:Heap} {a:Addr}
theorem Bd {u:HO} (ok:HOk P w H h) (e:Rd H a u):eG P w H h a u:=e.ok ok
theorem ny {kvs:List (Key×V)} (ok:HOk P w H h) (e:Rd H a (.dK kvs)):kvs.length<=sizeLine/\(a == sysModules)=false/\∃ vs,KV kvs vs/\h.DictOf (cr P w) a vs :=
 show eG P w H h a (.dK kvs) from Bd ok e
theorem BP {kvs:List (Key×V)} (ok:HOk P w H h) (e:H a=some (.dK kvs)):kvs.length<=sizeLine/\(a == sysModules)=false/\∃ vs,KV kvs vs/\h.DictOf (cr P w) a vs:=ny ok (.inl e)
theorem je {ks:List Key} (ok:HOk P w H h) (e:H a=some (.tup (ks.map kV))):(tupleKind (cr P w)).is h ks a:=by
 obtain ⟨_,its,r,o,h1,h2,n,h3⟩:=(show eG P w H h a (.tup (ks.map kV)) from ok a _ e)
 exact ⟨o,its.toArray,n,h1,h2,h3,by simpa using nN r⟩
theorem pq {kvs:List (List Key×V)} (ok:HOk P w H h) (e:Rd H a (.dT kvs)):kvs.length<=sizeLine/\(a == sysModules)=false /\
 ∃ xs,KT H kvs xs/\h.DictOfH (tupleKind (cr P w)) a xs:=by
 obtain ⟨z,y,xs,r,o,es,ep,h1,h2,h3,h4,h5⟩:=(show eG P w H h a (.dT kvs) from Bd ok e)
 refine ⟨z,y,xs,r,o,es,ep,h1,h2,h3,h4,fun x hx=>?_,h5⟩
 have all:∀ {l:List (List Key×V)} {m:List (List Key×Addr×Value)},KT H l m->∀ x∈m,(tupleKind (cr P w)).is h x.1 x.2.1:=by
  intro l m q
  induction q with
  | nil=>intro x hx;exact nomatch hx
  | @cons p q ps qs hq t ih =>
    intro x hx
    rcases ah.mp hx with e | hx
    ·subst e
     exact je ok (by rw [<- hq.1];exact hq.2.1)
    ·exact ih x hx
 exact all r x hx
theorem DQ {kvs:List (List Key×V)} (ok:HOk P w H h) (e:H a=some (.dT kvs)):kvs.length<=sizeLine/\(a == sysModules)=false /\
 ∃ xs,KT H kvs xs/\h.DictOfH (tupleKind (cr P w)) a xs:=pq ok (.inl e)
end
noncomputable def o5 (H:Hp) (a:Addr) (y:V) (r:Option V):Prop :=
 (∃ kvs k,Rd H a (.dK kvs)/\y=kV k/\r=kS kvs k)\/∃ kvs k b,Rd H a (.dT kvs)/\y=.ref b/\H b=some (.tup (k.map kV))/\r=kS kvs k
noncomputable def yT (H:Hp) (a:Addr) (y v:V) (H':Hp):Prop :=
 (∃ kvs k,H a=some (.dK kvs)/\y=kV k/\kvs.length<sizeLine/\H'=upd H a (.dK (ir kvs k v))) \/
 ∃ kvs k b,H a=some (.dT kvs)/\y=.ref b/\H b=some (.tup (k.map kV))/\kvs.length<sizeLine/\H'=upd H a (.dT (ir kvs k v))
theorem o5.k {H:Hp} {a:Addr} {kvs:List (Key×V)} {k:Key} (e:H a=some (.dK kvs)):o5 H a (kV k) (kS kvs k):=.inl ⟨kvs,k,.inl e,rfl,rfl⟩
theorem yT.k {H:Hp} {a:Addr} {kvs:List (Key×V)} {k:Key} {v:V} (e:H a=some (.dK kvs)) (hl:kvs.length<sizeLine):yT H a (kV k) v (upd H a (.dK (ir kvs k v))):=.inl ⟨kvs,k,e,rfl,hl,rfl⟩
section
variable {X:Cx} {pins:List (Addr×Obj)} {σ:St} {H:Hp} {s:Shared} {a:Addr} {y v:V} {u r:Value} {o:Option V} {A:Around} {E:Value->Shared->Prop}
theorem Inv.big (I:Inv X pins σ H s):sysModules<s.heap.objs.size:=by
 have h:mainGlobals<s.heap.objs.size:=(I.mod.glob.keeps I.bk).lt
 exact Nat.lt_trans (by decide) h
theorem u9 {Q:Value->Shared->Prop} (hu:A.units+1<cLine) (I:Inv X pins σ H s) (g:o5 H a y (some v)) (ry:dH y u) (h:∀ w' s',Inv X pins σ H s'->dH v w'->Q w' s') :
 wpAny (model X.prog X.w) A (getItem (.ref a) u) Q E s:=by
 rcases g with ⟨kvs,k,e,ey,l⟩ | ⟨kvs,k,b,e,ey,eb,l⟩
 ·subst ey
  obtain ⟨z,hd,vs,rel,dd⟩:=ny I.hok e
  obtain ⟨w',hw,rw'⟩:=rN.some_of (v:=v) (o:=valueAt vs k) (by rw [l];exact rel.val k)
  exact wpAny_getItem_of (rB ry) dd.mapOf hw (h w' _ (I.tok _) rw')
 ·subst ey
  cases (show u=Value.ref b from ry)
  obtain ⟨z,hd,xs,rel,dd⟩:=pq I.hok e
  obtain ⟨w',hw,rw'⟩:=rN.some_of (v:=v) (o:=(atKey xs k).map (·.2)) (by rw [l];exact rel.val k)
  obtain ⟨p,hp,hp2⟩:=Option.map_eq_some_iff.mp hw
  refine wpAny_getItem_heap (tupleKind_room_in1 hu) (je I.hok eb) dd hp ?_
  rw [hp2]
  exact h w' _ (I.tok _) rw'
theorem EU {Q:Value->Shared->Prop} (hu:A.units+1<cLine) (I:Inv X pins σ H s) (g:o5 H a y o) (ry:dH y u) (h:∀ s',Inv X pins σ H s'->Q (.bool o.isSome) s') :
 wpAny (model X.prog X.w) A (compareOp .In u (.ref a)) Q E s:=by
 rcases g with ⟨kvs,k,e,ey,l⟩ | ⟨kvs,k,b,e,ey,eb,l⟩
 ·subst ey
  obtain ⟨z,hd,vs,rel,dd⟩:=ny I.hok e
  refine wpAny_in_of (rB ry) hd dd.mapOf ?_
  rw [<- (rel.val k).isSome_eq,<- l]
  exact h _ (I.tok _)
 ·subst ey
  cases (show u=Value.ref b from ry)
  obtain ⟨z,hd,xs,rel,dd⟩:=pq I.hok e
  refine wpAny_in_heap (tupleKind_room_in1 hu) (je I.hok eb) hd dd ?_
  have q:=(rel.val k).isSome_eq
  rw [Option.isSome_map] at q
  rw [<- q,<- l]
  exact h _ (I.tok _)
theorem uK {Q:Value->Shared->Prop} (hu:A.units+1<cLine) (I:Inv X pins σ H s) (g:o5 H a y o) (ry:dH y u) (h:∀ s',Inv X pins σ H s'->Q (.bool (!o.isSome)) s') :
 wpAny (model X.prog X.w) A (compareOp .NotIn u (.ref a)) Q E s:=by
 rcases g with ⟨kvs,k,e,ey,l⟩ | ⟨kvs,k,b,e,ey,eb,l⟩
 ·subst ey
  obtain ⟨z,hd,vs,rel,dd⟩:=ny I.hok e
  refine wpAny_notIn_of (rB ry) hd dd.mapOf ?_
  rw [<- (rel.val k).isSome_eq,<- l]
  exact h _ (I.tok _)
 ·subst ey
  cases (show u=Value.ref b from ry)
  obtain ⟨z,hd,xs,rel,dd⟩:=pq I.hok e
  refine wpAny_notIn_heap (tupleKind_room_in1 hu) (je I.hok eb) hd dd ?_
  have q:=(rel.val k).isSome_eq
  rw [Option.isSome_map] at q
  rw [<- q,<- l]
  exact h _ (I.tok _)
theorem pk {h':Heap} {t':Nat} {ob:HO} (I:Inv X pins σ H s) (mu:Mut (H a)) (hs:Heap.SameBut a s.heap h') (he:∃ q,h'.get? a=some q) (new:eG X.prog X.w (upd H a ob) h' a ob) :
 Inv X pins σ (upd H a ob) { s with heap:=h',toks:=t' } :=
 I.write (x:=a) (e:=a) mu (.inl rfl) (fun b q hb z=>(hs.2 b hb).trans z) he new
theorem xj {P:Program} {w:World} {H':Hp} {h':Heap} {kvs:List (Key×V)} {vs:List (Key×Value)} (z:kvs.length<=sizeLine) (hd:(a == sysModules)=false) (rel:KV kvs vs) (dd:h'.DictOf (cr P w) a vs) :
 eG P w H' h' a (.dK kvs):=⟨z,hd,vs,rel,dd⟩
theorem uu {H':Hp} {Q:Unit->Shared->Prop} (hu:A.units+1<cLine) (I:Inv X pins σ H s) (g:yT H a y v H') (ry:dH y u) (rv:dH v r) (h:∀ s',Inv X pins σ H' s'->Q () s') :
 wpAny (model X.prog X.w) A (setItem (.ref a) u r) Q E s:=by
 rcases g with ⟨kvs,k,e,ey,l,eH⟩ | ⟨kvs,k,b,e,ey,eb,l,eH⟩
 ·subst ey eH
  obtain ⟨z,hd,vs,rel,dd⟩:=BP I.hok e
  have hz:vs.length<=sizeLine:=by rw [<- rel.length];exact z
  have hl:(ir kvs k v).length<=sizeLine:=by have:=ii kvs k v;lia
  refine wpAny_setItem_pairs (hsz:=hz) (rB ry) dd fun h' dd' hs=>h _ ?_
  have he:∃ q,h'.get? a=some q:=let ⟨q,_,_,hq,_⟩:=dd';⟨q,hq⟩
  exact pk I (by rw [e];exact True.intro) hs he (xj hl hd (rel.put k rv) dd')
 ·subst ey eH
  cases (show u=Value.ref b from ry)
  obtain ⟨z,hd,xs,rel,dd⟩:=DQ I.hok e
  have hz:xs.length<=sizeLine:=by rw [<- Paired.length rel];exact z
  have hl:(ir kvs k v).length<=sizeLine:=by have:=ii kvs k v;lia
  refine wpAny_setItem_heap (hsz:=hz) (tupleKind_room_in1 hu) (je I.hok eb) dd fun h' dd' hs=>h _ ?_
  obtain ⟨q,es,ep,hq,h2,h3,h4,_,h5⟩:=dd'
  refine pk I (by rw [e];exact True.intro) hs ⟨q,hq⟩ ⟨hl,hd,_,(rel.put k eb rv).keeps fun c ys ec=>?_,q,es,ep,hq,h2,h3,h4,h5⟩
  rw [bf (Dr ec e (fun z=>nomatch z))]
  exact ec
end
section
variable {X:Cx} {pins:List (Addr×Obj)} {σ:St} {H:Hp} {s:Shared} {a:Addr} {kvs:List (Key×V)} {k:Key} {u:Value} {A:Around} {E:Value->Shared->Prop}
end
noncomputable def DP (i:Expr):Prop:=∀ ov iv,subscripted i false ov iv=operate [ov,iv] (getItem ov iv)
theorem ze {prog:Program} {w:World} {A:Around} {E:Value->Shared->Prop} {s:Shared} {env:Env} {value slice:Expr} {pos:Pos} {T id:String} {Q:Value->Shared->Prop}
 (hl:typeLookup (.type T) "__getitem__" = pure (some (.builtin id))) (hs:DP slice)
 (h:wpAny (model prog w) A (eval value env) (fun o s₁=>wpAny (model prog w) A (eval slice env) (fun i s₂=>s₂.TypeIs o T/\wpAny (model prog w) A (getItem o i) Q E s₂) E s₁) E s) :
 wpAny (model prog w) A (eval (.Subscript value slice pos) env) Q E s:=by
 refine Subscript_ (wpAny_mono h (fun o s₁ h₁=>wpAny_mono h₁ (fun i s₂ h₂=>?_) fun _ _ x=>x) fun _ _ x=>x)
 obtain ⟨hT,h₂⟩:=h₂
 unfold subscriptTail
 refine wpAny_bind ?_
 rw [getitemInPython_of_ne hT.not_modules]
 refine wpAny_bind (wpAny_specialOf hT hl ?_)
 have fin:wpAny (model prog w) A (subscripted slice false o i) (fun r s₃=>wpAny (model prog w) A (letTemporaryGo value o r>>=fun _=>pure r) Q E s₃) E s₂:=by
  rw [hs o i]
  exact wpAny_operating (wpAny_mono h₂ (fun r s₃ h₃=>wpAny_bind (wpAny_letTemporaryGo (wpAny_pure h₃))) fun _ _ x=>x)
 first
  | exact wpAny_pure (wpAny_bind fin)
  | exact wpAny_bind (wpAny_pure (wpAny_bind fin))
  | exact wpAny_bind fin
theorem p6 {X:Cx} {pins:List (Addr×Obj)} {σ:St} {H:Hp} {s:Shared} {a:Addr} {y:V} {o:Option V} (I:Inv X pins σ H s) (g:o5 H a y o):s.TypeIs (.ref a) "dict":=by
 rcases g with ⟨kvs,k,e,_,_⟩ | ⟨kvs,k,b,e,_,_,_⟩
 ·obtain ⟨_,_,vs,_,dd⟩:=ny I.hok e
  exact dd.typeIs
 ·obtain ⟨_,_,xs,_,dd⟩:=pq I.hok e
  exact dd.typeIs
noncomputable def yq (td ty:TE):TE:=fun σ H Q=>td σ H fun x H1=>ty σ H1 fun y H2=>∃ a v,x=.ref a/\o5 H2 a y (some v)/\Q v H2
noncomputable def ut (ty td:TE):TE:=fun σ H Q=>ty σ H fun y H1=>td σ H1 fun x H2=>∃ a o,x=.ref a/\o5 H2 a y o/\Q (.bl (!o.isSome)) H2
noncomputable def wB (td ty tv:TE):TS:=fun D σ H=>tv σ H fun v H1=>td σ H1 fun x H2=>ty σ H2 fun y H3=>∃ a H4,x=.ref a/\yT H3 a y v H4/\D.nx σ H4
section
variable {X:Cx} {o i e value:Expr} {pos pos' tpos:Pos} {td ty tv:TE}
theorem ui (hu:X.A.units+1<cLine) (ho:PE X o td) (hi:PE X i ty) (hs:DP i):PE X (.Subscript o i pos) (yq td ty):=by
 intro pins s σ H Q I h
 refine ze PySem.F.slot_dict_getitem.lookup hs (thn (ho pins s σ H _ I h) fun u s1 ⟨x,H1,I1,rx,q1⟩=>thn (hi pins s1 σ H1 _ I1 q1) fun iv s2 ⟨y,H2,I2,ry,a,v,ex,g,q2⟩=>?_)
 subst ex
 obtain rfl:u=Value.ref a:=rx
 exact ⟨p6 I2 g,u9 hu I2 g ry fun w' s3 I3 rw'=>⟨v,H2,I3,rw',q2⟩⟩
theorem sI (hu:X.A.units+1<cLine) (hi:PE X i ty) (ho:PE X o td):PC X .NotIn i o (ut ty td):=by
 intro pins s σ H Q I h
 refine thn (hi pins s σ H _ I h) fun iv s1 ⟨y,H1,I1,ry,q1⟩=>thn (ho pins s1 σ H1 _ I1 q1) fun u s2 ⟨x,H2,I2,rx,a,ov,ex,g,q2⟩=>?_
 subst ex
 obtain rfl:u=Value.ref a:=rx
 exact uK hu I2 g ry fun s3 I3=>⟨.bl (!ov.isSome),H2,I3,rfl,q2⟩
theorem pA (hu:X.A.units+1<cLine) (ho:PE X o td) (hi:PE X i ty) (hv:PE X value tv) (hs:swapsWith value (some (.Subscript o i pos')) pos.line X.env=pure false) :
 PS X (.Assign [.Subscript o i pos'] value pos) (wB td ty tv):=by
 intro pins s σ H D I h
 refine wpAny_Assign_Subscript (thn (hv pins s σ H _ I h) fun r s1 ⟨v,H1,I1,rv,q1⟩=>thn (ho pins s1 σ H1 _ I1 q1) fun u s2 ⟨x,H2,I2,rx,q2⟩=>thn (hi pins s2 σ H2 _ I2 q2) fun iv s3 ⟨y,H3,I3,ry,a,H4,ex,g,q3⟩=>?_) hs
 subst ex
 obtain rfl:u=Value.ref a:=rx
 exact uu hu I3 g ry rv fun s4 I4=>⟨σ,H4,I4,q3⟩
end
theorem vX {P:Program} {w:World} {H:Hp} (h:Heap) (hb:sysModules<h.objs.size):eG P w H (h.push { cls:=.type "dict",data:=.dict #[] }) h.objs.size (.dK []) :=
 ⟨aU _,beq_eq_false_iff_ne.mpr (Ne.symm (aL hb)),[],.nil,Heap.DictOf.new h⟩
theorem vN {P:Program} {w:World} {H:Hp} (h:Heap) (hb:sysModules<h.objs.size):eG P w H (h.push { cls:=.type "dict",data:=.dict #[] }) h.objs.size (.dT []) :=
 ⟨aU _,beq_eq_false_iff_ne.mpr (Ne.symm (aL hb)),[],.nil,_,#[],0,aj _ rfl,⟨rfl,rfl,rfl⟩,rfl,rfl,jw⟩
noncomputable def sH:TE:=fun _ H Q=>∀ p,H p=none->Q (.ref p) (upd H p (.dK []))
noncomputable def CL:TE:=fun _ H Q=>∀ p,H p=none->Q (.ref p) (upd H p (.dT []))
section
variable {X:Cx} {pos:Pos}
theorem lO:PE X (.Dict [] [] pos) sH:=fun pins s σ H Q I h =>
 wpAny_Dict_empty ⟨.ref s.heap.objs.size,_,I.laid (a:=s.heap.objs.size) (o:=.dK []) (t':=s.toks) (fun _ _ q=>aa _ q) (ag _) (vX s.heap I.big),rfl,h _ (I.hok.fresh (ag _))⟩
theorem wj:PE X (.Dict [] [] pos) CL:=fun pins s σ H Q I h =>
 wpAny_Dict_empty ⟨.ref s.heap.objs.size,_,I.laid (a:=s.heap.objs.size) (o:=.dT []) (t':=s.toks) (fun _ _ q=>aa _ q) (ag _) (vN s.heap I.big),rfl,h _ (I.hok.fresh (ag _))⟩
end
noncomputable def lh (kvs more:List (Key×V)):List (Key×V):=more.foldl (fun acc kv=>ir acc kv.1 kv.2) kvs
theorem KV.merge:∀ {more:List (Key×V)} {rs:List (Key×Value)} {kvs:List (Key×V)} {vs:List (Key×Value)},KV more rs->KV kvs vs->KV (lh kvs more) (merged vs rs):=by
 intro more rs kvs vs r
 unfold KV at r
 induction r generalizing kvs vs with
 | nil=>intro q;exact q
 | @cons p q ps qs h t ih =>
   intro r0
   have e:KV (ir kvs p.1 p.2) (stored vs q.1 q.2):=by
    have:=r0.put p.1 h.2
    rw [<- h.1];exact this
   exact ih e
theorem iL:∀ (more kvs:List (Key×V)),(lh kvs more).length<=kvs.length+more.length
 | [],kvs=>by show kvs.length<=kvs.length+0;lia
 | p::r,kvs=>by
   have h1:=iL r (ir kvs p.1 p.2)
   have h2:=ii kvs p.1 p.2
   show (lh (ir kvs p.1 p.2) r).length<=_
   rw [aA];lia
structure M2 (X:Cx) (o:Expr) (m:Str) (apos:Pos) (e f:Expr) (cpos:Pos):Prop where
 base:attributeBase o m X.env (eval o X.env)=eval o X.env
 few:((backTo cpos (starEach [e,f] X.env)).all (fun x=>!x.1)&&(backToKw cpos (keywordEach [] X.env)).all (fun x=>x.1.isSome)
  && decide (([e,f]:List Expr).length+([]:List Keyword).length+(if ([]:List Keyword).isEmpty then 0 else 1)<30))=true
 line:(apos.endLine == cpos.line)=true
 trees:backTo cpos (starEach [e,f] X.env)=[(false,eval e X.env),(false,eval f X.env)]
noncomputable def IsD (H:Hp) (a:Addr):Prop:=(∃ kvs,Rd H a (.dK kvs))\/∃ kvs,Rd H a (.dT kvs)
theorem Cc {X:Cx} {pins:List (Addr×Obj)} {σ:St} {H:Hp} {s:Shared} {a:Addr} (I:Inv X pins σ H s) (d:IsD H a) :
 s.TypeIs (.ref a) "dict"/\(∀ b,Value.ref a=.ref b->∃ ob,s.heap.get? b=some ob/\ob.dict=none)/\(a == sysModules)=false:=by
 rcases d with ⟨kvs,e⟩ | ⟨kvs,e⟩
 ·obtain ⟨_,hd,vs,_,dd⟩:=ny I.hok e
  refine ⟨dd.typeIs,fun b q=>?_,hd⟩
  cases q
  obtain ⟨ob,_,_,h1,h2,_⟩:=dd
  exact ⟨ob,h1,h2.2.1⟩
 ·obtain ⟨_,hd,xs,_,dd⟩:=pq I.hok e
  refine ⟨dd.typeIs,fun b q=>?_,hd⟩
  cases q
  obtain ⟨ob,_,_,h1,h2,_⟩:=dd
  exact ⟨ob,h1,h2.2.1⟩
section
variable {X:Cx} {pins:List (Addr×Obj)} {σ:St} {H:Hp} {s:Shared} {a:Addr} {y d:V} {u r:Value} {o:Option V} {A:Around} {E:Value->Shared->Prop}
theorem Ck {Q:Value->Shared->Prop} (hu:A.units+1<cLine) (I:Inv X pins σ H s) (g:o5 H a y o) (ry:dH y u) (rd:dH d r) (h:∀ w' s',Inv X pins σ H s'->dH (o.getD d) w'->Q w' s') :
 wpAny (model X.prog X.w) A (call (.builtin "dict.get") [.ref a,u,r]) Q E s:=by
 rcases g with ⟨kvs,k,e,ey,l⟩ | ⟨kvs,k,b,e,ey,eb,l⟩
 ·subst ey
  obtain ⟨z,hd,vs,rel,dd⟩:=ny I.hok e
  refine call_meetsIn PySem.F.slot_dict_get dd.typeIs PySem.F.entry_dict_get (PySem.F.args_dict_get_3 _ _ _) (meets_dict_get_default (cr X.prog X.w) a (rB ry) hd r) ⟨_,dd.mapOf,h _ _ (I.tok _) ?_⟩
  rw [l]
  exact (rel.val k).getD rd
 ·subst ey
  cases (show u=Value.ref b from ry)
  obtain ⟨z,hd,xs,rel,dd⟩:=pq I.hok e
  refine call_meetsIn PySem.F.slot_dict_get dd.typeIs PySem.F.entry_dict_get (PySem.F.args_dict_get_3 _ _ _) (meetsH_dict_get_default (tupleKind (cr X.prog X.w)) a b hd r) ⟨tupleKind_room_in1 hu,k,xs,je I.hok eb,dd,h _ _ (I.tok _) ?_⟩
  rw [l]
  exact (rel.val k).getD rd
end
noncomputable def AW (td ty tx:TE):TE:=fun σ H Q=>td σ H fun x H1=>∃ a,x=.ref a/\IsD H1 a/\ty σ H1 fun y H2=>tx σ H2 fun z H3=>∃ o,o5 H3 a y o/\Q (o.getD z) H3
section
variable {X:Cx} {o e f:Expr} {apos cpos:Pos} {td ty tx:TE}
theorem vH (hu:X.A.units+1<cLine) (ho:PE X o td) (he:PE X e ty) (hf:PE X f tx) (m:M2 X o "get" apos e f cpos):PE X (.Call (.Attribute o "get" apos) [e,f] [] cpos) (AW td ty tx):=by
 intro pins s σ H Q I h
 refine wpAny_Call_method m.base m.few m.line PySem.F.plainAttrs_dict PySem.F.slot_dict_get PySem.F.type_dict_get (thn (ho pins s σ H _ I h) fun u s1 ⟨x,H1,I1,rx,a,ex,d,q1⟩=>?_)
 subst ex
 obtain rfl:u=Value.ref a:=rx
 obtain ⟨t1,t2,_⟩:=Cc I1 d
 refine ⟨t1,t2,?_⟩
 rw [m.trees]
 refine Calls.callWith_builtin rfl (Calls.evalArgs_plain (Calls.spliced_cons (thn (he pins s1 σ H1 _ I1 q1) fun iv s2 ⟨y,H2,I2,ry,q2⟩ =>
  Calls.spliced_cons (thn (hf pins s2 σ H2 _ I2 q2) fun fv s3 ⟨z,H3,I3,rz,ov,g,q3⟩=>Calls.spliced_nil ?_))))
 exact Ck hu I3 g ry rz fun w' s4 I4 rw'=>⟨_,H3,I4,rw',q3⟩
end
section
variable {X:Cx} {pins:List (Addr×Obj)} {σ:St} {H:Hp} {s:Shared} {a:Addr} {kvs:List (Key×V)} {A:Around} {E:Value->Shared->Prop}
end
section
variable {X:Cx} {pins:List (Addr×Obj)} {σ:St} {H:Hp} {s:Shared} {a:Addr} {y:V} {u:Value} {A:Around} {E:Value->Shared->Prop}
end
end L2
namespace HT
open PySem PyProof.Rows
noncomputable def lexLt:List Int->List Int->Bool
 | [],[]=>false
 | [],_::_=>true
 | _::_,[]=>false
 | x::xs,y::ys=>if x=y then lexLt xs ys else decide (x<y)
theorem lexLt_cons (x y:Int) (xs ys:List Int):lexLt (x::xs) (y::ys)=if x=y then lexLt xs ys else decide (x<y):=rfl
theorem mi:lexLt [] []=false:=rfl
theorem kD (y:Int) (ys:List Int):lexLt [] (y::ys)=true:=rfl
theorem kG (x:Int) (xs:List Int):lexLt (x::xs) []=false:=rfl
theorem wC (A:Around) (s:Shared) (a:Int) (t:Tok) (c:Int) (u:Tok):∃ e,SeqAt.EqAt A s (.int a t) (.int c u) e/\(e=true↔a=c) :=
 ⟨(a == c),SeqAt.EqAt.int_int a t c u,by simp⟩
theorem wq (A:Around) (s:Shared) (a:Int) (t:Tok) (c:Int) (u:Tok) (prog:Program) (w:World) (E:Value->Shared->Prop) (Q:Value->Shared->Prop) (h:Q (.bool (decide (a<c))) s) :
 wpAny (model prog w) A (richCompare .Lt (.int a t) (.int c u)) Q E s :=
 (PyProof.Rows.lt_int h:wpAny (model prog w) A (compareOp .Lt (.int a t) (.int c u)) Q E s)
section
open PySem.SeqAt
open PySem.AutoSeq1 (wpAny_loadPart')
open PySem.MeetsSeq PySem.MeetsSeq2 PySem.MeetsSeq3
theorem mO (l b:Addr) (items items2:Array Value) (n n2:Nat) (dd dd2:Option Addr) (sl sl2:Array (Option Value)) (ns ms:List Int) (hi:IntsAre items.toList ns) (hj:IntsAre items2.toList ms) :
 Meets (Builtin.«tuple.__lt__» ⟨[.ref l,.ref b],[]⟩)
  (fun _ R s=>s.heap.get? l=some { cls:=.type "tuple",dict:=dd,data:=.seq items n,slots:=sl }/\s.heap.get? b=some { cls:=.type "tuple",dict:=dd2,data:=.seq items2 n2,slots:=sl2 } /\
    R (.ok (.ret (.bool (lexLt ns ms)))) s) :=
 .of_wp fun prog w A R s h=>by
  obtain ⟨hp,g,d,tk,os⟩:=s;obtain ⟨hl,hb,h⟩:=h
  have f2:=AutoSeq1.sub_tuple_tuple
  have z1:items.size=ns.length:=by rw [<- hi.length];simp
  have z2:items2.size=ms.length:=by rw [<- hj.length];simp
  wp_walk using wpAny_loadPart' hl,wpAny_loadPart' hb,wpAny_forIn_list _ (fun rest b s'=>b.1=none/\s'=⟨hp,g,d,tk,os⟩/\∃ (vs ws:List Value) (ns' ms':List Int),rest=vs.zip ws /\
   IntsAre vs ns'/\IntsAre ws ms'/\ns'.length+items2.size=ms'.length+items.size/\R (.ok (.ret (.bool (lexLt ns' ms')))) ⟨hp,g,d,tk,os⟩) _
  case turn =>
   rintro ⟨y,x⟩ rest b s' ⟨hb',rfl,vs,ws,ns',ms',hz,hvi,hwi,hlen,hR⟩
   cases hvi with
   | nil=>rw [List.zip_nil_left] at hz;cases hz
   | cons a t hvi' =>
     cases hwi with
     | nil=>rw [Ap] at hz;cases hz
     | cons c u hwi' =>
       rw [kn] at hz
       injection hz with hyx hrest
       injection hyx with hy hx
       subst hy hx
       rw [lexLt_cons] at hR
       simp only [aA] at hlen
       obtain ⟨e,he,hiff⟩:=wC A.in1 ⟨hp,g,d,tk,os⟩ a t c u
       refine wpAny_bind (he prog w _ _ ?_)
       cases e with
       | true =>
         rw [if_pos (hiff.mp rfl)] at hR
         wp_walk
         exact ⟨rfl,rfl,_,_,_,_,hrest,hvi',hwi',by lia,hR⟩
       | false =>
         rw [if_neg (fun q=>absurd (hiff.mpr q) am)] at hR
         have hri:=wq A.in1 ⟨hp,g,d,tk,os⟩ a t c u prog w
         wp_walk using hri
         exact ⟨_,rfl,by simpa using hR⟩
  case fin =>
   rintro ⟨b1,b2⟩ s' ⟨hb',rfl,vs,ws,ns',ms',hz,hvi,hwi,hlen,hR⟩
   simp only at hb'
   subst hb'
   have hv:lexLt ns' ms'=decide (items.size<items2.size):=by
    cases hvi with
    | nil =>
      cases hwi with
      | nil =>
        simp only [cT] at hlen
        rw [mi]
        exact (decide_eq_false (by lia)).symm
      | cons c u hw =>
        simp only [cT,aA] at hlen
        rw [kD]
        exact (decide_eq_true (by lia)).symm
    | cons a t hv =>
      cases hwi with
      | nil =>
        simp only [cT,aA] at hlen
        rw [kG]
        exact (decide_eq_false (by lia)).symm
      | cons c u hw =>
        rw [kn] at hz
        cases hz
   rw [hv] at hR
   wp_walk
   exact ⟨_,rfl,by simpa [Builtin.Tuple.tupleCompareSizes] using hR⟩
  case h =>
   exact ⟨rfl,rfl,items.toList,items2.toList,ns,ms,rfl,hi,hj,by lia,h⟩
end
section
variable {prog:Program} {w:World} {A:Around} {E:Value->Shared->Prop} {s:Shared}
theorem lt_tupInts {l b:Addr} {items items2:Array Value} {ns ms:List Int} {Q:Value->Shared->Prop} (hl:IsTup s.heap l items) (hb:IsTup s.heap b items2) (hi:IntsAre items.toList ns) (hj:IntsAre items2.toList ms)
 (hu:A.units<cLine) (h:Q (.bool (lexLt ns ms)) s):wpAny (model prog w) A (compareOp .Lt (.ref l) (.ref b)) Q E s:=by
 obtain ⟨⟨cls,dd,data,sl⟩,ho,hc,n,hd⟩:=id hl
 obtain ⟨⟨cls2,dd2,data2,sl2⟩,ho2,hc2,n2,hd2⟩:=id hb
 simp only at hc hd hc2 hd2
 subst hc hd hc2 hd2
 exact richCompare_meets_room (op:=.Lt) ⟨_,ho,rfl⟩ ⟨_,ho2,rfl⟩ PySem.F.slot_tuple_lt PySem.F.entry_tuple_lt (PySem.F.args_tuple_lt_2 _ _) (mO l b items items2 n n2 dd dd2 sl sl2 ns ms hi hj)
  ⟨ho,ho2,show Value.bool (lexLt ns ms)≠Value.notImplemented/\Q (.bool (lexLt ns ms)) s from ⟨(fun x=>nomatch x),h⟩⟩ hu
theorem cat_tup {t b:Addr} {vs ws:List Value} {Q:Value->Shared->Prop} (ht:IsTup s.heap t vs.toArray) (hb:IsTup s.heap b ws.toArray) (hv:vs≠[])
 (h1:ws=[]->Q (.ref t) s) (h2:ws≠[]->Q (.ref s.heap.objs.size) { s with heap:=s.heap.push { cls:=.type "tuple",data:=.seq (vs++ws).toArray } })
 (hsz:vs.length+ws.length<=sizeLine):wpAny (model prog w) A (binaryOp .Add (.ref t) (.ref b)) Q E s:=by
 obtain ⟨⟨cls,dd,data,sl⟩,ho,hc,n,hd⟩:=id ht
 obtain ⟨⟨cls2,dd2,data2,sl2⟩,ho2,hc2,n2,hd2⟩:=id hb
 simp only at hc hd hc2 hd2
 subst hc hd hc2 hd2
 have e:vs.toArray++ws.toArray=(vs++ws).toArray:=by simp
 by_cases hw:ws=[]
 ·exact concat_meets ⟨_,ho,rfl⟩ ⟨_,ho2,rfl⟩ noFill_tuple_add seq_tuple_add PySem.F.slot_tuple_add PySem.F.entry_tuple_add (PySem.F.args_tuple_add_2 _ _)
   (tuple_addW1 t b vs.toArray ws.toArray n n2 dd dd2 sl sl2 (by simpa using hv) (by simp [hw])) ⟨ho,ho2,h1 hw⟩
 ·refine concat_meets ⟨_,ho,rfl⟩ ⟨_,ho2,rfl⟩ noFill_tuple_add seq_tuple_add PySem.F.slot_tuple_add PySem.F.entry_tuple_add (PySem.F.args_tuple_add_2 _ _)
   (tuple_addW2 t b vs.toArray ws.toArray n n2 dd dd2 sl sl2 (by simpa using hv) (by simpa using hw) (by rw [ao,ao];exact hsz)) ⟨ho,ho2,?_⟩
  rw [e]
  exact h2 hw
noncomputable def sIx (n d:Nat):Option Int->Nat
 | none=>d
 | some v=>if v<0 then (v+(n:Int)).toNat else min v.toNat n
theorem sIx_none (n d:Nat):sIx n d none=d:=rfl
theorem sIx_nat (n d k:Nat):sIx n d (some (k:Int))=min k n:=by
 show (if (k:Int)<0 then ((k:Int)+(n:Int)).toNat else min (k:Int).toNat n)=min k n
 rw [if_neg (by lia),bg]
theorem Bt (n d:Nat) (hd:d<=n) (o:Option Int):sIx n d o<=n:=by
 cases o with
 | none=>exact hd
 | some v =>
   show (if v<0 then (v+(n:Int)).toNat else min v.toNat n)<=n
   by_cases hv:v<0
   ·rw [if_pos hv];lia
   ·rw [if_neg hv];exact Nat.min_le_right _ _
theorem tF (v:Int) (n d:Nat):(if v<0 then max (v+(n:Int)) 0 else min v (n:Int))=((sIx n d (some v):Nat):Int):=by
 show (if v<0 then max (v+(n:Int)) 0 else min v (n:Int))=(((if v<0 then (v+(n:Int)).toNat else min v.toNat n):Nat):Int)
 by_cases hv:v<0
 ·simp only [if_pos hv];lia
 ·simp only [if_neg hv];lia
theorem qW (lo hi:Option Int) (n:Nat):Builtin.Slice.sliceAdjust lo hi 1 (n:Int)=(((sIx n 0 lo:Nat):Int),((sIx n n hi:Nat):Int)):=by
 have h1:¬ ((1:Int)<0):=by lia
 unfold Builtin.Slice.sliceAdjust
 simp only [h1,if_false]
 refine Prod.ext ?_ ?_
 ·cases lo with
  | none=>rfl
  | some v=>exact tF v n 0
 ·cases hi with
  | none=>rfl
  | some v=>exact tF v n n
theorem rj (i j:Nat):Builtin.Slice.slicePlaces (i:Int) (j:Int) 1=j-i:=by
 unfold Builtin.Slice.slicePlaces
 have h1:(1:Int) > 0:=by lia
 simp only [h1,if_true,Int.ediv_one]
 split<;>lia
theorem kM {v:Value} {o:Option Int} {Q:Option Int->Shared->Prop} (p:IsPart v o) (h:Q o s):wpAny (model prog w) A (Builtin.Slice.slicePartIndex v) Q E s:=by
 cases p with
 | none=>exact slicePart_none h
 | int i t=>exact slicePart_int h
theorem sliceApplied_gen {sl:Addr} {vl vu:Value} {lo hi:Option Int} {n:Nat} {Q:Int×Int×Nat->Shared->Prop} (hs:s.heap.IsSliceOf sl vl vu .none) (pl:IsPart vl lo) (pu:IsPart vu hi)
 (h:Q (((sIx n 0 lo:Nat):Int),1,sIx n n hi-sIx n 0 lo) s):wpAny (model prog w) A (Builtin.Slice.sliceApplied (.ref sl) (pure (n:Int))) Q E s:=by
 obtain ⟨os,hos,hcs,hds⟩:=id hs
 unfold Builtin.Slice.sliceApplied Builtin.Slice.sliceFields
 refine wpAny_bind (wpAny_bind (wpAny_field hos hds (x:=vl) rfl (wpAny_bind (wpAny_field hos hds (x:=vu) rfl (wpAny_bind (wpAny_field hos hds (x:=.none) rfl (wpAny_pure ?_)))))))
 refine wpAny_bind (slicePart_none ?_)
 show wpAny _ _ (if ((1:Int) == 0)=true then _ else _) _ _ s
 rw [if_neg (by decide)]
 refine wpAny_bind (kM pl (wpAny_bind (kM pu (wpAny_bind (wpAny_pure ?_)))))
 show wpAny _ _ (match Builtin.Slice.sliceAdjust lo hi 1 (n:Int) with | (lo,hi)=>pure (lo,(1:Int),Builtin.Slice.slicePlaces lo hi 1)) _ _ s
 rw [qW lo hi n]
 show wpAny _ _ (pure (((sIx n 0 lo:Nat):Int),(1:Int),Builtin.Slice.slicePlaces ((sIx n 0 lo:Nat):Int) ((sIx n n hi:Nat):Int) 1)) _ _ s
 rw [rj]
 exact wpAny_pure h
theorem xa (xs:Array Value) (i k:Nat):((bp k).filterMap fun (m:Nat)=>xs[((i:Int)+(m:Int)*1).toNat]?).toArray=((xs.toList.drop i).take k).toArray:=by
 have e:(fun (m:Nat)=>xs[((i:Int)+(m:Int)*1).toNat]?)=fun m=>xs[i+m]?:=by
  funext m
  have:((i:Int)+(m:Int)*1).toNat=i+m:=by lia
  rw [this]
 rw [e]
 have:=pick_run xs i k
 rw [List.filterMap_map] at this
 have e2:((fun x=>xs[x]?)∘fun x=>i+x)=fun m=>xs[i+m]?:=rfl
 rw [e2] at this
 rw [this]
theorem getItem_tuple_cut {t sl:Addr} {items:Array Value} {vl vu:Value} {lo hi:Option Int} {Q:Value->Shared->Prop} (ht:IsTup s.heap t items) (hs:s.heap.IsSliceOf sl vl vu .none) (pl:IsPart vl lo) (pu:IsPart vu hi)
 (hw:¬ (sIx items.size 0 lo=0/\sIx items.size items.size hi=items.size))
 (h:Q (.ref s.heap.objs.size) { s with heap:=s.heap.push { cls:=.type "tuple",data:=.seq ((items.toList.drop (sIx items.size 0 lo)).take (sIx items.size items.size hi-sIx items.size 0 lo)).toArray } })
 (hsz:items.size<=sizeLine):wpAny (model prog w) A (getItem (.ref t) (.ref sl)) Q E s:=by
 have htake:sizeOk (.seq ((items.toList.drop (sIx items.size 0 lo)).take (sIx items.size items.size hi-sIx items.size 0 lo)).toArray):=by
  show ((items.toList.drop (sIx items.size 0 lo)).take (sIx items.size items.size hi-sIx items.size 0 lo)).toArray.size<=sizeLine
  rw [ao,bu,ck,aF]
  lia
 have hj:sIx items.size items.size hi<=items.size:=Bt _ _ (ag _) hi
 obtain ⟨os,hos,hcs,hds⟩:=id hs
 have hTs:s.TypeIs (.ref sl) "slice":=⟨os,hos,hcs⟩
 unfold getItem
 try with_reducible refine wpAny_holding ?_
 first | refine wpAny_bind (wpAny_pure ?_) | skip
 refine wpAny_bind (wpAny_sequenceKey ht.typeIs (by decide) ?_)
 refine wpAny_bind (wpAny_callSpecial?_slot (name:=Str.ofString "__getitem__") ht.typeIs PyProof.Rows.slot_tuple_getitem
  (wpAny_call_entry PyProof.Rows.slot_tuple_getitem ht.typeIs entry_tuple_getitem ?_ (args_tuple_getitem _ _)))
 show wpAny _ _ (Builtin.Tuple.tupleItemsOf (.ref t)>>=_) _ _ s
 refine wpAny_bind (tupleItemsOf_ ht ?_)
 refine wpAny_bind (wpAny_typeOf hTs ?_)
 rw [if_pos (by decide)]
 refine wpAny_bind (sliceApplied_gen hs pl pu ?_)
 have hno:¬ ((((sIx items.size 0 lo:Nat):Int) == 0&&(1:Int) == 1&&(sIx items.size items.size hi-sIx items.size 0 lo) == items.size)=true):=by
  intro q
  rw [aD,aD] at q
  have q1:((sIx items.size 0 lo:Nat):Int)=0:=eq_of_beq q.1.1
  have q2:sIx items.size items.size hi-sIx items.size 0 lo=items.size:=eq_of_beq q.2
  exact hw ⟨by lia,by lia⟩
 show wpAny _ _ (if (((sIx items.size 0 lo:Nat):Int) == 0&&(1:Int) == 1&&(sIx items.size items.size hi-sIx items.size 0 lo) == items.size)=true then _ else _) _ _ s
 rw [if_neg hno,xa]
 first
  | exact wpAny_bind (m:=Builtin.Tuple.tupleExact _) (wpAny_newObj_type (wpAny_pure ⟨_,rfl,wpAny_pure h⟩) htake)
  | exact wpAny_bind (m:=Builtin.Tuple.tupleExact _) (wpAny_newObj_type (wpAny_bind (wpAny_pure (wpAny_pure ⟨_,rfl,wpAny_pure h⟩))) htake)
  | exact wpAny_bind (wpAny_bind (m:=Builtin.Tuple.tupleExact _) (wpAny_newObj_type (wpAny_pure (wpAny_pure ⟨_,rfl,wpAny_pure h⟩)) htake))
  | exact wpAny_bind (wpAny_bind (m:=Builtin.Tuple.tupleExact _) (wpAny_newObj_type (wpAny_pure ⟨_,rfl,wpAny_pure h⟩) htake))
end
end HT
namespace L2
open PySem PySem.Spec PyProof.Rows
noncomputable abbrev TO:=St->Hp->(Option Int->Hp->Prop)->Prop
noncomputable def PO (X:Cx) (e:Option Expr) (t:TO):Prop :=
 ∀ (pins:List (Addr×Obj)) (s:Shared) (σ:St) (H:Hp) (Q:Option Int->Hp->Prop),Inv X pins σ H s->t σ H Q ->
   wpAny (model X.prog X.w) X.A (evalPart e X.env) (fun u s'=>∃ o H',Inv X pins σ H' s'/\IsPart u o/\Q o H') X.xe s
noncomputable def zl:TO:=fun _ H Q=>Q none H
noncomputable def DV (t:TE):TO:=fun σ H Q=>t σ H fun x H1=>∃ i,x=.int i/\Q (some i) H1
theorem i6 {ns:List Int}:∀ {us:List Value},cq (ns.map V.int) us->IntsAre us ns:=by
 induction ns with
 | nil=>intro us r;rw [gB] at r;cases r;exact .nil
 | cons n ns ih =>
   intro us r
   rw [aC] at r
   cases r with
   | cons r1 r2 =>
     obtain ⟨t,e⟩:=r1
     subst e
     exact .cons n t (ih r2)
section
variable {X:Cx} {e:Expr} {te:TE} {lo hi:Option Expr} {tl th:TO} {pos p2:Pos}
theorem yD:PO X none zl:=by
 intro pins s σ H Q I h
 rw [evalPart_none]
 exact wpAny_pure ⟨none,H,I,.none,h⟩
theorem yH (h:PE X e te):PO X (some e) (DV te):=by
 intro pins s σ H Q I hw
 rw [evalPart_some]
 refine thn (h pins s σ H _ I hw) fun u s1 ⟨x,H1,I1,r1,q1⟩=>?_
 obtain ⟨i,rfl,q⟩:=q1
 obtain ⟨t,rfl⟩:=r1
 exact ⟨some i,H1,I1,.int i t,q⟩
noncomputable def SlR (X:Cx) (r:V->Option Int->Option Int->Hp->VK->Prop):Prop :=
 ∀ (pins:List (Addr×Obj)) (s:Shared) (σ:St) (H:Hp) (x:V) (v vl vu:Value) (lo hi:Option Int) (sl:Addr) (Q:VK),Inv X pins σ H s->dH x v->s.heap.IsSliceOf sl vl vu .none->IsPart vl lo->IsPart vu hi->r x lo hi H Q ->
   ∃ T id,typeLookup (.type T) "__getitem__" = pure (some (.builtin id))/\s.TypeIs v T/\wpAny (model X.prog X.w) X.A (getItem v (.ref sl)) (EP X pins σ Q) X.xe s
theorem SlR.or {r r':V->Option Int->Option Int->Hp->VK->Prop} (h:SlR X r) (h':SlR X r'):SlR X (fun x lo hi H Q=>r x lo hi H Q\/r' x lo hi H Q):=by
 intro pins s σ H x v vl vu lo hi sl Q I rx hs pl pu q
 rcases q with q | q
 ·exact h pins s σ H x v vl vu lo hi sl Q I rx hs pl pu q
 ·exact h' pins s σ H x v vl vu lo hi sl Q I rx hs pl pu q
noncomputable def tSl (r:V->Option Int->Option Int->Hp->VK->Prop) (te:TE) (tl th:TO):TE:=fun σ H Q=>te σ H fun x H1=>tl σ H1 fun l H2=>th σ H2 fun u H3=>r x l u H3 Q
theorem wK {r:V->Option Int->Option Int->Hp->VK->Prop} (hr:SlR X r) (he:PE X e te) (hl:PO X lo tl) (hu:PO X hi th):PE X (.Subscript e (.Slice lo hi none p2) pos) (tSl r te tl th):=by
 intro pins s σ H Q I h
 refine Subscript_ (thn (he pins s σ H _ I h) fun v s1 ⟨x,H1,I1,r1,q1⟩=>?_)
 refine wpAny_Slice (thn (hl pins s1 σ H1 _ I1 q1) fun vl s2 ⟨l,H2,I2,pl,q2⟩=>thn (hu pins s2 σ H2 _ I2 q2) fun vu s3 ⟨u,H3,I3,pu,q3⟩=>?_)
 rw [evalPart_none]
 refine wpAny_pure ?_
 have I4:Inv X pins σ H3 { s3 with heap:=s3.heap.push { cls:=.type "slice",data:=.fields #[vl,vu,.none] } }:=I3.kept (t':=s3.toks) fun b ob q=>aa _ q
 obtain ⟨T,id,hT,ht,hg⟩:=hr pins { s3 with heap:=s3.heap.push { cls:=.type "slice",data:=.fields #[vl,vu,.none] } } σ H3 x v vl vu l u s3.heap.objs.size Q I4 r1 (Heap.IsSliceOf.new ..) pl pu q3
 show wpAny (model X.prog X.w) X.A (subscriptTail e (.Slice lo hi none p2) v (.ref s3.heap.objs.size)) (EP X pins σ Q) X.xe { s3 with heap:=s3.heap.push { cls:=.type "slice",data:=.fields #[vl,vu,.none] } }
 exact tail_any (ops:=[.ref s3.heap.objs.size,v]) ht hT hg (by with_unfolding_all rfl)
noncomputable def xU (xs:List V) (lo hi:Option Int):List V:=(xs.drop (HT.sIx xs.length 0 lo)).take (HT.sIx xs.length xs.length hi-HT.sIx xs.length 0 lo)
theorem kc (xs:List V) (lo hi:Option Int):(xU xs lo hi).length<=xs.length:=by
 unfold xU
 rw [bu,ck]
 lia
noncomputable def EO (K:PySem.W.Frag):V->Option Int->Option Int->Hp->VK->Prop:=fun x lo hi H Q=>∃ a xs,x=.ref a/\SqT K H a xs /\
 ¬ (HT.sIx xs.length 0 lo=0/\HT.sIx xs.length xs.length hi=xs.length)/\∀ p,H p=none->Q (.ref p) (upd H p (.tup (xU xs lo hi)))
theorem A8:SlR X (EO X.K):=by
 intro pins s σ H x v vl vu lo hi sl Q I rx hs pl pu h
 obtain ⟨a,xs,rfl,hx,hw,q⟩:=h
 cases rx
 obtain ⟨its,r,ht,hz⟩:=I.tuple hx
 have hlen:its.toArray.size=xs.length:=by rw [ao];exact r.length.symm
 refine ⟨"tuple",_,PyProof.Rows.slot_tuple_getitem.lookup,ht.typeIs,?_⟩
 refine HT.getItem_tuple_cut ht hs pl pu (by rw [hlen];exact hw) ?_ (by rw [hlen];exact hz)
 rw [hlen]
 refine ⟨.ref s.heap.objs.size,_,I.laid (t':=s.toks) (o:=.tup (xU xs lo hi)) (fun b ob q=>aa _ q) (ag _) ?_,rfl,q _ (I.hok.fresh (ag _))⟩
 exact ⟨⟨bR (kc xs lo hi) hz,jg.new _ _⟩,_,(r.drop (HT.sIx xs.length 0 lo)).take (HT.sIx xs.length xs.length hi-HT.sIx xs.length 0 lo),IsTup.new _ _⟩
noncomputable def En (K:PySem.W.Frag):R2:=fun x y H Q=>∃ a b ns ms,x=.ref a/\y=.ref b/\SqT K H a (ns.map V.int)/\SqT K H b (ms.map V.int)/\Q (.bl (HT.lexLt ns ms)) H
theorem BN (hu:X.A.units<cLine):OpR X (compareOp .Lt) (En X.K):=by
 intro pins s σ H x y v u Q I rx ry h
 obtain ⟨a,b,ns,ms,rfl,rfl,ha,hb,q⟩:=h
 cases rx
 cases ry
 obtain ⟨its,r1,p1,_⟩:=I.tuple ha
 obtain ⟨its2,r2,p2,_⟩:=I.tuple hb
 have i1:IntsAre its.toArray.toList ns:=i6 r1
 have i2:IntsAre its2.toArray.toList ms:=i6 r2
 exact HT.lt_tupInts p1 p2 i1 i2 hu ⟨.bl (HT.lexLt ns ms),H,I,rfl,q⟩
noncomputable def A9 (K:PySem.W.Frag):R2:=fun x y H Q=>∃ a b xs ys,x=.ref a/\y=.ref b/\SqT K H a xs/\SqT K H b ys/\xs≠[]/\xs.length+ys.length<=sizeLine /\
 (ys=[]->Q (.ref a) H)/\(ys≠[]->∀ p,H p=none->Q (.ref p) (upd H p (.tup (xs++ys))))
theorem cq.nil_iff {xs:List V} {us:List Value} (r:cq xs us):us=[]↔xs=[]:=by
 cases r with
 | nil=>simp
 | cons _ _=>simp
theorem yg:OpR X (binaryOp .Add) (A9 X.K):=by
 intro pins s σ H x y v u Q I rx ry h
 obtain ⟨a,b,xs,ys,rfl,rfl,ha,hb,hx,hz,q1,q2⟩:=h
 cases rx
 cases ry
 obtain ⟨its,r1,p1,_⟩:=I.tuple ha
 obtain ⟨its2,r2,p2,_⟩:=I.tuple hb
 refine HT.cat_tup p1 p2 (fun z=>hx (r1.nil_iff.mp z)) (fun z=>⟨.ref a,H,I,rfl,q1 (r2.nil_iff.mp z)⟩) (fun z=>?_) (by rw [<- r1.length,<- r2.length];exact hz)
 refine ⟨.ref s.heap.objs.size,_,I.laid (t':=s.toks) (o:=.tup (xs++ys)) (fun b ob q=>aa _ q) (ag _) ?_,rfl,q2 (fun w=>z (r2.nil_iff.mpr w)) _ (I.hok.fresh (ag _))⟩
 exact ⟨⟨by rw [aH];exact hz,jg.new _ _⟩,_,r1.append r2,IsTup.new _ _⟩
end
end L2
namespace L2
open PySem PySem.Spec PyProof.Rows
noncomputable def ixN (n:Nat) (i:Int):Option Nat:=if 0<=i then (if i<n then some i.toNat else none) else if -(n:Int)<=i then some (i+n).toNat else none
noncomputable def atI {α:Type} (xs:List α) (i:Int):Option α:=(ixN xs.length i).bind fun j=>xs[j]?
theorem o9 {n:Nat} {i:Int} {j:Nat} (h:ixN n i=some j):seqIndex? i n=some j/\j<n/\-(n:Int)<=i/\i<n:=by
 unfold ixN at h
 by_cases h0:0<=i
 ·rw [if_pos h0] at h
  by_cases h1:i<n
  ·rw [if_pos h1] at h
   have e:i.toNat=j:=Option.some.inj h
   exact ⟨by rw [seqIndex_of h0 h1,e],by lia,by lia,h1⟩
  ·rw [if_neg h1] at h;cases h
 ·rw [if_neg h0] at h
  by_cases h1 : -(n:Int)<=i
  ·rw [if_pos h1] at h
   have e:(i+n).toNat=j:=Option.some.inj h
   exact ⟨by rw [seqIndex_neg (by lia) h1,e],by lia,h1,by lia⟩
  ·rw [if_neg h1] at h;cases h
theorem pf {α:Type} {xs:List α} {i:Int} {v:α} (h:atI xs i=some v):∃ j,seqIndex? i xs.length=some j/\xs[j]?=some v/\j<xs.length/\-(xs.length:Int)<=i/\i<xs.length:=by
 unfold atI at h
 cases e:ixN xs.length i with
 | none=>rw [e] at h;cases h
 | some j =>
   rw [e] at h
   obtain ⟨h1,h2,h3,h4⟩:=o9 e
   exact ⟨j,h1,h,h2,h3,h4⟩
noncomputable def lZ (b:Expr):Prop:=∀ o i,subscripted b false o i=operate [o,i] (getItem o i)
noncomputable def IxR (X:Cx) (r:R2):Prop :=
 ∀ (value slice:Expr) (pins:List (Addr×Obj)) (s:Shared) (σ:St) (H:Hp) (x y:V) (v u:Value) (Q:VK),Inv X pins σ H s->dH x v->dH y u->r x y H Q ->
   subscripted slice false v u=operate [v,u] (getItem v u)->wpAny (model X.prog X.w) X.A (subscriptTail value slice v u) (EP X pins σ Q) X.xe s
noncomputable def MtR (X:Cx) (id:String) (r:V->List V->Hp->VK->Prop):Prop :=
 ∀ (pins:List (Addr×Obj)) (s:Shared) (σ:St) (H:Hp) (x:V) (xs:List V) (v:Value) (us:List Value) (Q:VK),Inv X pins σ H s->dH x v->cq xs us->r x xs H Q ->
   wpAny (model X.prog X.w) X.A (call (.builtin id) (v::us)) (EP X pins σ Q) X.xe s
section
variable {X:Cx} {a b:Expr} {ta tb:TE} {pos:Pos}
theorem IxR.or {r r':R2} (h:IxR X r) (h':IxR X r'):IxR X (fun x y H Q=>r x y H Q\/r' x y H Q):=by
 intro value slice pins s σ H x y v u Q I rx ry q hs
 rcases q with q | q
 ·exact h value slice pins s σ H x y v u Q I rx ry q hs
 ·exact h' value slice pins s σ H x y v u Q I rx ry q hs
theorem DF {r:R2} (hr:IxR X r) (ha:PE X a ta) (hb:PE X b tb) (hs:lZ b):PE X (.Subscript a b pos) (tOp r ta tb):=by
 intro pins s σ H Q I h
 exact Subscript_ (Dh ha hb I h fun v u s2 x y H2 I2 rx ry q=>hr a b pins s2 σ H2 x y v u Q I2 rx ry q (hs _ _))
noncomputable def DH (K:PySem.W.Frag):R2:=fun x y H Q=>∃ p xs i v,x=.ref p/\y=.int i/\SqL K H p xs/\atI xs i=some v/\Q v H
noncomputable def DO (K:PySem.W.Frag):R2:=fun x y H Q=>∃ p xs i v,x=.ref p/\y=.int i/\SqT K H p xs/\atI xs i=some v/\Q v H
noncomputable def Dj:R2:=fun x y H Q=>∃ z i c,x=.str z/\y=.int i/\z.length<=sizeLine/\atI z.cps.toList i=some c/\Q (.str ⟨#[c]⟩) H
theorem Ab:IxR X (DH X.K):=by
 intro value slice pins s σ H x y v u Q I rx ry h hs
 obtain ⟨p,xs,i,z,rfl,rfl,hq,he,q⟩:=h
 cases rx
 obtain ⟨t,rfl⟩:=ry
 obtain ⟨its,r,pl,hz⟩:=I.list hq
 obtain ⟨j,h1,h2,h3,h4,h5⟩:=pf he
 obtain ⟨w,ew,rw'⟩:=r.get h2
 have hl:=r.length
 have hn:=nV
 have fin:EP X pins σ Q w s:=⟨z,H,I,rw',q⟩
 by_cases h0:0<=i
 ·have hj:i.toNat=j:=by
   rw [seqIndex_of h0 h5] at h1
   exact Option.some.inj h1
  exact item_listR pl.isList h0 (by lia) (by rw [hj];simpa using ew) fin hs
 ·have hj:(i+(its.toArray.size:Int)).toNat=j:=by
   rw [seqIndex_neg (by lia) h4] at h1
   rw [ao,<- hl]
   exact Option.some.inj h1
  exact subscriptTail_builtinR (x:=w) pl.isList.typeIs slot_list_getitem.lookup
   (wpAny_getItem_list_neg (Q:=fun r s'=>r=w/\EP X pins σ Q r s') pl.isList (by lia) (by rw [ao]<;>lia) (by lia) (by rw [hj];simpa using ew) ⟨rfl,fin⟩) hs
theorem B9:IxR X (DO X.K):=by
 intro value slice pins s σ H x y v u Q I rx ry h hs
 obtain ⟨p,xs,i,z,rfl,rfl,hq,he,q⟩:=h
 cases rx
 obtain ⟨t,rfl⟩:=ry
 obtain ⟨its,r,pl,hz⟩:=I.tuple hq
 obtain ⟨j,h1,h2,h3,h4,h5⟩:=pf he
 obtain ⟨w,ew,rw'⟩:=r.get h2
 have hl:=r.length
 have hn:=nV
 have fin:EP X pins σ Q w s:=⟨z,H,I,rw',q⟩
 exact subscriptTail_builtinR (x:=w) pl.typeIs slot_tuple_getitem.lookup
  (getItem_tuple (j:=j) (Q:=fun r s'=>r=w/\EP X pins σ Q r s') pl (by lia) (by lia) (by rw [ao,<- hl];exact h1) (by simpa using ew) ⟨rfl,fin⟩) hs
theorem AO:IxR X Dj:=by
 intro value slice pins s σ H x y v u Q I rx ry h hs
 obtain ⟨z,i,c,rfl,rfl,hz,he,q⟩:=h
 obtain ⟨t,rfl⟩:=rx
 obtain ⟨t',rfl⟩:=ry
 obtain ⟨j,h1,h2,h3,h4,h5⟩:=pf he
 have hl:z.cps.toList.length=z.length:=by simp [Str.length]
 rw [hl] at h1 h4 h5
 have hn:=nV
 exact tail_any (typeIs_str s z t) slot_str_getitem.lookup (getItem_str (c:=c) (by
  have e1:decide (i < -(2 ^ 63:Int))=false:=decide_eq_false (by lia)
  have e2:decide (i≥2 ^ 63)=false:=decide_eq_false (by lia)
  rw [e1,e2,rT]) (by rw [h1];simpa using h2) ⟨.str ⟨#[c]⟩,H,I.tok _,⟨_,rfl⟩,q⟩) hs
noncomputable def rIx (K:PySem.W.Frag):R2:=fun x y H Q=>DH K x y H Q\/DO K x y H Q\/Dj x y H Q
theorem A3:IxR X (rIx X.K):=Ab.or (B9.or AO)
theorem oA (lo hi:Option Int) (n:Nat):(sliceBounds lo hi none n).1=((HT.sIx n 0 lo:Nat):Int)/\(sliceBounds lo hi none n).2.1=((HT.sIx n n hi:Nat):Int)/\(sliceBounds lo hi none n).2.2=1:=by
 refine ⟨?_,?_,rfl⟩
 ·cases lo with
  | none=>simp [sliceBounds,HT.sIx]
  | some i =>
    simp only [sliceBounds,HT.sIx,Option.getD_none,show (1:Int) > 0 by decide,if_true]
    by_cases h:i<0
    ·simp only [h,if_true]<;>lia
    ·simp only [h,if_false]<;>lia
 ·cases hi with
  | none=>simp [sliceBounds,HT.sIx]
  | some i =>
    simp only [sliceBounds,HT.sIx,Option.getD_none,show (1:Int) > 0 by decide,if_true]
    by_cases h:i<0
    ·simp only [h,if_true]<;>lia
    ·simp only [h,if_false]<;>lia
theorem lB (its:List Value) (lo hi:Option Int):slicePick its.toArray lo hi none=((its.drop (HT.sIx its.length 0 lo)).take (HT.sIx its.length its.length hi-HT.sIx its.length 0 lo)).toArray:=by
 obtain ⟨h1,h2,h3⟩:=oA lo hi its.toArray.size
 unfold slicePick
 rw [h1,h2,h3]
 simp only [sliceRange_one,pick_run,ao]<;>rfl
noncomputable def EM (K:PySem.W.Frag):V->Option Int->Option Int->Hp->VK->Prop:=fun x lo hi H Q=>∃ a xs,x=.ref a/\SqL K H a xs/\∀ p,H p=none->Q (.ref p) (upd H p (.lst (xU xs lo hi)))
theorem zI:SlR X (EM X.K):=by
 intro pins s σ H x v vl vu lo hi sl Q I rx hs pl pu h
 obtain ⟨a,xs,rfl,hx,q⟩:=h
 cases rx
 obtain ⟨its,r,ht,hz⟩:=I.list hx
 have hlen:=r.length
 refine ⟨"list",_,slot_list_getitem.lookup,ht.isList.typeIs,?_⟩
 refine wpAny_getItem_list_slice ht.isList hs pl pu .none (by simp) ?_ (by rw [ao]<;>lia)
 rw [lB,<- hlen]
 refine ⟨.ref s.heap.objs.size,_,I.laid (t':=s.toks) (o:=.lst (xU xs lo hi)) (fun b ob q=>aa _ q) (ag _) ?_,rfl,q _ (I.hok.fresh (ag _))⟩
 exact ⟨bR (kc xs lo hi) hz,_,0,(r.drop (HT.sIx xs.length 0 lo)).take (HT.sIx xs.length xs.length hi-HT.sIx xs.length 0 lo),aj _ rfl⟩
theorem n5:iB X (.builtin "len") (fun xs H Q=>∃ p ys,xs=[.ref p]/\(SqL X.K H p ys\/SqT X.K H p ys)/\Q (.int ys.length) H):=by
 intro pins s σ H xs us Q I r h
 obtain ⟨p,ys,rfl,hq,q⟩:=h
 obtain ⟨u,rfl,rx⟩:=nP r
 cases rx
 have hn:=nV
 rcases hq with hq | hq
 ·obtain ⟨its,r',pl,hz⟩:=I.list hq
  have hlen:=r'.length
  exact Calls.call_len_list pl.isList (by simp only [ao]<;>lia) ⟨.int ys.length,H,I.tok _,⟨s.toks+1,by rw [ao,hlen]⟩,q⟩
 ·obtain ⟨its,r',pl,hz⟩:=I.tuple hq
  have hlen:=r'.length
  exact len_tuple pl (by simp only [ao]<;>lia) ⟨.int ys.length,H,I.tok _,⟨s.toks+1,by rw [ao,hlen]⟩,q⟩
theorem oO:iB X (.type "list") (fun xs H Q=>∃ p ys,xs=[.ref p]/\(SqL X.K H p ys\/SqT X.K H p ys)/\∀ l,H l=none->Q (.ref l) (upd H l (.lst ys))):=by
 intro pins s σ H xs us Q I r h
 obtain ⟨p,ys,rfl,hq,q⟩:=h
 obtain ⟨u,rfl,rx⟩:=nP r
 cases rx
 have fin:∀ (its:List Value),cq ys its->ys.length<=sizeLine->∀ (h':Heap) (c':Nat),(∀ b o',s.heap.get? b=some o'->h'.get? b=some o') ->
  h'.get? s.heap.objs.size=some { cls:=.type "list",dict:=none,data:=.seq its.toArray c',slots:=#[] }->EP X pins σ Q (.ref s.heap.objs.size) { s with heap:=h' }:=fun its r' hz h' c' kp e =>
  ⟨.ref s.heap.objs.size,_,I.laid (t':=s.toks) kp (ag _) (show eG X.prog X.w _ h' _ (.lst ys) from ⟨hz,its,c',r',e⟩),rfl,q _ (I.hok.fresh (ag _))⟩
 rcases hq with hq | hq
 ·obtain ⟨its,r',pl,hz⟩:=I.list hq
  have hlen:=r'.length
  obtain ⟨o,ho,hc,n,hd⟩:=pl.isList
  exact call_list_seq p (.inl rfl) ho hc hd (fun h' c' kp e=>fin its r' hz h' c' kp e) (by simp only [ao]<;>lia)
 ·obtain ⟨its,r',pl,hz⟩:=I.tuple hq
  have hlen:=r'.length
  obtain ⟨o,ho,hc,n,hd⟩:=pl
  exact call_list_seq p (.inr rfl) ho hc hd (fun h' c' kp e=>fin its r' hz h' c' kp e) (by simp only [ao]<;>lia)
theorem mq:iB X (.type "tuple") (fun xs H Q=>∃ p ys,xs=[.ref p]/\((SqL X.K H p ys/\∀ l,H l=none->Q (.ref l) (upd H l (.tup ys)))\/(SqT X.K H p ys/\Q (.ref p) H))):=by
 intro pins s σ H xs us Q I r h
 obtain ⟨p,ys,rfl,h⟩:=h
 obtain ⟨u,rfl,rx⟩:=nP r
 cases rx
 rcases h with ⟨hq,q⟩ | ⟨hq,q⟩
 ·obtain ⟨its,r',pl,hz⟩:=I.list hq
  have hlen:=r'.length
  refine call_tuple_list pl.isList (fun h' kp=>?_) (by simp only [ao]<;>lia)
  have I1:Inv X pins σ H { s with heap:=h' }:=I.kept (t':=s.toks) kp
  have I2:Inv X pins σ (upd H h'.objs.size (.tup ys)) { s with heap:=h'.push { cls:=.type "tuple",data:=.seq its.toArray } } :=
   I1.laid (t':=s.toks) (fun b o e=>aa _ e) (ag _) (show eG X.prog X.w _ _ _ (.tup ys) from ⟨⟨hz,jg.new _ _⟩,its,r',IsTup.new _ _⟩)
  exact ⟨.ref h'.objs.size,_,I2,rfl,q _ (I1.hok.fresh (ag _))⟩
 ·obtain ⟨its,r',pl,hz⟩:=I.tuple hq
  exact call_tuple_same pl ⟨.ref p,H,I,rfl,q⟩
noncomputable def tyV (K:PySem.W.Frag) (T:String) (x:V) (H:Hp):Prop:=match x with
 | .str _=>T = "str"
 | .int _=>T = "int"
 | .ref p=>(T = "list"/\∃ xs,SqL K H p xs)\/(T = "tuple"/\∃ o,K.lookup p=some o/\o.cls=.type "tuple"/\o.dict=none) \/
    (T = "dict"/\((∃ kvs,H p=some (.dK kvs))\/∃ kvs,H p=some (.dT kvs)))\/(T = "set"/\∃ S n,H p=some (.set S n))
 | _=>False
theorem Bv {pins:List (Addr×Obj)} {σ:St} {H:Hp} {s:Shared} {T:String} {x:V} {v:Value} (I:Inv X pins σ H s) (r:dH x v) (ty:tyV X.K T x H) :
 s.TypeIs v T/\∀ a,v=.ref a->∃ ob,s.heap.get? a=some ob/\ob.dict=none:=by
 cases x with
 | str z =>
   obtain ⟨t,rfl⟩:=r
   cases (show T = "str" from ty)
   exact ⟨typeIs_str s z t,fun _ e=>nomatch e⟩
 | int i =>
   obtain ⟨t,rfl⟩:=r
   cases (show T = "int" from ty)
   exact ⟨typeIs_int s i t,fun _ e=>nomatch e⟩
 | ref p =>
   cases r
   rcases ty with ⟨rfl,xs,hq⟩ | ⟨rfl,o,hk,hc,hd⟩ | ⟨rfl,hk⟩ | ⟨rfl,S,n,hk⟩
   ·obtain ⟨its,_,pl,_⟩:=I.list hq
    refine ⟨pl.isList.typeIs,fun a e=>?_⟩
    cases e
    obtain ⟨o,n,e,c,hd,_⟩:=pl
    exact ⟨o,e,hd⟩
   ·refine ⟨⟨o,I.kIn p o hk,hc⟩,fun a e=>?_⟩
    cases e
    exact ⟨o,I.kIn _ o hk,hd⟩
   ·have z:∃ o,s.heap.get? p=some o/\o.ExactDict:=by
     rcases hk with ⟨kvs,hk⟩ | ⟨kvs,hk⟩
     ·obtain ⟨_,_,_,_,o,_,_,e,ex,_⟩:=I.hok p _ hk
      exact ⟨o,e,ex⟩
     ·obtain ⟨_,_,_,_,o,_,_,e,ex,_⟩:=I.hok p _ hk
      exact ⟨o,e,ex⟩
    obtain ⟨o,e,ex⟩:=z
    refine ⟨⟨o,e,ex.1⟩,fun a e2=>?_⟩
    cases e2
    exact ⟨o,e,ex.2.1⟩
   ·obtain ⟨o,_,_,_,e,ex,_⟩:=I.hok p _ hk
    refine ⟨⟨o,e,ex.1⟩,fun a e2=>?_⟩
    cases e2
    exact ⟨o,e,ex.2.1⟩
 | _=>exact False.elim ty
noncomputable def tBM (K:PySem.W.Frag) (T:String) (r:V->List V->Hp->VK->Prop) (to:TE) (t:TA):TE:=fun σ H Q=>to σ H fun x H1=>tyV K T x H1/\t σ H1 fun xs H2=>r x xs H2 Q
variable {o e:Expr} {es:List Expr} {to:TE} {t:TA} {name:Str} {apos cpos:Pos} {T id:String} {r:V->List V->Hp->VK->Prop}
theorem yo (pa:PlainAttrs T) (slot:Slot T name id) (hty:typeOf (.builtin id)=pure (.type "method_descriptor")) (hm:MtR X id r) (ho:PE X o to) (ha:PA X (e::es) t)
 (hbase:attributeBase o name X.env (eval o X.env)=eval o X.env:=by rfl)
 (hfew:((backTo cpos (starEach (e::es) X.env)).all (fun x=>!x.1)&&(backToKw cpos (keywordEach [] X.env)).all (fun x=>x.1.isSome)
   && decide ((e::es).length+([]:List Keyword).length+(if ([]:List Keyword).isEmpty then 0 else 1)<30))=true:=by rfl)
 (hline:(apos.endLine == cpos.line)=true:=by rfl) (hs:starEach (e::es) X.env=(false,eval e X.env)::starEach es X.env:=by rfl) (hplain:(backTo cpos (starEach es X.env)).any (·.1)=false:=by rfl) :
 PE X (.Call (.Attribute o name apos) (e::es) [] cpos) (tBM X.K T r to t):=by
 intro pins s σ H Q I h
 refine wpAny_Call_method_late hbase hfew hline rfl (thn (ho pins s σ H _ I h) fun v s1 ⟨x,H1,I1,r1,ty,q1⟩=>?_)
 obtain ⟨h1,h2⟩:=Bv I1 r1 ty
 refine ⟨T,id,pa,slot,hty,h1,h2,?_⟩
 have hA:=ha cpos pins s1 σ H1 _ I1 q1
 rw [hs] at hA ⊢
 refine Calls.callWith_builtin (by show (false||(backTo cpos (starEach es X.env)).any (·.1))=false;rw [hplain]<;>rfl) (Calls.evalArgs_plain ?_)
 exact thn hA fun us s2 ⟨vs,H2,I2,r2,q2⟩=>hm pins s2 σ H2 x vs v us Q I2 r1 r2 q2
end
end L2
namespace L2
open PySem PySem.Spec PyProof.Rows
noncomputable def MtM (X:Cx) (id:String) (r:V->List V->Hp->VK->Prop):Prop :=
 ∀ (pins:List (Addr×Obj)) (s:Shared) (σ:St) (H:Hp) (x:V) (xs:List V) (v:Value) (us:List Value) (Q:VK),Inv X pins σ H s->dH x v->cq xs us->r x xs H Q ->
   wpAny (model X.prog X.w) X.A (call (.builtin id) (v::us)) (EP X pins σ Q) X.xe s
theorem cq.one:∀ {x:V} {us:List Value},cq [x] us->∃ u,us=[u]/\dH x u
 | _,_,.cons r .nil=>⟨_,rfl,r⟩
theorem cq.two:∀ {x y:V} {us:List Value},cq [x,y] us->∃ u v,us=[u,v]/\dH x u/\dH y v
 | _,_,_,.cons r (.cons q .nil)=>⟨_,_,rfl,r,q⟩
theorem cq.zero:∀ {us:List Value},cq [] us->us=[]
 | _,.nil=>rfl
theorem cq.eraseIdx:∀ {xs:List V} {us:List Value} (i:Nat),cq xs us->cq (xs.eraseIdx i) (us.eraseIdx i)
 | _,_,_,.nil=>.nil
 | _,_,0,.cons _ t=>t
 | _,_,i+1,.cons r t=>.cons r (cq.eraseIdx i t)
theorem cq.reverse {xs:List V} {us:List Value} (h:cq xs us):cq xs.reverse us.reverse:=by
 induction h with
 | nil=>exact .nil
 | cons r t ih=>rw [g5,g5];exact cq.append ih (.cons r .nil)
theorem oe {α:Type}:∀ (l:List α) (i:Nat),(l.eraseIdx i).length<=l.length
 | [],_=>ag _
 | _::_,0=>ip _
 | _::r,i+1=>Dc (oe r i)
section
variable {X:Cx} {pins:List (Addr×Obj)} {σ:St} {H:Hp} {s:Shared} {l b:Addr} {xs ys zs:List V}
theorem Inv.lset {its its':List Value} {n:Nat} {f:Array Value->Array Value} {t':Nat} (I:Inv X pins σ H s) (hH:H l=some (.lst xs))
 (e:s.heap.get? l=some { cls:=.type "list",data:=.seq its.toArray n }) (hf:f its.toArray=its'.toArray) (hv:cq ys its') (hz:ys.length<=sizeLine) :
 Inv X pins σ (upd H l (.lst ys)) { s with heap:=s.heap.update l (cV f),toks:=t' }:=by
 have q:=PySem.IsL.update e f
 rw [hf] at q
 refine I.write (x:=l) (e:=l) (by rw [hH];exact trivial) (.inl rfl) (fun b' u hb hu=>(aG s.heap (cV f) (Ne.symm hb)).trans hu) ⟨_,q⟩ ?_
 exact ⟨hz,its',_,hv,q⟩
theorem Inv.lnew {its:List Value} {t':Nat} (I:Inv X pins σ H s) (hv:cq ys its) (hz:ys.length<=sizeLine) :
 Inv X pins σ (upd H s.heap.objs.size (.lst ys)) { s with heap:=s.heap.push { cls:=.type "list",data:=.seq its.toArray },toks:=t' } :=
 I.laid (fun _ _ q=>aa _ q) (ag _) ⟨hz,its,0,hv,aj _ rfl⟩
theorem Inv.fresh (I:Inv X pins σ H s):H s.heap.objs.size=none:=I.hok.fresh (ag _)
theorem Inv.lstM (I:Inv X pins σ H s) (hH:H l=some (.lst xs)):xs.length<=sizeLine/\∃ (its:List Value) (n:Nat),cq xs its/\xs.length=its.length/\s.heap.get? l=some { cls:=.type "list",data:=.seq its.toArray n }:=by
 obtain ⟨z,its,n,r,e⟩:=I.hok l _ hH
 exact ⟨z,its,n,r,r.length,e⟩
end
section
variable {X:Cx}
noncomputable def zZ:V->List V->Hp->VK->Prop:=fun x vs H Q=>∃ l xs y,x=.ref l/\vs=[y]/\H l=some (.lst xs)/\xs.length<sizeLine/\Q .non (upd H l (.lst (xs++[y])))
theorem nI:MtM X "list.append" zZ:=by
 intro pins s σ H x vs v us Q I rx rv h
 obtain ⟨l,xs,y,rfl,rfl,hH,hz,q⟩:=h
 cases rx
 obtain ⟨u,rfl,ru⟩:=rv.one
 obtain ⟨z,its,n,r,hl,e⟩:=I.lstM hH
 refine call_meets F.slot_list_append ⟨_,e,rfl⟩ F.entry_list_append (F.args_list_append_2 _ _) (PySem.list_append l its.toArray n u (by rw [ao];lia)) ⟨e,?_⟩
 refine ⟨.non,_,I.lset (its':=its++[u]) hH e (by simp) (r.append (.cons ru .nil)) ?_,rfl,q⟩
 rw [aH,bF]
 lia
noncomputable def uO:V->List V->Hp->VK->Prop:=fun x vs H Q=>∃ l xs i k y,x=.ref l/\vs=[.int i]/\H l=some (.lst xs)/\-(2 ^ 63)<=i/\i<2 ^ 63/\seqIndex? i xs.length=some k/\xs[k]?=some y/\Q y (upd H l (.lst (xs.eraseIdx k)))
theorem vR:MtM X "list.pop" uO:=by
 intro pins s σ H x vs v us Q I rx rv h
 obtain ⟨l,xs,i,k,y,rfl,rfl,hH,h1,h2,hk,hy,q⟩:=h
 cases rx
 obtain ⟨u,rfl,ru⟩:=rv.one
 obtain ⟨t,rfl⟩:=ru
 obtain ⟨z,its,n,r,hl,e⟩:=I.lstM hH
 obtain ⟨w,hw,rw'⟩:=r.get hy
 refine call_meets F.slot_list_pop ⟨_,e,rfl⟩ F.entry_list_pop (F.args_list_pop_2 _ _)
  (MeetsSeq.list_pop_at l its.toArray n i t k w (fitsIndex_both h1 h2) (by rw [ao,<- hl];exact hk) (by rw [<- aR];exact hw) (by rw [ao];lia)) ⟨e,?_⟩
 refine ⟨y,_,I.lset (its':=its.eraseIdx k) hH e ?_ (r.eraseIdx k) ?_,rw',q⟩
 ·show its.toArray.eraseIdxIfInBounds k=(its.eraseIdx k).toArray
  rw [List.eraseIdxIfInBounds_toArray]
 ·have:=oe xs k
  lia
end
section
variable {prog:Program} {w:World} {A:Around} {E:Value->Shared->Prop} {s:Shared}
end
section
variable {X:Cx}
end
end L2
namespace Att
open PySem PySem.W PySem.Calls PyProof.Rows
theorem jI {P:Params} {h:Heap}:∀ (ns:List Int) (vs:List Value),WellAll P h vs (ns.map WData.int)->IntsAre vs ns:=by
 intro ns
 induction ns with
 | nil =>
   intro vs w
   rw [gB] at w
   cases w
   exact .nil
 | cons n ns ih =>
   intro vs w
   rw [aC] at w
   cases w with
   | cons a b =>
     cases a
     exact .cons _ _ (ih _ b)
theorem uR {l:OpenLaw} {n:Nat} (hn:l.most=some n) {P:Params} {h:Heap} {args:List WData} {vals:List Value}
 (hpre:l.row.toRowW.claim.pre args=true) (hwl:WellAll P h vals args) :
 ∃ a vs ns,vals=[Value.ref a]/\args=[WData.list (ns.map WData.int)]/\h.get? a=some { cls:=.type "list",data:=.seq vs.toArray }/\IntsAre vs ns/\ns.length<=n:=by
 have hsh:WShape.hasAll [] args [.list .int]=true:=(pre_splitW hpre).1
 have hc:l.pre.holds [] { args:=args }=true:=(pre_splitW hpre).2
 obtain ⟨d,r,rfl,h1,h2⟩:=hasAllW_cons hsh
 obtain rfl:=hasAllW_nil h2
 obtain ⟨xs,rfl,h3⟩:=hasW_list h1
 obtain ⟨ns,rfl⟩:=items_int h3
 have hlen:ns.length<=n:=by
  unfold OpenLaw.pre at hc
  have h4:(WTm.not (.lt (.lit (.int (n:Int))) (.len (.arg 0)))).holds [] { args:=[.list (ns.map .int)] }=true:=by
   have h4:=(holds_andW hc).1
   rw [hn] at h4
   exact h4
  have h5:=condW_of h4 (w_not (w_lt w_lit (w_len_list (w_arg rfl))))
  rw [af] at h5
  refine Dd fun q=>?_
  have q':(n:Int)<((ns.length:Nat):Int):=by lia
  first
   | (rw [decide_eq_true q'] at h5;exact absurd h5 (by decide))
   | (simp at h5;lia)
 cases hwl with
 | cons w1 w2 =>
   cases w2
   cases w1 with
   | list ho hall=>exact ⟨_,_,ns,rfl,rfl,ho,jI ns _ hall,hlen⟩
theorem sY (l:OpenLaw) (args:List WData):l.row.toRowW.claim.post args (.bool true) args=true :=
 postW_of (r:=l.row.toRowW) (X:=(true == true))
  (show WShape.has [] (.bool true) .bool=true by first | rfl | decide | simp [WShape.has,WShape.arms,WShape.armsAll])
  (show (WTm.eq .res (.lit (.bool true))).value [] { args:=args,res:=some (.bool true),after:=args }=some (.bool (true == true)) from w_eq_bool (w_res rfl) w_lit) rfl
theorem attach_call {l:OpenLaw} {n:Nat} {q:Program} {loose:List Str} {XP:(Str->Option Value)->Heap->Prop} {YP:World->Heap->Prop} {d:DefRec}
 (hn:l.most=some n) (hdf:d.params.defaults=[])
 (call:∀ (w:World) (s₀ s₁:Shared) (mg mb:Str->Option Value) (fa:Addr) (o:Obj) (pm cd doc:Value) (a:Addr) (vs:List Value) (ns:List Int),
   Ground q loose [] XP w s₀ mg mb s₁.heap->YP w s₁.heap ->
   s₁.heap.get? fa=some o->o.data=.func (docDef d.name d.params d.body d.scope pm cd doc)->s₁.heap.CodeRec cd d.name->mg d.name=some (.ref fa) ->
   s₁.heap.get? a=some { cls:=.type "list",data:=.seq vs.toArray }->IntsAre vs ns->ns.length<=n->s₁.gens = #[] ->
   codeAny (model l.prog w) callerA (.call (.ref fa) ⟨[.ref a],[]⟩) (fun r s'=>r=.ok (.ret (.bool true))/\OldK s₁.heap s'.heap/\s'.os=s₁.os/\AllBare s'.gens) s₁) :
 WalkO q loose XP YP l.row.toRowW d [] (fun f vs=>PySem.call f vs):=by
 intro w s₀ s₁ mg mb G Y fa o pm cd doc dV kV ho hd hcd hD hmg hg args vals as hpre hlay hrd hwl hlo
 obtain rfl:dV=.none:=Dflts.none hD hdf
 obtain rfl:kV=.none:=Dflts.noKw hD
 obtain ⟨a,vs,ns,rfl,rfl,hobj,hints,hlen⟩:=uR hn hpre hwl
 refine enter_call (codeAny_mono (call w s₀ s₁ mg mb fa o pm cd doc a vs ns G Y ho (fd_plain hd) hcd hmg hobj hints hlen hg) fun r s' hq=>?_)
 obtain ⟨rfl,h2,h3,h4⟩:=hq
 exact ⟨.inl ⟨.bool true,.bool true,[],rfl,fun _=>rfl,.bool true,sY l _,fun _=>⟨List.Pairwise.nil,fun _ hm=>(nomatch hm)⟩⟩,h2,h3,h4⟩
section
variable {prog:Program} {w:World} {A:Around} {E:Value->Shared->Prop} {s:Shared} {K:Frag}
end
end Att
namespace L2
open PySem PySem.Spec PyProof.Rows
theorem oG:∀ {vs:List Value} {ns:List Int},IntsAre vs ns->cq (ns.map V.int) vs
 | _,_,.nil=>.nil
 | _,_,.cons n t h=>.cons ⟨t,rfl⟩ (oG h)
end L2
namespace L2
open PySem PySem.Spec PyProof.Rows
end L2
namespace L2
open PySem PySem.Spec PyProof.Rows
noncomputable def cf (s:Stmt):Arguments:=match s with
 | .FunctionDef _ a _ _ _ _ _ _ _ _=>a
 | _=>{ posonlyargs:=[],args:=[],vararg:=none,kwonlyargs:=[],kw_defaults:=[],kwarg:=none,defaults:=[] }
noncomputable def br (s:Stmt):List Stmt:=match s with
 | .FunctionDef _ _ b _ _ _ _ _ _ _=>b
 | _=>[]
noncomputable def az (s:Stmt):Scope:=match s with
 | .FunctionDef _ _ _ _ _ _ sc _ _ _=>sc
 | _=>{ kind:=.function,names:=[],isGenerator:=false,isCoroutine:=false }
noncomputable abbrev CX0:CXT:=fun _ _ _ _ _ _=>False
noncomputable abbrev E0:XK:=fun _ _ _=>False
theorem DK {X:Cx}:mY CX0 X E0:=fun _ _ _ _ _ _ _ h=>h.elim
structure Fun (K:PySem.W.Frag) (x qual:Str) (st:Stmt) (f:Addr) (fd:FuncData):Prop where
 ex:∃ (oc:Value) (od:Option Addr) (kV doc pm:Value) (an:Option Addr) (cdv ct:Value) (osl:Array (Option Value)),
  fd=PySem.W.fnOf x qual (cf st) (br st) (az st) .none kV doc pm an cdv ct/\K.lookup f=some ⟨oc,od,.func fd,osl⟩/\PySem.W.codeIn K cdv qual=true
 kp:PySem.W.keepIn K (.ref f)=true
section
variable {P:Program} {w:World} {K:PySem.W.Frag} {mg:Str->Option Value} {base:Heap}
theorem Fun.ok {x qual:Str} {st:Stmt} {f:Addr} {fd:FuncData} {N ps:List Str} {k:Nat} {sp:Sp} (F:Fun K x qual st f fd) (S:cg N ps (az st)) (len:∀ vs H Q E,sp vs H Q E->vs.length=ps.length)
 (hbody:∀ (cdv:Value) (A:Around) (outer:List Env) (s:Shared) (H:Hp) (vs:List V) (Q:VK) (E:XK),fQ k (A.deeper (envOfC qual (az st) s.heap.objs.size f cdv))->sp vs H Q E ->
   ∃ t,PSs (g9 CX0 P w K mg base N qual (az st) f cdv A outer s H E).nox (br st) t/\t { nx:=fun _ H'=>Q .non H',rt:=Q } (start N vs) H):pZ P w K mg base CX0 (k+1) f fd ps sp:=by
 obtain ⟨oc,od,kV,doc,pm,an,cdv,ct,osl,rfl,lk,hcd⟩:=F.ex
 refine BB lk hcd S len fun A outer s H vs Q E hr hsp=>?_
 obtain ⟨t,h,q⟩:=hbody cdv A outer s H vs Q E hr hsp
 exact ⟨t,h.nox,q⟩
theorem Fun.binds {x qual:Str} {st:Stmt} {f:Addr} {fd:FuncData} {ps:List Str} (F:Fun K x qual st f fd)
 (h:∀ (kV doc pm:Value) (an:Option Addr) (cdv ct:Value) (us:List Value),us.length=ps.length->bindArgs (PySem.W.fnOf x qual (cf st) (br st) (az st) .none kV doc pm an cdv ct) ⟨us,[]⟩=pure (ps.zip us)):mx K fd ps []:=by
 obtain ⟨oc,od,kV,doc,pm,an,cdv,ct,osl,rfl,lk,hcd⟩:=F.ex
 exact .all (h kV doc pm an cdv ct)
theorem eL {x qual:Str} {st:Stmt} {f:Addr} {oc:Value} {od an:Option Addr} {osl:Array (Option Value)} {kV doc pm cdv ct:Value} (l:K.lookup f=some ⟨oc,od,.func (PySem.W.fnOf x qual (cf st) (br st) (az st) .none kV doc pm an cdv ct),osl⟩)
 (c:PySem.W.codeIn K cdv qual=true) (k:PySem.W.keepIn K (.ref f)=true):Fun K x qual st f (PySem.W.fnOf x qual (cf st) (br st) (az st) .none kV doc pm an cdv ct):=⟨⟨oc,od,kV,doc,pm,an,cdv,ct,osl,rfl,l,c⟩,k⟩
end
theorem gy {A:Around} {k:Nat} (hr:fQ k A):A.units+1<cLine:=AF (Nat.add_le_add_left (by decide:1<=64) _) hr.units
section
variable {X:Cx}
theorem pv (i:Nat) {x:Str} {pos:Pos} (hN:X.N[i]?=some x:=by rfl) (hv:Vis X.env.scope x:=by first | exact Or.inl rfl | exact Or.inr (Or.inl rfl) | exact Or.inr (Or.inr rfl)) (hd:(x == ("__debug__" : Str))=false:=by decide)
 (hcd:(x == ("__classdict__" : Str))=false:=by decide):PE X (.Name x pos) (kF i):=m9 hN hv hd hcd
end
theorem Dv {A B:Prop} (h:B):if false=true then A else B:=by
 rw [if_neg am]
 exact h
theorem CG {A B:Prop} (h:A):if true=true then A else B:=by
 rw [if_pos rfl]
 exact h
noncomputable def bY (H H':Hp):Prop:=∀ b o,H b=some o->H' b=some o
theorem bY.refl (H:Hp):bY H H:=fun _ _ h=>h
theorem bY.trans {H H1 H2:Hp} (a:bY H H1) (b:bY H1 H2):bY H H2:=fun c o h=>b c o (a c o h)
theorem bY.free {H H':Hp} (e:bY H H') {l:Addr} (h:H' l=Option.none):H l=Option.none:=by
 cases q:H l with
 | none=>rfl
 | some o =>
   rw [e l o q] at h
   cases h
theorem bY.seq {K:PySem.W.Frag} {H H':Hp} {a:Addr} {xs:List V} (e:bY H H') (h:SqL K H a xs):SqL K H' a xs:=by
 rcases h with (h | ⟨o,h⟩) | h
 ·exact .inl (.inl (e _ _ h))
 ·exact .inl (.inr ⟨o,e _ _ h⟩)
 ·exact .inr h
section
variable {X:Cx}
end
section
variable {κ:Type} [DecidableEq κ]
end
end L2
namespace Ry
open PySem PySem.W PyProof.Rows
variable (O:KeyOrd) (key:Nat->O.α) (n:Nat)
noncomputable def dJ {α:Type}:KasT α->(α->Prop)->Prop
 | .ret a,Q=>Q a
 | .ask i j k,Q=>i<n/\j<n/\dJ (k (O.blt (key i) (key j))) Q
variable {O key n}
theorem dJ.bind {α β:Type} {f:α->KasT β} {Q:β->Prop}:∀ {t:KasT α},dJ O key n t (fun a=>dJ O key n (f a) Q)->dJ O key n (t.bind f) Q
 | .ret _,q=>q
 | .ask i j k,q=>⟨q.1,q.2.1,dJ.bind q.2.2⟩
theorem dJ.wp {α:Type} {cmp:Nat->Nat->(Bool->Shared->Prop)->Shared->Prop} {s:Shared} (hc:∀ i j (C:Bool->Shared->Prop),i<n->j<n->C (O.blt (key i) (key j)) s->cmp i j C s) {Q:α->Shared->Prop} :
 ∀ {t:KasT α},dJ O key n t (fun a=>Q a s)->t.kasWp cmp Q s
 | .ret _,q=>q
 | .ask i j k,q=>hc i j _ q.1 q.2.1 (dJ.wp hc (t:=k (O.blt (key i) (key j))) q.2.2)
noncomputable abbrev KN (O:KeyOrd) (key:Nat->O.α) (p:Array Nat) (i:Nat):O.α:=key (p.getD i 0)
structure b0 (n:Nat) (p:Array Nat):Prop where
 perm:p.Perm (bp n).toArray
theorem b0.size {p:Array Nat} (h:b0 n p):p.size=n:=by
 have:=h.perm.size_eq
 simpa using this
theorem b0.lt {p:Array Nat} (h:b0 n p) {i:Nat} (hi:i<n):p.getD i 0<n:=by
 have hs:i<p.size:=by rw [h.size];exact hi
 have e:p.getD i 0=p[i]:=by simp [fR,hs]
 rw [e]
 have hm:p[i]∈(bp n).toArray.toList:=(bh.mp h.perm).mem_iff.mp (by simp)
 simpa using hm
theorem cR {p q:Array Nat} {i j:Nat} (h:p[i]?=q[j]?):p.getD i 0=q.getD j 0:=by
 rw [fX,fX,h]
theorem m7 {xs:Array Nat} {src d:Nat} (hs:src<xs.size) (hd:d<=src) (k:Nat) :
 KN O key (bubble xs src d) k=if k=src-d then KN O key xs src else if src-d<k/\k<=src then KN O key xs (k-1) else KN O key xs k:=by
 have e:=getElem?_bubble hs d hd k
 unfold KN
 by_cases h1:k=src-d
 ·rw [if_pos h1] at e ⊢;rw [cR e]
 ·rw [if_neg h1] at e ⊢
  by_cases h2:src-d<k/\k<=src
  ·rw [if_pos h2] at e ⊢;rw [cR e]
  ·rw [if_neg h2] at e ⊢;rw [cR e]
theorem tI {xs:Array Nat} {i j:Nat} (hj:j<=xs.size) (k:Nat):KN O key (kas_rev xs i j) k=if i<=k/\k<j then KN O key xs (i+j-1-k) else KN O key xs k:=by
 have e:=getElem?_mirror_all (i:=i) hj k
 unfold KN kas_rev
 by_cases h1:i<=k/\k<j
 ·rw [if_pos h1] at e ⊢;rw [cR e]
 ·rw [if_neg h1] at e ⊢;rw [cR e]
theorem eS {xs:Array Nat} {i j:Nat} (hj:j<=xs.size) (heq:∀ k,i<=k->k<j->KN O key xs k=KN O key xs (j-1)) (k:Nat):KN O key (kas_rev xs i j) k=KN O key xs k:=by
 rw [tI hj]
 split
 ·rw [heq _ (by lia) (by lia),heq k (by lia) (by lia)]
 ·rfl
theorem b0.rev {p:Array Nat} (h:b0 n p) (i j:Nat):b0 n (kas_rev p i j):=⟨(mirror_perm _ _ _ _).trans h.perm⟩
theorem b0.bub {p:Array Nat} (h:b0 n p) (i j:Nat):b0 n (bubble p i j):=⟨(bubble_perm _ _ _).trans h.perm⟩
noncomputable def mr (O:KeyOrd) (key:Nat->O.α) (p:Array Nat) (k:Nat):Prop:=∀ i j,i<=j->j<k->O.kle (KN O key p i) (KN O key p j)
noncomputable def nu (O:KeyOrd) (key:Nat->O.α) (p:Array Nat) (k:Nat):Prop:=∀ i j,i<=j->j<k->O.kle (KN O key p j) (KN O key p i)
theorem tV {p:Array Nat} (hp:b0 n p) {Q:Nat->Prop}:∀ (f a:Nat),1<=a->a+f=n->mr O key p a ->
 (∀ m,a<=m->m<=n->mr O key p m->(m=n\/O.klt (KN O key p m) (KN O key p (m-1)))->Q m)->dJ O key n (kas_asc p f a) Q
 | 0,a,_,hf,hs,h=>h a (ag _) (by lia) hs (.inl (by lia))
 | f+1,a,h1,hf,hs,h=>by
   refine ⟨hp.lt (by lia),hp.lt (by lia),?_⟩
   show dJ O key n (if O.blt (KN O key p a) (KN O key p (a-1))=true then _ else _) Q
   cases hless:O.blt (KN O key p a) (KN O key p (a-1)) with
   | true=>rw [if_pos rfl];exact h a (ag _) (by lia) hs (.inr hless)
   | false =>
     rw [if_neg am]
     refine tV hp f (a+1) (by lia) (by lia) (fun i j hij hj=>?_) fun m h2 h3 h4 h5=>h m (by lia) h3 h4 h5
     by_cases hjx:j<a
     ·exact hs i j hij hjx
     ·have hj':j=a:=by lia
      subst hj'
      by_cases hi':i=j
      ·subst hi';exact KeyOrd.kle_refl _
      ·exact KeyOrd.kle_trans (hs i (j-1) (by lia) (by lia)) hless
theorem qv {p:Array Nat} {m:Nat} (hp:b0 n p) {Q:Nat×Array Nat->Prop} (h1:1<=m) (hm:m<=n) (hs:nu O key p m)
 (h:∀ k p',b0 n p'->1<=k->k<=n->mr O key p' k->Q (k,p')):dJ O key n (kas_tail3 m n p) Q:=by
 unfold kas_tail3
 have hz:m<=p.size:=by rw [hp.size];exact hm
 refine dJ.bind (tV (hp.rev 0 m) (n-m) m h1 (by lia) (fun i j hij hj=>?_) fun k h2 h3 h4 _=>h k _ (hp.rev 0 m) (by lia) h3 h4)
 rw [tI hz,tI hz,if_pos (by lia),if_pos (by lia)]
 exact hs _ _ (by lia) (by lia)
theorem lU {Q:Array Nat×Nat×Nat->Prop}:∀ (f:Nat) (p:Array Nat) (a q:Nat),b0 n p->1<=a->a+f=n->nu O key p a->q+1<=a ->
 (∀ i,a-(q+1)<=i->i<a->KN O key p i=KN O key p (a-1)) ->
 (∀ p' m q',b0 n p'->a<=m->m<=n->nu O key p' m->q'+1<=m->(∀ i,m-(q'+1)<=i->i<m->KN O key p' i=KN O key p' (m-1))->Q (p',m,q'))->dJ O key n (kas_desc f p a q) Q
 | 0,p,a,q,hp,_,hf,hs,hq,he,h=>h p a q hp (ag _) (by lia) hs hq he
 | f+1,p,a,q,hp,h1,hf,hs,hq,he,h=>by
   have hz:a<=p.size:=by rw [hp.size];lia
   refine ⟨hp.lt (by lia),hp.lt (by lia),?_⟩
   show dJ O key n (if O.blt (KN O key p a) (KN O key p (a-1))=true then _ else _) Q
   cases hless:O.blt (KN O key p a) (KN O key p (a-1)) with
   | true =>
     rw [if_pos rfl]
     have step1:∀ xs:Array Nat,(∀ k,KN O key xs k=KN O key p k)->nu O key xs (a+1):=by
      intro xs hk i j hij hj
      rw [hk,hk]
      by_cases hjx:j<a
      ·exact hs i j hij hjx
      ·have hj':j=a:=by lia
       subst hj'
       by_cases hi':i=j
       ·subst hi';exact KeyOrd.kle_refl _
       ·exact KeyOrd.kle_trans (KeyOrd.kle_of_klt hless) (hs i (j-1) (by lia) (by lia))
     by_cases hneq:q > 0
     ·rw [if_pos hneq]
      exact lU f _ (a+1) 0 (hp.rev _ _) (by lia) (by lia) (step1 _ (eS hz he)) (by lia) (fun i h1 h2=>by congr 1;congr 1;lia) fun p' m q' a1 a2 a3 a4 a5 a6=>h p' m q' a1 (by lia) a3 a4 a5 a6
     ·rw [if_neg hneq]
      exact lU f _ (a+1) 0 hp (by lia) (by lia) (step1 _ fun _=>rfl) (by lia) (fun i h1 h2=>by congr 1;congr 1;lia) fun p' m q' a1 a2 a3 a4 a5 a6=>h p' m q' a1 (by lia) a3 a4 a5 a6
   | false =>
     rw [if_neg am]
     refine ⟨hp.lt (by lia),hp.lt (by lia),?_⟩
     show dJ O key n (if O.blt (KN O key p (a-1)) (KN O key p a)=true then _ else _) Q
     cases hlarger:O.blt (KN O key p (a-1)) (KN O key p a) with
     | true=>rw [if_pos rfl];exact h p a q hp (ag _) (by lia) hs hq he
     | false =>
       rw [if_neg am]
       have heqx:KN O key p a=KN O key p (a-1):=KeyOrd.kle_antisymm hlarger hless
       refine lU f p (a+1) (q+1) hp (by lia) (by lia) (fun i j hij hj=>?_) (by lia) (fun i h1 h2=>?_) fun p' m q' a1 a2 a3 a4 a5 a6=>h p' m q' a1 (by lia) a3 a4 a5 a6
       ·by_cases hjx:j<a
        ·exact hs i j hij hjx
        ·have hj':j=a:=by lia
         subst hj'
         by_cases hi':i=j
         ·subst hi';exact KeyOrd.kle_refl _
         ·rw [heqx];exact hs i (j-1) (by lia) (by lia)
       ·rw [show a+1-1=a by lia]
        by_cases hix:i=a
        ·subst hix;rfl
        ·rw [heqx];exact he i (by lia) (by lia)
theorem kh {p:Array Nat} {m:Nat} (hp:b0 n p) {Q:Nat×Array Nat->Prop} (hm:m+1<=n) (hs:nu O key p (m+1))
 (h:∀ k p',b0 n p'->1<=k->k<=n->mr O key p' k->Q (k,p')):dJ O key n (kas_descPart m n p) Q:=by
 unfold kas_descPart
 refine dJ.bind (lU (n-(m+1)) p (m+1) 0 hp (by lia) (by lia) hs (by lia) (fun i h1 h2=>by congr 1;congr 1;lia) fun p' k q' a1 a2 a3 a4 a5 a6=>?_)
 have hz:k<=p'.size:=by rw [a1.size];exact a3
 by_cases hq:q' > 0
 ·rw [if_pos hq]
  refine qv (m:=k) (a1.rev _ _) (by lia) a3 (fun i j hij hj=>?_) h
  rw [eS hz a6,eS hz a6]
  exact a4 i j hij hj
 ·rw [if_neg hq]
  exact qv (m:=k) a1 (by lia) a3 a4 h
theorem vZ {p:Array Nat} (hp:b0 n p) {Q:Nat×Array Nat->Prop} (h1:1<=n) (h:∀ k p',b0 n p'->1<=k->k<=n->mr O key p' k->Q (k,p')):dJ O key n (kas_count n p) Q:=by
 unfold kas_count
 refine dJ.bind (tV hp (n-1) 1 (ag _) (by lia) (fun i j hij hj=>by have:i=j:=(by lia);subst this;exact KeyOrd.kle_refl _) fun m hm1 hm2 hsm hor=>?_)
 by_cases hnn:m=n
 ·rw [if_pos (by simpa using hnn)];exact h m p hp hm1 hm2 hsm
 ·rw [if_neg (by simpa using hnn)]
  have hlt:O.klt (KN O key p m) (KN O key p (m-1)):=hor.resolve_left hnn
  have hz:m<=p.size:=by rw [hp.size];exact hm2
  by_cases hgt:m > 1
  ·rw [if_pos hgt]
   refine ⟨hp.lt (by lia),hp.lt (by lia),?_⟩
   show dJ O key n (if O.blt (KN O key p 0) (KN O key p (m-1))=true then _ else _) Q
   cases hrose:O.blt (KN O key p 0) (KN O key p (m-1)) with
   | true=>rw [if_pos rfl];exact h m p hp hm1 hm2 hsm
   | false =>
     rw [if_neg am]
     have hall:∀ k,0<=k->k<m->KN O key p k=KN O key p (m-1):=by
      intro k _ hk
      have a1:=hsm 0 k (by lia) hk
      have a2:=hsm k (m-1) (by lia) (by lia)
      have a3:O.kle (KN O key p (m-1)) (KN O key p 0):=hrose
      exact KeyOrd.kle_antisymm a2 (KeyOrd.kle_trans a3 a1)
     refine kh (hp.rev 0 m) (by lia) (fun i j hij hj=>?_) h
     rw [eS hz hall,eS hz hall]
     by_cases hjm:j<m
     ·rw [hall i (by lia) (by lia),hall j (by lia) hjm];exact KeyOrd.kle_refl _
     ·have hj':j=m:=by lia
      subst hj'
      by_cases hi':i=j
      ·subst hi';exact KeyOrd.kle_refl _
      ·rw [hall i (by lia) (by lia)];exact KeyOrd.kle_of_klt hlt
  ·rw [if_neg hgt]
   have e1:m=1:=by lia
   subst e1
   refine kh hp (by lia) (fun i j hij hj=>?_) h
   by_cases hi':i=j
   ·subst hi';exact KeyOrd.kle_refl _
   ·have ei:i=0:=by lia
    have ej:j=1:=by lia
    subst ei ej
    exact KeyOrd.kle_of_klt hlt
theorem mj {p:Array Nat} {k:Nat} (hp:b0 n p) (hk:k<n) (hs:mr O key p k) {Q:Nat->Prop}:∀ (f l r:Nat),l<=r->r<=k->r-l<=f ->
 (∀ i,i<l->O.kle (KN O key p i) (KN O key p k))->(∀ i,r<=i->i<k->O.klt (KN O key p k) (KN O key p i)) ->
 (∀ l,l<=k->(∀ i,i<l->O.kle (KN O key p i) (KN O key p k))->(∀ i,l<=i->i<k->O.klt (KN O key p k) (KN O key p i))->Q l)->dJ O key n (kas_place p k f l r) Q
 | 0,l,r,hlr,hrk,hf,hlo,hhi,h=>by
   have:l=r:=by lia
   subst this
   exact h l hrk hlo hhi
 | f+1,l,r,hlr,hrk,hf,hlo,hhi,h=>by
   unfold kas_place
   by_cases hge:l≥r
   ·rw [if_pos hge]
    have:l=r:=by lia
    subst this
    exact h l hrk hlo hhi
   ·rw [if_neg hge]
    refine ⟨hp.lt hk,hp.lt (by lia),?_⟩
    show dJ O key n (if O.blt (KN O key p k) (KN O key p ((l+r) / 2))=true then _ else _) Q
    cases hless:O.blt (KN O key p k) (KN O key p ((l+r) / 2)) with
    | true =>
      rw [if_pos rfl]
      exact mj hp hk hs f l ((l+r) / 2) (by lia) (by lia) (by lia) hlo (fun i h1 h2=>KeyOrd.klt_of_klt_of_kle hless (hs _ _ h1 h2)) h
    | false =>
      rw [if_neg am]
      exact mj hp hk hs f ((l+r) / 2+1) r (by lia) (by lia) (by lia) (fun i h1=>KeyOrd.kle_trans (hs i ((l+r) / 2) (by lia) (by lia)) (show O.kle _ _ from hless)) hhi h
theorem xt {Q:Array Nat->Prop}:∀ (f:Nat) (p:Array Nat) (k:Nat),b0 n p->k+f=n->mr O key p k->(∀ p',b0 n p'->mr O key p' n->Q p')->dJ O key n (kas_bin f p k) Q
 | 0,p,k,hp,hf,hs,h=>h p hp ((show k=n by lia)▸hs)
 | f+1,p,k,hp,hf,hs,h=>by
   unfold kas_bin
   refine dJ.bind (mj hp (by lia) hs k 0 k (by lia) (ag _) (by lia) (fun i hi=>by lia) (fun i h1 h2=>by lia) fun l hl hlo hhi=>?_)
   refine xt f _ (k+1) (hp.bub _ _) (by lia) (fun i j hij hj=>?_) h
   have hks:k<p.size:=by rw [hp.size];lia
   rw [m7 hks (by lia),m7 hks (by lia),show k-(k-l)=l by lia]
   repeat' split
   all_goals first
    | (exfalso;lia)
    | exact KeyOrd.kle_refl _
    | exact hlo _ (by lia)
    | exact KeyOrd.kle_of_klt (hhi _ (by lia) (by lia))
    | exact hs _ _ (by lia) (by lia)
theorem t6 {Q:Array Nat->Prop} (h1:1<=n) (h:∀ p,b0 n p->mr O key p n->Q p):dJ O key n (kas_sort n) Q:=by
 unfold kas_sort
 refine dJ.bind (vZ ⟨Array.Perm.refl _⟩ h1 fun k p hp a1 a2 a3=>?_)
 dsimp only
 by_cases hk:k<n
 ·rw [if_pos hk]
  rw [show max k 1=k by lia]
  exact xt (n-k) p k hp (by lia) a3 h
 ·rw [if_neg hk]
  have:k=n:=by lia
  subst this
  exact h p hp a3
end Ry
namespace Ry
open PySem PySem.W PyProof.Rows
structure Ora (prog:Program) (w:World) (A:Around) (s:Shared) (f:Nat->Keyed) (κ:SortKind) (n:Nat) (lt:Nat->Nat->Bool):Prop where
 ask:∀ i j (C:Bool->Shared->Prop),i<n->j<n->C (lt i j) s->wpAny (model prog w) A (keyLt' κ (f i).1 (f j).1) C (fun _ _=>False) s
 irr:∀ i,lt i i=false
 tr:∀ i j k,lt i j=true->lt j k=true->lt i k=true
 tot:∀ i j,i<n->j<n->i≠j->lt i j=true\/lt j i=true
structure Sst (f:Nat->Keyed) (κ:SortKind) (p:Array Nat) (pd:Array (Nat×Nat×Nat)) (st:SortSt):Prop where
 arr:arrOf st=p.map f
 kind:kindOf st=κ
 fail:failedOf st=none
 pend:pendingOf st=pd
noncomputable def pa (p:Array Nat) (i:Nat):Nat:=p.getD i 0
section
variable {prog:Program} {w:World} {A:Around} {E:Value->Shared->Prop} {s:Shared} {f:Nat->Keyed} {κ:SortKind} {n:Nat} {lt:Nat->Nat->Bool} {p:Array Nat} {pd:Array (Nat×Nat×Nat)} {st:SortSt}
theorem Ora.no (O:Ora prog w A s f κ n lt) {i j:Nat} (hi:i<n) (hj:j<n) (h:lt i j=false) (hne:i≠j):lt j i=true:=(O.tot i j hi hj hne).resolve_left (by rw [h];exact am)
theorem b0.inj (h:b0 n p) {i j:Nat} (hi:i<n) (hj:j<n) (e:pa p i=pa p j):i=j:=by
 have nd:p.toList.Nodup:=(bh.mp h.perm).nodup_iff.mpr (by simpa using List.nodup_range)
 have sz:=h.size
 have e1:pa p i=p.toList[i]'(by simp;lia):=by simp [pa,fR,sz,hi]
 have e2:pa p j=p.toList[j]'(by simp;lia):=by simp [pa,fR,sz,hj]
 rw [e1,e2] at e
 exact (eI nd).mp e
theorem CM (O:Ora prog w A s f κ n lt) {i j:Nat} {Q:Option Bool->SortSt->Prop} (hk:kindOf st=κ) (hi:i<n) (hj:j<n) (h:Q (some (lt i j)) st):wpS (model prog w) A E s (lt' (f i) (f j)) Q st:=by
 rw [lt'_eq]
 refine wpS_bind (wpS_get ?_)
 rw [hk]
 refine wpS_bind (wpS_lift (wpAny_attempt (wpAny_mono (O.ask i j (fun b s'=>s'=s/\b=lt i j) hi hj ⟨rfl,rfl⟩) (fun b s' q=>?_) fun _ _ q=>q.elim)))
 obtain ⟨rfl,rfl⟩:=q
 exact ⟨rfl,wpS_pure h⟩
theorem kR {q:Array Nat} {i:Nat} {Q:Keyed->SortSt->Prop} (hi:i<q.size) (h:Q (f (pa q i)) st):wpS (model prog w) A E s (elem' (q.map f) i) Q st:=by
 rw [elem'_eq]
 have e:(q.map f)[i]?=some (f (pa q i)):=by simp [pa,fR,hi]
 rw [e]
 exact wpS_pure h
theorem lb (O:Ora prog w A s f κ n lt) (S:Sst f κ p pd st) (hp:b0 n p) {i j:Nat} {Q:Option Bool->SortSt->Prop} (hi:i<n) (hj:j<n) (h:Q (some (lt (pa p i) (pa p j))) st):wpS (model prog w) A E s (ltAt' i j) Q st:=by
 rw [ltAt'_eq]
 refine wpS_bind (wpS_get ?_)
 show wpS _ _ _ _ (do let x <- elem' (arrOf st) i;let y <- elem' (arrOf st) j;lt' x y) Q st
 rw [S.arr]
 exact wpS_bind (kR (by rw [hp.size];exact hi) (wpS_bind (kR (by rw [hp.size];exact hj) (CM O S.kind (hp.lt hi) (hp.lt hj) h))))
theorem Sst.rev (S:Sst f κ p pd st) (i j:Nat):Sst f κ (kas_rev p i j) pd (setArr st (mirror (arrOf st) i j ((j-i) / 2))) :=
 ⟨by show mirror (arrOf st) i j ((j-i) / 2)=_;rw [S.arr];exact kas_swaps_map f (fun k=>i+k) (fun k=>j-1-k) _ p,S.kind,S.fail,S.pend⟩
theorem Sst.bub (S:Sst f κ p pd st) (k d:Nat):Sst f κ (bubble p k d) pd (setArr st (bubble (arrOf st) k d)) :=
 ⟨by show bubble (arrOf st) k d=_;rw [S.arr];exact kas_swaps_map f (fun i=>k-i) (fun i=>k-i-1) _ p,S.kind,S.fail,S.pend⟩
noncomputable def Seg (lt:Nat->Nat->Bool) (p:Array Nat) (a b:Nat):Prop:=∀ i j,a<=i->i<j->j<b->lt (pa p i) (pa p j)=true
theorem tH {src d:Nat} (hs:src<p.size) (hd:d<=src) (k:Nat):pa (bubble p src d) k=if k=src-d then pa p src else if src-d<k/\k<=src then pa p (k-1) else pa p k:=by
 have e:=getElem?_bubble hs d hd k
 unfold pa
 by_cases h1:k=src-d
 ·rw [if_pos h1] at e ⊢;rw [cR e]
 ·rw [if_neg h1] at e ⊢
  by_cases h2:src-d<k/\k<=src
  ·rw [if_pos h2] at e ⊢;rw [cR e]
  ·rw [if_neg h2] at e ⊢;rw [cR e]
theorem tm {i j:Nat} (hj:j<=p.size) (k:Nat):pa (kas_rev p i j) k=if i<=k/\k<j then pa p (i+j-1-k) else pa p k:=by
 have e:=getElem?_mirror_all (i:=i) hj k
 unfold pa kas_rev
 by_cases h1:i<=k/\k<j
 ·rw [if_pos h1] at e ⊢;rw [cR e]
 ·rw [if_neg h1] at e ⊢;rw [cR e]
theorem CA (O:Ora prog w A s f κ n lt) {lo m ok:Nat} {Q:Bool->SortSt->Prop} (hm:lo+m<=n) (hok:ok<=m) (S:Sst f κ p pd st) (hp:b0 n p) (hs:Seg lt p lo (lo+ok))
 (h:∀ p' st',Sst f κ p' pd st'->b0 n p'->Seg lt p' lo (lo+m)->(∀ i,i<lo->pa p' i=pa p i)->Q true st'):wpS (model prog w) A E s (binarySort' lo m ok) Q st:=by
 rw [binarySort'_eq]
 refine wpS_bind (wpS_mono (wpS_forRange (I:=fun k c st1=>c=(none,())/\∃ p1,Sst f κ p1 pd st1/\b0 n p1/\Seg lt p1 lo (lo+min k m)/\∀ i,i<lo->pa p1 i=pa p i)
  (Q:=fun c st1=>c=(none,())/\∃ p1,Sst f κ p1 pd st1/\b0 n p1/\Seg lt p1 lo (lo+m)/\∀ i,i<lo->pa p1 i=pa p i) ?step ?fin ?init) ?post)
 case post =>
  rintro c st1 ⟨rfl,p1,a,b,c,d⟩
  exact wpS_pure (h p1 st1 a b c d)
 case init =>
  refine ⟨rfl,p,S,hp,fun i j h1 h2 h3=>?_,fun _ _=>rfl⟩
  by_cases h0:ok=0
  ·exfalso;lia
  ·exact hs i j h1 h2 (by lia)
 case fin =>
  rintro c st1 ⟨hc,p1,a,b,d,e⟩
  refine ⟨hc,p1,a,b,?_,e⟩
  have e0:min (max (max ok 1) m) m=m:=by lia
  rw [e0] at d
  exact d
 case step =>
  rintro k c st1 hak hkn ⟨rfl,p1,S1,hp1,hs1,hb1⟩
  have e0:min k m=k:=by lia
  rw [e0] at hs1
  have hk:lo+k<n:=by lia
  refine wpS_bind (wpS_mono (wpS_forRange (I:=fun x c st2=>st2=st1/\∃ l r,c=(none,l,r)/\l<=r/\r<=k/\r-l<=k-x/\(∀ i,i<l->lt (pa p1 (lo+i)) (pa p1 (lo+k))=true)/\∀ i,r<=i->i<k->lt (pa p1 (lo+k)) (pa p1 (lo+i))=true)
   (Q:=fun c st2=>st2=st1/\∃ l r,c=(none,l,r)/\l<=k/\(∀ i,i<l->lt (pa p1 (lo+i)) (pa p1 (lo+k))=true)/\∀ i,l<=i->i<k->lt (pa p1 (lo+k)) (pa p1 (lo+i))=true) ?istep ?ifin ?iinit) ?ipost)
  case iinit=>exact ⟨rfl,0,k,rfl,by lia,by lia,by lia,fun i hi=>by lia,fun i h1 h2=>by lia⟩
  case ifin =>
   rintro c st2 ⟨rfl,l,r,rfl,h1,h2,h3,h4,h5⟩
   have e1:l=r:=by lia
   subst e1
   exact ⟨rfl,l,l,rfl,h2,h4,h5⟩
  case istep =>
   rintro x c st2 _ hx ⟨rfl,l,r,rfl,h1,h2,h3,h4,h5⟩
   dsimp only
   by_cases hge:l≥r
   ·rw [if_pos hge]
    have e1:l=r:=by lia
    subst e1
    exact wpS_pure ⟨rfl,l,l,rfl,h2,h4,h5⟩
   ·rw [if_neg hge]
    refine wpS_bind (lb O S1 hp1 hk (by lia) ?_)
    have hne:pa p1 (lo+k)≠pa p1 (lo+(l+r) / 2):=fun z=>by have:=hp1.inj hk (by lia) z;lia
    cases q:lt (pa p1 (lo+k)) (pa p1 (lo+(l+r) / 2)) with
    | true =>
      refine wpS_pure ⟨rfl,l,(l+r) / 2,rfl,by lia,by lia,by lia,h4,fun i a b=>?_⟩
      by_cases e2:i=(l+r) / 2
      ·rw [e2];exact q
      ·exact O.tr _ _ _ q (hs1 _ _ (by lia) (by lia) (by lia))
    | false =>
      have q':=O.no (hp1.lt hk) (hp1.lt (by lia)) q hne
      refine wpS_pure ⟨rfl,(l+r) / 2+1,r,rfl,by lia,by lia,by lia,fun i a=>?_,h5⟩
      by_cases e2:i=(l+r) / 2
      ·rw [e2];exact q'
      ·exact O.tr _ _ _ (hs1 _ _ (by lia) (by lia) (by lia)) q'
  case ipost =>
   rintro c st2 ⟨rfl,l,r,rfl,h1,h2,h3⟩
   show wpS _ _ _ _ (do moveDown' (lo+k) (lo+l);pure (ForInStep.yield (none,()))) _ _
   rw [moveDown'_eq]
   have hsz:lo+k<p1.size:=by rw [hp1.size];exact hk
   refine wpS_bind (wpS_modify (wpS_pure ⟨rfl,bubble p1 (lo+k) (lo+k-(lo+l)),S1.bub _ _,hp1.bub _ _,?_,fun i hi=>?_⟩))
   ·have e1:min (k+1) m=k+1:=by lia
    rw [e1]
    intro i j a b c
    rw [tH hsz (by lia),tH hsz (by lia)]
    have e2:lo+k-(lo+k-(lo+l))=lo+l:=by lia
    rw [e2]
    have at':∀ t,lo<=t->t<lo+l->lt (pa p1 t) (pa p1 (lo+k))=true:=fun t ta tb=>by have:=h2 (t-lo) (by lia);rwa [show lo+(t-lo)=t by lia] at this
    have up':∀ t,lo+l<=t->t<lo+k->lt (pa p1 (lo+k)) (pa p1 t)=true:=fun t ta tb=>by have:=h3 (t-lo) (by lia) (by lia);rwa [show lo+(t-lo)=t by lia] at this
    repeat' split
    all_goals first
     | (exfalso;lia)
     | exact at' _ (by lia) (by lia)
     | exact up' _ (by lia) (by lia)
     | (refine hs1 _ _ ?_ ?_ ?_<;>lia)
   ·have e1:pa (bubble p1 (lo+k) (lo+k-(lo+l))) i=pa p1 i:=by
     rw [tH hsz (by lia)]
     repeat' split
     all_goals first
      | (exfalso;lia)
      | rfl
    rw [e1]
    exact hb1 i hi
end
end Ry
namespace Ry
open PySem PySem.W PyProof.Rows
section
variable {prog:Program} {w:World} {A:Around} {E:Value->Shared->Prop} {s:Shared} {f:Nat->Keyed} {κ:SortKind} {n:Nat} {lt:Nat->Nat->Bool} {p:Array Nat} {pd:Array (Nat×Nat×Nat)} {st:SortSt}
theorem Seg.more (O:Ora prog w A s f κ n lt) {a x:Nat} (hp:b0 n p) (hs:Seg lt p a (a+x)) (hx:1<=x) (hn:a+x<n) (q:lt (pa p (a+x)) (pa p (a+x-1))=false):Seg lt p a (a+(x+1)):=by
 have hne:pa p (a+x)≠pa p (a+x-1):=fun z=>by have:=hp.inj hn (by lia) z;lia
 have q':=O.no (hp.lt hn) (hp.lt (by lia)) q hne
 intro i j h1 h2 h3
 by_cases hj:j<a+x
 ·exact hs i j h1 h2 hj
 ·have ej:j=a+x:=by lia
  subst ej
  by_cases hi:i=a+x-1
  ·rw [hi];exact q'
  ·exact O.tr _ _ _ (hs i (a+x-1) h1 (by lia) (by lia)) q'
theorem sJ (O:Ora prog w A s f κ n lt) {lo nrem:Nat} {Q:Option Nat->SortSt->Prop} (h1:1<=nrem) (hn:lo+nrem<=n) (S:Sst f κ p pd st) (hp:b0 n p)
 (h:∀ m p' st',Sst f κ p' pd st'->b0 n p'->1<=m->m<=nrem->Seg lt p' lo (lo+m)->(∀ i,i<lo->pa p' i=pa p i)->Q (some m) st'):wpS (model prog w) A E s (countRun' lo nrem) Q st:=by
 rw [countRun'_eq]
 refine wpS_bind (wpS_mono (wpS_forRange (I:=fun x c st1=>st1=st/\c=(none,x)/\1<=x/\x<=nrem/\Seg lt p lo (lo+x))
  (Q:=fun c st1=>st1=st/\∃ m,c=(none,m)/\1<=m/\m<=nrem/\Seg lt p lo (lo+m)/\(m=nrem\/lt (pa p (lo+m)) (pa p (lo+m-1))=true)) ?step ?fin ?init) ?post)
 case init=>exact ⟨rfl,rfl,ag _,h1,fun i j a b c=>by lia⟩
 case fin =>
  rintro c st1 ⟨rfl,rfl,a,b,d⟩
  exact ⟨rfl,_,rfl,a,b,d,.inl (by lia)⟩
 case step =>
  rintro x c st1 _ hx ⟨rfl,rfl,a,b,d⟩
  dsimp only
  refine wpS_bind (lb O S hp (by lia) (by lia) ?_)
  cases q:lt (pa p (lo+x)) (pa p (lo+x-1)) with
  | true=>exact wpS_pure ⟨rfl,x,rfl,a,b,d,.inr q⟩
  | false=>exact wpS_pure ⟨rfl,rfl,by lia,by lia,d.more O hp a (by lia) q⟩
 case post =>
  rintro c st1 ⟨rfl,m,rfl,a,b,d,e⟩
  dsimp only
  by_cases hm:m=nrem
  ·rw [if_pos (by rw [hm];exact beq_self_eq_true _)]
   exact wpS_pure (h m p st1 S hp a b d fun _ _=>rfl)
  ·rw [if_neg (by simpa using hm)]
   have e':=e.resolve_left hm
   by_cases hm1:m > 1
   ·rw [if_pos hm1]
    refine wpS_bind (lb O S hp (by lia) (by lia) ?_)
    rw [d lo (lo+m-1) (ag _) (by lia) (by lia)]
    exact wpS_pure (h m p st1 S hp a b d fun _ _=>rfl)
   ·rw [if_neg hm1]
    have em:m=1:=by lia
    subst em
    refine wpS_bind (wpS_lift (wpAny_rule ⟨rfl,?_⟩))
    refine wpS_bind (wpS_mono (wpS_forRange (I:=fun x c st2=>st2=st1/\c=(none,x,0)/\2<=x/\x<=nrem/\∀ i j,lo<=i->i<j->j<lo+x->lt (pa p j) (pa p i)=true)
     (Q:=fun c st2=>st2=st1/\∃ m,c=(none,m,0)/\2<=m/\m<=nrem/\∀ i j,lo<=i->i<j->j<lo+m->lt (pa p j) (pa p i)=true) ?dstep ?dfin ?dinit) ?dpost)
    case dinit =>
     refine ⟨rfl,rfl,ag _,by lia,fun i j i1 i2 i3=>?_⟩
     have ei:i=lo:=by lia
     have ej:j=lo+1:=by lia
     subst ei ej
     simpa using e'
    case dfin =>
     rintro c st2 ⟨rfl,rfl,a2,b2,d2⟩
     exact ⟨rfl,_,rfl,a2,b2,d2⟩
    case dstep =>
     rintro x c st2 _ hx ⟨rfl,rfl,a2,b2,d2⟩
     dsimp only
     refine wpS_bind (lb O S hp (by lia) (by lia) ?_)
     cases q:lt (pa p (lo+x)) (pa p (lo+x-1)) with
     | true =>
       refine wpS_pure ⟨rfl,rfl,by lia,by lia,fun i j i1 i2 i3=>?_⟩
       by_cases hj:j<lo+x
       ·exact d2 i j i1 i2 hj
       ·have ej:j=lo+x:=by lia
        subst ej
        by_cases hi:i=lo+x-1
        ·rw [hi];exact q
        ·exact O.tr _ _ _ q (d2 i (lo+x-1) i1 (by lia) (by lia))
     | false =>
       have hne:pa p (lo+x)≠pa p (lo+x-1):=fun z=>by have:=hp.inj (show lo+x<n by lia) (show lo+x-1<n by lia) z;lia
       have q':lt (pa p (lo+x-1)) (pa p (lo+x))=true:=O.no (hp.lt (show lo+x<n by lia)) (hp.lt (show lo+x-1<n by lia)) q hne
       dsimp only
       refine wpS_bind (lb O S hp (by lia) (by lia) ?_)
       rw [q']
       exact wpS_pure ⟨rfl,x,rfl,a2,b2,d2⟩
    case dpost =>
     rintro c st2 ⟨rfl,m,rfl,a2,b2,d2⟩
     dsimp only
     rw [if_neg (by lia)]
     rw [reverseSlice'_eq]
     refine wpS_bind (wpS_modify ?_)
     have S2:=S.rev lo (lo+m)
     have hp2:=hp.rev lo (lo+m)
     have hsz:lo+m<=p.size:=by rw [hp.size];lia
     have hlow:∀ i,i<lo->pa (kas_rev p lo (lo+m)) i=pa p i:=fun i hi=>by rw [tm hsz];exact if_neg (by lia)
     have hs2:Seg lt (kas_rev p lo (lo+m)) lo (lo+m):=fun i j i1 i2 i3=>by
      rw [tm hsz,tm hsz,if_pos ⟨i1,by lia⟩,if_pos ⟨by lia,i3⟩]
      exact d2 _ _ (by lia) (by lia) (by lia)
     refine wpS_bind (wpS_mono (wpS_forRange (I:=fun x c st3=>st3=setArr st2 (mirror (arrOf st2) lo (lo+m) ((lo+m-lo) / 2))/\c=(none,x)/\m<=x/\x<=nrem/\Seg lt (kas_rev p lo (lo+m)) lo (lo+x))
      (Q:=fun c st3=>st3=setArr st2 (mirror (arrOf st2) lo (lo+m) ((lo+m-lo) / 2))/\∃ k,c=(none,k)/\m<=k/\k<=nrem/\Seg lt (kas_rev p lo (lo+m)) lo (lo+k)) ?tstep ?tfin ?tinit) ?tpost)
     case tinit=>exact ⟨rfl,rfl,ag _,b2,hs2⟩
     case tfin =>
      rintro c st3 ⟨rfl,rfl,a3,b3,d3⟩
      exact ⟨rfl,_,rfl,a3,b3,d3⟩
     case tstep =>
      rintro x c st3 _ hx ⟨rfl,rfl,a3,b3,d3⟩
      dsimp only
      refine wpS_bind (lb O S2 hp2 (by lia) (by lia) ?_)
      cases q:lt (pa (kas_rev p lo (lo+m)) (lo+x)) (pa (kas_rev p lo (lo+m)) (lo+x-1)) with
      | true=>exact wpS_pure ⟨rfl,x,rfl,a3,b3,d3⟩
      | false=>exact wpS_pure ⟨rfl,rfl,by lia,by lia,d3.more O hp2 (by lia) (by lia) q⟩
     case tpost =>
      rintro c st3 ⟨rfl,k,rfl,a3,b3,d3⟩
      exact wpS_pure (h k _ _ S2 hp2 (by lia) b3 d3 hlow)
end
end Ry
namespace Ry
open PySem PySem.W PyProof.Rows
noncomputable def yx:Bool->Keyed->Array Keyed->Nat->Nat->Nat->StateT SortSt Sem (Option Nat):=sortPriv% PySem.Builtin.gallop
noncomputable def bd (lt:Nat->Nat->Bool) (left:Bool) (kx:Nat) (q:Array Nat) (base i:Nat):Bool:=if left=true then lt (pa q (base+i)) kx else !lt kx (pa q (base+i))
section
variable {prog:Program} {w:World} {A:Around} {E:Value->Shared->Prop} {s:Shared} {f:Nat->Keyed} {κ:SortKind} {n:Nat} {lt:Nat->Nat->Bool} {q:Array Nat} {st:SortSt} {left:Bool} {kx base m hint:Nat}
theorem sX (O:Ora prog w A s f κ n lt) (hk:kindOf st=κ) (hq:∀ i,i<q.size->pa q i<n) (hkx:kx<n) {i:Nat} {Q:Option Bool->SortSt->Prop} (hi:base+i<q.size) (h:Q (some (bd lt left kx q base i)) st) :
 wpS (model prog w) A E s (do let x <- elem' (q.map f) (base+i);if left=true then lt' x (f kx) else do let r <- lt' (f kx) x;pure (Option.map (fun y=>!y) r)) Q st:=by
 refine wpS_bind (kR hi ?_)
 unfold bd at h
 by_cases hl:left=true
 ·rw [if_pos hl] at h ⊢
  exact CM O hk (hq _ hi) hkx h
 ·rw [if_neg hl] at h ⊢
  exact wpS_bind (CM O hk hkx (hq _ hi) (wpS_pure h))
noncomputable def Bs (lt:Nat->Nat->Bool) (left:Bool) (kx:Nat) (q:Array Nat) (base m l r:Nat):Prop:=l<=r/\r<=m/\(l=0\/bd lt left kx q base (l-1)=true)/\(r=m\/bd lt left kx q base r=false)
theorem Bs.up {l r:Nat} (h:Bs lt left kx q base m l r) (hg:¬ l≥r) (z:bd lt left kx q base (l+(r-l) / 2)=true):Bs lt left kx q base m (l+(r-l) / 2+1) r:=⟨by lia,h.2.1,.inr z,h.2.2.2⟩
theorem Bs.dn {l r:Nat} (h:Bs lt left kx q base m l r) (hg:¬ l≥r) (z:bd lt left kx q base (l+(r-l) / 2)=false):Bs lt left kx q base m l (l+(r-l) / 2):=⟨by lia,by have:=h.2.1;lia,h.2.2.1,.inr z⟩
theorem Bs.end {r:Nat} (h:Bs lt left kx q base m r r) (mono:∀ i j,i<=j->j<m->bd lt left kx q base j=true->bd lt left kx q base i=true):(∀ i,i<r->bd lt left kx q base i=true)/\∀ i,r<=i->i<m->bd lt left kx q base i=false:=by
 obtain ⟨_,a,b,d⟩:=h
 refine ⟨fun i hi=>?_,fun i hi hm=>?_⟩
 ·rcases b with z | z
  ·lia
  ·exact mono i (r-1) (by lia) (by lia) z
 ·rcases d with z | z
  ·lia
  ·cases y:bd lt left kx q base i with
   | false=>rfl
   | true=>have:=mono r i hi hm y;rw [z] at this;cases this
theorem gZ (O:Ora prog w A s f κ n lt) (hk:kindOf st=κ) (hq:∀ i,i<q.size->pa q i<n) (hkx:kx<n) (hb:base+m<=q.size) (hh:hint<m) (mono:∀ i j,i<=j->j<m->bd lt left kx q base j=true->bd lt left kx q base i=true) {Q:Option Nat->SortSt->Prop}
 (h:∀ k,k<=m->(∀ i,i<k->bd lt left kx q base i=true)->(∀ i,k<=i->i<m->bd lt left kx q base i=false)->Q (some k) st):wpS (model prog w) A E s (yx left (f kx) (q.map f) base m hint) Q st:=by
 refine wpS_bind (sX O hk hq hkx (by lia) ?_)
 cases z:bd lt left kx q base hint with
 | true =>
   refine wpS_bind (wpS_mono (wpS_forRange (I:=fun x c st1=>st1=st/\∃ la of,c=(none,la,of)/\la<of/\la<m-hint/\x+1<=of/\bd lt left kx q base (hint+la)=true)
    (Q:=fun c st1=>st1=st/\∃ la of,c=(none,la,of)/\la<of/\la<m-hint/\bd lt left kx q base (hint+la)=true/\(of≥m-hint\/bd lt left kx q base (hint+of)=false)) ?step ?fin ?init) ?post)
   case init=>exact ⟨rfl,0,1,rfl,by lia,by lia,by lia,z⟩
   case fin =>
    rintro c st1 ⟨rfl,la,of,rfl,a,b,d,e⟩
    exact ⟨rfl,la,of,rfl,a,b,e,.inl (by lia)⟩
   case step =>
    rintro x c st1 _ hx ⟨rfl,la,of,rfl,a,b,d,e⟩
    dsimp only
    by_cases hge:of≥m-hint
    ·rw [if_pos hge]
     exact wpS_pure ⟨rfl,la,of,rfl,a,b,e,.inl hge⟩
    ·rw [if_neg hge]
     refine wpS_bind (sX O hk hq hkx (by lia) ?_)
     cases y:bd lt left kx q base (hint+of) with
     | true=>exact wpS_pure ⟨rfl,of,2*of+1,rfl,by lia,by lia,by lia,y⟩
     | false=>exact wpS_pure ⟨rfl,la,of,rfl,a,b,e,.inr y⟩
   case post =>
    rintro c st1 ⟨rfl,la,of,rfl,a,b,d,e⟩
    dsimp only
    have bs0:Bs lt left kx q base m (hint+la+1) (hint+min of (m-hint)):=⟨by lia,by lia,.inr (by simpa using d),by
     by_cases hge:of≥m-hint
     ·exact .inl (by lia)
     ·have e0:min of (m-hint)=of:=by lia
      rw [e0]
      exact .inr (e.resolve_left hge)⟩
    refine wpS_bind (wpS_mono (wpS_forRange (I:=fun x c st2=>st2=st1/\∃ l r,c=(none,l,r)/\r-l<=m-x/\Bs lt left kx q base m l r) (Q:=fun c st2=>st2=st1/\∃ r,c=(none,r,r)/\Bs lt left kx q base m r r) ?bstep1 ?bfin1 ?binit1) ?bpost1)
    case binit1=>exact ⟨rfl,_,_,rfl,by have:=bs0.2.1;lia,bs0⟩
    case bfin1 =>
     rintro c st2 ⟨rfl,l,r,rfl,a,b⟩
     have el:l=r:=by have:=b.1;lia
     subst el
     exact ⟨rfl,l,rfl,b⟩
    case bstep1 =>
     rintro x c st2 _ hx ⟨rfl,l,r,rfl,a,b⟩
     dsimp only
     have b1:=b.1
     have b2:=b.2.1
     by_cases hge:l≥r
     ·rw [if_pos hge]
      have el:l=r:=by lia
      subst el
      exact wpS_pure ⟨rfl,l,rfl,b⟩
     ·rw [if_neg hge]
      refine wpS_bind (sX O hk hq hkx (by lia) ?_)
      cases z:bd lt left kx q base (l+(r-l) / 2) with
      | true=>exact wpS_pure ⟨rfl,_,_,rfl,by lia,b.up hge z⟩
      | false=>exact wpS_pure ⟨rfl,_,_,rfl,by lia,b.dn hge z⟩
    case bpost1 =>
     rintro c st2 ⟨rfl,r,rfl,b⟩
     obtain ⟨b1,b2⟩:=b.end mono
     exact wpS_pure (h r b.2.1 b1 b2)
 | false =>
   refine wpS_bind (wpS_mono (wpS_forRange (I:=fun x c st1=>st1=st/\∃ la of,c=(none,la,of)/\la<of/\la<hint+1/\x+1<=of/\bd lt left kx q base (hint-la)=false)
    (Q:=fun c st1=>st1=st/\∃ la of,c=(none,la,of)/\la<of/\la<hint+1/\bd lt left kx q base (hint-la)=false/\(of≥hint+1\/bd lt left kx q base (hint-of)=true)) ?step2 ?fin2 ?init2) ?post2)
   case init2=>exact ⟨rfl,0,1,rfl,by lia,by lia,by lia,z⟩
   case fin2 =>
    rintro c st1 ⟨rfl,la,of,rfl,a,b,d,e⟩
    exact ⟨rfl,la,of,rfl,a,b,e,.inl (by lia)⟩
   case step2 =>
    rintro x c st1 _ hx ⟨rfl,la,of,rfl,a,b,d,e⟩
    dsimp only
    by_cases hge:of≥hint+1
    ·rw [if_pos hge]
     exact wpS_pure ⟨rfl,la,of,rfl,a,b,e,.inl hge⟩
    ·rw [if_neg hge]
     refine wpS_bind (sX O hk hq hkx (by lia) ?_)
     cases y:bd lt left kx q base (hint-of) with
     | false=>exact wpS_pure ⟨rfl,of,2*of+1,rfl,by lia,by lia,by lia,y⟩
     | true=>exact wpS_pure ⟨rfl,la,of,rfl,a,b,e,.inr y⟩
   case post2 =>
    rintro c st1 ⟨rfl,la,of,rfl,a,b,d,e⟩
    dsimp only
    have bs0:Bs lt left kx q base m (hint+1-min of (hint+1)) (hint-la):=⟨by lia,by lia,by
     by_cases hge:of≥hint+1
     ·exact .inl (by lia)
     ·have e0:hint+1-min of (hint+1)-1=hint-of:=by lia
      rw [e0]
      exact .inr (e.resolve_left hge),.inr d⟩
    refine wpS_bind (wpS_mono (wpS_forRange (I:=fun x c st2=>st2=st1/\∃ l r,c=(none,l,r)/\r-l<=m-x/\Bs lt left kx q base m l r) (Q:=fun c st2=>st2=st1/\∃ r,c=(none,r,r)/\Bs lt left kx q base m r r) ?bstep2 ?bfin2 ?binit2) ?bpost2)
    case binit2=>exact ⟨rfl,_,_,rfl,by have:=bs0.2.1;lia,bs0⟩
    case bfin2 =>
     rintro c st2 ⟨rfl,l,r,rfl,a,b⟩
     have el:l=r:=by have:=b.1;lia
     subst el
     exact ⟨rfl,l,rfl,b⟩
    case bstep2 =>
     rintro x c st2 _ hx ⟨rfl,l,r,rfl,a,b⟩
     dsimp only
     have b1:=b.1
     have b2:=b.2.1
     by_cases hge:l≥r
     ·rw [if_pos hge]
      have el:l=r:=by lia
      subst el
      exact wpS_pure ⟨rfl,l,rfl,b⟩
     ·rw [if_neg hge]
      refine wpS_bind (sX O hk hq hkx (by lia) ?_)
      cases z:bd lt left kx q base (l+(r-l) / 2) with
      | true=>exact wpS_pure ⟨rfl,_,_,rfl,by lia,b.up hge z⟩
      | false=>exact wpS_pure ⟨rfl,_,_,rfl,by lia,b.dn hge z⟩
    case bpost2 =>
     rintro c st2 ⟨rfl,r,rfl,b⟩
     obtain ⟨b1,b2⟩:=b.end mono
     exact wpS_pure (h r b.2.1 b1 b2)
end
end Ry
namespace Ry
open PySem PySem.W PyProof.Rows
noncomputable def wJ:Array Keyed->Array Keyed->StateT SortSt Sem (Array Keyed):=sortPriv% PySem.Builtin.mergeLo
noncomputable abbrev ar (f:Nat->Keyed) (l:List Nat):Array Keyed:=l.toArray.map f
noncomputable abbrev Up1 (lt:Nat->Nat->Bool) (l:List Nat):Prop:=l.Pairwise fun a b=>lt a b=true
structure gf (st st':SortSt):Prop where
 kind:kindOf st'=kindOf st
 arr:arrOf st'=arrOf st
 pend:pendingOf st'=pendingOf st
 fail:failedOf st'=failedOf st
theorem gf.refl (st:SortSt):gf st st:=⟨rfl,rfl,rfl,rfl⟩
theorem gf.trans {a b c:SortSt} (h:gf a b) (h':gf b c):gf a c:=⟨h'.kind.trans h.kind,h'.arr.trans h.arr,h'.pend.trans h.pend,h'.fail.trans h.fail⟩
theorem yz (X:List Nat) (i:Nat):pa X.toArray i=X.getD i 0:=by
 unfold pa
 rw [fX,ai]
 simp
theorem dQ {X:List Nat} {i:Nat} (h:i<X.length):pa X.toArray i=X[i]:=by rw [yz,ai,ae h];rfl
theorem pB {X:List Nat} {i:Nat} (h:i<X.length):X.drop i=pa X.toArray i::X.drop (i+1):=by rw [dQ h];exact gE h
theorem Up1.at {lt:Nat->Nat->Bool} {X:List Nat} (h:Up1 lt X) {i j:Nat} (hij:i<j) (hj:j<X.length):lt (pa X.toArray i) (pa X.toArray j)=true:=by
 rw [dQ hj,dQ (by lia)]
 exact bS.mp h i j (by lia) hj hij
theorem gT {X:List Nat} {k b:Nat} (h:b∈X.drop k):∃ i,k<=i/\i<X.length/\b=pa X.toArray i:=by
 obtain ⟨i,hi,e⟩:=bq h
 rw [ck] at hi
 refine ⟨k+i,by lia,by lia,?_⟩
 rw [dQ (by lia),<- e,dW]
structure Jn (lt:Nat->Nat->Bool) (X Y l:List Nat) (ia ib:Nat):Prop where
 perm:(l++(X.drop ia++Y.drop ib)).Perm (X++Y)
 srt:Up1 lt l
 lx:∀ a∈l,∀ i,ia<=i->i<X.length->lt a (pa X.toArray i)=true
 ly:∀ a∈l,∀ j,ib<=j->j<Y.length->lt a (pa Y.toArray j)=true
section
variable {lt:Nat->Nat->Bool} {X Y l:List Nat} {ia ib:Nat}
theorem Jn.takeB (h:Jn lt X Y l ia ib) (YP:Up1 lt Y) (hb:ib<Y.length) (hx:∀ i,ia<=i->i<X.length->lt (pa Y.toArray ib) (pa X.toArray i)=true):Jn lt X Y (l++[pa Y.toArray ib]) ia (ib+1):=by
 refine ⟨?_,ba.mpr ⟨h.srt,bj _ _,fun a ha b hb'=>?_⟩,fun a ha i h1 h2=>?_,fun a ha j h1 h2=>?_⟩
 ·refine List.Perm.trans ?_ h.perm
  rw [pB hb,aX]
  refine List.Perm.append_left l ?_
  exact (CS (l₁:=X.drop ia)).symm
 ·rw [au] at hb'
  subst hb'
  exact h.ly a ha ib (ag _) hb
 ·rcases aE.mp ha with z | z
  ·exact h.lx a z i h1 h2
  ·rw [au] at z;subst z;exact hx i h1 h2
 ·rcases aE.mp ha with z | z
  ·exact h.ly a z j (by lia) h2
  ·rw [au] at z;subst z;exact YP.at (by lia) h2
theorem Jn.takeA (h:Jn lt X Y l ia ib) (XP:Up1 lt X) (ha:ia<X.length) (hy:∀ j,ib<=j->j<Y.length->lt (pa X.toArray ia) (pa Y.toArray j)=true):Jn lt X Y (l++[pa X.toArray ia]) (ia+1) ib:=by
 refine ⟨?_,ba.mpr ⟨h.srt,bj _ _,fun a ha' b hb'=>?_⟩,fun a ha' i h1 h2=>?_,fun a ha' j h1 h2=>?_⟩
 ·have:=h.perm
  rw [pB ha] at this
  simpa using this
 ·rw [au] at hb'
  subst hb'
  exact h.lx a ha' ia (ag _) ha
 ·rcases aE.mp ha' with z | z
  ·exact h.lx a z i (by lia) h2
  ·rw [au] at z;subst z;exact XP.at (by lia) h2
 ·rcases aE.mp ha' with z | z
  ·exact h.ly a z j h1 h2
  ·rw [au] at z;subst z;exact hy j h1 h2
theorem jG {X:List Nat} {i k:Nat} (h:i+k<X.length):(X.drop i).take (k+1)=(X.drop i).take k++[pa X.toArray (i+k)]:=by
 rw [AG,dQ h]
 congr 1
 rw [List.getElem?_drop,ae h]
 rfl
theorem Jn.takeAs (h:Jn lt X Y l ia ib) (XP:Up1 lt X):∀ k,ia+k<=X.length->(∀ i,ia<=i->i<ia+k->∀ j,ib<=j->j<Y.length->lt (pa X.toArray i) (pa Y.toArray j)=true)->Jn lt X Y (l++(X.drop ia).take k) (ia+k) ib
 | 0,_,_=>by simpa using h
 | k+1,hk,hy=>by
   have h1:=(Jn.takeAs h XP k (by lia) fun i a b=>hy i a (by lia)).takeA XP (by lia) (hy (ia+k) (by lia) (by lia))
   rw [jG (by lia),<- aX]
   exact h1
theorem Jn.takeBs (h:Jn lt X Y l ia ib) (YP:Up1 lt Y):∀ k,ib+k<=Y.length->(∀ j,ib<=j->j<ib+k->∀ i,ia<=i->i<X.length->lt (pa Y.toArray j) (pa X.toArray i)=true)->Jn lt X Y (l++(Y.drop ib).take k) ia (ib+k)
 | 0,_,_=>by simpa using h
 | k+1,hk,hx=>by
   have h1:=(Jn.takeBs h YP k (by lia) fun i a b=>hx i a (by lia)).takeB YP (by lia) (hx (ib+k) (by lia) (by lia))
   rw [jG (by lia),<- aX]
   exact h1
structure Dn (lt:Nat->Nat->Bool) (X Y r:List Nat):Prop where
 perm:r.Perm (X++Y)
 srt:Up1 lt r
theorem Up1.drop {X:List Nat} (h:Up1 lt X) (k:Nat):Up1 lt (X.drop k):=List.Pairwise.sublist (List.drop_sublist _ _) h
theorem Jn.done (h:Jn lt X Y l ia ib) (XP:Up1 lt X) (YP:Up1 lt Y) (e:X.length<=ia\/Y.length<=ib):Dn lt X Y (l++X.drop ia++Y.drop ib):=by
 refine ⟨by rw [aX];exact h.perm,?_⟩
 refine ba.mpr ⟨ba.mpr ⟨h.srt,XP.drop _,fun a ha b hb=>?_⟩,YP.drop _,fun a ha b hb=>?_⟩
 ·obtain ⟨i,h1,h2,rfl⟩:=gT hb
  exact h.lx a ha i h1 h2
 ·obtain ⟨j,h1,h2,rfl⟩:=gT hb
  rcases aE.mp ha with z | z
  ·exact h.ly a z j h1 h2
  ·obtain ⟨i,h3,h4,rfl⟩:=gT z
   lia
theorem Jn.last (h:Jn lt X Y l ia ib) (YP:Up1 lt Y) (e:ia+1=X.length) (hl:∀ j,j<Y.length->lt (pa Y.toArray j) (pa X.toArray (X.length-1))=true):Dn lt X Y (l++Y.drop ib++X.drop ia):=by
 have hd:X.drop ia=[pa X.toArray ia]:=by rw [pB (by lia),b8 (by lia)]
 have el:ia=X.length-1:=by lia
 refine ⟨?_,?_⟩
 ·refine List.Perm.trans ?_ h.perm
  rw [aX]
  exact List.Perm.append_left l vy
 ·rw [hd]
  refine ba.mpr ⟨ba.mpr ⟨h.srt,YP.drop _,fun a ha b hb=>?_⟩,bj _ _,fun a ha b hb=>?_⟩
  ·obtain ⟨j,h1,h2,rfl⟩:=gT hb
   exact h.ly a ha j h1 h2
  ·rw [au] at hb
   subst hb
   rcases aE.mp ha with z | z
   ·exact h.lx a z ia (ag _) (by lia)
   ·obtain ⟨j,h1,h2,rfl⟩:=gT z
    rw [el]
    exact hl j h2
end
section
variable {f:Nat->Keyed}
theorem dF (l:List Nat):(ar f l).size=l.length:=by simp
theorem lA (l:List Nat) (a:Nat):(ar f l).push (f a)=ar f (l++[a]):=by simp
theorem oH (l X:List Nat) (i k:Nat):ar f l++(ar f X).extract i (i+k)=ar f (l++(X.drop i).take k):=by
 apply cE.mp
 simp [ce,eW,eZ]
theorem qH (l X:List Nat) (i:Nat):ar f l++(ar f X).extract i (ar f X).size=ar f (l++X.drop i):=by
 apply cE.mp
 simp [ce,eZ]
 rw [cB (by simp)]
end
section
variable {prog:Program} {w:World} {A:Around} {E:Value->Shared->Prop} {s:Shared} {f:Nat->Keyed} {κ:SortKind} {n:Nat} {lt:Nat->Nat->Bool} {st:SortSt} {X Y:List Nat}
theorem gx {i:Nat} {Q:Keyed->SortSt->Prop} (hi:i<X.length) (h:Q (f (pa X.toArray i)) st):wpS (model prog w) A E s (elem' (ar f X) i) Q st:=kR (by simpa using hi) h
theorem Ora.all (O:Ora prog w A s f κ n lt) {X:List Nat} (XP:Up1 lt X) {a i j:Nat} (hij:i<=j) (hj:j<X.length) (h:lt a (pa X.toArray i)=true):lt a (pa X.toArray j)=true:=by
 by_cases e:i=j
 ·rw [<- e];exact h
 ·exact O.tr _ _ _ h (XP.at (by lia) hj)
theorem Ora.allR (O:Ora prog w A s f κ n lt) {X:List Nat} (XP:Up1 lt X) {a i j:Nat} (hij:i<=j) (hj:j<X.length) (h:lt (pa X.toArray j) a=true):lt (pa X.toArray i) a=true:=by
 by_cases e:i=j
 ·rw [e];exact h
 ·exact O.tr _ _ _ (XP.at (by lia) hj) h
end
end Ry
namespace Ry
open PySem PySem.W PyProof.Rows
section
variable {prog:Program} {w:World} {A:Around} {E:Value->Shared->Prop} {s:Shared} {f:Nat->Keyed} {κ:SortKind} {n:Nat} {lt:Nat->Nat->Bool} {st:SortSt} {X Y:List Nat}
structure Gn (lt:Nat->Nat->Bool) (X Y l:List Nat) (ia ib:Nat):Prop where
 j:Jn lt X Y l ia ib
 a:ia+1<X.length
 b:ib<Y.length
theorem zQ (l X Y:List Nat) (ia ib:Nat):ar f l++(ar f X).extract ia (ar f X).size++(ar f Y).extract ib (ar f Y).size=ar f (l++X.drop ia++Y.drop ib):=by rw [qH,qH]
theorem qo {g:Nat} {Q:Unit->SortSt->Prop} (h:∀ st',gf st st'->Q () st'):wpS (model prog w) A E s ((sortPriv% PySem.Builtin.setMinGallop) g) Q st:=wpS_modify (h _ ⟨rfl,rfl,rfl,rfl⟩)
theorem eA {α:Type} {c:Prop} [Decidable c] {T F:StateT SortSt Sem α} {Q:α->SortSt->Prop} (h1:c->wpS (model prog w) A E s T Q st) (h2:¬ c->wpS (model prog w) A E s F Q st):wpS (model prog w) A E s (if c then T else F) Q st:=by
 by_cases hc:c
 ·rw [if_pos hc];exact h1 hc
 ·rw [if_neg hc];exact h2 hc
theorem sr (O:Ora prog w A s f κ n lt) (hk:kindOf st=κ) (hX:∀ i,i<X.length->pa X.toArray i<n) (hY:∀ i,i<Y.length->pa Y.toArray i<n) (hd:∀ i j,i<X.length->j<Y.length->pa X.toArray i≠pa Y.toArray j) (XP:Up1 lt X) (YP:Up1 lt Y) (nX:0<X.length) (nY:0<Y.length)
 (h0:lt (pa Y.toArray 0) (pa X.toArray 0)=true) (hl:∀ j,j<Y.length->lt (pa Y.toArray j) (pa X.toArray (X.length-1))=true) {Q:Array Keyed->SortSt->Prop}
 (h:∀ r st',gf st st'->Dn lt X Y r->Q (ar f r) st'):wpS (model prog w) A E s (wJ (ar f X) (ar f Y)) Q st:=by
 have hXq:∀ i,i<X.toArray.size->pa X.toArray i<n:=fun i hi=>hX i (by simpa using hi)
 have hYq:∀ i,i<Y.toArray.size->pa Y.toArray i<n:=fun i hi=>hY i (by simpa using hi)
 have dn:∀ {l:List Nat} {ia ib:Nat},Jn lt X Y l ia ib->(X.length<=ia\/Y.length<=ib)->∃ r,ar f l++(ar f X).extract ia (ar f X).size++(ar f Y).extract ib (ar f Y).size=ar f r/\Dn lt X Y r:=fun j e=>⟨_,zQ _ _ _ _ _,j.done XP YP e⟩
 have la:∀ {l:List Nat} {ia ib:Nat},Jn lt X Y l ia ib->ia+1=X.length->∃ r,ar f l++(ar f Y).extract ib (ar f Y).size++(ar f X).extract ia (ar f X).size=ar f r/\Dn lt X Y r:=fun j e=>⟨_,by rw [qH,qH],j.last YP e hl⟩
 refine wpS_bind (wpS_lift (wpAny_rule ⟨rfl,?_⟩))
 dsimp only
 refine wpS_bind (gx nY ?_)
 have J0:Jn lt X Y [] 0 0:=⟨by simp,.nil,by simp,by simp⟩
 have J1:Jn lt X Y [pa Y.toArray 0] 0 1:=by simpa using J0.takeB YP nY fun i _ hi=>O.all XP (aU _) hi h0
 have eo:(#[f (pa Y.toArray 0)]:Array Keyed)=ar f [pa Y.toArray 0]:=by simp
 rw [eo]
 by_cases c1:Y.length=1
 ·rw [if_pos (by rw [dF,c1];rfl)]
  obtain ⟨r,er,dr⟩:=dn J1 (.inr (by lia))
  rw [er]
  exact wpS_pure (h r st (.refl _) dr)
 rw [if_neg (by rw [dF,beq_iff_eq];lia)]
 by_cases c2:X.length=1
 ·rw [if_pos (by rw [dF,c2];rfl)]
  obtain ⟨r,er,dr⟩:=la J1 (by lia)
  rw [er]
  exact wpS_pure (h r st (.refl _) dr)
 rw [if_neg (by rw [dF,beq_iff_eq];lia)]
 refine wpS_bind (wpS_get ?_)
 refine wpS_bind (wpS_mono (wpS_forRange (I:=fun x c st1=>gf st st1/\∃ l ia ib mg,c=(none,ar f l,ia,ib,mg)/\Gn lt X Y l ia ib/\x+1<=ia+ib)
  (Q:=fun c st1=>gf st st1/\∃ r,c.1=some (ar f r)/\Dn lt X Y r) ?step ?fin ?init) ?post)
 case init=>exact ⟨.refl _,_,0,1,_,rfl,⟨J1,by lia,by lia⟩,by lia⟩
 case fin =>
  rintro c st1 ⟨_,l,ia,ib,mg,rfl,g,hx⟩
  exfalso
  have:=g.a
  have:=g.b
  rw [dF,dF] at hx
  lia
 case post =>
  rintro c st1 ⟨sg,r,e,dr⟩
  rw [e]
  exact wpS_pure (h r st1 sg dr)
 case step =>
  rintro x c st1 _ hx ⟨sg,l,ia,ib,mg,rfl,g,hxi⟩
  dsimp only
  have hk1:kindOf st1=κ:=sg.kind.trans hk
  refine wpS_bind (wpS_mono (wpS_forRange (I:=fun y c st2=>st2=st1/\∃ l ja jb ac bc,c=(none,ar f l,ja,jb,ac,bc)/\Gn lt X Y l ja jb/\ia+ib+y<=ja+jb)
   (Q:=fun c st2=>st2=st1/\((∃ r,c.1=some (ar f r)/\Dn lt X Y r)\/∃ l ja jb ac bc,c=(none,ar f l,ja,jb,ac,bc)/\Gn lt X Y l ja jb/\ia+ib+1<=ja+jb)) ?istep ?ifin ?iinit) ?ipost)
  case iinit=>exact ⟨rfl,l,ia,ib,0,0,rfl,g,by lia⟩
  case ifin =>
   rintro c st2 ⟨rfl,l,ja,jb,ac,bc,rfl,g,hy⟩
   refine ⟨rfl,.inr ⟨l,ja,jb,ac,bc,rfl,g,?_⟩⟩
   rw [dF,dF] at hy
   lia
  case istep =>
   rintro y c st2 _ hy ⟨rfl,l,ja,jb,ac,bc,rfl,g,hyi⟩
   dsimp only
   have ga:=g.a
   have gb:=g.b
   refine wpS_bind (gx gb (wpS_bind (gx (X:=X) (by lia) (wpS_bind (CM O hk1 (hY _ gb) (hX _ (by lia)) ?_)))))
   cases z:lt (pa Y.toArray jb) (pa X.toArray ja) with
   | true =>
     dsimp only
     rw [if_pos rfl]
     refine wpS_bind (gx gb ?_)
     rw [lA]
     have J2:=g.j.takeB YP gb fun i h1 h2=>O.all XP h1 h2 z
     by_cases c3:jb+1=Y.length
     ·rw [if_pos (by rw [dF,c3];exact beq_self_eq_true _)]
      obtain ⟨r,er,dr⟩:=dn J2 (.inr (by lia))
      rw [er]
      exact wpS_pure ⟨rfl,.inl ⟨r,rfl,dr⟩⟩
     ·rw [if_neg (by rw [dF,beq_iff_eq];exact c3)]
      by_cases c4:bc+1≥mg
      ·rw [if_pos c4]
       exact wpS_pure ⟨rfl,.inr ⟨_,_,_,_,_,rfl,⟨J2,ga,by lia⟩,by lia⟩⟩
      ·rw [if_neg c4]
       exact wpS_pure ⟨rfl,_,_,_,_,_,rfl,⟨J2,ga,by lia⟩,by lia⟩
   | false =>
     dsimp only
     rw [if_neg am]
     refine wpS_bind (gx (X:=X) (by lia) ?_)
     rw [lA]
     have z':=O.no (hY _ gb) (hX _ (show ja<X.length by lia)) z (Ne.symm (hd _ _ (by lia) gb))
     have J2:=g.j.takeA XP (by lia) fun j h1 h2=>O.all YP h1 h2 z'
     by_cases c3:ja+1+1=X.length
     ·rw [if_pos (by rw [dF,c3];exact beq_self_eq_true _)]
      obtain ⟨r,er,dr⟩:=la J2 c3
      rw [er]
      exact wpS_pure ⟨rfl,.inl ⟨r,rfl,dr⟩⟩
     ·rw [if_neg (by rw [dF,beq_iff_eq];exact c3)]
      by_cases c4:ac+1≥mg
      ·rw [if_pos c4]
       exact wpS_pure ⟨rfl,.inr ⟨_,_,_,_,_,rfl,⟨J2,by lia,gb⟩,by lia⟩⟩
      ·rw [if_neg c4]
       exact wpS_pure ⟨rfl,_,_,_,_,_,rfl,⟨J2,by lia,gb⟩,by lia⟩
  case ipost =>
   rintro c st2 ⟨rfl,⟨r,er,dr⟩ | ⟨l,ja,jb,ac,bc,rfl,g,hyi⟩⟩
   ·obtain ⟨c1,c2,c3,c4,c5,c6⟩:=c
    cases er
    exact wpS_pure ⟨sg,r,rfl,dr⟩
   ·dsimp only
    refine wpS_bind (wpS_lift (wpAny_rule ⟨rfl,?_⟩))
    refine wpS_bind (wpS_mono (wpS_forRange (I:=fun _ c st3=>gf st st3/\∃ l ka kb mg ac bc,c=(none,ar f l,ka,kb,mg,ac,bc)/\Gn lt X Y l ka kb/\ja+jb<=ka+kb)
     (Q:=fun c st3=>gf st st3/\((∃ r,c.1=some (ar f r)/\Dn lt X Y r)\/∃ l ka kb mg ac bc,c=(none,ar f l,ka,kb,mg,ac,bc)/\Gn lt X Y l ka kb/\ja+jb<=ka+kb)) ?gstep ?gfin ?ginit) ?gpost)
    case ginit=>exact ⟨sg,l,ja,jb,_,ac,bc,rfl,g,ag _⟩
    case gfin =>
     rintro c st3 ⟨sg3,l,ka,kb,mg,ac,bc,rfl,g,hy⟩
     exact ⟨sg3,.inr ⟨l,ka,kb,mg,ac,bc,rfl,g,hy⟩⟩
    case gpost =>
     rintro c st3 ⟨sg3,⟨r,er,dr⟩ | ⟨l,ka,kb,mg,ac,bc,rfl,g,hy⟩⟩
     ·obtain ⟨c1,c2,c3,c4,c5,c6,c7⟩:=c
      cases er
      exact wpS_pure ⟨sg3,r,rfl,dr⟩
     ·dsimp only
      refine wpS_bind (qo fun st4 sg4=>wpS_pure ⟨sg3.trans sg4,l,ka,kb,_,rfl,g,by lia⟩)
    case gstep =>
     rintro y c st3 _ hy ⟨sg3,l,ka,kb,mg,ac,bc,rfl,g,hyi⟩
     dsimp only
     have ga:=g.a
     have gb:=g.b
     have hk3:kindOf st3=κ:=sg3.kind.trans hk
     have szX:(ar f X).size=X.length:=dF X
     have szY:(ar f Y).size=Y.length:=dF Y
     by_cases hmg:mg > 1
     all_goals
      first | rw [if_pos hmg] | rw [if_neg hmg]
      refine wpS_bind (qo fun st4 sg4=>?_)
      have sg34:=sg3.trans sg4
      have hk4:kindOf st4=κ:=sg34.kind.trans hk
      refine wpS_bind (gx gb ?_)
      refine wpS_bind (gZ (f:=f) (q:=X.toArray) (left:=false) (kx:=pa Y.toArray kb) (base:=ka) (m:=(ar f X).size-ka) (hint:=0) O hk4 hXq (hY _ gb) (by rw [szX];simp;lia) (by lia) (fun i j h1 h2 h3=>?_) fun k k1 k2 k3=>?_)
      ·rw [bd,if_neg am,b9] at h3 ⊢
       cases z:lt (pa Y.toArray kb) (pa X.toArray (ka+i)) with
       | false=>rfl
       | true=>rw [O.all XP (show ka+i<=ka+j by lia) (by lia) z] at h3;cases h3
      have kA:∀ i,ka<=i->i<ka+k->lt (pa X.toArray i) (pa Y.toArray kb)=true:=fun i h1 h2=>by
       have:=k2 (i-ka) (by lia)
       rw [bd,if_neg am,b9,show ka+(i-ka)=i by lia] at this
       exact O.no (hY _ gb) (hX _ (by lia)) this (Ne.symm (hd _ _ (by lia) gb))
      have kB:∀ i,ka+k<=i->i<X.length->lt (pa Y.toArray kb) (pa X.toArray i)=true:=fun i h1 h2=>by
       have:=k3 (i-ka) (by lia) (by lia)
       rw [bd,if_neg am,ko,show ka+(i-ka)=i by lia] at this
       exact this
      have J1:=g.j.takeAs XP k (by lia) fun i h1 h2 j h3 h4=>O.all YP h3 h4 (kA i h1 h2)
      clear k2 k3 kA
      dsimp only
      have hkk:ka+k<=X.length:=by lia
      refine eA (fun hk0=>eA (fun d1=>?_) fun d1=>eA (fun d2=>?_) fun d2=>?_) fun hk0=>?_
      ·have d1':ka+k+1=X.length:=by rw [szX] at d1;exact beq_iff_eq.mp d1
       rw [oH]
       obtain ⟨r,er,dr⟩:=la J1 d1'
       rw [er]
       exact wpS_pure ⟨sg34,.inl ⟨r,rfl,dr⟩⟩
      ·have d2':ka+k=X.length:=by rw [szX] at d2;exact beq_iff_eq.mp d2
       rw [oH]
       obtain ⟨r,er,dr⟩:=dn J1 (.inl (by lia))
       rw [er]
       exact wpS_pure ⟨sg34,.inl ⟨r,rfl,dr⟩⟩
      all_goals first
       | (rw [oH]
          have hA:ka+k+1<X.length:=by
           rw [szX,beq_iff_eq] at d1 d2
           lia
          have hC:ka+kb<=ka+k+kb:=by lia
          clear d1 d2 hkk k1
          generalize l++List.take k (List.drop ka X)=l1 at J1 ⊢
          generalize ka+k=ka1 at J1 kB hA hC ⊢)
       | (obtain rfl:k=0:=by lia
          rw [mT,D6,bH] at J1
          rw [mT] at kB
          have hA:ka+1<X.length:=ga
          have hC:ka+kb<=ka+kb:=ag _
          generalize hka:ka=ka1 at J1 kB hA ⊢
          rw [hka] at hC
          rw [<- hka] at hC
          have hC:ka+kb<=ka1+kb:=by lia
          generalize l=l1 at J1 ⊢)
      all_goals
       refine wpS_bind (gx gb ?_)
       rw [lA]
       have J2:=J1.takeB YP gb kB
       refine eA (fun e1=>?_) fun e1=>?_
       ·have e1':kb+1=Y.length:=by rw [szY] at e1;exact beq_iff_eq.mp e1
        obtain ⟨r,er,dr⟩:=dn J2 (.inr (by lia))
        rw [er]
        exact wpS_pure ⟨sg34,.inl ⟨r,rfl,dr⟩⟩
       have e1':kb+1<Y.length:=by rw [szY,beq_iff_eq] at e1;lia
       refine wpS_bind (gx (X:=X) (by lia) ?_)
       refine wpS_bind (gZ (f:=f) (q:=Y.toArray) (left:=true) (kx:=pa X.toArray ka1) (base:=kb+1) (m:=(ar f Y).size-(kb+1)) (hint:=0) O hk4 hYq (hX _ (by lia)) (by rw [szY];simp;lia) (by lia) (fun i j h1 h2 h3=>?_) fun v v1 v2 v3=>?_)
       ·rw [bd,if_pos rfl] at h3 ⊢
        exact O.allR YP (show kb+1+i<=kb+1+j by lia) (by lia) h3
       have vA:∀ j,kb+1<=j->j<kb+1+v->lt (pa Y.toArray j) (pa X.toArray ka1)=true:=fun j h1 h2=>by
        have:=v2 (j-(kb+1)) (by lia)
        rw [bd,if_pos rfl,show kb+1+(j-(kb+1))=j by lia] at this
        exact this
       have vB:∀ j,kb+1+v<=j->j<Y.length->lt (pa X.toArray ka1) (pa Y.toArray j)=true:=fun j h1 h2=>by
        have:=v3 (j-(kb+1)) (by lia) (by lia)
        rw [bd,if_pos rfl,show kb+1+(j-(kb+1))=j by lia] at this
        exact O.no (hY _ h2) (hX _ (by lia)) this (Ne.symm (hd _ _ (by lia) h2))
       have J3:=J2.takeBs YP v (by lia) fun j h1 h2 i h3 h4=>O.all XP h3 h4 (vA j h1 h2)
       clear v2 v3 vA
       dsimp only
       have hvv:kb+1+v<=Y.length:=by lia
       refine eA (fun hv0=>eA (fun g1=>?_) fun g1=>?_) fun hv0=>?_
       ·have g1':kb+1+v=Y.length:=by rw [szY] at g1;exact beq_iff_eq.mp g1
        rw [oH]
        obtain ⟨r,er,dr⟩:=dn J3 (.inr (by lia))
        rw [er]
        exact wpS_pure ⟨sg34,.inl ⟨r,rfl,dr⟩⟩
       all_goals first
        | (rw [oH]
           have hD:kb+1+v<Y.length:=by
            rw [szY,beq_iff_eq] at g1
            lia
           have hF:ja+jb<=ka1+1+(kb+1+v):=by lia
           clear g1 hvv v1
           generalize l1++[pa Y.toArray kb]++List.take v (List.drop (kb+1) Y)=l3 at J3 ⊢
           generalize kb+1+v=kb3 at J3 vB hD hF ⊢)
        | (obtain rfl:v=0:=by lia
           rw [mT,D6,bH] at J3
           rw [mT] at vB
           have hD:kb+1<Y.length:=e1'
           have hF:ja+jb<=ka1+1+(kb+1):=by lia
           generalize l1++[pa Y.toArray kb]=l3 at J3 ⊢
           generalize kb+1=kb3 at J3 vB hD hF ⊢)
       all_goals
        refine wpS_bind (gx (X:=X) (by lia) ?_)
        rw [lA]
        have J4:=J3.takeA XP (by lia) vB
        refine eA (fun i1=>?_) fun i1=>?_
        ·have i1':ka1+1+1=X.length:=by rw [szX] at i1;exact beq_iff_eq.mp i1
         obtain ⟨r,er,dr⟩:=la J4 i1'
         rw [er]
         exact wpS_pure ⟨sg34,.inl ⟨r,rfl,dr⟩⟩
        have i1':ka1+1+1<X.length:=by rw [szX,beq_iff_eq] at i1;lia
        refine eA (fun i2=>?_) fun i2=>?_
        ·exact wpS_pure ⟨sg34,.inr ⟨_,_,_,_,_,_,rfl,⟨J4,i1',hD⟩,hF⟩⟩
        ·exact wpS_pure ⟨sg34,_,_,_,_,_,_,rfl,⟨J4,i1',hD⟩,hF⟩
end
end Ry
namespace Ry
open PySem PySem.W PyProof.Rows
noncomputable def wu:Array Keyed->Array Keyed->StateT SortSt Sem (Array Keyed):=sortPriv% PySem.Builtin.mergeHi
structure Jm (lt:Nat->Nat->Bool) (X Y l:List Nat) (na nb:Nat):Prop where
 perm:(X.take na++Y.take nb++l).Perm (X++Y)
 srt:Up1 lt l
 lx:∀ a∈l,∀ i,i<na->lt (pa X.toArray i) a=true
 ly:∀ a∈l,∀ j,j<nb->lt (pa Y.toArray j) a=true
theorem pT {X:List Nat} {k:Nat} (h:k<X.length):X.take (k+1)=X.take k++[pa X.toArray k]:=by
 have:=jG (X:=X) (i:=0) (k:=k) (by lia)
 simpa using this
theorem fg {X:List Nat} {k b:Nat} (hk:k<=X.length) (h:b∈X.take k):∃ i,i<k/\b=pa X.toArray i:=by
 obtain ⟨i,hi,e⟩:=bq h
 rw [bu] at hi
 refine ⟨i,by lia,?_⟩
 rw [dQ (by lia),<- e,dX]
section
variable {lt:Nat->Nat->Bool} {X Y l:List Nat} {na nb:Nat}
theorem Jm.takeA (h:Jm lt X Y l (na+1) nb) (XP:Up1 lt X) (ha:na<X.length) (hy:∀ j,j<nb->lt (pa Y.toArray j) (pa X.toArray na)=true):Jm lt X Y (pa X.toArray na::l) na nb:=by
 refine ⟨?_,aN.mpr ⟨fun b hb=>h.lx b hb na (by lia),h.srt⟩,fun a ha' i hi=>?_,fun a ha' j hj=>?_⟩
 ·refine List.Perm.trans ?_ h.perm
  rw [pT ha,aX,aX,aX]
  refine List.Perm.append_left _ ?_
  exact CS
 ·rcases ah.mp ha' with z | z
  ·subst z;exact XP.at hi ha
  ·exact h.lx a z i (by lia)
 ·rcases ah.mp ha' with z | z
  ·subst z;exact hy j hj
  ·exact h.ly a z j hj
theorem Jm.takeB (h:Jm lt X Y l na (nb+1)) (YP:Up1 lt Y) (hb:nb<Y.length) (hx:∀ i,i<na->lt (pa X.toArray i) (pa Y.toArray nb)=true):Jm lt X Y (pa Y.toArray nb::l) na nb:=by
 refine ⟨?_,aN.mpr ⟨fun b hb'=>h.ly b hb' nb (by lia),h.srt⟩,fun a ha' i hi=>?_,fun a ha' j hj=>?_⟩
 ·have:=h.perm
  rw [pT hb] at this
  simpa using this
 ·rcases ah.mp ha' with z | z
  ·subst z;exact hx i hi
  ·exact h.lx a z i hi
 ·rcases ah.mp ha' with z | z
  ·subst z;exact YP.at hj hb
  ·exact h.ly a z j (by lia)
theorem qJ {X:List Nat} {a k:Nat} (h:a+k<X.length):(X.take (a+(k+1))).drop a=(X.take (a+k)).drop a++[pa X.toArray (a+k)]:=by
 rw [show a+(k+1)=a+k+1 by lia,pT h,List.drop_append_of_le_length (by rw [bu];lia)]
theorem Jm.takeAs (XP:Up1 lt X) {a:Nat}:∀ (k:Nat) (l:List Nat),Jm lt X Y l (a+k) nb->a+k<=X.length->(∀ i,a<=i->i<a+k->∀ j,j<nb->lt (pa Y.toArray j) (pa X.toArray i)=true)->Jm lt X Y ((X.take (a+k)).drop a++l) a nb
 | 0,l,h,_,_=>by
   have:(X.take (a+0)).drop a=[]:=b8 (by rw [bu];lia)
   rw [this]
   simpa using h
 | k+1,l,h,hk,hy=>by
   have h1:=Jm.takeA (na:=a+k) h XP (by lia) (hy (a+k) (by lia) (by lia))
   have h2:=Jm.takeAs XP k _ h1 (by lia) fun i b c=>hy i b (by lia)
   rw [qJ (by lia),aX]
   exact h2
theorem Jm.takeBs (YP:Up1 lt Y) {a:Nat}:∀ (k:Nat) (l:List Nat),Jm lt X Y l na (a+k)->a+k<=Y.length->(∀ j,a<=j->j<a+k->∀ i,i<na->lt (pa X.toArray i) (pa Y.toArray j)=true)->Jm lt X Y ((Y.take (a+k)).drop a++l) na a
 | 0,l,h,_,_=>by
   have:(Y.take (a+0)).drop a=[]:=b8 (by rw [bu];lia)
   rw [this]
   simpa using h
 | k+1,l,h,hk,hx=>by
   have h1:=Jm.takeB (nb:=a+k) h YP (by lia) (hx (a+k) (by lia) (by lia))
   have h2:=Jm.takeBs YP k _ h1 (by lia) fun i b c=>hx i b (by lia)
   rw [qJ (by lia),aX]
   exact h2
theorem Up1.take {X:List Nat} (h:Up1 lt X) (k:Nat):Up1 lt (X.take k):=List.Pairwise.sublist (AE _ _) h
theorem Jm.done (h:Jm lt X Y l na nb) (XP:Up1 lt X) (YP:Up1 lt Y) (ha:na<=X.length) (hb:nb<=Y.length) (e:na=0\/nb=0):Dn lt X Y (X.take na++Y.take nb++l):=by
 refine ⟨h.perm,ba.mpr ⟨ba.mpr ⟨XP.take _,YP.take _,fun a h1 b h2=>?_⟩,h.srt,fun a h1 b h2=>?_⟩⟩
 ·obtain ⟨i,hi,_⟩:=fg ha h1
  obtain ⟨j,hj,_⟩:=fg hb h2
  lia
 ·rcases aE.mp h1 with z | z
  ·obtain ⟨i,hi,rfl⟩:=fg ha z
   exact h.lx b h2 i hi
  ·obtain ⟨j,hj,rfl⟩:=fg hb z
   exact h.ly b h2 j hj
theorem Jm.first (h:Jm lt X Y l na nb) (XP:Up1 lt X) (YP:Up1 lt Y) (ha:na<=X.length) (hb:nb<=Y.length) (e:nb=1) (h0:∀ i,i<X.length->lt (pa Y.toArray 0) (pa X.toArray i)=true):Dn lt X Y (Y.take nb++X.take na++l):=by
 refine ⟨(List.Perm.append_right l vy).trans h.perm,ba.mpr ⟨ba.mpr ⟨YP.take _,XP.take _,fun a h1 b h2=>?_⟩,h.srt,fun a h1 b h2=>?_⟩⟩
 ·obtain ⟨j,hj,rfl⟩:=fg hb h1
  obtain ⟨i,hi,rfl⟩:=fg ha h2
  have:j=0:=by lia
  rw [this]
  exact h0 i (by lia)
 ·rcases aE.mp h1 with z | z
  ·obtain ⟨j,hj,rfl⟩:=fg hb z
   exact h.ly b h2 j hj
  ·obtain ⟨i,hi,rfl⟩:=fg ha z
   exact h.lx b h2 i hi
end
section
variable {f:Nat->Keyed}
theorem mz (l:List Nat) (a:Nat):(ar f l.reverse).push (f a)=ar f (a::l).reverse:=by simp
theorem nE (l X:List Nat) (i k:Nat):ar f l.reverse++((ar f X).extract i k).reverse=ar f ((X.take k).drop i++l).reverse:=by
 apply cE.mp
 simp [ce,eW,eZ,mV,D7]
theorem uQ (l X Y:List Nat) (na nb:Nat):(ar f X).extract 0 na++(ar f Y).extract 0 nb++(ar f l.reverse).reverse=ar f (X.take na++Y.take nb++l):=by
 apply cE.mp
 simp [ce,eW,mV]
structure Gm (lt:Nat->Nat->Bool) (X Y l:List Nat) (na nb:Nat):Prop where
 j:Jm lt X Y l na nb
 a:0<na
 a':na<=X.length
 b:1<nb
 b':nb<=Y.length
end
section
variable {prog:Program} {w:World} {A:Around} {E:Value->Shared->Prop} {s:Shared} {f:Nat->Keyed} {κ:SortKind} {n:Nat} {lt:Nat->Nat->Bool} {st:SortSt} {X Y:List Nat}
theorem tu (O:Ora prog w A s f κ n lt) (hk:kindOf st=κ) (hX:∀ i,i<X.length->pa X.toArray i<n) (hY:∀ i,i<Y.length->pa Y.toArray i<n) (hd:∀ i j,i<X.length->j<Y.length->pa X.toArray i≠pa Y.toArray j) (XP:Up1 lt X) (YP:Up1 lt Y) (nX:0<X.length) (nY:0<Y.length)
 (h0:lt (pa Y.toArray 0) (pa X.toArray 0)=true) (hl:∀ j,j<Y.length->lt (pa Y.toArray j) (pa X.toArray (X.length-1))=true) {Q:Array Keyed->SortSt->Prop}
 (h:∀ r st',gf st st'->Dn lt X Y r->Q (ar f r) st'):wpS (model prog w) A E s (wu (ar f X) (ar f Y)) Q st:=by
 have hXq:∀ i,i<X.toArray.size->pa X.toArray i<n:=fun i hi=>hX i (by simpa using hi)
 have hYq:∀ i,i<Y.toArray.size->pa Y.toArray i<n:=fun i hi=>hY i (by simpa using hi)
 have szX:(ar f X).size=X.length:=dF X
 have szY:(ar f Y).size=Y.length:=dF Y
 have h00:∀ i,i<X.length->lt (pa Y.toArray 0) (pa X.toArray i)=true:=fun i hi=>O.all XP (aU _) hi h0
 have dn:∀ {l:List Nat} {na nb:Nat},Jm lt X Y l na nb->na<=X.length->nb<=Y.length->(na=0\/nb=0)->∃ r,(ar f X).extract 0 na++(ar f Y).extract 0 nb++(ar f l.reverse).reverse=ar f r/\Dn lt X Y r:=fun j a b e=>⟨_,uQ _ _ _ _ _,j.done XP YP a b e⟩
 have fb:∀ {l:List Nat} {na nb:Nat},Jm lt X Y l na nb->na<=X.length->nb<=Y.length->nb=1->∃ r,(ar f Y).extract 0 nb++(ar f X).extract 0 na++(ar f l.reverse).reverse=ar f r/\Dn lt X Y r:=fun j a b e=>⟨_,uQ _ _ _ _ _,j.first XP YP a b e h00⟩
 refine wpS_bind (wpS_lift (wpAny_rule ⟨rfl,?_⟩))
 dsimp only
 rw [szX,szY]
 refine wpS_bind (gx (X:=X) (by lia) ?_)
 have J0:Jm lt X Y [] (X.length-1+1) Y.length:=⟨by rw [show X.length-1+1=X.length by lia];simp,.nil,by simp,by simp⟩
 have J1:=J0.takeA XP (by lia) fun j hj=>hl j hj
 have eo:(#[f (pa X.toArray (X.length-1))]:Array Keyed)=ar f [pa X.toArray (X.length-1)].reverse:=by simp
 rw [eo]
 refine eA (fun c1=>?_) fun c1=>?_
 ·obtain ⟨r,er,dr⟩:=dn J1 (by lia) (ag _) (.inl (beq_iff_eq.mp c1))
  rw [er]
  exact wpS_pure (h r st (.refl _) dr)
 refine eA (fun c2=>?_) fun c2=>?_
 ·obtain ⟨r,er,dr⟩:=fb J1 (by lia) (ag _) (beq_iff_eq.mp c2)
  rw [er]
  exact wpS_pure (h r st (.refl _) dr)
 rw [beq_iff_eq] at c1 c2
 refine wpS_bind (wpS_get ?_)
 refine wpS_bind (wpS_mono (wpS_forRange (I:=fun x c st1=>gf st st1/\∃ l na nb mg,c=(none,na,nb,ar f l.reverse,mg)/\Gm lt X Y l na nb/\x+1+na+nb<=X.length+Y.length)
  (Q:=fun c st1=>gf st st1/\∃ r,c.1=some (ar f r)/\Dn lt X Y r) ?step ?fin ?init) ?post)
 case init=>exact ⟨.refl _,_,_,_,_,rfl,⟨J1,by lia,by lia,by lia,ag _⟩,by lia⟩
 case fin =>
  rintro c st1 ⟨_,l,na,nb,mg,rfl,g,hx⟩
  exfalso
  have:=g.a
  have:=g.b
  lia
 case post =>
  rintro c st1 ⟨sg,r,e,dr⟩
  rw [e]
  exact wpS_pure (h r st1 sg dr)
 case step =>
  rintro x c st1 _ hx ⟨sg,l,na,nb,mg,rfl,g,hxi⟩
  dsimp only
  have hk1:kindOf st1=κ:=sg.kind.trans hk
  refine wpS_bind (wpS_mono (wpS_forRange (I:=fun y c st2=>st2=st1/\∃ l ma mb ac bc,c=(none,ma,mb,ar f l.reverse,ac,bc)/\Gm lt X Y l ma mb/\y+ma+mb<=na+nb)
   (Q:=fun c st2=>st2=st1/\((∃ r,c.1=some (ar f r)/\Dn lt X Y r)\/∃ l ma mb ac bc,c=(none,ma,mb,ar f l.reverse,ac,bc)/\Gm lt X Y l ma mb/\1+ma+mb<=na+nb)) ?istep ?ifin ?iinit) ?ipost)
  case iinit=>exact ⟨rfl,l,na,nb,0,0,rfl,g,by lia⟩
  case ifin =>
   rintro c st2 ⟨rfl,l,ma,mb,ac,bc,rfl,g,hy⟩
   exact ⟨rfl,.inr ⟨l,ma,mb,ac,bc,rfl,g,by lia⟩⟩
  case istep =>
   rintro y c st2 _ hy ⟨rfl,l,ma,mb,ac,bc,rfl,g,hyi⟩
   dsimp only
   obtain ⟨gj,ga,ga',gb,gb'⟩:=g
   obtain ⟨ma,rfl⟩:∃ t,ma=t+1:=⟨ma-1,by lia⟩
   obtain ⟨mb,rfl⟩:∃ t,mb=t+1:=⟨mb-1,by lia⟩
   simp only [kH]
   refine wpS_bind (gx (X:=Y) (by lia) (wpS_bind (gx (X:=X) (by lia) (wpS_bind (CM O hk1 (hY _ (by lia)) (hX _ (by lia)) ?_)))))
   cases z:lt (pa Y.toArray mb) (pa X.toArray ma) with
   | true =>
     dsimp only
     rw [if_pos rfl]
     refine wpS_bind (gx (X:=X) (by lia) ?_)
     rw [mz]
     have J2:=gj.takeA XP (by lia) fun j hj=>O.allR YP (show j<=mb by lia) (by lia) z
     refine eA (fun c3=>?_) fun c3=>?_
     ·obtain ⟨r,er,dr⟩:=dn J2 (by lia) gb' (.inl (beq_iff_eq.mp c3))
      rw [er]
      exact wpS_pure ⟨rfl,.inl ⟨r,rfl,dr⟩⟩
     rw [beq_iff_eq] at c3
     refine eA (fun c4=>?_) fun c4=>?_
     ·exact wpS_pure ⟨rfl,.inr ⟨_,_,_,_,_,rfl,⟨J2,by lia,by lia,gb,gb'⟩,by lia⟩⟩
     ·exact wpS_pure ⟨rfl,_,_,_,_,_,rfl,⟨J2,by lia,by lia,gb,gb'⟩,by lia⟩
   | false =>
     dsimp only
     rw [if_neg am]
     refine wpS_bind (gx (X:=Y) (by lia) ?_)
     rw [mz]
     have z':=O.no (hY _ (show mb<Y.length by lia)) (hX _ (show ma<X.length by lia)) z (Ne.symm (hd _ _ (by lia) (by lia)))
     have J2:=gj.takeB YP (by lia) fun i hi=>O.allR XP (show i<=ma by lia) (by lia) z'
     refine eA (fun c3=>?_) fun c3=>?_
     ·obtain ⟨r,er,dr⟩:=fb J2 ga' (by lia) (beq_iff_eq.mp c3)
      rw [er]
      exact wpS_pure ⟨rfl,.inl ⟨r,rfl,dr⟩⟩
     rw [beq_iff_eq] at c3
     refine eA (fun c4=>?_) fun c4=>?_
     ·exact wpS_pure ⟨rfl,.inr ⟨_,_,_,_,_,rfl,⟨J2,ga,ga',by lia,by lia⟩,by lia⟩⟩
     ·exact wpS_pure ⟨rfl,_,_,_,_,_,rfl,⟨J2,ga,ga',by lia,by lia⟩,by lia⟩
  case ipost =>
   rintro c st2 ⟨rfl,⟨r,er,dr⟩ | ⟨l,ma,mb,ac,bc,rfl,g,hyi⟩⟩
   ·obtain ⟨c1,c2,c3,c4,c5,c6⟩:=c
    cases er
    exact wpS_pure ⟨sg,r,rfl,dr⟩
   ·dsimp only
    refine wpS_bind (wpS_lift (wpAny_rule ⟨rfl,?_⟩))
    refine wpS_bind (wpS_mono (wpS_forRange (I:=fun _ c st3=>gf st st3/\∃ l ua ub mg ac bc,c=(none,ua,ub,ar f l.reverse,mg,ac,bc)/\Gm lt X Y l ua ub/\ua+ub<=ma+mb)
     (Q:=fun c st3=>gf st st3/\((∃ r,c.1=some (ar f r)/\Dn lt X Y r)\/∃ l ua ub mg ac bc,c=(none,ua,ub,ar f l.reverse,mg,ac,bc)/\Gm lt X Y l ua ub/\ua+ub<=ma+mb)) ?gstep ?gfin ?ginit) ?gpost)
    case ginit=>exact ⟨sg,l,ma,mb,_,ac,bc,rfl,g,ag _⟩
    case gfin =>
     rintro c st3 ⟨sg3,l,ua,ub,mg,ac,bc,rfl,g,hy⟩
     exact ⟨sg3,.inr ⟨l,ua,ub,mg,ac,bc,rfl,g,hy⟩⟩
    case gpost =>
     rintro c st3 ⟨sg3,⟨r,er,dr⟩ | ⟨l,ua,ub,mg,ac,bc,rfl,g,hy⟩⟩
     ·obtain ⟨c1,c2,c3,c4,c5,c6,c7⟩:=c
      cases er
      exact wpS_pure ⟨sg3,r,rfl,dr⟩
     ·dsimp only
      refine wpS_bind (qo fun st4 sg4=>wpS_pure ⟨sg3.trans sg4,l,ua,ub,_,rfl,g,by lia⟩)
    case gstep =>
     rintro y c st3 _ hy ⟨sg3,l,ua,ub,mg,ac,bc,rfl,g,hyi⟩
     dsimp only
     obtain ⟨gj,ga,ga',gb,gb'⟩:=g
     obtain ⟨ub,rfl⟩:∃ t,ub=t+1:=⟨ub-1,by lia⟩
     simp only [kH]
     have hbn:ub<Y.length:=by lia
     refine eA (fun hmg=>?_) fun hmg=>?_
     all_goals
      refine wpS_bind (qo fun st4 sg4=>?_)
      have sg34:=sg3.trans sg4
      have hk4:kindOf st4=κ:=sg34.kind.trans hk
      refine wpS_bind (gx (X:=Y) hbn ?_)
      refine wpS_bind (gZ (f:=f) (q:=X.toArray) (left:=false) (kx:=pa Y.toArray ub) (base:=0) (m:=ua) (hint:=ua-1) O hk4 hXq (hY _ hbn) (by simp;lia) (by lia) (fun i j h1 h2 h3=>?_) fun k k1 k2 k3=>?_)
      ·rw [bd,if_neg am,b9,cj] at h3 ⊢
       cases z:lt (pa Y.toArray ub) (pa X.toArray i) with
       | false=>rfl
       | true=>rw [O.all XP h1 (by lia) z] at h3;cases h3
      have kA:∀ i,i<k->lt (pa X.toArray i) (pa Y.toArray ub)=true:=fun i h1=>by
       have:=k2 i h1
       rw [bd,if_neg am,b9,cj] at this
       exact O.no (hY _ hbn) (hX _ (by lia)) this (Ne.symm (hd _ _ (by lia) hbn))
      have kB:∀ i,k<=i->i<ua->lt (pa Y.toArray ub) (pa X.toArray i)=true:=fun i h1 h2=>by
       have:=k3 i h1 h2
       rw [bd,if_neg am,ko,cj] at this
       exact this
      have J1:=Jm.takeAs XP (a:=k) (ua-k) l (by rw [show k+(ua-k)=ua by lia];exact gj) (by lia) fun i h1 h2 j h3=>O.allR YP (show j<=ub by lia) hbn (kB i h1 (by lia))
      rw [show k+(ua-k)=ua by lia] at J1
      clear k2 k3 kB
      dsimp only
      refine eA (fun hk0=>eA (fun d1=>?_) fun d1=>?_) fun hk0=>?_
      ·rw [nE]
       obtain ⟨r,er,dr⟩:=dn J1 (by lia) gb' (.inl (beq_iff_eq.mp d1))
       rw [er]
       exact wpS_pure ⟨sg34,.inl ⟨r,rfl,dr⟩⟩
      all_goals first
       | (rw [nE]
          have hA:0<k:=by rw [beq_iff_eq] at d1;lia
          generalize (X.take ua).drop k++l=l1 at J1 ⊢)
       | (obtain rfl:k=ua:=by lia
          rw [b8 (by rw [bu];lia),oX] at J1
          have hA:0<k:=ga
          generalize l=l1 at J1 ⊢)
      all_goals
       refine wpS_bind (gx (X:=Y) hbn ?_)
       rw [mz]
       have J2:=J1.takeB YP hbn kA
       refine eA (fun e1=>?_) fun e1=>?_
       ·obtain ⟨r,er,dr⟩:=fb J2 (by lia) (by lia) (beq_iff_eq.mp e1)
        rw [er]
        exact wpS_pure ⟨sg34,.inl ⟨r,rfl,dr⟩⟩
       rw [beq_iff_eq] at e1
       obtain ⟨k',rfl⟩:∃ t,k=t+1:=⟨k-1,by lia⟩
       simp only [kH]
       refine wpS_bind (gx (X:=X) (by lia) ?_)
       refine wpS_bind (gZ (f:=f) (q:=Y.toArray) (left:=true) (kx:=pa X.toArray k') (base:=0) (m:=ub) (hint:=ub-1) O hk4 hYq (hX _ (by lia)) (by simp;lia) (by lia) (fun i j h1 h2 h3=>?_) fun v v1 v2 v3=>?_)
       ·rw [bd,if_pos rfl,cj] at h3 ⊢
        exact O.allR YP h1 (by lia) h3
       have vA:∀ j,j<v->lt (pa Y.toArray j) (pa X.toArray k')=true:=fun j h1=>by
        have:=v2 j h1
        rw [bd,if_pos rfl,cj] at this
        exact this
       have vB:∀ j,v<=j->j<ub->lt (pa X.toArray k') (pa Y.toArray j)=true:=fun j h1 h2=>by
        have:=v3 j h1 h2
        rw [bd,if_pos rfl,cj] at this
        exact O.no (hY _ (by lia)) (hX _ (by lia)) this (Ne.symm (hd _ _ (by lia) (by lia)))
       have J3:=Jm.takeBs YP (a:=v) (ub-v) _ (by rw [show v+(ub-v)=ub by lia];exact J2) (by lia) fun j h1 h2 i h3=>O.allR XP (show i<=k' by lia) (by lia) (vB j h1 (by lia))
       rw [show v+(ub-v)=ub by lia] at J3
       clear v2 v3 vB
       dsimp only
       refine eA (fun hv0=>eA (fun g1=>?_) fun g1=>eA (fun g2=>?_) fun g2=>?_) fun hv0=>?_
       ·rw [nE]
        obtain ⟨r,er,dr⟩:=fb J3 (by lia) (by lia) (beq_iff_eq.mp g1)
        rw [er]
        exact wpS_pure ⟨sg34,.inl ⟨r,rfl,dr⟩⟩
       ·rw [nE]
        obtain ⟨r,er,dr⟩:=dn J3 (by lia) (by lia) (.inr (beq_iff_eq.mp g2))
        rw [er]
        exact wpS_pure ⟨sg34,.inl ⟨r,rfl,dr⟩⟩
       all_goals first
        | (rw [nE]
           have hD:1<v:=by rw [beq_iff_eq] at g1 g2;lia
           generalize (Y.take ub).drop v++_=l3 at J3 ⊢)
        | (obtain rfl:v=ub:=by lia
           rw [b8 (by rw [bu];lia),oX] at J3
           have hD:1<v:=by lia
           generalize pa Y.toArray v::l1=l3 at J3 ⊢)
       all_goals
        refine wpS_bind (gx (X:=X) (by lia) ?_)
        rw [mz]
        have J4:=J3.takeA XP (by lia) vA
        refine eA (fun i1=>?_) fun i1=>?_
        ·obtain ⟨r,er,dr⟩:=dn J4 (by lia) (by lia) (.inl (beq_iff_eq.mp i1))
         rw [er]
         exact wpS_pure ⟨sg34,.inl ⟨r,rfl,dr⟩⟩
        rw [beq_iff_eq] at i1
        refine eA (fun i2=>?_) fun i2=>?_
        ·exact wpS_pure ⟨sg34,.inr ⟨_,_,_,_,_,_,rfl,⟨J4,by lia,by lia,hD,by lia⟩,by lia⟩⟩
        ·exact wpS_pure ⟨sg34,_,_,_,_,_,_,rfl,⟨J4,by lia,by lia,hD,by lia⟩,by lia⟩
end
end Ry
namespace Ry
open PySem PySem.W PyProof.Rows
theorem sN {α:Type} (off:Nat):∀ (R:List α) (i:Nat) (a:Array α),off+i+R.length<=a.size ->
 ((R.zipIdx i).foldl (fun a x=>a.setIfInBounds (off+x.2) x.1) a).toList=a.toList.take (off+i)++R++a.toList.drop (off+i+R.length)
 | [],i,a,_=>by simp
 | x::R,i,a,h=>by
   rw [aA] at h
   rw [List.zipIdx_cons,De]
   have hi:off+i<a.toList.length:=by rw [aF];lia
   rw [sN off R (i+1) (a.setIfInBounds (off+i) x) (by rw [Array.size_setIfInBounds];lia),Array.toList_setIfInBounds]
   have e1:(a.toList.set (off+i) x).take (off+(i+1))=a.toList.take (off+i)++[x]:=by
    rw [show off+(i+1)=off+i+1 by lia,AG,aK (by exact hi),List.take_set_of_le (ag _)]
    rfl
   have e2:(a.toList.set (off+i) x).drop (off+(i+1)+R.length)=a.toList.drop (off+i+(x::R).length):=by
    rw [List.drop_set_of_lt (by lia),aA]
    congr 1
    lia
   rw [e1,e2]
   simp
section
variable {prog:Program} {w:World} {A:Around} {E:Value->Shared->Prop} {s:Shared} {f:Nat->Keyed} {κ:SortKind} {n:Nat} {lt:Nat->Nat->Bool} {p:Array Nat} {st:SortSt}
theorem Do {a:SortSt} {Q:PUnit->SortSt->Prop} (h:Q ⟨⟩ a):wpS (model prog w) A E s (set a:StateT SortSt Sem PUnit) Q st:=by
 unfold wpS
 rw [StateT.run_set]
 exact wpAny_pure ⟨rfl,h⟩
theorem tT (O:Ora prog w A s f κ n lt) {n1 n2 pw:Nat} (hp:b0 n p) (S:Sst f κ p #[(0,n1,pw),(n1,n2,0)] st) (hn:n1+n2=n) (h1:0<n1) (h2:0<n2) (s1:Seg lt p 0 n1) (s2:Seg lt p n1 n) {Q:Bool->SortSt->Prop}
 (h:∀ p' st',b0 n p'->Sst f κ p' #[(0,n,pw)] st'->Seg lt p' 0 n->Q true st'):wpS (model prog w) A E s (mergeAt' 0) Q st:=by
 have sz:=hp.size
 refine wpS_bind (wpS_get ?_)
 have e0:(pendingOf st)[0]?=some (0,n1,pw):=by rw [S.pend];rfl
 have e1:(pendingOf st)[0+1]?=some (n1,n2,0):=by rw [S.pend];rfl
 dsimp only
 rw [e0,e1]
 dsimp only
 refine wpS_bind (Do ?_)
 obtain ⟨st1,hst1⟩:∃ t,t=SortSt.mk' (kindOf st) (arrOf st) (((pendingOf st).setIfInBounds 0 (0,n1+n2,pw)).eraseIdxIfInBounds (0+1)) (gallopOf st) (failedOf st):=⟨_,rfl⟩
 have S1:Sst f κ p #[(0,n,pw)] st1:=by
  rw [hst1]
  exact ⟨S.arr,S.kind,S.fail,by show ((pendingOf st).setIfInBounds 0 (0,n1+n2,pw)).eraseIdxIfInBounds (0+1)=_;rw [S.pend,hn];apply cE.mp;simp⟩
 show wpS _ _ _ _ _ Q (SortSt.mk' (kindOf st) (arrOf st) (((pendingOf st).setIfInBounds 0 (0,n1+n2,pw)).eraseIdxIfInBounds (0+1)) (gallopOf st) (failedOf st))
 rw [<- hst1]
 have ea:(sortPriv% PySem.Builtin.SortState.a) st=p.map f:=S.arr
 rw [ea]
 have hpq:∀ i,i<p.size->pa p i<n:=fun i hi=>hp.lt (by lia)
 refine wpS_bind (kR (by lia) ?_)
 refine wpS_bind (gZ (f:=f) (q:=p) (left:=false) (kx:=pa p n1) (base:=0) (m:=n1) (hint:=0) O S1.kind hpq (hp.lt (by lia)) (by lia) h1 (fun i j a b c=>?_) fun k k1 k2 k3=>?_)
 ·rw [bd,if_neg am,b9,cj] at c ⊢
  cases z:lt (pa p n1) (pa p i) with
  | false=>rfl
  | true =>
    by_cases e:i=j
    ·rw [e,c] at z;cases z
    ·rw [O.tr _ _ _ z (s1 i j (aU _) (by lia) b)] at c;cases c
 have kA:∀ i,i<k->lt (pa p i) (pa p n1)=true:=fun i hi=>by
  have:=k2 i hi
  rw [bd,if_neg am,b9,cj] at this
  exact O.no (hp.lt (by lia)) (hp.lt (by lia)) this fun z=>by have:=hp.inj (show n1<n by lia) (show i<n by lia) z;lia
 have kB:∀ i,k<=i->i<n1->lt (pa p n1) (pa p i)=true:=fun i a b=>by
  have:=k3 i a b
  rw [bd,if_neg am,ko,cj] at this
  exact this
 clear k2 k3
 have up2:∀ a j,n1<=j->j<n->lt a (pa p n1)=true->lt a (pa p j)=true:=fun a j c d e=>by
  by_cases z:n1=j
  ·rw [<- z];exact e
  ·exact O.tr _ _ _ e (s2 n1 j (ag _) (by lia) d)
 dsimp only
 refine eA (fun c1=>?_) fun c1=>?_
 ·rw [beq_iff_eq] at c1
  refine wpS_pure (h p st1 hp S1 fun i j a b c=>?_)
  by_cases d:j<n1
  ·exact s1 i j a b d
  ·by_cases d':n1<=i
   ·exact s2 i j d' b c
   ·exact up2 _ j (by lia) c (kA i (by lia))
 rw [beq_iff_eq] at c1
 simp only [cj]
 have hk:k<n1:=by lia
 have ek:k+(n1-k)-1=n1-1:=by lia
 rw [ek]
 refine wpS_bind (kR (by lia) ?_)
 refine wpS_bind (gZ (f:=f) (q:=p) (left:=true) (kx:=pa p (n1-1)) (base:=n1) (m:=n2) (hint:=n2-1) O S1.kind hpq (hp.lt (by lia)) (by lia) (by lia) (fun i j a b c=>?_) fun nb v1 v2 v3=>?_)
 ·rw [bd,if_pos rfl] at c ⊢
  by_cases e:i=j
  ·rw [e];exact c
  ·exact O.tr _ _ _ (s2 (n1+i) (n1+j) (by lia) (by lia) (by lia)) c
 have vA:∀ j,n1<=j->j<n1+nb->lt (pa p j) (pa p (n1-1))=true:=fun j a b=>by
  have:=v2 (j-n1) (by lia)
  rw [bd,if_pos rfl,show n1+(j-n1)=j by lia] at this
  exact this
 have vB:∀ j,n1+nb<=j->j<n->lt (pa p (n1-1)) (pa p j)=true:=fun j a b=>by
  have:=v3 (j-n1) (by lia) (by lia)
  rw [bd,if_pos rfl,show n1+(j-n1)=j by lia] at this
  exact O.no (hp.lt b) (hp.lt (by lia)) this fun z=>by have:=hp.inj b (show n1-1<n by lia) z;lia
 clear v2 v3
 have dn1:∀ i b,i<n1->lt (pa p (n1-1)) b=true->lt (pa p i) b=true:=fun i b c e=>by
  by_cases z:i=n1-1
  ·rw [z];exact e
  ·exact O.tr _ _ _ (s1 i (n1-1) (aU _) (by lia) (by lia)) e
 dsimp only
 refine eA (fun c2=>?_) fun c2=>?_
 ·rw [beq_iff_eq] at c2
  refine wpS_pure (h p st1 hp S1 fun i j a b c=>?_)
  by_cases d:j<n1
  ·exact s1 i j a b d
  ·by_cases d':n1<=i
   ·exact s2 i j d' b c
   ·exact dn1 i _ (by lia) (vB j (by lia) c)
 rw [beq_iff_eq] at c2
 have hL:p.toList.length=n:=by rw [aF,sz]
 have pL:∀ i,pa p.toList.toArray i=pa p i:=fun i=>by rw [vz]
 let X:List Nat:=(p.toList.take n1).drop k
 let Y:List Nat:=(p.toList.drop n1).take nb
 have lX:X.length=n1-k:=by simp only [X,ck,bu];lia
 have lY:Y.length=nb:=by simp only [Y,ck,bu];lia
 have gX:∀ i,i<X.length->pa X.toArray i=pa p (k+i):=fun i hi=>by
  rw [dQ hi,<- pL,dQ (by lia)]
  simp only [X,dW,dX]
 have gY:∀ j,j<Y.length->pa Y.toArray j=pa p (n1+j):=fun j hj=>by
  rw [dQ hj,<- pL,dQ (by lia)]
  simp only [Y,dW,dX]
 have eX:(p.map f).extract k n1=ar f X:=by
  apply cE.mp
  simp [X,ce,eW,eZ,D7]
 have eY:(p.map f).extract n1 (n1+nb)=ar f Y:=by
  apply cE.mp
  simp [Y,ce,eW,eZ]
 have XP:Up1 lt X:=bS.mpr fun i j hi hj hij=>by
  rw [<- dQ hi,<- dQ hj,gX i hi,gX j hj]
  exact s1 _ _ (by lia) (by lia) (by lia)
 have YP:Up1 lt Y:=bS.mpr fun i j hi hj hij=>by
  rw [<- dQ hi,<- dQ hj,gY i hi,gY j hj]
  exact s2 _ _ (by lia) (by lia) (by lia)
 have hX:∀ i,i<X.length->pa X.toArray i<n:=fun i hi=>by rw [gX i hi];exact hp.lt (by lia)
 have hY:∀ i,i<Y.length->pa Y.toArray i<n:=fun i hi=>by rw [gY i hi];exact hp.lt (by lia)
 have hdis:∀ i j,i<X.length->j<Y.length->pa X.toArray i≠pa Y.toArray j:=fun i j hi hj z=>by
  rw [gX i hi,gY j hj] at z
  have:=hp.inj (show k+i<n by lia) (show n1+j<n by lia) z
  lia
 have h0:lt (pa Y.toArray 0) (pa X.toArray 0)=true:=by
  rw [gX 0 (by lia),gY 0 (by lia)]
  exact kB _ (by lia) (by lia)
 have hl:∀ j,j<Y.length->lt (pa Y.toArray j) (pa X.toArray (X.length-1))=true:=fun j hj=>by
  rw [gX _ (by lia),gY j hj,show k+(X.length-1)=n1-1 by lia]
  exact vA _ (by lia) (by lia)
 have fin:∀ (r:List Nat) (st2:SortSt),gf st1 st2->Dn lt X Y r->Q true (SortSt.mk' (kindOf st2) ((ar f r).toList.zipIdx.foldl (fun a x=>a.setIfInBounds (k+x.2) x.1) (arrOf st2)) (pendingOf st2) (gallopOf st2) (failedOf st2)):=fun r st2 sg dr=>by
  have lr:r.length=n1-k+nb:=by rw [dr.perm.length_eq,aH,lX,lY]
  let L':List Nat:=p.toList.take k++r++p.toList.drop (n1+nb)
  have hwb:((ar f r).toList.zipIdx.foldl (fun a x=>a.setIfInBounds (k+x.2) x.1) (arrOf st2))=L'.toArray.map f:=by
   apply cE.mp
   have e2:arrOf st2=p.map f:=sg.arr.trans S1.arr
   have e5:k+0+(ar f r).toList.length=n1+nb:=by simp;lia
   rw [e2,sN k (ar f r).toList 0 (p.map f) (by rw [e5];simp;lia),e5]
   simp [L',eW,eZ]
  have hperm:L'.Perm p.toList:=by
   have e3:p.toList=p.toList.take k++(X++Y)++p.toList.drop (n1+nb):=by
    have a1:p.toList.take k++X=p.toList.take n1:=by
     have:p.toList.take k=(p.toList.take n1).take k:=by rw [List.take_take,i9 (by lia)]
     rw [this]
     exact fD k _
    have a2:Y++p.toList.drop (n1+nb)=p.toList.drop n1:=by
     rw [<- List.drop_drop]
     exact fD nb _
    rw [<- aX,a1,aX,a2,fD]
   have e4:L'.Perm (p.toList.take k++(X++Y)++p.toList.drop (n1+nb)):=List.Perm.append_right _ (List.Perm.append_left _ dr.perm)
   rw [<- e3] at e4
   exact e4
  have hsort:Up1 lt L':=by
   have inX:∀ b∈X,∃ i,k<=i/\i<n1/\b=pa p i:=fun b hb=>by
    obtain ⟨i,hi,e⟩:=bq hb
    exact ⟨k+i,by lia,by lia,by rw [<- e,<- dQ hi,gX i hi]⟩
   have inY:∀ b∈Y,∃ j,n1<=j/\j<n1+nb/\b=pa p j:=fun b hb=>by
    obtain ⟨i,hi,e⟩:=bq hb
    exact ⟨n1+i,by lia,by lia,by rw [<- e,<- dQ hi,gY i hi]⟩
   have inK:∀ b∈p.toList.take k,∃ i,i<k/\b=pa p i:=fun b hb=>by
    obtain ⟨i,hi,e⟩:=fg (by lia) hb
    exact ⟨i,hi,by rw [e,pL]⟩
   have inD:∀ b∈p.toList.drop (n1+nb),∃ j,n1+nb<=j/\j<n/\b=pa p j:=fun b hb=>by
    obtain ⟨j,hj,hj2,e⟩:=gT hb
    exact ⟨j,hj,by lia,by rw [e,pL]⟩
   have upL:∀ i j,i<j->j<n->(j<n1\/n1<=i)->lt (pa p i) (pa p j)=true:=fun i j a b c=>by
    rcases c with c | c
    ·exact s1 i j (aU _) a c
    ·exact s2 i j c a b
   refine ba.mpr ⟨ba.mpr ⟨?_,dr.srt,fun a ha b hb=>?_⟩,?_,fun a ha b hb=>?_⟩
   ·exact bS.mpr fun i j hi hj hij=>by
     rw [bu] at hi hj
     rw [dX,dX,<- dQ (by lia),<- dQ (by lia),pL,pL]
     exact s1 _ _ (aU _) hij (by lia)
   ·obtain ⟨i,hi,rfl⟩:=inK a ha
    rcases aE.mp (dr.perm.mem_iff.mp hb) with z | z
    ·obtain ⟨j,c,d,rfl⟩:=inX b z
     exact s1 i j (aU _) (by lia) d
    ·obtain ⟨j,c,d,rfl⟩:=inY b z
     exact up2 _ j c (by lia) (kA i hi)
   ·exact bS.mpr fun i j hi hj hij=>by
     rw [ck] at hi hj
     rw [dW,dW,<- dQ (by lia),<- dQ (by lia),pL,pL]
     exact s2 _ _ (by lia) (by lia) (by lia)
   ·obtain ⟨j,c,d,rfl⟩:=inD b hb
    rcases aE.mp ha with z | z
    ·obtain ⟨i,hi,rfl⟩:=inK a z
     exact up2 _ j (by lia) d (kA i hi)
    ·rcases aE.mp (dr.perm.mem_iff.mp z) with y | y
     ·obtain ⟨i,e,g,rfl⟩:=inX a y
      exact dn1 i _ g (vB j c d)
     ·obtain ⟨i,e,g,rfl⟩:=inY a y
      exact s2 i j e (by lia) d
  have lL:L'.length=n:=by rw [hperm.length_eq,hL]
  refine h L'.toArray _ ⟨?_⟩ ⟨hwb,sg.kind.trans S1.kind,sg.fail.trans S1.fail,sg.pend.trans S1.pend⟩ fun i j _ b c=>?_
  ·have:=bh.mp hp.perm
   refine bh.mpr ?_
   exact hperm.trans this
  ·exact hsort.at b (by lia)
 rw [eX,eY]
 have rest:∀ (r:List Nat) (st2:SortSt),gf st1 st2->Dn lt X Y r->wpS (model prog w) A E s (do
  modify fun s=>SortSt.mk' (kindOf s) ((ar f r).toList.zipIdx.foldl (fun a x=>a.setIfInBounds (k+x.2) x.1) (arrOf s)) (pendingOf s) (gallopOf s) (failedOf s)
  let u <- get
  pure (failedOf u).isNone) Q st2:=fun r st2 sg dr=>by
  refine wpS_bind (wpS_modify (wpS_bind (wpS_get (wpS_pure ?_))))
  have ef:failedOf st2=none:=sg.fail.trans S1.fail
  show Q (failedOf st2).isNone _
  rw [ef]
  have:=fin r st2 sg dr
  rw [ef] at this
  exact this
 refine eA (fun c3=>?_) fun c3=>?_
 ·exact wpS_bind (sr O S1.kind hX hY hdis XP YP (by lia) (by lia) h0 hl rest)
 ·exact wpS_bind (tu O S1.kind hX hY hdis XP YP (by lia) (by lia) h0 hl rest)
end
end Ry
namespace Ry
open PySem PySem.W PyProof.Rows
theorem rh {n:Nat} (h1:64<=n) (h2:n<=127):minRun' n n 0=n / 2+n%2:=by
 obtain ⟨g,hg⟩:∃ g,n=g+1+1:=⟨n-2,by lia⟩
 have e:minRun' (g+1+1) n 0=n / 2+n%2:=by
  rw [minRun'_succ,if_neg (by lia),minRun'_succ,if_pos (by lia)]
  lia
 rw [<- hg] at e
 exact e
section
variable {prog:Program} {w:World} {A:Around} {E:Value->Shared->Prop} {s:Shared} {f:Nat->Keyed} {κ:SortKind} {n:Nat} {lt:Nat->Nat->Bool} {p:Array Nat} {pd:Array (Nat×Nat×Nat)} {st:SortSt}
noncomputable def Ru0 (f:Nat->Keyed) (κ:SortKind) (n:Nat) (st:SortSt):Prop:=∃ p,b0 n p/\Sst f κ p #[] st
noncomputable def Ru1 (f:Nat->Keyed) (κ:SortKind) (n:Nat) (lt:Nat->Nat->Bool) (n1:Nat) (st:SortSt):Prop:=∃ p,b0 n p/\Sst f κ p #[(0,n1,0)] st/\n / 2+n%2<=n1/\n1<=n/\Seg lt p 0 n1
noncomputable def RuB (f:Nat->Keyed) (κ:SortKind) (n:Nat) (lt:Nat->Nat->Bool) (st:SortSt):Prop:=∃ p n1 n2 pw,b0 n p/\Sst f κ p #[(0,n1,pw),(n1,n2,0)] st/\n1+n2=n/\0<n1/\0<n2/\Seg lt p 0 n1/\Seg lt p n1 n
noncomputable def RuA (f:Nat->Keyed) (κ:SortKind) (n:Nat) (lt:Nat->Nat->Bool) (st:SortSt):Prop:=∃ p pw,b0 n p/\Sst f κ p #[(0,n,pw)] st/\Seg lt p 0 n
theorem CQ (O:Ora prog w A s f κ n lt) (h1:64<=n) (h2:n<=127) (hp:b0 n p) (S:Sst f κ p #[] st) {Q:Unit->SortSt->Prop} (h:∀ p' st',b0 n p'->arrOf st'=p'.map f->failedOf st'=none->Seg lt p' 0 n->Q () st'):wpS (model prog w) A E s sortRuns' Q st:=by
 rw [sortRuns'_eq]
 refine wpS_bind (wpS_get ?_)
 dsimp only
 have hsz:(arrOf st).size=n:=by rw [S.arr,Array.size_map,hp.size]
 rw [hsz,rh h1 h2]
 refine wpS_bind (wpS_mono (wpS_forRange (I:=fun x c st1=>∃ lo,c=(none,lo)/\((x=0/\lo=0/\Ru0 f κ n st1)\/(x=1/\Ru1 f κ n lt lo st1)\/(2<=x/\lo=n/\RuB f κ n lt st1)))
  (Q:=fun c st1=>c=(none,n)/\(RuB f κ n lt st1\/RuA f κ n lt st1)) ?step ?fin ?init) ?post)
 case init=>exact ⟨0,rfl,.inl ⟨rfl,rfl,p,hp,S⟩⟩
 case fin =>
  rintro c st1 ⟨lo,rfl,⟨a,_⟩ | ⟨a,_⟩ | ⟨_,rfl,r⟩⟩
  ·lia
  ·lia
  ·exact ⟨rfl,.inl r⟩
 case post =>
  rintro c st1 ⟨rfl,r⟩
  dsimp only
  refine wpS_bind (wpS_mono (wpS_forRange (I:=fun x c st2=>c=(none,())/\((x=0/\RuB f κ n lt st2)\/RuA f κ n lt st2)) (Q:=fun c st2=>c=(none,())/\RuA f κ n lt st2) ?mstep ?mfin ?minit) ?mpost)
  case minit=>exact ⟨rfl,r.imp (fun z=>⟨rfl,z⟩) id⟩
  case mfin =>
   rintro c st2 ⟨rfl,⟨a,_⟩ | r⟩
   ·lia
   ·exact ⟨rfl,r⟩
  case mpost =>
   rintro c st2 ⟨rfl,p',pw,a,b,d⟩
   exact wpS_pure (h p' st2 a b.arr b.fail d)
  case mstep =>
   rintro x c st2 _ hx ⟨rfl,⟨rfl,p',n1,n2,pw,a,b,d,e,g,i,j⟩ | ⟨p',pw,a,b,d⟩⟩
   ·refine wpS_bind (wpS_get ?_)
    rw [b.pend]
    rw [if_neg (by simp)]
    refine wpS_bind (tT O a b d e g i j fun p2 st3 hp2 S2 s2=>?_)
    exact wpS_pure ⟨rfl,.inr ⟨p2,pw,hp2,S2,s2⟩⟩
   ·refine wpS_bind (wpS_get ?_)
    rw [b.pend,if_pos (by simp)]
    exact wpS_pure ⟨rfl,p',pw,a,b,d⟩
 case step =>
  rintro x c st1 _ hx ⟨lo,rfl,⟨rfl,rfl,p',hp',S'⟩ | ⟨rfl,p',hp',S',l1,l2,sg⟩ | ⟨hx2,rfl,r⟩⟩
  ·dsimp only
   rw [if_neg (by lia)]
   refine wpS_bind (sJ O (by lia) (by lia) S' hp' fun m p2 st2 S2 hp2 m1 m2 s2 _=>?_)
   dsimp only
   simp only [cj] at s2 ⊢
   refine eA (fun c1=>?_) fun c1=>?_
   ·refine wpS_bind (wpS_lift (wpAny_rule ⟨rfl,?_⟩))
    rw [show min (n-0) (n / 2+n%2)=n / 2+n%2 by lia]
    refine wpS_bind (CA O (lo:=0) (by lia) (by lia) S2 hp2 (by rw [cj];exact s2) fun p3 st3 S3 hp3 s3 _=>?_)
    rw [cj] at s3
    rw [if_neg (by decide)]
    refine wpS_bind (wpS_get ?_)
    rw [S3.pend]
    refine wpS_bind (wpS_modify (wpS_pure ⟨_,rfl,.inr (.inl ⟨trivial,p3,hp3,⟨S3.arr,S3.kind,S3.fail,?_⟩,ag _,by lia,s3⟩)⟩))
    show (pendingOf st3).push _=_
    rw [S3.pend]
    rfl
   ·refine wpS_bind (wpS_get ?_)
    rw [S2.pend]
    refine wpS_bind (wpS_modify (wpS_pure ⟨_,rfl,.inr (.inl ⟨trivial,p2,hp2,⟨S2.arr,S2.kind,S2.fail,?_⟩,by lia,by lia,s2⟩)⟩))
    show (pendingOf st2).push _=_
    rw [S2.pend]
    rfl
  ·dsimp only
   refine eA (fun c0=>?_) fun c0=>?_
   ·obtain rfl:lo=n:=by lia
    exact wpS_pure ⟨rfl,.inr ⟨p',0,hp',S',sg⟩⟩
   have low:∀ p2:Array Nat,(∀ i,i<lo->pa p2 i=pa p' i)->Seg lt p2 0 lo:=fun p2 e i j a b d=>by rw [e i (by lia),e j (by lia)];exact sg i j a b d
   refine wpS_bind (sJ O (by lia) (by lia) S' hp' fun m p2 st2 S2 hp2 m1 m2 s2 b2=>?_)
   dsimp only
   have fin2:∀ (p3:Array Nat) (st3:SortSt),Sst f κ p3 #[(0,lo,0)] st3->b0 n p3->Seg lt p3 lo (lo+(n-lo))->(∀ i,i<lo->pa p3 i=pa p' i)->∀ pw,RuB f κ n lt (setPending (setPending st3 ((pendingOf st3).modify ((pendingOf st3).size-1) fun x=>(x.1,x.2.1,pw))) ((((pendingOf st3).modify ((pendingOf st3).size-1) fun x=>(x.1,x.2.1,pw))).push (lo,n-lo,0))):=fun p3 st3 S3 hp3 s3 b3 pw=>by
    refine ⟨p3,lo,n-lo,pw,hp3,⟨S3.arr,S3.kind,S3.fail,?_⟩,by lia,by lia,by lia,low p3 b3,?_⟩
    ·show ((pendingOf st3).modify ((pendingOf st3).size-1) fun x=>(x.1,x.2.1,pw)).push (lo,n-lo,0)=_
     rw [S3.pend]
     rfl
    ·rw [show lo+(n-lo)=n by lia] at s3
     exact s3
   refine eA (fun c1=>?_) fun c1=>?_
   all_goals first
    | (refine wpS_bind (wpS_lift (wpAny_rule ⟨rfl,?_⟩))
       rw [show min (n-lo) (n / 2+n%2)=n-lo by lia]
       refine wpS_bind (CA O (by lia) (by lia) S2 hp2 s2 fun p3 st3 S3 hp3 s3 b3=>?_)
       rw [if_neg (by decide)]
       replace b3:=fun i hi=>(b3 i hi).trans (b2 i hi))
    | (obtain rfl:m=n-lo:=by lia
       have hp3:=hp2
       have s3:=s2
       have b3:=b2
       have S3:=S2
       generalize st2=st3 at S3 ⊢
       generalize p2=p3 at S3 hp3 s3 b3)
   all_goals
    have eb:(pendingOf st3).back?=some (0,lo,0):=by rw [S3.pend];rfl
    refine wpS_bind (wpS_get ?_)
    rw [eb]
    dsimp only
    refine wpS_bind (wpS_mono (wpS_forRange (I:=fun _ c st4=>c=(none,())/\st4=st3) (Q:=fun c st4=>c=(none,())/\st4=st3) (fun y c st4 _ _ z=>?_) (fun _ _ z=>z) ⟨rfl,rfl⟩) fun c st4 z=>?_)
    ·obtain ⟨rfl,rfl⟩:=z
     refine wpS_bind (wpS_get ?_)
     rw [S3.pend,if_neg (by simp)]
     exact wpS_pure ⟨rfl,rfl⟩
    ·obtain ⟨rfl,rfl⟩:=z
     dsimp only
     exact wpS_bind (wpS_modify (wpS_bind (wpS_modify (wpS_pure ⟨_,rfl,.inr (.inr ⟨by lia,by lia,fin2 p3 st4 S3 hp3 s3 b3 _⟩)⟩))))
  ·dsimp only
   rw [if_pos (ag _)]
   exact wpS_pure ⟨rfl,.inl r⟩
end
end Ry
namespace Ry
open PySem PySem.W PyProof.Rows
noncomputable abbrev OkN {α:Type} (ts:List α):Prop:=ts.length<64\/(ts.length<=127/\ts.Nodup)
theorem OkN.inj {α:Type} {ts:List α} (h:OkN ts) (d:α):ts.length<64\/(ts.length<=127/\∀ i j,i<ts.length->j<ts.length->ts.getD i d=ts.getD j d->i=j) :=
 h.imp id fun ⟨h1,h2⟩=>⟨h1,fun i j hi hj e=>by
  rw [ai,ae hi,ai,ae hj] at e
  exact (eI h2).mp e⟩
section
variable {prog:Program} {w:World} {A:Around} {E:Value->Shared->Prop} {s:Shared} {O:KeyOrd} {κ:SortKind} {key:Nat->O.α} {ks vs:List Value}
theorem vQ (hl:ks.length=vs.length) (h2:2<=vs.length) (h64:vs.length<64\/(vs.length<=127/\∀ i j,i<vs.length->j<vs.length->key i=key j->i=j))
 (lt:∀ i j (C:Bool->Shared->Prop),i<vs.length->j<vs.length->C (O.blt (key i) (key j)) s->kas_ask prog w A κ ks i j C s) :
 wpAny (model prog w) A ((sortRuns').run (SortSt.mk' κ (ks.toArray.zip vs.toArray) #[] 7 none)) (fun r s'=>s'=s/\∃ p:Array Nat,arrOf r.2=p.map (kas_item (ks.toArray.zip vs.toArray))/\failedOf r.2=none/\b0 vs.length p/\mr O key p vs.length) E s:=by
 by_cases hs:vs.length<64
 ·exact kat_run (Q:=fun st' s'=>s'=s/\∃ p:Array Nat,arrOf st'=p.map (kas_item (ks.toArray.zip vs.toArray))/\failedOf st'=none/\b0 vs.length p/\mr O key p vs.length) hl h2 hs
   (G:=fun p s'=>s'=s/\b0 vs.length p/\mr O key p vs.length) (fun p st' s' _ a b c=>⟨c.1,p,a,b,c.2⟩) (dJ.wp (O:=O) (key:=key) (n:=vs.length) lt (t6 (by lia) fun p hp hu=>⟨rfl,hp,hu⟩))
 ·obtain ⟨h127,inj⟩:=h64.resolve_left hs
  have O':Ora prog w A s (kas_item (ks.toArray.zip vs.toArray)) κ vs.length (fun i j=>O.blt (key i) (key j)) :=
   ⟨fun i j C hi hj c=>by rw [kat_item hl,kat_item hl];exact lt i j C hi hj c,fun i=>O.irrefl _,fun i j k=>O.trans _ _ _,fun i j hi hj hne=>by
     cases h1:O.blt (key i) (key j) with
     | true=>exact .inl rfl
     | false=>cases h2:O.blt (key j) (key i) with
       | true=>exact .inr rfl
       | false=>exact absurd (inj i j hi hj (O.total _ _ h1 h2)) hne⟩
  have e:=kas_range (ks.toArray.zip vs.toArray)
  rw [show (ks.toArray.zip vs.toArray).size=vs.length by simp [hl]] at e
  show wpS (model prog w) A E s sortRuns' (fun _ st'=>∃ p:Array Nat,arrOf st'=p.map (kas_item (ks.toArray.zip vs.toArray))/\failedOf st'=none/\b0 vs.length p/\mr O key p vs.length) (SortSt.mk' κ (ks.toArray.zip vs.toArray) #[] 7 none)
  refine CQ O' (p:=(bp vs.length).toArray) (by lia) h127 ⟨.refl _⟩ ⟨e.symm,rfl,rfl,rfl⟩ fun p' st' hp ha hf hs=>⟨p',ha,hf,hp,fun i j hij hj=>?_⟩
  rcases kI hij with h | h
  ·exact KeyOrd.kle_of_klt (hs i j (aU _) h hj)
  ·subst h;exact KeyOrd.kle_refl _
end
end Ry
namespace Ry
open PySem PySem.Spec PyProof.Rows L2
noncomputable abbrev St:=L2.St
inductive Da where
 | non | bl (b:Bool) | int (i:Int) | str (x:Str) | tup (ds:List Da) | lst (ds:List Da) | dK (ks:List Key) (ds:List Da) | dT (ks:List (List Key)) (ds:List Da)
mutual
noncomputable def Den (K:PySem.W.Frag) (G:Hp):Da->V->Prop
 | .non,v=>v=.non
 | .bl b,v=>v=.bl b
 | .int i,v=>v=.int i
 | .str x,v=>v=.str x
 | .tup ds,v=>∃ a xs,v=.ref a/\G a=some (.tup xs)/\bT K G ds xs
 | .lst ds,v=>∃ a xs,v=.ref a/\SqL K G a xs/\bT K G ds xs
 | .dK ks ds,v=>∃ a o kvs,v=.ref a/\G a=some (.frz o (.dK kvs))/\kvs.map (·.1)=ks/\bT K G ds (kvs.map (·.2))
 | .dT ks ds,v=>∃ a o kvs,v=.ref a/\G a=some (.frz o (.dT kvs))/\kvs.map (·.1)=ks/\bT K G ds (kvs.map (·.2))
noncomputable def bT (K:PySem.W.Frag) (G:Hp):List Da->List V->Prop
 | [],xs=>xs=[]
 | d::ds,xs=>∃ x r,xs=x::r/\Den K G d x/\bT K G ds r
end
mutual
theorem Den.mono {K:PySem.W.Frag} {G G':Hp} (e:bY G G'):∀ (d:Da) {v:V},Den K G d v->Den K G' d v
 | .non,_,h=>h
 | .bl _,_,h=>h
 | .int _,_,h=>h
 | .str _,_,h=>h
 | .tup ds,_,h=>by obtain ⟨a,xs,rfl,q,r⟩:=h;exact ⟨a,xs,rfl,e _ _ q,bT.mono e ds r⟩
 | .lst ds,_,h=>by obtain ⟨a,xs,rfl,q,r⟩:=h;exact ⟨a,xs,rfl,e.seq q,bT.mono e ds r⟩
 | .dK ks ds,_,h=>by obtain ⟨a,o,kvs,rfl,q,k,r⟩:=h;exact ⟨a,o,kvs,rfl,e _ _ q,k,bT.mono e ds r⟩
 | .dT ks ds,_,h=>by obtain ⟨a,o,kvs,rfl,q,k,r⟩:=h;exact ⟨a,o,kvs,rfl,e _ _ q,k,bT.mono e ds r⟩
theorem bT.mono {K:PySem.W.Frag} {G G':Hp} (e:bY G G'):∀ (ds:List Da) {xs:List V},bT K G ds xs->bT K G' ds xs
 | [],_,h=>h
 | d::ds,_,h=>by obtain ⟨x,r,rfl,h1,h2⟩:=h;exact ⟨x,r,rfl,Den.mono e d h1,bT.mono e ds h2⟩
end
section
variable {K:PySem.W.Frag} {G:Hp}
theorem bT.length:∀ {ds:List Da} {xs:List V},bT K G ds xs->xs.length=ds.length
 | [],_,h=>by cases (show _=_ from h);rfl
 | d::ds,_,h=>by obtain ⟨x,r,rfl,_,h2⟩:=h;rw [aA,aA,bT.length h2]
theorem bT.get:∀ {ds:List Da} {xs:List V} {i:Nat} {d:Da},bT K G ds xs->ds[i]?=some d->∃ x,xs[i]?=some x/\Den K G d x
 | [],_,_,_,_,e=>by simp at e
 | d::ds,_,0,_,h,e=>by obtain ⟨x,r,rfl,h1,_⟩:=h;simp at e;subst e;exact ⟨x,rfl,h1⟩
 | d::ds,_,i+1,_,h,e=>by obtain ⟨x,r,rfl,_,h2⟩:=h;simpa using bT.get (i:=i) h2 (by simpa using e)
theorem bT.append:∀ {ds es:List Da} {xs ys:List V},bT K G ds xs->bT K G es ys->bT K G (ds++es) (xs++ys)
 | [],_,_,_,h,h'=>by cases (show _=_ from h);exact h'
 | d::ds,_,_,_,h,h'=>by obtain ⟨x,r,rfl,h1,h2⟩:=h;exact ⟨x,_,rfl,h1,bT.append h2 h'⟩
theorem bT.one {d:Da} {x:V} (h:Den K G d x):bT K G [d] [x]:=⟨x,[],rfl,h,rfl⟩
theorem bT.drop:∀ {ds:List Da} {xs:List V} (n:Nat),bT K G ds xs->bT K G (ds.drop n) (xs.drop n)
 | _,_,0,h=>h
 | [],_,_+1,h=>by cases (show _=_ from h);rfl
 | d::ds,_,n+1,h=>by obtain ⟨x,r,rfl,_,h2⟩:=h;exact bT.drop n h2
theorem bT.take:∀ {ds:List Da} {xs:List V} (n:Nat),bT K G ds xs->bT K G (ds.take n) (xs.take n)
 | _,_,0,_=>rfl
 | [],_,_+1,h=>by cases (show _=_ from h);rfl
 | d::ds,_,n+1,h=>by obtain ⟨x,r,rfl,h1,h2⟩:=h;exact ⟨x,_,rfl,h1,bT.take n h2⟩
theorem bT.reverse {ds:List Da}:∀ {xs:List V},bT K G ds xs->bT K G ds.reverse xs.reverse:=by
 induction ds with
 | nil=>intro xs h;cases (show _=_ from h);rfl
 | cons d ds ih=>intro xs h;obtain ⟨x,r,rfl,h1,h2⟩:=h;rw [g5,g5];exact bT.append (ih h2) (bT.one h1)
theorem bT.ints:∀ {ns:List Int} {xs:List V},bT K G (ns.map Da.int) xs↔xs=ns.map V.int
 | [],_=>Iff.rfl
 | n::ns,xs=>by
   constructor
   ·rintro ⟨x,r,rfl,h1,h2⟩
    cases (show _=_ from h1)
    rw [bT.ints.mp h2];rfl
   ·intro e
    subst e
    exact ⟨_,_,rfl,rfl,bT.ints.mpr rfl⟩
end
inductive Kd where
 | pu | bo | fr
 deriving DecidableEq
noncomputable abbrev Rv:=Kd×Da
noncomputable def Holds (K:PySem.W.Frag) (G:Hp):Da->HO->Prop
 | .lst ds,o=>∃ xs,o=.lst xs/\bT K G ds xs
 | .dK ks ds,o=>∃ kvs,o=.dK kvs/\kvs.map (·.1)=ks/\bT K G ds (kvs.map (·.2))
 | .dT ks ds,o=>∃ kvs,o=.dT kvs/\kvs.map (·.1)=ks/\bT K G ds (kvs.map (·.2))
 | _,_=>False
theorem Holds.mono {K:PySem.W.Frag} {G G':Hp} (e:bY G G') {d:Da} {o:HO} (h:Holds K G d o):Holds K G' d o:=by
 cases d with
 | lst ds=>obtain ⟨xs,rfl,r⟩:=h;exact ⟨xs,rfl,bT.mono e ds r⟩
 | dK ks ds=>obtain ⟨kvs,rfl,k,r⟩:=h;exact ⟨kvs,rfl,k,bT.mono e ds r⟩
 | dT ks ds=>obtain ⟨kvs,rfl,k,r⟩:=h;exact ⟨kvs,rfl,k,bT.mono e ds r⟩
 | _=>exact False.elim h
noncomputable def km:Da->Bool
 | .dK _ _=>true
 | .dT _ _=>true
 | _=>false
theorem Holds.den {K:PySem.W.Frag} {G:Hp} {d:Da} {o:HO} {l:Addr} (e:G l=some o) (h:Holds K G d o) (nd:km d=false):Den K G d (.ref l):=by
 cases d with
 | lst ds=>obtain ⟨xs,rfl,r⟩:=h;exact ⟨l,xs,rfl,SqL.of e,r⟩
 | dK ks ds=>cases nd
 | dT ks ds=>cases nd
 | _=>exact False.elim h
noncomputable def cX:Kd×Da->Bool
 | (.pu,_)=>true
 | (.bo,_)=>false
 | (.fr,d)=>!km d
noncomputable def isT:HO->Bool
 | .tup _=>true
 | _=>false
theorem Holds.nt {K:PySem.W.Frag} {G:Hp} {d:Da} {o:HO} (h:Holds K G d o):isT o=false:=by
 cases d with
 | lst ds=>obtain ⟨xs,rfl,_⟩:=h;rfl
 | dK ks ds=>obtain ⟨xs,rfl,_⟩:=h;rfl
 | dT ks ds=>obtain ⟨xs,rfl,_⟩:=h;rfl
 | _=>exact False.elim h
structure Ext (G H G' H':Hp):Prop where
 hh:bY H H'
 gg:bY G G'
 gh:bY G' H'
 nw:∀ b o,H b=some o->isT o=false->G b=none->G' b=none
theorem Ext.refl {G H:Hp} (h:bY G H):Ext G H G H:=⟨bY.refl _,bY.refl _,h,fun _ _ _ _ n=>n⟩
theorem Ext.trans {G H G1 H1 G2 H2:Hp} (a:Ext G H G1 H1) (b:Ext G1 H1 G2 H2):Ext G H G2 H2 :=
 ⟨a.hh.trans b.hh,a.gg.trans b.gg,b.gh,fun c o e t n=>b.nw c o (a.hh c o e) t (a.nw c o e t n)⟩
theorem bB {G:Hp} {l:Addr} {o:HO} (h:G l=none):bY G (upd G l o):=fun b u e=>by rw [bf (bI e h)];exact e
theorem iy {G H:Hp} {l:Addr} {o:HO} (h:bY G H):bY (upd G l o) (upd H l o):=fun b u e=>by
 by_cases hb:b=l
 ·subst hb;rw [aS] at e ⊢;exact e
 ·rw [bf hb] at e ⊢;exact h b u e
theorem Ext.new {G H:Hp} {l:Addr} {o:HO} (h:bY G H) (n:H l=none):Ext G H (upd G l o) (upd H l o) :=
 ⟨bB n,bB (h.free n),iy h,fun b u e _ g=>by rw [bf (bI e n)];exact g⟩
theorem Ext.own {G H:Hp} {l:Addr} {o:HO} (h:bY G H) (n:H l=none):Ext G H G (upd H l o) :=
 ⟨bB n,bY.refl _,h.trans (bB n),fun _ _ _ _ g=>g⟩
noncomputable def fP (K:PySem.W.Frag) (B H0 G H:Hp):Rv->V->Prop
 | (.pu,d),v=>Den K G d v
 | (.bo,d),v=>∃ l o,v=.ref l/\B l=none/\G l=none/\H l=some o/\Holds K G d o
 | (.fr,d),v=>∃ l o,v=.ref l/\H0 l=none/\G l=none/\H l=some o/\Holds K G d o
section
variable {K:PySem.W.Frag} {B H0 H1 G H G' H':Hp} {r:Rv} {v:V}
theorem fP.ext (h:fP K B H0 G H r v) (e:Ext G H G' H'):fP K B H0 G' H' r v:=by
 obtain ⟨k,d⟩:=r
 cases k with
 | pu=>exact Den.mono e.gg d h
 | bo=>obtain ⟨l,o,rfl,b,g,q,r⟩:=h;exact ⟨l,o,rfl,b,e.nw _ _ q r.nt g,e.hh _ _ q,r.mono e.gg⟩
 | fr=>obtain ⟨l,o,rfl,n,g,q,r⟩:=h;exact ⟨l,o,rfl,n,e.nw _ _ q r.nt g,e.hh _ _ q,r.mono e.gg⟩
theorem fP.base (h:fP K B H1 G H r v) (e:bY H0 H1):fP K B H0 G H r v:=by
 obtain ⟨k,d⟩:=r
 cases k with
 | pu=>exact h
 | bo=>exact h
 | fr=>obtain ⟨l,o,rfl,n,g,q,r⟩:=h;exact ⟨l,o,rfl,e.free n,g,q,r⟩
theorem fP.den (s:bY G H) (h:fP K B H0 G H r v) (nd:km r.2=false):Den K H r.2 v:=by
 obtain ⟨k,d⟩:=r
 cases k with
 | pu=>exact Den.mono s d h
 | bo=>obtain ⟨l,o,rfl,_,_,q,r⟩:=h;exact (r.mono s).den q nd
 | fr=>obtain ⟨l,o,rfl,_,_,q,r⟩:=h;exact (r.mono s).den q nd
theorem fP.pure {G0:Hp} (e:Ext G0 H0 G H) (h:fP K B H0 G H r v) (k:cX r=true):∃ G',Ext G0 H0 G' H/\bY G G'/\Den K G' r.2 v:=by
 obtain ⟨kd,d⟩:=r
 cases kd with
 | pu=>exact ⟨G,e,bY.refl _,h⟩
 | bo=>cases k
 | fr =>
   have nd:km d=false:=by simpa [cX] using k
   obtain ⟨l,o,rfl,n,g,q,r⟩:=h
   refine ⟨upd G l o,⟨e.hh,e.gg.trans (bB g),fun b u z=>?_,fun b u z t w=>?_⟩,bB g,(r.mono (bB g)).den aS nd⟩
   ·by_cases hb:b=l
    ·subst hb;rw [aS] at z;rw [<- z];exact q
    ·rw [bf hb] at z;exact e.gh b u z
   ·rw [bf (bI z n)];exact e.nw b u z t w
theorem fP.pureB {G0:Hp} (sb:bY B H0) (e:Ext G0 B G H) (h:fP K B H0 G H r v) (nd:r.1=.pu\/km r.2=false):∃ G',Ext G0 B G' H/\bY G G'/\Den K G' r.2 v:=by
 obtain ⟨kd,d⟩:=r
 have go:km d=false->∀ (l:Addr) (o:HO),v=.ref l->B l=none->H l=some o->Holds K G d o->∃ G',Ext G0 B G' H/\bY G G'/\Den K G' d v:=fun nd l o ev n q r=>by
  subst ev
  cases g:G l with
  | some o' =>
    have:=e.gh l o' g
    rw [q] at this;cases this
    exact ⟨G,e,bY.refl _,r.den g nd⟩
  | none =>
    refine ⟨upd G l o,⟨e.hh,e.gg.trans (bB g),fun b u z=>?_,fun b u z t w=>?_⟩,bB g,(r.mono (bB g)).den aS nd⟩
    ·by_cases hb:b=l
     ·subst hb;rw [aS] at z;rw [<- z];exact q
     ·rw [bf hb] at z;exact e.gh b u z
    ·rw [bf (bI z n)];exact e.nw b u z t w
 cases kd with
 | pu=>exact ⟨G,e,bY.refl _,h⟩
 | bo=>obtain ⟨l,o,ev,n,_,q,r⟩:=h;exact go (nd.resolve_left (by intro z;cases z)) l o ev n q r
 | fr=>obtain ⟨l,o,ev,n,_,q,r⟩:=h;exact go (nd.resolve_left (by intro z;cases z)) l o ev (sb.free n) q r
theorem fP.non {k:Kd} (h:fP K B H0 G H (k,.non) v):v=.non:=by
 cases k with
 | pu=>exact h
 | bo=>obtain ⟨_,_,_,_,_,_,r⟩:=h;exact False.elim r
 | fr=>obtain ⟨_,_,_,_,_,_,r⟩:=h;exact False.elim r
theorem fP.bl {k:Kd} {b:Bool} (h:fP K B H0 G H (k,.bl b) v):v=.bl b:=by
 cases k with
 | pu=>exact h
 | bo=>obtain ⟨_,_,_,_,_,_,r⟩:=h;exact False.elim r
 | fr=>obtain ⟨_,_,_,_,_,_,r⟩:=h;exact False.elim r
theorem fP.int {k:Kd} {i:Int} (h:fP K B H0 G H (k,.int i) v):v=.int i:=by
 cases k with
 | pu=>exact h
 | bo=>obtain ⟨_,_,_,_,_,_,r⟩:=h;exact False.elim r
 | fr=>obtain ⟨_,_,_,_,_,_,r⟩:=h;exact False.elim r
theorem fP.tup {k:Kd} {ds:List Da} (s:bY G H) (h:fP K B H0 G H (k,.tup ds) v):∃ a xs,v=.ref a/\H a=some (.tup xs)/\bT K G ds xs/\G a=some (.tup xs):=by
 cases k with
 | pu=>obtain ⟨a,xs,rfl,q,r⟩:=h;exact ⟨a,xs,rfl,s _ _ q,r,q⟩
 | bo=>obtain ⟨_,_,_,_,_,_,r⟩:=h;exact False.elim r
 | fr=>obtain ⟨_,_,_,_,_,_,r⟩:=h;exact False.elim r
theorem fP.lst {k:Kd} {ds:List Da} (s:bY G H) (h:fP K B H0 G H (k,.lst ds) v):∃ a xs,v=.ref a/\SqL K H a xs/\bT K G ds xs:=by
 cases k with
 | pu=>obtain ⟨a,xs,rfl,q,r⟩:=h;exact ⟨a,xs,rfl,s.seq q,r⟩
 | bo=>obtain ⟨l,o,rfl,_,_,q,xs,rfl,r⟩:=h;exact ⟨l,xs,rfl,SqL.of q,r⟩
 | fr=>obtain ⟨l,o,rfl,_,_,q,xs,rfl,r⟩:=h;exact ⟨l,xs,rfl,SqL.of q,r⟩
theorem fP.dK {k:Kd} {ks:List Key} {ds:List Da} (s:bY G H) (h:fP K B H0 G H (k,.dK ks ds) v):∃ a kvs,v=.ref a/\Rd H a (.dK kvs)/\kvs.map (·.1)=ks/\bT K G ds (kvs.map (·.2)):=by
 cases k with
 | pu=>obtain ⟨a,o,kvs,rfl,q,e,r⟩:=h;exact ⟨a,kvs,rfl,.inr ⟨o,s _ _ q⟩,e,r⟩
 | bo=>obtain ⟨l,o,rfl,_,_,q,kvs,rfl,e,r⟩:=h;exact ⟨l,kvs,rfl,.inl q,e,r⟩
 | fr=>obtain ⟨l,o,rfl,_,_,q,kvs,rfl,e,r⟩:=h;exact ⟨l,kvs,rfl,.inl q,e,r⟩
theorem fP.dT {k:Kd} {ks:List (List Key)} {ds:List Da} (s:bY G H) (h:fP K B H0 G H (k,.dT ks ds) v):∃ a kvs,v=.ref a/\Rd H a (.dT kvs)/\kvs.map (·.1)=ks/\bT K G ds (kvs.map (·.2)):=by
 cases k with
 | pu=>obtain ⟨a,o,kvs,rfl,q,e,r⟩:=h;exact ⟨a,kvs,rfl,.inr ⟨o,s _ _ q⟩,e,r⟩
 | bo=>obtain ⟨l,o,rfl,_,_,q,kvs,rfl,e,r⟩:=h;exact ⟨l,kvs,rfl,.inl q,e,r⟩
 | fr=>obtain ⟨l,o,rfl,_,_,q,kvs,rfl,e,r⟩:=h;exact ⟨l,kvs,rfl,.inl q,e,r⟩
end
inductive Sl where
 | no | pu (d:Da) | ow (d:Da)
noncomputable abbrev Rho:=List Sl
noncomputable def AX:List Str:=["upwards","heads","_law_turns"]
noncomputable def DW (e:Addr×Obj):Option (Addr×Str):=match e.2.data with
 | .fields vs=>(match (vs.toList[1]?:Option Value),(vs.toList[11]?:Option Value) with
   | some (.str q _),some (.ref P)=>if AX.contains q then some (P,q++".<locals>."++"<lambda>") else none
   | _,_=>none)
 | _=>none
noncomputable def gw (K:PySem.W.Frag):List (Addr×Str):=K.filterMap DW
noncomputable def Tbs (K:PySem.W.Frag) (G:Hp):Prop:=∀ e∈gw K,G e.1=some (.tab e.2)
theorem Tbs.mono {K:PySem.W.Frag} {G G':Hp} (h:Tbs K G) (s:bY G G'):Tbs K G':=fun e he=>s _ _ (h e he)
structure fV (K:PySem.W.Frag) (B G H:Hp) (σ:St) (ρ:Rho):Prop where
 len:σ.length=ρ.length
 pu:∀ (i:Nat) (d:Da),ρ[i]?=some (.pu d)->∃ v,σ[i]?=some (some v)/\Den K G d v
 ow:∀ (i:Nat) (d:Da),ρ[i]?=some (.ow d)->∃ l o,σ[i]?=some (some (.ref l))/\B l=none/\G l=none/\H l=some o/\Holds K G d o
 ap:∀ (i j:Nat) (d d':Da) (l:Addr),i≠j->ρ[i]?=some (.ow d)->ρ[j]?=some (.ow d')->σ[i]?=some (some (.ref l))->σ[j]?=some (some (.ref l))->False
 tg:Tbs K G
section
variable {K:PySem.W.Frag} {B G H G' H':Hp} {σ:St} {ρ:Rho}
theorem fV.ext (h:fV K B G H σ ρ) (e:Ext G H G' H'):fV K B G' H' σ ρ :=
 ⟨h.len,fun i d q=>let ⟨v,a,b⟩:=h.pu i d q;⟨v,a,Den.mono e.gg d b⟩,fun i d q=>let ⟨l,o,a,b,c,f,g⟩:=h.ow i d q;⟨l,o,a,b,e.nw _ _ f g.nt c,e.hh _ _ f,g.mono e.gg⟩,h.ap,h.tg.mono e.gg⟩
theorem fV.setPu {i:Nat} {d:Da} {v:V} (h:fV K B G H σ ρ) (r:Den K G d v):fV K B G H (σ.set i (some v)) (ρ.set i (.pu d)):=by
 refine ⟨by rw [bx,bx,h.len],fun j d' q=>?_,fun j d' q=>?_,fun j k d1 d2 l hjk q1 q2 s1 s2=>?_,h.tg⟩
 ·by_cases e:i=j
  ·subst e
   have hi:i<ρ.length:=by
    have:=(aq.mp q).1;rwa [bx] at this
   rw [aK hi] at q
   cases q
   exact ⟨v,aK (by rw [h.len];exact hi),r⟩
  ·rw [aP e] at q ⊢;exact h.pu j d' q
 ·by_cases e:i=j
  ·subst e
   have hi:i<ρ.length:=by
    have:=(aq.mp q).1;rwa [bx] at this
   rw [aK hi] at q
   cases q
  ·rw [aP e] at q ⊢;exact h.ow j d' q
 ·have nij:∀ m d',(ρ.set i (.pu d))[m]?=some (.ow d')->i≠m:=fun m d' q e=>by
   subst e
   have hi:i<ρ.length:=by
    have:=(aq.mp q).1;rwa [bx] at this
   rw [aK hi] at q;cases q
  have n1:=nij _ _ q1
  have n2:=nij _ _ q2
  rw [aP n1] at q1 s1
  rw [aP n2] at q2 s2
  exact h.ap j k d1 d2 l hjk q1 q2 s1 s2
theorem fV.setOw {i:Nat} {d:Da} {l:Addr} {o:HO} (h:fV K B G H σ ρ) (nb:B l=none) (ng:G l=none) (q:H l=some o) (r:Holds K G d o)
 (fresh:∀ (j:Nat) (d':Da),j≠i->ρ[j]?=some (.ow d')->σ[j]?≠some (some (.ref l))):fV K B G H (σ.set i (some (.ref l))) (ρ.set i (.ow d)):=by
 refine ⟨by rw [bx,bx,h.len],fun j d' q=>?_,fun j d' q'=>?_,fun j k d1 d2 l' hjk q1 q2 s1 s2=>?_,h.tg⟩
 ·by_cases e:i=j
  ·subst e
   have hi:i<ρ.length:=by
    have:=(aq.mp q).1;rwa [bx] at this
   rw [aK hi] at q;cases q
  ·rw [aP e] at q ⊢;exact h.pu j d' q
 ·by_cases e:i=j
  ·subst e
   have hi:i<ρ.length:=by
    have:=(aq.mp q').1;rwa [bx] at this
   rw [aK hi] at q'
   cases q'
   exact ⟨l,o,aK (by rw [h.len];exact hi),nb,ng,q,r⟩
  ·rw [aP e] at q' ⊢;exact h.ow j d' q'
 ·by_cases e1:i=j
  ·subst e1
   have hi:i<ρ.length:=by
    have:=(aq.mp q1).1;rwa [bx] at this
   rw [aK (by rw [h.len];exact hi)] at s1
   cases s1
   rw [aP hjk] at q2 s2
   exact fresh k d2 (Ne.symm hjk) q2 s2
  ·by_cases e2:i=k
   ·subst e2
    have hi:i<ρ.length:=by
     have:=(aq.mp q2).1;rwa [bx] at this
    rw [aK (by rw [h.len];exact hi)] at s2
    cases s2
    rw [aP e1] at q1 s1
    exact fresh j d1 (Ne.symm e1) q1 s1
   ·rw [aP e1] at q1 s1
    rw [aP e2] at q2 s2
    exact h.ap j k d1 d2 l' hjk q1 q2 s1 s2
theorem fV.mut {i:Nat} {d d':Da} {l:Addr} {o':HO} (h:fV K B G H σ ρ) (e:ρ[i]?=some (.ow d)) (s:σ[i]?=some (some (.ref l))) (r:Holds K G d' o'):fV K B G (upd H l o') σ (ρ.set i (.ow d')):=by
 have hi:i<ρ.length:=(aq.mp e).1
 refine ⟨by rw [bx,h.len],fun j d1 q=>?_,fun j d1 q=>?_,fun j k d1 d2 l' hjk q1 q2 s1 s2=>?_,h.tg⟩
 ·by_cases ej:i=j
  ·subst ej;rw [aK hi] at q;cases q
  ·rw [aP ej] at q;exact h.pu j d1 q
 ·by_cases ej:i=j
  ·subst ej
   rw [aK hi] at q;cases q
   obtain ⟨l0,o,a,b,c,f,g⟩:=h.ow i d e
   rw [s] at a;cases a
   exact ⟨l,o',s,b,c,aS,r⟩
  ·rw [aP ej] at q
   obtain ⟨l0,o,a,b,c,f,g⟩:=h.ow j d1 q
   refine ⟨l0,o,a,b,c,?_,g⟩
   have ne:l0≠l:=fun z=>by subst z;exact h.ap i j d d1 l0 ej e q s a
   rw [bf ne];exact f
 ·have back:∀ (m:Nat) (d0:Da),(ρ.set i (.ow d'))[m]?=some (Sl.ow d0)->∃ d1,ρ[m]?=some (Sl.ow d1):=fun m d0 q=>by
   by_cases em:i=m
   ·subst em;exact ⟨d,e⟩
   ·rw [aP em] at q;exact ⟨d0,q⟩
  obtain ⟨x1,y1⟩:=back _ _ q1
  obtain ⟨x2,y2⟩:=back _ _ q2
  exact h.ap j k x1 x2 l' hjk y1 y2 s1 s2
theorem jA {G H:Hp} {l:Addr} {o:HO} (s:bY G H) (g:G l=none):bY G (upd H l o):=fun b u e=>by rw [bf (bI e g)];exact s b u e
theorem Ext.mut {G0 B G H:Hp} {l:Addr} {o:HO} (e:Ext G0 B G H) (nb:B l=none) (ng:G l=none):Ext G0 B G (upd H l o) :=
 ⟨jA e.hh nb,e.gg,jA e.gh ng,e.nw⟩
noncomputable def frz (i:Nat) (ρ:Rho):Rho:=match ρ[i]? with
 | some (.ow (.lst ds))=>ρ.set i (.pu (.lst ds))
 | _=>ρ
theorem fV.frz {G0:Hp} (i:Nat) (e:Ext G0 B G H) (h:fV K B G H σ ρ):∃ G',Ext G0 B G' H/\bY G G'/\fV K B G' H σ (Ry.frz i ρ):=by
 unfold Ry.frz
 split
 ·rename_i ds q
  obtain ⟨l,o,a,nb,ng,f,g⟩:=h.ow i (.lst ds) q
  have hi:i<ρ.length:=(aq.mp q).1
  have sG:bY G (upd G l o):=bB ng
  refine ⟨upd G l o,⟨e.hh,e.gg.trans sG,fun b u z=>?_,fun b u z t w=>by rw [bf (bI z nb)];exact e.nw b u z t w⟩,sG,by rw [bx,h.len],fun j d1 q1=>?_,fun j d1 q1=>?_,fun j k d1 d2 l' hjk q1 q2 s1 s2=>?_,h.tg.mono sG⟩
  ·by_cases hb:b=l
   ·subst hb;rw [aS] at z;rw [<- z];exact f
   ·rw [bf hb] at z;exact e.gh b u z
  ·by_cases ej:i=j
   ·subst ej
    rw [aK hi] at q1;cases q1
    exact ⟨_,a,(g.mono sG).den aS rfl⟩
   ·rw [aP ej] at q1
    obtain ⟨v,x,y⟩:=h.pu j d1 q1
    exact ⟨v,x,Den.mono sG d1 y⟩
  ·by_cases ej:i=j
   ·subst ej;rw [aK hi] at q1;cases q1
   ·rw [aP ej] at q1
    obtain ⟨l0,o0,x,y,z,f0,g0⟩:=h.ow j d1 q1
    refine ⟨l0,o0,x,y,?_,f0,g0.mono sG⟩
    have ne:l0≠l:=fun w=>by subst w;exact h.ap i j (.lst ds) d1 l0 ej q q1 a x
    rw [bf ne];exact z
  ·have back:∀ (m:Nat) (d0:Da),(ρ.set i (.pu (.lst ds)))[m]?=some (Sl.ow d0)->ρ[m]?=some (Sl.ow d0):=fun m d0 q=>by
    by_cases em:i=m
    ·subst em;rw [aK hi] at q;cases q
    ·rw [aP em] at q;exact q
   exact h.ap j k d1 d2 l' hjk (back _ _ q1) (back _ _ q2) s1 s2
 ·exact ⟨G,e,bY.refl _,h⟩
end
noncomputable def tX (K:PySem.W.Frag) (f:Rho->Option Rv):TE:=fun σ H Q=>∃ B G ρ r,bY G H/\bY B H/\fV K B G H σ ρ/\f ρ=some r/\∀ v G' H',Ext G H G' H'->fP K B H G' H' r v->Q v H'
noncomputable abbrev PX (X:Cx) (e:Expr) (f:Rho->Option Rv):Prop:=PE X e (tX X.K f)
noncomputable def tXT (K:PySem.W.Frag) (f:Rho->Option Bool):TT:=fun σ H Q=>∃ B G ρ b,bY G H/\bY B H/\fV K B G H σ ρ/\f ρ=some b/\∀ G' H',Ext G H G' H'->Q b H'
noncomputable abbrev PXT (X:Cx) (e:Expr) (f:Rho->Option Bool):Prop:=PT X e (tXT X.K f)
noncomputable abbrev PXW (X:Cx) (e:Expr) (f:Rho->Option Bool):Prop:=PW X e (tXT X.K f)
noncomputable def dM (K:PySem.W.Frag) (B H0 G H:Hp):List Rv->List V->Prop
 | [],vs=>vs=[]
 | r::rs,vs=>∃ v r',vs=v::r'/\fP K B H0 G H r v/\dM K B H0 G H rs r'
noncomputable def tXA (K:PySem.W.Frag) (f:Rho->Option (List Rv)):TA:=fun σ H Q=>∃ B G ρ rs,bY G H/\bY B H/\fV K B G H σ ρ/\f ρ=some rs/\∀ vs G' H',Ext G H G' H'->dM K B H G' H' rs vs->Q vs H'
noncomputable abbrev PXA (X:Cx) (es:List Expr) (f:Rho->Option (List Rv)):Prop:=PA X es (tXA X.K f)
theorem PE.imp {X:Cx} {e:Expr} {t t':TE} (h:PE X e t) (i:∀ σ H Q,t' σ H Q->t σ H Q):PE X e t':=fun pins s σ H Q I q=>h pins s σ H Q I (i σ H Q q)
theorem PT.imp {X:Cx} {e:Expr} {t t':TT} (h:PT X e t) (i:∀ σ H Q,t' σ H Q->t σ H Q):PT X e t':=fun pins s σ H Q I q=>h pins s σ H Q I (i σ H Q q)
theorem PW.imp {X:Cx} {e:Expr} {t t':TT} (h:PW X e t) (i:∀ σ H Q,t' σ H Q->t σ H Q):PW X e t':=fun wh pins s σ H Q I q=>h wh pins s σ H Q I (i σ H Q q)
theorem PA.imp {X:Cx} {es:List Expr} {t t':TA} (h:PA X es t) (i:∀ σ H Q,t' σ H Q->t σ H Q):PA X es t':=fun pos pins s σ H Q I q=>h pos pins s σ H Q I (i σ H Q q)
theorem PS.imp {X:Cx} {st:Stmt} {t t':TS} (h:PS X st t) (i:∀ D σ H,t' D σ H->t D σ H):PS X st t':=fun pins s σ H D I q=>h pins s σ H D I (i D σ H q)
theorem PSs.imp {X:Cx} {st:List Stmt} {t t':TS} (h:PSs X st t) (i:∀ D σ H,t' D σ H->t D σ H):PSs X st t':=fun pins s σ H D I q=>h pins s σ H D I (i D σ H q)
section
variable {K:PySem.W.Frag} {B H0 H1 G H G' H':Hp}
theorem dM.base:∀ {rs:List Rv} {vs:List V},dM K B H1 G H rs vs->bY H0 H1->dM K B H0 G H rs vs
 | [],_,h,_=>h
 | r::rs,_,h,e=>by obtain ⟨v,r',rfl,a,b⟩:=h;exact ⟨v,r',rfl,a.base e,dM.base b e⟩
noncomputable def gG:List Rv->Option (List Da)
 | []=>some []
 | r::rs=>if cX r=true then (gG rs).map (r.2::·) else none
theorem dM.pure {G0:Hp}:∀ {rs:List Rv} {vs:List V} {ds:List Da} {G:Hp},Ext G0 H0 G H->dM K B H0 G H rs vs->gG rs=some ds->∃ G',Ext G0 H0 G' H/\bY G G'/\bT K G' ds vs
 | [],_,_,G,e,h,q=>by cases (show _=_ from h);cases q;exact ⟨G,e,bY.refl _,rfl⟩
 | (k,d)::rs,_,ds,G,e,h,q=>by
   obtain ⟨v,r',rfl,a,b⟩:=h
   unfold gG at q
   by_cases hk:cX (k,d)=true
   case neg=>rw [if_neg hk] at q;cases q
   case pos =>
    rw [if_pos hk] at q
    cases q':gG rs with
    | none=>rw [q'] at q;cases q
    | some ds' =>
      rw [q'] at q
      cases q
      obtain ⟨G1,e1,s1,b1⟩:=dM.pure e b q'
      have go:∃ G',Ext G0 H0 G' H/\bY G1 G'/\Den K G' d v:=by
       cases k with
       | pu=>exact ⟨G1,e1,bY.refl _,Den.mono s1 d a⟩
       | bo=>cases hk
       | fr =>
         have nd:km d=false:=by simpa [cX] using hk
         obtain ⟨l,o,rfl,n,g,qq,r⟩:=a
         cases g1:G1 l with
         | some o' =>
           have:=e1.gh l o' g1
           rw [qq] at this;cases this
           exact ⟨G1,e1,bY.refl _,(r.mono s1).den g1 nd⟩
         | none =>
           refine ⟨upd G1 l o,⟨e1.hh,e1.gg.trans (bB g1),fun b u z=>?_,fun b u z t w=>?_⟩,bB g1,(r.mono (s1.trans (bB g1))).den aS nd⟩
           ·by_cases hb:b=l
            ·subst hb;rw [aS] at z;rw [<- z];exact qq
            ·rw [bf hb] at z;exact e1.gh b u z
           ·rw [bf (bI z n)];exact e1.nw b u z t w
      obtain ⟨G2,e2,s2,a2⟩:=go
      exact ⟨G2,e2,s1.trans s2,v,r',rfl,a2,bT.mono s2 ds' b1⟩
end
section
variable {X:Cx}
noncomputable def aJ (i:Nat):Rho->Option Rv:=fun ρ=>match ρ[i]? with
 | some (.pu d)=>some (.pu,d)
 | some (.ow d)=>some (.bo,d)
 | _=>none
theorem jd (i:Nat) {x:Str} {pos:Pos} (hN:X.N[i]?=some x:=by rfl) (hv:Vis X.env.scope x:=by first | exact Or.inl rfl | exact Or.inr (Or.inl rfl) | exact Or.inr (Or.inr rfl)) (hd:(x == ("__debug__" : Str))=false:=by decide)
 (hcd:(x == ("__classdict__" : Str))=false:=by decide):PX X (.Name x pos) (aJ i):=by
 refine PE.imp (m9 hN hv hd hcd) fun σ H Q ⟨B,G,ρ,r,sg,sb,st,e,k⟩=>?_
 unfold aJ at e
 split at e
 ·rename_i d q
  cases e
  obtain ⟨v,a,b⟩:=st.pu i d q
  exact ⟨v,a,k v G H (Ext.refl sg) b⟩
 ·rename_i d q
  cases e
  obtain ⟨l,o,a,nb,ng,f,g⟩:=st.ow i d q
  exact ⟨_,a,k _ G H (Ext.refl sg) ⟨l,o,rfl,nb,ng,f,g⟩⟩
 ·cases e
noncomputable def xC (d:Da):Rho->Option Rv:=fun _=>some (.pu,d)
theorem uc {i j pos}:PX X (.Constant (.int i) j pos) (xC (.int i)):=PE.imp Bg fun σ H Q ⟨B,G,ρ,r,sg,sb,st,e,k⟩=>by cases e;exact k _ G H (Ext.refl sg) rfl
theorem Dm {b j pos}:PX X (.Constant (.bool b) j pos) (xC (.bl b)):=PE.imp A6 fun σ H Q ⟨B,G,ρ,r,sg,sb,st,e,k⟩=>by cases e;exact k _ G H (Ext.refl sg) rfl
noncomputable def x2 (op:Rv->Rv->Option Rv) (fa fb:Rho->Option Rv):Rho->Option Rv:=fun ρ=>match fa ρ with
 | none=>none
 | some a=>match fb ρ with
   | none=>none
   | some b=>op a b
noncomputable def Op2 (K:PySem.W.Frag) (r:R2) (op:Rv->Rv->Option Rv):Prop:=∀ (B H0 G H:Hp) (a b c:Rv) (x y:V) (Q:VK),bY G H->fP K B H0 G H a x->fP K B H0 G H b y->op a b=some c ->
 (∀ v G' H',Ext G H G' H'->fP K B H G' H' c v->Q v H')->r x y H Q
theorem CK {K:PySem.W.Frag} {r:R2} {op:Rv->Rv->Option Rv} {fa fb:Rho->Option Rv} (h:Op2 K r op) {σ:St} {H:Hp} {Q:VK} (q:tX K (x2 op fa fb) σ H Q):tOp r (tX K fa) (tX K fb) σ H Q:=by
 obtain ⟨B,G,ρ,c,sg,sb,st,e,k⟩:=q
 unfold x2 at e
 split at e
 ·cases e
 ·rename_i a ea
  split at e
  ·cases e
  ·rename_i b eb
   refine ⟨B,G,ρ,a,sg,sb,st,ea,fun x G1 H1 E1 ra=>⟨B,G1,ρ,b,E1.gh,sb.trans E1.hh,st.ext E1,eb,fun y G2 H2 E2 rb=>?_⟩⟩
   exact h B H G2 H2 a b c x y _ E2.gh (ra.ext E2) (rb.base E1.hh) e fun v G3 H3 E3 rc=>k v G3 H3 ((E1.trans E2).trans E3) (rc.base (E1.hh.trans E2.hh))
theorem pJ {a b:Expr} {pos:Pos} {o:Operator} {r:R2} {op:Rv->Rv->Option Rv} {fa fb:Rho->Option Rv} (ho:OpR X (binaryOp o) r) (h:Op2 X.K r op) (ha:PX X a fa) (hb:PX X b fb):PX X (.BinOp a o b pos) (x2 op fa fb) :=
 PE.imp (DA ho ha hb) fun _ _ _ q=>CK h q
theorem BH {a b:Expr} {pos:Pos} {o:CmpOp} {r:R2} {op:Rv->Rv->Option Rv} {fa fb:Rho->Option Rv} (ho:OpR X (compareOp o) r) (h:Op2 X.K r op) (ha:PX X a fa) (hb:PX X b fb) (hm:behindInMarks o b=false):PX X (.Compare a [o] [b] pos) (x2 op fa fb) :=
 PE.imp (zb ho ha hb hm) fun _ _ _ q=>CK h q
theorem Op2.or {K:PySem.W.Frag} {r r':R2} {op op':Rv->Rv->Option Rv} (h:Op2 K r op) (h':Op2 K r' op'):Op2 K (fun x y H Q=>r x y H Q\/r' x y H Q) (fun a b=>(op a b).or (op' a b)):=by
 intro B H0 G H a b c x y Q sg ra rb e k
 dsimp only at e
 cases q:op a b with
 | some z=>rw [q] at e;exact .inl (h B H0 G H a b c x y Q sg ra rb (by rw [q];exact e) k)
 | none=>rw [q] at e;exact .inr (h' B H0 G H a b c x y Q sg ra rb e k)
end
end Ry
namespace Ry
open PySem PySem.Spec PyProof.Rows L2
noncomputable def oI (c:Int->Int->Bool) (g:Int->Int->Int):Rv->Rv->Option Rv
 | (_,.int i),(_,.int j)=>if c i j=true then some (.pu,.int (g i j)) else none
 | _,_=>none
theorem lK {K:PySem.W.Frag} {C:Int->Int->Prop} {c:Int->Int->Bool} {g:Int->Int->Int} (h:∀ i j,c i j=true->C i j):Op2 K (rI C fun i j=>.int (g i j)) (oI c g):=by
 rintro B H0 G H ⟨ka,a⟩ ⟨kb,b⟩ r x y Q sg ra rb e k
 cases a with
 | int i =>
   cases b with
   | int j =>
     have e:(if c i j=true then some ((Kd.pu,Da.int (g i j)):Rv) else none)=some r:=e
     split at e
     ·rename_i hc
      cases e
      cases ra.int;cases rb.int
      exact ⟨i,j,rfl,rfl,h i j hc,k _ G H (Ext.refl sg) rfl⟩
     ·cases e
   | _=>cases e
 | _=>cases e
theorem mJ {K:PySem.W.Frag} {g:Int->Int->Int}:Op2 K (rI0 fun i j=>.int (g i j)) (oI (fun _ _=>true) g):=by
 rintro B H0 G H ⟨ka,a⟩ ⟨kb,b⟩ r x y Q sg ra rb e k
 cases a with
 | int i =>
   cases b with
   | int j =>
     cases e
     cases ra.int;cases rb.int
     exact ⟨i,j,rfl,rfl,k _ G H (Ext.refl sg) rfl⟩
   | _=>cases e
 | _=>cases e
noncomputable def oB (g:Int->Int->Bool):Rv->Rv->Option Rv
 | (_,.int i),(_,.int j)=>some (.pu,.bl (g i j))
 | _,_=>none
theorem pH {K:PySem.W.Frag} {g:Int->Int->Bool}:Op2 K (rI0 fun i j=>.bl (g i j)) (oB g):=by
 rintro B H0 G H ⟨ka,a⟩ ⟨kb,b⟩ r x y Q sg ra rb e k
 cases a with
 | int i =>
   cases b with
   | int j =>
     cases e
     cases ra.int;cases rb.int
     exact ⟨i,j,rfl,rfl,k _ G H (Ext.refl sg) rfl⟩
   | _=>cases e
 | _=>cases e
noncomputable def Br (K:PySem.W.Frag):R2:=fun x y H Q=>∃ a b ys,x=.ref a/\y=.ref b/\SqT K H a []/\SqT K H b ys/\Q (.ref b) H
theorem zp {X:Cx}:OpR X (binaryOp .Add) (Br X.K):=by
 intro pins s σ H x y v u Q I rx ry h
 obtain ⟨a,b,ys,rfl,rfl,ha,hb,q⟩:=h
 cases rx
 cases ry
 obtain ⟨its,r1,p1,_⟩:=I.tuple ha
 obtain ⟨its2,r2,p2,_⟩:=I.tuple hb
 cases r1
 obtain ⟨⟨cls,dd,data,sl⟩,ho,hc,n,hd⟩:=id p1
 obtain ⟨⟨cls2,dd2,data2,sl2⟩,ho2,hc2,n2,hd2⟩:=id p2
 simp only at hc hd hc2 hd2
 subst hc hd hc2 hd2
 exact concat_meets ⟨_,ho,rfl⟩ ⟨_,ho2,rfl⟩ noFill_tuple_add seq_tuple_add PySem.F.slot_tuple_add PySem.F.entry_tuple_add (PySem.F.args_tuple_add_2 _ _)
  (tuple_addW0 a b ([]:List Value).toArray its2.toArray n n2 dd dd2 sl sl2 (by simp)) ⟨ho,ho2,⟨.ref b,H,I,rfl,q⟩⟩
noncomputable def vV:Rv->Rv->Option Rv
 | (_,.tup xs),(_,.tup ys)=>if xs.length+ys.length<=1000000 then some (.pu,.tup (xs++ys)) else none
 | _,_=>none
theorem wz {K:PySem.W.Frag}:Op2 K (fun x y H Q=>A9 K x y H Q\/Br K x y H Q) vV:=by
 rintro B H0 G H ⟨ka,a⟩ ⟨kb,b⟩ r x y Q sg ra rb e k
 cases a with
 | tup xs =>
   cases b with
   | tup ys =>
   have e:(if xs.length+ys.length<=1000000 then some ((Kd.pu,Da.tup (xs++ys)):Rv) else none)=some r:=e
   split at e
   ·rename_i hz
    cases e
    obtain ⟨p,vs,rfl,q1,d1,g1⟩:=ra.tup sg
    obtain ⟨p',ws,rfl,q2,d2,g2⟩:=rb.tup sg
    have l1:=d1.length
    have l2:=d2.length
    have hs:sizeLine=16777216:=sizeLine_eq
    by_cases hv:vs=[]
    ·subst hv
     refine .inr ⟨p,p',ws,rfl,rfl,SqT.of q1,SqT.of q2,k _ G H (Ext.refl sg) ?_⟩
     have:xs=[]:=rU.mp (by rw [<- l1];rfl)
     subst this
     exact ⟨p',ws,rfl,g2,d2⟩
    ·refine .inl ⟨p,p',vs,ws,rfl,rfl,SqT.of q1,SqT.of q2,hv,by lia,fun hw=>?_,fun hw l hl=>?_⟩
     ·subst hw
      refine k _ G H (Ext.refl sg) ?_
      have:ys=[]:=rU.mp (by rw [<- l2];rfl)
      subst this
      rw [bH]
      exact ⟨p,vs,rfl,g1,d1⟩
     ·refine k _ _ _ (Ext.new sg hl) ⟨l,_,rfl,aS,?_⟩
      exact bT.mono (bB (sg.free hl)) _ (bT.append d1 d2)
   ·cases e
   | _=>cases e
 | _=>cases e
noncomputable def Cg (K:PySem.W.Frag):R2:=fun x y H Q=>∃ l b xs zs,x=.ref l/\y=.ref b/\SqL K H l xs/\SqL K H b zs/\xs.length+zs.length<=sizeLine/\∀ p,H p=none->Q (.ref p) (upd H p (.lst (xs++zs)))
theorem yZ {X:Cx}:OpR X (binaryOp .Add) (Cg X.K):=by
 intro pins s σ H x y v u Q I rx ry h
 obtain ⟨l,b,xs,zs,rfl,rfl,hH,hB,hz,q⟩:=h
 cases rx
 cases ry
 obtain ⟨its,r,⟨⟨cls,dd,data,sl⟩,n,ho,hc,hd,hs⟩,z⟩:=I.list hH
 obtain ⟨its2,r2,⟨⟨cls2,dd2,data2,sl2⟩,n2,ho2,hc2,hd2,hs2⟩,z2⟩:=I.list hB
 simp only at hc hs hc2 hs2
 subst hc hs hc2 hs2
 have l1:=r.length
 have l2:=r2.length
 have ea:its.toArray++its2.toArray=(its++its2).toArray:=by simp
 refine concat_meets ⟨_,ho,rfl⟩ ⟨_,ho2,rfl⟩ noFill_list_add seq_list_add PySem.F.slot_list_add PySem.F.entry_list_add (PySem.F.args_list_add_2 _ _) (list_addW l b its.toArray its2.toArray n n2 dd dd2 sl sl2 (by rw [ao,ao];lia)) ⟨ho,ho2,?_⟩
 rw [ea]
 exact ⟨.ref _,_,I.lnew (t':=s.toks) (r.append r2) (by rw [aH];lia),rfl,q _ I.fresh⟩
noncomputable def wL:Rv->Rv->Option Rv
 | (_,.lst xs),(_,.lst ys)=>if xs.length+ys.length<=1000000 then some (.fr,.lst (xs++ys)) else none
 | _,_=>none
theorem vU {K:PySem.W.Frag}:Op2 K (Cg K) wL:=by
 rintro B H0 G H ⟨ka,a⟩ ⟨kb,b⟩ r x y Q sg ra rb e k
 have hs:sizeLine=16777216:=sizeLine_eq
 cases a with
 | lst xs =>
   cases b with
   | lst ys =>
   have e:(if xs.length+ys.length<=1000000 then some ((Kd.fr,Da.lst (xs++ys)):Rv) else none)=some r:=e
   split at e
   ·rename_i hz
    cases e
    obtain ⟨l1,vs,rfl,q1,d1⟩:=ra.lst sg
    obtain ⟨l2,ws,rfl,q2,d2⟩:=rb.lst sg
    have e1:=d1.length
    have e2:=d2.length
    refine ⟨l1,l2,vs,ws,rfl,rfl,q1,q2,by lia,fun p hp=>k _ G _ (Ext.own sg hp) ?_⟩
    exact ⟨p,_,rfl,hp,sg.free hp,aS,_,rfl,bT.append d1 d2⟩
   ·cases e
   | _=>cases e
 | _=>cases e
noncomputable def jO:Rv->Rv->Option Rv:=fun a b=>(oI (fun _ _=>true) (·+·) a b).or ((vV a b).or (wL a b))
section
variable {X:Cx} {a b:Expr} {pos:Pos} {fa fb:Rho->Option Rv}
theorem xE (ha:PX X a fa) (hb:PX X b fb):PX X (.BinOp a .Add b pos) (x2 jO fa fb) :=
 pJ (B0.or ((yg.or zp).or yZ)) (mJ.or (wz.or vU)) ha hb
theorem x5 (ha:PX X a fa) (hb:PX X b fb):PX X (.BinOp a .Sub b pos) (x2 (oI (fun _ _=>true) (·-·)) fa fb):=pJ B5 mJ ha hb
noncomputable def nh (i j:Int):Bool:=(decide (-(2 ^ 64)<i)&&decide (i<2 ^ 64))||(decide (-(2 ^ 64)<j)&&decide (j<2 ^ 64))
theorem yI (i j:Int) (h:nh i j=true):C8 i j:=by
 unfold nh at h
 rcases e6 _ _▸h with h | h
 ·rw [aD] at h;exact .inl ⟨of_decide_eq_true h.1,of_decide_eq_true h.2⟩
 ·rw [aD] at h;exact .inr ⟨of_decide_eq_true h.1,of_decide_eq_true h.2⟩
theorem xT (ha:PX X a fa) (hb:PX X b fb):PX X (.BinOp a .Mult b pos) (x2 (oI nh (·*·)) fa fb):=pJ Ce (lK yI) ha hb
theorem Cw (ha:PX X a fa) (hb:PX X b fb):PX X (.BinOp a .Mod b pos) (x2 (oI (fun _ j=>decide (0<j)) (·%·)) fa fb):=pJ Ct (lK fun _ _ h=>of_decide_eq_true h) ha hb
end
noncomputable def eQ:List Da->Option (List Int)
 | []=>some []
 | .int i::r=>(eQ r).map (i::·)
 | _=>none
theorem fq:∀ {ds:List Da} {ns:List Int},eQ ds=some ns->ds=ns.map Da.int
 | [],ns,h=>by cases h;rfl
 | d::r,ns,h=>by
   cases d with
   | int i =>
     have h:(eQ r).map (i::·)=some ns:=h
     cases q:eQ r with
     | none=>rw [q] at h;cases h
     | some ms=>rw [q] at h;cases h;rw [fq q];rfl
   | _=>cases h
noncomputable def Eo:Rv->Rv->Option Rv
 | (_,.tup xs),(_,.tup ys)=>match eQ xs,eQ ys with
   | some ns,some ms=>some (.pu,.bl (HT.lexLt ns ms))
   | _,_=>none
 | _,_=>none
theorem yt {K:PySem.W.Frag}:Op2 K (En K) Eo:=by
 rintro B H0 G H ⟨ka,a⟩ ⟨kb,b⟩ r x y Q sg ra rb e k
 cases a with
 | tup xs =>
   cases b with
   | tup ys =>
   have e:(match eQ xs,eQ ys with
    | some ns,some ms=>some ((Kd.pu,Da.bl (HT.lexLt ns ms)):Rv)
    | _,_=>none)=some r:=e
   split at e
   ·rename_i ns ms e1 e2
    cases e
    obtain ⟨p,vs,rfl,q1,d1,_⟩:=ra.tup sg
    obtain ⟨p',ws,rfl,q2,d2,_⟩:=rb.tup sg
    rw [fq e1] at d1
    rw [fq e2] at d2
    cases bT.ints.mp d1
    cases bT.ints.mp d2
    exact ⟨p,p',ns,ms,rfl,rfl,SqT.of q1,SqT.of q2,k _ G H (Ext.refl sg) rfl⟩
   ·cases e
   | _=>cases e
 | _=>cases e
noncomputable def oLt:Rv->Rv->Option Rv:=fun a b=>(oB (fun i j=>decide (i<j)) a b).or (Eo a b)
mutual
noncomputable def toP:Da->PyData
 | .non=>.none
 | .bl b=>.bool b
 | .int i=>.int i
 | .str x=>.str x
 | .tup ds=>.tuple (fL ds)
 | .lst ds=>.list (fL ds)
 | .dK _ _=>.dict []
 | .dT _ _=>.dict []
noncomputable def fL:List Da->List PyData
 | []=>[]
 | d::ds=>toP d::fL ds
end
section
variable {X:Cx} {pins:List (Addr×Obj)} {σ:St} {H:Hp} {s:Shared}
mutual
theorem dL (I:Inv X pins σ H s):∀ (d:Da) (v:V) (u:Value),Den X.K H d v->dH v u->(toP d).canLay0=true->∃ as,Reads s.heap u (toP d) as
 | .non,v,u,h,r,_=>by cases (show v=_ from h);cases (show u=_ from r);exact ⟨_,.none⟩
 | .bl b,v,u,h,r,_=>by cases (show v=_ from h);cases (show u=_ from r);exact ⟨_,.bool b⟩
 | .int i,v,u,h,r,_=>by cases (show v=_ from h);obtain ⟨t,rfl⟩:=(show ∃ t,u=Value.int i t from r);exact ⟨_,.int i t⟩
 | .str x,v,u,h,r,_=>by cases (show v=_ from h);obtain ⟨t,rfl⟩:=(show ∃ t,u=Value.str x t from r);exact ⟨_,.str x t⟩
 | .tup ds,v,u,h,r,c=>by
   obtain ⟨a,xs,rfl,q,dl⟩:=h
   cases (show u=Value.ref a from r)
   obtain ⟨its,rv,⟨o,ho,hc,n,hd⟩,_⟩:=I.tuple (SqT.of q)
   obtain ⟨as,ra⟩:=readsAll_of I ds xs its dl rv (by simpa [toP,PyData.canLay0] using c)
   exact ⟨_,.tuple ho hc hd (by simpa using ra)⟩
 | .lst ds,v,u,h,r,c=>by
   obtain ⟨a,xs,rfl,q,dl⟩:=h
   cases (show u=Value.ref a from r)
   obtain ⟨its,rv,pl,_⟩:=I.list q
   obtain ⟨o,ho,hc,n,hd⟩:=pl.isList
   obtain ⟨as,ra⟩:=readsAll_of I ds xs its dl rv (by simpa [toP,PyData.canLay0] using c)
   exact ⟨_,.list ho hc hd (by simpa using ra)⟩
 | .dK _ _,_,_,_,_,c=>by simp [toP,PyData.canLay0] at c
 | .dT _ _,_,_,_,_,c=>by simp [toP,PyData.canLay0] at c
theorem readsAll_of (I:Inv X pins σ H s):∀ (ds:List Da) (xs:List V) (us:List Value),bT X.K H ds xs->cq xs us->PyData.canLayAll0 (fL ds)=true->∃ as,ReadsAll s.heap us (fL ds) as
 | [],xs,us,h,r,_=>by cases (show xs=_ from h);cases r;exact ⟨_,.nil⟩
 | d::ds,xs,us,h,r,c=>by
   obtain ⟨x,xr,rfl,h1,h2⟩:=h
   cases r with
   | cons r1 r2 =>
     have c':(toP d).canLay0=true/\PyData.canLayAll0 (fL ds)=true:=by simpa [fL,PyData.canLayAll0] using c
     obtain ⟨as,a1⟩:=dL I d _ _ h1 r1 c'.1
     obtain ⟨bs,a2⟩:=readsAll_of I ds _ _ h2 r2 c'.2
     exact ⟨_,.cons a1 a2⟩
end
end
noncomputable def zN (d e:Da):Bool:=(toP d).canLay0&&(toP e).canLay0&&decide (min (toP d).depth (toP e).depth<=60)
noncomputable def eqD (d e:Da):Bool:=PyData.eqv (toP d) (toP e)
noncomputable def Dp (K:PySem.W.Frag) (neg:Bool):R2:=fun x y H Q=>∃ d e,Den K H d x/\Den K H e y/\zN d e=true/\Q (.bl (if neg then !eqD d e else eqD d e)) H
noncomputable def oEq (neg:Bool):Rv->Rv->Option Rv:=fun a b=>if zN a.2 b.2=true then some (.pu,.bl (if neg then !eqD a.2 b.2 else eqD a.2 b.2)) else none
theorem p9 {d:Da} (h:(toP d).canLay0=true):km d=false:=by
 cases d<;>first | rfl | (simp [toP,PyData.canLay0] at h)
theorem xw {K:PySem.W.Frag} {neg:Bool}:Op2 K (Dp K neg) (oEq neg):=by
 rintro B H0 G H a b r x y Q sg ra rb e k
 unfold oEq at e
 split at e
 ·rename_i h
  cases e
  have h2:=h
  unfold zN at h2
  rw [aD,aD] at h2
  exact ⟨a.2,b.2,ra.den sg (p9 h2.1.1),rb.den sg (p9 h2.1.2),h,k _ G H (Ext.refl sg) rfl⟩
 ·cases e
theorem vg {d e:Da} (h:zN d e=true):(toP d).canLay0=true/\(toP e).canLay0=true/\min (toP d).depth (toP e).depth<=60:=by
 unfold zN at h
 rw [aD,aD] at h
 exact ⟨h.1.1,h.1.2,of_decide_eq_true h.2⟩
section
variable {X:Cx}
theorem BQ (hu:X.A.units+64<cLine):OpR X (compareOp .Eq) (Dp X.K false):=by
 intro pins s σ H x y v u Q I rx ry h
 obtain ⟨d,e,hd,he,ok,q⟩:=h
 obtain ⟨c1,c2,c3⟩:=vg ok
 obtain ⟨as,r1⟩:=dL I d x v hd rx c1
 obtain ⟨bs,r2⟩:=dL I e y u he ry c2
 exact SeqAt.compareEq_reads r1 r2 c1 c2 (by lia) ⟨.bl _,H,I,rfl,q⟩
theorem BX (hu:X.A.units+64<cLine):OpR X (compareOp .NotEq) (Dp X.K true):=by
 intro pins s σ H x y v u Q I rx ry h
 obtain ⟨d,e,hd,he,ok,q⟩:=h
 obtain ⟨c1,c2,c3⟩:=vg ok
 obtain ⟨as,r1⟩:=dL I d x v hd rx c1
 obtain ⟨bs,r2⟩:=dL I e y u he ry c2
 exact SeqAt.compareNe_reads r1 r2 c1 c2 (by lia) ⟨.bl _,H,I,rfl,q⟩
variable {a b:Expr} {pos:Pos} {fa fb:Rho->Option Rv}
end
noncomputable def u7 (d:Da) (ds:List Da):Bool:=(toP d).canLay0&&PyData.canLayAll0 (fL ds)&&decide (min (PyData.depthAll (fL ds)) (toP d).depth<=60)
noncomputable def inD (d:Da) (ds:List Da):Bool:=(fL ds).any fun y=>PyData.eqv y (toP d)
noncomputable def DR (K:PySem.W.Frag) (neg:Bool):R2:=fun x y H Q=>∃ d ds,Den K H d x/\(Den K H (.tup ds) y\/Den K H (.lst ds) y)/\u7 d ds=true/\Q (.bl (if neg then !inD d ds else inD d ds)) H
noncomputable def y9 (neg:Bool):Rv->Rv->Option Rv:=fun a b=>match b.2 with
 | .tup ds=>if u7 a.2 ds=true then some (.pu,.bl (if neg then !inD a.2 ds else inD a.2 ds)) else none
 | .lst ds=>if u7 a.2 ds=true then some (.pu,.bl (if neg then !inD a.2 ds else inD a.2 ds)) else none
 | _=>none
theorem tG {K:PySem.W.Frag} {neg:Bool}:Op2 K (DR K neg) (y9 neg):=by
 rintro B H0 G H a b r x y Q sg ra rb e k
 unfold y9 at e
 split at e
 ·rename_i ds eb
  split at e
  ·rename_i h
   cases e
   have db:=rb.den sg (by rw [eb];rfl)
   rw [eb] at db
   unfold u7 at h
   have h2:=h
   rw [aD,aD] at h2
   exact ⟨a.2,ds,ra.den sg (p9 h2.1.1),.inl db,h,k _ G H (Ext.refl sg) rfl⟩
  ·cases e
 ·rename_i ds eb
  split at e
  ·rename_i h
   cases e
   have db:=rb.den sg (by rw [eb];rfl)
   rw [eb] at db
   unfold u7 at h
   have h2:=h
   rw [aD,aD] at h2
   exact ⟨a.2,ds,ra.den sg (p9 h2.1.1),.inr db,h,k _ G H (Ext.refl sg) rfl⟩
  ·cases e
 ·cases e
section
variable {X:Cx}
theorem su {d:Da} {ds:List Da} (h:u7 d ds=true):(toP d).canLay0=true/\PyData.canLayAll0 (fL ds)=true/\min (PyData.depthAll (fL ds)) (toP d).depth<=60:=by
 unfold u7 at h
 rw [aD,aD] at h
 exact ⟨h.1.1,h.1.2,of_decide_eq_true h.2⟩
theorem CC (hu:X.A.units+64<cLine):OpR X (compareOp .In) (DR X.K false):=by
 intro pins s σ H x y v u Q I rx ry h
 obtain ⟨d,ds,hd,he,ok,q⟩:=h
 obtain ⟨c1,c2,c3⟩:=su ok
 obtain ⟨as,r1⟩:=dL I d x v hd rx c1
 rcases he with he | he
 ·obtain ⟨bs,r2⟩:=dL I _ y u he ry (by simpa [toP,PyData.canLay0] using c2)
  exact SeqAt.in_tuple_reads (by simpa [toP] using r2) r1 c2 c1 (by lia) ⟨.bl _,H,I,rfl,q⟩
 ·obtain ⟨bs,r2⟩:=dL I _ y u he ry (by simpa [toP,PyData.canLay0] using c2)
  exact SeqAt.in_list_reads (by simpa [toP] using r2) r1 c2 c1 (by lia) ⟨.bl _,H,I,rfl,q⟩
theorem zB (hu:X.A.units+64<cLine):OpR X (compareOp .NotIn) (DR X.K true):=by
 intro pins s σ H x y v u Q I rx ry h
 obtain ⟨d,ds,hd,he,ok,q⟩:=h
 obtain ⟨c1,c2,c3⟩:=su ok
 obtain ⟨as,r1⟩:=dL I d x v hd rx c1
 rcases he with he | he
 ·obtain ⟨bs,r2⟩:=dL I _ y u he ry (by simpa [toP,PyData.canLay0] using c2)
  exact SeqAt.notIn_tuple_reads (by simpa [toP] using r2) r1 c2 c1 (by lia) ⟨.bl _,H,I,rfl,q⟩
 ·obtain ⟨bs,r2⟩:=dL I _ y u he ry (by simpa [toP,PyData.canLay0] using c2)
  exact SeqAt.notIn_list_reads (by simpa [toP] using r2) r1 c2 c1 (by lia) ⟨.bl _,H,I,rfl,q⟩
end
noncomputable def yK:Da->Option Key
 | .int i=>some (.inl i)
 | .str x=>some (.inr x)
 | _=>none
noncomputable def ky:List Da->Option (List Key)
 | []=>some []
 | d::r=>match yK d,ky r with
   | some k,some ks=>some (k::ks)
   | _,_=>none
noncomputable def fW:Key->Da
 | .inl i=>.int i
 | .inr x=>.str x
theorem uS {d:Da} {k:Key} (e:yK d=some k):km d=false:=by
 cases d<;>first | rfl | cases e
theorem tw {K:PySem.W.Frag} {G:Hp} {d:Da} {k:Key} {v:V} (e:yK d=some k) (h:Den K G d v):v=kV k:=by
 cases d with
 | int i=>cases e;exact h
 | str x=>cases e;exact h
 | _=>cases e
theorem pg {K:PySem.W.Frag} {G:Hp}:∀ {ds:List Da} {ks:List Key} {xs:List V},ky ds=some ks->bT K G ds xs->xs=ks.map kV
 | [],ks,xs,e,h=>by cases e;exact h
 | d::r,ks,xs,e,h=>by
   obtain ⟨x,xr,rfl,h1,h2⟩:=h
   unfold ky at e
   split at e
   ·rename_i k ks' e1 e2
    cases e
    rw [tw e1 h1,pg e2 h2];rfl
   ·cases e
theorem sP {K:PySem.W.Frag} {G:Hp} (k:Key):Den K G (fW k) (kV k):=by
 cases k<;>rfl
noncomputable def atK {κ:Type} [DecidableEq κ]:List κ->List Da->κ->Option Da
 | k::ks,d::ds,j=>if k=j then some d else atK ks ds j
 | _,_,_=>none
noncomputable def Em (K:PySem.W.Frag) (G:Hp) (ov:Option V):Option Da->Prop
 | some d=>∃ v,ov=some v/\Den K G d v
 | none=>ov=none
theorem pp {K:PySem.W.Frag} {G:Hp} {κ:Type} [DecidableEq κ]:∀ {kvs:List (κ×V)} {ks:List κ} {ds:List Da} (j:κ),kvs.map (·.1)=ks->bT K G ds (kvs.map (·.2)) ->
 Em K G (kS kvs j) (atK ks ds j)
 | [],ks,ds,j,e,h=>by
   subst e
   cases ds with
   | nil=>rfl
   | cons d ds=>obtain ⟨x,r,e,_⟩:=h;cases e
 | (k,v)::kvs,ks,ds,j,e,h=>by
   subst e
   cases ds with
   | nil=>cases (show (v::kvs.map (·.2))=[] from h)
   | cons d ds =>
     obtain ⟨x,r,ex,h1,h2⟩:=h
     injection ex with e1 e2
     subst e1;subst e2
     have ih:=pp (K:=K) (G:=G) (kvs:=kvs) (ks:=kvs.map (·.1)) (ds:=ds) j rfl h2
     by_cases hk:k=j
     ·have e1:atK (((k,v)::kvs).map (·.1)) (d::ds) j=some d:=by show (if k=j then some d else _)=_;rw [if_pos hk]
      rw [e1]
      exact ⟨v,iJ (p:=(k,v)) hk,h1⟩
     ·have e1:atK (((k,v)::kvs).map (·.1)) (d::ds) j=atK (kvs.map (·.1)) ds j:=by show (if k=j then some d else _)=_;rw [if_neg hk]
      rw [e1,iK (p:=(k,v)) hk]
      exact ih
noncomputable def kC:Da->Da->Option (Option Da)
 | .dK ks ds,k=>match yK k with
   | some j=>some (atK ks ds j)
   | none=>none
 | .dT ks ds,.tup es=>match ky es with
   | some j=>some (atK ks ds j)
   | none=>none
 | _,_=>none
theorem ki {K:PySem.W.Frag} {B H0 G H:Hp} {a b:Rv} {x y:V} {o:Option Da} (sg:bY G H) (ra:fP K B H0 G H a x) (rb:fP K B H0 G H b y) (e:kC a.2 b.2=some o) :
 ∃ p ov,x=.ref p/\o5 H p y ov/\Em K G ov o:=by
 obtain ⟨ka,a⟩:=a
 obtain ⟨kb,b⟩:=b
 cases a with
 | dK ks ds =>
   have e:(match yK b with
    | some j=>some (atK ks ds j)
    | none=>none)=some o:=by cases b<;>exact e
   split at e
   ·rename_i j ej
    cases e
    obtain ⟨p,kvs,rfl,q,e1,r⟩:=ra.dK sg
    have ey:y=kV j:=tw ej (rb.den sg (uS ej))
    refine ⟨p,kS kvs j,rfl,.inl ⟨kvs,j,q,ey,rfl⟩,?_⟩
    exact pp (K:=K) (G:=G) (ks:=ks) (ds:=ds) j e1 r
   ·cases e
 | dT ks ds =>
   cases b with
   | tup es =>
     have e:(match ky es with
      | some j=>some (atK ks ds j)
      | none=>none)=some o:=e
     split at e
     ·rename_i j ej
      cases e
      obtain ⟨p,kvs,rfl,q,e1,r⟩:=ra.dT sg
      obtain ⟨t,xs,rfl,qt,dl,_⟩:=rb.tup sg
      rw [pg ej dl] at qt
      refine ⟨p,kS kvs j,rfl,.inr ⟨kvs,j,t,q,rfl,qt,rfl⟩,?_⟩
      exact pp (K:=K) (G:=G) (ks:=ks) (ds:=ds) j e1 r
     ·cases e
   | _=>cases e
 | _=>cases e
end Ry
namespace Ry
open PySem PySem.Spec PyProof.Rows L2
noncomputable def DY (neg:Bool):R2:=fun y x H Q=>∃ a o,x=.ref a/\o5 H a y o/\Q (.bl (if neg then !o.isSome else o.isSome)) H
theorem Cy {X:Cx} (hu:X.A.units+1<cLine):OpR X (compareOp .In) (DY false):=by
 intro pins s σ H y x v u Q I ry rx h
 obtain ⟨a,o,rfl,g,q⟩:=h
 cases rx
 exact EU hu I g ry fun s' I'=>⟨.bl _,H,I',rfl,q⟩
theorem zY {X:Cx} (hu:X.A.units+1<cLine):OpR X (compareOp .NotIn) (DY true):=by
 intro pins s σ H y x v u Q I ry rx h
 obtain ⟨a,o,rfl,g,q⟩:=h
 cases rx
 exact uK hu I g ry fun s' I'=>⟨.bl _,H,I',rfl,q⟩
noncomputable def we (neg:Bool):Rv->Rv->Option Rv:=fun a b=>match kC b.2 a.2 with
 | some o=>some (.pu,.bl (if neg then !o.isSome else o.isSome))
 | none=>none
theorem sT {K:PySem.W.Frag} {neg:Bool}:Op2 K (DY neg) (we neg):=by
 rintro B H0 G H a b r x y Q sg ra rb e k
 unfold we at e
 split at e
 ·rename_i o eo
  cases e
  obtain ⟨p,ov,rfl,g,m⟩:=ki sg rb ra eo
  have ei:ov.isSome=o.isSome:=by
   cases o with
   | some d=>obtain ⟨v,rfl,_⟩:=m;rfl
   | none=>cases m;rfl
  refine ⟨p,ov,rfl,g,?_⟩
  rw [ei]
  exact k _ G H (Ext.refl sg) rfl
 ·cases e
noncomputable def oIn (neg:Bool):Rv->Rv->Option Rv:=fun a b=>(we neg a b).or (y9 neg a b)
section
variable {X:Cx} {a b:Expr} {pos:Pos} {fa fb:Rho->Option Rv}
theorem u4 {K:PySem.W.Frag} {G:Hp} {ds:List Da} {xs:List V} {i:Int} {d:Da} (h:bT K G ds xs) (e:atI ds i=some d):∃ v,atI xs i=some v/\Den K G d v:=by
 have hl:=h.length
 unfold atI at e ⊢
 rw [hl]
 cases q:ixN ds.length i with
 | none=>rw [q] at e;cases e
 | some j=>rw [q] at e;exact h.get e
noncomputable def oIx:Rv->Rv->Option Rv:=fun a b=>match a.2,b.2 with
 | .tup ds,.int i=>(atI ds i).map fun d=>(.pu,d)
 | .lst ds,.int i=>(atI ds i).map fun d=>(.pu,d)
 | _,_=>none
theorem BJ {K:PySem.W.Frag}:Op2 K (fun x y H Q=>DH K x y H Q\/DO K x y H Q\/Dj x y H Q) oIx:=by
 rintro B H0 G H ⟨ka,a⟩ ⟨kb,b⟩ r x y Q sg ra rb e k
 unfold oIx at e
 dsimp only at e
 split at e
 ·rename_i ds i
  cases q:atI ds i with
  | none=>rw [q] at e;cases e
  | some d =>
    rw [q] at e
    cases e
    obtain ⟨p,xs,rfl,q1,d1,_⟩:=ra.tup sg
    obtain ⟨v,hv,dv⟩:=u4 d1 q
    cases rb.int
    exact .inr (.inl ⟨p,xs,i,v,rfl,rfl,SqT.of q1,hv,k v G H (Ext.refl sg) dv⟩)
 ·rename_i ds i
  cases q:atI ds i with
  | none=>rw [q] at e;cases e
  | some d =>
    rw [q] at e
    cases e
    obtain ⟨p,xs,rfl,q1,d1⟩:=ra.lst sg
    obtain ⟨v,hv,dv⟩:=u4 d1 q
    cases rb.int
    exact .inl ⟨p,xs,i,v,rfl,rfl,q1,hv,k v G H (Ext.refl sg) dv⟩
 ·cases e
noncomputable def BG:R2:=fun x y H Q=>∃ a v,x=.ref a/\o5 H a y (some v)/\Q v H
noncomputable def xW:Rv->Rv->Option Rv:=fun a b=>match kC a.2 b.2 with
 | some (some d)=>some (.pu,d)
 | _=>none
theorem zP {K:PySem.W.Frag}:Op2 K BG xW:=by
 rintro B H0 G H a b r x y Q sg ra rb e k
 unfold xW at e
 split at e
 ·rename_i d eo
  cases e
  obtain ⟨p,ov,rfl,g,v,rfl,dv⟩:=ki sg ra rb eo
  exact ⟨p,v,rfl,g,k v G H (Ext.refl sg) dv⟩
 ·cases e
theorem B4 {pos:Pos} (ha:PX X a fa) (hb:PX X b fb) (hs:lZ b:=by intro _ _;rfl):PX X (.Subscript a b pos) (x2 oIx fa fb):=PE.imp (DF A3 ha hb hs) fun _ _ _ q=>CK BJ q
theorem CF {pos:Pos} (hu:X.A.units+1<cLine) (ha:PX X a fa) (hb:PX X b fb) (hs:DP b:=by intro _ _;rfl):PX X (.Subscript a b pos) (x2 xW fa fb) :=
 PE.imp (ui hu ha hb hs) fun σ H Q q=>by
  have:=CK (r:=BG) zP q
  exact this
noncomputable def oIt:Rv->Rv->Option Rv:=fun a b=>(oIx a b).or (xW a b)
theorem yk {pos:Pos} (hu:X.A.units+1<cLine) (ha:PX X a fa) (hb:PX X b fb) (hs:lZ b:=by intro _ _;rfl):PX X (.Subscript a b pos) (x2 oIt fa fb):=by
 intro pins s σ H Q I q
 obtain ⟨B,G,ρ,c,sg,sb,st,e,k⟩:=q
 have e0:=e
 unfold x2 at e
 split at e
 ·cases e
 ·rename_i ra ea
  split at e
  ·cases e
  ·rename_i rb eb
   unfold oIt at e
   cases z:oIx ra rb with
   | some z' =>
     rw [z] at e
     cases e
     exact B4 ha hb hs pins s σ H Q I ⟨B,G,ρ,_,sg,sb,st,by unfold x2;rw [ea,eb];exact z,k⟩
   | none =>
     rw [z] at e
     exact CF hu ha hb hs pins s σ H Q I ⟨B,G,ρ,c,sg,sb,st,by unfold x2;rw [ea,eb];exact e,k⟩
noncomputable def bO:Rho->Option (List Rv):=fun _=>some []
noncomputable def aB (f:Rho->Option Rv) (g:Rho->Option (List Rv)):Rho->Option (List Rv):=fun ρ=>match f ρ with
 | none=>none
 | some r=>match g ρ with
   | none=>none
   | some rs=>some (r::rs)
theorem lG:PXA X [] bO:=PA.imp iF fun σ H Q ⟨B,G,ρ,rs,sg,sb,st,e,k⟩=>by cases e;exact k [] G H (Ext.refl sg) rfl
noncomputable def nst:Expr->Bool
 | .Starred ..=>false
 | _=>true
theorem bi {e:Expr} {es:List Expr} {env:Env} (h:nst e=true):starEach (e::es) env=(false,eval e env)::starEach es env:=by
 cases e<;>first | rfl | cases h
theorem gQ {e:Expr} {es:List Expr} {f:Rho->Option Rv} {g:Rho->Option (List Rv)} (ha:PX X e f) (hr:PXA X es g) (hs:starEach (e::es) X.env=(false,eval e X.env)::starEach es X.env:=by exact bi rfl):PXA X (e::es) (aB f g) :=
 PA.imp (e7 ha hr hs) fun σ H Q ⟨B,G,ρ,rs,sg,sb,st,eq,k⟩=>by
  unfold aB at eq
  split at eq
  ·cases eq
  ·rename_i r er
   split at eq
   ·cases eq
   ·rename_i rs' ers
    cases eq
    refine ⟨B,G,ρ,r,sg,sb,st,er,fun v G1 H1 E1 r1=>⟨B,G1,ρ,rs',E1.gh,sb.trans E1.hh,st.ext E1,ers,fun vs G2 H2 E2 r2=>?_⟩⟩
    exact k _ G2 H2 (E1.trans E2) ⟨v,vs,rfl,r1.ext E2,r2.base E1.hh⟩
noncomputable def pE (g:Rho->Option (List Rv)):Rho->Option Rv:=fun ρ=>match g ρ with
 | none=>none
 | some rs=>match gG rs with
   | none=>none
   | some ds=>if ds.length<=1000 then some (.pu,.tup ds) else none
theorem Cp {es:List Expr} {x1:Nat} {pos:Pos} {g:Rho->Option (List Rv)} (h:PXA X es g):PX X (.Tuple es x1 pos) (pE g) :=
 PE.imp (CI h) fun σ H Q ⟨B,G,ρ,r,sg,sb,st,e,k⟩=>by
  unfold pE at e
  split at e
  ·cases e
  ·rename_i rs er
   split at e
   ·cases e
   ·rename_i ds ed
    split at e
    ·rename_i hz
     cases e
     refine ⟨B,G,ρ,rs,sg,sb,st,er,fun vs G1 H1 E1 r1=>?_⟩
     obtain ⟨G2,E2,s12,d2⟩:=r1.pure E1 ed
     have hs:sizeLine=16777216:=sizeLine_eq
     have hl:=d2.length
     refine ⟨by lia,fun p hp=>k _ _ _ (E2.trans (Ext.new E2.gh hp)) ⟨p,vs,rfl,aS,bT.mono (bB (E2.gh.free hp)) ds d2⟩⟩
    ·cases e
noncomputable def AB (g:Rho->Option (List Rv)):Rho->Option Rv:=fun ρ=>match g ρ with
 | none=>none
 | some rs=>match gG rs with
   | none=>none
   | some ds=>if ds.length<=1000 then some (.fr,.lst ds) else none
theorem CJ {es:List Expr} {pos:Pos} {g:Rho->Option (List Rv)} (h:PXA X es g):PX X (.List es pos) (AB g) :=
 PE.imp (BM h) fun σ H Q ⟨B,G,ρ,r,sg,sb,st,e,k⟩=>by
  unfold AB at e
  split at e
  ·cases e
  ·rename_i rs er
   split at e
   ·cases e
   ·rename_i ds ed
    split at e
    ·rename_i hz
     cases e
     refine ⟨B,G,ρ,rs,sg,sb,st,er,fun vs G1 H1 E1 r1=>?_⟩
     obtain ⟨G2,E2,s12,d2⟩:=r1.pure E1 ed
     have hs:sizeLine=16777216:=sizeLine_eq
     have hl:=d2.length
     refine ⟨by lia,fun p hp=>k _ _ _ (E2.trans (Ext.own E2.gh hp)) ⟨p,_,rfl,E2.hh.free hp,E2.gh.free hp,aS,vs,rfl,d2⟩⟩
    ·cases e
noncomputable def xC2 (r:Rv):Rho->Option Rv:=fun _=>some r
theorem wR {pos:Pos}:PX X (.Dict [] [] pos) (xC2 (.fr,.dK [] [])):=PE.imp lO fun σ H Q ⟨B,G,ρ,r,sg,sb,st,e,k⟩ p hp=>by
 cases e;exact k _ G _ (Ext.own sg hp) ⟨p,_,rfl,hp,sg.free hp,aS,[],rfl,rfl,rfl⟩
theorem wQ {pos:Pos}:PX X (.Dict [] [] pos) (xC2 (.fr,.dT [] [])):=PE.imp wj fun σ H Q ⟨B,G,ρ,r,sg,sb,st,e,k⟩ p hp=>by
 cases e;exact k _ G _ (Ext.own sg hp) ⟨p,_,rfl,hp,sg.free hp,aS,[],rfl,rfl,rfl⟩
noncomputable def xB (f:List Rv->Option Rv) (g:Rho->Option (List Rv)):Rho->Option Rv:=fun ρ=>match g ρ with
 | none=>none
 | some rs=>f rs
noncomputable def Cal (K:PySem.W.Frag) (r:List V->Hp->VK->Prop) (f:List Rv->Option Rv):Prop:=∀ (B H0 G H:Hp) (rs:List Rv) (c:Rv) (xs:List V) (Q:VK),bY G H->dM K B H0 G H rs xs->f rs=some c ->
 (∀ v G' H',Ext G H G' H'->fP K B H G' H' c v->Q v H')->r xs H Q
theorem Eh {K:PySem.W.Frag} {r:List V->Hp->VK->Prop} {f:List Rv->Option Rv} {g:Rho->Option (List Rv)} (h:Cal K r f) {σ:St} {H:Hp} {Q:VK} (q:tX K (xB f g) σ H Q):tCB r (tXA K g) σ H Q:=by
 obtain ⟨B,G,ρ,c,sg,sb,st,e,k⟩:=q
 unfold xB at e
 split at e
 ·cases e
 ·rename_i rs er
  refine ⟨B,G,ρ,rs,sg,sb,st,er,fun vs G1 H1 E1 r1=>h B H G1 H1 rs c vs _ E1.gh r1 e fun v G2 H2 E2 r2=>k v G2 H2 (E1.trans E2) (r2.base E1.hh)⟩
theorem Bb {x:Str} {p pos:Pos} {e:Expr} {es:List Expr} {id:String} {r:List V->Hp->VK->Prop} {f:List Rv->Option Rv} {g:Rho->Option (List Rv)} (hc:iB X (.builtin id) r) (h:Cal X.K r f) (hg:Gl X x) (hm:X.mg x=none) (hv:bootBuiltins x=some (.builtin id)) (ha:PXA X (e::es) g)
 (hn:x≠"__name__":=by decide) (hdb:(x == ("__debug__" : Str))=false:=by decide) (he:starEach (e::es) X.env=(false,eval e X.env)::starEach es X.env:=by exact bi rfl) (hpl:(backTo pos (starEach es X.env)).any (·.1)=false:=by rfl) :
 PX X (.Call (.Name x p) (e::es) [] pos) (xB f g):=PE.imp (mt hc hg hm hv ha hn hdb he hpl) fun _ _ _ q=>Eh h q
theorem B3 {x:Str} {p pos:Pos} {e:Expr} {es:List Expr} {T:String} {r:List V->Hp->VK->Prop} {f:List Rv->Option Rv} {g:Rho->Option (List Rv)} (hc:iB X (.type T) r) (h:Cal X.K r f) (hg:Gl X x) (hm:X.mg x=none) (hv:bootBuiltins x=some (.type T)) (ha:PXA X (e::es) g)
 (hn:x≠"__name__":=by decide) (hdb:(x == ("__debug__" : Str))=false:=by decide) (he:starEach (e::es) X.env=(false,eval e X.env)::starEach es X.env:=by exact bi rfl) (hpl:(backTo pos (starEach es X.env)).any (·.1)=false:=by rfl) :
 PX X (.Call (.Name x p) (e::es) [] pos) (xB f g):=PE.imp (n9 hc hg hm hv ha hn hdb he hpl) fun _ _ _ q=>Eh h q
theorem dM.one {K:PySem.W.Frag} {B H0 G H:Hp} {r:Rv} {xs:List V} (h:dM K B H0 G H [r] xs):∃ v,xs=[v]/\fP K B H0 G H r v:=by
 obtain ⟨v,r',rfl,h1,h2⟩:=h;cases (show r'=[] from h2);exact ⟨v,rfl,h1⟩
theorem dM.two {K:PySem.W.Frag} {B H0 G H:Hp} {r r2:Rv} {xs:List V} (h:dM K B H0 G H [r,r2] xs):∃ v v2,xs=[v,v2]/\fP K B H0 G H r v/\fP K B H0 G H r2 v2:=by
 obtain ⟨v,r',rfl,h1,h2⟩:=h
 obtain ⟨v2,rfl,h3⟩:=dM.one h2
 exact ⟨v,v2,rfl,h1,h3⟩
noncomputable def oK:List Rv->Option Rv
 | [(_,.tup ds)]=>some (.pu,.int ds.length)
 | [(_,.lst ds)]=>some (.pu,.int ds.length)
 | _=>none
theorem zx {K:PySem.W.Frag}:Cal K (fun xs H Q=>∃ p ys,xs=[.ref p]/\(SqL K H p ys\/SqT K H p ys)/\Q (.int ys.length) H) oK:=by
 intro B H0 G H rs c xs Q sg ra e k
 unfold oK at e
 split at e
 ·cases e
  obtain ⟨v,rfl,h⟩:=dM.one ra
  obtain ⟨p,ys,rfl,q,d,_⟩:=h.tup sg
  exact ⟨p,ys,rfl,.inr (SqT.of q),by rw [d.length];exact k _ G H (Ext.refl sg) rfl⟩
 ·cases e
  obtain ⟨v,rfl,h⟩:=dM.one ra
  obtain ⟨p,ys,rfl,q,d⟩:=h.lst sg
  exact ⟨p,ys,rfl,.inl q,by rw [d.length];exact k _ G H (Ext.refl sg) rfl⟩
 ·cases e
noncomputable def eF:List Rv->Option Rv
 | [(_,.tup ds)]=>some (.pu,.tup ds)
 | [(_,.lst ds)]=>some (.pu,.tup ds)
 | _=>none
theorem vb {K:PySem.W.Frag}:Cal K (fun xs H Q=>∃ p ys,xs=[.ref p]/\((SqL K H p ys/\∀ l,H l=none->Q (.ref l) (upd H l (.tup ys)))\/(SqT K H p ys/\Q (.ref p) H))) eF:=by
 intro B H0 G H rs c xs Q sg ra e k
 unfold eF at e
 split at e
 ·cases e
  obtain ⟨v,rfl,h⟩:=dM.one ra
  obtain ⟨p,ys,rfl,q,d,g⟩:=h.tup sg
  exact ⟨p,ys,rfl,.inr ⟨SqT.of q,k _ G H (Ext.refl sg) ⟨p,ys,rfl,g,d⟩⟩⟩
 ·cases e
  obtain ⟨v,rfl,h⟩:=dM.one ra
  obtain ⟨p,ys,rfl,q,d⟩:=h.lst sg
  exact ⟨p,ys,rfl,.inl ⟨q,fun l hl=>k _ _ _ (Ext.new sg hl) ⟨l,ys,rfl,aS,bT.mono (bB (sg.free hl)) _ d⟩⟩⟩
 ·cases e
noncomputable def lC:List Rv->Option Rv
 | [(_,.tup ds)]=>some (.fr,.lst ds)
 | [(_,.lst ds)]=>some (.fr,.lst ds)
 | _=>none
theorem xf {K:PySem.W.Frag}:Cal K (fun xs H Q=>∃ p ys,xs=[.ref p]/\(SqL K H p ys\/SqT K H p ys)/\∀ l,H l=none->Q (.ref l) (upd H l (.lst ys))) lC:=by
 intro B H0 G H rs c xs Q sg ra e k
 unfold lC at e
 split at e
 ·cases e
  obtain ⟨v,rfl,h⟩:=dM.one ra
  obtain ⟨p,ys,rfl,q,d,g⟩:=h.tup sg
  exact ⟨p,ys,rfl,.inr (SqT.of q),fun l hl=>k _ _ _ (Ext.own sg hl) ⟨l,_,rfl,hl,sg.free hl,aS,ys,rfl,d⟩⟩
 ·cases e
  obtain ⟨v,rfl,h⟩:=dM.one ra
  obtain ⟨p,ys,rfl,q,d⟩:=h.lst sg
  exact ⟨p,ys,rfl,.inl q,fun l hl=>k _ _ _ (Ext.own sg hl) ⟨l,_,rfl,hl,sg.free hl,aS,ys,rfl,d⟩⟩
 ·cases e
end
end Ry
namespace Ry
open PySem PySem.Spec PyProof.Rows L2
section
variable {X:Cx} {a b c:Expr} {pos:Pos} {fa fb fc:Rho->Option Rv}
noncomputable def tb (f:Rho->Option Rv):Rho->Option Bool:=fun ρ=>match f ρ with
 | some (_,.bl b)=>some b
 | _=>none
noncomputable def CR2 (X:Cx) (o:CmpOp) (op:Rv->Rv->Option Rv):Prop:=∃ r,OpR X (compareOp o) r/\Op2 X.K r op
theorem EW {o:CmpOp} {op:Rv->Rv->Option Rv} (h:CR2 X o op) (ha:PX X a fa) (hb:PX X b fb) (hm:behindInMarks o b=false:=by first | exact qc _ | with_unfolding_all rfl):PX X (.Compare a [o] [b] pos) (x2 op fa fb) :=
 let ⟨_,h1,h2⟩:=h;BH h1 h2 ha hb hm
theorem DD {o:CmpOp} {op:Rv->Rv->Option Rv} (h:CR2 X o op) (ha:PX X a fa) (hb:PX X b fb) (hm:behindInMarks o b=false:=by first | exact qc _ | with_unfolding_all rfl):PXT X (.Compare a [o] [b] pos) (tb (x2 op fa fb)):=by
 obtain ⟨r,h1,h2⟩:=h
 refine PT.imp (zq h1 ha hb hm) fun σ H Q q=>?_
 obtain ⟨B,G,ρ,b,sg,sb,st,e,k⟩:=q
 unfold tb at e
 split at e
 ·rename_i kd b' q
  cases e
  exact CK h2 ⟨B,G,ρ,_,sg,sb,st,q,fun v G1 H1 E1 r1=>⟨b,r1.bl,k G1 H1 E1⟩⟩
 ·cases e
theorem C1 (hu:X.A.units+64<cLine):CR2 X .Lt oLt:=⟨_,Dt.or (BN (by lia)),pH.or yt⟩
theorem ED:CR2 X .LtE (oB fun i j=>decide (i<=j)):=⟨_,DU,pH⟩
theorem Ej:CR2 X .Gt (oB fun i j=>decide (j<i)):=⟨_,D4,pH⟩
theorem DB (hu:X.A.units+64<cLine):CR2 X .Eq (oEq false):=⟨_,BQ hu,xw⟩
theorem DI (hu:X.A.units+64<cLine):CR2 X .NotEq (oEq true):=⟨_,BX hu,xw⟩
theorem wA (hu:X.A.units+64<cLine):CR2 X .In (oIn false):=⟨_,(Cy (by lia)).or (CC hu),sT.or tG⟩
theorem D2 (hu:X.A.units+64<cLine):CR2 X .NotIn (oIn true):=⟨_,(zY (by lia)).or (zB hu),sT.or tG⟩
noncomputable def Ef (neg:Bool):R2:=fun x y H Q=>∃ i j,x=.bl i/\y=.bl j/\Q (.bl (if neg then !(i == j) else i == j)) H
theorem uI:OpR X (compareOp .IsNot) (Ef true):=by
 intro pins s σ H x y v u Q I rx ry h
 obtain ⟨i,j,rfl,rfl,q⟩:=h
 cases rx;cases ry
 exact PySem.wpAny_isNot_plain rfl ⟨.bl (!(i == j)),H,I,by show _=_;cases i<;>cases j<;>rfl,q⟩
noncomputable def oIs (neg:Bool):Rv->Rv->Option Rv
 | (_,.bl i),(_,.bl j)=>some (.pu,.bl (if neg then !(i == j) else i == j))
 | _,_=>none
theorem yQ {K:PySem.W.Frag} {neg:Bool}:Op2 K (Ef neg) (oIs neg):=by
 rintro B H0 G H ⟨ka,a⟩ ⟨kb,b⟩ r x y Q sg ra rb e k
 cases a with
 | bl i =>
   cases b with
   | bl j=>cases e;exact ⟨i,j,ra.bl,rb.bl,k _ G H (Ext.refl sg) rfl⟩
   | _=>cases e
 | _=>cases e
theorem pS:CR2 X .IsNot (oIs true):=⟨_,uI,yQ⟩
noncomputable def nr (op op':Rv->Rv->Option Rv) (fa fb fc:Rho->Option Rv):Rho->Option Rv:=fun ρ=>match fa ρ,fb ρ with
 | some a,some b=>match op a b with
   | some (_,.bl true)=>match fc ρ with
     | some c=>op' b c
     | none=>none
   | some (_,.bl false)=>some (.pu,.bl false)
   | _=>none
 | _,_=>none
theorem wo {o o':CmpOp} {op op':Rv->Rv->Option Rv} (h:CR2 X o op) (h':CR2 X o' op') (ha:PX X a fa) (hb:PX X b fb) (hc:PX X c fc) (hm:lastMarks [o,o'] [b,c]=false:=by with_unfolding_all rfl) :
 PX X (.Compare a [o,o'] [b,c] pos) (nr op op' fa fb fc):=by
 obtain ⟨r,h1,h2⟩:=h
 obtain ⟨r',h3,h4⟩:=h'
 refine PE.imp (wg h1 h3 ha hb hc hm) fun σ H Q ⟨B,G,ρ,z,sg,sb,st,e,k⟩=>?_
 unfold nr at e
 split at e
 ·rename_i a' b' ea eb
  refine ⟨B,G,ρ,a',sg,sb,st,ea,fun x G1 H1 E1 ra=>⟨B,G1,ρ,b',E1.gh,sb.trans E1.hh,st.ext E1,eb,fun y G2 H2 E2 rb=>?_⟩⟩
  have ra2:=ra.ext E2
  have rb2:=rb.base (H0:=H) E1.hh
  split at e
  ·rename_i kd eo
   refine h2 B H G2 H2 a' b' _ x y _ E2.gh ra2 rb2 eo fun v G3 H3 E3 rc=>⟨true,rc.bl,?_⟩
   rw [if_pos rfl]
   split at e
   ·rename_i c' ec
    refine ⟨B,G3,ρ,c',E3.gh,((sb.trans E1.hh).trans E2.hh).trans E3.hh,((st.ext E1).ext E2).ext E3,ec,fun w G4 H4 E4 rw'=>?_⟩
    refine h4 B H G4 H4 b' c' z y w _ E4.gh ((rb2.ext E3).ext E4) (rw'.base ((E1.hh.trans E2.hh).trans E3.hh)) e fun v5 G5 H5 E5 r5=>?_
    exact k v5 G5 H5 ((((E1.trans E2).trans E3).trans E4).trans E5) (r5.base (((E1.hh.trans E2.hh).trans E3.hh).trans E4.hh))
   ·cases e
  ·rename_i kd eo
   cases e
   refine h2 B H G2 H2 a' b' _ x y _ E2.gh ra2 rb2 eo fun v G3 H3 E3 rc=>⟨false,rc.bl,?_⟩
   rw [if_neg am]
   exact k _ G3 H3 ((E1.trans E2).trans E3) rfl
  ·cases e
 ·cases e
variable {ta tc:Rho->Option Bool} {rest:List Expr}
noncomputable def iP (ta tc:Rho->Option Bool):Rho->Option Bool:=fun ρ=>match ta ρ with
 | some true=>tc ρ
 | some false=>some false
 | none=>none
noncomputable def wH (ta tc:Rho->Option Bool):Rho->Option Bool:=fun ρ=>match ta ρ with
 | some true=>some true
 | some false=>tc ρ
 | none=>none
theorem Cs {K:PySem.W.Frag} {σ:St} {H:Hp} {Q:Bool->Hp->Prop} (q:tXT K (iP ta tc) σ H Q):Ei (tXT K ta) (tXT K tc) σ H Q:=by
 obtain ⟨B,G,ρ,r,sg,sb,st,e,k⟩:=q
 unfold iP at e
 split at e
 ·rename_i ea
  exact ⟨B,G,ρ,true,sg,sb,st,ea,fun G1 H1 E1=>by dsimp only;rw [if_pos rfl];exact ⟨B,G1,ρ,r,E1.gh,sb.trans E1.hh,st.ext E1,e,fun G2 H2 E2=>k G2 H2 (E1.trans E2)⟩⟩
 ·rename_i ea
  cases e
  exact ⟨B,G,ρ,false,sg,sb,st,ea,fun G1 H1 E1=>by dsimp only;rw [if_neg am];exact k G1 H1 E1⟩
 ·cases e
theorem DJ {K:PySem.W.Frag} {σ:St} {H:Hp} {Q:Bool->Hp->Prop} (q:tXT K (wH ta tc) σ H Q):tOr (tXT K ta) (tXT K tc) σ H Q:=by
 obtain ⟨B,G,ρ,r,sg,sb,st,e,k⟩:=q
 unfold wH at e
 split at e
 ·rename_i ea
  cases e
  exact ⟨B,G,ρ,true,sg,sb,st,ea,fun G1 H1 E1=>by dsimp only;rw [if_pos rfl];exact k G1 H1 E1⟩
 ·rename_i ea
  exact ⟨B,G,ρ,false,sg,sb,st,ea,fun G1 H1 E1=>by dsimp only;rw [if_neg am];exact ⟨B,G1,ρ,r,E1.gh,sb.trans E1.hh,st.ext E1,e,fun G2 H2 E2=>k G2 H2 (E1.trans E2)⟩⟩
 ·cases e
theorem wk (ha:PXT X a ta):PXW X (.BoolOp .And [a] pos) ta:=yv ha
theorem yC (ha:PXT X a ta):PXW X (.BoolOp .Or [a] pos) ta:=Bo ha
theorem yS (ha:PXT X a ta) (hb:PXW X (.BoolOp .And (b::rest) pos) tc):PXW X (.BoolOp .And (a::b::rest) pos) (iP ta tc):=PW.imp (BI ha hb) fun _ _ _ q=>Cs q
theorem A4 (ha:PXT X a ta) (hb:PXW X (.BoolOp .Or (b::rest) pos) tc):PXW X (.BoolOp .Or (a::b::rest) pos) (wH ta tc):=PW.imp (D5 ha hb) fun _ _ _ q=>DJ q
theorem Di {e:Expr} (h:PXW X e ta):PXT X e ta:=h.pt
noncomputable def ij (ta:Rho->Option Bool):Rho->Option Bool:=fun ρ=>(ta ρ).map (!·)
theorem zL (ha:PXT X a ta):PXT X (.UnaryOp .Not a pos) (ij ta):=PT.imp (BF ha) fun σ H Q ⟨B,G,ρ,r,sg,sb,st,e,k⟩=>by
 unfold ij at e
 cases q:ta ρ with
 | none=>rw [q] at e;cases e
 | some c=>rw [q] at e;cases e;exact ⟨B,G,ρ,c,sg,sb,st,q,fun G1 H1 E1=>k G1 H1 E1⟩
noncomputable def zi (fa fb:Rho->Option Rv):Rho->Option Rv:=fun ρ=>match fa ρ with
 | some (_,.bl true)=>fb ρ
 | some (_,.bl false)=>some (.pu,.bl false)
 | _=>none
noncomputable def xOr (fa fb:Rho->Option Rv):Rho->Option Rv:=fun ρ=>match fa ρ with
 | some (_,.bl true)=>some (.pu,.bl true)
 | some (_,.bl false)=>fb ρ
 | _=>none
noncomputable def BZ (fa:Rho->Option Rv):Rho->Option Rv:=fun ρ=>match fa ρ with
 | some (_,.bl b)=>some (.pu,.bl (!b))
 | _=>none
theorem AV {op} (h:PX X a fa):PX X (.BoolOp op [a] pos) fa:=xH h
theorem CP (ha:PX X a fa) (hb:PX X (.BoolOp .And (b::rest) pos) fb):PX X (.BoolOp .And (a::b::rest) pos) (zi fa fb):=PE.imp (sC ha hb) fun σ H Q ⟨B,G,ρ,r,sg,sb,st,e,k⟩=>by
 unfold zi at e
 split at e
 ·rename_i kd ea
  exact ⟨B,G,ρ,_,sg,sb,st,ea,fun v G1 H1 E1 r1=>⟨true,r1.bl,by rw [if_pos rfl];exact ⟨B,G1,ρ,r,E1.gh,sb.trans E1.hh,st.ext E1,e,fun v2 G2 H2 E2 r2=>k v2 G2 H2 (E1.trans E2) (r2.base E1.hh)⟩⟩⟩
 ·rename_i kd ea
  cases e
  exact ⟨B,G,ρ,_,sg,sb,st,ea,fun v G1 H1 E1 r1=>⟨false,r1.bl,by rw [if_neg am];exact k _ G1 H1 E1 rfl⟩⟩
 ·cases e
theorem AY (ha:PX X a fa):PX X (.UnaryOp .Not a pos) (BZ fa):=PE.imp (xD ha) fun σ H Q ⟨B,G,ρ,r,sg,sb,st,e,k⟩=>by
 unfold BZ at e
 split at e
 ·rename_i kd b ea
  cases e
  exact ⟨B,G,ρ,_,sg,sb,st,ea,fun v G1 H1 E1 r1=>⟨b,r1.bl,k _ G1 H1 E1 rfl⟩⟩
 ·cases e
noncomputable def xIf (t:Rho->Option Bool) (fa fb:Rho->Option Rv):Rho->Option Rv:=fun ρ=>match t ρ with
 | some true=>fa ρ
 | some false=>fb ρ
 | none=>none
noncomputable def trD:Da->Option Bool
 | .non=>some false
 | .bl b=>some b
 | .int i=>some (i != 0)
 | .tup ds=>some (!ds.isEmpty)
 | .lst ds=>some (!ds.isEmpty)
 | _=>none
noncomputable def tTr (f:Rho->Option Rv):Rho->Option Bool:=fun ρ=>match f ρ with
 | some r=>trD r.2
 | none=>none
theorem jW {α β:Type} {l:List α} {m:List β} (h:l.length=m.length):l.isEmpty=m.isEmpty:=by
 cases l<;>cases m<;>first | rfl | cases h
theorem Cu (ha:PX X a fa) (he:∀ whole,isTrue a X.env whole=(do let v <- whole;standAt a.pos;holding [v] (truthy v)):=by intro _;rfl):PXT X a (tTr fa):=PT.imp (v4 ha he) fun σ H Q ⟨B,G,ρ,b,sg,sb,st,e,k⟩=>by
 unfold tTr at e
 split at e
 ·rename_i r er
  obtain ⟨kd,d⟩:=r
  refine ⟨B,G,ρ,_,sg,sb,st,er,fun v G1 H1 E1 r1=>⟨b,?_,k G1 H1 E1⟩⟩
  cases d with
  | non=>cases e;cases r1.non;rfl
  | bl b=>cases e;cases r1.bl;rfl
  | int i=>cases e;cases r1.int;rfl
  | str x=>cases e
  | tup ds=>cases e;obtain ⟨p,xs,rfl,q,dl,_⟩:=r1.tup E1.gh;exact .inr (.inl ⟨xs,SqT.of q,by rw [jW dl.length]⟩)
  | lst ds=>cases e;obtain ⟨p,xs,rfl,q,dl⟩:=r1.lst E1.gh;exact .inl ⟨xs,q,by rw [jW dl.length]⟩
  | dK ks ds=>cases e
  | dT ks ds=>cases e
 ·cases e
end
noncomputable def spD (K:PySem.W.Frag) (n:Nat) (fn:List Da->Option Da):Sp:=fun vs H Q _=>∃ G ds d,ds.length=n/\bY G H/\Tbs K G/\bT K G ds vs/\fn ds=some d/\∀ v G' H',Ext G H G' H'->Den K G' d v->Q v H'
noncomputable def bU (fn:List Da->Option Da) (g:Rho->Option (List Rv)):Rho->Option Rv:=fun ρ=>match g ρ with
 | none=>none
 | some rs=>match gG rs with
   | none=>none
   | some ds=>match fn ds with
     | none=>none
     | some d=>some (.pu,d)
theorem nM:∀ {rs:List Rv} {ds:List Da},gG rs=some ds->ds.length=rs.length
 | [],ds,h=>by cases h;rfl
 | (k,d)::rs,ds,h=>by
   unfold gG at h
   split at h
   ·cases q:gG rs with
    | none=>rw [q] at h;cases h
    | some ds'=>rw [q] at h;cases h;rw [aA,aA,nM q]
   ·cases h
theorem yy {X:Cx} {k n:Nat} {f:Addr} {fd:FuncData} {ps:List Str} {fn:List Da->Option Da} {x:Str} {p pos:Pos} {e:Expr} {es:List Expr} {g:Rho->Option (List Rv)} (F:pZ X.prog X.w X.K X.mg X.base CX0 k f fd ps (spD X.K n fn)) (hr:fQ k X.A) (hg:Gl X x) (hm:X.mg x=some (.ref f))
 (hk:PySem.W.keepIn X.K (.ref f)=true) (hb:mx X.K fd ps []) (ha:PXA X (e::es) g) (hlen:∀ ρ rs,g ρ=some rs->rs.length=n) (hdb:(x == ("__debug__" : Str))=false:=by decide) (he:starEach (e::es) X.env=(false,eval e X.env)::starEach es X.env:=by exact bi rfl)
 (hpl:(backTo pos (starEach es X.env)).any (·.1)=false:=by rfl):PX X (.Call (.Name x p) (e::es) [] pos) (bU fn g) :=
 PE.imp (sM F hr hg hm hk hb .nil DK ha hdb he hpl) fun σ H Q ⟨B,G,ρ,r,sg,sb,st,e,kk⟩=>by
  unfold bU at e
  split at e
  ·cases e
  ·rename_i rs er
   split at e
   ·cases e
   ·rename_i ds ed
    split at e
    ·cases e
    ·rename_i d ef
     cases e
     refine ⟨B,G,ρ,rs,sg,sb,st,er,fun vs G1 H1 E1 r1=>?_⟩
     obtain ⟨G2,E2,s12,d2⟩:=r1.pure E1 ed
     refine ⟨G2,ds,d,by rw [nM ed];exact hlen ρ rs er,E2.gh,st.tg.mono E2.gg,by rw [bH];exact d2,ef,fun v G3 H3 E3 r3=>kk v G3 H3 (E2.trans E3) r3⟩
theorem bQ:∀ ρ rs,bO ρ=some rs->rs.length=0:=fun _ _ h=>by cases h;rfl
theorem aO {n:Nat} {f:Rho->Option Rv} {g:Rho->Option (List Rv)} (h:∀ ρ rs,g ρ=some rs->rs.length=n):∀ ρ rs,aB f g ρ=some rs->rs.length=n+1:=fun ρ rs e=>by
 unfold aB at e
 split at e
 ·cases e
 ·split at e
  ·cases e
  ·rename_i rs' er
   cases e
   rw [aA,h ρ rs' er]
inductive Res where
 | nx (ρ:Rho) | rt (d:Da) | bk (ρ:Rho) | ct (ρ:Rho) | bad
noncomputable def Ay (K:PySem.W.Frag) (B G0 Gs:Hp) (D:vx):Res->Prop
 | .nx ρ=>∀ σ G H,Ext G0 B G H->bY Gs G->fV K B G H σ ρ->D.nx σ H
 | .rt d=>∀ v G H,Ext G0 B G H->bY Gs G->Den K G d v->D.rt v H
 | .bk ρ=>∀ σ G H,Ext G0 B G H->bY Gs G->fV K B G H σ ρ->D.bk σ H
 | .ct ρ=>∀ σ G H,Ext G0 B G H->bY Gs G->fV K B G H σ ρ->D.ct σ H
 | .bad=>False
theorem Ay.mono {K:PySem.W.Frag} {B G0 Gs Gt:Hp} {D:vx} {r:Res} (h:Ay K B G0 Gs D r) (s:bY Gs Gt):Ay K B G0 Gt D r:=by
 cases r with
 | nx ρ=>exact fun σ G H E t st=>h σ G H E (s.trans t) st
 | rt d=>exact fun v G H E t st=>h v G H E (s.trans t) st
 | bk ρ=>exact fun σ G H E t st=>h σ G H E (s.trans t) st
 | ct ρ=>exact fun σ G H E t st=>h σ G H E (s.trans t) st
 | bad=>exact h
noncomputable def tS (K:PySem.W.Frag) (g:Rho->Res):TS:=fun D σ H=>∃ B G0 G ρ,Ext G0 B G H/\fV K B G H σ ρ/\Ay K B G0 G D (g ρ)
noncomputable abbrev PXS (X:Cx) (st:Stmt) (g:Rho->Res):Prop:=PS X st (tS X.K g)
noncomputable abbrev rD (X:Cx) (st:List Stmt) (g:Rho->Res):Prop:=PSs X st (tS X.K g)
section
variable {X:Cx} {st:Stmt} {rest:List Stmt} {g h:Rho->Res} {pos pos':Pos} {e:Expr} {f:Rho->Option Rv}
noncomputable def gA:Rho->Res:=fun ρ=>.nx ρ
noncomputable def e8 (g h:Rho->Res):Rho->Res:=fun ρ=>match g ρ with
 | .nx ρ'=>h ρ'
 | r=>r
theorem zv:rD X [] gA:=PSs.imp o6 fun D σ H ⟨B,G0,G,ρ,E,st,k⟩=>k σ G H E (bY.refl _) st
theorem wD (h1:PXS X st g) (h2:rD X rest h):rD X (st::rest) (e8 g h):=PSs.imp (fj h1 h2) fun D σ H ⟨B,G0,G,ρ,E,st,k⟩=>by
 refine ⟨B,G0,G,ρ,E,st,?_⟩
 unfold e8 at k
 cases q:g ρ with
 | nx ρ'=>rw [q] at k;exact fun σ' G' H' E' s' st'=>⟨B,G0,G',ρ',E',st',k.mono s'⟩
 | rt d=>rw [q] at k;exact k
 | bk ρ'=>rw [q] at k;exact k
 | ct ρ'=>rw [q] at k;exact k
 | bad=>rw [q] at k;exact k
theorem yG (h1:PXS X st g):rD X [st] g:=fM h1
theorem sV {sts:List Stmt}:rD X sts (fun _=>.bad):=fun _ _ _ _ _ _ ⟨_,_,_,_,_,_,k⟩=>False.elim k
noncomputable def Ey (f:Rho->Option Rv):Rho->Res:=fun ρ=>match f ρ with
 | some r=>if r.1=.pu\/km r.2=false then .rt r.2 else .bad
 | none=>.bad
noncomputable def sIf (t:Rho->Option Bool) (g h:Rho->Res):Rho->Res:=fun ρ=>match t ρ with
 | some true=>g ρ
 | some false=>h ρ
 | none=>.bad
theorem A2 {c:Expr} {a b:List Stmt} {t:Rho->Option Bool} (hc:PXT X c t) (ha:rD X a g) (hb:rD X b h):PXS X (.If c a b pos) (sIf t g h):=PS.imp (Ai hc ha hb) fun D σ H ⟨B,G0,G,ρ,E,st,k⟩=>by
 unfold sIf at k
 cases q:t ρ with
 | none=>rw [q] at k;exact k.elim
 | some b =>
   rw [q] at k
   refine ⟨B,G,ρ,b,E.gh,E.hh,st,q,fun G1 H1 E1=>?_⟩
   cases b with
   | true=>rw [if_pos rfl];exact ⟨B,G0,G1,ρ,E.trans E1,st.ext E1,k.mono E1.gg⟩
   | false=>rw [if_neg am];exact ⟨B,G0,G1,ρ,E.trans E1,st.ext E1,k.mono E1.gg⟩
noncomputable def kj (i:Nat) (f:Rho->Option Rv):Rho->Res:=fun ρ=>match f ρ with
 | some r=>if cX r=true then .nx (ρ.set i (.pu r.2)) else .bad
 | none=>.bad
theorem zd {i:Nat} {x:Str} (hN:X.N.Nodup) (he:PX X e f) (hi:X.N[i]?=some x:=by rfl) (hx:Loc X.env.scope x:=by first | exact Or.inl rfl | exact Or.inr rfl) (hs:swapsWith e (some (.Name x pos')) pos.line X.env=pure false:=by rfl)
 (hf:X.fn x=true\/X.env.scope.names.lookup x=some .local:=by first | exact .inl rfl | exact .inr rfl | assumption):PXS X (.Assign [.Name x pos'] e pos) (kj i f) :=
 PS.imp (lc hN hi hx he hs hf) fun D σ H ⟨B,G0,G,ρ,E,st,k⟩=>by
  unfold kj at k
  cases q:f ρ with
  | none=>rw [q] at k;exact k.elim
  | some r =>
    rw [q] at k
    dsimp only at k
    split at k
    ·rename_i hk
     refine ⟨B,G,ρ,r,E.gh,E.hh,st,q,fun v G1 H1 E1 r1=>?_⟩
     obtain ⟨G2,E2,_,d2⟩:=r1.pure E1 hk
     exact k _ G2 H1 (E.trans E2) E2.gg ((st.ext E2).setPu d2)
    ·exact k.elim
noncomputable def xy (i:Nat) (f:Rho->Option Rv):Rho->Res:=fun ρ=>match f ρ with
 | some (.fr,d)=>.nx (ρ.set i (.ow d))
 | _=>.bad
theorem zV {i:Nat} {x:Str} (hN:X.N.Nodup) (he:PX X e f) (hi:X.N[i]?=some x:=by rfl) (hx:Loc X.env.scope x:=by first | exact Or.inl rfl | exact Or.inr rfl) (hs:swapsWith e (some (.Name x pos')) pos.line X.env=pure false:=by rfl)
 (hf:X.fn x=true\/X.env.scope.names.lookup x=some .local:=by first | exact .inl rfl | exact .inr rfl | assumption):PXS X (.Assign [.Name x pos'] e pos) (xy i f) :=
 PS.imp (lc hN hi hx he hs hf) fun D σ H ⟨B,G0,G,ρ,E,st,k⟩=>by
  unfold xy at k
  split at k
  ·rename_i d q
   refine ⟨B,G,ρ,_,E.gh,E.hh,st,q,fun v G1 H1 E1 r1=>?_⟩
   obtain ⟨l,o,rfl,n,g,qh,r⟩:=r1
   refine k _ G1 H1 (E.trans E1) E1.gg ((st.ext E1).setOw (E.hh.free n) g qh r fun j d' hj ej z=>?_)
   obtain ⟨l',o',a,_,_,f',_⟩:=st.ow j d' ej
   rw [a] at z
   cases z
   rw [n] at f';cases f'
  ·exact k.elim
theorem yL (i:Nat) (h1:PXS X st g):PXS X st (fun ρ=>g (frz i ρ)):=PS.imp h1 fun D σ H ⟨B,G0,G,ρ,E,st,k⟩=>by
 obtain ⟨G',E',s',st'⟩:=st.frz i E
 exact ⟨B,G0,G',_,E',st',k.mono s'⟩
noncomputable def DT (f:Rho->Option Rv):Rho->Res:=fun ρ=>match f ρ with
 | some _=>.nx ρ
 | none=>.bad
noncomputable def iY (i:Nat) (f:Rho->Option Rv):Rho->Res:=fun ρ=>match ρ[i]?,f ρ with
 | some (.ow (.lst ds)),some r=>if cX r=true/\ds.length<=1000000 then .nx (ρ.set i (.ow (.lst (ds++[r.2])))) else .bad
 | _,_=>.bad
theorem qT {i:Nat} {x:Str} {p1 apos cpos:Pos} (he:PX X e f) (hN:X.N[i]?=some x:=by rfl) (hv:Vis X.env.scope x:=by first | exact Or.inl rfl | exact Or.inr (Or.inl rfl) | exact Or.inr (Or.inr rfl)) (hd:(x == ("__debug__" : Str))=false:=by decide)
 (hcd:(x == ("__classdict__" : Str))=false:=by decide)
 (hs:swapsWith (.Call (.Attribute (.Name x p1) "append" apos) [e] [] cpos) none pos.line X.env=pure false:=by rfl) (hbase:attributeBase (.Name x p1) "append" X.env (eval (.Name x p1) X.env)=eval (.Name x p1) X.env:=by rfl)
 (hfew:((backTo cpos (starEach [e] X.env)).all (fun x=>!x.1)&&(backToKw cpos (keywordEach [] X.env)).all (fun x=>x.1.isSome)&&decide (([e]:List Expr).length+([]:List Keyword).length+(if ([]:List Keyword).isEmpty then 0 else 1)<30))=true:=by rfl)
 (hline:(apos.endLine == cpos.line)=true:=by rfl) (hst:starEach [e] X.env=[(false,eval e X.env)]:=by exact bi rfl) (hplain:(backTo cpos (starEach [] X.env)).any (·.1)=false:=by rfl) :
 PXS X (.Expr (.Call (.Attribute (.Name x p1) "append" apos) [e] [] cpos) pos) (iY i f) :=
 PS.imp (po (yo PySem.F.plainAttrs_list PySem.F.slot_list_append PySem.F.type_list_append nI (m9 hN hv hd hcd) (e7 he iF hst) hbase hfew hline hst hplain) hs) fun D σ H ⟨B,G0,G,ρ,E,st,k⟩=>by
  unfold iY at k
  split at k
  ·rename_i ds r eo ef
   split at k
   ·rename_i hk
    obtain ⟨l,o,a,nb,ng,hl,xs,rfl,dl⟩:=st.ow i _ eo
    refine ⟨_,a,.inl ⟨rfl,xs,SqL.of hl⟩,B,G,ρ,_,E.gh,E.hh,st,ef,fun v G1 H1 E1 r1=>?_⟩
    obtain ⟨G2,E2,_,d2⟩:=r1.pure E1 hk.1
    have hs:sizeLine=16777216:=sizeLine_eq
    have ln:=dl.length
    refine ⟨l,xs,v,rfl,rfl,E1.hh _ _ hl,by lia,?_⟩
    have st2:=st.ext E2
    have g2:G2 l=none:=E2.nw _ _ hl rfl ng
    exact k _ G2 _ ((E.trans E2).mut nb g2) E2.gg (st2.mut eo a ⟨_,rfl,bT.append (bT.mono E2.gg _ dl) (bT.one d2)⟩)
   ·exact k.elim
  ·exact k.elim
end
end Ry
namespace Ry
open PySem PySem.Spec PyProof.Rows L2
section
variable {X:Cx} {pins:List (Addr×Obj)} {σ:St} {H:Hp} {s:Shared} {l:Addr}
noncomputable def lu (u:HO):Prop:=(∃ kvs,u=.dK kvs)\/∃ kvs,u=.dT kvs
theorem yA {u:HO} (I:Inv X pins σ H s) (e:H l=some u) (hu:lu u):∃ o,Inv X pins σ (upd H l (.frz o u)) s:=by
 have ok:=I.hok l u e
 obtain ⟨o,ho⟩:∃ o,s.heap.get? l=some o:=by
  rcases hu with ⟨kvs,rfl⟩ | ⟨kvs,rfl⟩
  ·obtain ⟨_,_,vs,_,o,_,_,q,_⟩:=ok;exact ⟨o,q⟩
  ·obtain ⟨_,_,xs,_,o,_,_,q,_⟩:=ok;exact ⟨o,q⟩
 have nn:∀ {b:Addr},H b=none->b≠l:=fun n z=>by rw [z,e] at n;cases n
 have nt:∀ {b:Addr} {w:HO},H b=some w->¬ lu w->b≠l:=fun q n z=>by rw [z,e] at q;cases q;exact n hu
 have n1:∀ xs,¬ lu (.tup xs):=fun xs z=>by rcases z with ⟨_,z⟩ | ⟨_,z⟩<;>cases z
 have n2:∀ ob w,¬ lu (.frz ob w):=fun ob w z=>by rcases z with ⟨_,z⟩ | ⟨_,z⟩<;>cases z
 have n3:∀ ps,¬ lu (.tbl ps):=fun ps z=>by rcases z with ⟨_,z⟩ | ⟨_,z⟩<;>cases z
 have n4:∀ y,¬ lu (.own y):=fun y z=>by rcases z with ⟨_,z⟩ | ⟨_,z⟩<;>cases z
 refine ⟨o,I.ok,I.os,I.bare,⟨I.base.keep,I.base.slot,fun b ob q n hx=>?_,I.base.there,fun b xs q=>?_,fun b ob w q=>?_,fun b ps q=>?_⟩,I.loc,I.cell,?_,fun x c q=>?_,fun p hp=>?_,fun b v q=>?_,I.len⟩
 ·have z:=I.base.free b ob q n hx
  rw [bf (nn z)];exact z
 ·have z:=I.base.tups b xs q
  rw [bf (nt z (n1 xs))];exact z
 ·have z:=I.base.frzs b ob w q
  rw [bf (nt z (n2 ob w))];exact z
 ·obtain ⟨m,z⟩:=I.base.tbls b ps q
  exact ⟨m,by rw [bf (nt z (n3 _))];exact z⟩
 ·rw [bf (nn I.free)];exact I.free
 ·rw [bf (nn (I.freeC x c q))];exact I.freeC x c q
 ·obtain ⟨a,b,c⟩:=I.pin p hp
  exact ⟨a,by rw [bf (nn b)];exact b,c⟩
 ·have hown:∀ c y,H c=some (.own y)->upd H l (.frz o u) c=some (.own y):=fun c y z=>by rw [bf (nt z (n4 y))];exact z
  have htup:∀ c xs,H c=some (.tup xs)->upd H l (.frz o u) c=some (.tup xs):=fun c xs z=>by rw [bf (nt z (n1 xs))];exact z
  have hcod:∀ c x,H c=some (.cod x)->upd H l (.frz o u) c=some (.cod x):=fun c x z=>by rw [bf (nt z (fun y=>by rcases y with ⟨_,y⟩ | ⟨_,y⟩<;>cases y))];exact z
  by_cases hb:b=l
  ·subst hb
   rw [aS] at q
   cases q
   exact ⟨ho,ok.stay (fun _ _ _ z=>z) (fun c z=>hown c _ z) htup hcod⟩
  ·rw [bf hb] at q
   exact (I.hok b v q).stay (fun _ _ _ z=>z) (fun c z=>hown c _ z) htup hcod
end
noncomputable def eU (f:Rho->Option Rv):Rho->Option Rv:=fun ρ=>match f ρ with
 | some (.fr,d)=>some (.pu,d)
 | r=>r
theorem Holds.dct {K:PySem.W.Frag} {G:Hp} {d:Da} {o:HO} (h:Holds K G d o) (nd:km d=true):lu o/\∀ (l:Addr) (ob:Obj),G l=some (.frz ob o)->Den K G d (.ref l):=by
 cases d with
 | dK ks ds=>obtain ⟨kvs,rfl,k,r⟩:=h;exact ⟨.inl ⟨kvs,rfl⟩,fun l ob e=>⟨l,ob,kvs,rfl,e,k,r⟩⟩
 | dT ks ds=>obtain ⟨kvs,rfl,k,r⟩:=h;exact ⟨.inr ⟨kvs,rfl⟩,fun l ob e=>⟨l,ob,kvs,rfl,e,k,r⟩⟩
 | _=>cases nd
theorem yb {X:Cx} {e:Expr} {f:Rho->Option Rv} (h:PX X e f):PX X e (eU f):=by
 intro pins s σ H Q I ⟨B,G,ρ,r,sg,sb,st,eq,k⟩
 unfold eU at eq
 split at eq
 ·rename_i d q
  cases eq
  refine thn (h pins s σ H (fun v H1=>∃ G1,Ext G H G1 H1/\fP X.K B H G1 H1 (.fr,d) v) I ⟨B,G,ρ,_,sg,sb,st,q,fun v G1 H1 E1 r1=>⟨G1,E1,r1⟩⟩) fun u s1 ⟨v,H1,I1,rv,G1,E1,r1⟩=>?_
  by_cases nd:km d=true
  ·obtain ⟨l,o,rfl,n,g,ql,hd⟩:=r1
   obtain ⟨hdct,hden⟩:=(hd.mono (bB (o:=o) g)).dct nd
   obtain ⟨ob,I2⟩:=yA I1 ql (hd.dct nd).1
   refine ⟨.ref l,_,I2,rv,k _ (upd G1 l (.frz ob o)) _ ⟨fun b w z=>?_,E1.gg.trans (bB g),iy E1.gh,fun b w z t y=>?_⟩ ?_⟩
   ·rw [bf (bI z n)];exact E1.hh b w z
   ·rw [bf (bI z n)];exact E1.nw b w z t y
   ·exact ((hd.mono (bB (o:=.frz ob o) g)).dct nd).2 l ob aS
  ·obtain ⟨G2,E2,_,d2⟩:=r1.pure E1 (by simpa [cX] using nd)
   exact ⟨v,H1,I1,rv,k v G2 H1 E2 d2⟩
 ·exact h pins s σ H Q I ⟨B,G,ρ,r,sg,sb,st,eq,k⟩
noncomputable def dN (f:Rho->Option Rv):Rho->Res:=fun ρ=>match f ρ with
 | some r=>.rt r.2
 | none=>.bad
theorem w4 {X:Cx} {e:Expr} {f:Rho->Option Rv} {pos:Pos} (he:PX X e f):PXS X (.Return (some e) pos) (dN f):=by
 intro pins s σ H D I ⟨B,G0,G,ρ,E,st,k⟩
 unfold dN at k
 cases q:f ρ with
 | none=>rw [q] at k;exact k.elim
 | some r =>
   rw [q] at k
   refine thn (qx (pos:=pos) he pins s σ H { nx:=fun _ _=>False,rt:=fun v H1=>∃ G1,Ext G H G1 H1/\fP X.K B H G1 H1 r v } I ⟨B,G,ρ,r,E.gh,E.hh,st,q,fun v G1 H1 E1 r1=>⟨G1,E1,r1⟩⟩) fun fl s1 h1=>?_
   cases fl with
   | next=>obtain ⟨_,_,_,z⟩:=h1;exact z.elim
   | brk=>obtain ⟨_,_,_,z⟩:=h1;exact z.elim
   | cont=>obtain ⟨_,_,_,z⟩:=h1;exact z.elim
   | ret u =>
     obtain ⟨v,σ1,H1,I1,rv,G1,E1,r1⟩:=h1
     by_cases nd:r.1=.pu\/km r.2=false
     ·obtain ⟨G2,E2,s2,d2⟩:=r1.pureB E.hh (E.trans E1) nd
      exact ⟨v,σ1,H1,I1,rv,k v G2 H1 E2 (E1.gg.trans s2) d2⟩
     ·obtain ⟨kd,d⟩:=r
      have hk:¬ kd=.pu:=fun z=>nd (.inl z)
      have hd:km d=true:=by
       cases z:km d with
       | true=>rfl
       | false=>exact absurd (.inr z) nd
      have go:∃ l o,v=.ref l/\B l=none/\G1 l=none/\H1 l=some o/\Holds X.K G1 d o:=by
       cases kd with
       | pu=>exact absurd rfl hk
       | bo =>
         obtain ⟨l,o,rfl,nb,g,ql,hh⟩:=r1
         exact ⟨l,o,rfl,nb,g,ql,hh⟩
       | fr=>obtain ⟨l,o,rfl,n,g,ql,hh⟩:=r1;exact ⟨l,o,rfl,E.hh.free n,g,ql,hh⟩
      obtain ⟨l,o,rfl,nb,g,ql,hh⟩:=go
      obtain ⟨ob,I2⟩:=yA I1 ql (hh.dct hd).1
      have E2:=E.trans E1
      refine ⟨.ref l,σ1,_,I2,rv,k _ (upd G1 l (.frz ob o)) _ ⟨fun b w z=>?_,E2.gg.trans (bB g),iy E2.gh,fun b w z t y=>?_⟩ (E1.gg.trans (bB g)) ?_⟩
      ·rw [bf (bI z nb)];exact E2.hh b w z
      ·rw [bf (bI z nb)];exact E2.nw b w z t y
      ·exact ((hh.mono (bB (o:=.frz ob o) g)).dct hd).2 l ob aS
end Ry
namespace Ry
open PySem PySem.Spec PyProof.Rows L2
noncomputable def Ci (K:PySem.W.Frag) (J:It) (items:List Da) (G:Hp):Prop:=∀ (i:Nat) (G' H':Hp),bY G G'->bY G' H' ->
 (∀ d,items[i]?=some d->J.go i H'/\∀ x H'',J.yld i H' x H''->∃ G'',Ext G' H' G'' H''/\Den K G'' d x)/\(items.length=i->J.stop i H')
noncomputable def iX (K:PySem.W.Frag) (f:Rho->Option (List Da)):TI:=fun σ H R=>∃ B G ρ ds,bY G H/\bY B H/\fV K B G H σ ρ/\f ρ=some ds/\∀ J G' H',Ext G H G' H'->Ci K J ds G'->R J H'
noncomputable abbrev PXI (X:Cx) (tg iter:Expr) (f:Rho->Option (List Da)):Prop:=PI X tg iter (iX X.K f)
section
variable {X:Cx} {tg e:Expr} {f:Rho->Option Rv} {pos:Pos}
theorem zS {K:PySem.W.Frag} {G:Hp} {a:Addr} {xs:List V} {ds:List Da} (q:SqL K G a xs) (h:bT K G ds xs) (inj:∀ (H:Hp) (ys:List V),bY G H->SqL K H a ys->ys=xs\/True):Ci K (Itl K a) ds G:=by
 intro i G' H' s1 s2
 have q2:=(s1.trans s2).seq q
 refine ⟨fun d e=>?_,fun hl=>⟨xs,q2,by rw [h.length];exact mW hl⟩⟩
 obtain ⟨x,hx,dx⟩:=h.get e
 refine ⟨⟨xs,x,q2,hx⟩,fun y H'' z=>?_⟩
 obtain ⟨rfl,z⟩:=z
 have:=z xs q2
 rw [hx] at this;cases this
 exact ⟨G',Ext.refl s2,Den.mono s1 d dx⟩
theorem Co {K:PySem.W.Frag} {G:Hp} {a:Addr} {xs:List V} {ds:List Da} (q:G a=some (.tup xs)) (h:bT K G ds xs):Ci K (Itt K a) ds G:=by
 intro i G' H' s1 s2
 have q2:SqT K H' a xs:=SqT.of ((s1.trans s2) _ _ q)
 refine ⟨fun d e=>?_,fun hl=>⟨xs,q2,by rw [h.length];exact mW hl⟩⟩
 obtain ⟨x,hx,dx⟩:=h.get e
 refine ⟨⟨xs,x,q2,hx⟩,fun y H'' z=>?_⟩
 obtain ⟨rfl,z⟩:=z
 have:=z xs q2
 rw [hx] at this;cases this
 exact ⟨G',Ext.refl s2,Den.mono s1 d dx⟩
noncomputable def d8 (lo:Int):Nat->List Da
 | 0=>[]
 | n+1=>.int lo::d8 (lo+1) n
theorem lg:∀ (n:Nat) (lo:Int),(d8 lo n).length=n
 | 0,_=>rfl
 | n+1,lo=>by unfold d8;rw [aA,lg n]
theorem kU:∀ (n:Nat) (lo:Int) (i:Nat) (d:Da),(d8 lo n)[i]?=some d->d=.int (lo+i)/\i<n
 | 0,_,_,_,h=>by simp [d8] at h
 | n+1,lo,0,d,h=>by unfold d8 at h;simp at h;subst h;exact ⟨by simp,by lia⟩
 | n+1,lo,i+1,d,h=>by
   unfold d8 at h
   rw [be] at h
   obtain ⟨e,l⟩:=kU n (lo+1) i d h
   refine ⟨?_,by lia⟩
   rw [e]
   congr 1
   push_cast
   lia
theorem qd {K:PySem.W.Frag} {G:Hp} {lo:Int} {n:Nat}:Ci K (Itr lo n) (d8 lo n) G:=by
 intro i G' H' s1 s2
 refine ⟨fun d e=>?_,fun hl=>?_⟩
 ·obtain ⟨rfl,hi⟩:=kU n lo i d e
  refine ⟨hi,fun y H'' z=>?_⟩
  obtain ⟨rfl,rfl⟩:=z
  exact ⟨G',Ext.refl s2,rfl⟩
 ·rw [lg] at hl;exact mW hl
noncomputable def Itd (a:Addr) (o:Obj) (kvs:List (Key×V)):It :=
 ⟨fun i H=>H a=some (.frz o (.dK kvs))/\i<kvs.length,fun i H x H'=>H'=H/\∃ kv,kvs[i]?=some kv/\x=kV kv.1,fun i H=>H a=some (.frz o (.dK kvs))/\kvs.length=i⟩
theorem zk {K:PySem.W.Frag} {G:Hp} {a:Addr} {o:Obj} {kvs:List (Key×V)} (q:G a=some (.frz o (.dK kvs))):Ci K (Itd a o kvs) (kvs.map fun kv=>fW kv.1) G:=by
 intro i G' H' s1 s2
 have q2:=(s1.trans s2) _ _ q
 refine ⟨fun d e=>?_,fun hl=>⟨q2,by rw [af] at hl;exact hl⟩⟩
 rw [av] at e
 cases z:kvs[i]? with
 | none=>rw [z] at e;cases e
 | some kv =>
   rw [z] at e
   cases e
   refine ⟨⟨q2,(aq.mp z).1⟩,fun y H'' w=>?_⟩
   obtain ⟨rfl,kv',e',rfl⟩:=w
   rw [z] at e';cases e'
   exact ⟨G',Ext.refl s2,sP _⟩
theorem lJ {pins:List (Addr×Obj)} {σ:St} {H:Hp} {s:Shared} {a:Addr} {o:Obj} {kvs:List (Key×V)} (I:Inv X pins σ H s) (q:H a=some (.frz o (.dK kvs))) :
 s.heap.get? a=some o/\(a == sysModules)=false/\∃ vs,KV kvs vs/\s.heap.DictOf (cr X.prog X.w) a vs:=by
 obtain ⟨e,_,hd,vs,r,dd⟩:=I.hok a _ q
 exact ⟨e,hd,vs,r,dd⟩
theorem sx {P:Program} {w:World} {K:PySem.W.Frag} {tg:Expr} (a it:Addr) (o:Obj) (kvs:List (Key×V)) (vs:List (Key×Value)) (ep:Nat) (es:Array DictEntry) (hd:o.data=.dict es ep) (rel:KV kvs vs) :
 AC P w K tg (Itd a o kvs) [it] it (fun i h=>h.IsKeyIter it a i vs.length ep) where
 mem:=by simp
 obj:=fun i h st b hb=>by
  have e:b=it:=by simpa using hb
  subst e
  obtain ⟨o,e,c,d⟩:=st
  exact ⟨o,e,fun v z=>by rw [d] at z;cases z⟩
 keep:=fun i h h' st k=>st.at fun o e=>k it (by simp) o e
 item:=by
  intro X hP hw hK hc i pins s σ H E I hf st hg
  subst hP hw hK
  obtain ⟨hq,hi⟩:=hg
  obtain ⟨ho,hm,vs',rel',dd⟩:=lJ I hq
  obtain ⟨f0,f1,f2,f3,f4,f5⟩:=hf it (by simp)
  have hkv:∃ kv,kvs[i]?=some kv:=⟨kvs[i],by simp [hi]⟩
  obtain ⟨kv,hkv⟩:=hkv
  have hv:∃ kv',vs'[i]?=some kv'/\kv'.1=kv.1:=by
   have hl:=Paired.length rel'
   have:i<vs'.length:=by lia
   refine ⟨vs'[i],by simp [this],?_⟩
   have e:=rel'.keys
   have e2:=congrArg (fun l=>l[i]?) e
   simp only [av,hkv,Option.map_some] at e2
   rw [ae this] at e2
   simpa using e2.symm
  obtain ⟨⟨k',x'⟩,hv,hk⟩:=hv
  obtain ⟨o2,es2,ep2,e2,r2⟩:=dd
  rw [ho] at e2;cases e2
  have hep:ep2=ep:=by
   have:=r2.2.1
   rw [hd] at this;cases this;rfl
  subst hep
  have hlen:vs.length=vs'.length:=by rw [<- Paired.length rel,<- Paired.length rel']
  rw [hlen] at st
  refine wpAny_pyNext_dict_item (knd:=cr X.prog X.w) st ⟨o,es2,ho,r2⟩ hv fun key h' hkey st' sb=>?_
  have I1:Inv X pins σ H { s with heap:=h' }:=I.turned (t':=s.toks) (fun b o hb e=>(sb.2 b hb).trans e) f0 f1 f3 f4 f5
  obtain ⟨oi,ei,ci,di⟩:=id st'
  rw [<- hlen] at st'
  refine ⟨key,rfl,w6 (s:={ s with heap:=h' }) ei ci di (by decide) ⟨kV kv.1,H,I1,?_,⟨rfl,kv,hkv,rfl⟩,st',fun b hb=>(hf b hb).1⟩⟩
  dsimp only at hk
  subst hk
  rcases cm (show oz kv.1 key=true from hkey) with ⟨z,t,e1,e2⟩ | ⟨z,t,e1,e2⟩
  ·rw [e1,e2];exact ⟨t,rfl⟩
  ·rw [e1,e2];exact ⟨t,rfl⟩
 done:=by
  intro X hP hw hK hc i pins s σ H E I hf st hg
  subst hP hw hK
  obtain ⟨hq,hi⟩:=hg
  obtain ⟨ho,hm,vs',rel',dd⟩:=lJ I hq
  obtain ⟨f0,f1,f2,f3,f4,f5⟩:=hf it (by simp)
  obtain ⟨o2,es2,ep2,e2,r2⟩:=dd
  rw [ho] at e2;cases e2
  have hep:ep2=ep:=by
   have:=r2.2.1
   rw [hd] at this;cases this;rfl
  subst hep
  have hlen:vs.length=vs'.length:=by rw [<- Paired.length rel,<- Paired.length rel']
  rw [hlen] at st
  have hl:=Paired.length rel'
  exact wpAny_pyNext_dict_end (knd:=cr X.prog X.w) (I.ok.hd hc) st ⟨o,es2,ho,r2⟩ (bM (by lia)) fun h' eb=>⟨rfl,I.turned (t':=s.toks) (fun b o hb e=>eb b o hb e) f0 f1 f3 f4 f5⟩
 self:=fun _ _ _ _ _ st h=>wpAny_pyIter_keyiter st h
noncomputable def bJ (f:Rho->Option Rv):Rho->Option (List Da):=fun ρ=>match f ρ with
 | some (.pu,.lst ds)=>some ds
 | some (.pu,.tup ds)=>some ds
 | some (.pu,.dK ks _)=>some (ks.map fW)
 | _=>none
theorem tL (he:PX X e f):PXI X tg e (bJ f):=by
 intro pins s σ H R I ⟨B,G,ρ,ds,sg,sb,st,eq,k⟩
 unfold bJ at eq
 split at eq
 ·rename_i ds' q
  cases eq
  refine zH he pins s σ H R I ⟨B,G,ρ,_,sg,sb,st,q,fun v G1 H1 E1 r1=>?_⟩
  obtain ⟨a,xs,rfl,q1,d1⟩:=r1
  exact ⟨a,rfl,⟨xs,E1.gh.seq q1⟩,k _ G1 H1 E1 (zS q1 d1 fun _ _ _ _=>.inr trivial)⟩
 ·rename_i ds' q
  cases eq
  refine Bh he pins s σ H R I ⟨B,G,ρ,_,sg,sb,st,q,fun v G1 H1 E1 r1=>?_⟩
  obtain ⟨a,xs,rfl,q1,d1⟩:=r1
  exact ⟨a,rfl,⟨xs,SqT.of (E1.gh _ _ q1)⟩,k _ G1 H1 E1 (Co q1 d1)⟩
 ·rename_i ks vs q
  cases eq
  refine thn (he pins s σ H (fun v H1=>∃ G1,Ext G H G1 H1/\fP X.K B H G1 H1 (.pu,.dK ks vs) v) I ⟨B,G,ρ,_,sg,sb,st,q,fun v G1 H1 E1 r1=>⟨G1,E1,r1⟩⟩) fun u s1 ⟨v,H1,I1,rv,G1,E1,r1⟩=>?_
  obtain ⟨a,o,kvs,rfl,q1,ek,d1⟩:=r1
  cases rv
  have q2:=E1.gh _ _ q1
  obtain ⟨ho,hm,vs',rel,dd⟩:=lJ I1 q2
  obtain ⟨o2,es,ep,e2,r2⟩:=dd
  rw [ho] at e2;cases e2
  have hks:ks.map fW=kvs.map fun kv=>fW kv.1:=by rw [<- ek,aT];rfl
  refine wpAny_pyIter_dict (knd:=cr X.prog X.w) hm ⟨o,es,ho,r2⟩ ?_
  refine ⟨s1.heap.objs.size,[s1.heap.objs.size],_,Itd a o kvs,H1,rfl,I1.kept (t':=s1.toks) fun b o e=>aa _ e,sx a _ o kvs vs' ep es r2.2.1 rel,⟨_,aj _ rfl,rfl,rfl⟩,fun b hb=>?_,k _ G1 H1 E1 (by rw [hks];exact zk q1)⟩
  have e:b=s1.heap.objs.size:=by simpa using hb
  subst e
  exact I1.fpOk (ag _) (I1.hok.fresh (ag _))
 ·cases eq
noncomputable def mQ (f:Rho->Option (List Rv)):Rho->Option (List Da):=fun ρ=>match f ρ with
 | some [(_,.int j)]=>if -(2 ^ 62)<=j/\j<2 ^ 62 then some (d8 0 j.toNat) else none
 | _=>none
noncomputable def Ax (f:Rho->Option (List Rv)):Rho->Option (List Da):=fun ρ=>match f ρ with
 | some [(_,.int i),(_,.int j)]=>if -(2 ^ 62)<=i/\i<2 ^ 62/\-(2 ^ 62)<=j/\j<2 ^ 62 then some (d8 i (j-i).toNat) else none
 | _=>none
theorem PI.imp {X:Cx} {tg e:Expr} {t t':TI} (h:PI X tg e t) (i:∀ σ H R,t' σ H R->t σ H R):PI X tg e t':=fun pins s σ H R I q=>h pins s σ H R I (i σ H R q)
theorem kX {a:Expr} {p:Pos} {g:Rho->Option (List Rv)} (hg:Gl X "range") (hm:X.mg "range" = none) (ha:PXA X [a] g) (hs:starEach [a] X.env=[(false,eval a X.env)]:=by exact bi rfl):PXI X tg (.Call (.Name "range" p) [a] [] pos) (mQ g) :=
 PI.imp (t8 hg hm ha hs) fun σ H R ⟨B,G,ρ,ds,sg,sb,st,eq,k⟩=>by
  unfold mQ at eq
  split at eq
  ·rename_i kd j q
   split at eq
   ·rename_i hb
    cases eq
    refine ⟨B,G,ρ,_,sg,sb,st,q,fun vs G1 H1 E1 r1=>?_⟩
    obtain ⟨v,rfl,r⟩:=dM.one r1
    cases r.int
    exact ⟨j,rfl,hb.1,hb.2,k _ G1 H1 E1 qd⟩
   ·cases eq
  ·cases eq
theorem rK {a b:Expr} {p:Pos} {g:Rho->Option (List Rv)} (hg:Gl X "range") (hm:X.mg "range" = none) (ha:PXA X [a,b] g) (hs:starEach [a,b] X.env=[(false,eval a X.env),(false,eval b X.env)]:=by rfl) (hs2:starEach [b] X.env=[(false,eval b X.env)]:=by rfl) :
 PXI X tg (.Call (.Name "range" p) [a,b] [] pos) (Ax g) :=
 PI.imp (vh hg hm ha hs hs2) fun σ H R ⟨B,G,ρ,ds,sg,sb,st,eq,k⟩=>by
  unfold Ax at eq
  split at eq
  ·rename_i k1 i k2 j q
   split at eq
   ·rename_i hb
    cases eq
    refine ⟨B,G,ρ,_,sg,sb,st,q,fun vs G1 H1 E1 r1=>?_⟩
    obtain ⟨v,v2,rfl,r,r2⟩:=dM.two r1
    cases r.int
    cases r2.int
    exact ⟨i,j,rfl,hb,k _ G1 H1 E1 qd⟩
   ·cases eq
  ·cases eq
end
noncomputable def gX (K:PySem.W.Frag) (t:Da->Rho->Option Rho):TG:=fun v σ H Q=>∃ B G0 G ρ d ρ',Ext G0 B G H/\fV K B G H σ ρ/\Den K G d v/\t d ρ=some ρ'/\∀ σ',fV K B G H σ' ρ'->Q σ' H
noncomputable def gXs (K:PySem.W.Frag) (t:List Da->Rho->Option Rho):TGs:=fun vs σ H Q=>∃ B G0 G ρ ds ρ',Ext G0 B G H/\fV K B G H σ ρ/\bT K G ds vs/\t ds ρ=some ρ'/\∀ σ',fV K B G H σ' ρ'->Q σ' H
noncomputable abbrev PXG (X:Cx) (tg:Expr) (t:Da->Rho->Option Rho):Prop:=PG X tg (gX X.K t)
noncomputable abbrev zm (X:Cx) (ts:List Expr) (t:List Da->Rho->Option Rho):Prop:=PGs X ts (gXs X.K t)
theorem PG.imp {X:Cx} {tg:Expr} {t t':TG} (h:PG X tg t) (i:∀ v σ H Q,t' v σ H Q->t v σ H Q):PG X tg t':=fun pins s σ H v u Q I r q=>h pins s σ H v u Q I r (i v σ H Q q)
theorem PGs.imp {X:Cx} {tg:List Expr} {t t':TGs} (h:PGs X tg t) (i:∀ v σ H Q,t' v σ H Q->t v σ H Q):PGs X tg t':=fun pins s σ H v u Q I r q=>h pins s σ H v u Q I r (i v σ H Q q)
section
variable {X:Cx} {pos:Pos}
noncomputable def tgN (i:Nat):Da->Rho->Option Rho:=fun d ρ=>some (ρ.set i (.pu d))
theorem wt {i:Nat} {x:Str} (hN:X.N.Nodup) (hi:X.N[i]?=some x:=by rfl) (hx:Loc X.env.scope x:=by first | exact Or.inl rfl | exact Or.inr rfl) (hf:X.fn x=true\/X.env.scope.names.lookup x=some .local:=by first | exact .inl rfl | exact .inr rfl | assumption):PXG X (.Name x pos) (tgN i) :=
 PG.imp (lT hN hi hx hf) fun v σ H Q ⟨B,G0,G,ρ,d,ρ',E,st,dv,e,k⟩=>by cases e;exact k _ (st.setPu dv)
noncomputable def ju:List Da->Rho->Option Rho
 | [],ρ=>some ρ
 | _,_=>none
noncomputable def d6 (t:Da->Rho->Option Rho) (u:List Da->Rho->Option Rho):List Da->Rho->Option Rho
 | d::ds,ρ=>match t d ρ with
   | some ρ'=>u ds ρ'
   | none=>none
 | [],_=>none
theorem Am:zm X [] ju:=PGs.imp ux fun v σ H Q ⟨B,G0,G,ρ,ds,ρ',E,st,dv,e,k⟩=>by
 unfold ju at e
 split at e
 ·cases e;exact ⟨dv,k _ st⟩
 ·cases e
theorem wl {e:Expr} {es:List Expr} {t:Da->Rho->Option Rho} {u:List Da->Rho->Option Rho} (h1:PXG X e t) (h2:zm X es u) (hs:(assignEach (e::es) X.env).map (·.2)=assign e X.env::(assignEach es X.env).map (·.2):=by rfl):zm X (e::es) (d6 t u) :=
 PGs.imp (mI h1 h2 hs) fun v σ H Q ⟨B,G0,G,ρ,ds,ρ',E,st,dv,eq,k⟩=>by
  unfold d6 at eq
  split at eq
  ·rename_i d ds'
   obtain ⟨x,r,rfl,d1,d2⟩:=dv
   split at eq
   ·rename_i ρ1 e1
    exact ⟨x,r,rfl,B,G0,G,ρ,d,ρ1,E,st,d1,e1,fun σ' st'=>⟨B,G0,G,ρ1,ds',ρ',E,st',d2,eq,k⟩⟩
   ·cases eq
  ·cases eq
noncomputable def tgT (n:Nat) (t:List Da->Rho->Option Rho):Da->Rho->Option Rho
 | .tup ds,ρ=>if ds.length=n then t ds ρ else none
 | _,_=>none
theorem zf {es:List Expr} {k n:Nat} {t:List Da->Rho->Option Rho} (hc:X.calm=true) (h:zm X es t) (hn:(assignEach es X.env).length=n:=by rfl) (hst:(assignEach es X.env).findIdx? (·.1)=none:=by rfl):PXG X (.Tuple es k pos) (tgT n t) :=
 PG.imp (xQ hc h hn hst) fun v σ H Q ⟨B,G0,G,ρ,d,ρ',E,st,dv,eq,kk⟩=>by
  unfold tgT at eq
  split at eq
  ·rename_i ds
   split at eq
   ·rename_i hl
    obtain ⟨a,xs,rfl,q,dl⟩:=dv
    exact ⟨a,xs,rfl,SqT.of (E.gh _ _ q),by rw [dl.length];exact hl,B,G0,G,ρ,ds,ρ',E,st,dl,eq,kk⟩
   ·cases eq
  ·cases eq
noncomputable def EJ (f:Rho->Option Rv) (t:Da->Rho->Option Rho):Rho->Res:=fun ρ=>match f ρ with
 | some r=>if cX r=true then (match t r.2 ρ with
   | some ρ'=>.nx ρ'
   | none=>.bad) else .bad
 | none=>.bad
end
noncomputable def vt (t:Da->Rho->Option Rho) (g:Rho->Res):List Da->Rho->Res
 | [],ρ=>.nx ρ
 | d::ds,ρ=>match t d ρ with
   | none=>.bad
   | some ρ1=>match g ρ1 with
     | .nx ρ2=>vt t g ds ρ2
     | .ct ρ2=>vt t g ds ρ2
     | .bk ρ2=>.nx ρ2
     | .rt d=>.rt d
     | .bad=>.bad
noncomputable def lf (f:Rho->Option (List Da)) (t:Da->Rho->Option Rho) (g:Rho->Res):Rho->Res:=fun ρ=>match f ρ with
 | some ds=>vt t g ds ρ
 | none=>.bad
theorem zj {X:Cx} {tg iter:Expr} {body:List Stmt} {f:Rho->Option (List Da)} {t:Da->Rho->Option Rho} {g:Rho->Res} {pos:Pos} (hp:PassesOwn (model X.prog X.w) X.A X.env X.xe) (hc:X.calm=true) (hi:PXI X tg iter f) (hg:PXG X tg t) (hb:rD X body g)
 (hs:∀ x,foldedSetIterable iter X.env x=pure x:=by intro _;rfl):PXS X (.For tg iter body [] pos) (lf f t g):=PS.imp (xk hp hc hi hg hb hs) fun D σ H ⟨B,G0,G,ρ,E,st,k⟩=>by
 unfold lf at k
 cases q:f ρ with
 | none=>rw [q] at k;exact k.elim
 | some ds =>
   rw [q] at k
   dsimp only at k
   refine ⟨B,G,ρ,ds,E.gh,E.hh,st,q,fun J G1 H1 E1 it=>?_⟩
   refine ⟨fun i m σ' H'=>m=ds.length-i/\i<=ds.length/\∃ G' ρ',Ext G0 B G' H'/\bY G1 G'/\fV X.K B G' H' σ' ρ'/\Ay X.K B G0 G D (vt t g (ds.drop i) ρ'),⟨ds.length,by simp,aU _,G1,ρ,E.trans E1,bY.refl _,st.ext E1,by rw [jx];exact k⟩,?_⟩
   rintro i m σ' H' ⟨rfl,hi',G',ρ',E',s1,st',k'⟩
   have s2:bY G G':=E1.gg.trans s1
   by_cases hlt:i<ds.length
   ·obtain ⟨d,hd⟩:∃ d,ds[i]?=some d:=⟨ds[i],by simp [hlt]⟩
    have hdrop:ds.drop i=d::ds.drop (i+1):=by
     rw [gE hlt]
     congr 1
     rw [ae hlt] at hd
     exact Option.some.inj hd
    rw [hdrop] at k'
    unfold vt at k'
    cases et:t d ρ' with
    | none=>rw [et] at k';exact k'.elim
    | some ρ1 =>
      rw [et] at k'
      dsimp only at k'
      obtain ⟨hgo,hy⟩:=(it i G' H' s1 E'.gh).1 d hd
      refine .inr ⟨hgo,fun σ3 H3=>i+1<=ds.length/\∃ G3 ρ3,Ext G0 B G3 H3/\bY G1 G3/\fV X.K B G3 H3 σ3 ρ3/\Ay X.K B G0 G D (vt t g (ds.drop (i+1)) ρ3),fun σ3 H3 z=>⟨ds.length-(i+1),by lia,rfl,z⟩,fun x H2 yl=>?_⟩
      obtain ⟨G2,E2,dx⟩:=hy x H2 yl
      refine ⟨B,G0,G2,ρ',d,ρ1,E'.trans E2,st'.ext E2,dx,et,fun σ2 st2=>⟨B,G0,G2,ρ1,E'.trans E2,st2,?_⟩⟩
      have s3:bY G1 G2:=s1.trans E2.gg
      have s4:bY G G2:=s2.trans E2.gg
      cases eg:g ρ1 with
      | nx ρ2=>rw [eg] at k';exact fun σ3 G3 H3 E3 t3 st3=>⟨hlt,G3,ρ2,E3,s3.trans t3,st3,k'⟩
      | ct ρ2=>rw [eg] at k';exact fun σ3 G3 H3 E3 t3 st3=>⟨hlt,G3,ρ2,E3,s3.trans t3,st3,k'⟩
      | bk ρ2=>rw [eg] at k';exact fun σ3 G3 H3 E3 t3 st3=>k' σ3 G3 H3 E3 (s4.trans t3) st3
      | rt d=>rw [eg] at k';exact fun σ3 G3 H3 E3 t3 st3=>k' σ3 G3 H3 E3 (s4.trans t3) st3
      | bad=>rw [eg] at k';exact k'
   ·have e:i=ds.length:=by lia
    subst e
    rw [CT] at k'
    exact .inl ⟨(it ds.length G' H' s1 E'.gh).2 rfl,k' σ' G' H' E' s2 st'⟩
noncomputable def cG (n:Nat) (ds:List Da):Rho:=ds.map Sl.pu++jv (n-ds.length) .no
noncomputable def iq (n:Nat) (g:Rho->Res) (ds:List Da):Option Da:=match g (cG n ds) with
 | .rt d=>some d
 | .nx _=>some .non
 | _=>none
theorem qe {K:PySem.W.Frag} {B G H:Hp} {N:List Str} {ds:List Da} {vs:List V} (tg:Tbs K G) (h:bT K G ds vs):fV K B G H (L2.start N vs) (cG N.length ds):=by
 have hl:=h.length
 refine ⟨?_,fun i d e=>?_,fun i d e=>?_,fun i j d d' l _ e=>?_,tg⟩
 ·unfold L2.start cG
  rw [aH,aH,af,af,iQ,iQ,hl]
 ·unfold cG at e
  by_cases hi:i<ds.length
  ·rw [cc (by simpa using hi),av] at e
   cases q:ds[i]? with
   | none=>rw [q] at e;cases e
   | some d' =>
     rw [q] at e
     cases e
     obtain ⟨v,hv,dv⟩:=h.get q
     refine ⟨v,?_,dv⟩
     unfold L2.start
     rw [cc (by rw [af,hl];exact hi),av,hv]
     rfl
  ·rw [cD (by simpa using hi),h9] at e
   split at e<;>cases e
 all_goals
  exfalso
  unfold cG at e
  by_cases hi:i<ds.length
  ·rw [cc (by simpa using hi),av] at e
   cases q:ds[i]? with
   | none=>rw [q] at e;cases e
   | some d'=>rw [q] at e;cases e
  ·rw [cD (by simpa using hi),h9] at e
   split at e<;>cases e
theorem xF {P:Program} {w:World} {K:PySem.W.Frag} {mg:Str->Option Value} {base:Heap} {x qual:Str} {st:Stmt} {f:Addr} {fd:FuncData} {N ps:List Str} {k n:Nat} {g:Rho->Res} (F:Fun K x qual st f fd) (S:cg N ps (az st)) (hn:ps.length=n)
 (hbody:∀ (cdv:Value) (A:Around) (outer:List Env) (s:Shared) (H:Hp) (E:XK),fQ k (A.deeper (envOfC qual (az st) s.heap.objs.size f cdv))->rD (g9 CX0 P w K mg base N qual (az st) f cdv A outer s H E).nox (br st) g) :
 pZ P w K mg base CX0 (k+1) f fd ps (spD K n (iq N.length g)):=by
 refine F.ok S (fun vs H Q E ⟨G,ds,d,hl,sg,_,dl,_⟩=>by rw [dl.length,hl,hn]) fun cdv A outer s H vs Q E hr ⟨G,ds,d,hl,sg,tg,dl,ef,k⟩=>?_
 refine ⟨_,hbody cdv A outer s H E hr,H,G,G,cG N.length ds,Ext.refl sg,qe tg dl,?_⟩
 unfold iq at ef
 split at ef
 ·rename_i d' q
  cases ef
  rw [q]
  exact fun v G' H' E' _ dv=>k v G' H' E' dv
 ·rename_i ρ q
  cases ef
  rw [q]
  exact fun σ G' H' E' _ _=>k .non G' H' E' rfl
 ·cases ef
end Ry
namespace Ry
open PySem PySem.Spec PyProof.Rows L2
noncomputable def ff (cells:List (Str×Addr)):List (Str×NameKind)->List (Str×Addr)->List (Str×Addr)
 | [],acc=>acc
 | (x,k)::r,acc=>if k == .free then ff cells r ((x,(cells.lookup x).getD 0)::acc) else ff cells r acc
theorem gN {env:Env} (f:Str×NameKind->List (Str×Addr)->Sem (ForInStep (List (Str×Addr))))
 (hf:∀ name kind cs,f (name,kind) cs=if kind == .free then (do let a <- cellOf env name;pure (.yield ((name,a)::cs))) else pure (.yield cs)) :
 ∀ (names:List (Str×NameKind)) (acc:List (Str×Addr)),(∀ y∈names,y.2=.free->∃ c,env.cells.lookup y.1=some c)->forIn names acc f=pure (ff env.cells names acc)
 | [],acc,_=>by rw [D8];rfl
 | (x,k)::r,acc,h=>by
   rw [List.forIn_cons,hf]
   unfold ff
   by_cases hk:(k == NameKind.free)=true
   ·obtain ⟨c,hc⟩:=h (x,k) ax (by simpa using hk)
    rw [if_pos hk,if_pos hk]
    have e:cellOf env x=pure c:=by unfold cellOf;rw [show env.cells.lookup x=some c from hc]
    rw [e]
    simp only [pure_bind]
    rw [show (env.cells.lookup x).getD 0=c by rw [show env.cells.lookup x=some c from hc];rfl]
    exact gN f hf r _ fun y hy=>h y (al _ hy)
   ·rw [if_neg hk,if_neg hk]
    simp only [pure_bind]
    exact gN f hf r _ fun y hy=>h y (al _ hy)
theorem rH {scope:Scope} {env:Env} (h:∀ y∈scope.names,y.2=.free->∃ c,env.cells.lookup y.1=some c):closureFor scope env=pure (ff env.cells scope.names []):=by
 show (forIn scope.names ([]:List (Str×Addr)) (fun x cs=>match x with
  | (name,kind)=>if (kind == NameKind.free)=true then (do let a <- cellOf env name;pure (ForInStep.yield ((name,a)::cs))) else pure (ForInStep.yield cs))>>=fun cs=>pure cs)=_
 rw [gN (env:=env) _ (fun _ _ _=>rfl) scope.names [] h]
 rfl
theorem i8 {cells:List (Str×Addr)}:∀ (names:List (Str×NameKind)) (acc:List (Str×Addr)) {x:Str} {c:Addr},(∀ y∈names,y.2=.free->∃ c,cells.lookup y.1=some c) ->
 (ff cells names acc).lookup x=some c->cells.lookup x=some c\/acc.lookup x=some c
 | [],_,_,_,_,h=>.inr h
 | (n,k)::r,acc,x,c,hc,h=>by
   unfold ff at h
   split at h
   ·rename_i hk
    rcases i8 r _ (fun y hy=>hc y (al _ hy)) h with q | q
    ·exact .inl q
    ·rw [bX] at q
     cases hb:x == n with
     | true =>
       rw [hb] at q
       have e:x=n:=beq_iff_eq.mp hb
       subst e
       obtain ⟨c',h'⟩:=hc (x,k) ax (by simpa using hk)
       have h':cells.lookup x=some c':=h'
       rw [h'] at q
       cases q
       exact .inl h'
     | false=>rw [hb] at q;exact .inr q
   ·exact i8 r _ (fun y hy=>hc y (al _ hy)) h
theorem iW {cells:List (Str×Addr)}:∀ (names:List (Str×NameKind)) (acc:List (Str×Addr)) {x:Str},(∀ y∈names,y.2=.free->∃ c,cells.lookup y.1=some c) ->
 ((x,NameKind.free)∈names\/acc.lookup x=cells.lookup x)->(ff cells names acc).lookup x=cells.lookup x
 | [],_,_,_,h=>by
   rcases h with h | h
   ·simp at h
   ·exact h
 | (n,k)::r,acc,x,hc,h=>by
   unfold ff
   have hr:∀ y∈r,y.2=.free->∃ c,cells.lookup y.1=some c:=fun y hy=>hc y (al _ hy)
   split
   ·rename_i hk
    refine iW r _ hr ?_
    by_cases hx:x=n
    ·subst hx
     obtain ⟨c',h'⟩:=hc (x,k) ax (by simpa using hk)
     have h':cells.lookup x=some c':=h'
     refine .inr ?_
     rw [bX,beq_self_eq_true,h']
     rfl
    ·rcases h with h | h
     ·rcases ah.mp h with e | e
      ·cases e;exact absurd rfl hx
      ·exact .inl e
     ·refine .inr ?_
      rw [bX,show (x == n)=false by simpa using hx]
      exact h
   ·rename_i hk
    refine iW r _ hr ?_
    rcases h with h | h
    ·rcases ah.mp h with e | e
     ·cases e;exact absurd (beq_self_eq_true _) hk
     ·exact .inl e
    ·exact .inr h
theorem dz:∀ (names:List (Str×NameKind)) (n:Nat) (acc:List (Str×Addr)),cellsFrom n names acc=cellsFrom n names []++acc
 | [],_,_=>rfl
 | (x,k)::r,n,acc=>by
   unfold cellsFrom
   split
   ·rw [dz r (n+1) ((x,n)::acc),dz r (n+1) [(x,n)],aX];rfl
   ·exact dz r n acc
noncomputable def i7 (X:Cx) (scope:Scope) (C:Addr):Env :=
 { scope:=relabel scope X.env,locals:=C,globals:=X.env.globals,cells:=cellsFrom (C+1) scope.names (ff X.env.cells scope.names []),qual:=X.env.qual,func:=none,code:=X.env.code,frame:=X.env.frame,builtins:=X.env.builtins }
noncomputable def inC (X:Cx) (scope:Scope) (s:Shared) (H:Hp) (fp:List Addr):Cx :=
 { X with N:=scope.names.map (·.1),s₀:=s,H₀:=H,env:=i7 X scope s.heap.objs.size,outer:=X.stack,stack:=X.stack,ex:=fp,fn:=fun x=>scope.names.lookup x == some .cell,pn:=[],xe:=fun _ _=>False }
noncomputable def oN (N:List Str):List (Str×NameKind)->List (Option Nat)->Bool
 | [],[]=>true
 | _::r,none::ix=>oN N r ix
 | (x,k)::r,some j::ix=>(k == .free)&&(N[j]? == some x)&&oN N r ix
 | _,_=>false
noncomputable def mpS (ix:List (Option Nat)) (σ:St):St:=ix.map fun o=>match o with
 | some j=>(σ[j]?).getD none
 | none=>none
theorem jV {N:List Str}:∀ {names:List (Str×NameKind)} {ix:List (Option Nat)},oN N names ix=true->ix.length=names.length
 | [],[],_=>rfl
 | [],_::_,h=>by cases h
 | _::_,[],h=>by cases h
 | _::r,none::ix,h=>by rw [aA,aA,jV (names:=r) (ix:=ix) h]
 | (x,k)::r,some j::ix,h=>by
   unfold oN at h
   rw [aD] at h
   rw [aA,aA,jV h.2]
theorem gK {N:List Str}:∀ {names:List (Str×NameKind)} {ix:List (Option Nat)} {i j:Nat},oN N names ix=true->ix[i]?=some (some j)->∃ x,names[i]?=some (x,.free)/\N[j]?=some x
 | [],[],_,_,_,e=>by simp at e
 | [],_::_,_,_,h,_=>by cases h
 | _::_,[],_,_,h,_=>by cases h
 | _::r,none::ix,0,_,_,e=>by simp at e
 | _::r,none::ix,i+1,j,h,e=>by simpa using gK (names:=r) (ix:=ix) (i:=i) h (by simpa using e)
 | (x,k)::r,some j'::ix,i,j,h,e=>by
   unfold oN at h
   rw [aD,aD] at h
   cases i with
   | zero =>
     simp at e
     subst e
     refine ⟨x,?_,by simpa using h.1.2⟩
     have:=h.1.1
     simp at this
     simp [this]
   | succ i=>simpa using gK (names:=r) (ix:=ix) (i:=i) h.2 (by simpa using e)
theorem e9 {α:Type}:∀ {l:List (Str×α)} {i:Nat} {x:Str} {a:α},(l.map (·.1)).Nodup->l[i]?=some (x,a)->l.lookup x=some a
 | [],_,_,_,_,e=>by simp at e
 | (y,b)::r,0,x,a,_,e=>by simp at e;rw [<- e.1,<- e.2];simp
 | (y,b)::r,i+1,x,a,nd,e=>by
   have e':r[i]?=some (x,a):=by simpa using e
   rw [aC] at nd
   obtain ⟨h1,h2⟩:=aV.mp nd
   have hm:(x,a)∈r:=aZ e'
   have ne:x≠y:=fun z=>h1 (by rw [<- z];exact bn.mpr ⟨_,hm,rfl⟩)
   rw [bX,show (x == y)=false by simpa using ne]
   exact e9 h2 e'
theorem hW {scope:Scope} {env:Env} {x:Str}:(relabel scope env).names.lookup x=(scope.names.lookup x).map fun k=>if (k == .free&&env.scope.kind == .function&&env.kindOf x == some .cell) then .cell else k:=by
 unfold relabel
 show List.lookup x (scope.names.map _)=_
 generalize scope.names=l
 induction l with
 | nil=>rfl
 | cons p r ih =>
   obtain ⟨n,k⟩:=p
   rw [aC]
   dsimp only
   by_cases hx:x=n
   ·subst hx
    by_cases hc:(k == NameKind.free&&env.scope.kind == .function&&env.kindOf x == some .cell)=true
    ·rw [if_pos hc]
     simp only [bX,beq_self_eq_true,Option.map_some]
     rw [if_pos hc]
    ·rw [if_neg hc]
     simp only [bX,beq_self_eq_true,Option.map_some]
     rw [if_neg hc]
   ·have hb:(x == n)=false:=by simpa using hx
    by_cases hc:(k == NameKind.free&&env.scope.kind == .function&&env.kindOf n == some .cell)=true
    ·rw [if_pos hc];simp only [bX,hb];exact ih
    ·rw [if_neg hc];simp only [bX,hb];exact ih
structure fS (X:Cx) (scope:Scope) (ix:List (Option Nat)):Prop where
 kind:scope.kind=.function
 nd:(scope.names.map (·.1)).Nodup
 free:∀ y∈scope.names,y.2=.free->X.env.kindOf y.1=some .cell\/X.env.kindOf y.1=some .free
 ix:oN X.N scope.names ix=true
section
variable {X:Cx} {pins:List (Addr×Obj)} {σ:St} {H:Hp} {s:Shared} {scope:Scope} {ix:List (Option Nat)} {fp:List Addr}
theorem fS.cells (S:fS X scope ix) (I:Inv X pins σ H s):∀ y∈scope.names,y.2=.free->∃ c,X.env.cells.lookup y.1=some c:=fun y hy hf=>I.ok.has y.1 (S.free y hy hf)
theorem fS.names (S:fS X scope ix) {x:Str} {k:NameKind}:(x,k)∈scope.names->scope.names.lookup x=some k:=fun hm=>by
 obtain ⟨i,hi⟩:=List.mem_iff_getElem?.mp hm
 exact e9 S.nd hi
theorem qQ {M:Model} {A:Around} {E:Value->Shared->Prop} {Q:Env->Shared->Prop} (S:fS X scope ix) (I:Inv X pins σ H s) (hfp:∀ b∈fp,rS X pins H b/\b<s.heap.objs.size)
 (h:∀ env h',{ env with scope:=relabel scope X.env }=i7 X scope s.heap.objs.size->env.locals=s.heap.objs.size->Inv (inC X scope s H fp) [] (mpS ix σ) H { s with heap:=h' }->(∀ b o,s.heap.get? b=some o->h'.get? b=some o)->Q env { s with heap:=h' }) :
 wpAny M A (newFunctionEnv scope X.env.globals (ff X.env.cells scope.names []) [] X.env.qual none .none (some X.env)) Q E s:=by
 simp only [newFunctionEnv,Option.isSome_some,if_true]
 refine wpAny_bind (wpAny_alloc ?_)
 refine wpAny_bind (wpAny_layCells _ (fun name kind cells=>by cases hkc:kind == NameKind.cell<;>simp [hkc]) _ _ _ _ ?_)
 rw [show ({ s with heap:=s.heap.push { cls:=.type "dict",data:=.dict #[] } }:Shared).heap.objs.size=s.heap.objs.size+1 from cI ..]
 refine wpAny_bind ?_
 rw [D8]
 refine wpAny_pure (wpAny_pure ?_)
 have ok:=cellsFrom_ok scope.names (s.heap.push { cls:=.type "dict",data:=.dict #[] }) (s.heap.objs.size+1) [] ⟨fun _ _ hm=>(nomatch hm),List.Pairwise.nil⟩ (by rw [cI];exact ag _)
 rw [cI] at ok
 have keep:∀ b o,s.heap.get? b=some o->(pushCells (s.heap.push { cls:=.type "dict",data:=.dict #[] }) scope.names).get? b=some o:=fun b o e=>pushCells_keeps _ _ b o (aa _ e)
 have cl:=S.cells I
 have look:∀ x c,(cellsFrom (s.heap.objs.size+1) scope.names (ff X.env.cells scope.names [])).lookup x=some c ->
  ((cellsFrom (s.heap.objs.size+1) scope.names []).lookup x=some c/\s.heap.objs.size+1<=c/\(pushCells (s.heap.push { cls:=.type "dict",data:=.dict #[] }) scope.names).IsCell c none)\/(X.env.cells.lookup x=some c/\c<s.heap.objs.size):=fun x c e=>by
  rw [dz,kq] at e
  cases q:(cellsFrom (s.heap.objs.size+1) scope.names []).lookup x with
  | some c' =>
    rw [q] at e
    cases e
    obtain ⟨e1,e2⟩:=ok.empty x c (mem_of_lookup q)
    exact .inl ⟨rfl,e2,e1⟩
  | none =>
    rw [q] at e
    rcases i8 _ _ cl (show (ff X.env.cells scope.names []).lookup x=some c from e) with z | z
    ·obtain ⟨v,hv⟩:=I.cell x c z
     exact .inr ⟨z,hv.lt⟩
    ·simp at z
 have ownNone:∀ x,scope.names.lookup x=some .free->(cellsFrom (s.heap.objs.size+1) scope.names []).lookup x=none:=fun x hx=>by
  cases q:(cellsFrom (s.heap.objs.size+1) scope.names []).lookup x with
  | none=>rfl
  | some c =>
    exfalso
    have:∀ (names:List (Str×NameKind)) (n:Nat) (acc:List (Str×Addr)),(cellsFrom n names acc).lookup x=some c->(x,NameKind.cell)∈names\/acc.lookup x=some c:=by
     intro names
     induction names with
     | nil=>intro n acc h;exact .inr h
     | cons p r ih =>
       intro n acc h
       obtain ⟨y,k⟩:=p
       unfold cellsFrom at h
       split at h
       ·rename_i hk
        rcases ih _ _ h with z | z
        ·exact .inl (al _ z)
        ·rw [bX] at z
         cases hb:x == y with
         | true =>
           have e:x=y:=beq_iff_eq.mp hb
           subst e
           have hk':k=.cell:=by simpa using hk
           subst hk'
           exact .inl ax
         | false=>rw [hb] at z;exact .inr z
       ·rcases ih _ _ h with z | z
        ·exact .inl (al _ z)
        ·exact .inr z
    rcases this _ _ _ q with z | z
    ·rw [S.names z] at hx;cases hx
    ·simp at z
 have freeLook:∀ x,scope.names.lookup x=some .free->(cellsFrom (s.heap.objs.size+1) scope.names (ff X.env.cells scope.names [])).lookup x=X.env.cells.lookup x:=fun x hx=>by
  rw [dz,kq,ownNone x hx,iW _ _ cl (.inl (mem_of_lookup hx))]
  rfl
 refine h _ _ rfl rfl ⟨⟨I.ok.mod,?_,I.ok.glob,I.ok.blt,ag _,fun x y c h1 h2=>?_,fun x hx=>?_,fun x c hf h1=>?_,I.ok.hd,I.ok.frames,.inl rfl,fun b hb=>⟨?_,fun x c h1 z=>?_⟩,I.bs,bR I.ok.bsz I.sz,fun b o e hb=>?_,fun b hb hb2=>?_,I.stack,I.stkFree⟩,
  rfl,I.bare,Un.kept keep,⟨fun _=>none,(Heap.Ns.new s.heap (.type "dict")).keeps (pushCells_keeps _ _),fun i x v e1 e2 e3=>?_⟩,fun x c h1=>?_,I.hok.fresh (ag _),fun x c h1=>?_,fun p hp=>absurd (show p∈([]:List (Addr×Obj)) from hp) (by simp),I.hok.kept keep,?_⟩ keep
 ·exact S.kind
 ·rcases look x c h1 with ⟨a1,a2,_⟩ | ⟨a1,a2⟩<;>rcases look y c h2 with ⟨b1,b2,_⟩ | ⟨b1,b2⟩
  ·exact name_of_addr ok.apart (mem_of_lookup a1) (mem_of_lookup b1)
  ·exact absurd (aM b2 (fz a2)) (bz _)
  ·exact absurd (aM a2 (fz b2)) (bz _)
  ·exact I.ok.inj x y c a1 b1
 ·
  have hx':scope.names.lookup x=some .cell\/scope.names.lookup x=some .free:=by
   have e:(i7 X scope s.heap.objs.size).kindOf x=(relabel scope X.env).names.lookup x:=rfl
   have hx:(relabel scope X.env).names.lookup x=some .cell\/(relabel scope X.env).names.lookup x=some .free:=hx
   rw [hW] at hx
   cases q:scope.names.lookup x with
   | none=>rw [q] at hx;rcases hx with z | z<;>cases z
   | some k =>
     rw [q] at hx
     simp only [Option.map_some] at hx
     by_cases hc:(k == NameKind.free&&X.env.scope.kind == .function&&X.env.kindOf x == some .cell)=true
     ·have:k=.free:=by
       rw [aD,aD] at hc
       simpa using hc.1.1
      exact .inr (by rw [this])
     ·rw [if_neg hc] at hx
      rcases hx with z | z
      ·cases z;exact .inl rfl
      ·cases z;exact .inr rfl
  rcases hx' with hx | hx
  ·have q:=PySem.W.cellsFrom_some scope.names (s.heap.objs.size+1) (ff X.env.cells scope.names []) (.inl hx)
   exact Option.isSome_iff_exists.mp q
  ·obtain ⟨c,hc⟩:=cl _ (mem_of_lookup hx) rfl
   exact ⟨c,(freeLook x hx).trans hc⟩
 ·rcases look x c h1 with ⟨_,a2,_⟩ | ⟨a1,a2⟩
  ·exact fz a2
  ·
   exfalso
   have hf':scope.names.lookup x=some .cell:=by simpa using (show (scope.names.lookup x == some .cell)=true from hf)
   have q:=PySem.W.cellsFrom_some scope.names (s.heap.objs.size+1) ([]:List (Str×Addr)) (.inl hf')
   obtain ⟨c',hc'⟩:=Option.isSome_iff_exists.mp q
   have h1':(cellsFrom (s.heap.objs.size+1) scope.names (ff X.env.cells scope.names [])).lookup x=some c:=h1
   rw [dz,kq,hc'] at h1'
   cases h1'
   have:=(ok.empty x c (mem_of_lookup hc')).2
   exact absurd (aM a2 (fz this)) (bz _)
 ·exact aL (hfp b hb).2
 ·have:=(hfp b hb).2
  rcases look x c h1 with ⟨_,a2,_⟩ | ⟨a1,a2⟩
  ·subst z
   exact absurd (aM this (fz a2)) (bz _)
  ·exact (hfp b hb).1.2.2.2.2.1 x c a1 z
 ·rcases (hfp b hb).1.2.2.2.1 with z | z
  ·exact I.ok.noex b o e z
  ·have:=aw e
   have h2:=I.ok.bsz
   exact absurd (aM this (bR h2 z)) (bz _)
 ·rcases ah.mp (I.stkSub b hb2) with z | z
  ·exact (hfp b hb).1.2.1 z
  ·exact (hfp b hb).1.2.2.1 z
 ·
  unfold mpS at e2
  rw [av] at e2
  cases q:ix[i]? with
  | none=>rw [q] at e2;cases e2
  | some o =>
    rw [q] at e2
    cases o with
    | none=>cases e2
    | some j =>
      obtain ⟨x',hx1,hx2⟩:=gK S.ix q
      have ex:x=x':=by
       have e1':(scope.names.map (·.1))[i]?=some x:=e1
       rw [av,hx1] at e1'
       cases e1';rfl
      subst ex
      have hs:σ[j]?=some (some v):=by
       have e2':(σ[j]?).getD none=some v:=by simpa using e2
       cases q2:σ[j]? with
       | none=>rw [q2] at e2';cases e2'
       | some z=>rw [q2] at e2';exact congrArg some e2'
      have hl:=e9 S.nd hx1
      have hk:=S.free _ (aZ hx1) rfl
      obtain ⟨m,_,hm⟩:=I.loc
      have hvis:Vis X.env.scope x:=by
       rcases hk with z | z
       ·exact .inr (.inl z)
       ·exact .inr (.inr z)
      obtain ⟨u,ru,lk⟩:=hm j x v hx2 hs hvis
      refine ⟨u,ru,.inr ⟨?_,?_⟩⟩
      ·show (relabel scope X.env).names.lookup x=some .cell\/(relabel scope X.env).names.lookup x=some .free
       rw [hW,hl]
       simp only [Option.map_some]
       split
       ·exact .inl rfl
       ·exact .inr rfl
      ·rcases lk with ⟨z,_⟩ | ⟨_,c,hc,hcell⟩
       ·exfalso
        have hk':X.env.kindOf x=some .cell\/X.env.kindOf x=some .free:=hk
        rw [z] at hk'
        rcases hk' with y | y<;>cases y
       ·exact ⟨c,(freeLook x hl).trans hc,hcell.keeps keep⟩
 ·rcases look x c h1 with ⟨_,_,a3⟩ | ⟨a1,_⟩
  ·exact ⟨none,a3⟩
  ·obtain ⟨v,hv⟩:=I.cell x c a1
   exact ⟨v,hv.keeps keep⟩
 ·rcases look x c h1 with ⟨_,a2,_⟩ | ⟨a1,_⟩
  ·exact I.hok.fresh (by lia)
  ·exact I.freeC x c a1
 ·show (mpS ix σ).length=(scope.names.map (·.1)).length
  unfold mpS
  rw [af,af,jV S.ix]
end
end Ry
namespace Ry
open PySem PySem.Spec PyProof.Rows L2
noncomputable def PTS (X:Cx) (ifs:List Expr) (t:TT):Prop :=
 ∀ (pins:List (Addr×Obj)) (s:Shared) (σ:St) (H:Hp) (Q:Bool->Hp->Prop),Inv X pins σ H s->t σ H Q ->
   wpAny (model X.prog X.w) X.A (forIn ifs true fun c r=>if r=true then do let ok <- isTrue c X.env (eval c X.env);pure (ForInStep.yield ok) else pure (ForInStep.yield r)) (TP X pins σ Q) X.xe s
theorem rY {X:Cx}:PTS X [] (fun _ H Q=>Q true H):=fun _ _ _ H _ I h=>wpAny_tests_nil ⟨H,I,h⟩
theorem yj {X:Cx} {c:Expr} {t:TT} (h:PT X c t):PTS X [c] t:=fun pins s σ H Q I q=>wpAny_tests_one (h pins s σ H Q I q)
noncomputable def sj (mp:St->St) (wi:TI) (g:TG) (tt:TT) (te:TE):TE:=fun σ H Q=>wi σ H fun J H1=>∀ p,H1 p=none->∃ W:Nat->Nat->St->List V->Hp->Prop,(∃ m,W 0 m (mp σ) [] (upd H1 p (.lst []))) /\
 ∀ i m σ2 ys H2,W i m σ2 ys H2->H2 p=some (.lst ys)/\ys.length<sizeLine/\((J.stop i H2/\Q (.ref p) H2)\/(J.go i H2/\∀ x H3,J.yld i H2 x H3->g x σ2 H3 fun σ4 H4=>tt σ4 H4 fun b H5 =>
   if b=true then te σ4 H5 fun y H6=>H6 p=some (.lst ys)/\∃ m',m'<m/\W (i+1) m' σ4 (ys++[y]) (upd H6 p (.lst (ys++[y]))) else ∃ m',m'<m/\W (i+1) m' σ4 ys H5))
structure AZ (X:Cx) (scope:Scope) (tg elt:Expr) (ifs:List Expr) (g:TG) (tt:TT) (te:TE):Prop where
 tg:∀ s H fp,PG (inC X scope s H fp) tg g
 ifs:∀ s H fp,PTS (inC X scope s H fp) ifs tt
 elt:∀ s H fp,PE (inC X scope s H fp) elt te
section
variable {X:Cx} {elt tg iter:Expr} {ifs:List Expr} {scope:Scope} {pos:Pos} {ix:List (Option Nat)} {wi:TI} {g:TG} {tt:TT} {te:TE}
theorem tR {pins:List (Addr×Obj)} {σ σ1:St} {H3 H':Hp} {s3 s1:Shared} {fp:List Addr} {pl:List (Addr×Obj)} (I3:Inv X pins σ H3 s3) (f3:∀ b∈fp,rS X pins H3 b) (I1:Inv (inC X scope s3 H3 fp) pl σ1 H' s1):Inv X pins σ H' s1 :=
 I3.call' (ch:=fp) I1.os I1.base I1.hok I1.bare fun b hb=>let ⟨_,a,_,c,d,e⟩:=f3 b hb;⟨c,a,d,e⟩
theorem sZ {pins:List (Addr×Obj)} {σ σ1:St} {H3 H':Hp} {s3 s1:Shared} {fp:List Addr} {pl:List (Addr×Obj)} {h':Heap} (I3:Inv X pins σ H3 s3) (f3:∀ b∈fp,rS X pins H3 b) (I1:Inv (inC X scope s3 H3 fp) pl σ1 H' s1)
 {s2:Shared} {σ2:St} (J:Inv X pins σ2 H' s2) (hs:Heap.SameBut s3.heap.objs.size s2.heap h'):Inv X pins σ2 H' { s2 with heap:=h' }:=by
 refine J.turned (t':=s2.toks) (it:=s3.heap.objs.size) (fun b o hb e=>(hs.2 b hb).trans e) I1.free (mS I3.lt) (.inr I3.sz) (fun x c e z=>?_) fun p hp z=>?_
 ·obtain ⟨v,hv⟩:=I3.cell x c e
  exact absurd hv.lt (by rw [z];exact bz _)
 ·have:=aw (I3.pin p hp).1
  rw [z] at this
  exact absurd this (bz _)
theorem vm {R:Result->Shared->Prop} {pins:List (Addr×Obj)} {σ:St} {H3:Hp} {s3 s4:Shared} {fp:List Addr} {it p:Addr} {tn:Nat->Heap->Prop} {J:It} {Q:VK} (hc:X.calm=true) (I3:Inv X pins σ H3 s3) (f3:∀ b∈fp,rS X pins H3 b) (T:AC X.prog X.w X.K tg J fp it tn)
 (B:AZ X scope tg elt ifs g tt te) (W:Nat->Nat->St->List V->Hp->Prop)
 (turn:∀ i m σ2 ys H2,W i m σ2 ys H2->H2 p=some (.lst ys)/\ys.length<sizeLine/\((J.stop i H2/\Q (.ref p) H2)\/(J.go i H2/\∀ x H3,J.yld i H2 x H3->g x σ2 H3 fun σ4 H4=>tt σ4 H4 fun b H5 =>
   if b=true then te σ4 H5 fun y H6=>H6 p=some (.lst ys)/\∃ m',m'<m/\W (i+1) m' σ4 (ys++[y]) (upd H6 p (.lst (ys++[y]))) else ∃ m',m'<m/\W (i+1) m' σ4 ys H5)))
 (fin:∀ σ1 H1 s1,Inv (inC X scope s3 H3 fp) [] σ1 H1 s1->Q (.ref p) H1->R (.ok .next) s1)
 (m:Nat) (σ4:St) (I4:Inv (inC X scope s3 H3 fp) [] σ4 H3 s4) (st4:tn 0 s4.heap) (w0:W 0 m σ4 [] H3) :
 codeAny (model X.prog X.w) X.A (.compLoop (.ListComp elt [⟨tg,iter,ifs,0⟩] scope pos) 0 (.ref it) (.ref p) (i7 X scope s3.heap.objs.size)) R s4:=by
 have stat:∀ {H':Hp},(∀ b∈fp,H' b=none)->∀ b∈fp,rS (inC X scope s3 H3 fp) [] H' b:=fun {H'} hn b hb=>by
  obtain ⟨a0,a1,a2,a3,a4,a5⟩:=f3 b hb
  have I4':=I4.ok.exf b hb
  refine ⟨hn b hb,I4'.1,fun z=>?_,.inl hb,I4'.2,fun q hq=>absurd (show q∈([]:List (Addr×Obj)) from hq) (by simp)⟩
  exact I4.ok.exfs b hb z
 refine codeAny_loop rfl (fun n s'=>∃ i σ' ys H',Inv (inC X scope s3 H3 fp) [] σ' H' s'/\tn i s'.heap/\(∀ b∈fp,H' b=none)/\W i n σ' ys H') ?_ m ⟨0,σ4,[],H3,I4,st4,fun b hb=>(f3 b hb).1,w0⟩
 rintro n s5 ⟨i,σ5,ys,H5,I5,st5,fr5,w5⟩
 show wpAny _ X.A ((compTurn (.ListComp elt [⟨tg,iter,ifs,0⟩] scope pos) 0 (.ref it) (.ref p) (i7 X scope s3.heap.objs.size)).onRaise (fun x=>do noteFrame x (i7 X scope s3.heap.objs.size);theTreesLotGoes x)) _ _ s5
 refine wpAny_noted ?_
 rw [compTurn_list]
 obtain ⟨hp,hz,alt⟩:=turn i n σ5 ys H5 w5
 rcases alt with ⟨stop,qn⟩ | ⟨go,step⟩
 ·refine wpAny_bind (wpAny_standAt (wpAny_bind (thn (T.done (inC X scope s3 H3 fp) rfl rfl rfl hc i [] s5 σ5 H5 _ I5 (stat fr5) st5 stop) fun r s6 ⟨hr,I6⟩=>?_)))
  subst hr
  exact wpAny_pure (fin σ5 H5 s6 I6 qn)
 ·refine wpAny_bind (wpAny_standAt (wpAny_bind (thn (T.item (inC X scope s3 H3 fp) rfl rfl rfl hc i [] s5 σ5 H5 _ I5 (stat fr5) st5 go) fun r s6 ⟨u,hr,h6⟩=>?_)))
  subst hr
  refine wpAny_bind (thn h6 fun _ s7 ⟨x,H7,I7,r7,y7,st7,fr7⟩=>?_)
  have I7':=I7.pinned (stat fr7) (T.obj _ _ st7)
  have nox:∀ {α:Type} {t:Sem α} {P:α->Shared->Prop} {E':Value->Shared->Prop} {s':Shared},wpAny (model X.prog X.w) X.A t P (fun _ _=>False) s'->wpAny (model X.prog X.w) X.A t P E' s':=fun h=>wpAny_mono h (fun _ _ z=>z) fun _ _ z=>z.elim
  refine wpAny_bind (thn (nox (B.tg s3 H3 fp _ s7 σ5 H7 x u _ I7' r7 (step x H7 y7))) fun _ s8 ⟨σ8,H8,I8,q8⟩=>?_)
  refine wpAny_bind (thn (nox (B.ifs s3 H3 fp _ s8 σ8 H8 _ I8 q8)) fun ok s9 ⟨H9,I9,q9⟩=>?_)
  have again:∀ {σ7:St} {H7':Hp} {s':Shared} {zs:List V},Inv (inC X scope s3 H3 fp) ([]++oJ fp s7.heap) σ7 H7' s'->(∃ m',m'<n/\W (i+1) m' σ7 zs H7')->∃ m',m'<n/\∃ i σ' ys H',Inv (inC X scope s3 H3 fp) [] σ' H' s'/\tn i s'.heap/\(∀ b∈fp,H' b=none)/\W i m' σ' ys H':=fun {σ7 H7' s' zs} J w=>by
   obtain ⟨m',hm,w⟩:=w
   refine ⟨m',hm,i+1,σ7,zs,H7',J.unpinned,T.keep _ _ _ st7 fun b hb o e=>(J.pin (b,o) (bE _ (bE _ (gU hb e)))).1,fun b hb=>?_,w⟩
   obtain ⟨o,e,d⟩:=T.obj _ _ st7 b hb
   exact (J.pin (b,o) (bE _ (bE _ (gU hb e)))).2.1
  cases ok with
  | false =>
    rw [if_neg am] at q9
    exact wpAny_pure ⟨rfl,again I9 q9⟩
  | true =>
    rw [if_pos rfl] at q9
    refine wpAny_bind (wpAny_bind (thn (nox (B.elt s3 H3 fp _ s9 σ8 H9 _ I9 q9)) fun uy s10 ⟨y,H10,I10,ry,hp10,q10⟩=>?_))
    refine wpAny_bind (thn (nox (nI (X:=inC X scope s3 H3 fp) _ s10 σ8 H10 (.ref p) [y] (.ref p) [uy] (fun _ H'=>H'=upd H10 p (.lst (ys++[y]))) I10 rfl (.cons ry .nil) ⟨p,ys,y,rfl,rfl,hp10,hz,rfl⟩)) fun _ s11 ⟨_,H11,I11,_,e11⟩=>?_)
    subst e11
    exact wpAny_pure (wpAny_pure ⟨rfl,again I11 q10⟩)
theorem uz (hc:X.calm=true) (S:fS X scope ix) (hi:PI X tg iter wi) (B:AZ X scope tg elt ifs g tt te) (hs:∀ x,foldedSetIterable iter X.env x=pure x:=by intro _;rfl):PE X (.ListComp elt [⟨tg,iter,ifs,0⟩] scope pos) (sj (mpS ix) wi g tt te):=by
 intro pins s σ H Q I h
 rw [eval_ListComp]
 refine wpAny_comprehension_free (use:=none) rfl hs (rH (S.cells I)) S.kind (fun y hy hl=>S.names (by rw [<- hl];exact hy)) ?_
 refine thn (hi pins s σ H _ I h) fun v s1 h1=>thn h1 fun itv s2 h2=>?_
 obtain ⟨it,fp,tn,J,H2,rfl,I2,T,st2,f2,hq⟩:=h2
 obtain ⟨W,⟨m0,w0⟩,turn⟩:=hq s2.heap.objs.size I2.fresh
 refine wpAny_newObj_type ?_
 have I3:Inv X pins σ (upd H2 s2.heap.objs.size (.lst [])) { s2 with heap:=s2.heap.push { cls:=.type "list",data:=.seq ([]:List Value).toArray } }:=I2.lnew (its:=[]) (t':=s2.toks) .nil (aU _)
 have lt2:∀ b∈fp,b<s2.heap.objs.size:=fun b hb=>by obtain ⟨o,e,_⟩:=T.obj _ _ st2 b hb;exact aw e
 have f3:∀ b∈fp,rS X pins (upd H2 s2.heap.objs.size (.lst [])) b:=fun b hb=>⟨by rw [bf (aL (lt2 b hb))];exact (f2 b hb).1,(f2 b hb).2⟩
 refine qQ S I3 (fp:=fp) (fun b hb=>⟨f3 b hb,?_⟩) fun env h4 ee el I4 keep4=>?_
 ·show b<(s2.heap.push _).objs.size
  rw [cI]
  exact cW (lt2 b hb)
 rw [ee,el]
 have st4:tn 0 h4:=T.keep _ _ _ st2 fun b hb o e=>keep4 b o (aa _ e)
 have fin:∀ σ1 H1 s1,Inv (inC X scope { s2 with heap:=s2.heap.push { cls:=.type "list",data:=.seq ([]:List Value).toArray } } (upd H2 s2.heap.objs.size (.lst [])) fp) [] σ1 H1 s1->Q (.ref s2.heap.objs.size) H1 ->
  compPost (model X.prog X.w) X.A X.xe none (EP X pins σ Q) (.ref s2.heap.objs.size) ((s2.heap.push { cls:=.type "list",data:=.seq ([]:List Value).toArray }).objs.size) (.ok .next) s1:=fun σ1 H1 s1 I1 q1=>by
  obtain ⟨m,hn,_⟩:=I1.loc
  exact ⟨m,hn,fun h' hs'=>⟨.ref s2.heap.objs.size,H1,sZ I3 f3 I1 (tR I3 f3 I1) hs',rfl,q1⟩⟩
 have loop:=vm (iter:=iter) (pos:=pos) (R:=compPost (model X.prog X.w) X.A X.xe none (EP X pins σ Q) (.ref s2.heap.objs.size) ((s2.heap.push { cls:=.type "list",data:=.seq ([]:List Value).toArray }).objs.size)) hc I3 f3 T B W turn fin m0 (mpS ix σ) I4 st4 w0
 exact codeAny_compStart_list loop (T.self X.A 0 _ _ _ st4 loop)
end
end Ry
namespace Ry
open PySem PySem.Spec PyProof.Rows L2
noncomputable def mpR (ix:List (Option Nat)) (ρ:Rho):Rho:=ix.map fun o=>match o with
 | some j=>(ρ[j]?).getD .no
 | none=>.no
theorem A5 {X:Cx} {scope:Scope} {ix:List (Option Nat)} (S:fS X scope ix) {i k j:Nat} (h1:ix[i]?=some (some j)) (h2:ix[k]?=some (some j)):i=k:=by
 obtain ⟨x,a1,a2⟩:=gK S.ix h1
 obtain ⟨y,b1,b2⟩:=gK S.ix h2
 rw [a2] at b2
 cases b2
 have c1:(scope.names.map (·.1))[i]?=some x:=by rw [av,a1];rfl
 have c2:(scope.names.map (·.1))[k]?=some x:=by rw [av,b1];rfl
 exact jC S.nd c1 c2
theorem jK {ix:List (Option Nat)} {ρ:Rho} {i:Nat} {x:Sl} (h:(mpR ix ρ)[i]?=some x) (hx:x≠.no):∃ j,ix[i]?=some (some j)/\ρ[j]?=some x:=by
 unfold mpR at h
 rw [av] at h
 cases q:ix[i]? with
 | none=>rw [q] at h;cases h
 | some o =>
   rw [q] at h
   cases o with
   | none=>cases h;exact absurd rfl hx
   | some j =>
     have h':(ρ[j]?).getD .no=x:=by simpa using h
     cases z:ρ[j]? with
     | none=>rw [z] at h';exact absurd h'.symm hx
     | some y=>rw [z] at h';exact ⟨j,rfl,z.trans (congrArg some h')⟩
theorem o7 {ix:List (Option Nat)} {σ:St} {i j:Nat} {v:V} (h:ix[i]?=some (some j)) (hs:σ[j]?=some (some v)):(mpS ix σ)[i]?=some (some v):=by
 unfold mpS
 rw [av,h]
 simp [hs]
theorem qC {ix:List (Option Nat)} {σ:St} {i j:Nat} {v:V} (h:ix[i]?=some (some j)) (hs:(mpS ix σ)[i]?=some (some v)):σ[j]?=some (some v):=by
 unfold mpS at hs
 rw [av,h] at hs
 have h':(σ[j]?).getD none=some v:=by simpa using hs
 cases z:σ[j]? with
 | none=>rw [z] at h';cases h'
 | some y=>rw [z] at h';exact congrArg some h'
theorem fV.mp {X:Cx} {scope:Scope} {ix:List (Option Nat)} {K:PySem.W.Frag} {B G H:Hp} {σ:St} {ρ:Rho} (S:fS X scope ix) (h:fV K B G H σ ρ):fV K B G H (mpS ix σ) (mpR ix ρ):=by
 refine ⟨by unfold mpS mpR;rw [af,af],fun i d e=>?_,fun i d e=>?_,fun i k d d' l hik e1 e2 s1 s2=>?_,h.tg⟩
 ·obtain ⟨j,hj,hr⟩:=jK e (by intro z;cases z)
  obtain ⟨v,hv,dv⟩:=h.pu j d hr
  exact ⟨v,o7 hj hv,dv⟩
 ·obtain ⟨j,hj,hr⟩:=jK e (by intro z;cases z)
  obtain ⟨l,o,hv,r⟩:=h.ow j d hr
  exact ⟨l,o,o7 hj hv,r⟩
 ·obtain ⟨j,hj,hr⟩:=jK e1 (by intro z;cases z)
  obtain ⟨j',hj',hr'⟩:=jK e2 (by intro z;cases z)
  refine h.ap j j' d d' l (fun z=>?_) hr hr' (qC hj s1) (qC hj' s2)
  subst z
  exact hik (A5 S hj hj')
theorem fV.other {K:PySem.W.Frag} {B G H:Hp} {σ:St} {ρ:Rho} {p:Addr} {o o':HO} (h:fV K (upd B p o) G H σ ρ):fV K (upd B p o') G (upd H p o') σ ρ:=by
 refine ⟨h.len,h.pu,fun i d e=>?_,h.ap,h.tg⟩
 obtain ⟨l,ob,a,nb,ng,hl,r⟩:=h.ow i d e
 have ne:l≠p:=fun z=>by subst z;rw [aS] at nb;cases nb
 exact ⟨l,ob,a,by rw [bf ne] at nb ⊢;exact nb,ng,by rw [bf ne];exact hl,r⟩
noncomputable def kz (t:Da->Rho->Option Rho) (c:Rho->Option Bool) (f:Rho->Option Rv):List Da->Rho->Option (List Da)
 | [],_=>some []
 | d::ds,ρ=>match t d ρ with
   | none=>none
   | some ρ1=>match c ρ1 with
     | none=>none
     | some false=>kz t c f ds ρ1
     | some true=>match f ρ1 with
       | none=>none
       | some r=>if cX r=true then (match kz t c f ds ρ1 with
         | none=>none
         | some es=>some (r.2::es)) else none
noncomputable def dE (ix:List (Option Nat)) (fi:Rho->Option (List Da)) (t:Da->Rho->Option Rho) (c:Rho->Option Bool) (f:Rho->Option Rv):Rho->Option Rv:=fun ρ=>match fi ρ with
 | none=>none
 | some ds=>if ds.length<=1000000 then (match kz t c f ds (mpR ix ρ) with
   | none=>none
   | some es=>some (.fr,.lst es)) else none
theorem zM {X:Cx} {scope:Scope} {ix:List (Option Nat)} {fi:Rho->Option (List Da)} {t:Da->Rho->Option Rho} {c:Rho->Option Bool} {f:Rho->Option Rv} (S:fS X scope ix) {σ:St} {H:Hp} {Q:VK} (q:tX X.K (dE ix fi t c f) σ H Q) :
 sj (mpS ix) (iX X.K fi) (gX X.K t) (tXT X.K c) (tX X.K f) σ H Q:=by
 obtain ⟨B,G,ρ,r,sg,sb,st,e,k⟩:=q
 unfold dE at e
 split at e
 ·cases e
 ·rename_i ds efi
  split at e
  case isFalse=>cases e
  case isTrue hz =>
  split at e
  ·cases e
  ·rename_i es ees
   cases e
   have hsz:sizeLine=16777216:=sizeLine_eq
   refine ⟨B,G,ρ,ds,sg,sb,st,efi,fun J G1 H1 E1 it p hp=>?_⟩
   have hp0:H p=none:=E1.hh.free hp
   refine ⟨fun i m σ2 ys H2=>m=ds.length-i/\i<=ds.length/\∃ G2 ρ2 done rest,Ext G H G2 H2/\bY G1 G2/\G2 p=none/\H2 p=some (.lst ys)/\bT X.K G2 done ys/\done.length<=i/\kz t c f (ds.drop i) ρ2=some rest/\done++rest=es/\fV X.K (upd B p (.lst ys)) G2 H2 σ2 ρ2,
    ⟨ds.length,by simp,aU _,G1,mpR ix ρ,[],es,E1.trans (Ext.own E1.gh hp),bY.refl _,E1.gh.free hp,aS,rfl,aU _,by rw [jx];exact ees,rfl,?_⟩,?_⟩
   ·have st1:=((st.ext E1).ext (Ext.own (o:=.lst []) E1.gh hp)).mp S
    refine ⟨st1.len,st1.pu,fun i d q=>?_,st1.ap,st1.tg⟩
    obtain ⟨l,o,a,nb,ng,hl,r⟩:=st1.ow i d q
    have ne:l≠p:=fun z=>by
     subst z
     obtain ⟨j,hj,hr⟩:=jK q (by intro z;cases z)
     obtain ⟨l',o',a',_,_,hl',_⟩:=(st.ext E1).ow j d hr
     have:=o7 hj a'
     rw [a] at this
     cases this
     rw [hp] at hl';cases hl'
    exact ⟨l,o,a,by rw [bf ne];exact nb,ng,hl,r⟩
   ·rintro i m σ2 ys H2 ⟨rfl,hi,G2,ρ2,done,rest,E2,s12,gp,hp2,dl,hdl,ecl,eapp,st2⟩
    have hln:=dl.length
    refine ⟨hp2,by lia,?_⟩
    have sB2:bY (upd B p (.lst ys)) H2:=fun b o z=>by
     by_cases hb:b=p
     ·subst hb;rw [aS] at z;rw [<- z];exact hp2
     ·rw [bf hb] at z;exact E2.hh b o (sb b o z)
    by_cases hlt:i<ds.length
    ·obtain ⟨d,hd⟩:∃ d,ds[i]?=some d:=⟨ds[i],by simp [hlt]⟩
     have hdrop:ds.drop i=d::ds.drop (i+1):=by
      rw [gE hlt]
      congr 1
      rw [ae hlt] at hd
      exact Option.some.inj hd
     rw [hdrop] at ecl
     unfold kz at ecl
     split at ecl
     ·cases ecl
     ·rename_i ρ1 et
      obtain ⟨hgo,hy⟩:=(it i G2 H2 s12 E2.gh).1 d hd
      refine .inr ⟨hgo,fun x H3 yl=>?_⟩
      obtain ⟨G3,E3,dx⟩:=hy x H3 yl
      refine ⟨upd B p (.lst ys),G3,G3,ρ2,d,ρ1,⟨sB2.trans E3.hh,bY.refl _,E3.gh,fun _ _ _ _ z=>z⟩,st2.ext E3,dx,et,fun σ4 st4=>?_⟩
      split at ecl
      ·cases ecl
      ·rename_i ec
       refine ⟨upd B p (.lst ys),G3,ρ1,false,E3.gh,sB2.trans E3.hh,st4,ec,fun G4 H4 E4=>?_⟩
       refine Dv ?_
       have E24:=E3.trans E4
       refine ⟨ds.length-(i+1),by lia,rfl,hlt,G4,ρ1,done,rest,E2.trans E24,s12.trans E24.gg,E24.nw _ _ hp2 rfl gp,E24.hh _ _ hp2,bT.mono E24.gg _ dl,by lia,ecl,eapp,st4.ext E4⟩
      ·rename_i ec
       refine ⟨upd B p (.lst ys),G3,ρ1,true,E3.gh,sB2.trans E3.hh,st4,ec,fun G4 H4 E4=>?_⟩
       refine CG ?_
       split at ecl
       ·cases ecl
       ·rename_i r er
        split at ecl
        case isFalse=>cases ecl
        case isTrue hpu =>
        split at ecl
        ·cases ecl
        ·rename_i es' ees'
         cases ecl
         refine ⟨upd B p (.lst ys),G4,ρ1,r,E4.gh,(sB2.trans E3.hh).trans E4.hh,st4.ext E4,er,fun y G5 H5 E5 r5=>?_⟩
         obtain ⟨G6,E6,s56,dy⟩:=r5.pure E5 hpu
         have E26:=(E3.trans E4).trans E6
         have hp5:=E26.hh _ _ hp2
         have gp6:=E26.nw _ _ hp2 rfl gp
         have E06:=E2.trans E26
         refine ⟨hp5,ds.length-(i+1),by lia,rfl,hlt,G6,ρ1,done++[r.2],es',⟨jA E06.hh hp0,E06.gg,jA E06.gh gp6,E06.nw⟩,s12.trans E26.gg,gp6,aS,bT.append (bT.mono E26.gg _ dl) (bT.one dy),by rw [aH,bF];lia,ees',by rw [aX];exact eapp,?_⟩
         exact ((st4.ext E4).ext E6).other
    ·have ei:i=ds.length:=by lia
     subst ei
     rw [CT] at ecl
     cases ecl
     rw [bH] at eapp
     subst eapp
     exact .inl ⟨(it ds.length G2 H2 s12 E2.gh).2 rfl,k _ G2 H2 E2 ⟨p,_,rfl,hp0,gp,hp2,ys,rfl,dl⟩⟩
structure A7 (X:Cx) (scope:Scope) (tg elt:Expr) (ifs:List Expr) (t:Da->Rho->Option Rho) (c:Rho->Option Bool) (f:Rho->Option Rv):Prop where
 tg:∀ s H fp,PXG (inC X scope s H fp) tg t
 ifs:∀ s H fp,PTS (inC X scope s H fp) ifs (tXT X.K c)
 elt:∀ s H fp,PX (inC X scope s H fp) elt f
theorem yU {X:Cx}:PTS X [] (tXT X.K fun _=>some true):=fun pins s σ H Q I ⟨B,G,ρ,b,sg,sb,st,e,k⟩=>by cases e;exact rY pins s σ H Q I (k G H (Ext.refl sg))
theorem Ag {X:Cx} {c:Expr} {t:Rho->Option Bool} (h:PXT X c t):PTS X [c] (tXT X.K t):=yj h
section
variable {X:Cx} {elt tg iter:Expr} {ifs:List Expr} {scope:Scope} {pos spos py:Pos} {ix:List (Option Nat)} {fi:Rho->Option (List Da)} {t:Da->Rho->Option Rho} {c:Rho->Option Bool} {f:Rho->Option Rv}
theorem zO (hc:X.calm=true) (S:fS X scope ix) (hi:PXI X tg iter fi) (B:A7 X scope tg elt ifs t c f) (hs:∀ x,foldedSetIterable iter X.env x=pure x:=by intro _;rfl):PX X (.ListComp elt [⟨tg,iter,ifs,0⟩] scope pos) (dE ix fi t c f) :=
 PE.imp (uz hc S hi ⟨B.tg,B.ifs,B.elt⟩ hs) fun _ _ _ q=>zM S q
end
end Ry
namespace Ry
open PySem PySem.Spec PyProof.Rows L2
noncomputable def qi (outer:List (Str×NameKind)):List (Str×NameKind)->Bool
 | []=>true
 | (x,k)::r=>(!(k == .free)||outer.lookup x == some .cell||outer.lookup x == some .free)&&qi outer r
theorem om {outer:List (Str×NameKind)}:∀ {names:List (Str×NameKind)},qi outer names=true->∀ y∈names,y.2=.free->outer.lookup y.1=some .cell\/outer.lookup y.1=some .free
 | [],_,y,hy,_=>by simp at hy
 | (x,k)::r,h,y,hy,hf=>by
   unfold qi at h
   rw [aD] at h
   rcases ah.mp hy with rfl | hy
   ·have h1:=h.1
    dsimp only at hf
    subst hf
    rcases e6 _ _▸h1 with z | z
    ·rcases e6 _ _▸z with w | w
     ·exact absurd w (by decide)
     ·exact .inl (by simpa using w)
    ·exact .inr (by simpa using z)
   ·exact om h.2 y hy hf
theorem eK {X:Cx} {scope:Scope} {ix:List (Option Nat)} (h1:scope.kind=.function) (h2:(scope.names.map (·.1)).Nodup) (h3:qi X.env.scope.names scope.names=true) (h4:oN X.N scope.names ix=true):fS X scope ix :=
 ⟨h1,h2,fun y hy hf=>om h3 y hy hf,h4⟩
theorem cnd {X:Cx} {scope:Scope} {s:Shared} {H:Hp} {fp:List Addr} (h:(scope.names.map (·.1)).Nodup):(inC X scope s H fp).N.Nodup:=h
section
variable {X:Cx} {a b c e:Expr} {es:List Expr} {p pos pos':Pos} {f fa fb fc:Rho->Option Rv} {g:Rho->Option (List Rv)}
theorem BU (hg:Gl X "len") (hm:X.mg "len" = none) (ha:PXA X (e::es) g) (he:starEach (e::es) X.env=(false,eval e X.env)::starEach es X.env:=by exact bi rfl) (hpl:(backTo pos (starEach es X.env)).any (·.1)=false:=by rfl):PX X (.Call (.Name "len" p) (e::es) [] pos) (xB oK g) :=
 Bb n5 zx hg hm PySem.boot_len ha (by decide) (by decide) he hpl
theorem xc (hg:Gl X "tuple") (hm:X.mg "tuple" = none) (ha:PXA X (e::es) g) (he:starEach (e::es) X.env=(false,eval e X.env)::starEach es X.env:=by exact bi rfl) (hpl:(backTo pos (starEach es X.env)).any (·.1)=false:=by rfl):PX X (.Call (.Name "tuple" p) (e::es) [] pos) (xB eF g) :=
 B3 mq vb hg hm (by decide +kernel) ha (by decide) (by decide) he hpl
theorem zC (hg:Gl X "list") (hm:X.mg "list" = none) (ha:PXA X (e::es) g) (he:starEach (e::es) X.env=(false,eval e X.env)::starEach es X.env:=by exact bi rfl) (hpl:(backTo pos (starEach es X.env)).any (·.1)=false:=by rfl):PX X (.Call (.Name "list" p) (e::es) [] pos) (xB lC g) :=
 B3 oO xf hg hm (by decide +kernel) ha (by decide) (by decide) he hpl
noncomputable def EV (f:Rho->Option Rv):Rho->Option Rv:=fun ρ=>match f ρ with
 | some (_,.int i)=>some (.pu,.int (-i))
 | _=>none
noncomputable def g6 (fd fk fx:Rho->Option Rv):Rho->Option Rv:=fun ρ=>match fd ρ,fk ρ,fx ρ with
 | some d,some k,some x=>match kC d.2 k.2 with
   | some (some e)=>some (.pu,e)
   | some none=>some x
   | none=>none
 | _,_,_=>none
theorem CN {K:PySem.W.Frag} {B H0 G H:Hp} {r:Rv} {v:V} {k:Da} {o:Option Da} (sg:bY G H) (h:fP K B H0 G H r v) (e:kC r.2 k=some o):∃ a,v=.ref a/\IsD H a:=by
 obtain ⟨kd,d⟩:=r
 cases d with
 | dK ks ds=>obtain ⟨a,kvs,rfl,q,_⟩:=h.dK sg;exact ⟨a,rfl,.inl ⟨kvs,q⟩⟩
 | dT ks ds=>obtain ⟨a,kvs,rfl,q,_⟩:=h.dT sg;exact ⟨a,rfl,.inr ⟨kvs,q⟩⟩
 | _=>unfold kC at e;cases e
theorem Al {apos:Pos} {o:Expr} {fo:Rho->Option Rv} (hu:X.A.units+1<cLine) (ho:PX X o fo) (ha:PX X a fa) (hb:PX X b fb) (hbase:attributeBase o "get" X.env (eval o X.env)=eval o X.env:=by rfl)
 (hfew:((backTo pos (starEach [a,b] X.env)).all (fun x=>!x.1)&&(backToKw pos (keywordEach [] X.env)).all (fun x=>x.1.isSome)&&decide (([a,b]:List Expr).length+([]:List Keyword).length+(if ([]:List Keyword).isEmpty then 0 else 1)<30))=true:=by rfl)
 (hline:(apos.endLine == pos.line)=true:=by rfl) (htr:backTo pos (starEach [a,b] X.env)=[(false,eval a X.env),(false,eval b X.env)]:=by rfl):PX X (.Call (.Attribute o "get" apos) [a,b] [] pos) (g6 fo fa fb) :=
 PE.imp (vH hu ho ha hb ⟨hbase,hfew,hline,htr⟩) fun σ H Q ⟨B,G,ρ,r,sg,sb,st,eq,k⟩=>by
  unfold g6 at eq
  split at eq
  ·rename_i d k' x ed ek ex
   refine ⟨B,G,ρ,d,sg,sb,st,ed,fun v G1 H1 E1 r1=>?_⟩
   have look:∃ o,kC d.2 k'.2=some o:=by
    split at eq
    ·exact ⟨_,by assumption⟩
    ·exact ⟨_,by assumption⟩
    ·cases eq
   obtain ⟨oo,eo⟩:=look
   obtain ⟨a',rfl,isd⟩:=CN E1.gh r1 eo
   refine ⟨a',rfl,isd,B,G1,ρ,k',E1.gh,sb.trans E1.hh,st.ext E1,ek,fun y G2 H2 E2 r2=>⟨B,G2,ρ,x,E2.gh,(sb.trans E1.hh).trans E2.hh,(st.ext E1).ext E2,ex,fun z G3 H3 E3 r3=>?_⟩⟩
   have E12:=E1.trans E2
   obtain ⟨p',ov,ep,g,m⟩:=ki (H0:=H) E3.gh ((r1.ext E2).ext E3) ((r2.base (H0:=H) E1.hh).ext E3) eo
   cases ep
   refine ⟨ov,g,?_⟩
   rw [eo] at eq
   cases oo with
   | some e' =>
     cases eq
     obtain ⟨w,rfl,dw⟩:=m
     exact k w G3 H3 (E12.trans E3) dw
   | none =>
     cases eq
     cases m
     exact k z G3 H3 (E12.trans E3) (r3.base (E1.hh.trans E2.hh))
  ·cases eq
noncomputable def eB {κ:Type} [DecidableEq κ]:List κ->List Da->κ->Da->List Da
 | k::ks,d::ds,j,e=>if k=j then e::ds else d::eB ks ds j e
 | _,_,_,e=>[e]
noncomputable def cF {κ:Type} [DecidableEq κ]:List κ->κ->List κ
 | k::ks,j=>if k=j then k::ks else k::cF ks j
 | [],j=>[j]
theorem sF {κ:Type} [DecidableEq κ] {k j:κ} {v y:V} {r:List (κ×V)} (nd:((k,v)::r).map (·.1) |>.Nodup):ir ((k,v)::r) j y=if k=j then (k,y)::r else (k,v)::ir r j y:=by
 have nd':k∉r.map (·.1)/\(r.map (·.1)).Nodup:=aV.mp nd
 unfold ir
 by_cases h:k=j
 ·subst h
  rw [if_pos (by rw [ic];simp),if_pos rfl,aC,if_pos rfl]
  congr 1
  conv=>rhs;rw [<- List.map_id r]
  refine eM fun p hp=>?_
  have:p.1≠k:=fun z=>nd'.1 (by rw [<- z];exact bn.mpr ⟨p,hp,rfl⟩)
  rw [if_neg this];rfl
 ·rw [if_neg h,ic,decide_eq_false h,Es]
  by_cases h2:(r.any fun kv=>decide (kv.1=j))=true
  ·rw [if_pos h2,if_pos h2,aC,if_neg h]
  ·rw [if_neg h2,if_neg h2];rfl
theorem my {K:PySem.W.Frag} {G:Hp} {κ:Type} [DecidableEq κ]:∀ {kvs:List (κ×V)} {ks:List κ} {ds:List Da} (j:κ) {d:Da} {v:V},ks.Nodup->kvs.map (·.1)=ks->bT K G ds (kvs.map (·.2))->Den K G d v ->
 (ir kvs j v).map (·.1)=cF ks j/\bT K G (eB ks ds j d) ((ir kvs j v).map (·.2))
 | [],ks,ds,j,d,v,_,e,h,hd=>by
   subst e
   cases ds with
   | nil=>exact ⟨rfl,bT.one hd⟩
   | cons d ds=>obtain ⟨x,r,e,_⟩:=h;cases e
 | (k,w)::r,ks,ds,j,d,v,nd,e,h,hd=>by
   subst e
   cases ds with
   | nil=>cases (show (w::r.map (·.2))=[] from h)
   | cons d' ds =>
     obtain ⟨x,xr,ex,h1,h2⟩:=h
     injection ex with e1 e2
     subst e1;subst e2
     rw [sF nd]
     have nd2:(r.map (·.1)).Nodup:=(aV.mp (show (k::r.map (·.1)).Nodup from nd)).2
     by_cases hk:k=j
     ·rw [if_pos hk]
      refine ⟨?_,?_⟩
      ·show k::r.map (·.1)=if k=j then _ else _;rw [if_pos hk]
      ·show bT K G (if k=j then _ else _) _;rw [if_pos hk];exact ⟨_,_,rfl,hd,h2⟩
     ·rw [if_neg hk]
      obtain ⟨i1,i2⟩:=my (K:=K) (G:=G) (kvs:=r) (ks:=r.map (·.1)) (ds:=ds) j nd2 rfl h2 hd
      refine ⟨?_,?_⟩
      ·show k::(ir r j v).map (·.1)=if k=j then _ else _;rw [if_neg hk,i1]
      ·show bT K G (if k=j then _ else _) _;rw [if_neg hk];exact ⟨_,_,rfl,h1,i2⟩
noncomputable def AN:Da->Da->Da->Option Da
 | .dK ks ds,k,v=>match yK k with
   | some j=>if ks.Nodup/\ks.length<=1000000 then some (.dK (cF ks j) (eB ks ds j v)) else none
   | none=>none
 | .dT ks ds,.tup es,v=>match ky es with
   | some j=>if ks.Nodup/\ks.length<=1000000 then some (.dT (cF ks j) (eB ks ds j v)) else none
   | none=>none
 | _,_,_=>none
noncomputable def yu (i:Nat) (fk fv:Rho->Option Rv):Rho->Res:=fun ρ=>match ρ[i]?,fk ρ,fv ρ with
 | some (.ow d),some k,some v=>if cX v=true then (match AN d k.2 v.2 with
   | some d'=>.nx (ρ.set i (.ow d'))
   | none=>.bad) else .bad
 | _,_,_=>.bad
theorem w9 {K:PySem.W.Frag} {B H0 G H:Hp} {d d':Da} {o:HO} {l:Addr} {k:Rv} {y v:V} {dv:Da} (sg:bY G H) (hl:H l=some o) (hd:Holds K G d o) (rk:fP K B H0 G H k y) (hv:Den K G dv v) (e:AN d k.2 dv=some d') :
 ∃ o',yT H l y v (upd H l o')/\Holds K G d' o':=by
 obtain ⟨kd,kk⟩:=k
 have hs:sizeLine=16777216:=sizeLine_eq
 cases d with
 | dK ks ds =>
   have e:(match yK kk with
    | some j=>if ks.Nodup/\ks.length<=1000000 then some (Da.dK (cF ks j) (eB ks ds j dv)) else none
    | none=>none)=some d':=by cases kk<;>exact e
   split at e
   ·rename_i j ej
    split at e
    ·rename_i hnd
     cases e
     obtain ⟨kvs,rfl,ek,dl⟩:=hd
     have ey:y=kV j:=tw ej (rk.den sg (uS ej))
     obtain ⟨p1,p2⟩:=my (K:=K) (G:=G) j hnd.1 ek dl hv
     have hlen:kvs.length=ks.length:=by rw [<- ek,af]
     exact ⟨.dK (ir kvs j v),.inl ⟨kvs,j,hl,ey,by lia,rfl⟩,_,rfl,p1,p2⟩
    ·cases e
   ·cases e
 | dT ks ds =>
   cases kk with
   | tup es =>
     have e:(match ky es with
      | some j=>if ks.Nodup/\ks.length<=1000000 then some (Da.dT (cF ks j) (eB ks ds j dv)) else none
      | none=>none)=some d':=e
     split at e
     ·rename_i j ej
      split at e
      ·rename_i hnd
       cases e
       obtain ⟨kvs,rfl,ek,dl⟩:=hd
       obtain ⟨t,xs,rfl,qt,dl2,_⟩:=rk.tup sg
       rw [pg ej dl2] at qt
       obtain ⟨p1,p2⟩:=my (K:=K) (G:=G) j hnd.1 ek dl hv
       have hlen:kvs.length=ks.length:=by rw [<- ek,af]
       exact ⟨.dT (ir kvs j v),.inr ⟨kvs,j,t,hl,rfl,qt,by lia,rfl⟩,_,rfl,p1,p2⟩
      ·cases e
     ·cases e
   | _=>cases e
 | _=>cases e
theorem zU {i:Nat} {x:Str} {px:Pos} (hu:X.A.units+64<cLine) (hk:PX X a fa) (hv:PX X b fb) (hN:X.N[i]?=some x:=by rfl) (hvis:Vis X.env.scope x:=by first | exact Or.inl rfl | exact Or.inr (Or.inl rfl) | exact Or.inr (Or.inr rfl)) (hd:(x == ("__debug__" : Str))=false:=by decide)
 (hcd:(x == ("__classdict__" : Str))=false:=by decide) (hs:swapsWith b (some (.Subscript (.Name x px) a pos')) pos.line X.env=pure false:=by rfl):PXS X (.Assign [.Subscript (.Name x px) a pos'] b pos) (yu i fa fb) :=
 PS.imp (pA (by lia) (m9 hN hvis hd hcd) hk hv hs) fun D σ H ⟨B,G0,G,ρ,E,st,k⟩=>by
  unfold yu at k
  split at k
  ·rename_i d rk rv eo ek ev
   split at k
   ·rename_i hpu
    refine ⟨B,G,ρ,rv,E.gh,E.hh,st,ev,fun v G1 H1 E1 r1=>?_⟩
    obtain ⟨G2,E2,_,dv⟩:=r1.pure E1 hpu
    obtain ⟨l,o,a',nb,ng,hl,hd'⟩:=(st.ext E2).ow i d eo
    refine ⟨_,a',B,G2,ρ,rk,E2.gh,E.hh.trans E2.hh,st.ext E2,ek,fun y G3 H3 E3 r3=>?_⟩
    split at k
    ·rename_i d' ed
     obtain ⟨o',hput,hh⟩:=w9 E3.gh (E3.hh _ _ hl) (hd'.mono E3.gg) r3 (Den.mono E3.gg _ dv) ed
     have E03:=(E.trans E2).trans E3
     exact ⟨l,_,rfl,hput,k _ G3 _ (E03.mut nb (E3.nw _ _ hl hd'.nt ng)) (E2.gg.trans E3.gg) (((st.ext E2).ext E3).mut eo a' hh)⟩
    ·exact k.elim
   ·exact k.elim
  ·exact k.elim
noncomputable def EH (i j:Nat):Rho->Res:=fun ρ=>match ρ[i]? with
 | some (.ow (.lst ds))=>match ds.getLast? with
   | some d=>.nx ((ρ.set i (.ow (.lst ds.dropLast))).set j (.pu d))
   | none=>.bad
 | _=>.bad
noncomputable def Ah (i:Nat) (f:Rho->Option Rv):Rho->Res:=fun ρ=>match ρ[i]?,f ρ with
 | some (.ow (.lst ds)),some (.fr,.lst es)=>if ds.length+es.length<=1000000 then .nx (ρ.set i (.ow (.lst (ds++es)))) else .bad
 | _,_=>.bad
end
end Ry
namespace Ry
open PySem PySem.Spec PyProof.Rows L2
structure Ca (P:Program) (w:World) (K:PySem.W.Frag) (mg:Str->Option Value) (base:Heap) (x:Str) (ps:List Str) (k n:Nat) (fn:List Da->Option Da):Prop where
 ex:∃ (a:Addr) (fd:FuncData),mg x=some (.ref a)/\PySem.W.keepIn K (.ref a)=true/\mx K fd ps []/\pZ P w K mg base CX0 k a fd ps (spD K n fn)
theorem qa {X:Cx} {k n:Nat} {ps:List Str} {fn:List Da->Option Da} {x:Str} {p pos:Pos} {e:Expr} {es:List Expr} {g:Rho->Option (List Rv)} (C:Ca X.prog X.w X.K X.mg X.base x ps k n fn) (hr:fQ k X.A) (hg:Gl X x) (ha:PXA X (e::es) g) (hlen:∀ ρ rs,g ρ=some rs->rs.length=n)
 (hdb:(x == ("__debug__" : Str))=false:=by decide) (he:starEach (e::es) X.env=(false,eval e X.env)::starEach es X.env:=by exact bi rfl) (hpl:(backTo pos (starEach es X.env)).any (·.1)=false:=by rfl):PX X (.Call (.Name x p) (e::es) [] pos) (bU fn g):=by
 obtain ⟨a,fd,hm,hk,hb,F⟩:=C.ex
 exact yy F hr hg hm hk hb ha hlen hdb he hpl
noncomputable def d5 (K:PySem.W.Frag) (mg:Str->Option Value) (x:Str) (st:Stmt):Prop:=∃ (a:Addr) (fd:FuncData),Fun K x x st a fd/\mg x=some (.ref a)
theorem iA {P:Program} {w:World} {K:PySem.W.Frag} {mg:Str->Option Value} {base:Heap} {x:Str} {st:Stmt} {N ps:List Str} {k n:Nat} {g:Rho->Res} (hf:d5 K mg x st) (S:cg N ps (az st)) (hn:ps.length=n)
 (hbind:∀ (kV doc pm:Value) (an:Option Addr) (cdv ct:Value) (us:List Value),us.length=ps.length->bindArgs (PySem.W.fnOf x x (cf st) (br st) (az st) .none kV doc pm an cdv ct) ⟨us,[]⟩=pure (ps.zip us))
 (hbody:∀ (f:Addr) (cdv:Value) (A:Around) (outer:List Env) (s:Shared) (H:Hp) (E:XK),fQ k (A.deeper (envOfC x (az st) s.heap.objs.size f cdv))->rD (g9 CX0 P w K mg base N x (az st) f cdv A outer s H E).nox (br st) g) :
 Ca P w K mg base x ps (k+1) n (iq N.length g):=by
 obtain ⟨a,fd,F,hm⟩:=hf
 exact ⟨a,fd,hm,F.kp,F.binds hbind,xF F S hn fun cdv A outer s H E hr=>hbody a cdv A outer s H E hr⟩
end Ry
namespace Ry
open PySem PySem.Spec PyProof.Rows L2
section
variable {X:Cx} {a b c e:Expr} {es:List Expr} {p p2 pos pos':Pos} {fa fb fc f:Rho->Option Rv} {g:Rho->Option (List Rv)}
noncomputable def tyD:Da->Option String
 | .non=>some "NoneType" | .bl _=>some "bool" | .int _=>some "int" | .str _=>some "str" | .tup _=>some "tuple" | .lst _=>some "list" | _=>none
structure li (K:PySem.W.Frag) (T:String) (i:Da->Option Bool):Prop where
 nd:∀ d b,i d=some b->km d=false
 kit:∀ d t b,tyD d=some t->i d=some b->PySem.W.kitOne K (.type t) (.type T)=some b
theorem p5 {T:String} {i:Da->Option Bool} (h:li X.K T i):iB X (.builtin "isinstance") (fun xs H Q=>∃ x d b,xs=[x,.ty T]/\Den X.K H d x/\i d=some b/\Q (.bl b) H):=by
 intro pins s σ H xs us Q I r hq
 obtain ⟨x,d,b,rfl,hd,hi,q⟩:=hq
 obtain ⟨u,w',rfl,rx,ry⟩:=Du r
 cases (show w'=Value.type T from ry)
 have fin:∀ tk,EP X pins σ Q (.bool b) { s with toks:=tk }:=fun tk=>⟨.bl b,H,I.tok tk,rfl,q⟩
 have nd:=h.nd d b hi
 cases d with
 | non=>cases (show x=_ from hd);cases (show u=Value.none from rx);exact PySem.W.kia_one PySem.W.kitx_none I.kIn True.intro (h.kit _ _ _ rfl hi) (fun z=>nomatch z) fin
 | bl y=>cases (show x=_ from hd);cases (show u=Value.bool y from rx);exact PySem.W.kia_one PySem.W.kitx_bool I.kIn True.intro (h.kit _ _ _ rfl hi) (fun z=>nomatch z) fin
 | int j=>cases (show x=_ from hd);obtain ⟨t,q⟩:=(show ∃ t,u=Value.int j t from rx);cases q;exact PySem.W.kia_one PySem.W.kitx_int I.kIn True.intro (h.kit _ _ _ rfl hi) (fun z=>nomatch z) fin
 | str y=>cases (show x=_ from hd);obtain ⟨t,q⟩:=(show ∃ t,u=Value.str y t from rx);cases q;exact PySem.W.kia_one PySem.W.kitx_str I.kIn True.intro (h.kit _ _ _ rfl hi) (fun z=>nomatch z) fin
 | tup ds =>
   obtain ⟨l,ys,rfl,hl,_⟩:=hd
   cases (show u=Value.ref l from rx)
   obtain ⟨its,_,⟨o,h1,h2,_⟩,_⟩:=I.tuple (SqT.of hl)
   exact PySem.W.kia_one PySem.W.kitx_tuple I.kIn ⟨o,h1,h2⟩ (h.kit _ _ _ rfl hi) (fun z=>nomatch z) fin
 | lst ds =>
   obtain ⟨l,ys,rfl,hl,_⟩:=hd
   cases (show u=Value.ref l from rx)
   obtain ⟨its,_,pl,_⟩:=I.list hl
   obtain ⟨o,h1,h2,_⟩:=pl.isList
   exact PySem.W.kia_one PySem.W.kitx_list I.kIn ⟨o,h1,h2⟩ (h.kit _ _ _ rfl hi) (fun z=>nomatch z) fin
 | dK _ _=>cases nd
 | dT _ _=>cases nd
noncomputable def gq (i:Da->Option Bool) (f:Rho->Option Rv):Rho->Option Rv:=fun ρ=>match f ρ with
 | some r=>match i r.2 with
   | some b=>some (.pu,.bl b)
   | none=>none
 | none=>none
theorem ue {T:String} {x:Str} {i:Da->Option Bool} (hk:li X.K T i) (hv:bootBuiltins x=some (.type T)) (hg:Gl X "isinstance") (hm:X.mg "isinstance" = none) (hg2:Gl X x) (hm2:X.mg x=none) (ha:PX X a fa)
 (hn:x≠"__name__":=by decide) (hd:(x == ("__debug__" : Str))=false:=by decide)
 (he:starEach [a,.Name x p2] X.env=[(false,eval a X.env),(false,eval (.Name x p2) X.env)]:=by rfl) (he2:starEach [.Name x p2] X.env=[(false,eval (.Name x p2) X.env)]:=by rfl):PX X (.Call (.Name "isinstance" p) [a,.Name x p2] [] pos) (gq i fa) :=
 PE.imp (mt (p5 hk) hg hm boot_isinstance (e7 ha (e7 (vn (v:=.ty T) hg2 hm2 hv rfl hn hd) iF he2) (by rw [he,he2])) (by decide) (by decide) (by rw [he,he2]) (by rw [he2];rfl)) fun σ H Q ⟨B,G,ρ,r,sg,sb,st,eq,k⟩=>by
  unfold gq at eq
  split at eq
  ·rename_i ra ea
   split at eq
   ·rename_i b eb
    cases eq
    refine ⟨B,G,ρ,ra,sg,sb,st,ea,fun v G1 H1 E1 r1=>?_⟩
    exact ⟨v,ra.2,b,rfl,r1.den E1.gh (hk.nd _ _ eb),eb,k _ G1 H1 E1 rfl⟩
   ·cases eq
  ·cases eq
noncomputable def sa:Da->Option Bool
 | .bl _=>some true | .int _=>some true | .non=>some false | .str _=>some false | .tup _=>some false | .lst _=>some false | _=>none
noncomputable def qI:Da->Option Bool
 | .bl _=>some true | .int _=>some false | .non=>some false | .str _=>some false | .tup _=>some false | .lst _=>some false | _=>none
noncomputable def iE:Da->Option Bool
 | .bl _=>some false | .int _=>some false | .non=>some false | .str _=>some false | .tup _=>some true | .lst _=>some false | _=>none
theorem AM {K:PySem.W.Frag}:li K "int" sa:=⟨fun d b h=>(by cases d<;>first | rfl | (cases h)),fun d t b h1 h2=>(by cases d<;>cases h1<;>cases h2<;>rfl)⟩
theorem yw {K:PySem.W.Frag}:li K "bool" qI:=⟨fun d b h=>(by cases d<;>first | rfl | (cases h)),fun d t b h1 h2=>(by cases d<;>cases h1<;>cases h2<;>rfl)⟩
theorem vG {K:PySem.W.Frag}:li K "tuple" iE:=⟨fun d b h=>(by cases d<;>first | rfl | (cases h)),fun d t b h1 h2=>(by cases d<;>cases h1<;>cases h2<;>rfl)⟩
noncomputable def jl:List Da->Option (List Bool)
 | []=>some []
 | .bl b::r=>(jl r).map (b::·)
 | _=>none
theorem j3:∀ {ds:List Da} {bs:List Bool},jl ds=some bs->ds=bs.map Da.bl
 | [],ns,h=>by cases h;rfl
 | d::r,ns,h=>by
   cases d with
   | bl i =>
     have h:(jl r).map (i::·)=some ns:=h
     cases q:jl r with
     | none=>rw [q] at h;cases h
     | some ms=>rw [q] at h;cases h;rw [j3 q];rfl
   | _=>cases h
theorem jS {K:PySem.W.Frag} {G:Hp}:∀ {bs:List Bool} {xs:List V},bT K G (bs.map Da.bl) xs->xs=bs.map V.bl
 | [],_,h=>h
 | b::bs,_,h=>by obtain ⟨x,r,rfl,h1,h2⟩:=h;cases (show _=_ from h1);rw [jS h2];rfl
theorem i5:∀ {bs:List Bool} {us:List Value},cq (bs.map V.bl) us->us=bs.map Value.bool
 | [],_,r=>by rw [gB] at r;cases r;rfl
 | b::bs,_,r=>by rw [aC] at r;cases r with | cons r1 r2=>cases (show _=_ from r1);rw [i5 r2];rfl
theorem lP {bs:List Bool} {i:Nat} (h:i<bs.length):bs.getD i false=bs[i]:=by simp [h]
theorem tJ (bs:List Bool):(bp bs.length).all (fun i=>bs.getD i false)=bs.all id:=by
 rw [bW,bv,bv]
 constructor
 ·intro h x hx
  obtain ⟨i,hi,e⟩:=xh.mp hx
  have:=h i (gC.mpr hi)
  rw [lP hi,e] at this
  exact this
 ·intro h i hi
  have hi':=gC.mp hi
  rw [lP hi']
  exact h _ (fI hi')
theorem uk (bs:List Bool):(bp bs.length).any (fun i=>bs.getD i false)=bs.any id:=by
 rw [bW,dh,dh]
 constructor
 ·rintro ⟨i,hi,e⟩
  have hi':=gC.mp hi
  rw [lP hi'] at e
  exact ⟨_,fI hi',e⟩
 ·rintro ⟨x,hx,e⟩
  obtain ⟨i,hi,e'⟩:=xh.mp hx
  exact ⟨i,gC.mpr hi,by rw [lP hi,e'];exact e⟩
theorem so (hc:X.calm=true):iB X (.builtin "all") (fun xs H Q=>∃ (p:Addr) (ys:List V) (bs:List Bool),xs=[.ref p]/\SqL X.K H p ys/\ys=bs.map V.bl/\Q (.bl (bs.all id)) H):=by
 intro pins s σ H xs us Q I r h
 obtain ⟨p,ys,bs,rfl,hq,rfl,q⟩:=h
 obtain ⟨u,rfl,rx⟩:=nP r
 cases rx
 obtain ⟨its,rv,pl,hz⟩:=I.list hq
 have e:=i5 rv
 subst e
 have hh:X.A.in1.handled=none:=I.ok.hd hc
 have hlt:p<s.heap.objs.size:=let ⟨o,ho,_⟩:=pl.isList;aw ho
 refine call_all_walk (wpAny_pyIter_list pl.isList ?_)
 have W:=Walks.list (prog:=X.prog) (w:=X.w) (A:=X.A.in1) hh s.heap.objs.size p (aL hlt) (bs.map Value.bool).toArray
 refine ⟨s.heap.objs.size,_,_,_,_,_,fun i=>bs.getD i false,rfl,W,⟨⟨_,aj _ rfl,rfl,rfl⟩,pl.isList.at fun o e=>aa _ e⟩,fun i v s' Q' E' hP hQ=>?_,fun h' tk hk=>?_⟩
 ·have e:(bs.map Value.bool)[i]?=some v:=by simpa using hP
  rw [av] at e
  cases q:bs[i]? with
  | none=>rw [q] at e;cases e
  | some b =>
    rw [q] at e
    cases e
    have:bs.getD i false=b:=by rw [ai,q];rfl
    have hQ:Q' (bs.getD i false) s':=hQ
    rw [this] at hQ
    exact wpAny_truthy_bool hQ
 ·have e:(bp (bs.map Value.bool).toArray.size).all (fun i=>bs.getD i false)=bs.all id:=by
   rw [ao,af];exact tJ bs
  rw [e]
  refine ⟨.bl _,H,I.kept (h':=h') (t':=tk) fun b o eb=>hk b o (fun z=>?_) (aa _ eb),rfl,q⟩
  have:b=s.heap.objs.size:=by simpa using z
  exact absurd (aw eb) (by rw [this];exact bz _)
theorem tU (hc:X.calm=true):iB X (.builtin "any") (fun xs H Q=>∃ (p:Addr) (ys:List V) (bs:List Bool),xs=[.ref p]/\SqL X.K H p ys/\ys=bs.map V.bl/\Q (.bl (bs.any id)) H):=by
 intro pins s σ H xs us Q I r h
 obtain ⟨p,ys,bs,rfl,hq,rfl,q⟩:=h
 obtain ⟨u,rfl,rx⟩:=nP r
 cases rx
 obtain ⟨its,rv,pl,hz⟩:=I.list hq
 have e:=i5 rv
 subst e
 have hh:X.A.in1.handled=none:=I.ok.hd hc
 have hlt:p<s.heap.objs.size:=let ⟨o,ho,_⟩:=pl.isList;aw ho
 refine call_any_walk (wpAny_pyIter_list pl.isList ?_)
 have W:=Walks.list (prog:=X.prog) (w:=X.w) (A:=X.A.in1) hh s.heap.objs.size p (aL hlt) (bs.map Value.bool).toArray
 refine ⟨s.heap.objs.size,_,_,_,_,_,fun i=>bs.getD i false,rfl,W,⟨⟨_,aj _ rfl,rfl,rfl⟩,pl.isList.at fun o e=>aa _ e⟩,fun i v s' Q' E' hP hQ=>?_,fun h' tk hk=>?_⟩
 ·have e:(bs.map Value.bool)[i]?=some v:=by simpa using hP
  rw [av] at e
  cases q:bs[i]? with
  | none=>rw [q] at e;cases e
  | some b =>
    rw [q] at e
    cases e
    have:bs.getD i false=b:=by rw [ai,q];rfl
    have hQ:Q' (bs.getD i false) s':=hQ
    rw [this] at hQ
    exact wpAny_truthy_bool hQ
 ·have e:(bp (bs.map Value.bool).toArray.size).any (fun i=>bs.getD i false)=bs.any id:=by
   rw [ao,af];exact uk bs
  rw [e]
  refine ⟨.bl _,H,I.kept (h':=h') (t':=tk) fun b o eb=>hk b o (fun z=>?_) (aa _ eb),rfl,q⟩
  have:b=s.heap.objs.size:=by simpa using z
  exact absurd (aw eb) (by rw [this];exact bz _)
noncomputable def ri:List Rv->Option Rv
 | [(_,.lst ds)]=>match jl ds with
   | some bs=>some (.pu,.bl (bs.all id))
   | none=>none
 | _=>none
noncomputable def wn:List Rv->Option Rv
 | [(_,.lst ds)]=>match jl ds with
   | some bs=>some (.pu,.bl (bs.any id))
   | none=>none
 | _=>none
theorem Af {K:PySem.W.Frag}:Cal K (fun xs H Q=>∃ (p:Addr) (ys:List V) (bs:List Bool),xs=[.ref p]/\SqL K H p ys/\ys=bs.map V.bl/\Q (.bl (bs.all id)) H) ri:=by
 intro B H0 G H rs c xs Q sg ra e k
 unfold ri at e
 split at e
 ·split at e
  ·rename_i bs eb
   cases e
   obtain ⟨v,rfl,h⟩:=dM.one ra
   obtain ⟨p,ys,rfl,q,d⟩:=h.lst sg
   rw [j3 eb] at d
   exact ⟨p,ys,bs,rfl,q,jS d,k _ G H (Ext.refl sg) rfl⟩
  ·cases e
 ·cases e
theorem zF {K:PySem.W.Frag}:Cal K (fun xs H Q=>∃ (p:Addr) (ys:List V) (bs:List Bool),xs=[.ref p]/\SqL K H p ys/\ys=bs.map V.bl/\Q (.bl (bs.any id)) H) wn:=by
 intro B H0 G H rs c xs Q sg ra e k
 unfold wn at e
 split at e
 ·split at e
  ·rename_i bs eb
   cases e
   obtain ⟨v,rfl,h⟩:=dM.one ra
   obtain ⟨p,ys,rfl,q,d⟩:=h.lst sg
   rw [j3 eb] at d
   exact ⟨p,ys,bs,rfl,q,jS d,k _ G H (Ext.refl sg) rfl⟩
  ·cases e
 ·cases e
theorem CO (hc:X.calm=true) (hg:Gl X "all") (hm:X.mg "all" = none) (ha:PXA X (e::es) g) (he:starEach (e::es) X.env=(false,eval e X.env)::starEach es X.env:=by exact bi rfl) (hpl:(backTo pos (starEach es X.env)).any (·.1)=false:=by rfl):PX X (.Call (.Name "all" p) (e::es) [] pos) (xB ri g) :=
 Bb (so hc) Af hg hm (by decide +kernel) ha (by decide) (by decide) he hpl
theorem CD (hc:X.calm=true) (hg:Gl X "any") (hm:X.mg "any" = none) (ha:PXA X (e::es) g) (he:starEach (e::es) X.env=(false,eval e X.env)::starEach es X.env:=by exact bi rfl) (hpl:(backTo pos (starEach es X.env)).any (·.1)=false:=by rfl):PX X (.Call (.Name "any" p) (e::es) [] pos) (xB wn g) :=
 Bb (tU hc) zF hg hm (by decide +kernel) ha (by decide) (by decide) he hpl
noncomputable def tXO (K:PySem.W.Frag) (f:Rho->Option (Option Int)):TO:=fun σ H Q=>∃ B G ρ o,bY G H/\bY B H/\fV K B G H σ ρ/\f ρ=some o/\∀ G' H',Ext G H G' H'->Q o H'
noncomputable abbrev PXO (X:Cx) (e:Option Expr) (f:Rho->Option (Option Int)):Prop:=PO X e (tXO X.K f)
theorem PO.imp {X:Cx} {e:Option Expr} {t t':TO} (h:PO X e t) (i:∀ σ H Q,t' σ H Q->t σ H Q):PO X e t':=fun pins s σ H Q I q=>h pins s σ H Q I (i σ H Q q)
noncomputable def qY:Rho->Option (Option Int):=fun _=>some none
noncomputable def iV (f:Rho->Option Rv):Rho->Option (Option Int):=fun ρ=>match f ρ with
 | some (_,.int i)=>some (some i)
 | _=>none
theorem wV:PXO X none qY:=PO.imp yD fun σ H Q ⟨B,G,ρ,o,sg,sb,st,e,k⟩=>by cases e;exact k G H (Ext.refl sg)
theorem wZ (ha:PX X a fa):PXO X (some a) (iV fa):=PO.imp (yH ha) fun σ H Q ⟨B,G,ρ,o,sg,sb,st,e,k⟩=>by
 unfold iV at e
 split at e
 ·rename_i kd i q
  cases e
  exact ⟨B,G,ρ,_,sg,sb,st,q,fun v G1 H1 E1 r1=>⟨i,r1.int,k G1 H1 E1⟩⟩
 ·cases e
noncomputable def rP (ds:List Da) (lo hi:Option Int):List Da:=(ds.drop (HT.sIx ds.length 0 lo)).take (HT.sIx ds.length ds.length hi-HT.sIx ds.length 0 lo)
theorem tz {K:PySem.W.Frag} {G:Hp} {ds:List Da} {xs:List V} (h:bT K G ds xs) (lo hi:Option Int):bT K G (rP ds lo hi) (xU xs lo hi):=by
 unfold rP xU
 rw [h.length]
 exact (h.drop _).take _
theorem ig {prog:Program} {w:World} {A:Around} {E:Value->Shared->Prop} {s:Shared} {t sl:Addr} {items:Array Value} {vl vu:Value} {lo hi:Option Int} {Q:Value->Shared->Prop} (ht:IsTup s.heap t items) (hs:s.heap.IsSliceOf sl vl vu .none) (pl:IsPart vl lo) (pu:IsPart vu hi)
 (hw:HT.sIx items.size 0 lo=0/\HT.sIx items.size items.size hi=items.size) (h:Q (.ref t) s):wpAny (model prog w) A (getItem (.ref t) (.ref sl)) Q E s:=by
 obtain ⟨os,hos,hcs,hds⟩:=id hs
 have hTs:s.TypeIs (.ref sl) "slice":=⟨os,hos,hcs⟩
 unfold getItem
 try with_reducible refine wpAny_holding ?_
 first | refine wpAny_bind (wpAny_pure ?_) | skip
 refine wpAny_bind (wpAny_sequenceKey ht.typeIs (by decide) ?_)
 refine wpAny_bind (wpAny_callSpecial?_slot (name:=Str.ofString "__getitem__") ht.typeIs PyProof.Rows.slot_tuple_getitem
  (wpAny_call_entry PyProof.Rows.slot_tuple_getitem ht.typeIs entry_tuple_getitem ?_ (args_tuple_getitem _ _)))
 show wpAny _ _ (Builtin.Tuple.tupleItemsOf (.ref t)>>=_) _ _ s
 refine wpAny_bind (tupleItemsOf_ ht ?_)
 refine wpAny_bind (wpAny_typeOf hTs ?_)
 rw [if_pos (by decide)]
 refine wpAny_bind (HT.sliceApplied_gen hs pl pu ?_)
 have hyes:(((HT.sIx items.size 0 lo:Nat):Int) == 0&&(1:Int) == 1&&(HT.sIx items.size items.size hi-HT.sIx items.size 0 lo) == items.size)=true:=by
  rw [hw.1,hw.2];simp
 show wpAny _ _ (if (((HT.sIx items.size 0 lo:Nat):Int) == 0&&(1:Int) == 1&&(HT.sIx items.size items.size hi-HT.sIx items.size 0 lo) == items.size)=true then _ else _) _ _ s
 rw [if_pos hyes]
 refine wpAny_bind (m:=Builtin.Tuple.tupleIsExact _) (wpAny_bind (wpAny_typeOf ht.typeIs (wpAny_pure ?_)))
 rw [if_pos (by decide)]
 exact wpAny_bind (wpAny_rule (wpAny_pure ⟨_,rfl,wpAny_pure h⟩))
noncomputable def EL (K:PySem.W.Frag):V->Option Int->Option Int->Hp->VK->Prop:=fun x lo hi H Q=>∃ a xs,x=.ref a/\SqT K H a xs/\(HT.sIx xs.length 0 lo=0/\HT.sIx xs.length xs.length hi=xs.length)/\Q (.ref a) H
theorem zR:SlR X (EL X.K):=by
 intro pins s σ H x v vl vu lo hi sl Q I rx hs pl pu h
 obtain ⟨a,xs,rfl,hx,hw,q⟩:=h
 cases rx
 obtain ⟨its,r,ht,hz⟩:=I.tuple hx
 have hlen:its.toArray.size=xs.length:=by rw [ao];exact r.length.symm
 refine ⟨"tuple",_,PyProof.Rows.slot_tuple_getitem.lookup,ht.typeIs,?_⟩
 exact ig ht hs pl pu (by rw [hlen];exact hw) ⟨.ref a,H,I,rfl,q⟩
theorem u6 {ds:List Da} {lo hi:Option Int} (h:HT.sIx ds.length 0 lo=0/\HT.sIx ds.length ds.length hi=ds.length):rP ds lo hi=ds:=by
 unfold rP
 rw [h.1,h.2,jx,EX,CU]
noncomputable def slD (lo hi:Option Int):Da->Option Rv
 | .tup ds=>some (.pu,.tup (rP ds lo hi))
 | .lst ds=>some (.fr,.lst (rP ds lo hi))
 | _=>none
noncomputable def hJ (fa:Rho->Option Rv) (fl fh:Rho->Option (Option Int)):Rho->Option Rv:=fun ρ=>match fa ρ,fl ρ,fh ρ with
 | some r,some l,some h=>slD l h r.2
 | _,_,_=>none
theorem vL {lo hi:Option Expr} {fl fh:Rho->Option (Option Int)} (ha:PX X a fa) (hl:PXO X lo fl) (hh:PXO X hi fh):PX X (.Subscript a (.Slice lo hi none p2) pos) (hJ fa fl fh) :=
 PE.imp (wK ((A8.or zR).or zI) ha hl hh) fun σ H Q ⟨B,G,ρ,r,sg,sb,st,eq,k⟩=>by
  unfold hJ at eq
  split at eq
  ·rename_i ra l h ea el eh
   refine ⟨B,G,ρ,ra,sg,sb,st,ea,fun v G1 H1 E1 r1=>⟨B,G1,ρ,l,E1.gh,sb.trans E1.hh,st.ext E1,el,fun G2 H2 E2=>⟨B,G2,ρ,h,E2.gh,(sb.trans E1.hh).trans E2.hh,(st.ext E1).ext E2,eh,fun G3 H3 E3=>?_⟩⟩⟩
   have E:=(E1.trans E2).trans E3
   have r3:=(r1.ext E2).ext E3
   obtain ⟨kd,d⟩:=ra
   cases d with
   | tup ds =>
     cases eq
     obtain ⟨t,xs,rfl,q,dl,qg⟩:=r3.tup E3.gh
     have hlen:=dl.length
     by_cases hw:HT.sIx ds.length 0 l=0/\HT.sIx ds.length ds.length h=ds.length
     ·refine .inl (.inr ⟨t,xs,rfl,SqT.of q,by rw [hlen];exact hw,k _ _ _ E ?_⟩)
      rw [u6 hw]
      exact ⟨t,xs,rfl,qg,dl⟩
     ·refine .inl (.inl ⟨t,xs,rfl,SqT.of q,by rw [hlen];exact hw,fun p hp=>k _ _ _ (E.trans (Ext.new E3.gh hp)) ⟨p,_,rfl,aS,bT.mono (bB (E3.gh.free hp)) _ (tz dl l h)⟩⟩)
   | lst ds =>
     cases eq
     obtain ⟨t,xs,rfl,q,dl⟩:=r3.lst E3.gh
     exact .inr ⟨t,xs,rfl,q,fun p hp=>k _ _ _ (E.trans (Ext.own E3.gh hp)) ⟨p,_,rfl,E.hh.free hp,E3.gh.free hp,aS,_,rfl,tz dl l h⟩⟩
   | _=>cases eq
  ·cases eq
end
end Ry
namespace Ry
open PySem PySem.Spec PyProof.Rows L2
noncomputable def eu (h:Heap) (d:Addr) (es:Array DictEntry) (ep:Nat):Prop:=∃ o,h.get? d=some o/\o.ExactDict/\o.data=.dict es ep
section
variable {prog:Program} {w:World} {A:Around} {E:Value->Shared->Prop} {s:Shared} {d it:Addr} {es:Array DictEntry} {ep i:Nat}
theorem eu.ty (h:eu s.heap d es ep):s.TypeIs (.ref d) "dict":=let ⟨o,ho,hx,_⟩:=h;⟨o,ho,hx.1⟩
theorem eu.at {h h':Heap} (x:eu h d es ep) (k:∀ o,h.get? d=some o->h'.get? d=some o):eu h' d es ep:=let ⟨o,ho,r⟩:=x;⟨o,k o ho,r⟩
theorem vd {Q:Value->Shared->Prop} (lo:(d == sysModules)=false) (hm:eu s.heap d es ep)
 (hQ:Q (.ref s.heap.objs.size) { s with heap:=s.heap.push { cls:=.type "dict_keyiterator",data:=.fields #[.ref d,.int 0 0,.int es.size 0,.int ep 0] } }):wpAny (model prog w) A (pyIter (.ref d)) Q E s:=by
 obtain ⟨o,ho,hx,hdat⟩:=id hm
 have T:=hm.ty
 refine wpAny_pyIter_slot T F.slot_dict_iter (wpAny_call_entry F.slot_dict_iter T F.entry_dict_iter ?_ (F.args_dict_iter_1 _));unfold Builtin.«dict.__iter__»
 refine wpAny_bind ?_;unfold Builtin.Dict.dictSlotNone
 refine wpAny_bind (wpAny_notOrdered_dict T ?_);show wpAny _ _ (pure (Value.ref d)) _ _ s
 refine wpAny_pure ?_;show wpAny _ _ (Builtin.Dict.showsAll d>>=_) _ _ s;unfold Builtin.Dict.showsAll
 rw [if_neg (fun z=>am (lo▸z))]
 refine wpAny_bind (wpAny_pure (wpAny_bind (wpAny_dictEntries ho hdat (wpAny_bind (wpAny_dictEpoch ho hdat ?_)))))
 refine wpAny_bind (wpAny_newObj_type (wpAny_pure ⟨_,rfl,"dict_keyiterator",_,⟨_,aj _ rfl,rfl⟩,F.slot_dict_keyiterator_next.lookup,?_⟩))
 simpa [rawInt] using hQ
theorem ve {Q:Option Value->Shared->Prop} (hit:s.heap.IsKeyIter it d i es.size ep) (hm:eu s.heap d es ep) (hlt:i<es.size)
 (hQ:∀ h',h'.IsKeyIter it d (i+1) es.size ep->Heap.SameBut it s.heap h'->Q (some es[i].key) { s with heap:=h' }):wpAny (model prog w) A (pyNext (.ref it)) Q E s:=by
 obtain ⟨⟨o,ho,hc,hd⟩,od,hod,hx,hdd⟩:=And.intro (id hit) (id hm)
 unfold pyNext;refine wpAny_bind (wpAny_attempt (wpAny_callSpecial?_slot (name:=Str.ofString "__next__") hit.typeIs F.slot_dict_keyiterator_next (wpAny_call_entry F.slot_dict_keyiterator_next hit.typeIs F.entry_dict_keyiterator_next ?_ (F.args_dict_keyiterator_next_1 _))))
 refine wpAny_bind (wpAny_pure (wpAny_bind (wpAny_bind ?_)));first | refine wpAny_bind (wpAny_typeNameOfWhole_keyiter hit.typeIs (wpAny_pure ?_)) | refine wpAny_bind (wpAny_typeNameOf_keyiter hit.typeIs (wpAny_pure ?_))
 refine wpAny_bind (wpAny_fieldsOf ho hd ?_);simp only [show Builtin.Dict_items.ownsTuple "dict_keyiterator" = false by decide,dG,if_false]
 show wpAny _ _ (if (Value.ref d == Value.none)=true then _ else _) _ _ s;rw [if_neg (show ¬ ((Value.ref d == Value.none)=true) from fun z=>am z)]
 refine wpAny_bind (wpAny_pure (wpAny_bind (wpAny_dictEntries hod hdd ?_)));rw [if_neg (by simp)]
 refine wpAny_bind (wpAny_pure (wpAny_bind (wpAny_dictEpoch hod hdd ?_)));rw [if_neg (by simp)]
 refine wpAny_pure ?_
 simp only [show ¬ ((i:Int)<0) by lia,if_false,bg,aI hlt]
 refine wpAny_bind ?_;first | refine wpAny_bind (wpAny_typeNameOfWhole_keyiter hit.typeIs (wpAny_pure ?_)) | refine wpAny_bind (wpAny_typeNameOf_keyiter hit.typeIs (wpAny_pure ?_))
 refine wpAny_bind (wpAny_isOneOf_keyiter hit.typeIs ?_);show wpAny _ _ (setField (.ref it) 1 (rawInt ((i:Int)+1))>>=_) _ _ s;refine wpAny_bind (wpAny_setField ho hd (by simp) ?_)
 have nx:(s.heap.update it (bt (·.setIfInBounds 1 (rawInt ((i:Int)+1))))).IsKeyIter it d (i+1) es.size ep:=⟨_,aY _ ho (bN (bA hd _)),(fA ..).trans hc,by rw [bA hd];simp [rawInt]⟩
 refine wpAny_bind (wpAny_holding ?_);refine wpAny_bind (wpAny_isOneOf_keyiter (s:={ s with heap:=s.heap.update it (bt (·.setIfInBounds 1 (rawInt ((i:Int)+1)))) }) nx.typeIs ?_);show wpAny _ _ (pure es[i].key) _ _ _
 exact wpAny_pure (wpAny_pure ⟨_,rfl,wpAny_pure (hQ _ nx (Heap.SameBut.update ..))⟩)
theorem wd {Q:Option Value->Shared->Prop} (hh:A.handled=none) (hit:s.heap.IsKeyIter it d i es.size ep) (hm:eu s.heap d es ep) (hge:es.size<=i)
 (hQ:∀ h',Heap.ExtBut it s.heap h'->Q none { s with heap:=h' }):wpAny (model prog w) A (pyNext (.ref it)) Q E s:=by
 obtain ⟨⟨o,ho,hc,hd⟩,od,hod,hx,hdd⟩:=And.intro (id hit) (id hm)
 unfold pyNext;refine wpAny_bind (wpAny_attempt (wpAny_callSpecial?_slot (name:=Str.ofString "__next__") hit.typeIs F.slot_dict_keyiterator_next (wpAny_call_entry F.slot_dict_keyiterator_next hit.typeIs F.entry_dict_keyiterator_next ?_ (F.args_dict_keyiterator_next_1 _))))
 refine wpAny_bind (wpAny_pure (wpAny_bind (wpAny_bind ?_)));first | refine wpAny_bind (wpAny_typeNameOfWhole_keyiter hit.typeIs (wpAny_pure ?_)) | refine wpAny_bind (wpAny_typeNameOf_keyiter hit.typeIs (wpAny_pure ?_))
 refine wpAny_bind (wpAny_fieldsOf ho hd ?_);simp only [show Builtin.Dict_items.ownsTuple "dict_keyiterator" = false by decide,dG,if_false]
 show wpAny _ _ (if (Value.ref d == Value.none)=true then _ else _) _ _ s;rw [if_neg (show ¬ ((Value.ref d == Value.none)=true) from fun z=>am z)]
 refine wpAny_bind (wpAny_pure (wpAny_bind (wpAny_dictEntries hod hdd ?_)));rw [if_neg (by simp)]
 refine wpAny_bind (wpAny_pure (wpAny_bind (wpAny_dictEpoch hod hdd ?_)));rw [if_neg (by simp)]
 refine wpAny_pure ?_
 simp only [show ¬ ((i:Int)<0) by lia,if_false,bg,b7 hge]
 refine wpAny_bind ?_;first | refine wpAny_bind (wpAny_typeNameOfWhole_keyiter hit.typeIs (wpAny_pure ?_)) | refine wpAny_bind (wpAny_typeNameOf_keyiter hit.typeIs (wpAny_pure ?_))
 show wpAny _ _ (setField (.ref it) 0 .none>>=_) _ _ s;refine wpAny_bind (wpAny_setField ho hd (by simp) ?_);show wpAny _ _ (newExc (.type "StopIteration") []>>=_) _ _ _
 refine wpAny_bind ?_;simp only [newExc,newTuple];refine wpAny_bind (wpAny_newObj_type ?_ (by size_fits))
 refine wpAny_bind (m:=firstArgMember _ _) (wpAny_of_eq (a:=Value.none) (by first | rfl | (simp only [firstArgMember];rfl)) (wpAny_newObj_type ?_ (by size_fits)));simp only [raiseNew]
 refine wpAny_bind (wpAny_handled ?_);rw [show A.in1.handled=none from hh];refine wpAny_bind (wpAny_pure (wpAny_throw ?_))
 refine wpAny_bind (wpAny_isInstance (T:="StopIteration") (b:=true) ⟨_,aj _ rfl,rfl⟩ isSubtype_stop (wpAny_pure (hQ _ (((Heap.SameBut.update ..).extBut.push _).push _))))
theorem vi (hh:A.handled=none) (hne:d≠it):Walks prog w A it [it,d] [it] es.size (fun i v=>∃ h:i<es.size,v=es[i].key) (fun i h=>h.IsKeyIter it d i es.size ep/\eu h d es ep) where
 sub:=fun b hb=>by simp at hb;simp [hb]
 frame:=fun i h h' st k=>⟨let ⟨o,ho,r⟩:=st.1;⟨o,k it (by simp) o ho,r⟩,st.2.at fun o e=>k d (by simp) o e⟩
 item:=fun i s Q E hi st hQ=>ve st.1 st.2 hi fun h' nx sb=>hQ _ h' s.toks ⟨hi,rfl⟩ ⟨nx,st.2.at fun o e=>(sb.2 d hne).trans e⟩ fun b o hb e=>sb.extBut b o (fun z=>hb (by simp [z])) e
 done:=fun s Q E st hQ=>wd hh st.1 st.2 (ag _) fun h' eb=>hQ h' s.toks fun b o hb e=>eb b o (fun z=>hb (by simp [z])) e
 self:=fun i s Q E st hQ=>by
  obtain ⟨o,ho,hc,hd⟩:=st.1
  refine wpAny_pyIter_slot ⟨o,ho,hc⟩ F.slot_dict_keyiterator_iter (wpAny_call_entry F.slot_dict_keyiterator_iter ⟨o,ho,hc⟩ F.entry_dict_keyiterator_iter ?_ (F.args_dict_keyiterator_iter_1 _))
  show wpAny _ _ (ret (.ref it)) _ _ s
  exact wpAny_pure ⟨_,rfl,"dict_keyiterator",_,⟨o,ho,hc⟩,F.slot_dict_keyiterator_next.lookup,hQ⟩
theorem wb (lo:(d == sysModules)=false):PySem.W.KdlSrc prog w "dict" d d es.size (fun i v=>∃ h:i<es.size,v=es[i].key) (fun h=>eu h d es ep) where
 type:=fun s hm=>hm.ty
 there:=fun h hm=>let ⟨o,ho,_⟩:=hm;⟨aw ho,aw ho⟩
 keep:=fun h h' hm k=>hm.at fun o e=>k d (.inl rfl) o e
 notList:=by decide
 notTuple:=by decide
 hint:=fun A E s Q hm hq=>PySem.W.kdl_hint_dict hm.ty hq
 iter:=fun A s hh hm=>⟨_,_,fun E Q hq=>vd lo hm hq,vi hh (let ⟨o,ho,_⟩:=hm;aL (aw ho)),⟨_,aj _ rfl,rfl,rfl⟩,hm.at fun o e=>aa _ e⟩
end
end Ry
namespace Ry
open PySem PySem.Spec PyProof.Rows L2
section
variable (O:KeyOrd)
noncomputable def v6 (a:O.α):List O.α->List O.α
 | []=>[a]
 | b::r=>if O.blt b a=true then b::v6 a r else a::b::r
noncomputable def Aw:List O.α->List O.α
 | []=>[]
 | a::r=>v6 O a (Aw r)
variable {O}
theorem j9 (a:O.α):∀ l:List O.α,(v6 O a l).Perm (a::l)
 | []=>.refl _
 | b::r=>by
   unfold v6
   split
   ·exact ((j9 a r).cons b).trans (.swap ..)
   ·exact .refl _
theorem nR:∀ l:List O.α,(Aw O l).Perm l
 | []=>.refl _
 | a::r=>(j9 a _).trans ((nR r).cons a)
theorem j4 (a:O.α):∀ {l:List O.α},l.Pairwise O.kle->(v6 O a l).Pairwise O.kle
 | [],_=>by unfold v6;exact bj _ _
 | b::r,h=>by
   obtain ⟨h1,h2⟩:=aN.mp h
   unfold v6
   split
   ·rename_i hb
    refine aN.mpr ⟨fun x hx=>?_,j4 a h2⟩
    rcases ah.mp ((j9 a r).mem_iff.mp hx) with e | e
    ·subst e;exact KeyOrd.kle_of_klt hb
    ·exact h1 x e
   ·rename_i hb
    have hab:O.kle a b:=by unfold KeyOrd.kle;simpa using hb
    refine aN.mpr ⟨fun x hx=>?_,h⟩
    rcases ah.mp hx with e | e
    ·subst e;exact hab
    ·exact KeyOrd.kle_trans hab (h1 x e)
theorem jZ:∀ l:List O.α,(Aw O l).Pairwise O.kle
 | []=>.nil
 | a::r=>j4 a (jZ r)
theorem dq:∀ {l m:List O.α},l.Perm m->l.Pairwise O.kle->m.Pairwise O.kle->l=m
 | [],m,h,_,_=>(Et.mp h).symm
 | a::l,[],h,_,_=>absurd (h.length_eq) (by simp)
 | a::l,b::m,h,h1,h2=>by
   obtain ⟨a1,a2⟩:=aN.mp h1
   obtain ⟨b1,b2⟩:=aN.mp h2
   have e:a=b:=by
    rcases ah.mp (h.mem_iff.mp (ax)) with e | e
    ·exact e
    ·rcases ah.mp (h.mem_iff.mpr (ax (a:=b) (l:=m))) with e' | e'
     ·exact e'.symm
     ·exact KeyOrd.kle_antisymm (a1 b e') (b1 a e)
   subst e
   rw [dq (List.Perm.cons_inv h) a2 b2]
end
noncomputable def xS:KeyOrd where
 α:=Int
 blt a b:=decide (a<b)
 irrefl a:=by simp
 trans a b c h1 h2:=by simp at *;lia
 negTrans a b c h:=by simp at *;lia
 total a b h1 h2:=by simp at *;lia
section
open HT
theorem iZ:∀ xs:List Int,lexLt xs xs=false
 | []=>rfl
 | x::xs=>by rw [lexLt_cons,if_pos rfl];exact iZ xs
theorem nF:∀ xs ys zs:List Int,lexLt xs ys=true->lexLt ys zs=true->lexLt xs zs=true
 | [],[],_,h,_=>by cases h
 | [],_::_,[],_,h=>by cases h
 | [],_::_,_::_,_,_=>rfl
 | _::_,[],_,h,_=>by cases h
 | _::_,_::_,[],_,h=>by cases h
 | x::xs,y::ys,z::zs,h1,h2=>by
   rw [lexLt_cons] at *
   by_cases e1:x=y<;>by_cases e2:y=z
   ·subst e1;subst e2;rw [if_pos rfl] at *;exact nF xs ys zs h1 h2
   ·subst e1;rw [if_neg e2] at *;exact h2
   ·subst e2;rw [if_neg e1] at *;exact h1
   ·rw [if_neg e1] at h1;rw [if_neg e2] at h2
    have a1:=of_decide_eq_true h1
    have a2:=of_decide_eq_true h2
    rw [if_neg (by lia)]
    exact decide_eq_true (by lia)
theorem tP:∀ xs ys zs:List Int,lexLt xs zs=true->lexLt xs ys=true\/lexLt ys zs=true
 | [],_,[],h=>by cases h
 | [],[],_::_,h=>.inr h
 | [],_::_,_::_,_=>.inl rfl
 | _::_,_,[],h=>by cases h
 | _::_,[],_::_,_=>.inr rfl
 | x::xs,y::ys,z::zs,h=>by
   rw [lexLt_cons] at h
   rw [lexLt_cons,lexLt_cons]
   by_cases e1:x=y<;>by_cases e2:y=z
   ·subst e1;subst e2;rw [if_pos rfl] at *;rw [if_pos rfl];exact tP xs ys zs h
   ·subst e1;rw [if_neg e2] at *;exact .inr h
   ·subst e2;rw [if_neg e1] at *;exact .inl h
   ·rw [if_neg e1,if_neg e2]
    by_cases e3:x=z
    ·subst e3
     by_cases hxy:x<y
     ·exact .inl (decide_eq_true hxy)
     ·exact .inr (decide_eq_true (by lia))
    ·rw [if_neg e3] at h
     have a1:=of_decide_eq_true h
     by_cases hxy:x<y
     ·exact .inl (decide_eq_true hxy)
     ·exact .inr (decide_eq_true (by lia))
theorem nA:∀ xs ys:List Int,lexLt xs ys=false->lexLt ys xs=false->xs=ys
 | [],[],_,_=>rfl
 | [],_::_,h,_=>by cases h
 | _::_,[],_,h=>by cases h
 | x::xs,y::ys,h1,h2=>by
   rw [lexLt_cons] at *
   by_cases e:x=y
   ·subst e;rw [if_pos rfl] at *;rw [nA xs ys h1 h2]
   ·rw [if_neg e] at h1;rw [if_neg (fun z=>e z.symm)] at h2
    have a1:=of_decide_eq_false h1
    have a2:=of_decide_eq_false h2
    lia
end
noncomputable def oV:KeyOrd:=⟨List Int,HT.lexLt,iZ,nF,tP,nA⟩
section
variable {O:KeyOrd}
theorem ku {α:Type} {p:Array Nat} {n:Nat} (h:b0 n p) {l:List α} (hl:l.length=n) (d:α):(p.toList.map fun i=>l.getD i d).Perm l:=by
 have h1:p.toList.Perm (bp n):=by simpa using bh.mp h.perm
 refine (h1.map _).trans ?_
 have:(bp n).map (fun i=>l.getD i d)=l:=by
  apply mX
  ·simp [hl]
  ·intro i h1 h2;simp [h2]
 rw [this]
theorem im {p:Array Nat} {n:Nat} (h:b0 n p) {ks:List O.α} (d:O.α) (u:mr O (fun i=>ks.getD i d) p n):(p.toList.map fun i=>ks.getD i d).Pairwise O.kle:=by
 rw [bS]
 intro i j hi hj hij
 have hs:p.toList.length=n:=by rw [aF];exact h.size
 rw [af] at hi hj
 have:=u i j (gD hij) (by lia)
 have e:∀ k,(hk:k<p.toList.length)->KN O (fun i=>ks.getD i d) p k=ks.getD (p.toList[k]) d:=fun k hk=>by
  have hk':k<p.size:=by simpa using hk
  show ks.getD (p.getD k 0) d=_
  congr 1
  simp [fR,hk']
 rw [e i hi,e j hj] at this
 rw [CV,CV]
 exact this
theorem io {p:Array Nat} {ks:List O.α} (d:O.α) (h:b0 ks.length p) (u:mr O (fun i=>ks.getD i d) p ks.length):(p.toList.map fun i=>ks.getD i d)=Aw O ks :=
 dq ((ku h rfl d).trans (nR ks).symm) (im h d u) (jZ ks)
end
section
variable {prog:Program} {w:World} {A:Around} {E:Value->Shared->Prop} {s:Shared} {O:KeyOrd} {κ:SortKind} {key:Nat->O.α} {vs:List Value} {a:Addr} {n:Nat}
noncomputable def ik (a:Addr) (h h':Heap):Prop:=∀ b o,b≠a->h.get? b=some o->h'.get? b=some o
theorem qb {P:PySem.Fin->Shared->Prop} (ho:s.heap.get? a=some (seqObj "list" vs.toArray n)) (h64:vs.length<64\/(vs.length<=127/\∀ i j,i<vs.length->j<vs.length->key i=key j->i=j))
 (kind:∀ h',ik a s.heap h'->2<=vs.length->∀ Q:SortKind->Shared->Prop,Q κ { s with heap:=h' }->wpAny (model prog w) A (keyKind' vs.toArray) Q (fun _ _=>False) { s with heap:=h' })
 (lt:∀ h',ik a s.heap h'->∀ i j (C:Bool->Shared->Prop),i<vs.length->j<vs.length->C (O.blt (key i) (key j)) { s with heap:=h' }->PySem.W.kas_ask prog w A κ vs i j C { s with heap:=h' })
 (h:∀ p h' c,b0 vs.length p->mr O key p vs.length->ik a s.heap h'->h'.get? a=some (seqObj "list" (p.toList.map fun i=>vs.getD i Value.none).toArray c)->P (.done (.ret .none)) { s with heap:=h' }) :
 wpAny (model prog w) A (Builtin.«list.sort» ⟨[.ref a],[]⟩) P E s:=by
 have ha:a<s.heap.objs.size:=aw ho
 have sz:sizeLine=16777216:=sizeLine_eq
 have h127:vs.length<=127:=by rcases h64 with h | h<;>lia
 rw [list_sort_plain]
 refine wpAny_bind (listItems_at ho rfl (wpAny_bind (listUpdate_at ho rfl ?_ (by rw [ao];lia) (aU _))))
 obtain ⟨e1,ho1⟩:∃ e1,(s.heap.update a (cV fun _=>(#[]:Array Value))).get? a=some (seqObj "list" #[] e1):=⟨_,get?_update_seq ho fun _=>#[]⟩
 refine wpAny_bind (seqEpoch_at ho1 rfl (wpAny_bind (wpAny_newTuple (wpAny_bind (wpAny_newList (wpAny_holding ?_) (aU _))) (by show vs.length<=_;lia))))
 show wpAny (model prog w) A _ P E { s with heap:=(((s.heap.update a (cV fun _=>(#[]:Array Value))).push (seqObj "tuple" vs.toArray 0)).push (seqObj "list" #[] 0)) }
 generalize hg:(((s.heap.update a (cV fun _=>(#[]:Array Value))).push (seqObj "tuple" vs.toArray 0)).push (seqObj "list" #[] 0))=g
 have hga:g.get? a=some (seqObj "list" #[] e1):=by rw [<- hg];exact aa _ (aa _ ho1)
 have hgk:ik a s.heap g:=fun b o hb e=>by rw [<- hg];exact aa _ (aa _ ((aG _ _ (Ne.symm hb)).trans e))
 dsimp only
 have fin:∀ (out:Array Value) (p:Array Nat),out=(p.toList.map fun i=>vs.getD i Value.none).toArray->b0 vs.length p->mr O key p vs.length->P (.done (.ret .none)) { s with heap:=g.update a (cV fun _=>out) }:=fun out p eo hp hu=>by
  subst eo
  refine h p _ _ hp hu (fun b o hb e=>(aG _ _ (Ne.symm hb)).trans (hgk b o hb e)) (get?_update_seq hga fun _=>_)
 by_cases h2:vs.toArray.size<2
 ·rw [if_pos h2,if_pos h2]
  refine wpAny_bind (wpAny_pure ?_)
  rw [StateT.run_pure]
  refine wpAny_bind (wpAny_pure ?_)
  dsimp only
  have es:(arrOf (SortSt.mk' general' (vs.toArray.zip vs.toArray) #[] 7 none)).map (·.2)=vs.toArray:=by
   show (vs.toArray.zip vs.toArray).map (·.2)=_
   have e:oP (fun x=>x.snd) (vs.zip vs)=vs:=List.map_snd_zip (ag _)
   simp [e]
  rw [es]
  refine wpAny_bind (seqEpoch_at hga rfl (wpAny_bind (listUpdate_at hga rfl ?_ (aU _) (by rw [ao];lia))))
  simp only [bne_self_eq_false,dG,if_false]
  refine wpAny_pure (fin _ (bp vs.length).toArray ?_ ⟨.refl _⟩ fun i j hij hj=>?_)
  ·congr 1
   apply mX
   ·simp
   ·intro i h1 h2;simp [h1]
  ·rw [ao] at h2
   have:i=j:=by lia
   subst this
   exact KeyOrd.kle_refl _
 ·rw [if_neg h2,if_neg h2]
  rw [ao] at h2
  refine wpAny_bind (wpAny_mono (kind g hgk (by lia) _ ?_) (fun _ _ x=>x) fun _ _ x=>x.elim)
  refine wpAny_bind (wpAny_mono (vQ (O:=O) (key:=key) (ks:=vs) (vs:=vs) rfl (by lia) h64 (fun i j C hi hj hc=>lt g hgk i j C hi hj hc)) ?_ fun _ _ e=>e)
  rintro ⟨⟨⟩,st'⟩ s' ⟨rfl,p,har,hf,hp,hu⟩
  dsimp only
  have hout:=PySem.W.kat_snds rfl har
  rw [hout]
  refine wpAny_bind (seqEpoch_at hga rfl (wpAny_bind (listUpdate_at hga rfl ?_ (aU _) ?_)))
  ·rw [hf]
   simp only [bne_self_eq_false,dG,if_false]
   exact wpAny_pure (fin _ p rfl hp hu)
  ·rw [ao,af,aF,hp.size];lia
noncomputable def fw (prog:Program) (w:World) (A:Around) (s:Shared) (x:Value) (vs:List Value):Prop :=
 ∀ (E:Value->Shared->Prop) (R:List Value->Shared->Prop),(∀ h' tk,(∀ b o,s.heap.get? b=some o->h'.get? b=some o)->R vs { s with heap:=h',toks:=tk })->wpAny (model prog w) A (collect x) R E s
theorem iS {x:Value} {Q:Value->Shared->Prop} (col:fw prog w A.in1 s x vs) (h64:vs.length<64\/(vs.length<=127/\∀ i j,i<vs.length->j<vs.length->key i=key j->i=j))
 (kind:∀ h' tk,(∀ b o,s.heap.get? b=some o->h'.get? b=some o)->2<=vs.length->∀ Q:SortKind->Shared->Prop,Q κ { s with heap:=h',toks:=tk }->wpAny (model prog w) A.in1.in1 (keyKind' vs.toArray) Q (fun _ _=>False) { s with heap:=h',toks:=tk })
 (lt:∀ h' tk,(∀ b o,s.heap.get? b=some o->h'.get? b=some o)->∀ i j (C:Bool->Shared->Prop),i<vs.length->j<vs.length->C (O.blt (key i) (key j)) { s with heap:=h',toks:=tk }->PySem.W.kas_ask prog w A.in1.in1 κ vs i j C { s with heap:=h',toks:=tk })
 (h:∀ (p:Array Nat) (h1 h':Heap) (tk:Nat) (c:Nat),b0 vs.length p->mr O key p vs.length->(∀ b o,s.heap.get? b=some o->h1.get? b=some o)->(∀ b o,h1.get? b=some o->h'.get? b=some o)->h'.get? h1.objs.size=some (seqObj "list" (p.toList.map fun i=>vs.getD i Value.none).toArray c)->Q (.ref h1.objs.size) { s with heap:=h',toks:=tk }) :
 wpAny (model prog w) A (call (.builtin "sorted") [x]) Q E s:=by
 have sz:sizeLine=16777216:=sizeLine_eq
 have h127:vs.length<=127:=by rcases h64 with h | h<;>lia
 refine Calls.call_function_entry kind_sorted plain_sorted entry_sorted (args_sorted1 _) ?_
 unfold Builtin.«sorted»
 refine wpAny_bind (m:=checkCount "sorted" 1 1 _) (wpAny_pure (wpAny_bind (col _ _ fun h1 tk k1=>?_)))
 refine wpAny_bind (wpAny_newList ?_ (by lia))
 have hoD:(h1.push (seqObj "list" vs.toArray 0)).get? h1.objs.size=some (seqObj "list" vs.toArray 0):=aj _ rfl
 have kp1:∀ h',ik h1.objs.size (h1.push (seqObj "list" vs.toArray 0)) h'->∀ b o,h1.get? b=some o->h'.get? b=some o:=fun h' k b o e =>
  k b o (aL (aw e)) (aa _ e)
 have kp:∀ h',ik h1.objs.size (h1.push (seqObj "list" vs.toArray 0)) h'->∀ b o,s.heap.get? b=some o->h'.get? b=some o:=fun h' k b o e=>kp1 h' k b o (k1 b o e)
 show wpAny _ _ _ _ _ { s with heap:=h1.push (seqObj "list" vs.toArray 0),toks:=tk }
 refine wpAny_bind (wpAny_holding (wpAny_call_entry slot_list_sort ⟨_,hoD,rfl⟩ entry_list_sort ?body (args_list_sort _)))
 case body =>
  refine qb (s:={ s with heap:=h1.push (seqObj "list" vs.toArray 0),toks:=tk }) (O:=O) (key:=key) (κ:=κ) hoD h64 (fun h' k h2 Q' q=>kind h' tk (kp h' k) h2 Q' q) (fun h' k i j C hi hj c=>lt h' tk (kp h' k) i j C hi hj c) fun p h' c hp hu k e=>?_
  exact ⟨_,rfl,wpAny_pure ⟨_,rfl,h p h1 h' tk c hp hu k1 (kp1 h' k) e⟩⟩
end
end Ry
namespace Ms
structure Lin {α:Type} (lt:α->α->Bool):Prop where
 irr:∀ a,lt a a=false
 tr:∀ a b c,lt a b=true->lt b c=true->lt a c=true
 tot:∀ a b,lt a b=false->lt b a=false->a=b
section
variable {α:Type} (lt:α->α->Bool)
noncomputable def ins (a:α):List α->List α
 | []=>[a]
 | b::r=>if lt b a=true then b::ins a r else a::b::r
noncomputable def srt:List α->List α
 | []=>[]
 | a::r=>ins lt a (srt r)
variable {lt}
noncomputable def Le (lt:α->α->Bool) (a b:α):Prop:=lt b a=false
theorem Lin.asym (h:Lin lt) {a b:α} (q:lt a b=true):lt b a=false:=by
 cases e:lt b a with
 | false=>rfl
 | true=>have:=h.tr _ _ _ q e;rw [h.irr] at this;cases this
theorem Lin.letr (h:Lin lt) {a b c:α} (p:Le lt a b) (q:Le lt b c):Le lt a c:=by
 unfold Le at *
 cases e:lt c a with
 | false=>rfl
 | true =>
   cases e2:lt a b with
   | true=>have:=h.tr _ _ _ e e2;rw [q] at this;cases this
   | false=>have:=h.tot _ _ e2 p;subst this;rw [q] at e;cases e
theorem Lin.ofLt (h:Lin lt) {a b:α} (q:lt a b=true):Le lt a b:=h.asym q
theorem mM (a:α):∀ l:List α,(ins lt a l).Perm (a::l)
 | []=>.refl _
 | b::r=>by
   unfold ins
   split
   ·exact ((mM a r).cons b).trans (.swap ..)
   ·exact .refl _
theorem srt_perm:∀ l:List α,(srt lt l).Perm l
 | []=>.refl _
 | a::r=>(mM a _).trans ((srt_perm r).cons a)
theorem kQ (h:Lin lt) (a:α):∀ {l:List α},l.Pairwise (Le lt)->(ins lt a l).Pairwise (Le lt)
 | [],_=>by unfold ins;exact bj _ _
 | b::r,q=>by
   obtain ⟨h1,h2⟩:=aN.mp q
   unfold ins
   split
   ·rename_i hb
    refine aN.mpr ⟨fun x hx=>?_,kQ h a h2⟩
    rcases ah.mp ((mM a r).mem_iff.mp hx) with e | e
    ·subst e;exact h.ofLt hb
    ·exact h1 x e
   ·rename_i hb
    have hab:Le lt a b:=by unfold Le;simpa using hb
    refine aN.mpr ⟨fun x hx=>?_,q⟩
    rcases ah.mp hx with e | e
    ·subst e;exact hab
    ·exact h.letr hab (h1 x e)
theorem kZ (h:Lin lt):∀ l:List α,(srt lt l).Pairwise (Le lt)
 | []=>.nil
 | a::r=>kQ h a (kZ h r)
theorem dq (h:Lin lt):∀ {l m:List α},l.Perm m->l.Pairwise (Le lt)->m.Pairwise (Le lt)->l=m
 | [],m,p,_,_=>(Et.mp p).symm
 | a::l,[],p,_,_=>absurd (p.length_eq) (by simp)
 | a::l,b::m,p,h1,h2=>by
   obtain ⟨a1,a2⟩:=aN.mp h1
   obtain ⟨b1,b2⟩:=aN.mp h2
   have e:a=b:=by
    rcases ah.mp (p.mem_iff.mp (ax)) with e | e
    ·exact e
    ·rcases ah.mp (p.mem_iff.mpr (ax (a:=b) (l:=m))) with e' | e'
     ·exact e'.symm
     ·exact h.tot _ _ (b1 a e) (a1 b e')
   subst e
   rw [dq h (List.Perm.cons_inv p) a2 b2]
theorem srt_strict (h:Lin lt) {l:List α} (q:l.Nodup):(srt lt l).Pairwise fun a b=>lt a b=true:=by
 have nd:(srt lt l).Nodup:=(srt_perm l).nodup_iff.mpr q
 have hs:=kZ h l
 have both:=hs.and nd
 refine both.imp fun {a b} z=>?_
 cases e:lt a b with
 | true=>rfl
 | false=>exact absurd (h.tot _ _ e z.1) z.2
theorem strict_ext (h:Lin lt) {l m:List α} (p:l.Pairwise fun a b=>lt a b=true) (q:m.Pairwise fun a b=>lt a b=true) (e:∀ x,x∈l↔x∈m):l=m:=by
 have ndl:l.Nodup:=p.imp fun {a b} z w=>by subst w;rw [h.irr] at z;cases z
 have ndm:m.Nodup:=q.imp fun {a b} z w=>by subst w;rw [h.irr] at z;cases z
 exact dq h ((List.perm_ext_iff_of_nodup ndl ndm).mpr e) (p.imp fun z=>h.ofLt z) (q.imp fun z=>h.ofLt z)
theorem srt_map {β:Type} {lt':β->β->Bool} {f:α->β} (e:∀ a b,lt' (f a) (f b)=lt a b):∀ l:List α,srt lt' (l.map f)=(srt lt l).map f
 | []=>rfl
 | a::r=>by
   have hi:∀ l:List α,ins lt' (f a) (l.map f)=(ins lt a l).map f:=fun l=>by
    induction l with
    | nil=>rfl
    | cons b r ih =>
      show (if lt' (f b) (f a)=true then _ else _)=oP f (if lt b a=true then _ else _)
      rw [e]
      split
      ·rw [aC,<- ih]
      ·rfl
   show ins lt' (f a) (srt lt' (r.map f))=(ins lt a (srt lt r)).map f
   rw [srt_map e r,hi]
end
noncomputable def ltI (a b:Int):Bool:=decide (a<b)
theorem linI:Lin ltI:=⟨fun a=>by simp [ltI],fun a b c=>by simp only [ltI,decide_eq_true_eq];lia,fun a b=>by simp only [ltI,decide_eq_false_iff_not];lia⟩
noncomputable def ltP (p q:Int×Int):Bool:=if p.1=q.1 then decide (p.2<q.2) else decide (p.1<q.1)
theorem linP:Lin ltP:=by
 refine ⟨fun a=>by simp [ltP],fun a b c h1 h2=>?_,fun a b h1 h2=>?_⟩
 ·unfold ltP at *
  split at h1<;>split at h2<;>split<;>simp only [decide_eq_true_eq] at *<;>lia
 ·unfold ltP at *
  split at h1<;>split at h2<;>simp only [decide_eq_false_iff_not] at *<;>(first | lia | exact Prod.ext (by lia) (by lia))
theorem length_le_of_subset {α:Type} [DecidableEq α]:∀ {l m:List α},l.Nodup->(∀ x∈l,x∈m)->l.length<=m.length
 | [],_,_,_=>aU _
 | a::l,m,nd,h=>by
   obtain ⟨n1,n2⟩:=aV.mp nd
   have ha:a∈m:=h a (ax)
   have:=length_le_of_subset (l:=l) (m:=m.erase a) n2 fun x hx=>(List.mem_erase_of_ne (fun z=>n1 (by rw [<- z];exact hx))).mpr (h x (al _ hx))
   rw [List.length_erase_of_mem ha] at this
   have hp:0<m.length:=List.length_pos_of_mem ha
   rw [aA]
   lia
end Ms
namespace Ry
open PySem PySem.Spec PyProof.Rows L2
theorem pe (O:KeyOrd):∀ l:List O.α,Aw O l=Ms.srt O.blt l:=by
 have hi:∀ (a:O.α) (l:List O.α),v6 O a l=Ms.ins O.blt a l:=fun a l=>by
  induction l with
  | nil=>rfl
  | cons b r ih=>unfold v6 Ms.ins;rw [ih]
 intro l
 induction l with
 | nil=>rfl
 | cons a r ih=>unfold Aw Ms.srt;rw [hi,ih]
section
variable {prog:Program} {w:World} {A:Around} {s:Shared}
theorem mD {l:Addr} {vs:List Value} (hl:s.heap.IsList l vs.toArray) (hsz:vs.length<=sizeLine):fw prog w A s (.ref l) vs:=by
 intro E R h
 refine collect_list hl ?_ hsz
 have:=h ((s.heap.push (seqObj "list" #[] 0)).update s.heap.objs.size (cV (·++vs.toArray))) s.toks fun b o e=>by
  rw [yd _ _ _ _ (aL (aw e))]
  exact aa _ e
 exact this
theorem kE {l:Addr} {vs:List Value} (hl:IsTup s.heap l vs.toArray) (hsz:vs.length<=sizeLine):fw prog w A s (.ref l) vs:=by
 intro E R h
 obtain ⟨o,ho,hc,n,hd⟩:=id hl
 unfold collect
 refine wpAny_bind (wpAny_runValue (codeAny_builtin entry_proto_collect' ?_))
 show wpAny _ _ (do again (.builtin "list.__iadd__" ⟨[<- newList [],.ref l],[]⟩)) _ _ s
 refine wpAny_bind (wpAny_newList (wpAny_pure ⟨Code.quiet_builtin _ (by decide +kernel),codeAny_builtin entry_list_iadd' ?_⟩))
 show wpAny _ _ (Builtin.List.listExtendWith (.ref s.heap.objs.size) (.ref l) (.ref s.heap.objs.size)) _ _ { s with heap:=s.heap.push (seqObj "list" #[] 0) }
 unfold Builtin.List.listExtendWith
 have ho':(s.heap.push (seqObj "list" #[] 0)).get? l=some o:=aa _ ho
 refine wpAny_bind (wpAny_typeOf (T:="tuple") ⟨o,ho',hc⟩ ?_)
 have ht:(Value.type "tuple" == Value.type "tuple")=true:=by rfl
 rw [if_pos (by rw [ht];simp)]
 refine wpAny_bind (listItems_at ho' hd ?_)
 refine wpAny_bind (listItems_at (xs:=#[]) (n:=0) (aj _ rfl) rfl ?_)
 rw [if_neg (by simp)]
 refine wpAny_bind (listUpdate_at (xs:=#[]) (n:=0) (aj _ rfl) rfl ?_ (aU _) (by show (#[]++vs.toArray).size<=sizeLine+1;simp only [Array.size_append,ao,cT];lia))
 refine wpAny_pure ?_
 show wpAny (model prog w) A (do
  let o <- load s.heap.objs.size
  match o.data with
  | .seq xs _=>pure xs.toList
  | _=>unsupported "internal:collect") R E { s with heap:=(s.heap.push (seqObj "list" #[] 0)).update s.heap.objs.size (cV (·++vs.toArray)) }
 refine wpAny_bind (wpAny_load (get?_update_seq (aj _ rfl) _) ?_)
 show wpAny _ _ (pure ((#[]:Array Value)++vs.toArray).toList) R E _
 rw [show ((#[]:Array Value)++vs.toArray).toList=vs by simp]
 exact wpAny_pure (h ((s.heap.push (seqObj "list" #[] 0)).update s.heap.objs.size (cV (·++vs.toArray))) s.toks fun b o e=>by
  rw [yd _ _ _ _ (aL (aw e))]
  exact aa _ e)
theorem iN {d:Addr} {es:Array DictEntry} {ep:Nat} (hh:A.handled=none) (lo:(d == sysModules)=false) (hm:eu s.heap d es ep) (hz:es.size<=sizeLine):fw prog w A s (.ref d) (es.toList.map (·.key)):=by
 intro E R h
 refine PySem.W.kdu_collect (wb lo) hh hm hz fun h' tk acc k it=>?_
 have e:acc.toList=es.toList.map (·.key):=by
  apply dZ
  intro i
  rw [aR,av,aR]
  cases q:acc[i]? with
  | none =>
    have:es.size<=i:=by rw [<- it.1];exact Array.getElem?_eq_none_iff.mp q
    rw [b7 this];rfl
  | some v =>
    obtain ⟨hl,rfl⟩:=it.2 i v q
    rw [aI hl];rfl
 rw [e]
 exact h h' tk k
end
section
variable {prog:Program} {w:World} {A:Around} {s:Shared}
theorem tK {Q:Bool->Shared->Prop}:∀ {ns ms:List Int} {us ws:List Value} {fin:Bool} (i:Nat),cq (ns.map V.int) us->cq (ms.map V.int) ws->fin=decide (ns.length<ms.length)->Q (HT.lexLt ns ms) s->PySem.W.KatLex prog w A true fin Q (us.zip ws) i s
 | [],ms,us,ws,fin,i,r1,r2,hf,q=>by
   have:us=[]:=cq.zero r1
   subst this
   have e:HT.lexLt [] ms=fin:=by rw [hf];cases ms<;>simp [HT.lexLt]
   rw [e] at q
   exact q
 | n::ns,[],us,ws,fin,i,r1,r2,hf,q=>by
   have:ws=[]:=cq.zero r2
   subst this
   have e:HT.lexLt (n::ns) []=fin:=by rw [hf];simp [HT.lexLt]
   rw [e] at q
   rw [Ap]
   exact q
 | n::ns,m::ms,us,ws,fin,i,r1,r2,hf,q=>by
   cases r1 with
   | cons h1 r1 =>
     cases r2 with
     | cons h2 r2 =>
       obtain ⟨t,rfl⟩:=h1
       obtain ⟨t',rfl⟩:=h2
       rw [kn]
       refine PySem.W.kat_cons (wpAny_eqBool_int ?_)
       by_cases e:n=m
       ·subst e
        rw [beq_self_eq_true]
        refine PySem.W.kat_yes (tK (i+1) r1 r2 (by rw [hf];simp) ?_)
        have:HT.lexLt (n::ns) (n::ms)=HT.lexLt ns ms:=by rw [HT.lexLt_cons,if_pos rfl]
        rw [this] at q
        exact q
       ·rw [show (n == m)=false from beq_eq_false_iff_ne.mpr e]
        have hq:HT.lexLt (n::ns) (m::ms)=decide (n<m):=by rw [HT.lexLt_cons,if_neg e]
        rw [hq] at q
        refine PySem.W.kat_no ?_
        cases hb:(true&&i == 0) with
        | true=>exact oneLt_int q
        | false=>exact PySem.W.kat_one _ _ (lt_int q)
end
end Ry
namespace Ry
open PySem PySem.Spec PyProof.Rows L2
structure Plc {α:Type} (lt:α->α->Bool) (d:α) (ks:List α) (q:List Nat):Prop where
 perm:q.Perm (bp ks.length)
 srt:q.map (fun i=>ks.getD i d)=Ms.srt lt ks
section
variable {X:Cx} {pins:List (Addr×Obj)} {σ:St} {H:Hp} {s:Shared}
theorem gH {xs:List V} {us:List Value} (r:cq xs us):∀ q:List Nat,(∀ i∈q,i<xs.length)->cq (q.map fun i=>xs.getD i .non) (q.map fun i=>us.getD i Value.none)
 | [],_=>.nil
 | i::q,h=>by
   obtain ⟨u,hu,ru⟩:=r.get (ae (h i (ax)))
   refine .cons ?_ (gH r q fun j hj=>h j (al _ hj))
   have e1:xs.getD i .non=xs[i]'(h i (ax)):=by simp [h i (ax)]
   have e2:us.getD i Value.none=u:=by rw [ai,hu];rfl
   show dH (xs.getD i .non) (us.getD i Value.none)
   rw [e1,e2]
   exact ru
theorem hE {x:Value} {ns:List Int} {vs:List Value} {Q:VK} (I:Inv X pins σ H s) (col:fw X.prog X.w X.A.in1 s x vs) (rv:cq (ns.map V.int) vs) (h64:ns.length<64)
 (k:∀ p,H p=none->Q (.ref p) (upd H p (.lst ((Ms.srt Ms.ltI ns).map V.int)))):wpAny (model X.prog X.w) X.A (call (.builtin "sorted") [x]) (EP X pins σ Q) X.xe s:=by
 have hl:vs.length=ns.length:=by rw [<- rv.length,af]
 have at':∀ i,i<vs.length->∃ t,vs.getD i Value.none=.int (ns.getD i 0) t:=fun i hi=>by
  have hi':i<ns.length:=by lia
  obtain ⟨u,hu,ru⟩:=rv.get (i:=i) (x:=.int ns[i]) (by rw [av,ae hi'];rfl)
  obtain ⟨t,rfl⟩:=ru
  refine ⟨t,?_⟩
  rw [ai,hu,ai,ae hi'];rfl
 refine iS (O:=xS) (κ:=oneType') (key:=fun i=>ns.getD i 0) col (.inl (by lia)) (fun h' tk kp h2 Q' q=>?_) (fun h' tk kp i j C hi hj c=>?_) fun p h1 h' tk c hp hu k1 kp e=>?_
 ·refine PySem.W.kas_kind (T:=.type "int") h2 (fun v hv=>?_) (by decide) (by decide) q
  obtain ⟨i,hi,rfl⟩:=bq hv
  obtain ⟨t,e⟩:=at' i hi
  have e2:vs[i]=.int (ns.getD i 0) t:=by rw [<- e];simp [hi]
  rw [e2]
  exact .now
 ·show wpAny (model X.prog X.w) _ (keyLt' oneType' (vs.getD i Value.none) (vs.getD j Value.none)) C _ _
  obtain ⟨t,e1⟩:=at' i hi
  obtain ⟨t',e2⟩:=at' j hj
  rw [e1,e2]
  exact PySem.W.kat_lt_int c
 ·rw [hl] at hp hu
  have pl:=io (O:=xS) (0:Int) hp hu
  have hz:sizeLine=16777216:=sizeLine_eq
  have hpm:∀ i∈p.toList,i<(ns.map V.int).length:=fun i hi=>by
   have h1:p.toList.Perm (bp ns.length):=by simpa using bh.mp hp.perm
   rw [af]
   simpa using h1.mem_iff.mp hi
  have r2:=gH rv p.toList hpm
  have e3:(p.toList.map fun i=>(ns.map V.int).getD i .non)=(Ms.srt Ms.ltI ns).map V.int:=by
   have:(p.toList.map fun i=>ns.getD i 0)=Ms.srt Ms.ltI ns:=by
    exact pl.trans (pe xS ns)
   rw [<- this,aT]
   refine eM fun i hi=>?_
   have hi':=hpm i hi
   rw [af] at hi'
   simp [hi']
  rw [e3] at r2
  have hlen:((Ms.srt Ms.ltI ns).map V.int).length<=sizeLine:=by rw [af,(Ms.srt_perm ns).length_eq];lia
  have I1:Inv X pins σ H { s with heap:=h1,toks:=tk }:=I.kept (t':=tk) k1
  exact ⟨.ref h1.objs.size,_,I1.laid (t':=tk) kp (ag _) (show eG X.prog X.w _ h' _ (.lst _) from ⟨hlen,_,c,r2,e⟩),rfl,k _ (I1.hok.fresh (ag _))⟩
theorem g8 {x:Value} {ts:List (List Int)} {ys:List V} {vs:List Value} {Q:VK} (I:Inv X pins σ H s) (col:fw X.prog X.w X.A.in1 s x vs) (rv:cq ys vs) (hy:ys.length=ts.length)
 (hys:∀ i,i<ts.length->∃ a,ys[i]?=some (.ref a)/\SqT X.K H a ((ts.getD i []).map V.int)/\ts.getD i []≠[]) (h64:OkN ts)
 (k:∀ p q,H p=none->Plc HT.lexLt [] ts q->Q (.ref p) (upd H p (.lst (q.map fun i=>ys.getD i .non)))):wpAny (model X.prog X.w) X.A (call (.builtin "sorted") [x]) (EP X pins σ Q) X.xe s:=by
 have hl:vs.length=ts.length:=by rw [<- rv.length,hy]
 have at':∀ i,i<vs.length->∃ (a:Addr) (its:List Value),vs.getD i Value.none=.ref a/\cq ((ts.getD i []).map V.int) its/\IsTup s.heap a its.toArray/\ts.getD i []≠[]:=fun i hi=>by
  obtain ⟨a,e,sq,ne⟩:=hys i (by lia)
  obtain ⟨u,hu,ru⟩:=rv.get e
  cases (show u=Value.ref a from ru)
  obtain ⟨its,r,it,_⟩:=I.tuple sq
  exact ⟨a,its,by rw [ai,hu];rfl,r,it,ne⟩
 refine iS (O:=oV) (κ:=tuples' true) (key:=fun i=>ts.getD i []) col (by rw [hl];exact h64.inj []) (fun h' tk kp h2 Q' q=>?_) (fun h' tk kp i j C hi hj c=>?_) fun p h1 h' tk c hp hu k1 kp e=>?_
 ·have firsts:∀ us:List Value,(∀ u∈us,∃ i,i<vs.length/\u=vs.getD i Value.none)->∃ fs:List Value,PySem.W.KatTups h' us fs/\us.length=fs.length/\∀ f∈fs,∃ n t,f=Value.int n t:=fun us=>by
   induction us with
   | nil=>exact fun _=>⟨[],.nil,rfl,by simp⟩
   | cons u us ih =>
     intro hu
     obtain ⟨fs,h1,h2,h3⟩:=ih fun v hv=>hu v (al _ hv)
     obtain ⟨i,hi,rfl⟩:=hu u (ax)
     obtain ⟨a,its,ea,r,⟨o,ho,hc,n,hd⟩,ne⟩:=at' i hi
     cases ht:ts.getD i [] with
     | nil=>exact absurd ht ne
     | cons m ms =>
       rw [ht] at r
       cases r with
       | @cons _ w _ ws rw' r =>
         obtain ⟨t,rfl⟩:=rw'
         refine ⟨.int m t::fs,?_,by rw [aA,aA,h2],fun f hf=>?_⟩
         ·rw [ea]
          exact .cons (kp _ _ ho) hc hd (by simp) h1
         ·rcases ah.mp hf with z | z
          ·exact ⟨m,t,z⟩
          ·exact h3 f z
  obtain ⟨fs,f1,f2,f3⟩:=firsts vs fun u hu=>by
   obtain ⟨i,hi,rfl⟩:=bq hu
   exact ⟨i,hi,by simp [hi]⟩
  refine PySem.W.kat_kind (T:=.type "int") f1 (by lia) (fun v hv=>?_) (by decide) q
  obtain ⟨n,t,rfl⟩:=f3 v hv
  exact .now
 ·show wpAny (model X.prog X.w) _ (keyLt' (tuples' true) (vs.getD i Value.none) (vs.getD j Value.none)) C _ _
  obtain ⟨a,its,e1,r1,⟨o,ho,hc,n,hd⟩,_⟩:=at' i hi
  obtain ⟨a',its',e2,r2,⟨o',ho',hc',n',hd'⟩,_⟩:=at' j hj
  rw [e1,e2]
  refine PySem.W.kat_lt (kp _ _ ho) hd (kp _ _ ho') hd' ?_
  have l1:=r1.length
  have l2:=r2.length
  rw [af] at l1 l2
  exact tK 0 r1 r2 (by rw [ao,ao,l1,l2]) c
 ·rw [hl] at hp hu
  have pl:=io (O:=oV) ([]:List Int) hp hu
  have hz:sizeLine=16777216:=sizeLine_eq
  have h1p:p.toList.Perm (bp ts.length):=by simpa using bh.mp hp.perm
  have hpm:∀ i∈p.toList,i<ys.length:=fun i hi=>by rw [hy];simpa using h1p.mem_iff.mp hi
  have r2:=gH rv p.toList hpm
  have hlen:(p.toList.map fun i=>ys.getD i .non).length<=sizeLine:=by rw [af,h1p.length_eq,cw];lia
  have I1:Inv X pins σ H { s with heap:=h1,toks:=tk }:=I.kept (t':=tk) k1
  refine ⟨.ref h1.objs.size,_,I1.laid (t':=tk) kp (ag _) (show eG X.prog X.w _ h' _ (.lst _) from ⟨hlen,_,c,r2,e⟩),rfl,k _ p.toList (I1.hok.fresh (ag _)) ⟨h1p,?_⟩⟩
  exact pl.trans (pe oV ts)
end
end Ry
namespace Ry
open PySem PySem.Spec PyProof.Rows L2
section
variable {X:Cx} {pins:List (Addr×Obj)} {σ:St} {H:Hp} {s:Shared} {A:Around} {p:Addr}
theorem pX {ys:List V} (I:Inv X pins σ H s) (h:SqL X.K H p ys\/SqT X.K H p ys):∃ vs,fw X.prog X.w A s (.ref p) vs/\cq ys vs:=by
 rcases h with h | h
 ·obtain ⟨its,r,pl,z⟩:=I.list h
  exact ⟨its,mD pl.isList (by rw [<- r.length];exact z),r⟩
 ·obtain ⟨its,r,pl,z⟩:=I.tuple h
  exact ⟨its,kE pl (by rw [<- r.length];exact z),r⟩
theorem rq {prog:Program} {w:World} {knd:KeyKind prog w Key} (hk:∀ k v,knd.is k v=true->dH (kV k) v) {es:List DictEntry} {kvs:List (Key×Value)} (h:Pairs knd es kvs):cq (kvs.map fun kv=>kV kv.1) (es.map (·.key)):=by
 induction h with
 | nil=>exact .nil
 | cons h1 _ _ ih=>exact .cons (hk _ _ h1) ih
theorem wU {k:Key} {v:Value} (h:oz k v=true):dH (kV k) v:=by
 rcases cm h with ⟨z,t,e1,e2⟩ | ⟨z,t,e1,e2⟩
 ·rw [e1,e2];exact ⟨t,rfl⟩
 ·rw [e1,e2];exact ⟨t,rfl⟩
theorem Bu {kvs:List (Key×V)} (I:Inv X pins σ H s) (hh:A.handled=none) (h:Rd H p (.dK kvs)):∃ vs,fw X.prog X.w A s (.ref p) vs/\cq (kvs.map fun kv=>kV kv.1) vs:=by
 obtain ⟨hz,lo,vs,r,o,es,ep,ho,hx,hd,hk,hp,hn⟩:=h.ok I.hok
 have e:kvs.map (fun kv=>kV kv.1)=vs.map (fun kv=>kV kv.1):=by
  have:=r.keys
  have e2:=congrArg (oP kV) this
  rw [aT,aT] at e2
  exact e2
 have rv:=rq (fun k v h=>wU h) hp
 refine ⟨es.toList.map (·.key),iN hh lo ⟨o,ho,hx,hd⟩ ?_,by rw [e];exact rv⟩
 have l1:=rv.length
 rw [af,af,aF] at l1
 have l2:=Paired.length r
 show es.size<=sizeLine
 have hz':kvs.length<=sizeLine:=hz
 have l3:kvs.length=vs.length:=l2
 have l4:vs.length=es.size:=l1
 rw [<- l4,<- l3]
 exact hz'
theorem BD {kvs:List (List Key×V)} (I:Inv X pins σ H s) (hh:A.handled=none) (h:Rd H p (.dT kvs)):∃ (vs:List Value) (as:List Addr),fw X.prog X.w A s (.ref p) vs/\cq (as.map V.ref) vs/\as.length=kvs.length/\∀ (i:Nat) (kv:List Key×V) (a:Addr),kvs[i]?=some kv->as[i]?=some a->H a=some (.tup (kv.1.map kV)):=by
 obtain ⟨hz,lo,xs,r,o,es,ep,ho,hx,hd,he,hn⟩:=h.ok I.hok
 have l2:=Paired.length r
 have hes:es.toList.map (·.key)=xs.map fun x=>Value.ref x.2.1:=by rw [he,aT];rfl
 refine ⟨es.toList.map (·.key),xs.map (·.2.1),iN hh lo ⟨o,ho,hx,hd⟩ ?_,?_,by rw [af];exact l2.symm,fun i kv a h1 h2=>?_⟩
 ·have:=congrArg gc he
  rw [aF,af] at this
  lia
 ·rw [hes,aT]
  have:∀ l:List (List Key×Addr×Value),cq (l.map (V.ref∘fun x=>x.2.1)) (l.map fun x=>Value.ref x.2.1):=fun l=>by
   induction l with
   | nil=>exact .nil
   | cons a l ih=>exact .cons rfl ih
  exact this xs
 ·rw [av] at h2
  cases q:xs[i]? with
  | none=>rw [q] at h2;cases h2
  | some x =>
    rw [q] at h2
    cases h2
    have:∀ {l:List (List Key×V)} {m:List (List Key×Addr×Value)} {i:Nat} {kv:List Key×V} {x:List Key×Addr×Value},Paired (fun (p:List Key×V) (q:List Key×Addr×Value)=>p.1=q.1/\H q.2.1=some (.tup (p.1.map kV))/\dH p.2 q.2.2) l m->l[i]?=some kv->m[i]?=some x->H x.2.1=some (.tup (kv.1.map kV)):=fun {l m}=>by
     intro i kv x rr
     induction rr generalizing i with
     | nil=>intro h;simp at h
     | cons h _ ih =>
       cases i with
       | zero=>intro h1 h2;simp at h1 h2;subst h1 h2;exact h.2.1
       | succ i=>intro h1 h2;exact ih (by simpa using h1) (by simpa using h2)
    exact this r h1 q
end
end Ry
namespace Ry
open L2
noncomputable def ot:List Da->Option (List (List Int))
 | []=>some []
 | .tup xs::r=>match eQ xs,ot r with
   | some ns,some ts=>some (ns::ts)
   | _,_=>none
 | _=>none
noncomputable def iT (ds:List Da):Option (List Da):=match eQ ds with
 | some ns=>if ns.length<64 then some ((Ms.srt Ms.ltI ns).map Da.int) else none
 | none=>match ot ds with
   | some ts=>if OkN ts/\ts.all (fun t=>!t.isEmpty)=true then some ((Ms.srt HT.lexLt ts).map fun t=>.tup (t.map Da.int)) else none
   | none=>none
noncomputable def gn:List Rv->Option Rv
 | [(_,.lst ds)]=>match iT ds with | some es=>some (.fr,.lst es) | none=>none
 | [(_,.tup ds)]=>match iT ds with | some es=>some (.fr,.lst es) | none=>none
 | [(_,.dK ks _)]=>match iT (ks.map fW) with | some es=>some (.fr,.lst es) | none=>none
 | [(_,.dT ks _)]=>match iT (ks.map fun k=>.tup (k.map fW)) with | some es=>some (.fr,.lst es) | none=>none
 | _=>none
end Ry
namespace Ry
open PySem PySem.Spec PyProof.Rows L2
noncomputable def jY (K:PySem.W.Frag):List V->Hp->VK->Prop:=fun xs H Q=>∃ p,xs=[.ref p]/\(
 (∃ ns:List Int,ns.length<64/\((SqL K H p (ns.map V.int)\/SqT K H p (ns.map V.int))\/∃ kvs,Rd H p (.dK kvs)/\kvs.map (·.1)=ns.map Sum.inl)/\∀ l,H l=none->Q (.ref l) (upd H l (.lst ((Ms.srt Ms.ltI ns).map V.int)))) \/
 (∃ (ts:List (List Int)) (ys:List V),OkN ts/\ys.length=ts.length/\(SqL K H p ys\/SqT K H p ys)/\(∀ i,i<ts.length->∃ a,ys[i]?=some (.ref a)/\SqT K H a ((ts.getD i []).map V.int)/\ts.getD i []≠[])/\∀ l q,H l=none->Plc HT.lexLt [] ts q->Q (.ref l) (upd H l (.lst (q.map fun i=>ys.getD i .non)))) \/
 (∃ (ts:List (List Int)) (kvs:List (List Key×V)),OkN ts/\Rd H p (.dT kvs)/\kvs.map (·.1)=ts.map (fun t=>t.map Sum.inl)/\(∀ t∈ts,t≠[])/\∀ l q (as:List Addr),H l=none->Plc HT.lexLt [] ts q->as.length=ts.length->(∀ i,i<ts.length->∃ a,as[i]?=some a/\H a=some (.tup ((ts.getD i []).map V.int)))->Q (.ref l) (upd H l (.lst (q.map fun i=>(as.map V.ref).getD i .non)))))
theorem getD_some {α:Type} {l:List α} {i:Nat} (h:i<l.length) (d:α):l[i]?=some (l.getD i d):=by rw [ai,ae h];rfl
theorem pF {X:Cx} (hc:X.calm=true):iB X (.builtin "sorted") (jY X.K):=by
 intro pins s σ H xs us Q I r h
 obtain ⟨p,rfl,h⟩:=h
 obtain ⟨u,rfl,rx⟩:=nP r
 cases rx
 have hh:X.A.in1.handled=none:=I.ok.hd hc
 rcases h with ⟨ns,h64,src,k⟩ | ⟨ts,ys,h64,hy,src,hys,k⟩ | ⟨ts,kvs,h64,src,hk,ne,k⟩
 ·rcases src with src | ⟨kvs,src,hk⟩
  ·obtain ⟨vs,col,rv⟩:=pX (A:=X.A.in1) I src
   exact hE I col rv h64 k
  ·obtain ⟨vs,col,rv⟩:=Bu (A:=X.A.in1) I hh src
   have e:kvs.map (fun kv=>kV kv.1)=ns.map V.int:=by
    have:=congrArg (oP kV) hk
    rw [aT,aT] at this
    exact this
   rw [e] at rv
   exact hE I col rv h64 k
 ·obtain ⟨vs,col,rv⟩:=pX (A:=X.A.in1) I src
  exact g8 I col rv hy hys h64 k
 ·obtain ⟨vs,as,col,rv,hl,hat⟩:=BD (A:=X.A.in1) I hh src
  have hkl:kvs.length=ts.length:=by have:=congrArg gc hk;simpa using this
  have hat':∀ i,i<ts.length->∃ a,as[i]?=some a/\H a=some (.tup ((ts.getD i []).map V.int)):=fun i hi=>by
   have h1:i<kvs.length:=by lia
   have h2:i<as.length:=by lia
   refine ⟨as[i],ae h2,?_⟩
   have:=hat i kvs[i] as[i] (ae h1) (ae h2)
   have e:kvs[i].1=(ts.getD i []).map Sum.inl:=by
    have:=congrArg (fun l=>l[i]?) hk
    simp only [av,ae h1,getD_some hi [],Option.map_some] at this
    exact Option.some.inj this
   rw [e,aT] at this
   exact this
  refine g8 I col rv (by rw [af];lia) (fun i hi=>?_) h64 fun l q hl' hq=>k l q as hl' hq (by lia) hat'
  obtain ⟨a,e1,e2⟩:=hat' i hi
  exact ⟨a,by rw [av,e1];rfl,SqT.of e2,ne _ (aZ (getD_some hi []))⟩
theorem qp:∀ {ds:List Da} {ts:List (List Int)},ot ds=some ts->ds=ts.map fun t=>Da.tup (t.map Da.int)
 | [],ts,h=>by cases h;rfl
 | .tup xs::r,ts,h=>by
   have h:(match eQ xs,ot r with | some ns,some ts=>some (ns::ts) | _,_=>none)=some ts:=h
   split at h
   ·rename_i ns ts' e1 e2
    cases h
    rw [qp e2,fq e1]
    rfl
   ·cases h
 | .non::r,ts,h=>by cases h
 | .bl _::r,ts,h=>by cases h
 | .int _::r,ts,h=>by cases h
 | .str _::r,ts,h=>by cases h
 | .lst _::r,ts,h=>by cases h
 | .dK _ _::r,ts,h=>by cases h
 | .dT _ _::r,ts,h=>by cases h
theorem nH {G H:Hp}:∀ (l:List (Addr×List V)),bY G H->(∀ e∈l,H e.1=some (.tup e.2))->∃ G',Ext G H G' H/\∀ e∈l,G' e.1=some (.tup e.2)
 | [],sg,_=>⟨G,Ext.refl sg,by simp⟩
 | (a,xs)::l,sg,h=>by
   obtain ⟨G1,E1,h1⟩:=nH l sg fun e he=>h e (al _ he)
   have ha:=h (a,xs) (ax)
   dsimp only at ha
   cases q:G1 a with
   | some o =>
     have:=E1.gh a o q
     rw [ha] at this
     cases this
     refine ⟨G1,E1,fun e he=>?_⟩
     rcases ah.mp he with z | z
     ·subst z;exact q
     ·exact h1 e z
   | none =>
     refine ⟨upd G1 a (.tup xs),⟨E1.hh,E1.gg.trans (bB q),fun b o z=>?_,fun b o z t w=>?_⟩,fun e he=>?_⟩
     ·by_cases hb:b=a
      ·subst hb;rw [aS] at z;rw [<- z];exact ha
      ·rw [bf hb] at z;exact E1.gh b o z
     ·have hb:b≠a:=fun z'=>by subst z';rw [ha] at z;cases z;cases t
      rw [bf hb];exact E1.nw b o z t w
     ·rcases ah.mp he with z | z
      ·subst z;exact aS
      ·have hb:e.1≠a:=fun z'=>by have:=h1 e z;rw [z',q] at this;cases this
       rw [bf hb];exact h1 e z
theorem jz {K:PySem.W.Frag} {G:Hp} {ds:Nat->Da} {xs:Nat->V}:∀ (q:List Nat),(∀ i∈q,Den K G (ds i) (xs i))->bT K G (q.map ds) (q.map xs)
 | [],_=>rfl
 | i::q,h=>⟨_,_,rfl,h i (ax),jz q fun j hj=>h j (al _ hj)⟩
theorem x6 {α:Type} {lt:α->α->Bool} {d:α} {ks:List α} {q:List Nat} (h:Plc lt d ks q) {i:Nat} (hi:i∈q):i<ks.length:=by simpa using h.perm.mem_iff.mp hi
theorem sA {α:Type} {lt:α->α->Bool} {d:α} {ks:List α} {q:List Nat} (h:Plc lt d ks q) (f:α->Da):(Ms.srt lt ks).map f=q.map fun i=>f (ks.getD i d):=by rw [<- h.srt,aT];rfl
theorem re {K:PySem.W.Frag}:Cal K (jY K) gn:=by
 intro B H0 G H rs c xs Q sg ra e k
 have goI:∀ {p:Addr} {ns:List Int},ns.length<64->((SqL K H p (ns.map V.int)\/SqT K H p (ns.map V.int))\/∃ kvs,Rd H p (.dK kvs)/\kvs.map (·.1)=ns.map Sum.inl)->(∀ l,H l=none->Q (.ref l) (upd H l (.lst ((Ms.srt Ms.ltI ns).map V.int))))->jY K [.ref p] H Q:=fun h1 h2 h3=>⟨_,rfl,.inl ⟨_,h1,h2,h3⟩⟩
 have fin1:∀ ns:List Int,c=(.fr,.lst ((Ms.srt Ms.ltI ns).map Da.int))->∀ l,H l=none->Q (.ref l) (upd H l (.lst ((Ms.srt Ms.ltI ns).map V.int))):=fun ns ec l hl=>by
  refine k _ G _ (Ext.own sg hl) ?_
  rw [ec]
  exact ⟨l,_,rfl,hl,sg.free hl,aS,_,rfl,bT.ints.mpr rfl⟩
 have seq:∀ {p:Addr} {ds:List Da} {ys:List V} {es:List Da},(SqL K H p ys\/SqT K H p ys)->bT K G ds ys->iT ds=some es->c=(.fr,.lst es)->jY K [.ref p] H Q:=fun {p ds ys es} sq dl es' ec=>by
  unfold iT at es'
  split at es'
  ·rename_i ns en
   split at es'
   ·rename_i h64
    cases es'
    rw [fq en] at dl
    have:=bT.ints.mp dl
    subst this
    exact goI h64 (.inl sq) (fin1 ns ec)
   ·cases es'
  ·split at es'
   ·rename_i ts et
    split at es'
    ·rename_i hcond
     obtain ⟨h64,hne⟩:=hcond
     cases es'
     have ed:=qp et
     have hlen:ys.length=ts.length:=by rw [dl.length,ed,af]
     have itm:∀ i,i<ts.length->∃ a xs,ys[i]?=some (.ref a)/\G a=some (.tup xs)/\xs=(ts.getD i []).map V.int:=fun i hi=>by
      have:ds[i]?=some (.tup ((ts.getD i []).map Da.int)):=by rw [ed,av,getD_some hi []];rfl
      obtain ⟨x,hx,a,xs,rfl,ga,da⟩:=dl.get this
      exact ⟨a,xs,hx,ga,bT.ints.mp da⟩
     refine ⟨p,rfl,.inr (.inl ⟨ts,ys,h64,hlen,sq,fun i hi=>?_,fun l q hl hq=>?_⟩)⟩
     ·obtain ⟨a,xs,e1,e2,e3⟩:=itm i hi
      subst e3
      refine ⟨a,e1,SqT.of (sg _ _ e2),fun z=>?_⟩
      have:=bv.mp hne _ (aZ (getD_some hi []))
      rw [z] at this
      cases this
     ·refine k _ G _ (Ext.own sg hl) ?_
      rw [ec,sA hq]
      refine ⟨l,_,rfl,hl,sg.free hl,aS,_,rfl,jz (K:=K) (G:=G) q fun i hi=>?_⟩
      obtain ⟨a,xs,e1,e2,e3⟩:=itm i (x6 hq hi)
      subst e3
      have e4:ys.getD i .non=.ref a:=by rw [ai,e1];rfl
      show Den K G (.tup _) (ys.getD i .non)
      rw [e4]
      exact ⟨a,_,rfl,e2,bT.ints.mpr rfl⟩
    ·cases es'
   ·cases es'
 unfold gn at e
 split at e
 ·split at e
  ·rename_i es' he
   cases e
   obtain ⟨v,rfl,h⟩:=dM.one ra
   obtain ⟨p,ys,rfl,q,d⟩:=h.lst sg
   exact seq (.inl q) d he rfl
  ·cases e
 ·split at e
  ·rename_i es' he
   cases e
   obtain ⟨v,rfl,h⟩:=dM.one ra
   obtain ⟨p,ys,rfl,q,d,g⟩:=h.tup sg
   exact seq (.inr (SqT.of q)) d he rfl
  ·cases e
 ·rename_i kd ks ds
  split at e
  ·rename_i es' he
   cases e
   obtain ⟨v,rfl,h⟩:=dM.one ra
   obtain ⟨p,kvs,rfl,q,ek,d⟩:=h.dK sg
   unfold iT at he
   have ofK:∀ {ks:List Key} {ns:List Int},eQ (ks.map fW)=some ns->ks=ns.map Sum.inl:=fun {ks}=>by
    induction ks with
    | nil=>intro ns h;cases h;rfl
    | cons k ks ih =>
      intro ns h
      cases k with
      | inl i =>
        have h:(eQ (ks.map fW)).map (i::·)=some ns:=h
        cases z:eQ (ks.map fW) with
        | none=>rw [z] at h;cases h
        | some ms=>rw [z] at h;cases h;rw [ih z];rfl
      | inr x=>cases h
   split at he
   ·rename_i ns en
    split at he
    ·rename_i h64
     cases he
     exact goI h64 (.inr ⟨kvs,q,by rw [ek];exact ofK en⟩) (fin1 ns rfl)
    ·cases he
   ·exfalso
    split at he
    ·rename_i hq ts et
     cases ks with
     | nil=>exact absurd (show (some []:Option (List Int))=none by assumption) (by simp)
     | cons k ks=>cases k<;>(simp only [aC,fW] at et;cases et)
    ·cases he
  ·cases e
 ·rename_i kd ks ds
  split at e
  ·rename_i es' he
   cases e
   obtain ⟨v,rfl,h⟩:=dM.one ra
   obtain ⟨p,kvs,rfl,q,ek,d⟩:=h.dT sg
   unfold iT at he
   have none_ints:∀ {ns:List Int},eQ (ks.map fun k=>Da.tup (k.map fW))=some ns->ks=[]:=fun {ns} h=>by
    cases ks with
    | nil=>rfl
    | cons k ks=>cases h
   have go:∀ ts:List (List Int),OkN ts->(∀ t∈ts,t≠[])->ks=ts.map (fun t=>t.map Sum.inl)->es'=(Ms.srt HT.lexLt ts).map (fun t=>Da.tup (t.map Da.int))->jY K [.ref p] H Q:=fun ts h64 hne ek2 ee=>by
    refine ⟨p,rfl,.inr (.inr ⟨ts,kvs,h64,q,by rw [ek,ek2],hne,fun l qq as hl hq hlen hat=>?_⟩)⟩
    obtain ⟨G',E',hG⟩:=nH (G:=G) (H:=H) ((bp ts.length).map fun i=>(as.getD i 0,(ts.getD i []).map V.int)) sg fun e he=>by
     obtain ⟨i,hi,rfl⟩:=bn.mp he
     obtain ⟨a,e1,e2⟩:=hat i (by simpa using hi)
     have e3:as.getD i 0=a:=by rw [ai,e1];rfl
     dsimp only
     rw [e3];exact e2
    have E2:Ext G H G' (upd H l (.lst (qq.map fun i=>(as.map V.ref).getD i .non))):=E'.trans (Ext.own E'.gh hl)
    refine k _ G' _ E2 ?_
    rw [ee,sA hq]
    refine ⟨l,_,rfl,hl,E'.gh.free hl,aS,_,rfl,jz (K:=K) (G:=G') qq fun i hi=>?_⟩
    have hi':=x6 hq hi
    have g:=hG (as.getD i 0,(ts.getD i []).map V.int) (bn.mpr ⟨i,by simpa using hi',rfl⟩)
    have e4:(as.map V.ref).getD i .non=.ref (as.getD i 0):=by
     have:i<as.length:=by lia
     simp [this]
    show Den K G' (.tup _) ((as.map V.ref).getD i .non)
    rw [e4]
    exact ⟨_,_,rfl,g,bT.ints.mpr rfl⟩
   split at he
   ·rename_i ns en
    have e0:=none_ints en
    subst e0
    split at he
    ·cases he
     have:ns=[]:=by cases en;rfl
     subst this
     exact go [] (.inl (by simp)) (by simp) rfl rfl
    ·cases he
   ·split at he
    ·rename_i ts et
     split at he
     ·rename_i hcond
      cases he
      have conv:∀ {ks:List (List Key)} {ts:List (List Int)},ot (ks.map fun k=>Da.tup (k.map fW))=some ts->ks=ts.map (fun t=>t.map Sum.inl):=fun {ks}=>by
       induction ks with
       | nil=>intro ts h;cases h;rfl
       | cons k ks ih =>
         intro ts h
         have h:(match eQ (k.map fW),ot (ks.map fun k=>Da.tup (k.map fW)) with | some ns,some ts=>some (ns::ts) | _,_=>none)=some ts:=h
         split at h
         ·rename_i ns ts' e1 e2
          cases h
          have e3:k=ns.map Sum.inl:=by
           have e4:=fq e1
           have:∀ {k:List Key} {ns:List Int},k.map fW=ns.map Da.int->k=ns.map Sum.inl:=fun {k}=>by
            induction k with
            | nil=>intro ns h;cases ns with
              | nil=>rfl
              | cons _ _=>cases h
            | cons a k ihk =>
              intro ns h
              cases ns with
              | nil=>cases h
              | cons n ns =>
                rw [aC,aC] at h
                injection h with h1 h2
                cases a with
                | inl i=>cases h1;rw [ihk h2];rfl
                | inr x=>cases h1
           exact this e4
          rw [ih e2,e3]
          rfl
         ·cases h
      exact go ts hcond.1 (fun t ht z=>by have:=bv.mp hcond.2 t ht;rw [z] at this;cases this) (conv et) rfl
     ·cases he
    ·cases he
  ·cases e
 ·cases e
section
variable {X:Cx} {e:Expr} {es:List Expr} {p pos:Pos} {g:Rho->Option (List Rv)}
theorem tE (hc:X.calm=true) (hg:Gl X "sorted") (hm:X.mg "sorted" = none) (ha:PXA X (e::es) g) (he:starEach (e::es) X.env=(false,eval e X.env)::starEach es X.env:=by exact bi rfl) (hpl:(backTo pos (starEach es X.env)).any (·.1)=false:=by rfl):PX X (.Call (.Name "sorted" p) (e::es) [] pos) (xB gn g) :=
 Bb (pF hc) re hg hm (by decide +kernel) ha (by decide) (by decide) he hpl
end
end Ry
namespace Ry
open PySem L2
noncomputable def gJ (f:Rho->Option Rv):Rho->Option Rv:=fun ρ=>match f ρ with
 | some (_,.tup ds)=>some (.pu,.tup ds.reverse)
 | some (_,.lst ds)=>some (.pu,.tup ds.reverse)
 | _=>none
noncomputable abbrev UD:=List (Int×List Int)
noncomputable def dD (l:List Int):Da:=.dK (l.map Sum.inl) (l.map fun _=>.bl true)
noncomputable def dU (D:UD):Da:=.dK (D.map fun e=>Sum.inl e.1) (D.map fun e=>dD e.2)
noncomputable def fB (l:List Int) (b:Int):List Int:=if b∈l then l else l++[b]
noncomputable def fY:UD->Int->Int->UD
 | [],a,b=>[(a,[b])]
 | (x,l)::D,a,b=>if x=a then (x,fB l b)::D else (x,l)::fY D a b
noncomputable def upp (T:List (Int×Int)):UD:=T.foldl (fun D p=>fY D p.1 p.2) []
noncomputable def cC:List Da->Option (List (Int×Int))
 | []=>some []
 | .tup [.int a,.int b]::r=>(cC r).map ((a,b)::·)
 | _=>none
noncomputable def fn_uppers_of:List Da->Option Da
 | [.tup ds]=>match cC ds with | some T=>if T.length<=1000 then some (dU (upp T)) else none | none=>none
 | [.lst ds]=>match cC ds with | some T=>if T.length<=1000 then some (dU (upp T)) else none | none=>none
 | _=>none
end Ry
namespace Ry
open PySem L2
noncomputable def dB:List Int->List Int
 | []=>[]
 | a::r=>if a∈r then dB r else a::dB r
end Ry
namespace Ry
open PySem L2
noncomputable def g4 (g:Rho->Option (List Rv)):Rho->Option Rv:=fun ρ=>match g ρ with
 | some [(_,.int j)]=>if -(2 ^ 62)<=j/\j<=1000000 then some (.fr,.lst (d8 0 j.toNat)) else none
 | _=>none
end Ry
namespace Ry
open PySem PySem.Spec PyProof.Rows L2
section
variable {X:Cx} {a e:Expr} {es:List Expr} {p p2 pos pos2:Pos} {fa:Rho->Option Rv} {g:Rho->Option (List Rv)}
noncomputable def EC (ta:TA):TE:=fun σ H Q=>ta σ H fun vs H1=>∃ j:Int,vs=[.int j]/\∀ r,H1 r=none->Q (.ref r) (upd H1 r (.rng 0 j))
theorem uw {ta:TA} (hg:Gl X "range") (hm:X.mg "range" = none) (ha:PA X [a] ta) (hs:starEach [a] X.env=[(false,eval a X.env)]:=by exact bi rfl):PE X (.Call (.Name "range" p) [a] [] pos) (EC ta):=by
 intro pins s σ H Q I h
 refine Call_ (hU I hg hm boot_range (PyProof.Rows.callWith_type1 (thn (ha pos pins s σ H _ I h) fun us s1 ⟨vs,H1,I1,r1,q1⟩=>?_) hs rfl))
 obtain ⟨j,e,q⟩:=q1
 subst e
 cases r1 with
 | cons r rr =>
   cases rr
   obtain ⟨t,rfl⟩:=r
   refine call_range_1 ⟨.ref s1.heap.objs.size,_,I1.laid (a:=s1.heap.objs.size) (o:=.rng 0 j) (fun b o e=>aa _ e) (ag _) ⟨_,_,_,aj _ rfl⟩,rfl,q _ (I1.hok.fresh (ag _))⟩
theorem mF (hc:X.calm=true):iB X (.type "list") (fun xs H Q=>∃ (r:Addr) (j:Int),xs=[.ref r]/\H r=some (.rng 0 j)/\-(2 ^ 62)<=j/\j<=1000000/\∀ l,H l=none->Q (.ref l) (upd H l (.lst ((bp j.toNat).map fun (i:Nat)=>V.int (i:Int))))):=by
 intro pins s σ H xs us Q I r h
 obtain ⟨r',j,rfl,hr,j1,j2,q⟩:=h
 obtain ⟨u,rfl,rx⟩:=nP r
 cases rx
 obtain ⟨t,u,v,hr'⟩:=I.hok r' _ hr
 have hs:sizeLine=16777216:=sizeLine_eq
 refine call_list_range (n:=j.toNat) (I.ok.hd hc) (show IsRange s.heap r' 0 j 1 t u v from hr') (small_one (by lia) (by lia) (by lia) (by lia)) (by rw [rangeSize_one];split<;>lia) (by lia) fun h' tk acc' c' kp e it=>?_
 have rv:cq ((bp j.toNat).map fun (i:Nat)=>V.int (i:Int)) acc'.toList:=by
  have:∀ (n:Nat) (l:List Value) (lo:Nat),l.length=n->(∀ i v,l[i]?=some v->∃ t,v=Value.int ((lo+i:Nat):Int) t)->cq ((EY lo n).map fun (i:Nat)=>V.int (i:Int)) l:=fun n=>by
   induction n with
   | zero=>intro l lo hl _;cases l with
     | nil=>exact .nil
     | cons _ _=>cases hl
   | succ n ih =>
     intro l lo hl hv
     cases l with
     | nil=>cases hl
     | cons x l =>
       obtain ⟨t,ht⟩:=hv 0 x rfl
       rw [CW,aC]
       refine .cons ⟨t,by simpa using ht⟩ (ih l (lo+1) (by simpa using hl) fun i v hi=>?_)
       obtain ⟨t,ht⟩:=hv (i+1) v (by simpa using hi)
       exact ⟨t,by rw [ht];congr 2;lia⟩
  rw [xi]
  refine this j.toNat acc'.toList 0 (by rw [aF];exact it.1) fun i v hi=>?_
  obtain ⟨t,ht⟩:=it.2 i v (by rw [<- aR];exact hi)
  exact ⟨t,by rw [ht];congr 1;simp⟩
 refine ⟨.ref s.heap.objs.size,_,I.laid (t':=tk) kp (ag _) (show eG X.prog X.w _ h' _ (.lst _) from ⟨by rw [af,cw];lia,acc'.toList,c',rv,by simpa using e⟩),rfl,q _ (I.hok.fresh (ag _))⟩
theorem oy {K:PySem.W.Frag} {G:Hp}:∀ (n:Nat) (lo:Nat),bT K G (d8 (lo:Int) n) ((EY lo n).map fun (i:Nat)=>V.int (i:Int))
 | 0,_=>rfl
 | n+1,lo=>by
   rw [CW,aC]
   refine ⟨_,_,rfl,rfl,?_⟩
   have:=oy (K:=K) (G:=G) n (lo+1)
   have e:((lo+1:Nat):Int)=(lo:Int)+1:=by lia
   rw [e] at this
   exact this
theorem oq (hg:Gl X "list") (hm:X.mg "list" = none) (hg2:Gl X "range") (hm2:X.mg "range" = none) (ha:PXA X [a] g) (hc:X.calm=true:=by rfl) (hs:starEach [a] X.env=[(false,eval a X.env)]:=by exact bi rfl)
 (he:starEach [.Call (.Name "range" p2) [a] [] pos2] X.env=[(false,eval (.Call (.Name "range" p2) [a] [] pos2) X.env)]:=by rfl):PX X (.Call (.Name "list" p) [.Call (.Name "range" p2) [a] [] pos2] [] pos) (g4 g) :=
 PE.imp (n9 (mF hc) hg hm (by decide +kernel) (e7 (uw hg2 hm2 ha hs) iF he) (by decide) (by decide) he rfl) fun σ H Q ⟨B,G,ρ,r,sg,sb,st,eq,k⟩=>by
  unfold g4 at eq
  split at eq
  ·rename_i kd j ej
   split at eq
   ·rename_i hj
    cases eq
    refine ⟨B,G,ρ,_,sg,sb,st,ej,fun vs G1 H1 E1 r1=>?_⟩
    obtain ⟨v,rfl,r2⟩:=dM.one r1
    refine ⟨j,by rw [r2.int],fun rr hrr=>?_⟩
    refine ⟨rr,j,rfl,aS,hj.1,hj.2,fun l hl=>?_⟩
    have E2:=E1.trans (Ext.own (o:=.rng 0 j) E1.gh hrr)
    refine k _ G1 _ (E2.trans (Ext.own E2.gh hl)) ⟨l,_,rfl,E2.hh.free hl,E2.gh.free hl,aS,_,rfl,?_⟩
    rw [xi]
    exact oy j.toNat 0
   ·cases eq
  ·cases eq
end
end Ry
namespace Ry
open PySem PySem.Spec PyProof.Rows L2
theorem vS {X:Cx} {elt tg iter:Expr} {ifs:List Expr} {scope:Scope} {pos:Pos} {ix:List (Option Nat)} {wi:TI} {g:TG} {tt:TT} {te:TE} (hc:X.calm=true) (S:fS X scope ix) (hi:PI X tg iter wi) (h1:∀ s H fp,PG (inC X scope s H fp) tg g) (h2:∀ s H fp,PTS (inC X scope s H fp) ifs tt) (h3:∀ s H fp,PE (inC X scope s H fp) elt te)
 (hs:∀ x,foldedSetIterable iter X.env x=pure x:=by intro _;rfl):PE X (.ListComp elt [⟨tg,iter,ifs,0⟩] scope pos) (sj (mpS ix) wi g tt te):=uz hc S hi ⟨h1,h2,h3⟩ hs
end Ry
namespace Ry
open PySem PySem.Spec PyProof.Rows L2
namespace Rvf
theorem owner:Manifest.owners.lookup (String.ofList ['d','e','s','r','e','v','e','r'].reverse)=some Manifest.sig_reversed:=by kernel_rfl
theorem slot_next:Slot "reversed" "__next__" "reversed.__next__" :=
 .of (owner:="reversed") (n:="__next__") (by rw [typeLookup_type,builtinLookup_eq_fast];kernel_rfl) (by decide +kernel) (by decide +kernel) (by decide +kernel) (by first | exact .inl (by decide +kernel) | exact .inr (by decide +kernel)) (by rw [isSubtype_type];kernel_rfl)
theorem slot_iter:Slot "reversed" "__iter__" "reversed.__iter__" :=
 .of (owner:="reversed") (n:="__iter__") (by rw [typeLookup_type,builtinLookup_eq_fast];kernel_rfl) (by decide +kernel) (by decide +kernel) (by decide +kernel) (by first | exact .inl (by decide +kernel) | exact .inr (by decide +kernel)) (by rw [isSubtype_type];kernel_rfl)
theorem slot_hint:Slot "reversed" "__length_hint__" "reversed.__length_hint__" :=
 .of (owner:="reversed") (n:="__length_hint__") (by rw [typeLookup_type,builtinLookup_eq_fast];kernel_rfl) (by decide +kernel) (by decide +kernel) (by decide +kernel) (by first | exact .inl (by decide +kernel) | exact .inr (by decide +kernel)) (by rw [isSubtype_type];kernel_rfl)
theorem slot_init:Slot "reversed" "__init__" "object.__init__" :=
 .of (owner:="object") (n:="__init__") (by rw [typeLookup_type,builtinLookup_eq_fast];kernel_rfl) (by decide +kernel) (by decide +kernel) (by decide +kernel) (by first | exact .inl (by decide +kernel) | exact .inr (by decide +kernel)) (by rw [isSubtype_type];kernel_rfl)
theorem entry_next:entryFor table "reversed.__next__" = some Builtin.«reversed.__next__»:=entryFor_of_tree (by kernel_rfl)
theorem entry_hint:entryFor table "reversed.__length_hint__" = some Builtin.«reversed.__length_hint__»:=entryFor_of_tree (by kernel_rfl)
theorem entry_iter:entryFor table "reversed.__iter__" = some Builtin.«dict_keyiterator.__iter__» :=
 entryFor_alias (id':="dict_keyiterator.__iter__") (by kernel_rfl) (by first | rfl | decide +kernel | (unfold String.splitOn;simp +decide [String.splitOnAux])) (by decide +kernel) (by kernel_rfl)
theorem args_next (a:Value):argsOk "reversed.__next__" ⟨[a],[]⟩:=by
 unfold argsOk;rw [signature?_of (id:="reversed.__next__") (n:=['_','_','t','x','e','n','_','_']) (o:=['d','e','s','r','e','v','e','r']) (by kernel_rfl) owner];kernel_rfl
theorem args_iter (a:Value):argsOk "reversed.__iter__" ⟨[a],[]⟩:=by
 unfold argsOk;rw [signature?_of (id:="reversed.__iter__") (n:=['_','_','r','e','t','i','_','_']) (o:=['d','e','s','r','e','v','e','r']) (by kernel_rfl) owner];kernel_rfl
theorem args_hint (a:Value):argsOk "reversed.__length_hint__" ⟨[a],[]⟩:=by
 unfold argsOk;rw [signature?_of (id:="reversed.__length_hint__") (n:=['_','_','t','n','i','h','_','h','t','g','n','e','l','_','_']) (o:=['d','e','s','r','e','v','e','r']) (by kernel_rfl) owner];kernel_rfl
theorem called:TypeCalled "reversed" "reversed.__new__" "object.__init__" :=
 ⟨by decide +kernel,F.create_reversed,⟨_,_,F.mro_reversed⟩,F.made_reversed,F.plain_reversed_new,F.sub_reversed_self,slot_init⟩
theorem no_rev:typeLookup (.type "tuple") "__reversed__" = pure none:=by rw [typeLookup_type,builtinLookup_eq_fast];kernel_rfl
theorem no_len:typeLookup (.type "reversed") "__len__" = pure none:=by rw [typeLookup_type,builtinLookup_eq_fast];kernel_rfl
end Rvf
end Ry
namespace Ry
open PySem PySem.Spec PyProof.Rows L2
noncomputable def rG (t:Addr) (i:Int):Obj:={ cls:=.type "reversed",data:=.fields #[.ref t,rawInt i] }
noncomputable def tW (h:Heap) (a t:Addr) (i:Int):Prop:=∃ o,h.get? a=some o/\o.cls=.type "reversed"/\o.data=.fields #[.ref t,rawInt i]
section
variable {prog:Program} {w:World} {A:Around} {E:Value->Shared->Prop} {s:Shared}
theorem tW.ty {a t:Addr} {i:Int} (x:tW s.heap a t i):s.TypeIs (.ref a) "reversed":=let ⟨o,ho,hc,_⟩:=x;⟨o,ho,hc⟩
theorem tW.at {h h':Heap} {a t:Addr} {i:Int} (x:tW h a t i) (e:∀ o,h.get? a=some o->h'.get? a=some o):tW h' a t i:=let ⟨o,ho,r⟩:=x;⟨o,e _ ho,r⟩
theorem yR {t:Addr} {items:Array Value} {Q₁:Value->Shared->Prop} (ht:IsTup s.heap t items) (hz:(items.size:Int)<2 ^ 63)
 (h:∀ tk,Q₁ (.ref s.heap.objs.size) { s with heap:=s.heap.push (rG t ((items.size:Int)-1)),toks:=tk }) :
 codeAny (model prog w) A (.call (.builtin "reversed.__new__") ⟨[.type "reversed",.ref t],[]⟩) (wants Q₁ E) s:=by
 refine codeAny_of_tree ?_
 show wpAny _ A.in1 (do checkBuiltinCall "reversed.__new__" ⟨[.type "reversed",.ref t],[]⟩;again (.builtin "reversed.__new__" ⟨[.type "reversed",.ref t],[]⟩)) _ _ s
 refine wpAny_bind (wpAny_of_eq (F.newCall_reversed_1 _) (wpAny_pure ⟨plainId_quiet F.plain_reversed_new _,codeAny_builtin F.entry_reversed_new ?_⟩))
 rw [Around.under_plainId F.plain_reversed_new _]
 unfold Builtin.«reversed.__new__»
 refine wpAny_bind (wpAny_of_eq (newClass_reversed _) ?_)
 try dsimp only
 refine wpAny_bind (wpAny_of_eq (a:=()) (by first | rfl | kernel_rfl) ?_)
 refine wpAny_bind (wpAny_of_eq (a:=()) (by first | rfl | kernel_rfl) ?_)
 try dsimp only
 refine wpAny_bind (wpAny_specialOf ht.typeIs Rvf.no_rev ?_)
 try dsimp only
 refine wpAny_bind ?_
 show wpAny _ _ (isInstance (.ref t) (.type "dict")>>=_) _ _ _
 refine wpAny_bind (wpAny_isInstance (T:="tuple") (b:=false) ht.typeIs (by rw [isSubtype_type];kernel_rfl) ?_)
 try dsimp only
 refine wpAny_bind (wpAny_specialOf ht.typeIs PyProof.Rows.slot_tuple_getitem.lookup ?_)
 try dsimp only
 rw [if_pos (by decide +kernel)]
 refine wpAny_pure ?_
 rw [if_neg (by decide)]
 refine wpAny_bind (len_tuple ht hz ?_)
 refine wpAny_bind (m:=asInt? _) (wpAny_pure ?_)
 dsimp only
 refine wpAny_bind ?_
 show wpAny _ _ (newObj (.type "reversed") (.fields [.ref t,rawInt ((items.size:Int)-1)].toArray)) _ _ _
 refine wpAny_newObj_type (wpAny_pure ?_) (by size_fits)
 exact h _
theorem zc {t:Addr} {items:Array Value} {Q:Value->Shared->Prop} (ht:IsTup s.heap t items) (hz:(items.size:Int)<2 ^ 63)
 (h:∀ tk,Q (.ref s.heap.objs.size) { s with heap:=s.heap.push (rG t ((items.size:Int)-1)),toks:=tk }):wpAny (model prog w) A (call (.type "reversed") [.ref t]) Q E s:=by
 refine callType_codes (Q₁:=fun obj s₁=>obj=.ref s.heap.objs.size/\∃ tk,s₁={ s with heap:=s.heap.push (rG t ((items.size:Int)-1)),toks:=tk }) Rvf.called (F.typeCall_reversed_1 _) F.entry_object_init (yR ht hz fun tk=>⟨rfl,tk,rfl⟩) fun obj s₁ h₁=>?_
 obtain ⟨rfl,tk,rfl⟩:=h₁
 have hty:Shared.TypeIs { s with heap:=s.heap.push (rG t ((items.size:Int)-1)),toks:=tk } (.ref s.heap.objs.size) "reversed":=⟨_,aj _ rfl,rfl⟩
 exact ⟨hty,F.args_object_init_2 _ _,object_init_meets (T:="reversed") Rvf.slot_init.lookup F.made_reversed (by decide) prog w A.in1 _ _ ⟨hty,rfl,h tk⟩⟩
theorem yh {it t:Addr} {i:Nat} {items:Array Value} {x:Value} {Q:Option Value->Shared->Prop} (hit:tW s.heap it t (i:Int)) (ht:IsTup s.heap t items) (hx:items[i]?=some x) (hz:(items.size:Int)<2 ^ 63)
 (hQ:∀ h' tk,s.toks<=tk->tW h' it t ((i:Int)-1)->Heap.SameBut it s.heap h'->Q (some x) { s with heap:=h',toks:=tk }):wpAny (model prog w) A (pyNext (.ref it)) Q E s:=by
 obtain ⟨o,ho,hc,hd⟩:=id hit
 unfold pyNext
 refine wpAny_bind (wpAny_attempt (wpAny_callSpecial?_slot (name:=Str.ofString "__next__") hit.ty Rvf.slot_next (wpAny_call_entry Rvf.slot_next hit.ty Rvf.entry_next ?_ (Rvf.args_next _))))
 unfold Builtin.«reversed.__next__»
 refine wpAny_bind (wpAny_of_eq (a:=(Value.ref it,[])) rfl ?_)
 try dsimp only
 refine wpAny_bind (wpAny_field ho hd (x:=.ref t) rfl ?_)
 refine wpAny_bind (wpAny_field ho hd (x:=rawInt (i:Int)) rfl ?_)
 show wpAny _ _ (if (i:Int)<0 then _ else _) _ _ s
 rw [if_neg (by lia)]
 refine wpAny_bind (wpAny_specialOf ht.typeIs PyProof.Rows.slot_tuple_getitem.lookup ?_)
 try dsimp only
 rw [if_neg (by decide)]
 refine wpAny_bind (wpAny_mkInt ?_)
 have hlt:i<items.size:=(bZ.mp hx).1
 refine wpAny_bind (wpAny_attempt (PyProof.Rows.getItem_tuple (s:={ s with toks:=s.toks+1 }) (j:=i) (x:=x) ht (by lia) (by lia) ?_ hx ?_))
 ·exact (o9 (by unfold ixN;rw [if_pos (by lia),if_pos (by lia)];simp)).1
 dsimp only
 refine wpAny_bind (wpAny_field (s:={ s with toks:=s.toks+1 }) ho hd (x:=rawInt (i:Int)) rfl ?_)
 show wpAny _ _ (setField (.ref it) 1 (rawInt ((i:Int)-1))>>=_) _ _ _
 refine wpAny_bind (wpAny_setField (s:={ s with toks:=s.toks+1 }) ho hd (by simp) ?_)
 first
 | refine wpAny_pure ⟨x,rfl,wpAny_pure (hQ _ (s.toks+1) (ip _) ?_ (Heap.SameBut.update ..))⟩
 | refine wpAny_bind (wpAny_pure (wpAny_pure ⟨x,rfl,wpAny_pure (hQ _ (s.toks+1) (ip _) ?_ (Heap.SameBut.update ..))⟩))
 exact ⟨_,aY _ ho (bN (bA hd _)),(fA ..).trans hc,by rw [bA hd];simp⟩
theorem Bc {it t:Addr} {Q:Option Value->Shared->Prop} (hh:A.handled=none) (hit:tW s.heap it t (-1)) (hQ:∀ h',Heap.ExtBut it s.heap h'->Q none { s with heap:=h' }):wpAny (model prog w) A (pyNext (.ref it)) Q E s:=by
 obtain ⟨o,ho,hc,hd⟩:=id hit
 unfold pyNext
 refine wpAny_bind (wpAny_attempt (wpAny_callSpecial?_slot (name:=Str.ofString "__next__") hit.ty Rvf.slot_next (wpAny_call_entry Rvf.slot_next hit.ty Rvf.entry_next ?_ (Rvf.args_next _))))
 unfold Builtin.«reversed.__next__»
 refine wpAny_bind (wpAny_of_eq (a:=(Value.ref it,[])) rfl ?_)
 try dsimp only
 refine wpAny_bind (wpAny_field ho hd (x:=.ref t) rfl ?_)
 refine wpAny_bind (wpAny_field ho hd (x:=rawInt (-1)) rfl ?_)
 show wpAny _ _ (if (-1:Int)<0 then _ else _) _ _ s
 rw [if_pos (by decide)]
 refine wpAny_bind (wpAny_rule ?_)
 refine wpAny_bind ?_
 show wpAny _ _ (setField (.ref it) 1 (rawInt (-1))>>=fun _=>setField (.ref it) 0 .none) _ _ s
 refine wpAny_bind (wpAny_setField ho hd (by simp) ?_)
 have hd2:=bA hd (·.setIfInBounds 1 (rawInt (-1)))
 have ho2:=aY (bt (·.setIfInBounds 1 (rawInt (-1)))) ho (bN hd2)
 refine wpAny_setField (s:={ s with heap:=s.heap.update it (bt (·.setIfInBounds 1 (rawInt (-1)))) }) ho2 hd2 (by simp) ?_
 have eb:Heap.ExtBut it s.heap ((s.heap.update it (bt (·.setIfInBounds 1 (rawInt (-1))))).update it (bt (·.setIfInBounds 0 Value.none))):=fun b o hb e=>(aG _ _ (Ne.symm hb)).trans ((aG _ _ (Ne.symm hb)).trans e)
 first
 | show wpAny _ _ (newExc (.type "StopIteration") []>>=_) _ _ _
 | (refine wpAny_bind ?_;show wpAny _ _ (newExc (.type "StopIteration") []>>=_) _ _ _)
 refine wpAny_bind ?_
 simp only [newExc,newTuple]
 refine wpAny_bind (wpAny_newObj_type ?_ (by size_fits))
 refine wpAny_bind (m:=firstArgMember _ _) (wpAny_of_eq (a:=Value.none) (by first | rfl | (simp only [firstArgMember];rfl)) ?_)
 refine wpAny_newObj_type ?_ (by size_fits)
 simp only [raiseNew]
 refine wpAny_bind (wpAny_handled ?_)
 first | rw [show A.in1.handled=none from hh] | rw [hh]
 refine wpAny_bind (wpAny_pure (wpAny_throw ?_))
 refine wpAny_bind (wpAny_isInstance (T:="StopIteration") (b:=true) ⟨_,aj _ rfl,rfl⟩ isSubtype_stop ?_)
 exact wpAny_pure (hQ _ ((eb.push _).push _))
theorem zK {it t:Addr} {i:Int} {Q:Value->Shared->Prop} (hit:tW s.heap it t i) (h:Q (.ref it) s):wpAny (model prog w) A (pyIter (.ref it)) Q E s:=by
 refine wpAny_pyIter_slot hit.ty Rvf.slot_iter (wpAny_call_entry Rvf.slot_iter hit.ty Rvf.entry_iter ?_ (Rvf.args_iter _))
 show wpAny _ _ (ret (.ref it)) _ _ s
 exact wpAny_pure ⟨_,rfl,"reversed",_,hit.ty,Rvf.slot_next.lookup,h⟩
theorem zg {it t:Addr} {n:Nat} {items:Array Value} {Q:Bool->Shared->Prop} (hit:tW s.heap it t ((items.size:Int)-1)) (ht:IsTup s.heap t items) (hz:(items.size:Int)<=2 ^ 24) (h:∀ b tk,s.toks<=tk->Q b { s with toks:=tk }):wpAny (model prog w) A (Builtin.List.listLengthHint (.ref it)) Q E s:=by
 obtain ⟨o,ho,hc,hd⟩:=id hit
 unfold Builtin.List.listLengthHint
 refine wpAny_bind (wpAny_specialOf hit.ty Rvf.no_len ?_)
 show wpAny _ _ (specialOf (Value.ref it) (Str.ofString "__length_hint__")>>=_) _ _ _
 refine wpAny_bind (wpAny_specialOf hit.ty Rvf.slot_hint.lookup ?_)
 (generalize hid:("reversed.__length_hint__" : String)=id0;(fail_if_success (clear hid id0));wp_delta;rw [show splitId id0=some ("reversed","__length_hint__") from by subst hid;decide +kernel];subst hid)
 refine wpAny_bind (wpAny_isInstance (b:=true) hit.ty (by rw [isSubtype_type];kernel_rfl) ?_)
 try dsimp only
 rw [if_neg (by decide),if_neg (by decide +kernel)]
 refine wpAny_bind (wpAny_rule ?_)
 refine wpAny_bind (wpAny_of_eq (Rvf.slot_hint.bind _) ?_)
 try dsimp only
 refine wpAny_bind (wpAny_attempt (wpAny_call_entry Rvf.slot_hint hit.ty Rvf.entry_hint ?_ (Rvf.args_hint _)))
 unfold Builtin.«reversed.__length_hint__»
 refine wpAny_bind (wpAny_of_eq (a:=Value.ref it) rfl ?_)
 refine wpAny_bind (wpAny_field ho hd (x:=.ref t) rfl ?_)
 rw [if_neg (show ¬ ((Value.ref t == Value.none)=true) from am)]
 refine wpAny_bind (len_tuple ht (by lia) ?_)
 refine wpAny_bind (m:=asInt? _) (wpAny_pure ?_)
 dsimp only
 refine wpAny_bind (wpAny_field (s:={ s with toks:=s.toks+1+1 }) ho hd (x:=rawInt ((items.size:Int)-1)) rfl ?_)
 show wpAny _ _ (if (items.size:Int)<((items.size:Int)-1)+1 then _ else retInt (((items.size:Int)-1)+1)) _ _ _
 rw [if_neg (by lia)]
 refine wpAny_bind (wpAny_mkInt (wpAny_pure ⟨_,rfl,?_⟩))
 dsimp only
 refine wpAny_bind (m:=asInt? _) (wpAny_pure ?_)
 dsimp only
 have hsl:sizeLine=16777216:=sizeLine_eq
 rw [if_neg (by simp only [Builtin.List.listFitsIndex,b9,vC,decide_eq_false_iff_not,not_or,Decidable.not_not];lia),if_neg (by lia),if_neg (by simp only [Builtin.List.listTooLong,decide_eq_true_eq];lia)]
 exact wpAny_pure (h _ _ (by show s.toks<=s.toks+1+1+1;lia))
end
end Ry
namespace Ry
open PySem PySem.Spec PyProof.Rows L2
section
variable {prog:Program} {w:World} {A:Around} {E:Value->Shared->Prop} {s:Shared} {I:Addr} {fp wr:List Addr} {n:Nat} {P:Nat->Value->Prop} {St:Nat->Heap->Prop} {T:String}
theorem vJ {R:List Value->Shared->Prop} (W:Walks prog w A.in1 I fp wr n P St) (hT:∀ (i:Nat) (s:Shared),St i s.heap->s.TypeIs (.ref I) T) (nl:(Value.type T == Value.type "list")=false) (nt:(Value.type T == Value.type "tuple")=false)
 (hint:∀ (E:Value->Shared->Prop) (s:Shared) (Q:Bool->Shared->Prop),St 0 s.heap->(∀ b tk,s.toks<=tk->Q b { s with toks:=tk })->wpAny (model prog w) A.in1 (Builtin.List.listLengthHint (.ref I)) Q E s)
 (st:St 0 s.heap) (hfp:∀ b∈fp,b<s.heap.objs.size) (hI:I∈fp) (hn:n<=sizeLine)
 (h:∀ (h':Heap) (tk:Nat) (acc:Array Value),(∀ b o,b∉wr->s.heap.get? b=some o->h'.get? b=some o)->ItemsOf P acc n->R acc.toList { s with heap:=h',toks:=tk }):wpAny (model prog w) A (collect (.ref I)) R E s:=by
 have hSf:s.heap.objs.size∉fp:=fun hm=>bz _ (hfp _ hm)
 have hSI:s.heap.objs.size≠I:=fun e=>hSf (e▸hI)
 unfold collect
 refine wpAny_bind (wpAny_runValue (codeAny_builtin PySem.F.entry_proto_collect ?_))
 rw [Around.under_plainId PySem.F.plain_proto_collect _]
 show wpAny _ A.in1 (newList []>>=fun l=>again (.builtin "list.__iadd__" ⟨[l,.ref I],[]⟩)) _ _ s
 refine wpAny_bind (wpAny_newObj_type ?_)
 refine wpAny_pure ⟨plainId_quiet PySem.F.plain_list_iadd _,codeAny_builtin PySem.F.entry_list_iadd ?_⟩
 rw [Around.under_plainId PySem.F.plain_list_iadd _]
 have st1:St 0 (s.heap.push { cls:=.type "list",data:=.seq ([]:List Value).toArray }):=W.frame 0 _ _ st fun b _ o e=>aa _ e
 have hS:(s.heap.push { cls:=.type "list",data:=.seq ([]:List Value).toArray }).get? s.heap.objs.size=some { cls:=.type "list",data:=.seq ([]:List Value).toArray }:=aj _ rfl
 have h1:Builtin.List.listSameRef (.ref s.heap.objs.size) (.ref I)=false:=by simp [Builtin.List.listSameRef,hSI]
 show wpAny _ A.in1 (Builtin.List.listExtendWith (.ref s.heap.objs.size) (.ref I) (.ref s.heap.objs.size)) _ _ _
 have Rk:∃ Rk:Result->Shared->Prop,Rk=fun q s'=>∃ (h':Heap) (tk:Nat) (acc':Array Value) (c':Nat),q=.ok (.ret (.ref s.heap.objs.size))/\s'={ s with heap:=h',toks:=tk }/\(∀ b o,b∉wr->s.heap.get? b=some o->h'.get? b=some o)/\h'.get? s.heap.objs.size=some { cls:=.type "list",dict:=none,data:=.seq acc' c',slots:=#[] }/\ItemsOf P acc' n:=⟨_,rfl⟩
 obtain ⟨Rk,hRk⟩:=Rk
 have key:∀ (hp:Heap) (c₁ tk:Nat),St 0 hp->(∀ b o,b≠s.heap.objs.size->s.heap.get? b=some o->hp.get? b=some o)->hp.get? s.heap.objs.size=some { cls:=.type "list",data:=.seq #[] c₁ } ->
  codeAny (model prog w) A (.builtin "list.extend.loop" ⟨[.ref s.heap.objs.size,.ref I,.ref s.heap.objs.size],[]⟩) Rk { s with heap:=hp,toks:=tk }:=by
  intro hp c₁ tk hst hk hS₁
  refine codeAny_extend_loopS W.toS hn s.heap.objs.size hSf _ n 0 _ #[] c₁ rfl (aU _) hst hS₁ (ItemsOf.nil _) fun s' acc' c' hm hS' hacc=>?_
  rw [hRk]
  refine ⟨s'.heap,s'.toks,acc',c',rfl,(show s'=_ from by have em:=Moved.eq_with hm;exact em),fun b o hb e=>hm.heap b o (fun hmem=>?_) (hk b o (aL (aw e)) e),hS',hacc⟩
  rcases ah.mp hmem with e' | hmem
  ·exact absurd (aw e) (by rw [e'];exact bz _)
  ·exact hb hmem
 have whole:wpAny (model prog w) A.in1 (Builtin.List.listExtendWith (.ref s.heap.objs.size) (.ref I) (.ref s.heap.objs.size))
  (fun fin s'=>match fin with | .done f=>Rk (.ok f) s' | .again c'=>c'.quiet=true/\codeAny (model prog w) A c' Rk s') (fun e s'=>Rk (.error e) s') { s with heap:=s.heap.push { cls:=.type "list",data:=.seq ([]:List Value).toArray } }:=by
  unfold Builtin.List.listExtendWith
  refine wpAny_bind (wpAny_typeOf (hT 0 { s with heap:=s.heap.push { cls:=.type "list",data:=.seq ([]:List Value).toArray } } st1) ?_)
  simp only [h1,nl,nt,rT,dG,if_false]
  refine wpAny_bind (W.self 0 { s with heap:=s.heap.push { cls:=.type "list",data:=.seq ([]:List Value).toArray } } _ _ st1 ?_)
  refine wpAny_bind (wpAny_holding (hint _ { s with heap:=s.heap.push { cls:=.type "list",data:=.seq ([]:List Value).toArray } } _ st1 fun b tk htk=>?_))
  refine wpAny_ite_split (fun _=>?_) (fun _=>wpAny_pure ⟨plainId_quiet PySem.F.plain_extend_loop _,key _ 0 tk st1 (fun b o _ e=>aa _ e) hS⟩)
  refine wpAny_bind (wpAny_rule ?_)
  refine wpAny_bind ?_
  show wpAny _ _ (updateSeq s.heap.objs.size (·.push .none)>>=fun _=>updateSeq s.heap.objs.size (·.pop)) _ _ _
  refine wpAny_bind (wpAny_updateSeq hS rfl ?_)
  have hS₂:=aY (cV (·.push Value.none)) hS rfl
  refine wpAny_updateSeq (hz:=by seq_fits) hS₂ rfl ?_
  have hS₃:=aY (cV (·.pop)) hS₂ rfl
  refine wpAny_pure ⟨plainId_quiet PySem.F.plain_extend_loop _,key _ _ tk ?_ (fun b o hb e=>?_) hS₃⟩
  ·refine W.frame 0 _ _ st1 fun b hb o e=>?_
   have hbS:b≠s.heap.objs.size:=fun h=>hSf (h▸hb)
   exact (aG _ _ (Ne.symm hbS)).trans ((aG _ _ (Ne.symm hbS)).trans e)
  ·exact (aG _ _ (Ne.symm hb)).trans ((aG _ _ (Ne.symm hb)).trans (aa _ e))
 refine wpAny_mono whole (fun fin s' x=>?_) fun e s' x=>?_
 ·cases fin with
  | done f =>
    have x:Rk (.ok f) s':=x
    rw [hRk] at x
    obtain ⟨h',tk,acc',c',e,rfl,hk,hS',hacc⟩:=x
    cases e
    show wpAny _ A (load s.heap.objs.size>>=_) _ _ _
    refine wpAny_bind (wpAny_load hS' ?_)
    exact wpAny_pure (h h' tk acc' hk hacc)
  | again c₁ =>
    refine ⟨x.1,codeAny_mono x.2 fun q s₂ y=>?_⟩
    rw [hRk] at y
    obtain ⟨h',tk,acc',c',rfl,rfl,hk,hS',hacc⟩:=y
    show wpAny _ A (load s.heap.objs.size>>=_) _ _ _
    refine wpAny_bind (wpAny_load hS' ?_)
    exact wpAny_pure (h h' tk acc' hk hacc)
 ·rw [hRk] at x
  obtain ⟨_,_,_,_,e',_⟩:=x
  cases e'
theorem kN {Q:Value->Shared->Prop} (W:Walks prog w A.in1.in1.in1 I fp wr n P St) (hT:∀ (i:Nat) (s:Shared),St i s.heap->s.TypeIs (.ref I) T) (nl:(Value.type T == Value.type "list")=false) (nt:(Value.type T == Value.type "tuple")=false)
 (hint:∀ (E:Value->Shared->Prop) (s:Shared) (Q:Bool->Shared->Prop),St 0 s.heap->(∀ b tk,s.toks<=tk->Q b { s with toks:=tk })->wpAny (model prog w) A.in1.in1.in1 (Builtin.List.listLengthHint (.ref I)) Q E s)
 (st:St 0 s.heap) (hfp:∀ b∈fp,b<s.heap.objs.size) (hI:I∈fp) (hn:n<=sizeLine)
 (h:∀ (h':Heap) (tk:Nat) (acc:Array Value),(∀ b o,b∉wr->s.heap.get? b=some o->h'.get? b=some o)->ItemsOf P acc n->Q (.ref h'.objs.size) { s with heap:=h'.push { cls:=.type "tuple",data:=.seq acc },toks:=tk }):wpAny (model prog w) A (call (.type "tuple") [.ref I]) Q E s:=by
 refine callType_codes (Q₁:=fun obj s₁=>s₁.TypeIs obj "tuple"/\Q obj s₁) PySem.F.called_tuple (PySem.F.typeCall_tuple_1 _) PySem.F.entry_object_init ?_ fun obj s₁ h₁ =>
  ⟨h₁.1,PySem.F.args_object_init_2 obj _,object_init_meets PySem.F.called_tuple.init.lookup PySem.F.called_tuple.made (by decide) prog w A.in1 _ s₁ ⟨h₁.1,rfl,h₁.2⟩⟩
 refine codeAny_of_tree ?_
 show wpAny _ A.in1.in1 (do checkBuiltinCall "tuple.__new__" ⟨[.type "tuple",.ref I],[]⟩;again (.builtin "tuple.__new__" ⟨[.type "tuple",.ref I],[]⟩)) _ _ s
 refine wpAny_bind (wpAny_of_eq (PySem.F.newCall_tuple_1 _) (wpAny_pure ⟨plainId_quiet PySem.F.plain_tuple_new _,codeAny_builtin PySem.F.entry_tuple_new ?_⟩))
 rw [Around.under_plainId PySem.F.plain_tuple_new _]
 have hsub:=sub_tuple_self
 have hinit:=init_tuple_lookup
 have hmh:=madeHere_tuple
 have hTI:=hT 0 s st
 wp_walk using wpAny_typeOf hTI,vJ W hT nl nt hint st hfp hI hn
 intro h' tk acc hk hacc
 show wpAny _ _ (Builtin.Tuple.tupleExact acc.toList.toArray>>=fun v=>ret v) _ _ _
 unfold Builtin.Tuple.tupleExact
 refine wpAny_bind (wpAny_newObj_type ?_ (by show acc.toList.toArray.size<=sizeLine;simp only [vz];rw [hacc.1];exact hn))
 refine wpAny_pure ?_
 have e:acc.toList.toArray=acc:=by simp
 rw [e]
 exact ⟨⟨_,aj _ rfl,rfl⟩,h h' tk acc hk hacc⟩
theorem yn {t:Addr} {items:Array Value} (hh:A.handled=none) (hne:t≠I) (hz:(items.size:Int)<2 ^ 63) :
 Walks prog w A I [I,t] [I] items.size (fun i v=>items[items.size-1-i]?=some v) (fun i h=>i<=items.size/\tW h I t ((items.size:Int)-1-(i:Int))/\IsTup h t items) where
 sub:=fun b hb=>by simp at hb;simp [hb]
 frame:=fun _ _ _ x hk=>⟨x.1,x.2.1.at fun o e=>hk I (by simp) o e,let ⟨o,ho,r⟩:=x.2.2;⟨o,hk t (by simp) o ho,r⟩⟩
 item:=fun i s Q E hi x hQ=>by
  have e:(items.size:Int)-1-(i:Int)=((items.size-1-i:Nat):Int):=by lia
  have hit:=x.2.1
  rw [e] at hit
  have hx:items[items.size-1-i]?=some (items[items.size-1-i]'(by lia)):=aI (by lia)
  refine yh hit x.2.2 hx hz fun h' tk _ hit' hs'=>?_
  have e2:((items.size-1-i:Nat):Int)-1=(items.size:Int)-1-((i+1:Nat):Int):=by lia
  rw [e2] at hit'
  exact hQ _ h' tk hx ⟨hi,hit',let ⟨o,ho,r⟩:=x.2.2;⟨o,(hs'.2 t hne).trans ho,r⟩⟩ fun b o hb eo=>hs'.extBut b o (fun h=>hb (by simp [h])) eo
 done:=fun s Q E x hQ=>by
  have e:(items.size:Int)-1-(items.size:Int) = -1:=by lia
  have hit:=x.2.1
  rw [e] at hit
  exact Bc hh hit fun h' he'=>hQ h' s.toks fun b o hb eo=>he' b o (fun h=>hb (by simp [h])) eo
 self:=fun _ _ _ _ x hQ=>zK x.2.1 hQ
end
theorem Ak {prog:Program} {w:World} {A:Around} {E:Value->Shared->Prop} {s:Shared} {it l:Addr} {i:Int} {Q:Bool->Shared->Prop} (hit:s.heap.IsRevIter it l i) (h:∀ b tk,s.toks<=tk->Q b { s with toks:=tk }):wpAny (model prog w) A (Builtin.List.listLengthHint (.ref it)) Q E s:=by
 unfold Builtin.List.listLengthHint
 refine wpAny_bind (wpAny_specialOf hit.typeIs (show typeLookup (.type "list_reverseiterator") "__len__" = pure none by rw [typeLookup_type,builtinLookup_eq_fast];kernel_rfl) ?_)
 show wpAny _ _ (specialOf (Value.ref it) (Str.ofString "__length_hint__")>>=_) _ _ _
 refine wpAny_bind (wpAny_specialOf hit.typeIs (show typeLookup (.type "list_reverseiterator") "__length_hint__" = pure (some (.builtin "list_reverseiterator.__length_hint__")) by rw [typeLookup_type,builtinLookup_eq_fast];kernel_rfl) ?_)
 (generalize hid:("list_reverseiterator.__length_hint__" : String)=id0;(fail_if_success (clear hid id0));wp_delta;rw [show splitId id0=some ("list_reverseiterator","__length_hint__") from by subst hid;decide +kernel];subst hid)
 refine wpAny_bind (wpAny_isInstance (b:=true) hit.typeIs (by rw [isSubtype_type];kernel_rfl) ?_)
 try dsimp only
 first | rw [if_neg (by decide),if_pos (by decide +kernel),if_neg (by decide +kernel)] | skip
 exact wpAny_pure (h _ s.toks (ag _))
theorem wy {its:List Value} {acc:Array Value} (h:ItemsOf (fun i v=>its.toArray[its.toArray.size-1-i]?=some v) acc its.toArray.size):acc=its.reverse.toArray:=by
 have e:acc.toList=its.reverse:=by
  apply dZ
  intro i
  rw [aR]
  have hs:acc.size=its.length:=by rw [h.1,ao]
  by_cases hi:i<its.length
  ·have hi':i<acc.size:=by lia
   have:=h.2 i acc[i] (aI hi')
   rw [aI hi',List.getElem?_reverse hi]
   rw [<- this]
   simp
  ·rw [b7 (by lia),bM (by rw [jD];lia)]
 rw [<- e]
section
variable {X:Cx} {e:Expr} {p p2 pos pos2:Pos} {te:TE}
noncomputable def tTR (K:PySem.W.Frag) (te:TE):TE:=fun σ H Q=>te σ H fun x H1=>∃ (t:Addr) (ys:List V),x=.ref t/\(SqT K H1 t ys\/SqL K H1 t ys)/\∀ l,H1 l=none->Q (.ref l) (upd H1 l (.tup ys.reverse))
theorem vf (hg:Gl X "tuple") (hm:X.mg "tuple" = none) (hg2:Gl X "reversed") (hm2:X.mg "reversed" = none) (he:PE X e te) (hc:X.calm=true:=by rfl) (hs:starEach [e] X.env=[(false,eval e X.env)]:=by exact bi rfl)
 (hs2:starEach [.Call (.Name "reversed" p2) [e] [] pos2] X.env=[(false,eval (.Call (.Name "reversed" p2) [e] [] pos2) X.env)]:=by rfl):PE X (.Call (.Name "tuple" p) [.Call (.Name "reversed" p2) [e] [] pos2] [] pos) (tTR X.K te):=by
 intro pins s σ H Q I h
 have hsz:sizeLine=16777216:=sizeLine_eq
 refine wpAny_Call_Name_kw (hU I hg hm (by decide +kernel:bootBuiltins "tuple" = some (.type "tuple")) ?_ (by decide) (by decide))
 refine PyProof.Rows.callWith_type1 ?_ hs2 rfl
 rw [hs2]
 show wpAny _ _ (spliced ((false,eval (.Call (.Name "reversed" p2) [e] [] pos2) X.env)::backTo pos (starEach [] X.env))) _ _ s
 refine Calls.spliced_cons ?_
 refine wpAny_Call_Name_kw (hU I hg2 hm2 (by decide +kernel:bootBuiltins "reversed" = some (.type "reversed")) ?_ (by decide) (by decide))
 refine PyProof.Rows.callWith_type1 ?_ hs rfl
 rw [hs]
 show wpAny _ _ (spliced ((false,eval e X.env)::backTo pos2 (starEach [] X.env))) _ _ s
 refine Calls.spliced_cons (thn (he pins s σ H _ I h) fun u s1 ⟨x,H1,I1,r1,t,ys,ex,hsq,k⟩=>?_)
 subst ex
 cases r1
 refine Calls.spliced_nil ?_
 have fin:∀ (its:List Value) (r:Addr) (hr:Heap) (tk:Nat),r=s1.heap.objs.size->(∀ b o,s1.heap.get? b=some o->hr.get? b=some o)->cq ys its->ys.length<=sizeLine->∀ (h':Heap) (tk:Nat) (acc:Array Value),(∀ b o,b∉[r]->hr.get? b=some o->h'.get? b=some o)->ItemsOf (fun i v=>its.toArray[its.toArray.size-1-i]?=some v) acc its.toArray.size->EP X pins σ Q (.ref h'.objs.size) { s1 with heap:=h'.push { cls:=.type "tuple",data:=.seq acc },toks:=tk }:=fun its r hr _ er kr rv z h' tk acc hk hacc=>by
  have kk:∀ b o,s1.heap.get? b=some o->h'.get? b=some o:=fun b o e=>hk b o (by rw [au,er];exact aL (aw e)) (kr b o e)
  have I2:Inv X pins σ H1 { s1 with heap:=h',toks:=tk }:=I1.kept (t':=tk) kk
  have hit:IsTup (h'.push { cls:=.type "tuple",data:=.seq acc }) h'.objs.size its.reverse.toArray:=by rw [<- wy hacc];exact IsTup.new _ _
  exact ⟨.ref h'.objs.size,_,I2.laid (t':=tk) (o:=.tup ys.reverse) (fun b o e=>aa _ e) (ag _) ⟨⟨by rw [jD];exact z,jg.new _ _⟩,its.reverse,rv.reverse,hit⟩,rfl,k _ (I2.hok.fresh (ag _))⟩
 have hh:X.A.in1.in1.in1.handled=none:=I1.ok.hd hc
 rcases hsq with hq | hq
 ·obtain ⟨its,rv,it,z⟩:=I1.tuple hq
  have hl:its.toArray.size=ys.length:=by rw [ao];exact rv.length.symm
  have hlt:t<s1.heap.objs.size:=let ⟨o,ho,_⟩:=it;aw ho
  refine zc it (by lia) fun tk=>Calls.spliced_nil ?_
  have it2:IsTup (s1.heap.push (rG t ((its.toArray.size:Int)-1))) t its.toArray:=let ⟨o,ho,r⟩:=it;⟨o,aa _ ho,r⟩
  refine kN (T:="reversed") (yn hh (aL hlt) (by lia)) (fun i s x=>x.2.1.ty) (by decide) (by decide) (fun E s Q st hq=>zg (n:=0) (items:=its.toArray) (by have:=st.2.1;simpa using this) st.2.2 (by lia) hq)
   ⟨aU _,⟨_,aj _ rfl,rfl,by simp [rG]⟩,it2⟩ (fun b hb=>?_) (by simp) (by lia) fun h' tk' acc hk hacc=>fin its _ _ 0 rfl (fun b o e=>aa _ e) rv z h' tk' acc hk hacc
  rw [cI]
  simp only [ah,eJ,or_false] at hb
  rcases hb with e | e
  ·rw [e];exact fO _
  ·rw [e];exact cW hlt
 ·obtain ⟨its,rv,pl,z⟩:=I1.list hq
  have hl:its.toArray.size=ys.length:=by rw [ao];exact rv.length.symm
  have hlt:t<s1.heap.objs.size:=pl.lt
  refine call_reversed_list pl.isList (Calls.spliced_nil ?_)
  have il2:(s1.heap.push (revObj t ((its.toArray.size:Int)-1))).IsList t its.toArray:=pl.isList.at fun o e=>aa _ e
  refine kN (T:="list_reverseiterator") (Walks.listRev hh _ t (aL hlt) its.toArray) (fun i s x=>x.2.1.typeIs) (by decide) (by decide) (fun E s Q st hq=>Ak st.2.1 hq)
   ⟨aU _,⟨_,aj _ rfl,rfl,by simp [revObj]⟩,il2⟩ (fun b hb=>?_) (by simp) (by lia) fun h' tk' acc hk hacc=>fin its _ _ 0 rfl (fun b o e=>aa _ e) rv z h' tk' acc hk hacc
  rw [cI]
  simp only [ah,eJ,or_false] at hb
  rcases hb with e | e
  ·rw [e];exact fO _
  ·rw [e];exact cW hlt
theorem pW {fa:Rho->Option Rv} (hg:Gl X "tuple") (hm:X.mg "tuple" = none) (hg2:Gl X "reversed") (hm2:X.mg "reversed" = none) (ha:PX X e fa) (hc:X.calm=true:=by rfl) (hs:starEach [e] X.env=[(false,eval e X.env)]:=by exact bi rfl)
 (hs2:starEach [.Call (.Name "reversed" p2) [e] [] pos2] X.env=[(false,eval (.Call (.Name "reversed" p2) [e] [] pos2) X.env)]:=by rfl):PX X (.Call (.Name "tuple" p) [.Call (.Name "reversed" p2) [e] [] pos2] [] pos) (gJ fa) :=
 PE.imp (vf hg hm hg2 hm2 ha hc hs hs2) fun σ H Q ⟨B,G,ρ,r,sg,sb,st,eq,k⟩=>by
  unfold gJ at eq
  have go:∀ (t:Addr) (ys:List V) (ds:List Da) (G1 H1:Hp),Ext G H G1 H1->bT X.K G1 ds ys->r=(.pu,.tup ds.reverse)->∀ l,H1 l=none->Q (.ref l) (upd H1 l (.tup ys.reverse)):=fun t ys ds G1 H1 E1 dl er l hl=>by
   refine k _ _ _ (E1.trans (Ext.new E1.gh hl)) ?_
   rw [er]
   exact ⟨l,_,rfl,aS,bT.mono (bB (E1.gh.free hl)) _ dl.reverse⟩
  split at eq
  ·rename_i kd ds ea
   cases eq
   refine ⟨B,G,ρ,_,sg,sb,st,ea,fun v G1 H1 E1 r1=>?_⟩
   obtain ⟨t,ys,rfl,q,dl,_⟩:=r1.tup E1.gh
   exact ⟨t,ys,rfl,.inl (SqT.of q),go t ys ds G1 H1 E1 dl rfl⟩
  ·rename_i kd ds ea
   cases eq
   refine ⟨B,G,ρ,_,sg,sb,st,ea,fun v G1 H1 E1 r1=>?_⟩
   obtain ⟨t,ys,rfl,q,dl⟩:=r1.lst E1.gh
   exact ⟨t,ys,rfl,.inr q,go t ys ds G1 H1 E1 dl rfl⟩
  ·cases eq
end
end Ry
namespace Ry
open PySem PySem.Spec PyProof.Rows L2
section
variable {X:Cx} {a b c e:Expr} {es:List Expr} {p pos pos':Pos} {f fa fb fc:Rho->Option Rv} {g:Rho->Option (List Rv)}
end
end Ry
namespace Ry
open PySem PySem.Spec PyProof.Rows L2
noncomputable abbrev Ris (xs:Array Nat):Prop:=∀ i j a b:Nat,i<j->xs[i]?=some a->xs[j]?=some b->a<b
structure uq (xs:Array Nat) (j r:Nat):Prop where
 le:r<=xs.size
 lo:∀ i a,i<r->xs[i]?=some a->a<j
 hi:∀ i a,r<=i->xs[i]?=some a->j<=a
theorem Ris.le {xs:Array Nat} (h:Ris xs) {i j a b:Nat} (hij:i<=j) (ha:xs[i]?=some a) (hb:xs[j]?=some b):a<=b:=by
 rcases kI hij with z | z
 ·exact gD (h i j a b z ha hb)
 ·subst z;rw [ha] at hb;cases hb;exact ag _
theorem lW {xs:Array Nat} (h:Ris xs) (j:Nat):∀ (fuel lo hi:Nat),hi<=xs.size->lo<=hi->hi-lo<=fuel->(∀ i a,i<lo->xs[i]?=some a->a<j)->(∀ i a,hi<=i->xs[i]?=some a->j<=a)->uq xs j (SetTable.below.go xs j fuel lo hi)
 | 0,lo,hi,h1,h2,h3,hl,hh=>by
   have:lo=hi:=by lia
   subst this
   unfold SetTable.below.go
   exact ⟨h1,hl,hh⟩
 | fuel+1,lo,hi,h1,h2,h3,hl,hh=>by
   unfold SetTable.below.go
   by_cases e:lo<hi
   ·rw [if_pos e]
    dsimp only
    have hm:(lo+hi) / 2<xs.size:=by lia
    have em:xs.getD ((lo+hi) / 2) j=xs[(lo+hi) / 2]:=by simp [fR,hm]
    have gm:xs[(lo+hi) / 2]?=some xs[(lo+hi) / 2]:=aI hm
    rw [em]
    by_cases c:xs[(lo+hi) / 2]<j
    ·rw [if_pos c]
     exact lW h j fuel _ _ h1 (by lia) (by lia) (fun i a hi' ha=>AF (h.le (by lia) ha gm) c) hh
    ·rw [if_neg c]
     exact lW h j fuel _ _ (by lia) (by lia) (by lia) hl fun i a hi' ha=>bR (Dd c) (h.le hi' gm ha)
   ·rw [if_neg e]
    have:lo=hi:=by lia
    subst this
    exact ⟨h1,hl,hh⟩
theorem mE {xs:Array Nat} (h:Ris xs) (j:Nat):uq xs j (SetTable.below xs j):=by
 unfold SetTable.below
 refine lW h j _ _ _ (ag _) (aU _) (by lia) (fun i a hi=>absurd hi (D9 i)) fun i a hi ha=>?_
 have:=(bZ.mp ha).1
 lia
theorem wc {α:Type} (xs:Array α) (p:Nat) (x:α):(SetTable.insertAt xs p x).toList=xs.toList.take p++x::xs.toList.drop p:=by
 unfold SetTable.insertAt
 simp [Array.toList_extract,cB]
theorem lw {xs:Array Nat}:Ris xs↔xs.toList.Pairwise (· < ·):=by
 rw [bS]
 constructor
 ·intro h i j hi hj hij
  exact h i j _ _ hij (by rw [<- aR];exact ae hi) (by rw [<- aR];exact ae hj)
 ·intro h i j a b hij ha hb
  rw [<- aR] at ha hb
  obtain ⟨h1,rfl⟩:=aq.mp ha
  obtain ⟨h2,rfl⟩:=aq.mp hb
  exact h i j h1 h2 hij
noncomputable abbrev Out (t:SetTable) (j:Nat):Prop:=t.place[SetTable.below t.place j]?≠some j
theorem uT {t:SetTable} {j:Nat} (h:Ris t.place) (ho:Out t j):Ris (t.put j).1.place:=by
 have hb:=mE h j
 show Ris (SetTable.insertAt t.place (SetTable.below t.place j) j)
 have h':=lw.mp h
 rw [lw,wc]
 generalize hr:SetTable.below t.place j=r at hb ho
 have hs:(t.place.toList.take r++t.place.toList.drop r).Pairwise (· < ·):=by rw [fD];exact h'
 obtain ⟨s1,s2,s3⟩:=ba.mp hs
 have lt:∀ a∈t.place.toList.take r,a<j:=fun a ha=>by
  obtain ⟨i,hi,e⟩:=bq ha
  rw [bu] at hi
  rw [dX] at e
  exact hb.lo i a (by lia) (by rw [<- aR,ae (by lia),e])
 have gt:∀ b∈t.place.toList.drop r,j<b:=fun b hb'=>by
  obtain ⟨i,hi,e⟩:=bq hb'
  rw [ck] at hi
  rw [dW] at e
  have hg:t.place[r+i]?=some b:=by rw [<- aR,ae (by lia),e]
  have h1:=hb.hi (r+i) b (by lia) hg
  rcases kI h1 with z | z
  ·exact z
  ·subst z
   have hr':r<t.place.size:=by rw [aF] at hi;lia
   have hg0:t.place[r]?=some t.place[r]:=aI hr'
   have h2:=hb.hi r _ (ag _) hg0
   have h3:=h.le (show r<=r+i by lia) hg0 hg
   exact absurd (by rw [hr,hg0];congr 1;lia) ho
 refine ba.mpr ⟨s1,aN.mpr ⟨gt,s2⟩,fun a ha b hb'=>?_⟩
 rcases ah.mp hb' with z | z
 ·rw [z];exact lt a ha
 ·exact s3 a ha b z
theorem qA {t:SetTable} {j:Nat} (h:∀ i,t.slot j≠.live i):Out t j:=by
 intro z
 refine h (SetTable.below t.place j) ?_
 unfold SetTable.slot
 dsimp only
 rw [if_pos (by rw [z];exact beq_self_eq_true _)]
theorem nz (t:SetTable) (p:SetTable.Probe):(t.advance p).dummy=p.dummy:=by
 unfold SetTable.advance
 split<;>rfl
theorem jM {t:SetTable} {f:Nat->Int} {h:Int}:∀ (fuel:Nat) (p:SetTable.Probe) {j:Nat} {d:Option Nat},(∀ x,p.dummy=some x->Out t x)->SetTable.probe.go t f h fuel p=some (.empty j d)->Out t j/\∀ x,d=some x->Out t x
 | 0,p,j,d,_,e=>by unfold SetTable.probe.go at e;cases e
 | fuel+1,p,j,d,hp,e=>by
   unfold SetTable.probe.go at e
   split at e
   ·rename_i hs
    cases e
    exact ⟨qA fun i z=>(by rw [hs] at z;cases z),hp⟩
   ·rename_i hs
    refine jM fuel _ (fun x hx=>?_) e
    rw [nz] at hx
    cases hx
    exact qA fun i z=>by rw [hs] at z;cases z
   ·rename_i i hs
    split at e
    ·cases e
    ·exact jM fuel _ (fun x hx=>hp x (by rw [nz] at hx;exact hx)) e
theorem qr {t:SetTable} {h:Int} {j:Nat} {b:Bool} (e:t.freeSlot h=some (j,b)):Out t j:=by
 unfold SetTable.freeSlot at e
 split at e
 ·rename_i j' d hp
  cases e
  obtain ⟨h1,h2⟩:=jM _ _ (fun x hx=>by cases hx) hp
  cases d with
  | none=>exact h1
  | some x=>exact h2 x rfl
 ·cases e
theorem iC (n:Nat):Ris (Array.range n):=by
 rw [lw,Array.toList_range]
 exact vp
structure jt (L:Bool) (t:SetTable):Prop where
 led:t.led=L
 ris:Ris t.place
theorem jt.stand {L:Bool} {t:SetTable} (h:jt L t) (n:Nat):jt L (t.standIn n):=⟨h.led,iC n⟩
theorem jt.lay {L:Bool} {t:SetTable} (h:jt L t) (es:Array (Int×Value)) (k:Int) (x:Value):jt L (layNew t es k x).2.1:=by
 unfold layNew
 split
 ·rename_i j b e
  dsimp only
  unfold SetTable.orStandIn
  split
  ·exact ⟨h.led,uT h.ris (qr e)⟩
  ·exact jt.stand (t:=(t.put j).1) ⟨h.led,uT h.ris (qr e)⟩ _
 ·exact h.stand _
theorem jt.relay {L:Bool} {t:SetTable} (h:jt L t) (es:Array (Int×Value)) (n:Nat):jt L (relayAll t es n).2.1:=by
 unfold relayAll
 split
 ·rename_i t' order e
  dsimp only
  split
  ·unfold SetTable.relaid SetTable.laid at e
   simp only [Option.bind_eq_bind,Option.bind_eq_some_iff] at e
   obtain ⟨owner,_,e⟩:=e
   cases e
   refine ⟨h.led,?_⟩
   rw [lw]
   dsimp only
   have:∀ l:List Nat,l.Pairwise (· < ·)->((l.filterMap fun j=>(owner.getD j none).map (j,·)).map (·.1)).Pairwise (· < ·):=fun l hl=>by
    have hsub:((l.filterMap fun j=>(owner.getD j none).map (j,·)).map (·.1)).Sublist l:=by
     induction l with
     | nil=>exact .slnil
     | cons a l ih =>
       rw [fZ]
       cases ho:owner.getD a none with
       | none=>exact .cons _ (ih (aN.mp hl).2)
       | some k=>exact .cons_cons _ (ih (aN.mp hl).2)
    exact hl.sublist hsub
   exact this _ vp
  ·exact h.stand _
 ·exact h.stand _
end Ry
namespace Ry
open PySem PySem.Spec PyProof.Rows L2
noncomputable abbrev rQ (w:World):Bool:=w.params.followText "set-order"
noncomputable def gM (prog:Program) (w:World) (h:Heap) (a:Addr) (S:Int->Bool) (n:Nat):Prop :=
 ∃ o es ep t,h.get? a=some o/\o.ExactSet/\o.data=.set es ep t/\ElemsOf (intKind prog w) es.toList/\(∀ k,S k=true↔∃ e∈es.toList,(intKind prog w).is k e.2=true)/\es.size<scanBound/\t.fits es.size=true/\es.size=n/\jt (!rQ w) t
theorem gM.at {prog:Program} {w:World} {h h':Heap} {a:Addr} {S:Int->Bool} {n:Nat} (x:gM prog w h a S n) (k:∀ o,h.get? a=some o->h'.get? a=some o):gM prog w h' a S n:=by
 obtain ⟨o,es,ep,t,h1,r⟩:=x
 exact ⟨o,es,ep,t,k o h1,r⟩
theorem gM.congr {prog:Program} {w:World} {h:Heap} {a:Addr} {S S':Int->Bool} {n n':Nat} (x:gM prog w h a S n) (e:∀ k,S k=S' k) (en:n=n'):gM prog w h a S' n':=by
 have:S=S':=funext e
 subst this;subst en
 exact x
section
variable {prog:Program} {w:World} {A:Around} {E:Value->Shared->Prop} {s:Shared}
theorem AK {g:Bool->Sem Unit} (hg:∀ (b:Bool) (s₁:Shared) (Q':Unit->Shared->Prop),Q' () s₁->wpAny (model prog w) A (g b) Q' E s₁)
 {a:Addr} {o:Obj} {es:Array (Int×Value)} {ep:Nat} {t:SetTable} (ho:s.heap.get? a=some o) (hex:o.ExactSet) (hd:o.data=.set es ep t)
 {es1:Array (Int×Value)} {t2:SetTable} {S':Int->Bool} (hel1:ElemsOf (intKind prog w) es1.toList) (hmem1:∀ k',S' k'=true↔∃ e∈es1.toList,(intKind prog w).is k' e.2=true)
 (hb1:es1.size<scanBound) (hf2:t2.fits es1.size=true) (tk:jt (!rQ w) t2) {wasDummy:Bool} {R:Option Bool->Shared->Prop}
 (h:∀ h',Heap.SameBut a s.heap h'->gM prog w h' a S' es1.size->R (some true) { s with heap:=h' }) :
 wpAny (model prog w) A (do
  storeSet a es1 t2
  if (!wasDummy&&t2.tooFull)=true then do
      g (relayAll t2 es1 (SetTable.grown es1.size)).2.2
      storeSet a (relayAll t2 es1 (SetTable.grown es1.size)).1 (relayAll t2 es1 (SetTable.grown es1.size)).2.1
      pure (some true)
   else pure (some true)) R E s:=by
 refine wpAny_bind (wpAny_storeSet_of ho hd ?_ (fits_of_scanBound hb1))
 obtain ⟨ho1,_⟩:=SetOf_store (knd:=intKind prog w) ho hex hd hel1 hmem1 hb1 hf2
 have hsb1:=Heap.SameBut.update s.heap a (Obj.putSet es1 t2)
 split
 ·have hp:=relayAll_perm t2 es1 (SetTable.grown es1.size)
  have hfr:=relayAll_fits t2 es1 (SetTable.grown es1.size)
  have tk2:=tk.relay es1 (SetTable.grown es1.size)
  generalize hRl:relayAll t2 es1 (SetTable.grown es1.size)=Rl at hp hfr tk2 ⊢
  obtain ⟨es2,t3,gave2⟩:=Rl
  dsimp only at hp hfr tk2 ⊢
  have hel2:ElemsOf (intKind prog w) es2.toList:=hel1.perm hp
  have hmem2:∀ k',S' k'=true↔∃ e∈es2.toList,(intKind prog w).is k' e.2=true:=fun k'=>(hmem1 k').trans ⟨fun ⟨e,he,q⟩=>⟨e,hp.mem_iff.mpr he,q⟩,fun ⟨e,he,q⟩=>⟨e,hp.mem_iff.mp he,q⟩⟩
  have hsz:es2.size=es1.size:=by rw [<- aF,hp.length_eq,aF]
  have hb2:es2.size<scanBound:=by rw [hsz];exact hb1
  refine wpAny_bind (hg _ _ _ ?_)
  refine wpAny_bind (wpAny_storeSet_of ho1 rfl ?_ (fits_of_scanBound hb2))
  obtain ⟨ho2,_⟩:=SetOf_store (knd:=intKind prog w) ho1 hex rfl hel2 hmem2 hb2 hfr
  exact wpAny_pure (h _ (hsb1.trans (Heap.SameBut.update _ a _)) ⟨_,es2,_,t3,ho2,hex,rfl,hel2,hmem2,hb2,hfr,hsz,tk2⟩)
 ·exact wpAny_pure (h _ hsb1 ⟨_,es1,_,t2,ho1,hex,rfl,hel1,hmem1,hb1,hf2,rfl,tk⟩)
theorem EQ {a:Addr} {S:Int->Bool} {n:Nat} {k:Int} {x:Value} {Q:Bool->Shared->Prop} (hkey:(intKind prog w).is k x=true) (hsc:x.scannable=true) (hS:gM prog w s.heap a S n) (hroom:n+1<scanBound)
 (h:∀ h',Heap.SameBut a s.heap h'->gM prog w h' a (fun k'=>S k'||decide (k'=k)) (if S k then n else n+1)->Q (!S k) { s with heap:=h' }) :
 wpAny (model prog w) A (setAddHashed a x ((intKind prog w).hash k)) Q E s:=by
 obtain ⟨o,es,ep,t,ho,hex,hd,hel,hmem,hb,hf,hn,tk⟩:=hS
 have hb1:es.size+1<scanBound:=by rw [hn];exact hroom
 unfold setAddHashed setAddHashedIn
 refine wpAny_holding (wpAny_bind (wpAny_setState_of ho hd hf ?_))
 dsimp only
 rw [byScan_of hsc hb hel]
 simp only [↓reduceIte]
 unfold setAddByScan
 refine wpAny_bind ?_
 refine wpAny_bind (wpAny_rule ?_)
 refine wpAny_bind (wpAny_setScan_of hkey ho hd hf hel ?_)
 cases hr:List.findIdx? (fun e=>(intKind prog w).is k e.2) es.toList with
 | some j =>
   dsimp only
   obtain ⟨hj,hpj,_⟩:=List.findIdx?_eq_some_iff_getElem.mp hr
   have hSk:S k=true:=(hmem k).mpr ⟨es.toList[j],fI hj,hpj⟩
   refine wpAny_pure (wpAny_pure ?_)
   have e:s={ s with heap:=s.heap }:=by cases s;rfl
   have:=h s.heap (Heap.SameBut.refl a s.heap) ⟨o,es,ep,t,ho,hex,hd,hel,fun k'=>by
    rw [e6,decide_eq_true_eq,<- hmem k']
    exact ⟨fun hk=>hk.elim id (fun e=>e▸hSk),.inl⟩,hb,hf,by rw [hSk];exact hn,tk⟩
   rw [hSk] at this;rw [e];exact this
 | none =>
   dsimp only
   have hSk:S k=false:=by
    cases hk:S k with
    | false=>rfl
    | true=>obtain ⟨e,he,hp⟩:=(hmem k).mp hk;have:=List.findIdx?_eq_none_iff.mp hr e he;rw [hp] at this;exact CY this
   have hgw:∀ (b:Bool) {s₁:Shared} {Q':Unit->Shared->Prop},Q' () s₁->wpAny (model prog w) A (match b with | true=>rule "set.scan.the-table-gave-way" | false=>pure ()) Q' E s₁ :=
    fun b s₁ Q' hq=>by cases b<;>first | exact wpAny_pure hq | exact wpAny_rule hq
   have hperm:=layNew_perm t es ((intKind prog w).hash k) x
   have hfits:=layNew_fits t es ((intKind prog w).hash k) x
   have tk1:=tk.lay es ((intKind prog w).hash k) x
   generalize hL:layNew t es ((intKind prog w).hash k) x=L at hperm hfits tk1 ⊢
   obtain ⟨es1,t1,wasDummy,gave⟩:=L
   dsimp only at hperm hfits tk1 ⊢
   rw [Aq] at hperm
   have hel1:ElemsOf (intKind prog w) es1.toList:=(hel.push hkey hsc).perm hperm
   have hmem1:∀ k',(S k'||decide (k'=k))=true↔∃ e∈es1.toList,(intKind prog w).is k' e.2=true:=mem_push_iff hkey hmem hperm
   have hb1':es1.size<scanBound:=by rw [<- aF,hperm.length_eq,aH,aF];simpa using hb1
   refine wpAny_bind (hgw _ ?_)
   have hsz1:es1.size=n+1:=by rw [<- aF,hperm.length_eq,aH,aF,hn];rfl
   have hend:∀ h',Heap.SameBut a s.heap h'->gM prog w h' a (fun k'=>S k'||decide (k'=k)) es1.size->Q true { s with heap:=h' }:=by
    intro h' hsb hS';have:=h h' hsb;rw [hSk] at this;rw [hsz1] at hS';exact this hS'
   split
   ·refine wpAny_bind ?_
    rw [hashByValue_scannable 8 hsc]
    refine wpAny_pure ?_
    refine AK ?_ ho hex hd hel1 hmem1 hb1' ?_ ?_ ?_
    ·intro b s₁ Q' hq;cases b<;>first | exact wpAny_pure hq | exact wpAny_rule hq
    ·split
     ·exact hfits
     ·exact SetTable.fits_plain_off hfits
    ·split
     ·exact tk1
     ·exact ⟨tk1.led,tk1.ris⟩
    ·intro h' hsb hS';dsimp only;exact wpAny_pure (hend h' hsb hS')
   ·refine wpAny_bind (wpAny_pure ?_)
    simp only [↓reduceIte]
    refine AK ?_ ho hex hd hel1 hmem1 hb1' hfits tk1 ?_
    ·intro b s₁ Q' hq;cases b<;>first | exact wpAny_pure hq | exact wpAny_rule hq
    ·intro h' hsb hS';dsimp only;exact wpAny_pure (hend h' hsb hS')
end
end Ry
namespace Ry
open PySem PySem.Spec PyProof.Rows L2
section
variable {prog:Program} {w:World} {A:Around} {E:Value->Shared->Prop} {s:Shared}
theorem yr (a:Value) {Q₁:Value->Shared->Prop} (h:Q₁ (.ref s.heap.objs.size) { s with heap:=s.heap.push { cls:=.type "set",dict:=none,data:=.set #[] 0 (.fresh 0 0 (!rQ w)) } }) :
 codeAny (model prog w) A (.call (.builtin "set.__new__") ⟨[.type "set",a],[]⟩) (wants Q₁ E) s:=by
 refine codeAny_of_tree ?_
 show wpAny _ A.in1 (do checkBuiltinCall "set.__new__" ⟨[.type "set",a],[]⟩;again (.builtin "set.__new__" ⟨[.type "set",a],[]⟩)) _ _ s
 refine wpAny_bind (wpAny_of_eq (PySem.F.newCall_set_1 a) (wpAny_pure ⟨plainId_quiet PySem.F.plain_set_new _,codeAny_builtin PySem.F.entry_set_new ?_⟩))
 rw [Around.under_plainId PySem.F.plain_set_new _]
 unfold Builtin.«set.__new__» Builtin.Frozenset.newClass
 have hsub:=sub_set_self
 obtain ⟨hp,g,d,tk,os⟩:=s
 dsimp only
 wp_walk
 refine wpAny_askSetting (wpAny_pure ?_)
 dsimp only
 simp only [newObj]
 refine wpAny_bind (wpAny_alloc (wpAny_pure ?_))
 exact wpAny_pure h
end
section
variable {prog:Program} {w:World} {A:Around} {R:Result->Shared->Prop} {I:Addr} {fp wr:List Addr} {G:Array GenState->Array GenState->Prop} {n:Nat} {P:Nat->Value->Prop} {St:Nat->Shared->Prop}
theorem vY (W:WalksS prog w A.in1 I fp wr G n P St) (S:Addr) (hSf:S∉fp) (val:Nat->Int) (hval:∀ i v,P i v->∃ t,v=.int (val i) t) (hb:n+1<scanBound) :
 ∀ (k i:Nat) (s:Shared),n-i=k->i<=n->St i s->gM prog w s.heap S (fun k'=>(firstMet val i).any (· == k')) (firstMet val i).length ->
   (∀ s',Moved (S::wr) G s s'->gM prog w s'.heap S (fun k'=>(firstMet val n).any (· == k')) (firstMet val n).length->R (.ok (.ret .none)) s') ->
   codeAny (model prog w) A (.builtin "set.update.loop" ⟨[.ref S,.ref I],[]⟩) R s:=by
 have hSw:S∉wr:=fun h=>hSf (W.sub _ h)
 have hsub:∀ b∈wr,b∈S::wr:=fun b hb=>al _ hb
 intro k
 induction k with
 | zero =>
   intro i s hk hi hst hS hR
   have hin:i=n:=by lia
   subst hin
   refine codeAny_builtin F.entry_set_update_loop ?_
   rw [Around.under_plainId F.plain_set_update_loop _]
   show wpAny _ A.in1 (pyNext (.ref I)>>=_) _ _ s
   refine wpAny_bind (W.done s _ _ hst fun s' hm=>?_)
   show wpAny _ A.in1 (ret Value.none) _ _ s'
   exact wpAny_pure (hR s' (hm.mono hsub) (hS.at fun o ho=>hm.heap S _ hSw ho))
 | succ k ih =>
   intro i s hk hi hst hS hR
   have hlt:i<n:=by lia
   refine codeAny_builtin F.entry_set_update_loop ?_
   rw [Around.under_plainId F.plain_set_update_loop _]
   show wpAny _ A.in1 (pyNext (.ref I)>>=_) _ _ s
   refine wpAny_bind (W.item i s _ _ hlt hst fun v s' hP hst' hm=>?_)
   obtain ⟨t,rfl⟩:=hval i v hP
   have hS':=hS.at (h':=s'.heap) fun o ho=>hm.heap S _ hSw ho
   show wpAny _ A.in1 (holding [Value.int (val i) t] (setAdd S (.int (val i) t))>>=_) _ _ s'
   refine wpAny_bind (wpAny_holding ?_)
   unfold setAdd
   refine wpAny_holding ?_
   refine wpAny_bind ((intKind prog w).pyHash (k:=val i) (intKind_is _ _ _ _) ?_)
   have hroom:(firstMet val i).length+1<scanBound:=by have:=firstMet_length_le val i;lia
   refine EQ (s:={ s' with toks:=s'.toks+1 }) (intKind_is _ _ _ _) rfl hS' hroom fun h' hsb hS2=>?_
   have hSi:gM prog w h' S (fun k'=>(firstMet val (i+1)).any (· == k')) (firstMet val (i+1)).length:=hS2.congr (fun k'=>by rw [firstMet_succ,step_any]) (by rw [firstMet_succ,step_length])
   refine wpAny_pure ⟨plainId_quiet F.plain_set_update_loop _,ih (i+1) _ (by lia) hlt (W.frame _ s' _ _ hst' (ip _) fun b hb o e=>?_) hSi fun s'' hm'' hS''=>?_⟩
   ·rw [hsb.2 b (fun h:b=S=>hSf (by rw [<- h];exact hb))];exact e
   ·refine hR s'' (Moved.trans W.gtrans ((hm.mono hsub).then_heap (ip _) fun b o hb e=>?_) hm'') hS''
    rw [hsb.2 b (fun h:b=S=>hb (by rw [h];exact ax))];exact e
end
end Ry
namespace Ry
open PySem PySem.Spec PyProof.Rows L2
noncomputable abbrev v8 (b:Bool):Obj:={ cls:=.type "set",dict:=none,data:=.set #[] 0 (.fresh 0 0 b) }
noncomputable abbrev xG (ns:List Int):List Int:=firstMet (fun j=>ns.getD j 0) ns.length
section
variable {prog:Program} {w:World} {A:Around} {E:Value->Shared->Prop} {s:Shared}
end
end Ry
namespace Ry
open PySem PySem.Spec PyProof.Rows L2
theorem rX (ns:List Int):xG ns=ns.foldl step_dedup []:=by
 unfold xG firstMet
 congr 1
 apply dZ
 intro i
 rw [av]
 by_cases h:i<ns.length
 ·rw [ye h,ae h]
  simp [h]
 ·rw [bM (show (bp ns.length).length<=i by rw [cw];lia),bM (show ns.length<=i by lia)]
  rfl
theorem gR:∀ (ns acc:List Int),acc.Nodup->(ns.foldl step_dedup acc).Nodup/\∀ x,x∈ns.foldl step_dedup acc↔x∈acc\/x∈ns
 | [],acc,h=>⟨h,fun x=>by simp⟩
 | a::ns,acc,h=>by
   show (ns.foldl step_dedup (step_dedup acc a)).Nodup/\∀ x,x∈ns.foldl step_dedup (step_dedup acc a)↔_
   by_cases m:a∈acc
   ·have e:step_dedup acc a=acc:=by
     unfold step_dedup
     rw [if_pos (dh.mpr ⟨a,m,by simp⟩)]
    rw [e]
    obtain ⟨h1,h2⟩:=gR ns acc h
    refine ⟨h1,fun x=>?_⟩
    rw [h2,ah]
    constructor
    ·rintro (z | z)
     ·exact .inl z
     ·exact .inr (.inr z)
    ·rintro (z | rfl | z)
     ·exact .inl z
     ·exact .inl m
     ·exact .inr z
   ·have e:step_dedup acc a=acc++[a]:=by
     unfold step_dedup
     rw [if_neg fun z=>by
      obtain ⟨y,hy,e⟩:=dh.mp z
      exact m (by simpa using (eq_of_beq e)▸hy)]
    rw [e]
    obtain ⟨h1,h2⟩:=gR ns (acc++[a]) (cx.mpr ⟨h,by simp,fun x hx y hy=>by
     rw [au] at hy
     rintro rfl
     exact m (hy▸hx)⟩)
    refine ⟨h1,fun x=>?_⟩
    rw [h2,aE,au,ah]
    constructor
    ·rintro ((z | z) | z)
     ·exact .inl z
     ·exact .inr (.inl z)
     ·exact .inr (.inr z)
    ·rintro (z | z | z)
     ·exact .inl (.inl z)
     ·exact .inl (.inr z)
     ·exact .inr z
theorem dI:∀ ns:List Int,(dB ns).Nodup/\∀ x,x∈dB ns↔x∈ns
 | []=>⟨jw,fun x=>Iff.rfl⟩
 | a::ns=>by
   obtain ⟨h1,h2⟩:=dI ns
   show (if a∈ns then dB ns else a::dB ns).Nodup/\∀ x,x∈(if a∈ns then dB ns else a::dB ns)↔_
   by_cases m:a∈ns
   ·rw [if_pos m]
    refine ⟨h1,fun x=>?_⟩
    rw [h2,ah]
    exact ⟨.inr,fun z=>z.elim (fun e=>e▸m) id⟩
   ·rw [if_neg m]
    refine ⟨aV.mpr ⟨fun z=>m ((h2 a).mp z),h1⟩,fun x=>?_⟩
    rw [ah,ah,h2]
theorem qy (ns:List Int):(xG ns).length=(dB ns).length:=by
 obtain ⟨a1,a2⟩:=gR ns [] jw
 obtain ⟨b1,b2⟩:=dI ns
 rw [rX]
 refine Ea (Ms.length_le_of_subset a1 fun x hx=>(b2 x).mpr ?_) (Ms.length_le_of_subset b1 fun x hx=>(a2 x).mpr (.inr ((b2 x).mp hx)))
 exact ((a2 x).mp hx).elim (fun z=>by simp at z) id
section
variable {X:Cx} {e:Expr} {p p2 pos pos2:Pos} {te:TE}
end
end Ry
namespace Ry
open PySem PySem.Spec PyProof.Rows L2
section
variable {X:Cx} {e:Expr} {elts:List Expr} {x1:Nat} {p pos pt:Pos} {te:TE} {f:Rho->Option Rv}
end
end Ry
namespace Ry
open PySem PySem.Spec PyProof.Rows L2
section
variable {X:Cx} {a b e:Expr} {es:List Expr} {p pos:Pos} {fa fb:Rho->Option Rv} {g:Rho->Option (List Rv)}
theorem gL:∀ {ns:List Int} {us:List Value},cq (ns.map V.int) us->IntsAre us ns
 | [],us,r=>by rw [gB] at r;cases r;exact .nil
 | n::ns,us,r=>by
   rw [aC] at r
   cases r with
   | cons h t =>
     obtain ⟨tk,rfl⟩:=h
     exact .cons n tk (gL t)
end
section
variable {X:Cx} {elt tg iter:Expr} {ifs:List Expr} {scope:Scope} {pos spos pos':Pos} {ix:List (Option Nat)} {wi:TI} {gt:TG} {tt:TT} {te:TE}
end
end Ry
namespace Ry
open PySem PySem.Spec PyProof.Rows L2
section
variable {X:Cx} {elt tg iter:Expr} {ifs:List Expr} {scope:Scope} {pos spos pos':Pos} {ix:List (Option Nat)} {fi:Rho->Option (List Da)} {t:Da->Rho->Option Rho} {c:Rho->Option Bool} {f:Rho->Option Rv}
end
section
variable {X:Cx} {pins:List (Addr×Obj)} {σ:St} {H:Hp} {s:Shared} {l:Addr} {o:HO} {ob:Obj}
end
section
variable {X:Cx} {elt tg iter:Expr} {ifs:List Expr} {scope:Scope} {pos spos pos':Pos} {ix:List (Option Nat)} {fi:Rho->Option (List Da)} {t:Da->Rho->Option Rho} {c:Rho->Option Bool} {f:Rho->Option Rv}
end
section
variable {X:Cx} {a b:Expr} {pos:Pos} {fa fb:Rho->Option Rv}
noncomputable def C5 (i j:Int):Bool:=decide (0<=j)&&decide (j<=1000000)&&decide (i.natAbs<2 ^ 64)
theorem Cr (ha:PX X a fa) (hb:PX X b fb):PX X (.BinOp a .Pow b pos) (x2 (oI C5 fun i j=>i ^ j.toNat) fa fb) :=
 pJ AQ (lK fun i j h=>by unfold C5 at h;rw [aD,aD] at h;exact ⟨of_decide_eq_true h.1.1,of_decide_eq_true h.1.2,of_decide_eq_true h.2⟩) ha hb
theorem Cm (ha:PX X a fa) (hb:PX X b fb):PX X (.BinOp a .RShift b pos) (x2 (oI (fun _ j=>decide (0<=j)) fun i j=>i / 2 ^ j.toNat) fa fb):=pJ Bz (lK fun _ _ h=>of_decide_eq_true h) ha hb
theorem Aj (ha:PX X a fa) (hb:PX X b fb):PX X (.BinOp a .BitAnd b pos) (x2 (oI (fun _ _=>true) Builtin.bitAnd) fa fb):=pJ BY mJ ha hb
end
end Ry
namespace Ry
open PySem PySem.Spec PyProof.Rows L2
section
variable {X:Cx} {elt tg iter:Expr} {ifs:List Expr} {scope:Scope} {pos spos pos':Pos} {ix:List (Option Nat)} {fi:Rho->Option (List Da)} {t:Da->Rho->Option Rho} {c:Rho->Option Bool} {f:Rho->Option Rv}
end
section
variable {X:Cx} {a b e:Expr} {es:List Expr} {p pos:Pos} {fa f:Rho->Option Rv} {g:Rho->Option (List Rv)}
end
section
variable {prog:Program} {w:World} {A:Around} {E:Value->Shared->Prop} {s:Shared}
end
section
variable {X:Cx} {o e:Expr} {fo fe:Rho->Option Rv} {apos cpos pos p:Pos}
end
end Ry
namespace Ry
open PySem PySem.Spec PyProof.Rows L2
section
variable {O:KeyOrd} {key:Nat->O.α} {n:Nat}
noncomputable def DE (O:KeyOrd) (key:Nat->O.α) {α:Type}:PySem.W.KasT α->α
 | .ret a=>a
 | .ask i j k=>DE O key (k (O.blt (key i) (key j)))
theorem dJ.run {α:Type} {Q:α->Prop}:∀ {t:PySem.W.KasT α},dJ O key n t Q->Q (DE O key t)
 | .ret _,q=>q
 | .ask i j k,q=>dJ.run (t:=k (O.blt (key i) (key j))) q.2.2
noncomputable def rR (O:KeyOrd) (d:O.α) (ks:List O.α):List Nat:=if ks.length<2 then bp ks.length else (DE O (fun i=>ks.getD i d) (PySem.W.kas_sort ks.length)).toList
theorem jP (O:KeyOrd) (d:O.α) (ks:List O.α):(rR O d ks).Perm (bp ks.length)/\((rR O d ks).map fun i=>ks.getD i d).Pairwise O.kle:=by
 unfold rR
 split
 ·rename_i h
  refine ⟨.refl _,?_⟩
  match ks,h with
  | [],_=>exact .nil
  | [a],_=>exact bj _ _
  | _::_::_,h=>simp at h;lia
 ·rename_i h
  obtain ⟨hp,hu⟩:=dJ.run (O:=O) (key:=fun i=>ks.getD i d) (n:=ks.length) (t6 (Q:=fun p=>b0 ks.length p/\mr O (fun i=>ks.getD i d) p ks.length) (by lia) fun p hp hu=>⟨hp,hu⟩)
  exact ⟨by simpa using bh.mp hp.perm,im hp d hu⟩
theorem uY {O:KeyOrd} {d:O.α} {ks:List O.α} {i:Nat} (h:i∈rR O d ks):i<ks.length:=by simpa using (jP O d ks).1.mem_iff.mp h
end
section
variable {prog:Program} {w:World} {A:Around} {s:Shared}
end
section
variable {X:Cx} {pins:List (Addr×Obj)} {σ:St} {H:Hp} {s:Shared}
end
end Ry
namespace Ry
open PySem PySem.Spec PyProof.Rows L2
noncomputable def tf (prog:Program) (w:World) (A:Around) (s:Shared) (us:List Value) (O:KeyOrd) (κ:SortKind) (key:Nat->O.α):Prop :=
 (2<=us.length->∀ Q:SortKind->Shared->Prop,Q κ s->wpAny (model prog w) A (keyKind' us.toArray) Q (fun _ _=>False) s) /\
 ∀ i j (C:Bool->Shared->Prop),i<us.length->j<us.length->C (O.blt (key i) (key j)) s->PySem.W.kas_ask prog w A κ us i j C s
theorem uh {O:KeyOrd} {d:O.α} {ks:List O.α} {p:List Nat} (hn:ks.Nodup) (hp:p.Perm (bp ks.length)) (hs:(p.map fun i=>ks.getD i d).Pairwise O.kle):p=rR O d ks:=by
 obtain ⟨h1,h2⟩:=jP O d ks
 have e:(p.map fun i=>ks.getD i d)=(rR O d ks).map fun i=>ks.getD i d:=dq ((hp.trans h1.symm).map _) hs h2
 have inj:∀ i j,i<ks.length->j<ks.length->ks.getD i d=ks.getD j d->i=j:=fun i j hi hj e=>by
  rw [ai,ae hi,ai,ae hj] at e
  exact (eI hn).mp e
 have go:∀ (p q:List Nat),(∀ i∈p,i<ks.length)->(∀ i∈q,i<ks.length)->(p.map fun i=>ks.getD i d)=(q.map fun i=>ks.getD i d)->p=q:=fun p=>by
  induction p with
  | nil=>intro q _ _ e;cases q with
    | nil=>rfl
    | cons _ _=>cases e
  | cons i p ih=>intro q hp hq e;cases q with
    | nil=>cases e
    | cons j q =>
      rw [aC,aC] at e
      injection e with e1 e2
      rw [inj i j (hp i ax) (hq j ax) e1,ih q (fun i hi=>hp i (al _ hi)) (fun i hi=>hq i (al _ hi)) e2]
 exact go _ _ (fun i hi=>by simpa using hp.mem_iff.mp hi) (fun i hi=>uY hi) e
section
variable {prog:Program} {w:World} {A:Around} {E:Value->Shared->Prop} {s:Shared} {O:KeyOrd} {κ:SortKind} {d:O.α} {kl:List O.α} {ks vs:List Value}
end
section
variable {X:Cx} {pins:List (Addr×Obj)} {σ:St} {H:Hp} {s:Shared} {A:Around} {E:Value->Shared->Prop} {P:PySem.Fin->Shared->Prop}
end
end Ry
namespace Ry
open PySem PySem.Spec PyProof.Rows L2
noncomputable def Bm (mg:Str->Option Value) (h:Heap):Prop:=∃ bm ob,mg "__builtins__" = some (.ref bm)/\bm≠builtinsNs/\h.get? bm=some ob/\ob.cls=.type "module"/\ob.dict=some builtinsNs/\ob.data=.plain
section
variable {X:Cx} {pins:List (Addr×Obj)} {σ:St} {H:Hp} {s:Shared} {params:Arguments} {body:Expr} {scope:Scope} {pos:Pos} {c P:Addr} {q:Str}
end
section
variable {X:Cx} {pins:List (Addr×Obj)} {σ:St} {H:Hp} {s:Shared} {scope:Scope} {ix:List (Option Nat)} {x:Str} {i0:Nat} {A:Around} {f c':Addr} {q:Str}
end
end Ry
namespace Ry
open PySem PySem.Spec PyProof.Rows L2
noncomputable def hkD:List Da->Option (List (List Int))
 | []=>some []
 | .tup [.int n,.tup xs]::r=>match eQ xs,hkD r with
   | some ns,some ts=>some ((n::ns)::ts)
   | _,_=>none
 | _=>none
theorem vj {kd:List Da}:∀ {ts:List (List Int)},hkD kd=some ts->ts.length=kd.length:=by
 fun_induction hkD kd with
 | case1=>intro ts e;cases e;rfl
 | case2 n xs r ns ts0 er en ih=>intro ts e;cases e;rw [aA,aA,ih er]
 | case3=>intro ts e;cases e
 | case4=>intro ts e;cases e
section
variable {X:Cx} {pins:List (Addr×Obj)} {σ:St} {H:Hp} {s:Shared}
theorem v7 {A:Around} {ns:List Int} {s':Shared} {G':Hp} {kvs:List V} {us:List Value} (dk:bT X.K G' (ns.map Da.int) kvs) (rk:cq kvs us):tf X.prog X.w A s' us xS oneType' (fun i=>ns.getD i (0:Int)):=by
 have ek:=bT.ints.mp dk
 subst ek
 have hl:us.length=ns.length:=by rw [<- rk.length,af]
 have at':∀ i,i<us.length->∃ t,us.getD i Value.none=.int (ns.getD i 0) t:=fun i hi=>by
  have hi':i<ns.length:=by lia
  obtain ⟨u,hu,ru⟩:=rk.get (i:=i) (x:=.int ns[i]) (by rw [av,ae hi'];rfl)
  obtain ⟨t,rfl⟩:=ru
  refine ⟨t,?_⟩
  rw [ai,hu,ai,ae hi'];rfl
 refine ⟨fun h2 Q q=>?_,fun i j C hi hj c=>?_⟩
 ·refine PySem.W.kas_kind (T:=.type "int") h2 (fun v hv=>?_) (by decide) (by decide) q
  obtain ⟨i,hi,rfl⟩:=bq hv
  obtain ⟨t,e⟩:=at' i hi
  have e2:us[i]=.int (ns.getD i 0) t:=by rw [<- e];simp [hi]
  rw [e2]
  exact .now
 ·show wpAny (model X.prog X.w) _ (keyLt' oneType' (us.getD i Value.none) (us.getD j Value.none)) C _ _
  obtain ⟨t,e1⟩:=at' i hi
  obtain ⟨t',e2⟩:=at' j hj
  rw [e1,e2]
  exact PySem.W.kat_lt_int c
theorem DX {K:PySem.W.Frag} {G:Hp}:∀ {kd:List Da} {ts:List (List Int)} {kvs:List V},hkD kd=some ts->bT K G kd kvs->∀ i,i<ts.length->∃ (a b:Addr) (n:Int) (ns:List Int),kvs[i]?=some (.ref a)/\G a=some (.tup [.int n,.ref b])/\G b=some (.tup (ns.map V.int))/\ts.getD i []=n::ns:=by
 intro kd
 fun_induction hkD kd with
 | case1=>intro ts kvs e d i hi;cases e;cases hi
 | case2 n xs r ns ts0 er en ih =>
   intro ts kvs e d i hi
   cases e
   obtain ⟨x,rr,rfl,d1,d2⟩:=d
   obtain ⟨a,ys,rfl,ga,da⟩:=d1
   obtain ⟨y1,r1,rfl,e1,da2⟩:=da
   obtain ⟨y2,r2,rfl,e2,e3⟩:=da2
   cases (show r2=[] from e3)
   cases (show y1=.int n from e1)
   obtain ⟨b,zs,rfl,gb,db⟩:=e2
   rw [fq en] at db
   have ez:=bT.ints.mp db
   subst ez
   cases i with
   | zero=>exact ⟨a,b,n,ns,rfl,ga,gb,rfl⟩
   | succ i =>
     obtain ⟨a',b',n',ns',h1,h2,h3,h4⟩:=ih er d2 i (by simpa using hi)
     exact ⟨a',b',n',ns',by simpa using h1,h2,h3,by simpa using h4⟩
 | case3=>intro ts kvs e;cases e
 | case4=>intro ts kvs e;cases e
theorem mZ {A:Around} {pins':List (Addr×Obj)} {kd:List Da} {ts:List (List Int)} {s':Shared} {G' H':Hp} {kvs:List V} {us:List Value} (hk:hkD kd=some ts) (hlen:ts.length=kd.length) (I':Inv X pins' σ H' s') (sm:bY G' H') (hu:A.units<cLine)
 (dk:bT X.K G' kd kvs) (rk:cq kvs us):tf X.prog X.w A s' us oV (tuples' true) (fun i=>ts.getD i []):=by
 have hl:us.length=ts.length:=by rw [<- rk.length,dk.length,hlen]
 have at':∀ i,i<us.length->∃ (a b:Addr) (n:Int) (t:Tok) (ns:List Int) (o:Obj) (m:Nat),us.getD i Value.none=.ref a/\ts.getD i []=n::ns/\s'.heap.get? a=some o/\o.cls=.type "tuple"/\o.data=.seq #[.int n t,.ref b] m/\H' b=some (.tup (ns.map V.int)):=fun i hi=>by
  obtain ⟨a,b,n,ns,h1,h2,h3,h4⟩:=DX hk dk i (by lia)
  obtain ⟨u,hu,ru⟩:=rk.get h1
  cases (show u=Value.ref a from ru)
  obtain ⟨_,its,rv,o,ho,hc,m,hd⟩:=I'.hok a _ (sm _ _ h2)
  obtain ⟨u1,u2,rfl,e1,e2⟩:=cq.two rv
  obtain ⟨t,rfl⟩:=e1
  cases (show u2=Value.ref b from e2)
  exact ⟨a,b,n,t,ns,o,m,by rw [ai,hu];rfl,h4,ho,hc,hd,sm _ _ h3⟩
 refine ⟨fun h2 Q q=>?_,fun i j C hi hj c=>?_⟩
 ·have firsts:∀ vs:List Value,(∀ u∈vs,∃ i,i<us.length/\u=us.getD i Value.none)->∃ fs:List Value,PySem.W.KatTups s'.heap vs fs/\vs.length=fs.length/\∀ f∈fs,∃ n t,f=Value.int n t:=fun vs=>by
   induction vs with
   | nil=>exact fun _=>⟨[],.nil,rfl,by simp⟩
   | cons u vs ih =>
     intro hu
     obtain ⟨fs,h1,h2,h3⟩:=ih fun v hv=>hu v (al _ hv)
     obtain ⟨i,hi,rfl⟩:=hu u (ax)
     obtain ⟨a,b,n,t,ns,o,m,ea,et,ho,hc,hd,hb⟩:=at' i hi
     refine ⟨.int n t::fs,?_,by rw [aA,aA,h2],fun f hf=>?_⟩
     ·rw [ea]
      exact .cons ho hc hd (by simp) h1
     ·rcases ah.mp hf with z | z
      ·exact ⟨n,t,z⟩
      ·exact h3 f z
  obtain ⟨fs,f1,f2,f3⟩:=firsts us fun u hu=>by
   obtain ⟨i,hi,rfl⟩:=bq hu
   exact ⟨i,hi,by simp [hi]⟩
  refine PySem.W.kat_kind (T:=.type "int") f1 (by lia) (fun v hv=>?_) (by decide) q
  obtain ⟨n,t,rfl⟩:=f3 v hv
  exact .now
 ·show wpAny (model X.prog X.w) _ (keyLt' (tuples' true) (us.getD i Value.none) (us.getD j Value.none)) C _ _
  obtain ⟨a,b,n,t,ns,o,m,ea,et,ho,hc,hd,hb⟩:=at' i hi
  obtain ⟨a',b',n',t',ns',o',m',ea',et',ho',hc',hd',hb'⟩:=at' j hj
  have c:C (HT.lexLt (ts.getD i []) (ts.getD j [])) s':=c
  rw [et,et'] at c
  rw [ea,ea']
  refine PySem.W.kat_lt ho hd ho' hd' ?_
  show PySem.W.KatLex X.prog X.w A true (decide (2<2)) C [(Value.int n t,Value.int n' t'),(Value.ref b,Value.ref b')] 0 s'
  refine PySem.W.kat_cons (wpAny_eqBool_int ?_)
  by_cases e:n=n'
  ·subst e
   rw [beq_self_eq_true]
   have hq:HT.lexLt (n::ns) (n::ns')=HT.lexLt ns ns':=by rw [HT.lexLt_cons,if_pos rfl]
   rw [hq] at c
   have e1:ns.map V.int=(ns.map (Sum.inl:Int->Key)).map kV:=by rw [aT];rfl
   have e2:ns'.map V.int=(ns'.map (Sum.inl:Int->Key)).map kV:=by rw [aT];rfl
   have k1:=je I'.hok (e1▸hb)
   have k2:=je I'.hok (e2▸hb')
   refine PySem.W.kat_yes (PySem.W.kat_cons ((tupleKind (cr X.prog X.w)).eqBool hu k1 k2 ?_))
   by_cases en:ns=ns'
   ·subst en
    rw [decide_eq_true rfl]
    refine PySem.W.kat_yes (PySem.W.kat_nil ?_)
    have:HT.lexLt ns ns=false:=iZ ns
    rw [this] at c
    exact c
   ·have hne:¬ (ns.map (Sum.inl:Int->Key)=ns'.map Sum.inl):=fun z=>en (by
     have:=congrArg (oP fun k:Key=>match k with | .inl i=>i | .inr _=>0) z
     simpa [aT,Function.comp_def] using this)
    rw [decide_eq_false hne]
    refine PySem.W.kat_no ?_
    show wpAny _ _ (oneLt' false (Value.ref b) (Value.ref b')) _ _ _
    refine PySem.W.kat_one _ _ ?_
    obtain ⟨its,r1,it1,_⟩:=I'.tuple (SqT.of hb)
    obtain ⟨its',r1',it1',_⟩:=I'.tuple (SqT.of hb')
    exact HT.lt_tupInts it1 it1' (gL r1) (gL r1') hu c
  ·rw [show (n == n')=false from beq_eq_false_iff_ne.mpr e]
   have hq:HT.lexLt (n::ns) (n'::ns')=decide (n<n'):=by rw [HT.lexLt_cons,if_neg e]
   rw [hq] at c
   exact PySem.W.kat_no (oneLt_int c)
end
section
variable {X:Cx} {pins:List (Addr×Obj)} {σ:St} {H:Hp} {s:Shared}
end
section
variable {X:Cx} {a e body:Expr} {params:Arguments} {scope:Scope} {p p2 pos pos2 kpos lpos:Pos} {c P:Addr} {ix:List (Option Nat)} {x:Str} {i0:Nat} {g:Rho->Option Rv} {ga:Rho->Option (List Rv)}
end
end Ry
namespace Ry
open PySem PySem.Spec PyProof.Rows L2
noncomputable def xZ (K:PySem.W.Frag):List V->Hp->VK->Prop:=fun xs H Q=>∃ (p:Addr) (ys:List V) (G:Hp) (ds:List Da) (ts:List (List Int)),xs=[.ref p]/\bY G H/\SqL K H p ys/\bT K G ds ys/\hkD ds=some ts/\(ts.length<=127/\ts.Nodup) /\
 ∀ l,H l=none->Q (.ref l) (upd H l (.lst ((rR oV ([]:List Int) ts).map fun i=>ys.getD i .non)))
theorem m3 {X:Cx} (hr:fQ 2 X.A):iB X (.builtin "sorted") (xZ X.K):=by
 intro pins s σ H xs us Q I r h
 obtain ⟨p,ys,G,ds,ts,rfl,sm,sq,dl,hk,hn,k⟩:=h
 obtain ⟨u,rfl,rx⟩:=nP r
 cases rx
 obtain ⟨vs,col,rv⟩:=pX (A:=X.A.in1) I (.inl sq)
 have hln:=vj hk
 have hl:vs.length=ts.length:=by rw [<- rv.length,dl.length,hln]
 have hy:ys.length=ts.length:=by rw [dl.length,hln]
 have hu:X.A.in1.in1.units<cLine:=by have:=hr.un;show X.A.units+1+1<cLine;lia
 refine iS (O:=oV) (κ:=tuples' true) (key:=fun i=>ts.getD i []) col (by rw [hl];exact OkN.inj (.inr hn) []) (fun h' tk kp h2 Q' q=>(mZ hk hln (I.kept (t':=tk) kp) sm hu dl rv).1 h2 Q' q)
  (fun h' tk kp i j C hi hj c=>(mZ hk hln (I.kept (t':=tk) kp) sm hu dl rv).2 i j C hi hj c) fun p h1 h' tk c hp hu k1 kp e=>?_
 rw [hl] at hp hu
 have hz:sizeLine=16777216:=sizeLine_eq
 have h1p:p.toList.Perm (bp ts.length):=by simpa using bh.mp hp.perm
 have ep:p.toList=rR oV ([]:List Int) ts:=uh (O:=oV) hn.2 h1p (im (O:=oV) hp ([]:List Int) hu)
 have hpm:∀ i∈p.toList,i<ys.length:=fun i hi=>by rw [hy];simpa using h1p.mem_iff.mp hi
 have r2:=gH rv p.toList hpm
 have hlen:(p.toList.map fun i=>ys.getD i .non).length<=sizeLine:=by rw [af,h1p.length_eq,cw];lia
 have I1:Inv X pins σ H { s with heap:=h1,toks:=tk }:=I.kept (t':=tk) k1
 have kk:=k h1.objs.size (I1.hok.fresh (ag _))
 rw [<- ep] at kk
 exact ⟨.ref h1.objs.size,_,I1.laid (t':=tk) kp (ag _) (show eG X.prog X.w _ h' _ (.lst _) from ⟨hlen,_,c,r2,e⟩),rfl,kk⟩
noncomputable def ft:List Rv->Option Rv
 | [(_,.lst ds)]=>match hkD ds with
   | some ts=>if ts.length<=127/\ts.Nodup then some (.fr,.lst ((rR oV ([]:List Int) ts).map fun i=>ds.getD i .non)) else none
   | none=>none
 | _=>none
theorem oZ {K:PySem.W.Frag}:Cal K (xZ K) ft:=by
 intro B H0 G H rs c xs Q sg ra e k
 unfold ft at e
 split at e
 ·rename_i kd ds
  split at e
  ·rename_i ts hts
   split at e
   ·rename_i hn
    cases e
    obtain ⟨v,rfl,h⟩:=dM.one ra
    obtain ⟨p,ys,rfl,q,d⟩:=h.lst sg
    refine ⟨p,ys,G,ds,ts,rfl,sg,q,d,hts,hn,fun l hl=>?_⟩
    refine k _ G _ (Ext.own sg hl) ⟨l,_,rfl,hl,sg.free hl,aS,_,rfl,jz (K:=K) (G:=G) _ fun i hi=>?_⟩
    have hi':i<ds.length:=by
     have h1:i<ts.length:=uY (O:=oV) hi
     rw [vj hts] at h1
     exact h1
    obtain ⟨v,hv,dv⟩:=d.get (i:=i) (getD_some hi' .non)
    have e:ys.getD i .non=v:=by rw [ai,hv];rfl
    show Den K G (ds.getD i .non) (ys.getD i .non)
    rw [e]
    exact dv
   ·cases e
  ·cases e
 ·cases e
section
variable {X:Cx} {e:Expr} {es:List Expr} {p pos:Pos} {g:Rho->Option (List Rv)}
theorem qS (hr:fQ 2 X.A) (hg:Gl X "sorted") (hm:X.mg "sorted" = none) (ha:PXA X (e::es) g) (he:starEach (e::es) X.env=(false,eval e X.env)::starEach es X.env:=by exact bi rfl) (hpl:(backTo pos (starEach es X.env)).any (·.1)=false:=by rfl):PX X (.Call (.Name "sorted" p) (e::es) [] pos) (xB ft g) :=
 Bb (m3 hr) oZ hg hm (by decide +kernel) ha (by decide) (by decide) he hpl
end
end Ry
namespace Ry
open PySem PySem.Spec PyProof.Rows L2
section
variable {prog:Program} {w:World} {A:Around} {E:Value->Shared->Prop} {s:Shared}
end
section
variable {X:Cx} {a b e:Expr} {p p2 pos pos2:Pos} {fa fb:Rho->Option Rv} {g:Rho->Option (List Rv)}
end
end Ry
namespace Ry
open PySem PySem.Spec PyProof.Rows L2
section
variable {prog:Program} {w:World} {A:Around} {E:Value->Shared->Prop} {s:Shared}
end
section
variable {X:Cx} {e:Expr} {p pos:Pos} {f:Rho->Option Rv}
end
end Ry
namespace Ry
open PySem PySem.Spec PyProof.Rows L2
section
variable {prog:Program} {w:World} {A:Around} {E:Value->Shared->Prop} {s:Shared}
end
open AutoSeq1 (wpAny_loadPart') in
section
variable {X:Cx} {e:Expr} {elts:List Expr} {x1:Nat} {p pos pt:Pos} {te:TE} {f:Rho->Option Rv}
end
end Ry
namespace Ry
open PySem PySem.Spec PyProof.Rows L2
section
variable {prog:Program} {w:World} {A:Around} {R:Result->Shared->Prop} {I:Addr} {fp wr:List Addr} {n:Nat} {P:Nat->Value->Prop} {St:Nat->Heap->Prop}
end
section
variable {prog:Program} {w:World} {A:Around} {E:Value->Shared->Prop} {s:Shared} {l:Addr} {xs:Array (Int×Tok)}
end
end Ry
namespace Ry
open PySem PySem.Spec PyProof.Rows L2
section
variable {X:Cx} {e tg:Expr} {p pos:Pos} {te:TE} {f:Rho->Option Rv}
end
end Ry
namespace Ry
open PySem PySem.Spec PyProof.Rows L2
section
variable {X:Cx} {o:Expr} {elts:List Expr} {x1:Nat} {apos cpos pt:Pos} {f:Rho->Option Rv}
end
open AutoSeq1 (wpAny_loadPart' idx_int) in
section
variable {X:Cx} {e:Expr} {f:Rho->Option Rv} {pos:Pos}
end
end Ry
namespace Ry
open PySem PySem.Spec PyProof.Rows L2
noncomputable def yJ (ks:List Key) (ds:List Da):List Key->List Da->List Key×List Da
 | k::ks',d::ds'=>yJ (cF ks k) (eB ks ds k d) ks' ds'
 | _,_=>(ks,ds)
theorem ke {κ:Type} [DecidableEq κ] {j x:κ}:∀ {ks:List κ},x∈cF ks j↔x∈ks\/x=j
 | []=>by simp [cF]
 | k::ks=>by
   unfold cF
   split
   ·rename_i h
    subst h
    rw [ah]
    exact ⟨.inl,fun h=>h.elim id .inl⟩
   ·rw [ah,ah,ke (ks:=ks),or_assoc]
theorem kO {κ:Type} [DecidableEq κ] {j:κ}:∀ {ks:List κ},ks.Nodup->(cF ks j).Nodup
 | [],_=>by simp [cF]
 | k::ks,nd=>by
   unfold cF
   obtain ⟨n1,n2⟩:=aV.mp nd
   split
   ·exact nd
   ·rename_i h
    exact aV.mpr ⟨fun z=>(ke.mp z).elim n1 h,kO n2⟩
theorem um {K:PySem.W.Frag} {G:Hp}:∀ (more:List (Key×V)) {ds':List Da} {kvs:List (Key×V)} {ks:List Key} {ds:List Da},bT K G ds' (more.map (·.2))->ks.Nodup->kvs.map (·.1)=ks->bT K G ds (kvs.map (·.2)) ->
 (lh kvs more).map (·.1)=(yJ ks ds (more.map (·.1)) ds').1/\bT K G (yJ ks ds (more.map (·.1)) ds').2 ((lh kvs more).map (·.2))
 | [],ds',kvs,ks,ds,h',nd,e,h=>by
   cases ds' with
   | nil=>exact ⟨e,h⟩
   | cons d ds'=>obtain ⟨x,r,z,_⟩:=h';cases z
 | (k,v)::more,ds',kvs,ks,ds,h',nd,e,h=>by
   cases ds' with
   | nil=>cases (show (v::more.map (·.2))=[] from h')
   | cons d ds' =>
     obtain ⟨x,r,z,d1,d2⟩:=h'
     injection z with z1 z2
     subst z1 z2
     obtain ⟨p1,p2⟩:=my (K:=K) (G:=G) k nd e h d1
     exact um more (kvs:=ir kvs k v) d2 (kO nd) p1 p2
noncomputable def yP:V->List V->Hp->VK->Prop:=fun x vs H Q=>∃ l b kvs more,x=.ref l/\vs=[.ref b]/\l≠b/\H l=some (.dK kvs)/\Rd H b (.dK more)/\kvs.length+more.length<=sizeLine/\Q .non (upd H l (.dK (lh kvs more)))
section
variable {X:Cx} {e:Expr} {f:Rho->Option Rv} {pos:Pos}
theorem uN:MtR X "dict.update" yP:=by
 intro pins s σ H x vs v us Q I rx rv h
 obtain ⟨l,b,kvs,more,rfl,rfl,hne,hH,hB,hz,q⟩:=h
 cases rx
 obtain ⟨u,rfl,ru⟩:=rv.one
 cases ru
 obtain ⟨z1,hd1,vs1,rel1,dd1⟩:=BP I.hok hH
 obtain ⟨z2,hd2,vs2,rel2,dd2⟩:=ny I.hok hB
 have l1:=rel1.length
 have l2:=rel2.length
 refine call_meetsIn PySem.F.slot_dict_update dd1.typeIs PySem.F.entry_dict_update (PySem.F.args_dict_update_2 _ _) (meets_dict_update (cr X.prog X.w) l b hne hd2) ⟨vs1,vs2,dd1,dd2,by lia,fun h' dd' _ hs=>?_⟩
 have he:∃ q,h'.get? l=some q:=let ⟨q,_,_,hq,_⟩:=dd';⟨q,hq⟩
 have hl:=iL more kvs
 exact ⟨.non,_,pk I (by rw [hH];exact True.intro) hs he (xj (by lia) hd1 (KV.merge rel2 rel1) dd'),rfl,q⟩
noncomputable def iU (i:Nat) (f:Rho->Option Rv):Rho->Res:=fun ρ=>match ρ[i]?,f ρ with
 | some (.ow (.dK ks ds)),some (kd,.dK ks' ds')=>if ks.Nodup/\ks.length+ks'.length<=1000000/\kd≠.bo then .nx (ρ.set i (.ow (.dK (yJ ks ds ks' ds').1 (yJ ks ds ks' ds').2))) else .bad
 | _,_=>.bad
theorem rn {i:Nat} {x:Str} {p1 apos cpos:Pos} (he:PX X e f) (hN:X.N[i]?=some x:=by rfl) (hv:Vis X.env.scope x:=by first | exact Or.inl rfl | exact Or.inr (Or.inl rfl) | exact Or.inr (Or.inr rfl)) (hd:(x == ("__debug__" : Str))=false:=by decide)
 (hcd:(x == ("__classdict__" : Str))=false:=by decide)
 (hs:swapsWith (.Call (.Attribute (.Name x p1) "update" apos) [e] [] cpos) none pos.line X.env=pure false:=by rfl) (hbase:attributeBase (.Name x p1) "update" X.env (eval (.Name x p1) X.env)=eval (.Name x p1) X.env:=by rfl)
 (hfew:((backTo cpos (starEach [e] X.env)).all (fun x=>!x.1)&&(backToKw cpos (keywordEach [] X.env)).all (fun x=>x.1.isSome)&&decide (([e]:List Expr).length+([]:List Keyword).length+(if ([]:List Keyword).isEmpty then 0 else 1)<30))=true:=by rfl)
 (hline:(apos.endLine == cpos.line)=true:=by rfl) (hst:starEach [e] X.env=[(false,eval e X.env)]:=by exact bi rfl) (hplain:(backTo cpos (starEach [] X.env)).any (·.1)=false:=by rfl) :
 PXS X (.Expr (.Call (.Attribute (.Name x p1) "update" apos) [e] [] cpos) pos) (iU i f) :=
 PS.imp (po (yo PySem.F.plainAttrs_dict PySem.F.slot_dict_update PySem.F.type_dict_update uN (m9 hN hv hd hcd) (e7 he iF hst) hbase hfew hline hst hplain) hs) fun D σ H ⟨B,G0,G,ρ,E,st,k⟩=>by
  unfold iU at k
  split at k
  ·rename_i ks ds kd ks' ds' eo ef
   split at k
   ·rename_i hk
    obtain ⟨nd,hlen,hkd⟩:=hk
    obtain ⟨l,o,a,nb,ng,hl,kvs,rfl,ek,dl⟩:=st.ow i _ eo
    refine ⟨_,a,.inr (.inr (.inl ⟨rfl,.inl ⟨kvs,hl⟩⟩)),B,G,ρ,_,E.gh,E.hh,st,ef,fun v G1 H1 E1 r1=>?_⟩
    have hs:sizeLine=16777216:=sizeLine_eq
    have gl:G1 l=none:=E1.nw _ _ hl rfl ng
    have hl1:=E1.hh _ _ hl
    have got:∃ b more,v=.ref b/\l≠b/\Rd H1 b (.dK more)/\more.map (·.1)=ks'/\bT X.K G1 ds' (more.map (·.2)):=by
     cases kd with
     | pu =>
       obtain ⟨b,ob,more,rfl,q,e1,e2⟩:=r1
       refine ⟨b,more,rfl,fun z=>?_,.inr ⟨ob,E1.gh _ _ q⟩,e1,e2⟩
       subst z
       rw [gl] at q;cases q
     | bo=>exact absurd rfl hkd
     | fr =>
       obtain ⟨b,ob,rfl,n,g,q,more,rfl,e1,e2⟩:=r1
       refine ⟨b,more,rfl,fun z=>?_,.inl q,e1,e2⟩
       subst z
       rw [hl] at n;cases n
    obtain ⟨b,more,rfl,hne,hrd,e1,e2⟩:=got
    have ln:kvs.length=ks.length:=by rw [<- ek,af]
    have lm:more.length=ks'.length:=by rw [<- e1,af]
    obtain ⟨p1,p2⟩:=um (K:=X.K) (G:=G1) more e2 nd ek (bT.mono E1.gg _ dl)
    rw [e1] at p1 p2
    refine ⟨l,b,kvs,more,rfl,rfl,hne,hl1,hrd,by lia,?_⟩
    exact k _ G1 _ ((E.trans E1).mut nb gl) E1.gg ((st.ext E1).mut eo a ⟨_,rfl,p1,p2⟩)
   ·exact k.elim
  ·exact k.elim
end
end Ry
namespace Ry
open PySem PySem.Spec PyProof.Rows L2
namespace Sif
theorem slot_next:Slot "set_iterator" "__next__" "set_iterator.__next__" :=
 .of (owner:="set_iterator") (n:="__next__") (by rw [typeLookup_type,builtinLookup_eq_fast];kernel_rfl) (by decide +kernel) (by decide +kernel) (by decide +kernel) (by first | exact .inl (by decide +kernel) | exact .inr (by decide +kernel)) (by rw [isSubtype_type];kernel_rfl)
theorem slot_iter:Slot "set_iterator" "__iter__" "set_iterator.__iter__" :=
 .of (owner:="set_iterator") (n:="__iter__") (by rw [typeLookup_type,builtinLookup_eq_fast];kernel_rfl) (by decide +kernel) (by decide +kernel) (by decide +kernel) (by first | exact .inl (by decide +kernel) | exact .inr (by decide +kernel)) (by rw [isSubtype_type];kernel_rfl)
theorem set_iter:Slot "set" "__iter__" "set.__iter__" :=
 .of (owner:="set") (n:="__iter__") (by rw [typeLookup_type,builtinLookup_eq_fast];kernel_rfl) (by decide +kernel) (by decide +kernel) (by decide +kernel) (by first | exact .inl (by decide +kernel) | exact .inr (by decide +kernel)) (by rw [isSubtype_type];kernel_rfl)
theorem entry_next:entryFor table "set_iterator.__next__" = some Builtin.«set_iterator.__next__»:=entryFor_of_tree (by kernel_rfl)
theorem entry_iter:entryFor table "set_iterator.__iter__" = some Builtin.«dict_keyiterator.__iter__» :=
 entryFor_alias (id':="dict_keyiterator.__iter__") (by kernel_rfl) (by first | rfl | decide +kernel | (unfold String.splitOn;simp +decide [String.splitOnAux])) (by decide +kernel) (by kernel_rfl)
theorem entry_set:entryFor table "set.__iter__" = some Builtin.«frozenset.__iter__» :=
 entryFor_alias (id':="frozenset.__iter__") (by kernel_rfl) (by first | rfl | decide +kernel | (unfold String.splitOn;simp +decide [String.splitOnAux])) (by decide +kernel) (by kernel_rfl)
theorem args_next (a:Value):argsOk "set_iterator.__next__" ⟨[a],[]⟩:=by unfold argsOk;kernel_rfl
theorem args_iter (a:Value):argsOk "set_iterator.__iter__" ⟨[a],[]⟩:=by unfold argsOk;kernel_rfl
theorem args_set (a:Value):argsOk "set.__iter__" ⟨[a],[]⟩:=by unfold argsOk;kernel_rfl
end Sif
theorem p0 {α:Type}:∀ {l:List α} {i:Nat} (h:i<l.length),(l[i]::l.eraseIdx i).Perm l
 | a::l,0,_=>.refl _
 | a::l,i+1,h=>(List.Perm.swap _ _ _).trans ((p0 (l:=l) (i:=i) (by simpa using h)).cons a)
theorem kL {α:Type} (next:Nat->Nat):∀ (fuel k:Nat) (left:List α) (out:Array α),left.length=fuel->(pickOrder.go next fuel k left out).toList.Perm (out.toList++left)
 | 0,k,left,out,h=>by
   have:left=[]:=fJ h
   subst this
   unfold pickOrder.go
   rw [bH]
 | fuel+1,k,left,out,h=>by
   unfold pickOrder.go
   have hl:next k%left.length<left.length:=Nat.mod_lt _ (by lia)
   rw [ae hl]
   dsimp only
   refine (kL next fuel (k+1) _ _ (by rw [d4 hl];lia)).trans ?_
   rw [Aq,aX]
   refine List.Perm.append_left _ ?_
   exact p0 hl
theorem kg {α:Type} (next:Nat->Nat) (xs:Array α):(pickOrder next xs).toList.Perm xs.toList:=by
 unfold pickOrder
 exact kL next _ _ _ _ (by simp)
section
variable {prog:Program} {w:World} {A:Around} {E:Value->Shared->Prop} {s:Shared}
theorem lS {src:Source} {n:Nat} {Q:Nat->Shared->Prop} (hn:n≠0) (h:∀ i d,i<n->Q i { s with drawn:=d }):wpAny (model prog w) A (choose src n) Q E s:=fun Γ p hΓ=>by
 show Sem.wp _ _ (.choose src n .pure) _ _ _ _
 rw [Sem.wp_choose]
 exact ⟨hn,h _ _ (Nat.mod_lt _ (Nat.pos_of_ne_zero hn))⟩
theorem uG {α:Type}:∀ (n:Nat) (xs:List α) (s:Shared) (Q:List α->Shared->Prop),xs.length=n->(∀ ys d,ys.Perm xs->Q ys { s with drawn:=d })->wpAny (model prog w) A (drawOrder n xs) Q E s
 | 0,xs,s,Q,hl,h=>by
   have:xs=[]:=fJ hl
   subst this
   unfold drawOrder
   have:=h [] s.drawn (.refl _)
   exact wpAny_pure (by cases s;exact this)
 | n+1,[],s,Q,hl,h=>by cases hl
 | n+1,x::xs,s,Q,hl,h=>by
   unfold drawOrder
   refine wpAny_bind (lS (by simp) fun i d hi=>?_)
   rw [ae hi]
   dsimp only
   refine wpAny_bind (uG n _ _ _ (by rw [d4 hi];lia) fun ys d' hp=>wpAny_pure (h _ d' ?_))
   refine (hp.cons _).trans ?_
   exact p0 hi
end
end Ry
namespace Ry
open PySem PySem.Spec PyProof.Rows L2
noncomputable def iG (h:Heap) (a:Addr) (es:Array (Int×Value)) (ep:Nat) (t:SetTable):Prop:=∃ o,h.get? a=some o/\o.data=.set es ep t
noncomputable def oU (h:Heap) (I a:Addr) (f:Value) (i n ep:Nat):Prop:=∃ o,h.get? I=some o/\o.cls=.type "set_iterator"/\o.data=.fields #[f,rawInt (i:Int),.ref a,rawInt (n:Int),rawInt (ep:Int)]
theorem iG.at {h h':Heap} {a:Addr} {es:Array (Int×Value)} {ep:Nat} {t:SetTable} (x:iG h a es ep t) (k:∀ o,h.get? a=some o->h'.get? a=some o):iG h' a es ep t:=let ⟨o,ho,r⟩:=x;⟨o,k o ho,r⟩
theorem oU.at {h h':Heap} {I a:Addr} {f:Value} {i n ep:Nat} (x:oU h I a f i n ep) (k:∀ o,h.get? I=some o->h'.get? I=some o):oU h' I a f i n ep:=let ⟨o,ho,r⟩:=x;⟨o,k o ho,r⟩
theorem oU.ty {s:Shared} {I a:Addr} {f:Value} {i n ep:Nat} (x:oU s.heap I a f i n ep):s.TypeIs (.ref I) "set_iterator":=let ⟨o,ho,hc,_⟩:=x;⟨o,ho,hc⟩
section
variable {prog:Program} {w:World} {A:Around} {E:Value->Shared->Prop} {s:Shared} {I a:Addr} {es:Array (Int×Value)} {ep:Nat} {t:SetTable} {i n:Nat}
theorem vc {slot:Nat} {Q:Option (Value×Nat)->Shared->Prop} (hs:iG s.heap a es ep t) (hf:t.fits es.size=true) (hb:rQ w=true) (h:Q (((pickOrder (w.params.setOrder a ep) es)[i]?).map fun e=>(e.2,slot)) s):wpAny (model prog w) A (setNext a slot i ep) Q E s:=by
 obtain ⟨o,ho,hd⟩:=hs
 unfold setNext setsByText
 refine wpAny_bind (wpAny_setState_of ho hd hf ?_)
 dsimp only
 refine wpAny_bind (wpAny_bind (wpAny_askSetting (wpAny_pure ?_)))
 rw [show (model prog w).w.params.followText "set-order" = true from hb,if_pos rfl,if_neg (by simp)]
 unfold setWalk setsByText
 refine wpAny_bind (wpAny_bind (wpAny_setState_of ho hd hf ?_))
 dsimp only
 refine wpAny_bind (wpAny_bind (wpAny_askSetting (wpAny_pure ?_)))
 rw [show (model prog w).w.params.followText "set-order" = true from hb,if_pos rfl]
 refine wpAny_bind (wpAny_askSetting (wpAny_pure (wpAny_pure ?_)))
 exact h
theorem qP {slot:Nat} {Q:Option (Value×Nat)->Shared->Prop} (hs:iG s.heap a es ep t) (hf:t.fits es.size=true) (hb:rQ w=false) (hl:t.led=true) (hp:(!t.plain&&decide (es.size > 1))=false)
 (h:Q (match es[SetTable.below t.place slot]?,t.place[SetTable.below t.place slot]? with | some (_,x),some j=>some (x,j+1) | _,_=>none) s):wpAny (model prog w) A (setNext a slot i ep) Q E s:=by
 obtain ⟨o,ho,hd⟩:=hs
 unfold setNext setsByText
 refine wpAny_bind (wpAny_setState_of ho hd hf ?_)
 dsimp only
 refine wpAny_bind (wpAny_bind (wpAny_askSetting (wpAny_pure ?_)))
 rw [show (model prog w).w.params.followText "set-order" = false from hb,if_neg am]
 show wpAny _ _ (if (!t.plain&&decide (es.size > 1))=true then _ else _) _ _ _
 rw [hp,if_neg am]
 refine wpAny_bind ?_
 show wpAny _ _ (if (!t.led&&!es.isEmpty)=true then _ else _) _ _ _
 rw [hl,if_neg (by simp)]
 exact wpAny_pure (wpAny_pure h)
noncomputable def Nx (prog:Program) (w:World) (a:Addr) (es:Array (Int×Value)) (ep:Nat) (t:SetTable) (sl:Nat->Nat) (od:Nat->Option Value):Prop :=
 ∀ (A:Around) (E:Value->Shared->Prop) (s:Shared) (Q:Option (Value×Nat)->Shared->Prop) (i:Nat),i<=es.size->iG s.heap a es ep t->Q ((od i).map fun x=>(x,sl (i+1))) s->wpAny (model prog w) A (setNext a (sl i) i ep) Q E s
theorem yV (hf:t.fits es.size=true) (hb:rQ w=true):Nx prog w a es ep t (fun _=>0) (fun i=>((pickOrder (w.params.setOrder a ep) es)[i]?).map (·.2)):=fun A E s Q i _ hs h=>by
 refine vc hs hf hb ?_
 rw [Option.map_map] at h
 exact h
noncomputable def slP (t:SetTable):Nat->Nat
 | 0=>0
 | i+1=>t.place.getD i 0+1
theorem uD (hr:Ris t.place):∀ i,i<=t.place.size->SetTable.below t.place (slP t i)=i
 | 0,_=>by
   have h:=mE hr 0
   by_cases e:SetTable.below t.place 0=0
   ·exact e
   ·have hl:0<t.place.size:=by have:=h.le;lia
    have:=h.lo 0 t.place[0] (by lia) (aI hl)
    lia
 | i+1,hi=>by
   have hg:t.place[i]?=some t.place[i]:=aI (by lia)
   have e:slP t (i+1)=t.place[i]+1:=by show t.place.getD i 0+1=_;simp [fR,show i<t.place.size by lia]
   rw [e]
   have h:=mE hr (t.place[i]+1)
   rcases Nat.lt_trichotomy (SetTable.below t.place (t.place[i]+1)) (i+1) with z | z | z
   ·have:=h.hi i _ (by lia) hg
    lia
   ·exact z
   ·have hl:i+1<t.place.size:=by have:=h.le;lia
    have hg2:t.place[i+1]?=some t.place[i+1]:=aI hl
    have h1:=h.lo (i+1) _ z hg2
    have h2:=hr i (i+1) _ _ (by lia) hg hg2
    lia
theorem vO (hf:t.fits es.size=true) (hb:rQ w=false) (hl:t.led=true) (hp:(!t.plain&&decide (es.size > 1))=false) (hr:Ris t.place) (hz:t.place.size=es.size):Nx prog w a es ep t (slP t) (fun i=>es[i]?.map (·.2)):=fun A E s Q i hi hs h=>by
 have h:Q ((es[i]?.map (·.2)).map fun x=>(x,slP t (i+1))) s:=h
 refine qP hs hf hb hl hp ?_
 rw [uD hr i (by lia)]
 by_cases e:i<es.size
 ·rw [aI e,aI (show i<t.place.size by lia)]
  rw [aI e] at h
  have e2:slP t (i+1)=t.place[i]+1:=by show t.place.getD i 0+1=_;simp [fR,show i<t.place.size by lia]
  rw [e2] at h
  exact h
 ·rw [b7 (by lia)] at h ⊢
  exact h
end
end Ry
namespace Ry
open PySem PySem.Spec PyProof.Rows L2
section
variable {prog:Program} {w:World} {A:Around} {E:Value->Shared->Prop} {s:Shared} {I a p:Addr} {es:Array (Int×Value)} {ep:Nat} {t:SetTable} {i n:Nat} {sl:Nat->Nat} {od:Nat->Option Value} {x:Value}
theorem zo {Q:Option Value->Shared->Prop} (N:Nx prog w a es ep t sl od) (hit:oU s.heap I a (rawInt (sl i:Int)) i es.size ep) (hs:iG s.heap a es ep t) (hf:t.fits es.size=true) (hi:i<=es.size) (hx:od i=some x)
 (hQ:∀ h',oU h' I a (rawInt (sl (i+1):Int)) (i+1) es.size ep->Heap.SameBut I s.heap h'->Q (some x) { s with heap:=h' }):wpAny (model prog w) A (pyNext (.ref I)) Q E s:=by
 obtain ⟨o,ho,hc,hd⟩:=id hit
 obtain ⟨oa,hoa,hda⟩:=id hs
 unfold pyNext
 refine wpAny_bind (wpAny_attempt (wpAny_callSpecial?_slot (name:=Str.ofString "__next__") hit.ty Sif.slot_next (wpAny_call_entry Sif.slot_next hit.ty Sif.entry_next ?_ (Sif.args_next _))))
 unfold Builtin.«set_iterator.__next__»
 refine wpAny_bind (wpAny_of_eq (a:=(Value.ref I,[])) rfl ?_)
 try dsimp only
 refine wpAny_bind (wpAny_fieldsOf ho hd ?_)
 show wpAny _ _ (setEntries a>>=_) _ _ s
 refine wpAny_bind (wpAny_setEntries_of hoa hda hf ?_)
 rw [if_neg (by simp)]
 show wpAny _ _ (setNext a (sl i:Int).toNat (i:Int).toNat (ep:Int).toNat>>=_) _ _ s
 rw [bg,bg,bg]
 refine wpAny_bind (N _ _ _ _ _ hi hs ?_)
 rw [hx]
 show wpAny _ _ (setField (.ref I) 0 (rawInt (sl (i+1):Int))>>=_) _ _ s
 refine wpAny_bind (wpAny_setField ho hd (by simp) ?_)
 have hd2:=bA hd (·.setIfInBounds 0 (rawInt (sl (i+1):Int)))
 have ho2:=aY (bt (·.setIfInBounds 0 (rawInt (sl (i+1):Int)))) ho (bN hd2)
 show wpAny _ _ (setField (.ref I) 1 (rawInt ((i:Int)+1))>>=_) _ _ _
 refine wpAny_bind (wpAny_setField (s:={ s with heap:=s.heap.update I (bt (·.setIfInBounds 0 (rawInt (sl (i+1):Int)))) }) ho2 hd2 (by simp) ?_)
 have hd3:=bA hd2 (·.setIfInBounds 1 (rawInt ((i:Int)+1)))
 have ho3:=aY (bt (·.setIfInBounds 1 (rawInt ((i:Int)+1)))) ho2 (bN hd3)
 have fin:=hQ _ ⟨_,ho3,(fA ..).trans ((fA ..).trans hc),by rw [hd3];simp⟩ ((Heap.SameBut.update ..).trans (Heap.SameBut.update ..))
 first
 | exact wpAny_pure ⟨x,rfl,wpAny_pure fin⟩
 | exact wpAny_bind (wpAny_pure (wpAny_pure ⟨x,rfl,wpAny_pure fin⟩))
theorem AT {Q:Option Value->Shared->Prop} (N:Nx prog w a es ep t sl od) (hh:A.handled=none) (hit:oU s.heap I a (rawInt (sl es.size:Int)) es.size es.size ep) (hs:iG s.heap a es ep t) (hf:t.fits es.size=true) (hx:od es.size=none)
 (hQ:∀ h',Heap.ExtBut I s.heap h'->Q none { s with heap:=h' }):wpAny (model prog w) A (pyNext (.ref I)) Q E s:=by
 obtain ⟨o,ho,hc,hd⟩:=id hit
 obtain ⟨oa,hoa,hda⟩:=id hs
 unfold pyNext
 refine wpAny_bind (wpAny_attempt (wpAny_callSpecial?_slot (name:=Str.ofString "__next__") hit.ty Sif.slot_next (wpAny_call_entry Sif.slot_next hit.ty Sif.entry_next ?_ (Sif.args_next _))))
 unfold Builtin.«set_iterator.__next__»
 refine wpAny_bind (wpAny_of_eq (a:=(Value.ref I,[])) rfl ?_)
 try dsimp only
 refine wpAny_bind (wpAny_fieldsOf ho hd ?_)
 show wpAny _ _ (setEntries a>>=_) _ _ s
 refine wpAny_bind (wpAny_setEntries_of hoa hda hf ?_)
 rw [if_neg (by simp)]
 show wpAny _ _ (setNext a (sl es.size:Int).toNat (es.size:Int).toNat (ep:Int).toNat>>=_) _ _ s
 rw [bg,bg,bg]
 refine wpAny_bind (N _ _ _ _ _ (ag _) hs ?_)
 rw [hx]
 show wpAny _ _ (setField (.ref I) 2 Value.none>>=_) _ _ s
 refine wpAny_bind (wpAny_setField ho hd (by simp) ?_)
 have eb:Heap.ExtBut I s.heap (s.heap.update I (bt (·.setIfInBounds 2 Value.none))):=fun b o hb e=>(aG _ _ (Ne.symm hb)).trans e
 show wpAny _ _ (newExc (.type "StopIteration") []>>=_) _ _ _
 refine wpAny_bind ?_
 simp only [newExc,newTuple]
 refine wpAny_bind (wpAny_newObj_type ?_ (by size_fits))
 refine wpAny_bind (m:=firstArgMember _ _) (wpAny_of_eq (a:=Value.none) (by first | rfl | (simp only [firstArgMember];rfl)) ?_)
 refine wpAny_newObj_type ?_ (by size_fits)
 simp only [raiseNew]
 refine wpAny_bind (wpAny_handled ?_)
 first | rw [show A.in1.handled=none from hh] | rw [hh]
 refine wpAny_bind (wpAny_pure (wpAny_throw ?_))
 refine wpAny_bind (wpAny_isInstance (T:="StopIteration") (b:=true) ⟨_,aj _ rfl,rfl⟩ isSubtype_stop ?_)
 exact wpAny_pure (hQ _ ((eb.push _).push _))
theorem yF {Q:Option Value->Shared->Prop} {pl:List Nat} {k:Nat} {hk:Int} (hit:oU s.heap I a (.ref p) i es.size ep) (hs:iG s.heap a es ep t) (hf:t.fits es.size=true) (hp:IsTup s.heap p (pl.map fun (j:Nat)=>rawInt (j:Int)).toArray) (hk1:pl[i]?=some k) (hx:es[k]?=some (hk,x))
 (hQ:∀ h',oU h' I a (.ref p) (i+1) es.size ep->Heap.SameBut I s.heap h'->Q (some x) { s with heap:=h' }):wpAny (model prog w) A (pyNext (.ref I)) Q E s:=by
 obtain ⟨o,ho,hc,hd⟩:=id hit
 obtain ⟨oa,hoa,hda⟩:=id hs
 obtain ⟨op,hop,hcp,m,hdp⟩:=id hp
 unfold pyNext
 refine wpAny_bind (wpAny_attempt (wpAny_callSpecial?_slot (name:=Str.ofString "__next__") hit.ty Sif.slot_next (wpAny_call_entry Sif.slot_next hit.ty Sif.entry_next ?_ (Sif.args_next _))))
 unfold Builtin.«set_iterator.__next__»
 refine wpAny_bind (wpAny_of_eq (a:=(Value.ref I,[])) rfl ?_)
 try dsimp only
 refine wpAny_bind (wpAny_fieldsOf ho hd ?_)
 show wpAny _ _ (setEntries a>>=_) _ _ s
 refine wpAny_bind (wpAny_setEntries_of hoa hda hf ?_)
 rw [if_neg (by simp)]
 show wpAny _ _ (seqItems? (.ref p)>>=_) _ _ s
 refine wpAny_bind (wpAny_seqItems hop hdp ?_)
 dsimp only
 have hg:(pl.map fun (j:Nat)=>rawInt (j:Int)).toArray[(i:Int).toNat]?=some (rawInt (k:Int)):=by
  rw [bg,iR,av,hk1];rfl
 rw [hg]
 show wpAny _ _ (setNextDrawn a (k:Int).toNat (ep:Int).toNat>>=_) _ _ s
 rw [bg,bg]
 unfold setNextDrawn
 refine wpAny_bind (wpAny_bind (wpAny_setState_of hoa hda hf ?_))
 dsimp only
 rw [if_neg (by simp),hx]
 refine wpAny_pure ?_
 show wpAny _ _ (setField (.ref I) 1 (rawInt ((i:Int)+1))>>=_) _ _ _
 refine wpAny_bind (wpAny_setField ho hd (by simp) ?_)
 have hd3:=bA hd (·.setIfInBounds 1 (rawInt ((i:Int)+1)))
 have ho3:=aY (bt (·.setIfInBounds 1 (rawInt ((i:Int)+1)))) ho (bN hd3)
 have fin:=hQ _ ⟨_,ho3,(fA ..).trans hc,by rw [hd3];simp⟩ (Heap.SameBut.update ..)
 first
 | exact wpAny_pure ⟨x,rfl,wpAny_pure fin⟩
 | exact wpAny_bind (wpAny_pure (wpAny_pure ⟨x,rfl,wpAny_pure fin⟩))
theorem Cq {Q:Option Value->Shared->Prop} {pl:List Nat} (hh:A.handled=none) (hit:oU s.heap I a (.ref p) es.size es.size ep) (hs:iG s.heap a es ep t) (hf:t.fits es.size=true) (hp:IsTup s.heap p (pl.map fun (j:Nat)=>rawInt (j:Int)).toArray) (hl:pl.length=es.size)
 (hQ:∀ h',Heap.ExtBut I s.heap h'->Q none { s with heap:=h' }):wpAny (model prog w) A (pyNext (.ref I)) Q E s:=by
 obtain ⟨o,ho,hc,hd⟩:=id hit
 obtain ⟨oa,hoa,hda⟩:=id hs
 obtain ⟨op,hop,hcp,m,hdp⟩:=id hp
 unfold pyNext
 refine wpAny_bind (wpAny_attempt (wpAny_callSpecial?_slot (name:=Str.ofString "__next__") hit.ty Sif.slot_next (wpAny_call_entry Sif.slot_next hit.ty Sif.entry_next ?_ (Sif.args_next _))))
 unfold Builtin.«set_iterator.__next__»
 refine wpAny_bind (wpAny_of_eq (a:=(Value.ref I,[])) rfl ?_)
 try dsimp only
 refine wpAny_bind (wpAny_fieldsOf ho hd ?_)
 show wpAny _ _ (setEntries a>>=_) _ _ s
 refine wpAny_bind (wpAny_setEntries_of hoa hda hf ?_)
 rw [if_neg (by simp)]
 show wpAny _ _ (seqItems? (.ref p)>>=_) _ _ s
 refine wpAny_bind (wpAny_seqItems hop hdp ?_)
 dsimp only
 have hg:(pl.map fun (j:Nat)=>rawInt (j:Int)).toArray[(es.size:Int).toNat]?=none:=by
  rw [bg,iR,av,bM (by lia)];rfl
 rw [hg]
 show wpAny _ _ (setField (.ref I) 0 (rawInt 0)>>=_) _ _ s
 refine wpAny_bind (wpAny_setField ho hd (by simp) ?_)
 have hd2:=bA hd (·.setIfInBounds 0 (rawInt 0))
 have ho2:=aY (bt (·.setIfInBounds 0 (rawInt 0))) ho (bN hd2)
 show wpAny _ _ (setField (.ref I) 2 Value.none>>=_) _ _ _
 refine wpAny_bind (wpAny_setField (s:={ s with heap:=s.heap.update I (bt (·.setIfInBounds 0 (rawInt 0))) }) ho2 hd2 (by simp) ?_)
 have eb:Heap.ExtBut I s.heap ((s.heap.update I (bt (·.setIfInBounds 0 (rawInt 0)))).update I (bt (·.setIfInBounds 2 Value.none))):=fun b o hb e=>(aG _ _ (Ne.symm hb)).trans ((aG _ _ (Ne.symm hb)).trans e)
 show wpAny _ _ (newExc (.type "StopIteration") []>>=_) _ _ _
 refine wpAny_bind ?_
 simp only [newExc,newTuple]
 refine wpAny_bind (wpAny_newObj_type ?_ (by size_fits))
 refine wpAny_bind (m:=firstArgMember _ _) (wpAny_of_eq (a:=Value.none) (by first | rfl | (simp only [firstArgMember];rfl)) ?_)
 refine wpAny_newObj_type ?_ (by size_fits)
 simp only [raiseNew]
 refine wpAny_bind (wpAny_handled ?_)
 first | rw [show A.in1.handled=none from hh] | rw [hh]
 refine wpAny_bind (wpAny_pure (wpAny_throw ?_))
 refine wpAny_bind (wpAny_isInstance (T:="StopIteration") (b:=true) ⟨_,aj _ rfl,rfl⟩ isSubtype_stop ?_)
 exact wpAny_pure (hQ _ ((eb.push _).push _))
theorem uE {f:Value} {Q:Value->Shared->Prop} (hit:oU s.heap I a f i n ep) (h:Q (.ref I) s):wpAny (model prog w) A (pyIter (.ref I)) Q E s:=by
 refine wpAny_pyIter_slot hit.ty Sif.slot_iter (wpAny_call_entry Sif.slot_iter hit.ty Sif.entry_iter ?_ (Sif.args_iter _))
 show wpAny _ _ (ret (.ref I)) _ _ s
 exact wpAny_pure ⟨_,rfl,"set_iterator",_,hit.ty,Sif.slot_next.lookup,h⟩
theorem yO (N:Nx prog w a es ep t sl od) (hh:A.handled=none) (hf:t.fits es.size=true) (hne:a≠I) (hod:∀ i,i<es.size->∃ x,od i=some x) (hoe:od es.size=none) :
 Walks prog w A I [I,a] [I] es.size (fun i v=>od i=some v) (fun i h=>i<=es.size/\oU h I a (rawInt (sl i:Int)) i es.size ep/\iG h a es ep t) where
 sub:=fun b hb=>by simp at hb;simp [hb]
 frame:=fun _ _ _ x hk=>⟨x.1,x.2.1.at fun o e=>hk I (by simp) o e,x.2.2.at fun o e=>hk a (by simp) o e⟩
 item:=fun i s Q E hi x hQ=>by
  obtain ⟨v,hv⟩:=hod i hi
  exact zo N x.2.1 x.2.2 hf (gD hi) hv fun h' hit' hs'=>hQ v h' s.toks hv ⟨hi,hit',x.2.2.at fun o e=>(hs'.2 a hne).trans e⟩ fun b o hb eo=>hs'.extBut b o (fun h=>hb (by simp [h])) eo
 done:=fun s Q E x hQ=>AT N hh x.2.1 x.2.2 hf hoe fun h' he'=>hQ h' s.toks fun b o hb eo=>he' b o (fun h=>hb (by simp [h])) eo
 self:=fun _ _ _ _ x hQ=>uE x.2.1 hQ
theorem zX {pl:List Nat} (hh:A.handled=none) (hf:t.fits es.size=true) (hne:a≠I) (hnp:p≠I) (hl:pl.length=es.size) (hb:∀ j∈pl,j<es.size) :
 Walks prog w A I [I,a,p] [I] es.size (fun i v=>(pl[i]?).bind (fun j=>es[j]?.map (·.2))=some v) (fun i h=>i<=es.size/\oU h I a (.ref p) i es.size ep/\iG h a es ep t/\IsTup h p (pl.map fun (j:Nat)=>rawInt (j:Int)).toArray) where
 sub:=fun b hb=>by simp at hb;simp [hb]
 frame:=fun _ _ _ x hk=>⟨x.1,x.2.1.at fun o e=>hk I (by simp) o e,x.2.2.1.at fun o e=>hk a (by simp) o e,let ⟨o,ho,r⟩:=x.2.2.2;⟨o,hk p (by simp) o ho,r⟩⟩
 item:=fun i s Q E hi x hQ=>by
  have h1:pl[i]?=some (pl[i]'(by lia)):=ae (by lia)
  have h2:=hb _ (aZ h1)
  have h3:es[pl[i]'(by lia)]?=some (es[pl[i]'(by lia)]'h2):=aI h2
  refine yF x.2.1 x.2.2.1 hf x.2.2.2 h1 h3 fun h' hit' hs'=>hQ _ h' s.toks ?_ ⟨hi,hit',x.2.2.1.at fun o e=>(hs'.2 a hne).trans e,let ⟨o,ho,r⟩:=x.2.2.2;⟨o,(hs'.2 p hnp).trans ho,r⟩⟩ fun b o hb eo=>hs'.extBut b o (fun h=>hb (by simp [h])) eo
  rw [h1]
  show es[pl[i]'(by lia)]?.map (·.2)=_
  rw [h3]
  rfl
 done:=fun s Q E x hQ=>Cq hh x.2.1 x.2.2.1 hf x.2.2.2 hl fun h' he'=>hQ h' s.toks fun b o hb eo=>he' b o (fun h=>hb (by simp [h])) eo
 self:=fun _ _ _ _ x hQ=>uE x.2.1 hQ
end
end Ry
namespace Ry
open PySem PySem.Spec PyProof.Rows L2
section
variable {prog:Program} {w:World} {A:Around} {E:Value->Shared->Prop} {s:Shared}
theorem ww {r:Addr} {Q:Bool->Shared->Prop} (hT:s.TypeIs (.ref r) "set") (h:Q false s):wpAny (model prog w) A (Builtin.List.listLengthHint (.ref r)) Q E s:=by
 unfold Builtin.List.listLengthHint
 refine wpAny_bind (wpAny_specialOf hT (show typeLookup (.type "set") "__len__" = pure (some (.builtin "set.__len__")) by rw [typeLookup_type,builtinLookup_eq_fast];kernel_rfl) ?_)
 (generalize hid:("set.__len__" : String)=id0;(fail_if_success (clear hid id0));wp_delta;rw [show splitId id0=some ("set","__len__") from by subst hid;decide +kernel];subst hid)
 refine wpAny_bind (wpAny_isInstance (b:=true) hT (by rw [isSubtype_type];kernel_rfl) ?_)
 try dsimp only
 rw [if_neg (by decide),if_pos (by decide +kernel)]
 refine wpAny_bind (wpAny_typeOf hT ?_)
 exact wpAny_pure h
noncomputable def Wk (prog:Program) (w:World) (A:Around) (S:Addr) (s1:Shared) (R:List Value->Shared->Prop) (it:Value) (s2:Shared):Prop :=
 ∃ (I:Addr) (fp wr:List Addr) (n:Nat) (P:Nat->Value->Prop) (St:Nat->Heap->Prop) (hp:Heap) (d:Drawn),it=.ref I/\s2={ s1 with heap:=hp,drawn:=d }/\(∀ b o,s1.heap.get? b=some o->hp.get? b=some o)/\Walks prog w A I fp wr n P St/\St 0 hp/\S∉fp/\n<=sizeLine /\
   ∀ (h':Heap) (tk:Nat) (acc:Array Value),(∀ b o,b∉wr->b≠S->hp.get? b=some o->h'.get? b=some o)->ItemsOf P acc n->R acc.toList { s1 with heap:=h',toks:=tk,drawn:=d }
theorem pI {x:Addr} {R:List Value->Shared->Prop} (hT:s.TypeIs (.ref x) "set")
 (h:wpAny (model prog w) A.in1 (pyIter (.ref x)) (Wk prog w A.in1 s.heap.objs.size { s with heap:=s.heap.push { cls:=.type "list",data:=.seq ([]:List Value).toArray } } R) (fun _ _=>False) { s with heap:=s.heap.push { cls:=.type "list",data:=.seq ([]:List Value).toArray } }):wpAny (model prog w) A (collect (.ref x)) R E s:=by
 have hSx:s.heap.objs.size≠x:=fun e=>by obtain ⟨o,ho,_⟩:=hT;exact absurd (aw ho) (by rw [<- e];exact bz _)
 have hT1:Shared.TypeIs { s with heap:=s.heap.push { cls:=.type "list",data:=.seq ([]:List Value).toArray } } (.ref x) "set":=by obtain ⟨o,ho,r⟩:=hT;exact ⟨o,aa _ ho,r⟩
 unfold collect
 refine wpAny_bind (wpAny_runValue (codeAny_builtin PySem.F.entry_proto_collect ?_))
 rw [Around.under_plainId PySem.F.plain_proto_collect _]
 show wpAny _ A.in1 (newList []>>=fun l=>again (.builtin "list.__iadd__" ⟨[l,.ref x],[]⟩)) _ _ s
 refine wpAny_bind (wpAny_newObj_type ?_)
 refine wpAny_pure ⟨plainId_quiet PySem.F.plain_list_iadd _,codeAny_builtin PySem.F.entry_list_iadd ?_⟩
 rw [Around.under_plainId PySem.F.plain_list_iadd _]
 have hS:(s.heap.push { cls:=.type "list",data:=.seq ([]:List Value).toArray }).get? s.heap.objs.size=some { cls:=.type "list",data:=.seq ([]:List Value).toArray }:=aj _ rfl
 have h1:Builtin.List.listSameRef (.ref s.heap.objs.size) (.ref x)=false:=by simp [Builtin.List.listSameRef,hSx]
 have nl:(Value.type "set" == Value.type "list")=false:=by decide
 have nt:(Value.type "set" == Value.type "tuple")=false:=by decide
 show wpAny _ A.in1 (Builtin.List.listExtendWith (.ref s.heap.objs.size) (.ref x) (.ref s.heap.objs.size)) _ _ _
 unfold Builtin.List.listExtendWith
 refine wpAny_bind (wpAny_typeOf hT1 ?_)
 simp only [h1,nl,nt,rT,dG,if_false]
 refine wpAny_bind (wpAny_mono h (fun it s2 hw=>?_) fun _ _ z=>z.elim)
 obtain ⟨I,fp,wr,n,P,St,hp,d,rfl,rfl,kp,W,st,hSf,hn,fin⟩:=hw
 have hT2:Shared.TypeIs { s with heap:=hp,drawn:=d } (.ref x) "set":=by obtain ⟨o,ho,r⟩:=hT1;exact ⟨o,kp _ _ ho,r⟩
 have hSp:=kp _ _ hS
 refine wpAny_bind (wpAny_holding (ww hT2 ?_))
 rw [if_pos (by decide)]
 refine wpAny_bind (wpAny_rule ?_)
 refine wpAny_bind ?_
 show wpAny _ _ (updateSeq s.heap.objs.size (·.push .none)>>=fun _=>updateSeq s.heap.objs.size (·.pop)) _ _ _
 refine wpAny_bind (wpAny_updateSeq hSp rfl ?_)
 have hS₂:=aY (cV (·.push Value.none)) hSp rfl
 refine wpAny_updateSeq (hz:=by seq_fits) hS₂ rfl ?_
 have hS₃:=aY (cV (·.pop)) hS₂ rfl
 refine wpAny_pure ⟨plainId_quiet PySem.F.plain_extend_loop _,?_⟩
 refine codeAny_extend_loopS W.toS hn s.heap.objs.size hSf _ n 0 _ #[] _ rfl (aU _) ?_ hS₃ (ItemsOf.nil _) fun s' acc' c' hm hS' hacc=>?_
 ·refine W.frame 0 _ _ st fun b hb o e=>?_
  have hbS:b≠s.heap.objs.size:=fun h=>hSf (h▸hb)
  exact (aG _ _ (Ne.symm hbS)).trans ((aG _ _ (Ne.symm hbS)).trans e)
 ·have em:=Moved.eq_with hm
  rw [em]
  show wpAny _ A (load s.heap.objs.size>>=_) _ _ _
  refine wpAny_bind (wpAny_load hS' ?_)
  refine wpAny_pure (fin s'.heap s'.toks acc' (fun b o hb hbS e=>hm.heap b o (fun hmem=>?_) ((aG _ _ (Ne.symm hbS)).trans ((aG _ _ (Ne.symm hbS)).trans e))) hacc)
  rcases ah.mp hmem with e' | hmem
  ·exact hbS e'
  ·exact hb hmem
end
end Ry
namespace Ry
open PySem PySem.Spec PyProof.Rows L2
noncomputable def Dl (prog:Program) (w:World) (S:Int->Bool) (n:Nat) (vs:List Value):Prop :=
 ∃ es:Array (Int×Value),vs.Perm (es.toList.map (·.2))/\ElemsOf (intKind prog w) es.toList/\(∀ k,S k=true↔∃ e∈es.toList,(intKind prog w).is k e.2=true)/\es.size=n
theorem ml {P:Nat->Value->Prop} {acc:Array Value} {n:Nat} {l:List Value} (h:ItemsOf P acc n) (hl:l.length=n) (hP:∀ i v,P i v->l[i]?=some v):acc.toList=l:=by
 apply dZ
 intro i
 by_cases hi:i<acc.size
 ·have e:acc[i]?=some acc[i]:=aI hi
  rw [aR,e,hP i _ (h.2 i _ e)]
 ·rw [aR,b7 (by lia),bM (by have:=h.1;lia)]
theorem qX {es:Array (Int×Value)} {pl:List Nat} (hp:pl.Perm (bp es.size)):(pl.map fun j=>(es.toList.getD j (0,Value.none)).2).Perm (es.toList.map (·.2)):=by
 refine (hp.map _).trans ?_
 have:(bp es.size).map (fun j=>(es.toList.getD j (0,Value.none)).2)=es.toList.map (·.2):=by
  apply dZ
  intro i
  rw [av,av]
  by_cases hi:i<es.size
  ·rw [ye hi]
   show some (es.toList.getD i (0,Value.none)).2=_
   rw [ai,ae (by rw [aF];exact hi)]
   rfl
  ·rw [bM (by rw [cw];lia),bM (by rw [aF];lia)]
   rfl
 rw [this]
section
variable {prog:Program} {w:World} {A:Around} {E:Value->Shared->Prop} {s:Shared} {a L:Addr} {S:Int->Bool} {n:Nat}
theorem wN {a:Addr} {es:Array (Int×Value)} {ep:Nat} {t:SetTable} {Q:Bool->Shared->Prop} (hs:iG s.heap a es ep t) (hf:t.fits es.size=true) (h:Q (!rQ w&&(!t.plain&&decide (es.size > 1))) s):wpAny (model prog w) A (setDrawn a) Q E s:=by
 obtain ⟨o,ho,hd⟩:=hs
 unfold setDrawn setsByText
 refine wpAny_bind (wpAny_setState_of ho hd hf ?_)
 dsimp only
 refine wpAny_bind (wpAny_bind (wpAny_askSetting (wpAny_pure (wpAny_pure ?_))))
 exact h
theorem pU {R:List Value->Shared->Prop} (h:gM prog w s.heap a S n) (hh:A.handled=none) (hL:L<s.heap.objs.size) (haL:a≠L) (hz:n<=sizeLine)
 (fin:∀ h' tk d vs,(∀ b o,b≠L->s.heap.get? b=some o->h'.get? b=some o)->Dl prog w S n vs->R vs { s with heap:=h',toks:=tk,drawn:=d }):wpAny (model prog w) A (pyIter (.ref a)) (Wk prog w A L s R) E s:=by
 obtain ⟨o,es,ep,t,ho,hex,hd,hel,hmem,hb,hf,hn,tk⟩:=h
 subst hn
 have hT:s.TypeIs (.ref a) "set":=⟨o,ho,hex.1⟩
 have hs:iG s.heap a es ep t:=⟨o,ho,hd⟩
 have hal:a<s.heap.objs.size:=aw ho
 have good:∀ vs:List Value,vs.Perm (es.toList.map (·.2))->Dl prog w S es.size vs:=fun vs hp=>⟨es,hp,hel,hmem,rfl⟩
 have hpz:t.place.size=es.size:=by
  unfold SetTable.fits at hf
  rw [aD,beq_iff_eq] at hf
  exact hf.1
 refine wpAny_pyIter_slot hT Sif.set_iter (wpAny_call_entry Sif.set_iter hT Sif.entry_set ?_ (Sif.args_set _))
 unfold Builtin.«frozenset.__iter__»
 refine wpAny_bind (wpAny_of_eq (a:=a) rfl ?_)
 refine wpAny_bind (wpAny_bind (wpAny_setEntries_of ho hd hf (wpAny_pure ?_)))
 refine wpAny_bind (wN hs hf ?_)
 by_cases hdr:(!rQ w&&(!t.plain&&decide (es.size > 1)))=true
 ·rw [if_pos hdr]
  refine wpAny_bind (uG _ _ _ _ (cw) fun pl d hp=>wpAny_bind (wpAny_newTuple ?_ (by rw [af,hp.length_eq,cw];exact hz)))
  have hpl:pl.length=es.size:=by rw [hp.length_eq,cw]
  refine wpAny_bind (wpAny_setEpoch_of (s:={ s with heap:=s.heap.push { cls:=.type "tuple",data:=.seq (pl.map fun (i:Nat)=>rawInt (i:Int)).toArray },drawn:=d }) (aa _ ho) hd hf ?_)
  refine wpAny_bind (wpAny_newObj_type ?_)
  have z1:(s.heap.push { cls:=.type "tuple",data:=.seq (pl.map fun (i:Nat)=>rawInt (i:Int)).toArray }).objs.size=s.heap.objs.size+1:=cI ..
  have it0:oU ((s.heap.push { cls:=.type "tuple",data:=.seq (pl.map fun (i:Nat)=>rawInt (i:Int)).toArray }).push { cls:=.type "set_iterator",data:=.fields [Value.ref s.heap.objs.size,rawInt 0,.ref a,rawInt (es.size:Int),rawInt (ep:Int)].toArray }) (s.heap.push { cls:=.type "tuple",data:=.seq (pl.map fun (i:Nat)=>rawInt (i:Int)).toArray }).objs.size a (.ref s.heap.objs.size) 0 es.size ep:=⟨_,aj _ rfl,rfl,rfl⟩
  refine wpAny_pure ⟨_,rfl,"set_iterator",_,it0.ty,Sif.slot_next.lookup,?_⟩
  refine ⟨_,_,_,es.size,_,_,_,d,rfl,rfl,fun b o e=>aa _ (aa _ e),zX (a:=a) (p:=s.heap.objs.size) (es:=es) (ep:=ep) (t:=t) (pl:=pl) hh hf (by rw [z1];exact aL (cW hal)) (by rw [z1];exact aL (fO _)) hpl (fun j hj=>by simpa using hp.mem_iff.mp hj),⟨aU _,it0,⟨o,aa _ (aa _ ho),hd⟩,⟨_,aa _ (aj _ rfl),rfl,0,rfl⟩⟩,?_,hz,fun h' tk acc kp hi=>fin h' tk d _ (fun b o hbL e=>kp b o (fun hm=>?_) hbL (aa _ (aa _ e))) (good _ ?_)⟩
  ·rw [z1]
   simp only [ah,eJ,or_false,not_or]
   exact ⟨aL (cW hL),fun z=>haL z.symm,aL hL⟩
  ·rw [au] at hm
   have:=aw e
   rw [hm,z1] at this
   exact absurd this (Nat.not_lt.mpr (ip _))
  ·rw [ml hi (l:=pl.map fun j=>(es.toList.getD j (0,Value.none)).2) (by rw [af];exact hpl) fun i v hv=>?_]
   ·exact qX hp
   ·rw [av]
    cases hj:pl[i]? with
    | none=>rw [hj] at hv;cases hv
    | some j =>
      rw [hj] at hv
      have hv:es[j]?.map (·.2)=some v:=hv
      cases he:es[j]? with
      | none=>rw [he] at hv;cases hv
      | some e =>
        rw [he] at hv
        cases hv
        show some (es.toList.getD j (0,Value.none)).2=_
        rw [ai,aR,he]
        rfl
 ·rw [if_neg hdr]
  refine wpAny_bind (wpAny_pure ?_)
  refine wpAny_bind (wpAny_setEpoch_of ho hd hf ?_)
  refine wpAny_bind (wpAny_newObj_type ?_)
  have key:∀ (sl:Nat->Nat) (od:Nat->Option Value),sl 0=0->Nx prog w a es ep t sl od->(∀ i,i<es.size->∃ x,od i=some x)->od es.size=none->(∀ acc:Array Value,ItemsOf (fun i v=>od i=some v) acc es.size->acc.toList.Perm (es.toList.map (·.2))) ->
   Wk prog w A L s R (.ref s.heap.objs.size) { s with heap:=s.heap.push { cls:=.type "set_iterator",data:=.fields [rawInt 0,rawInt 0,.ref a,rawInt (es.size:Int),rawInt (ep:Int)].toArray } }:=fun sl od h0 N h1 h2 h3=>by
   have it0:oU (s.heap.push { cls:=.type "set_iterator",data:=.fields [rawInt 0,rawInt 0,.ref a,rawInt (es.size:Int),rawInt (ep:Int)].toArray }) s.heap.objs.size a (rawInt (sl 0:Int)) 0 es.size ep:=⟨_,aj _ rfl,rfl,by rw [h0];rfl⟩
   refine ⟨_,_,_,es.size,_,_,_,s.drawn,rfl,rfl,fun b o e=>aa _ e,yO N hh hf (aL hal) h1 h2,⟨aU _,it0,⟨o,aa _ ho,hd⟩⟩,?_,hz,fun h' tk acc kp hi=>fin h' tk s.drawn _ (fun b o hbL e=>kp b o (fun hm=>?_) hbL (aa _ e)) (good _ (h3 acc hi))⟩
   ·simp only [ah,eJ,or_false,not_or]
    exact ⟨aL hL,fun z=>haL z.symm⟩
   ·rw [au] at hm
    have:=aw e
    rw [hm] at this
    exact bz _ this
  have it0:Shared.TypeIs { s with heap:=s.heap.push { cls:=.type "set_iterator",data:=.fields [rawInt 0,rawInt 0,.ref a,rawInt (es.size:Int),rawInt (ep:Int)].toArray } } (.ref s.heap.objs.size) "set_iterator":=⟨_,aj _ rfl,rfl⟩
  refine wpAny_pure ⟨_,rfl,"set_iterator",_,it0,Sif.slot_next.lookup,?_⟩
  cases hb2:rQ w with
  | true =>
    have hpk:=kg (w.params.setOrder a ep) es
    have hsz:(pickOrder (w.params.setOrder a ep) es).size=es.size:=by rw [<- aF,hpk.length_eq,aF]
    refine key _ _ rfl (yV hf hb2) (fun i hi=>?_) ?_ fun acc hi=>?_
    ·exact ⟨_,by rw [aI (by lia)];rfl⟩
    ·rw [b7 (by lia)];rfl
    ·rw [ml hi (l:=(pickOrder (w.params.setOrder a ep) es).toList.map (·.2)) (by rw [af,aF];exact hsz) fun i v hv=>by rw [av,aR];exact hv]
     exact hpk.map _
  | false =>
    rw [hb2] at hdr tk
    refine key _ _ rfl (vO hf hb2 tk.led (by simpa using hdr) tk.ris hpz) (fun i hi=>?_) ?_ fun acc hi=>?_
    ·exact ⟨_,by rw [aI hi];rfl⟩
    ·rw [b7 (ag _)];rfl
    ·rw [ml hi (l:=es.toList.map (·.2)) (by rw [af,aF]) fun i v hv=>by rw [av,aR];exact hv]
end
end Ry
namespace Ry
open PySem PySem.Spec PyProof.Rows L2
theorem uA {prog:Program} {w:World} {S:Int->Bool} {n:Nat} {vs:List Value} (h:Dl prog w S n vs):∃ ns:List Int,cq (ns.map V.int) vs/\ns.length=n/\∀ x,x∈ns↔S x=true:=by
 obtain ⟨es,hp,hel,hmem,hn⟩:=h
 have isI:∀ {k:Int} {v:Value},(intKind prog w).is k v=true->∃ t,v=.int k t:=fun {k v} h=>by
  cases v with
  | int j t =>
    have:j=k:=by simpa [intKind,Value.isInt] using h
    exact ⟨t,by rw [this]⟩
  | _=>simp [intKind,Value.isInt] at h
 have go:∀ vs:List Value,(∀ v∈vs,∃ k t,v=Value.int k t)->∃ ns:List Int,cq (ns.map V.int) vs:=fun vs=>by
  induction vs with
  | nil=>exact fun _=>⟨[],.nil⟩
  | cons v vs ih =>
    intro h
    obtain ⟨ns,hv⟩:=ih fun u hu=>h u (al _ hu)
    obtain ⟨k,t,rfl⟩:=h v ax
    exact ⟨k::ns,.cons ⟨t,rfl⟩ hv⟩
 have all:∀ v∈vs,∃ k t,v=Value.int k t:=fun v hv=>by
  obtain ⟨e,he,rfl⟩:=bn.mp (hp.mem_iff.mp hv)
  obtain ⟨⟨k,hk,_⟩,_⟩:=hel e he
  obtain ⟨t,ht⟩:=isI hk
  exact ⟨k,t,ht⟩
 obtain ⟨ns,hv⟩:=go vs all
 have hl:ns.length=n:=by
  have h1:=hv.length
  have h2:=hp.length_eq
  rw [af] at h1 h2
  rw [h1,h2,aF,hn]
 have mm:∀ (ns:List Int) (vs:List Value),cq (ns.map V.int) vs->∀ x,x∈ns↔∃ t,Value.int x t∈vs:=fun ns=>by
  induction ns with
  | nil=>intro vs h x;cases h;simp
  | cons k ns ih =>
    intro vs h x
    cases h with
    | @cons _ u _ us hu hr =>
      obtain ⟨t,rfl⟩:=hu
      rw [ah,ih us hr x]
      constructor
      ·rintro (rfl | ⟨t',h'⟩)
       ·exact ⟨t,ax⟩
       ·exact ⟨t',al _ h'⟩
      ·rintro ⟨t',h'⟩
       rcases ah.mp h' with z | z
       ·cases z;exact .inl rfl
       ·exact .inr ⟨t',z⟩
 refine ⟨ns,hv,hl,fun x=>?_⟩
 rw [mm ns vs hv x,hmem x]
 constructor
 ·rintro ⟨t,ht⟩
  obtain ⟨e,he,ee⟩:=bn.mp (hp.mem_iff.mp ht)
  exact ⟨e,he,by rw [ee];exact intKind_is _ _ _ _⟩
 ·rintro ⟨e,he,hk⟩
  obtain ⟨t,ht⟩:=isI hk
  exact ⟨t,hp.mem_iff.mpr (bn.mpr ⟨e,he,ht⟩)⟩
section
variable {X:Cx} {pins:List (Addr×Obj)} {σ:St} {H:Hp} {s:Shared}
theorem _root_.L2.Inv.drew {d:Drawn} (I:Inv X pins σ H s):Inv X pins σ H { s with drawn:=d }:=⟨I.ok,I.os,I.bare,I.base,I.loc,I.cell,I.free,I.freeC,I.pin,I.hok,I.len⟩
theorem rE {a:Addr} {S:Int->Bool} {n:Nat} {Q:VK} (hc:X.calm=true) (I:Inv X pins σ H s) (hS:gM X.prog X.w s.heap a S n) (hn:n<64)
 (k:∀ p ns,H p=none->ns.length=n->(∀ x,x∈ns↔S x=true)->Q (.ref p) (upd H p (.lst ((Ms.srt Ms.ltI ns).map V.int)))):wpAny (model X.prog X.w) X.A (call (.builtin "sorted") [.ref a]) (EP X pins σ Q) X.xe s:=by
 have sz:sizeLine=16777216:=sizeLine_eq
 have hh:X.A.in1.in1.handled=none:=I.ok.hd hc
 have hT:s.TypeIs (.ref a) "set":=by obtain ⟨o,es,ep,t,ho,hex,_⟩:=hS;exact ⟨o,ho,hex.1⟩
 have hal:a<s.heap.objs.size:=by obtain ⟨o,es,ep,t,ho,_⟩:=hS;exact aw ho
 refine Calls.call_function_entry kind_sorted plain_sorted entry_sorted (args_sorted1 _) ?_
 unfold Builtin.«sorted»
 refine wpAny_bind (m:=checkCount "sorted" 1 1 _) (wpAny_pure (wpAny_bind (pI hT (pU (hS.at fun o e=>aa _ e) hh (by rw [cI];exact fO _) (aL hal) (by lia) fun h1 tk d vs kp0 good=>?_))))
 obtain ⟨ns,rv,hl,hm⟩:=uA good
 have hlv:vs.length=ns.length:=by rw [<- rv.length,af]
 have k1:∀ b o,s.heap.get? b=some o->h1.get? b=some o:=fun b o e=>kp0 b o (aL (aw e)) (aa _ e)
 have I1:Inv X pins σ H { s with heap:=h1,toks:=tk,drawn:=d }:=(I.kept (t':=tk) k1).drew
 refine wpAny_bind (wpAny_newList ?_ (by lia))
 have hoD:(h1.push (seqObj "list" vs.toArray 0)).get? h1.objs.size=some (seqObj "list" vs.toArray 0):=aj _ rfl
 have kp1:∀ h',ik h1.objs.size (h1.push (seqObj "list" vs.toArray 0)) h'->∀ b o,h1.get? b=some o->h'.get? b=some o:=fun h' k b o e=>k b o (aL (aw e)) (aa _ e)
 show wpAny _ _ _ _ _ { s with heap:=h1.push (seqObj "list" vs.toArray 0),toks:=tk,drawn:=d }
 have cmp:∀ s':Shared,tf X.prog X.w X.A.in1.in1 s' vs xS oneType' (fun i=>ns.getD i (0:Int)):=fun s'=>v7 (G':=H) (bT.ints.mpr rfl) rv
 refine wpAny_bind (wpAny_holding (wpAny_call_entry slot_list_sort ⟨_,hoD,rfl⟩ entry_list_sort ?body (args_list_sort _)))
 case body =>
  refine qb (s:={ s with heap:=h1.push (seqObj "list" vs.toArray 0),toks:=tk,drawn:=d }) (O:=xS) (key:=fun i=>ns.getD i (0:Int)) (κ:=oneType') hoD (.inl (by lia)) (fun h' _ h2 Q' q=>(cmp _).1 h2 Q' q) (fun h' _ i j C hi hj c=>(cmp _).2 i j C hi hj c) fun p h' c hp hu kb e=>?_
  refine ⟨_,rfl,wpAny_pure ⟨_,rfl,?_⟩⟩
  rw [hlv] at hp hu
  have pl:=io (O:=xS) (0:Int) hp hu
  have hpm:∀ i∈p.toList,i<(ns.map V.int).length:=fun i hi=>by
   have h1:p.toList.Perm (bp ns.length):=by simpa using bh.mp hp.perm
   rw [af]
   simpa using h1.mem_iff.mp hi
  have r2:=gH rv p.toList hpm
  have e3:(p.toList.map fun i=>(ns.map V.int).getD i .non)=(Ms.srt Ms.ltI ns).map V.int:=by
   have:(p.toList.map fun i=>ns.getD i 0)=Ms.srt Ms.ltI ns:=pl.trans (pe xS ns)
   rw [<- this,aT]
   refine eM fun i hi=>?_
   have hi':=hpm i hi
   rw [af] at hi'
   simp [hi']
  rw [e3] at r2
  have hlen:((Ms.srt Ms.ltI ns).map V.int).length<=sizeLine:=by rw [af,(Ms.srt_perm ns).length_eq];lia
  exact ⟨.ref h1.objs.size,_,I1.laid (t':=tk) (kp1 h' kb) (ag _) (show eG X.prog X.w _ h' _ (.lst _) from ⟨hlen,_,c,r2,e⟩),rfl,k _ ns (I1.hok.fresh (ag _)) hl hm⟩
variable {e:Expr} {p p2 pos pos2:Pos} {te:TE}
theorem B1 {l m:List Int} (hm:m.Nodup) (h:∀ x,x∈l↔x∈m) (hl:l.length=m.length):l.Nodup:=by
 have d:∀ l:List Int,(dB l).length<=l.length/\((dB l).length=l.length->l.Nodup):=fun l=>by
  induction l with
  | nil=>exact ⟨ag _,fun _=>.nil⟩
  | cons a l ih =>
    show (if a∈l then dB l else a::dB l).length<=l.length+1/\((if a∈l then dB l else a::dB l).length=l.length+1->_)
    by_cases h:a∈l
    ·rw [if_pos h]
     exact ⟨by lia,fun e=>by lia⟩
    ·rw [if_neg h]
     exact ⟨Dc ih.1,fun e=>aV.mpr ⟨h,ih.2 (by simpa using e)⟩⟩
 refine (d l).2 (Ea (d l).1 ?_)
 rw [hl]
 exact Ms.length_le_of_subset hm fun x hx=>((dI l).2 x).mpr ((h x).mpr hx)
end
end Ry
namespace Ry
open PySem PySem.Spec PyProof.Rows L2
section
variable {prog:Program} {w:World} {A:Around} {E:Value->Shared->Prop} {s:Shared}
set_option maxRecDepth 100000 in
set_option maxHeartbeats 3200000 in
theorem qR {q:Addr} {its:Array Value} {ns:List Int} {Q:Value->Shared->Prop} (hh:A.handled=none) (ht:s.heap.IsList q its) (hi:IntsAre its.toList ns) (hb:its.size+1<scanBound)
 (fin:∀ (h':Heap) (tk:Nat),gM prog w h' s.heap.objs.size (fun k=>(xG ns).any (· == k)) (xG ns).length->(∀ b o,b<s.heap.objs.size->s.heap.get? b=some o->h'.get? b=some o)->Q (.ref s.heap.objs.size) { s with heap:=h',toks:=tk }) :
 wpAny (model prog w) A (call (.type "set") [.ref q]) Q E s:=by
 have hns:its.size=ns.length:=by have:=IntsAre.length hi;simpa using this
 obtain ⟨c,tl,hmro⟩:=PySem.F.called_set.mro
 have mk:=PySem.F.called_set.made
 have sub:=PySem.F.called_set.sub
 refine wpAny_call (codeAny_of_tree ?_)
 show wpAny _ _ (callAny (.type "set") _) _ _ _
 refine wpAny_pure ⟨Code.quiet_builtin _ (by decide +kernel),codeAny_builtin PySem.F.entry_type_call ?_⟩
 rw [Around.under_plain (weight_type_call_type "set" [.ref q] []) rfl]
 have n1:=PySem.F.called_set.notType
 have n2:=PySem.F.called_set.canCreate
 have n3:=PySem.F.typeCall_set_1 (.ref q)
 repeat (any_goals (first | assumption | wp_step))
 refine codeAny_mono (yr (.ref q) (E:=E) (Q₁:=fun v s1=>v=.ref s.heap.objs.size/\s1={ s with heap:=s.heap.push (v8 (!rQ w)) }) ⟨rfl,rfl⟩) fun r s1 hr=>?_
 cases r with
 | error e=>exact hr
 | ok fl =>
   cases fl with
   | ret v =>
     obtain ⟨rfl,rfl⟩:=hr
     generalize hbl:(!rQ w)=b
     have oS:(s.heap.push (v8 b)).get? s.heap.objs.size=some (v8 b):=aj _ rfl
     have tS:Shared.TypeIs { s with heap:=s.heap.push (v8 b) } (.ref s.heap.objs.size) "set":=⟨_,oS,rfl⟩
     have i1:=PySem.F.called_set.init.lookup
     have i2:=PySem.F.called_set.init.bind (.ref s.heap.objs.size)
     repeat (any_goals (first | assumption | wp_step))
     refine codeAny_mono (codeAny_call_builtin (R:=wants (fun r s2=>r=.none/\∃ h' tk,s2={ s with heap:=h',toks:=tk }/\gM prog w h' s.heap.objs.size (fun k=>(xG ns).any (· == k)) (xG ns).length/\(∀ b o,b<s.heap.objs.size->s.heap.get? b=some o->h'.get? b=some o)) E) PySem.F.called_set.init.plain PySem.F.entry_set_init (check_set_init_1 tS ?_)) fun r2 s2 hr2=>?_
     ·obtain ⟨⟨oc,od,odt,osl⟩,ho,ec,n,ed⟩:=ht
      simp only at ec ed
      subst ec;subst ed
      have ho1:(s.heap.push (v8 b)).get? q=some { cls:=.type "list",dict:=od,data:=.seq its n,slots:=osl }:=aa _ ho
      have u1:isSubtype (.type "list") (.type "set")=pure false:=by rw [isSubtype_type];kernel_rfl
      have u2:isSubtype (.type "list") (.type "frozenset")=pure false:=by rw [isSubtype_type];kernel_rfl
      have u3:(Value.type "list" == Value.type "dict")=false:=by decide
      have t1:(s.heap.push (v8 b)).IsList q its:=⟨_,ho1,rfl,n,rfl⟩
      unfold Builtin.«set.__init__» noKeywords Builtin.Frozenset.updateFrom
      generalize hPI:pyIter=PI
      wp_walk
      subst hPI
      refine wpAny_pyIter_list t1 ?_
      refine wpAny_bind (wpAny_runValue ?_)
      have lq:q<s.heap.objs.size:=aw ho
      have h3:A.in1.in1.in1.handled=none:=by simp [hh]
      have z1:(s.heap.push (v8 b)).objs.size=s.heap.objs.size+1:=cI ..
      have ne:q≠(s.heap.push (v8 b)).objs.size:=by rw [z1];exact aL (cW lq)
      have nf:s.heap.objs.size∉[(s.heap.push (v8 b)).objs.size,q]:=by
       rw [z1]
       simp only [ah,eJ,or_false,not_or]
       exact ⟨aL (fO _),mS lq⟩
      refine vY ((Walks.list h3 _ q ne its).toS) s.heap.objs.size nf (fun j=>ns.getD j 0) (fun i v hv=>IntsAre.int_at hi i v (by rw [aR];exact hv)) hb (its.size-0) 0 _ (by lia) (aU _) ⟨⟨_,aj _ rfl,rfl,rfl⟩,t1.push _⟩ ?s0 ?sR
      case s0=>exact ⟨_,#[],0,_,aa _ oS,⟨rfl,rfl,rfl⟩,rfl,fun e he=>(nomatch he),fun k=>⟨fun z=>CY (show false=true from z),fun z=>z.elim fun e he=>nomatch he.1⟩,by decide,rfl,rfl,⟨hbl.symm,fun i j a b _ h=>(by cases h)⟩⟩
      case sR =>
       intro s' hm hS'
       obtain ⟨h',g',d',tk',os'⟩:=s'
       have eg:g'=s.gens:=hm.gens
       have ed:d'=s.drawn:=hm.drawn
       have eo:os'=s.os:=hm.os
       subst eg ed eo
       show wpAny _ _ _ _ _ _
       refine wpAny_pure ?_
       show wpAny _ _ (ret Value.none) _ _ _
       rw [hns] at hS'
       refine wpAny_pure ⟨rfl,h',tk',rfl,hS',fun x o hx e=>hm.heap x o ?_ (aa _ (aa _ e))⟩
       rw [z1]
       simp only [ah,eJ,or_false,not_or]
       exact ⟨aL hx,aL (cW hx)⟩
     ·cases r2 with
      | error e=>exact hr2
      | ok fl2 =>
        cases fl2 with
        | ret r =>
          obtain ⟨rfl,h',tk,rfl,a1,a2⟩:=hr2
          repeat (any_goals (first | assumption | wp_step))
          exact fin _ _ a1 a2
        | _=>exact hr2.elim
   | _=>exact hr.elim
end
section
variable {X:Cx} {pins:List (Addr×Obj)} {σ:L2.St} {H:Hp} {s:Shared} {e:Expr} {p p2 pos pos2:Pos} {te:TE}
noncomputable def Ez (K:PySem.W.Frag) (te:TE):TE:=fun σ H Q=>te σ H fun x H1=>∃ (t:Addr) (ns:List Int),x=.ref t/\SqL K H1 t (ns.map V.int)/\ns.length<64/\∀ q,H1 q=none->Q (.ref q) (upd H1 q (.lst ((Ms.srt Ms.ltI (dB ns)).map V.int)))
theorem mB (hc:X.calm=true) (hg:Gl X "sorted") (hm:X.mg "sorted" = none) (hg2:Gl X "set") (hm2:X.mg "set" = none) (he:PE X e te) (hs:starEach [e] X.env=[(false,eval e X.env)]:=by exact bi rfl)
 (hs2:starEach [.Call (.Name "set" p2) [e] [] pos2] X.env=[(false,eval (.Call (.Name "set" p2) [e] [] pos2) X.env)]:=by exact bi rfl):PE X (.Call (.Name "sorted" p) [.Call (.Name "set" p2) [e] [] pos2] [] pos) (Ez X.K te):=by
 intro pins s σ H Q I h
 refine wpAny_Call_Name_kw (hU (u:=.builtin "sorted") I hg hm (by decide +kernel) ?_)
 refine PyProof.Rows.callWith_builtin1 ?_ hs2 rfl
 rw [hs2]
 show wpAny _ _ (spliced ((false,eval (.Call (.Name "set" p2) [e] [] pos2) X.env)::backTo pos (starEach [] X.env))) _ _ s
 refine Calls.spliced_cons ?_
 refine wpAny_Call_Name_kw (hU I hg2 hm2 (by decide +kernel:bootBuiltins "set" = some (.type "set")) ?_ (by decide) (by decide))
 refine PyProof.Rows.callWith_type1 ?_ hs rfl
 rw [hs]
 show wpAny _ _ (spliced ((false,eval e X.env)::backTo pos2 (starEach [] X.env))) _ _ s
 refine Calls.spliced_cons (thn (he pins s σ H _ I h) fun u s1 ⟨x,H1,I1,r1,t,ns,ex,hsq,hl,k⟩=>?_)
 subst ex
 cases r1
 refine Calls.spliced_nil ?_
 obtain ⟨its,rv,it,z⟩:=I1.list hsq
 have hI:IntsAre its ns:=i6 rv
 have hlen:its.length=ns.length:=IntsAre.length hI
 refine qR (I1.ok.hd hc) it.isList (by simpa using hI) (by rw [ao];unfold scanBound;lia) fun h' tk hS kp=>Calls.spliced_nil ?_
 have hd:(dB ns).length<=ns.length:=Ms.length_le_of_subset (dI ns).1 fun x hx=>((dI ns).2 x).mp hx
 have I2:Inv X pins σ H1 { s1 with heap:=h',toks:=tk }:=I1.kept (t':=tk) fun b u e=>kp b u (aw e) e
 refine rE hc I2 hS (by rw [qy];lia) fun q ms hq hml hmm=>?_
 have em:∀ x,x∈ms↔x∈dB ns:=fun x=>by
  rw [hmm x,(dI ns).2 x]
  obtain ⟨_,a2⟩:=gR ns [] jw
  have h2:x∈xG ns↔x∈ns:=by rw [rX,a2 x];simp
  rw [<- h2,dh]
  exact ⟨fun ⟨y,hy,e⟩=>by rw [<- eq_of_beq e];exact hy,fun hx=>⟨x,hx,beq_self_eq_true x⟩⟩
 have e2:Ms.srt Ms.ltI ms=Ms.srt Ms.ltI (dB ns):=Ms.strict_ext Ms.linI (Ms.srt_strict Ms.linI (B1 (dI ns).1 em (by rw [hml,qy]))) (Ms.srt_strict Ms.linI (dI ns).1) fun x=>by rw [(Ms.srt_perm _).mem_iff,(Ms.srt_perm _).mem_iff,em x]
 rw [e2]
 exact k q hq
noncomputable def dO (f:Rho->Option Rv):Rho->Option Rv:=fun ρ=>match f ρ with
 | some (_,.lst ds)=>(match eQ ds with
   | some ns=>if ns.length<64 then some (.fr,.lst ((Ms.srt Ms.ltI (dB ns)).map Da.int)) else none
   | none=>none)
 | _=>none
theorem lE {fa:Rho->Option Rv} (hc:X.calm=true) (hg:Gl X "sorted") (hm:X.mg "sorted" = none) (hg2:Gl X "set") (hm2:X.mg "set" = none) (ha:PX X e fa) (hs:starEach [e] X.env=[(false,eval e X.env)]:=by exact bi rfl)
 (hs2:starEach [.Call (.Name "set" p2) [e] [] pos2] X.env=[(false,eval (.Call (.Name "set" p2) [e] [] pos2) X.env)]:=by exact bi rfl):PX X (.Call (.Name "sorted" p) [.Call (.Name "set" p2) [e] [] pos2] [] pos) (dO fa) :=
 PE.imp (mB hc hg hm hg2 hm2 ha hs hs2) fun σ H Q ⟨B,G,ρ,r,sg,sb,st,eq,k⟩=>by
  unfold dO at eq
  split at eq
  ·rename_i kd ds ea
   split at eq
   ·rename_i ns en
    split at eq
    ·rename_i hl
     cases eq
     refine ⟨B,G,ρ,_,sg,sb,st,ea,fun v G1 H1 E1 r1=>?_⟩
     obtain ⟨t,ys,rfl,q,dl⟩:=r1.lst E1.gh
     rw [fq en] at dl
     have ey:ys=ns.map V.int:=bT.ints.mp dl
     subst ey
     refine ⟨t,ns,rfl,q,hl,fun l hl'=>k _ G1 _ (E1.trans (Ext.own E1.gh hl')) ⟨l,_,rfl,E1.hh.free hl',E1.gh.free hl',aS,_,rfl,bT.ints.mpr rfl⟩⟩
    ·cases eq
   ·cases eq
  ·cases eq
end
end Ry
namespace Ry
open PySem PySem.Spec PyProof.Rows L2
@[irreducible] noncomputable def QX (X:Cx) (e:Expr) (f:Rho->Option Rv):Prop:=PX X e f
theorem QX.mk {X:Cx} {e:Expr} {f:Rho->Option Rv} (h:PX X e f):QX X e f:=by unfold QX;exact h
theorem QX.out {X:Cx} {e:Expr} {f:Rho->Option Rv} (h:QX X e f):PX X e f:=by unfold QX at h;exact h
@[irreducible] noncomputable def QXT (X:Cx) (e:Expr) (f:Rho->Option Bool):Prop:=PXT X e f
theorem QXT.mk {X:Cx} {e:Expr} {f:Rho->Option Bool} (h:PXT X e f):QXT X e f:=by unfold QXT;exact h
theorem QXT.out {X:Cx} {e:Expr} {f:Rho->Option Bool} (h:QXT X e f):PXT X e f:=by unfold QXT at h;exact h
@[irreducible] noncomputable def QXW (X:Cx) (e:Expr) (f:Rho->Option Bool):Prop:=PXW X e f
theorem QXW.mk {X:Cx} {e:Expr} {f:Rho->Option Bool} (h:PXW X e f):QXW X e f:=by unfold QXW;exact h
theorem QXW.out {X:Cx} {e:Expr} {f:Rho->Option Bool} (h:QXW X e f):PXW X e f:=by unfold QXW at h;exact h
@[irreducible] noncomputable def QXA (X:Cx) (es:List Expr) (f:Rho->Option (List Rv)):Prop:=PXA X es f
theorem QXA.mk {X:Cx} {es:List Expr} {f:Rho->Option (List Rv)} (h:PXA X es f):QXA X es f:=by unfold QXA;exact h
theorem QXA.out {X:Cx} {es:List Expr} {f:Rho->Option (List Rv)} (h:QXA X es f):PXA X es f:=by unfold QXA at h;exact h
@[irreducible] noncomputable def QXS (X:Cx) (st:Stmt) (g:Rho->Res):Prop:=PXS X st g
theorem QXS.mk {X:Cx} {st:Stmt} {g:Rho->Res} (h:PXS X st g):QXS X st g:=by unfold QXS;exact h
theorem QXS.out {X:Cx} {st:Stmt} {g:Rho->Res} (h:QXS X st g):PXS X st g:=by unfold QXS at h;exact h
@[irreducible] noncomputable def g7 (X:Cx) (st:List Stmt) (g:Rho->Res):Prop:=rD X st g
theorem g7.mk {X:Cx} {st:List Stmt} {g:Rho->Res} (h:rD X st g):g7 X st g:=by unfold g7;exact h
theorem g7.out {X:Cx} {st:List Stmt} {g:Rho->Res} (h:g7 X st g):rD X st g:=by unfold g7 at h;exact h
@[irreducible] noncomputable def QXI (X:Cx) (tg iter:Expr) (f:Rho->Option (List Da)):Prop:=PXI X tg iter f
theorem QXI.mk {X:Cx} {tg iter:Expr} {f:Rho->Option (List Da)} (h:PXI X tg iter f):QXI X tg iter f:=by unfold QXI;exact h
theorem QXI.out {X:Cx} {tg iter:Expr} {f:Rho->Option (List Da)} (h:QXI X tg iter f):PXI X tg iter f:=by unfold QXI at h;exact h
@[irreducible] noncomputable def QXG (X:Cx) (tg:Expr) (t:Da->Rho->Option Rho):Prop:=PXG X tg t
theorem QXG.mk {X:Cx} {tg:Expr} {t:Da->Rho->Option Rho} (h:PXG X tg t):QXG X tg t:=by unfold QXG;exact h
theorem QXG.out {X:Cx} {tg:Expr} {t:Da->Rho->Option Rho} (h:QXG X tg t):PXG X tg t:=by unfold QXG at h;exact h
@[irreducible] noncomputable def rO (X:Cx) (ts:List Expr) (t:List Da->Rho->Option Rho):Prop:=zm X ts t
theorem rO.mk {X:Cx} {ts:List Expr} {t:List Da->Rho->Option Rho} (h:zm X ts t):rO X ts t:=by unfold rO;exact h
theorem rO.out {X:Cx} {ts:List Expr} {t:List Da->Rho->Option Rho} (h:rO X ts t):zm X ts t:=by unfold rO at h;exact h
@[irreducible] noncomputable def QXO (X:Cx) (e:Option Expr) (f:Rho->Option (Option Int)):Prop:=PXO X e f
theorem QXO.mk {X:Cx} {e:Option Expr} {f:Rho->Option (Option Int)} (h:PXO X e f):QXO X e f:=by unfold QXO;exact h
theorem QXO.out {X:Cx} {e:Option Expr} {f:Rho->Option (Option Int)} (h:QXO X e f):PXO X e f:=by unfold QXO at h;exact h
@[irreducible] noncomputable def QTS (X:Cx) (ifs:List Expr) (c:Rho->Option Bool):Prop:=PTS X ifs (tXT X.K c)
theorem QTS.mk {X:Cx} {ifs:List Expr} {c:Rho->Option Bool} (h:PTS X ifs (tXT X.K c)):QTS X ifs c:=by unfold QTS;exact h
theorem QTS.out {X:Cx} {ifs:List Expr} {c:Rho->Option Bool} (h:QTS X ifs c):PTS X ifs (tXT X.K c):=by unfold QTS at h;exact h
theorem gk {X:Cx}:QTS X [] (fun _=>some true):=QTS.mk yU
theorem gP {X:Cx} {c:Expr} {t:Rho->Option Bool} (h:QXT X c t):QTS X [c] t:=QTS.mk (Ag h.out)
structure zt (X:Cx) (scope:Scope) (tg elt:Expr) (ifs:List Expr) (t:Da->Rho->Option Rho) (c:Rho->Option Bool) (f:Rho->Option Rv):Prop where
 tg:∀ s H fp,QXG (inC X scope s H fp) tg t
 ifs:∀ s H fp,QTS (inC X scope s H fp) ifs c
 elt:∀ s H fp,QX (inC X scope s H fp) elt f
theorem zt.out {X:Cx} {scope:Scope} {tg elt:Expr} {ifs:List Expr} {t:Da->Rho->Option Rho} {c:Rho->Option Bool} {f:Rho->Option Rv} (h:zt X scope tg elt ifs t c f):A7 X scope tg elt ifs t c f:=⟨fun s H fp=>(h.tg s H fp).out,fun s H fp=>(h.ifs s H fp).out,fun s H fp=>(h.elt s H fp).out⟩
theorem ay (i:Nat) {x:Str} {pos:Pos} (hN:X.N[i]?=some x:=by rfl) (hv:Vis X.env.scope x:=by first | exact Or.inl rfl | exact Or.inr (Or.inl rfl) | exact Or.inr (Or.inr rfl)) (hd:(x == ("__debug__" : Str))=false:=by decide)
 (hcd:(x == ("__classdict__" : Str))=false:=by decide):QX X (.Name x pos) (aJ i):=QX.mk (jd (i:=i) (x:=x) (pos:=pos) (hN:=hN) (hv:=hv) (hd:=hd) (hcd:=hcd))
theorem bP {i j pos}:QX X (.Constant (.int i) j pos) (xC (.int i)):=QX.mk (uc (i:=i) (j:=j) (pos:=pos))
theorem jH {b j pos}:QX X (.Constant (.bool b) j pos) (xC (.bl b)):=QX.mk (Dm (b:=b) (j:=j) (pos:=pos))
theorem h8 (ha:QX X a fa) (hb:QX X b fb):QX X (.BinOp a .Add b pos) (x2 jO fa fb):=QX.mk (xE (ha:=ha.out) (hb:=hb.out))
theorem BO (ha:QX X a fa) (hb:QX X b fb):QX X (.BinOp a .Sub b pos) (x2 (oI (fun _ _=>true) (·-·)) fa fb):=QX.mk (x5 (ha:=ha.out) (hb:=hb.out))
theorem uH (ha:QX X a fa) (hb:QX X b fb):QX X (.BinOp a .Mult b pos) (x2 (oI nh (·*·)) fa fb):=QX.mk (xT (ha:=ha.out) (hb:=hb.out))
theorem xO (ha:QX X a fa) (hb:QX X b fb):QX X (.BinOp a .Mod b pos) (x2 (oI (fun _ j=>decide (0<j)) (·%·)) fa fb):=QX.mk (Cw (ha:=ha.out) (hb:=hb.out))
theorem dc {pos:Pos} (hu:X.A.units+1<cLine) (ha:QX X a fa) (hb:QX X b fb) (hs:lZ b:=by intro _ _;rfl):QX X (.Subscript a b pos) (x2 oIt fa fb):=QX.mk (yk (pos:=pos) (hu:=hu) (ha:=ha.out) (hb:=hb.out) (hs:=hs))
theorem aQ:QXA X [] bO:=QXA.mk (lG )
theorem ak {e:Expr} {es:List Expr} {f:Rho->Option Rv} {g:Rho->Option (List Rv)} (ha:QX X e f) (hr:QXA X es g) (hs:starEach (e::es) X.env=(false,eval e X.env)::starEach es X.env:=by exact bi rfl):QXA X (e::es) (aB f g):=QXA.mk (gQ (e:=e) (es:=es) (f:=f) (g:=g) (ha:=ha.out) (hr:=hr.out) (hs:=hs))
theorem jn {es:List Expr} {x1:Nat} {pos:Pos} {g:Rho->Option (List Rv)} (h:QXA X es g):QX X (.Tuple es x1 pos) (pE g):=QX.mk (Cp (es:=es) (x1:=x1) (pos:=pos) (g:=g) (h:=h.out))
theorem xX {es:List Expr} {pos:Pos} {g:Rho->Option (List Rv)} (h:QXA X es g):QX X (.List es pos) (AB g):=QX.mk (CJ (es:=es) (pos:=pos) (g:=g) (h:=h.out))
theorem iI {pos:Pos}:QX X (.Dict [] [] pos) (xC2 (.fr,.dK [] [])):=QX.mk (wR (pos:=pos))
theorem xb {pos:Pos}:QX X (.Dict [] [] pos) (xC2 (.fr,.dT [] [])):=QX.mk (wQ (pos:=pos))
theorem Au {o:CmpOp} {op:Rv->Rv->Option Rv} (h:CR2 X o op) (ha:QX X a fa) (hb:QX X b fb) (hm:behindInMarks o b=false:=by first | exact qc _ | with_unfolding_all rfl):QX X (.Compare a [o] [b] pos) (x2 op fa fb):=QX.mk (EW (o:=o) (op:=op) (h:=h) (ha:=ha.out) (hb:=hb.out) (hm:=hm))
theorem gz {o:CmpOp} {op:Rv->Rv->Option Rv} (h:CR2 X o op) (ha:QX X a fa) (hb:QX X b fb) (hm:behindInMarks o b=false:=by first | exact qc _ | with_unfolding_all rfl):QXT X (.Compare a [o] [b] pos) (tb (x2 op fa fb)):=QXT.mk (DD (o:=o) (op:=op) (h:=h) (ha:=ha.out) (hb:=hb.out) (hm:=hm))
theorem wv {o o':CmpOp} {op op':Rv->Rv->Option Rv} (h:CR2 X o op) (h':CR2 X o' op') (ha:QX X a fa) (hb:QX X b fb) (hc:QX X c fc) (hm:lastMarks [o,o'] [b,c]=false:=by with_unfolding_all rfl) :
 QX X (.Compare a [o,o'] [b,c] pos) (nr op op' fa fb fc):=QX.mk (wo (o:=o) (o':=o') (op:=op) (op':=op') (h:=h) (h':=h') (ha:=ha.out) (hb:=hb.out) (hc:=hc.out) (hm:=hm))
theorem iO (ha:QXT X a ta):QXW X (.BoolOp .And [a] pos) ta:=QXW.mk (wk (ha:=ha.out))
theorem yY (ha:QXT X a ta):QXW X (.BoolOp .Or [a] pos) ta:=QXW.mk (yC (ha:=ha.out))
theorem jF (ha:QXT X a ta) (hb:QXW X (.BoolOp .And (b::rest1) pos) tc):QXW X (.BoolOp .And (a::b::rest1) pos) (iP ta tc):=QXW.mk (yS (ha:=ha.out) (hb:=hb.out))
theorem xp (ha:QXT X a ta) (hb:QXW X (.BoolOp .Or (b::rest1) pos) tc):QXW X (.BoolOp .Or (a::b::rest1) pos) (wH ta tc):=QXW.mk (A4 (ha:=ha.out) (hb:=hb.out))
theorem q5 {e:Expr} (h:QXW X e ta):QXT X e ta:=QXT.mk (Di (e:=e) (h:=h.out))
theorem il (ha:QXT X a ta):QXT X (.UnaryOp .Not a pos) (ij ta):=QXT.mk (zL (ha:=ha.out))
theorem tq {op} (h:QX X a fa):QX X (.BoolOp op [a] pos) fa:=QX.mk (AV (op:=op) (h:=h.out))
theorem si (ha:QX X a fa) (hb:QX X (.BoolOp .And (b::rest1) pos) fb):QX X (.BoolOp .And (a::b::rest1) pos) (zi fa fb):=QX.mk (CP (ha:=ha.out) (hb:=hb.out))
theorem BS (ha:QX X a fa):QX X (.UnaryOp .Not a pos) (BZ fa):=QX.mk (AY (ha:=ha.out))
theorem ji (ha:QX X a fa) (he:∀ whole,isTrue a X.env whole=(do let v <- whole;standAt a.pos;holding [v] (truthy v)):=by intro _;rfl):QXT X a (tTr fa):=QXT.mk (Cu (ha:=ha.out) (he:=he))
theorem fK:g7 X [] gA:=g7.mk (zv )
theorem bG (h1:QXS X st1 g) (h2:g7 X rest1 h):g7 X (st1::rest1) (e8 g h):=g7.mk (wD (h1:=h1.out) (h2:=h2.out))
theorem bL (h1:QXS X st1 g):g7 X [st1] g:=g7.mk (yG (h1:=h1.out))
theorem t4 {sts:List Stmt}:g7 X sts (fun _=>.bad):=g7.mk (sV (sts:=sts))
theorem hV {c:Expr} {a b:List Stmt} {t:Rho->Option Bool} (hc:QXT X c t) (ha:g7 X a g) (hb:g7 X b h):QXS X (.If c a b pos) (sIf t g h):=QXS.mk (A2 (c:=c) (a:=a) (b:=b) (t:=t) (hc:=hc.out) (ha:=ha.out) (hb:=hb.out))
theorem eN {i:Nat} {x:Str} (hN:X.N.Nodup) (he:QX X e f) (hi:X.N[i]?=some x:=by rfl) (hx:Loc X.env.scope x:=by first | exact Or.inl rfl | exact Or.inr rfl) (hs:swapsWith e (some (.Name x pos')) pos.line X.env=pure false:=by rfl)
 (hf:X.fn x=true\/X.env.scope.names.lookup x=some .local:=by first | exact .inl rfl | exact .inr rfl | assumption):QXS X (.Assign [.Name x pos'] e pos) (kj i f):=QXS.mk (zd (i:=i) (x:=x) (hN:=hN) (he:=he.out) (hi:=hi) (hx:=hx) (hs:=hs) (hf:=hf))
theorem mw {i:Nat} {x:Str} (hN:X.N.Nodup) (he:QX X e f) (hi:X.N[i]?=some x:=by rfl) (hx:Loc X.env.scope x:=by first | exact Or.inl rfl | exact Or.inr rfl) (hs:swapsWith e (some (.Name x pos')) pos.line X.env=pure false:=by rfl)
 (hf:X.fn x=true\/X.env.scope.names.lookup x=some .local:=by first | exact .inl rfl | exact .inr rfl | assumption):QXS X (.Assign [.Name x pos'] e pos) (xy i f):=QXS.mk (zV (i:=i) (x:=x) (hN:=hN) (he:=he.out) (hi:=hi) (hx:=hx) (hs:=hs) (hf:=hf))
theorem zT (i:Nat) (h1:QXS X st1 g):QXS X st1 (fun ρ=>g (frz i ρ)):=QXS.mk (yL (i:=i) (h1:=h1.out))
theorem kY {i:Nat} {x:Str} {p1 apos cpos:Pos} (he:QX X e f) (hN:X.N[i]?=some x:=by rfl) (hv:Vis X.env.scope x:=by first | exact Or.inl rfl | exact Or.inr (Or.inl rfl) | exact Or.inr (Or.inr rfl)) (hd:(x == ("__debug__" : Str))=false:=by decide)
 (hcd:(x == ("__classdict__" : Str))=false:=by decide)
 (hs:swapsWith (.Call (.Attribute (.Name x p1) "append" apos) [e] [] cpos) none pos.line X.env=pure false:=by rfl) (hbase:attributeBase (.Name x p1) "append" X.env (eval (.Name x p1) X.env)=eval (.Name x p1) X.env:=by rfl)
 (hfew:((backTo cpos (starEach [e] X.env)).all (fun x=>!x.1)&&(backToKw cpos (keywordEach [] X.env)).all (fun x=>x.1.isSome)&&decide (([e]:List Expr).length+([]:List Keyword).length+(if ([]:List Keyword).isEmpty then 0 else 1)<30))=true:=by rfl)
 (hline:(apos.endLine == cpos.line)=true:=by rfl) (hst:starEach [e] X.env=[(false,eval e X.env)]:=by exact bi rfl) (hplain:(backTo cpos (starEach [] X.env)).any (·.1)=false:=by rfl) :
 QXS X (.Expr (.Call (.Attribute (.Name x p1) "append" apos) [e] [] cpos) pos) (iY i f):=QXS.mk (qT (i:=i) (x:=x) (p1:=p1) (apos:=apos) (cpos:=cpos) (he:=he.out) (hN:=hN) (hv:=hv) (hd:=hd) (hcd:=hcd) (hs:=hs) (hbase:=hbase) (hfew:=hfew) (hline:=hline) (hst:=hst) (hplain:=hplain))
theorem dR {X:Cx} {e:Expr} {f:Rho->Option Rv} (h:QX X e f):QX X e (eU f):=QX.mk (yb (X:=X) (e:=e) (f:=f) (h:=h.out))
theorem bV {X:Cx} {e:Expr} {f:Rho->Option Rv} {pos:Pos} (he:QX X e f):QXS X (.Return (some e) pos) (dN f):=QXS.mk (w4 (X:=X) (e:=e) (f:=f) (pos:=pos) (he:=he.out))
theorem cP (he:QX X e f):QXI X tg e (bJ f):=QXI.mk (tL (he:=he.out))
theorem eP {a:Expr} {p:Pos} {g:Rho->Option (List Rv)} (hg:Gl X "range") (hm:X.mg "range" = none) (ha:QXA X [a] g) (hs:starEach [a] X.env=[(false,eval a X.env)]:=by exact bi rfl):QXI X tg (.Call (.Name "range" p) [a] [] pos) (mQ g):=QXI.mk (kX (a:=a) (p:=p) (g:=g) (hg:=hg) (hm:=hm) (ha:=ha.out) (hs:=hs))
theorem ro {a b:Expr} {p:Pos} {g:Rho->Option (List Rv)} (hg:Gl X "range") (hm:X.mg "range" = none) (ha:QXA X [a,b] g) (hs:starEach [a,b] X.env=[(false,eval a X.env),(false,eval b X.env)]:=by rfl) (hs2:starEach [b] X.env=[(false,eval b X.env)]:=by rfl) :
 QXI X tg (.Call (.Name "range" p) [a,b] [] pos) (Ax g):=QXI.mk (rK (a:=a) (b:=b) (p:=p) (g:=g) (hg:=hg) (hm:=hm) (ha:=ha.out) (hs:=hs) (hs2:=hs2))
theorem bC {i:Nat} {x:Str} (hN:X.N.Nodup) (hi:X.N[i]?=some x:=by rfl) (hx:Loc X.env.scope x:=by first | exact Or.inl rfl | exact Or.inr rfl) (hf:X.fn x=true\/X.env.scope.names.lookup x=some .local:=by first | exact .inl rfl | exact .inr rfl | assumption):QXG X (.Name x pos) (tgN i):=QXG.mk (wt (i:=i) (x:=x) (hN:=hN) (hi:=hi) (hx:=hx) (hf:=hf))
theorem pN:rO X [] ju:=rO.mk (Am )
theorem gS {e:Expr} {es:List Expr} {t:Da->Rho->Option Rho} {u:List Da->Rho->Option Rho} (h1:QXG X e t) (h2:rO X es u) (hs:(assignEach (e::es) X.env).map (·.2)=assign e X.env::(assignEach es X.env).map (·.2):=by rfl):rO X (e::es) (d6 t u):=rO.mk (wl (e:=e) (es:=es) (t:=t) (u:=u) (h1:=h1.out) (h2:=h2.out) (hs:=hs))
theorem pD {es:List Expr} {k n:Nat} {t:List Da->Rho->Option Rho} (hc:X.calm=true) (h:rO X es t) (hn:(assignEach es X.env).length=n:=by rfl) (hst:(assignEach es X.env).findIdx? (·.1)=none:=by rfl):QXG X (.Tuple es k pos) (tgT n t):=QXG.mk (zf (es:=es) (k:=k) (n:=n) (t:=t) (hc:=hc) (h:=h.out) (hn:=hn) (hst:=hst))
theorem fN {X:Cx} {tg iter:Expr} {body:List Stmt} {f:Rho->Option (List Da)} {t:Da->Rho->Option Rho} {g:Rho->Res} {pos:Pos} (hp:PassesOwn (model X.prog X.w) X.A X.env X.xe) (hc:X.calm=true) (hi:QXI X tg iter f) (hg:QXG X tg t) (hb:g7 X body g)
 (hs:∀ x,foldedSetIterable iter X.env x=pure x:=by intro _;rfl):QXS X (.For tg iter body [] pos) (lf f t g):=QXS.mk (zj (X:=X) (tg:=tg) (iter:=iter) (body:=body) (f:=f) (t:=t) (g:=g) (pos:=pos) (hp:=hp) (hc:=hc) (hi:=hi.out) (hg:=hg.out) (hb:=hb.out) (hs:=hs))
theorem cZ (hc:X.calm=true) (S:fS X scope ix) (hi:QXI X tg iter fi) (B:zt X scope tg elt ifs t c f) (hs:∀ x,foldedSetIterable iter X.env x=pure x:=by intro _;rfl):QX X (.ListComp elt [⟨tg,iter,ifs,0⟩] scope pos) (dE ix fi t c f):=QX.mk (zO (hc:=hc) (S:=S) (hi:=hi.out) (B:=B.out) (hs:=hs))
theorem nS (hg:Gl X "len") (hm:X.mg "len" = none) (ha:QXA X (e::es) g) (he:starEach (e::es) X.env=(false,eval e X.env)::starEach es X.env:=by exact bi rfl) (hpl:(backTo pos (starEach es X.env)).any (·.1)=false:=by rfl):QX X (.Call (.Name "len" p) (e::es) [] pos) (xB oK g):=QX.mk (BU (hg:=hg) (hm:=hm) (ha:=ha.out) (he:=he) (hpl:=hpl))
theorem fm (hg:Gl X "tuple") (hm:X.mg "tuple" = none) (ha:QXA X (e::es) g) (he:starEach (e::es) X.env=(false,eval e X.env)::starEach es X.env:=by exact bi rfl) (hpl:(backTo pos (starEach es X.env)).any (·.1)=false:=by rfl):QX X (.Call (.Name "tuple" p) (e::es) [] pos) (xB eF g):=QX.mk (xc (hg:=hg) (hm:=hm) (ha:=ha.out) (he:=he) (hpl:=hpl))
theorem za (hg:Gl X "list") (hm:X.mg "list" = none) (ha:QXA X (e::es) g) (he:starEach (e::es) X.env=(false,eval e X.env)::starEach es X.env:=by exact bi rfl) (hpl:(backTo pos (starEach es X.env)).any (·.1)=false:=by rfl):QX X (.Call (.Name "list" p) (e::es) [] pos) (xB lC g):=QX.mk (zC (hg:=hg) (hm:=hm) (ha:=ha.out) (he:=he) (hpl:=hpl))
theorem lV {apos:Pos} {o:Expr} {fo:Rho->Option Rv} (hu:X.A.units+1<cLine) (ho:QX X o fo) (ha:QX X a fa) (hb:QX X b fb) (hbase:attributeBase o "get" X.env (eval o X.env)=eval o X.env:=by rfl)
 (hfew:((backTo pos (starEach [a,b] X.env)).all (fun x=>!x.1)&&(backToKw pos (keywordEach [] X.env)).all (fun x=>x.1.isSome)&&decide (([a,b]:List Expr).length+([]:List Keyword).length+(if ([]:List Keyword).isEmpty then 0 else 1)<30))=true:=by rfl)
 (hline:(apos.endLine == pos.line)=true:=by rfl) (htr:backTo pos (starEach [a,b] X.env)=[(false,eval a X.env),(false,eval b X.env)]:=by rfl):QX X (.Call (.Attribute o "get" apos) [a,b] [] pos) (g6 fo fa fb):=QX.mk (Al (apos:=apos) (o:=o) (fo:=fo) (hu:=hu) (ho:=ho.out) (ha:=ha.out) (hb:=hb.out) (hbase:=hbase) (hfew:=hfew) (hline:=hline) (htr:=htr))
theorem pQ {i:Nat} {x:Str} {px:Pos} (hu:X.A.units+64<cLine) (hk:QX X a fa) (hv:QX X b fb) (hN:X.N[i]?=some x:=by rfl) (hvis:Vis X.env.scope x:=by first | exact Or.inl rfl | exact Or.inr (Or.inl rfl) | exact Or.inr (Or.inr rfl)) (hd:(x == ("__debug__" : Str))=false:=by decide)
 (hcd:(x == ("__classdict__" : Str))=false:=by decide) (hs:swapsWith b (some (.Subscript (.Name x px) a pos')) pos.line X.env=pure false:=by rfl):QXS X (.Assign [.Subscript (.Name x px) a pos'] b pos) (yu i fa fb):=QXS.mk (zU (i:=i) (x:=x) (px:=px) (hu:=hu) (hk:=hk.out) (hv:=hv.out) (hN:=hN) (hvis:=hvis) (hd:=hd) (hcd:=hcd) (hs:=hs))
theorem bD {X:Cx} {k n:Nat} {ps:List Str} {fn:List Da->Option Da} {x:Str} {p pos:Pos} {e:Expr} {es:List Expr} {g:Rho->Option (List Rv)} (C:Ca X.prog X.w X.K X.mg X.base x ps k n fn) (hr:fQ k X.A) (hg:Gl X x) (ha:QXA X (e::es) g) (hlen:∀ ρ rs,g ρ=some rs->rs.length=n)
 (hdb:(x == ("__debug__" : Str))=false:=by decide) (he:starEach (e::es) X.env=(false,eval e X.env)::starEach es X.env:=by exact bi rfl) (hpl:(backTo pos (starEach es X.env)).any (·.1)=false:=by rfl):QX X (.Call (.Name x p) (e::es) [] pos) (bU fn g):=QX.mk (qa (X:=X) (k:=k) (n:=n) (ps:=ps) (fn:=fn) (x:=x) (p:=p) (pos:=pos) (e:=e) (es:=es) (g:=g) (C:=C) (hr:=hr) (hg:=hg) (ha:=ha.out) (hlen:=hlen) (hdb:=hdb) (he:=he) (hpl:=hpl))
theorem jL {T:String} {x:Str} {i:Da->Option Bool} (hk:li X.K T i) (hv:bootBuiltins x=some (.type T)) (hg:Gl X "isinstance") (hm:X.mg "isinstance" = none) (hg2:Gl X x) (hm2:X.mg x=none) (ha:QX X a fa)
 (hn:x≠"__name__":=by decide) (hd:(x == ("__debug__" : Str))=false:=by decide)
 (he:starEach [a,.Name x p2] X.env=[(false,eval a X.env),(false,eval (.Name x p2) X.env)]:=by rfl) (he2:starEach [.Name x p2] X.env=[(false,eval (.Name x p2) X.env)]:=by rfl):QX X (.Call (.Name "isinstance" p) [a,.Name x p2] [] pos) (gq i fa):=QX.mk (ue (T:=T) (x:=x) (i:=i) (hk:=hk) (hv:=hv) (hg:=hg) (hm:=hm) (hg2:=hg2) (hm2:=hm2) (ha:=ha.out) (hn:=hn) (hd:=hd) (he:=he) (he2:=he2))
theorem nZ (hc:X.calm=true) (hg:Gl X "all") (hm:X.mg "all" = none) (ha:QXA X (e::es) g) (he:starEach (e::es) X.env=(false,eval e X.env)::starEach es X.env:=by exact bi rfl) (hpl:(backTo pos (starEach es X.env)).any (·.1)=false:=by rfl):QX X (.Call (.Name "all" p) (e::es) [] pos) (xB ri g):=QX.mk (CO (hc:=hc) (hg:=hg) (hm:=hm) (ha:=ha.out) (he:=he) (hpl:=hpl))
theorem xN (hc:X.calm=true) (hg:Gl X "any") (hm:X.mg "any" = none) (ha:QXA X (e::es) g) (he:starEach (e::es) X.env=(false,eval e X.env)::starEach es X.env:=by exact bi rfl) (hpl:(backTo pos (starEach es X.env)).any (·.1)=false:=by rfl):QX X (.Call (.Name "any" p) (e::es) [] pos) (xB wn g):=QX.mk (CD (hc:=hc) (hg:=hg) (hm:=hm) (ha:=ha.out) (he:=he) (hpl:=hpl))
theorem wm:QXO X none qY:=QXO.mk (wV )
theorem mG (ha:QX X a fa):QXO X (some a) (iV fa):=QXO.mk (wZ (ha:=ha.out))
theorem qL {lo hi:Option Expr} {fl fh:Rho->Option (Option Int)} (ha:QX X a fa) (hl:QXO X lo fl) (hh:QXO X hi fh):QX X (.Subscript a (.Slice lo hi none p2) pos) (hJ fa fl fh):=QX.mk (vL (lo:=lo) (hi:=hi) (fl:=fl) (fh:=fh) (ha:=ha.out) (hl:=hl.out) (hh:=hh.out))
theorem n8 (hc:X.calm=true) (hg:Gl X "sorted") (hm:X.mg "sorted" = none) (ha:QXA X (e::es) g) (he:starEach (e::es) X.env=(false,eval e X.env)::starEach es X.env:=by exact bi rfl) (hpl:(backTo pos (starEach es X.env)).any (·.1)=false:=by rfl):QX X (.Call (.Name "sorted" p) (e::es) [] pos) (xB gn g):=QX.mk (tE (hc:=hc) (hg:=hg) (hm:=hm) (ha:=ha.out) (he:=he) (hpl:=hpl))
theorem pO {fa:Rho->Option Rv} (hg:Gl X "tuple") (hm:X.mg "tuple" = none) (hg2:Gl X "reversed") (hm2:X.mg "reversed" = none) (ha:QX X e fa) (hc:X.calm=true:=by rfl) (hs:starEach [e] X.env=[(false,eval e X.env)]:=by exact bi rfl)
 (hs2:starEach [.Call (.Name "reversed" p2) [e] [] pos2] X.env=[(false,eval (.Call (.Name "reversed" p2) [e] [] pos2) X.env)]:=by rfl):QX X (.Call (.Name "tuple" p) [.Call (.Name "reversed" p2) [e] [] pos2] [] pos) (gJ fa):=QX.mk (pW (fa:=fa) (hg:=hg) (hm:=hm) (hg2:=hg2) (hm2:=hm2) (ha:=ha.out) (hc:=hc) (hs:=hs) (hs2:=hs2))
theorem B8 (ha:QX X a fa) (hb:QX X b fb):QX X (.BinOp a .Pow b pos) (x2 (oI C5 fun i j=>i ^ j.toNat) fa fb):=QX.mk (Cr (ha:=ha.out) (hb:=hb.out))
theorem xR (ha:QX X a fa) (hb:QX X b fb):QX X (.BinOp a .RShift b pos) (x2 (oI (fun _ j=>decide (0<=j)) fun i j=>i / 2 ^ j.toNat) fa fb):=QX.mk (Cm (ha:=ha.out) (hb:=hb.out))
theorem Ad (ha:QX X a fa) (hb:QX X b fb):QX X (.BinOp a .BitAnd b pos) (x2 (oI (fun _ _=>true) Builtin.bitAnd) fa fb):=QX.mk (Aj (ha:=ha.out) (hb:=hb.out))
theorem qU {i:Nat} {x:Str} {p1 apos cpos:Pos} (he:QX X e f) (hN:X.N[i]?=some x:=by rfl) (hv:Vis X.env.scope x:=by first | exact Or.inl rfl | exact Or.inr (Or.inl rfl) | exact Or.inr (Or.inr rfl)) (hd:(x == ("__debug__" : Str))=false:=by decide)
 (hcd:(x == ("__classdict__" : Str))=false:=by decide)
 (hs:swapsWith (.Call (.Attribute (.Name x p1) "update" apos) [e] [] cpos) none pos.line X.env=pure false:=by rfl) (hbase:attributeBase (.Name x p1) "update" X.env (eval (.Name x p1) X.env)=eval (.Name x p1) X.env:=by rfl)
 (hfew:((backTo cpos (starEach [e] X.env)).all (fun x=>!x.1)&&(backToKw cpos (keywordEach [] X.env)).all (fun x=>x.1.isSome)&&decide (([e]:List Expr).length+([]:List Keyword).length+(if ([]:List Keyword).isEmpty then 0 else 1)<30))=true:=by rfl)
 (hline:(apos.endLine == cpos.line)=true:=by rfl) (hst:starEach [e] X.env=[(false,eval e X.env)]:=by exact bi rfl) (hplain:(backTo cpos (starEach [] X.env)).any (·.1)=false:=by rfl) :
 QXS X (.Expr (.Call (.Attribute (.Name x p1) "update" apos) [e] [] cpos) pos) (iU i f):=QXS.mk (rn (i:=i) (x:=x) (p1:=p1) (apos:=apos) (cpos:=cpos) (he:=he.out) (hN:=hN) (hv:=hv) (hd:=hd) (hcd:=hcd) (hs:=hs) (hbase:=hbase) (hfew:=hfew) (hline:=hline) (hst:=hst) (hplain:=hplain))
theorem mP {fa:Rho->Option Rv} (hc:X.calm=true) (hg:Gl X "sorted") (hm:X.mg "sorted" = none) (hg2:Gl X "set") (hm2:X.mg "set" = none) (ha:QX X e fa) (hs:starEach [e] X.env=[(false,eval e X.env)]:=by exact bi rfl)
 (hs2:starEach [.Call (.Name "set" p2) [e] [] pos2] X.env=[(false,eval (.Call (.Name "set" p2) [e] [] pos2) X.env)]:=by exact bi rfl):QX X (.Call (.Name "sorted" p) [.Call (.Name "set" p2) [e] [] pos2] [] pos) (dO fa):=QX.mk (lE (fa:=fa) (hc:=hc) (hg:=hg) (hm:=hm) (hg2:=hg2) (hm2:=hm2) (ha:=ha.out) (hs:=hs) (hs2:=hs2))
end Ry
namespace Ry
open PySem PySem.Spec PyProof.Rows L2
section
variable {X:Cx} {a body:Expr} {params:Arguments} {scope:Scope} {p p2 pos pos2 kpos lpos:Pos} {c P:Addr} {ix:List (Option Nat)} {x:Str} {i0:Nat} {g:Rho->Option Rv} {ga:Rho->Option (List Rv)}
theorem rl {e:Expr} {es:List Expr} {g:Rho->Option (List Rv)} (hr:fQ 2 X.A) (hg:Gl X "sorted") (hm:X.mg "sorted" = none) (ha:QXA X (e::es) g) (he:starEach (e::es) X.env=(false,eval e X.env)::starEach es X.env:=by exact bi rfl) (hpl:(backTo pos (starEach es X.env)).any (·.1)=false:=by rfl) :
 QX X (.Call (.Name "sorted" p) (e::es) [] pos) (xB ft g):=QX.mk (qS hr hg hm ha.out he hpl)
end
section
variable {P:Program} {w:World} {K:PySem.W.Frag} {mg:Str->Option Value} {base:Heap}
end
theorem qm:∀ {l:List (Addr×Str)} {b:Addr} {q:Str},l.lookup b=some q->(b,q)∈l
 | [],_,_,h=>by cases h
 | (c,r)::l,b,q,h=>by
   rw [bX] at h
   cases e:b == c with
   | true=>rw [e] at h;cases h;rw [beq_iff_eq.mp e];exact ax
   | false=>rw [e] at h;exact al _ (qm h)
noncomputable def tj (K:PySem.W.Frag) (ts:List Addr):Bool:=(gw K).all fun e=>ts.contains e.1&&(K.lookup e.1).isNone&&(K.any fun p=>PySem.W.codeHdIn K p.1 e.1)&&((gw K).lookup e.1 == some e.2)
theorem sy {P:Program} {w:World} {K:PySem.W.Frag} {mg mb:Str->Option Value} {k:Nat} {fa a:Addr} {fd:FuncData} {x:Str} {fn:List Da->Option Da} {s₁:Shared} {vs:List Value} {ns:List Int} {ts:List Addr} {Pb:Heap->Prop}
 (KX:K.In s₁.heap) (hns:s₁.heap.Ns mainGlobals mg) (hb:s₁.heap.Ns builtinsNs mb) (hbb:∀ x:Str,x≠"__name__"->mb x=bootBuiltins x) (hlim:s₁.heap.NoLimit) (hbm:Bm mg s₁.heap) (hg:s₁.gens = #[])
 (ha:s₁.heap.get? a=some { cls:=.type "list",data:=.seq vs.toArray }) (hi:IntsAre vs ns) (hl:ns.length<=sizeLine) (hr:fQ k callerA) (hT:∀ P∈ts,s₁.heap.get? P=some (PySem.W.tabObj #[])) (hok:tj K ts=true)
 (hPb:∀ h':Heap,(∀ b o,s₁.heap.get? b=some o->(∀ xs n,o.data≠.seq xs n)->(∀ ps,o.data≠.fields ps)->h'.get? b=some o)->Pb h')
 (F:∀ base:Heap,K.In base->base.Ns mainGlobals mg->Bm mg base->Pb base->pZ P w K mg base CX0 k fa fd [x] (spD K 1 fn)) (hbind:∀ (s:Shared) (u:Value),BindsTo s fd ⟨[u],[]⟩ [(x,u)])
 (eq:fn [.lst (ns.map Da.int)]=some (.bl true)) :
 codeAny (model P w) callerA (.call (.ref fa) ⟨[.ref a],[]⟩) (fun r s'=>r=.ok (.ret (.bool true))/\OldK s₁.heap s'.heap/\s'.os=s₁.os/\AllBare s'.gens) s₁:=by
 have rv:=oG hi
 have lenV:=hi.length
 have ok1:∀ e∈gw K,s₁.heap.get? e.1=some (PySem.W.tabObj #[])/\K.lookup e.1=none/\(∃ c,PySem.W.CodeHd s₁.heap c e.1)/\(gw K).lookup e.1=some e.2:=fun e he=>by
  have:=bv.mp hok e he
  simp only [aD] at this
  obtain ⟨⟨⟨h1,h2⟩,h3⟩,h4⟩:=this
  obtain ⟨p,_,h3⟩:=dh.mp h3
  exact ⟨hT _ (by simpa using h1),Option.isNone_iff_eq_none.mp h2,⟨p.1,PySem.W.codeHd_of_K KX h3⟩,by simpa using h4⟩
 have lk:∀ {b:Addr} {q:Str},(gw K).lookup b=some q->(b,q)∈gw K:=fun {b q} e=>qm e
 have core:∀ Hs:Option HO,(Hs=none\/Hs=some (.frz { cls:=.type "list",data:=.seq vs.toArray } (.lst (ns.map V.int))))->(Hs≠none->K.lookup a=none)->(∀ H:Hp,H a=Hs->SqL K H a (ns.map V.int)) ->
  codeAny (model P w) callerA (.call (.ref fa) ⟨[.ref a],[]⟩) (fun r s'=>r=.ok (.ret (.bool true))/\OldK s₁.heap s'.heap/\s'.os=s₁.os/\AllBare s'.gens) s₁:=by
  intro Hs hHs hK hS
  have eH:∃ H:Hp,H=fun b=>if b=a then Hs else ((gw K).lookup b).map HO.tab:=⟨_,rfl⟩
  obtain ⟨H,eH⟩:=eH
  have Ha:H a=Hs:=by rw [eH];exact if_pos rfl
  have Hb:∀ {b:Addr},b≠a->H b=((gw K).lookup b).map HO.tab:=fun h=>by rw [eH];exact if_neg h
  have cases3:∀ {b:Addr} {u:HO},H b=some u->(b=a/\u=.frz { cls:=.type "list",data:=.seq vs.toArray } (.lst (ns.map V.int)))\/(b≠a/\∃ q,u=.tab q/\(b,q)∈gw K):=fun {b u} e=>by
   by_cases hb:b=a
   ·subst hb
    rw [Ha] at e
    rcases hHs with z | z
    ·rw [z] at e;cases e
    ·rw [z] at e;cases e;exact .inl ⟨rfl,rfl⟩
   ·rw [Hb hb] at e
    cases z:(gw K).lookup b with
    | none=>rw [z] at e;cases e
    | some q=>rw [z] at e;cases e;exact .inr ⟨hb,q,rfl,lk z⟩
  have nea:∀ e∈gw K,e.1≠a:=fun e he z=>by
   have:=(ok1 e he).1
   rw [z,ha] at this
   cases this
  have base_of:∀ {b:Addr} {o:Obj},s₁.heap.get? b=some o->H b=none->(vw s₁.heap H).get? b=some o:=fun e n=>v9 e n
  have noT:∀ {b:Addr} {o:Obj},s₁.heap.get? b=some o->(∀ xs n,o.data≠.seq xs n)->(∀ ps,o.data≠.fields ps)->H b=none:=fun {b o} e d1 d2=>by
   cases q:H b with
   | none=>rfl
   | some u =>
     rcases cases3 q with ⟨z,_⟩ | ⟨_,q',_,z⟩
     ·subst z
      rw [ha] at e;cases e
      exact absurd rfl (d1 _ _)
     ·have:=(ok1 _ z).1
      dsimp only at this
      rw [this] at e;cases e
      exact absurd rfl (d2 _)
  have noA:∀ {b:Addr} {o:Obj} {es:Array DictEntry} {ep:Nat},s₁.heap.get? b=some o->o.data=.dict es ep->H b=none:=fun {b o es ep} e d=>noT e (fun _ _ z=>by rw [d] at z;cases z) fun _ z=>by rw [d] at z;cases z
  have nsK:∀ {b:Addr} {m:Str->Option Value},s₁.heap.Ns b m->(vw s₁.heap H).Ns b m:=fun {b m} ⟨o,es,ep,e,d,r⟩=>⟨o,es,ep,base_of e (noA e d),d,r⟩
  have hKb:K.In (vw s₁.heap H):=fun b o e=>base_of (KX b o e) (by
   cases q:H b with
   | none=>rfl
   | some u =>
     rcases cases3 q with ⟨z,zu⟩ | ⟨_,q',_,z⟩
     ·subst z
      rw [hK (by rw [<- Ha,q];simp)] at e;cases e
     ·have:=(ok1 _ z).2.1
      dsimp only at this
      rw [this] at e;cases e)
  have hBm:Bm mg (vw s₁.heap H):=let ⟨bm,ob,b1,b2,b3,b4,b5,b6⟩:=hbm
   ⟨bm,ob,b1,b2,base_of b3 (noT b3 (fun _ _ z=>by rw [b6] at z;cases z) fun _ z=>by rw [b6] at z;cases z),b4,b5,b6⟩
  have hok':HOk P w H s₁.heap:=fun b u e=>by
   rcases cases3 e with ⟨z,zu⟩ | ⟨_,q',zu,z⟩
   ·subst z zu
    exact ⟨ha,by rw [af];exact hl,vs,_,rv,ha⟩
   ·subst zu
    exact ⟨#[],(ok1 _ z).1,trivial⟩
  have hM:Mod K mg (vw s₁.heap H):=⟨hKb,nsK hns,⟨mb,nsK hb,hbb⟩,let ⟨mc,h1,h2⟩:=hlim;⟨mc,nsK h1,h2⟩⟩
  have e0:C9 P w K mg (vw s₁.heap H) callerA [] s₁ H:=⟨rfl,hM,fun b o e=>yN e,mW (u0 _ _),trivial,fun b hb=>absurd (show b∈([]:List Addr) from hb) (by simp),hok',.of_eq hg⟩
  have tg:Tbs K H:=fun e he=>by rw [Hb (nea e he),(ok1 e he).2.2.2];rfl
  refine codeAny_mono ((F _ hKb (nsK hns) hBm (hPb _ fun b o e d1 d2=>base_of e (noT e d1 d2))).run callerA [] s₁ H ⟨[.ref a],[]⟩ [.ref a] [.ref a] (fun v H'=>v=.bl true/\bY H H') E0 hr e0 (hbind s₁ (.ref a)) (.cons rfl .nil)
   ⟨H,[.lst (ns.map Da.int)],.bl true,rfl,bY.refl _,tg,⟨_,_,rfl,⟨a,_,rfl,hS H Ha,bT.ints.mpr rfl⟩,rfl⟩,eq,fun v _ _ E d=>⟨d,E.hh⟩⟩) fun r s' h=>?_
  cases r with
  | error e=>exact False.elim h
  | ok fl =>
    cases fl with
    | next=>exact False.elim h
    | brk=>exact False.elim h
    | cont=>exact False.elim h
    | ret u =>
      obtain ⟨v,H',os,bare,un,hok2,r',q,sm⟩:=h
      subst q
      obtain rfl:u=Value.bool true:=r'
      have each:∀ b o,s₁.heap.get? b=some o->asItWas s₁.heap s'.heap b o/\∃ o',s'.heap.get? b=some o':=fun b o e=>by
       cases q:H b with
       | none=>have:=un.keep b o e q (by intro z;exact absurd (show b∈([]:List Addr) from z) (by simp)) (by simp);exact ⟨.inl this,o,this⟩
       | some u =>
         rcases cases3 q with ⟨z,zu⟩ | ⟨_,q',zu,z⟩
         ·subst zu
          have z2:=un.frzs b _ _ q
          obtain ⟨e1,_⟩:=hok' b _ q
          obtain ⟨e2,_⟩:=hok2 b _ z2
          rw [e] at e1;cases e1
          exact ⟨.inl e2,_,e2⟩
         ·subst zu
          obtain ⟨h1,_,⟨c,h3⟩,_⟩:=ok1 _ z
          dsimp only at h1 h3
          rw [e] at h1
          cases h1
          obtain ⟨ps,e2,_⟩:=hok2 b _ (sm _ _ q)
          exact ⟨.inr (.inl ⟨(h3.tab e).isCodeTable,rfl,#[],ps,rfl,by rw [Array.empty_append];exact e2⟩),_,e2⟩
      exact ⟨rfl,⟨fun b o e=>(each b o e).1,fun b o e=>(each b o e).2⟩,os,bare⟩
 cases hk:K.lookup a with
 | some o =>
   have e:=KX a o hk
   rw [ha] at e
   cases e
   exact core none (.inl rfl) (fun z=>absurd rfl z) fun H _=>.inr ⟨_,vs.toArray,_,hk,rfl,rfl,rfl,by rw [ao,lenV];exact hl,by simpa using rv⟩
 | none=>exact core _ (.inr rfl) (fun _=>hk) fun H e=>.inl (.inr ⟨_,e⟩)
end Ry
namespace Ry
open PySem PySem.Spec PyProof.Rows L2
noncomputable def gs:Hp->List Addr->(Hp->Prop)->Prop
 | H,[],k=>k H
 | H,l::ls,k=>∃ u,H l=some u/\lu u/\∀ o,gs (upd H l (.frz o u)) ls k
theorem nD {X:Cx} {pins:List (Addr×Obj)} {σ:St} {s:Shared} {k:Hp->Prop}:∀ (ls:List Addr) (H:Hp),Inv X pins σ H s->gs H ls k->∃ H',Inv X pins σ H' s/\k H'
 | [],H,I,h=>⟨H,I,h⟩
 | l::ls,H,I,h=>by
   obtain ⟨u,hl,hd,h⟩:=h
   obtain ⟨o,I'⟩:=yA I hl hd
   exact nD ls _ I' (h o)
theorem yM {X:Cx} {e:Expr} {te:TE} {pos:Pos} (he:PE X e te):PS X (.Return (some e) pos) (fun D σ H=>te σ H fun v H1=>∃ ls,gs H1 ls fun H2=>D.rt v H2):=by
 intro pins s σ H D I h
 refine thn (qx (pos:=pos) he pins s σ H { nx:=fun _ _=>False,rt:=fun v H1=>∃ ls,gs H1 ls fun H2=>D.rt v H2 } I h) fun fl s1 h1=>?_
 cases fl with
 | next=>obtain ⟨_,_,_,z⟩:=h1;exact z.elim
 | brk=>obtain ⟨_,_,_,z⟩:=h1;exact z.elim
 | cont=>obtain ⟨_,_,_,z⟩:=h1;exact z.elim
 | ret u =>
   obtain ⟨v,σ1,H1,I1,rv,ls,g⟩:=h1
   obtain ⟨H2,I2,q⟩:=nD ls H1 I1 g
   exact ⟨v,σ1,H2,I2,rv,q⟩
theorem nB {G0 H0:Hp} {k:Hp->Prop}:∀ (ls:List (Addr×HO)) (G H:Hp),Ext G0 H0 G H->(ls.map (·.1)).Nodup->(∀ e∈ls,H0 e.1=none/\G e.1=none/\H e.1=some e.2/\lu e.2) ->
 (∀ G' H',Ext G0 H0 G' H'->bY G G'->(∀ e∈ls,∃ o,G' e.1=some (.frz o e.2))->k H')->gs H (ls.map (·.1)) k
 | [],G,H,E,_,_,fin=>fin G H E (bY.refl _) (by simp)
 | (l,u)::ls,G,H,E,nd,h,fin=>by
   obtain ⟨h0,hg,hl,hd⟩:=h (l,u) (ax)
   dsimp only at h0 hg hl hd
   obtain ⟨n1,n2⟩:=aV.mp nd
   refine ⟨u,hl,hd,fun o=>?_⟩
   have E1:Ext G0 H0 (upd G l (.frz o u)) (upd H l (.frz o u)):=⟨fun b w z=>by rw [bf (bI z h0)];exact E.hh b w z,E.gg.trans (bB hg),iy E.gh,fun b w z t y=>by rw [bf (bI z h0)];exact E.nw b w z t y⟩
   refine nB ls _ _ E1 n2 (fun e he=>?_) fun G' H' E' s' hh=>fin G' H' E' ((bB hg).trans s') fun e he=>?_
   ·obtain ⟨a1,a2,a3,a4⟩:=h e (al _ he)
    have ne:e.1≠l:=fun z=>n1 (bn.mpr ⟨e,he,z⟩)
    exact ⟨a1,by rw [bf ne];exact a2,by rw [bf ne];exact a3,a4⟩
   ·rcases ah.mp he with z | z
    ·subst z;exact ⟨o,s' _ _ aS⟩
    ·exact hh e z
noncomputable def idc (l:List Int):List (Key×V):=l.map fun b=>(Sum.inl b,V.bl true)
noncomputable def ud:List Addr->UD->List (Key×V)
 | d::ds,(a,_)::D=>(Sum.inl a,V.ref d)::ud ds D
 | _,_=>[]
structure UR (H0 G H:Hp) (u:Addr) (ds:List Addr) (D:UD):Prop where
 ln:ds.length=D.length
 out:H u=some (.dK (ud ds D))
 inn:∀ (i:Nat) (e:Int×List Int) (d:Addr),D[i]?=some e->ds[i]?=some d->H d=some (.dK (idc e.2))
 nd:(u::ds).Nodup
 fr:∀ d∈u::ds,H0 d=none/\G d=none
theorem pM:∀ {ds:List Addr} {D:UD},ds.length=D.length->(ud ds D).map (·.1)=D.map fun e=>Sum.inl e.1
 | [],[],_=>rfl
 | d::ds,(a,l)::D,h=>by unfold ud;rw [aC,aC,pM (by simpa using h)]
theorem uj:∀ {ds:List Addr} {D:UD},ds.length=D.length->(ud ds D).map (·.2)=ds.map V.ref
 | [],[],_=>rfl
 | d::ds,(a,l)::D,h=>by unfold ud;rw [aC,aC,uj (by simpa using h)]
theorem B7 {ds:List Addr} {D:UD} (h:ds.length=D.length):(ud ds D).length=D.length:=by
 have:=congrArg gc (pM h)
 rw [af,af] at this
 exact this
theorem ug:∀ {ds:List Addr} {D:UD} (d:Addr) (a:Int) (l:List Int),ds.length=D.length->ud (ds++[d]) (D++[(a,l)])=ud ds D++[(Sum.inl a,V.ref d)]
 | [],[],_,_,_,_=>rfl
 | x::ds,(b,m)::D,d,a,l,h=>by
   show (Sum.inl b,V.ref x)::ud (ds++[d]) (D++[(a,l)])=_
   rw [ug d a l (by simpa using h)]
   rfl
theorem m5:∀ {ds:List Addr} {D:UD} {a:Int},ds.length=D.length->(a∉D.map (·.1)->kS (ud ds D) (Sum.inl a)=none)/\(a∈D.map (·.1)->∃ (i:Nat) (e:Int×List Int) (d:Addr),D[i]?=some e/\ds[i]?=some d/\e.1=a/\kS (ud ds D) (Sum.inl a)=some (.ref d))
 | [],[],a,_=>⟨fun _=>rfl,fun h=>by cases h⟩
 | d::ds,(b,l)::D,a,h=>by
   obtain ⟨i1,i2⟩:=m5 (ds:=ds) (D:=D) (a:=a) (by simpa using h)
   by_cases e:b=a
   ·subst e
    exact ⟨fun z=>absurd (by simp) z,fun _=>⟨0,(b,l),d,rfl,rfl,rfl,iJ (p:=(Sum.inl b,V.ref d)) rfl⟩⟩
   ·have ek:¬ (Sum.inl b:Key)=Sum.inl a:=fun z=>e (Sum.inl.inj z)
    have ev:kS (ud (d::ds) ((b,l)::D)) (Sum.inl a)=kS (ud ds D) (Sum.inl a):=iK (p:=(Sum.inl b,V.ref d)) ek
    refine ⟨fun z=>by rw [ev];exact i1 fun y=>z (by rw [aC];exact al _ y),fun z=>?_⟩
    rw [aC,ah] at z
    obtain ⟨i,e',d',h1,h2,h3,h4⟩:=i2 (z.resolve_left fun w=>e w.symm)
    exact ⟨i+1,e',d',by simpa using h1,by simpa using h2,h3,by rw [ev];exact h4⟩
theorem vW (l:List Int) (b:Int):ir (idc l) (Sum.inl b) (V.bl true)=idc (fB l b):=by
 unfold fB
 by_cases h:b∈l
 ·rw [if_pos h]
  unfold ir
  have ha:((idc l).any fun kv=>decide (kv.1=(Sum.inl b:Key)))=true:=by
   rw [dh]
   exact ⟨(Sum.inl b,V.bl true),bn.mpr ⟨b,h,rfl⟩,by simp⟩
  rw [if_pos ha]
  unfold idc
  rw [aT]
  refine eM fun x hx=>?_
  show (if (Sum.inl x:Key)=Sum.inl b then ((Sum.inl x:Key),V.bl true) else (Sum.inl x,V.bl true))=_
  split<;>rfl
 ·rw [if_neg h,qG]
  ·unfold idc;rw [cU];rfl
  ·unfold kS
   rw [Option.map_eq_none_iff,List.find?_eq_none]
   intro x hx
   obtain ⟨y,hy,rfl⟩:=bn.mp hx
   simp only [decide_eq_true_eq]
   exact fun z=>h (by rw [<- Sum.inl.inj z];exact hy)
theorem qF:∀ {D:UD} {a b:Int},a∉D.map (·.1)->fY (D++[(a,[])]) a b=fY D a b
 | [],a,b,_=>by
   show (if a=a then [(a,fB [] b)] else _)=[(a,[b])]
   rw [if_pos rfl];rfl
 | (x,l)::D,a,b,h=>by
   rw [aC,ah] at h
   show (if x=a then _ else (x,l)::fY (D++[(a,[])]) a b)=if x=a then _ else (x,l)::fY D a b
   rw [if_neg (fun z=>h (.inl z.symm)),if_neg (fun z=>h (.inl z.symm)),qF fun z=>h (.inr z)]
theorem iw:∀ {D:UD} {a b:Int} {i:Nat} {l:List Int},(D.map (·.1)).Nodup->D[i]?=some (a,l)->fY D a b=D.set i (a,fB l b)
 | [],_,_,_,_,_,h=>by simp at h
 | (x,m)::D,a,b,0,l,nd,h=>by
   simp at h
   obtain ⟨rfl,rfl⟩:=h
   show (if x=x then _ else _)=_
   rw [if_pos rfl];rfl
 | (x,m)::D,a,b,i+1,l,nd,h=>by
   rw [aC,aV] at nd
   have h':D[i]?=some (a,l):=by simpa using h
   have ne:x≠a:=fun z=>nd.1 (by rw [z];exact bn.mpr ⟨(a,l),aZ h',rfl⟩)
   show (if x=a then _ else (x,m)::fY D a b)=_
   rw [if_neg ne,iw nd.2 h']
   rfl
theorem wG {D:UD} {a:Int} {i:Nat} {l m:List Int} (h:D[i]?=some (a,l)):((D.set i (a,m)).map fun e=>e.1)=D.map (·.1):=by
 rw [List.map_set]
 apply dZ
 intro j
 rw [AH,af]
 by_cases e:i=j
 ·subst e
  have hl:=(aq.mp h).1
  rw [if_pos rfl,if_pos hl,av,h]
  rfl
 ·rw [if_neg e]
theorem Bq {ds:List Addr}:∀ {D:UD} {a:Int} {i:Nat} {l m:List Int},D[i]?=some (a,l)->ud ds (D.set i (a,m))=ud ds D:=by
 induction ds with
 | nil=>intro D a i l m h;cases D<;>cases i<;>rfl
 | cons d ds ih =>
   intro D a i l m h
   cases D with
   | nil=>simp at h
   | cons e D =>
     obtain ⟨x,y⟩:=e
     cases i with
     | zero=>simp at h;obtain ⟨rfl,rfl⟩:=h;rfl
     | succ i =>
       show (Sum.inl x,V.ref d)::ud ds (D.set i (a,m))=(Sum.inl x,V.ref d)::ud ds D
       rw [ih (by simpa using h)]
section
variable {H0 G H:Hp} {u:Addr} {ds:List Addr} {D:UD}
theorem UR.dne (h:UR H0 G H u ds D) {d:Addr} (hd:d∈ds):d≠u:=fun z=>(aV.mp h.nd).1 (by rw [<- z];exact hd)
theorem UR.snoc (h:UR H0 G H u ds D) {d:Addr} {a:Int} (hd:H d=none) (h0:H0 d=none) (hg:G d=none) (ha:a∉D.map (·.1)) :
 UR H0 G (upd (upd H d (.dK [])) u (.dK (ir (ud ds D) (Sum.inl a) (.ref d)))) u (ds++[d]) (D++[(a,[])]):=by
 have hdu:d≠u:=fun z=>by rw [z,h.out] at hd;cases hd
 have hds:d∉ds:=fun z=>by
  obtain ⟨i,hi,e⟩:=bq z
  have h1:i<D.length:=by rw [<- h.ln];exact hi
  have:=h.inn i D[i] d (ae h1) (by rw [ae hi,e])
  rw [hd] at this;cases this
 refine ⟨by simp [h.ln],?_,fun i e d' h1 h2=>?_,?_,fun x hx=>?_⟩
 ·rw [aS,qG _ ((m5 h.ln).1 ha),ug d a [] h.ln]
 ·by_cases hi:i<D.length
  ·rw [cc hi] at h1
   rw [cc (by rw [h.ln];exact hi)] at h2
   have hm:=aZ h2
   have:=h.inn i e d' h1 h2
   rw [bf (h.dne hm),bf (fun z=>hds (by rw [<- z];exact hm))]
   exact this
  ·rw [cD (by lia)] at h1
   rw [cD (by rw [h.ln];lia)] at h2
   have e0:i-D.length=0:=by
    have:=(aq.mp h1).1
    simp at this
    lia
   rw [e0] at h1
   rw [h.ln,e0] at h2
   have e1:(a,[])=e:=by simpa using h1
   have e2:d=d':=by simpa using h2
   subst e1 e2
   rw [bf hdu,aS]
   rfl
 ·have n:=aV.mp h.nd
  refine aV.mpr ⟨fun z=>?_,cx.mpr ⟨n.2,bj _ _,fun x hx y hy=>by rw [au] at hy;subst hy;intro z;subst z;exact hds hx⟩⟩
  rcases aE.mp z with z | z
  ·exact n.1 z
  ·rw [au] at z;exact hdu z.symm
 ·rcases ah.mp hx with z | z
  ·subst z;exact h.fr _ (ax)
  ·rcases aE.mp z with z | z
   ·exact h.fr x (al _ z)
   ·rw [au] at z;subst z;exact ⟨h0,hg⟩
theorem UR.put (h:UR H0 G H u ds D) {i:Nat} {a b:Int} {l:List Int} {d:Addr} (e:D[i]?=some (a,l)) (ed:ds[i]?=some d) :
 UR H0 G (upd H d (.dK (ir (idc l) (Sum.inl b) (V.bl true)))) u ds (D.set i (a,fB l b)):=by
 have hm:=aZ ed
 refine ⟨by rw [bx];exact h.ln,?_,fun j e' d' h1 h2=>?_,h.nd,h.fr⟩
 ·rw [bf (h.dne hm).symm,Bq e];exact h.out
 ·rw [vW]
  rw [AH] at h1
  by_cases hj:i=j
  ·subst hj
   have hl:=(aq.mp e).1
   rw [if_pos rfl,if_pos hl] at h1
   cases h1
   rw [ed] at h2
   cases h2
   exact aS
  ·rw [if_neg hj] at h1
   have hne:d'≠d:=fun z=>by
    subst z
    obtain ⟨l1,e1⟩:=aq.mp ed
    obtain ⟨l2,e2⟩:=aq.mp h2
    exact hj ((eI (aV.mp h.nd).2).mp (e1.trans e2.symm))
   rw [bf hne]
   exact h.inn j e' d' h1 h2
theorem UR.ext {G' H':Hp} (h:UR H0 G H u ds D) (e:Ext G H G' H') (hg:bY G H):UR H0 G' H' u ds D:=by
 refine ⟨h.ln,e.hh _ _ h.out,fun i x d a b=>e.hh _ _ (h.inn i x d a b),h.nd,fun d hd=>⟨(h.fr d hd).1,?_⟩⟩
 rcases ah.mp hd with z | z
 ·subst z;exact e.nw _ _ h.out rfl (h.fr _ hd).2
 ·obtain ⟨i,hi,ei⟩:=bq z
  have h1:i<D.length:=by rw [<- h.ln];exact hi
  exact e.nw _ _ (h.inn i D[i] d (ae h1) (by rw [ae hi,ei])) rfl (h.fr _ hd).2
end
end Ry
namespace Ry
open PySem PySem.Spec PyProof.Rows L2
theorem j8:∀ {ds:List Da} {T:List (Int×Int)},cC ds=some T->ds=T.map fun p=>Da.tup [.int p.1,.int p.2]
 | [],T,h=>by cases h;rfl
 | d::r,T,h=>by
   cases d with
   | tup xs =>
     match xs,h with
     | [.int a,.int b],h =>
       have h:(cC r).map ((a,b)::·)=some T:=h
       cases q:cC r with
       | none=>rw [q] at h;cases h
       | some T'=>rw [q] at h;cases h;rw [j8 q];rfl
     | [],h=>simp [cC] at h
     | [_],h=>simp [cC] at h
     | _::_::_::_,h=>simp [cC] at h
     | [.non,_],h=>simp [cC] at h
     | [.bl _,_],h=>simp [cC] at h
     | [.str _,_],h=>simp [cC] at h
     | [.tup _,_],h=>simp [cC] at h
     | [.lst _,_],h=>simp [cC] at h
     | [.dK _ _,_],h=>simp [cC] at h
     | [.dT _ _,_],h=>simp [cC] at h
     | [.int _,.non],h=>simp [cC] at h
     | [.int _,.bl _],h=>simp [cC] at h
     | [.int _,.str _],h=>simp [cC] at h
     | [.int _,.tup _],h=>simp [cC] at h
     | [.int _,.lst _],h=>simp [cC] at h
     | [.int _,.dK _ _],h=>simp [cC] at h
     | [.int _,.dT _ _],h=>simp [cC] at h
   | _=>simp [cC] at h
theorem DS {K:PySem.W.Frag} {G:Hp} {D:UD} {ds:List Addr} (hl:ds.length=D.length) (h:∀ (i:Nat) (e:Int×List Int) (d:Addr),D[i]?=some e->ds[i]?=some d->∃ o,G d=some (.frz o (.dK (idc e.2)))):bT K G (D.map fun e=>dD e.2) (ds.map V.ref):=by
 induction D generalizing ds with
 | nil =>
   cases ds with
   | nil=>rfl
   | cons _ _=>cases hl
 | cons e D ih =>
   cases ds with
   | nil=>cases hl
   | cons d ds =>
     obtain ⟨o,ho⟩:=h 0 e d rfl rfl
     refine ⟨_,_,rfl,?_,ih (by simpa using hl) fun i e' d' h1 h2=>h (i+1) e' d' (by simpa using h1) (by simpa using h2)⟩
     refine ⟨d,o,_,rfl,ho,?_,?_⟩
     ·unfold idc;rw [aT];rfl
     ·unfold idc
      rw [aT]
      have:∀ l:List Int,bT K G (l.map fun _=>Da.bl true) (l.map ((fun kv:Key×V=>kv.2)∘fun b=>(Sum.inl b,V.bl true))):=fun l=>by
       induction l with
       | nil=>rfl
       | cons a l ih=>exact ⟨_,_,rfl,rfl,ih⟩
      exact this e.2
theorem pj {K:PySem.W.Frag} {G H:Hp} {ds:List Da} {d:Da} {vs:List V} {Q:VK} {x0 x1 x2 x3:Str} (hl:ds.length=1) (sg:bY G H) (tg:Tbs K G) (dl:bT K G ds vs) (ef:fn_uppers_of ds=some d) (k:∀ v G' H',Ext G H G' H'->Den K G' d v->Q v H') :
 mR (yE sH (jr 1)) (mR (Ee (iX K (bJ (eU (aJ 0)))) (Eg K 2 (zG (jr 2) (zG (jr 3) Ep)))
  (mR (C2 (tB (ut (kF 2) (kF 1))) (wB (kF 1) (kF 2) sH) wx) (wB (yq (kF 1) (kF 2)) (kF 3) (tC (V.bl true)))))
  fun D σ H=>kF 1 σ H fun v H1=>∃ ls,gs H1 ls fun H2=>D.rt v H2) { nx:=fun _ H'=>Q V.non H',rt:=Q } (L2.start [x0,x1,x2,x3] vs) H:=by
 have hs:sizeLine=16777216:=sizeLine_eq
 match ds,hl with
 | [d0],_ =>
   obtain ⟨v0,r,ev,hd0,er⟩:=dl
   cases (show r=[] from er)
   subst ev
   obtain ⟨T,hT,hTl,hd,items⟩:∃ T:List (Int×Int),bJ (eU (aJ 0)) [.pu d0,.no,.no,.no]=some (T.map fun p=>Da.tup [.int p.1,.int p.2])/\T.length<=1000/\d=dU (upp T)/\True:=by
    cases d0 with
    | tup xs =>
      have ef:(match cC xs with | some T=>if T.length<=1000 then some (dU (upp T)) else none | none=>none)=some d:=ef
      split at ef
      ·rename_i T eT
       split at ef
       ·rename_i hT;cases ef;exact ⟨T,by rw [j8 eT];rfl,hT,rfl,trivial⟩
       ·cases ef
      ·cases ef
    | lst xs =>
      have ef:(match cC xs with | some T=>if T.length<=1000 then some (dU (upp T)) else none | none=>none)=some d:=ef
      split at ef
      ·rename_i T eT
       split at ef
       ·rename_i hT;cases ef;exact ⟨T,by rw [j8 eT];rfl,hT,rfl,trivial⟩
       ·cases ef
      ·cases ef
    | _=>cases ef
   show mR _ _ _ [some v0,none,none,none] H
   intro u hu
   show mR _ _ _ [some v0,some (.ref u),none,none] (upd H u (.dK []))
   have E0:Ext G H G (upd H u (.dK [])):=Ext.own sg hu
   have st0:fV K H G (upd H u (.dK [])) [some v0,some (.ref u),none,none] [.pu d0,.no,.no,.no]:=by
    refine ⟨rfl,fun i d e=>?_,fun i d e=>?_,fun i j d d' l _ e=>?_,tg⟩
    ·match i,e with
     | 0,e=>cases e;exact ⟨v0,rfl,hd0⟩
     | 1,e=>cases e
     | 2,e=>cases e
     | 3,e=>cases e
    ·match i,e with
     | 0,e=>cases e
     | 1,e=>cases e
     | 2,e=>cases e
     | 3,e=>cases e
    ·match i,e with
     | 0,e=>cases e
     | 1,e=>cases e
     | 2,e=>cases e
     | 3,e=>cases e
   refine ⟨H,G,_,_,E0.gh,bB hu,st0,hT,fun J G1 H1 E1 it=>?_⟩
   have E01:=E0.trans E1
   have G1u:G1 u=none:=E1.nw u _ aS rfl (sg.free hu)
   refine ⟨fun i m σ H'=>m=T.length-i/\i<=T.length/\∃ Gc dd s2 s3,σ=[some v0,some (.ref u),s2,s3]/\Ext G H Gc H'/\bY G1 Gc/\UR H Gc H' u dd ((T.take i).foldl (fun D p=>fY D p.1 p.2) [])/\(((T.take i).foldl (fun D p=>fY D p.1 p.2) []).map (·.1)).Nodup/\((T.take i).foldl (fun D p=>fY D p.1 p.2) []).length<=i/\∀ e∈(T.take i).foldl (fun D p=>fY D p.1 p.2) [],e.2.length<=i,
    ⟨T.length,by simp,aU _,G1,[],_,_,rfl,E01,bY.refl _,⟨rfl,E1.hh _ _ aS,by simp,by simp,fun d hd=>?_⟩,by simp,by simp,by simp⟩,?_⟩
   ·rw [au] at hd;subst hd;exact ⟨hu,G1u⟩
   rintro i m σ H' ⟨rfl,hi,Gc,dd,s2,s3,rfl,Ec,sc,ur,ndk,hlen,hin0⟩
   generalize hD:(T.take i).foldl (fun D p=>fY D p.1 p.2) []=D at ur ndk hlen hin0
   have lenM:(T.map fun p=>Da.tup [.int p.1,.int p.2]).length=T.length:=af _
   by_cases hlt:i<T.length
   ·
    obtain ⟨hgo,hy⟩:=(it i Gc H' sc Ec.gh).1 (Da.tup [.int T[i].1,.int T[i].2]) (by rw [av,ae hlt];rfl)
    have hDn:(T.take (i+1)).foldl (fun D p=>fY D p.1 p.2) []=fY D T[i].1 T[i].2:=by
     rw [List.take_succ_eq_append_getElem hlt,AI,hD];rfl
    refine .inr ⟨hgo,fun σ3 H3=>∃ Gc dd s2 s3,σ3=[some v0,some (.ref u),s2,s3]/\Ext G H Gc H3/\bY G1 Gc/\UR H Gc H3 u dd (fY D T[i].1 T[i].2)/\((fY D T[i].1 T[i].2).map (·.1)).Nodup/\(fY D T[i].1 T[i].2).length<=i+1/\∀ e∈fY D T[i].1 T[i].2,e.2.length<=i+1,fun σ3 H3 z=>⟨T.length-(i+1),by lia,rfl,hlt,?_⟩,fun x H2 yl=>?_⟩
    ·rw [hDn];exact z
    obtain ⟨G2,E2,dx⟩:=hy x H2 yl
    obtain ⟨t,xs,rfl,gt,dxs⟩:=dx
    have ex:xs=[.int T[i].1,.int T[i].2]:=by
     obtain ⟨x1,r1,e1,h1,x2,r2,e2,h2,e3⟩:=dxs
     cases (show x1=_ from h1)
     cases (show x2=_ from h2)
     cases (show r2=[] from e3)
     rw [e1,e2]
    subst ex
    generalize T[i].1=a at *
    generalize T[i].2=b at *
    have Ec2:=Ec.trans E2
    have ur2:=ur.ext E2 Ec.gh
    refine ⟨t,_,rfl,SqT.of (E2.gh _ _ gt),rfl,_,_,rfl,_,_,rfl,rfl,?_⟩
    show mR _ _ _ [some v0,some (.ref u),some (.int a),some (.int b)] H2
    have second:∀ (Gd:Hp) (H3:Hp) (de:List Addr) (D1:UD),Ext G H Gd H3->bY G1 Gd->UR H Gd H3 u de D1->(D1.map (·.1)).Nodup->a∈D1.map (·.1)->fY D1 a b=fY D a b->D1.length<=i+1->(∀ e∈D1,e.2.length<=i) ->
     wB (yq (kF 1) (kF 2)) (kF 3) (tC (V.bl true)) { nx:=fun σ3 H3=>∃ Gc dd s2 s3,σ3=[some v0,some (.ref u),s2,s3]/\Ext G H Gc H3/\bY G1 Gc/\UR H Gc H3 u dd (fY D a b)/\((fY D a b).map (·.1)).Nodup/\(fY D a b).length<=i+1/\∀ e∈fY D a b,e.2.length<=i+1,rt:=Q,bk:=fun σ H=>kF 1 σ H fun v H1=>∃ ls,gs H1 ls fun H2=>Q v H2,ct:=fun σ3 H3=>∃ Gc dd s2 s3,σ3=[some v0,some (.ref u),s2,s3]/\Ext G H Gc H3/\bY G1 Gc/\UR H Gc H3 u dd (fY D a b)/\((fY D a b).map (·.1)).Nodup/\(fY D a b).length<=i+1/\(∀ e∈fY D a b,e.2.length<=i+1) } [some v0,some (.ref u),some (.int a),some (.int b)] H3:=fun Gd H3 de D1 Ed sd ud1 ndk1 ha hadd hl1 hin1=>by
     obtain ⟨j,e,dj,e1,e2,e3,e4⟩:=(m5 (a:=a) ud1.ln).2 ha
     obtain ⟨x,l⟩:=e
     dsimp only at e3
     subst e3
     have hin:=ud1.inn j _ dj e1 e2
     have hmem:=al u (aZ e2)
     have hll:(idc l).length<sizeLine:=by
      have:=hin1 _ (aZ e1)
      unfold idc
      rw [af]
      dsimp only at this
      lia
     refine ⟨_,rfl,_,rfl,u,.ref dj,rfl,?_,_,rfl,dj,_,rfl,yT.k (k:=Sum.inl b) hin hll,Gd,de,_,_,rfl,Ed.mut (ud1.fr dj hmem).1 (ud1.fr dj hmem).2,sd,?_,?_,?_,?_⟩
     ·rw [<- e4];exact o5.k (k:=Sum.inl x) ud1.out
     ·rw [<- hadd,iw ndk1 e1];exact ud1.put e1 e2
     ·rw [<- hadd,iw ndk1 e1,wG e1];exact ndk1
     ·rw [<- hadd,iw ndk1 e1,bx];exact hl1
     ·rw [<- hadd,iw ndk1 e1]
      intro e he
      rcases List.mem_or_eq_of_mem_set he with z | z
      ·have:=hin1 e z;lia
      ·subst z
       have:=hin1 _ (aZ e1)
       show (fB l b).length<=i+1
       unfold fB
       split
       ·dsimp only at this;lia
       ·rw [aH,bF];dsimp only at this;lia
    refine ⟨_,rfl,_,rfl,u,_,rfl,o5.k (k:=Sum.inl a) ur2.out,_,rfl,?_⟩
    by_cases ha:a∈D.map (·.1)
    ·obtain ⟨j,e,dj,e1,e2,e3,e4⟩:=(m5 (a:=a) ur2.ln).2 ha
     rw [e4]
     refine Dv ?_
     exact second G2 H2 dd D Ec2 (sc.trans E2.gg) ur2 ndk ha rfl (by lia) hin0
    ·rw [(m5 (a:=a) ur2.ln).1 ha]
     refine CG ?_
     intro dn hdn
     have h0:H dn=none:=Ec2.hh.free hdn
     have hg2:G2 dn=none:=Ec2.gh.free hdn
     have ul:(ud dd D).length<sizeLine:=by rw [B7 ur2.ln];lia
     have hun:dn≠u:=fun z=>by rw [z,ur2.out] at hdn;cases hdn
     refine ⟨_,rfl,_,rfl,u,_,rfl,yT.k (k:=Sum.inl a) (by rw [bf hun.symm];exact ur2.out) ul,?_⟩
     have fu:=ur2.fr u (ax)
     refine second G2 _ (dd++[dn]) (D++[(a,[])]) ((Ec2.mut h0 hg2).mut fu.1 fu.2) (sc.trans E2.gg) (ur2.snoc hdn h0 hg2 ha) ?_ (by simp) (qF ha) (by rw [aH,bF];lia) ?_
     rotate_left
     ·intro e he
      rcases aE.mp he with z | z
      ·exact hin0 e z
      ·rw [au] at z;subst z;exact aU _
     rw [cU]
     exact cx.mpr ⟨ndk,bj _ _,fun y hy2 z hz=>by
      have hz':z=a:=by simpa using hz
      intro w
      rw [w,hz'] at hy2
      exact ha hy2⟩
   ·
    have ei:i=T.length:=by lia
    subst ei
    refine .inl ⟨(it T.length Gc H' sc Ec.gh).2 lenM,?_⟩
    rw [CU] at hD
    refine ⟨_,rfl,(dd++[u]),?_⟩
    have contents:∀ (j:Nat) (hj:j<dd.length),∃ e,D[j]?=some e/\H' dd[j]=some (.dK (idc e.2)):=fun j hj=>by
     have h1:j<D.length:=by rw [<- ur.ln];exact hj
     exact ⟨D[j],ae h1,ur.inn j D[j] dd[j] (ae h1) (ae hj)⟩
    have el:dd++[u]=(((dd.zip D).map fun e=>(e.1,HO.dK (idc e.2.2)))++[(u,HO.dK (ud dd D))]).map (·.1):=by
     rw [cU,aT]
     have:(dd.zip D).map ((fun x=>x.1)∘fun e:Addr×Int×List Int=>(e.1,HO.dK (idc e.2.2)))=dd:=by
      rw [show ((fun x:Addr×HO=>x.1)∘fun e:Addr×Int×List Int=>(e.1,HO.dK (idc e.2.2)))=Prod.fst from rfl]
      exact List.map_fst_zip (by rw [ur.ln];exact ag _)
     rw [this];rfl
    rw [el]
    refine nB (G0:=G) (H0:=H) _ Gc H' Ec ?_ (fun e he=>?_) fun G' H'' E' s' hh=>?_
    ·rw [<- el]
     have n:=aV.mp ur.nd
     exact cx.mpr ⟨n.2,bj _ _,fun x hx y hy=>by rw [au] at hy;subst hy;intro z;subst z;exact n.1 hx⟩
    ·rcases aE.mp he with z | z
     ·obtain ⟨⟨da,e'⟩,hz,rfl⟩:=bn.mp z
      obtain ⟨j,hj,ej⟩:=bq hz
      rw [CZ] at ej
      rw [Df] at hj
      cases ej
      have h1:j<dd.length:=by lia
      have h2:j<D.length:=by lia
      have f:=ur.fr dd[j] (al _ (fI h1))
      exact ⟨f.1,f.2,ur.inn j D[j] dd[j] (ae h2) (ae h1),.inl ⟨_,rfl⟩⟩
     ·rw [au] at z;subst z
      have f:=ur.fr u (ax)
      exact ⟨f.1,f.2,ur.out,.inl ⟨_,rfl⟩⟩
    ·refine k _ G' H'' E' ?_
     rw [hd]
     have hD':upp T=D:=hD
     rw [hD']
     obtain ⟨o,ho⟩:=hh (u,HO.dK (ud dd D)) (by simp)
     refine ⟨u,o,_,rfl,ho,pM ur.ln,?_⟩
     rw [uj ur.ln]
     refine DS ur.ln fun j e dj h1 h2=>?_
     have hmem:(dj,HO.dK (idc e.2))∈((dd.zip D).map fun e=>(e.1,HO.dK (idc e.2.2))):=by
      refine bn.mpr ⟨(dj,e),?_,rfl⟩
      obtain ⟨l1,q1⟩:=aq.mp h1
      obtain ⟨l2,q2⟩:=aq.mp h2
      have:(dd.zip D)[j]'(by rw [Df];lia)=(dj,e):=by rw [CZ,q1,q2]
      rw [<- this]
      exact fI _
     exact hh _ (cp _ hmem)
end Ry
namespace Ry
inductive GoI (N C B:Rho->Prop) (R:Da->Prop):Res->Prop where
 | nx {ρ:Rho}:N ρ->GoI N C B R (.nx ρ)
 | ct {ρ:Rho}:C ρ->GoI N C B R (.ct ρ)
 | bk {ρ:Rho}:B ρ->GoI N C B R (.bk ρ)
 | rt {d:Da}:R d->GoI N C B R (.rt d)
noncomputable abbrev Go (r:Res) (N C B:Rho->Prop) (R:Da->Prop):Prop:=GoI N C B R r
section
variable {N C B:Rho->Prop} {R:Da->Prop} {ρ:Rho} {g h:Rho->Res}
theorem Go.mono {r:Res} {N' C' B':Rho->Prop} {R':Da->Prop} (q:Go r N C B R) (n:∀ ρ,N ρ->N' ρ) (c:∀ ρ,C ρ->C' ρ) (b:∀ ρ,B ρ->B' ρ) (r':∀ d,R d->R' d):Go r N' C' B' R':=by
 cases q with
 | nx q=>exact .nx (n _ q)
 | ct q=>exact .ct (c _ q)
 | bk q=>exact .bk (b _ q)
 | rt q=>exact .rt (r' _ q)
theorem cH (q:Go (g ρ) (fun ρ'=>Go (h ρ') N C B R) C B R):Go (e8 g h ρ) N C B R:=by
 unfold e8
 generalize g ρ=r at q
 cases q with
 | nx q=>exact q
 | ct q=>exact .ct q
 | bk q=>exact .bk q
 | rt q=>exact .rt q
theorem eE {ρ':Rho} (e:g ρ=.nx ρ') (q:N ρ'):Go (g ρ) N C B R:=by rw [e];exact .nx q
theorem p7 {d:Da} (e:g ρ=.rt d) (q:R d):Go (g ρ) N C B R:=by rw [e];exact .rt q
theorem m8 {t:Rho->Option Bool} {b:Bool} (e:t ρ=some b) (q1:b=true->Go (g ρ) N C B R) (q2:b=false->Go (h ρ) N C B R):Go (sIf t g h ρ) N C B R:=by
 unfold sIf
 cases b with
 | true=>rw [e];exact q1 rfl
 | false=>rw [e];exact q2 rfl
theorem uo {α:Type} (enc:α->Da) {t:Da->Rho->Option Rho} (I:List α->Rho->Prop):∀ (post pre:List α) (ρ:Rho),I pre ρ ->
 (∀ pre' x post' ρ,pre++post=pre'++x::post'->I pre' ρ->∃ ρ1,t (enc x) ρ=some ρ1/\Go (g ρ1) (I (pre'++[x])) (I (pre'++[x])) N R)->(∀ ρ,I (pre++post) ρ->N ρ)->Go (vt t g (post.map enc) ρ) N C B R
 | [],pre,ρ,i,_,fin=>.nx (fin ρ (by rw [bH];exact i))
 | x::post,pre,ρ,i,step,fin=>by
   obtain ⟨ρ1,e1,q⟩:=step pre x post ρ rfl i
   show Go (match t (enc x) ρ with | none=>.bad | some ρ1=>match g ρ1 with | .nx ρ2=>vt t g (post.map enc) ρ2 | .ct ρ2=>vt t g (post.map enc) ρ2 | .bk ρ2=>.nx ρ2 | .rt d=>.rt d | .bad=>.bad) N C B R
   rw [e1]
   dsimp only
   have again:∀ ρ2,I (pre++[x]) ρ2->Go (vt t g (post.map enc) ρ2) N C B R:=fun ρ2 i2 =>
    uo enc I post (pre++[x]) ρ2 i2 (fun pre' y post' ρ e=>step pre' y post' ρ (by rw [<- e];simp)) (fun ρ i=>fin ρ (by simpa using i))
   generalize g ρ1=r at q
   cases q with
   | nx q=>exact again _ q
   | ct q=>exact again _ q
   | bk q=>exact .nx q
   | rt q=>exact .rt q
theorem hZ {α:Type} {enc:α->Da} {t:Da->Rho->Option Rho} {f:Rho->Option (List Da)} (I:List α->Rho->Prop) {xs:List α} (e:f ρ=some (xs.map enc)) (i0:I [] ρ)
 (step:∀ pre x post ρ,xs=pre++x::post->I pre ρ->∃ ρ1,t (enc x) ρ=some ρ1/\Go (g ρ1) (I (pre++[x])) (I (pre++[x])) N R) (fin:∀ ρ,I xs ρ->N ρ):Go (lf f t g ρ) N C B R:=by
 unfold lf
 rw [e]
 exact uo enc I xs [] ρ i0 (fun pre x post ρ e=>step pre x post ρ e) fin
theorem p8 {n:Nat} {ds:List Da} {P:Da->Prop} (q:Go (g (cG n ds)) (fun _=>P .non) (fun _=>False) (fun _=>False) P):∃ d,iq n g ds=some d/\P d:=by
 unfold iq
 generalize g (cG n ds)=r at q
 cases q with
 | nx q=>exact ⟨_,rfl,q⟩
 | ct q=>exact q.elim
 | bk q=>exact q.elim
 | rt q=>exact ⟨_,rfl,q⟩
theorem sU {n:Nat} {ds:List Da} {d:Da} (q:Go (g (cG n ds)) (fun _=>False) (fun _=>False) (fun _=>False) (fun d'=>d'=d)):iq n g ds=some d:=by
 obtain ⟨d',e,h⟩:=p8 (P:=fun d'=>d'=d) (q.mono (fun _ z=>z.elim) (fun _ z=>z) (fun _ z=>z) fun _ z=>z)
 rw [e,h]
end
section
variable {α:Type} {enc:α->Da} {c:Rho->Option Bool} {f:Rho->Option Rv} {p:α->Bool} {e:α->Da}
theorem mC {t:Da->Rho->Option Rho} (I:Rho->Prop):∀ (xs:List α) (ρ:Rho),I ρ->(∀ x∈xs,∀ ρ,I ρ->∃ ρ1,t (enc x) ρ=some ρ1/\I ρ1/\c ρ1=some (p x)/\(p x=true->∃ r,f ρ1=some r/\cX r=true/\r.2=e x)) ->
 kz t c f (xs.map enc) ρ=some ((xs.filter p).map e)
 | [],_,_,_=>rfl
 | x::xs,ρ,i,h=>by
   obtain ⟨ρ1,e1,i1,ec,ef⟩:=h x (ax) ρ i
   have ih:=mC (t:=t) I xs ρ1 i1 fun y hy=>h y (al _ hy)
   show (match t (enc x) ρ with
    | none=>none
    | some ρ1=>match c ρ1 with
      | none=>none
      | some false=>kz t c f (xs.map enc) ρ1
      | some true=>match f ρ1 with
        | none=>none
        | some r=>if cX r=true then (match kz t c f (xs.map enc) ρ1 with
          | none=>none
          | some es=>some (r.2::es)) else none)=_
   rw [e1]
   dsimp only
   rw [ec]
   cases hp:p x with
   | false=>dsimp only;rw [ih,List.filter_cons_of_neg (by rw [hp];exact am)]
   | true =>
     dsimp only
     obtain ⟨r,er,pr,e2⟩:=ef hp
     rw [er]
     dsimp only
     rw [if_pos pr,ih,List.filter_cons_of_pos hp,aC,e2]
theorem uV {i:Nat} {ρ:Rho} {xs:List α} (h:∀ x∈xs,c (ρ.set i (.pu (enc x)))=some (p x)/\(p x=true->∃ r,f (ρ.set i (.pu (enc x)))=some r/\cX r=true/\r.2=e x)):kz (tgN i) c f (xs.map enc) ρ=some ((xs.filter p).map e):=by
 refine mC (fun ρ'=>∀ d,ρ'.set i (.pu d)=ρ.set i (.pu d)) xs ρ (fun _=>rfl) fun x hx ρ' i'=>⟨ρ'.set i (.pu (enc x)),rfl,fun d=>?_,?_⟩
 ·rw [vD,i']
 ·rw [i'];exact h x hx
theorem vK {i j:Nat} {ρ:Rho} {xs:List α} {a b:α->Da} (h:∀ x∈xs,c ((ρ.set i (.pu (a x))).set j (.pu (b x)))=some (p x)/\(p x=true->∃ r,f ((ρ.set i (.pu (a x))).set j (.pu (b x)))=some r/\cX r=true/\r.2=e x)) (hij:i≠j) (henc:∀ x,enc x=.tup [a x,b x]) :
 kz (tgT 2 (d6 (tgN i) (d6 (tgN j) ju))) c f (xs.map enc) ρ=some ((xs.filter p).map e):=by
 refine mC (fun ρ'=>∀ d d',(ρ'.set i (.pu d)).set j (.pu d')=(ρ.set i (.pu d)).set j (.pu d')) xs ρ (fun _ _=>rfl) fun x hx ρ' i'=>⟨(ρ'.set i (.pu (a x))).set j (.pu (b x)),?_,fun d d'=>?_,?_⟩
 ·rw [henc];simp [tgT,d6,tgN,ju]
 ·have e:((ρ'.set i (.pu (a x))).set j (.pu (b x))).set i (.pu d)=(ρ'.set i (.pu d)).set j (.pu (b x)):=by rw [Eu _ _ hij,vD];exact Eu _ _ (Ne.symm hij)
  rw [e,vD,i']
 ·rw [i'];exact h x hx
end
end Ry
namespace Ry
open L2
noncomputable abbrev PI:=Int×Int
noncomputable def dP (p:PI):Da:=.tup [.int p.1,.int p.2]
noncomputable def kP (p:PI):List Key:=[.inl p.1,.inl p.2]
noncomputable def dY (n:Int) (L:List PI):Da:=.tup [.int n,.tup (L.map dP)]
theorem tY {p q:PI} (h:kP p=kP q):p=q:=by
 unfold kP at h
 injection h with h1 h2
 injection h2 with h2 _
 exact Prod.ext (Sum.inl.inj h1) (Sum.inl.inj h2)
theorem uC (p:PI):ky [.int p.1,.int p.2]=some (kP p):=rfl
theorem eR:∀ ns:List Int,eQ (ns.map Da.int)=some ns
 | []=>rfl
 | n::ns=>by show (eQ (ns.map Da.int)).map (n::·)=_;rw [eR ns];rfl
theorem uP:∀ S:List PI,ot (S.map dP)=some (S.map fun p=>[p.1,p.2])
 | []=>rfl
 | p::S=>by
   show (match eQ [Da.int p.1,Da.int p.2],ot (S.map dP) with | some ns,some ts=>some (ns::ts) | _,_=>none)=_
   rw [uP S];rfl
theorem Ae (p q:PI):HT.lexLt [p.1,p.2] [q.1,q.2]=Ms.ltP p q:=by
 unfold HT.lexLt Ms.ltP
 split
 ·unfold HT.lexLt
  split
  ·rename_i h;simp [HT.lexLt,h]
  ·rfl
 ·rfl
theorem rL {ns:List Int} (h:ns.length<64):iT (ns.map Da.int)=some ((Ms.srt Ms.ltI ns).map Da.int):=by
 unfold iT
 rw [eR]
 dsimp only
 rw [if_pos h]
theorem DC {S:List PI} (h:OkN S):OkN (S.map fun p:PI=>[p.1,p.2]):=by
 unfold OkN at *
 rw [af]
 refine h.imp id fun ⟨a,b⟩=>⟨a,?_⟩
 rw [List.nodup_iff_pairwise_ne] at *
 rw [cy]
 exact b.imp fun {x y} n e=>n (by injection e with e1 e2;injection e2 with e2 _;exact Prod.ext e1 e2)
theorem nJ {S:List PI} (h:OkN S):iT (S.map dP)=some ((Ms.srt Ms.ltP S).map dP):=by
 cases S with
 | nil=>rfl
 | cons p S =>
   unfold iT
   have e:eQ (oP dP (p::S))=none:=rfl
   rw [e]
   dsimp only
   rw [uP]
   dsimp only
   rw [if_pos ⟨DC h,by simp⟩,Ms.srt_map (lt:=Ms.ltP) (fun a b=>Ae a b),aT]
   rfl
noncomputable def dS (S:List PI):Da:=.dT (S.map kP) (S.map fun _=>.bl true)
noncomputable def pR (S:List PI) (p:PI):List PI:=if p∈S then S else S++[p]
theorem lN {S:List PI} {p q:PI}:q∈pR S p↔q∈S\/q=p:=by
 unfold pR
 split
 ·constructor
  ·exact .inl
  ·rintro (h | h)
   ·exact h
   ·subst h;assumption
 ·rw [aE,au]
theorem kK {S:List PI} {p:PI} (h:S.Nodup):(pR S p).Nodup:=by
 unfold pR
 split
 ·exact h
 ·rename_i hn
  exact cx.mpr ⟨h,bj _ _,fun a ha b hb=>by rw [au] at hb;subst hb;intro z;subst z;exact hn ha⟩
theorem vI {S:List PI}:(S.map kP).Nodup↔S.Nodup:=by
 constructor
 ·intro h
  exact List.Pairwise.imp (fun {a b} z w=>z (by rw [w])) (cy.mp h)
 ·intro h
  exact cy.mpr (h.imp fun {a b} z w=>z (tY w))
theorem Cd:∀ (S:List PI) (p:PI),atK (S.map kP) (S.map fun _=>Da.bl true) (kP p)=if p∈S then some (.bl true) else none
 | [],p=>by simp [atK]
 | q::S,p=>by
   show (if kP q=kP p then some (Da.bl true) else atK (S.map kP) (S.map fun _=>Da.bl true) (kP p))=_
   by_cases h:kP q=kP p
   ·rw [if_pos h,if_pos (by rw [tY h];exact ax)]
   ·rw [if_neg h,Cd S p]
    have hne:p≠q:=fun z=>h (by rw [z])
    by_cases hp:p∈S
    ·rw [if_pos hp,if_pos (al _ hp)]
    ·rw [if_neg hp,if_neg (fun z=>(ah.mp z).elim hne hp)]
theorem zE (S:List PI) (p:PI):kC (dS S) (dP p)=some (if p∈S then some (.bl true) else none):=by
 show (match ky [Da.int p.1,Da.int p.2] with | some j=>some (atK (S.map kP) (S.map fun _=>Da.bl true) j) | none=>none)=_
 rw [uC]
 dsimp only
 rw [Cd]
theorem zW:∀ (S:List PI) (p:PI),cF (S.map kP) (kP p)=(pR S p).map kP/\eB (S.map kP) (S.map fun _=>Da.bl true) (kP p) (.bl true)=(pR S p).map fun _=>Da.bl true
 | [],p=>⟨rfl,rfl⟩
 | q::S,p=>by
   have ih:=zW S p
   by_cases h:kP q=kP p
   ·have e:=tY h
    subst e
    have ea:pR (q::S) q=q::S:=by unfold pR;rw [if_pos ax]
    rw [ea]
    constructor
    ·show (if kP q=kP q then _ else _)=_;rw [if_pos rfl];rfl
    ·show (if kP q=kP q then _ else _)=_;rw [if_pos rfl];rfl
   ·have hne:p≠q:=fun z=>h (by rw [z])
    have ea:pR (q::S) p=q::pR S p:=by
     unfold pR
     by_cases hp:p∈S
     ·rw [if_pos hp,if_pos (al _ hp)]
     ·rw [if_neg hp,if_neg (fun z=>(ah.mp z).elim hne hp)];rfl
    rw [ea]
    constructor
    ·show (if kP q=kP p then _ else kP q::cF (S.map kP) (kP p))=_;rw [if_neg h,ih.1];rfl
    ·show (if kP q=kP p then _ else Da.bl true::eB (S.map kP) (S.map fun _=>Da.bl true) (kP p) (.bl true))=_;rw [if_neg h,ih.2];rfl
theorem xM {S:List PI} (p:PI) (nd:S.Nodup) (hl:S.length<=1000000):AN (dS S) (dP p) (.bl true)=some (dS (pR S p)):=by
 show (match ky [Da.int p.1,Da.int p.2] with | some j=>if (S.map kP).Nodup/\(S.map kP).length<=1000000 then some (Da.dT (cF (S.map kP) j) (eB (S.map kP) (S.map fun _=>Da.bl true) j (.bl true))) else none | none=>none)=_
 rw [uC]
 dsimp only
 rw [if_pos ⟨vI.mpr nd,by rw [af];exact hl⟩,(zW S p).1,(zW S p).2]
 rfl
noncomputable def rgI (lo:Int):Nat->List Int
 | 0=>[]
 | n+1=>lo::rgI (lo+1) n
theorem eD:∀ (n:Nat) (lo:Int),d8 lo n=(rgI lo n).map Da.int
 | 0,_=>rfl
 | n+1,lo=>by show Da.int lo::d8 (lo+1) n=_;rw [eD n];rfl
theorem dg:∀ {n:Nat} {lo x:Int},x∈rgI lo n↔lo<=x/\x<lo+n
 | 0,lo,x=>by unfold rgI;constructor;intro h;cases h;intro h;exfalso;lia
 | n+1,lo,x=>by unfold rgI;rw [ah,dg];lia
theorem fH:∀ (n:Nat) (lo:Int),(rgI lo n).length=n
 | 0,_=>rfl
 | n+1,lo=>by unfold rgI;rw [aA,fH n]
theorem j0:∀ (n:Nat) (lo:Int),(rgI lo n).Pairwise fun a b=>Ms.ltI a b=true
 | 0,_=>.nil
 | n+1,lo=>aN.mpr ⟨fun x hx=>by have:=dg.mp hx;simp only [Ms.ltI,decide_eq_true_eq];lia,j0 n _⟩
structure Yd (n:Int) (L:List PI):Prop where
 srt:L.Pairwise fun p q=>Ms.ltP p q=true
 rg:∀ p∈L,(0<=p.1/\p.1<n)/\0<=p.2/\p.2<n
 irr:∀ a,(a,a)∉L
 tr:∀ a b c,(a,b)∈L->(b,c)∈L->(a,c)∈L
theorem Yd.nd {n:Int} {L:List PI} (h:Yd n L):L.Nodup:=h.srt.imp fun {a b} z w=>by subst w;rw [Ms.linP.irr] at z;cases z
end Ry
set_option linter.unusedSimpArgs false
namespace Ry
open PySem L2
@[simp] theorem fU (i:Nat) (ρ:Rho):aJ i ρ=( match ρ[i]? with
  | some (.pu d)=>some (.pu,d)
  | some (.ow d)=>some (.bo,d)
  | _=>none:Option Rv):=rfl
@[simp] theorem vE (d:Da) (ρ:Rho):xC d ρ=( some (.pu,d):Option Rv):=rfl
@[simp] theorem zz (r:Rv) (ρ:Rho):xC2 r ρ=( some r:Option Rv):=rfl
@[simp] theorem mH (op:Rv->Rv->Option Rv) (fa fb:Rho->Option Rv) (ρ:Rho):x2 op fa fb ρ=( match fa ρ with
  | none=>none
  | some a=>match fb ρ with
    | none=>none
    | some b=>op a b:Option Rv):=rfl
@[simp] theorem oQ (f:List Rv->Option Rv) (g:Rho->Option (List Rv)) (ρ:Rho):xB f g ρ=( match g ρ with
  | none=>none
  | some rs=>f rs:Option Rv):=rfl
@[simp] theorem cb (f:Rho->Option Rv) (g:Rho->Option (List Rv)) (ρ:Rho):aB f g ρ=( match f ρ with
  | none=>none
  | some r=>match g ρ with
    | none=>none
    | some rs=>some (r::rs):Option (List Rv)):=rfl
@[simp] theorem cQ (ρ:Rho):bO ρ=( some []:Option (List Rv)):=rfl
@[simp] theorem uv (g:Rho->Option (List Rv)) (ρ:Rho):pE g ρ=( match g ρ with
  | none=>none
  | some rs=>match gG rs with
    | none=>none
    | some ds=>if ds.length<=1000 then some (.pu,.tup ds) else none:Option Rv):=rfl
@[simp] theorem xLst_s (g:Rho->Option (List Rv)) (ρ:Rho):AB g ρ=( match g ρ with
  | none=>none
  | some rs=>match gG rs with
    | none=>none
    | some ds=>if ds.length<=1000 then some (.fr,.lst ds) else none:Option Rv):=rfl
@[simp] theorem xNeg_s (f:Rho->Option Rv) (ρ:Rho):EV f ρ=( match f ρ with
  | some (_,.int i)=>some (.pu,.int (-i))
  | _=>none:Option Rv):=rfl
@[simp] theorem xNot_s (fa:Rho->Option Rv) (ρ:Rho):BZ fa ρ=( match fa ρ with
  | some (_,.bl b)=>some (.pu,.bl (!b))
  | _=>none:Option Rv):=rfl
@[simp] theorem Cb (fa fb:Rho->Option Rv) (ρ:Rho):zi fa fb ρ=( match fa ρ with
  | some (_,.bl true)=>fb ρ
  | some (_,.bl false)=>some (.pu,.bl false)
  | _=>none:Option Rv):=rfl
@[simp] theorem xOr_s (fa fb:Rho->Option Rv) (ρ:Rho):xOr fa fb ρ=( match fa ρ with
  | some (_,.bl true)=>some (.pu,.bl true)
  | some (_,.bl false)=>fb ρ
  | _=>none:Option Rv):=rfl
@[simp] theorem xIf_s (t:Rho->Option Bool) (fa fb:Rho->Option Rv) (ρ:Rho):xIf t fa fb ρ=( match t ρ with
  | some true=>fa ρ
  | some false=>fb ρ
  | none=>none:Option Rv):=rfl
@[simp] theorem zA (fn:List Da->Option Da) (g:Rho->Option (List Rv)) (ρ:Rho):bU fn g ρ=( match g ρ with
  | none=>none
  | some rs=>match gG rs with
    | none=>none
    | some ds=>match fn ds with
      | none=>none
      | some d=>some (.pu,d):Option Rv):=rfl
@[simp] theorem vq (f:Rho->Option Rv) (ρ:Rho):tb f ρ=( match f ρ with
  | some (_,.bl b)=>some b
  | _=>none:Option Bool):=rfl
@[simp] theorem uJ (f:Rho->Option Rv) (ρ:Rho):tTr f ρ=( match f ρ with
  | some r=>trD r.2
  | none=>none:Option Bool):=rfl
@[simp] theorem lM (ta:Rho->Option Bool) (ρ:Rho):ij ta ρ=( (ta ρ).map (!·):Option Bool):=rfl
@[simp] theorem t9 (ta tc:Rho->Option Bool) (ρ:Rho):iP ta tc ρ=( match ta ρ with
  | some true=>tc ρ
  | some false=>some false
  | none=>none:Option Bool):=rfl
@[simp] theorem xx (ta tc:Rho->Option Bool) (ρ:Rho):wH ta tc ρ=( match ta ρ with
  | some true=>some true
  | some false=>tc ρ
  | none=>none:Option Bool):=rfl
@[simp] theorem jQ (i:Nat) (f:Rho->Option Rv) (ρ:Rho):kj i f ρ=( match f ρ with
  | some r=>if cX r=true then .nx (ρ.set i (.pu r.2)) else .bad
  | none=>.bad:Res):=rfl
@[simp] theorem sOwn_s (i:Nat) (f:Rho->Option Rv) (ρ:Rho):xy i f ρ=( match f ρ with
  | some (.fr,d)=>.nx (ρ.set i (.ow d))
  | _=>.bad:Res):=rfl
@[simp] theorem gi (f:Rho->Option Rv) (ρ:Rho):dN f ρ=( match f ρ with
  | some r=>.rt r.2
  | none=>.bad:Res):=rfl
@[simp] theorem sRet_s (f:Rho->Option Rv) (ρ:Rho):Ey f ρ=( match f ρ with
  | some r=>if r.1=.pu\/km r.2=false then .rt r.2 else .bad
  | none=>.bad:Res):=rfl
@[simp] theorem xv (g h:Rho->Res) (ρ:Rho):e8 g h ρ=( match g ρ with
  | .nx ρ'=>h ρ'
  | r=>r:Res):=rfl
@[simp] theorem sNext_s (ρ:Rho):gA ρ=( .nx ρ:Res):=rfl
@[simp] theorem Dx (t:Rho->Option Bool) (g h:Rho->Res) (ρ:Rho):sIf t g h ρ=( match t ρ with
  | some true=>g ρ
  | some false=>h ρ
  | none=>.bad:Res):=rfl
@[simp] theorem nK (i:Nat) (f:Rho->Option Rv) (ρ:Rho):iY i f ρ=( match ρ[i]?,f ρ with
  | some (.ow (.lst ds)),some r=>if cX r=true/\ds.length<=1000000 then .nx (ρ.set i (.ow (.lst (ds++[r.2])))) else .bad
  | _,_=>.bad:Res):=rfl
@[simp] theorem sPop_s (i j:Nat) (ρ:Rho):EH i j ρ=( match ρ[i]? with
  | some (.ow (.lst ds))=>match ds.getLast? with
    | some d=>.nx ((ρ.set i (.ow (.lst ds.dropLast))).set j (.pu d))
    | none=>.bad
  | _=>.bad:Res):=rfl
@[simp] theorem xJ (i:Nat) (fk fv:Rho->Option Rv) (ρ:Rho):yu i fk fv ρ=( match ρ[i]?,fk ρ,fv ρ with
  | some (.ow d),some k,some v=>if cX v=true then (match AN d k.2 v.2 with
    | some d'=>.nx (ρ.set i (.ow d'))
    | none=>.bad) else .bad
  | _,_,_=>.bad:Res):=rfl
@[simp] theorem sExtend_s (i:Nat) (f:Rho->Option Rv) (ρ:Rho):Ah i f ρ=( match ρ[i]?,f ρ with
  | some (.ow (.lst ds)),some (.fr,.lst es)=>if ds.length+es.length<=1000000 then .nx (ρ.set i (.ow (.lst (ds++es)))) else .bad
  | _,_=>.bad:Res):=rfl
@[simp] theorem sAsg_s (f:Rho->Option Rv) (t:Da->Rho->Option Rho) (ρ:Rho):EJ f t ρ=( match f ρ with
  | some r=>if cX r=true then (match t r.2 ρ with
    | some ρ'=>.nx ρ'
    | none=>.bad) else .bad
  | none=>.bad:Res):=rfl
@[simp] theorem sDrop_s (f:Rho->Option Rv) (ρ:Rho):DT f ρ=( match f ρ with
  | some _=>.nx ρ
  | none=>.bad:Res):=rfl
@[simp] theorem uM (f:Rho->Option Rv) (ρ:Rho):eU f ρ=( match f ρ with
  | some (.fr,d)=>some (.pu,d)
  | r=>r:Option Rv):=rfl
@[simp] theorem xSlice_s (fa:Rho->Option Rv) (fl fh:Rho->Option (Option Int)) (ρ:Rho):hJ fa fl fh ρ=( match fa ρ,fl ρ,fh ρ with
  | some r,some l,some h=>slD l h r.2
  | _,_,_=>none:Option Rv):=rfl
@[simp] theorem oNone_s (ρ:Rho):qY ρ=( some none:Option (Option Int)):=rfl
@[simp] theorem oSome_s (f:Rho->Option Rv) (ρ:Rho):iV f ρ=( match f ρ with
  | some (_,.int i)=>some (some i)
  | _=>none:Option (Option Int)):=rfl
@[simp] theorem xIsInst_s (i:Da->Option Bool) (f:Rho->Option Rv) (ρ:Rho):gq i f ρ=( match f ρ with
  | some r=>match i r.2 with
    | some b=>some (.pu,.bl b)
    | none=>none
  | none=>none:Option Rv):=rfl
@[simp] theorem xChain_s (op op':Rv->Rv->Option Rv) (fa fb fc:Rho->Option Rv) (ρ:Rho):nr op op' fa fb fc ρ=( match fa ρ,fb ρ with
  | some a,some b=>match op a b with
    | some (_,.bl true)=>match fc ρ with
      | some c=>op' b c
      | none=>none
    | some (_,.bl false)=>some (.pu,.bl false)
    | _=>none
  | _,_=>none:Option Rv):=rfl
@[simp] theorem oY (fd fk fx:Rho->Option Rv) (ρ:Rho):g6 fd fk fx ρ=( match fd ρ,fk ρ,fx ρ with
  | some d,some k,some x=>match kC d.2 k.2 with
    | some (some e)=>some (.pu,e)
    | some none=>some x
    | none=>none
  | _,_,_=>none:Option Rv):=rfl
@[simp] theorem lD (f:Rho->Option Rv) (ρ:Rho):bJ f ρ=( match f ρ with
  | some (.pu,.lst ds)=>some ds
  | some (.pu,.tup ds)=>some ds
  | some (.pu,.dK ks _)=>some (ks.map fW)
  | _=>none:Option (List Da)):=rfl
@[simp] theorem qD (f:Rho->Option (List Rv)) (ρ:Rho):mQ f ρ=( match f ρ with
  | some [(_,.int j)]=>if -(2 ^ 62)<=j/\j<2 ^ 62 then some (d8 0 j.toNat) else none
  | _=>none:Option (List Da)):=rfl
@[simp] theorem Cz (f:Rho->Option (List Rv)) (ρ:Rho):Ax f ρ=( match f ρ with
  | some [(_,.int i),(_,.int j)]=>if -(2 ^ 62)<=i/\i<2 ^ 62/\-(2 ^ 62)<=j/\j<2 ^ 62 then some (d8 i (j-i).toNat) else none
  | _=>none:Option (List Da)):=rfl
@[simp] theorem tgN_s (i:Nat) (d:Da) (ρ:Rho):tgN i d ρ=( some (ρ.set i (.pu d)):Option Rho):=rfl
@[simp] theorem tgT_s (n:Nat) (t:List Da->Rho->Option Rho) (ds:List Da) (ρ:Rho):tgT n t (.tup ds) ρ=if ds.length=n then t ds ρ else none:=rfl
@[simp] theorem tgCons_s (t:Da->Rho->Option Rho) (u:List Da->Rho->Option Rho) (d:Da) (ds:List Da) (ρ:Rho):d6 t u (d::ds) ρ=(match t d ρ with | some ρ'=>u ds ρ' | none=>none):=rfl
@[simp] theorem tgNil_s (ρ:Rho):ju [] ρ=some ρ:=rfl
@[simp] theorem gr:gG []=some []:=rfl
@[simp] theorem fF (r:Rv) (rs:List Rv):gG (r::rs)=if cX r=true then (gG rs).map (r.2::·) else none:=rfl
@[simp] theorem iM (d:Da):cX (.pu,d)=true:=rfl
@[simp] theorem tN (d:Da):cX (.fr,d) = !km d:=rfl
@[simp] theorem wW (d:List Da):km (.lst d)=false:=rfl
@[simp] theorem isDk_tup (d:List Da):km (.tup d)=false:=rfl
@[simp] theorem isDk_int (d:Int):km (.int d)=false:=rfl
@[simp] theorem isDk_bl (d:Bool):km (.bl d)=false:=rfl
@[simp] theorem C7 (c:Int->Int->Bool) (g:Int->Int->Int) (a b:Kd) (i j:Int):oI c g (a,.int i) (b,.int j)=if c i j=true then some (.pu,.int (g i j)) else none:=rfl
@[simp] theorem oB_s (g:Int->Int->Bool) (a b:Kd) (i j:Int):oB g (a,.int i) (b,.int j)=some (.pu,.bl (g i j)):=rfl
@[simp] theorem oLt_s (a b:Kd) (i j:Int):oLt (a,.int i) (b,.int j)=some (.pu,.bl (decide (i<j))):=rfl
@[simp] theorem x8 (a b:Kd) (i j:Int):jO (a,.int i) (b,.int j)=some (.pu,.int (i+j)):=rfl
@[simp] theorem Bj (a b:Kd) (xs ys:List Da):jO (a,.tup xs) (b,.tup ys)=if xs.length+ys.length<=1000000 then some (.pu,.tup (xs++ys)) else none:=by
  unfold jO vV wL oI;dsimp only;split<;>rfl
@[simp] theorem CB (a b:Kd) (xs ys:List Da):jO (a,.lst xs) (b,.lst ys)=if xs.length+ys.length<=1000000 then some (.fr,.lst (xs++ys)) else none:=by
  unfold jO vV wL oI;dsimp only;split<;>rfl
@[simp] theorem oIs_s (n:Bool) (a b:Kd) (i j:Bool):oIs n (a,.bl i) (b,.bl j)=some (.pu,.bl (if n then !(i == j) else i == j)):=rfl
@[simp] theorem cMul_lit (i:Int):nh i 48271=true:=by simp [nh]
@[simp] theorem A0 (k:Kd) (ds:List Da):oK [(k,.tup ds)]=some (.pu,.int ds.length):=rfl
@[simp] theorem Cf (k:Kd) (ds:List Da):oK [(k,.lst ds)]=some (.pu,.int ds.length):=rfl
@[simp] theorem fTuple_t (k:Kd) (ds:List Da):eF [(k,.tup ds)]=some (.pu,.tup ds):=rfl
@[simp] theorem vT (k:Kd) (ds:List Da):eF [(k,.lst ds)]=some (.pu,.tup ds):=rfl
@[simp] theorem fList_t (k:Kd) (ds:List Da):lC [(k,.tup ds)]=some (.fr,.lst ds):=rfl
@[simp] theorem fList_l (k:Kd) (ds:List Da):lC [(k,.lst ds)]=some (.fr,.lst ds):=rfl
@[simp] theorem trD_non:trD .non=some false:=rfl
@[simp] theorem trD_bl (b:Bool):trD (.bl b)=some b:=rfl
@[simp] theorem trD_int (i:Int):trD (.int i)=some (i != 0):=rfl
@[simp] theorem trD_tup (ds:List Da):trD (.tup ds)=some (!ds.isEmpty):=rfl
@[simp] theorem trD_lst (ds:List Da):trD (.lst ds)=some (!ds.isEmpty):=rfl
theorem ti {α:Type} {xs:List α} {k:Int} (h0:0<=k):atI xs k=xs[k.toNat]?:=by
 unfold atI ixN
 rw [if_pos h0]
 split
 ·rfl
 ·rename_i h
  rw [bM (by lia)];rfl
theorem wf {a b:Kd} {ds:List Da} {i:Int} {d:Da} (h0:0<=i) (h:ds[i.toNat]?=some d):oIt (a,.tup ds) (b,.int i)=some (.pu,d):=by
 unfold oIt oIx xW
 dsimp only
 rw [ti h0,h]
 rfl
theorem BA {a b:Kd} {ds:List Da} {i:Int} {d:Da} (h0:0<=i) (h:ds[i.toNat]?=some d):oIt (a,.lst ds) (b,.int i)=some (.pu,d):=by
 unfold oIt oIx xW
 dsimp only
 rw [ti h0,h]
 rfl
@[simp] theorem oIt_0 (a b:Kd) (d:Da) (ds:List Da):oIt (a,.tup (d::ds)) (b,.int 0)=some (.pu,d):=wf (by decide) rfl
@[simp] theorem oIt_1 (a b:Kd) (d e:Da) (ds:List Da):oIt (a,.tup (d::e::ds)) (b,.int 1)=some (.pu,e):=wf (by decide) rfl
theorem Bp (n:Bool) (a b:Kd) (S:List PI) (p:PI):we n (a,dP p) (b,dS S)=some (.pu,.bl (if n then !decide (p∈S) else decide (p∈S))):=by
 unfold we
 dsimp only
 rw [zE]
 by_cases h:p∈S<;>simp [h]
@[simp] theorem oIn_S (n:Bool) (a b:Kd) (S:List PI) (x y:Int):oIn n (a,.tup [.int x,.int y]) (b,dS S)=some (.pu,.bl (if n then !decide ((x,y)∈S) else decide ((x,y)∈S))):=by
  unfold oIn
  rw [show Da.tup [.int x,.int y]=dP (x,y) from rfl,Bp]
  rfl
end Ry
namespace G
open PySem L2 Ry
noncomputable def g__law_cell:Rho->Res:=(e8 (sIf (tb (x2 oLt (aJ 1) (xB oK (aB (aJ 0) bO)))) (dN (x2 oIt (aJ 0) (aJ 1))) gA)
 (dN (xC (.int 0))))
noncomputable def fn__law_cell:List Da->Option Da:=iq 2 g__law_cell
noncomputable def g__law_mix:Rho->Res:=(dN (x2 (oI (fun _ j=>decide (0<j)) (·%·)) (x2 (oI (fun _ j=>decide (0<j)) (·%·)) (x2 (oI nh (·*·)) (aJ 0) (xC (.int 48271))) (aJ 1)) (aJ 2)))
noncomputable def fn__law_mix:List Da->Option Da:=iq 3 g__law_mix
noncomputable def vv (c m:Int):Nat->Int->List Int->List Int
 | 0,_,_=>[]
 | f+1,k,left=>left.getD ((c+5*k)*48271%9967%(m-k)).toNat 0::vv c m f (k+1) (left.eraseIdx ((c+5*k)*48271%9967%(m-k)).toNat)
noncomputable def fn__law_perm:List Da->Option Da
 | [.int c,.int m]=>if 0<=m/\m<=1000 then some (.lst ((vv c m m.toNat 0 (rgI 0 m.toNat)).map Da.int)) else none
 | _=>none
noncomputable def g__law_all:Rho->Res:=(e8 (xy 2 (xC2 (.fr,.dT [] [])))
 (e8 (lf (bJ (eU (aJ 1))) (tgN 3)
 (yu 2 (aJ 3) (xC (.bl true))))
 (e8 (lf (mQ (aB (aJ 0) bO)) (tgN 4)
 (lf (mQ (aB (aJ 0) bO)) (tgN 5)
 (lf (mQ (aB (aJ 0) bO)) (tgN 6)
 (sIf (iP (tb (x2 (oIn false) (pE (aB (aJ 5) (aB (aJ 4) bO))) (aJ 2))) (tb (x2 (oIn false) (pE (aB (aJ 4) (aB (aJ 6) bO))) (aJ 2)))) (yu 2 (pE (aB (aJ 5) (aB (aJ 6) bO))) (xC (.bl true))) gA))))
 (dN (xB gn (aB (aJ 2) bO))))))
noncomputable def fn__law_all:List Da->Option Da:=iq 7 g__law_all
noncomputable def g__law_yard:Rho->Res:=(e8 (kj 3 (x2 jO (xC (.int 1)) (bU fn__law_mix (aB (bU fn__law_cell (aB (aJ 0) (aB (aJ 1) bO))) (aB (xC (.int 9973)) (aB (aJ 2) bO))))))
 (e8 (kj 4 (x2 jO (xC (.int 1)) (bU fn__law_mix (aB (bU fn__law_cell (aB (aJ 0) (aB (aJ 1) bO))) (aB (xC (.int 9949)) (aB (xC (.int 6)) bO))))))
 (e8 (kj 5 (bU fn__law_perm (aB (bU fn__law_cell (aB (aJ 0) (aB (x2 jO (aJ 1) (xC (.int 1))) bO))) (aB (aJ 3) bO))))
 (e8 (xy 6 (AB bO))
 (e8 (lf (mQ (aB (aJ 3) bO)) (tgN 7)
 (lf (Ax (aB (x2 jO (aJ 7) (xC (.int 1))) (aB (aJ 3) bO))) (tgN 8)
 (sIf (tb (x2 oLt (bU fn__law_mix (aB (x2 jO (x2 jO (bU fn__law_cell (aB (aJ 0) (aB (x2 jO (aJ 1) (xC (.int 2))) bO))) (x2 (oI nh (·*·)) (xC (.int 131)) (aJ 7))) (x2 (oI nh (·*·)) (xC (.int 17)) (aJ 8))) (aB (xC (.int 9941)) (aB (xC (.int 10)) bO)))) (aJ 4))) (iY 6 (pE (aB (x2 oIt (aJ 5) (aJ 7)) (aB (x2 oIt (aJ 5) (aJ 8)) bO)))) gA)))
 (fun ρ=>(dN (pE (aB (aJ 3) (aB (xB eF (aB (bU fn__law_all (aB (aJ 3) (aB (aJ 6) bO))) bO)) bO)))) (frz 6 ρ)))))))
noncomputable def fn__law_yard:List Da->Option Da:=iq 9 g__law_yard
end G
set_option linter.unusedSimpArgs false
namespace G
open PySem L2 Ry
theorem o8 (S:List Int) (k:Int) (hk:0<=k):fn__law_cell [.lst (S.map Da.int),.int k]=some (.int (S.getD k.toNat 0)):=by
 by_cases h:k<(S.length:Int)
 ·have h2:k.toNat<S.length:=by lia
  simp [fn__law_cell,iq,cG,g__law_cell,h,oIt,oIx,xW,atI,ixN,hk,h2]
 ·have h2:¬ k.toNat<S.length:=by lia
  simp [fn__law_cell,iq,cG,g__law_cell,h,oIt,oIx,xW,atI,ixN,hk,h2]
theorem nq (c p m:Int) (hp:0<p) (hm:0<m):fn__law_mix [.int c,.int p,.int m]=some (.int (c*48271%p%m)):=by
 simp [fn__law_mix,iq,cG,g__law_mix,hp,hm]
inductive Cl (T:List PI):Int->Int->Prop where
 | of {a b:Int}:(a,b)∈T->Cl T a b
 | tr {a b c:Int}:Cl T a b->Cl T b c->Cl T a c
theorem Cl.rg {T:List PI} {n:Int} (h:∀ p∈T,(0<=p.1/\p.1<n)/\0<=p.2/\p.2<n) {a b:Int} (c:Cl T a b):(0<=a/\a<n)/\0<=b/\b<n:=by
 induction c with
 | of m=>exact h _ m
 | tr _ _ i1 i2=>exact ⟨i1.1,i2.2⟩
structure Ph (n c:Int) (S cur:List PI) (done:Int->Int->Prop):Prop where
 nd:cur.Nodup
 mem:∀ a b,(a,b)∈cur↔(a,b)∈S\/(done a b/\(a,c)∈S/\(c,b)∈S)
theorem Ph.l {n c:Int} {S cur:List PI} {done:Int->Int->Prop} (h:Ph n c S cur done) (a:Int):(a,c)∈cur↔(a,c)∈S:=by
 rw [h.mem];constructor
 ·rintro (z | z);exact z;exact z.2.1
 ·exact .inl
theorem Ph.r {n c:Int} {S cur:List PI} {done:Int->Int->Prop} (h:Ph n c S cur done) (b:Int):(c,b)∈cur↔(c,b)∈S:=by
 rw [h.mem];constructor
 ·rintro (z | z);exact z;exact z.2.2
 ·exact .inl
theorem Ph.start {n c:Int} {S:List PI} (nd:S.Nodup):Ph n c S S (fun _ _=>False):=⟨nd,fun a b=>by simp⟩
theorem Ph.weak {n c:Int} {S cur:List PI} {d d':Int->Int->Prop} (h:Ph n c S cur d) (e:∀ a b,d a b↔d' a b):Ph n c S cur d':=⟨h.nd,fun a b=>by rw [h.mem,e]⟩
theorem Ph.yes {n c:Int} {S cur:List PI} {d:Int->Int->Prop} (h:Ph n c S cur d) {a b:Int} (h1:(a,c)∈cur) (h2:(c,b)∈cur):Ph n c S (pR cur (a,b)) (fun x y=>d x y\/(x=a/\y=b)):=by
 refine ⟨kK h.nd,fun x y=>?_⟩
 rw [lN,h.mem]
 rw [h.l] at h1
 rw [h.r] at h2
 constructor
 ·rintro ((z | z) | z)
  ·exact .inl z
  ·exact .inr ⟨.inl z.1,z.2⟩
  ·cases z;exact .inr ⟨.inr ⟨rfl,rfl⟩,h1,h2⟩
 ·rintro (z | ⟨z | ⟨rfl,rfl⟩,w⟩)
  ·exact .inl (.inl z)
  ·exact .inl (.inr ⟨z,w⟩)
  ·exact .inr rfl
theorem Ph.no {n c:Int} {S cur:List PI} {d:Int->Int->Prop} (h:Ph n c S cur d) {a b:Int} (hn:¬ ((a,c)∈cur/\(c,b)∈cur)):Ph n c S cur (fun x y=>d x y\/(x=a/\y=b)):=by
 refine ⟨h.nd,fun x y=>?_⟩
 rw [h.l,h.r] at hn
 rw [h.mem]
 constructor
 ·rintro (z | z)
  ·exact .inl z
  ·exact .inr ⟨.inl z.1,z.2⟩
 ·rintro (z | ⟨z | ⟨rfl,rfl⟩,w⟩)
  ·exact .inl z
  ·exact .inr ⟨z,w⟩
  ·exact absurd w hn
structure Wa (T:List PI) (n:Int) (k:Int) (S:List PI):Prop where
 nd:S.Nodup
 told:∀ p∈T,p∈S
 cl:∀ a b,(a,b)∈S->Cl T a b
 thr:∀ c,0<=c->c<k->∀ a b,(a,c)∈S->(c,b)∈S->(a,b)∈S
theorem Wa.step {T:List PI} {n k:Int} {S S':List PI} (rg:∀ p∈T,(0<=p.1/\p.1<n)/\0<=p.2/\p.2<n) (h:Wa T n k S) (p:Ph n k S S' (fun a b=>(0<=a/\a<n)/\0<=b/\b<n)):Wa T n (k+1) S':=by
 have all:∀ a b,(a,k)∈S->(k,b)∈S->(a,b)∈S':=fun a b h1 h2 =>
  (p.mem a b).mpr (.inr ⟨⟨((h.cl _ _ h1).rg rg).1,((h.cl _ _ h2).rg rg).2⟩,h1,h2⟩)
 refine ⟨p.nd,fun q hq=>(p.mem q.1 q.2).mpr (.inl (h.told q hq)),fun a b hab=>?_,fun c h0 hc a b h1 h2=>?_⟩
 ·rcases (p.mem a b).mp hab with z | ⟨_,z1,z2⟩
  ·exact h.cl _ _ z
  ·exact (h.cl _ _ z1).tr (h.cl _ _ z2)
 ·by_cases hk:c=k
  ·subst hk
   exact all a b ((p.l a).mp h1) ((p.r b).mp h2)
  ·have hlt:c<k:=by lia
   rcases (p.mem a c).mp h1 with z1 | ⟨_,z1,z2⟩<;>rcases (p.mem c b).mp h2 with w1 | ⟨_,w1,w2⟩
   ·exact (p.mem a b).mpr (.inl (h.thr c h0 hlt a b z1 w1))
   ·exact all a b (h.thr c h0 hlt a k z1 w1) w2
   ·exact all a b z1 (h.thr c h0 hlt k b z2 w1)
   ·exact all a b z1 w2
theorem Wa.fin {T:List PI} {n:Int} {S:List PI} (rg:∀ p∈T,(0<=p.1/\p.1<n)/\0<=p.2/\p.2<n) (h:Wa T n n S) (a b:Int):(a,b)∈S↔Cl T a b:=by
 refine ⟨h.cl a b,fun c=>?_⟩
 induction c with
 | of m=>exact h.told _ m
 | @tr a b c c1 c2 i1 i2=>exact h.thr b (c1.rg rg).2.1 (c1.rg rg).2.2 a c i1 i2
end G
set_option linter.unusedSimpArgs false
namespace G
open PySem L2 Ry
theorem vM (n:Int):((rgI 0 n.toNat).flatMap fun a=>(rgI 0 n.toNat).map fun b=>((a,b):PI)).length=n.toNat*n.toNat:=by
 have:∀ (l m:List Int),(l.flatMap fun a=>m.map fun b=>((a,b):PI)).length=l.length*m.length:=fun l m=>by
  induction l with
  | nil=>simp
  | cons a l ih=>rw [List.flatMap_cons,aH,ih,af,aA,Nat.add_mul,Nat.one_mul,Nat.add_comm]
 rw [this,fH]
theorem tD {n:Int} {S:List PI} (nd:S.Nodup) (h:∀ p∈S,(0<=p.1/\p.1<n)/\0<=p.2/\p.2<n):S.length<=n.toNat*n.toNat:=by
 rw [<- vM n]
 refine Ms.length_le_of_subset nd fun p hp=>?_
 obtain ⟨h1,h2⟩:=h p hp
 rw [List.mem_flatMap]
 exact ⟨p.1,dg.mpr (by lia),bn.mpr ⟨p.2,dg.mpr (by lia),rfl⟩⟩
theorem zn {n:Int} (hn:0<=n) {pre post:List Int} {x:Int} (e:rgI 0 n.toNat=pre++x::post):0<=x/\x<n:=by
 have:x∈rgI 0 n.toNat:=by rw [e];simp
 have:=dg.mp this
 lia
theorem wF:∀ {m:Nat} {lo:Int} {pre post:List Int} {x:Int},rgI lo m=pre++x::post->x=lo+pre.length
 | 0,lo,pre,post,x,e=>by
   have:=congrArg gc e
   simp [rgI] at this
 | m+1,lo,[],post,x,e=>by
   unfold rgI at e
   injection e with e _
   simp [e]
 | m+1,lo,y::pre,post,x,e=>by
   unfold rgI at e
   rw [List.cons_append] at e
   injection e with _ e
   have:=wF e
   simp only [aA]
   lia
theorem BE {n:Int} {T:List PI} {X:Da} (hn:0<=n) (hn2:n<=1000) (hX:X=.lst (T.map dP)\/X=.tup (T.map dP)) (rg:∀ p∈T,(0<=p.1/\p.1<n)/\0<=p.2/\p.2<n)
 (hl:∀ S:List PI,S.Nodup->(∀ a b,(a,b)∈S↔Cl T a b)->S.length<=127) :
 ∃ L:List PI,fn__law_all [.int n,X]=some (.lst (L.map dP))/\(L.Pairwise fun p q=>Ms.ltP p q=true)/\∀ a b,(a,b)∈L↔Cl T a b:=by
 have small:∀ S:List PI,S.Nodup->(∀ a b,(a,b)∈S->Cl T a b)->S.length<=1000000:=fun S nd h=>by
  refine bR (tD nd fun p hp=>(h p.1 p.2 hp).rg rg) ?_
  exact bR (rM (show n.toNat<=1000 by lia) (show n.toNat<=1000 by lia)) (by decide)
 have key:∃ d,iq 7 g__law_all [.int n,X]=some d/\∃ L:List PI,d=.lst (L.map dP)/\(L.Pairwise fun p q=>Ms.ltP p q=true)/\∀ a b,(a,b)∈L↔Cl T a b:=by
  refine p8 ?_
  unfold g__law_all
  have e0:cG 7 [.int n,X]=[.pu (.int n),.pu X,.no,.no,.no,.no,.no]:=rfl
  rw [e0]
  refine cH (eE (ρ':=[.pu (.int n),.pu X,.ow (dS []),.no,.no,.no,.no]) rfl ?_)
  refine cH ?_
  refine hZ (enc:=dP) (xs:=T) (fun pre ρ=>∃ S s3,ρ=[.pu (.int n),.pu X,.ow (dS S),s3,.no,.no,.no]/\S.Nodup/\(∀ p∈S,p∈T)/\∀ p∈pre,p∈S) ?_ ⟨[],_,rfl,.nil,by simp,by simp⟩ ?_ ?_
  ·rcases hX with rfl | rfl<;>rfl
  ·rintro pre x post ρ e ⟨S,s3,rfl,nd,sub,has⟩
   refine ⟨_,rfl,?_⟩
   have hp:=xM x nd (small S nd fun a b z=>.of (sub _ z))
   refine eE (ρ':=[.pu (.int n),.pu X,.ow (dS (pR S x)),.pu (dP x),.no,.no,.no]) (by simp [hp]) ⟨_,_,rfl,kK nd,fun p z=>?_,fun p z=>?_⟩
   ·rcases lN.mp z with z | z
    ·exact sub p z
    ·subst z;rw [e];simp
   ·rw [lN]
    rcases aE.mp z with z | z
    ·exact .inl (has p z)
    ·exact .inr (by simpa using z)
  rintro ρ ⟨S0,s3,rfl,nd0,sub0,has0⟩
  have rng:∀ (X':Da) (S:List PI) (s3 s4 s5 s6:Sl),mQ (aB (aJ 0) bO) [.pu (.int n),.pu X',.ow (dS S),s3,s4,s5,s6]=some ((rgI 0 n.toNat).map Da.int):=fun X' S s3 s4 s5 s6=>by
   simp only [qD,cb,fU,cQ,aW]
   rw [if_pos (by lia),eD]
  refine cH ?_
  refine hZ (enc:=Da.int) (xs:=rgI 0 n.toNat) (fun pre ρ=>∃ S s4 s5 s6,ρ=[.pu (.int n),.pu X,.ow (dS S),s3,s4,s5,s6]/\Wa T n pre.length S) (rng ..) ⟨S0,_,_,_,rfl,nd0,has0,fun a b z=>.of (sub0 _ z),fun c h0 hc=>by simp at hc;lia⟩ ?_ ?_
  ·rintro prec c postc ρ ec ⟨S,s4,s5,s6,rfl,wa⟩
   have hc:=wF ec
   refine ⟨_,rfl,?_⟩
   show Go (lf _ _ _ [.pu (.int n),.pu X,.ow (dS S),s3,.pu (.int c),s5,s6]) _ _ _ _
   refine hZ (enc:=Da.int) (xs:=rgI 0 n.toNat) (fun pre ρ=>∃ cur s5 s6,ρ=[.pu (.int n),.pu X,.ow (dS cur),s3,.pu (.int c),s5,s6]/\Ph n c S cur (fun x y=>x∈pre/\0<=y/\y<n)) (rng ..) ⟨S,_,_,rfl,(Ph.start wa.nd).weak fun a b=>by simp⟩ ?_ ?_
   ·rintro prea a posta ρ ea ⟨cur,s5,s6,rfl,ph⟩
    refine ⟨_,rfl,?_⟩
    show Go (lf _ _ _ [.pu (.int n),.pu X,.ow (dS cur),s3,.pu (.int c),.pu (.int a),s6]) _ _ _ _
    refine hZ (enc:=Da.int) (xs:=rgI 0 n.toNat) (fun pre ρ=>∃ cur s6,ρ=[.pu (.int n),.pu X,.ow (dS cur),s3,.pu (.int c),.pu (.int a),s6]/\Ph n c S cur (fun x y=>(x∈prea/\0<=y/\y<n)\/(x=a/\y∈pre))) (rng ..) ⟨cur,_,rfl,ph.weak fun x y=>by simp⟩ ?_ ?_
    ·rintro preb b postb ρ eb ⟨cur,s6,rfl,ph⟩
     refine ⟨_,rfl,?_⟩
     have hcl:∀ x y,(x,y)∈cur->Cl T x y:=fun x y z=>by
      rcases (ph.mem x y).mp z with z | ⟨_,z1,z2⟩
      ·exact wa.cl _ _ z
      ·exact (wa.cl _ _ z1).tr (wa.cl _ _ z2)
     have hput:=xM (a,b) ph.nd (small cur ph.nd hcl)
     have ew:∀ x y:Int,((x∈prea/\0<=y/\y<n)\/(x=a/\y∈preb))\/(x=a/\y=b)↔(x∈prea/\0<=y/\y<n)\/(x=a/\y∈preb++[b]):=fun x y=>by
      rw [aE,au,and_or_left,or_assoc]
     show Go (sIf _ _ _ [.pu (.int n),.pu X,.ow (dS cur),s3,.pu (.int c),.pu (.int a),.pu (.int b)]) _ _ _ _
     refine m8 (b:=decide ((a,c)∈cur)&&decide ((c,b)∈cur)) ?_ (fun q=>?_) fun q=>?_
     ·cases h1:decide ((a,c)∈cur)<;>simp [h1]
     ·rw [aD,decide_eq_true_eq,decide_eq_true_eq] at q
      refine eE (ρ':=[.pu (.int n),.pu X,.ow (dS (pR cur (a,b))),s3,.pu (.int c),.pu (.int a),.pu (.int b)]) ?_ ⟨_,_,rfl,(ph.yes q.1 q.2).weak ew⟩
      simp only [xJ,uv,cb,fU,cQ,vE,fF,gr,aW,be,iM,if_true,Option.map_some,aA,cT]
      rw [if_pos (by decide)]
      dsimp only
      rw [show Da.tup [.int a,.int b]=dP (a,b) from rfl,hput]
      rfl
     ·rw [vC,decide_eq_false_iff_not,decide_eq_false_iff_not] at q
      exact eE rfl ⟨_,_,rfl,(ph.no fun z=>q.elim (fun h=>h z.1) fun h=>h z.2).weak ew⟩
    ·rintro ρ ⟨cur,s6,rfl,ph⟩
     refine ⟨_,_,_,rfl,ph.weak fun x y=>?_⟩
     rw [dg,aE,au,or_and_right]
     have:(0<=y/\y<0+(n.toNat:Int))↔0<=y/\y<n:=by lia
     rw [this]
   ·rintro ρ ⟨cur,s5,s6,rfl,ph⟩
    refine ⟨_,_,_,_,rfl,?_⟩
    have wa2:Wa T n (c+1) cur:=by
     have wa':Wa T n c S:=by rw [hc,Int.zero_add];exact wa
     refine wa'.step rg (ph.weak fun x y=>?_)
     rw [dg]
     have:(0<=x/\x<0+(n.toNat:Int))↔0<=x/\x<n:=by lia
     rw [this]
    rw [aH,bF]
    have e2:((prec.length+1:Nat):Int)=c+1:=by lia
    rw [e2]
    exact wa2
  ·rintro ρ ⟨S,s4,s5,s6,rfl,wa⟩
   rw [fH] at wa
   have wa':Wa T n n S:=by
    have:((n.toNat:Nat):Int)=n:=by lia
    rw [this] at wa
    exact wa
   have hfin:=wa'.fin rg
   have hlt:=hl S wa'.nd hfin
   have es:(S.map kP).map (fun k=>Da.tup (k.map fW))=S.map dP:=by rw [aT];rfl
   have hso:gn [(.bo,dS S)]=some (.fr,.lst ((Ms.srt Ms.ltP S).map dP)):=by
    show (match iT ((S.map kP).map fun k=>Da.tup (k.map fW)) with | some es=>some (Kd.fr,Da.lst es) | none=>none)=_
    rw [es,nJ (.inr ⟨hlt,wa'.nd⟩)]
   refine p7 (d:=.lst ((Ms.srt Ms.ltP S).map dP)) (by simp [hso]) ⟨_,rfl,Ms.srt_strict Ms.linP wa'.nd,fun a b=>?_⟩
   rw [(Ms.srt_perm S).mem_iff]
   exact hfin a b
 obtain ⟨d,e,L,rfl,h⟩:=key
 exact ⟨L,e,h⟩
end G
set_option linter.unusedSimpArgs false
namespace G
open PySem L2 Ry
theorem kW {α:Type}:∀ {l:List α} {i:Nat} (d:α),i<l.length->(l.getD i d::l.eraseIdx i).Perm l
 | a::l,0,d,_=>.refl _
 | a::l,i+1,d,h=>by
   have ih:=kW (l:=l) (i:=i) d (by simpa using h)
   rw [jE,List.eraseIdx_cons_succ]
   exact (List.Perm.swap ..).trans (ih.cons a)
theorem nC (c m:Int):∀ (f:Nat) (k:Int) (left:List Int),left.length=f->m-k=f->(vv c m f k left).Perm left
 | 0,k,left,h,_=>by
   have:left=[]:=fJ h
   subst this;exact .refl _
 | f+1,k,left,h,hm=>by
   unfold vv
   have hi:((c+5*k)*48271%9967%(m-k)).toNat<left.length:=by
    have h1:=jc ((c+5*k)*48271%9967) (show m-k≠0 by lia)
    have h2:=gF ((c+5*k)*48271%9967) (show 0<m-k by lia)
    lia
   refine ((nC c m f (k+1) _ ?_ (by lia)).cons _).trans (kW 0 hi)
   rw [d4 hi];lia
theorem yp (c m:Int) (h0:0<=m) (h1:m<=1000):∃ P:List Int,fn__law_perm [.int c,.int m]=some (.lst (P.map Da.int))/\P.Perm (rgI 0 m.toNat):=by
 refine ⟨vv c m m.toNat 0 (rgI 0 m.toNat),?_,nC c m m.toNat 0 _ (fH ..) (by lia)⟩
 show (if 0<=m/\m<=1000 then _ else none)=_
 rw [if_pos ⟨h0,h1⟩]
theorem qk (n:Nat) (lo:Int):(rgI lo n).Nodup:=(j0 n lo).imp fun {a b} z w=>by subst w;rw [Ms.linI.irr] at z;cases z
theorem mK {α:Type} {l:List α} {f:α->Da} {i:Nat} {a:α} (h:l[i]?=some a):(l.map f)[i]?=some (f a):=by rw [av,h];rfl
theorem n6 {l:List Int} (nd:l.Nodup) {i j:Nat} {a:Int} (h1:l[i]?=some a) (h2:l[j]?=some a):i=j:=by
 obtain ⟨l1,e1⟩:=aq.mp h1
 obtain ⟨l2,e2⟩:=aq.mp h2
 exact (eI nd).mp (e1.trans e2.symm)
noncomputable def Up (P:List Int) (x y:Int):Prop:=∃ i j:Nat,i<j/\P[i]?=some x/\P[j]?=some y
theorem Up.tr {P:List Int} (nd:P.Nodup) {x y z:Int} (h:Up P x y) (h':Up P y z):Up P x z:=by
 obtain ⟨i,j,l,a,b⟩:=h
 obtain ⟨i',j',l',a',b'⟩:=h'
 have:=n6 nd b a'
 exact ⟨i,j',by lia,a,b'⟩
theorem Up.irr {P:List Int} (nd:P.Nodup) {x:Int}:¬ Up P x x:=fun ⟨i,j,l,a,b⟩=>by
 have:=n6 nd a b
 lia
theorem Cl.up {P:List Int} (nd:P.Nodup) {T:List PI} (h:∀ a b,(a,b)∈T->Up P a b) {a b:Int} (c:Cl T a b):Up P a b:=by
 induction c with
 | of m=>exact h _ _ m
 | tr _ _ i1 i2=>exact i1.tr nd i2
theorem BC (c p m:Int) (hm:0<m):0<=c*48271%p%m/\c*48271%p%m<m:=⟨jc _ (by lia),gF _ hm⟩
theorem w8 {n:Int} {U:List PI} (nd:U.Nodup) (rg:∀ p∈U,(0<=p.1/\p.1<n)/\0<=p.2/\p.2<n) (anti:∀ a b,(a,b)∈U->(b,a)∈U->False):2*U.length<=n.toNat*n.toNat:=by
 have h:=tD (n:=n) (S:=U++U.map fun p=>(p.2,p.1)) (cx.mpr ⟨nd,cy.mpr (nd.imp fun {a b} ne e=>ne (by
  have e1:=congrArg Prod.fst e
  have e2:=congrArg Prod.snd e
  exact Prod.ext e2 e1)),fun p hp q hq e=>by
   obtain ⟨r,hr,rfl⟩:=bn.mp hq
   subst e
   exact anti _ _ hp hr⟩) fun p hp=>by
  rcases aE.mp hp with z | z
  ·exact rg p z
  ·obtain ⟨r,hr,rfl⟩:=bn.mp z
   exact ⟨(rg r hr).2,(rg r hr).1⟩
 rw [aH,af] at h
 lia
theorem ym (S:List Int) (k most:Int) (hk:0<=k) (h1:1<=most) (h2:most<=12) :
 ∃ (n:Int) (L:List PI),fn__law_yard [.lst (S.map Da.int),.int k,.int most]=some (dY n L)/\1<=n/\n<=most/\Yd n L:=by
 obtain ⟨c0,hc0⟩:∃ c,fn__law_cell [.lst (S.map Da.int),.int k]=some (.int c):=⟨_,o8 S k hk⟩
 obtain ⟨c1,hc1⟩:∃ c,fn__law_cell [.lst (S.map Da.int),.int (k+1)]=some (.int c):=⟨_,o8 S (k+1) (by lia)⟩
 obtain ⟨c2,hc2⟩:∃ c,fn__law_cell [.lst (S.map Da.int),.int (k+2)]=some (.int c):=⟨_,o8 S (k+2) (by lia)⟩
 generalize hn:1+c0*48271%9973%most=n
 have hm0:=nq (c0) 9973 most (by decide) (by lia)
 have hm1:=nq (c0) 9949 6 (by decide) (by decide)
 have hr:=BC (c0) 9973 most (by lia)
 obtain ⟨P,hP,pP⟩:=yp (c1) n (by lia) (by lia)
 have ndP:P.Nodup:=pP.nodup_iff.mpr (qk ..)
 have lenP:P.length=n.toNat:=by rw [pP.length_eq,fH]
 have memP:∀ x,x∈P↔0<=x/\x<n:=fun x=>by rw [pP.mem_iff,dg];lia
 generalize hsh:1+c0*48271%9949%6=sh
 have key:∃ d,iq 9 g__law_yard [.lst (S.map Da.int),.int k,.int most]=some d/\∃ L,d=dY n L/\Yd n L:=by
  refine p8 ?_
  unfold g__law_yard
  have e0:cG 9 [.lst (S.map Da.int),.int k,.int most]=[.pu (.lst (S.map Da.int)),.pu (.int k),.pu (.int most),.no,.no,.no,.no,.no,.no]:=rfl
  rw [e0]
  refine cH (eE (ρ':=[.pu (.lst (S.map Da.int)),.pu (.int k),.pu (.int most),.pu (.int n),.no,.no,.no,.no,.no]) (by simp [hc0,hm0,<- hn]) ?_)
  refine cH (eE (ρ':=[.pu (.lst (S.map Da.int)),.pu (.int k),.pu (.int most),.pu (.int n),.pu (.int sh),.no,.no,.no,.no]) (by simp [hc0,hm1,<- hsh]) ?_)
  refine cH (eE (ρ':=[.pu (.lst (S.map Da.int)),.pu (.int k),.pu (.int most),.pu (.int n),.pu (.int sh),.pu (.lst (P.map Da.int)),.no,.no,.no]) (by simp [hc1,hP]) ?_)
  refine cH (eE (ρ':=[.pu (.lst (S.map Da.int)),.pu (.int k),.pu (.int most),.pu (.int n),.pu (.int sh),.pu (.lst (P.map Da.int)),.ow (.lst (([]:List PI).map dP)),.no,.no]) (by simp) ?_)
  refine cH ?_
  have rng:∀ (T:Da) (s7 s8:Sl),mQ (aB (aJ 3) bO) [.pu (.lst (S.map Da.int)),.pu (.int k),.pu (.int most),.pu (.int n),.pu (.int sh),.pu (.lst (P.map Da.int)),.ow T,s7,s8]=some ((rgI 0 n.toNat).map Da.int):=fun T s7 s8=>by
   simp only [qD,cb,fU,cQ,aW,be]
   rw [if_pos (by lia),eD]
  refine hZ (enc:=Da.int) (xs:=rgI 0 n.toNat) (fun pre ρ=>∃ (T:List PI) (s7 s8:Sl),ρ=[.pu (.lst (S.map Da.int)),.pu (.int k),.pu (.int most),.pu (.int n),.pu (.int sh),.pu (.lst (P.map Da.int)),.ow (.lst (T.map dP)),s7,s8]/\(∀ a b,(a,b)∈T->Up P a b)/\T.length<=pre.length*12) (rng ..) ⟨[],_,_,rfl,by simp,by simp⟩ ?_ ?_
  ·rintro pre a post ρ e ⟨T,s7,s8,rfl,hT,hl⟩
   have ha:=wF e
   have hpa:=zn (by lia) e
   have hpl:pre.length<12:=by lia
   refine ⟨_,rfl,?_⟩
   show Go (lf _ _ _ [.pu (.lst (S.map Da.int)),.pu (.int k),.pu (.int most),.pu (.int n),.pu (.int sh),.pu (.lst (P.map Da.int)),.ow (.lst (T.map dP)),.pu (.int a),s8]) _ _ _ _
   have rng2':∀ (T:Da) (s8:Sl),Ax (aB (x2 jO (aJ 7) (xC (.int 1))) (aB (aJ 3) bO)) [.pu (.lst (S.map Da.int)),.pu (.int k),.pu (.int most),.pu (.int n),.pu (.int sh),.pu (.lst (P.map Da.int)),.ow T,.pu (.int a),s8]=some ((rgI (a+1) (n-(a+1)).toNat).map Da.int):=fun T s8=>by
    simp only [Cz,cb,fU,cQ,mH,vE,x8,aW,be]
    rw [if_pos (by lia),eD]
   refine hZ (enc:=Da.int) (xs:=rgI (a+1) (n-(a+1)).toNat) (fun pre2 ρ=>∃ (T:List PI) (s8:Sl),ρ=[.pu (.lst (S.map Da.int)),.pu (.int k),.pu (.int most),.pu (.int n),.pu (.int sh),.pu (.lst (P.map Da.int)),.ow (.lst (T.map dP)),.pu (.int a),s8]/\(∀ a b,(a,b)∈T->Up P a b)/\T.length<=pre.length*12+pre2.length) (rng2' ..) ⟨T,_,rfl,hT,by simpa using hl⟩ ?_ ?_
   ·rintro pre2 b post2 ρ e2 ⟨T,s8,rfl,hT,hl⟩
    have hb:=wF e2
    have hpb:a<b/\b<n:=by
     have:b∈rgI (a+1) (n-(a+1)).toNat:=by rw [e2];simp
     have:=dg.mp this
     lia
    have hl2:pre2.length<=12:=by lia
    refine ⟨_,rfl,?_⟩
    have hm2:=nq (c2+131*a+17*b) 9941 10 (by decide) (by decide)
    show Go (sIf _ _ _ [.pu (.lst (S.map Da.int)),.pu (.int k),.pu (.int most),.pu (.int n),.pu (.int sh),.pu (.lst (P.map Da.int)),.ow (.lst (T.map dP)),.pu (.int a),.pu (.int b)]) _ _ _ _
    have cm1:nh 131 a=true:=by simp [nh]
    have cm2:nh 17 b=true:=by simp [nh]
    refine m8 (b:=decide ((c2+131*a+17*b)*48271%9941%10<sh)) (by simp [hc2,hm2,cm1,cm2]) (fun _=>?_) fun _=>?_
    ·obtain ⟨x,hx⟩:∃ x,P[a.toNat]?=some x:=⟨P[a.toNat]'(by lia),ae _⟩
     obtain ⟨y,hy⟩:∃ y,P[b.toNat]?=some y:=⟨P[b.toNat]'(by lia),ae _⟩
     have hix:=BA (a:=.pu) (b:=.pu) (show (0:Int)<=a by lia) (mK (f:=Da.int) hx)
     have hiy:=BA (a:=.pu) (b:=.pu) (show (0:Int)<=b by lia) (mK (f:=Da.int) hy)
     refine eE (ρ':=[.pu (.lst (S.map Da.int)),.pu (.int k),.pu (.int most),.pu (.int n),.pu (.int sh),.pu (.lst (P.map Da.int)),.ow (.lst ((T++[(x,y)]).map dP)),.pu (.int a),.pu (.int b)]) ?_ ⟨_,_,rfl,fun u v huv=>?_,?_⟩
     ·simp only [nK,uv,cb,fU,cQ,mH,fF,gr,aW,be,hix,hiy,iM,if_true,Option.map_some,aA,cT,af,cU]
      rw [if_pos (by decide)]
      dsimp only
      rw [if_pos ⟨rfl,by rw [af];lia⟩]
      rfl
     ·rcases aE.mp huv with z | z
      ·exact hT u v z
      ·rw [au] at z;cases z;exact ⟨a.toNat,b.toNat,by lia,hx,hy⟩
     ·rw [aH,aH,bF,bF];lia
    ·exact eE rfl ⟨_,_,rfl,hT,by rw [aH];lia⟩
   ·rintro ρ ⟨T,s8,rfl,hT,hl⟩
    rw [fH] at hl
    exact ⟨_,_,_,rfl,hT,by rw [aH,bF];lia⟩
  ·rintro ρ ⟨T,s7,s8,rfl,hT,hl⟩
   have rg:∀ p∈T,(0<=p.1/\p.1<n)/\0<=p.2/\p.2<n:=fun p hp=>by
    obtain ⟨i,j,_,a,b⟩:=hT p.1 p.2 hp
    exact ⟨(memP _).mp (aZ a),(memP _).mp (aZ b)⟩
   obtain ⟨L,hL,sL,mL⟩:=BE (X:=.lst (T.map dP)) (show 0<=n by lia) (by lia) (.inl rfl) rg fun U nd mU=>by
    have:=w8 (n:=n) nd (fun p hp=>((mU p.1 p.2).mp hp).rg rg) fun a b h1 h2=>((((mU a b).mp h1).tr ((mU b a).mp h2)).up ndP hT).irr ndP
    have h7:n.toNat<=12:=by lia
    have:=bR this (rM h7 h7)
    lia
   refine p7 (d:=dY n L) (by simp [frz,hL,dY]) ⟨L,rfl,sL,fun p hp=>((mL p.1 p.2).mp hp).rg rg,fun a ha=>?_,fun a b c h1 h2=>?_⟩
   ·exact (((mL a a).mp ha).up ndP hT).irr ndP
   ·exact (mL a c).mpr (((mL a b).mp h1).tr ((mL b c).mp h2))
 obtain ⟨d,e,L,rfl,h⟩:=key
 exact ⟨n,L,e,by lia,by lia,h⟩
end G
namespace Ry
open PySem PySem.Spec PyProof.Rows L2 G
theorem ss:∀ {n:Nat} {lo:Int} {i:Nat},i<n->(rgI lo n)[i]?=some (lo+i)
 | n+1,lo,0,_=>by show some lo=_;simp
 | n+1,lo,i+1,h=>by
   show (rgI (lo+1) n)[i]?=_
   rw [ss (by lia)]
   congr 1
   lia
theorem ol {α β:Type} (f:α->β):∀ (l:List α) (i:Nat),(l.eraseIdx i).map f=(l.map f).eraseIdx i
 | [],_=>rfl
 | a::l,0=>rfl
 | a::l,i+1=>by
   show f a::(l.eraseIdx i).map f=f a::(l.map f).eraseIdx i
   rw [ol f l i]
theorem uX {K:PySem.W.Frag} {Gp H:Hp} {ds:List Da} {d:Da} {vs:List V} {Q:VK} {y0 y1 y2:Str} (hl:ds.length=2) (sg:bY Gp H) (tg:Tbs K Gp) (dl:bT K Gp ds vs) (ef:G.fn__law_perm ds=some d) (k:∀ v G' H',Ext Gp H G' H'->Den K G' d v->Q v H') :
 mR (yE (tX K (g4 (aB (aJ 1) bO))) (jr 2))
  (C3 (sj (mpS [none,none,none,some 0,some 2,some 1]) (iX K (mQ (aB (aJ 1) bO))) (jr 1) (fun _ H Q=>Q true H)
    (tBM K "list" uO (kF 4) (uf (tX K (bU G.fn__law_mix (aB (x2 jO (aJ 3) (x2 (oI nh (·*·)) (xC (.int 5)) (aJ 1))) (aB (xC (.int 9967)) (aB (x2 (oI (fun _ _=>true) (·-·)) (aJ 5) (aJ 1)) bO))))) C4)))) { nx:=fun _ H'=>Q V.non H',rt:=Q } (L2.start [y0,y1,y2] vs) H:=by
 have hs:sizeLine=16777216:=sizeLine_eq
 match ds,hl with
 | [d0,d1],_ =>
   have ⟨c,m,e0,e1⟩:∃ c m,d0=.int c/\d1=.int m:=by
    cases d0<;>cases d1<;>first | exact ⟨_,_,rfl,rfl⟩ | cases ef
   subst e0 e1
   have ef:(if 0<=m/\m<=1000 then some (Da.lst ((vv c m m.toNat 0 (rgI 0 m.toNat)).map Da.int)) else none)=some d:=ef
   split at ef
   case isFalse=>cases ef
   case isTrue hm =>
   cases ef
   obtain ⟨v0,r,ev,h0,v1,r1,ev1,h1,er⟩:=dl
   cases (show v0=_ from h0)
   cases (show v1=_ from h1)
   cases (show r1=[] from er)
   subst ev1
   subst ev
   show mR _ _ _ [some (.int c),some (.int m),none] H
   have st0:∀ {B Gx Hx:Hp} {s2:Option V},Tbs K Gx->fV K B Gx Hx [some (.int c),some (.int m),s2] [.pu (.int c),.pu (.int m),.no]:=fun {B Gx Hx s2} tg=>by
    refine ⟨rfl,fun i d e=>?_,fun i d e=>?_,fun i j d d' l _ e=>?_,tg⟩
    ·match i,e with
     | 0,e=>cases e;exact ⟨_,rfl,rfl⟩
     | 1,e=>cases e;exact ⟨_,rfl,rfl⟩
     | 2,e=>cases e
    ·match i,e with
     | 0,e=>cases e
     | 1,e=>cases e
     | 2,e=>cases e
    ·match i,e with
     | 0,e=>cases e
     | 1,e=>cases e
     | 2,e=>cases e
   refine ⟨H,Gp,_,(.fr,.lst (d8 0 m.toNat)),sg,bY.refl _,st0 tg,?_,fun v G1 H1 E1 r1=>?_⟩
   ·show (if -(2 ^ 62)<=m/\m<=1000000 then _ else none)=_
    rw [if_pos (by lia)]
   obtain ⟨l,o,rfl,hl0,gl0,hl1,xs,rfl,dxs⟩:=r1
   rw [eD] at dxs
   have exs:=bT.ints.mp dxs
   subst exs
   refine ⟨H,G1,_,d8 0 m.toNat,E1.gh,E1.hh,st0 (tg.mono E1.gg),?_,fun J G2 H2 E2 it p hp=>?_⟩
   ·show (if -(2 ^ 62)<=m/\m<2 ^ 62 then _ else none)=_
    rw [if_pos (by lia)]
   have E02:=E1.trans E2
   have hl2:=E2.hh _ _ hl1
   have gl2:G2 l=none:=E2.nw _ _ hl1 rfl gl0
   have hp0:H p=none:=E02.hh.free hp
   have gp2:G2 p=none:=E02.gh.free hp
   have hlp:l≠p:=fun z=>by rw [z,hp] at hl2;cases hl2
   refine ⟨fun i n σ ys H'=>n=m.toNat-i/\i<=m.toNat/\∃ Gc s1 left don,σ=[none,s1,none,some (.int c),some (.ref l),some (.int m)]/\Ext Gp H Gc H'/\bY G2 Gc/\Gc l=none/\Gc p=none/\H' l=some (.lst (left.map V.int))/\H' p=some (.lst ys)/\ys=don.map V.int/\left.length=m.toNat-i/\don.length=i/\don++vv c m (m.toNat-i) i left=vv c m m.toNat 0 (rgI 0 m.toNat),
    ⟨m.toNat,by simp,aU _,G2,_,rgI 0 m.toNat,[],rfl,E02.trans (Ext.own E02.gh hp),bY.refl _,gl2,gp2,by rw [bf hlp];exact hl2,aS,rfl,by rw [fH];lia,rfl,by simp⟩,?_⟩
   rintro i n σ ys H' ⟨rfl,hi,Gc,s1,left,don,rfl,Ec,sc,gl,gp,hl',hp',rfl,lleft,ldon,epop⟩
   refine ⟨hp',by rw [af];lia,?_⟩
   have lenM:(d8 0 m.toNat).length=m.toNat:=by rw [eD,af,fH]
   by_cases hlt:i<m.toNat
   ·obtain ⟨hgo,hy⟩:=(it i Gc H' sc Ec.gh).1 (Da.int (i:Int)) (by rw [eD,av,ss hlt];simp)
    refine .inr ⟨hgo,fun x H3 yl=>?_⟩
    obtain ⟨G3,E3,dx⟩:=hy x H3 yl
    cases (show x=_ from dx)
    have Ec3:=Ec.trans E3
    have iteX:∀ {A B:Prop},A->(if true=true then A else B):=fun {A B} h=>by rw [if_pos rfl];exact h
    unfold jr
    dsimp only
    refine iteX ?_
    have st3:fV K H G3 H3 [none,some (.int (i:Int)),none,some (.int c),some (.ref l),some (.int m)] [.no,.pu (.int i),.no,.pu (.int c),.no,.pu (.int m)]:=by
     refine ⟨rfl,fun j d e=>?_,fun j d e=>?_,fun j j' d d' l _ e=>?_,tg.mono Ec3.gg⟩
     ·match j,e with
      | 0,e=>cases e
      | 1,e=>cases e;exact ⟨_,rfl,rfl⟩
      | 2,e=>cases e
      | 3,e=>cases e;exact ⟨_,rfl,rfl⟩
      | 4,e=>cases e
      | 5,e=>cases e;exact ⟨_,rfl,rfl⟩
     ·match j,e with
      | 0,e=>cases e
      | 1,e=>cases e
      | 2,e=>cases e
      | 3,e=>cases e
      | 4,e=>cases e
      | 5,e=>cases e
     ·match j,e with
      | 0,e=>cases e
      | 1,e=>cases e
      | 2,e=>cases e
      | 3,e=>cases e
      | 4,e=>cases e
      | 5,e=>cases e
    have hl3:=E3.hh _ _ hl'
    refine ⟨_,rfl,.inl ⟨rfl,_,SqL.of hl3⟩,H,G3,_,(.pu,.int ((c+5*(i:Int))*48271%9967%(m-i))),Ec3.gh,Ec3.hh,st3,?_,fun v G4 H4 E4 r4=>?_⟩
    ·have hmix:=nq (c+5*(i:Int)) 9967 (m-i) (by decide) (by lia)
     have hcm:nh 5 (i:Int)=true:=by simp [nh]
     simp [hmix,hcm]
    ·cases (show v=_ from r4)
     generalize hidx:(c+5*(i:Int))*48271%9967%(m-i)=idx
     have hmp:0<m-(i:Int):=by lia
     have hi0:0<=idx:=by rw [<- hidx];exact jc _ (by lia)
     have hi1:idx<m-i:=by rw [<- hidx];exact gF _ hmp
     have hlt2:idx.toNat<left.length:=by lia
     have hl4:=E4.hh _ _ hl3
     have hp4:=E4.hh _ _ (E3.hh _ _ hp')
     refine ⟨l,left.map V.int,idx,idx.toNat,.int (left.getD idx.toNat 0),rfl,rfl,hl4,by lia,by lia,?_,?_,?_⟩
     ·rw [af]
      exact (o9 (by unfold ixN;rw [if_pos hi0,if_pos (by lia)])).1
     ·rw [av,getD_some hlt2 0];rfl
     ·have E34:=E3.trans E4
      have gl4:G4 l=none:=E34.nw _ _ hl' rfl gl
      have gp4:G4 p=none:=E34.nw _ _ hp' rfl gp
      have Ec4:=Ec.trans E34
      refine ⟨by rw [bf hlp.symm];exact hp4,m.toNat-(i+1),by lia,rfl,hlt,G4,_,left.eraseIdx idx.toNat,don++[left.getD idx.toNat 0],rfl,(Ec4.mut hl0 gl4).mut hp0 gp4,sc.trans E34.gg,gl4,gp4,?_,aS,by rw [cU];rfl,?_,by rw [aH,bF,ldon],?_⟩
      ·rw [bf hlp,aS,ol]
      ·rw [d4 hlt2];lia
      ·rw [<- epop]
       have ef:m.toNat-i=(m.toNat-(i+1))+1:=by lia
       rw [ef]
       show _=don++(left.getD ((c+5*(i:Int))*48271%9967%(m-(i:Int))).toNat 0::vv c m (m.toNat-(i+1)) ((i:Int)+1) (left.eraseIdx ((c+5*(i:Int))*48271%9967%(m-(i:Int))).toNat))
       rw [hidx,aX]
       rfl
   ·have ei:i=m.toNat:=by lia
    subst ei
    refine .inl ⟨(it m.toNat Gc H' sc Ec.gh).2 lenM,?_⟩
    rw [Nat.sub_self] at epop
    have epop':don=vv c m m.toNat 0 (rgI 0 m.toNat):=by rw [<- epop];exact (bH _).symm
    refine k _ (upd Gc p (.lst (don.map V.int))) H' ⟨Ec.hh,Ec.gg.trans (bB gp),fun b u z=>?_,fun b u z t w=>?_⟩ ⟨p,_,rfl,SqL.of aS,by rw [<- epop'];exact bT.ints.mpr rfl⟩
    ·by_cases hb:b=p
     ·subst hb;rw [aS] at z;rw [<- z];exact hp'
     ·rw [bf hb] at z;exact Ec.gh b u z
    ·rw [bf (bI z hp0)];exact Ec.nw b u z t w
end Ry
set_option linter.unusedSimpArgs false
namespace Ry
open PySem L2
noncomputable def fC:UD->Int->List Int
 | [],_=>[]
 | (x,l)::D,a=>if x=a then l else fC D a
theorem lp {l:List Int} {b x:Int}:x∈fB l b↔x∈l\/x=b:=by
 unfold fB
 split
 ·constructor
  ·exact .inl
  ·rintro (h | h)
   ·exact h
   ·subst h;assumption
 ·rw [aE,au]
theorem lz:∀ (D:UD) (a b x:Int),fC (fY D a b) x=if a=x then fB (fC D a) b else fC D x
 | [],a,b,x=>by
   show (if a=x then [b] else [])=_
   split<;>rfl
 | (y,l)::D,a,b,x=>by
   by_cases h:y=a
   ·subst h
    show fC (if y=y then (y,fB l b)::D else _) x=_
    rw [if_pos rfl]
    show (if y=x then fB l b else fC D x)=if y=x then fB (if y=y then l else _) b else if y=x then l else fC D x
    rw [if_pos rfl]
    split<;>rfl
   ·show fC (if y=a then _ else (y,l)::fY D a b) x=_
    rw [if_neg h]
    show (if y=x then l else fC (fY D a b) x)=if a=x then fB (if y=a then l else fC D a) b else if y=x then l else fC D x
    rw [if_neg h,lz D a b x]
    by_cases h2:a=x
    ·subst h2;rw [if_neg h,if_pos rfl,if_pos rfl]
    ·rw [if_neg h2,if_neg h2]
theorem lI:∀ (D:UD) (a b x:Int),x∈(fY D a b).map (·.1)↔x∈D.map (·.1)\/x=a
 | [],a,b,x=>by simp [fY]
 | (y,l)::D,a,b,x=>by
   unfold fY
   split
   ·rename_i h
    subst h
    simp only [aC,ah]
    constructor
    ·exact .inl
    ·rintro (z | z)
     ·exact z
     ·exact .inl z
   ·rw [aC,ah,aC,ah,lI D a b x,or_assoc]
theorem nQ:∀ (D:UD) (a b:Int),(D.map (·.1)).Nodup->((fY D a b).map (·.1)).Nodup
 | [],a,b,_=>by simp [fY]
 | (y,l)::D,a,b,h=>by
   unfold fY
   split
   ·exact h
   ·rename_i hne
    rw [aC,aV] at h ⊢
    refine ⟨fun z=>?_,nQ D a b h.2⟩
    rcases (lI D a b y).mp z with z | z
    ·exact h.1 z
    ·exact hne z
structure C6 (T:List PI) (D:UD):Prop where
 get:∀ a b,b∈fC D a↔(a,b)∈T
 key:∀ a,a∈D.map (·.1)↔∃ b,(a,b)∈T
 nd:(D.map (·.1)).Nodup
 ndv:∀ a,(fC D a).Nodup
theorem gW {l:List Int} {b:Int} (h:l.Nodup):(fB l b).Nodup:=by
 unfold fB
 split
 ·exact h
 ·rename_i hn
  exact cx.mpr ⟨h,bj _ _,fun a ha c hc=>by rw [au] at hc;subst hc;intro z;subst z;exact hn ha⟩
theorem qu:∀ (T T0:List PI) (D:UD),C6 T0 D->C6 (T0++T) (T.foldl (fun D p=>fY D p.1 p.2) D)
 | [],T0,D,h=>by rw [bH];exact h
 | p::T,T0,D,h=>by
   have:=qu T (T0++[p]) (fY D p.1 p.2) ⟨fun a b=>?_,fun a=>?_,nQ _ _ _ h.nd,fun a=>?_⟩
   ·rw [aX] at this;exact this
   ·rw [lz]
    by_cases e:p.1=a
    ·subst e
     rw [if_pos rfl,lp,h.get,aE,au]
     constructor
     ·rintro (z | z)
      ·exact .inl z
      ·subst z;exact .inr rfl
     ·rintro (z | z)
      ·exact .inl z
      ·right;rw [<- z]
    ·rw [if_neg e,h.get,aE,au]
     constructor
     ·exact .inl
     ·rintro (z | z)
      ·exact z
      ·exact absurd (by rw [<- z]) e
   ·rw [lI,h.key]
    constructor
    ·rintro (⟨b,z⟩ | z)
     ·exact ⟨b,cp _ z⟩
     ·subst z;exact ⟨p.2,by simp⟩
    ·rintro ⟨b,z⟩
     rcases aE.mp z with z | z
     ·exact .inl ⟨b,z⟩
     ·rw [au] at z;right;rw [<- z]
   ·rw [lz]
    split
    ·exact gW (h.ndv _)
    ·exact h.ndv a
theorem gv (T:List PI):C6 T (upp T):=by
 exact qu T [] [] ⟨by simp [fC],by simp,.nil,fun a=>.nil⟩
theorem lR:∀ T:List PI,cC (T.map dP)=some T
 | []=>rfl
 | p::T=>by show (cC (T.map dP)).map ((p.1,p.2)::·)=_;rw [lR T];rfl
theorem wX {T:List PI} (h:T.length<=1000):fn_uppers_of [.tup (T.map dP)]=some (dU (upp T)):=by
 unfold fn_uppers_of;dsimp only;rw [lR];dsimp only;rw [if_pos h]
theorem wO {T:List PI} (h:T.length<=1000):fn_uppers_of [.lst (T.map dP)]=some (dU (upp T)):=by
 unfold fn_uppers_of;dsimp only;rw [lR];dsimp only;rw [if_pos h]
theorem BW:∀ (D:UD) (a:Int),atK (D.map fun e=>(Sum.inl e.1:Key)) (D.map fun e=>dD e.2) (Sum.inl a)=if a∈D.map (·.1) then some (dD (fC D a)) else none
 | [],a=>by simp [atK]
 | (y,l)::D,a=>by
   show (if (Sum.inl y:Key)=Sum.inl a then some (dD l) else atK (D.map fun e=>(Sum.inl e.1:Key)) (D.map fun e=>dD e.2) (Sum.inl a))=_
   by_cases h:y=a
   ·subst h
    rw [if_pos rfl,if_pos (by simp)]
    simp [fC]
   ·rw [if_neg (fun z=>h (Sum.inl.inj z)),BW D a]
    have e1:(a∈((y,l)::D).map (·.1))↔a∈D.map (·.1):=by
     rw [aC,ah]
     constructor
     ·rintro (z | z)
      ·exact absurd z.symm h
      ·exact z
     ·exact .inr
    have e2:fC ((y,l)::D) a=fC D a:=by show (if y=a then l else fC D a)=_;rw [if_neg h]
    rw [e2]
    by_cases h3:a∈D.map (·.1)
    ·rw [if_pos h3,if_pos (e1.mpr h3)]
    ·rw [if_neg h3,if_neg (fun z=>h3 (e1.mp z))]
theorem p4 (D:UD) (a:Int):kC (dU D) (.int a)=some (if a∈D.map (·.1) then some (dD (fC D a)) else none):=by
 show some (atK _ _ (Sum.inl a))=_
 rw [BW]
theorem jU:∀ {D:UD} {a:Int},a∉D.map (·.1)->fC D a=[]
 | [],_,_=>rfl
 | (y,l)::D,a,h=>by
   rw [aC,ah] at h
   unfold fC
   rw [if_neg (fun z=>h (.inl z.symm)),jU fun z=>h (.inr z)]
theorem xu (D:UD) (a:Int) (f g:Rho->Option Rv) (ρ:Rho) {k k':Kd} (hf:f ρ=some (k,dU D)) (hg:g ρ=some (k',.int a)) :
 eU (g6 f g (xC2 (.fr,.dK [] []))) ρ=some (.pu,dD (fC D a)):=by
 simp only [uM,oY,hf,hg,zz,p4]
 by_cases h:a∈D.map (·.1)
 ·rw [if_pos h]
 ·rw [if_neg h,jU h];rfl
theorem uU {f:Rho->Option Rv} {ρ:Rho} {l:List Int} (h:f ρ=some (.pu,dD l)):bJ f ρ=some (l.map Da.int):=by
 simp only [lD,h,dD,aT]
 rfl
end Ry
namespace Rx
open PySem PySem.Spec PyProof.Rows L2 Ry
structure Kp (fr x:List Addr) (h h':Heap):Prop where
 keep:∀ b o,b∉fr->b∉x->h.get? b=some o->h'.get? b=some o
 slot:∀ b o,b∈fr->b∉x->h.get? b=some o->∃ sl,h'.get? b=some { o with slots:=sl }
theorem Kp.trans {fr x:List Addr} {h h1 h2:Heap} (a:Kp fr x h h1) (b:Kp fr x h1 h2):Kp fr x h h2 :=
 ⟨fun c o n1 n2 e=>b.keep c o n1 n2 (a.keep c o n1 n2 e),fun c o n1 n2 e=>by
   obtain ⟨s1,e1⟩:=a.slot c o n1 n2 e
   obtain ⟨s2,e2⟩:=b.slot c _ n1 n2 e1
   exact ⟨s2,e2⟩⟩
theorem Kp.mono {fr x y:List Addr} {h h':Heap} (a:Kp fr x h h') (s:∀ b∈x,b∈y):Kp fr y h h':=⟨fun c o n1 n2 e=>a.keep c o n1 (fun z=>n2 (s c z)) e,fun c o n1 n2 e=>a.slot c o n1 (fun z=>n2 (s c z)) e⟩
theorem Kp.any {fr x:List Addr} {h h':Heap} (a:Kp fr x h h') {b:Addr} {o:Obj} (n:b∉x) (e:h.get? b=some o):∃ sl,h'.get? b=some { o with slots:=sl }:=by
 by_cases hb:b∈fr
 ·exact a.slot b o hb n e
 ·exact ⟨o.slots,a.keep b o hb n e⟩
noncomputable def Ex (h:Heap) (e:Addr) (C:Value) (T:Addr) (fl:Value):Prop:=∃ vs sl oT ts,h.get? e=some ⟨C,none,.fields vs,sl⟩/\vs[1]?=some (.ref T)/\T≠e/\h.get? T=some oT/\oT.data=.fields ts/\ts[3]?=some fl
section
variable {M:Model} {A:Around} {E:Value->Shared->Prop} {s:Shared}
theorem xq {base:Heap} {env:Env} {outer:List Env} {L e:Addr} {C:Value} {sl:Array (Option Value)} {vs:Array Value} {head:Value} {hadNext:Bool} {Q:Unit->Shared->Prop}
 (hfr:A.frames=some (env::outer)) (hl:s.heap.FunFrames base (env::outer)) (hf:env.frame=some L) (he:s.heap.get? e=some ⟨C,none,.fields vs,sl⟩) (hsz:1<vs.size)
 (h:∀ h' T,Kp (frs (env::outer)) [e] s.heap h'->s.heap.get? T=none->Ex h' e C T (rawInt L)->Q () { s with heap:=h' }) :
 wpAny M A (do let a <- frameOf env;let pl <- entryPlaceOf L hadNext;let b <- EntryCells.newEntry head a .none (rawInt L) .none pl;setField (.ref e) 1 b) Q E s:=by
 have hne:e∉frs (env::outer):=fun hm=>by
  obtain ⟨_,o,ho,hnf⟩:=hl.mem hm
  rw [he] at ho;cases ho
  exact hnf vs rfl
 refine wpAny_bind (wpAny_frameOf_fun hfr hl hf fun h1 hs1=>?_)
 refine wpAny_bind (wpAny_entryPlaceOf fun pl hpl=>?_)
 unfold EntryCells.newEntry newFields
 have h3:([head,.ref L,.none,rawInt L,.none]++(if pl.isEmpty then jv 6 Value.none else pl)).toArray[3]?=some (rawInt L):=by
  rw [iR]
  rfl
 refine wpAny_bind (wpAny_newObj_type ?_ (hpl.sizeOk5 _ _ _ _ _))
 generalize hts:([head,.ref L,.none,rawInt L,.none]++(if pl.isEmpty then jv 6 Value.none else pl)).toArray=ts at h3
 have he1:h1.get? e=some ⟨C,none,.fields vs,sl⟩:=(hs1.2.1 e hne).trans he
 have he2:=aa (h:=h1) { cls:=.type "traceback",dict:=none,data:=.fields ts } he1
 refine wpAny_setField he2 rfl hsz ?_
 have hTe:h1.objs.size≠e:=mS (aw he1)
 have oth:∀ b o,b≠e->h1.get? b=some o->((h1.push { cls:=.type "traceback",dict:=none,data:=.fields ts }).update e (bt (·.setIfInBounds 1 (Value.ref h1.objs.size)))).get? b=some o:=fun b o hb q=>by
  rw [aG _ _ (Ne.symm hb)]
  exact aa _ q
 have he3:=aY (bt (·.setIfInBounds 1 (Value.ref h1.objs.size))) he2 rfl
 refine h _ h1.objs.size ⟨fun b o n1 n2 q=>oth b o (fun z=>n2 (by simp [z])) ((hs1.2.1 b n1).trans q),fun b o n1 n2 q=>?_⟩ ?_ ⟨_,_,{ cls:=.type "traceback",dict:=none,data:=.fields ts },ts,he3,?_,hTe,?_,rfl,h3⟩
 ·obtain ⟨sl',q'⟩:=hs1.2.2 b o q
  exact ⟨sl',oth b _ (fun z=>n2 (by simp [z])) q'⟩
 ·rw [hs1.1]
  exact xg (ag _)
 ·simp [hsz]
 ·rw [aG _ _ (Ne.symm hTe)]
  exact aj _ rfl
theorem rm {base:Heap} {env:Env} {outer:List Env} {L e:Addr} {C:Value} {sl:Array (Option Value)} {vs:Array Value} {Q:Unit->Shared->Prop}
 (hfr:A.frames=some (env::outer)) (hl:s.heap.FunFrames base (env::outer)) (hf:env.frame=some L) (he:s.heap.get? e=some ⟨C,none,.fields vs,sl⟩) (h1:vs[1]?=some .none)
 (h:∀ h' T,Kp (frs (env::outer)) [e] s.heap h'->s.heap.get? T=none->Ex h' e C T (rawInt L)->Q () { s with heap:=h' }):wpAny M A (noteFrame (.ref e) env) Q E s:=by
 unfold noteFrame
 simp only [hf]
 refine wpAny_bind (wpAny_field he rfl h1 ?_)
 rw [if_neg (by decide)]
 exact xq hfr hl hf he (bZ.mp h1).1 h
theorem sE {base:Heap} {env:Env} {outer:List Env} {L e T:Addr} {C:Value} {Q:Unit->Shared->Prop}
 (hfr:A.frames=some (env::outer)) (hl:s.heap.FunFrames base (env::outer)) (hf:env.frame=some L) (X:Ex s.heap e C T .none)
 (h:∀ h' T',Kp (frs (env::outer)) [e,T] s.heap h'->s.heap.get? T'=none->Ex h' e C T' (rawInt L)->Q () { s with heap:=h' }):wpAny M A (noteFrame (.ref e) env) Q E s:=by
 obtain ⟨vs,sl,oT,ts,he,h1,hTe,hT,hd,h3⟩:=X
 unfold noteFrame
 simp only [hf]
 refine wpAny_bind (wpAny_field he rfl h1 ?_)
 rw [if_pos (show (Value.ref T != Value.none)=true from by simp)]
 refine wpAny_bind (wpAny_field hT hd h3 ?_)
 rw [if_neg (show ¬ ((Value.none == rawInt L)=true) from by simp [rawInt])]
 refine wpAny_bind (wpAny_setField hT hd (bZ.mp h3).1 ?_)
 have oth:∀ b,b≠T->(s.heap.update T (bt (·.setIfInBounds 3 Value.none))).get? b=s.heap.get? b:=fun b hb=>aG _ _ (Ne.symm hb)
 have nfT:∀ b o,s.heap.get? b=some o->(∀ vs,o.data≠.fields vs)->b≠T:=fun b o q n z=>by
  rw [z,hT] at q;cases q
  exact n ts hd
 refine xq (base:=base) hfr (hl.of_keeps fun b o q n=>⟨o,(oth b (nfT b o q n)).trans q,rfl⟩) hf ((oth e (Ne.symm hTe)).trans he) (bZ.mp h1).1 fun h' T' k n X'=>h h' T' ⟨fun b o n1 n2 q=>?_,fun b o n1 n2 q=>?_⟩ ?_ X'
 ·exact k.keep b o n1 (fun z=>n2 (by simp at z;simp [z])) ((oth b (fun z=>n2 (by simp [z]))).trans q)
 ·exact k.slot b o n1 (fun z=>n2 (by simp at z;simp [z])) ((oth b (fun z=>n2 (by simp [z]))).trans q)
 ·by_cases z:T'=T
  ·subst z
   have:=aY (bt (·.setIfInBounds 3 Value.none)) hT (bN (bA hd _))
   rw [n] at this;cases this
  ·rw [oth T' z] at n;exact n
theorem mn {e T:Addr} {C fl:Value} {Q:Unit->Shared->Prop} (X:Ex s.heap e C T fl) (h:∀ h',(∀ b o,b≠T->s.heap.get? b=some o->h'.get? b=some o)->Ex h' e C T .none->Q () { s with heap:=h' }):wpAny M A (setFlight (.ref e) none) Q E s:=by
 obtain ⟨vs,sl,oT,ts,he,h1,hTe,hT,hd,h3⟩:=X
 have hsz:3<ts.size:=(bZ.mp h3).1
 unfold setFlight
 refine wpAny_bind (wpAny_field he rfl h1 ?_)
 rw [if_pos (show (Value.ref T != Value.none)=true from by simp)]
 have oth:∀ b,b≠T->(s.heap.update T (bt (·.setIfInBounds 3 ((none:Option Addr).elim Value.none fun f=>rawInt f)))).get? b=s.heap.get? b:=fun b hb=>aG _ _ (Ne.symm hb)
 refine wpAny_setField hT hd hsz (h _ (fun b o n q=>(oth b n).trans q) ⟨vs,sl,_,_,(oth e (Ne.symm hTe)).trans he,h1,hTe,aY _ hT (bN (bA hd _)),bA hd _,by simp [hsz]⟩)
end
end Rx
namespace Rx
open PySem PySem.Spec PyProof.Rows L2 Ry
section
variable {P:Program} {w:World} {H:Hp} {h h':Heap} {a:Addr} {o:HO}
theorem Bw (x:eG P w H h a o):∃ u,h.get? a=some u:=by
 cases o with
 | lst xs=>obtain ⟨_,_,_,_,e⟩:=x;exact ⟨_,e⟩
 | tup xs=>obtain ⟨_,_,_,_,e,_⟩:=x;exact ⟨_,e⟩
 | dK kvs=>obtain ⟨_,_,_,_,_,_,_,e,_⟩:=x;exact ⟨_,e⟩
 | dT kvs=>obtain ⟨_,_,_,_,_,_,_,e,_⟩:=x;exact ⟨_,e⟩
 | set S n=>obtain ⟨_,_,_,_,e,_⟩:=x;exact ⟨_,e⟩
 | ins C dx fs=>obtain ⟨_,_,_,e,_⟩:=x;exact ⟨_,e⟩
 | own y=>obtain ⟨_,e⟩:=x;exact ⟨_,e⟩
 | xd fs=>obtain ⟨_,⟨_,_,_,e,_⟩,_⟩:=x;exact ⟨_,e⟩
 | rng lo hi=>obtain ⟨_,_,_,e⟩:=x;exact ⟨_,e⟩
 | frz ob u=>obtain ⟨e,_⟩:=x;exact ⟨_,e⟩
 | tbl ps=>exact ⟨_,(show h.get? a=some _ from x)⟩
 | tab q=>obtain ⟨_,e,_⟩:=x;exact ⟨_,e⟩
 | cod q=>obtain ⟨c,_,_,_,e0,e,_⟩:=x;cases e0;exact ⟨_,e⟩
 | met f y=>exact ⟨_,(show h.get? a=some _ from x)⟩
 | ext φ=>obtain ⟨_,⟨_,e⟩,_⟩:=x;exact ⟨_,e⟩
theorem pz (ok:HOk P w H h) (n:h.get? a=none):H a=none:=by
 cases q:H a with
 | none=>rfl
 | some u=>obtain ⟨u',e⟩:=Bw (ok a u q);rw [n] at e;cases e
theorem xY {fr x:List Addr} (ok:HOk P w H h) (k:Kp fr x h h') (hf:∀ b∈fr,H b=none) (hx:∀ b∈x,H b=none):HOk P w H h':=fun b u e =>
 (ok b u e).stay (fun c v hc q=>by
   have nn:H c≠none:=by
    rcases hc with z | z
    ·rw [z,e];exact fun z=>nomatch z
    ·rw [z];exact fun z=>nomatch z
   exact k.keep c v (fun z=>nn (hf c z)) (fun z=>nn (hx c z)) q) (fun _ q=>q) (fun _ _ q=>q) fun _ _ q=>q
end
noncomputable def CX1 (P:Program) (w:World) (C:Value):CXT:=fun outer H s E ev s'=>∃ e T H',ev=.ref e/\Ex s'.heap e C T .none/\s.heap.get? e=none/\s.heap.get? T=none/\s'.os=s.os/\AllBare s'.gens/\Un (frs outer) [] H H' s.heap s'.heap/\HOk P w H' s'.heap/\H' e=none/\H' T=none/\E .none none H'
section
variable {X:Cx} {pins:List (Addr×Obj)} {σ:L2.St} {H:Hp} {s:Shared} {h':Heap}
theorem uZ {ch:List Addr} (I:Inv X pins σ H s) (k:Kp (frs X.stack) ch s.heap h') (hch:∀ b∈ch,X.s₀.heap.get? b=none/\b≠X.env.locals/\(∀ x c,X.env.cells.lookup x=some c->c≠b)/\(∀ p∈X.pn++pins,p.1≠b)/\H b=none) :
 Inv X pins σ H { s with heap:=h' }:=by
 have neL:∀ b o,X.s₀.heap.get? b=some o->b≠X.env.locals:=fun b o e=>aL (aM (aw e) I.ok.above)
 have neC:∀ b o,X.s₀.heap.get? b=some o->b∉ch:=fun b o e hb=>by rw [(hch b hb).1] at e;cases e
 have nst:∀ b,b≠X.env.locals->b∉X.fs->b∉frs X.stack:=fun b n1 n2 z=>(ah.mp (I.stkSub b z)).elim n1 n2
 have cellK:∀ x c,X.env.cells.lookup x=some c->∀ v,s.heap.IsCell c v->h'.IsCell c v:=fun x c e v ⟨o,ho,hd⟩=>by
  obtain ⟨sl,q⟩:=k.any (fun z=>(hch c z).2.2.1 x c e rfl) ho
  exact ⟨_,q,hd⟩
 refine ⟨I.ok,I.os,I.bare,⟨fun b o e n hb hx=>?_,fun b o e n hb hx=>?_,I.base.free,fun b o e hx=>?_,I.base.tups,I.base.frzs,I.base.tbls⟩,?_,fun x c e=>?_,I.free,I.freeC,fun p hp=>?_,xY I.hok k I.stkFree fun b hb=>(hch b hb).2.2.2.2,I.len⟩
 ·exact k.keep b o (nst b (neL b o e) hb) (neC b o e) (I.base.keep b o e n hb hx)
 ·obtain ⟨sl,e1⟩:=I.base.slot b o e n hb hx
  obtain ⟨sl',e2⟩:=k.any (neC b o e) e1
  exact ⟨sl',e2⟩
 ·obtain ⟨o',e1⟩:=I.base.there b o e hx
  obtain ⟨sl',e2⟩:=k.any (neC b o e) e1
  exact ⟨_,e2⟩
 ·obtain ⟨m,⟨o,es,ep,ho,r⟩,hl⟩:=I.loc
  obtain ⟨sl,q⟩:=k.any (fun z=>(hch _ z).2.1 rfl) ho
  refine ⟨m,⟨_,es,ep,q,r⟩,fun i x v e1 e2 e3=>?_⟩
  obtain ⟨u,ru,l⟩:=hl i x v e1 e2 e3
  refine ⟨u,ru,?_⟩
  rcases l with l | ⟨kk,c,e,z⟩
  ·exact .inl l
  ·exact .inr ⟨kk,c,e,cellK x c e _ z⟩
 ·obtain ⟨v,z⟩:=I.cell x c e
  exact ⟨v,cellK x c e v z⟩
 ·obtain ⟨e,n,ne,nf,d⟩:=I.pin p hp
  exact ⟨k.keep p.1 p.2 (nst p.1 ne nf) (fun z=>(hch p.1 z).2.2.2.1 p hp rfl) e,n,ne,nf,d⟩
end
theorem PS.nox {X:Cx} {st:Stmt} {t:TS} (h:PS X.nox st t):PS X st t:=fun pins s σ H D I hw =>
 wpAny_mono (h pins s σ H D (I.wish _) hw) (fun _ _ q=>q.unwish) fun _ _ z=>False.elim z
theorem okX {P:Program} {w:World} {K:PySem.W.Frag} {mg:Str->Option Value} {base:Heap} {x qual:Str} {st:Stmt} {f:Addr} {fd:FuncData} {N ps:List Str} {k:Nat} {sp:Sp} {C:Value} (F:Fun K x qual st f fd) (S:cg N ps (az st)) (len:∀ vs H Q E,sp vs H Q E->vs.length=ps.length)
 (hbody:∀ (cdv:Value) (A:Around) (outer:List Env) (s:Shared) (H:Hp) (vs:List V) (Q:VK) (E:XK),fQ k (A.deeper (envOfC qual (az st) s.heap.objs.size f cdv))->sp vs H Q E ->
   ∃ t,PSs (g9 (CX1 P w C) P w K mg base N qual (az st) f cdv A outer s H E) (br st) t/\t { nx:=fun _ H'=>Q .non H',rt:=Q } (start N vs) H):pZ P w K mg base (CX1 P w C) (k+1) f fd ps sp:=by
 obtain ⟨oc,od,kV,doc,pm,an,cdv,ct,osl,rfl,lk,hcd⟩:=F.ex
 exact BB lk hcd S len fun A outer s H vs Q E hr hsp=>hbody cdv A outer s H vs Q E hr hsp
section
variable {P:Program} {w:World} {K:PySem.W.Frag} {mg:Str->Option Value} {base:Heap} {N:List Str} {qual:Str} {scope:Scope} {f:Addr} {cdv:Value} {A:Around} {outer:List Env} {s:Shared} {H:Hp} {E:XK} {C:Addr} {bm bmN:List Value} {B Bn newId nid initId inN:String}
theorem ps_raise {x:Str} {np cpos pos:Pos} {e₀:Expr} {te:TE} (hO:OwnCls x C bm newId mg base) (Fn:ExcBaseFacts Bn newId inN bmN) (hBn:bm.contains (.type Bn)=true) (FB:ExcBaseFacts B nid initId bm)
 (he:PE (g9 (CX1 P w (.ref C)) P w K mg base N qual scope f cdv A outer s H E) e₀ te) (hg:Gl (g9 (CX1 P w (.ref C)) P w K mg base N qual scope f cdv A outer s H E) x)
 (hs:starEach [e₀] (g9 (CX1 P w (.ref C)) P w K mg base N qual scope f cdv A outer s H E).env=[(false,eval e₀ (g9 (CX1 P w (.ref C)) P w K mg base N qual scope f cdv A outer s H E).env)]:=by rfl) (hdb:(x == ("__debug__" : Str))=false:=by decide) :
 PS (g9 (CX1 P w (.ref C)) P w K mg base N qual scope f cdv A outer s H E) (.Raise (some (.Call (.Name x np) [e₀] [] cpos)) none pos) (fun _ σ H1=>te σ H1 fun v H2=>([v]:List V).length=1/\E .none none H2):=by
 intro pins s1 σ H1 D I h
 generalize hX:g9 (CX1 P w (.ref C)) P w K mg base N qual scope f cdv A outer s H E=X at he hg hs I
 have hst:X.stack=X.env::outer:=by subst hX;rfl
 have hfs:X.fs=frs outer:=by subst hX;rfl
 have hex:X.ex=[]:=by subst hX;rfl
 have hs0:X.s₀=s:=by subst hX;rfl
 have hH0:X.H₀=H:=by subst hX;rfl
 have hP:X.prog=P:=by subst hX;rfl
 have hw:X.w=w:=by subst hX;rfl
 have hb:X.base=base:=by subst hX;rfl
 have hmg:X.mg=mg:=by subst hX;rfl
 have hf:X.env.frame=some X.env.locals:=by subst hX;rfl
 have hcalm:X.calm=true:=by subst hX;rfl
 have hxe:∀ ev s',wpAny (model X.prog X.w) X.A (leaving X.env ev) (fun _ s''=>CX1 P w (.ref C) outer H s E ev s'') (fun e' s''=>CX1 P w (.ref C) outer H s E e' s'') s'->X.xe ev s':=by subst hX;exact fun _ _ z=>z
 clear hX
 obtain ⟨tl,N',nm,q,bs,hdct,sn,sub,ab,col,dd,k0,k1,k2,k3,k5,mN,hC,hN,hni,T⟩:=hO.obj
 rw [<- hb] at hC hN T
 have hA:=(e7 he (iF (X:=X)) hs) cpos pins s1 σ H1 (fun vs H2=>vs.length=1/\E .none none H2) I h
 refine wpAny_Raise_call_subU (C:=C) (nm:=nm) (q:=q) (N:=N') (bs:=bs) (bm:=tl) (hdct:=hdct) (sn:=sn) (sub:=sub) (ab:=ab) (col:=col) (dd:=dd) (k0:=k0) (k1:=k1) (k2:=k2) (k3:=k3) (k5:=k5)
  Fn hBn FB (mN:=mN) (T.hasType FB.hasBase) (I.ok.hd hcalm) (by rw [hs];rfl) hni (mh I hg (by rw [hmg];exact hO.bound) ⟨rfl,?_⟩ hdb)
 rw [hs] at hA ⊢
 refine Calls.evalArgs_plain (thn hA fun us s2 ⟨vs,H2,I2,r,hl,qE⟩=>⟨rfl,?_,I2.bk _ _ hC,hN.keeps I2.bk,T.keeps I2.bk,fun h1 e hm=>hxe _ _ ?_⟩)
 ·rw [<- r.length,hl,sizeLine_eq];decide
 obtain ⟨t,ht,_,_⟩:=hm.there
 have I3:=I2.kept (t':=s2.toks) hm.keeps
 have hl3:=I3.stack
 rw [hst] at hl3
 unfold leaving
 refine wpAny_bind (rm (L:=X.env.locals) (by rw [<- hst];exact I3.ok.frames) hl3 hf ht rfl fun h2 T' kp nT X2=>?_)
 refine mn X2 fun h3 kf X3=>?_
 have n1:s.heap.get? e=none:=by
  cases q':s.heap.get? e with
  | none=>rfl
  | some o =>
    rw [<- hs0] at q'
    obtain ⟨o',z⟩:=I2.base.there e o q' (by rw [hex];exact fun z=>nomatch z)
    rw [hm.new] at z;cases z
 have n2:s.heap.get? T'=none:=by
  cases q':s.heap.get? T' with
  | none=>rfl
  | some o =>
    rw [<- hs0] at q'
    obtain ⟨o',z⟩:=I3.base.there T' o q' (by rw [hex];exact fun z=>nomatch z)
    rw [nT] at z;cases z
 have e1:H2 e=none:=pz I2.hok hm.new
 have e2:H2 T'=none:=pz I3.hok nT
 rw [<- hst] at kp
 have kp3:Kp (frs X.stack) [e,T'] h1 h3:=(kp.mono fun b hb=>by simp at hb;simp [hb]).trans ⟨fun b o _ n2 q=>kf b o (fun z=>n2 (by simp [z])) q,fun b o _ n2 q=>⟨o.slots,kf b o (fun z=>n2 (by simp [z])) q⟩⟩
 have hx2:∀ b∈[e,T'],H2 b=none:=fun b hb=>by
  rcases ah.mp hb with z | z
  ·rw [z];exact e1
  ·rw [au] at z;rw [z];exact e2
 have nx:∀ b o,s.heap.get? b=some o->b∉[e,T']:=fun b o q' hb=>by
  rcases ah.mp hb with z | z
  ·rw [z,n1] at q';cases q'
  ·rw [au] at z;rw [z,n2] at q';cases q'
 have nL:∀ b o,s.heap.get? b=some o->b≠X.env.locals:=fun b o q'=>aL (aM (aw q') (by rw [<- hs0];exact I3.ok.above))
 have hbase:Un (frs outer) [] H H2 s.heap h1:=by
  have:=I3.base
  rw [hfs,hex,hH0,hs0] at this
  exact this
 refine ⟨e,T',H2,rfl,X3,n1,n2,?_,I2.bare,⟨fun b o q' n hb _=>?_,fun b o q' n hb _=>?_,hbase.free,fun b o q' hx=>?_,hbase.tups,hbase.frzs,hbase.tbls⟩,?_,e1,e2,qE⟩
 ·rw [<- hs0];exact I2.os
 ·refine kp3.keep b o (fun z=>?_) (nx b o q') (hbase.keep b o q' n hb (by simp))
  rcases ah.mp (I3.stkSub b z) with y | y
  ·exact nL b o q' y
  ·rw [hfs] at y;exact hb y
 ·obtain ⟨sl,z⟩:=hbase.slot b o q' n hb (by simp)
  obtain ⟨sl',z'⟩:=kp3.any (nx b o q') z
  exact ⟨sl',z'⟩
 ·obtain ⟨o',z⟩:=hbase.there b o q' hx
  obtain ⟨sl',z'⟩:=kp3.any (nx b o q') z
  exact ⟨_,z'⟩
 ·have:=xY I3.hok kp3 I3.stkFree hx2
  rw [hP,hw] at this
  exact this
end
section
variable {X:Cx}
end
end Rx
namespace Rx
open PySem PySem.Spec PyProof.Rows L2 Ry
section
variable {X:Cx} {pins:List (Addr×Obj)} {σ:L2.St} {H:Hp} {s:Shared}
theorem t7 {M:Model} {A:Around} {E:Value->Shared->Prop} {i:Nat} {n:Str} {pos:Pos} {Q:Unit->Shared->Prop} (I:Inv X pins σ H s) (hN:X.N.Nodup) (hi:X.N[i]?=some n) (hk:X.env.scope.names.lookup n=some .local)
 (h:∀ s',Inv X pins (σ.set i none) H s'->Q () s'):wpAny M A (do bindName X.env n .none;unbindBehindTheSuite X.env n pos) Q E s:=by
 refine wpAny_bind (wpAny_bindName (jB (v:=.non) I hN hi (Or.inl hk) rfl (fun s1 I1=>?_) (.inr hk)))
 unfold unbindBehindTheSuite
 refine wpAny_onRaise ?_
 have hiσ:i<σ.length:=by rw [I.len];exact (aq.mp hi).1
 obtain ⟨m,hn,hl⟩:=id I1.loc
 have hv:m n=some .none:=by
  obtain ⟨u,ru,l⟩:=hl i n .non hi (aK hiσ) (Or.inl hk)
  cases (show u=.none from ru)
  rcases l with ⟨_,e⟩ | ⟨z,_⟩
  ·exact e
  ·have hk':X.env.kindOf n=some .local:=hk
   rcases z with z | z<;>(rw [hk'] at z;cases z)
 refine wpAny_unbindName_local hk hn hv (by rw [I.ok.kind];rfl) fun h' u hn' hs'=>h _ ?_
 obtain ⟨oL,_,_,hoL,_⟩:=id hn
 have ab:∀ b o,X.s₀.heap.get? b=some o->b≠X.env.locals:=fun b o e=>aL (aM (aw e) I.ok.above)
 refine ⟨I1.ok,I1.os,I1.bare,⟨fun b o e n hb hx=>(hs'.2 b (ab b o e)).trans (I1.base.keep b o e n hb hx),fun b o e n hb hx=>?_,I1.base.free,fun b o e hx=>?_,I1.base.tups,I1.base.frzs,I1.base.tbls⟩,⟨_,hn',fun j y v' e1 e2 e3=>?_⟩,fun y c e=>?_,I1.free,I1.freeC,fun p hp=>?_,fun b ob e=>?_,?_⟩
 ·obtain ⟨sl,e1⟩:=I1.base.slot b o e n hb hx
  exact ⟨sl,(hs'.2 b (ab b o e)).trans e1⟩
 ·obtain ⟨o',e1⟩:=I1.base.there b o e hx
  exact ⟨o',(hs'.2 b (ab b o e)).trans e1⟩
 ·by_cases hj:j=i
  ·subst hj
   rw [aK hiσ] at e2
   cases e2
  ·have e2':(σ.set i (some V.non))[j]?=some (some v'):=by
    rw [aP (Ne.symm hj)] at e2 ⊢
    exact e2
   obtain ⟨u',r',q⟩:=hl j y v' e1 e2' e3
   refine ⟨u',r',?_⟩
   rcases q with ⟨k,e⟩ | ⟨k,c,e,z⟩
   ·refine .inl ⟨k,?_⟩
    have:y≠n:=fun e=>hj (jC hN e1 (e▸hi))
    simp [this,e]
   ·exact .inr ⟨k,c,e,z.sameBut hs' (I.cne y c e)⟩
 ·obtain ⟨w',z⟩:=I1.cell y c e
  exact ⟨w',z.sameBut hs' (I.cne y c e)⟩
 ·obtain ⟨e,n,ne,nf,d⟩:=I1.pin p hp
  exact ⟨(hs'.2 p.1 ne).trans e,n,ne,nf,d⟩
 ·refine (I1.hok b ob e).stay (fun c w' hc q=>(hs'.2 c ?_).trans q) (fun _ q=>q) (fun _ _ q=>q) fun _ _ q=>q
  rintro rfl
  rcases hc with rfl | hc
  ·rw [I1.free] at e;cases e
  ·rw [I1.free] at hc;cases hc
 ·rw [bx];exact I.len
noncomputable def Fsh (X:Cx) (pins:List (Addr×Obj)) (H:Hp) (b:Addr):Prop:=X.s₀.heap.get? b=none/\b≠X.env.locals/\(∀ x c,X.env.cells.lookup x=some c->c≠b)/\(∀ p∈X.pn++pins,p.1≠b)/\H b=none
theorem sk {H':Hp} {b:Addr} (I:Inv X pins σ H s) (hex:X.ex=[]) (n:s.heap.get? b=none) (n':H' b=none):Fsh X pins H' b:=by
 refine ⟨?_,fun z=>?_,fun x c e z=>?_,fun p hp z=>?_,n'⟩
 ·cases q:X.s₀.heap.get? b with
  | none=>rfl
  | some o =>
    obtain ⟨o',z⟩:=I.base.there b o q (by rw [hex];exact fun z=>nomatch z)
    rw [n] at z;cases z
 ·obtain ⟨m,⟨o,_,_,ho,_⟩,_⟩:=I.loc
  rw [<- z,n] at ho;cases ho
 ·obtain ⟨v,o,ho,_⟩:=I.cell x c e
  rw [z,n] at ho;cases ho
 ·obtain ⟨e,_⟩:=I.pin p hp
  rw [z,n] at e;cases e
noncomputable def X3 (X:Cx) (pins:List (Addr×Obj)) (e:Addr) (ob:Obj):Cx:={ X with A:=X.A.mark (some (.ref e)),calm:=false,pn:=X.pn++pins++[(e,ob)],xe:=fun _ _=>False }
theorem El {e:Addr} {ob:Obj} (I:Inv X pins σ H s) (he:s.heap.get? e=some ob) (f:Fsh X pins H e) (hd:∀ v,ob.data≠.cell v):Inv (X3 X pins e ob) [] σ H s:=by
 have nf:e∉X.fs:=fun z=>by
  obtain ⟨_,o,ho,_⟩:=I.ok.funs.mem z
  rw [f.1] at ho;cases ho
 refine ⟨⟨I.ok.mod,I.ok.kind,I.ok.glob,I.ok.blt,I.ok.above,I.ok.inj,I.ok.has,I.ok.cab,(fun z=>nomatch z),I.ok.frames,I.ok.stk,I.ok.exf,I.ok.bs,I.ok.bsz,I.ok.noex,I.ok.exfs,I.ok.funs,I.ok.frf⟩,I.os,I.bare,I.base,I.loc,I.cell,I.free,I.freeC,fun p hp=>?_,I.hok,I.len⟩
 have hp:p∈(X.pn++pins++[(e,ob)])++[]:=hp
 rw [bH] at hp
 rcases aE.mp hp with z | z
 ·exact I.pin p z
 ·rw [au] at z
  subst z
  exact ⟨he,f.2.2.2.2,f.2.1,nf,hd⟩
theorem se {pins':List (Addr×Obj)} {σ':L2.St} {H':Hp} {s':Shared} {e:Addr} {ob:Obj} (ok:X.Ok) (I:Inv (X3 X pins e ob) pins' σ' H' s'):Inv X pins σ' H' s' :=
 ⟨ok,I.os,I.bare,I.base,I.loc,I.cell,I.free,I.freeC,fun p hp=>I.pin p (cp _ (cp _ hp)),I.hok,I.len⟩
noncomputable def Xw (X:Cx) (pins:List (Addr×Obj)) (xe:Value->Shared->Prop):Cx:={ X with pn:=X.pn++pins,xe:=xe }
theorem ER {xe:Value->Shared->Prop} (I:Inv X pins σ H s):Inv (Xw X pins xe) [] σ H s :=
 ⟨⟨I.ok.mod,I.ok.kind,I.ok.glob,I.ok.blt,I.ok.above,I.ok.inj,I.ok.has,I.ok.cab,I.ok.hd,I.ok.frames,I.ok.stk,I.ok.exf,I.ok.bs,I.ok.bsz,I.ok.noex,I.ok.exfs,I.ok.funs,I.ok.frf⟩,I.os,I.bare,I.base,I.loc,I.cell,I.free,I.freeC,fun p hp=>I.pin p (by
   have hp:p∈(X.pn++pins)++[]:=hp
   rw [bH] at hp
   exact hp),I.hok,I.len⟩
theorem gI {xe:Value->Shared->Prop} {pins':List (Addr×Obj)} {σ':L2.St} {H':Hp} {s':Shared} (ok:X.Ok) (I:Inv (Xw X pins xe) pins' σ' H' s'):Inv X pins σ' H' s' :=
 ⟨ok,I.os,I.bare,I.base,I.loc,I.cell,I.free,I.freeC,fun p hp=>I.pin p (cp _ hp),I.hok,I.len⟩
end
section
variable {X:Cx}
noncomputable def D3 (D:vx) (ie:Nat):vx:={ nx:=fun σ H=>D.nx (σ.set ie none) H,rt:=fun _ _=>False }
theorem AS {pins:List (Addr×Obj)} {σ:L2.St} {H:Hp} {s:Shared} {D:vx} {e T C Rc:Addr} {ie:Nat} {n Rn:Str} {b₀:Stmt} {suite:List Stmt} {rp hp:Pos} {ts:Addr->TS}
 (hst:X.stack=X.env::X.outer) (hf:X.env.frame=some X.env.locals) (hex:X.ex=[]) (hN:X.N.Nodup) (hi:X.N[ie]?=some n) (hk:X.env.scope.names.lookup n=some .local) (hg:Gl X Rn) (hm:X.mg Rn=some (.ref Rc)) (hx:PySem.W.exmOne X.K (.ref C) (.ref Rc)=some true)
 (hsuite:∀ (pins:List (Addr×Obj)) (e:Addr) (ob:Obj),ob.cls=.ref C->ob.dict=none->PySem.W.notCls ob=true->PSs (X3 X pins e ob) (b₀::suite) (ts e)) (hdb:(Rn == ("__debug__" : Str))=false)
 (I:Inv X pins σ H s) (x:Ex s.heap e (.ref C) T .none) (fe:Fsh X pins H e) (fT:Fsh X pins H T) (q:ts e (D3 D ie) (σ.set ie (some (.ref e))) H) :
 wpAny (model X.prog X.w) X.A (noteFrame (.ref e) X.env) (fun _ s2=>wpAny (model X.prog X.w) X.A (setFlight (.ref e) none) (fun _ s3=>wpAny (model X.prog X.w) X.A (handleBy (.ref e) X.env [.ExceptHandler (some (.Name Rn rp)) (some n) (b₀::suite) hp]) (SP X pins D) X.xe s3) X.xe s2) X.xe s:=by
 have hl:=I.stack
 rw [hst] at hl
 refine sE (L:=X.env.locals) (by rw [<- hst];exact I.ok.frames) hl hf x fun h1 T1 k1 nT1 x1=>?_
 rw [<- hst] at k1
 have I1:Inv X pins σ H { s with heap:=h1 }:=uZ I k1 fun b hb=>by
  rcases ah.mp hb with z | z
  ·rw [z];exact fe
  ·rw [au] at z;rw [z];exact fT
 have f1:Fsh X pins H T1:=sk I hex nT1 (pz I.hok nT1)
 have kT:∀ {h h':Heap},(∀ b o,b≠T1->h.get? b=some o->h'.get? b=some o)->Kp (frs X.stack) [T1] h h':=fun k=>⟨fun b o _ n2 q=>k b o (fun z=>n2 (by simp [z])) q,fun b o _ n2 q=>⟨o.slots,k b o (fun z=>n2 (by simp [z])) q⟩⟩
 have one:∀ b∈[T1],Fsh X pins H b:=fun b hb=>by rw [au] at hb;rw [hb];exact f1
 refine mn x1 fun h2 k2 x2=>?_
 have I2:Inv X pins σ H { s with heap:=h2 }:=uZ (s:={ s with heap:=h1 }) I1 (kT k2) one
 obtain ⟨vs,sl,oT,us,he,h1',hTe,hT,hdT,h3⟩:=id x2
 have I3:Inv (X3 X pins e ⟨.ref C,none,.fields vs,sl⟩) [] σ H { s with heap:=h2 }:=El I2 he fe fun v z=>nomatch z
 have iat:∀ {h:Heap},h.get? e=some ⟨.ref C,none,.fields vs,sl⟩->PySem.W.InstAt h e ⟨.ref C,none,.fields vs,sl⟩ C none:=fun z=>⟨z,rfl,rfl,trivial⟩
 refine wpAny_handleBy_cons (codeAny_handlers_test ?_) (by intro z;cases z)
 refine mh (X:=X3 X pins e ⟨.ref C,none,.fields vs,sl⟩) I3 hg hm ?_ hdb
 refine (PySem.W.exm_one I2.kIn (iat he).type hx) _ _ _ { s with heap:=h2 } (fun _ _ z=>z) ?_
 refine codeAny_handlers_suite_as ?_
 refine mn (s:={ s with heap:=h2 }) x2 fun h4 k4 x4=>?_
 have I4:Inv X pins σ H { s with heap:=h4 }:=uZ (s:={ s with heap:=h2 }) I2 (kT k4) one
 have he4:h4.get? e=some ⟨.ref C,none,.fields vs,sl⟩:=k4 e _ (Ne.symm hTe) he
 have I5:Inv (X3 X pins e ⟨.ref C,none,.fields vs,sl⟩) [] σ H { s with heap:=h4 }:=El I4 he4 fe fun v z=>nomatch z
 refine jB (X:=X3 X pins e ⟨.ref C,none,.fields vs,sl⟩) (v:=.ref e) I5 hN hi (Or.inl hk) rfl (fun s6 I6=>?_) (.inr hk)
 refine wpAny_mono (hsuite pins e ⟨.ref C,none,.fields vs,sl⟩ rfl rfl rfl [] s6 _ H (D3 D ie) I6 q) (fun f s7 h7=>?_) fun _ _ z=>z.elim
 cases f with
 | next =>
   obtain ⟨σ7,H7,I7,q7⟩:=h7
   have I8:Inv X pins σ7 H7 s7:=se I.ok I7
   exact t7 I8 hN hi hk fun s8 I9=>⟨_,_,I9,q7⟩
 | brk=>obtain ⟨_,_,_,z⟩:=h7;exact z.elim
 | cont=>obtain ⟨_,_,_,z⟩:=h7;exact z.elim
 | ret u=>obtain ⟨_,_,_,_,_,z⟩:=h7;exact z.elim
theorem ps_tryX {C Rc:Addr} {ie:Nat} {n Rn:Str} {body:List Stmt} {b₀:Stmt} {suite:List Stmt} {rp hp pos:Pos} {tb:XK->TS} {ts:Addr->TS}
 (hst:X.stack=X.env::X.outer) (hf:X.env.frame=some X.env.locals) (hex:X.ex=[]) (hN:X.N.Nodup) (hi:X.N[ie]?=some n) (hk:X.env.scope.names.lookup n=some .local) (hg:Gl X Rn) (hm:X.mg Rn=some (.ref Rc)) (hx:PySem.W.exmOne X.K (.ref C) (.ref Rc)=some true)
 (hbody:∀ (pins:List (Addr×Obj)) (xe:Value->Shared->Prop) (E:XK),mY (CX1 X.prog X.w (.ref C)) (Xw X pins xe) E->PSs (Xw X pins xe) body (tb E))
 (hsuite:∀ (pins:List (Addr×Obj)) (e:Addr) (ob:Obj),ob.cls=.ref C->ob.dict=none->PySem.W.notCls ob=true->PSs (X3 X pins e ob) (b₀::suite) (ts e)) (hdb:(Rn == ("__debug__" : Str))=false:=by decide) :
 PS X (.Try body [.ExceptHandler (some (.Name Rn rp)) (some n) (b₀::suite) hp] [] [] pos) (fun D σ H=>tb (fun _ _ H2=>∀ σ':L2.St,σ'.length=σ.length->∀ e,ts e (D3 D ie) (σ'.set ie (some (.ref e))) H2) D σ H):=by
 intro pins s σ H D I h
 refine wpAny_Try_except ?_
 have pass:mY (CX1 X.prog X.w (.ref C)) (Xw X pins fun ev s1=>wpAny (model X.prog X.w) X.A (noteFrame ev X.env) (fun _ s2=>wpAny (model X.prog X.w) X.A (setFlight ev none) (fun _ s3=>wpAny (model X.prog X.w) X.A (handleBy ev X.env [.ExceptHandler (some (.Name Rn rp)) (some n) (b₀::suite) hp]) (SP X pins D) X.xe s3) X.xe s2) X.xe s1)
  (fun _ _ H2=>∀ σ':L2.St,σ'.length=σ.length->∀ e,ts e (D3 D ie) (σ'.set ie (some (.ref e))) H2):=by
  intro pins' σ' H' s' ev s'' I' hcx
  obtain ⟨e,T,H2,rfl,x,n1,n2,os,bare,un,hok,e1,e2,qE⟩:=hcx
  have I0:Inv X pins σ' H' s':=gI I.ok I'
  have I1:Inv X pins σ' H2 s'':=I0.call' os un hok bare (fun b z=>nomatch z)
  have len:σ'.length=σ.length:=I0.len.trans I.len.symm
  exact AS hst hf hex hN hi hk hg hm hx hsuite hdb I1 x (sk I0 hex n1 e1) (sk I0 hex n2 e2) (qE σ' len e)
 refine wpAny_mono (hbody pins _ _ pass [] s σ H D (ER I) h) (fun f s1 h1=>?_) fun _ _ z=>z
 cases f with
 | next =>
   obtain ⟨σ1,H1,I1,q1⟩:=h1
   exact wpAny_execs_nil ⟨σ1,H1,gI I.ok I1,q1⟩
 | brk=>obtain ⟨σ1,H1,I1,q1⟩:=h1;exact ⟨σ1,H1,gI I.ok I1,q1⟩
 | cont=>obtain ⟨σ1,H1,I1,q1⟩:=h1;exact ⟨σ1,H1,gI I.ok I1,q1⟩
 | ret u=>obtain ⟨v,σ1,H1,I1,r1,q1⟩:=h1;exact ⟨v,σ1,H1,gI I.ok I1,r1,q1⟩
end
end Rx
namespace Rx
open PySem PySem.Spec PyProof.Rows L2 Ry
structure ExK (K:PySem.W.Frag) (C:Addr):Prop where
 hg:PySem.W.findIn K (.ref C) "__getattribute__" = some (some (.builtin "BaseException.__getattribute__"))
 hgk:PySem.W.findIn K (.ref C) "__getattr__" = some none
 hb:PySem.W.mroIn K C (.type "BaseException")=some true
 hdct:PySem.W.hasDictIn K C=true
 ha:PySem.W.findIn K (.ref C) "__class__" = some (some (.builtin "object.__class__"))
 hn:PySem.W.specialIn K (.builtin "object.__class__") "__get__" = some (some (.builtin "getset_descriptor.__get__"))
 htk:PySem.W.takesIn K (.builtin "object.__class__")=some true
 hm:PySem.W.mroIn K C (.type "object")=some true
theorem uL {K:PySem.W.Frag} {x C:Addr} {ox:Obj} {prog:Program} {w:World} {A:Around} {E:Value->Shared->Prop} {Q:Option Value->Shared->Prop} {s:Shared} (k:ExK K C) (X:K.In s.heap) (I:PySem.W.InstAt s.heap x ox C none) (h:Q (some (.ref C)) { s with toks:=s.toks+1 }) :
 wpAny (model prog w) A (getAttr? (.ref x) "__class__") Q E s:=by
 have hf:PySem.W.findObj K C none "__class__" = some (.bind (.builtin "getset_descriptor.__get__") (.builtin "object.__class__")):=by
  obtain ⟨cd,hc,_⟩:=PySem.W.any_some k.hdct
  unfold PySem.W.findObj
  rw [hc,Option.bind_some,k.ha,Option.bind_some]
  simp [k.hn,k.htk]
 obtain ⟨hh,g,d,t,os⟩:=s
 have L0:=I.type (M:=model prog w)
 have L1:=PySem.W.looks_findIn (M:=model prog w) X k.hg
 have L2:=PySem.W.looks_findIn (M:=model prog w) X k.hgk
 have L3:=PySem.W.looks_find (M:=model prog w) X I hf
 have Lb:=PySem.W.looks_mroIn (M:=model prog w) X k.hb
 have FB:=PySem.F.excAttr_ValueError
 have hk:builtinKind "BaseException.__getattribute__" = some .slot:=by decide +kernel
 have hsplit:splitId "BaseException.__getattribute__" = some ("BaseException","__getattribute__"):=by decide +kernel
 unfold getAttr? getAttrBy? getAttrBy
 refine wpAny_bind (wpAny_mkText (wpAny_bind (wpAny_attempt (wpAny_holding (wpAny_bind (L0.at (wpAny_bind (L1.at ?_))))))))
 have hx2:(Value.builtin "BaseException.__getattribute__" == Value.builtin "object.__getattribute__")=false:=by decide +kernel
 show wpAny _ _ (if (onTheHeap (.ref C)&&Value.builtin "BaseException.__getattribute__" == Value.builtin "object.__getattribute__")=true then _ else _) _ _ _
 rw [hx2,Bool.and_false,if_neg am]
 unfold getAttrByItsOwn hookBefore
 rw [if_pos (show onTheHeap (Value.ref C)=true from rfl)]
 refine wpAny_bind (L2.at ?_)
 refine wpAny_bind (wpAny_attempt (wpAny_holding ?_))
 show wpAny _ _ (boundAndCalled _ _ _) _ _ _
 unfold boundAndCalled
 refine wpAny_bind (wpAny_of_eq (FB.ga.bind (.ref x)) ?_)
 refine wpAny_call (codeAny_call_builtin FB.ga.plain PySem.F.entry_bexc_ga ?_)
 have ha:=PySem.F.args_bexc_ga (.ref x) (.str "__class__" t)
 simp only [checkBuiltinCall,hk,hsplit]
 refine wpAny_bind ?_
 unfold isInstance
 refine wpAny_bind (L0.at (Lb.at ?_))
 rw [if_neg (by decide)]
 refine wpAny_of_eq (a:=()) ha ?_
 show wpAny _ _ (do let tp <- typeOf (.ref x);match <- Builtin.ObjectAttr.find (.ref x) tp "__class__" with | .value v=>ret v | .bind g a=>Builtin.ObjectAttr.bindTo g a (.ref x) tp | .missing=>_) _ _ _
 refine wpAny_bind (L0.at (wpAny_bind (L3.at ?_)))
 show wpAny _ _ (holding [.builtin "object.__class__"] (call (.builtin "getset_descriptor.__get__") [.builtin "object.__class__",.ref x,.ref C])>>=ret) _ _ _
 refine wpAny_bind (wpAny_holding (wpAny_call (PySem.W.class_get (ox:=ox) (od:=none) X I k.hm ?_)))
 exact wpAny_pure (PySem.W.handed_on rfl (wpAny_pure h))
theorem wM {K:PySem.W.Frag} {x C:Addr} {ox:Obj} (k:ExK K C):PySem.W.KitX K (.ref x) (.ref C) (fun h=>PySem.W.InstAt h x ox C none) where
 ty:=fun _ _ _ I=>I.type
 it:=fun _ _ X _=>by
  obtain ⟨cdD,hcD,_⟩:=PySem.W.any_some k.hdct
  unfold PySem.W.clsIn at hcD
  split at hcD
  ·rename_i c' d' cd' sl' ho
   intro A' Q' E' s' kk q
   unfold isType loadHead
   exact wpAny_bind (wpAny_loadPart (kk _ _ (X _ _ ho)) (wpAny_pure q))
  ·cases hcD
 ne:=fun h tp dd its n sl X htp=>by
  obtain ⟨cdD,hcD,_⟩:=PySem.W.any_some k.hdct
  refine Bool.eq_false_iff.mpr fun q=>?_
  have e:C=tp:=Value.ref.inj (beq_iff_eq.mp q)
  subst e
  unfold PySem.W.clsIn at hcD
  split at hcD
  ·rename_i c' d' cd' sl' ho
   have z:=(X _ _ ho).symm.trans htp
   cases z
  ·cases hcD
 ca:=fun X I kk=>uL k X I kk
section
variable {X:Cx} {pins:List (Addr×Obj)} {e:Addr} {ob:Obj} {C:Addr}
theorem wI {c:V} {cv:Value} {b:Bool} (hc:dH c cv) (hcv:∀ u,dH c u->u=cv) (k:ExK X.K C) (h1:ob.cls=.ref C) (h2:ob.dict=none) (h3:PySem.W.notCls ob=true) (hk:PySem.W.kitOne X.K (.ref C) cv=some b) :
 iB (X3 X pins e ob) (.builtin "isinstance") (fun xs H Q=>xs=[.ref e,c]/\Q (.bl b) H):=by
 intro pins' s σ H xs us Q I rv ⟨hxs,q⟩
 subst hxs
 obtain ⟨u1,rfl⟩:∃ u1,us=[u1,cv]:=by
  cases rv with
  | cons r1 r2=>cases r2 with
    | cons r2 r3=>cases r3;exact ⟨_,by rw [hcv _ r2]⟩
 cases rv with
 | cons r1 r2 =>
   cases (show u1=.ref e from r1)
   have hp:=(I.pin (e,ob) (by show (e,ob)∈(X.pn++pins++[(e,ob)])++pins';simp)).1
   have ia:PySem.W.InstAt s.heap e ob C none:=⟨hp,h1,h3,by rw [h2];trivial⟩
   exact PySem.W.kia_one (wM k) I.kIn ia hk (fun z=>nomatch z) fun tk=>⟨.bl b,H,I.tok tk,rfl,q⟩
noncomputable def tIs (i:Nat) (e:Addr) (b:Bool):TE:=fun σ H Q=>σ[i]?=some (some (.ref e))/\Q (.bl b) H
theorem pe_isx {c:V} {cv:Value} {b:Bool} {i:Nat} {n cn:Str} {p p1 p2 pos:Pos} (hv:PE (X3 X pins e ob) (.Name n p1) (kF i)) (hcn:PE (X3 X pins e ob) (.Name cn p2) (tC c)) (hc:dH c cv) (hcv:∀ u,dH c u->u=cv) (k:ExK X.K C) (h1:ob.cls=.ref C) (h2:ob.dict=none) (h3:PySem.W.notCls ob=true)
 (hk:PySem.W.kitOne X.K (.ref C) cv=some b) (hg:Gl (X3 X pins e ob) "isinstance") (hm:X.mg "isinstance" = none)
 (he:starEach [.Name n p1,.Name cn p2] X.env=[(false,eval (.Name n p1) X.env),(false,eval (.Name cn p2) X.env)]:=by rfl) (he2:starEach [.Name cn p2] X.env=[(false,eval (.Name cn p2) X.env)]:=by rfl) :
 PE (X3 X pins e ob) (.Call (.Name "isinstance" p) [.Name n p1,.Name cn p2] [] pos) (tIs i e b) :=
 PE.imp (mt (wI hc hcv k h1 h2 h3 hk) hg hm boot_isinstance (e7 hv (e7 hcn iF he2) (by show starEach [Expr.Name n p1,Expr.Name cn p2] X.env=(false,eval (Expr.Name n p1) X.env)::starEach [Expr.Name cn p2] X.env;rw [he,he2])) (by decide) (by decide) (by show starEach [Expr.Name n p1,Expr.Name cn p2] X.env=(false,eval (Expr.Name n p1) X.env)::starEach [Expr.Name cn p2] X.env;rw [he,he2]) (by show (backTo pos (starEach [.Name cn p2] X.env)).any (·.1)=false;rw [he2];rfl)) fun σ H Q ⟨q1,q2⟩=>⟨_,q1,rfl,q2⟩
end
noncomputable def spX (K:PySem.W.Frag) (n:Nat) (fn:List Da->Option (Option Da)):Sp:=fun vs H Q E=>∃ G ds r,ds.length=n/\bY G H/\Tbs K G/\bT K G ds vs/\fn ds=some r /\
 (∀ d,r=some d->∀ v G' H',Ext G H G' H'->Den K G' d v->Q v H')/\(r=none->∀ G' H',Ext G H G' H'->E .none none H')
end Rx
namespace Rx
open PySem PySem.Spec PyProof.Rows L2 Ry
theorem vP {h h':Heap} {bmB tl:List Value} (k:∀ b o,h.get? b=some o->(∀ xs n,o.data≠.seq xs n)->(∀ ps,o.data≠.fields ps)->h'.get? b=some o) (T:OwnTail h bmB tl):OwnTail h' bmB tl:=by
 have ns:∀ {b:Addr} {m:Str->Option Value},h.Ns b m->h'.Ns b m:=fun {b m} ⟨o,es,ep,e,d,r⟩=>⟨o,es,ep,k b o e (fun _ _ z=>by rw [d] at z;cases z) (fun _ z=>by rw [d] at z;cases z),d,r⟩
 induction T with
 | base=>exact .base
 | own h1 h2 h3 _ ih=>exact .own (k _ _ h1 (fun _ _ z=>nomatch z) (fun _ z=>nomatch z)) (ns h2) h3 ih
theorem zy {p:Program} {loose:List Str} {mean:ExcName->Option Value} {mg mb:Str->Option Value} {h h':Heap} {x:Str} {newId:String} {bm:List Value} (T:Top p loose mean mg mb h) (hs:specOf p x=some (newId,bm))
 (k:∀ b o,h.get? b=some o->(∀ xs n,o.data≠.seq xs n)->(∀ ps,o.data≠.fields ps)->h'.get? b=some o):∃ C,OwnCls x C bm newId mg h':=by
 obtain ⟨C,O,_⟩:=T.ownAt hs
 obtain ⟨bm',N,nm,q,bs,hdct,sn,sub,ab,col,dd,k0,k1,k2,k3,k5,mN,hC,hN,hni,T'⟩:=O.own.obj
 have ns:∀ {b:Addr} {m:Str->Option Value},h.Ns b m->h'.Ns b m:=fun {b m} ⟨o,es,ep,e,d,r⟩=>⟨o,es,ep,k b o e (fun _ _ z=>by rw [d] at z;cases z) (fun _ z=>by rw [d] at z;cases z),d,r⟩
 exact ⟨C,O.bound,bm',N,nm,q,bs,hdct,sn,sub,ab,col,dd,k0,k1,k2,k3,k5,mN,k _ _ hC (fun _ _ z=>nomatch z) (fun _ z=>nomatch z),ns hN,hni,vP k T'⟩
theorem walk_ofX {l:PySem.W.OpenLaw} {n k:Nat} {q:Program} {loose:List Str} {XP:(Str->Option Value)->Heap->Prop} {YP:World->Heap->Prop} {d:DefRec} {K:Params->PySem.W.Frag} {x:Str} {ts:List Addr} {fn:List Da->Option Da} {xn:Str} {newId:String} {bm:List Value}
 (hn:l.most=some n) (hn2:n<=sizeLine) (hdf:d.params.defaults=[]) (hr:fQ k callerA) (hs:specOf q xn=some (newId,bm))
 (hY:∀ (w:World) (h:Heap),YP w h->(K w.params).In h) (hT:∀ (w:World) (h:Heap),YP w h->∀ P∈ts,h.get? P=some (PySem.W.tabObj #[])) (hok:∀ P:Params,tj (K P) ts=true)
 (F:∀ (w:World) (mg:Str->Option Value) (fa:Addr) (h:Heap),(K w.params).In h->h.Ns mainGlobals mg->mg d.name=some (.ref fa) ->
   ∃ fd:FuncData,(∀ (s:Shared) (u:Value),BindsTo s fd ⟨[u],[]⟩ [(x,u)]) /\
     ∀ base:Heap,(K w.params).In base->base.Ns mainGlobals mg->Bm mg base->(∃ C,OwnCls xn C bm newId mg base)->pZ l.prog w (K w.params) mg base CX0 k fa fd [x] (spD (K w.params) 1 fn))
 (eq:∀ ns:List Int,fn [.lst (ns.map Da.int)]=some (.bl true)) :
 PySem.W.WalkO q loose XP YP l.row.toRowW d [] (fun f vs=>PySem.call f vs):=by
 refine Att.attach_call hn hdf fun w s₀ s₁ mg mb fa o pm cd doc a vs ns G Y ho hd hcd hmg hobj hints hlen hg=>?_
 have KX:=hY w _ Y
 obtain ⟨fd,hb,hF⟩:=F w mg fa _ KX G.T.g hmg
 exact sy KX G.T.g G.T.b G.T.builtins G.T.nolimit G.T.bmain hg hobj hints (bR hlen hn2) hr (hT w _ Y) (hok w.params) (Pb:=fun base=>∃ C,OwnCls xn C bm newId mg base) (fun h' k=>zy G.T hs k) hF hb (eq ns)
end Rx
namespace Rx
open PySem PySem.Spec PyProof.Rows L2 Ry
theorem qz:∀ ns:List Int,PyData.canLayAll0 (fL (ns.map Da.int))=true
 | []=>rfl
 | n::ns=>by show (PyData.canLay0 (.int n)&&PyData.canLayAll0 (fL (ns.map Da.int)))=true;rw [qz ns];rfl
theorem depth_ints:∀ ns:List Int,PyData.depthAll (fL (ns.map Da.int))=0
 | []=>by simp [fL,PyData.depthAll]
 | n::ns=>by
   show max (PyData.depth (.int n)) (PyData.depthAll (fL (ns.map Da.int)))=0
   rw [depth_ints ns]
   simp [PyData.depth]
theorem sB {n:Int} (h0:0<=n) (h1:n<1000):n.natAbs.log2<1920:=by
 by_cases z:n.natAbs=0
 ·rw [z];decide
 ·exact (Nat.log2_lt z).mpr (aM (show n.natAbs<2 ^ 10 by lia) (jy (by decide) (by decide)))
theorem jX:∀ ns:List Int,(∀ n∈ns,0<=n/\n<1000)->PyData.showableAll (fL (ns.map Da.int))=true/\PyData.hasDictAll (fL (ns.map Da.int))=false/\piled (PyData.shownAll (fL (ns.map Da.int)))<=1923*ns.length/\(PyData.shownAll (fL (ns.map Da.int))).length=ns.length
 | [],_=>⟨rfl,rfl,by show piled []<=_;simp [piled],rfl⟩
 | n::ns,h=>by
   obtain ⟨i1,i2,i3,i4⟩:=jX ns fun m hm=>h m (al _ hm)
   obtain ⟨h0,h1⟩:=h n ax
   have hs:=sB h0 h1
   refine ⟨?_,?_,?_,?_⟩
   ·show (decide (n.natAbs.log2<1920)&&PyData.showableAll (fL (ns.map Da.int)))=true
    rw [i1,decide_eq_true hs];rfl
   ·show (false||PyData.hasDictAll (fL (ns.map Da.int)))=false
    rw [i2];rfl
   ·have tl:(Str.ofString (toString n)).length<=1921:=by
     rw [PySem.ofString_length]
     exact int_text_length_le (k:=1920) (by decide) hs
    have e:piled (PyData.shownAll (fL ((n::ns).map Da.int)))=(Str.ofString (toString n)).length+2+piled (PyData.shownAll (fL (ns.map Da.int))):=by
     show piled (Str.ofString (toString n)::PyData.shownAll (fL (ns.map Da.int)))=_
     simp [piled]
    rw [e,aA]
    lia
   ·show (PyData.shownAll (fL (ns.map Da.int))).length+1=ns.length+1
    rw [i4]
theorem tO {ns:List Int} (h:∀ n∈ns,0<=n/\n<1000) (hl:ns.length<=20):(toP (.tup (ns.map Da.int))).shown.length<=50000:=by
 obtain ⟨_,_,i3,_⟩:=jX ns h
 show (tupleText (PyData.shownAll (fL (ns.map Da.int)))).length<=50000
 generalize PyData.shownAll (fL (ns.map Da.int))=ts at i3
 have hj:(Str.join ", " ts).length<=1923*ns.length:=by
  by_cases z:ts=[]
  ·subst z;show (Str.join ", " ([]:List Str)).length<=_;exact aU _
  ·have:=join_length_add ts z;lia
 unfold tupleText
 rw [strLen_append,strLen_append]
 have e1:(("(" : String):Str).length=1:=rfl
 have e2:(((if ts.length == 1 then ",)" else ")" : String)):Str).length<=2:=by split<;>decide
 lia
section
variable {X:Cx}
theorem pe_msgT {x:Str} {i:Nat} {c1:Str} {k1:Nat} {p1 p2 p3 pos:Pos} (hgd:X.A.guards=some []) (hu:X.A.units+64<cLine) (hi:PE X (.Name x p2) (kF i)) (h1:c1.length<=1000) :
 PE X (.JoinedStr [.Constant (.str c1) k1 p1,.FormattedValue (.Name x p2) 114 none p3] pos)
  (fun σ H Q=>∃ (v:V) (ns:List Int),σ[i]?=some (some v)/\Den X.K H (.tup (ns.map Da.int)) v/\ns.length<=20/\(∀ n∈ns,0<=n/\n<1000)/\∀ t,Q (.str t) H):=by
 intro pins s σ H Q I ⟨v,ns,hv,dv,hl,hns,q⟩
 have hs:sizeLine=16777216:=sizeLine_eq
 have le0:Str.empty.length=0:=rfl
 have sl:=tO hns hl
 obtain ⟨i1,i2,_,_⟩:=jX ns hns
 refine wpAny_JoinedStr ?_
 refine thn (xl (X:=X) (x:=c1) (j:=k1) (pos:=p1) pins s σ H (fun v H1=>v=.str c1/\H1=H) I ⟨rfl,rfl⟩) fun u1 s1 ⟨v1,H1,I1,r1,e1,eH1⟩=>?_
 subst e1 eH1
 obtain ⟨t1,rfl⟩:=r1
 refine ⟨c1,t1,rfl,by rw [strLen_append];lia,?_⟩
 refine wpAny_FormattedValue_repr (thn (hi pins s1 σ H1 (fun v' H2=>v'=v/\H2=H1) I1 ⟨_,hv,rfl,rfl⟩) fun u2 s2 ⟨v2,H2,I2,r2,e2,eH2⟩=>?_)
 subst e2 eH2
 obtain ⟨as,rd⟩:=dL I2 _ _ _ dv r2 (qz ns)
 obtain ⟨a,xs,ev,ga,_⟩:=dv
 subst ev
 cases r2
 have hd:(toP (.tup (ns.map Da.int))).depth=1:=by
  have:(toP (.tup (ns.map Da.int))).depth=PyData.depthAll (fL (ns.map Da.int))+1:=by simp [toP,PyData.depth]
  rw [this,depth_ints]
 refine pyReprObj_of_reads rd i1 (fun z=>by have z:PyData.hasDictAll (fL (ns.map Da.int))=true:=z;rw [i2] at z;cases z) hgd (by rw [hd];lia) (fun _ _ z=>z) (fun h' u tk kp=>?_) (by lia)
 refine formatField_str (fun t' tk'=>⟨_,_,rfl,by rw [strLen_append,strLen_append];lia,?_⟩) (by lia)
 refine ⟨by rw [strLen_append,strLen_append];lia,?_⟩
 exact ⟨.str _,H2,((I2.kept (t':=tk) kp).tok tk').tok _,⟨_,rfl⟩,q _⟩
end
noncomputable def run3 (n i:Nat) (c:Rho->Option Bool) (g:Rho->Res) (ds:List Da):Option (Option Da):=match c (cG n ds) with
 | some true=>(match (cG n ds)[i]? with
   | some (.pu (.tup es))=>(match eQ es with
     | some ns=>if ns.length<=20/\(ns.all fun n=>decide (0<=n/\n<1000))=true then some none else none
     | none=>none)
   | _=>none)
 | some false=>(match g (cG n ds) with
   | .rt d=>some (some d)
   | _=>none)
 | none=>none
theorem read3 {K:PySem.W.Frag} {N:List Str} {n i:Nat} {g2 g3:Rho->Res} {c:Rho->Option Bool} {vs:List V} {H:Hp} {Q:VK} {E:XK} (h:spX K n (run3 N.length i c (e8 g2 g3)) vs H Q E) :
 mR (C2 (tXT K c) (fun _ σ H1=>(fun σ H Q=>∃ (v:V) (ns:List Int),σ[i]?=some (some v)/\Den K H (.tup (ns.map Da.int)) v/\ns.length<=20/\(∀ n∈ns,0<=n/\n<1000)/\∀ t,Q (.str t) H:TE) σ H1 fun v H2=>([v]:List V).length=1/\E .none none H2) wx) (mR (tS K g2) (tS K g3))
  { nx:=fun _ H'=>Q .non H',rt:=Q } (L2.start N vs) H:=by
 obtain ⟨G,ds,r,hl,sg,tg,dl,ef,q1,q2⟩:=h
 have st0:=qe (B:=H) (N:=N) (H:=H) tg dl
 unfold run3 at ef
 split at ef
 ·rename_i ec
  refine ⟨H,G,_,true,sg,bY.refl _,st0,ec,fun G4 H4 E4=>?_⟩
  refine CG ?_
  split at ef
  ·rename_i es ea
   split at ef
   ·rename_i ns en
    split at ef
    ·rename_i hab
     cases ef
     obtain ⟨v,w1,w2⟩:=(st0.ext E4).pu i _ ea
     rw [fq en] at w2
     exact ⟨v,ns,w1,Den.mono E4.gh _ w2,hab.1,fun m hm=>by simpa using bv.mp hab.2 m hm,fun t=>⟨rfl,q2 rfl G4 H4 E4⟩⟩
    ·cases ef
   ·cases ef
  ·cases ef
 ·rename_i ec
  refine ⟨H,G,_,false,sg,bY.refl _,st0,ec,fun G4 H4 E4=>?_⟩
  refine Dv ?_
  split at ef
  ·rename_i d e5
   cases ef
   refine ⟨H,G,G4,cG N.length ds,E4,st0.ext E4,?_⟩
   unfold e8 at e5
   cases q:g2 (cG N.length ds) with
   | nx ρ1 =>
     rw [q] at e5
     have e5:g3 ρ1=.rt d:=e5
     intro σ1 G1 H1 E1 s1 st1
     refine ⟨H,G,G1,ρ1,E1,st1,?_⟩
     rw [e5]
     exact fun v G5 H5 E5 _ dv=>q1 d rfl v G5 H5 E5 dv
   | rt d' =>
     rw [q] at e5
     cases e5
     exact fun v G5 H5 E5 _ dv=>q1 d rfl v G5 H5 E5 dv
   | bk _=>rw [q] at e5;cases e5
   | ct _=>rw [q] at e5;cases e5
   | bad=>rw [q] at e5;cases e5
  ·cases ef
 ·cases ef
noncomputable def askX (fn:List Da->Option (Option Da)) (ds:List Da):Option Da:=match fn ds with
 | some (some _)=>some (.str "none")
 | some none=>some (.bl true)
 | none=>none
theorem read_ask {K:PySem.W.Frag} {fn:List Da->Option (Option Da)} {ds:List Da} {d:Da} {vs:List V} {G H:Hp} {Q:VK} {x0 x1 x2 x3:Str} (hl:ds.length=2) (sg:bY G H) (tg:Tbs K G) (dl:bT K G ds vs) (ef:askX fn ds=some d) (k:∀ v G' H',Ext G H G' H'->Den K G' d v->Q v H') :
 mR (yE (tC (.str "none")) (jr 2)) (mR (fun D σ H=>(fun E:XK=>AR (BK (spX K 2 fn) [] E (uf (kF 0) (uf (kF 1) C4)))) (fun _ _ H2=>∀ σ':L2.St,σ'.length=σ.length->∀ e,
  yE (y8 (tIs 3 e true) (y8 (A1 (tIs 3 e false)) (tIs 3 e true))) (jr 2) (D3 D 3) (σ'.set 3 (some (.ref e))) H2) D σ H) (C3 (kF 2)))
  { nx:=fun _ H'=>Q V.non H',rt:=Q } (L2.start [x0,x1,x2,x3] vs) H:=by
 have dl0:=dl
 match ds,hl with
 | [d0,d1],_ =>
   obtain ⟨v0,r0,e0,h0,v1,r1,e1,h1,e2⟩:=dl
   cases (show r1=[] from e2)
   subst e1 e0
   show mR _ _ _ [some v0,some v1,none,none] H
   show mR _ _ _ [some v0,some v1,some (.str "none"),none] H
   refine ⟨_,rfl,_,rfl,?_⟩
   unfold askX at ef
   cases er:fn [d0,d1] with
   | none=>rw [er] at ef;cases ef
   | some r =>
     rw [er] at ef
     refine ⟨G,[d0,d1],r,rfl,sg,tg,dl0,er,fun d' hd v G' H' E' dv=>?_,fun hr G' H' E' σ' hlen e=>?_⟩
     ·subst hd
      cases ef
      exact ⟨_,rfl,k _ G' H' E' rfl⟩
     ·subst hr
      cases ef
      match σ',hlen with
      | [w0,w1,w2,w3],_ =>
        show yE _ _ _ [w0,w1,w2,some (.ref e)] H'
        refine ⟨rfl,_,rfl,CG ⟨rfl,_,rfl,_,rfl,CG ⟨rfl,?_⟩⟩⟩
        exact ⟨_,rfl,k _ G' H' E' rfl⟩
end Rx
namespace G
open PySem L2 Ry
noncomputable def g_is_whole:Rho->Res:=(dN (zi (gq sa (aJ 0)) (BZ (gq qI (aJ 0)))))
noncomputable def fn_is_whole:List Da->Option Da:=iq 1 g_is_whole
noncomputable def g_is_number_below:Rho->Res:=(dN (zi (bU fn_is_whole (aB (aJ 0) bO)) (nr (oB fun i j=>decide (i<=j)) oLt (xC (.int 0)) (aJ 0) (aJ 1))))
noncomputable def fn_is_number_below:List Da->Option Da:=iq 2 g_is_number_below
noncomputable def g_is_rising:Rho->Res:=(dN (xB ri (aB (dE [none,none,some 0] (mQ (aB (x2 (oI (fun _ _=>true) (·-·)) (xB oK (aB (aJ 0) bO)) (xC (.int 1))) bO)) (tgN 1) (fun _=>some true) (x2 oLt (x2 oIt (aJ 2) (aJ 1)) (x2 oIt (aJ 2) (x2 jO (aJ 1) (xC (.int 1)))))) bO)))
noncomputable def fn_is_rising:List Da->Option Da:=iq 1 g_is_rising
end G
set_option linter.unusedSimpArgs false
namespace Ry
open PySem L2
@[simp] theorem zr (n:Bool) (a b:Kd) (i j:Int):oEq n (a,.int i) (b,.int j)=some (.pu,.bl (if n then !(i == j) else i == j)):=by
  unfold oEq
  rw [if_pos (by rfl)]
  rfl
theorem j6:∀ bs:List Bool,jl (bs.map Da.bl)=some bs
 | []=>rfl
 | b::bs=>by unfold jl;rw [aC];dsimp only;rw [j6 bs];rfl
@[simp] theorem jT {α:Type} (k:Kd) (f:α->Bool) (xs:List α):ri [(k,.lst (xs.map fun x=>Da.bl (f x)))]=some (.pu,.bl (xs.all f)):=by
  have:xs.map (fun x=>Da.bl (f x))=(xs.map f).map Da.bl:=by rw [aT];rfl
  rw [this];unfold ri;dsimp only;rw [j6];dsimp only;rw [List.all_map];rfl
@[simp] theorem zJ {α:Type} (k:Kd) (f:α->Bool) (xs:List α):wn [(k,.lst (xs.map fun x=>Da.bl (f x)))]=some (.pu,.bl (xs.any f)):=by
  have:xs.map (fun x=>Da.bl (f x))=(xs.map f).map Da.bl:=by rw [aT];rfl
  rw [this];unfold wn;dsimp only;rw [j6];dsimp only;rw [List.any_map];rfl
theorem qf {n:Nat} {g:Rho->Res} {ds:List Da} {ρ:Rho} {d:Da} (e0:cG n ds=ρ) (h:g ρ=.rt d):iq n g ds=some d:=by unfold iq;rw [e0,h]
theorem df {α:Type} (xs:List α):xs.filter (fun _=>true)=xs:=by simp
theorem cu {α:Type} {enc:α->Da} {ix:List (Option Nat)} {fi:Rho->Option (List Da)} {c:Rho->Option Bool} {f:Rho->Option Rv} {i:Nat} {ρ:Rho} {xs:List α} {p:α->Bool} {e:α->Da} (hi:fi ρ=some (xs.map enc)) (hl:xs.length<=1000000)
 (h:∀ x∈xs,c ((mpR ix ρ).set i (.pu (enc x)))=some (p x)/\(p x=true->∃ r,f ((mpR ix ρ).set i (.pu (enc x)))=some r/\cX r=true/\r.2=e x)):dE ix fi (tgN i) c f ρ=some (.fr,.lst ((xs.filter p).map e)):=by
 unfold dE
 rw [hi]
 dsimp only
 rw [if_pos (by rw [af];exact hl),uV h]
theorem jN {α:Type} {enc:α->Da} {ix:List (Option Nat)} {fi:Rho->Option (List Da)} {c:Rho->Option Bool} {f:Rho->Option Rv} {i j:Nat} {ρ:Rho} {xs:List α} {p:α->Bool} {e a b:α->Da} (hi:fi ρ=some (xs.map enc)) (hl:xs.length<=1000000)
 (h:∀ x∈xs,c (((mpR ix ρ).set i (.pu (a x))).set j (.pu (b x)))=some (p x)/\(p x=true->∃ r,f (((mpR ix ρ).set i (.pu (a x))).set j (.pu (b x)))=some r/\cX r=true/\r.2=e x)) (hij:i≠j) (henc:∀ x,enc x=.tup [a x,b x]):dE ix fi (tgT 2 (d6 (tgN i) (d6 (tgN j) ju))) c f ρ=some (.fr,.lst ((xs.filter p).map e)):=by
 unfold dE
 rw [hi]
 dsimp only
 rw [if_pos (by rw [af];exact hl),vK h hij henc]
end Ry
namespace G
open PySem L2 Ry
@[simp] theorem whole_int (i:Int):fn_is_whole [.int i]=some (.bl true):=rfl
@[simp] theorem whole_bl (i:Bool):fn_is_whole [.bl i]=some (.bl false):=rfl
@[simp] theorem whole_non:fn_is_whole [.non]=some (.bl false):=rfl
@[simp] theorem whole_str (i:Str):fn_is_whole [.str i]=some (.bl false):=rfl
@[simp] theorem whole_tup (i:List Da):fn_is_whole [.tup i]=some (.bl false):=rfl
@[simp] theorem whole_lst (i:List Da):fn_is_whole [.lst i]=some (.bl false):=rfl
theorem tQ (i n:Int):fn_is_number_below [.int i,.int n]=some (.bl (decide (0<=i)&&decide (i<n))):=by
 cases h:decide (0<=i)<;>simp [fn_is_number_below,iq,cG,g_is_number_below,h]
noncomputable def pc {α:Type} (lt:α->α->Bool):List α->Bool
 | a::b::r=>lt a b&&pc lt (b::r)
 | _=>true
theorem mo {α:Type} {lt:α->α->Bool} (h:Ms.Lin lt):∀ l:List α,pc lt l=true↔l.Pairwise fun a b=>lt a b=true
 | []=>by simp [pc]
 | [a]=>by simp [pc]
 | a::b::r=>by
   have ih:=mo h (b::r)
   show (lt a b&&pc lt (b::r))=true↔_
   rw [aD,ih]
   constructor
   ·rintro ⟨h1,h2⟩
    refine aN.mpr ⟨fun x hx=>?_,h2⟩
    rcases ah.mp hx with z | z
    ·subst z;exact h1
    ·exact h.tr _ _ _ h1 ((aN.mp h2).1 x z)
   ·intro hp
    exact ⟨(aN.mp hp).1 b (ax),(aN.mp hp).2⟩
theorem iC {α:Type} (lt:α->α->Bool) (d:α):∀ (l:List α),(rgI 0 (l.length-1)).all (fun k=>lt (l.getD k.toNat d) (l.getD (k+1).toNat d))=pc lt l
 | []=>rfl
 | [a]=>rfl
 | a::b::r=>by
   have ih:=iC lt d (b::r)
   have shift:∀ (m:Nat) (f:Int->Bool) (lo:Int),(rgI (lo+1) m).all f=(rgI lo m).all fun k=>f (k+1):=fun m f=>by
    induction m with
    | zero=>intro lo;rfl
    | succ m ihm=>intro lo;unfold rgI;rw [rV,rV,ihm]
   show (rgI 0 ((r.length+1)+1-1)).all _=(lt a b&&pc lt (b::r))
   rw [<- ih]
   have e1:r.length+1+1-1=(b::r).length-1+1:=by simp
   rw [e1]
   show (0::rgI (0+1) ((b::r).length-1)).all _=_
   rw [rV,shift]
   congr 1
   ·rw [bW,bv,bv]
    refine forall_congr' fun k=>imp_congr_right fun hk=>?_
    have:=(dg.mp hk).1
    have e1:(k+1).toNat=k.toNat+1:=by lia
    have e2:(k+1+1).toNat=(k+1).toNat+1:=by lia
    rw [e2,e1,jE,jE]
theorem qN {α:Type} {enc:α->Da} {lt:α->α->Bool} (d:α) {xs:List α} (hl:xs.length<=1000000) (hlt:∀ a b,oLt (.pu,enc a) (.pu,enc b)=some (.pu,.bl (lt a b))):fn_is_rising [.tup (xs.map enc)]=some (.bl (pc lt xs)):=by
 have hr:mQ (aB (x2 (oI (fun _ _=>true) (·-·)) (xB oK (aB (aJ 0) bO)) (xC (.int 1))) bO) [.pu (.tup (xs.map enc))]=some ((rgI 0 (xs.length-1)).map Da.int):=by
  simp only [qD,cb,mH,oQ,fU,cQ,aW,A0,af,vE,C7,if_true]
  rw [if_pos (by lia),eD]
  congr 3
  lia
 have hc:dE [none,none,some 0] (mQ (aB (x2 (oI (fun _ _=>true) (·-·)) (xB oK (aB (aJ 0) bO)) (xC (.int 1))) bO)) (tgN 1) (fun _=>some true) (x2 oLt (x2 oIt (aJ 2) (aJ 1)) (x2 oIt (aJ 2) (x2 jO (aJ 1) (xC (.int 1))))) [.pu (.tup (xs.map enc))] =
  some (.fr,.lst (((rgI 0 (xs.length-1)).filter fun _=>true).map fun k=>.bl (lt (xs.getD k.toNat d) (xs.getD (k+1).toNat d)))):=by
  refine cu (enc:=Da.int) (p:=fun _=>true) hr (by rw [fH];lia) fun k hk=>⟨rfl,fun _=>?_⟩
  have hk':=dg.mp hk
  have l1:k.toNat<xs.length:=by lia
  have l2:(k+1).toNat<xs.length:=by lia
  have g1:xs[k.toNat]?=some (xs.getD k.toNat d):=by rw [ai,ae l1];rfl
  have g2:xs[(k+1).toNat]?=some (xs.getD (k+1).toNat d):=by rw [ai,ae l2];rfl
  refine ⟨(.pu,.bl (lt (xs.getD k.toNat d) (xs.getD (k+1).toNat d))),?_,rfl,rfl⟩
  have i1:=wf (a:=.pu) (b:=.pu) (show (0:Int)<=k by lia) (mK (f:=enc) g1)
  have i2:=wf (a:=.pu) (b:=.pu) (show (0:Int)<=k+1 by lia) (mK (f:=enc) g2)
  simp only [mpR,aC,gB,aW,Option.getD_some,List.set_cons_succ,List.set_cons_zero,mH,fU,be,vE,x8,i1,i2,hlt]
 exact qf (ρ:=[.pu (.tup (xs.map enc))]) rfl (by simp only [g_is_rising,gi,oQ,cb,cQ,hc,df,jT,iC])
end G
set_option linter.unusedSimpArgs false
namespace G
open PySem L2 Ry
end G
set_option linter.unusedSimpArgs false
namespace Ry
open PySem L2
theorem DG (p q:PI):PyData.eqv (toP (dP p)) (toP (dP q))=decide (p=q):=by
 show (PyData.eqv (.int p.1) (.int q.1)&&(PyData.eqv (.int p.2) (.int q.2)&&true))=_
 rw [bW]
 simp only [PyData.eqv,Bool.and_true,aD,beq_iff_eq,decide_eq_true_eq]
 exact ⟨fun h=>Prod.ext h.1 h.2,fun h=>by subst h;exact ⟨rfl,rfl⟩⟩
theorem Bf (p:PI):(toP (dP p)).canLay0=true:=rfl
theorem zw (p:PI):(toP (dP p)).depth<=60:=by
 simp [dP,toP,fL,PyData.depth,PyData.depthAll]
theorem qw:∀ T:List PI,PyData.canLayAll0 (fL (T.map dP))=true
 | []=>rfl
 | p::T=>by
   show (PyData.canLay0 (toP (dP p))&&PyData.canLayAll0 (fL (T.map dP)))=true
   rw [Bf,qw T];rfl
theorem zD (p:PI):∀ T:List PI,inD (dP p) (T.map dP)=decide (p∈T)
 | []=>rfl
 | q::T=>by
   have ih:=zD p T
   unfold inD at ih ⊢
   show (PyData.eqv (toP (dP q)) (toP (dP p))||(fL (T.map dP)).any fun y=>PyData.eqv y (toP (dP p)))=_
   rw [ih,DG,bW]
   simp only [e6,decide_eq_true_eq,ah]
   exact ⟨fun h=>h.imp (fun z=>z.symm) id,fun h=>h.imp (fun z=>z.symm) id⟩
theorem xA (p:PI) (T:List PI):u7 (dP p) (T.map dP)=true:=by
 unfold u7
 rw [Bf,qw]
 have:=zw p
 simp only [rW,kt,decide_eq_true_eq]
 lia
theorem DN (n:Bool) (a b:Kd) (p:PI) (T:List PI):oIn n (a,dP p) (b,.tup (T.map dP))=some (.pu,.bl (if n then !decide (p∈T) else decide (p∈T))):=by
 unfold oIn we y9
 dsimp only
 rw [xA,if_pos rfl,zD]
 rfl
theorem Dg (n:Bool) (a b:Kd) (p:PI) (T:List PI):oIn n (a,dP p) (b,.lst (T.map dP))=some (.pu,.bl (if n then !decide (p∈T) else decide (p∈T))):=by
 unfold oIn we y9
 dsimp only
 rw [xA,if_pos rfl,zD]
 rfl
@[simp] theorem oIn_T2 (n:Bool) (a b:Kd) (x y:Int) (T:List PI):oIn n (a,.tup [.int x,.int y]) (b,.tup (T.map dP))=some (.pu,.bl (if n then !decide ((x,y)∈T) else decide ((x,y)∈T))):=DN n a b (x,y) T
@[simp] theorem oIn_L2 (n:Bool) (a b:Kd) (x y:Int) (T:List PI):oIn n (a,.tup [.int x,.int y]) (b,.lst (T.map dP))=some (.pu,.bl (if n then !decide ((x,y)∈T) else decide ((x,y)∈T))):=Dg n a b (x,y) T
end Ry
namespace G
open PySem L2 Ry
theorem Be {n:Int} {L:List PI} (Y:Yd n L) (h7:n<=7):L.length<=49:=by
 have:=tD Y.nd Y.rg
 have h:n.toNat<=7:=by lia
 exact bR this (rM h h)
end G
namespace G3
open PySem L2 Ry G
end G3
set_option linter.unusedSimpArgs false
namespace G3
open PySem L2 Ry G
noncomputable def dC (C:List PI):Da:=.dK (C.map fun e=>Sum.inl e.1) (C.map fun e=>.int e.2)
end G3
set_option linter.unusedSimpArgs false
namespace G3
open PySem L2 Ry G
end G3
set_option linter.unusedSimpArgs false
namespace Ry
open PySem L2
end Ry
namespace G3
open PySem L2 Ry G
end G3
namespace GW
open PySem L2 Ry G
noncomputable def g_lowers_of:Rho->Res:=(dN (bU fn_uppers_of (aB (dE [none,none,none] (bJ (eU (aJ 0))) (tgT 2 (d6 (tgN 1) (d6 (tgN 2) ju))) (fun _=>some true) (pE (aB (aJ 2) (aB (aJ 1) bO)))) bO)))
noncomputable def fn_lowers_of:List Da->Option Da:=iq 1 g_lowers_of
end GW
namespace GW
open Ry
noncomputable def sm (R:List Int) (f:Int->Int):Int:=(R.map f).sum
theorem sm_nil (f:Int->Int):sm [] f=0:=rfl
section
variable {n:Int} {L:List PI} {w:Int->Int->Int}
end
end GW
set_option linter.unusedSimpArgs false
namespace GW
open PySem L2 Ry G G3
noncomputable def sw (p:PI):PI:=(p.2,p.1)
noncomputable def low (L:List PI):UD:=upp (L.map sw)
theorem Cj {L:List PI} {a b:Int}:(a,b)∈L.map sw↔(b,a)∈L:=by
 constructor
 ·intro h
  obtain ⟨p,hp,e⟩:=bn.mp h
  have h1:p.2=a:=congrArg Prod.fst e
  have h2:p.1=b:=congrArg Prod.snd e
  rw [<- h1,<- h2];exact hp
 ·exact fun h=>bn.mpr ⟨(b,a),h,rfl⟩
theorem xm (L:List PI):C6 (L.map sw) (low L):=gv _
theorem me (L:List PI) (a b:Int):b∈fC (low L) a↔(b,a)∈L:=by rw [(xm L).get,Cj]
theorem BR (L:List PI) (a:Int):(fC (low L) a).Nodup:=(xm L).ndv a
theorem t0 (L:List PI) (a:Int):(fC (low L) a).length<=L.length:=by
 have h1:(fC (low L) a).length<=(L.map (·.1)).length:=Ms.length_le_of_subset (BR L a) fun x hx=>bn.mpr ⟨_,(me L a x).mp hx,rfl⟩
 rw [af] at h1
 exact h1
theorem nG {L:List PI} (hl:L.length<=1000):fn_lowers_of [.tup (L.map dP)]=some (dU (low L)):=by
 have hc:=jN (enc:=dP) (xs:=L) (ix:=[none,none,none]) (fi:=bJ (eU (aJ 0))) (i:=1) (j:=2) (c:=fun _=>some true) (f:=pE (aB (aJ 2) (aB (aJ 1) bO))) (ρ:=[.pu (.tup (L.map dP))]) (p:=fun _=>true) (e:=fun p=>dP (sw p)) (a:=fun p=>.int p.1) (b:=fun p=>.int p.2)
  (by simp) (by lia) (fun p hp=>⟨rfl,fun _=>⟨(.pu,dP (sw p)),by simp [mpR,dP,sw],rfl,rfl⟩⟩) (by decide) (fun _=>rfl)
 rw [df] at hc
 refine qf (ρ:=[.pu (.tup (L.map dP))]) rfl ?_
 have em:(L.map fun p=>dP (sw p))=(L.map sw).map dP:=by rw [aT];rfl
 rw [em] at hc
 simp only [g_lowers_of,gi,zA,cb,cQ,hc,fF,gr,tN,wW,Bool.not_false,if_true,Option.map_some]
 rw [wO (by rw [af];exact hl)]
 rfl
theorem kg {α:Type} {xs:List α} {d:α} {q:List Nat} (h:q.Perm (bp xs.length)):(q.map fun i=>xs.getD i d).Perm xs:=by
 refine (h.map _).trans ?_
 have:(bp xs.length).map (fun i=>xs.getD i d)=xs:=by
  apply mX
  ·simp
  ·intro i h1 h2;simp [h2]
 rw [this]
end GW
set_option linter.unusedSimpArgs false
namespace GW
open PySem L2 Ry G G3
theorem dC_one (one:Int):Da.dK [Sum.inl one] [Da.int 1]=dC [(one,1)]:=rfl
end GW
namespace GH
open PySem L2 Ry G GW
noncomputable def g_holds_all:Rho->Res:=(dN (xB ri (aB (dE [none,none,some 0] (bJ (eU (aJ 1))) (tgN 1) (fun _=>some true) (x2 (oIn false) (aJ 1) (aJ 2))) bO)))
noncomputable def fn_holds_all:List Da->Option Da:=iq 2 g_holds_all
end GH
set_option linter.unusedSimpArgs false
namespace GH
open PySem L2 Ry G G3 GW
noncomputable def dT (H:List Int):Da:=.tup (H.map Da.int)
theorem Ds (i j:Int):PyData.eqv (toP (.int i)) (toP (.int j))=decide (i=j):=by
 show PyData.eqv (.int i) (.int j)=_
 simp only [PyData.eqv]
 rw [bW,beq_iff_eq,decide_eq_true_eq]
theorem layAll_I:∀ T:List Int,PyData.canLayAll0 (fL (T.map Da.int))=true
 | []=>rfl
 | p::T=>by
   show (PyData.canLay0 (toP (.int p))&&PyData.canLayAll0 (fL (T.map Da.int)))=true
   rw [layAll_I T];rfl
theorem zh (x:Int):∀ T:List Int,inD (.int x) (T.map Da.int)=decide (x∈T)
 | []=>rfl
 | q::T=>by
   have ih:=zh x T
   unfold inD at ih ⊢
   show (PyData.eqv (toP (.int q)) (toP (.int x))||(fL (T.map Da.int)).any fun y=>PyData.eqv y (toP (.int x)))=_
   rw [ih,Ds,bW]
   simp only [e6,decide_eq_true_eq,ah]
   exact ⟨fun h=>h.imp (fun z=>z.symm) id,fun h=>h.imp (fun z=>z.symm) id⟩
theorem x9 (x:Int) (T:List Int):u7 (.int x) (T.map Da.int)=true:=by
 unfold u7
 rw [layAll_I]
 have:(toP (Da.int x)).depth<=60:=by simp [toP,PyData.depth]
 have h2:(toP (Da.int x)).canLay0=true:=rfl
 rw [h2]
 simp only [rW,kt,decide_eq_true_eq]
 lia
@[simp] theorem xV (n:Bool) (a b:Kd) (x:Int) (T:List Int):oIn n (a,.int x) (b,.tup (T.map Da.int))=some (.pu,.bl (if n then !decide (x∈T) else decide (x∈T))):=by
  unfold oIn we y9
  dsimp only
  rw [x9,if_pos rfl,zh]
  rfl
@[simp] theorem xI (n:Bool) (a b:Kd) (x:Int) (T:List Int):oIn n (a,.int x) (b,.lst (T.map Da.int))=some (.pu,.bl (if n then !decide (x∈T) else decide (x∈T))):=by
  unfold oIn we y9
  dsimp only
  rw [x9,if_pos rfl,zh]
  rfl
theorem vF {X:Da} {H l:List Int} (hX:X=.tup (H.map Da.int)\/X=.lst (H.map Da.int)) (hl:l.length<=1000000):fn_holds_all [X,dD l]=some (.bl (l.all fun x=>decide (x∈H))):=by
 have hc:=cu (enc:=Da.int) (xs:=l) (ix:=[none,none,some 0]) (fi:=bJ (eU (aJ 1))) (i:=1) (c:=fun _=>some true) (f:=x2 (oIn false) (aJ 1) (aJ 2)) (ρ:=[.pu X,.pu (dD l)]) (p:=fun _=>true) (e:=fun x=>.bl (decide (x∈H)))
  (uU (by simp)) hl fun x hx=>⟨rfl,fun _=>⟨(.pu,.bl (decide (x∈H))),by rcases hX with rfl | rfl<;>simp [mpR],rfl,rfl⟩⟩
 rw [df] at hc
 refine qf (ρ:=[.pu X,.pu (dD l)]) rfl ?_
 simp only [g_holds_all,gi,oQ,cb,cQ,hc,jT]
structure AA (L:List PI) (P H:List Int):Prop where
 ris:H.Pairwise fun a b=>Ms.ltI a b=true
 sub:∀ x∈H,x∈P
 cl:∀ x∈H,∀ a,(a,x)∈L->a∈H
theorem xK {H:List Int} (h:H.Pairwise fun a b=>Ms.ltI a b=true):H.Nodup:=h.imp fun {a b} z w=>by subst w;rw [Ms.linI.irr] at z;cases z
noncomputable def hk (H:List Int):List Int:=(H.length:Int)::H
theorem By {A B:List Int} (h:hk A=hk B):A=B:=by unfold hk at h;injection h
noncomputable def ltH (A B:List Int):Bool:=HT.lexLt (hk A) (hk B)
theorem va:∀ F:List (List Int),hkD (F.map fun H=>.tup [.int H.length,dT H])=some (F.map hk)
 | []=>rfl
 | H::F=>by
   show (match eQ (H.map Da.int),hkD (F.map fun H=>.tup [.int H.length,dT H]) with | some ns,some ts=>some (((H.length:Int)::ns)::ts) | _,_=>none)=_
   rw [eR,va F]
   rfl
theorem rA (F:List (List Int)):∃ hs:List (List Int),(∀ g:List Int->Da,((rR oV ([]:List Int) (F.map hk)).map fun i=>(F.map g).getD i .non)=hs.map g)/\hs.Perm F/\hs.Pairwise fun x y=>ltH y x=false:=by
 obtain ⟨hp,hs⟩:=jP oV ([]:List Int) (F.map hk)
 have hp':(rR oV ([]:List Int) (F.map hk)).Perm (bp F.length):=by
  have e:gc (α:=oV.α) (F.map hk)=F.length:=af _
  rw [e] at hp
  exact hp
 refine ⟨(rR oV ([]:List Int) (F.map hk)).map fun i=>F.getD i [],fun g=>?_,kg hp',?_⟩
 ·rw [aT]
  refine eM fun i hi=>?_
  have hi':i<F.length:=by simpa using hp'.mem_iff.mp hi
  show (F.map g).getD i .non=g (F.getD i [])
  rw [ai,av,ae hi',ai,ae hi']
  rfl
 ·rw [cy] at hs ⊢
  refine hs.imp_of_mem fun {i j} hi hj z=>?_
  have hi':i<F.length:=by simpa using hp'.mem_iff.mp hi
  have hj':j<F.length:=by simpa using hp'.mem_iff.mp hj
  have z:HT.lexLt ((F.map hk).getD j []) ((F.map hk).getD i [])=false:=z
  have ei:(F.map hk).getD i []=hk (F.getD i []):=by
   rw [ai,av,ae hi',ai,ae hi'];rfl
  have ej:(F.map hk).getD j []=hk (F.getD j []):=by
   rw [ai,av,ae hj',ai,ae hj'];rfl
  rw [ei,ej] at z
  exact z
theorem Dq {F:List (List Int)} (h:F.Nodup):(F.map hk).Nodup:=cy.mpr (h.imp fun {a b} z w=>z (By w))
end GH
set_option linter.unusedSimpArgs false
namespace GH
open PySem L2 Ry G G3 GW
theorem dm {fn:List Da->Option Da} {g:Rho->Option (List Rv)} {ρ:Rho} {rs:List Rv} {ds:List Da} {d:Da} (hg:g ρ=some rs) (hp:gG rs=some ds) (hf:fn ds=some d):bU fn g ρ=some (.pu,d):=by
 unfold bU
 rw [hg]
 dsimp only
 rw [hp]
 dsimp only
 rw [hf]
theorem B6 (ds:List Da) (k:Nat):rP ds none (some (k:Int))=ds.take k:=by
 unfold rP
 rw [HT.sIx_none,HT.sIx_nat,jx,EX]
 by_cases h:k<=ds.length
 ·rw [i9 h]
 ·rw [iu (by lia),cB (ag _),cB (by lia)]
end GH
set_option linter.unusedSimpArgs false
namespace GH
open PySem L2 Ry G G3 GW
end GH
set_option linter.unusedSimpArgs false
namespace G17
open PySem L2 Ry G G3 GW GH
theorem eqvAll_J:∀ P L:List Int,PyData.eqvAll (fL (P.map Da.int)) (fL (L.map Da.int))=decide (P=L)
 | [],[]=>rfl
 | [],q::L=>rfl
 | p::P,[]=>rfl
 | p::P,q::L=>by
   show (PyData.eqv (.int p) (.int q)&&PyData.eqvAll (fL (P.map Da.int)) (fL (L.map Da.int)))=_
   rw [eqvAll_J P L,bW]
   simp only [PyData.eqv,aD,beq_iff_eq,decide_eq_true_eq,List.cons.injEq]
end G17
namespace GB
open PySem L2 Ry G GW GH
noncomputable def g__law_heads:Rho->Res:=(e8 (xy 1 (AB bO))
 (e8 (lf (mQ (aB (x2 (oI C5 fun i j=>i ^ j.toNat) (xC (.int 2)) (xC (.int 6))) bO)) (tgN 2)
 (e8 (kj 3 (dE [none,none,some 2] (mQ (aB (x2 oIt (aJ 0) (xC (.int 0))) bO)) (tgN 1) (tb (x2 (oEq false) (x2 (oI (fun _ _=>true) Builtin.bitAnd) (x2 (oI (fun _ j=>decide (0<=j)) fun i j=>i / 2 ^ j.toNat) (aJ 2) (aJ 1)) (xC (.int 1))) (xC (.int 1)))) (aJ 1)))
 (sIf (iP (tb (x2 (oEq false) (x2 (oI (fun _ j=>decide (0<=j)) fun i j=>i / 2 ^ j.toNat) (aJ 2) (x2 oIt (aJ 0) (xC (.int 0)))) (xC (.int 0)))) (tTr (xB ri (aB (dE [none,none,none,some 3] (bJ (eU (x2 oIt (aJ 0) (xC (.int 1))))) (tgT 2 (d6 (tgN 1) (d6 (tgN 2) ju))) (tb (x2 (oIn false) (aJ 2) (aJ 3))) (x2 (oIn false) (aJ 1) (aJ 3))) bO)))) (iY 1 (pE (aB (xB oK (aB (aJ 3) bO)) (aB (xB eF (aB (aJ 3) bO)) bO)))) gA)))
 (dN (dE [none,none] (bJ (eU (xB ft (aB (aJ 1) bO)))) (tgN 1) (fun _=>some true) (x2 oIt (aJ 1) (xC (.int 1)))))))
noncomputable def fn__law_heads:List Da->Option Da:=iq 4 g__law_heads
end GB
set_option linter.unusedSimpArgs false
namespace GB
open PySem L2 Ry G G3 GW GH
noncomputable def Az (m t:Int):Bool:=Builtin.bitAnd (m / 2 ^ t.toNat) 1 == 1
noncomputable def hof (n m:Int):List Int:=(rgI 0 n.toNat).filter fun t=>Az m t
noncomputable def okB (n:Int) (L:List PI) (m:Int):Bool:=(m / 2 ^ n.toNat == 0)&&(L.filter fun p=>decide (p.2∈hof n m)).all fun p=>decide (p.1∈hof n m)
theorem sQ (m t:Nat):(m:Int) / 2 ^ ((t:Int)).toNat=((m / 2 ^ t:Nat):Int):=by
 rw [bg,Int.natCast_ediv,Int.natCast_pow]
 rfl
theorem sv (m t:Nat):Az m t=m.testBit t:=by
 unfold Az
 rw [sQ,Nat.testBit_eq_decide_div_mod_eq]
 have e:Builtin.bitAnd ((m / 2 ^ t:Nat):Int) 1=((m / 2 ^ t%2:Nat):Int):=by
  unfold Builtin.bitAnd
  rw [decide_eq_true (AD _)]
  show (((m / 2 ^ t) &&& 1:Nat):Int)=_
  rw [Nat.and_one_is_mod]
 rw [e,bW,beq_iff_eq,decide_eq_true_eq]
 lia
theorem Eb (p:Nat->Bool):∀ N:Nat,∃ m,m<2 ^ N/\∀ t,t<N->m.testBit t=p t
 | 0=>⟨0,by decide,fun t h=>absurd h (D9 t)⟩
 | N+1=>by
   obtain ⟨m,h1,h2⟩:=Eb p N
   cases hp:p N with
   | false =>
     refine ⟨m,by rw [EZ];lia,fun t ht=>?_⟩
     by_cases e:t=N
     ·subst e;rw [hp];exact fy h1
     ·exact h2 t (by lia)
   | true =>
     refine ⟨2 ^ N+m,by rw [EZ];lia,fun t ht=>?_⟩
     by_cases e:t=N
     ·subst e;rw [hp,Nat.testBit_two_pow_add_eq,fy h1];rfl
     ·rw [Nat.testBit_two_pow_add_gt (by lia)];exact h2 t (by lia)
theorem pG {n x:Int} {m:Nat}:x∈hof n m↔(0<=x/\x<n)/\m.testBit x.toNat=true:=by
 unfold hof
 rw [bw,dg]
 constructor
 ·rintro ⟨h1,h2⟩
  have e:Az m x=m.testBit x.toNat:=by rw [<- sv];congr 1;lia
  exact ⟨by lia,by rw [<- e];exact h2⟩
 ·rintro ⟨h1,h2⟩
  have e:Az m x=m.testBit x.toNat:=by rw [<- sv];congr 1;lia
  exact ⟨by lia,by rw [e];exact h2⟩
theorem sD (n m:Int):(hof n m).Pairwise fun a b=>Ms.ltI a b=true:=(j0 _ _).sublist yf
theorem yX {n:Int} {m k:Nat} (hm:m<2 ^ n.toNat) (hk:k<2 ^ n.toNat) (e:hof n m=hof n k):m=k:=by
 refine Nat.eq_of_testBit_eq fun t=>?_
 by_cases ht:t<n.toNat
 ·have h:((t:Nat):Int)∈hof n m↔((t:Nat):Int)∈hof n k:=by rw [e]
  rw [pG,pG,bg] at h
  have hb:(0:Int)<=(t:Int)/\(t:Int)<n:=by lia
  rw [bW]
  exact ⟨fun q=>(h.mp ⟨hb,q⟩).2,fun q=>(h.mpr ⟨hb,q⟩).2⟩
 ·have:2 ^ n.toNat<=2 ^ t:=jy (by decide) (by lia)
  rw [fy (by lia),fy (by lia)]
theorem An {n:Int} {H:List Int} (hr:H.Pairwise fun a b=>Ms.ltI a b=true) (hs:∀ x∈H,x∈rgI 0 n.toNat):∃ m:Nat,m<2 ^ n.toNat/\hof n m=H:=by
 obtain ⟨m,h1,h2⟩:=Eb (fun t=>decide ((t:Int)∈H)) n.toNat
 refine ⟨m,h1,Ms.strict_ext Ms.linI (sD _ _) hr fun x=>?_⟩
 rw [pG]
 constructor
 ·rintro ⟨h3,h4⟩
  rw [h2 _ (by lia),decide_eq_true_eq,Ar h3.1] at h4
  exact h4
 ·intro hx
  have:=dg.mp (hs x hx)
  refine ⟨by lia,?_⟩
  rw [h2 _ (by lia),decide_eq_true_eq,Ar (by lia)]
  exact hx
theorem lQ {n:Int} {L:List PI} {m:Nat}:okB n L m=true↔m<2 ^ n.toNat/\∀ p∈L,p.2∈hof n m->p.1∈hof n m:=by
 unfold okB
 rw [aD,beq_iff_eq,bv]
 have e:((m:Int) / 2 ^ n.toNat=0)↔m<2 ^ n.toNat:=by
  have:=sQ m n.toNat
  rw [bg] at this
  rw [this]
  have hp:0<2 ^ n.toNat:=Nat.pow_pos (by decide)
  constructor
  ·intro z
   exact (Nat.div_eq_zero_iff_lt hp).mp (by lia)
  ·intro z
   rw [Nat.div_eq_of_lt z];rfl
 rw [e]
 refine and_congr Iff.rfl ⟨fun h p hp h2=>?_,fun h p hp=>?_⟩
 ·simpa using h p (bw.mpr ⟨hp,by simpa using h2⟩)
 ·obtain ⟨h1,h2⟩:=bw.mp hp
  simpa using h p h1 (by simpa using h2)
noncomputable def fnd (n:Int) (L:List PI):List (List Int):=((rgI 0 64).filter (okB n L)).map (hof n)
theorem pC (n:Int) (L:List PI):(fnd n L).length<=64:=by
 unfold fnd
 rw [af]
 have:=fE (okB n L) (rgI 0 64)
 rw [fH] at this
 exact this
theorem Aa {n:Int} {L:List PI} (h6:n<=6) {H:List Int}:H∈fnd n L↔AA L (rgI 0 n.toNat) H:=by
 unfold fnd
 rw [bn]
 constructor
 ·rintro ⟨m,hm,rfl⟩
  obtain ⟨h1,h2⟩:=bw.mp hm
  have h3:=dg.mp h1
  obtain ⟨k,rfl⟩:∃ k:Nat,m=(k:Int):=⟨m.toNat,by lia⟩
  have h4:=lQ.mp h2
  exact ⟨sD _ _,fun x hx=>(bw.mp hx).1,fun x hx a ha=>h4.2 (a,x) ha hx⟩
 ·intro q
  obtain ⟨m,h1,h2⟩:=An q.ris q.sub
  have:2 ^ n.toNat<=2 ^ 6:=jy (by decide) (by lia)
  refine ⟨m,bw.mpr ⟨dg.mpr (by lia),lQ.mpr ⟨h1,fun p hp hb=>?_⟩⟩,h2⟩
  rw [h2] at hb ⊢
  exact q.cl p.2 hb p.1 hp
theorem xP (n:Int) (L:List PI):(fnd n L).Nodup:=by
 unfold fnd
 refine cy.mpr (((qk _ _).sublist yf).imp_of_mem fun {a b} ha hb ne e=>ne ?_)
 obtain ⟨a1,a2⟩:=bw.mp ha
 obtain ⟨b1,b2⟩:=bw.mp hb
 have a3:=dg.mp a1
 have b3:=dg.mp b1
 obtain ⟨i,rfl⟩:∃ k:Nat,a=(k:Int):=⟨a.toNat,by lia⟩
 obtain ⟨j,rfl⟩:∃ k:Nat,b=(k:Int):=⟨b.toNat,by lia⟩
 rw [yX (lQ.mp a2).1 (lQ.mp b2).1 e]
noncomputable def it (H:List Int):Da:=.tup [.int H.length,dT H]
theorem nv {n:Int} {L:List PI} (h0:0<=n) (h6:n<=6) (hl:L.length<=1000):∃ hs:List (List Int),fn__law_heads [dY n L]=some (.lst (hs.map dT))/\hs.Nodup/\(∀ H,H∈hs↔AA L (rgI 0 n.toNat) H)/\(hs.Pairwise fun x y=>ltH y x=false)/\hs.length<=64:=by
 have key:∃ d,fn__law_heads [dY n L]=some d/\∃ hs:List (List Int),d=.lst (hs.map dT)/\hs.Perm (fnd n L)/\hs.Pairwise fun x y=>ltH y x=false:=by
  refine p8 ?_
  unfold g__law_heads
  have e0:cG 4 [dY n L]=[.pu (dY n L),.no,.no,.no]:=rfl
  rw [e0]
  refine cH (eE (ρ':=[.pu (dY n L),.ow (.lst []),.no,.no]) (by simp) ?_)
  refine cH ?_
  refine hZ (enc:=Da.int) (xs:=rgI 0 64) (fun pre ρ=>∃ s2 s3,ρ=[.pu (dY n L),.ow (.lst ((pre.filter (okB n L)).map fun m=>it (hof n m))),s2,s3]) ?_ ⟨_,_,rfl⟩ ?_ ?_
  ·rfl
  ·rintro pre m post ρ e ⟨s2,s3,rfl⟩
   have hm:m∈rgI 0 64:=by rw [e];simp
   have hm':=dg.mp hm
   obtain ⟨k,rfl⟩:∃ k:Nat,m=(k:Int):=⟨m.toNat,by lia⟩
   have hpl:pre.length<=64:=by
    have:=congrArg gc e
    rw [fH,aH] at this
    lia
   refine ⟨[.pu (dY n L),.ow (.lst ((pre.filter (okB n L)).map fun m=>it (hof n m))),.pu (.int k),s3],rfl,?_⟩
   have hz:∀ ρ:Rho,ρ[0]?=some (.pu (dY n L))->x2 oIt (aJ 0) (xC (.int 0)) ρ=some (.pu,.int n):=fun ρ h=>by simp [h,dY]
   refine cH (eE (ρ':=[.pu (dY n L),.ow (.lst ((pre.filter (okB n L)).map fun m=>it (hof n m))),.pu (.int k),.pu (.lst ((hof n k).map Da.int))]) ?_ ?_)
   ·have hc:=cu (enc:=Da.int) (xs:=rgI 0 n.toNat) (ix:=[none,none,some 2]) (fi:=mQ (aB (x2 oIt (aJ 0) (xC (.int 0))) bO)) (i:=1)
     (c:=tb (x2 (oEq false) (x2 (oI (fun _ _=>true) Builtin.bitAnd) (x2 (oI (fun _ j=>decide (0<=j)) fun i j=>i / 2 ^ j.toNat) (aJ 2) (aJ 1)) (xC (.int 1))) (xC (.int 1)))) (f:=aJ 1)
     (ρ:=[.pu (dY n L),.ow (.lst ((pre.filter (okB n L)).map fun m=>it (hof n m))),.pu (.int k),s3]) (p:=fun t=>Az k t) (e:=Da.int) ?_ (by rw [fH];lia) fun t ht=>?_
    ·rw [jQ,hc]
     rfl
    ·rw [qD,cb,hz _ rfl,cQ]
     dsimp only
     rw [if_pos (by lia),eD]
    ·have ht':=dg.mp ht
     have em:(mpR [none,none,some 2] [.pu (dY n L),.ow (.lst ((pre.filter (okB n L)).map fun m=>it (hof n m))),.pu (.int (k:Int)),s3]).set 1 (.pu (.int t))=[.no,.pu (.int t),.pu (.int k)]:=rfl
     rw [em]
     refine ⟨?_,fun _=>⟨(.pu,.int t),rfl,rfl,rfl⟩⟩
     simp only [vq,mH,fU,vE,aW,be,C7]
     rw [if_pos (by simpa using ht'.1)]
     dsimp only
     rw [C7,if_pos rfl]
     dsimp only
     rw [zr]
     rfl
   ·have hc:=jN (enc:=dP) (xs:=L) (ix:=[none,none,none,some 3]) (fi:=bJ (eU (x2 oIt (aJ 0) (xC (.int 1))))) (i:=1) (j:=2) (c:=tb (x2 (oIn false) (aJ 2) (aJ 3))) (f:=x2 (oIn false) (aJ 1) (aJ 3))
     (ρ:=[.pu (dY n L),.ow (.lst ((pre.filter (okB n L)).map fun m=>it (hof n m))),.pu (.int k),.pu (.lst ((hof n k).map Da.int))]) (p:=fun p=>decide (p.2∈hof n k)) (e:=fun p=>.bl (decide (p.1∈hof n k))) (a:=fun p=>.int p.1) (b:=fun p=>.int p.2) (by simp [dY]) (by lia) (fun p hp=>by
       have em:((mpR [none,none,none,some 3] [.pu (dY n L),.ow (.lst ((pre.filter (okB n L)).map fun m=>it (hof n m))),.pu (.int (k:Int)),.pu (.lst ((hof n k).map Da.int))]).set 1 (.pu (.int p.1))).set 2 (.pu (.int p.2))=[.no,.pu (.int p.1),.pu (.int p.2),.pu (.lst ((hof n k).map Da.int))]:=rfl
       rw [em]
       refine ⟨?_,fun _=>⟨(.pu,.bl (decide (p.1∈hof n k))),?_,rfl,rfl⟩⟩
       ·simp only [vq,mH,fU,aW,be,xI]
        rfl
       ·simp only [mH,fU,aW,be,xI]
        rfl) (by decide) (fun _=>rfl)
    refine m8 (b:=okB n L k) ?_ (fun q=>?_) fun q=>?_
    ·have t1:tb (x2 (oEq false) (x2 (oI (fun _ j=>decide (0<=j)) fun i j=>i / 2 ^ j.toNat) (aJ 2) (x2 oIt (aJ 0) (xC (.int 0)))) (xC (.int 0))) [.pu (dY n L),.ow (.lst ((pre.filter (okB n L)).map fun m=>it (hof n m))),.pu (.int k),.pu (.lst ((hof n k).map Da.int))]=some ((k:Int) / 2 ^ n.toNat == 0):=by
      rw [vq,mH,mH,hz _ rfl]
      simp only [fU,vE,aW,be,C7]
      rw [if_pos (by simpa using h0)]
      dsimp only
      rw [zr]
      rfl
     have t2:tTr (xB ri (aB (dE [none,none,none,some 3] (bJ (eU (x2 oIt (aJ 0) (xC (.int 1))))) (tgT 2 (d6 (tgN 1) (d6 (tgN 2) ju))) (tb (x2 (oIn false) (aJ 2) (aJ 3))) (x2 (oIn false) (aJ 1) (aJ 3))) bO)) [.pu (dY n L),.ow (.lst ((pre.filter (okB n L)).map fun m=>it (hof n m))),.pu (.int k),.pu (.lst ((hof n k).map Da.int))]=some ((L.filter fun p=>decide (p.2∈hof n k)).all fun p=>decide (p.1∈hof n k)):=by
      rw [uJ,oQ,cb,hc,cQ]
      dsimp only
      rw [jT]
      rfl
     rw [t9,t1,show okB n L k=(((k:Int) / 2 ^ n.toNat == 0)&&(L.filter fun p=>decide (p.2∈hof n k)).all fun p=>decide (p.1∈hof n k)) from rfl]
     cases hd:((k:Int) / 2 ^ n.toNat == 0) with
     | false=>rfl
     | true =>
       dsimp only
       rw [t2]
       rfl
    ·refine eE (ρ':=[.pu (dY n L),.ow (.lst (((pre++[(k:Int)]).filter (okB n L)).map fun m=>it (hof n m))),.pu (.int k),.pu (.lst ((hof n k).map Da.int))]) ?_ ⟨_,_,rfl⟩
     have hfl:=fE (okB n L) pre
     rw [nK]
     simp only [uv,cb,oQ,fU,cQ,aW,be,Cf,vT,fF,gr,iM,if_true,Option.map_some,af,aA,cT]
     rw [if_pos (by decide)]
     dsimp only
     rw [if_pos ⟨rfl,by rw [af];lia⟩,As,cU]
     have:[(k:Int)].filter (okB n L)=[(k:Int)]:=by rw [C0,if_pos q];rfl
     rw [this]
     rfl
    ·refine eE rfl ⟨.pu (.int k),.pu (.lst ((hof n k).map Da.int)),?_⟩
     have:[(k:Int)].filter (okB n L)=[]:=by rw [C0,if_neg (by rw [q];decide)];rfl
     rw [As,this,bH]
  ·rintro ρ ⟨s2,s3,rfl⟩
   obtain ⟨hs,q1,q2,q3⟩:=rA (fnd n L)
   have em:(((rgI 0 64).filter (okB n L)).map fun m=>it (hof n m))=(fnd n L).map it:=by unfold fnd;rw [aT];rfl
   rw [em]
   have hso:ft [(Kd.bo,.lst ((fnd n L).map it))]=some (.fr,.lst (hs.map it)):=by
    unfold ft
    dsimp only
    have hk:hkD ((fnd n L).map it)=some ((fnd n L).map hk):=va _
    rw [hk]
    dsimp only
    rw [if_pos ⟨by rw [af];have:=pC n L;lia,Dq (xP n L)⟩]
    exact congrArg (fun l=>some (Kd.fr,Da.lst l)) (q1 it)
   have hsl:hs.length<=64:=by rw [q2.length_eq];exact pC n L
   have hc:=cu (enc:=it) (xs:=hs) (ix:=[none,none]) (fi:=bJ (eU (xB ft (aB (aJ 1) bO)))) (i:=1) (c:=fun _=>some true) (f:=x2 oIt (aJ 1) (xC (.int 1)))
    (ρ:=[.pu (dY n L),.ow (.lst ((fnd n L).map it)),s2,s3]) (p:=fun _=>true) (e:=dT) ?_ (by lia) fun H hH=>⟨rfl,fun _=>⟨(.pu,dT H),?_,rfl,rfl⟩⟩
   ·rw [df] at hc
    refine p7 (d:=.lst (hs.map dT)) ?_ ⟨hs,rfl,q2,q3⟩
    rw [gi,hc]
   ·have h1:xB ft (aB (aJ 1) bO) [.pu (dY n L),.ow (.lst ((fnd n L).map it)),s2,s3]=some (.fr,.lst (hs.map it)):=hso
    rw [lD,uM,h1]
   ·have em:(mpR [none,none] [.pu (dY n L),.ow (.lst ((fnd n L).map it)),s2,s3]).set 1 (.pu (it H))=[.no,.pu (it H)]:=rfl
    rw [em]
    simp [it]
 obtain ⟨d,ed,hs,rfl,p1,o1⟩:=key
 refine ⟨hs,ed,p1.nodup_iff.mpr (xP n L),fun H=>?_,o1,by rw [p1.length_eq];exact pC n L⟩
 rw [p1.mem_iff,Aa h6]
end GB
namespace GN
open PySem L2 Ry G GW
noncomputable def g_head_of:Rho->Res:=(e8 (kj 2 (bU fn_lowers_of (aB (x2 oIt (aJ 0) (xC (.int 1))) bO)))
 (e8 (xy 3 (xC2 (.fr,.dK [] [])))
 (e8 (lf (bJ (eU (aJ 1))) (tgN 4)
 (e8 (yu 3 (aJ 4) (xC (.bl true)))
 (iU 3 (g6 (aJ 2) (aJ 4) (xC2 (.fr,.dK [] []))))))
 (dN (xB eF (aB (xB gn (aB (aJ 3) bO)) bO))))))
noncomputable def fn_head_of:List Da->Option Da:=iq 5 g_head_of
end GN
set_option linter.unusedSimpArgs false
namespace GN
open PySem L2 Ry G G3 GW GH
theorem t5:∀ (l:List Int) (b:Int),cF (l.map (Sum.inl:Int->Key)) (Sum.inl b)=(fB l b).map Sum.inl/\eB (l.map (Sum.inl:Int->Key)) (l.map fun _=>Da.bl true) (Sum.inl b) (.bl true)=(fB l b).map fun _=>Da.bl true
 | [],b=>⟨rfl,rfl⟩
 | a::l,b=>by
   obtain ⟨i1,i2⟩:=t5 l b
   by_cases h:a=b
   ·subst h
    rw [show fB (a::l) a=a::l from if_pos ax]
    constructor
    ·show (if (Sum.inl a:Key)=Sum.inl a then _ else _)=_
     rw [if_pos rfl];rfl
    ·show (if (Sum.inl a:Key)=Sum.inl a then _ else _)=_
     rw [if_pos rfl];rfl
   ·have hk:¬ (Sum.inl a:Key)=Sum.inl b:=fun z=>h (Sum.inl.inj z)
    have ha:fB (a::l) b=a::fB l b:=by
     unfold fB
     by_cases hb:b∈l
     ·rw [if_pos hb,if_pos (al _ hb)]
     ·rw [if_neg hb,if_neg (fun z=>(ah.mp z).elim (fun z=>h z.symm) hb)];rfl
    rw [ha]
    constructor
    ·show (if (Sum.inl a:Key)=Sum.inl b then _ else Sum.inl a::cF (l.map Sum.inl) (Sum.inl b))=_
     rw [if_neg hk,i1];rfl
    ·show (if (Sum.inl a:Key)=Sum.inl b then _ else Da.bl true::eB (l.map Sum.inl) (l.map fun _=>Da.bl true) (Sum.inl b) (.bl true))=_
     rw [if_neg hk,i2];rfl
theorem ya {l:List Int} (nd:l.Nodup):(l.map (Sum.inl:Int->Key)).Nodup:=cy.mpr (nd.imp fun {a b} h z=>h (Sum.inl.inj z))
theorem Cv {l:List Int} {x:Int} (nd:l.Nodup) (hl:l.length<=1000):AN (dD l) (.int x) (.bl true)=some (dD (fB l x)):=by
 show (if (l.map (Sum.inl:Int->Key)).Nodup/\(l.map (Sum.inl:Int->Key)).length<=1000000 then some (Da.dK (cF (l.map Sum.inl) (Sum.inl x)) (eB (l.map Sum.inl) (l.map fun _=>Da.bl true) (Sum.inl x) (.bl true))) else none)=_
 rw [if_pos ⟨ya nd,by rw [af];lia⟩,(t5 l x).1,(t5 l x).2]
 rfl
theorem AL:∀ (l' l:List Int),yJ (l.map (Sum.inl:Int->Key)) (l.map fun _=>Da.bl true) (l'.map Sum.inl) (l'.map fun _=>Da.bl true)=((l'.foldl fB l).map Sum.inl,(l'.foldl fB l).map fun _=>Da.bl true)
 | [],l=>rfl
 | b::l',l=>by
   show yJ (cF (l.map Sum.inl) (Sum.inl b)) (eB (l.map Sum.inl) (l.map fun _=>Da.bl true) (Sum.inl b) (.bl true)) (l'.map Sum.inl) (l'.map fun _=>Da.bl true)=_
   rw [(t5 l b).1,(t5 l b).2,AL l' (fB l b)]
   rfl
theorem m4:∀ (l' l:List Int) (x:Int),x∈l'.foldl fB l↔x∈l\/x∈l'
 | [],l,x=>by simp
 | b::l',l,x=>by rw [De,m4 l',lp,ah,or_assoc]
theorem qj:∀ (l' l:List Int),l.Nodup->(l'.foldl fB l).Nodup
 | [],l,h=>h
 | b::l',l,h=>qj l' _ (gW h)
noncomputable def cA (L:List PI) (P:List Int):List Int:=P.foldl (fun l t=>(fC (low L) t).foldl fB (fB l t)) []
theorem mf (L:List PI) (P:List Int) (t:Int):cA L (P++[t])=(fC (low L) t).foldl fB (fB (cA L P) t):=by unfold cA;rw [AI];rfl
theorem mv {n:Int} {L:List PI} (Y:Yd n L):∀ P:List Int,(∀ x∈P,x∈rgI 0 n.toNat)->(cA L P).Nodup/\(∀ x,x∈cA L P↔x∈P\/∃ t∈P,(x,t)∈L)/\(cA L P).length<=n.toNat:=by
 intro P hP
 have key:∀ post pre:List Int,(cA L pre).Nodup/\(∀ x,x∈cA L pre↔x∈pre\/∃ t∈pre,(x,t)∈L)->(cA L (pre++post)).Nodup/\∀ x,x∈cA L (pre++post)↔x∈pre++post\/∃ t∈pre++post,(x,t)∈L:=fun post=>by
  induction post with
  | nil=>intro pre h;rw [bH];exact h
  | cons t post ih =>
    intro pre ⟨h1,h2⟩
    have:=ih (pre++[t]) ⟨by rw [mf];exact qj _ _ (gW h1),fun x=>by
     rw [mf,m4,lp,h2,me]
     simp only [aE,au]
     constructor
     ·rintro (((h | ⟨u,hu,h⟩) | h) | h)
      ·exact .inl (.inl h)
      ·exact .inr ⟨u,.inl hu,h⟩
      ·exact .inl (.inr h)
      ·exact .inr ⟨t,.inr rfl,h⟩
     ·rintro ((h | h) | ⟨u,hu | hu,h⟩)
      ·exact .inl (.inl (.inl h))
      ·exact .inl (.inr h)
      ·exact .inl (.inl (.inr ⟨u,hu,h⟩))
      ·subst hu;exact .inr h⟩
    rw [aX] at this
    exact this
 obtain ⟨h1,h2⟩:=key P [] ⟨by simp [cA],by simp [cA]⟩
 rw [oX] at h1 h2
 refine ⟨h1,h2,?_⟩
 have:=Ms.length_le_of_subset h1 (m:=rgI 0 n.toNat) fun x hx=>by
  rcases (h2 x).mp hx with z | ⟨t,_,z⟩
  ·exact hP x z
  ·have:=(Y.rg _ z).1
   dsimp only at this
   exact dg.mpr (by lia)
 rw [fH] at this
 exact this
theorem vo {n:Int} {L:List PI} (Y:Yd n L) (h64:n<64) (hl:L.length<=1000) {P:List Int} (hP:∀ x∈P,x∈rgI 0 n.toNat):fn_head_of [dY n L,dT P]=some (dT (Ms.srt Ms.ltI (cA L P))):=by
 refine sU ?_
 unfold g_head_of
 have e0:cG 5 [dY n L,dT P]=[.pu (dY n L),.pu (dT P),.no,.no,.no]:=rfl
 rw [e0]
 refine cH (eE (ρ':=[.pu (dY n L),.pu (dT P),.pu (dU (low L)),.no,.no]) ?_ ?_)
 ·have z1:bU fn_lowers_of (aB (x2 oIt (aJ 0) (xC (.int 1))) bO) [.pu (dY n L),.pu (dT P),.no,.no,.no]=some (.pu,dU (low L)):=dm (ds:=[.tup (L.map dP)]) (rs:=[(.pu,.tup (L.map dP))]) (by simp [dY]) rfl (nG hl)
  rw [jQ,z1]
  rfl
 refine cH (eE (ρ':=[.pu (dY n L),.pu (dT P),.pu (dU (low L)),.ow (dD (cA L [])),.no]) rfl ?_)
 refine cH ?_
 refine hZ (enc:=Da.int) (xs:=P) (fun pre ρ=>∃ s4,ρ=[.pu (dY n L),.pu (dT P),.pu (dU (low L)),.ow (dD (cA L pre)),s4]) (by simp [dT]) ⟨_,rfl⟩ ?_ ?_
 ·rintro pre t post ρ e ⟨s4,rfl⟩
  have hpre:∀ x∈pre,x∈rgI 0 n.toNat:=fun x hx=>hP x (by rw [e];simp [hx])
  obtain ⟨n1,_,n3⟩:=mv Y pre hpre
  have n2:=gW (b:=t) n1
  have hal:(fB (cA L pre) t).length<=65:=by
   unfold fB
   split
   ·lia
   ·rw [aH,bF];lia
  refine ⟨[.pu (dY n L),.pu (dT P),.pu (dU (low L)),.ow (dD (cA L pre)),.pu (.int t)],rfl,?_⟩
  refine cH (eE (ρ':=[.pu (dY n L),.pu (dT P),.pu (dU (low L)),.ow (dD (fB (cA L pre) t)),.pu (.int t)]) ?_ ?_)
  ·rw [xJ,show ([.pu (dY n L),.pu (dT P),.pu (dU (low L)),.ow (dD (cA L pre)),.pu (.int t)]:Rho)[3]?=some (.ow (dD (cA L pre))) from rfl,show aJ 4 [.pu (dY n L),.pu (dT P),.pu (dU (low L)),.ow (dD (cA L pre)),.pu (.int t)]=some (.pu,.int t) from rfl,vE]
   dsimp only
   rw [if_pos (iM _),Cv n1 (by lia)]
   rfl
  refine eE (ρ':=[.pu (dY n L),.pu (dT P),.pu (dU (low L)),.ow (dD (cA L (pre++[t]))),.pu (.int t)]) ?_ ⟨_,rfl⟩
  have upd:∀ (kd:Kd),kd≠.bo->g6 (aJ 2) (aJ 4) (xC2 (.fr,.dK [] [])) [.pu (dY n L),.pu (dT P),.pu (dU (low L)),.ow (dD (fB (cA L pre) t)),.pu (.int t)]=some (kd,dD (fC (low L) t)) ->
   iU 3 (g6 (aJ 2) (aJ 4) (xC2 (.fr,.dK [] []))) [.pu (dY n L),.pu (dT P),.pu (dU (low L)),.ow (dD (fB (cA L pre) t)),.pu (.int t)]=.nx [.pu (dY n L),.pu (dT P),.pu (dU (low L)),.ow (dD (cA L (pre++[t]))),.pu (.int t)]:=fun kd hkd hg=>by
   unfold iU
   rw [hg,show ([.pu (dY n L),.pu (dT P),.pu (dU (low L)),.ow (dD (fB (cA L pre) t)),.pu (.int t)]:Rho)[3]?=some (.ow (dD (fB (cA L pre) t))) from rfl]
   have hll:=t0 L t
   show (if ((fB (cA L pre) t).map (Sum.inl:Int->Key)).Nodup/\((fB (cA L pre) t).map (Sum.inl:Int->Key)).length+((fC (low L) t).map (Sum.inl:Int->Key)).length<=1000000/\kd≠.bo then Res.nx _ else Res.bad)=_
   rw [if_pos ⟨ya n2,by rw [af,af];lia,hkd⟩,AL,mf]
   rfl
  by_cases hk:t∈(low L).map (·.1)
  ·exact upd .pu (fun z=>nomatch z) (by
    rw [oY,show aJ 2 [.pu (dY n L),.pu (dT P),.pu (dU (low L)),.ow (dD (fB (cA L pre) t)),.pu (.int t)]=some (.pu,dU (low L)) from rfl,show aJ 4 [.pu (dY n L),.pu (dT P),.pu (dU (low L)),.ow (dD (fB (cA L pre) t)),.pu (.int t)]=some (.pu,.int t) from rfl,zz]
    dsimp only
    rw [p4,if_pos hk])
  ·exact upd .fr (fun z=>nomatch z) (by
    rw [oY,show aJ 2 [.pu (dY n L),.pu (dT P),.pu (dU (low L)),.ow (dD (fB (cA L pre) t)),.pu (.int t)]=some (.pu,dU (low L)) from rfl,show aJ 4 [.pu (dY n L),.pu (dT P),.pu (dU (low L)),.ow (dD (fB (cA L pre) t)),.pu (.int t)]=some (.pu,.int t) from rfl,zz]
    dsimp only
    rw [p4,if_neg hk,jU hk]
    rfl)
 ·rintro ρ ⟨s4,rfl⟩
  obtain ⟨_,_,n3⟩:=mv Y P hP
  refine p7 (d:=dT (Ms.srt Ms.ltI (cA L P))) ?_ rfl
  have hs:xB gn (aB (aJ 3) bO) [.pu (dY n L),.pu (dT P),.pu (dU (low L)),.ow (dD (cA L P)),s4]=some (.fr,.lst ((Ms.srt Ms.ltI (cA L P)).map Da.int)):=by
   rw [oQ,cb,show aJ 3 [.pu (dY n L),.pu (dT P),.pu (dU (low L)),.ow (dD (cA L P)),s4]=some (.bo,dD (cA L P)) from rfl,cQ]
   dsimp only
   unfold gn dD
   dsimp only
   have e:((cA L P).map (Sum.inl:Int->Key)).map fW=(cA L P).map Da.int:=by rw [aT];rfl
   rw [e,rL (by lia)]
  rw [gi,oQ,cb,hs,cQ]
  rfl
end GN
namespace G7
open PySem L2 Ry G GW GH GB GN
noncomputable def g_is_head:Rho->Res:=(e8 (sIf (ij (tTr (xB ri (aB (dE [none,none,none,some 0] (bJ (eU (aJ 1))) (tgN 1) (fun _=>some true) (bU fn_is_number_below (aB (aJ 1) (aB (x2 oIt (aJ 3) (xC (.int 0))) bO)))) bO)))) (dN (xC (.bl false))) gA)
 (e8 (kj 2 (bU fn_lowers_of (aB (x2 oIt (aJ 0) (xC (.int 1))) bO)))
 (dN (zi (bU fn_is_rising (aB (aJ 1) bO)) (xB ri (aB (dE [none,none,none,some 2,some 1] (bJ (eU (aJ 1))) (tgN 1) (fun _=>some true) (bU fn_holds_all (aB (aJ 4) (aB (eU (g6 (aJ 3) (aJ 1) (xC2 (.fr,.dK [] [])))) bO)))) bO))))))
noncomputable def fn_is_head:List Da->Option Da:=iq 3 g_is_head
noncomputable def c_tops:Rho->Option Bool:=(ij (tTr (bU fn_is_head (aB (aJ 0) (aB (aJ 1) bO)))))
noncomputable def g_tops2:Rho->Res:=(kj 2 (bU fn_uppers_of (aB (x2 oIt (aJ 0) (xC (.int 1))) bO)))
noncomputable def g_tops3:Rho->Res:=(dN (xB eF (aB (dE [none,none,none,some 1,some 2] (bJ (eU (aJ 1))) (tgN 1) (ij (tTr (xB wn (aB (dE [none,none,some 3] (bJ (eU (g6 (aJ 4) (aJ 1) (xC2 (.fr,.dK [] []))))) (tgN 1) (fun _=>some true) (x2 (oIn false) (aJ 1) (aJ 2))) bO)))) (aJ 1)) bO)))
noncomputable def fnX_tops:List Da->Option (Option Da):=Rx.run3 3 1 c_tops (e8 g_tops2 g_tops3)
noncomputable def g_tops:Rho->Res:=(e8 (sIf (ij (tTr (bU fn_is_head (aB (aJ 0) (aB (aJ 1) bO))))) (fun _=>.bad) gA)
 (e8 (kj 2 (bU fn_uppers_of (aB (x2 oIt (aJ 0) (xC (.int 1))) bO)))
 (dN (xB eF (aB (dE [none,none,none,some 1,some 2] (bJ (eU (aJ 1))) (tgN 1) (ij (tTr (xB wn (aB (dE [none,none,some 3] (bJ (eU (g6 (aJ 4) (aJ 1) (xC2 (.fr,.dK [] []))))) (tgN 1) (fun _=>some true) (x2 (oIn false) (aJ 1) (aJ 2))) bO)))) (aJ 1)) bO)))))
noncomputable def fn_tops:List Da->Option Da:=iq 3 g_tops
noncomputable def g__law_tops:Rho->Res:=(dN (xB eF (aB (dE [none,none,some 1,some 0] (bJ (eU (aJ 1))) (tgN 1) (ij (tTr (dE [none,none,some 1,some 3] (bJ (eU (aJ 2))) (tgN 1) (tb (x2 (oIn false) (pE (aB (aJ 2) (aB (aJ 1) bO))) (x2 oIt (aJ 3) (xC (.int 1))))) (aJ 1)))) (aJ 1)) bO)))
noncomputable def fn__law_tops:List Da->Option Da:=iq 2 g__law_tops
noncomputable def fn__law_no_head:List Da->Option Da:=Rx.askX fnX_tops
noncomputable def g_law:Rho->Res:=(e8 (kj 1 (bU fn__law_yard (aB (aJ 0) (aB (xC (.int 0)) (aB (xC (.int 6)) bO)))))
 (e8 (lf (bJ (eU (bU fn__law_heads (aB (aJ 1) bO)))) (tgN 2)
 (e8 (kj 3 (bU fn_tops (aB (aJ 1) (aB (aJ 2) bO))))
 (e8 (sIf (wH (ij (tTr (gq iE (aJ 3)))) (wH (tb (x2 (oEq true) (aJ 3) (bU fn__law_tops (aB (aJ 1) (aB (aJ 2) bO))))) (tb (x2 (oEq true) (bU fn_head_of (aB (aJ 1) (aB (aJ 3) bO))) (aJ 2))))) (dN (xC (.bl false))) gA)
 (e8 (sIf (iP (tb (x2 (oB fun i j=>decide (j<i)) (xB oK (aB (aJ 2) bO)) (xC (.int 0)))) (tb (x2 (oIs true) (bU fn__law_no_head (aB (aJ 1) (aB (x2 jO (aJ 2) (hJ (aJ 2) qY (iV (xC (.int 1))))) bO))) (xC (.bl true))))) (dN (xC (.bl false))) gA)
 (e8 (sIf (iP (tb (x2 (oB fun i j=>decide (j<i)) (xB oK (aB (aJ 2) bO)) (xC (.int 1)))) (tb (x2 (oIs true) (bU fn__law_no_head (aB (aJ 1) (aB (gJ (aJ 2)) bO))) (xC (.bl true))))) (dN (xC (.bl false))) gA)
 (lf (bJ (eU (aJ 2))) (tgN 4)
 (e8 (kj 5 (xB eF (aB (dE [none,none,some 4] (bJ (eU (aJ 2))) (tgN 1) (tb (x2 (oEq true) (aJ 1) (aJ 2))) (aJ 1)) bO)))
 (sIf (iP (tb (x2 (oIn true) (aJ 4) (aJ 3))) (tb (x2 (oIs true) (bU fn__law_no_head (aB (aJ 1) (aB (aJ 5) bO))) (xC (.bl true))))) (dN (xC (.bl false))) gA))))))))
 (e8 (kj 6 (xB eF (aB (dE [none,none,none,some 1] (bJ (eU (hJ (aJ 0) (iV (xC (.int 3))) (iV (xC (.int 7)))))) (tgN 1) (fun _=>some true) (bU fn__law_mix (aB (aJ 1) (aB (xC (.int 9923)) (aB (x2 oIt (aJ 3) (xC (.int 0))) bO))))) bO)))
 (e8 (kj 7 (x2 jO (xB lC (aB (aJ 6) bO)) (dE [none,none,none,some 6] (bJ (eU (x2 oIt (aJ 1) (xC (.int 1))))) (tgT 2 (d6 (tgN 1) (d6 (tgN 2) ju))) (tb (x2 (oIn false) (aJ 2) (aJ 3))) (aJ 1))))
 (dN (x2 (oEq false) (bU fn_head_of (aB (aJ 1) (aB (aJ 6) bO))) (xB eF (aB (dO (aJ 7)) bO))))))))
noncomputable def fn_law:List Da->Option Da:=iq 8 g_law
end G7
set_option linter.unusedSimpArgs false
namespace G7
open PySem L2 Ry G G3 GW GH GN GB
theorem uB (n:Bool) (a b:Kd) (P L:List Int):oEq n (a,dT P) (b,dT L)=some (.pu,.bl (if n then !decide (P=L) else decide (P=L))):=by
 have e:eqD (.tup (P.map Da.int)) (.tup (L.map Da.int))=decide (P=L):=G17.eqvAll_J P L
 have ok:zN (.tup (P.map Da.int)) (.tup (L.map Da.int))=true:=by
  unfold zN
  rw [show (toP (.tup (P.map Da.int))).canLay0=true from GH.layAll_I P,show (toP (.tup (L.map Da.int))).canLay0=true from GH.layAll_I L]
  have h:(toP (.tup (P.map Da.int))).depth=PyData.depthAll (fL (P.map Da.int))+1:=by simp [toP,PyData.depth]
  have:=Rx.depth_ints P
  simp only [rW,kt,decide_eq_true_eq]
  lia
 unfold oEq dT
 rw [if_pos ok,e]
noncomputable def iD (n:Int) (L:List PI) (P:List Int):Bool:=(P.all fun x=>decide (0<=x)&&decide (x<n))&&(pc Ms.ltI P&&P.all fun x=>(fC (low L) x).all fun a=>decide (a∈P))
theorem rf {n:Int} {L:List PI} {P:List Int} (hl:L.length<=1000) (hP:P.length<=1000):fn_is_head [dY n L,dT P]=some (.bl (iD n L P)):=by
 refine sU ?_
 unfold g_is_head
 have e0:cG 3 [dY n L,dT P]=[.pu (dY n L),.pu (dT P),.no]:=rfl
 rw [e0]
 have hc:=cu (enc:=Da.int) (xs:=P) (ix:=[none,none,none,some 0]) (fi:=bJ (eU (aJ 1))) (i:=1) (c:=fun _=>some true) (f:=bU fn_is_number_below (aB (aJ 1) (aB (x2 oIt (aJ 3) (xC (.int 0))) bO))) (ρ:=[.pu (dY n L),.pu (dT P),.no]) (p:=fun _=>true) (e:=fun x=>.bl (decide (0<=x)&&decide (x<n)))
  (by simp [dT]) (by lia) fun x hx=>⟨rfl,fun _=>⟨(.pu,.bl (decide (0<=x)&&decide (x<n))),by
    have em:(mpR [none,none,none,some 0] [.pu (dY n L),.pu (dT P),.no]).set 1 (.pu (.int x))=[.no,.pu (.int x),.no,.pu (dY n L)]:=rfl
    rw [em]
    exact dm (ds:=[.int x,.int n]) (by simp [dY];rfl) rfl (tQ x n),rfl,rfl⟩⟩
 rw [df] at hc
 refine cH (m8 (b:=!(P.all fun x=>decide (0<=x)&&decide (x<n))) ?_ (fun q=>?_) fun q=>eE rfl ?_)
 ·rw [lM,uJ,oQ,cb,hc,cQ]
  dsimp only
  rw [jT]
  rfl
 ·have q:(P.all fun x=>decide (0<=x)&&decide (x<n))=false:=by simpa using q
  refine p7 (d:=.bl false) rfl ?_
  unfold iD
  rw [q];rfl
 have q:(P.all fun x=>decide (0<=x)&&decide (x<n))=true:=by simpa using q
 refine cH (eE (ρ':=[.pu (dY n L),.pu (dT P),.pu (dU (low L))]) (by simp [dY,nG hl]) ?_)
 have hris:fn_is_rising [dT P]=some (.bl (pc Ms.ltI P)):=qN (enc:=Da.int) (lt:=Ms.ltI) (0:Int) (xs:=P) (by lia) fun a b=>rfl
 have hc2:=cu (enc:=Da.int) (xs:=P) (ix:=[none,none,none,some 2,some 1]) (fi:=bJ (eU (aJ 1))) (i:=1) (c:=fun _=>some true) (f:=bU fn_holds_all (aB (aJ 4) (aB (eU (g6 (aJ 3) (aJ 1) (xC2 (.fr,.dK [] [])))) bO))) (ρ:=[.pu (dY n L),.pu (dT P),.pu (dU (low L))]) (p:=fun _=>true) (e:=fun x=>.bl ((fC (low L) x).all fun a=>decide (a∈P)))
  (by simp [dT]) (by lia) fun x hx=>⟨rfl,fun _=>⟨(.pu,.bl ((fC (low L) x).all fun a=>decide (a∈P))),by
    have em:(mpR [none,none,none,some 2,some 1] [.pu (dY n L),.pu (dT P),.pu (dU (low L))]).set 1 (.pu (.int x))=[.no,.pu (.int x),.no,.pu (dU (low L)),.pu (dT P)]:=rfl
    rw [em]
    have hg:=xu (low L) x (aJ 3) (aJ 1) [.no,.pu (.int x),.no,.pu (dU (low L)),.pu (dT P)] (k:=.pu) (k':=.pu) rfl rfl
    have ha:aB (aJ 4) (aB (eU (g6 (aJ 3) (aJ 1) (xC2 (.fr,.dK [] [])))) bO) [.no,.pu (.int x),.no,.pu (dU (low L)),.pu (dT P)]=some [(.pu,dT P),(.pu,dD (fC (low L) x))]:=by
     simp only [cb,hg,fU,cQ,aW,be]
    exact dm ha rfl (vF (X:=dT P) (H:=P) (.inl rfl) (by have:=t0 L x;lia)),rfl,rfl⟩⟩
 rw [df] at hc2
 refine p7 (d:=.bl (iD n L P)) ?_ rfl
 have hra:bU fn_is_rising (aB (aJ 1) bO) [.pu (dY n L),.pu (dT P),.pu (dU (low L))]=some (.pu,.bl (pc Ms.ltI P)):=dm rfl rfl hris
 have hrb:xB ri (aB (dE [none,none,none,some 2,some 1] (bJ (eU (aJ 1))) (tgN 1) (fun _=>some true) (bU fn_holds_all (aB (aJ 4) (aB (eU (g6 (aJ 3) (aJ 1) (xC2 (.fr,.dK [] [])))) bO)))) bO) [.pu (dY n L),.pu (dT P),.pu (dU (low L))]=some (.pu,.bl (P.all fun x=>(fC (low L) x).all fun a=>decide (a∈P))):=by
  rw [oQ,cb,hc2,cQ]
  dsimp only
  rw [jT]
 rw [gi,Cb,hra]
 unfold iD
 rw [q]
 cases pc Ms.ltI P with
 | true =>
   dsimp only
   rw [hrb]
   rfl
 | false=>rfl
noncomputable def tp (L:List PI) (P:List Int):List Int:=P.filter fun x=>!((fC (upp L) x).any fun u=>decide (u∈P))
theorem m6 {L:List PI} {P:List Int} {x:Int}:x∈tp L P↔x∈P/\∀ b∈P,(x,b)∉L:=by
 unfold tp
 rw [bw,b9,AJ]
 constructor
 ·rintro ⟨h1,h2⟩
  exact ⟨h1,fun b hb hl=>by have:=h2 b (((gv L).get x b).mpr hl);simp [hb] at this⟩
 ·rintro ⟨h1,h2⟩
  exact ⟨h1,fun u hu=>by simpa using fun hp=>h2 u hp (((gv L).get x u).mp hu)⟩
theorem EB (L:List PI) (a:Int):(fC (upp L) a).length<=L.length:=by
 have:=Ms.length_le_of_subset ((gv L).ndv a) (m:=L.map (·.2)) fun b hb=>bn.mpr ⟨(a,b),((gv L).get a b).mp hb,rfl⟩
 rw [af] at this
 exact this
theorem Bx {n:Int} {L:List PI} {P:List Int} (hl:L.length<=1000) (hP:P.length<=1000):e8 g_tops2 g_tops3 [.pu (dY n L),.pu (dT P),.no]=.rt (dT (tp L P)):=by
 have h2:g_tops2 [.pu (dY n L),.pu (dT P),.no]=.nx [.pu (dY n L),.pu (dT P),.pu (dU (upp L))]:=by
  unfold g_tops2
  simp [dY,wX hl]
 have hc:=cu (enc:=Da.int) (xs:=P) (ix:=[none,none,none,some 1,some 2]) (fi:=bJ (eU (aJ 1))) (i:=1) (c:=ij (tTr (xB wn (aB (dE [none,none,some 3] (bJ (eU (g6 (aJ 4) (aJ 1) (xC2 (.fr,.dK [] []))))) (tgN 1) (fun _=>some true) (x2 (oIn false) (aJ 1) (aJ 2))) bO)))) (f:=aJ 1)
  (ρ:=[.pu (dY n L),.pu (dT P),.pu (dU (upp L))]) (p:=fun x=>!((fC (upp L) x).any fun u=>decide (u∈P))) (e:=Da.int) (by simp [dT]) (by lia) fun x hx=>?_
 ·rw [xv,h2]
  dsimp only
  unfold g_tops3
  rw [gi,oQ,cb,hc,cQ]
  rfl
 ·have em:(mpR [none,none,none,some 1,some 2] [.pu (dY n L),.pu (dT P),.pu (dU (upp L))]).set 1 (.pu (.int x))=[.no,.pu (.int x),.no,.pu (dT P),.pu (dU (upp L))]:=rfl
  rw [em]
  refine ⟨?_,fun _=>⟨(.pu,.int x),rfl,rfl,rfl⟩⟩
  have hg:=xu (upp L) x (aJ 4) (aJ 1) [.no,.pu (.int x),.no,.pu (dT P),.pu (dU (upp L))] (k:=.pu) (k':=.pu) rfl rfl
  have hi:=cu (enc:=Da.int) (xs:=fC (upp L) x) (ix:=[none,none,some 3]) (fi:=bJ (eU (g6 (aJ 4) (aJ 1) (xC2 (.fr,.dK [] []))))) (i:=1) (c:=fun _=>some true) (f:=x2 (oIn false) (aJ 1) (aJ 2)) (ρ:=[.no,.pu (.int x),.no,.pu (dT P),.pu (dU (upp L))]) (p:=fun _=>true) (e:=fun u=>.bl (decide (u∈P)))
   (uU hg) (by have:=EB L x;lia) fun u hu=>⟨rfl,fun _=>⟨(.pu,.bl (decide (u∈P))),by simp [mpR,dT],rfl,rfl⟩⟩
  rw [df] at hi
  rw [lM,uJ,oQ,cb,hi,cQ]
  dsimp only
  rw [zJ]
  rfl
theorem nO {n:Int} {L:List PI} {P:List Int} (hl:L.length<=1000) (hP:P.length<=1000):c_tops [.pu (dY n L),.pu (dT P),.no]=some (!iD n L P):=by
 unfold c_tops
 rw [lM,uJ,dm (ds:=[dY n L,dT P]) rfl rfl (rf hl hP)]
 rfl
theorem yW {n:Int} {L:List PI} {P:List Int} (hl:L.length<=1000) (hP:P.length<=1000) (h:iD n L P=true):fn_tops [dY n L,dT P]=some (dT (tp L P)):=by
 have hc:=nO (n:=n) hl hP
 rw [h] at hc
 have h23:=Bx (n:=n) hl hP
 unfold fn_tops iq
 rw [show cG 3 [dY n L,dT P]=[.pu (dY n L),.pu (dT P),.no] from rfl]
 have e:g_tops=e8 (sIf c_tops (fun _=>.bad) gA) (e8 g_tops2 g_tops3):=rfl
 rw [e,xv,Dx,hc]
 show (match e8 g_tops2 g_tops3 [.pu (dY n L),.pu (dT P),.no] with | .rt d=>some d | .nx _=>_ | _=>_)=_
 rw [h23]
theorem qZ {n:Int} {L:List PI} {P:List Int} (hl:L.length<=1000) (hP:P.length<=20) (hs:∀ x∈P,0<=x/\x<1000) (h:iD n L P=false):fn__law_no_head [dY n L,dT P]=some (.bl true):=by
 have hc:=nO (n:=n) (L:=L) (P:=P) hl (by lia)
 rw [h] at hc
 have:fnX_tops [dY n L,dT P]=some none:=by
  unfold fnX_tops Rx.run3
  rw [show cG 3 [dY n L,dT P]=[.pu (dY n L),.pu (dT P),.no] from rfl,hc]
  show (match eQ (P.map Da.int) with | some ns=>if ns.length<=20/\(ns.all fun n=>decide (0<=n/\n<1000))=true then some none else none | none=>none)=some (none:Option Da)
  rw [eR]
  dsimp only
  rw [if_pos ⟨hP,bv.mpr fun x hx=>decide_eq_true (hs x hx)⟩]
 unfold fn__law_no_head Rx.askX
 rw [this]
theorem pY {n:Int} {L:List PI} {P:List Int} (hl:L.length<=1000) (hP:P.length<=1000):fn__law_tops [dY n L,dT P]=some (dT (tp L P)):=by
 have hc:=cu (enc:=Da.int) (xs:=P) (ix:=[none,none,some 1,some 0]) (fi:=bJ (eU (aJ 1))) (i:=1) (c:=ij (tTr (dE [none,none,some 1,some 3] (bJ (eU (aJ 2))) (tgN 1) (tb (x2 (oIn false) (pE (aB (aJ 2) (aB (aJ 1) bO))) (x2 oIt (aJ 3) (xC (.int 1))))) (aJ 1)))) (f:=aJ 1)
  (ρ:=[.pu (dY n L),.pu (dT P)]) (p:=fun x=>!((fC (upp L) x).any fun u=>decide (u∈P))) (e:=Da.int) (by simp [dT]) (by lia) fun x hx=>?_
 ·refine qf (ρ:=[.pu (dY n L),.pu (dT P)]) rfl ?_
  unfold g__law_tops
  rw [gi,oQ,cb,hc,cQ]
  rfl
 ·have em:(mpR [none,none,some 1,some 0] [.pu (dY n L),.pu (dT P)]).set 1 (.pu (.int x))=[.no,.pu (.int x),.pu (dT P),.pu (dY n L)]:=rfl
  rw [em]
  refine ⟨?_,fun _=>⟨(.pu,.int x),rfl,rfl,rfl⟩⟩
  have hi:=cu (enc:=Da.int) (xs:=P) (ix:=[none,none,some 1,some 3]) (fi:=bJ (eU (aJ 2))) (i:=1) (c:=tb (x2 (oIn false) (pE (aB (aJ 2) (aB (aJ 1) bO))) (x2 oIt (aJ 3) (xC (.int 1))))) (f:=aJ 1) (ρ:=[.no,.pu (.int x),.pu (dT P),.pu (dY n L)]) (p:=fun o=>decide ((x,o)∈L)) (e:=Da.int)
   (by simp [dT]) (by lia) fun o ho=>⟨by
     have em2:(mpR [none,none,some 1,some 3] [.no,.pu (.int x),.pu (dT P),.pu (dY n L)]).set 1 (.pu (.int o))=[.no,.pu (.int o),.pu (.int x),.pu (dY n L)]:=rfl
     rw [em2]
     simp [dY],fun _=>⟨(.pu,.int o),rfl,rfl,rfl⟩⟩
  rw [lM,uJ,hi]
  show some (!(!((P.filter fun o=>decide ((x,o)∈L)).map Da.int).isEmpty))=_
  congr 1
  rw [bW]
  simp only [Bool.not_not,List.isEmpty_iff,List.map_eq_nil_iff,List.filter_eq_nil_iff,decide_eq_true_eq,b9,AJ]
  exact ⟨fun h u hu hp=>h u hp (((gv L).get x u).mp hu),fun h o ho hx=>h o (((gv L).get x o).mpr hx) ho⟩
theorem tM {n:Int} {L:List PI} (Y:Yd n L) {H:List Int}:∀ (k:Nat) (x:Int),(fC (upp L) x).length=k->x∈H->x∈tp L H\/∃ t∈tp L H,(x,t)∈L:=by
 intro k
 induction k using Nat.strongRecOn with
 | ind k ih =>
   intro x hk hx
   by_cases ht:x∈tp L H
   ·exact .inl ht
   ·obtain ⟨b,hb,hxb⟩:∃ b∈H,(x,b)∈L:=by
     by_cases z:∃ b∈H,(x,b)∈L
     ·exact z
     ·exact absurd (m6.mpr ⟨hx,fun b hb hl=>z ⟨b,hb,hl⟩⟩) ht
    have hlt:(b::fC (upp L) b).length<=(fC (upp L) x).length:=Ms.length_le_of_subset (aV.mpr ⟨fun w=>Y.irr b (((gv L).get b b).mp w),(gv L).ndv b⟩) fun u hu=>by
     rcases ah.mp hu with e | e
     ·subst e;exact ((gv L).get x u).mpr hxb
     ·exact ((gv L).get x u).mpr (Y.tr _ _ _ hxb (((gv L).get b u).mp e))
    rw [aA] at hlt
    rcases ih _ (by lia) b rfl hb with z | ⟨t,ht',z⟩
    ·exact .inr ⟨b,z,hxb⟩
    ·exact .inr ⟨t,ht',Y.tr _ _ _ hxb z⟩
theorem vk {n:Int} {L:List PI} (Y:Yd n L) (h64:n<64) (hl:L.length<=1000) {H:List Int} (h:AA L (rgI 0 n.toNat) H):fn_head_of [dY n L,dT (tp L H)]=some (dT H):=by
 have hP:∀ x∈tp L H,x∈rgI 0 n.toNat:=fun x hx=>h.sub x (m6.mp hx).1
 obtain ⟨n1,n2,_⟩:=mv Y (tp L H) hP
 rw [vo Y h64 hl hP,Ms.strict_ext Ms.linI (Ms.srt_strict Ms.linI n1) h.ris fun x=>by
  rw [(Ms.srt_perm _).mem_iff,n2]
  constructor
  ·rintro (z | ⟨t,ht,z⟩)
   ·exact (m6.mp z).1
   ·exact h.cl t (m6.mp ht).1 x z
  ·exact fun z=>tM Y _ x rfl z]
theorem qO {n:Int} {L:List PI} {H:List Int} (h:AA L (rgI 0 n.toNat) H):iD n L H=true:=by
 unfold iD
 rw [(mo Ms.linI H).mpr h.ris,aD]
 refine ⟨bv.mpr fun x hx=>?_,?_⟩
 ·have:=dg.mp (h.sub x hx)
  rw [aD,decide_eq_true_eq,decide_eq_true_eq]
  lia
 ·rw [kt]
  exact bv.mpr fun x hx=>bv.mpr fun a ha=>decide_eq_true (h.cl x hx a ((me L x a).mp ha))
theorem oh {n:Int} {L:List PI} {P:List Int} (h:¬ P.Pairwise fun a b=>Ms.ltI a b=true):iD n L P=false:=by
 have:pc Ms.ltI P=false:=by
  cases q:pc Ms.ltI P with
  | false=>rfl
  | true=>exact absurd ((mo Ms.linI P).mp q) h
 unfold iD
 rw [this]
 cases (P.all fun x=>decide (0<=x)&&decide (x<n))<;>rfl
theorem wY {n:Int} {L:List PI} {P:List Int} {a b:Int} (hb:b∈P) (ha:a∉P) (h:(a,b)∈L):iD n L P=false:=by
 have:(P.all fun x=>(fC (low L) x).all fun a=>decide (a∈P))=false:=by
  cases q:P.all fun x=>(fC (low L) x).all fun a=>decide (a∈P) with
  | false=>rfl
  | true =>
    have:=bv.mp (bv.mp q b hb) a ((me L b a).mpr h)
    exact absurd (of_decide_eq_true this) ha
 unfold iD
 rw [this]
 cases (P.all fun x=>decide (0<=x)&&decide (x<n))<;>cases pc Ms.ltI P<;>rfl
noncomputable def rZ:Rho->Res:=(e8 (kj 3 (bU fn_tops (aB (aJ 1) (aB (aJ 2) bO))))
 (e8 (sIf (wH (ij (tTr (gq iE (aJ 3)))) (wH (tb (x2 (oEq true) (aJ 3) (bU fn__law_tops (aB (aJ 1) (aB (aJ 2) bO))))) (tb (x2 (oEq true) (bU fn_head_of (aB (aJ 1) (aB (aJ 3) bO))) (aJ 2))))) (dN (xC (.bl false))) gA)
 (e8 (sIf (iP (tb (x2 (oB fun i j=>decide (j<i)) (xB oK (aB (aJ 2) bO)) (xC (.int 0)))) (tb (x2 (oIs true) (bU fn__law_no_head (aB (aJ 1) (aB (x2 jO (aJ 2) (hJ (aJ 2) qY (iV (xC (.int 1))))) bO))) (xC (.bl true))))) (dN (xC (.bl false))) gA)
 (e8 (sIf (iP (tb (x2 (oB fun i j=>decide (j<i)) (xB oK (aB (aJ 2) bO)) (xC (.int 1)))) (tb (x2 (oIs true) (bU fn__law_no_head (aB (aJ 1) (aB (gJ (aJ 2)) bO))) (xC (.bl true))))) (dN (xC (.bl false))) gA)
 (lf (bJ (eU (aJ 2))) (tgN 4)
 (e8 (kj 5 (xB eF (aB (dE [none,none,some 4] (bJ (eU (aJ 2))) (tgN 1) (tb (x2 (oEq true) (aJ 1) (aJ 2))) (aJ 1)) bO)))
 (sIf (iP (tb (x2 (oIn true) (aJ 4) (aJ 3))) (tb (x2 (oIs true) (bU fn__law_no_head (aB (aJ 1) (aB (aJ 5) bO))) (xC (.bl true))))) (dN (xC (.bl false))) gA)))))))
noncomputable def xL:Rho->Res:=(e8 (kj 6 (xB eF (aB (dE [none,none,none,some 1] (bJ (eU (hJ (aJ 0) (iV (xC (.int 3))) (iV (xC (.int 7)))))) (tgN 1) (fun _=>some true) (bU fn__law_mix (aB (aJ 1) (aB (xC (.int 9923)) (aB (x2 oIt (aJ 3) (xC (.int 0))) bO))))) bO)))
 (e8 (kj 7 (x2 jO (xB lC (aB (aJ 6) bO)) (dE [none,none,none,some 6] (bJ (eU (x2 oIt (aJ 1) (xC (.int 1))))) (tgT 2 (d6 (tgN 1) (d6 (tgN 2) ju))) (tb (x2 (oIn false) (aJ 2) (aJ 3))) (aJ 1))))
 (dN (x2 (oEq false) (bU fn_head_of (aB (aJ 1) (aB (aJ 6) bO))) (xB eF (aB (dO (aJ 7)) bO))))))
theorem D0 (n:Bool) (a b:Kd) (i j:Int):oEq n (a,.int i) (b,.int j)=some (.pu,.bl (if n then !decide (i=j) else decide (i=j))):=by
 rw [zr]
 congr 3
theorem uW {n:Int} {L:List PI} {P:List Int} {f:Rho->Option Rv} {ρ:Rho} (h1:aJ 1 ρ=some (.pu,dY n L)) (hf:f ρ=some (.pu,dT P)) (hl:L.length<=1000) (hP:P.length<=20) (hs:∀ x∈P,0<=x/\x<1000) (h:iD n L P=false):tb (x2 (oIs true) (bU fn__law_no_head (aB (aJ 1) (aB f bO))) (xC (.bl true))) ρ=some false:=by
 have ha:aB (aJ 1) (aB f bO) ρ=some [(.pu,dY n L),(.pu,dT P)]:=by
  simp only [cb,h1,hf,cQ]
 rw [vq,mH,dm (ds:=[dY n L,dT P]) ha rfl (qZ hl hP hs h),vE]
 rfl
theorem xo {ρ:Rho} {i:Nat} {H:List Int} {m:Int} (h:aJ i ρ=some (.pu,dT H)):tb (x2 (oB fun i j=>decide (j<i)) (xB oK (aB (aJ i) bO)) (xC (.int m))) ρ=some (decide (m<(H.length:Int))):=by
 have e:xB oK (aB (aJ i) bO) ρ=some (.pu,.int (H.length:Int)):=by
  rw [oQ,cb,h,cQ]
  show some ((.pu:Kd),Da.int (((H.map Da.int).length:Nat):Int))=_
  rw [af]
 rw [vq,mH,e,vE]
 rfl
theorem and_false {t u:Rho->Option Bool} {ρ:Rho} {b:Bool} (h:t ρ=some b) (hu:b=true->u ρ=some false):iP t u ρ=some false:=by
 rw [t9,h]
 cases b with
 | false=>rfl
 | true=>exact hu rfl
theorem DL (ds:List Da):(rP ds (some 3) (some 7))=(ds.drop 3).take 4:=by
 have h3:=HT.sIx_nat ds.length 0 3
 have h7:=HT.sIx_nat ds.length ds.length 7
 unfold rP
 rw [show (some (3:Int))=some ((3:Nat):Int) from rfl,h3,show (some (7:Int))=some ((7:Nat):Int) from rfl,h7]
 by_cases h:3<=ds.length
 ·rw [i9 h]
  by_cases h':7<=ds.length
  ·rw [i9 h']
  ·rw [iu (by lia),cB (by rw [ck];lia),cB (by rw [ck];lia)]
 ·rw [iu (by lia),iu (by lia),b8 (ag _),b8 (by lia),Ew,Ew]
theorem Ac {n:Int} {H:List Int} (h6:n<=6) (h:H.Nodup) (hs:∀ x∈H,x∈rgI 0 n.toNat):H.length<=6:=by
 have:=Ms.length_le_of_subset h hs
 rw [fH] at this
 lia
theorem tZ (S:List Int) {n:Int} {L:List PI} (Y:Yd n L) (h6:n<=6) (hl:L.length<=1000) {H:List Int} (hH:AA L (rgI 0 n.toNat) H) (s3 s4 s5:Sl) {B:Rho->Prop}:Go (rZ [.pu (.lst (S.map Da.int)),.pu (dY n L),.pu (dT H),s3,s4,s5,.no,.no]) (fun ρ=>∃ s2 s3 s4 s5,ρ=[.pu (.lst (S.map Da.int)),.pu (dY n L),s2,s3,s4,s5,.no,.no]) (fun ρ=>∃ s2 s3 s4 s5,ρ=[.pu (.lst (S.map Da.int)),.pu (dY n L),s2,s3,s4,s5,.no,.no]) B (fun d=>d=.bl true):=by
 have nd:=xK hH.ris
 have hn:=Ac h6 nd hH.sub
 have rg:∀ x∈H,0<=x/\x<1000:=fun x hx=>by have:=dg.mp (hH.sub x hx);lia
 unfold rZ
 refine cH (eE (ρ':=[.pu (.lst (S.map Da.int)),.pu (dY n L),.pu (dT H),.pu (dT (tp L H)),s4,s5,.no,.no]) (by rw [jQ,dm (ds:=[dY n L,dT H]) rfl rfl (yW hl (by lia) (qO hH))];rfl) ?_)
 refine cH (m8 (b:=false) ?_ (fun q=>absurd q am) fun _=>eE rfl ?_)
 ·have t1:tb (x2 (oEq true) (aJ 3) (bU fn__law_tops (aB (aJ 1) (aB (aJ 2) bO)))) [.pu (.lst (S.map Da.int)),.pu (dY n L),.pu (dT H),.pu (dT (tp L H)),s4,s5,.no,.no]=some false:=by
   rw [vq,mH,show aJ 3 [.pu (.lst (S.map Da.int)),.pu (dY n L),.pu (dT H),.pu (dT (tp L H)),s4,s5,.no,.no]=some (.pu,dT (tp L H)) from rfl,dm (ds:=[dY n L,dT H]) rfl rfl (pY hl (by lia))]
   dsimp only
   rw [uB,decide_eq_true rfl]
   rfl
  have t2:tb (x2 (oEq true) (bU fn_head_of (aB (aJ 1) (aB (aJ 3) bO))) (aJ 2)) [.pu (.lst (S.map Da.int)),.pu (dY n L),.pu (dT H),.pu (dT (tp L H)),s4,s5,.no,.no]=some false:=by
   rw [vq,mH,show aJ 2 [.pu (.lst (S.map Da.int)),.pu (dY n L),.pu (dT H),.pu (dT (tp L H)),s4,s5,.no,.no]=some (.pu,dT H) from rfl,dm (ds:=[dY n L,dT (tp L H)]) rfl rfl (vk Y (by lia) hl hH)]
   dsimp only
   rw [uB,decide_eq_true rfl]
   rfl
  rw [xx,show ij (tTr (gq iE (aJ 3))) [.pu (.lst (S.map Da.int)),.pu (dY n L),.pu (dT H),.pu (dT (tp L H)),s4,s5,.no,.no]=some false from rfl]
  dsimp only
  rw [xx,t1]
  exact t2
 refine cH (m8 (b:=false) (and_false (xo (H:=H) rfl) fun q=>?_) (fun q=>absurd q am) fun _=>eE rfl ?_)
 ·obtain ⟨x,r,rfl⟩:∃ x r,H=x::r:=by
   cases H with
   | nil=>exact absurd (of_decide_eq_true q) (by simp)
   | cons x r=>exact ⟨x,r,rfl⟩
  refine uW (P:=(x::r)++[x]) rfl ?_ hl (by simp at hn ⊢;lia) (fun y hy=>rg y (by rcases aE.mp hy with z | z;exact z;rw [au.mp z];simp)) (oh fun z=>?_)
  ·have e1:hJ (aJ 2) qY (iV (xC (.int 1))) [.pu (.lst (S.map Da.int)),.pu (dY n L),.pu (dT (x::r)),.pu (dT (tp L (x::r))),s4,s5,.no,.no]=some (.pu,.tup [.int x]):=by
    show some ((.pu:Kd),Da.tup (rP ((x::r).map Da.int) none (some ((1:Nat):Int))))=_
    rw [B6]
    rfl
   rw [mH,show aJ 2 [.pu (.lst (S.map Da.int)),.pu (dY n L),.pu (dT (x::r)),.pu (dT (tp L (x::r))),s4,s5,.no,.no]=some (.pu,.tup ((x::r).map Da.int)) from rfl,e1]
   dsimp only
   rw [Bj,if_pos (by simp at hn ⊢;lia)]
   show _=some ((.pu:Kd),Da.tup (((x::r)++[x]).map Da.int))
   rw [cU]
   rfl
  ·have:=(cx.mp (xK z)).2.2 x (by simp) x (by simp)
   exact this rfl
 refine cH (m8 (b:=false) (and_false (xo (H:=H) rfl) fun q=>?_) (fun q=>absurd q am) fun _=>eE rfl ?_)
 ·obtain ⟨x,y,r,rfl⟩:∃ x y r,H=x::y::r:=by
   cases H with
   | nil=>exact absurd (of_decide_eq_true q) (by simp)
   | cons x r =>
     cases r with
     | nil=>exact absurd (of_decide_eq_true q) (by simp)
     | cons y r=>exact ⟨x,y,r,rfl⟩
  refine uW (P:=(x::y::r).reverse) rfl ?_ hl (by rw [jD];lia) (fun y hy=>rg y (List.mem_reverse.mp hy)) (oh fun z=>?_)
  ·show some ((.pu:Kd),Da.tup ((x::y::r).map Da.int).reverse)=some ((.pu:Kd),Da.tup ((x::y::r).reverse.map Da.int))
   rw [mV]
  ·rw [List.pairwise_reverse] at z
   have a1:=(aN.mp hH.ris).1 y (by simp)
   have a2:=(aN.mp z).1 y (by simp)
   have:=Ms.linI.asym a1
   rw [a2] at this
   cases this
 refine hZ (enc:=Da.int) (xs:=H) (fun _ ρ=>∃ s4 s5,ρ=[.pu (.lst (S.map Da.int)),.pu (dY n L),.pu (dT H),.pu (dT (tp L H)),s4,s5,.no,.no]) rfl ⟨_,_,rfl⟩ ?_ ?_
 ·rintro pre a post ρ e ⟨s4,s5,rfl⟩
  have ha:a∈H:=by rw [e];simp
  refine ⟨[.pu (.lst (S.map Da.int)),.pu (dY n L),.pu (dT H),.pu (dT (tp L H)),.pu (.int a),s5,.no,.no],rfl,?_⟩
  have hc:=cu (enc:=Da.int) (xs:=H) (ix:=[none,none,some 4]) (fi:=bJ (eU (aJ 2))) (i:=1) (c:=tb (x2 (oEq true) (aJ 1) (aJ 2))) (f:=aJ 1) (ρ:=[.pu (.lst (S.map Da.int)),.pu (dY n L),.pu (dT H),.pu (dT (tp L H)),.pu (.int a),s5,.no,.no]) (p:=fun x=>!decide (x=a)) (e:=Da.int)
   (by simp [dT]) (by lia) fun x hx=>⟨by
     have em:(mpR [none,none,some 4] [.pu (.lst (S.map Da.int)),.pu (dY n L),.pu (dT H),.pu (dT (tp L H)),.pu (.int a),s5,.no,.no]).set 1 (.pu (.int x))=[.no,.pu (.int x),.pu (.int a)]:=rfl
     rw [em,vq,mH,show aJ 1 [.no,.pu (.int x),.pu (.int a)]=some (.pu,.int x) from rfl,show aJ 2 [.no,.pu (.int x),.pu (.int a)]=some (.pu,.int a) from rfl]
     dsimp only
     rw [D0]
     rfl,fun _=>⟨(.pu,.int x),rfl,rfl,rfl⟩⟩
  refine cH (eE (ρ':=[.pu (.lst (S.map Da.int)),.pu (dY n L),.pu (dT H),.pu (dT (tp L H)),.pu (.int a),.pu (dT (H.filter fun x=>!decide (x=a))),.no,.no]) (by rw [jQ,oQ,cb,hc,cQ];rfl) ?_)
  refine m8 (b:=false) (and_false (b:=!decide (a∈tp L H)) ?_ fun q=>?_) (fun q=>absurd q am) fun _=>eE rfl ⟨_,_,rfl⟩
  ·rw [vq,mH,show aJ 4 [.pu (.lst (S.map Da.int)),.pu (dY n L),.pu (dT H),.pu (dT (tp L H)),.pu (.int a),.pu (dT (H.filter fun x=>!decide (x=a))),.no,.no]=some (.pu,.int a) from rfl,show aJ 3 [.pu (.lst (S.map Da.int)),.pu (dY n L),.pu (dT H),.pu (dT (tp L H)),.pu (.int a),.pu (dT (H.filter fun x=>!decide (x=a))),.no,.no]=some (.pu,.tup ((tp L H).map Da.int)) from rfl]
   dsimp only
   rw [xV]
   rfl
  ·have q:a∉tp L H:=by simpa using q
   obtain ⟨b,hb,hab⟩:∃ b∈H,(a,b)∈L:=by
    by_cases z:∃ b∈H,(a,b)∈L
    ·exact z
    ·exact absurd (m6.mpr ⟨ha,fun b hb hl=>z ⟨b,hb,hl⟩⟩) q
   have hbf:b∈H.filter fun x=>!decide (x=a):=bw.mpr ⟨hb,by
    have:b≠a:=fun w=>by subst w;exact Y.irr _ hab
    simp [this]⟩
   refine uW (P:=H.filter fun x=>!decide (x=a)) rfl rfl hl (bR (fE _ _) (by lia)) (fun y hy=>rg y (bw.mp hy).1) (wY hbf (fun w=>?_) hab)
   have:=(bw.mp w).2
   simp at this
 ·rintro ρ ⟨s4,s5,rfl⟩
  exact ⟨_,_,_,_,rfl⟩
theorem law_eq (S:List Int):fn_law [.lst (S.map Da.int)]=some (.bl true):=by
 obtain ⟨n,L,hY,h1,h6,Y⟩:=ym S 0 6 (by decide) (by decide) (by decide)
 have hl':=Be Y (by lia)
 have hl:L.length<=1000:=by lia
 obtain ⟨hs,eh,b1,b2,b3,b4⟩:=nv (n:=n) (L:=L) (by lia) h6 (by lia)
 refine sU ?_
 have e0:cG 8 [.lst (S.map Da.int)]=[.pu (.lst (S.map Da.int)),.no,.no,.no,.no,.no,.no,.no]:=rfl
 rw [e0]
 show Go ((e8 (kj 1 (bU fn__law_yard (aB (aJ 0) (aB (xC (.int 0)) (aB (xC (.int 6)) bO))))) (e8 (lf (bJ (eU (bU fn__law_heads (aB (aJ 1) bO)))) (tgN 2) rZ) xL)) _) _ _ _ _
 refine cH (eE (ρ':=[.pu (.lst (S.map Da.int)),.pu (dY n L),.no,.no,.no,.no,.no,.no]) ?_ ?_)
 ·rw [jQ,dm (ds:=[.lst (S.map Da.int),.int 0,.int 6]) rfl rfl hY]
  rfl
 refine cH ?_
 refine hZ (enc:=dT) (xs:=hs) (fun _ ρ=>∃ s2 s3 s4 s5,ρ=[.pu (.lst (S.map Da.int)),.pu (dY n L),s2,s3,s4,s5,.no,.no]) ?_ ⟨_,_,_,_,rfl⟩ ?_ ?_
 ·rw [lD,uM,dm (ds:=[dY n L]) rfl rfl eh]
 ·rintro pre H post ρ e ⟨s2,s3,s4,s5,rfl⟩
  have hH:AA L (rgI 0 n.toNat) H:=(b2 H).mp (by rw [e];simp)
  exact ⟨[.pu (.lst (S.map Da.int)),.pu (dY n L),.pu (dT H),s3,s4,s5,.no,.no],rfl,tZ S Y h6 hl hH s3 s4 s5⟩
 rintro ρ ⟨s2,s3,s4,s5,rfl⟩
 unfold xL
 obtain ⟨T,hTe⟩:∃ T:List Int,T=((S.drop 3).take 4).map fun c=>c*48271%9923%n:=⟨_,rfl⟩
 have hT:∀ x∈T,x∈rgI 0 n.toNat:=fun x hx=>by
  rw [hTe] at hx
  obtain ⟨c,_,rfl⟩:=bn.mp hx
  have:=jc (c*48271%9923) (show n≠0 by lia)
  have:=gF (c*48271%9923) (show 0<n by lia)
  exact dg.mpr (by lia)
 have hTl:T.length<=4:=by
  rw [hTe,af,bu]
  lia
 have hc:=cu (enc:=Da.int) (xs:=(S.drop 3).take 4) (ix:=[none,none,none,some 1]) (fi:=bJ (eU (hJ (aJ 0) (iV (xC (.int 3))) (iV (xC (.int 7)))))) (i:=1) (c:=fun _=>some true) (f:=bU fn__law_mix (aB (aJ 1) (aB (xC (.int 9923)) (aB (x2 oIt (aJ 3) (xC (.int 0))) bO)))) (ρ:=[.pu (.lst (S.map Da.int)),.pu (dY n L),s2,s3,s4,s5,.no,.no]) (p:=fun _=>true) (e:=fun c=>.int (c*48271%9923%n))
  (by
    show some (rP (S.map Da.int) (some 3) (some 7))=_
    rw [DL,<- eZ,<- eW]) (by rw [bu];lia) fun x hx=>⟨rfl,fun _=>⟨(.pu,.int (x*48271%9923%n)),by
    have em:(mpR [none,none,none,some 1] [.pu (.lst (S.map Da.int)),.pu (dY n L),s2,s3,s4,s5,.no,.no]).set 1 (.pu (.int x))=[.no,.pu (.int x),.no,.pu (dY n L)]:=rfl
    rw [em]
    exact dm (ds:=[.int x,.int 9923,.int n]) rfl rfl (nq x 9923 n (by decide) (by lia)),rfl,rfl⟩⟩
 rw [df] at hc
 refine cH (eE (ρ':=[.pu (.lst (S.map Da.int)),.pu (dY n L),s2,s3,s4,s5,.pu (dT T),.no]) (by rw [jQ,oQ,cb,hc,cQ];show _=Res.nx [.pu (.lst (S.map Da.int)),.pu (dY n L),s2,s3,s4,s5,.pu (.tup (T.map Da.int)),.no];rw [hTe,aT];rfl) ?_)
 have hd:=jN (enc:=dP) (xs:=L) (ix:=[none,none,none,some 6]) (fi:=bJ (eU (x2 oIt (aJ 1) (xC (.int 1))))) (i:=1) (j:=2) (c:=tb (x2 (oIn false) (aJ 2) (aJ 3))) (f:=aJ 1) (ρ:=[.pu (.lst (S.map Da.int)),.pu (dY n L),s2,s3,s4,s5,.pu (dT T),.no]) (p:=fun p=>decide (p.2∈T)) (e:=fun p=>.int p.1) (a:=fun p=>.int p.1) (b:=fun p=>.int p.2)
  (by simp [dY]) (by lia) fun p hp=>⟨by
    have em:((mpR [none,none,none,some 6] [.pu (.lst (S.map Da.int)),.pu (dY n L),s2,s3,s4,s5,.pu (dT T),.no]).set 1 (.pu (.int p.1))).set 2 (.pu (.int p.2))=[.no,.pu (.int p.1),.pu (.int p.2),.pu (dT T)]:=rfl
    rw [em,vq,mH,show aJ 2 [.no,.pu (.int p.1),.pu (.int p.2),.pu (dT T)]=some (.pu,.int p.2) from rfl,show aJ 3 [.no,.pu (.int p.1),.pu (.int p.2),.pu (dT T)]=some (.pu,.tup (T.map Da.int)) from rfl]
    dsimp only
    rw [xV]
    rfl,fun _=>⟨(.pu,.int p.1),rfl,rfl,rfl⟩⟩
 obtain ⟨D,hDe⟩:∃ D:List Int,D=T++(L.filter fun p=>decide (p.2∈T)).map (·.1):=⟨_,rfl⟩
 have hDl:D.length<64:=by
  rw [hDe,aH,af]
  have:=fE (fun p:PI=>decide (p.2∈T)) L
  lia
 refine cH (eE (ρ':=[.pu (.lst (S.map Da.int)),.pu (dY n L),s2,s3,s4,s5,.pu (dT T),.pu (.lst (D.map Da.int))]) ?_ ?_)
 ·have e1:xB lC (aB (aJ 6) bO) [.pu (.lst (S.map Da.int)),.pu (dY n L),s2,s3,s4,s5,.pu (dT T),.no]=some (.fr,.lst (T.map Da.int)):=rfl
  have e2:(L.filter fun p=>decide (p.2∈T)).map (fun p=>Da.int p.1)=((L.filter fun p=>decide (p.2∈T)).map (·.1)).map Da.int:=by rw [aT];rfl
  rw [jQ,mH,e1,hd (by decide) (fun _=>rfl),e2]
  dsimp only
  have hz:T.length+((L.filter fun p=>decide (p.2∈T)).map (·.1)).length<64:=by rw [<- aH,<- hDe];exact hDl
  rw [CB,if_pos (by rw [af,af];lia),<- cU,<- hDe]
  rfl
 refine p7 (d:=.bl true) ?_ rfl
 obtain ⟨n1,n2,_⟩:=mv Y T hT
 have ee:Ms.srt Ms.ltI (dB D)=Ms.srt Ms.ltI (cA L T):=Ms.strict_ext Ms.linI (Ms.srt_strict Ms.linI (dI D).1) (Ms.srt_strict Ms.linI n1) fun x=>by
  rw [(Ms.srt_perm _).mem_iff,(Ms.srt_perm _).mem_iff,(dI D).2,n2,hDe,aE,bn]
  refine or_congr Iff.rfl ⟨?_,?_⟩
  ·rintro ⟨p,hp,rfl⟩
   rw [bw,decide_eq_true_eq] at hp
   exact ⟨p.2,hp.2,hp.1⟩
  ·rintro ⟨t,ht,hx⟩
   exact ⟨(x,t),bw.mpr ⟨hx,decide_eq_true ht⟩,rfl⟩
 have e3:xB eF (aB (dO (aJ 7)) bO) [.pu (.lst (S.map Da.int)),.pu (dY n L),s2,s3,s4,s5,.pu (dT T),.pu (.lst (D.map Da.int))]=some (.pu,dT (Ms.srt Ms.ltI (cA L T))):=by
  have:dO (aJ 7) [.pu (.lst (S.map Da.int)),.pu (dY n L),s2,s3,s4,s5,.pu (dT T),.pu (.lst (D.map Da.int))]=some (.fr,.lst ((Ms.srt Ms.ltI (cA L T)).map Da.int)):=by
   show (match eQ (D.map Da.int) with | some ns=>if ns.length<64 then some ((.fr:Kd),Da.lst ((Ms.srt Ms.ltI (dB ns)).map Da.int)) else none | none=>none)=_
   rw [eR]
   dsimp only
   rw [if_pos hDl,ee]
  rw [oQ,cb,this,cQ]
  rfl
 rw [gi,mH,dm (ds:=[dY n L,dT T]) rfl rfl (vo Y (by lia) hl hT),e3]
 dsimp only
 rw [uB,decide_eq_true rfl]
 rfl
end G7
set_option maxHeartbeats 8000000
namespace C
open PySem PySem.Spec PyProof.Rows L2 Ry
noncomputable def top (i:Nat):Stmt:=PySem.Challenge.pw_rankyard_k07_whole_heads_and_tops_tell_o.main.body.getD i (.Pass ⟨0,0,0,0⟩)
noncomputable abbrev du:Stmt:=top 5
noncomputable abbrev bK:Stmt:=top 6
noncomputable abbrev cL:Stmt:=top 7
noncomputable abbrev eO:Stmt:=top 8
noncomputable abbrev cJ:Stmt:=top 9
noncomputable abbrev d9:Stmt:=top 11
noncomputable abbrev cK:Stmt:=top 12
noncomputable abbrev d7:Stmt:=top 13
noncomputable abbrev gu:Stmt:=top 14
noncomputable abbrev cM:Stmt:=top 16
noncomputable abbrev dA:Stmt:=top 17
noncomputable abbrev cY:Stmt:=top 18
noncomputable abbrev dt:Stmt:=top 19
noncomputable abbrev cN:Stmt:=top 20
noncomputable abbrev cz:Stmt:=top 21
noncomputable abbrev cO:Stmt:=top 22
noncomputable abbrev cS:Stmt:=top 23
noncomputable abbrev js:Stmt:=top 24
structure Zs (mg:Str->Option Value):Prop where
 «ValueError» : mg "ValueError" = none
 «all» : mg "all" = none
 «any» : mg "any" = none
 «bool» : mg "bool" = none
 «int» : mg "int" = none
 «isinstance» : mg "isinstance" = none
 «len» : mg "len" = none
 «list» : mg "list" = none
 «range» : mg "range" = none
 «reversed» : mg "reversed" = none
 «set» : mg "set" = none
 «sorted» : mg "sorted" = none
 «tuple» : mg "tuple" = none
section
variable {P:Program} {w:World} {K:PySem.W.Frag} {mg:Str->Option Value} {base:Heap}
theorem j7:cg ["thing"] ["thing"] (az du):=⟨rfl,rfl,rfl,by decide +kernel,rfl,by decide +kernel,by decide +kernel⟩
theorem o4 (hf:d5 K mg "is_whole" du) (Z:Zs mg)  : Ca P w K mg base "is_whole" ["thing"] 1 1 G.fn_is_whole:=by
 have hb:∀ (f:Addr) (cdv:Value) (A:Around) (outer:List Env) (s:Shared) (H:Hp) (E:XK),fQ 0 (A.deeper (envOfC "is_whole" (az du) s.heap.objs.size f cdv))->g7 (g9 CX0 P w K mg base ["thing"] "is_whole" (az du) f cdv A outer s H E).nox (br du) G.g_is_whole:=by
  intro f cdv A outer s H E hr
  have hu:=hr.units
  have hu1:_+1<cLine:=gy hr
  have nd:=j7.nd
  exact (bL (bV (si (jL AM (by decide +kernel) rfl Z.isinstance rfl Z.int (ay 0)) (tq (BS (jL yw (by decide +kernel) rfl Z.isinstance rfl Z.bool (ay 0)))))))
 have:=iA (k:=0) (n:=1) hf j7 rfl (fun _ _ _ _ _ _ us hl=>match us,hl with | [_],_=>rfl) fun f cdv A outer s H E hr=>(hb f cdv A outer s H E hr).out
 exact this
theorem fG:cg ["thing","count"] ["thing","count"] (az bK):=⟨rfl,rfl,rfl,by decide +kernel,rfl,by decide +kernel,by decide +kernel⟩
theorem iz (hf:d5 K mg "is_number_below" bK) (Z:Zs mg) (C_is_whole:Ca P w K mg base "is_whole" ["thing"] 1 1 G.fn_is_whole):Ca P w K mg base "is_number_below" ["thing","count"] 2 2 G.fn_is_number_below:=by
 have hb:∀ (f:Addr) (cdv:Value) (A:Around) (outer:List Env) (s:Shared) (H:Hp) (E:XK),fQ 1 (A.deeper (envOfC "is_number_below" (az bK) s.heap.objs.size f cdv))->g7 (g9 CX0 P w K mg base ["thing","count"] "is_number_below" (az bK) f cdv A outer s H E).nox (br bK) G.g_is_number_below:=by
  intro f cdv A outer s H E hr
  have hu:=hr.units
  have hu1:_+1<cLine:=gy hr
  have nd:=fG.nd
  exact (bL (bV (si (bD C_is_whole (hr.mono (by decide)) rfl (ak (ay 0) aQ) (aO bQ)) (tq (wv ED (C1 hu) bP (ay 0) (ay 1))))))
 have:=iA (k:=1) (n:=2) hf fG rfl (fun _ _ _ _ _ _ us hl=>match us,hl with | [_,_],_=>rfl) fun f cdv A outer s H E hr=>(hb f cdv A outer s H E hr).out
 exact this
theorem jp:cg ["things"] ["things"] (az cL):=⟨rfl,rfl,rfl,by decide +kernel,rfl,by decide +kernel,by decide +kernel⟩
theorem ou (hf:d5 K mg "is_rising" cL) (Z:Zs mg)  : Ca P w K mg base "is_rising" ["things"] 1 1 G.fn_is_rising:=by
 have hb:∀ (f:Addr) (cdv:Value) (A:Around) (outer:List Env) (s:Shared) (H:Hp) (E:XK),fQ 0 (A.deeper (envOfC "is_rising" (az cL) s.heap.objs.size f cdv))->g7 (g9 CX0 P w K mg base ["things"] "is_rising" (az cL) f cdv A outer s H E).nox (br cL) G.g_is_rising:=by
  intro f cdv A outer s H E hr
  have hu:=hr.units
  have hu1:_+1<cLine:=gy hr
  have nd:=jp.nd
  exact (bL (bV (nZ rfl rfl Z.all (ak (cZ rfl (eK (ix:=[none,none,some 0]) rfl (by decide +kernel) rfl rfl) (eP rfl Z.range (ak (BO (nS rfl Z.len (ak (ay 0) aQ)) bP) aQ)) ⟨fun _ _ _=>(bC (i:=1) (cnd (by decide +kernel))),fun _ _ _=>gk,fun _ _ _=>(Au (C1 hu) (dc hu1 (ay 2) (ay 1)) (dc hu1 (ay 2) (h8 (ay 1) bP)))⟩) aQ))))
 have:=iA (k:=0) (n:=1) hf jp rfl (fun _ _ _ _ _ _ us hl=>match us,hl with | [_],_=>rfl) fun f cdv A outer s H E hr=>(hb f cdv A outer s H E hr).out
 exact this
theorem jk:cg ["pairs","uppers","under","over"] ["pairs"] (az eO):=⟨rfl,rfl,rfl,by decide +kernel,rfl,by decide +kernel,by decide +kernel⟩
theorem nU (hf:d5 K mg "uppers_of" eO):Ca P w K mg base "uppers_of" ["pairs"] 1 1 Ry.fn_uppers_of:=by
 obtain ⟨a,fd,F,hm⟩:=hf
 refine ⟨a,fd,hm,F.kp,F.binds (fun _ _ _ _ _ _ us hl=>match us,hl with | [_],_=>rfl),?_⟩
 refine F.ok jk (fun vs H Q E ⟨G,ds,d,hl,sg,_,dl,_⟩=>by rw [dl.length,hl];rfl) fun cdv A outer s H vs Q E hr ⟨G,ds,d,hl,sg,tg,dl,ef,k⟩=>?_
 have hu1:_+1<cLine:=gy hr
 have nd:=jk.nd
 refine ⟨_,fj (lc (i:=1) nd rfl (Or.inl rfl) lO)
  (fj (xk PassesOwn.never rfl (tL (yb (jd 0))) (xQ rfl (mI (lT (i:=2) nd rfl (Or.inl rfl)) (mI (lT (i:=3) nd rfl (Or.inl rfl)) ux)))
    (fj (Ai (Bl (sI hu1 (pv 2) (pv 1))) (fM (pA hu1 (pv 1) (pv 2) lO rfl)) o6)
    (fM (pA hu1 (ui hu1 (pv 1) (pv 2) (fun _ _=>rfl)) (pv 3) A6 rfl))))
  (fM (yM (pv 1)))),?_⟩
 exact pj hl sg tg dl ef k
theorem jf:cg ["pairs"] ["pairs"] (az cJ):=⟨rfl,rfl,rfl,by decide +kernel,rfl,by decide +kernel,by decide +kernel⟩
theorem nc (hf:d5 K mg "lowers_of" cJ) (Z:Zs mg) (C_uppers_of:Ca P w K mg base "uppers_of" ["pairs"] 1 1 Ry.fn_uppers_of):Ca P w K mg base "lowers_of" ["pairs"] 2 1 GW.fn_lowers_of:=by
 have hb:∀ (f:Addr) (cdv:Value) (A:Around) (outer:List Env) (s:Shared) (H:Hp) (E:XK),fQ 1 (A.deeper (envOfC "lowers_of" (az cJ) s.heap.objs.size f cdv))->g7 (g9 CX0 P w K mg base ["pairs"] "lowers_of" (az cJ) f cdv A outer s H E).nox (br cJ) GW.g_lowers_of:=by
  intro f cdv A outer s H E hr
  have hu:=hr.units
  have hu1:_+1<cLine:=gy hr
  have nd:=jf.nd
  exact (bL (bV (bD C_uppers_of (hr.mono (by decide)) rfl (ak (cZ rfl (eK (ix:=[none,none,none]) rfl (by decide +kernel) rfl rfl) (cP (dR (ay 0))) ⟨fun _ _ _=>(pD rfl (gS (bC (i:=1) (cnd (by decide +kernel))) (gS (bC (i:=2) (cnd (by decide +kernel))) pN))),fun _ _ _=>gk,fun _ _ _=>(jn (ak (ay 2) (ak (ay 1) aQ)))⟩) aQ) (aO bQ))))
 have:=iA (k:=1) (n:=1) hf jf rfl (fun _ _ _ _ _ _ us hl=>match us,hl with | [_],_=>rfl) fun f cdv A outer s H E hr=>(hb f cdv A outer s H E hr).out
 exact this
theorem lj:cg ["yard","things","lowers","held","thing"] ["yard","things"] (az d9):=⟨rfl,rfl,rfl,by decide +kernel,rfl,by decide +kernel,by decide +kernel⟩
theorem q0 (hf:d5 K mg "head_of" d9) (Z:Zs mg) (C_lowers_of:Ca P w K mg base "lowers_of" ["pairs"] 2 1 GW.fn_lowers_of):Ca P w K mg base "head_of" ["yard","things"] 3 2 GN.fn_head_of:=by
 have hb:∀ (f:Addr) (cdv:Value) (A:Around) (outer:List Env) (s:Shared) (H:Hp) (E:XK),fQ 2 (A.deeper (envOfC "head_of" (az d9) s.heap.objs.size f cdv))->g7 (g9 CX0 P w K mg base ["yard","things","lowers","held","thing"] "head_of" (az d9) f cdv A outer s H E).nox (br d9) GN.g_head_of:=by
  intro f cdv A outer s H E hr
  have hu:=hr.units
  have hu1:_+1<cLine:=gy hr
  have nd:=lj.nd
  exact (bG (eN (i:=2) nd (bD C_lowers_of (hr.mono (by decide)) rfl (ak (dc hu1 (ay 0) bP) aQ) (aO bQ)))
   (bG (mw (i:=3) nd iI)
   (bG (fN PassesOwn.never rfl (cP (dR (ay 1))) (bC (i:=4) nd)
   (bG (pQ (i:=3) hu (ay 4) jH)
   (bL (qU (i:=3) (lV hu1 (ay 2) (ay 4) iI)))))
   (bL (bV (fm rfl Z.tuple (ak (n8 rfl rfl Z.sorted (ak (ay 3) aQ)) aQ)))))))
 have:=iA (k:=2) (n:=2) hf lj rfl (fun _ _ _ _ _ _ us hl=>match us,hl with | [_,_],_=>rfl) fun f cdv A outer s H E hr=>(hb f cdv A outer s H E hr).out
 exact this
theorem jq:cg ["head","things"] ["head","things"] (az cK):=⟨rfl,rfl,rfl,by decide +kernel,rfl,by decide +kernel,by decide +kernel⟩
theorem oE (hf:d5 K mg "holds_all" cK) (Z:Zs mg)  : Ca P w K mg base "holds_all" ["head","things"] 1 2 GH.fn_holds_all:=by
 have hb:∀ (f:Addr) (cdv:Value) (A:Around) (outer:List Env) (s:Shared) (H:Hp) (E:XK),fQ 0 (A.deeper (envOfC "holds_all" (az cK) s.heap.objs.size f cdv))->g7 (g9 CX0 P w K mg base ["head","things"] "holds_all" (az cK) f cdv A outer s H E).nox (br cK) GH.g_holds_all:=by
  intro f cdv A outer s H E hr
  have hu:=hr.units
  have hu1:_+1<cLine:=gy hr
  have nd:=jq.nd
  exact (bL (bV (nZ rfl rfl Z.all (ak (cZ rfl (eK (ix:=[none,none,some 0]) rfl (by decide +kernel) rfl rfl) (cP (dR (ay 1))) ⟨fun _ _ _=>(bC (i:=1) (cnd (by decide +kernel))),fun _ _ _=>gk,fun _ _ _=>(Au (wA hu) (ay 1) (ay 2))⟩) aQ))))
 have:=iA (k:=0) (n:=2) hf jq rfl (fun _ _ _ _ _ _ us hl=>match us,hl with | [_,_],_=>rfl) fun f cdv A outer s H E hr=>(hb f cdv A outer s H E hr).out
 exact this
theorem kJ:cg ["yard","things","lowers"] ["yard","things"] (az d7):=⟨rfl,rfl,rfl,by decide +kernel,rfl,by decide +kernel,by decide +kernel⟩
theorem rF (hf:d5 K mg "is_head" d7) (Z:Zs mg) (C_holds_all:Ca P w K mg base "holds_all" ["head","things"] 1 2 GH.fn_holds_all) (C_is_number_below:Ca P w K mg base "is_number_below" ["thing","count"] 2 2 G.fn_is_number_below) (C_is_rising:Ca P w K mg base "is_rising" ["things"] 1 1 G.fn_is_rising) (C_lowers_of:Ca P w K mg base "lowers_of" ["pairs"] 2 1 GW.fn_lowers_of):Ca P w K mg base "is_head" ["yard","things"] 3 2 G7.fn_is_head:=by
 have hb:∀ (f:Addr) (cdv:Value) (A:Around) (outer:List Env) (s:Shared) (H:Hp) (E:XK),fQ 2 (A.deeper (envOfC "is_head" (az d7) s.heap.objs.size f cdv))->g7 (g9 CX0 P w K mg base ["yard","things","lowers"] "is_head" (az d7) f cdv A outer s H E).nox (br d7) G7.g_is_head:=by
  intro f cdv A outer s H E hr
  have hu:=hr.units
  have hu1:_+1<cLine:=gy hr
  have nd:=kJ.nd
  exact (bG (hV (il (ji (nZ rfl rfl Z.all (ak (cZ rfl (eK (ix:=[none,none,none,some 0]) rfl (by decide +kernel) rfl rfl) (cP (dR (ay 1))) ⟨fun _ _ _=>(bC (i:=1) (cnd (by decide +kernel))),fun _ _ _=>gk,fun _ _ _=>(bD C_is_number_below (hr.mono (by decide)) rfl (ak (ay 1) (ak (dc hu1 (ay 3) bP) aQ)) (aO (aO bQ)))⟩) aQ)))) (bL (bV jH)) fK)
   (bG (eN (i:=2) nd (bD C_lowers_of (hr.mono (by decide)) rfl (ak (dc hu1 (ay 0) bP) aQ) (aO bQ)))
   (bL (bV (si (bD C_is_rising (hr.mono (by decide)) rfl (ak (ay 1) aQ) (aO bQ)) (tq (nZ rfl rfl Z.all (ak (cZ rfl (eK (ix:=[none,none,none,some 2,some 1]) rfl (by decide +kernel) rfl rfl) (cP (dR (ay 1))) ⟨fun _ _ _=>(bC (i:=1) (cnd (by decide +kernel))),fun _ _ _=>gk,fun _ _ _=>(bD C_holds_all (hr.mono (by decide)) rfl (ak (ay 4) (ak (dR (lV hu1 (ay 3) (ay 1) iI)) aQ)) (aO (aO bQ)))⟩) aQ))))))))
 have:=iA (k:=2) (n:=2) hf kJ rfl (fun _ _ _ _ _ _ us hl=>match us,hl with | [_,_],_=>rfl) fun f cdv A outer s H E hr=>(hb f cdv A outer s H E hr).out
 exact this
theorem lF:cg ["yard","head","uppers"] ["yard","head"] (az gu):=⟨rfl,rfl,rfl,by decide +kernel,rfl,by decide +kernel,by decide +kernel⟩
theorem yi (hf:d5 K mg "tops" gu) (Z:Zs mg) (C_is_head:Ca P w K mg base "is_head" ["yard","things"] 3 2 G7.fn_is_head) (C_uppers_of:Ca P w K mg base "uppers_of" ["pairs"] 1 1 Ry.fn_uppers_of):Ca P w K mg base "tops" ["yard","head"] 4 2 G7.fn_tops:=by
 have hb:∀ (f:Addr) (cdv:Value) (A:Around) (outer:List Env) (s:Shared) (H:Hp) (E:XK),fQ 3 (A.deeper (envOfC "tops" (az gu) s.heap.objs.size f cdv))->g7 (g9 CX0 P w K mg base ["yard","head","uppers"] "tops" (az gu) f cdv A outer s H E).nox (br gu) G7.g_tops:=by
  intro f cdv A outer s H E hr
  have hu:=hr.units
  have hu1:_+1<cLine:=gy hr
  have nd:=lF.nd
  exact (bG (hV (il (ji (bD C_is_head (hr.mono (by decide)) rfl (ak (ay 0) (ak (ay 1) aQ)) (aO (aO bQ))))) t4 fK)
   (bG (eN (i:=2) nd (bD C_uppers_of (hr.mono (by decide)) rfl (ak (dc hu1 (ay 0) bP) aQ) (aO bQ)))
   (bL (bV (fm rfl Z.tuple (ak (cZ rfl (eK (ix:=[none,none,none,some 1,some 2]) rfl (by decide +kernel) rfl rfl) (cP (dR (ay 1))) ⟨fun _ _ _=>(bC (i:=1) (cnd (by decide +kernel))),fun _ _ _=>(gP (il (ji (xN rfl rfl Z.any (ak (cZ rfl (eK (ix:=[none,none,some 3]) rfl (by decide +kernel) rfl rfl) (cP (dR (lV hu1 (ay 4) (ay 1) iI))) ⟨fun _ _ _=>(bC (i:=1) (cnd (by decide +kernel))),fun _ _ _=>gk,fun _ _ _=>(Au (wA hu) (ay 1) (ay 2))⟩) aQ))))),fun _ _ _=>(ay 1)⟩) aQ))))))
 have:=iA (k:=3) (n:=2) hf lF rfl (fun _ _ _ _ _ _ us hl=>match us,hl with | [_,_],_=>rfl) fun f cdv A outer s H E hr=>(hb f cdv A outer s H E hr).out
 exact this
theorem yB {C:Addr} (hf:d5 K mg "tops" gu) (Z:Zs mg) (hO:OwnCls "NoHead" C [.type "ValueError",.type "Exception",.type "BaseException",.type "object"] "ValueError.__new__" mg base) (C_is_head:Ca P w K mg base "is_head" ["yard","things"] 3 2 G7.fn_is_head) (C_uppers_of:Ca P w K mg base "uppers_of" ["pairs"] 1 1 Ry.fn_uppers_of):∃ (a:Addr) (fd:FuncData),mg "tops" = some (.ref a)/\PySem.W.keepIn K (.ref a)=true/\mx K fd ["yard","head"] []/\pZ P w K mg base (Rx.CX1 P w (.ref C)) 4 a fd ["yard","head"] (Rx.spX K 2 G7.fnX_tops):=by
 obtain ⟨a,fd,F,hm⟩:=hf
 refine ⟨a,fd,hm,F.kp,F.binds (fun _ _ _ _ _ _ us hl=>match us,hl with | [_,_],_=>rfl),?_⟩
 refine Rx.okX (k:=3) F lF (fun vs H Q E ⟨G,ds,d,hl,sg,_,dl,_⟩=>by rw [dl.length,hl];rfl) fun cdv A outer s H vs Q E hr h=>?_
 have hu:=hr.units
 have hu1:_+1<cLine:=gy hr
 have nd:=lF.nd
 have hps:PSs (g9 (Rx.CX1 P w (.ref C)) P w K mg base ["yard","head","uppers"] "tops" (az gu) a cdv A outer s H E) (br gu) (mR (C2 (tXT K G7.c_tops) (fun _ σ H1=>(fun σ H Q=>∃ (v:V) (ns:List Int),σ[1]?=some (some v)/\Den K H (.tup (ns.map Da.int)) v/\ns.length<=20/\(∀ n∈ns,0<=n/\n<1000)/\∀ t,Q (.str t) H:TE) σ H1 fun v H2=>([v]:List V).length=1/\E .none none H2) wx) (mR (tS K G7.g_tops2) (tS K G7.g_tops3))):=by
  refine fj (Ai (PT.nox ?s1) (fM ?r) o6) (fj (Rx.PS.nox ?s2) (fM (Rx.PS.nox ?s3)))
  case s1=>exact QXT.out (f:=G7.c_tops) (il (ji (bD C_is_head (hr.mono (by decide)) rfl (ak (ay 0) (ak (ay 1) aQ)) (aO (aO bQ)))))
  case s2=>exact QXS.out (g:=G7.g_tops2) (eN (i:=2) nd (bD C_uppers_of (hr.mono (by decide)) rfl (ak (dc hu1 (ay 0) bP) aQ) (aO bQ)))
  case s3=>exact QXS.out (g:=G7.g_tops3) (bV (fm rfl Z.tuple (ak (cZ rfl (eK (ix:=[none,none,none,some 1,some 2]) rfl (by decide +kernel) rfl rfl) (cP (dR (ay 1))) ⟨fun _ _ _=>(bC (i:=1) (cnd (by decide +kernel))),fun _ _ _=>(gP (il (ji (xN rfl rfl Z.any (ak (cZ rfl (eK (ix:=[none,none,some 3]) rfl (by decide +kernel) rfl rfl) (cP (dR (lV hu1 (ay 4) (ay 1) iI))) ⟨fun _ _ _=>(bC (i:=1) (cnd (by decide +kernel))),fun _ _ _=>gk,fun _ _ _=>(Au (wA hu) (ay 1) (ay 2))⟩) aQ))))),fun _ _ _=>(ay 1)⟩) aQ)))
  case r=>exact Rx.ps_raise hO PySem.F.excBase_ValueError (by decide +kernel) PySem.F.excBase_ValueError (Rx.pe_msgT hr.gd hr.units (pv 1) (by decide +kernel)) rfl
 exact ⟨_,hps,Rx.read3 h⟩
theorem jm:cg ["_law_script","_law_k"] ["_law_script","_law_k"] (az cM):=⟨rfl,rfl,rfl,by decide +kernel,rfl,by decide +kernel,by decide +kernel⟩
theorem oj (hf:d5 K mg "_law_cell" cM) (Z:Zs mg)  : Ca P w K mg base "_law_cell" ["_law_script","_law_k"] 1 2 G.fn__law_cell:=by
 have hb:∀ (f:Addr) (cdv:Value) (A:Around) (outer:List Env) (s:Shared) (H:Hp) (E:XK),fQ 0 (A.deeper (envOfC "_law_cell" (az cM) s.heap.objs.size f cdv))->g7 (g9 CX0 P w K mg base ["_law_script","_law_k"] "_law_cell" (az cM) f cdv A outer s H E).nox (br cM) G.g__law_cell:=by
  intro f cdv A outer s H E hr
  have hu:=hr.units
  have hu1:_+1<cLine:=gy hr
  have nd:=jm.nd
  exact (bG (hV (gz (C1 hu) (ay 1) (nS rfl Z.len (ak (ay 0) aQ))) (bL (bV (dc hu1 (ay 0) (ay 1)))) fK)
   (bL (bV bP)))
 have:=iA (k:=0) (n:=2) hf jm rfl (fun _ _ _ _ _ _ us hl=>match us,hl with | [_,_],_=>rfl) fun f cdv A outer s H E hr=>(hb f cdv A outer s H E hr).out
 exact this
theorem jR:cg ["_law_cell_here","_law_prime","_law_many"] ["_law_cell_here","_law_prime","_law_many"] (az dA):=⟨rfl,rfl,rfl,by decide +kernel,rfl,by decide +kernel,by decide +kernel⟩
theorem pb (hf:d5 K mg "_law_mix" dA) (Z:Zs mg)  : Ca P w K mg base "_law_mix" ["_law_cell_here","_law_prime","_law_many"] 1 3 G.fn__law_mix:=by
 have hb:∀ (f:Addr) (cdv:Value) (A:Around) (outer:List Env) (s:Shared) (H:Hp) (E:XK),fQ 0 (A.deeper (envOfC "_law_mix" (az dA) s.heap.objs.size f cdv))->g7 (g9 CX0 P w K mg base ["_law_cell_here","_law_prime","_law_many"] "_law_mix" (az dA) f cdv A outer s H E).nox (br dA) G.g__law_mix:=by
  intro f cdv A outer s H E hr
  have hu:=hr.units
  have hu1:_+1<cLine:=gy hr
  have nd:=jR.nd
  exact (bL (bV (xO (xO (uH (ay 0) bP) (ay 1)) (ay 2))))
 have:=iA (k:=0) (n:=3) hf jR rfl (fun _ _ _ _ _ _ us hl=>match us,hl with | [_,_,_],_=>rfl) fun f cdv A outer s H E hr=>(hb f cdv A outer s H E hr).out
 exact this
theorem jh:cg ["_law_cell_here","_law_many","_law_left"] ["_law_cell_here","_law_many"] (az cY):=⟨rfl,rfl,rfl,by decide +kernel,rfl,by decide +kernel,by decide +kernel⟩
theorem nj (hf:d5 K mg "_law_perm" cY) (Z:Zs mg) (C__law_mix:Ca P w K mg base "_law_mix" ["_law_cell_here","_law_prime","_law_many"] 1 3 G.fn__law_mix):Ca P w K mg base "_law_perm" ["_law_cell_here","_law_many"] 2 2 G.fn__law_perm:=by
 obtain ⟨a,fd,F,hm⟩:=hf
 refine ⟨a,fd,hm,F.kp,F.binds (fun _ _ _ _ _ _ us hl=>match us,hl with | [_,_],_=>rfl),?_⟩
 refine F.ok jh (fun vs H Q E ⟨Gp,ds,d,hl,sg,_,dl,_⟩=>by rw [dl.length,hl];rfl) fun cdv A outer s H vs Q E hr ⟨Gp,ds,d,hl,sg,tg,dl,ef,k⟩=>?_
 have hu1:_+1<cLine:=gy hr
 have nd:=jh.nd
 have hps:PSs (g9 CX0 P w K mg base ["_law_cell_here","_law_many","_law_left"] "_law_perm" (az cY) a cdv A outer s H E).nox (br cY) (mR (yE (tX K (g4 (aB (aJ 1) bO))) (jr 2))
  (C3 (sj (mpS [none,none,none,some 0,some 2,some 1]) (iX K (mQ (aB (aJ 1) bO))) (jr 1) (fun _ H Q=>Q true H)
    (tBM K "list" uO (kF 4) (uf (tX K (bU G.fn__law_mix (aB (x2 jO (aJ 3) (x2 (oI nh (·*·)) (xC (.int 5)) (aJ 1))) (aB (xC (.int 9967)) (aB (x2 (oI (fun _ _=>true) (·-·)) (aJ 5) (aJ 1)) bO))))) C4))))):=by
  refine fj (lc (i:=2) nd rfl (by first | exact Or.inl rfl | exact Or.inr rfl) ?e1) (fM (qx ?e2))
  case e1=>exact oq rfl Z.list rfl Z.range (gQ (jd 1) lG)
  case e2 =>
   refine vS rfl (eK (ix:=[none,none,none,some 0,some 2,some 1]) rfl (by decide +kernel) rfl rfl) ?i1 ?i2 ?i3 ?i4
   case i1=>exact kX rfl Z.range (gQ (jd 1) lG)
   case i2=>exact fun s3 H3 fp3=>lT (i:=1) (cnd (by decide +kernel)) rfl (Or.inl rfl)
   case i3=>exact fun s3 H3 fp3=>rY
   case i4 =>
    intro s3 H3 fp3
    refine yo PySem.F.plainAttrs_list PySem.F.slot_list_pop PySem.F.type_list_pop vR ?o ?ar
    case o=>exact pv 4
    case ar=>exact e7 (qa C__law_mix (hr.mono (by decide)) rfl (gQ (xE (jd 3) (xT uc (jd 1))) (gQ uc (gQ (x5 (jd 5) (jd 1)) lG))) (aO (aO (aO bQ)))) iF
 refine ⟨_,hps,?_⟩
 exact uX hl sg tg dl ef k
theorem j5:cg ["_law_count","_law_pairs","_law_found","_law_pair","_law_c","_law_a","_law_b"] ["_law_count","_law_pairs"] (az dt):=⟨rfl,rfl,rfl,by decide +kernel,rfl,by decide +kernel,by decide +kernel⟩
theorem pK (hf:d5 K mg "_law_all" dt) (Z:Zs mg)  : Ca P w K mg base "_law_all" ["_law_count","_law_pairs"] 1 2 G.fn__law_all:=by
 have hb:∀ (f:Addr) (cdv:Value) (A:Around) (outer:List Env) (s:Shared) (H:Hp) (E:XK),fQ 0 (A.deeper (envOfC "_law_all" (az dt) s.heap.objs.size f cdv))->g7 (g9 CX0 P w K mg base ["_law_count","_law_pairs","_law_found","_law_pair","_law_c","_law_a","_law_b"] "_law_all" (az dt) f cdv A outer s H E).nox (br dt) G.g__law_all:=by
  intro f cdv A outer s H E hr
  have hu:=hr.units
  have hu1:_+1<cLine:=gy hr
  have nd:=j5.nd
  exact (bG (mw (i:=2) nd xb)
   (bG (fN PassesOwn.never rfl (cP (dR (ay 1))) (bC (i:=3) nd)
   (bL (pQ (i:=2) hu (ay 3) jH)))
   (bG (fN PassesOwn.never rfl (eP rfl Z.range (ak (ay 0) aQ)) (bC (i:=4) nd)
   (bL (fN PassesOwn.never rfl (eP rfl Z.range (ak (ay 0) aQ)) (bC (i:=5) nd)
   (bL (fN PassesOwn.never rfl (eP rfl Z.range (ak (ay 0) aQ)) (bC (i:=6) nd)
   (bL (hV (q5 (jF (gz (wA hu) (jn (ak (ay 5) (ak (ay 4) aQ))) (ay 2)) (iO (gz (wA hu) (jn (ak (ay 4) (ak (ay 6) aQ))) (ay 2))))) (bL (pQ (i:=2) hu (jn (ak (ay 5) (ak (ay 6) aQ))) jH)) fK)))))))
   (bL (bV (n8 rfl rfl Z.sorted (ak (ay 2) aQ)))))))
 have:=iA (k:=0) (n:=2) hf j5 rfl (fun _ _ _ _ _ _ us hl=>match us,hl with | [_,_],_=>rfl) fun f cdv A outer s H E hr=>(hb f cdv A outer s H E hr).out
 exact this
theorem jj:cg ["_law_script","_law_k","_law_most","_law_count","_law_share","_law_places","_law_told","_law_a","_law_b"] ["_law_script","_law_k","_law_most"] (az cN):=⟨rfl,rfl,rfl,by decide +kernel,rfl,by decide +kernel,by decide +kernel⟩
theorem ni (hf:d5 K mg "_law_yard" cN) (Z:Zs mg) (C__law_all:Ca P w K mg base "_law_all" ["_law_count","_law_pairs"] 1 2 G.fn__law_all) (C__law_cell:Ca P w K mg base "_law_cell" ["_law_script","_law_k"] 1 2 G.fn__law_cell) (C__law_mix:Ca P w K mg base "_law_mix" ["_law_cell_here","_law_prime","_law_many"] 1 3 G.fn__law_mix) (C__law_perm:Ca P w K mg base "_law_perm" ["_law_cell_here","_law_many"] 2 2 G.fn__law_perm):Ca P w K mg base "_law_yard" ["_law_script","_law_k","_law_most"] 3 3 G.fn__law_yard:=by
 have hb:∀ (f:Addr) (cdv:Value) (A:Around) (outer:List Env) (s:Shared) (H:Hp) (E:XK),fQ 2 (A.deeper (envOfC "_law_yard" (az cN) s.heap.objs.size f cdv))->g7 (g9 CX0 P w K mg base ["_law_script","_law_k","_law_most","_law_count","_law_share","_law_places","_law_told","_law_a","_law_b"] "_law_yard" (az cN) f cdv A outer s H E).nox (br cN) G.g__law_yard:=by
  intro f cdv A outer s H E hr
  have hu:=hr.units
  have hu1:_+1<cLine:=gy hr
  have nd:=jj.nd
  exact (bG (eN (i:=3) nd (h8 bP (bD C__law_mix (hr.mono (by decide)) rfl (ak (bD C__law_cell (hr.mono (by decide)) rfl (ak (ay 0) (ak (ay 1) aQ)) (aO (aO bQ))) (ak bP (ak (ay 2) aQ))) (aO (aO (aO bQ))))))
   (bG (eN (i:=4) nd (h8 bP (bD C__law_mix (hr.mono (by decide)) rfl (ak (bD C__law_cell (hr.mono (by decide)) rfl (ak (ay 0) (ak (ay 1) aQ)) (aO (aO bQ))) (ak bP (ak bP aQ))) (aO (aO (aO bQ))))))
   (bG (eN (i:=5) nd (bD C__law_perm (hr.mono (by decide)) rfl (ak (bD C__law_cell (hr.mono (by decide)) rfl (ak (ay 0) (ak (h8 (ay 1) bP) aQ)) (aO (aO bQ))) (ak (ay 3) aQ)) (aO (aO bQ))))
   (bG (mw (i:=6) nd (xX aQ))
   (bG (fN PassesOwn.never rfl (eP rfl Z.range (ak (ay 3) aQ)) (bC (i:=7) nd)
   (bL (fN PassesOwn.never rfl (ro rfl Z.range (ak (h8 (ay 7) bP) (ak (ay 3) aQ))) (bC (i:=8) nd)
   (bL (hV (gz (C1 hu) (bD C__law_mix (hr.mono (by decide)) rfl (ak (h8 (h8 (bD C__law_cell (hr.mono (by decide)) rfl (ak (ay 0) (ak (h8 (ay 1) bP) aQ)) (aO (aO bQ))) (uH bP (ay 7))) (uH bP (ay 8))) (ak bP (ak bP aQ))) (aO (aO (aO bQ)))) (ay 4)) (bL (kY (i:=6) (jn (ak (dc hu1 (ay 5) (ay 7)) (ak (dc hu1 (ay 5) (ay 8)) aQ))))) fK)))))
   (bL (zT 6 (bV (jn (ak (ay 3) (ak (fm rfl Z.tuple (ak (bD C__law_all (hr.mono (by decide)) rfl (ak (ay 3) (ak (ay 6) aQ)) (aO (aO bQ))) aQ)) aQ)))))))))))
 have:=iA (k:=2) (n:=3) hf jj rfl (fun _ _ _ _ _ _ us hl=>match us,hl with | [_,_,_],_=>rfl) fun f cdv A outer s H E hr=>(hb f cdv A outer s H E hr).out
 exact this
theorem iH:cg ["_law_yard_here","_law_found","_law_number","_law_head"] ["_law_yard_here"] (az cz):=⟨rfl,rfl,rfl,by decide +kernel,rfl,by decide +kernel,by decide +kernel⟩
theorem lv (hf:d5 K mg "_law_heads" cz) (Z:Zs mg)  : Ca P w K mg base "_law_heads" ["_law_yard_here"] 3 1 GB.fn__law_heads:=by
 have hb:∀ (f:Addr) (cdv:Value) (A:Around) (outer:List Env) (s:Shared) (H:Hp) (E:XK),fQ 2 (A.deeper (envOfC "_law_heads" (az cz) s.heap.objs.size f cdv))->g7 (g9 CX0 P w K mg base ["_law_yard_here","_law_found","_law_number","_law_head"] "_law_heads" (az cz) f cdv A outer s H E).nox (br cz) GB.g__law_heads:=by
  intro f cdv A outer s H E hr
  have hu:=hr.units
  have hu1:_+1<cLine:=gy hr
  have nd:=iH.nd
  exact (bG (mw (i:=1) nd (xX aQ))
   (bG (fN PassesOwn.never rfl (eP rfl Z.range (ak (B8 bP bP) aQ)) (bC (i:=2) nd)
   (bG (eN (i:=3) nd (cZ rfl (eK (ix:=[none,none,some 2]) rfl (by decide +kernel) rfl rfl) (eP rfl Z.range (ak (dc hu1 (ay 0) bP) aQ)) ⟨fun _ _ _=>(bC (i:=1) (cnd (by decide +kernel))),fun _ _ _=>(gP (gz (DB hu) (Ad (xR (ay 2) (ay 1)) bP) bP)),fun _ _ _=>(ay 1)⟩))
   (bL (hV (q5 (jF (gz (DB hu) (xR (ay 2) (dc hu1 (ay 0) bP)) bP) (iO (ji (nZ rfl rfl Z.all (ak (cZ rfl (eK (ix:=[none,none,none,some 3]) rfl (by decide +kernel) rfl rfl) (cP (dR (dc hu1 (ay 0) bP))) ⟨fun _ _ _=>(pD rfl (gS (bC (i:=1) (cnd (by decide +kernel))) (gS (bC (i:=2) (cnd (by decide +kernel))) pN))),fun _ _ _=>(gP (gz (wA hu) (ay 2) (ay 3))),fun _ _ _=>(Au (wA hu) (ay 1) (ay 3))⟩) aQ)))))) (bL (kY (i:=1) (jn (ak (nS rfl Z.len (ak (ay 3) aQ)) (ak (fm rfl Z.tuple (ak (ay 3) aQ)) aQ))))) fK))))
   (bL (bV (cZ rfl (eK (ix:=[none,none]) rfl (by decide +kernel) rfl rfl) (cP (dR (rl (hr.mono (by decide)) rfl Z.sorted (ak (ay 1) aQ)))) ⟨fun _ _ _=>(bC (i:=1) (cnd (by decide +kernel))),fun _ _ _=>gk,fun _ _ _=>(dc hu1 (ay 1) bP)⟩)))))
 have:=iA (k:=2) (n:=1) hf iH rfl (fun _ _ _ _ _ _ us hl=>match us,hl with | [_],_=>rfl) fun f cdv A outer s H E hr=>(hb f cdv A outer s H E hr).out
 exact this
theorem jo:cg ["_law_yard_here","_law_head"] ["_law_yard_here","_law_head"] (az cO):=⟨rfl,rfl,rfl,by decide +kernel,rfl,by decide +kernel,by decide +kernel⟩
theorem oF (hf:d5 K mg "_law_tops" cO) (Z:Zs mg)  : Ca P w K mg base "_law_tops" ["_law_yard_here","_law_head"] 1 2 G7.fn__law_tops:=by
 have hb:∀ (f:Addr) (cdv:Value) (A:Around) (outer:List Env) (s:Shared) (H:Hp) (E:XK),fQ 0 (A.deeper (envOfC "_law_tops" (az cO) s.heap.objs.size f cdv))->g7 (g9 CX0 P w K mg base ["_law_yard_here","_law_head"] "_law_tops" (az cO) f cdv A outer s H E).nox (br cO) G7.g__law_tops:=by
  intro f cdv A outer s H E hr
  have hu:=hr.units
  have hu1:_+1<cLine:=gy hr
  have nd:=jo.nd
  exact (bL (bV (fm rfl Z.tuple (ak (cZ rfl (eK (ix:=[none,none,some 1,some 0]) rfl (by decide +kernel) rfl rfl) (cP (dR (ay 1))) ⟨fun _ _ _=>(bC (i:=1) (cnd (by decide +kernel))),fun _ _ _=>(gP (il (ji (cZ rfl (eK (ix:=[none,none,some 1,some 3]) rfl (by decide +kernel) rfl rfl) (cP (dR (ay 2))) ⟨fun _ _ _=>(bC (i:=1) (cnd (by decide +kernel))),fun _ _ _=>(gP (gz (wA hu) (jn (ak (ay 2) (ak (ay 1) aQ))) (dc hu1 (ay 3) bP))),fun _ _ _=>(ay 1)⟩)))),fun _ _ _=>(ay 1)⟩) aQ))))
 have:=iA (k:=0) (n:=2) hf jo rfl (fun _ _ _ _ _ _ us hl=>match us,hl with | [_,_],_=>rfl) fun f cdv A outer s H E hr=>(hb f cdv A outer s H E hr).out
 exact this
theorem gO:cg ["_law_yard_here","_law_things","_law_told","e"] ["_law_yard_here","_law_things"] (az cS):=⟨rfl,rfl,rfl,by decide +kernel,rfl,by decide +kernel,by decide +kernel⟩
theorem jJ {C D R:Addr} (hf:d5 K mg "_law_no_head" cS) (Z:Zs mg) (hL:∃ (a:Addr) (fd:FuncData),mg "tops" = some (.ref a)/\PySem.W.keepIn K (.ref a)=true/\mx K fd ["yard","head"] []/\pZ P w K mg base (Rx.CX1 P w (.ref C)) 4 a fd ["yard","head"] (Rx.spX K 2 G7.fnX_tops))
 (hNL:mg "NoHead" = some (.ref C)) (hNH:mg "NoLine" = some (.ref D)) (hRE:mg "RankError" = some (.ref R)) (hx:PySem.W.exmOne K (.ref C) (.ref R)=some true) (ek:Rx.ExK K C) (k1:PySem.W.kitOne K (.ref C) (.ref C)=some true) (k2:PySem.W.kitOne K (.ref C) (.ref D)=some false) (k3:PySem.W.kitOne K (.ref C) (.type "ValueError")=some true) :
 Ca P w K mg base "_law_no_head" ["_law_yard_here","_law_things"] 5 2 G7.fn__law_no_head:=by
 obtain ⟨a,fd,F,hm⟩:=hf
 obtain ⟨b,fb,hmb,kpb,bb,FL⟩:=hL
 refine ⟨a,fd,hm,F.kp,F.binds (fun _ _ _ _ _ _ us hl=>match us,hl with | [_,_],_=>rfl),?_⟩
 refine F.ok (k:=4) gO (fun vs H Q E ⟨G,ds,d,hl,sg,_,dl,_⟩=>by rw [dl.length,hl];rfl) fun cdv A outer s H vs Q E hr ⟨G,ds,d,hl,sg,tg,dl,ef,kk⟩=>?_
 have nd:=gO.nd
 refine ⟨_,fj (lc (i:=2) nd rfl (Or.inl rfl) xl) (fj (Rx.ps_tryX (C:=C) (Rc:=R) (ie:=3) rfl rfl rfl nd rfl rfl rfl hRE hx
  (fun pins xe E hp=>fM (po (sM FL (hr.mono (by decide)) rfl hmb kpb bb .nil hp (e7 (pv 0) (e7 (pv 1) iF)))))
  (fun pins e ob h1 h2 h3=>fM (lc (i:=2) nd rfl (Or.inl rfl) (sC (Rx.pe_isx (pv 3) (sS (v:=.ref C) rfl hNL rfl) rfl (fun _ z=>z) ek h1 h2 h3 k1 rfl Z.isinstance)
    (sC (xD (Rx.pe_isx (pv 3) (sS (v:=.ref D) rfl hNH rfl) rfl (fun _ z=>z) ek h1 h2 h3 k2 rfl Z.isinstance))
    (xH (Rx.pe_isx (pv 3) (vn (v:=.ty "ValueError") rfl Z.ValueError (by decide +kernel) rfl) rfl (fun _ z=>z) ek h1 h2 h3 k3 rfl Z.isinstance)))))))
  (fM (qx (pv 2)))),?_⟩
 exact Rx.read_ask hl sg tg dl ef kk
theorem yc:cg ["_law_script","_law_yard_here","_law_head","_law_found","_law_a","_law_less","_law_things","_law_due"] ["_law_script"] (az js):=⟨rfl,rfl,rfl,by decide +kernel,rfl,by decide +kernel,by decide +kernel⟩
theorem Bi {fa:Addr} {fd:FuncData} (F:Fun K "law" "law" js fa fd) (Z:Zs mg) (C__law_heads:Ca P w K mg base "_law_heads" ["_law_yard_here"] 3 1 GB.fn__law_heads) (C__law_mix:Ca P w K mg base "_law_mix" ["_law_cell_here","_law_prime","_law_many"] 1 3 G.fn__law_mix) (C__law_no_head:Ca P w K mg base "_law_no_head" ["_law_yard_here","_law_things"] 5 2 G7.fn__law_no_head) (C__law_tops:Ca P w K mg base "_law_tops" ["_law_yard_here","_law_head"] 1 2 G7.fn__law_tops) (C__law_yard:Ca P w K mg base "_law_yard" ["_law_script","_law_k","_law_most"] 3 3 G.fn__law_yard) (C_head_of:Ca P w K mg base "head_of" ["yard","things"] 3 2 GN.fn_head_of) (C_tops:Ca P w K mg base "tops" ["yard","head"] 4 2 G7.fn_tops):pZ P w K mg base CX0 6 fa fd ["_law_script"] (spD K 1 G7.fn_law):=by
 have hb:∀ (f:Addr) (cdv:Value) (A:Around) (outer:List Env) (s:Shared) (H:Hp) (E:XK),fQ 5 (A.deeper (envOfC "law" (az js) s.heap.objs.size f cdv))->g7 (g9 CX0 P w K mg base ["_law_script","_law_yard_here","_law_head","_law_found","_law_a","_law_less","_law_things","_law_due"] "law" (az js) f cdv A outer s H E).nox (br js) G7.g_law:=by
  intro f cdv A outer s H E hr
  have hu:=hr.units
  have hu1:_+1<cLine:=gy hr
  have nd:=yc.nd
  exact (bG (eN (i:=1) nd (bD C__law_yard (hr.mono (by decide)) rfl (ak (ay 0) (ak bP (ak bP aQ))) (aO (aO (aO bQ)))))
   (bG (fN PassesOwn.never rfl (cP (dR (bD C__law_heads (hr.mono (by decide)) rfl (ak (ay 1) aQ) (aO bQ)))) (bC (i:=2) nd)
   (bG (eN (i:=3) nd (bD C_tops (hr.mono (by decide)) rfl (ak (ay 1) (ak (ay 2) aQ)) (aO (aO bQ))))
   (bG (hV (q5 (xp (il (ji (jL vG (by decide +kernel) rfl Z.isinstance rfl Z.tuple (ay 3)))) (xp (gz (DI hu) (ay 3) (bD C__law_tops (hr.mono (by decide)) rfl (ak (ay 1) (ak (ay 2) aQ)) (aO (aO bQ)))) (yY (gz (DI hu) (bD C_head_of (hr.mono (by decide)) rfl (ak (ay 1) (ak (ay 3) aQ)) (aO (aO bQ))) (ay 2)))))) (bL (bV jH)) fK)
   (bG (hV (q5 (jF (gz Ej (nS rfl Z.len (ak (ay 2) aQ)) bP) (iO (gz pS (bD C__law_no_head (hr.mono (by decide)) rfl (ak (ay 1) (ak (h8 (ay 2) (qL (ay 2) wm (mG bP))) aQ)) (aO (aO bQ))) jH)))) (bL (bV jH)) fK)
   (bG (hV (q5 (jF (gz Ej (nS rfl Z.len (ak (ay 2) aQ)) bP) (iO (gz pS (bD C__law_no_head (hr.mono (by decide)) rfl (ak (ay 1) (ak (pO rfl Z.tuple rfl Z.reversed (ay 2)) aQ)) (aO (aO bQ))) jH)))) (bL (bV jH)) fK)
   (bL (fN PassesOwn.never rfl (cP (dR (ay 2))) (bC (i:=4) nd)
   (bG (eN (i:=5) nd (fm rfl Z.tuple (ak (cZ rfl (eK (ix:=[none,none,some 4]) rfl (by decide +kernel) rfl rfl) (cP (dR (ay 2))) ⟨fun _ _ _=>(bC (i:=1) (cnd (by decide +kernel))),fun _ _ _=>(gP (gz (DI hu) (ay 1) (ay 2))),fun _ _ _=>(ay 1)⟩) aQ)))
   (bL (hV (q5 (jF (gz (D2 hu) (ay 4) (ay 3)) (iO (gz pS (bD C__law_no_head (hr.mono (by decide)) rfl (ak (ay 1) (ak (ay 5) aQ)) (aO (aO bQ))) jH)))) (bL (bV jH)) fK))))))))))
   (bG (eN (i:=6) nd (fm rfl Z.tuple (ak (cZ rfl (eK (ix:=[none,none,none,some 1]) rfl (by decide +kernel) rfl rfl) (cP (dR (qL (ay 0) (mG bP) (mG bP)))) ⟨fun _ _ _=>(bC (i:=1) (cnd (by decide +kernel))),fun _ _ _=>gk,fun _ _ _=>(bD C__law_mix (hr.mono (by decide)) rfl (ak (ay 1) (ak bP (ak (dc hu1 (ay 3) bP) aQ))) (aO (aO (aO bQ))))⟩) aQ)))
   (bG (eN (i:=7) nd (h8 (za rfl Z.list (ak (ay 6) aQ)) (cZ rfl (eK (ix:=[none,none,none,some 6]) rfl (by decide +kernel) rfl rfl) (cP (dR (dc hu1 (ay 1) bP))) ⟨fun _ _ _=>(pD rfl (gS (bC (i:=1) (cnd (by decide +kernel))) (gS (bC (i:=2) (cnd (by decide +kernel))) pN))),fun _ _ _=>(gP (gz (wA hu) (ay 2) (ay 3))),fun _ _ _=>(ay 1)⟩)))
   (bL (bV (Au (DB hu) (bD C_head_of (hr.mono (by decide)) rfl (ak (ay 1) (ak (ay 6) aQ)) (aO (aO bQ))) (fm rfl Z.tuple (ak (mP rfl rfl Z.sorted rfl Z.set (ay 7)) aQ)))))))))
 have:=xF (n:=1) F yc rfl fun cdv A outer s H E hr=>(hb fa cdv A outer s H E hr).out
 exact this
end
end C
namespace C
open PySem PySem.Spec PyProof.Rows L2 Ry
theorem all_mk {P:Program} {w:World} {K:PySem.W.Frag} {h:Heap} {mg:Str->Option Value} {fa:Addr} (X:K.In h) (Gm:h.Ns mainGlobals mg) (hfa:mg "law" = some (.ref fa))
 {oC oD oR:Addr}
 {f0:Addr} {od0 an0:Option Addr} {sl0:Array (Option Value)} {oc0 kV0 dc0 pm0 cd0 ct0:Value}
 {f1:Addr} {od1 an1:Option Addr} {sl1:Array (Option Value)} {oc1 kV1 dc1 pm1 cd1 ct1:Value}
 {f2:Addr} {od2 an2:Option Addr} {sl2:Array (Option Value)} {oc2 kV2 dc2 pm2 cd2 ct2:Value}
 {f3:Addr} {od3 an3:Option Addr} {sl3:Array (Option Value)} {oc3 kV3 dc3 pm3 cd3 ct3:Value}
 {f4:Addr} {od4 an4:Option Addr} {sl4:Array (Option Value)} {oc4 kV4 dc4 pm4 cd4 ct4:Value}
 {f5:Addr} {od5 an5:Option Addr} {sl5:Array (Option Value)} {oc5 kV5 dc5 pm5 cd5 ct5:Value}
 {f6:Addr} {od6 an6:Option Addr} {sl6:Array (Option Value)} {oc6 kV6 dc6 pm6 cd6 ct6:Value}
 {f7:Addr} {od7 an7:Option Addr} {sl7:Array (Option Value)} {oc7 kV7 dc7 pm7 cd7 ct7:Value}
 {f8:Addr} {od8 an8:Option Addr} {sl8:Array (Option Value)} {oc8 kV8 dc8 pm8 cd8 ct8:Value}
 {f9:Addr} {od9 an9:Option Addr} {sl9:Array (Option Value)} {oc9 kV9 dc9 pm9 cd9 ct9:Value}
 {f10:Addr} {od10 an10:Option Addr} {sl10:Array (Option Value)} {oc10 kV10 dc10 pm10 cd10 ct10:Value}
 {f11:Addr} {od11 an11:Option Addr} {sl11:Array (Option Value)} {oc11 kV11 dc11 pm11 cd11 ct11:Value}
 {f12:Addr} {od12 an12:Option Addr} {sl12:Array (Option Value)} {oc12 kV12 dc12 pm12 cd12 ct12:Value}
 {f13:Addr} {od13 an13:Option Addr} {sl13:Array (Option Value)} {oc13 kV13 dc13 pm13 cd13 ct13:Value}
 {f14:Addr} {od14 an14:Option Addr} {sl14:Array (Option Value)} {oc14 kV14 dc14 pm14 cd14 ct14:Value}
 {f15:Addr} {od15 an15:Option Addr} {sl15:Array (Option Value)} {oc15 kV15 dc15 pm15 cd15 ct15:Value}
 {f16:Addr} {od16 an16:Option Addr} {sl16:Array (Option Value)} {oc16 kV16 dc16 pm16 cd16 ct16:Value}
 {f17:Addr} {od17 an17:Option Addr} {sl17:Array (Option Value)} {oc17 kV17 dc17 pm17 cd17 ct17:Value}
 (n0:PySem.W.nsIn K mainGlobals "NoHead" = some (some (.ref oC))) (n1:PySem.W.nsIn K mainGlobals "NoLine" = some (some (.ref oD))) (n2:PySem.W.nsIn K mainGlobals "RankError" = some (some (.ref oR))) (x0:PySem.W.exmOne K (.ref oC) (.ref oR)=some true) (x1:PySem.W.kitOne K (.ref oC) (.ref oC)=some true) (x2:PySem.W.kitOne K (.ref oC) (.ref oD)=some false) (x3:PySem.W.kitOne K (.ref oC) (.type "ValueError")=some true) (y0:PySem.W.findIn K (.ref oC) "__getattribute__" = some (some (.builtin "BaseException.__getattribute__"))) (y6:PySem.W.findIn K (.ref oC) "__getattr__" = some none) (y7:PySem.W.mroIn K oC (.type "BaseException")=some true) (y1:PySem.W.hasDictIn K oC=true) (y2:PySem.W.findIn K (.ref oC) "__class__" = some (some (.builtin "object.__class__"))) (y3:PySem.W.specialIn K (.builtin "object.__class__") "__get__" = some (some (.builtin "getset_descriptor.__get__"))) (y4:PySem.W.takesIn K (.builtin "object.__class__")=some true) (y5:PySem.W.mroIn K oC (.type "object")=some true)
 (a0:PySem.W.nsIn K mainGlobals "is_whole" = some (some (.ref f0))) (l0:K.lookup f0=some ⟨oc0,od0,.func (PySem.W.fnOf "is_whole" "is_whole" (cf du) (br du) (az du) .none kV0 dc0 pm0 an0 cd0 ct0),sl0⟩) (c0:PySem.W.codeIn K cd0 "is_whole" = true) (k0:PySem.W.keepIn K (.ref f0)=true)
 (a1:PySem.W.nsIn K mainGlobals "is_number_below" = some (some (.ref f1))) (l1:K.lookup f1=some ⟨oc1,od1,.func (PySem.W.fnOf "is_number_below" "is_number_below" (cf bK) (br bK) (az bK) .none kV1 dc1 pm1 an1 cd1 ct1),sl1⟩) (c1:PySem.W.codeIn K cd1 "is_number_below" = true) (k1:PySem.W.keepIn K (.ref f1)=true)
 (a2:PySem.W.nsIn K mainGlobals "is_rising" = some (some (.ref f2))) (l2:K.lookup f2=some ⟨oc2,od2,.func (PySem.W.fnOf "is_rising" "is_rising" (cf cL) (br cL) (az cL) .none kV2 dc2 pm2 an2 cd2 ct2),sl2⟩) (c2:PySem.W.codeIn K cd2 "is_rising" = true) (k2:PySem.W.keepIn K (.ref f2)=true)
 (a3:PySem.W.nsIn K mainGlobals "uppers_of" = some (some (.ref f3))) (l3:K.lookup f3=some ⟨oc3,od3,.func (PySem.W.fnOf "uppers_of" "uppers_of" (cf eO) (br eO) (az eO) .none kV3 dc3 pm3 an3 cd3 ct3),sl3⟩) (c3:PySem.W.codeIn K cd3 "uppers_of" = true) (k3:PySem.W.keepIn K (.ref f3)=true)
 (a4:PySem.W.nsIn K mainGlobals "lowers_of" = some (some (.ref f4))) (l4:K.lookup f4=some ⟨oc4,od4,.func (PySem.W.fnOf "lowers_of" "lowers_of" (cf cJ) (br cJ) (az cJ) .none kV4 dc4 pm4 an4 cd4 ct4),sl4⟩) (c4:PySem.W.codeIn K cd4 "lowers_of" = true) (k4:PySem.W.keepIn K (.ref f4)=true)
 (a5:PySem.W.nsIn K mainGlobals "head_of" = some (some (.ref f5))) (l5:K.lookup f5=some ⟨oc5,od5,.func (PySem.W.fnOf "head_of" "head_of" (cf d9) (br d9) (az d9) .none kV5 dc5 pm5 an5 cd5 ct5),sl5⟩) (c5:PySem.W.codeIn K cd5 "head_of" = true) (k5:PySem.W.keepIn K (.ref f5)=true)
 (a6:PySem.W.nsIn K mainGlobals "holds_all" = some (some (.ref f6))) (l6:K.lookup f6=some ⟨oc6,od6,.func (PySem.W.fnOf "holds_all" "holds_all" (cf cK) (br cK) (az cK) .none kV6 dc6 pm6 an6 cd6 ct6),sl6⟩) (c6:PySem.W.codeIn K cd6 "holds_all" = true) (k6:PySem.W.keepIn K (.ref f6)=true)
 (a7:PySem.W.nsIn K mainGlobals "is_head" = some (some (.ref f7))) (l7:K.lookup f7=some ⟨oc7,od7,.func (PySem.W.fnOf "is_head" "is_head" (cf d7) (br d7) (az d7) .none kV7 dc7 pm7 an7 cd7 ct7),sl7⟩) (c7:PySem.W.codeIn K cd7 "is_head" = true) (k7:PySem.W.keepIn K (.ref f7)=true)
 (a8:PySem.W.nsIn K mainGlobals "tops" = some (some (.ref f8))) (l8:K.lookup f8=some ⟨oc8,od8,.func (PySem.W.fnOf "tops" "tops" (cf gu) (br gu) (az gu) .none kV8 dc8 pm8 an8 cd8 ct8),sl8⟩) (c8:PySem.W.codeIn K cd8 "tops" = true) (k8:PySem.W.keepIn K (.ref f8)=true)
 (a9:PySem.W.nsIn K mainGlobals "_law_cell" = some (some (.ref f9))) (l9:K.lookup f9=some ⟨oc9,od9,.func (PySem.W.fnOf "_law_cell" "_law_cell" (cf cM) (br cM) (az cM) .none kV9 dc9 pm9 an9 cd9 ct9),sl9⟩) (c9:PySem.W.codeIn K cd9 "_law_cell" = true) (k9:PySem.W.keepIn K (.ref f9)=true)
 (a10:PySem.W.nsIn K mainGlobals "_law_mix" = some (some (.ref f10))) (l10:K.lookup f10=some ⟨oc10,od10,.func (PySem.W.fnOf "_law_mix" "_law_mix" (cf dA) (br dA) (az dA) .none kV10 dc10 pm10 an10 cd10 ct10),sl10⟩) (c10:PySem.W.codeIn K cd10 "_law_mix" = true) (k10:PySem.W.keepIn K (.ref f10)=true)
 (a11:PySem.W.nsIn K mainGlobals "_law_perm" = some (some (.ref f11))) (l11:K.lookup f11=some ⟨oc11,od11,.func (PySem.W.fnOf "_law_perm" "_law_perm" (cf cY) (br cY) (az cY) .none kV11 dc11 pm11 an11 cd11 ct11),sl11⟩) (c11:PySem.W.codeIn K cd11 "_law_perm" = true) (k11:PySem.W.keepIn K (.ref f11)=true)
 (a12:PySem.W.nsIn K mainGlobals "_law_all" = some (some (.ref f12))) (l12:K.lookup f12=some ⟨oc12,od12,.func (PySem.W.fnOf "_law_all" "_law_all" (cf dt) (br dt) (az dt) .none kV12 dc12 pm12 an12 cd12 ct12),sl12⟩) (c12:PySem.W.codeIn K cd12 "_law_all" = true) (k12:PySem.W.keepIn K (.ref f12)=true)
 (a13:PySem.W.nsIn K mainGlobals "_law_yard" = some (some (.ref f13))) (l13:K.lookup f13=some ⟨oc13,od13,.func (PySem.W.fnOf "_law_yard" "_law_yard" (cf cN) (br cN) (az cN) .none kV13 dc13 pm13 an13 cd13 ct13),sl13⟩) (c13:PySem.W.codeIn K cd13 "_law_yard" = true) (k13:PySem.W.keepIn K (.ref f13)=true)
 (a14:PySem.W.nsIn K mainGlobals "_law_heads" = some (some (.ref f14))) (l14:K.lookup f14=some ⟨oc14,od14,.func (PySem.W.fnOf "_law_heads" "_law_heads" (cf cz) (br cz) (az cz) .none kV14 dc14 pm14 an14 cd14 ct14),sl14⟩) (c14:PySem.W.codeIn K cd14 "_law_heads" = true) (k14:PySem.W.keepIn K (.ref f14)=true)
 (a15:PySem.W.nsIn K mainGlobals "_law_tops" = some (some (.ref f15))) (l15:K.lookup f15=some ⟨oc15,od15,.func (PySem.W.fnOf "_law_tops" "_law_tops" (cf cO) (br cO) (az cO) .none kV15 dc15 pm15 an15 cd15 ct15),sl15⟩) (c15:PySem.W.codeIn K cd15 "_law_tops" = true) (k15:PySem.W.keepIn K (.ref f15)=true)
 (a16:PySem.W.nsIn K mainGlobals "_law_no_head" = some (some (.ref f16))) (l16:K.lookup f16=some ⟨oc16,od16,.func (PySem.W.fnOf "_law_no_head" "_law_no_head" (cf cS) (br cS) (az cS) .none kV16 dc16 pm16 an16 cd16 ct16),sl16⟩) (c16:PySem.W.codeIn K cd16 "_law_no_head" = true) (k16:PySem.W.keepIn K (.ref f16)=true)
 (a17:PySem.W.nsIn K mainGlobals "law" = some (some (.ref f17))) (l17:K.lookup f17=some ⟨oc17,od17,.func (PySem.W.fnOf "law" "law" (cf js) (br js) (az js) .none kV17 dc17 pm17 an17 cd17 ct17),sl17⟩) (c17:PySem.W.codeIn K cd17 "law" = true) (k17:PySem.W.keepIn K (.ref f17)=true)
 (z0:PySem.W.nsIn K mainGlobals "ValueError" = some none)
 (z1:PySem.W.nsIn K mainGlobals "all" = some none)
 (z2:PySem.W.nsIn K mainGlobals "any" = some none)
 (z3:PySem.W.nsIn K mainGlobals "bool" = some none)
 (z4:PySem.W.nsIn K mainGlobals "int" = some none)
 (z5:PySem.W.nsIn K mainGlobals "isinstance" = some none)
 (z6:PySem.W.nsIn K mainGlobals "len" = some none)
 (z7:PySem.W.nsIn K mainGlobals "list" = some none)
 (z8:PySem.W.nsIn K mainGlobals "range" = some none)
 (z9:PySem.W.nsIn K mainGlobals "reversed" = some none)
 (z10:PySem.W.nsIn K mainGlobals "set" = some none)
 (z11:PySem.W.nsIn K mainGlobals "sorted" = some none)
 (z12:PySem.W.nsIn K mainGlobals "tuple" = some none) :
 ∃ fd:FuncData,(∀ (s:Shared) (v:Value),BindsTo s fd ⟨[v],[]⟩ [("_law_script",v)])/\∀ base:Heap,K.In base->base.Ns mainGlobals mg->(∃ C,OwnCls "NoHead" C [.type "ValueError",.type "Exception",.type "BaseException",.type "object"] "ValueError.__new__" mg base)->pZ P w K mg base CX0 6 fa fd ["_law_script"] (spD K 1 G7.fn_law):=by
 have e:=hfa.symm.trans (PySem.W.mg_of X Gm a17)
 cases e
 have Z:Zs mg:=⟨PySem.W.mg_none_of X Gm z0,PySem.W.mg_none_of X Gm z1,PySem.W.mg_none_of X Gm z2,PySem.W.mg_none_of X Gm z3,PySem.W.mg_none_of X Gm z4,PySem.W.mg_none_of X Gm z5,PySem.W.mg_none_of X Gm z6,PySem.W.mg_none_of X Gm z7,PySem.W.mg_none_of X Gm z8,PySem.W.mg_none_of X Gm z9,PySem.W.mg_none_of X Gm z10,PySem.W.mg_none_of X Gm z11,PySem.W.mg_none_of X Gm z12⟩
 have F0:=eL (st:=du) l0 c0 k0
 have F1:=eL (st:=bK) l1 c1 k1
 have F2:=eL (st:=cL) l2 c2 k2
 have F3:=eL (st:=eO) l3 c3 k3
 have F4:=eL (st:=cJ) l4 c4 k4
 have F5:=eL (st:=d9) l5 c5 k5
 have F6:=eL (st:=cK) l6 c6 k6
 have F7:=eL (st:=d7) l7 c7 k7
 have F8:=eL (st:=gu) l8 c8 k8
 have F9:=eL (st:=cM) l9 c9 k9
 have F10:=eL (st:=dA) l10 c10 k10
 have F11:=eL (st:=cY) l11 c11 k11
 have F12:=eL (st:=dt) l12 c12 k12
 have F13:=eL (st:=cN) l13 c13 k13
 have F14:=eL (st:=cz) l14 c14 k14
 have F15:=eL (st:=cO) l15 c15 k15
 have F16:=eL (st:=cS) l16 c16 k16
 have F17:=eL (st:=js) l17 c17 k17
 refine ⟨PySem.W.fnOf "law" "law" (cf js) (br js) (az js) .none kV17 dc17 pm17 an17 cd17 ct17,fun s v=>.of_eq rfl,fun base _ _ ⟨C,hO⟩=>?_⟩
 have eC:=hO.bound.symm.trans (PySem.W.mg_of X Gm n0)
 cases eC
 have C_is_whole:=o4 (P:=P) (w:=w) (base:=base) ⟨_,_,F0,PySem.W.mg_of X Gm a0⟩ Z
 have C_is_number_below:=iz (P:=P) (w:=w) (base:=base) ⟨_,_,F1,PySem.W.mg_of X Gm a1⟩ Z C_is_whole
 have C_is_rising:=ou (P:=P) (w:=w) (base:=base) ⟨_,_,F2,PySem.W.mg_of X Gm a2⟩ Z
 have C_uppers_of:=nU (P:=P) (w:=w) (base:=base) ⟨_,_,F3,PySem.W.mg_of X Gm a3⟩
 have C_lowers_of:=nc (P:=P) (w:=w) (base:=base) ⟨_,_,F4,PySem.W.mg_of X Gm a4⟩ Z C_uppers_of
 have C_head_of:=q0 (P:=P) (w:=w) (base:=base) ⟨_,_,F5,PySem.W.mg_of X Gm a5⟩ Z C_lowers_of
 have C_holds_all:=oE (P:=P) (w:=w) (base:=base) ⟨_,_,F6,PySem.W.mg_of X Gm a6⟩ Z
 have C_is_head:=rF (P:=P) (w:=w) (base:=base) ⟨_,_,F7,PySem.W.mg_of X Gm a7⟩ Z C_holds_all C_is_number_below C_is_rising C_lowers_of
 have L_tops:=yB (P:=P) (w:=w) (base:=base) ⟨_,_,F8,PySem.W.mg_of X Gm a8⟩ Z hO C_is_head C_uppers_of
 have C_tops:=yi (P:=P) (w:=w) (base:=base) ⟨_,_,F8,PySem.W.mg_of X Gm a8⟩ Z C_is_head C_uppers_of
 have C__law_cell:=oj (P:=P) (w:=w) (base:=base) ⟨_,_,F9,PySem.W.mg_of X Gm a9⟩ Z
 have C__law_mix:=pb (P:=P) (w:=w) (base:=base) ⟨_,_,F10,PySem.W.mg_of X Gm a10⟩ Z
 have C__law_perm:=nj (P:=P) (w:=w) (base:=base) ⟨_,_,F11,PySem.W.mg_of X Gm a11⟩ Z C__law_mix
 have C__law_all:=pK (P:=P) (w:=w) (base:=base) ⟨_,_,F12,PySem.W.mg_of X Gm a12⟩ Z
 have C__law_yard:=ni (P:=P) (w:=w) (base:=base) ⟨_,_,F13,PySem.W.mg_of X Gm a13⟩ Z C__law_all C__law_cell C__law_mix C__law_perm
 have C__law_heads:=lv (P:=P) (w:=w) (base:=base) ⟨_,_,F14,PySem.W.mg_of X Gm a14⟩ Z
 have C__law_tops:=oF (P:=P) (w:=w) (base:=base) ⟨_,_,F15,PySem.W.mg_of X Gm a15⟩ Z
 have C__law_no_head:=jJ (P:=P) (w:=w) (base:=base) ⟨_,_,F16,PySem.W.mg_of X Gm a16⟩ Z L_tops (PySem.W.mg_of X Gm n0) (PySem.W.mg_of X Gm n1) (PySem.W.mg_of X Gm n2) x0 ⟨y0,y6,y7,y1,y2,y3,y4,y5⟩ x1 x2 x3
 exact Bi F17 Z C__law_heads C__law_mix C__law_no_head C__law_tops C__law_yard C_head_of C_tops
theorem walk {l:PySem.W.OpenLaw} {q:Program} {loose:List Str} {XP:(Str->Option Value)->Heap->Prop} {YP:World->Heap->Prop} {d:DefRec} {K:Params->PySem.W.Frag} (hn:l.most=some 63) (hdf:d.params.defaults=[]) (hs:specOf q "NoHead" = some ("ValueError.__new__",[.type "ValueError",.type "Exception",.type "BaseException",.type "object"]))
 (hY:∀ (w:World) (h:Heap),YP w h->(K w.params).In h) (h0:∀ P:Params,tj (K P) []=true)
 (F:∀ (w:World) (mg:Str->Option Value) (fa:Addr) (h:Heap),(K w.params).In h->h.Ns mainGlobals mg->mg d.name=some (.ref fa) ->
   ∃ fd:FuncData,(∀ (s:Shared) (u:Value),BindsTo s fd ⟨[u],[]⟩ [("_law_script",u)])/\∀ base:Heap,(K w.params).In base->base.Ns mainGlobals mg->(∃ C,OwnCls "NoHead" C [.type "ValueError",.type "Exception",.type "BaseException",.type "object"] "ValueError.__new__" mg base)->pZ l.prog w (K w.params) mg base CX0 6 fa fd ["_law_script"] (spD (K w.params) 1 G7.fn_law)) :
 PySem.W.WalkO q loose XP YP l.row.toRowW d [] (fun f vs=>PySem.call f vs) :=
 Rx.walk_ofX (n:=63) (k:=6) (x:="_law_script") (fn:=G7.fn_law) (ts:=[]) hn (by decide) hdf ⟨rfl,rfl,by decide,by decide⟩ hs hY (fun _ _ _ _ z=>nomatch z) h0 (fun w mg fa h a b c=>let ⟨fd,hb,hF⟩:=F w mg fa h a b c;⟨fd,hb,fun base h1 h2 _ h3=>hF base h1 h2 h3⟩) G7.law_eq
end C
open PySem PySem.W PyProof.Rows
set_option maxRecDepth 100000 in
set_option maxHeartbeats 0 in
theorem PySem.Challenge.cw_rankyard_k07_whole_heads_and_tops_tell_o_holds : PySem.Challenge.rw_rankyard_k07_whole_heads_and_tops_tell_o.Holds := by
 w_on;o_law;k_head;(case hw=>w_witness2)
 k_fill
 refine C.walk (l:=PySem.Challenge.rw_rankyard_k07_whole_heads_and_tops_tell_o) rfl rfl (by kernel_rfl) (fun w h Y=>PySem.W.kIn_of Y) (fun P=>by kernel_rfl) ?F
 case F =>
  intro w mg fa h KX G hmg
  refine' C.all_mk KX G hmg ?n0 ?n1 ?n2 ?x0 ?x1 ?x2 ?x3 ?y0 ?y6 ?y7 ?y1 ?y2 ?y3 ?y4 ?y5 ?a0 ?l0 ?c0 ?k0 ?a1 ?l1 ?c1 ?k1 ?a2 ?l2 ?c2 ?k2 ?a3 ?l3 ?c3 ?k3 ?a4 ?l4 ?c4 ?k4 ?a5 ?l5 ?c5 ?k5 ?a6 ?l6 ?c6 ?k6 ?a7 ?l7 ?c7 ?k7 ?a8 ?l8 ?c8 ?k8 ?a9 ?l9 ?c9 ?k9 ?a10 ?l10 ?c10 ?k10 ?a11 ?l11 ?c11 ?k11 ?a12 ?l12 ?c12 ?k12 ?a13 ?l13 ?c13 ?k13 ?a14 ?l14 ?c14 ?k14 ?a15 ?l15 ?c15 ?k15 ?a16 ?l16 ?c16 ?k16 ?a17 ?l17 ?c17 ?k17 ?z0 ?z1 ?z2 ?z3 ?z4 ?z5 ?z6 ?z7 ?z8 ?z9 ?z10 ?z11 ?z12
  (case n0=>k_is)
  (case n1=>k_is)
  (case n2=>k_is)
  (case x0=>kernel_rfl)
  (case x1=>kernel_rfl)
  (case x2=>kernel_rfl)
  (case x3=>kernel_rfl)
  (case y0=>kernel_rfl)
  (case y6=>kernel_rfl)
  (case y7=>kernel_rfl)
  (case y1=>kernel_rfl)
  (case y2=>kernel_rfl)
  (case y3=>kernel_rfl)
  (case y4=>kernel_rfl)
  (case y5=>kernel_rfl)
  (case a0=>k_is)
  (case l0=>k_is)
  (case c0=>k_is)
  (case k0=>k_is)
  (case a1=>k_is)
  (case l1=>k_is)
  (case c1=>k_is)
  (case k1=>k_is)
  (case a2=>k_is)
  (case l2=>k_is)
  (case c2=>k_is)
  (case k2=>k_is)
  (case a3=>k_is)
  (case l3=>k_is)
  (case c3=>k_is)
  (case k3=>k_is)
  (case a4=>k_is)
  (case l4=>k_is)
  (case c4=>k_is)
  (case k4=>k_is)
  (case a5=>k_is)
  (case l5=>k_is)
  (case c5=>k_is)
  (case k5=>k_is)
  (case a6=>k_is)
  (case l6=>k_is)
  (case c6=>k_is)
  (case k6=>k_is)
  (case a7=>k_is)
  (case l7=>k_is)
  (case c7=>k_is)
  (case k7=>k_is)
  (case a8=>k_is)
  (case l8=>k_is)
  (case c8=>k_is)
  (case k8=>k_is)
  (case a9=>k_is)
  (case l9=>k_is)
  (case c9=>k_is)
  (case k9=>k_is)
  (case a10=>k_is)
  (case l10=>k_is)
  (case c10=>k_is)
  (case k10=>k_is)
  (case a11=>k_is)
  (case l11=>k_is)
  (case c11=>k_is)
  (case k11=>k_is)
  (case a12=>k_is)
  (case l12=>k_is)
  (case c12=>k_is)
  (case k12=>k_is)
  (case a13=>k_is)
  (case l13=>k_is)
  (case c13=>k_is)
  (case k13=>k_is)
  (case a14=>k_is)
  (case l14=>k_is)
  (case c14=>k_is)
  (case k14=>k_is)
  (case a15=>k_is)
  (case l15=>k_is)
  (case c15=>k_is)
  (case k15=>k_is)
  (case a16=>k_is)
  (case l16=>k_is)
  (case c16=>k_is)
  (case k16=>k_is)
  (case a17=>k_is)
  (case l17=>k_is)
  (case c17=>k_is)
  (case k17=>k_is)
  (case z0=>k_is)
  (case z1=>k_is)
  (case z2=>k_is)
  (case z3=>k_is)
  (case z4=>k_is)
  (case z5=>k_is)
  (case z6=>k_is)
  (case z7=>k_is)
  (case z8=>k_is)
  (case z9=>k_is)
  (case z10=>k_is)
  (case z11=>k_is)
  (case z12=>k_is)
