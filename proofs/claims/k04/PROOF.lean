import PyProof.Rows.All
import Wide.All
import OpenK.AllK
import Wide.FinOn
import Lean
import PyProof.EqAt
import PyProof.EqKinds
import PyProof.TupleCall
import PySem.Challenge.RW_rankyard_k04_whole_floors_and_the_talles
set_option maxHeartbeats 4000000
open PySem.Heap renaming get?_push_of_some->aa,get?_push_size->af,lt_size->au,get?_update_other->aI,get?_update_self->bb,size_push->bV,size_update->mE,get?_update_ne->xQ
open List renaming length_map->ab,getElem?_eq_getElem->ae,mem_cons->ag,mem_cons_of_mem->ai,mem_cons_self->ak,getElem?_eq_some_iff->al,mem_singleton->am,size_toArray->aq,getElem?_map->av,map_cons->ax,getD_eq_getElem?_getD->ay,getElem?_set_self->aA,length_cons->aD,getElem?_set_ne->aE,length_append->aF,mem_append->aG,mem_append_right->aN,map_map->aS,pairwise_append->aU,pairwise_singleton->aY,pairwise_cons->aZ,mem_of_getElem?->ba,nodup_cons->be,mem_map->bf,append_assoc->bg,getElem?_cons_zero->bh,range->bi,length_set->bq,getElem_of_mem->bv,length_singleton->bx,getElem?_cons_succ->bz,getElem?_append_right->bC,pairwise_iff_getElem->bE,getElem?_eq_none->bG,length_take->bI,nodup_append->bJ,length_range->bS,lookup_cons->bX,getElem?_append_left->cb,extract_eq_take_drop->cc,append_nil->ce,map_append->cf,length_reverse->cy,mem_filter->cJ,pairwise_map->cL,all_eq_true->cP,eq_nil_of_length_eq_zero->cQ,drop_of_length_le->dc,length_nil->dA,getElem_drop->dI,getElem_take->dJ,ext_getElem?->dL,length_eraseIdx_of_lt->dO,mem_append_left->dQ,range_eq_range'->dR,getElem_inj->d9,not_mem_nil->eh,map_congr_left->eB,find?_cons->eP,length->fw,take_append_drop->fH,length_drop->fM,any_eq_true->fN,map_take->fS,map_drop->fT,filterMap_cons->gc,map_nil->gs,drop_eq_getElem_cons->gv,reverse_cons->gZ,getElem?_replicate->hV,any_cons->hW,range'->hZ,map_reverse->ij,getElem_mem->ik,ext_getElem->il,range'_succ->im,take_of_length_le->ip,length_replicate->iO,getElem?_reverse->iP,concat_eq_append->iQ,length_filter_le->iR,nodup_nil->jF,getElem?_range->jK,zip_cons_cons->kh,lookup_append->kj,length_range'->km,take_add_one->lp,map->oA,of_mem_zip->oJ,mem_range->qU,length_eq_zero_iff->r0,pairwise_lt_range->vn,perm_append_comm->vy,getElem?_toArray->vC,set_set->vD,all_map->vE,filter_sublist->xS,mem_filterMap->zW,zip_nil_right->zX,take_sublist->Af,getElem?_set->Ah,nodup_range->B8,perm_middle->B9,drop_length->Cb,getElem_map->Cc,map_snd_zip->Cd,getElem_zip->Cf,append_inj'->Cg,nil_append->Cr,length_zip->Cs,replicate->Ds,take_zero->Dt,drop_take->Du,drop_zero->Dv,forIn_nil->Dw,nil_perm->DR,set_comm->DS
open Bool renaming false_ne_true->ah,and_eq_true->aP,false_eq_true->bN,not_eq_true'->cK,or_eq_true->eQ,eq_iff_iff->eR,not_eq_false'->ki,or_false->rZ,and_self->r6,true_and->r8,and_eq_false_iff->vz,noConfusion->Ce,false_or->DQ
open Nat renaming le_refl->aj,ne_of_lt->aH,lt_of_lt_of_le->aM,zero_le->aT,lt_irrefl->br,le_trans->bH,zero_add->bY,lt_succ_of_lt->cx,lt_succ_self->cY,le_of_lt->eJ,le_succ->fF,le_of_succ_le->fG,lt_or_eq_of_le->gw,le_of_eq->jf,add_sub_cancel->kH,ne_of_gt->mC,add_zero->mD,sub_self->mF,not_lt_zero->pR,le_antisymm->pS,mul_le_mul->rT,lt_of_le_of_lt->Ag,succ_le_succ->Cp,le_of_not_lt->Cq
open Array renaming length_toList->az,getElem?_eq_getElem->aJ,getElem?_toList->aR,perm_iff_toList_perm->bp,getElem?_eq_none->b0,toList_inj->ck,toArray_toList->dM,getD->fR,getD_eq_getD_getElem?->fY,getElem?_eq_some_iff->oK,forIn_toList->xR,toList_push->zY,toList->DP
open PySem.Obj renaming mapSeq->bj,data_mapFields->bF,mapFields->bK,isFreed_of_fields->bT,cls_mapFields->dN
open Int renaming toNat_natCast->bn,emod_lt_of_pos->kI,emod_nonneg->pT
set_option Elab.async false
set_option linter.all false
set_option maxRecDepth 100000
namespace L2
open PySem PySem.Spec PyProof.Rows
abbrev Key:=Sum Int Str
def mQ:Key->Value->Bool
 | .inl k,v=>Value.isInt k v
 | .inr x,v=>Value.isStrOf x v
def Ea (w:World):Key->Int
 | .inl k=>hashInt k
 | .inr x=>hashStr w x
theorem cn:∀ {k:Key} {v:Value},mQ k v=true->(∃ i t,k=Sum.inl i/\v=Value.int i t)\/(∃ x t,k=Sum.inr x/\v=Value.str x t)
 | .inl i,v,h=>by
   obtain ⟨t,e⟩:=Value.isInt_shape (k:=i) (v:=v) h
   exact .inl ⟨i,t,rfl,e⟩
 | .inr x,v,h=>by
   obtain ⟨t,e⟩:=Value.isStrOf_shape (x:=x) (v:=v) h
   exact .inr ⟨x,t,rfl,e⟩
theorem sv (i:Int) (t:Tok):mQ (.inl i) (.int i t)=true:=by simp [mQ,Value.isInt]
theorem uF (x:Str) (t:Tok):mQ (.inr x) (.str x t)=true:=by simp [mQ,Value.isStrOf]
theorem Au (a b:Int):decide ((Sum.inl a:Key)=Sum.inl b)=(a == b):=by
 by_cases e:a=b
 ·subst e;simp
 ·have h:¬ (Sum.inl a:Key)=Sum.inl b:=fun q=>e (Sum.inl.inj q)
  rw [decide_eq_false h]
  exact (beq_eq_false_iff_ne.mpr e).symm
theorem AF (a b:Str):decide ((Sum.inr a:Key)=Sum.inr b)=decide (a=b):=by
 by_cases e:a=b
 ·subst e;simp
 ·have h:¬ (Sum.inr a:Key)=Sum.inr b:=fun q=>e (Sum.inr.inj q)
  rw [decide_eq_false h,decide_eq_false e]
theorem Bn (a:Int) (b:Str):decide ((Sum.inl a:Key)=Sum.inr b)=false:=decide_eq_false (fun q=>nomatch q)
theorem AI (a:Str) (b:Int):decide ((Sum.inr a:Key)=Sum.inl b)=false:=decide_eq_false (fun q=>nomatch q)
def cz (prog:Program) (w:World):PySem.KeyKind prog w Key where
 is:=mQ
 hash:=Ea w
 inj:=fun v a b ha hb=>by
  rcases cn ha with ⟨i,t,rfl,rfl⟩ | ⟨x,t,rfl,rfl⟩
  ·rcases cn hb with ⟨j,u,rfl,e⟩ | ⟨y,u,rfl,e⟩
   ·injection e with e1 _;rw [e1]
   ·exact nomatch e
  ·rcases cn hb with ⟨j,u,rfl,e⟩ | ⟨y,u,rfl,e⟩
   ·exact nomatch e
   ·injection e with e1 _;rw [e1]
 byValue:=fun k v h=>by
  rcases cn h with ⟨i,t,rfl,rfl⟩ | ⟨x,t,rfl,rfl⟩<;>rfl
 pyHash:=fun hv h=>by
  rcases cn hv with ⟨i,t,rfl,rfl⟩ | ⟨x,t,rfl,rfl⟩
  ·exact wpAny_pyHash_int h
  ·exact wpAny_pyHash_str h
 eqBool:=fun hu hv h=>by
  rcases cn hu with ⟨i,t,rfl,rfl⟩ | ⟨x,t,rfl,rfl⟩
  ·rcases cn hv with ⟨j,u,rfl,rfl⟩ | ⟨y,u,rfl,rfl⟩
   ·rw [Au] at h;exact wpAny_eqBool_int h
   ·rw [Bn] at h;exact SeqAt.EqAt.int_str i t y u _ _ _ _ h
  ·rcases cn hv with ⟨j,u,rfl,rfl⟩ | ⟨y,u,rfl,rfl⟩
   ·rw [AI] at h;exact SeqAt.EqAt.str_int x t j u _ _ _ _ h
   ·rw [AF] at h;exact wpAny_eqBool_str h
 «strs»:=fun k x t v h=>by
  rcases cn h with ⟨i,u,rfl,e⟩ | ⟨y,u,rfl,e⟩
  ·exact nomatch e
  ·injection e with e1 _
   subst e1
   cases v<;>rfl
theorem oR (prog:Program) (w:World) (i:Int) (t:Tok):(cz prog w).is (.inl i) (.int i t)=true:=sv i t
theorem oZ (prog:Program) (w:World) (x:Str) (t:Tok):(cz prog w).is (.inr x) (.str x t)=true:=uF x t
end L2
namespace L2
open PySem PySem.Spec PyProof.Rows
inductive V where
 | non | bl (b:Bool) | int (i:Int) | str (x:Str) | byt (b:Array UInt8) | flt (b:UInt64) | ref (a:Addr) | ty (n:String)
 deriving DecidableEq
def dB:V->Value->Prop
 | .non,u=>u=Value.none
 | .bl b,u=>u=Value.bool b
 | .int i,u=>∃ t,u=Value.int i t
 | .str x,u=>∃ t,u=Value.str x t
 | .byt b,u=>∃ t,u=Value.bytes b t
 | .flt b,u=>∃ t,u=Value.float b t
 | .ref a,u=>u=Value.ref a
 | .ty n,u=>u=Value.type n
abbrev cq:List V->List Value->Prop:=Paired dB
theorem cq.length {xs:List V} {us:List Value} (r:cq xs us):xs.length=us.length:=Paired.length r
theorem cq.get:∀ {xs:List V} {us:List Value} {i:Nat} {x:V},cq xs us->xs[i]?=some x->∃ u,us[i]?=some u/\dB x u
 | _,_,_,_,.nil,e=>by simp at e
 | _,_,0,_,.cons r _,e=>by simp at e;subst e;exact ⟨_,rfl,r⟩
 | _,_,i+1,x,.cons _ t,e=>by
   obtain ⟨u,h1,h2⟩:=cq.get (i:=i) (x:=x) t (by simpa using e)
   exact ⟨u,by simpa using h1,h2⟩
theorem cq.append:∀ {xs ys:List V} {us ws:List Value},cq xs us->cq ys ws->cq (xs++ys) (us++ws)
 | _,_,_,_,.nil,s=>s
 | _,_,_,_,.cons r t,s=>.cons r (cq.append t s)
def rV:Option V->Option Value->Prop
 | some v,some u=>dB v u
 | none,none=>True
 | _,_=>False
def KV {κ:Type}:List (κ×V)->List (κ×Value)->Prop:=Paired fun (p:κ×V) (q:κ×Value)=>p.1=q.1/\dB p.2 q.2
def kV:Key->V
 | .inl i=>.int i
 | .inr x=>.str x
inductive HO where
 | lst (xs:List V)
 | tup (xs:List V)
 | dK (kvs:List (Key×V)) | dT (kvs:List (List Key×V))
 | set (S:Int->Bool) (n:Nat)
 | ins (C dx:Addr) (fs:List (Str×V))
 | own (x:Addr)
 | xd (fs:List (Str×V))
 | met (f x:Addr)
 | rng (lo hi:Int)
 | frz (o:Obj) (u:HO)
 | tbl (ps:Array Value)
 | tab (q:Str)
 | cod (q:Str)
 | ext (φ:Heap->Prop)
abbrev Hp:=Addr->Option HO
def upd (H:Hp) (a:Addr) (o:HO):Hp:=fun b=>if b=a then some o else H b
theorem aL {H:Hp} {a:Addr} {o:HO}:upd H a o a=some o:=by unfold upd;rw [if_pos rfl]
theorem aK {H:Hp} {a b:Addr} {o:HO} (h:b≠a):upd H a o b=H b:=by unfold upd;rw [if_neg h]
theorem CY {H:Hp} {a b:Addr} {o u:HO} (h:H a=some o) (h':H b=some u) (d:o≠u):a≠b:=by
 intro e;subst e;rw [h] at h';exact d (Option.some.inj h')
theorem bu {H:Hp} {a b:Addr} {o:HO} (h:H a=some o) (h':H b=none):a≠b:=by
 intro e;subst e;rw [h] at h';cases h'
def jj (h:Heap) (a:Addr):Prop:=∃ o,h.get? a=some o/\o.dict=none
theorem jj.new (h:Heap) (o:Obj) (e:o.dict=none:=by rfl) (f:o.isFreed=false:=by rfl):jj (h.push o) h.objs.size:=⟨o,af _ f,e⟩
def q0 (H:Hp) (q:Str):List Value->Prop
 | []=>True
 | .int _ _::.int _ _::.ref c::r=>H c=some (.cod q)/\q0 H q r
 | _=>False
section
variable (P:Program) (w:World)
def dZ (H:Hp) (h:Heap) (a:Addr):HO->Prop
 | .lst xs=>xs.length<=sizeLine/\∃ (its:List Value) (n:Nat),cq xs its/\h.get? a=some { cls:=.type "list",data:=.seq its.toArray n }
 | .tup xs=>(xs.length<=sizeLine/\jj h a)/\∃ its:List Value,cq xs its/\IsTup h a its.toArray
 | .dK kvs=>kvs.length<=sizeLine/\(a == sysModules)=false/\∃ vs,KV kvs vs/\h.DictOf (cz P w) a vs
 | .dT kvs=>kvs.length<=sizeLine/\(a == sysModules)=false/\∃ xs:List (List Key×Addr×Value),
    Paired (fun (p:List Key×V) (q:List Key×Addr×Value)=>p.1=q.1/\H q.2.1=some (.tup (p.1.map kV))/\dB p.2 q.2.2) kvs xs /\
    ∃ o es ep,h.get? a=some o/\o.ExactDict/\o.data=.dict es ep/\es.toList=xs.map (entryOfKey (tupleKind (cz P w)))/\(xs.map (·.1)).Nodup
 | .set S n=>h.SetOf (intKind P w) a S n
 | .ins C dx fs=>H dx=some (.own a)/\fs.length<=1000/\dx≠a/\h.get? a=some (PySem.W.instObj C dx) /\
    ∃ mA,h.Ns1 dx mA/\(∀ f,rV (fs.lookup f) (mA f))/\PySem.Within mA (fs.map (·.1))
 | .own _=>∃ o,h.get? a=some o
 | .xd fs=>∃ mA,h.Ns1 a mA/\∀ f,rV (fs.lookup f) (mA f)
 | .rng lo hi=>∃ t u v,h.get? a=some { cls:=.type "range",data:=.fields #[.int lo t,.int hi u,.int 1 v] }
 | .frz o u=>h.get? a=some o/\dZ H h a u
 | .tbl ps=>h.get? a=some { cls:=.none,data:=.fields ps }
 | .met f x=>h.get? a=some (PySem.W.methodObj (.ref f) (.ref x))
 | .tab q=>∃ ps:Array Value,h.get? a=some { cls:=.none,data:=.fields ps }/\q0 H q ps.toList
 | .cod q=>h.CodeRec (.ref a) q
 | .ext φ=>φ h/\(∃ o,h.get? a=some o)/\∀ h1 h2:Heap,φ h1->(∀ o,h1.get? a=some o->h2.get? a=some o)->φ h2
def HOk (H:Hp) (h:Heap):Prop:=∀ a o,H a=some o->dZ P w H h a o
end
section
variable {P:Program} {w:World} {H H':Hp} {h h':Heap} {a:Addr} {o:HO}
theorem dZ.lt (x:dZ P w H h a o):a<h.objs.size:=by
 cases o with
 | lst xs=>obtain ⟨_,_,_,_,e⟩:=x;exact au e
 | tup xs=>obtain ⟨_,_,_,p⟩:=x;exact p.lt
 | dK kvs=>obtain ⟨_,_,_,_,o,_,_,e,_⟩:=x;exact au e
 | dT kvs=>obtain ⟨_,_,_,_,o,_,_,e,_⟩:=x;exact au e
 | set S n=>obtain ⟨o,_,_,_,e,_⟩:=x;exact au e
 | ins C dx fs=>obtain ⟨_,_,_,e,_⟩:=x;exact au e
 | own y=>obtain ⟨_,e⟩:=x;exact au e
 | xd fs=>obtain ⟨_,⟨_,_,_,e,_⟩,_⟩:=x;exact au e
 | rng lo hi=>obtain ⟨_,_,_,e⟩:=x;exact au e
 | frz ob u=>obtain ⟨e,_⟩:=x;exact au e
 | tbl ps=>exact au (show h.get? a=some _ from x)
 | tab q=>obtain ⟨_,e,_⟩:=x;exact au e
 | cod q=>obtain ⟨c,_,_,_,e0,e,_⟩:=x;cases e0;exact au e
 | met f y=>exact au (show h.get? a=some _ from x)
 | ext φ=>obtain ⟨_,⟨_,e⟩,_⟩:=x;exact au e
theorem Paired.mapP {α β:Type} {F G:α->β->Prop}:∀ {l₁:List α} {l₂:List β},Paired F l₁ l₂->(∀ a b,F a b->G a b)->Paired G l₁ l₂
 | _,_,.nil,_=>.nil
 | _,_,.cons r t,f=>.cons (f _ _ r) (Paired.mapP t f)
theorem q0.stay {H H':Hp} {q:Str} (hc:∀ b q,H b=some (.cod q)->H' b=some (.cod q)):∀ {l:List Value},q0 H q l->q0 H' q l:=fun {l} t=>by
 fun_induction q0 H q l with
 | case1=>exact t
 | case2 _ _ _ _ c r ih=>exact ⟨hc _ _ t.1,ih t.2⟩
 | case3=>exact t.elim
theorem dZ.stay (x:dZ P w H h a o) (k:∀ b u,(b=a\/H b=some (.own a))->h.get? b=some u->h'.get? b=some u)
 (ho:∀ b,H b=some (.own a)->H' b=some (.own a)) (ht:∀ b xs,H b=some (.tup xs)->H' b=some (.tup xs)) (hcd:∀ b q,H b=some (.cod q)->H' b=some (.cod q)):dZ P w H' h' a o:=by
 induction o with
 | lst xs=>obtain ⟨z,its,n,r,e⟩:=x;exact ⟨z,its,n,r,k _ _ (.inl rfl) e⟩
 | tup xs=>obtain ⟨⟨z,o0,e0,d0⟩,its,r,ob,e,c⟩:=x;exact ⟨⟨z,o0,k _ _ (.inl rfl) e0,d0⟩,its,r,ob,k _ _ (.inl rfl) e,c⟩
 | dK kvs=>obtain ⟨z,y,vs,r,ob,es,ep,e,c⟩:=x;exact ⟨z,y,vs,r,ob,es,ep,k _ _ (.inl rfl) e,c⟩
 | dT kvs =>
   obtain ⟨z,y,xs,r,ob,es,ep,e,c⟩:=x
   exact ⟨z,y,xs,Paired.mapP r fun p q z=>⟨z.1,ht _ _ z.2.1,z.2.2⟩,ob,es,ep,k _ _ (.inl rfl) e,c⟩
 | set S n=>obtain ⟨ob,es,ep,t,e,c⟩:=x;exact ⟨ob,es,ep,t,k _ _ (.inl rfl) e,c⟩
 | ins C dx fs =>
   obtain ⟨d,z,ne,e,mA,⟨od,es,ep,e2,c⟩,r⟩:=x
   exact ⟨ho _ d,z,ne,k _ _ (.inl rfl) e,mA,⟨od,es,ep,k _ _ (.inr d) e2,c⟩,r⟩
 | own y=>obtain ⟨ob,e⟩:=x;exact ⟨ob,k _ _ (.inl rfl) e⟩
 | xd fs=>obtain ⟨mA,⟨od,es,ep,e,c⟩,r⟩:=x;exact ⟨mA,⟨od,es,ep,k _ _ (.inl rfl) e,c⟩,r⟩
 | rng lo hi=>obtain ⟨t,u,v,e⟩:=x;exact ⟨t,u,v,k _ _ (.inl rfl) e⟩
 | frz ob u ih=>obtain ⟨e,q⟩:=x;exact ⟨k _ _ (.inl rfl) e,ih q⟩
 | tbl ps =>
   have e:h.get? a=some { cls:=.none,data:=.fields ps }:=x
   show h'.get? a=some { cls:=.none,data:=.fields ps }
   exact k a _ (.inl rfl) e
 | tab q=>obtain ⟨ps,e,t⟩:=x;exact ⟨ps,k _ _ (.inl rfl) e,t.stay hcd⟩
 | cod q=>obtain ⟨c,o,vs,t,e0,e,r⟩:=x;cases e0;exact ⟨_,o,vs,t,rfl,k _ _ (.inl rfl) e,r⟩
 | met f y =>
   have e:h.get? a=some (PySem.W.methodObj (.ref f) (.ref y)):=x
   show h'.get? a=some (PySem.W.methodObj (.ref f) (.ref y))
   exact k a _ (.inl rfl) e
 | ext φ=>obtain ⟨p,⟨o,e⟩,st⟩:=x;exact ⟨st _ _ p fun o q=>k _ _ (.inl rfl) q,⟨o,k _ _ (.inl rfl) e⟩,st⟩
theorem HOk.lt (x:HOk P w H h) (e:H a=some o):a<h.objs.size:=(x a o e).lt
theorem HOk.fresh (x:HOk P w H h) (e:h.objs.size<=a):H a=none:=by
 cases q:H a with
 | none=>rfl
 | some u=>exact absurd (aM (x.lt q) e) (br _)
theorem HOk.kept (x:HOk P w H h) (k:∀ b u,h.get? b=some u->h'.get? b=some u):HOk P w H h':=fun a o e =>
 (x a o e).stay (fun b u _ q=>k b u q) (fun _ q=>q) (fun _ _ q=>q) fun _ _ q=>q
theorem HOk.laid (x:HOk P w H h) (k:∀ b u,h.get? b=some u->h'.get? b=some u) (hp:h.objs.size<=a) (new:dZ P w (upd H a o) h' a o):HOk P w (upd H a o) h':=fun b u e=>by
 have hn:=x.fresh hp
 by_cases hb:b=a
 ·subst hb;rw [aL] at e;cases e;exact new
 ·rw [aK hb] at e
  exact (x b u e).stay (fun c v _ q=>k c v q) (fun c q=>by rw [aK (bu q hn)];exact q) (fun c xs q=>by rw [aK (bu q hn)];exact q) fun c xs q=>by rw [aK (bu q hn)];exact q
end
def Rd (H:Hp) (a:Addr) (u:HO):Prop:=H a=some u\/∃ o,H a=some (.frz o u)
theorem Rd.ok {P:Program} {w:World} {H:Hp} {h:Heap} {a:Addr} {u:HO} (r:Rd H a u) (x:HOk P w H h):dZ P w H h a u:=by
 rcases r with r | ⟨o,r⟩
 ·exact x a u r
 ·obtain ⟨_,q⟩:=x a _ r
  exact q
def Mut:Option HO->Prop
 | some (.lst _)=>True
 | some (.dK _)=>True
 | some (.dT _)=>True
 | some (.set _ _)=>True
 | some (.ins _ _ _)=>True
 | some (.ext _)=>True
 | _=>False
section
variable {P:Program} {w:World} {H:Hp} {h h':Heap} {x e:Addr} {o':HO}
theorem HOk.write (ok:HOk P w H h) (mu:Mut (H x)) (he:e=x\/H e=some (.own x)) (k:∀ b u,b≠e->h.get? b=some u->h'.get? b=some u) (heo:∃ u,h'.get? e=some u)
 (new:dZ P w (upd H x o') h' x o'):HOk P w (upd H x o') h':=fun b u q=>by
 have nown:∀ c y,H c=some (.own y)->c≠x:=fun c y r z=>by subst z;rw [r] at mu;exact mu
 have ntup:∀ c xs,H c=some (.tup xs)->c≠x:=fun c xs r z=>by subst z;rw [r] at mu;exact mu
 by_cases hb:b=x
 ·subst hb;rw [aL] at q;cases q;exact new
 ·rw [aK hb] at q
  by_cases hbe:b=e
  ·have q':H b=some (.own x):=by
    rcases he with z | z
    ·exact absurd (hbe.trans z) hb
    ·rw [hbe];exact z
   rw [q] at q';cases q'
   obtain ⟨v,hv⟩:=heo
   exact ⟨v,by rw [hbe];exact hv⟩
  ·refine (ok b u q).stay (fun c v hc r=>k c v ?_ r) (fun c r=>by rw [aK (nown c b r)];exact r) (fun c xs r=>by rw [aK (ntup c xs r)];exact r) fun c q r=>by rw [aK (show c≠x from fun z=>by subst z;rw [r] at mu;exact mu)];exact r
   rcases hc with rfl | hc
   ·exact hbe
   ·rintro rfl
    rcases he with z | z
    ·exact nown c b hc z
    ·rw [hc] at z;cases z;exact hb rfl
end
structure Un (fs ex:List Addr) (H H':Hp) (h h':Heap):Prop where
 keep:∀ b o,h.get? b=some o->H b=none->b∉fs->b∉ex->h'.get? b=some o
 slot:∀ b o,h.get? b=some o->H b=none->b∈fs->b∉ex->∃ sl,h'.get? b=some { o with slots:=sl }
 free:∀ b o,h.get? b=some o->H b=none->b∉ex->H' b=none
 there:∀ b o,h.get? b=some o->b∉ex->∃ o',h'.get? b=some o'
 tups:∀ b xs,H b=some (.tup xs)->H' b=some (.tup xs)
 frzs:∀ b o u,H b=some (.frz o u)->H' b=some (.frz o u)
 tbls:∀ b ps,H b=some (.tbl ps)->∃ more,H' b=some (.tbl (ps++more))
section
variable {fs fs' ex ex':List Addr} {H H1 H2:Hp} {h h1 h2 h':Heap} {a x e:Addr} {o:HO}
theorem Un.any (u:Un fs ex H H1 h h1) {b:Addr} {ob:Obj} (q:h.get? b=some ob) (n:H b=none) (hx:b∉ex):∃ sl,h1.get? b=some { ob with slots:=sl }:=by
 by_cases hb:b∈fs
 ·exact u.slot b ob q n hb hx
 ·exact ⟨ob.slots,u.keep b ob q n hb hx⟩
theorem Un.kept (k:∀ b u,h.get? b=some u->h'.get? b=some u):Un fs ex H H h h' :=
 ⟨fun b ob q _ _ _=>k b ob q,fun b ob q _ _ _=>⟨ob.slots,k b ob q⟩,fun _ _ _ n _=>n,fun b ob q _=>⟨ob,k b ob q⟩,fun _ _ q=>q,fun _ _ _ q=>q,fun _ ps q=>⟨#[],by rw [q];simp⟩⟩
theorem Un.refl:Un fs ex H H h h:=Un.kept fun _ _ q=>q
theorem Un.laid (k:∀ b u,h.get? b=some u->h'.get? b=some u) (hp:h.objs.size<=a) (hn:H a=none):Un fs ex H (upd H a o) h h' where
 keep:=fun b u q _ _ _=>k b u q
 slot:=fun b u q _ _ _=>⟨u.slots,k b u q⟩
 free:=fun b u q n _=>by rw [aK (aH (aM (au q) hp))];exact n
 there:=fun b u q _=>⟨u,k b u q⟩
 tups:=fun b xs q=>by rw [aK (bu q hn)];exact q
 frzs:=fun b u xs q=>by rw [aK (bu q hn)];exact q
 tbls:=fun b ps q=>⟨#[],by rw [aK (bu q hn),q];simp⟩
theorem Un.write (mu:Mut (H x)) (he:e=x\/H e=some (.own x)) (k:∀ b u,b≠e->h.get? b=some u->h'.get? b=some u) (heo:∃ u,h'.get? e=some u):Un fs ex H (upd H x o) h h':=by
 have hx:∀ b,H b=none->b≠x:=fun b n z=>by subst z;rw [n] at mu;exact mu
 have hb:∀ b,H b=none->b≠e:=fun b n z=>by
  subst z
  rcases he with r | r
  ·exact hx b n r
  ·rw [n] at r;cases r
 have hm:∀ b u,H b=some u->¬ Mut (some u)->b≠x:=fun b u q nm z=>by subst z;rw [q] at mu;exact nm mu
 refine ⟨fun b u q n _ _=>k b u (hb b n) q,fun b u q n _ _=>⟨u.slots,k b u (hb b n) q⟩,fun b u q n _=>by rw [aK (hx b n)];exact n,fun b u q _=>?_,
  fun b xs q=>by rw [aK (hm b _ q fun z=>z)];exact q,fun b u xs q=>by rw [aK (hm b _ q fun z=>z)];exact q,fun b ps q=>⟨#[],by rw [aK (hm b _ q fun z=>z),q];simp⟩⟩
 by_cases hbe:b=e
 ·subst hbe;exact heo
 ·exact ⟨u,k b u hbe q⟩
end
def trk (h:Heap) (H:Hp):List Addr:=(bi h.objs.size).filter fun a=>(H a).isSome
def vt (h:Heap) (H:Hp):Heap:=PySem.W.hideAll h (trk h H)
theorem tK (h:Heap) (H:Hp):(vt h H).objs.size=h.objs.size:=PySem.W.hideAll_size _ _
theorem vS {h:Heap} {H:Hp} {b:Addr} {o:Obj} (e:h.get? b=some o) (n:H b=none):(vt h H).get? b=some o :=
 PySem.W.hideAll_get _ e fun hm=>by
  have q:(H b).isSome=true:=(cJ.mp hm).2
  rw [n] at q;simp at q
theorem yw {h:Heap} {H:Hp} {b:Addr} {o:Obj} (e:(vt h H).get? b=some o):h.get? b=some o/\H b=none:=by
 have e':h.get? b=some o:=PySem.W.of_hideAll (trk h H) e
 refine ⟨e',?_⟩
 cases q:H b with
 | none=>rfl
 | some x =>
   have hm:b∈trk h H:=cJ.mpr ⟨qU.mpr (au e'),by simp [q]⟩
   have z:(vt h H).get? b=none:=PySem.W.hideAll_none (trk h H) hm
   rw [z] at e;cases e
end L2
namespace L2
open PySem PySem.Spec PyProof.Rows
structure Mod (K:PySem.W.Frag) (mg:Str->Option Value) (base:Heap):Prop where
 kin:K.In base
 glob:base.Ns mainGlobals mg
 blt:∃ mb,base.Ns builtinsNs mb/\∀ x:Str,x≠"__name__"->mb x=bootBuiltins x
 nolimit:base.NoLimit
structure Cx where
 prog:Program
 w:World
 K:PySem.W.Frag
 mg:Str->Option Value
 base:Heap
 A:Around
 N:List Str
 s₀:Shared
 H₀:Hp
 env:Env
 outer:List Env
 stack:List Env
 ex:List Addr
 fn:Str->Bool
 calm:Bool
 pn:List (Addr×Obj)
 xe:Value->Shared->Prop
def frs (l:List Env):List Addr:=l.filterMap (·.frame)
abbrev Cx.fs (X:Cx):List Addr:=frs X.outer
def Vis (sc:Scope) (x:Str):Prop:=sc.names.lookup x=some .local\/sc.names.lookup x=some .cell\/sc.names.lookup x=some .free
def Loc (sc:Scope) (x:Str):Prop:=sc.names.lookup x=some .local\/sc.names.lookup x=some .cell
def DX (env:Env) (h:Heap) (m:Str->Option Value) (x:Str) (u:Value):Prop :=
 (env.kindOf x=some .local/\m x=some u)\/((env.kindOf x=some .cell\/env.kindOf x=some .free)/\∃ c,env.cells.lookup x=some c/\h.IsCell c (some u))
structure Cx.Ok (X:Cx):Prop where
 mod:Mod X.K X.mg X.base
 kind:X.env.scope.kind=.function
 glob:X.env.globals=mainGlobals
 blt:X.env.builtins=builtinsNs
 above:X.s₀.heap.objs.size<=X.env.locals
 inj:∀ x y c,X.env.cells.lookup x=some c->X.env.cells.lookup y=some c->x=y
 has:∀ x,(X.env.kindOf x=some .cell\/X.env.kindOf x=some .free)->∃ c,X.env.cells.lookup x=some c
 cab:∀ x c,X.fn x=true->X.env.cells.lookup x=some c->X.s₀.heap.objs.size<=c
 hd:X.calm=true->X.A.handled=none
 frames:X.A.frames=some X.stack
 stk:X.stack=X.outer\/(X.stack=X.env::X.outer/\X.env.frame=some X.env.locals)
 exf:∀ b∈X.ex,b≠X.env.locals/\∀ x c,X.env.cells.lookup x=some c->c≠b
 bs:∀ b o,X.base.get? b=some o->X.s₀.heap.get? b=some o/\X.H₀ b=none
 bsz:X.base.objs.size<=X.s₀.heap.objs.size
 noex:∀ b o,X.base.get? b=some o->b∉X.ex
 exfs:∀ b∈X.ex,b∉X.fs
 funs:X.s₀.heap.FunFrames X.base X.outer
 frf:∀ b∈X.fs,X.H₀ b=none
structure Inv (X:Cx) (pins:List (Addr×Obj)) (σ:List (Option V)) (H:Hp) (s:Shared):Prop where
 ok:X.Ok
 os:s.os=X.s₀.os
 bare:AllBare s.gens
 base:Un X.fs X.ex X.H₀ H X.s₀.heap s.heap
 loc:∃ m,s.heap.Ns X.env.locals m/\∀ (i:Nat) (x:Str) (v:V),X.N[i]?=some x->σ[i]?=some (some v)->Vis X.env.scope x->∃ u,dB v u/\DX X.env s.heap m x u
 cell:∀ x c,X.env.cells.lookup x=some c->∃ v,s.heap.IsCell c v
 free:H X.env.locals=none
 freeC:∀ x c,X.env.cells.lookup x=some c->H c=none
 pin:∀ p∈X.pn++pins,s.heap.get? p.1=some p.2/\H p.1=none/\p.1≠X.env.locals/\p.1∉X.fs/\∀ v,p.2.data≠.cell v
 hok:HOk X.prog X.w H s.heap
 len:σ.length=X.N.length
section
variable {X:Cx} {pins:List (Addr×Obj)} {σ:List (Option V)} {H H':Hp} {s:Shared} {h':Heap}
theorem Cx.Ok.nofr (ok:X.Ok) {b:Addr} {o:Obj} (e:X.base.get? b=some o):b∉X.fs:=fun hb=>by
 have:=(ok.funs.mem hb).1
 rw [e] at this;cases this
theorem Inv.bs (I:Inv X pins σ H s):∀ b o,X.base.get? b=some o->s.heap.get? b=some o/\H b=none:=fun b o e =>
 ⟨I.base.keep b o (I.ok.bs b o e).1 (I.ok.bs b o e).2 (I.ok.nofr e) (I.ok.noex b o e),I.base.free b o (I.ok.bs b o e).1 (I.ok.bs b o e).2 (I.ok.noex b o e)⟩
theorem Inv.bk (I:Inv X pins σ H s):∀ b o,X.base.get? b=some o->s.heap.get? b=some o:=fun b o e=>(I.bs b o e).1
theorem Inv.mod (I:Inv X pins σ H s):Mod X.K X.mg X.base:=I.ok.mod
theorem Inv.kIn (I:Inv X pins σ H s):X.K.In s.heap:=I.ok.mod.kin.keeps I.bk
theorem Inv.nolimit (I:Inv X pins σ H s):s.heap.NoLimit:=I.ok.mod.nolimit.keeps I.bk
theorem Inv.lt (I:Inv X pins σ H s):X.env.locals<s.heap.objs.size:=let ⟨_,hn,_⟩:=I.loc;hn.lt
theorem Inv.sz (I:Inv X pins σ H s):X.s₀.heap.objs.size<=s.heap.objs.size:=bH I.ok.above (eJ I.lt)
theorem Inv.nofs (I:Inv X pins σ H s) {a:Addr} (h:s.heap.objs.size<=a):a∉X.fs:=fun hb=>by
 obtain ⟨_,o,ho,_⟩:=I.ok.funs.mem hb
 exact absurd (aM (au ho) (bH I.sz h)) (br _)
theorem Inv.cne (I:Inv X pins σ H s):∀ x c,X.env.cells.lookup x=some c->c≠X.env.locals:=fun x c e z=>by
 obtain ⟨v,o,ho,hd⟩:=I.cell x c e
 obtain ⟨m,⟨o',es,ep,ho',hd',_⟩,_⟩:=I.loc
 rw [z,ho'] at ho;cases ho;rw [hd'] at hd;cases hd
theorem Inv.funs (I:Inv X pins σ H s):s.heap.FunFrames X.base X.outer:=by
 have all:∀ (l:List Env),(∀ b∈frs l,b∈X.fs)->X.s₀.heap.FunFrames X.base l->s.heap.FunFrames X.base l:=by
  intro l
  induction l with
  | nil=>intro _ _;trivial
  | cons env r ih =>
    intro hs hl
    obtain ⟨hk,⟨L,o,hf,hn,ho,hd⟩,hr⟩:=hl
    have hL:L∈X.fs:=hs L (by unfold frs;rw [gc,hf];exact ak)
    obtain ⟨sl,e⟩:=I.base.slot L o ho (I.ok.frf L hL) hL fun z=>I.ok.exfs L z hL
    exact ⟨hk,⟨L,_,hf,hn,e,hd⟩,ih (fun b hb=>hs b (by unfold frs;rw [gc,hf];exact ai _ hb)) hr⟩
 exact all X.outer (fun _ hb=>hb) I.ok.funs
theorem Inv.stack (I:Inv X pins σ H s):s.heap.FunFrames X.base X.stack:=by
 rcases I.ok.stk with e | ⟨e,hf⟩
 ·rw [e];exact I.funs
 ·rw [e]
  obtain ⟨m,hn,_⟩:=I.loc
  refine .cons (by rw [I.ok.kind];decide) hf hn ?_ I.funs
  exact Heap.get?_none_of_le (bH I.ok.bsz I.ok.above)
theorem Inv.stkSub (I:Inv X pins σ H s):∀ b∈frs X.stack,b∈X.env.locals::X.fs:=fun b hb=>by
 rcases I.ok.stk with e | ⟨e,hf⟩
 ·rw [e] at hb;exact ai _ hb
 ·rw [e] at hb
  unfold frs at hb
  rw [gc,hf] at hb
  exact hb
theorem Inv.stkFree (I:Inv X pins σ H s):∀ b∈frs X.stack,H b=none:=fun b hb=>by
 rcases ag.mp (I.stkSub b hb) with e | hb
 ·rw [e];exact I.free
 ·obtain ⟨_,o,ho,_⟩:=I.ok.funs.mem hb
  exact I.base.free b o ho (I.ok.frf b hb) fun z=>I.ok.exfs b z hb
theorem Inv.step {g':Array GenState} {t':Nat} {d':Drawn} {ch:List Addr} (I:Inv X pins σ H s)
 (hch:∀ b∈ch,(b∈X.ex\/X.s₀.heap.objs.size<=b)/\b≠X.env.locals/\(∀ x c,X.env.cells.lookup x=some c->c≠b)/\∀ p∈X.pn++pins,p.1≠b)
 (keep:∀ b o,b≠X.env.locals->b∉X.fs->b∉ch->s.heap.get? b=some o->H b=none->h'.get? b=some o)
 (slot:∀ b o,b≠X.env.locals->b∈X.fs->b∉ch->s.heap.get? b=some o->H b=none->∃ sl,h'.get? b=some { o with slots:=sl }) (free:∀ b o,b∉ch->s.heap.get? b=some o->H b=none->H' b=none)
 (there:∀ b o,b∉ch->s.heap.get? b=some o->∃ o',h'.get? b=some o')
 (tups:∀ b xs,H b=some (.tup xs)->H' b=some (.tup xs)) (frzs:∀ b o u,H b=some (.frz o u)->H' b=some (.frz o u)) (tbls:∀ b ps,H b=some (.tbl ps)->∃ more,H' b=some (.tbl (ps++more)))
 (ns:∀ m,s.heap.Ns X.env.locals m->h'.Ns X.env.locals m) (hok:HOk X.prog X.w H' h') (hg:AllBare g') :
 Inv X pins σ H' { s with heap:=h',gens:=g',drawn:=d',toks:=t' }:=by
 have neL:∀ b o,X.s₀.heap.get? b=some o->b≠X.env.locals:=fun b o e=>aH (aM (au e) I.ok.above)
 have neC:∀ b o,X.s₀.heap.get? b=some o->b∉X.ex->b∉ch:=fun b o e hx hb=>by
  rcases (hch b hb).1 with z | z
  ·exact hx z
  ·exact absurd (aM (au e) z) (br _)
 have cellK:∀ x c,X.env.cells.lookup x=some c->∀ v,s.heap.IsCell c v->h'.IsCell c v:=fun x c e v ⟨o,ho,hd⟩=>by
  have nch:c∉ch:=fun z=>(hch c z).2.2.1 x c e rfl
  by_cases hc:c∈X.fs
  ·obtain ⟨sl,q⟩:=slot c o (I.cne x c e) hc nch ho (I.freeC x c e)
   exact ⟨_,q,hd⟩
  ·exact ⟨o,keep c o (I.cne x c e) hc nch ho (I.freeC x c e),hd⟩
 refine ⟨I.ok,I.os,hg,⟨fun b o e n hb hx=>?_,fun b o e n hb hx=>?_,fun b o e n hx=>?_,fun b o e hx=>?_,fun b xs e=>tups b xs (I.base.tups b xs e),fun b o xs e=>frzs b o xs (I.base.frzs b o xs e),fun b ps e=>?_⟩,?_,fun x c e=>?_,?_,fun x c e=>?_,fun p hp=>?_,hok,I.len⟩
 ·exact keep b o (neL b o e) hb (neC b o e hx) (I.base.keep b o e n hb hx) (I.base.free b o e n hx)
 ·obtain ⟨sl,e1⟩:=I.base.slot b o e n hb hx
  obtain ⟨sl',e2⟩:=slot b _ (neL b o e) hb (neC b o e hx) e1 (I.base.free b o e n hx)
  exact ⟨sl',e2⟩
 ·obtain ⟨o',e1⟩:=I.base.there b o e hx
  exact free b o' (neC b o e hx) e1 (I.base.free b o e n hx)
 ·obtain ⟨o',e1⟩:=I.base.there b o e hx
  exact there b o' (neC b o e hx) e1
 ·obtain ⟨m1,e1⟩:=I.base.tbls b ps e
  obtain ⟨m2,e2⟩:=tbls b _ e1
  exact ⟨m1++m2,by rw [e2,Array.append_assoc]⟩
 ·obtain ⟨m,hn,hl⟩:=I.loc
  refine ⟨m,ns m hn,fun i x v e1 e2 e3=>?_⟩
  obtain ⟨u,r,l⟩:=hl i x v e1 e2 e3
  refine ⟨u,r,?_⟩
  rcases l with l | ⟨k,c,e,z⟩
  ·exact .inl l
  ·exact .inr ⟨k,c,e,cellK x c e _ z⟩
 ·obtain ⟨v,z⟩:=I.cell x c e
  exact ⟨v,cellK x c e v z⟩
 ·obtain ⟨m,⟨o,_,_,ho,_⟩,_⟩:=I.loc
  exact free _ o (fun z=>(hch _ z).2.1 rfl) ho I.free
 ·obtain ⟨v,o,ho,hd⟩:=I.cell x c e
  exact free c o (fun z=>(hch c z).2.2.1 x c e rfl) ho (I.freeC x c e)
 ·obtain ⟨e,n,ne,nf,d⟩:=I.pin p hp
  have nch:p.1∉ch:=fun z=>(hch p.1 z).2.2.2 p hp rfl
  exact ⟨keep p.1 p.2 ne nf nch e n,free p.1 p.2 nch e n,ne,nf,d⟩
theorem Inv.un {t':Nat} (I:Inv X pins σ H s) (u:Un X.fs [] H H' s.heap h') (hok:HOk X.prog X.w H' h'):Inv X pins σ H' { s with heap:=h',toks:=t' }:=by
 obtain ⟨m,⟨o,es,ep,ho,r⟩,_⟩:=id I.loc
 obtain ⟨sl,hL⟩:=u.any ho I.free (by simp)
 exact I.step (g':=s.gens) (d':=s.drawn) (ch:=[]) (fun _ z=>nomatch z) (fun b o _ hb _ e n=>u.keep b o e n hb (by simp)) (fun b o _ hb _ e n=>u.slot b o e n hb (by simp)) (fun b o _ e n=>u.free b o e n (by simp)) (fun b o _ e=>u.there b o e (by simp)) u.tups u.frzs u.tbls (fun m' hm=>by
  obtain ⟨o',es',ep',ho',r'⟩:=hm
  rw [ho] at ho';cases ho'
  exact ⟨_,es',ep',hL,r'⟩) hok I.bare
theorem Inv.call {g':Array GenState} {t':Nat} {d':Drawn} {ch:List Addr} (I:Inv X pins σ H s) (u:Un (frs X.stack) ch H H' s.heap h') (hok:HOk X.prog X.w H' h') (hg:AllBare g')
 (hch:∀ b∈ch,(b∈X.ex\/X.s₀.heap.objs.size<=b)/\b≠X.env.locals/\(∀ x c,X.env.cells.lookup x=some c->c≠b)/\∀ p∈X.pn++pins,p.1≠b) :
 Inv X pins σ H' { s with heap:=h',gens:=g',drawn:=d',toks:=t' }:=by
 obtain ⟨m,⟨o,es,ep,ho,r⟩,_⟩:=id I.loc
 obtain ⟨sl,hL⟩:=u.any ho I.free fun z=>(hch _ z).2.1 rfl
 exact I.step (ch:=ch) hch (fun b o hL hb hc e n=>u.keep b o e n (fun z=>(ag.mp (I.stkSub b z)).elim hL hb) hc) (fun b o _ _ hc e n=>u.any e n hc) (fun b o hc e n=>u.free b o e n hc) (fun b o hc e=>u.there b o e hc) u.tups u.frzs u.tbls (fun m' hm=>by
  obtain ⟨o',es',ep',ho',r'⟩:=hm
  rw [ho] at ho';cases ho'
  exact ⟨_,es',ep',hL,r'⟩) hok hg
theorem Inv.turned {t':Nat} {it:Addr} (I:Inv X pins σ H s) (k:∀ b o,b≠it->s.heap.get? b=some o->h'.get? b=some o) (hn:H it=none) (hL:it≠X.env.locals)
 (h1:it∈X.ex\/X.s₀.heap.objs.size<=it) (h2:∀ x c,X.env.cells.lookup x=some c->c≠it) (h3:∀ p∈X.pn++pins,p.1≠it):Inv X pins σ H { s with heap:=h',toks:=t' }:=by
 have nit:∀ b u,H b=some u->b≠it:=fun b u e z=>by rw [z,hn] at e;cases e
 refine I.step (g':=s.gens) (d':=s.drawn) (ch:=[it]) (fun b hb=>?_) (fun b o _ _ hc e _=>k b o (fun z=>hc (by simp [z])) e) (fun b o _ _ hc e _=>⟨o.slots,k b o (fun z=>hc (by simp [z])) e⟩) (fun _ _ _ _ n=>n)
  (fun b o hc e=>⟨o,k b o (fun z=>hc (by simp [z])) e⟩) (fun _ _ e=>e) (fun _ _ _ e=>e) (fun b ps e=>⟨#[],by rw [e];simp⟩) (fun m hm=>?_) (fun b u e=>?_) I.bare
 ·have e:b=it:=by simpa using hb
  subst e
  exact ⟨h1,hL,h2,h3⟩
 ·obtain ⟨o,es,ep,ho,r⟩:=hm
  exact ⟨o,es,ep,k _ o (Ne.symm hL) ho,r⟩
 ·refine (I.hok b u e).stay (fun c v hc q=>k c v ?_ q) (fun _ q=>q) (fun _ _ q=>q) fun _ _ q=>q
  rcases hc with z | z
  ·rw [z];exact nit b u e
  ·exact nit c _ z
theorem Inv.tok (I:Inv X pins σ H s) (t:Nat):Inv X pins σ H { s with toks:=t }:=I.un (h':=s.heap) (t':=t) Un.refl I.hok
theorem Inv.kept {t':Nat} (I:Inv X pins σ H s) (k:∀ b u,s.heap.get? b=some u->h'.get? b=some u):Inv X pins σ H { s with heap:=h',toks:=t' }:=I.un (Un.kept k) (I.hok.kept k)
theorem Inv.laid {a:Addr} {o:HO} {t':Nat} (I:Inv X pins σ H s) (k:∀ b u,s.heap.get? b=some u->h'.get? b=some u) (hp:s.heap.objs.size<=a) (new:dZ X.prog X.w (upd H a o) h' a o) :
 Inv X pins σ (upd H a o) { s with heap:=h',toks:=t' }:=I.un (Un.laid k hp (I.hok.fresh hp)) (I.hok.laid k hp new)
theorem Inv.write {x e:Addr} {o:HO} {t':Nat} (I:Inv X pins σ H s) (mu:Mut (H x)) (he:e=x\/H e=some (.own x)) (k:∀ b u,b≠e->s.heap.get? b=some u->h'.get? b=some u) (heo:∃ u,h'.get? e=some u)
 (new:dZ X.prog X.w (upd H x o) h' x o):Inv X pins σ (upd H x o) { s with heap:=h',toks:=t' }:=I.un (Un.write mu he k heo) (I.hok.write mu he k heo new)
theorem Inv.pins_of {pins':List (Addr×Obj)} (I:Inv X pins σ H s) (h:∀ p∈pins',s.heap.get? p.1=some p.2/\H p.1=none/\p.1≠X.env.locals/\p.1∉X.fs/\∀ v,p.2.data≠.cell v):Inv X pins' σ H s :=
 ⟨I.ok,I.os,I.bare,I.base,I.loc,I.cell,I.free,I.freeC,fun p hp=>(aG.mp hp).elim (fun z=>I.pin p (dQ _ z)) (h p),I.hok,I.len⟩
theorem lJ {N:List Str} (hN:N.Nodup) {i j:Nat} {x:Str} (a:N[i]?=some x) (b:N[j]?=some x):i=j:=by
 obtain ⟨h1,e1⟩:=al.mp a
 obtain ⟨h2,e2⟩:=al.mp b
 exact (d9 hN).mp (e1.trans e2.symm)
theorem nQ {M:Model} {A:Around} {E:Value->Shared->Prop} {i:Nat} {x:Str} {v:V} {u:Value} {Q:Unit->Shared->Prop} (I:Inv X pins σ H s) (hN:X.N.Nodup) (hi:X.N[i]?=some x) (hx:Loc X.env.scope x) (r:dB v u)
 (h:∀ s',Inv X pins (σ.set i (some v)) H s'->(∃ a,Heap.SameBut a s.heap s'.heap/\(a=X.env.locals\/X.env.cells.lookup x=some a))->Q () s') (hf:X.fn x=true\/X.env.scope.names.lookup x=some .local:=by first | exact .inl rfl | exact .inr rfl | assumption):wpAny M A (storeName X.env x u) Q E s:=by
 obtain ⟨m,hn,hl⟩:=id I.loc
 have hcls:(X.env.scope.kind == .class||(X.env.scope.kind == .module&&X.env.locals != X.env.globals))=false:=by rw [I.ok.kind];rfl
 have hiσ:i<σ.length:=by rw [I.len];exact (al.mp hi).1
 have cne:=I.cne
 have tracked:∀ {a:Addr} {h':Heap},(∃ o,s.heap.get? a=some o/\H a=none)->Heap.SameBut a s.heap h'->HOk X.prog X.w H h':=fun {a h'} ha hs b ob e=>by
  obtain ⟨_,_,hfree⟩:=ha
  refine (I.hok b ob e).stay (fun c w' hc q=>(hs.2 c ?_).trans q) (fun _ q=>q) (fun _ _ q=>q) fun _ _ q=>q
  rintro rfl
  rcases hc with rfl | hc
  ·rw [hfree] at e;cases e
  ·rw [hfree] at hc;cases hc
 rcases hx with hk | hk
 ·refine wpAny_storeName_local hk hn (fun h' hn' hs=>?_) hcls
  obtain ⟨oL,_,_,hoL,_⟩:=id hn
  refine h _ ⟨I.ok,I.os,I.bare,⟨fun b o e n hb hx=>?_,fun b o e n hb hx=>?_,I.base.free,fun b o e hx=>?_,I.base.tups,I.base.frzs,I.base.tbls⟩,⟨_,hn',fun j y v' e1 e2 e3=>?_⟩,fun y c e=>?_,I.free,I.freeC,fun p hp=>?_,tracked ⟨oL,hoL,I.free⟩ hs,by simpa using I.len⟩ ⟨_,hs,.inl rfl⟩
  ·exact (hs.2 b (aH (aM (au e) I.ok.above))).trans (I.base.keep b o e n hb hx)
  ·obtain ⟨sl,e1⟩:=I.base.slot b o e n hb hx
   exact ⟨sl,(hs.2 b (aH (aM (au e) I.ok.above))).trans e1⟩
  ·obtain ⟨o',e1⟩:=I.base.there b o e hx
   exact ⟨o',(hs.2 b (aH (aM (au e) I.ok.above))).trans e1⟩
  ·by_cases hj:j=i
   ·subst hj
    rw [hi] at e1;cases e1
    rw [aA hiσ] at e2
    cases e2
    exact ⟨u,r,.inl ⟨hk,by simp⟩⟩
   ·rw [aE (Ne.symm hj)] at e2
    obtain ⟨u',r',q⟩:=hl j y v' e1 e2 e3
    refine ⟨u',r',?_⟩
    rcases q with ⟨k,e⟩ | ⟨k,c,e,z⟩
    ·refine .inl ⟨k,?_⟩
     have:y≠x:=fun e=>hj (lJ hN e1 (e▸hi))
     simp [this,e]
    ·exact .inr ⟨k,c,e,z.sameBut hs (cne y c e)⟩
  ·obtain ⟨w',z⟩:=I.cell y c e
   exact ⟨w',z.sameBut hs (cne y c e)⟩
  ·obtain ⟨e,n,ne,nf,d⟩:=I.pin p hp
   exact ⟨(hs.2 p.1 ne).trans e,n,ne,nf,d⟩
 ·have hfn:X.fn x=true:=by
   rcases hf with z | z
   ·exact z
   ·rw [z] at hk;cases hk
  obtain ⟨c,hc⟩:=I.ok.has x (.inl hk)
  obtain ⟨w',z⟩:=I.cell x c hc
  refine wpAny_storeName_cell I.ok.kind hk hc z (fun h' hc' hs=>?_)
  obtain ⟨oc,hoc,hocd⟩:=id z
  refine h { s with heap:=h' } ⟨I.ok,I.os,I.bare,⟨fun b o e n hb hx=>?_,fun b o e n hb hx=>?_,I.base.free,fun b o e hx=>?_,I.base.tups,I.base.frzs,I.base.tbls⟩,⟨m,hn.sameBut hs (Ne.symm (cne x c hc)),fun j y v' e1 e2 e3=>?_⟩,fun y c' e=>?_,I.free,I.freeC,fun p hp=>?_,tracked ⟨oc,hoc,I.freeC x c hc⟩ hs,by simpa using I.len⟩ ⟨c,hs,.inr hc⟩
  ·exact (hs.2 b (aH (aM (au e) (I.ok.cab x c hfn hc)))).trans (I.base.keep b o e n hb hx)
  ·obtain ⟨sl,e1⟩:=I.base.slot b o e n hb hx
   exact ⟨sl,(hs.2 b (aH (aM (au e) (I.ok.cab x c hfn hc)))).trans e1⟩
  ·obtain ⟨o',e1⟩:=I.base.there b o e hx
   exact ⟨o',(hs.2 b (aH (aM (au e) (I.ok.cab x c hfn hc)))).trans e1⟩
  ·by_cases hj:j=i
   ·subst hj
    rw [hi] at e1;cases e1
    rw [aA hiσ] at e2
    cases e2
    exact ⟨u,r,.inr ⟨.inl hk,c,hc,hc'⟩⟩
   ·rw [aE (Ne.symm hj)] at e2
    obtain ⟨u',r',q⟩:=hl j y v' e1 e2 e3
    refine ⟨u',r',?_⟩
    rcases q with q | ⟨k,c',e,z'⟩
    ·exact .inl q
    ·refine .inr ⟨k,c',e,z'.sameBut hs ?_⟩
     rintro rfl
     exact hj (lJ hN e1 (I.ok.inj _ _ _ e hc▸hi))
  ·by_cases hcc:c'=c
   ·subst hcc;exact ⟨_,hc'⟩
   ·obtain ⟨w2,z2⟩:=I.cell y c' e
    exact ⟨w2,z2.sameBut hs hcc⟩
  ·obtain ⟨e,n,ne,nf,d⟩:=I.pin p hp
   refine ⟨(hs.2 p.1 ?_).trans e,n,ne,nf,d⟩
   intro q
   rw [q,hoc] at e
   have q':oc=p.2:=Option.some.inj e
   exact d w' (by rw [<- q'];exact hocd)
theorem qj {M:Model} {A:Around} {E:Value->Shared->Prop} {i:Nat} {x:Str} {v:V} {u:Value} {Q:Unit->Shared->Prop} (I:Inv X pins σ H s) (hN:X.N.Nodup) (hi:X.N[i]?=some x) (hx:Loc X.env.scope x) (r:dB v u)
 (h:∀ s',Inv X pins (σ.set i (some v)) H s'->Q () s') (hf:X.fn x=true\/X.env.scope.names.lookup x=some .local:=by first | exact .inl rfl | exact .inr rfl | assumption):wpAny M A (storeName X.env x u) Q E s :=
 nQ I hN hi hx r (fun s' I' _=>h s' I') hf
theorem Inv.call' {s':Shared} {ch:List Addr} (I:Inv X pins σ H s) (ho:s'.os=s.os) (u:Un (frs X.stack) ch H H' s.heap s'.heap) (hok:HOk X.prog X.w H' s'.heap) (hg:AllBare s'.gens)
 (hch:∀ b∈ch,(b∈X.ex\/X.s₀.heap.objs.size<=b)/\b≠X.env.locals/\(∀ x c,X.env.cells.lookup x=some c->c≠b)/\∀ p∈X.pn++pins,p.1≠b):Inv X pins σ H' s':=by
 obtain ⟨h',g',d',t',o'⟩:=s'
 have e:o'=s.os:=ho
 subst e
 exact I.call (g':=g') (t':=t') (d':=d') u hok hg hch
end
abbrev XK:=Value->Option Addr->Hp->Prop
abbrev St:=List (Option V)
abbrev VK:=V->Hp->Prop
abbrev TE:=St->Hp->VK->Prop
abbrev TT:=St->Hp->(Bool->Hp->Prop)->Prop
abbrev TA:=St->Hp->(List V->Hp->Prop)->Prop
structure yK where
 nx:St->Hp->Prop
 rt:VK
 bk:St->Hp->Prop:=fun _ _=>False
 ct:St->Hp->Prop:=fun _ _=>False
abbrev TS:=yK->St->Hp->Prop
def EP (X:Cx) (pins:List (Addr×Obj)) (σ:St) (Q:VK) (u:Value) (s':Shared):Prop:=∃ v H',Inv X pins σ H' s'/\dB v u/\Q v H'
def TP (X:Cx) (pins:List (Addr×Obj)) (σ:St) (Q:Bool->Hp->Prop) (b:Bool) (s':Shared):Prop:=∃ H',Inv X pins σ H' s'/\Q b H'
def AP (X:Cx) (pins:List (Addr×Obj)) (σ:St) (Q:List V->Hp->Prop) (us:List Value) (s':Shared):Prop:=∃ vs H',Inv X pins σ H' s'/\cq vs us/\Q vs H'
def SP (X:Cx) (pins:List (Addr×Obj)) (D:yK) (f:Flow) (s':Shared):Prop :=
 match f with
 | .next=>∃ σ' H',Inv X pins σ' H' s'/\D.nx σ' H'
 | .brk=>∃ σ' H',Inv X pins σ' H' s'/\D.bk σ' H'
 | .cont=>∃ σ' H',Inv X pins σ' H' s'/\D.ct σ' H'
 | .ret u=>∃ v σ' H',Inv X pins σ' H' s'/\dB v u/\D.rt v H'
def PE (X:Cx) (e:Expr) (t:TE):Prop :=
 ∀ (pins:List (Addr×Obj)) (s:Shared) (σ:St) (H:Hp) (Q:VK),Inv X pins σ H s->t σ H Q->wpAny (model X.prog X.w) X.A (eval e X.env) (EP X pins σ Q) X.xe s
def PT (X:Cx) (e:Expr) (t:TT):Prop :=
 ∀ (pins:List (Addr×Obj)) (s:Shared) (σ:St) (H:Hp) (Q:Bool->Hp->Prop),Inv X pins σ H s->t σ H Q->wpAny (model X.prog X.w) X.A (isTrue e X.env (eval e X.env)) (TP X pins σ Q) X.xe s
def PW (X:Cx) (e:Expr) (t:TT):Prop :=
 ∀ (whole:Sem Value) (pins:List (Addr×Obj)) (s:Shared) (σ:St) (H:Hp) (Q:Bool->Hp->Prop),Inv X pins σ H s->t σ H Q->wpAny (model X.prog X.w) X.A (isTrue e X.env whole) (TP X pins σ Q) X.xe s
theorem PW.pt {X:Cx} {e:Expr} {t:TT} (h:PW X e t):PT X e t:=h _
def PA (X:Cx) (es:List Expr) (t:TA):Prop :=
 ∀ (pos:Pos) (pins:List (Addr×Obj)) (s:Shared) (σ:St) (H:Hp) (Q:List V->Hp->Prop),Inv X pins σ H s->t σ H Q->wpAny (model X.prog X.w) X.A (spliced (backTo pos (starEach es X.env))) (AP X pins σ Q) X.xe s
def PS (X:Cx) (st:Stmt) (t:TS):Prop :=
 ∀ (pins:List (Addr×Obj)) (s:Shared) (σ:St) (H:Hp) (D:yK),Inv X pins σ H s->t D σ H->wpAny (model X.prog X.w) X.A (exec st X.env) (SP X pins D) X.xe s
def PSs (X:Cx) (st:List Stmt) (t:TS):Prop :=
 ∀ (pins:List (Addr×Obj)) (s:Shared) (σ:St) (H:Hp) (D:yK),Inv X pins σ H s->t D σ H->wpAny (model X.prog X.w) X.A (execs st X.env) (SP X pins D) X.xe s
theorem thn {α:Type} {t:Sem α} {Q Q':α->Shared->Prop} {M:Model} {A:Around} {E:Value->Shared->Prop} {s:Shared} (h:wpAny M A t Q E s) (hQ:∀ a s,Q a s->Q' a s):wpAny M A t Q' E s:=wpAny_mono h hQ fun _ _ x=>x
end L2
namespace L2
open PySem PySem.Spec PyProof.Rows
section
variable {X:Cx}
def oE (i:Nat):TE:=fun σ H Q=>∃ v,σ[i]?=some (some v)/\Q v H
def tC (v:V):TE:=fun _ H Q=>Q v H
theorem qB {i:Nat} {x:Str} {pos:Pos} (hN:X.N[i]?=some x) (hv:Vis X.env.scope x) (hd:(x == ("__debug__" : Str))=false:=by decide) (hcd:(x == ("__classdict__" : Str))=false:=by decide):PE X (.Name x pos) (oE i):=by
 intro pins s σ H Q I h
 obtain ⟨v,e,h⟩:=h
 obtain ⟨m,hn,hl⟩:=I.loc
 obtain ⟨u,r,l⟩:=hl i x v hN e hv
 have fin:EP X pins σ Q u s:=⟨v,H,I,r,h⟩
 rcases l with ⟨hk,hm⟩ | ⟨hk,c,hc,hcell⟩
 ·exact wpAny_Name (wpAny_loadName_local I.ok.kind hk hn hm fin) hd
 ·rcases hk with hk | hk
  ·exact wpAny_Name (wpAny_loadName_cell I.ok.kind hk hc hcell fin) hd
  ·exact wpAny_Name (wpAny_loadName_free I.ok.kind hk hc hcell fin hcd) hd
theorem Ba {i j pos}:PE X (.Constant (.int i) j pos) (tC (.int i)):=fun _ _ _ H _ I h=>wpAny_Constant_int ⟨.int i,H,I.tok _,⟨_,rfl⟩,h⟩
theorem Br {b j pos}:PE X (.Constant (.bool b) j pos) (tC (.bl b)):=fun _ _ _ H _ I h=>Constant_bool ⟨.bl b,H,I,rfl,h⟩
def Gl (X:Cx) (x:Str):Prop:=X.env.kindOf x=some .globalImplicit
theorem y4 {E:Value->Shared->Prop} {pins:List (Addr×Obj)} {s:Shared} {σ:St} {H:Hp} {x:Str} {u:Value} {pos:Pos} {Q:Value->Shared->Prop} (I:Inv X pins σ H s) (hg:Gl X x) (hm:X.mg x=some u) (h:Q u s)
 (hd:(x == ("__debug__" : Str))=false:=by decide):wpAny (model X.prog X.w) X.A (eval (.Name x pos) X.env) Q E s :=
 Calls.Name_function_global I.ok.kind hg (Calls.loadGlobal_global (by rw [I.ok.glob];exact I.mod.glob.keeps I.bk) hm h) hd
theorem fL {E:Value->Shared->Prop} {pins:List (Addr×Obj)} {s:Shared} {σ:St} {H:Hp} {x:Str} {u:Value} {pos:Pos} {Q:Value->Shared->Prop} (I:Inv X pins σ H s) (hg:Gl X x) (hm:X.mg x=none) (hv:bootBuiltins x=some u) (h:Q u s)
 (hn:x≠"__name__":=by decide) (hd:(x == ("__debug__" : Str))=false:=by decide):wpAny (model X.prog X.w) X.A (eval (.Name x pos) X.env) Q E s:=by
 obtain ⟨mb,h1,h2⟩:=I.mod.blt
 exact Calls.Name_function_global I.ok.kind hg (Calls.loadGlobal_builtin (by rw [I.ok.glob];exact I.mod.glob.keeps I.bk) hm (by rw [I.ok.blt];exact h1.keeps I.bk) ((h2 x hn).trans hv) h) hd
theorem yO {x:Str} {v:V} {u:Value} {pos:Pos} (hg:Gl X x) (hm:X.mg x=none) (hv:bootBuiltins x=some u) (r:dB v u) (hn:x≠"__name__":=by decide) (hd:(x == ("__debug__" : Str))=false:=by decide):PE X (.Name x pos) (tC v) :=
 fun _ _ _ H _ I h=>fL I hg hm hv ⟨v,H,I,r,h⟩ hn hd
variable {a b:Expr} {ta tb:TE} {pos:Pos}
def PC (X:Cx) (op:CmpOp) (a b:Expr) (t:TE):Prop :=
 ∀ (pins:List (Addr×Obj)) (s:Shared) (σ:St) (H:Hp) (Q:VK),Inv X pins σ H s->t σ H Q ->
   wpAny (model X.prog X.w) X.A (eval a X.env) (fun v s₁=>wpAny (model X.prog X.w) X.A (eval b X.env) (fun u s₂=>wpAny (model X.prog X.w) X.A (compareOp op v u) (EP X pins σ Q) X.xe s₂) X.xe s₁) X.xe s
def tB (t:TE):TT:=fun σ H Q=>t σ H fun x H1=>∃ c,x=.bl c/\Q c H1
theorem Bz {op:CmpOp} {t:TE} (h:PC X op a b t) (h1:behindInMarks op b=false:=by first | exact nobehind _ (by decide) (by decide) | rfl):PT X (.Compare a [op] [b] pos) (tB t):=by
 intro pins s σ H Q I hw
 refine wpAny_isTrue_Compare1 (thn (h pins s σ H _ I hw) fun v s1 h1=>thn h1 fun u s2 h2=>thn h2 fun c s3 ⟨x,H1,I1,r1,q1⟩=>?_) h1
 obtain ⟨d,rfl,q⟩:=q1
 cases r1
 exact wpAny_truthy_bool ⟨H1,I1,q⟩
variable {tA tB':TT} {rest:List Expr}
def DM (t u:TT):TT:=fun σ H Q=>t σ H fun c H1=>if c=true then u σ H1 Q else Q false H1
def tOr (t u:TT):TT:=fun σ H Q=>t σ H fun c H1=>if c=true then Q true H1 else u σ H1 Q
def D7 (t:TT):TT:=fun σ H Q=>t σ H fun c H1=>Q (!c) H1
theorem yb (ha:PT X a tA):PW X (.BoolOp .And [a] pos) tA:=by
 intro wh pins s σ H Q I h
 refine isTrue_and (thn (ha pins s σ H Q I h) fun c s1 e=>?_)
 cases c with
 | true=>exact isTrue_and_nil e
 | false=>exact e
theorem B7 (ha:PT X a tA):PW X (.BoolOp .Or [a] pos) tA:=by
 intro wh pins s σ H Q I h
 refine isTrue_or (thn (ha pins s σ H Q I h) fun c s1 e=>?_)
 cases c with
 | false=>exact isTrue_or_nil e
 | true=>exact e
theorem Az (ha:PT X a tA) (hb:PW X (.BoolOp .And (b::rest) pos) tB'):PW X (.BoolOp .And (a::b::rest) pos) (DM tA tB'):=by
 intro wh pins s σ H Q I h
 refine isTrue_and (thn (ha pins s σ H _ I h) fun c s1 ⟨H1,I1,q1⟩=>?_)
 cases c with
 | true=>exact hb wh pins s1 σ H1 Q I1 q1
 | false=>exact ⟨H1,I1,q1⟩
theorem Dl (ha:PT X a tA) (hb:PW X (.BoolOp .Or (b::rest) pos) tB'):PW X (.BoolOp .Or (a::b::rest) pos) (tOr tA tB'):=by
 intro wh pins s σ H Q I h
 refine isTrue_or (thn (ha pins s σ H _ I h) fun c s1 ⟨H1,I1,q1⟩=>?_)
 cases c with
 | true=>exact ⟨H1,I1,q1⟩
 | false=>exact hb wh pins s1 σ H1 Q I1 q1
theorem Bb (ha:PT X a tA):PT X (.UnaryOp .Not a pos) (D7 tA):=by
 intro pins s σ H Q I h
 exact isTrue_not (ha pins s σ H (fun c H1=>Q (!c) H1) I h)
def CN (ta tb:TE):TE:=fun σ H Q=>ta σ H fun x H1=>∃ c,x=.bl c/\if c=true then tb σ H1 Q else Q (.bl false) H1
theorem B4 {op} {t:TE} (h:PE X a t):PE X (.BoolOp op [a] pos) t:=fun pins s σ H Q I hw=>BoolOp_one (h pins s σ H Q I hw)
theorem BC (ha:PE X a ta) (hb:PE X (.BoolOp .And (b::rest) pos) tb):PE X (.BoolOp .And (a::b::rest) pos) (CN ta tb):=by
 intro pins s σ H Q I h
 refine BoolOp_and (thn (ha pins s σ H _ I h) fun v s1 ⟨x,H1,I1,r1,q1⟩=>?_)
 obtain ⟨c,rfl,q1⟩:=q1
 cases r1
 refine wpAny_truthy_bool ?_
 cases c with
 | true=>exact hb pins s1 σ H1 Q I1 q1
 | false=>exact ⟨.bl false,H1,I1,rfl,q1⟩
end
end L2
namespace L2
open PySem PySem.Spec PyProof.Rows
def SqL (K:PySem.W.Frag) (H:Hp) (a:Addr) (xs:List V):Prop :=
 Rd H a (.lst xs) \/
  ∃ (o:Obj) (its:Array Value) (n:Nat),K.lookup a=some o/\o.cls=.type "list"/\o.dict=none/\o.data=.seq its n/\its.size<=sizeLine/\cq xs its.toList
def SqT (K:PySem.W.Frag) (H:Hp) (a:Addr) (xs:List V):Prop :=
 Rd H a (.tup xs) \/
  ∃ (o:Obj) (its:Array Value) (n:Nat),K.lookup a=some o/\o.cls=.type "tuple"/\o.data=.seq its n/\its.size<=sizeLine/\cq xs its.toList
def D8:Value->Option V
 | .none=>some .non
 | .bool b=>some (.bl b)
 | .int i _=>some (.int i)
 | .str x _=>some (.str x)
 | .bytes b _=>some (.byt b)
 | .float b _=>some (.flt b)
 | .ref a=>some (.ref a)
 | .type n=>some (.ty n)
 | _=>none
theorem dB.abs {x:V} {u:Value} (r:dB x u):D8 u=some x:=by
 cases x with
 | non=>cases r;rfl
 | bl _=>cases r;rfl
 | int _=>obtain ⟨t,rfl⟩:=r;rfl
 | str _=>obtain ⟨t,rfl⟩:=r;rfl
 | byt _=>obtain ⟨t,rfl⟩:=r;rfl
 | flt _=>obtain ⟨t,rfl⟩:=r;rfl
 | ref _=>cases r;rfl
 | ty _=>cases r;rfl
theorem dB.inj {x y:V} {u:Value} (r:dB x u) (q:dB y u):x=y:=Option.some.inj (r.abs.symm.trans q.abs)
theorem cq.inj:∀ {xs ys:List V} {us:List Value},cq xs us->cq ys us->xs=ys
 | _,_,_,.nil,.nil=>rfl
 | _,_,_,.cons r t,.cons r' t'=>by rw [r.inj r',cq.inj t t']
section
variable {X:Cx} {pins:List (Addr×Obj)} {σ:St} {H:Hp} {s:Shared} {a:Addr} {xs ys:List V}
theorem SqL.of {K:PySem.W.Frag} (h:H a=some (.lst xs)):SqL K H a xs:=.inl (.inl h)
theorem SqT.of {K:PySem.W.Frag} (h:H a=some (.tup xs)):SqT K H a xs:=.inl (.inl h)
theorem Inv.list (I:Inv X pins σ H s) (h:SqL X.K H a xs):∃ its:List Value,cq xs its/\PlainL s.heap a its.toArray/\xs.length<=sizeLine:=by
 rcases h with h | ⟨o,its,n,hk,hc,hd,hs,hz,r⟩
 ·obtain ⟨z,its,n,r,e⟩:=h.ok I.hok
  exact ⟨its,r,⟨_,n,e,rfl,rfl,rfl⟩,z⟩
 ·refine ⟨its.toList,r,⟨o,n,I.kIn a o hk,hc,hd,by simpa using hs⟩,?_⟩
  have e:=r.length
  simp only [az] at e
  lia
theorem Inv.tuple (I:Inv X pins σ H s) (h:SqT X.K H a xs):∃ its:List Value,cq xs its/\IsTup s.heap a its.toArray/\xs.length<=sizeLine:=by
 rcases h with h | ⟨o,its,n,hk,hc,hs,hz,r⟩
 ·obtain ⟨z,its,r,p⟩:=h.ok I.hok
  exact ⟨its,r,p,z.1⟩
 ·refine ⟨its.toList,r,⟨o,I.kIn a o hk,hc,n,by simpa using hs⟩,?_⟩
  have e:=r.length
  simp only [az] at e
  lia
theorem Inv.list_inj (I:Inv X pins σ H s) (h:SqL X.K H a xs) (h':SqL X.K H a ys):xs=ys:=by
 obtain ⟨its,r,⟨o,n,e,_,_,d⟩,_⟩:=I.list h
 obtain ⟨its',r',⟨o',n',e',_,_,d'⟩,_⟩:=I.list h'
 rw [e] at e';cases e'
 rw [d] at d'
 injection d' with d1 _
 have:its=its':=by simpa using congrArg DP d1
 subst this
 exact r.inj r'
theorem Inv.tuple_inj (I:Inv X pins σ H s) (h:SqT X.K H a xs) (h':SqT X.K H a ys):xs=ys:=by
 obtain ⟨its,r,⟨o,e,_,n,d⟩,_⟩:=I.tuple h
 obtain ⟨its',r',⟨o',e',_,n',d'⟩,_⟩:=I.tuple h'
 rw [e] at e';cases e'
 rw [d] at d'
 injection d' with d1 _
 have:its=its':=by simpa using congrArg DP d1
 subst this
 exact r.inj r'
end
abbrev Cx.wish (X:Cx) (E:Value->Shared->Prop):Cx:={ X with xe:=E }
abbrev Cx.nox (X:Cx):Cx:=X.wish fun _ _=>False
theorem Cx.Ok.wish {X:Cx} (ok:X.Ok) (E:Value->Shared->Prop):(X.wish E).Ok :=
 ⟨ok.mod,ok.kind,ok.glob,ok.blt,ok.above,ok.inj,ok.has,ok.cab,ok.hd,ok.frames,ok.stk,ok.exf,ok.bs,ok.bsz,ok.noex,ok.exfs,ok.funs,ok.frf⟩
theorem Cx.Ok.unwish {X:Cx} {E:Value->Shared->Prop} (ok:(X.wish E).Ok):X.Ok :=
 ⟨ok.mod,ok.kind,ok.glob,ok.blt,ok.above,ok.inj,ok.has,ok.cab,ok.hd,ok.frames,ok.stk,ok.exf,ok.bs,ok.bsz,ok.noex,ok.exfs,ok.funs,ok.frf⟩
section
variable {X:Cx} {pins:List (Addr×Obj)} {σ:St} {H:Hp} {s:Shared} {E:Value->Shared->Prop}
theorem Inv.wish (I:Inv X pins σ H s) (E:Value->Shared->Prop):Inv (X.wish E) pins σ H s:=⟨I.ok.wish E,I.os,I.bare,I.base,I.loc,I.cell,I.free,I.freeC,I.pin,I.hok,I.len⟩
theorem Inv.unwish (I:Inv (X.wish E) pins σ H s):Inv X pins σ H s:=⟨I.ok.unwish,I.os,I.bare,I.base,I.loc,I.cell,I.free,I.freeC,I.pin,I.hok,I.len⟩
theorem SP.unwish {D:yK} {f:Flow} {s':Shared} (h:SP (X.wish E) pins D f s'):SP X pins D f s':=by
 cases f with
 | next=>obtain ⟨σ',H',I,q⟩:=h;exact ⟨σ',H',I.unwish,q⟩
 | brk=>obtain ⟨σ',H',I,q⟩:=h;exact ⟨σ',H',I.unwish,q⟩
 | cont=>obtain ⟨σ',H',I,q⟩:=h;exact ⟨σ',H',I.unwish,q⟩
 | ret u=>obtain ⟨v,σ',H',I,r,q⟩:=h;exact ⟨v,σ',H',I.unwish,r,q⟩
theorem PSs.nox {st:List Stmt} {t:TS} (h:PSs X.nox st t):PSs X st t:=fun pins s σ H D I hw =>
 wpAny_mono (h pins s σ H D (I.wish _) hw) (fun _ _ q=>q.unwish) fun _ _ z=>False.elim z
end
section
variable {X:Cx} {st:Stmt} {rest:List Stmt} {t u:TS} {e:Expr} {te:TE} {pos:Pos}
def A6:TS:=fun D σ H=>D.nx σ H
def vw (t u:TS):TS:=fun D σ H=>t { D with nx:=u D } σ H
theorem va:PSs X [] A6:=fun _ _ σ H _ I h=>wpAny_execs_nil ⟨σ,H,I,h⟩
theorem iA (h1:PS X st t) (h2:PSs X rest u):PSs X (st::rest) (vw t u):=by
 intro pins s σ H D I h
 refine wpAny_execs_cons (thn (h1 pins s σ H { D with nx:=u D } I h) fun f s1 q=>?_)
 cases f with
 | next =>
   obtain ⟨σ',H',I',q⟩:=q
   exact h2 pins s1 σ' H' D I' q
 | ret v=>exact q
 | brk=>exact q
 | cont=>exact q
theorem j7 (h1:PS X st t):PSs X [st] t:=by
 intro pins s σ H D I h
 refine wpAny_execs_cons (thn (h1 pins s σ H D I h) fun f s1 q=>?_)
 cases f with
 | next=>exact wpAny_execs_nil q
 | ret v=>exact q
 | brk=>exact q
 | cont=>exact q
theorem Inv.quiet {pins:List (Addr×Obj)} {σ:St} {H:Hp} {s:Shared} (I:Inv X pins σ H s):interactive X.env=false:=by simp [interactive,I.ok.kind]
def CW (te:TE):TS:=fun D σ H=>te σ H fun _ H1=>D.nx σ H1
theorem xZ (he:PE X e te) (hs:swapsWith e none pos.line X.env=pure false:=by rfl):PS X (.Expr e pos) (CW te):=by
 intro pins s σ H D I h
 exact wpAny_Expr_any (thn (he pins s σ H _ I h) fun v s1 ⟨x,H1,I1,r1,q1⟩=>⟨σ,H1,I1,q1⟩) I.quiet hs
def CH (te:TE):TS:=fun D σ H=>te σ H D.rt
theorem sF (he:PE X e te):PS X (.Return (some e) pos) (CH te):=by
 intro pins s σ H D I h
 exact wpAny_Return_some (thn (he pins s σ H _ I h) fun v s1 ⟨x,H1,I1,r1,q1⟩=>⟨x,σ,H1,I1,r1,q1⟩)
def Dy (c:TT) (t u:TS):TS:=fun D σ H=>c σ H fun b H1=>if b=true then t D σ H1 else u D σ H1
theorem BF {c:Expr} {a b:List Stmt} {tc:TT} (hc:PT X c tc) (ha:PSs X a t) (hb:PSs X b u):PS X (.If c a b pos) (Dy tc t u):=by
 intro pins s σ H D I h
 refine wpAny_If (thn (hc pins s σ H _ I h) fun d s1 ⟨H1,I1,q1⟩=>?_)
 cases d with
 | true=>exact ha pins s1 σ H1 D I1 q1
 | false=>exact hb pins s1 σ H1 D I1 q1
end
abbrev TG:=V->St->Hp->(St->Hp->Prop)->Prop
abbrev TGs:=List V->St->Hp->(St->Hp->Prop)->Prop
def PG (X:Cx) (target:Expr) (t:TG):Prop :=
 ∀ (pins:List (Addr×Obj)) (s:Shared) (σ:St) (H:Hp) (v:V) (u:Value) (Q:St->Hp->Prop),Inv X pins σ H s->dB v u->t v σ H Q ->
   wpAny (model X.prog X.w) X.A (assign target X.env u) (fun _ s'=>∃ σ' H',Inv X pins σ' H' s'/\Q σ' H') X.xe s
def PGs (X:Cx) (ts:List Expr) (t:TGs):Prop :=
 ∀ (pins:List (Addr×Obj)) (s:Shared) (σ:St) (H:Hp) (vs:List V) (us:List Value) (Q:St->Hp->Prop),Inv X pins σ H s->cq vs us->t vs σ H Q ->
   wpAny (model X.prog X.w) X.A (assignInOrder ((assignEach ts X.env).map (·.2)) us) (fun _ s'=>∃ σ' H',Inv X pins σ' H' s'/\Q σ' H') X.xe s
section
variable {X:Cx} {pos:Pos}
def iW (i:Nat):TG:=fun v σ H Q=>Q (σ.set i (some v)) H
theorem lG {i:Nat} {x:Str} (hN:X.N.Nodup) (hi:X.N[i]?=some x) (hx:Loc X.env.scope x) (hf:X.fn x=true\/X.env.scope.names.lookup x=some .local:=by first | exact .inl rfl | exact .inr rfl | assumption):PG X (.Name x pos) (iW i):=by
 intro pins s σ H v u Q I r h
 exact wpAny_assign_Name (qj I hN hi hx r (fun s' I'=>⟨_,H,I',h⟩) hf)
def DA:TGs:=fun vs σ H Q=>vs=[]/\Q σ H
def x4 (t:TG) (u:TGs):TGs:=fun vs σ H Q=>∃ v r,vs=v::r/\t v σ H fun σ' H'=>u r σ' H' Q
theorem uZ:PGs X [] DA:=by
 intro pins s σ H vs us Q I r h
 obtain ⟨e,h⟩:=h
 subst e
 cases r
 exact assignInOrder_nil ⟨σ,H,I,h⟩
theorem lH {e:Expr} {es:List Expr} {t:TG} {u:TGs} (h1:PG X e t) (h2:PGs X es u)
 (hs:(assignEach (e::es) X.env).map (·.2)=assign e X.env::(assignEach es X.env).map (·.2):=by rfl):PGs X (e::es) (x4 t u):=by
 intro pins s σ H vs us Q I r h
 obtain ⟨v,vr,e1,h⟩:=h
 subst e1
 cases r with
 | cons r rr =>
   rw [hs]
   refine assignInOrder_cons (thn (h1 pins s σ H _ _ _ I r h) fun _ s1 ⟨σ1,H1,I1,q1⟩=>?_)
   exact h2 pins s1 σ1 H1 _ _ Q I1 rr q1
def DK (K:PySem.W.Frag) (n:Nat) (t:TGs):TG:=fun v σ H Q=>∃ a xs,v=.ref a/\SqT K H a xs/\xs.length=n/\t xs σ H Q
theorem xx {es:List Expr} {k:Nat} {t:TGs} {n:Nat} (hc:X.calm=true) (h:PGs X es t)
 (hn:(assignEach es X.env).length=n:=by rfl) (hst:(assignEach es X.env).findIdx? (·.1)=none:=by rfl):PG X (.Tuple es k pos) (DK X.K n t):=by
 intro pins s σ H v u Q I r hw
 obtain ⟨a,xs,e1,hq,hl,hw⟩:=hw
 subst e1
 cases r
 obtain ⟨its,rv,ht,hz⟩:=I.tuple hq
 refine assign_Tuple_tuple (I.ok.hd hc) ht (by simp [hn,<- hl,rv.length]) hst fun h' hx=>?_
 have I1:Inv X pins σ H { s with heap:=h' }:=I.kept (t':=s.toks) fun b o e=>hx b o (aH (au e)) e
 exact h pins _ σ H xs _ Q I1 (by simpa using rv) hw
def BE (te:TE) (g:TG):TS:=fun D σ H=>te σ H fun x H1=>g x σ H1 D.nx
theorem qe {i:Nat} {x:Str} {e:Expr} {te:TE} {pos':Pos} (hN:X.N.Nodup) (hi:X.N[i]?=some x) (hx:Loc X.env.scope x) (he:PE X e te) (hs:swapsWith e (some (.Name x pos')) pos.line X.env=pure false:=by rfl) (hf:X.fn x=true\/X.env.scope.names.lookup x=some .local:=by first | exact .inl rfl | exact .inr rfl | assumption) :
 PS X (.Assign [.Name x pos'] e pos) (BE te (iW i)):=by
 intro pins s σ H D I h
 refine wpAny_Assign_Name (thn (he pins s σ H _ I h) fun v s1 ⟨y,H1,I1,r1,q1⟩=>?_) hs
 exact qj I1 hN hi hx r1 (fun s2 I2=>⟨_,H1,I2,q1⟩) hf
end
section
variable {X:Cx} {pos:Pos}
def Bg (c:TT) (tb:TS):TS:=fun D σ H=>∃ W:Nat->St->Hp->Prop,(∃ m,W m σ H)/\∀ m σ H,W m σ H ->
 c σ H fun b H1=>if b=true then ∃ N:St->Hp->Prop,(∀ σ' H',N σ' H'->∃ m',m'<m/\W m' σ' H')/\tb { D with nx:=N,ct:=N,bk:=D.nx } σ H1 else D.nx σ H1
theorem wE {c:Expr} {body:List Stmt} {tc:TT} {tb:TS} (hp:PassesOwn (model X.prog X.w) X.A X.env X.xe) (hc:PT X c tc) (hb:PSs X body tb):PS X (.While c body [] pos) (Bg tc tb):=by
 intro pins s σ H D I h
 obtain ⟨W,⟨m0,w0⟩,turn⟩:=h
 refine wpAny_While (codeAny_whileLoop (fun n s'=>∃ σ' H',Inv X pins σ' H' s'/\W n σ' H') ?_ m0 ⟨σ,H,I,w0⟩)
 rintro n s1 ⟨σ1,H1,I1,w1⟩
 refine wpAny_passesOwn hp (thn (hc pins s1 σ1 H1 _ I1 (turn n σ1 H1 w1)) fun b s2 ⟨H2,I2,q2⟩=>?_)
 cases b with
 | true =>
   obtain ⟨N,hN,q2⟩:=q2
   rw [if_pos rfl]
   refine wpAny_passesOwn hp (thn (hb pins s2 σ1 H2 _ I2 q2) fun f s3 q3=>?_)
   cases f with
   | next =>
     obtain ⟨σ3,H3,I3,n3⟩:=q3
     obtain ⟨m',hm,w3⟩:=hN σ3 H3 n3
     exact ⟨m',hm,σ3,H3,I3,w3⟩
   | cont =>
     obtain ⟨σ3,H3,I3,n3⟩:=q3
     obtain ⟨m',hm,w3⟩:=hN σ3 H3 n3
     exact ⟨m',hm,σ3,H3,I3,w3⟩
   | brk=>exact q3
   | ret v=>exact q3
 | false =>
   rw [if_neg ah]
   exact wpAny_execs_nil ⟨σ1,H2,I2,q2⟩
end
structure It where
 go:Nat->Hp->Prop
 yld:Nat->Hp->V->Hp->Prop
 stop:Nat->Hp->Prop
def oG (X:Cx) (pins:List (Addr×Obj)) (H:Hp) (b:Addr):Prop :=
 H b=none/\b≠X.env.locals/\b∉X.fs/\(b∈X.ex\/X.s₀.heap.objs.size<=b)/\(∀ x c,X.env.cells.lookup x=some c->c≠b)/\∀ p∈X.pn++pins,p.1≠b
theorem Inv.fpOk {X:Cx} {pins:List (Addr×Obj)} {σ:St} {H H':Hp} {s:Shared} {b:Addr} (I:Inv X pins σ H s) (hb:s.heap.objs.size<=b) (hn:H' b=none):oG X pins H' b:=by
 refine ⟨hn,mC (aM I.lt hb),I.nofs hb,.inr (bH I.sz hb),fun x c e z=>?_,fun p hp z=>?_⟩
 ·obtain ⟨v,q⟩:=I.cell x c e
  exact absurd (aM q.lt (by rw [z];exact hb)) (br _)
 ·exact absurd (aM (au (I.pin p hp).1) (by rw [z];exact hb)) (br _)
structure xw (P:Program) (w:World) (K:PySem.W.Frag) (tg:Expr) (J:It) (fp:List Addr) (it:Addr) (tn:Nat->Heap->Prop):Prop where
 mem:it∈fp
 obj:∀ i h,tn i h->∀ b∈fp,∃ o,h.get? b=some o/\∀ v,o.data≠.cell v
 keep:∀ i h h',tn i h->(∀ b∈fp,∀ o,h.get? b=some o->h'.get? b=some o)->tn i h'
 item:∀ (X:Cx),X.prog=P->X.w=w->X.K=K->X.calm=true->∀ (i:Nat) (pins:List (Addr×Obj)) (s:Shared) (σ:St) (H:Hp) (E:Value->Shared->Prop),Inv X pins σ H s->(∀ b∈fp,oG X pins H b)->tn i s.heap->J.go i H ->
  wpAny (model P w) X.A (pyNext (.ref it)) (fun r s1=>∃ u,r=some u /\
   wpAny (model P w) X.A (letOwnedTupleGo tg (.ref it) u) (fun _ s2=>∃ x H',Inv X pins σ H' s2/\dB x u/\J.yld i H x H'/\tn (i+1) s2.heap/\∀ b∈fp,H' b=none) E s1) E s
 done:∀ (X:Cx),X.prog=P->X.w=w->X.K=K->X.calm=true->∀ (i:Nat) (pins:List (Addr×Obj)) (s:Shared) (σ:St) (H:Hp) (E:Value->Shared->Prop),Inv X pins σ H s->(∀ b∈fp,oG X pins H b)->tn i s.heap->J.stop i H ->
  wpAny (model P w) X.A (pyNext (.ref it)) (fun r s1=>r=none/\Inv X pins σ H s1) E s
 self:∀ (A:Around) (i:Nat) (s:Shared) (Q:Value->Shared->Prop) (E:Value->Shared->Prop),tn i s.heap->Q (.ref it) s->wpAny (model P w) A (pyIter (.ref it)) Q E s
abbrev TI:=St->Hp->(It->Hp->Prop)->Prop
def PIE (X:Cx) (pins:List (Addr×Obj)) (σ:St) (tg:Expr) (R:It->Hp->Prop) (itv:Value) (s2:Shared):Prop :=
 ∃ (it:Addr) (fp:List Addr) (tn:Nat->Heap->Prop) (J:It) (H':Hp),itv=.ref it/\Inv X pins σ H' s2/\xw X.prog X.w X.K tg J fp it tn/\tn 0 s2.heap/\(∀ b∈fp,oG X pins H' b)/\R J H'
def PI (X:Cx) (tg iter:Expr) (wi:TI):Prop :=
 ∀ (pins:List (Addr×Obj)) (s:Shared) (σ:St) (H:Hp) (R:It->Hp->Prop),Inv X pins σ H s->wi σ H R ->
   wpAny (model X.prog X.w) X.A (eval iter X.env) (fun v s1=>wpAny (model X.prog X.w) X.A (pyIter v) (PIE X pins σ tg R) X.xe s1) X.xe s
theorem u5 {M:Model} {A:Around} {E:Value->Shared->Prop} {s:Shared} {tg:Expr} {it:Addr} {u:Value} {o:Obj} {n:String} {vs:Array Value} {Q:Unit->Shared->Prop} (ho:s.heap.get? it=some o) (hc:o.cls=.type n) (hd:o.data=.fields vs)
 (hn:["enumerate","zip","dict_itemiterator","dict_reverseitemiterator","odict_iterator","itertools.zip_longest","itertools.pairwise"].contains n=false) (hQ:Q () s):wpAny M A (letOwnedTupleGo tg (.ref it) u) Q E s:=by
 unfold letOwnedTupleGo
 cases tg<;>first
  | exact wpAny_pure hQ
  | (cases u<;>first
      | exact wpAny_pure hQ
      | (refine wpAny_bind (wpAny_load ho ?_)
         rw [hc,hd]
         show wpAny M A (if (["enumerate","zip","dict_itemiterator","dict_reverseitemiterator","odict_iterator","itertools.zip_longest","itertools.pairwise"].contains n&&vs[0]? == some (rawInt _))=true then _ else _) Q E s
         rw [if_neg (by intro h;rw [hn,Bool.false_and] at h;cases h)]
         exact wpAny_pure hQ))
def Itl (K:PySem.W.Frag) (a:Addr):It :=
 ⟨fun i H=>∃ xs x,SqL K H a xs/\xs[i]?=some x,fun i H x H'=>H'=H/\∀ xs,SqL K H a xs->xs[i]?=some x,fun i H=>∃ xs,SqL K H a xs/\xs.length<=i⟩
def Itt (K:PySem.W.Frag) (a:Addr):It :=
 ⟨fun i H=>∃ xs x,SqT K H a xs/\xs[i]?=some x,fun i H x H'=>H'=H/\∀ xs,SqT K H a xs->xs[i]?=some x,fun i H=>∃ xs,SqT K H a xs/\xs.length<=i⟩
def Itr (lo:Int) (n:Nat):It:=⟨fun i _=>i<n,fun i H x H'=>H'=H/\x=.int (lo+i),fun i _=>n<=i⟩
theorem tw {P:Program} {w:World} {K:PySem.W.Frag} {tg:Expr} (a it:Addr):xw P w K tg (Itl K a) [it] it (fun i h=>h.IsListIter it a i) where
 mem:=by simp
 obj:=fun i h st b hb=>by
  have e:b=it:=by simpa using hb
  subst e
  obtain ⟨o,e,c,d⟩:=st
  exact ⟨o,e,fun v z=>by rw [d] at z;cases z⟩
 keep:=fun i h h' st k=>st.at fun o e=>k it (by simp) o e
 item:=by
  intro X hP hw hK hc i pins s σ H E I hf st hg
  subst hP hw hK
  obtain ⟨xs,x,hq,hx⟩:=hg
  obtain ⟨its,rv,p,hz⟩:=I.list hq
  obtain ⟨u,hu,ru⟩:=rv.get hx
  obtain ⟨f0,f1,f2,f3,f4,f5⟩:=hf it (by simp)
  refine wpAny_pyNext_list_item st p.isList (x:=u) (by simpa using hu) fun h' st' sb=>?_
  have I1:Inv X pins σ H { s with heap:=h' }:=I.turned (t':=s.toks) (fun b o hb e=>(sb.2 b hb).trans e) f0 f1 f3 f4 f5
  obtain ⟨o,e,c,d⟩:=id st'
  exact ⟨u,rfl,u5 (s:={ s with heap:=h' }) e c d (by decide) ⟨x,H,I1,ru,⟨rfl,fun ys hy=>by rw [I.list_inj hy hq];exact hx⟩,st',fun b hb=>(hf b hb).1⟩⟩
 done:=by
  intro X hP hw hK hc i pins s σ H E I hf st hg
  subst hP hw hK
  obtain ⟨xs,hq,hx⟩:=hg
  obtain ⟨its,rv,p,hz⟩:=I.list hq
  obtain ⟨f0,f1,f2,f3,f4,f5⟩:=hf it (by simp)
  have hl:=rv.length
  exact wpAny_pyNext_list_end (I.ok.hd hc) st p.isList (by simp;lia) fun h' eb=>⟨rfl,I.turned (t':=s.toks) (fun b o hb e=>eb b o hb e) f0 f1 f3 f4 f5⟩
 self:=fun _ _ _ _ _ st h=>wpAny_pyIter_listiter st h
theorem rM {P:Program} {w:World} {K:PySem.W.Frag} {tg:Expr} (a it:Addr):xw P w K tg (Itt K a) [it] it (fun i h=>h.IsTupleIter it a i) where
 mem:=by simp
 obj:=fun i h st b hb=>by
  have e:b=it:=by simpa using hb
  subst e
  obtain ⟨o,e,c,d⟩:=st
  exact ⟨o,e,fun v z=>by rw [d] at z;cases z⟩
 keep:=fun i h h' st k=>st.at fun o e=>k it (by simp) o e
 item:=by
  intro X hP hw hK hc i pins s σ H E I hf st hg
  subst hP hw hK
  obtain ⟨xs,x,hq,hx⟩:=hg
  obtain ⟨its,rv,p,hz⟩:=I.tuple hq
  obtain ⟨u,hu,ru⟩:=rv.get hx
  obtain ⟨f0,f1,f2,f3,f4,f5⟩:=hf it (by simp)
  refine wpAny_pyNext_tuple_item st (show s.heap.IsTuple a its.toArray from p) (x:=u) (by simpa using hu) fun h' st' sb=>?_
  have I1:Inv X pins σ H { s with heap:=h' }:=I.turned (t':=s.toks) (fun b o hb e=>(sb.2 b hb).trans e) f0 f1 f3 f4 f5
  obtain ⟨o,e,c,d⟩:=id st'
  exact ⟨u,rfl,u5 (s:={ s with heap:=h' }) e c d (by decide) ⟨x,H,I1,ru,⟨rfl,fun ys hy=>by rw [I.tuple_inj hy hq];exact hx⟩,st',fun b hb=>(hf b hb).1⟩⟩
 done:=by
  intro X hP hw hK hc i pins s σ H E I hf st hg
  subst hP hw hK
  obtain ⟨xs,hq,hx⟩:=hg
  obtain ⟨its,rv,p,hz⟩:=I.tuple hq
  obtain ⟨f0,f1,f2,f3,f4,f5⟩:=hf it (by simp)
  have hl:=rv.length
  exact wpAny_pyNext_tuple_end (I.ok.hd hc) st (show s.heap.IsTuple a its.toArray from p) (by simp;lia) fun h' eb=>⟨rfl,I.turned (t':=s.toks) (fun b o hb e=>eb b o hb e) f0 f1 f3 f4 f5⟩
 self:=fun _ _ _ _ _ st h=>wpAny_pyIter_tupleiter st h
theorem rH {P:Program} {w:World} {K:PySem.W.Frag} {tg:Expr} (it:Addr) (lo:Int) (n:Nat):xw P w K tg (Itr lo n) [it] it (fun i h=>IsRangeIter h it (lo+(i:Nat)*1) ((n:Int)-(i:Nat)) 1) where
 mem:=by simp
 obj:=fun i h st b hb=>by
  have e:b=it:=by simpa using hb
  subst e
  exact ⟨_,st,fun v z=>by
   have z':Data.fields _=Data.cell v:=z
   cases z'⟩
 keep:=fun i h h' st k=>k it (by simp) _ st
 item:=by
  intro X hP hw hK hc i pins s σ H E I hf st hg
  subst hP hw hK
  obtain ⟨f0,f1,f2,f3,f4,f5⟩:=hf it (by simp)
  have W:=Walks.range (prog:=X.prog) (w:=X.w) (I.ok.hd hc) it lo 1 n
  refine W.item i s _ _ hg st fun v h' tk hv st' kk=>?_
  obtain ⟨t,rfl⟩:=hv
  have I1:Inv X pins σ H { s with heap:=h',toks:=tk }:=I.turned (fun b o hb e=>kk b o (by simpa using hb) e) f0 f1 f3 f4 f5
  refine ⟨_,rfl,u5 (s:={ s with heap:=h',toks:=tk }) (n:="range_iterator") st' rfl rfl (by decide) ⟨.int (lo+i),H,I1,⟨t,?_⟩,⟨rfl,rfl⟩,st',fun b hb=>(hf b hb).1⟩⟩
  rw [Int.mul_one]
 done:=by
  intro X hP hw hK hc i pins s σ H E I hf st hg
  subst hP hw hK
  obtain ⟨f0,f1,f2,f3,f4,f5⟩:=hf it (by simp)
  exact wpAny_pyNext_range_end (I.ok.hd hc) st (by have:n<=i:=hg;lia) fun h' eb=>⟨rfl,I.turned (t':=s.toks) (fun b o hb e=>eb b o hb e) f0 f1 f3 f4 f5⟩
 self:=fun _ _ _ _ _ st h=>wpAny_pyIter_rangeiter st h
end L2
namespace L2
open PySem PySem.Spec PyProof.Rows
section
variable {X:Cx} {tg:Expr}
def C6 (K:PySem.W.Frag) (tl:TE):TI:=fun σ H R=>tl σ H fun x H1=>∃ a,x=.ref a/\(∃ xs,SqL K H1 a xs)/\R (Itl K a) H1
def DY (K:PySem.W.Frag) (tl:TE):TI:=fun σ H R=>tl σ H fun x H1=>∃ a,x=.ref a/\(∃ xs,SqT K H1 a xs)/\R (Itt K a) H1
theorem yk {l:Expr} {tl:TE} (hl:PE X l tl):PI X tg l (C6 X.K tl):=by
 intro pins s σ H R I h
 refine thn (hl pins s σ H _ I h) fun v s1 ⟨x,H1,I1,r1,q1⟩=>?_
 obtain ⟨a,e,⟨xs,hq⟩,q⟩:=q1
 subst e
 cases r1
 obtain ⟨its,rv,p,hz⟩:=I1.list hq
 refine wpAny_pyIter_list p.isList ?_
 refine ⟨s1.heap.objs.size,[s1.heap.objs.size],_,_,H1,rfl,I1.kept (t':=s1.toks) fun b o e=>aa _ e,tw a _,⟨_,af _ rfl,rfl,rfl⟩,fun b hb=>?_,q⟩
 have e:b=s1.heap.objs.size:=by simpa using hb
 subst e
 exact I1.fpOk (aj _) (I1.hok.fresh (aj _))
theorem Bl {l:Expr} {tl:TE} (hl:PE X l tl):PI X tg l (DY X.K tl):=by
 intro pins s σ H R I h
 refine thn (hl pins s σ H _ I h) fun v s1 ⟨x,H1,I1,r1,q1⟩=>?_
 obtain ⟨a,e,⟨xs,hq⟩,q⟩:=q1
 subst e
 cases r1
 obtain ⟨its,rv,p,hz⟩:=I1.tuple hq
 refine wpAny_pyIter_tuple (show s1.heap.IsTuple a its.toArray from p) ?_
 refine ⟨s1.heap.objs.size,[s1.heap.objs.size],_,_,H1,rfl,I1.kept (t':=s1.toks) fun b o e=>aa _ e,rM a _,⟨_,af _ rfl,rfl,rfl⟩,fun b hb=>?_,q⟩
 have e:b=s1.heap.objs.size:=by simpa using hb
 subst e
 exact I1.fpOk (aj _) (I1.hok.fresh (aj _))
theorem pW {pins:List (Addr×Obj)} {σ:St} {H:Hp} {s:Shared} {R:It->Hp->Prop} {E:Value->Shared->Prop} {lo hi:Int} {t u v:Tok} {tk:Nat} (I:Inv X pins σ H s) (h1 : -(2 ^ 62)<=lo) (h2:lo<2 ^ 62) (h3 : -(2 ^ 62)<=hi) (h4:hi<2 ^ 62)
 (q:R (Itr lo (hi-lo).toNat) H):wpAny (model X.prog X.w) X.A (pyIter (.ref s.heap.objs.size)) (PIE X pins σ tg R) E { s with heap:=s.heap.push { cls:=.type "range",data:=.fields #[.int lo t,.int hi u,.int 1 v] },toks:=tk }:=by
 refine wpAny_pyIter_range (IsRange.new ..) (small_one h1 h2 h3 h4) ?_
 have I1:Inv X pins σ H { s with heap:=s.heap.push { cls:=.type "range",data:=.fields #[.int lo t,.int hi u,.int 1 v] },toks:=tk }:=I.kept fun b o e=>aa _ e
 refine ⟨(s.heap.push { cls:=.type "range",data:=.fields #[.int lo t,.int hi u,.int 1 v] }).objs.size,[(s.heap.push { cls:=.type "range",data:=.fields #[.int lo t,.int hi u,.int 1 v] }).objs.size],_,_,H,rfl,
  I1.kept (t':=tk) fun b o e=>aa _ e,rH _ lo (hi-lo).toNat,?_,fun b hb=>?_,q⟩
 ·have e1:lo+((0:Nat):Int)*1=lo:=by simp
  have e2:(((hi-lo).toNat:Nat):Int)-((0:Nat):Int)=Builtin.Range.rangeSize lo hi 1:=by rw [rangeSize_one];split<;>lia
  show IsRangeIter _ _ (lo+((0:Nat):Int)*1) ((((hi-lo).toNat:Nat):Int)-((0:Nat):Int)) 1
  rw [e1,e2]
  exact af _ rfl
 ·have e:b=(s.heap.push { cls:=.type "range",data:=.fields #[.int lo t,.int hi u,.int 1 v] }).objs.size:=by simpa using hb
  subst e
  exact I1.fpOk (aj _) (I1.hok.fresh (aj _))
def CB (ta:TA):TI:=fun σ H R=>ta σ H fun vs H1=>∃ j:Int,vs=[.int j]/\-(2 ^ 62)<=j/\j<2 ^ 62/\R (Itr 0 j.toNat) H1
def C2 (ta:TA):TI:=fun σ H R=>ta σ H fun vs H1=>∃ i j:Int,vs=[.int i,.int j]/\(-(2 ^ 62)<=i/\i<2 ^ 62/\-(2 ^ 62)<=j/\j<2 ^ 62)/\R (Itr i (j-i).toNat) H1
theorem uf {a:Expr} {ta:TA} {p pos:Pos} (hg:Gl X "range") (hm:X.mg "range" = none) (ha:PA X [a] ta) (hs:starEach [a] X.env=[(false,eval a X.env)]:=by rfl):PI X tg (.Call (.Name "range" p) [a] [] pos) (CB ta):=by
 intro pins s σ H R I h
 refine Call_ (fL I hg hm boot_range (PyProof.Rows.callWith_type1 (thn (ha pos pins s σ H _ I h) fun us s1 ⟨vs,H1,I1,r1,q1⟩=>?_) hs rfl))
 obtain ⟨j,e,q1,q2,q⟩:=q1
 subst e
 cases r1 with
 | cons r rr =>
   cases rr
   obtain ⟨t,rfl⟩:=r
   exact call_range_1 (pW I1 (by lia) (by lia) q1 q2 (by simpa using q))
theorem uJ {a b:Expr} {ta:TA} {p pos:Pos} (hg:Gl X "range") (hm:X.mg "range" = none) (ha:PA X [a,b] ta) (hs:starEach [a,b] X.env=[(false,eval a X.env),(false,eval b X.env)]:=by rfl) (hs2:starEach [b] X.env=[(false,eval b X.env)]:=by rfl) :
 PI X tg (.Call (.Name "range" p) [a,b] [] pos) (C2 ta):=by
 intro pins s σ H R I h
 refine Call_ (fL I hg hm boot_range (PyProof.Rows.callWith_type1 (thn (ha pos pins s σ H _ I h) fun us s1 ⟨vs,H1,I1,r1,q1⟩=>?_) (by rw [hs,hs2]) (by rw [hs2];rfl)))
 obtain ⟨i,j,e,⟨q1,q2,q3,q4⟩,q⟩:=q1
 subst e
 cases r1 with
 | cons r rr =>
   cases rr with
   | cons r' rr =>
     cases rr
     obtain ⟨t,rfl⟩:=r
     obtain ⟨t',rfl⟩:=r'
     exact call_range_2 (pW I1 q1 q2 q3 q4 q)
def Dx (wi:TI) (g:TG) (tb:TS):TS:=fun D σ H=>wi σ H fun J H1=>∃ W:Nat->Nat->St->Hp->Prop,(∃ m,W 0 m σ H1)/\∀ i m σ H,W i m σ H ->
 (J.stop i H/\D.nx σ H)\/(J.go i H/\∃ N:St->Hp->Prop,(∀ σ' H',N σ' H'->∃ m',m'<m/\W (i+1) m' σ' H')/\∀ x H',J.yld i H x H'->g x σ H' fun σ2 H2=>tb { D with nx:=N,ct:=N,bk:=D.nx } σ2 H2)
def m3 (fp:List Addr) (h:Heap):List (Addr×Obj):=fp.filterMap fun b=>(h.get? b).map fun o=>(b,o)
theorem gO {fp:List Addr} {h:Heap} {b:Addr} {o:Obj} (hb:b∈fp) (e:h.get? b=some o):(b,o)∈m3 fp h:=zW.mpr ⟨b,hb,by rw [e];rfl⟩
theorem se {fp:List Addr} {h:Heap} {p:Addr×Obj} (hp:p∈m3 fp h):p.1∈fp/\h.get? p.1=some p.2:=by
 obtain ⟨b,hb,e⟩:=zW.mp hp
 cases q:h.get? b with
 | none=>rw [q] at e;cases e
 | some o =>
   rw [q] at e
   have e':(b,o)=p:=Option.some.inj e
   subst e'
   exact ⟨hb,q⟩
theorem Inv.pinned {pins:List (Addr×Obj)} {σ:St} {H:Hp} {s:Shared} {fp:List Addr} (I:Inv X pins σ H s) (hf:∀ b∈fp,oG X pins H b) (ho:∀ b∈fp,∃ o,s.heap.get? b=some o/\∀ v,o.data≠.cell v):Inv X (pins++m3 fp s.heap) σ H s :=
 I.pins_of fun p hp=>(aG.mp hp).elim (fun z=>I.pin p (aN _ z)) fun z=>by
  obtain ⟨hb,e⟩:=se z
  obtain ⟨f0,f1,f2,_⟩:=hf p.1 hb
  obtain ⟨o,e',d⟩:=ho p.1 hb
  rw [e] at e';cases e'
  exact ⟨e,f0,f1,f2,d⟩
theorem Inv.unpinned {pins pl:List (Addr×Obj)} {σ:St} {H:Hp} {s:Shared} (I:Inv X (pins++pl) σ H s):Inv X pins σ H s:=I.pins_of fun p hp=>I.pin p (aN _ (dQ _ hp))
theorem xG {iter:Expr} {body:List Stmt} {wi:TI} {g:TG} {tb:TS} {pos:Pos} (hp:PassesOwn (model X.prog X.w) X.A X.env X.xe) (hc:X.calm=true) (hi:PI X tg iter wi) (hg:PG X tg g) (hb:PSs X body tb)
 (hs:∀ x,foldedSetIterable iter X.env x=pure x:=by intro _;rfl):PS X (.For tg iter body [] pos) (Dx wi g tb):=by
 intro pins s σ H D I h
 refine wpAny_For (thn (hi pins s σ H _ I h) fun v s1 h1=>thn h1 fun itv s2 h2=>?_) hs
 obtain ⟨it,fp,tn,J,H2,e,I2,T,st2,f2,W,⟨m0,w0⟩,turn⟩:=h2
 subst e
 have stat:∀ {H':Hp},(∀ b∈fp,H' b=none)->∀ b∈fp,oG X pins H' b:=fun hn b hb=>⟨hn b hb,(f2 b hb).2⟩
 refine codeAny_forLoop_any (fun n s'=>∃ i σ' H',Inv X pins σ' H' s'/\tn i s'.heap/\(∀ b∈fp,H' b=none)/\W i n σ' H') ?_ m0 ⟨0,σ,H2,I2,st2,fun b hb=>(f2 b hb).1,w0⟩
 rintro n s3 ⟨i,σ3,H3,I3,st3,fr3,w3⟩
 rcases turn i n σ3 H3 w3 with ⟨stop,qn⟩ | ⟨go,N,hN,step⟩
 ·refine wpAny_passesOwn hp (thn (T.done X rfl rfl rfl hc i pins s3 σ3 H3 X.xe I3 (stat fr3) st3 stop) fun r s4 ⟨hr,I4⟩=>?_)
  subst hr
  exact wpAny_execs_nil ⟨σ3,H3,I4,qn⟩
 ·refine wpAny_passesOwn hp (thn (T.item X rfl rfl rfl hc i pins s3 σ3 H3 X.xe I3 (stat fr3) st3 go) fun r s4 ⟨u,hr,h4⟩=>?_)
  subst hr
  refine wpAny_passesOwn hp (thn h4 fun _ s5 ⟨x,H5,I5,r5,y5,st5,fr5⟩=>?_)
  have I5':=I5.pinned (stat fr5) (T.obj _ _ st5)
  refine wpAny_passesOwn hp (thn (hg _ s5 σ3 H5 x u _ I5' r5 (step x H5 y5)) fun _ s6 ⟨σ6,H6,I6,q6⟩=>?_)
  refine wpAny_passesOwn hp (thn (hb _ s6 σ6 H6 _ I6 q6) fun f s7 q7=>?_)
  have again:∀ {σ7:St} {H7:Hp},Inv X (pins++m3 fp s5.heap) σ7 H7 s7->N σ7 H7->∃ m,m<n/\∃ i σ' H',Inv X pins σ' H' s7/\tn i s7.heap/\(∀ b∈fp,H' b=none)/\W i m σ' H':=fun {σ7 H7} I7 n7=>by
   obtain ⟨m',hm,w7⟩:=hN σ7 H7 n7
   refine ⟨m',hm,i+1,σ7,H7,I7.unpinned,T.keep _ _ _ st5 fun b hb o e=>(I7.pin (b,o) (aN _ (aN _ (gO hb e)))).1,fun b hb=>?_,w7⟩
   obtain ⟨o,e,d⟩:=T.obj _ _ st5 b hb
   exact (I7.pin (b,o) (aN _ (aN _ (gO hb e)))).2.1
  cases f with
  | next=>obtain ⟨σ7,H7,I7,n7⟩:=q7;exact again I7 n7
  | cont=>obtain ⟨σ7,H7,I7,n7⟩:=q7;exact again I7 n7
  | brk=>obtain ⟨σ7,H7,I7,q7⟩:=q7;exact ⟨σ7,H7,I7.unpinned,q7⟩
  | ret v=>obtain ⟨x7,σ7,H7,I7,r7,q7⟩:=q7;exact ⟨x7,σ7,H7,I7.unpinned,r7,q7⟩
end
end L2
namespace L2
open PySem PySem.Spec PyProof.Rows
abbrev R2:=V->V->Hp->VK->Prop
def OpR (X:Cx) (f:Value->Value->Sem Value) (r:R2):Prop :=
 ∀ (pins:List (Addr×Obj)) (s:Shared) (σ:St) (H:Hp) (x y:V) (v u:Value) (Q:VK),Inv X pins σ H s->dB x v->dB y u->r x y H Q ->
   wpAny (model X.prog X.w) X.A (f v u) (EP X pins σ Q) X.xe s
def UnR (X:Cx) (f:Value->Sem Value) (r:V->Hp->VK->Prop):Prop :=
 ∀ (pins:List (Addr×Obj)) (s:Shared) (σ:St) (H:Hp) (x:V) (v:Value) (Q:VK),Inv X pins σ H s->dB x v->r x H Q ->
   wpAny (model X.prog X.w) X.A (f v) (EP X pins σ Q) X.xe s
def i7 (X:Cx) (f:Value) (r:List V->Hp->VK->Prop):Prop :=
 ∀ (pins:List (Addr×Obj)) (s:Shared) (σ:St) (H:Hp) (xs:List V) (us:List Value) (Q:VK),Inv X pins σ H s->cq xs us->r xs H Q ->
   wpAny (model X.prog X.w) X.A (call f us) (EP X pins σ Q) X.xe s
def DT (X:Cx) (r:V->Hp->(Bool->Hp->Prop)->Prop):Prop :=
 ∀ (pins:List (Addr×Obj)) (s:Shared) (σ:St) (H:Hp) (x:V) (v:Value) (Q:Bool->Hp->Prop),Inv X pins σ H s->dB x v->r x H Q ->
   wpAny (model X.prog X.w) X.A (truthy v) (TP X pins σ Q) X.xe s
def tOp (r:R2) (ta tb:TE):TE:=fun σ H Q=>ta σ H fun x H1=>tb σ H1 fun y H2=>r x y H2 Q
def tUn (r:V->Hp->VK->Prop) (ta:TE):TE:=fun σ H Q=>ta σ H fun x H1=>r x H1 Q
def rI (C:Int->Int->Prop) (g:Int->Int->V):R2:=fun x y H Q=>∃ i j,x=.int i/\y=.int j/\C i j/\Q (g i j) H
def rI0 (g:Int->Int->V):R2:=fun x y H Q=>∃ i j,x=.int i/\y=.int j/\Q (g i j) H
def rU (g:Int->V):V->Hp->VK->Prop:=fun x H Q=>∃ i,x=.int i/\Q (g i) H
section
variable {X:Cx} {a b c:Expr} {ta tb tc:TE} {pos:Pos}
theorem C3 (ha:PE X a ta) (hb:PE X b tb) {pins:List (Addr×Obj)} {s:Shared} {σ:St} {H:Hp} {R:V->V->Hp->Prop} (I:Inv X pins σ H s)
 (h:ta σ H fun x H1=>tb σ H1 fun y H2=>R x y H2) {Q:Value->Shared->Prop} {f:Value->Value->Sem Value}
 (hf:∀ v u s2 x y H2,Inv X pins σ H2 s2->dB x v->dB y u->R x y H2->wpAny (model X.prog X.w) X.A (f v u) Q X.xe s2) :
 wpAny (model X.prog X.w) X.A (eval a X.env) (fun v s₁=>wpAny (model X.prog X.w) X.A (eval b X.env) (fun u s₂=>wpAny (model X.prog X.w) X.A (f v u) Q X.xe s₂) X.xe s₁) X.xe s:=by
 refine thn (ha pins s σ H _ I h) fun v s1 ⟨x,H1,I1,r1,q1⟩=>?_
 refine thn (hb pins s1 σ H1 _ I1 q1) fun u s2 ⟨y,H2,I2,r2,q2⟩=>?_
 exact hf v u s2 x y H2 I2 r1 r2 q2
theorem CA {op:Operator} {r:R2} (ho:OpR X (binaryOp op) r) (ha:PE X a ta) (hb:PE X b tb):PE X (.BinOp a op b pos) (tOp r ta tb):=by
 intro pins s σ H Q I h
 exact wpAny_BinOp (C3 ha hb I h fun v u s2 x y H2 I2 rx ry q=>ho pins s2 σ H2 x y v u Q I2 rx ry q)
theorem Di {op:UnaryOp} {r:V->Hp->VK->Prop} (ho:UnR X (unaryOp op) r) (ha:PE X a ta):PE X (.UnaryOp op a pos) (tUn r ta):=by
 intro pins s σ H Q I h
 exact UnaryOp_ (thn (ha pins s σ H _ I h) fun v s1 ⟨x,H1,I1,r1,q1⟩=>ho pins s1 σ H1 x v Q I1 r1 q1)
theorem opI {f:Value->Value->Sem Value} {C:Int->Int->Prop} {g:Int->Int->Int}
 (rule:∀ (i j:Int) (t u:Tok) (s:Shared) (Q:Value->Shared->Prop) (E:Value->Shared->Prop),C i j->Q (.int (g i j) s.toks) { s with toks:=s.toks+1 }->wpAny (model X.prog X.w) X.A (f (.int i t) (.int j u)) Q E s) :
 OpR X f (rI C fun i j=>.int (g i j)):=by
 intro pins s σ H x y v u Q I rx ry h
 obtain ⟨i,j,rfl,rfl,hc,q⟩:=h
 obtain ⟨t,rfl⟩:=rx
 obtain ⟨t',rfl⟩:=ry
 exact rule i j t t' s _ _ hc ⟨.int (g i j),H,I.tok _,⟨_,rfl⟩,q⟩
theorem DN {f:Value->Value->Sem Value} {g:Int->Int->Int}
 (rule:∀ (i j:Int) (t u:Tok) (s:Shared) (Q:Value->Shared->Prop) (E:Value->Shared->Prop),Q (.int (g i j) s.toks) { s with toks:=s.toks+1 }->wpAny (model X.prog X.w) X.A (f (.int i t) (.int j u)) Q E s) :
 OpR X f (rI0 fun i j=>.int (g i j)):=by
 intro pins s σ H x y v u Q I rx ry h
 obtain ⟨i,j,rfl,rfl,q⟩:=h
 obtain ⟨t,rfl⟩:=rx
 obtain ⟨t',rfl⟩:=ry
 exact rule i j t t' s _ _ ⟨.int (g i j),H,I.tok _,⟨_,rfl⟩,q⟩
theorem C7 {f:Value->Value->Sem Value} {g:Int->Int->Bool}
 (rule:∀ (i j:Int) (t u:Tok) (s:Shared) (Q:Value->Shared->Prop) (E:Value->Shared->Prop),Q (.bool (g i j)) s->wpAny (model X.prog X.w) X.A (f (.int i t) (.int j u)) Q E s) :
 OpR X f (rI0 fun i j=>.bl (g i j)):=by
 intro pins s σ H x y v u Q I rx ry h
 obtain ⟨i,j,rfl,rfl,q⟩:=h
 obtain ⟨t,rfl⟩:=rx
 obtain ⟨t',rfl⟩:=ry
 exact rule i j t t' s _ _ ⟨.bl (g i j),H,I,rfl,q⟩
def Cm (i j:Int):Prop:=(-(2 ^ 64)<i/\i<2 ^ 64)\/(-(2 ^ 64)<j/\j<2 ^ 64)
theorem Cm.ok {i j:Int} (h:Cm i j):IntMulOk i j:=by
 rcases h with ⟨h1,h2⟩ | ⟨h1,h2⟩
 ·exact .of_left (intBits_le_64 h1 h2)
 ·exact .of_right (intBits_le_64 h1 h2)
theorem At:OpR X (binaryOp .Add) (rI0 fun i j=>.int (i+j)):=DN fun _ _ _ _ _ _ _ q=>add_int q
theorem A2:OpR X (binaryOp .Sub) (rI0 fun i j=>.int (i-j)):=DN fun _ _ _ _ _ _ _ q=>sub_int q
theorem BB:OpR X (binaryOp .Mult) (rI Cm fun i j=>.int (i*j)):=opI fun _ _ _ _ _ _ _ hc q=>mul_int q hc.ok
theorem Ap:OpR X (binaryOp .Mod) (rI (fun _ j=>0<j) fun i j=>.int (i%j)):=opI fun i j _ _ _ _ _ hc q=>by
 have h1:(0:Int)<j:=hc
 exact mod_int' (by lia) (by rw [Int.fmod_eq_emod_of_nonneg i (by lia)];exact q)
theorem unI {f:Value->Sem Value} {g:Int->Int}
 (rule:∀ (i:Int) (t:Tok) (s:Shared) (Q:Value->Shared->Prop) (E:Value->Shared->Prop),Q (.int (g i) s.toks) { s with toks:=s.toks+1 }->wpAny (model X.prog X.w) X.A (f (.int i t)) Q E s) :
 UnR X f (rU fun i=>.int (g i)):=by
 intro pins s σ H x v Q I rx h
 obtain ⟨i,rfl,q⟩:=h
 obtain ⟨t,rfl⟩:=rx
 exact rule i t s _ _ ⟨.int (g i),H,I.tok _,⟨_,rfl⟩,q⟩
theorem AA:UnR X (unaryOp .USub) (rU fun i=>.int (-i)):=unI fun _ _ _ _ _ q=>neg_int q
end
section
variable {X:Cx} {a b c:Expr} {ta tb tc:TE} {pos:Pos}
theorem Ct:OpR X (compareOp .Lt) (rI0 fun i j=>.bl (decide (i<j))):=C7 fun _ _ _ _ _ _ _ q=>lt_int q
theorem CQ:OpR X (compareOp .LtE) (rI0 fun i j=>.bl (decide (i<=j))):=C7 fun _ _ _ _ _ _ _ q=>le_int q
theorem CC:OpR X (compareOp .Gt) (rI0 fun i j=>.bl (decide (j<i))):=C7 fun _ _ _ _ _ _ _ q=>gt_int q
theorem OpR.or {f:Value->Value->Sem Value} {r r':R2} (h:OpR X f r) (h':OpR X f r'):OpR X f (fun x y H Q=>r x y H Q\/r' x y H Q):=by
 intro pins s σ H x y v u Q I rx ry q
 rcases q with q | q
 ·exact h pins s σ H x y v u Q I rx ry q
 ·exact h' pins s σ H x y v u Q I rx ry q
theorem qM (b:Expr) {op:CmpOp} (h:op≠.In:=by decide) (h2:op≠.NotIn:=by decide):behindInMarks op b=false:=by
 have e1:(op == CmpOp.In)=false:=by cases op<;>first | rfl | exact absurd rfl h
 have e2:(op == CmpOp.NotIn)=false:=by cases op<;>first | rfl | exact absurd rfl h2
 cases b<;>simp [behindInMarks,e1,e2]
theorem yy {op:CmpOp} {r:R2} (ho:OpR X (compareOp op) r) (ha:PE X a ta) (hb:PE X b tb) (hm:behindInMarks op b=false):PE X (.Compare a [op] [b] pos) (tOp r ta tb):=by
 intro pins s σ H Q I h
 exact wpAny_Compare1 (C3 ha hb I h fun v u s2 x y H2 I2 rx ry q=>ho pins s2 σ H2 x y v u Q I2 rx ry q) hm
def yV (t:TE):TT:=fun σ H Q=>t σ H fun x H'=>∃ k,x=.bl k/\Q k H'
theorem yv {op:CmpOp} {r:R2} (ho:OpR X (compareOp op) r) (ha:PE X a ta) (hb:PE X b tb) (hm:behindInMarks op b=false):PT X (.Compare a [op] [b] pos) (yV (tOp r ta tb)):=by
 intro pins s σ H Q I h
 refine wpAny_isTrue_Compare1 (thn (ha pins s σ H _ I h) fun v s1 ⟨x,H1,I1,r1,q1⟩=>thn (hb pins s1 σ H1 _ I1 q1) fun u s2 ⟨y,H2,I2,r2,q2⟩ =>
  thn (ho pins s2 σ H2 x y v u _ I2 r1 r2 q2) fun c s3 ⟨z,H3,I3,r3,k,e,q3⟩=>?_) hm
 subst e
 cases r3
 exact wpAny_truthy_bool ⟨H3,I3,q3⟩
def xo (r r':R2) (ta tb tc:TE):TE:=fun σ H Q=>ta σ H fun x H1=>tb σ H1 fun y H2=>r x y H2 fun z H3=>∃ k,z=.bl k /\
 (if k=true then tc σ H3 fun w' H4=>r' y w' H4 Q else Q (.bl false) H3)
theorem vH {op op':CmpOp} {r r':R2} (ho:OpR X (compareOp op) r) (ho':OpR X (compareOp op') r') (ha:PE X a ta) (hb:PE X b tb) (hc:PE X c tc)
 (hm:lastMarks [op,op'] [b,c]=false:=by with_unfolding_all rfl):PT X (.Compare a [op,op'] [b,c] pos) (yV (xo r r' ta tb tc)):=by
 intro pins s σ H Q I h
 refine isTrue_chain (thn (ha pins s σ H _ I h) fun v s1 ⟨x,H1,I1,r1,q1⟩=>test_link (thn (hb pins s1 σ H1 _ I1 q1) fun u s2 ⟨y,H2,I2,r2,q2⟩ =>
  thn (ho pins s2 σ H2 x y v u _ I2 r1 r2 q2) fun d s3 ⟨z,H3,I3,r3,k,e,q3⟩=>?_)) hm
 subst e
 cases r3
 refine wpAny_truthy_bool ?_
 cases k with
 | false =>
   obtain ⟨k',e',q'⟩:=q3
   cases e'
   exact ite_ff ⟨H3,I3,q'⟩
 | true =>
   refine ite_tt (test_last (thn (hc pins s3 σ H3 _ I3 q3) fun w' s4 ⟨z',H4,I4,r4,q4⟩=>thn (ho' pins s4 σ H4 y z' u w' _ I4 r2 r4 q4) fun d' s5 ⟨z2,H5,I5,r5,k2,e2,q5⟩=>?_))
   subst e2
   cases r5
   exact wpAny_truthy_bool ⟨H5,I5,q5⟩
def DH (K:PySem.W.Frag) (x:V) (H:Hp) (k:Bool):Prop :=
 match x with
 | .non=>k=false
 | .bl b=>k=b
 | .int i=>k=(i != 0)
 | .str y=>y.length<=sizeLine/\k=((y.length:Int) != 0)
 | .byt y=>y.size<=sizeLine/\k=((y.size:Int) != 0)
 | .ref p=>(∃ xs,SqL K H p xs/\k = !xs.isEmpty)\/(∃ xs,SqT K H p xs/\k = !xs.isEmpty)\/∃ kvs,H p=some (.dK kvs)/\k = !kvs.isEmpty
 | _=>False
theorem rR {κ:Type} {kvs:List (κ×V)} {vs:List (κ×Value)} (r:KV kvs vs):(!vs.isEmpty) = !kvs.isEmpty:=by
 cases r<;>rfl
theorem kN {xs:List V} {its:List Value} (r:cq xs its):(!its.toArray.isEmpty) = !xs.isEmpty:=by
 cases r<;>simp
theorem nH:(sizeLine:Nat)<2 ^ 63:=by rw [sizeLine_eq];decide
theorem BS:DT X (fun x H Q=>∃ k,DH X.K x H k/\Q k H):=by
 intro pins s σ H x v Q I rx h
 obtain ⟨k,e,q⟩:=h
 have hl:=nH
 have hs:sizeLine=16777216:=sizeLine_eq
 cases x with
 | non =>
   cases rx
   have e':k=false:=e
   subst e'
   exact truthy_none ⟨H,I,q⟩
 | bl b =>
   cases rx
   have e':k=b:=e
   subst e'
   exact wpAny_truthy_bool ⟨H,I,q⟩
 | int i =>
   obtain ⟨t,rfl⟩:=rx
   have e':k=(i != 0):=e
   subst e'
   exact PySem.P.truthy_int ⟨H,I,q⟩
 | str y =>
   obtain ⟨t,rfl⟩:=rx
   obtain ⟨hy,e'⟩:y.length<=sizeLine/\k=((y.length:Int) != 0):=e
   subst e'
   exact PySem.P.truthy_str (by lia) ⟨H,I.tok _,q⟩
 | byt y =>
   obtain ⟨t,rfl⟩:=rx
   obtain ⟨hy,e'⟩:y.size<=sizeLine/\k=((y.size:Int) != 0):=e
   subst e'
   exact PySem.W.truthy_bytes (by lia) ⟨H,I.tok _,q⟩
 | ref p =>
   cases rx
   have e':(∃ xs,SqL X.K H p xs/\k = !xs.isEmpty)\/(∃ xs,SqT X.K H p xs/\k = !xs.isEmpty)\/∃ kvs,H p=some (.dK kvs)/\k = !kvs.isEmpty:=e
   rcases e' with ⟨xs,hx,e'⟩ | ⟨xs,hx,e'⟩ | ⟨kvs,hx,e'⟩
   ·subst e'
    obtain ⟨its,r,pl,hz⟩:=I.list hx
    have hlen:=r.length
    exact wpAny_truthy_list pl.isList (by simp only [aq];lia) ⟨H,I.tok _,by rw [kN r];exact q⟩
   ·subst e'
    obtain ⟨its,r,pl,hz⟩:=I.tuple hx
    have hlen:=r.length
    exact truthy_tuple pl (by simp only [aq];lia) ⟨H,I.tok _,by rw [kN r];exact q⟩
   ·subst e'
    obtain ⟨hz,hS,vs,r,m⟩:kvs.length<=sizeLine/\(p == sysModules)=false/\∃ vs,KV kvs vs/\s.heap.DictOf (cz X.prog X.w) p vs:=I.hok p _ hx
    have hlen:kvs.length=vs.length:=Paired.length r
    exact wpAny_truthy_dict hS m (by lia) ⟨H,I.tok _,by rw [rR r];exact q⟩
 | _=>exact (show False from e).elim
theorem vK (ha:PE X a ta) (he:∀ whole,isTrue a X.env whole=(do let v <- whole;standAt a.pos;holding [v] (truthy v))) :
 PT X a (fun σ H Q=>ta σ H fun x H'=>∃ k,DH X.K x H' k/\Q k H'):=by
 intro pins s σ H Q I h
 exact isTrue_plain (thn (ha pins s σ H _ I h) fun v s1 ⟨x,H1,I1,r1,q1⟩=>BS pins s1 σ H1 x v Q I1 r1 q1) (he _)
theorem kD {x:V} {us:List Value} (r:cq [x] us):∃ u,us=[u]/\dB x u:=by
 cases r with
 | cons r1 r2=>cases r2;exact ⟨_,rfl,r1⟩
theorem CK {x y:V} {us:List Value} (r:cq [x,y] us):∃ u w',us=[u,w']/\dB x u/\dB y w':=by
 cases r with
 | cons r1 r2 =>
   cases r2 with
   | cons r3 r4=>cases r4;exact ⟨_,_,rfl,r1,r3⟩
end
end L2
namespace L2
open PySem PySem.Spec PyProof.Rows
section
variable {prog:Program} {w:World} {A:Around} {E:Value->Shared->Prop} {s:Shared} {K:PySem.W.Frag} {x dx C f:Addr} {mA:Str->Option Value} {name:Str} {v:Value}
end
theorem rV.some_of {v:V} {o:Option Value} (r:rV (some v) o):∃ u,o=some u/\dB v u:=by
 cases o with
 | none=>exact (show False from r).elim
 | some u=>exact ⟨u,rfl,r⟩
section
variable {P:Program} {w:World} {H H':Hp} {h h':Heap} {a C dx:Addr} {fs fs':List (Str×V)}
end
section
variable {X:Cx} {pins:List (Addr×Obj)} {σ:St} {H:Hp} {s:Shared} {a C dx:Addr} {fs:List (Str×V)} {f:Str} {v:V} {A:Around} {E:Value->Shared->Prop}
end
section
variable {X:Cx} {o e value:Expr} {f:Str} {pos pos' tpos:Pos} {ta tv:TE}
end
section
variable {X:Cx} {pins:List (Addr×Obj)} {σ:St} {H:Hp} {s:Shared} {A:Around} {E:Value->Shared->Prop} {Q:Value->Shared->Prop} {c:Value} {b:Bool}
end
end L2
namespace L2
open PySem PySem.Spec PyProof.Rows
structure fq (k:Nat) (A:Around):Prop where
 hd:A.handled=none
 dp:A.depth+3*k+5<recursionLimit
 un:A.units+16*k+200<cLine
theorem fq.mono {j k:Nat} {A:Around} (r:fq k A) (h:j<=k):fq j A:=⟨r.hd,by have:=r.dp;lia,by have:=r.un;lia⟩
theorem fq.deeper {k:Nat} {A:Around} (r:fq (k+1) A) (env:Env):fq k (A.deeper env) :=
 ⟨r.hd,by have:=r.dp;show A.depth+1+3*k+5<_;lia,by have:=r.un;show A.units+3+16*k+200<_;lia⟩
theorem fq.in1 {k:Nat} {A:Around} (r:fq (k+1) A):fq k A.in1 :=
 ⟨r.hd,by have:=r.dp;show A.depth+3*k+5<_;lia,by have:=r.un;show A.units+1+16*k+200<_;lia⟩
theorem fq.depth {k:Nat} {A:Around} (r:fq k A):A.depth<recursionLimit:=by have:=r.dp;lia
theorem fq.units {k:Nat} {A:Around} (r:fq k A):A.units+64<cLine:=by have:=r.un;lia
def C9:TA:=fun _ H Q=>Q [] H
def zP (ta:TE) (tr:TA):TA:=fun σ H Q=>ta σ H fun x H1=>tr σ H1 fun xs H2=>Q (x::xs) H2
section
variable {X:Cx} {e:Expr} {es:List Expr} {te:TE} {t:TA} {pos:Pos}
theorem j5:PA X [] C9:=fun _ _ _ _ H Q I h=>Calls.spliced_nil ⟨[],H,I,.nil,h⟩
theorem gJ (ha:PE X e te) (hr:PA X es t) (hs:starEach (e::es) X.env=(false,eval e X.env)::starEach es X.env:=by rfl):PA X (e::es) (zP te t):=by
 intro pos pins s σ H Q I h
 rw [hs]
 show wpAny _ _ (spliced ((false,eval e X.env)::backTo pos (starEach es X.env))) _ _ s
 refine Calls.spliced_cons (thn (ha pins s σ H _ I h) fun u s1 ⟨x,H1,I1,r1,q1⟩=>?_)
 exact thn (hr pos pins s1 σ H1 _ I1 q1) fun us s2 ⟨xs,H2,I2,r2,q2⟩=>⟨x::xs,H2,I2,.cons r1 r2,q2⟩
def D3 (t:TA):TE:=fun σ H Q=>t σ H fun xs H1=>xs.length<=sizeLine/\∀ p,H1 p=none->Q (.ref p) (upd H1 p (.tup xs))
def DZ (t:TA):TE:=fun σ H Q=>t σ H fun xs H1=>xs.length<=sizeLine/\∀ p,H1 p=none->Q (.ref p) (upd H1 p (.lst xs))
theorem An {x1} (h:PA X es t):PE X (.Tuple es x1 pos) (D3 t):=by
 intro pins s σ H Q I hq
 refine wpAny_Tuple_spliced (thn (h pos pins s σ H _ I hq) fun us s1 ⟨xs,H1,I1,r,z,q⟩=>⟨by rw [<- r.length];exact z,?_⟩)
 have hf:H1 s1.heap.objs.size=none:=I1.hok.fresh (aj _)
 refine ⟨.ref s1.heap.objs.size,upd H1 s1.heap.objs.size (.tup xs),I1.laid (t':=s1.toks) (fun b u e=>aa _ e) (aj _) ?_,rfl,q _ hf⟩
 exact ⟨⟨z,jj.new _ _⟩,us,r,⟨_,af _ rfl,rfl,_,rfl⟩⟩
theorem BK (h:PA X es t):PE X (.List es pos) (DZ t):=by
 intro pins s σ H Q I hq
 refine wpAny_List_spliced (thn (h pos pins s σ H _ I hq) fun us s1 ⟨xs,H1,I1,r,z,q⟩=>⟨by rw [<- r.length];exact z,?_⟩)
 have hf:H1 s1.heap.objs.size=none:=I1.hok.fresh (aj _)
 refine ⟨.ref s1.heap.objs.size,upd H1 s1.heap.objs.size (.lst xs),I1.laid (t':=s1.toks) (fun b u e=>aa _ e) (aj _) ?_,rfl,q _ hf⟩
 exact ⟨z,us,0,r,af _ rfl⟩
end
abbrev Sp:=List V->Hp->VK->XK->Prop
abbrev CXT:=List Env->Hp->Shared->XK->Value->Shared->Prop
structure Ch (P:Program) (w:World) (K:PySem.W.Frag) (mg:Str->Option Value) (base:Heap) (A:Around) (outer:List Env) (s:Shared) (H:Hp):Prop where
 frames:A.frames=some outer
 mod:Mod K mg base
 bs:∀ b o,base.get? b=some o->s.heap.get? b=some o/\H b=none
 bsz:base.objs.size<=s.heap.objs.size
 funs:s.heap.FunFrames base outer
 frf:∀ b∈frs outer,H b=none
 hok:HOk P w H s.heap
 bare:AllBare s.gens
def CE (outer:List Env) (P:Program) (w:World) (H:Hp) (s:Shared) (Q:VK) (u:Value) (s':Shared):Prop :=
 ∃ v H',s'.os=s.os/\AllBare s'.gens/\Un (frs outer) [] H H' s.heap s'.heap/\HOk P w H' s'.heap/\dB v u/\Q v H'
def CR (CX:CXT) (outer:List Env) (P:Program) (w:World) (H:Hp) (s:Shared) (Q:VK) (E:XK) (r:Result) (s':Shared):Prop :=
 match r with
 | .ok (.ret u)=>CE outer P w H s Q u s'
 | .ok _=>False
 | .error e=>CX outer H s E e s'
structure rp (P:Program) (w:World) (K:PySem.W.Frag) (mg:Str->Option Value) (base:Heap) (CX:CXT) (k:Nat) (f:Addr) (fd:FuncData) (ps:List Str) (sp:Sp):Prop where
 len:∀ vs H Q E,sp vs H Q E->vs.length=ps.length
 run:∀ (A:Around) (outer:List Env) (s:Shared) (H:Hp) (args:Args) (us:List Value) (vs:List V) (Q:VK) (E:XK),fq k A->Ch P w K mg base A outer s H->BindsTo s fd args (ps.zip us)->cq vs us->sp vs H Q E ->
  codeAny (model P w) A (.call (.ref f) args) (CR CX outer P w H s Q E) s
section
variable {X:Cx} {pins:List (Addr×Obj)} {σ:St} {H:Hp} {s s':Shared}
theorem Inv.env0 (I:Inv X pins σ H s):Ch X.prog X.w X.K X.mg X.base X.A X.stack s H :=
 ⟨I.ok.frames,I.ok.mod,I.bs,bH I.ok.bsz I.sz,I.stack,I.stkFree,I.hok,I.bare⟩
theorem Inv.after {Q:VK} {u:Value} (I:Inv X pins σ H s) (h:CE X.stack X.prog X.w H s Q u s'):EP X pins σ Q u s':=by
 obtain ⟨v,H',os,bare,un,hok,r,q⟩:=h
 obtain ⟨hh,g,d,t,os'⟩:=s'
 obtain rfl:os'=s.os:=os
 exact ⟨v,H',I.call (h':=hh) (g':=g) (d':=d) (t':=t) (ch:=[]) un hok bare (fun b z=>absurd z (by simp)),r,q⟩
end
def Dm (sp:Sp) (dvs:List V) (E:XK) (t:TA):TE:=fun σ H Q=>t σ H fun vs H1=>sp (vs++dvs) H1 Q E
def pO (K:PySem.W.Frag) (fd:FuncData) (ps:List Str) (ds:List Value):Prop :=
 ∀ (s:Shared) (us:List Value),K.In s.heap->(us++ds).length=ps.length->BindsTo s fd ⟨us,[]⟩ (ps.zip (us++ds))
theorem pO.all {K:PySem.W.Frag} {fd:FuncData} {ps:List Str} (h:∀ us:List Value,us.length=ps.length->bindArgs fd ⟨us,[]⟩=pure (ps.zip us)):pO K fd ps []:=fun s us _ hl=>by
 rw [ce] at hl ⊢
 exact .of_eq (h us hl)
def sW (CX:CXT) (X:Cx) (E:XK):Prop:=∀ (pins:List (Addr×Obj)) (σ:St) (H:Hp) (s:Shared) (e:Value) (s':Shared),Inv X pins σ H s->CX X.stack H s E e s'->X.xe e s'
section
variable {X:Cx} {CX:CXT} {k:Nat} {f C:Addr} {fd:FuncData} {ps:List Str} {sp:Sp} {dvs:List V} {ds:List Value} {E:XK} {x m:Str} {p pos apos:Pos} {e o:Expr} {es:List Expr} {ta:TE} {t:TA}
theorem B1 {pins:List (Addr×Obj)} {σ:St} {H:Hp} {s:Shared} {Q:VK} {us:List Value} {vs:List V} (F:rp X.prog X.w X.K X.mg X.base CX k f fd ps sp) (hr:fq k X.A) (hb:pO X.K fd ps ds) (hd:cq dvs ds) (hx:sW CX X E)
 (I:Inv X pins σ H s) (r:cq vs us) (h:sp (vs++dvs) H Q E):wpAny (model X.prog X.w) X.A (call (.ref f) us) (EP X pins σ Q) X.xe s:=by
 have r2:cq (vs++dvs) (us++ds):=r.append hd
 have hl:(us++ds).length=ps.length:=by rw [<- r2.length];exact F.len _ _ _ _ h
 refine wpAny_call (codeAny_mono (F.run X.A X.stack s H ⟨us,[]⟩ (us++ds) (vs++dvs) Q E hr I.env0 (hb s us I.kIn hl) r2 h) fun r s' hq=>?_)
 cases r with
 | error e=>exact hx pins σ H s e s' I hq
 | ok fl =>
   cases fl with
   | ret u=>exact I.after hq
   | next=>exact False.elim hq
   | brk=>exact False.elim hq
   | cont=>exact False.elim hq
theorem za (F:rp X.prog X.w X.K X.mg X.base CX k f fd ps sp) (hr:fq k X.A) (hg:Gl X x) (hm:X.mg x=some (.ref f)) (hk:PySem.W.keepIn X.K (.ref f)=true) (hb:pO X.K fd ps ds) (hd:cq dvs ds) (hx:sW CX X E)
 (ha:PA X (e::es) t) (hdb:(x == ("__debug__" : Str))=false:=by decide) (he:starEach (e::es) X.env=(false,eval e X.env)::starEach es X.env:=by rfl) (hpl:(backTo pos (starEach es X.env)).any (·.1)=false:=by rfl) :
 PE X (.Call (.Name x p) (e::es) [] pos) (Dm sp dvs E t):=by
 intro pins s σ H Q I h
 refine wpAny_Call_Name_kw (y4 I hg hm ?_ hdb)
 refine PySem.W.callWith_K (h₀:=X.base) I.ok.mod.kin hk (thn (ha pos pins s σ H _ I h) fun us s1 ⟨vs,H1,I1,r,q⟩=>⟨I1.kIn,?_⟩) he hpl
 exact B1 F hr hb hd hx I1 r q
end
section
variable {X:Cx} {CX:CXT} {k:Nat} {f C:Addr} {fd:FuncData} {ps ks:List Str} {sp:Sp} {E:XK} {x m:Str} {p pos apos kpos:Pos} {e o:Expr} {es:List Expr} {kws:List Keyword} {te ta:TE} {t tk:TA} {nm:Option Str}
variable {g:List Value->List Value->List Value} {gV:List V->List V->List V}
end
structure cp (N P:List Str) (sc:Scope):Prop where
 kind:sc.kind=.function
 co:sc.isCoroutine=false
 gen:sc.isGenerator=false
 nd:N.Nodup
 pre:N.take P.length=P
 par:∀ x∈P,sc.names.lookup x=some .local\/sc.names.lookup x=some .cell
 nofree:∀ y∈sc.names,y.2≠.free
theorem nI {kindOf:Str->Option NameKind} {x:Str}:∀ {binds:List (Str×Value)} {m:Str->Option Value},(∀ v,(x,v)∉binds)->bindL kindOf binds m x=m x
 | [],_,_=>rfl
 | (n,v)::r,m,h=>by
   unfold bindL
   rw [nI fun w hw=>h w (ai _ hw)]
   split
   ·have:x≠n:=by rintro rfl;exact h v ak
    simp [this]
   ·rfl
theorem nL {kindOf:Str->Option NameKind} {x:Str}:∀ {binds:List (Str×Value)} {m:Str->Option Value},(∀ v,(x,v)∉binds)->bindC kindOf binds m x=m x
 | [],_,_=>rfl
 | (n,v)::r,m,h=>by
   unfold bindC
   rw [nL fun w hw=>h w (ai _ hw)]
   split
   ·rfl
   ·have:x≠n:=by rintro rfl;exact h v ak
    simp [this]
theorem nF {kindOf:Str->Option NameKind} {x:Str} {v:Value}:∀ {P:List Str} {vs:List Value} {i:Nat} {m:Str->Option Value},P.Nodup->P[i]?=some x->vs[i]?=some v->kindOf x=some .local ->
 bindL kindOf (P.zip vs) m x=some v
 | [],_,_,_,_,h,_,_=>by simp at h
 | _::_,[],_,_,_,_,h,_=>by simp at h
 | p::P,w::vs,0,m,nd,h1,h2,hk=>by
   simp at h1 h2;subst h1;subst h2
   show bindL kindOf ((p,w)::P.zip vs) m p=_
   unfold bindL
   rw [nI fun v hv=>(be.mp nd).1 (oJ hv).1,if_pos hk]
   simp
 | p::P,w::vs,i+1,m,nd,h1,h2,hk=>by
   show bindL kindOf ((p,w)::P.zip vs) m x=_
   unfold bindL
   exact nF (i:=i) (be.mp nd).2 (by simpa using h1) (by simpa using h2) hk
theorem nK {kindOf:Str->Option NameKind} {x:Str} {v:Value}:∀ {P:List Str} {vs:List Value} {i:Nat} {m:Str->Option Value},P.Nodup->P[i]?=some x->vs[i]?=some v->kindOf x≠some .local ->
 bindC kindOf (P.zip vs) m x=some v
 | [],_,_,_,_,h,_,_=>by simp at h
 | _::_,[],_,_,_,_,h,_=>by simp at h
 | p::P,w::vs,0,m,nd,h1,h2,hk=>by
   simp at h1 h2;subst h1;subst h2
   show bindC kindOf ((p,w)::P.zip vs) m p=_
   unfold bindC
   rw [nL fun v hv=>(be.mp nd).1 (oJ hv).1,if_neg hk]
   simp
 | p::P,w::vs,i+1,m,nd,h1,h2,hk=>by
   show bindC kindOf ((p,w)::P.zip vs) m x=_
   unfold bindC
   exact nK (i:=i) (be.mp nd).2 (by simpa using h1) (by simpa using h2) hk
def start (N:List Str) (vs:List V):St:=vs.map some++Ds (N.length-vs.length) none
def jD (CX:CXT) (P:Program) (w:World) (K:PySem.W.Frag) (mg:Str->Option Value) (base:Heap) (N:List Str) (qual:Str) (scope:Scope) (f:Addr) (cd:Value) (A:Around) (outer:List Env) (s:Shared) (H:Hp) (E:XK):Cx where
 prog:=P
 w:=w
 K:=K
 mg:=mg
 base:=base
 A:=A.deeper (envOfC qual scope s.heap.objs.size f cd)
 N:=N
 s₀:=s
 H₀:=H
 env:=envOfC qual scope s.heap.objs.size f cd
 outer:=outer
 stack:=envOfC qual scope s.heap.objs.size f cd::outer
 ex:=[]
 calm:=true
 fn:=fun _=>true
 pn:=[]
 xe:=fun e s'=>wpAny (model P w) (A.deeper (envOfC qual scope s.heap.objs.size f cd)) (leaving (envOfC qual scope s.heap.objs.size f cd) e) (fun _ s''=>CX outer H s E e s'') (fun e' s''=>CX outer H s E e' s'') s'
theorem qo {sc:Scope} {n:Nat} {x:Str} (h:sc.names.lookup x=some .cell):∃ c,(cellsFrom n sc.names []).lookup x=some c:=by
 have q:=PySem.W.cellsFrom_some sc.names n [] (.inl h)
 exact Option.isSome_iff_exists.mp q
theorem uS {CX:CXT} {P:Program} {w:World} {K:PySem.W.Frag} {mg:Str->Option Value} {base:Heap} {N ps:List Str} {qual:Str} {scope:Scope} {f:Addr} {cd:Value} {A:Around} {outer:List Env} {s s1:Shared} {H:Hp} {E:XK} {us:List Value} {vs:List V}
 (S:cp N ps scope) (hd:A.handled=none) (e0:Ch P w K mg base A outer s H) (hl:vs.length=ps.length) (r:cq vs us)
 (x:InCallC s s.heap.objs.size (bindL (envOfC qual scope s.heap.objs.size f cd).kindOf (ps.zip us) fun _=>none) (cellsFrom (s.heap.objs.size+1) scope.names []) (bindC (envOfC qual scope s.heap.objs.size f cd).kindOf (ps.zip us) fun _=>none) s1) :
 Inv (jD CX P w K mg base N qual scope f cd A outer s H E) [] (start N vs) H s1:=by
 have hpl:ps.length<=N.length:=by have:=congrArg fw S.pre;rw [bI] at this;lia
 obtain ⟨h1,tk,rfl,hk⟩:=x.done
 have noA:∀ b:Addr,b∉(jD CX P w K mg base N qual scope f cd A outer s H E).ex:=fun b z=>absurd (show b∈([]:List Addr) from z) (by simp)
 refine ⟨⟨e0.mod,S.kind,rfl,rfl,aj _,fun y z c h1 h2=>?_,fun y hy=>?_,fun y c _ h=>?_,fun _=>hd,Around.frames_deeper e0.frames,.inr ⟨rfl,rfl⟩,fun b z=>absurd z (noA b),e0.bs,e0.bsz,fun b _ _=>noA b,fun b z=>absurd z (noA b),e0.funs,e0.frf⟩,
  rfl,e0.bare,Un.kept hk,⟨_,x.toInCall.ns,fun i y v h1 h2 h3=>?_⟩,fun y c h=>⟨_,x.cell y c h⟩,e0.hok.fresh (aj _),fun y c h=>?_,fun p hp=>absurd (show p∈([]:List (Addr×Obj)) from hp) (by simp),e0.hok.kept hk,?_⟩
 ·exact name_of_addr x.apart (PySem.mem_of_lookup h1) (PySem.mem_of_lookup h2)
 ·have hy:scope.names.lookup y=some .cell\/scope.names.lookup y=some .free:=hy
  rcases hy with hy | hy
  ·exact qo hy
  ·exact absurd rfl (S.nofree _ (PySem.mem_of_lookup hy))
 ·exact eJ (x.above y c (PySem.mem_of_lookup h))
 ·have hi:i<vs.length:=by
   unfold start at h2
   by_cases hi:i<vs.length
   ·exact hi
   ·rw [bC (by simpa using hi)] at h2
    rw [hV] at h2
    split at h2<;>cases h2
  have ha:vs[i]?=some v:=by
   unfold start at h2
   rw [cb (by simpa using hi),av] at h2
   cases e:vs[i]? with
   | none=>rw [e] at h2;cases h2
   | some a=>rw [e] at h2;cases h2;rfl
  obtain ⟨u,hu,rv⟩:=r.get ha
  have hp:ps[i]?=some y:=by
   rw [<- S.pre,List.getElem?_take_of_lt (by lia)];exact h1
  have ndP:ps.Nodup:=by rw [<- S.pre];exact S.nd.sublist (Af _ _)
  refine ⟨u,rv,?_⟩
  rcases S.par y (ba hp) with k | k
  ·exact .inl ⟨k,nF ndP hp hu k⟩
  ·obtain ⟨c,e⟩:=qo (n:=s.heap.objs.size+1) k
   refine .inr ⟨.inl k,c,e,?_⟩
   have q:=x.cell y c e
   rw [nK ndP hp hu (by show scope.names.lookup y≠_;rw [k];decide)] at q
   exact q
 ·exact e0.hok.fresh (eJ (x.above y c (PySem.mem_of_lookup h)))
 ·unfold start
  show _=N.length
  rw [aF,ab,iO]
  lia
theorem BW {CX:CXT} {P:Program} {w:World} {K:PySem.W.Frag} {mg:Str->Option Value} {base:Heap} {k:Nat} {f:Addr} {name qual:Str} {params:Arguments} {body:List Stmt} {scope:Scope} {dV kV doc pm cdv ct oc:Value} {an od:Option Addr}
 {osl:Array (Option Value)} {N ps:List Str} {sp:Sp} (lk:K.lookup f=some ⟨oc,od,.func (PySem.W.fnOf name qual params body scope dV kV doc pm an cdv ct),osl⟩) (hcd:PySem.W.codeIn K cdv qual=true) (S:cp N ps scope)
 (len:∀ vs H Q E,sp vs H Q E->vs.length=ps.length)
 (hbody:∀ (A:Around) (outer:List Env) (s:Shared) (H:Hp) (vs:List V) (Q:VK) (E:XK),fq k (A.deeper (envOfC qual scope s.heap.objs.size f cdv))->sp vs H Q E ->
   ∃ t,PSs (jD CX P w K mg base N qual scope f cdv A outer s H E) body t/\t { nx:=fun _ H'=>Q .non H',rt:=Q } (start N vs) H) :
 rp P w K mg base CX (k+1) f (PySem.W.fnOf name qual params body scope dV kV doc pm an cdv ct) ps sp:=by
 refine ⟨len,fun A outer s H args us vs Q E hr e0 hb r hsp=>?_⟩
 have hl:=len _ _ _ _ hsp
 have KX:K.In s.heap:=e0.mod.kin.keeps fun b o e=>(e0.bs b o e).1
 have lim:s.heap.NoLimit:=e0.mod.nolimit.keeps fun b o e=>(e0.bs b o e).1
 have hkind:∀ y∈ps.zip us,scope.names.lookup y.1=some .local\/(scope.names.lookup y.1=some .cell/\((cellsFrom (s.heap.objs.size+1) scope.names []).lookup y.1).isSome=true):=fun ⟨n,v⟩ hy=>by
  rcases S.par n (oJ hy).1 with q | q
  ·exact .inl q
  ·exact .inr ⟨q,PySem.W.cellsFrom_some _ _ _ (.inl q)⟩
 refine codeAny_call_function hr.depth (KX _ _ lk) rfl S.co S.gen rfl (PySem.W.codeRec_of KX hcd) (hb _ _ _ _ ?_)
 refine wpAny_newFunctionEnv_cells S.kind hkind fun env he s1 x=>?_
 subst he
 refine ⟨lim.keeps x.toInCall.keep,codeAny_func ?_⟩
 obtain ⟨t,ht,hq⟩:=hbody A outer s H vs Q E (hr.deeper _) hsp
 have I:Inv (jD CX P w K mg base N qual scope f cdv A outer s H E) [] (start N vs) H s1:=uS S hr.hd e0 hl r x
 refine wpAny_mono (ht [] s1 (start N vs) H _ I hq) (fun fl s' hs=>?_) fun e s' hs=>hs
 have fin:∀ {σ':St} {H':Hp} {v:V} {u:Value},Inv (jD CX P w K mg base N qual scope f cdv A outer s H E) [] σ' H' s'->dB v u->Q v H'->CE outer P w H s Q u s' :=
  fun {σ' H' v u} J rv q=>⟨v,H',J.os,J.bare,J.base,J.hok,rv,q⟩
 cases fl with
 | ret u =>
   obtain ⟨v,σ',H',J,rv,q⟩:=hs
   exact fin J rv q
 | next =>
   obtain ⟨σ',H',J,q⟩:=hs
   exact fin (v:=V.non) (u:=Value.none) J rfl q
 | brk =>
   obtain ⟨_,_,_,q⟩:=hs
   exact False.elim q
 | cont =>
   obtain ⟨_,_,_,q⟩:=hs
   exact False.elim q
end L2
namespace L2
open PySem PySem.Spec PyProof.Rows
section
variable {X:Cx} {x:Str} {p pos:Pos} {e:Expr} {es:List Expr} {t:TA} {id T:String} {r:List V->Hp->VK->Prop}
def tCB (r:List V->Hp->VK->Prop) (t:TA):TE:=fun σ H Q=>t σ H fun vs H1=>r vs H1 Q
theorem p7 (hc:i7 X (.builtin id) r) (hg:Gl X x) (hm:X.mg x=none) (hv:bootBuiltins x=some (.builtin id)) (ha:PA X (e::es) t) (hn:x≠"__name__":=by decide) (hdb:(x == ("__debug__" : Str))=false:=by decide)
 (he:starEach (e::es) X.env=(false,eval e X.env)::starEach es X.env:=by rfl) (hpl:(backTo pos (starEach es X.env)).any (·.1)=false:=by rfl):PE X (.Call (.Name x p) (e::es) [] pos) (tCB r t):=by
 intro pins s σ H Q I h
 refine wpAny_Call_Name_kw (fL I hg hm hv ?_ hn hdb)
 exact PyProof.Rows.callWith_builtin1 (thn (ha pos pins s σ H _ I h) fun us s1 ⟨vs,H1,I1,r1,q1⟩=>hc pins s1 σ H1 vs us Q I1 r1 q1) he hpl
theorem mO (hc:i7 X (.type T) r) (hg:Gl X x) (hm:X.mg x=none) (hv:bootBuiltins x=some (.type T)) (ha:PA X (e::es) t) (hn:x≠"__name__":=by decide) (hdb:(x == ("__debug__" : Str))=false:=by decide)
 (he:starEach (e::es) X.env=(false,eval e X.env)::starEach es X.env:=by rfl) (hpl:(backTo pos (starEach es X.env)).any (·.1)=false:=by rfl):PE X (.Call (.Name x p) (e::es) [] pos) (tCB r t):=by
 intro pins s σ H Q I h
 refine wpAny_Call_Name_kw (fL I hg hm hv ?_ hn hdb)
 exact PyProof.Rows.callWith_type1 (thn (ha pos pins s σ H _ I h) fun us s1 ⟨vs,H1,I1,r1,q1⟩=>hc pins s1 σ H1 vs us Q I1 r1 q1) he hpl
end
end L2
namespace L2
open PySem PySem.Spec PyProof.Rows
section
variable {κ:Type} [DecidableEq κ]
def kW (kvs:List (κ×V)) (k:κ):Option V:=(kvs.find? fun kv=>decide (kv.1=k)).map (·.2)
def jz (kvs:List (κ×V)) (k:κ) (v:V):List (κ×V) :=
 if (kvs.any fun kv=>decide (kv.1=k))=true then kvs.map (fun kv=>if kv.1=k then (kv.1,v) else kv) else kvs++[(k,v)]
theorem iG {p:κ×V} {r:List (κ×V)} {k:κ} (e:p.1=k):kW (p::r) k=some p.2:=by simp [kW,eP,e]
theorem iK {p:κ×V} {r:List (κ×V)} {k:κ} (e:¬ p.1=k):kW (p::r) k=kW r k:=by simp [kW,eP,e]
theorem lV (k:κ):∀ kvs:List (κ×V),(kvs.any fun kv=>decide (kv.1=k))=(kW kvs k).isSome
 | []=>rfl
 | p::r=>by
   rw [hW]
   by_cases e:p.1=k
   ·simp only [iG e,decide_eq_true e,Bool.true_or,Option.isSome_some]
   ·rw [iK e,decide_eq_false e,DQ];exact lV k r
theorem jP (kvs:List (κ×V)) (k:κ) (v:V):(jz kvs k v).length<=kvs.length+1:=by
 unfold jz
 split
 ·rw [ab];lia
 ·rw [aF,aD,dA];lia
theorem qJ {kvs:List (κ×V)} {k:κ} (v:V) (h:kW kvs k=none):jz kvs k v=kvs++[(k,v)]:=by
 unfold jz
 rw [lV,h]
 exact if_neg (by decide)
theorem rV.isSome_eq {o:Option V} {u:Option Value} (r:rV o u):o.isSome=u.isSome:=by
 cases o with
 | none=>cases u with
   | none=>rfl
   | some _=>exact (show False from r).elim
 | some _=>cases u with
   | none=>exact (show False from r).elim
   | some _=>rfl
theorem rV.getD {o:Option V} {u:Option Value} {d:V} {d':Value} (r:rV o u) (rd:dB d d'):dB (o.getD d) (u.getD d'):=by
 cases o with
 | none=>cases u with
   | none=>exact rd
   | some _=>exact (show False from r).elim
 | some _=>cases u with
   | none=>exact (show False from r).elim
   | some _=>exact r
theorem KV.val {kvs:List (κ×V)} {vs:List (κ×Value)} (r:KV kvs vs) (k:κ):rV (kW kvs k) (valueAt vs k):=by
 unfold KV at r
 induction r with
 | nil=>exact True.intro
 | @cons p q ps qs h t ih =>
   obtain ⟨h1,h2⟩:=h
   by_cases e:p.1=k
   ·have e':q.1=k:=h1.symm.trans e
    have b:valueAt (q::qs) k=some q.2:=by simp [valueAt,eP,e']
    rw [iG e,b];exact h2
   ·have e':¬ q.1=k:=fun z=>e (h1.trans z)
    have b:valueAt (q::qs) k=valueAt qs k:=by simp [valueAt,eP,e']
    rw [iK e,b];exact ih
theorem KV.any {kvs:List (κ×V)} {vs:List (κ×Value)} (r:KV kvs vs) (k:κ):(kvs.any fun kv=>decide (kv.1=k))=vs.any fun kv=>decide (kv.1=k):=by
 unfold KV at r
 induction r with
 | nil=>rfl
 | cons h t ih=>rw [hW,hW,ih,h.1]
theorem KV.repl {kvs:List (κ×V)} {vs:List (κ×Value)} (r:KV kvs vs) (k:κ) {y:V} {u:Value} (ry:dB y u) :
 KV (kvs.map fun kv=>if kv.1=k then (kv.1,y) else kv) (vs.map fun kv=>if kv.1=k then (kv.1,u) else kv):=by
 unfold KV at r ⊢
 induction r with
 | nil=>exact .nil
 | @cons p q ps qs h t ih =>
   rw [ax,ax]
   refine .cons ?_ ih
   obtain ⟨h1,h2⟩:=h
   by_cases e:p.1=k
   ·rw [if_pos e,if_pos (h1.symm.trans e)];exact ⟨h1,ry⟩
   ·rw [if_neg e,if_neg (fun z=>e (h1.trans z))];exact ⟨h1,h2⟩
theorem KV.put {kvs:List (κ×V)} {vs:List (κ×Value)} (r:KV kvs vs) (k:κ) {y:V} {u:Value} (ry:dB y u):KV (jz kvs k y) (stored vs k u):=by
 unfold jz stored
 rw [r.any k]
 by_cases e:(vs.any fun kv=>decide (kv.1=k))=true
 ·rw [if_pos e,if_pos e];exact r.repl k ry
 ·rw [if_neg e,if_neg e];exact Paired.snoc r ⟨rfl,ry⟩
theorem KV.keys {kvs:List (κ×V)} {vs:List (κ×Value)} (r:KV kvs vs):kvs.map (·.1)=vs.map (·.1):=by
 unfold KV at r
 induction r with
 | nil=>rfl
 | cons h t ih=>rw [ax,ax,ih,h.1]
theorem KV.length {kvs:List (κ×V)} {vs:List (κ×Value)} (r:KV kvs vs):kvs.length=vs.length:=Paired.length r
end
theorem rN {P:Program} {w:World} {k:Key} {u:Value} (r:dB (kV k) u):(cz P w).is k u=true:=by
 cases k with
 | inl i=>obtain ⟨t,e⟩:=(show ∃ t,u=Value.int i t from r);subst e;exact oR P w i t
 | inr x=>obtain ⟨t,e⟩:=(show ∃ t,u=Value.str x t from r);subst e;exact oZ P w x t
theorem oj {P:Program} {w:World}:∀ {ks:List Key} {us:List Value},cq (ks.map kV) us->ItemsAre (cz P w) ks us
 | [],_,r=>by rw [gs] at r;cases r;exact .nil
 | k::ks,_,r=>by
   rw [ax] at r
   cases r with
   | cons h t=>exact .cons (rN h) (oj t)
abbrev KT (H:Hp):List (List Key×V)->List (List Key×Addr×Value)->Prop:=Paired fun p q=>p.1=q.1/\H q.2.1=some (.tup (p.1.map kV))/\dB p.2 q.2.2
theorem KT.val {H:Hp} {kvs:List (List Key×V)} {xs:List (List Key×Addr×Value)} (r:KT H kvs xs) (k:List Key):rV (kW kvs k) ((atKey xs k).map (·.2)):=by
 induction r with
 | nil=>exact True.intro
 | @cons p q ps qs h t ih =>
   obtain ⟨h1,_,h2⟩:=h
   by_cases e:p.1=k
   ·have e':q.1=k:=h1.symm.trans e
    have b:atKey (q::qs) k=some q.2:=by simp [atKey,eP,e']
    rw [iG e,b];exact h2
   ·have e':¬ q.1=k:=fun z=>e (h1.trans z)
    have b:atKey (q::qs) k=atKey qs k:=by simp [atKey,eP,e']
    rw [iK e,b];exact ih
theorem KT.repl {H:Hp} {kvs:List (List Key×V)} {xs:List (List Key×Addr×Value)} (r:KT H kvs xs) (k:List Key) {y:V} {u:Value} (ry:dB y u) :
 KT H (kvs.map fun kv=>if kv.1=k then (kv.1,y) else kv) (xs.map (putAt k u)):=by
 induction r with
 | nil=>exact .nil
 | @cons p q ps qs h t ih =>
   rw [ax,ax]
   refine .cons ?_ ih
   obtain ⟨h1,h2,h3⟩:=h
   unfold putAt
   by_cases e:p.1=k
   ·rw [if_pos e,if_pos (h1.symm.trans e)];exact ⟨h1,h2,ry⟩
   ·rw [if_neg e,if_neg (fun z=>e (h1.trans z))];exact ⟨h1,h2,h3⟩
theorem KT.put {H:Hp} {kvs:List (List Key×V)} {xs:List (List Key×Addr×Value)} (r:KT H kvs xs) (k:List Key) {b:Addr} {y:V} {u:Value} (hb:H b=some (.tup (k.map kV))) (ry:dB y u) :
 KT H (jz kvs k y) (storedH xs k b u):=by
 have e:(kvs.any fun kv=>decide (kv.1=k))=(atKey xs k).isSome:=by
  rw [lV,(r.val k).isSome_eq,Option.isSome_map]
 unfold jz storedH
 rw [e]
 by_cases q:(atKey xs k).isSome=true
 ·rw [if_pos q,if_pos q];exact r.repl k ry
 ·rw [if_neg q,if_neg q];exact Paired.snoc r ⟨rfl,hb,ry⟩
theorem KT.keeps {H H':Hp} {kvs:List (List Key×V)} {xs:List (List Key×Addr×Value)} (r:KT H kvs xs) (ht:∀ b ys,H b=some (.tup ys)->H' b=some (.tup ys)):KT H' kvs xs :=
 Paired.mapP r fun _ _ z=>⟨z.1,ht _ _ z.2.1,z.2.2⟩
section
variable {P:Program} {w:World} {H:Hp} {h:Heap} {a:Addr}
theorem Bd {u:HO} (ok:HOk P w H h) (e:Rd H a u):dZ P w H h a u:=e.ok ok
theorem ot {kvs:List (Key×V)} (ok:HOk P w H h) (e:Rd H a (.dK kvs)):kvs.length<=sizeLine/\(a == sysModules)=false/\∃ vs,KV kvs vs/\h.DictOf (cz P w) a vs :=
 show dZ P w H h a (.dK kvs) from Bd ok e
theorem CT {kvs:List (Key×V)} (ok:HOk P w H h) (e:H a=some (.dK kvs)):kvs.length<=sizeLine/\(a == sysModules)=false/\∃ vs,KV kvs vs/\h.DictOf (cz P w) a vs:=ot ok (.inl e)
theorem jg {ks:List Key} (ok:HOk P w H h) (e:H a=some (.tup (ks.map kV))):(tupleKind (cz P w)).is h ks a:=by
 obtain ⟨_,its,r,o,h1,h2,n,h3⟩:=(show dZ P w H h a (.tup (ks.map kV)) from ok a _ e)
 exact ⟨o,its.toArray,n,h1,h2,h3,by simpa using oj r⟩
theorem pg {kvs:List (List Key×V)} (ok:HOk P w H h) (e:Rd H a (.dT kvs)):kvs.length<=sizeLine/\(a == sysModules)=false /\
 ∃ xs,KT H kvs xs/\h.DictOfH (tupleKind (cz P w)) a xs:=by
 obtain ⟨z,y,xs,r,o,es,ep,h1,h2,h3,h4,h5⟩:=(show dZ P w H h a (.dT kvs) from Bd ok e)
 refine ⟨z,y,xs,r,o,es,ep,h1,h2,h3,h4,fun x hx=>?_,h5⟩
 have all:∀ {l:List (List Key×V)} {m:List (List Key×Addr×Value)},KT H l m->∀ x∈m,(tupleKind (cz P w)).is h x.1 x.2.1:=by
  intro l m q
  induction q with
  | nil=>intro x hx;exact nomatch hx
  | @cons p q ps qs hq t ih =>
    intro x hx
    rcases ag.mp hx with e | hx
    ·subst e
     exact jg ok (by rw [<- hq.1];exact hq.2.1)
    ·exact ih x hx
 exact all r x hx
theorem Cv {kvs:List (List Key×V)} (ok:HOk P w H h) (e:H a=some (.dT kvs)):kvs.length<=sizeLine/\(a == sysModules)=false /\
 ∃ xs,KT H kvs xs/\h.DictOfH (tupleKind (cz P w)) a xs:=pg ok (.inl e)
end
def o8 (H:Hp) (a:Addr) (y:V) (r:Option V):Prop :=
 (∃ kvs k,Rd H a (.dK kvs)/\y=kV k/\r=kW kvs k)\/∃ kvs k b,Rd H a (.dT kvs)/\y=.ref b/\H b=some (.tup (k.map kV))/\r=kW kvs k
def zz (H:Hp) (a:Addr) (y v:V) (H':Hp):Prop :=
 (∃ kvs k,H a=some (.dK kvs)/\y=kV k/\kvs.length<sizeLine/\H'=upd H a (.dK (jz kvs k v))) \/
 ∃ kvs k b,H a=some (.dT kvs)/\y=.ref b/\H b=some (.tup (k.map kV))/\kvs.length<sizeLine/\H'=upd H a (.dT (jz kvs k v))
theorem o8.k {H:Hp} {a:Addr} {kvs:List (Key×V)} {k:Key} (e:H a=some (.dK kvs)):o8 H a (kV k) (kW kvs k):=.inl ⟨kvs,k,.inl e,rfl,rfl⟩
theorem zz.k {H:Hp} {a:Addr} {kvs:List (Key×V)} {k:Key} {v:V} (e:H a=some (.dK kvs)) (hl:kvs.length<sizeLine):zz H a (kV k) v (upd H a (.dK (jz kvs k v))):=.inl ⟨kvs,k,e,rfl,hl,rfl⟩
section
variable {X:Cx} {pins:List (Addr×Obj)} {σ:St} {H:Hp} {s:Shared} {a:Addr} {y v:V} {u r:Value} {o:Option V} {A:Around} {E:Value->Shared->Prop}
theorem Inv.big (I:Inv X pins σ H s):sysModules<s.heap.objs.size:=by
 have h:mainGlobals<s.heap.objs.size:=(I.mod.glob.keeps I.bk).lt
 exact Nat.lt_trans (by decide) h
theorem ug {Q:Value->Shared->Prop} (hu:A.units+1<cLine) (I:Inv X pins σ H s) (g:o8 H a y (some v)) (ry:dB y u) (h:∀ w' s',Inv X pins σ H s'->dB v w'->Q w' s') :
 wpAny (model X.prog X.w) A (getItem (.ref a) u) Q E s:=by
 rcases g with ⟨kvs,k,e,ey,l⟩ | ⟨kvs,k,b,e,ey,eb,l⟩
 ·subst ey
  obtain ⟨z,hd,vs,rel,dd⟩:=ot I.hok e
  obtain ⟨w',hw,rw'⟩:=rV.some_of (v:=v) (o:=valueAt vs k) (by rw [l];exact rel.val k)
  exact wpAny_getItem_of (rN ry) dd.mapOf hw (h w' _ (I.tok _) rw')
 ·subst ey
  cases (show u=Value.ref b from ry)
  obtain ⟨z,hd,xs,rel,dd⟩:=pg I.hok e
  obtain ⟨w',hw,rw'⟩:=rV.some_of (v:=v) (o:=(atKey xs k).map (·.2)) (by rw [l];exact rel.val k)
  obtain ⟨p,hp,hp2⟩:=Option.map_eq_some_iff.mp hw
  refine wpAny_getItem_heap (tupleKind_room_in1 hu) (jg I.hok eb) dd hp ?_
  rw [hp2]
  exact h w' _ (I.tok _) rw'
theorem D2 {Q:Value->Shared->Prop} (hu:A.units+1<cLine) (I:Inv X pins σ H s) (g:o8 H a y o) (ry:dB y u) (h:∀ s',Inv X pins σ H s'->Q (.bool o.isSome) s') :
 wpAny (model X.prog X.w) A (compareOp .In u (.ref a)) Q E s:=by
 rcases g with ⟨kvs,k,e,ey,l⟩ | ⟨kvs,k,b,e,ey,eb,l⟩
 ·subst ey
  obtain ⟨z,hd,vs,rel,dd⟩:=ot I.hok e
  refine wpAny_in_of (rN ry) hd dd.mapOf ?_
  rw [<- (rel.val k).isSome_eq,<- l]
  exact h _ (I.tok _)
 ·subst ey
  cases (show u=Value.ref b from ry)
  obtain ⟨z,hd,xs,rel,dd⟩:=pg I.hok e
  refine wpAny_in_heap (tupleKind_room_in1 hu) (jg I.hok eb) hd dd ?_
  have q:=(rel.val k).isSome_eq
  rw [Option.isSome_map] at q
  rw [<- q,<- l]
  exact h _ (I.tok _)
theorem ut {Q:Value->Shared->Prop} (hu:A.units+1<cLine) (I:Inv X pins σ H s) (g:o8 H a y o) (ry:dB y u) (h:∀ s',Inv X pins σ H s'->Q (.bool (!o.isSome)) s') :
 wpAny (model X.prog X.w) A (compareOp .NotIn u (.ref a)) Q E s:=by
 rcases g with ⟨kvs,k,e,ey,l⟩ | ⟨kvs,k,b,e,ey,eb,l⟩
 ·subst ey
  obtain ⟨z,hd,vs,rel,dd⟩:=ot I.hok e
  refine wpAny_notIn_of (rN ry) hd dd.mapOf ?_
  rw [<- (rel.val k).isSome_eq,<- l]
  exact h _ (I.tok _)
 ·subst ey
  cases (show u=Value.ref b from ry)
  obtain ⟨z,hd,xs,rel,dd⟩:=pg I.hok e
  refine wpAny_notIn_heap (tupleKind_room_in1 hu) (jg I.hok eb) hd dd ?_
  have q:=(rel.val k).isSome_eq
  rw [Option.isSome_map] at q
  rw [<- q,<- l]
  exact h _ (I.tok _)
theorem sE {h':Heap} {t':Nat} {ob:HO} (I:Inv X pins σ H s) (mu:Mut (H a)) (hs:Heap.SameBut a s.heap h') (he:∃ q,h'.get? a=some q) (new:dZ X.prog X.w (upd H a ob) h' a ob) :
 Inv X pins σ (upd H a ob) { s with heap:=h',toks:=t' } :=
 I.write (x:=a) (e:=a) mu (.inl rfl) (fun b q hb z=>(hs.2 b hb).trans z) he new
theorem BM {P:Program} {w:World} {H':Hp} {h':Heap} {kvs:List (Key×V)} {vs:List (Key×Value)} (z:kvs.length<=sizeLine) (hd:(a == sysModules)=false) (rel:KV kvs vs) (dd:h'.DictOf (cz P w) a vs) :
 dZ P w H' h' a (.dK kvs):=⟨z,hd,vs,rel,dd⟩
theorem uk {H':Hp} {Q:Unit->Shared->Prop} (hu:A.units+1<cLine) (I:Inv X pins σ H s) (g:zz H a y v H') (ry:dB y u) (rv:dB v r) (h:∀ s',Inv X pins σ H' s'->Q () s') :
 wpAny (model X.prog X.w) A (setItem (.ref a) u r) Q E s:=by
 rcases g with ⟨kvs,k,e,ey,l,eH⟩ | ⟨kvs,k,b,e,ey,eb,l,eH⟩
 ·subst ey eH
  obtain ⟨z,hd,vs,rel,dd⟩:=CT I.hok e
  have hz:vs.length<=sizeLine:=by rw [<- rel.length];exact z
  have hl:(jz kvs k v).length<=sizeLine:=by have:=jP kvs k v;lia
  refine wpAny_setItem_pairs (hsz:=hz) (rN ry) dd fun h' dd' hs=>h _ ?_
  have he:∃ q,h'.get? a=some q:=let ⟨q,_,_,hq,_⟩:=dd';⟨q,hq⟩
  exact sE I (by rw [e];exact True.intro) hs he (BM hl hd (rel.put k rv) dd')
 ·subst ey eH
  cases (show u=Value.ref b from ry)
  obtain ⟨z,hd,xs,rel,dd⟩:=Cv I.hok e
  have hz:xs.length<=sizeLine:=by rw [<- Paired.length rel];exact z
  have hl:(jz kvs k v).length<=sizeLine:=by have:=jP kvs k v;lia
  refine wpAny_setItem_heap (hsz:=hz) (tupleKind_room_in1 hu) (jg I.hok eb) dd fun h' dd' hs=>h _ ?_
  obtain ⟨q,es,ep,hq,h2,h3,h4,_,h5⟩:=dd'
  refine sE I (by rw [e];exact True.intro) hs ⟨q,hq⟩ ⟨hl,hd,_,(rel.put k eb rv).keeps fun c ys ec=>?_,q,es,ep,hq,h2,h3,h4,h5⟩
  rw [aK (CY ec e (fun z=>nomatch z))]
  exact ec
end
section
variable {X:Cx} {pins:List (Addr×Obj)} {σ:St} {H:Hp} {s:Shared} {a:Addr} {kvs:List (Key×V)} {k:Key} {u:Value} {A:Around} {E:Value->Shared->Prop}
theorem CM {Q:Value->Shared->Prop} (I:Inv X pins σ H s) (e:Rd H a (.dK kvs)) (h:∀ t s',Inv X pins σ H s'->Q (.int kvs.length t) s'):wpAny (model X.prog X.w) A (call (.builtin "len") [.ref a]) Q E s:=by
 obtain ⟨z,hd,vs,rel,dd⟩:=ot I.hok e
 refine call_len_dict hd dd (by rw [<- rel.length];rw [sizeLine_eq] at z;lia) ?_
 rw [<- rel.length]
 exact h _ _ (I.tok _)
end
def Cz (i:Expr):Prop:=∀ ov iv,subscripted i false ov iv=operate [ov,iv] (getItem ov iv)
theorem yL {prog:Program} {w:World} {A:Around} {E:Value->Shared->Prop} {s:Shared} {env:Env} {value slice:Expr} {pos:Pos} {T id:String} {Q:Value->Shared->Prop}
 (hl:typeLookup (.type T) "__getitem__" = pure (some (.builtin id))) (hs:Cz slice)
 (h:wpAny (model prog w) A (eval value env) (fun o s₁=>wpAny (model prog w) A (eval slice env) (fun i s₂=>s₂.TypeIs o T/\wpAny (model prog w) A (getItem o i) Q E s₂) E s₁) E s) :
 wpAny (model prog w) A (eval (.Subscript value slice pos) env) Q E s:=by
 refine Subscript_ (wpAny_mono h (fun o s₁ h₁=>wpAny_mono h₁ (fun i s₂ h₂=>?_) fun _ _ x=>x) fun _ _ x=>x)
 obtain ⟨hT,h₂⟩:=h₂
 unfold subscriptTail
 refine wpAny_bind ?_
 rw [getitemInPython_of_ne hT.not_modules]
 refine wpAny_bind (wpAny_specialOf hT hl ?_)
 have fin:wpAny (model prog w) A (subscripted slice false o i) (fun r s₃=>wpAny (model prog w) A (letTemporaryGo value o r>>=fun _=>pure r) Q E s₃) E s₂:=by
  rw [hs o i]
  exact wpAny_operating (wpAny_mono h₂ (fun r s₃ h₃=>wpAny_bind (wpAny_letTemporaryGo (wpAny_pure h₃))) fun _ _ x=>x)
 first
  | exact wpAny_pure (wpAny_bind fin)
  | exact wpAny_bind (wpAny_pure (wpAny_bind fin))
  | exact wpAny_bind fin
theorem pc {X:Cx} {pins:List (Addr×Obj)} {σ:St} {H:Hp} {s:Shared} {a:Addr} {y:V} {o:Option V} (I:Inv X pins σ H s) (g:o8 H a y o):s.TypeIs (.ref a) "dict":=by
 rcases g with ⟨kvs,k,e,_,_⟩ | ⟨kvs,k,b,e,_,_,_⟩
 ·obtain ⟨_,_,vs,_,dd⟩:=ot I.hok e
  exact dd.typeIs
 ·obtain ⟨_,_,xs,_,dd⟩:=pg I.hok e
  exact dd.typeIs
def yS (td ty:TE):TE:=fun σ H Q=>td σ H fun x H1=>ty σ H1 fun y H2=>∃ a v,x=.ref a/\o8 H2 a y (some v)/\Q v H2
def sJ (ty td:TE):TE:=fun σ H Q=>ty σ H fun y H1=>td σ H1 fun x H2=>∃ a o,x=.ref a/\o8 H2 a y o/\Q (.bl (!o.isSome)) H2
def wH (td ty tv:TE):TS:=fun D σ H=>tv σ H fun v H1=>td σ H1 fun x H2=>ty σ H2 fun y H3=>∃ a H4,x=.ref a/\zz H3 a y v H4/\D.nx σ H4
section
variable {X:Cx} {o i e value:Expr} {pos pos' tpos:Pos} {td ty tv:TE}
theorem tW (hu:X.A.units+1<cLine) (ho:PE X o td) (hi:PE X i ty) (hs:Cz i):PE X (.Subscript o i pos) (yS td ty):=by
 intro pins s σ H Q I h
 refine yL PySem.F.slot_dict_getitem.lookup hs (thn (ho pins s σ H _ I h) fun u s1 ⟨x,H1,I1,rx,q1⟩=>thn (hi pins s1 σ H1 _ I1 q1) fun iv s2 ⟨y,H2,I2,ry,a,v,ex,g,q2⟩=>?_)
 subst ex
 obtain rfl:u=Value.ref a:=rx
 exact ⟨pc I2 g,ug hu I2 g ry fun w' s3 I3 rw'=>⟨v,H2,I3,rw',q2⟩⟩
theorem sZ (hu:X.A.units+1<cLine) (hi:PE X i ty) (ho:PE X o td):PC X .NotIn i o (sJ ty td):=by
 intro pins s σ H Q I h
 refine thn (hi pins s σ H _ I h) fun iv s1 ⟨y,H1,I1,ry,q1⟩=>thn (ho pins s1 σ H1 _ I1 q1) fun u s2 ⟨x,H2,I2,rx,a,ov,ex,g,q2⟩=>?_
 subst ex
 obtain rfl:u=Value.ref a:=rx
 exact ut hu I2 g ry fun s3 I3=>⟨.bl (!ov.isSome),H2,I3,rfl,q2⟩
theorem oP (hu:X.A.units+1<cLine) (ho:PE X o td) (hi:PE X i ty) (hv:PE X value tv) (hs:swapsWith value (some (.Subscript o i pos')) pos.line X.env=pure false) :
 PS X (.Assign [.Subscript o i pos'] value pos) (wH td ty tv):=by
 intro pins s σ H D I h
 refine wpAny_Assign_Subscript (thn (hv pins s σ H _ I h) fun r s1 ⟨v,H1,I1,rv,q1⟩=>thn (ho pins s1 σ H1 _ I1 q1) fun u s2 ⟨x,H2,I2,rx,q2⟩=>thn (hi pins s2 σ H2 _ I2 q2) fun iv s3 ⟨y,H3,I3,ry,a,H4,ex,g,q3⟩=>?_) hs
 subst ex
 obtain rfl:u=Value.ref a:=rx
 exact uk hu I3 g ry rv fun s4 I4=>⟨σ,H4,I4,q3⟩
end
theorem wX {P:Program} {w:World} {H:Hp} (h:Heap) (hb:sysModules<h.objs.size):dZ P w H (h.push { cls:=.type "dict",data:=.dict #[] }) h.objs.size (.dK []) :=
 ⟨aT _,beq_eq_false_iff_ne.mpr (Ne.symm (aH hb)),[],.nil,Heap.DictOf.new h⟩
theorem v6 {P:Program} {w:World} {H:Hp} (h:Heap) (hb:sysModules<h.objs.size):dZ P w H (h.push { cls:=.type "dict",data:=.dict #[] }) h.objs.size (.dT []) :=
 ⟨aT _,beq_eq_false_iff_ne.mpr (Ne.symm (aH hb)),[],.nil,_,#[],0,af _ rfl,⟨rfl,rfl,rfl⟩,rfl,rfl,jF⟩
def uK:TE:=fun _ H Q=>∀ p,H p=none->Q (.ref p) (upd H p (.dK []))
def Ai:TE:=fun _ H Q=>∀ p,H p=none->Q (.ref p) (upd H p (.dT []))
section
variable {X:Cx} {pos:Pos}
theorem lv:PE X (.Dict [] [] pos) uK:=fun pins s σ H Q I h =>
 wpAny_Dict_empty ⟨.ref s.heap.objs.size,_,I.laid (a:=s.heap.objs.size) (o:=.dK []) (t':=s.toks) (fun _ _ q=>aa _ q) (aj _) (wX s.heap I.big),rfl,h _ (I.hok.fresh (aj _))⟩
theorem wO:PE X (.Dict [] [] pos) Ai:=fun pins s σ H Q I h =>
 wpAny_Dict_empty ⟨.ref s.heap.objs.size,_,I.laid (a:=s.heap.objs.size) (o:=.dT []) (t':=s.toks) (fun _ _ q=>aa _ q) (aj _) (v6 s.heap I.big),rfl,h _ (I.hok.fresh (aj _))⟩
end
structure M2 (X:Cx) (o:Expr) (m:Str) (apos:Pos) (e f:Expr) (cpos:Pos):Prop where
 base:attributeBase o m X.env (eval o X.env)=eval o X.env
 few:((backTo cpos (starEach [e,f] X.env)).all (fun x=>!x.1)&&(backToKw cpos (keywordEach [] X.env)).all (fun x=>x.1.isSome)
  && decide (([e,f]:List Expr).length+([]:List Keyword).length+(if ([]:List Keyword).isEmpty then 0 else 1)<30))=true
 line:(apos.endLine == cpos.line)=true
 trees:backTo cpos (starEach [e,f] X.env)=[(false,eval e X.env),(false,eval f X.env)]
def IsD (H:Hp) (a:Addr):Prop:=(∃ kvs,Rd H a (.dK kvs))\/∃ kvs,Rd H a (.dT kvs)
theorem AD {X:Cx} {pins:List (Addr×Obj)} {σ:St} {H:Hp} {s:Shared} {a:Addr} (I:Inv X pins σ H s) (d:IsD H a) :
 s.TypeIs (.ref a) "dict"/\(∀ b,Value.ref a=.ref b->∃ ob,s.heap.get? b=some ob/\ob.dict=none)/\(a == sysModules)=false:=by
 rcases d with ⟨kvs,e⟩ | ⟨kvs,e⟩
 ·obtain ⟨_,hd,vs,_,dd⟩:=ot I.hok e
  refine ⟨dd.typeIs,fun b q=>?_,hd⟩
  cases q
  obtain ⟨ob,_,_,h1,h2,_⟩:=dd
  exact ⟨ob,h1,h2.2.1⟩
 ·obtain ⟨_,hd,xs,_,dd⟩:=pg I.hok e
  refine ⟨dd.typeIs,fun b q=>?_,hd⟩
  cases q
  obtain ⟨ob,_,_,h1,h2,_⟩:=dd
  exact ⟨ob,h1,h2.2.1⟩
section
variable {X:Cx} {pins:List (Addr×Obj)} {σ:St} {H:Hp} {s:Shared} {a:Addr} {y d:V} {u r:Value} {o:Option V} {A:Around} {E:Value->Shared->Prop}
theorem Bp {Q:Value->Shared->Prop} (hu:A.units+1<cLine) (I:Inv X pins σ H s) (g:o8 H a y o) (ry:dB y u) (rd:dB d r) (h:∀ w' s',Inv X pins σ H s'->dB (o.getD d) w'->Q w' s') :
 wpAny (model X.prog X.w) A (call (.builtin "dict.get") [.ref a,u,r]) Q E s:=by
 rcases g with ⟨kvs,k,e,ey,l⟩ | ⟨kvs,k,b,e,ey,eb,l⟩
 ·subst ey
  obtain ⟨z,hd,vs,rel,dd⟩:=ot I.hok e
  refine call_meetsIn PySem.F.slot_dict_get dd.typeIs PySem.F.entry_dict_get (PySem.F.args_dict_get_3 _ _ _) (meets_dict_get_default (cz X.prog X.w) a (rN ry) hd r) ⟨_,dd.mapOf,h _ _ (I.tok _) ?_⟩
  rw [l]
  exact (rel.val k).getD rd
 ·subst ey
  cases (show u=Value.ref b from ry)
  obtain ⟨z,hd,xs,rel,dd⟩:=pg I.hok e
  refine call_meetsIn PySem.F.slot_dict_get dd.typeIs PySem.F.entry_dict_get (PySem.F.args_dict_get_3 _ _ _) (meetsH_dict_get_default (tupleKind (cz X.prog X.w)) a b hd r) ⟨tupleKind_room_in1 hu,k,xs,jg I.hok eb,dd,h _ _ (I.tok _) ?_⟩
  rw [l]
  exact (rel.val k).getD rd
end
def BJ (td ty tx:TE):TE:=fun σ H Q=>td σ H fun x H1=>∃ a,x=.ref a/\IsD H1 a/\ty σ H1 fun y H2=>tx σ H2 fun z H3=>∃ o,o8 H3 a y o/\Q (o.getD z) H3
section
variable {X:Cx} {o e f:Expr} {apos cpos:Pos} {td ty tx:TE}
theorem vY (hu:X.A.units+1<cLine) (ho:PE X o td) (he:PE X e ty) (hf:PE X f tx) (m:M2 X o "get" apos e f cpos):PE X (.Call (.Attribute o "get" apos) [e,f] [] cpos) (BJ td ty tx):=by
 intro pins s σ H Q I h
 refine wpAny_Call_method m.base m.few m.line PySem.F.plainAttrs_dict PySem.F.slot_dict_get PySem.F.type_dict_get (thn (ho pins s σ H _ I h) fun u s1 ⟨x,H1,I1,rx,a,ex,d,q1⟩=>?_)
 subst ex
 obtain rfl:u=Value.ref a:=rx
 obtain ⟨t1,t2,_⟩:=AD I1 d
 refine ⟨t1,t2,?_⟩
 rw [m.trees]
 refine Calls.callWith_builtin rfl (Calls.evalArgs_plain (Calls.spliced_cons (thn (he pins s1 σ H1 _ I1 q1) fun iv s2 ⟨y,H2,I2,ry,q2⟩ =>
  Calls.spliced_cons (thn (hf pins s2 σ H2 _ I2 q2) fun fv s3 ⟨z,H3,I3,rz,ov,g,q3⟩=>Calls.spliced_nil ?_))))
 exact Bp hu I3 g ry rz fun w' s4 I4 rw'=>⟨_,H3,I4,rw',q3⟩
end
section
variable {X:Cx} {pins:List (Addr×Obj)} {σ:St} {H:Hp} {s:Shared} {a:Addr} {kvs:List (Key×V)} {A:Around} {E:Value->Shared->Prop}
end
section
variable {X:Cx} {pins:List (Addr×Obj)} {σ:St} {H:Hp} {s:Shared} {a:Addr} {y:V} {u:Value} {A:Around} {E:Value->Shared->Prop}
end
end L2
namespace HT
open PySem PyProof.Rows
def lexLt:List Int->List Int->Bool
 | [],[]=>false
 | [],_::_=>true
 | _::_,[]=>false
 | x::xs,y::ys=>if x=y then lexLt xs ys else decide (x<y)
theorem lexLt_cons (x y:Int) (xs ys:List Int):lexLt (x::xs) (y::ys)=if x=y then lexLt xs ys else decide (x<y):=rfl
theorem lO:lexLt [] []=false:=rfl
theorem kE (y:Int) (ys:List Int):lexLt [] (y::ys)=true:=rfl
theorem kq (x:Int) (xs:List Int):lexLt (x::xs) []=false:=rfl
theorem wM (A:Around) (s:Shared) (a:Int) (t:Tok) (c:Int) (u:Tok):∃ e,SeqAt.EqAt A s (.int a t) (.int c u) e/\(e=true↔a=c) :=
 ⟨(a == c),SeqAt.EqAt.int_int a t c u,by simp⟩
theorem v4 (A:Around) (s:Shared) (a:Int) (t:Tok) (c:Int) (u:Tok) (prog:Program) (w:World) (E:Value->Shared->Prop) (Q:Value->Shared->Prop) (h:Q (.bool (decide (a<c))) s) :
 wpAny (model prog w) A (richCompare .Lt (.int a t) (.int c u)) Q E s :=
 (PyProof.Rows.lt_int h:wpAny (model prog w) A (compareOp .Lt (.int a t) (.int c u)) Q E s)
section
open PySem.SeqAt
open PySem.AutoSeq1 (wpAny_loadPart')
open PySem.MeetsSeq PySem.MeetsSeq2 PySem.MeetsSeq3
theorem mw (l b:Addr) (items items2:Array Value) (n n2:Nat) (dd dd2:Option Addr) (sl sl2:Array (Option Value)) (ns ms:List Int) (hi:IntsAre items.toList ns) (hj:IntsAre items2.toList ms) :
 Meets (Builtin.«tuple.__lt__» ⟨[.ref l,.ref b],[]⟩)
  (fun _ R s=>s.heap.get? l=some { cls:=.type "tuple",dict:=dd,data:=.seq items n,slots:=sl }/\s.heap.get? b=some { cls:=.type "tuple",dict:=dd2,data:=.seq items2 n2,slots:=sl2 } /\
    R (.ok (.ret (.bool (lexLt ns ms)))) s) :=
 .of_wp fun prog w A R s h=>by
  obtain ⟨hp,g,d,tk,os⟩:=s;obtain ⟨hl,hb,h⟩:=h
  have f2:=AutoSeq1.sub_tuple_tuple
  have z1:items.size=ns.length:=by rw [<- hi.length];simp
  have z2:items2.size=ms.length:=by rw [<- hj.length];simp
  wp_walk using wpAny_loadPart' hl,wpAny_loadPart' hb,wpAny_forIn_list _ (fun rest b s'=>b.1=none/\s'=⟨hp,g,d,tk,os⟩/\∃ (vs ws:List Value) (ns' ms':List Int),rest=vs.zip ws /\
   IntsAre vs ns'/\IntsAre ws ms'/\ns'.length+items2.size=ms'.length+items.size/\R (.ok (.ret (.bool (lexLt ns' ms')))) ⟨hp,g,d,tk,os⟩) _
  case turn =>
   rintro ⟨y,x⟩ rest b s' ⟨hb',rfl,vs,ws,ns',ms',hz,hvi,hwi,hlen,hR⟩
   cases hvi with
   | nil=>rw [List.zip_nil_left] at hz;cases hz
   | cons a t hvi' =>
     cases hwi with
     | nil=>rw [zX] at hz;cases hz
     | cons c u hwi' =>
       rw [kh] at hz
       injection hz with hyx hrest
       injection hyx with hy hx
       subst hy hx
       rw [lexLt_cons] at hR
       simp only [aD] at hlen
       obtain ⟨e,he,hiff⟩:=wM A.in1 ⟨hp,g,d,tk,os⟩ a t c u
       refine wpAny_bind (he prog w _ _ ?_)
       cases e with
       | true =>
         rw [if_pos (hiff.mp rfl)] at hR
         wp_walk
         exact ⟨rfl,rfl,_,_,_,_,hrest,hvi',hwi',by lia,hR⟩
       | false =>
         rw [if_neg (fun q=>absurd (hiff.mpr q) ah)] at hR
         have hri:=v4 A.in1 ⟨hp,g,d,tk,os⟩ a t c u prog w
         wp_walk using hri
         exact ⟨_,rfl,by simpa using hR⟩
  case fin =>
   rintro ⟨b1,b2⟩ s' ⟨hb',rfl,vs,ws,ns',ms',hz,hvi,hwi,hlen,hR⟩
   simp only at hb'
   subst hb'
   have hv:lexLt ns' ms'=decide (items.size<items2.size):=by
    cases hvi with
    | nil =>
      cases hwi with
      | nil =>
        simp only [dA] at hlen
        rw [lO]
        exact (decide_eq_false (by lia)).symm
      | cons c u hw =>
        simp only [dA,aD] at hlen
        rw [kE]
        exact (decide_eq_true (by lia)).symm
    | cons a t hv =>
      cases hwi with
      | nil =>
        simp only [dA,aD] at hlen
        rw [kq]
        exact (decide_eq_false (by lia)).symm
      | cons c u hw =>
        rw [kh] at hz
        cases hz
   rw [hv] at hR
   wp_walk
   exact ⟨_,rfl,by simpa [Builtin.Tuple.tupleCompareSizes] using hR⟩
  case h =>
   exact ⟨rfl,rfl,items.toList,items2.toList,ns,ms,rfl,hi,hj,by lia,h⟩
end
section
variable {prog:Program} {w:World} {A:Around} {E:Value->Shared->Prop} {s:Shared}
theorem lt_tupInts {l b:Addr} {items items2:Array Value} {ns ms:List Int} {Q:Value->Shared->Prop} (hl:IsTup s.heap l items) (hb:IsTup s.heap b items2) (hi:IntsAre items.toList ns) (hj:IntsAre items2.toList ms)
 (hu:A.units<cLine) (h:Q (.bool (lexLt ns ms)) s):wpAny (model prog w) A (compareOp .Lt (.ref l) (.ref b)) Q E s:=by
 obtain ⟨⟨cls,dd,data,sl⟩,ho,hc,n,hd⟩:=id hl
 obtain ⟨⟨cls2,dd2,data2,sl2⟩,ho2,hc2,n2,hd2⟩:=id hb
 simp only at hc hd hc2 hd2
 subst hc hd hc2 hd2
 exact richCompare_meets_room (op:=.Lt) ⟨_,ho,rfl⟩ ⟨_,ho2,rfl⟩ PySem.F.slot_tuple_lt PySem.F.entry_tuple_lt (PySem.F.args_tuple_lt_2 _ _) (mw l b items items2 n n2 dd dd2 sl sl2 ns ms hi hj)
  ⟨ho,ho2,show Value.bool (lexLt ns ms)≠Value.notImplemented/\Q (.bool (lexLt ns ms)) s from ⟨(fun x=>nomatch x),h⟩⟩ hu
theorem cat_tup {t b:Addr} {vs ws:List Value} {Q:Value->Shared->Prop} (ht:IsTup s.heap t vs.toArray) (hb:IsTup s.heap b ws.toArray) (hv:vs≠[])
 (h1:ws=[]->Q (.ref t) s) (h2:ws≠[]->Q (.ref s.heap.objs.size) { s with heap:=s.heap.push { cls:=.type "tuple",data:=.seq (vs++ws).toArray } })
 (hsz:vs.length+ws.length<=sizeLine):wpAny (model prog w) A (binaryOp .Add (.ref t) (.ref b)) Q E s:=by
 obtain ⟨⟨cls,dd,data,sl⟩,ho,hc,n,hd⟩:=id ht
 obtain ⟨⟨cls2,dd2,data2,sl2⟩,ho2,hc2,n2,hd2⟩:=id hb
 simp only at hc hd hc2 hd2
 subst hc hd hc2 hd2
 have e:vs.toArray++ws.toArray=(vs++ws).toArray:=by simp
 by_cases hw:ws=[]
 ·exact concat_meets ⟨_,ho,rfl⟩ ⟨_,ho2,rfl⟩ noFill_tuple_add seq_tuple_add PySem.F.slot_tuple_add PySem.F.entry_tuple_add (PySem.F.args_tuple_add_2 _ _)
   (tuple_addW1 t b vs.toArray ws.toArray n n2 dd dd2 sl sl2 (by simpa using hv) (by simp [hw])) ⟨ho,ho2,h1 hw⟩
 ·refine concat_meets ⟨_,ho,rfl⟩ ⟨_,ho2,rfl⟩ noFill_tuple_add seq_tuple_add PySem.F.slot_tuple_add PySem.F.entry_tuple_add (PySem.F.args_tuple_add_2 _ _)
   (tuple_addW2 t b vs.toArray ws.toArray n n2 dd dd2 sl sl2 (by simpa using hv) (by simpa using hw) (by rw [aq,aq];exact hsz)) ⟨ho,ho2,?_⟩
  rw [e]
  exact h2 hw
def sIx (n d:Nat):Option Int->Nat
 | none=>d
 | some v=>if v<0 then (v+(n:Int)).toNat else min v.toNat n
end
end HT
namespace L2
open PySem PySem.Spec PyProof.Rows
theorem i6 {ns:List Int}:∀ {us:List Value},cq (ns.map V.int) us->IntsAre us ns:=by
 induction ns with
 | nil=>intro us r;rw [gs] at r;cases r;exact .nil
 | cons n ns ih =>
   intro us r
   rw [ax] at r
   cases r with
   | cons r1 r2 =>
     obtain ⟨t,e⟩:=r1
     subst e
     exact .cons n t (ih r2)
section
variable {X:Cx} {e:Expr} {te:TE} {lo hi:Option Expr} {tl th:TO} {pos p2:Pos}
def DE (K:PySem.W.Frag):R2:=fun x y H Q=>∃ a b ns ms,x=.ref a/\y=.ref b/\SqT K H a (ns.map V.int)/\SqT K H b (ms.map V.int)/\Q (.bl (HT.lexLt ns ms)) H
theorem Be (hu:X.A.units<cLine):OpR X (compareOp .Lt) (DE X.K):=by
 intro pins s σ H x y v u Q I rx ry h
 obtain ⟨a,b,ns,ms,rfl,rfl,ha,hb,q⟩:=h
 cases rx
 cases ry
 obtain ⟨its,r1,p1,_⟩:=I.tuple ha
 obtain ⟨its2,r2,p2,_⟩:=I.tuple hb
 have i1:IntsAre its.toArray.toList ns:=i6 r1
 have i2:IntsAre its2.toArray.toList ms:=i6 r2
 exact HT.lt_tupInts p1 p2 i1 i2 hu ⟨.bl (HT.lexLt ns ms),H,I,rfl,q⟩
def AE (K:PySem.W.Frag):R2:=fun x y H Q=>∃ a b xs ys,x=.ref a/\y=.ref b/\SqT K H a xs/\SqT K H b ys/\xs≠[]/\xs.length+ys.length<=sizeLine /\
 (ys=[]->Q (.ref a) H)/\(ys≠[]->∀ p,H p=none->Q (.ref p) (upd H p (.tup (xs++ys))))
theorem cq.nil_iff {xs:List V} {us:List Value} (r:cq xs us):us=[]↔xs=[]:=by
 cases r with
 | nil=>simp
 | cons _ _=>simp
theorem ye:OpR X (binaryOp .Add) (AE X.K):=by
 intro pins s σ H x y v u Q I rx ry h
 obtain ⟨a,b,xs,ys,rfl,rfl,ha,hb,hx,hz,q1,q2⟩:=h
 cases rx
 cases ry
 obtain ⟨its,r1,p1,_⟩:=I.tuple ha
 obtain ⟨its2,r2,p2,_⟩:=I.tuple hb
 refine HT.cat_tup p1 p2 (fun z=>hx (r1.nil_iff.mp z)) (fun z=>⟨.ref a,H,I,rfl,q1 (r2.nil_iff.mp z)⟩) (fun z=>?_) (by rw [<- r1.length,<- r2.length];exact hz)
 refine ⟨.ref s.heap.objs.size,_,I.laid (t':=s.toks) (o:=.tup (xs++ys)) (fun b ob q=>aa _ q) (aj _) ?_,rfl,q2 (fun w=>z (r2.nil_iff.mpr w)) _ (I.hok.fresh (aj _))⟩
 exact ⟨⟨by rw [aF];exact hz,jj.new _ _⟩,_,r1.append r2,IsTup.new _ _⟩
end
end L2
namespace L2
open PySem PySem.Spec PyProof.Rows
def ixN (n:Nat) (i:Int):Option Nat:=if 0<=i then (if i<n then some i.toNat else none) else if -(n:Int)<=i then some (i+n).toNat else none
def atI {α:Type} (xs:List α) (i:Int):Option α:=(ixN xs.length i).bind fun j=>xs[j]?
theorem oM {n:Nat} {i:Int} {j:Nat} (h:ixN n i=some j):seqIndex? i n=some j/\j<n/\-(n:Int)<=i/\i<n:=by
 unfold ixN at h
 by_cases h0:0<=i
 ·rw [if_pos h0] at h
  by_cases h1:i<n
  ·rw [if_pos h1] at h
   have e:i.toNat=j:=Option.some.inj h
   exact ⟨by rw [seqIndex_of h0 h1,e],by lia,by lia,h1⟩
  ·rw [if_neg h1] at h;cases h
 ·rw [if_neg h0] at h
  by_cases h1 : -(n:Int)<=i
  ·rw [if_pos h1] at h
   have e:(i+n).toNat=j:=Option.some.inj h
   exact ⟨by rw [seqIndex_neg (by lia) h1,e],by lia,h1,by lia⟩
  ·rw [if_neg h1] at h;cases h
theorem o6 {α:Type} {xs:List α} {i:Int} {v:α} (h:atI xs i=some v):∃ j,seqIndex? i xs.length=some j/\xs[j]?=some v/\j<xs.length/\-(xs.length:Int)<=i/\i<xs.length:=by
 unfold atI at h
 cases e:ixN xs.length i with
 | none=>rw [e] at h;cases h
 | some j =>
   rw [e] at h
   obtain ⟨h1,h2,h3,h4⟩:=oM e
   exact ⟨j,h1,h,h2,h3,h4⟩
def mv (b:Expr):Prop:=∀ o i,subscripted b false o i=operate [o,i] (getItem o i)
def IxR (X:Cx) (r:R2):Prop :=
 ∀ (value slice:Expr) (pins:List (Addr×Obj)) (s:Shared) (σ:St) (H:Hp) (x y:V) (v u:Value) (Q:VK),Inv X pins σ H s->dB x v->dB y u->r x y H Q ->
   subscripted slice false v u=operate [v,u] (getItem v u)->wpAny (model X.prog X.w) X.A (subscriptTail value slice v u) (EP X pins σ Q) X.xe s
def MtR (X:Cx) (id:String) (r:V->List V->Hp->VK->Prop):Prop :=
 ∀ (pins:List (Addr×Obj)) (s:Shared) (σ:St) (H:Hp) (x:V) (xs:List V) (v:Value) (us:List Value) (Q:VK),Inv X pins σ H s->dB x v->cq xs us->r x xs H Q ->
   wpAny (model X.prog X.w) X.A (call (.builtin id) (v::us)) (EP X pins σ Q) X.xe s
section
variable {X:Cx} {a b:Expr} {ta tb:TE} {pos:Pos}
theorem IxR.or {r r':R2} (h:IxR X r) (h':IxR X r'):IxR X (fun x y H Q=>r x y H Q\/r' x y H Q):=by
 intro value slice pins s σ H x y v u Q I rx ry q hs
 rcases q with q | q
 ·exact h value slice pins s σ H x y v u Q I rx ry q hs
 ·exact h' value slice pins s σ H x y v u Q I rx ry q hs
theorem Dg {r:R2} (hr:IxR X r) (ha:PE X a ta) (hb:PE X b tb) (hs:mv b):PE X (.Subscript a b pos) (tOp r ta tb):=by
 intro pins s σ H Q I h
 exact Subscript_ (C3 ha hb I h fun v u s2 x y H2 I2 rx ry q=>hr a b pins s2 σ H2 x y v u Q I2 rx ry q (hs _ _))
def Dp (K:PySem.W.Frag):R2:=fun x y H Q=>∃ p xs i v,x=.ref p/\y=.int i/\SqL K H p xs/\atI xs i=some v/\Q v H
def C0 (K:PySem.W.Frag):R2:=fun x y H Q=>∃ p xs i v,x=.ref p/\y=.int i/\SqT K H p xs/\atI xs i=some v/\Q v H
def Cw:R2:=fun x y H Q=>∃ z i c,x=.str z/\y=.int i/\z.length<=sizeLine/\atI z.cps.toList i=some c/\Q (.str ⟨#[c]⟩) H
theorem yG:IxR X (Dp X.K):=by
 intro value slice pins s σ H x y v u Q I rx ry h hs
 obtain ⟨p,xs,i,z,rfl,rfl,hq,he,q⟩:=h
 cases rx
 obtain ⟨t,rfl⟩:=ry
 obtain ⟨its,r,pl,hz⟩:=I.list hq
 obtain ⟨j,h1,h2,h3,h4,h5⟩:=o6 he
 obtain ⟨w,ew,rw'⟩:=r.get h2
 have hl:=r.length
 have hn:=nH
 have fin:EP X pins σ Q w s:=⟨z,H,I,rw',q⟩
 by_cases h0:0<=i
 ·have hj:i.toNat=j:=by
   rw [seqIndex_of h0 h5] at h1
   exact Option.some.inj h1
  exact item_listR pl.isList h0 (by lia) (by rw [hj];simpa using ew) fin hs
 ·have hj:(i+(its.toArray.size:Int)).toNat=j:=by
   rw [seqIndex_neg (by lia) h4] at h1
   rw [aq,<- hl]
   exact Option.some.inj h1
  exact subscriptTail_builtinR (x:=w) pl.isList.typeIs slot_list_getitem.lookup
   (wpAny_getItem_list_neg (Q:=fun r s'=>r=w/\EP X pins σ Q r s') pl.isList (by lia) (by rw [aq]<;>lia) (by lia) (by rw [hj];simpa using ew) ⟨rfl,fin⟩) hs
theorem BA:IxR X (C0 X.K):=by
 intro value slice pins s σ H x y v u Q I rx ry h hs
 obtain ⟨p,xs,i,z,rfl,rfl,hq,he,q⟩:=h
 cases rx
 obtain ⟨t,rfl⟩:=ry
 obtain ⟨its,r,pl,hz⟩:=I.tuple hq
 obtain ⟨j,h1,h2,h3,h4,h5⟩:=o6 he
 obtain ⟨w,ew,rw'⟩:=r.get h2
 have hl:=r.length
 have hn:=nH
 have fin:EP X pins σ Q w s:=⟨z,H,I,rw',q⟩
 exact subscriptTail_builtinR (x:=w) pl.typeIs slot_tuple_getitem.lookup
  (getItem_tuple (j:=j) (Q:=fun r s'=>r=w/\EP X pins σ Q r s') pl (by lia) (by lia) (by rw [aq,<- hl];exact h1) (by simpa using ew) ⟨rfl,fin⟩) hs
theorem BX:IxR X Cw:=by
 intro value slice pins s σ H x y v u Q I rx ry h hs
 obtain ⟨z,i,c,rfl,rfl,hz,he,q⟩:=h
 obtain ⟨t,rfl⟩:=rx
 obtain ⟨t',rfl⟩:=ry
 obtain ⟨j,h1,h2,h3,h4,h5⟩:=o6 he
 have hl:z.cps.toList.length=z.length:=by simp [Str.length]
 rw [hl] at h1 h4 h5
 have hn:=nH
 exact tail_any (typeIs_str s z t) slot_str_getitem.lookup (getItem_str (c:=c) (by
  have e1:decide (i < -(2 ^ 63:Int))=false:=decide_eq_false (by lia)
  have e2:decide (i≥2 ^ 63)=false:=decide_eq_false (by lia)
  rw [e1,e2,rZ]) (by rw [h1];simpa using h2) ⟨.str ⟨#[c]⟩,H,I.tok _,⟨_,rfl⟩,q⟩) hs
def rIx (K:PySem.W.Frag):R2:=fun x y H Q=>Dp K x y H Q\/C0 K x y H Q\/Cw x y H Q
theorem AT:IxR X (rIx X.K):=yG.or (BA.or BX)
theorem nA:i7 X (.builtin "len") (fun xs H Q=>∃ p ys,xs=[.ref p]/\(SqL X.K H p ys\/SqT X.K H p ys)/\Q (.int ys.length) H):=by
 intro pins s σ H xs us Q I r h
 obtain ⟨p,ys,rfl,hq,q⟩:=h
 obtain ⟨u,rfl,rx⟩:=kD r
 cases rx
 have hn:=nH
 rcases hq with hq | hq
 ·obtain ⟨its,r',pl,hz⟩:=I.list hq
  have hlen:=r'.length
  exact Calls.call_len_list pl.isList (by simp only [aq]<;>lia) ⟨.int ys.length,H,I.tok _,⟨s.toks+1,by rw [aq,hlen]⟩,q⟩
 ·obtain ⟨its,r',pl,hz⟩:=I.tuple hq
  have hlen:=r'.length
  exact len_tuple pl (by simp only [aq]<;>lia) ⟨.int ys.length,H,I.tok _,⟨s.toks+1,by rw [aq,hlen]⟩,q⟩
theorem nj:i7 X (.type "list") (fun xs H Q=>∃ p ys,xs=[.ref p]/\(SqL X.K H p ys\/SqT X.K H p ys)/\∀ l,H l=none->Q (.ref l) (upd H l (.lst ys))):=by
 intro pins s σ H xs us Q I r h
 obtain ⟨p,ys,rfl,hq,q⟩:=h
 obtain ⟨u,rfl,rx⟩:=kD r
 cases rx
 have fin:∀ (its:List Value),cq ys its->ys.length<=sizeLine->∀ (h':Heap) (c':Nat),(∀ b o',s.heap.get? b=some o'->h'.get? b=some o') ->
  h'.get? s.heap.objs.size=some { cls:=.type "list",dict:=none,data:=.seq its.toArray c',slots:=#[] }->EP X pins σ Q (.ref s.heap.objs.size) { s with heap:=h' }:=fun its r' hz h' c' kp e =>
  ⟨.ref s.heap.objs.size,_,I.laid (t':=s.toks) kp (aj _) (show dZ X.prog X.w _ h' _ (.lst ys) from ⟨hz,its,c',r',e⟩),rfl,q _ (I.hok.fresh (aj _))⟩
 rcases hq with hq | hq
 ·obtain ⟨its,r',pl,hz⟩:=I.list hq
  have hlen:=r'.length
  obtain ⟨o,ho,hc,n,hd⟩:=pl.isList
  exact call_list_seq p (.inl rfl) ho hc hd (fun h' c' kp e=>fin its r' hz h' c' kp e) (by simp only [aq]<;>lia)
 ·obtain ⟨its,r',pl,hz⟩:=I.tuple hq
  have hlen:=r'.length
  obtain ⟨o,ho,hc,n,hd⟩:=pl
  exact call_list_seq p (.inr rfl) ho hc hd (fun h' c' kp e=>fin its r' hz h' c' kp e) (by simp only [aq]<;>lia)
theorem lz:i7 X (.type "tuple") (fun xs H Q=>∃ p ys,xs=[.ref p]/\((SqL X.K H p ys/\∀ l,H l=none->Q (.ref l) (upd H l (.tup ys)))\/(SqT X.K H p ys/\Q (.ref p) H))):=by
 intro pins s σ H xs us Q I r h
 obtain ⟨p,ys,rfl,h⟩:=h
 obtain ⟨u,rfl,rx⟩:=kD r
 cases rx
 rcases h with ⟨hq,q⟩ | ⟨hq,q⟩
 ·obtain ⟨its,r',pl,hz⟩:=I.list hq
  have hlen:=r'.length
  refine call_tuple_list pl.isList (fun h' kp=>?_) (by simp only [aq]<;>lia)
  have I1:Inv X pins σ H { s with heap:=h' }:=I.kept (t':=s.toks) kp
  have I2:Inv X pins σ (upd H h'.objs.size (.tup ys)) { s with heap:=h'.push { cls:=.type "tuple",data:=.seq its.toArray } } :=
   I1.laid (t':=s.toks) (fun b o e=>aa _ e) (aj _) (show dZ X.prog X.w _ _ _ (.tup ys) from ⟨⟨hz,jj.new _ _⟩,its,r',IsTup.new _ _⟩)
  exact ⟨.ref h'.objs.size,_,I2,rfl,q _ (I1.hok.fresh (aj _))⟩
 ·obtain ⟨its,r',pl,hz⟩:=I.tuple hq
  exact call_tuple_same pl ⟨.ref p,H,I,rfl,q⟩
def tyV (K:PySem.W.Frag) (T:String) (x:V) (H:Hp):Prop:=match x with
 | .str _=>T = "str"
 | .int _=>T = "int"
 | .ref p=>(T = "list"/\∃ xs,SqL K H p xs)\/(T = "tuple"/\∃ o,K.lookup p=some o/\o.cls=.type "tuple"/\o.dict=none) \/
    (T = "dict"/\((∃ kvs,H p=some (.dK kvs))\/∃ kvs,H p=some (.dT kvs)))\/(T = "set"/\∃ S n,H p=some (.set S n))
 | _=>False
theorem Ak {pins:List (Addr×Obj)} {σ:St} {H:Hp} {s:Shared} {T:String} {x:V} {v:Value} (I:Inv X pins σ H s) (r:dB x v) (ty:tyV X.K T x H) :
 s.TypeIs v T/\∀ a,v=.ref a->∃ ob,s.heap.get? a=some ob/\ob.dict=none:=by
 cases x with
 | str z =>
   obtain ⟨t,rfl⟩:=r
   cases (show T = "str" from ty)
   exact ⟨typeIs_str s z t,fun _ e=>nomatch e⟩
 | int i =>
   obtain ⟨t,rfl⟩:=r
   cases (show T = "int" from ty)
   exact ⟨typeIs_int s i t,fun _ e=>nomatch e⟩
 | ref p =>
   cases r
   rcases ty with ⟨rfl,xs,hq⟩ | ⟨rfl,o,hk,hc,hd⟩ | ⟨rfl,hk⟩ | ⟨rfl,S,n,hk⟩
   ·obtain ⟨its,_,pl,_⟩:=I.list hq
    refine ⟨pl.isList.typeIs,fun a e=>?_⟩
    cases e
    obtain ⟨o,n,e,c,hd,_⟩:=pl
    exact ⟨o,e,hd⟩
   ·refine ⟨⟨o,I.kIn p o hk,hc⟩,fun a e=>?_⟩
    cases e
    exact ⟨o,I.kIn _ o hk,hd⟩
   ·have z:∃ o,s.heap.get? p=some o/\o.ExactDict:=by
     rcases hk with ⟨kvs,hk⟩ | ⟨kvs,hk⟩
     ·obtain ⟨_,_,_,_,o,_,_,e,ex,_⟩:=I.hok p _ hk
      exact ⟨o,e,ex⟩
     ·obtain ⟨_,_,_,_,o,_,_,e,ex,_⟩:=I.hok p _ hk
      exact ⟨o,e,ex⟩
    obtain ⟨o,e,ex⟩:=z
    refine ⟨⟨o,e,ex.1⟩,fun a e2=>?_⟩
    cases e2
    exact ⟨o,e,ex.2.1⟩
   ·obtain ⟨o,_,_,_,e,ex,_⟩:=I.hok p _ hk
    refine ⟨⟨o,e,ex.1⟩,fun a e2=>?_⟩
    cases e2
    exact ⟨o,e,ex.2.1⟩
 | _=>exact False.elim ty
def tBM (K:PySem.W.Frag) (T:String) (r:V->List V->Hp->VK->Prop) (to:TE) (t:TA):TE:=fun σ H Q=>to σ H fun x H1=>tyV K T x H1/\t σ H1 fun xs H2=>r x xs H2 Q
variable {o e:Expr} {es:List Expr} {to:TE} {t:TA} {name:Str} {apos cpos:Pos} {T id:String} {r:V->List V->Hp->VK->Prop}
theorem BT (pa:PlainAttrs T) (slot:Slot T name id) (hty:typeOf (.builtin id)=pure (.type "method_descriptor")) (hm:MtR X id r) (ho:PE X o to) (ha:PA X (e::es) t)
 (hbase:attributeBase o name X.env (eval o X.env)=eval o X.env:=by rfl)
 (hfew:((backTo cpos (starEach (e::es) X.env)).all (fun x=>!x.1)&&(backToKw cpos (keywordEach [] X.env)).all (fun x=>x.1.isSome)
   && decide ((e::es).length+([]:List Keyword).length+(if ([]:List Keyword).isEmpty then 0 else 1)<30))=true:=by rfl)
 (hline:(apos.endLine == cpos.line)=true:=by rfl) (hs:starEach (e::es) X.env=(false,eval e X.env)::starEach es X.env:=by rfl) (hplain:(backTo cpos (starEach es X.env)).any (·.1)=false:=by rfl) :
 PE X (.Call (.Attribute o name apos) (e::es) [] cpos) (tBM X.K T r to t):=by
 intro pins s σ H Q I h
 refine wpAny_Call_method_late hbase hfew hline rfl (thn (ho pins s σ H _ I h) fun v s1 ⟨x,H1,I1,r1,ty,q1⟩=>?_)
 obtain ⟨h1,h2⟩:=Ak I1 r1 ty
 refine ⟨T,id,pa,slot,hty,h1,h2,?_⟩
 have hA:=ha cpos pins s1 σ H1 _ I1 q1
 rw [hs] at hA ⊢
 refine Calls.callWith_builtin (by show (false||(backTo cpos (starEach es X.env)).any (·.1))=false;rw [hplain]<;>rfl) (Calls.evalArgs_plain ?_)
 exact thn hA fun us s2 ⟨vs,H2,I2,r2,q2⟩=>hm pins s2 σ H2 x vs v us Q I2 r1 r2 q2
end
end L2
namespace L2
open PySem PySem.Spec PyProof.Rows
def MtM (X:Cx) (id:String) (r:V->List V->Hp->VK->Prop):Prop :=
 ∀ (pins:List (Addr×Obj)) (s:Shared) (σ:St) (H:Hp) (x:V) (xs:List V) (v:Value) (us:List Value) (Q:VK),Inv X pins σ H s->dB x v->cq xs us->r x xs H Q ->
   wpAny (model X.prog X.w) X.A (call (.builtin id) (v::us)) (EP X pins σ Q) X.xe s
theorem cq.one:∀ {x:V} {us:List Value},cq [x] us->∃ u,us=[u]/\dB x u
 | _,_,.cons r .nil=>⟨_,rfl,r⟩
theorem cq.two:∀ {x y:V} {us:List Value},cq [x,y] us->∃ u v,us=[u,v]/\dB x u/\dB y v
 | _,_,_,.cons r (.cons q .nil)=>⟨_,_,rfl,r,q⟩
theorem cq.zero:∀ {us:List Value},cq [] us->us=[]
 | _,.nil=>rfl
theorem cq.eraseIdx:∀ {xs:List V} {us:List Value} (i:Nat),cq xs us->cq (xs.eraseIdx i) (us.eraseIdx i)
 | _,_,_,.nil=>.nil
 | _,_,0,.cons _ t=>t
 | _,_,i+1,.cons r t=>.cons r (cq.eraseIdx i t)
theorem cq.reverse {xs:List V} {us:List Value} (h:cq xs us):cq xs.reverse us.reverse:=by
 induction h with
 | nil=>exact .nil
 | cons r t ih=>rw [gZ,gZ];exact cq.append ih (.cons r .nil)
theorem oz {α:Type}:∀ (l:List α) (i:Nat),(l.eraseIdx i).length<=l.length
 | [],_=>aj _
 | _::_,0=>fF _
 | _::r,i+1=>Cp (oz r i)
section
variable {X:Cx} {pins:List (Addr×Obj)} {σ:St} {H:Hp} {s:Shared} {l b:Addr} {xs ys zs:List V}
theorem Inv.lset {its its':List Value} {n:Nat} {f:Array Value->Array Value} {t':Nat} (I:Inv X pins σ H s) (hH:H l=some (.lst xs))
 (e:s.heap.get? l=some { cls:=.type "list",data:=.seq its.toArray n }) (hf:f its.toArray=its'.toArray) (hv:cq ys its') (hz:ys.length<=sizeLine) :
 Inv X pins σ (upd H l (.lst ys)) { s with heap:=s.heap.update l (bj f),toks:=t' }:=by
 have q:=PySem.IsL.update e f
 rw [hf] at q
 refine I.write (x:=l) (e:=l) (by rw [hH];exact trivial) (.inl rfl) (fun b' u hb hu=>(aI s.heap (bj f) (Ne.symm hb)).trans hu) ⟨_,q⟩ ?_
 exact ⟨hz,its',_,hv,q⟩
theorem Inv.lnew {its:List Value} {t':Nat} (I:Inv X pins σ H s) (hv:cq ys its) (hz:ys.length<=sizeLine) :
 Inv X pins σ (upd H s.heap.objs.size (.lst ys)) { s with heap:=s.heap.push { cls:=.type "list",data:=.seq its.toArray },toks:=t' } :=
 I.laid (fun _ _ q=>aa _ q) (aj _) ⟨hz,its,0,hv,af _ rfl⟩
theorem Inv.fresh (I:Inv X pins σ H s):H s.heap.objs.size=none:=I.hok.fresh (aj _)
theorem Inv.lstM (I:Inv X pins σ H s) (hH:H l=some (.lst xs)):xs.length<=sizeLine/\∃ (its:List Value) (n:Nat),cq xs its/\xs.length=its.length/\s.heap.get? l=some { cls:=.type "list",data:=.seq its.toArray n }:=by
 obtain ⟨z,its,n,r,e⟩:=I.hok l _ hH
 exact ⟨z,its,n,r,r.length,e⟩
end
section
variable {X:Cx}
def zy:V->List V->Hp->VK->Prop:=fun x vs H Q=>∃ l xs y,x=.ref l/\vs=[y]/\H l=some (.lst xs)/\xs.length<sizeLine/\Q .non (upd H l (.lst (xs++[y])))
theorem nh:MtM X "list.append" zy:=by
 intro pins s σ H x vs v us Q I rx rv h
 obtain ⟨l,xs,y,rfl,rfl,hH,hz,q⟩:=h
 cases rx
 obtain ⟨u,rfl,ru⟩:=rv.one
 obtain ⟨z,its,n,r,hl,e⟩:=I.lstM hH
 refine call_meets F.slot_list_append ⟨_,e,rfl⟩ F.entry_list_append (F.args_list_append_2 _ _) (PySem.list_append l its.toArray n u (by rw [aq];lia)) ⟨e,?_⟩
 refine ⟨.non,_,I.lset (its':=its++[u]) hH e (by simp) (r.append (.cons ru .nil)) ?_,rfl,q⟩
 rw [aF,bx]
 lia
def sD:V->List V->Hp->VK->Prop:=fun x vs H Q=>∃ l xs i k y,x=.ref l/\vs=[.int i]/\H l=some (.lst xs)/\-(2 ^ 63)<=i/\i<2 ^ 63/\seqIndex? i xs.length=some k/\xs[k]?=some y/\Q y (upd H l (.lst (xs.eraseIdx k)))
theorem wZ:MtM X "list.pop" sD:=by
 intro pins s σ H x vs v us Q I rx rv h
 obtain ⟨l,xs,i,k,y,rfl,rfl,hH,h1,h2,hk,hy,q⟩:=h
 cases rx
 obtain ⟨u,rfl,ru⟩:=rv.one
 obtain ⟨t,rfl⟩:=ru
 obtain ⟨z,its,n,r,hl,e⟩:=I.lstM hH
 obtain ⟨w,hw,rw'⟩:=r.get hy
 refine call_meets F.slot_list_pop ⟨_,e,rfl⟩ F.entry_list_pop (F.args_list_pop_2 _ _)
  (MeetsSeq.list_pop_at l its.toArray n i t k w (fitsIndex_both h1 h2) (by rw [aq,<- hl];exact hk) (by rw [<- aR];exact hw) (by rw [aq];lia)) ⟨e,?_⟩
 refine ⟨y,_,I.lset (its':=its.eraseIdx k) hH e ?_ (r.eraseIdx k) ?_,rw',q⟩
 ·show its.toArray.eraseIdxIfInBounds k=(its.eraseIdx k).toArray
  rw [List.eraseIdxIfInBounds_toArray]
 ·have:=oz xs k
  lia
end
section
variable {prog:Program} {w:World} {A:Around} {E:Value->Shared->Prop} {s:Shared}
end
section
variable {X:Cx}
end
end L2
namespace Att
open PySem PySem.W PySem.Calls PyProof.Rows
theorem jX {P:Params} {h:Heap}:∀ (ns:List Int) (vs:List Value),WellAll P h vs (ns.map WData.int)->IntsAre vs ns:=by
 intro ns
 induction ns with
 | nil =>
   intro vs w
   rw [gs] at w
   cases w
   exact .nil
 | cons n ns ih =>
   intro vs w
   rw [ax] at w
   cases w with
   | cons a b =>
     cases a
     exact .cons _ _ (ih _ b)
theorem tm {l:OpenLaw} {n:Nat} (hn:l.most=some n) {P:Params} {h:Heap} {args:List WData} {vals:List Value}
 (hpre:l.row.toRowW.claim.pre args=true) (hwl:WellAll P h vals args) :
 ∃ a vs ns,vals=[Value.ref a]/\args=[WData.list (ns.map WData.int)]/\h.get? a=some { cls:=.type "list",data:=.seq vs.toArray }/\IntsAre vs ns/\ns.length<=n:=by
 have hsh:WShape.hasAll [] args [.list .int]=true:=(pre_splitW hpre).1
 have hc:l.pre.holds [] { args:=args }=true:=(pre_splitW hpre).2
 obtain ⟨d,r,rfl,h1,h2⟩:=hasAllW_cons hsh
 obtain rfl:=hasAllW_nil h2
 obtain ⟨xs,rfl,h3⟩:=hasW_list h1
 obtain ⟨ns,rfl⟩:=items_int h3
 have hlen:ns.length<=n:=by
  unfold OpenLaw.pre at hc
  have h4:(WTm.not (.lt (.lit (.int (n:Int))) (.len (.arg 0)))).holds [] { args:=[.list (ns.map .int)] }=true:=by
   have h4:=(holds_andW hc).1
   rw [hn] at h4
   exact h4
  have h5:=condW_of h4 (w_not (w_lt w_lit (w_len_list (w_arg rfl))))
  rw [ab] at h5
  refine Cq fun q=>?_
  have q':(n:Int)<((ns.length:Nat):Int):=by lia
  first
   | (rw [decide_eq_true q'] at h5;exact absurd h5 (by decide))
   | (simp at h5;lia)
 cases hwl with
 | cons w1 w2 =>
   cases w2
   cases w1 with
   | list ho hall=>exact ⟨_,_,ns,rfl,rfl,ho,jX ns _ hall,hlen⟩
theorem sO (l:OpenLaw) (args:List WData):l.row.toRowW.claim.post args (.bool true) args=true :=
 postW_of (r:=l.row.toRowW) (X:=(true == true))
  (show WShape.has [] (.bool true) .bool=true by first | rfl | decide | simp [WShape.has,WShape.arms,WShape.armsAll])
  (show (WTm.eq .res (.lit (.bool true))).value [] { args:=args,res:=some (.bool true),after:=args }=some (.bool (true == true)) from w_eq_bool (w_res rfl) w_lit) rfl
theorem attach_call {l:OpenLaw} {n:Nat} {q:Program} {loose:List Str} {XP:(Str->Option Value)->Heap->Prop} {YP:World->Heap->Prop} {d:DefRec}
 (hn:l.most=some n) (hdf:d.params.defaults=[])
 (call:∀ (w:World) (s₀ s₁:Shared) (mg mb:Str->Option Value) (fa:Addr) (o:Obj) (pm cd doc:Value) (a:Addr) (vs:List Value) (ns:List Int),
   Ground q loose [] XP w s₀ mg mb s₁.heap->YP w s₁.heap ->
   s₁.heap.get? fa=some o->o.data=.func (docDef d.name d.params d.body d.scope pm cd doc)->s₁.heap.CodeRec cd d.name->mg d.name=some (.ref fa) ->
   s₁.heap.get? a=some { cls:=.type "list",data:=.seq vs.toArray }->IntsAre vs ns->ns.length<=n->s₁.gens = #[] ->
   codeAny (model l.prog w) callerA (.call (.ref fa) ⟨[.ref a],[]⟩) (fun r s'=>r=.ok (.ret (.bool true))/\OldK s₁.heap s'.heap/\s'.os=s₁.os/\AllBare s'.gens) s₁) :
 WalkO q loose XP YP l.row.toRowW d [] (fun f vs=>PySem.call f vs):=by
 intro w s₀ s₁ mg mb G Y fa o pm cd doc dV kV ho hd hcd hD hmg hg args vals as hpre hlay hrd hwl hlo
 obtain rfl:dV=.none:=Dflts.none hD hdf
 obtain rfl:kV=.none:=Dflts.noKw hD
 obtain ⟨a,vs,ns,rfl,rfl,hobj,hints,hlen⟩:=tm hn hpre hwl
 refine enter_call (codeAny_mono (call w s₀ s₁ mg mb fa o pm cd doc a vs ns G Y ho (fd_plain hd) hcd hmg hobj hints hlen hg) fun r s' hq=>?_)
 obtain ⟨rfl,h2,h3,h4⟩:=hq
 exact ⟨.inl ⟨.bool true,.bool true,[],rfl,fun _=>rfl,.bool true,sO l _,fun _=>⟨List.Pairwise.nil,fun _ hm=>(nomatch hm)⟩⟩,h2,h3,h4⟩
section
variable {prog:Program} {w:World} {A:Around} {E:Value->Shared->Prop} {s:Shared} {K:Frag}
end
end Att
namespace L2
open PySem PySem.Spec PyProof.Rows
theorem oq:∀ {vs:List Value} {ns:List Int},IntsAre vs ns->cq (ns.map V.int) vs
 | _,_,.nil=>.nil
 | _,_,.cons n t h=>.cons ⟨t,rfl⟩ (oq h)
end L2
namespace L2
open PySem PySem.Spec PyProof.Rows
end L2
namespace L2
open PySem PySem.Spec PyProof.Rows
def cm (s:Stmt):Arguments:=match s with
 | .FunctionDef _ a _ _ _ _ _ _ _ _=>a
 | _=>{ posonlyargs:=[],args:=[],vararg:=none,kwonlyargs:=[],kw_defaults:=[],kwarg:=none,defaults:=[] }
def bw (s:Stmt):List Stmt:=match s with
 | .FunctionDef _ _ b _ _ _ _ _ _ _=>b
 | _=>[]
def aC (s:Stmt):Scope:=match s with
 | .FunctionDef _ _ _ _ _ _ sc _ _ _=>sc
 | _=>{ kind:=.function,names:=[],isGenerator:=false,isCoroutine:=false }
abbrev CX0:CXT:=fun _ _ _ _ _ _=>False
abbrev E0:XK:=fun _ _ _=>False
theorem CF {X:Cx}:sW CX0 X E0:=fun _ _ _ _ _ _ _ h=>h.elim
structure Fun (K:PySem.W.Frag) (x qual:Str) (st:Stmt) (f:Addr) (fd:FuncData):Prop where
 ex:∃ (oc:Value) (od:Option Addr) (kV doc pm:Value) (an:Option Addr) (cdv ct:Value) (osl:Array (Option Value)),
  fd=PySem.W.fnOf x qual (cm st) (bw st) (aC st) .none kV doc pm an cdv ct/\K.lookup f=some ⟨oc,od,.func fd,osl⟩/\PySem.W.codeIn K cdv qual=true
 kp:PySem.W.keepIn K (.ref f)=true
section
variable {P:Program} {w:World} {K:PySem.W.Frag} {mg:Str->Option Value} {base:Heap}
theorem Fun.ok {x qual:Str} {st:Stmt} {f:Addr} {fd:FuncData} {N ps:List Str} {k:Nat} {sp:Sp} (F:Fun K x qual st f fd) (S:cp N ps (aC st)) (len:∀ vs H Q E,sp vs H Q E->vs.length=ps.length)
 (hbody:∀ (cdv:Value) (A:Around) (outer:List Env) (s:Shared) (H:Hp) (vs:List V) (Q:VK) (E:XK),fq k (A.deeper (envOfC qual (aC st) s.heap.objs.size f cdv))->sp vs H Q E ->
   ∃ t,PSs (jD CX0 P w K mg base N qual (aC st) f cdv A outer s H E).nox (bw st) t/\t { nx:=fun _ H'=>Q .non H',rt:=Q } (start N vs) H):rp P w K mg base CX0 (k+1) f fd ps sp:=by
 obtain ⟨oc,od,kV,doc,pm,an,cdv,ct,osl,rfl,lk,hcd⟩:=F.ex
 refine BW lk hcd S len fun A outer s H vs Q E hr hsp=>?_
 obtain ⟨t,h,q⟩:=hbody cdv A outer s H vs Q E hr hsp
 exact ⟨t,h.nox,q⟩
theorem Fun.binds {x qual:Str} {st:Stmt} {f:Addr} {fd:FuncData} {ps:List Str} (F:Fun K x qual st f fd)
 (h:∀ (kV doc pm:Value) (an:Option Addr) (cdv ct:Value) (us:List Value),us.length=ps.length->bindArgs (PySem.W.fnOf x qual (cm st) (bw st) (aC st) .none kV doc pm an cdv ct) ⟨us,[]⟩=pure (ps.zip us)):pO K fd ps []:=by
 obtain ⟨oc,od,kV,doc,pm,an,cdv,ct,osl,rfl,lk,hcd⟩:=F.ex
 exact .all (h kV doc pm an cdv ct)
theorem e7 {x qual:Str} {st:Stmt} {f:Addr} {oc:Value} {od an:Option Addr} {osl:Array (Option Value)} {kV doc pm cdv ct:Value} (l:K.lookup f=some ⟨oc,od,.func (PySem.W.fnOf x qual (cm st) (bw st) (aC st) .none kV doc pm an cdv ct),osl⟩)
 (c:PySem.W.codeIn K cdv qual=true) (k:PySem.W.keepIn K (.ref f)=true):Fun K x qual st f (PySem.W.fnOf x qual (cm st) (bw st) (aC st) .none kV doc pm an cdv ct):=⟨⟨oc,od,kV,doc,pm,an,cdv,ct,osl,rfl,l,c⟩,k⟩
end
theorem gM {A:Around} {k:Nat} (hr:fq k A):A.units+1<cLine:=Ag (Nat.add_le_add_left (by decide:1<=64) _) hr.units
section
variable {X:Cx}
theorem pv (i:Nat) {x:Str} {pos:Pos} (hN:X.N[i]?=some x:=by rfl) (hv:Vis X.env.scope x:=by first | exact Or.inl rfl | exact Or.inr (Or.inl rfl) | exact Or.inr (Or.inr rfl)) (hd:(x == ("__debug__" : Str))=false:=by decide)
 (hcd:(x == ("__classdict__" : Str))=false:=by decide):PE X (.Name x pos) (oE i):=qB hN hv hd hcd
end
theorem DJ {A B:Prop} (h:B):if false=true then A else B:=by
 rw [if_neg ah]
 exact h
theorem DD {A B:Prop} (h:A):if true=true then A else B:=by
 rw [if_pos rfl]
 exact h
def bQ (H H':Hp):Prop:=∀ b o,H b=some o->H' b=some o
theorem bQ.refl (H:Hp):bQ H H:=fun _ _ h=>h
theorem bQ.trans {H H1 H2:Hp} (a:bQ H H1) (b:bQ H1 H2):bQ H H2:=fun c o h=>b c o (a c o h)
theorem bQ.free {H H':Hp} (e:bQ H H') {l:Addr} (h:H' l=Option.none):H l=Option.none:=by
 cases q:H l with
 | none=>rfl
 | some o =>
   rw [e l o q] at h
   cases h
theorem bQ.seq {K:PySem.W.Frag} {H H':Hp} {a:Addr} {xs:List V} (e:bQ H H') (h:SqL K H a xs):SqL K H' a xs:=by
 rcases h with (h | ⟨o,h⟩) | h
 ·exact .inl (.inl (e _ _ h))
 ·exact .inl (.inr ⟨o,e _ _ h⟩)
 ·exact .inr h
section
variable {X:Cx}
end
section
variable {κ:Type} [DecidableEq κ]
end
end L2
namespace Ry
open PySem PySem.W PyProof.Rows
variable (O:KeyOrd) (key:Nat->O.α) (n:Nat)
def cA {α:Type}:KasT α->(α->Prop)->Prop
 | .ret a,Q=>Q a
 | .ask i j k,Q=>i<n/\j<n/\cA (k (O.blt (key i) (key j))) Q
variable {O key n}
theorem cA.mono {α:Type} {Q Q':α->Prop} (h:∀ a,Q a->Q' a):∀ {t:KasT α},cA O key n t Q->cA O key n t Q'
 | .ret a,q=>h a q
 | .ask i j k,q=>⟨q.1,q.2.1,cA.mono h q.2.2⟩
theorem cA.bind {α β:Type} {f:α->KasT β} {Q:β->Prop}:∀ {t:KasT α},cA O key n t (fun a=>cA O key n (f a) Q)->cA O key n (t.bind f) Q
 | .ret _,q=>q
 | .ask i j k,q=>⟨q.1,q.2.1,cA.bind q.2.2⟩
theorem cA.wp {α:Type} {cmp:Nat->Nat->(Bool->Shared->Prop)->Shared->Prop} {s:Shared} (hc:∀ i j (C:Bool->Shared->Prop),i<n->j<n->C (O.blt (key i) (key j)) s->cmp i j C s) {Q:α->Shared->Prop} :
 ∀ {t:KasT α},cA O key n t (fun a=>Q a s)->t.kasWp cmp Q s
 | .ret _,q=>q
 | .ask i j k,q=>hc i j _ q.1 q.2.1 (cA.wp hc (t:=k (O.blt (key i) (key j))) q.2.2)
abbrev KN (O:KeyOrd) (key:Nat->O.α) (p:Array Nat) (i:Nat):O.α:=key (p.getD i 0)
structure bW (n:Nat) (p:Array Nat):Prop where
 perm:p.Perm (bi n).toArray
theorem bW.size {p:Array Nat} (h:bW n p):p.size=n:=by
 have:=h.perm.size_eq
 simpa using this
theorem bW.lt {p:Array Nat} (h:bW n p) {i:Nat} (hi:i<n):p.getD i 0<n:=by
 have hs:i<p.size:=by rw [h.size];exact hi
 have e:p.getD i 0=p[i]:=by simp [fR,hs]
 rw [e]
 have hm:p[i]∈(bi n).toArray.toList:=(bp.mp h.perm).mem_iff.mp (by simp)
 simpa using hm
theorem cI {p q:Array Nat} {i j:Nat} (h:p[i]?=q[j]?):p.getD i 0=q.getD j 0:=by
 rw [fY,fY,h]
theorem m6 {xs:Array Nat} {src d:Nat} (hs:src<xs.size) (hd:d<=src) (k:Nat) :
 KN O key (bubble xs src d) k=if k=src-d then KN O key xs src else if src-d<k/\k<=src then KN O key xs (k-1) else KN O key xs k:=by
 have e:=getElem?_bubble hs d hd k
 unfold KN
 by_cases h1:k=src-d
 ·rw [if_pos h1] at e ⊢;rw [cI e]
 ·rw [if_neg h1] at e ⊢
  by_cases h2:src-d<k/\k<=src
  ·rw [if_pos h2] at e ⊢;rw [cI e]
  ·rw [if_neg h2] at e ⊢;rw [cI e]
theorem sT {xs:Array Nat} {i j:Nat} (hj:j<=xs.size) (k:Nat):KN O key (kas_rev xs i j) k=if i<=k/\k<j then KN O key xs (i+j-1-k) else KN O key xs k:=by
 have e:=getElem?_mirror_all (i:=i) hj k
 unfold KN kas_rev
 by_cases h1:i<=k/\k<j
 ·rw [if_pos h1] at e ⊢;rw [cI e]
 ·rw [if_neg h1] at e ⊢;rw [cI e]
theorem eN {xs:Array Nat} {i j:Nat} (hj:j<=xs.size) (heq:∀ k,i<=k->k<j->KN O key xs k=KN O key xs (j-1)) (k:Nat):KN O key (kas_rev xs i j) k=KN O key xs k:=by
 rw [sT hj]
 split
 ·rw [heq _ (by lia) (by lia),heq k (by lia) (by lia)]
 ·rfl
theorem bW.rev {p:Array Nat} (h:bW n p) (i j:Nat):bW n (kas_rev p i j):=⟨(mirror_perm _ _ _ _).trans h.perm⟩
theorem bW.bub {p:Array Nat} (h:bW n p) (i j:Nat):bW n (bubble p i j):=⟨(bubble_perm _ _ _).trans h.perm⟩
def lh (O:KeyOrd) (key:Nat->O.α) (p:Array Nat) (k:Nat):Prop:=∀ i j,i<=j->j<k->O.kle (KN O key p i) (KN O key p j)
def m4 (O:KeyOrd) (key:Nat->O.α) (p:Array Nat) (k:Nat):Prop:=∀ i j,i<=j->j<k->O.kle (KN O key p j) (KN O key p i)
theorem vc {p:Array Nat} (hp:bW n p) {Q:Nat->Prop}:∀ (f a:Nat),1<=a->a+f=n->lh O key p a ->
 (∀ m,a<=m->m<=n->lh O key p m->(m=n\/O.klt (KN O key p m) (KN O key p (m-1)))->Q m)->cA O key n (kas_asc p f a) Q
 | 0,a,_,hf,hs,h=>h a (aj _) (by lia) hs (.inl (by lia))
 | f+1,a,h1,hf,hs,h=>by
   refine ⟨hp.lt (by lia),hp.lt (by lia),?_⟩
   show cA O key n (if O.blt (KN O key p a) (KN O key p (a-1))=true then _ else _) Q
   cases hless:O.blt (KN O key p a) (KN O key p (a-1)) with
   | true=>rw [if_pos rfl];exact h a (aj _) (by lia) hs (.inr hless)
   | false =>
     rw [if_neg ah]
     refine vc hp f (a+1) (by lia) (by lia) (fun i j hij hj=>?_) fun m h2 h3 h4 h5=>h m (by lia) h3 h4 h5
     by_cases hjx:j<a
     ·exact hs i j hij hjx
     ·have hj':j=a:=by lia
      subst hj'
      by_cases hi':i=j
      ·subst hi';exact KeyOrd.kle_refl _
      ·exact KeyOrd.kle_trans (hs i (j-1) (by lia) (by lia)) hless
theorem qI {p:Array Nat} {m:Nat} (hp:bW n p) {Q:Nat×Array Nat->Prop} (h1:1<=m) (hm:m<=n) (hs:m4 O key p m)
 (h:∀ k p',bW n p'->1<=k->k<=n->lh O key p' k->Q (k,p')):cA O key n (kas_tail3 m n p) Q:=by
 unfold kas_tail3
 have hz:m<=p.size:=by rw [hp.size];exact hm
 refine cA.bind (vc (hp.rev 0 m) (n-m) m h1 (by lia) (fun i j hij hj=>?_) fun k h2 h3 h4 _=>h k _ (hp.rev 0 m) (by lia) h3 h4)
 rw [sT hz,sT hz,if_pos (by lia),if_pos (by lia)]
 exact hs _ _ (by lia) (by lia)
theorem mo {Q:Array Nat×Nat×Nat->Prop}:∀ (f:Nat) (p:Array Nat) (a q:Nat),bW n p->1<=a->a+f=n->m4 O key p a->q+1<=a ->
 (∀ i,a-(q+1)<=i->i<a->KN O key p i=KN O key p (a-1)) ->
 (∀ p' m q',bW n p'->a<=m->m<=n->m4 O key p' m->q'+1<=m->(∀ i,m-(q'+1)<=i->i<m->KN O key p' i=KN O key p' (m-1))->Q (p',m,q'))->cA O key n (kas_desc f p a q) Q
 | 0,p,a,q,hp,_,hf,hs,hq,he,h=>h p a q hp (aj _) (by lia) hs hq he
 | f+1,p,a,q,hp,h1,hf,hs,hq,he,h=>by
   have hz:a<=p.size:=by rw [hp.size];lia
   refine ⟨hp.lt (by lia),hp.lt (by lia),?_⟩
   show cA O key n (if O.blt (KN O key p a) (KN O key p (a-1))=true then _ else _) Q
   cases hless:O.blt (KN O key p a) (KN O key p (a-1)) with
   | true =>
     rw [if_pos rfl]
     have step1:∀ xs:Array Nat,(∀ k,KN O key xs k=KN O key p k)->m4 O key xs (a+1):=by
      intro xs hk i j hij hj
      rw [hk,hk]
      by_cases hjx:j<a
      ·exact hs i j hij hjx
      ·have hj':j=a:=by lia
       subst hj'
       by_cases hi':i=j
       ·subst hi';exact KeyOrd.kle_refl _
       ·exact KeyOrd.kle_trans (KeyOrd.kle_of_klt hless) (hs i (j-1) (by lia) (by lia))
     by_cases hneq:q > 0
     ·rw [if_pos hneq]
      exact mo f _ (a+1) 0 (hp.rev _ _) (by lia) (by lia) (step1 _ (eN hz he)) (by lia) (fun i h1 h2=>by congr 1;congr 1;lia) fun p' m q' a1 a2 a3 a4 a5 a6=>h p' m q' a1 (by lia) a3 a4 a5 a6
     ·rw [if_neg hneq]
      exact mo f _ (a+1) 0 hp (by lia) (by lia) (step1 _ fun _=>rfl) (by lia) (fun i h1 h2=>by congr 1;congr 1;lia) fun p' m q' a1 a2 a3 a4 a5 a6=>h p' m q' a1 (by lia) a3 a4 a5 a6
   | false =>
     rw [if_neg ah]
     refine ⟨hp.lt (by lia),hp.lt (by lia),?_⟩
     show cA O key n (if O.blt (KN O key p (a-1)) (KN O key p a)=true then _ else _) Q
     cases hlarger:O.blt (KN O key p (a-1)) (KN O key p a) with
     | true=>rw [if_pos rfl];exact h p a q hp (aj _) (by lia) hs hq he
     | false =>
       rw [if_neg ah]
       have heqx:KN O key p a=KN O key p (a-1):=KeyOrd.kle_antisymm hlarger hless
       refine mo f p (a+1) (q+1) hp (by lia) (by lia) (fun i j hij hj=>?_) (by lia) (fun i h1 h2=>?_) fun p' m q' a1 a2 a3 a4 a5 a6=>h p' m q' a1 (by lia) a3 a4 a5 a6
       ·by_cases hjx:j<a
        ·exact hs i j hij hjx
        ·have hj':j=a:=by lia
         subst hj'
         by_cases hi':i=j
         ·subst hi';exact KeyOrd.kle_refl _
         ·rw [heqx];exact hs i (j-1) (by lia) (by lia)
       ·rw [show a+1-1=a by lia]
        by_cases hix:i=a
        ·subst hix;rfl
        ·rw [heqx];exact he i (by lia) (by lia)
theorem jL {p:Array Nat} {m:Nat} (hp:bW n p) {Q:Nat×Array Nat->Prop} (hm:m+1<=n) (hs:m4 O key p (m+1))
 (h:∀ k p',bW n p'->1<=k->k<=n->lh O key p' k->Q (k,p')):cA O key n (kas_descPart m n p) Q:=by
 unfold kas_descPart
 refine cA.bind (mo (n-(m+1)) p (m+1) 0 hp (by lia) (by lia) hs (by lia) (fun i h1 h2=>by congr 1;congr 1;lia) fun p' k q' a1 a2 a3 a4 a5 a6=>?_)
 have hz:k<=p'.size:=by rw [a1.size];exact a3
 by_cases hq:q' > 0
 ·rw [if_pos hq]
  refine qI (m:=k) (a1.rev _ _) (by lia) a3 (fun i j hij hj=>?_) h
  rw [eN hz a6,eN hz a6]
  exact a4 i j hij hj
 ·rw [if_neg hq]
  exact qI (m:=k) a1 (by lia) a3 a4 h
theorem vJ {p:Array Nat} (hp:bW n p) {Q:Nat×Array Nat->Prop} (h1:1<=n) (h:∀ k p',bW n p'->1<=k->k<=n->lh O key p' k->Q (k,p')):cA O key n (kas_count n p) Q:=by
 unfold kas_count
 refine cA.bind (vc hp (n-1) 1 (aj _) (by lia) (fun i j hij hj=>by have:i=j:=(by lia);subst this;exact KeyOrd.kle_refl _) fun m hm1 hm2 hsm hor=>?_)
 by_cases hnn:m=n
 ·rw [if_pos (by simpa using hnn)];exact h m p hp hm1 hm2 hsm
 ·rw [if_neg (by simpa using hnn)]
  have hlt:O.klt (KN O key p m) (KN O key p (m-1)):=hor.resolve_left hnn
  have hz:m<=p.size:=by rw [hp.size];exact hm2
  by_cases hgt:m > 1
  ·rw [if_pos hgt]
   refine ⟨hp.lt (by lia),hp.lt (by lia),?_⟩
   show cA O key n (if O.blt (KN O key p 0) (KN O key p (m-1))=true then _ else _) Q
   cases hrose:O.blt (KN O key p 0) (KN O key p (m-1)) with
   | true=>rw [if_pos rfl];exact h m p hp hm1 hm2 hsm
   | false =>
     rw [if_neg ah]
     have hall:∀ k,0<=k->k<m->KN O key p k=KN O key p (m-1):=by
      intro k _ hk
      have a1:=hsm 0 k (by lia) hk
      have a2:=hsm k (m-1) (by lia) (by lia)
      have a3:O.kle (KN O key p (m-1)) (KN O key p 0):=hrose
      exact KeyOrd.kle_antisymm a2 (KeyOrd.kle_trans a3 a1)
     refine jL (hp.rev 0 m) (by lia) (fun i j hij hj=>?_) h
     rw [eN hz hall,eN hz hall]
     by_cases hjm:j<m
     ·rw [hall i (by lia) (by lia),hall j (by lia) hjm];exact KeyOrd.kle_refl _
     ·have hj':j=m:=by lia
      subst hj'
      by_cases hi':i=j
      ·subst hi';exact KeyOrd.kle_refl _
      ·rw [hall i (by lia) (by lia)];exact KeyOrd.kle_of_klt hlt
  ·rw [if_neg hgt]
   have e1:m=1:=by lia
   subst e1
   refine jL hp (by lia) (fun i j hij hj=>?_) h
   by_cases hi':i=j
   ·subst hi';exact KeyOrd.kle_refl _
   ·have ei:i=0:=by lia
    have ej:j=1:=by lia
    subst ei ej
    exact KeyOrd.kle_of_klt hlt
theorem lF {p:Array Nat} {k:Nat} (hp:bW n p) (hk:k<n) (hs:lh O key p k) {Q:Nat->Prop}:∀ (f l r:Nat),l<=r->r<=k->r-l<=f ->
 (∀ i,i<l->O.kle (KN O key p i) (KN O key p k))->(∀ i,r<=i->i<k->O.klt (KN O key p k) (KN O key p i)) ->
 (∀ l,l<=k->(∀ i,i<l->O.kle (KN O key p i) (KN O key p k))->(∀ i,l<=i->i<k->O.klt (KN O key p k) (KN O key p i))->Q l)->cA O key n (kas_place p k f l r) Q
 | 0,l,r,hlr,hrk,hf,hlo,hhi,h=>by
   have:l=r:=by lia
   subst this
   exact h l hrk hlo hhi
 | f+1,l,r,hlr,hrk,hf,hlo,hhi,h=>by
   unfold kas_place
   by_cases hge:l≥r
   ·rw [if_pos hge]
    have:l=r:=by lia
    subst this
    exact h l hrk hlo hhi
   ·rw [if_neg hge]
    refine ⟨hp.lt hk,hp.lt (by lia),?_⟩
    show cA O key n (if O.blt (KN O key p k) (KN O key p ((l+r) / 2))=true then _ else _) Q
    cases hless:O.blt (KN O key p k) (KN O key p ((l+r) / 2)) with
    | true =>
      rw [if_pos rfl]
      exact lF hp hk hs f l ((l+r) / 2) (by lia) (by lia) (by lia) hlo (fun i h1 h2=>KeyOrd.klt_of_klt_of_kle hless (hs _ _ h1 h2)) h
    | false =>
      rw [if_neg ah]
      exact lF hp hk hs f ((l+r) / 2+1) r (by lia) (by lia) (by lia) (fun i h1=>KeyOrd.kle_trans (hs i ((l+r) / 2) (by lia) (by lia)) (show O.kle _ _ from hless)) hhi h
theorem xH {Q:Array Nat->Prop}:∀ (f:Nat) (p:Array Nat) (k:Nat),bW n p->k+f=n->lh O key p k->(∀ p',bW n p'->lh O key p' n->Q p')->cA O key n (kas_bin f p k) Q
 | 0,p,k,hp,hf,hs,h=>h p hp ((show k=n by lia)▸hs)
 | f+1,p,k,hp,hf,hs,h=>by
   unfold kas_bin
   refine cA.bind (lF hp (by lia) hs k 0 k (by lia) (aj _) (by lia) (fun i hi=>by lia) (fun i h1 h2=>by lia) fun l hl hlo hhi=>?_)
   refine xH f _ (k+1) (hp.bub _ _) (by lia) (fun i j hij hj=>?_) h
   have hks:k<p.size:=by rw [hp.size];lia
   rw [m6 hks (by lia),m6 hks (by lia),show k-(k-l)=l by lia]
   repeat' split
   all_goals first
    | (exfalso;lia)
    | exact KeyOrd.kle_refl _
    | exact hlo _ (by lia)
    | exact KeyOrd.kle_of_klt (hhi _ (by lia) (by lia))
    | exact hs _ _ (by lia) (by lia)
theorem oX {Q:Array Nat->Prop} (h1:1<=n) (h:∀ p,bW n p->lh O key p n->Q p):cA O key n (kas_sort n) Q:=by
 unfold kas_sort
 refine cA.bind (vJ ⟨Array.Perm.refl _⟩ h1 fun k p hp a1 a2 a3=>?_)
 dsimp only
 by_cases hk:k<n
 ·rw [if_pos hk]
  rw [show max k 1=k by lia]
  exact xH (n-k) p k hp (by lia) a3 h
 ·rw [if_neg hk]
  have:k=n:=by lia
  subst this
  exact h p hp a3
end Ry
namespace Ry
open PySem PySem.W PyProof.Rows
structure Ora (prog:Program) (w:World) (A:Around) (s:Shared) (f:Nat->Keyed) (κ:SortKind) (n:Nat) (lt:Nat->Nat->Bool):Prop where
 ask:∀ i j (C:Bool->Shared->Prop),i<n->j<n->C (lt i j) s->wpAny (model prog w) A (keyLt' κ (f i).1 (f j).1) C (fun _ _=>False) s
 irr:∀ i,lt i i=false
 tr:∀ i j k,lt i j=true->lt j k=true->lt i k=true
 tot:∀ i j,i<n->j<n->i≠j->lt i j=true\/lt j i=true
structure Sst (f:Nat->Keyed) (κ:SortKind) (p:Array Nat) (pd:Array (Nat×Nat×Nat)) (st:SortSt):Prop where
 arr:arrOf st=p.map f
 kind:kindOf st=κ
 fail:failedOf st=none
 pend:pendingOf st=pd
def pa (p:Array Nat) (i:Nat):Nat:=p.getD i 0
section
variable {prog:Program} {w:World} {A:Around} {E:Value->Shared->Prop} {s:Shared} {f:Nat->Keyed} {κ:SortKind} {n:Nat} {lt:Nat->Nat->Bool} {p:Array Nat} {pd:Array (Nat×Nat×Nat)} {st:SortSt}
theorem Ora.no (O:Ora prog w A s f κ n lt) {i j:Nat} (hi:i<n) (hj:j<n) (h:lt i j=false) (hne:i≠j):lt j i=true:=(O.tot i j hi hj hne).resolve_left (by rw [h];exact ah)
theorem bW.inj (h:bW n p) {i j:Nat} (hi:i<n) (hj:j<n) (e:pa p i=pa p j):i=j:=by
 have nd:p.toList.Nodup:=(bp.mp h.perm).nodup_iff.mpr (by simpa using B8)
 have sz:=h.size
 have e1:pa p i=p.toList[i]'(by simp;lia):=by simp [pa,fR,sz,hi]
 have e2:pa p j=p.toList[j]'(by simp;lia):=by simp [pa,fR,sz,hj]
 rw [e1,e2] at e
 exact (d9 nd).mp e
theorem AN (O:Ora prog w A s f κ n lt) {i j:Nat} {Q:Option Bool->SortSt->Prop} (hk:kindOf st=κ) (hi:i<n) (hj:j<n) (h:Q (some (lt i j)) st):wpS (model prog w) A E s (lt' (f i) (f j)) Q st:=by
 rw [lt'_eq]
 refine wpS_bind (wpS_get ?_)
 rw [hk]
 refine wpS_bind (wpS_lift (wpAny_attempt (wpAny_mono (O.ask i j (fun b s'=>s'=s/\b=lt i j) hi hj ⟨rfl,rfl⟩) (fun b s' q=>?_) fun _ _ q=>q.elim)))
 obtain ⟨rfl,rfl⟩:=q
 exact ⟨rfl,wpS_pure h⟩
theorem lb {q:Array Nat} {i:Nat} {Q:Keyed->SortSt->Prop} (hi:i<q.size) (h:Q (f (pa q i)) st):wpS (model prog w) A E s (elem' (q.map f) i) Q st:=by
 rw [elem'_eq]
 have e:(q.map f)[i]?=some (f (pa q i)):=by simp [pa,fR,hi]
 rw [e]
 exact wpS_pure h
theorem kX (O:Ora prog w A s f κ n lt) (S:Sst f κ p pd st) (hp:bW n p) {i j:Nat} {Q:Option Bool->SortSt->Prop} (hi:i<n) (hj:j<n) (h:Q (some (lt (pa p i) (pa p j))) st):wpS (model prog w) A E s (ltAt' i j) Q st:=by
 rw [ltAt'_eq]
 refine wpS_bind (wpS_get ?_)
 show wpS _ _ _ _ (do let x <- elem' (arrOf st) i;let y <- elem' (arrOf st) j;lt' x y) Q st
 rw [S.arr]
 exact wpS_bind (lb (by rw [hp.size];exact hi) (wpS_bind (lb (by rw [hp.size];exact hj) (AN O S.kind (hp.lt hi) (hp.lt hj) h))))
theorem Sst.rev (S:Sst f κ p pd st) (i j:Nat):Sst f κ (kas_rev p i j) pd (setArr st (mirror (arrOf st) i j ((j-i) / 2))) :=
 ⟨by show mirror (arrOf st) i j ((j-i) / 2)=_;rw [S.arr];exact kas_swaps_map f (fun k=>i+k) (fun k=>j-1-k) _ p,S.kind,S.fail,S.pend⟩
theorem Sst.bub (S:Sst f κ p pd st) (k d:Nat):Sst f κ (bubble p k d) pd (setArr st (bubble (arrOf st) k d)) :=
 ⟨by show bubble (arrOf st) k d=_;rw [S.arr];exact kas_swaps_map f (fun i=>k-i) (fun i=>k-i-1) _ p,S.kind,S.fail,S.pend⟩
def Seg (lt:Nat->Nat->Bool) (p:Array Nat) (a b:Nat):Prop:=∀ i j,a<=i->i<j->j<b->lt (pa p i) (pa p j)=true
theorem sY {src d:Nat} (hs:src<p.size) (hd:d<=src) (k:Nat):pa (bubble p src d) k=if k=src-d then pa p src else if src-d<k/\k<=src then pa p (k-1) else pa p k:=by
 have e:=getElem?_bubble hs d hd k
 unfold pa
 by_cases h1:k=src-d
 ·rw [if_pos h1] at e ⊢;rw [cI e]
 ·rw [if_neg h1] at e ⊢
  by_cases h2:src-d<k/\k<=src
  ·rw [if_pos h2] at e ⊢;rw [cI e]
  ·rw [if_neg h2] at e ⊢;rw [cI e]
theorem sx {i j:Nat} (hj:j<=p.size) (k:Nat):pa (kas_rev p i j) k=if i<=k/\k<j then pa p (i+j-1-k) else pa p k:=by
 have e:=getElem?_mirror_all (i:=i) hj k
 unfold pa kas_rev
 by_cases h1:i<=k/\k<j
 ·rw [if_pos h1] at e ⊢;rw [cI e]
 ·rw [if_neg h1] at e ⊢;rw [cI e]
theorem Aq (O:Ora prog w A s f κ n lt) {lo m ok:Nat} {Q:Bool->SortSt->Prop} (hm:lo+m<=n) (hok:ok<=m) (S:Sst f κ p pd st) (hp:bW n p) (hs:Seg lt p lo (lo+ok))
 (h:∀ p' st',Sst f κ p' pd st'->bW n p'->Seg lt p' lo (lo+m)->(∀ i,i<lo->pa p' i=pa p i)->Q true st'):wpS (model prog w) A E s (binarySort' lo m ok) Q st:=by
 rw [binarySort'_eq]
 refine wpS_bind (wpS_mono (wpS_forRange (I:=fun k c st1=>c=(none,())/\∃ p1,Sst f κ p1 pd st1/\bW n p1/\Seg lt p1 lo (lo+min k m)/\∀ i,i<lo->pa p1 i=pa p i)
  (Q:=fun c st1=>c=(none,())/\∃ p1,Sst f κ p1 pd st1/\bW n p1/\Seg lt p1 lo (lo+m)/\∀ i,i<lo->pa p1 i=pa p i) ?step ?fin ?init) ?post)
 case post =>
  rintro c st1 ⟨rfl,p1,a,b,c,d⟩
  exact wpS_pure (h p1 st1 a b c d)
 case init =>
  refine ⟨rfl,p,S,hp,fun i j h1 h2 h3=>?_,fun _ _=>rfl⟩
  by_cases h0:ok=0
  ·exfalso;lia
  ·exact hs i j h1 h2 (by lia)
 case fin =>
  rintro c st1 ⟨hc,p1,a,b,d,e⟩
  refine ⟨hc,p1,a,b,?_,e⟩
  have e0:min (max (max ok 1) m) m=m:=by lia
  rw [e0] at d
  exact d
 case step =>
  rintro k c st1 hak hkn ⟨rfl,p1,S1,hp1,hs1,hb1⟩
  have e0:min k m=k:=by lia
  rw [e0] at hs1
  have hk:lo+k<n:=by lia
  refine wpS_bind (wpS_mono (wpS_forRange (I:=fun x c st2=>st2=st1/\∃ l r,c=(none,l,r)/\l<=r/\r<=k/\r-l<=k-x/\(∀ i,i<l->lt (pa p1 (lo+i)) (pa p1 (lo+k))=true)/\∀ i,r<=i->i<k->lt (pa p1 (lo+k)) (pa p1 (lo+i))=true)
   (Q:=fun c st2=>st2=st1/\∃ l r,c=(none,l,r)/\l<=k/\(∀ i,i<l->lt (pa p1 (lo+i)) (pa p1 (lo+k))=true)/\∀ i,l<=i->i<k->lt (pa p1 (lo+k)) (pa p1 (lo+i))=true) ?istep ?ifin ?iinit) ?ipost)
  case iinit=>exact ⟨rfl,0,k,rfl,by lia,by lia,by lia,fun i hi=>by lia,fun i h1 h2=>by lia⟩
  case ifin =>
   rintro c st2 ⟨rfl,l,r,rfl,h1,h2,h3,h4,h5⟩
   have e1:l=r:=by lia
   subst e1
   exact ⟨rfl,l,l,rfl,h2,h4,h5⟩
  case istep =>
   rintro x c st2 _ hx ⟨rfl,l,r,rfl,h1,h2,h3,h4,h5⟩
   dsimp only
   by_cases hge:l≥r
   ·rw [if_pos hge]
    have e1:l=r:=by lia
    subst e1
    exact wpS_pure ⟨rfl,l,l,rfl,h2,h4,h5⟩
   ·rw [if_neg hge]
    refine wpS_bind (kX O S1 hp1 hk (by lia) ?_)
    have hne:pa p1 (lo+k)≠pa p1 (lo+(l+r) / 2):=fun z=>by have:=hp1.inj hk (by lia) z;lia
    cases q:lt (pa p1 (lo+k)) (pa p1 (lo+(l+r) / 2)) with
    | true =>
      refine wpS_pure ⟨rfl,l,(l+r) / 2,rfl,by lia,by lia,by lia,h4,fun i a b=>?_⟩
      by_cases e2:i=(l+r) / 2
      ·rw [e2];exact q
      ·exact O.tr _ _ _ q (hs1 _ _ (by lia) (by lia) (by lia))
    | false =>
      have q':=O.no (hp1.lt hk) (hp1.lt (by lia)) q hne
      refine wpS_pure ⟨rfl,(l+r) / 2+1,r,rfl,by lia,by lia,by lia,fun i a=>?_,h5⟩
      by_cases e2:i=(l+r) / 2
      ·rw [e2];exact q'
      ·exact O.tr _ _ _ (hs1 _ _ (by lia) (by lia) (by lia)) q'
  case ipost =>
   rintro c st2 ⟨rfl,l,r,rfl,h1,h2,h3⟩
   show wpS _ _ _ _ (do moveDown' (lo+k) (lo+l);pure (ForInStep.yield (none,()))) _ _
   rw [moveDown'_eq]
   have hsz:lo+k<p1.size:=by rw [hp1.size];exact hk
   refine wpS_bind (wpS_modify (wpS_pure ⟨rfl,bubble p1 (lo+k) (lo+k-(lo+l)),S1.bub _ _,hp1.bub _ _,?_,fun i hi=>?_⟩))
   ·have e1:min (k+1) m=k+1:=by lia
    rw [e1]
    intro i j a b c
    rw [sY hsz (by lia),sY hsz (by lia)]
    have e2:lo+k-(lo+k-(lo+l))=lo+l:=by lia
    rw [e2]
    have at':∀ t,lo<=t->t<lo+l->lt (pa p1 t) (pa p1 (lo+k))=true:=fun t ta tb=>by have:=h2 (t-lo) (by lia);rwa [show lo+(t-lo)=t by lia] at this
    have up':∀ t,lo+l<=t->t<lo+k->lt (pa p1 (lo+k)) (pa p1 t)=true:=fun t ta tb=>by have:=h3 (t-lo) (by lia) (by lia);rwa [show lo+(t-lo)=t by lia] at this
    repeat' split
    all_goals first
     | (exfalso;lia)
     | exact at' _ (by lia) (by lia)
     | exact up' _ (by lia) (by lia)
     | (refine hs1 _ _ ?_ ?_ ?_<;>lia)
   ·have e1:pa (bubble p1 (lo+k) (lo+k-(lo+l))) i=pa p1 i:=by
     rw [sY hsz (by lia)]
     repeat' split
     all_goals first
      | (exfalso;lia)
      | rfl
    rw [e1]
    exact hb1 i hi
end
end Ry
namespace Ry
open PySem PySem.W PyProof.Rows
section
variable {prog:Program} {w:World} {A:Around} {E:Value->Shared->Prop} {s:Shared} {f:Nat->Keyed} {κ:SortKind} {n:Nat} {lt:Nat->Nat->Bool} {p:Array Nat} {pd:Array (Nat×Nat×Nat)} {st:SortSt}
theorem Seg.more (O:Ora prog w A s f κ n lt) {a x:Nat} (hp:bW n p) (hs:Seg lt p a (a+x)) (hx:1<=x) (hn:a+x<n) (q:lt (pa p (a+x)) (pa p (a+x-1))=false):Seg lt p a (a+(x+1)):=by
 have hne:pa p (a+x)≠pa p (a+x-1):=fun z=>by have:=hp.inj hn (by lia) z;lia
 have q':=O.no (hp.lt hn) (hp.lt (by lia)) q hne
 intro i j h1 h2 h3
 by_cases hj:j<a+x
 ·exact hs i j h1 h2 hj
 ·have ej:j=a+x:=by lia
  subst ej
  by_cases hi:i=a+x-1
  ·rw [hi];exact q'
  ·exact O.tr _ _ _ (hs i (a+x-1) h1 (by lia) (by lia)) q'
theorem so (O:Ora prog w A s f κ n lt) {lo nrem:Nat} {Q:Option Nat->SortSt->Prop} (h1:1<=nrem) (hn:lo+nrem<=n) (S:Sst f κ p pd st) (hp:bW n p)
 (h:∀ m p' st',Sst f κ p' pd st'->bW n p'->1<=m->m<=nrem->Seg lt p' lo (lo+m)->(∀ i,i<lo->pa p' i=pa p i)->Q (some m) st'):wpS (model prog w) A E s (countRun' lo nrem) Q st:=by
 rw [countRun'_eq]
 refine wpS_bind (wpS_mono (wpS_forRange (I:=fun x c st1=>st1=st/\c=(none,x)/\1<=x/\x<=nrem/\Seg lt p lo (lo+x))
  (Q:=fun c st1=>st1=st/\∃ m,c=(none,m)/\1<=m/\m<=nrem/\Seg lt p lo (lo+m)/\(m=nrem\/lt (pa p (lo+m)) (pa p (lo+m-1))=true)) ?step ?fin ?init) ?post)
 case init=>exact ⟨rfl,rfl,aj _,h1,fun i j a b c=>by lia⟩
 case fin =>
  rintro c st1 ⟨rfl,rfl,a,b,d⟩
  exact ⟨rfl,_,rfl,a,b,d,.inl (by lia)⟩
 case step =>
  rintro x c st1 _ hx ⟨rfl,rfl,a,b,d⟩
  dsimp only
  refine wpS_bind (kX O S hp (by lia) (by lia) ?_)
  cases q:lt (pa p (lo+x)) (pa p (lo+x-1)) with
  | true=>exact wpS_pure ⟨rfl,x,rfl,a,b,d,.inr q⟩
  | false=>exact wpS_pure ⟨rfl,rfl,by lia,by lia,d.more O hp a (by lia) q⟩
 case post =>
  rintro c st1 ⟨rfl,m,rfl,a,b,d,e⟩
  dsimp only
  by_cases hm:m=nrem
  ·rw [if_pos (by rw [hm];exact beq_self_eq_true _)]
   exact wpS_pure (h m p st1 S hp a b d fun _ _=>rfl)
  ·rw [if_neg (by simpa using hm)]
   have e':=e.resolve_left hm
   by_cases hm1:m > 1
   ·rw [if_pos hm1]
    refine wpS_bind (kX O S hp (by lia) (by lia) ?_)
    rw [d lo (lo+m-1) (aj _) (by lia) (by lia)]
    exact wpS_pure (h m p st1 S hp a b d fun _ _=>rfl)
   ·rw [if_neg hm1]
    have em:m=1:=by lia
    subst em
    refine wpS_bind (wpS_lift (wpAny_rule ⟨rfl,?_⟩))
    refine wpS_bind (wpS_mono (wpS_forRange (I:=fun x c st2=>st2=st1/\c=(none,x,0)/\2<=x/\x<=nrem/\∀ i j,lo<=i->i<j->j<lo+x->lt (pa p j) (pa p i)=true)
     (Q:=fun c st2=>st2=st1/\∃ m,c=(none,m,0)/\2<=m/\m<=nrem/\∀ i j,lo<=i->i<j->j<lo+m->lt (pa p j) (pa p i)=true) ?dstep ?dfin ?dinit) ?dpost)
    case dinit =>
     refine ⟨rfl,rfl,aj _,by lia,fun i j i1 i2 i3=>?_⟩
     have ei:i=lo:=by lia
     have ej:j=lo+1:=by lia
     subst ei ej
     simpa using e'
    case dfin =>
     rintro c st2 ⟨rfl,rfl,a2,b2,d2⟩
     exact ⟨rfl,_,rfl,a2,b2,d2⟩
    case dstep =>
     rintro x c st2 _ hx ⟨rfl,rfl,a2,b2,d2⟩
     dsimp only
     refine wpS_bind (kX O S hp (by lia) (by lia) ?_)
     cases q:lt (pa p (lo+x)) (pa p (lo+x-1)) with
     | true =>
       refine wpS_pure ⟨rfl,rfl,by lia,by lia,fun i j i1 i2 i3=>?_⟩
       by_cases hj:j<lo+x
       ·exact d2 i j i1 i2 hj
       ·have ej:j=lo+x:=by lia
        subst ej
        by_cases hi:i=lo+x-1
        ·rw [hi];exact q
        ·exact O.tr _ _ _ q (d2 i (lo+x-1) i1 (by lia) (by lia))
     | false =>
       have hne:pa p (lo+x)≠pa p (lo+x-1):=fun z=>by have:=hp.inj (show lo+x<n by lia) (show lo+x-1<n by lia) z;lia
       have q':lt (pa p (lo+x-1)) (pa p (lo+x))=true:=O.no (hp.lt (show lo+x<n by lia)) (hp.lt (show lo+x-1<n by lia)) q hne
       dsimp only
       refine wpS_bind (kX O S hp (by lia) (by lia) ?_)
       rw [q']
       exact wpS_pure ⟨rfl,x,rfl,a2,b2,d2⟩
    case dpost =>
     rintro c st2 ⟨rfl,m,rfl,a2,b2,d2⟩
     dsimp only
     rw [if_neg (by lia)]
     rw [reverseSlice'_eq]
     refine wpS_bind (wpS_modify ?_)
     have S2:=S.rev lo (lo+m)
     have hp2:=hp.rev lo (lo+m)
     have hsz:lo+m<=p.size:=by rw [hp.size];lia
     have hlow:∀ i,i<lo->pa (kas_rev p lo (lo+m)) i=pa p i:=fun i hi=>by rw [sx hsz];exact if_neg (by lia)
     have hs2:Seg lt (kas_rev p lo (lo+m)) lo (lo+m):=fun i j i1 i2 i3=>by
      rw [sx hsz,sx hsz,if_pos ⟨i1,by lia⟩,if_pos ⟨by lia,i3⟩]
      exact d2 _ _ (by lia) (by lia) (by lia)
     refine wpS_bind (wpS_mono (wpS_forRange (I:=fun x c st3=>st3=setArr st2 (mirror (arrOf st2) lo (lo+m) ((lo+m-lo) / 2))/\c=(none,x)/\m<=x/\x<=nrem/\Seg lt (kas_rev p lo (lo+m)) lo (lo+x))
      (Q:=fun c st3=>st3=setArr st2 (mirror (arrOf st2) lo (lo+m) ((lo+m-lo) / 2))/\∃ k,c=(none,k)/\m<=k/\k<=nrem/\Seg lt (kas_rev p lo (lo+m)) lo (lo+k)) ?tstep ?tfin ?tinit) ?tpost)
     case tinit=>exact ⟨rfl,rfl,aj _,b2,hs2⟩
     case tfin =>
      rintro c st3 ⟨rfl,rfl,a3,b3,d3⟩
      exact ⟨rfl,_,rfl,a3,b3,d3⟩
     case tstep =>
      rintro x c st3 _ hx ⟨rfl,rfl,a3,b3,d3⟩
      dsimp only
      refine wpS_bind (kX O S2 hp2 (by lia) (by lia) ?_)
      cases q:lt (pa (kas_rev p lo (lo+m)) (lo+x)) (pa (kas_rev p lo (lo+m)) (lo+x-1)) with
      | true=>exact wpS_pure ⟨rfl,x,rfl,a3,b3,d3⟩
      | false=>exact wpS_pure ⟨rfl,rfl,by lia,by lia,d3.more O hp2 (by lia) (by lia) q⟩
     case tpost =>
      rintro c st3 ⟨rfl,k,rfl,a3,b3,d3⟩
      exact wpS_pure (h k _ _ S2 hp2 (by lia) b3 d3 hlow)
end
end Ry
namespace Ry
open PySem PySem.W PyProof.Rows
def zk:Bool->Keyed->Array Keyed->Nat->Nat->Nat->StateT SortSt Sem (Option Nat):=sortPriv% PySem.Builtin.gallop
def bd (lt:Nat->Nat->Bool) (left:Bool) (kx:Nat) (q:Array Nat) (base i:Nat):Bool:=if left=true then lt (pa q (base+i)) kx else !lt kx (pa q (base+i))
section
variable {prog:Program} {w:World} {A:Around} {E:Value->Shared->Prop} {s:Shared} {f:Nat->Keyed} {κ:SortKind} {n:Nat} {lt:Nat->Nat->Bool} {q:Array Nat} {st:SortSt} {left:Bool} {kx base m hint:Nat}
theorem t9 (O:Ora prog w A s f κ n lt) (hk:kindOf st=κ) (hq:∀ i,i<q.size->pa q i<n) (hkx:kx<n) {i:Nat} {Q:Option Bool->SortSt->Prop} (hi:base+i<q.size) (h:Q (some (bd lt left kx q base i)) st) :
 wpS (model prog w) A E s (do let x <- elem' (q.map f) (base+i);if left=true then lt' x (f kx) else do let r <- lt' (f kx) x;pure (Option.map (fun y=>!y) r)) Q st:=by
 refine wpS_bind (lb hi ?_)
 unfold bd at h
 by_cases hl:left=true
 ·rw [if_pos hl] at h ⊢
  exact AN O hk (hq _ hi) hkx h
 ·rw [if_neg hl] at h ⊢
  exact wpS_bind (AN O hk hkx (hq _ hi) (wpS_pure h))
def Bs (lt:Nat->Nat->Bool) (left:Bool) (kx:Nat) (q:Array Nat) (base m l r:Nat):Prop:=l<=r/\r<=m/\(l=0\/bd lt left kx q base (l-1)=true)/\(r=m\/bd lt left kx q base r=false)
theorem Bs.up {l r:Nat} (h:Bs lt left kx q base m l r) (hg:¬ l≥r) (z:bd lt left kx q base (l+(r-l) / 2)=true):Bs lt left kx q base m (l+(r-l) / 2+1) r:=⟨by lia,h.2.1,.inr z,h.2.2.2⟩
theorem Bs.dn {l r:Nat} (h:Bs lt left kx q base m l r) (hg:¬ l≥r) (z:bd lt left kx q base (l+(r-l) / 2)=false):Bs lt left kx q base m l (l+(r-l) / 2):=⟨by lia,by have:=h.2.1;lia,h.2.2.1,.inr z⟩
theorem Bs.end {r:Nat} (h:Bs lt left kx q base m r r) (mono:∀ i j,i<=j->j<m->bd lt left kx q base j=true->bd lt left kx q base i=true):(∀ i,i<r->bd lt left kx q base i=true)/\∀ i,r<=i->i<m->bd lt left kx q base i=false:=by
 obtain ⟨_,a,b,d⟩:=h
 refine ⟨fun i hi=>?_,fun i hi hm=>?_⟩
 ·rcases b with z | z
  ·lia
  ·exact mono i (r-1) (by lia) (by lia) z
 ·rcases d with z | z
  ·lia
  ·cases y:bd lt left kx q base i with
   | false=>rfl
   | true=>have:=mono r i hi hm y;rw [z] at this;cases this
theorem gU (O:Ora prog w A s f κ n lt) (hk:kindOf st=κ) (hq:∀ i,i<q.size->pa q i<n) (hkx:kx<n) (hb:base+m<=q.size) (hh:hint<m) (mono:∀ i j,i<=j->j<m->bd lt left kx q base j=true->bd lt left kx q base i=true) {Q:Option Nat->SortSt->Prop}
 (h:∀ k,k<=m->(∀ i,i<k->bd lt left kx q base i=true)->(∀ i,k<=i->i<m->bd lt left kx q base i=false)->Q (some k) st):wpS (model prog w) A E s (zk left (f kx) (q.map f) base m hint) Q st:=by
 refine wpS_bind (t9 O hk hq hkx (by lia) ?_)
 cases z:bd lt left kx q base hint with
 | true =>
   refine wpS_bind (wpS_mono (wpS_forRange (I:=fun x c st1=>st1=st/\∃ la of,c=(none,la,of)/\la<of/\la<m-hint/\x+1<=of/\bd lt left kx q base (hint+la)=true)
    (Q:=fun c st1=>st1=st/\∃ la of,c=(none,la,of)/\la<of/\la<m-hint/\bd lt left kx q base (hint+la)=true/\(of≥m-hint\/bd lt left kx q base (hint+of)=false)) ?step ?fin ?init) ?post)
   case init=>exact ⟨rfl,0,1,rfl,by lia,by lia,by lia,z⟩
   case fin =>
    rintro c st1 ⟨rfl,la,of,rfl,a,b,d,e⟩
    exact ⟨rfl,la,of,rfl,a,b,e,.inl (by lia)⟩
   case step =>
    rintro x c st1 _ hx ⟨rfl,la,of,rfl,a,b,d,e⟩
    dsimp only
    by_cases hge:of≥m-hint
    ·rw [if_pos hge]
     exact wpS_pure ⟨rfl,la,of,rfl,a,b,e,.inl hge⟩
    ·rw [if_neg hge]
     refine wpS_bind (t9 O hk hq hkx (by lia) ?_)
     cases y:bd lt left kx q base (hint+of) with
     | true=>exact wpS_pure ⟨rfl,of,2*of+1,rfl,by lia,by lia,by lia,y⟩
     | false=>exact wpS_pure ⟨rfl,la,of,rfl,a,b,e,.inr y⟩
   case post =>
    rintro c st1 ⟨rfl,la,of,rfl,a,b,d,e⟩
    dsimp only
    have bs0:Bs lt left kx q base m (hint+la+1) (hint+min of (m-hint)):=⟨by lia,by lia,.inr (by simpa using d),by
     by_cases hge:of≥m-hint
     ·exact .inl (by lia)
     ·have e0:min of (m-hint)=of:=by lia
      rw [e0]
      exact .inr (e.resolve_left hge)⟩
    refine wpS_bind (wpS_mono (wpS_forRange (I:=fun x c st2=>st2=st1/\∃ l r,c=(none,l,r)/\r-l<=m-x/\Bs lt left kx q base m l r) (Q:=fun c st2=>st2=st1/\∃ r,c=(none,r,r)/\Bs lt left kx q base m r r) ?bstep1 ?bfin1 ?binit1) ?bpost1)
    case binit1=>exact ⟨rfl,_,_,rfl,by have:=bs0.2.1;lia,bs0⟩
    case bfin1 =>
     rintro c st2 ⟨rfl,l,r,rfl,a,b⟩
     have el:l=r:=by have:=b.1;lia
     subst el
     exact ⟨rfl,l,rfl,b⟩
    case bstep1 =>
     rintro x c st2 _ hx ⟨rfl,l,r,rfl,a,b⟩
     dsimp only
     have b1:=b.1
     have b2:=b.2.1
     by_cases hge:l≥r
     ·rw [if_pos hge]
      have el:l=r:=by lia
      subst el
      exact wpS_pure ⟨rfl,l,rfl,b⟩
     ·rw [if_neg hge]
      refine wpS_bind (t9 O hk hq hkx (by lia) ?_)
      cases z:bd lt left kx q base (l+(r-l) / 2) with
      | true=>exact wpS_pure ⟨rfl,_,_,rfl,by lia,b.up hge z⟩
      | false=>exact wpS_pure ⟨rfl,_,_,rfl,by lia,b.dn hge z⟩
    case bpost1 =>
     rintro c st2 ⟨rfl,r,rfl,b⟩
     obtain ⟨b1,b2⟩:=b.end mono
     exact wpS_pure (h r b.2.1 b1 b2)
 | false =>
   refine wpS_bind (wpS_mono (wpS_forRange (I:=fun x c st1=>st1=st/\∃ la of,c=(none,la,of)/\la<of/\la<hint+1/\x+1<=of/\bd lt left kx q base (hint-la)=false)
    (Q:=fun c st1=>st1=st/\∃ la of,c=(none,la,of)/\la<of/\la<hint+1/\bd lt left kx q base (hint-la)=false/\(of≥hint+1\/bd lt left kx q base (hint-of)=true)) ?step2 ?fin2 ?init2) ?post2)
   case init2=>exact ⟨rfl,0,1,rfl,by lia,by lia,by lia,z⟩
   case fin2 =>
    rintro c st1 ⟨rfl,la,of,rfl,a,b,d,e⟩
    exact ⟨rfl,la,of,rfl,a,b,e,.inl (by lia)⟩
   case step2 =>
    rintro x c st1 _ hx ⟨rfl,la,of,rfl,a,b,d,e⟩
    dsimp only
    by_cases hge:of≥hint+1
    ·rw [if_pos hge]
     exact wpS_pure ⟨rfl,la,of,rfl,a,b,e,.inl hge⟩
    ·rw [if_neg hge]
     refine wpS_bind (t9 O hk hq hkx (by lia) ?_)
     cases y:bd lt left kx q base (hint-of) with
     | false=>exact wpS_pure ⟨rfl,of,2*of+1,rfl,by lia,by lia,by lia,y⟩
     | true=>exact wpS_pure ⟨rfl,la,of,rfl,a,b,e,.inr y⟩
   case post2 =>
    rintro c st1 ⟨rfl,la,of,rfl,a,b,d,e⟩
    dsimp only
    have bs0:Bs lt left kx q base m (hint+1-min of (hint+1)) (hint-la):=⟨by lia,by lia,by
     by_cases hge:of≥hint+1
     ·exact .inl (by lia)
     ·have e0:hint+1-min of (hint+1)-1=hint-of:=by lia
      rw [e0]
      exact .inr (e.resolve_left hge),.inr d⟩
    refine wpS_bind (wpS_mono (wpS_forRange (I:=fun x c st2=>st2=st1/\∃ l r,c=(none,l,r)/\r-l<=m-x/\Bs lt left kx q base m l r) (Q:=fun c st2=>st2=st1/\∃ r,c=(none,r,r)/\Bs lt left kx q base m r r) ?bstep2 ?bfin2 ?binit2) ?bpost2)
    case binit2=>exact ⟨rfl,_,_,rfl,by have:=bs0.2.1;lia,bs0⟩
    case bfin2 =>
     rintro c st2 ⟨rfl,l,r,rfl,a,b⟩
     have el:l=r:=by have:=b.1;lia
     subst el
     exact ⟨rfl,l,rfl,b⟩
    case bstep2 =>
     rintro x c st2 _ hx ⟨rfl,l,r,rfl,a,b⟩
     dsimp only
     have b1:=b.1
     have b2:=b.2.1
     by_cases hge:l≥r
     ·rw [if_pos hge]
      have el:l=r:=by lia
      subst el
      exact wpS_pure ⟨rfl,l,rfl,b⟩
     ·rw [if_neg hge]
      refine wpS_bind (t9 O hk hq hkx (by lia) ?_)
      cases z:bd lt left kx q base (l+(r-l) / 2) with
      | true=>exact wpS_pure ⟨rfl,_,_,rfl,by lia,b.up hge z⟩
      | false=>exact wpS_pure ⟨rfl,_,_,rfl,by lia,b.dn hge z⟩
    case bpost2 =>
     rintro c st2 ⟨rfl,r,rfl,b⟩
     obtain ⟨b1,b2⟩:=b.end mono
     exact wpS_pure (h r b.2.1 b1 b2)
end
end Ry
namespace Ry
open PySem PySem.W PyProof.Rows
def ww:Array Keyed->Array Keyed->StateT SortSt Sem (Array Keyed):=sortPriv% PySem.Builtin.mergeLo
abbrev ar (f:Nat->Keyed) (l:List Nat):Array Keyed:=l.toArray.map f
abbrev Up1 (lt:Nat->Nat->Bool) (l:List Nat):Prop:=l.Pairwise fun a b=>lt a b=true
structure gi (st st':SortSt):Prop where
 kind:kindOf st'=kindOf st
 arr:arrOf st'=arrOf st
 pend:pendingOf st'=pendingOf st
 fail:failedOf st'=failedOf st
theorem gi.refl (st:SortSt):gi st st:=⟨rfl,rfl,rfl,rfl⟩
theorem gi.trans {a b c:SortSt} (h:gi a b) (h':gi b c):gi a c:=⟨h'.kind.trans h.kind,h'.arr.trans h.arr,h'.pend.trans h.pend,h'.fail.trans h.fail⟩
theorem zf (X:List Nat) (i:Nat):pa X.toArray i=X.getD i 0:=by
 unfold pa
 rw [fY,ay]
 simp
theorem dH {X:List Nat} {i:Nat} (h:i<X.length):pa X.toArray i=X[i]:=by rw [zf,ay,ae h];rfl
theorem oO {X:List Nat} {i:Nat} (h:i<X.length):X.drop i=pa X.toArray i::X.drop (i+1):=by rw [dH h];exact gv h
theorem Up1.at {lt:Nat->Nat->Bool} {X:List Nat} (h:Up1 lt X) {i j:Nat} (hij:i<j) (hj:j<X.length):lt (pa X.toArray i) (pa X.toArray j)=true:=by
 rw [dH hj,dH (by lia)]
 exact bE.mp h i j (by lia) hj hij
theorem gR {X:List Nat} {k b:Nat} (h:b∈X.drop k):∃ i,k<=i/\i<X.length/\b=pa X.toArray i:=by
 obtain ⟨i,hi,e⟩:=bv h
 rw [fM] at hi
 refine ⟨k+i,by lia,by lia,?_⟩
 rw [dH (by lia),<- e,dI]
structure Jn (lt:Nat->Nat->Bool) (X Y l:List Nat) (ia ib:Nat):Prop where
 perm:(l++(X.drop ia++Y.drop ib)).Perm (X++Y)
 srt:Up1 lt l
 lx:∀ a∈l,∀ i,ia<=i->i<X.length->lt a (pa X.toArray i)=true
 ly:∀ a∈l,∀ j,ib<=j->j<Y.length->lt a (pa Y.toArray j)=true
section
variable {lt:Nat->Nat->Bool} {X Y l:List Nat} {ia ib:Nat}
theorem Jn.takeB (h:Jn lt X Y l ia ib) (YP:Up1 lt Y) (hb:ib<Y.length) (hx:∀ i,ia<=i->i<X.length->lt (pa Y.toArray ib) (pa X.toArray i)=true):Jn lt X Y (l++[pa Y.toArray ib]) ia (ib+1):=by
 refine ⟨?_,aU.mpr ⟨h.srt,aY _ _,fun a ha b hb'=>?_⟩,fun a ha i h1 h2=>?_,fun a ha j h1 h2=>?_⟩
 ·refine List.Perm.trans ?_ h.perm
  rw [oO hb,bg]
  refine List.Perm.append_left l ?_
  exact (B9 (l₁:=X.drop ia)).symm
 ·rw [am] at hb'
  subst hb'
  exact h.ly a ha ib (aj _) hb
 ·rcases aG.mp ha with z | z
  ·exact h.lx a z i h1 h2
  ·rw [am] at z;subst z;exact hx i h1 h2
 ·rcases aG.mp ha with z | z
  ·exact h.ly a z j (by lia) h2
  ·rw [am] at z;subst z;exact YP.at (by lia) h2
theorem Jn.takeA (h:Jn lt X Y l ia ib) (XP:Up1 lt X) (ha:ia<X.length) (hy:∀ j,ib<=j->j<Y.length->lt (pa X.toArray ia) (pa Y.toArray j)=true):Jn lt X Y (l++[pa X.toArray ia]) (ia+1) ib:=by
 refine ⟨?_,aU.mpr ⟨h.srt,aY _ _,fun a ha' b hb'=>?_⟩,fun a ha' i h1 h2=>?_,fun a ha' j h1 h2=>?_⟩
 ·have:=h.perm
  rw [oO ha] at this
  simpa using this
 ·rw [am] at hb'
  subst hb'
  exact h.lx a ha' ia (aj _) ha
 ·rcases aG.mp ha' with z | z
  ·exact h.lx a z i (by lia) h2
  ·rw [am] at z;subst z;exact XP.at (by lia) h2
 ·rcases aG.mp ha' with z | z
  ·exact h.ly a z j h1 h2
  ·rw [am] at z;subst z;exact hy j h1 h2
theorem j9 {X:List Nat} {i k:Nat} (h:i+k<X.length):(X.drop i).take (k+1)=(X.drop i).take k++[pa X.toArray (i+k)]:=by
 rw [lp,dH h]
 congr 1
 rw [List.getElem?_drop,ae h]
 rfl
theorem Jn.takeAs (h:Jn lt X Y l ia ib) (XP:Up1 lt X):∀ k,ia+k<=X.length->(∀ i,ia<=i->i<ia+k->∀ j,ib<=j->j<Y.length->lt (pa X.toArray i) (pa Y.toArray j)=true)->Jn lt X Y (l++(X.drop ia).take k) (ia+k) ib
 | 0,_,_=>by simpa using h
 | k+1,hk,hy=>by
   have h1:=(Jn.takeAs h XP k (by lia) fun i a b=>hy i a (by lia)).takeA XP (by lia) (hy (ia+k) (by lia) (by lia))
   rw [j9 (by lia),<- bg]
   exact h1
theorem Jn.takeBs (h:Jn lt X Y l ia ib) (YP:Up1 lt Y):∀ k,ib+k<=Y.length->(∀ j,ib<=j->j<ib+k->∀ i,ia<=i->i<X.length->lt (pa Y.toArray j) (pa X.toArray i)=true)->Jn lt X Y (l++(Y.drop ib).take k) ia (ib+k)
 | 0,_,_=>by simpa using h
 | k+1,hk,hx=>by
   have h1:=(Jn.takeBs h YP k (by lia) fun i a b=>hx i a (by lia)).takeB YP (by lia) (hx (ib+k) (by lia) (by lia))
   rw [j9 (by lia),<- bg]
   exact h1
structure Dn (lt:Nat->Nat->Bool) (X Y r:List Nat):Prop where
 perm:r.Perm (X++Y)
 srt:Up1 lt r
theorem Up1.drop {X:List Nat} (h:Up1 lt X) (k:Nat):Up1 lt (X.drop k):=List.Pairwise.sublist (List.drop_sublist _ _) h
theorem Jn.done (h:Jn lt X Y l ia ib) (XP:Up1 lt X) (YP:Up1 lt Y) (e:X.length<=ia\/Y.length<=ib):Dn lt X Y (l++X.drop ia++Y.drop ib):=by
 refine ⟨by rw [bg];exact h.perm,?_⟩
 refine aU.mpr ⟨aU.mpr ⟨h.srt,XP.drop _,fun a ha b hb=>?_⟩,YP.drop _,fun a ha b hb=>?_⟩
 ·obtain ⟨i,h1,h2,rfl⟩:=gR hb
  exact h.lx a ha i h1 h2
 ·obtain ⟨j,h1,h2,rfl⟩:=gR hb
  rcases aG.mp ha with z | z
  ·exact h.ly a z j h1 h2
  ·obtain ⟨i,h3,h4,rfl⟩:=gR z
   lia
theorem Jn.last (h:Jn lt X Y l ia ib) (YP:Up1 lt Y) (e:ia+1=X.length) (hl:∀ j,j<Y.length->lt (pa Y.toArray j) (pa X.toArray (X.length-1))=true):Dn lt X Y (l++Y.drop ib++X.drop ia):=by
 have hd:X.drop ia=[pa X.toArray ia]:=by rw [oO (by lia),dc (by lia)]
 have el:ia=X.length-1:=by lia
 refine ⟨?_,?_⟩
 ·refine List.Perm.trans ?_ h.perm
  rw [bg]
  exact List.Perm.append_left l vy
 ·rw [hd]
  refine aU.mpr ⟨aU.mpr ⟨h.srt,YP.drop _,fun a ha b hb=>?_⟩,aY _ _,fun a ha b hb=>?_⟩
  ·obtain ⟨j,h1,h2,rfl⟩:=gR hb
   exact h.ly a ha j h1 h2
  ·rw [am] at hb
   subst hb
   rcases aG.mp ha with z | z
   ·exact h.lx a z ia (aj _) (by lia)
   ·obtain ⟨j,h1,h2,rfl⟩:=gR z
    rw [el]
    exact hl j h2
end
section
variable {f:Nat->Keyed}
theorem dg (l:List Nat):(ar f l).size=l.length:=by simp
theorem lw (l:List Nat) (a:Nat):(ar f l).push (f a)=ar f (l++[a]):=by simp
theorem nV (l X:List Nat) (i k:Nat):ar f l++(ar f X).extract i (i+k)=ar f (l++(X.drop i).take k):=by
 apply ck.mp
 simp [cc,fS,fT]
theorem qR (l X:List Nat) (i:Nat):ar f l++(ar f X).extract i (ar f X).size=ar f (l++X.drop i):=by
 apply ck.mp
 simp [cc,fT]
 rw [ip (by simp)]
end
section
variable {prog:Program} {w:World} {A:Around} {E:Value->Shared->Prop} {s:Shared} {f:Nat->Keyed} {κ:SortKind} {n:Nat} {lt:Nat->Nat->Bool} {st:SortSt} {X Y:List Nat}
theorem gr {i:Nat} {Q:Keyed->SortSt->Prop} (hi:i<X.length) (h:Q (f (pa X.toArray i)) st):wpS (model prog w) A E s (elem' (ar f X) i) Q st:=lb (by simpa using hi) h
theorem Ora.all (O:Ora prog w A s f κ n lt) {X:List Nat} (XP:Up1 lt X) {a i j:Nat} (hij:i<=j) (hj:j<X.length) (h:lt a (pa X.toArray i)=true):lt a (pa X.toArray j)=true:=by
 by_cases e:i=j
 ·rw [<- e];exact h
 ·exact O.tr _ _ _ h (XP.at (by lia) hj)
theorem Ora.allR (O:Ora prog w A s f κ n lt) {X:List Nat} (XP:Up1 lt X) {a i j:Nat} (hij:i<=j) (hj:j<X.length) (h:lt (pa X.toArray j) a=true):lt (pa X.toArray i) a=true:=by
 by_cases e:i=j
 ·rw [e];exact h
 ·exact O.tr _ _ _ (XP.at (by lia) hj) h
end
end Ry
namespace Ry
open PySem PySem.W PyProof.Rows
section
variable {prog:Program} {w:World} {A:Around} {E:Value->Shared->Prop} {s:Shared} {f:Nat->Keyed} {κ:SortKind} {n:Nat} {lt:Nat->Nat->Bool} {st:SortSt} {X Y:List Nat}
structure Gn (lt:Nat->Nat->Bool) (X Y l:List Nat) (ia ib:Nat):Prop where
 j:Jn lt X Y l ia ib
 a:ia+1<X.length
 b:ib<Y.length
theorem zp (l X Y:List Nat) (ia ib:Nat):ar f l++(ar f X).extract ia (ar f X).size++(ar f Y).extract ib (ar f Y).size=ar f (l++X.drop ia++Y.drop ib):=by rw [qR,qR]
theorem qH {g:Nat} {Q:Unit->SortSt->Prop} (h:∀ st',gi st st'->Q () st'):wpS (model prog w) A E s ((sortPriv% PySem.Builtin.setMinGallop) g) Q st:=wpS_modify (h _ ⟨rfl,rfl,rfl,rfl⟩)
theorem dW {α:Type} {c:Prop} [Decidable c] {T F:StateT SortSt Sem α} {Q:α->SortSt->Prop} (h1:c->wpS (model prog w) A E s T Q st) (h2:¬ c->wpS (model prog w) A E s F Q st):wpS (model prog w) A E s (if c then T else F) Q st:=by
 by_cases hc:c
 ·rw [if_pos hc];exact h1 hc
 ·rw [if_neg hc];exact h2 hc
theorem uE (O:Ora prog w A s f κ n lt) (hk:kindOf st=κ) (hX:∀ i,i<X.length->pa X.toArray i<n) (hY:∀ i,i<Y.length->pa Y.toArray i<n) (hd:∀ i j,i<X.length->j<Y.length->pa X.toArray i≠pa Y.toArray j) (XP:Up1 lt X) (YP:Up1 lt Y) (nX:0<X.length) (nY:0<Y.length)
 (h0:lt (pa Y.toArray 0) (pa X.toArray 0)=true) (hl:∀ j,j<Y.length->lt (pa Y.toArray j) (pa X.toArray (X.length-1))=true) {Q:Array Keyed->SortSt->Prop}
 (h:∀ r st',gi st st'->Dn lt X Y r->Q (ar f r) st'):wpS (model prog w) A E s (ww (ar f X) (ar f Y)) Q st:=by
 have hXq:∀ i,i<X.toArray.size->pa X.toArray i<n:=fun i hi=>hX i (by simpa using hi)
 have hYq:∀ i,i<Y.toArray.size->pa Y.toArray i<n:=fun i hi=>hY i (by simpa using hi)
 have dn:∀ {l:List Nat} {ia ib:Nat},Jn lt X Y l ia ib->(X.length<=ia\/Y.length<=ib)->∃ r,ar f l++(ar f X).extract ia (ar f X).size++(ar f Y).extract ib (ar f Y).size=ar f r/\Dn lt X Y r:=fun j e=>⟨_,zp _ _ _ _ _,j.done XP YP e⟩
 have la:∀ {l:List Nat} {ia ib:Nat},Jn lt X Y l ia ib->ia+1=X.length->∃ r,ar f l++(ar f Y).extract ib (ar f Y).size++(ar f X).extract ia (ar f X).size=ar f r/\Dn lt X Y r:=fun j e=>⟨_,by rw [qR,qR],j.last YP e hl⟩
 refine wpS_bind (wpS_lift (wpAny_rule ⟨rfl,?_⟩))
 dsimp only
 refine wpS_bind (gr nY ?_)
 have J0:Jn lt X Y [] 0 0:=⟨by simp,.nil,by simp,by simp⟩
 have J1:Jn lt X Y [pa Y.toArray 0] 0 1:=by simpa using J0.takeB YP nY fun i _ hi=>O.all XP (aT _) hi h0
 have eo:(#[f (pa Y.toArray 0)]:Array Keyed)=ar f [pa Y.toArray 0]:=by simp
 rw [eo]
 by_cases c1:Y.length=1
 ·rw [if_pos (by rw [dg,c1];rfl)]
  obtain ⟨r,er,dr⟩:=dn J1 (.inr (by lia))
  rw [er]
  exact wpS_pure (h r st (.refl _) dr)
 rw [if_neg (by rw [dg,beq_iff_eq];lia)]
 by_cases c2:X.length=1
 ·rw [if_pos (by rw [dg,c2];rfl)]
  obtain ⟨r,er,dr⟩:=la J1 (by lia)
  rw [er]
  exact wpS_pure (h r st (.refl _) dr)
 rw [if_neg (by rw [dg,beq_iff_eq];lia)]
 refine wpS_bind (wpS_get ?_)
 refine wpS_bind (wpS_mono (wpS_forRange (I:=fun x c st1=>gi st st1/\∃ l ia ib mg,c=(none,ar f l,ia,ib,mg)/\Gn lt X Y l ia ib/\x+1<=ia+ib)
  (Q:=fun c st1=>gi st st1/\∃ r,c.1=some (ar f r)/\Dn lt X Y r) ?step ?fin ?init) ?post)
 case init=>exact ⟨.refl _,_,0,1,_,rfl,⟨J1,by lia,by lia⟩,by lia⟩
 case fin =>
  rintro c st1 ⟨_,l,ia,ib,mg,rfl,g,hx⟩
  exfalso
  have:=g.a
  have:=g.b
  rw [dg,dg] at hx
  lia
 case post =>
  rintro c st1 ⟨sg,r,e,dr⟩
  rw [e]
  exact wpS_pure (h r st1 sg dr)
 case step =>
  rintro x c st1 _ hx ⟨sg,l,ia,ib,mg,rfl,g,hxi⟩
  dsimp only
  have hk1:kindOf st1=κ:=sg.kind.trans hk
  refine wpS_bind (wpS_mono (wpS_forRange (I:=fun y c st2=>st2=st1/\∃ l ja jb ac bc,c=(none,ar f l,ja,jb,ac,bc)/\Gn lt X Y l ja jb/\ia+ib+y<=ja+jb)
   (Q:=fun c st2=>st2=st1/\((∃ r,c.1=some (ar f r)/\Dn lt X Y r)\/∃ l ja jb ac bc,c=(none,ar f l,ja,jb,ac,bc)/\Gn lt X Y l ja jb/\ia+ib+1<=ja+jb)) ?istep ?ifin ?iinit) ?ipost)
  case iinit=>exact ⟨rfl,l,ia,ib,0,0,rfl,g,by lia⟩
  case ifin =>
   rintro c st2 ⟨rfl,l,ja,jb,ac,bc,rfl,g,hy⟩
   refine ⟨rfl,.inr ⟨l,ja,jb,ac,bc,rfl,g,?_⟩⟩
   rw [dg,dg] at hy
   lia
  case istep =>
   rintro y c st2 _ hy ⟨rfl,l,ja,jb,ac,bc,rfl,g,hyi⟩
   dsimp only
   have ga:=g.a
   have gb:=g.b
   refine wpS_bind (gr gb (wpS_bind (gr (X:=X) (by lia) (wpS_bind (AN O hk1 (hY _ gb) (hX _ (by lia)) ?_)))))
   cases z:lt (pa Y.toArray jb) (pa X.toArray ja) with
   | true =>
     dsimp only
     rw [if_pos rfl]
     refine wpS_bind (gr gb ?_)
     rw [lw]
     have J2:=g.j.takeB YP gb fun i h1 h2=>O.all XP h1 h2 z
     by_cases c3:jb+1=Y.length
     ·rw [if_pos (by rw [dg,c3];exact beq_self_eq_true _)]
      obtain ⟨r,er,dr⟩:=dn J2 (.inr (by lia))
      rw [er]
      exact wpS_pure ⟨rfl,.inl ⟨r,rfl,dr⟩⟩
     ·rw [if_neg (by rw [dg,beq_iff_eq];exact c3)]
      by_cases c4:bc+1≥mg
      ·rw [if_pos c4]
       exact wpS_pure ⟨rfl,.inr ⟨_,_,_,_,_,rfl,⟨J2,ga,by lia⟩,by lia⟩⟩
      ·rw [if_neg c4]
       exact wpS_pure ⟨rfl,_,_,_,_,_,rfl,⟨J2,ga,by lia⟩,by lia⟩
   | false =>
     dsimp only
     rw [if_neg ah]
     refine wpS_bind (gr (X:=X) (by lia) ?_)
     rw [lw]
     have z':=O.no (hY _ gb) (hX _ (show ja<X.length by lia)) z (Ne.symm (hd _ _ (by lia) gb))
     have J2:=g.j.takeA XP (by lia) fun j h1 h2=>O.all YP h1 h2 z'
     by_cases c3:ja+1+1=X.length
     ·rw [if_pos (by rw [dg,c3];exact beq_self_eq_true _)]
      obtain ⟨r,er,dr⟩:=la J2 c3
      rw [er]
      exact wpS_pure ⟨rfl,.inl ⟨r,rfl,dr⟩⟩
     ·rw [if_neg (by rw [dg,beq_iff_eq];exact c3)]
      by_cases c4:ac+1≥mg
      ·rw [if_pos c4]
       exact wpS_pure ⟨rfl,.inr ⟨_,_,_,_,_,rfl,⟨J2,by lia,gb⟩,by lia⟩⟩
      ·rw [if_neg c4]
       exact wpS_pure ⟨rfl,_,_,_,_,_,rfl,⟨J2,by lia,gb⟩,by lia⟩
  case ipost =>
   rintro c st2 ⟨rfl,⟨r,er,dr⟩ | ⟨l,ja,jb,ac,bc,rfl,g,hyi⟩⟩
   ·obtain ⟨c1,c2,c3,c4,c5,c6⟩:=c
    cases er
    exact wpS_pure ⟨sg,r,rfl,dr⟩
   ·dsimp only
    refine wpS_bind (wpS_lift (wpAny_rule ⟨rfl,?_⟩))
    refine wpS_bind (wpS_mono (wpS_forRange (I:=fun _ c st3=>gi st st3/\∃ l ka kb mg ac bc,c=(none,ar f l,ka,kb,mg,ac,bc)/\Gn lt X Y l ka kb/\ja+jb<=ka+kb)
     (Q:=fun c st3=>gi st st3/\((∃ r,c.1=some (ar f r)/\Dn lt X Y r)\/∃ l ka kb mg ac bc,c=(none,ar f l,ka,kb,mg,ac,bc)/\Gn lt X Y l ka kb/\ja+jb<=ka+kb)) ?gstep ?gfin ?ginit) ?gpost)
    case ginit=>exact ⟨sg,l,ja,jb,_,ac,bc,rfl,g,aj _⟩
    case gfin =>
     rintro c st3 ⟨sg3,l,ka,kb,mg,ac,bc,rfl,g,hy⟩
     exact ⟨sg3,.inr ⟨l,ka,kb,mg,ac,bc,rfl,g,hy⟩⟩
    case gpost =>
     rintro c st3 ⟨sg3,⟨r,er,dr⟩ | ⟨l,ka,kb,mg,ac,bc,rfl,g,hy⟩⟩
     ·obtain ⟨c1,c2,c3,c4,c5,c6,c7⟩:=c
      cases er
      exact wpS_pure ⟨sg3,r,rfl,dr⟩
     ·dsimp only
      refine wpS_bind (qH fun st4 sg4=>wpS_pure ⟨sg3.trans sg4,l,ka,kb,_,rfl,g,by lia⟩)
    case gstep =>
     rintro y c st3 _ hy ⟨sg3,l,ka,kb,mg,ac,bc,rfl,g,hyi⟩
     dsimp only
     have ga:=g.a
     have gb:=g.b
     have hk3:kindOf st3=κ:=sg3.kind.trans hk
     have szX:(ar f X).size=X.length:=dg X
     have szY:(ar f Y).size=Y.length:=dg Y
     by_cases hmg:mg > 1
     all_goals
      first | rw [if_pos hmg] | rw [if_neg hmg]
      refine wpS_bind (qH fun st4 sg4=>?_)
      have sg34:=sg3.trans sg4
      have hk4:kindOf st4=κ:=sg34.kind.trans hk
      refine wpS_bind (gr gb ?_)
      refine wpS_bind (gU (f:=f) (q:=X.toArray) (left:=false) (kx:=pa Y.toArray kb) (base:=ka) (m:=(ar f X).size-ka) (hint:=0) O hk4 hXq (hY _ gb) (by rw [szX];simp;lia) (by lia) (fun i j h1 h2 h3=>?_) fun k k1 k2 k3=>?_)
      ·rw [bd,if_neg ah,cK] at h3 ⊢
       cases z:lt (pa Y.toArray kb) (pa X.toArray (ka+i)) with
       | false=>rfl
       | true=>rw [O.all XP (show ka+i<=ka+j by lia) (by lia) z] at h3;cases h3
      have kA:∀ i,ka<=i->i<ka+k->lt (pa X.toArray i) (pa Y.toArray kb)=true:=fun i h1 h2=>by
       have:=k2 (i-ka) (by lia)
       rw [bd,if_neg ah,cK,show ka+(i-ka)=i by lia] at this
       exact O.no (hY _ gb) (hX _ (by lia)) this (Ne.symm (hd _ _ (by lia) gb))
      have kB:∀ i,ka+k<=i->i<X.length->lt (pa Y.toArray kb) (pa X.toArray i)=true:=fun i h1 h2=>by
       have:=k3 (i-ka) (by lia) (by lia)
       rw [bd,if_neg ah,ki,show ka+(i-ka)=i by lia] at this
       exact this
      have J1:=g.j.takeAs XP k (by lia) fun i h1 h2 j h3 h4=>O.all YP h3 h4 (kA i h1 h2)
      clear k2 k3 kA
      dsimp only
      have hkk:ka+k<=X.length:=by lia
      refine dW (fun hk0=>dW (fun d1=>?_) fun d1=>dW (fun d2=>?_) fun d2=>?_) fun hk0=>?_
      ·have d1':ka+k+1=X.length:=by rw [szX] at d1;exact beq_iff_eq.mp d1
       rw [nV]
       obtain ⟨r,er,dr⟩:=la J1 d1'
       rw [er]
       exact wpS_pure ⟨sg34,.inl ⟨r,rfl,dr⟩⟩
      ·have d2':ka+k=X.length:=by rw [szX] at d2;exact beq_iff_eq.mp d2
       rw [nV]
       obtain ⟨r,er,dr⟩:=dn J1 (.inl (by lia))
       rw [er]
       exact wpS_pure ⟨sg34,.inl ⟨r,rfl,dr⟩⟩
      all_goals first
       | (rw [nV]
          have hA:ka+k+1<X.length:=by
           rw [szX,beq_iff_eq] at d1 d2
           lia
          have hC:ka+kb<=ka+k+kb:=by lia
          clear d1 d2 hkk k1
          generalize l++List.take k (List.drop ka X)=l1 at J1 ⊢
          generalize ka+k=ka1 at J1 kB hA hC ⊢)
       | (obtain rfl:k=0:=by lia
          rw [mD,Dt,ce] at J1
          rw [mD] at kB
          have hA:ka+1<X.length:=ga
          have hC:ka+kb<=ka+kb:=aj _
          generalize hka:ka=ka1 at J1 kB hA ⊢
          rw [hka] at hC
          rw [<- hka] at hC
          have hC:ka+kb<=ka1+kb:=by lia
          generalize l=l1 at J1 ⊢)
      all_goals
       refine wpS_bind (gr gb ?_)
       rw [lw]
       have J2:=J1.takeB YP gb kB
       refine dW (fun e1=>?_) fun e1=>?_
       ·have e1':kb+1=Y.length:=by rw [szY] at e1;exact beq_iff_eq.mp e1
        obtain ⟨r,er,dr⟩:=dn J2 (.inr (by lia))
        rw [er]
        exact wpS_pure ⟨sg34,.inl ⟨r,rfl,dr⟩⟩
       have e1':kb+1<Y.length:=by rw [szY,beq_iff_eq] at e1;lia
       refine wpS_bind (gr (X:=X) (by lia) ?_)
       refine wpS_bind (gU (f:=f) (q:=Y.toArray) (left:=true) (kx:=pa X.toArray ka1) (base:=kb+1) (m:=(ar f Y).size-(kb+1)) (hint:=0) O hk4 hYq (hX _ (by lia)) (by rw [szY];simp;lia) (by lia) (fun i j h1 h2 h3=>?_) fun v v1 v2 v3=>?_)
       ·rw [bd,if_pos rfl] at h3 ⊢
        exact O.allR YP (show kb+1+i<=kb+1+j by lia) (by lia) h3
       have vA:∀ j,kb+1<=j->j<kb+1+v->lt (pa Y.toArray j) (pa X.toArray ka1)=true:=fun j h1 h2=>by
        have:=v2 (j-(kb+1)) (by lia)
        rw [bd,if_pos rfl,show kb+1+(j-(kb+1))=j by lia] at this
        exact this
       have vB:∀ j,kb+1+v<=j->j<Y.length->lt (pa X.toArray ka1) (pa Y.toArray j)=true:=fun j h1 h2=>by
        have:=v3 (j-(kb+1)) (by lia) (by lia)
        rw [bd,if_pos rfl,show kb+1+(j-(kb+1))=j by lia] at this
        exact O.no (hY _ h2) (hX _ (by lia)) this (Ne.symm (hd _ _ (by lia) h2))
       have J3:=J2.takeBs YP v (by lia) fun j h1 h2 i h3 h4=>O.all XP h3 h4 (vA j h1 h2)
       clear v2 v3 vA
       dsimp only
       have hvv:kb+1+v<=Y.length:=by lia
       refine dW (fun hv0=>dW (fun g1=>?_) fun g1=>?_) fun hv0=>?_
       ·have g1':kb+1+v=Y.length:=by rw [szY] at g1;exact beq_iff_eq.mp g1
        rw [nV]
        obtain ⟨r,er,dr⟩:=dn J3 (.inr (by lia))
        rw [er]
        exact wpS_pure ⟨sg34,.inl ⟨r,rfl,dr⟩⟩
       all_goals first
        | (rw [nV]
           have hD:kb+1+v<Y.length:=by
            rw [szY,beq_iff_eq] at g1
            lia
           have hF:ja+jb<=ka1+1+(kb+1+v):=by lia
           clear g1 hvv v1
           generalize l1++[pa Y.toArray kb]++List.take v (List.drop (kb+1) Y)=l3 at J3 ⊢
           generalize kb+1+v=kb3 at J3 vB hD hF ⊢)
        | (obtain rfl:v=0:=by lia
           rw [mD,Dt,ce] at J3
           rw [mD] at vB
           have hD:kb+1<Y.length:=e1'
           have hF:ja+jb<=ka1+1+(kb+1):=by lia
           generalize l1++[pa Y.toArray kb]=l3 at J3 ⊢
           generalize kb+1=kb3 at J3 vB hD hF ⊢)
       all_goals
        refine wpS_bind (gr (X:=X) (by lia) ?_)
        rw [lw]
        have J4:=J3.takeA XP (by lia) vB
        refine dW (fun i1=>?_) fun i1=>?_
        ·have i1':ka1+1+1=X.length:=by rw [szX] at i1;exact beq_iff_eq.mp i1
         obtain ⟨r,er,dr⟩:=la J4 i1'
         rw [er]
         exact wpS_pure ⟨sg34,.inl ⟨r,rfl,dr⟩⟩
        have i1':ka1+1+1<X.length:=by rw [szX,beq_iff_eq] at i1;lia
        refine dW (fun i2=>?_) fun i2=>?_
        ·exact wpS_pure ⟨sg34,.inr ⟨_,_,_,_,_,_,rfl,⟨J4,i1',hD⟩,hF⟩⟩
        ·exact wpS_pure ⟨sg34,_,_,_,_,_,_,rfl,⟨J4,i1',hD⟩,hF⟩
end
end Ry
namespace Ry
open PySem PySem.W PyProof.Rows
def vL:Array Keyed->Array Keyed->StateT SortSt Sem (Array Keyed):=sortPriv% PySem.Builtin.mergeHi
structure Jm (lt:Nat->Nat->Bool) (X Y l:List Nat) (na nb:Nat):Prop where
 perm:(X.take na++Y.take nb++l).Perm (X++Y)
 srt:Up1 lt l
 lx:∀ a∈l,∀ i,i<na->lt (pa X.toArray i) a=true
 ly:∀ a∈l,∀ j,j<nb->lt (pa Y.toArray j) a=true
theorem oV {X:List Nat} {k:Nat} (h:k<X.length):X.take (k+1)=X.take k++[pa X.toArray k]:=by
 have:=j9 (X:=X) (i:=0) (k:=k) (by lia)
 simpa using this
theorem e9 {X:List Nat} {k b:Nat} (hk:k<=X.length) (h:b∈X.take k):∃ i,i<k/\b=pa X.toArray i:=by
 obtain ⟨i,hi,e⟩:=bv h
 rw [bI] at hi
 refine ⟨i,by lia,?_⟩
 rw [dH (by lia),<- e,dJ]
section
variable {lt:Nat->Nat->Bool} {X Y l:List Nat} {na nb:Nat}
theorem Jm.takeA (h:Jm lt X Y l (na+1) nb) (XP:Up1 lt X) (ha:na<X.length) (hy:∀ j,j<nb->lt (pa Y.toArray j) (pa X.toArray na)=true):Jm lt X Y (pa X.toArray na::l) na nb:=by
 refine ⟨?_,aZ.mpr ⟨fun b hb=>h.lx b hb na (by lia),h.srt⟩,fun a ha' i hi=>?_,fun a ha' j hj=>?_⟩
 ·refine List.Perm.trans ?_ h.perm
  rw [oV ha,bg,bg,bg]
  refine List.Perm.append_left _ ?_
  exact B9
 ·rcases ag.mp ha' with z | z
  ·subst z;exact XP.at hi ha
  ·exact h.lx a z i (by lia)
 ·rcases ag.mp ha' with z | z
  ·subst z;exact hy j hj
  ·exact h.ly a z j hj
theorem Jm.takeB (h:Jm lt X Y l na (nb+1)) (YP:Up1 lt Y) (hb:nb<Y.length) (hx:∀ i,i<na->lt (pa X.toArray i) (pa Y.toArray nb)=true):Jm lt X Y (pa Y.toArray nb::l) na nb:=by
 refine ⟨?_,aZ.mpr ⟨fun b hb'=>h.ly b hb' nb (by lia),h.srt⟩,fun a ha' i hi=>?_,fun a ha' j hj=>?_⟩
 ·have:=h.perm
  rw [oV hb] at this
  simpa using this
 ·rcases ag.mp ha' with z | z
  ·subst z;exact hx i hi
  ·exact h.lx a z i hi
 ·rcases ag.mp ha' with z | z
  ·subst z;exact YP.at hj hb
  ·exact h.ly a z j (by lia)
theorem qu {X:List Nat} {a k:Nat} (h:a+k<X.length):(X.take (a+(k+1))).drop a=(X.take (a+k)).drop a++[pa X.toArray (a+k)]:=by
 rw [show a+(k+1)=a+k+1 by lia,oV h,List.drop_append_of_le_length (by rw [bI];lia)]
theorem Jm.takeAs (XP:Up1 lt X) {a:Nat}:∀ (k:Nat) (l:List Nat),Jm lt X Y l (a+k) nb->a+k<=X.length->(∀ i,a<=i->i<a+k->∀ j,j<nb->lt (pa Y.toArray j) (pa X.toArray i)=true)->Jm lt X Y ((X.take (a+k)).drop a++l) a nb
 | 0,l,h,_,_=>by
   have:(X.take (a+0)).drop a=[]:=dc (by rw [bI];lia)
   rw [this]
   simpa using h
 | k+1,l,h,hk,hy=>by
   have h1:=Jm.takeA (na:=a+k) h XP (by lia) (hy (a+k) (by lia) (by lia))
   have h2:=Jm.takeAs XP k _ h1 (by lia) fun i b c=>hy i b (by lia)
   rw [qu (by lia),bg]
   exact h2
theorem Jm.takeBs (YP:Up1 lt Y) {a:Nat}:∀ (k:Nat) (l:List Nat),Jm lt X Y l na (a+k)->a+k<=Y.length->(∀ j,a<=j->j<a+k->∀ i,i<na->lt (pa X.toArray i) (pa Y.toArray j)=true)->Jm lt X Y ((Y.take (a+k)).drop a++l) na a
 | 0,l,h,_,_=>by
   have:(Y.take (a+0)).drop a=[]:=dc (by rw [bI];lia)
   rw [this]
   simpa using h
 | k+1,l,h,hk,hx=>by
   have h1:=Jm.takeB (nb:=a+k) h YP (by lia) (hx (a+k) (by lia) (by lia))
   have h2:=Jm.takeBs YP k _ h1 (by lia) fun i b c=>hx i b (by lia)
   rw [qu (by lia),bg]
   exact h2
theorem Up1.take {X:List Nat} (h:Up1 lt X) (k:Nat):Up1 lt (X.take k):=List.Pairwise.sublist (Af _ _) h
theorem Jm.done (h:Jm lt X Y l na nb) (XP:Up1 lt X) (YP:Up1 lt Y) (ha:na<=X.length) (hb:nb<=Y.length) (e:na=0\/nb=0):Dn lt X Y (X.take na++Y.take nb++l):=by
 refine ⟨h.perm,aU.mpr ⟨aU.mpr ⟨XP.take _,YP.take _,fun a h1 b h2=>?_⟩,h.srt,fun a h1 b h2=>?_⟩⟩
 ·obtain ⟨i,hi,_⟩:=e9 ha h1
  obtain ⟨j,hj,_⟩:=e9 hb h2
  lia
 ·rcases aG.mp h1 with z | z
  ·obtain ⟨i,hi,rfl⟩:=e9 ha z
   exact h.lx b h2 i hi
  ·obtain ⟨j,hj,rfl⟩:=e9 hb z
   exact h.ly b h2 j hj
theorem Jm.first (h:Jm lt X Y l na nb) (XP:Up1 lt X) (YP:Up1 lt Y) (ha:na<=X.length) (hb:nb<=Y.length) (e:nb=1) (h0:∀ i,i<X.length->lt (pa Y.toArray 0) (pa X.toArray i)=true):Dn lt X Y (Y.take nb++X.take na++l):=by
 refine ⟨(List.Perm.append_right l vy).trans h.perm,aU.mpr ⟨aU.mpr ⟨YP.take _,XP.take _,fun a h1 b h2=>?_⟩,h.srt,fun a h1 b h2=>?_⟩⟩
 ·obtain ⟨j,hj,rfl⟩:=e9 hb h1
  obtain ⟨i,hi,rfl⟩:=e9 ha h2
  have:j=0:=by lia
  rw [this]
  exact h0 i (by lia)
 ·rcases aG.mp h1 with z | z
  ·obtain ⟨j,hj,rfl⟩:=e9 hb z
   exact h.ly b h2 j hj
  ·obtain ⟨i,hi,rfl⟩:=e9 ha z
   exact h.lx b h2 i hi
end
section
variable {f:Nat->Keyed}
theorem mr (l:List Nat) (a:Nat):(ar f l.reverse).push (f a)=ar f (a::l).reverse:=by simp
theorem nB (l X:List Nat) (i k:Nat):ar f l.reverse++((ar f X).extract i k).reverse=ar f ((X.take k).drop i++l).reverse:=by
 apply ck.mp
 simp [cc,fS,fT,ij,Du]
theorem sQ (l X Y:List Nat) (na nb:Nat):(ar f X).extract 0 na++(ar f Y).extract 0 nb++(ar f l.reverse).reverse=ar f (X.take na++Y.take nb++l):=by
 apply ck.mp
 simp [cc,fS,ij]
structure Gm (lt:Nat->Nat->Bool) (X Y l:List Nat) (na nb:Nat):Prop where
 j:Jm lt X Y l na nb
 a:0<na
 a':na<=X.length
 b:1<nb
 b':nb<=Y.length
end
section
variable {prog:Program} {w:World} {A:Around} {E:Value->Shared->Prop} {s:Shared} {f:Nat->Keyed} {κ:SortKind} {n:Nat} {lt:Nat->Nat->Bool} {st:SortSt} {X Y:List Nat}
theorem tF (O:Ora prog w A s f κ n lt) (hk:kindOf st=κ) (hX:∀ i,i<X.length->pa X.toArray i<n) (hY:∀ i,i<Y.length->pa Y.toArray i<n) (hd:∀ i j,i<X.length->j<Y.length->pa X.toArray i≠pa Y.toArray j) (XP:Up1 lt X) (YP:Up1 lt Y) (nX:0<X.length) (nY:0<Y.length)
 (h0:lt (pa Y.toArray 0) (pa X.toArray 0)=true) (hl:∀ j,j<Y.length->lt (pa Y.toArray j) (pa X.toArray (X.length-1))=true) {Q:Array Keyed->SortSt->Prop}
 (h:∀ r st',gi st st'->Dn lt X Y r->Q (ar f r) st'):wpS (model prog w) A E s (vL (ar f X) (ar f Y)) Q st:=by
 have hXq:∀ i,i<X.toArray.size->pa X.toArray i<n:=fun i hi=>hX i (by simpa using hi)
 have hYq:∀ i,i<Y.toArray.size->pa Y.toArray i<n:=fun i hi=>hY i (by simpa using hi)
 have szX:(ar f X).size=X.length:=dg X
 have szY:(ar f Y).size=Y.length:=dg Y
 have h00:∀ i,i<X.length->lt (pa Y.toArray 0) (pa X.toArray i)=true:=fun i hi=>O.all XP (aT _) hi h0
 have dn:∀ {l:List Nat} {na nb:Nat},Jm lt X Y l na nb->na<=X.length->nb<=Y.length->(na=0\/nb=0)->∃ r,(ar f X).extract 0 na++(ar f Y).extract 0 nb++(ar f l.reverse).reverse=ar f r/\Dn lt X Y r:=fun j a b e=>⟨_,sQ _ _ _ _ _,j.done XP YP a b e⟩
 have fb:∀ {l:List Nat} {na nb:Nat},Jm lt X Y l na nb->na<=X.length->nb<=Y.length->nb=1->∃ r,(ar f Y).extract 0 nb++(ar f X).extract 0 na++(ar f l.reverse).reverse=ar f r/\Dn lt X Y r:=fun j a b e=>⟨_,sQ _ _ _ _ _,j.first XP YP a b e h00⟩
 refine wpS_bind (wpS_lift (wpAny_rule ⟨rfl,?_⟩))
 dsimp only
 rw [szX,szY]
 refine wpS_bind (gr (X:=X) (by lia) ?_)
 have J0:Jm lt X Y [] (X.length-1+1) Y.length:=⟨by rw [show X.length-1+1=X.length by lia];simp,.nil,by simp,by simp⟩
 have J1:=J0.takeA XP (by lia) fun j hj=>hl j hj
 have eo:(#[f (pa X.toArray (X.length-1))]:Array Keyed)=ar f [pa X.toArray (X.length-1)].reverse:=by simp
 rw [eo]
 refine dW (fun c1=>?_) fun c1=>?_
 ·obtain ⟨r,er,dr⟩:=dn J1 (by lia) (aj _) (.inl (beq_iff_eq.mp c1))
  rw [er]
  exact wpS_pure (h r st (.refl _) dr)
 refine dW (fun c2=>?_) fun c2=>?_
 ·obtain ⟨r,er,dr⟩:=fb J1 (by lia) (aj _) (beq_iff_eq.mp c2)
  rw [er]
  exact wpS_pure (h r st (.refl _) dr)
 rw [beq_iff_eq] at c1 c2
 refine wpS_bind (wpS_get ?_)
 refine wpS_bind (wpS_mono (wpS_forRange (I:=fun x c st1=>gi st st1/\∃ l na nb mg,c=(none,na,nb,ar f l.reverse,mg)/\Gm lt X Y l na nb/\x+1+na+nb<=X.length+Y.length)
  (Q:=fun c st1=>gi st st1/\∃ r,c.1=some (ar f r)/\Dn lt X Y r) ?step ?fin ?init) ?post)
 case init=>exact ⟨.refl _,_,_,_,_,rfl,⟨J1,by lia,by lia,by lia,aj _⟩,by lia⟩
 case fin =>
  rintro c st1 ⟨_,l,na,nb,mg,rfl,g,hx⟩
  exfalso
  have:=g.a
  have:=g.b
  lia
 case post =>
  rintro c st1 ⟨sg,r,e,dr⟩
  rw [e]
  exact wpS_pure (h r st1 sg dr)
 case step =>
  rintro x c st1 _ hx ⟨sg,l,na,nb,mg,rfl,g,hxi⟩
  dsimp only
  have hk1:kindOf st1=κ:=sg.kind.trans hk
  refine wpS_bind (wpS_mono (wpS_forRange (I:=fun y c st2=>st2=st1/\∃ l ma mb ac bc,c=(none,ma,mb,ar f l.reverse,ac,bc)/\Gm lt X Y l ma mb/\y+ma+mb<=na+nb)
   (Q:=fun c st2=>st2=st1/\((∃ r,c.1=some (ar f r)/\Dn lt X Y r)\/∃ l ma mb ac bc,c=(none,ma,mb,ar f l.reverse,ac,bc)/\Gm lt X Y l ma mb/\1+ma+mb<=na+nb)) ?istep ?ifin ?iinit) ?ipost)
  case iinit=>exact ⟨rfl,l,na,nb,0,0,rfl,g,by lia⟩
  case ifin =>
   rintro c st2 ⟨rfl,l,ma,mb,ac,bc,rfl,g,hy⟩
   exact ⟨rfl,.inr ⟨l,ma,mb,ac,bc,rfl,g,by lia⟩⟩
  case istep =>
   rintro y c st2 _ hy ⟨rfl,l,ma,mb,ac,bc,rfl,g,hyi⟩
   dsimp only
   obtain ⟨gj,ga,ga',gb,gb'⟩:=g
   obtain ⟨ma,rfl⟩:∃ t,ma=t+1:=⟨ma-1,by lia⟩
   obtain ⟨mb,rfl⟩:∃ t,mb=t+1:=⟨mb-1,by lia⟩
   simp only [kH]
   refine wpS_bind (gr (X:=Y) (by lia) (wpS_bind (gr (X:=X) (by lia) (wpS_bind (AN O hk1 (hY _ (by lia)) (hX _ (by lia)) ?_)))))
   cases z:lt (pa Y.toArray mb) (pa X.toArray ma) with
   | true =>
     dsimp only
     rw [if_pos rfl]
     refine wpS_bind (gr (X:=X) (by lia) ?_)
     rw [mr]
     have J2:=gj.takeA XP (by lia) fun j hj=>O.allR YP (show j<=mb by lia) (by lia) z
     refine dW (fun c3=>?_) fun c3=>?_
     ·obtain ⟨r,er,dr⟩:=dn J2 (by lia) gb' (.inl (beq_iff_eq.mp c3))
      rw [er]
      exact wpS_pure ⟨rfl,.inl ⟨r,rfl,dr⟩⟩
     rw [beq_iff_eq] at c3
     refine dW (fun c4=>?_) fun c4=>?_
     ·exact wpS_pure ⟨rfl,.inr ⟨_,_,_,_,_,rfl,⟨J2,by lia,by lia,gb,gb'⟩,by lia⟩⟩
     ·exact wpS_pure ⟨rfl,_,_,_,_,_,rfl,⟨J2,by lia,by lia,gb,gb'⟩,by lia⟩
   | false =>
     dsimp only
     rw [if_neg ah]
     refine wpS_bind (gr (X:=Y) (by lia) ?_)
     rw [mr]
     have z':=O.no (hY _ (show mb<Y.length by lia)) (hX _ (show ma<X.length by lia)) z (Ne.symm (hd _ _ (by lia) (by lia)))
     have J2:=gj.takeB YP (by lia) fun i hi=>O.allR XP (show i<=ma by lia) (by lia) z'
     refine dW (fun c3=>?_) fun c3=>?_
     ·obtain ⟨r,er,dr⟩:=fb J2 ga' (by lia) (beq_iff_eq.mp c3)
      rw [er]
      exact wpS_pure ⟨rfl,.inl ⟨r,rfl,dr⟩⟩
     rw [beq_iff_eq] at c3
     refine dW (fun c4=>?_) fun c4=>?_
     ·exact wpS_pure ⟨rfl,.inr ⟨_,_,_,_,_,rfl,⟨J2,ga,ga',by lia,by lia⟩,by lia⟩⟩
     ·exact wpS_pure ⟨rfl,_,_,_,_,_,rfl,⟨J2,ga,ga',by lia,by lia⟩,by lia⟩
  case ipost =>
   rintro c st2 ⟨rfl,⟨r,er,dr⟩ | ⟨l,ma,mb,ac,bc,rfl,g,hyi⟩⟩
   ·obtain ⟨c1,c2,c3,c4,c5,c6⟩:=c
    cases er
    exact wpS_pure ⟨sg,r,rfl,dr⟩
   ·dsimp only
    refine wpS_bind (wpS_lift (wpAny_rule ⟨rfl,?_⟩))
    refine wpS_bind (wpS_mono (wpS_forRange (I:=fun _ c st3=>gi st st3/\∃ l ua ub mg ac bc,c=(none,ua,ub,ar f l.reverse,mg,ac,bc)/\Gm lt X Y l ua ub/\ua+ub<=ma+mb)
     (Q:=fun c st3=>gi st st3/\((∃ r,c.1=some (ar f r)/\Dn lt X Y r)\/∃ l ua ub mg ac bc,c=(none,ua,ub,ar f l.reverse,mg,ac,bc)/\Gm lt X Y l ua ub/\ua+ub<=ma+mb)) ?gstep ?gfin ?ginit) ?gpost)
    case ginit=>exact ⟨sg,l,ma,mb,_,ac,bc,rfl,g,aj _⟩
    case gfin =>
     rintro c st3 ⟨sg3,l,ua,ub,mg,ac,bc,rfl,g,hy⟩
     exact ⟨sg3,.inr ⟨l,ua,ub,mg,ac,bc,rfl,g,hy⟩⟩
    case gpost =>
     rintro c st3 ⟨sg3,⟨r,er,dr⟩ | ⟨l,ua,ub,mg,ac,bc,rfl,g,hy⟩⟩
     ·obtain ⟨c1,c2,c3,c4,c5,c6,c7⟩:=c
      cases er
      exact wpS_pure ⟨sg3,r,rfl,dr⟩
     ·dsimp only
      refine wpS_bind (qH fun st4 sg4=>wpS_pure ⟨sg3.trans sg4,l,ua,ub,_,rfl,g,by lia⟩)
    case gstep =>
     rintro y c st3 _ hy ⟨sg3,l,ua,ub,mg,ac,bc,rfl,g,hyi⟩
     dsimp only
     obtain ⟨gj,ga,ga',gb,gb'⟩:=g
     obtain ⟨ub,rfl⟩:∃ t,ub=t+1:=⟨ub-1,by lia⟩
     simp only [kH]
     have hbn:ub<Y.length:=by lia
     refine dW (fun hmg=>?_) fun hmg=>?_
     all_goals
      refine wpS_bind (qH fun st4 sg4=>?_)
      have sg34:=sg3.trans sg4
      have hk4:kindOf st4=κ:=sg34.kind.trans hk
      refine wpS_bind (gr (X:=Y) hbn ?_)
      refine wpS_bind (gU (f:=f) (q:=X.toArray) (left:=false) (kx:=pa Y.toArray ub) (base:=0) (m:=ua) (hint:=ua-1) O hk4 hXq (hY _ hbn) (by simp;lia) (by lia) (fun i j h1 h2 h3=>?_) fun k k1 k2 k3=>?_)
      ·rw [bd,if_neg ah,cK,bY] at h3 ⊢
       cases z:lt (pa Y.toArray ub) (pa X.toArray i) with
       | false=>rfl
       | true=>rw [O.all XP h1 (by lia) z] at h3;cases h3
      have kA:∀ i,i<k->lt (pa X.toArray i) (pa Y.toArray ub)=true:=fun i h1=>by
       have:=k2 i h1
       rw [bd,if_neg ah,cK,bY] at this
       exact O.no (hY _ hbn) (hX _ (by lia)) this (Ne.symm (hd _ _ (by lia) hbn))
      have kB:∀ i,k<=i->i<ua->lt (pa Y.toArray ub) (pa X.toArray i)=true:=fun i h1 h2=>by
       have:=k3 i h1 h2
       rw [bd,if_neg ah,ki,bY] at this
       exact this
      have J1:=Jm.takeAs XP (a:=k) (ua-k) l (by rw [show k+(ua-k)=ua by lia];exact gj) (by lia) fun i h1 h2 j h3=>O.allR YP (show j<=ub by lia) hbn (kB i h1 (by lia))
      rw [show k+(ua-k)=ua by lia] at J1
      clear k2 k3 kB
      dsimp only
      refine dW (fun hk0=>dW (fun d1=>?_) fun d1=>?_) fun hk0=>?_
      ·rw [nB]
       obtain ⟨r,er,dr⟩:=dn J1 (by lia) gb' (.inl (beq_iff_eq.mp d1))
       rw [er]
       exact wpS_pure ⟨sg34,.inl ⟨r,rfl,dr⟩⟩
      all_goals first
       | (rw [nB]
          have hA:0<k:=by rw [beq_iff_eq] at d1;lia
          generalize (X.take ua).drop k++l=l1 at J1 ⊢)
       | (obtain rfl:k=ua:=by lia
          rw [dc (by rw [bI];lia),Cr] at J1
          have hA:0<k:=ga
          generalize l=l1 at J1 ⊢)
      all_goals
       refine wpS_bind (gr (X:=Y) hbn ?_)
       rw [mr]
       have J2:=J1.takeB YP hbn kA
       refine dW (fun e1=>?_) fun e1=>?_
       ·obtain ⟨r,er,dr⟩:=fb J2 (by lia) (by lia) (beq_iff_eq.mp e1)
        rw [er]
        exact wpS_pure ⟨sg34,.inl ⟨r,rfl,dr⟩⟩
       rw [beq_iff_eq] at e1
       obtain ⟨k',rfl⟩:∃ t,k=t+1:=⟨k-1,by lia⟩
       simp only [kH]
       refine wpS_bind (gr (X:=X) (by lia) ?_)
       refine wpS_bind (gU (f:=f) (q:=Y.toArray) (left:=true) (kx:=pa X.toArray k') (base:=0) (m:=ub) (hint:=ub-1) O hk4 hYq (hX _ (by lia)) (by simp;lia) (by lia) (fun i j h1 h2 h3=>?_) fun v v1 v2 v3=>?_)
       ·rw [bd,if_pos rfl,bY] at h3 ⊢
        exact O.allR YP h1 (by lia) h3
       have vA:∀ j,j<v->lt (pa Y.toArray j) (pa X.toArray k')=true:=fun j h1=>by
        have:=v2 j h1
        rw [bd,if_pos rfl,bY] at this
        exact this
       have vB:∀ j,v<=j->j<ub->lt (pa X.toArray k') (pa Y.toArray j)=true:=fun j h1 h2=>by
        have:=v3 j h1 h2
        rw [bd,if_pos rfl,bY] at this
        exact O.no (hY _ (by lia)) (hX _ (by lia)) this (Ne.symm (hd _ _ (by lia) (by lia)))
       have J3:=Jm.takeBs YP (a:=v) (ub-v) _ (by rw [show v+(ub-v)=ub by lia];exact J2) (by lia) fun j h1 h2 i h3=>O.allR XP (show i<=k' by lia) (by lia) (vB j h1 (by lia))
       rw [show v+(ub-v)=ub by lia] at J3
       clear v2 v3 vB
       dsimp only
       refine dW (fun hv0=>dW (fun g1=>?_) fun g1=>dW (fun g2=>?_) fun g2=>?_) fun hv0=>?_
       ·rw [nB]
        obtain ⟨r,er,dr⟩:=fb J3 (by lia) (by lia) (beq_iff_eq.mp g1)
        rw [er]
        exact wpS_pure ⟨sg34,.inl ⟨r,rfl,dr⟩⟩
       ·rw [nB]
        obtain ⟨r,er,dr⟩:=dn J3 (by lia) (by lia) (.inr (beq_iff_eq.mp g2))
        rw [er]
        exact wpS_pure ⟨sg34,.inl ⟨r,rfl,dr⟩⟩
       all_goals first
        | (rw [nB]
           have hD:1<v:=by rw [beq_iff_eq] at g1 g2;lia
           generalize (Y.take ub).drop v++_=l3 at J3 ⊢)
        | (obtain rfl:v=ub:=by lia
           rw [dc (by rw [bI];lia),Cr] at J3
           have hD:1<v:=by lia
           generalize pa Y.toArray v::l1=l3 at J3 ⊢)
       all_goals
        refine wpS_bind (gr (X:=X) (by lia) ?_)
        rw [mr]
        have J4:=J3.takeA XP (by lia) vA
        refine dW (fun i1=>?_) fun i1=>?_
        ·obtain ⟨r,er,dr⟩:=dn J4 (by lia) (by lia) (.inl (beq_iff_eq.mp i1))
         rw [er]
         exact wpS_pure ⟨sg34,.inl ⟨r,rfl,dr⟩⟩
        rw [beq_iff_eq] at i1
        refine dW (fun i2=>?_) fun i2=>?_
        ·exact wpS_pure ⟨sg34,.inr ⟨_,_,_,_,_,_,rfl,⟨J4,by lia,by lia,hD,by lia⟩,by lia⟩⟩
        ·exact wpS_pure ⟨sg34,_,_,_,_,_,_,rfl,⟨J4,by lia,by lia,hD,by lia⟩,by lia⟩
end
end Ry
namespace Ry
open PySem PySem.W PyProof.Rows
theorem ui {α:Type} (off:Nat):∀ (R:List α) (i:Nat) (a:Array α),off+i+R.length<=a.size ->
 ((R.zipIdx i).foldl (fun a x=>a.setIfInBounds (off+x.2) x.1) a).toList=a.toList.take (off+i)++R++a.toList.drop (off+i+R.length)
 | [],i,a,_=>by simp
 | x::R,i,a,h=>by
   rw [aD] at h
   rw [List.zipIdx_cons,List.foldl_cons]
   have hi:off+i<a.toList.length:=by rw [az];lia
   rw [ui off R (i+1) (a.setIfInBounds (off+i) x) (by rw [Array.size_setIfInBounds];lia),Array.toList_setIfInBounds]
   have e1:(a.toList.set (off+i) x).take (off+(i+1))=a.toList.take (off+i)++[x]:=by
    rw [show off+(i+1)=off+i+1 by lia,lp,aA (by exact hi),List.take_set_of_le (aj _)]
    rfl
   have e2:(a.toList.set (off+i) x).drop (off+(i+1)+R.length)=a.toList.drop (off+i+(x::R).length):=by
    rw [List.drop_set_of_lt (by lia),aD]
    congr 1
    lia
   rw [e1,e2]
   simp
section
variable {prog:Program} {w:World} {A:Around} {E:Value->Shared->Prop} {s:Shared} {f:Nat->Keyed} {κ:SortKind} {n:Nat} {lt:Nat->Nat->Bool} {p:Array Nat} {st:SortSt}
theorem CL {a:SortSt} {Q:PUnit->SortSt->Prop} (h:Q ⟨⟩ a):wpS (model prog w) A E s (set a:StateT SortSt Sem PUnit) Q st:=by
 unfold wpS
 rw [StateT.run_set]
 exact wpAny_pure ⟨rfl,h⟩
theorem vl (O:Ora prog w A s f κ n lt) {n1 n2 pw:Nat} (hp:bW n p) (S:Sst f κ p #[(0,n1,pw),(n1,n2,0)] st) (hn:n1+n2=n) (h1:0<n1) (h2:0<n2) (s1:Seg lt p 0 n1) (s2:Seg lt p n1 n) {Q:Bool->SortSt->Prop}
 (h:∀ p' st',bW n p'->Sst f κ p' #[(0,n,pw)] st'->Seg lt p' 0 n->Q true st'):wpS (model prog w) A E s (mergeAt' 0) Q st:=by
 have sz:=hp.size
 refine wpS_bind (wpS_get ?_)
 have e0:(pendingOf st)[0]?=some (0,n1,pw):=by rw [S.pend];rfl
 have e1:(pendingOf st)[0+1]?=some (n1,n2,0):=by rw [S.pend];rfl
 dsimp only
 rw [e0,e1]
 dsimp only
 refine wpS_bind (CL ?_)
 obtain ⟨st1,hst1⟩:∃ t,t=SortSt.mk' (kindOf st) (arrOf st) (((pendingOf st).setIfInBounds 0 (0,n1+n2,pw)).eraseIdxIfInBounds (0+1)) (gallopOf st) (failedOf st):=⟨_,rfl⟩
 have S1:Sst f κ p #[(0,n,pw)] st1:=by
  rw [hst1]
  exact ⟨S.arr,S.kind,S.fail,by show ((pendingOf st).setIfInBounds 0 (0,n1+n2,pw)).eraseIdxIfInBounds (0+1)=_;rw [S.pend,hn];apply ck.mp;simp⟩
 show wpS _ _ _ _ _ Q (SortSt.mk' (kindOf st) (arrOf st) (((pendingOf st).setIfInBounds 0 (0,n1+n2,pw)).eraseIdxIfInBounds (0+1)) (gallopOf st) (failedOf st))
 rw [<- hst1]
 have ea:(sortPriv% PySem.Builtin.SortState.a) st=p.map f:=S.arr
 rw [ea]
 have hpq:∀ i,i<p.size->pa p i<n:=fun i hi=>hp.lt (by lia)
 refine wpS_bind (lb (by lia) ?_)
 refine wpS_bind (gU (f:=f) (q:=p) (left:=false) (kx:=pa p n1) (base:=0) (m:=n1) (hint:=0) O S1.kind hpq (hp.lt (by lia)) (by lia) h1 (fun i j a b c=>?_) fun k k1 k2 k3=>?_)
 ·rw [bd,if_neg ah,cK,bY] at c ⊢
  cases z:lt (pa p n1) (pa p i) with
  | false=>rfl
  | true =>
    by_cases e:i=j
    ·rw [e,c] at z;cases z
    ·rw [O.tr _ _ _ z (s1 i j (aT _) (by lia) b)] at c;cases c
 have kA:∀ i,i<k->lt (pa p i) (pa p n1)=true:=fun i hi=>by
  have:=k2 i hi
  rw [bd,if_neg ah,cK,bY] at this
  exact O.no (hp.lt (by lia)) (hp.lt (by lia)) this fun z=>by have:=hp.inj (show n1<n by lia) (show i<n by lia) z;lia
 have kB:∀ i,k<=i->i<n1->lt (pa p n1) (pa p i)=true:=fun i a b=>by
  have:=k3 i a b
  rw [bd,if_neg ah,ki,bY] at this
  exact this
 clear k2 k3
 have up2:∀ a j,n1<=j->j<n->lt a (pa p n1)=true->lt a (pa p j)=true:=fun a j c d e=>by
  by_cases z:n1=j
  ·rw [<- z];exact e
  ·exact O.tr _ _ _ e (s2 n1 j (aj _) (by lia) d)
 dsimp only
 refine dW (fun c1=>?_) fun c1=>?_
 ·rw [beq_iff_eq] at c1
  refine wpS_pure (h p st1 hp S1 fun i j a b c=>?_)
  by_cases d:j<n1
  ·exact s1 i j a b d
  ·by_cases d':n1<=i
   ·exact s2 i j d' b c
   ·exact up2 _ j (by lia) c (kA i (by lia))
 rw [beq_iff_eq] at c1
 simp only [bY]
 have hk:k<n1:=by lia
 have ek:k+(n1-k)-1=n1-1:=by lia
 rw [ek]
 refine wpS_bind (lb (by lia) ?_)
 refine wpS_bind (gU (f:=f) (q:=p) (left:=true) (kx:=pa p (n1-1)) (base:=n1) (m:=n2) (hint:=n2-1) O S1.kind hpq (hp.lt (by lia)) (by lia) (by lia) (fun i j a b c=>?_) fun nb v1 v2 v3=>?_)
 ·rw [bd,if_pos rfl] at c ⊢
  by_cases e:i=j
  ·rw [e];exact c
  ·exact O.tr _ _ _ (s2 (n1+i) (n1+j) (by lia) (by lia) (by lia)) c
 have vA:∀ j,n1<=j->j<n1+nb->lt (pa p j) (pa p (n1-1))=true:=fun j a b=>by
  have:=v2 (j-n1) (by lia)
  rw [bd,if_pos rfl,show n1+(j-n1)=j by lia] at this
  exact this
 have vB:∀ j,n1+nb<=j->j<n->lt (pa p (n1-1)) (pa p j)=true:=fun j a b=>by
  have:=v3 (j-n1) (by lia) (by lia)
  rw [bd,if_pos rfl,show n1+(j-n1)=j by lia] at this
  exact O.no (hp.lt b) (hp.lt (by lia)) this fun z=>by have:=hp.inj b (show n1-1<n by lia) z;lia
 clear v2 v3
 have dn1:∀ i b,i<n1->lt (pa p (n1-1)) b=true->lt (pa p i) b=true:=fun i b c e=>by
  by_cases z:i=n1-1
  ·rw [z];exact e
  ·exact O.tr _ _ _ (s1 i (n1-1) (aT _) (by lia) (by lia)) e
 dsimp only
 refine dW (fun c2=>?_) fun c2=>?_
 ·rw [beq_iff_eq] at c2
  refine wpS_pure (h p st1 hp S1 fun i j a b c=>?_)
  by_cases d:j<n1
  ·exact s1 i j a b d
  ·by_cases d':n1<=i
   ·exact s2 i j d' b c
   ·exact dn1 i _ (by lia) (vB j (by lia) c)
 rw [beq_iff_eq] at c2
 have hL:p.toList.length=n:=by rw [az,sz]
 have pL:∀ i,pa p.toList.toArray i=pa p i:=fun i=>by rw [dM]
 let X:List Nat:=(p.toList.take n1).drop k
 let Y:List Nat:=(p.toList.drop n1).take nb
 have lX:X.length=n1-k:=by simp only [X,fM,bI];lia
 have lY:Y.length=nb:=by simp only [Y,fM,bI];lia
 have gX:∀ i,i<X.length->pa X.toArray i=pa p (k+i):=fun i hi=>by
  rw [dH hi,<- pL,dH (by lia)]
  simp only [X,dI,dJ]
 have gY:∀ j,j<Y.length->pa Y.toArray j=pa p (n1+j):=fun j hj=>by
  rw [dH hj,<- pL,dH (by lia)]
  simp only [Y,dI,dJ]
 have eX:(p.map f).extract k n1=ar f X:=by
  apply ck.mp
  simp [X,cc,fS,fT,Du]
 have eY:(p.map f).extract n1 (n1+nb)=ar f Y:=by
  apply ck.mp
  simp [Y,cc,fS,fT]
 have XP:Up1 lt X:=bE.mpr fun i j hi hj hij=>by
  rw [<- dH hi,<- dH hj,gX i hi,gX j hj]
  exact s1 _ _ (by lia) (by lia) (by lia)
 have YP:Up1 lt Y:=bE.mpr fun i j hi hj hij=>by
  rw [<- dH hi,<- dH hj,gY i hi,gY j hj]
  exact s2 _ _ (by lia) (by lia) (by lia)
 have hX:∀ i,i<X.length->pa X.toArray i<n:=fun i hi=>by rw [gX i hi];exact hp.lt (by lia)
 have hY:∀ i,i<Y.length->pa Y.toArray i<n:=fun i hi=>by rw [gY i hi];exact hp.lt (by lia)
 have hdis:∀ i j,i<X.length->j<Y.length->pa X.toArray i≠pa Y.toArray j:=fun i j hi hj z=>by
  rw [gX i hi,gY j hj] at z
  have:=hp.inj (show k+i<n by lia) (show n1+j<n by lia) z
  lia
 have h0:lt (pa Y.toArray 0) (pa X.toArray 0)=true:=by
  rw [gX 0 (by lia),gY 0 (by lia)]
  exact kB _ (by lia) (by lia)
 have hl:∀ j,j<Y.length->lt (pa Y.toArray j) (pa X.toArray (X.length-1))=true:=fun j hj=>by
  rw [gX _ (by lia),gY j hj,show k+(X.length-1)=n1-1 by lia]
  exact vA _ (by lia) (by lia)
 have fin:∀ (r:List Nat) (st2:SortSt),gi st1 st2->Dn lt X Y r->Q true (SortSt.mk' (kindOf st2) ((ar f r).toList.zipIdx.foldl (fun a x=>a.setIfInBounds (k+x.2) x.1) (arrOf st2)) (pendingOf st2) (gallopOf st2) (failedOf st2)):=fun r st2 sg dr=>by
  have lr:r.length=n1-k+nb:=by rw [dr.perm.length_eq,aF,lX,lY]
  let L':List Nat:=p.toList.take k++r++p.toList.drop (n1+nb)
  have hwb:((ar f r).toList.zipIdx.foldl (fun a x=>a.setIfInBounds (k+x.2) x.1) (arrOf st2))=L'.toArray.map f:=by
   apply ck.mp
   have e2:arrOf st2=p.map f:=sg.arr.trans S1.arr
   have e5:k+0+(ar f r).toList.length=n1+nb:=by simp;lia
   rw [e2,ui k (ar f r).toList 0 (p.map f) (by rw [e5];simp;lia),e5]
   simp [L',fS,fT]
  have hperm:L'.Perm p.toList:=by
   have e3:p.toList=p.toList.take k++(X++Y)++p.toList.drop (n1+nb):=by
    have a1:p.toList.take k++X=p.toList.take n1:=by
     have:p.toList.take k=(p.toList.take n1).take k:=by rw [List.take_take,Nat.min_eq_left (by lia)]
     rw [this]
     exact fH k _
    have a2:Y++p.toList.drop (n1+nb)=p.toList.drop n1:=by
     rw [<- List.drop_drop]
     exact fH nb _
    rw [<- bg,a1,bg,a2,fH]
   have e4:L'.Perm (p.toList.take k++(X++Y)++p.toList.drop (n1+nb)):=List.Perm.append_right _ (List.Perm.append_left _ dr.perm)
   rw [<- e3] at e4
   exact e4
  have hsort:Up1 lt L':=by
   have inX:∀ b∈X,∃ i,k<=i/\i<n1/\b=pa p i:=fun b hb=>by
    obtain ⟨i,hi,e⟩:=bv hb
    exact ⟨k+i,by lia,by lia,by rw [<- e,<- dH hi,gX i hi]⟩
   have inY:∀ b∈Y,∃ j,n1<=j/\j<n1+nb/\b=pa p j:=fun b hb=>by
    obtain ⟨i,hi,e⟩:=bv hb
    exact ⟨n1+i,by lia,by lia,by rw [<- e,<- dH hi,gY i hi]⟩
   have inK:∀ b∈p.toList.take k,∃ i,i<k/\b=pa p i:=fun b hb=>by
    obtain ⟨i,hi,e⟩:=e9 (by lia) hb
    exact ⟨i,hi,by rw [e,pL]⟩
   have inD:∀ b∈p.toList.drop (n1+nb),∃ j,n1+nb<=j/\j<n/\b=pa p j:=fun b hb=>by
    obtain ⟨j,hj,hj2,e⟩:=gR hb
    exact ⟨j,hj,by lia,by rw [e,pL]⟩
   have upL:∀ i j,i<j->j<n->(j<n1\/n1<=i)->lt (pa p i) (pa p j)=true:=fun i j a b c=>by
    rcases c with c | c
    ·exact s1 i j (aT _) a c
    ·exact s2 i j c a b
   refine aU.mpr ⟨aU.mpr ⟨?_,dr.srt,fun a ha b hb=>?_⟩,?_,fun a ha b hb=>?_⟩
   ·exact bE.mpr fun i j hi hj hij=>by
     rw [bI] at hi hj
     rw [dJ,dJ,<- dH (by lia),<- dH (by lia),pL,pL]
     exact s1 _ _ (aT _) hij (by lia)
   ·obtain ⟨i,hi,rfl⟩:=inK a ha
    rcases aG.mp (dr.perm.mem_iff.mp hb) with z | z
    ·obtain ⟨j,c,d,rfl⟩:=inX b z
     exact s1 i j (aT _) (by lia) d
    ·obtain ⟨j,c,d,rfl⟩:=inY b z
     exact up2 _ j c (by lia) (kA i hi)
   ·exact bE.mpr fun i j hi hj hij=>by
     rw [fM] at hi hj
     rw [dI,dI,<- dH (by lia),<- dH (by lia),pL,pL]
     exact s2 _ _ (by lia) (by lia) (by lia)
   ·obtain ⟨j,c,d,rfl⟩:=inD b hb
    rcases aG.mp ha with z | z
    ·obtain ⟨i,hi,rfl⟩:=inK a z
     exact up2 _ j (by lia) d (kA i hi)
    ·rcases aG.mp (dr.perm.mem_iff.mp z) with y | y
     ·obtain ⟨i,e,g,rfl⟩:=inX a y
      exact dn1 i _ g (vB j c d)
     ·obtain ⟨i,e,g,rfl⟩:=inY a y
      exact s2 i j e (by lia) d
  have lL:L'.length=n:=by rw [hperm.length_eq,hL]
  refine h L'.toArray _ ⟨?_⟩ ⟨hwb,sg.kind.trans S1.kind,sg.fail.trans S1.fail,sg.pend.trans S1.pend⟩ fun i j _ b c=>?_
  ·have:=bp.mp hp.perm
   refine bp.mpr ?_
   exact hperm.trans this
  ·exact hsort.at b (by lia)
 rw [eX,eY]
 have rest:∀ (r:List Nat) (st2:SortSt),gi st1 st2->Dn lt X Y r->wpS (model prog w) A E s (do
  modify fun s=>SortSt.mk' (kindOf s) ((ar f r).toList.zipIdx.foldl (fun a x=>a.setIfInBounds (k+x.2) x.1) (arrOf s)) (pendingOf s) (gallopOf s) (failedOf s)
  let u <- get
  pure (failedOf u).isNone) Q st2:=fun r st2 sg dr=>by
  refine wpS_bind (wpS_modify (wpS_bind (wpS_get (wpS_pure ?_))))
  have ef:failedOf st2=none:=sg.fail.trans S1.fail
  show Q (failedOf st2).isNone _
  rw [ef]
  have:=fin r st2 sg dr
  rw [ef] at this
  exact this
 refine dW (fun c3=>?_) fun c3=>?_
 ·exact wpS_bind (uE O S1.kind hX hY hdis XP YP (by lia) (by lia) h0 hl rest)
 ·exact wpS_bind (tF O S1.kind hX hY hdis XP YP (by lia) (by lia) h0 hl rest)
end
end Ry
namespace Ry
open PySem PySem.W PyProof.Rows
theorem rl {n:Nat} (h1:64<=n) (h2:n<=127):minRun' n n 0=n / 2+n%2:=by
 obtain ⟨g,hg⟩:∃ g,n=g+1+1:=⟨n-2,by lia⟩
 have e:minRun' (g+1+1) n 0=n / 2+n%2:=by
  rw [minRun'_succ,if_neg (by lia),minRun'_succ,if_pos (by lia)]
  lia
 rw [<- hg] at e
 exact e
section
variable {prog:Program} {w:World} {A:Around} {E:Value->Shared->Prop} {s:Shared} {f:Nat->Keyed} {κ:SortKind} {n:Nat} {lt:Nat->Nat->Bool} {p:Array Nat} {pd:Array (Nat×Nat×Nat)} {st:SortSt}
def Ru0 (f:Nat->Keyed) (κ:SortKind) (n:Nat) (st:SortSt):Prop:=∃ p,bW n p/\Sst f κ p #[] st
def Ru1 (f:Nat->Keyed) (κ:SortKind) (n:Nat) (lt:Nat->Nat->Bool) (n1:Nat) (st:SortSt):Prop:=∃ p,bW n p/\Sst f κ p #[(0,n1,0)] st/\n / 2+n%2<=n1/\n1<=n/\Seg lt p 0 n1
def RuB (f:Nat->Keyed) (κ:SortKind) (n:Nat) (lt:Nat->Nat->Bool) (st:SortSt):Prop:=∃ p n1 n2 pw,bW n p/\Sst f κ p #[(0,n1,pw),(n1,n2,0)] st/\n1+n2=n/\0<n1/\0<n2/\Seg lt p 0 n1/\Seg lt p n1 n
def RuA (f:Nat->Keyed) (κ:SortKind) (n:Nat) (lt:Nat->Nat->Bool) (st:SortSt):Prop:=∃ p pw,bW n p/\Sst f κ p #[(0,n,pw)] st/\Seg lt p 0 n
theorem A3 (O:Ora prog w A s f κ n lt) (h1:64<=n) (h2:n<=127) (hp:bW n p) (S:Sst f κ p #[] st) {Q:Unit->SortSt->Prop} (h:∀ p' st',bW n p'->arrOf st'=p'.map f->failedOf st'=none->Seg lt p' 0 n->Q () st'):wpS (model prog w) A E s sortRuns' Q st:=by
 rw [sortRuns'_eq]
 refine wpS_bind (wpS_get ?_)
 dsimp only
 have hsz:(arrOf st).size=n:=by rw [S.arr,Array.size_map,hp.size]
 rw [hsz,rl h1 h2]
 refine wpS_bind (wpS_mono (wpS_forRange (I:=fun x c st1=>∃ lo,c=(none,lo)/\((x=0/\lo=0/\Ru0 f κ n st1)\/(x=1/\Ru1 f κ n lt lo st1)\/(2<=x/\lo=n/\RuB f κ n lt st1)))
  (Q:=fun c st1=>c=(none,n)/\(RuB f κ n lt st1\/RuA f κ n lt st1)) ?step ?fin ?init) ?post)
 case init=>exact ⟨0,rfl,.inl ⟨rfl,rfl,p,hp,S⟩⟩
 case fin =>
  rintro c st1 ⟨lo,rfl,⟨a,_⟩ | ⟨a,_⟩ | ⟨_,rfl,r⟩⟩
  ·lia
  ·lia
  ·exact ⟨rfl,.inl r⟩
 case post =>
  rintro c st1 ⟨rfl,r⟩
  dsimp only
  refine wpS_bind (wpS_mono (wpS_forRange (I:=fun x c st2=>c=(none,())/\((x=0/\RuB f κ n lt st2)\/RuA f κ n lt st2)) (Q:=fun c st2=>c=(none,())/\RuA f κ n lt st2) ?mstep ?mfin ?minit) ?mpost)
  case minit=>exact ⟨rfl,r.imp (fun z=>⟨rfl,z⟩) id⟩
  case mfin =>
   rintro c st2 ⟨rfl,⟨a,_⟩ | r⟩
   ·lia
   ·exact ⟨rfl,r⟩
  case mpost =>
   rintro c st2 ⟨rfl,p',pw,a,b,d⟩
   exact wpS_pure (h p' st2 a b.arr b.fail d)
  case mstep =>
   rintro x c st2 _ hx ⟨rfl,⟨rfl,p',n1,n2,pw,a,b,d,e,g,i,j⟩ | ⟨p',pw,a,b,d⟩⟩
   ·refine wpS_bind (wpS_get ?_)
    rw [b.pend]
    rw [if_neg (by simp)]
    refine wpS_bind (vl O a b d e g i j fun p2 st3 hp2 S2 s2=>?_)
    exact wpS_pure ⟨rfl,.inr ⟨p2,pw,hp2,S2,s2⟩⟩
   ·refine wpS_bind (wpS_get ?_)
    rw [b.pend,if_pos (by simp)]
    exact wpS_pure ⟨rfl,p',pw,a,b,d⟩
 case step =>
  rintro x c st1 _ hx ⟨lo,rfl,⟨rfl,rfl,p',hp',S'⟩ | ⟨rfl,p',hp',S',l1,l2,sg⟩ | ⟨hx2,rfl,r⟩⟩
  ·dsimp only
   rw [if_neg (by lia)]
   refine wpS_bind (so O (by lia) (by lia) S' hp' fun m p2 st2 S2 hp2 m1 m2 s2 _=>?_)
   dsimp only
   simp only [bY] at s2 ⊢
   refine dW (fun c1=>?_) fun c1=>?_
   ·refine wpS_bind (wpS_lift (wpAny_rule ⟨rfl,?_⟩))
    rw [show min (n-0) (n / 2+n%2)=n / 2+n%2 by lia]
    refine wpS_bind (Aq O (lo:=0) (by lia) (by lia) S2 hp2 (by rw [bY];exact s2) fun p3 st3 S3 hp3 s3 _=>?_)
    rw [bY] at s3
    rw [if_neg (by decide)]
    refine wpS_bind (wpS_get ?_)
    rw [S3.pend]
    refine wpS_bind (wpS_modify (wpS_pure ⟨_,rfl,.inr (.inl ⟨trivial,p3,hp3,⟨S3.arr,S3.kind,S3.fail,?_⟩,aj _,by lia,s3⟩)⟩))
    show (pendingOf st3).push _=_
    rw [S3.pend]
    rfl
   ·refine wpS_bind (wpS_get ?_)
    rw [S2.pend]
    refine wpS_bind (wpS_modify (wpS_pure ⟨_,rfl,.inr (.inl ⟨trivial,p2,hp2,⟨S2.arr,S2.kind,S2.fail,?_⟩,by lia,by lia,s2⟩)⟩))
    show (pendingOf st2).push _=_
    rw [S2.pend]
    rfl
  ·dsimp only
   refine dW (fun c0=>?_) fun c0=>?_
   ·obtain rfl:lo=n:=by lia
    exact wpS_pure ⟨rfl,.inr ⟨p',0,hp',S',sg⟩⟩
   have low:∀ p2:Array Nat,(∀ i,i<lo->pa p2 i=pa p' i)->Seg lt p2 0 lo:=fun p2 e i j a b d=>by rw [e i (by lia),e j (by lia)];exact sg i j a b d
   refine wpS_bind (so O (by lia) (by lia) S' hp' fun m p2 st2 S2 hp2 m1 m2 s2 b2=>?_)
   dsimp only
   have fin2:∀ (p3:Array Nat) (st3:SortSt),Sst f κ p3 #[(0,lo,0)] st3->bW n p3->Seg lt p3 lo (lo+(n-lo))->(∀ i,i<lo->pa p3 i=pa p' i)->∀ pw,RuB f κ n lt (setPending (setPending st3 ((pendingOf st3).modify ((pendingOf st3).size-1) fun x=>(x.1,x.2.1,pw))) ((((pendingOf st3).modify ((pendingOf st3).size-1) fun x=>(x.1,x.2.1,pw))).push (lo,n-lo,0))):=fun p3 st3 S3 hp3 s3 b3 pw=>by
    refine ⟨p3,lo,n-lo,pw,hp3,⟨S3.arr,S3.kind,S3.fail,?_⟩,by lia,by lia,by lia,low p3 b3,?_⟩
    ·show ((pendingOf st3).modify ((pendingOf st3).size-1) fun x=>(x.1,x.2.1,pw)).push (lo,n-lo,0)=_
     rw [S3.pend]
     rfl
    ·rw [show lo+(n-lo)=n by lia] at s3
     exact s3
   refine dW (fun c1=>?_) fun c1=>?_
   all_goals first
    | (refine wpS_bind (wpS_lift (wpAny_rule ⟨rfl,?_⟩))
       rw [show min (n-lo) (n / 2+n%2)=n-lo by lia]
       refine wpS_bind (Aq O (by lia) (by lia) S2 hp2 s2 fun p3 st3 S3 hp3 s3 b3=>?_)
       rw [if_neg (by decide)]
       replace b3:=fun i hi=>(b3 i hi).trans (b2 i hi))
    | (obtain rfl:m=n-lo:=by lia
       have hp3:=hp2
       have s3:=s2
       have b3:=b2
       have S3:=S2
       generalize st2=st3 at S3 ⊢
       generalize p2=p3 at S3 hp3 s3 b3)
   all_goals
    have eb:(pendingOf st3).back?=some (0,lo,0):=by rw [S3.pend];rfl
    refine wpS_bind (wpS_get ?_)
    rw [eb]
    dsimp only
    refine wpS_bind (wpS_mono (wpS_forRange (I:=fun _ c st4=>c=(none,())/\st4=st3) (Q:=fun c st4=>c=(none,())/\st4=st3) (fun y c st4 _ _ z=>?_) (fun _ _ z=>z) ⟨rfl,rfl⟩) fun c st4 z=>?_)
    ·obtain ⟨rfl,rfl⟩:=z
     refine wpS_bind (wpS_get ?_)
     rw [S3.pend,if_neg (by simp)]
     exact wpS_pure ⟨rfl,rfl⟩
    ·obtain ⟨rfl,rfl⟩:=z
     dsimp only
     exact wpS_bind (wpS_modify (wpS_bind (wpS_modify (wpS_pure ⟨_,rfl,.inr (.inr ⟨by lia,by lia,fin2 p3 st4 S3 hp3 s3 b3 _⟩)⟩))))
  ·dsimp only
   rw [if_pos (aj _)]
   exact wpS_pure ⟨rfl,.inl r⟩
end
end Ry
namespace Ry
open PySem PySem.W PyProof.Rows
abbrev OkN {α:Type} (ts:List α):Prop:=ts.length<64\/(ts.length<=127/\ts.Nodup)
theorem OkN.inj {α:Type} {ts:List α} (h:OkN ts) (d:α):ts.length<64\/(ts.length<=127/\∀ i j,i<ts.length->j<ts.length->ts.getD i d=ts.getD j d->i=j) :=
 h.imp id fun ⟨h1,h2⟩=>⟨h1,fun i j hi hj e=>by
  rw [ay,ae hi,ay,ae hj] at e
  exact (d9 h2).mp e⟩
section
variable {prog:Program} {w:World} {A:Around} {E:Value->Shared->Prop} {s:Shared} {O:KeyOrd} {κ:SortKind} {key:Nat->O.α} {ks vs:List Value}
theorem qr (hl:ks.length=vs.length) (h2:2<=vs.length) (h64:vs.length<64\/(vs.length<=127/\∀ i j,i<vs.length->j<vs.length->key i=key j->i=j))
 (lt:∀ i j (C:Bool->Shared->Prop),i<vs.length->j<vs.length->C (O.blt (key i) (key j)) s->kas_ask prog w A κ ks i j C s) :
 wpAny (model prog w) A ((sortRuns').run (SortSt.mk' κ (ks.toArray.zip vs.toArray) #[] 7 none)) (fun r s'=>s'=s/\∃ p:Array Nat,arrOf r.2=p.map (kas_item (ks.toArray.zip vs.toArray))/\failedOf r.2=none/\bW vs.length p/\lh O key p vs.length) E s:=by
 by_cases hs:vs.length<64
 ·exact kat_run (Q:=fun st' s'=>s'=s/\∃ p:Array Nat,arrOf st'=p.map (kas_item (ks.toArray.zip vs.toArray))/\failedOf st'=none/\bW vs.length p/\lh O key p vs.length) hl h2 hs
   (G:=fun p s'=>s'=s/\bW vs.length p/\lh O key p vs.length) (fun p st' s' _ a b c=>⟨c.1,p,a,b,c.2⟩) (cA.wp (O:=O) (key:=key) (n:=vs.length) lt (oX (by lia) fun p hp hu=>⟨rfl,hp,hu⟩))
 ·obtain ⟨h127,inj⟩:=h64.resolve_left hs
  have O':Ora prog w A s (kas_item (ks.toArray.zip vs.toArray)) κ vs.length (fun i j=>O.blt (key i) (key j)) :=
   ⟨fun i j C hi hj c=>by rw [kat_item hl,kat_item hl];exact lt i j C hi hj c,fun i=>O.irrefl _,fun i j k=>O.trans _ _ _,fun i j hi hj hne=>by
     cases h1:O.blt (key i) (key j) with
     | true=>exact .inl rfl
     | false=>cases h2:O.blt (key j) (key i) with
       | true=>exact .inr rfl
       | false=>exact absurd (inj i j hi hj (O.total _ _ h1 h2)) hne⟩
  have e:=kas_range (ks.toArray.zip vs.toArray)
  rw [show (ks.toArray.zip vs.toArray).size=vs.length by simp [hl]] at e
  show wpS (model prog w) A E s sortRuns' (fun _ st'=>∃ p:Array Nat,arrOf st'=p.map (kas_item (ks.toArray.zip vs.toArray))/\failedOf st'=none/\bW vs.length p/\lh O key p vs.length) (SortSt.mk' κ (ks.toArray.zip vs.toArray) #[] 7 none)
  refine A3 O' (p:=(bi vs.length).toArray) (by lia) h127 ⟨.refl _⟩ ⟨e.symm,rfl,rfl,rfl⟩ fun p' st' hp ha hf hs=>⟨p',ha,hf,hp,fun i j hij hj=>?_⟩
  rcases gw hij with h | h
  ·exact KeyOrd.kle_of_klt (hs i j (aT _) h hj)
  ·subst h;exact KeyOrd.kle_refl _
end
end Ry
namespace Ry
open PySem PySem.Spec PyProof.Rows L2
abbrev St:=L2.St
inductive Da where
 | non | bl (b:Bool) | int (i:Int) | str (x:Str) | tup (ds:List Da) | lst (ds:List Da) | dK (ks:List Key) (ds:List Da) | dT (ks:List (List Key)) (ds:List Da)
mutual
def Den (K:PySem.W.Frag) (G:Hp):Da->V->Prop
 | .non,v=>v=.non
 | .bl b,v=>v=.bl b
 | .int i,v=>v=.int i
 | .str x,v=>v=.str x
 | .tup ds,v=>∃ a xs,v=.ref a/\G a=some (.tup xs)/\bP K G ds xs
 | .lst ds,v=>∃ a xs,v=.ref a/\SqL K G a xs/\bP K G ds xs
 | .dK ks ds,v=>∃ a o kvs,v=.ref a/\G a=some (.frz o (.dK kvs))/\kvs.map (·.1)=ks/\bP K G ds (kvs.map (·.2))
 | .dT ks ds,v=>∃ a o kvs,v=.ref a/\G a=some (.frz o (.dT kvs))/\kvs.map (·.1)=ks/\bP K G ds (kvs.map (·.2))
def bP (K:PySem.W.Frag) (G:Hp):List Da->List V->Prop
 | [],xs=>xs=[]
 | d::ds,xs=>∃ x r,xs=x::r/\Den K G d x/\bP K G ds r
end
theorem lT {K:PySem.W.Frag} {H H':Hp} {a:Addr} {xs:List V} (e:bQ H H') (h:SqT K H a xs):SqT K H' a xs:=by
 rcases h with (h | ⟨o,h⟩) | h
 ·exact .inl (.inl (e _ _ h))
 ·exact .inl (.inr ⟨o,e _ _ h⟩)
 ·exact .inr h
mutual
theorem Den.mono {K:PySem.W.Frag} {G G':Hp} (e:bQ G G'):∀ (d:Da) {v:V},Den K G d v->Den K G' d v
 | .non,_,h=>h
 | .bl _,_,h=>h
 | .int _,_,h=>h
 | .str _,_,h=>h
 | .tup ds,_,h=>by obtain ⟨a,xs,rfl,q,r⟩:=h;exact ⟨a,xs,rfl,e _ _ q,bP.mono e ds r⟩
 | .lst ds,_,h=>by obtain ⟨a,xs,rfl,q,r⟩:=h;exact ⟨a,xs,rfl,e.seq q,bP.mono e ds r⟩
 | .dK ks ds,_,h=>by obtain ⟨a,o,kvs,rfl,q,k,r⟩:=h;exact ⟨a,o,kvs,rfl,e _ _ q,k,bP.mono e ds r⟩
 | .dT ks ds,_,h=>by obtain ⟨a,o,kvs,rfl,q,k,r⟩:=h;exact ⟨a,o,kvs,rfl,e _ _ q,k,bP.mono e ds r⟩
theorem bP.mono {K:PySem.W.Frag} {G G':Hp} (e:bQ G G'):∀ (ds:List Da) {xs:List V},bP K G ds xs->bP K G' ds xs
 | [],_,h=>h
 | d::ds,_,h=>by obtain ⟨x,r,rfl,h1,h2⟩:=h;exact ⟨x,r,rfl,Den.mono e d h1,bP.mono e ds h2⟩
end
section
variable {K:PySem.W.Frag} {G:Hp}
theorem bP.length:∀ {ds:List Da} {xs:List V},bP K G ds xs->xs.length=ds.length
 | [],_,h=>by cases (show _=_ from h);rfl
 | d::ds,_,h=>by obtain ⟨x,r,rfl,_,h2⟩:=h;rw [aD,aD,bP.length h2]
theorem bP.get:∀ {ds:List Da} {xs:List V} {i:Nat} {d:Da},bP K G ds xs->ds[i]?=some d->∃ x,xs[i]?=some x/\Den K G d x
 | [],_,_,_,_,e=>by simp at e
 | d::ds,_,0,_,h,e=>by obtain ⟨x,r,rfl,h1,_⟩:=h;simp at e;subst e;exact ⟨x,rfl,h1⟩
 | d::ds,_,i+1,_,h,e=>by obtain ⟨x,r,rfl,_,h2⟩:=h;simpa using bP.get (i:=i) h2 (by simpa using e)
theorem bP.of_get:∀ {ds:List Da} {xs:List V} {i:Nat} {x:V},bP K G ds xs->xs[i]?=some x->∃ d,ds[i]?=some d/\Den K G d x
 | [],_,_,_,h,e=>by cases (show _=_ from h);simp at e
 | d::ds,_,0,_,h,e=>by obtain ⟨x,r,rfl,h1,_⟩:=h;simp at e;subst e;exact ⟨d,rfl,h1⟩
 | d::ds,_,i+1,_,h,e=>by obtain ⟨x,r,rfl,_,h2⟩:=h;simpa using bP.of_get (i:=i) h2 (by simpa using e)
theorem bP.append:∀ {ds es:List Da} {xs ys:List V},bP K G ds xs->bP K G es ys->bP K G (ds++es) (xs++ys)
 | [],_,_,_,h,h'=>by cases (show _=_ from h);exact h'
 | d::ds,_,_,_,h,h'=>by obtain ⟨x,r,rfl,h1,h2⟩:=h;exact ⟨x,_,rfl,h1,bP.append h2 h'⟩
theorem bP.one {d:Da} {x:V} (h:Den K G d x):bP K G [d] [x]:=⟨x,[],rfl,h,rfl⟩
theorem bP.reverse {ds:List Da}:∀ {xs:List V},bP K G ds xs->bP K G ds.reverse xs.reverse:=by
 induction ds with
 | nil=>intro xs h;cases (show _=_ from h);rfl
 | cons d ds ih=>intro xs h;obtain ⟨x,r,rfl,h1,h2⟩:=h;rw [gZ,gZ];exact bP.append (ih h2) (bP.one h1)
theorem bP.ints:∀ {ns:List Int} {xs:List V},bP K G (ns.map Da.int) xs↔xs=ns.map V.int
 | [],_=>Iff.rfl
 | n::ns,xs=>by
   constructor
   ·rintro ⟨x,r,rfl,h1,h2⟩
    cases (show _=_ from h1)
    rw [bP.ints.mp h2];rfl
   ·intro e
    subst e
    exact ⟨_,_,rfl,rfl,bP.ints.mpr rfl⟩
end
inductive Kd where
 | pu | bo | fr
 deriving DecidableEq
abbrev Rv:=Kd×Da
def Holds (K:PySem.W.Frag) (G:Hp):Da->HO->Prop
 | .lst ds,o=>∃ xs,o=.lst xs/\bP K G ds xs
 | .dK ks ds,o=>∃ kvs,o=.dK kvs/\kvs.map (·.1)=ks/\bP K G ds (kvs.map (·.2))
 | .dT ks ds,o=>∃ kvs,o=.dT kvs/\kvs.map (·.1)=ks/\bP K G ds (kvs.map (·.2))
 | _,_=>False
theorem Holds.mono {K:PySem.W.Frag} {G G':Hp} (e:bQ G G') {d:Da} {o:HO} (h:Holds K G d o):Holds K G' d o:=by
 cases d with
 | lst ds=>obtain ⟨xs,rfl,r⟩:=h;exact ⟨xs,rfl,bP.mono e ds r⟩
 | dK ks ds=>obtain ⟨kvs,rfl,k,r⟩:=h;exact ⟨kvs,rfl,k,bP.mono e ds r⟩
 | dT ks ds=>obtain ⟨kvs,rfl,k,r⟩:=h;exact ⟨kvs,rfl,k,bP.mono e ds r⟩
 | _=>exact False.elim h
def jB:Da->Bool
 | .dK _ _=>true
 | .dT _ _=>true
 | _=>false
theorem Holds.den {K:PySem.W.Frag} {G:Hp} {d:Da} {o:HO} {l:Addr} (e:G l=some o) (h:Holds K G d o) (nd:jB d=false):Den K G d (.ref l):=by
 cases d with
 | lst ds=>obtain ⟨xs,rfl,r⟩:=h;exact ⟨l,xs,rfl,SqL.of e,r⟩
 | dK ks ds=>cases nd
 | dT ks ds=>cases nd
 | _=>exact False.elim h
def cD:Kd×Da->Bool
 | (.pu,_)=>true
 | (.bo,_)=>false
 | (.fr,d)=>!jB d
def isT:HO->Bool
 | .tup _=>true
 | _=>false
theorem Holds.nt {K:PySem.W.Frag} {G:Hp} {d:Da} {o:HO} (h:Holds K G d o):isT o=false:=by
 cases d with
 | lst ds=>obtain ⟨xs,rfl,_⟩:=h;rfl
 | dK ks ds=>obtain ⟨xs,rfl,_⟩:=h;rfl
 | dT ks ds=>obtain ⟨xs,rfl,_⟩:=h;rfl
 | _=>exact False.elim h
structure Ext (G H G' H':Hp):Prop where
 hh:bQ H H'
 gg:bQ G G'
 gh:bQ G' H'
 nw:∀ b o,H b=some o->isT o=false->G b=none->G' b=none
theorem Ext.refl {G H:Hp} (h:bQ G H):Ext G H G H:=⟨bQ.refl _,bQ.refl _,h,fun _ _ _ _ n=>n⟩
theorem Ext.trans {G H G1 H1 G2 H2:Hp} (a:Ext G H G1 H1) (b:Ext G1 H1 G2 H2):Ext G H G2 H2 :=
 ⟨a.hh.trans b.hh,a.gg.trans b.gg,b.gh,fun c o e t n=>b.nw c o (a.hh c o e) t (a.nw c o e t n)⟩
theorem bB {G:Hp} {l:Addr} {o:HO} (h:G l=none):bQ G (upd G l o):=fun b u e=>by rw [aK (bu e h)];exact e
theorem gF {G H:Hp} {l:Addr} {o:HO} (h:bQ G H):bQ (upd G l o) (upd H l o):=fun b u e=>by
 by_cases hb:b=l
 ·subst hb;rw [aL] at e ⊢;exact e
 ·rw [aK hb] at e ⊢;exact h b u e
theorem Ext.new {G H:Hp} {l:Addr} {o:HO} (h:bQ G H) (n:H l=none):Ext G H (upd G l o) (upd H l o) :=
 ⟨bB n,bB (h.free n),gF h,fun b u e _ g=>by rw [aK (bu e n)];exact g⟩
theorem Ext.own {G H:Hp} {l:Addr} {o:HO} (h:bQ G H) (n:H l=none):Ext G H G (upd H l o) :=
 ⟨bB n,bQ.refl _,h.trans (bB n),fun _ _ _ _ g=>g⟩
def eu (K:PySem.W.Frag) (B H0 G H:Hp):Rv->V->Prop
 | (.pu,d),v=>Den K G d v
 | (.bo,d),v=>∃ l o,v=.ref l/\B l=none/\G l=none/\H l=some o/\Holds K G d o
 | (.fr,d),v=>∃ l o,v=.ref l/\H0 l=none/\G l=none/\H l=some o/\Holds K G d o
section
variable {K:PySem.W.Frag} {B H0 H1 G H G' H':Hp} {r:Rv} {v:V}
theorem eu.ext (h:eu K B H0 G H r v) (e:Ext G H G' H'):eu K B H0 G' H' r v:=by
 obtain ⟨k,d⟩:=r
 cases k with
 | pu=>exact Den.mono e.gg d h
 | bo=>obtain ⟨l,o,rfl,b,g,q,r⟩:=h;exact ⟨l,o,rfl,b,e.nw _ _ q r.nt g,e.hh _ _ q,r.mono e.gg⟩
 | fr=>obtain ⟨l,o,rfl,n,g,q,r⟩:=h;exact ⟨l,o,rfl,n,e.nw _ _ q r.nt g,e.hh _ _ q,r.mono e.gg⟩
theorem eu.base (h:eu K B H1 G H r v) (e:bQ H0 H1):eu K B H0 G H r v:=by
 obtain ⟨k,d⟩:=r
 cases k with
 | pu=>exact h
 | bo=>exact h
 | fr=>obtain ⟨l,o,rfl,n,g,q,r⟩:=h;exact ⟨l,o,rfl,e.free n,g,q,r⟩
theorem eu.den (s:bQ G H) (h:eu K B H0 G H r v) (nd:jB r.2=false):Den K H r.2 v:=by
 obtain ⟨k,d⟩:=r
 cases k with
 | pu=>exact Den.mono s d h
 | bo=>obtain ⟨l,o,rfl,_,_,q,r⟩:=h;exact (r.mono s).den q nd
 | fr=>obtain ⟨l,o,rfl,_,_,q,r⟩:=h;exact (r.mono s).den q nd
theorem eu.pure {G0:Hp} (e:Ext G0 H0 G H) (h:eu K B H0 G H r v) (k:cD r=true):∃ G',Ext G0 H0 G' H/\bQ G G'/\Den K G' r.2 v:=by
 obtain ⟨kd,d⟩:=r
 cases kd with
 | pu=>exact ⟨G,e,bQ.refl _,h⟩
 | bo=>cases k
 | fr =>
   have nd:jB d=false:=by simpa [cD] using k
   obtain ⟨l,o,rfl,n,g,q,r⟩:=h
   refine ⟨upd G l o,⟨e.hh,e.gg.trans (bB g),fun b u z=>?_,fun b u z t w=>?_⟩,bB g,(r.mono (bB g)).den aL nd⟩
   ·by_cases hb:b=l
    ·subst hb;rw [aL] at z;rw [<- z];exact q
    ·rw [aK hb] at z;exact e.gh b u z
   ·rw [aK (bu z n)];exact e.nw b u z t w
theorem eu.pureB {G0:Hp} (sb:bQ B H0) (e:Ext G0 B G H) (h:eu K B H0 G H r v) (nd:r.1=.pu\/jB r.2=false):∃ G',Ext G0 B G' H/\bQ G G'/\Den K G' r.2 v:=by
 obtain ⟨kd,d⟩:=r
 have go:jB d=false->∀ (l:Addr) (o:HO),v=.ref l->B l=none->H l=some o->Holds K G d o->∃ G',Ext G0 B G' H/\bQ G G'/\Den K G' d v:=fun nd l o ev n q r=>by
  subst ev
  cases g:G l with
  | some o' =>
    have:=e.gh l o' g
    rw [q] at this;cases this
    exact ⟨G,e,bQ.refl _,r.den g nd⟩
  | none =>
    refine ⟨upd G l o,⟨e.hh,e.gg.trans (bB g),fun b u z=>?_,fun b u z t w=>?_⟩,bB g,(r.mono (bB g)).den aL nd⟩
    ·by_cases hb:b=l
     ·subst hb;rw [aL] at z;rw [<- z];exact q
     ·rw [aK hb] at z;exact e.gh b u z
    ·rw [aK (bu z n)];exact e.nw b u z t w
 cases kd with
 | pu=>exact ⟨G,e,bQ.refl _,h⟩
 | bo=>obtain ⟨l,o,ev,n,_,q,r⟩:=h;exact go (nd.resolve_left (by intro z;cases z)) l o ev n q r
 | fr=>obtain ⟨l,o,ev,n,_,q,r⟩:=h;exact go (nd.resolve_left (by intro z;cases z)) l o ev (sb.free n) q r
theorem eu.non {k:Kd} (h:eu K B H0 G H (k,.non) v):v=.non:=by
 cases k with
 | pu=>exact h
 | bo=>obtain ⟨_,_,_,_,_,_,r⟩:=h;exact False.elim r
 | fr=>obtain ⟨_,_,_,_,_,_,r⟩:=h;exact False.elim r
theorem eu.bl {k:Kd} {b:Bool} (h:eu K B H0 G H (k,.bl b) v):v=.bl b:=by
 cases k with
 | pu=>exact h
 | bo=>obtain ⟨_,_,_,_,_,_,r⟩:=h;exact False.elim r
 | fr=>obtain ⟨_,_,_,_,_,_,r⟩:=h;exact False.elim r
theorem eu.int {k:Kd} {i:Int} (h:eu K B H0 G H (k,.int i) v):v=.int i:=by
 cases k with
 | pu=>exact h
 | bo=>obtain ⟨_,_,_,_,_,_,r⟩:=h;exact False.elim r
 | fr=>obtain ⟨_,_,_,_,_,_,r⟩:=h;exact False.elim r
theorem eu.str {k:Kd} {x:Str} (h:eu K B H0 G H (k,.str x) v):v=.str x:=by
 cases k with
 | pu=>exact h
 | bo=>obtain ⟨_,_,_,_,_,_,r⟩:=h;exact False.elim r
 | fr=>obtain ⟨_,_,_,_,_,_,r⟩:=h;exact False.elim r
theorem eu.tup {k:Kd} {ds:List Da} (s:bQ G H) (h:eu K B H0 G H (k,.tup ds) v):∃ a xs,v=.ref a/\H a=some (.tup xs)/\bP K G ds xs/\G a=some (.tup xs):=by
 cases k with
 | pu=>obtain ⟨a,xs,rfl,q,r⟩:=h;exact ⟨a,xs,rfl,s _ _ q,r,q⟩
 | bo=>obtain ⟨_,_,_,_,_,_,r⟩:=h;exact False.elim r
 | fr=>obtain ⟨_,_,_,_,_,_,r⟩:=h;exact False.elim r
theorem eu.lst {k:Kd} {ds:List Da} (s:bQ G H) (h:eu K B H0 G H (k,.lst ds) v):∃ a xs,v=.ref a/\SqL K H a xs/\bP K G ds xs:=by
 cases k with
 | pu=>obtain ⟨a,xs,rfl,q,r⟩:=h;exact ⟨a,xs,rfl,s.seq q,r⟩
 | bo=>obtain ⟨l,o,rfl,_,_,q,xs,rfl,r⟩:=h;exact ⟨l,xs,rfl,SqL.of q,r⟩
 | fr=>obtain ⟨l,o,rfl,_,_,q,xs,rfl,r⟩:=h;exact ⟨l,xs,rfl,SqL.of q,r⟩
theorem eu.dK {k:Kd} {ks:List Key} {ds:List Da} (s:bQ G H) (h:eu K B H0 G H (k,.dK ks ds) v):∃ a kvs,v=.ref a/\Rd H a (.dK kvs)/\kvs.map (·.1)=ks/\bP K G ds (kvs.map (·.2)):=by
 cases k with
 | pu=>obtain ⟨a,o,kvs,rfl,q,e,r⟩:=h;exact ⟨a,kvs,rfl,.inr ⟨o,s _ _ q⟩,e,r⟩
 | bo=>obtain ⟨l,o,rfl,_,_,q,kvs,rfl,e,r⟩:=h;exact ⟨l,kvs,rfl,.inl q,e,r⟩
 | fr=>obtain ⟨l,o,rfl,_,_,q,kvs,rfl,e,r⟩:=h;exact ⟨l,kvs,rfl,.inl q,e,r⟩
theorem eu.dT {k:Kd} {ks:List (List Key)} {ds:List Da} (s:bQ G H) (h:eu K B H0 G H (k,.dT ks ds) v):∃ a kvs,v=.ref a/\Rd H a (.dT kvs)/\kvs.map (·.1)=ks/\bP K G ds (kvs.map (·.2)):=by
 cases k with
 | pu=>obtain ⟨a,o,kvs,rfl,q,e,r⟩:=h;exact ⟨a,kvs,rfl,.inr ⟨o,s _ _ q⟩,e,r⟩
 | bo=>obtain ⟨l,o,rfl,_,_,q,kvs,rfl,e,r⟩:=h;exact ⟨l,kvs,rfl,.inl q,e,r⟩
 | fr=>obtain ⟨l,o,rfl,_,_,q,kvs,rfl,e,r⟩:=h;exact ⟨l,kvs,rfl,.inl q,e,r⟩
end
inductive Sl where
 | no | pu (d:Da) | ow (d:Da)
abbrev Rho:=List Sl
def AW:List Str:=["upwards","heads","_law_turns"]
def CV (e:Addr×Obj):Option (Addr×Str):=match e.2.data with
 | .fields vs=>(match (vs.toList[1]?:Option Value),(vs.toList[11]?:Option Value) with
   | some (.str q _),some (.ref P)=>if AW.contains q then some (P,q++".<locals>."++"<lambda>") else none
   | _,_=>none)
 | _=>none
def eL (K:PySem.W.Frag):List (Addr×Str):=K.filterMap CV
def Tbs (K:PySem.W.Frag) (G:Hp):Prop:=∀ e∈eL K,G e.1=some (.tab e.2)
theorem Tbs.mono {K:PySem.W.Frag} {G G':Hp} (h:Tbs K G) (s:bQ G G'):Tbs K G':=fun e he=>s _ _ (h e he)
structure fm (K:PySem.W.Frag) (B G H:Hp) (σ:St) (ρ:Rho):Prop where
 len:σ.length=ρ.length
 pu:∀ (i:Nat) (d:Da),ρ[i]?=some (.pu d)->∃ v,σ[i]?=some (some v)/\Den K G d v
 ow:∀ (i:Nat) (d:Da),ρ[i]?=some (.ow d)->∃ l o,σ[i]?=some (some (.ref l))/\B l=none/\G l=none/\H l=some o/\Holds K G d o
 ap:∀ (i j:Nat) (d d':Da) (l:Addr),i≠j->ρ[i]?=some (.ow d)->ρ[j]?=some (.ow d')->σ[i]?=some (some (.ref l))->σ[j]?=some (some (.ref l))->False
 tg:Tbs K G
section
variable {K:PySem.W.Frag} {B G H G' H':Hp} {σ:St} {ρ:Rho}
theorem fm.ext (h:fm K B G H σ ρ) (e:Ext G H G' H'):fm K B G' H' σ ρ :=
 ⟨h.len,fun i d q=>let ⟨v,a,b⟩:=h.pu i d q;⟨v,a,Den.mono e.gg d b⟩,fun i d q=>let ⟨l,o,a,b,c,f,g⟩:=h.ow i d q;⟨l,o,a,b,e.nw _ _ f g.nt c,e.hh _ _ f,g.mono e.gg⟩,h.ap,h.tg.mono e.gg⟩
theorem fm.setPu {i:Nat} {d:Da} {v:V} (h:fm K B G H σ ρ) (r:Den K G d v):fm K B G H (σ.set i (some v)) (ρ.set i (.pu d)):=by
 refine ⟨by rw [bq,bq,h.len],fun j d' q=>?_,fun j d' q=>?_,fun j k d1 d2 l hjk q1 q2 s1 s2=>?_,h.tg⟩
 ·by_cases e:i=j
  ·subst e
   have hi:i<ρ.length:=by
    have:=(al.mp q).1;rwa [bq] at this
   rw [aA hi] at q
   cases q
   exact ⟨v,aA (by rw [h.len];exact hi),r⟩
  ·rw [aE e] at q ⊢;exact h.pu j d' q
 ·by_cases e:i=j
  ·subst e
   have hi:i<ρ.length:=by
    have:=(al.mp q).1;rwa [bq] at this
   rw [aA hi] at q
   cases q
  ·rw [aE e] at q ⊢;exact h.ow j d' q
 ·have nij:∀ m d',(ρ.set i (.pu d))[m]?=some (.ow d')->i≠m:=fun m d' q e=>by
   subst e
   have hi:i<ρ.length:=by
    have:=(al.mp q).1;rwa [bq] at this
   rw [aA hi] at q;cases q
  have n1:=nij _ _ q1
  have n2:=nij _ _ q2
  rw [aE n1] at q1 s1
  rw [aE n2] at q2 s2
  exact h.ap j k d1 d2 l hjk q1 q2 s1 s2
theorem fm.setOw {i:Nat} {d:Da} {l:Addr} {o:HO} (h:fm K B G H σ ρ) (nb:B l=none) (ng:G l=none) (q:H l=some o) (r:Holds K G d o)
 (fresh:∀ (j:Nat) (d':Da),j≠i->ρ[j]?=some (.ow d')->σ[j]?≠some (some (.ref l))):fm K B G H (σ.set i (some (.ref l))) (ρ.set i (.ow d)):=by
 refine ⟨by rw [bq,bq,h.len],fun j d' q=>?_,fun j d' q'=>?_,fun j k d1 d2 l' hjk q1 q2 s1 s2=>?_,h.tg⟩
 ·by_cases e:i=j
  ·subst e
   have hi:i<ρ.length:=by
    have:=(al.mp q).1;rwa [bq] at this
   rw [aA hi] at q;cases q
  ·rw [aE e] at q ⊢;exact h.pu j d' q
 ·by_cases e:i=j
  ·subst e
   have hi:i<ρ.length:=by
    have:=(al.mp q').1;rwa [bq] at this
   rw [aA hi] at q'
   cases q'
   exact ⟨l,o,aA (by rw [h.len];exact hi),nb,ng,q,r⟩
  ·rw [aE e] at q' ⊢;exact h.ow j d' q'
 ·by_cases e1:i=j
  ·subst e1
   have hi:i<ρ.length:=by
    have:=(al.mp q1).1;rwa [bq] at this
   rw [aA (by rw [h.len];exact hi)] at s1
   cases s1
   rw [aE hjk] at q2 s2
   exact fresh k d2 (Ne.symm hjk) q2 s2
  ·by_cases e2:i=k
   ·subst e2
    have hi:i<ρ.length:=by
     have:=(al.mp q2).1;rwa [bq] at this
    rw [aA (by rw [h.len];exact hi)] at s2
    cases s2
    rw [aE e1] at q1 s1
    exact fresh j d1 (Ne.symm e1) q1 s1
   ·rw [aE e1] at q1 s1
    rw [aE e2] at q2 s2
    exact h.ap j k d1 d2 l' hjk q1 q2 s1 s2
theorem fm.mut {i:Nat} {d d':Da} {l:Addr} {o':HO} (h:fm K B G H σ ρ) (e:ρ[i]?=some (.ow d)) (s:σ[i]?=some (some (.ref l))) (r:Holds K G d' o'):fm K B G (upd H l o') σ (ρ.set i (.ow d')):=by
 have hi:i<ρ.length:=(al.mp e).1
 refine ⟨by rw [bq,h.len],fun j d1 q=>?_,fun j d1 q=>?_,fun j k d1 d2 l' hjk q1 q2 s1 s2=>?_,h.tg⟩
 ·by_cases ej:i=j
  ·subst ej;rw [aA hi] at q;cases q
  ·rw [aE ej] at q;exact h.pu j d1 q
 ·by_cases ej:i=j
  ·subst ej
   rw [aA hi] at q;cases q
   obtain ⟨l0,o,a,b,c,f,g⟩:=h.ow i d e
   rw [s] at a;cases a
   exact ⟨l,o',s,b,c,aL,r⟩
  ·rw [aE ej] at q
   obtain ⟨l0,o,a,b,c,f,g⟩:=h.ow j d1 q
   refine ⟨l0,o,a,b,c,?_,g⟩
   have ne:l0≠l:=fun z=>by subst z;exact h.ap i j d d1 l0 ej e q s a
   rw [aK ne];exact f
 ·have back:∀ (m:Nat) (d0:Da),(ρ.set i (.ow d'))[m]?=some (Sl.ow d0)->∃ d1,ρ[m]?=some (Sl.ow d1):=fun m d0 q=>by
   by_cases em:i=m
   ·subst em;exact ⟨d,e⟩
   ·rw [aE em] at q;exact ⟨d0,q⟩
  obtain ⟨x1,y1⟩:=back _ _ q1
  obtain ⟨x2,y2⟩:=back _ _ q2
  exact h.ap j k x1 x2 l' hjk y1 y2 s1 s2
theorem iF {G H:Hp} {l:Addr} {o:HO} (s:bQ G H) (g:G l=none):bQ G (upd H l o):=fun b u e=>by rw [aK (bu e g)];exact s b u e
theorem Ext.mut {G0 B G H:Hp} {l:Addr} {o:HO} (e:Ext G0 B G H) (nb:B l=none) (ng:G l=none):Ext G0 B G (upd H l o) :=
 ⟨iF e.hh nb,e.gg,iF e.gh ng,e.nw⟩
def frz (i:Nat) (ρ:Rho):Rho:=match ρ[i]? with
 | some (.ow (.lst ds))=>ρ.set i (.pu (.lst ds))
 | _=>ρ
theorem fm.frz {G0:Hp} (i:Nat) (e:Ext G0 B G H) (h:fm K B G H σ ρ):∃ G',Ext G0 B G' H/\bQ G G'/\fm K B G' H σ (Ry.frz i ρ):=by
 unfold Ry.frz
 split
 ·rename_i ds q
  obtain ⟨l,o,a,nb,ng,f,g⟩:=h.ow i (.lst ds) q
  have hi:i<ρ.length:=(al.mp q).1
  have sG:bQ G (upd G l o):=bB ng
  refine ⟨upd G l o,⟨e.hh,e.gg.trans sG,fun b u z=>?_,fun b u z t w=>by rw [aK (bu z nb)];exact e.nw b u z t w⟩,sG,by rw [bq,h.len],fun j d1 q1=>?_,fun j d1 q1=>?_,fun j k d1 d2 l' hjk q1 q2 s1 s2=>?_,h.tg.mono sG⟩
  ·by_cases hb:b=l
   ·subst hb;rw [aL] at z;rw [<- z];exact f
   ·rw [aK hb] at z;exact e.gh b u z
  ·by_cases ej:i=j
   ·subst ej
    rw [aA hi] at q1;cases q1
    exact ⟨_,a,(g.mono sG).den aL rfl⟩
   ·rw [aE ej] at q1
    obtain ⟨v,x,y⟩:=h.pu j d1 q1
    exact ⟨v,x,Den.mono sG d1 y⟩
  ·by_cases ej:i=j
   ·subst ej;rw [aA hi] at q1;cases q1
   ·rw [aE ej] at q1
    obtain ⟨l0,o0,x,y,z,f0,g0⟩:=h.ow j d1 q1
    refine ⟨l0,o0,x,y,?_,f0,g0.mono sG⟩
    have ne:l0≠l:=fun w=>by subst w;exact h.ap i j (.lst ds) d1 l0 ej q q1 a x
    rw [aK ne];exact z
  ·have back:∀ (m:Nat) (d0:Da),(ρ.set i (.pu (.lst ds)))[m]?=some (Sl.ow d0)->ρ[m]?=some (Sl.ow d0):=fun m d0 q=>by
    by_cases em:i=m
    ·subst em;rw [aA hi] at q;cases q
    ·rw [aE em] at q;exact q
   exact h.ap j k d1 d2 l' hjk (back _ _ q1) (back _ _ q2) s1 s2
 ·exact ⟨G,e,bQ.refl _,h⟩
end
def tX (K:PySem.W.Frag) (f:Rho->Option Rv):TE:=fun σ H Q=>∃ B G ρ r,bQ G H/\bQ B H/\fm K B G H σ ρ/\f ρ=some r/\∀ v G' H',Ext G H G' H'->eu K B H G' H' r v->Q v H'
abbrev PX (X:Cx) (e:Expr) (f:Rho->Option Rv):Prop:=PE X e (tX X.K f)
def tXT (K:PySem.W.Frag) (f:Rho->Option Bool):TT:=fun σ H Q=>∃ B G ρ b,bQ G H/\bQ B H/\fm K B G H σ ρ/\f ρ=some b/\∀ G' H',Ext G H G' H'->Q b H'
abbrev PXT (X:Cx) (e:Expr) (f:Rho->Option Bool):Prop:=PT X e (tXT X.K f)
abbrev PXW (X:Cx) (e:Expr) (f:Rho->Option Bool):Prop:=PW X e (tXT X.K f)
def du (K:PySem.W.Frag) (B H0 G H:Hp):List Rv->List V->Prop
 | [],vs=>vs=[]
 | r::rs,vs=>∃ v r',vs=v::r'/\eu K B H0 G H r v/\du K B H0 G H rs r'
def tXA (K:PySem.W.Frag) (f:Rho->Option (List Rv)):TA:=fun σ H Q=>∃ B G ρ rs,bQ G H/\bQ B H/\fm K B G H σ ρ/\f ρ=some rs/\∀ vs G' H',Ext G H G' H'->du K B H G' H' rs vs->Q vs H'
abbrev PXA (X:Cx) (es:List Expr) (f:Rho->Option (List Rv)):Prop:=PA X es (tXA X.K f)
theorem PE.imp {X:Cx} {e:Expr} {t t':TE} (h:PE X e t) (i:∀ σ H Q,t' σ H Q->t σ H Q):PE X e t':=fun pins s σ H Q I q=>h pins s σ H Q I (i σ H Q q)
theorem PT.imp {X:Cx} {e:Expr} {t t':TT} (h:PT X e t) (i:∀ σ H Q,t' σ H Q->t σ H Q):PT X e t':=fun pins s σ H Q I q=>h pins s σ H Q I (i σ H Q q)
theorem PW.imp {X:Cx} {e:Expr} {t t':TT} (h:PW X e t) (i:∀ σ H Q,t' σ H Q->t σ H Q):PW X e t':=fun wh pins s σ H Q I q=>h wh pins s σ H Q I (i σ H Q q)
theorem PA.imp {X:Cx} {es:List Expr} {t t':TA} (h:PA X es t) (i:∀ σ H Q,t' σ H Q->t σ H Q):PA X es t':=fun pos pins s σ H Q I q=>h pos pins s σ H Q I (i σ H Q q)
theorem PS.imp {X:Cx} {st:Stmt} {t t':TS} (h:PS X st t) (i:∀ D σ H,t' D σ H->t D σ H):PS X st t':=fun pins s σ H D I q=>h pins s σ H D I (i D σ H q)
theorem PSs.imp {X:Cx} {st:List Stmt} {t t':TS} (h:PSs X st t) (i:∀ D σ H,t' D σ H->t D σ H):PSs X st t':=fun pins s σ H D I q=>h pins s σ H D I (i D σ H q)
section
variable {K:PySem.W.Frag} {B H0 H1 G H G' H':Hp}
theorem du.base:∀ {rs:List Rv} {vs:List V},du K B H1 G H rs vs->bQ H0 H1->du K B H0 G H rs vs
 | [],_,h,_=>h
 | r::rs,_,h,e=>by obtain ⟨v,r',rfl,a,b⟩:=h;exact ⟨v,r',rfl,a.base e,du.base b e⟩
def gI:List Rv->Option (List Da)
 | []=>some []
 | r::rs=>if cD r=true then (gI rs).map (r.2::·) else none
theorem du.pure {G0:Hp}:∀ {rs:List Rv} {vs:List V} {ds:List Da} {G:Hp},Ext G0 H0 G H->du K B H0 G H rs vs->gI rs=some ds->∃ G',Ext G0 H0 G' H/\bQ G G'/\bP K G' ds vs
 | [],_,_,G,e,h,q=>by cases (show _=_ from h);cases q;exact ⟨G,e,bQ.refl _,rfl⟩
 | (k,d)::rs,_,ds,G,e,h,q=>by
   obtain ⟨v,r',rfl,a,b⟩:=h
   unfold gI at q
   by_cases hk:cD (k,d)=true
   case neg=>rw [if_neg hk] at q;cases q
   case pos =>
    rw [if_pos hk] at q
    cases q':gI rs with
    | none=>rw [q'] at q;cases q
    | some ds' =>
      rw [q'] at q
      cases q
      obtain ⟨G1,e1,s1,b1⟩:=du.pure e b q'
      have go:∃ G',Ext G0 H0 G' H/\bQ G1 G'/\Den K G' d v:=by
       cases k with
       | pu=>exact ⟨G1,e1,bQ.refl _,Den.mono s1 d a⟩
       | bo=>cases hk
       | fr =>
         have nd:jB d=false:=by simpa [cD] using hk
         obtain ⟨l,o,rfl,n,g,qq,r⟩:=a
         cases g1:G1 l with
         | some o' =>
           have:=e1.gh l o' g1
           rw [qq] at this;cases this
           exact ⟨G1,e1,bQ.refl _,(r.mono s1).den g1 nd⟩
         | none =>
           refine ⟨upd G1 l o,⟨e1.hh,e1.gg.trans (bB g1),fun b u z=>?_,fun b u z t w=>?_⟩,bB g1,(r.mono (s1.trans (bB g1))).den aL nd⟩
           ·by_cases hb:b=l
            ·subst hb;rw [aL] at z;rw [<- z];exact qq
            ·rw [aK hb] at z;exact e1.gh b u z
           ·rw [aK (bu z n)];exact e1.nw b u z t w
      obtain ⟨G2,e2,s2,a2⟩:=go
      exact ⟨G2,e2,s1.trans s2,v,r',rfl,a2,bP.mono s2 ds' b1⟩
end
section
variable {X:Cx}
def aQ (i:Nat):Rho->Option Rv:=fun ρ=>match ρ[i]? with
 | some (.pu d)=>some (.pu,d)
 | some (.ow d)=>some (.bo,d)
 | _=>none
theorem ju (i:Nat) {x:Str} {pos:Pos} (hN:X.N[i]?=some x:=by rfl) (hv:Vis X.env.scope x:=by first | exact Or.inl rfl | exact Or.inr (Or.inl rfl) | exact Or.inr (Or.inr rfl)) (hd:(x == ("__debug__" : Str))=false:=by decide)
 (hcd:(x == ("__classdict__" : Str))=false:=by decide):PX X (.Name x pos) (aQ i):=by
 refine PE.imp (qB hN hv hd hcd) fun σ H Q ⟨B,G,ρ,r,sg,sb,st,e,k⟩=>?_
 unfold aQ at e
 split at e
 ·rename_i d q
  cases e
  obtain ⟨v,a,b⟩:=st.pu i d q
  exact ⟨v,a,k v G H (Ext.refl sg) b⟩
 ·rename_i d q
  cases e
  obtain ⟨l,o,a,nb,ng,f,g⟩:=st.ow i d q
  exact ⟨_,a,k _ G H (Ext.refl sg) ⟨l,o,rfl,nb,ng,f,g⟩⟩
 ·cases e
def xC (d:Da):Rho->Option Rv:=fun _=>some (.pu,d)
theorem sP {i j pos}:PX X (.Constant (.int i) j pos) (xC (.int i)):=PE.imp Ba fun σ H Q ⟨B,G,ρ,r,sg,sb,st,e,k⟩=>by cases e;exact k _ G H (Ext.refl sg) rfl
theorem CP {b j pos}:PX X (.Constant (.bool b) j pos) (xC (.bl b)):=PE.imp Br fun σ H Q ⟨B,G,ρ,r,sg,sb,st,e,k⟩=>by cases e;exact k _ G H (Ext.refl sg) rfl
def x2 (op:Rv->Rv->Option Rv) (fa fb:Rho->Option Rv):Rho->Option Rv:=fun ρ=>match fa ρ with
 | none=>none
 | some a=>match fb ρ with
   | none=>none
   | some b=>op a b
def Op2 (K:PySem.W.Frag) (r:R2) (op:Rv->Rv->Option Rv):Prop:=∀ (B H0 G H:Hp) (a b c:Rv) (x y:V) (Q:VK),bQ G H->eu K B H0 G H a x->eu K B H0 G H b y->op a b=some c ->
 (∀ v G' H',Ext G H G' H'->eu K B H G' H' c v->Q v H')->r x y H Q
theorem B2 {K:PySem.W.Frag} {r:R2} {op:Rv->Rv->Option Rv} {fa fb:Rho->Option Rv} (h:Op2 K r op) {σ:St} {H:Hp} {Q:VK} (q:tX K (x2 op fa fb) σ H Q):tOp r (tX K fa) (tX K fb) σ H Q:=by
 obtain ⟨B,G,ρ,c,sg,sb,st,e,k⟩:=q
 unfold x2 at e
 split at e
 ·cases e
 ·rename_i a ea
  split at e
  ·cases e
  ·rename_i b eb
   refine ⟨B,G,ρ,a,sg,sb,st,ea,fun x G1 H1 E1 ra=>⟨B,G1,ρ,b,E1.gh,sb.trans E1.hh,st.ext E1,eb,fun y G2 H2 E2 rb=>?_⟩⟩
   exact h B H G2 H2 a b c x y _ E2.gh (ra.ext E2) (rb.base E1.hh) e fun v G3 H3 E3 rc=>k v G3 H3 ((E1.trans E2).trans E3) (rc.base (E1.hh.trans E2.hh))
theorem wz {a b:Expr} {pos:Pos} {o:Operator} {r:R2} {op:Rv->Rv->Option Rv} {fa fb:Rho->Option Rv} (ho:OpR X (binaryOp o) r) (h:Op2 X.K r op) (ha:PX X a fa) (hb:PX X b fb):PX X (.BinOp a o b pos) (x2 op fa fb) :=
 PE.imp (CA ho ha hb) fun _ _ _ q=>B2 h q
theorem AR {a b:Expr} {pos:Pos} {o:CmpOp} {r:R2} {op:Rv->Rv->Option Rv} {fa fb:Rho->Option Rv} (ho:OpR X (compareOp o) r) (h:Op2 X.K r op) (ha:PX X a fa) (hb:PX X b fb) (hm:behindInMarks o b=false):PX X (.Compare a [o] [b] pos) (x2 op fa fb) :=
 PE.imp (yy ho ha hb hm) fun _ _ _ q=>B2 h q
theorem Op2.or {K:PySem.W.Frag} {r r':R2} {op op':Rv->Rv->Option Rv} (h:Op2 K r op) (h':Op2 K r' op'):Op2 K (fun x y H Q=>r x y H Q\/r' x y H Q) (fun a b=>(op a b).or (op' a b)):=by
 intro B H0 G H a b c x y Q sg ra rb e k
 dsimp only at e
 cases q:op a b with
 | some z=>rw [q] at e;exact .inl (h B H0 G H a b c x y Q sg ra rb (by rw [q];exact e) k)
 | none=>rw [q] at e;exact .inr (h' B H0 G H a b c x y Q sg ra rb e k)
end
end Ry
namespace Ry
open PySem PySem.Spec PyProof.Rows L2
def oI (c:Int->Int->Bool) (g:Int->Int->Int):Rv->Rv->Option Rv
 | (_,.int i),(_,.int j)=>if c i j=true then some (.pu,.int (g i j)) else none
 | _,_=>none
theorem uu {K:PySem.W.Frag} {C:Int->Int->Prop} {c:Int->Int->Bool} {g:Int->Int->Int} (h:∀ i j,c i j=true->C i j):Op2 K (rI C fun i j=>.int (g i j)) (oI c g):=by
 rintro B H0 G H ⟨ka,a⟩ ⟨kb,b⟩ r x y Q sg ra rb e k
 cases a with
 | int i =>
   cases b with
   | int j =>
     have e:(if c i j=true then some ((Kd.pu,Da.int (g i j)):Rv) else none)=some r:=e
     split at e
     ·rename_i hc
      cases e
      cases ra.int;cases rb.int
      exact ⟨i,j,rfl,rfl,h i j hc,k _ G H (Ext.refl sg) rfl⟩
     ·cases e
   | _=>cases e
 | _=>cases e
theorem qL {K:PySem.W.Frag} {g:Int->Int->Int}:Op2 K (rI0 fun i j=>.int (g i j)) (oI (fun _ _=>true) g):=by
 rintro B H0 G H ⟨ka,a⟩ ⟨kb,b⟩ r x y Q sg ra rb e k
 cases a with
 | int i =>
   cases b with
   | int j =>
     cases e
     cases ra.int;cases rb.int
     exact ⟨i,j,rfl,rfl,k _ G H (Ext.refl sg) rfl⟩
   | _=>cases e
 | _=>cases e
def oB (g:Int->Int->Bool):Rv->Rv->Option Rv
 | (_,.int i),(_,.int j)=>some (.pu,.bl (g i j))
 | _,_=>none
theorem pF {K:PySem.W.Frag} {g:Int->Int->Bool}:Op2 K (rI0 fun i j=>.bl (g i j)) (oB g):=by
 rintro B H0 G H ⟨ka,a⟩ ⟨kb,b⟩ r x y Q sg ra rb e k
 cases a with
 | int i =>
   cases b with
   | int j =>
     cases e
     cases ra.int;cases rb.int
     exact ⟨i,j,rfl,rfl,k _ G H (Ext.refl sg) rfl⟩
   | _=>cases e
 | _=>cases e
def A0 (K:PySem.W.Frag):R2:=fun x y H Q=>∃ a b ys,x=.ref a/\y=.ref b/\SqT K H a []/\SqT K H b ys/\Q (.ref b) H
theorem yI {X:Cx}:OpR X (binaryOp .Add) (A0 X.K):=by
 intro pins s σ H x y v u Q I rx ry h
 obtain ⟨a,b,ys,rfl,rfl,ha,hb,q⟩:=h
 cases rx
 cases ry
 obtain ⟨its,r1,p1,_⟩:=I.tuple ha
 obtain ⟨its2,r2,p2,_⟩:=I.tuple hb
 cases r1
 obtain ⟨⟨cls,dd,data,sl⟩,ho,hc,n,hd⟩:=id p1
 obtain ⟨⟨cls2,dd2,data2,sl2⟩,ho2,hc2,n2,hd2⟩:=id p2
 simp only at hc hd hc2 hd2
 subst hc hd hc2 hd2
 exact concat_meets ⟨_,ho,rfl⟩ ⟨_,ho2,rfl⟩ noFill_tuple_add seq_tuple_add PySem.F.slot_tuple_add PySem.F.entry_tuple_add (PySem.F.args_tuple_add_2 _ _)
  (tuple_addW0 a b ([]:List Value).toArray its2.toArray n n2 dd dd2 sl sl2 (by simp)) ⟨ho,ho2,⟨.ref b,H,I,rfl,q⟩⟩
def w8:Rv->Rv->Option Rv
 | (_,.tup xs),(_,.tup ys)=>if xs.length+ys.length<=1000000 then some (.pu,.tup (xs++ys)) else none
 | _,_=>none
theorem wc {K:PySem.W.Frag}:Op2 K (fun x y H Q=>AE K x y H Q\/A0 K x y H Q) w8:=by
 rintro B H0 G H ⟨ka,a⟩ ⟨kb,b⟩ r x y Q sg ra rb e k
 cases a with
 | tup xs =>
   cases b with
   | tup ys =>
   have e:(if xs.length+ys.length<=1000000 then some ((Kd.pu,Da.tup (xs++ys)):Rv) else none)=some r:=e
   split at e
   ·rename_i hz
    cases e
    obtain ⟨p,vs,rfl,q1,d1,g1⟩:=ra.tup sg
    obtain ⟨p',ws,rfl,q2,d2,g2⟩:=rb.tup sg
    have l1:=d1.length
    have l2:=d2.length
    have hs:sizeLine=16777216:=sizeLine_eq
    by_cases hv:vs=[]
    ·subst hv
     refine .inr ⟨p,p',ws,rfl,rfl,SqT.of q1,SqT.of q2,k _ G H (Ext.refl sg) ?_⟩
     have:xs=[]:=r0.mp (by rw [<- l1];rfl)
     subst this
     exact ⟨p',ws,rfl,g2,d2⟩
    ·refine .inl ⟨p,p',vs,ws,rfl,rfl,SqT.of q1,SqT.of q2,hv,by lia,fun hw=>?_,fun hw l hl=>?_⟩
     ·subst hw
      refine k _ G H (Ext.refl sg) ?_
      have:ys=[]:=r0.mp (by rw [<- l2];rfl)
      subst this
      rw [ce]
      exact ⟨p,vs,rfl,g1,d1⟩
     ·refine k _ _ _ (Ext.new sg hl) ⟨l,_,rfl,aL,?_⟩
      exact bP.mono (bB (sg.free hl)) _ (bP.append d1 d2)
   ·cases e
   | _=>cases e
 | _=>cases e
def Bj (K:PySem.W.Frag):R2:=fun x y H Q=>∃ l b xs zs,x=.ref l/\y=.ref b/\SqL K H l xs/\SqL K H b zs/\xs.length+zs.length<=sizeLine/\∀ p,H p=none->Q (.ref p) (upd H p (.lst (xs++zs)))
theorem zO {X:Cx}:OpR X (binaryOp .Add) (Bj X.K):=by
 intro pins s σ H x y v u Q I rx ry h
 obtain ⟨l,b,xs,zs,rfl,rfl,hH,hB,hz,q⟩:=h
 cases rx
 cases ry
 obtain ⟨its,r,⟨⟨cls,dd,data,sl⟩,n,ho,hc,hd,hs⟩,z⟩:=I.list hH
 obtain ⟨its2,r2,⟨⟨cls2,dd2,data2,sl2⟩,n2,ho2,hc2,hd2,hs2⟩,z2⟩:=I.list hB
 simp only at hc hs hc2 hs2
 subst hc hs hc2 hs2
 have l1:=r.length
 have l2:=r2.length
 have ea:its.toArray++its2.toArray=(its++its2).toArray:=by simp
 refine concat_meets ⟨_,ho,rfl⟩ ⟨_,ho2,rfl⟩ noFill_list_add seq_list_add PySem.F.slot_list_add PySem.F.entry_list_add (PySem.F.args_list_add_2 _ _) (list_addW l b its.toArray its2.toArray n n2 dd dd2 sl sl2 (by rw [aq,aq];lia)) ⟨ho,ho2,?_⟩
 rw [ea]
 exact ⟨.ref _,_,I.lnew (t':=s.toks) (r.append r2) (by rw [aF];lia),rfl,q _ I.fresh⟩
def w6:Rv->Rv->Option Rv
 | (_,.lst xs),(_,.lst ys)=>if xs.length+ys.length<=1000000 then some (.fr,.lst (xs++ys)) else none
 | _,_=>none
theorem wk {K:PySem.W.Frag}:Op2 K (Bj K) w6:=by
 rintro B H0 G H ⟨ka,a⟩ ⟨kb,b⟩ r x y Q sg ra rb e k
 have hs:sizeLine=16777216:=sizeLine_eq
 cases a with
 | lst xs =>
   cases b with
   | lst ys =>
   have e:(if xs.length+ys.length<=1000000 then some ((Kd.fr,Da.lst (xs++ys)):Rv) else none)=some r:=e
   split at e
   ·rename_i hz
    cases e
    obtain ⟨l1,vs,rfl,q1,d1⟩:=ra.lst sg
    obtain ⟨l2,ws,rfl,q2,d2⟩:=rb.lst sg
    have e1:=d1.length
    have e2:=d2.length
    refine ⟨l1,l2,vs,ws,rfl,rfl,q1,q2,by lia,fun p hp=>k _ G _ (Ext.own sg hp) ?_⟩
    exact ⟨p,_,rfl,hp,sg.free hp,aL,_,rfl,bP.append d1 d2⟩
   ·cases e
   | _=>cases e
 | _=>cases e
def mz:Rv->Rv->Option Rv:=fun a b=>(oI (fun _ _=>true) (·+·) a b).or ((w8 a b).or (w6 a b))
section
variable {X:Cx} {a b:Expr} {pos:Pos} {fa fb:Rho->Option Rv}
theorem xl (ha:PX X a fa) (hb:PX X b fb):PX X (.BinOp a .Add b pos) (x2 mz fa fb) :=
 wz (At.or ((ye.or yI).or zO)) (qL.or (wc.or wk)) ha hb
theorem xh (ha:PX X a fa) (hb:PX X b fb):PX X (.BinOp a .Sub b pos) (x2 (oI (fun _ _=>true) (·-·)) fa fb):=wz A2 qL ha hb
def nS (i j:Int):Bool:=(decide (-(2 ^ 64)<i)&&decide (i<2 ^ 64))||(decide (-(2 ^ 64)<j)&&decide (j<2 ^ 64))
theorem ze (i j:Int) (h:nS i j=true):Cm i j:=by
 unfold nS at h
 rcases eQ _ _▸h with h | h
 ·rw [aP] at h;exact .inl ⟨of_decide_eq_true h.1,of_decide_eq_true h.2⟩
 ·rw [aP] at h;exact .inr ⟨of_decide_eq_true h.1,of_decide_eq_true h.2⟩
theorem xD (ha:PX X a fa) (hb:PX X b fb):PX X (.BinOp a .Mult b pos) (x2 (oI nS (·*·)) fa fb):=wz BB (uu ze) ha hb
theorem Bo (ha:PX X a fa) (hb:PX X b fb):PX X (.BinOp a .Mod b pos) (x2 (oI (fun _ j=>decide (0<j)) (·%·)) fa fb):=wz Ap (uu fun _ _ h=>of_decide_eq_true h) ha hb
end
def fj:List Da->Option (List Int)
 | []=>some []
 | .int i::r=>(fj r).map (i::·)
 | _=>none
theorem eI:∀ {ds:List Da} {ns:List Int},fj ds=some ns->ds=ns.map Da.int
 | [],ns,h=>by cases h;rfl
 | d::r,ns,h=>by
   cases d with
   | int i =>
     have h:(fj r).map (i::·)=some ns:=h
     cases q:fj r with
     | none=>rw [q] at h;cases h
     | some ms=>rw [q] at h;cases h;rw [eI q];rfl
   | _=>cases h
def Dz:Rv->Rv->Option Rv
 | (_,.tup xs),(_,.tup ys)=>match fj xs,fj ys with
   | some ns,some ms=>some (.pu,.bl (HT.lexLt ns ms))
   | _,_=>none
 | _,_=>none
theorem x6 {K:PySem.W.Frag}:Op2 K (DE K) Dz:=by
 rintro B H0 G H ⟨ka,a⟩ ⟨kb,b⟩ r x y Q sg ra rb e k
 cases a with
 | tup xs =>
   cases b with
   | tup ys =>
   have e:(match fj xs,fj ys with
    | some ns,some ms=>some ((Kd.pu,Da.bl (HT.lexLt ns ms)):Rv)
    | _,_=>none)=some r:=e
   split at e
   ·rename_i ns ms e1 e2
    cases e
    obtain ⟨p,vs,rfl,q1,d1,_⟩:=ra.tup sg
    obtain ⟨p',ws,rfl,q2,d2,_⟩:=rb.tup sg
    rw [eI e1] at d1
    rw [eI e2] at d2
    cases bP.ints.mp d1
    cases bP.ints.mp d2
    exact ⟨p,p',ns,ms,rfl,rfl,SqT.of q1,SqT.of q2,k _ G H (Ext.refl sg) rfl⟩
   ·cases e
   | _=>cases e
 | _=>cases e
def oLt:Rv->Rv->Option Rv:=fun a b=>(oB (fun i j=>decide (i<j)) a b).or (Dz a b)
mutual
def toP:Da->PyData
 | .non=>.none
 | .bl b=>.bool b
 | .int i=>.int i
 | .str x=>.str x
 | .tup ds=>.tuple (i8 ds)
 | .lst ds=>.list (i8 ds)
 | .dK _ _=>.dict []
 | .dT _ _=>.dict []
def i8:List Da->List PyData
 | []=>[]
 | d::ds=>toP d::i8 ds
end
section
variable {X:Cx} {pins:List (Addr×Obj)} {σ:St} {H:Hp} {s:Shared}
mutual
theorem d5 (I:Inv X pins σ H s):∀ (d:Da) (v:V) (u:Value),Den X.K H d v->dB v u->(toP d).canLay0=true->∃ as,Reads s.heap u (toP d) as
 | .non,v,u,h,r,_=>by cases (show v=_ from h);cases (show u=_ from r);exact ⟨_,.none⟩
 | .bl b,v,u,h,r,_=>by cases (show v=_ from h);cases (show u=_ from r);exact ⟨_,.bool b⟩
 | .int i,v,u,h,r,_=>by cases (show v=_ from h);obtain ⟨t,rfl⟩:=(show ∃ t,u=Value.int i t from r);exact ⟨_,.int i t⟩
 | .str x,v,u,h,r,_=>by cases (show v=_ from h);obtain ⟨t,rfl⟩:=(show ∃ t,u=Value.str x t from r);exact ⟨_,.str x t⟩
 | .tup ds,v,u,h,r,c=>by
   obtain ⟨a,xs,rfl,q,dl⟩:=h
   cases (show u=Value.ref a from r)
   obtain ⟨its,rv,⟨o,ho,hc,n,hd⟩,_⟩:=I.tuple (SqT.of q)
   obtain ⟨as,ra⟩:=readsAll_of I ds xs its dl rv (by simpa [toP,PyData.canLay0] using c)
   exact ⟨_,.tuple ho hc hd (by simpa using ra)⟩
 | .lst ds,v,u,h,r,c=>by
   obtain ⟨a,xs,rfl,q,dl⟩:=h
   cases (show u=Value.ref a from r)
   obtain ⟨its,rv,pl,_⟩:=I.list q
   obtain ⟨o,ho,hc,n,hd⟩:=pl.isList
   obtain ⟨as,ra⟩:=readsAll_of I ds xs its dl rv (by simpa [toP,PyData.canLay0] using c)
   exact ⟨_,.list ho hc hd (by simpa using ra)⟩
 | .dK _ _,_,_,_,_,c=>by simp [toP,PyData.canLay0] at c
 | .dT _ _,_,_,_,_,c=>by simp [toP,PyData.canLay0] at c
theorem readsAll_of (I:Inv X pins σ H s):∀ (ds:List Da) (xs:List V) (us:List Value),bP X.K H ds xs->cq xs us->PyData.canLayAll0 (i8 ds)=true->∃ as,ReadsAll s.heap us (i8 ds) as
 | [],xs,us,h,r,_=>by cases (show xs=_ from h);cases r;exact ⟨_,.nil⟩
 | d::ds,xs,us,h,r,c=>by
   obtain ⟨x,xr,rfl,h1,h2⟩:=h
   cases r with
   | cons r1 r2 =>
     have c':(toP d).canLay0=true/\PyData.canLayAll0 (i8 ds)=true:=by simpa [i8,PyData.canLayAll0] using c
     obtain ⟨as,a1⟩:=d5 I d _ _ h1 r1 c'.1
     obtain ⟨bs,a2⟩:=readsAll_of I ds _ _ h2 r2 c'.2
     exact ⟨_,.cons a1 a2⟩
end
end
def zV (d e:Da):Bool:=(toP d).canLay0&&(toP e).canLay0&&decide (min (toP d).depth (toP e).depth<=60)
def eqD (d e:Da):Bool:=PyData.eqv (toP d) (toP e)
def C8 (K:PySem.W.Frag) (neg:Bool):R2:=fun x y H Q=>∃ d e,Den K H d x/\Den K H e y/\zV d e=true/\Q (.bl (if neg then !eqD d e else eqD d e)) H
def oEq (neg:Bool):Rv->Rv->Option Rv:=fun a b=>if zV a.2 b.2=true then some (.pu,.bl (if neg then !eqD a.2 b.2 else eqD a.2 b.2)) else none
theorem qc {d:Da} (h:(toP d).canLay0=true):jB d=false:=by
 cases d<;>first | rfl | (simp [toP,PyData.canLay0] at h)
theorem xk {K:PySem.W.Frag} {neg:Bool}:Op2 K (C8 K neg) (oEq neg):=by
 rintro B H0 G H a b r x y Q sg ra rb e k
 unfold oEq at e
 split at e
 ·rename_i h
  cases e
  have h2:=h
  unfold zV at h2
  rw [aP,aP] at h2
  exact ⟨a.2,b.2,ra.den sg (qc h2.1.1),rb.den sg (qc h2.1.2),h,k _ G H (Ext.refl sg) rfl⟩
 ·cases e
theorem sU {d e:Da} (h:zV d e=true):(toP d).canLay0=true/\(toP e).canLay0=true/\min (toP d).depth (toP e).depth<=60:=by
 unfold zV at h
 rw [aP,aP] at h
 exact ⟨h.1.1,h.1.2,of_decide_eq_true h.2⟩
section
variable {X:Cx}
theorem Bc (hu:X.A.units+64<cLine):OpR X (compareOp .Eq) (C8 X.K false):=by
 intro pins s σ H x y v u Q I rx ry h
 obtain ⟨d,e,hd,he,ok,q⟩:=h
 obtain ⟨c1,c2,c3⟩:=sU ok
 obtain ⟨as,r1⟩:=d5 I d x v hd rx c1
 obtain ⟨bs,r2⟩:=d5 I e y u he ry c2
 exact SeqAt.compareEq_reads r1 r2 c1 c2 (by lia) ⟨.bl _,H,I,rfl,q⟩
theorem BU (hu:X.A.units+64<cLine):OpR X (compareOp .NotEq) (C8 X.K true):=by
 intro pins s σ H x y v u Q I rx ry h
 obtain ⟨d,e,hd,he,ok,q⟩:=h
 obtain ⟨c1,c2,c3⟩:=sU ok
 obtain ⟨as,r1⟩:=d5 I d x v hd rx c1
 obtain ⟨bs,r2⟩:=d5 I e y u he ry c2
 exact SeqAt.compareNe_reads r1 r2 c1 c2 (by lia) ⟨.bl _,H,I,rfl,q⟩
variable {a b:Expr} {pos:Pos} {fa fb:Rho->Option Rv}
end
def uB (d:Da) (ds:List Da):Bool:=(toP d).canLay0&&PyData.canLayAll0 (i8 ds)&&decide (min (PyData.depthAll (i8 ds)) (toP d).depth<=60)
def inD (d:Da) (ds:List Da):Bool:=(i8 ds).any fun y=>PyData.eqv y (toP d)
def De (K:PySem.W.Frag) (neg:Bool):R2:=fun x y H Q=>∃ d ds,Den K H d x/\(Den K H (.tup ds) y\/Den K H (.lst ds) y)/\uB d ds=true/\Q (.bl (if neg then !inD d ds else inD d ds)) H
def zE (neg:Bool):Rv->Rv->Option Rv:=fun a b=>match b.2 with
 | .tup ds=>if uB a.2 ds=true then some (.pu,.bl (if neg then !inD a.2 ds else inD a.2 ds)) else none
 | .lst ds=>if uB a.2 ds=true then some (.pu,.bl (if neg then !inD a.2 ds else inD a.2 ds)) else none
 | _=>none
theorem vd {K:PySem.W.Frag} {neg:Bool}:Op2 K (De K neg) (zE neg):=by
 rintro B H0 G H a b r x y Q sg ra rb e k
 unfold zE at e
 split at e
 ·rename_i ds eb
  split at e
  ·rename_i h
   cases e
   have db:=rb.den sg (by rw [eb];rfl)
   rw [eb] at db
   unfold uB at h
   have h2:=h
   rw [aP,aP] at h2
   exact ⟨a.2,ds,ra.den sg (qc h2.1.1),.inl db,h,k _ G H (Ext.refl sg) rfl⟩
  ·cases e
 ·rename_i ds eb
  split at e
  ·rename_i h
   cases e
   have db:=rb.den sg (by rw [eb];rfl)
   rw [eb] at db
   unfold uB at h
   have h2:=h
   rw [aP,aP] at h2
   exact ⟨a.2,ds,ra.den sg (qc h2.1.1),.inr db,h,k _ G H (Ext.refl sg) rfl⟩
  ·cases e
 ·cases e
section
variable {X:Cx}
theorem t0 {d:Da} {ds:List Da} (h:uB d ds=true):(toP d).canLay0=true/\PyData.canLayAll0 (i8 ds)=true/\min (PyData.depthAll (i8 ds)) (toP d).depth<=60:=by
 unfold uB at h
 rw [aP,aP] at h
 exact ⟨h.1.1,h.1.2,of_decide_eq_true h.2⟩
theorem Bk (hu:X.A.units+64<cLine):OpR X (compareOp .In) (De X.K false):=by
 intro pins s σ H x y v u Q I rx ry h
 obtain ⟨d,ds,hd,he,ok,q⟩:=h
 obtain ⟨c1,c2,c3⟩:=t0 ok
 obtain ⟨as,r1⟩:=d5 I d x v hd rx c1
 rcases he with he | he
 ·obtain ⟨bs,r2⟩:=d5 I _ y u he ry (by simpa [toP,PyData.canLay0] using c2)
  exact SeqAt.in_tuple_reads (by simpa [toP] using r2) r1 c2 c1 (by lia) ⟨.bl _,H,I,rfl,q⟩
 ·obtain ⟨bs,r2⟩:=d5 I _ y u he ry (by simpa [toP,PyData.canLay0] using c2)
  exact SeqAt.in_list_reads (by simpa [toP] using r2) r1 c2 c1 (by lia) ⟨.bl _,H,I,rfl,q⟩
theorem yN (hu:X.A.units+64<cLine):OpR X (compareOp .NotIn) (De X.K true):=by
 intro pins s σ H x y v u Q I rx ry h
 obtain ⟨d,ds,hd,he,ok,q⟩:=h
 obtain ⟨c1,c2,c3⟩:=t0 ok
 obtain ⟨as,r1⟩:=d5 I d x v hd rx c1
 rcases he with he | he
 ·obtain ⟨bs,r2⟩:=d5 I _ y u he ry (by simpa [toP,PyData.canLay0] using c2)
  exact SeqAt.notIn_tuple_reads (by simpa [toP] using r2) r1 c2 c1 (by lia) ⟨.bl _,H,I,rfl,q⟩
 ·obtain ⟨bs,r2⟩:=d5 I _ y u he ry (by simpa [toP,PyData.canLay0] using c2)
  exact SeqAt.notIn_list_reads (by simpa [toP] using r2) r1 c2 c1 (by lia) ⟨.bl _,H,I,rfl,q⟩
end
def zj:Da->Option Key
 | .int i=>some (.inl i)
 | .str x=>some (.inr x)
 | _=>none
def kt:List Da->Option (List Key)
 | []=>some []
 | d::r=>match zj d,kt r with
   | some k,some ks=>some (k::ks)
   | _,_=>none
def fW:Key->Da
 | .inl i=>.int i
 | .inr x=>.str x
theorem u8 {d:Da} {k:Key} (e:zj d=some k):jB d=false:=by
 cases d<;>first | rfl | cases e
theorem tR {K:PySem.W.Frag} {G:Hp} {d:Da} {k:Key} {v:V} (e:zj d=some k) (h:Den K G d v):v=kV k:=by
 cases d with
 | int i=>cases e;exact h
 | str x=>cases e;exact h
 | _=>cases e
theorem pJ {K:PySem.W.Frag} {G:Hp}:∀ {ds:List Da} {ks:List Key} {xs:List V},kt ds=some ks->bP K G ds xs->xs=ks.map kV
 | [],ks,xs,e,h=>by cases e;exact h
 | d::r,ks,xs,e,h=>by
   obtain ⟨x,xr,rfl,h1,h2⟩:=h
   unfold kt at e
   split at e
   ·rename_i k ks' e1 e2
    cases e
    rw [tR e1 h1,pJ e2 h2];rfl
   ·cases e
theorem sN {K:PySem.W.Frag} {G:Hp} (k:Key):Den K G (fW k) (kV k):=by
 cases k<;>rfl
def atK {κ:Type} [DecidableEq κ]:List κ->List Da->κ->Option Da
 | k::ks,d::ds,j=>if k=j then some d else atK ks ds j
 | _,_,_=>none
def DL (K:PySem.W.Frag) (G:Hp) (ov:Option V):Option Da->Prop
 | some d=>∃ v,ov=some v/\Den K G d v
 | none=>ov=none
theorem pi {K:PySem.W.Frag} {G:Hp} {κ:Type} [DecidableEq κ]:∀ {kvs:List (κ×V)} {ks:List κ} {ds:List Da} (j:κ),kvs.map (·.1)=ks->bP K G ds (kvs.map (·.2)) ->
 DL K G (kW kvs j) (atK ks ds j)
 | [],ks,ds,j,e,h=>by
   subst e
   cases ds with
   | nil=>rfl
   | cons d ds=>obtain ⟨x,r,e,_⟩:=h;cases e
 | (k,v)::kvs,ks,ds,j,e,h=>by
   subst e
   cases ds with
   | nil=>cases (show (v::kvs.map (·.2))=[] from h)
   | cons d ds =>
     obtain ⟨x,r,ex,h1,h2⟩:=h
     injection ex with e1 e2
     subst e1;subst e2
     have ih:=pi (K:=K) (G:=G) (kvs:=kvs) (ks:=kvs.map (·.1)) (ds:=ds) j rfl h2
     by_cases hk:k=j
     ·have e1:atK (((k,v)::kvs).map (·.1)) (d::ds) j=some d:=by show (if k=j then some d else _)=_;rw [if_pos hk]
      rw [e1]
      exact ⟨v,iG (p:=(k,v)) hk,h1⟩
     ·have e1:atK (((k,v)::kvs).map (·.1)) (d::ds) j=atK (kvs.map (·.1)) ds j:=by show (if k=j then some d else _)=_;rw [if_neg hk]
      rw [e1,iK (p:=(k,v)) hk]
      exact ih
def jv:Da->Da->Option (Option Da)
 | .dK ks ds,k=>match zj k with
   | some j=>some (atK ks ds j)
   | none=>none
 | .dT ks ds,.tup es=>match kt es with
   | some j=>some (atK ks ds j)
   | none=>none
 | _,_=>none
theorem jQ {K:PySem.W.Frag} {B H0 G H:Hp} {a b:Rv} {x y:V} {o:Option Da} (sg:bQ G H) (ra:eu K B H0 G H a x) (rb:eu K B H0 G H b y) (e:jv a.2 b.2=some o) :
 ∃ p ov,x=.ref p/\o8 H p y ov/\DL K G ov o:=by
 obtain ⟨ka,a⟩:=a
 obtain ⟨kb,b⟩:=b
 cases a with
 | dK ks ds =>
   have e:(match zj b with
    | some j=>some (atK ks ds j)
    | none=>none)=some o:=by cases b<;>exact e
   split at e
   ·rename_i j ej
    cases e
    obtain ⟨p,kvs,rfl,q,e1,r⟩:=ra.dK sg
    have ey:y=kV j:=tR ej (rb.den sg (u8 ej))
    refine ⟨p,kW kvs j,rfl,.inl ⟨kvs,j,q,ey,rfl⟩,?_⟩
    exact pi (K:=K) (G:=G) (ks:=ks) (ds:=ds) j e1 r
   ·cases e
 | dT ks ds =>
   cases b with
   | tup es =>
     have e:(match kt es with
      | some j=>some (atK ks ds j)
      | none=>none)=some o:=e
     split at e
     ·rename_i j ej
      cases e
      obtain ⟨p,kvs,rfl,q,e1,r⟩:=ra.dT sg
      obtain ⟨t,xs,rfl,qt,dl,_⟩:=rb.tup sg
      rw [pJ ej dl] at qt
      refine ⟨p,kW kvs j,rfl,.inr ⟨kvs,j,t,q,rfl,qt,rfl⟩,?_⟩
      exact pi (K:=K) (G:=G) (ks:=ks) (ds:=ds) j e1 r
     ·cases e
   | _=>cases e
 | _=>cases e
end Ry
namespace Ry
open PySem PySem.Spec PyProof.Rows L2
def Db (neg:Bool):R2:=fun y x H Q=>∃ a o,x=.ref a/\o8 H a y o/\Q (.bl (if neg then !o.isSome else o.isSome)) H
theorem AY {X:Cx} (hu:X.A.units+1<cLine):OpR X (compareOp .In) (Db false):=by
 intro pins s σ H y x v u Q I ry rx h
 obtain ⟨a,o,rfl,g,q⟩:=h
 cases rx
 exact D2 hu I g ry fun s' I'=>⟨.bl _,H,I',rfl,q⟩
theorem zn {X:Cx} (hu:X.A.units+1<cLine):OpR X (compareOp .NotIn) (Db true):=by
 intro pins s σ H y x v u Q I ry rx h
 obtain ⟨a,o,rfl,g,q⟩:=h
 cases rx
 exact ut hu I g ry fun s' I'=>⟨.bl _,H,I',rfl,q⟩
def uM (neg:Bool):Rv->Rv->Option Rv:=fun a b=>match jv b.2 a.2 with
 | some o=>some (.pu,.bl (if neg then !o.isSome else o.isSome))
 | none=>none
theorem uG {K:PySem.W.Frag} {neg:Bool}:Op2 K (Db neg) (uM neg):=by
 rintro B H0 G H a b r x y Q sg ra rb e k
 unfold uM at e
 split at e
 ·rename_i o eo
  cases e
  obtain ⟨p,ov,rfl,g,m⟩:=jQ sg rb ra eo
  have ei:ov.isSome=o.isSome:=by
   cases o with
   | some d=>obtain ⟨v,rfl,_⟩:=m;rfl
   | none=>cases m;rfl
  refine ⟨p,ov,rfl,g,?_⟩
  rw [ei]
  exact k _ G H (Ext.refl sg) rfl
 ·cases e
def oIn (neg:Bool):Rv->Rv->Option Rv:=fun a b=>(uM neg a b).or (zE neg a b)
section
variable {X:Cx} {a b:Expr} {pos:Pos} {fa fb:Rho->Option Rv}
theorem tD {K:PySem.W.Frag} {G:Hp} {ds:List Da} {xs:List V} {i:Int} {d:Da} (h:bP K G ds xs) (e:atI ds i=some d):∃ v,atI xs i=some v/\Den K G d v:=by
 have hl:=h.length
 unfold atI at e ⊢
 rw [hl]
 cases q:ixN ds.length i with
 | none=>rw [q] at e;cases e
 | some j=>rw [q] at e;exact h.get e
def oIx:Rv->Rv->Option Rv:=fun a b=>match a.2,b.2 with
 | .tup ds,.int i=>(atI ds i).map fun d=>(.pu,d)
 | .lst ds,.int i=>(atI ds i).map fun d=>(.pu,d)
 | _,_=>none
theorem AQ {K:PySem.W.Frag}:Op2 K (fun x y H Q=>Dp K x y H Q\/C0 K x y H Q\/Cw x y H Q) oIx:=by
 rintro B H0 G H ⟨ka,a⟩ ⟨kb,b⟩ r x y Q sg ra rb e k
 unfold oIx at e
 dsimp only at e
 split at e
 ·rename_i ds i
  cases q:atI ds i with
  | none=>rw [q] at e;cases e
  | some d =>
    rw [q] at e
    cases e
    obtain ⟨p,xs,rfl,q1,d1,_⟩:=ra.tup sg
    obtain ⟨v,hv,dv⟩:=tD d1 q
    cases rb.int
    exact .inr (.inl ⟨p,xs,i,v,rfl,rfl,SqT.of q1,hv,k v G H (Ext.refl sg) dv⟩)
 ·rename_i ds i
  cases q:atI ds i with
  | none=>rw [q] at e;cases e
  | some d =>
    rw [q] at e
    cases e
    obtain ⟨p,xs,rfl,q1,d1⟩:=ra.lst sg
    obtain ⟨v,hv,dv⟩:=tD d1 q
    cases rb.int
    exact .inl ⟨p,xs,i,v,rfl,rfl,q1,hv,k v G H (Ext.refl sg) dv⟩
 ·cases e
def BQ:R2:=fun x y H Q=>∃ a v,x=.ref a/\o8 H a y (some v)/\Q v H
def tN:Rv->Rv->Option Rv:=fun a b=>match jv a.2 b.2 with
 | some (some d)=>some (.pu,d)
 | _=>none
theorem zw {K:PySem.W.Frag}:Op2 K BQ tN:=by
 rintro B H0 G H a b r x y Q sg ra rb e k
 unfold tN at e
 split at e
 ·rename_i d eo
  cases e
  obtain ⟨p,ov,rfl,g,v,rfl,dv⟩:=jQ sg ra rb eo
  exact ⟨p,v,rfl,g,k v G H (Ext.refl sg) dv⟩
 ·cases e
theorem A1 {pos:Pos} (ha:PX X a fa) (hb:PX X b fb) (hs:mv b:=by intro _ _;rfl):PX X (.Subscript a b pos) (x2 oIx fa fb):=PE.imp (Dg AT ha hb hs) fun _ _ _ q=>B2 AQ q
theorem AB {pos:Pos} (hu:X.A.units+1<cLine) (ha:PX X a fa) (hb:PX X b fb) (hs:Cz b:=by intro _ _;rfl):PX X (.Subscript a b pos) (x2 tN fa fb) :=
 PE.imp (tW hu ha hb hs) fun σ H Q q=>by
  have:=B2 (r:=BQ) zw q
  exact this
def oIt:Rv->Rv->Option Rv:=fun a b=>(oIx a b).or (tN a b)
theorem zJ {pos:Pos} (hu:X.A.units+1<cLine) (ha:PX X a fa) (hb:PX X b fb) (hs:mv b:=by intro _ _;rfl):PX X (.Subscript a b pos) (x2 oIt fa fb):=by
 intro pins s σ H Q I q
 obtain ⟨B,G,ρ,c,sg,sb,st,e,k⟩:=q
 have e0:=e
 unfold x2 at e
 split at e
 ·cases e
 ·rename_i ra ea
  split at e
  ·cases e
  ·rename_i rb eb
   unfold oIt at e
   cases z:oIx ra rb with
   | some z' =>
     rw [z] at e
     cases e
     exact A1 ha hb hs pins s σ H Q I ⟨B,G,ρ,_,sg,sb,st,by unfold x2;rw [ea,eb];exact z,k⟩
   | none =>
     rw [z] at e
     exact AB hu ha hb hs pins s σ H Q I ⟨B,G,ρ,c,sg,sb,st,by unfold x2;rw [ea,eb];exact e,k⟩
def ca:Rho->Option (List Rv):=fun _=>some []
def aO (f:Rho->Option Rv) (g:Rho->Option (List Rv)):Rho->Option (List Rv):=fun ρ=>match f ρ with
 | none=>none
 | some r=>match g ρ with
   | none=>none
   | some rs=>some (r::rs)
theorem lN:PXA X [] ca:=PA.imp j5 fun σ H Q ⟨B,G,ρ,rs,sg,sb,st,e,k⟩=>by cases e;exact k [] G H (Ext.refl sg) rfl
def nst:Expr->Bool
 | .Starred ..=>false
 | _=>true
theorem aX {e:Expr} {es:List Expr} {env:Env} (h:nst e=true):starEach (e::es) env=(false,eval e env)::starEach es env:=by
 cases e<;>first | rfl | cases h
theorem gT {e:Expr} {es:List Expr} {f:Rho->Option Rv} {g:Rho->Option (List Rv)} (ha:PX X e f) (hr:PXA X es g) (hs:starEach (e::es) X.env=(false,eval e X.env)::starEach es X.env:=by exact aX rfl):PXA X (e::es) (aO f g) :=
 PA.imp (gJ ha hr hs) fun σ H Q ⟨B,G,ρ,rs,sg,sb,st,eq,k⟩=>by
  unfold aO at eq
  split at eq
  ·cases eq
  ·rename_i r er
   split at eq
   ·cases eq
   ·rename_i rs' ers
    cases eq
    refine ⟨B,G,ρ,r,sg,sb,st,er,fun v G1 H1 E1 r1=>⟨B,G1,ρ,rs',E1.gh,sb.trans E1.hh,st.ext E1,ers,fun vs G2 H2 E2 r2=>?_⟩⟩
    exact k _ G2 H2 (E1.trans E2) ⟨v,vs,rfl,r1.ext E2,r2.base E1.hh⟩
def oD (g:Rho->Option (List Rv)):Rho->Option Rv:=fun ρ=>match g ρ with
 | none=>none
 | some rs=>match gI rs with
   | none=>none
   | some ds=>if ds.length<=1000 then some (.pu,.tup ds) else none
theorem AC {es:List Expr} {x1:Nat} {pos:Pos} {g:Rho->Option (List Rv)} (h:PXA X es g):PX X (.Tuple es x1 pos) (oD g) :=
 PE.imp (An h) fun σ H Q ⟨B,G,ρ,r,sg,sb,st,e,k⟩=>by
  unfold oD at e
  split at e
  ·cases e
  ·rename_i rs er
   split at e
   ·cases e
   ·rename_i ds ed
    split at e
    ·rename_i hz
     cases e
     refine ⟨B,G,ρ,rs,sg,sb,st,er,fun vs G1 H1 E1 r1=>?_⟩
     obtain ⟨G2,E2,s12,d2⟩:=r1.pure E1 ed
     have hs:sizeLine=16777216:=sizeLine_eq
     have hl:=d2.length
     refine ⟨by lia,fun p hp=>k _ _ _ (E2.trans (Ext.new E2.gh hp)) ⟨p,vs,rfl,aL,bP.mono (bB (E2.gh.free hp)) ds d2⟩⟩
    ·cases e
def vT (g:Rho->Option (List Rv)):Rho->Option Rv:=fun ρ=>match g ρ with
 | none=>none
 | some rs=>match gI rs with
   | none=>none
   | some ds=>if ds.length<=1000 then some (.fr,.lst ds) else none
theorem B3 {es:List Expr} {pos:Pos} {g:Rho->Option (List Rv)} (h:PXA X es g):PX X (.List es pos) (vT g) :=
 PE.imp (BK h) fun σ H Q ⟨B,G,ρ,r,sg,sb,st,e,k⟩=>by
  unfold vT at e
  split at e
  ·cases e
  ·rename_i rs er
   split at e
   ·cases e
   ·rename_i ds ed
    split at e
    ·rename_i hz
     cases e
     refine ⟨B,G,ρ,rs,sg,sb,st,er,fun vs G1 H1 E1 r1=>?_⟩
     obtain ⟨G2,E2,s12,d2⟩:=r1.pure E1 ed
     have hs:sizeLine=16777216:=sizeLine_eq
     have hl:=d2.length
     refine ⟨by lia,fun p hp=>k _ _ _ (E2.trans (Ext.own E2.gh hp)) ⟨p,_,rfl,E2.hh.free hp,E2.gh.free hp,aL,vs,rfl,d2⟩⟩
    ·cases e
def xC2 (r:Rv):Rho->Option Rv:=fun _=>some r
theorem wx {pos:Pos}:PX X (.Dict [] [] pos) (xC2 (.fr,.dK [] [])):=PE.imp lv fun σ H Q ⟨B,G,ρ,r,sg,sb,st,e,k⟩ p hp=>by
 cases e;exact k _ G _ (Ext.own sg hp) ⟨p,_,rfl,hp,sg.free hp,aL,[],rfl,rfl,rfl⟩
theorem vV {pos:Pos}:PX X (.Dict [] [] pos) (xC2 (.fr,.dT [] [])):=PE.imp wO fun σ H Q ⟨B,G,ρ,r,sg,sb,st,e,k⟩ p hp=>by
 cases e;exact k _ G _ (Ext.own sg hp) ⟨p,_,rfl,hp,sg.free hp,aL,[],rfl,rfl,rfl⟩
def xB (f:List Rv->Option Rv) (g:Rho->Option (List Rv)):Rho->Option Rv:=fun ρ=>match g ρ with
 | none=>none
 | some rs=>f rs
def Cal (K:PySem.W.Frag) (r:List V->Hp->VK->Prop) (f:List Rv->Option Rv):Prop:=∀ (B H0 G H:Hp) (rs:List Rv) (c:Rv) (xs:List V) (Q:VK),bQ G H->du K B H0 G H rs xs->f rs=some c ->
 (∀ v G' H',Ext G H G' H'->eu K B H G' H' c v->Q v H')->r xs H Q
theorem DI {K:PySem.W.Frag} {r:List V->Hp->VK->Prop} {f:List Rv->Option Rv} {g:Rho->Option (List Rv)} (h:Cal K r f) {σ:St} {H:Hp} {Q:VK} (q:tX K (xB f g) σ H Q):tCB r (tXA K g) σ H Q:=by
 obtain ⟨B,G,ρ,c,sg,sb,st,e,k⟩:=q
 unfold xB at e
 split at e
 ·cases e
 ·rename_i rs er
  refine ⟨B,G,ρ,rs,sg,sb,st,er,fun vs G1 H1 E1 r1=>h B H G1 H1 rs c vs _ E1.gh r1 e fun v G2 H2 E2 r2=>k v G2 H2 (E1.trans E2) (r2.base E1.hh)⟩
theorem Co {x:Str} {p pos:Pos} {e:Expr} {es:List Expr} {id:String} {r:List V->Hp->VK->Prop} {f:List Rv->Option Rv} {g:Rho->Option (List Rv)} (hc:i7 X (.builtin id) r) (h:Cal X.K r f) (hg:Gl X x) (hm:X.mg x=none) (hv:bootBuiltins x=some (.builtin id)) (ha:PXA X (e::es) g)
 (hn:x≠"__name__":=by decide) (hdb:(x == ("__debug__" : Str))=false:=by decide) (he:starEach (e::es) X.env=(false,eval e X.env)::starEach es X.env:=by exact aX rfl) (hpl:(backTo pos (starEach es X.env)).any (·.1)=false:=by rfl) :
 PX X (.Call (.Name x p) (e::es) [] pos) (xB f g):=PE.imp (p7 hc hg hm hv ha hn hdb he hpl) fun _ _ _ q=>DI h q
theorem y6 {x:Str} {p pos:Pos} {e:Expr} {es:List Expr} {T:String} {r:List V->Hp->VK->Prop} {f:List Rv->Option Rv} {g:Rho->Option (List Rv)} (hc:i7 X (.type T) r) (h:Cal X.K r f) (hg:Gl X x) (hm:X.mg x=none) (hv:bootBuiltins x=some (.type T)) (ha:PXA X (e::es) g)
 (hn:x≠"__name__":=by decide) (hdb:(x == ("__debug__" : Str))=false:=by decide) (he:starEach (e::es) X.env=(false,eval e X.env)::starEach es X.env:=by exact aX rfl) (hpl:(backTo pos (starEach es X.env)).any (·.1)=false:=by rfl) :
 PX X (.Call (.Name x p) (e::es) [] pos) (xB f g):=PE.imp (mO hc hg hm hv ha hn hdb he hpl) fun _ _ _ q=>DI h q
theorem du.one {K:PySem.W.Frag} {B H0 G H:Hp} {r:Rv} {xs:List V} (h:du K B H0 G H [r] xs):∃ v,xs=[v]/\eu K B H0 G H r v:=by
 obtain ⟨v,r',rfl,h1,h2⟩:=h;cases (show r'=[] from h2);exact ⟨v,rfl,h1⟩
theorem du.two {K:PySem.W.Frag} {B H0 G H:Hp} {r r2:Rv} {xs:List V} (h:du K B H0 G H [r,r2] xs):∃ v v2,xs=[v,v2]/\eu K B H0 G H r v/\eu K B H0 G H r2 v2:=by
 obtain ⟨v,r',rfl,h1,h2⟩:=h
 obtain ⟨v2,rfl,h3⟩:=du.one h2
 exact ⟨v,v2,rfl,h1,h3⟩
def nU:List Rv->Option Rv
 | [(_,.tup ds)]=>some (.pu,.int ds.length)
 | [(_,.lst ds)]=>some (.pu,.int ds.length)
 | _=>none
theorem zG {K:PySem.W.Frag}:Cal K (fun xs H Q=>∃ p ys,xs=[.ref p]/\(SqL K H p ys\/SqT K H p ys)/\Q (.int ys.length) H) nU:=by
 intro B H0 G H rs c xs Q sg ra e k
 unfold nU at e
 split at e
 ·cases e
  obtain ⟨v,rfl,h⟩:=du.one ra
  obtain ⟨p,ys,rfl,q,d,_⟩:=h.tup sg
  exact ⟨p,ys,rfl,.inr (SqT.of q),by rw [d.length];exact k _ G H (Ext.refl sg) rfl⟩
 ·cases e
  obtain ⟨v,rfl,h⟩:=du.one ra
  obtain ⟨p,ys,rfl,q,d⟩:=h.lst sg
  exact ⟨p,ys,rfl,.inl q,by rw [d.length];exact k _ G H (Ext.refl sg) rfl⟩
 ·cases e
def iy:List Rv->Option Rv
 | [(_,.tup ds)]=>some (.pu,.tup ds)
 | [(_,.lst ds)]=>some (.pu,.tup ds)
 | _=>none
theorem sa {K:PySem.W.Frag}:Cal K (fun xs H Q=>∃ p ys,xs=[.ref p]/\((SqL K H p ys/\∀ l,H l=none->Q (.ref l) (upd H l (.tup ys)))\/(SqT K H p ys/\Q (.ref p) H))) iy:=by
 intro B H0 G H rs c xs Q sg ra e k
 unfold iy at e
 split at e
 ·cases e
  obtain ⟨v,rfl,h⟩:=du.one ra
  obtain ⟨p,ys,rfl,q,d,g⟩:=h.tup sg
  exact ⟨p,ys,rfl,.inr ⟨SqT.of q,k _ G H (Ext.refl sg) ⟨p,ys,rfl,g,d⟩⟩⟩
 ·cases e
  obtain ⟨v,rfl,h⟩:=du.one ra
  obtain ⟨p,ys,rfl,q,d⟩:=h.lst sg
  exact ⟨p,ys,rfl,.inl ⟨q,fun l hl=>k _ _ _ (Ext.new sg hl) ⟨l,ys,rfl,aL,bP.mono (bB (sg.free hl)) _ d⟩⟩⟩
 ·cases e
def lD:List Rv->Option Rv
 | [(_,.tup ds)]=>some (.fr,.lst ds)
 | [(_,.lst ds)]=>some (.fr,.lst ds)
 | _=>none
theorem w4 {K:PySem.W.Frag}:Cal K (fun xs H Q=>∃ p ys,xs=[.ref p]/\(SqL K H p ys\/SqT K H p ys)/\∀ l,H l=none->Q (.ref l) (upd H l (.lst ys))) lD:=by
 intro B H0 G H rs c xs Q sg ra e k
 unfold lD at e
 split at e
 ·cases e
  obtain ⟨v,rfl,h⟩:=du.one ra
  obtain ⟨p,ys,rfl,q,d,g⟩:=h.tup sg
  exact ⟨p,ys,rfl,.inr (SqT.of q),fun l hl=>k _ _ _ (Ext.own sg hl) ⟨l,_,rfl,hl,sg.free hl,aL,ys,rfl,d⟩⟩
 ·cases e
  obtain ⟨v,rfl,h⟩:=du.one ra
  obtain ⟨p,ys,rfl,q,d⟩:=h.lst sg
  exact ⟨p,ys,rfl,.inl q,fun l hl=>k _ _ _ (Ext.own sg hl) ⟨l,_,rfl,hl,sg.free hl,aL,ys,rfl,d⟩⟩
 ·cases e
end
end Ry
namespace Ry
open PySem PySem.Spec PyProof.Rows L2
section
variable {X:Cx} {a b c:Expr} {pos:Pos} {fa fb fc:Rho->Option Rv}
def tb (f:Rho->Option Rv):Rho->Option Bool:=fun ρ=>match f ρ with
 | some (_,.bl b)=>some b
 | _=>none
theorem yJ {K:PySem.W.Frag} {f:Rho->Option Rv} {σ:St} {H:Hp} {Q:Bool->Hp->Prop} (q:tXT K (tb f) σ H Q):yV (tX K f) σ H Q:=by
 obtain ⟨B,G,ρ,b,sg,sb,st,e,k⟩:=q
 unfold tb at e
 split at e
 ·rename_i kd b' q
  cases e
  exact ⟨B,G,ρ,_,sg,sb,st,q,fun v G1 H1 E1 r1=>⟨b,r1.bl,k G1 H1 E1⟩⟩
 ·cases e
def CR2 (X:Cx) (o:CmpOp) (op:Rv->Rv->Option Rv):Prop:=∃ r,OpR X (compareOp o) r/\Op2 X.K r op
theorem D9 {o:CmpOp} {op:Rv->Rv->Option Rv} (h:CR2 X o op) (ha:PX X a fa) (hb:PX X b fb) (hm:behindInMarks o b=false:=by first | exact qM _ | with_unfolding_all rfl):PX X (.Compare a [o] [b] pos) (x2 op fa fb) :=
 let ⟨_,h1,h2⟩:=h;AR h1 h2 ha hb hm
theorem Do {o:CmpOp} {op:Rv->Rv->Option Rv} (h:CR2 X o op) (ha:PX X a fa) (hb:PX X b fb) (hm:behindInMarks o b=false:=by first | exact qM _ | with_unfolding_all rfl):PXT X (.Compare a [o] [b] pos) (tb (x2 op fa fb)):=by
 obtain ⟨r,h1,h2⟩:=h
 refine PT.imp (yv h1 ha hb hm) fun σ H Q q=>?_
 obtain ⟨B,G,ρ,b,sg,sb,st,e,k⟩:=q
 unfold tb at e
 split at e
 ·rename_i kd b' q
  cases e
  exact B2 h2 ⟨B,G,ρ,_,sg,sb,st,q,fun v G1 H1 E1 r1=>⟨b,r1.bl,k G1 H1 E1⟩⟩
 ·cases e
theorem BZ (hu:X.A.units+64<cLine):CR2 X .Lt oLt:=⟨_,Ct.or (Be (by lia)),pF.or x6⟩
theorem DC:CR2 X .LtE (oB fun i j=>decide (i<=j)):=⟨_,CQ,pF⟩
theorem D5:CR2 X .Gt (oB fun i j=>decide (j<i)):=⟨_,CC,pF⟩
theorem Cn (hu:X.A.units+64<cLine):CR2 X .Eq (oEq false):=⟨_,Bc hu,xk⟩
theorem DO (hu:X.A.units+64<cLine):CR2 X .NotEq (oEq true):=⟨_,BU hu,xk⟩
theorem zZ (hu:X.A.units+64<cLine):CR2 X .In (oIn false):=⟨_,(AY (by lia)).or (Bk hu),uG.or vd⟩
theorem Dk (hu:X.A.units+64<cLine):CR2 X .NotIn (oIn true):=⟨_,(zn (by lia)).or (yN hu),uG.or vd⟩
def oIs (neg:Bool):Rv->Rv->Option Rv
 | (_,.bl i),(_,.bl j)=>some (.pu,.bl (if neg then !(i == j) else i == j))
 | _,_=>none
def iL (op op':Rv->Rv->Option Rv) (fa fb fc:Rho->Option Rv):Rho->Option Rv:=fun ρ=>match fa ρ,fb ρ with
 | some a,some b=>match op a b with
   | some (_,.bl true)=>match fc ρ with
     | some c=>op' b c
     | none=>none
   | some (_,.bl false)=>some (.pu,.bl false)
   | _=>none
 | _,_=>none
variable {ta tc:Rho->Option Bool} {rest:List Expr}
def oN (ta tc:Rho->Option Bool):Rho->Option Bool:=fun ρ=>match ta ρ with
 | some true=>tc ρ
 | some false=>some false
 | none=>none
def oC (ta tc:Rho->Option Bool):Rho->Option Bool:=fun ρ=>match ta ρ with
 | some true=>some true
 | some false=>tc ρ
 | none=>none
theorem Al {K:PySem.W.Frag} {σ:St} {H:Hp} {Q:Bool->Hp->Prop} (q:tXT K (oN ta tc) σ H Q):DM (tXT K ta) (tXT K tc) σ H Q:=by
 obtain ⟨B,G,ρ,r,sg,sb,st,e,k⟩:=q
 unfold oN at e
 split at e
 ·rename_i ea
  exact ⟨B,G,ρ,true,sg,sb,st,ea,fun G1 H1 E1=>by dsimp only;rw [if_pos rfl];exact ⟨B,G1,ρ,r,E1.gh,sb.trans E1.hh,st.ext E1,e,fun G2 H2 E2=>k G2 H2 (E1.trans E2)⟩⟩
 ·rename_i ea
  cases e
  exact ⟨B,G,ρ,false,sg,sb,st,ea,fun G1 H1 E1=>by dsimp only;rw [if_neg ah];exact k G1 H1 E1⟩
 ·cases e
theorem CI {K:PySem.W.Frag} {σ:St} {H:Hp} {Q:Bool->Hp->Prop} (q:tXT K (oC ta tc) σ H Q):tOr (tXT K ta) (tXT K tc) σ H Q:=by
 obtain ⟨B,G,ρ,r,sg,sb,st,e,k⟩:=q
 unfold oC at e
 split at e
 ·rename_i ea
  cases e
  exact ⟨B,G,ρ,true,sg,sb,st,ea,fun G1 H1 E1=>by dsimp only;rw [if_pos rfl];exact k G1 H1 E1⟩
 ·rename_i ea
  exact ⟨B,G,ρ,false,sg,sb,st,ea,fun G1 H1 E1=>by dsimp only;rw [if_neg ah];exact ⟨B,G1,ρ,r,E1.gh,sb.trans E1.hh,st.ext E1,e,fun G2 H2 E2=>k G2 H2 (E1.trans E2)⟩⟩
 ·cases e
theorem wQ (ha:PXT X a ta):PXW X (.BoolOp .And [a] pos) ta:=yb ha
theorem zI (ha:PXT X a ta):PXW X (.BoolOp .Or [a] pos) ta:=B7 ha
theorem yZ (ha:PXT X a ta) (hb:PXW X (.BoolOp .And (b::rest) pos) tc):PXW X (.BoolOp .And (a::b::rest) pos) (oN ta tc):=PW.imp (Az ha hb) fun _ _ _ q=>Al q
theorem A4 (ha:PXT X a ta) (hb:PXW X (.BoolOp .Or (b::rest) pos) tc):PXW X (.BoolOp .Or (a::b::rest) pos) (oC ta tc):=PW.imp (Dl ha hb) fun _ _ _ q=>CI q
theorem Dr {e:Expr} (h:PXW X e ta):PXT X e ta:=h.pt
def eK (ta:Rho->Option Bool):Rho->Option Bool:=fun ρ=>(ta ρ).map (!·)
theorem yB (ha:PXT X a ta):PXT X (.UnaryOp .Not a pos) (eK ta):=PT.imp (Bb ha) fun σ H Q ⟨B,G,ρ,r,sg,sb,st,e,k⟩=>by
 unfold eK at e
 cases q:ta ρ with
 | none=>rw [q] at e;cases e
 | some c=>rw [q] at e;cases e;exact ⟨B,G,ρ,c,sg,sb,st,q,fun G1 H1 E1=>k G1 H1 E1⟩
def Ae (fa fb:Rho->Option Rv):Rho->Option Rv:=fun ρ=>match fa ρ with
 | some (_,.bl true)=>fb ρ
 | some (_,.bl false)=>some (.pu,.bl false)
 | _=>none
def xOr (fa fb:Rho->Option Rv):Rho->Option Rv:=fun ρ=>match fa ρ with
 | some (_,.bl true)=>some (.pu,.bl true)
 | some (_,.bl false)=>fb ρ
 | _=>none
def DG (fa:Rho->Option Rv):Rho->Option Rv:=fun ρ=>match fa ρ with
 | some (_,.bl b)=>some (.pu,.bl (!b))
 | _=>none
theorem B5 {op} (h:PX X a fa):PX X (.BoolOp op [a] pos) fa:=B4 h
theorem AX (ha:PX X a fa) (hb:PX X (.BoolOp .And (b::rest) pos) fb):PX X (.BoolOp .And (a::b::rest) pos) (Ae fa fb):=PE.imp (BC ha hb) fun σ H Q ⟨B,G,ρ,r,sg,sb,st,e,k⟩=>by
 unfold Ae at e
 split at e
 ·rename_i kd ea
  exact ⟨B,G,ρ,_,sg,sb,st,ea,fun v G1 H1 E1 r1=>⟨true,r1.bl,by rw [if_pos rfl];exact ⟨B,G1,ρ,r,E1.gh,sb.trans E1.hh,st.ext E1,e,fun v2 G2 H2 E2 r2=>k v2 G2 H2 (E1.trans E2) (r2.base E1.hh)⟩⟩⟩
 ·rename_i kd ea
  cases e
  exact ⟨B,G,ρ,_,sg,sb,st,ea,fun v G1 H1 E1 r1=>⟨false,r1.bl,by rw [if_neg ah];exact k _ G1 H1 E1 rfl⟩⟩
 ·cases e
def xIf (t:Rho->Option Bool) (fa fb:Rho->Option Rv):Rho->Option Rv:=fun ρ=>match t ρ with
 | some true=>fa ρ
 | some false=>fb ρ
 | none=>none
def trD:Da->Option Bool
 | .non=>some false
 | .bl b=>some b
 | .int i=>some (i != 0)
 | .tup ds=>some (!ds.isEmpty)
 | .lst ds=>some (!ds.isEmpty)
 | _=>none
def tTr (f:Rho->Option Rv):Rho->Option Bool:=fun ρ=>match f ρ with
 | some r=>trD r.2
 | none=>none
theorem jW {α β:Type} {l:List α} {m:List β} (h:l.length=m.length):l.isEmpty=m.isEmpty:=by
 cases l<;>cases m<;>first | rfl | cases h
theorem AH (ha:PX X a fa) (he:∀ whole,isTrue a X.env whole=(do let v <- whole;standAt a.pos;holding [v] (truthy v)):=by intro _;rfl):PXT X a (tTr fa):=PT.imp (vK ha he) fun σ H Q ⟨B,G,ρ,b,sg,sb,st,e,k⟩=>by
 unfold tTr at e
 split at e
 ·rename_i r er
  obtain ⟨kd,d⟩:=r
  refine ⟨B,G,ρ,_,sg,sb,st,er,fun v G1 H1 E1 r1=>⟨b,?_,k G1 H1 E1⟩⟩
  cases d with
  | non=>cases e;cases r1.non;rfl
  | bl b=>cases e;cases r1.bl;rfl
  | int i=>cases e;cases r1.int;rfl
  | str x=>cases e
  | tup ds=>cases e;obtain ⟨p,xs,rfl,q,dl,_⟩:=r1.tup E1.gh;exact .inr (.inl ⟨xs,SqT.of q,by rw [jW dl.length]⟩)
  | lst ds=>cases e;obtain ⟨p,xs,rfl,q,dl⟩:=r1.lst E1.gh;exact .inl ⟨xs,q,by rw [jW dl.length]⟩
  | dK ks ds=>cases e
  | dT ks ds=>cases e
 ·cases e
end
def spD (K:PySem.W.Frag) (n:Nat) (fn:List Da->Option Da):Sp:=fun vs H Q _=>∃ G ds d,ds.length=n/\bQ G H/\Tbs K G/\bP K G ds vs/\fn ds=some d/\∀ v G' H',Ext G H G' H'->Den K G' d v->Q v H'
def cC (fn:List Da->Option Da) (g:Rho->Option (List Rv)):Rho->Option Rv:=fun ρ=>match g ρ with
 | none=>none
 | some rs=>match gI rs with
   | none=>none
   | some ds=>match fn ds with
     | none=>none
     | some d=>some (.pu,d)
theorem nN:∀ {rs:List Rv} {ds:List Da},gI rs=some ds->ds.length=rs.length
 | [],ds,h=>by cases h;rfl
 | (k,d)::rs,ds,h=>by
   unfold gI at h
   split at h
   ·cases q:gI rs with
    | none=>rw [q] at h;cases h
    | some ds'=>rw [q] at h;cases h;rw [aD,aD,nN q]
   ·cases h
theorem xT {X:Cx} {k n:Nat} {f:Addr} {fd:FuncData} {ps:List Str} {fn:List Da->Option Da} {x:Str} {p pos:Pos} {e:Expr} {es:List Expr} {g:Rho->Option (List Rv)} (F:rp X.prog X.w X.K X.mg X.base CX0 k f fd ps (spD X.K n fn)) (hr:fq k X.A) (hg:Gl X x) (hm:X.mg x=some (.ref f))
 (hk:PySem.W.keepIn X.K (.ref f)=true) (hb:pO X.K fd ps []) (ha:PXA X (e::es) g) (hlen:∀ ρ rs,g ρ=some rs->rs.length=n) (hdb:(x == ("__debug__" : Str))=false:=by decide) (he:starEach (e::es) X.env=(false,eval e X.env)::starEach es X.env:=by exact aX rfl)
 (hpl:(backTo pos (starEach es X.env)).any (·.1)=false:=by rfl):PX X (.Call (.Name x p) (e::es) [] pos) (cC fn g) :=
 PE.imp (za F hr hg hm hk hb .nil CF ha hdb he hpl) fun σ H Q ⟨B,G,ρ,r,sg,sb,st,e,kk⟩=>by
  unfold cC at e
  split at e
  ·cases e
  ·rename_i rs er
   split at e
   ·cases e
   ·rename_i ds ed
    split at e
    ·cases e
    ·rename_i d ef
     cases e
     refine ⟨B,G,ρ,rs,sg,sb,st,er,fun vs G1 H1 E1 r1=>?_⟩
     obtain ⟨G2,E2,s12,d2⟩:=r1.pure E1 ed
     refine ⟨G2,ds,d,by rw [nN ed];exact hlen ρ rs er,E2.gh,st.tg.mono E2.gg,by rw [ce];exact d2,ef,fun v G3 H3 E3 r3=>kk v G3 H3 (E2.trans E3) r3⟩
theorem b8:∀ ρ rs,ca ρ=some rs->rs.length=0:=fun _ _ h=>by cases h;rfl
theorem aV {n:Nat} {f:Rho->Option Rv} {g:Rho->Option (List Rv)} (h:∀ ρ rs,g ρ=some rs->rs.length=n):∀ ρ rs,aO f g ρ=some rs->rs.length=n+1:=fun ρ rs e=>by
 unfold aO at e
 split at e
 ·cases e
 ·split at e
  ·cases e
  ·rename_i rs' er
   cases e
   rw [aD,h ρ rs' er]
inductive Res where
 | nx (ρ:Rho) | rt (d:Da) | bk (ρ:Rho) | ct (ρ:Rho) | bad
def xO (K:PySem.W.Frag) (B G0 Gs:Hp) (D:yK):Res->Prop
 | .nx ρ=>∀ σ G H,Ext G0 B G H->bQ Gs G->fm K B G H σ ρ->D.nx σ H
 | .rt d=>∀ v G H,Ext G0 B G H->bQ Gs G->Den K G d v->D.rt v H
 | .bk ρ=>∀ σ G H,Ext G0 B G H->bQ Gs G->fm K B G H σ ρ->D.bk σ H
 | .ct ρ=>∀ σ G H,Ext G0 B G H->bQ Gs G->fm K B G H σ ρ->D.ct σ H
 | .bad=>False
theorem xO.mono {K:PySem.W.Frag} {B G0 Gs Gt:Hp} {D:yK} {r:Res} (h:xO K B G0 Gs D r) (s:bQ Gs Gt):xO K B G0 Gt D r:=by
 cases r with
 | nx ρ=>exact fun σ G H E t st=>h σ G H E (s.trans t) st
 | rt d=>exact fun v G H E t st=>h v G H E (s.trans t) st
 | bk ρ=>exact fun σ G H E t st=>h σ G H E (s.trans t) st
 | ct ρ=>exact fun σ G H E t st=>h σ G H E (s.trans t) st
 | bad=>exact h
def tS (K:PySem.W.Frag) (g:Rho->Res):TS:=fun D σ H=>∃ B G0 G ρ,Ext G0 B G H/\fm K B G H σ ρ/\xO K B G0 G D (g ρ)
abbrev PXS (X:Cx) (st:Stmt) (g:Rho->Res):Prop:=PS X st (tS X.K g)
abbrev p4 (X:Cx) (st:List Stmt) (g:Rho->Res):Prop:=PSs X st (tS X.K g)
section
variable {X:Cx} {st:Stmt} {rest:List Stmt} {g h:Rho->Res} {pos pos':Pos} {e:Expr} {f:Rho->Option Rv}
def iT:Rho->Res:=fun ρ=>.nx ρ
def gd (g h:Rho->Res):Rho->Res:=fun ρ=>match g ρ with
 | .nx ρ'=>h ρ'
 | r=>r
theorem zv:p4 X [] iT:=PSs.imp va fun D σ H ⟨B,G0,G,ρ,E,st,k⟩=>k σ G H E (bQ.refl _) st
theorem wb (h1:PXS X st g) (h2:p4 X rest h):p4 X (st::rest) (gd g h):=PSs.imp (iA h1 h2) fun D σ H ⟨B,G0,G,ρ,E,st,k⟩=>by
 refine ⟨B,G0,G,ρ,E,st,?_⟩
 unfold gd at k
 cases q:g ρ with
 | nx ρ'=>rw [q] at k;exact fun σ' G' H' E' s' st'=>⟨B,G0,G',ρ',E',st',k.mono s'⟩
 | rt d=>rw [q] at k;exact k
 | bk ρ'=>rw [q] at k;exact k
 | ct ρ'=>rw [q] at k;exact k
 | bad=>rw [q] at k;exact k
theorem xX (h1:PXS X st g):p4 X [st] g:=j7 h1
def D0 (f:Rho->Option Rv):Rho->Res:=fun ρ=>match f ρ with
 | some r=>if r.1=.pu\/jB r.2=false then .rt r.2 else .bad
 | none=>.bad
def sIf (t:Rho->Option Bool) (g h:Rho->Res):Rho->Res:=fun ρ=>match t ρ with
 | some true=>g ρ
 | some false=>h ρ
 | none=>.bad
theorem A8 {c:Expr} {a b:List Stmt} {t:Rho->Option Bool} (hc:PXT X c t) (ha:p4 X a g) (hb:p4 X b h):PXS X (.If c a b pos) (sIf t g h):=PS.imp (BF hc ha hb) fun D σ H ⟨B,G0,G,ρ,E,st,k⟩=>by
 unfold sIf at k
 cases q:t ρ with
 | none=>rw [q] at k;exact k.elim
 | some b =>
   rw [q] at k
   refine ⟨B,G,ρ,b,E.gh,E.hh,st,q,fun G1 H1 E1=>?_⟩
   cases b with
   | true=>rw [if_pos rfl];exact ⟨B,G0,G1,ρ,E.trans E1,st.ext E1,k.mono E1.gg⟩
   | false=>rw [if_neg ah];exact ⟨B,G0,G1,ρ,E.trans E1,st.ext E1,k.mono E1.gg⟩
def kg (i:Nat) (f:Rho->Option Rv):Rho->Res:=fun ρ=>match f ρ with
 | some r=>if cD r=true then .nx (ρ.set i (.pu r.2)) else .bad
 | none=>.bad
theorem zQ {i:Nat} {x:Str} (hN:X.N.Nodup) (he:PX X e f) (hi:X.N[i]?=some x:=by rfl) (hx:Loc X.env.scope x:=by first | exact Or.inl rfl | exact Or.inr rfl) (hs:swapsWith e (some (.Name x pos')) pos.line X.env=pure false:=by rfl)
 (hf:X.fn x=true\/X.env.scope.names.lookup x=some .local:=by first | exact .inl rfl | exact .inr rfl | assumption):PXS X (.Assign [.Name x pos'] e pos) (kg i f) :=
 PS.imp (qe hN hi hx he hs hf) fun D σ H ⟨B,G0,G,ρ,E,st,k⟩=>by
  unfold kg at k
  cases q:f ρ with
  | none=>rw [q] at k;exact k.elim
  | some r =>
    rw [q] at k
    dsimp only at k
    split at k
    ·rename_i hk
     refine ⟨B,G,ρ,r,E.gh,E.hh,st,q,fun v G1 H1 E1 r1=>?_⟩
     obtain ⟨G2,E2,_,d2⟩:=r1.pure E1 hk
     exact k _ G2 H1 (E.trans E2) E2.gg ((st.ext E2).setPu d2)
    ·exact k.elim
def vv (i:Nat) (f:Rho->Option Rv):Rho->Res:=fun ρ=>match f ρ with
 | some (.fr,d)=>.nx (ρ.set i (.ow d))
 | _=>.bad
theorem zS {i:Nat} {x:Str} (hN:X.N.Nodup) (he:PX X e f) (hi:X.N[i]?=some x:=by rfl) (hx:Loc X.env.scope x:=by first | exact Or.inl rfl | exact Or.inr rfl) (hs:swapsWith e (some (.Name x pos')) pos.line X.env=pure false:=by rfl)
 (hf:X.fn x=true\/X.env.scope.names.lookup x=some .local:=by first | exact .inl rfl | exact .inr rfl | assumption):PXS X (.Assign [.Name x pos'] e pos) (vv i f) :=
 PS.imp (qe hN hi hx he hs hf) fun D σ H ⟨B,G0,G,ρ,E,st,k⟩=>by
  unfold vv at k
  split at k
  ·rename_i d q
   refine ⟨B,G,ρ,_,E.gh,E.hh,st,q,fun v G1 H1 E1 r1=>?_⟩
   obtain ⟨l,o,rfl,n,g,qh,r⟩:=r1
   refine k _ G1 H1 (E.trans E1) E1.gg ((st.ext E1).setOw (E.hh.free n) g qh r fun j d' hj ej z=>?_)
   obtain ⟨l',o',a,_,_,f',_⟩:=st.ow j d' ej
   rw [a] at z
   cases z
   rw [n] at f';cases f'
  ·exact k.elim
theorem zh (i:Nat) (h1:PXS X st g):PXS X st (fun ρ=>g (frz i ρ)):=PS.imp h1 fun D σ H ⟨B,G0,G,ρ,E,st,k⟩=>by
 obtain ⟨G',E',s',st'⟩:=st.frz i E
 exact ⟨B,G0,G',_,E',st',k.mono s'⟩
def CO (f:Rho->Option Rv):Rho->Res:=fun ρ=>match f ρ with
 | some _=>.nx ρ
 | none=>.bad
def ic (i:Nat) (f:Rho->Option Rv):Rho->Res:=fun ρ=>match ρ[i]?,f ρ with
 | some (.ow (.lst ds)),some r=>if cD r=true/\ds.length<=1000000 then .nx (ρ.set i (.ow (.lst (ds++[r.2])))) else .bad
 | _,_=>.bad
theorem rm {i:Nat} {x:Str} {p1 apos cpos:Pos} (he:PX X e f) (hN:X.N[i]?=some x:=by rfl) (hv:Vis X.env.scope x:=by first | exact Or.inl rfl | exact Or.inr (Or.inl rfl) | exact Or.inr (Or.inr rfl)) (hd:(x == ("__debug__" : Str))=false:=by decide)
 (hcd:(x == ("__classdict__" : Str))=false:=by decide)
 (hs:swapsWith (.Call (.Attribute (.Name x p1) "append" apos) [e] [] cpos) none pos.line X.env=pure false:=by rfl) (hbase:attributeBase (.Name x p1) "append" X.env (eval (.Name x p1) X.env)=eval (.Name x p1) X.env:=by rfl)
 (hfew:((backTo cpos (starEach [e] X.env)).all (fun x=>!x.1)&&(backToKw cpos (keywordEach [] X.env)).all (fun x=>x.1.isSome)&&decide (([e]:List Expr).length+([]:List Keyword).length+(if ([]:List Keyword).isEmpty then 0 else 1)<30))=true:=by rfl)
 (hline:(apos.endLine == cpos.line)=true:=by rfl) (hst:starEach [e] X.env=[(false,eval e X.env)]:=by exact aX rfl) (hplain:(backTo cpos (starEach [] X.env)).any (·.1)=false:=by rfl) :
 PXS X (.Expr (.Call (.Attribute (.Name x p1) "append" apos) [e] [] cpos) pos) (ic i f) :=
 PS.imp (xZ (BT PySem.F.plainAttrs_list PySem.F.slot_list_append PySem.F.type_list_append nh (qB hN hv hd hcd) (gJ he j5 hst) hbase hfew hline hst hplain) hs) fun D σ H ⟨B,G0,G,ρ,E,st,k⟩=>by
  unfold ic at k
  split at k
  ·rename_i ds r eo ef
   split at k
   ·rename_i hk
    obtain ⟨l,o,a,nb,ng,hl,xs,rfl,dl⟩:=st.ow i _ eo
    refine ⟨_,a,.inl ⟨rfl,xs,SqL.of hl⟩,B,G,ρ,_,E.gh,E.hh,st,ef,fun v G1 H1 E1 r1=>?_⟩
    obtain ⟨G2,E2,_,d2⟩:=r1.pure E1 hk.1
    have hs:sizeLine=16777216:=sizeLine_eq
    have ln:=dl.length
    refine ⟨l,xs,v,rfl,rfl,E1.hh _ _ hl,by lia,?_⟩
    have st2:=st.ext E2
    have g2:G2 l=none:=E2.nw _ _ hl rfl ng
    exact k _ G2 _ ((E.trans E2).mut nb g2) E2.gg (st2.mut eo a ⟨_,rfl,bP.append (bP.mono E2.gg _ dl) (bP.one d2)⟩)
   ·exact k.elim
  ·exact k.elim
end
end Ry
namespace Ry
open PySem PySem.Spec PyProof.Rows L2
section
variable {X:Cx} {pins:List (Addr×Obj)} {σ:St} {H:Hp} {s:Shared} {l:Addr}
def lB (u:HO):Prop:=(∃ kvs,u=.dK kvs)\/∃ kvs,u=.dT kvs
theorem wL {u:HO} (I:Inv X pins σ H s) (e:H l=some u) (hu:lB u):∃ o,Inv X pins σ (upd H l (.frz o u)) s:=by
 have ok:=I.hok l u e
 obtain ⟨o,ho⟩:∃ o,s.heap.get? l=some o:=by
  rcases hu with ⟨kvs,rfl⟩ | ⟨kvs,rfl⟩
  ·obtain ⟨_,_,vs,_,o,_,_,q,_⟩:=ok;exact ⟨o,q⟩
  ·obtain ⟨_,_,xs,_,o,_,_,q,_⟩:=ok;exact ⟨o,q⟩
 have nn:∀ {b:Addr},H b=none->b≠l:=fun n z=>by rw [z,e] at n;cases n
 have nt:∀ {b:Addr} {w:HO},H b=some w->¬ lB w->b≠l:=fun q n z=>by rw [z,e] at q;cases q;exact n hu
 have n1:∀ xs,¬ lB (.tup xs):=fun xs z=>by rcases z with ⟨_,z⟩ | ⟨_,z⟩<;>cases z
 have n2:∀ ob w,¬ lB (.frz ob w):=fun ob w z=>by rcases z with ⟨_,z⟩ | ⟨_,z⟩<;>cases z
 have n3:∀ ps,¬ lB (.tbl ps):=fun ps z=>by rcases z with ⟨_,z⟩ | ⟨_,z⟩<;>cases z
 have n4:∀ y,¬ lB (.own y):=fun y z=>by rcases z with ⟨_,z⟩ | ⟨_,z⟩<;>cases z
 refine ⟨o,I.ok,I.os,I.bare,⟨I.base.keep,I.base.slot,fun b ob q n hx=>?_,I.base.there,fun b xs q=>?_,fun b ob w q=>?_,fun b ps q=>?_⟩,I.loc,I.cell,?_,fun x c q=>?_,fun p hp=>?_,fun b v q=>?_,I.len⟩
 ·have z:=I.base.free b ob q n hx
  rw [aK (nn z)];exact z
 ·have z:=I.base.tups b xs q
  rw [aK (nt z (n1 xs))];exact z
 ·have z:=I.base.frzs b ob w q
  rw [aK (nt z (n2 ob w))];exact z
 ·obtain ⟨m,z⟩:=I.base.tbls b ps q
  exact ⟨m,by rw [aK (nt z (n3 _))];exact z⟩
 ·rw [aK (nn I.free)];exact I.free
 ·rw [aK (nn (I.freeC x c q))];exact I.freeC x c q
 ·obtain ⟨a,b,c⟩:=I.pin p hp
  exact ⟨a,by rw [aK (nn b)];exact b,c⟩
 ·have hown:∀ c y,H c=some (.own y)->upd H l (.frz o u) c=some (.own y):=fun c y z=>by rw [aK (nt z (n4 y))];exact z
  have htup:∀ c xs,H c=some (.tup xs)->upd H l (.frz o u) c=some (.tup xs):=fun c xs z=>by rw [aK (nt z (n1 xs))];exact z
  have hcod:∀ c x,H c=some (.cod x)->upd H l (.frz o u) c=some (.cod x):=fun c x z=>by rw [aK (nt z (fun y=>by rcases y with ⟨_,y⟩ | ⟨_,y⟩<;>cases y))];exact z
  by_cases hb:b=l
  ·subst hb
   rw [aL] at q
   cases q
   exact ⟨ho,ok.stay (fun _ _ _ z=>z) (fun c z=>hown c _ z) htup hcod⟩
  ·rw [aK hb] at q
   exact (I.hok b v q).stay (fun _ _ _ z=>z) (fun c z=>hown c _ z) htup hcod
end
def gu (f:Rho->Option Rv):Rho->Option Rv:=fun ρ=>match f ρ with
 | some (.fr,d)=>some (.pu,d)
 | r=>r
theorem Holds.dct {K:PySem.W.Frag} {G:Hp} {d:Da} {o:HO} (h:Holds K G d o) (nd:jB d=true):lB o/\∀ (l:Addr) (ob:Obj),G l=some (.frz ob o)->Den K G d (.ref l):=by
 cases d with
 | dK ks ds=>obtain ⟨kvs,rfl,k,r⟩:=h;exact ⟨.inl ⟨kvs,rfl⟩,fun l ob e=>⟨l,ob,kvs,rfl,e,k,r⟩⟩
 | dT ks ds=>obtain ⟨kvs,rfl,k,r⟩:=h;exact ⟨.inr ⟨kvs,rfl⟩,fun l ob e=>⟨l,ob,kvs,rfl,e,k,r⟩⟩
 | _=>cases nd
theorem xK {X:Cx} {e:Expr} {f:Rho->Option Rv} (h:PX X e f):PX X e (gu f):=by
 intro pins s σ H Q I ⟨B,G,ρ,r,sg,sb,st,eq,k⟩
 unfold gu at eq
 split at eq
 ·rename_i d q
  cases eq
  refine thn (h pins s σ H (fun v H1=>∃ G1,Ext G H G1 H1/\eu X.K B H G1 H1 (.fr,d) v) I ⟨B,G,ρ,_,sg,sb,st,q,fun v G1 H1 E1 r1=>⟨G1,E1,r1⟩⟩) fun u s1 ⟨v,H1,I1,rv,G1,E1,r1⟩=>?_
  by_cases nd:jB d=true
  ·obtain ⟨l,o,rfl,n,g,ql,hd⟩:=r1
   obtain ⟨hdct,hden⟩:=(hd.mono (bB (o:=o) g)).dct nd
   obtain ⟨ob,I2⟩:=wL I1 ql (hd.dct nd).1
   refine ⟨.ref l,_,I2,rv,k _ (upd G1 l (.frz ob o)) _ ⟨fun b w z=>?_,E1.gg.trans (bB g),gF E1.gh,fun b w z t y=>?_⟩ ?_⟩
   ·rw [aK (bu z n)];exact E1.hh b w z
   ·rw [aK (bu z n)];exact E1.nw b w z t y
   ·exact ((hd.mono (bB (o:=.frz ob o) g)).dct nd).2 l ob aL
  ·obtain ⟨G2,E2,_,d2⟩:=r1.pure E1 (by simpa [cD] using nd)
   exact ⟨v,H1,I1,rv,k v G2 H1 E2 d2⟩
 ·exact h pins s σ H Q I ⟨B,G,ρ,r,sg,sb,st,eq,k⟩
def eG (f:Rho->Option Rv):Rho->Res:=fun ρ=>match f ρ with
 | some r=>.rt r.2
 | none=>.bad
theorem vX {X:Cx} {e:Expr} {f:Rho->Option Rv} {pos:Pos} (he:PX X e f):PXS X (.Return (some e) pos) (eG f):=by
 intro pins s σ H D I ⟨B,G0,G,ρ,E,st,k⟩
 unfold eG at k
 cases q:f ρ with
 | none=>rw [q] at k;exact k.elim
 | some r =>
   rw [q] at k
   refine thn (sF (pos:=pos) he pins s σ H { nx:=fun _ _=>False,rt:=fun v H1=>∃ G1,Ext G H G1 H1/\eu X.K B H G1 H1 r v } I ⟨B,G,ρ,r,E.gh,E.hh,st,q,fun v G1 H1 E1 r1=>⟨G1,E1,r1⟩⟩) fun fl s1 h1=>?_
   cases fl with
   | next=>obtain ⟨_,_,_,z⟩:=h1;exact z.elim
   | brk=>obtain ⟨_,_,_,z⟩:=h1;exact z.elim
   | cont=>obtain ⟨_,_,_,z⟩:=h1;exact z.elim
   | ret u =>
     obtain ⟨v,σ1,H1,I1,rv,G1,E1,r1⟩:=h1
     by_cases nd:r.1=.pu\/jB r.2=false
     ·obtain ⟨G2,E2,s2,d2⟩:=r1.pureB E.hh (E.trans E1) nd
      exact ⟨v,σ1,H1,I1,rv,k v G2 H1 E2 (E1.gg.trans s2) d2⟩
     ·obtain ⟨kd,d⟩:=r
      have hk:¬ kd=.pu:=fun z=>nd (.inl z)
      have hd:jB d=true:=by
       cases z:jB d with
       | true=>rfl
       | false=>exact absurd (.inr z) nd
      have go:∃ l o,v=.ref l/\B l=none/\G1 l=none/\H1 l=some o/\Holds X.K G1 d o:=by
       cases kd with
       | pu=>exact absurd rfl hk
       | bo =>
         obtain ⟨l,o,rfl,nb,g,ql,hh⟩:=r1
         exact ⟨l,o,rfl,nb,g,ql,hh⟩
       | fr=>obtain ⟨l,o,rfl,n,g,ql,hh⟩:=r1;exact ⟨l,o,rfl,E.hh.free n,g,ql,hh⟩
      obtain ⟨l,o,rfl,nb,g,ql,hh⟩:=go
      obtain ⟨ob,I2⟩:=wL I1 ql (hh.dct hd).1
      have E2:=E.trans E1
      refine ⟨.ref l,σ1,_,I2,rv,k _ (upd G1 l (.frz ob o)) _ ⟨fun b w z=>?_,E2.gg.trans (bB g),gF E2.gh,fun b w z t y=>?_⟩ (E1.gg.trans (bB g)) ?_⟩
      ·rw [aK (bu z nb)];exact E2.hh b w z
      ·rw [aK (bu z nb)];exact E2.nw b w z t y
      ·exact ((hh.mono (bB (o:=.frz ob o) g)).dct hd).2 l ob aL
end Ry
namespace Ry
open PySem PySem.Spec PyProof.Rows L2
def zC (K:PySem.W.Frag) (J:It) (items:List Da) (G:Hp):Prop:=∀ (i:Nat) (G' H':Hp),bQ G G'->bQ G' H' ->
 (∀ d,items[i]?=some d->J.go i H'/\∀ x H'',J.yld i H' x H''->∃ G'',Ext G' H' G'' H''/\Den K G'' d x)/\(items.length=i->J.stop i H')
def iX (K:PySem.W.Frag) (f:Rho->Option (List Da)):TI:=fun σ H R=>∃ B G ρ ds,bQ G H/\bQ B H/\fm K B G H σ ρ/\f ρ=some ds/\∀ J G' H',Ext G H G' H'->zC K J ds G'->R J H'
abbrev PXI (X:Cx) (tg iter:Expr) (f:Rho->Option (List Da)):Prop:=PI X tg iter (iX X.K f)
section
variable {X:Cx} {tg e:Expr} {f:Rho->Option Rv} {pos:Pos}
theorem zT {K:PySem.W.Frag} {G:Hp} {a:Addr} {xs:List V} {ds:List Da} (q:SqL K G a xs) (h:bP K G ds xs) (inj:∀ (H:Hp) (ys:List V),bQ G H->SqL K H a ys->ys=xs\/True):zC K (Itl K a) ds G:=by
 intro i G' H' s1 s2
 have q2:=(s1.trans s2).seq q
 refine ⟨fun d e=>?_,fun hl=>⟨xs,q2,by rw [h.length];exact jf hl⟩⟩
 obtain ⟨x,hx,dx⟩:=h.get e
 refine ⟨⟨xs,x,q2,hx⟩,fun y H'' z=>?_⟩
 obtain ⟨rfl,z⟩:=z
 have:=z xs q2
 rw [hx] at this;cases this
 exact ⟨G',Ext.refl s2,Den.mono s1 d dx⟩
theorem Ay {K:PySem.W.Frag} {G:Hp} {a:Addr} {xs:List V} {ds:List Da} (q:G a=some (.tup xs)) (h:bP K G ds xs):zC K (Itt K a) ds G:=by
 intro i G' H' s1 s2
 have q2:SqT K H' a xs:=SqT.of ((s1.trans s2) _ _ q)
 refine ⟨fun d e=>?_,fun hl=>⟨xs,q2,by rw [h.length];exact jf hl⟩⟩
 obtain ⟨x,hx,dx⟩:=h.get e
 refine ⟨⟨xs,x,q2,hx⟩,fun y H'' z=>?_⟩
 obtain ⟨rfl,z⟩:=z
 have:=z xs q2
 rw [hx] at this;cases this
 exact ⟨G',Ext.refl s2,Den.mono s1 d dx⟩
def dq (lo:Int):Nat->List Da
 | 0=>[]
 | n+1=>.int lo::dq (lo+1) n
theorem kZ:∀ (n:Nat) (lo:Int),(dq lo n).length=n
 | 0,_=>rfl
 | n+1,lo=>by unfold dq;rw [aD,kZ n]
theorem ld:∀ (n:Nat) (lo:Int) (i:Nat) (d:Da),(dq lo n)[i]?=some d->d=.int (lo+i)/\i<n
 | 0,_,_,_,h=>by simp [dq] at h
 | n+1,lo,0,d,h=>by unfold dq at h;simp at h;subst h;exact ⟨by simp,by lia⟩
 | n+1,lo,i+1,d,h=>by
   unfold dq at h
   rw [bz] at h
   obtain ⟨e,l⟩:=ld n (lo+1) i d h
   refine ⟨?_,by lia⟩
   rw [e]
   congr 1
   push_cast
   lia
theorem qb {K:PySem.W.Frag} {G:Hp} {lo:Int} {n:Nat}:zC K (Itr lo n) (dq lo n) G:=by
 intro i G' H' s1 s2
 refine ⟨fun d e=>?_,fun hl=>?_⟩
 ·obtain ⟨rfl,hi⟩:=ld n lo i d e
  refine ⟨hi,fun y H'' z=>?_⟩
  obtain ⟨rfl,rfl⟩:=z
  exact ⟨G',Ext.refl s2,rfl⟩
 ·rw [kZ] at hl;exact jf hl
def Itd (a:Addr) (o:Obj) (kvs:List (Key×V)):It :=
 ⟨fun i H=>H a=some (.frz o (.dK kvs))/\i<kvs.length,fun i H x H'=>H'=H/\∃ kv,kvs[i]?=some kv/\x=kV kv.1,fun i H=>H a=some (.frz o (.dK kvs))/\kvs.length=i⟩
theorem yu {K:PySem.W.Frag} {G:Hp} {a:Addr} {o:Obj} {kvs:List (Key×V)} (q:G a=some (.frz o (.dK kvs))):zC K (Itd a o kvs) (kvs.map fun kv=>fW kv.1) G:=by
 intro i G' H' s1 s2
 have q2:=(s1.trans s2) _ _ q
 refine ⟨fun d e=>?_,fun hl=>⟨q2,by rw [ab] at hl;exact hl⟩⟩
 rw [av] at e
 cases z:kvs[i]? with
 | none=>rw [z] at e;cases e
 | some kv =>
   rw [z] at e
   cases e
   refine ⟨⟨q2,(al.mp z).1⟩,fun y H'' w=>?_⟩
   obtain ⟨rfl,kv',e',rfl⟩:=w
   rw [z] at e';cases e'
   exact ⟨G',Ext.refl s2,sN _⟩
theorem mn {pins:List (Addr×Obj)} {σ:St} {H:Hp} {s:Shared} {a:Addr} {o:Obj} {kvs:List (Key×V)} (I:Inv X pins σ H s) (q:H a=some (.frz o (.dK kvs))) :
 s.heap.get? a=some o/\(a == sysModules)=false/\∃ vs,KV kvs vs/\s.heap.DictOf (cz X.prog X.w) a vs:=by
 obtain ⟨e,_,hd,vs,r,dd⟩:=I.hok a _ q
 exact ⟨e,hd,vs,r,dd⟩
theorem tp {P:Program} {w:World} {K:PySem.W.Frag} {tg:Expr} (a it:Addr) (o:Obj) (kvs:List (Key×V)) (vs:List (Key×Value)) (ep:Nat) (es:Array DictEntry) (hd:o.data=.dict es ep) (rel:KV kvs vs) :
 xw P w K tg (Itd a o kvs) [it] it (fun i h=>h.IsKeyIter it a i vs.length ep) where
 mem:=by simp
 obj:=fun i h st b hb=>by
  have e:b=it:=by simpa using hb
  subst e
  obtain ⟨o,e,c,d⟩:=st
  exact ⟨o,e,fun v z=>by rw [d] at z;cases z⟩
 keep:=fun i h h' st k=>st.at fun o e=>k it (by simp) o e
 item:=by
  intro X hP hw hK hc i pins s σ H E I hf st hg
  subst hP hw hK
  obtain ⟨hq,hi⟩:=hg
  obtain ⟨ho,hm,vs',rel',dd⟩:=mn I hq
  obtain ⟨f0,f1,f2,f3,f4,f5⟩:=hf it (by simp)
  have hkv:∃ kv,kvs[i]?=some kv:=⟨kvs[i],by simp [hi]⟩
  obtain ⟨kv,hkv⟩:=hkv
  have hv:∃ kv',vs'[i]?=some kv'/\kv'.1=kv.1:=by
   have hl:=Paired.length rel'
   have:i<vs'.length:=by lia
   refine ⟨vs'[i],by simp [this],?_⟩
   have e:=rel'.keys
   have e2:=congrArg (fun l=>l[i]?) e
   simp only [av,hkv,Option.map_some] at e2
   rw [ae this] at e2
   simpa using e2.symm
  obtain ⟨⟨k',x'⟩,hv,hk⟩:=hv
  obtain ⟨o2,es2,ep2,e2,r2⟩:=dd
  rw [ho] at e2;cases e2
  have hep:ep2=ep:=by
   have:=r2.2.1
   rw [hd] at this;cases this;rfl
  subst hep
  have hlen:vs.length=vs'.length:=by rw [<- Paired.length rel,<- Paired.length rel']
  rw [hlen] at st
  refine wpAny_pyNext_dict_item (knd:=cz X.prog X.w) st ⟨o,es2,ho,r2⟩ hv fun key h' hkey st' sb=>?_
  have I1:Inv X pins σ H { s with heap:=h' }:=I.turned (t':=s.toks) (fun b o hb e=>(sb.2 b hb).trans e) f0 f1 f3 f4 f5
  obtain ⟨oi,ei,ci,di⟩:=id st'
  rw [<- hlen] at st'
  refine ⟨key,rfl,u5 (s:={ s with heap:=h' }) ei ci di (by decide) ⟨kV kv.1,H,I1,?_,⟨rfl,kv,hkv,rfl⟩,st',fun b hb=>(hf b hb).1⟩⟩
  dsimp only at hk
  subst hk
  rcases cn (show mQ kv.1 key=true from hkey) with ⟨z,t,e1,e2⟩ | ⟨z,t,e1,e2⟩
  ·rw [e1,e2];exact ⟨t,rfl⟩
  ·rw [e1,e2];exact ⟨t,rfl⟩
 done:=by
  intro X hP hw hK hc i pins s σ H E I hf st hg
  subst hP hw hK
  obtain ⟨hq,hi⟩:=hg
  obtain ⟨ho,hm,vs',rel',dd⟩:=mn I hq
  obtain ⟨f0,f1,f2,f3,f4,f5⟩:=hf it (by simp)
  obtain ⟨o2,es2,ep2,e2,r2⟩:=dd
  rw [ho] at e2;cases e2
  have hep:ep2=ep:=by
   have:=r2.2.1
   rw [hd] at this;cases this;rfl
  subst hep
  have hlen:vs.length=vs'.length:=by rw [<- Paired.length rel,<- Paired.length rel']
  rw [hlen] at st
  have hl:=Paired.length rel'
  exact wpAny_pyNext_dict_end (knd:=cz X.prog X.w) (I.ok.hd hc) st ⟨o,es2,ho,r2⟩ (bG (by lia)) fun h' eb=>⟨rfl,I.turned (t':=s.toks) (fun b o hb e=>eb b o hb e) f0 f1 f3 f4 f5⟩
 self:=fun _ _ _ _ _ st h=>wpAny_pyIter_keyiter st h
def b7 (f:Rho->Option Rv):Rho->Option (List Da):=fun ρ=>match f ρ with
 | some (.pu,.lst ds)=>some ds
 | some (.pu,.tup ds)=>some ds
 | some (.pu,.dK ks _)=>some (ks.map fW)
 | _=>none
theorem um (he:PX X e f):PXI X tg e (b7 f):=by
 intro pins s σ H R I ⟨B,G,ρ,ds,sg,sb,st,eq,k⟩
 unfold b7 at eq
 split at eq
 ·rename_i ds' q
  cases eq
  refine yk he pins s σ H R I ⟨B,G,ρ,_,sg,sb,st,q,fun v G1 H1 E1 r1=>?_⟩
  obtain ⟨a,xs,rfl,q1,d1⟩:=r1
  exact ⟨a,rfl,⟨xs,E1.gh.seq q1⟩,k _ G1 H1 E1 (zT q1 d1 fun _ _ _ _=>.inr trivial)⟩
 ·rename_i ds' q
  cases eq
  refine Bl he pins s σ H R I ⟨B,G,ρ,_,sg,sb,st,q,fun v G1 H1 E1 r1=>?_⟩
  obtain ⟨a,xs,rfl,q1,d1⟩:=r1
  exact ⟨a,rfl,⟨xs,SqT.of (E1.gh _ _ q1)⟩,k _ G1 H1 E1 (Ay q1 d1)⟩
 ·rename_i ks vs q
  cases eq
  refine thn (he pins s σ H (fun v H1=>∃ G1,Ext G H G1 H1/\eu X.K B H G1 H1 (.pu,.dK ks vs) v) I ⟨B,G,ρ,_,sg,sb,st,q,fun v G1 H1 E1 r1=>⟨G1,E1,r1⟩⟩) fun u s1 ⟨v,H1,I1,rv,G1,E1,r1⟩=>?_
  obtain ⟨a,o,kvs,rfl,q1,ek,d1⟩:=r1
  cases rv
  have q2:=E1.gh _ _ q1
  obtain ⟨ho,hm,vs',rel,dd⟩:=mn I1 q2
  obtain ⟨o2,es,ep,e2,r2⟩:=dd
  rw [ho] at e2;cases e2
  have hks:ks.map fW=kvs.map fun kv=>fW kv.1:=by rw [<- ek,aS];rfl
  refine wpAny_pyIter_dict (knd:=cz X.prog X.w) hm ⟨o,es,ho,r2⟩ ?_
  refine ⟨s1.heap.objs.size,[s1.heap.objs.size],_,Itd a o kvs,H1,rfl,I1.kept (t':=s1.toks) fun b o e=>aa _ e,tp a _ o kvs vs' ep es r2.2.1 rel,⟨_,af _ rfl,rfl,rfl⟩,fun b hb=>?_,k _ G1 H1 E1 (by rw [hks];exact yu q1)⟩
  have e:b=s1.heap.objs.size:=by simpa using hb
  subst e
  exact I1.fpOk (aj _) (I1.hok.fresh (aj _))
 ·cases eq
def mB (f:Rho->Option (List Rv)):Rho->Option (List Da):=fun ρ=>match f ρ with
 | some [(_,.int j)]=>if -(2 ^ 62)<=j/\j<2 ^ 62 then some (dq 0 j.toNat) else none
 | _=>none
def xn (f:Rho->Option (List Rv)):Rho->Option (List Da):=fun ρ=>match f ρ with
 | some [(_,.int i),(_,.int j)]=>if -(2 ^ 62)<=i/\i<2 ^ 62/\-(2 ^ 62)<=j/\j<2 ^ 62 then some (dq i (j-i).toNat) else none
 | _=>none
theorem PI.imp {X:Cx} {tg e:Expr} {t t':TI} (h:PI X tg e t) (i:∀ σ H R,t' σ H R->t σ H R):PI X tg e t':=fun pins s σ H R I q=>h pins s σ H R I (i σ H R q)
theorem kM {a:Expr} {p:Pos} {g:Rho->Option (List Rv)} (hg:Gl X "range") (hm:X.mg "range" = none) (ha:PXA X [a] g) (hs:starEach [a] X.env=[(false,eval a X.env)]:=by exact aX rfl):PXI X tg (.Call (.Name "range" p) [a] [] pos) (mB g) :=
 PI.imp (uf hg hm ha hs) fun σ H R ⟨B,G,ρ,ds,sg,sb,st,eq,k⟩=>by
  unfold mB at eq
  split at eq
  ·rename_i kd j q
   split at eq
   ·rename_i hb
    cases eq
    refine ⟨B,G,ρ,_,sg,sb,st,q,fun vs G1 H1 E1 r1=>?_⟩
    obtain ⟨v,rfl,r⟩:=du.one r1
    cases r.int
    exact ⟨j,rfl,hb.1,hb.2,k _ G1 H1 E1 qb⟩
   ·cases eq
  ·cases eq
theorem rB {a b:Expr} {p:Pos} {g:Rho->Option (List Rv)} (hg:Gl X "range") (hm:X.mg "range" = none) (ha:PXA X [a,b] g) (hs:starEach [a,b] X.env=[(false,eval a X.env),(false,eval b X.env)]:=by rfl) (hs2:starEach [b] X.env=[(false,eval b X.env)]:=by rfl) :
 PXI X tg (.Call (.Name "range" p) [a,b] [] pos) (xn g) :=
 PI.imp (uJ hg hm ha hs hs2) fun σ H R ⟨B,G,ρ,ds,sg,sb,st,eq,k⟩=>by
  unfold xn at eq
  split at eq
  ·rename_i k1 i k2 j q
   split at eq
   ·rename_i hb
    cases eq
    refine ⟨B,G,ρ,_,sg,sb,st,q,fun vs G1 H1 E1 r1=>?_⟩
    obtain ⟨v,v2,rfl,r,r2⟩:=du.two r1
    cases r.int
    cases r2.int
    exact ⟨i,j,rfl,hb,k _ G1 H1 E1 qb⟩
   ·cases eq
  ·cases eq
end
def gX (K:PySem.W.Frag) (t:Da->Rho->Option Rho):TG:=fun v σ H Q=>∃ B G0 G ρ d ρ',Ext G0 B G H/\fm K B G H σ ρ/\Den K G d v/\t d ρ=some ρ'/\∀ σ',fm K B G H σ' ρ'->Q σ' H
def gXs (K:PySem.W.Frag) (t:List Da->Rho->Option Rho):TGs:=fun vs σ H Q=>∃ B G0 G ρ ds ρ',Ext G0 B G H/\fm K B G H σ ρ/\bP K G ds vs/\t ds ρ=some ρ'/\∀ σ',fm K B G H σ' ρ'->Q σ' H
abbrev PXG (X:Cx) (tg:Expr) (t:Da->Rho->Option Rho):Prop:=PG X tg (gX X.K t)
abbrev x8 (X:Cx) (ts:List Expr) (t:List Da->Rho->Option Rho):Prop:=PGs X ts (gXs X.K t)
theorem PG.imp {X:Cx} {tg:Expr} {t t':TG} (h:PG X tg t) (i:∀ v σ H Q,t' v σ H Q->t v σ H Q):PG X tg t':=fun pins s σ H v u Q I r q=>h pins s σ H v u Q I r (i v σ H Q q)
theorem PGs.imp {X:Cx} {tg:List Expr} {t t':TGs} (h:PGs X tg t) (i:∀ v σ H Q,t' v σ H Q->t v σ H Q):PGs X tg t':=fun pins s σ H v u Q I r q=>h pins s σ H v u Q I r (i v σ H Q q)
section
variable {X:Cx} {pos:Pos}
def tgN (i:Nat):Da->Rho->Option Rho:=fun d ρ=>some (ρ.set i (.pu d))
theorem wI {i:Nat} {x:Str} (hN:X.N.Nodup) (hi:X.N[i]?=some x:=by rfl) (hx:Loc X.env.scope x:=by first | exact Or.inl rfl | exact Or.inr rfl) (hf:X.fn x=true\/X.env.scope.names.lookup x=some .local:=by first | exact .inl rfl | exact .inr rfl | assumption):PXG X (.Name x pos) (tgN i) :=
 PG.imp (lG hN hi hx hf) fun v σ H Q ⟨B,G0,G,ρ,d,ρ',E,st,dv,e,k⟩=>by cases e;exact k _ (st.setPu dv)
def kC:List Da->Rho->Option Rho
 | [],ρ=>some ρ
 | _,_=>none
def fA (t:Da->Rho->Option Rho) (u:List Da->Rho->Option Rho):List Da->Rho->Option Rho
 | d::ds,ρ=>match t d ρ with
   | some ρ'=>u ds ρ'
   | none=>none
 | [],_=>none
theorem yR:x8 X [] kC:=PGs.imp uZ fun v σ H Q ⟨B,G0,G,ρ,ds,ρ',E,st,dv,e,k⟩=>by
 unfold kC at e
 split at e
 ·cases e;exact ⟨dv,k _ st⟩
 ·cases e
theorem vF {e:Expr} {es:List Expr} {t:Da->Rho->Option Rho} {u:List Da->Rho->Option Rho} (h1:PXG X e t) (h2:x8 X es u) (hs:(assignEach (e::es) X.env).map (·.2)=assign e X.env::(assignEach es X.env).map (·.2):=by rfl):x8 X (e::es) (fA t u) :=
 PGs.imp (lH h1 h2 hs) fun v σ H Q ⟨B,G0,G,ρ,ds,ρ',E,st,dv,eq,k⟩=>by
  unfold fA at eq
  split at eq
  ·rename_i d ds'
   obtain ⟨x,r,rfl,d1,d2⟩:=dv
   split at eq
   ·rename_i ρ1 e1
    exact ⟨x,r,rfl,B,G0,G,ρ,d,ρ1,E,st,d1,e1,fun σ' st'=>⟨B,G0,G,ρ1,ds',ρ',E,st',d2,eq,k⟩⟩
   ·cases eq
  ·cases eq
def tgT (n:Nat) (t:List Da->Rho->Option Rho):Da->Rho->Option Rho
 | .tup ds,ρ=>if ds.length=n then t ds ρ else none
 | _,_=>none
theorem yq {es:List Expr} {k n:Nat} {t:List Da->Rho->Option Rho} (hc:X.calm=true) (h:x8 X es t) (hn:(assignEach es X.env).length=n:=by rfl) (hst:(assignEach es X.env).findIdx? (·.1)=none:=by rfl):PXG X (.Tuple es k pos) (tgT n t) :=
 PG.imp (xx hc h hn hst) fun v σ H Q ⟨B,G0,G,ρ,d,ρ',E,st,dv,eq,kk⟩=>by
  unfold tgT at eq
  split at eq
  ·rename_i ds
   split at eq
   ·rename_i hl
    obtain ⟨a,xs,rfl,q,dl⟩:=dv
    exact ⟨a,xs,rfl,SqT.of (E.gh _ _ q),by rw [dl.length];exact hl,B,G0,G,ρ,ds,ρ',E,st,dl,eq,kk⟩
   ·cases eq
  ·cases eq
def DV (f:Rho->Option Rv) (t:Da->Rho->Option Rho):Rho->Res:=fun ρ=>match f ρ with
 | some r=>if cD r=true then (match t r.2 ρ with
   | some ρ'=>.nx ρ'
   | none=>.bad) else .bad
 | none=>.bad
end
def vx (t:Da->Rho->Option Rho) (g:Rho->Res):List Da->Rho->Res
 | [],ρ=>.nx ρ
 | d::ds,ρ=>match t d ρ with
   | none=>.bad
   | some ρ1=>match g ρ1 with
     | .nx ρ2=>vx t g ds ρ2
     | .ct ρ2=>vx t g ds ρ2
     | .bk ρ2=>.nx ρ2
     | .rt d=>.rt d
     | .bad=>.bad
def lf (f:Rho->Option (List Da)) (t:Da->Rho->Option Rho) (g:Rho->Res):Rho->Res:=fun ρ=>match f ρ with
 | some ds=>vx t g ds ρ
 | none=>.bad
theorem yD {X:Cx} {tg iter:Expr} {body:List Stmt} {f:Rho->Option (List Da)} {t:Da->Rho->Option Rho} {g:Rho->Res} {pos:Pos} (hp:PassesOwn (model X.prog X.w) X.A X.env X.xe) (hc:X.calm=true) (hi:PXI X tg iter f) (hg:PXG X tg t) (hb:p4 X body g)
 (hs:∀ x,foldedSetIterable iter X.env x=pure x:=by intro _;rfl):PXS X (.For tg iter body [] pos) (lf f t g):=PS.imp (xG hp hc hi hg hb hs) fun D σ H ⟨B,G0,G,ρ,E,st,k⟩=>by
 unfold lf at k
 cases q:f ρ with
 | none=>rw [q] at k;exact k.elim
 | some ds =>
   rw [q] at k
   dsimp only at k
   refine ⟨B,G,ρ,ds,E.gh,E.hh,st,q,fun J G1 H1 E1 it=>?_⟩
   refine ⟨fun i m σ' H'=>m=ds.length-i/\i<=ds.length/\∃ G' ρ',Ext G0 B G' H'/\bQ G1 G'/\fm X.K B G' H' σ' ρ'/\xO X.K B G0 G D (vx t g (ds.drop i) ρ'),⟨ds.length,by simp,aT _,G1,ρ,E.trans E1,bQ.refl _,st.ext E1,by rw [Dv];exact k⟩,?_⟩
   rintro i m σ' H' ⟨rfl,hi',G',ρ',E',s1,st',k'⟩
   have s2:bQ G G':=E1.gg.trans s1
   by_cases hlt:i<ds.length
   ·obtain ⟨d,hd⟩:∃ d,ds[i]?=some d:=⟨ds[i],by simp [hlt]⟩
    have hdrop:ds.drop i=d::ds.drop (i+1):=by
     rw [gv hlt]
     congr 1
     rw [ae hlt] at hd
     exact Option.some.inj hd
    rw [hdrop] at k'
    unfold vx at k'
    cases et:t d ρ' with
    | none=>rw [et] at k';exact k'.elim
    | some ρ1 =>
      rw [et] at k'
      dsimp only at k'
      obtain ⟨hgo,hy⟩:=(it i G' H' s1 E'.gh).1 d hd
      refine .inr ⟨hgo,fun σ3 H3=>i+1<=ds.length/\∃ G3 ρ3,Ext G0 B G3 H3/\bQ G1 G3/\fm X.K B G3 H3 σ3 ρ3/\xO X.K B G0 G D (vx t g (ds.drop (i+1)) ρ3),fun σ3 H3 z=>⟨ds.length-(i+1),by lia,rfl,z⟩,fun x H2 yl=>?_⟩
      obtain ⟨G2,E2,dx⟩:=hy x H2 yl
      refine ⟨B,G0,G2,ρ',d,ρ1,E'.trans E2,st'.ext E2,dx,et,fun σ2 st2=>⟨B,G0,G2,ρ1,E'.trans E2,st2,?_⟩⟩
      have s3:bQ G1 G2:=s1.trans E2.gg
      have s4:bQ G G2:=s2.trans E2.gg
      cases eg:g ρ1 with
      | nx ρ2=>rw [eg] at k';exact fun σ3 G3 H3 E3 t3 st3=>⟨hlt,G3,ρ2,E3,s3.trans t3,st3,k'⟩
      | ct ρ2=>rw [eg] at k';exact fun σ3 G3 H3 E3 t3 st3=>⟨hlt,G3,ρ2,E3,s3.trans t3,st3,k'⟩
      | bk ρ2=>rw [eg] at k';exact fun σ3 G3 H3 E3 t3 st3=>k' σ3 G3 H3 E3 (s4.trans t3) st3
      | rt d=>rw [eg] at k';exact fun σ3 G3 H3 E3 t3 st3=>k' σ3 G3 H3 E3 (s4.trans t3) st3
      | bad=>rw [eg] at k';exact k'
   ·have e:i=ds.length:=by lia
    subst e
    rw [Cb] at k'
    exact .inl ⟨(it ds.length G' H' s1 E'.gh).2 rfl,k' σ' G' H' E' s2 st'⟩
def gB (t:Rho->Option Bool) (g:Rho->Res):Nat->Rho->Res
 | 0,_=>.bad
 | n+1,ρ=>match t ρ with
   | none=>.bad
   | some false=>.nx ρ
   | some true=>match g ρ with
     | .nx ρ2=>gB t g n ρ2
     | .ct ρ2=>gB t g n ρ2
     | .bk ρ2=>.nx ρ2
     | .rt d=>.rt d
     | .bad=>.bad
theorem tj {X:Cx} {c:Expr} {body:List Stmt} {t:Rho->Option Bool} {g:Rho->Res} {pos:Pos} (n:Nat) (hp:PassesOwn (model X.prog X.w) X.A X.env X.xe) (hc:PXT X c t) (hb:p4 X body g):PXS X (.While c body [] pos) (gB t g n) :=
 PS.imp (wE hp hc hb) fun D σ H ⟨B,G0,G,ρ,E,st,k⟩=>by
  refine ⟨fun m σ' H'=>∃ G' ρ',Ext G0 B G' H'/\bQ G G'/\fm X.K B G' H' σ' ρ'/\xO X.K B G0 G D (gB t g m ρ'),⟨n,G,ρ,E,bQ.refl _,st,k⟩,?_⟩
  rintro m σ' H' ⟨G',ρ',E',s1,st',k'⟩
  cases m with
  | zero=>exact k'.elim
  | succ m =>
    unfold gB at k'
    cases et:t ρ' with
    | none=>rw [et] at k';exact k'.elim
    | some b =>
      rw [et] at k'
      refine ⟨B,G',ρ',b,E'.gh,E'.hh,st',et,fun G2 H2 E2=>?_⟩
      cases b with
      | false=>rw [if_neg ah];exact k' σ' G2 H2 (E'.trans E2) (s1.trans E2.gg) (st'.ext E2)
      | true =>
        rw [if_pos rfl]
        dsimp only at k'
        refine ⟨fun σ3 H3=>∃ G3 ρ3,Ext G0 B G3 H3/\bQ G G3/\fm X.K B G3 H3 σ3 ρ3/\xO X.K B G0 G D (gB t g m ρ3),fun σ3 H3 z=>⟨m,cY _,z⟩,B,G0,G2,ρ',E'.trans E2,st'.ext E2,?_⟩
        have s4:bQ G G2:=s1.trans E2.gg
        cases eg:g ρ' with
        | nx ρ2=>rw [eg] at k';exact fun σ3 G3 H3 E3 t3 st3=>⟨G3,ρ2,E3,s4.trans t3,st3,k'⟩
        | ct ρ2=>rw [eg] at k';exact fun σ3 G3 H3 E3 t3 st3=>⟨G3,ρ2,E3,s4.trans t3,st3,k'⟩
        | bk ρ2=>rw [eg] at k';exact fun σ3 G3 H3 E3 t3 st3=>k' σ3 G3 H3 E3 (s4.trans t3) st3
        | rt d=>rw [eg] at k';exact fun σ3 G3 H3 E3 t3 st3=>k' σ3 G3 H3 E3 (s4.trans t3) st3
        | bad=>rw [eg] at k';exact k'
def cZ (n:Nat) (ds:List Da):Rho:=ds.map Sl.pu++Ds (n-ds.length) .no
def io (n:Nat) (g:Rho->Res) (ds:List Da):Option Da:=match g (cZ n ds) with
 | .rt d=>some d
 | .nx _=>some .non
 | _=>none
theorem qx {K:PySem.W.Frag} {B G H:Hp} {N:List Str} {ds:List Da} {vs:List V} (tg:Tbs K G) (h:bP K G ds vs):fm K B G H (L2.start N vs) (cZ N.length ds):=by
 have hl:=h.length
 refine ⟨?_,fun i d e=>?_,fun i d e=>?_,fun i j d d' l _ e=>?_,tg⟩
 ·unfold L2.start cZ
  rw [aF,aF,ab,ab,iO,iO,hl]
 ·unfold cZ at e
  by_cases hi:i<ds.length
  ·rw [cb (by simpa using hi),av] at e
   cases q:ds[i]? with
   | none=>rw [q] at e;cases e
   | some d' =>
     rw [q] at e
     cases e
     obtain ⟨v,hv,dv⟩:=h.get q
     refine ⟨v,?_,dv⟩
     unfold L2.start
     rw [cb (by rw [ab,hl];exact hi),av,hv]
     rfl
  ·rw [bC (by simpa using hi),hV] at e
   split at e<;>cases e
 all_goals
  exfalso
  unfold cZ at e
  by_cases hi:i<ds.length
  ·rw [cb (by simpa using hi),av] at e
   cases q:ds[i]? with
   | none=>rw [q] at e;cases e
   | some d'=>rw [q] at e;cases e
  ·rw [bC (by simpa using hi),hV] at e
   split at e<;>cases e
theorem xf {P:Program} {w:World} {K:PySem.W.Frag} {mg:Str->Option Value} {base:Heap} {x qual:Str} {st:Stmt} {f:Addr} {fd:FuncData} {N ps:List Str} {k n:Nat} {g:Rho->Res} (F:Fun K x qual st f fd) (S:cp N ps (aC st)) (hn:ps.length=n)
 (hbody:∀ (cdv:Value) (A:Around) (outer:List Env) (s:Shared) (H:Hp) (E:XK),fq k (A.deeper (envOfC qual (aC st) s.heap.objs.size f cdv))->p4 (jD CX0 P w K mg base N qual (aC st) f cdv A outer s H E).nox (bw st) g) :
 rp P w K mg base CX0 (k+1) f fd ps (spD K n (io N.length g)):=by
 refine F.ok S (fun vs H Q E ⟨G,ds,d,hl,sg,_,dl,_⟩=>by rw [dl.length,hl,hn]) fun cdv A outer s H vs Q E hr ⟨G,ds,d,hl,sg,tg,dl,ef,k⟩=>?_
 refine ⟨_,hbody cdv A outer s H E hr,H,G,G,cZ N.length ds,Ext.refl sg,qx tg dl,?_⟩
 unfold io at ef
 split at ef
 ·rename_i d' q
  cases ef
  rw [q]
  exact fun v G' H' E' _ dv=>k v G' H' E' dv
 ·rename_i ρ q
  cases ef
  rw [q]
  exact fun σ G' H' E' _ _=>k .non G' H' E' rfl
 ·cases ef
end Ry
namespace Ry
open PySem PySem.Spec PyProof.Rows L2
def dz (cells:List (Str×Addr)):List (Str×NameKind)->List (Str×Addr)->List (Str×Addr)
 | [],acc=>acc
 | (x,k)::r,acc=>if k == .free then dz cells r ((x,(cells.lookup x).getD 0)::acc) else dz cells r acc
theorem gK {env:Env} (f:Str×NameKind->List (Str×Addr)->Sem (ForInStep (List (Str×Addr))))
 (hf:∀ name kind cs,f (name,kind) cs=if kind == .free then (do let a <- cellOf env name;pure (.yield ((name,a)::cs))) else pure (.yield cs)) :
 ∀ (names:List (Str×NameKind)) (acc:List (Str×Addr)),(∀ y∈names,y.2=.free->∃ c,env.cells.lookup y.1=some c)->forIn names acc f=pure (dz env.cells names acc)
 | [],acc,_=>by rw [Dw];rfl
 | (x,k)::r,acc,h=>by
   rw [List.forIn_cons,hf]
   unfold dz
   by_cases hk:(k == NameKind.free)=true
   ·obtain ⟨c,hc⟩:=h (x,k) ak (by simpa using hk)
    rw [if_pos hk,if_pos hk]
    have e:cellOf env x=pure c:=by unfold cellOf;rw [show env.cells.lookup x=some c from hc]
    rw [e]
    simp only [pure_bind]
    rw [show (env.cells.lookup x).getD 0=c by rw [show env.cells.lookup x=some c from hc];rfl]
    exact gK f hf r _ fun y hy=>h y (ai _ hy)
   ·rw [if_neg hk,if_neg hk]
    simp only [pure_bind]
    exact gK f hf r _ fun y hy=>h y (ai _ hy)
theorem gW {scope:Scope} {env:Env} (h:∀ y∈scope.names,y.2=.free->∃ c,env.cells.lookup y.1=some c):closureFor scope env=pure (dz env.cells scope.names []):=by
 show (forIn scope.names ([]:List (Str×Addr)) (fun x cs=>match x with
  | (name,kind)=>if (kind == NameKind.free)=true then (do let a <- cellOf env name;pure (ForInStep.yield ((name,a)::cs))) else pure (ForInStep.yield cs))>>=fun cs=>pure cs)=_
 rw [gK (env:=env) _ (fun _ _ _=>rfl) scope.names [] h]
 rfl
theorem gQ {cells:List (Str×Addr)}:∀ (names:List (Str×NameKind)) (acc:List (Str×Addr)) {x:Str} {c:Addr},(∀ y∈names,y.2=.free->∃ c,cells.lookup y.1=some c) ->
 (dz cells names acc).lookup x=some c->cells.lookup x=some c\/acc.lookup x=some c
 | [],_,_,_,_,h=>.inr h
 | (n,k)::r,acc,x,c,hc,h=>by
   unfold dz at h
   split at h
   ·rename_i hk
    rcases gQ r _ (fun y hy=>hc y (ai _ hy)) h with q | q
    ·exact .inl q
    ·rw [bX] at q
     cases hb:x == n with
     | true =>
       rw [hb] at q
       have e:x=n:=beq_iff_eq.mp hb
       subst e
       obtain ⟨c',h'⟩:=hc (x,k) ak (by simpa using hk)
       have h':cells.lookup x=some c':=h'
       rw [h'] at q
       cases q
       exact .inl h'
     | false=>rw [hb] at q;exact .inr q
   ·exact gQ r _ (fun y hy=>hc y (ai _ hy)) h
theorem fV {cells:List (Str×Addr)}:∀ (names:List (Str×NameKind)) (acc:List (Str×Addr)) {x:Str},(∀ y∈names,y.2=.free->∃ c,cells.lookup y.1=some c) ->
 ((x,NameKind.free)∈names\/acc.lookup x=cells.lookup x)->(dz cells names acc).lookup x=cells.lookup x
 | [],_,_,_,h=>by
   rcases h with h | h
   ·simp at h
   ·exact h
 | (n,k)::r,acc,x,hc,h=>by
   unfold dz
   have hr:∀ y∈r,y.2=.free->∃ c,cells.lookup y.1=some c:=fun y hy=>hc y (ai _ hy)
   split
   ·rename_i hk
    refine fV r _ hr ?_
    by_cases hx:x=n
    ·subst hx
     obtain ⟨c',h'⟩:=hc (x,k) ak (by simpa using hk)
     have h':cells.lookup x=some c':=h'
     refine .inr ?_
     rw [bX,beq_self_eq_true,h']
     rfl
    ·rcases h with h | h
     ·rcases ag.mp h with e | e
      ·cases e;exact absurd rfl hx
      ·exact .inl e
     ·refine .inr ?_
      rw [bX,show (x == n)=false by simpa using hx]
      exact h
   ·rename_i hk
    refine fV r _ hr ?_
    rcases h with h | h
    ·rcases ag.mp h with e | e
     ·cases e;exact absurd (beq_self_eq_true _) hk
     ·exact .inl e
    ·exact .inr h
theorem cU:∀ (names:List (Str×NameKind)) (n:Nat) (acc:List (Str×Addr)),cellsFrom n names acc=cellsFrom n names []++acc
 | [],_,_=>rfl
 | (x,k)::r,n,acc=>by
   unfold cellsFrom
   split
   ·rw [cU r (n+1) ((x,n)::acc),cU r (n+1) [(x,n)],bg];rfl
   ·exact cU r n acc
def iS (X:Cx) (scope:Scope) (C:Addr):Env :=
 { scope:=relabel scope X.env,locals:=C,globals:=X.env.globals,cells:=cellsFrom (C+1) scope.names (dz X.env.cells scope.names []),qual:=X.env.qual,func:=none,code:=X.env.code,frame:=X.env.frame,builtins:=X.env.builtins }
def inC (X:Cx) (scope:Scope) (s:Shared) (H:Hp) (fp:List Addr):Cx :=
 { X with N:=scope.names.map (·.1),s₀:=s,H₀:=H,env:=iS X scope s.heap.objs.size,outer:=X.stack,stack:=X.stack,ex:=fp,fn:=fun x=>scope.names.lookup x == some .cell,pn:=[],xe:=fun _ _=>False }
def ox (N:List Str):List (Str×NameKind)->List (Option Nat)->Bool
 | [],[]=>true
 | _::r,none::ix=>ox N r ix
 | (x,k)::r,some j::ix=>(k == .free)&&(N[j]? == some x)&&ox N r ix
 | _,_=>false
def mpS (ix:List (Option Nat)) (σ:St):St:=ix.map fun o=>match o with
 | some j=>(σ[j]?).getD none
 | none=>none
theorem gE {N:List Str}:∀ {names:List (Str×NameKind)} {ix:List (Option Nat)},ox N names ix=true->ix.length=names.length
 | [],[],_=>rfl
 | [],_::_,h=>by cases h
 | _::_,[],h=>by cases h
 | _::r,none::ix,h=>by rw [aD,aD,gE (names:=r) (ix:=ix) h]
 | (x,k)::r,some j::ix,h=>by
   unfold ox at h
   rw [aP] at h
   rw [aD,aD,gE h.2]
theorem fX {N:List Str}:∀ {names:List (Str×NameKind)} {ix:List (Option Nat)} {i j:Nat},ox N names ix=true->ix[i]?=some (some j)->∃ x,names[i]?=some (x,.free)/\N[j]?=some x
 | [],[],_,_,_,e=>by simp at e
 | [],_::_,_,_,h,_=>by cases h
 | _::_,[],_,_,h,_=>by cases h
 | _::r,none::ix,0,_,_,e=>by simp at e
 | _::r,none::ix,i+1,j,h,e=>by simpa using fX (names:=r) (ix:=ix) (i:=i) h (by simpa using e)
 | (x,k)::r,some j'::ix,i,j,h,e=>by
   unfold ox at h
   rw [aP,aP] at h
   cases i with
   | zero =>
     simp at e
     subst e
     refine ⟨x,?_,by simpa using h.1.2⟩
     have:=h.1.1
     simp at this
     simp [this]
   | succ i=>simpa using fX (names:=r) (ix:=ix) (i:=i) h.2 (by simpa using e)
theorem cr {α:Type}:∀ {l:List (Str×α)} {i:Nat} {x:Str} {a:α},(l.map (·.1)).Nodup->l[i]?=some (x,a)->l.lookup x=some a
 | [],_,_,_,_,e=>by simp at e
 | (y,b)::r,0,x,a,_,e=>by simp at e;rw [<- e.1,<- e.2];simp
 | (y,b)::r,i+1,x,a,nd,e=>by
   have e':r[i]?=some (x,a):=by simpa using e
   rw [ax] at nd
   obtain ⟨h1,h2⟩:=be.mp nd
   have hm:(x,a)∈r:=ba e'
   have ne:x≠y:=fun z=>h1 (by rw [<- z];exact bf.mpr ⟨_,hm,rfl⟩)
   rw [bX,show (x == y)=false by simpa using ne]
   exact cr h2 e'
theorem g8 {scope:Scope} {env:Env} {x:Str}:(relabel scope env).names.lookup x=(scope.names.lookup x).map fun k=>if (k == .free&&env.scope.kind == .function&&env.kindOf x == some .cell) then .cell else k:=by
 unfold relabel
 show List.lookup x (scope.names.map _)=_
 generalize scope.names=l
 induction l with
 | nil=>rfl
 | cons p r ih =>
   obtain ⟨n,k⟩:=p
   rw [ax]
   dsimp only
   by_cases hx:x=n
   ·subst hx
    by_cases hc:(k == NameKind.free&&env.scope.kind == .function&&env.kindOf x == some .cell)=true
    ·rw [if_pos hc]
     simp only [bX,beq_self_eq_true,Option.map_some]
     rw [if_pos hc]
    ·rw [if_neg hc]
     simp only [bX,beq_self_eq_true,Option.map_some]
     rw [if_neg hc]
   ·have hb:(x == n)=false:=by simpa using hx
    by_cases hc:(k == NameKind.free&&env.scope.kind == .function&&env.kindOf n == some .cell)=true
    ·rw [if_pos hc];simp only [bX,hb];exact ih
    ·rw [if_neg hc];simp only [bX,hb];exact ih
structure CScope (X:Cx) (scope:Scope) (ix:List (Option Nat)):Prop where
 kind:scope.kind=.function
 nd:(scope.names.map (·.1)).Nodup
 free:∀ y∈scope.names,y.2=.free->X.env.kindOf y.1=some .cell\/X.env.kindOf y.1=some .free
 ix:ox X.N scope.names ix=true
section
variable {X:Cx} {pins:List (Addr×Obj)} {σ:St} {H:Hp} {s:Shared} {scope:Scope} {ix:List (Option Nat)} {fp:List Addr}
theorem CScope.cells (S:CScope X scope ix) (I:Inv X pins σ H s):∀ y∈scope.names,y.2=.free->∃ c,X.env.cells.lookup y.1=some c:=fun y hy hf=>I.ok.has y.1 (S.free y hy hf)
theorem CScope.names (S:CScope X scope ix) {x:Str} {k:NameKind}:(x,k)∈scope.names->scope.names.lookup x=some k:=fun hm=>by
 obtain ⟨i,hi⟩:=List.mem_iff_getElem?.mp hm
 exact cr S.nd hi
theorem kY {M:Model} {A:Around} {E:Value->Shared->Prop} {Q:Env->Shared->Prop} (S:CScope X scope ix) (I:Inv X pins σ H s) (hfp:∀ b∈fp,oG X pins H b/\b<s.heap.objs.size)
 (h:∀ env h',{ env with scope:=relabel scope X.env }=iS X scope s.heap.objs.size->env.locals=s.heap.objs.size->Inv (inC X scope s H fp) [] (mpS ix σ) H { s with heap:=h' }->(∀ b o,s.heap.get? b=some o->h'.get? b=some o)->Q env { s with heap:=h' }) :
 wpAny M A (newFunctionEnv scope X.env.globals (dz X.env.cells scope.names []) [] X.env.qual none .none (some X.env)) Q E s:=by
 simp only [newFunctionEnv,Option.isSome_some,if_true]
 refine wpAny_bind (wpAny_alloc ?_)
 refine wpAny_bind (wpAny_layCells _ (fun name kind cells=>by cases hkc:kind == NameKind.cell<;>simp [hkc]) _ _ _ _ ?_)
 rw [show ({ s with heap:=s.heap.push { cls:=.type "dict",data:=.dict #[] } }:Shared).heap.objs.size=s.heap.objs.size+1 from bV ..]
 refine wpAny_bind ?_
 rw [Dw]
 refine wpAny_pure (wpAny_pure ?_)
 have ok:=cellsFrom_ok scope.names (s.heap.push { cls:=.type "dict",data:=.dict #[] }) (s.heap.objs.size+1) [] ⟨fun _ _ hm=>(nomatch hm),List.Pairwise.nil⟩ (by rw [bV];exact aj _)
 rw [bV] at ok
 have keep:∀ b o,s.heap.get? b=some o->(pushCells (s.heap.push { cls:=.type "dict",data:=.dict #[] }) scope.names).get? b=some o:=fun b o e=>pushCells_keeps _ _ b o (aa _ e)
 have cl:=S.cells I
 have look:∀ x c,(cellsFrom (s.heap.objs.size+1) scope.names (dz X.env.cells scope.names [])).lookup x=some c ->
  ((cellsFrom (s.heap.objs.size+1) scope.names []).lookup x=some c/\s.heap.objs.size+1<=c/\(pushCells (s.heap.push { cls:=.type "dict",data:=.dict #[] }) scope.names).IsCell c none)\/(X.env.cells.lookup x=some c/\c<s.heap.objs.size):=fun x c e=>by
  rw [cU,kj] at e
  cases q:(cellsFrom (s.heap.objs.size+1) scope.names []).lookup x with
  | some c' =>
    rw [q] at e
    cases e
    obtain ⟨e1,e2⟩:=ok.empty x c (mem_of_lookup q)
    exact .inl ⟨rfl,e2,e1⟩
  | none =>
    rw [q] at e
    rcases gQ _ _ cl (show (dz X.env.cells scope.names []).lookup x=some c from e) with z | z
    ·obtain ⟨v,hv⟩:=I.cell x c z
     exact .inr ⟨z,hv.lt⟩
    ·simp at z
 have ownNone:∀ x,scope.names.lookup x=some .free->(cellsFrom (s.heap.objs.size+1) scope.names []).lookup x=none:=fun x hx=>by
  cases q:(cellsFrom (s.heap.objs.size+1) scope.names []).lookup x with
  | none=>rfl
  | some c =>
    exfalso
    have:∀ (names:List (Str×NameKind)) (n:Nat) (acc:List (Str×Addr)),(cellsFrom n names acc).lookup x=some c->(x,NameKind.cell)∈names\/acc.lookup x=some c:=by
     intro names
     induction names with
     | nil=>intro n acc h;exact .inr h
     | cons p r ih =>
       intro n acc h
       obtain ⟨y,k⟩:=p
       unfold cellsFrom at h
       split at h
       ·rename_i hk
        rcases ih _ _ h with z | z
        ·exact .inl (ai _ z)
        ·rw [bX] at z
         cases hb:x == y with
         | true =>
           have e:x=y:=beq_iff_eq.mp hb
           subst e
           have hk':k=.cell:=by simpa using hk
           subst hk'
           exact .inl ak
         | false=>rw [hb] at z;exact .inr z
       ·rcases ih _ _ h with z | z
        ·exact .inl (ai _ z)
        ·exact .inr z
    rcases this _ _ _ q with z | z
    ·rw [S.names z] at hx;cases hx
    ·simp at z
 have freeLook:∀ x,scope.names.lookup x=some .free->(cellsFrom (s.heap.objs.size+1) scope.names (dz X.env.cells scope.names [])).lookup x=X.env.cells.lookup x:=fun x hx=>by
  rw [cU,kj,ownNone x hx,fV _ _ cl (.inl (mem_of_lookup hx))]
  rfl
 refine h _ _ rfl rfl ⟨⟨I.ok.mod,?_,I.ok.glob,I.ok.blt,aj _,fun x y c h1 h2=>?_,fun x hx=>?_,fun x c hf h1=>?_,I.ok.hd,I.ok.frames,.inl rfl,fun b hb=>⟨?_,fun x c h1 z=>?_⟩,I.bs,bH I.ok.bsz I.sz,fun b o e hb=>?_,fun b hb hb2=>?_,I.stack,I.stkFree⟩,
  rfl,I.bare,Un.kept keep,⟨fun _=>none,(Heap.Ns.new s.heap (.type "dict")).keeps (pushCells_keeps _ _),fun i x v e1 e2 e3=>?_⟩,fun x c h1=>?_,I.hok.fresh (aj _),fun x c h1=>?_,fun p hp=>absurd (show p∈([]:List (Addr×Obj)) from hp) (by simp),I.hok.kept keep,?_⟩ keep
 ·exact S.kind
 ·rcases look x c h1 with ⟨a1,a2,_⟩ | ⟨a1,a2⟩<;>rcases look y c h2 with ⟨b1,b2,_⟩ | ⟨b1,b2⟩
  ·exact name_of_addr ok.apart (mem_of_lookup a1) (mem_of_lookup b1)
  ·exact absurd (aM b2 (fG a2)) (br _)
  ·exact absurd (aM a2 (fG b2)) (br _)
  ·exact I.ok.inj x y c a1 b1
 ·
  have hx':scope.names.lookup x=some .cell\/scope.names.lookup x=some .free:=by
   have e:(iS X scope s.heap.objs.size).kindOf x=(relabel scope X.env).names.lookup x:=rfl
   have hx:(relabel scope X.env).names.lookup x=some .cell\/(relabel scope X.env).names.lookup x=some .free:=hx
   rw [g8] at hx
   cases q:scope.names.lookup x with
   | none=>rw [q] at hx;rcases hx with z | z<;>cases z
   | some k =>
     rw [q] at hx
     simp only [Option.map_some] at hx
     by_cases hc:(k == NameKind.free&&X.env.scope.kind == .function&&X.env.kindOf x == some .cell)=true
     ·have:k=.free:=by
       rw [aP,aP] at hc
       simpa using hc.1.1
      exact .inr (by rw [this])
     ·rw [if_neg hc] at hx
      rcases hx with z | z
      ·cases z;exact .inl rfl
      ·cases z;exact .inr rfl
  rcases hx' with hx | hx
  ·have q:=PySem.W.cellsFrom_some scope.names (s.heap.objs.size+1) (dz X.env.cells scope.names []) (.inl hx)
   exact Option.isSome_iff_exists.mp q
  ·obtain ⟨c,hc⟩:=cl _ (mem_of_lookup hx) rfl
   exact ⟨c,(freeLook x hx).trans hc⟩
 ·rcases look x c h1 with ⟨_,a2,_⟩ | ⟨a1,a2⟩
  ·exact fG a2
  ·
   exfalso
   have hf':scope.names.lookup x=some .cell:=by simpa using (show (scope.names.lookup x == some .cell)=true from hf)
   have q:=PySem.W.cellsFrom_some scope.names (s.heap.objs.size+1) ([]:List (Str×Addr)) (.inl hf')
   obtain ⟨c',hc'⟩:=Option.isSome_iff_exists.mp q
   have h1':(cellsFrom (s.heap.objs.size+1) scope.names (dz X.env.cells scope.names [])).lookup x=some c:=h1
   rw [cU,kj,hc'] at h1'
   cases h1'
   have:=(ok.empty x c (mem_of_lookup hc')).2
   exact absurd (aM a2 (fG this)) (br _)
 ·exact aH (hfp b hb).2
 ·have:=(hfp b hb).2
  rcases look x c h1 with ⟨_,a2,_⟩ | ⟨a1,a2⟩
  ·subst z
   exact absurd (aM this (fG a2)) (br _)
  ·exact (hfp b hb).1.2.2.2.2.1 x c a1 z
 ·rcases (hfp b hb).1.2.2.2.1 with z | z
  ·exact I.ok.noex b o e z
  ·have:=au e
   have h2:=I.ok.bsz
   exact absurd (aM this (bH h2 z)) (br _)
 ·rcases ag.mp (I.stkSub b hb2) with z | z
  ·exact (hfp b hb).1.2.1 z
  ·exact (hfp b hb).1.2.2.1 z
 ·
  unfold mpS at e2
  rw [av] at e2
  cases q:ix[i]? with
  | none=>rw [q] at e2;cases e2
  | some o =>
    rw [q] at e2
    cases o with
    | none=>cases e2
    | some j =>
      obtain ⟨x',hx1,hx2⟩:=fX S.ix q
      have ex:x=x':=by
       have e1':(scope.names.map (·.1))[i]?=some x:=e1
       rw [av,hx1] at e1'
       cases e1';rfl
      subst ex
      have hs:σ[j]?=some (some v):=by
       have e2':(σ[j]?).getD none=some v:=by simpa using e2
       cases q2:σ[j]? with
       | none=>rw [q2] at e2';cases e2'
       | some z=>rw [q2] at e2';exact congrArg some e2'
      have hl:=cr S.nd hx1
      have hk:=S.free _ (ba hx1) rfl
      obtain ⟨m,_,hm⟩:=I.loc
      have hvis:Vis X.env.scope x:=by
       rcases hk with z | z
       ·exact .inr (.inl z)
       ·exact .inr (.inr z)
      obtain ⟨u,ru,lk⟩:=hm j x v hx2 hs hvis
      refine ⟨u,ru,.inr ⟨?_,?_⟩⟩
      ·show (relabel scope X.env).names.lookup x=some .cell\/(relabel scope X.env).names.lookup x=some .free
       rw [g8,hl]
       simp only [Option.map_some]
       split
       ·exact .inl rfl
       ·exact .inr rfl
      ·rcases lk with ⟨z,_⟩ | ⟨_,c,hc,hcell⟩
       ·exfalso
        have hk':X.env.kindOf x=some .cell\/X.env.kindOf x=some .free:=hk
        rw [z] at hk'
        rcases hk' with y | y<;>cases y
       ·exact ⟨c,(freeLook x hl).trans hc,hcell.keeps keep⟩
 ·rcases look x c h1 with ⟨_,_,a3⟩ | ⟨a1,_⟩
  ·exact ⟨none,a3⟩
  ·obtain ⟨v,hv⟩:=I.cell x c a1
   exact ⟨v,hv.keeps keep⟩
 ·rcases look x c h1 with ⟨_,a2,_⟩ | ⟨a1,_⟩
  ·exact I.hok.fresh (by lia)
  ·exact I.freeC x c a1
 ·show (mpS ix σ).length=(scope.names.map (·.1)).length
  unfold mpS
  rw [ab,ab,gE S.ix]
end
end Ry
namespace Ry
open PySem PySem.Spec PyProof.Rows L2
def PTS (X:Cx) (ifs:List Expr) (t:TT):Prop :=
 ∀ (pins:List (Addr×Obj)) (s:Shared) (σ:St) (H:Hp) (Q:Bool->Hp->Prop),Inv X pins σ H s->t σ H Q ->
   wpAny (model X.prog X.w) X.A (forIn ifs true fun c r=>if r=true then do let ok <- isTrue c X.env (eval c X.env);pure (ForInStep.yield ok) else pure (ForInStep.yield r)) (TP X pins σ Q) X.xe s
theorem vk {X:Cx}:PTS X [] (fun _ H Q=>Q true H):=fun _ _ _ H _ I h=>wpAny_tests_nil ⟨H,I,h⟩
theorem zd {X:Cx} {c:Expr} {t:TT} (h:PT X c t):PTS X [c] t:=fun pins s σ H Q I q=>wpAny_tests_one (h pins s σ H Q I q)
def rA (mp:St->St) (wi:TI) (g:TG) (tt:TT) (te:TE):TE:=fun σ H Q=>wi σ H fun J H1=>∀ p,H1 p=none->∃ W:Nat->Nat->St->List V->Hp->Prop,(∃ m,W 0 m (mp σ) [] (upd H1 p (.lst []))) /\
 ∀ i m σ2 ys H2,W i m σ2 ys H2->H2 p=some (.lst ys)/\ys.length<sizeLine/\((J.stop i H2/\Q (.ref p) H2)\/(J.go i H2/\∀ x H3,J.yld i H2 x H3->g x σ2 H3 fun σ4 H4=>tt σ4 H4 fun b H5 =>
   if b=true then te σ4 H5 fun y H6=>H6 p=some (.lst ys)/\∃ m',m'<m/\W (i+1) m' σ4 (ys++[y]) (upd H6 p (.lst (ys++[y]))) else ∃ m',m'<m/\W (i+1) m' σ4 ys H5))
structure zl (X:Cx) (scope:Scope) (tg elt:Expr) (ifs:List Expr) (g:TG) (tt:TT) (te:TE):Prop where
 tg:∀ s H fp,PG (inC X scope s H fp) tg g
 ifs:∀ s H fp,PTS (inC X scope s H fp) ifs tt
 elt:∀ s H fp,PE (inC X scope s H fp) elt te
section
variable {X:Cx} {elt tg iter:Expr} {ifs:List Expr} {scope:Scope} {pos:Pos} {ix:List (Option Nat)} {wi:TI} {g:TG} {tt:TT} {te:TE}
theorem nD {pins:List (Addr×Obj)} {σ σ1:St} {H3 H':Hp} {s3 s1:Shared} {fp:List Addr} {pl:List (Addr×Obj)} (I3:Inv X pins σ H3 s3) (f3:∀ b∈fp,oG X pins H3 b) (I1:Inv (inC X scope s3 H3 fp) pl σ1 H' s1):Inv X pins σ H' s1 :=
 I3.call' (ch:=fp) I1.os I1.base I1.hok I1.bare fun b hb=>let ⟨_,a,_,c,d,e⟩:=f3 b hb;⟨c,a,d,e⟩
theorem ny {pins:List (Addr×Obj)} {σ σ1:St} {H3 H':Hp} {s3 s1:Shared} {fp:List Addr} {pl:List (Addr×Obj)} {h':Heap} (I3:Inv X pins σ H3 s3) (f3:∀ b∈fp,oG X pins H3 b) (I1:Inv (inC X scope s3 H3 fp) pl σ1 H' s1)
 {s2:Shared} {σ2:St} (J:Inv X pins σ2 H' s2) (hs:Heap.SameBut s3.heap.objs.size s2.heap h'):Inv X pins σ2 H' { s2 with heap:=h' }:=by
 refine J.turned (t':=s2.toks) (it:=s3.heap.objs.size) (fun b o hb e=>(hs.2 b hb).trans e) I1.free (mC I3.lt) (.inr I3.sz) (fun x c e z=>?_) fun p hp z=>?_
 ·obtain ⟨v,hv⟩:=I3.cell x c e
  exact absurd hv.lt (by rw [z];exact br _)
 ·have:=au (I3.pin p hp).1
  rw [z] at this
  exact absurd this (br _)
theorem nG {R:Result->Shared->Prop} {pins:List (Addr×Obj)} {σ:St} {H3:Hp} {s3 s4:Shared} {fp:List Addr} {it p:Addr} {tn:Nat->Heap->Prop} {J:It} {Q:VK} (hc:X.calm=true) (I3:Inv X pins σ H3 s3) (f3:∀ b∈fp,oG X pins H3 b) (T:xw X.prog X.w X.K tg J fp it tn)
 (B:zl X scope tg elt ifs g tt te) (W:Nat->Nat->St->List V->Hp->Prop)
 (turn:∀ i m σ2 ys H2,W i m σ2 ys H2->H2 p=some (.lst ys)/\ys.length<sizeLine/\((J.stop i H2/\Q (.ref p) H2)\/(J.go i H2/\∀ x H3,J.yld i H2 x H3->g x σ2 H3 fun σ4 H4=>tt σ4 H4 fun b H5 =>
   if b=true then te σ4 H5 fun y H6=>H6 p=some (.lst ys)/\∃ m',m'<m/\W (i+1) m' σ4 (ys++[y]) (upd H6 p (.lst (ys++[y]))) else ∃ m',m'<m/\W (i+1) m' σ4 ys H5)))
 (fin:∀ σ1 H1 s1,Inv (inC X scope s3 H3 fp) [] σ1 H1 s1->Q (.ref p) H1->R (.ok .next) s1)
 (m:Nat) (σ4:St) (I4:Inv (inC X scope s3 H3 fp) [] σ4 H3 s4) (st4:tn 0 s4.heap) (w0:W 0 m σ4 [] H3) :
 codeAny (model X.prog X.w) X.A (.compLoop (.ListComp elt [⟨tg,iter,ifs,0⟩] scope pos) 0 (.ref it) (.ref p) (iS X scope s3.heap.objs.size)) R s4:=by
 have stat:∀ {H':Hp},(∀ b∈fp,H' b=none)->∀ b∈fp,oG (inC X scope s3 H3 fp) [] H' b:=fun {H'} hn b hb=>by
  obtain ⟨a0,a1,a2,a3,a4,a5⟩:=f3 b hb
  have I4':=I4.ok.exf b hb
  refine ⟨hn b hb,I4'.1,fun z=>?_,.inl hb,I4'.2,fun q hq=>absurd (show q∈([]:List (Addr×Obj)) from hq) (by simp)⟩
  exact I4.ok.exfs b hb z
 refine codeAny_loop rfl (fun n s'=>∃ i σ' ys H',Inv (inC X scope s3 H3 fp) [] σ' H' s'/\tn i s'.heap/\(∀ b∈fp,H' b=none)/\W i n σ' ys H') ?_ m ⟨0,σ4,[],H3,I4,st4,fun b hb=>(f3 b hb).1,w0⟩
 rintro n s5 ⟨i,σ5,ys,H5,I5,st5,fr5,w5⟩
 show wpAny _ X.A ((compTurn (.ListComp elt [⟨tg,iter,ifs,0⟩] scope pos) 0 (.ref it) (.ref p) (iS X scope s3.heap.objs.size)).onRaise (fun x=>do noteFrame x (iS X scope s3.heap.objs.size);theTreesLotGoes x)) _ _ s5
 refine wpAny_noted ?_
 rw [compTurn_list]
 obtain ⟨hp,hz,alt⟩:=turn i n σ5 ys H5 w5
 rcases alt with ⟨stop,qn⟩ | ⟨go,step⟩
 ·refine wpAny_bind (wpAny_standAt (wpAny_bind (thn (T.done (inC X scope s3 H3 fp) rfl rfl rfl hc i [] s5 σ5 H5 _ I5 (stat fr5) st5 stop) fun r s6 ⟨hr,I6⟩=>?_)))
  subst hr
  exact wpAny_pure (fin σ5 H5 s6 I6 qn)
 ·refine wpAny_bind (wpAny_standAt (wpAny_bind (thn (T.item (inC X scope s3 H3 fp) rfl rfl rfl hc i [] s5 σ5 H5 _ I5 (stat fr5) st5 go) fun r s6 ⟨u,hr,h6⟩=>?_)))
  subst hr
  refine wpAny_bind (thn h6 fun _ s7 ⟨x,H7,I7,r7,y7,st7,fr7⟩=>?_)
  have I7':=I7.pinned (stat fr7) (T.obj _ _ st7)
  have nox:∀ {α:Type} {t:Sem α} {P:α->Shared->Prop} {E':Value->Shared->Prop} {s':Shared},wpAny (model X.prog X.w) X.A t P (fun _ _=>False) s'->wpAny (model X.prog X.w) X.A t P E' s':=fun h=>wpAny_mono h (fun _ _ z=>z) fun _ _ z=>z.elim
  refine wpAny_bind (thn (nox (B.tg s3 H3 fp _ s7 σ5 H7 x u _ I7' r7 (step x H7 y7))) fun _ s8 ⟨σ8,H8,I8,q8⟩=>?_)
  refine wpAny_bind (thn (nox (B.ifs s3 H3 fp _ s8 σ8 H8 _ I8 q8)) fun ok s9 ⟨H9,I9,q9⟩=>?_)
  have again:∀ {σ7:St} {H7':Hp} {s':Shared} {zs:List V},Inv (inC X scope s3 H3 fp) ([]++m3 fp s7.heap) σ7 H7' s'->(∃ m',m'<n/\W (i+1) m' σ7 zs H7')->∃ m',m'<n/\∃ i σ' ys H',Inv (inC X scope s3 H3 fp) [] σ' H' s'/\tn i s'.heap/\(∀ b∈fp,H' b=none)/\W i m' σ' ys H':=fun {σ7 H7' s' zs} J w=>by
   obtain ⟨m',hm,w⟩:=w
   refine ⟨m',hm,i+1,σ7,zs,H7',J.unpinned,T.keep _ _ _ st7 fun b hb o e=>(J.pin (b,o) (aN _ (aN _ (gO hb e)))).1,fun b hb=>?_,w⟩
   obtain ⟨o,e,d⟩:=T.obj _ _ st7 b hb
   exact (J.pin (b,o) (aN _ (aN _ (gO hb e)))).2.1
  cases ok with
  | false =>
    rw [if_neg ah] at q9
    exact wpAny_pure ⟨rfl,again I9 q9⟩
  | true =>
    rw [if_pos rfl] at q9
    refine wpAny_bind (wpAny_bind (thn (nox (B.elt s3 H3 fp _ s9 σ8 H9 _ I9 q9)) fun uy s10 ⟨y,H10,I10,ry,hp10,q10⟩=>?_))
    refine wpAny_bind (thn (nox (nh (X:=inC X scope s3 H3 fp) _ s10 σ8 H10 (.ref p) [y] (.ref p) [uy] (fun _ H'=>H'=upd H10 p (.lst (ys++[y]))) I10 rfl (.cons ry .nil) ⟨p,ys,y,rfl,rfl,hp10,hz,rfl⟩)) fun _ s11 ⟨_,H11,I11,_,e11⟩=>?_)
    subst e11
    exact wpAny_pure (wpAny_pure ⟨rfl,again I11 q10⟩)
theorem tU (hc:X.calm=true) (S:CScope X scope ix) (hi:PI X tg iter wi) (B:zl X scope tg elt ifs g tt te) (hs:∀ x,foldedSetIterable iter X.env x=pure x:=by intro _;rfl):PE X (.ListComp elt [⟨tg,iter,ifs,0⟩] scope pos) (rA (mpS ix) wi g tt te):=by
 intro pins s σ H Q I h
 rw [eval_ListComp]
 refine wpAny_comprehension_free (use:=none) rfl hs (gW (S.cells I)) S.kind (fun y hy hl=>S.names (by rw [<- hl];exact hy)) ?_
 refine thn (hi pins s σ H _ I h) fun v s1 h1=>thn h1 fun itv s2 h2=>?_
 obtain ⟨it,fp,tn,J,H2,rfl,I2,T,st2,f2,hq⟩:=h2
 obtain ⟨W,⟨m0,w0⟩,turn⟩:=hq s2.heap.objs.size I2.fresh
 refine wpAny_newObj_type ?_
 have I3:Inv X pins σ (upd H2 s2.heap.objs.size (.lst [])) { s2 with heap:=s2.heap.push { cls:=.type "list",data:=.seq ([]:List Value).toArray } }:=I2.lnew (its:=[]) (t':=s2.toks) .nil (aT _)
 have lt2:∀ b∈fp,b<s2.heap.objs.size:=fun b hb=>by obtain ⟨o,e,_⟩:=T.obj _ _ st2 b hb;exact au e
 have f3:∀ b∈fp,oG X pins (upd H2 s2.heap.objs.size (.lst [])) b:=fun b hb=>⟨by rw [aK (aH (lt2 b hb))];exact (f2 b hb).1,(f2 b hb).2⟩
 refine kY S I3 (fp:=fp) (fun b hb=>⟨f3 b hb,?_⟩) fun env h4 ee el I4 keep4=>?_
 ·show b<(s2.heap.push _).objs.size
  rw [bV]
  exact cx (lt2 b hb)
 rw [ee,el]
 have st4:tn 0 h4:=T.keep _ _ _ st2 fun b hb o e=>keep4 b o (aa _ e)
 have fin:∀ σ1 H1 s1,Inv (inC X scope { s2 with heap:=s2.heap.push { cls:=.type "list",data:=.seq ([]:List Value).toArray } } (upd H2 s2.heap.objs.size (.lst [])) fp) [] σ1 H1 s1->Q (.ref s2.heap.objs.size) H1 ->
  compPost (model X.prog X.w) X.A X.xe none (EP X pins σ Q) (.ref s2.heap.objs.size) ((s2.heap.push { cls:=.type "list",data:=.seq ([]:List Value).toArray }).objs.size) (.ok .next) s1:=fun σ1 H1 s1 I1 q1=>by
  obtain ⟨m,hn,_⟩:=I1.loc
  exact ⟨m,hn,fun h' hs'=>⟨.ref s2.heap.objs.size,H1,ny I3 f3 I1 (nD I3 f3 I1) hs',rfl,q1⟩⟩
 have loop:=nG (iter:=iter) (pos:=pos) (R:=compPost (model X.prog X.w) X.A X.xe none (EP X pins σ Q) (.ref s2.heap.objs.size) ((s2.heap.push { cls:=.type "list",data:=.seq ([]:List Value).toArray }).objs.size)) hc I3 f3 T B W turn fin m0 (mpS ix σ) I4 st4 w0
 exact codeAny_compStart_list loop (T.self X.A 0 _ _ _ st4 loop)
end
end Ry
namespace Ry
open PySem PySem.Spec PyProof.Rows L2
def mpR (ix:List (Option Nat)) (ρ:Rho):Rho:=ix.map fun o=>match o with
 | some j=>(ρ[j]?).getD .no
 | none=>.no
theorem A5 {X:Cx} {scope:Scope} {ix:List (Option Nat)} (S:CScope X scope ix) {i k j:Nat} (h1:ix[i]?=some (some j)) (h2:ix[k]?=some (some j)):i=k:=by
 obtain ⟨x,a1,a2⟩:=fX S.ix h1
 obtain ⟨y,b1,b2⟩:=fX S.ix h2
 rw [a2] at b2
 cases b2
 have c1:(scope.names.map (·.1))[i]?=some x:=by rw [av,a1];rfl
 have c2:(scope.names.map (·.1))[k]?=some x:=by rw [av,b1];rfl
 exact lJ S.nd c1 c2
theorem jT {ix:List (Option Nat)} {ρ:Rho} {i:Nat} {x:Sl} (h:(mpR ix ρ)[i]?=some x) (hx:x≠.no):∃ j,ix[i]?=some (some j)/\ρ[j]?=some x:=by
 unfold mpR at h
 rw [av] at h
 cases q:ix[i]? with
 | none=>rw [q] at h;cases h
 | some o =>
   rw [q] at h
   cases o with
   | none=>cases h;exact absurd rfl hx
   | some j =>
     have h':(ρ[j]?).getD .no=x:=by simpa using h
     cases z:ρ[j]? with
     | none=>rw [z] at h';exact absurd h'.symm hx
     | some y=>rw [z] at h';exact ⟨j,rfl,z.trans (congrArg some h')⟩
theorem pe {ix:List (Option Nat)} {σ:St} {i j:Nat} {v:V} (h:ix[i]?=some (some j)) (hs:σ[j]?=some (some v)):(mpS ix σ)[i]?=some (some v):=by
 unfold mpS
 rw [av,h]
 simp [hs]
theorem qS {ix:List (Option Nat)} {σ:St} {i j:Nat} {v:V} (h:ix[i]?=some (some j)) (hs:(mpS ix σ)[i]?=some (some v)):σ[j]?=some (some v):=by
 unfold mpS at hs
 rw [av,h] at hs
 have h':(σ[j]?).getD none=some v:=by simpa using hs
 cases z:σ[j]? with
 | none=>rw [z] at h';cases h'
 | some y=>rw [z] at h';exact congrArg some h'
theorem fm.mp {X:Cx} {scope:Scope} {ix:List (Option Nat)} {K:PySem.W.Frag} {B G H:Hp} {σ:St} {ρ:Rho} (S:CScope X scope ix) (h:fm K B G H σ ρ):fm K B G H (mpS ix σ) (mpR ix ρ):=by
 refine ⟨by unfold mpS mpR;rw [ab,ab],fun i d e=>?_,fun i d e=>?_,fun i k d d' l hik e1 e2 s1 s2=>?_,h.tg⟩
 ·obtain ⟨j,hj,hr⟩:=jT e (by intro z;cases z)
  obtain ⟨v,hv,dv⟩:=h.pu j d hr
  exact ⟨v,pe hj hv,dv⟩
 ·obtain ⟨j,hj,hr⟩:=jT e (by intro z;cases z)
  obtain ⟨l,o,hv,r⟩:=h.ow j d hr
  exact ⟨l,o,pe hj hv,r⟩
 ·obtain ⟨j,hj,hr⟩:=jT e1 (by intro z;cases z)
  obtain ⟨j',hj',hr'⟩:=jT e2 (by intro z;cases z)
  refine h.ap j j' d d' l (fun z=>?_) hr hr' (qS hj s1) (qS hj' s2)
  subst z
  exact hik (A5 S hj hj')
theorem fm.other {K:PySem.W.Frag} {B G H:Hp} {σ:St} {ρ:Rho} {p:Addr} {o o':HO} (h:fm K (upd B p o) G H σ ρ):fm K (upd B p o') G (upd H p o') σ ρ:=by
 refine ⟨h.len,h.pu,fun i d e=>?_,h.ap,h.tg⟩
 obtain ⟨l,ob,a,nb,ng,hl,r⟩:=h.ow i d e
 have ne:l≠p:=fun z=>by subst z;rw [aL] at nb;cases nb
 exact ⟨l,ob,a,by rw [aK ne] at nb ⊢;exact nb,ng,by rw [aK ne];exact hl,r⟩
def kn (t:Da->Rho->Option Rho) (c:Rho->Option Bool) (f:Rho->Option Rv):List Da->Rho->Option (List Da)
 | [],_=>some []
 | d::ds,ρ=>match t d ρ with
   | none=>none
   | some ρ1=>match c ρ1 with
     | none=>none
     | some false=>kn t c f ds ρ1
     | some true=>match f ρ1 with
       | none=>none
       | some r=>if cD r=true then (match kn t c f ds ρ1 with
         | none=>none
         | some es=>some (r.2::es)) else none
def d8 (ix:List (Option Nat)) (fi:Rho->Option (List Da)) (t:Da->Rho->Option Rho) (c:Rho->Option Bool) (f:Rho->Option Rv):Rho->Option Rv:=fun ρ=>match fi ρ with
 | none=>none
 | some ds=>if ds.length<=1000000 then (match kn t c f ds (mpR ix ρ) with
   | none=>none
   | some es=>some (.fr,.lst es)) else none
theorem oT {X:Cx} {scope:Scope} {ix:List (Option Nat)} {fi:Rho->Option (List Da)} {t:Da->Rho->Option Rho} {c:Rho->Option Bool} {f:Rho->Option Rv} (S:CScope X scope ix) {σ:St} {H:Hp} {Q:VK} (q:tX X.K (d8 ix fi t c f) σ H Q) :
 rA (mpS ix) (iX X.K fi) (gX X.K t) (tXT X.K c) (tX X.K f) σ H Q:=by
 obtain ⟨B,G,ρ,r,sg,sb,st,e,k⟩:=q
 unfold d8 at e
 split at e
 ·cases e
 ·rename_i ds efi
  split at e
  case isFalse=>cases e
  case isTrue hz =>
  split at e
  ·cases e
  ·rename_i es ees
   cases e
   have hsz:sizeLine=16777216:=sizeLine_eq
   refine ⟨B,G,ρ,ds,sg,sb,st,efi,fun J G1 H1 E1 it p hp=>?_⟩
   have hp0:H p=none:=E1.hh.free hp
   refine ⟨fun i m σ2 ys H2=>m=ds.length-i/\i<=ds.length/\∃ G2 ρ2 done rest,Ext G H G2 H2/\bQ G1 G2/\G2 p=none/\H2 p=some (.lst ys)/\bP X.K G2 done ys/\done.length<=i/\kn t c f (ds.drop i) ρ2=some rest/\done++rest=es/\fm X.K (upd B p (.lst ys)) G2 H2 σ2 ρ2,
    ⟨ds.length,by simp,aT _,G1,mpR ix ρ,[],es,E1.trans (Ext.own E1.gh hp),bQ.refl _,E1.gh.free hp,aL,rfl,aT _,by rw [Dv];exact ees,rfl,?_⟩,?_⟩
   ·have st1:=((st.ext E1).ext (Ext.own (o:=.lst []) E1.gh hp)).mp S
    refine ⟨st1.len,st1.pu,fun i d q=>?_,st1.ap,st1.tg⟩
    obtain ⟨l,o,a,nb,ng,hl,r⟩:=st1.ow i d q
    have ne:l≠p:=fun z=>by
     subst z
     obtain ⟨j,hj,hr⟩:=jT q (by intro z;cases z)
     obtain ⟨l',o',a',_,_,hl',_⟩:=(st.ext E1).ow j d hr
     have:=pe hj a'
     rw [a] at this
     cases this
     rw [hp] at hl';cases hl'
    exact ⟨l,o,a,by rw [aK ne];exact nb,ng,hl,r⟩
   ·rintro i m σ2 ys H2 ⟨rfl,hi,G2,ρ2,done,rest,E2,s12,gp,hp2,dl,hdl,ecl,eapp,st2⟩
    have hln:=dl.length
    refine ⟨hp2,by lia,?_⟩
    have sB2:bQ (upd B p (.lst ys)) H2:=fun b o z=>by
     by_cases hb:b=p
     ·subst hb;rw [aL] at z;rw [<- z];exact hp2
     ·rw [aK hb] at z;exact E2.hh b o (sb b o z)
    by_cases hlt:i<ds.length
    ·obtain ⟨d,hd⟩:∃ d,ds[i]?=some d:=⟨ds[i],by simp [hlt]⟩
     have hdrop:ds.drop i=d::ds.drop (i+1):=by
      rw [gv hlt]
      congr 1
      rw [ae hlt] at hd
      exact Option.some.inj hd
     rw [hdrop] at ecl
     unfold kn at ecl
     split at ecl
     ·cases ecl
     ·rename_i ρ1 et
      obtain ⟨hgo,hy⟩:=(it i G2 H2 s12 E2.gh).1 d hd
      refine .inr ⟨hgo,fun x H3 yl=>?_⟩
      obtain ⟨G3,E3,dx⟩:=hy x H3 yl
      refine ⟨upd B p (.lst ys),G3,G3,ρ2,d,ρ1,⟨sB2.trans E3.hh,bQ.refl _,E3.gh,fun _ _ _ _ z=>z⟩,st2.ext E3,dx,et,fun σ4 st4=>?_⟩
      split at ecl
      ·cases ecl
      ·rename_i ec
       refine ⟨upd B p (.lst ys),G3,ρ1,false,E3.gh,sB2.trans E3.hh,st4,ec,fun G4 H4 E4=>?_⟩
       refine DJ ?_
       have E24:=E3.trans E4
       refine ⟨ds.length-(i+1),by lia,rfl,hlt,G4,ρ1,done,rest,E2.trans E24,s12.trans E24.gg,E24.nw _ _ hp2 rfl gp,E24.hh _ _ hp2,bP.mono E24.gg _ dl,by lia,ecl,eapp,st4.ext E4⟩
      ·rename_i ec
       refine ⟨upd B p (.lst ys),G3,ρ1,true,E3.gh,sB2.trans E3.hh,st4,ec,fun G4 H4 E4=>?_⟩
       refine DD ?_
       split at ecl
       ·cases ecl
       ·rename_i r er
        split at ecl
        case isFalse=>cases ecl
        case isTrue hpu =>
        split at ecl
        ·cases ecl
        ·rename_i es' ees'
         cases ecl
         refine ⟨upd B p (.lst ys),G4,ρ1,r,E4.gh,(sB2.trans E3.hh).trans E4.hh,st4.ext E4,er,fun y G5 H5 E5 r5=>?_⟩
         obtain ⟨G6,E6,s56,dy⟩:=r5.pure E5 hpu
         have E26:=(E3.trans E4).trans E6
         have hp5:=E26.hh _ _ hp2
         have gp6:=E26.nw _ _ hp2 rfl gp
         have E06:=E2.trans E26
         refine ⟨hp5,ds.length-(i+1),by lia,rfl,hlt,G6,ρ1,done++[r.2],es',⟨iF E06.hh hp0,E06.gg,iF E06.gh gp6,E06.nw⟩,s12.trans E26.gg,gp6,aL,bP.append (bP.mono E26.gg _ dl) (bP.one dy),by rw [aF,bx];lia,ees',by rw [bg];exact eapp,?_⟩
         exact ((st4.ext E4).ext E6).other
    ·have ei:i=ds.length:=by lia
     subst ei
     rw [Cb] at ecl
     cases ecl
     rw [ce] at eapp
     subst eapp
     exact .inl ⟨(it ds.length G2 H2 s12 E2.gh).2 rfl,k _ G2 H2 E2 ⟨p,_,rfl,hp0,gp,hp2,ys,rfl,dl⟩⟩
structure wD (X:Cx) (scope:Scope) (tg elt:Expr) (ifs:List Expr) (t:Da->Rho->Option Rho) (c:Rho->Option Bool) (f:Rho->Option Rv):Prop where
 tg:∀ s H fp,PXG (inC X scope s H fp) tg t
 ifs:∀ s H fp,PTS (inC X scope s H fp) ifs (tXT X.K c)
 elt:∀ s H fp,PX (inC X scope s H fp) elt f
theorem yf {X:Cx}:PTS X [] (tXT X.K fun _=>some true):=fun pins s σ H Q I ⟨B,G,ρ,b,sg,sb,st,e,k⟩=>by cases e;exact vk pins s σ H Q I (k G H (Ext.refl sg))
theorem zF {X:Cx} {c:Expr} {t:Rho->Option Bool} (h:PXT X c t):PTS X [c] (tXT X.K t):=zd h
section
variable {X:Cx} {elt tg iter:Expr} {ifs:List Expr} {scope:Scope} {pos spos py:Pos} {ix:List (Option Nat)} {fi:Rho->Option (List Da)} {t:Da->Rho->Option Rho} {c:Rho->Option Bool} {f:Rho->Option Rv}
theorem yT (hc:X.calm=true) (S:CScope X scope ix) (hi:PXI X tg iter fi) (B:wD X scope tg elt ifs t c f) (hs:∀ x,foldedSetIterable iter X.env x=pure x:=by intro _;rfl):PX X (.ListComp elt [⟨tg,iter,ifs,0⟩] scope pos) (d8 ix fi t c f) :=
 PE.imp (tU hc S hi ⟨B.tg,B.ifs,B.elt⟩ hs) fun _ _ _ q=>oT S q
end
end Ry
namespace Ry
open PySem PySem.Spec PyProof.Rows L2
def p8 (outer:List (Str×NameKind)):List (Str×NameKind)->Bool
 | []=>true
 | (x,k)::r=>(!(k == .free)||outer.lookup x == some .cell||outer.lookup x == some .free)&&p8 outer r
theorem nO {outer:List (Str×NameKind)}:∀ {names:List (Str×NameKind)},p8 outer names=true->∀ y∈names,y.2=.free->outer.lookup y.1=some .cell\/outer.lookup y.1=some .free
 | [],_,y,hy,_=>by simp at hy
 | (x,k)::r,h,y,hy,hf=>by
   unfold p8 at h
   rw [aP] at h
   rcases ag.mp hy with rfl | hy
   ·have h1:=h.1
    dsimp only at hf
    subst hf
    rcases eQ _ _▸h1 with z | z
    ·rcases eQ _ _▸z with w | w
     ·exact absurd w (by decide)
     ·exact .inl (by simpa using w)
    ·exact .inr (by simpa using z)
   ·exact nO h.2 y hy hf
theorem gn {X:Cx} {scope:Scope} {ix:List (Option Nat)} (h1:scope.kind=.function) (h2:(scope.names.map (·.1)).Nodup) (h3:p8 X.env.scope.names scope.names=true) (h4:ox X.N scope.names ix=true):CScope X scope ix :=
 ⟨h1,h2,fun y hy hf=>nO h3 y hy hf,h4⟩
theorem cnd {X:Cx} {scope:Scope} {s:Shared} {H:Hp} {fp:List Addr} (h:(scope.names.map (·.1)).Nodup):(inC X scope s H fp).N.Nodup:=h
section
variable {X:Cx} {a b c e:Expr} {es:List Expr} {p pos pos':Pos} {f fa fb fc:Rho->Option Rv} {g:Rho->Option (List Rv)}
theorem xg (hg:Gl X "len") (hm:X.mg "len" = none) (ha:PXA X (e::es) g) (he:starEach (e::es) X.env=(false,eval e X.env)::starEach es X.env:=by exact aX rfl) (hpl:(backTo pos (starEach es X.env)).any (·.1)=false:=by rfl):PX X (.Call (.Name "len" p) (e::es) [] pos) (xB nU g) :=
 Co nA zG hg hm PySem.boot_len ha (by decide) (by decide) he hpl
theorem wl (hg:Gl X "tuple") (hm:X.mg "tuple" = none) (ha:PXA X (e::es) g) (he:starEach (e::es) X.env=(false,eval e X.env)::starEach es X.env:=by exact aX rfl) (hpl:(backTo pos (starEach es X.env)).any (·.1)=false:=by rfl):PX X (.Call (.Name "tuple" p) (e::es) [] pos) (xB iy g) :=
 y6 lz sa hg hm (by decide +kernel) ha (by decide) (by decide) he hpl
theorem yn (hg:Gl X "list") (hm:X.mg "list" = none) (ha:PXA X (e::es) g) (he:starEach (e::es) X.env=(false,eval e X.env)::starEach es X.env:=by exact aX rfl) (hpl:(backTo pos (starEach es X.env)).any (·.1)=false:=by rfl):PX X (.Call (.Name "list" p) (e::es) [] pos) (xB lD g) :=
 y6 nj w4 hg hm (by decide +kernel) ha (by decide) (by decide) he hpl
def rG (f:Rho->Option Rv):Rho->Option Rv:=fun ρ=>match f ρ with
 | some (_,.int i)=>some (.pu,.int (-i))
 | _=>none
theorem Bu (ha:PX X a fa):PX X (.UnaryOp .USub a pos) (rG fa):=PE.imp (Di AA ha) fun σ H Q ⟨B,G,ρ,r,sg,sb,st,eq,k⟩=>by
 unfold rG at eq
 split at eq
 ·rename_i kd i q
  cases eq
  exact ⟨B,G,ρ,_,sg,sb,st,q,fun v G1 H1 E1 r1=>⟨i,r1.int,k _ G1 H1 E1 rfl⟩⟩
 ·cases eq
def kf (fd fk fx:Rho->Option Rv):Rho->Option Rv:=fun ρ=>match fd ρ,fk ρ,fx ρ with
 | some d,some k,some x=>match jv d.2 k.2 with
   | some (some e)=>some (.pu,e)
   | some none=>some x
   | none=>none
 | _,_,_=>none
theorem BG {K:PySem.W.Frag} {B H0 G H:Hp} {r:Rv} {v:V} {k:Da} {o:Option Da} (sg:bQ G H) (h:eu K B H0 G H r v) (e:jv r.2 k=some o):∃ a,v=.ref a/\IsD H a:=by
 obtain ⟨kd,d⟩:=r
 cases d with
 | dK ks ds=>obtain ⟨a,kvs,rfl,q,_⟩:=h.dK sg;exact ⟨a,rfl,.inl ⟨kvs,q⟩⟩
 | dT ks ds=>obtain ⟨a,kvs,rfl,q,_⟩:=h.dT sg;exact ⟨a,rfl,.inr ⟨kvs,q⟩⟩
 | _=>unfold jv at e;cases e
theorem zU {apos:Pos} {o:Expr} {fo:Rho->Option Rv} (hu:X.A.units+1<cLine) (ho:PX X o fo) (ha:PX X a fa) (hb:PX X b fb) (hbase:attributeBase o "get" X.env (eval o X.env)=eval o X.env:=by rfl)
 (hfew:((backTo pos (starEach [a,b] X.env)).all (fun x=>!x.1)&&(backToKw pos (keywordEach [] X.env)).all (fun x=>x.1.isSome)&&decide (([a,b]:List Expr).length+([]:List Keyword).length+(if ([]:List Keyword).isEmpty then 0 else 1)<30))=true:=by rfl)
 (hline:(apos.endLine == pos.line)=true:=by rfl) (htr:backTo pos (starEach [a,b] X.env)=[(false,eval a X.env),(false,eval b X.env)]:=by rfl):PX X (.Call (.Attribute o "get" apos) [a,b] [] pos) (kf fo fa fb) :=
 PE.imp (vY hu ho ha hb ⟨hbase,hfew,hline,htr⟩) fun σ H Q ⟨B,G,ρ,r,sg,sb,st,eq,k⟩=>by
  unfold kf at eq
  split at eq
  ·rename_i d k' x ed ek ex
   refine ⟨B,G,ρ,d,sg,sb,st,ed,fun v G1 H1 E1 r1=>?_⟩
   have look:∃ o,jv d.2 k'.2=some o:=by
    split at eq
    ·exact ⟨_,by assumption⟩
    ·exact ⟨_,by assumption⟩
    ·cases eq
   obtain ⟨oo,eo⟩:=look
   obtain ⟨a',rfl,isd⟩:=BG E1.gh r1 eo
   refine ⟨a',rfl,isd,B,G1,ρ,k',E1.gh,sb.trans E1.hh,st.ext E1,ek,fun y G2 H2 E2 r2=>⟨B,G2,ρ,x,E2.gh,(sb.trans E1.hh).trans E2.hh,(st.ext E1).ext E2,ex,fun z G3 H3 E3 r3=>?_⟩⟩
   have E12:=E1.trans E2
   obtain ⟨p',ov,ep,g,m⟩:=jQ (H0:=H) E3.gh ((r1.ext E2).ext E3) ((r2.base (H0:=H) E1.hh).ext E3) eo
   cases ep
   refine ⟨ov,g,?_⟩
   rw [eo] at eq
   cases oo with
   | some e' =>
     cases eq
     obtain ⟨w,rfl,dw⟩:=m
     exact k w G3 H3 (E12.trans E3) dw
   | none =>
     cases eq
     cases m
     exact k z G3 H3 (E12.trans E3) (r3.base (E1.hh.trans E2.hh))
  ·cases eq
def eW {κ:Type} [DecidableEq κ]:List κ->List Da->κ->Da->List Da
 | k::ks,d::ds,j,e=>if k=j then e::ds else d::eW ks ds j e
 | _,_,_,e=>[e]
def eS {κ:Type} [DecidableEq κ]:List κ->κ->List κ
 | k::ks,j=>if k=j then k::ks else k::eS ks j
 | [],j=>[j]
theorem sy {κ:Type} [DecidableEq κ] {k j:κ} {v y:V} {r:List (κ×V)} (nd:((k,v)::r).map (·.1) |>.Nodup):jz ((k,v)::r) j y=if k=j then (k,y)::r else (k,v)::jz r j y:=by
 have nd':k∉r.map (·.1)/\(r.map (·.1)).Nodup:=be.mp nd
 unfold jz
 by_cases h:k=j
 ·subst h
  rw [if_pos (by rw [hW];simp),if_pos rfl,ax,if_pos rfl]
  congr 1
  conv=>rhs;rw [<- List.map_id r]
  refine eB fun p hp=>?_
  have:p.1≠k:=fun z=>nd'.1 (by rw [<- z];exact bf.mpr ⟨p,hp,rfl⟩)
  rw [if_neg this];rfl
 ·rw [if_neg h,hW,decide_eq_false h,DQ]
  by_cases h2:(r.any fun kv=>decide (kv.1=j))=true
  ·rw [if_pos h2,if_pos h2,ax,if_neg h]
  ·rw [if_neg h2,if_neg h2];rfl
theorem pB {K:PySem.W.Frag} {G:Hp} {κ:Type} [DecidableEq κ]:∀ {kvs:List (κ×V)} {ks:List κ} {ds:List Da} (j:κ) {d:Da} {v:V},ks.Nodup->kvs.map (·.1)=ks->bP K G ds (kvs.map (·.2))->Den K G d v ->
 (jz kvs j v).map (·.1)=eS ks j/\bP K G (eW ks ds j d) ((jz kvs j v).map (·.2))
 | [],ks,ds,j,d,v,_,e,h,hd=>by
   subst e
   cases ds with
   | nil=>exact ⟨rfl,bP.one hd⟩
   | cons d ds=>obtain ⟨x,r,e,_⟩:=h;cases e
 | (k,w)::r,ks,ds,j,d,v,nd,e,h,hd=>by
   subst e
   cases ds with
   | nil=>cases (show (w::r.map (·.2))=[] from h)
   | cons d' ds =>
     obtain ⟨x,xr,ex,h1,h2⟩:=h
     injection ex with e1 e2
     subst e1;subst e2
     rw [sy nd]
     have nd2:(r.map (·.1)).Nodup:=(be.mp (show (k::r.map (·.1)).Nodup from nd)).2
     by_cases hk:k=j
     ·rw [if_pos hk]
      refine ⟨?_,?_⟩
      ·show k::r.map (·.1)=if k=j then _ else _;rw [if_pos hk]
      ·show bP K G (if k=j then _ else _) _;rw [if_pos hk];exact ⟨_,_,rfl,hd,h2⟩
     ·rw [if_neg hk]
      obtain ⟨i1,i2⟩:=pB (K:=K) (G:=G) (kvs:=r) (ks:=r.map (·.1)) (ds:=ds) j nd2 rfl h2 hd
      refine ⟨?_,?_⟩
      ·show k::(jz r j v).map (·.1)=if k=j then _ else _;rw [if_neg hk,i1]
      ·show bP K G (if k=j then _ else _) _;rw [if_neg hk];exact ⟨_,_,rfl,h1,i2⟩
def Aa:Da->Da->Da->Option Da
 | .dK ks ds,k,v=>match zj k with
   | some j=>if ks.Nodup/\ks.length<=1000000 then some (.dK (eS ks j) (eW ks ds j v)) else none
   | none=>none
 | .dT ks ds,.tup es,v=>match kt es with
   | some j=>if ks.Nodup/\ks.length<=1000000 then some (.dT (eS ks j) (eW ks ds j v)) else none
   | none=>none
 | _,_,_=>none
def xL (i:Nat) (fk fv:Rho->Option Rv):Rho->Res:=fun ρ=>match ρ[i]?,fk ρ,fv ρ with
 | some (.ow d),some k,some v=>if cD v=true then (match Aa d k.2 v.2 with
   | some d'=>.nx (ρ.set i (.ow d'))
   | none=>.bad) else .bad
 | _,_,_=>.bad
theorem vP {K:PySem.W.Frag} {B H0 G H:Hp} {d d':Da} {o:HO} {l:Addr} {k:Rv} {y v:V} {dv:Da} (sg:bQ G H) (hl:H l=some o) (hd:Holds K G d o) (rk:eu K B H0 G H k y) (hv:Den K G dv v) (e:Aa d k.2 dv=some d') :
 ∃ o',zz H l y v (upd H l o')/\Holds K G d' o':=by
 obtain ⟨kd,kk⟩:=k
 have hs:sizeLine=16777216:=sizeLine_eq
 cases d with
 | dK ks ds =>
   have e:(match zj kk with
    | some j=>if ks.Nodup/\ks.length<=1000000 then some (Da.dK (eS ks j) (eW ks ds j dv)) else none
    | none=>none)=some d':=by cases kk<;>exact e
   split at e
   ·rename_i j ej
    split at e
    ·rename_i hnd
     cases e
     obtain ⟨kvs,rfl,ek,dl⟩:=hd
     have ey:y=kV j:=tR ej (rk.den sg (u8 ej))
     obtain ⟨p1,p2⟩:=pB (K:=K) (G:=G) j hnd.1 ek dl hv
     have hlen:kvs.length=ks.length:=by rw [<- ek,ab]
     exact ⟨.dK (jz kvs j v),.inl ⟨kvs,j,hl,ey,by lia,rfl⟩,_,rfl,p1,p2⟩
    ·cases e
   ·cases e
 | dT ks ds =>
   cases kk with
   | tup es =>
     have e:(match kt es with
      | some j=>if ks.Nodup/\ks.length<=1000000 then some (Da.dT (eS ks j) (eW ks ds j dv)) else none
      | none=>none)=some d':=e
     split at e
     ·rename_i j ej
      split at e
      ·rename_i hnd
       cases e
       obtain ⟨kvs,rfl,ek,dl⟩:=hd
       obtain ⟨t,xs,rfl,qt,dl2,_⟩:=rk.tup sg
       rw [pJ ej dl2] at qt
       obtain ⟨p1,p2⟩:=pB (K:=K) (G:=G) j hnd.1 ek dl hv
       have hlen:kvs.length=ks.length:=by rw [<- ek,ab]
       exact ⟨.dT (jz kvs j v),.inr ⟨kvs,j,t,hl,rfl,qt,by lia,rfl⟩,_,rfl,p1,p2⟩
      ·cases e
     ·cases e
   | _=>cases e
 | _=>cases e
theorem yA {i:Nat} {x:Str} {px:Pos} (hu:X.A.units+64<cLine) (hk:PX X a fa) (hv:PX X b fb) (hN:X.N[i]?=some x:=by rfl) (hvis:Vis X.env.scope x:=by first | exact Or.inl rfl | exact Or.inr (Or.inl rfl) | exact Or.inr (Or.inr rfl)) (hd:(x == ("__debug__" : Str))=false:=by decide)
 (hcd:(x == ("__classdict__" : Str))=false:=by decide) (hs:swapsWith b (some (.Subscript (.Name x px) a pos')) pos.line X.env=pure false:=by rfl):PXS X (.Assign [.Subscript (.Name x px) a pos'] b pos) (xL i fa fb) :=
 PS.imp (oP (by lia) (qB hN hvis hd hcd) hk hv hs) fun D σ H ⟨B,G0,G,ρ,E,st,k⟩=>by
  unfold xL at k
  split at k
  ·rename_i d rk rv eo ek ev
   split at k
   ·rename_i hpu
    refine ⟨B,G,ρ,rv,E.gh,E.hh,st,ev,fun v G1 H1 E1 r1=>?_⟩
    obtain ⟨G2,E2,_,dv⟩:=r1.pure E1 hpu
    obtain ⟨l,o,a',nb,ng,hl,hd'⟩:=(st.ext E2).ow i d eo
    refine ⟨_,a',B,G2,ρ,rk,E2.gh,E.hh.trans E2.hh,st.ext E2,ek,fun y G3 H3 E3 r3=>?_⟩
    split at k
    ·rename_i d' ed
     obtain ⟨o',hput,hh⟩:=vP E3.gh (E3.hh _ _ hl) (hd'.mono E3.gg) r3 (Den.mono E3.gg _ dv) ed
     have E03:=(E.trans E2).trans E3
     exact ⟨l,_,rfl,hput,k _ G3 _ (E03.mut nb (E3.nw _ _ hl hd'.nt ng)) (E2.gg.trans E3.gg) (((st.ext E2).ext E3).mut eo a' hh)⟩
    ·exact k.elim
   ·exact k.elim
  ·exact k.elim
def DU (i j:Nat):Rho->Res:=fun ρ=>match ρ[i]? with
 | some (.ow (.lst ds))=>match ds.getLast? with
   | some d=>.nx ((ρ.set i (.ow (.lst ds.dropLast))).set j (.pu d))
   | none=>.bad
 | _=>.bad
def y8 (i:Nat) (f:Rho->Option Rv):Rho->Res:=fun ρ=>match ρ[i]?,f ρ with
 | some (.ow (.lst ds)),some (.fr,.lst es)=>if ds.length+es.length<=1000000 then .nx (ρ.set i (.ow (.lst (ds++es)))) else .bad
 | _,_=>.bad
end
end Ry
namespace Ry
open PySem PySem.Spec PyProof.Rows L2
structure Ca (P:Program) (w:World) (K:PySem.W.Frag) (mg:Str->Option Value) (base:Heap) (x:Str) (ps:List Str) (k n:Nat) (fn:List Da->Option Da):Prop where
 ex:∃ (a:Addr) (fd:FuncData),mg x=some (.ref a)/\PySem.W.keepIn K (.ref a)=true/\pO K fd ps []/\rp P w K mg base CX0 k a fd ps (spD K n fn)
theorem qp {X:Cx} {k n:Nat} {ps:List Str} {fn:List Da->Option Da} {x:Str} {p pos:Pos} {e:Expr} {es:List Expr} {g:Rho->Option (List Rv)} (C:Ca X.prog X.w X.K X.mg X.base x ps k n fn) (hr:fq k X.A) (hg:Gl X x) (ha:PXA X (e::es) g) (hlen:∀ ρ rs,g ρ=some rs->rs.length=n)
 (hdb:(x == ("__debug__" : Str))=false:=by decide) (he:starEach (e::es) X.env=(false,eval e X.env)::starEach es X.env:=by exact aX rfl) (hpl:(backTo pos (starEach es X.env)).any (·.1)=false:=by rfl):PX X (.Call (.Name x p) (e::es) [] pos) (cC fn g):=by
 obtain ⟨a,fd,hm,hk,hb,F⟩:=C.ex
 exact xT F hr hg hm hk hb ha hlen hdb he hpl
def fB (K:PySem.W.Frag) (mg:Str->Option Value) (x:Str) (st:Stmt):Prop:=∃ (a:Addr) (fd:FuncData),Fun K x x st a fd/\mg x=some (.ref a)
theorem jy {P:Program} {w:World} {K:PySem.W.Frag} {mg:Str->Option Value} {base:Heap} {x:Str} {st:Stmt} {N ps:List Str} {k n:Nat} {g:Rho->Res} (hf:fB K mg x st) (S:cp N ps (aC st)) (hn:ps.length=n)
 (hbind:∀ (kV doc pm:Value) (an:Option Addr) (cdv ct:Value) (us:List Value),us.length=ps.length->bindArgs (PySem.W.fnOf x x (cm st) (bw st) (aC st) .none kV doc pm an cdv ct) ⟨us,[]⟩=pure (ps.zip us))
 (hbody:∀ (f:Addr) (cdv:Value) (A:Around) (outer:List Env) (s:Shared) (H:Hp) (E:XK),fq k (A.deeper (envOfC x (aC st) s.heap.objs.size f cdv))->p4 (jD CX0 P w K mg base N x (aC st) f cdv A outer s H E).nox (bw st) g) :
 Ca P w K mg base x ps (k+1) n (io N.length g):=by
 obtain ⟨a,fd,F,hm⟩:=hf
 exact ⟨a,fd,hm,F.kp,F.binds hbind,xf F S hn fun cdv A outer s H E hr=>hbody a cdv A outer s H E hr⟩
end Ry
namespace Ry
open PySem PySem.Spec PyProof.Rows L2
section
variable {X:Cx} {a b c e:Expr} {es:List Expr} {p p2 pos pos':Pos} {fa fb fc f:Rho->Option Rv} {g:Rho->Option (List Rv)}
def tyD:Da->Option String
 | .non=>some "NoneType" | .bl _=>some "bool" | .int _=>some "int" | .str _=>some "str" | .tup _=>some "tuple" | .lst _=>some "list" | _=>none
structure pU (K:PySem.W.Frag) (T:String) (i:Da->Option Bool):Prop where
 nd:∀ d b,i d=some b->jB d=false
 kit:∀ d t b,tyD d=some t->i d=some b->PySem.W.kitOne K (.type t) (.type T)=some b
theorem o5 {T:String} {i:Da->Option Bool} (h:pU X.K T i):i7 X (.builtin "isinstance") (fun xs H Q=>∃ x d b,xs=[x,.ty T]/\Den X.K H d x/\i d=some b/\Q (.bl b) H):=by
 intro pins s σ H xs us Q I r hq
 obtain ⟨x,d,b,rfl,hd,hi,q⟩:=hq
 obtain ⟨u,w',rfl,rx,ry⟩:=CK r
 cases (show w'=Value.type T from ry)
 have fin:∀ tk,EP X pins σ Q (.bool b) { s with toks:=tk }:=fun tk=>⟨.bl b,H,I.tok tk,rfl,q⟩
 have nd:=h.nd d b hi
 cases d with
 | non=>cases (show x=_ from hd);cases (show u=Value.none from rx);exact PySem.W.kia_one PySem.W.kitx_none I.kIn True.intro (h.kit _ _ _ rfl hi) (fun z=>nomatch z) fin
 | bl y=>cases (show x=_ from hd);cases (show u=Value.bool y from rx);exact PySem.W.kia_one PySem.W.kitx_bool I.kIn True.intro (h.kit _ _ _ rfl hi) (fun z=>nomatch z) fin
 | int j=>cases (show x=_ from hd);obtain ⟨t,q⟩:=(show ∃ t,u=Value.int j t from rx);cases q;exact PySem.W.kia_one PySem.W.kitx_int I.kIn True.intro (h.kit _ _ _ rfl hi) (fun z=>nomatch z) fin
 | str y=>cases (show x=_ from hd);obtain ⟨t,q⟩:=(show ∃ t,u=Value.str y t from rx);cases q;exact PySem.W.kia_one PySem.W.kitx_str I.kIn True.intro (h.kit _ _ _ rfl hi) (fun z=>nomatch z) fin
 | tup ds =>
   obtain ⟨l,ys,rfl,hl,_⟩:=hd
   cases (show u=Value.ref l from rx)
   obtain ⟨its,_,⟨o,h1,h2,_⟩,_⟩:=I.tuple (SqT.of hl)
   exact PySem.W.kia_one PySem.W.kitx_tuple I.kIn ⟨o,h1,h2⟩ (h.kit _ _ _ rfl hi) (fun z=>nomatch z) fin
 | lst ds =>
   obtain ⟨l,ys,rfl,hl,_⟩:=hd
   cases (show u=Value.ref l from rx)
   obtain ⟨its,_,pl,_⟩:=I.list hl
   obtain ⟨o,h1,h2,_⟩:=pl.isList
   exact PySem.W.kia_one PySem.W.kitx_list I.kIn ⟨o,h1,h2⟩ (h.kit _ _ _ rfl hi) (fun z=>nomatch z) fin
 | dK _ _=>cases nd
 | dT _ _=>cases nd
def eV (i:Da->Option Bool) (f:Rho->Option Rv):Rho->Option Rv:=fun ρ=>match f ρ with
 | some r=>match i r.2 with
   | some b=>some (.pu,.bl b)
   | none=>none
 | none=>none
theorem u7 {T:String} {x:Str} {i:Da->Option Bool} (hk:pU X.K T i) (hv:bootBuiltins x=some (.type T)) (hg:Gl X "isinstance") (hm:X.mg "isinstance" = none) (hg2:Gl X x) (hm2:X.mg x=none) (ha:PX X a fa)
 (hn:x≠"__name__":=by decide) (hd:(x == ("__debug__" : Str))=false:=by decide)
 (he:starEach [a,.Name x p2] X.env=[(false,eval a X.env),(false,eval (.Name x p2) X.env)]:=by rfl) (he2:starEach [.Name x p2] X.env=[(false,eval (.Name x p2) X.env)]:=by rfl):PX X (.Call (.Name "isinstance" p) [a,.Name x p2] [] pos) (eV i fa) :=
 PE.imp (p7 (o5 hk) hg hm boot_isinstance (gJ ha (gJ (yO (v:=.ty T) hg2 hm2 hv rfl hn hd) j5 he2) (by rw [he,he2])) (by decide) (by decide) (by rw [he,he2]) (by rw [he2];rfl)) fun σ H Q ⟨B,G,ρ,r,sg,sb,st,eq,k⟩=>by
  unfold eV at eq
  split at eq
  ·rename_i ra ea
   split at eq
   ·rename_i b eb
    cases eq
    refine ⟨B,G,ρ,ra,sg,sb,st,ea,fun v G1 H1 E1 r1=>?_⟩
    exact ⟨v,ra.2,b,rfl,r1.den E1.gh (hk.nd _ _ eb),eb,k _ G1 H1 E1 rfl⟩
   ·cases eq
  ·cases eq
def zq:Da->Option Bool
 | .bl _=>some true | .int _=>some true | .non=>some false | .str _=>some false | .tup _=>some false | .lst _=>some false | _=>none
def w9:Da->Option Bool
 | .bl _=>some true | .int _=>some false | .non=>some false | .str _=>some false | .tup _=>some false | .lst _=>some false | _=>none
def fC:Da->Option Bool
 | .bl _=>some false | .int _=>some false | .non=>some false | .str _=>some false | .tup _=>some true | .lst _=>some false | _=>none
theorem lC {K:PySem.W.Frag}:pU K "tuple" fC:=⟨fun d b h=>(by cases d<;>first | rfl | (cases h)),fun d t b h1 h2=>(by cases d<;>cases h1<;>cases h2<;>rfl)⟩
def js:List Da->Option (List Bool)
 | []=>some []
 | .bl b::r=>(js r).map (b::·)
 | _=>none
theorem om:∀ {ds:List Da} {bs:List Bool},js ds=some bs->ds=bs.map Da.bl
 | [],ns,h=>by cases h;rfl
 | d::r,ns,h=>by
   cases d with
   | bl i =>
     have h:(js r).map (i::·)=some ns:=h
     cases q:js r with
     | none=>rw [q] at h;cases h
     | some ms=>rw [q] at h;cases h;rw [om q];rfl
   | _=>cases h
theorem n6 {K:PySem.W.Frag} {G:Hp}:∀ {bs:List Bool} {xs:List V},bP K G (bs.map Da.bl) xs->xs=bs.map V.bl
 | [],_,h=>h
 | b::bs,_,h=>by obtain ⟨x,r,rfl,h1,h2⟩:=h;cases (show _=_ from h1);rw [n6 h2];rfl
theorem lj:∀ {bs:List Bool} {us:List Value},cq (bs.map V.bl) us->us=bs.map Value.bool
 | [],_,r=>by rw [gs] at r;cases r;rfl
 | b::bs,_,r=>by rw [ax] at r;cases r with | cons r1 r2=>cases (show _=_ from r1);rw [lj r2];rfl
theorem vg {bs:List Bool} {i:Nat} (h:i<bs.length):bs.getD i false=bs[i]:=by simp [h]
theorem uN (bs:List Bool):(bi bs.length).all (fun i=>bs.getD i false)=bs.all id:=by
 rw [eR,cP,cP]
 constructor
 ·intro h x hx
  obtain ⟨i,hi,e⟩:=List.mem_iff_getElem.mp hx
  have:=h i (qU.mpr hi)
  rw [vg hi,e] at this
  exact this
 ·intro h i hi
  have hi':=qU.mp hi
  rw [vg hi']
  exact h _ (ik hi')
theorem sj (hc:X.calm=true):i7 X (.builtin "all") (fun xs H Q=>∃ (p:Addr) (ys:List V) (bs:List Bool),xs=[.ref p]/\SqL X.K H p ys/\ys=bs.map V.bl/\Q (.bl (bs.all id)) H):=by
 intro pins s σ H xs us Q I r h
 obtain ⟨p,ys,bs,rfl,hq,rfl,q⟩:=h
 obtain ⟨u,rfl,rx⟩:=kD r
 cases rx
 obtain ⟨its,rv,pl,hz⟩:=I.list hq
 have e:=lj rv
 subst e
 have hh:X.A.in1.handled=none:=I.ok.hd hc
 have hlt:p<s.heap.objs.size:=let ⟨o,ho,_⟩:=pl.isList;au ho
 refine call_all_walk (wpAny_pyIter_list pl.isList ?_)
 have W:=Walks.list (prog:=X.prog) (w:=X.w) (A:=X.A.in1) hh s.heap.objs.size p (aH hlt) (bs.map Value.bool).toArray
 refine ⟨s.heap.objs.size,_,_,_,_,_,fun i=>bs.getD i false,rfl,W,⟨⟨_,af _ rfl,rfl,rfl⟩,pl.isList.at fun o e=>aa _ e⟩,fun i v s' Q' E' hP hQ=>?_,fun h' tk hk=>?_⟩
 ·have e:(bs.map Value.bool)[i]?=some v:=by simpa using hP
  rw [av] at e
  cases q:bs[i]? with
  | none=>rw [q] at e;cases e
  | some b =>
    rw [q] at e
    cases e
    have:bs.getD i false=b:=by rw [ay,q];rfl
    have hQ:Q' (bs.getD i false) s':=hQ
    rw [this] at hQ
    exact wpAny_truthy_bool hQ
 ·have e:(bi (bs.map Value.bool).toArray.size).all (fun i=>bs.getD i false)=bs.all id:=by
   rw [aq,ab];exact uN bs
  rw [e]
  refine ⟨.bl _,H,I.kept (h':=h') (t':=tk) fun b o eb=>hk b o (fun z=>?_) (aa _ eb),rfl,q⟩
  have:b=s.heap.objs.size:=by simpa using z
  exact absurd (au eb) (by rw [this];exact br _)
def vo:List Rv->Option Rv
 | [(_,.lst ds)]=>match js ds with
   | some bs=>some (.pu,.bl (bs.all id))
   | none=>none
 | _=>none
def DB:List Rv->Option Rv
 | [(_,.lst ds)]=>match js ds with
   | some bs=>some (.pu,.bl (bs.any id))
   | none=>none
 | _=>none
theorem yp {K:PySem.W.Frag}:Cal K (fun xs H Q=>∃ (p:Addr) (ys:List V) (bs:List Bool),xs=[.ref p]/\SqL K H p ys/\ys=bs.map V.bl/\Q (.bl (bs.all id)) H) vo:=by
 intro B H0 G H rs c xs Q sg ra e k
 unfold vo at e
 split at e
 ·split at e
  ·rename_i bs eb
   cases e
   obtain ⟨v,rfl,h⟩:=du.one ra
   obtain ⟨p,ys,rfl,q,d⟩:=h.lst sg
   rw [om eb] at d
   exact ⟨p,ys,bs,rfl,q,n6 d,k _ G H (Ext.refl sg) rfl⟩
  ·cases e
 ·cases e
theorem B6 (hc:X.calm=true) (hg:Gl X "all") (hm:X.mg "all" = none) (ha:PXA X (e::es) g) (he:starEach (e::es) X.env=(false,eval e X.env)::starEach es X.env:=by exact aX rfl) (hpl:(backTo pos (starEach es X.env)).any (·.1)=false:=by rfl):PX X (.Call (.Name "all" p) (e::es) [] pos) (xB vo g) :=
 Co (sj hc) yp hg hm (by decide +kernel) ha (by decide) (by decide) he hpl
def Dd:Rho->Option (Option Int):=fun _=>some none
def Cy (f:Rho->Option Rv):Rho->Option (Option Int):=fun ρ=>match f ρ with
 | some (_,.int i)=>some (some i)
 | _=>none
def DF (ds:List Da) (lo hi:Option Int):List Da:=(ds.drop (HT.sIx ds.length 0 lo)).take (HT.sIx ds.length ds.length hi-HT.sIx ds.length 0 lo)
def slD (lo hi:Option Int):Da->Option Rv
 | .tup ds=>some (.pu,.tup (DF ds lo hi))
 | .lst ds=>some (.fr,.lst (DF ds lo hi))
 | _=>none
def AU (fa:Rho->Option Rv) (fl fh:Rho->Option (Option Int)):Rho->Option Rv:=fun ρ=>match fa ρ,fl ρ,fh ρ with
 | some r,some l,some h=>slD l h r.2
 | _,_,_=>none
theorem vU {K:PySem.W.Frag} {r r':R2} {op op':Rv->Rv->Option Rv} (h2:Op2 K r op) (h4:Op2 K r' op') {σ:St} {H:Hp} {Q:VK} (q:tX K (iL op op' fa fb fc) σ H Q):xo r r' (tX K fa) (tX K fb) (tX K fc) σ H Q:=by
 obtain ⟨B,G,ρ,z,sg,sb,st,e,k⟩:=q
 unfold iL at e
 split at e
 ·rename_i a' b' ea eb
  refine ⟨B,G,ρ,a',sg,sb,st,ea,fun x G1 H1 E1 ra=>⟨B,G1,ρ,b',E1.gh,sb.trans E1.hh,st.ext E1,eb,fun y G2 H2 E2 rb=>?_⟩⟩
  have ra2:=ra.ext E2
  have rb2:=rb.base (H0:=H) E1.hh
  split at e
  ·rename_i kd eo
   refine h2 B H G2 H2 a' b' _ x y _ E2.gh ra2 rb2 eo fun v G3 H3 E3 rc=>⟨true,rc.bl,?_⟩
   rw [if_pos rfl]
   split at e
   ·rename_i c' ec
    refine ⟨B,G3,ρ,c',E3.gh,((sb.trans E1.hh).trans E2.hh).trans E3.hh,((st.ext E1).ext E2).ext E3,ec,fun w G4 H4 E4 rw'=>?_⟩
    refine h4 B H G4 H4 b' c' z y w _ E4.gh ((rb2.ext E3).ext E4) (rw'.base ((E1.hh.trans E2.hh).trans E3.hh)) e fun v5 G5 H5 E5 r5=>?_
    exact k v5 G5 H5 ((((E1.trans E2).trans E3).trans E4).trans E5) (r5.base (((E1.hh.trans E2.hh).trans E3.hh).trans E4.hh))
   ·cases e
  ·rename_i kd eo
   cases e
   refine h2 B H G2 H2 a' b' _ x y _ E2.gh ra2 rb2 eo fun v G3 H3 E3 rc=>⟨false,rc.bl,?_⟩
   rw [if_neg ah]
   exact k _ G3 H3 ((E1.trans E2).trans E3) rfl
  ·cases e
 ·cases e
theorem uO {o o':CmpOp} {op op':Rv->Rv->Option Rv} (h:CR2 X o op) (h':CR2 X o' op') (ha:PX X a fa) (hb:PX X b fb) (hc:PX X c fc) (hm:lastMarks [o,o'] [b,c]=false:=by with_unfolding_all rfl) :
 PXT X (.Compare a [o,o'] [b,c] pos) (tb (iL op op' fa fb fc)):=by
 obtain ⟨r,h1,h2⟩:=h
 obtain ⟨r',h3,h4⟩:=h'
 exact PT.imp (vH h1 h3 ha hb hc hm) fun σ H Q q=>vU h2 h4 (yJ q)
end
end Ry
namespace Ry
open PySem PySem.Spec PyProof.Rows L2
def d7 (h:Heap) (d:Addr) (es:Array DictEntry) (ep:Nat):Prop:=∃ o,h.get? d=some o/\o.ExactDict/\o.data=.dict es ep
section
variable {prog:Program} {w:World} {A:Around} {E:Value->Shared->Prop} {s:Shared} {d it:Addr} {es:Array DictEntry} {ep i:Nat}
theorem d7.ty (h:d7 s.heap d es ep):s.TypeIs (.ref d) "dict":=let ⟨o,ho,hx,_⟩:=h;⟨o,ho,hx.1⟩
theorem d7.at {h h':Heap} (x:d7 h d es ep) (k:∀ o,h.get? d=some o->h'.get? d=some o):d7 h' d es ep:=let ⟨o,ho,r⟩:=x;⟨o,k o ho,r⟩
theorem uH {Q:Value->Shared->Prop} (lo:(d == sysModules)=false) (hm:d7 s.heap d es ep)
 (hQ:Q (.ref s.heap.objs.size) { s with heap:=s.heap.push { cls:=.type "dict_keyiterator",data:=.fields #[.ref d,.int 0 0,.int es.size 0,.int ep 0] } }):wpAny (model prog w) A (pyIter (.ref d)) Q E s:=by
 obtain ⟨o,ho,hx,hdat⟩:=id hm
 have T:=hm.ty
 refine wpAny_pyIter_slot T F.slot_dict_iter (wpAny_call_entry F.slot_dict_iter T F.entry_dict_iter ?_ (F.args_dict_iter_1 _));unfold Builtin.«dict.__iter__»
 refine wpAny_bind ?_;unfold Builtin.Dict.dictSlotNone
 refine wpAny_bind (wpAny_notOrdered_dict T ?_);show wpAny _ _ (pure (Value.ref d)) _ _ s
 refine wpAny_pure ?_;show wpAny _ _ (Builtin.Dict.showsAll d>>=_) _ _ s;unfold Builtin.Dict.showsAll
 rw [if_neg (fun z=>ah (lo▸z))]
 refine wpAny_bind (wpAny_pure (wpAny_bind (wpAny_dictEntries ho hdat (wpAny_bind (wpAny_dictEpoch ho hdat ?_)))))
 refine wpAny_bind (wpAny_newObj_type (wpAny_pure ⟨_,rfl,"dict_keyiterator",_,⟨_,af _ rfl,rfl⟩,F.slot_dict_keyiterator_next.lookup,?_⟩))
 simpa [rawInt] using hQ
theorem tf {Q:Option Value->Shared->Prop} (hit:s.heap.IsKeyIter it d i es.size ep) (hm:d7 s.heap d es ep) (hlt:i<es.size)
 (hQ:∀ h',h'.IsKeyIter it d (i+1) es.size ep->Heap.SameBut it s.heap h'->Q (some es[i].key) { s with heap:=h' }):wpAny (model prog w) A (pyNext (.ref it)) Q E s:=by
 obtain ⟨⟨o,ho,hc,hd⟩,od,hod,hx,hdd⟩:=And.intro (id hit) (id hm)
 unfold pyNext;refine wpAny_bind (wpAny_attempt (wpAny_callSpecial?_slot (name:=Str.ofString "__next__") hit.typeIs F.slot_dict_keyiterator_next (wpAny_call_entry F.slot_dict_keyiterator_next hit.typeIs F.entry_dict_keyiterator_next ?_ (F.args_dict_keyiterator_next_1 _))))
 refine wpAny_bind (wpAny_pure (wpAny_bind (wpAny_bind ?_)));first | refine wpAny_bind (wpAny_typeNameOfWhole_keyiter hit.typeIs (wpAny_pure ?_)) | refine wpAny_bind (wpAny_typeNameOf_keyiter hit.typeIs (wpAny_pure ?_))
 refine wpAny_bind (wpAny_fieldsOf ho hd ?_);simp only [show Builtin.Dict_items.ownsTuple "dict_keyiterator" = false by decide,bN,if_false]
 show wpAny _ _ (if (Value.ref d == Value.none)=true then _ else _) _ _ s;rw [if_neg (show ¬ ((Value.ref d == Value.none)=true) from fun z=>ah z)]
 refine wpAny_bind (wpAny_pure (wpAny_bind (wpAny_dictEntries hod hdd ?_)));rw [if_neg (by simp)]
 refine wpAny_bind (wpAny_pure (wpAny_bind (wpAny_dictEpoch hod hdd ?_)));rw [if_neg (by simp)]
 refine wpAny_pure ?_
 simp only [show ¬ ((i:Int)<0) by lia,if_false,bn,aJ hlt]
 refine wpAny_bind ?_;first | refine wpAny_bind (wpAny_typeNameOfWhole_keyiter hit.typeIs (wpAny_pure ?_)) | refine wpAny_bind (wpAny_typeNameOf_keyiter hit.typeIs (wpAny_pure ?_))
 refine wpAny_bind (wpAny_isOneOf_keyiter hit.typeIs ?_);show wpAny _ _ (setField (.ref it) 1 (rawInt ((i:Int)+1))>>=_) _ _ s;refine wpAny_bind (wpAny_setField ho hd (by simp) ?_)
 have nx:(s.heap.update it (bK (·.setIfInBounds 1 (rawInt ((i:Int)+1))))).IsKeyIter it d (i+1) es.size ep:=⟨_,bb _ ho (bT (bF hd _)),(dN ..).trans hc,by rw [bF hd];simp [rawInt]⟩
 refine wpAny_bind (wpAny_holding ?_);refine wpAny_bind (wpAny_isOneOf_keyiter (s:={ s with heap:=s.heap.update it (bK (·.setIfInBounds 1 (rawInt ((i:Int)+1)))) }) nx.typeIs ?_);show wpAny _ _ (pure es[i].key) _ _ _
 exact wpAny_pure (wpAny_pure ⟨_,rfl,wpAny_pure (hQ _ nx (Heap.SameBut.update ..))⟩)
theorem wC {Q:Option Value->Shared->Prop} (hh:A.handled=none) (hit:s.heap.IsKeyIter it d i es.size ep) (hm:d7 s.heap d es ep) (hge:es.size<=i)
 (hQ:∀ h',Heap.ExtBut it s.heap h'->Q none { s with heap:=h' }):wpAny (model prog w) A (pyNext (.ref it)) Q E s:=by
 obtain ⟨⟨o,ho,hc,hd⟩,od,hod,hx,hdd⟩:=And.intro (id hit) (id hm)
 unfold pyNext;refine wpAny_bind (wpAny_attempt (wpAny_callSpecial?_slot (name:=Str.ofString "__next__") hit.typeIs F.slot_dict_keyiterator_next (wpAny_call_entry F.slot_dict_keyiterator_next hit.typeIs F.entry_dict_keyiterator_next ?_ (F.args_dict_keyiterator_next_1 _))))
 refine wpAny_bind (wpAny_pure (wpAny_bind (wpAny_bind ?_)));first | refine wpAny_bind (wpAny_typeNameOfWhole_keyiter hit.typeIs (wpAny_pure ?_)) | refine wpAny_bind (wpAny_typeNameOf_keyiter hit.typeIs (wpAny_pure ?_))
 refine wpAny_bind (wpAny_fieldsOf ho hd ?_);simp only [show Builtin.Dict_items.ownsTuple "dict_keyiterator" = false by decide,bN,if_false]
 show wpAny _ _ (if (Value.ref d == Value.none)=true then _ else _) _ _ s;rw [if_neg (show ¬ ((Value.ref d == Value.none)=true) from fun z=>ah z)]
 refine wpAny_bind (wpAny_pure (wpAny_bind (wpAny_dictEntries hod hdd ?_)));rw [if_neg (by simp)]
 refine wpAny_bind (wpAny_pure (wpAny_bind (wpAny_dictEpoch hod hdd ?_)));rw [if_neg (by simp)]
 refine wpAny_pure ?_
 simp only [show ¬ ((i:Int)<0) by lia,if_false,bn,b0 hge]
 refine wpAny_bind ?_;first | refine wpAny_bind (wpAny_typeNameOfWhole_keyiter hit.typeIs (wpAny_pure ?_)) | refine wpAny_bind (wpAny_typeNameOf_keyiter hit.typeIs (wpAny_pure ?_))
 show wpAny _ _ (setField (.ref it) 0 .none>>=_) _ _ s;refine wpAny_bind (wpAny_setField ho hd (by simp) ?_);show wpAny _ _ (newExc (.type "StopIteration") []>>=_) _ _ _
 refine wpAny_bind ?_;simp only [newExc,newTuple];refine wpAny_bind (wpAny_newObj_type ?_ (by size_fits))
 refine wpAny_bind (m:=firstArgMember _ _) (wpAny_of_eq (a:=Value.none) (by first | rfl | (simp only [firstArgMember];rfl)) (wpAny_newObj_type ?_ (by size_fits)));simp only [raiseNew]
 refine wpAny_bind (wpAny_handled ?_);rw [show A.in1.handled=none from hh];refine wpAny_bind (wpAny_pure (wpAny_throw ?_))
 refine wpAny_bind (wpAny_isInstance (T:="StopIteration") (b:=true) ⟨_,af _ rfl,rfl⟩ isSubtype_stop (wpAny_pure (hQ _ (((Heap.SameBut.update ..).extBut.push _).push _))))
theorem uC (hh:A.handled=none) (hne:d≠it):Walks prog w A it [it,d] [it] es.size (fun i v=>∃ h:i<es.size,v=es[i].key) (fun i h=>h.IsKeyIter it d i es.size ep/\d7 h d es ep) where
 sub:=fun b hb=>by simp at hb;simp [hb]
 frame:=fun i h h' st k=>⟨let ⟨o,ho,r⟩:=st.1;⟨o,k it (by simp) o ho,r⟩,st.2.at fun o e=>k d (by simp) o e⟩
 item:=fun i s Q E hi st hQ=>tf st.1 st.2 hi fun h' nx sb=>hQ _ h' s.toks ⟨hi,rfl⟩ ⟨nx,st.2.at fun o e=>(sb.2 d hne).trans e⟩ fun b o hb e=>sb.extBut b o (fun z=>hb (by simp [z])) e
 done:=fun s Q E st hQ=>wC hh st.1 st.2 (aj _) fun h' eb=>hQ h' s.toks fun b o hb e=>eb b o (fun z=>hb (by simp [z])) e
 self:=fun i s Q E st hQ=>by
  obtain ⟨o,ho,hc,hd⟩:=st.1
  refine wpAny_pyIter_slot ⟨o,ho,hc⟩ F.slot_dict_keyiterator_iter (wpAny_call_entry F.slot_dict_keyiterator_iter ⟨o,ho,hc⟩ F.entry_dict_keyiterator_iter ?_ (F.args_dict_keyiterator_iter_1 _))
  show wpAny _ _ (ret (.ref it)) _ _ s
  exact wpAny_pure ⟨_,rfl,"dict_keyiterator",_,⟨o,ho,hc⟩,F.slot_dict_keyiterator_next.lookup,hQ⟩
theorem vN (lo:(d == sysModules)=false):PySem.W.KdlSrc prog w "dict" d d es.size (fun i v=>∃ h:i<es.size,v=es[i].key) (fun h=>d7 h d es ep) where
 type:=fun s hm=>hm.ty
 there:=fun h hm=>let ⟨o,ho,_⟩:=hm;⟨au ho,au ho⟩
 keep:=fun h h' hm k=>hm.at fun o e=>k d (.inl rfl) o e
 notList:=by decide
 notTuple:=by decide
 hint:=fun A E s Q hm hq=>PySem.W.kdl_hint_dict hm.ty hq
 iter:=fun A s hh hm=>⟨_,_,fun E Q hq=>uH lo hm hq,uC hh (let ⟨o,ho,_⟩:=hm;aH (au ho)),⟨_,af _ rfl,rfl,rfl⟩,hm.at fun o e=>aa _ e⟩
end
end Ry
namespace Ry
open PySem PySem.Spec PyProof.Rows L2
section
variable (O:KeyOrd)
def wA (a:O.α):List O.α->List O.α
 | []=>[a]
 | b::r=>if O.blt b a=true then b::wA a r else a::b::r
def Ad:List O.α->List O.α
 | []=>[]
 | a::r=>wA O a (Ad r)
variable {O}
theorem kc (a:O.α):∀ l:List O.α,(wA O a l).Perm (a::l)
 | []=>.refl _
 | b::r=>by
   unfold wA
   split
   ·exact ((kc a r).cons b).trans (.swap ..)
   ·exact .refl _
theorem mP:∀ l:List O.α,(Ad O l).Perm l
 | []=>.refl _
 | a::r=>(kc a _).trans ((mP r).cons a)
theorem j4 (a:O.α):∀ {l:List O.α},l.Pairwise O.kle->(wA O a l).Pairwise O.kle
 | [],_=>by unfold wA;exact aY _ _
 | b::r,h=>by
   obtain ⟨h1,h2⟩:=aZ.mp h
   unfold wA
   split
   ·rename_i hb
    refine aZ.mpr ⟨fun x hx=>?_,j4 a h2⟩
    rcases ag.mp ((kc a r).mem_iff.mp hx) with e | e
    ·subst e;exact KeyOrd.kle_of_klt hb
    ·exact h1 x e
   ·rename_i hb
    have hab:O.kle a b:=by unfold KeyOrd.kle;simpa using hb
    refine aZ.mpr ⟨fun x hx=>?_,h⟩
    rcases ag.mp hx with e | e
    ·subst e;exact hab
    ·exact KeyOrd.kle_trans hab (h1 x e)
theorem jV:∀ l:List O.α,(Ad O l).Pairwise O.kle
 | []=>.nil
 | a::r=>j4 a (jV r)
theorem cW:∀ {l m:List O.α},l.Perm m->l.Pairwise O.kle->m.Pairwise O.kle->l=m
 | [],m,h,_,_=>(DR.mp h).symm
 | a::l,[],h,_,_=>absurd (h.length_eq) (by simp)
 | a::l,b::m,h,h1,h2=>by
   obtain ⟨a1,a2⟩:=aZ.mp h1
   obtain ⟨b1,b2⟩:=aZ.mp h2
   have e:a=b:=by
    rcases ag.mp (h.mem_iff.mp (ak)) with e | e
    ·exact e
    ·rcases ag.mp (h.mem_iff.mpr (ak (a:=b) (l:=m))) with e' | e'
     ·exact e'.symm
     ·exact KeyOrd.kle_antisymm (a1 b e') (b1 a e)
   subst e
   rw [cW (List.Perm.cons_inv h) a2 b2]
end
def oH:KeyOrd where
 α:=Int
 blt a b:=decide (a<b)
 irrefl a:=by simp
 trans a b c h1 h2:=by simp at *;lia
 negTrans a b c h:=by simp at *;lia
 total a b h1 h2:=by simp at *;lia
section
open HT
theorem i9:∀ xs:List Int,lexLt xs xs=false
 | []=>rfl
 | x::xs=>by rw [lexLt_cons,if_pos rfl];exact i9 xs
theorem mK:∀ xs ys zs:List Int,lexLt xs ys=true->lexLt ys zs=true->lexLt xs zs=true
 | [],[],_,h,_=>by cases h
 | [],_::_,[],_,h=>by cases h
 | [],_::_,_::_,_,_=>rfl
 | _::_,[],_,h,_=>by cases h
 | _::_,_::_,[],_,h=>by cases h
 | x::xs,y::ys,z::zs,h1,h2=>by
   rw [lexLt_cons] at *
   by_cases e1:x=y<;>by_cases e2:y=z
   ·subst e1;subst e2;rw [if_pos rfl] at *;exact mK xs ys zs h1 h2
   ·subst e1;rw [if_neg e2] at *;exact h2
   ·subst e2;rw [if_neg e1] at *;exact h1
   ·rw [if_neg e1] at h1;rw [if_neg e2] at h2
    have a1:=of_decide_eq_true h1
    have a2:=of_decide_eq_true h2
    rw [if_neg (by lia)]
    exact decide_eq_true (by lia)
theorem sH:∀ xs ys zs:List Int,lexLt xs zs=true->lexLt xs ys=true\/lexLt ys zs=true
 | [],_,[],h=>by cases h
 | [],[],_::_,h=>.inr h
 | [],_::_,_::_,_=>.inl rfl
 | _::_,_,[],h=>by cases h
 | _::_,[],_::_,_=>.inr rfl
 | x::xs,y::ys,z::zs,h=>by
   rw [lexLt_cons] at h
   rw [lexLt_cons,lexLt_cons]
   by_cases e1:x=y<;>by_cases e2:y=z
   ·subst e1;subst e2;rw [if_pos rfl] at *;rw [if_pos rfl];exact sH xs ys zs h
   ·subst e1;rw [if_neg e2] at *;exact .inr h
   ·subst e2;rw [if_neg e1] at *;exact .inl h
   ·rw [if_neg e1,if_neg e2]
    by_cases e3:x=z
    ·subst e3
     by_cases hxy:x<y
     ·exact .inl (decide_eq_true hxy)
     ·exact .inr (decide_eq_true (by lia))
    ·rw [if_neg e3] at h
     have a1:=of_decide_eq_true h
     by_cases hxy:x<y
     ·exact .inl (decide_eq_true hxy)
     ·exact .inr (decide_eq_true (by lia))
theorem mV:∀ xs ys:List Int,lexLt xs ys=false->lexLt ys xs=false->xs=ys
 | [],[],_,_=>rfl
 | [],_::_,h,_=>by cases h
 | _::_,[],_,h=>by cases h
 | x::xs,y::ys,h1,h2=>by
   rw [lexLt_cons] at *
   by_cases e:x=y
   ·subst e;rw [if_pos rfl] at *;rw [mV xs ys h1 h2]
   ·rw [if_neg e] at h1;rw [if_neg (fun z=>e z.symm)] at h2
    have a1:=of_decide_eq_false h1
    have a2:=of_decide_eq_false h2
    lia
end
def yt:KeyOrd:=⟨List Int,HT.lexLt,i9,mK,sH,mV⟩
section
variable {O:KeyOrd}
theorem ku {α:Type} {p:Array Nat} {n:Nat} (h:bW n p) {l:List α} (hl:l.length=n) (d:α):(p.toList.map fun i=>l.getD i d).Perm l:=by
 have h1:p.toList.Perm (bi n):=by simpa using bp.mp h.perm
 refine (h1.map _).trans ?_
 have:(bi n).map (fun i=>l.getD i d)=l:=by
  apply il
  ·simp [hl]
  ·intro i h1 h2;simp [h2]
 rw [this]
theorem ig {p:Array Nat} {n:Nat} (h:bW n p) {ks:List O.α} (d:O.α) (u:lh O (fun i=>ks.getD i d) p n):(p.toList.map fun i=>ks.getD i d).Pairwise O.kle:=by
 rw [bE]
 intro i j hi hj hij
 have hs:p.toList.length=n:=by rw [az];exact h.size
 rw [ab] at hi hj
 have:=u i j (eJ hij) (by lia)
 have e:∀ k,(hk:k<p.toList.length)->KN O (fun i=>ks.getD i d) p k=ks.getD (p.toList[k]) d:=fun k hk=>by
  have hk':k<p.size:=by simpa using hk
  show ks.getD (p.getD k 0) d=_
  congr 1
  simp [fR,hk']
 rw [e i hi,e j hj] at this
 rw [Cc,Cc]
 exact this
theorem h8 {p:Array Nat} {ks:List O.α} (d:O.α) (h:bW ks.length p) (u:lh O (fun i=>ks.getD i d) p ks.length):(p.toList.map fun i=>ks.getD i d)=Ad O ks :=
 cW ((ku h rfl d).trans (mP ks).symm) (ig h d u) (jV ks)
end
section
variable {prog:Program} {w:World} {A:Around} {E:Value->Shared->Prop} {s:Shared} {O:KeyOrd} {κ:SortKind} {key:Nat->O.α} {vs:List Value} {a:Addr} {n:Nat}
def ie (a:Addr) (h h':Heap):Prop:=∀ b o,b≠a->h.get? b=some o->h'.get? b=some o
theorem qk {P:PySem.Fin->Shared->Prop} (ho:s.heap.get? a=some (seqObj "list" vs.toArray n)) (h64:vs.length<64\/(vs.length<=127/\∀ i j,i<vs.length->j<vs.length->key i=key j->i=j))
 (kind:∀ h',ie a s.heap h'->2<=vs.length->∀ Q:SortKind->Shared->Prop,Q κ { s with heap:=h' }->wpAny (model prog w) A (keyKind' vs.toArray) Q (fun _ _=>False) { s with heap:=h' })
 (lt:∀ h',ie a s.heap h'->∀ i j (C:Bool->Shared->Prop),i<vs.length->j<vs.length->C (O.blt (key i) (key j)) { s with heap:=h' }->PySem.W.kas_ask prog w A κ vs i j C { s with heap:=h' })
 (h:∀ p h' c,bW vs.length p->lh O key p vs.length->ie a s.heap h'->h'.get? a=some (seqObj "list" (p.toList.map fun i=>vs.getD i Value.none).toArray c)->P (.done (.ret .none)) { s with heap:=h' }) :
 wpAny (model prog w) A (Builtin.«list.sort» ⟨[.ref a],[]⟩) P E s:=by
 have ha:a<s.heap.objs.size:=au ho
 have sz:sizeLine=16777216:=sizeLine_eq
 have h127:vs.length<=127:=by rcases h64 with h | h<;>lia
 rw [list_sort_plain]
 refine wpAny_bind (listItems_at ho rfl (wpAny_bind (listUpdate_at ho rfl ?_ (by rw [aq];lia) (aT _))))
 obtain ⟨e1,ho1⟩:∃ e1,(s.heap.update a (bj fun _=>(#[]:Array Value))).get? a=some (seqObj "list" #[] e1):=⟨_,get?_update_seq ho fun _=>#[]⟩
 refine wpAny_bind (seqEpoch_at ho1 rfl (wpAny_bind (wpAny_newTuple (wpAny_bind (wpAny_newList (wpAny_holding ?_) (aT _))) (by show vs.length<=_;lia))))
 show wpAny (model prog w) A _ P E { s with heap:=(((s.heap.update a (bj fun _=>(#[]:Array Value))).push (seqObj "tuple" vs.toArray 0)).push (seqObj "list" #[] 0)) }
 generalize hg:(((s.heap.update a (bj fun _=>(#[]:Array Value))).push (seqObj "tuple" vs.toArray 0)).push (seqObj "list" #[] 0))=g
 have hga:g.get? a=some (seqObj "list" #[] e1):=by rw [<- hg];exact aa _ (aa _ ho1)
 have hgk:ie a s.heap g:=fun b o hb e=>by rw [<- hg];exact aa _ (aa _ ((aI _ _ (Ne.symm hb)).trans e))
 dsimp only
 have fin:∀ (out:Array Value) (p:Array Nat),out=(p.toList.map fun i=>vs.getD i Value.none).toArray->bW vs.length p->lh O key p vs.length->P (.done (.ret .none)) { s with heap:=g.update a (bj fun _=>out) }:=fun out p eo hp hu=>by
  subst eo
  refine h p _ _ hp hu (fun b o hb e=>(aI _ _ (Ne.symm hb)).trans (hgk b o hb e)) (get?_update_seq hga fun _=>_)
 by_cases h2:vs.toArray.size<2
 ·rw [if_pos h2,if_pos h2]
  refine wpAny_bind (wpAny_pure ?_)
  rw [StateT.run_pure]
  refine wpAny_bind (wpAny_pure ?_)
  dsimp only
  have es:(arrOf (SortSt.mk' general' (vs.toArray.zip vs.toArray) #[] 7 none)).map (·.2)=vs.toArray:=by
   show (vs.toArray.zip vs.toArray).map (·.2)=_
   have e:oA (fun x=>x.snd) (vs.zip vs)=vs:=Cd (aj _)
   simp [e]
  rw [es]
  refine wpAny_bind (seqEpoch_at hga rfl (wpAny_bind (listUpdate_at hga rfl ?_ (aT _) (by rw [aq];lia))))
  simp only [bne_self_eq_false,bN,if_false]
  refine wpAny_pure (fin _ (bi vs.length).toArray ?_ ⟨.refl _⟩ fun i j hij hj=>?_)
  ·congr 1
   apply il
   ·simp
   ·intro i h1 h2;simp [h1]
  ·rw [aq] at h2
   have:i=j:=by lia
   subst this
   exact KeyOrd.kle_refl _
 ·rw [if_neg h2,if_neg h2]
  rw [aq] at h2
  refine wpAny_bind (wpAny_mono (kind g hgk (by lia) _ ?_) (fun _ _ x=>x) fun _ _ x=>x.elim)
  refine wpAny_bind (wpAny_mono (qr (O:=O) (key:=key) (ks:=vs) (vs:=vs) rfl (by lia) h64 (fun i j C hi hj hc=>lt g hgk i j C hi hj hc)) ?_ fun _ _ e=>e)
  rintro ⟨⟨⟩,st'⟩ s' ⟨rfl,p,har,hf,hp,hu⟩
  dsimp only
  have hout:=PySem.W.kat_snds rfl har
  rw [hout]
  refine wpAny_bind (seqEpoch_at hga rfl (wpAny_bind (listUpdate_at hga rfl ?_ (aT _) ?_)))
  ·rw [hf]
   simp only [bne_self_eq_false,bN,if_false]
   exact wpAny_pure (fin _ p rfl hp hu)
  ·rw [aq,ab,az,hp.size];lia
def ff (prog:Program) (w:World) (A:Around) (s:Shared) (x:Value) (vs:List Value):Prop :=
 ∀ (E:Value->Shared->Prop) (R:List Value->Shared->Prop),(∀ h' tk,(∀ b o,s.heap.get? b=some o->h'.get? b=some o)->R vs { s with heap:=h',toks:=tk })->wpAny (model prog w) A (collect x) R E s
theorem kJ {x:Value} {Q:Value->Shared->Prop} (col:ff prog w A.in1 s x vs) (h64:vs.length<64\/(vs.length<=127/\∀ i j,i<vs.length->j<vs.length->key i=key j->i=j))
 (kind:∀ h' tk,(∀ b o,s.heap.get? b=some o->h'.get? b=some o)->2<=vs.length->∀ Q:SortKind->Shared->Prop,Q κ { s with heap:=h',toks:=tk }->wpAny (model prog w) A.in1.in1 (keyKind' vs.toArray) Q (fun _ _=>False) { s with heap:=h',toks:=tk })
 (lt:∀ h' tk,(∀ b o,s.heap.get? b=some o->h'.get? b=some o)->∀ i j (C:Bool->Shared->Prop),i<vs.length->j<vs.length->C (O.blt (key i) (key j)) { s with heap:=h',toks:=tk }->PySem.W.kas_ask prog w A.in1.in1 κ vs i j C { s with heap:=h',toks:=tk })
 (h:∀ (p:Array Nat) (h1 h':Heap) (tk:Nat) (c:Nat),bW vs.length p->lh O key p vs.length->(∀ b o,s.heap.get? b=some o->h1.get? b=some o)->(∀ b o,h1.get? b=some o->h'.get? b=some o)->h'.get? h1.objs.size=some (seqObj "list" (p.toList.map fun i=>vs.getD i Value.none).toArray c)->Q (.ref h1.objs.size) { s with heap:=h',toks:=tk }) :
 wpAny (model prog w) A (call (.builtin "sorted") [x]) Q E s:=by
 have sz:sizeLine=16777216:=sizeLine_eq
 have h127:vs.length<=127:=by rcases h64 with h | h<;>lia
 refine Calls.call_function_entry kind_sorted plain_sorted entry_sorted (args_sorted1 _) ?_
 unfold Builtin.«sorted»
 refine wpAny_bind (m:=checkCount "sorted" 1 1 _) (wpAny_pure (wpAny_bind (col _ _ fun h1 tk k1=>?_)))
 refine wpAny_bind (wpAny_newList ?_ (by lia))
 have hoD:(h1.push (seqObj "list" vs.toArray 0)).get? h1.objs.size=some (seqObj "list" vs.toArray 0):=af _ rfl
 have kp1:∀ h',ie h1.objs.size (h1.push (seqObj "list" vs.toArray 0)) h'->∀ b o,h1.get? b=some o->h'.get? b=some o:=fun h' k b o e =>
  k b o (aH (au e)) (aa _ e)
 have kp:∀ h',ie h1.objs.size (h1.push (seqObj "list" vs.toArray 0)) h'->∀ b o,s.heap.get? b=some o->h'.get? b=some o:=fun h' k b o e=>kp1 h' k b o (k1 b o e)
 show wpAny _ _ _ _ _ { s with heap:=h1.push (seqObj "list" vs.toArray 0),toks:=tk }
 refine wpAny_bind (wpAny_holding (wpAny_call_entry slot_list_sort ⟨_,hoD,rfl⟩ entry_list_sort ?body (args_list_sort _)))
 case body =>
  refine qk (s:={ s with heap:=h1.push (seqObj "list" vs.toArray 0),toks:=tk }) (O:=O) (key:=key) (κ:=κ) hoD h64 (fun h' k h2 Q' q=>kind h' tk (kp h' k) h2 Q' q) (fun h' k i j C hi hj c=>lt h' tk (kp h' k) i j C hi hj c) fun p h' c hp hu k e=>?_
  exact ⟨_,rfl,wpAny_pure ⟨_,rfl,h p h1 h' tk c hp hu k1 (kp1 h' k) e⟩⟩
end
end Ry
namespace Ms
structure Lin {α:Type} (lt:α->α->Bool):Prop where
 irr:∀ a,lt a a=false
 tr:∀ a b c,lt a b=true->lt b c=true->lt a c=true
 tot:∀ a b,lt a b=false->lt b a=false->a=b
section
variable {α:Type} (lt:α->α->Bool)
def ins (a:α):List α->List α
 | []=>[a]
 | b::r=>if lt b a=true then b::ins a r else a::b::r
def srt:List α->List α
 | []=>[]
 | a::r=>ins lt a (srt r)
variable {lt}
def Le (lt:α->α->Bool) (a b:α):Prop:=lt b a=false
theorem Lin.asym (h:Lin lt) {a b:α} (q:lt a b=true):lt b a=false:=by
 cases e:lt b a with
 | false=>rfl
 | true=>have:=h.tr _ _ _ q e;rw [h.irr] at this;cases this
theorem Lin.letr (h:Lin lt) {a b c:α} (p:Le lt a b) (q:Le lt b c):Le lt a c:=by
 unfold Le at *
 cases e:lt c a with
 | false=>rfl
 | true =>
   cases e2:lt a b with
   | true=>have:=h.tr _ _ _ e e2;rw [q] at this;cases this
   | false=>have:=h.tot _ _ e2 p;subst this;rw [q] at e;cases e
theorem Lin.ofLt (h:Lin lt) {a b:α} (q:lt a b=true):Le lt a b:=h.asym q
theorem me (a:α):∀ l:List α,(ins lt a l).Perm (a::l)
 | []=>.refl _
 | b::r=>by
   unfold ins
   split
   ·exact ((me a r).cons b).trans (.swap ..)
   ·exact .refl _
theorem srt_perm:∀ l:List α,(srt lt l).Perm l
 | []=>.refl _
 | a::r=>(me a _).trans ((srt_perm r).cons a)
theorem kR (h:Lin lt) (a:α):∀ {l:List α},l.Pairwise (Le lt)->(ins lt a l).Pairwise (Le lt)
 | [],_=>by unfold ins;exact aY _ _
 | b::r,q=>by
   obtain ⟨h1,h2⟩:=aZ.mp q
   unfold ins
   split
   ·rename_i hb
    refine aZ.mpr ⟨fun x hx=>?_,kR h a h2⟩
    rcases ag.mp ((me a r).mem_iff.mp hx) with e | e
    ·subst e;exact h.ofLt hb
    ·exact h1 x e
   ·rename_i hb
    have hab:Le lt a b:=by unfold Le;simpa using hb
    refine aZ.mpr ⟨fun x hx=>?_,q⟩
    rcases ag.mp hx with e | e
    ·subst e;exact hab
    ·exact h.letr hab (h1 x e)
theorem kL (h:Lin lt):∀ l:List α,(srt lt l).Pairwise (Le lt)
 | []=>.nil
 | a::r=>kR h a (kL h r)
theorem cW (h:Lin lt):∀ {l m:List α},l.Perm m->l.Pairwise (Le lt)->m.Pairwise (Le lt)->l=m
 | [],m,p,_,_=>(DR.mp p).symm
 | a::l,[],p,_,_=>absurd (p.length_eq) (by simp)
 | a::l,b::m,p,h1,h2=>by
   obtain ⟨a1,a2⟩:=aZ.mp h1
   obtain ⟨b1,b2⟩:=aZ.mp h2
   have e:a=b:=by
    rcases ag.mp (p.mem_iff.mp (ak)) with e | e
    ·exact e
    ·rcases ag.mp (p.mem_iff.mpr (ak (a:=b) (l:=m))) with e' | e'
     ·exact e'.symm
     ·exact h.tot _ _ (b1 a e) (a1 b e')
   subst e
   rw [cW h (List.Perm.cons_inv p) a2 b2]
theorem srt_strict (h:Lin lt) {l:List α} (q:l.Nodup):(srt lt l).Pairwise fun a b=>lt a b=true:=by
 have nd:(srt lt l).Nodup:=(srt_perm l).nodup_iff.mpr q
 have hs:=kL h l
 have both:=hs.and nd
 refine both.imp fun {a b} z=>?_
 cases e:lt a b with
 | true=>rfl
 | false=>exact absurd (h.tot _ _ e z.1) z.2
theorem strict_ext (h:Lin lt) {l m:List α} (p:l.Pairwise fun a b=>lt a b=true) (q:m.Pairwise fun a b=>lt a b=true) (e:∀ x,x∈l↔x∈m):l=m:=by
 have ndl:l.Nodup:=p.imp fun {a b} z w=>by subst w;rw [h.irr] at z;cases z
 have ndm:m.Nodup:=q.imp fun {a b} z w=>by subst w;rw [h.irr] at z;cases z
 exact cW h ((List.perm_ext_iff_of_nodup ndl ndm).mpr e) (p.imp fun z=>h.ofLt z) (q.imp fun z=>h.ofLt z)
theorem srt_map {β:Type} {lt':β->β->Bool} {f:α->β} (e:∀ a b,lt' (f a) (f b)=lt a b):∀ l:List α,srt lt' (l.map f)=(srt lt l).map f
 | []=>rfl
 | a::r=>by
   have hi:∀ l:List α,ins lt' (f a) (l.map f)=(ins lt a l).map f:=fun l=>by
    induction l with
    | nil=>rfl
    | cons b r ih =>
      show (if lt' (f b) (f a)=true then _ else _)=oA f (if lt b a=true then _ else _)
      rw [e]
      split
      ·rw [ax,<- ih]
      ·rfl
   show ins lt' (f a) (srt lt' (r.map f))=(ins lt a (srt lt r)).map f
   rw [srt_map e r,hi]
end
def ltI (a b:Int):Bool:=decide (a<b)
theorem linI:Lin ltI:=⟨fun a=>by simp [ltI],fun a b c=>by simp only [ltI,decide_eq_true_eq];lia,fun a b=>by simp only [ltI,decide_eq_false_iff_not];lia⟩
def ltP (p q:Int×Int):Bool:=if p.1=q.1 then decide (p.2<q.2) else decide (p.1<q.1)
theorem linP:Lin ltP:=by
 refine ⟨fun a=>by simp [ltP],fun a b c h1 h2=>?_,fun a b h1 h2=>?_⟩
 ·unfold ltP at *
  split at h1<;>split at h2<;>split<;>simp only [decide_eq_true_eq] at *<;>lia
 ·unfold ltP at *
  split at h1<;>split at h2<;>simp only [decide_eq_false_iff_not] at *<;>(first | lia | exact Prod.ext (by lia) (by lia))
theorem length_le_of_subset {α:Type} [DecidableEq α]:∀ {l m:List α},l.Nodup->(∀ x∈l,x∈m)->l.length<=m.length
 | [],_,_,_=>aT _
 | a::l,m,nd,h=>by
   obtain ⟨n1,n2⟩:=be.mp nd
   have ha:a∈m:=h a (ak)
   have:=length_le_of_subset (l:=l) (m:=m.erase a) n2 fun x hx=>(List.mem_erase_of_ne (fun z=>n1 (by rw [<- z];exact hx))).mpr (h x (ai _ hx))
   rw [List.length_erase_of_mem ha] at this
   have hp:0<m.length:=List.length_pos_of_mem ha
   rw [aD]
   lia
end Ms
namespace Ry
open PySem PySem.Spec PyProof.Rows L2
theorem oQ (O:KeyOrd):∀ l:List O.α,Ad O l=Ms.srt O.blt l:=by
 have hi:∀ (a:O.α) (l:List O.α),wA O a l=Ms.ins O.blt a l:=fun a l=>by
  induction l with
  | nil=>rfl
  | cons b r ih=>unfold wA Ms.ins;rw [ih]
 intro l
 induction l with
 | nil=>rfl
 | cons a r ih=>unfold Ad Ms.srt;rw [hi,ih]
section
variable {prog:Program} {w:World} {A:Around} {s:Shared}
theorem lI {l:Addr} {vs:List Value} (hl:s.heap.IsList l vs.toArray) (hsz:vs.length<=sizeLine):ff prog w A s (.ref l) vs:=by
 intro E R h
 refine collect_list hl ?_ hsz
 have:=h ((s.heap.push (seqObj "list" #[] 0)).update s.heap.objs.size (bj (·++vs.toArray))) s.toks fun b o e=>by
  rw [xQ _ _ _ _ (aH (au e))]
  exact aa _ e
 exact this
theorem ko {l:Addr} {vs:List Value} (hl:IsTup s.heap l vs.toArray) (hsz:vs.length<=sizeLine):ff prog w A s (.ref l) vs:=by
 intro E R h
 obtain ⟨o,ho,hc,n,hd⟩:=id hl
 unfold collect
 refine wpAny_bind (wpAny_runValue (codeAny_builtin entry_proto_collect' ?_))
 show wpAny _ _ (do again (.builtin "list.__iadd__" ⟨[<- newList [],.ref l],[]⟩)) _ _ s
 refine wpAny_bind (wpAny_newList (wpAny_pure ⟨Code.quiet_builtin _ (by decide +kernel),codeAny_builtin entry_list_iadd' ?_⟩))
 show wpAny _ _ (Builtin.List.listExtendWith (.ref s.heap.objs.size) (.ref l) (.ref s.heap.objs.size)) _ _ { s with heap:=s.heap.push (seqObj "list" #[] 0) }
 unfold Builtin.List.listExtendWith
 have ho':(s.heap.push (seqObj "list" #[] 0)).get? l=some o:=aa _ ho
 refine wpAny_bind (wpAny_typeOf (T:="tuple") ⟨o,ho',hc⟩ ?_)
 have ht:(Value.type "tuple" == Value.type "tuple")=true:=by rfl
 rw [if_pos (by rw [ht];simp)]
 refine wpAny_bind (listItems_at ho' hd ?_)
 refine wpAny_bind (listItems_at (xs:=#[]) (n:=0) (af _ rfl) rfl ?_)
 rw [if_neg (by simp)]
 refine wpAny_bind (listUpdate_at (xs:=#[]) (n:=0) (af _ rfl) rfl ?_ (aT _) (by show (#[]++vs.toArray).size<=sizeLine+1;simp only [Array.size_append,aq,dA];lia))
 refine wpAny_pure ?_
 show wpAny (model prog w) A (do
  let o <- load s.heap.objs.size
  match o.data with
  | .seq xs _=>pure xs.toList
  | _=>unsupported "internal:collect") R E { s with heap:=(s.heap.push (seqObj "list" #[] 0)).update s.heap.objs.size (bj (·++vs.toArray)) }
 refine wpAny_bind (wpAny_load (get?_update_seq (af _ rfl) _) ?_)
 show wpAny _ _ (pure ((#[]:Array Value)++vs.toArray).toList) R E _
 rw [show ((#[]:Array Value)++vs.toArray).toList=vs by simp]
 exact wpAny_pure (h ((s.heap.push (seqObj "list" #[] 0)).update s.heap.objs.size (bj (·++vs.toArray))) s.toks fun b o e=>by
  rw [xQ _ _ _ _ (aH (au e))]
  exact aa _ e)
theorem iM {d:Addr} {es:Array DictEntry} {ep:Nat} (hh:A.handled=none) (lo:(d == sysModules)=false) (hm:d7 s.heap d es ep) (hz:es.size<=sizeLine):ff prog w A s (.ref d) (es.toList.map (·.key)):=by
 intro E R h
 refine PySem.W.kdu_collect (vN lo) hh hm hz fun h' tk acc k it=>?_
 have e:acc.toList=es.toList.map (·.key):=by
  apply dL
  intro i
  rw [aR,av,aR]
  cases q:acc[i]? with
  | none =>
    have:es.size<=i:=by rw [<- it.1];exact Array.getElem?_eq_none_iff.mp q
    rw [b0 this];rfl
  | some v =>
    obtain ⟨hl,rfl⟩:=it.2 i v q
    rw [aJ hl];rfl
 rw [e]
 exact h h' tk k
end
section
variable {prog:Program} {w:World} {A:Around} {s:Shared}
theorem tT {Q:Bool->Shared->Prop}:∀ {ns ms:List Int} {us ws:List Value} {fin:Bool} (i:Nat),cq (ns.map V.int) us->cq (ms.map V.int) ws->fin=decide (ns.length<ms.length)->Q (HT.lexLt ns ms) s->PySem.W.KatLex prog w A true fin Q (us.zip ws) i s
 | [],ms,us,ws,fin,i,r1,r2,hf,q=>by
   have:us=[]:=cq.zero r1
   subst this
   have e:HT.lexLt [] ms=fin:=by rw [hf];cases ms<;>simp [HT.lexLt]
   rw [e] at q
   exact q
 | n::ns,[],us,ws,fin,i,r1,r2,hf,q=>by
   have:ws=[]:=cq.zero r2
   subst this
   have e:HT.lexLt (n::ns) []=fin:=by rw [hf];simp [HT.lexLt]
   rw [e] at q
   rw [zX]
   exact q
 | n::ns,m::ms,us,ws,fin,i,r1,r2,hf,q=>by
   cases r1 with
   | cons h1 r1 =>
     cases r2 with
     | cons h2 r2 =>
       obtain ⟨t,rfl⟩:=h1
       obtain ⟨t',rfl⟩:=h2
       rw [kh]
       refine PySem.W.kat_cons (wpAny_eqBool_int ?_)
       by_cases e:n=m
       ·subst e
        rw [beq_self_eq_true]
        refine PySem.W.kat_yes (tT (i+1) r1 r2 (by rw [hf];simp) ?_)
        have:HT.lexLt (n::ns) (n::ms)=HT.lexLt ns ms:=by rw [HT.lexLt_cons,if_pos rfl]
        rw [this] at q
        exact q
       ·rw [show (n == m)=false from beq_eq_false_iff_ne.mpr e]
        have hq:HT.lexLt (n::ns) (m::ms)=decide (n<m):=by rw [HT.lexLt_cons,if_neg e]
        rw [hq] at q
        refine PySem.W.kat_no ?_
        cases hb:(true&&i == 0) with
        | true=>exact oneLt_int q
        | false=>exact PySem.W.kat_one _ _ (lt_int q)
end
end Ry
namespace Ry
open PySem PySem.Spec PyProof.Rows L2
structure Plc {α:Type} (lt:α->α->Bool) (d:α) (ks:List α) (q:List Nat):Prop where
 perm:q.Perm (bi ks.length)
 srt:q.map (fun i=>ks.getD i d)=Ms.srt lt ks
section
variable {X:Cx} {pins:List (Addr×Obj)} {σ:St} {H:Hp} {s:Shared}
theorem gD {xs:List V} {us:List Value} (r:cq xs us):∀ q:List Nat,(∀ i∈q,i<xs.length)->cq (q.map fun i=>xs.getD i .non) (q.map fun i=>us.getD i Value.none)
 | [],_=>.nil
 | i::q,h=>by
   obtain ⟨u,hu,ru⟩:=r.get (ae (h i (ak)))
   refine .cons ?_ (gD r q fun j hj=>h j (ai _ hj))
   have e1:xs.getD i .non=xs[i]'(h i (ak)):=by simp [h i (ak)]
   have e2:us.getD i Value.none=u:=by rw [ay,hu];rfl
   show dB (xs.getD i .non) (us.getD i Value.none)
   rw [e1,e2]
   exact ru
theorem g9 {x:Value} {ns:List Int} {vs:List Value} {Q:VK} (I:Inv X pins σ H s) (col:ff X.prog X.w X.A.in1 s x vs) (rv:cq (ns.map V.int) vs) (h64:ns.length<64)
 (k:∀ p,H p=none->Q (.ref p) (upd H p (.lst ((Ms.srt Ms.ltI ns).map V.int)))):wpAny (model X.prog X.w) X.A (call (.builtin "sorted") [x]) (EP X pins σ Q) X.xe s:=by
 have hl:vs.length=ns.length:=by rw [<- rv.length,ab]
 have at':∀ i,i<vs.length->∃ t,vs.getD i Value.none=.int (ns.getD i 0) t:=fun i hi=>by
  have hi':i<ns.length:=by lia
  obtain ⟨u,hu,ru⟩:=rv.get (i:=i) (x:=.int ns[i]) (by rw [av,ae hi'];rfl)
  obtain ⟨t,rfl⟩:=ru
  refine ⟨t,?_⟩
  rw [ay,hu,ay,ae hi'];rfl
 refine kJ (O:=oH) (κ:=oneType') (key:=fun i=>ns.getD i 0) col (.inl (by lia)) (fun h' tk kp h2 Q' q=>?_) (fun h' tk kp i j C hi hj c=>?_) fun p h1 h' tk c hp hu k1 kp e=>?_
 ·refine PySem.W.kas_kind (T:=.type "int") h2 (fun v hv=>?_) (by decide) (by decide) q
  obtain ⟨i,hi,rfl⟩:=bv hv
  obtain ⟨t,e⟩:=at' i hi
  have e2:vs[i]=.int (ns.getD i 0) t:=by rw [<- e];simp [hi]
  rw [e2]
  exact .now
 ·show wpAny (model X.prog X.w) _ (keyLt' oneType' (vs.getD i Value.none) (vs.getD j Value.none)) C _ _
  obtain ⟨t,e1⟩:=at' i hi
  obtain ⟨t',e2⟩:=at' j hj
  rw [e1,e2]
  exact PySem.W.kat_lt_int c
 ·rw [hl] at hp hu
  have pl:=h8 (O:=oH) (0:Int) hp hu
  have hz:sizeLine=16777216:=sizeLine_eq
  have hpm:∀ i∈p.toList,i<(ns.map V.int).length:=fun i hi=>by
   have h1:p.toList.Perm (bi ns.length):=by simpa using bp.mp hp.perm
   rw [ab]
   simpa using h1.mem_iff.mp hi
  have r2:=gD rv p.toList hpm
  have e3:(p.toList.map fun i=>(ns.map V.int).getD i .non)=(Ms.srt Ms.ltI ns).map V.int:=by
   have:(p.toList.map fun i=>ns.getD i 0)=Ms.srt Ms.ltI ns:=by
    exact pl.trans (oQ oH ns)
   rw [<- this,aS]
   refine eB fun i hi=>?_
   have hi':=hpm i hi
   rw [ab] at hi'
   simp [hi']
  rw [e3] at r2
  have hlen:((Ms.srt Ms.ltI ns).map V.int).length<=sizeLine:=by rw [ab,(Ms.srt_perm ns).length_eq];lia
  have I1:Inv X pins σ H { s with heap:=h1,toks:=tk }:=I.kept (t':=tk) k1
  exact ⟨.ref h1.objs.size,_,I1.laid (t':=tk) kp (aj _) (show dZ X.prog X.w _ h' _ (.lst _) from ⟨hlen,_,c,r2,e⟩),rfl,k _ (I1.hok.fresh (aj _))⟩
theorem g6 {x:Value} {ts:List (List Int)} {ys:List V} {vs:List Value} {Q:VK} (I:Inv X pins σ H s) (col:ff X.prog X.w X.A.in1 s x vs) (rv:cq ys vs) (hy:ys.length=ts.length)
 (hys:∀ i,i<ts.length->∃ a,ys[i]?=some (.ref a)/\SqT X.K H a ((ts.getD i []).map V.int)/\ts.getD i []≠[]) (h64:OkN ts)
 (k:∀ p q,H p=none->Plc HT.lexLt [] ts q->Q (.ref p) (upd H p (.lst (q.map fun i=>ys.getD i .non)))):wpAny (model X.prog X.w) X.A (call (.builtin "sorted") [x]) (EP X pins σ Q) X.xe s:=by
 have hl:vs.length=ts.length:=by rw [<- rv.length,hy]
 have at':∀ i,i<vs.length->∃ (a:Addr) (its:List Value),vs.getD i Value.none=.ref a/\cq ((ts.getD i []).map V.int) its/\IsTup s.heap a its.toArray/\ts.getD i []≠[]:=fun i hi=>by
  obtain ⟨a,e,sq,ne⟩:=hys i (by lia)
  obtain ⟨u,hu,ru⟩:=rv.get e
  cases (show u=Value.ref a from ru)
  obtain ⟨its,r,it,_⟩:=I.tuple sq
  exact ⟨a,its,by rw [ay,hu];rfl,r,it,ne⟩
 refine kJ (O:=yt) (κ:=tuples' true) (key:=fun i=>ts.getD i []) col (by rw [hl];exact h64.inj []) (fun h' tk kp h2 Q' q=>?_) (fun h' tk kp i j C hi hj c=>?_) fun p h1 h' tk c hp hu k1 kp e=>?_
 ·have firsts:∀ us:List Value,(∀ u∈us,∃ i,i<vs.length/\u=vs.getD i Value.none)->∃ fs:List Value,PySem.W.KatTups h' us fs/\us.length=fs.length/\∀ f∈fs,∃ n t,f=Value.int n t:=fun us=>by
   induction us with
   | nil=>exact fun _=>⟨[],.nil,rfl,by simp⟩
   | cons u us ih =>
     intro hu
     obtain ⟨fs,h1,h2,h3⟩:=ih fun v hv=>hu v (ai _ hv)
     obtain ⟨i,hi,rfl⟩:=hu u (ak)
     obtain ⟨a,its,ea,r,⟨o,ho,hc,n,hd⟩,ne⟩:=at' i hi
     cases ht:ts.getD i [] with
     | nil=>exact absurd ht ne
     | cons m ms =>
       rw [ht] at r
       cases r with
       | @cons _ w _ ws rw' r =>
         obtain ⟨t,rfl⟩:=rw'
         refine ⟨.int m t::fs,?_,by rw [aD,aD,h2],fun f hf=>?_⟩
         ·rw [ea]
          exact .cons (kp _ _ ho) hc hd (by simp) h1
         ·rcases ag.mp hf with z | z
          ·exact ⟨m,t,z⟩
          ·exact h3 f z
  obtain ⟨fs,f1,f2,f3⟩:=firsts vs fun u hu=>by
   obtain ⟨i,hi,rfl⟩:=bv hu
   exact ⟨i,hi,by simp [hi]⟩
  refine PySem.W.kat_kind (T:=.type "int") f1 (by lia) (fun v hv=>?_) (by decide) q
  obtain ⟨n,t,rfl⟩:=f3 v hv
  exact .now
 ·show wpAny (model X.prog X.w) _ (keyLt' (tuples' true) (vs.getD i Value.none) (vs.getD j Value.none)) C _ _
  obtain ⟨a,its,e1,r1,⟨o,ho,hc,n,hd⟩,_⟩:=at' i hi
  obtain ⟨a',its',e2,r2,⟨o',ho',hc',n',hd'⟩,_⟩:=at' j hj
  rw [e1,e2]
  refine PySem.W.kat_lt (kp _ _ ho) hd (kp _ _ ho') hd' ?_
  have l1:=r1.length
  have l2:=r2.length
  rw [ab] at l1 l2
  exact tT 0 r1 r2 (by rw [aq,aq,l1,l2]) c
 ·rw [hl] at hp hu
  have pl:=h8 (O:=yt) ([]:List Int) hp hu
  have hz:sizeLine=16777216:=sizeLine_eq
  have h1p:p.toList.Perm (bi ts.length):=by simpa using bp.mp hp.perm
  have hpm:∀ i∈p.toList,i<ys.length:=fun i hi=>by rw [hy];simpa using h1p.mem_iff.mp hi
  have r2:=gD rv p.toList hpm
  have hlen:(p.toList.map fun i=>ys.getD i .non).length<=sizeLine:=by rw [ab,h1p.length_eq,bS];lia
  have I1:Inv X pins σ H { s with heap:=h1,toks:=tk }:=I.kept (t':=tk) k1
  refine ⟨.ref h1.objs.size,_,I1.laid (t':=tk) kp (aj _) (show dZ X.prog X.w _ h' _ (.lst _) from ⟨hlen,_,c,r2,e⟩),rfl,k _ p.toList (I1.hok.fresh (aj _)) ⟨h1p,?_⟩⟩
  exact pl.trans (oQ yt ts)
end
end Ry
namespace Ry
open PySem PySem.Spec PyProof.Rows L2
section
variable {X:Cx} {pins:List (Addr×Obj)} {σ:St} {H:Hp} {s:Shared} {A:Around} {p:Addr}
theorem u0 {ys:List V} (I:Inv X pins σ H s) (h:SqL X.K H p ys\/SqT X.K H p ys):∃ vs,ff X.prog X.w A s (.ref p) vs/\cq ys vs:=by
 rcases h with h | h
 ·obtain ⟨its,r,pl,z⟩:=I.list h
  exact ⟨its,lI pl.isList (by rw [<- r.length];exact z),r⟩
 ·obtain ⟨its,r,pl,z⟩:=I.tuple h
  exact ⟨its,ko pl (by rw [<- r.length];exact z),r⟩
theorem rE {prog:Program} {w:World} {knd:KeyKind prog w Key} (hk:∀ k v,knd.is k v=true->dB (kV k) v) {es:List DictEntry} {kvs:List (Key×Value)} (h:Pairs knd es kvs):cq (kvs.map fun kv=>kV kv.1) (es.map (·.key)):=by
 induction h with
 | nil=>exact .nil
 | cons h1 _ _ ih=>exact .cons (hk _ _ h1) ih
theorem vR {k:Key} {v:Value} (h:mQ k v=true):dB (kV k) v:=by
 rcases cn h with ⟨z,t,e1,e2⟩ | ⟨z,t,e1,e2⟩
 ·rw [e1,e2];exact ⟨t,rfl⟩
 ·rw [e1,e2];exact ⟨t,rfl⟩
theorem AZ {kvs:List (Key×V)} (I:Inv X pins σ H s) (hh:A.handled=none) (h:Rd H p (.dK kvs)):∃ vs,ff X.prog X.w A s (.ref p) vs/\cq (kvs.map fun kv=>kV kv.1) vs:=by
 obtain ⟨hz,lo,vs,r,o,es,ep,ho,hx,hd,hk,hp,hn⟩:=h.ok I.hok
 have e:kvs.map (fun kv=>kV kv.1)=vs.map (fun kv=>kV kv.1):=by
  have:=r.keys
  have e2:=congrArg (oA kV) this
  rw [aS,aS] at e2
  exact e2
 have rv:=rE (fun k v h=>vR h) hp
 refine ⟨es.toList.map (·.key),iM hh lo ⟨o,ho,hx,hd⟩ ?_,by rw [e];exact rv⟩
 have l1:=rv.length
 rw [ab,ab,az] at l1
 have l2:=Paired.length r
 show es.size<=sizeLine
 have hz':kvs.length<=sizeLine:=hz
 have l3:kvs.length=vs.length:=l2
 have l4:vs.length=es.size:=l1
 rw [<- l4,<- l3]
 exact hz'
theorem Bv {kvs:List (List Key×V)} (I:Inv X pins σ H s) (hh:A.handled=none) (h:Rd H p (.dT kvs)):∃ (vs:List Value) (as:List Addr),ff X.prog X.w A s (.ref p) vs/\cq (as.map V.ref) vs/\as.length=kvs.length/\∀ (i:Nat) (kv:List Key×V) (a:Addr),kvs[i]?=some kv->as[i]?=some a->H a=some (.tup (kv.1.map kV)):=by
 obtain ⟨hz,lo,xs,r,o,es,ep,ho,hx,hd,he,hn⟩:=h.ok I.hok
 have l2:=Paired.length r
 have hes:es.toList.map (·.key)=xs.map fun x=>Value.ref x.2.1:=by rw [he,aS];rfl
 refine ⟨es.toList.map (·.key),xs.map (·.2.1),iM hh lo ⟨o,ho,hx,hd⟩ ?_,?_,by rw [ab];exact l2.symm,fun i kv a h1 h2=>?_⟩
 ·have:=congrArg fw he
  rw [az,ab] at this
  lia
 ·rw [hes,aS]
  have:∀ l:List (List Key×Addr×Value),cq (l.map (V.ref∘fun x=>x.2.1)) (l.map fun x=>Value.ref x.2.1):=fun l=>by
   induction l with
   | nil=>exact .nil
   | cons a l ih=>exact .cons rfl ih
  exact this xs
 ·rw [av] at h2
  cases q:xs[i]? with
  | none=>rw [q] at h2;cases h2
  | some x =>
    rw [q] at h2
    cases h2
    have:∀ {l:List (List Key×V)} {m:List (List Key×Addr×Value)} {i:Nat} {kv:List Key×V} {x:List Key×Addr×Value},Paired (fun (p:List Key×V) (q:List Key×Addr×Value)=>p.1=q.1/\H q.2.1=some (.tup (p.1.map kV))/\dB p.2 q.2.2) l m->l[i]?=some kv->m[i]?=some x->H x.2.1=some (.tup (kv.1.map kV)):=fun {l m}=>by
     intro i kv x rr
     induction rr generalizing i with
     | nil=>intro h;simp at h
     | cons h _ ih =>
       cases i with
       | zero=>intro h1 h2;simp at h1 h2;subst h1 h2;exact h.2.1
       | succ i=>intro h1 h2;exact ih (by simpa using h1) (by simpa using h2)
    exact this r h1 q
end
end Ry
namespace Ry
open L2
def nE:List Da->Option (List (List Int))
 | []=>some []
 | .tup xs::r=>match fj xs,nE r with
   | some ns,some ts=>some (ns::ts)
   | _,_=>none
 | _=>none
def iZ (ds:List Da):Option (List Da):=match fj ds with
 | some ns=>if ns.length<64 then some ((Ms.srt Ms.ltI ns).map Da.int) else none
 | none=>match nE ds with
   | some ts=>if OkN ts/\ts.all (fun t=>!t.isEmpty)=true then some ((Ms.srt HT.lexLt ts).map fun t=>.tup (t.map Da.int)) else none
   | none=>none
def fy:List Rv->Option Rv
 | [(_,.lst ds)]=>match iZ ds with | some es=>some (.fr,.lst es) | none=>none
 | [(_,.tup ds)]=>match iZ ds with | some es=>some (.fr,.lst es) | none=>none
 | [(_,.dK ks _)]=>match iZ (ks.map fW) with | some es=>some (.fr,.lst es) | none=>none
 | [(_,.dT ks _)]=>match iZ (ks.map fun k=>.tup (k.map fW)) with | some es=>some (.fr,.lst es) | none=>none
 | _=>none
end Ry
namespace Ry
open PySem PySem.Spec PyProof.Rows L2
def jM (K:PySem.W.Frag):List V->Hp->VK->Prop:=fun xs H Q=>∃ p,xs=[.ref p]/\(
 (∃ ns:List Int,ns.length<64/\((SqL K H p (ns.map V.int)\/SqT K H p (ns.map V.int))\/∃ kvs,Rd H p (.dK kvs)/\kvs.map (·.1)=ns.map Sum.inl)/\∀ l,H l=none->Q (.ref l) (upd H l (.lst ((Ms.srt Ms.ltI ns).map V.int)))) \/
 (∃ (ts:List (List Int)) (ys:List V),OkN ts/\ys.length=ts.length/\(SqL K H p ys\/SqT K H p ys)/\(∀ i,i<ts.length->∃ a,ys[i]?=some (.ref a)/\SqT K H a ((ts.getD i []).map V.int)/\ts.getD i []≠[])/\∀ l q,H l=none->Plc HT.lexLt [] ts q->Q (.ref l) (upd H l (.lst (q.map fun i=>ys.getD i .non)))) \/
 (∃ (ts:List (List Int)) (kvs:List (List Key×V)),OkN ts/\Rd H p (.dT kvs)/\kvs.map (·.1)=ts.map (fun t=>t.map Sum.inl)/\(∀ t∈ts,t≠[])/\∀ l q (as:List Addr),H l=none->Plc HT.lexLt [] ts q->as.length=ts.length->(∀ i,i<ts.length->∃ a,as[i]?=some a/\H a=some (.tup ((ts.getD i []).map V.int)))->Q (.ref l) (upd H l (.lst (q.map fun i=>(as.map V.ref).getD i .non)))))
theorem getD_some {α:Type} {l:List α} {i:Nat} (h:i<l.length) (d:α):l[i]?=some (l.getD i d):=by rw [ay,ae h];rfl
theorem oW {X:Cx} (hc:X.calm=true):i7 X (.builtin "sorted") (jM X.K):=by
 intro pins s σ H xs us Q I r h
 obtain ⟨p,rfl,h⟩:=h
 obtain ⟨u,rfl,rx⟩:=kD r
 cases rx
 have hh:X.A.in1.handled=none:=I.ok.hd hc
 rcases h with ⟨ns,h64,src,k⟩ | ⟨ts,ys,h64,hy,src,hys,k⟩ | ⟨ts,kvs,h64,src,hk,ne,k⟩
 ·rcases src with src | ⟨kvs,src,hk⟩
  ·obtain ⟨vs,col,rv⟩:=u0 (A:=X.A.in1) I src
   exact g9 I col rv h64 k
  ·obtain ⟨vs,col,rv⟩:=AZ (A:=X.A.in1) I hh src
   have e:kvs.map (fun kv=>kV kv.1)=ns.map V.int:=by
    have:=congrArg (oA kV) hk
    rw [aS,aS] at this
    exact this
   rw [e] at rv
   exact g9 I col rv h64 k
 ·obtain ⟨vs,col,rv⟩:=u0 (A:=X.A.in1) I src
  exact g6 I col rv hy hys h64 k
 ·obtain ⟨vs,as,col,rv,hl,hat⟩:=Bv (A:=X.A.in1) I hh src
  have hkl:kvs.length=ts.length:=by have:=congrArg fw hk;simpa using this
  have hat':∀ i,i<ts.length->∃ a,as[i]?=some a/\H a=some (.tup ((ts.getD i []).map V.int)):=fun i hi=>by
   have h1:i<kvs.length:=by lia
   have h2:i<as.length:=by lia
   refine ⟨as[i],ae h2,?_⟩
   have:=hat i kvs[i] as[i] (ae h1) (ae h2)
   have e:kvs[i].1=(ts.getD i []).map Sum.inl:=by
    have:=congrArg (fun l=>l[i]?) hk
    simp only [av,ae h1,getD_some hi [],Option.map_some] at this
    exact Option.some.inj this
   rw [e,aS] at this
   exact this
  refine g6 I col rv (by rw [ab];lia) (fun i hi=>?_) h64 fun l q hl' hq=>k l q as hl' hq (by lia) hat'
  obtain ⟨a,e1,e2⟩:=hat' i hi
  exact ⟨a,by rw [av,e1];rfl,SqT.of e2,ne _ (ba (getD_some hi []))⟩
theorem qN:∀ {ds:List Da} {ts:List (List Int)},nE ds=some ts->ds=ts.map fun t=>Da.tup (t.map Da.int)
 | [],ts,h=>by cases h;rfl
 | .tup xs::r,ts,h=>by
   have h:(match fj xs,nE r with | some ns,some ts=>some (ns::ts) | _,_=>none)=some ts:=h
   split at h
   ·rename_i ns ts' e1 e2
    cases h
    rw [qN e2,eI e1]
    rfl
   ·cases h
 | .non::r,ts,h=>by cases h
 | .bl _::r,ts,h=>by cases h
 | .int _::r,ts,h=>by cases h
 | .str _::r,ts,h=>by cases h
 | .lst _::r,ts,h=>by cases h
 | .dK _ _::r,ts,h=>by cases h
 | .dT _ _::r,ts,h=>by cases h
theorem mY {G H:Hp}:∀ (l:List (Addr×List V)),bQ G H->(∀ e∈l,H e.1=some (.tup e.2))->∃ G',Ext G H G' H/\∀ e∈l,G' e.1=some (.tup e.2)
 | [],sg,_=>⟨G,Ext.refl sg,by simp⟩
 | (a,xs)::l,sg,h=>by
   obtain ⟨G1,E1,h1⟩:=mY l sg fun e he=>h e (ai _ he)
   have ha:=h (a,xs) (ak)
   dsimp only at ha
   cases q:G1 a with
   | some o =>
     have:=E1.gh a o q
     rw [ha] at this
     cases this
     refine ⟨G1,E1,fun e he=>?_⟩
     rcases ag.mp he with z | z
     ·subst z;exact q
     ·exact h1 e z
   | none =>
     refine ⟨upd G1 a (.tup xs),⟨E1.hh,E1.gg.trans (bB q),fun b o z=>?_,fun b o z t w=>?_⟩,fun e he=>?_⟩
     ·by_cases hb:b=a
      ·subst hb;rw [aL] at z;rw [<- z];exact ha
      ·rw [aK hb] at z;exact E1.gh b o z
     ·have hb:b≠a:=fun z'=>by subst z';rw [ha] at z;cases z;cases t
      rw [aK hb];exact E1.nw b o z t w
     ·rcases ag.mp he with z | z
      ·subst z;exact aL
      ·have hb:e.1≠a:=fun z'=>by have:=h1 e z;rw [z',q] at this;cases this
       rw [aK hb];exact h1 e z
theorem iC {K:PySem.W.Frag} {G:Hp} {ds:Nat->Da} {xs:Nat->V}:∀ (q:List Nat),(∀ i∈q,Den K G (ds i) (xs i))->bP K G (q.map ds) (q.map xs)
 | [],_=>rfl
 | i::q,h=>⟨_,_,rfl,h i (ak),iC q fun j hj=>h j (ai _ hj)⟩
theorem xz {α:Type} {lt:α->α->Bool} {d:α} {ks:List α} {q:List Nat} (h:Plc lt d ks q) {i:Nat} (hi:i∈q):i<ks.length:=by simpa using h.perm.mem_iff.mp hi
theorem si {α:Type} {lt:α->α->Bool} {d:α} {ks:List α} {q:List Nat} (h:Plc lt d ks q) (f:α->Da):(Ms.srt lt ks).map f=q.map fun i=>f (ks.getD i d):=by rw [<- h.srt,aS];rfl
theorem rC {K:PySem.W.Frag}:Cal K (jM K) fy:=by
 intro B H0 G H rs c xs Q sg ra e k
 have goI:∀ {p:Addr} {ns:List Int},ns.length<64->((SqL K H p (ns.map V.int)\/SqT K H p (ns.map V.int))\/∃ kvs,Rd H p (.dK kvs)/\kvs.map (·.1)=ns.map Sum.inl)->(∀ l,H l=none->Q (.ref l) (upd H l (.lst ((Ms.srt Ms.ltI ns).map V.int))))->jM K [.ref p] H Q:=fun h1 h2 h3=>⟨_,rfl,.inl ⟨_,h1,h2,h3⟩⟩
 have fin1:∀ ns:List Int,c=(.fr,.lst ((Ms.srt Ms.ltI ns).map Da.int))->∀ l,H l=none->Q (.ref l) (upd H l (.lst ((Ms.srt Ms.ltI ns).map V.int))):=fun ns ec l hl=>by
  refine k _ G _ (Ext.own sg hl) ?_
  rw [ec]
  exact ⟨l,_,rfl,hl,sg.free hl,aL,_,rfl,bP.ints.mpr rfl⟩
 have seq:∀ {p:Addr} {ds:List Da} {ys:List V} {es:List Da},(SqL K H p ys\/SqT K H p ys)->bP K G ds ys->iZ ds=some es->c=(.fr,.lst es)->jM K [.ref p] H Q:=fun {p ds ys es} sq dl es' ec=>by
  unfold iZ at es'
  split at es'
  ·rename_i ns en
   split at es'
   ·rename_i h64
    cases es'
    rw [eI en] at dl
    have:=bP.ints.mp dl
    subst this
    exact goI h64 (.inl sq) (fin1 ns ec)
   ·cases es'
  ·split at es'
   ·rename_i ts et
    split at es'
    ·rename_i hcond
     obtain ⟨h64,hne⟩:=hcond
     cases es'
     have ed:=qN et
     have hlen:ys.length=ts.length:=by rw [dl.length,ed,ab]
     have itm:∀ i,i<ts.length->∃ a xs,ys[i]?=some (.ref a)/\G a=some (.tup xs)/\xs=(ts.getD i []).map V.int:=fun i hi=>by
      have:ds[i]?=some (.tup ((ts.getD i []).map Da.int)):=by rw [ed,av,getD_some hi []];rfl
      obtain ⟨x,hx,a,xs,rfl,ga,da⟩:=dl.get this
      exact ⟨a,xs,hx,ga,bP.ints.mp da⟩
     refine ⟨p,rfl,.inr (.inl ⟨ts,ys,h64,hlen,sq,fun i hi=>?_,fun l q hl hq=>?_⟩)⟩
     ·obtain ⟨a,xs,e1,e2,e3⟩:=itm i hi
      subst e3
      refine ⟨a,e1,SqT.of (sg _ _ e2),fun z=>?_⟩
      have:=cP.mp hne _ (ba (getD_some hi []))
      rw [z] at this
      cases this
     ·refine k _ G _ (Ext.own sg hl) ?_
      rw [ec,si hq]
      refine ⟨l,_,rfl,hl,sg.free hl,aL,_,rfl,iC (K:=K) (G:=G) q fun i hi=>?_⟩
      obtain ⟨a,xs,e1,e2,e3⟩:=itm i (xz hq hi)
      subst e3
      have e4:ys.getD i .non=.ref a:=by rw [ay,e1];rfl
      show Den K G (.tup _) (ys.getD i .non)
      rw [e4]
      exact ⟨a,_,rfl,e2,bP.ints.mpr rfl⟩
    ·cases es'
   ·cases es'
 unfold fy at e
 split at e
 ·split at e
  ·rename_i es' he
   cases e
   obtain ⟨v,rfl,h⟩:=du.one ra
   obtain ⟨p,ys,rfl,q,d⟩:=h.lst sg
   exact seq (.inl q) d he rfl
  ·cases e
 ·split at e
  ·rename_i es' he
   cases e
   obtain ⟨v,rfl,h⟩:=du.one ra
   obtain ⟨p,ys,rfl,q,d,g⟩:=h.tup sg
   exact seq (.inr (SqT.of q)) d he rfl
  ·cases e
 ·rename_i kd ks ds
  split at e
  ·rename_i es' he
   cases e
   obtain ⟨v,rfl,h⟩:=du.one ra
   obtain ⟨p,kvs,rfl,q,ek,d⟩:=h.dK sg
   unfold iZ at he
   have ofK:∀ {ks:List Key} {ns:List Int},fj (ks.map fW)=some ns->ks=ns.map Sum.inl:=fun {ks}=>by
    induction ks with
    | nil=>intro ns h;cases h;rfl
    | cons k ks ih =>
      intro ns h
      cases k with
      | inl i =>
        have h:(fj (ks.map fW)).map (i::·)=some ns:=h
        cases z:fj (ks.map fW) with
        | none=>rw [z] at h;cases h
        | some ms=>rw [z] at h;cases h;rw [ih z];rfl
      | inr x=>cases h
   split at he
   ·rename_i ns en
    split at he
    ·rename_i h64
     cases he
     exact goI h64 (.inr ⟨kvs,q,by rw [ek];exact ofK en⟩) (fin1 ns rfl)
    ·cases he
   ·exfalso
    split at he
    ·rename_i hq ts et
     cases ks with
     | nil=>exact absurd (show (some []:Option (List Int))=none by assumption) (by simp)
     | cons k ks=>cases k<;>(simp only [ax,fW] at et;cases et)
    ·cases he
  ·cases e
 ·rename_i kd ks ds
  split at e
  ·rename_i es' he
   cases e
   obtain ⟨v,rfl,h⟩:=du.one ra
   obtain ⟨p,kvs,rfl,q,ek,d⟩:=h.dT sg
   unfold iZ at he
   have none_ints:∀ {ns:List Int},fj (ks.map fun k=>Da.tup (k.map fW))=some ns->ks=[]:=fun {ns} h=>by
    cases ks with
    | nil=>rfl
    | cons k ks=>cases h
   have go:∀ ts:List (List Int),OkN ts->(∀ t∈ts,t≠[])->ks=ts.map (fun t=>t.map Sum.inl)->es'=(Ms.srt HT.lexLt ts).map (fun t=>Da.tup (t.map Da.int))->jM K [.ref p] H Q:=fun ts h64 hne ek2 ee=>by
    refine ⟨p,rfl,.inr (.inr ⟨ts,kvs,h64,q,by rw [ek,ek2],hne,fun l qq as hl hq hlen hat=>?_⟩)⟩
    obtain ⟨G',E',hG⟩:=mY (G:=G) (H:=H) ((bi ts.length).map fun i=>(as.getD i 0,(ts.getD i []).map V.int)) sg fun e he=>by
     obtain ⟨i,hi,rfl⟩:=bf.mp he
     obtain ⟨a,e1,e2⟩:=hat i (by simpa using hi)
     have e3:as.getD i 0=a:=by rw [ay,e1];rfl
     dsimp only
     rw [e3];exact e2
    have E2:Ext G H G' (upd H l (.lst (qq.map fun i=>(as.map V.ref).getD i .non))):=E'.trans (Ext.own E'.gh hl)
    refine k _ G' _ E2 ?_
    rw [ee,si hq]
    refine ⟨l,_,rfl,hl,E'.gh.free hl,aL,_,rfl,iC (K:=K) (G:=G') qq fun i hi=>?_⟩
    have hi':=xz hq hi
    have g:=hG (as.getD i 0,(ts.getD i []).map V.int) (bf.mpr ⟨i,by simpa using hi',rfl⟩)
    have e4:(as.map V.ref).getD i .non=.ref (as.getD i 0):=by
     have:i<as.length:=by lia
     simp [this]
    show Den K G' (.tup _) ((as.map V.ref).getD i .non)
    rw [e4]
    exact ⟨_,_,rfl,g,bP.ints.mpr rfl⟩
   split at he
   ·rename_i ns en
    have e0:=none_ints en
    subst e0
    split at he
    ·cases he
     have:ns=[]:=by cases en;rfl
     subst this
     exact go [] (.inl (by simp)) (by simp) rfl rfl
    ·cases he
   ·split at he
    ·rename_i ts et
     split at he
     ·rename_i hcond
      cases he
      have conv:∀ {ks:List (List Key)} {ts:List (List Int)},nE (ks.map fun k=>Da.tup (k.map fW))=some ts->ks=ts.map (fun t=>t.map Sum.inl):=fun {ks}=>by
       induction ks with
       | nil=>intro ts h;cases h;rfl
       | cons k ks ih =>
         intro ts h
         have h:(match fj (k.map fW),nE (ks.map fun k=>Da.tup (k.map fW)) with | some ns,some ts=>some (ns::ts) | _,_=>none)=some ts:=h
         split at h
         ·rename_i ns ts' e1 e2
          cases h
          have e3:k=ns.map Sum.inl:=by
           have e4:=eI e1
           have:∀ {k:List Key} {ns:List Int},k.map fW=ns.map Da.int->k=ns.map Sum.inl:=fun {k}=>by
            induction k with
            | nil=>intro ns h;cases ns with
              | nil=>rfl
              | cons _ _=>cases h
            | cons a k ihk =>
              intro ns h
              cases ns with
              | nil=>cases h
              | cons n ns =>
                rw [ax,ax] at h
                injection h with h1 h2
                cases a with
                | inl i=>cases h1;rw [ihk h2];rfl
                | inr x=>cases h1
           exact this e4
          rw [ih e2,e3]
          rfl
         ·cases h
      exact go ts hcond.1 (fun t ht z=>by have:=cP.mp hcond.2 t ht;rw [z] at this;cases this) (conv et) rfl
     ·cases he
    ·cases he
  ·cases e
 ·cases e
section
variable {X:Cx} {e:Expr} {es:List Expr} {p pos:Pos} {g:Rho->Option (List Rv)}
theorem vh (hc:X.calm=true) (hg:Gl X "sorted") (hm:X.mg "sorted" = none) (ha:PXA X (e::es) g) (he:starEach (e::es) X.env=(false,eval e X.env)::starEach es X.env:=by exact aX rfl) (hpl:(backTo pos (starEach es X.env)).any (·.1)=false:=by rfl):PX X (.Call (.Name "sorted" p) (e::es) [] pos) (xB fy g) :=
 Co (oW hc) rC hg hm (by decide +kernel) ha (by decide) (by decide) he hpl
end
end Ry
namespace Ry
open PySem L2
def iE (f:Rho->Option Rv):Rho->Option Rv:=fun ρ=>match f ρ with
 | some (_,.tup ds)=>some (.pu,.tup ds.reverse)
 | some (_,.lst ds)=>some (.pu,.tup ds.reverse)
 | _=>none
abbrev UD:=List (Int×List Int)
def dD (l:List Int):Da:=.dK (l.map Sum.inl) (l.map fun _=>.bl true)
def dU (D:UD):Da:=.dK (D.map fun e=>Sum.inl e.1) (D.map fun e=>dD e.2)
def mX (l:List Int) (b:Int):List Int:=if b∈l then l else l++[b]
def fZ:UD->Int->Int->UD
 | [],a,b=>[(a,[b])]
 | (x,l)::D,a,b=>if x=a then (x,mX l b)::D else (x,l)::fZ D a b
def upp (T:List (Int×Int)):UD:=T.foldl (fun D p=>fZ D p.1 p.2) []
def cB:List Da->Option (List (Int×Int))
 | []=>some []
 | .tup [.int a,.int b]::r=>(cB r).map ((a,b)::·)
 | _=>none
def fn_uppers_of:List Da->Option Da
 | [.tup ds]=>match cB ds with | some T=>if T.length<=1000 then some (dU (upp T)) else none | none=>none
 | [.lst ds]=>match cB ds with | some T=>if T.length<=1000 then some (dU (upp T)) else none | none=>none
 | _=>none
end Ry
namespace Ry
open PySem L2
def jC:Int->List Da->List Da
 | _,[]=>[]
 | k,d::ds=>.tup [.int k,d]::jC (k+1) ds
def Ac:List Rv->Option Rv
 | [(_,.bl b)]=>some (.pu,.int (if b then 1 else 0))
 | _=>none
def rW:Int->List Int->Int
 | m,[]=>m
 | m,a::r=>rW (if m<a then a else m) r
def cN:List Int->List Int
 | []=>[]
 | a::r=>if a∈r then cN r else a::cN r
end Ry
namespace Ry
open PySem L2
def gS (g:Rho->Option (List Rv)):Rho->Option Rv:=fun ρ=>match g ρ with
 | some [(_,.int j)]=>if -(2 ^ 62)<=j/\j<=1000000 then some (.fr,.lst (dq 0 j.toNat)) else none
 | _=>none
end Ry
namespace Ry
open PySem PySem.Spec PyProof.Rows L2
section
variable {X:Cx} {a e:Expr} {es:List Expr} {p p2 pos pos2:Pos} {fa:Rho->Option Rv} {g:Rho->Option (List Rv)}
def DW (ta:TA):TE:=fun σ H Q=>ta σ H fun vs H1=>∃ j:Int,vs=[.int j]/\∀ r,H1 r=none->Q (.ref r) (upd H1 r (.rng 0 j))
theorem mR {ta:TA} (hg:Gl X "range") (hm:X.mg "range" = none) (ha:PA X [a] ta) (hs:starEach [a] X.env=[(false,eval a X.env)]:=by exact aX rfl):PE X (.Call (.Name "range" p) [a] [] pos) (DW ta):=by
 intro pins s σ H Q I h
 refine Call_ (fL I hg hm boot_range (PyProof.Rows.callWith_type1 (thn (ha pos pins s σ H _ I h) fun us s1 ⟨vs,H1,I1,r1,q1⟩=>?_) hs rfl))
 obtain ⟨j,e,q⟩:=q1
 subst e
 cases r1 with
 | cons r rr =>
   cases rr
   obtain ⟨t,rfl⟩:=r
   refine call_range_1 ⟨.ref s1.heap.objs.size,_,I1.laid (a:=s1.heap.objs.size) (o:=.rng 0 j) (fun b o e=>aa _ e) (aj _) ⟨_,_,_,af _ rfl⟩,rfl,q _ (I1.hok.fresh (aj _))⟩
theorem ml (hc:X.calm=true):i7 X (.type "list") (fun xs H Q=>∃ (r:Addr) (j:Int),xs=[.ref r]/\H r=some (.rng 0 j)/\-(2 ^ 62)<=j/\j<=1000000/\∀ l,H l=none->Q (.ref l) (upd H l (.lst ((bi j.toNat).map fun (i:Nat)=>V.int (i:Int))))):=by
 intro pins s σ H xs us Q I r h
 obtain ⟨r',j,rfl,hr,j1,j2,q⟩:=h
 obtain ⟨u,rfl,rx⟩:=kD r
 cases rx
 obtain ⟨t,u,v,hr'⟩:=I.hok r' _ hr
 have hs:sizeLine=16777216:=sizeLine_eq
 refine call_list_range (n:=j.toNat) (I.ok.hd hc) (show IsRange s.heap r' 0 j 1 t u v from hr') (small_one (by lia) (by lia) (by lia) (by lia)) (by rw [rangeSize_one];split<;>lia) (by lia) fun h' tk acc' c' kp e it=>?_
 have rv:cq ((bi j.toNat).map fun (i:Nat)=>V.int (i:Int)) acc'.toList:=by
  have:∀ (n:Nat) (l:List Value) (lo:Nat),l.length=n->(∀ i v,l[i]?=some v->∃ t,v=Value.int ((lo+i:Nat):Int) t)->cq ((hZ lo n).map fun (i:Nat)=>V.int (i:Int)) l:=fun n=>by
   induction n with
   | zero=>intro l lo hl _;cases l with
     | nil=>exact .nil
     | cons _ _=>cases hl
   | succ n ih =>
     intro l lo hl hv
     cases l with
     | nil=>cases hl
     | cons x l =>
       obtain ⟨t,ht⟩:=hv 0 x rfl
       rw [im,ax]
       refine .cons ⟨t,by simpa using ht⟩ (ih l (lo+1) (by simpa using hl) fun i v hi=>?_)
       obtain ⟨t,ht⟩:=hv (i+1) v (by simpa using hi)
       exact ⟨t,by rw [ht];congr 2;lia⟩
  rw [dR]
  refine this j.toNat acc'.toList 0 (by rw [az];exact it.1) fun i v hi=>?_
  obtain ⟨t,ht⟩:=it.2 i v (by rw [<- aR];exact hi)
  exact ⟨t,by rw [ht];congr 1;simp⟩
 refine ⟨.ref s.heap.objs.size,_,I.laid (t':=tk) kp (aj _) (show dZ X.prog X.w _ h' _ (.lst _) from ⟨by rw [ab,bS];lia,acc'.toList,c',rv,by simpa using e⟩),rfl,q _ (I.hok.fresh (aj _))⟩
theorem iH {K:PySem.W.Frag} {G:Hp}:∀ (n:Nat) (lo:Nat),bP K G (dq (lo:Int) n) ((hZ lo n).map fun (i:Nat)=>V.int (i:Int))
 | 0,_=>rfl
 | n+1,lo=>by
   rw [im,ax]
   refine ⟨_,_,rfl,rfl,?_⟩
   have:=iH (K:=K) (G:=G) n (lo+1)
   have e:((lo+1:Nat):Int)=(lo:Int)+1:=by lia
   rw [e] at this
   exact this
theorem og (hg:Gl X "list") (hm:X.mg "list" = none) (hg2:Gl X "range") (hm2:X.mg "range" = none) (ha:PXA X [a] g) (hc:X.calm=true:=by rfl) (hs:starEach [a] X.env=[(false,eval a X.env)]:=by exact aX rfl)
 (he:starEach [.Call (.Name "range" p2) [a] [] pos2] X.env=[(false,eval (.Call (.Name "range" p2) [a] [] pos2) X.env)]:=by rfl):PX X (.Call (.Name "list" p) [.Call (.Name "range" p2) [a] [] pos2] [] pos) (gS g) :=
 PE.imp (mO (ml hc) hg hm (by decide +kernel) (gJ (mR hg2 hm2 ha hs) j5 he) (by decide) (by decide) he rfl) fun σ H Q ⟨B,G,ρ,r,sg,sb,st,eq,k⟩=>by
  unfold gS at eq
  split at eq
  ·rename_i kd j ej
   split at eq
   ·rename_i hj
    cases eq
    refine ⟨B,G,ρ,_,sg,sb,st,ej,fun vs G1 H1 E1 r1=>?_⟩
    obtain ⟨v,rfl,r2⟩:=du.one r1
    refine ⟨j,by rw [r2.int],fun rr hrr=>?_⟩
    refine ⟨rr,j,rfl,aL,hj.1,hj.2,fun l hl=>?_⟩
    have E2:=E1.trans (Ext.own (o:=.rng 0 j) E1.gh hrr)
    refine k _ G1 _ (E2.trans (Ext.own E2.gh hl)) ⟨l,_,rfl,E2.hh.free hl,E2.gh.free hl,aL,_,rfl,?_⟩
    rw [dR]
    exact iH j.toNat 0
   ·cases eq
  ·cases eq
end
end Ry
namespace Ry
open PySem PySem.Spec PyProof.Rows L2
theorem vW {X:Cx} {elt tg iter:Expr} {ifs:List Expr} {scope:Scope} {pos:Pos} {ix:List (Option Nat)} {wi:TI} {g:TG} {tt:TT} {te:TE} (hc:X.calm=true) (S:CScope X scope ix) (hi:PI X tg iter wi) (h1:∀ s H fp,PG (inC X scope s H fp) tg g) (h2:∀ s H fp,PTS (inC X scope s H fp) ifs tt) (h3:∀ s H fp,PE (inC X scope s H fp) elt te)
 (hs:∀ x,foldedSetIterable iter X.env x=pure x:=by intro _;rfl):PE X (.ListComp elt [⟨tg,iter,ifs,0⟩] scope pos) (rA (mpS ix) wi g tt te):=tU hc S hi ⟨h1,h2,h3⟩ hs
end Ry
namespace Ry
open PySem PySem.Spec PyProof.Rows L2
namespace Rvf
theorem owner:Manifest.owners.lookup (String.ofList ['d','e','s','r','e','v','e','r'].reverse)=some Manifest.sig_reversed:=by kernel_rfl
theorem slot_next:Slot "reversed" "__next__" "reversed.__next__" :=
 .of (owner:="reversed") (n:="__next__") (by rw [typeLookup_type,builtinLookup_eq_fast];kernel_rfl) (by decide +kernel) (by decide +kernel) (by decide +kernel) (by first | exact .inl (by decide +kernel) | exact .inr (by decide +kernel)) (by rw [isSubtype_type];kernel_rfl)
theorem slot_iter:Slot "reversed" "__iter__" "reversed.__iter__" :=
 .of (owner:="reversed") (n:="__iter__") (by rw [typeLookup_type,builtinLookup_eq_fast];kernel_rfl) (by decide +kernel) (by decide +kernel) (by decide +kernel) (by first | exact .inl (by decide +kernel) | exact .inr (by decide +kernel)) (by rw [isSubtype_type];kernel_rfl)
theorem slot_hint:Slot "reversed" "__length_hint__" "reversed.__length_hint__" :=
 .of (owner:="reversed") (n:="__length_hint__") (by rw [typeLookup_type,builtinLookup_eq_fast];kernel_rfl) (by decide +kernel) (by decide +kernel) (by decide +kernel) (by first | exact .inl (by decide +kernel) | exact .inr (by decide +kernel)) (by rw [isSubtype_type];kernel_rfl)
theorem slot_init:Slot "reversed" "__init__" "object.__init__" :=
 .of (owner:="object") (n:="__init__") (by rw [typeLookup_type,builtinLookup_eq_fast];kernel_rfl) (by decide +kernel) (by decide +kernel) (by decide +kernel) (by first | exact .inl (by decide +kernel) | exact .inr (by decide +kernel)) (by rw [isSubtype_type];kernel_rfl)
theorem entry_next:entryFor table "reversed.__next__" = some Builtin.«reversed.__next__»:=entryFor_of_tree (by kernel_rfl)
theorem entry_hint:entryFor table "reversed.__length_hint__" = some Builtin.«reversed.__length_hint__»:=entryFor_of_tree (by kernel_rfl)
theorem entry_iter:entryFor table "reversed.__iter__" = some Builtin.«dict_keyiterator.__iter__» :=
 entryFor_alias (id':="dict_keyiterator.__iter__") (by kernel_rfl) (by first | rfl | decide +kernel | (unfold String.splitOn;simp +decide [String.splitOnAux])) (by decide +kernel) (by kernel_rfl)
theorem args_next (a:Value):argsOk "reversed.__next__" ⟨[a],[]⟩:=by
 unfold argsOk;rw [signature?_of (id:="reversed.__next__") (n:=['_','_','t','x','e','n','_','_']) (o:=['d','e','s','r','e','v','e','r']) (by kernel_rfl) owner];kernel_rfl
theorem args_iter (a:Value):argsOk "reversed.__iter__" ⟨[a],[]⟩:=by
 unfold argsOk;rw [signature?_of (id:="reversed.__iter__") (n:=['_','_','r','e','t','i','_','_']) (o:=['d','e','s','r','e','v','e','r']) (by kernel_rfl) owner];kernel_rfl
theorem args_hint (a:Value):argsOk "reversed.__length_hint__" ⟨[a],[]⟩:=by
 unfold argsOk;rw [signature?_of (id:="reversed.__length_hint__") (n:=['_','_','t','n','i','h','_','h','t','g','n','e','l','_','_']) (o:=['d','e','s','r','e','v','e','r']) (by kernel_rfl) owner];kernel_rfl
theorem called:TypeCalled "reversed" "reversed.__new__" "object.__init__" :=
 ⟨by decide +kernel,F.create_reversed,⟨_,_,F.mro_reversed⟩,F.made_reversed,F.plain_reversed_new,F.sub_reversed_self,slot_init⟩
theorem no_rev:typeLookup (.type "tuple") "__reversed__" = pure none:=by rw [typeLookup_type,builtinLookup_eq_fast];kernel_rfl
theorem no_len:typeLookup (.type "reversed") "__len__" = pure none:=by rw [typeLookup_type,builtinLookup_eq_fast];kernel_rfl
end Rvf
end Ry
namespace Ry
open PySem PySem.Spec PyProof.Rows L2
def mq (t:Addr) (i:Int):Obj:={ cls:=.type "reversed",data:=.fields #[.ref t,rawInt i] }
def pk (h:Heap) (a t:Addr) (i:Int):Prop:=∃ o,h.get? a=some o/\o.cls=.type "reversed"/\o.data=.fields #[.ref t,rawInt i]
section
variable {prog:Program} {w:World} {A:Around} {E:Value->Shared->Prop} {s:Shared}
theorem pk.ty {a t:Addr} {i:Int} (x:pk s.heap a t i):s.TypeIs (.ref a) "reversed":=let ⟨o,ho,hc,_⟩:=x;⟨o,ho,hc⟩
theorem pk.at {h h':Heap} {a t:Addr} {i:Int} (x:pk h a t i) (e:∀ o,h.get? a=some o->h'.get? a=some o):pk h' a t i:=let ⟨o,ho,r⟩:=x;⟨o,e _ ho,r⟩
theorem zR {t:Addr} {items:Array Value} {Q₁:Value->Shared->Prop} (ht:IsTup s.heap t items) (hz:(items.size:Int)<2 ^ 63)
 (h:∀ tk,Q₁ (.ref s.heap.objs.size) { s with heap:=s.heap.push (mq t ((items.size:Int)-1)),toks:=tk }) :
 codeAny (model prog w) A (.call (.builtin "reversed.__new__") ⟨[.type "reversed",.ref t],[]⟩) (wants Q₁ E) s:=by
 refine codeAny_of_tree ?_
 show wpAny _ A.in1 (do checkBuiltinCall "reversed.__new__" ⟨[.type "reversed",.ref t],[]⟩;again (.builtin "reversed.__new__" ⟨[.type "reversed",.ref t],[]⟩)) _ _ s
 refine wpAny_bind (wpAny_of_eq (F.newCall_reversed_1 _) (wpAny_pure ⟨plainId_quiet F.plain_reversed_new _,codeAny_builtin F.entry_reversed_new ?_⟩))
 rw [Around.under_plainId F.plain_reversed_new _]
 unfold Builtin.«reversed.__new__»
 refine wpAny_bind (wpAny_of_eq (newClass_reversed _) ?_)
 try dsimp only
 refine wpAny_bind (wpAny_of_eq (a:=()) (by first | rfl | kernel_rfl) ?_)
 refine wpAny_bind (wpAny_of_eq (a:=()) (by first | rfl | kernel_rfl) ?_)
 try dsimp only
 refine wpAny_bind (wpAny_specialOf ht.typeIs Rvf.no_rev ?_)
 try dsimp only
 refine wpAny_bind ?_
 show wpAny _ _ (isInstance (.ref t) (.type "dict")>>=_) _ _ _
 refine wpAny_bind (wpAny_isInstance (T:="tuple") (b:=false) ht.typeIs (by rw [isSubtype_type];kernel_rfl) ?_)
 try dsimp only
 refine wpAny_bind (wpAny_specialOf ht.typeIs PyProof.Rows.slot_tuple_getitem.lookup ?_)
 try dsimp only
 rw [if_pos (by decide +kernel)]
 refine wpAny_pure ?_
 rw [if_neg (by decide)]
 refine wpAny_bind (len_tuple ht hz ?_)
 refine wpAny_bind (m:=asInt? _) (wpAny_pure ?_)
 dsimp only
 refine wpAny_bind ?_
 show wpAny _ _ (newObj (.type "reversed") (.fields [.ref t,rawInt ((items.size:Int)-1)].toArray)) _ _ _
 refine wpAny_newObj_type (wpAny_pure ?_) (by size_fits)
 exact h _
theorem u6 {t:Addr} {items:Array Value} {Q:Value->Shared->Prop} (ht:IsTup s.heap t items) (hz:(items.size:Int)<2 ^ 63)
 (h:∀ tk,Q (.ref s.heap.objs.size) { s with heap:=s.heap.push (mq t ((items.size:Int)-1)),toks:=tk }):wpAny (model prog w) A (call (.type "reversed") [.ref t]) Q E s:=by
 refine callType_codes (Q₁:=fun obj s₁=>obj=.ref s.heap.objs.size/\∃ tk,s₁={ s with heap:=s.heap.push (mq t ((items.size:Int)-1)),toks:=tk }) Rvf.called (F.typeCall_reversed_1 _) F.entry_object_init (zR ht hz fun tk=>⟨rfl,tk,rfl⟩) fun obj s₁ h₁=>?_
 obtain ⟨rfl,tk,rfl⟩:=h₁
 have hty:Shared.TypeIs { s with heap:=s.heap.push (mq t ((items.size:Int)-1)),toks:=tk } (.ref s.heap.objs.size) "reversed":=⟨_,af _ rfl,rfl⟩
 exact ⟨hty,F.args_object_init_2 _ _,object_init_meets (T:="reversed") Rvf.slot_init.lookup F.made_reversed (by decide) prog w A.in1 _ _ ⟨hty,rfl,h tk⟩⟩
theorem ti {it t:Addr} {i:Nat} {items:Array Value} {x:Value} {Q:Option Value->Shared->Prop} (hit:pk s.heap it t (i:Int)) (ht:IsTup s.heap t items) (hx:items[i]?=some x) (hz:(items.size:Int)<2 ^ 63)
 (hQ:∀ h' tk,s.toks<=tk->pk h' it t ((i:Int)-1)->Heap.SameBut it s.heap h'->Q (some x) { s with heap:=h',toks:=tk }):wpAny (model prog w) A (pyNext (.ref it)) Q E s:=by
 obtain ⟨o,ho,hc,hd⟩:=id hit
 unfold pyNext
 refine wpAny_bind (wpAny_attempt (wpAny_callSpecial?_slot (name:=Str.ofString "__next__") hit.ty Rvf.slot_next (wpAny_call_entry Rvf.slot_next hit.ty Rvf.entry_next ?_ (Rvf.args_next _))))
 unfold Builtin.«reversed.__next__»
 refine wpAny_bind (wpAny_of_eq (a:=(Value.ref it,[])) rfl ?_)
 try dsimp only
 refine wpAny_bind (wpAny_field ho hd (x:=.ref t) rfl ?_)
 refine wpAny_bind (wpAny_field ho hd (x:=rawInt (i:Int)) rfl ?_)
 show wpAny _ _ (if (i:Int)<0 then _ else _) _ _ s
 rw [if_neg (by lia)]
 refine wpAny_bind (wpAny_specialOf ht.typeIs PyProof.Rows.slot_tuple_getitem.lookup ?_)
 try dsimp only
 rw [if_neg (by decide)]
 refine wpAny_bind (wpAny_mkInt ?_)
 have hlt:i<items.size:=(oK.mp hx).1
 refine wpAny_bind (wpAny_attempt (PyProof.Rows.getItem_tuple (s:={ s with toks:=s.toks+1 }) (j:=i) (x:=x) ht (by lia) (by lia) ?_ hx ?_))
 ·exact (oM (by unfold ixN;rw [if_pos (by lia),if_pos (by lia)];simp)).1
 dsimp only
 refine wpAny_bind (wpAny_field (s:={ s with toks:=s.toks+1 }) ho hd (x:=rawInt (i:Int)) rfl ?_)
 show wpAny _ _ (setField (.ref it) 1 (rawInt ((i:Int)-1))>>=_) _ _ _
 refine wpAny_bind (wpAny_setField (s:={ s with toks:=s.toks+1 }) ho hd (by simp) ?_)
 first
 | refine wpAny_pure ⟨x,rfl,wpAny_pure (hQ _ (s.toks+1) (fF _) ?_ (Heap.SameBut.update ..))⟩
 | refine wpAny_bind (wpAny_pure (wpAny_pure ⟨x,rfl,wpAny_pure (hQ _ (s.toks+1) (fF _) ?_ (Heap.SameBut.update ..))⟩))
 exact ⟨_,bb _ ho (bT (bF hd _)),(dN ..).trans hc,by rw [bF hd];simp⟩
theorem xm {it t:Addr} {Q:Option Value->Shared->Prop} (hh:A.handled=none) (hit:pk s.heap it t (-1)) (hQ:∀ h',Heap.ExtBut it s.heap h'->Q none { s with heap:=h' }):wpAny (model prog w) A (pyNext (.ref it)) Q E s:=by
 obtain ⟨o,ho,hc,hd⟩:=id hit
 unfold pyNext
 refine wpAny_bind (wpAny_attempt (wpAny_callSpecial?_slot (name:=Str.ofString "__next__") hit.ty Rvf.slot_next (wpAny_call_entry Rvf.slot_next hit.ty Rvf.entry_next ?_ (Rvf.args_next _))))
 unfold Builtin.«reversed.__next__»
 refine wpAny_bind (wpAny_of_eq (a:=(Value.ref it,[])) rfl ?_)
 try dsimp only
 refine wpAny_bind (wpAny_field ho hd (x:=.ref t) rfl ?_)
 refine wpAny_bind (wpAny_field ho hd (x:=rawInt (-1)) rfl ?_)
 show wpAny _ _ (if (-1:Int)<0 then _ else _) _ _ s
 rw [if_pos (by decide)]
 refine wpAny_bind (wpAny_rule ?_)
 refine wpAny_bind ?_
 show wpAny _ _ (setField (.ref it) 1 (rawInt (-1))>>=fun _=>setField (.ref it) 0 .none) _ _ s
 refine wpAny_bind (wpAny_setField ho hd (by simp) ?_)
 have hd2:=bF hd (·.setIfInBounds 1 (rawInt (-1)))
 have ho2:=bb (bK (·.setIfInBounds 1 (rawInt (-1)))) ho (bT hd2)
 refine wpAny_setField (s:={ s with heap:=s.heap.update it (bK (·.setIfInBounds 1 (rawInt (-1)))) }) ho2 hd2 (by simp) ?_
 have eb:Heap.ExtBut it s.heap ((s.heap.update it (bK (·.setIfInBounds 1 (rawInt (-1))))).update it (bK (·.setIfInBounds 0 Value.none))):=fun b o hb e=>(aI _ _ (Ne.symm hb)).trans ((aI _ _ (Ne.symm hb)).trans e)
 first
 | show wpAny _ _ (newExc (.type "StopIteration") []>>=_) _ _ _
 | (refine wpAny_bind ?_;show wpAny _ _ (newExc (.type "StopIteration") []>>=_) _ _ _)
 refine wpAny_bind ?_
 simp only [newExc,newTuple]
 refine wpAny_bind (wpAny_newObj_type ?_ (by size_fits))
 refine wpAny_bind (m:=firstArgMember _ _) (wpAny_of_eq (a:=Value.none) (by first | rfl | (simp only [firstArgMember];rfl)) ?_)
 refine wpAny_newObj_type ?_ (by size_fits)
 simp only [raiseNew]
 refine wpAny_bind (wpAny_handled ?_)
 first | rw [show A.in1.handled=none from hh] | rw [hh]
 refine wpAny_bind (wpAny_pure (wpAny_throw ?_))
 refine wpAny_bind (wpAny_isInstance (T:="StopIteration") (b:=true) ⟨_,af _ rfl,rfl⟩ isSubtype_stop ?_)
 exact wpAny_pure (hQ _ ((eb.push _).push _))
theorem pH {it t:Addr} {i:Int} {Q:Value->Shared->Prop} (hit:pk s.heap it t i) (h:Q (.ref it) s):wpAny (model prog w) A (pyIter (.ref it)) Q E s:=by
 refine wpAny_pyIter_slot hit.ty Rvf.slot_iter (wpAny_call_entry Rvf.slot_iter hit.ty Rvf.entry_iter ?_ (Rvf.args_iter _))
 show wpAny _ _ (ret (.ref it)) _ _ s
 exact wpAny_pure ⟨_,rfl,"reversed",_,hit.ty,Rvf.slot_next.lookup,h⟩
theorem zo {it t:Addr} {n:Nat} {items:Array Value} {Q:Bool->Shared->Prop} (hit:pk s.heap it t ((items.size:Int)-1)) (ht:IsTup s.heap t items) (hz:(items.size:Int)<=2 ^ 24) (h:∀ b tk,s.toks<=tk->Q b { s with toks:=tk }):wpAny (model prog w) A (Builtin.List.listLengthHint (.ref it)) Q E s:=by
 obtain ⟨o,ho,hc,hd⟩:=id hit
 unfold Builtin.List.listLengthHint
 refine wpAny_bind (wpAny_specialOf hit.ty Rvf.no_len ?_)
 show wpAny _ _ (specialOf (Value.ref it) (Str.ofString "__length_hint__")>>=_) _ _ _
 refine wpAny_bind (wpAny_specialOf hit.ty Rvf.slot_hint.lookup ?_)
 (generalize hid:("reversed.__length_hint__" : String)=id0;(fail_if_success (clear hid id0));wp_delta;rw [show splitId id0=some ("reversed","__length_hint__") from by subst hid;decide +kernel];subst hid)
 refine wpAny_bind (wpAny_isInstance (b:=true) hit.ty (by rw [isSubtype_type];kernel_rfl) ?_)
 try dsimp only
 rw [if_neg (by decide),if_neg (by decide +kernel)]
 refine wpAny_bind (wpAny_rule ?_)
 refine wpAny_bind (wpAny_of_eq (Rvf.slot_hint.bind _) ?_)
 try dsimp only
 refine wpAny_bind (wpAny_attempt (wpAny_call_entry Rvf.slot_hint hit.ty Rvf.entry_hint ?_ (Rvf.args_hint _)))
 unfold Builtin.«reversed.__length_hint__»
 refine wpAny_bind (wpAny_of_eq (a:=Value.ref it) rfl ?_)
 refine wpAny_bind (wpAny_field ho hd (x:=.ref t) rfl ?_)
 rw [if_neg (show ¬ ((Value.ref t == Value.none)=true) from ah)]
 refine wpAny_bind (len_tuple ht (by lia) ?_)
 refine wpAny_bind (m:=asInt? _) (wpAny_pure ?_)
 dsimp only
 refine wpAny_bind (wpAny_field (s:={ s with toks:=s.toks+1+1 }) ho hd (x:=rawInt ((items.size:Int)-1)) rfl ?_)
 show wpAny _ _ (if (items.size:Int)<((items.size:Int)-1)+1 then _ else retInt (((items.size:Int)-1)+1)) _ _ _
 rw [if_neg (by lia)]
 refine wpAny_bind (wpAny_mkInt (wpAny_pure ⟨_,rfl,?_⟩))
 dsimp only
 refine wpAny_bind (m:=asInt? _) (wpAny_pure ?_)
 dsimp only
 have hsl:sizeLine=16777216:=sizeLine_eq
 rw [if_neg (by simp only [Builtin.List.listFitsIndex,cK,vz,decide_eq_false_iff_not,not_or,Decidable.not_not];lia),if_neg (by lia),if_neg (by simp only [Builtin.List.listTooLong,decide_eq_true_eq];lia)]
 exact wpAny_pure (h _ _ (by show s.toks<=s.toks+1+1+1;lia))
end
end Ry
namespace Ry
open PySem PySem.Spec PyProof.Rows L2
section
variable {prog:Program} {w:World} {A:Around} {E:Value->Shared->Prop} {s:Shared} {I:Addr} {fp wr:List Addr} {n:Nat} {P:Nat->Value->Prop} {St:Nat->Heap->Prop} {T:String}
theorem wW {R:List Value->Shared->Prop} (W:Walks prog w A.in1 I fp wr n P St) (hT:∀ (i:Nat) (s:Shared),St i s.heap->s.TypeIs (.ref I) T) (nl:(Value.type T == Value.type "list")=false) (nt:(Value.type T == Value.type "tuple")=false)
 (hint:∀ (E:Value->Shared->Prop) (s:Shared) (Q:Bool->Shared->Prop),St 0 s.heap->(∀ b tk,s.toks<=tk->Q b { s with toks:=tk })->wpAny (model prog w) A.in1 (Builtin.List.listLengthHint (.ref I)) Q E s)
 (st:St 0 s.heap) (hfp:∀ b∈fp,b<s.heap.objs.size) (hI:I∈fp) (hn:n<=sizeLine)
 (h:∀ (h':Heap) (tk:Nat) (acc:Array Value),(∀ b o,b∉wr->s.heap.get? b=some o->h'.get? b=some o)->ItemsOf P acc n->R acc.toList { s with heap:=h',toks:=tk }):wpAny (model prog w) A (collect (.ref I)) R E s:=by
 have hSf:s.heap.objs.size∉fp:=fun hm=>br _ (hfp _ hm)
 have hSI:s.heap.objs.size≠I:=fun e=>hSf (e▸hI)
 unfold collect
 refine wpAny_bind (wpAny_runValue (codeAny_builtin PySem.F.entry_proto_collect ?_))
 rw [Around.under_plainId PySem.F.plain_proto_collect _]
 show wpAny _ A.in1 (newList []>>=fun l=>again (.builtin "list.__iadd__" ⟨[l,.ref I],[]⟩)) _ _ s
 refine wpAny_bind (wpAny_newObj_type ?_)
 refine wpAny_pure ⟨plainId_quiet PySem.F.plain_list_iadd _,codeAny_builtin PySem.F.entry_list_iadd ?_⟩
 rw [Around.under_plainId PySem.F.plain_list_iadd _]
 have st1:St 0 (s.heap.push { cls:=.type "list",data:=.seq ([]:List Value).toArray }):=W.frame 0 _ _ st fun b _ o e=>aa _ e
 have hS:(s.heap.push { cls:=.type "list",data:=.seq ([]:List Value).toArray }).get? s.heap.objs.size=some { cls:=.type "list",data:=.seq ([]:List Value).toArray }:=af _ rfl
 have h1:Builtin.List.listSameRef (.ref s.heap.objs.size) (.ref I)=false:=by simp [Builtin.List.listSameRef,hSI]
 show wpAny _ A.in1 (Builtin.List.listExtendWith (.ref s.heap.objs.size) (.ref I) (.ref s.heap.objs.size)) _ _ _
 have Rk:∃ Rk:Result->Shared->Prop,Rk=fun q s'=>∃ (h':Heap) (tk:Nat) (acc':Array Value) (c':Nat),q=.ok (.ret (.ref s.heap.objs.size))/\s'={ s with heap:=h',toks:=tk }/\(∀ b o,b∉wr->s.heap.get? b=some o->h'.get? b=some o)/\h'.get? s.heap.objs.size=some { cls:=.type "list",dict:=none,data:=.seq acc' c',slots:=#[] }/\ItemsOf P acc' n:=⟨_,rfl⟩
 obtain ⟨Rk,hRk⟩:=Rk
 have key:∀ (hp:Heap) (c₁ tk:Nat),St 0 hp->(∀ b o,b≠s.heap.objs.size->s.heap.get? b=some o->hp.get? b=some o)->hp.get? s.heap.objs.size=some { cls:=.type "list",data:=.seq #[] c₁ } ->
  codeAny (model prog w) A (.builtin "list.extend.loop" ⟨[.ref s.heap.objs.size,.ref I,.ref s.heap.objs.size],[]⟩) Rk { s with heap:=hp,toks:=tk }:=by
  intro hp c₁ tk hst hk hS₁
  refine codeAny_extend_loopS W.toS hn s.heap.objs.size hSf _ n 0 _ #[] c₁ rfl (aT _) hst hS₁ (ItemsOf.nil _) fun s' acc' c' hm hS' hacc=>?_
  rw [hRk]
  refine ⟨s'.heap,s'.toks,acc',c',rfl,(show s'=_ from by have em:=Moved.eq_with hm;exact em),fun b o hb e=>hm.heap b o (fun hmem=>?_) (hk b o (aH (au e)) e),hS',hacc⟩
  rcases ag.mp hmem with e' | hmem
  ·exact absurd (au e) (by rw [e'];exact br _)
  ·exact hb hmem
 have whole:wpAny (model prog w) A.in1 (Builtin.List.listExtendWith (.ref s.heap.objs.size) (.ref I) (.ref s.heap.objs.size))
  (fun fin s'=>match fin with | .done f=>Rk (.ok f) s' | .again c'=>c'.quiet=true/\codeAny (model prog w) A c' Rk s') (fun e s'=>Rk (.error e) s') { s with heap:=s.heap.push { cls:=.type "list",data:=.seq ([]:List Value).toArray } }:=by
  unfold Builtin.List.listExtendWith
  refine wpAny_bind (wpAny_typeOf (hT 0 { s with heap:=s.heap.push { cls:=.type "list",data:=.seq ([]:List Value).toArray } } st1) ?_)
  simp only [h1,nl,nt,rZ,bN,if_false]
  refine wpAny_bind (W.self 0 { s with heap:=s.heap.push { cls:=.type "list",data:=.seq ([]:List Value).toArray } } _ _ st1 ?_)
  refine wpAny_bind (wpAny_holding (hint _ { s with heap:=s.heap.push { cls:=.type "list",data:=.seq ([]:List Value).toArray } } _ st1 fun b tk htk=>?_))
  refine wpAny_ite_split (fun _=>?_) (fun _=>wpAny_pure ⟨plainId_quiet PySem.F.plain_extend_loop _,key _ 0 tk st1 (fun b o _ e=>aa _ e) hS⟩)
  refine wpAny_bind (wpAny_rule ?_)
  refine wpAny_bind ?_
  show wpAny _ _ (updateSeq s.heap.objs.size (·.push .none)>>=fun _=>updateSeq s.heap.objs.size (·.pop)) _ _ _
  refine wpAny_bind (wpAny_updateSeq hS rfl ?_)
  have hS₂:=bb (bj (·.push Value.none)) hS rfl
  refine wpAny_updateSeq (hz:=by seq_fits) hS₂ rfl ?_
  have hS₃:=bb (bj (·.pop)) hS₂ rfl
  refine wpAny_pure ⟨plainId_quiet PySem.F.plain_extend_loop _,key _ _ tk ?_ (fun b o hb e=>?_) hS₃⟩
  ·refine W.frame 0 _ _ st1 fun b hb o e=>?_
   have hbS:b≠s.heap.objs.size:=fun h=>hSf (h▸hb)
   exact (aI _ _ (Ne.symm hbS)).trans ((aI _ _ (Ne.symm hbS)).trans e)
  ·exact (aI _ _ (Ne.symm hb)).trans ((aI _ _ (Ne.symm hb)).trans (aa _ e))
 refine wpAny_mono whole (fun fin s' x=>?_) fun e s' x=>?_
 ·cases fin with
  | done f =>
    have x:Rk (.ok f) s':=x
    rw [hRk] at x
    obtain ⟨h',tk,acc',c',e,rfl,hk,hS',hacc⟩:=x
    cases e
    show wpAny _ A (load s.heap.objs.size>>=_) _ _ _
    refine wpAny_bind (wpAny_load hS' ?_)
    exact wpAny_pure (h h' tk acc' hk hacc)
  | again c₁ =>
    refine ⟨x.1,codeAny_mono x.2 fun q s₂ y=>?_⟩
    rw [hRk] at y
    obtain ⟨h',tk,acc',c',rfl,rfl,hk,hS',hacc⟩:=y
    show wpAny _ A (load s.heap.objs.size>>=_) _ _ _
    refine wpAny_bind (wpAny_load hS' ?_)
    exact wpAny_pure (h h' tk acc' hk hacc)
 ·rw [hRk] at x
  obtain ⟨_,_,_,_,e',_⟩:=x
  cases e'
theorem kO {Q:Value->Shared->Prop} (W:Walks prog w A.in1.in1.in1 I fp wr n P St) (hT:∀ (i:Nat) (s:Shared),St i s.heap->s.TypeIs (.ref I) T) (nl:(Value.type T == Value.type "list")=false) (nt:(Value.type T == Value.type "tuple")=false)
 (hint:∀ (E:Value->Shared->Prop) (s:Shared) (Q:Bool->Shared->Prop),St 0 s.heap->(∀ b tk,s.toks<=tk->Q b { s with toks:=tk })->wpAny (model prog w) A.in1.in1.in1 (Builtin.List.listLengthHint (.ref I)) Q E s)
 (st:St 0 s.heap) (hfp:∀ b∈fp,b<s.heap.objs.size) (hI:I∈fp) (hn:n<=sizeLine)
 (h:∀ (h':Heap) (tk:Nat) (acc:Array Value),(∀ b o,b∉wr->s.heap.get? b=some o->h'.get? b=some o)->ItemsOf P acc n->Q (.ref h'.objs.size) { s with heap:=h'.push { cls:=.type "tuple",data:=.seq acc },toks:=tk }):wpAny (model prog w) A (call (.type "tuple") [.ref I]) Q E s:=by
 refine callType_codes (Q₁:=fun obj s₁=>s₁.TypeIs obj "tuple"/\Q obj s₁) PySem.F.called_tuple (PySem.F.typeCall_tuple_1 _) PySem.F.entry_object_init ?_ fun obj s₁ h₁ =>
  ⟨h₁.1,PySem.F.args_object_init_2 obj _,object_init_meets PySem.F.called_tuple.init.lookup PySem.F.called_tuple.made (by decide) prog w A.in1 _ s₁ ⟨h₁.1,rfl,h₁.2⟩⟩
 refine codeAny_of_tree ?_
 show wpAny _ A.in1.in1 (do checkBuiltinCall "tuple.__new__" ⟨[.type "tuple",.ref I],[]⟩;again (.builtin "tuple.__new__" ⟨[.type "tuple",.ref I],[]⟩)) _ _ s
 refine wpAny_bind (wpAny_of_eq (PySem.F.newCall_tuple_1 _) (wpAny_pure ⟨plainId_quiet PySem.F.plain_tuple_new _,codeAny_builtin PySem.F.entry_tuple_new ?_⟩))
 rw [Around.under_plainId PySem.F.plain_tuple_new _]
 have hsub:=sub_tuple_self
 have hinit:=init_tuple_lookup
 have hmh:=madeHere_tuple
 have hTI:=hT 0 s st
 wp_walk using wpAny_typeOf hTI,wW W hT nl nt hint st hfp hI hn
 intro h' tk acc hk hacc
 show wpAny _ _ (Builtin.Tuple.tupleExact acc.toList.toArray>>=fun v=>ret v) _ _ _
 unfold Builtin.Tuple.tupleExact
 refine wpAny_bind (wpAny_newObj_type ?_ (by show acc.toList.toArray.size<=sizeLine;simp only [dM];rw [hacc.1];exact hn))
 refine wpAny_pure ?_
 have e:acc.toList.toArray=acc:=by simp
 rw [e]
 exact ⟨⟨_,af _ rfl,rfl⟩,h h' tk acc hk hacc⟩
theorem zB {t:Addr} {items:Array Value} (hh:A.handled=none) (hne:t≠I) (hz:(items.size:Int)<2 ^ 63) :
 Walks prog w A I [I,t] [I] items.size (fun i v=>items[items.size-1-i]?=some v) (fun i h=>i<=items.size/\pk h I t ((items.size:Int)-1-(i:Int))/\IsTup h t items) where
 sub:=fun b hb=>by simp at hb;simp [hb]
 frame:=fun _ _ _ x hk=>⟨x.1,x.2.1.at fun o e=>hk I (by simp) o e,let ⟨o,ho,r⟩:=x.2.2;⟨o,hk t (by simp) o ho,r⟩⟩
 item:=fun i s Q E hi x hQ=>by
  have e:(items.size:Int)-1-(i:Int)=((items.size-1-i:Nat):Int):=by lia
  have hit:=x.2.1
  rw [e] at hit
  have hx:items[items.size-1-i]?=some (items[items.size-1-i]'(by lia)):=aJ (by lia)
  refine ti hit x.2.2 hx hz fun h' tk _ hit' hs'=>?_
  have e2:((items.size-1-i:Nat):Int)-1=(items.size:Int)-1-((i+1:Nat):Int):=by lia
  rw [e2] at hit'
  exact hQ _ h' tk hx ⟨hi,hit',let ⟨o,ho,r⟩:=x.2.2;⟨o,(hs'.2 t hne).trans ho,r⟩⟩ fun b o hb eo=>hs'.extBut b o (fun h=>hb (by simp [h])) eo
 done:=fun s Q E x hQ=>by
  have e:(items.size:Int)-1-(items.size:Int) = -1:=by lia
  have hit:=x.2.1
  rw [e] at hit
  exact xm hh hit fun h' he'=>hQ h' s.toks fun b o hb eo=>he' b o (fun h=>hb (by simp [h])) eo
 self:=fun _ _ _ _ x hQ=>pH x.2.1 hQ
end
theorem zN {prog:Program} {w:World} {A:Around} {E:Value->Shared->Prop} {s:Shared} {it l:Addr} {i:Int} {Q:Bool->Shared->Prop} (hit:s.heap.IsRevIter it l i) (h:∀ b tk,s.toks<=tk->Q b { s with toks:=tk }):wpAny (model prog w) A (Builtin.List.listLengthHint (.ref it)) Q E s:=by
 unfold Builtin.List.listLengthHint
 refine wpAny_bind (wpAny_specialOf hit.typeIs (show typeLookup (.type "list_reverseiterator") "__len__" = pure none by rw [typeLookup_type,builtinLookup_eq_fast];kernel_rfl) ?_)
 show wpAny _ _ (specialOf (Value.ref it) (Str.ofString "__length_hint__")>>=_) _ _ _
 refine wpAny_bind (wpAny_specialOf hit.typeIs (show typeLookup (.type "list_reverseiterator") "__length_hint__" = pure (some (.builtin "list_reverseiterator.__length_hint__")) by rw [typeLookup_type,builtinLookup_eq_fast];kernel_rfl) ?_)
 (generalize hid:("list_reverseiterator.__length_hint__" : String)=id0;(fail_if_success (clear hid id0));wp_delta;rw [show splitId id0=some ("list_reverseiterator","__length_hint__") from by subst hid;decide +kernel];subst hid)
 refine wpAny_bind (wpAny_isInstance (b:=true) hit.typeIs (by rw [isSubtype_type];kernel_rfl) ?_)
 try dsimp only
 first | rw [if_neg (by decide),if_pos (by decide +kernel),if_neg (by decide +kernel)] | skip
 exact wpAny_pure (h _ s.toks (aj _))
theorem wR {its:List Value} {acc:Array Value} (h:ItemsOf (fun i v=>its.toArray[its.toArray.size-1-i]?=some v) acc its.toArray.size):acc=its.reverse.toArray:=by
 have e:acc.toList=its.reverse:=by
  apply dL
  intro i
  rw [aR]
  have hs:acc.size=its.length:=by rw [h.1,aq]
  by_cases hi:i<its.length
  ·have hi':i<acc.size:=by lia
   have:=h.2 i acc[i] (aJ hi')
   rw [aJ hi',iP hi]
   rw [<- this]
   simp
  ·rw [b0 (by lia),bG (by rw [cy];lia)]
 rw [<- e]
section
variable {X:Cx} {e:Expr} {p p2 pos pos2:Pos} {te:TE}
def tTR (K:PySem.W.Frag) (te:TE):TE:=fun σ H Q=>te σ H fun x H1=>∃ (t:Addr) (ys:List V),x=.ref t/\(SqT K H1 t ys\/SqL K H1 t ys)/\∀ l,H1 l=none->Q (.ref l) (upd H1 l (.tup ys.reverse))
theorem sX (hg:Gl X "tuple") (hm:X.mg "tuple" = none) (hg2:Gl X "reversed") (hm2:X.mg "reversed" = none) (he:PE X e te) (hc:X.calm=true:=by rfl) (hs:starEach [e] X.env=[(false,eval e X.env)]:=by exact aX rfl)
 (hs2:starEach [.Call (.Name "reversed" p2) [e] [] pos2] X.env=[(false,eval (.Call (.Name "reversed" p2) [e] [] pos2) X.env)]:=by rfl):PE X (.Call (.Name "tuple" p) [.Call (.Name "reversed" p2) [e] [] pos2] [] pos) (tTR X.K te):=by
 intro pins s σ H Q I h
 have hsz:sizeLine=16777216:=sizeLine_eq
 refine wpAny_Call_Name_kw (fL I hg hm (by decide +kernel:bootBuiltins "tuple" = some (.type "tuple")) ?_ (by decide) (by decide))
 refine PyProof.Rows.callWith_type1 ?_ hs2 rfl
 rw [hs2]
 show wpAny _ _ (spliced ((false,eval (.Call (.Name "reversed" p2) [e] [] pos2) X.env)::backTo pos (starEach [] X.env))) _ _ s
 refine Calls.spliced_cons ?_
 refine wpAny_Call_Name_kw (fL I hg2 hm2 (by decide +kernel:bootBuiltins "reversed" = some (.type "reversed")) ?_ (by decide) (by decide))
 refine PyProof.Rows.callWith_type1 ?_ hs rfl
 rw [hs]
 show wpAny _ _ (spliced ((false,eval e X.env)::backTo pos2 (starEach [] X.env))) _ _ s
 refine Calls.spliced_cons (thn (he pins s σ H _ I h) fun u s1 ⟨x,H1,I1,r1,t,ys,ex,hsq,k⟩=>?_)
 subst ex
 cases r1
 refine Calls.spliced_nil ?_
 have fin:∀ (its:List Value) (r:Addr) (hr:Heap) (tk:Nat),r=s1.heap.objs.size->(∀ b o,s1.heap.get? b=some o->hr.get? b=some o)->cq ys its->ys.length<=sizeLine->∀ (h':Heap) (tk:Nat) (acc:Array Value),(∀ b o,b∉[r]->hr.get? b=some o->h'.get? b=some o)->ItemsOf (fun i v=>its.toArray[its.toArray.size-1-i]?=some v) acc its.toArray.size->EP X pins σ Q (.ref h'.objs.size) { s1 with heap:=h'.push { cls:=.type "tuple",data:=.seq acc },toks:=tk }:=fun its r hr _ er kr rv z h' tk acc hk hacc=>by
  have kk:∀ b o,s1.heap.get? b=some o->h'.get? b=some o:=fun b o e=>hk b o (by rw [am,er];exact aH (au e)) (kr b o e)
  have I2:Inv X pins σ H1 { s1 with heap:=h',toks:=tk }:=I1.kept (t':=tk) kk
  have hit:IsTup (h'.push { cls:=.type "tuple",data:=.seq acc }) h'.objs.size its.reverse.toArray:=by rw [<- wR hacc];exact IsTup.new _ _
  exact ⟨.ref h'.objs.size,_,I2.laid (t':=tk) (o:=.tup ys.reverse) (fun b o e=>aa _ e) (aj _) ⟨⟨by rw [cy];exact z,jj.new _ _⟩,its.reverse,rv.reverse,hit⟩,rfl,k _ (I2.hok.fresh (aj _))⟩
 have hh:X.A.in1.in1.in1.handled=none:=I1.ok.hd hc
 rcases hsq with hq | hq
 ·obtain ⟨its,rv,it,z⟩:=I1.tuple hq
  have hl:its.toArray.size=ys.length:=by rw [aq];exact rv.length.symm
  have hlt:t<s1.heap.objs.size:=let ⟨o,ho,_⟩:=it;au ho
  refine u6 it (by lia) fun tk=>Calls.spliced_nil ?_
  have it2:IsTup (s1.heap.push (mq t ((its.toArray.size:Int)-1))) t its.toArray:=let ⟨o,ho,r⟩:=it;⟨o,aa _ ho,r⟩
  refine kO (T:="reversed") (zB hh (aH hlt) (by lia)) (fun i s x=>x.2.1.ty) (by decide) (by decide) (fun E s Q st hq=>zo (n:=0) (items:=its.toArray) (by have:=st.2.1;simpa using this) st.2.2 (by lia) hq)
   ⟨aT _,⟨_,af _ rfl,rfl,by simp [mq]⟩,it2⟩ (fun b hb=>?_) (by simp) (by lia) fun h' tk' acc hk hacc=>fin its _ _ 0 rfl (fun b o e=>aa _ e) rv z h' tk' acc hk hacc
  rw [bV]
  simp only [ag,eh,or_false] at hb
  rcases hb with e | e
  ·rw [e];exact cY _
  ·rw [e];exact cx hlt
 ·obtain ⟨its,rv,pl,z⟩:=I1.list hq
  have hl:its.toArray.size=ys.length:=by rw [aq];exact rv.length.symm
  have hlt:t<s1.heap.objs.size:=pl.lt
  refine call_reversed_list pl.isList (Calls.spliced_nil ?_)
  have il2:(s1.heap.push (revObj t ((its.toArray.size:Int)-1))).IsList t its.toArray:=pl.isList.at fun o e=>aa _ e
  refine kO (T:="list_reverseiterator") (Walks.listRev hh _ t (aH hlt) its.toArray) (fun i s x=>x.2.1.typeIs) (by decide) (by decide) (fun E s Q st hq=>zN st.2.1 hq)
   ⟨aT _,⟨_,af _ rfl,rfl,by simp [revObj]⟩,il2⟩ (fun b hb=>?_) (by simp) (by lia) fun h' tk' acc hk hacc=>fin its _ _ 0 rfl (fun b o e=>aa _ e) rv z h' tk' acc hk hacc
  rw [bV]
  simp only [ag,eh,or_false] at hb
  rcases hb with e | e
  ·rw [e];exact cY _
  ·rw [e];exact cx hlt
theorem po {fa:Rho->Option Rv} (hg:Gl X "tuple") (hm:X.mg "tuple" = none) (hg2:Gl X "reversed") (hm2:X.mg "reversed" = none) (ha:PX X e fa) (hc:X.calm=true:=by rfl) (hs:starEach [e] X.env=[(false,eval e X.env)]:=by exact aX rfl)
 (hs2:starEach [.Call (.Name "reversed" p2) [e] [] pos2] X.env=[(false,eval (.Call (.Name "reversed" p2) [e] [] pos2) X.env)]:=by rfl):PX X (.Call (.Name "tuple" p) [.Call (.Name "reversed" p2) [e] [] pos2] [] pos) (iE fa) :=
 PE.imp (sX hg hm hg2 hm2 ha hc hs hs2) fun σ H Q ⟨B,G,ρ,r,sg,sb,st,eq,k⟩=>by
  unfold iE at eq
  have go:∀ (t:Addr) (ys:List V) (ds:List Da) (G1 H1:Hp),Ext G H G1 H1->bP X.K G1 ds ys->r=(.pu,.tup ds.reverse)->∀ l,H1 l=none->Q (.ref l) (upd H1 l (.tup ys.reverse)):=fun t ys ds G1 H1 E1 dl er l hl=>by
   refine k _ _ _ (E1.trans (Ext.new E1.gh hl)) ?_
   rw [er]
   exact ⟨l,_,rfl,aL,bP.mono (bB (E1.gh.free hl)) _ dl.reverse⟩
  split at eq
  ·rename_i kd ds ea
   cases eq
   refine ⟨B,G,ρ,_,sg,sb,st,ea,fun v G1 H1 E1 r1=>?_⟩
   obtain ⟨t,ys,rfl,q,dl,_⟩:=r1.tup E1.gh
   exact ⟨t,ys,rfl,.inl (SqT.of q),go t ys ds G1 H1 E1 dl rfl⟩
  ·rename_i kd ds ea
   cases eq
   refine ⟨B,G,ρ,_,sg,sb,st,ea,fun v G1 H1 E1 r1=>?_⟩
   obtain ⟨t,ys,rfl,q,dl⟩:=r1.lst E1.gh
   exact ⟨t,ys,rfl,.inr q,go t ys ds G1 H1 E1 dl rfl⟩
  ·cases eq
end
end Ry
namespace Ry
open PySem PySem.Spec PyProof.Rows L2
section
variable {X:Cx} {a b c e:Expr} {es:List Expr} {p pos pos':Pos} {f fa fb fc:Rho->Option Rv} {g:Rho->Option (List Rv)}
theorem rf:i7 X (.type "int") (fun xs H Q=>∃ b:Bool,xs=[.bl b]/\Q (.int (if b then 1 else 0)) H):=by
 intro pins s σ H xs us Q I r h
 obtain ⟨b,rfl,q⟩:=h
 obtain ⟨u,rfl,rx⟩:=kD r
 cases rx
 exact PySem.call_int_bool ⟨.int (if b then 1 else 0),H,I.tok _,⟨_,rfl⟩,q⟩
theorem uw {K:PySem.W.Frag}:Cal K (fun xs H Q=>∃ b:Bool,xs=[.bl b]/\Q (.int (if b then 1 else 0)) H) Ac:=by
 intro B H0 G H rs c xs Q sg ra e k
 unfold Ac at e
 split at e
 ·cases e
  obtain ⟨v,rfl,h⟩:=du.one ra
  cases h.bl
  exact ⟨_,rfl,k _ G H (Ext.refl sg) rfl⟩
 ·cases e
theorem yi (hg:Gl X "int") (hm:X.mg "int" = none) (ha:PXA X (e::es) g) (he:starEach (e::es) X.env=(false,eval e X.env)::starEach es X.env:=by exact aX rfl) (hpl:(backTo pos (starEach es X.env)).any (·.1)=false:=by rfl):PX X (.Call (.Name "int" p) (e::es) [] pos) (xB Ac g) :=
 y6 rf uw hg hm (by decide +kernel) ha (by decide) (by decide) he hpl
end
end Ry
namespace Ry
open PySem PySem.Spec PyProof.Rows L2
abbrev Ris (xs:Array Nat):Prop:=∀ i j a b:Nat,i<j->xs[i]?=some a->xs[j]?=some b->a<b
structure vj (xs:Array Nat) (j r:Nat):Prop where
 le:r<=xs.size
 lo:∀ i a,i<r->xs[i]?=some a->a<j
 hi:∀ i a,r<=i->xs[i]?=some a->j<=a
theorem Ris.le {xs:Array Nat} (h:Ris xs) {i j a b:Nat} (hij:i<=j) (ha:xs[i]?=some a) (hb:xs[j]?=some b):a<=b:=by
 rcases gw hij with z | z
 ·exact eJ (h i j a b z ha hb)
 ·subst z;rw [ha] at hb;cases hb;exact aj _
theorem mh {xs:Array Nat} (h:Ris xs) (j:Nat):∀ (fuel lo hi:Nat),hi<=xs.size->lo<=hi->hi-lo<=fuel->(∀ i a,i<lo->xs[i]?=some a->a<j)->(∀ i a,hi<=i->xs[i]?=some a->j<=a)->vj xs j (SetTable.below.go xs j fuel lo hi)
 | 0,lo,hi,h1,h2,h3,hl,hh=>by
   have:lo=hi:=by lia
   subst this
   unfold SetTable.below.go
   exact ⟨h1,hl,hh⟩
 | fuel+1,lo,hi,h1,h2,h3,hl,hh=>by
   unfold SetTable.below.go
   by_cases e:lo<hi
   ·rw [if_pos e]
    dsimp only
    have hm:(lo+hi) / 2<xs.size:=by lia
    have em:xs.getD ((lo+hi) / 2) j=xs[(lo+hi) / 2]:=by simp [fR,hm]
    have gm:xs[(lo+hi) / 2]?=some xs[(lo+hi) / 2]:=aJ hm
    rw [em]
    by_cases c:xs[(lo+hi) / 2]<j
    ·rw [if_pos c]
     exact mh h j fuel _ _ h1 (by lia) (by lia) (fun i a hi' ha=>Ag (h.le (by lia) ha gm) c) hh
    ·rw [if_neg c]
     exact mh h j fuel _ _ (by lia) (by lia) (by lia) hl fun i a hi' ha=>bH (Cq c) (h.le hi' gm ha)
   ·rw [if_neg e]
    have:lo=hi:=by lia
    subst this
    exact ⟨h1,hl,hh⟩
theorem mx {xs:Array Nat} (h:Ris xs) (j:Nat):vj xs j (SetTable.below xs j):=by
 unfold SetTable.below
 refine mh h j _ _ _ (aj _) (aT _) (by lia) (fun i a hi=>absurd hi (pR i)) fun i a hi ha=>?_
 have:=(oK.mp ha).1
 lia
theorem wF {α:Type} (xs:Array α) (p:Nat) (x:α):(SetTable.insertAt xs p x).toList=xs.toList.take p++x::xs.toList.drop p:=by
 unfold SetTable.insertAt
 simp [Array.toList_extract,ip]
theorem lU {xs:Array Nat}:Ris xs↔xs.toList.Pairwise (· < ·):=by
 rw [bE]
 constructor
 ·intro h i j hi hj hij
  exact h i j _ _ hij (by rw [<- aR];exact ae hi) (by rw [<- aR];exact ae hj)
 ·intro h i j a b hij ha hb
  rw [<- aR] at ha hb
  obtain ⟨h1,rfl⟩:=al.mp ha
  obtain ⟨h2,rfl⟩:=al.mp hb
  exact h i j h1 h2 hij
abbrev Out (t:SetTable) (j:Nat):Prop:=t.place[SetTable.below t.place j]?≠some j
theorem tQ {t:SetTable} {j:Nat} (h:Ris t.place) (ho:Out t j):Ris (t.put j).1.place:=by
 have hb:=mx h j
 show Ris (SetTable.insertAt t.place (SetTable.below t.place j) j)
 have h':=lU.mp h
 rw [lU,wF]
 generalize hr:SetTable.below t.place j=r at hb ho
 have hs:(t.place.toList.take r++t.place.toList.drop r).Pairwise (· < ·):=by rw [fH];exact h'
 obtain ⟨s1,s2,s3⟩:=aU.mp hs
 have lt:∀ a∈t.place.toList.take r,a<j:=fun a ha=>by
  obtain ⟨i,hi,e⟩:=bv ha
  rw [bI] at hi
  rw [dJ] at e
  exact hb.lo i a (by lia) (by rw [<- aR,ae (by lia),e])
 have gt:∀ b∈t.place.toList.drop r,j<b:=fun b hb'=>by
  obtain ⟨i,hi,e⟩:=bv hb'
  rw [fM] at hi
  rw [dI] at e
  have hg:t.place[r+i]?=some b:=by rw [<- aR,ae (by lia),e]
  have h1:=hb.hi (r+i) b (by lia) hg
  rcases gw h1 with z | z
  ·exact z
  ·subst z
   have hr':r<t.place.size:=by rw [az] at hi;lia
   have hg0:t.place[r]?=some t.place[r]:=aJ hr'
   have h2:=hb.hi r _ (aj _) hg0
   have h3:=h.le (show r<=r+i by lia) hg0 hg
   exact absurd (by rw [hr,hg0];congr 1;lia) ho
 refine aU.mpr ⟨s1,aZ.mpr ⟨gt,s2⟩,fun a ha b hb'=>?_⟩
 rcases ag.mp hb' with z | z
 ·rw [z];exact lt a ha
 ·exact s3 a ha b z
theorem pY {t:SetTable} {j:Nat} (h:∀ i,t.slot j≠.live i):Out t j:=by
 intro z
 refine h (SetTable.below t.place j) ?_
 unfold SetTable.slot
 dsimp only
 rw [if_pos (by rw [z];exact beq_self_eq_true _)]
theorem oe (t:SetTable) (p:SetTable.Probe):(t.advance p).dummy=p.dummy:=by
 unfold SetTable.advance
 split<;>rfl
theorem jZ {t:SetTable} {f:Nat->Int} {h:Int}:∀ (fuel:Nat) (p:SetTable.Probe) {j:Nat} {d:Option Nat},(∀ x,p.dummy=some x->Out t x)->SetTable.probe.go t f h fuel p=some (.empty j d)->Out t j/\∀ x,d=some x->Out t x
 | 0,p,j,d,_,e=>by unfold SetTable.probe.go at e;cases e
 | fuel+1,p,j,d,hp,e=>by
   unfold SetTable.probe.go at e
   split at e
   ·rename_i hs
    cases e
    exact ⟨pY fun i z=>(by rw [hs] at z;cases z),hp⟩
   ·rename_i hs
    refine jZ fuel _ (fun x hx=>?_) e
    rw [oe] at hx
    cases hx
    exact pY fun i z=>by rw [hs] at z;cases z
   ·rename_i i hs
    split at e
    ·cases e
    ·exact jZ fuel _ (fun x hx=>hp x (by rw [oe] at hx;exact hx)) e
theorem qT {t:SetTable} {h:Int} {j:Nat} {b:Bool} (e:t.freeSlot h=some (j,b)):Out t j:=by
 unfold SetTable.freeSlot at e
 split at e
 ·rename_i j' d hp
  cases e
  obtain ⟨h1,h2⟩:=jZ _ _ (fun x hx=>by cases hx) hp
  cases d with
  | none=>exact h1
  | some x=>exact h2 x rfl
 ·cases e
theorem uV (n:Nat):Ris (Array.range n):=by
 rw [lU,Array.toList_range]
 exact vn
structure jE (L:Bool) (t:SetTable):Prop where
 led:t.led=L
 ris:Ris t.place
theorem jE.stand {L:Bool} {t:SetTable} (h:jE L t) (n:Nat):jE L (t.standIn n):=⟨h.led,uV n⟩
theorem jE.lay {L:Bool} {t:SetTable} (h:jE L t) (es:Array (Int×Value)) (k:Int) (x:Value):jE L (layNew t es k x).2.1:=by
 unfold layNew
 split
 ·rename_i j b e
  dsimp only
  unfold SetTable.orStandIn
  split
  ·exact ⟨h.led,tQ h.ris (qT e)⟩
  ·exact jE.stand (t:=(t.put j).1) ⟨h.led,tQ h.ris (qT e)⟩ _
 ·exact h.stand _
theorem jE.relay {L:Bool} {t:SetTable} (h:jE L t) (es:Array (Int×Value)) (n:Nat):jE L (relayAll t es n).2.1:=by
 unfold relayAll
 split
 ·rename_i t' order e
  dsimp only
  split
  ·unfold SetTable.relaid SetTable.laid at e
   simp only [Option.bind_eq_bind,Option.bind_eq_some_iff] at e
   obtain ⟨owner,_,e⟩:=e
   cases e
   refine ⟨h.led,?_⟩
   rw [lU]
   dsimp only
   have:∀ l:List Nat,l.Pairwise (· < ·)->((l.filterMap fun j=>(owner.getD j none).map (j,·)).map (·.1)).Pairwise (· < ·):=fun l hl=>by
    have hsub:((l.filterMap fun j=>(owner.getD j none).map (j,·)).map (·.1)).Sublist l:=by
     induction l with
     | nil=>exact .slnil
     | cons a l ih =>
       rw [gc]
       cases ho:owner.getD a none with
       | none=>exact .cons _ (ih (aZ.mp hl).2)
       | some k=>exact .cons_cons _ (ih (aZ.mp hl).2)
    exact hl.sublist hsub
   exact this _ vn
  ·exact h.stand _
 ·exact h.stand _
end Ry
namespace Ry
open PySem PySem.Spec PyProof.Rows L2
abbrev rX (w:World):Bool:=w.params.followText "set-order"
def gx (prog:Program) (w:World) (h:Heap) (a:Addr) (S:Int->Bool) (n:Nat):Prop :=
 ∃ o es ep t,h.get? a=some o/\o.ExactSet/\o.data=.set es ep t/\ElemsOf (intKind prog w) es.toList/\(∀ k,S k=true↔∃ e∈es.toList,(intKind prog w).is k e.2=true)/\es.size<scanBound/\t.fits es.size=true/\es.size=n/\jE (!rX w) t
theorem gx.at {prog:Program} {w:World} {h h':Heap} {a:Addr} {S:Int->Bool} {n:Nat} (x:gx prog w h a S n) (k:∀ o,h.get? a=some o->h'.get? a=some o):gx prog w h' a S n:=by
 obtain ⟨o,es,ep,t,h1,r⟩:=x
 exact ⟨o,es,ep,t,k o h1,r⟩
theorem gx.congr {prog:Program} {w:World} {h:Heap} {a:Addr} {S S':Int->Bool} {n n':Nat} (x:gx prog w h a S n) (e:∀ k,S k=S' k) (en:n=n'):gx prog w h a S' n':=by
 have:S=S':=funext e
 subst this;subst en
 exact x
section
variable {prog:Program} {w:World} {A:Around} {E:Value->Shared->Prop} {s:Shared}
theorem Bq {g:Bool->Sem Unit} (hg:∀ (b:Bool) (s₁:Shared) (Q':Unit->Shared->Prop),Q' () s₁->wpAny (model prog w) A (g b) Q' E s₁)
 {a:Addr} {o:Obj} {es:Array (Int×Value)} {ep:Nat} {t:SetTable} (ho:s.heap.get? a=some o) (hex:o.ExactSet) (hd:o.data=.set es ep t)
 {es1:Array (Int×Value)} {t2:SetTable} {S':Int->Bool} (hel1:ElemsOf (intKind prog w) es1.toList) (hmem1:∀ k',S' k'=true↔∃ e∈es1.toList,(intKind prog w).is k' e.2=true)
 (hb1:es1.size<scanBound) (hf2:t2.fits es1.size=true) (tk:jE (!rX w) t2) {wasDummy:Bool} {R:Option Bool->Shared->Prop}
 (h:∀ h',Heap.SameBut a s.heap h'->gx prog w h' a S' es1.size->R (some true) { s with heap:=h' }) :
 wpAny (model prog w) A (do
  storeSet a es1 t2
  if (!wasDummy&&t2.tooFull)=true then do
      g (relayAll t2 es1 (SetTable.grown es1.size)).2.2
      storeSet a (relayAll t2 es1 (SetTable.grown es1.size)).1 (relayAll t2 es1 (SetTable.grown es1.size)).2.1
      pure (some true)
   else pure (some true)) R E s:=by
 refine wpAny_bind (wpAny_storeSet_of ho hd ?_ (fits_of_scanBound hb1))
 obtain ⟨ho1,_⟩:=SetOf_store (knd:=intKind prog w) ho hex hd hel1 hmem1 hb1 hf2
 have hsb1:=Heap.SameBut.update s.heap a (Obj.putSet es1 t2)
 split
 ·have hp:=relayAll_perm t2 es1 (SetTable.grown es1.size)
  have hfr:=relayAll_fits t2 es1 (SetTable.grown es1.size)
  have tk2:=tk.relay es1 (SetTable.grown es1.size)
  generalize hRl:relayAll t2 es1 (SetTable.grown es1.size)=Rl at hp hfr tk2 ⊢
  obtain ⟨es2,t3,gave2⟩:=Rl
  dsimp only at hp hfr tk2 ⊢
  have hel2:ElemsOf (intKind prog w) es2.toList:=hel1.perm hp
  have hmem2:∀ k',S' k'=true↔∃ e∈es2.toList,(intKind prog w).is k' e.2=true:=fun k'=>(hmem1 k').trans ⟨fun ⟨e,he,q⟩=>⟨e,hp.mem_iff.mpr he,q⟩,fun ⟨e,he,q⟩=>⟨e,hp.mem_iff.mp he,q⟩⟩
  have hsz:es2.size=es1.size:=by rw [<- az,hp.length_eq,az]
  have hb2:es2.size<scanBound:=by rw [hsz];exact hb1
  refine wpAny_bind (hg _ _ _ ?_)
  refine wpAny_bind (wpAny_storeSet_of ho1 rfl ?_ (fits_of_scanBound hb2))
  obtain ⟨ho2,_⟩:=SetOf_store (knd:=intKind prog w) ho1 hex rfl hel2 hmem2 hb2 hfr
  exact wpAny_pure (h _ (hsb1.trans (Heap.SameBut.update _ a _)) ⟨_,es2,_,t3,ho2,hex,rfl,hel2,hmem2,hb2,hfr,hsz,tk2⟩)
 ·exact wpAny_pure (h _ hsb1 ⟨_,es1,_,t2,ho1,hex,rfl,hel1,hmem1,hb1,hf2,rfl,tk⟩)
theorem D4 {a:Addr} {S:Int->Bool} {n:Nat} {k:Int} {x:Value} {Q:Bool->Shared->Prop} (hkey:(intKind prog w).is k x=true) (hsc:x.scannable=true) (hS:gx prog w s.heap a S n) (hroom:n+1<scanBound)
 (h:∀ h',Heap.SameBut a s.heap h'->gx prog w h' a (fun k'=>S k'||decide (k'=k)) (if S k then n else n+1)->Q (!S k) { s with heap:=h' }) :
 wpAny (model prog w) A (setAddHashed a x ((intKind prog w).hash k)) Q E s:=by
 obtain ⟨o,es,ep,t,ho,hex,hd,hel,hmem,hb,hf,hn,tk⟩:=hS
 have hb1:es.size+1<scanBound:=by rw [hn];exact hroom
 unfold setAddHashed setAddHashedIn
 refine wpAny_holding (wpAny_bind (wpAny_setState_of ho hd hf ?_))
 dsimp only
 rw [byScan_of hsc hb hel]
 simp only [↓reduceIte]
 unfold setAddByScan
 refine wpAny_bind ?_
 refine wpAny_bind (wpAny_rule ?_)
 refine wpAny_bind (wpAny_setScan_of hkey ho hd hf hel ?_)
 cases hr:List.findIdx? (fun e=>(intKind prog w).is k e.2) es.toList with
 | some j =>
   dsimp only
   obtain ⟨hj,hpj,_⟩:=List.findIdx?_eq_some_iff_getElem.mp hr
   have hSk:S k=true:=(hmem k).mpr ⟨es.toList[j],ik hj,hpj⟩
   refine wpAny_pure (wpAny_pure ?_)
   have e:s={ s with heap:=s.heap }:=by cases s;rfl
   have:=h s.heap (Heap.SameBut.refl a s.heap) ⟨o,es,ep,t,ho,hex,hd,hel,fun k'=>by
    rw [eQ,decide_eq_true_eq,<- hmem k']
    exact ⟨fun hk=>hk.elim id (fun e=>e▸hSk),.inl⟩,hb,hf,by rw [hSk];exact hn,tk⟩
   rw [hSk] at this;rw [e];exact this
 | none =>
   dsimp only
   have hSk:S k=false:=by
    cases hk:S k with
    | false=>rfl
    | true=>obtain ⟨e,he,hp⟩:=(hmem k).mp hk;have:=List.findIdx?_eq_none_iff.mp hr e he;rw [hp] at this;exact Ce this
   have hgw:∀ (b:Bool) {s₁:Shared} {Q':Unit->Shared->Prop},Q' () s₁->wpAny (model prog w) A (match b with | true=>rule "set.scan.the-table-gave-way" | false=>pure ()) Q' E s₁ :=
    fun b s₁ Q' hq=>by cases b<;>first | exact wpAny_pure hq | exact wpAny_rule hq
   have hperm:=layNew_perm t es ((intKind prog w).hash k) x
   have hfits:=layNew_fits t es ((intKind prog w).hash k) x
   have tk1:=tk.lay es ((intKind prog w).hash k) x
   generalize hL:layNew t es ((intKind prog w).hash k) x=L at hperm hfits tk1 ⊢
   obtain ⟨es1,t1,wasDummy,gave⟩:=L
   dsimp only at hperm hfits tk1 ⊢
   rw [zY] at hperm
   have hel1:ElemsOf (intKind prog w) es1.toList:=(hel.push hkey hsc).perm hperm
   have hmem1:∀ k',(S k'||decide (k'=k))=true↔∃ e∈es1.toList,(intKind prog w).is k' e.2=true:=mem_push_iff hkey hmem hperm
   have hb1':es1.size<scanBound:=by rw [<- az,hperm.length_eq,aF,az];simpa using hb1
   refine wpAny_bind (hgw _ ?_)
   have hsz1:es1.size=n+1:=by rw [<- az,hperm.length_eq,aF,az,hn];rfl
   have hend:∀ h',Heap.SameBut a s.heap h'->gx prog w h' a (fun k'=>S k'||decide (k'=k)) es1.size->Q true { s with heap:=h' }:=by
    intro h' hsb hS';have:=h h' hsb;rw [hSk] at this;rw [hsz1] at hS';exact this hS'
   split
   ·refine wpAny_bind ?_
    rw [hashByValue_scannable 8 hsc]
    refine wpAny_pure ?_
    refine Bq ?_ ho hex hd hel1 hmem1 hb1' ?_ ?_ ?_
    ·intro b s₁ Q' hq;cases b<;>first | exact wpAny_pure hq | exact wpAny_rule hq
    ·split
     ·exact hfits
     ·exact SetTable.fits_plain_off hfits
    ·split
     ·exact tk1
     ·exact ⟨tk1.led,tk1.ris⟩
    ·intro h' hsb hS';dsimp only;exact wpAny_pure (hend h' hsb hS')
   ·refine wpAny_bind (wpAny_pure ?_)
    simp only [↓reduceIte]
    refine Bq ?_ ho hex hd hel1 hmem1 hb1' hfits tk1 ?_
    ·intro b s₁ Q' hq;cases b<;>first | exact wpAny_pure hq | exact wpAny_rule hq
    ·intro h' hsb hS';dsimp only;exact wpAny_pure (hend h' hsb hS')
end
end Ry
namespace Ry
open PySem PySem.Spec PyProof.Rows L2
section
variable {prog:Program} {w:World} {A:Around} {E:Value->Shared->Prop} {s:Shared}
theorem zL (a:Value) {Q₁:Value->Shared->Prop} (h:Q₁ (.ref s.heap.objs.size) { s with heap:=s.heap.push { cls:=.type "set",dict:=none,data:=.set #[] 0 (.fresh 0 0 (!rX w)) } }) :
 codeAny (model prog w) A (.call (.builtin "set.__new__") ⟨[.type "set",a],[]⟩) (wants Q₁ E) s:=by
 refine codeAny_of_tree ?_
 show wpAny _ A.in1 (do checkBuiltinCall "set.__new__" ⟨[.type "set",a],[]⟩;again (.builtin "set.__new__" ⟨[.type "set",a],[]⟩)) _ _ s
 refine wpAny_bind (wpAny_of_eq (PySem.F.newCall_set_1 a) (wpAny_pure ⟨plainId_quiet PySem.F.plain_set_new _,codeAny_builtin PySem.F.entry_set_new ?_⟩))
 rw [Around.under_plainId PySem.F.plain_set_new _]
 unfold Builtin.«set.__new__» Builtin.Frozenset.newClass
 have hsub:=sub_set_self
 obtain ⟨hp,g,d,tk,os⟩:=s
 dsimp only
 wp_walk
 refine wpAny_askSetting (wpAny_pure ?_)
 dsimp only
 simp only [newObj]
 refine wpAny_bind (wpAny_alloc (wpAny_pure ?_))
 exact wpAny_pure h
end
section
variable {prog:Program} {w:World} {A:Around} {R:Result->Shared->Prop} {I:Addr} {fp wr:List Addr} {G:Array GenState->Array GenState->Prop} {n:Nat} {P:Nat->Value->Prop} {St:Nat->Shared->Prop}
theorem wB (W:WalksS prog w A.in1 I fp wr G n P St) (S:Addr) (hSf:S∉fp) (val:Nat->Int) (hval:∀ i v,P i v->∃ t,v=.int (val i) t) (hb:n+1<scanBound) :
 ∀ (k i:Nat) (s:Shared),n-i=k->i<=n->St i s->gx prog w s.heap S (fun k'=>(firstMet val i).any (· == k')) (firstMet val i).length ->
   (∀ s',Moved (S::wr) G s s'->gx prog w s'.heap S (fun k'=>(firstMet val n).any (· == k')) (firstMet val n).length->R (.ok (.ret .none)) s') ->
   codeAny (model prog w) A (.builtin "set.update.loop" ⟨[.ref S,.ref I],[]⟩) R s:=by
 have hSw:S∉wr:=fun h=>hSf (W.sub _ h)
 have hsub:∀ b∈wr,b∈S::wr:=fun b hb=>ai _ hb
 intro k
 induction k with
 | zero =>
   intro i s hk hi hst hS hR
   have hin:i=n:=by lia
   subst hin
   refine codeAny_builtin F.entry_set_update_loop ?_
   rw [Around.under_plainId F.plain_set_update_loop _]
   show wpAny _ A.in1 (pyNext (.ref I)>>=_) _ _ s
   refine wpAny_bind (W.done s _ _ hst fun s' hm=>?_)
   show wpAny _ A.in1 (ret Value.none) _ _ s'
   exact wpAny_pure (hR s' (hm.mono hsub) (hS.at fun o ho=>hm.heap S _ hSw ho))
 | succ k ih =>
   intro i s hk hi hst hS hR
   have hlt:i<n:=by lia
   refine codeAny_builtin F.entry_set_update_loop ?_
   rw [Around.under_plainId F.plain_set_update_loop _]
   show wpAny _ A.in1 (pyNext (.ref I)>>=_) _ _ s
   refine wpAny_bind (W.item i s _ _ hlt hst fun v s' hP hst' hm=>?_)
   obtain ⟨t,rfl⟩:=hval i v hP
   have hS':=hS.at (h':=s'.heap) fun o ho=>hm.heap S _ hSw ho
   show wpAny _ A.in1 (holding [Value.int (val i) t] (setAdd S (.int (val i) t))>>=_) _ _ s'
   refine wpAny_bind (wpAny_holding ?_)
   unfold setAdd
   refine wpAny_holding ?_
   refine wpAny_bind ((intKind prog w).pyHash (k:=val i) (intKind_is _ _ _ _) ?_)
   have hroom:(firstMet val i).length+1<scanBound:=by have:=firstMet_length_le val i;lia
   refine D4 (s:={ s' with toks:=s'.toks+1 }) (intKind_is _ _ _ _) rfl hS' hroom fun h' hsb hS2=>?_
   have hSi:gx prog w h' S (fun k'=>(firstMet val (i+1)).any (· == k')) (firstMet val (i+1)).length:=hS2.congr (fun k'=>by rw [firstMet_succ,step_any]) (by rw [firstMet_succ,step_length])
   refine wpAny_pure ⟨plainId_quiet F.plain_set_update_loop _,ih (i+1) _ (by lia) hlt (W.frame _ s' _ _ hst' (fF _) fun b hb o e=>?_) hSi fun s'' hm'' hS''=>?_⟩
   ·rw [hsb.2 b (fun h:b=S=>hSf (by rw [<- h];exact hb))];exact e
   ·refine hR s'' (Moved.trans W.gtrans ((hm.mono hsub).then_heap (fF _) fun b o hb e=>?_) hm'') hS''
    rw [hsb.2 b (fun h:b=S=>hb (by rw [h];exact ak))];exact e
end
end Ry
namespace Ry
open PySem PySem.Spec PyProof.Rows L2
abbrev wu (b:Bool):Obj:={ cls:=.type "set",dict:=none,data:=.set #[] 0 (.fresh 0 0 b) }
abbrev xy (ns:List Int):List Int:=firstMet (fun j=>ns.getD j 0) ns.length
section
variable {prog:Program} {w:World} {A:Around} {E:Value->Shared->Prop} {s:Shared}
set_option maxRecDepth 100000 in
set_option maxHeartbeats 3200000 in
theorem rj {q:Addr} {its:Array Value} {ns:List Int} {Q:Value->Shared->Prop} (hh:A.handled=none) (ht:IsTup s.heap q its) (hi:IntsAre its.toList ns) (hb:its.size+1<scanBound)
 (fin:∀ (h':Heap) (tk:Nat),gx prog w h' s.heap.objs.size (fun k=>(xy ns).any (· == k)) (xy ns).length->(∀ b o,b<s.heap.objs.size->s.heap.get? b=some o->h'.get? b=some o)->Q (.ref s.heap.objs.size) { s with heap:=h',toks:=tk }) :
 wpAny (model prog w) A (call (.type "set") [.ref q]) Q E s:=by
 have hns:its.size=ns.length:=by have:=IntsAre.length hi;simpa using this
 obtain ⟨c,tl,hmro⟩:=PySem.F.called_set.mro
 have mk:=PySem.F.called_set.made
 have sub:=PySem.F.called_set.sub
 refine wpAny_call (codeAny_of_tree ?_)
 show wpAny _ _ (callAny (.type "set") _) _ _ _
 refine wpAny_pure ⟨Code.quiet_builtin _ (by decide +kernel),codeAny_builtin PySem.F.entry_type_call ?_⟩
 rw [Around.under_plain (weight_type_call_type "set" [.ref q] []) rfl]
 have n1:=PySem.F.called_set.notType
 have n2:=PySem.F.called_set.canCreate
 have n3:=PySem.F.typeCall_set_1 (.ref q)
 repeat (any_goals (first | assumption | wp_step))
 refine codeAny_mono (zL (.ref q) (E:=E) (Q₁:=fun v s1=>v=.ref s.heap.objs.size/\s1={ s with heap:=s.heap.push (wu (!rX w)) }) ⟨rfl,rfl⟩) fun r s1 hr=>?_
 cases r with
 | error e=>exact hr
 | ok fl =>
   cases fl with
   | ret v =>
     obtain ⟨rfl,rfl⟩:=hr
     generalize hbl:(!rX w)=b
     have oS:(s.heap.push (wu b)).get? s.heap.objs.size=some (wu b):=af _ rfl
     have tS:Shared.TypeIs { s with heap:=s.heap.push (wu b) } (.ref s.heap.objs.size) "set":=⟨_,oS,rfl⟩
     have i1:=PySem.F.called_set.init.lookup
     have i2:=PySem.F.called_set.init.bind (.ref s.heap.objs.size)
     repeat (any_goals (first | assumption | wp_step))
     refine codeAny_mono (codeAny_call_builtin (R:=wants (fun r s2=>r=.none/\∃ h' tk,s2={ s with heap:=h',toks:=tk }/\gx prog w h' s.heap.objs.size (fun k=>(xy ns).any (· == k)) (xy ns).length/\(∀ b o,b<s.heap.objs.size->s.heap.get? b=some o->h'.get? b=some o)) E) PySem.F.called_set.init.plain PySem.F.entry_set_init (check_set_init_1 tS ?_)) fun r2 s2 hr2=>?_
     ·obtain ⟨⟨oc,od,odt,osl⟩,ho,ec,n,ed⟩:=ht
      simp only at ec ed
      subst ec;subst ed
      have ho1:(s.heap.push (wu b)).get? q=some { cls:=.type "tuple",dict:=od,data:=.seq its n,slots:=osl }:=aa _ ho
      have u1:isSubtype (.type "tuple") (.type "set")=pure false:=by rw [isSubtype_type];kernel_rfl
      have u2:isSubtype (.type "tuple") (.type "frozenset")=pure false:=by rw [isSubtype_type];kernel_rfl
      have u3:(Value.type "tuple" == Value.type "dict")=false:=by decide
      have t1:(s.heap.push (wu b)).IsTuple q its:=⟨_,ho1,rfl,n,rfl⟩
      unfold Builtin.«set.__init__» noKeywords Builtin.Frozenset.updateFrom
      generalize hPI:pyIter=PI
      wp_walk
      subst hPI
      refine wpAny_pyIter_tuple t1 ?_
      refine wpAny_bind (wpAny_runValue ?_)
      have lq:q<s.heap.objs.size:=au ho
      have h3:A.in1.in1.in1.handled=none:=by simp [hh]
      have z1:(s.heap.push (wu b)).objs.size=s.heap.objs.size+1:=bV ..
      have ne:q≠(s.heap.push (wu b)).objs.size:=by rw [z1];exact aH (cx lq)
      have nf:s.heap.objs.size∉[(s.heap.push (wu b)).objs.size,q]:=by
       rw [z1]
       simp only [ag,eh,or_false,not_or]
       exact ⟨aH (cY _),mC lq⟩
      refine wB ((Walks.tuple h3 _ q ne its).toS) s.heap.objs.size nf (fun j=>ns.getD j 0) (fun i v hv=>IntsAre.int_at hi i v (by rw [aR];exact hv)) hb (its.size-0) 0 _ (by lia) (aT _) ⟨⟨_,af _ rfl,rfl,rfl⟩,t1.push _⟩ ?s0 ?sR
      case s0=>exact ⟨_,#[],0,_,aa _ oS,⟨rfl,rfl,rfl⟩,rfl,fun e he=>(nomatch he),fun k=>⟨fun z=>Ce (show false=true from z),fun z=>z.elim fun e he=>nomatch he.1⟩,by decide,rfl,rfl,⟨hbl.symm,fun i j a b _ h=>(by cases h)⟩⟩
      case sR =>
       intro s' hm hS'
       obtain ⟨h',g',d',tk',os'⟩:=s'
       have eg:g'=s.gens:=hm.gens
       have ed:d'=s.drawn:=hm.drawn
       have eo:os'=s.os:=hm.os
       subst eg ed eo
       show wpAny _ _ _ _ _ _
       refine wpAny_pure ?_
       show wpAny _ _ (ret Value.none) _ _ _
       rw [hns] at hS'
       refine wpAny_pure ⟨rfl,h',tk',rfl,hS',fun x o hx e=>hm.heap x o ?_ (aa _ (aa _ e))⟩
       rw [z1]
       simp only [ag,eh,or_false,not_or]
       exact ⟨aH hx,aH (cx hx)⟩
     ·cases r2 with
      | error e=>exact hr2
      | ok fl2 =>
        cases fl2 with
        | ret r =>
          obtain ⟨rfl,h',tk,rfl,a1,a2⟩:=hr2
          repeat (any_goals (first | assumption | wp_step))
          exact fin _ _ a1 a2
        | _=>exact hr2.elim
   | _=>exact hr.elim
end
end Ry
namespace Ry
open PySem PySem.Spec PyProof.Rows L2
theorem tO (ns:List Int):xy ns=ns.foldl step_dedup []:=by
 unfold xy firstMet
 congr 1
 apply dL
 intro i
 rw [av]
 by_cases h:i<ns.length
 ·rw [jK h,ae h]
  simp [h]
 ·rw [bG (show (bi ns.length).length<=i by rw [bS];lia),bG (show ns.length<=i by lia)]
  rfl
theorem gN:∀ (ns acc:List Int),acc.Nodup->(ns.foldl step_dedup acc).Nodup/\∀ x,x∈ns.foldl step_dedup acc↔x∈acc\/x∈ns
 | [],acc,h=>⟨h,fun x=>by simp⟩
 | a::ns,acc,h=>by
   show (ns.foldl step_dedup (step_dedup acc a)).Nodup/\∀ x,x∈ns.foldl step_dedup (step_dedup acc a)↔_
   by_cases m:a∈acc
   ·have e:step_dedup acc a=acc:=by
     unfold step_dedup
     rw [if_pos (fN.mpr ⟨a,m,by simp⟩)]
    rw [e]
    obtain ⟨h1,h2⟩:=gN ns acc h
    refine ⟨h1,fun x=>?_⟩
    rw [h2,ag]
    constructor
    ·rintro (z | z)
     ·exact .inl z
     ·exact .inr (.inr z)
    ·rintro (z | rfl | z)
     ·exact .inl z
     ·exact .inl m
     ·exact .inr z
   ·have e:step_dedup acc a=acc++[a]:=by
     unfold step_dedup
     rw [if_neg fun z=>by
      obtain ⟨y,hy,e⟩:=fN.mp z
      exact m (by simpa using (eq_of_beq e)▸hy)]
    rw [e]
    obtain ⟨h1,h2⟩:=gN ns (acc++[a]) (bJ.mpr ⟨h,by simp,fun x hx y hy=>by
     rw [am] at hy
     rintro rfl
     exact m (hy▸hx)⟩)
    refine ⟨h1,fun x=>?_⟩
    rw [h2,aG,am,ag]
    constructor
    ·rintro ((z | z) | z)
     ·exact .inl z
     ·exact .inr (.inl z)
     ·exact .inr (.inr z)
    ·rintro (z | z | z)
     ·exact .inl (.inl z)
     ·exact .inl (.inr z)
     ·exact .inr z
theorem eM:∀ ns:List Int,(cN ns).Nodup/\∀ x,x∈cN ns↔x∈ns
 | []=>⟨jF,fun x=>Iff.rfl⟩
 | a::ns=>by
   obtain ⟨h1,h2⟩:=eM ns
   show (if a∈ns then cN ns else a::cN ns).Nodup/\∀ x,x∈(if a∈ns then cN ns else a::cN ns)↔_
   by_cases m:a∈ns
   ·rw [if_pos m]
    refine ⟨h1,fun x=>?_⟩
    rw [h2,ag]
    exact ⟨.inr,fun z=>z.elim (fun e=>e▸m) id⟩
   ·rw [if_neg m]
    refine ⟨be.mpr ⟨fun z=>m ((h2 a).mp z),h1⟩,fun x=>?_⟩
    rw [ag,ag,h2]
theorem p0 (ns:List Int):(xy ns).length=(cN ns).length:=by
 obtain ⟨a1,a2⟩:=gN ns [] jF
 obtain ⟨b1,b2⟩:=eM ns
 rw [tO]
 refine pS (Ms.length_le_of_subset a1 fun x hx=>(b2 x).mpr ?_) (Ms.length_le_of_subset b1 fun x hx=>(a2 x).mpr (.inr ((b2 x).mp hx)))
 exact ((a2 x).mp hx).elim (fun z=>by simp at z) id
section
variable {X:Cx} {e:Expr} {p p2 pos pos2:Pos} {te:TE}
end
end Ry
namespace Ry
open PySem PySem.Spec PyProof.Rows L2
theorem x9 {X:Cx} {pins:List (Addr×Obj)} {σ:St} {H:Hp} {s:Shared} {h':Heap} {t':Nat} {u v:Addr} (I:Inv X pins σ H s) (k:∀ b o,b≠u->b≠v->s.heap.get? b=some o->h'.get? b=some o) (fu:oG X pins H u) (fv:oG X pins H v):Inv X pins σ H { s with heap:=h',toks:=t' }:=by
 have nin:∀ b,b∉[u,v]->b≠u/\b≠v:=fun b hb=>by simpa using hb
 have kk:∀ b o,b∉[u,v]->s.heap.get? b=some o->h'.get? b=some o:=fun b o hb e=>k b o (nin b hb).1 (nin b hb).2 e
 have non:∀ b w,H b=some w->b∉[u,v]:=fun b w e z=>by
  rcases ag.mp z with q | q
  ·rw [q,fu.1] at e;cases e
  ·rw [am] at q;rw [q,fv.1] at e;cases e
 refine I.step (g':=s.gens) (d':=s.drawn) (ch:=[u,v]) (fun b hb=>?_) (fun b o _ _ hc e _=>kk b o hc e) (fun b o _ _ hc e _=>⟨o.slots,kk b o hc e⟩) (fun _ _ _ _ n=>n)
  (fun b o hc e=>⟨o,kk b o hc e⟩) (fun _ _ e=>e) (fun _ _ _ e=>e) (fun b ps e=>⟨#[],by rw [e];simp⟩) (fun m hm=>?_) (fun b w e=>?_) I.bare
 ·rcases ag.mp hb with q | q
  ·subst q;exact ⟨fu.2.2.2.1,fu.2.1,fu.2.2.2.2.1,fu.2.2.2.2.2⟩
  ·rw [am] at q;subst q;exact ⟨fv.2.2.2.1,fv.2.1,fv.2.2.2.2.1,fv.2.2.2.2.2⟩
 ·obtain ⟨o,es,ep,ho,r⟩:=hm
  exact ⟨o,es,ep,k _ o (Ne.symm fu.2.1) (Ne.symm fv.2.1) ho,r⟩
 ·refine (I.hok b w e).stay (fun c x hc q=>kk c x ?_ q) (fun _ q=>q) (fun _ _ q=>q) fun _ _ q=>q
  rcases hc with z | z
  ·rw [z];exact non b w e
  ·exact non c _ z
theorem mH:∀ {ds:List Da} {k:Int} {i:Nat} {d:Da},(jC k ds)[i]?=some d->∃ c,ds[i]?=some c/\d=.tup [.int (k+i),c]
 | [],k,i,d,h=>by simp [jC] at h
 | c::ds,k,0,d,h=>by
   simp only [jC,bh,Option.some.injEq] at h
   exact ⟨c,rfl,by rw [<- h];simp⟩
 | c::ds,k,i+1,d,h=>by
   simp only [jC,bz] at h
   obtain ⟨c',h1,h2⟩:=mH h
   exact ⟨c',h1,by rw [h2,show k+1+(i:Int)=k+((i+1:Nat):Int) by lia]⟩
theorem nM:∀ (ds:List Da) (k:Int),(jC k ds).length=ds.length
 | [],_=>rfl
 | _::ds,k=>by show (jC (k+1) ds).length+1=_;rw [nM ds];rfl
section
variable {X:Cx} {e:Expr} {elts:List Expr} {x1:Nat} {p pos pt:Pos} {te:TE} {f:Rho->Option Rv}
end
end Ry
namespace Ry
open PySem PySem.Spec PyProof.Rows L2
section
variable {X:Cx} {a b e:Expr} {es:List Expr} {p pos:Pos} {fa fb:Rho->Option Rv} {g:Rho->Option (List Rv)}
def xW:List Rv->Option Rv
 | [(_,.dK ks _)]=>some (.pu,.int ks.length)
 | _=>none
def m9:List Rv->Option Rv:=fun rs=>(nU rs).or (xW rs)
theorem t4:i7 X (.builtin "len") (fun xs H Q=>∃ a kvs,xs=[V.ref a]/\Rd H a (.dK kvs)/\Q (.int kvs.length) H):=by
 intro pins s σ H xs us Q I r h
 obtain ⟨a,kvs,rfl,ha,q⟩:=h
 obtain ⟨u,rfl,ru⟩:=kD r
 cases ru
 exact CM I ha fun t s' I'=>⟨.int kvs.length,H,I',⟨t,rfl⟩,q⟩
theorem wJ {K:PySem.W.Frag}:Cal K (fun xs H Q=>∃ a kvs,xs=[V.ref a]/\Rd H a (.dK kvs)/\Q (.int kvs.length) H) xW:=by
 intro B H0 G H rs c xs Q sg ra e k
 unfold xW at e
 split at e
 ·cases e
  obtain ⟨v,rfl,h⟩:=du.one ra
  obtain ⟨p,kvs,rfl,q,ek,d⟩:=h.dK sg
  refine ⟨p,kvs,rfl,q,?_⟩
  have:kvs.length=(kvs.map (·.1)).length:=(ab _).symm
  rw [this,ek]
  exact k _ G H (Ext.refl sg) rfl
 ·cases e
theorem ym (hg:Gl X "len") (hm:X.mg "len" = none) (ha:PXA X (e::es) g) (he:starEach (e::es) X.env=(false,eval e X.env)::starEach es X.env:=by exact aX rfl) (hpl:(backTo pos (starEach es X.env)).any (·.1)=false:=by rfl):PX X (.Call (.Name "len" p) (e::es) [] pos) (xB m9 g):=by
 intro pins s σ H Q I q
 obtain ⟨B,G,ρ,c,sg,sb,st,eq,k⟩:=q
 unfold xB at eq
 split at eq
 ·cases eq
 ·rename_i rs er
  unfold m9 at eq
  cases z:nU rs with
  | some z' =>
    rw [z] at eq
    cases eq
    exact xg hg hm ha he hpl pins s σ H Q I ⟨B,G,ρ,_,sg,sb,st,by unfold xB;rw [er];exact z,k⟩
  | none =>
    rw [z] at eq
    have:=Co (X:=X) (p:=p) (pos:=pos) t4 wJ hg hm (by decide +kernel) ha (by decide) (by decide) he hpl
    exact this pins s σ H Q I ⟨B,G,ρ,c,sg,sb,st,by unfold xB;rw [er];exact eq,k⟩
theorem fI:∀ {ns:List Int} {us:List Value},cq (ns.map V.int) us->IntsAre us ns
 | [],us,r=>by rw [gs] at r;cases r;exact .nil
 | n::ns,us,r=>by
   rw [ax] at r
   cases r with
   | cons h t =>
     obtain ⟨tk,rfl⟩:=h
     exact .cons n tk (fI t)
end
section
variable {X:Cx} {elt tg iter:Expr} {ifs:List Expr} {scope:Scope} {pos spos pos':Pos} {ix:List (Option Nat)} {wi:TI} {gt:TG} {tt:TT} {te:TE}
theorem uz {i:Nat} {x:Str} (hN:X.N.Nodup) (hi:X.N[i]?=some x) (hx:X.env.scope.names.lookup x=some .local) (hc:X.calm=true) (S:CScope X scope ix) (hit:PI X tg iter wi) (B:zl X scope tg elt ifs gt tt te) (hs:∀ x,foldedSetIterable iter X.env x=pure x)
 (hsw:swapsWith (.ListComp elt [⟨tg,iter,ifs,0⟩] scope pos) (some (.Name x pos')) spos.line X.env=pure true) :
 PS X (.Assign [.Name x pos'] (.ListComp elt [⟨tg,iter,ifs,0⟩] scope pos) spos) (BE (rA (mpS ix) wi gt tt te) (iW i)):=by
 intro pins s σ H D I h
 rw [exec_Assign_Name_used _ _ _ _ hsw]
 refine wpAny_bind (wpAny_standAt (wpAny_bind ?_))
 show wpAny _ _ (evalThenUse (.ListComp elt [⟨tg,iter,ifs,0⟩] scope pos) X.env (assign (.Name x pos') X.env)) _ _ s
 unfold evalThenUse
 refine wpAny_bind (wpAny_mono (Q:=fun _ s'=>∃ σ' H',Inv X pins σ' H' s'/\D.nx σ' H') (wpAny_comprehension_free (use:=some (assign (.Name x pos') X.env)) rfl hs (gW (S.cells I)) S.kind (fun y hy hl=>S.names (by rw [<- hl];exact hy)) ?_) (fun _ s' hq=>wpAny_pure (wpAny_pure hq)) fun _ _ z=>z)
 refine thn (hit pins s σ H _ I h) fun v s1 h1=>thn h1 fun itv s2 h2=>?_
 obtain ⟨it,fp,tn,J,H2,rfl,I2,T,st2,f2,hq⟩:=h2
 obtain ⟨W,⟨m0,w0⟩,turn⟩:=hq s2.heap.objs.size I2.fresh
 refine wpAny_newObj_type ?_
 have I3:Inv X pins σ (upd H2 s2.heap.objs.size (.lst [])) { s2 with heap:=s2.heap.push { cls:=.type "list",data:=.seq ([]:List Value).toArray } }:=I2.lnew (its:=[]) (t':=s2.toks) .nil (aT _)
 have lt2:∀ b∈fp,b<s2.heap.objs.size:=fun b hb=>by obtain ⟨o,e,_⟩:=T.obj _ _ st2 b hb;exact au e
 have f3:∀ b∈fp,oG X pins (upd H2 s2.heap.objs.size (.lst [])) b:=fun b hb=>⟨by rw [aK (aH (lt2 b hb))];exact (f2 b hb).1,(f2 b hb).2⟩
 refine kY S I3 (fp:=fp) (fun b hb=>⟨f3 b hb,?_⟩) fun env h4 ee el I4 keep4=>?_
 ·show b<(s2.heap.push _).objs.size
  rw [bV]
  exact cx (lt2 b hb)
 rw [ee,el]
 have st4:tn 0 h4:=T.keep _ _ _ st2 fun b hb o e=>keep4 b o (aa _ e)
 have fin:∀ σ1 H1 s1,Inv (inC X scope { s2 with heap:=s2.heap.push { cls:=.type "list",data:=.seq ([]:List Value).toArray } } (upd H2 s2.heap.objs.size (.lst [])) fp) [] σ1 H1 s1->iW i (.ref s2.heap.objs.size) σ H1 D.nx ->
  compPost (model X.prog X.w) X.A X.xe (some (assign (.Name x pos') X.env)) (fun _ s'=>∃ σ' H',Inv X pins σ' H' s'/\D.nx σ' H') (.ref s2.heap.objs.size) ((s2.heap.push { cls:=.type "list",data:=.seq ([]:List Value).toArray }).objs.size) (.ok .next) s1:=fun σ1 H1 s1 I1 q1=>by
  obtain ⟨m,hn,_⟩:=I1.loc
  have J1:=nD I3 f3 I1
  show wpAny _ _ (assign (.Name x pos') X.env (.ref s2.heap.objs.size)) _ _ s1
  have ea:assign (.Name x pos') X.env (.ref s2.heap.objs.size)=(do standAt pos';bindName X.env x (.ref s2.heap.objs.size)):=rfl
  rw [ea]
  refine wpAny_bind (wpAny_standAt ?_)
  unfold bindName
  refine wpAny_bind (wpAny_holding (wpAny_point ?_))
  refine wpAny_bind (nQ (i:=i) (v:=V.ref s2.heap.objs.size) J1 hN hi (.inl hx) rfl (fun s5 I5 ⟨ad,sb5,ha5⟩=>wpAny_point ?_) (.inr hx))
  have hC:ad≠(s2.heap.push { cls:=.type "list",data:=.seq ([]:List Value).toArray }).objs.size:=fun z=>by
   have hlt:=I3.lt
   rcases ha5 with e | e
   ·rw [<- z,e] at hlt;exact absurd hlt (br _)
   ·obtain ⟨w,hw⟩:=I3.cell _ _ e
    have:=hw.lt
    rw [z] at this
    exact absurd this (br _)
  exact ⟨m,hn.sameBut sb5 (Ne.symm hC),fun h' hs'=>⟨_,H1,ny I3 f3 I1 I5 hs',q1⟩⟩
 have loop:=nG (iter:=iter) (pos:=pos) (Q:=fun v H1=>iW i v σ H1 D.nx) (R:=compPost (model X.prog X.w) X.A X.xe (some (assign (.Name x pos') X.env)) (fun _ s'=>∃ σ' H',Inv X pins σ' H' s'/\D.nx σ' H') (.ref s2.heap.objs.size) ((s2.heap.push { cls:=.type "list",data:=.seq ([]:List Value).toArray }).objs.size)) hc I3 f3 T B W turn fin m0 (mpS ix σ) I4 st4 w0
 exact codeAny_compStart_list loop (T.self X.A 0 _ _ _ st4 loop)
end
end Ry
namespace Ry
open PySem PySem.Spec PyProof.Rows L2
section
variable {X:Cx} {elt tg iter:Expr} {ifs:List Expr} {scope:Scope} {pos spos pos':Pos} {ix:List (Option Nat)} {fi:Rho->Option (List Da)} {t:Da->Rho->Option Rho} {c:Rho->Option Bool} {f:Rho->Option Rv}
end
section
variable {X:Cx} {pins:List (Addr×Obj)} {σ:St} {H:Hp} {s:Shared} {l:Addr} {o:HO} {ob:Obj}
theorem D6 (I:Inv X pins σ H s) (e:H l=some (.frz ob o)) (n1:∀ ob u,X.H₀ l≠some (.frz ob u)):Inv X pins σ (upd H l o) s:=by
 have nn:∀ {b:Addr},H b=none->b≠l:=fun n z=>by rw [z,e] at n;cases n
 have ne:∀ {b:Addr} {w:HO},H b=some w->(∀ ob u,w≠.frz ob u)->b≠l:=fun q n z=>by rw [z,e] at q;exact n _ _ (Option.some.inj q).symm
 refine ⟨I.ok,I.os,I.bare,⟨I.base.keep,I.base.slot,fun b w q n hx=>?_,I.base.there,fun b xs q=>?_,fun b w u q=>?_,fun b ps q=>?_⟩,I.loc,I.cell,?_,fun x c q=>?_,fun p hp=>?_,fun b v q=>?_,I.len⟩
 ·have z:=I.base.free b w q n hx
  rw [aK (nn z)];exact z
 ·have z:=I.base.tups b xs q
  rw [aK (ne z (fun _ _ y=>by cases y))];exact z
 ·have z:=I.base.frzs b w u q
  rw [aK (fun y=>n1 w u (by rw [<- y];exact q))];exact z
 ·obtain ⟨m,z⟩:=I.base.tbls b ps q
  exact ⟨m,by rw [aK (ne z (fun _ _ y=>by cases y))];exact z⟩
 ·rw [aK (nn I.free)];exact I.free
 ·rw [aK (nn (I.freeC x c q))];exact I.freeC x c q
 ·obtain ⟨a,b,c⟩:=I.pin p hp
  exact ⟨a,by rw [aK (nn b)];exact b,c⟩
 ·have hown:∀ c y,H c=some (.own y)->upd H l o c=some (.own y):=fun c y z=>by rw [aK (ne z (fun _ _ y=>by cases y))];exact z
  have htup:∀ c xs,H c=some (.tup xs)->upd H l o c=some (.tup xs):=fun c xs z=>by rw [aK (ne z (fun _ _ y=>by cases y))];exact z
  have hcod:∀ c x,H c=some (.cod x)->upd H l o c=some (.cod x):=fun c x z=>by rw [aK (ne z (fun _ _ y=>by cases y))];exact z
  by_cases hb:b=l
  ·subst hb
   rw [aL] at q
   cases q
   obtain ⟨_,ok⟩:=I.hok b _ e
   exact dZ.stay ok (fun _ _ _ z=>z) (fun c z=>hown c _ z) htup hcod
  ·rw [aK hb] at q
   exact (I.hok b v q).stay (fun _ _ _ z=>z) (fun c z=>hown c _ z) htup hcod
end
def rO:Da->Bool
 | .non=>true
 | .bl _=>true
 | .int _=>true
 | .str _=>true
 | _=>false
theorem y9 {K:PySem.W.Frag} {B H0 G H:Hp} {k:Kd} {d:Da} {v:V} (h:eu K B H0 G H (k,d) v) (f:rO d=true):∀ {B' H0' G' H':Hp},eu K B' H0' G' H' (.pu,d) v:=by
 intro B' H0' G' H'
 cases d with
 | non=>exact h.non
 | bl b=>exact h.bl
 | int i=>exact h.int
 | str x=>exact h.str
 | _=>cases f
theorem mW {K:PySem.W.Frag} {G G':Hp}:∀ {ds:List Da} {xs:List V},ds.all rO=true->bP K G ds xs->bP K G' ds xs
 | [],_,_,h=>h
 | d::ds,xs,f,h=>by
   rw [List.all_cons,aP] at f
   obtain ⟨v,r,rfl,hv,hr⟩:=h
   refine ⟨v,r,rfl,?_,mW f.2 hr⟩
   have f1:=f.1
   cases d with
   | non=>exact hv
   | bl b=>exact hv
   | int i=>exact hv
   | str x=>exact hv
   | _=>cases f1
def wy (r:Rv):Option Rv:=if rO r.2=true then some (.pu,r.2) else match r with
 | (.fr,.lst ds)=>if ds.all rO=true then some (.fr,.lst ds) else none
 | _=>none
theorem xt {K:PySem.W.Frag} {B H0 G H B' H0' G' H':Hp} {r r':Rv} {v:V} {l:Addr} (h:eu K B H0 G H r v) (e:wy r=some r') (h0:∀ b,H0 b=none->b≠l/\H0' b=none) (hg:∀ b,G b=none->G' b=none) (hh:∀ b w,b≠l->H b=some w->H' b=some w):eu K B' H0' G' H' r' v:=by
 unfold wy at e
 split at e
 ·rename_i hf
  cases e
  exact y9 (k:=r.1) h hf
 ·split at e
  ·rename_i ds _
   split at e
   ·rename_i hi
    cases e
    obtain ⟨a,o,rfl,n0,g,q,xs,rfl,dl⟩:=h
    obtain ⟨ne,n0'⟩:=h0 a n0
    exact ⟨a,_,rfl,n0',hg a g,hh a _ ne q,xs,rfl,mW hi dl⟩
   ·cases e
  ·cases e
def fE (i:Nat) (f:Rho->Option Rv):Rho->Option Rv:=fun ρ=>match ρ[i]? with
 | some (.ow d)=>if jB d=true then (match f (ρ.set i (.pu d)) with
   | some r=>wy r
   | none=>none) else none
 | _=>none
theorem nC {X:Cx} {pins:List (Addr×Obj)} {s:Shared} {σ:St} {B G H:Hp} {ρ:Rho} {i:Nat} {d:Da} (I:Inv X pins σ H s) (sg:bQ G H) (sb:bQ B H) (st:fm X.K B G H σ ρ) (ed:ρ[i]?=some (.ow d)) (hd:jB d=true) :
 ∃ G1 H1,Inv X pins σ H1 s/\bQ G1 H1/\bQ B H1/\fm X.K B G1 H1 σ (ρ.set i (.pu d))/\∀ (σ2:St) (s2:Shared) (G2 H2:Hp) (r r':Rv) (v:V),Inv X pins σ2 H2 s2->Ext G1 H1 G2 H2->eu X.K B H1 G2 H2 r v->wy r=some r'->∃ G3 H3,Inv X pins σ2 H3 s2/\Ext G H G3 H3/\eu X.K B H G3 H3 r' v:=by
 obtain ⟨l,o,es,nb,ng,hl,ho⟩:=st.ow i d ed
 have hi:i<ρ.length:=(al.mp ed).1
 have hdc:=(ho.dct hd).1
 obtain ⟨ob,I1⟩:=wL I hl hdc
 have n1:∀ ob u,X.H₀ l≠some (.frz ob u):=fun ob u z=>by
  have:=I.base.frzs l ob u z
  rw [hl] at this
  rcases hdc with ⟨_,y⟩ | ⟨_,y⟩<;>(subst y;cases this)
 have sG:bQ G (upd G l (.frz ob o)):=bB ng
 have st1:fm X.K B (upd G l (.frz ob o)) (upd H l (.frz ob o)) σ (ρ.set i (.pu d)):=by
  refine ⟨by rw [bq];exact st.len,fun j d1 q=>?_,fun j d1 q=>?_,fun j j' d1 d2 l' hjj q1 q2 s1 s2=>?_,st.tg.mono sG⟩
  ·by_cases ej:i=j
   ·subst ej
    rw [aA hi] at q
    cases q
    exact ⟨_,es,((ho.mono sG).dct hd).2 l ob aL⟩
   ·rw [aE ej] at q
    obtain ⟨v,a,b⟩:=st.pu j d1 q
    exact ⟨v,a,Den.mono sG d1 b⟩
  ·by_cases ej:i=j
   ·subst ej;rw [aA hi] at q;cases q
   ·rw [aE ej] at q
    obtain ⟨l0,o0,a,b,c',f0,g0⟩:=st.ow j d1 q
    have ne:l0≠l:=fun z=>by subst z;exact st.ap i j d d1 l0 ej ed q es a
    exact ⟨l0,o0,a,b,by rw [aK ne];exact c',by rw [aK ne];exact f0,g0.mono sG⟩
  ·have back:∀ (m:Nat) (d0:Da),(ρ.set i (.pu d))[m]?=some (Sl.ow d0)->ρ[m]?=some (Sl.ow d0):=fun m d0 q=>by
    by_cases em:i=m
    ·subst em;rw [aA hi] at q;cases q
    ·rw [aE em] at q;exact q
   exact st.ap j j' d1 d2 l' hjj (back _ _ q1) (back _ _ q2) s1 s2
 refine ⟨_,_,I1,gF sg,iF sb nb,st1,fun σ2 s2 G2 H2 r r' v I2 E2 r2 eq=>?_⟩
 have hl2:H2 l=some (.frz ob o):=E2.hh _ _ aL
 refine ⟨fun b=>if b=l then none else G2 b,_,D6 I2 hl2 n1,⟨fun b w z=>?_,fun b w z=>?_,fun b w z=>?_,fun b w z t y=>?_⟩,xt (l:=l) r2 eq (fun b z=>?_) (fun b z=>?_) fun b w hb z=>?_⟩
 ·by_cases hb:b=l
  ·subst hb;rw [aL,<- z];exact hl.symm
  ·rw [aK hb];exact E2.hh b w (by rw [aK hb];exact z)
 ·have hb:b≠l:=bu z ng
  show (if b=l then none else G2 b)=some w
  rw [if_neg hb]
  exact E2.gg b w (by rw [aK hb];exact z)
 ·have z:(if b=l then none else G2 b)=some w:=z
  by_cases hb:b=l
  ·rw [if_pos hb] at z;cases z
  ·rw [if_neg hb] at z
   rw [aK hb]
   exact E2.gh b w z
 ·show (if b=l then none else G2 b)=none
  by_cases hb:b=l
  ·rw [if_pos hb]
  ·rw [if_neg hb]
   exact E2.nw b w (by rw [aK hb];exact z) t (by rw [aK hb];exact y)
 ·have hb:b≠l:=fun y=>by subst y;rw [aL] at z;cases z
  rw [aK hb] at z
  exact ⟨hb,z⟩
 ·show (if b=l then none else G2 b)=none
  split
  ·rfl
  ·exact z
 ·rw [aK hb]
  exact z
theorem v7 (i:Nat) {X:Cx} {e:Expr} {f:Rho->Option Rv} (h:PX X e f):PX X e (fE i f):=by
 intro pins s σ H Q I ⟨B,G,ρ,r,sg,sb,st,eq,k⟩
 unfold fE at eq
 split at eq
 ·rename_i d ed
  split at eq
  case isFalse=>cases eq
  case isTrue hd =>
  split at eq
  ·rename_i rr efr
   obtain ⟨G1,H1,I1,sg1,sb1,st1,back⟩:=nC I sg sb st ed hd
   refine thn (h pins s σ _ (fun v H2=>∃ G2,Ext G1 H1 G2 H2/\eu X.K B H1 G2 H2 rr v) I1 ⟨B,_,_,_,sg1,sb1,st1,efr,fun v G2 H2 E2 r2=>⟨G2,E2,r2⟩⟩) fun u s' ⟨v,H2,I2,ru,G2,E2,r2⟩=>?_
   obtain ⟨G3,H3,I3,E3,r3⟩:=back σ s' G2 H2 rr r v I2 E2 r2 eq
   exact ⟨v,H3,I3,ru,k v G3 H3 E3 r3⟩
  ·cases eq
 ·cases eq
section
variable {X:Cx} {elt tg iter:Expr} {ifs:List Expr} {scope:Scope} {pos spos pos':Pos} {ix:List (Option Nat)} {fi:Rho->Option (List Da)} {t:Da->Rho->Option Rho} {c:Rho->Option Bool} {f:Rho->Option Rv}
theorem uX (j:Nat) {i:Nat} {x:Str} (hN:X.N.Nodup) (hc:X.calm=true) (S:CScope X scope ix) (hi:PXI X tg iter fi) (B:wD X scope tg elt ifs t c f) (hj:X.N[i]?=some x:=by rfl) (hx:X.env.scope.names.lookup x=some .local:=by rfl)
 (hs:∀ x,foldedSetIterable iter X.env x=pure x:=by intro _;rfl) (hsw:swapsWith (.ListComp elt [⟨tg,iter,ifs,0⟩] scope pos) (some (.Name x pos')) spos.line X.env=pure true:=by rfl) :
 PXS X (.Assign [.Name x pos'] (.ListComp elt [⟨tg,iter,ifs,0⟩] scope pos) spos) (kg i (fE j (d8 ix fi t c f))):=by
 intro pins s σ H D I ⟨B0,G0,G,ρ,E,st,k⟩
 unfold kg at k
 cases q:fE j (d8 ix fi t c f) ρ with
 | none=>rw [q] at k;exact k.elim
 | some r =>
   rw [q] at k
   dsimp only at k
   split at k
   ·rename_i hk
    unfold fE at q
    split at q
    ·rename_i d ed
     split at q
     case isFalse=>cases q
     case isTrue hd =>
     split at q
     ·rename_i rr efr
      obtain ⟨G1,H1,I1,sg1,sb1,st1,back⟩:=nC I E.gh E.hh st ed hd
      refine wpAny_mono (uz hN hj hx hc S hi ⟨B.tg,B.ifs,B.elt⟩ hs hsw pins s σ H1 { nx:=fun σ2 H2=>∃ G2 v,σ2=σ.set i (some v)/\Ext G1 H1 G2 H2/\eu X.K B0 H1 G2 H2 rr v,rt:=fun _ _=>False } I1 (oT S ⟨B0,G1,_,rr,sg1,sb1,st1,efr,fun v G2 H2 E2 r2=>⟨G2,v,rfl,E2,r2⟩⟩)) (fun fl s' h=>?_) fun _ _ z=>z
      cases fl with
      | next =>
        obtain ⟨σ2,H2,I2,G2,v,rfl,E2,r2⟩:=h
        obtain ⟨G3,H3,I3,E3,r3⟩:=back _ s' G2 H2 rr r v I2 E2 r2 q
        obtain ⟨G4,E4,_,d4⟩:=r3.pure E3 hk
        exact ⟨_,H3,I3,k _ G4 H3 (E.trans E4) E4.gg ((st.ext E4).setPu d4)⟩
      | brk=>obtain ⟨_,_,_,z⟩:=h;exact z.elim
      | cont=>obtain ⟨_,_,_,z⟩:=h;exact z.elim
      | ret u=>obtain ⟨_,_,_,_,_,z⟩:=h;exact z.elim
     ·cases q
    ·cases q
   ·exact k.elim
end
section
variable {X:Cx} {a b:Expr} {pos:Pos} {fa fb:Rho->Option Rv}
end
end Ry
namespace Ry
open PySem PySem.Spec PyProof.Rows L2
def gH (i:Nat) (f:Rho->Option Rv):Rho->Option Rv:=fun ρ=>match ρ[i]? with
 | some (.ow (.lst ds))=>(match f (ρ.set i (.pu (.lst ds))) with
   | some r=>wy r
   | none=>none)
 | _=>none
theorem sC (i:Nat) {K:PySem.W.Frag} {f:Rho->Option Rv} {σ:St} {H:Hp} {Q:VK} (h:tX K (gH i f) σ H Q):tX K f σ H Q:=by
 obtain ⟨B,G,ρ,r,sg,sb,st,eq,k⟩:=h
 unfold gH at eq
 split at eq
 ·rename_i ds ed
  split at eq
  ·rename_i rr efr
   obtain ⟨l,o,es,nb,ng,hl,xs,rfl,dl⟩:=st.ow i _ ed
   have hi:i<ρ.length:=(al.mp ed).1
   have sG:bQ G (upd G l (.lst xs)):=bB ng
   have sGH:bQ (upd G l (.lst xs)) H:=fun b w z=>by
    by_cases hb:b=l
    ·subst hb;rw [aL] at z;rw [<- z];exact hl
    ·rw [aK hb] at z;exact sg b w z
   have st1:fm K B (upd G l (.lst xs)) H σ (ρ.set i (.pu (.lst ds))):=by
    refine ⟨by rw [bq];exact st.len,fun j d1 q=>?_,fun j d1 q=>?_,fun j j' d1 d2 l' hjj q1 q2 s1 s2=>?_,st.tg.mono sG⟩
    ·by_cases ej:i=j
     ·subst ej
      rw [aA hi] at q
      cases q
      exact ⟨_,es,l,xs,rfl,SqL.of aL,bP.mono sG _ dl⟩
     ·rw [aE ej] at q
      obtain ⟨v,a,b⟩:=st.pu j d1 q
      exact ⟨v,a,Den.mono sG d1 b⟩
    ·by_cases ej:i=j
     ·subst ej;rw [aA hi] at q;cases q
     ·rw [aE ej] at q
      obtain ⟨l0,o0,a,b,c',f0,g0⟩:=st.ow j d1 q
      have ne:l0≠l:=fun z=>by subst z;exact st.ap i j _ d1 l0 ej ed q es a
      exact ⟨l0,o0,a,b,by rw [aK ne];exact c',f0,g0.mono sG⟩
    ·have back:∀ (m:Nat) (d0:Da),(ρ.set i (.pu (.lst ds)))[m]?=some (Sl.ow d0)->ρ[m]?=some (Sl.ow d0):=fun m d0 q=>by
      by_cases em:i=m
      ·subst em;rw [aA hi] at q;cases q
      ·rw [aE em] at q;exact q
     exact st.ap j j' d1 d2 l' hjj (back _ _ q1) (back _ _ q2) s1 s2
   refine ⟨B,_,_,_,sGH,sb,st1,efr,fun v G2 H2 E2 r2=>?_⟩
   refine k v (fun b=>if b=l then none else G2 b) _ ⟨E2.hh,fun b w z=>?_,fun b w z=>?_,fun b w z t y=>?_⟩ (xt (l:=l) r2 eq (fun b z=>⟨fun y=>?_,z⟩) (fun b z=>?_) fun b w _ z=>z)
   ·have hb:b≠l:=bu z ng
    show (if b=l then none else G2 b)=some w
    rw [if_neg hb]
    exact E2.gg b w (by rw [aK hb];exact z)
   ·have z:(if b=l then none else G2 b)=some w:=z
    by_cases hb:b=l
    ·rw [if_pos hb] at z;cases z
    ·rw [if_neg hb] at z
     exact E2.gh b w z
   ·show (if b=l then none else G2 b)=none
    by_cases hb:b=l
    ·rw [if_pos hb]
    ·rw [if_neg hb]
     exact E2.nw b w z t (by rw [aK hb];exact y)
   ·subst y;rw [hl] at z;cases z
   ·show (if b=l then none else G2 b)=none
    split
    ·rfl
    ·exact z
  ·cases eq
 ·cases eq
section
variable {X:Cx} {elt tg iter:Expr} {ifs:List Expr} {scope:Scope} {pos spos pos':Pos} {ix:List (Option Nat)} {fi:Rho->Option (List Da)} {t:Da->Rho->Option Rho} {c:Rho->Option Bool} {f:Rho->Option Rv}
theorem qY (j:Nat) {i:Nat} {x:Str} (hN:X.N.Nodup) (hc:X.calm=true) (S:CScope X scope ix) (hi:PXI X tg iter fi) (B:wD X scope tg elt ifs t c f) (hj:X.N[i]?=some x:=by rfl) (hx:X.env.scope.names.lookup x=some .local:=by rfl)
 (hs:∀ x,foldedSetIterable iter X.env x=pure x:=by intro _;rfl) (hsw:swapsWith (.ListComp elt [⟨tg,iter,ifs,0⟩] scope pos) (some (.Name x pos')) spos.line X.env=pure true:=by rfl) :
 PXS X (.Assign [.Name x pos'] (.ListComp elt [⟨tg,iter,ifs,0⟩] scope pos) spos) (kg i (gH j (d8 ix fi t c f))) :=
 PS.imp (uz hN hj hx hc S hi ⟨B.tg,B.ifs,B.elt⟩ hs hsw) fun D σ H ⟨B,G0,G,ρ,E,st,k⟩=>by
  unfold kg at k
  cases q:gH j (d8 ix fi t c f) ρ with
  | none=>rw [q] at k;exact k.elim
  | some r =>
    rw [q] at k
    dsimp only at k
    split at k
    ·rename_i hk
     refine oT S (sC j ⟨B,G,ρ,r,E.gh,E.hh,st,q,fun v G1 H1 E1 r1=>?_⟩)
     obtain ⟨G2,E2,_,d2⟩:=r1.pure E1 hk
     exact k _ G2 H1 (E.trans E2) E2.gg ((st.ext E2).setPu d2)
    ·exact k.elim
end
section
variable {X:Cx} {a b e:Expr} {es:List Expr} {p pos:Pos} {fa f:Rho->Option Rv} {g:Rho->Option (List Rv)}
end
section
variable {prog:Program} {w:World} {A:Around} {E:Value->Shared->Prop} {s:Shared}
end
section
variable {X:Cx} {o e:Expr} {fo fe:Rho->Option Rv} {apos cpos pos p:Pos}
end
end Ry
namespace Ry
open PySem PySem.Spec PyProof.Rows L2
section
variable {O:KeyOrd} {key:Nat->O.α} {n:Nat}
def Bf (O:KeyOrd) (key:Nat->O.α) {α:Type}:PySem.W.KasT α->α
 | .ret a=>a
 | .ask i j k=>Bf O key (k (O.blt (key i) (key j)))
theorem cA.det {α:Type} {Q:α->Prop}:∀ {t:PySem.W.KasT α},cA O key n t Q->cA O key n t (fun a=>Q a/\a=Bf O key t)
 | .ret _,q=>⟨q,rfl⟩
 | .ask i j k,q=>⟨q.1,q.2.1,cA.det (t:=k (O.blt (key i) (key j))) q.2.2⟩
theorem cA.run {α:Type} {Q:α->Prop}:∀ {t:PySem.W.KasT α},cA O key n t Q->Q (Bf O key t)
 | .ret _,q=>q
 | .ask i j k,q=>cA.run (t:=k (O.blt (key i) (key j))) q.2.2
def jY (O:KeyOrd) (d:O.α) (ks:List O.α):List Nat:=if ks.length<2 then bi ks.length else (Bf O (fun i=>ks.getD i d) (PySem.W.kas_sort ks.length)).toList
theorem iI (O:KeyOrd) (d:O.α) (ks:List O.α):(jY O d ks).Perm (bi ks.length)/\((jY O d ks).map fun i=>ks.getD i d).Pairwise O.kle:=by
 unfold jY
 split
 ·rename_i h
  refine ⟨.refl _,?_⟩
  match ks,h with
  | [],_=>exact .nil
  | [a],_=>exact aY _ _
  | _::_::_,h=>simp at h;lia
 ·rename_i h
  obtain ⟨hp,hu⟩:=cA.run (O:=O) (key:=fun i=>ks.getD i d) (n:=ks.length) (oX (Q:=fun p=>bW ks.length p/\lh O (fun i=>ks.getD i d) p ks.length) (by lia) fun p hp hu=>⟨hp,hu⟩)
  exact ⟨by simpa using bp.mp hp.perm,ig hp d hu⟩
theorem p6 (O:KeyOrd) (d:O.α) (ks:List O.α):(jY O d ks).length=ks.length:=by rw [(iI O d ks).1.length_eq,bS]
theorem md {O:KeyOrd} {d:O.α} {ks:List O.α} {i:Nat} (h:i∈jY O d ks):i<ks.length:=by simpa using (iI O d ks).1.mem_iff.mp h
end
section
variable {prog:Program} {w:World} {A:Around} {s:Shared}
theorem kw {r:Addr} {j:Int} {t u v:Tok} (hh:A.handled=none) (hr:IsRange s.heap r 0 j 1 t u v) (j1 : -(2 ^ 62)<=j) (j2:j<=1000000) :
 ∀ (E:Value->Shared->Prop) (R:List Value->Shared->Prop),(∀ h' tk acc,(∀ b o,s.heap.get? b=some o->h'.get? b=some o)->ItemsOf (fun i v=>∃ t,v=.int (0+i*1) t) acc j.toNat->R acc.toList { s with heap:=h',toks:=tk })->wpAny (model prog w) A (collect (.ref r)) R E s:=by
 intro E R h
 have hsz:sizeLine=16777216:=sizeLine_eq
 unfold collect
 refine wpAny_bind (wpAny_runValue (codeAny_builtin entry_proto_collect' ?_))
 rw [Around.under_plainId PySem.F.plain_proto_collect _]
 show wpAny _ A.in1 (newList []>>=fun l=>again (.builtin "list.__iadd__" ⟨[l,.ref r],[]⟩)) _ _ s
 refine wpAny_bind (wpAny_newObj_type ?_)
 refine wpAny_pure ⟨plainId_quiet PySem.F.plain_list_iadd _,codeAny_builtin entry_list_iadd' ?_⟩
 rw [Around.under_plainId PySem.F.plain_list_iadd _]
 have hS₁:(s.heap.push { cls:=.type "list",data:=.seq ([]:List Value).toArray }).get? s.heap.objs.size=some { cls:=.type "list",data:=.seq #[] }:=af _ rfl
 show wpAny _ A.in1 (Builtin.List.listExtendWith (.ref s.heap.objs.size) (.ref r) (.ref s.heap.objs.size)) _ _ _
 have key:=wpAny_extend_range (prog:=prog) (w:=w) (A:=A) (s:={ s with heap:=s.heap.push { cls:=.type "list",data:=.seq ([]:List Value).toArray } })
  (R:=fun (q:Result) (s':Shared)=>∃ (h':Heap) (tk:Nat) (acc':Array Value) (c':Nat),q=.ok (.ret (.ref s.heap.objs.size))/\s'={ s with heap:=h',toks:=tk } /\
    (∀ b o,s.heap.get? b=some o->h'.get? b=some o)/\h'.get? s.heap.objs.size=some { cls:=.type "list",dict:=none,data:=.seq acc' c',slots:=#[] }/\ItemsOf (fun i v=>∃ t,v=.int (0+i*1) t) acc' j.toNat)
  (n:=j.toNat) hh (aa _ hr) (small_one (by lia) (by lia) (by lia) (by lia)) (by rw [rangeSize_one];split<;>lia) (by lia) s.heap.objs.size (.ref s.heap.objs.size) 0 hS₁
  (fun h' tk acc' c' hk hS' hacc=>⟨h',tk,acc',c',rfl,rfl,fun b o e=>hk b o (aH (au e)) (aa _ e),hS',hacc⟩)
 refine wpAny_mono key (fun fin s' x=>?_) fun e s' x=>?_
 ·cases fin with
  | done f =>
    obtain ⟨h',tk,acc',c',e,rfl,hk,hS',hacc⟩:=x
    cases e
    show wpAny _ A (load s.heap.objs.size>>=_) _ _ _
    refine wpAny_bind (wpAny_load hS' ?_)
    exact wpAny_pure (h h' tk acc' hk hacc)
  | again c₁ =>
    refine ⟨x.1,codeAny_mono x.2 fun q s₂ y=>?_⟩
    obtain ⟨h',tk,acc',c',rfl,rfl,hk,hS',hacc⟩:=y
    show wpAny _ A (load s.heap.objs.size>>=_) _ _ _
    refine wpAny_bind (wpAny_load hS' ?_)
    exact wpAny_pure (h h' tk acc' hk hacc)
 ·obtain ⟨_,_,_,_,e',_⟩:=x
  cases e'
end
section
variable {X:Cx} {pins:List (Addr×Obj)} {σ:St} {H:Hp} {s:Shared}
theorem _root_.L2.Inv.pinNew {o:Obj} {p:Addr} {h':Heap} {t':Nat} (I:Inv X pins σ H s) (k:∀ b u,s.heap.get? b=some u->h'.get? b=some u) (hp:s.heap.objs.size<=p) (ho:h'.get? p=some o) (hd:∀ v,o.data≠.cell v) :
 Inv X ((p,o)::pins) σ H { s with heap:=h',toks:=t' }:=by
 have I':=I.kept (t':=t') k
 refine I'.pins_of fun q hq=>?_
 rcases ag.mp hq with rfl | hq
 ·refine ⟨ho,I.hok.fresh hp,?_,I.nofs hp,hd⟩
  intro z
  have z:p=X.env.locals:=z
  exact absurd (aM (z▸I.lt) hp) (br _)
 ·exact I'.pin q (aN _ hq)
theorem _root_.L2.Inv.pinSet {o o':Obj} {p:Addr} {h':Heap} {t':Nat} (I:Inv X ((p,o)::pins) σ H s) (k:∀ b u,b≠p->s.heap.get? b=some u->h'.get? b=some u) (ho:h'.get? p=some o') (hd:∀ v,o'.data≠.cell v) (h0:X.s₀.heap.objs.size<=p) (hne:∀ q∈X.pn++pins,q.1≠p) :
 Inv X ((p,o')::pins) σ H { s with heap:=h',toks:=t' }:=by
 obtain ⟨e,n,nl,nf,nc⟩:=I.pin (p,o) (aN _ ak)
 have I1:Inv X pins σ H s:=I.pins_of fun q hq=>I.pin q (aN _ (ai _ hq))
 have I2:=I1.turned (t':=t') k n nl (.inr h0) (fun x c hc z=>by
  obtain ⟨v,oc,hoc,hdc⟩:=I.cell x c hc
  rw [z] at hoc
  dsimp only at e
  rw [e] at hoc
  cases hoc
  exact nc v hdc) hne
 refine I2.pins_of fun q hq=>?_
 rcases ag.mp hq with rfl | hq
 ·exact ⟨ho,n,nl,nf,hd⟩
 ·exact I2.pin q (aN _ hq)
theorem _root_.L2.Inv.adopt {o:Obj} {p:Addr} {u:HO} (I:Inv X ((p,o)::pins) σ H s) (h0:X.s₀.heap.objs.size<=p) (hne:∀ q∈X.pn++pins,q.1≠p) (new:dZ X.prog X.w (upd H p u) s.heap p u):Inv X pins σ (upd H p u) s:=by
 obtain ⟨e,n,nl,nf,nc⟩:=I.pin (p,o) (aN _ ak)
 dsimp only at e n nl nf nc
 have nb:∀ b w,X.s₀.heap.get? b=some w->b≠p:=fun b w q=>aH (aM (au q) h0)
 have cne:∀ x c,X.env.cells.lookup x=some c->c≠p:=fun x c hc z=>by
  obtain ⟨v,oc,hoc,hdc⟩:=I.cell x c hc
  rw [z,e] at hoc
  cases hoc
  exact nc v hdc
 have up:∀ {b:Addr} {w:HO},H b=some w->upd H p u b=some w:=fun {b w} q=>by rw [aK (bu q n)];exact q
 refine ⟨I.ok,I.os,I.bare,⟨I.base.keep,I.base.slot,fun b w q z hx=>?_,I.base.there,fun b xs q=>up (I.base.tups b xs q),fun b w q z=>up (I.base.frzs b w q z),fun b ps q=>?_⟩,I.loc,I.cell,?_,fun x c hc=>?_,fun q hq=>?_,fun b w q=>?_,I.len⟩
 ·rw [aK (nb b w q)];exact I.base.free b w q z hx
 ·obtain ⟨m,z⟩:=I.base.tbls b ps q
  exact ⟨m,up z⟩
 ·rw [aK (Ne.symm nl)];exact I.free
 ·rw [aK (cne x c hc)];exact I.freeC x c hc
 ·obtain ⟨a1,a2,a3⟩:=I.pin q (by
   rcases aG.mp hq with z | z
   ·exact dQ _ z
   ·exact aN _ (ai _ z))
  exact ⟨a1,by rw [aK (hne q hq)];exact a2,a3⟩
 ·by_cases hb:b=p
  ·subst hb;rw [aL] at q;cases q;exact new
  ·rw [aK hb] at q
   exact (I.hok b w q).stay (fun _ _ _ z=>z) (fun c z=>up z) (fun c xs z=>up z) fun c x z=>up z
end
end Ry
namespace Ry
open PySem PySem.Spec PyProof.Rows L2
def wt (X:Cx) (A:Around) (f:Value) (σ:St) (G0 H0:Hp) (lam:Da->Option Da):Prop :=
 ∀ (pins:List (Addr×Obj)) (s:Shared) (G H:Hp) (d r:Da) (v:V) (u:Value),Ext G0 H0 G H->Inv X pins σ H s->Den X.K G d v->dB v u->lam d=some r ->
   wpAny (model X.prog X.w) A (call f [u]) (fun u' s'=>∃ v' G' H',Inv X pins σ H' s'/\dB v' u'/\Ext G H G' H'/\Den X.K G' r v') (fun _ _=>False) s
def vu (lam:Da->Option Da):List Da->Option (List Da)
 | []=>some []
 | d::ds=>match lam d with
   | none=>none
   | some r=>match vu lam ds with
     | none=>none
     | some rs=>some (r::rs)
theorem p5 {lam:Da->Option Da}:∀ {ds kd:List Da} {j:Nat} {d:Da},vu lam ds=some kd->ds[j]?=some d->∃ r,lam d=some r/\kd[j]?=some r
 | [],_,_,_,_,e=>by simp at e
 | d::ds,kd,j,x,h,e=>by
   unfold vu at h
   split at h
   ·cases h
   ·rename_i r er
    split at h
    ·cases h
    ·rename_i rs ers
     cases h
     cases j with
     | zero=>simp at e;subst e;exact ⟨r,er,rfl⟩
     | succ j=>simpa using p5 (j:=j) ers (by simpa using e)
theorem ir {lam:Da->Option Da}:∀ {ds kd:List Da},vu lam ds=some kd->kd.length=ds.length
 | [],_,h=>by cases h;rfl
 | d::ds,kd,h=>by
   unfold vu at h
   split at h
   ·cases h
   ·split at h
    ·cases h
    ·rename_i rs ers
     cases h
     rw [aD,aD,ir ers]
def oh (prog:Program) (w:World) (A:Around) (s:Shared) (us:List Value) (O:KeyOrd) (κ:SortKind) (key:Nat->O.α):Prop :=
 (2<=us.length->∀ Q:SortKind->Shared->Prop,Q κ s->wpAny (model prog w) A (keyKind' us.toArray) Q (fun _ _=>False) s) /\
 ∀ i j (C:Bool->Shared->Prop),i<us.length->j<us.length->C (O.blt (key i) (key j)) s->PySem.W.kas_ask prog w A κ us i j C s
theorem tG {O:KeyOrd} {d:O.α} {ks:List O.α} {p:List Nat} (hn:ks.Nodup) (hp:p.Perm (bi ks.length)) (hs:(p.map fun i=>ks.getD i d).Pairwise O.kle):p=jY O d ks:=by
 obtain ⟨h1,h2⟩:=iI O d ks
 have e:(p.map fun i=>ks.getD i d)=(jY O d ks).map fun i=>ks.getD i d:=cW ((hp.trans h1.symm).map _) hs h2
 have inj:∀ i j,i<ks.length->j<ks.length->ks.getD i d=ks.getD j d->i=j:=fun i j hi hj e=>by
  rw [ay,ae hi,ay,ae hj] at e
  exact (d9 hn).mp e
 have go:∀ (p q:List Nat),(∀ i∈p,i<ks.length)->(∀ i∈q,i<ks.length)->(p.map fun i=>ks.getD i d)=(q.map fun i=>ks.getD i d)->p=q:=fun p=>by
  induction p with
  | nil=>intro q _ _ e;cases q with
    | nil=>rfl
    | cons _ _=>cases e
  | cons i p ih=>intro q hp hq e;cases q with
    | nil=>cases e
    | cons j q =>
      rw [ax,ax] at e
      injection e with e1 e2
      rw [inj i j (hp i ak) (hq j ak) e1,ih q (fun i hi=>hp i (ai _ hi)) (fun i hi=>hq i (ai _ hi)) e2]
 exact go _ _ (fun i hi=>by simpa using hp.mem_iff.mp hi) (fun i hi=>md hi) e
section
variable {prog:Program} {w:World} {A:Around} {E:Value->Shared->Prop} {s:Shared} {O:KeyOrd} {κ:SortKind} {d:O.α} {kl:List O.α} {ks vs:List Value}
theorem uR (hl:ks.length=vs.length) (h2:2<=vs.length) (hk:kl.length=vs.length) (h64:OkN kl)
 (lt:∀ i j (C:Bool->Shared->Prop),i<vs.length->j<vs.length->C (O.blt (kl.getD i d) (kl.getD j d)) s->PySem.W.kas_ask prog w A κ ks i j C s) :
 wpAny (model prog w) A ((sortRuns').run (SortSt.mk' κ (ks.toArray.zip vs.toArray) #[] 7 none)) (fun r s'=>s'=s/\∃ p:Array Nat,arrOf r.2=p.map (PySem.W.kas_item (ks.toArray.zip vs.toArray))/\failedOf r.2=none/\p.toList=jY O d kl) E s:=by
 by_cases hs:vs.length<64
 ·have ask:(PySem.W.kas_sort vs.length).kasWp (PySem.W.kas_ask prog w A κ ks) (fun p s'=>s'=s/\p=Bf O (fun i=>kl.getD i d) (PySem.W.kas_sort vs.length)) s :=
   cA.wp (O:=O) (key:=fun i=>kl.getD i d) (n:=vs.length) lt (cA.mono (fun p hp=>⟨rfl,hp.2⟩) (cA.det (oX (Q:=fun p=>bW vs.length p/\lh O (fun i=>kl.getD i d) p vs.length) (by lia) fun p hp hu=>⟨hp,hu⟩)))
  refine PySem.W.kat_run (Q:=fun st' s'=>s'=s/\∃ p:Array Nat,arrOf st'=p.map (PySem.W.kas_item (ks.toArray.zip vs.toArray))/\failedOf st'=none/\p.toList=jY O d kl) hl h2 hs (fun p st' s' _ a b c=>⟨c.1,p,a,b,?_⟩) ask
  rw [c.2]
  unfold jY
  rw [if_neg (by lia),hk]
 ·have h127:=h64.resolve_left (by lia)
  refine wpAny_mono (qr (O:=O) (key:=fun i=>kl.getD i d) hl h2 (by rw [<- hk];exact h64.inj d) lt) ?_ fun _ _ e=>e
  rintro r s' ⟨h1,p,h2,h3,h4,h5⟩
  refine ⟨h1,p,h2,h3,tG h127.2 ?_ ?_⟩
  ·rw [hk]
   simpa using bp.mp h4.perm
  ·exact ig h4 d h5
end
section
variable {X:Cx} {pins:List (Addr×Obj)} {σ:St} {H:Hp} {s:Shared} {A:Around} {E:Value->Shared->Prop} {P:PySem.Fin->Shared->Prop}
theorem _root_.L2.Inv.pinsSub {pins':List (Addr×Obj)} (I:Inv X pins σ H s) (h:∀ q∈pins',q∈pins):Inv X pins' σ H s:=I.pins_of fun q hq=>I.pin q (aN _ (h q hq))
theorem _root_.L2.Inv.pinGet {p:Addr} {o:Obj} (I:Inv X ((p,o)::pins) σ H s):s.heap.get? p=some o:=(I.pin (p,o) (aN _ ak)).1
theorem ft {c:String} {xs:Array Value} {n:Nat}:∀ v,(seqObj c xs n).data≠.cell v:=fun v z=>by cases z
theorem AJ {a kS:Addr} {kA:Array Value} {e e1:Nat} {st:SortSt} {out:List Value} (I:Inv X ((kS,seqObj "list" kA e)::(a,seqObj "list" #[] e1)::pins) σ H s) (h0k:X.s₀.heap.objs.size<=kS) (h0:X.s₀.heap.objs.size<=a) (hnk:∀ q∈X.pn++((a,seqObj "list" #[] e1)::pins),q.1≠kS) (hne:∀ q∈X.pn++pins,q.1≠a)
 (hka:kA.size<=127) (hout:(arrOf st).map (·.2)=out.toArray) (hol:out.length<=127) (hfl:failedOf st=none)
 (fin:∀ s' c,Inv X ((a,seqObj "list" out.toArray c)::pins) σ H s'->P (.done (.ret .none)) s'):wpAny (model X.prog X.w) A (ksk_tail a false e1 (.ref kS) st) P E s:=by
 have sz:sizeLine=16777216:=sizeLine_eq
 have s1:=Heap.SameBut.update s.heap kS (bj fun _=>(#[]:Array Value))
 obtain ⟨c1,hc1⟩:∃ c1,(s.heap.update kS (bj fun _=>(#[]:Array Value))).get? kS=some (seqObj "list" #[] c1):=⟨_,get?_update_seq I.pinGet fun _=>#[]⟩
 have I1:=I.pinSet (t':=s.toks) (fun b u hb e=>(s1.2 b hb).trans e) hc1 ft h0k hnk
 have I2:Inv X ((a,seqObj "list" #[] e1)::pins) σ H _:=I1.pinsSub fun q hq=>ai _ hq
 unfold ksk_tail
 try dsimp only
 refine wpAny_bind (listUpdate_at I.pinGet rfl ?_ (by lia) (aT _))
 refine wpAny_bind (wpAny_letGo ?_)
 refine wpAny_bind (seqEpoch_at I2.pinGet rfl ?_)
 refine wpAny_bind (listUpdate_at I2.pinGet rfl ?_ (aT _) ?_)
 ·rw [hfl]
  simp only [bne_self_eq_false,bN,if_false]
  rw [hout]
  have s2:=Heap.SameBut.update (s.heap.update kS (bj fun _=>(#[]:Array Value))) a (bj fun _=>out.toArray)
  obtain ⟨c2,hc2⟩:∃ c2,((s.heap.update kS (bj fun _=>(#[]:Array Value))).update a (bj fun _=>out.toArray)).get? a=some (seqObj "list" out.toArray c2):=⟨_,get?_update_seq I2.pinGet fun _=>out.toArray⟩
  exact wpAny_pure (fin _ c2 (I2.pinSet (t':=s.toks) (fun b u hb e=>(s2.2 b hb).trans e) hc2 ft h0 hne))
 ·show (if false=true then _ else (arrOf st).map (·.2)).size<=_
  rw [if_neg ah,hout,aq]
  lia
theorem t8 {G0 H0 G:Hp} {a:Addr} {n:Nat} {vs:List Value} {xs:List V} {ds kd:List Da} {f:Value} {lam:Da->Option Da} {O:KeyOrd} {κ:SortKind} {d0:O.α} {ks:List O.α}
 (I:Inv X ((a,seqObj "list" vs.toArray n)::pins) σ H s) (E0:Ext G0 H0 G H) (h0:X.s₀.heap.objs.size<=a) (hne:∀ q∈X.pn++pins,q.1≠a) (L:wt X A f σ G0 H0 lam)
 (dl:bP X.K G ds xs) (rv:cq xs vs) (hk:vu lam ds=some kd) (h64:OkN ks) (hks:ks.length=kd.length)
 (cmp:∀ (s':Shared) (G' H':Hp) (pins':List (Addr×Obj)) (kvs:List V) (us:List Value),Inv X pins' σ H' s'->bQ G' H'->bP X.K G' kd kvs->cq kvs us->oh X.prog X.w A s' us O κ (fun i=>ks.getD i d0))
 (fin:∀ (s':Shared) (G' H':Hp) (c:Nat),Ext G H G' H'->Inv X ((a,seqObj "list" ((jY O d0 ks).map fun i=>vs.getD i Value.none).toArray c)::pins) σ H' s'->P (.done (.ret .none)) s') :
 wpAny (model X.prog X.w) A (ksk_tree a f false) P E s:=by
 have sz:sizeLine=16777216:=sizeLine_eq
 have hlx:xs.length=vs.length:=rv.length
 have hld:xs.length=ds.length:=dl.length
 have hlk:kd.length=ds.length:=ir hk
 have h127:vs.length<=127:=by rcases h64 with h | h<;>lia
 have pa:=I.pinGet
 have ha:a<s.heap.objs.size:=au pa
 have s1:=Heap.SameBut.update s.heap a (bj fun _=>(#[]:Array Value))
 obtain ⟨e1,ho1⟩:∃ e1,(s.heap.update a (bj fun _=>(#[]:Array Value))).get? a=some (seqObj "list" #[] e1):=⟨_,get?_update_seq pa fun _=>#[]⟩
 have I1:=I.pinSet (t':=s.toks) (fun b u hb e=>(s1.2 b hb).trans e) ho1 ft h0 hne
 unfold ksk_tree
 refine wpAny_bind (listItems_at pa rfl ?_)
 refine wpAny_bind (listUpdate_at pa rfl ?_ (by rw [aq];lia) (aT _))
 refine wpAny_bind (seqEpoch_at ho1 rfl ?_)
 refine wpAny_bind (wpAny_newTuple ?_ (by show vs.length<=_;lia))
 refine wpAny_bind (wpAny_newList ?_ (aT _))
 refine wpAny_holding ?_
 show wpAny (model X.prog X.w) A (ksk_rest a f false vs.toArray e1 (.ref ((s.heap.update a (bj fun _=>(#[]:Array Value))).push (seqObj "tuple" vs.toArray 0)).objs.size)) P E { s with heap:=((s.heap.update a (bj fun _=>(#[]:Array Value))).push (seqObj "tuple" vs.toArray 0)).push (seqObj "list" #[] 0) }
 have hkS:((s.heap.update a (bj fun _=>(#[]:Array Value))).push (seqObj "tuple" vs.toArray 0)).objs.size=s.heap.objs.size+1:=by rw [size_push',mE]
 have I3:Inv X ((((s.heap.update a (bj fun _=>(#[]:Array Value))).push (seqObj "tuple" vs.toArray 0)).objs.size,seqObj "list" #[] 0)::(a,seqObj "list" #[] e1)::pins) σ H { s with heap:=((s.heap.update a (bj fun _=>(#[]:Array Value))).push (seqObj "tuple" vs.toArray 0)).push (seqObj "list" #[] 0) } :=
  I1.pinNew (t':=s.toks) (fun b u e=>aa _ (aa _ e)) (by rw [hkS];show (s.heap.update a _).objs.size<=_;rw [mE];lia) (af _ rfl) ft
 generalize hkg:((s.heap.update a (bj fun _=>(#[]:Array Value))).push (seqObj "tuple" vs.toArray 0)).objs.size=kS at I3 ⊢
 generalize hsg:({ s with heap:=((s.heap.update a (bj fun _=>(#[]:Array Value))).push (seqObj "tuple" vs.toArray 0)).push (seqObj "list" #[] 0) }:Shared)=sk at I3 ⊢
 have hkl:kS=s.heap.objs.size+1:=by rw [<- hkg];exact hkS
 have h0k:X.s₀.heap.objs.size<=kS:=by have:=I.sz;lia
 have hnk:∀ q∈X.pn++((a,seqObj "list" #[] e1)::pins),q.1≠kS:=fun q hq z=>by
  have:=au (I1.pin q hq).1
  have this:q.1<(s.heap.update a (bj fun _=>(#[]:Array Value))).objs.size:=this
  rw [mE] at this
  rw [z,hkl] at this
  exact absurd this (Nat.not_lt.mpr (fF _))
 unfold ksk_rest
 refine wpAny_bind (wpAny_rule ?_)
 first
  | rw [List.forIn_toArray]
  | (rw [<- xR];simp only [List.toList_toArray])
  | rw [<- xR]
 refine wpAny_bind (ksk_fold (fun i s'=>∃ Gi Hi kvs kA e,Ext G H Gi Hi/\Inv X ((kS,seqObj "list" kA e)::(a,seqObj "list" #[] e1)::pins) σ Hi s'/\bP X.K Gi (kd.take i) kvs/\cq kvs kA.toList) vs 0 sk
  ⟨G,H,[],#[],0,Ext.refl E0.gh,I3,by simpa using (show bP X.K G [] [] from rfl),.nil⟩ ?step ?done)
 case step =>
  rintro j x s' hx ⟨Gi,Hi,kvs,kA,e,Ei,Ii,dk,rk⟩
  simp only [bY] at dk ⊢
  have hj:j<vs.length:=(al.mp hx).1
  have hxj:xs[j]?=some (xs[j]'(by lia)):=ae (by lia)
  obtain ⟨u,hu,ru⟩:=rv.get hxj
  have:u=x:=by rw [hx] at hu;exact (Option.some.inj hu).symm
  subst this
  obtain ⟨d,hd,dd⟩:=dl.of_get hxj
  obtain ⟨r,hr,hkj⟩:=p5 hk hd
  have hz:kA.size<=vs.length:=by
   have h1:kvs.length=kA.toList.length:=rk.length
   have h2:kvs.length=(kd.take j).length:=dk.length
   have h3:kA.toList.length=kA.size:=az
   rw [bI] at h2
   rw [<- h3,<- h1,h2]
   exact bH (Nat.min_le_left _ _) (eJ hj)
  refine wpAny_bind (wpAny_attempt (wpAny_mono (L _ s' Gi Hi d r _ u (E0.trans Ei) Ii (Den.mono Ei.gg d dd) ru hr) (fun u' s'' he=>?_) fun _ _ hF=>hF.elim))
  obtain ⟨v',G',H',I',r',E',d'⟩:=he
  try dsimp only
  have nk:=I'.pinGet
  have s2:=Heap.SameBut.update s''.heap kS (bj (·.push u'))
  obtain ⟨c2,hc2⟩:∃ c2,(s''.heap.update kS (bj (·.push u'))).get? kS=some (seqObj "list" (kA.push u') c2):=⟨_,get?_update_seq nk (·.push u')⟩
  refine wpAny_bind (listUpdate_at nk rfl ?_ (by lia) (bH (jf (Array.size_push ..)) (by lia)))
  refine wpAny_pure ⟨rfl,G',H',kvs++[v'],kA.push u',c2,Ei.trans E',I'.pinSet (t':=s''.toks) (fun b w hb e=>(s2.2 b hb).trans e) hc2 ft h0k hnk,?_,?_⟩
  ·have ek:kd.take (j+1)=kd.take j++[r]:=by rw [lp,hkj];simp
   rw [ek]
   exact bP.append (bP.mono E'.gg _ dk) (bP.one d')
  ·rw [show (kA.push u').toList=kA.toList++[u'] by simp]
   exact rk.append (.cons r' .nil)
 case done =>
  rintro s' ⟨Gi,Hi,kvs,kA,e,Ei,Ii,dk,rk⟩
  have dk':bP X.K Gi kd kvs:=by
   have e3:kd.take (0+vs.length)=kd:=ip (by lia)
   rw [e3] at dk
   exact dk
  have hkA:kA.toList.length=vs.length:=by rw [<- rk.length,dk'.length];lia
  have hksl:ks.length=vs.length:=by lia
  obtain ⟨c1,c2⟩:=cmp s' Gi Hi _ kvs kA.toList Ii Ei.gh dk' rk
  try dsimp only
  refine wpAny_bind (listItems_at Ii.pinGet rfl ?_)
  unfold ksk_end
  try dsimp only
  rw [if_neg ah]
  have ekA:kA=kA.toList.toArray:=by simp
  have hka:kA.size<=127:=by rw [az] at hkA;lia
  have hpl:((jY O d0 ks).map fun i=>vs.getD i Value.none).length<=127:=by rw [ab,p6];lia
  by_cases h2:vs.toArray.size<2
  ·rw [if_pos h2,if_pos h2]
   refine wpAny_bind (wpAny_pure ?_)
   rw [StateT.run_pure]
   refine wpAny_bind (wpAny_pure ?_)
   try dsimp only
   rw [if_neg ah]
   refine AJ (st:=SortSt.mk' general' (kA.zip vs.toArray) #[] 7 none) (out:=(jY O d0 ks).map fun i=>vs.getD i Value.none) Ii h0k h0 hnk hne hka ?_ hpl rfl fun s'' c I'=>fin s'' Gi Hi c Ei I'
   show (kA.zip vs.toArray).map (·.2)=_
   rw [aq] at h2
   have hp:jY O d0 ks=bi vs.length:=by unfold jY;rw [if_pos (by lia),hksl]
   rw [hp]
   apply ck.mp
   rw [Array.toList_map,ksk_zip,Cd (by lia)]
   apply il
   ·simp
   ·intro i h1 h2;simp [h1]
  ·rw [if_neg h2,if_neg h2]
   rw [aq] at h2
   have c1':=c1 (by lia)
   rw [dM] at c1'
   refine wpAny_bind (wpAny_mono (c1' _ ?_) (fun _ _ x=>x) fun _ _ x=>x.elim)
   rw [if_neg ah]
   have run:=uR (E:=E) (ks:=kA.toList) (vs:=vs) (A:=A) (κ:=κ) (w:=X.w) (prog:=X.prog) hkA (by lia) hksl h64 fun i j C hi hj hc=>c2 i j C (by lia) (by lia) hc
   rw [dM] at run
   refine wpAny_bind (wpAny_mono run ?_ fun _ _ e=>e)
   rintro ⟨⟨⟩,st'⟩ s'' ⟨rfl,p,har,hf,hp⟩
   try dsimp only
   refine AJ (out:=(jY O d0 ks).map fun i=>vs.getD i Value.none) Ii h0k h0 hnk hne hka ?_ hpl hf fun s'' c I'=>fin s'' Gi Hi c Ei I'
   have hsn:=PySem.W.kat_snds (ks:=kA.toList) (vs:=vs) hkA (st:=st') (p:=p) (by rw [dM];exact har)
   rw [hsn,hp]
end
end Ry
namespace Ry
open PySem PySem.Spec PyProof.Rows L2
theorem tP {H:Hp} {q:Str}:∀ {l:List Value},q0 H q l->TriplesOk l:=fun {l} t=>by
 fun_induction q0 H q l with
 | case1=>trivial
 | case2 _ _ _ _ c r ih=>exact ih t.2
 | case3=>exact t.elim
theorem qZ {H:Hp} {q:Str} {pos:Pos} {cv:Value}:∀ {l:List Value},q0 H q l->codeAmong pos l=some cv->∃ c,cv=.ref c/\H c=some (.cod q):=fun {l} t e=>by
 fun_induction q0 H q l with
 | case1=>cases e
 | case2 a ta b tb c r ih =>
   simp only [codeAmong] at e
   split at e
   ·cases e;exact ⟨c,rfl,t.1⟩
   ·exact ih t.2 e
 | case3=>exact t.elim
theorem r9 {H:Hp} {q:Str} {a b:Nat} {c:Addr} (hc:H c=some (.cod q)):∀ {l:List Value},q0 H q l->q0 H q (l++[rawInt a,rawInt b,.ref c]):=fun {l} t=>by
 fun_induction q0 H q l with
 | case1=>exact ⟨hc,trivial⟩
 | case2 _ _ _ _ c' r ih=>exact ⟨t.1,ih t.2⟩
 | case3=>exact t.elim
def Bm (mg:Str->Option Value) (h:Heap):Prop:=∃ bm ob,mg "__builtins__" = some (.ref bm)/\bm≠builtinsNs/\h.get? bm=some ob/\ob.cls=.type "module"/\ob.dict=some builtinsNs/\ob.data=.plain
section
variable {X:Cx} {pins:List (Addr×Obj)} {σ:St} {H:Hp} {s:Shared} {params:Arguments} {body:Expr} {scope:Scope} {pos:Pos} {c P:Addr} {q:Str}
abbrev qf (X:Cx) (q:Str) (params:Arguments) (body:Expr) (scope:Scope) (pm:Value) (c':Addr) (ctv:Value):Obj:=PySem.W.kla_obj "<lambda>" q params body scope (dz X.env.cells scope.names []) pm c' ctv
theorem wK (I:Inv X pins σ H s) (hB:Bm X.mg X.base) (hcode:X.env.code=.ref c) (C:PySem.W.CodeHd X.base c P) (hP:H P=some (.tab q)) (hq:X.env.qual++"<lambda>" = q)
 (hfree:∀ y∈scope.names,y.2=.free->∃ c,X.env.cells.lookup y.1=some c) (hdef:defaultsOf params X.env=([],[])) {Q:Value->Shared->Prop}
 (k:∀ (f c':Addr) (pm ctv:Value) (s':Shared) (H':Hp),Inv X pins σ H' s'->H f=none->H' f=some (.frz (qf X q params body scope pm c' ctv) (.own 0))->H' c'=some (.cod q)->(∀ G,bQ G H->Ext G H G H')->Q (.ref f) s') :
 wpAny (model X.prog X.w) X.A (eval (.Lambda params body scope pos) X.env) Q X.xe s:=by
 obtain ⟨ps,hps,tr⟩:=I.hok P _ hP
 obtain ⟨bm,ob,b1,b2,b3,b4,b5,b6⟩:=hB
 have hgb:=I.mod.glob
 have neP:∀ {b:Addr} {o:Obj},X.base.get? b=some o->b≠P:=fun e z=>by
  have:=(I.bs _ _ e).2
  rw [z,hP] at this;cases this
 have hgP:mainGlobals≠P:=by obtain ⟨o,_,_,e,_⟩:=hgb;exact neP e
 have hbG:bm≠mainGlobals:=fun z=>by
  obtain ⟨o,es,ep,e,hd,_⟩:=hgb
  rw [z,e] at b3;cases b3;rw [hd] at b6;cases b6
 have hbuilt:s.heap.BuiltinsAt X.mg P:=⟨bm,ob,b1,b2,hbG,neP b3,I.bk _ _ b3,b4,b5,b6⟩
 refine PySem.W.kla_eval hdef ?_
 rw [hq]
 cases hc:codeAmong pos ps.toList with
 | none =>
   refine PySem.W.kla_makeFunction (mg:=X.mg) (gW hfree) I.ok.glob (hgb.keeps I.bk) hcode (C.keeps I.bk) hps (tP tr) hc hgP hbuilt fun c' ctv h' tk hx hge hlt hrec htb=>?_
   have hHc:H c'=none:=I.hok.fresh hge
   have hsz:s.heap.objs.size<=h'.objs.size:=bH hge (eJ hlt)
   have hHf:H h'.objs.size=none:=I.hok.fresh hsz
   have hcf:c'≠h'.objs.size:=aH hlt
   generalize hof:PySem.W.kla_obj "<lambda>" q params body scope (dz X.env.cells scope.names []) ((X.mg "__name__").getD .none) c' ctv=fo
   have hfo:fo.isFreed=false:=by rw [<- hof];rfl
   have up:∀ {b:Addr} {w:HO},H b=some w->upd (upd H c' (.cod q)) h'.objs.size (.frz fo (.own 0)) b=some w:=fun {b w} e=>by
    rw [aK (bu e hHf),aK (bu e hHc)];exact e
   have old:∀ {b:Addr} {o:Obj},s.heap.get? b=some o->b≠c'/\b≠h'.objs.size:=fun e=>⟨aH (aM (au e) hge),aH (aM (au e) hsz)⟩
   have keepN:∀ {b:Addr} {o:Obj},b≠P->s.heap.get? b=some o->(h'.push fo).get? b=some o:=fun hb e=>aa _ (hx _ _ hb e)
   have hcP:c'≠P:=fun z=>by rw [z,hP] at hHc;cases hHc
   have hfP:h'.objs.size≠P:=fun z=>by rw [z,hP] at hHf;cases hHf
   have hcc:upd (upd H c' (.cod q)) h'.objs.size (.frz fo (.own 0)) c'=some (.cod q):=by rw [aK hcf];exact aL
   have I':Inv X pins σ (upd (upd H c' (.cod q)) h'.objs.size (.frz fo (.own 0))) { s with heap:=h'.push fo,toks:=tk }:=by
    refine I.un (t':=tk) ⟨fun b o e n _ _=>keepN (fun z=>by rw [z,hP] at n;cases n) e,fun b o e n _ _=>⟨o.slots,keepN (fun z=>by rw [z,hP] at n;cases n) e⟩,fun b o e n _=>?_,fun b o e _=>?_,fun b xs e=>up e,fun b o u e=>up e,fun b ps' e=>⟨#[],by rw [Array.append_empty];exact up e⟩⟩ fun b u e=>?_
    ·rw [aK (old e).2,aK (old e).1];exact n
    ·by_cases hb:b=P
     ·subst hb;exact ⟨_,aa _ htb⟩
     ·exact ⟨o,keepN hb e⟩
    ·by_cases hbf:b=h'.objs.size
     ·subst hbf
      rw [aL] at e;cases e
      exact ⟨af _ hfo,fo,af _ hfo⟩
     ·rw [aK hbf] at e
      by_cases hbc:b=c'
      ·subst hbc
       rw [aL] at e;cases e
       obtain ⟨c0,o,vs,t,e0,e1,e2⟩:=hrec
       exact ⟨c0,o,vs,t,e0,aa _ e1,e2⟩
      ·rw [aK hbc] at e
       by_cases hbP:b=P
       ·subst hbP
        rw [hP] at e;cases e
        refine ⟨_,aa _ htb,?_⟩
        have:(ps++#[rawInt pos.line,rawInt pos.col,.ref c']).toList=ps.toList++[rawInt pos.line,rawInt pos.col,.ref c']:=by simp
        rw [this]
        exact r9 hcc (tr.stay fun b' q' z=>up z)
       ·refine (I.hok b u e).stay (fun b' o' hb' e'=>keepN ?_ e') (fun b' z=>up z) (fun b' xs z=>up z) fun b' q' z=>up z
        rcases hb' with z | z
        ·rw [z];exact hbP
        ·intro z';rw [z',hP] at z;cases z
   refine k h'.objs.size c' ((X.mg "__name__").getD .none) ctv _ _ I' hHf ?_ hcc fun G sg=>?_
   ·rw [aL,<- hof]
   ·have E1:Ext G H G (upd H c' (.cod q)):=Ext.own sg hHc
    exact E1.trans (Ext.own E1.gh (by rw [aK (Ne.symm hcf)];exact hHf))
 | some cv =>
   obtain ⟨c',rfl,hc'⟩:=qZ tr hc
   refine PySem.W.kla_makeFunctionHit (mg:=X.mg) (gW hfree) I.ok.glob (hgb.keeps I.bk) hcode (C.keeps I.bk) hps (tP tr) hc hbuilt fun ctv h' tk hk hsz=>?_
   have hHf:H h'.objs.size=none:=I.hok.fresh hsz
   have I':=I.laid (a:=h'.objs.size) (o:=.frz (qf X q params body scope ((X.mg "__name__").getD .none) c' ctv) (.own 0)) (t':=tk) (fun b u e=>aa (qf X q params body scope ((X.mg "__name__").getD .none) c' ctv) (hk b u e)) hsz ⟨af _ rfl,_,af _ rfl⟩
   refine k h'.objs.size c' _ ctv _ _ I' hHf aL ?_ fun G sg=>Ext.own sg hHf
   rw [aK (bu hc' hHf)];exact hc'
end
structure qd (X:Cx) (scope:Scope) (ix:List (Option Nat)) (x:Str) (i0:Nat):Prop extends CScope X scope ix where
 co:scope.isCoroutine=false
 gen:scope.isGenerator=false
 nocell:∀ y∈scope.names,y.2≠.cell
 par:scope.names[i0]?=some (x,.local)
abbrev qy (X:Cx) (scope:Scope) (q:Str) (L f c':Addr):Env:=PySem.W.envX q scope L f (.ref c') (dz X.env.cells scope.names [])
def wq (X:Cx) (A:Around) (scope:Scope) (q:Str) (f c':Addr) (s:Shared) (H:Hp):Cx :=
 { X with A:=A.deeper (qy X scope q s.heap.objs.size f c'),N:=scope.names.map (·.1),s₀:=s,H₀:=H,env:=qy X scope q s.heap.objs.size f c',outer:=X.stack,stack:=qy X scope q s.heap.objs.size f c'::X.stack,ex:=[],fn:=fun _=>false,calm:=true,pn:=[],xe:=fun _ _=>False }
section
variable {X:Cx} {pins:List (Addr×Obj)} {σ:St} {H:Hp} {s:Shared} {scope:Scope} {ix:List (Option Nat)} {x:Str} {i0:Nat} {A:Around} {f c':Addr} {q:Str}
theorem tq {v:V} {u:Value} {h₁:Heap} {tk:Nat} (S:qd X scope ix x i0) (I:Inv X pins σ H s) (hh:A.handled=none) (hfr:A.frames=X.A.frames) (rv:dB v u)
 (hns:h₁.Ns s.heap.objs.size (fun y=>[(x,u)].reverse.lookup y)) (hk:∀ b o,s.heap.get? b=some o->h₁.get? b=some o) :
 Inv (wq X A scope q f c' s H) [] ((mpS ix σ).set i0 (some v)) H { s with heap:=h₁,toks:=tk }:=by
 have cl:=S.toCScope.cells I
 have hlk:∀ y c,(dz X.env.cells scope.names []).lookup y=some c->X.env.cells.lookup y=some c:=fun y c e=>by
  rcases gQ _ _ cl e with z | z
  ·exact z
  ·simp at z
 have hno:∀ b:Addr,b∉(wq X A scope q f c' s H).ex:=fun b z=>absurd (show b∈([]:List Addr) from z) (by simp)
 have hi0:i0<ix.length:=by rw [gE S.ix];exact (al.mp S.par).1
 refine ⟨⟨I.ok.mod,S.kind,rfl,rfl,aj _,fun y z c h1 h2=>I.ok.inj y z c (hlk y c h1) (hlk z c h2),fun y hy=>?_,fun y c hf _=>absurd (show false=true from hf) (by simp),fun _=>hh,Around.frames_deeper (hfr.trans I.ok.frames),.inr ⟨rfl,rfl⟩,fun b z=>absurd z (hno b),I.bs,bH I.ok.bsz I.sz,fun b _ _=>hno b,fun b z=>absurd z (hno b),I.stack,I.stkFree⟩,
  rfl,I.bare,Un.kept hk,⟨_,hns,fun i y w e1 e2 e3=>?_⟩,fun y c e=>?_,I.hok.fresh (aj _),fun y c e=>I.freeC y c (hlk y c e),fun p hp=>absurd (show p∈([]:List (Addr×Obj)) from hp) (by simp),I.hok.kept hk,?_⟩
 ·have hy:scope.names.lookup y=some .cell\/scope.names.lookup y=some .free:=hy
  rcases hy with hy | hy
  ·exact absurd rfl (S.nocell _ (mem_of_lookup hy))
  ·obtain ⟨c,hc⟩:=cl _ (mem_of_lookup hy) rfl
   exact ⟨c,(fV _ _ cl (.inl (mem_of_lookup hy))).trans hc⟩
 ·have e1:(scope.names.map (·.1))[i]?=some y:=e1
  by_cases hi:i0=i
  ·subst hi
   rw [aA (by unfold mpS;rw [ab];exact hi0)] at e2
   cases e2
   rw [av,S.par] at e1
   cases e1
   exact ⟨u,rv,.inl ⟨cr S.nd S.par,by simp⟩⟩
  ·rw [aE hi] at e2
   unfold mpS at e2
   rw [av] at e2
   cases qi:ix[i]? with
   | none=>rw [qi] at e2;cases e2
   | some o =>
     rw [qi] at e2
     cases o with
     | none=>cases e2
     | some j =>
       obtain ⟨x',hx1,hx2⟩:=fX S.ix qi
       have ex:y=x':=by rw [av,hx1] at e1;cases e1;rfl
       subst ex
       have hs:σ[j]?=some (some w):=by
        have e2':(σ[j]?).getD none=some w:=by simpa using e2
        cases q2:σ[j]? with
        | none=>rw [q2] at e2';cases e2'
        | some z=>rw [q2] at e2';exact congrArg some e2'
       have hl:=cr S.nd hx1
       have hkd:=S.free _ (ba hx1) rfl
       obtain ⟨m,_,hm⟩:=I.loc
       have hvis:Vis X.env.scope y:=by
        rcases hkd with z | z
        ·exact .inr (.inl z)
        ·exact .inr (.inr z)
       obtain ⟨u',r',lk⟩:=hm j y w hx2 hs hvis
       refine ⟨u',r',.inr ⟨.inr hl,?_⟩⟩
       rcases lk with ⟨z,_⟩ | ⟨_,c,hc,o,ho,hd⟩
       ·rcases hkd with w' | w'<;>(rw [z] at w';cases w')
       ·exact ⟨c,(fV _ _ cl (.inl (mem_of_lookup hl))).trans hc,o,hk _ _ ho,hd⟩
 ·obtain ⟨w,o,ho,hd⟩:=I.cell y c (hlk y c e)
  exact ⟨w,o,hk _ _ ho,hd⟩
 ·rw [bq]
  unfold mpS
  rw [ab,gE S.ix]
  show _=(scope.names.map (·.1)).length
  rw [ab]
def Ab (ix:List (Option Nat)) (i0:Nat) (g:Rho->Option Rv) (ρ:Rho):Da->Option Da:=fun d=>match g ((mpR ix ρ).set i0 (.pu d)) with
 | none=>none
 | some r=>if cD r=true then some r.2 else none
theorem A9 {B G0 H0:Hp} {ρ:Rho} {g:Rho->Option Rv} {params:Arguments} {body:Expr} {pm ctv:Value} (S:qd X scope ix x i0) (hh:A.handled=none) (hfr:A.frames=X.A.frames) (hroom:A.depth<recursionLimit)
 (hbind:∀ u,bindArgs (PySem.W.kla_fn "<lambda>" q params body scope (dz X.env.cells scope.names []) pm (.ref c') ctv) ⟨[u],[]⟩=pure [(x,u)])
 (hbody:∀ (s:Shared) (H:Hp),PX (wq X A scope q f c' s H) body g)
 (sb:bQ B H0) (st:fm X.K B G0 H0 σ ρ) (hf:H0 f=some (.frz (qf X q params body scope pm c' ctv) (.own 0))) (hc:H0 c'=some (.cod q)):wt X A (.ref f) σ G0 H0 (Ab ix i0 g ρ):=by
 intro pins s G H d r v u E I dv rv el
 unfold Ab at el
 split at el
 ·cases el
 ·rename_i rr er
  split at el
  case isFalse=>cases el
  case isTrue hp =>
  cases el
  obtain ⟨ho,_⟩:=I.hok f _ (E.hh _ _ hf)
  have hcd:s.heap.CodeRec (.ref c') q:=I.hok c' _ (E.hh _ _ hc)
  have st':fm X.K B G H ((mpS ix σ).set i0 (some v)) ((mpR ix ρ).set i0 (.pu d)):=((st.ext E).mp S.toCScope).setPu dv
  refine wpAny_call (PySem.W.kla_callFunE hroom ho rfl S.co S.gen rfl hcd ?_)
  rw [hbind u]
  refine wpAny_pure (wpAny_newFunctionEnv S.nocell (fun y hy=>by rw [am.mp hy];exact cr S.nd S.par) (fun h₁ hns hsb=>?_) S.kind)
  have hk₁:∀ b o,s.heap.get? b=some o->h₁.get? b=some o:=fun b o e=>hsb.extBut b o (aH (au e)) (aa _ e)
  refine ⟨I.nolimit.keeps hk₁,?_⟩
  show codeAny _ _ (.expr body (qy X scope q s.heap.objs.size f c')) _ _
  have J:Inv (wq X A scope q f c' s H) [] ((mpS ix σ).set i0 (some v)) H { s with heap:=h₁,toks:=s.toks+1 }:=tq S I hh hfr rv hns hk₁
  refine PySem.W.kla_codeExpr (wpAny_mono (hbody s H [] _ _ H (fun v' H'=>∃ G',Ext G H G' H'/\eu X.K B H G' H' rr v') J ⟨B,G,_,rr,E.gh,sb.trans E.hh,st',er,fun v' G' H' E' r'=>⟨G',E',r'⟩⟩) (fun u' s' he=>?_) fun _ _ z=>z.elim)
  obtain ⟨v',H',J',r',G',E',ro⟩:=he
  obtain ⟨G2,E2,_,d2⟩:=ro.pure E' hp
  exact ⟨v',G2,H',I.call' (ch:=[]) J'.os J'.base J'.hok J'.bare (fun b z=>absurd z (by simp)),r',E2,d2⟩
end
end Ry
namespace Ry
open PySem PySem.Spec PyProof.Rows L2
def iq (prog:Program) (w:World) (A:Around) (s:Shared) (x:Value) (xs:List V):Prop :=
 ∀ (E:Value->Shared->Prop) (R:List Value->Shared->Prop),(∀ h' tk vs,(∀ b o,s.heap.get? b=some o->h'.get? b=some o)->cq xs vs->R vs { s with heap:=h',toks:=tk })->wpAny (model prog w) A (collect x) R E s
theorem ri {n:Nat} {acc:Array Value} (it:ItemsOf (fun i v=>∃ t,v=.int (0+i*1) t) acc n):cq ((bi n).map fun (i:Nat)=>V.int (i:Int)) acc.toList:=by
 have:∀ (n:Nat) (l:List Value) (lo:Nat),l.length=n->(∀ i v,l[i]?=some v->∃ t,v=Value.int ((lo+i:Nat):Int) t)->cq ((hZ lo n).map fun (i:Nat)=>V.int (i:Int)) l:=fun n=>by
  induction n with
  | zero=>intro l lo hl _;cases l with
    | nil=>exact .nil
    | cons _ _=>cases hl
  | succ n ih =>
    intro l lo hl hv
    cases l with
    | nil=>cases hl
    | cons x l =>
      obtain ⟨t,ht⟩:=hv 0 x rfl
      rw [im,ax]
      refine .cons ⟨t,by simpa using ht⟩ (ih l (lo+1) (by simpa using hl) fun i v hi=>?_)
      obtain ⟨t,ht⟩:=hv (i+1) v (by simpa using hi)
      exact ⟨t,by rw [ht];congr 2;lia⟩
 rw [dR]
 refine this n acc.toList 0 (by rw [az];exact it.1) fun i v hi=>?_
 obtain ⟨t,ht⟩:=it.2 i v (by rw [<- aR];exact hi)
 exact ⟨t,by rw [ht];congr 1;simp⟩
def hkD:List Da->Option (List (List Int))
 | []=>some []
 | .tup [.int n,.tup xs]::r=>match fj xs,hkD r with
   | some ns,some ts=>some ((n::ns)::ts)
   | _,_=>none
 | _=>none
theorem yd {kd:List Da}:∀ {ts:List (List Int)},hkD kd=some ts->ts.length=kd.length:=by
 fun_induction hkD kd with
 | case1=>intro ts e;cases e;rfl
 | case2 n xs r ns ts0 er en ih=>intro ts e;cases e;rw [aD,aD,ih er]
 | case3=>intro ts e;cases e
 | case4=>intro ts e;cases e
section
variable {X:Cx} {pins:List (Addr×Obj)} {σ:St} {H:Hp} {s:Shared}
theorem wo {A:Around} {r:Addr} {j:Int} (I:Inv X pins σ H s) (hh:A.handled=none) (hr:H r=some (.rng 0 j)) (j1 : -(2 ^ 62)<=j) (j2:j<=1000000):iq X.prog X.w A s (.ref r) ((bi j.toNat).map fun (i:Nat)=>V.int (i:Int)):=by
 intro E R h
 obtain ⟨t,u,v,hr'⟩:=I.hok r _ hr
 exact kw hh (show IsRange s.heap r 0 j 1 t u v from hr') j1 j2 E R fun h' tk acc kp it=>h h' tk _ kp (ri it)
theorem jh {G0 H0 G:Hp} {x:Value} {xs:List V} {ds kd:List Da} {lam:Da->Option Da} {O:KeyOrd} {κ:SortKind} {d0:O.α} {ks:List O.α} {fv:Addr} (I:Inv X pins σ H s) (E0:Ext G0 H0 G H) (col:iq X.prog X.w X.A.in1 s x xs) (dl:bP X.K G ds xs)
 (L:wt X X.A.in1.in1 (.ref fv) σ G0 H0 lam) (hk:vu lam ds=some kd) (h64:OkN ks) (hks:ks.length=kd.length)
 (cmp:∀ (s':Shared) (G' H':Hp) (pins':List (Addr×Obj)) (kvs:List V) (us:List Value),Inv X pins' σ H' s'->bQ G' H'->bP X.K G' kd kvs->cq kvs us->oh X.prog X.w X.A.in1.in1 s' us O κ (fun i=>ks.getD i d0)) {Q:VK}
 (k:∀ D G' H',Ext G H G' H'->H' D=none->Q (.ref D) (upd H' D (.lst ((jY O d0 ks).map fun i=>xs.getD i .non)))):wpAny (model X.prog X.w) X.A (call (.builtin "sorted") [x] [(Str.ofString "key",.ref fv)]) (EP X pins σ Q) X.xe s:=by
 have sz:sizeLine=16777216:=sizeLine_eq
 have hld:xs.length=ds.length:=dl.length
 have hlk:kd.length=ds.length:=ir hk
 have h127:ds.length<=127:=by rcases h64 with h | h<;>lia
 refine call_function_entry_kw kind_sorted plain_sorted entry_sorted (ksk_s1 _ _) ?_
 unfold Builtin.«sorted»
 refine wpAny_bind (m:=checkCount "sorted" 1 1 _) (wpAny_pure (wpAny_bind (col _ _ fun h1 tk vs k1 rv=>?_)))
 have hlv:xs.length=vs.length:=rv.length
 refine wpAny_bind (wpAny_newList ?_ (by lia))
 have I0:Inv X pins σ H { s with heap:=h1,toks:=tk }:=I.kept (t':=tk) k1
 have hoD:(h1.push (seqObj "list" vs.toArray 0)).get? h1.objs.size=some (seqObj "list" vs.toArray 0):=af _ rfl
 have I1:Inv X ((h1.objs.size,seqObj "list" vs.toArray 0)::pins) σ H { s with heap:=h1.push (seqObj "list" vs.toArray 0),toks:=tk }:=I0.pinNew (t':=tk) (fun b u e=>aa _ e) (aj _) hoD ft
 have h0:X.s₀.heap.objs.size<=h1.objs.size:=I0.sz
 have hne:∀ q∈X.pn++pins,q.1≠h1.objs.size:=fun q hq=>aH (au (I0.pin q hq).1)
 show wpAny _ _ _ _ _ { s with heap:=h1.push (seqObj "list" vs.toArray 0),toks:=tk }
 refine wpAny_bind (wpAny_holding (wpAny_call_entry_kw slot_list_sort ⟨_,hoD,rfl⟩ entry_list_sort ?body (ksk_l1 _ _)))
 case body =>
  show wpAny (model X.prog X.w) X.A.in1.in1 (Builtin.«list.sort» ⟨[.ref h1.objs.size],[(Str.ofString "key",.ref fv)]⟩) _ _ _
  rw [ksk_t1]
  refine t8 I1 E0 h0 hne L dl rv hk h64 hks cmp fun s' G' H' c E' I'=>⟨_,rfl,wpAny_pure ⟨_,rfl,?_⟩⟩
  have hpm:∀ i∈jY O d0 ks,i<xs.length:=fun i hi=>by have:=md hi;lia
  have r2:=gD rv _ hpm
  have hD:H' h1.objs.size=none:=(I'.pin _ (aN _ ak)).2.1
  refine ⟨.ref h1.objs.size,_,I'.adopt h0 hne (show dZ X.prog X.w _ s'.heap _ (.lst ((jY O d0 ks).map fun i=>xs.getD i .non)) from ⟨by rw [ab,p6];lia,_,c,r2,I'.pinGet⟩),rfl,k _ G' H' E' hD⟩
theorem pV {A:Around} {ns:List Int} {s':Shared} {G':Hp} {kvs:List V} {us:List Value} (dk:bP X.K G' (ns.map Da.int) kvs) (rk:cq kvs us):oh X.prog X.w A s' us oH oneType' (fun i=>ns.getD i (0:Int)):=by
 have ek:=bP.ints.mp dk
 subst ek
 have hl:us.length=ns.length:=by rw [<- rk.length,ab]
 have at':∀ i,i<us.length->∃ t,us.getD i Value.none=.int (ns.getD i 0) t:=fun i hi=>by
  have hi':i<ns.length:=by lia
  obtain ⟨u,hu,ru⟩:=rk.get (i:=i) (x:=.int ns[i]) (by rw [av,ae hi'];rfl)
  obtain ⟨t,rfl⟩:=ru
  refine ⟨t,?_⟩
  rw [ay,hu,ay,ae hi'];rfl
 refine ⟨fun h2 Q q=>?_,fun i j C hi hj c=>?_⟩
 ·refine PySem.W.kas_kind (T:=.type "int") h2 (fun v hv=>?_) (by decide) (by decide) q
  obtain ⟨i,hi,rfl⟩:=bv hv
  obtain ⟨t,e⟩:=at' i hi
  have e2:us[i]=.int (ns.getD i 0) t:=by rw [<- e];simp [hi]
  rw [e2]
  exact .now
 ·show wpAny (model X.prog X.w) _ (keyLt' oneType' (us.getD i Value.none) (us.getD j Value.none)) C _ _
  obtain ⟨t,e1⟩:=at' i hi
  obtain ⟨t',e2⟩:=at' j hj
  rw [e1,e2]
  exact PySem.W.kat_lt_int c
theorem CJ {K:PySem.W.Frag} {G:Hp}:∀ {kd:List Da} {ts:List (List Int)} {kvs:List V},hkD kd=some ts->bP K G kd kvs->∀ i,i<ts.length->∃ (a b:Addr) (n:Int) (ns:List Int),kvs[i]?=some (.ref a)/\G a=some (.tup [.int n,.ref b])/\G b=some (.tup (ns.map V.int))/\ts.getD i []=n::ns:=by
 intro kd
 fun_induction hkD kd with
 | case1=>intro ts kvs e d i hi;cases e;cases hi
 | case2 n xs r ns ts0 er en ih =>
   intro ts kvs e d i hi
   cases e
   obtain ⟨x,rr,rfl,d1,d2⟩:=d
   obtain ⟨a,ys,rfl,ga,da⟩:=d1
   obtain ⟨y1,r1,rfl,e1,da2⟩:=da
   obtain ⟨y2,r2,rfl,e2,e3⟩:=da2
   cases (show r2=[] from e3)
   cases (show y1=.int n from e1)
   obtain ⟨b,zs,rfl,gb,db⟩:=e2
   rw [eI en] at db
   have ez:=bP.ints.mp db
   subst ez
   cases i with
   | zero=>exact ⟨a,b,n,ns,rfl,ga,gb,rfl⟩
   | succ i =>
     obtain ⟨a',b',n',ns',h1,h2,h3,h4⟩:=ih er d2 i (by simpa using hi)
     exact ⟨a',b',n',ns',by simpa using h1,h2,h3,by simpa using h4⟩
 | case3=>intro ts kvs e;cases e
 | case4=>intro ts kvs e;cases e
theorem tZ {A:Around} {pins':List (Addr×Obj)} {kd:List Da} {ts:List (List Int)} {s':Shared} {G' H':Hp} {kvs:List V} {us:List Value} (hk:hkD kd=some ts) (hlen:ts.length=kd.length) (I':Inv X pins' σ H' s') (sm:bQ G' H') (hu:A.units<cLine)
 (dk:bP X.K G' kd kvs) (rk:cq kvs us):oh X.prog X.w A s' us yt (tuples' true) (fun i=>ts.getD i []):=by
 have hl:us.length=ts.length:=by rw [<- rk.length,dk.length,hlen]
 have at':∀ i,i<us.length->∃ (a b:Addr) (n:Int) (t:Tok) (ns:List Int) (o:Obj) (m:Nat),us.getD i Value.none=.ref a/\ts.getD i []=n::ns/\s'.heap.get? a=some o/\o.cls=.type "tuple"/\o.data=.seq #[.int n t,.ref b] m/\H' b=some (.tup (ns.map V.int)):=fun i hi=>by
  obtain ⟨a,b,n,ns,h1,h2,h3,h4⟩:=CJ hk dk i (by lia)
  obtain ⟨u,hu,ru⟩:=rk.get h1
  cases (show u=Value.ref a from ru)
  obtain ⟨_,its,rv,o,ho,hc,m,hd⟩:=I'.hok a _ (sm _ _ h2)
  obtain ⟨u1,u2,rfl,e1,e2⟩:=cq.two rv
  obtain ⟨t,rfl⟩:=e1
  cases (show u2=Value.ref b from e2)
  exact ⟨a,b,n,t,ns,o,m,by rw [ay,hu];rfl,h4,ho,hc,hd,sm _ _ h3⟩
 refine ⟨fun h2 Q q=>?_,fun i j C hi hj c=>?_⟩
 ·have firsts:∀ vs:List Value,(∀ u∈vs,∃ i,i<us.length/\u=us.getD i Value.none)->∃ fs:List Value,PySem.W.KatTups s'.heap vs fs/\vs.length=fs.length/\∀ f∈fs,∃ n t,f=Value.int n t:=fun vs=>by
   induction vs with
   | nil=>exact fun _=>⟨[],.nil,rfl,by simp⟩
   | cons u vs ih =>
     intro hu
     obtain ⟨fs,h1,h2,h3⟩:=ih fun v hv=>hu v (ai _ hv)
     obtain ⟨i,hi,rfl⟩:=hu u (ak)
     obtain ⟨a,b,n,t,ns,o,m,ea,et,ho,hc,hd,hb⟩:=at' i hi
     refine ⟨.int n t::fs,?_,by rw [aD,aD,h2],fun f hf=>?_⟩
     ·rw [ea]
      exact .cons ho hc hd (by simp) h1
     ·rcases ag.mp hf with z | z
      ·exact ⟨n,t,z⟩
      ·exact h3 f z
  obtain ⟨fs,f1,f2,f3⟩:=firsts us fun u hu=>by
   obtain ⟨i,hi,rfl⟩:=bv hu
   exact ⟨i,hi,by simp [hi]⟩
  refine PySem.W.kat_kind (T:=.type "int") f1 (by lia) (fun v hv=>?_) (by decide) q
  obtain ⟨n,t,rfl⟩:=f3 v hv
  exact .now
 ·show wpAny (model X.prog X.w) _ (keyLt' (tuples' true) (us.getD i Value.none) (us.getD j Value.none)) C _ _
  obtain ⟨a,b,n,t,ns,o,m,ea,et,ho,hc,hd,hb⟩:=at' i hi
  obtain ⟨a',b',n',t',ns',o',m',ea',et',ho',hc',hd',hb'⟩:=at' j hj
  have c:C (HT.lexLt (ts.getD i []) (ts.getD j [])) s':=c
  rw [et,et'] at c
  rw [ea,ea']
  refine PySem.W.kat_lt ho hd ho' hd' ?_
  show PySem.W.KatLex X.prog X.w A true (decide (2<2)) C [(Value.int n t,Value.int n' t'),(Value.ref b,Value.ref b')] 0 s'
  refine PySem.W.kat_cons (wpAny_eqBool_int ?_)
  by_cases e:n=n'
  ·subst e
   rw [beq_self_eq_true]
   have hq:HT.lexLt (n::ns) (n::ns')=HT.lexLt ns ns':=by rw [HT.lexLt_cons,if_pos rfl]
   rw [hq] at c
   have e1:ns.map V.int=(ns.map (Sum.inl:Int->Key)).map kV:=by rw [aS];rfl
   have e2:ns'.map V.int=(ns'.map (Sum.inl:Int->Key)).map kV:=by rw [aS];rfl
   have k1:=jg I'.hok (e1▸hb)
   have k2:=jg I'.hok (e2▸hb')
   refine PySem.W.kat_yes (PySem.W.kat_cons ((tupleKind (cz X.prog X.w)).eqBool hu k1 k2 ?_))
   by_cases en:ns=ns'
   ·subst en
    rw [decide_eq_true rfl]
    refine PySem.W.kat_yes (PySem.W.kat_nil ?_)
    have:HT.lexLt ns ns=false:=i9 ns
    rw [this] at c
    exact c
   ·have hne:¬ (ns.map (Sum.inl:Int->Key)=ns'.map Sum.inl):=fun z=>en (by
     have:=congrArg (oA fun k:Key=>match k with | .inl i=>i | .inr _=>0) z
     simpa [aS,Function.comp_def] using this)
    rw [decide_eq_false hne]
    refine PySem.W.kat_no ?_
    show wpAny _ _ (oneLt' false (Value.ref b) (Value.ref b')) _ _ _
    refine PySem.W.kat_one _ _ ?_
    obtain ⟨its,r1,it1,_⟩:=I'.tuple (SqT.of hb)
    obtain ⟨its',r1',it1',_⟩:=I'.tuple (SqT.of hb')
    exact HT.lt_tupInts it1 it1' (fI r1) (fI r1') hu c
  ·rw [show (n == n')=false from beq_eq_false_iff_ne.mpr e]
   have hq:HT.lexLt (n::ns) (n'::ns')=decide (n<n'):=by rw [HT.lexLt_cons,if_neg e]
   rw [hq] at c
   exact PySem.W.kat_no (oneLt_int c)
end
def tM (kd:List Da):Option (List Nat):=match fj kd with
 | some ns=>if OkN ns then some (jY oH (0:Int) ns) else none
 | none=>match hkD kd with
   | some ts=>if OkN ts then some (jY yt ([]:List Int) ts) else none
   | none=>none
def pN (lam:Da->Option Da) (ds:List Da):Option (List Da):=if ds.length<128 then (match vu lam ds with
 | none=>none
 | some kd=>match tM kd with
   | none=>none
   | some pl=>some (pl.map fun i=>ds.getD i .non)) else none
def mT (ix:List (Option Nat)) (i0:Nat) (fi:Rho->Option (List Da)) (g:Rho->Option Rv):Rho->Option Rv:=fun ρ=>match fi ρ with
 | none=>none
 | some ds=>match pN (Ab ix i0 g ρ) ds with
   | none=>none
   | some es=>some (.fr,.lst es)
section
variable {X:Cx} {pins:List (Addr×Obj)} {σ:St} {H:Hp} {s:Shared}
theorem nP (hu:X.A.in1.in1.units<cLine) {B G0 H0 G:Hp} {x:Value} {xs:List V} {ds es:List Da} {lam:Da->Option Da} {fv:Addr} (I:Inv X pins σ H s) (E0:Ext G0 H0 G H) (col:iq X.prog X.w X.A.in1 s x xs) (dl:bP X.K G ds xs)
 (L:wt X X.A.in1.in1 (.ref fv) σ G0 H0 lam) (hs:pN lam ds=some es) {Q:VK} (k:∀ v G' H',Ext G H G' H'->eu X.K B H G' H' (.fr,.lst es) v->Q v H') :
 wpAny (model X.prog X.w) X.A (call (.builtin "sorted") [x] [(Str.ofString "key",.ref fv)]) (EP X pins σ Q) X.xe s:=by
 unfold pN at hs
 split at hs
 case isFalse=>cases hs
 case isTrue h64 =>
 split at hs
 ·cases hs
 ·rename_i kd hkd
  split at hs
  ·cases hs
  ·rename_i pl hpl
   cases hs
   unfold tM at hpl
   split at hpl
   ·rename_i ns hns
    split at hpl
    case isFalse=>cases hpl
    rename_i hok
    cases hpl
    have ekd:=eI hns
    subst ekd
    refine jh (O:=oH) (κ:=oneType') (d0:=(0:Int)) (ks:=ns) I E0 col dl L hkd hok (ab _).symm (fun s' G' H' pins' kvs us _ _ dk rk=>pV dk rk) fun D G' H' E' hD=>?_
    refine k _ G' _ (E'.trans (Ext.own E'.gh hD)) ⟨D,_,rfl,E'.hh.free hD,E'.gh.free hD,aL,_,rfl,iC (K:=X.K) (G:=G') _ fun i hi=>?_⟩
    have hi':i<ds.length:=by
     have h1:i<ns.length:=md (O:=oH) hi
     have h2:=ir hkd
     rw [ab] at h2
     exact h2▸h1
    obtain ⟨v,hv,dv⟩:=dl.get (i:=i) (getD_some hi' .non)
    have e:xs.getD i .non=v:=by rw [ay,hv];rfl
    show Den X.K G' (ds.getD i .non) (xs.getD i .non)
    rw [e]
    exact Den.mono E'.gg _ dv
   ·split at hpl
    ·rename_i ts hts
     split at hpl
     case isFalse=>cases hpl
     rename_i hok
     cases hpl
     have hln:=yd hts
     refine jh (O:=yt) (κ:=tuples' true) (d0:=([]:List Int)) (ks:=ts) I E0 col dl L hkd hok hln (fun s' G' H' pins' kvs us I' sm dk rk=>tZ hts hln I' sm hu dk rk) fun D G' H' E' hD=>?_
     refine k _ G' _ (E'.trans (Ext.own E'.gh hD)) ⟨D,_,rfl,E'.hh.free hD,E'.gh.free hD,aL,_,rfl,iC (K:=X.K) (G:=G') _ fun i hi=>?_⟩
     have hi':i<ds.length:=by
      have h1:i<ts.length:=md (O:=yt) hi
      have h2:=ir hkd
      lia
     obtain ⟨v,hv,dv⟩:=dl.get (i:=i) (getD_some hi' .non)
     have e:xs.getD i .non=v:=by rw [ay,hv];rfl
     show Den X.K G' (ds.getD i .non) (xs.getD i .non)
     rw [e]
     exact Den.mono E'.gg _ dv
    ·cases hpl
end
structure Mkr (X:Cx) (c P:Addr):Prop where
 code:X.env.code=.ref c
 hd:PySem.W.CodeHd X.base c P
 tab:(P,X.env.qual++"<lambda>")∈eL X.K
 bm:Bm X.mg X.base
section
variable {X:Cx} {a e body:Expr} {params:Arguments} {scope:Scope} {p p2 pos pos2 kpos lpos:Pos} {c P:Addr} {ix:List (Option Nat)} {x:Str} {i0:Nat} {g:Rho->Option Rv} {ga:Rho->Option (List Rv)}
structure x5 (X:Cx) (params:Arguments) (body:Expr) (scope:Scope) (ix:List (Option Nat)) (x:Str) (i0:Nat) (g:Rho->Option Rv):Prop where
 S:qd X scope ix x i0
 df:defaultsOf params X.env=([],[])
 bind:∀ (q:Str) (cl:List (Str×Addr)) (pm cd ctv u:Value),bindArgs (PySem.W.kla_fn "<lambda>" q params body scope cl pm cd ctv) ⟨[u],[]⟩=pure [(x,u)]
 body:∀ (q:Str) (f c':Addr) (s:Shared) (H:Hp),PX (wq X X.A.in1.in1 scope q f c' s H) body g
theorem rn {pins:List (Addr×Obj)} {s1:Shared} {σ:St} {H H1 B G G1:Hp} {ρ:Rho} {u:Value} {xs:List V} {ds es:List Da} {Q:VK} (hc:X.calm=true) (hr:fq 2 X.A) (M:Mkr X c P) (Lm:x5 X params body scope ix x i0 g)
 (I1:Inv X pins σ H1 s1) (sb:bQ B H) (st:fm X.K B G H σ ρ) (E1:Ext G H G1 H1) (col:∀ (s2:Shared) (H2:Hp),Inv X pins σ H2 s2->bQ H1 H2->iq X.prog X.w X.A.in1 s2 u xs) (dl:bP X.K G1 ds xs) (hs:pN (Ab ix i0 g ρ) ds=some es)
 (k:∀ v G' H',Ext G H G' H'->eu X.K B H G' H' (.fr,.lst es) v->Q v H') :
 wpAny (model X.prog X.w) X.A (evalAll ((backToKw pos (keywordEach [⟨some "key",.Lambda params body scope lpos,kpos⟩] X.env)).map (·.2)))
  (fun kvs s₂=>wpAny (model X.prog X.w) X.A (call (.builtin "sorted") [u] (((backToKw pos (keywordEach [⟨some "key",.Lambda params body scope lpos,kpos⟩] X.env)).filterMap (·.1)).zip kvs)) (EP X pins σ Q) X.xe s₂) X.xe s1:=by
 show wpAny _ _ (evalAll ((do let v <- eval (.Lambda params body scope lpos) X.env;standAt pos;pure v)::[])) _ _ s1
 refine wpAny_evalAll_cons (wpAny_bind (wK I1 M.bm M.code M.hd (E1.gh _ _ (E1.gg _ _ (st.tg _ M.tab))) rfl (Lm.S.toCScope.cells I1) Lm.df fun f c' pm ctv s2 H2 I2 hf0 hf hc' ext=>wpAny_bind (wpAny_standAt (wpAny_pure (wpAny_evalAll_nil ?_)))))
 show wpAny (model X.prog X.w) X.A (call (.builtin "sorted") [u] [(Str.ofString "key",.ref f)]) (EP X pins σ Q) X.xe s2
 have E2:=ext G1 E1.gh
 have E12:=E1.trans E2
 have L:=A9 (A:=X.A.in1.in1) (B:=B) (G0:=G1) (H0:=H2) (ρ:=ρ) (g:=g) (σ:=σ) (pm:=pm) (ctv:=ctv) Lm.S (show X.A.in1.in1.handled=none from hr.hd) rfl (hr.in1.in1.depth) (fun u=>Lm.bind _ _ _ _ _ u) (fun s H=>Lm.body _ f c' s H) (sb.trans E12.hh) (st.ext E12) hf hc'
 refine nP (show X.A.in1.in1.units<cLine from by have:=hr.un;show X.A.units+1+1<cLine;lia) (B:=B) I2 (Ext.refl E12.gh) (col s2 H2 I2 E2.hh) dl L hs fun v G' H' E' rv=>?_
 refine k v G' H' (E12.trans E') ?_
 exact rv.base E12.hh
theorem pj (hc:X.calm=true) (hr:fq 2 X.A) (hg:Gl X "sorted") (hm:X.mg "sorted" = none) (hg2:Gl X "range") (hm2:X.mg "range" = none) (M:Mkr X c P) (Lm:x5 X params body scope ix x i0 g) (ha:PXA X [a] ga)
 (hs:starEach [a] X.env=[(false,eval a X.env)]:=by exact aX rfl) (he:starEach [.Call (.Name "range" p2) [a] [] pos2] X.env=[(false,eval (.Call (.Name "range" p2) [a] [] pos2) X.env)]:=by rfl) :
 PX X (.Call (.Name "sorted" p) [.Call (.Name "range" p2) [a] [] pos2] [⟨some "key",.Lambda params body scope lpos,kpos⟩] pos) (mT ix i0 (mB ga) g):=by
 intro pins s σ H Q I ⟨B,G,ρ,r,sg,sb,st,eq,k⟩
 unfold mT at eq
 split at eq
 ·cases eq
 ·rename_i ds efi
  split at eq
  ·cases eq
  ·rename_i es ees
   cases eq
   unfold mB at efi
   split at efi
   ·rename_i kd j ej
    split at efi
    ·rename_i hj
     cases efi
     have hds:(dq 0 j.toNat).length<128:=by
      unfold pN at ees
      split at ees
      ·assumption
      ·cases ees
     have hdn:(dq 0 j.toNat).length=j.toNat:=by
      have:=(iH (K:=X.K) (G:=G) j.toNat 0).length
      rw [ab,km] at this
      exact this.symm
     refine wpAny_Call_Name_kw (fL (u:=.builtin "sorted") I hg hm (by decide +kernel) ?_)
     refine callWith_kw (thn (gJ (mR hg2 hm2 ha hs) j5 he pos pins s σ H (fun vs H1=>∃ G1 rr,vs=[.ref rr]/\Ext G H G1 H1/\H1 rr=some (.rng 0 j)) I ?_) fun us s1 ⟨vs,H1,I1,r1,G1,rr,ev,E1,hrr⟩=>?_) (by rw [he];rfl) (by rw [he];rfl)
     ·refine ⟨B,G,ρ,_,sg,sb,st,ej,fun vs G1 H1 E1 r1=>?_⟩
      obtain ⟨v,rfl,r2⟩:=du.one r1
      refine ⟨j,by rw [r2.int],fun rr hrr=>?_⟩
      exact ⟨G1,rr,rfl,E1.trans (Ext.own E1.gh hrr),aL⟩
     ·subst ev
      obtain ⟨u,rfl,ru⟩:=kD r1
      cases ru
      refine rn hc hr M Lm I1 sb st E1 (xs:=(bi j.toNat).map fun (i:Nat)=>V.int (i:Int)) (fun s2 H2 I2 sm=>wo I2 (I2.ok.hd hc) (sm _ _ hrr) hj.1 (by lia)) (by rw [dR];exact iH j.toNat 0) ees k
    ·cases efi
   ·cases efi
end
end Ry
namespace Ry
open PySem PySem.Spec PyProof.Rows L2
section
variable {X:Cx} {e:Expr} {es:List Expr} {p pos:Pos} {g:Rho->Option (List Rv)}
end
end Ry
namespace Ry
open PySem PySem.Spec PyProof.Rows L2
section
variable {prog:Program} {w:World} {A:Around} {E:Value->Shared->Prop} {s:Shared}
end
section
variable {X:Cx} {a b e:Expr} {p p2 pos pos2:Pos} {fa fb:Rho->Option Rv} {g:Rho->Option (List Rv)}
end
end Ry
namespace Ry
open PySem PySem.Spec PyProof.Rows L2
section
variable {prog:Program} {w:World} {A:Around} {E:Value->Shared->Prop} {s:Shared}
end
section
variable {X:Cx} {e:Expr} {p pos:Pos} {f:Rho->Option Rv}
end
end Ry
namespace Ry
open PySem PySem.Spec PyProof.Rows L2
section
variable {prog:Program} {w:World} {A:Around} {E:Value->Shared->Prop} {s:Shared}
theorem i5 {it t:Addr} {i:Nat} {items:Array Value} {x:Value} {Q:Value->Shared->Prop} (hit:s.heap.IsTupleIter it t i) (ht:s.heap.IsTuple t items) (hx:items[i]?=some x)
 (hQ:∀ h',h'.IsTupleIter it t (i+1)->Heap.SameBut it s.heap h'->Q x { s with heap:=h' }):wpAny (model prog w) A (Builtin.SmallTypes.nextOf (.ref it)) Q E s:=by
 obtain ⟨o,ho,hc,hd⟩:=id hit
 obtain ⟨ol,hol,_,nl,hdl⟩:=ht
 unfold Builtin.SmallTypes.nextOf
 refine wpAny_bind (wpAny_callSpecial?_slot (name:=Str.ofString "__next__") hit.typeIs PySem.F.slot_tuple_iterator_next
  (wpAny_call_entry PySem.F.slot_tuple_iterator_next hit.typeIs PySem.F.entry_tuple_iterator_next ?_ (PySem.F.args_tuple_iterator_next_1 _)))
 show wpAny _ _ (field (.ref it) 0>>=_) _ _ s
 refine wpAny_bind (wpAny_field ho hd (x:=.ref t) rfl ?_)
 show wpAny _ _ (if (Value.ref t == Value.none)=true then _ else _) _ _ s
 rw [if_neg (show ¬ ((Value.ref t == Value.none)=true) from ah)]
 show wpAny _ _ (field (.ref it) 1>>=_) _ _ s
 refine wpAny_bind (wpAny_field ho hd (x:=.int i 0) rfl ?_)
 show wpAny _ _ (seqItems? (.ref t)>>=_) _ _ s
 refine wpAny_bind (wpAny_seqItems hol hdl ?_)
 simp only [bn,hx]
 refine wpAny_bind (wpAny_setField ho hd (by simp) (wpAny_pure ⟨x,rfl,wpAny_pure (hQ _ ?_ (Heap.SameBut.update ..))⟩))
 exact ⟨_,bb _ ho (bT (bF hd _)),(dN ..).trans hc,by
  rw [bF hd];simp [rawInt]⟩
theorem jw {it t:Addr} {i:Nat} {items:Array Value} {Q:Value->Shared->Prop} (hh:A.handled=none) (hit:s.heap.IsTupleIter it t i) (ht:s.heap.IsTuple t items) (hx:items[i]?=none)
 (hE:∀ h' e,Heap.ExtBut it s.heap h'->(∃ o,h'.get? e=some o/\o.cls=.type "StopIteration")->E (.ref e) { s with heap:=h' }):wpAny (model prog w) A (Builtin.SmallTypes.nextOf (.ref it)) Q E s:=by
 obtain ⟨o,ho,hc,hd⟩:=id hit
 obtain ⟨ol,hol,_,nl,hdl⟩:=ht
 unfold Builtin.SmallTypes.nextOf
 refine wpAny_bind (wpAny_callSpecial?_slot (name:=Str.ofString "__next__") hit.typeIs PySem.F.slot_tuple_iterator_next
  (wpAny_call_entry PySem.F.slot_tuple_iterator_next hit.typeIs PySem.F.entry_tuple_iterator_next ?_ (PySem.F.args_tuple_iterator_next_1 _)))
 show wpAny _ _ (field (.ref it) 0>>=_) _ _ s
 refine wpAny_bind (wpAny_field ho hd (x:=.ref t) rfl ?_)
 show wpAny _ _ (if (Value.ref t == Value.none)=true then _ else _) _ _ s
 rw [if_neg (show ¬ ((Value.ref t == Value.none)=true) from ah)]
 show wpAny _ _ (field (.ref it) 1>>=_) _ _ s
 refine wpAny_bind (wpAny_field ho hd (x:=.int i 0) rfl ?_)
 show wpAny _ _ (seqItems? (.ref t)>>=_) _ _ s
 refine wpAny_bind (wpAny_seqItems hol hdl ?_)
 simp only [bn,hx]
 refine wpAny_bind (wpAny_rule (wpAny_bind (wpAny_setField ho hd (by simp) ?_)))
 show wpAny _ _ (newExc (.type "StopIteration") []>>=_) _ _ _
 refine wpAny_bind ?_
 simp only [newExc,newTuple]
 refine wpAny_bind (wpAny_newObj_type ?_ (by size_fits))
 refine wpAny_bind (m:=firstArgMember _ _) (wpAny_of_eq (a:=Value.none) (by first | rfl | (simp only [firstArgMember];rfl)) ?_)
 refine wpAny_newObj_type ?_ (by size_fits)
 simp only [raiseNew]
 refine wpAny_bind (wpAny_handled ?_)
 first | rw [show A.in1.handled=none from hh] | rw [hh]
 refine wpAny_bind (wpAny_pure (wpAny_throw ?_))
 exact hE _ _ (((Heap.SameBut.update ..).extBut.push _).push _) ⟨_,af _ rfl,rfl⟩
end
theorem jN {prog:Program} {w:World} {A:Around} (hh:A.handled=none) (it t:Addr) (hne:t≠it) (items:Array Value) :
 Draws prog w A it [it,t] items.size (fun i v=>items[i]?=some v) (fun i h=>h.IsTupleIter it t i/\h.IsTuple t items) where
 live:=fun _ _ st=>let ⟨o,ho,_⟩:=st.1;⟨o,ho⟩
 frame:=fun _ _ _ st hk=>⟨let ⟨o,e,r⟩:=st.1;⟨o,hk it (by simp) o e,r⟩,let ⟨o,e,r⟩:=st.2;⟨o,hk t (by simp) o e,r⟩⟩
 item:=fun i s Q E hi st hQ=>by
  refine i5 st.1 st.2 (x:=items[i]) (by simp [hi]) fun h' hit' hs'=>?_
  exact hQ _ h' s.toks (by simp [hi]) ⟨hit',let ⟨o,e,r⟩:=st.2;⟨o,(hs'.2 t hne).trans e,r⟩⟩ hs'
 done:=fun s Q E st hE=>jw hh st.1 st.2 (by simp) hE
open AutoSeq1 (wpAny_loadPart') in
theorem kF (l:Addr) (items:Array Value) (n:Nat) (dct:Option Addr) (sl:Array (Option Value)) :
 Meets (Builtin.«enumerate.__new__» ⟨[.type "enumerate",.ref l],[]⟩) (fun _ R s=>s.heap.get? l=some { cls:=.type "tuple",dict:=dct,data:=.seq items n,slots:=sl } /\
  R (.ok (.ret (.ref (s.heap.push { cls:=.type "tuple_iterator",data:=.fields #[.ref l,.int 0 0] }).objs.size)))
    { s with heap:=(s.heap.push { cls:=.type "tuple_iterator",data:=.fields #[.ref l,.int 0 0] }).push { cls:=.type "enumerate",data:=.fields #[.none,.bool false,.ref s.heap.objs.size,rawInt 0,.none,.none] } }) :=
 .of_wp fun prog w A R s h=>by
  obtain ⟨hp,g,d,tk,os⟩:=s;obtain ⟨hl,h⟩:=h
  have hsub:=sub_enumerate
  have hL:Heap.IsTuple (Shared.heap ⟨hp,g,d,tk,os⟩) l items:=⟨_,hl,rfl,n,rfl⟩
  wp_walk using wpAny_loadPart' hl
  refine wpAny_stack_any fun st=>wpAny_pure ?_
  split
  ·rename_i c _ _ _ _ _
   cases (c == Value.type "enumerate")
   ·wp_walk using wpAny_loadPart' hl,wpAny_pyIter_tuple hL
    exact ⟨_,rfl,h⟩
   ·wp_walk using wpAny_loadPart' hl,wpAny_pyIter_tuple hL
    exact ⟨_,rfl,h⟩
  ·wp_walk using wpAny_loadPart' hl,wpAny_pyIter_tuple hL
   exact ⟨_,rfl,h⟩
theorem g5 {prog:Program} {w:World} {A:Around} {E:Value->Shared->Prop} {s:Shared} {l:Addr} {items:Array Value} {Q:Value->Shared->Prop} (hL:s.heap.IsTuple l items)
 (h:∀ h',IsEnum h' (s.heap.objs.size+1) s.heap.objs.size 0 .none->h'.IsTupleIter s.heap.objs.size l 0->h'.objs.size=s.heap.objs.size+2 ->
   (∀ b o,s.heap.get? b=some o->h'.get? b=some o)->Q (.ref (s.heap.objs.size+1)) { s with heap:=h' }) :
 wpAny (model prog w) A (call (.type "enumerate") [.ref l]) Q E s:=by
 obtain ⟨⟨c,dct,dt,sl⟩,hl,hc,n,hd⟩:=hL
 replace hc:c=.type "tuple":=hc
 replace hd:dt=.seq items n:=hd
 subst hc hd
 refine callType_new PySem.F.called_enumerate (by decide) (PySem.F.typeCall_enumerate_1 _) (PySem.F.newCall_enumerate_1 _) (fun obj=>PySem.F.args_object_init_2 obj _) PySem.F.entry_enumerate_new
  (kF l items n dct sl) ⟨hl,?_⟩
 have hz:(s.heap.push { cls:=.type "tuple_iterator",data:=.fields #[.ref l,.int 0 0] }).objs.size=s.heap.objs.size+1:=bV ..
 show _/\_
 rw [hz]
 have he:IsEnum ((s.heap.push { cls:=.type "tuple_iterator",data:=.fields #[.ref l,.int 0 0] }).push
  { cls:=.type "enumerate",data:=.fields #[.none,.bool false,.ref s.heap.objs.size,rawInt 0,.none,.none] }) (s.heap.objs.size+1) s.heap.objs.size 0 .none:=by
  have:=af (s.heap.push { cls:=.type "tuple_iterator",data:=.fields #[.ref l,.int 0 0] })
   (o:={ cls:=.type "enumerate",data:=.fields #[.none,.bool false,.ref s.heap.objs.size,rawInt 0,.none,.none] }) rfl
  rw [hz] at this;exact this
 refine ⟨⟨_,he,rfl⟩,h _ he ⟨_,aa _ (af _ rfl),rfl,rfl⟩ (by rw [bV,hz]) fun b o x=>aa _ (aa _ x)⟩
def Cj (K:PySem.W.Frag) (a:Addr):It :=
 ⟨fun i H=>∃ xs x,SqT K H a xs/\xs[i]?=some x,fun i H x H'=>∃ l y,x=.ref l/\H l=none/\(∀ xs,SqT K H a xs->xs[i]?=some y)/\H'=upd H l (.tup [.int i,y]),fun i H=>∃ xs,SqT K H a xs/\xs.length=i⟩
theorem rS {P:Program} {w:World} {K:PySem.W.Frag} {elts:List Expr} {x1:Nat} {pos:Pos} (a e it:Addr) (hei:e≠it):xw P w K (.Tuple elts x1 pos) (Cj K a) [e,it] e (fun i h=>(∃ old,IsEnum h e it i old)/\h.IsTupleIter it a i) where
 mem:=by simp
 obj:=fun i h st b hb=>by
  obtain ⟨⟨old,he⟩,hit⟩:=st
  rcases ag.mp hb with q | q
  ·subst q;exact ⟨_,he,fun v z=>by cases z⟩
  ·rw [am] at q;subst q
   obtain ⟨o,eo,c,d⟩:=hit
   exact ⟨o,eo,fun v z=>by rw [d] at z;cases z⟩
 keep:=fun i h h' st k=>by
  obtain ⟨⟨old,he⟩,o,eo,r⟩:=st
  exact ⟨⟨old,k e (by simp) _ he⟩,o,k it (by simp) o eo,r⟩
 item:=by
  intro X hP hw hK hc i pins s σ H E I hf st hg
  subst hP hw hK
  obtain ⟨xs,x,hq,hx⟩:=hg
  obtain ⟨⟨old,he⟩,hit⟩:=st
  obtain ⟨its,rv,p,hz⟩:=I.tuple hq
  obtain ⟨u,hu,ru⟩:=rv.get hx
  have fe:=hf e (by simp)
  have fi:=hf it (by simp)
  have le:e<s.heap.objs.size:=au he
  have li:it<s.heap.objs.size:=by obtain ⟨_,y,_⟩:=id hit;exact au y
  have hia:a≠it:=fun z=>by
   obtain ⟨o1,e1,c1,_⟩:=id hit
   obtain ⟨o2,e2,c2,_⟩:=id p
   rw [z,e1] at e2
   cases e2
   rw [c1] at c2
   injection c2 with z2
   exact absurd z2 (by decide)
  have hea:e∉[it,a]:=fun z=>by
   rcases ag.mp z with q | q
   ·exact hei q
   ·rw [am] at q
    obtain ⟨o2,e2,c2,_⟩:=id p
    have he':s.heap.get? e=some _:=he
    rw [q,e2] at he'
    cases he'
    injection c2 with z2
    exact absurd z2 (by decide)
  have hlt:i<its.toArray.size:=by
   rw [aq,<- rv.length]
   exact (al.mp hx).1
  refine wpAny_pyNext_enum_itemD (jN (A:=X.A.in1) (I.ok.hd hc) it a hia its.toArray) he ⟨hit,show s.heap.IsTuple a its.toArray from p⟩ hlt hei hea fun x' h' tk hP' ho hst' hT hsz hk=>⟨_,rfl,wpAny_letOwnedTupleGo_enum ho fun h2 he2 hs2=>?_⟩
  have exu:x'=u:=by
   have h1:its.toArray[i]?=some u:=by simpa using hu
   rw [hP'] at h1
   exact Option.some.inj h1
  subst exu
  have fr:=I.hok.fresh (aj s.heap.objs.size)
  have I1:Inv X pins σ (upd H s.heap.objs.size (.tup [.int i,x])) { s with heap:=s.heap.push { cls:=.type "tuple",data:=.seq #[.int i tk,x'] },toks:=tk+1 } :=
   I.laid (t':=tk+1) (o:=.tup [.int i,x]) (fun b o e=>aa _ e) (aj _) ⟨⟨by rw [sizeLine_eq];simp,jj.new _ _⟩,[.int i tk,x'],.cons ⟨_,rfl⟩ (.cons ru .nil),IsTup.new _ _⟩
  have ne:∀ b,b<s.heap.objs.size->upd H s.heap.objs.size (.tup [.int i,x]) b=H b:=fun b hb=>aK (aH hb)
  have f2:∀ b∈[e,it],oG X pins (upd H s.heap.objs.size (.tup [.int i,x])) b:=fun b hb=>by
   have hb2:b<s.heap.objs.size:=by
    rcases ag.mp hb with q | q
    ·rw [q];exact le
    ·rw [am] at q;rw [q];exact li
   have q:=hf b hb
   exact ⟨by rw [ne b hb2];exact q.1,q.2⟩
  have I2:=x9 (h':=h2) (t':=tk+1) I1 (fun b o n1 n2 eb=>by
   rcases Heap.get?_push_cases eb with ⟨rfl,rfl⟩ | q
   ·exact (hs2.2 _ n1).trans hT
   ·exact (hs2.2 _ n1).trans (hk b o n1 n2 q)) (f2 e (by simp)) (f2 it (by simp))
  refine ⟨.ref s.heap.objs.size,_,I2,rfl,⟨_,x,rfl,fr,fun ys hy=>by rw [I.tuple_inj hy hq];exact hx,rfl⟩,⟨⟨_,by simpa using he2⟩,?_⟩,fun b hb=>(f2 b hb).1⟩
  obtain ⟨o3,e3,r3⟩:=hst'.1
  exact ⟨o3,(hs2.2 it hei.symm).trans e3,r3⟩
 done:=by
  intro X hP hw hK hc i pins s σ H E I hf st hg
  subst hP hw hK
  obtain ⟨xs,hq,hx⟩:=hg
  obtain ⟨⟨old,he⟩,hit⟩:=st
  obtain ⟨its,rv,p,hz⟩:=I.tuple hq
  obtain ⟨f0,f1,f2,f3,f4,f5⟩:=hf it (by simp)
  have hl:=rv.length
  have hia:a≠it:=fun z=>by
   obtain ⟨o1,e1,c1,_⟩:=id hit
   obtain ⟨o2,e2,c2,_⟩:=id p
   rw [z,e1] at e2
   cases e2
   rw [c1] at c2
   injection c2 with z2
   exact absurd z2 (by decide)
  have hi:i=its.toArray.size:=by rw [aq];lia
  subst hi
  exact wpAny_pyNext_enum_endD (jN (A:=X.A.in1) (I.ok.hd hc) it a hia its.toArray) he ⟨hit,show s.heap.IsTuple a its.toArray from p⟩ fun h' eb=>⟨rfl,I.turned (t':=s.toks) (fun b o hb e=>eb b o hb e) f0 f1 f3 f4 f5⟩
 self:=fun _ _ _ _ _ st h=>by obtain ⟨⟨old,he⟩,_⟩:=st;exact wpAny_pyIter_enum he h
theorem wv {K:PySem.W.Frag} {G:Hp} {a:Addr} {xs:List V} {ds:List Da} (q:SqT K G a xs) (h:bP K G ds xs):zC K (Cj K a) (jC 0 ds) G:=by
 intro i G' H' s1 s2
 have q2:=lT (s1.trans s2) q
 refine ⟨fun d e=>?_,fun hl=>⟨xs,q2,by rw [nM] at hl;rw [h.length];exact hl⟩⟩
 obtain ⟨c,ec,rfl⟩:=mH e
 obtain ⟨x,hx,dx⟩:=h.get ec
 refine ⟨⟨xs,x,q2,hx⟩,fun y H'' z=>?_⟩
 obtain ⟨l,y',rfl,hl,hs,rfl⟩:=z
 have hy:=hs xs q2
 rw [hx] at hy
 cases hy
 refine ⟨_,Ext.new s2 hl,l,_,rfl,aL,.int i,[x],rfl,by simp [Den],x,[],rfl,Den.mono (s1.trans (bB (s2.free hl))) c dx,rfl⟩
def vi (f:Rho->Option Rv):Rho->Option (List Da):=fun ρ=>match f ρ with
 | some (.pu,.tup ds)=>some (jC 0 ds)
 | _=>none
section
variable {X:Cx} {e:Expr} {elts:List Expr} {x1:Nat} {p pos pt:Pos} {te:TE} {f:Rho->Option Rv}
theorem wT (hg:Gl X "enumerate") (hm:X.mg "enumerate" = none) (he:PE X e te) (hs:starEach [e] X.env=[(false,eval e X.env)]:=by exact aX rfl):PI X (.Tuple elts x1 pt) (.Call (.Name "enumerate" p) [e] [] pos) (fun σ H R=>te σ H fun v H1=>∃ a,v=.ref a/\(∃ xs,SqT X.K H1 a xs)/\R (Cj X.K a) H1):=by
 intro pins s σ H R I h
 refine wpAny_Call_Name_kw (fL I hg hm boot_enumerate ?_ (by decide) (by decide))
 refine PyProof.Rows.callWith_type1 ?_ hs rfl
 rw [hs]
 show wpAny _ _ (spliced ((false,eval e X.env)::backTo pos (starEach [] X.env))) _ _ s
 refine Calls.spliced_cons (thn (he pins s σ H _ I h) fun u s1 ⟨x,H1,I1,r1,a,ex,⟨xs,hq⟩,k⟩=>?_)
 subst ex
 cases r1
 refine Calls.spliced_nil ?_
 obtain ⟨its,rv,pl,z⟩:=I1.tuple hq
 refine g5 (show s1.heap.IsTuple a its.toArray from pl) fun h' he hit hsz kp=>wpAny_pyIter_enum he ?_
 refine ⟨s1.heap.objs.size+1,[s1.heap.objs.size+1,s1.heap.objs.size],_,Cj X.K a,H1,rfl,I1.kept (t':=s1.toks) kp,rS a _ _ (mC (cY _)),⟨⟨_,he⟩,hit⟩,fun b hb=>?_,k⟩
 have hb2:s1.heap.objs.size<=b:=by
  rcases ag.mp hb with q | q
  ·rw [q];exact fF _
  ·rw [am] at q;rw [q];exact aj _
 exact I1.fpOk hb2 (I1.hok.fresh hb2)
theorem tH (hg:Gl X "enumerate") (hm:X.mg "enumerate" = none) (he:PX X e f) (hs:starEach [e] X.env=[(false,eval e X.env)]:=by exact aX rfl):PXI X (.Tuple elts x1 pt) (.Call (.Name "enumerate" p) [e] [] pos) (vi f) :=
 PI.imp (wT hg hm he hs) fun σ H R ⟨B,G,ρ,ds,sg,sb,st,eq,k⟩=>by
  unfold vi at eq
  split at eq
  ·rename_i ds' q
   cases eq
   refine ⟨B,G,ρ,_,sg,sb,st,q,fun v G1 H1 E1 r1=>?_⟩
   obtain ⟨a,xs,rfl,q1,d1⟩:=r1
   exact ⟨a,rfl,⟨xs,lT E1.gh (SqT.of q1)⟩,k _ G1 H1 E1 (wv (SqT.of q1) d1)⟩
  ·cases eq
end
end Ry
namespace Ry
open PySem PySem.Spec PyProof.Rows L2
section
variable {prog:Program} {w:World} {A:Around} {R:Result->Shared->Prop} {I:Addr} {fp wr:List Addr} {n:Nat} {P:Nat->Value->Prop} {St:Nat->Heap->Prop}
theorem uP (W:Walks prog w A.in1 I fp wr n P St) (bt:Nat->Nat->Bool) (hcmp:CmpOf prog w A.in1 .Gt P bt) (S:Addr) (hSf:S∉fp) (d:Value) :
 ∀ (k j:Nat) (s:Shared) (its:Array Value) (c:Nat),n-j=k->j<=n->St j s.heap->s.heap.get? S=some (seqObj "list" its c)->(j=0/\its = #[]\/∃ vb i,j=i+1/\its = #[vb,vb]/\P (argBest bt i) vb) ->
 (∀ v h' tk,(n=0/\v=d\/∃ i,n=i+1/\P (argBest bt i) v)->(∀ b o,b∉wr->b≠S->s.heap.get? b=some o->h'.get? b=some o)->R (.ok (.ret v)) { s with heap:=h',toks:=tk }) ->
 codeAny (model prog w) A (.builtin "max.loop" ⟨[.ref I,.none,.ref S],[(Str.ofString "default",d)]⟩) R s:=by
 have hSw:S∉wr:=fun h=>hSf (W.sub _ h)
 have hname:(toString "max"++toString ".loop" : String) = "max.loop":=by decide
 intro k
 induction k with
 | zero =>
   intro j s its c hk hj hst hS hI hR
   have hin:j=n:=by lia
   subst hin
   refine codeAny_builtin PySem.F.entry_max_loop ?_
   rw [Around.under_plainId PySem.F.plain_max_loop _]
   rcases hI with ⟨rfl,rfl⟩ | ⟨vb,i,rfl,rfl,hP⟩
   ·show wpAny _ A.in1 (seqItems? (.ref S)>>=_) _ _ s
    refine wpAny_bind (wpAny_seqItems hS rfl ?_)
    show wpAny _ A.in1 (tryCatch (pyNext (.ref I)) _>>=_) _ _ s
    refine wpAny_bind (wpAny_tryCatch (W.done s _ _ hst fun h' tk hk'=>?_))
    refine wpAny_bind (wpAny_rule (wpAny_pure ?_))
    exact hR d _ tk (.inl ⟨rfl,rfl⟩) fun b o hbw hbS e=>hk' b o hbw e
   ·show wpAny _ A.in1 (seqItems? (.ref S)>>=_) _ _ s
    refine wpAny_bind (wpAny_seqItems hS rfl ?_)
    show wpAny _ A.in1 (tryCatch (pyNext (.ref I)) _>>=_) _ _ s
    refine wpAny_bind (wpAny_tryCatch (W.done s _ _ hst fun h' tk hk'=>?_))
    have hS':=hk' S _ hSw hS
    show wpAny _ A.in1 (updateSeq S (fun _=>#[])>>=_) _ _ _
    refine wpAny_bind ?_
    refine wpAny_updateSeq hS' rfl (wpAny_bind (wpAny_letGo (wpAny_pure ?_)))
    exact hR vb _ tk (.inr ⟨i,rfl,hP⟩) fun b o hbw hbS e=>(aI _ _ (Ne.symm hbS)).trans (hk' b o hbw e)
 | succ k ih =>
   intro j s its c hk hj hst hS hI hR
   have hlt:j<n:=by lia
   refine codeAny_builtin PySem.F.entry_max_loop ?_
   rw [Around.under_plainId PySem.F.plain_max_loop _]
   rcases hI with ⟨rfl,rfl⟩ | ⟨vb,i,rfl,rfl,hPb⟩
   ·show wpAny _ A.in1 (seqItems? (.ref S)>>=_) _ _ s
    refine wpAny_bind (wpAny_seqItems hS rfl ?_)
    show wpAny _ A.in1 (tryCatch (pyNext (.ref I)) _>>=_) _ _ s
    refine wpAny_bind (wpAny_tryCatch (W.item 0 s _ _ hlt hst fun v h' tk hP hst' hk'=>?_))
    have hS':=hk' S _ hSw hS
    show wpAny _ A.in1 (updateSeq S (fun _=>#[v,v])>>=_) _ _ _
    refine wpAny_bind ?_
    refine wpAny_updateSeq hS' rfl ?_
    rw [hname]
    refine wpAny_pure ⟨plainId_quiet PySem.F.plain_max_loop _,ih 1 _ _ _ (by lia) hlt (W.frame _ _ _ hst' fun b hbf o e=>?_) (bb _ hS' rfl) (.inr ⟨v,0,rfl,rfl,hP⟩) fun v' h'' tk'' hP' hk''=>?_⟩
    ·exact (aI _ _ (fun h:S=b=>hSf (by rw [h];exact hbf))).trans e
    ·exact hR v' h'' tk'' hP' fun b o hbw hbS e=>hk'' b o hbw hbS ((aI _ _ (Ne.symm hbS)).trans (hk' b o hbw e))
   ·show wpAny _ A.in1 (seqItems? (.ref S)>>=_) _ _ s
    refine wpAny_bind (wpAny_seqItems hS rfl ?_)
    show wpAny _ A.in1 (tryCatch (pyNext (.ref I)) _>>=_) _ _ s
    refine wpAny_bind (wpAny_tryCatch (W.item (i+1) s _ _ hlt hst fun v h' tk hP hst' hk'=>?_))
    have hS':=hk' S _ hSw hS
    show wpAny _ A.in1 (tryCatch (holding [v,v] (richCompare .Gt v vb>>=_)) _>>=_) _ _ _
    refine wpAny_bind (wpAny_tryCatch (wpAny_holding (wpAny_bind (hcmp (i+1) (argBest bt i) v vb _ _ _ hP hPb ?_))))
    refine wpAny_bind (wpAny_holding (wpAny_truthy_bool ?_))
    refine wpAny_bind (wpAny_letGo (wpAny_pure ?_))
    cases hb:bt (i+1) (argBest bt i) with
    | true =>
      simp only [if_true]
      refine wpAny_bind ?_
      refine wpAny_updateSeq hS' rfl (wpAny_bind (wpAny_letGo ?_))
      rw [hname]
      refine wpAny_pure ⟨plainId_quiet PySem.F.plain_max_loop _,ih (i+2) _ _ _ (by lia) hlt (W.frame _ _ _ hst' fun b hbf o e=>?_) (bb _ hS' rfl) (.inr ⟨v,i+1,rfl,rfl,by simp only [argBest,hb,if_true];exact hP⟩)
       fun v' h'' tk'' hP' hk''=>?_⟩
      ·exact (aI _ _ (fun h:S=b=>hSf (by rw [h];exact hbf))).trans e
      ·exact hR v' h'' tk'' hP' fun b o hbw hbS e=>hk'' b o hbw hbS ((aI _ _ (Ne.symm hbS)).trans (hk' b o hbw e))
    | false =>
      simp only [bN,if_false]
      refine wpAny_bind (wpAny_letGo ?_)
      rw [hname]
      refine wpAny_pure ⟨plainId_quiet PySem.F.plain_max_loop _,ih (i+2) _ _ c (by lia) hlt hst' hS' (.inr ⟨vb,i+1,rfl,rfl,by simp only [argBest,hb,bN,if_false];exact hPb⟩) fun v' h'' tk'' hP' hk''=>?_⟩
      exact hR v' h'' tk'' hP' fun b o hbw hbS e=>hk'' b o hbw hbS (hk' b o hbw e)
end
theorem u4 (a v:Value):argsOk "max" ⟨[a],[(Str.ofString "default",v)]⟩:=by unfold argsOk;kernel_rfl
section
variable {prog:Program} {w:World} {A:Around} {E:Value->Shared->Prop} {s:Shared} {l:Addr} {xs:Array (Int×Tok)}
theorem nJ {d:Value} {Q:Value->Shared->Prop} (hh:A.handled=none) (hl:s.heap.IsList l (intItems xs))
 (h:∀ v h' tk,(xs.size=0/\v=d\/0<xs.size/\(intItems xs)[argBest (fun i j=>decide (numAt xs i > numAt xs j)) (xs.size-1)]?=some v)->(∀ b o,s.heap.get? b=some o->h'.get? b=some o)->Q v { s with heap:=h',toks:=tk }) :
 wpAny (model prog w) A (call (.builtin "max") [.ref l] [(Str.ofString "default",d)]) Q E s:=by
 have hname:(toString "max"++toString ".loop" : String) = "max.loop":=by decide
 refine wpAny_call (codeAny_call_builtin PySem.F.plain_max PySem.F.entry_max ?_)
 have body:wpAny (model prog w) A.in1 (Builtin.«max» ⟨[.ref l],[(Str.ofString "default",d)]⟩) (fun fin s'=>match fin with
  | .done f=>(match (Except.ok f:Result) with | .ok (.ret v)=>Q v s' | .ok _=>False | .error e=>E e s')
  | .again c'=>c'.quiet=true/\codeAny (model prog w) A c' (fun r s'=>match r with | .ok (.ret v)=>Q v s' | .ok _=>False | .error e=>E e s') s') (fun e s'=>E e s') s:=by
  show wpAny _ A.in1 (Builtin.Builtins.bindParams "max" ["key","default"] 0 ⟨[],[(Str.ofString "default",d)]⟩>>=_) _ _ s
  refine wpAny_bind (wpAny_of_eq (show Builtin.Builtins.bindParams "max" ["key","default"] 0 ⟨[],[(Str.ofString "default",d)]⟩=pure [none,some d] from rfl) ?_)
  refine wpAny_bind (wpAny_pure ?_)
  refine wpAny_bind (iter_intList hl fun s₂ e st hfp hlI=>?_)
  subst e
  refine wpAny_bind (wpAny_newObj_type ?_)
  rw [hname]
  have W:=Walks.list (prog:=prog) (w:=w) (A:=A.in1) hh s.heap.objs.size l hlI (intItems xs)
  refine wpAny_pure ⟨plainId_quiet PySem.F.plain_max_loop _,uP W _ (CmpOf.ints_gt (numAt xs) (fun _ _=>intItems_at)) _ (fun hm=>br _ (hfp _ hm)) d _ 0 _ #[] 0 rfl (aT _) (W.frame _ _ _ st fun b _ o e=>aa _ e) (af _ rfl) (.inl ⟨rfl,rfl⟩) fun v h' tk hP hk=>?_⟩
  refine h v h' tk ?_ (old_kept fun b o hbw e=>hk b o hbw (aH (au e)) (aa _ e))
  have hsz:(intItems xs).size=xs.size:=by simp [intItems]
  rw [hsz] at hP
  rcases hP with z | ⟨i,hi,hP⟩
  ·exact .inl z
  ·exact .inr ⟨by lia,by rw [hi];exact hP⟩
 simp only [checkBuiltinCall,PySem.F.kind_max]
 cases hsig:Manifest.signature? "max" with
 | none=>exact wpAny_pure body
 | some sig =>
   have ha':Bind.checkArgs "max" sig ⟨[.ref l],[(Str.ofString "default",d)]⟩=pure ():=by simpa only [argsOk,hsig] using u4 (.ref l) d
   simp only [ha']
   exact wpAny_pure body
end
theorem j0:∀ (r:List Int) (m:Int),m<=rW m r/\(∀ x∈r,x<=rW m r)/\(rW m r=m\/rW m r∈r)
 | [],m=>⟨Int.le_refl _,by simp,.inl rfl⟩
 | a::r,m=>by
   unfold rW
   by_cases hm:m<a
   ·rw [if_pos hm]
    obtain ⟨h1,h2,h3⟩:=j0 r a
    refine ⟨by lia,fun x hx=>?_,.inr ?_⟩
    ·rcases ag.mp hx with z | z
     ·subst z;exact h1
     ·exact h2 x z
    ·rcases h3 with z | z
     ·rw [z];exact ak
     ·exact ai _ z
   ·rw [if_neg hm]
    obtain ⟨h1,h2,h3⟩:=j0 r m
    refine ⟨h1,fun x hx=>?_,h3.imp id fun z=>ai _ z⟩
    rcases ag.mp hx with z | z
    ·subst z;lia
    ·exact h2 x z
theorem tz {a:Int} {r:List Int} {v:Int} (hm:v∈a::r) (hle:∀ x∈a::r,x<=v):rW a r=v:=by
 obtain ⟨h1,h2,h3⟩:=j0 r a
 have h4:rW a r∈a::r:=h3.elim (fun z=>by rw [z];exact ak) fun z=>ai _ z
 have h5:=hle _ h4
 rcases ag.mp hm with z | z
 ·subst z;lia
 ·have:=h2 v z;lia
def nW (d:Int):List Int->Int
 | []=>d
 | a::r=>rW a r
def rL (f g:Rho->Option Rv):Rho->Option Rv:=fun ρ=>match f ρ,g ρ with
 | some (_,.lst ds),some (_,.int d)=>(match fj ds with
   | some ns=>some (.pu,.int (nW d ns))
   | none=>none)
 | _,_=>none
theorem yz {X:Cx} {e e2:Expr} {p pos kpos:Pos} {fe fd:Rho->Option Rv} (hc:X.calm=true) (hg:Gl X "max") (hm:X.mg "max" = none) (ha:PX X e fe) (hb:PX X e2 fd)
 (he:starEach [e] X.env=[(false,eval e X.env)]:=by exact aX rfl):PX X (.Call (.Name "max" p) [e] [⟨some "default",e2,kpos⟩] pos) (rL fe fd):=by
 intro pins s σ H Q I ⟨B,G,ρ,r,sg,sb,st,eq,k⟩
 unfold rL at eq
 split at eq
 ·rename_i k1 ds k2 d e1 e2'
  split at eq
  ·rename_i ns en
   cases eq
   refine wpAny_Call_Name_kw (fL (u:=.builtin "max") I hg hm (by decide +kernel) ?_)
   refine callWith_kw (thn (gJ ha j5 he pos pins s σ H (fun vs H1=>∃ G1 v,vs=[v]/\Ext G H G1 H1/\eu X.K B H G1 H1 (k1,.lst ds) v) I ⟨B,G,ρ,_,sg,sb,st,e1,fun v G1 H1 E1 r1=>⟨G1,v,rfl,E1,r1⟩⟩) fun us s1 ⟨vs,H1,I1,r1,G1,v,ev,E1,rv1⟩=>?_) (by rw [he];rfl) (by rw [he];rfl)
   subst ev
   obtain ⟨u,rfl,ru⟩:=kD r1
   show wpAny _ _ (evalAll ((do let v <- eval e2 X.env;standAt pos;pure v)::[])) _ _ s1
   refine wpAny_evalAll_cons (wpAny_bind (thn (hb pins s1 σ H1 (fun v2 H2=>∃ G2,Ext G1 H1 G2 H2/\v2=.int d) I1 ⟨B,G1,ρ,_,E1.gh,sb.trans E1.hh,st.ext E1,e2',fun v2 G2 H2 E2 r2=>⟨G2,E2,r2.int⟩⟩) fun u2 s2 ⟨v2,H2,I2,r2,G2,E2,ev2⟩=>wpAny_bind (wpAny_standAt (wpAny_pure (wpAny_evalAll_nil ?_)))))
   subst ev2
   obtain ⟨t,rfl⟩:=r2
   show wpAny (model X.prog X.w) X.A (call (.builtin "max") [u] [(Str.ofString "default",.int d t)]) (EP X pins σ Q) X.xe s2
   obtain ⟨pp,ys,rfl,q,dl⟩:=(rv1.ext E2).lst E2.gh
   cases ru
   have:=eI en
   subst this
   have:=bP.ints.mp dl
   subst this
   obtain ⟨its,rv,pl,hz⟩:=I2.list q
   have hi:=fI rv
   have hh:X.A.handled=none:=I2.ok.hd hc
   obtain ⟨xs,ex⟩:=hi.allInts.items
   have hns:ns=xs.toList.map (·.1):=by
    rw [<- nums_intItems,<- ex]
    exact (show numsOf its.toArray.toList=ns from hi.numsOf).symm
   have hlen:ns.length=xs.size:=by rw [hns,ab,az]
   have hl':s2.heap.IsList pp (intItems xs):=ex▸pl.isList
   refine nJ hh hl' fun v h' tk hv hk=>?_
   have fin:∀ t',v=.int (nW d ns) t'->EP X pins σ Q v { s2 with heap:=h',toks:=tk }:=fun t' ev =>
    ⟨.int (nW d ns),H2,I2.kept (t':=tk) hk,⟨t',ev⟩,k _ G2 H2 (E1.trans E2) rfl⟩
   rcases hv with ⟨h0,rfl⟩ | ⟨h0,hv⟩
   ·have:ns=[]:=cQ (by lia)
    exact fin t (by rw [this];rfl)
   ·obtain ⟨t',rfl⟩:=intItems_at hv
    refine fin t' ?_
    cases ns with
    | nil=>simp at hlen;lia
    | cons a r =>
      obtain ⟨h1,h2⟩:=argBest_gt (numAt xs) (xs.size-1)
      have em:rW a r=numAt xs (argBest (fun i j=>decide (numAt xs i > numAt xs j)) (xs.size-1)):=by
       refine tz ?_ fun x hx=>?_
       ·rw [hns,numAt_eq];exact getD_mem (by rw [ab,az];lia)
       ·rw [hns] at hx
        obtain ⟨j,hj,rfl⟩:=mem_getD hx
        rw [ab,az] at hj
        rw [<- numAt_eq];exact h2 j (by lia)
      show Value.int _ _=Value.int (rW a r) _
      rw [em]
  ·cases eq
 ·cases eq
end Ry
namespace Ry
open PySem PySem.Spec PyProof.Rows L2
def ItR (K:PySem.W.Frag) (a:Addr) (n:Nat):It where
 go i H:=∃ xs x,SqT K H a xs/\xs.length=n/\i<n/\xs[n-1-i]?=some x
 yld i H x H':=H'=H/\∀ xs,SqT K H a xs->xs[n-1-i]?=some x
 stop i _:=n=i
theorem wP {P:Program} {w:World} {K:PySem.W.Frag} {tg:Expr} (a it:Addr) (n:Nat):xw P w K tg (ItR K a n) [it] it (fun i h=>pk h it a ((n:Int)-1-(i:Nat))) where
 mem:=by simp
 obj:=fun i h st b hb=>by
  have e:b=it:=by simpa using hb
  subst e
  obtain ⟨o,e,c,d⟩:=st
  exact ⟨o,e,fun v z=>by rw [d] at z;cases z⟩
 keep:=fun i h h' st k=>st.at fun o e=>k it (by simp) o e
 item:=by
  intro X hP hw hK hc i pins s σ H E I hf st hg
  subst hP hw hK
  obtain ⟨xs,x,hq,hn,hi,hx⟩:=hg
  obtain ⟨its,rv,p,hz⟩:=I.tuple hq
  obtain ⟨u,hu,ru⟩:=rv.get hx
  obtain ⟨f0,f1,f2,f3,f4,f5⟩:=hf it (by simp)
  have sz:sizeLine=16777216:=sizeLine_eq
  have hl:=rv.length
  have st0:pk s.heap it a (((n-1-i:Nat)):Int):=by
   rw [show (((n-1-i:Nat)):Int)=(n:Int)-1-(i:Nat) by lia];exact st
  refine ti st0 p (x:=u) (by simpa using hu) (by rw [aq];lia) fun h' tk htk st' sb=>?_
  have I1:Inv X pins σ H { s with heap:=h',toks:=tk }:=I.turned (t':=tk) (fun b o hb e=>(sb.2 b hb).trans e) f0 f1 f3 f4 f5
  obtain ⟨o,e,c,d⟩:=id st'
  refine ⟨u,rfl,u5 (s:={ s with heap:=h',toks:=tk }) e c d (by decide) ⟨x,H,I1,ru,⟨rfl,fun ys hy=>by rw [I.tuple_inj hy hq];exact hx⟩,?_,fun b hb=>(hf b hb).1⟩⟩
  rw [show (n:Int)-1-((i+1:Nat):Int)=(((n-1-i:Nat)):Int)-1 by lia]
  exact st'
 done:=by
  intro X hP hw hK hc i pins s σ H E I hf st hg
  subst hP hw hK
  obtain ⟨f0,f1,f2,f3,f4,f5⟩:=hf it (by simp)
  have hg:n=i:=hg
  have st0:pk s.heap it a (-1):=by rw [show (-1:Int)=(n:Int)-1-(i:Nat) by lia];exact st
  exact xm (I.ok.hd hc) st0 fun h' eb=>⟨rfl,I.turned (t':=s.toks) (fun b o hb e=>eb b o hb e) f0 f1 f3 f4 f5⟩
 self:=fun _ _ _ _ _ st h=>pH st h
theorem Bt {K:PySem.W.Frag} {G:Hp} {a:Addr} {xs:List V} {ds:List Da} (q:G a=some (.tup xs)) (h:bP K G ds xs):zC K (ItR K a xs.length) ds.reverse G:=by
 intro i G' H' s1 s2
 have q2:SqT K H' a xs:=SqT.of ((s1.trans s2) _ _ q)
 have hl:=h.length
 refine ⟨fun d e=>?_,fun hi=>by show xs.length=i;rw [cy] at hi;lia⟩
 have hi:i<ds.length:=by have:=(al.mp e).1;rwa [cy] at this
 rw [iP hi] at e
 obtain ⟨x,hx,dx⟩:=h.get e
 rw [show ds.length-1-i=xs.length-1-i by lia] at hx
 refine ⟨⟨xs,x,q2,rfl,by lia,hx⟩,fun y H'' z=>?_⟩
 obtain ⟨rfl,z⟩:=z
 have:=z xs q2
 rw [hx] at this;cases this
 exact ⟨G',Ext.refl s2,Den.mono s1 d dx⟩
def AK (f:Rho->Option Rv):Rho->Option (List Da):=fun ρ=>match f ρ with
 | some (.pu,.tup ds)=>some ds.reverse
 | _=>none
section
variable {X:Cx} {e tg:Expr} {p pos:Pos} {te:TE} {f:Rho->Option Rv}
theorem AO (hg:Gl X "reversed") (hm:X.mg "reversed" = none) (he:PE X e te) (hs:starEach [e] X.env=[(false,eval e X.env)]:=by exact aX rfl):PI X tg (.Call (.Name "reversed" p) [e] [] pos) (fun σ H R=>te σ H fun v H1=>∃ a xs,v=.ref a/\SqT X.K H1 a xs/\R (ItR X.K a xs.length) H1):=by
 intro pins s σ H R I h
 have sz:sizeLine=16777216:=sizeLine_eq
 refine wpAny_Call_Name_kw (fL I hg hm (by decide +kernel:bootBuiltins "reversed" = some (.type "reversed")) ?_ (by decide) (by decide))
 refine PyProof.Rows.callWith_type1 ?_ hs rfl
 rw [hs]
 show wpAny _ _ (spliced ((false,eval e X.env)::backTo pos (starEach [] X.env))) _ _ s
 refine Calls.spliced_cons (thn (he pins s σ H _ I h) fun u s1 ⟨x,H1,I1,r1,a,xs,ex,hq,k⟩=>?_)
 subst ex
 cases r1
 refine Calls.spliced_nil ?_
 obtain ⟨its,rv,pl,z⟩:=I1.tuple hq
 have hl:=rv.length
 refine u6 pl (by rw [aq];lia) fun tk=>?_
 have hit:pk (s1.heap.push (mq a ((its.toArray.size:Int)-1))) s1.heap.objs.size a ((xs.length:Int)-1-((0:Nat):Int)):=⟨_,af _ rfl,rfl,by rw [aq,<- hl];simp [mq]⟩
 refine pH (s:={ s1 with heap:=s1.heap.push (mq a ((its.toArray.size:Int)-1)),toks:=tk }) hit ?_
 refine ⟨s1.heap.objs.size,[s1.heap.objs.size],_,ItR X.K a xs.length,H1,rfl,I1.kept (t':=tk) (fun b o e=>aa _ e),wP a _ _,hit,fun b hb=>?_,k⟩
 rw [am] at hb
 rw [hb]
 exact I1.fpOk (aj _) (I1.hok.fresh (aj _))
theorem zg (hg:Gl X "reversed") (hm:X.mg "reversed" = none) (he:PX X e f) (hs:starEach [e] X.env=[(false,eval e X.env)]:=by exact aX rfl):PXI X tg (.Call (.Name "reversed" p) [e] [] pos) (AK f) :=
 PI.imp (AO hg hm he hs) fun σ H R ⟨B,G,ρ,ds,sg,sb,st,eq,k⟩=>by
  unfold AK at eq
  split at eq
  ·rename_i ds' q
   cases eq
   refine ⟨B,G,ρ,_,sg,sb,st,q,fun v G1 H1 E1 r1=>?_⟩
   obtain ⟨a,xs,rfl,q1,d1⟩:=r1
   exact ⟨a,xs,rfl,lT E1.gh (SqT.of q1),k _ G1 H1 E1 (Bt q1 d1)⟩
  ·cases eq
end
end Ry
namespace Ry
open PySem PySem.Spec PyProof.Rows L2
namespace Sif
theorem slot_next:Slot "set_iterator" "__next__" "set_iterator.__next__" :=
 .of (owner:="set_iterator") (n:="__next__") (by rw [typeLookup_type,builtinLookup_eq_fast];kernel_rfl) (by decide +kernel) (by decide +kernel) (by decide +kernel) (by first | exact .inl (by decide +kernel) | exact .inr (by decide +kernel)) (by rw [isSubtype_type];kernel_rfl)
theorem slot_iter:Slot "set_iterator" "__iter__" "set_iterator.__iter__" :=
 .of (owner:="set_iterator") (n:="__iter__") (by rw [typeLookup_type,builtinLookup_eq_fast];kernel_rfl) (by decide +kernel) (by decide +kernel) (by decide +kernel) (by first | exact .inl (by decide +kernel) | exact .inr (by decide +kernel)) (by rw [isSubtype_type];kernel_rfl)
theorem set_iter:Slot "set" "__iter__" "set.__iter__" :=
 .of (owner:="set") (n:="__iter__") (by rw [typeLookup_type,builtinLookup_eq_fast];kernel_rfl) (by decide +kernel) (by decide +kernel) (by decide +kernel) (by first | exact .inl (by decide +kernel) | exact .inr (by decide +kernel)) (by rw [isSubtype_type];kernel_rfl)
theorem entry_next:entryFor table "set_iterator.__next__" = some Builtin.«set_iterator.__next__»:=entryFor_of_tree (by kernel_rfl)
theorem entry_iter:entryFor table "set_iterator.__iter__" = some Builtin.«dict_keyiterator.__iter__» :=
 entryFor_alias (id':="dict_keyiterator.__iter__") (by kernel_rfl) (by first | rfl | decide +kernel | (unfold String.splitOn;simp +decide [String.splitOnAux])) (by decide +kernel) (by kernel_rfl)
theorem entry_set:entryFor table "set.__iter__" = some Builtin.«frozenset.__iter__» :=
 entryFor_alias (id':="frozenset.__iter__") (by kernel_rfl) (by first | rfl | decide +kernel | (unfold String.splitOn;simp +decide [String.splitOnAux])) (by decide +kernel) (by kernel_rfl)
theorem args_next (a:Value):argsOk "set_iterator.__next__" ⟨[a],[]⟩:=by unfold argsOk;kernel_rfl
theorem args_iter (a:Value):argsOk "set_iterator.__iter__" ⟨[a],[]⟩:=by unfold argsOk;kernel_rfl
theorem args_set (a:Value):argsOk "set.__iter__" ⟨[a],[]⟩:=by unfold argsOk;kernel_rfl
end Sif
theorem pz {α:Type}:∀ {l:List α} {i:Nat} (h:i<l.length),(l[i]::l.eraseIdx i).Perm l
 | a::l,0,_=>.refl _
 | a::l,i+1,h=>(List.Perm.swap _ _ _).trans ((pz (l:=l) (i:=i) (by simpa using h)).cons a)
theorem lc {α:Type} (next:Nat->Nat):∀ (fuel k:Nat) (left:List α) (out:Array α),left.length=fuel->(pickOrder.go next fuel k left out).toList.Perm (out.toList++left)
 | 0,k,left,out,h=>by
   have:left=[]:=cQ h
   subst this
   unfold pickOrder.go
   rw [ce]
 | fuel+1,k,left,out,h=>by
   unfold pickOrder.go
   have hl:next k%left.length<left.length:=Nat.mod_lt _ (by lia)
   rw [ae hl]
   dsimp only
   refine (lc next fuel (k+1) _ _ (by rw [dO hl];lia)).trans ?_
   rw [zY,bg]
   refine List.Perm.append_left _ ?_
   exact pz hl
theorem jS {α:Type} (next:Nat->Nat) (xs:Array α):(pickOrder next xs).toList.Perm xs.toList:=by
 unfold pickOrder
 exact lc next _ _ _ _ (by simp)
section
variable {prog:Program} {w:World} {A:Around} {E:Value->Shared->Prop} {s:Shared}
theorem mj {src:Source} {n:Nat} {Q:Nat->Shared->Prop} (hn:n≠0) (h:∀ i d,i<n->Q i { s with drawn:=d }):wpAny (model prog w) A (choose src n) Q E s:=fun Γ p hΓ=>by
 show Sem.wp _ _ (.choose src n .pure) _ _ _ _
 rw [Sem.wp_choose]
 exact ⟨hn,h _ _ (Nat.mod_lt _ (Nat.pos_of_ne_zero hn))⟩
theorem tI {α:Type}:∀ (n:Nat) (xs:List α) (s:Shared) (Q:List α->Shared->Prop),xs.length=n->(∀ ys d,ys.Perm xs->Q ys { s with drawn:=d })->wpAny (model prog w) A (drawOrder n xs) Q E s
 | 0,xs,s,Q,hl,h=>by
   have:xs=[]:=cQ hl
   subst this
   unfold drawOrder
   have:=h [] s.drawn (.refl _)
   exact wpAny_pure (by cases s;exact this)
 | n+1,[],s,Q,hl,h=>by cases hl
 | n+1,x::xs,s,Q,hl,h=>by
   unfold drawOrder
   refine wpAny_bind (mj (by simp) fun i d hi=>?_)
   rw [ae hi]
   dsimp only
   refine wpAny_bind (tI n _ _ _ (by rw [dO hi];lia) fun ys d' hp=>wpAny_pure (h _ d' ?_))
   refine (hp.cons _).trans ?_
   exact pz hi
end
end Ry
namespace Ry
open PySem PySem.Spec PyProof.Rows L2
def iu (h:Heap) (a:Addr) (es:Array (Int×Value)) (ep:Nat) (t:SetTable):Prop:=∃ o,h.get? a=some o/\o.data=.set es ep t
def oF (h:Heap) (I a:Addr) (f:Value) (i n ep:Nat):Prop:=∃ o,h.get? I=some o/\o.cls=.type "set_iterator"/\o.data=.fields #[f,rawInt (i:Int),.ref a,rawInt (n:Int),rawInt (ep:Int)]
theorem iu.at {h h':Heap} {a:Addr} {es:Array (Int×Value)} {ep:Nat} {t:SetTable} (x:iu h a es ep t) (k:∀ o,h.get? a=some o->h'.get? a=some o):iu h' a es ep t:=let ⟨o,ho,r⟩:=x;⟨o,k o ho,r⟩
theorem oF.at {h h':Heap} {I a:Addr} {f:Value} {i n ep:Nat} (x:oF h I a f i n ep) (k:∀ o,h.get? I=some o->h'.get? I=some o):oF h' I a f i n ep:=let ⟨o,ho,r⟩:=x;⟨o,k o ho,r⟩
theorem oF.ty {s:Shared} {I a:Addr} {f:Value} {i n ep:Nat} (x:oF s.heap I a f i n ep):s.TypeIs (.ref I) "set_iterator":=let ⟨o,ho,hc,_⟩:=x;⟨o,ho,hc⟩
section
variable {prog:Program} {w:World} {A:Around} {E:Value->Shared->Prop} {s:Shared} {I a:Addr} {es:Array (Int×Value)} {ep:Nat} {t:SetTable} {i n:Nat}
theorem tL {slot:Nat} {Q:Option (Value×Nat)->Shared->Prop} (hs:iu s.heap a es ep t) (hf:t.fits es.size=true) (hb:rX w=true) (h:Q (((pickOrder (w.params.setOrder a ep) es)[i]?).map fun e=>(e.2,slot)) s):wpAny (model prog w) A (setNext a slot i ep) Q E s:=by
 obtain ⟨o,ho,hd⟩:=hs
 unfold setNext setsByText
 refine wpAny_bind (wpAny_setState_of ho hd hf ?_)
 dsimp only
 refine wpAny_bind (wpAny_bind (wpAny_askSetting (wpAny_pure ?_)))
 rw [show (model prog w).w.params.followText "set-order" = true from hb,if_pos rfl,if_neg (by simp)]
 unfold setWalk setsByText
 refine wpAny_bind (wpAny_bind (wpAny_setState_of ho hd hf ?_))
 dsimp only
 refine wpAny_bind (wpAny_bind (wpAny_askSetting (wpAny_pure ?_)))
 rw [show (model prog w).w.params.followText "set-order" = true from hb,if_pos rfl]
 refine wpAny_bind (wpAny_askSetting (wpAny_pure (wpAny_pure ?_)))
 exact h
theorem rF {slot:Nat} {Q:Option (Value×Nat)->Shared->Prop} (hs:iu s.heap a es ep t) (hf:t.fits es.size=true) (hb:rX w=false) (hl:t.led=true) (hp:(!t.plain&&decide (es.size > 1))=false)
 (h:Q (match es[SetTable.below t.place slot]?,t.place[SetTable.below t.place slot]? with | some (_,x),some j=>some (x,j+1) | _,_=>none) s):wpAny (model prog w) A (setNext a slot i ep) Q E s:=by
 obtain ⟨o,ho,hd⟩:=hs
 unfold setNext setsByText
 refine wpAny_bind (wpAny_setState_of ho hd hf ?_)
 dsimp only
 refine wpAny_bind (wpAny_bind (wpAny_askSetting (wpAny_pure ?_)))
 rw [show (model prog w).w.params.followText "set-order" = false from hb,if_neg ah]
 show wpAny _ _ (if (!t.plain&&decide (es.size > 1))=true then _ else _) _ _ _
 rw [hp,if_neg ah]
 refine wpAny_bind ?_
 show wpAny _ _ (if (!t.led&&!es.isEmpty)=true then _ else _) _ _ _
 rw [hl,if_neg (by simp)]
 exact wpAny_pure (wpAny_pure h)
def Nx (prog:Program) (w:World) (a:Addr) (es:Array (Int×Value)) (ep:Nat) (t:SetTable) (sl:Nat->Nat) (od:Nat->Option Value):Prop :=
 ∀ (A:Around) (E:Value->Shared->Prop) (s:Shared) (Q:Option (Value×Nat)->Shared->Prop) (i:Nat),i<=es.size->iu s.heap a es ep t->Q ((od i).map fun x=>(x,sl (i+1))) s->wpAny (model prog w) A (setNext a (sl i) i ep) Q E s
theorem zM (hf:t.fits es.size=true) (hb:rX w=true):Nx prog w a es ep t (fun _=>0) (fun i=>((pickOrder (w.params.setOrder a ep) es)[i]?).map (·.2)):=fun A E s Q i _ hs h=>by
 refine tL hs hf hb ?_
 rw [Option.map_map] at h
 exact h
def slP (t:SetTable):Nat->Nat
 | 0=>0
 | i+1=>t.place.getD i 0+1
theorem sf (hr:Ris t.place):∀ i,i<=t.place.size->SetTable.below t.place (slP t i)=i
 | 0,_=>by
   have h:=mx hr 0
   by_cases e:SetTable.below t.place 0=0
   ·exact e
   ·have hl:0<t.place.size:=by have:=h.le;lia
    have:=h.lo 0 t.place[0] (by lia) (aJ hl)
    lia
 | i+1,hi=>by
   have hg:t.place[i]?=some t.place[i]:=aJ (by lia)
   have e:slP t (i+1)=t.place[i]+1:=by show t.place.getD i 0+1=_;simp [fR,show i<t.place.size by lia]
   rw [e]
   have h:=mx hr (t.place[i]+1)
   rcases Nat.lt_trichotomy (SetTable.below t.place (t.place[i]+1)) (i+1) with z | z | z
   ·have:=h.hi i _ (by lia) hg
    lia
   ·exact z
   ·have hl:i+1<t.place.size:=by have:=h.le;lia
    have hg2:t.place[i+1]?=some t.place[i+1]:=aJ hl
    have h1:=h.lo (i+1) _ z hg2
    have h2:=hr i (i+1) _ _ (by lia) hg hg2
    lia
theorem vZ (hf:t.fits es.size=true) (hb:rX w=false) (hl:t.led=true) (hp:(!t.plain&&decide (es.size > 1))=false) (hr:Ris t.place) (hz:t.place.size=es.size):Nx prog w a es ep t (slP t) (fun i=>es[i]?.map (·.2)):=fun A E s Q i hi hs h=>by
 have h:Q ((es[i]?.map (·.2)).map fun x=>(x,slP t (i+1))) s:=h
 refine rF hs hf hb hl hp ?_
 rw [sf hr i (by lia)]
 by_cases e:i<es.size
 ·rw [aJ e,aJ (show i<t.place.size by lia)]
  rw [aJ e] at h
  have e2:slP t (i+1)=t.place[i]+1:=by show t.place.getD i 0+1=_;simp [fR,show i<t.place.size by lia]
  rw [e2] at h
  exact h
 ·rw [b0 (by lia)] at h ⊢
  exact h
end
end Ry
namespace Ry
open PySem PySem.Spec PyProof.Rows L2
section
variable {prog:Program} {w:World} {A:Around} {E:Value->Shared->Prop} {s:Shared} {I a p:Addr} {es:Array (Int×Value)} {ep:Nat} {t:SetTable} {i n:Nat} {sl:Nat->Nat} {od:Nat->Option Value} {x:Value}
theorem zt {Q:Option Value->Shared->Prop} (N:Nx prog w a es ep t sl od) (hit:oF s.heap I a (rawInt (sl i:Int)) i es.size ep) (hs:iu s.heap a es ep t) (hf:t.fits es.size=true) (hi:i<=es.size) (hx:od i=some x)
 (hQ:∀ h',oF h' I a (rawInt (sl (i+1):Int)) (i+1) es.size ep->Heap.SameBut I s.heap h'->Q (some x) { s with heap:=h' }):wpAny (model prog w) A (pyNext (.ref I)) Q E s:=by
 obtain ⟨o,ho,hc,hd⟩:=id hit
 obtain ⟨oa,hoa,hda⟩:=id hs
 unfold pyNext
 refine wpAny_bind (wpAny_attempt (wpAny_callSpecial?_slot (name:=Str.ofString "__next__") hit.ty Sif.slot_next (wpAny_call_entry Sif.slot_next hit.ty Sif.entry_next ?_ (Sif.args_next _))))
 unfold Builtin.«set_iterator.__next__»
 refine wpAny_bind (wpAny_of_eq (a:=(Value.ref I,[])) rfl ?_)
 try dsimp only
 refine wpAny_bind (wpAny_fieldsOf ho hd ?_)
 show wpAny _ _ (setEntries a>>=_) _ _ s
 refine wpAny_bind (wpAny_setEntries_of hoa hda hf ?_)
 rw [if_neg (by simp)]
 show wpAny _ _ (setNext a (sl i:Int).toNat (i:Int).toNat (ep:Int).toNat>>=_) _ _ s
 rw [bn,bn,bn]
 refine wpAny_bind (N _ _ _ _ _ hi hs ?_)
 rw [hx]
 show wpAny _ _ (setField (.ref I) 0 (rawInt (sl (i+1):Int))>>=_) _ _ s
 refine wpAny_bind (wpAny_setField ho hd (by simp) ?_)
 have hd2:=bF hd (·.setIfInBounds 0 (rawInt (sl (i+1):Int)))
 have ho2:=bb (bK (·.setIfInBounds 0 (rawInt (sl (i+1):Int)))) ho (bT hd2)
 show wpAny _ _ (setField (.ref I) 1 (rawInt ((i:Int)+1))>>=_) _ _ _
 refine wpAny_bind (wpAny_setField (s:={ s with heap:=s.heap.update I (bK (·.setIfInBounds 0 (rawInt (sl (i+1):Int)))) }) ho2 hd2 (by simp) ?_)
 have hd3:=bF hd2 (·.setIfInBounds 1 (rawInt ((i:Int)+1)))
 have ho3:=bb (bK (·.setIfInBounds 1 (rawInt ((i:Int)+1)))) ho2 (bT hd3)
 have fin:=hQ _ ⟨_,ho3,(dN ..).trans ((dN ..).trans hc),by rw [hd3];simp⟩ ((Heap.SameBut.update ..).trans (Heap.SameBut.update ..))
 first
 | exact wpAny_pure ⟨x,rfl,wpAny_pure fin⟩
 | exact wpAny_bind (wpAny_pure (wpAny_pure ⟨x,rfl,wpAny_pure fin⟩))
theorem By {Q:Option Value->Shared->Prop} (N:Nx prog w a es ep t sl od) (hh:A.handled=none) (hit:oF s.heap I a (rawInt (sl es.size:Int)) es.size es.size ep) (hs:iu s.heap a es ep t) (hf:t.fits es.size=true) (hx:od es.size=none)
 (hQ:∀ h',Heap.ExtBut I s.heap h'->Q none { s with heap:=h' }):wpAny (model prog w) A (pyNext (.ref I)) Q E s:=by
 obtain ⟨o,ho,hc,hd⟩:=id hit
 obtain ⟨oa,hoa,hda⟩:=id hs
 unfold pyNext
 refine wpAny_bind (wpAny_attempt (wpAny_callSpecial?_slot (name:=Str.ofString "__next__") hit.ty Sif.slot_next (wpAny_call_entry Sif.slot_next hit.ty Sif.entry_next ?_ (Sif.args_next _))))
 unfold Builtin.«set_iterator.__next__»
 refine wpAny_bind (wpAny_of_eq (a:=(Value.ref I,[])) rfl ?_)
 try dsimp only
 refine wpAny_bind (wpAny_fieldsOf ho hd ?_)
 show wpAny _ _ (setEntries a>>=_) _ _ s
 refine wpAny_bind (wpAny_setEntries_of hoa hda hf ?_)
 rw [if_neg (by simp)]
 show wpAny _ _ (setNext a (sl es.size:Int).toNat (es.size:Int).toNat (ep:Int).toNat>>=_) _ _ s
 rw [bn,bn,bn]
 refine wpAny_bind (N _ _ _ _ _ (aj _) hs ?_)
 rw [hx]
 show wpAny _ _ (setField (.ref I) 2 Value.none>>=_) _ _ s
 refine wpAny_bind (wpAny_setField ho hd (by simp) ?_)
 have eb:Heap.ExtBut I s.heap (s.heap.update I (bK (·.setIfInBounds 2 Value.none))):=fun b o hb e=>(aI _ _ (Ne.symm hb)).trans e
 show wpAny _ _ (newExc (.type "StopIteration") []>>=_) _ _ _
 refine wpAny_bind ?_
 simp only [newExc,newTuple]
 refine wpAny_bind (wpAny_newObj_type ?_ (by size_fits))
 refine wpAny_bind (m:=firstArgMember _ _) (wpAny_of_eq (a:=Value.none) (by first | rfl | (simp only [firstArgMember];rfl)) ?_)
 refine wpAny_newObj_type ?_ (by size_fits)
 simp only [raiseNew]
 refine wpAny_bind (wpAny_handled ?_)
 first | rw [show A.in1.handled=none from hh] | rw [hh]
 refine wpAny_bind (wpAny_pure (wpAny_throw ?_))
 refine wpAny_bind (wpAny_isInstance (T:="StopIteration") (b:=true) ⟨_,af _ rfl,rfl⟩ isSubtype_stop ?_)
 exact wpAny_pure (hQ _ ((eb.push _).push _))
theorem yQ {Q:Option Value->Shared->Prop} {pl:List Nat} {k:Nat} {hk:Int} (hit:oF s.heap I a (.ref p) i es.size ep) (hs:iu s.heap a es ep t) (hf:t.fits es.size=true) (hp:IsTup s.heap p (pl.map fun (j:Nat)=>rawInt (j:Int)).toArray) (hk1:pl[i]?=some k) (hx:es[k]?=some (hk,x))
 (hQ:∀ h',oF h' I a (.ref p) (i+1) es.size ep->Heap.SameBut I s.heap h'->Q (some x) { s with heap:=h' }):wpAny (model prog w) A (pyNext (.ref I)) Q E s:=by
 obtain ⟨o,ho,hc,hd⟩:=id hit
 obtain ⟨oa,hoa,hda⟩:=id hs
 obtain ⟨op,hop,hcp,m,hdp⟩:=id hp
 unfold pyNext
 refine wpAny_bind (wpAny_attempt (wpAny_callSpecial?_slot (name:=Str.ofString "__next__") hit.ty Sif.slot_next (wpAny_call_entry Sif.slot_next hit.ty Sif.entry_next ?_ (Sif.args_next _))))
 unfold Builtin.«set_iterator.__next__»
 refine wpAny_bind (wpAny_of_eq (a:=(Value.ref I,[])) rfl ?_)
 try dsimp only
 refine wpAny_bind (wpAny_fieldsOf ho hd ?_)
 show wpAny _ _ (setEntries a>>=_) _ _ s
 refine wpAny_bind (wpAny_setEntries_of hoa hda hf ?_)
 rw [if_neg (by simp)]
 show wpAny _ _ (seqItems? (.ref p)>>=_) _ _ s
 refine wpAny_bind (wpAny_seqItems hop hdp ?_)
 dsimp only
 have hg:(pl.map fun (j:Nat)=>rawInt (j:Int)).toArray[(i:Int).toNat]?=some (rawInt (k:Int)):=by
  rw [bn,vC,av,hk1];rfl
 rw [hg]
 show wpAny _ _ (setNextDrawn a (k:Int).toNat (ep:Int).toNat>>=_) _ _ s
 rw [bn,bn]
 unfold setNextDrawn
 refine wpAny_bind (wpAny_bind (wpAny_setState_of hoa hda hf ?_))
 dsimp only
 rw [if_neg (by simp),hx]
 refine wpAny_pure ?_
 show wpAny _ _ (setField (.ref I) 1 (rawInt ((i:Int)+1))>>=_) _ _ _
 refine wpAny_bind (wpAny_setField ho hd (by simp) ?_)
 have hd3:=bF hd (·.setIfInBounds 1 (rawInt ((i:Int)+1)))
 have ho3:=bb (bK (·.setIfInBounds 1 (rawInt ((i:Int)+1)))) ho (bT hd3)
 have fin:=hQ _ ⟨_,ho3,(dN ..).trans hc,by rw [hd3];simp⟩ (Heap.SameBut.update ..)
 first
 | exact wpAny_pure ⟨x,rfl,wpAny_pure fin⟩
 | exact wpAny_bind (wpAny_pure (wpAny_pure ⟨x,rfl,wpAny_pure fin⟩))
theorem Bh {Q:Option Value->Shared->Prop} {pl:List Nat} (hh:A.handled=none) (hit:oF s.heap I a (.ref p) es.size es.size ep) (hs:iu s.heap a es ep t) (hf:t.fits es.size=true) (hp:IsTup s.heap p (pl.map fun (j:Nat)=>rawInt (j:Int)).toArray) (hl:pl.length=es.size)
 (hQ:∀ h',Heap.ExtBut I s.heap h'->Q none { s with heap:=h' }):wpAny (model prog w) A (pyNext (.ref I)) Q E s:=by
 obtain ⟨o,ho,hc,hd⟩:=id hit
 obtain ⟨oa,hoa,hda⟩:=id hs
 obtain ⟨op,hop,hcp,m,hdp⟩:=id hp
 unfold pyNext
 refine wpAny_bind (wpAny_attempt (wpAny_callSpecial?_slot (name:=Str.ofString "__next__") hit.ty Sif.slot_next (wpAny_call_entry Sif.slot_next hit.ty Sif.entry_next ?_ (Sif.args_next _))))
 unfold Builtin.«set_iterator.__next__»
 refine wpAny_bind (wpAny_of_eq (a:=(Value.ref I,[])) rfl ?_)
 try dsimp only
 refine wpAny_bind (wpAny_fieldsOf ho hd ?_)
 show wpAny _ _ (setEntries a>>=_) _ _ s
 refine wpAny_bind (wpAny_setEntries_of hoa hda hf ?_)
 rw [if_neg (by simp)]
 show wpAny _ _ (seqItems? (.ref p)>>=_) _ _ s
 refine wpAny_bind (wpAny_seqItems hop hdp ?_)
 dsimp only
 have hg:(pl.map fun (j:Nat)=>rawInt (j:Int)).toArray[(es.size:Int).toNat]?=none:=by
  rw [bn,vC,av,bG (by lia)];rfl
 rw [hg]
 show wpAny _ _ (setField (.ref I) 0 (rawInt 0)>>=_) _ _ s
 refine wpAny_bind (wpAny_setField ho hd (by simp) ?_)
 have hd2:=bF hd (·.setIfInBounds 0 (rawInt 0))
 have ho2:=bb (bK (·.setIfInBounds 0 (rawInt 0))) ho (bT hd2)
 show wpAny _ _ (setField (.ref I) 2 Value.none>>=_) _ _ _
 refine wpAny_bind (wpAny_setField (s:={ s with heap:=s.heap.update I (bK (·.setIfInBounds 0 (rawInt 0))) }) ho2 hd2 (by simp) ?_)
 have eb:Heap.ExtBut I s.heap ((s.heap.update I (bK (·.setIfInBounds 0 (rawInt 0)))).update I (bK (·.setIfInBounds 2 Value.none))):=fun b o hb e=>(aI _ _ (Ne.symm hb)).trans ((aI _ _ (Ne.symm hb)).trans e)
 show wpAny _ _ (newExc (.type "StopIteration") []>>=_) _ _ _
 refine wpAny_bind ?_
 simp only [newExc,newTuple]
 refine wpAny_bind (wpAny_newObj_type ?_ (by size_fits))
 refine wpAny_bind (m:=firstArgMember _ _) (wpAny_of_eq (a:=Value.none) (by first | rfl | (simp only [firstArgMember];rfl)) ?_)
 refine wpAny_newObj_type ?_ (by size_fits)
 simp only [raiseNew]
 refine wpAny_bind (wpAny_handled ?_)
 first | rw [show A.in1.handled=none from hh] | rw [hh]
 refine wpAny_bind (wpAny_pure (wpAny_throw ?_))
 refine wpAny_bind (wpAny_isInstance (T:="StopIteration") (b:=true) ⟨_,af _ rfl,rfl⟩ isSubtype_stop ?_)
 exact wpAny_pure (hQ _ ((eb.push _).push _))
theorem uq {f:Value} {Q:Value->Shared->Prop} (hit:oF s.heap I a f i n ep) (h:Q (.ref I) s):wpAny (model prog w) A (pyIter (.ref I)) Q E s:=by
 refine wpAny_pyIter_slot hit.ty Sif.slot_iter (wpAny_call_entry Sif.slot_iter hit.ty Sif.entry_iter ?_ (Sif.args_iter _))
 show wpAny _ _ (ret (.ref I)) _ _ s
 exact wpAny_pure ⟨_,rfl,"set_iterator",_,hit.ty,Sif.slot_next.lookup,h⟩
theorem xY (N:Nx prog w a es ep t sl od) (hh:A.handled=none) (hf:t.fits es.size=true) (hne:a≠I) (hod:∀ i,i<es.size->∃ x,od i=some x) (hoe:od es.size=none) :
 Walks prog w A I [I,a] [I] es.size (fun i v=>od i=some v) (fun i h=>i<=es.size/\oF h I a (rawInt (sl i:Int)) i es.size ep/\iu h a es ep t) where
 sub:=fun b hb=>by simp at hb;simp [hb]
 frame:=fun _ _ _ x hk=>⟨x.1,x.2.1.at fun o e=>hk I (by simp) o e,x.2.2.at fun o e=>hk a (by simp) o e⟩
 item:=fun i s Q E hi x hQ=>by
  obtain ⟨v,hv⟩:=hod i hi
  exact zt N x.2.1 x.2.2 hf (eJ hi) hv fun h' hit' hs'=>hQ v h' s.toks hv ⟨hi,hit',x.2.2.at fun o e=>(hs'.2 a hne).trans e⟩ fun b o hb eo=>hs'.extBut b o (fun h=>hb (by simp [h])) eo
 done:=fun s Q E x hQ=>By N hh x.2.1 x.2.2 hf hoe fun h' he'=>hQ h' s.toks fun b o hb eo=>he' b o (fun h=>hb (by simp [h])) eo
 self:=fun _ _ _ _ x hQ=>uq x.2.1 hQ
theorem yM {pl:List Nat} (hh:A.handled=none) (hf:t.fits es.size=true) (hne:a≠I) (hnp:p≠I) (hl:pl.length=es.size) (hb:∀ j∈pl,j<es.size) :
 Walks prog w A I [I,a,p] [I] es.size (fun i v=>(pl[i]?).bind (fun j=>es[j]?.map (·.2))=some v) (fun i h=>i<=es.size/\oF h I a (.ref p) i es.size ep/\iu h a es ep t/\IsTup h p (pl.map fun (j:Nat)=>rawInt (j:Int)).toArray) where
 sub:=fun b hb=>by simp at hb;simp [hb]
 frame:=fun _ _ _ x hk=>⟨x.1,x.2.1.at fun o e=>hk I (by simp) o e,x.2.2.1.at fun o e=>hk a (by simp) o e,let ⟨o,ho,r⟩:=x.2.2.2;⟨o,hk p (by simp) o ho,r⟩⟩
 item:=fun i s Q E hi x hQ=>by
  have h1:pl[i]?=some (pl[i]'(by lia)):=ae (by lia)
  have h2:=hb _ (ba h1)
  have h3:es[pl[i]'(by lia)]?=some (es[pl[i]'(by lia)]'h2):=aJ h2
  refine yQ x.2.1 x.2.2.1 hf x.2.2.2 h1 h3 fun h' hit' hs'=>hQ _ h' s.toks ?_ ⟨hi,hit',x.2.2.1.at fun o e=>(hs'.2 a hne).trans e,let ⟨o,ho,r⟩:=x.2.2.2;⟨o,(hs'.2 p hnp).trans ho,r⟩⟩ fun b o hb eo=>hs'.extBut b o (fun h=>hb (by simp [h])) eo
  rw [h1]
  show es[pl[i]'(by lia)]?.map (·.2)=_
  rw [h3]
  rfl
 done:=fun s Q E x hQ=>Bh hh x.2.1 x.2.2.1 hf x.2.2.2 hl fun h' he'=>hQ h' s.toks fun b o hb eo=>he' b o (fun h=>hb (by simp [h])) eo
 self:=fun _ _ _ _ x hQ=>uq x.2.1 hQ
end
end Ry
namespace Ry
open PySem PySem.Spec PyProof.Rows L2
section
variable {prog:Program} {w:World} {A:Around} {E:Value->Shared->Prop} {s:Shared}
theorem vM {r:Addr} {Q:Bool->Shared->Prop} (hT:s.TypeIs (.ref r) "set") (h:Q false s):wpAny (model prog w) A (Builtin.List.listLengthHint (.ref r)) Q E s:=by
 unfold Builtin.List.listLengthHint
 refine wpAny_bind (wpAny_specialOf hT (show typeLookup (.type "set") "__len__" = pure (some (.builtin "set.__len__")) by rw [typeLookup_type,builtinLookup_eq_fast];kernel_rfl) ?_)
 (generalize hid:("set.__len__" : String)=id0;(fail_if_success (clear hid id0));wp_delta;rw [show splitId id0=some ("set","__len__") from by subst hid;decide +kernel];subst hid)
 refine wpAny_bind (wpAny_isInstance (b:=true) hT (by rw [isSubtype_type];kernel_rfl) ?_)
 try dsimp only
 rw [if_neg (by decide),if_pos (by decide +kernel)]
 refine wpAny_bind (wpAny_typeOf hT ?_)
 exact wpAny_pure h
def Wk (prog:Program) (w:World) (A:Around) (S:Addr) (s1:Shared) (R:List Value->Shared->Prop) (it:Value) (s2:Shared):Prop :=
 ∃ (I:Addr) (fp wr:List Addr) (n:Nat) (P:Nat->Value->Prop) (St:Nat->Heap->Prop) (hp:Heap) (d:Drawn),it=.ref I/\s2={ s1 with heap:=hp,drawn:=d }/\(∀ b o,s1.heap.get? b=some o->hp.get? b=some o)/\Walks prog w A I fp wr n P St/\St 0 hp/\S∉fp/\n<=sizeLine /\
   ∀ (h':Heap) (tk:Nat) (acc:Array Value),(∀ b o,b∉wr->b≠S->hp.get? b=some o->h'.get? b=some o)->ItemsOf P acc n->R acc.toList { s1 with heap:=h',toks:=tk,drawn:=d }
theorem oY {x:Addr} {R:List Value->Shared->Prop} (hT:s.TypeIs (.ref x) "set")
 (h:wpAny (model prog w) A.in1 (pyIter (.ref x)) (Wk prog w A.in1 s.heap.objs.size { s with heap:=s.heap.push { cls:=.type "list",data:=.seq ([]:List Value).toArray } } R) (fun _ _=>False) { s with heap:=s.heap.push { cls:=.type "list",data:=.seq ([]:List Value).toArray } }):wpAny (model prog w) A (collect (.ref x)) R E s:=by
 have hSx:s.heap.objs.size≠x:=fun e=>by obtain ⟨o,ho,_⟩:=hT;exact absurd (au ho) (by rw [<- e];exact br _)
 have hT1:Shared.TypeIs { s with heap:=s.heap.push { cls:=.type "list",data:=.seq ([]:List Value).toArray } } (.ref x) "set":=by obtain ⟨o,ho,r⟩:=hT;exact ⟨o,aa _ ho,r⟩
 unfold collect
 refine wpAny_bind (wpAny_runValue (codeAny_builtin PySem.F.entry_proto_collect ?_))
 rw [Around.under_plainId PySem.F.plain_proto_collect _]
 show wpAny _ A.in1 (newList []>>=fun l=>again (.builtin "list.__iadd__" ⟨[l,.ref x],[]⟩)) _ _ s
 refine wpAny_bind (wpAny_newObj_type ?_)
 refine wpAny_pure ⟨plainId_quiet PySem.F.plain_list_iadd _,codeAny_builtin PySem.F.entry_list_iadd ?_⟩
 rw [Around.under_plainId PySem.F.plain_list_iadd _]
 have hS:(s.heap.push { cls:=.type "list",data:=.seq ([]:List Value).toArray }).get? s.heap.objs.size=some { cls:=.type "list",data:=.seq ([]:List Value).toArray }:=af _ rfl
 have h1:Builtin.List.listSameRef (.ref s.heap.objs.size) (.ref x)=false:=by simp [Builtin.List.listSameRef,hSx]
 have nl:(Value.type "set" == Value.type "list")=false:=by decide
 have nt:(Value.type "set" == Value.type "tuple")=false:=by decide
 show wpAny _ A.in1 (Builtin.List.listExtendWith (.ref s.heap.objs.size) (.ref x) (.ref s.heap.objs.size)) _ _ _
 unfold Builtin.List.listExtendWith
 refine wpAny_bind (wpAny_typeOf hT1 ?_)
 simp only [h1,nl,nt,rZ,bN,if_false]
 refine wpAny_bind (wpAny_mono h (fun it s2 hw=>?_) fun _ _ z=>z.elim)
 obtain ⟨I,fp,wr,n,P,St,hp,d,rfl,rfl,kp,W,st,hSf,hn,fin⟩:=hw
 have hT2:Shared.TypeIs { s with heap:=hp,drawn:=d } (.ref x) "set":=by obtain ⟨o,ho,r⟩:=hT1;exact ⟨o,kp _ _ ho,r⟩
 have hSp:=kp _ _ hS
 refine wpAny_bind (wpAny_holding (vM hT2 ?_))
 rw [if_pos (by decide)]
 refine wpAny_bind (wpAny_rule ?_)
 refine wpAny_bind ?_
 show wpAny _ _ (updateSeq s.heap.objs.size (·.push .none)>>=fun _=>updateSeq s.heap.objs.size (·.pop)) _ _ _
 refine wpAny_bind (wpAny_updateSeq hSp rfl ?_)
 have hS₂:=bb (bj (·.push Value.none)) hSp rfl
 refine wpAny_updateSeq (hz:=by seq_fits) hS₂ rfl ?_
 have hS₃:=bb (bj (·.pop)) hS₂ rfl
 refine wpAny_pure ⟨plainId_quiet PySem.F.plain_extend_loop _,?_⟩
 refine codeAny_extend_loopS W.toS hn s.heap.objs.size hSf _ n 0 _ #[] _ rfl (aT _) ?_ hS₃ (ItemsOf.nil _) fun s' acc' c' hm hS' hacc=>?_
 ·refine W.frame 0 _ _ st fun b hb o e=>?_
  have hbS:b≠s.heap.objs.size:=fun h=>hSf (h▸hb)
  exact (aI _ _ (Ne.symm hbS)).trans ((aI _ _ (Ne.symm hbS)).trans e)
 ·have em:=Moved.eq_with hm
  rw [em]
  show wpAny _ A (load s.heap.objs.size>>=_) _ _ _
  refine wpAny_bind (wpAny_load hS' ?_)
  refine wpAny_pure (fin s'.heap s'.toks acc' (fun b o hb hbS e=>hm.heap b o (fun hmem=>?_) ((aI _ _ (Ne.symm hbS)).trans ((aI _ _ (Ne.symm hbS)).trans e))) hacc)
  rcases ag.mp hmem with e' | hmem
  ·exact hbS e'
  ·exact hb hmem
end
end Ry
namespace Ry
open PySem PySem.Spec PyProof.Rows L2
def CZ (prog:Program) (w:World) (S:Int->Bool) (n:Nat) (vs:List Value):Prop :=
 ∃ es:Array (Int×Value),vs.Perm (es.toList.map (·.2))/\ElemsOf (intKind prog w) es.toList/\(∀ k,S k=true↔∃ e∈es.toList,(intKind prog w).is k e.2=true)/\es.size=n
theorem lM {P:Nat->Value->Prop} {acc:Array Value} {n:Nat} {l:List Value} (h:ItemsOf P acc n) (hl:l.length=n) (hP:∀ i v,P i v->l[i]?=some v):acc.toList=l:=by
 apply dL
 intro i
 by_cases hi:i<acc.size
 ·have e:acc[i]?=some acc[i]:=aJ hi
  rw [aR,e,hP i _ (h.2 i _ e)]
 ·rw [aR,b0 (by lia),bG (by have:=h.1;lia)]
theorem qV {es:Array (Int×Value)} {pl:List Nat} (hp:pl.Perm (bi es.size)):(pl.map fun j=>(es.toList.getD j (0,Value.none)).2).Perm (es.toList.map (·.2)):=by
 refine (hp.map _).trans ?_
 have:(bi es.size).map (fun j=>(es.toList.getD j (0,Value.none)).2)=es.toList.map (·.2):=by
  apply dL
  intro i
  rw [av,av]
  by_cases hi:i<es.size
  ·rw [jK hi]
   show some (es.toList.getD i (0,Value.none)).2=_
   rw [ay,ae (by rw [az];exact hi)]
   rfl
  ·rw [bG (by rw [bS];lia),bG (by rw [az];lia)]
   rfl
 rw [this]
section
variable {prog:Program} {w:World} {A:Around} {E:Value->Shared->Prop} {s:Shared} {a L:Addr} {S:Int->Bool} {n:Nat}
theorem wn {a:Addr} {es:Array (Int×Value)} {ep:Nat} {t:SetTable} {Q:Bool->Shared->Prop} (hs:iu s.heap a es ep t) (hf:t.fits es.size=true) (h:Q (!rX w&&(!t.plain&&decide (es.size > 1))) s):wpAny (model prog w) A (setDrawn a) Q E s:=by
 obtain ⟨o,ho,hd⟩:=hs
 unfold setDrawn setsByText
 refine wpAny_bind (wpAny_setState_of ho hd hf ?_)
 dsimp only
 refine wpAny_bind (wpAny_bind (wpAny_askSetting (wpAny_pure (wpAny_pure ?_))))
 exact h
theorem o4 {R:List Value->Shared->Prop} (h:gx prog w s.heap a S n) (hh:A.handled=none) (hL:L<s.heap.objs.size) (haL:a≠L) (hz:n<=sizeLine)
 (fin:∀ h' tk d vs,(∀ b o,b≠L->s.heap.get? b=some o->h'.get? b=some o)->CZ prog w S n vs->R vs { s with heap:=h',toks:=tk,drawn:=d }):wpAny (model prog w) A (pyIter (.ref a)) (Wk prog w A L s R) E s:=by
 obtain ⟨o,es,ep,t,ho,hex,hd,hel,hmem,hb,hf,hn,tk⟩:=h
 subst hn
 have hT:s.TypeIs (.ref a) "set":=⟨o,ho,hex.1⟩
 have hs:iu s.heap a es ep t:=⟨o,ho,hd⟩
 have hal:a<s.heap.objs.size:=au ho
 have good:∀ vs:List Value,vs.Perm (es.toList.map (·.2))->CZ prog w S es.size vs:=fun vs hp=>⟨es,hp,hel,hmem,rfl⟩
 have hpz:t.place.size=es.size:=by
  unfold SetTable.fits at hf
  rw [aP,beq_iff_eq] at hf
  exact hf.1
 refine wpAny_pyIter_slot hT Sif.set_iter (wpAny_call_entry Sif.set_iter hT Sif.entry_set ?_ (Sif.args_set _))
 unfold Builtin.«frozenset.__iter__»
 refine wpAny_bind (wpAny_of_eq (a:=a) rfl ?_)
 refine wpAny_bind (wpAny_bind (wpAny_setEntries_of ho hd hf (wpAny_pure ?_)))
 refine wpAny_bind (wn hs hf ?_)
 by_cases hdr:(!rX w&&(!t.plain&&decide (es.size > 1)))=true
 ·rw [if_pos hdr]
  refine wpAny_bind (tI _ _ _ _ (bS) fun pl d hp=>wpAny_bind (wpAny_newTuple ?_ (by rw [ab,hp.length_eq,bS];exact hz)))
  have hpl:pl.length=es.size:=by rw [hp.length_eq,bS]
  refine wpAny_bind (wpAny_setEpoch_of (s:={ s with heap:=s.heap.push { cls:=.type "tuple",data:=.seq (pl.map fun (i:Nat)=>rawInt (i:Int)).toArray },drawn:=d }) (aa _ ho) hd hf ?_)
  refine wpAny_bind (wpAny_newObj_type ?_)
  have z1:(s.heap.push { cls:=.type "tuple",data:=.seq (pl.map fun (i:Nat)=>rawInt (i:Int)).toArray }).objs.size=s.heap.objs.size+1:=bV ..
  have it0:oF ((s.heap.push { cls:=.type "tuple",data:=.seq (pl.map fun (i:Nat)=>rawInt (i:Int)).toArray }).push { cls:=.type "set_iterator",data:=.fields [Value.ref s.heap.objs.size,rawInt 0,.ref a,rawInt (es.size:Int),rawInt (ep:Int)].toArray }) (s.heap.push { cls:=.type "tuple",data:=.seq (pl.map fun (i:Nat)=>rawInt (i:Int)).toArray }).objs.size a (.ref s.heap.objs.size) 0 es.size ep:=⟨_,af _ rfl,rfl,rfl⟩
  refine wpAny_pure ⟨_,rfl,"set_iterator",_,it0.ty,Sif.slot_next.lookup,?_⟩
  refine ⟨_,_,_,es.size,_,_,_,d,rfl,rfl,fun b o e=>aa _ (aa _ e),yM (a:=a) (p:=s.heap.objs.size) (es:=es) (ep:=ep) (t:=t) (pl:=pl) hh hf (by rw [z1];exact aH (cx hal)) (by rw [z1];exact aH (cY _)) hpl (fun j hj=>by simpa using hp.mem_iff.mp hj),⟨aT _,it0,⟨o,aa _ (aa _ ho),hd⟩,⟨_,aa _ (af _ rfl),rfl,0,rfl⟩⟩,?_,hz,fun h' tk acc kp hi=>fin h' tk d _ (fun b o hbL e=>kp b o (fun hm=>?_) hbL (aa _ (aa _ e))) (good _ ?_)⟩
  ·rw [z1]
   simp only [ag,eh,or_false,not_or]
   exact ⟨aH (cx hL),fun z=>haL z.symm,aH hL⟩
  ·rw [am] at hm
   have:=au e
   rw [hm,z1] at this
   exact absurd this (Nat.not_lt.mpr (fF _))
  ·rw [lM hi (l:=pl.map fun j=>(es.toList.getD j (0,Value.none)).2) (by rw [ab];exact hpl) fun i v hv=>?_]
   ·exact qV hp
   ·rw [av]
    cases hj:pl[i]? with
    | none=>rw [hj] at hv;cases hv
    | some j =>
      rw [hj] at hv
      have hv:es[j]?.map (·.2)=some v:=hv
      cases he:es[j]? with
      | none=>rw [he] at hv;cases hv
      | some e =>
        rw [he] at hv
        cases hv
        show some (es.toList.getD j (0,Value.none)).2=_
        rw [ay,aR,he]
        rfl
 ·rw [if_neg hdr]
  refine wpAny_bind (wpAny_pure ?_)
  refine wpAny_bind (wpAny_setEpoch_of ho hd hf ?_)
  refine wpAny_bind (wpAny_newObj_type ?_)
  have key:∀ (sl:Nat->Nat) (od:Nat->Option Value),sl 0=0->Nx prog w a es ep t sl od->(∀ i,i<es.size->∃ x,od i=some x)->od es.size=none->(∀ acc:Array Value,ItemsOf (fun i v=>od i=some v) acc es.size->acc.toList.Perm (es.toList.map (·.2))) ->
   Wk prog w A L s R (.ref s.heap.objs.size) { s with heap:=s.heap.push { cls:=.type "set_iterator",data:=.fields [rawInt 0,rawInt 0,.ref a,rawInt (es.size:Int),rawInt (ep:Int)].toArray } }:=fun sl od h0 N h1 h2 h3=>by
   have it0:oF (s.heap.push { cls:=.type "set_iterator",data:=.fields [rawInt 0,rawInt 0,.ref a,rawInt (es.size:Int),rawInt (ep:Int)].toArray }) s.heap.objs.size a (rawInt (sl 0:Int)) 0 es.size ep:=⟨_,af _ rfl,rfl,by rw [h0];rfl⟩
   refine ⟨_,_,_,es.size,_,_,_,s.drawn,rfl,rfl,fun b o e=>aa _ e,xY N hh hf (aH hal) h1 h2,⟨aT _,it0,⟨o,aa _ ho,hd⟩⟩,?_,hz,fun h' tk acc kp hi=>fin h' tk s.drawn _ (fun b o hbL e=>kp b o (fun hm=>?_) hbL (aa _ e)) (good _ (h3 acc hi))⟩
   ·simp only [ag,eh,or_false,not_or]
    exact ⟨aH hL,fun z=>haL z.symm⟩
   ·rw [am] at hm
    have:=au e
    rw [hm] at this
    exact br _ this
  have it0:Shared.TypeIs { s with heap:=s.heap.push { cls:=.type "set_iterator",data:=.fields [rawInt 0,rawInt 0,.ref a,rawInt (es.size:Int),rawInt (ep:Int)].toArray } } (.ref s.heap.objs.size) "set_iterator":=⟨_,af _ rfl,rfl⟩
  refine wpAny_pure ⟨_,rfl,"set_iterator",_,it0,Sif.slot_next.lookup,?_⟩
  cases hb2:rX w with
  | true =>
    have hpk:=jS (w.params.setOrder a ep) es
    have hsz:(pickOrder (w.params.setOrder a ep) es).size=es.size:=by rw [<- az,hpk.length_eq,az]
    refine key _ _ rfl (zM hf hb2) (fun i hi=>?_) ?_ fun acc hi=>?_
    ·exact ⟨_,by rw [aJ (by lia)];rfl⟩
    ·rw [b0 (by lia)];rfl
    ·rw [lM hi (l:=(pickOrder (w.params.setOrder a ep) es).toList.map (·.2)) (by rw [ab,az];exact hsz) fun i v hv=>by rw [av,aR];exact hv]
     exact hpk.map _
  | false =>
    rw [hb2] at hdr tk
    refine key _ _ rfl (vZ hf hb2 tk.led (by simpa using hdr) tk.ris hpz) (fun i hi=>?_) ?_ fun acc hi=>?_
    ·exact ⟨_,by rw [aJ hi];rfl⟩
    ·rw [b0 (aj _)];rfl
    ·rw [lM hi (l:=es.toList.map (·.2)) (by rw [ab,az]) fun i v hv=>by rw [av,aR];exact hv]
end
end Ry
namespace Ry
open PySem PySem.Spec PyProof.Rows L2
theorem sK {prog:Program} {w:World} {S:Int->Bool} {n:Nat} {vs:List Value} (h:CZ prog w S n vs):∃ ns:List Int,cq (ns.map V.int) vs/\ns.length=n/\∀ x,x∈ns↔S x=true:=by
 obtain ⟨es,hp,hel,hmem,hn⟩:=h
 have isI:∀ {k:Int} {v:Value},(intKind prog w).is k v=true->∃ t,v=.int k t:=fun {k v} h=>by
  cases v with
  | int j t =>
    have:j=k:=by simpa [intKind,Value.isInt] using h
    exact ⟨t,by rw [this]⟩
  | _=>simp [intKind,Value.isInt] at h
 have go:∀ vs:List Value,(∀ v∈vs,∃ k t,v=Value.int k t)->∃ ns:List Int,cq (ns.map V.int) vs:=fun vs=>by
  induction vs with
  | nil=>exact fun _=>⟨[],.nil⟩
  | cons v vs ih =>
    intro h
    obtain ⟨ns,hv⟩:=ih fun u hu=>h u (ai _ hu)
    obtain ⟨k,t,rfl⟩:=h v ak
    exact ⟨k::ns,.cons ⟨t,rfl⟩ hv⟩
 have all:∀ v∈vs,∃ k t,v=Value.int k t:=fun v hv=>by
  obtain ⟨e,he,rfl⟩:=bf.mp (hp.mem_iff.mp hv)
  obtain ⟨⟨k,hk,_⟩,_⟩:=hel e he
  obtain ⟨t,ht⟩:=isI hk
  exact ⟨k,t,ht⟩
 obtain ⟨ns,hv⟩:=go vs all
 have hl:ns.length=n:=by
  have h1:=hv.length
  have h2:=hp.length_eq
  rw [ab] at h1 h2
  rw [h1,h2,az,hn]
 have mm:∀ (ns:List Int) (vs:List Value),cq (ns.map V.int) vs->∀ x,x∈ns↔∃ t,Value.int x t∈vs:=fun ns=>by
  induction ns with
  | nil=>intro vs h x;cases h;simp
  | cons k ns ih =>
    intro vs h x
    cases h with
    | @cons _ u _ us hu hr =>
      obtain ⟨t,rfl⟩:=hu
      rw [ag,ih us hr x]
      constructor
      ·rintro (rfl | ⟨t',h'⟩)
       ·exact ⟨t,ak⟩
       ·exact ⟨t',ai _ h'⟩
      ·rintro ⟨t',h'⟩
       rcases ag.mp h' with z | z
       ·cases z;exact .inl rfl
       ·exact .inr ⟨t',z⟩
 refine ⟨ns,hv,hl,fun x=>?_⟩
 rw [mm ns vs hv x,hmem x]
 constructor
 ·rintro ⟨t,ht⟩
  obtain ⟨e,he,ee⟩:=bf.mp (hp.mem_iff.mp ht)
  exact ⟨e,he,by rw [ee];exact intKind_is _ _ _ _⟩
 ·rintro ⟨e,he,hk⟩
  obtain ⟨t,ht⟩:=isI hk
  exact ⟨t,hp.mem_iff.mpr (bf.mpr ⟨e,he,ht⟩)⟩
section
variable {X:Cx} {pins:List (Addr×Obj)} {σ:St} {H:Hp} {s:Shared}
theorem _root_.L2.Inv.drew {d:Drawn} (I:Inv X pins σ H s):Inv X pins σ H { s with drawn:=d }:=⟨I.ok,I.os,I.bare,I.base,I.loc,I.cell,I.free,I.freeC,I.pin,I.hok,I.len⟩
theorem rK {a:Addr} {S:Int->Bool} {n:Nat} {Q:VK} (hc:X.calm=true) (I:Inv X pins σ H s) (hS:gx X.prog X.w s.heap a S n) (hn:n<64)
 (k:∀ p ns,H p=none->ns.length=n->(∀ x,x∈ns↔S x=true)->Q (.ref p) (upd H p (.lst ((Ms.srt Ms.ltI ns).map V.int)))):wpAny (model X.prog X.w) X.A (call (.builtin "sorted") [.ref a]) (EP X pins σ Q) X.xe s:=by
 have sz:sizeLine=16777216:=sizeLine_eq
 have hh:X.A.in1.in1.handled=none:=I.ok.hd hc
 have hT:s.TypeIs (.ref a) "set":=by obtain ⟨o,es,ep,t,ho,hex,_⟩:=hS;exact ⟨o,ho,hex.1⟩
 have hal:a<s.heap.objs.size:=by obtain ⟨o,es,ep,t,ho,_⟩:=hS;exact au ho
 refine Calls.call_function_entry kind_sorted plain_sorted entry_sorted (args_sorted1 _) ?_
 unfold Builtin.«sorted»
 refine wpAny_bind (m:=checkCount "sorted" 1 1 _) (wpAny_pure (wpAny_bind (oY hT (o4 (hS.at fun o e=>aa _ e) hh (by rw [bV];exact cY _) (aH hal) (by lia) fun h1 tk d vs kp0 good=>?_))))
 obtain ⟨ns,rv,hl,hm⟩:=sK good
 have hlv:vs.length=ns.length:=by rw [<- rv.length,ab]
 have k1:∀ b o,s.heap.get? b=some o->h1.get? b=some o:=fun b o e=>kp0 b o (aH (au e)) (aa _ e)
 have I1:Inv X pins σ H { s with heap:=h1,toks:=tk,drawn:=d }:=(I.kept (t':=tk) k1).drew
 refine wpAny_bind (wpAny_newList ?_ (by lia))
 have hoD:(h1.push (seqObj "list" vs.toArray 0)).get? h1.objs.size=some (seqObj "list" vs.toArray 0):=af _ rfl
 have kp1:∀ h',ie h1.objs.size (h1.push (seqObj "list" vs.toArray 0)) h'->∀ b o,h1.get? b=some o->h'.get? b=some o:=fun h' k b o e=>k b o (aH (au e)) (aa _ e)
 show wpAny _ _ _ _ _ { s with heap:=h1.push (seqObj "list" vs.toArray 0),toks:=tk,drawn:=d }
 have cmp:∀ s':Shared,oh X.prog X.w X.A.in1.in1 s' vs oH oneType' (fun i=>ns.getD i (0:Int)):=fun s'=>pV (G':=H) (bP.ints.mpr rfl) rv
 refine wpAny_bind (wpAny_holding (wpAny_call_entry slot_list_sort ⟨_,hoD,rfl⟩ entry_list_sort ?body (args_list_sort _)))
 case body =>
  refine qk (s:={ s with heap:=h1.push (seqObj "list" vs.toArray 0),toks:=tk,drawn:=d }) (O:=oH) (key:=fun i=>ns.getD i (0:Int)) (κ:=oneType') hoD (.inl (by lia)) (fun h' _ h2 Q' q=>(cmp _).1 h2 Q' q) (fun h' _ i j C hi hj c=>(cmp _).2 i j C hi hj c) fun p h' c hp hu kb e=>?_
  refine ⟨_,rfl,wpAny_pure ⟨_,rfl,?_⟩⟩
  rw [hlv] at hp hu
  have pl:=h8 (O:=oH) (0:Int) hp hu
  have hpm:∀ i∈p.toList,i<(ns.map V.int).length:=fun i hi=>by
   have h1:p.toList.Perm (bi ns.length):=by simpa using bp.mp hp.perm
   rw [ab]
   simpa using h1.mem_iff.mp hi
  have r2:=gD rv p.toList hpm
  have e3:(p.toList.map fun i=>(ns.map V.int).getD i .non)=(Ms.srt Ms.ltI ns).map V.int:=by
   have:(p.toList.map fun i=>ns.getD i 0)=Ms.srt Ms.ltI ns:=pl.trans (oQ oH ns)
   rw [<- this,aS]
   refine eB fun i hi=>?_
   have hi':=hpm i hi
   rw [ab] at hi'
   simp [hi']
  rw [e3] at r2
  have hlen:((Ms.srt Ms.ltI ns).map V.int).length<=sizeLine:=by rw [ab,(Ms.srt_perm ns).length_eq];lia
  exact ⟨.ref h1.objs.size,_,I1.laid (t':=tk) (kp1 h' kb) (aj _) (show dZ X.prog X.w _ h' _ (.lst _) from ⟨hlen,_,c,r2,e⟩),rfl,k _ ns (I1.hok.fresh (aj _)) hl hm⟩
variable {e:Expr} {p p2 pos pos2:Pos} {te:TE}
def tSS (K:PySem.W.Frag) (te:TE):TE:=fun σ H Q=>te σ H fun x H1=>∃ (t:Addr) (ns:List Int),x=.ref t/\SqT K H1 t (ns.map V.int)/\ns.length<64/\∀ q,H1 q=none->Q (.ref q) (upd H1 q (.lst ((Ms.srt Ms.ltI (cN ns)).map V.int)))
theorem Bx {l m:List Int} (hm:m.Nodup) (h:∀ x,x∈l↔x∈m) (hl:l.length=m.length):l.Nodup:=by
 have d:∀ l:List Int,(cN l).length<=l.length/\((cN l).length=l.length->l.Nodup):=fun l=>by
  induction l with
  | nil=>exact ⟨aj _,fun _=>.nil⟩
  | cons a l ih =>
    show (if a∈l then cN l else a::cN l).length<=l.length+1/\((if a∈l then cN l else a::cN l).length=l.length+1->_)
    by_cases h:a∈l
    ·rw [if_pos h]
     exact ⟨by lia,fun e=>by lia⟩
    ·rw [if_neg h]
     exact ⟨Cp ih.1,fun e=>be.mpr ⟨h,ih.2 (by simpa using e)⟩⟩
 refine (d l).2 (pS (d l).1 ?_)
 rw [hl]
 exact Ms.length_le_of_subset hm fun x hx=>((eM l).2 x).mpr ((h x).mpr hx)
theorem nu (hc:X.calm=true) (hg:Gl X "sorted") (hm:X.mg "sorted" = none) (hg2:Gl X "set") (hm2:X.mg "set" = none) (he:PE X e te) (hs:starEach [e] X.env=[(false,eval e X.env)]:=by exact aX rfl)
 (hs2:starEach [.Call (.Name "set" p2) [e] [] pos2] X.env=[(false,eval (.Call (.Name "set" p2) [e] [] pos2) X.env)]:=by exact aX rfl):PE X (.Call (.Name "sorted" p) [.Call (.Name "set" p2) [e] [] pos2] [] pos) (tSS X.K te):=by
 intro pins s σ H Q I h
 refine wpAny_Call_Name_kw (fL (u:=.builtin "sorted") I hg hm (by decide +kernel) ?_)
 refine PyProof.Rows.callWith_builtin1 ?_ hs2 rfl
 rw [hs2]
 show wpAny _ _ (spliced ((false,eval (.Call (.Name "set" p2) [e] [] pos2) X.env)::backTo pos (starEach [] X.env))) _ _ s
 refine Calls.spliced_cons ?_
 refine wpAny_Call_Name_kw (fL I hg2 hm2 (by decide +kernel:bootBuiltins "set" = some (.type "set")) ?_ (by decide) (by decide))
 refine PyProof.Rows.callWith_type1 ?_ hs rfl
 rw [hs]
 show wpAny _ _ (spliced ((false,eval e X.env)::backTo pos2 (starEach [] X.env))) _ _ s
 refine Calls.spliced_cons (thn (he pins s σ H _ I h) fun u s1 ⟨x,H1,I1,r1,t,ns,ex,hsq,hl,k⟩=>?_)
 subst ex
 cases r1
 refine Calls.spliced_nil ?_
 obtain ⟨its,rv,it,z⟩:=I1.tuple hsq
 have hI:IntsAre its ns:=i6 rv
 have hlen:its.length=ns.length:=IntsAre.length hI
 refine rj (I1.ok.hd hc) it (by simpa using hI) (by rw [aq];unfold scanBound;lia) fun h' tk hS kp=>Calls.spliced_nil ?_
 have hd:(cN ns).length<=ns.length:=Ms.length_le_of_subset (eM ns).1 fun x hx=>((eM ns).2 x).mp hx
 have I2:Inv X pins σ H1 { s1 with heap:=h',toks:=tk }:=I1.kept (t':=tk) fun b u e=>kp b u (au e) e
 refine rK hc I2 hS (by rw [p0];lia) fun q ms hq hml hmm=>?_
 have em:∀ x,x∈ms↔x∈cN ns:=fun x=>by
  rw [hmm x,(eM ns).2 x]
  obtain ⟨_,a2⟩:=gN ns [] jF
  have h2:x∈xy ns↔x∈ns:=by rw [tO,a2 x];simp
  rw [<- h2,fN]
  exact ⟨fun ⟨y,hy,e⟩=>by rw [<- eq_of_beq e];exact hy,fun hx=>⟨x,hx,beq_self_eq_true x⟩⟩
 have e2:Ms.srt Ms.ltI ms=Ms.srt Ms.ltI (cN ns):=Ms.strict_ext Ms.linI (Ms.srt_strict Ms.linI (Bx (eM ns).1 em (by rw [hml,p0]))) (Ms.srt_strict Ms.linI (eM ns).1) fun x=>by rw [(Ms.srt_perm _).mem_iff,(Ms.srt_perm _).mem_iff,em x]
 rw [e2]
 exact k q hq
def eF (f:Rho->Option Rv):Rho->Option Rv:=fun ρ=>match f ρ with
 | some (_,.tup ds)=>(match fj ds with
   | some ns=>if ns.length<64 then some (.fr,.lst ((Ms.srt Ms.ltI (cN ns)).map Da.int)) else none
   | none=>none)
 | _=>none
theorem nv {fa:Rho->Option Rv} (hc:X.calm=true) (hg:Gl X "sorted") (hm:X.mg "sorted" = none) (hg2:Gl X "set") (hm2:X.mg "set" = none) (ha:PX X e fa) (hs:starEach [e] X.env=[(false,eval e X.env)]:=by exact aX rfl)
 (hs2:starEach [.Call (.Name "set" p2) [e] [] pos2] X.env=[(false,eval (.Call (.Name "set" p2) [e] [] pos2) X.env)]:=by exact aX rfl):PX X (.Call (.Name "sorted" p) [.Call (.Name "set" p2) [e] [] pos2] [] pos) (eF fa) :=
 PE.imp (nu hc hg hm hg2 hm2 ha hs hs2) fun σ H Q ⟨B,G,ρ,r,sg,sb,st,eq,k⟩=>by
  unfold eF at eq
  split at eq
  ·rename_i kd ds ea
   split at eq
   ·rename_i ns en
    split at eq
    ·rename_i hl
     cases eq
     refine ⟨B,G,ρ,_,sg,sb,st,ea,fun v G1 H1 E1 r1=>?_⟩
     obtain ⟨t,ys,rfl,q,dl,_⟩:=r1.tup E1.gh
     rw [eI en] at dl
     have ey:ys=ns.map V.int:=bP.ints.mp dl
     subst ey
     refine ⟨t,ns,rfl,SqT.of q,hl,fun l hl'=>k _ G1 _ (E1.trans (Ext.own E1.gh hl')) ⟨l,_,rfl,E1.hh.free hl',E1.gh.free hl',aL,_,rfl,bP.ints.mpr rfl⟩⟩
    ·cases eq
   ·cases eq
  ·cases eq
end
end Ry
namespace Ry
open PySem PySem.Spec PyProof.Rows L2
@[irreducible] def QX (X:Cx) (e:Expr) (f:Rho->Option Rv):Prop:=PX X e f
theorem QX.mk {X:Cx} {e:Expr} {f:Rho->Option Rv} (h:PX X e f):QX X e f:=by unfold QX;exact h
theorem QX.out {X:Cx} {e:Expr} {f:Rho->Option Rv} (h:QX X e f):PX X e f:=by unfold QX at h;exact h
@[irreducible] def QXT (X:Cx) (e:Expr) (f:Rho->Option Bool):Prop:=PXT X e f
theorem QXT.mk {X:Cx} {e:Expr} {f:Rho->Option Bool} (h:PXT X e f):QXT X e f:=by unfold QXT;exact h
theorem QXT.out {X:Cx} {e:Expr} {f:Rho->Option Bool} (h:QXT X e f):PXT X e f:=by unfold QXT at h;exact h
@[irreducible] def QXW (X:Cx) (e:Expr) (f:Rho->Option Bool):Prop:=PXW X e f
theorem QXW.mk {X:Cx} {e:Expr} {f:Rho->Option Bool} (h:PXW X e f):QXW X e f:=by unfold QXW;exact h
theorem QXW.out {X:Cx} {e:Expr} {f:Rho->Option Bool} (h:QXW X e f):PXW X e f:=by unfold QXW at h;exact h
@[irreducible] def QXA (X:Cx) (es:List Expr) (f:Rho->Option (List Rv)):Prop:=PXA X es f
theorem QXA.mk {X:Cx} {es:List Expr} {f:Rho->Option (List Rv)} (h:PXA X es f):QXA X es f:=by unfold QXA;exact h
theorem QXA.out {X:Cx} {es:List Expr} {f:Rho->Option (List Rv)} (h:QXA X es f):PXA X es f:=by unfold QXA at h;exact h
@[irreducible] def QXS (X:Cx) (st:Stmt) (g:Rho->Res):Prop:=PXS X st g
theorem QXS.mk {X:Cx} {st:Stmt} {g:Rho->Res} (h:PXS X st g):QXS X st g:=by unfold QXS;exact h
theorem QXS.out {X:Cx} {st:Stmt} {g:Rho->Res} (h:QXS X st g):PXS X st g:=by unfold QXS at h;exact h
@[irreducible] def ii (X:Cx) (st:List Stmt) (g:Rho->Res):Prop:=p4 X st g
theorem ii.mk {X:Cx} {st:List Stmt} {g:Rho->Res} (h:p4 X st g):ii X st g:=by unfold ii;exact h
theorem ii.out {X:Cx} {st:List Stmt} {g:Rho->Res} (h:ii X st g):p4 X st g:=by unfold ii at h;exact h
@[irreducible] def QXI (X:Cx) (tg iter:Expr) (f:Rho->Option (List Da)):Prop:=PXI X tg iter f
theorem QXI.mk {X:Cx} {tg iter:Expr} {f:Rho->Option (List Da)} (h:PXI X tg iter f):QXI X tg iter f:=by unfold QXI;exact h
theorem QXI.out {X:Cx} {tg iter:Expr} {f:Rho->Option (List Da)} (h:QXI X tg iter f):PXI X tg iter f:=by unfold QXI at h;exact h
@[irreducible] def QXG (X:Cx) (tg:Expr) (t:Da->Rho->Option Rho):Prop:=PXG X tg t
theorem QXG.mk {X:Cx} {tg:Expr} {t:Da->Rho->Option Rho} (h:PXG X tg t):QXG X tg t:=by unfold QXG;exact h
theorem QXG.out {X:Cx} {tg:Expr} {t:Da->Rho->Option Rho} (h:QXG X tg t):PXG X tg t:=by unfold QXG at h;exact h
@[irreducible] def rY (X:Cx) (ts:List Expr) (t:List Da->Rho->Option Rho):Prop:=x8 X ts t
theorem rY.mk {X:Cx} {ts:List Expr} {t:List Da->Rho->Option Rho} (h:x8 X ts t):rY X ts t:=by unfold rY;exact h
theorem rY.out {X:Cx} {ts:List Expr} {t:List Da->Rho->Option Rho} (h:rY X ts t):x8 X ts t:=by unfold rY at h;exact h
@[irreducible] def QTS (X:Cx) (ifs:List Expr) (c:Rho->Option Bool):Prop:=PTS X ifs (tXT X.K c)
theorem QTS.mk {X:Cx} {ifs:List Expr} {c:Rho->Option Bool} (h:PTS X ifs (tXT X.K c)):QTS X ifs c:=by unfold QTS;exact h
theorem QTS.out {X:Cx} {ifs:List Expr} {c:Rho->Option Bool} (h:QTS X ifs c):PTS X ifs (tXT X.K c):=by unfold QTS at h;exact h
theorem iY {X:Cx}:QTS X [] (fun _=>some true):=QTS.mk yf
theorem lE {X:Cx} {c:Expr} {t:Rho->Option Bool} (h:QXT X c t):QTS X [c] t:=QTS.mk (zF h.out)
structure sA (X:Cx) (scope:Scope) (tg elt:Expr) (ifs:List Expr) (t:Da->Rho->Option Rho) (c:Rho->Option Bool) (f:Rho->Option Rv):Prop where
 tg:∀ s H fp,QXG (inC X scope s H fp) tg t
 ifs:∀ s H fp,QTS (inC X scope s H fp) ifs c
 elt:∀ s H fp,QX (inC X scope s H fp) elt f
theorem sA.out {X:Cx} {scope:Scope} {tg elt:Expr} {ifs:List Expr} {t:Da->Rho->Option Rho} {c:Rho->Option Bool} {f:Rho->Option Rv} (h:sA X scope tg elt ifs t c f):wD X scope tg elt ifs t c f:=⟨fun s H fp=>(h.tg s H fp).out,fun s H fp=>(h.ifs s H fp).out,fun s H fp=>(h.elt s H fp).out⟩
theorem aB (i:Nat) {x:Str} {pos:Pos} (hN:X.N[i]?=some x:=by rfl) (hv:Vis X.env.scope x:=by first | exact Or.inl rfl | exact Or.inr (Or.inl rfl) | exact Or.inr (Or.inr rfl)) (hd:(x == ("__debug__" : Str))=false:=by decide)
 (hcd:(x == ("__classdict__" : Str))=false:=by decide):QX X (.Name x pos) (aQ i):=QX.mk (ju (i:=i) (x:=x) (pos:=pos) (hN:=hN) (hv:=hv) (hd:=hd) (hcd:=hcd))
theorem bM {i j pos}:QX X (.Constant (.int i) j pos) (xC (.int i)):=QX.mk (sP (i:=i) (j:=j) (pos:=pos))
theorem ky {b j pos}:QX X (.Constant (.bool b) j pos) (xC (.bl b)):=QX.mk (CP (b:=b) (j:=j) (pos:=pos))
theorem jm (ha:QX X a fa) (hb:QX X b fb):QX X (.BinOp a .Add b pos) (x2 mz fa fb):=QX.mk (xl (ha:=ha.out) (hb:=hb.out))
theorem xb (ha:QX X a fa) (hb:QX X b fb):QX X (.BinOp a .Sub b pos) (x2 (oI (fun _ _=>true) (·-·)) fa fb):=QX.mk (xh (ha:=ha.out) (hb:=hb.out))
theorem uL (ha:QX X a fa) (hb:QX X b fb):QX X (.BinOp a .Mult b pos) (x2 (oI nS (·*·)) fa fb):=QX.mk (xD (ha:=ha.out) (hb:=hb.out))
theorem sV (ha:QX X a fa) (hb:QX X b fb):QX X (.BinOp a .Mod b pos) (x2 (oI (fun _ j=>decide (0<j)) (·%·)) fa fb):=QX.mk (Bo (ha:=ha.out) (hb:=hb.out))
theorem bZ {pos:Pos} (hu:X.A.units+1<cLine) (ha:QX X a fa) (hb:QX X b fb) (hs:mv b:=by intro _ _;rfl):QX X (.Subscript a b pos) (x2 oIt fa fb):=QX.mk (zJ (pos:=pos) (hu:=hu) (ha:=ha.out) (hb:=hb.out) (hs:=hs))
theorem aW:QXA X [] ca:=QXA.mk (lN )
theorem aw {e:Expr} {es:List Expr} {f:Rho->Option Rv} {g:Rho->Option (List Rv)} (ha:QX X e f) (hr:QXA X es g) (hs:starEach (e::es) X.env=(false,eval e X.env)::starEach es X.env:=by exact aX rfl):QXA X (e::es) (aO f g):=QXA.mk (gT (e:=e) (es:=es) (f:=f) (g:=g) (ha:=ha.out) (hr:=hr.out) (hs:=hs))
theorem jq {es:List Expr} {x1:Nat} {pos:Pos} {g:Rho->Option (List Rv)} (h:QXA X es g):QX X (.Tuple es x1 pos) (oD g):=QX.mk (AC (es:=es) (x1:=x1) (pos:=pos) (g:=g) (h:=h.out))
theorem qG {es:List Expr} {pos:Pos} {g:Rho->Option (List Rv)} (h:QXA X es g):QX X (.List es pos) (vT g):=QX.mk (B3 (es:=es) (pos:=pos) (g:=g) (h:=h.out))
theorem jG {pos:Pos}:QX X (.Dict [] [] pos) (xC2 (.fr,.dK [] [])):=QX.mk (wx (pos:=pos))
theorem v8 {pos:Pos}:QX X (.Dict [] [] pos) (xC2 (.fr,.dT [] [])):=QX.mk (vV (pos:=pos))
theorem Ci {o:CmpOp} {op:Rv->Rv->Option Rv} (h:CR2 X o op) (ha:QX X a fa) (hb:QX X b fb) (hm:behindInMarks o b=false:=by first | exact qM _ | with_unfolding_all rfl):QX X (.Compare a [o] [b] pos) (x2 op fa fb):=QX.mk (D9 (o:=o) (op:=op) (h:=h) (ha:=ha.out) (hb:=hb.out) (hm:=hm))
theorem je {o:CmpOp} {op:Rv->Rv->Option Rv} (h:CR2 X o op) (ha:QX X a fa) (hb:QX X b fb) (hm:behindInMarks o b=false:=by first | exact qM _ | with_unfolding_all rfl):QXT X (.Compare a [o] [b] pos) (tb (x2 op fa fb)):=QXT.mk (Do (o:=o) (op:=op) (h:=h) (ha:=ha.out) (hb:=hb.out) (hm:=hm))
theorem qF (ha:QXT X a ta):QXW X (.BoolOp .And [a] pos) ta:=QXW.mk (wQ (ha:=ha.out))
theorem jd (ha:QXT X a ta):QXW X (.BoolOp .Or [a] pos) ta:=QXW.mk (zI (ha:=ha.out))
theorem uQ (ha:QXT X a ta) (hb:QXW X (.BoolOp .And (b::rest1) pos) tc):QXW X (.BoolOp .And (a::b::rest1) pos) (oN ta tc):=QXW.mk (yZ (ha:=ha.out) (hb:=hb.out))
theorem jo (ha:QXT X a ta) (hb:QXW X (.BoolOp .Or (b::rest1) pos) tc):QXW X (.BoolOp .Or (a::b::rest1) pos) (oC ta tc):=QXW.mk (A4 (ha:=ha.out) (hb:=hb.out))
theorem mM {e:Expr} (h:QXW X e ta):QXT X e ta:=QXT.mk (Dr (e:=e) (h:=h.out))
theorem fO (ha:QXT X a ta):QXT X (.UnaryOp .Not a pos) (eK ta):=QXT.mk (yB (ha:=ha.out))
theorem As {op} (h:QX X a fa):QX X (.BoolOp op [a] pos) fa:=QX.mk (B5 (op:=op) (h:=h.out))
theorem Aj (ha:QX X a fa) (hb:QX X (.BoolOp .And (b::rest1) pos) fb):QX X (.BoolOp .And (a::b::rest1) pos) (Ae fa fb):=QX.mk (AX (ha:=ha.out) (hb:=hb.out))
theorem hU (ha:QX X a fa) (he:∀ whole,isTrue a X.env whole=(do let v <- whole;standAt a.pos;holding [v] (truthy v)):=by intro _;rfl):QXT X a (tTr fa):=QXT.mk (AH (ha:=ha.out) (he:=he))
theorem fQ:ii X [] iT:=ii.mk (zv )
theorem bA (h1:QXS X st1 g) (h2:ii X rest1 h):ii X (st1::rest1) (gd g h):=ii.mk (wb (h1:=h1.out) (h2:=h2.out))
theorem bD (h1:QXS X st1 g):ii X [st1] g:=ii.mk (xX (h1:=h1.out))
theorem g7 {c:Expr} {a b:List Stmt} {t:Rho->Option Bool} (hc:QXT X c t) (ha:ii X a g) (hb:ii X b h):QXS X (.If c a b pos) (sIf t g h):=QXS.mk (A8 (c:=c) (a:=a) (b:=b) (t:=t) (hc:=hc.out) (ha:=ha.out) (hb:=hb.out))
theorem fP {i:Nat} {x:Str} (hN:X.N.Nodup) (he:QX X e f) (hi:X.N[i]?=some x:=by rfl) (hx:Loc X.env.scope x:=by first | exact Or.inl rfl | exact Or.inr rfl) (hs:swapsWith e (some (.Name x pos')) pos.line X.env=pure false:=by rfl)
 (hf:X.fn x=true\/X.env.scope.names.lookup x=some .local:=by first | exact .inl rfl | exact .inr rfl | assumption):QXS X (.Assign [.Name x pos'] e pos) (kg i f):=QXS.mk (zQ (i:=i) (x:=x) (hN:=hN) (he:=he.out) (hi:=hi) (hx:=hx) (hs:=hs) (hf:=hf))
theorem iU {i:Nat} {x:Str} (hN:X.N.Nodup) (he:QX X e f) (hi:X.N[i]?=some x:=by rfl) (hx:Loc X.env.scope x:=by first | exact Or.inl rfl | exact Or.inr rfl) (hs:swapsWith e (some (.Name x pos')) pos.line X.env=pure false:=by rfl)
 (hf:X.fn x=true\/X.env.scope.names.lookup x=some .local:=by first | exact .inl rfl | exact .inr rfl | assumption):QXS X (.Assign [.Name x pos'] e pos) (vv i f):=QXS.mk (zS (i:=i) (x:=x) (hN:=hN) (he:=he.out) (hi:=hi) (hx:=hx) (hs:=hs) (hf:=hf))
theorem zD (i:Nat) (h1:QXS X st1 g):QXS X st1 (fun ρ=>g (frz i ρ)):=QXS.mk (zh (i:=i) (h1:=h1.out))
theorem iV {i:Nat} {x:Str} {p1 apos cpos:Pos} (he:QX X e f) (hN:X.N[i]?=some x:=by rfl) (hv:Vis X.env.scope x:=by first | exact Or.inl rfl | exact Or.inr (Or.inl rfl) | exact Or.inr (Or.inr rfl)) (hd:(x == ("__debug__" : Str))=false:=by decide)
 (hcd:(x == ("__classdict__" : Str))=false:=by decide)
 (hs:swapsWith (.Call (.Attribute (.Name x p1) "append" apos) [e] [] cpos) none pos.line X.env=pure false:=by rfl) (hbase:attributeBase (.Name x p1) "append" X.env (eval (.Name x p1) X.env)=eval (.Name x p1) X.env:=by rfl)
 (hfew:((backTo cpos (starEach [e] X.env)).all (fun x=>!x.1)&&(backToKw cpos (keywordEach [] X.env)).all (fun x=>x.1.isSome)&&decide (([e]:List Expr).length+([]:List Keyword).length+(if ([]:List Keyword).isEmpty then 0 else 1)<30))=true:=by rfl)
 (hline:(apos.endLine == cpos.line)=true:=by rfl) (hst:starEach [e] X.env=[(false,eval e X.env)]:=by exact aX rfl) (hplain:(backTo cpos (starEach [] X.env)).any (·.1)=false:=by rfl) :
 QXS X (.Expr (.Call (.Attribute (.Name x p1) "append" apos) [e] [] cpos) pos) (ic i f):=QXS.mk (rm (i:=i) (x:=x) (p1:=p1) (apos:=apos) (cpos:=cpos) (he:=he.out) (hN:=hN) (hv:=hv) (hd:=hd) (hcd:=hcd) (hs:=hs) (hbase:=hbase) (hfew:=hfew) (hline:=hline) (hst:=hst) (hplain:=hplain))
theorem fK {X:Cx} {e:Expr} {f:Rho->Option Rv} (h:QX X e f):QX X e (gu f):=QX.mk (xK (X:=X) (e:=e) (f:=f) (h:=h.out))
theorem bU {X:Cx} {e:Expr} {f:Rho->Option Rv} {pos:Pos} (he:QX X e f):QXS X (.Return (some e) pos) (eG f):=QXS.mk (vX (X:=X) (e:=e) (f:=f) (pos:=pos) (he:=he.out))
theorem eC (he:QX X e f):QXI X tg e (b7 f):=QXI.mk (um (he:=he.out))
theorem fU {a:Expr} {p:Pos} {g:Rho->Option (List Rv)} (hg:Gl X "range") (hm:X.mg "range" = none) (ha:QXA X [a] g) (hs:starEach [a] X.env=[(false,eval a X.env)]:=by exact aX rfl):QXI X tg (.Call (.Name "range" p) [a] [] pos) (mB g):=QXI.mk (kM (a:=a) (p:=p) (g:=g) (hg:=hg) (hm:=hm) (ha:=ha.out) (hs:=hs))
theorem kU {a b:Expr} {p:Pos} {g:Rho->Option (List Rv)} (hg:Gl X "range") (hm:X.mg "range" = none) (ha:QXA X [a,b] g) (hs:starEach [a,b] X.env=[(false,eval a X.env),(false,eval b X.env)]:=by rfl) (hs2:starEach [b] X.env=[(false,eval b X.env)]:=by rfl) :
 QXI X tg (.Call (.Name "range" p) [a,b] [] pos) (xn g):=QXI.mk (rB (a:=a) (b:=b) (p:=p) (g:=g) (hg:=hg) (hm:=hm) (ha:=ha.out) (hs:=hs) (hs2:=hs2))
theorem bL {i:Nat} {x:Str} (hN:X.N.Nodup) (hi:X.N[i]?=some x:=by rfl) (hx:Loc X.env.scope x:=by first | exact Or.inl rfl | exact Or.inr rfl) (hf:X.fn x=true\/X.env.scope.names.lookup x=some .local:=by first | exact .inl rfl | exact .inr rfl | assumption):QXG X (.Name x pos) (tgN i):=QXG.mk (wI (i:=i) (x:=x) (hN:=hN) (hi:=hi) (hx:=hx) (hf:=hf))
theorem o9:rY X [] kC:=rY.mk (yR )
theorem gP {e:Expr} {es:List Expr} {t:Da->Rho->Option Rho} {u:List Da->Rho->Option Rho} (h1:QXG X e t) (h2:rY X es u) (hs:(assignEach (e::es) X.env).map (·.2)=assign e X.env::(assignEach es X.env).map (·.2):=by rfl):rY X (e::es) (fA t u):=rY.mk (vF (e:=e) (es:=es) (t:=t) (u:=u) (h1:=h1.out) (h2:=h2.out) (hs:=hs))
theorem pM {es:List Expr} {k n:Nat} {t:List Da->Rho->Option Rho} (hc:X.calm=true) (h:rY X es t) (hn:(assignEach es X.env).length=n:=by rfl) (hst:(assignEach es X.env).findIdx? (·.1)=none:=by rfl):QXG X (.Tuple es k pos) (tgT n t):=QXG.mk (yq (es:=es) (k:=k) (n:=n) (t:=t) (hc:=hc) (h:=h.out) (hn:=hn) (hst:=hst))
theorem eU {X:Cx} {tg iter:Expr} {body:List Stmt} {f:Rho->Option (List Da)} {t:Da->Rho->Option Rho} {g:Rho->Res} {pos:Pos} (hp:PassesOwn (model X.prog X.w) X.A X.env X.xe) (hc:X.calm=true) (hi:QXI X tg iter f) (hg:QXG X tg t) (hb:ii X body g)
 (hs:∀ x,foldedSetIterable iter X.env x=pure x:=by intro _;rfl):QXS X (.For tg iter body [] pos) (lf f t g):=QXS.mk (yD (X:=X) (tg:=tg) (iter:=iter) (body:=body) (f:=f) (t:=t) (g:=g) (pos:=pos) (hp:=hp) (hc:=hc) (hi:=hi.out) (hg:=hg.out) (hb:=hb.out) (hs:=hs))
theorem t6 {X:Cx} {c:Expr} {body:List Stmt} {t:Rho->Option Bool} {g:Rho->Res} {pos:Pos} (n:Nat) (hp:PassesOwn (model X.prog X.w) X.A X.env X.xe) (hc:QXT X c t) (hb:ii X body g):QXS X (.While c body [] pos) (gB t g n):=QXS.mk (tj (X:=X) (c:=c) (body:=body) (t:=t) (g:=g) (pos:=pos) (n:=n) (hp:=hp) (hc:=hc.out) (hb:=hb.out))
theorem gy (hc:X.calm=true) (S:CScope X scope ix) (hi:QXI X tg iter fi) (B:sA X scope tg elt ifs t c f) (hs:∀ x,foldedSetIterable iter X.env x=pure x:=by intro _;rfl):QX X (.ListComp elt [⟨tg,iter,ifs,0⟩] scope pos) (d8 ix fi t c f):=QX.mk (yT (hc:=hc) (S:=S) (hi:=hi.out) (B:=B.out) (hs:=hs))
theorem mG (hg:Gl X "len") (hm:X.mg "len" = none) (ha:QXA X (e::es) g) (he:starEach (e::es) X.env=(false,eval e X.env)::starEach es X.env:=by exact aX rfl) (hpl:(backTo pos (starEach es X.env)).any (·.1)=false:=by rfl):QX X (.Call (.Name "len" p) (e::es) [] pos) (xB nU g):=QX.mk (xg (hg:=hg) (hm:=hm) (ha:=ha.out) (he:=he) (hpl:=hpl))
theorem lP (hg:Gl X "tuple") (hm:X.mg "tuple" = none) (ha:QXA X (e::es) g) (he:starEach (e::es) X.env=(false,eval e X.env)::starEach es X.env:=by exact aX rfl) (hpl:(backTo pos (starEach es X.env)).any (·.1)=false:=by rfl):QX X (.Call (.Name "tuple" p) (e::es) [] pos) (xB iy g):=QX.mk (wl (hg:=hg) (hm:=hm) (ha:=ha.out) (he:=he) (hpl:=hpl))
theorem zi (hg:Gl X "list") (hm:X.mg "list" = none) (ha:QXA X (e::es) g) (he:starEach (e::es) X.env=(false,eval e X.env)::starEach es X.env:=by exact aX rfl) (hpl:(backTo pos (starEach es X.env)).any (·.1)=false:=by rfl):QX X (.Call (.Name "list" p) (e::es) [] pos) (xB lD g):=QX.mk (yn (hg:=hg) (hm:=hm) (ha:=ha.out) (he:=he) (hpl:=hpl))
theorem xi (ha:QX X a fa):QX X (.UnaryOp .USub a pos) (rG fa):=QX.mk (Bu (ha:=ha.out))
theorem tE {apos:Pos} {o:Expr} {fo:Rho->Option Rv} (hu:X.A.units+1<cLine) (ho:QX X o fo) (ha:QX X a fa) (hb:QX X b fb) (hbase:attributeBase o "get" X.env (eval o X.env)=eval o X.env:=by rfl)
 (hfew:((backTo pos (starEach [a,b] X.env)).all (fun x=>!x.1)&&(backToKw pos (keywordEach [] X.env)).all (fun x=>x.1.isSome)&&decide (([a,b]:List Expr).length+([]:List Keyword).length+(if ([]:List Keyword).isEmpty then 0 else 1)<30))=true:=by rfl)
 (hline:(apos.endLine == pos.line)=true:=by rfl) (htr:backTo pos (starEach [a,b] X.env)=[(false,eval a X.env),(false,eval b X.env)]:=by rfl):QX X (.Call (.Attribute o "get" apos) [a,b] [] pos) (kf fo fa fb):=QX.mk (zU (apos:=apos) (o:=o) (fo:=fo) (hu:=hu) (ho:=ho.out) (ha:=ha.out) (hb:=hb.out) (hbase:=hbase) (hfew:=hfew) (hline:=hline) (htr:=htr))
theorem lW {i:Nat} {x:Str} {px:Pos} (hu:X.A.units+64<cLine) (hk:QX X a fa) (hv:QX X b fb) (hN:X.N[i]?=some x:=by rfl) (hvis:Vis X.env.scope x:=by first | exact Or.inl rfl | exact Or.inr (Or.inl rfl) | exact Or.inr (Or.inr rfl)) (hd:(x == ("__debug__" : Str))=false:=by decide)
 (hcd:(x == ("__classdict__" : Str))=false:=by decide) (hs:swapsWith b (some (.Subscript (.Name x px) a pos')) pos.line X.env=pure false:=by rfl):QXS X (.Assign [.Subscript (.Name x px) a pos'] b pos) (xL i fa fb):=QXS.mk (yA (i:=i) (x:=x) (px:=px) (hu:=hu) (hk:=hk.out) (hv:=hv.out) (hN:=hN) (hvis:=hvis) (hd:=hd) (hcd:=hcd) (hs:=hs))
theorem bO {X:Cx} {k n:Nat} {ps:List Str} {fn:List Da->Option Da} {x:Str} {p pos:Pos} {e:Expr} {es:List Expr} {g:Rho->Option (List Rv)} (C:Ca X.prog X.w X.K X.mg X.base x ps k n fn) (hr:fq k X.A) (hg:Gl X x) (ha:QXA X (e::es) g) (hlen:∀ ρ rs,g ρ=some rs->rs.length=n)
 (hdb:(x == ("__debug__" : Str))=false:=by decide) (he:starEach (e::es) X.env=(false,eval e X.env)::starEach es X.env:=by exact aX rfl) (hpl:(backTo pos (starEach es X.env)).any (·.1)=false:=by rfl):QX X (.Call (.Name x p) (e::es) [] pos) (cC fn g):=QX.mk (qp (X:=X) (k:=k) (n:=n) (ps:=ps) (fn:=fn) (x:=x) (p:=p) (pos:=pos) (e:=e) (es:=es) (g:=g) (C:=C) (hr:=hr) (hg:=hg) (ha:=ha.out) (hlen:=hlen) (hdb:=hdb) (he:=he) (hpl:=hpl))
theorem j8 {T:String} {x:Str} {i:Da->Option Bool} (hk:pU X.K T i) (hv:bootBuiltins x=some (.type T)) (hg:Gl X "isinstance") (hm:X.mg "isinstance" = none) (hg2:Gl X x) (hm2:X.mg x=none) (ha:QX X a fa)
 (hn:x≠"__name__":=by decide) (hd:(x == ("__debug__" : Str))=false:=by decide)
 (he:starEach [a,.Name x p2] X.env=[(false,eval a X.env),(false,eval (.Name x p2) X.env)]:=by rfl) (he2:starEach [.Name x p2] X.env=[(false,eval (.Name x p2) X.env)]:=by rfl):QX X (.Call (.Name "isinstance" p) [a,.Name x p2] [] pos) (eV i fa):=QX.mk (u7 (T:=T) (x:=x) (i:=i) (hk:=hk) (hv:=hv) (hg:=hg) (hm:=hm) (hg2:=hg2) (hm2:=hm2) (ha:=ha.out) (hn:=hn) (hd:=hd) (he:=he) (he2:=he2))
theorem sS (hc:X.calm=true) (hg:Gl X "all") (hm:X.mg "all" = none) (ha:QXA X (e::es) g) (he:starEach (e::es) X.env=(false,eval e X.env)::starEach es X.env:=by exact aX rfl) (hpl:(backTo pos (starEach es X.env)).any (·.1)=false:=by rfl):QX X (.Call (.Name "all" p) (e::es) [] pos) (xB vo g):=QX.mk (B6 (hc:=hc) (hg:=hg) (hm:=hm) (ha:=ha.out) (he:=he) (hpl:=hpl))
theorem nZ {o o':CmpOp} {op op':Rv->Rv->Option Rv} (h:CR2 X o op) (h':CR2 X o' op') (ha:QX X a fa) (hb:QX X b fb) (hc:QX X c fc) (hm:lastMarks [o,o'] [b,c]=false:=by with_unfolding_all rfl) :
 QXT X (.Compare a [o,o'] [b,c] pos) (tb (iL op op' fa fb fc)):=QXT.mk (uO (o:=o) (o':=o') (op:=op) (op':=op') (h:=h) (h':=h') (ha:=ha.out) (hb:=hb.out) (hc:=hc.out) (hm:=hm))
theorem m8 (hc:X.calm=true) (hg:Gl X "sorted") (hm:X.mg "sorted" = none) (ha:QXA X (e::es) g) (he:starEach (e::es) X.env=(false,eval e X.env)::starEach es X.env:=by exact aX rfl) (hpl:(backTo pos (starEach es X.env)).any (·.1)=false:=by rfl):QX X (.Call (.Name "sorted" p) (e::es) [] pos) (xB fy g):=QX.mk (vh (hc:=hc) (hg:=hg) (hm:=hm) (ha:=ha.out) (he:=he) (hpl:=hpl))
theorem pA {fa:Rho->Option Rv} (hg:Gl X "tuple") (hm:X.mg "tuple" = none) (hg2:Gl X "reversed") (hm2:X.mg "reversed" = none) (ha:QX X e fa) (hc:X.calm=true:=by rfl) (hs:starEach [e] X.env=[(false,eval e X.env)]:=by exact aX rfl)
 (hs2:starEach [.Call (.Name "reversed" p2) [e] [] pos2] X.env=[(false,eval (.Call (.Name "reversed" p2) [e] [] pos2) X.env)]:=by rfl):QX X (.Call (.Name "tuple" p) [.Call (.Name "reversed" p2) [e] [] pos2] [] pos) (iE fa):=QX.mk (po (fa:=fa) (hg:=hg) (hm:=hm) (hg2:=hg2) (hm2:=hm2) (ha:=ha.out) (hc:=hc) (hs:=hs) (hs2:=hs2))
theorem ya (hg:Gl X "int") (hm:X.mg "int" = none) (ha:QXA X (e::es) g) (he:starEach (e::es) X.env=(false,eval e X.env)::starEach es X.env:=by exact aX rfl) (hpl:(backTo pos (starEach es X.env)).any (·.1)=false:=by rfl):QX X (.Call (.Name "int" p) (e::es) [] pos) (xB Ac g):=QX.mk (yi (hg:=hg) (hm:=hm) (ha:=ha.out) (he:=he) (hpl:=hpl))
theorem uh (hg:Gl X "len") (hm:X.mg "len" = none) (ha:QXA X (e::es) g) (he:starEach (e::es) X.env=(false,eval e X.env)::starEach es X.env:=by exact aX rfl) (hpl:(backTo pos (starEach es X.env)).any (·.1)=false:=by rfl):QX X (.Call (.Name "len" p) (e::es) [] pos) (xB m9 g):=QX.mk (ym (hg:=hg) (hm:=hm) (ha:=ha.out) (he:=he) (hpl:=hpl))
theorem qA (i:Nat) {X:Cx} {e:Expr} {f:Rho->Option Rv} (h:QX X e f):QX X e (fE i f):=QX.mk (v7 (i:=i) (X:=X) (e:=e) (f:=f) (h:=h.out))
theorem uT (j:Nat) {i:Nat} {x:Str} (hN:X.N.Nodup) (hc:X.calm=true) (S:CScope X scope ix) (hi:QXI X tg iter fi) (B:sA X scope tg elt ifs t c f) (hj:X.N[i]?=some x:=by rfl) (hx:X.env.scope.names.lookup x=some .local:=by rfl)
 (hs:∀ x,foldedSetIterable iter X.env x=pure x:=by intro _;rfl) (hsw:swapsWith (.ListComp elt [⟨tg,iter,ifs,0⟩] scope pos) (some (.Name x pos')) spos.line X.env=pure true:=by rfl) :
 QXS X (.Assign [.Name x pos'] (.ListComp elt [⟨tg,iter,ifs,0⟩] scope pos) spos) (kg i (fE j (d8 ix fi t c f))):=QXS.mk (uX (j:=j) (i:=i) (x:=x) (hN:=hN) (hc:=hc) (S:=S) (hi:=hi.out) (B:=B.out) (hj:=hj) (hx:=hx) (hs:=hs) (hsw:=hsw))
theorem rq (j:Nat) {i:Nat} {x:Str} (hN:X.N.Nodup) (hc:X.calm=true) (S:CScope X scope ix) (hi:QXI X tg iter fi) (B:sA X scope tg elt ifs t c f) (hj:X.N[i]?=some x:=by rfl) (hx:X.env.scope.names.lookup x=some .local:=by rfl)
 (hs:∀ x,foldedSetIterable iter X.env x=pure x:=by intro _;rfl) (hsw:swapsWith (.ListComp elt [⟨tg,iter,ifs,0⟩] scope pos) (some (.Name x pos')) spos.line X.env=pure true:=by rfl) :
 QXS X (.Assign [.Name x pos'] (.ListComp elt [⟨tg,iter,ifs,0⟩] scope pos) spos) (kg i (gH j (d8 ix fi t c f))):=QXS.mk (qY (j:=j) (i:=i) (x:=x) (hN:=hN) (hc:=hc) (S:=S) (hi:=hi.out) (B:=B.out) (hj:=hj) (hx:=hx) (hs:=hs) (hsw:=hsw))
theorem vm (hg:Gl X "enumerate") (hm:X.mg "enumerate" = none) (he:QX X e f) (hs:starEach [e] X.env=[(false,eval e X.env)]:=by exact aX rfl):QXI X (.Tuple elts x1 pt) (.Call (.Name "enumerate" p) [e] [] pos) (vi f):=QXI.mk (tH (hg:=hg) (hm:=hm) (he:=he.out) (hs:=hs))
theorem yW {X:Cx} {e e2:Expr} {p pos kpos:Pos} {fe fd:Rho->Option Rv} (hc:X.calm=true) (hg:Gl X "max") (hm:X.mg "max" = none) (ha:QX X e fe) (hb:QX X e2 fd)
 (he:starEach [e] X.env=[(false,eval e X.env)]:=by exact aX rfl):QX X (.Call (.Name "max" p) [e] [⟨some "default",e2,kpos⟩] pos) (rL fe fd):=QX.mk (yz (X:=X) (e:=e) (e2:=e2) (p:=p) (pos:=pos) (kpos:=kpos) (fe:=fe) (fd:=fd) (hc:=hc) (hg:=hg) (hm:=hm) (ha:=ha.out) (hb:=hb.out) (he:=he))
theorem yE (hg:Gl X "reversed") (hm:X.mg "reversed" = none) (he:QX X e f) (hs:starEach [e] X.env=[(false,eval e X.env)]:=by exact aX rfl):QXI X tg (.Call (.Name "reversed" p) [e] [] pos) (AK f):=QXI.mk (zg (hg:=hg) (hm:=hm) (he:=he.out) (hs:=hs))
theorem nr {fa:Rho->Option Rv} (hc:X.calm=true) (hg:Gl X "sorted") (hm:X.mg "sorted" = none) (hg2:Gl X "set") (hm2:X.mg "set" = none) (ha:QX X e fa) (hs:starEach [e] X.env=[(false,eval e X.env)]:=by exact aX rfl)
 (hs2:starEach [.Call (.Name "set" p2) [e] [] pos2] X.env=[(false,eval (.Call (.Name "set" p2) [e] [] pos2) X.env)]:=by exact aX rfl):QX X (.Call (.Name "sorted" p) [.Call (.Name "set" p2) [e] [] pos2] [] pos) (eF fa):=QX.mk (nv (fa:=fa) (hc:=hc) (hg:=hg) (hm:=hm) (hg2:=hg2) (hm2:=hm2) (ha:=ha.out) (hs:=hs) (hs2:=hs2))
end Ry
namespace Ry
open PySem PySem.Spec PyProof.Rows L2
section
variable {X:Cx} {a body:Expr} {params:Arguments} {scope:Scope} {p p2 pos pos2 kpos lpos:Pos} {c P:Addr} {ix:List (Option Nat)} {x:Str} {i0:Nat} {g:Rho->Option Rv} {ga:Rho->Option (List Rv)}
structure CD (X:Cx) (params:Arguments) (body:Expr) (scope:Scope) (ix:List (Option Nat)) (x:Str) (i0:Nat) (g:Rho->Option Rv):Prop where
 S:qd X scope ix x i0
 df:defaultsOf params X.env=([],[])
 bind:∀ (q:Str) (cl:List (Str×Addr)) (pm cd ctv u:Value),bindArgs (PySem.W.kla_fn "<lambda>" q params body scope cl pm cd ctv) ⟨[u],[]⟩=pure [(x,u)]
 body:∀ (q:Str) (f c':Addr) (s:Shared) (H:Hp),QX (wq X X.A.in1.in1 scope q f c' s H) body g
theorem CD.out (h:CD X params body scope ix x i0 g):x5 X params body scope ix x i0 g:=⟨h.S,h.df,h.bind,fun q f c' s H=>(h.body q f c' s H).out⟩
theorem pQ (hc:X.calm=true) (hr:fq 2 X.A) (hg:Gl X "sorted") (hm:X.mg "sorted" = none) (hg2:Gl X "range") (hm2:X.mg "range" = none) (M:Mkr X c P) (Lm:CD X params body scope ix x i0 g) (ha:QXA X [a] ga)
 (hs:starEach [a] X.env=[(false,eval a X.env)]:=by exact aX rfl) (he:starEach [.Call (.Name "range" p2) [a] [] pos2] X.env=[(false,eval (.Call (.Name "range" p2) [a] [] pos2) X.env)]:=by rfl) :
 QX X (.Call (.Name "sorted" p) [.Call (.Name "range" p2) [a] [] pos2] [⟨some "key",.Lambda params body scope lpos,kpos⟩] pos) (mT ix i0 (mB ga) g):=QX.mk (pj hc hr hg hm hg2 hm2 M Lm.out ha.out hs he)
theorem BV {k:Nat} {q:Str} {f c':Addr} {s:Shared} {H:Hp} (hr:fq (k+3) X.A) (h:fq k (wq X X.A.in1.in1 scope q f c' s H).A->QX (wq X X.A.in1.in1 scope q f c' s H) body g):QX (wq X X.A.in1.in1 scope q f c' s H) body g:=h (fq.deeper hr.in1.in1 _)
end
def Cu (K:PySem.W.Frag) (c:Addr):Addr:=match K.lookup c with
 | some ⟨_,_,.fields vs,_⟩=>(match (vs.toList[11]?:Option Value) with | some (.ref P)=>P | _=>0)
 | _=>0
def pK (K:PySem.W.Frag) (cd:Value) (x:Str):Bool:=match cd with
 | .ref c=>PySem.W.codeHdIn K c (Cu K c)&&(eL K).contains (Cu K c,x++".<locals>."++"<lambda>")
 | _=>false
def pb (K:PySem.W.Frag) (mg:Str->Option Value) (x:Str) (st:Stmt):Prop:=∃ (a:Addr) (fd:FuncData),Fun K x x st a fd/\mg x=some (.ref a)/\∃ c P,fd.code=.ref c/\PySem.W.codeHdIn K c P=true/\(P,x++".<locals>."++"<lambda>")∈eL K
theorem yH {K:PySem.W.Frag} {mg:Str->Option Value} {x:Str} {st:Stmt} {f:Addr} {fd:FuncData} (F:Fun K x x st f fd) (hm:mg x=some (.ref f)) (hk:pK K fd.code x=true):pb K mg x st:=by
 unfold pK at hk
 split at hk
 ·rename_i c hc
  rw [aP] at hk
  exact ⟨f,fd,F,hm,c,Cu K c,hc,hk.1,by simpa using hk.2⟩
 ·cases hk
section
variable {P:Program} {w:World} {K:PySem.W.Frag} {mg:Str->Option Value} {base:Heap}
theorem yg {x qual:Str} {st:Stmt} {f:Addr} {fd:FuncData} {N ps:List Str} {k:Nat} {sp:Sp} (F:Fun K x qual st f fd) (S:cp N ps (aC st)) (len:∀ vs H Q E,sp vs H Q E->vs.length=ps.length)
 (hbody:∀ (cdv:Value) (A:Around) (outer:List Env) (s:Shared) (H:Hp) (vs:List V) (Q:VK) (E:XK),fd.code=cdv->fq k (A.deeper (envOfC qual (aC st) s.heap.objs.size f cdv))->sp vs H Q E ->
   ∃ t,PSs (jD CX0 P w K mg base N qual (aC st) f cdv A outer s H E).nox (bw st) t/\t { nx:=fun _ H'=>Q .non H',rt:=Q } (start N vs) H):rp P w K mg base CX0 (k+1) f fd ps sp:=by
 obtain ⟨oc,od,kV,doc,pm,an,cdv,ct,osl,rfl,lk,hcd⟩:=F.ex
 refine BW lk hcd S len fun A outer s H vs Q E hr hsp=>?_
 obtain ⟨t,h,q⟩:=hbody cdv A outer s H vs Q E rfl hr hsp
 exact ⟨t,h.nox,q⟩
theorem BI {x:Str} {st:Stmt} {N ps:List Str} {k n:Nat} {g:Rho->Res} (hf:pb K mg x st) (hK:K.In base) (_hB:Bm mg base) (S:cp N ps (aC st)) (hn:ps.length=n)
 (hbind:∀ (kV doc pm:Value) (an:Option Addr) (cdv ct:Value) (us:List Value),us.length=ps.length->bindArgs (PySem.W.fnOf x x (cm st) (bw st) (aC st) .none kV doc pm an cdv ct) ⟨us,[]⟩=pure (ps.zip us))
 (hbody:∀ (f c P1:Addr) (A:Around) (outer:List Env) (s:Shared) (H:Hp) (E:XK),PySem.W.CodeHd base c P1->(P1,x++".<locals>."++"<lambda>")∈eL K->fq k (A.deeper (envOfC x (aC st) s.heap.objs.size f (.ref c)))->p4 (jD CX0 P w K mg base N x (aC st) f (.ref c) A outer s H E).nox (bw st) g) :
 Ca P w K mg base x ps (k+1) n (io N.length g):=by
 obtain ⟨a,fd,F,hm,c,P1,hcode,hhd,htab⟩:=hf
 refine ⟨a,fd,hm,F.kp,F.binds hbind,?_⟩
 refine yg F S (fun vs H Q E ⟨G,ds,d,hl,sg,_,dl,_⟩=>by rw [dl.length,hl,hn]) fun cdv A outer s H vs Q E hcd hr ⟨G,ds,d,hl,sg,tg,dl,ef,kk⟩=>?_
 have:cdv=.ref c:=hcd.symm.trans hcode
 subst this
 refine ⟨_,hbody a c P1 A outer s H E (PySem.W.codeHd_of_K hK hhd) htab hr,H,G,G,cZ N.length ds,Ext.refl sg,qx tg dl,?_⟩
 unfold io at ef
 split at ef
 ·rename_i d' q
  cases ef
  rw [q]
  exact fun v G1 H1 E1 _ dv=>kk v G1 H1 E1 dv
 ·rename_i ρ' q
  cases ef
  rw [q]
  exact fun σ G1 H1 E1 _ _=>kk .non G1 H1 E1 rfl
 ·cases ef
end
theorem qE:∀ {l:List (Addr×Str)} {b:Addr} {q:Str},l.lookup b=some q->(b,q)∈l
 | [],_,_,h=>by cases h
 | (c,r)::l,b,q,h=>by
   rw [bX] at h
   cases e:b == c with
   | true=>rw [e] at h;cases h;rw [beq_iff_eq.mp e];exact ak
   | false=>rw [e] at h;exact ai _ (qE h)
def vf (K:PySem.W.Frag) (ts:List Addr):Bool:=(eL K).all fun e=>ts.contains e.1&&(K.lookup e.1).isNone&&(K.any fun p=>PySem.W.codeHdIn K p.1 e.1)&&((eL K).lookup e.1 == some e.2)
theorem uD {P:Program} {w:World} {K:PySem.W.Frag} {mg mb:Str->Option Value} {k:Nat} {fa a:Addr} {fd:FuncData} {x:Str} {fn:List Da->Option Da} {s₁:Shared} {vs:List Value} {ns:List Int} {ts:List Addr}
 (KX:K.In s₁.heap) (hns:s₁.heap.Ns mainGlobals mg) (hb:s₁.heap.Ns builtinsNs mb) (hbb:∀ x:Str,x≠"__name__"->mb x=bootBuiltins x) (hlim:s₁.heap.NoLimit) (hbm:Bm mg s₁.heap) (hg:s₁.gens = #[])
 (ha:s₁.heap.get? a=some { cls:=.type "list",data:=.seq vs.toArray }) (hi:IntsAre vs ns) (hl:ns.length<=sizeLine) (hr:fq k callerA) (hT:∀ P∈ts,s₁.heap.get? P=some (PySem.W.tabObj #[])) (hok:vf K ts=true)
 (F:∀ base:Heap,K.In base->base.Ns mainGlobals mg->Bm mg base->rp P w K mg base CX0 k fa fd [x] (spD K 1 fn)) (hbind:∀ (s:Shared) (u:Value),BindsTo s fd ⟨[u],[]⟩ [(x,u)])
 (eq:fn [.lst (ns.map Da.int)]=some (.bl true)) :
 codeAny (model P w) callerA (.call (.ref fa) ⟨[.ref a],[]⟩) (fun r s'=>r=.ok (.ret (.bool true))/\OldK s₁.heap s'.heap/\s'.os=s₁.os/\AllBare s'.gens) s₁:=by
 have rv:=oq hi
 have lenV:=hi.length
 have ok1:∀ e∈eL K,s₁.heap.get? e.1=some (PySem.W.tabObj #[])/\K.lookup e.1=none/\(∃ c,PySem.W.CodeHd s₁.heap c e.1)/\(eL K).lookup e.1=some e.2:=fun e he=>by
  have:=cP.mp hok e he
  simp only [aP] at this
  obtain ⟨⟨⟨h1,h2⟩,h3⟩,h4⟩:=this
  obtain ⟨p,_,h3⟩:=fN.mp h3
  exact ⟨hT _ (by simpa using h1),Option.isNone_iff_eq_none.mp h2,⟨p.1,PySem.W.codeHd_of_K KX h3⟩,by simpa using h4⟩
 have lk:∀ {b:Addr} {q:Str},(eL K).lookup b=some q->(b,q)∈eL K:=fun {b q} e=>qE e
 have core:∀ Hs:Option HO,(Hs=none\/Hs=some (.frz { cls:=.type "list",data:=.seq vs.toArray } (.lst (ns.map V.int))))->(Hs≠none->K.lookup a=none)->(∀ H:Hp,H a=Hs->SqL K H a (ns.map V.int)) ->
  codeAny (model P w) callerA (.call (.ref fa) ⟨[.ref a],[]⟩) (fun r s'=>r=.ok (.ret (.bool true))/\OldK s₁.heap s'.heap/\s'.os=s₁.os/\AllBare s'.gens) s₁:=by
  intro Hs hHs hK hS
  have eH:∃ H:Hp,H=fun b=>if b=a then Hs else ((eL K).lookup b).map HO.tab:=⟨_,rfl⟩
  obtain ⟨H,eH⟩:=eH
  have Ha:H a=Hs:=by rw [eH];exact if_pos rfl
  have Hb:∀ {b:Addr},b≠a->H b=((eL K).lookup b).map HO.tab:=fun h=>by rw [eH];exact if_neg h
  have cases3:∀ {b:Addr} {u:HO},H b=some u->(b=a/\u=.frz { cls:=.type "list",data:=.seq vs.toArray } (.lst (ns.map V.int)))\/(b≠a/\∃ q,u=.tab q/\(b,q)∈eL K):=fun {b u} e=>by
   by_cases hb:b=a
   ·subst hb
    rw [Ha] at e
    rcases hHs with z | z
    ·rw [z] at e;cases e
    ·rw [z] at e;cases e;exact .inl ⟨rfl,rfl⟩
   ·rw [Hb hb] at e
    cases z:(eL K).lookup b with
    | none=>rw [z] at e;cases e
    | some q=>rw [z] at e;cases e;exact .inr ⟨hb,q,rfl,lk z⟩
  have nea:∀ e∈eL K,e.1≠a:=fun e he z=>by
   have:=(ok1 e he).1
   rw [z,ha] at this
   cases this
  have base_of:∀ {b:Addr} {o:Obj},s₁.heap.get? b=some o->H b=none->(vt s₁.heap H).get? b=some o:=fun e n=>vS e n
  have noT:∀ {b:Addr} {o:Obj},s₁.heap.get? b=some o->(∀ xs n,o.data≠.seq xs n)->(∀ ps,o.data≠.fields ps)->H b=none:=fun {b o} e d1 d2=>by
   cases q:H b with
   | none=>rfl
   | some u =>
     rcases cases3 q with ⟨z,_⟩ | ⟨_,q',_,z⟩
     ·subst z
      rw [ha] at e;cases e
      exact absurd rfl (d1 _ _)
     ·have:=(ok1 _ z).1
      dsimp only at this
      rw [this] at e;cases e
      exact absurd rfl (d2 _)
  have noA:∀ {b:Addr} {o:Obj} {es:Array DictEntry} {ep:Nat},s₁.heap.get? b=some o->o.data=.dict es ep->H b=none:=fun {b o es ep} e d=>noT e (fun _ _ z=>by rw [d] at z;cases z) fun _ z=>by rw [d] at z;cases z
  have nsK:∀ {b:Addr} {m:Str->Option Value},s₁.heap.Ns b m->(vt s₁.heap H).Ns b m:=fun {b m} ⟨o,es,ep,e,d,r⟩=>⟨o,es,ep,base_of e (noA e d),d,r⟩
  have hKb:K.In (vt s₁.heap H):=fun b o e=>base_of (KX b o e) (by
   cases q:H b with
   | none=>rfl
   | some u =>
     rcases cases3 q with ⟨z,zu⟩ | ⟨_,q',_,z⟩
     ·subst z
      rw [hK (by rw [<- Ha,q];simp)] at e;cases e
     ·have:=(ok1 _ z).2.1
      dsimp only at this
      rw [this] at e;cases e)
  have hBm:Bm mg (vt s₁.heap H):=let ⟨bm,ob,b1,b2,b3,b4,b5,b6⟩:=hbm
   ⟨bm,ob,b1,b2,base_of b3 (noT b3 (fun _ _ z=>by rw [b6] at z;cases z) fun _ z=>by rw [b6] at z;cases z),b4,b5,b6⟩
  have hok':HOk P w H s₁.heap:=fun b u e=>by
   rcases cases3 e with ⟨z,zu⟩ | ⟨_,q',zu,z⟩
   ·subst z zu
    exact ⟨ha,by rw [ab];exact hl,vs,_,rv,ha⟩
   ·subst zu
    exact ⟨#[],(ok1 _ z).1,trivial⟩
  have hM:Mod K mg (vt s₁.heap H):=⟨hKb,nsK hns,⟨mb,nsK hb,hbb⟩,let ⟨mc,h1,h2⟩:=hlim;⟨mc,nsK h1,h2⟩⟩
  have e0:Ch P w K mg (vt s₁.heap H) callerA [] s₁ H:=⟨rfl,hM,fun b o e=>yw e,jf (tK _ _),trivial,fun b hb=>absurd (show b∈([]:List Addr) from hb) (by simp),hok',.of_eq hg⟩
  have tg:Tbs K H:=fun e he=>by rw [Hb (nea e he),(ok1 e he).2.2.2];rfl
  refine codeAny_mono ((F _ hKb (nsK hns) hBm).run callerA [] s₁ H ⟨[.ref a],[]⟩ [.ref a] [.ref a] (fun v H'=>v=.bl true/\bQ H H') E0 hr e0 (hbind s₁ (.ref a)) (.cons rfl .nil)
   ⟨H,[.lst (ns.map Da.int)],.bl true,rfl,bQ.refl _,tg,⟨_,_,rfl,⟨a,_,rfl,hS H Ha,bP.ints.mpr rfl⟩,rfl⟩,eq,fun v _ _ E d=>⟨d,E.hh⟩⟩) fun r s' h=>?_
  cases r with
  | error e=>exact False.elim h
  | ok fl =>
    cases fl with
    | next=>exact False.elim h
    | brk=>exact False.elim h
    | cont=>exact False.elim h
    | ret u =>
      obtain ⟨v,H',os,bare,un,hok2,r',q,sm⟩:=h
      subst q
      obtain rfl:u=Value.bool true:=r'
      have each:∀ b o,s₁.heap.get? b=some o->asItWas s₁.heap s'.heap b o/\∃ o',s'.heap.get? b=some o':=fun b o e=>by
       cases q:H b with
       | none=>have:=un.keep b o e q (by intro z;exact absurd (show b∈([]:List Addr) from z) (by simp)) (by simp);exact ⟨.inl this,o,this⟩
       | some u =>
         rcases cases3 q with ⟨z,zu⟩ | ⟨_,q',zu,z⟩
         ·subst zu
          have z2:=un.frzs b _ _ q
          obtain ⟨e1,_⟩:=hok' b _ q
          obtain ⟨e2,_⟩:=hok2 b _ z2
          rw [e] at e1;cases e1
          exact ⟨.inl e2,_,e2⟩
         ·subst zu
          obtain ⟨h1,_,⟨c,h3⟩,_⟩:=ok1 _ z
          dsimp only at h1 h3
          rw [e] at h1
          cases h1
          obtain ⟨ps,e2,_⟩:=hok2 b _ (sm _ _ q)
          exact ⟨.inr (.inl ⟨(h3.tab e).isCodeTable,rfl,#[],ps,rfl,by rw [Array.empty_append];exact e2⟩),_,e2⟩
      exact ⟨rfl,⟨fun b o e=>(each b o e).1,fun b o e=>(each b o e).2⟩,os,bare⟩
 cases hk:K.lookup a with
 | some o =>
   have e:=KX a o hk
   rw [ha] at e
   cases e
   exact core none (.inl rfl) (fun z=>absurd rfl z) fun H _=>.inr ⟨_,vs.toArray,_,hk,rfl,rfl,rfl,by rw [aq,lenV];exact hl,by simpa using rv⟩
 | none=>exact core _ (.inr rfl) (fun _=>hk) fun H e=>.inl (.inr ⟨_,e⟩)
theorem wm {l:PySem.W.OpenLaw} {n k:Nat} {q:Program} {loose:List Str} {XP:(Str->Option Value)->Heap->Prop} {YP:World->Heap->Prop} {d:DefRec} {K:Params->PySem.W.Frag} {x:Str} {ts:List Addr} {fn:List Da->Option Da}
 (hn:l.most=some n) (hn2:n<=sizeLine) (hdf:d.params.defaults=[]) (hr:fq k callerA)
 (hY:∀ (w:World) (h:Heap),YP w h->(K w.params).In h) (hT:∀ (w:World) (h:Heap),YP w h->∀ P∈ts,h.get? P=some (PySem.W.tabObj #[])) (hok:∀ P:Params,vf (K P) ts=true)
 (F:∀ (w:World) (mg:Str->Option Value) (fa:Addr) (h:Heap),(K w.params).In h->h.Ns mainGlobals mg->mg d.name=some (.ref fa) ->
   ∃ fd:FuncData,(∀ (s:Shared) (u:Value),BindsTo s fd ⟨[u],[]⟩ [(x,u)]) /\
     ∀ base:Heap,(K w.params).In base->base.Ns mainGlobals mg->Bm mg base->rp l.prog w (K w.params) mg base CX0 k fa fd [x] (spD (K w.params) 1 fn))
 (eq:∀ ns:List Int,fn [.lst (ns.map Da.int)]=some (.bl true)) :
 PySem.W.WalkO q loose XP YP l.row.toRowW d [] (fun f vs=>PySem.call f vs):=by
 refine Att.attach_call hn hdf fun w s₀ s₁ mg mb fa o pm cd doc a vs ns G Y ho hd hcd hmg hobj hints hlen hg=>?_
 have KX:=hY w _ Y
 obtain ⟨fd,hb,hF⟩:=F w mg fa _ KX G.T.g hmg
 exact uD KX G.T.g G.T.b G.T.builtins G.T.nolimit G.T.bmain hg hobj hints (bH hlen hn2) hr (hT w _ Y) (hok w.params) hF hb (eq ns)
end Ry
namespace Ry
open PySem PySem.Spec PyProof.Rows L2
def gf:Hp->List Addr->(Hp->Prop)->Prop
 | H,[],k=>k H
 | H,l::ls,k=>∃ u,H l=some u/\lB u/\∀ o,gf (upd H l (.frz o u)) ls k
theorem nz {X:Cx} {pins:List (Addr×Obj)} {σ:St} {s:Shared} {k:Hp->Prop}:∀ (ls:List Addr) (H:Hp),Inv X pins σ H s->gf H ls k->∃ H',Inv X pins σ H' s/\k H'
 | [],H,I,h=>⟨H,I,h⟩
 | l::ls,H,I,h=>by
   obtain ⟨u,hl,hd,h⟩:=h
   obtain ⟨o,I'⟩:=wL I hl hd
   exact nz ls _ I' (h o)
theorem yC {X:Cx} {e:Expr} {te:TE} {pos:Pos} (he:PE X e te):PS X (.Return (some e) pos) (fun D σ H=>te σ H fun v H1=>∃ ls,gf H1 ls fun H2=>D.rt v H2):=by
 intro pins s σ H D I h
 refine thn (sF (pos:=pos) he pins s σ H { nx:=fun _ _=>False,rt:=fun v H1=>∃ ls,gf H1 ls fun H2=>D.rt v H2 } I h) fun fl s1 h1=>?_
 cases fl with
 | next=>obtain ⟨_,_,_,z⟩:=h1;exact z.elim
 | brk=>obtain ⟨_,_,_,z⟩:=h1;exact z.elim
 | cont=>obtain ⟨_,_,_,z⟩:=h1;exact z.elim
 | ret u =>
   obtain ⟨v,σ1,H1,I1,rv,ls,g⟩:=h1
   obtain ⟨H2,I2,q⟩:=nz ls H1 I1 g
   exact ⟨v,σ1,H2,I2,rv,q⟩
theorem oy {G0 H0:Hp} {k:Hp->Prop}:∀ (ls:List (Addr×HO)) (G H:Hp),Ext G0 H0 G H->(ls.map (·.1)).Nodup->(∀ e∈ls,H0 e.1=none/\G e.1=none/\H e.1=some e.2/\lB e.2) ->
 (∀ G' H',Ext G0 H0 G' H'->bQ G G'->(∀ e∈ls,∃ o,G' e.1=some (.frz o e.2))->k H')->gf H (ls.map (·.1)) k
 | [],G,H,E,_,_,fin=>fin G H E (bQ.refl _) (by simp)
 | (l,u)::ls,G,H,E,nd,h,fin=>by
   obtain ⟨h0,hg,hl,hd⟩:=h (l,u) (ak)
   dsimp only at h0 hg hl hd
   obtain ⟨n1,n2⟩:=be.mp nd
   refine ⟨u,hl,hd,fun o=>?_⟩
   have E1:Ext G0 H0 (upd G l (.frz o u)) (upd H l (.frz o u)):=⟨fun b w z=>by rw [aK (bu z h0)];exact E.hh b w z,E.gg.trans (bB hg),gF E.gh,fun b w z t y=>by rw [aK (bu z h0)];exact E.nw b w z t y⟩
   refine oy ls _ _ E1 n2 (fun e he=>?_) fun G' H' E' s' hh=>fin G' H' E' ((bB hg).trans s') fun e he=>?_
   ·obtain ⟨a1,a2,a3,a4⟩:=h e (ai _ he)
    have ne:e.1≠l:=fun z=>n1 (bf.mpr ⟨e,he,z⟩)
    exact ⟨a1,by rw [aK ne];exact a2,by rw [aK ne];exact a3,a4⟩
   ·rcases ag.mp he with z | z
    ·subst z;exact ⟨o,s' _ _ aL⟩
    ·exact hh e z
def idc (l:List Int):List (Key×V):=l.map fun b=>(Sum.inl b,V.bl true)
def ud:List Addr->UD->List (Key×V)
 | d::ds,(a,_)::D=>(Sum.inl a,V.ref d)::ud ds D
 | _,_=>[]
structure UR (H0 G H:Hp) (u:Addr) (ds:List Addr) (D:UD):Prop where
 ln:ds.length=D.length
 out:H u=some (.dK (ud ds D))
 inn:∀ (i:Nat) (e:Int×List Int) (d:Addr),D[i]?=some e->ds[i]?=some d->H d=some (.dK (idc e.2))
 nd:(u::ds).Nodup
 fr:∀ d∈u::ds,H0 d=none/\G d=none
theorem pD:∀ {ds:List Addr} {D:UD},ds.length=D.length->(ud ds D).map (·.1)=D.map fun e=>Sum.inl e.1
 | [],[],_=>rfl
 | d::ds,(a,l)::D,h=>by unfold ud;rw [ax,ax,pD (by simpa using h)]
theorem t5:∀ {ds:List Addr} {D:UD},ds.length=D.length->(ud ds D).map (·.2)=ds.map V.ref
 | [],[],_=>rfl
 | d::ds,(a,l)::D,h=>by unfold ud;rw [ax,ax,t5 (by simpa using h)]
theorem BO {ds:List Addr} {D:UD} (h:ds.length=D.length):(ud ds D).length=D.length:=by
 have:=congrArg fw (pD h)
 rw [ab,ab] at this
 exact this
theorem sM:∀ {ds:List Addr} {D:UD} (d:Addr) (a:Int) (l:List Int),ds.length=D.length->ud (ds++[d]) (D++[(a,l)])=ud ds D++[(Sum.inl a,V.ref d)]
 | [],[],_,_,_,_=>rfl
 | x::ds,(b,m)::D,d,a,l,h=>by
   show (Sum.inl b,V.ref x)::ud (ds++[d]) (D++[(a,l)])=_
   rw [sM d a l (by simpa using h)]
   rfl
theorem mN:∀ {ds:List Addr} {D:UD} {a:Int},ds.length=D.length->(a∉D.map (·.1)->kW (ud ds D) (Sum.inl a)=none)/\(a∈D.map (·.1)->∃ (i:Nat) (e:Int×List Int) (d:Addr),D[i]?=some e/\ds[i]?=some d/\e.1=a/\kW (ud ds D) (Sum.inl a)=some (.ref d))
 | [],[],a,_=>⟨fun _=>rfl,fun h=>by cases h⟩
 | d::ds,(b,l)::D,a,h=>by
   obtain ⟨i1,i2⟩:=mN (ds:=ds) (D:=D) (a:=a) (by simpa using h)
   by_cases e:b=a
   ·subst e
    exact ⟨fun z=>absurd (by simp) z,fun _=>⟨0,(b,l),d,rfl,rfl,rfl,iG (p:=(Sum.inl b,V.ref d)) rfl⟩⟩
   ·have ek:¬ (Sum.inl b:Key)=Sum.inl a:=fun z=>e (Sum.inl.inj z)
    have ev:kW (ud (d::ds) ((b,l)::D)) (Sum.inl a)=kW (ud ds D) (Sum.inl a):=iK (p:=(Sum.inl b,V.ref d)) ek
    refine ⟨fun z=>by rw [ev];exact i1 fun y=>z (by rw [ax];exact ai _ y),fun z=>?_⟩
    rw [ax,ag] at z
    obtain ⟨i,e',d',h1,h2,h3,h4⟩:=i2 (z.resolve_left fun w=>e w.symm)
    exact ⟨i+1,e',d',by simpa using h1,by simpa using h2,h3,by rw [ev];exact h4⟩
theorem vI (l:List Int) (b:Int):jz (idc l) (Sum.inl b) (V.bl true)=idc (mX l b):=by
 unfold mX
 by_cases h:b∈l
 ·rw [if_pos h]
  unfold jz
  have ha:((idc l).any fun kv=>decide (kv.1=(Sum.inl b:Key)))=true:=by
   rw [fN]
   exact ⟨(Sum.inl b,V.bl true),bf.mpr ⟨b,h,rfl⟩,by simp⟩
  rw [if_pos ha]
  unfold idc
  rw [aS]
  refine eB fun x hx=>?_
  show (if (Sum.inl x:Key)=Sum.inl b then ((Sum.inl x:Key),V.bl true) else (Sum.inl x,V.bl true))=_
  split<;>rfl
 ·rw [if_neg h,qJ]
  ·unfold idc;rw [cf];rfl
  ·unfold kW
   rw [Option.map_eq_none_iff,List.find?_eq_none]
   intro x hx
   obtain ⟨y,hy,rfl⟩:=bf.mp hx
   simp only [decide_eq_true_eq]
   exact fun z=>h (by rw [<- Sum.inl.inj z];exact hy)
theorem pZ:∀ {D:UD} {a b:Int},a∉D.map (·.1)->fZ (D++[(a,[])]) a b=fZ D a b
 | [],a,b,_=>by
   show (if a=a then [(a,mX [] b)] else _)=[(a,[b])]
   rw [if_pos rfl];rfl
 | (x,l)::D,a,b,h=>by
   rw [ax,ag] at h
   show (if x=a then _ else (x,l)::fZ (D++[(a,[])]) a b)=if x=a then _ else (x,l)::fZ D a b
   rw [if_neg (fun z=>h (.inl z.symm)),if_neg (fun z=>h (.inl z.symm)),pZ fun z=>h (.inr z)]
theorem iz:∀ {D:UD} {a b:Int} {i:Nat} {l:List Int},(D.map (·.1)).Nodup->D[i]?=some (a,l)->fZ D a b=D.set i (a,mX l b)
 | [],_,_,_,_,_,h=>by simp at h
 | (x,m)::D,a,b,0,l,nd,h=>by
   simp at h
   obtain ⟨rfl,rfl⟩:=h
   show (if x=x then _ else _)=_
   rw [if_pos rfl];rfl
 | (x,m)::D,a,b,i+1,l,nd,h=>by
   rw [ax,be] at nd
   have h':D[i]?=some (a,l):=by simpa using h
   have ne:x≠a:=fun z=>nd.1 (by rw [z];exact bf.mpr ⟨(a,l),ba h',rfl⟩)
   show (if x=a then _ else (x,m)::fZ D a b)=_
   rw [if_neg ne,iz nd.2 h']
   rfl
theorem wU {D:UD} {a:Int} {i:Nat} {l m:List Int} (h:D[i]?=some (a,l)):((D.set i (a,m)).map fun e=>e.1)=D.map (·.1):=by
 rw [List.map_set]
 apply dL
 intro j
 rw [Ah,ab]
 by_cases e:i=j
 ·subst e
  have hl:=(al.mp h).1
  rw [if_pos rfl,if_pos hl,av,h]
  rfl
 ·rw [if_neg e]
theorem BH {ds:List Addr}:∀ {D:UD} {a:Int} {i:Nat} {l m:List Int},D[i]?=some (a,l)->ud ds (D.set i (a,m))=ud ds D:=by
 induction ds with
 | nil=>intro D a i l m h;cases D<;>cases i<;>rfl
 | cons d ds ih =>
   intro D a i l m h
   cases D with
   | nil=>simp at h
   | cons e D =>
     obtain ⟨x,y⟩:=e
     cases i with
     | zero=>simp at h;obtain ⟨rfl,rfl⟩:=h;rfl
     | succ i =>
       show (Sum.inl x,V.ref d)::ud ds (D.set i (a,m))=(Sum.inl x,V.ref d)::ud ds D
       rw [ih (by simpa using h)]
section
variable {H0 G H:Hp} {u:Addr} {ds:List Addr} {D:UD}
theorem UR.dne (h:UR H0 G H u ds D) {d:Addr} (hd:d∈ds):d≠u:=fun z=>(be.mp h.nd).1 (by rw [<- z];exact hd)
theorem UR.snoc (h:UR H0 G H u ds D) {d:Addr} {a:Int} (hd:H d=none) (h0:H0 d=none) (hg:G d=none) (ha:a∉D.map (·.1)) :
 UR H0 G (upd (upd H d (.dK [])) u (.dK (jz (ud ds D) (Sum.inl a) (.ref d)))) u (ds++[d]) (D++[(a,[])]):=by
 have hdu:d≠u:=fun z=>by rw [z,h.out] at hd;cases hd
 have hds:d∉ds:=fun z=>by
  obtain ⟨i,hi,e⟩:=bv z
  have h1:i<D.length:=by rw [<- h.ln];exact hi
  have:=h.inn i D[i] d (ae h1) (by rw [ae hi,e])
  rw [hd] at this;cases this
 refine ⟨by simp [h.ln],?_,fun i e d' h1 h2=>?_,?_,fun x hx=>?_⟩
 ·rw [aL,qJ _ ((mN h.ln).1 ha),sM d a [] h.ln]
 ·by_cases hi:i<D.length
  ·rw [cb hi] at h1
   rw [cb (by rw [h.ln];exact hi)] at h2
   have hm:=ba h2
   have:=h.inn i e d' h1 h2
   rw [aK (h.dne hm),aK (fun z=>hds (by rw [<- z];exact hm))]
   exact this
  ·rw [bC (by lia)] at h1
   rw [bC (by rw [h.ln];lia)] at h2
   have e0:i-D.length=0:=by
    have:=(al.mp h1).1
    simp at this
    lia
   rw [e0] at h1
   rw [h.ln,e0] at h2
   have e1:(a,[])=e:=by simpa using h1
   have e2:d=d':=by simpa using h2
   subst e1 e2
   rw [aK hdu,aL]
   rfl
 ·have n:=be.mp h.nd
  refine be.mpr ⟨fun z=>?_,bJ.mpr ⟨n.2,aY _ _,fun x hx y hy=>by rw [am] at hy;subst hy;intro z;subst z;exact hds hx⟩⟩
  rcases aG.mp z with z | z
  ·exact n.1 z
  ·rw [am] at z;exact hdu z.symm
 ·rcases ag.mp hx with z | z
  ·subst z;exact h.fr _ (ak)
  ·rcases aG.mp z with z | z
   ·exact h.fr x (ai _ z)
   ·rw [am] at z;subst z;exact ⟨h0,hg⟩
theorem UR.put (h:UR H0 G H u ds D) {i:Nat} {a b:Int} {l:List Int} {d:Addr} (e:D[i]?=some (a,l)) (ed:ds[i]?=some d) :
 UR H0 G (upd H d (.dK (jz (idc l) (Sum.inl b) (V.bl true)))) u ds (D.set i (a,mX l b)):=by
 have hm:=ba ed
 refine ⟨by rw [bq];exact h.ln,?_,fun j e' d' h1 h2=>?_,h.nd,h.fr⟩
 ·rw [aK (h.dne hm).symm,BH e];exact h.out
 ·rw [vI]
  rw [Ah] at h1
  by_cases hj:i=j
  ·subst hj
   have hl:=(al.mp e).1
   rw [if_pos rfl,if_pos hl] at h1
   cases h1
   rw [ed] at h2
   cases h2
   exact aL
  ·rw [if_neg hj] at h1
   have hne:d'≠d:=fun z=>by
    subst z
    obtain ⟨l1,e1⟩:=al.mp ed
    obtain ⟨l2,e2⟩:=al.mp h2
    exact hj ((d9 (be.mp h.nd).2).mp (e1.trans e2.symm))
   rw [aK hne]
   exact h.inn j e' d' h1 h2
theorem UR.ext {G' H':Hp} (h:UR H0 G H u ds D) (e:Ext G H G' H') (hg:bQ G H):UR H0 G' H' u ds D:=by
 refine ⟨h.ln,e.hh _ _ h.out,fun i x d a b=>e.hh _ _ (h.inn i x d a b),h.nd,fun d hd=>⟨(h.fr d hd).1,?_⟩⟩
 rcases ag.mp hd with z | z
 ·subst z;exact e.nw _ _ h.out rfl (h.fr _ hd).2
 ·obtain ⟨i,hi,ei⟩:=bv z
  have h1:i<D.length:=by rw [<- h.ln];exact hi
  exact e.nw _ _ (h.inn i D[i] d (ae h1) (by rw [ae hi,ei])) rfl (h.fr _ hd).2
end
end Ry
namespace Ry
open PySem PySem.Spec PyProof.Rows L2
theorem jU:∀ {ds:List Da} {T:List (Int×Int)},cB ds=some T->ds=T.map fun p=>Da.tup [.int p.1,.int p.2]
 | [],T,h=>by cases h;rfl
 | d::r,T,h=>by
   cases d with
   | tup xs =>
     match xs,h with
     | [.int a,.int b],h =>
       have h:(cB r).map ((a,b)::·)=some T:=h
       cases q:cB r with
       | none=>rw [q] at h;cases h
       | some T'=>rw [q] at h;cases h;rw [jU q];rfl
     | [],h=>simp [cB] at h
     | [_],h=>simp [cB] at h
     | _::_::_::_,h=>simp [cB] at h
     | [.non,_],h=>simp [cB] at h
     | [.bl _,_],h=>simp [cB] at h
     | [.str _,_],h=>simp [cB] at h
     | [.tup _,_],h=>simp [cB] at h
     | [.lst _,_],h=>simp [cB] at h
     | [.dK _ _,_],h=>simp [cB] at h
     | [.dT _ _,_],h=>simp [cB] at h
     | [.int _,.non],h=>simp [cB] at h
     | [.int _,.bl _],h=>simp [cB] at h
     | [.int _,.str _],h=>simp [cB] at h
     | [.int _,.tup _],h=>simp [cB] at h
     | [.int _,.lst _],h=>simp [cB] at h
     | [.int _,.dK _ _],h=>simp [cB] at h
     | [.int _,.dT _ _],h=>simp [cB] at h
   | _=>simp [cB] at h
theorem CS {K:PySem.W.Frag} {G:Hp} {D:UD} {ds:List Addr} (hl:ds.length=D.length) (h:∀ (i:Nat) (e:Int×List Int) (d:Addr),D[i]?=some e->ds[i]?=some d->∃ o,G d=some (.frz o (.dK (idc e.2)))):bP K G (D.map fun e=>dD e.2) (ds.map V.ref):=by
 induction D generalizing ds with
 | nil =>
   cases ds with
   | nil=>rfl
   | cons _ _=>cases hl
 | cons e D ih =>
   cases ds with
   | nil=>cases hl
   | cons d ds =>
     obtain ⟨o,ho⟩:=h 0 e d rfl rfl
     refine ⟨_,_,rfl,?_,ih (by simpa using hl) fun i e' d' h1 h2=>h (i+1) e' d' (by simpa using h1) (by simpa using h2)⟩
     refine ⟨d,o,_,rfl,ho,?_,?_⟩
     ·unfold idc;rw [aS];rfl
     ·unfold idc
      rw [aS]
      have:∀ l:List Int,bP K G (l.map fun _=>Da.bl true) (l.map ((fun kv:Key×V=>kv.2)∘fun b=>(Sum.inl b,V.bl true))):=fun l=>by
       induction l with
       | nil=>rfl
       | cons a l ih=>exact ⟨_,_,rfl,rfl,ih⟩
      exact this e.2
theorem pq {K:PySem.W.Frag} {G H:Hp} {ds:List Da} {d:Da} {vs:List V} {Q:VK} {x0 x1 x2 x3:Str} (hl:ds.length=1) (sg:bQ G H) (tg:Tbs K G) (dl:bP K G ds vs) (ef:fn_uppers_of ds=some d) (k:∀ v G' H',Ext G H G' H'->Den K G' d v->Q v H') :
 vw (BE uK (iW 1)) (vw (Dx (iX K (b7 (gu (aQ 0)))) (DK K 2 (x4 (iW 2) (x4 (iW 3) DA)))
  (vw (Dy (tB (sJ (oE 2) (oE 1))) (wH (oE 1) (oE 2) uK) A6) (wH (yS (oE 1) (oE 2)) (oE 3) (tC (V.bl true)))))
  fun D σ H=>oE 1 σ H fun v H1=>∃ ls,gf H1 ls fun H2=>D.rt v H2) { nx:=fun _ H'=>Q V.non H',rt:=Q } (L2.start [x0,x1,x2,x3] vs) H:=by
 have hs:sizeLine=16777216:=sizeLine_eq
 match ds,hl with
 | [d0],_ =>
   obtain ⟨v0,r,ev,hd0,er⟩:=dl
   cases (show r=[] from er)
   subst ev
   obtain ⟨T,hT,hTl,hd,items⟩:∃ T:List (Int×Int),b7 (gu (aQ 0)) [.pu d0,.no,.no,.no]=some (T.map fun p=>Da.tup [.int p.1,.int p.2])/\T.length<=1000/\d=dU (upp T)/\True:=by
    cases d0 with
    | tup xs =>
      have ef:(match cB xs with | some T=>if T.length<=1000 then some (dU (upp T)) else none | none=>none)=some d:=ef
      split at ef
      ·rename_i T eT
       split at ef
       ·rename_i hT;cases ef;exact ⟨T,by rw [jU eT];rfl,hT,rfl,trivial⟩
       ·cases ef
      ·cases ef
    | lst xs =>
      have ef:(match cB xs with | some T=>if T.length<=1000 then some (dU (upp T)) else none | none=>none)=some d:=ef
      split at ef
      ·rename_i T eT
       split at ef
       ·rename_i hT;cases ef;exact ⟨T,by rw [jU eT];rfl,hT,rfl,trivial⟩
       ·cases ef
      ·cases ef
    | _=>cases ef
   show vw _ _ _ [some v0,none,none,none] H
   intro u hu
   show vw _ _ _ [some v0,some (.ref u),none,none] (upd H u (.dK []))
   have E0:Ext G H G (upd H u (.dK [])):=Ext.own sg hu
   have st0:fm K H G (upd H u (.dK [])) [some v0,some (.ref u),none,none] [.pu d0,.no,.no,.no]:=by
    refine ⟨rfl,fun i d e=>?_,fun i d e=>?_,fun i j d d' l _ e=>?_,tg⟩
    ·match i,e with
     | 0,e=>cases e;exact ⟨v0,rfl,hd0⟩
     | 1,e=>cases e
     | 2,e=>cases e
     | 3,e=>cases e
    ·match i,e with
     | 0,e=>cases e
     | 1,e=>cases e
     | 2,e=>cases e
     | 3,e=>cases e
    ·match i,e with
     | 0,e=>cases e
     | 1,e=>cases e
     | 2,e=>cases e
     | 3,e=>cases e
   refine ⟨H,G,_,_,E0.gh,bB hu,st0,hT,fun J G1 H1 E1 it=>?_⟩
   have E01:=E0.trans E1
   have G1u:G1 u=none:=E1.nw u _ aL rfl (sg.free hu)
   refine ⟨fun i m σ H'=>m=T.length-i/\i<=T.length/\∃ Gc dd s2 s3,σ=[some v0,some (.ref u),s2,s3]/\Ext G H Gc H'/\bQ G1 Gc/\UR H Gc H' u dd ((T.take i).foldl (fun D p=>fZ D p.1 p.2) [])/\(((T.take i).foldl (fun D p=>fZ D p.1 p.2) []).map (·.1)).Nodup/\((T.take i).foldl (fun D p=>fZ D p.1 p.2) []).length<=i/\∀ e∈(T.take i).foldl (fun D p=>fZ D p.1 p.2) [],e.2.length<=i,
    ⟨T.length,by simp,aT _,G1,[],_,_,rfl,E01,bQ.refl _,⟨rfl,E1.hh _ _ aL,by simp,by simp,fun d hd=>?_⟩,by simp,by simp,by simp⟩,?_⟩
   ·rw [am] at hd;subst hd;exact ⟨hu,G1u⟩
   rintro i m σ H' ⟨rfl,hi,Gc,dd,s2,s3,rfl,Ec,sc,ur,ndk,hlen,hin0⟩
   generalize hD:(T.take i).foldl (fun D p=>fZ D p.1 p.2) []=D at ur ndk hlen hin0
   have lenM:(T.map fun p=>Da.tup [.int p.1,.int p.2]).length=T.length:=ab _
   by_cases hlt:i<T.length
   ·
    obtain ⟨hgo,hy⟩:=(it i Gc H' sc Ec.gh).1 (Da.tup [.int T[i].1,.int T[i].2]) (by rw [av,ae hlt];rfl)
    have hDn:(T.take (i+1)).foldl (fun D p=>fZ D p.1 p.2) []=fZ D T[i].1 T[i].2:=by
     rw [List.take_succ_eq_append_getElem hlt,List.foldl_append,hD];rfl
    refine .inr ⟨hgo,fun σ3 H3=>∃ Gc dd s2 s3,σ3=[some v0,some (.ref u),s2,s3]/\Ext G H Gc H3/\bQ G1 Gc/\UR H Gc H3 u dd (fZ D T[i].1 T[i].2)/\((fZ D T[i].1 T[i].2).map (·.1)).Nodup/\(fZ D T[i].1 T[i].2).length<=i+1/\∀ e∈fZ D T[i].1 T[i].2,e.2.length<=i+1,fun σ3 H3 z=>⟨T.length-(i+1),by lia,rfl,hlt,?_⟩,fun x H2 yl=>?_⟩
    ·rw [hDn];exact z
    obtain ⟨G2,E2,dx⟩:=hy x H2 yl
    obtain ⟨t,xs,rfl,gt,dxs⟩:=dx
    have ex:xs=[.int T[i].1,.int T[i].2]:=by
     obtain ⟨x1,r1,e1,h1,x2,r2,e2,h2,e3⟩:=dxs
     cases (show x1=_ from h1)
     cases (show x2=_ from h2)
     cases (show r2=[] from e3)
     rw [e1,e2]
    subst ex
    generalize T[i].1=a at *
    generalize T[i].2=b at *
    have Ec2:=Ec.trans E2
    have ur2:=ur.ext E2 Ec.gh
    refine ⟨t,_,rfl,SqT.of (E2.gh _ _ gt),rfl,_,_,rfl,_,_,rfl,rfl,?_⟩
    show vw _ _ _ [some v0,some (.ref u),some (.int a),some (.int b)] H2
    have second:∀ (Gd:Hp) (H3:Hp) (de:List Addr) (D1:UD),Ext G H Gd H3->bQ G1 Gd->UR H Gd H3 u de D1->(D1.map (·.1)).Nodup->a∈D1.map (·.1)->fZ D1 a b=fZ D a b->D1.length<=i+1->(∀ e∈D1,e.2.length<=i) ->
     wH (yS (oE 1) (oE 2)) (oE 3) (tC (V.bl true)) { nx:=fun σ3 H3=>∃ Gc dd s2 s3,σ3=[some v0,some (.ref u),s2,s3]/\Ext G H Gc H3/\bQ G1 Gc/\UR H Gc H3 u dd (fZ D a b)/\((fZ D a b).map (·.1)).Nodup/\(fZ D a b).length<=i+1/\∀ e∈fZ D a b,e.2.length<=i+1,rt:=Q,bk:=fun σ H=>oE 1 σ H fun v H1=>∃ ls,gf H1 ls fun H2=>Q v H2,ct:=fun σ3 H3=>∃ Gc dd s2 s3,σ3=[some v0,some (.ref u),s2,s3]/\Ext G H Gc H3/\bQ G1 Gc/\UR H Gc H3 u dd (fZ D a b)/\((fZ D a b).map (·.1)).Nodup/\(fZ D a b).length<=i+1/\(∀ e∈fZ D a b,e.2.length<=i+1) } [some v0,some (.ref u),some (.int a),some (.int b)] H3:=fun Gd H3 de D1 Ed sd ud1 ndk1 ha hadd hl1 hin1=>by
     obtain ⟨j,e,dj,e1,e2,e3,e4⟩:=(mN (a:=a) ud1.ln).2 ha
     obtain ⟨x,l⟩:=e
     dsimp only at e3
     subst e3
     have hin:=ud1.inn j _ dj e1 e2
     have hmem:=ai u (ba e2)
     have hll:(idc l).length<sizeLine:=by
      have:=hin1 _ (ba e1)
      unfold idc
      rw [ab]
      dsimp only at this
      lia
     refine ⟨_,rfl,_,rfl,u,.ref dj,rfl,?_,_,rfl,dj,_,rfl,zz.k (k:=Sum.inl b) hin hll,Gd,de,_,_,rfl,Ed.mut (ud1.fr dj hmem).1 (ud1.fr dj hmem).2,sd,?_,?_,?_,?_⟩
     ·rw [<- e4];exact o8.k (k:=Sum.inl x) ud1.out
     ·rw [<- hadd,iz ndk1 e1];exact ud1.put e1 e2
     ·rw [<- hadd,iz ndk1 e1,wU e1];exact ndk1
     ·rw [<- hadd,iz ndk1 e1,bq];exact hl1
     ·rw [<- hadd,iz ndk1 e1]
      intro e he
      rcases List.mem_or_eq_of_mem_set he with z | z
      ·have:=hin1 e z;lia
      ·subst z
       have:=hin1 _ (ba e1)
       show (mX l b).length<=i+1
       unfold mX
       split
       ·dsimp only at this;lia
       ·rw [aF,bx];dsimp only at this;lia
    refine ⟨_,rfl,_,rfl,u,_,rfl,o8.k (k:=Sum.inl a) ur2.out,_,rfl,?_⟩
    by_cases ha:a∈D.map (·.1)
    ·obtain ⟨j,e,dj,e1,e2,e3,e4⟩:=(mN (a:=a) ur2.ln).2 ha
     rw [e4]
     refine DJ ?_
     exact second G2 H2 dd D Ec2 (sc.trans E2.gg) ur2 ndk ha rfl (by lia) hin0
    ·rw [(mN (a:=a) ur2.ln).1 ha]
     refine DD ?_
     intro dn hdn
     have h0:H dn=none:=Ec2.hh.free hdn
     have hg2:G2 dn=none:=Ec2.gh.free hdn
     have ul:(ud dd D).length<sizeLine:=by rw [BO ur2.ln];lia
     have hun:dn≠u:=fun z=>by rw [z,ur2.out] at hdn;cases hdn
     refine ⟨_,rfl,_,rfl,u,_,rfl,zz.k (k:=Sum.inl a) (by rw [aK hun.symm];exact ur2.out) ul,?_⟩
     have fu:=ur2.fr u (ak)
     refine second G2 _ (dd++[dn]) (D++[(a,[])]) ((Ec2.mut h0 hg2).mut fu.1 fu.2) (sc.trans E2.gg) (ur2.snoc hdn h0 hg2 ha) ?_ (by simp) (pZ ha) (by rw [aF,bx];lia) ?_
     rotate_left
     ·intro e he
      rcases aG.mp he with z | z
      ·exact hin0 e z
      ·rw [am] at z;subst z;exact aT _
     rw [cf]
     exact bJ.mpr ⟨ndk,aY _ _,fun y hy2 z hz=>by
      have hz':z=a:=by simpa using hz
      intro w
      rw [w,hz'] at hy2
      exact ha hy2⟩
   ·
    have ei:i=T.length:=by lia
    subst ei
    refine .inl ⟨(it T.length Gc H' sc Ec.gh).2 lenM,?_⟩
    rw [List.take_length] at hD
    refine ⟨_,rfl,(dd++[u]),?_⟩
    have contents:∀ (j:Nat) (hj:j<dd.length),∃ e,D[j]?=some e/\H' dd[j]=some (.dK (idc e.2)):=fun j hj=>by
     have h1:j<D.length:=by rw [<- ur.ln];exact hj
     exact ⟨D[j],ae h1,ur.inn j D[j] dd[j] (ae h1) (ae hj)⟩
    have el:dd++[u]=(((dd.zip D).map fun e=>(e.1,HO.dK (idc e.2.2)))++[(u,HO.dK (ud dd D))]).map (·.1):=by
     rw [cf,aS]
     have:(dd.zip D).map ((fun x=>x.1)∘fun e:Addr×Int×List Int=>(e.1,HO.dK (idc e.2.2)))=dd:=by
      rw [show ((fun x:Addr×HO=>x.1)∘fun e:Addr×Int×List Int=>(e.1,HO.dK (idc e.2.2)))=Prod.fst from rfl]
      exact List.map_fst_zip (by rw [ur.ln];exact aj _)
     rw [this];rfl
    rw [el]
    refine oy (G0:=G) (H0:=H) _ Gc H' Ec ?_ (fun e he=>?_) fun G' H'' E' s' hh=>?_
    ·rw [<- el]
     have n:=be.mp ur.nd
     exact bJ.mpr ⟨n.2,aY _ _,fun x hx y hy=>by rw [am] at hy;subst hy;intro z;subst z;exact n.1 hx⟩
    ·rcases aG.mp he with z | z
     ·obtain ⟨⟨da,e'⟩,hz,rfl⟩:=bf.mp z
      obtain ⟨j,hj,ej⟩:=bv hz
      rw [Cf] at ej
      rw [Cs] at hj
      cases ej
      have h1:j<dd.length:=by lia
      have h2:j<D.length:=by lia
      have f:=ur.fr dd[j] (ai _ (ik h1))
      exact ⟨f.1,f.2,ur.inn j D[j] dd[j] (ae h2) (ae h1),.inl ⟨_,rfl⟩⟩
     ·rw [am] at z;subst z
      have f:=ur.fr u (ak)
      exact ⟨f.1,f.2,ur.out,.inl ⟨_,rfl⟩⟩
    ·refine k _ G' H'' E' ?_
     rw [hd]
     have hD':upp T=D:=hD
     rw [hD']
     obtain ⟨o,ho⟩:=hh (u,HO.dK (ud dd D)) (by simp)
     refine ⟨u,o,_,rfl,ho,pD ur.ln,?_⟩
     rw [t5 ur.ln]
     refine CS ur.ln fun j e dj h1 h2=>?_
     have hmem:(dj,HO.dK (idc e.2))∈((dd.zip D).map fun e=>(e.1,HO.dK (idc e.2.2))):=by
      refine bf.mpr ⟨(dj,e),?_,rfl⟩
      obtain ⟨l1,q1⟩:=al.mp h1
      obtain ⟨l2,q2⟩:=al.mp h2
      have:(dd.zip D)[j]'(by rw [Cs];lia)=(dj,e):=by rw [Cf,q1,q2]
      rw [<- this]
      exact ik _
     exact hh _ (dQ _ hmem)
end Ry
namespace Ry
inductive GoI (N C B:Rho->Prop) (R:Da->Prop):Res->Prop where
 | nx {ρ:Rho}:N ρ->GoI N C B R (.nx ρ)
 | ct {ρ:Rho}:C ρ->GoI N C B R (.ct ρ)
 | bk {ρ:Rho}:B ρ->GoI N C B R (.bk ρ)
 | rt {d:Da}:R d->GoI N C B R (.rt d)
abbrev Go (r:Res) (N C B:Rho->Prop) (R:Da->Prop):Prop:=GoI N C B R r
section
variable {N C B:Rho->Prop} {R:Da->Prop} {ρ:Rho} {g h:Rho->Res}
theorem Go.mono {r:Res} {N' C' B':Rho->Prop} {R':Da->Prop} (q:Go r N C B R) (n:∀ ρ,N ρ->N' ρ) (c:∀ ρ,C ρ->C' ρ) (b:∀ ρ,B ρ->B' ρ) (r':∀ d,R d->R' d):Go r N' C' B' R':=by
 cases q with
 | nx q=>exact .nx (n _ q)
 | ct q=>exact .ct (c _ q)
 | bk q=>exact .bk (b _ q)
 | rt q=>exact .rt (r' _ q)
theorem cj (q:Go (g ρ) (fun ρ'=>Go (h ρ') N C B R) C B R):Go (gd g h ρ) N C B R:=by
 unfold gd
 generalize g ρ=r at q
 cases q with
 | nx q=>exact q
 | ct q=>exact .ct q
 | bk q=>exact .bk q
 | rt q=>exact .rt q
theorem cS {ρ':Rho} (e:g ρ=.nx ρ') (q:N ρ'):Go (g ρ) N C B R:=by rw [e];exact .nx q
theorem mI {d:Da} (e:g ρ=.rt d) (q:R d):Go (g ρ) N C B R:=by rw [e];exact .rt q
theorem lZ {t:Rho->Option Bool} {b:Bool} (e:t ρ=some b) (q1:b=true->Go (g ρ) N C B R) (q2:b=false->Go (h ρ) N C B R):Go (sIf t g h ρ) N C B R:=by
 unfold sIf
 cases b with
 | true=>rw [e];exact q1 rfl
 | false=>rw [e];exact q2 rfl
theorem uv {α:Type} (enc:α->Da) {t:Da->Rho->Option Rho} (I:List α->Rho->Prop):∀ (post pre:List α) (ρ:Rho),I pre ρ ->
 (∀ pre' x post' ρ,pre++post=pre'++x::post'->I pre' ρ->∃ ρ1,t (enc x) ρ=some ρ1/\Go (g ρ1) (I (pre'++[x])) (I (pre'++[x])) N R)->(∀ ρ,I (pre++post) ρ->N ρ)->Go (vx t g (post.map enc) ρ) N C B R
 | [],pre,ρ,i,_,fin=>.nx (fin ρ (by rw [ce];exact i))
 | x::post,pre,ρ,i,step,fin=>by
   obtain ⟨ρ1,e1,q⟩:=step pre x post ρ rfl i
   show Go (match t (enc x) ρ with | none=>.bad | some ρ1=>match g ρ1 with | .nx ρ2=>vx t g (post.map enc) ρ2 | .ct ρ2=>vx t g (post.map enc) ρ2 | .bk ρ2=>.nx ρ2 | .rt d=>.rt d | .bad=>.bad) N C B R
   rw [e1]
   dsimp only
   have again:∀ ρ2,I (pre++[x]) ρ2->Go (vx t g (post.map enc) ρ2) N C B R:=fun ρ2 i2 =>
    uv enc I post (pre++[x]) ρ2 i2 (fun pre' y post' ρ e=>step pre' y post' ρ (by rw [<- e];simp)) (fun ρ i=>fin ρ (by simpa using i))
   generalize g ρ1=r at q
   cases q with
   | nx q=>exact again _ q
   | ct q=>exact again _ q
   | bk q=>exact .nx q
   | rt q=>exact .rt q
theorem gk {α:Type} {enc:α->Da} {t:Da->Rho->Option Rho} {f:Rho->Option (List Da)} (I:List α->Rho->Prop) {xs:List α} (e:f ρ=some (xs.map enc)) (i0:I [] ρ)
 (step:∀ pre x post ρ,xs=pre++x::post->I pre ρ->∃ ρ1,t (enc x) ρ=some ρ1/\Go (g ρ1) (I (pre++[x])) (I (pre++[x])) N R) (fin:∀ ρ,I xs ρ->N ρ):Go (lf f t g ρ) N C B R:=by
 unfold lf
 rw [e]
 exact uv enc I xs [] ρ i0 (fun pre x post ρ e=>step pre x post ρ e) fin
theorem qK {t:Rho->Option Bool} (I:Nat->Rho->Prop):∀ (n m:Nat) (ρ:Rho),m<n->I m ρ->(∀ m ρ,I m ρ->∃ b,t ρ=some b/\(b=false->N ρ)/\(b=true->Go (g ρ) (fun ρ'=>∃ m',m'<m/\I m' ρ') (fun ρ'=>∃ m',m'<m/\I m' ρ') N R))->Go (gB t g n ρ) N C B R
 | 0,m,ρ,h,_,_=>absurd h (pR _)
 | n+1,m,ρ,hm,i,step=>by
   obtain ⟨b,eb,h0,h1⟩:=step m ρ i
   unfold gB
   rw [eb]
   cases b with
   | false=>exact .nx (h0 rfl)
   | true =>
     dsimp only
     have q:=h1 rfl
     have again:∀ ρ2,(∃ m',m'<m/\I m' ρ2)->Go (gB t g n ρ2) N C B R:=fun ρ2 ⟨m',l,i2⟩=>qK I n m' ρ2 (by lia) i2 step
     generalize g ρ=r at q
     cases q with
     | nx q=>exact again _ q
     | ct q=>exact again _ q
     | bk q=>exact .nx q
     | rt q=>exact .rt q
theorem kT {n:Nat} {ds:List Da} {P:Da->Prop} (q:Go (g (cZ n ds)) (fun _=>P .non) (fun _=>False) (fun _=>False) P):∃ d,io n g ds=some d/\P d:=by
 unfold io
 generalize g (cZ n ds)=r at q
 cases q with
 | nx q=>exact ⟨_,rfl,q⟩
 | ct q=>exact q.elim
 | bk q=>exact q.elim
 | rt q=>exact ⟨_,rfl,q⟩
theorem t7 {n:Nat} {ds:List Da} {d:Da} (q:Go (g (cZ n ds)) (fun _=>False) (fun _=>False) (fun _=>False) (fun d'=>d'=d)):io n g ds=some d:=by
 obtain ⟨d',e,h⟩:=kT (P:=fun d'=>d'=d) (q.mono (fun _ z=>z.elim) (fun _ z=>z) (fun _ z=>z) fun _ z=>z)
 rw [e,h]
end
section
variable {α:Type} {enc:α->Da} {c:Rho->Option Bool} {f:Rho->Option Rv} {p:α->Bool} {e:α->Da}
theorem my {t:Da->Rho->Option Rho} (I:Rho->Prop):∀ (xs:List α) (ρ:Rho),I ρ->(∀ x∈xs,∀ ρ,I ρ->∃ ρ1,t (enc x) ρ=some ρ1/\I ρ1/\c ρ1=some (p x)/\(p x=true->∃ r,f ρ1=some r/\cD r=true/\r.2=e x)) ->
 kn t c f (xs.map enc) ρ=some ((xs.filter p).map e)
 | [],_,_,_=>rfl
 | x::xs,ρ,i,h=>by
   obtain ⟨ρ1,e1,i1,ec,ef⟩:=h x (ak) ρ i
   have ih:=my (t:=t) I xs ρ1 i1 fun y hy=>h y (ai _ hy)
   show (match t (enc x) ρ with
    | none=>none
    | some ρ1=>match c ρ1 with
      | none=>none
      | some false=>kn t c f (xs.map enc) ρ1
      | some true=>match f ρ1 with
        | none=>none
        | some r=>if cD r=true then (match kn t c f (xs.map enc) ρ1 with
          | none=>none
          | some es=>some (r.2::es)) else none)=_
   rw [e1]
   dsimp only
   rw [ec]
   cases hp:p x with
   | false=>dsimp only;rw [ih,List.filter_cons_of_neg (by rw [hp];exact ah)]
   | true =>
     dsimp only
     obtain ⟨r,er,pr,e2⟩:=ef hp
     rw [er]
     dsimp only
     rw [if_pos pr,ih,List.filter_cons_of_pos hp,ax,e2]
theorem uI {i:Nat} {ρ:Rho} {xs:List α} (h:∀ x∈xs,c (ρ.set i (.pu (enc x)))=some (p x)/\(p x=true->∃ r,f (ρ.set i (.pu (enc x)))=some r/\cD r=true/\r.2=e x)):kn (tgN i) c f (xs.map enc) ρ=some ((xs.filter p).map e):=by
 refine my (fun ρ'=>∀ d,ρ'.set i (.pu d)=ρ.set i (.pu d)) xs ρ (fun _=>rfl) fun x hx ρ' i'=>⟨ρ'.set i (.pu (enc x)),rfl,fun d=>?_,?_⟩
 ·rw [vD,i']
 ·rw [i'];exact h x hx
theorem v9 {i j:Nat} {ρ:Rho} {xs:List α} {a b:α->Da} (h:∀ x∈xs,c ((ρ.set i (.pu (a x))).set j (.pu (b x)))=some (p x)/\(p x=true->∃ r,f ((ρ.set i (.pu (a x))).set j (.pu (b x)))=some r/\cD r=true/\r.2=e x)) (hij:i≠j) (henc:∀ x,enc x=.tup [a x,b x]) :
 kn (tgT 2 (fA (tgN i) (fA (tgN j) kC))) c f (xs.map enc) ρ=some ((xs.filter p).map e):=by
 refine my (fun ρ'=>∀ d d',(ρ'.set i (.pu d)).set j (.pu d')=(ρ.set i (.pu d)).set j (.pu d')) xs ρ (fun _ _=>rfl) fun x hx ρ' i'=>⟨(ρ'.set i (.pu (a x))).set j (.pu (b x)),?_,fun d d'=>?_,?_⟩
 ·rw [henc];simp [tgT,fA,tgN,kC]
 ·have e:((ρ'.set i (.pu (a x))).set j (.pu (b x))).set i (.pu d)=(ρ'.set i (.pu d)).set j (.pu (b x)):=by rw [DS _ _ hij,vD];exact DS _ _ (Ne.symm hij)
  rw [e,vD,i']
 ·rw [i'];exact h x hx
end
end Ry
namespace Ry
open L2
abbrev PI:=Int×Int
def dP (p:PI):Da:=.tup [.int p.1,.int p.2]
def kP (p:PI):List Key:=[.inl p.1,.inl p.2]
def dY (n:Int) (L:List PI):Da:=.tup [.int n,.tup (L.map dP)]
theorem uj {p q:PI} (h:kP p=kP q):p=q:=by
 unfold kP at h
 injection h with h1 h2
 injection h2 with h2 _
 exact Prod.ext (Sum.inl.inj h1) (Sum.inl.inj h2)
theorem sI (p:PI):kt [.int p.1,.int p.2]=some (kP p):=rfl
theorem eO:∀ ns:List Int,fj (ns.map Da.int)=some ns
 | []=>rfl
 | n::ns=>by show (fj (ns.map Da.int)).map (n::·)=_;rw [eO ns];rfl
theorem ve:∀ S:List PI,nE (S.map dP)=some (S.map fun p=>[p.1,p.2])
 | []=>rfl
 | p::S=>by
   show (match fj [Da.int p.1,Da.int p.2],nE (S.map dP) with | some ns,some ts=>some (ns::ts) | _,_=>none)=_
   rw [ve S];rfl
theorem zm (p q:PI):HT.lexLt [p.1,p.2] [q.1,q.2]=Ms.ltP p q:=by
 unfold HT.lexLt Ms.ltP
 split
 ·unfold HT.lexLt
  split
  ·rename_i h;simp [HT.lexLt,h]
  ·rfl
 ·rfl
theorem rJ {ns:List Int} (h:ns.length<64):iZ (ns.map Da.int)=some ((Ms.srt Ms.ltI ns).map Da.int):=by
 unfold iZ
 rw [eO]
 dsimp only
 rw [if_pos h]
theorem CU {S:List PI} (h:OkN S):OkN (S.map fun p:PI=>[p.1,p.2]):=by
 unfold OkN at *
 rw [ab]
 refine h.imp id fun ⟨a,b⟩=>⟨a,?_⟩
 rw [List.nodup_iff_pairwise_ne] at *
 rw [cL]
 exact b.imp fun {x y} n e=>n (by injection e with e1 e2;injection e2 with e2 _;exact Prod.ext e1 e2)
theorem nT {S:List PI} (h:OkN S):iZ (S.map dP)=some ((Ms.srt Ms.ltP S).map dP):=by
 cases S with
 | nil=>rfl
 | cons p S =>
   unfold iZ
   have e:fj (oA dP (p::S))=none:=rfl
   rw [e]
   dsimp only
   rw [ve]
   dsimp only
   rw [if_pos ⟨CU h,by simp⟩,Ms.srt_map (lt:=Ms.ltP) (fun a b=>zm a b),aS]
   rfl
def dS (S:List PI):Da:=.dT (S.map kP) (S.map fun _=>.bl true)
def pG (S:List PI) (p:PI):List PI:=if p∈S then S else S++[p]
theorem lR {S:List PI} {p q:PI}:q∈pG S p↔q∈S\/q=p:=by
 unfold pG
 split
 ·constructor
  ·exact .inl
  ·rintro (h | h)
   ·exact h
   ·subst h;assumption
 ·rw [aG,am]
theorem kQ {S:List PI} {p:PI} (h:S.Nodup):(pG S p).Nodup:=by
 unfold pG
 split
 ·exact h
 ·rename_i hn
  exact bJ.mpr ⟨h,aY _ _,fun a ha b hb=>by rw [am] at hb;subst hb;intro z;subst z;exact hn ha⟩
theorem wY {S:List PI}:(S.map kP).Nodup↔S.Nodup:=by
 constructor
 ·intro h
  exact List.Pairwise.imp (fun {a b} z w=>z (by rw [w])) (cL.mp h)
 ·intro h
  exact cL.mpr (h.imp fun {a b} z w=>z (uj w))
theorem Am:∀ (S:List PI) (p:PI),atK (S.map kP) (S.map fun _=>Da.bl true) (kP p)=if p∈S then some (.bl true) else none
 | [],p=>by simp [atK]
 | q::S,p=>by
   show (if kP q=kP p then some (Da.bl true) else atK (S.map kP) (S.map fun _=>Da.bl true) (kP p))=_
   by_cases h:kP q=kP p
   ·rw [if_pos h,if_pos (by rw [uj h];exact ak)]
   ·rw [if_neg h,Am S p]
    have hne:p≠q:=fun z=>h (by rw [z])
    by_cases hp:p∈S
    ·rw [if_pos hp,if_pos (ai _ hp)]
    ·rw [if_neg hp,if_neg (fun z=>(ag.mp z).elim hne hp)]
theorem y3 (S:List PI) (p:PI):jv (dS S) (dP p)=some (if p∈S then some (.bl true) else none):=by
 show (match kt [Da.int p.1,Da.int p.2] with | some j=>some (atK (S.map kP) (S.map fun _=>Da.bl true) j) | none=>none)=_
 rw [sI]
 dsimp only
 rw [Am]
theorem zb:∀ (S:List PI) (p:PI),eS (S.map kP) (kP p)=(pG S p).map kP/\eW (S.map kP) (S.map fun _=>Da.bl true) (kP p) (.bl true)=(pG S p).map fun _=>Da.bl true
 | [],p=>⟨rfl,rfl⟩
 | q::S,p=>by
   have ih:=zb S p
   by_cases h:kP q=kP p
   ·have e:=uj h
    subst e
    have ea:pG (q::S) q=q::S:=by unfold pG;rw [if_pos ak]
    rw [ea]
    constructor
    ·show (if kP q=kP q then _ else _)=_;rw [if_pos rfl];rfl
    ·show (if kP q=kP q then _ else _)=_;rw [if_pos rfl];rfl
   ·have hne:p≠q:=fun z=>h (by rw [z])
    have ea:pG (q::S) p=q::pG S p:=by
     unfold pG
     by_cases hp:p∈S
     ·rw [if_pos hp,if_pos (ai _ hp)]
     ·rw [if_neg hp,if_neg (fun z=>(ag.mp z).elim hne hp)];rfl
    rw [ea]
    constructor
    ·show (if kP q=kP p then _ else kP q::eS (S.map kP) (kP p))=_;rw [if_neg h,ih.1];rfl
    ·show (if kP q=kP p then _ else Da.bl true::eW (S.map kP) (S.map fun _=>Da.bl true) (kP p) (.bl true))=_;rw [if_neg h,ih.2];rfl
theorem xp {S:List PI} (p:PI) (nd:S.Nodup) (hl:S.length<=1000000):Aa (dS S) (dP p) (.bl true)=some (dS (pG S p)):=by
 show (match kt [Da.int p.1,Da.int p.2] with | some j=>if (S.map kP).Nodup/\(S.map kP).length<=1000000 then some (Da.dT (eS (S.map kP) j) (eW (S.map kP) (S.map fun _=>Da.bl true) j (.bl true))) else none | none=>none)=_
 rw [sI]
 dsimp only
 rw [if_pos ⟨wY.mpr nd,by rw [ab];exact hl⟩,(zb S p).1,(zb S p).2]
 rfl
def rgI (lo:Int):Nat->List Int
 | 0=>[]
 | n+1=>lo::rgI (lo+1) n
theorem dm:∀ (n:Nat) (lo:Int),dq lo n=(rgI lo n).map Da.int
 | 0,_=>rfl
 | n+1,lo=>by show Da.int lo::dq (lo+1) n=_;rw [dm n];rfl
theorem fD:∀ {n:Nat} {lo x:Int},x∈rgI lo n↔lo<=x/\x<lo+n
 | 0,lo,x=>by unfold rgI;constructor;intro h;cases h;intro h;exfalso;lia
 | n+1,lo,x=>by unfold rgI;rw [ag,fD];lia
theorem eA:∀ (n:Nat) (lo:Int),(rgI lo n).length=n
 | 0,_=>rfl
 | n+1,lo=>by unfold rgI;rw [aD,eA n]
theorem gG:∀ (n:Nat) (lo:Int),(rgI lo n).Pairwise fun a b=>Ms.ltI a b=true
 | 0,_=>.nil
 | n+1,lo=>aZ.mpr ⟨fun x hx=>by have:=fD.mp hx;simp only [Ms.ltI,decide_eq_true_eq];lia,gG n _⟩
structure Yd (n:Int) (L:List PI):Prop where
 srt:L.Pairwise fun p q=>Ms.ltP p q=true
 rg:∀ p∈L,(0<=p.1/\p.1<n)/\0<=p.2/\p.2<n
 irr:∀ a,(a,a)∉L
 tr:∀ a b c,(a,b)∈L->(b,c)∈L->(a,c)∈L
theorem Yd.nd {n:Int} {L:List PI} (h:Yd n L):L.Nodup:=h.srt.imp fun {a b} z w=>by subst w;rw [Ms.linP.irr] at z;cases z
end Ry
set_option linter.unusedSimpArgs false
namespace Ry
open PySem L2
@[simp] theorem hO (i:Nat) (ρ:Rho):aQ i ρ=( match ρ[i]? with
  | some (.pu d)=>some (.pu,d)
  | some (.ow d)=>some (.bo,d)
  | _=>none:Option Rv):=rfl
@[simp] theorem zK (d:Da) (ρ:Rho):xC d ρ=( some (.pu,d):Option Rv):=rfl
@[simp] theorem Aw (r:Rv) (ρ:Rho):xC2 r ρ=( some r:Option Rv):=rfl
@[simp] theorem kG (op:Rv->Rv->Option Rv) (fa fb:Rho->Option Rv) (ρ:Rho):x2 op fa fb ρ=( match fa ρ with
  | none=>none
  | some a=>match fb ρ with
    | none=>none
    | some b=>op a b:Option Rv):=rfl
@[simp] theorem xE (f:List Rv->Option Rv) (g:Rho->Option (List Rv)) (ρ:Rho):xB f g ρ=( match g ρ with
  | none=>none
  | some rs=>f rs:Option Rv):=rfl
@[simp] theorem b9 (f:Rho->Option Rv) (g:Rho->Option (List Rv)) (ρ:Rho):aO f g ρ=( match f ρ with
  | none=>none
  | some r=>match g ρ with
    | none=>none
    | some rs=>some (r::rs):Option (List Rv)):=rfl
@[simp] theorem dG (ρ:Rho):ca ρ=( some []:Option (List Rv)):=rfl
@[simp] theorem tV (g:Rho->Option (List Rv)) (ρ:Rho):oD g ρ=( match g ρ with
  | none=>none
  | some rs=>match gI rs with
    | none=>none
    | some ds=>if ds.length<=1000 then some (.pu,.tup ds) else none:Option Rv):=rfl
@[simp] theorem xLst_s (g:Rho->Option (List Rv)) (ρ:Rho):vT g ρ=( match g ρ with
  | none=>none
  | some rs=>match gI rs with
    | none=>none
    | some ds=>if ds.length<=1000 then some (.fr,.lst ds) else none:Option Rv):=rfl
@[simp] theorem xNeg_s (f:Rho->Option Rv) (ρ:Rho):rG f ρ=( match f ρ with
  | some (_,.int i)=>some (.pu,.int (-i))
  | _=>none:Option Rv):=rfl
@[simp] theorem xNot_s (fa:Rho->Option Rv) (ρ:Rho):DG fa ρ=( match fa ρ with
  | some (_,.bl b)=>some (.pu,.bl (!b))
  | _=>none:Option Rv):=rfl
@[simp] theorem Av (fa fb:Rho->Option Rv) (ρ:Rho):Ae fa fb ρ=( match fa ρ with
  | some (_,.bl true)=>fb ρ
  | some (_,.bl false)=>some (.pu,.bl false)
  | _=>none:Option Rv):=rfl
@[simp] theorem xOr_s (fa fb:Rho->Option Rv) (ρ:Rho):xOr fa fb ρ=( match fa ρ with
  | some (_,.bl true)=>some (.pu,.bl true)
  | some (_,.bl false)=>fb ρ
  | _=>none:Option Rv):=rfl
@[simp] theorem xIf_s (t:Rho->Option Bool) (fa fb:Rho->Option Rv) (ρ:Rho):xIf t fa fb ρ=( match t ρ with
  | some true=>fa ρ
  | some false=>fb ρ
  | none=>none:Option Rv):=rfl
@[simp] theorem yX (fn:List Da->Option Da) (g:Rho->Option (List Rv)) (ρ:Rho):cC fn g ρ=( match g ρ with
  | none=>none
  | some rs=>match gI rs with
    | none=>none
    | some ds=>match fn ds with
      | none=>none
      | some d=>some (.pu,d):Option Rv):=rfl
@[simp] theorem vp (f:Rho->Option Rv) (ρ:Rho):tb f ρ=( match f ρ with
  | some (_,.bl b)=>some b
  | _=>none:Option Bool):=rfl
@[simp] theorem wS (f:Rho->Option Rv) (ρ:Rho):tTr f ρ=( match f ρ with
  | some r=>trD r.2
  | none=>none:Option Bool):=rfl
@[simp] theorem j3 (ta:Rho->Option Bool) (ρ:Rho):eK ta ρ=( (ta ρ).map (!·):Option Bool):=rfl
@[simp] theorem yU (ta tc:Rho->Option Bool) (ρ:Rho):oN ta tc ρ=( match ta ρ with
  | some true=>tc ρ
  | some false=>some false
  | none=>none:Option Bool):=rfl
@[simp] theorem jk (ta tc:Rho->Option Bool) (ρ:Rho):oC ta tc ρ=( match ta ρ with
  | some true=>some true
  | some false=>tc ρ
  | none=>none:Option Bool):=rfl
@[simp] theorem ji (i:Nat) (f:Rho->Option Rv) (ρ:Rho):kg i f ρ=( match f ρ with
  | some r=>if cD r=true then .nx (ρ.set i (.pu r.2)) else .bad
  | none=>.bad:Res):=rfl
@[simp] theorem sOwn_s (i:Nat) (f:Rho->Option Rv) (ρ:Rho):vv i f ρ=( match f ρ with
  | some (.fr,d)=>.nx (ρ.set i (.ow d))
  | _=>.bad:Res):=rfl
@[simp] theorem jc (f:Rho->Option Rv) (ρ:Rho):eG f ρ=( match f ρ with
  | some r=>.rt r.2
  | none=>.bad:Res):=rfl
@[simp] theorem sRet_s (f:Rho->Option Rv) (ρ:Rho):D0 f ρ=( match f ρ with
  | some r=>if r.1=.pu\/jB r.2=false then .rt r.2 else .bad
  | none=>.bad:Res):=rfl
@[simp] theorem sSeq_s (g h:Rho->Res) (ρ:Rho):gd g h ρ=( match g ρ with
  | .nx ρ'=>h ρ'
  | r=>r:Res):=rfl
@[simp] theorem sNext_s (ρ:Rho):iT ρ=( .nx ρ:Res):=rfl
@[simp] theorem sIf_s (t:Rho->Option Bool) (g h:Rho->Res) (ρ:Rho):sIf t g h ρ=( match t ρ with
  | some true=>g ρ
  | some false=>h ρ
  | none=>.bad:Res):=rfl
@[simp] theorem jO (i:Nat) (f:Rho->Option Rv) (ρ:Rho):ic i f ρ=( match ρ[i]?,f ρ with
  | some (.ow (.lst ds)),some r=>if cD r=true/\ds.length<=1000000 then .nx (ρ.set i (.ow (.lst (ds++[r.2])))) else .bad
  | _,_=>.bad:Res):=rfl
@[simp] theorem sPop_s (i j:Nat) (ρ:Rho):DU i j ρ=( match ρ[i]? with
  | some (.ow (.lst ds))=>match ds.getLast? with
    | some d=>.nx ((ρ.set i (.ow (.lst ds.dropLast))).set j (.pu d))
    | none=>.bad
  | _=>.bad:Res):=rfl
@[simp] theorem uA (i:Nat) (fk fv:Rho->Option Rv) (ρ:Rho):xL i fk fv ρ=( match ρ[i]?,fk ρ,fv ρ with
  | some (.ow d),some k,some v=>if cD v=true then (match Aa d k.2 v.2 with
    | some d'=>.nx (ρ.set i (.ow d'))
    | none=>.bad) else .bad
  | _,_,_=>.bad:Res):=rfl
@[simp] theorem sExtend_s (i:Nat) (f:Rho->Option Rv) (ρ:Rho):y8 i f ρ=( match ρ[i]?,f ρ with
  | some (.ow (.lst ds)),some (.fr,.lst es)=>if ds.length+es.length<=1000000 then .nx (ρ.set i (.ow (.lst (ds++es)))) else .bad
  | _,_=>.bad:Res):=rfl
@[simp] theorem sAsg_s (f:Rho->Option Rv) (t:Da->Rho->Option Rho) (ρ:Rho):DV f t ρ=( match f ρ with
  | some r=>if cD r=true then (match t r.2 ρ with
    | some ρ'=>.nx ρ'
    | none=>.bad) else .bad
  | none=>.bad:Res):=rfl
@[simp] theorem sDrop_s (f:Rho->Option Rv) (ρ:Rho):CO f ρ=( match f ρ with
  | some _=>.nx ρ
  | none=>.bad:Res):=rfl
@[simp] theorem qw (f:Rho->Option Rv) (ρ:Rho):gu f ρ=( match f ρ with
  | some (.fr,d)=>some (.pu,d)
  | r=>r:Option Rv):=rfl
@[simp] theorem xSlice_s (fa:Rho->Option Rv) (fl fh:Rho->Option (Option Int)) (ρ:Rho):AU fa fl fh ρ=( match fa ρ,fl ρ,fh ρ with
  | some r,some l,some h=>slD l h r.2
  | _,_,_=>none:Option Rv):=rfl
@[simp] theorem oNone_s (ρ:Rho):Dd ρ=( some none:Option (Option Int)):=rfl
@[simp] theorem oSome_s (f:Rho->Option Rv) (ρ:Rho):Cy f ρ=( match f ρ with
  | some (_,.int i)=>some (some i)
  | _=>none:Option (Option Int)):=rfl
@[simp] theorem xIsInst_s (i:Da->Option Bool) (f:Rho->Option Rv) (ρ:Rho):eV i f ρ=( match f ρ with
  | some r=>match i r.2 with
    | some b=>some (.pu,.bl b)
    | none=>none
  | none=>none:Option Rv):=rfl
@[simp] theorem qO (op op':Rv->Rv->Option Rv) (fa fb fc:Rho->Option Rv) (ρ:Rho):iL op op' fa fb fc ρ=( match fa ρ,fb ρ with
  | some a,some b=>match op a b with
    | some (_,.bl true)=>match fc ρ with
      | some c=>op' b c
      | none=>none
    | some (_,.bl false)=>some (.pu,.bl false)
    | _=>none
  | _,_=>none:Option Rv):=rfl
@[simp] theorem uc (fd fk fx:Rho->Option Rv) (ρ:Rho):kf fd fk fx ρ=( match fd ρ,fk ρ,fx ρ with
  | some d,some k,some x=>match jv d.2 k.2 with
    | some (some e)=>some (.pu,e)
    | some none=>some x
    | none=>none
  | _,_,_=>none:Option Rv):=rfl
@[simp] theorem jH (f:Rho->Option Rv) (ρ:Rho):b7 f ρ=( match f ρ with
  | some (.pu,.lst ds)=>some ds
  | some (.pu,.tup ds)=>some ds
  | some (.pu,.dK ks _)=>some (ks.map fW)
  | _=>none:Option (List Da)):=rfl
@[simp] theorem qv (f:Rho->Option (List Rv)) (ρ:Rho):mB f ρ=( match f ρ with
  | some [(_,.int j)]=>if -(2 ^ 62)<=j/\j<2 ^ 62 then some (dq 0 j.toNat) else none
  | _=>none:Option (List Da)):=rfl
@[simp] theorem xc (f:Rho->Option (List Rv)) (ρ:Rho):xn f ρ=( match f ρ with
  | some [(_,.int i),(_,.int j)]=>if -(2 ^ 62)<=i/\i<2 ^ 62/\-(2 ^ 62)<=j/\j<2 ^ 62 then some (dq i (j-i).toNat) else none
  | _=>none:Option (List Da)):=rfl
@[simp] theorem tgN_s (i:Nat) (d:Da) (ρ:Rho):tgN i d ρ=( some (ρ.set i (.pu d)):Option Rho):=rfl
@[simp] theorem tgT_s (n:Nat) (t:List Da->Rho->Option Rho) (ds:List Da) (ρ:Rho):tgT n t (.tup ds) ρ=if ds.length=n then t ds ρ else none:=rfl
@[simp] theorem tgCons_s (t:Da->Rho->Option Rho) (u:List Da->Rho->Option Rho) (d:Da) (ds:List Da) (ρ:Rho):fA t u (d::ds) ρ=(match t d ρ with | some ρ'=>u ds ρ' | none=>none):=rfl
@[simp] theorem tgNil_s (ρ:Rho):kC [] ρ=some ρ:=rfl
@[simp] theorem h9:gI []=some []:=rfl
@[simp] theorem gC (r:Rv) (rs:List Rv):gI (r::rs)=if cD r=true then (gI rs).map (r.2::·) else none:=rfl
@[simp] theorem iB (d:Da):cD (.pu,d)=true:=rfl
@[simp] theorem sB (d:Da):cD (.fr,d) = !jB d:=rfl
@[simp] theorem wV (d:List Da):jB (.lst d)=false:=rfl
@[simp] theorem isDk_tup (d:List Da):jB (.tup d)=false:=rfl
@[simp] theorem isDk_int (d:Int):jB (.int d)=false:=rfl
@[simp] theorem isDk_bl (d:Bool):jB (.bl d)=false:=rfl
@[simp] theorem oI_s (c:Int->Int->Bool) (g:Int->Int->Int) (a b:Kd) (i j:Int):oI c g (a,.int i) (b,.int j)=if c i j=true then some (.pu,.int (g i j)) else none:=rfl
@[simp] theorem C5 (g:Int->Int->Bool) (a b:Kd) (i j:Int):oB g (a,.int i) (b,.int j)=some (.pu,.bl (g i j)):=rfl
@[simp] theorem zx (a b:Kd) (i j:Int):oLt (a,.int i) (b,.int j)=some (.pu,.bl (decide (i<j))):=rfl
@[simp] theorem xA (a b:Kd) (i j:Int):mz (a,.int i) (b,.int j)=some (.pu,.int (i+j)):=rfl
@[simp] theorem oAdd_t (a b:Kd) (xs ys:List Da):mz (a,.tup xs) (b,.tup ys)=if xs.length+ys.length<=1000000 then some (.pu,.tup (xs++ys)) else none:=by
  unfold mz w8 w6 oI;dsimp only;split<;>rfl
@[simp] theorem oAdd_l (a b:Kd) (xs ys:List Da):mz (a,.lst xs) (b,.lst ys)=if xs.length+ys.length<=1000000 then some (.fr,.lst (xs++ys)) else none:=by
  unfold mz w8 w6 oI;dsimp only;split<;>rfl
@[simp] theorem oIs_s (n:Bool) (a b:Kd) (i j:Bool):oIs n (a,.bl i) (b,.bl j)=some (.pu,.bl (if n then !(i == j) else i == j)):=rfl
@[simp] theorem cMul_lit (i:Int):nS i 48271=true:=by simp [nS]
@[simp] theorem AS (k:Kd) (ds:List Da):nU [(k,.tup ds)]=some (.pu,.int ds.length):=rfl
@[simp] theorem fLen_l (k:Kd) (ds:List Da):nU [(k,.lst ds)]=some (.pu,.int ds.length):=rfl
@[simp] theorem fTuple_t (k:Kd) (ds:List Da):iy [(k,.tup ds)]=some (.pu,.tup ds):=rfl
@[simp] theorem fTuple_l (k:Kd) (ds:List Da):iy [(k,.lst ds)]=some (.pu,.tup ds):=rfl
@[simp] theorem fList_t (k:Kd) (ds:List Da):lD [(k,.tup ds)]=some (.fr,.lst ds):=rfl
@[simp] theorem fList_l (k:Kd) (ds:List Da):lD [(k,.lst ds)]=some (.fr,.lst ds):=rfl
@[simp] theorem trD_non:trD .non=some false:=rfl
@[simp] theorem trD_bl (b:Bool):trD (.bl b)=some b:=rfl
@[simp] theorem trD_int (i:Int):trD (.int i)=some (i != 0):=rfl
@[simp] theorem trD_tup (ds:List Da):trD (.tup ds)=some (!ds.isEmpty):=rfl
@[simp] theorem zr (ds:List Da):trD (.lst ds)=some (!ds.isEmpty):=rfl
theorem sr {α:Type} {xs:List α} {k:Int} (h0:0<=k):atI xs k=xs[k.toNat]?:=by
 unfold atI ixN
 rw [if_pos h0]
 split
 ·rfl
 ·rename_i h
  rw [bG (by lia)];rfl
theorem wN {a b:Kd} {ds:List Da} {i:Int} {d:Da} (h0:0<=i) (h:ds[i.toNat]?=some d):oIt (a,.tup ds) (b,.int i)=some (.pu,d):=by
 unfold oIt oIx tN
 dsimp only
 rw [sr h0,h]
 rfl
theorem zH {a b:Kd} {ds:List Da} {i:Int} {d:Da} (h0:0<=i) (h:ds[i.toNat]?=some d):oIt (a,.lst ds) (b,.int i)=some (.pu,d):=by
 unfold oIt oIx tN
 dsimp only
 rw [sr h0,h]
 rfl
@[simp] theorem oIt_0 (a b:Kd) (d:Da) (ds:List Da):oIt (a,.tup (d::ds)) (b,.int 0)=some (.pu,d):=wN (by decide) rfl
@[simp] theorem oIt_1 (a b:Kd) (d e:Da) (ds:List Da):oIt (a,.tup (d::e::ds)) (b,.int 1)=some (.pu,e):=wN (by decide) rfl
theorem BP (n:Bool) (a b:Kd) (S:List PI) (p:PI):uM n (a,dP p) (b,dS S)=some (.pu,.bl (if n then !decide (p∈S) else decide (p∈S))):=by
 unfold uM
 dsimp only
 rw [y3]
 by_cases h:p∈S<;>simp [h]
@[simp] theorem oIn_S (n:Bool) (a b:Kd) (S:List PI) (x y:Int):oIn n (a,.tup [.int x,.int y]) (b,dS S)=some (.pu,.bl (if n then !decide ((x,y)∈S) else decide ((x,y)∈S))):=by
  unfold oIn
  rw [show Da.tup [.int x,.int y]=dP (x,y) from rfl,BP]
  rfl
end Ry
namespace G
open PySem L2 Ry
def g__law_cell:Rho->Res:=(gd (sIf (tb (x2 oLt (aQ 1) (xB nU (aO (aQ 0) ca)))) (eG (x2 oIt (aQ 0) (aQ 1))) iT)
 (eG (xC (.int 0))))
def fn__law_cell:List Da->Option Da:=io 2 g__law_cell
def g__law_mix:Rho->Res:=(eG (x2 (oI (fun _ j=>decide (0<j)) (·%·)) (x2 (oI (fun _ j=>decide (0<j)) (·%·)) (x2 (oI nS (·*·)) (aQ 0) (xC (.int 48271))) (aQ 1)) (aQ 2)))
def fn__law_mix:List Da->Option Da:=io 3 g__law_mix
def vq (c m:Int):Nat->Int->List Int->List Int
 | 0,_,_=>[]
 | f+1,k,left=>left.getD ((c+5*k)*48271%9967%(m-k)).toNat 0::vq c m f (k+1) (left.eraseIdx ((c+5*k)*48271%9967%(m-k)).toNat)
def fn__law_perm:List Da->Option Da
 | [.int c,.int m]=>if 0<=m/\m<=1000 then some (.lst ((vq c m m.toNat 0 (rgI 0 m.toNat)).map Da.int)) else none
 | _=>none
def g__law_all:Rho->Res:=(gd (vv 2 (xC2 (.fr,.dT [] [])))
 (gd (lf (b7 (gu (aQ 1))) (tgN 3)
 (xL 2 (aQ 3) (xC (.bl true))))
 (gd (lf (mB (aO (aQ 0) ca)) (tgN 4)
 (lf (mB (aO (aQ 0) ca)) (tgN 5)
 (lf (mB (aO (aQ 0) ca)) (tgN 6)
 (sIf (oN (tb (x2 (oIn false) (oD (aO (aQ 5) (aO (aQ 4) ca))) (aQ 2))) (tb (x2 (oIn false) (oD (aO (aQ 4) (aO (aQ 6) ca))) (aQ 2)))) (xL 2 (oD (aO (aQ 5) (aO (aQ 6) ca))) (xC (.bl true))) iT))))
 (eG (xB fy (aO (aQ 2) ca))))))
def fn__law_all:List Da->Option Da:=io 7 g__law_all
def g__law_yard:Rho->Res:=(gd (kg 3 (x2 mz (xC (.int 1)) (cC fn__law_mix (aO (cC fn__law_cell (aO (aQ 0) (aO (aQ 1) ca))) (aO (xC (.int 9973)) (aO (aQ 2) ca))))))
 (gd (kg 4 (x2 mz (xC (.int 1)) (cC fn__law_mix (aO (cC fn__law_cell (aO (aQ 0) (aO (aQ 1) ca))) (aO (xC (.int 9949)) (aO (xC (.int 6)) ca))))))
 (gd (kg 5 (cC fn__law_perm (aO (cC fn__law_cell (aO (aQ 0) (aO (x2 mz (aQ 1) (xC (.int 1))) ca))) (aO (aQ 3) ca))))
 (gd (vv 6 (vT ca))
 (gd (lf (mB (aO (aQ 3) ca)) (tgN 7)
 (lf (xn (aO (x2 mz (aQ 7) (xC (.int 1))) (aO (aQ 3) ca))) (tgN 8)
 (sIf (tb (x2 oLt (cC fn__law_mix (aO (x2 mz (x2 mz (cC fn__law_cell (aO (aQ 0) (aO (x2 mz (aQ 1) (xC (.int 2))) ca))) (x2 (oI nS (·*·)) (xC (.int 131)) (aQ 7))) (x2 (oI nS (·*·)) (xC (.int 17)) (aQ 8))) (aO (xC (.int 9941)) (aO (xC (.int 10)) ca)))) (aQ 4))) (ic 6 (oD (aO (x2 oIt (aQ 5) (aQ 7)) (aO (x2 oIt (aQ 5) (aQ 8)) ca)))) iT)))
 (fun ρ=>(eG (oD (aO (aQ 3) (aO (xB iy (aO (cC fn__law_all (aO (aQ 3) (aO (aQ 6) ca))) ca)) ca)))) (frz 6 ρ)))))))
def fn__law_yard:List Da->Option Da:=io 9 g__law_yard
end G
set_option linter.unusedSimpArgs false
namespace G
open PySem L2 Ry
theorem mf (S:List Int) (k:Int) (hk:0<=k):fn__law_cell [.lst (S.map Da.int),.int k]=some (.int (S.getD k.toNat 0)):=by
 by_cases h:k<(S.length:Int)
 ·have h2:k.toNat<S.length:=by lia
  simp [fn__law_cell,io,cZ,g__law_cell,h,oIt,oIx,tN,atI,ixN,hk,h2]
 ·have h2:¬ k.toNat<S.length:=by lia
  simp [fn__law_cell,io,cZ,g__law_cell,h,oIt,oIx,tN,atI,ixN,hk,h2]
theorem qm (c p m:Int) (hp:0<p) (hm:0<m):fn__law_mix [.int c,.int p,.int m]=some (.int (c*48271%p%m)):=by
 simp [fn__law_mix,io,cZ,g__law_mix,hp,hm]
inductive Cl (T:List PI):Int->Int->Prop where
 | of {a b:Int}:(a,b)∈T->Cl T a b
 | tr {a b c:Int}:Cl T a b->Cl T b c->Cl T a c
theorem Cl.rg {T:List PI} {n:Int} (h:∀ p∈T,(0<=p.1/\p.1<n)/\0<=p.2/\p.2<n) {a b:Int} (c:Cl T a b):(0<=a/\a<n)/\0<=b/\b<n:=by
 induction c with
 | of m=>exact h _ m
 | tr _ _ i1 i2=>exact ⟨i1.1,i2.2⟩
structure Ph (n c:Int) (S cur:List PI) (done:Int->Int->Prop):Prop where
 nd:cur.Nodup
 mem:∀ a b,(a,b)∈cur↔(a,b)∈S\/(done a b/\(a,c)∈S/\(c,b)∈S)
theorem Ph.l {n c:Int} {S cur:List PI} {done:Int->Int->Prop} (h:Ph n c S cur done) (a:Int):(a,c)∈cur↔(a,c)∈S:=by
 rw [h.mem];constructor
 ·rintro (z | z);exact z;exact z.2.1
 ·exact .inl
theorem Ph.r {n c:Int} {S cur:List PI} {done:Int->Int->Prop} (h:Ph n c S cur done) (b:Int):(c,b)∈cur↔(c,b)∈S:=by
 rw [h.mem];constructor
 ·rintro (z | z);exact z;exact z.2.2
 ·exact .inl
theorem Ph.start {n c:Int} {S:List PI} (nd:S.Nodup):Ph n c S S (fun _ _=>False):=⟨nd,fun a b=>by simp⟩
theorem Ph.weak {n c:Int} {S cur:List PI} {d d':Int->Int->Prop} (h:Ph n c S cur d) (e:∀ a b,d a b↔d' a b):Ph n c S cur d':=⟨h.nd,fun a b=>by rw [h.mem,e]⟩
theorem Ph.yes {n c:Int} {S cur:List PI} {d:Int->Int->Prop} (h:Ph n c S cur d) {a b:Int} (h1:(a,c)∈cur) (h2:(c,b)∈cur):Ph n c S (pG cur (a,b)) (fun x y=>d x y\/(x=a/\y=b)):=by
 refine ⟨kQ h.nd,fun x y=>?_⟩
 rw [lR,h.mem]
 rw [h.l] at h1
 rw [h.r] at h2
 constructor
 ·rintro ((z | z) | z)
  ·exact .inl z
  ·exact .inr ⟨.inl z.1,z.2⟩
  ·cases z;exact .inr ⟨.inr ⟨rfl,rfl⟩,h1,h2⟩
 ·rintro (z | ⟨z | ⟨rfl,rfl⟩,w⟩)
  ·exact .inl (.inl z)
  ·exact .inl (.inr ⟨z,w⟩)
  ·exact .inr rfl
theorem Ph.no {n c:Int} {S cur:List PI} {d:Int->Int->Prop} (h:Ph n c S cur d) {a b:Int} (hn:¬ ((a,c)∈cur/\(c,b)∈cur)):Ph n c S cur (fun x y=>d x y\/(x=a/\y=b)):=by
 refine ⟨h.nd,fun x y=>?_⟩
 rw [h.l,h.r] at hn
 rw [h.mem]
 constructor
 ·rintro (z | z)
  ·exact .inl z
  ·exact .inr ⟨.inl z.1,z.2⟩
 ·rintro (z | ⟨z | ⟨rfl,rfl⟩,w⟩)
  ·exact .inl z
  ·exact .inr ⟨z,w⟩
  ·exact absurd w hn
structure Wa (T:List PI) (n:Int) (k:Int) (S:List PI):Prop where
 nd:S.Nodup
 told:∀ p∈T,p∈S
 cl:∀ a b,(a,b)∈S->Cl T a b
 thr:∀ c,0<=c->c<k->∀ a b,(a,c)∈S->(c,b)∈S->(a,b)∈S
theorem Wa.step {T:List PI} {n k:Int} {S S':List PI} (rg:∀ p∈T,(0<=p.1/\p.1<n)/\0<=p.2/\p.2<n) (h:Wa T n k S) (p:Ph n k S S' (fun a b=>(0<=a/\a<n)/\0<=b/\b<n)):Wa T n (k+1) S':=by
 have all:∀ a b,(a,k)∈S->(k,b)∈S->(a,b)∈S':=fun a b h1 h2 =>
  (p.mem a b).mpr (.inr ⟨⟨((h.cl _ _ h1).rg rg).1,((h.cl _ _ h2).rg rg).2⟩,h1,h2⟩)
 refine ⟨p.nd,fun q hq=>(p.mem q.1 q.2).mpr (.inl (h.told q hq)),fun a b hab=>?_,fun c h0 hc a b h1 h2=>?_⟩
 ·rcases (p.mem a b).mp hab with z | ⟨_,z1,z2⟩
  ·exact h.cl _ _ z
  ·exact (h.cl _ _ z1).tr (h.cl _ _ z2)
 ·by_cases hk:c=k
  ·subst hk
   exact all a b ((p.l a).mp h1) ((p.r b).mp h2)
  ·have hlt:c<k:=by lia
   rcases (p.mem a c).mp h1 with z1 | ⟨_,z1,z2⟩<;>rcases (p.mem c b).mp h2 with w1 | ⟨_,w1,w2⟩
   ·exact (p.mem a b).mpr (.inl (h.thr c h0 hlt a b z1 w1))
   ·exact all a b (h.thr c h0 hlt a k z1 w1) w2
   ·exact all a b z1 (h.thr c h0 hlt k b z2 w1)
   ·exact all a b z1 w2
theorem Wa.fin {T:List PI} {n:Int} {S:List PI} (rg:∀ p∈T,(0<=p.1/\p.1<n)/\0<=p.2/\p.2<n) (h:Wa T n n S) (a b:Int):(a,b)∈S↔Cl T a b:=by
 refine ⟨h.cl a b,fun c=>?_⟩
 induction c with
 | of m=>exact h.told _ m
 | @tr a b c c1 c2 i1 i2=>exact h.thr b (c1.rg rg).2.1 (c1.rg rg).2.2 a c i1 i2
end G
set_option linter.unusedSimpArgs false
namespace G
open PySem L2 Ry
theorem wG (n:Int):((rgI 0 n.toNat).flatMap fun a=>(rgI 0 n.toNat).map fun b=>((a,b):PI)).length=n.toNat*n.toNat:=by
 have:∀ (l m:List Int),(l.flatMap fun a=>m.map fun b=>((a,b):PI)).length=l.length*m.length:=fun l m=>by
  induction l with
  | nil=>simp
  | cons a l ih=>rw [List.flatMap_cons,aF,ih,ab,aD,Nat.add_mul,Nat.one_mul,Nat.add_comm]
 rw [this,eA]
theorem xv {n:Int} {S:List PI} (nd:S.Nodup) (h:∀ p∈S,(0<=p.1/\p.1<n)/\0<=p.2/\p.2<n):S.length<=n.toNat*n.toNat:=by
 rw [<- wG n]
 refine Ms.length_le_of_subset nd fun p hp=>?_
 obtain ⟨h1,h2⟩:=h p hp
 rw [List.mem_flatMap]
 exact ⟨p.1,fD.mpr (by lia),bf.mpr ⟨p.2,fD.mpr (by lia),rfl⟩⟩
theorem yj {n:Int} (hn:0<=n) {pre post:List Int} {x:Int} (e:rgI 0 n.toNat=pre++x::post):0<=x/\x<n:=by
 have:x∈rgI 0 n.toNat:=by rw [e];simp
 have:=fD.mp this
 lia
theorem wf:∀ {m:Nat} {lo:Int} {pre post:List Int} {x:Int},rgI lo m=pre++x::post->x=lo+pre.length
 | 0,lo,pre,post,x,e=>by
   have:=congrArg fw e
   simp [rgI] at this
 | m+1,lo,[],post,x,e=>by
   unfold rgI at e
   injection e with e _
   simp [e]
 | m+1,lo,y::pre,post,x,e=>by
   unfold rgI at e
   rw [List.cons_append] at e
   injection e with _ e
   have:=wf e
   simp only [aD]
   lia
theorem Bw {n:Int} {T:List PI} {X:Da} (hn:0<=n) (hn2:n<=1000) (hX:X=.lst (T.map dP)\/X=.tup (T.map dP)) (rg:∀ p∈T,(0<=p.1/\p.1<n)/\0<=p.2/\p.2<n)
 (hl:∀ S:List PI,S.Nodup->(∀ a b,(a,b)∈S↔Cl T a b)->S.length<=127) :
 ∃ L:List PI,fn__law_all [.int n,X]=some (.lst (L.map dP))/\(L.Pairwise fun p q=>Ms.ltP p q=true)/\∀ a b,(a,b)∈L↔Cl T a b:=by
 have small:∀ S:List PI,S.Nodup->(∀ a b,(a,b)∈S->Cl T a b)->S.length<=1000000:=fun S nd h=>by
  refine bH (xv nd fun p hp=>(h p.1 p.2 hp).rg rg) ?_
  exact bH (rT (show n.toNat<=1000 by lia) (show n.toNat<=1000 by lia)) (by decide)
 have key:∃ d,io 7 g__law_all [.int n,X]=some d/\∃ L:List PI,d=.lst (L.map dP)/\(L.Pairwise fun p q=>Ms.ltP p q=true)/\∀ a b,(a,b)∈L↔Cl T a b:=by
  refine kT ?_
  unfold g__law_all
  have e0:cZ 7 [.int n,X]=[.pu (.int n),.pu X,.no,.no,.no,.no,.no]:=rfl
  rw [e0]
  refine cj (cS (ρ':=[.pu (.int n),.pu X,.ow (dS []),.no,.no,.no,.no]) rfl ?_)
  refine cj ?_
  refine gk (enc:=dP) (xs:=T) (fun pre ρ=>∃ S s3,ρ=[.pu (.int n),.pu X,.ow (dS S),s3,.no,.no,.no]/\S.Nodup/\(∀ p∈S,p∈T)/\∀ p∈pre,p∈S) ?_ ⟨[],_,rfl,.nil,by simp,by simp⟩ ?_ ?_
  ·rcases hX with rfl | rfl<;>rfl
  ·rintro pre x post ρ e ⟨S,s3,rfl,nd,sub,has⟩
   refine ⟨_,rfl,?_⟩
   have hp:=xp x nd (small S nd fun a b z=>.of (sub _ z))
   refine cS (ρ':=[.pu (.int n),.pu X,.ow (dS (pG S x)),.pu (dP x),.no,.no,.no]) (by simp [hp]) ⟨_,_,rfl,kQ nd,fun p z=>?_,fun p z=>?_⟩
   ·rcases lR.mp z with z | z
    ·exact sub p z
    ·subst z;rw [e];simp
   ·rw [lR]
    rcases aG.mp z with z | z
    ·exact .inl (has p z)
    ·exact .inr (by simpa using z)
  rintro ρ ⟨S0,s3,rfl,nd0,sub0,has0⟩
  have rng:∀ (X':Da) (S:List PI) (s3 s4 s5 s6:Sl),mB (aO (aQ 0) ca) [.pu (.int n),.pu X',.ow (dS S),s3,s4,s5,s6]=some ((rgI 0 n.toNat).map Da.int):=fun X' S s3 s4 s5 s6=>by
   simp only [qv,b9,hO,dG,bh]
   rw [if_pos (by lia),dm]
  refine cj ?_
  refine gk (enc:=Da.int) (xs:=rgI 0 n.toNat) (fun pre ρ=>∃ S s4 s5 s6,ρ=[.pu (.int n),.pu X,.ow (dS S),s3,s4,s5,s6]/\Wa T n pre.length S) (rng ..) ⟨S0,_,_,_,rfl,nd0,has0,fun a b z=>.of (sub0 _ z),fun c h0 hc=>by simp at hc;lia⟩ ?_ ?_
  ·rintro prec c postc ρ ec ⟨S,s4,s5,s6,rfl,wa⟩
   have hc:=wf ec
   refine ⟨_,rfl,?_⟩
   show Go (lf _ _ _ [.pu (.int n),.pu X,.ow (dS S),s3,.pu (.int c),s5,s6]) _ _ _ _
   refine gk (enc:=Da.int) (xs:=rgI 0 n.toNat) (fun pre ρ=>∃ cur s5 s6,ρ=[.pu (.int n),.pu X,.ow (dS cur),s3,.pu (.int c),s5,s6]/\Ph n c S cur (fun x y=>x∈pre/\0<=y/\y<n)) (rng ..) ⟨S,_,_,rfl,(Ph.start wa.nd).weak fun a b=>by simp⟩ ?_ ?_
   ·rintro prea a posta ρ ea ⟨cur,s5,s6,rfl,ph⟩
    refine ⟨_,rfl,?_⟩
    show Go (lf _ _ _ [.pu (.int n),.pu X,.ow (dS cur),s3,.pu (.int c),.pu (.int a),s6]) _ _ _ _
    refine gk (enc:=Da.int) (xs:=rgI 0 n.toNat) (fun pre ρ=>∃ cur s6,ρ=[.pu (.int n),.pu X,.ow (dS cur),s3,.pu (.int c),.pu (.int a),s6]/\Ph n c S cur (fun x y=>(x∈prea/\0<=y/\y<n)\/(x=a/\y∈pre))) (rng ..) ⟨cur,_,rfl,ph.weak fun x y=>by simp⟩ ?_ ?_
    ·rintro preb b postb ρ eb ⟨cur,s6,rfl,ph⟩
     refine ⟨_,rfl,?_⟩
     have hcl:∀ x y,(x,y)∈cur->Cl T x y:=fun x y z=>by
      rcases (ph.mem x y).mp z with z | ⟨_,z1,z2⟩
      ·exact wa.cl _ _ z
      ·exact (wa.cl _ _ z1).tr (wa.cl _ _ z2)
     have hput:=xp (a,b) ph.nd (small cur ph.nd hcl)
     have ew:∀ x y:Int,((x∈prea/\0<=y/\y<n)\/(x=a/\y∈preb))\/(x=a/\y=b)↔(x∈prea/\0<=y/\y<n)\/(x=a/\y∈preb++[b]):=fun x y=>by
      rw [aG,am,and_or_left,or_assoc]
     show Go (sIf _ _ _ [.pu (.int n),.pu X,.ow (dS cur),s3,.pu (.int c),.pu (.int a),.pu (.int b)]) _ _ _ _
     refine lZ (b:=decide ((a,c)∈cur)&&decide ((c,b)∈cur)) ?_ (fun q=>?_) fun q=>?_
     ·cases h1:decide ((a,c)∈cur)<;>simp [h1]
     ·rw [aP,decide_eq_true_eq,decide_eq_true_eq] at q
      refine cS (ρ':=[.pu (.int n),.pu X,.ow (dS (pG cur (a,b))),s3,.pu (.int c),.pu (.int a),.pu (.int b)]) ?_ ⟨_,_,rfl,(ph.yes q.1 q.2).weak ew⟩
      simp only [uA,tV,b9,hO,dG,zK,gC,h9,bh,bz,iB,if_true,Option.map_some,aD,dA]
      rw [if_pos (by decide)]
      dsimp only
      rw [show Da.tup [.int a,.int b]=dP (a,b) from rfl,hput]
      rfl
     ·rw [vz,decide_eq_false_iff_not,decide_eq_false_iff_not] at q
      exact cS rfl ⟨_,_,rfl,(ph.no fun z=>q.elim (fun h=>h z.1) fun h=>h z.2).weak ew⟩
    ·rintro ρ ⟨cur,s6,rfl,ph⟩
     refine ⟨_,_,_,rfl,ph.weak fun x y=>?_⟩
     rw [fD,aG,am,or_and_right]
     have:(0<=y/\y<0+(n.toNat:Int))↔0<=y/\y<n:=by lia
     rw [this]
   ·rintro ρ ⟨cur,s5,s6,rfl,ph⟩
    refine ⟨_,_,_,_,rfl,?_⟩
    have wa2:Wa T n (c+1) cur:=by
     have wa':Wa T n c S:=by rw [hc,Int.zero_add];exact wa
     refine wa'.step rg (ph.weak fun x y=>?_)
     rw [fD]
     have:(0<=x/\x<0+(n.toNat:Int))↔0<=x/\x<n:=by lia
     rw [this]
    rw [aF,bx]
    have e2:((prec.length+1:Nat):Int)=c+1:=by lia
    rw [e2]
    exact wa2
  ·rintro ρ ⟨S,s4,s5,s6,rfl,wa⟩
   rw [eA] at wa
   have wa':Wa T n n S:=by
    have:((n.toNat:Nat):Int)=n:=by lia
    rw [this] at wa
    exact wa
   have hfin:=wa'.fin rg
   have hlt:=hl S wa'.nd hfin
   have es:(S.map kP).map (fun k=>Da.tup (k.map fW))=S.map dP:=by rw [aS];rfl
   have hso:fy [(.bo,dS S)]=some (.fr,.lst ((Ms.srt Ms.ltP S).map dP)):=by
    show (match iZ ((S.map kP).map fun k=>Da.tup (k.map fW)) with | some es=>some (Kd.fr,Da.lst es) | none=>none)=_
    rw [es,nT (.inr ⟨hlt,wa'.nd⟩)]
   refine mI (d:=.lst ((Ms.srt Ms.ltP S).map dP)) (by simp [hso]) ⟨_,rfl,Ms.srt_strict Ms.linP wa'.nd,fun a b=>?_⟩
   rw [(Ms.srt_perm S).mem_iff]
   exact hfin a b
 obtain ⟨d,e,L,rfl,h⟩:=key
 exact ⟨L,e,h⟩
end G
set_option linter.unusedSimpArgs false
namespace G
open PySem L2 Ry
theorem kK {α:Type}:∀ {l:List α} {i:Nat} (d:α),i<l.length->(l.getD i d::l.eraseIdx i).Perm l
 | a::l,0,d,_=>.refl _
 | a::l,i+1,d,h=>by
   have ih:=kK (l:=l) (i:=i) d (by simpa using h)
   rw [List.getD_cons_succ,List.eraseIdx_cons_succ]
   exact (List.Perm.swap ..).trans (ih.cons a)
theorem ni (c m:Int):∀ (f:Nat) (k:Int) (left:List Int),left.length=f->m-k=f->(vq c m f k left).Perm left
 | 0,k,left,h,_=>by
   have:left=[]:=cQ h
   subst this;exact .refl _
 | f+1,k,left,h,hm=>by
   unfold vq
   have hi:((c+5*k)*48271%9967%(m-k)).toNat<left.length:=by
    have h1:=pT ((c+5*k)*48271%9967) (show m-k≠0 by lia)
    have h2:=kI ((c+5*k)*48271%9967) (show 0<m-k by lia)
    lia
   refine ((ni c m f (k+1) _ ?_ (by lia)).cons _).trans (kK 0 hi)
   rw [dO hi];lia
theorem yc (c m:Int) (h0:0<=m) (h1:m<=1000):∃ P:List Int,fn__law_perm [.int c,.int m]=some (.lst (P.map Da.int))/\P.Perm (rgI 0 m.toNat):=by
 refine ⟨vq c m m.toNat 0 (rgI 0 m.toNat),?_,ni c m m.toNat 0 _ (eA ..) (by lia)⟩
 show (if 0<=m/\m<=1000 then _ else none)=_
 rw [if_pos ⟨h0,h1⟩]
theorem jI (n:Nat) (lo:Int):(rgI lo n).Nodup:=(gG n lo).imp fun {a b} z w=>by subst w;rw [Ms.linI.irr] at z;cases z
theorem tY {α:Type} {l:List α} {f:α->Da} {i:Nat} {a:α} (h:l[i]?=some a):(l.map f)[i]?=some (f a):=by rw [av,h];rfl
theorem mZ {l:List Int} (nd:l.Nodup) {i j:Nat} {a:Int} (h1:l[i]?=some a) (h2:l[j]?=some a):i=j:=by
 obtain ⟨l1,e1⟩:=al.mp h1
 obtain ⟨l2,e2⟩:=al.mp h2
 exact (d9 nd).mp (e1.trans e2.symm)
def Up (P:List Int) (x y:Int):Prop:=∃ i j:Nat,i<j/\P[i]?=some x/\P[j]?=some y
theorem Up.tr {P:List Int} (nd:P.Nodup) {x y z:Int} (h:Up P x y) (h':Up P y z):Up P x z:=by
 obtain ⟨i,j,l,a,b⟩:=h
 obtain ⟨i',j',l',a',b'⟩:=h'
 have:=mZ nd b a'
 exact ⟨i,j',by lia,a,b'⟩
theorem Up.irr {P:List Int} (nd:P.Nodup) {x:Int}:¬ Up P x x:=fun ⟨i,j,l,a,b⟩=>by
 have:=mZ nd a b
 lia
theorem Cl.up {P:List Int} (nd:P.Nodup) {T:List PI} (h:∀ a b,(a,b)∈T->Up P a b) {a b:Int} (c:Cl T a b):Up P a b:=by
 induction c with
 | of m=>exact h _ _ m
 | tr _ _ i1 i2=>exact i1.tr nd i2
theorem BN (c p m:Int) (hm:0<m):0<=c*48271%p%m/\c*48271%p%m<m:=⟨pT _ (by lia),kI _ hm⟩
theorem qD {n:Int} {U:List PI} (nd:U.Nodup) (rg:∀ p∈U,(0<=p.1/\p.1<n)/\0<=p.2/\p.2<n) (anti:∀ a b,(a,b)∈U->(b,a)∈U->False):2*U.length<=n.toNat*n.toNat:=by
 have h:=xv (n:=n) (S:=U++U.map fun p=>(p.2,p.1)) (bJ.mpr ⟨nd,cL.mpr (nd.imp fun {a b} ne e=>ne (by
  have e1:=congrArg Prod.fst e
  have e2:=congrArg Prod.snd e
  exact Prod.ext e2 e1)),fun p hp q hq e=>by
   obtain ⟨r,hr,rfl⟩:=bf.mp hq
   subst e
   exact anti _ _ hp hr⟩) fun p hp=>by
  rcases aG.mp hp with z | z
  ·exact rg p z
  ·obtain ⟨r,hr,rfl⟩:=bf.mp z
   exact ⟨(rg r hr).2,(rg r hr).1⟩
 rw [aF,ab] at h
 lia
theorem zA (S:List Int) (k most:Int) (hk:0<=k) (h1:1<=most) (h2:most<=12) :
 ∃ (n:Int) (L:List PI),fn__law_yard [.lst (S.map Da.int),.int k,.int most]=some (dY n L)/\1<=n/\n<=most/\Yd n L:=by
 obtain ⟨c0,hc0⟩:∃ c,fn__law_cell [.lst (S.map Da.int),.int k]=some (.int c):=⟨_,mf S k hk⟩
 obtain ⟨c1,hc1⟩:∃ c,fn__law_cell [.lst (S.map Da.int),.int (k+1)]=some (.int c):=⟨_,mf S (k+1) (by lia)⟩
 obtain ⟨c2,hc2⟩:∃ c,fn__law_cell [.lst (S.map Da.int),.int (k+2)]=some (.int c):=⟨_,mf S (k+2) (by lia)⟩
 generalize hn:1+c0*48271%9973%most=n
 have hm0:=qm (c0) 9973 most (by decide) (by lia)
 have hm1:=qm (c0) 9949 6 (by decide) (by decide)
 have hr:=BN (c0) 9973 most (by lia)
 obtain ⟨P,hP,pP⟩:=yc (c1) n (by lia) (by lia)
 have ndP:P.Nodup:=pP.nodup_iff.mpr (jI ..)
 have lenP:P.length=n.toNat:=by rw [pP.length_eq,eA]
 have memP:∀ x,x∈P↔0<=x/\x<n:=fun x=>by rw [pP.mem_iff,fD];lia
 generalize hsh:1+c0*48271%9949%6=sh
 have key:∃ d,io 9 g__law_yard [.lst (S.map Da.int),.int k,.int most]=some d/\∃ L,d=dY n L/\Yd n L:=by
  refine kT ?_
  unfold g__law_yard
  have e0:cZ 9 [.lst (S.map Da.int),.int k,.int most]=[.pu (.lst (S.map Da.int)),.pu (.int k),.pu (.int most),.no,.no,.no,.no,.no,.no]:=rfl
  rw [e0]
  refine cj (cS (ρ':=[.pu (.lst (S.map Da.int)),.pu (.int k),.pu (.int most),.pu (.int n),.no,.no,.no,.no,.no]) (by simp [hc0,hm0,<- hn]) ?_)
  refine cj (cS (ρ':=[.pu (.lst (S.map Da.int)),.pu (.int k),.pu (.int most),.pu (.int n),.pu (.int sh),.no,.no,.no,.no]) (by simp [hc0,hm1,<- hsh]) ?_)
  refine cj (cS (ρ':=[.pu (.lst (S.map Da.int)),.pu (.int k),.pu (.int most),.pu (.int n),.pu (.int sh),.pu (.lst (P.map Da.int)),.no,.no,.no]) (by simp [hc1,hP]) ?_)
  refine cj (cS (ρ':=[.pu (.lst (S.map Da.int)),.pu (.int k),.pu (.int most),.pu (.int n),.pu (.int sh),.pu (.lst (P.map Da.int)),.ow (.lst (([]:List PI).map dP)),.no,.no]) (by simp) ?_)
  refine cj ?_
  have rng:∀ (T:Da) (s7 s8:Sl),mB (aO (aQ 3) ca) [.pu (.lst (S.map Da.int)),.pu (.int k),.pu (.int most),.pu (.int n),.pu (.int sh),.pu (.lst (P.map Da.int)),.ow T,s7,s8]=some ((rgI 0 n.toNat).map Da.int):=fun T s7 s8=>by
   simp only [qv,b9,hO,dG,bh,bz]
   rw [if_pos (by lia),dm]
  refine gk (enc:=Da.int) (xs:=rgI 0 n.toNat) (fun pre ρ=>∃ (T:List PI) (s7 s8:Sl),ρ=[.pu (.lst (S.map Da.int)),.pu (.int k),.pu (.int most),.pu (.int n),.pu (.int sh),.pu (.lst (P.map Da.int)),.ow (.lst (T.map dP)),s7,s8]/\(∀ a b,(a,b)∈T->Up P a b)/\T.length<=pre.length*12) (rng ..) ⟨[],_,_,rfl,by simp,by simp⟩ ?_ ?_
  ·rintro pre a post ρ e ⟨T,s7,s8,rfl,hT,hl⟩
   have ha:=wf e
   have hpa:=yj (by lia) e
   have hpl:pre.length<12:=by lia
   refine ⟨_,rfl,?_⟩
   show Go (lf _ _ _ [.pu (.lst (S.map Da.int)),.pu (.int k),.pu (.int most),.pu (.int n),.pu (.int sh),.pu (.lst (P.map Da.int)),.ow (.lst (T.map dP)),.pu (.int a),s8]) _ _ _ _
   have rng2':∀ (T:Da) (s8:Sl),xn (aO (x2 mz (aQ 7) (xC (.int 1))) (aO (aQ 3) ca)) [.pu (.lst (S.map Da.int)),.pu (.int k),.pu (.int most),.pu (.int n),.pu (.int sh),.pu (.lst (P.map Da.int)),.ow T,.pu (.int a),s8]=some ((rgI (a+1) (n-(a+1)).toNat).map Da.int):=fun T s8=>by
    simp only [xc,b9,hO,dG,kG,zK,xA,bh,bz]
    rw [if_pos (by lia),dm]
   refine gk (enc:=Da.int) (xs:=rgI (a+1) (n-(a+1)).toNat) (fun pre2 ρ=>∃ (T:List PI) (s8:Sl),ρ=[.pu (.lst (S.map Da.int)),.pu (.int k),.pu (.int most),.pu (.int n),.pu (.int sh),.pu (.lst (P.map Da.int)),.ow (.lst (T.map dP)),.pu (.int a),s8]/\(∀ a b,(a,b)∈T->Up P a b)/\T.length<=pre.length*12+pre2.length) (rng2' ..) ⟨T,_,rfl,hT,by simpa using hl⟩ ?_ ?_
   ·rintro pre2 b post2 ρ e2 ⟨T,s8,rfl,hT,hl⟩
    have hb:=wf e2
    have hpb:a<b/\b<n:=by
     have:b∈rgI (a+1) (n-(a+1)).toNat:=by rw [e2];simp
     have:=fD.mp this
     lia
    have hl2:pre2.length<=12:=by lia
    refine ⟨_,rfl,?_⟩
    have hm2:=qm (c2+131*a+17*b) 9941 10 (by decide) (by decide)
    show Go (sIf _ _ _ [.pu (.lst (S.map Da.int)),.pu (.int k),.pu (.int most),.pu (.int n),.pu (.int sh),.pu (.lst (P.map Da.int)),.ow (.lst (T.map dP)),.pu (.int a),.pu (.int b)]) _ _ _ _
    have cm1:nS 131 a=true:=by simp [nS]
    have cm2:nS 17 b=true:=by simp [nS]
    refine lZ (b:=decide ((c2+131*a+17*b)*48271%9941%10<sh)) (by simp [hc2,hm2,cm1,cm2]) (fun _=>?_) fun _=>?_
    ·obtain ⟨x,hx⟩:∃ x,P[a.toNat]?=some x:=⟨P[a.toNat]'(by lia),ae _⟩
     obtain ⟨y,hy⟩:∃ y,P[b.toNat]?=some y:=⟨P[b.toNat]'(by lia),ae _⟩
     have hix:=zH (a:=.pu) (b:=.pu) (show (0:Int)<=a by lia) (tY (f:=Da.int) hx)
     have hiy:=zH (a:=.pu) (b:=.pu) (show (0:Int)<=b by lia) (tY (f:=Da.int) hy)
     refine cS (ρ':=[.pu (.lst (S.map Da.int)),.pu (.int k),.pu (.int most),.pu (.int n),.pu (.int sh),.pu (.lst (P.map Da.int)),.ow (.lst ((T++[(x,y)]).map dP)),.pu (.int a),.pu (.int b)]) ?_ ⟨_,_,rfl,fun u v huv=>?_,?_⟩
     ·simp only [jO,tV,b9,hO,dG,kG,gC,h9,bh,bz,hix,hiy,iB,if_true,Option.map_some,aD,dA,ab,cf]
      rw [if_pos (by decide)]
      dsimp only
      rw [if_pos ⟨rfl,by rw [ab];lia⟩]
      rfl
     ·rcases aG.mp huv with z | z
      ·exact hT u v z
      ·rw [am] at z;cases z;exact ⟨a.toNat,b.toNat,by lia,hx,hy⟩
     ·rw [aF,aF,bx,bx];lia
    ·exact cS rfl ⟨_,_,rfl,hT,by rw [aF];lia⟩
   ·rintro ρ ⟨T,s8,rfl,hT,hl⟩
    rw [eA] at hl
    exact ⟨_,_,_,rfl,hT,by rw [aF,bx];lia⟩
  ·rintro ρ ⟨T,s7,s8,rfl,hT,hl⟩
   have rg:∀ p∈T,(0<=p.1/\p.1<n)/\0<=p.2/\p.2<n:=fun p hp=>by
    obtain ⟨i,j,_,a,b⟩:=hT p.1 p.2 hp
    exact ⟨(memP _).mp (ba a),(memP _).mp (ba b)⟩
   obtain ⟨L,hL,sL,mL⟩:=Bw (X:=.lst (T.map dP)) (show 0<=n by lia) (by lia) (.inl rfl) rg fun U nd mU=>by
    have:=qD (n:=n) nd (fun p hp=>((mU p.1 p.2).mp hp).rg rg) fun a b h1 h2=>((((mU a b).mp h1).tr ((mU b a).mp h2)).up ndP hT).irr ndP
    have h7:n.toNat<=12:=by lia
    have:=bH this (rT h7 h7)
    lia
   refine mI (d:=dY n L) (by simp [frz,hL,dY]) ⟨L,rfl,sL,fun p hp=>((mL p.1 p.2).mp hp).rg rg,fun a ha=>?_,fun a b c h1 h2=>?_⟩
   ·exact (((mL a a).mp ha).up ndP hT).irr ndP
   ·exact (mL a c).mpr (((mL a b).mp h1).tr ((mL b c).mp h2))
 obtain ⟨d,e,L,rfl,h⟩:=key
 exact ⟨n,L,e,by lia,by lia,h⟩
end G
namespace Ry
open PySem PySem.Spec PyProof.Rows L2 G
theorem ux:∀ {n:Nat} {lo:Int} {i:Nat},i<n->(rgI lo n)[i]?=some (lo+i)
 | n+1,lo,0,_=>by show some lo=_;simp
 | n+1,lo,i+1,h=>by
   show (rgI (lo+1) n)[i]?=_
   rw [ux (by lia)]
   congr 1
   lia
theorem nR {α β:Type} (f:α->β):∀ (l:List α) (i:Nat),(l.eraseIdx i).map f=(l.map f).eraseIdx i
 | [],_=>rfl
 | a::l,0=>rfl
 | a::l,i+1=>by
   show f a::(l.eraseIdx i).map f=f a::(l.map f).eraseIdx i
   rw [nR f l i]
theorem tu {K:PySem.W.Frag} {Gp H:Hp} {ds:List Da} {d:Da} {vs:List V} {Q:VK} {y0 y1 y2:Str} (hl:ds.length=2) (sg:bQ Gp H) (tg:Tbs K Gp) (dl:bP K Gp ds vs) (ef:G.fn__law_perm ds=some d) (k:∀ v G' H',Ext Gp H G' H'->Den K G' d v->Q v H') :
 vw (BE (tX K (gS (aO (aQ 1) ca))) (iW 2))
  (CH (rA (mpS [none,none,none,some 0,some 2,some 1]) (iX K (mB (aO (aQ 1) ca))) (iW 1) (fun _ H Q=>Q true H)
    (tBM K "list" sD (oE 4) (zP (tX K (cC G.fn__law_mix (aO (x2 mz (aQ 3) (x2 (oI nS (·*·)) (xC (.int 5)) (aQ 1))) (aO (xC (.int 9967)) (aO (x2 (oI (fun _ _=>true) (·-·)) (aQ 5) (aQ 1)) ca))))) C9)))) { nx:=fun _ H'=>Q V.non H',rt:=Q } (L2.start [y0,y1,y2] vs) H:=by
 have hs:sizeLine=16777216:=sizeLine_eq
 match ds,hl with
 | [d0,d1],_ =>
   have ⟨c,m,e0,e1⟩:∃ c m,d0=.int c/\d1=.int m:=by
    cases d0<;>cases d1<;>first | exact ⟨_,_,rfl,rfl⟩ | cases ef
   subst e0 e1
   have ef:(if 0<=m/\m<=1000 then some (Da.lst ((vq c m m.toNat 0 (rgI 0 m.toNat)).map Da.int)) else none)=some d:=ef
   split at ef
   case isFalse=>cases ef
   case isTrue hm =>
   cases ef
   obtain ⟨v0,r,ev,h0,v1,r1,ev1,h1,er⟩:=dl
   cases (show v0=_ from h0)
   cases (show v1=_ from h1)
   cases (show r1=[] from er)
   subst ev1
   subst ev
   show vw _ _ _ [some (.int c),some (.int m),none] H
   have st0:∀ {B Gx Hx:Hp} {s2:Option V},Tbs K Gx->fm K B Gx Hx [some (.int c),some (.int m),s2] [.pu (.int c),.pu (.int m),.no]:=fun {B Gx Hx s2} tg=>by
    refine ⟨rfl,fun i d e=>?_,fun i d e=>?_,fun i j d d' l _ e=>?_,tg⟩
    ·match i,e with
     | 0,e=>cases e;exact ⟨_,rfl,rfl⟩
     | 1,e=>cases e;exact ⟨_,rfl,rfl⟩
     | 2,e=>cases e
    ·match i,e with
     | 0,e=>cases e
     | 1,e=>cases e
     | 2,e=>cases e
    ·match i,e with
     | 0,e=>cases e
     | 1,e=>cases e
     | 2,e=>cases e
   refine ⟨H,Gp,_,(.fr,.lst (dq 0 m.toNat)),sg,bQ.refl _,st0 tg,?_,fun v G1 H1 E1 r1=>?_⟩
   ·show (if -(2 ^ 62)<=m/\m<=1000000 then _ else none)=_
    rw [if_pos (by lia)]
   obtain ⟨l,o,rfl,hl0,gl0,hl1,xs,rfl,dxs⟩:=r1
   rw [dm] at dxs
   have exs:=bP.ints.mp dxs
   subst exs
   refine ⟨H,G1,_,dq 0 m.toNat,E1.gh,E1.hh,st0 (tg.mono E1.gg),?_,fun J G2 H2 E2 it p hp=>?_⟩
   ·show (if -(2 ^ 62)<=m/\m<2 ^ 62 then _ else none)=_
    rw [if_pos (by lia)]
   have E02:=E1.trans E2
   have hl2:=E2.hh _ _ hl1
   have gl2:G2 l=none:=E2.nw _ _ hl1 rfl gl0
   have hp0:H p=none:=E02.hh.free hp
   have gp2:G2 p=none:=E02.gh.free hp
   have hlp:l≠p:=fun z=>by rw [z,hp] at hl2;cases hl2
   refine ⟨fun i n σ ys H'=>n=m.toNat-i/\i<=m.toNat/\∃ Gc s1 left don,σ=[none,s1,none,some (.int c),some (.ref l),some (.int m)]/\Ext Gp H Gc H'/\bQ G2 Gc/\Gc l=none/\Gc p=none/\H' l=some (.lst (left.map V.int))/\H' p=some (.lst ys)/\ys=don.map V.int/\left.length=m.toNat-i/\don.length=i/\don++vq c m (m.toNat-i) i left=vq c m m.toNat 0 (rgI 0 m.toNat),
    ⟨m.toNat,by simp,aT _,G2,_,rgI 0 m.toNat,[],rfl,E02.trans (Ext.own E02.gh hp),bQ.refl _,gl2,gp2,by rw [aK hlp];exact hl2,aL,rfl,by rw [eA];lia,rfl,by simp⟩,?_⟩
   rintro i n σ ys H' ⟨rfl,hi,Gc,s1,left,don,rfl,Ec,sc,gl,gp,hl',hp',rfl,lleft,ldon,epop⟩
   refine ⟨hp',by rw [ab];lia,?_⟩
   have lenM:(dq 0 m.toNat).length=m.toNat:=by rw [dm,ab,eA]
   by_cases hlt:i<m.toNat
   ·obtain ⟨hgo,hy⟩:=(it i Gc H' sc Ec.gh).1 (Da.int (i:Int)) (by rw [dm,av,ux hlt];simp)
    refine .inr ⟨hgo,fun x H3 yl=>?_⟩
    obtain ⟨G3,E3,dx⟩:=hy x H3 yl
    cases (show x=_ from dx)
    have Ec3:=Ec.trans E3
    have iteX:∀ {A B:Prop},A->(if true=true then A else B):=fun {A B} h=>by rw [if_pos rfl];exact h
    unfold iW
    dsimp only
    refine iteX ?_
    have st3:fm K H G3 H3 [none,some (.int (i:Int)),none,some (.int c),some (.ref l),some (.int m)] [.no,.pu (.int i),.no,.pu (.int c),.no,.pu (.int m)]:=by
     refine ⟨rfl,fun j d e=>?_,fun j d e=>?_,fun j j' d d' l _ e=>?_,tg.mono Ec3.gg⟩
     ·match j,e with
      | 0,e=>cases e
      | 1,e=>cases e;exact ⟨_,rfl,rfl⟩
      | 2,e=>cases e
      | 3,e=>cases e;exact ⟨_,rfl,rfl⟩
      | 4,e=>cases e
      | 5,e=>cases e;exact ⟨_,rfl,rfl⟩
     ·match j,e with
      | 0,e=>cases e
      | 1,e=>cases e
      | 2,e=>cases e
      | 3,e=>cases e
      | 4,e=>cases e
      | 5,e=>cases e
     ·match j,e with
      | 0,e=>cases e
      | 1,e=>cases e
      | 2,e=>cases e
      | 3,e=>cases e
      | 4,e=>cases e
      | 5,e=>cases e
    have hl3:=E3.hh _ _ hl'
    refine ⟨_,rfl,.inl ⟨rfl,_,SqL.of hl3⟩,H,G3,_,(.pu,.int ((c+5*(i:Int))*48271%9967%(m-i))),Ec3.gh,Ec3.hh,st3,?_,fun v G4 H4 E4 r4=>?_⟩
    ·have hmix:=qm (c+5*(i:Int)) 9967 (m-i) (by decide) (by lia)
     have hcm:nS 5 (i:Int)=true:=by simp [nS]
     simp [hmix,hcm]
    ·cases (show v=_ from r4)
     generalize hidx:(c+5*(i:Int))*48271%9967%(m-i)=idx
     have hmp:0<m-(i:Int):=by lia
     have hi0:0<=idx:=by rw [<- hidx];exact pT _ (by lia)
     have hi1:idx<m-i:=by rw [<- hidx];exact kI _ hmp
     have hlt2:idx.toNat<left.length:=by lia
     have hl4:=E4.hh _ _ hl3
     have hp4:=E4.hh _ _ (E3.hh _ _ hp')
     refine ⟨l,left.map V.int,idx,idx.toNat,.int (left.getD idx.toNat 0),rfl,rfl,hl4,by lia,by lia,?_,?_,?_⟩
     ·rw [ab]
      exact (oM (by unfold ixN;rw [if_pos hi0,if_pos (by lia)])).1
     ·rw [av,getD_some hlt2 0];rfl
     ·have E34:=E3.trans E4
      have gl4:G4 l=none:=E34.nw _ _ hl' rfl gl
      have gp4:G4 p=none:=E34.nw _ _ hp' rfl gp
      have Ec4:=Ec.trans E34
      refine ⟨by rw [aK hlp.symm];exact hp4,m.toNat-(i+1),by lia,rfl,hlt,G4,_,left.eraseIdx idx.toNat,don++[left.getD idx.toNat 0],rfl,(Ec4.mut hl0 gl4).mut hp0 gp4,sc.trans E34.gg,gl4,gp4,?_,aL,by rw [cf];rfl,?_,by rw [aF,bx,ldon],?_⟩
      ·rw [aK hlp,aL,nR]
      ·rw [dO hlt2];lia
      ·rw [<- epop]
       have ef:m.toNat-i=(m.toNat-(i+1))+1:=by lia
       rw [ef]
       show _=don++(left.getD ((c+5*(i:Int))*48271%9967%(m-(i:Int))).toNat 0::vq c m (m.toNat-(i+1)) ((i:Int)+1) (left.eraseIdx ((c+5*(i:Int))*48271%9967%(m-(i:Int))).toNat))
       rw [hidx,bg]
       rfl
   ·have ei:i=m.toNat:=by lia
    subst ei
    refine .inl ⟨(it m.toNat Gc H' sc Ec.gh).2 lenM,?_⟩
    rw [mF] at epop
    have epop':don=vq c m m.toNat 0 (rgI 0 m.toNat):=by rw [<- epop];exact (ce _).symm
    refine k _ (upd Gc p (.lst (don.map V.int))) H' ⟨Ec.hh,Ec.gg.trans (bB gp),fun b u z=>?_,fun b u z t w=>?_⟩ ⟨p,_,rfl,SqL.of aL,by rw [<- epop'];exact bP.ints.mpr rfl⟩
    ·by_cases hb:b=p
     ·subst hb;rw [aL] at z;rw [<- z];exact hp'
     ·rw [aK hb] at z;exact Ec.gh b u z
    ·rw [aK (bu z hp0)];exact Ec.nw b u z t w
end Ry
set_option linter.unusedSimpArgs false
namespace Ry
open PySem L2
def e6:UD->Int->List Int
 | [],_=>[]
 | (x,l)::D,a=>if x=a then l else e6 D a
theorem wg {l:List Int} {b x:Int}:x∈mX l b↔x∈l\/x=b:=by
 unfold mX
 split
 ·constructor
  ·exact .inl
  ·rintro (h | h)
   ·exact h
   ·subst h;assumption
 ·rw [aG,am]
theorem mt:∀ (D:UD) (a b x:Int),e6 (fZ D a b) x=if a=x then mX (e6 D a) b else e6 D x
 | [],a,b,x=>by
   show (if a=x then [b] else [])=_
   split<;>rfl
 | (y,l)::D,a,b,x=>by
   by_cases h:y=a
   ·subst h
    show e6 (if y=y then (y,mX l b)::D else _) x=_
    rw [if_pos rfl]
    show (if y=x then mX l b else e6 D x)=if y=x then mX (if y=y then l else _) b else if y=x then l else e6 D x
    rw [if_pos rfl]
    split<;>rfl
   ·show e6 (if y=a then _ else (y,l)::fZ D a b) x=_
    rw [if_neg h]
    show (if y=x then l else e6 (fZ D a b) x)=if a=x then mX (if y=a then l else e6 D a) b else if y=x then l else e6 D x
    rw [if_neg h,mt D a b x]
    by_cases h2:a=x
    ·subst h2;rw [if_neg h,if_pos rfl,if_pos rfl]
    ·rw [if_neg h2,if_neg h2]
theorem lu:∀ (D:UD) (a b x:Int),x∈(fZ D a b).map (·.1)↔x∈D.map (·.1)\/x=a
 | [],a,b,x=>by simp [fZ]
 | (y,l)::D,a,b,x=>by
   unfold fZ
   split
   ·rename_i h
    subst h
    simp only [ax,ag]
    constructor
    ·exact .inl
    ·rintro (z | z)
     ·exact z
     ·exact .inl z
   ·rw [ax,ag,ax,ag,lu D a b x,or_assoc]
theorem mJ:∀ (D:UD) (a b:Int),(D.map (·.1)).Nodup->((fZ D a b).map (·.1)).Nodup
 | [],a,b,_=>by simp [fZ]
 | (y,l)::D,a,b,h=>by
   unfold fZ
   split
   ·exact h
   ·rename_i hne
    rw [ax,be] at h ⊢
    refine ⟨fun z=>?_,mJ D a b h.2⟩
    rcases (lu D a b y).mp z with z | z
    ·exact h.1 z
    ·exact hne z
structure Ck (T:List PI) (D:UD):Prop where
 get:∀ a b,b∈e6 D a↔(a,b)∈T
 key:∀ a,a∈D.map (·.1)↔∃ b,(a,b)∈T
 nd:(D.map (·.1)).Nodup
 ndv:∀ a,(e6 D a).Nodup
theorem re {l:List Int} {b:Int} (h:l.Nodup):(mX l b).Nodup:=by
 unfold mX
 split
 ·exact h
 ·rename_i hn
  exact bJ.mpr ⟨h,aY _ _,fun a ha c hc=>by rw [am] at hc;subst hc;intro z;subst z;exact hn ha⟩
theorem p9:∀ (T T0:List PI) (D:UD),Ck T0 D->Ck (T0++T) (T.foldl (fun D p=>fZ D p.1 p.2) D)
 | [],T0,D,h=>by rw [ce];exact h
 | p::T,T0,D,h=>by
   have:=p9 T (T0++[p]) (fZ D p.1 p.2) ⟨fun a b=>?_,fun a=>?_,mJ _ _ _ h.nd,fun a=>?_⟩
   ·rw [bg] at this;exact this
   ·rw [mt]
    by_cases e:p.1=a
    ·subst e
     rw [if_pos rfl,wg,h.get,aG,am]
     constructor
     ·rintro (z | z)
      ·exact .inl z
      ·subst z;exact .inr rfl
     ·rintro (z | z)
      ·exact .inl z
      ·right;rw [<- z]
    ·rw [if_neg e,h.get,aG,am]
     constructor
     ·exact .inl
     ·rintro (z | z)
      ·exact z
      ·exact absurd (by rw [<- z]) e
   ·rw [lu,h.key]
    constructor
    ·rintro (⟨b,z⟩ | z)
     ·exact ⟨b,dQ _ z⟩
     ·subst z;exact ⟨p.2,by simp⟩
    ·rintro ⟨b,z⟩
     rcases aG.mp z with z | z
     ·exact .inl ⟨b,z⟩
     ·rw [am] at z;right;rw [<- z]
   ·rw [mt]
    split
    ·exact re (h.ndv _)
    ·exact h.ndv a
theorem Bi (T:List PI):Ck T (upp T):=by
 exact p9 T [] [] ⟨by simp [e6],by simp,.nil,fun a=>.nil⟩
theorem qa:∀ T:List PI,cB (T.map dP)=some T
 | []=>rfl
 | p::T=>by show (cB (T.map dP)).map ((p.1,p.2)::·)=_;rw [qa T];rfl
theorem xa {T:List PI} (h:T.length<=1000):fn_uppers_of [.lst (T.map dP)]=some (dU (upp T)):=by
 unfold fn_uppers_of;dsimp only;rw [qa];dsimp only;rw [if_pos h]
theorem AV:∀ (D:UD) (a:Int),atK (D.map fun e=>(Sum.inl e.1:Key)) (D.map fun e=>dD e.2) (Sum.inl a)=if a∈D.map (·.1) then some (dD (e6 D a)) else none
 | [],a=>by simp [atK]
 | (y,l)::D,a=>by
   show (if (Sum.inl y:Key)=Sum.inl a then some (dD l) else atK (D.map fun e=>(Sum.inl e.1:Key)) (D.map fun e=>dD e.2) (Sum.inl a))=_
   by_cases h:y=a
   ·subst h
    rw [if_pos rfl,if_pos (by simp)]
    simp [e6]
   ·rw [if_neg (fun z=>h (Sum.inl.inj z)),AV D a]
    have e1:(a∈((y,l)::D).map (·.1))↔a∈D.map (·.1):=by
     rw [ax,ag]
     constructor
     ·rintro (z | z)
      ·exact absurd z.symm h
      ·exact z
     ·exact .inr
    have e2:e6 ((y,l)::D) a=e6 D a:=by show (if y=a then l else e6 D a)=_;rw [if_neg h]
    rw [e2]
    by_cases h3:a∈D.map (·.1)
    ·rw [if_pos h3,if_pos (e1.mpr h3)]
    ·rw [if_neg h3,if_neg (fun z=>h3 (e1.mp z))]
theorem o7 (D:UD) (a:Int):jv (dU D) (.int a)=some (if a∈D.map (·.1) then some (dD (e6 D a)) else none):=by
 show some (atK _ _ (Sum.inl a))=_
 rw [AV]
theorem iN:∀ {D:UD} {a:Int},a∉D.map (·.1)->e6 D a=[]
 | [],_,_=>rfl
 | (y,l)::D,a,h=>by
   rw [ax,ag] at h
   unfold e6
   rw [if_neg (fun z=>h (.inl z.symm)),iN fun z=>h (.inr z)]
theorem BR (D:UD) (a:Int) (f g:Rho->Option Rv) (ρ:Rho) {k k':Kd} (hf:f ρ=some (k,dU D)) (hg:g ρ=some (k',.int a)) :
 gu (kf f g (xC2 (.fr,.dK [] []))) ρ=some (.pu,dD (e6 D a)):=by
 simp only [qw,uc,hf,hg,Aw,o7]
 by_cases h:a∈D.map (·.1)
 ·rw [if_pos h]
 ·rw [if_neg h,iN h];rfl
theorem xU {f:Rho->Option Rv} {ρ:Rho} {l:List Int} (h:f ρ=some (.pu,dD l)):b7 f ρ=some (l.map Da.int):=by
 simp only [jH,h,dD,aS]
 rfl
theorem AL:∀ (l:List Int) (a:Int),atK (l.map (Sum.inl:Int->Key)) (l.map fun _=>Da.bl true) (Sum.inl a)=if a∈l then some (.bl true) else none
 | [],a=>by simp [atK]
 | y::l,a=>by
   show (if (Sum.inl y:Key)=Sum.inl a then some (Da.bl true) else atK (l.map (Sum.inl:Int->Key)) (l.map fun _=>Da.bl true) (Sum.inl a))=_
   by_cases h:y=a
   ·subst h;rw [if_pos rfl,if_pos (by simp)]
   ·rw [if_neg (fun z=>h (Sum.inl.inj z)),AL l a]
    by_cases h3:a∈l
    ·rw [if_pos h3,if_pos (ai _ h3)]
    ·rw [if_neg h3,if_neg (fun z=>(ag.mp z).elim (fun w=>h w.symm) h3)]
theorem Df (n:Bool) (a b:Kd) (l:List Int) (x:Int):oIn n (a,.int x) (b,dD l)=some (.pu,.bl (if n then !decide (x∈l) else decide (x∈l))):=by
 unfold oIn uM
 dsimp only
 rw [show jv (dD l) (.int x)=some (if x∈l then some (.bl true) else none) from by show some (atK _ _ (Sum.inl x))=_;rw [AL]]
 by_cases h:x∈l<;>simp [h]
theorem C4 {a b:Kd} {D:UD} {x:Int} (h:x∈D.map (·.1)):oIt (a,dU D) (b,.int x)=some (.pu,dD (e6 D x)):=by
 unfold oIt oIx tN
 dsimp only
 rw [o7,if_pos h]
 rfl
end Ry
namespace G
open PySem L2 Ry
def rP:Rho->Res:=(eG (Ae (eV zq (aQ 0)) (DG (eV w9 (aQ 0)))))
def eE:List Da->Option Da:=io 1 rP
end G
set_option linter.unusedSimpArgs false
namespace Ry
open PySem L2
@[simp] theorem Ao (n:Bool) (a b:Kd) (i j:Int):oEq n (a,.int i) (b,.int j)=some (.pu,.bl (if n then !(i == j) else i == j)):=by
  unfold oEq
  rw [if_pos (by rfl)]
  rfl
theorem ke:∀ bs:List Bool,js (bs.map Da.bl)=some bs
 | []=>rfl
 | b::bs=>by unfold js;rw [ax];dsimp only;rw [ke bs];rfl
@[simp] theorem pf {α:Type} (k:Kd) (f:α->Bool) (xs:List α):vo [(k,.lst (xs.map fun x=>Da.bl (f x)))]=some (.pu,.bl (xs.all f)):=by
  have:xs.map (fun x=>Da.bl (f x))=(xs.map f).map Da.bl:=by rw [aS];rfl
  rw [this];unfold vo;dsimp only;rw [ke];dsimp only;rw [vE];rfl
@[simp] theorem fAny_bl {α:Type} (k:Kd) (f:α->Bool) (xs:List α):DB [(k,.lst (xs.map fun x=>Da.bl (f x)))]=some (.pu,.bl (xs.any f)):=by
  have:xs.map (fun x=>Da.bl (f x))=(xs.map f).map Da.bl:=by rw [aS];rfl
  rw [this];unfold DB;dsimp only;rw [ke];dsimp only;rw [List.any_map];rfl
theorem qP {n:Nat} {g:Rho->Res} {ds:List Da} {ρ:Rho} {d:Da} (e0:cZ n ds=ρ) (h:g ρ=.rt d):io n g ds=some d:=by unfold io;rw [e0,h]
theorem dE {α:Type} (xs:List α):xs.filter (fun _=>true)=xs:=by simp
theorem cX {α:Type} {enc:α->Da} {ix:List (Option Nat)} {fi:Rho->Option (List Da)} {c:Rho->Option Bool} {f:Rho->Option Rv} {i:Nat} {ρ:Rho} {xs:List α} {p:α->Bool} {e:α->Da} (hi:fi ρ=some (xs.map enc)) (hl:xs.length<=1000000)
 (h:∀ x∈xs,c ((mpR ix ρ).set i (.pu (enc x)))=some (p x)/\(p x=true->∃ r,f ((mpR ix ρ).set i (.pu (enc x)))=some r/\cD r=true/\r.2=e x)):d8 ix fi (tgN i) c f ρ=some (.fr,.lst ((xs.filter p).map e)):=by
 unfold d8
 rw [hi]
 dsimp only
 rw [if_pos (by rw [ab];exact hl),uI h]
theorem n5 {α:Type} {enc:α->Da} {ix:List (Option Nat)} {fi:Rho->Option (List Da)} {c:Rho->Option Bool} {f:Rho->Option Rv} {i j:Nat} {ρ:Rho} {xs:List α} {p:α->Bool} {e a b:α->Da} (hi:fi ρ=some (xs.map enc)) (hl:xs.length<=1000000)
 (h:∀ x∈xs,c (((mpR ix ρ).set i (.pu (a x))).set j (.pu (b x)))=some (p x)/\(p x=true->∃ r,f (((mpR ix ρ).set i (.pu (a x))).set j (.pu (b x)))=some r/\cD r=true/\r.2=e x)) (hij:i≠j) (henc:∀ x,enc x=.tup [a x,b x]):d8 ix fi (tgT 2 (fA (tgN i) (fA (tgN j) kC))) c f ρ=some (.fr,.lst ((xs.filter p).map e)):=by
 unfold d8
 rw [hi]
 dsimp only
 rw [if_pos (by rw [ab];exact hl),v9 h hij henc]
end Ry
namespace G
open PySem L2 Ry
@[simp] theorem whole_int (i:Int):eE [.int i]=some (.bl true):=rfl
@[simp] theorem whole_bl (i:Bool):eE [.bl i]=some (.bl false):=rfl
@[simp] theorem whole_non:eE [.non]=some (.bl false):=rfl
@[simp] theorem whole_str (i:Str):eE [.str i]=some (.bl false):=rfl
@[simp] theorem whole_tup (i:List Da):eE [.tup i]=some (.bl false):=rfl
@[simp] theorem whole_lst (i:List Da):eE [.lst i]=some (.bl false):=rfl
end G
set_option linter.unusedSimpArgs false
namespace G
open PySem L2 Ry
end G
set_option linter.unusedSimpArgs false
namespace Ry
open PySem L2
theorem Dc (p q:PI):PyData.eqv (toP (dP p)) (toP (dP q))=decide (p=q):=by
 show (PyData.eqv (.int p.1) (.int q.1)&&(PyData.eqv (.int p.2) (.int q.2)&&true))=_
 rw [eR]
 simp only [PyData.eqv,Bool.and_true,aP,beq_iff_eq,decide_eq_true_eq]
 exact ⟨fun h=>Prod.ext h.1 h.2,fun h=>by subst h;exact ⟨rfl,rfl⟩⟩
theorem BL (p:PI):(toP (dP p)).canLay0=true:=rfl
theorem yr (p:PI):(toP (dP p)).depth<=60:=by
 simp [dP,toP,i8,PyData.depth,PyData.depthAll]
theorem qg:∀ T:List PI,PyData.canLayAll0 (i8 (T.map dP))=true
 | []=>rfl
 | p::T=>by
   show (PyData.canLay0 (toP (dP p))&&PyData.canLayAll0 (i8 (T.map dP)))=true
   rw [BL,qg T];rfl
theorem yP (p:PI):∀ T:List PI,inD (dP p) (T.map dP)=decide (p∈T)
 | []=>rfl
 | q::T=>by
   have ih:=yP p T
   unfold inD at ih ⊢
   show (PyData.eqv (toP (dP q)) (toP (dP p))||(i8 (T.map dP)).any fun y=>PyData.eqv y (toP (dP p)))=_
   rw [ih,Dc,eR]
   simp only [eQ,decide_eq_true_eq,ag]
   exact ⟨fun h=>h.imp (fun z=>z.symm) id,fun h=>h.imp (fun z=>z.symm) id⟩
theorem xM (p:PI) (T:List PI):uB (dP p) (T.map dP)=true:=by
 unfold uB
 rw [BL,qg]
 have:=yr p
 simp only [r6,r8,decide_eq_true_eq]
 lia
theorem CG (n:Bool) (a b:Kd) (p:PI) (T:List PI):oIn n (a,dP p) (b,.tup (T.map dP))=some (.pu,.bl (if n then !decide (p∈T) else decide (p∈T))):=by
 unfold oIn uM zE
 dsimp only
 rw [xM,if_pos rfl,yP]
 rfl
theorem C1 (n:Bool) (a b:Kd) (p:PI) (T:List PI):oIn n (a,dP p) (b,.lst (T.map dP))=some (.pu,.bl (if n then !decide (p∈T) else decide (p∈T))):=by
 unfold oIn uM zE
 dsimp only
 rw [xM,if_pos rfl,yP]
 rfl
@[simp] theorem Ar (n:Bool) (a b:Kd) (x y:Int) (T:List PI):oIn n (a,.tup [.int x,.int y]) (b,.tup (T.map dP))=some (.pu,.bl (if n then !decide ((x,y)∈T) else decide ((x,y)∈T))):=CG n a b (x,y) T
@[simp] theorem oIn_L2 (n:Bool) (a b:Kd) (x y:Int) (T:List PI):oIn n (a,.tup [.int x,.int y]) (b,.lst (T.map dP))=some (.pu,.bl (if n then !decide ((x,y)∈T) else decide ((x,y)∈T))):=C1 n a b (x,y) T
end Ry
namespace G
open PySem L2 Ry
end G
namespace G3
open PySem L2 Ry G
end G3
set_option linter.unusedSimpArgs false
namespace G3
open PySem L2 Ry G
def dC (C:List PI):Da:=.dK (C.map fun e=>Sum.inl e.1) (C.map fun e=>.int e.2)
def dh (C:List PI):List Int:=C.map (·.1)
def cE:List PI->Int->Int
 | [],_=>0
 | (y,x)::C,a=>if y=a then x else cE C a
theorem A7:∀ (C:List PI) (a:Int),atK (C.map fun e=>(Sum.inl e.1:Key)) (C.map fun e=>Da.int e.2) (Sum.inl a)=if a∈dh C then some (.int (cE C a)) else none
 | [],a=>by simp [atK,dh]
 | (y,x)::C,a=>by
   show (if (Sum.inl y:Key)=Sum.inl a then some (Da.int x) else atK (C.map fun e=>(Sum.inl e.1:Key)) (C.map fun e=>Da.int e.2) (Sum.inl a))=_
   by_cases h:y=a
   ·subst h
    rw [if_pos rfl,if_pos (by simp [dh])]
    simp [cE]
   ·rw [if_neg (fun z=>h (Sum.inl.inj z)),A7 C a]
    have e1:(a∈dh ((y,x)::C))↔a∈dh C:=by
     unfold dh
     rw [ax,ag]
     constructor
     ·rintro (z | z)
      ·exact absurd z.symm h
      ·exact z
     ·exact .inr
    have e2:cE ((y,x)::C) a=cE C a:=by show (if y=a then x else cE C a)=_;rw [if_neg h]
    rw [e2]
    by_cases h3:a∈dh C
    ·rw [if_pos h3,if_pos (e1.mpr h3)]
    ·rw [if_neg h3,if_neg (fun z=>h3 (e1.mp z))]
theorem ue (C:List PI) (a:Int):jv (dC C) (.int a)=some (if a∈dh C then some (.int (cE C a)) else none):=by
 show some (atK _ _ (Sum.inl a))=_
 rw [A7]
theorem Dj (n:Bool) (a b:Kd) (C:List PI) (x:Int):oIn n (a,.int x) (b,dC C)=some (.pu,.bl (if n then !decide (x∈dh C) else decide (x∈dh C))):=by
 unfold oIn uM
 dsimp only
 rw [ue]
 by_cases h:x∈dh C<;>simp only [h,if_true,if_false]<;>cases n<;>rfl
theorem Dq {a b:Kd} {C:List PI} {x:Int} (h:x∈dh C):oIt (a,dC C) (b,.int x)=some (.pu,.int (cE C x)):=by
 unfold oIt oIx tN
 dsimp only
 rw [ue,if_pos h]
 rfl
theorem ss:∀ (C:List PI) (y x:Int),y∉dh C->eS (C.map fun e=>(Sum.inl e.1:Key)) (Sum.inl y)=(C++[(y,x)]).map (fun e=>(Sum.inl e.1:Key)) /\
 eW (C.map fun e=>(Sum.inl e.1:Key)) (C.map fun e=>Da.int e.2) (Sum.inl y) (.int x)=(C++[(y,x)]).map fun e=>Da.int e.2
 | [],y,x,_=>⟨rfl,rfl⟩
 | (a,b)::C,y,x,h=>by
   have hne:a≠y:=fun z=>h (by simp [dh,z])
   obtain ⟨i1,i2⟩:=ss C y x fun z=>h (by unfold dh at *;rw [ax];exact ai _ z)
   have hk:¬ (Sum.inl a:Key)=Sum.inl y:=fun z=>hne (Sum.inl.inj z)
   constructor
   ·show (if (Sum.inl a:Key)=Sum.inl y then _ else Sum.inl a::eS (C.map fun e=>(Sum.inl e.1:Key)) (Sum.inl y))=_
    rw [if_neg hk,i1];rfl
   ·show (if (Sum.inl a:Key)=Sum.inl y then _ else Da.int b::eW (C.map fun e=>(Sum.inl e.1:Key)) (C.map fun e=>Da.int e.2) (Sum.inl y) (.int x))=_
    rw [if_neg hk,i2];rfl
theorem yF {C:List PI} (h:(dh C).Nodup):(C.map fun e=>(Sum.inl e.1:Key)).Nodup:=by
 have e:(C.map fun e=>(Sum.inl e.1:Key))=(dh C).map Sum.inl:=by unfold dh;rw [aS];rfl
 rw [e]
 exact cL.mpr (h.imp fun {a b} z w=>z (Sum.inl.inj w))
theorem xJ {C:List PI} {y x:Int} (h:y∉dh C) (nd:(dh C).Nodup) (hl:C.length<=1000000):Aa (dC C) (.int y) (.int x)=some (dC (C++[(y,x)])):=by
 obtain ⟨i1,i2⟩:=ss C y x h
 show (if (C.map fun e=>(Sum.inl e.1:Key)).Nodup/\(C.map fun e=>(Sum.inl e.1:Key)).length<=1000000 then some (Da.dK (eS (C.map fun e=>(Sum.inl e.1:Key)) (Sum.inl y)) (eW (C.map fun e=>(Sum.inl e.1:Key)) (C.map fun e=>Da.int e.2) (Sum.inl y) (.int x))) else none)=_
 rw [if_pos ⟨yF nd,by rw [ab];exact hl⟩,i1,i2]
 rfl
theorem lK (C:List PI) (y x:Int):dh (C++[(y,x)])=dh C++[y]:=by unfold dh;rw [cf];rfl
theorem dF {C:List PI} {y x a:Int}:a∈dh (C++[(y,x)])↔a∈dh C\/a=y:=by rw [lK,aG,am]
theorem fJ:∀ {C:List PI} {y x a:Int},a∈dh C->cE (C++[(y,x)]) a=cE C a
 | [],_,_,a,h=>by cases h
 | (b,c)::C,y,x,a,h=>by
   show (if b=a then c else cE (C++[(y,x)]) a)=if b=a then c else cE C a
   by_cases e:b=a
   ·rw [if_pos e,if_pos e]
   ·rw [if_neg e,if_neg e]
    unfold dh at h
    rw [ax,ag] at h
    exact fJ (h.resolve_left fun z=>e z.symm)
theorem jJ:∀ {C:List PI} {y x:Int},y∉dh C->cE (C++[(y,x)]) y=x
 | [],y,x,_=>by simp [cE]
 | (b,c)::C,y,x,h=>by
   unfold dh at h
   rw [ax,ag] at h
   show (if b=y then c else cE (C++[(y,x)]) y)=x
   rw [if_neg (fun z=>h (.inl z.symm)),jJ fun z=>h (.inr z)]
end G3
set_option linter.unusedSimpArgs false
namespace G3
open PySem L2 Ry G
theorem yo {C:List PI} {k:Kd} (h:C.length<64):fy [(k,dC C)]=some (.fr,.lst ((Ms.srt Ms.ltI (dh C)).map Da.int)):=by
 have e:(C.map fun e=>(Sum.inl e.1:Key)).map fW=(dh C).map Da.int:=by unfold dh;rw [aS,aS];rfl
 unfold fy dC
 dsimp only
 rw [e,rJ (by unfold dh;rw [ab];exact h)]
end G3
set_option linter.unusedSimpArgs false
namespace Ry
open PySem L2
theorem lm:∀ R:List Int,PyData.depthAll (i8 (R.map Da.int))=0
 | []=>by simp [i8,PyData.depthAll]
 | p::T=>by
   show max (PyData.depth (.int p)) (PyData.depthAll (i8 (T.map Da.int)))=0
   rw [lm T];simp [PyData.depth]
end Ry
namespace G3
open PySem L2 Ry G
end G3
namespace GW
open PySem L2 Ry G
def g_lowers_of:Rho->Res:=(eG (cC fn_uppers_of (aO (d8 [none,none,none] (b7 (gu (aQ 0))) (tgT 2 (fA (tgN 1) (fA (tgN 2) kC))) (fun _=>some true) (oD (aO (aQ 2) (aO (aQ 1) ca)))) ca)))
def fn_lowers_of:List Da->Option Da:=io 1 g_lowers_of
def g_upwards:Rho->Res:=(eG (mT [none,some 1,none] 0 (mB (aO (aQ 0) ca)) (xB m9 (aO (kf (aQ 1) (aQ 0) (xC2 (.fr,.dK [] []))) ca))))
def fn_upwards:List Da->Option Da:=io 2 g_upwards
def g__law_below:Rho->Res:=(eG (d8 [none,none,none,some 1] (b7 (gu (x2 oIt (aQ 0) (xC (.int 1))))) (tgT 2 (fA (tgN 1) (fA (tgN 2) kC))) (tb (x2 (oEq false) (aQ 2) (aQ 3))) (aQ 1)))
def fn__law_below:List Da->Option Da:=io 2 g__law_below
end GW
namespace GW
open Ry
def sm (R:List Int) (f:Int->Int):Int:=(R.map f).sum
theorem sm_nil (f:Int->Int):sm [] f=0:=rfl
section
variable {n:Int} {L:List PI} {w:Int->Int->Int}
end
end GW
set_option linter.unusedSimpArgs false
namespace GW
open PySem L2 Ry G G3
def sw (p:PI):PI:=(p.2,p.1)
def low (L:List PI):UD:=upp (L.map sw)
theorem AM {L:List PI} {a b:Int}:(a,b)∈L.map sw↔(b,a)∈L:=by
 constructor
 ·intro h
  obtain ⟨p,hp,e⟩:=bf.mp h
  have h1:p.2=a:=congrArg Prod.fst e
  have h2:p.1=b:=congrArg Prod.snd e
  rw [<- h1,<- h2];exact hp
 ·exact fun h=>bf.mpr ⟨(b,a),h,rfl⟩
theorem xI (L:List PI):Ck (L.map sw) (low L):=Bi _
theorem fz (L:List PI) (a b:Int):b∈e6 (low L) a↔(b,a)∈L:=by rw [(xI L).get,AM]
theorem xN (L:List PI) (a:Int):(e6 (low L) a).Nodup:=(xI L).ndv a
theorem yx (L:List PI) (a:Int):(e6 (low L) a).length<=L.length:=by
 have h1:(e6 (low L) a).length<=(L.map (·.1)).length:=Ms.length_le_of_subset (xN L a) fun x hx=>bf.mpr ⟨_,(fz L a x).mp hx,rfl⟩
 rw [ab] at h1
 exact h1
theorem n8 {L:List PI} (hl:L.length<=1000):fn_lowers_of [.tup (L.map dP)]=some (dU (low L)):=by
 have hc:=n5 (enc:=dP) (xs:=L) (ix:=[none,none,none]) (fi:=b7 (gu (aQ 0))) (i:=1) (j:=2) (c:=fun _=>some true) (f:=oD (aO (aQ 2) (aO (aQ 1) ca))) (ρ:=[.pu (.tup (L.map dP))]) (p:=fun _=>true) (e:=fun p=>dP (sw p)) (a:=fun p=>.int p.1) (b:=fun p=>.int p.2)
  (by simp) (by lia) (fun p hp=>⟨rfl,fun _=>⟨(.pu,dP (sw p)),by simp [mpR,dP,sw],rfl,rfl⟩⟩) (by decide) (fun _=>rfl)
 rw [dE] at hc
 refine qP (ρ:=[.pu (.tup (L.map dP))]) rfl ?_
 have em:(L.map fun p=>dP (sw p))=(L.map sw).map dP:=by rw [aS];rfl
 rw [em] at hc
 simp only [g_lowers_of,jc,yX,b9,dG,hc,gC,h9,sB,wV,Bool.not_false,if_true,Option.map_some]
 rw [xa (by rw [ab];exact hl)]
 rfl
theorem qz {α:Type} {lam:Da->Option Da} {enc e:α->Da}:∀ {xs:List α},(∀ x∈xs,lam (enc x)=some (e x))->vu lam (xs.map enc)=some (xs.map e)
 | [],_=>rfl
 | x::xs,h=>by
   have ih:=qz (lam:=lam) (enc:=enc) (e:=e) (xs:=xs) fun y hy=>h y (ai _ hy)
   show (match lam (enc x) with | none=>none | some r=>match vu lam (xs.map enc) with | none=>none | some rs=>some (r::rs))=_
   rw [h x ak,ih]
   rfl
theorem jS {α:Type} {xs:List α} {d:α} {q:List Nat} (h:q.Perm (bi xs.length)):(q.map fun i=>xs.getD i d).Perm xs:=by
 refine (h.map _).trans ?_
 have:(bi xs.length).map (fun i=>xs.getD i d)=xs:=by
  apply il
  ·simp
  ·intro i h1 h2;simp [h2]
 rw [this]
theorem uU {xs:List Int} {f:Int->Int} {lam:Da->Option Da} (h:∀ x∈xs,lam (.int x)=some (.int (f x))) (hl:xs.length<64):∃ ord:List Int,pN lam (xs.map Da.int)=some (ord.map Da.int)/\ord.Perm xs/\ord.Pairwise fun x y=>f x<=f y:=by
 have e1:=qz (lam:=lam) (enc:=Da.int) (e:=fun x=>Da.int (f x)) (xs:=xs) h
 have em:(xs.map fun x=>Da.int (f x))=(xs.map f).map Da.int:=by rw [aS];rfl
 rw [em] at e1
 obtain ⟨hp,hs⟩:=iI oH (0:Int) (xs.map f)
 have hp':(jY oH (0:Int) (xs.map f)).Perm (bi xs.length):=by
  have e:fw (α:=oH.α) (xs.map f)=xs.length:=ab _
  rw [e] at hp
  exact hp
 refine ⟨(jY oH (0:Int) (xs.map f)).map fun i=>xs.getD i 0,?_,jS hp',?_⟩
 ·unfold pN
  rw [if_pos (by rw [ab];lia),e1]
  dsimp only
  unfold tM
  rw [eO]
  dsimp only
  rw [if_pos (show OkN (xs.map f) from .inl (by rw [ab];exact hl))]
  dsimp only
  congr 1
  rw [aS]
  refine eB fun i hi=>?_
  have hi':i<xs.length:=by simpa using hp'.mem_iff.mp hi
  simp [hi']
 ·rw [cL] at hs ⊢
  refine hs.imp_of_mem fun {i j} hi hj z=>?_
  have hi':i<xs.length:=by simpa using hp'.mem_iff.mp hi
  have hj':j<xs.length:=by simpa using hp'.mem_iff.mp hj
  have z:oH.blt ((xs.map f).getD j (0:Int)) ((xs.map f).getD i (0:Int))=false:=z
  have z:decide ((xs.map f).getD j (0:Int)<(xs.map f).getD i (0:Int))=false:=z
  have z:=of_decide_eq_false z
  have ei:(xs.map f).getD i (0:Int)=f (xs.getD i 0):=by simp [hi']
  have ej:(xs.map f).getD j (0:Int)=f (xs.getD j 0):=by simp [hj']
  rw [ei,ej] at z
  lia
theorem uW (k:Kd) (l:List Int):m9 [(k,dD l)]=some (.pu,.int l.length):=by
 show (none:Option Rv).or (some (Kd.pu,Da.int ((l.map Sum.inl).length:Nat)))=_
 rw [ab]
 rfl
theorem qX {n:Int} (D:UD) (h0:0<=n) (h1:n<64):∃ ord:List Int,fn_upwards [.int n,dU D]=some (.lst (ord.map Da.int))/\ord.Perm (rgI 0 n.toNat)/\ord.Pairwise fun x y=>((e6 D x).length:Int)<=(e6 D y).length:=by
 have hlam:∀ x∈rgI 0 n.toNat,Ab [none,some 1,none] 0 (xB m9 (aO (kf (aQ 1) (aQ 0) (xC2 (.fr,.dK [] []))) ca)) [.pu (.int n),.pu (dU D)] (.int x)=some (.int ((e6 D x).length:Int)):=fun x hx=>by
  unfold Ab
  have em:(mpR [none,some 1,none] [.pu (.int n),.pu (dU D)]).set 0 (.pu (.int x))=[.pu (.int x),.pu (dU D),.no]:=rfl
  rw [em]
  simp only [xE,b9,uc,hO,Aw,dG,bh,bz,o7]
  by_cases hm:x∈D.map (·.1)
  ·rw [if_pos hm]
   dsimp only
   rw [uW]
   rfl
  ·rw [if_neg hm,iN hm]
   dsimp only
   rw [show ([((Kd.fr,Da.dK [] []):Rv)])=[(Kd.fr,dD [])] from rfl,uW]
   rfl
 obtain ⟨ord,e,hp,hs⟩:=uU (f:=fun x=>((e6 D x).length:Int)) hlam (by rw [eA];lia)
 refine ⟨ord,?_,hp,hs⟩
 refine qP (ρ:=[.pu (.int n),.pu (dU D)]) rfl ?_
 have er:mB (aO (aQ 0) ca) [.pu (.int n),.pu (dU D)]=some ((rgI 0 n.toNat).map Da.int):=by
  simp only [qv,b9,hO,dG,bh]
  rw [if_pos (by lia),dm]
 simp only [g_upwards,jc]
 unfold mT
 rw [er]
 dsimp only
 rw [e]
theorem wj {n:Int} {L:List PI} (Y:Yd n L) {ord:List Int} (h:ord.Pairwise fun x y=>((e6 (low L) x).length:Int)<=(e6 (low L) y).length):ord.Pairwise fun x y=>(y,x)∉L:=by
 refine h.imp fun {x y} z m=>?_
 have:(y::e6 (low L) y).length<=(e6 (low L) x).length:=Ms.length_le_of_subset (be.mpr ⟨fun w=>Y.irr y ((fz L y y).mp w),xN L y⟩) fun u hu=>by
  rcases ag.mp hu with e | e
  ·subst e;exact (fz L x u).mpr m
  ·exact (fz L x u).mpr (Y.tr _ _ _ ((fz L y u).mp e) m)
 rw [aD] at this
 lia
end GW
set_option linter.unusedSimpArgs false
namespace GW
open PySem L2 Ry G G3
theorem gL {C:List PI} {x:Int} (h:x∈dh C) {k k':Kd}:oIt (k,dC C) (k',.int x)=some (.pu,.int (cE C x)):=Dq h
theorem vO {C:List PI}:(dh C).length=C.length:=by unfold dh;rw [ab]
theorem dC_one (one:Int):Da.dK [Sum.inl one] [Da.int 1]=dC [(one,1)]:=rfl
end GW
namespace GH
open PySem L2 Ry G GW
end GH
set_option linter.unusedSimpArgs false
namespace GH
open PySem L2 Ry G G3 GW
def dT (H:List Int):Da:=.tup (H.map Da.int)
theorem Dh (i j:Int):PyData.eqv (toP (.int i)) (toP (.int j))=decide (i=j):=by
 show PyData.eqv (.int i) (.int j)=_
 simp only [PyData.eqv]
 rw [eR,beq_iff_eq,decide_eq_true_eq]
theorem layAll_I:∀ T:List Int,PyData.canLayAll0 (i8 (T.map Da.int))=true
 | []=>rfl
 | p::T=>by
   show (PyData.canLay0 (toP (.int p))&&PyData.canLayAll0 (i8 (T.map Da.int)))=true
   rw [layAll_I T];rfl
theorem yY (x:Int):∀ T:List Int,inD (.int x) (T.map Da.int)=decide (x∈T)
 | []=>rfl
 | q::T=>by
   have ih:=yY x T
   unfold inD at ih ⊢
   show (PyData.eqv (toP (.int q)) (toP (.int x))||(i8 (T.map Da.int)).any fun y=>PyData.eqv y (toP (.int x)))=_
   rw [ih,Dh,eR]
   simp only [eQ,decide_eq_true_eq,ag]
   exact ⟨fun h=>h.imp (fun z=>z.symm) id,fun h=>h.imp (fun z=>z.symm) id⟩
theorem xj (x:Int) (T:List Int):uB (.int x) (T.map Da.int)=true:=by
 unfold uB
 rw [layAll_I]
 have:(toP (Da.int x)).depth<=60:=by simp [toP,PyData.depth]
 have h2:(toP (Da.int x)).canLay0=true:=rfl
 rw [h2]
 simp only [r6,r8,decide_eq_true_eq]
 lia
@[simp] theorem oIn_TI (n:Bool) (a b:Kd) (x:Int) (T:List Int):oIn n (a,.int x) (b,.tup (T.map Da.int))=some (.pu,.bl (if n then !decide (x∈T) else decide (x∈T))):=by
  unfold oIn uM zE
  dsimp only
  rw [xj,if_pos rfl,yY]
  rfl
@[simp] theorem BY (n:Bool) (a b:Kd) (x:Int) (T:List Int):oIn n (a,.int x) (b,.lst (T.map Da.int))=some (.pu,.bl (if n then !decide (x∈T) else decide (x∈T))):=by
  unfold oIn uM zE
  dsimp only
  rw [xj,if_pos rfl,yY]
  rfl
theorem xP {H:List Int} (h:H.Pairwise fun a b=>Ms.ltI a b=true):H.Nodup:=h.imp fun {a b} z w=>by subst w;rw [Ms.linI.irr] at z;cases z
end GH
set_option linter.unusedSimpArgs false
namespace GH
open PySem L2 Ry G G3 GW
theorem cT {fn:List Da->Option Da} {g:Rho->Option (List Rv)} {ρ:Rho} {rs:List Rv} {ds:List Da} {d:Da} (hg:g ρ=some rs) (hp:gI rs=some ds) (hf:fn ds=some d):cC fn g ρ=some (.pu,d):=by
 unfold cC
 rw [hg]
 dsimp only
 rw [hp]
 dsimp only
 rw [hf]
end GH
set_option linter.unusedSimpArgs false
namespace GH
open PySem L2 Ry G G3 GW
end GH
set_option linter.unusedSimpArgs false
namespace G17
open PySem L2 Ry G G3 GW GH
theorem qQ:∀ P L:List Int,PyData.eqvAll (i8 (P.map Da.int)) (i8 (L.map Da.int))=decide (P=L)
 | [],[]=>rfl
 | [],q::L=>rfl
 | p::P,[]=>rfl
 | p::P,q::L=>by
   show (PyData.eqv (.int p) (.int q)&&PyData.eqvAll (i8 (P.map Da.int)) (i8 (L.map Da.int)))=_
   rw [qQ P L,eR]
   simp only [PyData.eqv,aP,beq_iff_eq,decide_eq_true_eq,List.cons.injEq]
theorem Ax (n:Bool) (a b:Kd) (P L:List Int):oEq n (a,.lst (P.map Da.int)) (b,.lst (L.map Da.int))=some (.pu,.bl (if n then !decide (P=L) else decide (P=L))):=by
 have e:eqD (.lst (P.map Da.int)) (.lst (L.map Da.int))=decide (P=L):=qQ P L
 have ok:zV (.lst (P.map Da.int)) (.lst (L.map Da.int))=true:=by
  unfold zV
  rw [show (toP (.lst (P.map Da.int))).canLay0=true from GH.layAll_I P,show (toP (.lst (L.map Da.int))).canLay0=true from GH.layAll_I L]
  have h:(toP (.lst (P.map Da.int))).depth=PyData.depthAll (i8 (P.map Da.int))+1:=by simp [toP,PyData.depth]
  have:=lm P
  simp only [r6,r8,decide_eq_true_eq]
  lia
 unfold oEq
 rw [if_pos ok,e]
end G17
namespace GF
open PySem L2 Ry G GW
def g_heights_of:Rho->Res:=(gd (vv 2 (xC2 (.fr,.dK [] [])))
 (gd (lf (b7 (gu (cC fn_upwards (aO (aQ 0) (aO (aQ 1) ca))))) (tgN 3)
 (xL 2 (aQ 3) (x2 mz (xC (.int 1)) (rL (fE 2 (d8 [none,none,some 2] (b7 (gu (kf (aQ 1) (aQ 3) (xC2 (.fr,.dK [] []))))) (tgN 1) (fun _=>some true) (x2 oIt (aQ 2) (aQ 1)))) (rG (xC (.int 1)))))))
 (eG (aQ 2))))
def fn_heights_of:List Da->Option Da:=io 4 g_heights_of
def g_row_at:Rho->Res:=(eG (xB iy (aO (d8 [none,none,some 1,some 0] (b7 (gu (xB fy (aO (aQ 0) ca)))) (tgN 1) (tb (x2 (oEq false) (x2 oIt (aQ 3) (aQ 1)) (aQ 2))) (aQ 1)) ca)))
def fn_row_at:List Da->Option Da:=io 2 g_row_at
def g_floors:Rho->Res:=(gd (kg 1 (cC fn_heights_of (aO (x2 oIt (aQ 0) (xC (.int 0))) (aO (cC fn_lowers_of (aO (x2 oIt (aQ 0) (xC (.int 1))) ca)) ca))))
 (gd (vv 2 (vT ca))
 (gd (kg 3 (cC fn_row_at (aO (aQ 1) (aO (xC (.int 0)) ca))))
 (gd (gB (tTr (aQ 3))
 (gd (ic 2 (aQ 3))
 (kg 3 (cC fn_row_at (aO (aQ 1) (aO (xB nU (aO (aQ 2) ca)) ca))))) 200)
 (eG (xB iy (aO (aQ 2) ca)))))))
def fn_floors:List Da->Option Da:=io 4 g_floors
def g_tallest:Rho->Res:=(gd (kg 1 (cC fn_lowers_of (aO (x2 oIt (aQ 0) (xC (.int 1))) ca)))
 (gd (vv 2 (vT ca))
 (gd (lf (AK (cC fn_floors (aO (aQ 0) ca))) (tgN 3)
 (gd (kg 4 (gH 2 (d8 [none,none,some 2,some 1] (b7 (gu (aQ 3))) (tgN 1) (oC (eK (tTr (aQ 2))) (tb (x2 (oIn false) (aQ 1) (x2 oIt (aQ 3) (x2 oIt (aQ 2) (rG (xC (.int 1)))))))) (aQ 1))))
 (ic 2 (x2 oIt (aQ 4) (xC (.int 0))))))
 (eG (iE (aQ 2))))))
def fn_tallest:List Da->Option Da:=io 5 g_tallest
def g__law_is_row:Rho->Res:=(gd (sIf (oC (eK (tTr (eV fC (aQ 1)))) (oC (tb (x2 (oEq true) (xB lD (aO (aQ 1) ca)) (eF (aQ 1)))) (eK (tTr (aQ 1))))) (eG (xC (.bl false))) iT)
 (gd (lf (b7 (gu (aQ 1))) (tgN 2)
 (sIf (oC (eK (tb (iL (oB fun i j=>decide (i<=j)) oLt (xC (.int 0)) (aQ 2) (x2 oIt (aQ 0) (xC (.int 0)))))) (tTr (d8 [none,none,some 2,some 0] (b7 (gu (aQ 1))) (tgN 1) (tb (x2 (oIn false) (oD (aO (aQ 2) (aO (aQ 1) ca))) (x2 oIt (aQ 3) (xC (.int 1))))) (aQ 1)))) (eG (xC (.bl false))) iT))
 (eG (xC (.bl true)))))
def fn__law_is_row:List Da->Option Da:=io 3 g__law_is_row
def g__law_is_tower:Rho->Res:=(gd (sIf (oC (eK (tTr (eV fC (aQ 1)))) (oC (eK (tTr (aQ 1))) (eK (tb (iL (oB fun i j=>decide (i<=j)) oLt (xC (.int 0)) (x2 oIt (aQ 1) (xC (.int 0))) (x2 oIt (aQ 0) (xC (.int 0)))))))) (eG (xC (.bl false))) iT)
 (eG (xB vo (aO (d8 [none,none,some 1,some 0] (xn (aO (xC (.int 1)) (aO (xB nU (aO (aQ 1) ca)) ca))) (tgN 1) (fun _=>some true) (x2 (oIn false) (oD (aO (x2 oIt (aQ 2) (x2 (oI (fun _ _=>true) (·-·)) (aQ 1) (xC (.int 1)))) (aO (x2 oIt (aQ 2) (aQ 1)) ca))) (x2 oIt (aQ 3) (xC (.int 1))))) ca))))
def fn__law_is_tower:List Da->Option Da:=io 2 g__law_is_tower
end GF
set_option linter.unusedSimpArgs false
namespace GF
open PySem L2 Ry G G3 GW GH
theorem pX {ds:List Da} (h:ds.all rO=true):wy (.fr,.lst ds)=some (.fr,.lst ds):=by
 show (if ds.all rO=true then some ((Kd.fr,Da.lst ds):Rv) else none)=_
 rw [if_pos h]
theorem mi (ns:List Int):wy (.fr,.lst (ns.map Da.int))=some (.fr,.lst (ns.map Da.int)):=pX (by rw [vE,cP];intro x _;rfl)
theorem lA {i:Nat} {f:Rho->Option Rv} {ρ:Rho} {d:Da} {r r':Rv} (h:ρ[i]?=some (.ow d)) (hd:jB d=true) (hf:f (ρ.set i (.pu d))=some r) (ho:wy r=some r'):fE i f ρ=some r':=by
 unfold fE
 rw [h]
 dsimp only
 rw [if_pos hd,hf]
 exact ho
theorem wd {d x:Int}:∀ {l:List Int},x∈l->x<=nW d l
 | [],h=>by cases h
 | a::r,h=>by
   obtain ⟨h1,h2,_⟩:=j0 r a
   rcases ag.mp h with z | z
   ·rw [z];exact h1
   ·exact h2 x z
theorem uo {d:Int}:∀ {l:List Int},l≠[]->nW d l∈l
 | [],h=>absurd rfl h
 | a::r,_=>by
   obtain ⟨_,_,h3⟩:=j0 r a
   rcases h3 with z | z
   ·show rW a r∈_
    rw [z];exact ak
   ·exact ai _ z
structure Hts (L C:List PI):Prop where
 up:∀ x∈dh C,∀ a,(a,x)∈L->a∈dh C/\cE C a<cE C x
 dn:∀ x∈dh C,cE C x=0\/(0<cE C x/\∃ a,(a,x)∈L/\cE C a+1=cE C x)
theorem Hts.ge {L C:List PI} (h:Hts L C) {x:Int} (hx:x∈dh C):0<=cE C x:=by rcases h.dn x hx with z | z<;>lia
theorem Hts.add {n:Int} {L C:List PI} {x:Int} (Y:Yd n L) (h:Hts L C) (hx:x∉dh C) (hb:∀ a,(a,x)∈L->a∈dh C):Hts L (C++[(x,1+nW (-1) ((e6 (low L) x).map (cE C)))]):=by
 have hne:∀ a,a∈dh C->a≠x:=fun a ha z=>hx (z▸ha)
 refine ⟨fun y hy a ha=>?_,fun y hy=>?_⟩
 ·rcases dF.mp hy with z | z
  ·obtain ⟨h1,h2⟩:=h.up y z a ha
   exact ⟨dF.mpr (.inl h1),by rw [fJ h1,fJ z];exact h2⟩
  ·subst z
   have h1:=hb a ha
   refine ⟨dF.mpr (.inl h1),?_⟩
   rw [fJ h1,jJ hx]
   have:=wd (d:=-1) (bf.mpr ⟨a,(fz L y a).mpr ha,rfl⟩:cE C a∈(e6 (low L) y).map (cE C))
   lia
 ·rcases dF.mp hy with z | z
  ·rw [fJ z]
   rcases h.dn y z with w | ⟨w1,a,w2,w3⟩
   ·exact .inl w
   ·exact .inr ⟨w1,a,w2,by rw [fJ (h.up y z a w2).1];exact w3⟩
  ·subst z
   rw [jJ hx]
   by_cases e:(e6 (low L) y).map (cE C)=[]
   ·rw [e];exact .inl rfl
   ·obtain ⟨a,ha,ea⟩:=bf.mp (uo (d:=-1) e)
    have haL:=(fz L y a).mp ha
    have h1:=hb a haL
    have:=h.ge h1
    exact .inr ⟨by lia,a,haL,by rw [fJ h1];lia⟩
theorem qW {n:Int} {L:List PI} (Y:Yd n L) (h0:0<=n) (h1:n<64) (hl:L.length<=1000):∃ C:List PI,fn_heights_of [.int n,dU (low L)]=some (dC C)/\(dh C).Perm (rgI 0 n.toNat)/\Hts L C:=by
 obtain ⟨ord,hup,hperm,hsrt⟩:=qX (low L) h0 h1
 have ho:=wj Y hsrt
 have hnd:ord.Nodup:=hperm.nodup_iff.mpr (jI _ _)
 have hol:ord.length<64:=by rw [hperm.length_eq,eA];lia
 have key:∃ d,fn_heights_of [.int n,dU (low L)]=some d/\∃ C:List PI,d=dC C/\dh C=ord/\Hts L C:=by
  refine kT ?_
  unfold g_heights_of
  have e0:cZ 4 [.int n,dU (low L)]=[.pu (.int n),.pu (dU (low L)),.no,.no]:=rfl
  rw [e0]
  refine cj (cS (ρ':=[.pu (.int n),.pu (dU (low L)),.ow (dC []),.no]) rfl ?_)
  refine cj ?_
  refine gk (enc:=Da.int) (xs:=ord) (fun pre ρ=>∃ C s3,ρ=[.pu (.int n),.pu (dU (low L)),.ow (dC C),s3]/\dh C=pre/\Hts L C) ?_ ⟨[],_,rfl,rfl,⟨by simp [dh],by simp [dh]⟩⟩ ?_ ?_
  ·rw [jH,qw,cT (ds:=[.int n,dU (low L)]) rfl rfl hup]
  ·rintro pre x post ρ e ⟨C,s3,rfl,hf,ht⟩
   have hx:x∉dh C:=by
    rw [hf]
    rw [e] at hnd
    exact fun z=>(bJ.mp hnd).2.2 x z x ak rfl
   have hCn:(dh C).Nodup:=by rw [hf];rw [e] at hnd;exact (bJ.mp hnd).1
   have hCl:C.length<64:=by
    rw [<- vO,hf]
    rw [e,aF] at hol
    lia
   have hb:∀ a,(a,x)∈L->a∈dh C:=fun a ha=>by
    have hr:=(Y.rg _ ha).1
    dsimp only at hr
    have:a∈ord:=hperm.mem_iff.mpr (fD.mpr (by lia))
    rw [hf]
    rw [e] at this ho
    rcases aG.mp this with z | z
    ·exact z
    ·rcases ag.mp z with z | z
     ·rw [z] at ha;exact absurd ha (Y.irr x)
     ·exact absurd ha ((aZ.mp (aU.mp ho).2.1).1 a z)
   refine ⟨[.pu (.int n),.pu (dU (low L)),.ow (dC C),.pu (.int x)],rfl,?_⟩
   refine cS (ρ':=[.pu (.int n),.pu (dU (low L)),.ow (dC (C++[(x,1+nW (-1) ((e6 (low L) x).map (cE C)))])),.pu (.int x)]) ?_ ⟨_,_,rfl,by rw [lK,hf],ht.add Y hx hb⟩
   have hg:=BR (low L) x (aQ 1) (aQ 3) [.pu (.int n),.pu (dU (low L)),.pu (dC C),.pu (.int x)] (k:=.pu) (k':=.pu) rfl rfl
   have hc:=cX (enc:=Da.int) (xs:=e6 (low L) x) (ix:=[none,none,some 2]) (fi:=b7 (gu (kf (aQ 1) (aQ 3) (xC2 (.fr,.dK [] []))))) (i:=1) (c:=fun _=>some true) (f:=x2 oIt (aQ 2) (aQ 1)) (ρ:=[.pu (.int n),.pu (dU (low L)),.pu (dC C),.pu (.int x)]) (p:=fun _=>true) (e:=fun u=>.int (cE C u))
    (xU hg) (by have:=yx L x;lia) fun u hu=>⟨rfl,fun _=>⟨(.pu,.int (cE C u)),by
      have em:(mpR [none,none,some 2] [.pu (.int n),.pu (dU (low L)),.pu (dC C),.pu (.int x)]).set 1 (.pu (.int u))=[.no,.pu (.int u),.pu (dC C)]:=rfl
      rw [em]
      exact gL (hb u ((fz L x u).mp hu)),rfl,rfl⟩⟩
   rw [dE] at hc
   have hle:fE 2 (d8 [none,none,some 2] (b7 (gu (kf (aQ 1) (aQ 3) (xC2 (.fr,.dK [] []))))) (tgN 1) (fun _=>some true) (x2 oIt (aQ 2) (aQ 1))) [.pu (.int n),.pu (dU (low L)),.ow (dC C),.pu (.int x)]=some (.fr,.lst (((e6 (low L) x).map (cE C)).map Da.int)):=by
    refine lA (d:=dC C) rfl rfl (r:=(.fr,.lst (((e6 (low L) x).map (cE C)).map Da.int))) ?_ (mi _)
    rw [aS]
    exact hc
   have hm:rL (fE 2 (d8 [none,none,some 2] (b7 (gu (kf (aQ 1) (aQ 3) (xC2 (.fr,.dK [] []))))) (tgN 1) (fun _=>some true) (x2 oIt (aQ 2) (aQ 1)))) (rG (xC (.int 1))) [.pu (.int n),.pu (dU (low L)),.ow (dC C),.pu (.int x)]=some (.pu,.int (nW (-1) ((e6 (low L) x).map (cE C)))):=by
    unfold rL
    rw [hle,show rG (xC (.int 1)) [.pu (.int n),.pu (dU (low L)),.ow (dC C),.pu (.int x)]=some (.pu,.int (-1)) from rfl]
    dsimp only
    rw [eO]
   rw [uA,kG,hm]
   have e1:([.pu (.int n),.pu (dU (low L)),.ow (dC C),.pu (.int x)]:Rho)[2]?=some (.ow (dC C)):=rfl
   have e2:aQ 3 [.pu (.int n),.pu (dU (low L)),.ow (dC C),.pu (.int x)]=some (.pu,.int x):=rfl
   rw [e1,e2,zK]
   dsimp only
   rw [xA]
   dsimp only
   rw [if_pos (iB _),xJ hx hCn (by lia)]
   rfl
  ·rintro ρ ⟨C,s3,rfl,hf,ht⟩
   exact mI rfl ⟨C,rfl,hf,ht⟩
 obtain ⟨d,ed,C,rfl,hf,ht⟩:=key
 exact ⟨C,ed,by rw [hf];exact hperm,ht⟩
def cO (n:Int) (C:List PI) (k:Int):List Int:=(rgI 0 n.toNat).filter fun t=>decide (cE C t=k)
theorem eZ {n:Int} {C:List PI} {k t:Int}:t∈cO n C k↔t∈rgI 0 n.toNat/\cE C t=k:=by unfold cO;rw [cJ,decide_eq_true_eq]
theorem xq {n:Int} {C:List PI} (hp:(dh C).Perm (rgI 0 n.toNat)) (h1:n<64) (k:Int):fn_row_at [dC C,.int k]=some (dT (cO n C k)):=by
 have hl:C.length=n.toNat:=by rw [<- vO,hp.length_eq,eA]
 have hso:=yo (C:=C) (k:=.pu) (by lia)
 have he:Ms.srt Ms.ltI (dh C)=rgI 0 n.toNat:=Ms.strict_ext Ms.linI (Ms.srt_strict Ms.linI (hp.nodup_iff.mpr (jI _ _))) (gG _ _) fun x=>by rw [(Ms.srt_perm _).mem_iff,hp.mem_iff]
 rw [he] at hso
 have hc:=cX (enc:=Da.int) (xs:=rgI 0 n.toNat) (ix:=[none,none,some 1,some 0]) (fi:=b7 (gu (xB fy (aO (aQ 0) ca)))) (i:=1) (c:=tb (x2 (oEq false) (x2 oIt (aQ 3) (aQ 1)) (aQ 2))) (f:=aQ 1) (ρ:=[.pu (dC C),.pu (.int k)]) (p:=fun t=>decide (cE C t=k)) (e:=Da.int)
  ?_ (by rw [eA];lia) fun t ht=>⟨?_,fun _=>⟨(.pu,.int t),rfl,rfl,rfl⟩⟩
 ·refine qP (ρ:=[.pu (dC C),.pu (.int k)]) rfl ?_
  unfold g_row_at
  rw [jc,xE,b9,hc,dG]
  rfl
 ·have h1:xB fy (aO (aQ 0) ca) [.pu (dC C),.pu (.int k)]=some (.fr,.lst ((rgI 0 n.toNat).map Da.int)):=hso
  rw [jH,qw,h1]
 ·have em:(mpR [none,none,some 1,some 0] [.pu (dC C),.pu (.int k)]).set 1 (.pu (.int t))=[.no,.pu (.int t),.pu (.int k),.pu (dC C)]:=rfl
  rw [em]
  have g1:x2 oIt (aQ 3) (aQ 1) [.no,.pu (.int t),.pu (.int k),.pu (dC C)]=some (.pu,.int (cE C t)):=gL (hp.mem_iff.mpr ht)
  rw [vp,kG,g1,show aQ 2 [.no,.pu (.int t),.pu (.int k),.pu (dC C)]=some (.pu,.int k) from rfl]
  dsimp only
  rw [Ao]
  rfl
def rws (n:Int) (C:List PI) (m:Nat):List (List Int):=(bi m).map fun (i:Nat)=>cO n C (i:Int)
theorem gz (n:Int) (C:List PI) (m:Nat):(rws n C m).length=m:=by unfold rws;rw [ab,bS]
theorem xV (n:Int) (C:List PI) (m:Nat):rws n C (m+1)=rws n C m++[cO n C (m:Int)]:=by unfold rws;rw [List.range_succ,cf];rfl
theorem pI {n:Int} {C:List PI} {k:Nat} (h:∀ i:Nat,i<k->cO n C (i:Int)≠[]):k<=n.toNat:=by
 have pick:∀ i:Nat,i<k->(cO n C (i:Int)).headD 0∈cO n C (i:Int):=fun i hi=>by
  cases hr:cO n C (i:Int) with
  | nil=>exact absurd hr (h i hi)
  | cons a r=>exact ak
 have nd:((bi k).map fun (i:Nat)=>(cO n C (i:Int)).headD 0).Nodup:=by
  refine cL.mpr ((B8).imp_of_mem fun {a b} ha hb ne e=>ne ?_)
  have h1:=(eZ.mp (pick a (by simpa using ha))).2
  have h2:=(eZ.mp (pick b (by simpa using hb))).2
  rw [e,h2] at h1
  lia
 have:=Ms.length_le_of_subset nd (m:=rgI 0 n.toNat) fun x hx=>by
  obtain ⟨i,hi,rfl⟩:=bf.mp hx
  exact (eZ.mp (pick i (by simpa using hi))).1
 rw [ab,bS,eA] at this
 exact this
theorem uY {n:Int} {L:List PI} (Y:Yd n L) (h0:0<=n) (h1:n<64) (hl:L.length<=1000):∃ (C:List PI) (m:Nat),(dh C).Perm (rgI 0 n.toNat)/\Hts L C/\fn_floors [dY n L]=some (.tup ((rws n C m).map dT))/\(∀ i:Nat,i<m->cO n C (i:Int)≠[])/\cO n C (m:Int)=[]:=by
 obtain ⟨C,hC,hp,ht⟩:=qW Y h0 h1 hl
 have key:∃ d,fn_floors [dY n L]=some d/\∃ m:Nat,d=.tup ((rws n C m).map dT)/\(∀ i:Nat,i<m->cO n C (i:Int)≠[])/\cO n C (m:Int)=[]:=by
  refine kT ?_
  unfold g_floors
  have e0:cZ 4 [dY n L]=[.pu (dY n L),.no,.no,.no]:=rfl
  rw [e0]
  refine cj (cS (ρ':=[.pu (dY n L),.pu (dC C),.no,.no]) ?_ ?_)
  ·have z0:x2 oIt (aQ 0) (xC (.int 0)) [.pu (dY n L),.no,.no,.no]=some (.pu,.int n):=by simp [dY]
   have z1:cC fn_lowers_of (aO (x2 oIt (aQ 0) (xC (.int 1))) ca) [.pu (dY n L),.no,.no,.no]=some (.pu,dU (low L)):=cT (ds:=[.tup (L.map dP)]) (rs:=[(.pu,.tup (L.map dP))]) (by simp [dY]) rfl (n8 hl)
   have z2:cC fn_heights_of (aO (x2 oIt (aQ 0) (xC (.int 0))) (aO (cC fn_lowers_of (aO (x2 oIt (aQ 0) (xC (.int 1))) ca)) ca)) [.pu (dY n L),.no,.no,.no]=some (.pu,dC C):=cT (ds:=[.int n,dU (low L)]) (rs:=[(.pu,.int n),(.pu,dU (low L))]) (by rw [b9,z0,b9,z1,dG]) rfl hC
   rw [ji,z2]
   rfl
  refine cj (cS (ρ':=[.pu (dY n L),.pu (dC C),.ow (.lst ((rws n C 0).map dT)),.no]) rfl ?_)
  refine cj (cS (ρ':=[.pu (dY n L),.pu (dC C),.ow (.lst ((rws n C 0).map dT)),.pu (dT (cO n C ((0:Nat):Int)))]) ?_ ?_)
  ·rw [ji,cT (ds:=[dC C,.int ((0:Nat):Int)]) rfl rfl (xq hp h1 _)]
   rfl
  refine cj ?_
  refine qK (fun j ρ=>∃ k:Nat,ρ=[.pu (dY n L),.pu (dC C),.ow (.lst ((rws n C k).map dT)),.pu (dT (cO n C (k:Int)))]/\j+k=n.toNat/\∀ i:Nat,i<k->cO n C (i:Int)≠[]) 200 n.toNat _ (by lia) ⟨0,rfl,by lia,fun i hi=>absurd hi (pR i)⟩ ?_
  rintro j ρ ⟨k,rfl,hjk,hne⟩
  refine ⟨!(cO n C (k:Int)).isEmpty,?_,fun q=>?_,fun q=>?_⟩
  ·cases cO n C (k:Int) with
   | nil=>rfl
   | cons a r=>rfl
  ·have:cO n C (k:Int)=[]:=by cases h:cO n C (k:Int) with | nil=>rfl | cons a r=>rw [h] at q;cases q
   exact mI rfl ⟨k,rfl,hne,this⟩
  ·have hk:cO n C (k:Int)≠[]:=by intro z;rw [z] at q;cases q
   have hne':∀ i:Nat,i<k+1->cO n C (i:Int)≠[]:=fun i hi=>by
    rcases gw (Nat.le_of_lt_succ hi) with z | z
    ·exact hne i z
    ·rw [z];exact hk
   have hkn:=pI hne'
   refine cj (cS (ρ':=[.pu (dY n L),.pu (dC C),.ow (.lst ((rws n C (k+1)).map dT)),.pu (dT (cO n C (k:Int)))]) ?_ ?_)
   ·rw [jO,show ([.pu (dY n L),.pu (dC C),.ow (.lst ((rws n C k).map dT)),.pu (dT (cO n C (k:Int)))]:Rho)[2]?=some (.ow (.lst ((rws n C k).map dT))) from rfl,show aQ 3 [.pu (dY n L),.pu (dC C),.ow (.lst ((rws n C k).map dT)),.pu (dT (cO n C (k:Int)))]=some (.pu,dT (cO n C (k:Int))) from rfl]
    dsimp only
    rw [if_pos ⟨rfl,by rw [ab,gz];lia⟩,xV,cf]
    rfl
   refine cS (ρ':=[.pu (dY n L),.pu (dC C),.ow (.lst ((rws n C (k+1)).map dT)),.pu (dT (cO n C ((k+1:Nat):Int)))]) ?_ ⟨j-1,by lia,k+1,rfl,by lia,hne'⟩
   have z1:xB nU (aO (aQ 2) ca) [.pu (dY n L),.pu (dC C),.ow (.lst ((rws n C (k+1)).map dT)),.pu (dT (cO n C (k:Int)))]=some (.pu,.int ((k+1:Nat):Int)):=by
    show some (Kd.pu,Da.int (((rws n C (k+1)).map dT).length:Nat))=_
    rw [ab,gz]
   rw [ji,cT (ds:=[dC C,.int ((k+1:Nat):Int)]) (rs:=[(.pu,dC C),(.pu,.int ((k+1:Nat):Int))]) (by rw [b9,b9,z1,dG];rfl) rfl (xq hp h1 _)]
   rfl
 obtain ⟨d,ed,m,rfl,h⟩:=key
 exact ⟨C,m,hp,ht,ed,h⟩
theorem sn {i:Nat} {f:Rho->Option Rv} {ρ:Rho} {ds:List Da} {r r':Rv} (h:ρ[i]?=some (.ow (.lst ds))) (hf:f (ρ.set i (.pu (.lst ds)))=some r) (ho:wy r=some r'):gH i f ρ=some r':=by
 unfold gH
 rw [h]
 dsimp only
 rw [hf]
 exact ho
theorem vQ {a b:Kd} (F:List Int) (x:Int):oIt (a,.lst ((F++[x]).map Da.int)) (b,.int (-1))=some (.pu,.int x):=by
 unfold oIt oIx tN
 dsimp only
 have:atI ((F++[x]).map Da.int) (-1)=some (Da.int x):=by
  unfold atI ixN
  rw [if_neg (by decide),ab,aF,bx,if_pos (by lia)]
  show ((F++[x]).map Da.int)[((-1:Int)+((F.length+1:Nat):Int)).toNat]?=_
  rw [show ((-1:Int)+((F.length+1:Nat):Int)).toNat=F.length by lia,av,bC (aj _),mF]
  rfl
 rw [this]
 rfl
theorem yh {n:Int} {C:List PI} {m j:Nat} (h:j<m):(rws n C m).reverse[j]?=some (cO n C ((m-1-j:Nat):Int)):=by
 rw [iP (by rw [gz];exact h),gz]
 unfold rws
 rw [av,jK (by lia)]
 rfl
structure Fnd (n:Int) (L C:List PI) (m j:Nat) (F:List Int):Prop where
 len:F.length=j
 pw:F.Pairwise fun a b=>(b,a)∈L
 rg:∀ x∈F,x∈rgI 0 n.toNat
 at':∀ F' x,F=F'++[x]->cE C x=((m-j:Nat):Int)
theorem Fnd.add {n:Int} {L C:List PI} (Y:Yd n L) {m j:Nat} {F:List Int} {t:Int} (h:Fnd n L C m j F) (hj:j<m) (ht:t∈cO n C ((m-1-j:Nat):Int)) (hl:∀ F' x,F=F'++[x]->(t,x)∈L):Fnd n L C m (j+1) (F++[t]):=by
 obtain ⟨h1,h2⟩:=eZ.mp ht
 refine ⟨by rw [aF,h.len];rfl,aU.mpr ⟨h.pw,aY _ _,fun a ha b hb=>?_⟩,fun x hx=>?_,fun F' x e=>?_⟩
 ·rw [am] at hb
  subst hb
  rcases F.eq_nil_or_concat with rfl | ⟨F',x,rfl⟩
  ·cases ha
  ·rw [iQ] at ha hl
   have hx:=hl F' x rfl
   rcases aG.mp ha with z | z
   ·have hpw:=h.pw
    rw [iQ] at hpw
    exact Y.tr _ _ _ hx ((aU.mp hpw).2.2 a z x (by simp))
   ·rw [am] at z
    rw [z];exact hx
 ·rcases aG.mp hx with z | z
  ·exact h.rg x z
  ·rw [am] at z;rw [z];exact h1
 ·obtain ⟨_,e2⟩:=Cg e rfl
  injection e2 with e2 _
  rw [<- e2,h2]
  congr 1
  lia
theorem rh {n:Int} {L C:List PI} {m:Nat} (Y:Yd n L) (h0:0<=n) (h1:n<64) (hl:L.length<=1000) (hp:(dh C).Perm (rgI 0 n.toNat)) (ht:Hts L C) (hf:fn_floors [dY n L]=some (.tup ((rws n C m).map dT))) (hne:∀ i:Nat,i<m->cO n C (i:Int)≠[]) :
 ∃ F,fn_tallest [dY n L]=some (dT F.reverse)/\Fnd n L C m m F:=by
 have hmn:=pI hne
 have key:∃ d,fn_tallest [dY n L]=some d/\∃ F,d=dT F.reverse/\Fnd n L C m m F:=by
  refine kT ?_
  unfold g_tallest
  have e0:cZ 5 [dY n L]=[.pu (dY n L),.no,.no,.no,.no]:=rfl
  rw [e0]
  refine cj (cS (ρ':=[.pu (dY n L),.pu (dU (low L)),.no,.no,.no]) (by simp [dY,n8 hl]) ?_)
  refine cj (cS (ρ':=[.pu (dY n L),.pu (dU (low L)),.ow (.lst (([]:List Int).map Da.int)),.no,.no]) rfl ?_)
  refine cj ?_
  refine gk (enc:=dT) (xs:=(rws n C m).reverse) (fun pre ρ=>∃ F s3 s4,ρ=[.pu (dY n L),.pu (dU (low L)),.ow (.lst (F.map Da.int)),s3,s4]/\Fnd n L C m pre.length F) ?_ ⟨[],_,_,rfl,⟨rfl,.nil,by simp,fun F' x e=>by simp at e⟩⟩ ?_ ?_
  ·unfold AK
   rw [cT (ds:=[dY n L]) rfl rfl hf,ij]
  ·rintro pre row post ρ e ⟨F,s3,s4,rfl,fi⟩
   have hj:pre.length<m:=by
    have:=congrArg fw e
    rw [cy,gz,aF,aD] at this
    lia
   have erow:row=cO n C ((m-1-pre.length:Nat):Int):=by
    have h1:=yh (n:=n) (C:=C) hj
    rw [e,bC (aj _),mF] at h1
    exact Option.some.inj h1
   subst erow
   have hrl:(cO n C ((m-1-pre.length:Nat):Int)).length<=64:=by
    unfold cO
    have:=iR (fun t=>decide (cE C t=((m-1-pre.length:Nat):Int))) (rgI 0 n.toNat)
    rw [eA] at this
    lia
   refine ⟨[.pu (dY n L),.pu (dU (low L)),.ow (.lst (F.map Da.int)),.pu (dT (cO n C ((m-1-pre.length:Nat):Int))),s4],rfl,?_⟩
   have fit:∃ (p:Int->Bool) (t:Int) (r:List Int),d8 [none,none,some 2,some 1] (b7 (gu (aQ 3))) (tgN 1) (oC (eK (tTr (aQ 2))) (tb (x2 (oIn false) (aQ 1) (x2 oIt (aQ 3) (x2 oIt (aQ 2) (rG (xC (.int 1)))))))) (aQ 1) [.pu (dY n L),.pu (dU (low L)),.pu (.lst (F.map Da.int)),.pu (dT (cO n C ((m-1-pre.length:Nat):Int))),s4]=some (.fr,.lst (((cO n C ((m-1-pre.length:Nat):Int)).filter p).map Da.int)) /\
    (cO n C ((m-1-pre.length:Nat):Int)).filter p=t::r/\∀ F' x,F=F'++[x]->(t,x)∈L:=by
    rcases F.eq_nil_or_concat with rfl | ⟨F',x,rfl⟩
    ·have hc:=cX (enc:=Da.int) (xs:=cO n C ((m-1-pre.length:Nat):Int)) (ix:=[none,none,some 2,some 1]) (fi:=b7 (gu (aQ 3))) (i:=1) (c:=oC (eK (tTr (aQ 2))) (tb (x2 (oIn false) (aQ 1) (x2 oIt (aQ 3) (x2 oIt (aQ 2) (rG (xC (.int 1)))))))) (f:=aQ 1)
      (ρ:=[.pu (dY n L),.pu (dU (low L)),.pu (.lst (([]:List Int).map Da.int)),.pu (dT (cO n C ((m-1-pre.length:Nat):Int))),s4]) (p:=fun _=>true) (e:=Da.int) (by simp [dT]) (by lia) fun t ht=>⟨rfl,fun _=>⟨(.pu,.int t),rfl,rfl,rfl⟩⟩
     cases hr:cO n C ((m-1-pre.length:Nat):Int) with
     | nil=>exact absurd hr (hne _ (by lia))
     | cons t r =>
       rw [hr] at hc
       exact ⟨fun _=>true,t,r,hc,dE _,fun F' x e=>by simp at e⟩
    ·rw [iQ] at fi ⊢
     have hgx:=fi.at' F' x rfl
     have hxr:=fi.rg x (by simp)
     have hxC:x∈dh C:=hp.mem_iff.mpr hxr
     obtain ⟨a,haL,hga⟩:∃ a,(a,x)∈L/\cE C a+1=cE C x:=by
      rcases ht.dn x hxC with z | ⟨_,a,h2,h3⟩
      ·rw [hgx] at z;lia
      ·exact ⟨a,h2,h3⟩
     have har:a∈cO n C ((m-1-pre.length:Nat):Int):=eZ.mpr ⟨hp.mem_iff.mp (ht.up x hxC a haL).1,by lia⟩
     have hkey:x∈(low L).map (·.1):=by
      by_cases z:x∈(low L).map (·.1)
      ·exact z
      ·have:=iN z
       have h2:=(fz L x a).mpr haL
       rw [this] at h2
       cases h2
     have hc:=cX (enc:=Da.int) (xs:=cO n C ((m-1-pre.length:Nat):Int)) (ix:=[none,none,some 2,some 1]) (fi:=b7 (gu (aQ 3))) (i:=1) (c:=oC (eK (tTr (aQ 2))) (tb (x2 (oIn false) (aQ 1) (x2 oIt (aQ 3) (x2 oIt (aQ 2) (rG (xC (.int 1)))))))) (f:=aQ 1)
      (ρ:=[.pu (dY n L),.pu (dU (low L)),.pu (.lst ((F'++[x]).map Da.int)),.pu (dT (cO n C ((m-1-pre.length:Nat):Int))),s4]) (p:=fun t=>decide (t∈e6 (low L) x)) (e:=Da.int) (by simp [dT]) (by lia) fun t ht=>⟨?_,fun _=>⟨(.pu,.int t),rfl,rfl,rfl⟩⟩
     ·have hm:a∈(cO n C ((m-1-pre.length:Nat):Int)).filter fun t=>decide (t∈e6 (low L) x):=cJ.mpr ⟨har,by rw [decide_eq_true_eq];exact (fz L x a).mpr haL⟩
      cases hr:(cO n C ((m-1-pre.length:Nat):Int)).filter fun t=>decide (t∈e6 (low L) x) with
      | nil=>rw [hr] at hm;cases hm
      | cons t r =>
        refine ⟨fun t=>decide (t∈e6 (low L) x),t,r,hc,hr,fun F'' x' e=>?_⟩
        obtain ⟨_,e2⟩:=Cg e rfl
        injection e2 with e2 _
        have:t∈(cO n C ((m-1-pre.length:Nat):Int)).filter fun t=>decide (t∈e6 (low L) x):=by rw [hr];exact ak
        rw [<- e2]
        exact (fz L x t).mp (by simpa using (cJ.mp this).2)
     ·have em:(mpR [none,none,some 2,some 1] [.pu (dY n L),.pu (dU (low L)),.pu (.lst ((F'++[x]).map Da.int)),.pu (dT (cO n C ((m-1-pre.length:Nat):Int))),s4]).set 1 (.pu (.int t))=[.no,.pu (.int t),.pu (.lst ((F'++[x]).map Da.int)),.pu (dU (low L))]:=rfl
      rw [em]
      have t1:eK (tTr (aQ 2)) [.no,.pu (.int t),.pu (.lst ((F'++[x]).map Da.int)),.pu (dU (low L))]=some false:=by
       rw [j3,wS,show aQ 2 [.no,.pu (.int t),.pu (.lst ((F'++[x]).map Da.int)),.pu (dU (low L))]=some (.pu,.lst ((F'++[x]).map Da.int)) from rfl]
       dsimp only
       rw [zr,cf]
       cases F'<;>rfl
      have t2:x2 oIt (aQ 2) (rG (xC (.int 1))) [.no,.pu (.int t),.pu (.lst ((F'++[x]).map Da.int)),.pu (dU (low L))]=some (.pu,.int x):=vQ F' x
      have t3:x2 oIt (aQ 3) (x2 oIt (aQ 2) (rG (xC (.int 1)))) [.no,.pu (.int t),.pu (.lst ((F'++[x]).map Da.int)),.pu (dU (low L))]=some (.pu,dD (e6 (low L) x)):=by
       rw [kG,t2]
       exact C4 hkey
      rw [jk,t1]
      dsimp only
      rw [vp,kG,t3,show aQ 1 [.no,.pu (.int t),.pu (.lst ((F'++[x]).map Da.int)),.pu (dU (low L))]=some (.pu,.int t) from rfl]
      dsimp only
      rw [Df]
      rfl
   obtain ⟨p,t,r,hc,hr,hlast⟩:=fit
   have htr:t∈cO n C ((m-1-pre.length:Nat):Int):=(cJ.mp (show t∈(cO n C ((m-1-pre.length:Nat):Int)).filter p by rw [hr];exact ak)).1
   rw [hr] at hc
   refine cj (cS (ρ':=[.pu (dY n L),.pu (dU (low L)),.ow (.lst (F.map Da.int)),.pu (dT (cO n C ((m-1-pre.length:Nat):Int))),.pu (.lst ((t::r).map Da.int))]) ?_ ?_)
   ·rw [ji,sn (ds:=F.map Da.int) rfl hc (mi _)]
    rfl
   refine cS (ρ':=[.pu (dY n L),.pu (dU (low L)),.ow (.lst ((F++[t]).map Da.int)),.pu (dT (cO n C ((m-1-pre.length:Nat):Int))),.pu (.lst ((t::r).map Da.int))]) ?_ ⟨_,_,_,rfl,by rw [aF];exact fi.add Y hj htr hlast⟩
   have z:x2 oIt (aQ 4) (xC (.int 0)) [.pu (dY n L),.pu (dU (low L)),.ow (.lst (F.map Da.int)),.pu (dT (cO n C ((m-1-pre.length:Nat):Int))),.pu (.lst ((t::r).map Da.int))]=some (.pu,.int t):=zH (by decide) rfl
   rw [jO,z,show ([.pu (dY n L),.pu (dU (low L)),.ow (.lst (F.map Da.int)),.pu (dT (cO n C ((m-1-pre.length:Nat):Int))),.pu (.lst ((t::r).map Da.int))]:Rho)[2]?=some (.ow (.lst (F.map Da.int))) from rfl]
   dsimp only
   rw [if_pos ⟨rfl,by rw [ab,fi.len];lia⟩,cf]
   rfl
  ·rintro ρ ⟨F,s3,s4,rfl,fi⟩
   rw [cy,gz] at fi
   refine mI (d:=dT F.reverse) ?_ ⟨F,rfl,fi⟩
   show Res.rt (Da.tup (F.map Da.int).reverse)=_
   rw [<- ij]
   rfl
 obtain ⟨d,ed,F,rfl,fi⟩:=key
 exact ⟨F,ed,fi⟩
end GF
set_option linter.unusedSimpArgs false
namespace GF
open PySem L2 Ry G G3 GW GH G17
theorem qC:∀ {l:List Int},l.Nodup->cN l=l
 | [],_=>rfl
 | a::l,h=>by
   obtain ⟨h1,h2⟩:=be.mp h
   show (if a∈l then cN l else a::cN l)=_
   rw [if_neg h1,qC h2]
theorem u9 {n:Int} {L:List PI} {R:List Int} (hr:R.Pairwise fun a b=>Ms.ltI a b=true) (hne:R≠[]) (hrg:∀ x∈R,0<=x/\x<n) (ha:∀ x∈R,∀ y∈R,(x,y)∉L) (hl:R.length<64):fn__law_is_row [dY n L,dT R]=some (.bl true):=by
 have nd:=xP hr
 refine t7 ?_
 unfold g__law_is_row
 have e0:cZ 3 [dY n L,dT R]=[.pu (dY n L),.pu (dT R),.no]:=rfl
 rw [e0]
 refine cj (lZ (b:=false) ?_ (fun q=>absurd q ah) fun _=>cS rfl ?_)
 ·have h1:eK (tTr (eV fC (aQ 1))) [.pu (dY n L),.pu (dT R),.no]=some false:=rfl
  have h2:eF (aQ 1) [.pu (dY n L),.pu (dT R),.no]=some (.fr,.lst (R.map Da.int)):=by
   unfold eF
   rw [show aQ 1 [.pu (dY n L),.pu (dT R),.no]=some (.pu,.tup (R.map Da.int)) from rfl]
   dsimp only
   rw [eO]
   dsimp only
   rw [if_pos hl,qC nd,Ms.strict_ext Ms.linI (Ms.srt_strict Ms.linI nd) hr fun x=>(Ms.srt_perm R).mem_iff]
  have h3:tb (x2 (oEq true) (xB lD (aO (aQ 1) ca)) (eF (aQ 1))) [.pu (dY n L),.pu (dT R),.no]=some false:=by
   rw [vp,kG,h2,show xB lD (aO (aQ 1) ca) [.pu (dY n L),.pu (dT R),.no]=some (.fr,.lst (R.map Da.int)) from rfl]
   dsimp only
   rw [Ax]
   simp
  have h4:eK (tTr (aQ 1)) [.pu (dY n L),.pu (dT R),.no]=some false:=by
   cases R with
   | nil=>exact absurd rfl hne
   | cons a R=>rfl
  rw [jk,h1]
  dsimp only
  rw [jk,h3]
  dsimp only
  rw [h4]
 refine cj ?_
 refine gk (enc:=Da.int) (xs:=R) (fun _ ρ=>∃ s2,ρ=[.pu (dY n L),.pu (dT R),s2]) (by simp [dT]) ⟨_,rfl⟩ ?_ ?_
 ·rintro pre x post ρ e ⟨s2,rfl⟩
  have hx:x∈R:=by rw [e];simp
  refine ⟨[.pu (dY n L),.pu (dT R),.pu (.int x)],rfl,?_⟩
  refine lZ (b:=false) ?_ (fun q=>absurd q ah) fun _=>cS rfl ⟨_,rfl⟩
  have hz:x2 oIt (aQ 0) (xC (.int 0)) [.pu (dY n L),.pu (dT R),.pu (.int x)]=some (.pu,.int n):=by simp [dY]
  have h1:eK (tb (iL (oB fun i j=>decide (i<=j)) oLt (xC (.int 0)) (aQ 2) (x2 oIt (aQ 0) (xC (.int 0))))) [.pu (dY n L),.pu (dT R),.pu (.int x)]=some false:=by
   simp only [j3,vp,qO,zK,hO,hz,bh,bz,C5,zx,decide_eq_true (hrg x hx).1,decide_eq_true (hrg x hx).2]
   rfl
  have hc:=cX (enc:=Da.int) (xs:=R) (ix:=[none,none,some 2,some 0]) (fi:=b7 (gu (aQ 1))) (i:=1) (c:=tb (x2 (oIn false) (oD (aO (aQ 2) (aO (aQ 1) ca))) (x2 oIt (aQ 3) (xC (.int 1))))) (f:=aQ 1) (ρ:=[.pu (dY n L),.pu (dT R),.pu (.int x)]) (p:=fun o=>decide ((x,o)∈L)) (e:=Da.int)
   (by simp [dT]) (by lia) fun o ho=>⟨by
     have em:(mpR [none,none,some 2,some 0] [.pu (dY n L),.pu (dT R),.pu (.int x)]).set 1 (.pu (.int o))=[.no,.pu (.int o),.pu (.int x),.pu (dY n L)]:=rfl
     rw [em]
     simp [dY],fun _=>⟨(.pu,.int o),rfl,rfl,rfl⟩⟩
  have he:R.filter (fun o=>decide ((x,o)∈L))=[]:=List.filter_eq_nil_iff.mpr fun o ho=>by rw [decide_eq_true_eq];exact ha x hx o ho
  rw [jk,h1]
  dsimp only
  rw [wS,hc,he]
  rfl
 ·rintro ρ ⟨s2,rfl⟩
  exact mI rfl rfl
theorem oU {n:Int} {L:List PI} {T:List Int} (hne:T≠[]) (hrg:∀ x∈T,0<=x/\x<n) (hp:T.Pairwise fun a b=>(a,b)∈L) (hl:T.length<=100):fn__law_is_tower [dY n L,dT T]=some (.bl true):=by
 refine t7 ?_
 unfold g__law_is_tower
 have e0:cZ 2 [dY n L,dT T]=[.pu (dY n L),.pu (dT T)]:=rfl
 rw [e0]
 obtain ⟨a,r,rfl⟩:∃ a r,T=a::r:=by cases T with | nil=>exact absurd rfl hne | cons a r=>exact ⟨a,r,rfl⟩
 refine cj (lZ (b:=false) ?_ (fun q=>absurd q ah) fun _=>cS rfl ?_)
 ·have h1:eK (tTr (eV fC (aQ 1))) [.pu (dY n L),.pu (dT (a::r))]=some false:=rfl
  have h2:eK (tTr (aQ 1)) [.pu (dY n L),.pu (dT (a::r))]=some false:=rfl
  have hz:x2 oIt (aQ 0) (xC (.int 0)) [.pu (dY n L),.pu (dT (a::r))]=some (.pu,.int n):=by simp [dY]
  have hy:x2 oIt (aQ 1) (xC (.int 0)) [.pu (dY n L),.pu (dT (a::r))]=some (.pu,.int a):=by simp [dT]
  have hq:=hrg a ak
  have h3:eK (tb (iL (oB fun i j=>decide (i<=j)) oLt (xC (.int 0)) (x2 oIt (aQ 1) (xC (.int 0))) (x2 oIt (aQ 0) (xC (.int 0))))) [.pu (dY n L),.pu (dT (a::r))]=some false:=by
   simp only [j3,vp,qO,zK,hy,hz,C5,zx,decide_eq_true hq.1,decide_eq_true hq.2]
   rfl
  rw [jk,h1]
  dsimp only
  rw [jk,h2]
  dsimp only
  rw [h3]
 have hlen:(a::r).length=r.length+1:=rfl
 have hc:=cX (enc:=Da.int) (xs:=rgI 1 r.length) (ix:=[none,none,some 1,some 0]) (fi:=xn (aO (xC (.int 1)) (aO (xB nU (aO (aQ 1) ca)) ca))) (i:=1) (c:=fun _=>some true)
  (f:=x2 (oIn false) (oD (aO (x2 oIt (aQ 2) (x2 (oI (fun _ _=>true) (·-·)) (aQ 1) (xC (.int 1)))) (aO (x2 oIt (aQ 2) (aQ 1)) ca))) (x2 oIt (aQ 3) (xC (.int 1)))) (ρ:=[.pu (dY n L),.pu (dT (a::r))]) (p:=fun _=>true) (e:=fun _=>.bl true)
  ?_ (by rw [eA];lia) fun k hk=>⟨rfl,fun _=>⟨(.pu,.bl true),?_,rfl,rfl⟩⟩
 ·rw [dE] at hc
  refine mI (d:=.bl true) ?_ rfl
  rw [jc,xE,b9,hc,dG]
  dsimp only
  rw [pf]
  simp
 ·simp only [xc,b9,zK,xE,hO,dG,bh,bz,dT,AS,ab,hlen]
  rw [if_pos (by lia),dm]
  congr 3
  lia
 ·have hk':=fD.mp hk
  obtain ⟨j,rfl⟩:∃ j:Nat,k=((j+1:Nat):Int):=⟨(k-1).toNat,by lia⟩
  have hj:j+1<(a::r).length:=by lia
  have em:(mpR [none,none,some 1,some 0] [.pu (dY n L),.pu (dT (a::r))]).set 1 (.pu (.int ((j+1:Nat):Int)))=[.no,.pu (.int ((j+1:Nat):Int)),.pu (dT (a::r)),.pu (dY n L)]:=rfl
  rw [em]
  have i1:x2 (oI (fun _ _=>true) (·-·)) (aQ 1) (xC (.int 1)) [.no,.pu (.int ((j+1:Nat):Int)),.pu (dT (a::r)),.pu (dY n L)]=some (.pu,.int (j:Int)):=by
   show some (Kd.pu,Da.int (((j+1:Nat):Int)-1))=_
   congr 3
   lia
  have g1:x2 oIt (aQ 2) (x2 (oI (fun _ _=>true) (·-·)) (aQ 1) (xC (.int 1))) [.no,.pu (.int ((j+1:Nat):Int)),.pu (dT (a::r)),.pu (dY n L)]=some (.pu,.int (a::r)[j]):=by
   rw [kG,i1]
   exact wN (by lia) (by rw [bn,av,ae (by lia)];rfl)
  have g2:x2 oIt (aQ 2) (aQ 1) [.no,.pu (.int ((j+1:Nat):Int)),.pu (dT (a::r)),.pu (dY n L)]=some (.pu,.int (a::r)[j+1]) :=
   wN (a:=.pu) (b:=.pu) (by lia) (by rw [bn,av,ae hj];rfl)
  have g3:oD (aO (x2 oIt (aQ 2) (x2 (oI (fun _ _=>true) (·-·)) (aQ 1) (xC (.int 1)))) (aO (x2 oIt (aQ 2) (aQ 1)) ca)) [.no,.pu (.int ((j+1:Nat):Int)),.pu (dT (a::r)),.pu (dY n L)]=some (.pu,.tup [.int (a::r)[j],.int (a::r)[j+1]]):=by
   rw [tV,b9,g1,b9,g2,dG]
   rfl
  have g4:x2 oIt (aQ 3) (xC (.int 1)) [.no,.pu (.int ((j+1:Nat):Int)),.pu (dT (a::r)),.pu (dY n L)]=some (.pu,.tup (L.map dP)):=by simp [dY]
  rw [kG,g3,g4]
  dsimp only
  rw [Ar,decide_eq_true (bE.mp hp j (j+1) (by lia) hj (by lia))]
  rfl
end GF
namespace G4
open PySem L2 Ry G GW GF
def g_law:Rho->Res:=(gd (kg 1 (cC fn__law_yard (aO (aQ 0) (aO (xC (.int 0)) (aO (x2 oIt (vT (aO (xC (.int 8)) (aO (xC (.int 12)) ca))) (xB Ac (aO (x2 (oEq false) (x2 (oI (fun _ j=>decide (0<j)) (·%·)) (cC fn__law_cell (aO (aQ 0) (aO (xC (.int 3)) ca))) (xC (.int 8))) (xC (.int 0))) ca))) ca)))))
 (gd (kg 2 (cC fn_floors (aO (aQ 1) ca)))
 (gd (sIf (oC (eK (tTr (eV fC (aQ 2)))) (eK (tTr (xB vo (aO (d8 [none,none,none,some 1] (b7 (gu (aQ 2))) (tgN 1) (fun _=>some true) (cC fn__law_is_row (aO (aQ 3) (aO (aQ 1) ca)))) ca))))) (eG (xC (.bl false))) iT)
 (gd (vv 3 (xC2 (.fr,.dK [] [])))
 (gd (lf (vi (gu (aQ 2))) (tgT 2 (fA (tgN 4) (fA (tgN 5) kC)))
 (lf (b7 (gu (aQ 5))) (tgN 6)
 (gd (sIf (tb (x2 (oIn false) (aQ 6) (aQ 3))) (eG (xC (.bl false))) iT)
 (xL 3 (aQ 6) (aQ 4)))))
 (gd (sIf (tb (x2 (oEq true) (xB m9 (aO (aQ 3) ca)) (x2 oIt (aQ 1) (xC (.int 0))))) (eG (xC (.bl false))) iT)
 (gd (lf (mB (aO (x2 oIt (aQ 1) (xC (.int 0))) ca)) (tgN 6)
 (gd (kg 7 (fE 3 (d8 [none,none,some 3] (b7 (gu (cC fn__law_below (aO (aQ 1) (aO (aQ 6) ca))))) (tgN 1) (fun _=>some true) (x2 oIt (aQ 2) (aQ 1)))))
 (sIf (oC (eK (tTr (xB vo (aO (fE 3 (d8 [none,none,some 3,some 6] (b7 (gu (aQ 7))) (tgN 1) (fun _=>some true) (x2 oLt (aQ 1) (x2 oIt (aQ 2) (aQ 3))))) ca)))) (oN (tb (x2 (oB fun i j=>decide (j<i)) (x2 oIt (aQ 3) (aQ 6)) (xC (.int 0)))) (tb (x2 (oIn true) (x2 (oI (fun _ _=>true) (·-·)) (x2 oIt (aQ 3) (aQ 6)) (xC (.int 1))) (aQ 7))))) (eG (xC (.bl false))) iT)))
 (gd (kg 8 (cC fn_tallest (aO (aQ 1) ca)))
 (eG (Ae (cC fn__law_is_tower (aO (aQ 1) (aO (aQ 8) ca))) (x2 (oEq false) (xB nU (aO (aQ 8) ca)) (xB nU (aO (aQ 2) ca)))))))))))))
def fn_law:List Da->Option Da:=io 9 g_law
end G4
set_option linter.unusedSimpArgs false
namespace G4
open PySem L2 Ry G G3 GW GH G17 GF
theorem we (n:Bool) (a b:Kd) (i j:Int):oEq n (a,.int i) (b,.int j)=some (.pu,.bl (if n then !decide (i=j) else decide (i=j))):=by
 rw [Ao]
 congr 3
def below (L:List PI) (t:Int):List Int:=(L.filter fun p=>decide (p.2=t)).map (·.1)
theorem iJ {L:List PI} {t a:Int}:a∈below L t↔(a,t)∈L:=by
 unfold below
 rw [bf]
 constructor
 ·rintro ⟨p,hp,rfl⟩
  obtain ⟨h1,h2⟩:=cJ.mp hp
  rw [<- (of_decide_eq_true h2)]
  exact h1
 ·intro h
  exact ⟨(a,t),cJ.mpr ⟨h,by simp⟩,rfl⟩
theorem vG {n:Int} {L:List PI} (hl:L.length<=1000) (t:Int):fn__law_below [dY n L,.int t]=some (.lst ((below L t).map Da.int)):=by
 have hc:=n5 (enc:=dP) (xs:=L) (ix:=[none,none,none,some 1]) (fi:=b7 (gu (x2 oIt (aQ 0) (xC (.int 1))))) (i:=1) (j:=2) (c:=tb (x2 (oEq false) (aQ 2) (aQ 3))) (f:=aQ 1) (ρ:=[.pu (dY n L),.pu (.int t)]) (p:=fun p=>decide (p.2=t)) (e:=fun p=>.int p.1) (a:=fun p=>.int p.1) (b:=fun p=>.int p.2)
  (by simp [dY]) (by lia) (fun p hp=>⟨by simp only [vp,kG,hO,mpR,ax,gs,List.set_cons_zero,List.set_cons_succ,bh,bz,Option.getD_some,we,bN,if_false],fun _=>⟨(.pu,.int p.1),by simp [mpR],rfl,rfl⟩⟩) (by decide) (fun _=>rfl)
 refine qP (ρ:=[.pu (dY n L),.pu (.int t)]) rfl ?_
 simp only [g__law_below,jc,hc]
 unfold below
 rw [aS]
 rfl
theorem AG {n:Int} {L C:List PI} {m:Nat} (hp:(dh C).Perm (rgI 0 n.toNat)) (ht:Hts L C) (he:cO n C (m:Int)=[]):∀ (k:Nat) (x:Int),x∈rgI 0 n.toNat->cE C x≠(m:Int)+k
 | 0,x,hx,e=>by
   have:x∈cO n C (m:Int):=eZ.mpr ⟨hx,by lia⟩
   rw [he] at this
   cases this
 | k+1,x,hx,e=>by
   have hxC:=hp.mem_iff.mpr hx
   rcases ht.dn x hxC with z | ⟨_,a,h2,h3⟩
   ·lia
   ·exact AG hp ht he k a (hp.mem_iff.mp (ht.up x hxC a h2).1) (by lia)
theorem xu (g:Nat->Da):∀ (m lo:Nat),jC (lo:Int) ((hZ lo m).map g)=(hZ lo m).map fun (i:Nat)=>.tup [.int (i:Int),g i]
 | 0,lo=>rfl
 | m+1,lo=>by
   rw [im,ax,ax]
   show Da.tup [.int (lo:Int),g lo]::jC ((lo:Int)+1) _=_
   rw [show (lo:Int)+1=((lo+1:Nat):Int) by lia,xu g m (lo+1)]
structure zc (n:Int) (C A:List PI) (P:Int->Prop):Prop where
 nd:(dh A).Nodup
 mem:∀ x,x∈dh A↔x∈rgI 0 n.toNat/\P x
 at':∀ x∈dh A,cE A x=cE C x
theorem zc.len {n:Int} {C A:List PI} {P:Int->Prop} (h:zc n C A P):A.length<=n.toNat:=by
 have:=Ms.length_le_of_subset h.nd (m:=rgI 0 n.toNat) fun x hx=>((h.mem x).mp hx).1
 rw [vO,eA] at this
 exact this
theorem zc.add {n:Int} {C A:List PI} {P P':Int->Prop} {x:Int} (h:zc n C A P) (hx:x∈rgI 0 n.toNat) (hn:¬ P x) (hp:∀ y,P' y↔P y\/y=x):zc n C (A++[(x,cE C x)]) P':=by
 have hxA:x∉dh A:=fun z=>hn ((h.mem x).mp z).2
 refine ⟨?_,fun y=>?_,fun y hy=>?_⟩
 ·rw [lK]
  exact bJ.mpr ⟨h.nd,aY _ _,fun a ha b hb=>by rw [am] at hb;subst hb;intro z;subst z;exact hxA ha⟩
 ·rw [dF,h.mem,hp]
  constructor
  ·rintro (⟨a,b⟩ | rfl)
   ·exact ⟨a,.inl b⟩
   ·exact ⟨hx,.inr rfl⟩
  ·rintro ⟨a,b | b⟩
   ·exact .inl ⟨a,b⟩
   ·exact .inr b
 ·rcases dF.mp hy with z | z
  ·rw [fJ z];exact h.at' y z
  ·subst z;exact jJ hxA
theorem law_eq (S:List Int):fn_law [.lst (S.map Da.int)]=some (.bl true):=by
 obtain ⟨most,hmost,hm1,hm2⟩:∃ most:Int,x2 oIt (vT (aO (xC (.int 8)) (aO (xC (.int 12)) ca))) (xB Ac (aO (x2 (oEq false) (x2 (oI (fun _ j=>decide (0<j)) (·%·)) (cC fn__law_cell (aO (aQ 0) (aO (xC (.int 3)) ca))) (xC (.int 8))) (xC (.int 0))) ca)) [.pu (.lst (S.map Da.int)),.no,.no,.no,.no,.no,.no,.no,.no]=some (.pu,.int most)/\1<=most/\most<=12:=by
  have hc:cC fn__law_cell (aO (aQ 0) (aO (xC (.int 3)) ca)) [.pu (.lst (S.map Da.int)),.no,.no,.no,.no,.no,.no,.no,.no]=some (.pu,.int (S.getD (3:Int).toNat 0)):=cT (ds:=[.lst (S.map Da.int),.int 3]) rfl rfl (mf S 3 (by decide))
  generalize S.getD (3:Int).toNat 0=c at hc
  have h1:x2 (oEq false) (x2 (oI (fun _ j=>decide (0<j)) (·%·)) (cC fn__law_cell (aO (aQ 0) (aO (xC (.int 3)) ca))) (xC (.int 8))) (xC (.int 0)) [.pu (.lst (S.map Da.int)),.no,.no,.no,.no,.no,.no,.no,.no]=some (.pu,.bl (decide (c%8=0))):=by
   rw [kG,kG,hc]
   show oEq false (Kd.pu,Da.int (c%8)) (Kd.pu,Da.int 0)=_
   rw [we]
   rfl
  by_cases hz:c%8=0
  ·refine ⟨12,?_,by decide,by decide⟩
   rw [kG,xE,b9,h1,dG,decide_eq_true hz]
   rfl
  ·refine ⟨8,?_,by decide,by decide⟩
   rw [kG,xE,b9,h1,dG,decide_eq_false hz]
   rfl
 obtain ⟨n,L,hY,h1,h12,Y⟩:=zA S 0 most (by decide) hm1 hm2
 have hl:L.length<=1000:=by
  have:=qD Y.nd Y.rg fun a b h1 h2=>Y.irr a (Y.tr _ _ _ h1 h2)
  have h3:n.toNat<=12:=by lia
  have:=bH this (rT h3 h3)
  lia
 obtain ⟨C,m,hp,ht,hf,hne,hend⟩:=uY Y (by lia) (by lia) hl
 have hmn:=pI hne
 have hlt:∀ x∈rgI 0 n.toNat,cE C x<(m:Int):=fun x hx=>by
  have h0:=ht.ge (hp.mem_iff.mpr hx)
  rcases Int.lt_or_le (cE C x) (m:Int) with z | z
  ·exact z
  ·exact absurd (show cE C x=(m:Int)+((cE C x-m).toNat:Nat) by lia) (AG hp ht hend _ x hx)
 have hm0:0<m:=by
  have:=hlt 0 (fD.mpr (by lia))
  have h0:=ht.ge (hp.mem_iff.mpr (fD.mpr (show (0:Int)<=0/\(0:Int)<0+(n.toNat:Int) by lia)))
  lia
 obtain ⟨F,hT,fi⟩:=rh Y (by lia) (by lia) hl hp ht hf hne
 have hrow:∀ R∈rws n C m,fn__law_is_row [dY n L,dT R]=some (.bl true):=fun R hR=>by
  obtain ⟨i,hi,rfl⟩:=bf.mp hR
  refine u9 ((gG _ _).sublist xS) (hne i (by simpa using hi)) (fun x hx=>?_) (fun x hx y hy hxy=>?_) ?_
  ·have:=fD.mp (eZ.mp hx).1;lia
  ·obtain ⟨_,e1⟩:=eZ.mp hx
   obtain ⟨y1,e2⟩:=eZ.mp hy
   have:=(ht.up y (hp.mem_iff.mpr y1) x hxy).2
   lia
  ·have:=iR (fun t=>decide (cE C t=(i:Int))) (rgI 0 n.toNat)
   rw [eA] at this
   show (cO n C (i:Int)).length<64
   unfold cO
   lia
 refine t7 ?_
 unfold g_law
 have e0:cZ 9 [.lst (S.map Da.int)]=[.pu (.lst (S.map Da.int)),.no,.no,.no,.no,.no,.no,.no,.no]:=rfl
 rw [e0]
 refine cj (cS (ρ':=[.pu (.lst (S.map Da.int)),.pu (dY n L),.no,.no,.no,.no,.no,.no,.no]) ?_ ?_)
 ·rw [ji,cT (ds:=[.lst (S.map Da.int),.int 0,.int most]) (rs:=[(.pu,.lst (S.map Da.int)),(.pu,.int 0),(.pu,.int most)]) (by rw [b9,b9,b9,hmost,dG];rfl) rfl hY]
  rfl
 refine cj (cS (ρ':=[.pu (.lst (S.map Da.int)),.pu (dY n L),.pu (.tup ((rws n C m).map dT)),.no,.no,.no,.no,.no,.no]) ?_ ?_)
 ·rw [ji,cT (ds:=[dY n L]) rfl rfl hf]
  rfl
 refine cj (lZ (b:=false) ?_ (fun q=>absurd q ah) fun _=>cS rfl ?_)
 ·have hc:=cX (enc:=dT) (xs:=rws n C m) (ix:=[none,none,none,some 1]) (fi:=b7 (gu (aQ 2))) (i:=1) (c:=fun _=>some true) (f:=cC fn__law_is_row (aO (aQ 3) (aO (aQ 1) ca))) (ρ:=[.pu (.lst (S.map Da.int)),.pu (dY n L),.pu (.tup ((rws n C m).map dT)),.no,.no,.no,.no,.no,.no]) (p:=fun _=>true) (e:=fun _=>.bl true)
   (by simp) (by rw [gz];lia) fun R hR=>⟨rfl,fun _=>⟨(.pu,.bl true),cT (ds:=[dY n L,dT R]) rfl rfl (hrow R hR),rfl,rfl⟩⟩
  rw [dE] at hc
  have h1:eK (tTr (eV fC (aQ 2))) [.pu (.lst (S.map Da.int)),.pu (dY n L),.pu (.tup ((rws n C m).map dT)),.no,.no,.no,.no,.no,.no]=some false:=rfl
  rw [jk,h1]
  dsimp only
  rw [j3,wS,xE,b9,hc,dG]
  dsimp only
  rw [pf]
  simp
 refine cj (cS (ρ':=[.pu (.lst (S.map Da.int)),.pu (dY n L),.pu (.tup ((rws n C m).map dT)),.ow (dC []),.no,.no,.no,.no,.no]) rfl ?_)
 refine cj ?_
 refine gk (enc:=fun (i:Nat)=>.tup [.int (i:Int),dT (cO n C (i:Int))]) (xs:=hZ 0 m) (fun pre ρ=>∃ A s4 s5 s6,ρ=[.pu (.lst (S.map Da.int)),.pu (dY n L),.pu (.tup ((rws n C m).map dT)),.ow (dC A),s4,s5,s6,.no,.no]/\zc n C A fun x=>cE C x<(pre.length:Int)) ?_ ⟨[],_,_,_,rfl,⟨.nil,fun x=>?_,by simp [dh]⟩⟩ ?_ ?_
 ·have:vi (gu (aQ 2)) [.pu (.lst (S.map Da.int)),.pu (dY n L),.pu (.tup ((rws n C m).map dT)),.ow (dC []),.no,.no,.no,.no,.no]=some (jC 0 ((rws n C m).map dT)):=rfl
  rw [this]
  unfold rws
  rw [aS,dR]
  exact congrArg some (xu (fun i=>dT (cO n C (i:Int))) m 0)
 ·constructor
  ·intro z;simp [dh] at z
  ·rintro ⟨hx,z⟩
   have:=ht.ge (hp.mem_iff.mpr hx)
   simp at z
   lia
 ·rintro pre k post ρ e ⟨A,s4,s5,s6,rfl,ao⟩
  have hk:k=pre.length/\k<m:=by
   have h1:=congrArg (fun l=>l[pre.length]?) e
   have h2:=congrArg fw e
   rw [km,aF,aD] at h2
   simp only [bC (aj _),mF,bh] at h1
   rw [List.getElem?_range' (by lia)] at h1
   have:=Option.some.inj h1
   lia
  obtain ⟨hk1,hk2⟩:=hk
  refine ⟨[.pu (.lst (S.map Da.int)),.pu (dY n L),.pu (.tup ((rws n C m).map dT)),.ow (dC A),.pu (.int (k:Int)),.pu (dT (cO n C (k:Int))),s6,.no,.no],rfl,?_⟩
  refine gk (enc:=Da.int) (xs:=cO n C (k:Int)) (fun pre2 ρ=>∃ A s6,ρ=[.pu (.lst (S.map Da.int)),.pu (dY n L),.pu (.tup ((rws n C m).map dT)),.ow (dC A),.pu (.int (k:Int)),.pu (dT (cO n C (k:Int))),s6,.no,.no]/\zc n C A fun x=>cE C x<(k:Int)\/x∈pre2) (by simp [dT]) ⟨A,_,rfl,⟨ao.nd,fun x=>by rw [ao.mem];simp [hk1],ao.at'⟩⟩ ?_ ?_
  ·rintro pre2 x post2 ρ e2 ⟨A,s6,rfl,ao⟩
   have hx:x∈cO n C (k:Int):=by rw [e2];simp
   obtain ⟨hxr,hxk⟩:=eZ.mp hx
   have hx2:x∉pre2:=fun z=>by
    have nd:(cO n C (k:Int)).Nodup:=xP ((gG _ _).sublist xS)
    rw [e2] at nd
    exact (bJ.mp nd).2.2 x z x ak rfl
   have hnp:¬ (cE C x<(k:Int)\/x∈pre2):=fun z=>z.elim (fun z=>by lia) hx2
   have hxA:x∉dh A:=fun z=>hnp ((ao.mem x).mp z).2
   refine ⟨[.pu (.lst (S.map Da.int)),.pu (dY n L),.pu (.tup ((rws n C m).map dT)),.ow (dC A),.pu (.int (k:Int)),.pu (dT (cO n C (k:Int))),.pu (.int x),.no,.no],rfl,?_⟩
   refine cj (lZ (b:=false) ?_ (fun q=>absurd q ah) fun _=>cS rfl ?_)
   ·rw [vp,kG,show aQ 6 [.pu (.lst (S.map Da.int)),.pu (dY n L),.pu (.tup ((rws n C m).map dT)),.ow (dC A),.pu (.int (k:Int)),.pu (dT (cO n C (k:Int))),.pu (.int x),.no,.no]=some (.pu,.int x) from rfl,show aQ 3 [.pu (.lst (S.map Da.int)),.pu (dY n L),.pu (.tup ((rws n C m).map dT)),.ow (dC A),.pu (.int (k:Int)),.pu (dT (cO n C (k:Int))),.pu (.int x),.no,.no]=some (.bo,dC A) from rfl]
    dsimp only
    rw [Dj,decide_eq_false hxA]
    rfl
   refine cS (ρ':=[.pu (.lst (S.map Da.int)),.pu (dY n L),.pu (.tup ((rws n C m).map dT)),.ow (dC (A++[(x,cE C x)])),.pu (.int (k:Int)),.pu (dT (cO n C (k:Int))),.pu (.int x),.no,.no]) ?_ ⟨_,_,rfl,ao.add hxr hnp fun y=>?_⟩
   ·rw [uA]
    show (if cD (Kd.pu,Da.int (k:Int))=true then (match Aa (dC A) (.int x) (.int (k:Int)) with | some d'=>Res.nx _ | none=>.bad) else .bad)=_
    rw [if_pos (iB _),xJ hxA ao.nd (by have:=ao.len;lia),hxk]
    rfl
   ·rw [aG,am,or_assoc]
  ·rintro ρ ⟨A,s6,rfl,ao⟩
   refine ⟨A,_,_,s6,rfl,⟨ao.nd,fun x=>?_,ao.at'⟩⟩
   rw [ao.mem,aF,bx]
   constructor
   ·rintro ⟨h1,h2 | h2⟩
    ·exact ⟨h1,by lia⟩
    ·have:=(eZ.mp h2).2
     exact ⟨h1,by lia⟩
   ·rintro ⟨h1,h2⟩
    refine ⟨h1,?_⟩
    by_cases z:cE C x<(k:Int)
    ·exact .inl z
    ·exact .inr (eZ.mpr ⟨h1,by lia⟩)
 rintro ρ ⟨A,s4,s5,s6,rfl,ao⟩
 rw [km] at ao
 have hall:∀ x,x∈dh A↔x∈rgI 0 n.toNat:=fun x=>by rw [ao.mem];exact ⟨fun h=>h.1,fun h=>⟨h,hlt x h⟩⟩
 have hAl:A.length=n.toNat:=by
  refine pS ao.len ?_
  have:=Ms.length_le_of_subset (jI _ _) (l:=rgI 0 n.toNat) (m:=dh A) fun x hx=>(hall x).mpr hx
  rw [vO,eA] at this
  exact this
 have gA:∀ x∈rgI 0 n.toNat,cE A x=cE C x:=fun x hx=>ao.at' x ((hall x).mpr hx)
 have hz:∀ s4 s5 s6 s7,x2 oIt (aQ 1) (xC (.int 0)) [.pu (.lst (S.map Da.int)),.pu (dY n L),.pu (.tup ((rws n C m).map dT)),.ow (dC A),s4,s5,s6,s7,.no]=some (.pu,.int n):=fun _ _ _ _=>by simp [dY]
 refine cj (lZ (b:=false) ?_ (fun q=>absurd q ah) fun _=>cS rfl ?_)
 ·have h1:xB m9 (aO (aQ 3) ca) [.pu (.lst (S.map Da.int)),.pu (dY n L),.pu (.tup ((rws n C m).map dT)),.ow (dC A),s4,s5,s6,.no,.no]=some (.pu,.int n):=by
   show (none:Option Rv).or (some (Kd.pu,Da.int ((A.map fun e=>(Sum.inl e.1:Key)).length:Nat)))=_
   rw [ab,hAl,Int.toNat_of_nonneg (by lia)]
   rfl
  rw [vp,kG,h1,hz]
  dsimp only
  rw [we,decide_eq_true rfl]
  rfl
 refine cj ?_
 refine gk (enc:=Da.int) (xs:=rgI 0 n.toNat) (fun _ ρ=>∃ s6 s7,ρ=[.pu (.lst (S.map Da.int)),.pu (dY n L),.pu (.tup ((rws n C m).map dT)),.ow (dC A),s4,s5,s6,s7,.no]) ?_ ⟨_,_,rfl⟩ ?_ ?_
 ·rw [qv,b9,hz,dG]
  dsimp only
  rw [if_pos (by lia),dm]
 ·rintro pre x post ρ e ⟨s6,s7,rfl⟩
  have hx:x∈rgI 0 n.toNat:=by rw [e];simp
  have hxC:=hp.mem_iff.mpr hx
  have hbr:∀ u∈below L x,u∈rgI 0 n.toNat:=fun u hu=>hp.mem_iff.mp (ht.up x hxC u (iJ.mp hu)).1
  have hbl:(below L x).length<=1000:=by
   unfold below
   rw [ab]
   have:=iR (fun p:PI=>decide (p.2=x)) L
   lia
  refine ⟨[.pu (.lst (S.map Da.int)),.pu (dY n L),.pu (.tup ((rws n C m).map dT)),.ow (dC A),s4,s5,.pu (.int x),s7,.no],rfl,?_⟩
  refine cj (cS (ρ':=[.pu (.lst (S.map Da.int)),.pu (dY n L),.pu (.tup ((rws n C m).map dT)),.ow (dC A),s4,s5,.pu (.int x),.pu (.lst (((below L x).map (cE A)).map Da.int)),.no]) ?_ ?_)
  ·have hc:=cX (enc:=Da.int) (xs:=below L x) (ix:=[none,none,some 3]) (fi:=b7 (gu (cC fn__law_below (aO (aQ 1) (aO (aQ 6) ca))))) (i:=1) (c:=fun _=>some true) (f:=x2 oIt (aQ 2) (aQ 1)) (ρ:=[.pu (.lst (S.map Da.int)),.pu (dY n L),.pu (.tup ((rws n C m).map dT)),.pu (dC A),s4,s5,.pu (.int x),s7,.no]) (p:=fun _=>true) (e:=fun u=>.int (cE A u))
    (by rw [jH,qw,cT (ds:=[dY n L,.int x]) rfl rfl (vG hl x)]) (by lia) fun u hu=>⟨rfl,fun _=>⟨(.pu,.int (cE A u)),by
      have em:(mpR [none,none,some 3] [.pu (.lst (S.map Da.int)),.pu (dY n L),.pu (.tup ((rws n C m).map dT)),.pu (dC A),s4,s5,.pu (.int x),s7,.no]).set 1 (.pu (.int u))=[.no,.pu (.int u),.pu (dC A)]:=rfl
      rw [em]
      exact gL ((hall u).mpr (hbr u hu)),rfl,rfl⟩⟩
   rw [dE] at hc
   rw [ji,lA (d:=dC A) (r:=(.fr,.lst (((below L x).map (cE A)).map Da.int))) rfl rfl (by rw [aS];exact hc) (mi _)]
   rfl
  refine lZ (b:=false) ?_ (fun q=>absurd q ah) fun _=>cS rfl ⟨_,_,rfl⟩
  have ga:x2 oIt (aQ 3) (aQ 6) [.pu (.lst (S.map Da.int)),.pu (dY n L),.pu (.tup ((rws n C m).map dT)),.ow (dC A),s4,s5,.pu (.int x),.pu (.lst (((below L x).map (cE A)).map Da.int)),.no]=some (.pu,.int (cE A x)):=gL (k:=.bo) (k':=.pu) ((hall x).mpr hx)
  have hc:=cX (enc:=Da.int) (xs:=(below L x).map (cE A)) (ix:=[none,none,some 3,some 6]) (fi:=b7 (gu (aQ 7))) (i:=1) (c:=fun _=>some true) (f:=x2 oLt (aQ 1) (x2 oIt (aQ 2) (aQ 3))) (ρ:=[.pu (.lst (S.map Da.int)),.pu (dY n L),.pu (.tup ((rws n C m).map dT)),.pu (dC A),s4,s5,.pu (.int x),.pu (.lst (((below L x).map (cE A)).map Da.int)),.no]) (p:=fun _=>true) (e:=fun _=>.bl true)
   (by simp) (by rw [ab];lia) fun h hh=>⟨rfl,fun _=>⟨(.pu,.bl true),by
     obtain ⟨u,hu,rfl⟩:=bf.mp hh
     have em:(mpR [none,none,some 3,some 6] [.pu (.lst (S.map Da.int)),.pu (dY n L),.pu (.tup ((rws n C m).map dT)),.pu (dC A),s4,s5,.pu (.int x),.pu (.lst (((below L x).map (cE A)).map Da.int)),.no]).set 1 (.pu (.int (cE A u)))=[.no,.pu (.int (cE A u)),.pu (dC A),.pu (.int x)]:=rfl
     rw [em]
     have g1:x2 oIt (aQ 2) (aQ 3) [.no,.pu (.int (cE A u)),.pu (dC A),.pu (.int x)]=some (.pu,.int (cE A x)):=gL (k:=.pu) (k':=.pu) ((hall x).mpr hx)
     rw [kG,g1,show aQ 1 [.no,.pu (.int (cE A u)),.pu (dC A),.pu (.int x)]=some (.pu,.int (cE A u)) from rfl]
     dsimp only
     have:=(ht.up x hxC u (iJ.mp hu)).2
     rw [zx,gA u (hbr u hu),gA x hx,decide_eq_true this],rfl,rfl⟩⟩
  rw [dE] at hc
  have t1:eK (tTr (xB vo (aO (fE 3 (d8 [none,none,some 3,some 6] (b7 (gu (aQ 7))) (tgN 1) (fun _=>some true) (x2 oLt (aQ 1) (x2 oIt (aQ 2) (aQ 3))))) ca))) [.pu (.lst (S.map Da.int)),.pu (dY n L),.pu (.tup ((rws n C m).map dT)),.ow (dC A),s4,s5,.pu (.int x),.pu (.lst (((below L x).map (cE A)).map Da.int)),.no]=some false:=by
   rw [j3,wS,xE,b9,lA (d:=dC A) rfl rfl hc (pX (by rw [vE,cP];intro y _;rfl)),dG]
   dsimp only
   rw [pf]
   simp
  rw [jk,t1]
  dsimp only
  rw [yU,vp,kG,ga,zK]
  dsimp only
  rw [C5]
  dsimp only
  by_cases h0:0<cE A x
  ·rw [decide_eq_true h0]
   dsimp only
   have hin:cE A x-1∈(below L x).map (cE A):=by
    rw [gA x hx] at h0 ⊢
    rcases ht.dn x hxC with z | ⟨_,a,h2,h3⟩
    ·lia
    ·exact bf.mpr ⟨a,iJ.mpr h2,by rw [gA a (hbr a (iJ.mpr h2))];lia⟩
   have g2:x2 (oI (fun _ _=>true) (·-·)) (x2 oIt (aQ 3) (aQ 6)) (xC (.int 1)) [.pu (.lst (S.map Da.int)),.pu (dY n L),.pu (.tup ((rws n C m).map dT)),.ow (dC A),s4,s5,.pu (.int x),.pu (.lst (((below L x).map (cE A)).map Da.int)),.no]=some (.pu,.int (cE A x-1)):=by
    rw [kG,ga]
    rfl
   rw [vp,kG,g2,show aQ 7 [.pu (.lst (S.map Da.int)),.pu (dY n L),.pu (.tup ((rws n C m).map dT)),.ow (dC A),s4,s5,.pu (.int x),.pu (.lst (((below L x).map (cE A)).map Da.int)),.no]=some (.pu,.lst (((below L x).map (cE A)).map Da.int)) from rfl]
   dsimp only
   rw [BY,decide_eq_true hin]
   rfl
  ·rw [decide_eq_false h0]
 rintro ρ ⟨s6,s7,rfl⟩
 refine cj (cS (ρ':=[.pu (.lst (S.map Da.int)),.pu (dY n L),.pu (.tup ((rws n C m).map dT)),.ow (dC A),s4,s5,s6,s7,.pu (dT F.reverse)]) ?_ ?_)
 ·rw [ji,cT (ds:=[dY n L]) rfl rfl hT]
  rfl
 have hFl:F.reverse.length=m:=by rw [cy,fi.len]
 have htw:fn__law_is_tower [dY n L,dT F.reverse]=some (.bl true):=oU (by intro z;rw [z] at hFl;simp at hFl;lia) (fun x hx=>by have:=fD.mp (fi.rg x (by simpa using hx));lia) (List.pairwise_reverse.mpr fi.pw) (by lia)
 refine mI (d:=.bl true) ?_ rfl
 have c1:cC fn__law_is_tower (aO (aQ 1) (aO (aQ 8) ca)) [.pu (.lst (S.map Da.int)),.pu (dY n L),.pu (.tup ((rws n C m).map dT)),.ow (dC A),s4,s5,s6,s7,.pu (dT F.reverse)]=some (.pu,.bl true):=cT (ds:=[dY n L,dT F.reverse]) rfl rfl htw
 have c2:xB nU (aO (aQ 8) ca) [.pu (.lst (S.map Da.int)),.pu (dY n L),.pu (.tup ((rws n C m).map dT)),.ow (dC A),s4,s5,s6,s7,.pu (dT F.reverse)]=some (.pu,.int (m:Int)):=by
  show some (Kd.pu,Da.int ((F.reverse.map Da.int).length:Nat))=_
  rw [ab,hFl]
 have c3:xB nU (aO (aQ 2) ca) [.pu (.lst (S.map Da.int)),.pu (dY n L),.pu (.tup ((rws n C m).map dT)),.ow (dC A),s4,s5,s6,s7,.pu (dT F.reverse)]=some (.pu,.int (m:Int)):=by
  show some (Kd.pu,Da.int (((rws n C m).map dT).length:Nat))=_
  rw [ab,gz]
 rw [jc,Av,c1]
 dsimp only
 rw [kG,c2,c3]
 dsimp only
 rw [we,decide_eq_true rfl]
 rfl
end G4
set_option maxHeartbeats 8000000
namespace C
open PySem PySem.Spec PyProof.Rows L2 Ry
def top (i:Nat):Stmt:=PySem.Challenge.pw_rankyard_k04_whole_floors_and_the_talles.main.body.getD i (.Pass ⟨0,0,0,0⟩)
abbrev eD:Stmt:=top 1
abbrev cG:Stmt:=top 2
abbrev dX:Stmt:=top 3
abbrev cw:Stmt:=top 5
abbrev e8:Stmt:=top 6
abbrev fg:Stmt:=top 7
abbrev d6:Stmt:=top 8
abbrev cH:Stmt:=top 10
abbrev cV:Stmt:=top 11
abbrev cM:Stmt:=top 12
abbrev cR:Stmt:=top 13
abbrev cF:Stmt:=top 14
abbrev cg:Stmt:=top 15
abbrev bR:Stmt:=top 16
abbrev cu:Stmt:=top 17
abbrev jx:Stmt:=top 18
structure Zs (mg:Str->Option Value):Prop where
 «all» : mg "all" = none
 «enumerate» : mg "enumerate" = none
 «int» : mg "int" = none
 «isinstance» : mg "isinstance" = none
 «len» : mg "len" = none
 «list» : mg "list" = none
 «max» : mg "max" = none
 «range» : mg "range" = none
 «reversed» : mg "reversed" = none
 «set» : mg "set" = none
 «sorted» : mg "sorted" = none
 «tuple» : mg "tuple" = none
section
variable {P:Program} {w:World} {K:PySem.W.Frag} {mg:Str->Option Value} {base:Heap}
theorem jp:cp ["pairs","uppers","under","over"] ["pairs"] (aC eD):=⟨rfl,rfl,rfl,by decide +kernel,rfl,by decide +kernel,by decide +kernel⟩
theorem nq (hf:fB K mg "uppers_of" eD):Ca P w K mg base "uppers_of" ["pairs"] 1 1 Ry.fn_uppers_of:=by
 obtain ⟨a,fd,F,hm⟩:=hf
 refine ⟨a,fd,hm,F.kp,F.binds (fun _ _ _ _ _ _ us hl=>match us,hl with | [_],_=>rfl),?_⟩
 refine F.ok jp (fun vs H Q E ⟨G,ds,d,hl,sg,_,dl,_⟩=>by rw [dl.length,hl];rfl) fun cdv A outer s H vs Q E hr ⟨G,ds,d,hl,sg,tg,dl,ef,k⟩=>?_
 have hu1:_+1<cLine:=gM hr
 have nd:=jp.nd
 refine ⟨_,iA (qe (i:=1) nd rfl (Or.inl rfl) lv)
  (iA (xG PassesOwn.never rfl (um (xK (ju 0))) (xx rfl (lH (lG (i:=2) nd rfl (Or.inl rfl)) (lH (lG (i:=3) nd rfl (Or.inl rfl)) uZ)))
    (iA (BF (Bz (sZ hu1 (pv 2) (pv 1))) (j7 (oP hu1 (pv 1) (pv 2) lv rfl)) va)
    (j7 (oP hu1 (tW hu1 (pv 1) (pv 2) (fun _ _=>rfl)) (pv 3) Br rfl))))
  (j7 (yC (pv 1)))),?_⟩
 exact pq hl sg tg dl ef k
theorem jt:cp ["pairs"] ["pairs"] (aC cG):=⟨rfl,rfl,rfl,by decide +kernel,rfl,by decide +kernel,by decide +kernel⟩
theorem np (hf:fB K mg "lowers_of" cG) (Z:Zs mg) (C_uppers_of:Ca P w K mg base "uppers_of" ["pairs"] 1 1 Ry.fn_uppers_of):Ca P w K mg base "lowers_of" ["pairs"] 2 1 GW.fn_lowers_of:=by
 have hb:∀ (f:Addr) (cdv:Value) (A:Around) (outer:List Env) (s:Shared) (H:Hp) (E:XK),fq 1 (A.deeper (envOfC "lowers_of" (aC cG) s.heap.objs.size f cdv))->ii (jD CX0 P w K mg base ["pairs"] "lowers_of" (aC cG) f cdv A outer s H E).nox (bw cG) GW.g_lowers_of:=by
  intro f cdv A outer s H E hr
  have hu:=hr.units
  have hu1:_+1<cLine:=gM hr
  have nd:=jt.nd
  exact (bD (bU (bO C_uppers_of (hr.mono (by decide)) rfl (aw (gy rfl (gn (ix:=[none,none,none]) rfl (by decide +kernel) rfl rfl) (eC (fK (aB 0))) ⟨fun _ _ _=>(pM rfl (gP (bL (i:=1) (cnd (by decide +kernel))) (gP (bL (i:=2) (cnd (by decide +kernel))) o9))),fun _ _ _=>iY,fun _ _ _=>(jq (aw (aB 2) (aw (aB 1) aW)))⟩) aW) (aV b8))))
 have:=jy (k:=1) (n:=1) hf jt rfl (fun _ _ _ _ _ _ us hl=>match us,hl with | [_],_=>rfl) fun f cdv A outer s H E hr=>(hb f cdv A outer s H E hr).out
 exact this
theorem lg:cp ["count","lowers"] ["count","lowers"] (aC dX):=⟨rfl,rfl,rfl,by decide +kernel,rfl,by decide +kernel,by decide +kernel⟩
theorem rD (hf:pb K mg "upwards" dX) (hK:K.In base) (hB:Bm mg base) (Z:Zs mg)  : Ca P w K mg base "upwards" ["count","lowers"] 5 2 GW.fn_upwards:=by
 have hb:∀ (f c P1:Addr) (A:Around) (outer:List Env) (s:Shared) (H:Hp) (E:XK),PySem.W.CodeHd base c P1->(P1,("upwards" : Str)++".<locals>."++"<lambda>")∈eL K->fq 4 (A.deeper (envOfC "upwards" (aC dX) s.heap.objs.size f (.ref c)))->ii (jD CX0 P w K mg base ["count","lowers"] "upwards" (aC dX) f (.ref c) A outer s H E).nox (bw dX) GW.g_upwards:=by
  intro f c P1 A outer s H E hCd hTb hr
  have hu:=hr.units
  have hu1:_+1<cLine:=gM hr
  have nd:=lg.nd
  exact (bD (bU (pQ (i0:=0) (x:="thing") rfl (hr.mono (by decide)) rfl Z.sorted rfl Z.range ⟨rfl,hCd,hTb,hB⟩ ⟨⟨gn (ix:=[none,some 1,none]) rfl (by decide +kernel) rfl rfl,rfl,rfl,by decide +kernel,rfl⟩,rfl,fun _ _ _ _ _ _=>rfl,by
        intro q2 f2 c2 s2 H2
        refine BV (k:=1) hr fun hr=>?_
        have hu:=hr.units
        have hu1:_+1<cLine:=gM hr
        exact (uh rfl Z.len (aw (tE hu1 (aB 1) (aB 0) jG) aW))⟩ (aw (aB 0) aW))))
 have:=BI (k:=4) (n:=2) hf hK hB lg rfl (fun _ _ _ _ _ _ us hl=>match us,hl with | [_,_],_=>rfl) fun f c P1 A outer s H E hCd hTb hr=>(hb f c P1 A outer s H E hCd hTb hr).out
 exact this
theorem iD:cp ["count","lowers","heights","thing"] ["count","lowers"] (aC cw):=⟨rfl,rfl,rfl,by decide +kernel,rfl,by decide +kernel,by decide +kernel⟩
theorem lS (hf:fB K mg "heights_of" cw) (Z:Zs mg) (C_upwards:Ca P w K mg base "upwards" ["count","lowers"] 5 2 GW.fn_upwards):Ca P w K mg base "heights_of" ["count","lowers"] 6 2 GF.fn_heights_of:=by
 have hb:∀ (f:Addr) (cdv:Value) (A:Around) (outer:List Env) (s:Shared) (H:Hp) (E:XK),fq 5 (A.deeper (envOfC "heights_of" (aC cw) s.heap.objs.size f cdv))->ii (jD CX0 P w K mg base ["count","lowers","heights","thing"] "heights_of" (aC cw) f cdv A outer s H E).nox (bw cw) GF.g_heights_of:=by
  intro f cdv A outer s H E hr
  have hu:=hr.units
  have hu1:_+1<cLine:=gM hr
  have nd:=iD.nd
  exact (bA (iU (i:=2) nd jG)
   (bA (eU PassesOwn.never rfl (eC (fK (bO C_upwards (hr.mono (by decide)) rfl (aw (aB 0) (aw (aB 1) aW)) (aV (aV b8))))) (bL (i:=3) nd)
   (bD (lW (i:=2) hu (aB 3) (jm bM (yW rfl rfl Z.max (qA 2 (gy rfl (gn (ix:=[none,none,some 2]) rfl (by decide +kernel) rfl rfl) (eC (fK (tE hu1 (aB 1) (aB 3) jG))) ⟨fun _ _ _=>(bL (i:=1) (cnd (by decide +kernel))),fun _ _ _=>iY,fun _ _ _=>(bZ hu1 (aB 2) (aB 1))⟩)) (xi bM))))))
   (bD (bU (aB 2)))))
 have:=jy (k:=5) (n:=2) hf iD rfl (fun _ _ _ _ _ _ us hl=>match us,hl with | [_,_],_=>rfl) fun f cdv A outer s H E hr=>(hb f cdv A outer s H E hr).out
 exact this
theorem m5:cp ["heights","height"] ["heights","height"] (aC e8):=⟨rfl,rfl,rfl,by decide +kernel,rfl,by decide +kernel,by decide +kernel⟩
theorem su (hf:fB K mg "row_at" e8) (Z:Zs mg)  : Ca P w K mg base "row_at" ["heights","height"] 1 2 GF.fn_row_at:=by
 have hb:∀ (f:Addr) (cdv:Value) (A:Around) (outer:List Env) (s:Shared) (H:Hp) (E:XK),fq 0 (A.deeper (envOfC "row_at" (aC e8) s.heap.objs.size f cdv))->ii (jD CX0 P w K mg base ["heights","height"] "row_at" (aC e8) f cdv A outer s H E).nox (bw e8) GF.g_row_at:=by
  intro f cdv A outer s H E hr
  have hu:=hr.units
  have hu1:_+1<cLine:=gM hr
  have nd:=m5.nd
  exact (bD (bU (lP rfl Z.tuple (aw (gy rfl (gn (ix:=[none,none,some 1,some 0]) rfl (by decide +kernel) rfl rfl) (eC (fK (m8 rfl rfl Z.sorted (aw (aB 0) aW)))) ⟨fun _ _ _=>(bL (i:=1) (cnd (by decide +kernel))),fun _ _ _=>(lE (je (Cn hu) (bZ hu1 (aB 3) (aB 1)) (aB 2))),fun _ _ _=>(aB 1)⟩) aW))))
 have:=jy (k:=0) (n:=2) hf m5 rfl (fun _ _ _ _ _ _ us hl=>match us,hl with | [_,_],_=>rfl) fun f cdv A outer s H E hr=>(hb f cdv A outer s H E hr).out
 exact this
theorem n9:cp ["yard","heights","rows","row"] ["yard"] (aC fg):=⟨rfl,rfl,rfl,by decide +kernel,rfl,by decide +kernel,by decide +kernel⟩
theorem tJ (hf:fB K mg "floors" fg) (Z:Zs mg) (C_heights_of:Ca P w K mg base "heights_of" ["count","lowers"] 6 2 GF.fn_heights_of) (C_lowers_of:Ca P w K mg base "lowers_of" ["pairs"] 2 1 GW.fn_lowers_of) (C_row_at:Ca P w K mg base "row_at" ["heights","height"] 1 2 GF.fn_row_at):Ca P w K mg base "floors" ["yard"] 7 1 GF.fn_floors:=by
 have hb:∀ (f:Addr) (cdv:Value) (A:Around) (outer:List Env) (s:Shared) (H:Hp) (E:XK),fq 6 (A.deeper (envOfC "floors" (aC fg) s.heap.objs.size f cdv))->ii (jD CX0 P w K mg base ["yard","heights","rows","row"] "floors" (aC fg) f cdv A outer s H E).nox (bw fg) GF.g_floors:=by
  intro f cdv A outer s H E hr
  have hu:=hr.units
  have hu1:_+1<cLine:=gM hr
  have nd:=n9.nd
  exact (bA (fP (i:=1) nd (bO C_heights_of (hr.mono (by decide)) rfl (aw (bZ hu1 (aB 0) bM) (aw (bO C_lowers_of (hr.mono (by decide)) rfl (aw (bZ hu1 (aB 0) bM) aW) (aV b8)) aW)) (aV (aV b8))))
   (bA (iU (i:=2) nd (qG aW))
   (bA (fP (i:=3) nd (bO C_row_at (hr.mono (by decide)) rfl (aw (aB 1) (aw bM aW)) (aV (aV b8))))
   (bA (t6 200 PassesOwn.never (hU (aB 3))
   (bA (iV (i:=2) (aB 3))
   (bD (fP (i:=3) nd (bO C_row_at (hr.mono (by decide)) rfl (aw (aB 1) (aw (mG rfl Z.len (aw (aB 2) aW)) aW)) (aV (aV b8)))))))
   (bD (bU (lP rfl Z.tuple (aw (aB 2) aW))))))))
 have:=jy (k:=6) (n:=1) hf n9 rfl (fun _ _ _ _ _ _ us hl=>match us,hl with | [_],_=>rfl) fun f cdv A outer s H E hr=>(hb f cdv A outer s H E hr).out
 exact this
theorem ll:cp ["yard","lowers","found","row","fitting"] ["yard"] (aC d6):=⟨rfl,rfl,rfl,by decide +kernel,rfl,by decide +kernel,by decide +kernel⟩
theorem rQ (hf:fB K mg "tallest" d6) (Z:Zs mg) (C_floors:Ca P w K mg base "floors" ["yard"] 7 1 GF.fn_floors) (C_lowers_of:Ca P w K mg base "lowers_of" ["pairs"] 2 1 GW.fn_lowers_of):Ca P w K mg base "tallest" ["yard"] 8 1 GF.fn_tallest:=by
 have hb:∀ (f:Addr) (cdv:Value) (A:Around) (outer:List Env) (s:Shared) (H:Hp) (E:XK),fq 7 (A.deeper (envOfC "tallest" (aC d6) s.heap.objs.size f cdv))->ii (jD CX0 P w K mg base ["yard","lowers","found","row","fitting"] "tallest" (aC d6) f cdv A outer s H E).nox (bw d6) GF.g_tallest:=by
  intro f cdv A outer s H E hr
  have hu:=hr.units
  have hu1:_+1<cLine:=gM hr
  have nd:=ll.nd
  exact (bA (fP (i:=1) nd (bO C_lowers_of (hr.mono (by decide)) rfl (aw (bZ hu1 (aB 0) bM) aW) (aV b8)))
   (bA (iU (i:=2) nd (qG aW))
   (bA (eU PassesOwn.never rfl (yE rfl Z.reversed (bO C_floors (hr.mono (by decide)) rfl (aw (aB 0) aW) (aV b8))) (bL (i:=3) nd)
   (bA (rq 2 (i:=4) nd rfl (gn (ix:=[none,none,some 2,some 1]) rfl (by decide +kernel) rfl rfl) (eC (fK (aB 3))) ⟨fun _ _ _=>(bL (i:=1) (cnd (by decide +kernel))),fun _ _ _=>(lE (mM (jo (fO (hU (aB 2))) (jd (je (zZ hu) (aB 1) (bZ hu1 (aB 3) (bZ hu1 (aB 2) (xi bM)))))))),fun _ _ _=>(aB 1)⟩)
   (bD (iV (i:=2) (bZ hu1 (aB 4) bM)))))
   (bD (bU (pA rfl Z.tuple rfl Z.reversed (aB 2)))))))
 have:=jy (k:=7) (n:=1) hf ll rfl (fun _ _ _ _ _ _ us hl=>match us,hl with | [_],_=>rfl) fun f cdv A outer s H E hr=>(hb f cdv A outer s H E hr).out
 exact this
theorem jn:cp ["_law_script","_law_k"] ["_law_script","_law_k"] (aC cH):=⟨rfl,rfl,rfl,by decide +kernel,rfl,by decide +kernel,by decide +kernel⟩
theorem ou (hf:fB K mg "_law_cell" cH) (Z:Zs mg)  : Ca P w K mg base "_law_cell" ["_law_script","_law_k"] 1 2 G.fn__law_cell:=by
 have hb:∀ (f:Addr) (cdv:Value) (A:Around) (outer:List Env) (s:Shared) (H:Hp) (E:XK),fq 0 (A.deeper (envOfC "_law_cell" (aC cH) s.heap.objs.size f cdv))->ii (jD CX0 P w K mg base ["_law_script","_law_k"] "_law_cell" (aC cH) f cdv A outer s H E).nox (bw cH) G.g__law_cell:=by
  intro f cdv A outer s H E hr
  have hu:=hr.units
  have hu1:_+1<cLine:=gM hr
  have nd:=jn.nd
  exact (bA (g7 (je (BZ hu) (aB 1) (mG rfl Z.len (aw (aB 0) aW))) (bD (bU (bZ hu1 (aB 0) (aB 1)))) fQ)
   (bD (bU bM)))
 have:=jy (k:=0) (n:=2) hf jn rfl (fun _ _ _ _ _ _ us hl=>match us,hl with | [_,_],_=>rfl) fun f cdv A outer s H E hr=>(hb f cdv A outer s H E hr).out
 exact this
theorem j6:cp ["_law_cell_here","_law_prime","_law_many"] ["_law_cell_here","_law_prime","_law_many"] (aC cV):=⟨rfl,rfl,rfl,by decide +kernel,rfl,by decide +kernel,by decide +kernel⟩
theorem pE (hf:fB K mg "_law_mix" cV) (Z:Zs mg)  : Ca P w K mg base "_law_mix" ["_law_cell_here","_law_prime","_law_many"] 1 3 G.fn__law_mix:=by
 have hb:∀ (f:Addr) (cdv:Value) (A:Around) (outer:List Env) (s:Shared) (H:Hp) (E:XK),fq 0 (A.deeper (envOfC "_law_mix" (aC cV) s.heap.objs.size f cdv))->ii (jD CX0 P w K mg base ["_law_cell_here","_law_prime","_law_many"] "_law_mix" (aC cV) f cdv A outer s H E).nox (bw cV) G.g__law_mix:=by
  intro f cdv A outer s H E hr
  have hu:=hr.units
  have hu1:_+1<cLine:=gM hr
  have nd:=j6.nd
  exact (bD (bU (sV (sV (uL (aB 0) bM) (aB 1)) (aB 2))))
 have:=jy (k:=0) (n:=3) hf j6 rfl (fun _ _ _ _ _ _ us hl=>match us,hl with | [_,_,_],_=>rfl) fun f cdv A outer s H E hr=>(hb f cdv A outer s H E hr).out
 exact this
theorem jr:cp ["_law_cell_here","_law_many","_law_left"] ["_law_cell_here","_law_many"] (aC cM):=⟨rfl,rfl,rfl,by decide +kernel,rfl,by decide +kernel,by decide +kernel⟩
theorem mS (hf:fB K mg "_law_perm" cM) (Z:Zs mg) (C__law_mix:Ca P w K mg base "_law_mix" ["_law_cell_here","_law_prime","_law_many"] 1 3 G.fn__law_mix):Ca P w K mg base "_law_perm" ["_law_cell_here","_law_many"] 2 2 G.fn__law_perm:=by
 obtain ⟨a,fd,F,hm⟩:=hf
 refine ⟨a,fd,hm,F.kp,F.binds (fun _ _ _ _ _ _ us hl=>match us,hl with | [_,_],_=>rfl),?_⟩
 refine F.ok jr (fun vs H Q E ⟨Gp,ds,d,hl,sg,_,dl,_⟩=>by rw [dl.length,hl];rfl) fun cdv A outer s H vs Q E hr ⟨Gp,ds,d,hl,sg,tg,dl,ef,k⟩=>?_
 have hu1:_+1<cLine:=gM hr
 have nd:=jr.nd
 have hps:PSs (jD CX0 P w K mg base ["_law_cell_here","_law_many","_law_left"] "_law_perm" (aC cM) a cdv A outer s H E).nox (bw cM) (vw (BE (tX K (gS (aO (aQ 1) ca))) (iW 2))
  (CH (rA (mpS [none,none,none,some 0,some 2,some 1]) (iX K (mB (aO (aQ 1) ca))) (iW 1) (fun _ H Q=>Q true H)
    (tBM K "list" sD (oE 4) (zP (tX K (cC G.fn__law_mix (aO (x2 mz (aQ 3) (x2 (oI nS (·*·)) (xC (.int 5)) (aQ 1))) (aO (xC (.int 9967)) (aO (x2 (oI (fun _ _=>true) (·-·)) (aQ 5) (aQ 1)) ca))))) C9))))):=by
  refine iA (qe (i:=2) nd rfl (by first | exact Or.inl rfl | exact Or.inr rfl) ?e1) (j7 (sF ?e2))
  case e1=>exact og rfl Z.list rfl Z.range (gT (ju 1) lN)
  case e2 =>
   refine vW rfl (gn (ix:=[none,none,none,some 0,some 2,some 1]) rfl (by decide +kernel) rfl rfl) ?i1 ?i2 ?i3 ?i4
   case i1=>exact kM rfl Z.range (gT (ju 1) lN)
   case i2=>exact fun s3 H3 fp3=>lG (i:=1) (cnd (by decide +kernel)) rfl (Or.inl rfl)
   case i3=>exact fun s3 H3 fp3=>vk
   case i4 =>
    intro s3 H3 fp3
    refine BT PySem.F.plainAttrs_list PySem.F.slot_list_pop PySem.F.type_list_pop wZ ?o ?ar
    case o=>exact pv 4
    case ar=>exact gJ (qp C__law_mix (hr.mono (by decide)) rfl (gT (xl (ju 3) (xD sP (ju 1))) (gT sP (gT (xh (ju 5) (ju 1)) lN))) (aV (aV (aV b8)))) j5
 refine ⟨_,hps,?_⟩
 exact tu hl sg tg dl ef k
theorem jR:cp ["_law_count","_law_pairs","_law_found","_law_pair","_law_c","_law_a","_law_b"] ["_law_count","_law_pairs"] (aC cR):=⟨rfl,rfl,rfl,by decide +kernel,rfl,by decide +kernel,by decide +kernel⟩
theorem pC (hf:fB K mg "_law_all" cR) (Z:Zs mg)  : Ca P w K mg base "_law_all" ["_law_count","_law_pairs"] 1 2 G.fn__law_all:=by
 have hb:∀ (f:Addr) (cdv:Value) (A:Around) (outer:List Env) (s:Shared) (H:Hp) (E:XK),fq 0 (A.deeper (envOfC "_law_all" (aC cR) s.heap.objs.size f cdv))->ii (jD CX0 P w K mg base ["_law_count","_law_pairs","_law_found","_law_pair","_law_c","_law_a","_law_b"] "_law_all" (aC cR) f cdv A outer s H E).nox (bw cR) G.g__law_all:=by
  intro f cdv A outer s H E hr
  have hu:=hr.units
  have hu1:_+1<cLine:=gM hr
  have nd:=jR.nd
  exact (bA (iU (i:=2) nd v8)
   (bA (eU PassesOwn.never rfl (eC (fK (aB 1))) (bL (i:=3) nd)
   (bD (lW (i:=2) hu (aB 3) ky)))
   (bA (eU PassesOwn.never rfl (fU rfl Z.range (aw (aB 0) aW)) (bL (i:=4) nd)
   (bD (eU PassesOwn.never rfl (fU rfl Z.range (aw (aB 0) aW)) (bL (i:=5) nd)
   (bD (eU PassesOwn.never rfl (fU rfl Z.range (aw (aB 0) aW)) (bL (i:=6) nd)
   (bD (g7 (mM (uQ (je (zZ hu) (jq (aw (aB 5) (aw (aB 4) aW))) (aB 2)) (qF (je (zZ hu) (jq (aw (aB 4) (aw (aB 6) aW))) (aB 2))))) (bD (lW (i:=2) hu (jq (aw (aB 5) (aw (aB 6) aW))) ky)) fQ)))))))
   (bD (bU (m8 rfl rfl Z.sorted (aw (aB 2) aW)))))))
 have:=jy (k:=0) (n:=2) hf jR rfl (fun _ _ _ _ _ _ us hl=>match us,hl with | [_,_],_=>rfl) fun f cdv A outer s H E hr=>(hb f cdv A outer s H E hr).out
 exact this
theorem jl:cp ["_law_script","_law_k","_law_most","_law_count","_law_share","_law_places","_law_told","_law_a","_law_b"] ["_law_script","_law_k","_law_most"] (aC cF):=⟨rfl,rfl,rfl,by decide +kernel,rfl,by decide +kernel,by decide +kernel⟩
theorem m7 (hf:fB K mg "_law_yard" cF) (Z:Zs mg) (C__law_all:Ca P w K mg base "_law_all" ["_law_count","_law_pairs"] 1 2 G.fn__law_all) (C__law_cell:Ca P w K mg base "_law_cell" ["_law_script","_law_k"] 1 2 G.fn__law_cell) (C__law_mix:Ca P w K mg base "_law_mix" ["_law_cell_here","_law_prime","_law_many"] 1 3 G.fn__law_mix) (C__law_perm:Ca P w K mg base "_law_perm" ["_law_cell_here","_law_many"] 2 2 G.fn__law_perm):Ca P w K mg base "_law_yard" ["_law_script","_law_k","_law_most"] 3 3 G.fn__law_yard:=by
 have hb:∀ (f:Addr) (cdv:Value) (A:Around) (outer:List Env) (s:Shared) (H:Hp) (E:XK),fq 2 (A.deeper (envOfC "_law_yard" (aC cF) s.heap.objs.size f cdv))->ii (jD CX0 P w K mg base ["_law_script","_law_k","_law_most","_law_count","_law_share","_law_places","_law_told","_law_a","_law_b"] "_law_yard" (aC cF) f cdv A outer s H E).nox (bw cF) G.g__law_yard:=by
  intro f cdv A outer s H E hr
  have hu:=hr.units
  have hu1:_+1<cLine:=gM hr
  have nd:=jl.nd
  exact (bA (fP (i:=3) nd (jm bM (bO C__law_mix (hr.mono (by decide)) rfl (aw (bO C__law_cell (hr.mono (by decide)) rfl (aw (aB 0) (aw (aB 1) aW)) (aV (aV b8))) (aw bM (aw (aB 2) aW))) (aV (aV (aV b8))))))
   (bA (fP (i:=4) nd (jm bM (bO C__law_mix (hr.mono (by decide)) rfl (aw (bO C__law_cell (hr.mono (by decide)) rfl (aw (aB 0) (aw (aB 1) aW)) (aV (aV b8))) (aw bM (aw bM aW))) (aV (aV (aV b8))))))
   (bA (fP (i:=5) nd (bO C__law_perm (hr.mono (by decide)) rfl (aw (bO C__law_cell (hr.mono (by decide)) rfl (aw (aB 0) (aw (jm (aB 1) bM) aW)) (aV (aV b8))) (aw (aB 3) aW)) (aV (aV b8))))
   (bA (iU (i:=6) nd (qG aW))
   (bA (eU PassesOwn.never rfl (fU rfl Z.range (aw (aB 3) aW)) (bL (i:=7) nd)
   (bD (eU PassesOwn.never rfl (kU rfl Z.range (aw (jm (aB 7) bM) (aw (aB 3) aW))) (bL (i:=8) nd)
   (bD (g7 (je (BZ hu) (bO C__law_mix (hr.mono (by decide)) rfl (aw (jm (jm (bO C__law_cell (hr.mono (by decide)) rfl (aw (aB 0) (aw (jm (aB 1) bM) aW)) (aV (aV b8))) (uL bM (aB 7))) (uL bM (aB 8))) (aw bM (aw bM aW))) (aV (aV (aV b8)))) (aB 4)) (bD (iV (i:=6) (jq (aw (bZ hu1 (aB 5) (aB 7)) (aw (bZ hu1 (aB 5) (aB 8)) aW))))) fQ)))))
   (bD (zD 6 (bU (jq (aw (aB 3) (aw (lP rfl Z.tuple (aw (bO C__law_all (hr.mono (by decide)) rfl (aw (aB 3) (aw (aB 6) aW)) (aV (aV b8))) aW)) aW)))))))))))
 have:=jy (k:=2) (n:=3) hf jl rfl (fun _ _ _ _ _ _ us hl=>match us,hl with | [_,_,_],_=>rfl) fun f cdv A outer s H E hr=>(hb f cdv A outer s H E hr).out
 exact this
theorem hJ:cp ["_law_yard_here","_law_things","_law_one"] ["_law_yard_here","_law_things"] (aC cg):=⟨rfl,rfl,rfl,by decide +kernel,rfl,by decide +kernel,by decide +kernel⟩
theorem kz (hf:fB K mg "_law_is_row" cg) (Z:Zs mg)  : Ca P w K mg base "_law_is_row" ["_law_yard_here","_law_things"] 1 2 GF.fn__law_is_row:=by
 have hb:∀ (f:Addr) (cdv:Value) (A:Around) (outer:List Env) (s:Shared) (H:Hp) (E:XK),fq 0 (A.deeper (envOfC "_law_is_row" (aC cg) s.heap.objs.size f cdv))->ii (jD CX0 P w K mg base ["_law_yard_here","_law_things","_law_one"] "_law_is_row" (aC cg) f cdv A outer s H E).nox (bw cg) GF.g__law_is_row:=by
  intro f cdv A outer s H E hr
  have hu:=hr.units
  have hu1:_+1<cLine:=gM hr
  have nd:=hJ.nd
  exact (bA (g7 (mM (jo (fO (hU (j8 lC (by decide +kernel) rfl Z.isinstance rfl Z.tuple (aB 1)))) (jo (je (DO hu) (zi rfl Z.list (aw (aB 1) aW)) (nr rfl rfl Z.sorted rfl Z.set (aB 1))) (jd (fO (hU (aB 1))))))) (bD (bU ky)) fQ)
   (bA (eU PassesOwn.never rfl (eC (fK (aB 1))) (bL (i:=2) nd)
   (bD (g7 (mM (jo (fO (nZ DC (BZ hu) bM (aB 2) (bZ hu1 (aB 0) bM))) (jd (hU (gy rfl (gn (ix:=[none,none,some 2,some 0]) rfl (by decide +kernel) rfl rfl) (eC (fK (aB 1))) ⟨fun _ _ _=>(bL (i:=1) (cnd (by decide +kernel))),fun _ _ _=>(lE (je (zZ hu) (jq (aw (aB 2) (aw (aB 1) aW))) (bZ hu1 (aB 3) bM))),fun _ _ _=>(aB 1)⟩))))) (bD (bU ky)) fQ)))
   (bD (bU ky))))
 have:=jy (k:=0) (n:=2) hf hJ rfl (fun _ _ _ _ _ _ us hl=>match us,hl with | [_,_],_=>rfl) fun f cdv A outer s H E hr=>(hb f cdv A outer s H E hr).out
 exact this
theorem gq:cp ["_law_yard_here","_law_things"] ["_law_yard_here","_law_things"] (aC bR):=⟨rfl,rfl,rfl,by decide +kernel,rfl,by decide +kernel,by decide +kernel⟩
theorem jA (hf:fB K mg "_law_is_tower" bR) (Z:Zs mg)  : Ca P w K mg base "_law_is_tower" ["_law_yard_here","_law_things"] 1 2 GF.fn__law_is_tower:=by
 have hb:∀ (f:Addr) (cdv:Value) (A:Around) (outer:List Env) (s:Shared) (H:Hp) (E:XK),fq 0 (A.deeper (envOfC "_law_is_tower" (aC bR) s.heap.objs.size f cdv))->ii (jD CX0 P w K mg base ["_law_yard_here","_law_things"] "_law_is_tower" (aC bR) f cdv A outer s H E).nox (bw bR) GF.g__law_is_tower:=by
  intro f cdv A outer s H E hr
  have hu:=hr.units
  have hu1:_+1<cLine:=gM hr
  have nd:=gq.nd
  exact (bA (g7 (mM (jo (fO (hU (j8 lC (by decide +kernel) rfl Z.isinstance rfl Z.tuple (aB 1)))) (jo (fO (hU (aB 1))) (jd (fO (nZ DC (BZ hu) bM (bZ hu1 (aB 1) bM) (bZ hu1 (aB 0) bM))))))) (bD (bU ky)) fQ)
   (bD (bU (sS rfl rfl Z.all (aw (gy rfl (gn (ix:=[none,none,some 1,some 0]) rfl (by decide +kernel) rfl rfl) (kU rfl Z.range (aw bM (aw (mG rfl Z.len (aw (aB 1) aW)) aW))) ⟨fun _ _ _=>(bL (i:=1) (cnd (by decide +kernel))),fun _ _ _=>iY,fun _ _ _=>(Ci (zZ hu) (jq (aw (bZ hu1 (aB 2) (xb (aB 1) bM)) (aw (bZ hu1 (aB 2) (aB 1)) aW))) (bZ hu1 (aB 3) bM))⟩) aW)))))
 have:=jy (k:=0) (n:=2) hf gq rfl (fun _ _ _ _ _ _ us hl=>match us,hl with | [_,_],_=>rfl) fun f cdv A outer s H E hr=>(hb f cdv A outer s H E hr).out
 exact this
theorem iw:cp ["_law_yard_here","_law_thing"] ["_law_yard_here","_law_thing"] (aC cu):=⟨rfl,rfl,rfl,by decide +kernel,rfl,by decide +kernel,by decide +kernel⟩
theorem lQ (hf:fB K mg "_law_below" cu) (Z:Zs mg)  : Ca P w K mg base "_law_below" ["_law_yard_here","_law_thing"] 1 2 GW.fn__law_below:=by
 have hb:∀ (f:Addr) (cdv:Value) (A:Around) (outer:List Env) (s:Shared) (H:Hp) (E:XK),fq 0 (A.deeper (envOfC "_law_below" (aC cu) s.heap.objs.size f cdv))->ii (jD CX0 P w K mg base ["_law_yard_here","_law_thing"] "_law_below" (aC cu) f cdv A outer s H E).nox (bw cu) GW.g__law_below:=by
  intro f cdv A outer s H E hr
  have hu:=hr.units
  have hu1:_+1<cLine:=gM hr
  have nd:=iw.nd
  exact (bD (bU (gy rfl (gn (ix:=[none,none,none,some 1]) rfl (by decide +kernel) rfl rfl) (eC (fK (bZ hu1 (aB 0) bM))) ⟨fun _ _ _=>(pM rfl (gP (bL (i:=1) (cnd (by decide +kernel))) (gP (bL (i:=2) (cnd (by decide +kernel))) o9))),fun _ _ _=>(lE (je (Cn hu) (aB 2) (aB 3))),fun _ _ _=>(aB 1)⟩)))
 have:=jy (k:=0) (n:=2) hf iw rfl (fun _ _ _ _ _ _ us hl=>match us,hl with | [_,_],_=>rfl) fun f cdv A outer s H E hr=>(hb f cdv A outer s H E hr).out
 exact this
theorem xF:cp ["_law_script","_law_yard_here","_law_found","_law_at","_law_k","_law_things","_law_thing","_law_under","_law_top"] ["_law_script"] (aC jx):=⟨rfl,rfl,rfl,by decide +kernel,rfl,by decide +kernel,by decide +kernel⟩
theorem BD {fa:Addr} {fd:FuncData} (F:Fun K "law" "law" jx fa fd) (Z:Zs mg) (C__law_below:Ca P w K mg base "_law_below" ["_law_yard_here","_law_thing"] 1 2 GW.fn__law_below) (C__law_cell:Ca P w K mg base "_law_cell" ["_law_script","_law_k"] 1 2 G.fn__law_cell) (C__law_is_row:Ca P w K mg base "_law_is_row" ["_law_yard_here","_law_things"] 1 2 GF.fn__law_is_row) (C__law_is_tower:Ca P w K mg base "_law_is_tower" ["_law_yard_here","_law_things"] 1 2 GF.fn__law_is_tower) (C__law_yard:Ca P w K mg base "_law_yard" ["_law_script","_law_k","_law_most"] 3 3 G.fn__law_yard) (C_floors:Ca P w K mg base "floors" ["yard"] 7 1 GF.fn_floors) (C_tallest:Ca P w K mg base "tallest" ["yard"] 8 1 GF.fn_tallest):rp P w K mg base CX0 9 fa fd ["_law_script"] (spD K 1 G4.fn_law):=by
 have hb:∀ (f:Addr) (cdv:Value) (A:Around) (outer:List Env) (s:Shared) (H:Hp) (E:XK),fq 8 (A.deeper (envOfC "law" (aC jx) s.heap.objs.size f cdv))->ii (jD CX0 P w K mg base ["_law_script","_law_yard_here","_law_found","_law_at","_law_k","_law_things","_law_thing","_law_under","_law_top"] "law" (aC jx) f cdv A outer s H E).nox (bw jx) G4.g_law:=by
  intro f cdv A outer s H E hr
  have hu:=hr.units
  have hu1:_+1<cLine:=gM hr
  have nd:=xF.nd
  exact (bA (fP (i:=1) nd (bO C__law_yard (hr.mono (by decide)) rfl (aw (aB 0) (aw bM (aw (bZ hu1 (qG (aw bM (aw bM aW))) (ya rfl Z.int (aw (Ci (Cn hu) (sV (bO C__law_cell (hr.mono (by decide)) rfl (aw (aB 0) (aw bM aW)) (aV (aV b8))) bM) bM) aW))) aW))) (aV (aV (aV b8)))))
   (bA (fP (i:=2) nd (bO C_floors (hr.mono (by decide)) rfl (aw (aB 1) aW) (aV b8)))
   (bA (g7 (mM (jo (fO (hU (j8 lC (by decide +kernel) rfl Z.isinstance rfl Z.tuple (aB 2)))) (jd (fO (hU (sS rfl rfl Z.all (aw (gy rfl (gn (ix:=[none,none,none,some 1]) rfl (by decide +kernel) rfl rfl) (eC (fK (aB 2))) ⟨fun _ _ _=>(bL (i:=1) (cnd (by decide +kernel))),fun _ _ _=>iY,fun _ _ _=>(bO C__law_is_row (hr.mono (by decide)) rfl (aw (aB 3) (aw (aB 1) aW)) (aV (aV b8)))⟩) aW))))))) (bD (bU ky)) fQ)
   (bA (iU (i:=3) nd jG)
   (bA (eU PassesOwn.never rfl (vm rfl Z.enumerate (fK (aB 2))) (pM rfl (gP (bL (i:=4) nd) (gP (bL (i:=5) nd) o9)))
   (bD (eU PassesOwn.never rfl (eC (fK (aB 5))) (bL (i:=6) nd)
   (bA (g7 (je (zZ hu) (aB 6) (aB 3)) (bD (bU ky)) fQ)
   (bD (lW (i:=3) hu (aB 6) (aB 4)))))))
   (bA (g7 (je (DO hu) (uh rfl Z.len (aw (aB 3) aW)) (bZ hu1 (aB 1) bM)) (bD (bU ky)) fQ)
   (bA (eU PassesOwn.never rfl (fU rfl Z.range (aw (bZ hu1 (aB 1) bM) aW)) (bL (i:=6) nd)
   (bA (uT 3 (i:=7) nd rfl (gn (ix:=[none,none,some 3]) rfl (by decide +kernel) rfl rfl) (eC (fK (bO C__law_below (hr.mono (by decide)) rfl (aw (aB 1) (aw (aB 6) aW)) (aV (aV b8))))) ⟨fun _ _ _=>(bL (i:=1) (cnd (by decide +kernel))),fun _ _ _=>iY,fun _ _ _=>(bZ hu1 (aB 2) (aB 1))⟩)
   (bD (g7 (mM (jo (fO (hU (sS rfl rfl Z.all (aw (qA 3 (gy rfl (gn (ix:=[none,none,some 3,some 6]) rfl (by decide +kernel) rfl rfl) (eC (fK (aB 7))) ⟨fun _ _ _=>(bL (i:=1) (cnd (by decide +kernel))),fun _ _ _=>iY,fun _ _ _=>(Ci (BZ hu) (aB 1) (bZ hu1 (aB 2) (aB 3)))⟩)) aW)))) (jd (mM (uQ (je D5 (bZ hu1 (aB 3) (aB 6)) bM) (qF (je (Dk hu) (xb (bZ hu1 (aB 3) (aB 6)) bM) (aB 7)))))))) (bD (bU ky)) fQ))))
   (bA (fP (i:=8) nd (bO C_tallest (hr.mono (by decide)) rfl (aw (aB 1) aW) (aV b8)))
   (bD (bU (Aj (bO C__law_is_tower (hr.mono (by decide)) rfl (aw (aB 1) (aw (aB 8) aW)) (aV (aV b8))) (As (Ci (Cn hu) (mG rfl Z.len (aw (aB 8) aW)) (mG rfl Z.len (aw (aB 2) aW)))))))))))))))
 have:=xf (n:=1) F xF rfl fun cdv A outer s H E hr=>(hb fa cdv A outer s H E hr).out
 exact this
end
end C
namespace C
open PySem PySem.Spec PyProof.Rows L2 Ry
theorem all_mk {P:Program} {w:World} {K:PySem.W.Frag} {h:Heap} {mg:Str->Option Value} {fa:Addr} (X:K.In h) (Gm:h.Ns mainGlobals mg) (hfa:mg "law" = some (.ref fa))
 {f0:Addr} {od0 an0:Option Addr} {sl0:Array (Option Value)} {oc0 kV0 dc0 pm0 cd0 ct0:Value}
 {f1:Addr} {od1 an1:Option Addr} {sl1:Array (Option Value)} {oc1 kV1 dc1 pm1 cd1 ct1:Value}
 {f2:Addr} {od2 an2:Option Addr} {sl2:Array (Option Value)} {oc2 kV2 dc2 pm2 cd2 ct2:Value}
 {f3:Addr} {od3 an3:Option Addr} {sl3:Array (Option Value)} {oc3 kV3 dc3 pm3 cd3 ct3:Value}
 {f4:Addr} {od4 an4:Option Addr} {sl4:Array (Option Value)} {oc4 kV4 dc4 pm4 cd4 ct4:Value}
 {f5:Addr} {od5 an5:Option Addr} {sl5:Array (Option Value)} {oc5 kV5 dc5 pm5 cd5 ct5:Value}
 {f6:Addr} {od6 an6:Option Addr} {sl6:Array (Option Value)} {oc6 kV6 dc6 pm6 cd6 ct6:Value}
 {f7:Addr} {od7 an7:Option Addr} {sl7:Array (Option Value)} {oc7 kV7 dc7 pm7 cd7 ct7:Value}
 {f8:Addr} {od8 an8:Option Addr} {sl8:Array (Option Value)} {oc8 kV8 dc8 pm8 cd8 ct8:Value}
 {f9:Addr} {od9 an9:Option Addr} {sl9:Array (Option Value)} {oc9 kV9 dc9 pm9 cd9 ct9:Value}
 {f10:Addr} {od10 an10:Option Addr} {sl10:Array (Option Value)} {oc10 kV10 dc10 pm10 cd10 ct10:Value}
 {f11:Addr} {od11 an11:Option Addr} {sl11:Array (Option Value)} {oc11 kV11 dc11 pm11 cd11 ct11:Value}
 {f12:Addr} {od12 an12:Option Addr} {sl12:Array (Option Value)} {oc12 kV12 dc12 pm12 cd12 ct12:Value}
 {f13:Addr} {od13 an13:Option Addr} {sl13:Array (Option Value)} {oc13 kV13 dc13 pm13 cd13 ct13:Value}
 {f14:Addr} {od14 an14:Option Addr} {sl14:Array (Option Value)} {oc14 kV14 dc14 pm14 cd14 ct14:Value}
 {f15:Addr} {od15 an15:Option Addr} {sl15:Array (Option Value)} {oc15 kV15 dc15 pm15 cd15 ct15:Value}
 (a0:PySem.W.nsIn K mainGlobals "uppers_of" = some (some (.ref f0))) (l0:K.lookup f0=some ⟨oc0,od0,.func (PySem.W.fnOf "uppers_of" "uppers_of" (cm eD) (bw eD) (aC eD) .none kV0 dc0 pm0 an0 cd0 ct0),sl0⟩) (c0:PySem.W.codeIn K cd0 "uppers_of" = true) (k0:PySem.W.keepIn K (.ref f0)=true)
 (a1:PySem.W.nsIn K mainGlobals "lowers_of" = some (some (.ref f1))) (l1:K.lookup f1=some ⟨oc1,od1,.func (PySem.W.fnOf "lowers_of" "lowers_of" (cm cG) (bw cG) (aC cG) .none kV1 dc1 pm1 an1 cd1 ct1),sl1⟩) (c1:PySem.W.codeIn K cd1 "lowers_of" = true) (k1:PySem.W.keepIn K (.ref f1)=true)
 (a2:PySem.W.nsIn K mainGlobals "upwards" = some (some (.ref f2))) (l2:K.lookup f2=some ⟨oc2,od2,.func (PySem.W.fnOf "upwards" "upwards" (cm dX) (bw dX) (aC dX) .none kV2 dc2 pm2 an2 cd2 ct2),sl2⟩) (c2:PySem.W.codeIn K cd2 "upwards" = true) (k2:PySem.W.keepIn K (.ref f2)=true)
 (a3:PySem.W.nsIn K mainGlobals "heights_of" = some (some (.ref f3))) (l3:K.lookup f3=some ⟨oc3,od3,.func (PySem.W.fnOf "heights_of" "heights_of" (cm cw) (bw cw) (aC cw) .none kV3 dc3 pm3 an3 cd3 ct3),sl3⟩) (c3:PySem.W.codeIn K cd3 "heights_of" = true) (k3:PySem.W.keepIn K (.ref f3)=true)
 (a4:PySem.W.nsIn K mainGlobals "row_at" = some (some (.ref f4))) (l4:K.lookup f4=some ⟨oc4,od4,.func (PySem.W.fnOf "row_at" "row_at" (cm e8) (bw e8) (aC e8) .none kV4 dc4 pm4 an4 cd4 ct4),sl4⟩) (c4:PySem.W.codeIn K cd4 "row_at" = true) (k4:PySem.W.keepIn K (.ref f4)=true)
 (a5:PySem.W.nsIn K mainGlobals "floors" = some (some (.ref f5))) (l5:K.lookup f5=some ⟨oc5,od5,.func (PySem.W.fnOf "floors" "floors" (cm fg) (bw fg) (aC fg) .none kV5 dc5 pm5 an5 cd5 ct5),sl5⟩) (c5:PySem.W.codeIn K cd5 "floors" = true) (k5:PySem.W.keepIn K (.ref f5)=true)
 (a6:PySem.W.nsIn K mainGlobals "tallest" = some (some (.ref f6))) (l6:K.lookup f6=some ⟨oc6,od6,.func (PySem.W.fnOf "tallest" "tallest" (cm d6) (bw d6) (aC d6) .none kV6 dc6 pm6 an6 cd6 ct6),sl6⟩) (c6:PySem.W.codeIn K cd6 "tallest" = true) (k6:PySem.W.keepIn K (.ref f6)=true)
 (a7:PySem.W.nsIn K mainGlobals "_law_cell" = some (some (.ref f7))) (l7:K.lookup f7=some ⟨oc7,od7,.func (PySem.W.fnOf "_law_cell" "_law_cell" (cm cH) (bw cH) (aC cH) .none kV7 dc7 pm7 an7 cd7 ct7),sl7⟩) (c7:PySem.W.codeIn K cd7 "_law_cell" = true) (k7:PySem.W.keepIn K (.ref f7)=true)
 (a8:PySem.W.nsIn K mainGlobals "_law_mix" = some (some (.ref f8))) (l8:K.lookup f8=some ⟨oc8,od8,.func (PySem.W.fnOf "_law_mix" "_law_mix" (cm cV) (bw cV) (aC cV) .none kV8 dc8 pm8 an8 cd8 ct8),sl8⟩) (c8:PySem.W.codeIn K cd8 "_law_mix" = true) (k8:PySem.W.keepIn K (.ref f8)=true)
 (a9:PySem.W.nsIn K mainGlobals "_law_perm" = some (some (.ref f9))) (l9:K.lookup f9=some ⟨oc9,od9,.func (PySem.W.fnOf "_law_perm" "_law_perm" (cm cM) (bw cM) (aC cM) .none kV9 dc9 pm9 an9 cd9 ct9),sl9⟩) (c9:PySem.W.codeIn K cd9 "_law_perm" = true) (k9:PySem.W.keepIn K (.ref f9)=true)
 (a10:PySem.W.nsIn K mainGlobals "_law_all" = some (some (.ref f10))) (l10:K.lookup f10=some ⟨oc10,od10,.func (PySem.W.fnOf "_law_all" "_law_all" (cm cR) (bw cR) (aC cR) .none kV10 dc10 pm10 an10 cd10 ct10),sl10⟩) (c10:PySem.W.codeIn K cd10 "_law_all" = true) (k10:PySem.W.keepIn K (.ref f10)=true)
 (a11:PySem.W.nsIn K mainGlobals "_law_yard" = some (some (.ref f11))) (l11:K.lookup f11=some ⟨oc11,od11,.func (PySem.W.fnOf "_law_yard" "_law_yard" (cm cF) (bw cF) (aC cF) .none kV11 dc11 pm11 an11 cd11 ct11),sl11⟩) (c11:PySem.W.codeIn K cd11 "_law_yard" = true) (k11:PySem.W.keepIn K (.ref f11)=true)
 (a12:PySem.W.nsIn K mainGlobals "_law_is_row" = some (some (.ref f12))) (l12:K.lookup f12=some ⟨oc12,od12,.func (PySem.W.fnOf "_law_is_row" "_law_is_row" (cm cg) (bw cg) (aC cg) .none kV12 dc12 pm12 an12 cd12 ct12),sl12⟩) (c12:PySem.W.codeIn K cd12 "_law_is_row" = true) (k12:PySem.W.keepIn K (.ref f12)=true)
 (a13:PySem.W.nsIn K mainGlobals "_law_is_tower" = some (some (.ref f13))) (l13:K.lookup f13=some ⟨oc13,od13,.func (PySem.W.fnOf "_law_is_tower" "_law_is_tower" (cm bR) (bw bR) (aC bR) .none kV13 dc13 pm13 an13 cd13 ct13),sl13⟩) (c13:PySem.W.codeIn K cd13 "_law_is_tower" = true) (k13:PySem.W.keepIn K (.ref f13)=true)
 (a14:PySem.W.nsIn K mainGlobals "_law_below" = some (some (.ref f14))) (l14:K.lookup f14=some ⟨oc14,od14,.func (PySem.W.fnOf "_law_below" "_law_below" (cm cu) (bw cu) (aC cu) .none kV14 dc14 pm14 an14 cd14 ct14),sl14⟩) (c14:PySem.W.codeIn K cd14 "_law_below" = true) (k14:PySem.W.keepIn K (.ref f14)=true)
 (a15:PySem.W.nsIn K mainGlobals "law" = some (some (.ref f15))) (l15:K.lookup f15=some ⟨oc15,od15,.func (PySem.W.fnOf "law" "law" (cm jx) (bw jx) (aC jx) .none kV15 dc15 pm15 an15 cd15 ct15),sl15⟩) (c15:PySem.W.codeIn K cd15 "law" = true) (k15:PySem.W.keepIn K (.ref f15)=true)
 (m2:pK K cd2 "upwards" = true)
 (z0:PySem.W.nsIn K mainGlobals "all" = some none)
 (z1:PySem.W.nsIn K mainGlobals "enumerate" = some none)
 (z2:PySem.W.nsIn K mainGlobals "int" = some none)
 (z3:PySem.W.nsIn K mainGlobals "isinstance" = some none)
 (z4:PySem.W.nsIn K mainGlobals "len" = some none)
 (z5:PySem.W.nsIn K mainGlobals "list" = some none)
 (z6:PySem.W.nsIn K mainGlobals "max" = some none)
 (z7:PySem.W.nsIn K mainGlobals "range" = some none)
 (z8:PySem.W.nsIn K mainGlobals "reversed" = some none)
 (z9:PySem.W.nsIn K mainGlobals "set" = some none)
 (z10:PySem.W.nsIn K mainGlobals "sorted" = some none)
 (z11:PySem.W.nsIn K mainGlobals "tuple" = some none) :
 ∃ fd:FuncData,(∀ (s:Shared) (v:Value),BindsTo s fd ⟨[v],[]⟩ [("_law_script",v)])/\∀ base:Heap,K.In base->base.Ns mainGlobals mg->Bm mg base->rp P w K mg base CX0 9 fa fd ["_law_script"] (spD K 1 G4.fn_law):=by
 have e:=hfa.symm.trans (PySem.W.mg_of X Gm a15)
 cases e
 have Z:Zs mg:=⟨PySem.W.mg_none_of X Gm z0,PySem.W.mg_none_of X Gm z1,PySem.W.mg_none_of X Gm z2,PySem.W.mg_none_of X Gm z3,PySem.W.mg_none_of X Gm z4,PySem.W.mg_none_of X Gm z5,PySem.W.mg_none_of X Gm z6,PySem.W.mg_none_of X Gm z7,PySem.W.mg_none_of X Gm z8,PySem.W.mg_none_of X Gm z9,PySem.W.mg_none_of X Gm z10,PySem.W.mg_none_of X Gm z11⟩
 have F0:=e7 (st:=eD) l0 c0 k0
 have F1:=e7 (st:=cG) l1 c1 k1
 have F2:=e7 (st:=dX) l2 c2 k2
 have F3:=e7 (st:=cw) l3 c3 k3
 have F4:=e7 (st:=e8) l4 c4 k4
 have F5:=e7 (st:=fg) l5 c5 k5
 have F6:=e7 (st:=d6) l6 c6 k6
 have F7:=e7 (st:=cH) l7 c7 k7
 have F8:=e7 (st:=cV) l8 c8 k8
 have F9:=e7 (st:=cM) l9 c9 k9
 have F10:=e7 (st:=cR) l10 c10 k10
 have F11:=e7 (st:=cF) l11 c11 k11
 have F12:=e7 (st:=cg) l12 c12 k12
 have F13:=e7 (st:=bR) l13 c13 k13
 have F14:=e7 (st:=cu) l14 c14 k14
 have F15:=e7 (st:=jx) l15 c15 k15
 refine ⟨PySem.W.fnOf "law" "law" (cm jx) (bw jx) (aC jx) .none kV15 dc15 pm15 an15 cd15 ct15,fun s v=>.of_eq rfl,fun base hK _ hB=>?_⟩
 have C_uppers_of:=nq (P:=P) (w:=w) (base:=base) ⟨_,_,F0,PySem.W.mg_of X Gm a0⟩
 have C_lowers_of:=np (P:=P) (w:=w) (base:=base) ⟨_,_,F1,PySem.W.mg_of X Gm a1⟩ Z C_uppers_of
 have C_upwards:=rD (P:=P) (w:=w) (base:=base) (yH F2 (PySem.W.mg_of X Gm a2) m2) hK hB Z
 have C_heights_of:=lS (P:=P) (w:=w) (base:=base) ⟨_,_,F3,PySem.W.mg_of X Gm a3⟩ Z C_upwards
 have C_row_at:=su (P:=P) (w:=w) (base:=base) ⟨_,_,F4,PySem.W.mg_of X Gm a4⟩ Z
 have C_floors:=tJ (P:=P) (w:=w) (base:=base) ⟨_,_,F5,PySem.W.mg_of X Gm a5⟩ Z C_heights_of C_lowers_of C_row_at
 have C_tallest:=rQ (P:=P) (w:=w) (base:=base) ⟨_,_,F6,PySem.W.mg_of X Gm a6⟩ Z C_floors C_lowers_of
 have C__law_cell:=ou (P:=P) (w:=w) (base:=base) ⟨_,_,F7,PySem.W.mg_of X Gm a7⟩ Z
 have C__law_mix:=pE (P:=P) (w:=w) (base:=base) ⟨_,_,F8,PySem.W.mg_of X Gm a8⟩ Z
 have C__law_perm:=mS (P:=P) (w:=w) (base:=base) ⟨_,_,F9,PySem.W.mg_of X Gm a9⟩ Z C__law_mix
 have C__law_all:=pC (P:=P) (w:=w) (base:=base) ⟨_,_,F10,PySem.W.mg_of X Gm a10⟩ Z
 have C__law_yard:=m7 (P:=P) (w:=w) (base:=base) ⟨_,_,F11,PySem.W.mg_of X Gm a11⟩ Z C__law_all C__law_cell C__law_mix C__law_perm
 have C__law_is_row:=kz (P:=P) (w:=w) (base:=base) ⟨_,_,F12,PySem.W.mg_of X Gm a12⟩ Z
 have C__law_is_tower:=jA (P:=P) (w:=w) (base:=base) ⟨_,_,F13,PySem.W.mg_of X Gm a13⟩ Z
 have C__law_below:=lQ (P:=P) (w:=w) (base:=base) ⟨_,_,F14,PySem.W.mg_of X Gm a14⟩ Z
 exact BD F15 Z C__law_below C__law_cell C__law_is_row C__law_is_tower C__law_yard C_floors C_tallest
theorem walk {l:PySem.W.OpenLaw} {q:Program} {loose:List Str} {XP:(Str->Option Value)->Heap->Prop} {YP:World->Heap->Prop} {d:DefRec} {K:Params->PySem.W.Frag} {ts:List Addr} (hn:l.most=some 63) (hdf:d.params.defaults=[])
 (hY:∀ (w:World) (h:Heap),YP w h->(K w.params).In h) (hT:∀ (w:World) (h:Heap),YP w h->∀ P∈ts,h.get? P=some (PySem.W.tabObj #[])) (hok:∀ P:Params,vf (K P) ts=true)
 (F:∀ (w:World) (mg:Str->Option Value) (fa:Addr) (h:Heap),(K w.params).In h->h.Ns mainGlobals mg->mg d.name=some (.ref fa) ->
   ∃ fd:FuncData,(∀ (s:Shared) (u:Value),BindsTo s fd ⟨[u],[]⟩ [("_law_script",u)])/\∀ base:Heap,(K w.params).In base->base.Ns mainGlobals mg->Bm mg base->rp l.prog w (K w.params) mg base CX0 9 fa fd ["_law_script"] (spD (K w.params) 1 G4.fn_law)) :
 PySem.W.WalkO q loose XP YP l.row.toRowW d [] (fun f vs=>PySem.call f vs) :=
 wm (n:=63) (k:=9) (x:="_law_script") (fn:=G4.fn_law) hn (by decide) hdf ⟨rfl,by decide,by decide⟩ hY hT hok F G4.law_eq
end C
open PySem PySem.W PyProof.Rows
set_option maxRecDepth 100000 in
set_option maxHeartbeats 0 in
theorem PySem.Challenge.cw_rankyard_k04_whole_floors_and_the_talles_holds : PySem.Challenge.rw_rankyard_k04_whole_floors_and_the_talles.Holds := by
 w_on;o_law;k_head;(case hw=>w_witness2)
 k_fill
 refine C.walk (l:=PySem.Challenge.rw_rankyard_k04_whole_floors_and_the_talles) rfl rfl (fun w h Y=>PySem.W.km_in_of Y) (fun w h Y=>PySem.W.km_tabs_of Y) (fun P=>by kernel_rfl) ?F
 case F =>
  intro w mg fa h KX G hmg
  refine' C.all_mk KX G hmg ?a0 ?l0 ?c0 ?k0 ?a1 ?l1 ?c1 ?k1 ?a2 ?l2 ?c2 ?k2 ?a3 ?l3 ?c3 ?k3 ?a4 ?l4 ?c4 ?k4 ?a5 ?l5 ?c5 ?k5 ?a6 ?l6 ?c6 ?k6 ?a7 ?l7 ?c7 ?k7 ?a8 ?l8 ?c8 ?k8 ?a9 ?l9 ?c9 ?k9 ?a10 ?l10 ?c10 ?k10 ?a11 ?l11 ?c11 ?k11 ?a12 ?l12 ?c12 ?k12 ?a13 ?l13 ?c13 ?k13 ?a14 ?l14 ?c14 ?k14 ?a15 ?l15 ?c15 ?k15 ?m2 ?z0 ?z1 ?z2 ?z3 ?z4 ?z5 ?z6 ?z7 ?z8 ?z9 ?z10 ?z11
  (case a0=>k_is)
  (case l0=>k_is)
  (case c0=>k_is)
  (case k0=>k_is)
  (case a1=>k_is)
  (case l1=>k_is)
  (case c1=>k_is)
  (case k1=>k_is)
  (case a2=>k_is)
  (case l2=>k_is)
  (case c2=>k_is)
  (case k2=>k_is)
  (case a3=>k_is)
  (case l3=>k_is)
  (case c3=>k_is)
  (case k3=>k_is)
  (case a4=>k_is)
  (case l4=>k_is)
  (case c4=>k_is)
  (case k4=>k_is)
  (case a5=>k_is)
  (case l5=>k_is)
  (case c5=>k_is)
  (case k5=>k_is)
  (case a6=>k_is)
  (case l6=>k_is)
  (case c6=>k_is)
  (case k6=>k_is)
  (case a7=>k_is)
  (case l7=>k_is)
  (case c7=>k_is)
  (case k7=>k_is)
  (case a8=>k_is)
  (case l8=>k_is)
  (case c8=>k_is)
  (case k8=>k_is)
  (case a9=>k_is)
  (case l9=>k_is)
  (case c9=>k_is)
  (case k9=>k_is)
  (case a10=>k_is)
  (case l10=>k_is)
  (case c10=>k_is)
  (case k10=>k_is)
  (case a11=>k_is)
  (case l11=>k_is)
  (case c11=>k_is)
  (case k11=>k_is)
  (case a12=>k_is)
  (case l12=>k_is)
  (case c12=>k_is)
  (case k12=>k_is)
  (case a13=>k_is)
  (case l13=>k_is)
  (case c13=>k_is)
  (case k13=>k_is)
  (case a14=>k_is)
  (case l14=>k_is)
  (case c14=>k_is)
  (case k14=>k_is)
  (case a15=>k_is)
  (case l15=>k_is)
  (case c15=>k_is)
  (case k15=>k_is)
  (case m2=>kernel_rfl)
  (case z0=>k_is)
  (case z1=>k_is)
  (case z2=>k_is)
  (case z3=>k_is)
  (case z4=>k_is)
  (case z5=>k_is)
  (case z6=>k_is)
  (case z7=>k_is)
  (case z8=>k_is)
  (case z9=>k_is)
  (case z10=>k_is)
  (case z11=>k_is)
