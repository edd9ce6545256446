import PyProof.Rows.All
import Wide.All
import OpenK.AllK
import Wide.FinOn
import Lean
import PyProof.EqAt
import PyProof.EqKinds
import PyProof.TupleCall
import PySem.Challenge.RW_beatplans_k97_whole_laid_together
noncomputable section
set_option compiler.extract_closed false
set_option genSizeOf false
set_option genInjectivity false
set_option Elab.async false
set_option linter.all false
set_option maxRecDepth 100000
set_option maxHeartbeats 8000000
set_option maxRecDepth 100000 in
set_option maxHeartbeats 0 in
theorem Z.wellS:PySem.Challenge.rw_beatplans_k97_whole_laid_together.wellSaid=true:=by decide +kernel
open List renaming all_cons->mn,all_eq_true->Bj,any_cons->Vi,append_assoc->Jw,append_nil->Sh,dropLast_eq_take->ZJ,drop_eq_getElem_cons->Qj,drop_length->CJ,drop_of_length_le->qr,drop_zero->lB,eraseIdxIfInBounds_toArray->sL,ext_getElem->zB,filterMap_cons->Rw,filterMap_map->fK,find?_cons->Vk,find?_cons_of_neg->kL,flatten_cons->Mo,foldl->Mq,foldl_cons->WA,forIn_cons->XA,getD->Ad,getD_eq_getElem?_getD->Hi,getElem?_append_left->Pg,getElem?_append_right->Bn,getElem?_cons_succ->MK,getElem?_eq_getElem->Bc,getElem?_eq_none->yB,getElem?_inj->tK,getElem?_map->md,getElem?_range->KJ,getElem?_replicate->Ew,getElem?_set_ne->aj,getElem?_set_self->Yk,getElem?_take->iK,getElem?_take_of_lt->QK,getElem_idxOf->Sq,getElem_inj->DJ,getElem_map->AB,getElem_mem->Gj,getElem_of_mem->Lg,getElem_take->uK,getElem_toArray->Sw,idxOf_lt_length_of_mem->Rj,length->Uv,length_append->gg,length_cons->bf,length_drop->EJ,length_erase_of_mem->RK,length_filter_le->mr,length_map->Ab,length_nil->Do,length_pos_of_mem->lL,length_range->Lw,length_replicate->aL,length_set->Ci,length_singleton->cL,length_take->Tk,lookup->xA,lookup_cons->Xi,map_append->Ud,map_congr_left->Ij,map_cons->He,map_inj_right->jK,map_map->Gf,map_nil->Go,map_replicate->kK,map_reverse->FJ,map_take->gB,mem_append_left->Gg,mem_append_right->Ff,mem_cons->Mc,mem_cons_of_mem->Oc,mem_cons_self->Re,mem_of_getElem?->Pd,mem_of_mem_take->Jo,mem_or_eq_of_mem_set->YK,nil_append->Kg,not_mem_nil->Qg,of_mem_zip->br,pairwise_singleton->XB,range->Ge,range'->zA,range_succ->jr,replicate->Db,replicate_succ->Jj,reverse_cons->Rq,reverse_nil->GJ,set_append_left->RJ,size_toArray->Zc,take_append_of_le_length->qL,take_length->Rg,take_of_length_le->mL,take_sublist->Mw,take_succ->Bh,toArray->Lq
open PySem.Heap renaming SameBut->xo,get?_push_ne->KB,get?_push_of_some->Ac,get?_push_size->Fe,get?_update_ne->rK,get?_update_other->WB,get?_update_self->xB,lt_size->Hc,size_push->dw
open PySem.W renaming BT->Cj,CodeHd->vK,Frag->Eb,OpenLaw->FB,WalkO->HJ,boot_heap->Oo,boot_o_0->Ro,boot_o_1->yn,boot_o_10->Po,boot_o_2->So,boot_o_3->NJ,boot_o_4->To,boot_o_5->Uo,boot_o_6->Vo,boot_o_7->Xo,boot_o_8->Ko,boot_o_9->Lo,callWith_K->dL,cellsFrom_some->RB,codeIn->Wq,codeRec_of->fL,findIn->aB,fnMade->bB,fnOf->Lj,instObj->GB,kas_place->Nv,keepIn->Xq,kia_one->Di,kitOne->gw,kitx_dict->UJ,kitx_list->VJ,lookIn->cB,methodObj->nB,mg_of->Uq,nsIn->jn,piece_app->oB,piecesOf->LB,plainGet->OJ,segRunT->HB,segRun_of->pB,specialIn->WJ,topRun->wK,topStub->nK
open PySem renaming Comprehension->Vv,DictEntry->Mk,FuncData->vo,NameKind->Mf,Operator->cn,PassesOwn->Ik,Spec->hX,assignEach->Cg,assignInOrder->IA,attributeBase->Pk,behindInMarks->tw,binaryOp->Pe,bindArgs->Fq,bootBuiltins->Pj,builtinsNs->yo,call->GA,call_meets->Dg,call_meetsIn->Xv,cellsFrom->Nf,closureFor->Qv,codeAny_builtin->Zv,codeAny_call_function->JJ,codeAny_mono->Io,compTurn->wo,compareOp->Ed,concat_meets->vA,evalArgs_none->qB,evalPart_none->JA,foldedForSure->LA,foldedSetIterable->Ii,inplaceOp->zo,lastMarks->Ov,letOwnedTupleGo->Vq,mainGlobals->Ke,mem_of_lookup->fg,newFunctionEnv->EA,noFill_tuple_add->jB,plainId_quiet->MA,post_val_or_str->aw,pushCells->Jq,qualnameIn->Qk,repr_of_reads'->FA,seqIndex?->Pv,seqIndex_neg->wA,seqSlot_of->xK,seq_tuple_add->NA,sizeLine->db,sizeLine_eq->Fi,sliceBounds->Dj,slicePick->Ao,starEach->Uc,strLen_append->OA,swappedStores->Ai,swapsWith->Kk,swapsWithSole->Mj,sysModules->Ye,treeTable->Lk,tupleKind->Bo,tupleKind_room_in1->Qq,typeIs_int->Iq,typeIs_str->rn,wpAny_Call_Name_kw->No,wpAny_Call_method0_late->oK,wpAny_binaryOp_repeat_ref->XJ,wpAny_bind->ub,wpAny_callSpecial?_slot->Aw,wpAny_call_entry->Fo,wpAny_comprehension_free->QJ,wpAny_execs_cons->kB,wpAny_execs_nil->dB,wpAny_field->Zi,wpAny_getItem_list_slice->VB,wpAny_getItem_str_slice->Bw,wpAny_holding->Nj,wpAny_letOwnedTupleGo_enum->gL,wpAny_mono->Zf,wpAny_newFunctionEnv_cells->iL,wpAny_newList->RA,wpAny_newObj_type->Th,wpAny_passesOwn->An,wpAny_pure->uc,wpAny_pyIter_enum->Tw,wpAny_pyIter_list->SA,wpAny_pyNext_enum_endD->AK,wpAny_pyNext_enum_itemD->pK,wpAny_sequenceKey->VA,wpAny_setField->kr,wpAny_standAt->ww,wpAny_truthy_bool->Uk,wpAny_typeOf->Yv
open Nat renaming add_le_add->Tq,add_le_add_left->Qw,add_le_add_right->LJ,le_of_eq->jw,le_of_lt->Yi,le_refl->Jb,le_succ->Tv,le_trans->Rb,lt_irrefl->Bi,lt_of_le_of_lt->Ug,lt_of_lt_of_le->Xe,lt_succ_of_lt->DB,lt_trans->BA,min_eq_left->fw,mul_comm->mw,mul_le_mul_right->MJ,ne_of_gt->ow,ne_of_lt->Ae,pow_le_pow_right->ur,sub_self->CA,succ_le_succ->ZA,zero_add->dn,zero_le->Eg
open Bool renaming and_eq_true->Qe,eq_iff_iff->Co,false_eq_true->Qo,false_ne_true->Hd,false_or->fB,not_eq_true'->Iw,or_eq_true->Yq
open Option.some renaming inj->Ee
open PySem.NameKind renaming cell->Of,free->Se
open PySem.PyData renaming canLayAll0->Nw,depthAll->Fj,eqv->Vd,eqvAll->Ho,int->Hq,showable->Uw,showableAll->TJ,shown->Nk,shownAll->wn
open PySem.Value renaming bool->Wv,int->Nq,none->Yd,ref->Bg,str->Oq
open Int renaming ediv_one->AA,emod_add_mul_ediv->wB,emod_lt_of_pos->Hj,emod_nonneg->Ej,eq_ofNat_of_zero_le->Gi,mul_comm->iw,toNat_natCast->zn
open PySem.W.Fast renaming te10110043849684766642->ZB,te14364793385576792824->Yo,te5923862056798008813->uL
open PySem.Builtin.Slice renaming sliceAdjust->lr,sliceApplied->Ww,sliceFields->tL,slicePlaces->Xk
open PySem.Builtin.Tuple renaming tupleExact->Zk,tupleIsExact->nL,tupleItemsOf->PB,tupleTooMany->pL
open PyProof.Rows renaming args_tuple_getitem->NB,assignInOrder_cons->OB,boot_list->rL,callWith_type1->QB,entry_tuple_getitem->JB,keyLt'_oneType->DA,slot_tuple_getitem->Sj,subscriptTail->uw,subscriptTail_builtinR->zK,tupleItemsOf_->QA
open Array renaming getD_eq_getD_getElem?->UB,getElem?_setIfInBounds_self_of_lt->aC,getElem?_toList->zw,length_toList->vn
open PySem.Obj renaming isFreed_of_fields->SJ,mapFields->Oj,mapSeq->Rk
open False renaming elim->Rh
open PySem.Str renaming ofString->Kj
open PySem.Builtin.List renaming listTooLong->Vw
open True renaming intro->Ei
open PySem.Builtin.Str renaming occurrences->Hw
open Sum.inr renaming injEq->nn
open PySem.F renaming args_dict_get_3->DK,args_object_init_2->sK,args_tuple_add_2->TB,args_tuple_mul_2->CB,entry_dict_get->ZK,entry_enumerate_new->bK,entry_tuple_add->SB,entry_tuple_mul->YA,newCall_enumerate_1->cK,plainAttrs_dict->Fw,plainAttrs_list->Gw,plain_list_iadd->EK,slot_dict_eq_refl->BJ,slot_dict_get->Cw,slot_dict_items->FK,slot_dict_values->HK,slot_int_rmul->cw,slot_list_lt->OK,slot_tuple_add->YB,slot_tuple_iterator_next->LK,slot_tuple_mul->Gq,typeCall_enumerate_1->qK,type_dict_get->SK
open PySem.Calls renaming Name_function_global->GK,callWith_builtin->Dw
open PySem.Around renaming frames_deeper->jL,in1_units->aK,under_plainId->xw
open PySem.W.KasT renaming kasWp_bind->Zq,ret->Sv
open PySem.EqBoolInt renaming of_rcne->Ow
open PySem.SeqAt renaming EqAt->Xf,in_listAt->IJ,in_tupleAt->IB,notIn_listAt->PJ,notIn_tupleAt->rB
open Prod.mk renaming inj->Kq
open Prod renaming ext->Jk
open PySem.W.Hook renaming obs->uB,val->vB
open PySem.Paired renaming length->bw
open Option renaming getD_none->lK,getD_some->mK,isSome_map->MB,map_some->BB
open PySem.Txt renaming slice->Rv,slice_le->sw
open PySem.AutoSeq1 renaming wpAny_loadPart'->JK
open PySem.SeqAt.RcNeAt renaming tuples->IK
open List.Pairwise renaming nil->CK
open Classical renaming choose->YJ,choose_spec->BK
open PySem.SeqAt.EqAt renaming int_int->TK,int_str->UK,str_int->WK
open PySem.W.Looks renaming of_pure->iB
open PySem.ScopeKind renaming function->PK
open PySem.Draws renaming list->NK
open List.cons renaming inj->eK
open Lean.Parser.Tactic renaming simpLemma->VW
open PySem.Builtin.SmallTypes renaming nextOf->TW,stopIteration->UW
open Array renaming getElem?_eq_some_iff->Xb
open Bool renaming false->ua,true->ma
open Int renaming toNat->El
open List renaming getElem?_eq_some_iff->Ba,getElem?_zip_eq_some->fc,mem_append->Ma,mem_filter->Nc,mem_map->Ia,mem_range->Yb,mem_reverse->cf,mem_singleton->Ea,nodup_cons->Za,pairwise_cons->Mb,pairwise_iff_getElem->Wc,pairwise_map->Te
open Nat renaming not_lt->Kc
open Ne renaming symm->Xa
open Option renaming isSome_iff_exists->Vc,none->Aa,some->da
open Or renaming symm->Dl
open PyProof.Rows renaming AllBare->ue,IntsAre->Ob,IsTup->Li,Subscript_->Cp,envOfC->Kd,oneLt_int->jx,seqObj->re,size_push'->yp,sortedHeap->xp,tail_any->ul
open PySem renaming Addr->Ca,Around->ac,BindsTo->se,Builtin->Fb,CmpOp->Dr,Expr->Na,Heap->Wa,IsPart->Oe,Meets->Uf,OsState->mj,Paired->ud,Params->Tb,PlainL->Dp,Program->Nb,PyData->Ua,Scope->Rc,Shared->Fa,Stmt->Qa,Value->Da,World->Bb,assign->Dc,atKey->mh,backTo->Jc,bindC->Ki,bindL->Ji,bindName->Bl,cLine->Sb,callerA->Yg,cellOf->Ap,eval->Lb,getItem->Xc,holding->Pc,isTrue->tf,leaving->Sf,model->Ja,newList->Cr,noteFrame->mx,rawInt->Cb,seqIndex_of->zl,setFlight->gx,setItem->lj,slot_list_getitem->Rf,standAt->Qf,storeName->cx,valueAt->Pf,wpAny_Name->rp,wpAny_call->qp,wpAny_load->pp,wpAny_loadPart'->Ka,wpAny_rule->jp
open PySem.Heap renaming IsSliceOf->Zd
open PySem.SeqAt renaming RcAt->Vh
open PySem.W renaming Hook->td,OpenLaw->nj,WShape->Bp,fnMade->zp,kas_ask->Xg,kas_desc->Al,tabObj->vp
open Sum renaming inl->bc,inr->Ib
namespace L2
open PySem PySem.Spec PyProof.Rows

abbrev Wb:=Sum Int Str
noncomputable def Im  : Wb->Da->Bool
 |.inl k,v=>Da.isInt k v
 |.inr x,v=>Da.isStrOf x v
noncomputable def keyH  (w:Bb):Wb->Int
 |.inl k=>hashInt k
 |.inr x=>hashStr w x
def pi  : ∀{k } {v },Im k v=ma->(∃i t,k=bc i/\v=Nq i t)\/(∃x t,k=Ib x/\v=Oq x t)
 |.inl i,v,h=>by
  obtain⟨t,e⟩:=Da.isInt_shape (k:=i) (v:=v) h;exact .inl ⟨i,t,rfl,e⟩
 |.inr x,v,h=>by
  obtain⟨t,e⟩:=Da.isStrOf_shape (x:=x) (v:=v) h;exact .inr ⟨x,t,rfl,e⟩
def OU   i t:Im (.inl i) (.int i t)=ma:=by simp[Im,Da.isInt]
def PU   x t:Im (.inr x) (.str x t)=ma:=by simp[Im,Da.isStrOf]
def ZN   a b:decide ((bc a:Wb)=bc b)=(a==b):=by
 by_cases e:a=b
 ·subst e;simp
 ·have h:¬(bc a:Wb)=bc b:=λq=>e (bc.inj q);rw[decide_eq_false h];exact(beq_eq_false_iff_ne.mpr e).symm
def eO   a b:decide ((Ib a:Wb)=Ib b)=decide (a=b):=by
 by_cases e:a=b
 ·subst e;simp
 ·have h:¬(Ib a:Wb)=Ib b:=λq=>e (Ib.inj q);rw[decide_eq_false h,decide_eq_false e]
def aO   a b:decide ((bc a:Wb)=Ib b)=ua:=decide_eq_false (λq=>nomatch q)
def bO   a b:decide ((Ib a:Wb)=bc b)=ua:=decide_eq_false (λq=>nomatch q)

def Sd   prog w:PySem.KeyKind prog w Wb where
 is:=Im
 hash:=keyH w
 inj:=λv a b F z=>by
  rcases pi F with⟨i,t,rfl,rfl⟩|⟨x,t,rfl,rfl⟩
  ·rcases pi z with⟨j,u,rfl,e⟩|⟨y,u,rfl,e⟩
   ·injection e with e1 _;rw[e1]
   ·exact nomatch e
  ·rcases pi z with⟨j,u,rfl,e⟩|⟨y,u,rfl,e⟩
   ·exact nomatch e
   ·injection e with e1 _;rw[e1]
 byValue:=λk v h=>by
  rcases pi h with⟨i,t,rfl,rfl⟩|⟨x,t,rfl,rfl⟩<;>rfl
 pyHash:=λq h=>by
  rcases pi q with⟨i,t,rfl,rfl⟩|⟨x,t,rfl,rfl⟩
  ·exact wpAny_pyHash_int h
  ·exact wpAny_pyHash_str h
 eqBool:=λhu q h=>by
  rcases pi hu with⟨i,t,rfl,rfl⟩|⟨x,t,rfl,rfl⟩
  ·rcases pi q with⟨j,u,rfl,rfl⟩|⟨y,u,rfl,rfl⟩
   ·rw[ZN]at h;exact wpAny_eqBool_int h
   ·rw[aO]at h;exact UK i t y u _ _ _ _ h
  ·rcases pi q with⟨j,u,rfl,rfl⟩|⟨y,u,rfl,rfl⟩
   ·rw[bO]at h;exact WK x t j u _ _ _ _ h
   ·rw[eO]at h;exact wpAny_eqBool_str h
 «strs»:=λk x t v h=>by
  rcases pi h with⟨i,u,rfl,e⟩|⟨y,u,rfl,e⟩
  ·exact nomatch e
  ·injection e with e1 _
   subst e1
   cases v<;>rfl

def bW   prog w i t:(Sd prog w).is (.inl i) (.int i t)=ma:=OU i t
def cW   prog w x t:(Sd prog w).is (.inr x) (.str x t)=ma:=PU x t

set_option genInjectivity true
inductive V where
 |non|bl (b:Bool)|int (i:Int)|str (x:Str)|byt (b:Array UInt8)|flt (b:UInt64)|ref (a:Ca)|ty (n:String)
 deriving DecidableEq

set_option genInjectivity false
def RelV  : V->Da->Prop
 |.non,u=>u=Yd
 |.bl b,u=>u=Wv b
 |.int i,u=>∃t,u=Nq i t
 |.str x,u=>∃t,u=Oq x t
 |.byt b,u=>∃t,u=Da.bytes b t
 |.flt b,u=>∃t,u=Da.float b t
 |.ref a,u=>u=Bg a
 |.ty n,u=>u=Da.type n

abbrev Vals  : List V->List Da->Prop:=ud RelV
def Vals.length    (r:Vals xs us):xs.length=us.length:=bw r
theorem Vals.get  : ∀{xs } {us } {i:Nat} {x },Vals xs us->xs[i]?=da x->∃u,us[i]?=da u/\RelV x u
 |_,_,_,_,.nil,e=>by simp at e
 |_,_,0,_,.cons r _,e=>by simp at e;subst e;exact⟨_,rfl,r⟩
 |_,_,i+1,x,.cons _ t,e=>by
  obtain⟨u,q,j⟩:=Vals.get (i:=i) (x:=x) t (by simpa using e)
  exact⟨u,by simpa using q,j⟩
theorem Vals.set    (r:RelV x u):∀{xs } {us } i ,Vals xs us->Vals (xs.set i x) (us.set i u)
 |_,_,_,.nil=>.nil
 |_,_,0,.cons _ t=>.cons r t
 |_,_,i+1,.cons q t=>.cons q (Vals.set r i t)
theorem Vals.append  : ∀{xs ys } {us ws },Vals xs us->Vals ys ws->Vals (xs++ys) (us++ws)
 |_,_,_,_,.nil,s=>s
 |_,_,_,_,.cons r t,s=>.cons r (Vals.append t s)
theorem Vals.take  : ∀{xs } {us } n ,Vals xs us->Vals (xs.take n) (us.take n)
 |_,_,0,_=>.nil
 |_,_,_+1,.nil=>.nil
 |_,_,n+1,.cons r t=>.cons r (Vals.take n t)
theorem Vals.drop  : ∀{xs } {us } n ,Vals xs us->Vals (xs.drop n) (us.drop n)
 |_,_,0,r=>r
 |_,_,_+1,.nil=>.nil
 |_,_,n+1,.cons _ t=>Vals.drop n t
def RelO  : Option V->Option Da->Prop
 |some v,da u=>RelV v u
 |none,Aa=>True
 |_,_=>False
def KV  {κ:Type}:List (κ×V)->List (κ×Da)->Prop:=ud λ(p:κ×V) (q:κ×Da)=>p.1=q.1/\RelV p.2 q.2

noncomputable def kV  : Wb->V
 |.inl i=>.int i
 |.inr x=>.str x

set_option genInjectivity true
inductive HO where
 |lst (xs:List V)
 |tup (xs:List V)
 |dK (kvs:List (Wb×V))|dT (kvs:List (List Wb×V))
 |set (S:Int->Bool) (n:Nat)
 |ins (C dx:Ca) (fs:List (Str×V))
 |own (x:Ca)
 |xd (fs:List (Str×V))
 |met (f x:Ca)
 |rng (lo hi:Int)
 |frz (o:Obj) (u:HO)
 |tbl (ps:Array Da)
 |ext (φ:Wa->Prop)

set_option genInjectivity false
abbrev Hp:=Ca->Option HO
noncomputable def upd  (H:Hp)(a:Ca)(o:HO):Hp:=λb=>if b=a then da o else H b
def Kf     : upd H a o a=da o:=by unfold upd;rw[if_pos rfl]
def Gc     (h:b≠a):upd H a o b=H b:=by unfold upd;rw[if_neg h]
def PN  {H:Hp}(h:H a=da o)(h':H b=da u)(d:o≠u):a≠b:=by
 intro e;subst e;rw[h]at h';exact d (Ee h')
def Og  {H:Hp}(h:H a=da o)(h':H b=Aa):a≠b:=by
 intro e;subst e;rw[h]at h';cases h'

def TupD  (h:Wa)(a:Ca)(items:Array Da):Prop:=∃o,h.get? a=da o/\o.cls=.type "tuple" /\ ∃n,o.data=.seq items n/\o.dict=Aa
def TupD.tup     (x:TupD h a items):Li h a items:=let ⟨o,e,c,n,d,_⟩:=x;⟨o,e,c,n,d⟩
def TupD.new  (h:Wa) items:TupD (h.push { cls:=.type "tuple",data:=.seq items }) h.objs.size items:=⟨_,Fe _ rfl,rfl,_,rfl,rfl⟩
section
variable (P:Nb)(w:Bb)
def ee (H:Hp)(h:Wa)(a:Ca):HO->Prop
 |.lst z=>z.length<=db/\∃(y:List Da) (n:Nat),Vals z y/\h.get? a=da { cls:=.type "list",data:=.seq y.toArray n }
 |.tup z=>z.length<=db/\∃y:List Da,Vals z y/\TupD h a y.toArray
 |.dK j=>j.length<=db/\(a==Ye)=ua/\∃R,KV j R/\h.DictOf (Sd P w) a R
 |.dT j=>j.length<=db/\(a==Ye)=ua/\∃z:List (List Wb×Ca×Da),
   ud (λ(p:List Wb×V) (q:List Wb×Ca×Da)=>p.1=q.1/\H q.2.1=da (.tup (p.1.map kV))/\RelV p.2 q.2.2) j z/\
   ∃o O ep,h.get? a=da o/\o.ExactDict/\o.data=.dict O ep/\O.toList=z.map (entryOfKey (Bo (Sd P w)))/\(z.map (·.1)).Nodup
 |.set S n=>h.SetOf (intKind P w) a S n
 |.ins C I fs=>H I=da (.own a)/\fs.length<=1000/\I≠a/\h.get? a=da (GB C I)/\
   ∃F,h.Ns1 I F/\(∀f,RelO (fs.lookup f) (F f))/\PySem.Within F (fs.map (·.1))
 |.own _=>∃o,h.get? a=da o
 |.xd fs=>∃F,h.Ns1 a F/\∀f,RelO (fs.lookup f) (F f)
 |.rng lo hi=>∃t u v,h.get? a=da { cls:=.type "range",data:=.fields #[.int lo t,.int hi u,.int 1 v] }
 |.frz o u=>h.get? a=da o/\ee H h a u
 |.tbl ps=>h.get? a=da { cls:=.none,data:=.fields ps }
 |.met f x=>h.get? a=da (nB (.ref f) (.ref x))
 |.ext J=>J h/\(∃o,h.get? a=da o)/\∀Z Y:Wa,J Z->(∀o,Z.get? a=da o->Y.get? a=da o)->J Y
def Qd (H:Hp)(h:Wa):Prop:=∀a o,H a=da o->ee P w H h a o
end

section
variable {P:Nb}{w:Bb}{H H':Hp}{h h':Wa}{a:Ca}{o:HO}
theorem ee.lt  (x:ee P w H h a o):a<h.objs.size:=by
 cases o with
 |lst q=>obtain⟨_,_,_,_,e⟩:=x;exact Hc e
 |tup q=>obtain⟨_,_,_,p⟩:=x;exact p.tup.lt
 |dK j=>obtain⟨_,_,_,_,o,_,_,e,_⟩:=x;exact Hc e
 |dT j=>obtain⟨_,_,_,_,o,_,_,e,_⟩:=x;exact Hc e
 |set S n=>obtain⟨o,_,_,_,e,_⟩:=x;exact Hc e
 |ins C J fs=>obtain⟨_,_,_,e,_⟩:=x;exact Hc e
 |own y=>obtain⟨_,e⟩:=x;exact Hc e
 |xd fs=>obtain⟨_,⟨_,_,_,e,_⟩,_⟩:=x;exact Hc e
 |rng Y R=>obtain⟨_,_,_,e⟩:=x;exact Hc e
 |frz F u=>obtain⟨e,_⟩:=x;exact Hc e
 |tbl O=>exact Hc (show h.get? a=da _ from x)
 |met f y=>exact Hc (show h.get? a=da _ from x)
 |ext I=>obtain⟨_,⟨_,e⟩,_⟩:=x;exact Hc e
theorem Paired.mapP    : ∀{j } {q },ud F j q->(∀a b,F a b->G a b)->ud G j q
 |_,_,.nil,_=>.nil
 |_,_,.cons r t,f=>.cons (f _ _ r) (Paired.mapP t f)
def ee.stay  (x:ee P w H h a o)(k:∀b u,(b=a\/H b=da (.own a))->h.get? b=da u->h'.get? b=da u)
  (ho:∀b,H b=da (.own a)->H' b=da (.own a)) (ht:∀b xs,H b=da (.tup xs)->H' b=da (.tup xs)):ee P w H' h' a o:=by
 induction o with
 |lst xs=>obtain⟨z,J,n,r,e⟩:=x;exact⟨z,J,n,r,k _ _ (.inl rfl) e⟩
 |tup xs=>obtain⟨z,J,r,j,e,c⟩:=x;exact⟨z,J,r,j,k _ _ (.inl rfl) e,c⟩
 |dK R=>obtain⟨z,y,vs,r,j,F,I,e,c⟩:=x;exact⟨z,y,vs,r,j,F,I,k _ _ (.inl rfl) e,c⟩
 |dT R=>
  obtain⟨z,y,xs,r,j,F,I,e,c⟩:=x;exact⟨z,y,xs,Paired.mapP r λp q z=>⟨z.1,ht _ _ z.2.1,z.2.2⟩,j,F,I,k _ _ (.inl rfl) e,c⟩
 |set S n=>obtain⟨j,F,I,t,e,c⟩:=x;exact⟨j,F,I,t,k _ _ (.inl rfl) e,c⟩
 |ins C dx fs=>
  obtain⟨d,z,ne,e,Y,⟨O,F,I,e2,c⟩,r⟩:=x;exact⟨ho _ d,z,ne,k _ _ (.inl rfl) e,Y,⟨O,F,I,k _ _ (.inr d) e2,c⟩,r⟩
 |own y=>obtain⟨j,e⟩:=x;exact⟨j,k _ _ (.inl rfl) e⟩
 |xd fs=>obtain⟨Y,⟨O,F,I,e,c⟩,r⟩:=x;exact⟨Y,⟨O,F,I,k _ _ (.inl rfl) e,c⟩,r⟩
 |rng lo hi=>obtain⟨t,u,v,e⟩:=x;exact⟨t,u,v,k _ _ (.inl rfl) e⟩
 |frz j u ih=>obtain⟨e,q⟩:=x;exact⟨k _ _ (.inl rfl) e,ih q⟩
 |tbl Z=>
  have e:h.get? a=da { cls:=.none,data:=.fields Z }:=x;show h'.get? a=da { cls:=.none,data:=.fields Z };exact k a _ (.inl rfl) e
 |met f y=>
  have e:h.get? a=da (nB (.ref f) (.ref y)):=x;show h'.get? a=da (nB (.ref f) (.ref y));exact k a _ (.inl rfl) e
 |ext φ=>obtain⟨p,⟨o,e⟩,st⟩:=x;exact⟨st _ _ p λo q=>k _ _ (.inl rfl) q,⟨o,k _ _ (.inl rfl) e⟩,st⟩
def Qd.lt  (x:Qd P w H h)(e:H a=da o):a<h.objs.size:=(x a o e).lt
def Qd.fresh  (x:Qd P w H h)(e:h.objs.size<=a):H a=Aa:=by
 cases q:H a with
 |none=>rfl
 |some u=>exact absurd (Xe (x.lt q) e) (Bi _)
def Qd.kept  (x:Qd P w H h)(k:∀b u,h.get? b=da u->h'.get? b=da u):Qd P w H h':=λa o e=>
 (x a o e).stay (λb u _ q=>k b u q) (λ_ q=>q) λ_ _ q=>q
def Qd.laid  (x:Qd P w H h)(k:∀b u,h.get? b=da u->h'.get? b=da u)(F:h.objs.size<=a)(new:ee P w (upd H a o) h' a o):Qd P w (upd H a o) h':=λb u e=>by
 have j:=x.fresh F;by_cases y:b=a
 ·subst y;rw[Kf]at e;cases e;exact new
 ·rw[Gc y]at e;exact(x b u e).stay (λc v _ q=>k c v q) (λc q=>by rw[Gc (Og q j)];exact q) λc I q=>by rw[Gc (Og q j)];exact q
end

def Rd  (H:Hp)(a:Ca)(u:HO):Prop:=H a=da u\/∃o,H a=da (.frz o u)
def Rd.of     (h:H a=da u):Rd H a u:=.inl h
def Rd.ok        (r:Rd H a u)(x:Qd P w H h):ee P w H h a u:=by
 rcases r with r|⟨o,r⟩
 ·exact x a u r
 ·obtain⟨_,q⟩:=x a _ r;exact q
def yr  : Option HO->Prop
 |some (.lst _)=>True
 |some (.dK _)=>True
 |some (.dT _)=>True
 |some (.set _ _)=>True
 |some (.ins _ _ _)=>True
 |some (.ext _)=>True
 |_=>False

def Qd.write  (ok:Qd P w H h)(R:yr (H x))(he:e=x\/H e=da (.own x))(k:∀b u,b≠e->h.get? b=da u->h'.get? b=da u)(Z:∃u,h'.get? e=da u)
  (new:ee P w (upd H x o') h' x o'):Qd P w (upd H x o') h':=λb u q=>by
 have F:∀c y,H c=da (.own y)->c≠x:=λc y r z=>by subst z;rw[r]at R;exact R
 have I:∀c J,H c=da (.tup J)->c≠x:=λc J r z=>by subst z;rw[r]at R;exact R
 by_cases O:b=x
 ·subst O;rw[Kf]at q;cases q;exact new
 ·rw[Gc O]at q;by_cases j:b=e
  ·have q':H b=da (.own x):=by
    rcases he with z|z
    ·exact absurd (j.trans z) O
    ·rw[j];exact z
   rw[q]at q';cases q';obtain⟨v,hv⟩:=Z;exact⟨v,by rw[j];exact hv⟩
  ·refine(ok b u q).stay (λc v Y r=>k c v ?_ r) (λc r=>by rw[Gc (F c b r)];exact r) λc J r=>by rw[Gc (I c J r)];exact r
   rcases Y with rfl|Y
   ·exact j
   ·rintro rfl;rcases he with z|z
    ·exact F c b Y z
    ·rw[Y]at z;cases z;exact O rfl

structure Un (fs ex:List Ca)(H H':Hp)(h h':Wa):Prop where
 keep:∀b o,h.get? b=da o->H b=Aa->b∉fs->b∉ex->h'.get? b=da o
 slot:∀b o,h.get? b=da o->H b=Aa->b∈fs->b∉ex->∃sl,h'.get? b=da { o with slots:=sl }
 free:∀b o,h.get? b=da o->H b=Aa->b∉ex->H' b=Aa
 there:∀b o,h.get? b=da o->b∉ex->∃o',h'.get? b=da o'
 tups:∀b xs,H b=da (.tup xs)->H' b=da (.tup xs)
 frzs:∀b o u,H b=da (.frz o u)->H' b=da (.frz o u)
 tbls:∀b ps,H b=da (.tbl ps)->∃more,H' b=da (.tbl (ps++more))

def Un.any  (u:Un fs ex H H1 h J)(q:h.get? b=da j)(n:H b=Aa)(y:b∉ex):∃I,J.get? b=da { j with slots:=I }:=by
 by_cases F:b∈fs
 ·exact u.slot b j q n F y
 ·exact⟨j.slots,u.keep b j q n F y⟩
def Un.kept  (k:∀b u,h.get? b=da u->h'.get? b=da u):Un fs ex H H h h':=
 ⟨λb j q _ _ _=>k b j q,λb j q _ _ _=>⟨j.slots,k b j q⟩,λ_ _ _ n _=>n,λb j q _=>⟨j,k b j q⟩,λ_ _ q=>q,λ_ _ _ q=>q,λ_ y q=>⟨#[],by rw[q];simp⟩⟩
def Un.refl  : Un fs ex H H h h:=Un.kept λ_ _ q=>q
def Un.laid  {h: Wa}{a: Ca}(k:∀b u,h.get? b=da u->h'.get? b=da u)(F:h.objs.size<=a)(j:H a=Aa):Un fs ex H (upd H a o) h h' where
 keep:=λb u q _ _ _=>k b u q
 slot:=λb u q _ _ _=>⟨u.slots,k b u q⟩
 free:=λb u q n _=>by rw[Gc (Ae (Xe (Hc q) F))];exact n
 there:=λb u q _=>⟨u,k b u q⟩
 tups:=λb y q=>by rw[Gc (Og q j)];exact q
 frzs:=λb u y q=>by rw[Gc (Og q j)];exact q
 tbls:=λb I q=>⟨#[],by rw[Gc (Og q j),q];simp⟩
def Un.write  (y:yr (H x))(Y:e=x\/H e=da (.own x))(k:∀b u,b≠e->h.get? b=da u->h'.get? b=da u)(I:∃u,h'.get? e=da u):Un fs ex H (upd H x o) h h':=by
 have J:∀b,H b=Aa->b≠x:=λb n z=>by subst z;rw[n]at y;exact y
 have O:∀b,H b=Aa->b≠e:=λb n z=>by
  subst z;rcases Y with r|r
  ·exact J b n r
  ·rw[n]at r;cases r
 have F:∀b u,H b=da u->¬yr (da u)->b≠x:=λb u q nm z=>by subst z;rw[q]at y;exact nm y
 refine⟨λb u q n _ _=>k b u (O b n) q,λb u q n _ _=>⟨u.slots,k b u (O b n) q⟩,λb u q n _=>by rw[Gc (J b n)];exact n,λb u q _=>?_,
  λb R q=>by rw[Gc (F b _ q λz=>z)];exact q,λb u R q=>by rw[Gc (F b _ q λz=>z)];exact q,λb Z q=>⟨#[],by rw[Gc (F b _ q λz=>z),q];simp⟩⟩
 by_cases j:b=e
 ·subst j;exact I
 ·exact⟨u,k b u j q⟩

noncomputable def Gr  (h:Wa)(H:Hp):List Ca:=(Ge h.objs.size).filter λa=>(H a).isSome
def hidT  (h:Wa)(H:Hp):Wa:=PySem.W.hideAll h (Gr h H)
def MU  (h:Wa) H:(hidT h H).objs.size=h.objs.size:=PySem.W.hideAll_size _ _
def wz      (e:h.get? b=da o)(n:H b=Aa):(hidT h H).get? b=da o:=
 PySem.W.hideAll_get _ e λj=>by
  have q:(H b).isSome=ma:=(Nc.mp j).2;rw[n]at q;simp at q
def LQ      (e:(hidT h H).get? b=da o):h.get? b=da o/\H b=Aa:=by
 have j:h.get? b=da o:=PySem.W.of_hideAll (Gr h H) e;refine⟨j,?_⟩;cases q:H b with
 |none=>rfl
 |some x=>
  have y:b∈Gr h H:=Nc.mpr ⟨Yb.mpr (Hc j),by simp[q]⟩
  have z:(hidT h H).get? b=Aa:=PySem.W.hideAll_none (Gr h H) y;rw[z]at e;cases e

noncomputable def NQ  (g h:Wa)(L:Ca):List (Ca×Obj):=(Ge h.objs.size).filterMap λa=>if a=L\/(g.get? a).isSome=ma then Aa else (h.get? a).map λo=>(a,o)
def rest  (g h:Wa)(L d:Ca):List (Ca×Obj):=(NQ g h L).filter λp=>decide (p.1≠d)

structure Mod (K:Eb)(mg:Str->Option Da)(base:Wa):Prop where
 kin:K.In base
 glob:base.Ns Ke mg
 blt:∃mb,base.Ns yo mb/\∀x:Str,x ≠ "__name__" -> mb x=Pj x
 nolimit:base.NoLimit
 sys:∃o,K.lookup Ye=da o/\o.cls=.type "dict"

structure Cx where
 prog:Nb
 w:Bb
 K:Eb
 mg:Str->Option Da
 base:Wa
 A:ac
 N:List Str
 s₀:Fa
 H₀:Hp
 env:Env
 outer:List Env
 stack:List Env
 ex:List Ca
 fn:Str->Bool
 calm:Bool
 pn:List (Ca×Obj)
 xe:Da->Fa->Prop
noncomputable def Ef  (l:List Env):List Ca:=l.filterMap (·.frame)
abbrev Cx.fs  (X:Cx):List Ca:=Ef X.outer

def Zo  (sc:Rc)(x:Str):Prop:=sc.names.lookup x=da .local\/sc.names.lookup x=da .cell\/sc.names.lookup x=da .free
def ql  (sc:Rc)(x:Str):Prop:=sc.names.lookup x=da .local\/sc.names.lookup x=da .cell
def Look  (env:Env)(h:Wa)(m:Str->Option Da)(x:Str)(u:Da):Prop:=
 (env.kindOf x=da .local/\m x=da u)\/((env.kindOf x=da .cell\/env.kindOf x=da .free)/\∃c,env.cells.lookup x=da c/\h.IsCell c (da u))

structure Cx.Ok (X:Cx):Prop where
 mod:Mod X.K X.mg X.base
 kind:X.env.scope.kind=.function
 glob:X.env.globals=Ke
 blt:X.env.builtins=yo
 above:X.s₀.heap.objs.size<=X.env.locals
 inj:∀x y c,X.env.cells.lookup x=da c->X.env.cells.lookup y=da c->x=y
 has:∀x,(X.env.kindOf x=da .cell\/X.env.kindOf x=da .free)->∃c,X.env.cells.lookup x=da c
 cab:∀x c,X.fn x=ma->X.env.cells.lookup x=da c->X.s₀.heap.objs.size<=c
 hd:X.calm=ma->X.A.handled=Aa
 frames:X.A.frames=da X.stack
 stk:X.stack=X.outer\/(X.stack=X.env::X.outer/\X.env.frame=da X.env.locals)
 exf:∀b∈X.ex,b≠X.env.locals/\∀x c,X.env.cells.lookup x=da c->c≠b
 bs:∀b o,X.base.get? b=da o->X.s₀.heap.get? b=da o/\X.H₀ b=Aa
 bsz:X.base.objs.size<=X.s₀.heap.objs.size
 noex:∀b o,X.base.get? b=da o->b∉X.ex
 exfs:∀b∈X.ex,b∉X.fs
 funs:X.s₀.heap.FunFrames X.base X.outer
 frf:∀b∈X.fs,X.H₀ b=Aa

structure Pa (X:Cx)(pins:List (Ca×Obj))(σ:List (Option V))(H:Hp)(s:Fa):Prop where
 ok:X.Ok
 os:s.os=X.s₀.os
 bare:ue s.gens
 base:Un X.fs X.ex X.H₀ H X.s₀.heap s.heap
 loc:∃m,s.heap.Ns X.env.locals m/\∀(i:Nat) (x:Str) (v:V),X.N[i]?=da x->σ[i]?=da (da v)->Zo X.env.scope x->∃u,RelV v u/\Look X.env s.heap m x u
 cell:∀x c,X.env.cells.lookup x=da c->∃v,s.heap.IsCell c v
 free:H X.env.locals=Aa
 freeC:∀x c,X.env.cells.lookup x=da c->H c=Aa
 pin:∀p∈X.pn++pins,s.heap.get? p.1=da p.2/\H p.1=Aa/\p.1≠X.env.locals/\p.1∉X.fs/\∀v,p.2.data≠.cell v
 hok:Qd X.prog X.w H s.heap
 len:σ.length=X.N.length

section
variable {X:Cx}{pins:List (Ca×Obj)}{σ:List (Option V)}{H H':Hp}{s:Fa}{h':Wa}

def Cx.Ok.nofr  (ok:X.Ok)(e:X.base.get? b=da o):b∉X.fs:=λj=>by
 have:=(ok.funs.mem j).1;rw[e]at this;cases this
def Pa.bs  (I:Pa X pins σ H s):∀b o,X.base.get? b=da o->s.heap.get? b=da o/\H b=Aa:=λb o e=>
 ⟨I.base.keep b o (I.ok.bs b o e).1 (I.ok.bs b o e).2 (I.ok.nofr e) (I.ok.noex b o e),I.base.free b o (I.ok.bs b o e).1 (I.ok.bs b o e).2 (I.ok.noex b o e)⟩
def Pa.bk  (I:Pa X pins σ H s):∀b o,X.base.get? b=da o->s.heap.get? b=da o:=λb o e=>(I.bs b o e).1
def Pa.mod  (I:Pa X pins σ H s):Mod X.K X.mg X.base:=I.ok.mod
def Pa.kIn  (I:Pa X pins σ H s):X.K.In s.heap:=I.ok.mod.kin.keeps I.bk
def Pa.lt  (I:Pa X pins σ H s):X.env.locals<s.heap.objs.size:=let ⟨_,j,_⟩:=I.loc;j.lt
def Pa.sz  (I:Pa X pins σ H s):X.s₀.heap.objs.size<=s.heap.objs.size:=Rb I.ok.above (Yi I.lt)
def Pa.nofs  (I:Pa X pins σ H s){a:Ca}(h:s.heap.objs.size<=a):a∉X.fs:=λj=>by
 obtain⟨_,o,q,_⟩:=I.ok.funs.mem j;exact absurd (Xe (Hc q) (Rb I.sz h)) (Bi _)
def Pa.cne  (I:Pa X pins σ H s):∀x c,X.env.cells.lookup x=da c->c≠X.env.locals:=λx c e z=>by
 obtain⟨v,o,y,hd⟩:=I.cell x c e;obtain⟨m,⟨F,J,O,q,j,_⟩,_⟩:=I.loc;rw[z,q]at y;cases y;rw[j]at hd;cases hd
theorem Pa.funs  (I:Pa X pins σ H s):s.heap.FunFrames X.base X.outer:=by
 have all:∀(l:List Env),(∀b∈Ef l,b∈X.fs)->X.s₀.heap.FunFrames X.base l->s.heap.FunFrames X.base l:=by
  intro l
  induction l with
  |nil=>intro _ _;trivial
  |cons J r ih=>
   intro F Y;obtain⟨hk,⟨L,o,j,R,O,hd⟩,Z⟩:=Y;have y:L∈X.fs:=F L (by unfold Ef;rw[Rw,j];exact Re)
   obtain⟨sl,e⟩:=I.base.slot L o O (I.ok.frf L y) y λz=>I.ok.exfs L z y;exact⟨hk,⟨L,_,j,R,e,hd⟩,ih (λb q=>F b (by unfold Ef;rw[Rw,j];exact Oc _ q)) Z⟩
 exact all X.outer (λ_ q=>q) I.ok.funs

def Pa.stack  (I:Pa X pins σ H s):s.heap.FunFrames X.base X.stack:=by
 rcases I.ok.stk with e|⟨e,hf⟩
 ·rw[e];exact I.funs
 ·rw[e];obtain⟨m,j,_⟩:=I.loc;refine .cons (by rw[I.ok.kind];decide) hf j ?_ I.funs
  exact Wa.get?_none_of_le (Rb I.ok.bsz I.ok.above)
def Pa.stkSub  (I:Pa X pins σ H s):∀b∈Ef X.stack,b∈X.env.locals::X.fs:=λb j=>by
 rcases I.ok.stk with e|⟨e,hf⟩
 ·rw[e]at j;exact Oc _ j
 ·rw[e]at j;unfold Ef at j;rw[Rw,hf]at j;exact j
def Pa.stkFree  (I:Pa X pins σ H s):∀b∈Ef X.stack,H b=Aa:=λb j=>by
 rcases Mc.mp (I.stkSub b j)with e|j
 ·rw[e];exact I.free
 ·obtain⟨_,o,q,_⟩:=I.ok.funs.mem j;exact I.base.free b o q (I.ok.frf b j) λz=>I.ok.exfs b z j

def Pa.step     {ch:List Ca}(I:Pa X pins σ H s)
  (y:∀b∈ch,(b∈X.ex\/X.s₀.heap.objs.size<=b)/\b≠X.env.locals/\(∀x c,X.env.cells.lookup x=da c->c≠b)/\∀p∈X.pn++pins,p.1≠b)
  (keep:∀b o,b≠X.env.locals->b∉X.fs->b∉ch->s.heap.get? b=da o->H b=Aa->h'.get? b=da o)
  (slot:∀b o,b≠X.env.locals->b∈X.fs->b∉ch->s.heap.get? b=da o->H b=Aa->∃sl,h'.get? b=da { o with slots:=sl }) (free:∀b o,b∉ch->s.heap.get? b=da o->H b=Aa->H' b=Aa)
  (there:∀b o,b∉ch->s.heap.get? b=da o->∃o',h'.get? b=da o')
  (tups:∀b xs,H b=da (.tup xs)->H' b=da (.tup xs)) (frzs:∀b o u,H b=da (.frz o u)->H' b=da (.frz o u)) (tbls:∀b ps,H b=da (.tbl ps)->∃za,H' b=da (.tbl (ps++za)))
  (ns:∀m,s.heap.Ns X.env.locals m->h'.Ns X.env.locals m) (ja:Qd X.prog X.w H' h') (hg:ue g') :
  Pa X pins σ H' { s with heap:=h',gens:=g',drawn:=d',toks:=t' }:=by
 have xa:∀b o,X.s₀.heap.get? b=da o->b≠X.env.locals:=λb o e=>Ae (Xe (Hc e) I.ok.above);have R:∀b o,X.s₀.heap.get? b=da o->b∉X.ex->b∉ch:=λb o e j Y=>by
  rcases(y b Y).1 with z|z
  ·exact j z
  ·exact absurd (Xe (Hc e) z) (Bi _)
 have F:∀x c,X.env.cells.lookup x=da c->∀v,s.heap.IsCell c v->h'.IsCell c v:=λx c e v ⟨o,Z,hd⟩=>by
  have J:c∉ch:=λz=>(y c z).2.2.1 x c e rfl;by_cases hc:c∈X.fs
  ·obtain⟨sl,q⟩:=slot c o (I.cne x c e) hc J Z (I.freeC x c e);exact⟨_,q,hd⟩
  ·exact⟨o,keep c o (I.cne x c e) hc J Z (I.freeC x c e),hd⟩
 refine⟨I.ok,I.os,hg,⟨λb o e n Y j=>?_,λb o e n Y j=>?_,λb o e n j=>?_,λb o e j=>?_,λb xs e=>tups b xs (I.base.tups b xs e),λb o xs e=>frzs b o xs (I.base.frzs b o xs e),λb ps e=>?_⟩,?_,λx c e=>?_,?_,λx c e=>?_,λp hp=>?_,ja,I.len⟩
 ·exact keep b o (xa b o e) Y (R b o e j) (I.base.keep b o e n Y j) (I.base.free b o e n j)
 ·obtain⟨sl,O⟩:=I.base.slot b o e n Y j;obtain⟨va,e2⟩:=slot b _ (xa b o e) Y (R b o e j) O (I.base.free b o e n j);exact⟨va,e2⟩
 ·obtain⟨o',O⟩:=I.base.there b o e j;exact free b o' (R b o e j) O (I.base.free b o e n j)
 ·obtain⟨o',O⟩:=I.base.there b o e j;exact there b o' (R b o e j) O
 ·obtain⟨m1,O⟩:=I.base.tbls b ps e;obtain⟨m2,e2⟩:=tbls b _ O;exact⟨m1++m2,by rw[e2,Array.append_assoc]⟩
 ·obtain⟨m,hn,hl⟩:=I.loc;refine⟨m,ns m hn,λi x v O e2 e3=>?_⟩;obtain⟨u,r,l⟩:=hl i x v O e2 e3;refine⟨u,r,?_⟩;rcases l with l|⟨k,c,e,z⟩
  ·exact .inl l
  ·exact .inr ⟨k,c,e,F x c e _ z⟩
 ·obtain⟨v,z⟩:=I.cell x c e;exact⟨v,F x c e v z⟩
 ·obtain⟨m,⟨o,_,_,Z,_⟩,_⟩:=I.loc;exact free _ o (λz=>(y _ z).2.1 rfl) Z I.free
 ·obtain⟨v,o,Z,hd⟩:=I.cell x c e;exact free c o (λz=>(y c z).2.2.1 x c e rfl) Z (I.freeC x c e)
 ·obtain⟨e,n,ne,nf,d⟩:=I.pin p hp;have J:p.1∉ch:=λz=>(y p.1 z).2.2.2 p hp rfl;exact⟨keep p.1 p.2 ne nf J e n,free p.1 p.2 J e n,ne,nf,d⟩
def Pa.un   (I:Pa X pins σ H s)(u:Un X.fs [] H H' s.heap h')(y:Qd X.prog X.w H' h'):Pa X pins σ H' { s with heap:=h',toks:=t' }:=by
 obtain⟨m,⟨o,es,ep,O,r⟩,_⟩:=id I.loc;obtain⟨sl,Z⟩:=u.any O I.free (by simp)
 exact I.step (g':=s.gens) (d':=s.drawn) (ch:=[]) (λ_ z=>nomatch z) (λb o _ q _ e n=>u.keep b o e n q (by simp)) (λb o _ q _ e n=>u.slot b o e n q (by simp)) (λb o _ e n=>u.free b o e n (by simp)) (λb o _ e=>u.there b o e (by simp)) u.tups u.frzs u.tbls (λm' R=>by
  obtain⟨o',J,F,j,Y⟩:=R;rw[O]at j;cases j;exact⟨_,J,F,Z,Y⟩) y I.bare
def Pa.call      (I:Pa X pins σ H s)(u:Un (Ef X.stack) ch H H' s.heap h')(F:Qd X.prog X.w H' h')(hg:ue g')
  (q:∀b∈ch,(b∈X.ex\/X.s₀.heap.objs.size<=b)/\b≠X.env.locals/\(∀x c,X.env.cells.lookup x=da c->c≠b)/\∀p∈X.pn++pins,p.1≠b) :
  Pa X pins σ H' { s with heap:=h',gens:=g',drawn:=d',toks:=t' }:=by
 obtain⟨m,⟨o,es,ep,Y,r⟩,_⟩:=id I.loc;obtain⟨sl,O⟩:=u.any Y I.free λz=>(q _ z).2.1 rfl;exact I.step (ch:=ch) q (λb o O hb j e n=>u.keep b o e n (λz=>(Mc.mp (I.stkSub b z)).elim O hb) j) (λb o _ _ j e n=>u.any e n j) (λb o j e n=>u.free b o e n j) (λb o j e=>u.there b o e j) u.tups u.frzs u.tbls (λm' Z=>by
  obtain⟨o',R,J,y,r'⟩:=Z;rw[Y]at y;cases y;exact⟨_,R,J,O,r'⟩) F hg
def Pa.turned    (I:Pa X pins σ H s)(k:∀b o,b≠it->s.heap.get? b=da o->h'.get? b=da o)(O:H it=Aa)(F:it≠X.env.locals)
  (h1:it∈X.ex\/X.s₀.heap.objs.size<=it) (h2:∀x c,X.env.cells.lookup x=da c->c≠it) (h3:∀p∈X.pn++pins,p.1≠it):Pa X pins σ H { s with heap:=h',toks:=t' }:=by
 have y:∀b u,H b=da u->b≠it:=λb u e z=>by rw[z,O]at e;cases e
 refine I.step (g':=s.gens) (d':=s.drawn) (ch:=[it]) (λb Z=>?_) (λb o _ _ j e _=>k b o (λz=>j (by simp[z])) e) (λb o _ _ j e _=>⟨o.slots,k b o (λz=>j (by simp[z])) e⟩) (λ_ _ _ _ n=>n)
  (λb o j e=>⟨o,k b o (λz=>j (by simp[z])) e⟩) (λ_ _ e=>e) (λ_ _ _ e=>e) (λb ps e=>⟨#[],by rw[e];simp⟩) (λm J=>?_) (λb u e=>?_) I.bare
 ·have e:b=it:=by simpa using Z
  subst e;exact⟨h1,F,h2,h3⟩
 ·obtain⟨o,R,ep,Y,r⟩:=J;exact⟨o,R,ep,k _ o (Xa F) Y,r⟩
 ·refine(I.hok b u e).stay (λc v j q=>k c v ?_ q) (λ_ q=>q) λ_ _ q=>q;rcases j with z|z
  ·rw[z];exact y b u e
  ·exact y c _ z
def Pa.tok  (I:Pa X pins σ H s) t:Pa X pins σ H { s with toks:=t }:=I.un (h':=s.heap) (t':=t) Un.refl I.hok
def Pa.kept   (I:Pa X pins σ H s)(k:∀b u,s.heap.get? b=da u->h'.get? b=da u):Pa X pins σ H { s with heap:=h',toks:=t' }:=I.un (Un.kept k) (I.hok.kept k)
def Pa.laid  {a:Ca}(I:Pa X pins σ H s)(k:∀b u,s.heap.get? b=da u->h'.get? b=da u)(j:s.heap.objs.size<=a)(new:ee X.prog X.w (upd H a o) h' a o) :
  Pa X pins σ (upd H a o) { s with heap:=h',toks:=t' }:=I.un (Un.laid k j (I.hok.fresh j)) (I.hok.laid k j new)
def Pa.write     (I:Pa X pins σ H s)(q:yr (H x))(y:e=x\/H e=da (.own x))(k:∀b u,b≠e->s.heap.get? b=da u->h'.get? b=da u)(j:∃u,h'.get? e=da u)
  (new:ee X.prog X.w (upd H x o) h' x o):Pa X pins σ (upd H x o) { s with heap:=h',toks:=t' }:=I.un (Un.write q y k j) (I.hok.write q y k j new)
def Pa.pins_of  {j:List (Ca×Obj)}(I:Pa X pins σ H s)(h:∀p∈j,s.heap.get? p.1=da p.2/\H p.1=Aa/\p.1≠X.env.locals/\p.1∉X.fs/\∀v,p.2.data≠.cell v):Pa X j σ H s:=
 ⟨I.ok,I.os,I.bare,I.base,I.loc,I.cell,I.free,I.freeC,λp q=>(Ma.mp q).elim (λz=>I.pin p (Gg _ z)) (h p),I.hok,I.len⟩

def Zy  {N:List Str}(z:N.Nodup){i j:Nat}(a:N[i]?=da x)(b:N[j]?=da x):i=j:=by
 obtain⟨I,q⟩:=Ba.mp a;obtain⟨F,y⟩:=Ba.mp b;exact(DJ z).mp (q.trans y.symm)

section
variable {M:Model}{A:ac}{E:Da->Fa->Prop}{i:Nat}{x:Str}{v:V}{u:Da}{Q:Unit->Fa->Prop}
def sG (I:Pa X pins σ H s)(hN:X.N.Nodup)(hi:X.N[i]?=da x)(Y:ql X.env.scope x)(r:RelV v u)
  (h:∀s',Pa X pins (σ.set i (da v)) H s'->(∃a,xo a s.heap s'.heap/\(a=X.env.locals\/X.env.cells.lookup x=da a))->Q () s') (hf:X.fn x=ma\/X.env.scope.names.lookup x=da .local:=by first|exact .inl rfl|exact .inr rfl|assumption):wpAny M A (cx X.env x u) Q E s:=by
 obtain⟨m,hn,hl⟩:=id I.loc;have ya:(X.env.scope.kind == .class||(X.env.scope.kind == .module&&X.env.locals != X.env.globals))=ua:=by rw[I.ok.kind];rfl
 have xa:i<σ.length:=by rw[I.len];exact(Ba.mp hi).1
 have cne:=I.cne;have O:∀{a:Ca} {h':Wa},(∃o,s.heap.get? a=da o/\H a=Aa)->xo a s.heap h'->Qd X.prog X.w H h':=λ{a h'} ha F b ob e=>by
  obtain⟨_,_,Z⟩:=ha;refine(I.hok b ob e).stay (λc w' R q=>(F.2 c ?_).trans q) (λ_ q=>q) λ_ _ q=>q;rintro rfl;rcases R with rfl|R
  ·rw[Z]at e;cases e
  ·rw[Z]at R;cases R
 rcases Y with hk|hk
 ·refine wpAny_storeName_local hk hn (λh' xb F=>?_) ya;obtain⟨oL,_,_,zb,_⟩:=id hn;refine h _ ⟨I.ok,I.os,I.bare,⟨λb o e n hb Y=>?_,λb o e n hb Y=>?_,I.base.free,λb o e Y=>?_,I.base.tups,I.base.frzs,I.base.tbls⟩,⟨_,xb,λj y v' J e2 e3=>?_⟩,λy c e=>?_,I.free,I.freeC,λp hp=>?_,O ⟨oL,zb,I.free⟩ F,by simpa using I.len⟩ ⟨_,F,.inl rfl⟩
  ·exact(F.2 b (Ae (Xe (Hc e) I.ok.above))).trans (I.base.keep b o e n hb Y)
  ·obtain⟨sl,J⟩:=I.base.slot b o e n hb Y;exact⟨sl,(F.2 b (Ae (Xe (Hc e) I.ok.above))).trans J⟩
  ·obtain⟨o',J⟩:=I.base.there b o e Y;exact⟨o',(F.2 b (Ae (Xe (Hc e) I.ok.above))).trans J⟩
  ·by_cases hj:j=i
   ·subst hj;rw[hi]at J;cases J;rw[Yk xa]at e2;cases e2;exact⟨u,r,.inl ⟨hk,by simp⟩⟩
   ·rw[aj (Xa hj)]at e2;obtain⟨u',r',q⟩:=hl j y v' J e2 e3;refine⟨u',r',?_⟩;rcases q with⟨k,e⟩|⟨k,c,e,z⟩
    ·refine .inl ⟨k,?_⟩;have:y≠x:=λe=>hj (Zy hN J (e ▸ hi));simp[this,e]
    ·exact .inr ⟨k,c,e,z.sameBut F (cne y c e)⟩
  ·obtain⟨w',z⟩:=I.cell y c e;exact⟨w',z.sameBut F (cne y c e)⟩
  ·obtain⟨e,n,ne,nf,d⟩:=I.pin p hp;exact⟨(F.2 p.1 ne).trans e,n,ne,nf,d⟩
 ·have za:X.fn x=ma:=by
   rcases hf with z|z
   ·exact z
   ·rw[z]at hk;cases hk
  obtain⟨c,R⟩:=I.ok.has x (.inl hk);obtain⟨w',z⟩:=I.cell x c R;refine wpAny_storeName_cell I.ok.kind hk R z (λh' ka F=>?_);obtain⟨oc,ja,wa⟩:=id z;refine h { s with heap:=h' } ⟨I.ok,I.os,I.bare,⟨λb o e n hb Y=>?_,λb o e n hb Y=>?_,I.base.free,λb o e Y=>?_,I.base.tups,I.base.frzs,I.base.tbls⟩,⟨m,hn.sameBut F (Xa (cne x c R)),λj y v' J e2 e3=>?_⟩,λy c' e=>?_,I.free,I.freeC,λp hp=>?_,O ⟨oc,ja,I.freeC x c R⟩ F,by simpa using I.len⟩ ⟨c,F,.inr R⟩
  ·exact(F.2 b (Ae (Xe (Hc e) (I.ok.cab x c za R)))).trans (I.base.keep b o e n hb Y)
  ·obtain⟨sl,J⟩:=I.base.slot b o e n hb Y;exact⟨sl,(F.2 b (Ae (Xe (Hc e) (I.ok.cab x c za R)))).trans J⟩
  ·obtain⟨o',J⟩:=I.base.there b o e Y;exact⟨o',(F.2 b (Ae (Xe (Hc e) (I.ok.cab x c za R)))).trans J⟩
  ·by_cases hj:j=i
   ·subst hj;rw[hi]at J;cases J;rw[Yk xa]at e2;cases e2;exact⟨u,r,.inr ⟨.inl hk,c,R,ka⟩⟩
   ·rw[aj (Xa hj)]at e2;obtain⟨u',r',q⟩:=hl j y v' J e2 e3;refine⟨u',r',?_⟩;rcases q with q|⟨k,c',e,z'⟩
    ·exact .inl q
    ·refine .inr ⟨k,c',e,z'.sameBut F ?_⟩;rintro rfl;exact hj (Zy hN J (I.ok.inj _ _ _ e R ▸ hi))
  ·by_cases va:c'=c
   ·subst va;exact⟨_,ka⟩
   ·obtain⟨w2,z2⟩:=I.cell y c' e;exact⟨w2,z2.sameBut F va⟩
  ·obtain⟨e,n,ne,nf,d⟩:=I.pin p hp;refine⟨(F.2 p.1 ?_).trans e,n,ne,nf,d⟩;intro q;rw[q,ja]at e;have q':oc=p.2:=Ee e;exact d w' (by rw[<- q'];exact wa)
def oo (I:Pa X pins σ H s)(z:X.N.Nodup)(F:X.N[i]?=da x)(j:ql X.env.scope x)(r:RelV v u)
  (h:∀s',Pa X pins (σ.set i (da v)) H s'->Q () s') (q:X.fn x=ma\/X.env.scope.names.lookup x=da .local:=by first|exact .inl rfl|exact .inr rfl|assumption):wpAny M A (cx X.env x u) Q E s:=
 sG I z F j r (λs' y _=>h s' y) q
end
def Pa.call'    (I:Pa X pins σ H s)(F:s'.os=s.os)(u:Un (Ef X.stack) ch H H' s.heap s'.heap)(q:Qd X.prog X.w H' s'.heap)(J:ue s'.gens)
  (j:∀b∈ch,(b∈X.ex\/X.s₀.heap.objs.size<=b)/\b≠X.env.locals/\(∀x c,X.env.cells.lookup x=da c->c≠b)/\∀p∈X.pn++pins,p.1≠b):Pa X pins σ H' s':=by
 obtain⟨O,g',d',t',y⟩:=s';have e:y=s.os:=F;subst e;exact I.call (g':=g') (t':=t') (d':=d') u q J j
end

abbrev XK:=Da->Option Ca->Hp->Prop
abbrev St:=List (Option V)
abbrev VK:=V->Hp->Prop
abbrev TE:=St->Hp->VK->Prop
abbrev TT:=St->Hp->(Bool->Hp->Prop)->Prop
abbrev TA:=St->Hp->(List V->Hp->Prop)->Prop
structure Ends where
 nx:St->Hp->Prop
 rt:VK
 bk:St->Hp->Prop:=λ_ _=>False
 ct:St->Hp->Prop:=λ_ _=>False
abbrev TS:=Ends->St->Hp->Prop

def EP  (X:Cx)(pins:List (Ca×Obj))(q:St)(Q:VK)(u:Da)(s':Fa):Prop:=∃v j,Pa X pins q j s'/\RelV v u/\Q v j
def TP  (X:Cx)(pins:List (Ca×Obj))(q:St)(Q:Bool->Hp->Prop)(b:Bool)(s':Fa):Prop:=∃j,Pa X pins q j s'/\Q b j
def AP  (X:Cx)(pins:List (Ca×Obj))(y:St)(Q:List V->Hp->Prop)(us:List Da)(s':Fa):Prop:=∃j q,Pa X pins y q s'/\Vals j us/\Q j q
def SP  (X:Cx)(pins:List (Ca×Obj))(D:Ends)(f:Flow)(s':Fa):Prop:=
 match f with
 |.next=>∃j q,Pa X pins j q s'/\D.nx j q
 |.brk=>∃j q,Pa X pins j q s'/\D.bk j q
 |.cont=>∃j q,Pa X pins j q s'/\D.ct j q
 |.ret u=>∃v j q,Pa X pins j q s'/\RelV v u/\D.rt v q

def PE  (X:Cx)(e:Na)(t:TE):Prop:=
 ∀(j:List (Ca×Obj)) (s:Fa) (σ:St) (H:Hp) (Q:VK),Pa X j σ H s->t σ H Q->wpAny (Ja X.prog X.w) X.A (Lb e X.env) (EP X j σ Q) X.xe s
def PT  (X:Cx)(e:Na)(t:TT):Prop:=
 ∀(j:List (Ca×Obj)) (s:Fa) (σ:St) (H:Hp) (Q:Bool->Hp->Prop),Pa X j σ H s->t σ H Q->wpAny (Ja X.prog X.w) X.A (tf e X.env (Lb e X.env)) (TP X j σ Q) X.xe s
def PW  (X:Cx)(e:Na)(t:TT):Prop:=
 ∀(j:Sem Da) (pins:List (Ca×Obj)) (s:Fa) (σ:St) (H:Hp) (Q:Bool->Hp->Prop),Pa X pins σ H s->t σ H Q->wpAny (Ja X.prog X.w) X.A (tf e X.env j) (TP X pins σ Q) X.xe s
def PW.pt     (h:PW X e t):PT X e t:=h _
def PA  (X:Cx)(q:List Na)(t:TA):Prop:=
 ∀(j:Pos) (pins:List (Ca×Obj)) (s:Fa) (σ:St) (H:Hp) (Q:List V->Hp->Prop),Pa X pins σ H s->t σ H Q->wpAny (Ja X.prog X.w) X.A (spliced (Jc j (Uc q X.env))) (AP X pins σ Q) X.xe s
def PS  (X:Cx)(st:Qa)(t:TS):Prop:=
 ∀(j:List (Ca×Obj)) (s:Fa) (σ:St) (H:Hp) (D:Ends),Pa X j σ H s->t D σ H->wpAny (Ja X.prog X.w) X.A (exec st X.env) (SP X j D) X.xe s
def Be  (X:Cx)(st:List Qa)(t:TS):Prop:=
 ∀(j:List (Ca×Obj)) (s:Fa) (σ:St) (H:Hp) (D:Ends),Pa X j σ H s->t D σ H->wpAny (Ja X.prog X.w) X.A (execs st X.env) (SP X j D) X.xe s
def Pb    {Q j:α->Fa->Prop}(h:wpAny M A t Q E s)(q:∀a s,Q a s->j a s):wpAny M A t j E s:=Zf h q λ_ _ x=>x
section
variable {X:Cx}

def tVar  (i:Nat):TE:=λj H Q=>∃v,j[i]?=da (da v)/\Q v H
def tC  (v:V):TE:=λ_ H Q=>Q v H
def oy {i:Nat}{x:Str}{pos:Pos}(J:X.N[i]?=da x)(R:Zo X.env.scope x)(hd:(x==("__debug__" : Str))=ua:=by decide)(y:(x==("__classdict__" : Str))=ua:=by decide):PE X (.Name x pos) (tVar i):=by
 intro q s F H Q I h;obtain⟨v,e,h⟩:=h;obtain⟨m,O,Y⟩:=I.loc;obtain⟨u,r,l⟩:=Y i x v J e R;have j:EP X q F Q u s:=⟨v,H,I,r,h⟩;rcases l with⟨hk,z⟩|⟨hk,c,hc,hcell⟩
 ·exact rp (wpAny_loadName_local I.ok.kind hk O z j) hd
 ·rcases hk with hk|hk
  ·exact rp (wpAny_loadName_cell I.ok.kind hk hc hcell j) hd
  ·exact rp (wpAny_loadName_free I.ok.kind hk hc hcell j y) hd
def OP   : PE X (.Constant (.int i) j pos) (tC (.int i)):=λ_ _ _ H _ I h=>wpAny_Constant_int ⟨.int i,H,I.tok _,⟨_,rfl⟩,h⟩
def qN   : PE X (.Constant (.bool b) j pos) (tC (.bl b)):=λ_ _ _ H _ I h=>Constant_bool ⟨.bl b,H,I,rfl,h⟩
def RP   : PE X (.Constant .none j pos) (tC .non):=λ_ _ _ H _ I h=>Constant_none ⟨.non,H,I,rfl,h⟩
def VP   : PE X (.Constant (.str x) j pos) (tC (.str x)):=λ_ _ _ H _ I h=>Calls.Constant_str ⟨.str x,H,I.tok _,⟨_,rfl⟩,h⟩

def Gl  (X:Cx)(x:Str):Prop:=X.env.kindOf x=da .globalImplicit
section
variable {E:Da->Fa->Prop}{pins:List (Ca×Obj)}{s:Fa}{σ:St}{H:Hp}{x:Str}{u:Da}{pos:Pos}{Q:Da->Fa->Prop}
def Yu (I:Pa X pins σ H s)(q:Gl X x)(j:X.mg x=da u)(h:Q u s)
  (hd:(x==("__debug__" : Str))=ua:=by decide):wpAny (Ja X.prog X.w) X.A (Lb (.Name x pos) X.env) Q E s:=
 GK I.ok.kind q (Calls.loadGlobal_global (by rw[I.ok.glob];exact I.mod.glob.keeps I.bk) j h) hd
def gq (I:Pa X pins σ H s)(y:Gl X x)(j:X.mg x=Aa)(F:Pj x=da u)(h:Q u s)
  (z:x ≠ "__name__" := by decide) (hd:(x==("__debug__" : Str))=ua:=by decide):wpAny (Ja X.prog X.w) X.A (Lb (.Name x pos) X.env) Q E s:=by
 obtain⟨O,J,q⟩:=I.mod.blt;exact GK I.ok.kind y (Calls.loadGlobal_builtin (by rw[I.ok.glob];exact I.mod.glob.keeps I.bk) j (by rw[I.ok.blt];exact J.keeps I.bk) ((q x z).trans F) h) hd
end
section
variable {x:Str}{v:V}{u:Da}{pos:Pos}
def oE (q:Gl X x)(j:X.mg x=da u)(r:RelV v u)(hd:(x==("__debug__" : Str))=ua:=by decide):PE X (.Name x pos) (tC v):=
 λ_ _ _ H _ I h=>Yu I q j ⟨v,H,I,r,h⟩ hd
def dS (z:Gl X x)(q:X.mg x=Aa)(y:Pj x=da u)(r:RelV v u)(j:x ≠ "__name__" := by decide)(hd:(x==("__debug__" : Str))=ua:=by decide):PE X (.Name x pos) (tC v):=
 λ_ _ _ H _ I h=>gq I z q y ⟨v,H,I,r,h⟩ j hd

end
def tB  (t:TE):TT:=λj H Q=>t j H λx q=>∃c,x=.bl c/\Q c q

def tAnd  (t u:TT):TT:=λj H Q=>t j H λc q=>if c=ma then u j q Q else Q ua q
def LL  (t u:TT):TT:=λj H Q=>t j H λc q=>if c=ma then Q ma q else u j q Q
def tNot  (t:TT):TT:=λj H Q=>t j H λc q=>Q (!c) q
def pw_and1  (z:PT X a y):PW X (.BoolOp .And [a] pos) y:=by
 intro F j s q H Q I h;refine isTrue_and (Pb (z j s q H Q I h) λc s1 e=>?_);cases c with
 |true=>exact isTrue_and_nil e
 |false=>exact e
def pw_or1  (z:PT X a y):PW X (.BoolOp .Or [a] pos) y:=by
 intro F j s q H Q I h;refine isTrue_or (Pb (z j s q H Q I h) λc s1 e=>?_);cases c with
 |false=>exact isTrue_or_nil e
 |true=>exact e
def pw_and  {rest: List Na}(O:PT X a R)(J:PW X (.BoolOp .And (b::rest) pos) q):PW X (.BoolOp .And (a::b::rest) pos) (tAnd R q):=by
 intro Y j s y H Q I h;refine isTrue_and (Pb (O j s y H _ I h) λc s1 ⟨F,z,q1⟩=>?_);cases c with
 |true=>exact J Y j s1 y F Q z q1
 |false=>exact⟨F,z,q1⟩
def pw_or  {rest: List Na}(O:PT X a R)(J:PW X (.BoolOp .Or (b::rest) pos) q):PW X (.BoolOp .Or (a::b::rest) pos) (LL R q):=by
 intro Y j s y H Q I h;refine isTrue_or (Pb (O j s y H _ I h) λc s1 ⟨F,z,q1⟩=>?_);cases c with
 |true=>exact⟨F,z,q1⟩
 |false=>exact J Y j s1 y F Q z q1
def kP  (y:PT X a z):PT X (.UnaryOp .Not a pos) (tNot z):=by
 intro j s q H Q I h;exact isTrue_not (y j s q H (λc F=>Q (!c) F) I h)
def OD    (h:PE X a t):PE X (.BoolOp op [a] pos) t:=λj s q H Q I y=>BoolOp_one (h j s q H Q I y)
def ML  (t:TT)(y tb:TE):TE:=λj H Q=>t j H λc q=>if c=ma then y j q Q else tb j q Q
def QT   (O:PT X c J)(R:PE X a ta)(F:PE X b tb):PE X (.IfExp c a b pos) (ML J ta tb):=by
 intro j s q H Q I h;refine wpAny_IfExp (Pb (O j s q H _ I h) λd s1 ⟨y,z,q1⟩=>?_);cases d with
 |true=>exact R j s1 q y Q z q1
 |false=>exact F j s1 q y Q z q1
end

def Qc  (K:Eb)(H:Hp)(a:Ca)(xs:List V):Prop:=
 Rd H a (.lst xs)\/
  ∃(o:Obj) (its:Array Da) (n:Nat),K.lookup a=da o/\o.cls=.type "list" /\ o.dict=Aa/\o.data=.seq its n/\its.size<=db/\Vals xs its.toList
def Ic  (K:Eb)(H:Hp)(a:Ca)(xs:List V):Prop:=
 Rd H a (.tup xs)\/
  ∃(o:Obj) (its:Array Da) (n:Nat),K.lookup a=da o/\o.cls=.type "tuple" /\ o.data=.seq its n/\its.size<=db/\Vals xs its.toList
noncomputable def absV  : Da->Option V
 |.none=>da .non
 |.bool b=>da (.bl b)
 |.int i _=>da (.int i)
 |.str x _=>da (.str x)
 |.bytes b _=>da (.byt b)
 |.float b _=>da (.flt b)
 |.ref a=>da (.ref a)
 |.type n=>da (.ty n)
 |_=>Aa
def RelV.abs    (r:RelV x u):absV u=da x:=by
 cases x with
 |non=>cases r;rfl
 |bl _=>cases r;rfl
 |int _=>obtain⟨t,rfl⟩:=r;rfl
 |str _=>obtain⟨t,rfl⟩:=r;rfl
 |byt _=>obtain⟨t,rfl⟩:=r;rfl
 |flt _=>obtain⟨t,rfl⟩:=r;rfl
 |ref _=>cases r;rfl
 |ty _=>cases r;rfl
def RelV.inj    (r:RelV x u)(q:RelV y u):x=y:=Ee (r.abs.symm.trans q.abs)
theorem Vals.inj  : ∀{xs ys } {us },Vals xs us->Vals ys us->xs=ys
 |_,_,_,.nil,.nil=>rfl
 |_,_,_,.cons r t,.cons r' t'=>by rw[r.inj r',Vals.inj t t']

def Qc.of  {K:Eb}(h:H a=da (.lst xs)):Qc K H a xs:=.inl (.inl h)
def Ic.of  {K:Eb}(h:H a=da (.tup xs)):Ic K H a xs:=.inl (.inl h)
def Pa.list  {q: St}(I:Pa X pins q H s)(h:Qc X.K H a xs):∃j ,Vals xs j/\Dp s.heap a j.toArray/\xs.length<=db:=by
 rcases h with h|⟨o,j,n,hk,hc,hd,hs,hz,r⟩
 ·obtain⟨z,j,n,r,e⟩:=h.ok I.hok;exact⟨j,r,⟨_,n,e,rfl,rfl,rfl⟩,z⟩
 ·refine⟨j.toList,r,⟨o,n,I.kIn a o hk,hc,hd,by simpa using hs⟩,?_⟩
  have e:=r.length;simp only[vn]at e
  lia
def Pa.tuple  {q: St}(I:Pa X pins q H s)(h:Ic X.K H a xs):∃j ,Vals xs j/\Li s.heap a j.toArray/\xs.length<=db:=by
 rcases h with h|⟨o,j,n,hk,hc,hs,hz,r⟩
 ·obtain⟨z,j,r,p⟩:=h.ok I.hok;exact⟨j,r,p.tup,z⟩
 ·refine⟨j.toList,r,⟨o,I.kIn a o hk,hc,n,by simpa using hs⟩,?_⟩
  have e:=r.length;simp only[vn]at e
  lia
def Pa.list_inj  {J: St}(I:Pa X pins J H s)(h:Qc X.K H a xs)(h':Qc X.K H a ys):xs=ys:=by
 obtain⟨q,r,⟨o,n,e,_,_,d⟩,_⟩:=I.list h;obtain⟨j,O,⟨R,Y,y,_,_,F⟩,_⟩:=I.list h';rw[e]at y;cases y;rw[d]at F;injection F with d1 _
 have:q=j:=by simpa using congrArg Array.toList d1
 subst this;exact r.inj O
def Pa.tuple_inj  {J: St}(I:Pa X pins J H s)(h:Ic X.K H a xs)(h':Ic X.K H a ys):xs=ys:=by
 obtain⟨q,r,⟨o,e,_,n,d⟩,_⟩:=I.tuple h;obtain⟨j,O,⟨R,y,_,Y,F⟩,_⟩:=I.tuple h';rw[e]at y;cases y;rw[d]at F;injection F with d1 _
 have:q=j:=by simpa using congrArg Array.toList d1
 subst this;exact r.inj O

noncomputable abbrev Cx.wish  (X:Cx)(E:Da->Fa->Prop):Cx:={ X with xe:=E }
def Cx.Ok.wish  {X:Cx}(ok:X.Ok) E:(X.wish E).Ok:=
 ⟨ok.mod,ok.kind,ok.glob,ok.blt,ok.above,ok.inj,ok.has,ok.cab,ok.hd,ok.frames,ok.stk,ok.exf,ok.bs,ok.bsz,ok.noex,ok.exfs,ok.funs,ok.frf⟩
def Cx.Ok.unwish  {X:Cx}(ok:(X.wish E).Ok):X.Ok:=
 ⟨ok.mod,ok.kind,ok.glob,ok.blt,ok.above,ok.inj,ok.has,ok.cab,ok.hd,ok.frames,ok.stk,ok.exf,ok.bs,ok.bsz,ok.noex,ok.exfs,ok.funs,ok.frf⟩
section
variable {X:Cx}{pins:List (Ca×Obj)}{σ:St}{H:Hp}{s:Fa}{E:Da->Fa->Prop}
def Pa.wish  (I:Pa X pins σ H s) E:Pa (X.wish E) pins σ H s:=⟨I.ok.wish E,I.os,I.bare,I.base,I.loc,I.cell,I.free,I.freeC,I.pin,I.hok,I.len⟩
def Pa.unwish  (I:Pa (X.wish E) pins σ H s):Pa X pins σ H s:=⟨I.ok.unwish,I.os,I.bare,I.base,I.loc,I.cell,I.free,I.freeC,I.pin,I.hok,I.len⟩
theorem SP.unwish     (h:SP (X.wish E) pins D f s'):SP X pins D f s':=by
 cases f with
 |next=>obtain⟨j,y,I,q⟩:=h;exact⟨j,y,I.unwish,q⟩
 |brk=>obtain⟨j,y,I,q⟩:=h;exact⟨j,y,I.unwish,q⟩
 |cont=>obtain⟨j,y,I,q⟩:=h;exact⟨j,y,I.unwish,q⟩
 |ret u=>obtain⟨v,j,y,I,r,q⟩:=h;exact⟨v,j,y,I.unwish,r,q⟩
end

section
variable {X:Cx}{st:Qa}{rest:List Qa}{t u:TS}{e:Na}{te:TE}{pos:Pos}
def NM  : TS:=λD j H=>D.nx j H
def tSeq  (t u:TS):TS:=λD j H=>t { D with nx:=u D } j H
def wS  : Be X [] NM:=λ_ _ j H _ I h=>dB ⟨j,H,I,h⟩
def bU  (R:PS X st t)(O:Be X rest u):Be X (st::rest) (tSeq t u):=by
 intro j s z H D I h;refine kB (Pb (R j s z H { D with nx:=u D } I h) λf s1 q=>?_)
 cases f with
 |next=>
  obtain⟨y,J,F,q⟩:=q;exact O j s1 y J D F q
 |ret v=>exact q
 |brk=>exact q
 |cont=>exact q
def Pa.quiet   {j:St}(I:Pa X pins j H s):interactive X.env=ua:=by simp[interactive,I.ok.kind]
def MM  (q:TE):TS:=λD j H=>q j H λ_ y=>D.nx j y
def vS (y:PE X e te)(hs:Kk e Aa pos.line X.env=pure ua:=by rfl):PS X (.Expr e pos) (MM te):=by
 intro j s q H D I h;exact wpAny_Expr_any (Pb (y j s q H _ I h) λv s1 ⟨x,F,z,r1,q1⟩=>⟨q,F,z,q1⟩) I.quiet hs
def tRet  (j:TE):TS:=λD q H=>j q H D.rt
def jP  (y:PE X e te):PS X (.Return (da e) pos) (tRet te):=by
 intro j s q H D I h;exact wpAny_Return_some (Pb (y j s q H _ I h) λv s1 ⟨x,F,z,r1,q1⟩=>⟨x,q,F,z,r1,q1⟩)
def tIfS  (c:TT)(t u:TS):TS:=λD j H=>c j H λb q=>if b=ma then t D j q else u D j q
def xN     (J:PT X c tc)(O:Be X a t)(F:Be X b u):PS X (.If c a b pos) (tIfS tc t u):=by
 intro j s q H D I h;refine wpAny_If (Pb (J j s q H _ I h) λd s1 ⟨y,z,q1⟩=>?_);cases d with
 |true=>exact O j s1 q y D z q1
 |false=>exact F j s1 q y D z q1
end

abbrev TG:=V->St->Hp->(St->Hp->Prop)->Prop
abbrev el:=List V->St->Hp->(St->Hp->Prop)->Prop
def PG  (X:Cx)(j:Na)(t:TG):Prop:=
 ∀(q:List (Ca×Obj)) (s:Fa) (σ:St) (H:Hp) (v:V) (u:Da) (Q:St->Hp->Prop),Pa X q σ H s->RelV v u->t v σ H Q->
  wpAny (Ja X.prog X.w) X.A (Dc j X.env u) (λ_ F=>∃y z,Pa X q y z F/\Q y z) X.xe s
def Uh  (X:Cx)(ts:List Na)(t:el):Prop:=
 ∀(j:List (Ca×Obj)) (s:Fa) (σ:St) (H:Hp) (vs:List V) (us:List Da) (Q:St->Hp->Prop),Pa X j σ H s->Vals vs us->t vs σ H Q->
  wpAny (Ja X.prog X.w) X.A (IA ((Cg ts X.env).map (·.2)) us) (λ_ z=>∃q y,Pa X j q y z/\Q q y) X.xe s
abbrev TSet:=V->V->V->Hp->(Hp->Prop)->Prop
def PSet  (X:Cx)(t:TSet):Prop:=
 ∀(j:List (Ca×Obj)) (s:Fa) (σ:St) (H:Hp) (o i v:V) (ov iv u:Da) (Q:Hp->Prop),Pa X j σ H s->RelV o ov->RelV i iv->RelV v u->t o i v H Q->
  wpAny (Ja X.prog X.w) X.A (lj ov iv u) (λ_ y=>∃q,Pa X j σ q y/\Q q) X.xe s
abbrev Xw:=V->V->Hp->VK->Prop
def xL  (X:Cx)(q:cn)(t:Xw):Prop:=
 ∀(j:List (Ca×Obj)) (s:Fa) (σ:St) (H:Hp) (x y:V) (v u:Da) (Q:VK),Pa X j σ H s->RelV x v->RelV y u->t x y H Q->
  wpAny (Ja X.prog X.w) X.A (zo q v u) (EP X j σ Q) X.xe s
section
variable {X:Cx}{pos:Pos}
def ou  (i:Nat):TG:=λv j H Q=>Q (j.set i (da v)) H
def jS {i:Nat}{x:Str}(F:X.N.Nodup)(J:X.N[i]?=da x)(q:ql X.env.scope x)(y:X.fn x=ma\/X.env.scope.names.lookup x=da .local:=by first|exact .inl rfl|exact .inr rfl|assumption):PG X (.Name x pos) (ou i):=by
 intro j s O H v u Q I r h;exact wpAny_assign_Name (oo I F J q r (λR z=>⟨_,H,z,h⟩) y)
def gNil  : el:=λj q H Q=>j=[]/\Q q H
def zM  (t:TG)(u:el):el:=λq y H Q=>∃v r,q=v::r/\t v y H λj z=>u r j z Q
def kS  : Uh X [] gNil:=by
 intro j s q H y z Q I r h;obtain⟨e,h⟩:=h;subst e;cases r;exact assignInOrder_nil ⟨q,H,I,h⟩
def VT {e:Na}{q:List Na}{t:TG}{u:el}(J:PG X e t)(O:Uh X q u)
  (hs:(Cg (e::q) X.env).map (·.2)=Dc e X.env::(Cg q X.env).map (·.2):=by rfl):Uh X (e::q) (zM t u):=by
 intro j s z H Z us Q I r h;obtain⟨v,vr,F,h⟩:=h;subst F;cases r with
 |cons r rr=>
  rw[hs];refine OB (Pb (J j s z H _ _ _ I r h) λ_ s1 ⟨y,Y,R,q1⟩=>?_);exact O j s1 y Y _ _ Q R rr q1
def gTup  (K:Eb)(n:Nat)(t:el):TG:=λv q H Q=>∃a j,v=.ref a/\Ic K H a j/\j.length=n/\t j q H Q
def aQ {q:List Na}{k:Nat}{t:el}{n:Nat}(Y:X.calm=ma)(h:Uh X q t)
  (hn:(Cg q X.env).length=n:=by rfl) (y:(Cg q X.env).findIdx? (·.1)=Aa:=by rfl):PG X (.Tuple q k pos) (gTup X.K n t):=by
 intro j s F H v u Q I r z;obtain⟨a,O,Z,hq,hl,z⟩:=z;subst Z;cases r;obtain⟨xa,J,ht,hz⟩:=I.tuple hq;refine assign_Tuple_tuple (I.ok.hd Y) ht (by simp[hn,<- hl,J.length]) y λh' R=>?_
 have I1:Pa X j F H { s with heap:=h' }:=I.kept (t':=s.toks) λb o e=>R b o (Ae (Hc e)) e
 exact h j _ F H O _ Q I1 (by simpa using J) z
def gSub  (F z:TE)(t:TSet):TG:=λv j H Q=>F j H λo I=>z j I λi y=>t o i v y λq=>Q j q
def ZP {o i:Na}{O J:TE}{t:TSet}(ho:PE X o O)(hi:PE X i J)(hs:PSet X t)
  (ha:∀v,Dc (.Subscript o i pos) X.env v=(do
   let q <- Pc [v] (Lb o X.env)
   let z <- Pc [v,q] (Lb i X.env)
   Qf pos
   Pc [v,q,z] (lj q z v)
   release [v,q,z] []):=by intro _;rfl):PG X (.Subscript o i pos) (gSub O J t):=by
 intro j s F H v u Q I r h;rw[ha];refine ub (Nj (Pb (ho j s F H _ I h) λq s1 ⟨x,R,I1,r1,q1⟩=>?_));refine ub (Nj (Pb (hi j s1 F R _ I1 q1) λz s2 ⟨y,H2,Z,r2,q2⟩=>?_));refine ub (ww (ub (Nj (Pb (hs j s2 F H2 x y v q z u _ Z r1 r2 r q2) λ_ s3 ⟨Y,I3,q3⟩=>?_))));exact wpAny_release ⟨F,Y,I3,q3⟩
def tAsg  (q:TE)(g:TG):TS:=λD j H=>q j H λx y=>g x j y D.nx
def TC {y e:Na}{F:TE}{g:TG}(O:PE X e F)(Y:PG X y g)(hs:Mj [y] e pos.line X.env=pure ua:=by rfl)(R:Ai [y] e X.env=pure Aa:=by rfl)
  (Z:(Cg [y] X.env).map (·.2)=[Dc y X.env]:=by rfl):PS X (.Assign [y] e pos) (tAsg F g):=by
 intro j s z H D I h;refine wpAny_Assign_stores (Pb (O j s z H _ I h) λv s1 ⟨x,H1,J,r1,q1⟩=>?_) hs R;rw[Z];exact Pb (Y j s1 z H1 x v _ J r1 q1) λ_ s2 q=>q
def tPar  (i j:Nat)(F:TA):TS:=λD q H=>F q H λy z=>∃v w,y=[v,w]/\D.nx ((q.set i (da v)).set j (da w)) z
def iP {i j:Nat}{x y:Str}{a b:Na}{ta:TA}{px Z pt:Pos}{R Y F}(hc:X.calm=ma)(hN:X.N.Nodup)(hi:X.N[i]?=da x)(hj:X.N[j]?=da y)(za:i≠j)
  (hx:X.env.scope.names.lookup x=da .local) (hy:X.env.scope.names.lookup y=da .local) (ha:PA X [a,b] ta)
  (hw:Ai [.Tuple [.Name x px,.Name y Z] R pt] (.Tuple [a,b] Y F) X.env=pure (da [x,y]))
  (hs:Mj [.Tuple [.Name x px,.Name y Z] R pt] (.Tuple [a,b] Y F) pos.line X.env=pure ua:=by rfl) :
  PS X (.Assign [.Tuple [.Name x px,.Name y Z] R pt] (.Tuple [a,b] Y F) pos) (tPar i j ta):=by
 intro z s σ H D I h;rw[exec_Assign_arm];refine ub (ww ?_);rw[hs];refine ub (uc ?_);rw[if_neg (by decide)]
 refine ub (Tuple_ (Pb (ha _ z s σ H _ I h) λus s1 ⟨vs,H1,I1,r1,q1⟩=>?_));obtain⟨v,w,e1,q1⟩:=q1;subst e1;obtain⟨J,O,rfl,rv,xa⟩:∃J O,us=[J,O]/\RelV v J/\RelV w O:=by
  cases r1 with
  |cons p q=>
   cases q with
   |cons p' q'=>
    cases q';exact⟨_,_,rfl,p,p'⟩
 refine Th ?_ (by show 2<=db;decide)
 have I2:Pa X z σ H1 { s1 with heap:=s1.heap.push { cls:=.type "tuple",data:=.seq [J,O].toArray } }:=I1.kept (t':=s1.toks) λb o e=>Ac _ e
 rw[hw];refine ub (uc ?_);show wpAny (Ja X.prog X.w) X.A (do rule "assign.swapped-stores";let items <- unpackItems (.ref s1.heap.objs.size) 2 Aa;IA [λv=>Bl X.env y v,λv=>Bl X.env x v] items.reverse;pure Flow.next) _ _ _
 refine ub (jp (ub (unpackItems_tuple (items:=#[J,O]) (I.ok.hd hc) (Li.new s1.heap _) λh' ja=>?_)));have I3:=I2.kept (h':=h') (t':=s1.toks) λb o e=>ja b o (Ae (Hc e)) e;show wpAny _ _ (IA [λv=>Bl X.env y v,λv=>Bl X.env x v] [O,J] >>= λ_=>pure Flow.next) _ _ _
 refine ub (OB (wpAny_bindName (oo I3 hN hj (.inl hy) xa (λs2 I4=>?_) (.inr hy))));refine OB (wpAny_bindName (oo I4 hN hi (.inl hx) rv (λs3 I5=>assignInOrder_nil (uc ?_)) (.inr hx)));rw[List.set_comm _ _ (Xa za)]at I5;exact⟨_,H1,I5,q1⟩
def tAug  (i:Nat)(I:TE)(F:Xw):TS:=λD j H=>∃x,j[i]?=da (da x)/\I j H λy J=>F x y J λz q=>D.nx (j.set i (da z)) q
def dQ {i:Nat}{x:Str}{e:Na}{Z:TE}{O:cn}{ti:Xw}{J:Pos}(hN:X.N.Nodup)(hi:X.N[i]?=da x)(R:ql X.env.scope x)(he:PE X e Z)(ho:xL X O ti)(hf:X.fn x=ma\/X.env.scope.names.lookup x=da .local:=by first|exact .inl rfl|exact .inr rfl|assumption) :
  PS X (.AugAssign (.Name x J) O e pos) (tAug i Z ti):=by
 intro j s σ H D I h;obtain⟨v,e1,h⟩:=h;obtain⟨m,hn,hl⟩:=I.loc;have vis:Zo X.env.scope x:=by rcases R with k|k;exact .inl k;exact .inr (.inl k)
 obtain⟨u,r,l⟩:=hl i x v hi e1 vis;refine wpAny_AugAssign_Name ?_;have Y:wpAny (Ja X.prog X.w) X.A (Lb e X.env) (λw q=>wpAny (Ja X.prog X.w) X.A (zo O u w) (λr F=>wpAny (Ja X.prog X.w) X.A (cx X.env x r) (λ_=>SP X j D .next) X.xe F) X.xe q) X.xe s:=by
  refine Pb (he j s σ H _ I h) λw s1 ⟨y,H1,I1,r1,q1⟩=>?_;refine Pb (ho j s1 σ H1 v y u w _ I1 r r1 q1) λz s2 ⟨zv,H2,I2,r2,q2⟩=>?_;exact oo I2 hN hi R r2 (λs3 I3=>⟨_,H2,I3,q2⟩) hf
 rcases l with⟨hk,hm⟩|⟨hk,c,hc,hcell⟩
 ·exact wpAny_loadName_local I.ok.kind hk hn hm Y
 ·rcases hk with hk|hk
  ·exact wpAny_loadName_cell I.ok.kind hk hc hcell Y
  ·rcases R with k|k
   ·have:X.env.scope.names.lookup x=da .free:=hk;rw[k]at this;cases this
   ·have:X.env.scope.names.lookup x=da .free:=hk;rw[k]at this;cases this
def PGet  (X:Cx)(t:V->V->Hp->VK->Prop):Prop:=
 ∀(j:List (Ca×Obj)) (s:Fa) (σ:St) (H:Hp) (o i:V) (ov iv:Da) (Q:VK),Pa X j σ H s->RelV o ov->RelV i iv->t o i H Q->
  wpAny (Ja X.prog X.w) X.A (Xc ov iv) (EP X j σ Q) X.xe s
end


def kR  (c:TT)(tb:TS):TS:=λD j H=>∃W:Nat->St->Hp->Prop,(∃m,W m j H)/\∀m j H,W m j H->
 c j H λb F=>if b=ma then ∃N:St->Hp->Prop,(∀q z,N q z->∃y,y<m/\W y q z)/\tb { D with nx:=N,ct:=N,bk:=D.nx } j F else D.nx j F
def aU      (hp:Ik (Ja X.prog X.w) X.A X.env X.xe)(hc:PT X c tc)(hb:Be X body tb):PS X (.While c body [] pos) (kR tc tb):=by
 intro j s σ H D I h;obtain⟨W,⟨m0,w0⟩,y⟩:=h;refine wpAny_While (codeAny_whileLoop (λn s'=>∃F H',Pa X j F H' s'/\W n F H') ?_ m0 ⟨σ,H,I,w0⟩);rintro n s1 ⟨σ1,H1,I1,w1⟩;refine An hp (Pb (hc j s1 σ1 H1 _ I1 (y n σ1 H1 w1)) λb s2 ⟨H2,I2,q2⟩=>?_);cases b with
 |true=>
  obtain⟨N,hN,q2⟩:=q2;rw[if_pos rfl];refine An hp (Pb (hb j s2 σ1 H2 _ I2 q2) λf s3 q3=>?_);cases f with
  |next=>
   obtain⟨q,z,R,Y⟩:=q3;obtain⟨O,J,Z⟩:=hN q z Y;exact⟨O,J,q,z,R,Z⟩
  |cont=>
   obtain⟨q,z,R,Y⟩:=q3;obtain⟨O,J,Z⟩:=hN q z Y;exact⟨O,J,q,z,R,Z⟩
  |brk=>exact q3
  |ret v=>exact q3
 |false=>
  rw[if_neg Hd];exact dB ⟨σ1,H2,I2,q2⟩

structure It where
 go:Nat->Hp->Prop
 yld:Nat->Hp->V->Hp->Prop
 stop:Nat->Hp->Prop
def FpOk  (X:Cx)(pins:List (Ca×Obj))(H:Hp)(b:Ca):Prop:=
 H b=Aa/\b≠X.env.locals/\b∉X.fs/\(b∈X.ex\/X.s₀.heap.objs.size<=b)/\(∀x c,X.env.cells.lookup x=da c->c≠b)/\∀p∈X.pn++pins,p.1≠b
def Pa.fpOk    {F:St}{b:Ca}(I:Pa X pins F H s)(j:s.heap.objs.size<=b)(y:H' b=Aa):FpOk X pins H' b:=by
 refine⟨y,ow (Xe I.lt j),I.nofs j,.inr (Rb I.sz j),λx c e z=>?_,λp J z=>?_⟩
 ·obtain⟨v,q⟩:=I.cell x c e;exact absurd (Xe q.lt (by rw[z];exact j)) (Bi _)
 ·exact absurd (Xe (Hc (I.pin p J).1) (by rw[z];exact j)) (Bi _)
structure Turn (P:Nb)(w:Bb)(K:Eb)(tg:Na)(J:It)(fp:List Ca)(it:Ca)(tn:Nat->Wa->Prop):Prop where
 mem:it∈fp
 obj:∀i h,tn i h->∀b∈fp,∃o,h.get? b=da o/\∀v,o.data≠.cell v
 keep:∀i h h',tn i h->(∀b∈fp,∀o,h.get? b=da o->h'.get? b=da o)->tn i h'
 item:∀(X:Cx),X.prog=P->X.w=w->X.K=K->X.calm=ma->∀(i:Nat) (pins:List (Ca×Obj)) (s:Fa) (σ:St) (H:Hp) (E:Da->Fa->Prop),Pa X pins σ H s->(∀b∈fp,FpOk X pins H b)->tn i s.heap->J.go i H->
  wpAny (Ja P w) X.A (pyNext (.ref it)) (λr s1=>∃u,r=da u/\
   wpAny (Ja P w) X.A (Vq tg (.ref it) u) (λ_ s2=>∃x H',Pa X pins σ H' s2/\RelV x u/\J.yld i H x H'/\tn (i+1) s2.heap/\∀b∈fp,H' b=Aa) E s1) E s
 done:∀(X:Cx),X.prog=P->X.w=w->X.K=K->X.calm=ma->∀(i:Nat) (pins:List (Ca×Obj)) (s:Fa) (σ:St) (H:Hp) (E:Da->Fa->Prop),Pa X pins σ H s->(∀b∈fp,FpOk X pins H b)->tn i s.heap->J.stop i H->
  wpAny (Ja P w) X.A (pyNext (.ref it)) (λr s1=>r=Aa/\Pa X pins σ H s1) E s
 self:∀(A:ac) (i:Nat) (s:Fa) (Q:Da->Fa->Prop) (E:Da->Fa->Prop),tn i s.heap->Q (.ref it) s->wpAny (Ja P w) A (pyIter (.ref it)) Q E s
abbrev TI:=St->Hp->(It->Hp->Prop)->Prop
def yL  (X:Cx)(pins:List (Ca×Obj))(y:St)(z:Na)(R:It->Hp->Prop)(j:Da)(s2:Fa):Prop:=
 ∃(q:Ca) (fp:List Ca) (tn:Nat->Wa->Prop) (J:It) (H':Hp),j=.ref q/\Pa X pins y H' s2/\Turn X.prog X.w X.K z J fp q tn/\tn 0 s2.heap/\(∀b∈fp,FpOk X pins H' b)/\R J H'
def PI  (X:Cx)(z q:Na)(y:TI):Prop:=
 ∀(j:List (Ca×Obj)) (s:Fa) (σ:St) (H:Hp) (R:It->Hp->Prop),Pa X j σ H s->y σ H R->
  wpAny (Ja X.prog X.w) X.A (Lb q X.env) (λv s1=>wpAny (Ja X.prog X.w) X.A (pyIter v) (yL X j σ z R) X.xe s1) X.xe s

def qu             (z : s.heap.get? it = da o)(y : o.cls = .type n)(hd : o.data = .fields vs)
    (q : ["enumerate", "zip", "dict_itemiterator", "dict_reverseitemiterator", "odict_iterator", "itertools.zip_longest", "itertools.pairwise"].contains n = ua) (j : Q () s) : wpAny M A (Vq tg (.ref it) u) Q E s := by
  unfold Vq
  cases tg <;> first
    | exact uc j
    | (cases u <;> first
        | exact uc j
        | (refine ub (pp z ?_)
           rw [y, hd]
           show wpAny M A (if (["enumerate", "zip", "dict_itemiterator", "dict_reverseitemiterator", "odict_iterator", "itertools.zip_longest", "itertools.pairwise"].contains n && vs[0]? == da (Cb _)) = ma then _ else _) Q E s
           rw [if_neg (by intro h; rw [q, Bool.false_and] at h; cases h)]
           exact uc j))

noncomputable def AL  (K:Eb)(a:Ca):It:=
 ⟨λi H=>∃j x,Qc K H a j/\j[i]?=da x,λi H x q=>q=H/\∀j,Qc K H a j->j[i]?=da x,λi H=>∃j,Qc K H a j/\j.length<=i⟩
noncomputable def zL  (K:Eb)(a:Ca):It:=
 ⟨λi H=>∃j x,Ic K H a j/\j[i]?=da x,λi H x q=>q=H/\∀j,Ic K H a j->j[i]?=da x,λi H=>∃j,Ic K H a j/\j.length<=i⟩
noncomputable def Zw  (j:Int)(n:Nat):It:=⟨λi _=>i<n,λi H x q=>q=H/\x=.int (j+i),λi _=>n<=i⟩
def wV    {K:Eb} a it:Turn P w K tg (AL K a) [it] it (λi h=>h.IsListIter it a i) where
 mem:=by simp
 obj:=λi h j b y=>by
  have e:b=it:=by simpa using y
  subst e;obtain⟨o,e,c,d⟩:=j;exact⟨o,e,λv z=>by rw[d]at z;cases z⟩
 keep:=λi h O j k=>j.at λo e=>k it (by simp) o e
 item:=by
  intro X Z hw hK hc i q s σ H E I R j hg;subst Z hw hK;obtain⟨xs,x,J,hx⟩:=hg;obtain⟨Y,rv,p,hz⟩:=I.list J;obtain⟨u,hu,ru⟩:=rv.get hx;obtain⟨f0,f1,f2,f3,f4,f5⟩:=R it (by simp)
  refine wpAny_pyNext_list_item j p.isList (x:=u) (by simpa using hu) λO F sb=>?_
  have I1:Pa X q σ H { s with heap:=O }:=I.turned (t':=s.toks) (λb o y e=>(sb.2 b y).trans e) f0 f1 f3 f4 f5
  obtain⟨o,e,c,d⟩:=id F;exact⟨u,rfl,qu (s:={ s with heap:=O }) e c d (by decide) ⟨x,H,I1,ru,⟨rfl,λys hy=>by rw[I.list_inj hy J];exact hx⟩,F,λb y=>(R b y).1⟩⟩
 done:=by
  intro X Z hw hK hc i q s σ H E I R j hg;subst Z hw hK;obtain⟨xs,J,hx⟩:=hg;obtain⟨Y,rv,p,hz⟩:=I.list J;obtain⟨f0,f1,f2,f3,f4,f5⟩:=R it (by simp)
  have hl:=rv.length;exact wpAny_pyNext_list_end (I.ok.hd hc) j p.isList (by simp;lia) λO eb=>⟨rfl,I.turned (t':=s.toks) (λb o y e=>eb b o y e) f0 f1 f3 f4 f5⟩
 self:=λ_ _ _ _ _ j h=>wpAny_pyIter_listiter j h
def tV    {K:Eb} a it:Turn P w K tg (zL K a) [it] it (λi h=>h.IsTupleIter it a i) where
 mem:=by simp
 obj:=λi h j b F=>by
  have e:b=it:=by simpa using F
  subst e;obtain⟨o,e,c,d⟩:=j;exact⟨o,e,λv z=>by rw[d]at z;cases z⟩
 keep:=λi h R j k=>j.at λo e=>k it (by simp) o e
 item:=by
  intro X Z hw hK hc i q s σ H E I Y j hg;subst Z hw hK;obtain⟨xs,x,O,hx⟩:=hg;obtain⟨y,rv,p,hz⟩:=I.tuple O;obtain⟨u,hu,ru⟩:=rv.get hx;obtain⟨f0,f1,f2,f3,f4,f5⟩:=Y it (by simp)
  refine wpAny_pyNext_tuple_item j (show s.heap.IsTuple a y.toArray from p) (x:=u) (by simpa using hu) λR J sb=>?_
  have I1:Pa X q σ H { s with heap:=R }:=I.turned (t':=s.toks) (λb o F e=>(sb.2 b F).trans e) f0 f1 f3 f4 f5
  obtain⟨o,e,c,d⟩:=id J;exact⟨u,rfl,qu (s:={ s with heap:=R }) e c d (by decide) ⟨x,H,I1,ru,⟨rfl,λys hy=>by rw[I.tuple_inj hy O];exact hx⟩,J,λb F=>(Y b F).1⟩⟩
 done:=by
  intro X Z hw hK hc i q s σ H E I Y j hg;subst Z hw hK;obtain⟨xs,O,hx⟩:=hg;obtain⟨y,rv,p,hz⟩:=I.tuple O;obtain⟨f0,f1,f2,f3,f4,f5⟩:=Y it (by simp)
  have hl:=rv.length;exact wpAny_pyNext_tuple_end (I.ok.hd hc) j (show s.heap.IsTuple a y.toArray from p) (by simp;lia) λR eb=>⟨rfl,I.turned (t':=s.toks) (λb o F e=>eb b o F e) f0 f1 f3 f4 f5⟩
 self:=λ_ _ _ _ _ j h=>wpAny_pyIter_tupleiter j h
def sV    {K:Eb} it lo n:Turn P w K tg (Zw lo n) [it] it (λi h=>IsRangeIter h it (lo+(i:Nat)*1) ((n:Int)-(i:Nat)) 1) where
 mem:=by simp
 obj:=λi h j b y=>by
  have e:b=it:=by simpa using y
  subst e;exact⟨_,j,λv z=>by
   have z':Data.fields _=Data.cell v:=z;cases z'⟩
 keep:=λi h J j k=>k it (by simp) _ j
 item:=by
  intro X R Z hK hc i q s σ H E I O j hg;subst R Z hK;obtain⟨f0,f1,f2,f3,f4,Y⟩:=O it (by simp)
  have W:=Walks.range (prog:=X.prog) (w:=X.w) (I.ok.hd hc) it lo 1 n;refine W.item i s _ _ hg j λv J tk hv F kk=>?_;obtain⟨t,rfl⟩:=hv;have I1:Pa X q σ H { s with heap:=J,toks:=tk }:=I.turned (λb o y e=>kk b o (by simpa using y) e) f0 f1 f3 f4 Y
  refine⟨_,rfl,qu (s:={ s with heap:=J,toks:=tk }) (n := "range_iterator") F rfl rfl (by decide) ⟨.int (lo+i),H,I1,⟨t,?_⟩,⟨rfl,rfl⟩,F,λb y=>(O b y).1⟩⟩
  rw[Int.mul_one]
 done:=by
  intro X R Z hK hc i q s σ H E I O j hg;subst R Z hK;obtain⟨f0,f1,f2,f3,f4,Y⟩:=O it (by simp)
  exact wpAny_pyNext_range_end (I.ok.hd hc) j (by have:n<=i:=hg;lia) λJ eb=>⟨rfl,I.turned (t':=s.toks) (λb o y e=>eb b o y e) f0 f1 f3 f4 Y⟩
 self:=λ_ _ _ _ _ j h=>wpAny_pyIter_rangeiter j h
section
variable {X:Cx}{tg:Na}
def cT   {z:St}{j y:Int}(I:Pa X pins z H s)(h1:-(2 ^ 62)<=j)(h2:j<2 ^ 62)(h3:-(2 ^ 62)<=y)(Z:y<2 ^ 62)
  (q:R (Zw j (y-j).toNat) H):wpAny (Ja X.prog X.w) X.A (pyIter (.ref s.heap.objs.size)) (yL X pins z tg R) E { s with heap:=s.heap.push { cls:=.type "range",data:=.fields #[.int j t,.int y u,.int 1 v] },toks:=tk }:=by
 refine wpAny_pyIter_range (IsRange.new ..) (small_one h1 h2 h3 Z) ?_;have F:Pa X pins z H { s with heap:=s.heap.push { cls:=.type "range",data:=.fields #[.int j t,.int y u,.int 1 v] },toks:=tk }:=I.kept λb o e=>Ac _ e
 refine⟨(s.heap.push { cls:=.type "range",data:=.fields #[.int j t,.int y u,.int 1 v] }).objs.size,[(s.heap.push { cls:=.type "range",data:=.fields #[.int j t,.int y u,.int 1 v] }).objs.size],_,_,H,rfl,
  F.kept (t':=tk) λb o e=>Ac _ e,sV _ j (y-j).toNat,?_,λb Y=>?_,q⟩
 ·have J:j+((0:Nat):Int)*1=j:=by simp
  have O:(((y-j).toNat:Nat):Int)-((0:Nat):Int)=Fb.Range.rangeSize j y 1:=by rw[rangeSize_one];split<;>lia
  show IsRangeIter _ _ (j+((0:Nat):Int)*1) ((((y-j).toNat:Nat):Int)-((0:Nat):Int)) 1;rw[J,O];exact Fe _ rfl
 ·have e:b=(s.heap.push { cls:=.type "range",data:=.fields #[.int j t,.int y u,.int 1 v] }).objs.size:=by simpa using Y
  subst e;exact F.fpOk (Jb _) (F.hok.fresh (Jb _))
def CM  (F:TA):TI:=λy H R=>F y H λq z=>∃j:Int,q=[.int j]/\-(2 ^ 62)<=j/\j<2 ^ 62/\R (Zw 0 j.toNat) z
def JU {a:Na}{z:TA}{p pos:Pos}(O:Gl X "range")(F:X.mg "range" = Aa)(Z:PA X [a] z)(hs:Uc [a] X.env=[(ua,Lb a X.env)]:=by rfl):PI X tg (.Call (.Name "range" p) [a] [] pos) (CM z):=by
 intro y s J H R I h;refine Call_ (gq I O F boot_range (QB (Pb (Z pos y s J H _ I h) λus s1 ⟨vs,H1,Y,r1,q1⟩=>?_) hs rfl));obtain⟨j,e,q1,q2,q⟩:=q1;subst e;cases r1 with
 |cons r rr=>
  cases rr;obtain⟨t,rfl⟩:=r;exact call_range_1 (cT Y (by lia) (by lia) q1 q2 (by simpa using q))
def tFor  (O:TI)(g:TG)(tb:TS):TS:=λD j H=>O j H λJ R=>∃W:Nat->Nat->St->Hp->Prop,(∃m,W 0 m j R)/\∀i m j H,W i m j H->
 (J.stop i H/\D.nx j H)\/(J.go i H/\∃N:St->Hp->Prop,(∀y q,N y q->∃F,F<m/\W (i+1) F y q)/\∀x q,J.yld i H x q->g x j q λz I=>tb { D with nx:=N,ct:=N,bk:=D.nx } z I)
noncomputable def jq  (j:List Ca)(h:Wa):List (Ca×Obj):=j.filterMap λb=>(h.get? b).map λo=>(b,o)
def Gv      (j:b∈q)(e:h.get? b=da o):(b,o)∈jq q h:=List.mem_filterMap.mpr ⟨b,j,by rw[e];rfl⟩
def sU     (j:p∈jq y h):p.1∈y/\h.get? p.1=da p.2:=by
 obtain⟨b,z,e⟩:=List.mem_filterMap.mp j;cases q:h.get? b with
 |none=>rw[q]at e;cases e
 |some o=>
  rw[q]at e;have F:(b,o)=p:=Ee e;subst F;exact⟨z,q⟩
def Pa.pinned   {j:St}(I:Pa X pins j H s)(O:∀b∈F,FpOk X pins H b)(Z:∀b∈F,∃o,s.heap.get? b=da o/\∀v,o.data≠.cell v):Pa X (pins++jq F s.heap) j H s:=
 I.pins_of λp hp=>(Ma.mp hp).elim (λz=>I.pin p (Ff _ z)) λz=>by
  obtain⟨q,e⟩:=sU z;obtain⟨J,R,Y,_⟩:=O p.1 q;obtain⟨o,y,d⟩:=Z p.1 q;rw[e]at y;cases y;exact⟨e,J,R,Y,d⟩
def Pa.unpinned   {j:St}(I:Pa X (pins++y) j H s):Pa X pins j H s:=I.pins_of λp q=>I.pin p (Ff _ (Gg _ q))
def eQ {F:Na}{body:List Qa}{wi:TI}{g:TG}{tb:TS}{pos:Pos}(hp:Ik (Ja X.prog X.w) X.A X.env X.xe)(hc:X.calm=ma)(hi:PI X tg F wi)(hg:PG X tg g)(O:Be X body tb)
  (hs:∀x,Ii F X.env x=pure x:=by intro _;rfl):PS X (.For tg F body [] pos) (tFor wi g tb):=by
 intro j s σ H D I h;refine wpAny_For (Pb (hi j s σ H _ I h) λv s1 h1=>Pb h1 λka s2 h2=>?_) hs;obtain⟨it,fp,tn,J,H2,e,I2,T,st2,f2,W,⟨m0,w0⟩,za⟩:=h2;subst e;have z:∀{H':Hp},(∀b∈fp,H' b=Aa)->∀b∈fp,FpOk X j H' b:=λhn b O=>⟨hn b O,(f2 b O).2⟩;refine codeAny_forLoop_any (λn s'=>∃i Z H',Pa X j Z H' s'/\tn i s'.heap/\(∀b∈fp,H' b=Aa)/\W i n Z H') ?_ m0 ⟨0,σ,H2,I2,st2,λb O=>(f2 b O).1,w0⟩;rintro n s3 ⟨i,σ3,H3,I3,st3,fr3,w3⟩;rcases za i n σ3 H3 w3 with⟨ja,qn⟩|⟨go,N,hN,step⟩
 ·refine An hp (Pb (T.done X rfl rfl rfl hc i j s3 σ3 H3 X.xe I3 (z fr3) st3 ja) λr s4 ⟨hr,I4⟩=>?_);subst hr;exact dB ⟨σ3,H3,I4,qn⟩
 ·refine An hp (Pb (T.item X rfl rfl rfl hc i j s3 σ3 H3 X.xe I3 (z fr3) st3 go) λr s4 ⟨u,hr,h4⟩=>?_);subst hr;refine An hp (Pb h4 λ_ s5 ⟨x,H5,I5,r5,y5,xa,wa⟩=>?_);have ya:=I5.pinned (z wa) (T.obj _ _ xa);refine An hp (Pb (hg _ s5 σ3 H5 x u _ ya r5 (step x H5 y5)) λ_ s6 ⟨va,H6,I6,q6⟩=>?_);refine An hp (Pb (O _ s6 va H6 _ I6 q6) λf s7 q7=>?_);have Y:∀{q:St} {y:Hp},Pa X (j++jq fp s5.heap) q y s7->N q y->∃m,m<n/\∃i Z H',Pa X j Z H' s7/\tn i s7.heap/\(∀b∈fp,H' b=Aa)/\W i m Z H':=λ{q y} R n7=>by
   obtain⟨m',hm,w7⟩:=hN q y n7;refine⟨m',hm,i+1,q,y,R.unpinned,T.keep _ _ _ xa λb O o e=>(R.pin (b,o) (Ff _ (Ff _ (Gv O e)))).1,λb O=>?_,w7⟩;obtain⟨o,e,d⟩:=T.obj _ _ xa b O;exact(R.pin (b,o) (Ff _ (Ff _ (Gv O e)))).2.1
  cases f with
  |next=>obtain⟨q,y,R,n7⟩:=q7;exact Y R n7
  |cont=>obtain⟨q,y,R,n7⟩:=q7;exact Y R n7
  |brk=>obtain⟨q,y,R,q7⟩:=q7;exact⟨q,y,R.unpinned,q7⟩
  |ret v=>obtain⟨x7,q,y,R,r7,q7⟩:=q7;exact⟨x7,q,y,R.unpinned,r7,q7⟩
end


abbrev R2:=V->V->Hp->VK->Prop
def nc  (X:Cx)(f:Da->Da->Sem Da)(r:R2):Prop:=
 ∀(j:List (Ca×Obj)) (s:Fa) (σ:St) (H:Hp) (x y:V) (v u:Da) (Q:VK),Pa X j σ H s->RelV x v->RelV y u->r x y H Q->
  wpAny (Ja X.prog X.w) X.A (f v u) (EP X j σ Q) X.xe s
def bC  (X:Cx)(f:Da->Sem Da)(r:V->Hp->VK->Prop):Prop:=
 ∀(j:List (Ca×Obj)) (s:Fa) (σ:St) (H:Hp) (x:V) (v:Da) (Q:VK),Pa X j σ H s->RelV x v->r x H Q->
  wpAny (Ja X.prog X.w) X.A (f v) (EP X j σ Q) X.xe s
def rf  (X:Cx)(f:Da)(r:List V->Hp->VK->Prop):Prop:=
 ∀(j:List (Ca×Obj)) (s:Fa) (σ:St) (H:Hp) (xs:List V) (us:List Da) (Q:VK),Pa X j σ H s->Vals xs us->r xs H Q->
  wpAny (Ja X.prog X.w) X.A (call f us) (EP X j σ Q) X.xe s
def TruR  (X:Cx)(r:V->Hp->(Bool->Hp->Prop)->Prop):Prop:=
 ∀(j:List (Ca×Obj)) (s:Fa) (σ:St) (H:Hp) (x:V) (v:Da) (Q:Bool->Hp->Prop),Pa X j σ H s->RelV x v->r x H Q->
  wpAny (Ja X.prog X.w) X.A (truthy v) (TP X j σ Q) X.xe s

def Ir  (r:R2)(F tb:TE):TE:=λj H Q=>F j H λx z=>tb j z λy q=>r x y q Q
def JL  (r:V->Hp->VK->Prop)(y:TE):TE:=λj H Q=>y j H λx q=>r x q Q
def rI  (C:Int->Int->Prop)(g:Int->Int->V):R2:=λx y H Q=>∃i j,x=.int i/\y=.int j/\C i j/\Q (g i j) H
def Mi  (g:Int->Int->V):R2:=λx y H Q=>∃i j,x=.int i/\y=.int j/\Q (g i j) H
def rU  (g:Int->V):V->Hp->VK->Prop:=λx H Q=>∃i,x=.int i/\Q (g i) H


def binT  (ha:PE X a ta)(Z:PE X b tb){j:St}{R:V->V->Hp->Prop}(I:Pa X pins j H s)
  (h:ta j H λx J=>tb j J λy q=>R x y q) {f:Da->Da->Sem Da}
  (O:∀v u s2 x y q,Pa X pins j q s2->RelV x v->RelV y u->R x y q->wpAny (Ja X.prog X.w) X.A (f v u) Q X.xe s2) :
  wpAny (Ja X.prog X.w) X.A (Lb a X.env) (λv z=>wpAny (Ja X.prog X.w) X.A (Lb b X.env) (λu F=>wpAny (Ja X.prog X.w) X.A (f v u) Q X.xe F) X.xe z) X.xe s:=by
 refine Pb (ha pins s j H _ I h) λv s1 ⟨x,J,I1,r1,q1⟩=>?_;refine Pb (Z pins s1 j J _ I1 q1) λu s2 ⟨y,q,Y,r2,q2⟩=>?_;exact O v u s2 x y q Y r1 r2 q2

def tN    (O:nc X (Pe op) r)(ha:PE X a ta)(R:PE X b tb):PE X (.BinOp a op b pos) (Ir r ta tb):=by
 intro j s F H Q I h;exact wpAny_BinOp (binT ha R I h λv u s2 x y Z J Y z q=>O j s2 F Z x y v u Q J Y z q)
def uN    (y:bC X (unaryOp op) r)(z:PE X a ta):PE X (.UnaryOp op a pos) (JL r ta):=by
 intro j s q H Q I h;exact UnaryOp_ (Pb (z j s q H _ I h) λv s1 ⟨x,J,F,r1,q1⟩=>y j s1 q J x v Q F r1 q1)
def Ip    {g:Int->Int->Int}
  (z:∀i j t u (s:Fa) Q E ,C i j->Q (.int (g i j) s.toks) { s with toks:=s.toks+1 }->wpAny (Ja X.prog X.w) X.A (f (.int i t) (.int j u)) Q E s) :
  nc X f (rI C λi j=>.int (g i j)):=by
 intro F s Z H x y v u Q I O J h;obtain⟨i,j,rfl,rfl,Y,q⟩:=h;obtain⟨t,rfl⟩:=O;obtain⟨R,rfl⟩:=J;exact z i j t R s _ _ Y ⟨.int (g i j),H,I.tok _,⟨_,rfl⟩,q⟩
def opI0   {g:Int->Int->Int}
  (z:∀i j t u (s:Fa) Q E ,Q (.int (g i j) s.toks) { s with toks:=s.toks+1 }->wpAny (Ja X.prog X.w) X.A (f (.int i t) (.int j u)) Q E s) :
  nc X f (Mi λi j=>.int (g i j)):=by
 intro F s Y H x y v u Q I O J h;obtain⟨i,j,rfl,rfl,q⟩:=h;obtain⟨t,rfl⟩:=O;obtain⟨R,rfl⟩:=J;exact z i j t R s _ _ ⟨.int (g i j),H,I.tok _,⟨_,rfl⟩,q⟩
def opB0   {g:Int->Int->Bool}
  (z:∀i j t u s Q E ,Q (.bool (g i j)) s->wpAny (Ja X.prog X.w) X.A (f (.int i t) (.int j u)) Q E s) :
  nc X f (Mi λi j=>.bl (g i j)):=by
 intro F s Y H x y v u Q I O J h;obtain⟨i,j,rfl,rfl,q⟩:=h;obtain⟨t,rfl⟩:=O;obtain⟨R,rfl⟩:=J;exact z i j t R s _ _ ⟨.bl (g i j),H,I,rfl,q⟩

def CDiv  (i j:Int):Prop:=0<j/\j<1073741824
def CPow  (i j:Int):Prop:=0<=j/\j<=1000000/\i.natAbs<2 ^ 64
def CMul  (i j:Int):Prop:=(-(2 ^ 64)<i/\i<2 ^ 64)\/(-(2 ^ 64)<j/\j<2 ^ 64)
def CMul.ok   (h:CMul i j):IntMulOk i j:=by
 rcases h with⟨y,q⟩|⟨y,q⟩
 ·exact .of_left (intBits_le_64 y q)
 ·exact .of_right (intBits_le_64 y q)
def gQ  : nc X (Pe .Add) (Mi λi j=>.int (i+j)):=opI0 λ_ _ _ _ _ _ _ q=>add_int q
def FP  : nc X (Pe .Sub) (Mi λi j=>.int (i-j)):=opI0 λ_ _ _ _ _ _ _ q=>sub_int q
def oQ  : nc X (Pe .Mult) (rI CMul λi j=>.int (i*j)):=Ip λ_ _ _ _ _ _ _ y q=>mul_int q y.ok
def XR  : nc X (Pe .FloorDiv) (rI CDiv λi j=>.int (i/j)):=Ip λi j _ _ _ _ _ y q=>by
 have F:(0:Int)<j:=y.1;have z:j<1073741824:=y.2;exact floordiv_int (by lia) (by rw[Int.fdiv_eq_ediv_of_nonneg i (by lia)];exact q) (.inl (PyProof.noPylong_small (by lia)))
def nQ  : nc X (Pe .Mod) (rI (λ_ j=>0<j) λi j=>.int (i%j)):=Ip λi j _ _ _ _ _ y q=>by
 have z:(0:Int)<j:=y;exact mod_int' (by lia) (by rw[Int.fmod_eq_emod_of_nonneg i (by lia)];exact q)
def CP  : nc X (Pe .Pow) (rI CPow λi j=>.int (i ^ j.toNat)):=Ip λ_ _ _ _ _ _ _ y q=>pow_int_small y.1 y.2.1 y.2.2 q
def iR  : nc X (zo .Add) (Mi λi j=>.int (i+j)):=opI0 λ_ _ _ _ _ _ _ q=>iadd_int q
def qQ  : nc X (zo .Sub) (Mi λi j=>.int (i-j)):=opI0 λ_ _ _ _ _ _ _ q=>isub_int q
def jR  : nc X (zo .Mult) (rI CMul λi j=>.int (i*j)):=Ip λ_ _ _ _ _ _ _ y q=>imul_int q y.ok
def unI   {g:Int->Int}
  (j:∀i t (s:Fa) Q E ,Q (.int (g i) s.toks) { s with toks:=s.toks+1 }->wpAny (Ja X.prog X.w) X.A (f (.int i t)) Q E s) :
  bC X f (rU λi=>.int (g i)):=by
 intro y s F H x v Q I z h;obtain⟨i,rfl,q⟩:=h;obtain⟨t,rfl⟩:=z;exact j i t s _ _ ⟨.int (g i),H,I.tok _,⟨_,rfl⟩,q⟩
def MQ  : bC X (unaryOp .USub) (rU λi=>.int (-i)):=unI λ_ _ _ _ _ q=>neg_int q

noncomputable def scal  : V->V->Bool
 |.non,.non=>ma|.non,.int _=>ma|.int _,.non=>ma|.non,.bl _=>ma|.bl _,.non=>ma|.non,.str _=>ma|.str _,.non=>ma
 |.int _,.int _=>ma|.bl _,.bl _=>ma|.str _,.str _=>ma|.byt _,.byt _=>ma
 |.int _,.str _=>ma|.str _,.int _=>ma|.bl _,.str _=>ma|.str _,.bl _=>ma
 |_,_=>ua
def PL  : R2:=λx y H Q=>scal x y=ma/\Q (.bl (decide (x=y))) H
def OL  : R2:=λx y H Q=>scal x y=ma/\Q (.bl (!decide (x=y))) H

def hE   : decide (V.int i=V.int j)=(i==j):=by
 rw[Co];simp
def VD   : decide (V.bl i=V.bl j)=(i==j):=by
 rw[Co];simp
def iE   : decide (V.str i=V.str j)=(i==j):=by
 rw[Co];simp
def gE   : decide (V.byt i=V.byt j)=(i.toList==j.toList):=by
 rw[Co];cases i;cases j;simp

section
variable {X:Cx}{a b c:Na}{ta tb tc:TE}{pos:Pos}
def Ld   {j:St}(I:Pa X pins j H s)(q:Q (.bl k) H)(e:k=k'):EP X pins j Q (.bool k') s:=by
 subst e;exact⟨.bl k,H,I,rfl,q⟩
def jN  : nc X (Ed .Eq) PL:=by
 intro R s Y H x y v u Q I O z h;obtain⟨J,q⟩:=h;cases x with
 |non=>
  cases O;cases y with
  |non=>cases z;exact PySem.EqNone.eq_none_none (Ld I q (by simp))
  |bl j=>cases z;exact PySem.EqNone.eq_none_bool (Ld I q (by simp))
  |int j=>obtain⟨F,rfl⟩:=z;exact PySem.EqNone.eq_none_int (Ld I q (by simp))
  |str j=>obtain⟨F,rfl⟩:=z;exact PySem.EqNone.eq_none_str (Ld I q (by simp))
  |_=>exact absurd (show ua=ma from J) Hd
 |bl i=>
  cases O;cases y with
  |non=>cases z;exact PySem.EqNone.eq_bool_none (Ld I q (by simp))
  |bl j=>cases z;exact eq_bool (Ld I q VD)
  |str j=>obtain⟨F,rfl⟩:=z;exact PySem.EqMixed.eq_bool_str (Ld I q (by simp))
  |_=>exact absurd (show ua=ma from J) Hd
 |int i=>
  obtain⟨t,rfl⟩:=O;cases y with
  |non=>cases z;exact PySem.EqNone.eq_int_none (Ld I q (by simp))
  |int j=>obtain⟨F,rfl⟩:=z;exact eq_int (Ld I q hE)
  |str j=>obtain⟨F,rfl⟩:=z;exact PySem.EqMixed.eq_int_str (Ld I q (by simp))
  |_=>exact absurd (show ua=ma from J) Hd
 |str i=>
  obtain⟨t,rfl⟩:=O;cases y with
  |non=>cases z;exact PySem.EqNone.eq_str_none (Ld I q (by simp))
  |bl j=>cases z;exact PySem.EqMixed.eq_str_bool (Ld I q (by simp))
  |int j=>obtain⟨F,rfl⟩:=z;exact PySem.EqMixed.eq_str_int (Ld I q (by simp))
  |str j=>obtain⟨F,rfl⟩:=z;exact eq_str (Ld I q iE)
  |_=>exact absurd (show ua=ma from J) Hd
 |byt i=>
  obtain⟨t,rfl⟩:=O;cases y with
  |byt j=>obtain⟨F,rfl⟩:=z;exact PySem.W.eq_bytes (Ld I q gE)
  |_=>exact absurd (show ua=ma from J) Hd
 |_=>cases y<;>exact absurd (show ua=ma from J) Hd
def pN  : nc X (Ed .NotEq) OL:=by
 intro R s Y H x y v u Q I O z h;obtain⟨J,q⟩:=h;cases x with
 |non=>
  cases O;cases y with
  |non=>cases z;exact PySem.EqNone.ne_none_none (Ld I q (by simp))
  |bl j=>cases z;exact PySem.EqNone.ne_none_bool (Ld I q (by simp))
  |int j=>obtain⟨F,rfl⟩:=z;exact PySem.EqNone.ne_none_int (Ld I q (by simp))
  |str j=>obtain⟨F,rfl⟩:=z;exact PySem.EqNone.ne_none_str (Ld I q (by simp))
  |_=>exact absurd (show ua=ma from J) Hd
 |bl i=>
  cases O;cases y with
  |non=>cases z;exact PySem.EqNone.ne_bool_none (Ld I q (by simp))
  |bl j=>cases z;exact ne_bool (Ld I q (congrArg not VD))
  |str j=>obtain⟨F,rfl⟩:=z;exact PySem.EqMixed.ne_bool_str (Ld I q (by simp))
  |_=>exact absurd (show ua=ma from J) Hd
 |int i=>
  obtain⟨t,rfl⟩:=O;cases y with
  |non=>cases z;exact PySem.EqNone.ne_int_none (Ld I q (by simp))
  |int j=>obtain⟨F,rfl⟩:=z;exact ne_int (Ld I q (congrArg not hE))
  |str j=>obtain⟨F,rfl⟩:=z;exact PySem.EqMixed.ne_int_str (Ld I q (by simp))
  |_=>exact absurd (show ua=ma from J) Hd
 |str i=>
  obtain⟨t,rfl⟩:=O;cases y with
  |non=>cases z;exact PySem.EqNone.ne_str_none (Ld I q (by simp))
  |bl j=>cases z;exact PySem.EqMixed.ne_str_bool (Ld I q (by simp))
  |int j=>obtain⟨F,rfl⟩:=z;exact PySem.EqMixed.ne_str_int (Ld I q (by simp))
  |str j=>obtain⟨F,rfl⟩:=z;exact ne_str (Ld I q (congrArg not iE))
  |_=>exact absurd (show ua=ma from J) Hd
 |byt i=>
  obtain⟨t,rfl⟩:=O;cases y with
  |byt j=>obtain⟨F,rfl⟩:=z;exact PySem.W.ne_bytes (Ld I q (congrArg not gE))
  |_=>exact absurd (show ua=ma from J) Hd
 |_=>cases y<;>exact absurd (show ua=ma from J) Hd

def oN  : nc X (Ed .Lt) (Mi λi j=>.bl (decide (i<j))):=opB0 λ_ _ _ _ _ _ _ q=>lt_int q
def nN  : nc X (Ed .LtE) (Mi λi j=>.bl (decide (i<=j))):=opB0 λ_ _ _ _ _ _ _ q=>le_int q
def lN  : nc X (Ed .Gt) (Mi λi j=>.bl (decide (j<i))):=opB0 λ_ _ _ _ _ _ _ q=>gt_int q
def kN  : nc X (Ed .GtE) (Mi λi j=>.bl (decide (j<=i))):=opB0 λ_ _ _ _ _ _ _ q=>ge_int q
def CU  : nc X (Ed .In) (λx y H Q=>∃i j,x=.str i/\y=.str j/\Q (.bl (!(Hw j i 0 j.length 1).isEmpty)) H):=by
 intro z s O H x y v u Q I J F h;obtain⟨i,j,rfl,rfl,q⟩:=h;obtain⟨t,rfl⟩:=J;obtain⟨R,rfl⟩:=F;exact in_str (Ld I q rfl)

def AW  : nc X (Ed .NotIn) (λx y H Q=>∃i j,x=.str i/\y=.str j/\Q (.bl (!(!(Hw j i 0 j.length 1).isEmpty))) H):=by
 intro z s O H x y v u Q I J F h;obtain⟨i,j,rfl,rfl,q⟩:=h;obtain⟨t,rfl⟩:=J;obtain⟨R,rfl⟩:=F;exact notIn_str (Ld I q rfl)
def nc.or    (h:nc X f r)(h':nc X f r'):nc X f (λx y H Q=>r x y H Q\/r' x y H Q):=by
 intro j s J H x y v u Q I O F q;rcases q with q|q
 ·exact h j s J H x y v u Q I O F q
 ·exact h' j s J H x y v u Q I O F q

def fS    (R:nc X (Ed op) r)(ha:PE X a ta)(Y:PE X b tb)(z:tw op b=ua):PE X (.Compare a [op] [b] pos) (Ir r ta tb):=by
 intro j s J H Q I h;exact wpAny_Compare1 (binT ha Y I h λv u s2 x y H2 O Z F q=>R j s2 J H2 x y v u Q O Z F q) z
def QC  (t:TE):TT:=λj H Q=>t j H λx q=>∃k,x=.bl k/\Q k q
def xS    (Y:nc X (Ed op) r)(ha:PE X a ta)(Z:PE X b tb)(J:tw op b=ua):PT X (.Compare a [op] [b] pos) (QC (Ir r ta tb)):=by
 intro j s q H Q I h;refine wpAny_isTrue_Compare1 (Pb (ha j s q H _ I h) λv s1 ⟨x,F,I1,r1,q1⟩=>Pb (Z j s1 q F _ I1 q1) λu s2 ⟨y,H2,R,r2,q2⟩=>
  Pb (Y j s2 q H2 x y v u _ R r1 r2 q2) λc s3 ⟨z,O,I3,r3,k,e,q3⟩=>?_) J
 subst e;cases r3;exact Uk ⟨O,I3,q3⟩
def XC  (r Y:R2)(J tb I:TE):TE:=λj H Q=>J j H λx Z=>tb j Z λy R=>r x y R λz q=>∃k,z=.bl k/\
 (if k=ma then I j q λO F=>Y y O F Q else Q (.bl ua) q)
section
variable {op op':Dr}{r r':R2}
def NT (ho:nc X (Ed op) r)(F:nc X (Ed op') r')(Z:PE X a ta)(hb:PE X b tb)(hc:PE X c tc)
  (R:Ov [op,op'] [b,c]=ua:=by with_unfolding_all rfl):PE X (.Compare a [op,op'] [b,c] pos) (XC r r' ta tb tc):=by
 intro j s q H Q I h;refine Compare_chain (Pb (Z j s q H _ I h) λv s1 ⟨x,H1,I1,r1,q1⟩=>chain_link (Pb (hb j s1 q H1 _ I1 q1) λu s2 ⟨y,Y,I2,r2,q2⟩=>
  Pb (ho j s2 q Y x y v u _ I2 r1 r2 q2) λd s3 ⟨z,O,J,r3,k,e,q3⟩=>?_)) R
 subst e;cases r3;refine Uk ?_;cases k with
 |false=>exact ite_ff ⟨.bl ua,O,J,rfl,q3⟩
 |true=>exact ite_tt (chain_last (Pb (hc j s3 q O _ J q3) λw' s4 ⟨z',H4,I4,r4,q4⟩=>F j s4 q H4 y z' u w' Q I4 r2 r4 q4))
def cU (ho:nc X (Ed op) r)(F:nc X (Ed op') r')(Z:PE X a ta)(hb:PE X b tb)(hc:PE X c tc)
  (R:Ov [op,op'] [b,c]=ua:=by with_unfolding_all rfl):PT X (.Compare a [op,op'] [b,c] pos) (QC (XC r r' ta tb tc)):=by
 intro j s q H Q I h;refine isTrue_chain (Pb (Z j s q H _ I h) λv s1 ⟨x,H1,I1,r1,q1⟩=>test_link (Pb (hb j s1 q H1 _ I1 q1) λu s2 ⟨y,Y,I2,r2,q2⟩=>
  Pb (ho j s2 q Y x y v u _ I2 r1 r2 q2) λd s3 ⟨z,O,J,r3,k,e,q3⟩=>?_)) R
 subst e;cases r3;refine Uk ?_;cases k with
 |false=>
  obtain⟨k',e',q'⟩:=q3;cases e';exact ite_ff ⟨O,J,q'⟩
 |true=>
  refine ite_tt (test_last (Pb (hc j s3 q O _ J q3) λw' s4 ⟨z',H4,I4,r4,q4⟩=>Pb (F j s4 q H4 y z' u w' _ I4 r2 r4 q4) λd' s5 ⟨z2,H5,I5,r5,k2,e2,q5⟩=>?_));subst e2;cases r5;exact Uk ⟨H5,I5,q5⟩

end
def TruV  (K:Eb)(x:V)(H:Hp)(k:Bool):Prop:=
 match x with
 |.non=>k=ua
 |.bl b=>k=b
 |.int i=>k=(i != 0)
 |.str y=>y.length<=db/\k=((y.length:Int) != 0)
 |.byt y=>y.size<=db/\k=((y.size:Int) != 0)
 |.ref p=>(∃q,Qc K H p q/\k = !q.isEmpty)\/(∃q,Ic K H p q/\k = !q.isEmpty)\/∃j,H p=da (.dK j)/\k = !j.isEmpty
 |_=>False
def JV     (r:KV kvs vs):(!vs.isEmpty) = !kvs.isEmpty:=by
 cases r<;>rfl
def kH    (r:Vals xs j):(!j.toArray.isEmpty) = !xs.isEmpty:=by
 cases r<;>simp
def Km  : (db:Nat)<2 ^ 63:=by rw[Fi];decide
def Au  : TruR X (λx H Q=>∃k,TruV X.K x H k/\Q k H):=by
 intro xa s σ H x v Q I O h;obtain⟨k,e,q⟩:=h;have hl:=Km;have hs:db=16777216:=Fi;cases x with
 |non=>
  cases O;have j:k=ua:=e;subst j;exact truthy_none ⟨H,I,q⟩
 |bl b=>
  cases O;have j:k=b:=e;subst j;exact Uk ⟨H,I,q⟩
 |int i=>
  obtain⟨t,rfl⟩:=O;have j:k=(i != 0):=e;subst j;exact PySem.P.truthy_int ⟨H,I,q⟩
 |str y=>
  obtain⟨t,rfl⟩:=O;obtain⟨hy,j⟩:y.length<=db/\k=((y.length:Int) != 0):=e;subst j;exact PySem.P.truthy_str (by lia) ⟨H,I.tok _,q⟩
 |byt y=>
  obtain⟨t,rfl⟩:=O;obtain⟨hy,j⟩:y.size<=db/\k=((y.size:Int) != 0):=e;subst j;exact PySem.W.truthy_bytes (by lia) ⟨H,I.tok _,q⟩
 |ref p=>
  cases O;have j:(∃J,Qc X.K H p J/\k = !J.isEmpty)\/(∃J,Ic X.K H p J/\k = !J.isEmpty)\/∃z,H p=da (.dK z)/\k = !z.isEmpty:=e;rcases j with⟨J,R,j⟩|⟨J,R,j⟩|⟨z,R,j⟩
  ·subst j;obtain⟨Z,r,pl,hz⟩:=I.list R;have F:=r.length;exact wpAny_truthy_list pl.isList (by simp only[Zc];lia) ⟨H,I.tok _,by rw[kH r];exact q⟩
  ·subst j;obtain⟨Z,r,pl,hz⟩:=I.tuple R;have F:=r.length;exact truthy_tuple pl (by simp only[Zc];lia) ⟨H,I.tok _,by rw[kH r];exact q⟩
  ·subst j;obtain⟨hz,hS,Y,r,m⟩:z.length<=db/\(p==Ye)=ua/\∃Y,KV z Y/\s.heap.DictOf (Sd X.prog X.w) p Y:=I.hok p _ R;have F:z.length=Y.length:=bw r;exact wpAny_truthy_dict hS m (by lia) ⟨H,I.tok _,by rw[JV r];exact q⟩
 |_=>exact(show False from e).elim
def dU  (z:PE X a ta)(O:∀j,tf a X.env j=(do let v <- j;Qf a.pos;Pc [v] (truthy v))) :
  PT X a (λy H Q=>ta y H λx H'=>∃k,TruV X.K x H' k/\Q k H'):=by
 intro q s y H Q I h;exact isTrue_plain (Pb (z q s y H _ I h) λv s1 ⟨x,J,F,r1,q1⟩=>Au q s1 y J x v Q F r1 q1) (O _)

def fV  : nc X (Pe .Add) (λx y H Q=>∃i j,x=.str i/\y=.str j/\i.length+j.length<=db/\Q (.str (i++j)) H):=by
 intro z s Y H x y v u Q I J F h;obtain⟨i,j,rfl,rfl,R,q⟩:=h;obtain⟨t,rfl⟩:=J;obtain⟨O,rfl⟩:=F;exact add_str (λO Z=>⟨.str (i++j),H,I.tok _,⟨_,rfl⟩,q⟩) R
def mW  : nc X (zo .Add) (λx y H Q=>∃i j,x=.str i/\y=.str j/\i.length+j.length<=db/\Q (.str (i++j)) H):=by
 intro z s Y H x y v u Q I J F h;obtain⟨i,j,rfl,rfl,R,q⟩:=h;obtain⟨t,rfl⟩:=J;obtain⟨O,rfl⟩:=F;exact iadd_str (λO Z=>⟨.str (i++j),H,I.tok _,⟨_,rfl⟩,q⟩) R
def fh    (r:Vals [x] us):∃u,us=[u]/\RelV x u:=by
 cases r with
 |cons r1 r2=>cases r2;exact⟨_,rfl,r1⟩
def bP    (r:Vals [x,y] us):∃u j,us=[u,j]/\RelV x u/\RelV y j:=by
 cases r with
 |cons r1 r2=>
  cases r2 with
  |cons r3 q=>cases q;exact⟨_,_,rfl,r1,r3⟩
def vT  (F:X.calm=ma):rf X (.builtin "min") (λxs H Q=>∃i j,xs=[.int i,.int j]/\Q (.int (if j<i then j else i)) H):=by
 intro z s J H xs R Q I r h;obtain⟨i,j,rfl,q⟩:=h;obtain⟨u,Y,rfl,⟨t,rfl⟩,⟨Z,rfl⟩⟩:=bP r;refine min_two_ints (I.ok.hd F) λh' O k=>⟨_,H,I.kept k,?_,q⟩;by_cases y:j<i
 ·rw[if_pos y,if_pos y];exact⟨_,rfl⟩
 ·rw[if_neg y,if_neg y];exact⟨_,rfl⟩
def tT  : rf X (.type "int") (λxs H Q=>(∃i,xs=[.int i]/\Q (.int i) H)\/∃k,xs=[.bl k]/\Q (.int (if k then 1 else 0)) H):=by
 intro j s z H xs y Q I r h;rcases h with⟨i,rfl,q⟩|⟨k,rfl,q⟩
 ·obtain⟨u,rfl,t,rfl⟩:=fh r;exact call_int_int ⟨.int i,H,I,⟨_,rfl⟩,q⟩
 ·obtain⟨u,rfl,r1⟩:=fh r;cases r1;exact call_int_bool ⟨.int (if k then 1 else 0),H,I.tok _,⟨_,rfl⟩,q⟩
def LenV  (K:Eb)(x:V)(H:Hp)(n:Nat):Prop:=
 match x with
 |.str y=>y.length<=db/\n=y.length
 |.byt y=>y.size<=db/\n=y.size
 |.ref p=>(∃j,Qc K H p j/\n=j.length)\/∃j,Ic K H p j/\n=j.length
 |_=>False
def RS  : rf X (.builtin "len") (λxs H Q=>∃x n,xs=[x]/\LenV X.K x H n/\Q (.int n) H):=by
 intro Z s σ H xs us Q I r h;obtain⟨x,n,rfl,e,q⟩:=h;obtain⟨u,rfl,J⟩:=fh r;have hl:=Km;have hs:db=16777216:=Fi;cases x with
 |str y=>
  obtain⟨t,rfl⟩:=J;obtain⟨hy,z⟩:y.length<=db/\n=y.length:=e;subst z;exact len_str (by lia) ⟨.int _,H,I.tok _,⟨_,rfl⟩,q⟩
 |byt y=>
  obtain⟨t,rfl⟩:=J;obtain⟨hy,z⟩:y.size<=db/\n=y.size:=e;subst z;exact PySem.W.len_bytes (by lia) ⟨.int _,H,I.tok _,⟨_,rfl⟩,q⟩
 |ref p=>
  cases J;have z:(∃xs,Qc X.K H p xs/\n=xs.length)\/∃xs,Ic X.K H p xs/\n=xs.length:=e;rcases z with⟨xs,F,z⟩|⟨xs,F,z⟩
  ·subst z;obtain⟨O,Y,R,hz⟩:=I.list F;have j:=Y.length;exact Calls.call_len_list R.isList (by simp only[Zc];lia) ⟨.int xs.length,H,I.tok _,⟨_,by simp only[Zc];rw[j]⟩,q⟩
  ·subst z;obtain⟨O,Y,R,hz⟩:=I.tuple F;have j:=Y.length;exact len_tuple R (by simp only[Zc];lia) ⟨.int xs.length,H,I.tok _,⟨_,by simp only[Zc];rw[j]⟩,q⟩
 |_=>exact(show False from e).elim
end

structure ObjM (h:Wa)(x dx C:Ca)(mA:Str->Option Da):Prop where
 obj:h.get? x=da (GB C dx)
 ns:h.Ns1 dx mA
 ne:dx≠x

def QU  {h:Wa}(n:h.Ns1 R mA):∃I,h.get? R=da I/\∀name,cB name I=da (mA name):=by
 obtain⟨o,F,ep,O,hd,hk,_,J⟩:=n;refine⟨o,O,λname=>?_⟩;have e:=J name;unfold nsFind findBy at e;rw[<- Array.find?_toList]at e;unfold cB;rw[hd];dsimp only;split
 ·rename_i y q;rw[q]at e;exact congrArg da e
 ·rename_i q;rw[q]at e;have a:F.toList.any (·.refKey)=ua:=by
   rw[List.any_eq_false];intro y Z;obtain⟨z,t,j⟩:=hk y (Array.mem_toList_iff.mp Z);simp[Mk.refKey,j]
  have Y:¬F.toList.any (·.refKey)=ma:=by rw[a];exact Hd
  rw[if_neg Y];exact congrArg da e

def ObjM.look     (I:ObjM h x q C mA):∃j,PySem.W.InstAt h x (GB C q) C (da j)/\∀name,cB name j=da (mA name):=
 let ⟨j,F,y⟩:=QU I.ns
 ⟨j,⟨I.obj,rfl,rfl,F⟩,y⟩



def RelO.some_of    (r:RelO (da v) o):∃u,o=da u/\RelV v u:=by
 cases o with
 |none=>exact(show False from r).elim
 |some u=>exact⟨u,rfl,r⟩

def fR  (y:Qd P w H h)(e:H a=da (.ins C F fs)):∃j,ObjM h a F C j/\(∀f,RelO (fs.lookup f) (j f))/\PySem.Within j (fs.map (·.1))/\fs.length<=1000/\H F=da (.own a):=by
 obtain⟨d,z,J,I,j,n,r,q⟩:=(show ee P w H h a (.ins C F fs)from y a _ e);exact⟨j,⟨I,n,J⟩,r,q,z,d⟩

structure kC (K:Eb)(C:Ca):Prop where
 pg:OJ K C Str.empty=ma
 hd:PySem.W.hasDictIn K C=ma
 po:PySem.W.plainOver K C=ma
 sa:aB K (.ref C) "__setattr__" = da (da (.builtin "object.__setattr__"))
def kC.get  {K:Eb}(c:kC K C) f:OJ K C f=ma:=c.pg
structure Con (K:Eb)(C:Ca)(f:Str)(v:V)(u:Da):Prop where
 at_:aB K (.ref C) f=da (da u)
 rel:RelV v u
 get:WJ K u "__get__" = da Aa
 cp:PySem.W.copiedNames.contains f=ua




section
variable {X:Cx}{pins:List (Ca×Obj)}{σ:St}{H:Hp}{s:Fa}{A:ac}{E:Da->Fa->Prop}{Q:Da->Fa->Prop}{c:Da}{b:Bool}
inductive TyOf (K:Eb)(H:Hp):V->Da->Prop where
 |non:TyOf K H .non (.type "NoneType")
 |bl (x:Bool):TyOf K H (.bl x) (.type "bool")
 |int (i:Int):TyOf K H (.int i) (.type "int")
 |str (x:Str):TyOf K H (.str x) (.type "str")
 |flt (x:UInt64):TyOf K H (.flt x) (.type "float")
 |lst {a:Ca} {xs:List V} (e:H a=da (.lst xs)):TyOf K H (.ref a) (.type "list")
 |frz {a:Ca} {o:Obj} {xs:List V} (e:H a=da (.frz o (.lst xs))):TyOf K H (.ref a) (.type "list")
 |tup {a:Ca} {xs:List V} (e:H a=da (.tup xs)):TyOf K H (.ref a) (.type "tuple")
 |dK {a:Ca} {kvs:List (Wb×V)} (e:H a=da (.dK kvs)):TyOf K H (.ref a) (.type "dict")
 |dT {a:Ca} {kvs:List (List Wb×V)} (e:H a=da (.dT kvs)):TyOf K H (.ref a) (.type "dict")
 |ins {a C dx:Ca} {fs:List (Str×V)} (e:H a=da (.ins C dx fs)) (cl:kC K C) (ha:aB K (.ref C) "__class__" = da (da (.builtin "object.__class__")))
   (hn:WJ K (.builtin "object.__class__") "__get__" = da (da (.builtin "getset_descriptor.__get__"))) (htk:PySem.W.takesIn K (.builtin "object.__class__")=da ma)
   (hm:PySem.W.mroIn K C (.type "object")=da ma):TyOf K H (.ref a) (.ref C)
def NU    (I:Pa X pins σ H s)(F:RelV x u)(ty:TyOf X.K H x t)(e:gw X.K t c=da b)(h:∀tk,Q (.bool b) { s with toks:=tk }) :
  wpAny (Ja X.prog X.w) A (call (.builtin "isinstance") [u,c]) Q E s:=by
 cases ty with
 |non=>cases(show u=Yd from F);exact Di PySem.W.kitx_none I.kIn Ei e (λz=>nomatch z) h
 |bl y=>cases(show u=Wv y from F);exact Di PySem.W.kitx_bool I.kIn Ei e (λz=>nomatch z) h
 |int i=>obtain⟨t,q⟩:=(show ∃t,u=Nq i t from F);cases q;exact Di PySem.W.kitx_int I.kIn Ei e (λz=>nomatch z) h
 |str y=>obtain⟨t,q⟩:=(show ∃t,u=Oq y t from F);cases q;exact Di PySem.W.kitx_str I.kIn Ei e (λz=>nomatch z) h
 |flt y=>obtain⟨t,q⟩:=(show ∃t,u=Da.float y t from F);cases q;exact Di PySem.W.kitx_float I.kIn Ei e (λz=>nomatch z) h
 |@lst a Z j=>
  cases(show u=Bg a from F);obtain⟨_,_,n,_,R⟩:=(show ee X.prog X.w H s.heap a (.lst Z)from I.hok a _ j);exact Di VJ I.kIn ⟨_,R,rfl⟩ e (λz=>nomatch z) h
 |@frz a ob Z j=>
  cases(show u=Bg a from F);obtain⟨_,_,_,n,_,R⟩:=(show ee X.prog X.w H s.heap a (.frz ob (.lst Z))from I.hok a _ j);exact Di VJ I.kIn ⟨_,R,rfl⟩ e (λz=>nomatch z) h
 |@tup a Z j=>
  cases(show u=Bg a from F);obtain⟨_,_,_,p⟩:=(show ee X.prog X.w H s.heap a (.tup Z)from I.hok a _ j);obtain⟨o,R,h2,_⟩:=p;exact Di PySem.W.kitx_tuple I.kIn ⟨o,R,h2⟩ e (λz=>nomatch z) h
 |@dK a Y j=>
  cases(show u=Bg a from F);obtain⟨_,_,vs,_,p⟩:=(show ee X.prog X.w H s.heap a (.dK Y)from I.hok a _ j);obtain⟨o,es,ep,R,h2,_⟩:=p;exact Di UJ I.kIn ⟨o,R,h2.1⟩ e (λz=>nomatch z) h
 |@dT a Y j=>
  cases(show u=Bg a from F);obtain⟨_,_,Z,_,o,es,ep,R,h2,_⟩:=(show ee X.prog X.w H s.heap a (.dT Y)from I.hok a _ j);exact Di UJ I.kIn ⟨o,R,h2.1⟩ e (λz=>nomatch z) h
 |@ins a C dx fs j cl ha hn xa hm=>
  cases(show u=Bg a from F);obtain⟨mA,O,_⟩:=fR I.hok j;obtain⟨od,J,_⟩:=O.look;exact Di (PySem.W.kitx_own (cl.get _) cl.hd ha hn xa hm) I.kIn J e (λz=>nomatch z) h
end

structure Room (k:Nat)(A:ac):Prop where
 hd:A.handled=Aa
 dp:A.depth+k+20<recursionLimit
 un:A.units+8*k+200<Sb
 gd:A.guards=da []
def Room.mono    (r:Room k A)(h:j<=k):Room j A:=⟨r.hd,by have:=r.dp;lia,by have:=r.un;lia,r.gd⟩
def Room.deeper    (r:Room (k+1) A) env:Room k (A.deeper env):=
 ⟨r.hd,by have:=r.dp;show A.depth+1+k+20<_;lia,by have:=r.un;show A.units+3+8*k+200<_;lia,r.gd⟩
def Room.depth    (r:Room k A):A.depth<recursionLimit:=by have:=r.dp;lia
def Room.units    (r:Room k A):A.units+64<Sb:=by have:=r.un;lia
def Room.units0    (r:Room k A):A.units<Sb:=by have:=r.un;lia

def tNil  : TA:=λ_ H Q=>Q [] H
def cq  (y:TE)(tr:TA):TA:=λj H Q=>y j H λx F=>tr j F λq z=>Q (x::q) z
section
variable {X:Cx}{e:Na}{es:List Na}{te:TE}{t:TA}{pos:Pos}
def KD  : PA X [] tNil:=λ_ _ _ _ H Q I h=>Calls.spliced_nil ⟨[],H,I,.nil,h⟩
def tq (J:PE X e te)(Y:PA X es t)(hs:Uc (e::es) X.env=(ua,Lb e X.env)::Uc es X.env:=by rfl):PA X (e::es) (cq te t):=by
 intro q j s y H Q I h;rw[hs];show wpAny _ _ (spliced ((ua,Lb e X.env)::Jc q (Uc es X.env))) _ _ s;refine Calls.spliced_cons (Pb (J j s y H _ I h) λu s1 ⟨x,Z,R,r1,q1⟩=>?_);exact Pb (Y q j s1 y Z _ R q1) λus s2 ⟨z,O,F,r2,q2⟩=>⟨x::z,O,F,.cons r1 r2,q2⟩

def tTup  (t:TA):TE:=λy H Q=>t y H λj q=>j.length<=db/\∀p,q p=Aa->Q (.ref p) (upd q p (.tup j))
def tLst  (t:TA):TE:=λy H Q=>t y H λj q=>j.length<=db/\∀p,q p=Aa->Q (.ref p) (upd q p (.lst j))
def WP   (h:PA X es t):PE X (.Tuple es x1 pos) (tTup t):=by
 intro j s R H Q I Y;refine wpAny_Tuple_spliced (Pb (h pos j s R H _ I Y) λZ s1 ⟨J,F,y,r,z,q⟩=>⟨by rw[<- r.length];exact z,?_⟩)
 have O:F s1.heap.objs.size=Aa:=y.hok.fresh (Jb _);refine⟨.ref s1.heap.objs.size,upd F s1.heap.objs.size (.tup J),y.laid (t':=s1.toks) (λb u e=>Ac _ e) (Jb _) ?_,rfl,q _ O⟩;exact⟨z,Z,r,⟨_,Fe _ rfl,rfl,_,rfl,rfl⟩⟩
def QP  (h:PA X es t):PE X (.List es pos) (tLst t):=by
 intro j s R H Q I Y;refine wpAny_List_spliced (Pb (h pos j s R H _ I Y) λZ s1 ⟨J,F,y,r,z,q⟩=>⟨by rw[<- r.length];exact z,?_⟩)
 have O:F s1.heap.objs.size=Aa:=y.hok.fresh (Jb _);refine⟨.ref s1.heap.objs.size,upd F s1.heap.objs.size (.lst J),y.laid (t':=s1.toks) (λb u e=>Ac _ e) (Jb _) ?_,rfl,q _ O⟩;exact⟨z,Z,0,r,Fe _ rfl⟩
end

abbrev Sp:=List V->Hp->VK->XK->Prop
abbrev bp:=List Env->Hp->Fa->XK->Da->Fa->Prop

structure Env0 (P:Nb)(w:Bb)(K:Eb)(mg:Str->Option Da)(base:Wa)(A:ac)(outer:List Env)(s:Fa)(H:Hp):Prop where
 frames:A.frames=da outer
 mod:Mod K mg base
 bs:∀b o,base.get? b=da o->s.heap.get? b=da o/\H b=Aa
 bsz:base.objs.size<=s.heap.objs.size
 funs:s.heap.FunFrames base outer
 frf:∀b∈Ef outer,H b=Aa
 hok:Qd P w H s.heap
 bare:ue s.gens
def CE  (outer:List Env)(P:Nb)(w:Bb)(H:Hp)(s:Fa)(Q:VK)(u:Da)(s':Fa):Prop:=
 ∃v j,s'.os=s.os/\ue s'.gens/\Un (Ef outer) [] H j s.heap s'.heap/\Qd P w j s'.heap/\RelV v u/\Q v j
def CR  (CX:bp)(outer:List Env)(P:Nb)(w:Bb)(H:Hp)(s:Fa)(Q:VK)(E:XK)(r:Result)(s':Fa):Prop:=
 match r with
 |.ok (.ret u)=>CE outer P w H s Q u s'
 |.ok _=>False
 |.error e=>CX outer H s E e s'
structure FnOk (P:Nb)(w:Bb)(K:Eb)(mg:Str->Option Da)(base:Wa)(CX:bp)(k:Nat)(f:Ca)(fd:vo)(ps:List Str)(sp:Sp):Prop where
 len:∀vs H Q E,sp vs H Q E->vs.length=ps.length
 run:∀(A:ac) (outer:List Env) (s:Fa) (H:Hp) (args:Args) (us:List Da) (vs:List V) (Q:VK) (E:XK),Room k A->Env0 P w K mg base A outer s H->se s fd args (ps.zip us)->Vals vs us->sp vs H Q E->
  codeAny (Ja P w) A (.call (.ref f) args) (CR CX outer P w H s Q E) s

def Pa.env0  {j: St}(I:Pa X pins j H s):Env0 X.prog X.w X.K X.mg X.base X.A X.stack s H:=
 ⟨I.ok.frames,I.ok.mod,I.bs,Rb I.ok.bsz I.sz,I.stack,I.stkFree,I.hok,I.bare⟩
def Pa.after  {F: St}(I:Pa X pins F H s)(h:CE X.stack X.prog X.w H s Q u s'):EP X pins F Q u s':=by
 obtain⟨v,O,R,bare,un,j,r,q⟩:=h;obtain⟨J,g,d,t,y⟩:=s';obtain rfl:y=s.os:=R;exact⟨v,O,I.call (h':=J) (g':=g) (d':=d) (t':=t) (ch:=[]) un j bare (λb z=>absurd z (by simp)),r,q⟩

def Binds  (K:Eb)(fd:vo)(ps:List Str)(j:List Da):Prop:=
 ∀(s:Fa) (us:List Da),K.In s.heap->(us++j).length=ps.length->se s fd ⟨us,[]⟩ (ps.zip (us++j))
def Binds.all  {K:Eb}(h:∀us ,us.length=ps.length->Fq fd ⟨us,[]⟩=pure (ps.zip us)):Binds K fd ps []:=λs us _ j=>by
 rw[Sh]at j ⊢;exact .of_eq (h us j)





structure FnScope (N P:List Str)(sc:Rc):Prop where
 kind:sc.kind=.function
 co:sc.isCoroutine=ua
 gen:sc.isGenerator=ua
 nd:N.Nodup
 pre:N.take P.length=P
 par:∀x∈P,sc.names.lookup x=da .local\/sc.names.lookup x=da .cell
 nofree:∀y∈sc.names,y.2≠.free

theorem mG  {kindOf:Str->Option Mf}:∀{binds } {m },(∀v,(x,v)∉binds)->Ji kindOf binds m x=m x
 |[],_,_=>rfl
 |(n,v)::r,m,h=>by
  unfold Ji;rw[mG λw j=>h w (Oc _ j)];split
  ·have:x≠n:=by rintro rfl;exact h v Re
   simp[this]
  ·rfl
theorem jG  {kindOf:Str->Option Mf}:∀{binds } {m },(∀v,(x,v)∉binds)->Ki kindOf binds m x=m x
 |[],_,_=>rfl
 |(n,v)::r,m,h=>by
  unfold Ki;rw[jG λw j=>h w (Oc _ j)];split
  ·rfl
  ·have:x≠n:=by rintro rfl;exact h v Re
   simp[this]
theorem kG  {kindOf:Str->Option Mf}:∀{P:List Str} {vs } {i:Nat} {m },P.Nodup->P[i]?=da x->vs[i]?=da v->kindOf x=da .local->
  Ji kindOf (P.zip vs) m x=da v
 |[],_,_,_,_,h,_,_=>by simp at h
 |_::_,[],_,_,_,_,h,_=>by simp at h
 |p::P,w::vs,0,m,nd,h1,h2,hk=>by
  simp at h1 h2;subst h1;subst h2;show Ji kindOf ((p,w)::P.zip vs) m p=_;unfold Ji;rw[mG λv j=>(Za.mp nd).1 (br j).1,if_pos hk];simp
 |p::P,w::vs,i+1,m,nd,h1,h2,hk=>by
  show Ji kindOf ((p,w)::P.zip vs) m x=_;unfold Ji;exact kG (i:=i) (Za.mp nd).2 (by simpa using h1) (by simpa using h2) hk
theorem iG  {kindOf:Str->Option Mf}:∀{P:List Str} {vs } {i:Nat} {m },P.Nodup->P[i]?=da x->vs[i]?=da v->kindOf x≠da .local->
  Ki kindOf (P.zip vs) m x=da v
 |[],_,_,_,_,h,_,_=>by simp at h
 |_::_,[],_,_,_,_,h,_=>by simp at h
 |p::P,w::vs,0,m,nd,h1,h2,hk=>by
  simp at h1 h2;subst h1;subst h2;show Ki kindOf ((p,w)::P.zip vs) m p=_;unfold Ki;rw[jG λv j=>(Za.mp nd).1 (br j).1,if_neg hk];simp
 |p::P,w::vs,i+1,m,nd,h1,h2,hk=>by
  show Ki kindOf ((p,w)::P.zip vs) m x=_;unfold Ki;exact iG (i:=i) (Za.mp nd).2 (by simpa using h1) (by simpa using h2) hk

noncomputable def start  (N:List Str)(vs:List V):St:=vs.map da++Db (N.length-vs.length) Aa

noncomputable def cxOf  (CX:bp)(P:Nb)(w:Bb)(K:Eb)(mg:Str->Option Da)(base:Wa)(N:List Str)(qual:Str)(scope:Rc)(f:Ca)(cd:Da)(A:ac)(outer:List Env)(s:Fa)(H:Hp)(E:XK):Cx where
 prog:=P
 w:=w
 K:=K
 mg:=mg
 base:=base
 A:=A.deeper (Kd qual scope s.heap.objs.size f cd)
 N:=N
 s₀:=s
 H₀:=H
 env:=Kd qual scope s.heap.objs.size f cd
 outer:=outer
 stack:=Kd qual scope s.heap.objs.size f cd::outer
 ex:=[]
 calm:=ma
 fn:=λ_=>ma
 pn:=[]
 xe:=λe y=>wpAny (Ja P w) (A.deeper (Kd qual scope s.heap.objs.size f cd)) (Sf (Kd qual scope s.heap.objs.size f cd) e) (λ_ j=>CX outer H s E e j) (λq j=>CX outer H s E q j) y

def tz  {sc:Rc}(h:sc.names.lookup x=da .cell):∃c,(Nf n sc.names []).lookup x=da c:=by
 have q:=RB sc.names n [] (.inl h);exact Vc.mp q

def YF     {K:Eb} 
  (S:FnScope N ps scope) (hd:A.handled=Aa) (e0:Env0 P w K mg base A outer s H) (hl:vs.length=ps.length) (r:Vals vs us)
  (x:InCallC s s.heap.objs.size (Ji (Kd qual scope s.heap.objs.size f cd).kindOf (ps.zip us) λ_=>Aa) (Nf (s.heap.objs.size+1) scope.names []) (Ki (Kd qual scope s.heap.objs.size f cd).kindOf (ps.zip us) λ_=>Aa) s1) :
  Pa (cxOf CX P w K mg base N qual scope f cd A outer s H E) [] (start N vs) H s1:=by
 have Z:ps.length<=N.length:=by have:=congrArg Uv S.pre;rw[Tk]at this;lia
 obtain⟨Y,tk,rfl,hk⟩:=x.done;have F:∀b:Ca,b∉(cxOf CX P w K mg base N qual scope f cd A outer s H E).ex:=λb z=>absurd (show b∈([]:List Ca)from z) (by simp)
 refine⟨⟨e0.mod,S.kind,rfl,rfl,Jb _,λy z c Y j=>?_,λy I=>?_,λy c _ h=>?_,λ_=>hd,jL e0.frames,.inr ⟨rfl,rfl⟩,λb z=>absurd z (F b),e0.bs,e0.bsz,λb _ _=>F b,λb z=>absurd z (F b),e0.funs,e0.frf⟩,
  rfl,e0.bare,Un.kept hk,⟨_,x.toInCall.ns,λi y v Y j h3=>?_⟩,λy c h=>⟨_,x.cell y c h⟩,e0.hok.fresh (Jb _),λy c h=>?_,λp O=>absurd (show p∈([]:List (Ca×Obj))from O) (by simp),e0.hok.kept hk,?_⟩
 ·exact name_of_addr x.apart (fg Y) (fg j)
 ·have I:scope.names.lookup y=da .cell\/scope.names.lookup y=da .free:=I;rcases I with I|I
  ·exact tz I
  ·exact absurd rfl (S.nofree _ (fg I))
 ·exact Yi (x.above y c (fg h))
 ·have R:i<vs.length:=by
   unfold start at j;by_cases R:i<vs.length
   ·exact R
   ·rw[Bn (by simpa using R)]at j
    rw[Ew]at j;split at j<;>cases j
  have ha:vs[i]?=da v:=by
   unfold start at j;rw[Pg (by simpa using R),md]at j
   cases e:vs[i]? with
   |none=>rw[e]at j;cases j
   |some a=>rw[e]at j;cases j;rfl
  obtain⟨u,hu,rv⟩:=r.get ha;have O:ps[i]?=da y:=by
   rw[<- S.pre,QK (by lia)];exact Y
  have J:ps.Nodup:=by rw[<- S.pre];exact S.nd.sublist (Mw _ _)
  refine⟨u,rv,?_⟩;rcases S.par y (Pd O)with k|k
  ·exact .inl ⟨k,kG J O hu k⟩
  ·obtain⟨c,e⟩:=tz (n:=s.heap.objs.size+1) k;refine .inr ⟨.inl k,c,e,?_⟩;have q:=x.cell y c e;rw[iG J O hu (by show scope.names.lookup y≠_;rw[k];decide)]at q
   exact q
 ·exact e0.hok.fresh (Yi (x.above y c (fg h)))
 ·unfold start;show _=N.length;rw[gg,Ab,aL]
  lia

def yM     {K : Eb}{dV kV Z pm j ct oc : Da} 
       (lk : K.lookup f = da ⟨oc, od, .func (Lj name qual params body scope dV kV Z pm an j ct), ya⟩) (za : Wq K j qual = ma) (S : FnScope N ps scope)
    (len : ∀ vs H Q E, sp vs H Q E -> vs.length = ps.length)
    (F : ∀ (A : ac) outer (s : Fa) H (vs : List V) Q E , Room k (A.deeper (Kd qual scope s.heap.objs.size f j)) -> sp vs H Q E ->
      ∃ t, Be (cxOf CX P w K mg base N qual scope f j A outer s H E) body t /\ t { nx := λ_ H' => Q .non H', rt := Q } (start N vs) H) :
    FnOk P w K mg base CX (k + 1) f (Lj name qual params body scope dV kV Z pm an j ct) ps sp := by
  refine ⟨len, λA outer s H va us vs Q E hr e0 hb r Y => ?_⟩
  have hl := len _ _ _ _ Y
  have KX : K.In s.heap := e0.mod.kin.keeps λb o e => (e0.bs b o e).1
  have ja : s.heap.NoLimit := e0.mod.nolimit.keeps λb o e => (e0.bs b o e).1
  have O : ∀ y ∈ ps.zip us, scope.names.lookup y.1 = da .local \/ (scope.names.lookup y.1 = da .cell /\ ((Nf (s.heap.objs.size + 1) scope.names []).lookup y.1).isSome = ma) := λ⟨n, v⟩ hy => by
    rcases S.par n (br hy).1 with q | q
    · exact .inl q
    · exact .inr ⟨q, RB _ _ _ (.inl q)⟩
  refine JJ hr.depth (KX _ _ lk) rfl S.co S.gen rfl (fL KX za) (hb _ _ _ _ ?_)
  refine iL S.kind O λwa he s1 x => ?_
  subst he
  refine ⟨ja.keeps x.toInCall.keep, codeAny_func ?_⟩
  obtain ⟨t, ht, hq⟩ := F A outer s H vs Q E (hr.deeper _) Y
  have I : Pa (cxOf CX P w K mg base N qual scope f j A outer s H E) [] (start N vs) H s1 := YF S hr.hd e0 hl r x
  refine Zf (ht [] s1 (start N vs) H _ I hq) (λfl s' R => ?_) λe s' R => R
  have xa : ∀ {z : St} {H' : Hp} {v : V} {u : Da}, Pa (cxOf CX P w K mg base N qual scope f j A outer s H E) [] z H' s' -> RelV v u -> Q v H' -> CE outer P w H s Q u s' :=
    λ{z H' v u} J rv q => ⟨v, H', J.os, J.bare, J.base, J.hok, rv, q⟩
  cases fl with
  | ret u =>
    obtain ⟨v, z, H', J, rv, q⟩ := R
    exact xa J rv q
  | next =>
    obtain ⟨z, H', J, q⟩ := R
    exact xa (v := V.non) (u := Yd) J rfl q
  | brk =>
    obtain ⟨_, _, _, q⟩ := R
    exact Rh q
  | cont =>
    obtain ⟨_, _, _, q⟩ := R
    exact Rh q
section
variable {X:Cx}{x:Str}{p pos:Pos}{e:Na}{es:List Na}{t:TA}{id T:String}{r:List V->Hp->VK->Prop}

def ux  (r:List V->Hp->VK->Prop)(t:TA):TE:=λq H Q=>t q H λj y=>r j y Q
def MT (hc:rf X (.builtin id) r)(hg:Gl X x)(J:X.mg x=Aa)(O:Pj x=da (.builtin id))(ha:PA X (e::es) t)(hn:x ≠ "__name__" := by decide)(y:(x==("__debug__" : Str))=ua:=by decide)
  (R:Uc (e::es) X.env=(ua,Lb e X.env)::Uc es X.env:=by rfl) (q:(Jc pos (Uc es X.env)).any (·.1)=ua:=by rfl):PE X (.Call (.Name x p) (e::es) [] pos) (ux r t):=by
 intro j s z H Q I h;refine No (gq I hg J O ?_ hn y);exact PyProof.Rows.callWith_builtin1 (Pb (ha pos j s z H _ I h) λZ s1 ⟨Y,F,I1,r1,q1⟩=>hc j s1 z F Y Z Q I1 r1 q1) R q
def uv (hc:rf X (.type T) r)(hg:Gl X x)(J:X.mg x=Aa)(O:Pj x=da (.type T))(ha:PA X (e::es) t)(hn:x ≠ "__name__" := by decide)(y:(x==("__debug__" : Str))=ua:=by decide)
  (R:Uc (e::es) X.env=(ua,Lb e X.env)::Uc es X.env:=by rfl) (q:(Jc pos (Uc es X.env)).any (·.1)=ua:=by rfl):PE X (.Call (.Name x p) (e::es) [] pos) (ux r t):=by
 intro j s z H Q I h;refine No (gq I hg J O ?_ hn y);exact QB (Pb (ha pos j s z H _ I h) λZ s1 ⟨Y,F,I1,r1,q1⟩=>hc j s1 z F Y Z Q I1 r1 q1) R q
end
end L2

namespace HT
open PySem PyProof.Rows

noncomputable def lexLt  : List Int->List Int->Bool
 |[],[]=>ua
 |[],_::_=>ma
 |_::_,[]=>ua
 |x::xs,y::ys=>if x=y then lexLt xs ys else decide (x<y)
def lexLt_cons   x y xs ys:lexLt (x::xs) (y::ys)=if x=y then lexLt xs ys else decide (x<y):=rfl
def lexLt_nil_nil  : lexLt [] []=ua:=rfl
def lexLt_nil_cons   y ys:lexLt [] (y::ys)=ma:=rfl
def lexLt_cons_nil   x xs:lexLt (x::xs) []=ua:=rfl

def eqAt_int   A s a (t:Tok) c u:∃e,Xf A s (.int a t) (.int c u) e/\(e=ma↔a=c):=
 ⟨(a==c),TK a t c u,by simp⟩
def rcLt_int   A s a t c u prog w E Q (h:Q (.bool (decide (a<c))) s) :
  wpAny (Ja prog w) A (richCompare .Lt (.int a t) (.int c u)) Q E s:=
 (PyProof.Rows.lt_int h:wpAny (Ja prog w) A (Ed .Lt (.int a t) (.int c u)) Q E s)

section
open PySem.SeqAt
open PySem.AutoSeq1 (wpAny_loadPart')
open PySem.MeetsSeq PySem.MeetsSeq2 PySem.MeetsSeq3

end

section
variable {prog:Nb}{w:Bb}{A:ac}{E:Da->Fa->Prop}{s:Fa}

def cat_tup     (ht:Li s.heap t vs.toArray)(hb:Li s.heap b ws.toArray)(hv:vs≠[])
  (h1:ws=[]->Q (.ref t) s) (h2:ws≠[]->Q (.ref s.heap.objs.size) { s with heap:=s.heap.push { cls:=.type "tuple",data:=.seq (vs++ws).toArray } })
  (hsz:vs.length+ws.length<=db):wpAny (Ja prog w) A (Pe .Add (.ref t) (.ref b)) Q E s:=by
 obtain⟨⟨cls,Y,data,R⟩,I,hc,n,hd⟩:=id ht;obtain⟨⟨Z,z,O,q⟩,j,F,n2,y⟩:=id hb;simp only at hc hd F y;subst hc hd F y;have e:vs.toArray++ws.toArray=(vs++ws).toArray:=by simp
 by_cases J:ws=[]
 ·exact vA ⟨_,I,rfl⟩ ⟨_,j,rfl⟩ jB NA YB SB (TB _ _)
   (tuple_addW1 t b vs.toArray ws.toArray n n2 Y z R q (by simpa using hv) (by simp[J])) ⟨I,j,h1 J⟩
 ·refine vA ⟨_,I,rfl⟩ ⟨_,j,rfl⟩ jB NA YB SB (TB _ _)
   (tuple_addW2 t b vs.toArray ws.toArray n n2 Y z R q (by simpa using hv) (by simpa using J) (by rw[Zc,Zc];exact hsz)) ⟨I,j,?_⟩
  rw[e];exact h2 J

noncomputable def sIx  (n d:Nat):Option Int->Nat
 |none=>d
 |some v=>if v<0 then (v+(n:Int)).toNat else min v.toNat n
def sIx_none   n d:sIx n d Aa=d:=rfl
def sIx_nat  (n d k:Nat):sIx n d (da (k:Int))=min k n:=by
 show(if (k:Int)<0 then ((k:Int)+(n:Int)).toNat else min (k:Int).toNat n)=min k n
 rw[if_neg (by lia),zn]
def oP   n d (hd:d<=n) o:sIx n d o<=n:=by
 cases o with
 |none=>exact hd
 |some v=>
  show(if v<0 then (v+(n:Int)).toNat else min v.toNat n)<=n
  by_cases j:v<0
  ·rw[if_pos j];lia
  ·rw[if_neg j];exact Nat.min_le_right _ _
def fE   v (n d:Nat):(if v<0 then max (v+(n:Int)) 0 else min v (n:Int))=((sIx n d (da v):Nat):Int):=by
 show(if v<0 then max (v+(n:Int)) 0 else min v (n:Int))=(((if v<0 then (v+(n:Int)).toNat else min v.toNat n):Nat):Int)
 by_cases j:v<0
 ·simp only[if_pos j];lia
 ·simp only[if_neg j];lia
def xV   j q (n:Nat):lr j q 1 (n:Int)=(((sIx n 0 j:Nat):Int),((sIx n n q:Nat):Int)):=by
 have y:¬((1:Int)<0):=by lia
 unfold lr;simp only[y,if_false];refine Jk ?_ ?_
 ·cases j with
  |none=>rfl
  |some v=>exact fE v n 0
 ·cases q with
  |none=>rfl
  |some v=>exact fE v n n
def lV  (i j:Nat):Xk (i:Int) (j:Int) 1=j-i:=by
 unfold Xk;have q:(1:Int)>0:=by lia
 simp only[q,if_true,AA];split<;>lia
def wq     (p:Oe v o)(h:Q o s):wpAny (Ja prog w) A (Fb.Slice.slicePartIndex v) Q E s:=by
 cases p with
 |none=>exact slicePart_none h
 |int i t=>exact slicePart_int h
def cJ    {j z:Option Int}{n:Nat}(hs:s.heap.IsSliceOf J F I .none)(R:Oe F j)(Y:Oe I z)
  (h:Q (((sIx n 0 j:Nat):Int),1,sIx n n z-sIx n 0 j) s):wpAny (Ja prog w) A (Ww (.ref J) (pure (n:Int))) Q E s:=by
 obtain⟨Z,q,O,y⟩:=id hs;unfold Ww tL;refine ub (ub (Zi q y (x:=F) rfl (ub (Zi q y (x:=I) rfl (ub (Zi q y (x:=.none) rfl (uc ?_)))))));refine ub (slicePart_none ?_);show wpAny _ _ (if ((1:Int)==0)=ma then _ else _) _ _ s
 rw[if_neg (by decide)]
 refine ub (wq R (ub (wq Y (ub (uc ?_)))));show wpAny _ _ (match lr j z 1 (n:Int)with|(j,z)=>pure (j,(1:Int),Xk j z 1)) _ _ s
 rw[xV j z n];show wpAny _ _ (pure (((sIx n 0 j:Nat):Int),(1:Int),Xk ((sIx n 0 j:Nat):Int) ((sIx n n z:Nat):Int) 1)) _ _ s;rw[lV];exact uc h
def XT  (xs:Array Da)(i k:Nat):((Ge k).filterMap λ(m:Nat)=>xs[((i:Int)+(m:Int)*1).toNat]?).toArray=((xs.toList.drop i).take k).toArray:=by
 have e:(λ(m:Nat)=>xs[((i:Int)+(m:Int)*1).toNat]?)=λm=>xs[i+m]?:=by
  funext m;have:((i:Int)+(m:Int)*1).toNat=i+m:=by lia
  rw[this]
 rw[e];have:=pick_run xs i k;rw[fK]at this;have j:((λx=>xs[x]?) ∘ λx=>i+x)=λm=>xs[i+m]?:=rfl;rw[j]at this;rw[this]

def getItem_tuple_cut     {y z:Option Int}(F:Li s.heap t items)(hs:s.heap.IsSliceOf Y Z vu .none)(pl:Oe Z y)(pu:Oe vu z)
  (hw:¬(sIx items.size 0 y=0/\sIx items.size items.size z=items.size))
  (h:Q (.ref s.heap.objs.size) { s with heap:=s.heap.push { cls:=.type "tuple",data:=.seq ((items.toList.drop (sIx items.size 0 y)).take (sIx items.size items.size z-sIx items.size 0 y)).toArray } })
  (hsz:items.size<=db):wpAny (Ja prog w) A (Xc (.ref t) (.ref Y)) Q E s:=by
 have j:sizeOk (.seq ((items.toList.drop (sIx items.size 0 y)).take (sIx items.size items.size z-sIx items.size 0 y)).toArray):=by
  show((items.toList.drop (sIx items.size 0 y)).take (sIx items.size items.size z-sIx items.size 0 y)).toArray.size<=db;rw[Zc,Tk,EJ,vn]
  lia
 have hj:sIx items.size items.size z<=items.size:=oP _ _ (Jb _) z;obtain⟨os,J,R,xa⟩:=id hs;have O:s.TypeIs (.ref Y) "slice" := ⟨os,J,R⟩;unfold Xc
 try with_reducible refine Nj ?_
 first|refine ub (uc ?_)|skip
 refine ub (VA F.typeIs (by decide) ?_)
 refine ub (Aw (name:=Kj "__getitem__") F.typeIs Sj
  (Fo Sj F.typeIs JB ?_ (NB _ _)))
 show wpAny _ _ (PB (.ref t) >>= _) _ _ s;refine ub (QA F ?_);refine ub (Yv O ?_);rw[if_pos (by decide)]
 refine ub (cJ hs pl pu ?_);have I:¬((((sIx items.size 0 y:Nat):Int)==0&&(1:Int)==1&&(sIx items.size items.size z-sIx items.size 0 y)==items.size)=ma):=by
  intro q;rw[Qe,Qe]at q;have q1:((sIx items.size 0 y:Nat):Int)=0:=eq_of_beq q.1.1;have q2:sIx items.size items.size z-sIx items.size 0 y=items.size:=eq_of_beq q.2;exact hw ⟨by lia,by lia⟩
 show wpAny _ _ (if (((sIx items.size 0 y:Nat):Int)==0&&(1:Int)==1&&(sIx items.size items.size z-sIx items.size 0 y)==items.size)=ma then _ else _) _ _ s
 rw[if_neg I,XT]
 first
  |exact ub (m:=Zk _) (Th (uc ⟨_,rfl,uc h⟩) j)
  |exact ub (m:=Zk _) (Th (ub (uc (uc ⟨_,rfl,uc h⟩))) j)
  |exact ub (ub (m:=Zk _) (Th (uc (uc ⟨_,rfl,uc h⟩)) j))
  |exact ub (ub (m:=Zk _) (Th (uc ⟨_,rfl,uc h⟩) j))
end
end HT

namespace L2
open PySem PySem.Spec PyProof.Rows

abbrev TO:=St->Hp->(Option Int->Hp->Prop)->Prop
def PO  (X:Cx)(e:Option Na)(t:TO):Prop:=
 ∀(j:List (Ca×Obj)) (s:Fa) (σ:St) (H:Hp) (Q:Option Int->Hp->Prop),Pa X j σ H s->t σ H Q->
  wpAny (Ja X.prog X.w) X.A (evalPart e X.env) (λu y=>∃o q,Pa X j σ q y/\Oe u o/\Q o q) X.xe s
def FR  : TO:=λ_ H Q=>Q Aa H
def PM  (t:TE):TO:=λj H Q=>t j H λx q=>∃i,x=.int i/\Q (da i) q


def qS  : PO X Aa FR:=by
 intro j s q H Q I h;rw[JA];exact uc ⟨Aa,H,I,.none,h⟩
def rS  (h:PE X e te):PO X (da e) (PM te):=by
 intro j s y H Q I z;rw[evalPart_some];refine Pb (h j s y H _ I z) λu s1 ⟨x,J,F,r1,q1⟩=>?_;obtain⟨i,rfl,q⟩:=q1;obtain⟨t,rfl⟩:=r1;exact⟨da i,J,F,.int i t,q⟩

def Eh  (X:Cx)(r:V->Option Int->Option Int->Hp->VK->Prop):Prop:=
 ∀(j:List (Ca×Obj)) (s:Fa) (σ:St) (H:Hp) (x:V) (v vl vu:Da) (lo hi:Option Int) (sl:Ca) (Q:VK),Pa X j σ H s->RelV x v->s.heap.IsSliceOf sl vl vu .none->Oe vl lo->Oe vu hi->r x lo hi H Q->
  ∃T q,typeLookup (.type T) "__getitem__" = pure (da (.builtin q))/\s.TypeIs v T/\wpAny (Ja X.prog X.w) X.A (Xc v (.ref sl)) (EP X j σ Q) X.xe s
def Eh.or   (h:Eh X r)(h':Eh X r'):Eh X (λx F y H Q=>r x F y H Q\/r' x F y H Q):=by
 intro j s O H x v R Y F y J Q I rx Z pl pu q;rcases q with q|q
 ·exact h j s O H x v R Y F y J Q I rx Z pl pu q
 ·exact h' j s O H x v R Y F y J Q I rx Z pl pu q
def KL  (r:V->Option Int->Option Int->Hp->VK->Prop)(I:TE)(y F:TO):TE:=λj H Q=>I j H λx J=>y j J λl z=>F j z λu q=>r x l u q Q
def RT  {O: Option Na}(hr:Eh X r)(he:PE X e te)(hl:PO X O tl)(hu:PO X Y th):PE X (.Subscript e (.Slice O Y Aa p2) pos) (KL r te tl th):=by
 intro j s z H Q I h;refine Cp (Pb (he j s z H _ I h) λv s1 ⟨x,H1,I1,r1,q1⟩=>?_);refine wpAny_Slice (Pb (hl j s1 z H1 _ I1 q1) λJ s2 ⟨l,Z,I2,pl,q2⟩=>Pb (hu j s2 z Z _ I2 q2) λF y ⟨u,R,I3,pu,q3⟩=>?_);rw[JA];refine uc ?_;have I4:Pa X j z R { y with heap:=y.heap.push { cls:=.type "slice",data:=.fields #[J,F,.none] } }:=I3.kept (t':=y.toks) λb ob q=>Ac _ q
 obtain⟨T,id,hT,ht,hg⟩:=hr j { y with heap:=y.heap.push { cls:=.type "slice",data:=.fields #[J,F,.none] } } z R x v J F l u y.heap.objs.size Q I4 r1 (Zd.new ..) pl pu q3;show wpAny (Ja X.prog X.w) X.A (uw e (.Slice O Y Aa p2) v (.ref y.heap.objs.size)) (EP X j z Q) X.xe { y with heap:=y.heap.push { cls:=.type "slice",data:=.fields #[J,F,.none] } }
 exact ul (ops:=[.ref y.heap.objs.size,v]) ht hT hg (by with_unfolding_all rfl)

def cutV  (xs:List V)(j q:Option Int):List V:=(xs.drop (HT.sIx xs.length 0 j)).take (HT.sIx xs.length xs.length q-HT.sIx xs.length 0 j)
def dH  (xs:List V) lo hi:(cutV xs lo hi).length<=xs.length:=by
 unfold cutV;rw[Tk,EJ]
 lia
def rSlT  (K:Eb):V->Option Int->Option Int->Hp->VK->Prop:=λx q y H Q=>∃a j,x=.ref a/\Ic K H a j/\
 ¬(HT.sIx j.length 0 q=0/\HT.sIx j.length j.length y=j.length)/\∀p,H p=Aa->Q (.ref p) (upd H p (.tup (cutV j q y)))
def wP  : Eh X (rSlT X.K):=by
 intro R s σ H x v vl vu z J sl Q I rx Z pl pu h;obtain⟨a,y,rfl,hx,hw,q⟩:=h;cases rx;obtain⟨F,r,O,Y⟩:=I.tuple hx;have j:F.toArray.size=y.length:=by rw[Zc];exact r.length.symm
 refine⟨"tuple",_,Sj.lookup,O.typeIs,?_⟩;refine HT.getItem_tuple_cut O Z pl pu (by rw[j];exact hw) ?_ (by rw[j];exact Y)
 rw[j];refine⟨.ref s.heap.objs.size,_,I.laid (t':=s.toks) (o:=.tup (cutV y z J)) (λb ob q=>Ac _ q) (Jb _) ?_,rfl,q _ (I.hok.fresh (Jb _))⟩;exact⟨Rb (dH y z J) Y,_,(r.drop (HT.sIx y.length 0 z)).take (HT.sIx y.length y.length J-HT.sIx y.length 0 z),TupD.new _ _⟩

def AN  (K:Eb):R2:=λx y H Q=>∃a b q j,x=.ref a/\y=.ref b/\Ic K H a q/\Ic K H b j/\q≠[]/\q.length+j.length<=db/\
 (j=[]->Q (.ref a) H)/\(j≠[]->∀p,H p=Aa->Q (.ref p) (upd H p (.tup (q++j))))
def Vals.nil_iff    (r:Vals xs us):us=[]↔xs=[]:=by
 cases r with
 |nil=>simp
 |cons _ _=>simp
def MS  : nc X (Pe .Add) (AN X.K):=by
 intro J s σ H x y v u Q I rx Y h;obtain⟨a,b,O,ys,rfl,rfl,ha,Z,R,F,q1,q2⟩:=h;cases rx;cases Y;obtain⟨xa,r1,p1,_⟩:=I.tuple ha;obtain⟨j,r2,p2,_⟩:=I.tuple Z;refine HT.cat_tup p1 p2 (λz=>R (r1.nil_iff.mp z)) (λz=>⟨.ref a,H,I,rfl,q1 (r2.nil_iff.mp z)⟩) (λz=>?_) (by rw[<- r1.length,<- r2.length];exact F)
 refine⟨.ref s.heap.objs.size,_,I.laid (t':=s.toks) (o:=.tup (O++ys)) (λb ob q=>Ac _ q) (Jb _) ?_,rfl,q2 (λw=>z (r2.nil_iff.mpr w)) _ (I.hok.fresh (Jb _))⟩;exact⟨by rw[gg];exact F,_,r1.append r2,TupD.new _ _⟩

noncomputable def Ag  (n:Nat)(i:Int):Option Nat:=if 0<=i then (if i<n then da i.toNat else Aa) else if -(n:Int)<=i then da (i+n).toNat else Aa
def atI  {q:Type}(xs:List q)(i:Int):Option q:=(Ag xs.length i).bind λj=>xs[j]?
def yE     (h:Ag n i=da j):Pv i n=da j/\j<n/\-(n:Int)<=i/\i<n:=by
 unfold Ag at h;by_cases h0:0<=i
 ·rw[if_pos h0]at h;by_cases q:i<n
  ·rw[if_pos q]at h;have e:i.toNat=j:=Ee h;exact⟨by rw[zl h0 q,e],by lia,by lia,q⟩
  ·rw[if_neg q]at h;cases h
 ·rw[if_neg h0]at h;by_cases q:-(n:Int)<=i
  ·rw[if_pos q]at h;have e:(i+n).toNat=j:=Ee h;exact⟨by rw[wA (by lia) q,e],by lia,q,by lia⟩
  ·rw[if_neg q]at h;cases h
def Fy      (h:atI xs i=da v):∃j,Pv i xs.length=da j/\xs[j]?=da v/\j<xs.length/\-(xs.length:Int)<=i/\i<xs.length:=by
 unfold atI at h;cases e:Ag xs.length i with
 |none=>rw[e]at h;cases h
 |some j=>
  rw[e]at h;obtain⟨y,q,F,z⟩:=yE e;exact⟨j,y,h,q,F,z⟩
def Ti    {j:Nat}{v:α}(h:xs[j]?=da v):atI xs (j:Int)=da v:=by
 have q:j<xs.length:=(Ba.mp h).1;have e:Ag xs.length (j:Int)=da j:=by
  unfold Ag;rw[if_pos (by lia),if_pos (by lia)];simp
 unfold atI;rw[e];exact h
def Dy  (b:Na):Prop:=∀o i,subscripted b ua o i=operate [o,i] (Xc o i)
def fj  (X:Cx)(r:R2):Prop:=
 ∀(q j:Na) (pins:List (Ca×Obj)) (s:Fa) (σ:St) (H:Hp) (x y:V) (v u:Da) (Q:VK),Pa X pins σ H s->RelV x v->RelV y u->r x y H Q->
  subscripted j ua v u=operate [v,u] (Xc v u)->wpAny (Ja X.prog X.w) X.A (uw q j v u) (EP X pins σ Q) X.xe s
def Tj  (X:Cx)(id:String)(r:V->List V->Hp->VK->Prop):Prop:=
 ∀(j:List (Ca×Obj)) (s:Fa) (σ:St) (H:Hp) (x:V) (xs:List V) (v:Da) (us:List Da) (Q:VK),Pa X j σ H s->RelV x v->Vals xs us->r x xs H Q->
  wpAny (Ja X.prog X.w) X.A (call (.builtin id) (v::us)) (EP X j σ Q) X.xe s

def fj.or   (h:fj X r)(h':fj X r'):fj X (λx y H Q=>r x y H Q\/r' x y H Q):=by
 intro j F J s R H x y v u Q I Z O q Y;rcases q with q|q
 ·exact h j F J s R H x y v u Q I Z O q Y
 ·exact h' j F J s R H x y v u Q I Z O q Y
def Tj.or  {id:String}(h:Tj X id r)(h':Tj X id r'):Tj X id (λx xs H Q=>r x xs H Q\/r' x xs H Q):=by
 intro j s y H x xs v O Q I F J q;rcases q with q|q
 ·exact h j s y H x xs v O Q I F J q
 ·exact h' j s y H x xs v O Q I F J q
def rN   (Z:fj X r)(ha:PE X a ta)(O:PE X b tb)(hs:Dy b):PE X (.Subscript a b pos) (Ir r ta tb):=by
 intro j s F H Q I h;exact Cp (binT ha O I h λv u s2 x y Y J R z q=>Z a b j s2 F Y x y v u Q J R z q (hs _ _))

def rIxL  (K:Eb):R2:=λx y H Q=>∃p j i v,x=.ref p/\y=.int i/\Qc K H p j/\atI j i=da v/\Q v H
def rIxT  (K:Eb):R2:=λx y H Q=>∃p j i v,x=.ref p/\y=.int i/\Ic K H p j/\atI j i=da v/\Q v H
def rIxS  : R2:=λx y H Q=>∃z i c,x=.str z/\y=.int i/\z.length<=db/\atI z.cps.toList i=da c/\Q (.str ⟨#[c]⟩) H
def uQ  : fj X (rIxL X.K):=by
 intro Z za F s σ H x y v u Q I rx ry h hs;obtain⟨p,xs,i,z,rfl,rfl,hq,he,q⟩:=h;cases rx;obtain⟨t,rfl⟩:=ry;obtain⟨R,r,pl,hz⟩:=I.list hq;obtain⟨j,O,h2,h3,h4,h5⟩:=Fy he;obtain⟨w,ew,xa⟩:=r.get h2;have hl:=r.length;have hn:=Km;have J:EP X F σ Q w s:=⟨z,H,I,xa,q⟩;by_cases h0:0<=i
 ·have Y:i.toNat=j:=by
   rw[zl h0 h5]at O;exact Ee O
  exact item_listR pl.isList h0 (by lia) (by rw[Y];simpa using ew) J hs
 ·have Y:(i+(R.toArray.size:Int)).toNat=j:=by
   rw[wA (by lia) h4]at O
   rw[Zc,<- hl];exact Ee O
  exact zK (x:=w) pl.isList.typeIs Rf.lookup
   (wpAny_getItem_list_neg (Q:=λr s'=>r=w/\EP X F σ Q r s') pl.isList (by lia) (by rw[Zc]<;>lia) (by lia) (by rw[Y];simpa using ew) ⟨rfl,J⟩) hs
def XN  : fj X (rIxT X.K):=by
 intro J Y F s Z H x y v u Q I rx ry h hs;obtain⟨p,xs,i,z,rfl,rfl,hq,he,q⟩:=h;cases rx;obtain⟨t,rfl⟩:=ry;obtain⟨xa,r,pl,hz⟩:=I.tuple hq;obtain⟨j,h1,h2,h3,h4,h5⟩:=Fy he;obtain⟨w,ew,R⟩:=r.get h2;have hl:=r.length;have hn:=Km;have O:EP X F Z Q w s:=⟨z,H,I,R,q⟩;exact zK (x:=w) pl.typeIs slot_tuple_getitem.lookup
  (getItem_tuple (j:=j) (Q:=λr s'=>r=w/\EP X F Z Q r s') pl (by lia) (by lia) (by rw[Zc,<- hl];exact h1) (by simpa using ew) ⟨rfl,O⟩) hs
def WN  : fj X rIxS:=by
 intro F J O s σ H x y v u Q I rx ry h Y;obtain⟨z,i,c,rfl,rfl,hz,he,q⟩:=h;obtain⟨t,rfl⟩:=rx;obtain⟨t',rfl⟩:=ry;obtain⟨j,R,Z,h3,h4,h5⟩:=Fy he;have hl:z.cps.toList.length=z.length:=by simp[Str.length]
 rw[hl]at R h4 h5;have hn:=Km;exact ul (rn s z t) slot_str_getitem.lookup (getItem_str (c:=c) (by
  have e1:decide (i < -(2 ^ 63:Int))=ua:=decide_eq_false (by lia)
  have e2:decide (i ≥ 2 ^ 63)=ua:=decide_eq_false (by lia)
  rw[e1,e2,Bool.or_false]) (by rw[R];simpa using Z) ⟨.str ⟨#[c]⟩,H,I.tok _,⟨_,rfl⟩,q⟩) Y
def yx  (K:Eb):R2:=λx y H Q=>rIxL K x y H Q\/rIxT K x y H Q\/rIxS x y H Q
def VN  : fj X (yx X.K):=uQ.or (XN.or WN)

def aV  (q:List Da)(n j:Nat) u:Rk (·.setIfInBounds j u) { cls:=.type "list",data:=.seq q.toArray n }={ cls:=.type "list",data:=.seq (q.set j u).toArray n }:=by
 simp[Rk]
def Pa.lst   {q:St}(I:Pa X pins q H s)(h:H p=da (.lst xs)) :
  ∃(j:List Da) (n:Nat),Vals xs j/\s.heap.get? p=da { cls:=.type "list",data:=.seq j.toArray n }/\xs.length<=db:=by
 obtain⟨z,j,n,r,e⟩:=I.hok p _ h;exact⟨j,n,r,e,z⟩
def Pa.lstUpd   {F:St}{j its':List Da}(I:Pa X pins F H s)(h:H p=da (.lst xs))
  (O:s.heap.get? p=da { cls:=.type "list",data:=.seq j.toArray n }) (y:f { cls:=.type "list",data:=.seq j.toArray n }={ cls:=.type "list",data:=.seq its'.toArray J }) (r:Vals ys its') (Y:ys.length<=db) t :
  Pa X pins F (upd H p (.lst ys)) { s with heap:=s.heap.update p f,toks:=t }:=by
 have e:(s.heap.update p f).get? p=da { cls:=.type "list",data:=.seq its'.toArray J }:=by
  rw[xB f O (by rw[y]<;>rfl),y]
 refine I.write (x:=p) (e:=p) (by rw[h];trivial) (.inl rfl) (λb u R q=>(WB _ _ (Xa R)).trans q) ⟨_,e⟩ ?_
 exact⟨Y,its',J,r,e⟩
def MC  : V->V->V->Hp->(Hp->Prop)->Prop:=λo i v H Q=>∃p q k j,o=.ref p/\i=.int k/\H p=da (.lst q)/\Ag q.length k=da j/\Q (upd H p (.lst (q.set j v)))
def iT  : PSet X MC:=by
 intro z s σ H o i v ov iv u Q I ro ri rv h;obtain⟨p,xs,k,j,rfl,rfl,hp,hj,q⟩:=h;cases ro;obtain⟨t,rfl⟩:=ri;obtain⟨y,n,r,J,hz⟩:=I.lst hp;obtain⟨F,h2,R,Z⟩:=yE hj;have O:=r.length;have hn:=Km;have Y:Pa X z σ (upd H p (.lst (xs.set j v))) { s with heap:=s.heap.update p (Rk (·.setIfInBounds j u)) }:=
  I.lstUpd hp J (aV y n j u) (r.set rv j) (by rw[Ci];exact hz) s.toks
 by_cases h0:0<=k
 ·have hk:k.toNat=j:=by
   rw[zl h0 Z]at F;exact Ee F
  exact PySem.W.ki_setAt J h0 (by lia) (by rw[Zc,<- O];exact Z) (by rw[hk];exact⟨_,Y,q⟩)
 ·have hk:(k+(y.toArray.size:Int)).toNat=j:=by
   rw[wA (by lia) R]at F
   rw[Zc,<- O];exact Ee F
  exact PySem.W.ki_setBack J (by lia) (by rw[Zc,<- O];exact R) (by lia) (by rw[hk];exact⟨_,Y,q⟩)

def CW   lo hi n:(Dj lo hi Aa n).1=((HT.sIx n 0 lo:Nat):Int)/\(Dj lo hi Aa n).2.1=((HT.sIx n n hi:Nat):Int)/\(Dj lo hi Aa n).2.2=1:=by
 refine⟨?_,?_,rfl⟩
 ·cases lo with
  |none=>simp[Dj,HT.sIx]
  |some i=>
   simp only[Dj,HT.sIx,lK,show(1:Int)>0 by decide,if_true]
   by_cases h:i<0
   ·simp only[h,if_true]<;>lia
   ·simp only[h,if_false]<;>lia
 ·cases hi with
  |none=>simp[Dj,HT.sIx]
  |some i=>
   simp only[Dj,HT.sIx,lK,show(1:Int)>0 by decide,if_true]
   by_cases h:i<0
   ·simp only[h,if_true]<;>lia
   ·simp only[h,if_false]<;>lia
def pW  (j:List Da) lo hi:Ao j.toArray lo hi Aa=((j.drop (HT.sIx j.length 0 lo)).take (HT.sIx j.length j.length hi-HT.sIx j.length 0 lo)).toArray:=by
 obtain⟨y,q,z⟩:=CW lo hi j.toArray.size;unfold Ao;rw[y,q,z];simp only[sliceRange_one,pick_run,Zc]<;>rfl
def rSlL  (K:Eb):V->Option Int->Option Int->Hp->VK->Prop:=λx q y H Q=>∃a j,x=.ref a/\Qc K H a j/\∀p,H p=Aa->Q (.ref p) (upd H p (.lst (cutV j q y)))
def yR  : Eh X (rSlL X.K):=by
 intro O s σ H x v vl vu z F sl Q I Z Y pl pu h;obtain⟨a,j,rfl,R,q⟩:=h;cases Z;obtain⟨xa,r,J,hz⟩:=I.list R;have y:=r.length;refine⟨"list",_,Rf.lookup,J.isList.typeIs,?_⟩;refine VB J.isList Y pl pu .none (by simp) ?_ (by rw[Zc]<;>lia)
 rw[pW,<- y];refine⟨.ref s.heap.objs.size,_,I.laid (t':=s.toks) (o:=.lst (cutV j z F)) (λb ob q=>Ac _ q) (Jb _) ?_,rfl,q _ (I.hok.fresh (Jb _))⟩;exact⟨Rb (dH j z F) hz,_,0,(r.drop (HT.sIx j.length 0 z)).take (HT.sIx j.length j.length F-HT.sIx j.length 0 z),Fe _ rfl⟩

noncomputable def flatV  : V->Bool
 |.non=>ma
 |.bl _=>ma
 |.int _=>ma
 |.str _=>ma
 |_=>ua
noncomputable def Aj  : V->V->Bool
 |.non,.non=>ma
 |.bl a,.bl b=>a==b
 |.bl a,.int b=>(if a then 1 else 0)==b
 |.int a,.bl b=>a==(if b then 1 else 0)
 |.int a,.int b=>a==b
 |.str a,.str b=>a==b
 |_,_=>ua
def LO      (z:RelV y u)(j:RelV x v)(I:flatV y=ma)(F:flatV x=ma):Xf A s u v (Aj y x):=by
 cases y with
 |non=>
  cases z;cases x with
  |non=>cases j;exact Xf.same _
  |bl b=>cases j;exact Xf.none_bool b
  |int b=>obtain⟨t,rfl⟩:=j;exact Xf.none_int b t
  |str b=>obtain⟨t,rfl⟩:=j;exact Xf.none_str b t
  |_=>exact absurd (show ua=ma from F) Hd
 |bl a=>
  cases z;cases x with
  |non=>cases j;exact Xf.bool_none a
  |bl b=>cases j;exact Xf.bool_bool a b
  |int b=>obtain⟨t,rfl⟩:=j;exact Xf.bool_int a b t
  |str b=>obtain⟨t,rfl⟩:=j;exact Xf.bool_str a b t
  |_=>exact absurd (show ua=ma from F) Hd
 |int a=>
  obtain⟨q,rfl⟩:=z;cases x with
  |non=>cases j;exact Xf.int_none a q
  |bl b=>cases j;exact Xf.int_bool a q b
  |int b=>obtain⟨t,rfl⟩:=j;exact TK a q b t
  |str b=>obtain⟨t,rfl⟩:=j;exact UK a q b t
  |_=>exact absurd (show ua=ma from F) Hd
 |str a=>
  obtain⟨q,rfl⟩:=z;cases x with
  |non=>cases j;exact Xf.str_none a q
  |bl b=>cases j;exact Xf.str_bool a q b
  |int b=>obtain⟨t,rfl⟩:=j;exact WK a q b t
  |str b=>obtain⟨t,rfl⟩:=j;exact Xf.str_str a q b t
  |_=>exact absurd (show ua=ma from F) Hd
 |_=>exact absurd (show ua=ma from I) Hd
def eqU  (x:V)(u:Da):Bool:=match u with
 |.none=>Aj .non x
 |.bool b=>Aj (.bl b) x
 |.int i _=>Aj (.int i) x
 |.str z _=>Aj (.str z) x
 |_=>ua
def kD    (r:RelV y u)(f:flatV y=ma):eqU x u=Aj y x:=by
 cases y with
 |non=>cases r;rfl
 |bl b=>cases r;rfl
 |int i=>obtain⟨t,rfl⟩:=r;rfl
 |str z=>obtain⟨t,rfl⟩:=r;rfl
 |_=>exact absurd (show ua=ma from f) Hd
theorem oq   : ∀{xs } {us },Vals xs us->xs.all flatV=ma->us.any (eqU x)=xs.any λy=>Aj y x
 |_,_,.nil,_=>rfl
 |y::xs,u::us,.cons r t,f=>by
  rw[mn,Qe]at f;rw[Vi,Vi,kD r f.1,oq t f.2]
theorem Xm      (q:RelV x v)(j:flatV x=ma):∀{xs } {us },Vals xs us->xs.all flatV=ma->∀u∈us,Xf A s u v (eqU x u)
 |_,_,.nil,_=>λu hu=>by cases hu
 |y::xs,u::us,.cons r t,f=>λz hu=>by
  rw[mn,Qe]at f;rcases Mc.mp hu with rfl|hu
  ·rw[kD r f.1];exact LO r q f.1 j
  ·exact Xm q j t f.2 z hu
def Bq  (x:V)(xs:List V):Bool:=xs.any λy=>Aj y x
def mC  (K:Eb)(q:Bool):R2:=λx y H Q=>∃p j,y=.ref p/\(Qc K H p j\/Ic K H p j)/\flatV x=ma/\j.all flatV=ma/\Q (.bl (if q then !Bq x j else Bq x j)) H
def BU  : nc X (Ed .In) (mC X.K ua):=by
 intro Y s σ H x y v u Q I R Z h;obtain⟨p,xs,rfl,z,O,fs,q⟩:=h;cases Z;rcases z with z|z
 ·obtain⟨j,r,J,hz⟩:=I.list z;refine IJ (eqU x) J.isList (λw F=>Xm R O r fs w (by simpa using F)) ⟨.bl _,H,I,rfl,?_⟩
  rw[show j.toArray.any (eqU x)=j.any (eqU x) by simp,oq r fs]
  exact q
 ·obtain⟨j,r,J,hz⟩:=I.tuple z;refine IB (eqU x) J (λw F=>Xm R O r fs w (by simpa using F)) ⟨.bl _,H,I,rfl,?_⟩
  rw[show j.toArray.any (eqU x)=j.any (eqU x) by simp,oq r fs]
  exact q
def zW  : nc X (Ed .NotIn) (mC X.K ma):=by
 intro Y s σ H x y v u Q I R Z h;obtain⟨p,xs,rfl,z,O,fs,q⟩:=h;cases Z;rcases z with z|z
 ·obtain⟨j,r,J,hz⟩:=I.list z;refine PJ (eqU x) J.isList (λw F=>Xm R O r fs w (by simpa using F)) ⟨.bl _,H,I,rfl,?_⟩
  rw[show j.toArray.any (eqU x)=j.any (eqU x) by simp,oq r fs]
  exact q
 ·obtain⟨j,r,J,hz⟩:=I.tuple z;refine rB (eqU x) J (λw F=>Xm R O r fs w (by simpa using F)) ⟨.bl _,H,I,rfl,?_⟩
  rw[show j.toArray.any (eqU x)=j.any (eqU x) by simp,oq r fs]
  exact q
def rf.or    (h:rf X f r)(h':rf X f r'):rf X f (λxs H Q=>r xs H Q\/r' xs H Q):=by
 intro j s F H xs y Q I J q;rcases q with q|q
 ·exact h j s F H xs y Q I J q
 ·exact h' j s F H xs y Q I J q
def jW  : rf X (.type "list") (λxs H Q=>∃p z,xs=[.ref p]/\(Qc X.K H p z\/Ic X.K H p z)/\∀l,H l=Aa->Q (.ref l) (upd H l (.lst z))):=by
 intro xa s σ H xs us Q I r h;obtain⟨p,z,rfl,O,q⟩:=h;obtain⟨u,rfl,rx⟩:=fh r;cases rx;have R:∀(j:List Da),Vals z j->z.length<=db->∀(y:Wa) (J:Nat),(∀b o',s.heap.get? b=da o'->y.get? b=da o')->
   y.get? s.heap.objs.size=da { cls:=.type "list",dict:=Aa,data:=.seq j.toArray J,slots:=#[] }->EP X xa σ Q (.ref s.heap.objs.size) { s with heap:=y }:=λj F Z y J kp e=>
  ⟨.ref s.heap.objs.size,_,I.laid (t':=s.toks) kp (Jb _) (show ee X.prog X.w _ y _ (.lst z)from⟨Z,j,J,F,e⟩),rfl,q _ (I.hok.fresh (Jb _))⟩
 rcases O with O|O
 ·obtain⟨j,F,pl,Z⟩:=I.list O;have Y:=F.length;obtain⟨o,ho,hc,n,hd⟩:=pl.isList;exact call_list_seq p (.inl rfl) ho hc hd (λy J kp e=>R j F Z y J kp e) (by simp only[Zc]<;>lia)
 ·obtain⟨j,F,pl,Z⟩:=I.tuple O;have Y:=F.length;obtain⟨o,ho,hc,n,hd⟩:=pl;exact call_list_seq p (.inr rfl) ho hc hd (λy J kp e=>R j F Z y J kp e) (by simp only[Zc]<;>lia)
def wW  : rf X (.type "tuple") (λxs H Q=>∃p z,xs=[.ref p]/\((Qc X.K H p z/\∀l,H l=Aa->Q (.ref l) (upd H l (.tup z)))\/(Ic X.K H p z/\Q (.ref p) H))):=by
 intro j s Y H xs us Q I r h;obtain⟨p,z,rfl,h⟩:=h;obtain⟨u,rfl,rx⟩:=fh r;cases rx;rcases h with⟨J,q⟩|⟨J,q⟩
 ·obtain⟨y,R,O,hz⟩:=I.list J;have xa:=R.length;refine call_tuple_list O.isList (λF kp=>?_) (by simp only[Zc]<;>lia)
  have Z:Pa X j Y H { s with heap:=F }:=I.kept (t':=s.toks) kp
  have I2:Pa X j Y (upd H F.objs.size (.tup z)) { s with heap:=F.push { cls:=.type "tuple",data:=.seq y.toArray } }:=
   Z.laid (t':=s.toks) (λb o e=>Ac _ e) (Jb _) (show ee X.prog X.w _ _ _ (.tup z)from⟨hz,y,R,TupD.new _ _⟩)
  exact⟨.ref F.objs.size,_,I2,rfl,q _ (Z.hok.fresh (Jb _))⟩
 ·obtain⟨y,R,O,hz⟩:=I.tuple J;exact call_tuple_same O ⟨.ref p,H,I,rfl,q⟩

def qx  (K:Eb)(T:String)(x:V)(H:Hp):Prop:=match x with
 |.str _=>T = "str"
 |.int _=>T = "int"
 |.ref p=>(T = "list" /\ ∃q,Qc K H p q)\/(T = "tuple" /\ ∃o,K.lookup p=da o/\o.cls=.type "tuple" /\ o.dict=Aa)\/
   (T = "dict" /\ ((∃j,H p=da (.dK j))\/∃j,H p=da (.dT j)))\/(T = "set" /\ ∃S n,H p=da (.set S n))\/(T = "tuple" /\ ∃q,H p=da (.tup q))
 |_=>False
def ZC   {Z:St}(I:Pa X pins Z H s)(r:RelV x v)(y:qx X.K T x H) :
  s.TypeIs v T/\∀a,v=.ref a->∃R,s.heap.get? a=da R/\R.dict=Aa:=by
 cases x with
 |str z=>
  obtain⟨t,rfl⟩:=r;cases(show T = "str" from y);exact⟨rn s z t,λ_ e=>nomatch e⟩
 |int i=>
  obtain⟨t,rfl⟩:=r;cases(show T = "int" from y);exact⟨Iq s i t,λ_ e=>nomatch e⟩
 |ref p=>
  cases r;rcases y with⟨rfl,O,hq⟩|⟨rfl,o,hk,hc,hd⟩|⟨rfl,hk⟩|⟨rfl,S,n,hk⟩|⟨rfl,O,hk⟩
  ·obtain⟨J,_,Y,_⟩:=I.list hq;refine⟨Y.isList.typeIs,λa e=>?_⟩;cases e;obtain⟨o,n,e,c,hd,_⟩:=Y;exact⟨o,e,hd⟩
  ·refine⟨⟨o,I.kIn p o hk,hc⟩,λa e=>?_⟩;cases e;exact⟨o,I.kIn _ o hk,hd⟩
  ·have z:∃o,s.heap.get? p=da o/\o.ExactDict:=by
    rcases hk with⟨F,hk⟩|⟨F,hk⟩
    ·obtain⟨_,_,_,_,o,_,_,e,j,_⟩:=I.hok p _ hk;exact⟨o,e,j⟩
    ·obtain⟨_,_,_,_,o,_,_,e,j,_⟩:=I.hok p _ hk;exact⟨o,e,j⟩
   obtain⟨o,e,j⟩:=z;refine⟨⟨o,e,j.1⟩,λa q=>?_⟩;cases q;exact⟨o,e,j.2.1⟩
  ·obtain⟨o,_,_,_,e,j,_⟩:=I.hok p _ hk;refine⟨⟨o,e,j.1⟩,λa q=>?_⟩;cases q;exact⟨o,e,j.2.1⟩
  ·obtain⟨_,J,r,o,e,c,n,d,hd⟩:=(show ee X.prog X.w H s.heap p (.tup O)from I.hok p _ hk);refine⟨⟨o,e,c⟩,λa q=>?_⟩;cases q;exact⟨o,e,hd⟩
 |_=>exact Rh y


def Yw  (X:Cx)(id:String)(r:V->List V->Hp->VK->Prop):Prop:=
 ∀(j:List (Ca×Obj)) (s:Fa) (σ:St) (H:Hp) (x:V) (xs:List V) (v:Da) (us:List Da) (Q:VK),Pa X j σ H s->RelV x v->Vals xs us->r x xs H Q->
  wpAny (Ja X.prog X.w) X.A (call (.builtin id) (v::us)) (EP X j σ Q) X.xe s

def Vals.one  : ∀{x } {us },Vals [x] us->∃u,us=[u]/\RelV x u
 |_,_,.cons r .nil=>⟨_,rfl,r⟩
def Vals.two  : ∀{x y } {us },Vals [x,y] us->∃u v,us=[u,v]/\RelV x u/\RelV y v
 |_,_,_,.cons r (.cons q .nil)=>⟨_,_,rfl,r,q⟩
def Vals.zero  : ∀{us },Vals [] us->us=[]
 |_,.nil=>rfl
theorem Vals.dropLast    (h:Vals xs us):Vals xs.dropLast us.dropLast:=by
 induction h with
 |nil=>exact .nil
 |cons r t j=>
  cases t with
  |nil=>exact .nil
  |cons q y=>exact .cons r j
theorem Vals.eraseIdx  : ∀{xs } {us } i ,Vals xs us->Vals (xs.eraseIdx i) (us.eraseIdx i)
 |_,_,_,.nil=>.nil
 |_,_,0,.cons _ t=>t
 |_,_,i+1,.cons r t=>.cons r (Vals.eraseIdx i t)
theorem Vals.rep    (h:Vals xs us):∀k ,Vals (Db k xs).flatten (Db k us).flatten
 |0=>.nil
 |k+1=>by
  rw[Jj,Jj,Mo,Mo];exact Vals.append h (Vals.rep h k)
def IV  {j:Type}(l:List j):l.eraseIdx (l.length-1)=l.dropLast:=by
 induction l with
 |nil=>rfl
 |cons a r q=>
  cases r with
  |nil=>rfl
  |cons b r=>
   have e:(a::b::r).length-1=((b::r).length-1)+1:=by
    have z:(a::b::r).length=r.length+2:=rfl;have y:(b::r).length=r.length+1:=rfl
    lia
   rw[e,List.eraseIdx_cons_succ,q]
   all_goals rfl
theorem bG  {j:Type}:∀(l:List j) i ,(l.eraseIdx i).length<=l.length
 |[],_=>Jb _
 |_::_,0=>Tv _
 |_::r,i+1=>ZA (bG r i)
theorem zz  (j:List Da):∀k (acc:List Da),
  Mq (λz y=>z++y) acc.toArray (Db k j.toArray)=(acc++(Db k j).flatten).toArray
 |0,acc=>by simp
 |k+1,acc=>by
  have e:acc.toArray++j.toArray=(acc++j).toArray:=by simp
  have q:(acc++j)++(Db k j).flatten=acc++(Db (k+1) j).flatten:=by
   rw[Jj,Mo,Jw]
  rw[<- q,<- zz j k (acc++j),<- e,Jj,WA]

section
variable {X:Cx}{pins:List (Ca×Obj)}{σ:St}{H:Hp}{s:Fa}{l b:Ca}{xs ys zs:List V}

def Pa.lset  {j its':List Da}(I:Pa X pins σ H s)(J:H l=da (.lst xs))
  (e:s.heap.get? l=da { cls:=.type "list",data:=.seq j.toArray n }) (y:f j.toArray=its'.toArray) (O:Vals ys its') (R:ys.length<=db) :
  Pa X pins σ (upd H l (.lst ys)) { s with heap:=s.heap.update l (Rk f),toks:=t' }:=by
 have q:=PySem.IsL.update e f;rw[y]at q;refine I.write (x:=l) (e:=l) (by rw[J];exact trivial) (.inl rfl) (λY u F hu=>(WB s.heap (Rk f) (Xa F)).trans hu) ⟨_,q⟩ ?_
 exact⟨R,its',_,O,q⟩
def Pa.lnew    (I:Pa X pins σ H s)(y:Vals ys j)(F:ys.length<=db) :
  Pa X pins σ (upd H s.heap.objs.size (.lst ys)) { s with heap:=s.heap.push { cls:=.type "list",data:=.seq j.toArray },toks:=t' }:=
 I.laid (λ_ _ q=>Ac _ q) (Jb _) ⟨F,j,0,y,Fe _ rfl⟩
def Pa.fresh  (I:Pa X pins σ H s):H s.heap.objs.size=Aa:=I.hok.fresh (Jb _)
def Pa.lstM  (I:Pa X pins σ H s)(q:H l=da (.lst xs)):xs.length<=db/\∃(j:List Da) (n:Nat),Vals xs j/\xs.length=j.length/\s.heap.get? l=da { cls:=.type "list",data:=.seq j.toArray n }:=by
 obtain⟨z,j,n,r,e⟩:=I.hok l _ q;exact⟨z,j,n,r,r.length,e⟩

def yF   (h:n<=db):Vw n=ua:=by
 unfold Vw;exact decide_eq_false (by lia)
end


def zS  : V->List V->Hp->VK->Prop:=λx q H Q=>∃l j y,x=.ref l/\q=[y]/\H l=da (.lst j)/\j.length<db/\Q .non (upd H l (.lst (j++[y])))
def cG  : Yw X "list.append" zS:=by
 intro O s σ H x vs v us Q I Y Z h;obtain⟨l,xs,y,rfl,rfl,J,hz,q⟩:=h;cases Y;obtain⟨u,rfl,R⟩:=Z.one;obtain⟨z,j,n,r,hl,e⟩:=I.lstM J;refine Dg F.slot_list_append ⟨_,e,rfl⟩ F.entry_list_append (F.args_list_append_2 _ _) (PySem.list_append l j.toArray n u (by rw[Zc];lia)) ⟨e,?_⟩
 refine⟨.non,_,I.lset (its':=j++[u]) J e (by simp) (r.append (.cons R .nil)) ?_,rfl,q⟩
 rw[gg,cL]
 lia

def AS  : V->List V->Hp->VK->Prop:=λx y H Q=>∃l b j q,x=.ref l/\y=[.ref b]/\H l=da (.lst j)/\H b=da (.lst q)/\j.length+q.length<=db/\Q .non (upd H l (.lst (j++q)))
def SU  : Yw X "list.extend" AS:=by
 intro R s σ H x vs v us Q I rx rv h;obtain⟨l,b,xs,zs,rfl,rfl,Y,hB,hz,q⟩:=h;cases rx;obtain⟨u,rfl,Z⟩:=rv.one;cases Z;obtain⟨z,y,n,r,hl,e⟩:=I.lstM Y;obtain⟨z2,j,n2,r2,xa,e2⟩:=I.lstM hB;have O:y.toArray.size+j.toArray.size<=db:=by rw[Zc,Zc];lia
 have J:¬(!y.toArray.isEmpty&&Vw (y.toArray.size+j.toArray.size))=ma:=by
  rw[yF O,Bool.and_false];exact Hd
 refine Dg F.slot_list_extend ⟨_,e,rfl⟩ F.entry_list_extend (F.args_list_extend_2 _ _)
  (AutoSeq1.list_extend_list_list_0 l y.toArray n b j.toArray n2 J (by rw[Zc];lia) (by lia)) ⟨e,e2,?_⟩
 refine⟨.non,_,I.lset (its':=y++j) Y e (by simp) (r.append r2) ?_,rfl,q⟩
 rw[gg]
 lia

def rPop  : V->List V->Hp->VK->Prop:=λx q H Q=>∃l j y,x=.ref l/\q=[]/\H l=da (.lst j)/\j[j.length-1]?=da y/\Q y (upd H l (.lst j.dropLast))
def mt_pop  : Yw X "list.pop" rPop:=by
 intro Y s σ H x vs v us Q I rx rv h;obtain⟨l,xs,y,rfl,rfl,R,hy,q⟩:=h;cases rx;have J:=rv.zero;subst J;obtain⟨z,j,n,r,hl,e⟩:=I.lstM R;obtain⟨u,hu,Z⟩:=r.get hy;have O:j.toArray[j.toArray.size-1]?=da u:=by
  show j.toArray[j.length-1]?=da u;rw[<- zw,<- hl];exact hu
 refine Dg F.slot_list_pop ⟨_,e,rfl⟩ F.entry_list_pop (F.args_list_pop_1 _) (MeetsSeq.list_pop_last l j.toArray n u O (by rw[Zc];lia)) ⟨e,?_⟩
 refine⟨y,_,I.lset (its':=j.dropLast) R e ?_ r.dropLast ?_,Z,q⟩
 ·show j.toArray.eraseIdxIfInBounds (j.toArray.size-1)=j.dropLast.toArray;rw[Zc,sL,IV]
 ·rw[List.length_dropLast]
  lia

def lP  : V->List V->Hp->VK->Prop:=λx q H Q=>∃l j i k y,x=.ref l/\q=[.int i]/\H l=da (.lst j)/\-(2 ^ 63)<=i/\i<2 ^ 63/\Pv i j.length=da k/\j[k]?=da y/\Q y (upd H l (.lst (j.eraseIdx k)))
def nU  : Yw X "list.pop" lP:=by
 intro R s σ H x vs v us Q I rx rv h;obtain⟨l,Y,i,k,y,rfl,rfl,O,h1,h2,hk,hy,q⟩:=h;cases rx;obtain⟨u,rfl,Z⟩:=rv.one;obtain⟨t,rfl⟩:=Z;obtain⟨z,j,n,r,hl,e⟩:=I.lstM O;obtain⟨w,hw,J⟩:=r.get hy;refine Dg F.slot_list_pop ⟨_,e,rfl⟩ F.entry_list_pop (F.args_list_pop_2 _ _)
  (MeetsSeq.list_pop_at l j.toArray n i t k w (fitsIndex_both h1 h2) (by rw[Zc,<- hl];exact hk) (by rw[<- zw];exact hw) (by rw[Zc];lia)) ⟨e,?_⟩
 refine⟨y,_,I.lset (its':=j.eraseIdx k) O e ?_ (r.eraseIdx k) ?_,J,q⟩
 ·show j.toArray.eraseIdxIfInBounds k=(j.eraseIdx k).toArray;rw[sL]
 ·have:=bG Y k
  lia

def rCat  : R2:=λx y H Q=>∃l b j q,x=.ref l/\y=.ref b/\H l=da (.lst j)/\H b=da (.lst q)/\j.length+q.length<=db/\∀p,H p=Aa->Q (.ref p) (upd H p (.lst (j++q)))
def hQ  : nc X (Pe .Add) rCat:=by
 intro J s σ H x y v u Q I rx O h;obtain⟨l,b,xs,zs,rfl,rfl,Z,hB,hz,q⟩:=h;cases rx;cases O;obtain⟨z,F,n,r,hl,e⟩:=I.lstM Z;obtain⟨z2,j,n2,r2,xa,Y⟩:=I.lstM hB;refine PySem.P.add_list e Y ?_ (by rw[Zc,Zc];lia)
 have R:F.toArray++j.toArray=(F++j).toArray:=by simp
 rw[R];exact⟨.ref _,_,I.lnew (t':=s.toks) (r.append r2) (by rw[gg];lia),rfl,q _ I.fresh⟩
def rRep  : R2:=λx y H Q=>∃l k j,x=.ref l/\y=.int k/\H l=da (.lst j)/\-(2 ^ 63)<=k/\k<2 ^ 63/\j.length*k.toNat<=db/\
 ∀p,H p=Aa->Q (.ref p) (upd H p (.lst (Db k.toNat j).flatten))
def Wy  {j:Type}(xs:List j) k:(Db k xs).flatten.length=k*xs.length:=by
 induction k with
 |zero=>simp
 |succ k q=>rw[Jj,Mo,gg,q,Nat.succ_mul,Nat.add_comm]
def DP  : nc X (Pe .Mult) rRep:=by
 intro xa s σ H x y v u Q I rx ry h;obtain⟨l,k,xs,rfl,rfl,hH,h1,h2,hz,q⟩:=h;cases rx;obtain⟨t,rfl⟩:=ry;obtain⟨z,j,n,r,hl,e⟩:=I.lstM hH;have O:j.toArray.size*k.toNat<=db:=by rw[Zc,<- hl];exact hz
 have Z:¬j.toArray.size*k.toNat>(2 ^ 63-1)/8:=by
  have:(db:Nat)<=(2 ^ 63-1)/8:=by decide
  lia
 have R:¬(!Builtin.List.listFitsIndex k)=ma:=by
  rw[fitsIndex_both h1 h2];exact Hd
 have J:¬Vw (j.toArray.size*k.toNat)=ma:=by
  rw[yF O];exact Hd
 have Y:Mq (λx1 x2=>x1++x2) #[] (Db (if j.toArray.isEmpty=ma then 0 else k.toNat) j.toArray)=(Db k.toNat j).flatten.toArray:=by
  have f0:∀m:Nat,Mq (λx1 x2=>x1++x2) #[] (Db m j.toArray)=(Db m j).flatten.toArray:=λm=>by
   have:=zz j m [];rw[Kg]at this;exact this
  rw[f0];cases j with
  |nil=>simp
  |cons a r'=>rw[if_neg (by simp)]
 refine XJ (T := "list") (U := "int") (by decide) ⟨_,e,rfl⟩ (λs'=>Iq s' k t) noFill_list_mul F.fills_int_mul cw repeat_list F.slot_int_index.lookup
  (Dg cw (Iq s k t) F.entry_int_rmul (F.args_int_rmul_2 _ _) (int___rmul___int_list k t l j.toArray n)
   ⟨e,rfl,⟨_,e,rfl⟩,Dg F.slot_list_mul ⟨_,e,rfl⟩ F.entry_list_mul (F.args_list_mul_2 _ _) (AutoListH.list___mul___list_int_3 l j.toArray n k t R Z J) ⟨e,?_⟩⟩)
 rw[Y];exact⟨.ref _,_,I.lnew (t':=s.toks) (r.rep k.toNat) (by rw[Wy,mw];exact hz),rfl,q _ I.fresh⟩






section
variable {κ:Type}[DecidableEq κ]
noncomputable def valV (kvs:List (κ×V))(k:κ):Option V:=(kvs.find? λj=>decide (j.1=k)).map (·.2)
noncomputable def putK (kvs:List (κ×V))(k:κ)(v:V):List (κ×V):=
 if (kvs.any λj=>decide (j.1=k))=ma then kvs.map (λj=>if j.1=k then (j.1,v) else j) else kvs++[(k,v)]
def mv    {k:κ}(e:p.1=k):valV (p::r) k=da p.2:=by simp[valV,Vk,e]
def jv    {k:κ}(e:¬p.1=k):valV (p::r) k=valV r k:=by simp[valV,Vk,e]
theorem nF  (k:κ):∀kvs ,(kvs.any λj=>decide (j.1=k))=(valV kvs k).isSome
 |[]=>rfl
 |p::r=>by
  rw[Vi];by_cases e:p.1=k
  ·simp only[mv e,decide_eq_true e,Bool.true_or,Option.isSome_some]
  ·rw[jv e,decide_eq_false e,fB];exact nF k r
def Mz  (kvs:List (κ×V)) k v:(putK kvs k v).length<=kvs.length+1:=by
 unfold putK;split
 ·rw[Ab];lia
 ·rw[gg,bf,Do];lia
def RelO.isSome_eq    (r:RelO o u):o.isSome=u.isSome:=by
 cases o with
 |none=>cases u with
  |none=>rfl
  |some _=>exact(show False from r).elim
 |some _=>cases u with
  |none=>exact(show False from r).elim
  |some _=>rfl
theorem RelO.getD      (r:RelO o u)(rd:RelV d d'):RelV (o.getD d) (u.getD d'):=by
 cases o with
 |none=>cases u with
  |none=>exact rd
  |some _=>exact(show False from r).elim
 |some _=>cases u with
  |none=>exact(show False from r).elim
  |some _=>exact r

def KV.val    (r:KV kvs vs)(k:κ):RelO (valV kvs k) (Pf vs k):=by
 unfold KV at r
 induction r with
 |nil=>exact Ei
 |@cons p q O j h t J=>
  obtain⟨F,I⟩:=h;by_cases e:p.1=k
  ·have y:q.1=k:=F.symm.trans e;have b:Pf (q::j) k=da q.2:=by simp[Pf,Vk,y]
   rw[mv e,b];exact I
  ·have y:¬q.1=k:=λz=>e (F.trans z);have b:Pf (q::j) k=Pf j k:=by simp[Pf,Vk,y]
   rw[jv e,b];exact J
theorem KV.any    (r:KV kvs vs)(k:κ):(kvs.any λj=>decide (j.1=k))=vs.any λj=>decide (j.1=k):=by
 unfold KV at r
 induction r with
 |nil=>rfl
 |cons h t q=>rw[Vi,Vi,q,h.1]
def KV.repl    (r:KV kvs vs)(k:κ)(I:RelV y u) :
  KV (kvs.map λj=>if j.1=k then (j.1,y) else j) (vs.map λj=>if j.1=k then (j.1,u) else j):=by
 unfold KV at r ⊢
 induction r with
 |nil=>exact .nil
 |@cons p q Y R h t O=>
  rw[He,He];refine .cons ?_ O;obtain⟨F,J⟩:=h;by_cases e:p.1=k
  ·rw[if_pos e,if_pos (F.symm.trans e)];exact⟨F,I⟩
  ·rw[if_neg e,if_neg (λz=>e (F.trans z))];exact⟨F,J⟩
def KV.put    (r:KV kvs vs)(k:κ)(j:RelV y u):KV (putK kvs k y) (stored vs k u):=by
 unfold putK stored;rw[r.any k];by_cases e:(vs.any λq=>decide (q.1=k))=ma
 ·rw[if_pos e,if_pos e];exact r.repl k j
 ·rw[if_neg e,if_neg e];exact ud.snoc r ⟨rfl,j⟩
def KV.length {kvs:List (κ×V)}{vs:List (κ×Da)}(r:KV kvs vs):kvs.length=vs.length:=bw r
end

def Hm      (r:RelV (kV k) u):(Sd P w).is k u=ma:=by
 cases k with
 |inl i=>obtain⟨t,e⟩:=(show ∃t,u=Nq i t from r);subst e;exact bW P w i t
 |inr x=>obtain⟨t,e⟩:=(show ∃t,u=Oq x t from r);subst e;exact cW P w x t
theorem ZF    : ∀{ks } {us },Vals (ks.map kV) us->ItemsAre (Sd P w) ks us
 |[],_,r=>by rw[Go]at r;cases r;exact .nil
 |k::ks,_,r=>by
  rw[He]at r;cases r with
  |cons h t=>exact .cons (Hm h) (ZF t)

abbrev KT  (H:Hp):List (List Wb×V)->List (List Wb×Ca×Da)->Prop:=ud λp q=>p.1=q.1/\H q.2.1=da (.tup (p.1.map kV))/\RelV p.2 q.2.2
def KT.val     (r:KT H kvs xs) k:RelO (valV kvs k) ((mh xs k).map (·.2)):=by
 induction r with
 |nil=>exact Ei
 |@cons p q O j h t J=>
  obtain⟨F,_,I⟩:=h;by_cases e:p.1=k
  ·have y:q.1=k:=F.symm.trans e;have b:mh (q::j) k=da q.2:=by simp[mh,Vk,y]
   rw[mv e,b];exact I
  ·have y:¬q.1=k:=λz=>e (F.trans z);have b:mh (q::j) k=mh j k:=by simp[mh,Vk,y]
   rw[jv e,b];exact J
def KT.repl     (r:KT H kvs xs) k (J:RelV y u) :
  KT H (kvs.map λF=>if F.1=k then (F.1,y) else F) (xs.map (putAt k u)):=by
 induction r with
 |nil=>exact .nil
 |@cons p q Z Y h t O=>
  rw[He,He];refine .cons ?_ O;obtain⟨j,I,R⟩:=h;unfold putAt;by_cases e:p.1=k
  ·rw[if_pos e,if_pos (j.symm.trans e)];exact⟨j,I,J⟩
  ·rw[if_neg e,if_neg (λz=>e (j.trans z))];exact⟨j,I,R⟩
def KT.put     (r:KT H kvs xs)(k:List Wb)(F:H b=da (.tup (k.map kV)))(j:RelV y u) :
  KT H (putK kvs k y) (storedH xs k b u):=by
 have e:(kvs.any λI=>decide (I.1=k))=(mh xs k).isSome:=by
  rw[nF,(r.val k).isSome_eq,MB]
 unfold putK storedH;rw[e];by_cases q:(mh xs k).isSome=ma
 ·rw[if_pos q,if_pos q];exact r.repl k j
 ·rw[if_neg q,if_neg q];exact ud.snoc r ⟨rfl,F,j⟩
def KT.keeps     (r:KT H kvs xs)(q:∀b j,H b=da (.tup j)->H' b=da (.tup j)):KT H' kvs xs:=
 Paired.mapP r λ_ _ z=>⟨z.1,q _ _ z.2.1,z.2.2⟩


def NC   (ok:Qd P w H h)(e:Rd H a u):ee P w H h a u:=e.ok ok
def tj   (ok:Qd P w H h)(e:Rd H a (.dK kvs)):kvs.length<=db/\(a==Ye)=ua/\∃vs,KV kvs vs/\h.DictOf (Sd P w) a vs:=
 show ee P w H h a (.dK kvs)from NC ok e
def DC   (ok:Qd P w H h)(e:H a=da (.dK kvs)):kvs.length<=db/\(a==Ye)=ua/\∃vs,KV kvs vs/\h.DictOf (Sd P w) a vs:=tj ok (.inl e)
def Tn   (ok:Qd P w H h)(e:H a=da (.tup (ks.map kV))):(Bo (Sd P w)).is h ks a:=by
 obtain⟨_,j,r,o,y,q,n,z,_⟩:=(show ee P w H h a (.tup (ks.map kV))from ok a _ e);exact⟨o,j.toArray,n,y,q,z,by simpa using ZF r⟩
def Dm   (ok:Qd P w H h)(e:Rd H a (.dT kvs)):kvs.length<=db/\(a==Ye)=ua/\
  ∃xs,KT H kvs xs/\h.DictOfH (Bo (Sd P w)) a xs:=by
 obtain⟨z,y,xs,r,o,I,O,J,Y,h3,R,Z⟩:=(show ee P w H h a (.dT kvs)from NC ok e);refine⟨z,y,xs,r,o,I,O,J,Y,h3,R,λx j=>?_,Z⟩;have all:∀{l:List (List Wb×V)} {m:List (List Wb×Ca×Da)},KT H l m->∀x∈m,(Bo (Sd P w)).is h x.1 x.2.1:=by
  intro l m q
  induction q with
  |nil=>intro x j;exact nomatch j
  |@cons p q ps qs F t ih=>
   intro x j;rcases Mc.mp j with e|j
   ·subst e;exact Tn ok (by rw[<- F.1];exact F.2.1)
   ·exact ih x j
 exact all r x j
def vM   (ok:Qd P w H h)(e:H a=da (.dT kvs)):kvs.length<=db/\(a==Ye)=ua/\
  ∃xs,KT H kvs xs/\h.DictOfH (Bo (Sd P w)) a xs:=Dm ok (.inl e)

def DGet  (H:Hp)(a:Ca)(y:V)(r:Option V):Prop:=
 (∃j k,Rd H a (.dK j)/\y=kV k/\r=valV j k)\/∃j k b,Rd H a (.dT j)/\y=.ref b/\H b=da (.tup (k.map kV))/\r=valV j k
def DPut  (H:Hp)(a:Ca)(y v:V)(H':Hp):Prop:=
 (∃j k,H a=da (.dK j)/\y=kV k/\j.length<db/\H'=upd H a (.dK (putK j k v)))\/
 ∃j k b,H a=da (.dT j)/\y=.ref b/\H b=da (.tup (k.map kV))/\j.length<db/\H'=upd H a (.dT (putK j k v))
def DGet.k     {k:Wb}(e:H a=da (.dK kvs)):DGet H a (kV k) (valV kvs k):=.inl ⟨kvs,k,.inl e,rfl,rfl⟩
def DGet.t     {k:List Wb}(e:H a=da (.dT kvs))(j:H b=da (.tup (k.map kV))):DGet H a (.ref b) (valV kvs k):=.inr ⟨kvs,k,b,.inl e,rfl,j,rfl⟩
def DPut.k     {k:Wb}(e:H a=da (.dK kvs))(j:kvs.length<db):DPut H a (kV k) v (upd H a (.dK (putK kvs k v))):=.inl ⟨kvs,k,e,rfl,j,rfl⟩
def DPut.t     {k:List Wb}(e:H a=da (.dT kvs))(q:H b=da (.tup (k.map kV)))(j:kvs.length<db) :
  DPut H a (.ref b) v (upd H a (.dT (putK kvs k v))):=.inr ⟨kvs,k,b,e,rfl,q,j,rfl⟩


def Pa.big  {j: St}(I:Pa X pins j H s):Ye<s.heap.objs.size:=by
 have h:Ke<s.heap.objs.size:=(I.mod.glob.keeps I.bk).lt;exact BA (by decide) h

def xT  {σ: St}(hu:A.units+1<Sb)(I:Pa X pins σ H s)(g:DGet H a y (da v))(ry:RelV y u)(h:∀F s',Pa X pins σ H s'->RelV v F->Q F s') :
  wpAny (Ja X.prog X.w) A (Xc (.ref a) u) Q E s:=by
 rcases g with⟨Y,k,e,Z,l⟩|⟨Y,k,b,e,Z,eb,l⟩
 ·subst Z;obtain⟨z,hd,vs,j,J⟩:=tj I.hok e;obtain⟨F,R,q⟩:=RelO.some_of (v:=v) (o:=Pf vs k) (by rw[l];exact j.val k)
  exact wpAny_getItem_of (Hm ry) J.mapOf R (h F _ (I.tok _) q)
 ·subst Z;cases(show u=Bg b from ry);obtain⟨z,hd,xs,j,J⟩:=Dm I.hok e;obtain⟨F,R,q⟩:=RelO.some_of (v:=v) (o:=(mh xs k).map (·.2)) (by rw[l];exact j.val k)
  obtain⟨p,hp,O⟩:=Option.map_eq_some_iff.mp R;refine wpAny_getItem_heap (Qq hu) (Tn I.hok eb) J hp ?_;rw[O];exact h F _ (I.tok _) q
def d_in  {Y: St}(hu:A.units+1<Sb)(I:Pa X pins Y H s)(g:DGet H a y o)(R:RelV y u)(h:∀s',Pa X pins Y H s'->Q (.bool o.isSome) s') :
  wpAny (Ja X.prog X.w) A (Ed .In u (.ref a)) Q E s:=by
 rcases g with⟨J,k,e,O,l⟩|⟨J,k,b,e,O,eb,l⟩
 ·subst O;obtain⟨z,hd,vs,j,F⟩:=tj I.hok e;refine wpAny_in_of (Hm R) hd F.mapOf ?_;rw[<- (j.val k).isSome_eq,<- l];exact h _ (I.tok _)
 ·subst O;cases(show u=Bg b from R);obtain⟨z,hd,Z,j,F⟩:=Dm I.hok e;refine wpAny_in_heap (Qq hu) (Tn I.hok eb) hd F ?_;have q:=(j.val k).isSome_eq;rw[MB]at q;rw[<- q,<- l];exact h _ (I.tok _)
def VQ  {Y: St}(hu:A.units+1<Sb)(I:Pa X pins Y H s)(g:DGet H a y o)(R:RelV y u)(h:∀s',Pa X pins Y H s'->Q (.bool (!o.isSome)) s') :
  wpAny (Ja X.prog X.w) A (Ed .NotIn u (.ref a)) Q E s:=by
 rcases g with⟨J,k,e,O,l⟩|⟨J,k,b,e,O,eb,l⟩
 ·subst O;obtain⟨z,hd,vs,j,F⟩:=tj I.hok e;refine wpAny_notIn_of (Hm R) hd F.mapOf ?_;rw[<- (j.val k).isSome_eq,<- l];exact h _ (I.tok _)
 ·subst O;cases(show u=Bg b from R);obtain⟨z,hd,Z,j,F⟩:=Dm I.hok e;refine wpAny_notIn_heap (Qq hu) (Tn I.hok eb) hd F ?_;have q:=(j.val k).isSome_eq;rw[MB]at q;rw[<- q,<- l];exact h _ (I.tok _)
def Gy  {j: St}(I:Pa X pins j H s)(J:yr (H a))(hs:xo a s.heap h')(O:∃q,h'.get? a=da q)(new:ee X.prog X.w (upd H a y) h' a y) :
  Pa X pins j (upd H a y) { s with heap:=h',toks:=t' }:=
 I.write (x:=a) (e:=a) J (.inl rfl) (λb q F z=>(hs.2 b F).trans z) O new
def WD        (z:kvs.length<=db)(hd:(a==Ye)=ua)(j:KV kvs vs)(q:h'.DictOf (Sd P w) a vs) :
  ee P w H' h' a (.dK kvs):=⟨z,hd,vs,j,q⟩
def yT  {σ: St}(hu:A.units+1<Sb)(I:Pa X pins σ H s)(g:DPut H a y v H')(ry:RelV y u)(rv:RelV v r)(h:∀s',Pa X pins σ H' s'->Q () s') :
  wpAny (Ja X.prog X.w) A (lj (.ref a) u r) Q E s:=by
 rcases g with⟨F,k,e,ey,l,Z⟩|⟨F,k,b,e,ey,eb,l,Z⟩
 ·subst ey Z;obtain⟨z,hd,vs,j,R⟩:=DC I.hok e;have hz:vs.length<=db:=by rw[<- j.length];exact z
  have hl:(putK F k v).length<=db:=by have:=Mz F k v;lia
  refine wpAny_setItem_pairs (hsz:=hz) (Hm ry) R λh' J Y=>h _ ?_;have he:∃q,h'.get? a=da q:=let ⟨q,_,_,O,_⟩:=J;⟨q,O⟩
  exact Gy I (by rw[e];exact Ei) Y he (WD hl hd (j.put k rv) J)
 ·subst ey Z;cases(show u=Bg b from ry);obtain⟨z,hd,xs,j,R⟩:=vM I.hok e;have hz:xs.length<=db:=by rw[<- bw j];exact z
  have hl:(putK F k v).length<=db:=by have:=Mz F k v;lia
  refine wpAny_setItem_heap (hsz:=hz) (Qq hu) (Tn I.hok eb) R λh' J Y=>h _ ?_;obtain⟨q,es,ep,O,h2,h3,h4,_,h5⟩:=J;refine Gy I (by rw[e];exact Ei) Y ⟨q,O⟩ ⟨hl,hd,_,(j.put k eb rv).keeps λc ys ec=>?_,q,es,ep,O,h2,h3,h4,h5⟩
  rw[Gc (PN ec e (λz=>nomatch z))];exact ec


def uM  {q: St}(I:Pa X pins q H s)(e:Rd H a (.dK kvs))(h:∀t s',Pa X pins q H s'->Q (.int kvs.length t) s'):wpAny (Ja X.prog X.w) A (call (.builtin "len") [.ref a]) Q E s:=by
 obtain⟨z,hd,F,j,y⟩:=tj I.hok e;refine call_len_dict hd y (by rw[<- j.length];rw[Fi]at z;lia) ?_
 rw[<- j.length];exact h _ _ (I.tok _)

def SV    {z:St}(I:Pa X pins z H s)(g:DGet H a y o):s.TypeIs (.ref a) "dict" := by
 rcases g with⟨q,k,e,_,_⟩|⟨q,k,b,e,_,_,_⟩
 ·obtain⟨_,_,J,_,j⟩:=tj I.hok e;exact j.typeIs
 ·obtain⟨_,_,F,_,j⟩:=Dm I.hok e;exact j.typeIs


def LF     (h:Wa)(j:Ye<h.objs.size):ee P w H (h.push { cls:=.type "dict",data:=.dict #[] }) h.objs.size (.dK []):=
 ⟨Eg _,beq_eq_false_iff_ne.mpr (Xa (Ae j)),[],.nil,Wa.DictOf.new h⟩
def BP  : TE:=λ_ H Q=>∀p,H p=Aa->Q (.ref p) (upd H p (.dK []))

def OT  : PE X (.Dict [] [] pos) BP:=λj s y H Q I h=>
 wpAny_Dict_empty ⟨.ref s.heap.objs.size,_,I.laid (a:=s.heap.objs.size) (o:=.dK []) (t':=s.toks) (λ_ _ q=>Ac _ q) (Jb _) (LF s.heap I.big),rfl,h _ (I.hok.fresh (Jb _))⟩

def zu  : List (TE×TE)->St->Hp->(List (V×V)->Hp->Prop)->Prop
 |[],_,H,Q=>Q [] H
 |(tk,tv)::r,σ,H,Q=>tk σ H λx z=>tv σ z λy q=>zu r σ q λF j=>Q ((x,y)::F) j
abbrev VV  : List (V×V)->List (Da×Da)->Prop:=ud λp q=>RelV p.1 q.1/\RelV p.2 q.2
def Cn  (X:Cx)(pos:Pos)(y:List (Option Na))(j:List Na)(z:List (TE×TE)):Prop:=
 ∀(q:List (Ca×Obj)) (s:Fa) (σ:St) (H:Hp) (Q:List (V×V)->Hp->Prop),Pa X q σ H s->zu z σ H Q->
  wpAny (Ja X.prog X.w) X.A (evalPairs (pairTrees y j X.env pos)) (λO J=>∃I F,Pa X q σ F J/\VV I O/\Q I F) X.xe s
def tS    : Cn X pos [] [] []:=λj s q H Q I h=>pairTrees_nil_walk ⟨[],H,I,.nil,h⟩
def ZT         (hk:PE X k tk)(Z:PE X v tv)(hr:Cn X pos ks vs q) :
  Cn X pos (da k::ks) (v::vs) ((tk,tv)::q):=λj s F H Q I h=>
 pairTrees_cons_walk (Pb (hk j s F H _ I h) λu s1 ⟨x,H1,Y,rx,q1⟩=>Pb (Z j s1 F H1 _ Y q1) λw2 s2 ⟨y,J,I2,ry,q2⟩=>
  Pb (hr j s2 F J _ I2 q2) λws s3 ⟨O,H3,R,z,q3⟩=>⟨(x,y)::O,H3,R,.cons ⟨rx,ry⟩ z,q3⟩)

def Lm  (kvs j:List (Wb×V)):List (Wb×V):=j.foldl (λq y=>putK q y.1 y.2) kvs
def KV.merge  : ∀{j } {rs } {kvs } {vs },KV j rs->KV kvs vs->KV (Lm kvs j) (merged vs rs):=by
 intro j rs kvs vs r;unfold KV at r
 induction r generalizing kvs vs with
 |nil=>intro q;exact q
 |@cons p q J I h t y=>
  intro F;have e:KV (putK kvs p.1 p.2) (stored vs q.1 q.2):=by
   have:=F.put p.1 h.2;rw[<- h.1];exact this
  exact y e
theorem tI  : ∀(j kvs:List (Wb×V)),(Lm kvs j).length<=kvs.length+j.length
 |[],kvs=>by show kvs.length<=kvs.length+0;lia
 |p::r,kvs=>by
  have y:=tI r (putK kvs p.1 p.2);have q:=Mz kvs p.1 p.2;show(Lm (putK kvs p.1 p.2) r).length<=_;rw[bf];lia
theorem qG    : ∀{kvs } {ws },VV (kvs.map λj=>(kV j.1,j.2)) ws->∃rs,Carries (Sd P w) ws rs/\KV kvs rs
 |[],_,r=>by rw[Go]at r;cases r;exact⟨[],Ei,.nil⟩
 |p::kvs,_,r=>by
  rw[He]at r;cases r with
  |@cons a b F bs h t=>
   obtain⟨rs,c,q⟩:=qG (P:=P) (w:=w) t;obtain⟨z,y⟩:=b;exact⟨(p.1,y)::rs,⟨Hm h.1,rfl,c⟩,.cons ⟨rfl,h.2⟩ q⟩
def LM  (q:List (TE×TE)):TE:=λF H Q=>∀p,H p=Aa->zu q F (upd H p (.dK [])) λI z=>z p=da (.dK [])/\∃j:List (Wb×V),I=j.map (λy=>(kV y.1,y.2))/\j.length<=15/\Q (.ref p) (upd z p (.dK (Lm [] j)))
def gS       (h:Cn X pos j y Y)(F:j.all (·.isSome)=ma)(hl:j.length=y.length)(h0:j≠[])
  (xa:j.length<=15):PE X (.Dict j y pos) (LM Y):=by
 intro J s σ H Q I q;have hn:=I.hok.fresh (Jb s.heap.objs.size);have I1:=I.laid (a:=s.heap.objs.size) (o:=.dK []) (h':=s.heap.push { cls:=.type "dict",data:=.dict #[] }) (t':=s.toks) (λ_ _ q=>Ac _ q) (Jb _) (LF s.heap I.big);refine wpAny_Dict_walk (knd:=Sd X.prog X.w) F hl h0 xa (Pb (h J _ σ _ _ I1 (q _ hn)) λws s2 ⟨ps,H2,I2,Z,e,O,ep,lk,q2⟩=>?_);subst ep;obtain⟨rs,c,rk⟩:=qG (P:=X.prog) (w:=X.w) Z;obtain⟨z,hd,za,r0,dd⟩:=DC I2.hok e;cases r0;refine⟨rs,c,dd,λh' R hs=>⟨.ref s.heap.objs.size,_,?_,rfl,q2⟩⟩;have hz:(Lm [] O).length<=db:=by
  have h1:=tI O [];rw[Do]at h1;rw[Fi];lia
 have he:∃q,h'.get? s.heap.objs.size=da q:=let ⟨q,_,_,hq,_⟩:=R;⟨q,hq⟩
 exact Gy I2 (by rw[e];exact Ei) hs he (WD hz hd (rk.merge .nil) R)

def ZW  (H:Hp)(a:Ca):Prop:=(∃j,Rd H a (.dK j))\/∃j,Rd H a (.dT j)
def wD    {O:St}(I:Pa X pins O H s)(d:ZW H a) :
  s.TypeIs (.ref a) "dict" /\ (∀b,Bg a=.ref b->∃j,s.heap.get? b=da j/\j.dict=Aa)/\(a==Ye)=ua:=by
 rcases d with⟨z,e⟩|⟨z,e⟩
 ·obtain⟨_,hd,Y,_,y⟩:=tj I.hok e;refine⟨y.typeIs,λb q=>?_,hd⟩;cases q;obtain⟨j,_,_,J,F,_⟩:=y;exact⟨j,J,F.2.1⟩
 ·obtain⟨_,hd,R,_,y⟩:=Dm I.hok e;refine⟨y.typeIs,λb q=>?_,hd⟩;cases q;obtain⟨j,_,_,J,F,_⟩:=y;exact⟨j,J,F.2.1⟩


def FO  {R: St}(hu:A.units+1<Sb)(I:Pa X pins R H s)(g:DGet H a y o)(O:RelV y u)(rd:RelV d r)(h:∀Y s',Pa X pins R H s'->RelV (o.getD d) Y->Q Y s') :
  wpAny (Ja X.prog X.w) A (call (.builtin "dict.get") [.ref a,u,r]) Q E s:=by
 rcases g with⟨F,k,e,J,l⟩|⟨F,k,b,e,J,eb,l⟩
 ·subst J;obtain⟨z,hd,vs,j,q⟩:=tj I.hok e;refine Xv Cw q.typeIs ZK (DK _ _ _) (meets_dict_get_default (Sd X.prog X.w) a (Hm O) hd r) ⟨_,q.mapOf,h _ _ (I.tok _) ?_⟩;rw[l];exact(j.val k).getD rd
 ·subst J;cases(show u=Bg b from O);obtain⟨z,hd,Z,j,q⟩:=Dm I.hok e;refine Xv Cw q.typeIs ZK (DK _ _ _) (meetsH_dict_get_default (Bo (Sd X.prog X.w)) a b hd r) ⟨Qq hu,k,Z,Tn I.hok eb,q,h _ _ (I.tok _) ?_⟩;rw[l];exact(j.val k).getD rd






end L2

namespace Att
open PySem PySem.W PySem.Calls PyProof.Rows

def DW    : ∀(ns:List Int) vs ,WellAll P h vs (ns.map WData.int)->Ob vs ns:=by
 intro ns
 induction ns with
 |nil=>
  intro vs w;rw[Go]at w;cases w;exact .nil
 |cons n ns j=>
  intro vs w;rw[He]at w;cases w with
  |cons a b=>
   cases a;exact .cons _ _ (j _ b)

def NV  {l:nj}(Z:l.most=da n) 
  (j:l.row.toRowW.claim.pre args=ma) (R:WellAll P h y args) :
  ∃a vs ns,y=[Bg a]/\args=[WData.list (ns.map WData.int)]/\h.get? a=da { cls:=.type "list",data:=.seq vs.toArray }/\Ob vs ns/\ns.length<=n:=by
 have O:Bp.hasAll [] args [.list .int]=ma:=(pre_splitW j).1;have Y:l.pre.holds [] { args:=args }=ma:=(pre_splitW j).2;obtain⟨d,r,rfl,h1,h2⟩:=hasAllW_cons O;obtain rfl:=hasAllW_nil h2;obtain⟨xs,rfl,h3⟩:=hasW_list h1;obtain⟨ns,rfl⟩:=items_int h3;have F:ns.length<=n:=by
  unfold nj.pre at Y;have I:(WTm.not (.lt (.lit (.int (n:Int))) (.len (.arg 0)))).holds [] { args:=[.list (ns.map .int)] }=ma:=by
   have I:=(holds_andW Y).1;rw[Z]at I;exact I
  have J:=condW_of I (w_not (w_lt w_lit (w_len_list (w_arg rfl))));rw[Ab]at J;refine Nat.le_of_not_lt λq=>?_;have q':(n:Int)<((ns.length:Nat):Int):=by lia
  first
   |(rw[decide_eq_true q']at J;exact absurd J (by decide))
   |(simp at J;lia)
 cases R with
 |cons w1 w2=>
  cases w2;cases w1 with
  |list ho z=>exact⟨_,_,ns,rfl,rfl,ho,DW ns _ z,F⟩

def LU  (l:nj) args:l.row.toRowW.claim.post args (.bool ma) args=ma:=
 postW_of (r:=l.row.toRowW) (X:=(ma==ma))
  (show Bp.has [] (.bool ma) .bool=ma by first|rfl|decide|simp[Bp.has,Bp.arms,Bp.armsAll])
  (show(WTm.eq .res (.lit (.bool ma))).value [] { args:=args,res:=da (.bool ma),after:=args }=da (.bool (ma==ma))from w_eq_bool (w_res rfl) w_lit) rfl

def attach_call  {l:nj} 
  (hn:l.most=da n) (ja:d.params.defaults=[])
  (call:∀(w:Bb) (s₀ j:Fa) mg mb J (o:Obj) Z cd y a (vs:List Da) (ns:List Int),
   Ground q loose [] XP w s₀ mg mb j.heap->YP w j.heap->
   j.heap.get? J=da o->o.data=.func (docDef d.name d.params d.body d.scope Z cd y)->j.heap.CodeRec cd d.name->mg d.name=da (.ref J)->
   j.heap.get? a=da { cls:=.type "list",data:=.seq vs.toArray }->Ob vs ns->ns.length<=n->j.gens=#[]->
   codeAny (Ja l.prog w) Yg (.call (.ref J) ⟨[.ref a],[]⟩) (λr s'=>r=.ok (.ret (.bool ma))/\OldK j.heap s'.heap/\s'.os=j.os/\ue s'.gens) j) :
  WalkO q loose XP YP l.row.toRowW d [] (λf vs=>GA f vs):=by
 intro w s₀ j mg mb G Y J o Z cd y dV kV ho hd xa hD R hg va ya as I wa ha za ka;obtain rfl:dV=.none:=Dflts.none hD ja;obtain rfl:kV=.none:=Dflts.noKw hD;obtain⟨a,vs,ns,rfl,rfl,O,z,F⟩:=NV hn I za;refine enter_call (Io (call w s₀ j mg mb J o Z cd y a vs ns G Y ho (fd_plain hd) xa R O z F hg) λr s' hq=>?_);obtain⟨rfl,h2,h3,h4⟩:=hq;exact⟨.inl ⟨.bool ma,.bool ma,[],rfl,λ_=>rfl,.bool ma,LU l _,λ_=>⟨CK,λ_ hm=>(nomatch hm)⟩⟩,h2,h3,h4⟩


end Att

namespace L2
open PySem PySem.Spec PyProof.Rows

theorem tG  : ∀{vs } {ns },Ob vs ns->Vals (ns.map V.int) vs
 |_,_,.nil=>.nil
 |_,_,.cons n t h=>.cons ⟨t,rfl⟩ (tG h)



noncomputable def Vu  (s:Qa)(j:Nat):Qa:=match s with
 |.ClassDef _ _ _ q _ _ _ _ _ _ _=>q.getD j (.Pass ⟨0,0,0,0⟩)
 |_=>.Pass ⟨0,0,0,0⟩
def Jg  (s:Qa):Arguments:=match s with
 |.FunctionDef _ a _ _ _ _ _ _ _ _=>a
 |_=>{ posonlyargs:=[],args:=[],vararg:=Aa,kwonlyargs:=[],kw_defaults:=[],kwarg:=Aa,defaults:=[] }
def Md  (s:Qa):List Qa:=match s with
 |.FunctionDef _ _ b _ _ _ _ _ _ _=>b
 |_=>[]
def ic  (s:Qa):Rc:=match s with
 |.FunctionDef _ _ _ _ _ _ j _ _ _=>j
 |_=>{ kind:=.function,names:=[],isGenerator:=ua,isCoroutine:=ua }

abbrev E0  : XK:=λ_ _ _=>False
structure Fun (K:Eb)(x qual:Str)(st:Qa)(f:Ca)(fd:vo):Prop where
 ex:∃(oc:Da) (od:Option Ca) (kV doc pm:Da) (an:Option Ca) (cdv ct:Da) (osl:Array (Option Da)),
  fd=Lj x qual (Jg st) (Md st) (ic st) .none kV doc pm an cdv ct/\K.lookup f=da ⟨oc,od,.func fd,osl⟩/\Wq K cdv qual=ma
 kp:Xq K (.ref f)=ma

def Fun.binds  {K: Eb}{st:Qa}(F:Fun K x qual st f fd)
  (h:∀kV q I y j ct (us:List Da),us.length=ps.length->Fq (Lj x qual (Jg st) (Md st) (ic st) .none kV q I y j ct) ⟨us,[]⟩=pure (ps.zip us)):Binds K fd ps []:=by
 obtain⟨Z,Y,kV,q,I,y,j,ct,J,rfl,R,O⟩:=F.ex;exact .all (h kV q I y j ct)
def qD  {K: Eb}{st:Qa}{kV q z j ct:Da}(l:K.lookup f=da ⟨J,I,.func (Lj x qual (Jg st) (Md st) (ic st) .none kV q z F j ct),y⟩)
  (c:Wq K j qual=ma) (k:Xq K (.ref f)=ma):Fun K x qual st f (Lj x qual (Jg st) (Md st) (ic st) .none kV q z F j ct):=⟨⟨J,I,kV,q,z,F,j,ct,y,rfl,l,c⟩,k⟩
def BM    (j:Room k A):A.units+1<Sb:=Ug (Qw (by decide:1<=64) _) j.units



def uT  : rf X (.builtin "len") (λxs H Q=>∃a kvs,xs=[V.ref a]/\H a=da (.dK kvs)/\Q (.int kvs.length) H):=by
 intro j s J H xs R Q I r h;obtain⟨a,kvs,rfl,F,q⟩:=h;obtain⟨u,rfl,y⟩:=fh r;cases y;exact uM I (.inl F) λt O z=>⟨.int kvs.length,H,z,⟨t,rfl⟩,q⟩
section
variable {κ:Type}[DecidableEq κ]
end
end L2

namespace L2
open PySem PySem.Spec PyProof.Rows


noncomputable def My  (env:Env)(ifs:List Na):Sem Bool:=forIn ifs ma λc r=>ite (r=ma) (tf c env (Lb c env) >>= λb=>pure (.yield b)) (pure (.yield r))
def rq  (q:Pos)(j:Na)(ifs:List Na)(it:Da)(env:Env)(em:Sem Unit)(next:Code):Sem Fin:=
 Qf q >>= λ_=>pyNext it >>= λr=>match r with
  |none=>pure (.done .next)
  |some v=>Vq j it v >>= λ_=>Dc j env v >>= λ_=>My env ifs >>= λok=>ite (ok=ma) (em >>= λ_=>again next) (again next)
def IR  (M:Model)(A:ac)(q:Na)(ifs:List Na)(it:Da)(env:Env)(em:Sem Unit)(j:Fa->Prop)(less:Fa->Prop):Option Da->Fa->Prop
 |none,s=>j s
 |some v,s=>wpAny M A (Vq q it v) (λ_ s=>wpAny M A (Dc q env v) (λ_ s=>wpAny M A (My env ifs) (λok s=>if ok=ma then wpAny M A em (λ_ s=>less s) (λ_ _=>False) s else less s) (λ_ _=>False) s) (λ_ _=>False) s) (λ_ _=>False) s
def lW             (I : Nat -> Fa -> Prop)
    (y : wo (.ListComp elt gens scope pos) z it acc env = rq O j ifs it env em (.compLoop (.ListComp elt gens scope pos) z it acc env))
    (q : ∀ k t, I k t -> wpAny (Ja prog w) A (pyNext it) (IR (Ja prog w) A j ifs it env em (R (.ok .next)) λt => ∃ m, m < k /\ I m t) (λ_ _ => False) t)
     n (h : I n s) : codeAny (Ja prog w) A (.compLoop (.ListComp elt gens scope pos) z it acc env) R s := by
  have no : ∀ {Z : Da -> Fa -> Prop} (e : Da) (t : Fa), False -> Z e t := λ_ _ f => f.elim
  refine codeAny_loop rfl I (λk t hk => wpAny_noted (m := wo (.ListComp elt gens scope pos) z it acc env) (y ▸ ?_)) n h
  refine ub (ww (ub (Zf (q k t hk) (λr t1 p => ?_) no)))
  match r, p with
  | none, p => exact uc p
  | some v, p =>
    refine ub (Zf p (λ_ t2 p => ub (Zf p (λ_ t3 p => ub (Zf p (λok F p => ?_) no)) no)) no)
    match ok, p with
    | false, p => exact uc ⟨rfl, p⟩
    | true, p => exact ub (Zf p (λ_ J p => uc ⟨rfl, p⟩) no)

theorem Zz  (env:Env):∀(names:List (Str×Mf)) acc ,(∀y∈names,y.2=.free->∃c,env.cells.lookup y.1=da c)->
  ∃cl ,(forIn names acc (λ(y:Str×Mf) cs=>(if (y.2==Se)=ma then (do let c <- Ap env y.1;pure (ForInStep.yield ((y.1,c)::cs))) else pure (ForInStep.yield cs):Sem (ForInStep (List (Str×Ca))))):Sem (List (Str×Ca)))=pure cl/\
   (∀x c,(x,c)∈cl->(x,c)∈acc\/(env.cells.lookup x=da c/\(x,Se)∈names))/\(∀p∈acc,p∈cl)/\(∀y∈names,y.2=.free->∃c,(y.1,c)∈cl)
 |[],acc,_=>⟨acc,rfl,λ_ _ h=>.inl h,λ_ h=>h,λ_ h=>nomatch h⟩
 |(n,k)::r,acc,h=>by
  by_cases hk:k=.free
  ·subst hk;obtain⟨c,Y⟩:=h (n,.free) Re rfl;obtain⟨cl,e,I,F,J⟩:=Zz env r ((n,c)::acc) λy j=>h y (Oc _ j);refine⟨cl,?_,λx d hd=>?_,λp R=>F p (Oc _ R),λy j q=>?_⟩
   ·rw[XA];have:(Ap env n:Sem Ca)=pure c:=by unfold Ap;rw[Y]
    simp_all
   ·grind
   grind
  ·obtain⟨cl,e,I,F,J⟩:=Zz env r acc λy j=>h y (Oc _ j);have O:(k==Se)=ua:=by simpa using hk
   refine⟨cl,?_,λx d hd=>?_,F,λy j q=>?_⟩
   ·rw[XA];simp only[O,Qo,if_false,pure_bind];exact e
   ·rcases I x d hd with z|⟨z,z'⟩
    ·exact .inl z
    ·exact .inr ⟨z,Oc _ z'⟩
   ·rcases Mc.mp j with z|z
    ·subst z;exact absurd q hk
    ·exact J y z q
theorem uI  {j:Type}:∀{l:List (Str×j)} {x } {c },(x,c)∈l->∃d,l.lookup x=da d/\(x,d)∈l
 |(n,k)::r,x,c,h=>by
  cases q:x==n with
  |true=>
   simp_all
  |false=>
   rcases Mc.mp h with z|z
   ·lia
   ·obtain⟨d,e,m⟩:=uI z
    grind
def rG    (h:∀y∈scope.names,y.2=.free->∃c,env.cells.lookup y.1=da c) :
  ∃cl ,Qv scope env=pure cl/\(∀x c,cl.lookup x=da c->env.cells.lookup x=da c)/\(∀y∈scope.names,y.2=.free->∃c,cl.lookup y.1=da c):=by
 obtain⟨cl,e,J,_,O⟩:=Zz env scope.names [] h;refine⟨cl,?_,λx c j=>?_,λy F q=>?_⟩
 ·unfold Qv
  simp_all
 ·rcases J x c (fg j)with z|⟨z,_⟩
  ·simp_all
  lia
 ·obtain⟨c,I⟩:=O y F q;obtain⟨d,e,_⟩:=uI I
  simp_all

noncomputable def ce  (X:Cx)(N:List Str)(scope:Rc)(cl:List (Str×Ca))(C:Ca)(s₀:Fa)(H₀:Hp)(j:List Ca):Cx where
 prog:=X.prog
 w:=X.w
 K:=X.K
 mg:=X.mg
 base:=X.base
 A:=X.A
 N:=N
 s₀:=s₀
 H₀:=H₀
 env:=compEnvC scope cl C X.env
 outer:=X.stack
 stack:=X.stack
 ex:=j
 fn:=λx=>scope.names.lookup x==da .cell
 calm:=X.calm
 pn:=[]
 xe:=λ_ _=>False

noncomputable def gX  (z:List Str)(q:List (Str×Mf))(N:List Str)(pick:List (Option Nat))(scope:Rc):Bool:=
 decide (scope.kind=.function)&&scope.names.all (λy=>y.2 != .cell||scope.names.lookup y.1==da .cell)&&scope.names.all (λy=>y.2 != .local||scope.names.lookup y.1==da .local)
  && scope.names.all (λy=>y.2 != .free||(scope.names.lookup y.1==da .free&&(q.lookup y.1==da .cell||q.lookup y.1==da .free)))
  && pick.length==N.length&&(N.zip pick).all (λp=>match p.2 with|none=>ma|some j=>z[j]?==da p.1&&scope.names.lookup p.1==da .free)

structure CScope (X:Cx)(N:List Str)(pick:List (Option Nat))(scope:Rc):Prop where
 kind:scope.kind=.function
 cells:∀y∈scope.names,y.2=.cell->scope.names.lookup y.1=da .cell
 names:∀y∈scope.names,y.2=.local->scope.names.lookup y.1=da .local
 fre:∀y∈scope.names,y.2=.free->scope.names.lookup y.1=da .free/\(X.env.kindOf y.1=da .cell\/X.env.kindOf y.1=da .free)
 len:pick.length=N.length
 caps:∀(i j:Nat) (x:Str),N[i]?=da x->pick[i]?=da (da j)->X.N[j]?=da x/\scope.names.lookup x=da .free
theorem vH  (f:Str->Mf->Mf):∀(names:List (Str×Mf)) x ,(names.map λy=>(y.1,f y.1 y.2)).lookup x=(names.lookup x).map (f x)
 |[],_=>rfl
 |(n,k)::r,x=>by
  rw[He,Xi,Xi,vH f r x];by_cases e:x=n
  ·subst e;rw[beq_self_eq_true];rfl
  ·rw[beq_false_of_ne e]
noncomputable def BD  (env:Env)(n:Str)(k:Mf):Mf:=if (k==Se&&env.scope.kind == .function&&env.kindOf n==da .cell) then .cell else k
def zI (env:Env)(names:List (Str×Mf))(x:Str) :
  (names.map λ(n,k)=>if (k==Se&&env.scope.kind == .function&&env.kindOf n==da .cell) then (n,Of) else (n,k)).lookup x=(names.lookup x).map (BD env x):=by
 rw[<- vH (BD env)];congr 2;funext y;show ite _ _ _=(y.1,ite _ _ _)
 lia
def JI {env:Env}{names:List (Str×Mf)}{x:Str}(h:names.lookup x=da .free) :
  (names.map λ(n,k)=>if (k==Se&&env.scope.kind == .function&&env.kindOf n==da .cell) then (n,Of) else (n,k)).lookup x=da .cell\/
  (names.map λ(n,k)=>if (k==Se&&env.scope.kind == .function&&env.kindOf n==da .cell) then (n,Of) else (n,k)).lookup x=da .free:=by
 rw[zI,h];show da (ite _ _ _)=_\/da (ite _ _ _)=_
 lia
def cA {env:Env}{q:Mf}(j:q≠.free){names:List (Str×Mf)}{x:Str}(h:names.lookup x=da q) :
  (names.map λ(n,k)=>if (k==Se&&env.scope.kind == .function&&env.kindOf n==da .cell) then (n,Of) else (n,k)).lookup x=da q:=by
 rw[zI,h];show da (ite _ _ _)=_
 lia
theorem VI {env:Env}:∀{names:List (Str×Mf)} {x:Str},
  ((names.map λ(n,k)=>if (k==Se&&env.scope.kind == .function&&env.kindOf n==da .cell) then (n,Of) else (n,k)).lookup x=da .cell\/
  (names.map λ(n,k)=>if (k==Se&&env.scope.kind == .function&&env.kindOf n==da .cell) then (n,Of) else (n,k)).lookup x=da .free)->(x,Se)∈names\/(x,Of)∈names
 |[],_,h=>by simp at h
 |(n,k)::r,x,h=>by
  have F:_->_:=@VI env r x;have j:xA x ((if (k==Se&&env.scope.kind == .function&&env.kindOf n==da .cell)=ma then (n,Of) else (n,k))::r.map λ(n,k)=>if (k==Se&&env.scope.kind == .function&&env.kindOf n==da .cell) then (n,Of) else (n,k))=da .cell\/xA x ((if (k==Se&&env.scope.kind == .function&&env.kindOf n==da .cell)=ma then (n,Of) else (n,k))::r.map λ(n,k)=>if (k==Se&&env.scope.kind == .function&&env.kindOf n==da .cell) then (n,Of) else (n,k))=da .free:=h
  by_cases hk:k=.free
  ·cases q:x==n with
   |true=>simp_all
   |false=>
    refine(F ?_).imp (Oc _) (Oc _);by_cases y:(k==Se&&env.scope.kind == .function&&env.kindOf n==da .cell)=ma
    ·rw[if_pos y]at j;simpa only[Xi,q]using j
    ·rw[if_neg y]at j;simpa only[Xi,q]using j
  ·have I:(k==Se)=ua:=by simpa using hk
   rw[if_neg (by simp[I])]at j
   cases q:x==n with
   |true=>
    simp only[Xi,q]at j;rcases j with z|z
    ·rw[eq_of_beq q,Ee z];exact .inr Re
    ·exact absurd (Ee z) hk
   |false=>exact(F (by simpa only[Xi,q]using j)).imp (Oc _) (Oc _)

theorem yq  : ∀names n acc ,Nf n names acc=Nf n names []++acc
 |[],_,_=>rfl
 |(x,k)::r,n,acc=>by
  unfold Nf;split
  ·rw[yq r (n+1) ((x,n)::acc),yq r (n+1) [(x,n)],Jw];rfl
  ·exact yq r n acc
theorem Dv  : ∀names n {x } {c },(x,c)∈Nf n names []->(x,Of)∈names
 |[],_,_,_,h=>nomatch h
 |(y,k)::r,n,x,c,h=>by
  unfold Nf at h;split at h
  ·rename_i hk;rw[yq]at h;rcases Ma.mp h with h|h
   ·exact Oc _ (Dv r _ h)
   simp_all
  ·exact Oc _ (Dv r _ h)
def MV  {j:Type}:∀(l m:List (Str×j)) x ,(l++m).lookup x=(l.lookup x).or (m.lookup x)
 |[],_,_=>by simp
 |(n,k)::r,m,x=>by
  grind
structure BCells (scope:Rc)(cl cs:List (Str×Ca))(lo:Nat)(h:Wa):Prop where
 lk:∀x c,cs.lookup x=da c->((x,Of)∈scope.names/\lo<c/\h.IsCell c Aa)\/((x,Of)∉scope.names/\cl.lookup x=da c)
 own:∀x,scope.names.lookup x=da .cell->∃c,cs.lookup x=da c/\lo<c
 old:∀x c,(x,Of)∉scope.names->cl.lookup x=da c->cs.lookup x=da c
 inj:∀x y c,cs.lookup x=da c->cs.lookup y=da c->lo<c->x=y
def rT   {cl:List (Str×Ca)}{j:Nat}(hl:h.objs.size=j+1)(S:∀y∈scope.names,y.2=.cell->scope.names.lookup y.1=da .cell)(xa:∀x c,cl.lookup x=da c->c<=j):BCells scope cl (Nf (j+1) scope.names cl) j (Jq h scope.names):=by
 have ok:=cellsFrom_ok scope.names h (j+1) [] ⟨λ_ _ Y=>(nomatch Y),CK⟩ (by lia)
 rw[hl]at ok;have look:∀x,(Nf (j+1) scope.names cl).lookup x=((Nf (j+1) scope.names []).lookup x).or (cl.lookup x):=λx=>by rw[yq,MV]
 have F:∀x,(x,Of)∈scope.names->∃c,(Nf (j+1) scope.names []).lookup x=da c:=λx z=>tz (S _ z rfl);refine⟨λx c e=>?_,λx z=>?_,λx c z Z=>?_,λx y c J O Z=>?_⟩
 ·rw[look]at e;by_cases z:(x,Of)∈scope.names
  ·obtain⟨I,R⟩:=F x z;rw[R,Option.some_or]at e;have e:I=c:=Ee e;subst e;obtain⟨z1,z2⟩:=ok.empty x I (fg R)
   lia
  ·cases q:(Nf (j+1) scope.names []).lookup x with
   |some I=>exact absurd (Dv _ _ (fg q)) z
   |none=>simp_all
 ·obtain⟨c,e⟩:=F x (fg z);exact⟨c,by simp_all,(ok.empty x c (fg e)).2⟩
 ·rw[look];cases q:(Nf (j+1) scope.names []).lookup x with
  |some I=>exact absurd (Dv _ _ (fg q)) z
  |none=>simp_all
 ·rw[look]at J O;have new:∀x,((Nf (j+1) scope.names []).lookup x).or (cl.lookup x)=da c->(Nf (j+1) scope.names []).lookup x=da c:=λx e=>by
   cases q:(Nf (j+1) scope.names []).lookup x with
   |some I=>simp_all
   |none=>
    grind
  exact name_of_addr ok.apart (fg (new x J)) (fg (new y O))
def LW           
  (j:Q (newEnv scope s.heap.objs.size globals (Nf (s.heap.objs.size+1) scope.names cl) qual Aa .none (da env) yo) { s with heap:=Jq (s.heap.push { cls:=.type "dict",data:=.dict #[] }) scope.names }) :
  wpAny M A (EA scope globals cl [] qual Aa .none (da env)) Q E s:=by
 have sz:(s.heap.push { cls:=.type "dict",data:=.dict #[] }).objs.size=s.heap.objs.size+1:=dw ..;unfold EA;rw[if_pos (by rfl)]
 refine ub (wpAny_alloc (ub (wpAny_layCells _ (λx k c=>by lia) _ _ _ _ ?_)))
 rw[show Wa.objs (Fa.heap _)=(s.heap.push { cls:=.type "dict",data:=.dict #[] }).objs from rfl,sz];exact ub (uc (uc j))


def SW   (h:scope.names.lookup x=da .globalImplicit):Gl (ce X N scope cl C s₀ H₀ j) x:=cA (by decide) h

def PIfs  (X:Cx)(ifs:List Na)(t:TT):Prop:=
 ∀(j:List (Ca×Obj)) (s:Fa) (σ:St) (H:Hp) (Q:Bool->Hp->Prop),Pa X j σ H s->t σ H Q->
  wpAny (Ja X.prog X.w) X.A (My X.env ifs) (TP X j σ Q) X.xe s
def OM  : TT:=λ_ H Q=>Q ma H
def nS   : PIfs X [] OM:=λ_ _ _ H _ I h=>wpAny_tests_nil ⟨H,I,h⟩
def pS     (h:PT X c t):PIfs X [c] t:=λj s y H Q I q=>wpAny_tests_one (h j s y H Q I q)

abbrev ml:=St->List V->Hp->(St->List V->Hp->Prop)->Prop
def ly  (J:It)(g:TG)(tt:TT)(I:ml)(QQ:St->List V->Hp->Prop)(Y:St)(z:List V)(H1:Hp):Prop:=∃W:Nat->Nat->St->List V->Hp->Prop,
 (∃m,W 0 m Y z H1)/\∀i m O y H,W i m O y H->
  (J.stop i H/\QQ O y H)\/(J.go i H/\∀x H',J.yld i H x H'->g x O H' λj H2=>tt j H2 λb Z=>if b=ma then I j y Z λF R H4=>∃q,q<m/\W (i+1) q F R H4
   else ∃q,q<m/\W (i+1) q j y Z)
def sA  (z:TE)(D:Ca):ml:=λy j H Q=>z y H λv q=>q D=da (.lst j)/\j.length<db/\Q y (j++[v]) (upd q D (.lst (j++[v])))
def LcGG  (J:It)(g:TG)(z:TT)(j:Ca->ml)(D:Ca)(q:St)(Q:VK)(y:Hp):Prop:=ly J g z (j D) (λ_ _ H=>Q (.ref D) H) q [] (upd y D (.lst []))
def ap  (Y:Cx)(em:Sem Unit)(y:ml):Prop:=∀(j:List (Ca×Obj)) (s:Fa) (τ:St) (ys:List V) (H:Hp) (Q:St->List V->Hp->Prop),Pa Y j τ H s->y τ ys H Q->
 wpAny (Ja Y.prog Y.w) Y.A em (λ_ I=>∃q z F,Pa Y j q F I/\Q q z F) Y.xe s
def tLcG  (pick:List (Option Nat))(F:TI)(g:TG)(I:TT)(q:Ca->ml):TE:=λy H Q=>F y H λJ z=>∀D,z D=Aa->LcGG J g I q D (pick.map λo=>o.bind λj=>(y[j]?).join) Q z
abbrev tx  (pick:List (Option Nat))(q:TI)(g:TG)(y:TT)(j:TE):TE:=tLcG pick q g y (sA j)
section
variable {X:Cx}{N:List Str}{pick:List (Option Nat)}{scope:Rc}{pins:List (Ca×Obj)}{σ:St}{s s3:Fa}{H H3:Hp}

def FV  {cl cs:List (Str×Ca)}{fp:List Ca}(S:CScope X N pick scope)(F:Pa X pins σ H3 s3)(hf:∀b∈fp,FpOk X pins H3 b)(za:∀b∈fp,b<s3.heap.objs.size)
  (c1:∀x c,cl.lookup x=da c->X.env.cells.lookup x=da c) (c2:∀y∈scope.names,y.2=.free->∃c,cl.lookup y.1=da c) (B:BCells scope cl cs s3.heap.objs.size I)
  (ya:I.Ns s3.heap.objs.size mB) (hk:∀b o,s3.heap.get? b=da o->I.get? b=da o) :
  Pa (ce X N scope cs s3.heap.objs.size s3 H3 fp) [] (pick.map λo=>o.bind λj=>(σ[j]?).join) H3 { s3 with heap:=I,toks:=tk }:=by
 have xa:∀b∈Ef X.stack,b∈X.env.locals::X.fs:=F.stkSub;have oc:∀x c,cs.lookup x=da c->X.env.cells.lookup x=da c\/s3.heap.objs.size<c:=λx c e=>by
  rcases B.lk x c e with⟨_,z,_⟩|⟨_,z⟩
  ·lia
  simp_all
 have ka:∀x,((x,Se)∈scope.names\/(x,Of)∈scope.names)->∃c,cs.lookup x=da c:=λx Z=>by
  by_cases J:(x,Of)∈scope.names
  ·obtain⟨c,e,_⟩:=B.own x (S.cells _ J rfl)
   simp_all
  ·rcases Z with Z|Z
   ·obtain⟨c,e⟩:=c2 _ Z rfl;exact⟨c,B.old x c J e⟩
   lia
 refine⟨⟨F.ok.mod,S.kind,F.ok.glob,F.ok.blt,Jb _,λx y c e1 e2=>?_,λx Z=>ka x (VI Z),λx c z e=>?_,F.ok.hd,F.ok.frames,.inl rfl,λb O=>⟨Ae (za b O),λx c e=>?_⟩,
   F.bs,Rb F.ok.bsz F.sz,λb o e O=>?_,λb O hm=>?_,F.stack,F.stkFree⟩,
  rfl,F.bare,Un.kept hk,⟨_,ya,λi x v e1 e2 e3=>?_⟩,λx c e=>?_,F.hok.fresh (Jb _),λx c e=>?_,λp hp=>absurd (show p∈([]:List (Ca×Obj))from hp) (by simp),F.hok.kept hk,?_⟩
 ·by_cases J:s3.heap.objs.size<c
  ·exact B.inj x y c e1 e2 J
  ·exact F.ok.inj x y c ((oc x c e1).resolve_right J) ((oc y c e2).resolve_right J)
 ·have z':scope.names.lookup x=da .cell:=eq_of_beq z;rcases B.lk x c e with⟨_,y,_⟩|⟨y,_⟩
  ·exact Yi y
  ·exact absurd (fg z') y
 ·rcases oc x c e with z|z
  ·exact(hf b O).2.2.2.2.1 x c z
  ·intro q;rw[q]at z;exact absurd (BA z (za b O)) (Bi _)
 ·rcases(hf b O).2.2.2.1 with z|z
  ·exact F.ok.noex b o e z
  ·exact absurd (Xe (Hc e) (Rb F.ok.bsz z)) (Bi _)
 ·rcases Mc.mp (xa b hm)with z|z
  ·exact(hf b O).2.1 z
  ·exact(hf b O).2.2.1 z
 ·-- a captured name
  have va:∃j,pick[i]?=da (da j)/\σ[j]?=da (da v):=by
   rw[md]at e2;cases q:pick[i]? with
   |none=>simp_all
   |some o=>
    rw[q]at e2;cases o with
    |none=>simp at e2
    |some j=>
     grind
  obtain⟨j,ej,ev⟩:=va;obtain⟨hN,ja⟩:=S.caps i j x e1 ej;have R:(x,Se)∈scope.names:=fg ja;have wa:(x,Of)∉scope.names:=λz=>by
   have:=S.cells _ z rfl
   lia
  obtain⟨_,Y⟩:=S.fre _ R rfl;obtain⟨m,hn,hl⟩:=F.loc;obtain⟨u,r,l⟩:=hl j x v hN ev (Y.elim (λz=>.inr (.inl z)) λz=>.inr (.inr z));refine⟨u,r,.inr ⟨?_,?_⟩⟩
  ·exact JI (env:=X.env) ja
  ·obtain⟨c,J⟩:=c2 _ R rfl;have ha:=c1 _ _ J;rcases l with⟨z,_⟩|⟨_,c',e,o,ho,hd⟩
   ·lia
   ·have:c'=c:=by lia
    subst this;exact⟨c',B.old x c' wa J,o,hk _ _ ho,hd⟩
 ·rcases B.lk x c e with⟨_,_,z⟩|⟨_,z⟩
  ·grind
  ·obtain⟨v,o,ho,hd⟩:=F.cell x c (c1 x c z);exact⟨v,o,hk _ _ ho,hd⟩
 ·rcases oc x c e with z|z
  ·exact F.freeC x c z
  ·exact F.hok.fresh (Yi z)
 ·rw[Ab];exact S.len

def VS     {z:St}(F:Pa X pins σ H3 s3)(j:∀b∈I,FpOk X pins H3 b)(J:Pa (ce X N scope cl C s3 H3 I) y z H' s') :
  Pa X pins σ H' s':=F.call' J.os J.base J.hok J.bare λb q=>⟨(j b q).2.2.2.1,(j b q).2.1,(j b q).2.2.2.2.1,(j b q).2.2.2.2.2⟩

def DQ                  {za:St} 
  (yc:Y.calm=ma) (R:Y.xe=λ_ _=>False)
  (jb:wo (.ListComp elt gens scope pos) dp (.ref it) acc Y.env=rq ip tg ifs (.ref it) Y.env em (.compLoop (.ListComp elt gens scope pos) dp (.ref it) acc Y.env))
  (yg:PG Y tg g) (yi:PIfs Y ifs tt) (ym:ap Y em zb) (J0:Pa Y pins za H s) (T:Turn Y.prog Y.w Y.K tg J Z it tn) (t0:tn 0 s.heap) (f0:∀b∈Z,FpOk Y pins H b) (hW:ly J g tt zb QQ za wa H) :
  codeAny (Ja Y.prog Y.w) Y.A (.compLoop (.ListComp elt gens scope pos) dp (.ref it) acc Y.env) (λr s'=>r=.ok .next/\∃ja xb H',Pa Y pins ja H' s'/\QQ ja xb H') s:=by
 obtain⟨W,⟨m0,w0⟩,xa⟩:=hW;have y:∀{H':Hp},(∀b∈Z,H' b=Aa)->∀b∈Z,FpOk Y pins H' b:=λhn b I=>⟨hn b I,(f0 b I).2⟩;refine lW (λn s'=>∃i j O H',Pa Y pins j H' s'/\tn i s'.heap/\(∀b∈Z,H' b=Aa)/\W i n j O H') jb ?_ m0 ⟨0,_,wa,_,J0,t0,λb I=>(f0 b I).1,w0⟩;rintro n s4 ⟨i,j,O,H4,J4,t4,fr4,w4⟩;rcases xa i n j O H4 w4 with⟨va,q⟩|⟨go,step⟩
 ·refine Zf (T.done Y rfl rfl rfl yc i pins s4 j H4 (λ_ _=>False) J4 (y fr4) t4 va) (λr s5 ⟨hr,J5⟩=>?_) λ_ _ f=>f;subst hr;exact⟨rfl,j,O,H4,J5,q⟩
 ·refine Zf (T.item Y rfl rfl rfl yc i pins s4 j H4 (λ_ _=>False) J4 (y fr4) t4 go) (λr s5 ⟨u,hr,h5⟩=>?_) λ_ _ f=>f;subst hr;refine Zf h5 (λ_ s6 ⟨x,H6,J6,r6,y6,t6,ka⟩=>?_) λ_ _ f=>f;have ha:=J6.pinned (y ka) (T.obj _ _ t6);have ag:=yg _ s6 j H6 x u _ ha r6 (step x H6 y6);rw[R]at ag;refine Zf ag (λ_ s7 ⟨ya,H7,J7,q7⟩=>?_) λ_ _ f=>f;have ai:=yi _ s7 ya H7 _ J7 q7;rw[R]at ai;refine Zf ai (λok s8 ⟨H8,J8,q8⟩=>?_) λ_ _ f=>f;have F:∀{z:St} {H9:Hp} {s9:Fa} {zs:List V},Pa Y (pins++jq Z s6.heap) z H9 s9->(∃m',m'<n/\W (i+1) m' z zs H9)->∃m,m<n/\∃i j O H',Pa Y pins j H' s9/\tn i s9.heap/\(∀b∈Z,H' b=Aa)/\W i m j O H':=λ{z H9 s9 zs} J9 ⟨m',hm,w9⟩=>by
   refine⟨m',hm,i+1,z,zs,H9,J9.unpinned,T.keep _ _ _ t6 λb I o e=>(J9.pin (b,o) (Ff _ (Ff _ (Gv I e)))).1,λb I=>?_,w9⟩;obtain⟨o,e,d⟩:=T.obj _ _ t6 b I;exact(J9.pin (b,o) (Ff _ (Ff _ (Gv I e)))).2.1
  cases ok with
  |false=>exact F J8 q8
  |true=>
   have am:=ym _ s8 ya O H8 _ J8 q8;rw[R]at am;exact Zf am (λ_ s9 ⟨z,zs,H9,J9,q9⟩=>F J9 q9) λ_ _ f=>f
def jD      (za:Y.xe=λ_ _=>False)(he:PE Y elt te):ap Y (do let _ <- call (.builtin "list.append") [.ref D,<- Lb elt Y.env]) (sA te D):=by
 intro R s F Z H Q J q;have ae:=he _ s F H _ J q;refine ub (Zf ae (λv s9 ⟨z,H9,J9,r9,O,I,q9⟩=>?_) λ_ _ f=>f);have aa:=cG (X:=Y) _ s9 F H9 (.ref D) [z] (.ref D) [v] (λx H'=>H'=upd H9 D (.lst (Z++[z]))) J9 rfl (.cons r9 .nil) ⟨_,Z,z,rfl,rfl,O,I,rfl⟩;refine ub (Zf aa (λ_ ja ⟨_,xa,j,_,y⟩=>?_) λ_ _ f=>f);subst y;exact uc ⟨F,_,_,j,q9⟩
section
variable {tg iter elt:Na}{ifs:List Na}
def vF {rest:List Vv}{pos:Pos}{g:TG}{tt:TT}{va:Ca->ml}{em:Ca->Env->Sem Unit}{J:It}{O:List Ca}{it:Ca}{tn:Nat->Wa->Prop}{cl:List (Str×Ca)}{Q:VK}{E:Da->Fa->Prop}{RR:Da->Ca->Result->Fa->Prop}
  (hc:X.calm=ma) (S:CScope X N pick scope) (c1:∀x c,cl.lookup x=da c->X.env.cells.lookup x=da c) (c2:∀y∈scope.names,y.2=.free->∃c,cl.lookup y.1=da c)
  (hg:∀cl C s₀ H₀ O,PG (ce X N scope cl C s₀ H₀ O) tg g) (hi:∀cl C s₀ H₀ O,PIfs (ce X N scope cl C s₀ H₀ O) ifs tt) (he:∀D cl C s₀ H₀ O,ap (ce X N scope cl C s₀ H₀ O) (em D (ce X N scope cl C s₀ H₀ O).env) (va D))
  (kb:∀(it:Da) (D:Ca) (env:Env),wo (.ListComp elt (⟨tg,iter,ifs,0⟩::rest) scope pos) 0 it (.ref D) env=rq iter.pos tg ifs it env (em D env) (.compLoop (.ListComp elt (⟨tg,iter,ifs,0⟩::rest) scope pos) 0 it (.ref D) env))
  (I2:Pa X pins σ H s) (T:Turn X.prog X.w X.K tg J O it tn) (st:tn 0 s.heap) (hf:∀b∈O,FpOk X pins H b)
  (hW:∀D,H D=Aa->LcGG J g tt va D (pick.map λo=>o.bind λj=>(σ[j]?).join) Q H)
  (yb:∀D C H' s',Pa X pins σ H' s'->(∃m,s'.heap.Ns C m)->FpOk X pins H' C->Q (.ref D) H'->RR (.ref D) C (.ok .next) s') :
  wpAny (Ja X.prog X.w) X.A (Cr []) (λacc ha=>wpAny (Ja X.prog X.w) X.A (EA scope X.env.globals cl [] X.env.qual Aa .none (da X.env)) (λxa zb=>
   codeAny (Ja X.prog X.w) X.A (.compStart (.ListComp elt (⟨tg,iter,ifs,0⟩::rest) scope pos) 0 (.ref it) acc { xa with scope:=relabel scope X.env }) (RR acc xa.locals) zb) E ha) E s:=by
 have hD:H s.heap.objs.size=Aa:=I2.hok.fresh (Jb _);have xb:∀b∈O,b<s.heap.objs.size:=λb F=>let ⟨o,e,_⟩:=T.obj _ _ st b F;Hc e
 refine Th (LW ?_);have I3:Pa X pins σ (upd H s.heap.objs.size (.lst [])) { s with heap:=s.heap.push { cls:=.type "list",dict:=Aa,data:=.seq ([]:List Da).toArray } }:=
  I2.laid (t':=s.toks) (λb u e=>Ac _ e) (Jb _) ⟨Eg _,[],0,.nil,Fe _ rfl⟩
 generalize ka:({ s with heap:=s.heap.push { cls:=.type "list",dict:=Aa,data:=.seq ([]:List Da).toArray } }:Fa)=s3 at I3 ⊢
 have xc:s3.heap.objs.size=s.heap.objs.size+1:=by rw[<- ka];simp_all
 have ja:∀b∈O,FpOk X pins (upd H s.heap.objs.size (.lst [])) b:=λb F=>⟨by rw[Gc (Ae (xb b F))];exact(hf b F).1,(hf b F).2⟩
 have ya:(s3.heap.push { cls:=.type "dict",data:=.dict #[] }).objs.size=s3.heap.objs.size+1:=dw ..;have hk:∀b o,s3.heap.get? b=da o->(Jq (s3.heap.push { cls:=.type "dict",data:=.dict #[] }) scope.names).get? b=da o:=λb o e=>pushCells_keeps _ _ b o (Ac _ e);have R:(Jq (s3.heap.push { cls:=.type "dict",data:=.dict #[] }) scope.names).Ns s3.heap.objs.size λ_=>Aa:=(Wa.Ns.new s3.heap (.type "dict")).keeps (pushCells_keeps _ _);have B:=rT (cl:=cl) ya S.cells λx c e=>by
  obtain⟨v,z⟩:=I3.cell x c (c1 x c e);exact Yi z.lt
 generalize Jq (s3.heap.push { cls:=.type "dict",data:=.dict #[] }) scope.names=h₁ at hk R B ⊢;generalize Nf (s3.heap.objs.size+1) scope.names cl=cs at B ⊢;have vb:∀x c,cs.lookup x=da c->X.env.cells.lookup x=da c\/s3.heap.objs.size<c:=λx c e=>by
  rcases B.lk x c e with⟨_,z,_⟩|⟨_,z⟩
  ·lia
  simp_all
 have st1:tn 0 h₁:=T.keep _ _ _ st λb _ o e=>hk b o (by rw[<- ka];exact Ac _ e)
 have IY:Pa (ce X N scope cs s3.heap.objs.size s3 (upd H s.heap.objs.size (.lst [])) O) [] (pick.map λo=>o.bind λj=>(σ[j]?).join) (upd H s.heap.objs.size (.lst [])) { s3 with heap:=h₁ }:=
  FV (tk:=s3.toks) S I3 ja (λb F=>Xe (xb b F) (by lia)) c1 c2 B R hk
 generalize Z:ce X N scope cs s3.heap.objs.size s3 (upd H s.heap.objs.size (.lst [])) O=Y at IY;have yg:PG Y tg g:=Z ▸ hg _ _ _ _ _;have yi:PIfs Y ifs tt:=Z ▸ hi _ _ _ _ _;have ye:ap Y (em s.heap.objs.size Y.env) (va s.heap.objs.size):=Z ▸ he _ _ _ _ _ _;have za:Y.prog=X.prog:=by rw[<- Z];rfl
 have yw:Y.w=X.w:=by rw[<- Z];rfl
 have yK:Y.K=X.K:=by rw[<- Z];rfl
 have yA:Y.A=X.A:=by rw[<- Z];rfl
 have yc:Y.calm=ma:=by rw[<- Z];exact hc
 have I:Y.env=compEnvC scope cs s3.heap.objs.size X.env:=by rw[<- Z];rfl
 have jb:∀b,b∈Y.ex↔b∈O:=λb=>by rw[<- Z];rfl
 have wb:Y.xe=λ_ _=>False:=by rw[<- Z];rfl
 have wc:Y.pn=[]:=by rw[<- Z];rfl
 have qc:∀b,b∈Y.fs->b∈X.env.locals::X.fs:=λb F=>I3.stkSub b (by rw[<- Z]at F;exact F)
 have wa:∀{H':Hp},(∀b∈O,H' b=Aa)->∀b∈O,FpOk Y [] H' b:=λhn b F=>by
  refine⟨hn b F,?_,λhm=>?_,.inl ((jb b).mpr F),λx c e=>?_,λp hp=>?_⟩
  ·rw[I];show b≠s3.heap.objs.size
   grind
  ·rcases Mc.mp (qc b hm)with z|z
   ·exact(hf b F).2.1 z
   ·exact(hf b F).2.2.1 z
  ·rw[I]at e;rcases vb x c e with z|z
   ·exact(hf b F).2.2.2.2.1 x c z
   grind
  simp_all
 have jc:∀{τ:St} {H':Hp} {s':Fa},Pa Y [] τ H' s'->Q (.ref s.heap.objs.size) H'->RR (.ref s.heap.objs.size) s3.heap.objs.size (.ok .next) s':=λ{τ H' s'} J q=>by
  have fr:H' s3.heap.objs.size=Aa:=by have:=J.free;rw[I]at this;exact this
  obtain⟨m,hn,_⟩:=J.loc;rw[I]at hn;exact yb _ _ H' s' (VS I3 ja (Z ▸ J)) ⟨m,hn⟩ (I3.fpOk (Jb _) fr) q
 have hn:∀b∈O,upd H s.heap.objs.size (.lst []) b=Aa:=λb F=>(ja b F).1;have lp:=DQ (pins:=[]) (s:={ s3 with heap:=h₁ }) (acc:=.ref s.heap.objs.size) (ifs:=ifs) (em:=em s.heap.objs.size Y.env) yc wb (kb (.ref it) s.heap.objs.size Y.env) yg yi ye IY (by lia) st1 (wa hn) (hW _ hD)
 rw[za,yw,yA,I]at lp;have lp:=Io lp (R':=RR (.ref s.heap.objs.size) s3.heap.objs.size) λr s' ⟨hr,zc,vc,H',I',q'⟩=>by grind
 show codeAny (Ja X.prog X.w) X.A (.compStart (.ListComp elt (⟨tg,iter,ifs,0⟩::rest) scope pos) 0 (.ref it) (.ref s.heap.objs.size) (compEnvC scope cs s3.heap.objs.size X.env)) (RR (.ref s.heap.objs.size) s3.heap.objs.size) _;exact codeAny_compStart_list lp (T.self _ 0 _ _ _ st1 lp)

def PP {pos:Pos}{wi:TI}{g:TG}{tt:TT}{rest:List Vv}{R:Ca->ml}{em:Ca->Env->Sem Unit}(hc:X.calm=ma)(S:CScope X N pick scope)(hw:PI X tg iter wi)
  (hg:∀cl C s₀ H₀ z,PG (ce X N scope cl C s₀ H₀ z) tg g) (hi:∀cl C s₀ H₀ z,PIfs (ce X N scope cl C s₀ H₀ z) ifs tt) (he:∀D cl C s₀ H₀ z,ap (ce X N scope cl C s₀ H₀ z) (em D (ce X N scope cl C s₀ H₀ z).env) (R D))
  (xa:∀(it:Da) (D:Ca) (env:Env),wo (.ListComp elt (⟨tg,iter,ifs,0⟩::rest) scope pos) 0 it (.ref D) env=rq iter.pos tg ifs it env (em D env) (.compLoop (.ListComp elt (⟨tg,iter,ifs,0⟩::rest) scope pos) 0 it (.ref D) env))
  (hs:∀x,Ii iter X.env x=pure x:=by intro _;rfl):PE X (.ListComp elt (⟨tg,iter,ifs,0⟩::rest) scope pos) (tLcG pick wi g tt R):=by
 intro j s σ H Q I h;obtain⟨cl,F,c1,c2⟩:=rG (scope:=scope) (env:=X.env) λy hy hf=>I.ok.has _ (S.fre y hy hf).2;rw[eval_ListComp];refine QJ (use:=Aa) rfl hs F S.kind S.names (Pb (hw j s σ H _ I h) λv s1 h1=>Pb h1 λza s2 h2=>?_);obtain⟨it,z,tn,J,H2,e,I2,T,st2,f2,hW⟩:=h2;subst e;refine vF (RR:=λZ C=>compPost (Ja X.prog X.w) X.A X.xe Aa (EP X j σ Q) Z C) hc S c1 c2 hg hi he xa I2 T st2 f2 hW λD C H' s' J' ⟨m,hn⟩ O q=>?_;refine⟨m,hn,λh' Y=>⟨.ref D,H',?_,rfl,q⟩⟩;exact J'.turned (t':=s'.toks) (it:=C) (λb o hb e=>Y.extBut b o hb e) O.1 O.2.1 O.2.2.2.1 O.2.2.2.2.1 O.2.2.2.2.2

def fQ {pos Z F:Pos}{wi:TI}{g:TG}{tt:TT}{rest:List Vv}{xa:Ca->ml}{em:Ca->Env->Sem Unit}{i:Nat}{y:Str}(hN:X.N.Nodup)(ya:X.N[i]?=da y)(hy:X.env.scope.names.lookup y=da .local)(hc:X.calm=ma)(S:CScope X N pick scope)(hw:PI X tg iter wi)
  (hg:∀cl C s₀ H₀ R,PG (ce X N scope cl C s₀ H₀ R) tg g) (hi:∀cl C s₀ H₀ R,PIfs (ce X N scope cl C s₀ H₀ R) ifs tt) (he:∀D cl C s₀ H₀ R,ap (ce X N scope cl C s₀ H₀ R) (em D (ce X N scope cl C s₀ H₀ R).env) (xa D))
  (ka:∀(it:Da) (D:Ca) (env:Env),wo (.ListComp elt (⟨tg,iter,ifs,0⟩::rest) scope pos) 0 it (.ref D) env=rq iter.pos tg ifs it env (em D env) (.compLoop (.ListComp elt (⟨tg,iter,ifs,0⟩::rest) scope pos) 0 it (.ref D) env))
  (xb:Kk (.ListComp elt (⟨tg,iter,ifs,0⟩::rest) scope pos) (da (.Name y Z)) F.line X.env=pure ma) (hs:∀x,Ii iter X.env x=pure x:=by intro _;rfl) :
  PS X (.Assign [.Name y Z] (.ListComp elt (⟨tg,iter,ifs,0⟩::rest) scope pos) F) (tAsg (tLcG pick wi g tt xa) (ou i)):=by
 intro j s σ H D0 I h;obtain⟨cl,Y,c1,c2⟩:=rG (scope:=scope) (env:=X.env) λy hy hf=>I.ok.has _ (S.fre y hy hf).2;rw[exec_Assign_Name_used _ _ _ _ xb];refine ub (ww (ub ?_));show wpAny _ _ (do let _ <- comprehension (.ListComp elt (⟨tg,iter,ifs,0⟩::rest) scope pos) scope X.env _ (Cr []) ua (Lb iter X.env) (da (Dc (.Name y Z) X.env))) _ _ s
 refine ub (Pb (QJ (use:=da (Dc (.Name y Z) X.env)) (Q:=λ_ s'=>SP X j D0 .next s') rfl hs Y S.kind S.names
  (Pb (hw j s σ H _ I h) λv s1 h1=>Pb h1 λjb s2 h2=>?_)) λ_ s' hq=>uc (uc hq))
 obtain⟨it,R,tn,J,H2,e,I2,T,st2,f2,hW⟩:=h2;subst e;refine vF (Q:=λx H1=>ou i x σ H1 D0.nx) (RR:=λwa C=>compPost (Ja X.prog X.w) X.A X.xe (da (Dc (.Name y Z) X.env)) (λ_ s'=>SP X j D0 .next s') wa C) hc S c1 c2 hg hi he ka I2 T st2 f2 hW λD C H' s' J' ⟨m,hn⟩ O q=>?_
 show wpAny _ _ (Dc (.Name y Z) X.env (.ref D)) _ _ _;refine wpAny_assign_Name (sG (v:=.ref D) J' hN ya (.inl hy) rfl (λzb va ⟨a,sb,ha⟩=>?_) (.inr hy));have za:C≠a:=by
  rcases ha with z|z
  ·rw[z];exact O.2.1
  ·exact λe=>O.2.2.2.2.1 y a z e.symm
 refine⟨m,hn.sameBut sb za,λh' ja=>?_⟩;refine⟨_,H',va.turned (t':=zb.toks) (it:=C) (λb o hb e=>ja.extBut b o hb e) O.1 O.2.1 O.2.2.2.1 O.2.2.2.2.1 O.2.2.2.2.2,q⟩
def sN {pos:Pos}{y:TI}{g:TG}{F:TT}{z:TE}(R:X.calm=ma)(S:CScope X N pick scope)(I:PI X tg iter y)
  (J:∀cl C s₀ H₀ j,PG (ce X N scope cl C s₀ H₀ j) tg g) (O:∀cl C s₀ H₀ j,PIfs (ce X N scope cl C s₀ H₀ j) ifs F) (Y:∀cl C s₀ H₀ j,PE (ce X N scope cl C s₀ H₀ j) elt z)
  (hs:∀x,Ii iter X.env x=pure x:=by intro _;rfl):PE X (.ListComp elt [⟨tg,iter,ifs,0⟩] scope pos) (tx pick y g F z):=
 PP (em:=λD q=>do let _ <- call (.builtin "list.append") [.ref D,<- Lb elt q]) (rest:=[]) R S I J O (λD cl C s₀ H₀ j=>jD rfl (Y cl C s₀ H₀ j)) (λ_ _ _=>rfl) hs
def yN {pos:Pos}{J:TI}{g:TG}{Y:TT}{R:TE}{O j:Pos}{i:Nat}{y:Str}(hN:X.N.Nodup)(F:X.N[i]?=da y)(hy:X.env.scope.names.lookup y=da .local)(hc:X.calm=ma)(S:CScope X N pick scope)(Z:PI X tg iter J)
  (hg:∀cl C s₀ H₀ q,PG (ce X N scope cl C s₀ H₀ q) tg g) (hi:∀cl C s₀ H₀ q,PIfs (ce X N scope cl C s₀ H₀ q) ifs Y) (he:∀cl C s₀ H₀ q,PE (ce X N scope cl C s₀ H₀ q) elt R)
  (I:Kk (.ListComp elt [⟨tg,iter,ifs,0⟩] scope pos) (da (.Name y O)) j.line X.env=pure ma) (hs:∀x,Ii iter X.env x=pure x:=by intro _;rfl):PS X (.Assign [.Name y O] (.ListComp elt [⟨tg,iter,ifs,0⟩] scope pos) j) (tAsg (tx pick J g Y R) (ou i)):=
 fQ (em:=λD z=>do let _ <- call (.builtin "list.append") [.ref D,<- Lb elt z]) (rest:=[]) hN F hy hc S Z hg hi (λD cl C s₀ H₀ q=>jD rfl (he cl C s₀ H₀ q)) (λ_ _ _=>rfl) I hs
end
end

mutual
inductive DV (K:Eb)(H:Hp):V->Ua->Prop
 |non:DV K H .non .none
 |bl (b:Bool):DV K H (.bl b) (.bool b)
 |int (i:Int):DV K H (.int i) (.int i)
 |str (x:Str):DV K H (.str x) (.str x)
 |tup {a:Ca} {xs:List V} {ds:List Ua}:Ic K H a xs->ig K H xs ds->DV K H (.ref a) (.tuple ds)
 |lst {a:Ca} {xs:List V} {ds:List Ua}:Rd H a (.lst xs)->ig K H xs ds->DV K H (.ref a) (.list ds)
 |dic {a:Ca}:H a=da (.dK [])->DV K H (.ref a) (.dict [])
inductive ig (K:Eb)(H:Hp):List V->List Ua->Prop
 |nil:ig K H [] []
 |cons {x:V} {d:Ua} {xs:List V} {ds:List Ua}:DV K H x d->ig K H xs ds->ig K H (x::xs) (d::ds)
end

mutual
noncomputable def pM:Ua->Bool
 |.list _=>ua
 |.tuple j=>noLs j
 |.dict _=>ua
 |.none|.bool _|.int _|.str _=>ma
noncomputable def noLs:List Ua->Bool
 |[]=>ma
 |x::r=>pM x&&noLs r
end


def Pa.noSys    {j:St}(I:Pa X pins j H s)(h:s.heap.get? a=da o)(c:o.cls=.type "list"):Ye≠a:=λe=>by
 obtain⟨y,l,q⟩:=I.mod.sys;have:=I.kIn _ _ l
 lia
mutual
theorem DV.reads2 {X:Cx}{pins:List (Ca×Obj)}{σ:St}{H:Hp}{s:Fa}(I:Pa X pins σ H s):∀{x:V} {d:Ua} {u:Da},DV X.K H x d->RelV x u->∃as,Reads s.heap u d as/\Ye∉as
 |_,_,_,.non,r=>by cases r;exact⟨_,.none,by simp⟩
 |_,_,_,.bl b,r=>by cases r;exact⟨_,.bool b,by simp⟩
 |_,_,_,.int i,r=>by obtain⟨t,rfl⟩:=r;exact⟨_,.int i t,by simp⟩
 |_,_,_,.str x,r=>by obtain⟨t,rfl⟩:=r;exact⟨_,.str x t,by simp⟩
 |_,_,_,.tup e h,r=>by
  cases r
  obtain⟨R,O,⟨o,j,F,n,hd⟩,_⟩:=I.tuple e
  obtain⟨as,q,z⟩:=ig.reads2 I h O
  exact⟨_,.tuple j F hd q,z⟩
 |_,_,_,@DV.lst _ _ a _ _ e h,r=>by
  cases r
  obtain⟨R,O,⟨o,n,j,F,_,hd⟩,_⟩:=I.list (.inl e)
  obtain⟨as,q,z⟩:=ig.reads2 I h O
  refine⟨_,.list j F hd q,λy=>?_⟩
  rcases Mc.mp y with y|y
  ·exact I.noSys j F y
  lia
 |_,_,_,@DV.dic _ _ a e,r=>by
  cases r
  obtain⟨_,hS,J,kv,o,Z,ep,j,hx,hd,_,Y,_⟩:([]:List (Wb×V)).length<=db/\(a==Ye)=ua/\∃J,KV [] J/\s.heap.DictOf (Sd X.prog X.w) a J:=I.hok a _ e
  have e0:Z.toList=[]:=by
   cases kv
   revert Y
   cases Z.toList with
   |nil=>lia
   |cons x r=>exact λY=>(nomatch Y)
  refine⟨_,.dict (kvs:=[]) (as:=[]) (bs:=[]) j hx.1 hd (by rw[e0];exact .nil) (by rw[e0];exact .nil),λy=>?_⟩
  simp_all
theorem ig.reads2 {X:Cx}{pins:List (Ca×Obj)}{F:St}{H:Hp}{s:Fa}(I:Pa X pins F H s):∀{xs:List V} {j:List Ua} {us:List Da},ig X.K H xs j->Vals xs us->∃as,ReadsAll s.heap us j as/\Ye∉as
 |_,_,_,.nil,r=>by cases r;exact⟨_,.nil,by simp⟩
 |_,_,_,.cons a b,r=>by
  cases r with
  |cons r rr=>
   obtain⟨as,q,z⟩:=DV.reads2 I a r
   obtain⟨bs,y,J⟩:=ig.reads2 I b rr
   exact⟨_,.cons q y,by simp_all⟩
end
def DV.reads {X:Cx}{pins:List (Ca×Obj)}{j:St}{H:Hp}{s:Fa}(I:Pa X pins j H s){x:V}{d:Ua}{u:Da}(h:DV X.K H x d)(r:RelV x u):∃as,Reads s.heap u d as:=let ⟨as,q,_⟩:=DV.reads2 I h r;⟨as,q⟩
def ig.reads    {y:St}(I:Pa X pins y H s)(h:ig X.K H xs j)(r:Vals xs us):∃as,ReadsAll s.heap us j as:=let ⟨as,q,_⟩:=ig.reads2 I h r;⟨as,q⟩

structure Fits (n k:Nat)(d:Ua):Prop where
 sh:d.showable=ma
 ln:d.shown.length<=n
 dp:d.depth<=k
def Fits.mono    (h:Fits n k d)(q:n<=y)(j:k<=k'):Fits y k' d:=⟨h.sh,Rb h.ln q,Rb h.dp j⟩
def Fits.int   (h:i.natAbs<2 ^ 1000):Fits 1921 0 (.int i):=by
 have j:i.natAbs.log2<1920:=by
  by_cases z:i.natAbs=0
  ·simp_all
  ·exact Xe ((Nat.log2_lt z).mpr h) (by decide)
 refine⟨by simp[Uw,j],?_,Jb _⟩
 simp only[Nk];exact int_text_len_1921 j
def Fits.str    (h:x.length<=m)(j:∀c∈x.cps.toList,c<16 ^ 8):Fits (10*m+2) 0 (.str x):=by
 refine⟨rfl,?_,Jb _⟩;simp only[Nk];exact Rb (StrLaws.reprText_len x j) (by lia)
def EF    (h:∀t∈ts,t.length<=n):piled ts<=ts.length*(n+2):=by
 induction ts with
 |nil=>simp[piled]
 |cons t r j=>
  have F:=h t Re;have z:=j λq y=>h q (Oc _ y);rw[piled_cons,bf,Nat.add_mul]
  lia
theorem Xz  : ∀{j } {t },t∈wn j->∃d∈j,t=d.shown
 |[],_,h=>by simp[wn]at h
 |d::r,t,h=>by
  simp only[wn,Mc]at h;rcases h with h|h
  ·simp_all
  ·obtain⟨e,y,q⟩:=Xz h
   grind
theorem Wz  : ∀j ,(wn j).length=j.length
 |[]=>rfl
 |_::r=>by simp[wn,Wz r]
def wQ   ts:(Str.join ", " ts).length<=piled ts:=by
 rcases Classical.em (ts=[])with rfl|hz
 ·exact Eg _
 ·exact Nat.le_of_add_right_le (jw (join_length_add ts hz))
def rW    (h:∀t∈ts,t.length<=n):(tupleText ts).length<=ts.length*(n+2)+3:=by
 have j:=Rb (wQ ts) (EF h);have two:∀b:Bool,((((if b=ma then ",)" else ")"):String):Str)).length<=2:=by decide
 have z:=two (ts.length==1);have one:(("(" : String):Str).length=1:=rfl
 simp only[tupleText,OA]at z ⊢
 lia
theorem PH  : ∀ts k (acc:Str),(textFrom k acc ts).length<=acc.length+piled ts
 |[],_,_=>Jb _
 |t::r,k,acc=>by
  have two:(((if k>0 then ", " else "" : String):Str)).length<=2:=by split<;>decide
  have j:=PH r (k+1) (acc++(if k>0 then ", " else "" : String)++t)
  simp only[OA]at j;rw[piled_cons];exact Rb j (by lia)
def aW    (h:∀t∈ts,t.length<=n):(listText ts).length<=ts.length*(n+2)+3:=by
 have j:=Rb (PH ts 0 "[") (Qw (EF h) _)
 have one:(("[" : String):Str).length=1/\(("]" : String):Str).length=1:=⟨rfl,rfl⟩;simp only[listText,OA]
 lia
theorem Vz  : ∀{j },(∀d∈j,d.showable=ma)->TJ j=ma
 |[],_=>rfl
 |d::r,h=>by simp[TJ,h d Re,Vz λq y=>h q (Oc _ y)]
theorem Lz  : ∀{j } {k },(∀d∈j,d.depth<=k)->Fj j<=k
 |[],_,_=>Eg _
 |d::r,k,h=>by
  simp only[Fj];exact Nat.max_le.mpr ⟨h d Re,Lz λq y=>h q (Oc _ y)⟩
def Fits.tup    (h:∀d∈j,Fits n k d):Fits (j.length*(n+2)+3) (k+1) (.tuple j):=by
 refine⟨?_,?_,?_⟩
 ·simp only[Uw];exact Vz λd hd=>(h d hd).sh
 ·simp only[Nk];have:=rW (ts:=wn j) (n:=n) λt q=>by obtain⟨d,hd,e⟩:=Xz q;rw[e];exact(h d hd).ln
  rw[Wz]at this
  lia
 ·simp only[Ua.depth];exact ZA (Lz λd hd=>(h d hd).dp)
def Fits.lst    (h:∀d∈j,Fits n k d):Fits (j.length*(n+2)+3) (k+1) (.list j):=by
 refine⟨?_,?_,?_⟩
 ·simp only[Uw];exact Vz λd hd=>(h d hd).sh
 ·simp only[Nk];have:=aW (ts:=wn j) (n:=n) λt q=>by obtain⟨d,hd,e⟩:=Xz q;rw[e];exact(h d hd).ln
  rw[Wz]at this
  lia
 ·simp only[Ua.depth];exact ZA (Lz λd hd=>(h d hd).dp)
def Fits.tupLe    (q:j.length<=m)(h:∀d∈j,Fits n k d)(y:m*(n+2)+3<=N):Fits N (k+1) (.tuple j):=
 (Fits.tup h).mono (Rb (LJ (MJ _ q) _) y) (Jb _)
def Fits.lstLe    (q:j.length<=m)(h:∀d∈j,Fits n k d)(y:m*(n+2)+3<=N):Fits N (k+1) (.list j):=
 (Fits.lst h).mono (Rb (LJ (MJ _ q) _) y) (Jb _)

def DN  (K:Eb):List V->Hp->VK->Prop:=λj H Q=>∃x d,j=[x]/\DV K H x d/\Fits 16000000 60 d/\Q (.str d.shown) H
def AV    (Z:Room k X.A):rf X (.builtin "repr") (DN X.K):=by
 intro Y s σ H xs us Q I r h;obtain⟨x,d,rfl,dv,ft,q⟩:=h;obtain⟨u,rfl,z⟩:=fh r;have hu:=Z.un;have j:∀(O:Wa) (J:Tok) (F:Nat),(∀b o,s.heap.get? b=da o->O.get? b=da o)->EP X Y σ Q (.str d.shown J) { s with heap:=O,toks:=F }:=λO J F hk=>
  ⟨.str d.shown,H,I.kept (t':=F) hk,⟨J,rfl⟩,q⟩
 have R:d.shown.length<=db:=Rb ft.ln (by decide)
 cases dv with
 |non=>cases z;exact P.repr_of_none (j _ _ _ λ_ _ e=>e)
 |bl b=>cases z;exact P.repr_of_bool (by have:=j s.heap s.toks (s.toks+1) λ_ _ e=>e;simp only[Nk]at this;lia)
 |int i=>
  obtain⟨t,rfl⟩:=z;refine P.repr_of_int (by simpa[Uw]using ft.sh) ?_
  have:=j s.heap s.toks (s.toks+1) λ_ _ e=>e;simp only[Nk]at this
  lia
 |str x=>
  obtain⟨t,rfl⟩:=z;simp only[Nk]at R;refine P.repr_of_str ?_ R;have:=j s.heap s.toks (s.toks+1) λ_ _ e=>e;simp only[Nk]at this
  lia
 |@tup a xs ds e hd=>
  obtain⟨as,rd,y⟩:=DV.reads2 I (DV.tup e hd) z;cases z;exact FA rd ft.sh (λ_=>y) Z.gd (by have:=ft.dp;lia) (λ_ _ e=>e) (λO J F hk=>j O J F hk) R
 |@lst a xs ds e hd=>
  obtain⟨as,rd,y⟩:=DV.reads2 I (DV.lst e hd) z;cases z;exact FA rd ft.sh (λ_=>y) Z.gd (by have:=ft.dp;lia) (λ_ _ e=>e) (λO J F hk=>j O J F hk) R
 |@dic a e=>
  obtain⟨as,rd,y⟩:=DV.reads2 I (DV.dic e) z;cases z;exact FA rd ft.sh (λ_=>y) Z.gd (by have:=ft.dp;lia) (λ_ _ e=>e) (λO J F hk=>j O J F hk) R

def Sm  (f:Ca)(H H':Hp):Prop:=∀b o,b≠f->H b=da o->H' b=da o




theorem YH  : ∀{ns } {us },Vals (ns.map V.int) us->∃j:List (Int×Tok),us=(j.map λp=>Nq p.1 p.2)/\j.map (·.1)=ns
 |[],us,r=>by cases r;simp_all
 |n::ns,us,r=>by
  cases r with
  |cons h r=>
   obtain⟨t,rfl⟩:=h;obtain⟨j,rfl,e⟩:=YH r;exact⟨(n,t)::j,rfl,by simp[e]⟩

def SS  (y:X.calm=ma):rf X (.builtin "sum") (λxs H Q=>∃(p:Ca) (ns:List Int),xs=[.ref p]/\Qc X.K H p (ns.map V.int)/\Q (.int ns.sum) H):=by
 intro j s σ H xs us Q I r h;obtain⟨p,ns,rfl,z,q⟩:=h;obtain⟨u,rfl,J⟩:=fh r;cases J;obtain⟨O,Z,Y,hz⟩:=I.list z;obtain⟨F,rfl,e⟩:=YH Z;have hl:s.heap.IsList p (intItems F.toArray):=by
  have:=Y.isList;simpa[intItems]using this
 refine sum_intListG (I.ok.hd y) hl λh' tk R k=>⟨.int ns.sum,H,I.kept k,⟨R,?_⟩,q⟩;rw[preSum_eq,mL (by simp),<- e]

theorem fm_rev  (xs:List Da):∀n,n<=xs.length->(Ge n).filterMap (λk=>xs[xs.length-1-k]?)=(xs.drop (xs.length-n)).reverse
 |0,_=>by simp
 |n+1,h=>by
  rw[jr,List.filterMap_append,fm_rev xs n (by lia)]
  have hk:xs.length-1-n<xs.length:=by lia
  have:xs.drop (xs.length-(n+1))=xs[xs.length-1-n]::xs.drop (xs.length-n):=by
   rw[show xs.length-(n+1)=xs.length-1-n by lia,Qj hk,show xs.length-1-n+1=xs.length-n by lia]
  simp_all
def eT  (xs:List Da):Ao xs.toArray Aa Aa (da (-1))=xs.reverse.toArray:=by
 have e:sliceRange ((xs.length:Int)-1) (-1) (-1)=(Ge xs.length).map λk=>xs.length-1-k:=by
  unfold sliceRange;have j:(if (-1:Int)>0 then (if (xs.length:Int)-1 < -1 then (-1-((xs.length:Int)-1) + -1-1) / -1 else 0) else (if (xs.length:Int)-1 > -1 then ((xs.length:Int)-1 - -1 - -1-1)/(- -1) else 0)).toNat=xs.length:=by
   rw[if_neg (by lia),show(- -1:Int)=1 from rfl,AA]
   split<;>lia
  simp only[j];refine Ij λk hk=>?_;have:=Yb.mp hk
  lia
 have b:Dj Aa Aa (da (-1)) xs.toArray.size=((xs.length:Int)-1,-1,-1):=by
  simp[Dj]
 unfold Ao;rw[b];simp only;rw[e,fK];have:=fm_rev xs xs.length (Jb _);rw[CA,lB]at this;rw[<- this];congr 1;refine congrArg (λf=>List.filterMap f (Ge xs.length)) (funext λk=>?_);simp
def NS  (xs:List Da):Ao xs.toArray Aa Aa (da 1)=xs.toArray:=by
 have:=slicePick_all xs.toArray;unfold Ao at this ⊢;exact this
def Vals.rev    (r:Vals xs us):Vals xs.reverse us.reverse:=by
 induction r with
 |nil=>exact .nil
 |cons h r j=>rw[Rq,Rq];exact j.append (.cons h .nil)

end L2
namespace HT
open PySem PySem.Spec PyProof.Rows

def getItem_tuple_all     {j z:Option Int}(y:Li s.heap t items)(hs:s.heap.IsSliceOf O R Z .none)(pl:Oe R j)(pu:Oe Z z)
  (hw:sIx items.size 0 j=0/\sIx items.size items.size z=items.size) (h:Q (.ref t) s):wpAny (Ja prog w) A (Xc (.ref t) (.ref O)) Q E s:=by
 obtain⟨os,F,J,Y⟩:=id hs;have I:s.TypeIs (.ref O) "slice" := ⟨os,F,J⟩;unfold Xc
 try with_reducible refine Nj ?_
 first|refine ub (uc ?_)|skip
 refine ub (VA y.typeIs (by decide) ?_)
 refine ub (Aw (name:=Kj "__getitem__") y.typeIs Sj
  (Fo Sj y.typeIs JB ?_ (NB _ _)))
 show wpAny _ _ (PB (.ref t) >>= _) _ _ s;refine ub (QA y ?_);refine ub (Yv I ?_);rw[if_pos (by decide)]
 refine ub (cJ hs pl pu ?_);have q:((((sIx items.size 0 j:Nat):Int)==0&&(1:Int)==1&&(sIx items.size items.size z-sIx items.size 0 j)==items.size)=ma):=by
  simp_all
 show wpAny _ _ (if (((sIx items.size 0 j:Nat):Int)==0&&(1:Int)==1&&(sIx items.size items.size z-sIx items.size 0 j)==items.size)=ma then _ else _) _ _ s
 rw[if_pos q];refine ub (m:=nL (.ref t)) ?_;unfold nL;refine ub (Yv y.typeIs (uc ?_));rw[if_pos (by decide)]
 exact ub (jp (uc ⟨_,rfl,uc h⟩))
end HT
namespace L2
open PySem PySem.Spec PyProof.Rows

def rSlW  (K:Eb):V->Option Int->Option Int->Hp->VK->Prop:=λx q y H Q=>∃a j,x=.ref a/\Ic K H a j/\
 (HT.sIx j.length 0 q=0/\HT.sIx j.length j.length y=j.length)/\Q (.ref a) H
def AR  : Eh X (rSlW X.K):=by
 intro F s σ H x v vl vu lo hi sl Q I Y R pl Z h;obtain⟨a,J,rfl,O,hw,q⟩:=h;cases Y;obtain⟨j,r,z,hz⟩:=I.tuple O;have y:j.toArray.size=J.length:=by rw[Zc];exact r.length.symm
 refine⟨"tuple",_,Sj.lookup,z.typeIs,?_⟩;exact HT.getItem_tuple_all z R pl Z (by lia) ⟨.ref a,H,I,rfl,q⟩
def zR  : Eh X (λx j q H Q=>rSlT X.K x j q H Q\/rSlW X.K x j q H Q):=Eh.or wP AR

end L2
namespace HT
open PySem PySem.Spec PyProof.Rows

def JW    {n:Nat}(hs:s.heap.IsSliceOf y .none .none (.int (-1) t))(h:Q ((n:Int)-1,-1,n) s):wpAny (Ja prog w) A (Ww (.ref y) (pure (n:Int))) Q E s:=by
 obtain⟨J,j,I,q⟩:=id hs;unfold Ww tL;refine ub (ub (Zi j q (x:=.none) rfl (ub (Zi j q (x:=.none) rfl (ub (Zi j q (x:=.int (-1) t) rfl (uc ?_)))))));refine ub (wq (.int (-1) t) ?_);show wpAny _ _ (if ((-1:Int)==0)=ma then _ else _) _ _ s
 rw[if_neg (by decide)]
 refine ub (wq .none (ub (wq .none (ub (uc ?_)))));have z:lr Aa Aa (-1) (n:Int)=((n:Int)-1,-1):=rfl;have F:Xk ((n:Int)-1) (-1) (-1)=n:=by
  unfold Xk;rw[if_neg (by lia),show(- -1:Int)=1 from rfl,AA]
  split<;>lia
 show wpAny _ _ (match lr Aa Aa (-1) (n:Int)with|(lo,hi)=>pure (lo,(-1:Int),Xk lo hi (-1))) _ _ s
 rw[z];show wpAny _ _ (pure ((n:Int)-1,(-1:Int),Xk ((n:Int)-1) (-1) (-1))) _ _ s;rw[F];exact uc h
def YT  (xs:List Da):((Ge xs.length).filterMap λ(k:Nat)=>xs.toArray[((xs.length:Int)-1+(k:Int)*(-1)).toNat]?).toArray=xs.reverse.toArray:=by
 have:=L2.fm_rev xs xs.length (Jb _);rw[CA,lB]at this;rw[<- this];congr 1;refine congrArg (λf=>List.filterMap f (Ge xs.length)) (funext λk=>?_);rw[show((xs.length:Int)-1+(k:Int)*(-1)).toNat=xs.length-1-k by lia]
 simp
def getItem_tuple_rev   {j:List Da}(y:Li s.heap t j.toArray)(hs:s.heap.IsSliceOf O .none .none (.int (-1) tk))
  (h:Q (.ref s.heap.objs.size) { s with heap:=s.heap.push { cls:=.type "tuple",data:=.seq j.reverse.toArray } }) (hsz:j.length<=db):wpAny (Ja prog w) A (Xc (.ref t) (.ref O)) Q E s:=by
 have q:sizeOk (.seq j.reverse.toArray):=by
  show j.reverse.toArray.size<=db
  simp_all
 obtain⟨Y,F,J,R⟩:=id hs;have I:s.TypeIs (.ref O) "slice" := ⟨Y,F,J⟩;unfold Xc
 try with_reducible refine Nj ?_
 first|refine ub (uc ?_)|skip
 refine ub (VA y.typeIs (by decide) ?_)
 refine ub (Aw (name:=Kj "__getitem__") y.typeIs Sj
  (Fo Sj y.typeIs JB ?_ (NB _ _)))
 show wpAny _ _ (PB (.ref t) >>= _) _ _ s;refine ub (QA y ?_);refine ub (Yv I ?_);rw[if_pos (by decide)]
 refine ub (JW (n:=j.length) hs ?_);have z:¬((((j.length:Int)-1)==0&&(-1:Int)==1&&j.length==j.toArray.size)=ma):=by simp
 show wpAny _ _ (if (((j.length:Int)-1)==0&&(-1:Int)==1&&j.length==j.toArray.size)=ma then _ else _) _ _ s
 rw[if_neg z,YT]
 first
  |exact ub (m:=Zk _) (Th (uc ⟨_,rfl,uc h⟩) q)
  |exact ub (m:=Zk _) (Th (ub (uc (uc ⟨_,rfl,uc h⟩))) q)
  |exact ub (ub (m:=Zk _) (Th (uc (uc ⟨_,rfl,uc h⟩)) q))
  |exact ub (ub (m:=Zk _) (Th (uc ⟨_,rfl,uc h⟩) q))
end HT
namespace L2
open PySem PySem.Spec PyProof.Rows


end L2

namespace L2
open PySem PySem.Spec PyProof.Rows

def zN  (K:Eb):R2:=λx y H Q=>∃a b j q,x=.ref a/\y=.ref b/\Ic K H a j/\Ic K H b q/\j.length+q.length<=db/\
 (j=[]->Q (.ref b) H)/\(j≠[]->q=[]->Q (.ref a) H)/\(j≠[]->q≠[]->∀p,H p=Aa->Q (.ref p) (upd H p (.tup (j++q))))
def LS  : nc X (Pe .Add) (zN X.K):=by
 intro F s σ H x y v u Q I rx ry h;obtain⟨a,b,xs,ys,rfl,rfl,ha,hb,hz,q0,q1,q2⟩:=h;by_cases q:xs=[]
 ·cases rx;cases ry;obtain⟨Z,r1,p1,_⟩:=I.tuple ha;obtain⟨O,r2,p2,_⟩:=I.tuple hb;have hv:Z=[]:=r1.nil_iff.mpr q;subst hv;obtain⟨⟨va,dd,ja,sl⟩,ho,hc,n,hd⟩:=id p1;obtain⟨⟨za,Y,xa,R⟩,j,z,n2,J⟩:=id p2;simp only at hc hd z J;subst hc hd z J;exact vA ⟨_,ho,rfl⟩ ⟨_,j,rfl⟩ jB NA YB SB (TB _ _)
   (tuple_addW0 a b _ O.toArray n n2 dd Y sl R rfl) ⟨ho,j,⟨.ref b,H,I,rfl,q0 q⟩⟩
 ·exact MS F s σ H _ _ _ _ Q I rx ry ⟨a,b,xs,ys,rfl,rfl,ha,hb,q,hz,q1 q,q2 q⟩
def gV   (hr:Room k X.A):nc X (Ed .Eq) (λx y H Q=>∃a b xs,x=.ref a/\y=.ref b/\Ic X.K H a xs/\Ic X.K H b []/\Q (.bl xs.isEmpty) H):=by
 intro O s σ H x y v u Q I rx R h;obtain⟨a,b,xs,rfl,rfl,ha,hb,q⟩:=h;cases rx;cases R;obtain⟨z,rv,Y,_⟩:=I.tuple ha;obtain⟨J,F,Z,_⟩:=I.tuple hb;cases F;have hu:X.A.units<Sb:=hr.units0;have e:((Ge (min z.toArray.size ([]:List Da).toArray.size)).all (λ_=>ma)&&z.toArray.size==([]:List Da).toArray.size)=xs.isEmpty:=by
  cases rv<;>simp
 refine EqBoolInt.of_rc (Vh.tuples (e:=λ_=>ma) (show s.heap.IsTuple a z.toArray from Y) (show s.heap.IsTuple b ([]:List Da).toArray from Z) hu λj _ h2=>?_) ?_
 ·simp at h2
 ·rw[e];exact⟨.bl xs.isEmpty,H,I,rfl,q⟩
def iV   (hr:Room k X.A):nc X (Ed .NotEq) (λx y H Q=>∃a b xs,x=.ref a/\y=.ref b/\Ic X.K H a xs/\Ic X.K H b []/\Q (.bl (!xs.isEmpty)) H):=by
 intro Y s σ H x y v u Q I rx Z h;obtain⟨a,b,xs,rfl,rfl,ha,hb,q⟩:=h;cases rx;cases Z;obtain⟨O,rv,pa,_⟩:=I.tuple ha;obtain⟨R,J,pb,_⟩:=I.tuple hb;cases J;have hu:X.A.units<Sb:=hr.units0;have z:s.heap.IsTuple a O.toArray:=pa;have F:s.heap.IsTuple b ([]:List Da).toArray:=pb;cases rv with
 |nil=>
  refine Ow (IK (e:=λ_=>ma) z F hu λj h1 _=>?_) ⟨.bl ua,H,I,rfl,q⟩;simp at h1
 |cons r rr=>
  refine Ow (IK (e:=λ_=>ma) z F hu λj _ h2=>?_) ⟨.bl ma,H,I,rfl,q⟩;simp at h2




def KC  (K:Eb)(j:Bool):R2:=λx y H Q=>∃d e,DV K H x d/\DV K H y e/\d.canLay0=ma/\e.canLay0=ma/\d.depth<=100/\Q (.bl (if j then !PyData.eqv d e else Vd d e)) H
def pQ   (R:Room k X.A):nc X (Ed .NotEq) (KC X.K ma):=by
 intro j s Z H x y v u Q I F z h;obtain⟨d,e,hd,Y,c1,c2,hk,q⟩:=h;obtain⟨as,J⟩:=hd.reads I F;obtain⟨bs,O⟩:=Y.reads I z;exact SeqAt.compareNe_reads J O c1 c2 (by have:=R.un;lia) ⟨.bl _,H,I,rfl,q⟩
def jQ   (R:Room k X.A):nc X (Ed .Eq) (KC X.K ua):=by
 intro j s Z H x y v u Q I F z h;obtain⟨d,e,hd,Y,c1,c2,hk,q⟩:=h;obtain⟨as,J⟩:=hd.reads I F;obtain⟨bs,O⟩:=Y.reads I z;exact SeqAt.compareEq_reads J O c1 c2 (by have:=R.un;lia) ⟨.bl _,H,I,rfl,q⟩

mutual
noncomputable def Oi:Ua->Bool
 |.none=>ma
 |.bool _=>ua
 |.int _=>ma
 |.str _=>ma
 |.list j=>noBs j
 |.tuple j=>noBs j
 |.dict _=>ua
noncomputable def noBs:List Ua->Bool
 |[]=>ma
 |d::r=>Oi d&&noBs r
end
mutual
theorem pD:∀{d e:Ua},Oi d=ma->Oi e=ma->Vd d e=ma->d=e
 |.none,.none,_,_,_=>rfl
 |.int i,.int j,_,_,h=>by rw[Vd]at h;rw[eq_of_beq h]
 |.str i,.str j,_,_,h=>by rw[Vd]at h;rw[eq_of_beq h]
 |.list xs,.list ys,h1,h2,h=>by rw[Vd]at h;rw[Oi]at h1 h2;rw[Hy h1 h2 h]
 |.tuple xs,.tuple ys,h1,h2,h=>by rw[Vd]at h;rw[Oi]at h1 h2;rw[Hy h1 h2 h]
 |.bool _,_,h,_,_=>by rw[Oi]at h;cases h
 |.dict _,_,h,_,_=>by rw[Oi]at h;cases h
 |.none,.bool _,_,h,_|.int _,.bool _,_,h,_|.str _,.bool _,_,h,_|.list _,.bool _,_,h,_|.tuple _,.bool _,_,h,_=>by rw[Oi]at h;cases h
 |.none,.dict _,_,h,_|.int _,.dict _,_,h,_|.str _,.dict _,_,h,_|.list _,.dict _,_,h,_|.tuple _,.dict _,_,h,_=>by rw[Oi]at h;cases h
 |.none,.int _,_,_,h|.none,.str _,_,_,h|.none,.list _,_,_,h|.none,.tuple _,_,_,h=>by rw[Vd]at h;cases h
 |.int _,.none,_,_,h|.int _,.str _,_,_,h|.int _,.list _,_,_,h|.int _,.tuple _,_,_,h=>by rw[Vd]at h;cases h
 |.str _,.none,_,_,h|.str _,.int _,_,_,h|.str _,.list _,_,_,h|.str _,.tuple _,_,_,h=>by rw[Vd]at h;cases h
 |.list _,.none,_,_,h|.list _,.int _,_,_,h|.list _,.str _,_,_,h|.list _,.tuple _,_,_,h=>by rw[Vd]at h;cases h
 |.tuple _,.none,_,_,h|.tuple _,.int _,_,_,h|.tuple _,.str _,_,_,h|.tuple _,.list _,_,_,h=>by rw[Vd]at h;cases h
theorem Hy:∀{j y:List Ua},noBs j=ma->noBs y=ma->Ho j y=ma->j=y
 |[],[],_,_,_=>rfl
 |d::r,e::q,h1,h2,h=>by
  rw[noBs,Qe]at h1 h2
  rw[Ho,Qe]at h
  rw[pD h1.1 h2.1 h.1,Hy h1.2 h2.2 h.2]
 |[],_::_,_,_,h=>by rw[Ho]at h;cases h
 |_::_,[],_,_,h=>by rw[Ho]at h;cases h
end
def qW   l (items:Array Da)(n:Nat) dd sl x (e:Da->Bool)(j:Nat) hj 
  (Z:e items[j]=ma) (Y:∀m hm ,m<j->e items[m]=ua) :
  Uf (Fb.«tuple.index» ⟨[.ref l,x],[]⟩)
   (λA R s=>s.heap.get? l=da { cls:=.type "tuple",dict:=dd,data:=.seq items n,slots:=sl }/\(∀y,y∈items->Xf A.in1 s y x (e y))/\R (.ok (.ret (.int j s.toks))) { s with toks:=s.toks+1 }):=
 .of_wp λF w A R s h=>by
  obtain⟨hp,g,d,tk,os⟩:=s;obtain⟨hl,he,h⟩:=h;unfold Fb.«tuple.index»;simp only[Std.Legacy.Range.forIn_eq_forIn_range']
  wp_walk using Ka hl,wpAny_forIn_list _ (λrest b J=>b.1=Aa/\J=⟨hp,g,d,tk,os⟩/\∃i,i<=j/\rest=(zA 0 items.size 1).drop i) _
  case turn=>
   rintro y rest b J ⟨hb,rfl,i,xa,I⟩;have z:i<(zA 0 items.size 1).length:=by simp;lia
   rw[Qj z]at I;injection I with hy hrest
   have hy:y=i:=by simpa using hy
   subst hy;have q:y<items.size:=by lia
   have hi:items[y]?=da items[y]:=Array.getElem?_eq_getElem q;rw[hi];refine ub (he _ (Array.getElem_mem q) F w _ _ ?_);by_cases O:y=j
   ·subst O;rw[Z]
    wp_walk
    exact⟨_,rfl,h⟩
   ·rw[Y y q (by lia)]
    wp_walk
    exact⟨rfl,rfl,y+1,by lia,hrest⟩
  case fin=>
   rintro⟨b1,b2⟩ J ⟨hb,rfl,i,xa,I⟩;have z:i<(zA 0 items.size 1).length:=by simp;lia
   rw[Qj z]at I;cases I
  case h=>
   refine⟨rfl,rfl,0,Eg _,?_⟩;simp[Std.Legacy.Range.size]
def av  {j:Type}(l:List j) d h:l.getD i d=l[i]:=by simp[Ad,Bc h]
theorem Aq  : ∀{z:List Str} {us } {j } h ,Vals (z.map V.str) us->∃t,us[j]=Oq (z.getD j "") t
 |y::r,_,0,_,.cons ⟨t,e⟩ _=>⟨t,e⟩
 |y::r,_,j+1,h,.cons _ q=>by
  obtain⟨t,e⟩:=Aq (j:=j) (by simpa using h) q
  exact⟨t,by simpa using e⟩
 |[],_,j,h,.nil=>by simp at h

def YE  (K:Eb)(T:Bool):V->List V->Hp->VK->Prop:=λx j H Q=>∃(p:Ca) (ys:List Str) (n:Str),x=.ref p/\j=[.str n]/\(if T then Ic K H p (ys.map V.str) else Qc K H p (ys.map V.str))/\n∈ys/\Q (.int (ys.idxOf n)) H
def tD  {j:List Str}(h:m<j.idxOf n) hm:(j[m]==n)=ua:=by
 have:=List.not_of_lt_findIdx (p:=(·== n)) (xs:=j) h;simpa using this
def UU  : Tj X "tuple.index" (YE X.K ma):=by
 intro xa s σ H x vs v us Q I rx rv h;obtain⟨p,z,n,rfl,rfl,hq,hn,q⟩:=h;cases rx;obtain⟨u,rfl,t,rfl⟩:=Vals.one rv;obtain⟨J,r,pl,hz⟩:=I.tuple hq;have hl:=r.length;rw[Ab]at hl;obtain⟨⟨ja,dd,za,sl⟩,ho,hc,m,hd⟩:=id pl;simp only at hc hd;subst hc hd;have Z:z.idxOf n<z.length:=List.idxOf_lt_length_iff.mpr hn;have fs:(z.map V.str).all L2.flatV=ma:=by rw[Bj];intro x hx;obtain⟨y,_,rfl⟩:=Ia.mp hx;rfl
 refine Dg F.slot_tuple_index ⟨_,ho,rfl⟩ F.entry_tuple_index (F.args_tuple_index_2 _ _)
  (qW p J.toArray m dd sl (.str n t) (eqU (.str n)) (z.idxOf n) (by simpa using (by lia:z.idxOf n<J.length)) ?_ ?_) ⟨ho,λy hy=>Xm (x:=.str n) ⟨t,rfl⟩ rfl r fs y (by simpa using hy),⟨.int _,H,I.tok _,⟨_,rfl⟩,q⟩⟩
 ·obtain⟨t',e⟩:=Aq (j:=z.idxOf n) (by lia) r
  simp only[Sw,e];show(z.getD (z.idxOf n) "" == n)=ma;rw[av _ _ Z,Sq Z];exact beq_self_eq_true _
 ·intro R hm Y;have O:R<z.length:=by lia
  obtain⟨t',e⟩:=Aq (j:=R) (by lia) r
  simp only[Sw,e];show(z.getD R "" == n)=ua;rw[av _ _ O];exact tD Y O
def TU  : Tj X "list.index" (YE X.K ua):=by
 intro xa s σ H x vs v us Q I rx rv h;obtain⟨p,z,n,rfl,rfl,hq,hn,q⟩:=h;cases rx;obtain⟨u,rfl,t,rfl⟩:=Vals.one rv;obtain⟨J,r,pl,hz⟩:=I.list hq;have hl:=r.length;rw[Ab]at hl hz;obtain⟨⟨ja,dd,za,sl⟩,m,ho,hc,O,hd⟩:=id pl;simp only at hc hd O;subst hc hd O;have hj:z.idxOf n<z.length:=List.idxOf_lt_length_iff.mpr hn;have fs:(z.map V.str).all L2.flatV=ma:=by rw[Bj];intro x hx;obtain⟨y,_,rfl⟩:=Ia.mp hx;rfl
 have va:=Km;refine Dg F.slot_list_index ⟨_,ho,rfl⟩ F.entry_list_index (F.args_list_index_2 _ _)
  (SeqAt.list_indexAt p J.toArray m Aa sl (.str n t) (eqU (.str n)) (z.idxOf n) (by simpa using (by lia:z.idxOf n<J.length)) (by lia) ?_ ?_) ⟨ho,λy hy=>Xm (x:=.str n) ⟨t,rfl⟩ rfl r fs y (by simpa using hy),⟨.int _,H,I.tok _,⟨_,rfl⟩,q⟩⟩
 ·obtain⟨t',e⟩:=Aq (j:=z.idxOf n) (by lia) r
  simp only[Sw,e];show(z.getD (z.idxOf n) "" == n)=ma;rw[av _ _ hj,Sq hj];exact beq_self_eq_true _
 ·intro Y hm Z;have R:Y<z.length:=by lia
  obtain⟨t',e⟩:=Aq (j:=Y) (by lia) r
  simp only[Sw,e];show(z.getD Y "" == n)=ua;rw[av _ _ R];exact tD Z R

def GV  (j:List Ua):Ho j []=j.isEmpty:=by
 cases j<;>rfl
def HW  : fillsNumberSlot (.type "tuple") "mul" = pure ua:=
 PySem.fillsNumberSlot_seq (id := "tuple.__mul__") (r:=da (.builtin "tuple.__rmul__")) Gq.lookup (by decide +kernel) F.slot_tuple_rmul.lookup (by decide +kernel)
def BW  : seqRepeat? (.type "tuple")=pure (da (.builtin "tuple.__mul__")):=by
 unfold seqRepeat?;rw[xK (T := "tuple") (name := "__mul__") (id := "tuple.__mul__") Gq.lookup (by decide +kernel),xK (T := "tuple") (name := "__rmul__") (id := "tuple.__rmul__") F.slot_tuple_rmul.lookup (by decide +kernel)]
 rfl
def EW   a (t:Tok) l items (n:Nat) dd sl :
  Uf (Fb.«int.__rmul__» ⟨[.int a t,.ref l],[]⟩) (λ_ R s=>s.heap.get? l=da { cls:=.type "tuple",dict:=dd,data:=.seq items n,slots:=sl }/\R (.ok (.ret Da.notImplemented)) s):=
 .of_wp λj w A R s h=>by obtain⟨q,g,d,y,F⟩:=s;obtain⟨z,h⟩:=h;wp_walk;exact⟨_,rfl,h⟩
def qV   l (items:Array Da)(n:Nat) dd sl (x:Int)(t:Tok)(hx:2<=x)(Y:x<2 ^ 62)(h0:items.isEmpty=ua)(hsz:items.size*x.toNat<=db) :
  Uf (Fb.«tuple.__mul__» ⟨[.ref l,.int x t],[]⟩)
   (λA R s=>s.heap.get? l=da { cls:=.type "tuple",dict:=dd,data:=.seq items n,slots:=sl }/\R (.ok (.ret (.ref s.heap.objs.size))) { s with heap:=s.heap.push { cls:=.type "tuple",data:=.seq ((Db x.toNat items).foldl (·++·) #[]) } }):=
 .of_wp λy w A R s h=>by
  obtain⟨hp,g,d,tk,os⟩:=s;obtain⟨F,h⟩:=h;have c1:(decide (x < -2 ^ 63)||decide (x ≥ 2 ^ 63))=ua:=by simp;lia
  have c2:(items.isEmpty||x==1)=ua:=by rw[h0];simp;lia
  have O:(decide (x<=0)||items.isEmpty)=ua:=by rw[h0];simp;lia
  have I:(items.size:Int)*x=((items.size*x.toNat:Nat):Int):=by rw[Int.natCast_mul,Int.toNat_of_nonneg (by lia)]
  have Z:(db:Nat)<=(2 ^ 63-1)/8:=by decide
  wp_walk using Ka F
  simp only[c1,Qo,if_false]
  wp_walk using Ka F
  simp only[c2,O,Qo,if_false];rw[if_neg (by rw[I];lia)]
  have J:pL ((items.size:Int)*x)=ua:=by
   rw[I];unfold pL;exact decide_eq_false (by lia)
  simp only[J,Qo,if_false];have z:(Mq (λq j=>q++j) #[] (Db x.toNat items)).size<=db:=by
   rw[AutoListH.size_joined];simp only[Zc,Do,dn];rw[mw];exact hsz
  revert z h;generalize Mq (λq j=>q++j) #[] (Db x.toNat items)=G;intro h z
  wp_walk
  exact⟨_,rfl,h⟩
def oV   l (items:Array Da)(n:Nat) dd sl t (h0:items.isEmpty=ua) :
  Uf (Fb.«tuple.__mul__» ⟨[.ref l,.int 0 t],[]⟩)
   (λA R s=>s.heap.get? l=da { cls:=.type "tuple",dict:=dd,data:=.seq items n,slots:=sl }/\R (.ok (.ret (.ref s.heap.objs.size))) { s with heap:=s.heap.push { cls:=.type "tuple",data:=.seq #[] } }):=
 .of_wp λj w A R s h=>by
  obtain⟨z,g,d,y,F⟩:=s;obtain⟨q,h⟩:=h;have c2:(items.isEmpty||(0:Int)==1)=ua:=by rw[h0];rfl
  wp_walk using Ka q
  exact⟨_,rfl,h⟩
def pV   l items (n:Nat) dd sl t :
  Uf (Fb.«tuple.__mul__» ⟨[.ref l,.int 1 t],[]⟩)
   (λA R s=>s.heap.get? l=da { cls:=.type "tuple",dict:=dd,data:=.seq items n,slots:=sl }/\R (.ok (.ret (.ref l))) s):=
 .of_wp λj w A R s h=>by
  obtain⟨y,g,d,z,F⟩:=s;obtain⟨q,h⟩:=h;have c1:(decide ((1:Int) < -2 ^ 63)||decide ((1:Int) ≥ 2 ^ 63))=ua:=by decide
  have c2:(items.isEmpty||(1:Int)==1)=ma:=by simp
  wp_walk using Ka q
  exact⟨_,rfl,h⟩

def CN  (K:Eb):R2:=λx y H Q=>∃l k j,x=.ref l/\y=.int k/\Ic K H l j/\j≠[]/\0<=k/\k<2 ^ 62/\j.length*k.toNat<=db/\(k=1->Q (.ref l) H)/\(k≠1->∀p,H p=Aa->Q (.ref p) (upd H p (.tup (Db k.toNat j).flatten)))
def ZR  : nc X (Pe .Mult) (CN X.K):=by
 intro xa s σ H x y v u Q I rx ry h;obtain⟨l,k,xs,rfl,rfl,hH,h0,h1,h2,hz,q1,q2⟩:=h;cases rx;obtain⟨t,rfl⟩:=ry;obtain⟨j,r,pl,_⟩:=I.tuple hH;have hl:=r.length;obtain⟨⟨ja,O,za,R⟩,e,Z,n,hd⟩:=id pl;simp only at Z hd;subst Z hd;have J:j≠[]:=λz=>h0 (r.nil_iff.mp z);refine XJ (T := "tuple") (U := "int") (by decide) ⟨_,e,rfl⟩ (λs'=>Iq s' k t) HW F.fills_int_mul cw BW F.slot_int_index.lookup
  (Dg cw (Iq s k t) F.entry_int_rmul (F.args_int_rmul_2 _ _) (EW k t l j.toArray n O R) ⟨e,rfl,⟨_,e,rfl⟩,?_⟩)
 by_cases hk:k=1
 ·subst hk;exact Dg Gq ⟨_,e,rfl⟩ YA (CB _ _) (pV l j.toArray n O R t) ⟨e,⟨.ref l,H,I,rfl,q1 rfl⟩⟩
 ·by_cases Y:k=0
  ·subst Y;refine Dg Gq ⟨_,e,rfl⟩ YA (CB _ _) (oV l j.toArray n O R t (by simpa using J)) ⟨e,?_⟩
   refine⟨.ref s.heap.objs.size,_,I.laid (t':=s.toks) (o:=.tup []) (λb ob q=>Ac _ q) (Jb _) ?_,rfl,q2 hk _ (I.hok.fresh (Jb _))⟩;exact⟨Eg _,[],.nil,TupD.new _ _⟩
  refine Dg Gq ⟨_,e,rfl⟩ YA (CB _ _) (qV l j.toArray n O R k t (by lia) h2 (by simpa using J) (by rw[Zc,<- hl];exact hz)) ⟨e,?_⟩
  have f0:=zz j k.toNat [];rw[Kg]at f0;rw[f0];refine⟨.ref s.heap.objs.size,_,I.laid (t':=s.toks) (o:=.tup (Db k.toNat xs).flatten) (λb ob q=>Ac _ q) (Jb _) ?_,rfl,q2 hk _ (I.hok.fresh (Jb _))⟩;exact⟨by rw[Wy,mw];exact hz,_,r.rep k.toNat,TupD.new _ _⟩
noncomputable def repS  (x:Str)(k:Nat):Str:=⟨(Db k x.cps.toList).flatten.toArray⟩
def BN  : R2:=λx y H Q=>∃z k,x=.str z/\y=.int k/\0<=k/\k<1000/\z.length<=1000/\Q (.str (repS z k.toNat)) H
theorem NF  (x:Array Nat):∀k (a:List Nat),((Db k x).foldl (·++·) a.toArray)=(a++(Db k x.toList).flatten).toArray
 |0,a=>by simp
 |k+1,a=>by
  rw[Jj,WA,show a.toArray++x=(a++x.toList).toArray by simp,NF x k]
  simp[Jj]
def YR  : nc X (Pe .Mult) BN:=by
 intro J s σ H x y v u Q I Y R h;obtain⟨z,k,rfl,rfl,h0,h1,hz,q⟩:=h;obtain⟨t,rfl⟩:=Y;obtain⟨t',rfl⟩:=R;have Z:z.length*k.toNat<=1000000:=Rb (Nat.mul_le_mul hz (show k.toNat<=1000 by lia)) (by decide)
 refine P.mul_str (by simp;lia) (λF _=>?_) (λF _=>?_) ?_
 ·have:((2:Int) ^ 63-1)/k ≥ 1000:=by
   refine(Int.le_ediv_iff_mul_le (by lia)).mpr ?_
   lia
  lia
 ·exact decide_eq_false (by
   have:(1000000:Nat)<=db:=by decide
   lia)
 ·split
  ·have e:repS z k.toNat=Str.empty:=by rw[show k.toNat=0 by lia];rfl
   rw[e]at q;exact⟨by decide,.str _,H,I.tok _,⟨_,rfl⟩,q⟩
  ·split
   ·rename_i F j;have e:repS z k.toNat=z:=by
     rw[Yq,beq_iff_eq,beq_iff_eq]at j;unfold repS;rcases j with j|j
     ·subst j;simp
     ·have:z.cps.toList=[]:=by
       have:z.cps.size=0:=j;simpa using this
      obtain⟨c⟩:=z;simp only at this ⊢;have O:c=#[]:=by simpa using this
      subst O;simp
    rw[e]at q;exact⟨.str _,H,I,⟨_,rfl⟩,q⟩
   ·have e:(Db k.toNat z.cps).foldl (·++·) #[]=(Db k.toNat z.cps.toList).flatten.toArray:=by
     have:=NF z.cps k.toNat [];simpa using this
    refine⟨?_,.str _,H,I.tok _,⟨_,rfl⟩,?_⟩
    ·rw[e];show(Db k.toNat z.cps.toList).flatten.toArray.size<=db;rw[Zc,Wy,mw];exact Rb Z (by decide)
    ·rw[e];exact q
theorem cH  : ∀{bs:List Bool} {us } {i:Nat} {v },Vals (bs.map V.bl) us->us[i]?=da v->∃b,bs[i]?=da b/\v=.bool b
 |b::r,_,0,v,.cons e q,h=>by
  cases e;exact⟨b,rfl,(Ee h).symm⟩
 |b::r,_,i+1,v,.cons e q,h=>cH (bs:=r) (i:=i) q (by simpa using h)
 |[],_,i,v,.nil,h=>by simp at h
def yV    {z:St}{bs:List Bool}(Y:X.calm=ma)(I:Pa X pins z H s)(F:Qc X.K H p (bs.map V.bl)) d :
  ∃j R wr P S,s.heap.IsList p j/\Walks X.prog X.w X.A.in1 s.heap.objs.size R wr bs.length P S/\S 0 (s.heap.push ⟨.type "list_iterator",Aa,.fields #[.ref p,.int 0 0],#[]⟩)/\TruthOf X.prog X.w X.A.in1 P (λi=>(bs[i]?).getD d)/\
   ∀h':Wa,(∀b o,b∉wr->(s.heap.push ⟨.type "list_iterator",Aa,.fields #[.ref p,.int 0 0],#[]⟩).get? b=da o->h'.get? b=da o)->∀b o,s.heap.get? b=da o->h'.get? b=da o:=by
 obtain⟨j,y,q,-⟩:=I.list F;have n:j.toArray.size=bs.length:=by simpa using y.length.symm
 obtain⟨o,J,-⟩:=id q.isList;have W:=Walks.list (prog:=X.prog) (w:=X.w) (A:=X.A.in1) (I.ok.hd Y) s.heap.objs.size p (Ae (Hc J)) j.toArray;rw[n]at W;refine⟨j.toArray,_,_,_,_,q.isList,W,⟨⟨_,Fe _ rfl,rfl,rfl⟩,q.isList.push _⟩,λi v t Q E Z O=>?_,λh' hk b o e=>hk b o (λm=>?_) (Ac _ e)⟩
 ·obtain⟨b,e,rfl⟩:=cH (i:=i) (v:=v) y (by simpa using Z)
  exact Uk (by simpa only[e,Option.getD]using O)
 ·exact absurd (Hc e) (by rw[Ea.mp m];exact Bi _)

def EV      {s:Fa}{C:Array Da->Prop} 
  (ext:∀Z ,(∀(h':Wa) tk (acc:Array Da) (c:Nat),(∀b o,b≠s.heap.objs.size->(s.heap.push ⟨.type "list",Aa,.seq #[] 0,#[]⟩).get? b=da o->h'.get? b=da o)->h'.get? s.heap.objs.size=da ⟨.type "list",Aa,.seq acc c,#[]⟩->C acc->Z (.ok (.ret (.ref s.heap.objs.size))) { s with heap:=h',toks:=tk })->
   codeAny (Ja prog w) A (.builtin "list.__iadd__" ⟨[.ref s.heap.objs.size,v],[]⟩) Z { s with heap:=s.heap.push ⟨.type "list",Aa,.seq #[] 0,#[]⟩ })
  (h:∀(h':Wa) tk (acc:Array Da),(∀b o,s.heap.get? b=da o->h'.get? b=da o)->s.heap.objs.size<h'.objs.size->C acc->R acc.toList { s with heap:=h',toks:=tk }) :
  wpAny (Ja prog w) A (collect v) R E s:=by
 have quiet:Code.quiet (.builtin "list.__iadd__" ⟨[.ref s.heap.objs.size,v],[]⟩)=ma:=MA EK _;have j:=λZ=>ub (E:=λe y=>Z (.error e) y) (M:=Ja prog w) (A:=A.in1) (Q:=λz y=>match z with|.done f=>Z (.ok f) y|.again c'=>c'.quiet=ma/\codeAny (Ja prog w) A c' Z y) (m:=Cr []) (f:=λl=>again (.builtin "list.__iadd__" ⟨[l,v],[]⟩)) (s:=s)
 refine ub (wpAny_runValue (Zv entry_proto_collect' ((xw PySem.F.plain_proto_collect _).symm ▸ j _ (Th (uc ⟨quiet,ext _ λh' tk acc c keep q ok=>?_⟩)))));exact ub (pp q (uc (h h' tk acc (λb o e=>keep b o (Ae (Hc e)) (Ac _ e)) (Hc q) ok)))
def eR {prog:Nb}{w:Bb}{A:ac}{s:Fa}{a:Ca}{v:Da}{Z:Result->Fa->Prop}(h:wpAny (Ja prog w) A.in1 (Fb.List.listExtendWith (.ref a) v (.ref a)) (λj s'=>match j with|.done f=>Z (.ok f) s'|.again c'=>c'.quiet=ma/\codeAny (Ja prog w) A c' Z s') (λe s'=>Z (.error e) s') s) :
  codeAny (Ja prog w) A (.builtin "list.__iadd__" ⟨[.ref a,v],[]⟩) Z s:=Zv entry_list_iadd' ((xw EK _).symm ▸ h)
def CV             (K:PySem.W.KdlSrc prog w T r d n P F)(q:A.handled=Aa)(j:F s.heap)(y:n<=db)
  (h:∀(h':Wa) tk (acc:Array Da),(∀b o,s.heap.get? b=da o->h'.get? b=da o)->s.heap.objs.size<h'.objs.size->ItemsOf P acc n->R acc.toList { s with heap:=h',toks:=tk }) :
  wpAny (Ja prog w) A (collect (.ref r)) R E s:=
 EV (λZ z=>eR (PySem.W.kdl_extend K q (K.keep _ _ j λb _ o e=>Ac _ e) _ (ow (K.there _ j).1) (ow (K.there _ j).2) _ 0 (Fe _ rfl) z y)) h
def uH        
  (h:wpAny (Ja prog w) A.in1 (collect v) (λvs s1=>wpAny (Ja prog w) A.in1 (Cr vs) (λl s2=>wpAny (Ja prog w) A.in1 (call (.builtin "list.sort") [l]) (λ_ j=>Q l j) E s2) E s1) E s) :
  wpAny (Ja prog w) A (call (.builtin "sorted") [v]) Q E s:=by
 have one:∀Z:Unit->Fa->Prop,Z () s->wpAny (Ja prog w) A.in1 (checkCount "sorted" 1 1 [v].length) Z E s:=λZ z=>uc z;refine Calls.call_function_entry kind_sorted plain_sorted entry_sorted (args_sorted1 v) (ub (one _ (ub (Pb h λvs s1 F=>ub (Pb F λl s2 y=>?_)))));exact ub (Nj (Pb y λ_ j q=>uc ⟨_,rfl,q⟩))
theorem Yz  : ∀{us } {ns },Ob us ns->Vals (ns.map V.int) us
 |_,_,.nil=>.nil
 |_,_,.cons n t r=>.cons ⟨t,rfl⟩ (Yz r)
theorem Uy  : ∀{kvs:List (Wb×V)} {vs },KV kvs vs->vs.map (·.1)=kvs.map (·.1)
 |_,_,.nil=>rfl
 |_,_,.cons a r=>by
  rw[He,He,Uy r,a.1]
theorem Ry    : ∀{ns:List Int} {acc } {vs:List (Wb×Da)},vs.map (·.1)=ns.map (λz=>(.inl z:Wb))->acc.length=ns.length->(∀(j:Nat) v ,acc[j]?=da v->∃k x,vs[j]?=da (k,x)/\(Sd P w).is k v=ma)->Ob acc ns
 |[],[],_,_,_,_=>.nil
 |z::ns,v::acc,(k,x)::vs,e,hl,h=>by
  obtain⟨Y,J,O,I⟩:=h 0 v rfl;have q:(k,x)=(Y,J):=Ee O;injection q with q e2
  subst q;rw[He,He]at e;injection e with F er
  have F:k=.inl z:=F;subst F;obtain⟨t,rfl⟩:∃t,v=.int z t:=by
   have I:Im (.inl z) v=ma:=I;rcases pi I with⟨i,t,e,rfl⟩|⟨y,t,e,_⟩
   ·simp_all
   lia
  exact .cons z t (Ry er (by simp_all) λj v R=>h (j+1) v R)
 |z::ns,v::acc,[],e,_,_=>by cases e
 |z::ns,[],_,_,hl,_=>by cases hl
 |[],v::acc,_,_,hl,_=>by cases hl
end L2

namespace L2
open PySem PySem.Spec PyProof.Rows
open Sem (wp)
open AutoSeq1 (wpAny_loadPart')

def mF      (hh:A.handled=Aa)(j:s.heap.IsTupleIter it t i)(ht:s.heap.IsTuple t items)
  (y:∀x h',items[i]?=da x->h'.IsTupleIter it t (i+1)->xo it s.heap h'->Q x { s with heap:=h' })
  (q:items[i]?=Aa->∀h' e,Wa.ExtBut it s.heap h'->(∃o,h'.get? e=da o/\o.cls=.type "StopIteration")->E (.ref e) { s with heap:=h' }) :
  wpAny (Ja prog w) A (TW (.ref it)) Q E s:=by
 have ty:=j.typeIs;rcases j with⟨⟨c,dc,dt,sl⟩,z,O,R⟩;rcases ht with⟨⟨c',ja,xa,za⟩,hl,-,n,Y⟩;dsimp only at O R Y;subst O R Y;have Z:∀f:Array Da->Array Da,xo it s.heap (s.heap.update it (Oj f)):=λf=>xo.update ..;have I:∀f:Array Da->Array Da,(s.heap.update it (Oj f)).get? it=da ⟨.type "tuple_iterator",dc,.fields (f #[.ref t,.int i 0]),sl⟩:=λf=>xB _ z rfl;refine ub (Aw (name:=Kj "__next__") ty LK (Fo LK ty F.entry_tuple_iterator_next ?_ (F.args_tuple_iterator_next_1 _)))
 wp_walk using JK z,JK hl
 rw[zn];cases J:items[i]? with
 |some x=>exact ub (kr z rfl (Nat.lt_succ_self 1) (uc ⟨x,rfl,uc (y x _ J ⟨_,I _,rfl,rfl⟩ (Z _))⟩))
 |none=>
  refine ub (jp (ub (kr z rfl (Nat.zero_lt_succ 1) ?_)));unfold UW
  wp_walk
  exact wpAny_raiseNew_none hh (q J _ _ (((Z _).extBut.push _).push _) ⟨_,Fe _ rfl,rfl⟩)
def WF     (O:A.handled=Aa) it t (J:t≠it)(items:Array Da) :
  Draws prog w A it [it,t] items.size (λi v=>items[i]?=da v) (λi h=>h.IsTupleIter it t i/\h.IsTuple t items):=by
 refine⟨λi h j=>?_,λi h I j hk=>?_,λi s Q E hi j Z=>?_,λs Q E j Y=>?_⟩
 ·rcases j.1 with⟨o,F,-⟩;exact⟨o,F⟩
 ·rcases j with⟨⟨o,F,r⟩,⟨u,hu,q⟩⟩;exact⟨⟨o,hk it (by simp) o F,r⟩,⟨u,hk t (by simp) u hu,q⟩⟩
 ·refine mF O j.1 j.2 (λx I e y R=>Z x I s.toks e ⟨y,j.2.extBut R.extBut J⟩ R) λz=>?_;exact absurd (Array.getElem?_eq_none_iff.mp z) (by lia)
 ·refine mF O j.1 j.2 (λx I e=>?_) λ_=>Y;exact absurd (Xb.mp e).1 (Bi _)
def eU    {x:α}(h:∀y,Q y s):wpAny M A (pure x) Q E s:=uc (h x)
def vI   v ob :
  Uf (Fb.«enumerate.__new__» ⟨[.type "enumerate",v],[]⟩) (λ_ R s=>(∀prog w A Q E ,Q (.ref s.heap.objs.size) { s with heap:=s.heap.push ob }->wpAny (Ja prog w) A (pyIter v) Q E s)/\
   R (.ok (.ret (.ref (s.heap.push ob).objs.size))) { s with heap:=(s.heap.push ob).push ⟨.type "enumerate",Aa,.fields #[.none,.bool ua,.ref s.heap.objs.size,Cb 0,.none,.none],#[]⟩ }):=
 .of_wp λprog w A R s h=>by
  rcases s with⟨y,g,d,z,I⟩;rcases h with⟨q,h⟩;have j:=sub_enumerate
  wp_walk
  refine wpAny_stack_any λF=>eU λb=>?_;cases b<;>(wp_walk using q prog w;exact⟨_,rfl,h⟩)
def tW  {s: Fa}(I:s.heap.IsTuple l items)
  (h:∀h',IsEnum h' (s.heap.objs.size+1) s.heap.objs.size 0 .none->h'.IsTupleIter s.heap.objs.size l 0->(∀b o,s.heap.get? b=da o->h'.get? b=da o)->Q (.ref (s.heap.objs.size+1)) { s with heap:=h' }) :
  wpAny (Ja prog w) A (call (.type "enumerate") [.ref l]) Q E s:=by
 have j:∀(p:Wa) (n:Nat) (o:Obj),p.objs.size=n->o.isFreed=ua->(p.push o).get? n=da o:=λp n o e f=>by
  subst e;exact Fe p f
 have sz:=λo=>dw s.heap o;refine callType_new F.called_enumerate (by decide) (qK _) (cK _) (λy=>sK y _) bK (vI (.ref l) _) ⟨λ_ _ _ _ _ q=>wpAny_pyIter_tuple I q,?_⟩
 rw[sz];have z:=j _ _ ⟨.type "enumerate",Aa,.fields #[.none,.bool ua,.ref s.heap.objs.size,Cb 0,.none,.none],#[]⟩ (sz ⟨.type "tuple_iterator",Aa,.fields #[.ref l,.int 0 0],#[]⟩) rfl;exact⟨⟨_,z,rfl⟩,h _ z ⟨_,Ac _ (j _ _ _ rfl rfl),rfl,rfl⟩ λb o x=>Ac _ (Ac _ x)⟩

def RE  {R: St}(I:Pa X pins R H s)(k:∀b o,b≠e->b≠it->s.heap.get? b=da o->h'.get? b=da o)(fe:FpOk X pins H e)(fi:FpOk X pins H it):Pa X pins R H { s with heap:=h',toks:=t' }:=by
 obtain⟨e0,F,_,e3,e4,e5⟩:=fe;obtain⟨i0,Z,_,i3,i4,i5⟩:=fi;have O:∀b u,H b=da u->b≠e:=λb u q z=>by rw[z,e0]at q;cases q
 have Y:∀b u,H b=da u->b≠it:=λb u q z=>by rw[z,i0]at q;cases q
 have kk:∀b o,b∉[e,it]->s.heap.get? b=da o->h'.get? b=da o:=λb o j q=>k b o (λz=>j (by simp[z])) (λz=>j (by simp[z])) q
 refine I.step (g':=s.gens) (d':=s.drawn) (ch:=[e,it]) (λb J=>?_) (λb o _ _ j q _=>kk b o j q) (λb o _ _ j q _=>⟨o.slots,kk b o j q⟩) (λ_ _ _ _ n=>n)
  (λb o j q=>⟨o,kk b o j q⟩) (λ_ _ q=>q) (λ_ _ _ q=>q) (λb ps q=>⟨#[],by rw[q];simp⟩) (λm hm=>?_) (λb u q=>?_) I.bare
 ·simp only[Mc,Qg,or_false]at J;rcases J with rfl|rfl
  ·exact⟨e3,F,e4,e5⟩
  ·exact⟨i3,Z,i4,i5⟩
 ·obtain⟨o,es,ep,ho,r⟩:=hm;exact⟨o,es,ep,k _ o (Xa F) (Xa Z) ho,r⟩
 ·refine(I.hok b u q).stay (λc v j y=>k c v ?_ ?_ y) (λ_ y=>y) λ_ _ y=>y
  ·rcases j with z|z
   ·rw[z];exact O b u q
   ·exact O c _ z
  ·rcases j with z|z
   ·rw[z];exact Y b u q
   ·exact Y c _ z
def CL  (z:Eb)(a:Ca):It:=
 ⟨λi H=>∃j x,H a=da (.tup j)/\j[i]?=da x,λi H y q=>∃j x p,H a=da (.tup j)/\j[i]?=da x/\y=.ref p/\H p=Aa/\q=upd H p (.tup [.int (i:Int),x]),λi H=>∃j,H a=da (.tup j)/\j.length=i⟩
def vV    {K:Eb} a e it (za:e≠it)(xb:a≠e)(wa:a≠it) :
  Turn P w K (.Tuple vb x1 pos) (CL K a) [e,it] e (λi h=>(∃q,IsEnum h e it (i:Int) q)/\h.IsTupleIter it a i) where
 mem:=by simp
 obj:=λi h Z b J=>by
  obtain⟨⟨q,R⟩,o,ho,c,d⟩:=Z;simp only[Mc,Qg,or_false]at J;rcases J with rfl|rfl
  ·exact⟨_,R,λv z=>nomatch z⟩
  ·exact⟨o,ho,λv z=>by rw[d]at z;cases z⟩
 keep:=λi h h' Z k=>by
  obtain⟨⟨q,R⟩,o,ho,r⟩:=Z;exact⟨⟨q,k e (by simp) _ R⟩,o,k it (by simp) _ ho,r⟩
 item:=by
  intro X hP hw hK hc i j s σ H E I hf Z hg;subst hP hw hK;obtain⟨xs,x,hq,hx⟩:=hg;obtain⟨F,rv,p,hz⟩:=I.tuple (Ic.of hq);obtain⟨u,hu,ru⟩:=rv.get hx;obtain⟨⟨q,R⟩,Y⟩:=Z;have ha:i<F.toArray.size:=by
   have:=(Ba.mp hu).1;simpa using this
  refine pK (WF (A:=X.A.in1) (I.ok.hd hc) it a wa F.toArray) R ⟨Y,p⟩ ha za (by simp;exact⟨za,Xa xb⟩) λx' h' O hP ho ka hT yb hk=>?_
  refine⟨_,rfl,gL ho λh2 zb ja=>?_⟩;have ex:x'=u:=by
   have:F.toArray[i]?=da u:=by simpa using hu
   exact Ee (hP.symm.trans this)
  subst ex;have jb:H s.heap.objs.size=Aa:=I.hok.fresh (Jb _);have va:e≠s.heap.objs.size:=Ae (Hc R);have ya:it≠s.heap.objs.size:=by obtain⟨o,xa,_⟩:=Y;exact Ae (Hc xa)
  have I1:Pa X j σ (upd H s.heap.objs.size (.tup [.int (i:Int),x])) { s with heap:=s.heap.push { cls:=.type "tuple",data:=.seq #[.int i O,x'] },toks:=O+1 }:=by
   refine I.laid (λb o y=>Ac _ y) (Jb _) ⟨by show 2<=db;decide,[.int i O,x'],.cons ⟨O,rfl⟩ (.cons ru .nil),TupD.new _ _⟩
  have fpU:∀b,b≠s.heap.objs.size->FpOk X j H b->FpOk X j (upd H s.heap.objs.size (.tup [.int (i:Int),x])) b:=λb J f=>⟨by rw[Gc J];exact f.1,f.2⟩
  have kk:∀b o,b≠e->b≠it->(s.heap.push { cls:=.type "tuple",data:=.seq #[.int i O,x'] }).get? b=da o->h2.get? b=da o:=λb o be bi y=>by
   have step:h'.get? b=da o:=by
    by_cases J:b=s.heap.objs.size
    ·subst J;rw[hT];exact(Fe s.heap (o:={ cls:=.type "tuple",data:=.seq #[.int i O,x'] }) rfl).symm.trans y
    ·rw[KB _ _ _ J]at y;exact hk b o be bi y
   exact(ja.2 b be).trans step
  have I2:Pa X j σ (upd H s.heap.objs.size (.tup [.int (i:Int),x])) { s with heap:=h2,toks:=O+1 }:=
   RE (s:={ s with heap:=s.heap.push { cls:=.type "tuple",data:=.seq #[.int i O,x'] },toks:=O+1 }) (h':=h2) (t':=O+1) (e:=e) (it:=it) I1 kk (fpU e va (hf e (by simp))) (fpU it ya (hf it (by simp)))
  refine⟨.ref s.heap.objs.size,_,I2,rfl,⟨xs,x,_,hq,hx,rfl,jb,rfl⟩,⟨⟨_,by simpa using zb⟩,?_⟩,λb J=>?_⟩
  ·obtain⟨o,xa,r⟩:=ka.1;exact⟨o,(ja.2 it (Xa za)).trans xa,r⟩
  ·simp only[Mc,Qg,or_false]at J;rcases J with rfl|rfl
   ·rw[Gc va];exact(hf _ (by simp)).1
   ·rw[Gc ya];exact(hf _ (by simp)).1
 done:=by
  intro X hP hw hK hc i j s σ H E I hf Z hg;subst hP hw hK;obtain⟨xs,hq,hx⟩:=hg;obtain⟨F,rv,p,hz⟩:=I.tuple (Ic.of hq);obtain⟨⟨q,R⟩,Y⟩:=Z;have hl:F.toArray.size=i:=by rw[Zc,<- rv.length];exact hx
  refine AK (WF (A:=X.A.in1) (I.ok.hd hc) it a wa F.toArray) R ⟨by rw[hl];exact Y,p⟩ λh' eb=>⟨rfl,?_⟩
  obtain⟨f0,f1,f2,f3,f4,f5⟩:=hf it (by simp)
  exact I.turned (t':=s.toks) (λb o J y=>eb b o J y) f0 f1 f3 f4 f5
 self:=λA i s Q E Z h=>by
  obtain⟨⟨q,R⟩,_⟩:=Z;exact Tw R h

end L2

namespace L2
open PySem PySem.Spec PyProof.Rows

def RV  : rf X (.builtin "isinstance") (λxs H Q=>∃(x:V) (c:String) (t:Da) (b:Bool),xs=[x,.ty c]/\TyOf X.K H x t/\gw X.K t (.type c)=da b/\Q (.bl b) H):=by
 intro j s O H xs R Q I r h;obtain⟨x,c,t,b,rfl,y,e,q⟩:=h;obtain⟨u,v,rfl,z,F⟩:=Vals.two r;cases F;exact NU I z y e λJ=>⟨.bl b,H,I.tok J,rfl,q⟩



def KeyI  (H:Hp)(v:V)(k:List Int):Prop:=∃n,v=.int n/\k=[n]
def KeyT  (K:Eb)(H:Hp)(v:V)(k:List Int):Prop:=∃t,v=.ref t/\Ic K H t (k.map V.int)

def oF    (r:Vals vs us){i:Nat}(h:us[i]?=da u):∃v,vs[i]?=da v/\RelV v u:=by
 induction r generalizing i with
 |nil=>cases h
 |cons a r j=>
  cases i with
  |zero=>exact⟨_,rfl,by cases h;exact a⟩
  |succ i=>exact j h
def pF    (r:Vals (ns.map V.int) us):Ob us ns:=by
 induction ns generalizing us with
 |nil=>cases r;exact .nil
 |cons n ns j=>
  cases r with
  |cons a r=>
   obtain⟨t,rfl⟩:=a;exact .cons n t (j r)
end L2

namespace L2
open PySem PySem.Spec PyProof.Rows PySem.W
section
variable {n:Nat}{lt:Nat->Nat->Bool}{cmp:Nat->Nat->(Bool->Fa->Prop)->Fa->Prop}{s:Fa}
structure Asks (n:Nat)(lt:Nat->Nat->Bool)(cmp:Nat->Nat->(Bool->Fa->Prop)->Fa->Prop)(s:Fa):Prop where
 ask:∀i j C,i<n->j<n->C (lt i j) s->cmp i j C s
 tr:∀i j k,i<n->j<n->k<n->lt i j=ma->lt j k=ma->lt i k=ma
 tot:∀i j,i<n->j<n->i≠j->lt i j=ma\/lt j i=ma
 ir:∀i,i<n->lt i i=ua
noncomputable def gD  (p:Array Nat)(k:Nat):Nat:=p.getD k 0
structure Ng (n:Nat)(p:Array Nat):Prop where
 z:p.size=n
 b:∀i,i<n->gD p i<n
 inj:∀i j,i<n->j<n->gD p i=gD p j->i=j
 pm:p.toList.Perm (Ge n)
def Wg  (lt:Nat->Nat->Bool)(p:Array Nat)(m:Nat):Prop:=∀i,i+1<m->lt (gD p i) (gD p (i+1))=ma
def Asks.no  (a:Asks n lt cmp s)(r:Ng n p)(F:i<n)(y:j<n)(q:i≠j)(h:lt (gD p i) (gD p j)=ua):lt (gD p j) (gD p i)=ma:=by
 rcases a.tot _ _ (r.b i F) (r.b j y) (λz=>q (r.inj i j F y z))with z|z
 ·lia
 lia
theorem Wg.less  (a:Asks n lt cmp s)(r:Ng n p)(j:m<=n)(h:Wg lt p m):∀d i,i+d+1<m->lt (gD p i) (gD p (i+d+1))=ma
 |0,i,hi=>h i hi
 |d+1,i,hi=>a.tr _ _ _ (r.b _ (by lia)) (r.b _ (by lia)) (r.b _ (by lia)) (Wg.less a r j h d i (by lia)) (h (i+d+1) hi)
theorem my  (a:Asks n lt cmp s)(r:Ng n p)(j:m<=n):∀f k ,1<=k->k+f=m->Wg lt p k->(∀k',k<=k'->k'<=m->Wg lt p k'->(k'<m->lt (gD p k') (gD p (k'-1))=ma)->Q k' s)->(kas_asc p f k).kasWp cmp Q s
 |0,k,_,e,h,q=>q k (Jb _) (by lia) h λz=>by lia
 |f+1,k,h1,e,h,q=>by
  refine a.ask _ _ _ (r.b k (by lia)) (r.b (k-1) (by lia)) ?_
  show(if lt (gD p k) (gD p (k-1))=ma then Sv k else kas_asc p f (k+1)).kasWp cmp Q s
  by_cases c:lt (gD p k) (gD p (k-1))=ma
  ·rw[if_pos c];exact q k (Jb _) (by lia) h λ_=>c
  ·rw[if_neg c];have c:lt (gD p (k-1)) (gD p k)=ma:=a.no r (by lia) (by lia) (by lia) (by lia)
   refine my a r j f (k+1) (by lia) (by lia) (λi J=>?_) λk' O I y F=>q k' (by lia) I y F
   by_cases z:i+1=k
   ·have:i=k-1:=by lia
    rw[z,this];exact c
   ·exact h i (by lia)
theorem BE  (a:Asks n lt cmp s)(r:Ng n p)(j:m<=n):∀f k ,1<=k->k+f=m->(∀i,i+1<k->lt (gD p (i+1)) (gD p i)=ma)->(∀k',k<=k'->k'<=m->(∀i,i+1<k'->lt (gD p (i+1)) (gD p i)=ma)->Q (p,k',0) s)->(Al f p k 0).kasWp cmp Q s
 |0,k,_,e,h,q=>q k (Jb _) (by lia) h
 |f+1,k,h1,e,h,q=>by
  refine a.ask _ _ _ (r.b k (by lia)) (r.b (k-1) (by lia)) ?_
  show(if lt (gD p k) (gD p (k-1))=ma then (if 0>0 then Al f (kas_rev p (k-(0+1)) k) (k+1) 0 else Al f p (k+1) 0)
   else KasT.ask (gD p (k-1)) (gD p k) λd=>if d=ma then Sv (p,k,0) else Al f p (k+1) (0+1)).kasWp cmp Q s
  by_cases c:lt (gD p k) (gD p (k-1))=ma
  ·rw[if_pos c,if_neg (by decide)]
   refine BE a r j f (k+1) (by lia) (by lia) (λi I=>?_) λk' J F y=>q k' (by lia) F y
   by_cases z:i+1=k
   ·have:i=k-1:=by lia
    rw[z,this];exact c
   ·exact h i (by lia)
  ·rw[if_neg c];have c:lt (gD p (k-1)) (gD p k)=ma:=a.no r (by lia) (by lia) (by lia) (by lia)
   refine a.ask _ _ _ (r.b (k-1) (by lia)) (r.b k (by lia)) ?_
   dsimp only;rw[if_pos c];exact q k (Jb _) (by lia) h
def bq    (h:p[i]?=q[j]?):gD p i=gD q j:=by
 unfold gD
 simp_all
def Ny    (j:m<=p.size) k:gD (kas_rev p 0 m) k=if k<m then gD p (m-1-k) else gD p k:=by
 have:=getElem?_mirror_all (xs:=p) (i:=0) j k;split
 ·rename_i h;refine bq ?_;show(mirror p 0 m ((m-0)/2))[k]?=_
  lia
 ·rename_i h;refine bq ?_;show(mirror p 0 m ((m-0)/2))[k]?=_
  lia
def Ng.rev   (r:Ng n p)(y:m<=n):Ng n (kas_rev p 0 m):=by
 have g:=λk=>Ny (p:=p) (m:=m) (by rw[r.z];exact y) k
 refine⟨by rw[kas_rev_size,r.z],λi q=>?_,λi j q F e=>?_,(Array.perm_iff_toList_perm.mp (mirror_perm p 0 m ((m-0)/2))).trans r.pm⟩
 ·rw[g];split
  ·exact r.b _ (by lia)
  ·exact r.b _ q
 ·rw[g,g]at e;split at e<;>split at e
  ·have:=r.inj _ _ (by lia) (by lia) e;lia
  ·have:=r.inj _ _ (by lia) (by lia) e;lia
  ·have:=r.inj _ _ (by lia) (by lia) e;lia
  ·exact r.inj _ _ q F e
def WS  (a:Asks n lt cmp s)(r:Ng n p)(h2:2<=n)(q:∀k y,1<=k->k<=n->Ng n y->Wg lt y k->Q (k,y) s):(kas_count n p).kasWp cmp Q s:=by
 unfold kas_count;rw[Zq];refine my a r (m:=n) (Jb _) (n-1) 1 (Jb _) (by lia) (λi I=>by lia) λk O J F h5=>?_
 by_cases e:k=n
 ·rw[if_pos (by lia)]
  exact q k p O J r F
 ·rw[if_neg (by lia)]
  by_cases hk:k>1
  ·rw[if_pos hk];refine a.ask _ _ _ (r.b 0 (by lia)) (r.b (k-1) (by lia)) ?_
   have c:lt (p.getD 0 0) (p.getD (k-1) 0)=ma:=by
    have:=Wg.less a r J F (k-2) 0 (by lia)
    rw[show 0+(k-2)+1=k-1 by lia]at this
    exact this
   dsimp only;rw[if_pos c];exact q k p O J r F
  ·rw[if_neg hk];have k1:k=1:=by lia
   subst k1;unfold kas_descPart;rw[Zq];refine BE a r (m:=n) (Jb _) (n-(1+1)) (1+1) (by lia) (by lia) (λi I=>?_) λj h6 z R=>?_
   ·grind
   ·rw[if_neg (by lia)]
    show(kas_tail3 j n p).kasWp cmp Q s;unfold kas_tail3;rw[Zq];have rr:=r.rev z;refine my a rr (m:=n) (Jb _) (n-j) j (by lia) (by lia) (λi I=>?_) λZ h9 ha Y hc=>?_
    ·rw[Ny (by rw[r.z];exact z),Ny (by rw[r.z];exact z),if_pos (by lia),if_pos I]
     have:=R (j-1-(i+1)) (by lia)
     rw[show j-1-(i+1)+1=j-1-i by lia]at this
     exact this
    ·exact q Z _ (by lia) ha rr Y
theorem dz  (a:Asks n lt cmp s)(r:Ng n p)(hk:k<n)(hs:Wg lt p k):∀f l u ,l<=u->u<=k->u-l<=f->(∀i,i<l->lt (gD p i) (gD p k)=ma)->(∀i,u<=i->i<k->lt (gD p k) (gD p i)=ma)->
  (∀j,j<=k->(∀i,i<j->lt (gD p i) (gD p k)=ma)->(∀i,j<=i->i<k->lt (gD p k) (gD p i)=ma)->Q j s)->(Nv p k f l u).kasWp cmp Q s
 |0,l,u,h1,h2,h3,h4,h5,q=>q l (by lia) h4 λi y=>h5 i (by lia)
 |f+1,l,u,h1,h2,h3,h4,h5,q=>by
  show(if l ≥ u then Sv l else KasT.ask (gD p k) (gD p ((l+u)/2)) λc=>if c=ma then Nv p k f l ((l+u)/2) else Nv p k f ((l+u)/2+1) u).kasWp cmp Q s
  by_cases e:l ≥ u
  ·rw[if_pos e];exact q l (by lia) h4 λi y=>h5 i (by lia)
  ·rw[if_neg e];obtain⟨m,F⟩:∃m,m=(l+u)/2:=⟨_,rfl⟩;rw[<- F];have O:l<=m:=by lia
   have R:m<u:=by lia
   refine a.ask _ _ _ (r.b k hk) (r.b m (by lia)) ?_
   dsimp only;by_cases c:lt (gD p k) (gD p m)=ma
   ·rw[if_pos c];refine dz a r hk hs f l m O (by lia) (by lia) h4 (λi J I=>?_) q
    by_cases z:i=m
    ·lia
    ·have:=Wg.less a r (Yi hk) hs (i-m-1) m (by lia)
     rw[show m+(i-m-1)+1=i by lia]at this
     exact a.tr _ _ _ (r.b _ hk) (r.b _ (by lia)) (r.b _ (by lia)) c this
   ·rw[if_neg c];have c:lt (gD p m) (gD p k)=ma:=a.no r hk (by lia) (by lia) (by lia)
    refine dz a r hk hs f (m+1) u (by lia) h2 (by lia) (λi y=>?_) h5 q
    by_cases z:i=m
    ·lia
    ·have:=Wg.less a r (Yi hk) hs (m-i-1) i (by lia)
     rw[show i+(m-i-1)+1=m by lia]at this
     exact a.tr _ _ _ (r.b _ (by lia)) (r.b _ (by lia)) (r.b _ hk) this c
def RQ    (hk:k<p.size)(q:l<=k) i:gD (bubble p k (k-l)) i=if i=l then gD p k else if l<i/\i<=k then gD p (i-1) else gD p i:=by
 have:=getElem?_bubble (xs:=p) hk (k-l) (by lia) i
 rw[show k-(k-l)=l by lia]at this
 split
 ·rename_i h;refine bq ?_;lia
 ·rename_i h;rw[if_neg h]at this;split
  ·rename_i j;refine bq ?_;lia
  ·rename_i j;refine bq ?_;lia
theorem SD  (a:Asks n lt cmp s)(q:∀p,Ng n p->Wg lt p n->Q p s):∀f p k ,Ng n p->k+f=n->Wg lt p k->(kas_bin f p k).kasWp cmp Q s
 |0,p,k,r,e,h=>by
  have:k=n:=by lia
  subst this;exact q p r h
 |f+1,p,k,r,e,h=>by
  show((Nv p k k 0 k).bind λl=>kas_bin f (bubble p k (k-l)) (k+1)).kasWp cmp Q s;rw[Zq];refine dz a r (by lia) h k 0 k (Eg _) (Jb _) (by lia) (λi F=>by lia) (λi h1 h2=>by lia) λl hl h1 h2=>?_
  have g:=λi=>RQ (p:=p) (k:=k) (l:=l) (by rw[r.z];lia) hl i
  refine SD a q f _ (k+1) ⟨by rw[bubble_size,r.z],λi F=>?_,λi j F hj O=>?_,(Array.perm_iff_toList_perm.mp (bubble_perm p k (k-l))).trans r.pm⟩ (by lia) λi F=>?_
  ·rw[g];split
   ·exact r.b _ (by lia)
   ·split
    ·exact r.b _ (by lia)
    ·exact r.b _ F
  ·have Y:∀i,gD (bubble p k (k-l)) i=gD p (if i=l then k else if l<i/\i<=k then i-1 else i):=λi=>by
    rw[g];split
    ·rfl
    ·split<;>rfl
   rw[Y,Y]at O;have bd:∀i,i<n->(if i=l then k else if l<i/\i<=k then i-1 else i)<n:=λi F=>by
    split
    ·lia
    ·split<;>lia
   have y:=r.inj _ _ (bd i F) (bd j hj) O;by_cases Z:i=l
   ·rw[if_pos Z]at y;by_cases J:j=l
    ·lia
    ·rw[if_neg J]at y;by_cases z:l<j/\j<=k
     ·rw[if_pos z]at y;lia
     ·rw[if_neg z]at y;lia
   ·rw[if_neg Z]at y;by_cases J:j=l
    ·rw[if_pos J]at y;by_cases I:l<i/\i<=k
     ·rw[if_pos I]at y;lia
     ·rw[if_neg I]at y;lia
    ·rw[if_neg J]at y;by_cases I:l<i/\i<=k
     ·rw[if_pos I]at y;by_cases z:l<j/\j<=k
      ·rw[if_pos z]at y;lia
      ·rw[if_neg z]at y;lia
     ·rw[if_neg I]at y;by_cases z:l<j/\j<=k
      ·rw[if_pos z]at y;lia
      ·rw[if_neg z]at y;lia
  ·rw[g,g];by_cases c1:i+1<l
   ·rw[if_neg (by lia),if_neg (by lia),if_neg (by lia),if_neg (by lia)]
    exact h i (by lia)
   ·by_cases c2:i+1=l
    ·rw[if_neg (by lia),if_neg (by lia),if_pos c2]
     exact h1 i (by lia)
    ·by_cases R:i=l
     ·rw[if_pos R,if_neg (by lia),if_pos (by lia)]
      rw[show i+1-1=l by lia]
      exact h2 l (Jb _) (by lia)
     ·rw[if_neg R,if_pos (by lia),if_neg (by lia),if_pos (by lia)]
      have:=h (i-1) (by lia)
      rw[show i-1+1=i+1-1 by lia]at this
      exact this
def DR  (a:Asks n lt cmp s)(J:2<=n)(q:∀p,Ng n p->Wg lt p n->Q p s):(kas_sort n).kasWp cmp Q s:=by
 unfold kas_sort;rw[Zq];have I:Ng n (Lq (Ge n)):=by
  have g:∀i,i<n->gD (Lq (Ge n)) i=i:=λi F=>by unfold gD;simp_all
  exact⟨by simp,λi F=>by simp_all,λi j F R e=>by simp_all,by simp⟩
 refine WS a I J λk y O Y r z=>?_;show(if k<n then kas_bin (n-max k 1) y (max k 1) else Sv y).kasWp cmp Q s
 by_cases c:k<n
 ·rw[if_pos c,Nat.max_eq_left O];exact SD a q (n-k) y k r (by lia) z
 ·rw[if_neg c];have:k=n:=by lia
  subst this;exact q y r z
end
end L2

namespace L2
open PySem PySem.Spec PyProof.Rows PySem.W
open PySem.AutoSeq1 (wpAny_loadPart')
open PySem.MeetsSeq PySem.MeetsSeq2 PySem.MeetsSeq3
def qF    (r:Ob us ns){i:Nat}(h:us[i]?=da u):∃z t,ns[i]?=da z/\u=.int z t:=by
 induction r generalizing i with
 |nil=>cases h
 |cons z t r j=>
  cases i with
  |zero=>cases h;exact⟨z,t,rfl,rfl⟩
  |succ i=>exact j h
def lU  {ns j:List Int}(I:ns[i]?=da a)(F:j[i]?=da c):HT.lexLt (ns.drop i) (j.drop i)=if a=c then HT.lexLt (ns.drop (i+1)) (j.drop (i+1)) else decide (a<c):=by
 obtain⟨J,q⟩:=Ba.mp I;obtain⟨z,y⟩:=Ba.mp F;rw[Qj J,Qj z,HT.lexLt_cons,q,y]
def BQ  {ns j:List Int}(h:i=ns.length\/i=j.length)(y:i<=ns.length)(F:i<=j.length):HT.lexLt (ns.drop i) (j.drop i)=decide (ns.length<j.length):=by
 by_cases q:i=ns.length
 ·rw[qr (l:=ns) (by lia)]
  by_cases z:i=j.length
  ·rw[qr (by lia),HT.lexLt_nil_nil];exact(decide_eq_false (by lia)).symm
  ·rw[Qj (l:=j) (by lia),HT.lexLt_nil_cons];exact(decide_eq_true (by lia)).symm
 ·rw[Qj (l:=ns) (by lia),qr (l:=j) (by lia),HT.lexLt_cons_nil];exact(decide_eq_false (by lia)).symm
def FQ   l b (xs y : Array Da)(n m : Nat) dd de sl sm (ns z : List Int)(hi : Ob xs.toList ns)(hj : Ob y.toList z) k :
    ∀ i , ns.length - i = k -> i <= ns.length -> i <= z.length -> Uf (Fb.«list.__eq__.loop» ⟨[.ref l, .ref b, Cb i, Cb 0], []⟩)
      (λ_ R s => s.heap.get? l = da { cls := .type "list", dict := dd, data := .seq xs n, slots := sl } /\ s.heap.get? b = da { cls := .type "list", dict := de, data := .seq y m, slots := sm } /\ R (.ok (.ret (.bool (HT.lexLt (ns.drop i) (z.drop i))))) s) := by
  have z1 : xs.size = ns.length := by rw [<- hi.length]; simp
  have z2 : y.size = z.length := by rw [<- hj.length]; simp
  have I : ∀ i : Nat, i <= ns.length -> i <= z.length -> (i = ns.length \/ i = z.length) -> Uf (Fb.«list.__eq__.loop» ⟨[.ref l, .ref b, Cb i, Cb 0], []⟩)
      (λ_ R s => s.heap.get? l = da { cls := .type "list", dict := dd, data := .seq xs n, slots := sl } /\ s.heap.get? b = da { cls := .type "list", dict := de, data := .seq y m, slots := sm } /\ R (.ok (.ret (.bool (HT.lexLt (ns.drop i) (z.drop i))))) s) := by
    intro i Y O h3 j w A R s h
    obtain ⟨hp, g, d, Z, os⟩ := s; obtain ⟨gl, J, h⟩ := h
    rw [BQ h3 Y O, <- z1, <- z2] at h
    wp_walk using Ka gl, Ka J
    rcases h3 with e | e
    · have q1 : xs[((i : Nat) : Int).toNat]? = Aa := by simp; lia
      rw [q1]
      wp_walk using Ka gl, Ka J
      exact h
    · have q2 : y[((i : Nat) : Int).toNat]? = Aa := by simp; lia
      rw [q2]
      cases q1 : xs[((i : Nat) : Int).toNat]? with
      | none => wp_walk using Ka gl, Ka J
                exact h
      | some v => wp_walk using Ka gl, Ka J
                  exact h
  induction k with
  | zero => exact λi hk Y O => I i Y O (.inl (by lia))
  | succ k ih =>
    intro i hk Y O
    by_cases e : i = z.length
    · exact I i Y O (.inr e)
    · intro j w A R s h
      obtain ⟨hp, g, d, Z, os⟩ := s; obtain ⟨gl, J, h⟩ := h
      wp_walk using Ka gl, Ka J
      have l1 : i < xs.size := by lia
      have l2 : i < y.size := by lia
      have q1 : xs[((i : Nat) : Int).toNat]? = da xs[i] := by simp [l1]
      have q2 : y[((i : Nat) : Int).toNat]? = da y[i] := by simp [l2]
      have hc : ((i : Int) + 1) = ((i + 1 : Nat) : Int) := by push_cast; rfl
      obtain ⟨a, t, ea, va⟩ := qF hi (i := i) (u := xs[i]) (by simp [l1])
      obtain ⟨c, u, ec, vc⟩ := qF hj (i := i) (u := y[i]) (by simp [l2])
      rw [lU ea ec] at h
      rw [q1, q2, va, vc]
      obtain ⟨e, he, F⟩ := HT.eqAt_int A.in1 ⟨hp, g, d, Z, os⟩ a t c u
      refine ub (he j w _ _ ?_)
      cases e with
      | true =>
        rw [if_pos (F.mp rfl)] at h
        wp_walk
        rw [hc]
        exact ⟨MA plain_eq_loop _, Zv entry_eq_loop (by rw [xw plain_eq_loop _]; exact ih (i + 1) (by lia) (by lia) (by lia) j w A R _ ⟨gl, J, h⟩)⟩
      | false =>
        rw [if_neg (λq => absurd (F.mpr q) Hd)] at h
        wp_walk using Ka gl, Ka J
        rw [q1, q2, va, vc]
        have xa := HT.rcLt_int A.in1 ⟨hp, g, d, Z, os⟩ a t c u j w
        wp_walk using xa
        exact h
def CQ   l b (xs q:Array Da)(n m:Nat) dd de sl sm ns ms (F:Ob xs.toList ns)(z:Ob q.toList ms):Uf (Fb.«list.__lt__» ⟨[.ref l,.ref b],[]⟩)
   (λ_ R s=>s.heap.get? l=da { cls:=.type "list",dict:=dd,data:=.seq xs n,slots:=sl }/\s.heap.get? b=da { cls:=.type "list",dict:=de,data:=.seq q m,slots:=sm }/\R (.ok (.ret (.bool (HT.lexLt ns ms)))) s):=by
 intro j w A R s h;obtain⟨J,g,d,I,Y⟩:=s;obtain⟨gl,y,h⟩:=h;have O:=AutoSeq1.sub_list_list
 wp_walk using Ka gl,Ka y
 exact⟨MA plain_eq_loop _,Zv entry_eq_loop (by rw[xw plain_eq_loop _];exact FQ l b xs q n m dd de sl sm ns ms F z _ 0 rfl (Eg _) (Eg _) j w A R _ ⟨gl,y,h⟩)⟩
end L2

namespace L2
open PySem PySem.Spec PyProof.Rows PySem.W
noncomputable def Nh  : Nat:=64

def eV      (hu:A.units<Sb)(ga:Dp s.heap a xs)(gb:Dp s.heap b ys)(Z:Ob xs.toList ns)(Y:Ob ys.toList F)(h:Q (HT.lexLt ns F) s) :
  wpAny (Ja prog w) A (oneLt' ma (.ref a) (.ref b)) Q E s:=by
 obtain⟨⟨c1,d1,R,y⟩,I,j,p1,q1,r1⟩:=ga;obtain⟨⟨c2,d2,J,q⟩,n2,O,z,q2,r2⟩:=gb;simp only at p1 q1 r1 z q2 r2;subst p1 q1 r1 z q2 r2;rw[oneLt'_eq];simp only[if_true];refine ub (wpAny_cRoomFor hu (ub (wpAny_callSpecialIfBound?_slot ⟨_,j,rfl⟩ OK (Dg OK ⟨_,j,rfl⟩ PySem.F.entry_list_lt (PySem.F.args_list_lt_2 _ _) (CQ a b xs ys I n2 Aa Aa y q ns F Z Y) ⟨j,O,?_⟩))));exact Uk h
def cP     [Decidable c]{g:α->Sem J}{Q:I->Fa->Prop} mid (z:c->wpAny M A m (λa s1=>wpAny M A (g a) mid E s1) E s)(y:¬c->wpAny M A n (λa s1=>wpAny M A (g a) mid E s1) E s)(F:∀b s2,mid b s2->wpAny M A (f b) Q E s2) :
  wpAny M A (if c then m >>= λa=>g a >>= f else n >>= λa=>g a >>= f) Q E s:=by
 have q:∀{m:Sem α},wpAny M A m (λa s1=>wpAny M A (g a) mid E s1) E s->wpAny M A (m >>= λa=>g a >>= f) Q E s:=λh=>ub (Pb h λa s1 h=>ub (Pb h F));by_cases j:c
 ·rw[if_pos j];exact q (z j)
 ·rw[if_neg j];exact q (y j)
def TH       (ho:s.heap.get? a=da (re "list" vs.toArray n))(ja:vs.length<Nh)(nd:vs.Nodup) lt 
  (hk:∀h' ,(∀b o,b≠a->s.heap.get? b=da o->h'.get? b=da o)->2<=vs.length->∀R ,R κ { s with heap:=h' }->wpAny (Ja prog w) A (keyKind' vs.toArray) R E { s with heap:=h' })
  (as:∀h' ,(∀b o,b≠a->s.heap.get? b=da o->h'.get? b=da o)->Asks vs.length lt (Xg prog w A κ vs) { s with heap:=h' })
  (q:∀y:List Nat,y.Perm (Ge vs.length)->(∀i,i+1<vs.length->lt (y.getD i 0) (y.getD (i+1) 0)=ma)->P (.done (.ret .none)) { s with heap:=xp s.heap a vs (Lq (y.map λi=>vs.getD i Yd)) }) :
  wpAny (Ja prog w) A (Fb.«list.sort» ⟨[.ref a],[]⟩) P E s:=by
 rw[list_sort_plain];have hz:vs.toArray.size=vs.length:=by simp
 have big:vs.length<=db:=by rw[Fi];unfold Nh at ja;lia
 have xa:=get?_update_seq ho λ_=>(#[]:Array Da);generalize J:s.heap.update a (Rk λ_=>(#[]:Array Da))=h1 at xa;obtain⟨e1,va⟩:∃e1,h1.get? a=da (re "list" #[] e1):=⟨_,xa⟩;refine ub (listItems_at ho rfl (ub (listUpdate_at ho rfl ?_ (hz ▸ big) (Eg _))));rw[J];refine ub (seqEpoch_at va rfl (ub (wpAny_newTuple (ub (RA (Nj ?_) (Eg _))) big)));obtain⟨j,z⟩:∃j,j=(h1.push (re "tuple" vs.toArray 0)).push (re "list" #[] 0):=⟨_,rfl⟩;refine(?_:wpAny (Ja prog w) A _ P E { s with heap:=(h1.push (re "tuple" vs.toArray 0)).push (re "list" #[] 0) })
 have kp:∀b o,b≠a->s.heap.get? b=da o->j.get? b=da o:=λb o hb e=>by
  rw[z];exact Ac _ (Ac _ (by rw[<- J,rK _ _ _ _ hb];exact e))
 have za:j.get? a=da (re "list" #[] e1):=by rw[z];exact Ac _ (Ac _ va)
 have ya:∀O:Array Da,xp s.heap a vs O=j.update a (Rk λ_=>O):=λO=>by rw[z,<- J];rfl
 rw[<- z];dsimp only;refine cP (λ(r:PUnit×SortSt) F=>F={ s with heap:=j }/\∃y:List Nat,y.Perm (Ge vs.length)/\(∀i,i+1<vs.length->lt (y.getD i 0) (y.getD (i+1) 0)=ma)/\(arrOf r.2).map (·.2)=Lq (y.map λi=>vs.getD i Yd)/\failedOf r.2=Aa) (λZ=>?_) (λZ=>?_) ?_
 rotate_right
 ·rintro⟨⟨⟩,st⟩ F ⟨rfl,y,hp,hs,I,hf⟩;refine ub (seqEpoch_at za rfl (ub (listUpdate_at za rfl ?_ (Eg _) (by rw[I,Zc,Ab,hp.length_eq,Lw];exact Nat.le_succ_of_le big))))
  dsimp only;rw[hf,bne_self_eq_false];refine uc ?_;rw[I,<- ya];exact q y hp hs
 ·rw[if_pos Z];refine uc (uc ⟨rfl,Ge vs.length,.refl _,λi hi=>by rw[hz]at Z;lia,?_,rfl⟩)
  refine(?_:(vs.toArray.zip vs.toArray).map (·.2)=_);apply Array.toList_inj.mp;refine zB (by simp) λi g1 g2=>?_
  have hi:i<vs.length:=by simpa using g1
  simp[Ad,hi]
 ·rw[if_neg Z];rw[hz]at Z;refine hk j kp (Kc.mp Z) _ ?_;refine Zf (kat_run (s:={ s with heap:=j }) (κ:=κ) (Q:=λY F=>F={ s with heap:=j }/\∃p:Array Nat,Ng vs.length p/\Wg lt p vs.length/\arrOf Y=p.map (kas_item (vs.toArray.zip vs.toArray))/\failedOf Y=Aa)
   (G:=λp F=>F={ s with heap:=j }/\Ng vs.length p/\Wg lt p vs.length) (ks:=vs) (vs:=vs) rfl (by lia) ja (λp Y F a1 a2 a3 a4=>⟨a4.1,p,a4.2.1,a4.2.2,a2,a3⟩) (DR (as j kp) (by lia) λp r1 r2=>⟨rfl,r1,r2⟩)) ?_ λ_ _ e=>e
  rintro⟨⟨⟩,st⟩ F ⟨rfl,p,r1,r2,ar,hf⟩;refine⟨rfl,p.toList,r1.pm,λi hi=>?_,kat_snds rfl ar,hf⟩;have:=r2 i hi;unfold gD at this;rw[UB,UB]at this;rw[Hi,Hi,zw,zw];exact this

theorem Zx  : ∀a ,HT.lexLt a a=ua
 |[]=>rfl
 |x::a=>by rw[HT.lexLt_cons,if_pos rfl];exact Zx a
theorem ay  : ∀a b c ,HT.lexLt a b=ma->HT.lexLt b c=ma->HT.lexLt a c=ma
 |[],[],_,h,_=>by cases h
 |[],_::_,[],_,h=>by rw[HT.lexLt_cons_nil]at h;cases h
 |[],_::_,_::_,_,_=>rfl
 |_::_,[],_,h,_=>by rw[HT.lexLt_cons_nil]at h;cases h
 |_::_,_::_,[],_,h=>by rw[HT.lexLt_cons_nil]at h;cases h
 |x::a,y::b,z::c,h1,h2=>by
  rw[HT.lexLt_cons]at h1 h2 ⊢;by_cases F:x=y
  ·rw[if_pos F]at h1;by_cases j:y=z
   ·rw[if_pos j]at h2;rw[if_pos (F.trans j)];exact ay a b c h1 h2
   ·rw[if_neg j]at h2;rw[if_neg (λq=>j (F.symm.trans q)),F];exact h2
  ·rw[if_neg F]at h1;by_cases j:y=z
   ·rw[if_pos j]at h2;rw[if_neg (λq=>F (q.trans j.symm)),<- j];exact h1
   ·rw[if_neg j]at h2;have J:=of_decide_eq_true h1;have I:=of_decide_eq_true h2;rw[if_neg (by lia)];exact decide_eq_true (by lia)
theorem GD  : ∀a b ,a≠b->HT.lexLt a b=ma\/HT.lexLt b a=ma
 |[],[],h=>absurd rfl h
 |[],_::_,_=>.inl rfl
 |_::_,[],_=>.inr rfl
 |x::a,y::b,h=>by
  rw[HT.lexLt_cons,HT.lexLt_cons];by_cases e:x=y
  ·rw[if_pos e,if_pos e.symm];exact GD a b λz=>h (by rw[e,z])
  ·rw[if_neg e,if_neg (Xa e)];by_cases z:x<y
   ·exact .inl (decide_eq_true z)
   ·exact .inr (decide_eq_true (by lia))
def KeyL  (K:Eb)(H:Hp)(v:V)(k:List Int):Prop:=∃t,v=.ref t/\Qc K H t (k.map V.int)
def mU         (I:Vals (k.map V.int) F)(q:Vals (k'.map V.int) z) i (h:Q (HT.lexLt k k') s):KatLex prog w A ma (decide (F.toArray.size<z.toArray.size)) Q (F.toArray.toList.zip z.toArray.toList) i s:=by
 have O:∀(k:List Int) {k':List Int} {F z:List Da} (j:Bool),Vals (k.map V.int) F->Vals (k'.map V.int) z->j=decide (F.length<z.length)->∀(i:Nat),Q (HT.lexLt k k') s->KatLex prog w A ma j Q (F.zip z) i s:=λk=>by
  induction k with
  |nil=>
   intro k' F z j I q J i h;cases I;subst J;cases k' with
   |nil=>cases q;exact kat_nil (by rw[HT.lexLt_nil_nil]at h;simpa using h)
   |cons y k'=>
    cases q with
    |cons b q=>
     refine kat_nil ?_;rw[show HT.lexLt [] (y::k')=ma from rfl]at h;simpa using h
  |cons x k R=>
   intro k' F z j I q J i h;cases I with
   |cons a I=>
    cases k' with
    |nil=>cases q;subst J;exact kat_nil (by rw[HT.lexLt_cons_nil]at h;simpa using h)
    |cons y k'=>
     cases q with
     |cons b q=>
      obtain⟨t,rfl⟩:=a;obtain⟨u,rfl⟩:=b;rw[HT.lexLt_cons]at h;refine kat_cons (wpAny_eqBool_int ?_);refine kat_go (λe=>kat_yes ?_) λe=>kat_no ?_
      ·have e:x=y:=by simpa using e
       rw[if_pos e]at h;exact R j I q (by rw[J];simp) (i+1) h
      ·have e:¬x=y:=by simpa using e
       rw[if_neg e]at h;cases i with
       |zero=>exact jx h
       |succ i=>
        rw[show(ma&&(i+1==0))=ua by simp]
        exact kat_one _ _ (wpAny_lt_int h)
 exact O k _ I q (by simp) i h

def JM  (X:Cx)(xs:List V)(H:Hp)(Q:VK):Prop:=∃(p:Ca) (vs:List V) (ks:List (List Int)),xs=[.ref p]/\Qc X.K H p vs/\vs.length=ks.length/\ks.Nodup/\vs.length<Nh/\
 ((∀(i:Nat) v k,vs[i]?=da v->ks[i]?=da k->KeyI H v k)\/(∀(i:Nat) v k,vs[i]?=da v->ks[i]?=da k->KeyL X.K H v k)\/∀(i:Nat) v k,vs[i]?=da v->ks[i]?=da k->KeyT X.K H v k/\k≠[])/\
 ∀(l:Ca) (π:List Nat),H l=Aa->π.Perm (Ge vs.length)->(∀i,i+1<vs.length->HT.lexLt (ks.getD (π.getD i 0) []) (ks.getD (π.getD (i+1) 0) [])=ma)->Q (.ref l) (upd H l (.lst (π.map λi=>vs.getD i .non)))
def uu  {F:Type}{l:List F}(h:l.Nodup) hi (y:j<l.length)(q:i≠j):l[i]≠l[j]:=by
 have h:=Wc.mp h;rcases Nat.lt_or_gt_of_ne q with z|z
 ·exact h i j hi y z
 ·exact λe=>h j i y hi z e.symm
def kW  (hc:X.calm=ma)(hu:X.A.units+2<Sb):rf X (.builtin "sorted") (JM X):=by
 intro vc s σ H xs us Q I r h;obtain⟨p,vs,ks,rfl,hq,hl,wb,kb,hk,q⟩:=h;obtain⟨u,rfl,rx⟩:=fh r;cases rx;obtain⟨F,rv,pl,hz⟩:=I.list hq;have il:=rv.length;have hL:=pl.isList;have xa:∀{i:Nat} {u:Da},F[i]?=da u->∃v k,vs[i]?=da v/\ks[i]?=da k/\RelV v u:=λ{i u} e=>by
  obtain⟨v,ev,r1⟩:=oF rv e;have:i<ks.length:=by rw[<- hl];exact(Ba.mp ev).1
  exact⟨v,ks[i],ev,Bc this,r1⟩
 have nd:F.Nodup:=by
  refine Wc.mpr λi j Y hj wc e=>?_;obtain⟨x,k,ex,Z,r1⟩:=xa (Bc Y);obtain⟨y,k',ey,O,r2⟩:=xa (Bc hj);have ja:k≠k':=λz=>by
   obtain⟨h1,q1⟩:=Ba.mp Z;obtain⟨h2,q2⟩:=Ba.mp O;exact uu wb h1 h2 (by lia) (by rw[q1,q2];exact z)
  rcases hk with hk|hk|hk
  ·obtain⟨z,rfl,e1⟩:=hk i x k ex Z;obtain⟨z',rfl,e2⟩:=hk j y k' ey O;obtain⟨t1,g1⟩:=r1;obtain⟨t2,g2⟩:=r2;rw[g1,g2]at e;injection e with e3 _
   exact ja (by rw[e1,e2,e3])
  ·obtain⟨a,rfl,ha⟩:=hk i x k ex Z;obtain⟨b,rfl,hb⟩:=hk j y k' ey O;have g1:F[i]=.ref a:=r1;have g2:F[j]=.ref b:=r2;rw[g1,g2]at e;injection e with e3
   subst e3;exact ja (jK (λ_ _ h=>by injection h) |>.mp (I.list_inj ha hb))
  ·obtain⟨⟨a,rfl,ha⟩,_⟩:=hk i x k ex Z;obtain⟨⟨b,rfl,hb⟩,_⟩:=hk j y k' ey O;have g1:F[i]=.ref a:=r1;have g2:F[j]=.ref b:=r2;rw[g1,g2]at e;injection e with e3
   subst e3;exact ja (jK (λ_ _ h=>by injection h) |>.mp (I.tuple_inj ha hb))
 have big:F.length<=db:=by rw[Fi];unfold Nh at kb;lia
 refine uH (collect_list hL (RA ?_ big) big);obtain⟨h1,za⟩:∃h1,h1=(s.heap.push (re "list" #[] 0)).update s.heap.objs.size (Rk (·++F.toArray)):=⟨_,rfl⟩;rw[<- za];have k1:∀b o,s.heap.get? b=da o->h1.get? b=da o:=λb o e=>by
  rw[za,rK _ _ _ _ (Ae (Hc e))];exact Ac _ e
 have vb:s.heap.objs.size<=h1.objs.size:=by rw[za,Wa.size_update,yp];exact Tv _
 have va:(h1.push { cls:=.type "list",data:=.seq F.toArray }).get? h1.objs.size=da (re "list" F.toArray 0):=Fe _ rfl;have up:∀(J:Wa),(∀b o,b≠h1.objs.size->(h1.push { cls:=.type "list",data:=.seq F.toArray }).get? b=da o->J.get? b=da o)->∀b o,s.heap.get? b=da o->J.get? b=da o:=λJ k b o e=>
  k b o (Ae (Hc (k1 b o e))) (Ac _ (k1 b o e))
 obtain⟨κ,ya,zb⟩:∃κ:SortKind,(∀J:Wa,(∀b o,s.heap.get? b=da o->J.get? b=da o)->2<=F.length->∀(R:SortKind->Fa->Prop) (E:Da->Fa->Prop),R κ { s with heap:=J }->wpAny (Ja X.prog X.w) X.A.in1.in1 (keyKind' F.toArray) R E { s with heap:=J })/\
   ∀(J:Wa),(∀b o,s.heap.get? b=da o->J.get? b=da o)->∀(i j:Nat) (C:Bool->Fa->Prop),i<F.length->j<F.length->C (HT.lexLt (ks.getD i []) (ks.getD j [])) { s with heap:=J }->Xg X.prog X.w X.A.in1.in1 κ F i j C { s with heap:=J }:=by
  have wa:∀{i j:Nat} {C:Bool->Fa->Prop} {J:Wa},∀(Y:i<F.length) (hj:j<F.length),C (HT.lexLt (ks.getD i []) (ks.getD j [])) { s with heap:=J }->∃x k y k',vs[i]?=da x/\ks[i]?=da k/\RelV x (F.getD i Yd)/\vs[j]?=da y/\ks[j]?=da k'/\RelV y (F.getD j Yd)/\C (HT.lexLt k k') { s with heap:=J }:=λ{i j C J} Y hj hC=>by
   have ei:F.getD i Yd=F[i]:=by simp[Ad,Y]
   have ej:F.getD j Yd=F[j]:=by simp[Ad,hj]
   obtain⟨x,k,ex,Z,rx⟩:=xa (Bc Y);obtain⟨y,k',ey,O,ry⟩:=xa (Bc hj);have di:ks.getD i []=k:=by rw[Hi,Z];rfl
   have dj:ks.getD j []=k':=by rw[Hi,O];rfl
   rw[di,dj]at hC;exact⟨x,k,y,k',ex,Z,by rw[ei];exact rx,ey,O,by rw[ej];exact ry,hC⟩
  rcases hk with hk|hk|hk
  ·refine⟨oneType',λJ up h2 R E hR=>kas_kind (M:=Ja X.prog X.w) (s:={ s with heap:=J }) (T:=.type "int") (by lia) (λv hv=>?_) (by decide) (by decide) hR,λJ up i j C Y hj hC=>?_⟩
   ·obtain⟨i,Y,rfl⟩:=Lg hv;obtain⟨x,k,ex,Z,r1⟩:=xa (Bc Y);obtain⟨z,rfl,_⟩:=hk i x k ex Z;obtain⟨t,e⟩:=r1;rw[e];exact iB rfl
   ·obtain⟨x,k,y,k',ex,Z,rx,ey,O,ry,hC⟩:=wa Y hj hC;unfold Xg;rw[DA];obtain⟨z,rfl,e1⟩:=hk i x k ex Z;obtain⟨z',rfl,e2⟩:=hk j y k' ey O;obtain⟨t1,g1⟩:=rx;obtain⟨t2,g2⟩:=ry;rw[g1,g2];rw[e1,e2]at hC;refine jx ?_;have e:HT.lexLt [z] [z']=decide (z<z'):=by
     rw[HT.lexLt_cons];split
     ·rename_i q;rw[q,HT.lexLt_nil_nil];simp
     ·rfl
    rw[e]at hC;exact hC
  ·refine⟨oneType',λJ up h2 R E hR=>kas_kind (M:=Ja X.prog X.w) (s:={ s with heap:=J }) (T:=.type "list") (by lia) (λv hv=>?_) (by decide) (by decide) hR,λJ up i j C Y hj hC=>?_⟩
   ·obtain⟨i,Y,rfl⟩:=Lg hv;obtain⟨x,k,ex,Z,r1⟩:=xa (Bc Y);obtain⟨t,rfl,ht⟩:=hk i x k ex Z;obtain⟨js,rj,⟨o,m,eo,ec,_,_⟩,_⟩:=I.list ht;have r1:F[i]=.ref t:=r1;rw[r1];have:Looks (Ja X.prog X.w) J (typeOf (.ref t)) o.cls:=(Looks.ld (up _ _ eo)).andThen .now;rw[ec]at this;exact this
   ·obtain⟨x,k,y,k',ex,Z,rx,ey,O,ry,hC⟩:=wa Y hj hC;unfold Xg;rw[DA];obtain⟨a,rfl,ha⟩:=hk i x k ex Z;obtain⟨b,rfl,hb⟩:=hk j y k' ey O;obtain⟨ia,ra,pa,_⟩:=I.list ha;obtain⟨ib,rb,pb,_⟩:=I.list hb;have g1:F.getD i Yd=.ref a:=rx;have g2:F.getD j Yd=.ref b:=ry;rw[g1,g2];have yb:∀{t:Ca} {z:Array Da},Dp s.heap t z->Dp J t z:=λ⟨o,n,e,q1,q2,q3⟩=>⟨o,n,up _ _ e,q1,q2,q3⟩;exact eV (A:=X.A.in1.in1) (by rw[aK,aK];lia) (yb pa) (yb pb) (pF (by simpa using ra)) (pF (by simpa using rb)) hC
  ·refine⟨tuples' ma,λJ up h2 R E hR=>?_,λJ up i j C Y hj hC=>?_⟩
   ·have go:∀l:List Da,(∀v∈l,v∈F)->∃fs,KatTups J l fs/\fs.length=l.length/\∀f∈fs,Looks (Ja X.prog X.w) J (typeOf f) (.type "int"):=λl=>by
     induction l with
     |nil=>intro _;exact⟨[],.nil,rfl,λ_ h=>(nomatch h)⟩
     |cons v l ih=>
      intro hv;obtain⟨fs,h1,h2,h3⟩:=ih λw hw=>hv w (Oc _ hw);obtain⟨i,Y,rfl⟩:=Lg (hv v Re);obtain⟨x,k,ex,Z,r1⟩:=xa (Bc Y);obtain⟨⟨t,rfl,ht⟩,kn⟩:=hk i x k ex Z;obtain⟨js,rj,⟨o,eo,ec,m,ed⟩,_⟩:=I.tuple ht;have r1:F[i]=.ref t:=r1;rw[r1];cases k with
      |nil=>exact absurd rfl kn
      |cons z k=>
       cases rj with
       |@cons v' u' _ yc r0 rr=>
        obtain⟨tk,rfl⟩:=r0;exact⟨_::fs,.cons (up _ _ eo) ec ed rfl h1,by rw[bf,bf,h2],λf hf=>by
         rcases Mc.mp hf with rfl|hf
         ·exact iB rfl
         ·exact h3 f hf⟩
    obtain⟨fs,h1,h3,h4⟩:=go F λ_ h=>h;exact kat_kind (M:=Ja X.prog X.w) (s:={ s with heap:=J }) h1 (by lia) h4 (by decide) hR
   ·obtain⟨x,k,y,k',ex,Z,rx,ey,O,ry,hC⟩:=wa Y hj hC;unfold Xg;obtain⟨⟨a,rfl,ha⟩,_⟩:=hk i x k ex Z;obtain⟨⟨b,rfl,hb⟩,_⟩:=hk j y k' ey O;obtain⟨ia,ra,⟨o1,q1,_,m1,d1⟩,_⟩:=I.tuple ha;obtain⟨ib,rb,⟨o2,q2,_,m2,d2⟩,_⟩:=I.tuple hb;have g1:F.getD i Yd=.ref a:=rx;have g2:F.getD j Yd=.ref b:=ry;rw[g1,g2];refine kat_lt (s:={ s with heap:=J }) (up _ _ q1) d1 (up _ _ q2) d2 ?_
    exact mU ra rb 0 hC
 refine Fo slot_list_sort ⟨_,va,rfl⟩ entry_list_sort (TH (κ:=κ) (s:={ s with heap:=h1.push { cls:=.type "list",data:=.seq F.toArray } }) va (by lia) nd (λi j=>HT.lexLt (ks.getD i []) (ks.getD j [])) (λJ kp h2 R hR=>ya J (up J kp) h2 R _ hR) (λJ kp=>⟨λi j C Y hj hC=>zb J (up J kp) i j C Y hj hC,λi j k Y hj kc h1 h2=>ay _ _ _ h1 h2,λi j Y hj jc=>GD _ _ ?_,λi _=>Zx _⟩) λπ hp hs=>⟨_,rfl,?_⟩) (args_list_sort _)
 ·have xb:i<ks.length:=by lia
  have qc:j<ks.length:=by lia
  have di:ks.getD i []=ks[i]:=by simp[Ad,xb]
  have dj:ks.getD j []=ks[j]:=by simp[Ad,qc]
  rw[di,dj];exact uu wb xb qc jc
 ·obtain⟨e,he⟩:=sortedHeap_at (out:=Lq (π.map λi=>F.getD i Yd)) va;rw[<- il]at hp hs;have zc:∀i∈π,i<vs.length:=λi Y=>Yb.mp (hp.mem_iff.mp Y);refine⟨.ref h1.objs.size,_,I.laid (o:=.lst (π.map λi=>vs.getD i .non)) (λb ob y=>?_) vb ?_,rfl,q _ π (I.hok.fresh vb) hp hs⟩
  ·have hb:=k1 b ob y;have xc:=Hc hb;rw[sortedHeap_old (Ae xc) (by rw[yp];exact DB xc)]
   exact Ac _ hb
  ·refine⟨by rw[Ab,hp.length_eq,Lw,Fi];unfold Nh at kb;lia,π.map λi=>F.getD i Yd,e,?_,?_⟩
   ·have:∀l:List Nat,(∀i∈l,i<vs.length)->Vals (l.map λi=>vs.getD i .non) (l.map λi=>F.getD i Yd):=λl=>by
     induction l with
     |nil=>intro _;exact .nil
     |cons i l ih=>
      intro ka;have Y:=ka i (by simp)
      have jb:i<F.length:=by lia
      obtain⟨v,ev,r1⟩:=oF rv (Bc jb);refine .cons ?_ (ih λj hj=>ka j (Oc _ hj));refine(?_:RelV (vs.getD i .non) (F.getD i Yd));rw[Hi,ev,Hi,Bc jb];exact r1
    exact this π zc
   ·rw[he]
section
variable {X:Cx}
def zV  (hc:X.calm=ma):rf X (.type "list") (λxs H Q=>∃(a:Ca) (kvs:List (Wb×V)) (ns:List Int),xs=[.ref a]/\H a=da (.dK kvs)/\kvs.map (·.1)=ns.map (λz=>(.inl z:Wb))/\∀l,H l=Aa->Q (.ref l) (upd H l (.lst (ns.map V.int)))):=by
 intro xa s σ H xs us Q I r h;obtain⟨a,kvs,ns,rfl,ha,hk,q⟩:=h;obtain⟨u,rfl,rx⟩:=fh r;cases rx;obtain⟨hz,hS,J,rv,m⟩:kvs.length<=db/\(a==Ye)=ua/\∃J,KV kvs J/\s.heap.DictOf (Sd X.prog X.w) a J:=I.hok a _ ha;obtain⟨ep,Z⟩:=m.dictAt;have O:J.map (·.1)=kvs.map (·.1):=Uy rv;have R:J.length=ns.length:=by simpa using congrArg Uv (O.trans hk)
 have ja:kvs.length=ns.length:=by simpa using congrArg Uv hk
 refine kdl_call (A:=X.A) (kdl_dict (knd:=Sd X.prog X.w) (kvs:=J) (ep:=ep) hS) (I.ok.hd hc) Z (by lia) λh' tk F c' Y za y=>?_
 have hl:F.toList.length=ns.length:=by rw[vn,y.1,R]
 have hI:Ob F.toList ns:=Ry (O.trans hk) hl λj v e=>y.2 j v (by simp_all)
 refine⟨.ref s.heap.objs.size,_,I.laid (t':=tk) (o:=.lst (ns.map V.int)) (λb o e=>Y b o e) (Jb _) ⟨by simp_all,F.toList,c',Yz hI,by simp_all⟩,rfl,q _ (I.hok.fresh (Jb _))⟩
theorem Fk  : ∀r:List Int,Nw (r.map .int)=ma/\Fj (r.map .int)=0/\noBs (r.map .int)=ma
 |[]=>⟨rfl,rfl,rfl⟩
 |i::r=>by
  obtain⟨q,j,y⟩:=Fk r;refine⟨?_,?_,?_⟩
  ·show((Hq i).canLay0&&Nw (r.map .int))=ma;rw[q];rfl
  ·show max (Hq i).depth (Fj (r.map .int))=0;rw[j];rfl
  ·show(Oi (.int i)&&noBs (r.map .int))=ma;rw[y];rfl
theorem QF  : ∀{l j:List Int},l.map Hq=j.map Hq->l=j
 |[],[],_=>rfl
 |[],_::_,h=>by cases h
 |_::_,[],h=>by cases h
 |a::l,b::j,h=>by
  have h:=eK h;rw[Hq.inj h.1,QF h.2]
def FE  (k k':List Int):Vd (.list (k.map .int)) (.list (k'.map .int))=decide (k=k'):=by
 by_cases h:k=k'
 ·rw[h,PySem.SeqAt.eqv_refl (.list (k'.map .int)) (Fk k').1];simp
 ·cases e:Vd (.list (k.map .int)) (.list (k'.map .int))with
  |false=>simp[h]
  |true=>
   have e:=Ua.list.inj (pD (d:=.list (k.map .int)) (e:=.list (k'.map .int)) (Fk k).2.2 (Fk k').2.2 e);exact absurd (QF e) h

def rInD  (X:Cx)(j:Bool):R2:=λx y H Q=>∃(p:Ca) (vs:List V) (d:Ua) (ds:List Ua),y=.ref p/\(Qc X.K H p vs\/Ic X.K H p vs)/\DV X.K H x d/\ig X.K H vs ds/\d.canLay0=ma/\d.depth<=100/\(∀e∈ds,e.canLay0=ma)/\Q (.bl (if j then !(ds.any λe=>Vd e d) else ds.any λe=>Vd e d)) H
open Classical in
noncomputable def eD (h:Wa)(d:Ua)(w:Da):Bool:=decide (∃e j,e.canLay0=ma/\Reads h w e j/\Vd e d=ma)
open Classical in
def FC {h:Wa}{d e:Ua}{w:Da}{as:List Ca}(r:Reads h w e as)(c:e.canLay0=ma):eD h d w=Vd e d:=by
 unfold eD;cases q:Vd e d with
 |true=>grind
 |false=>
  refine decide_eq_false λ⟨z,j,I,F,y⟩=>?_;rw[SeqAt.Reads.unique z e w j as I F r,q]at y;cases y
theorem vE {h:Wa}{d:Ua}:∀{us:List Da} {q:List Ua} {as:List Ca},ReadsAll h us q as->(∀e∈q,e.canLay0=ma)->us.any (eD h d)=(q.any λe=>Vd e d)/\∀w∈us,∃e as,e.canLay0=ma/\Reads h w e as
 |_,_,_,.nil,_=>⟨rfl,λw j=>by simp at j⟩
 |_,_,_,.cons r rs,c=>by
  obtain⟨z,y⟩:=vE (d:=d) rs λe F=>c e (Oc _ F);refine⟨by rw[Vi,Vi,z,FC r (c _ Re)],λw j=>?_⟩
  rcases Mc.mp j with rfl|j
  ·exact⟨_,_,c _ Re,r⟩
  ·exact y w j
def Ju   {F:St}(hu:A.units+100<Sb)(I:Pa X pins F H s)(O:RelV x u)(hd:DV X.K H x d)(c:d.canLay0=ma)(Z:d.depth<=100)(r:Vals vs j)(J:ig X.K H vs y)(cs:∀e∈y,e.canLay0=ma) :
  (∀w,w∈j->Xf A s w u (eD s.heap d w))/\j.any (eD s.heap d)=y.any λe=>Vd e d:=by
 obtain⟨as,Y⟩:=ig.reads I J r;obtain⟨bs,rb⟩:=DV.reads I hd O;obtain⟨h1,h2⟩:=vE (d:=d) Y cs;refine⟨λw R=>?_,h1⟩;obtain⟨e,xa,z,q⟩:=h2 w R;rw[FC q z];exact SeqAt.eqAt_reads _ _ A s _ _ _ _ q rb z c (Ug (Qw (Rb (Nat.min_le_right _ _) Z) _) hu)
def kQ   (hr:Room k X.A):nc X (Ed .In) (rInD X ua):=by
 intro xa s σ H x y v u Q I R ry h;obtain⟨p,vs,d,ds,rfl,z,hd,hv,c,Z,Y,q⟩:=h;cases ry;rcases z with z|z
 ·obtain⟨j,r,J,hz⟩:=I.list z;obtain⟨F,O⟩:=Ju (A:=X.A.in1) (by have:=hr.un;lia) I R hd c Z r hv Y
  refine IJ (eD s.heap d) J.isList (λw hw=>F w (by simp_all)) ⟨.bl _,H,I,rfl,?_⟩
  rw[show j.toArray.any (eD s.heap d)=j.any (eD s.heap d) by simp,O]
  exact q
 ·obtain⟨j,r,J,hz⟩:=I.tuple z;obtain⟨F,O⟩:=Ju (A:=X.A.in1) (by have:=hr.un;lia) I R hd c Z r hv Y
  refine IB (eD s.heap d) J (λw hw=>F w (by simp_all)) ⟨.bl _,H,I,rfl,?_⟩
  rw[show j.toArray.any (eD s.heap d)=j.any (eD s.heap d) by simp,O]
  exact q
def GU   (hr:Room k X.A):nc X (Ed .NotIn) (rInD X ma):=by
 intro xa s σ H x y v u Q I R ry h;obtain⟨p,vs,d,ds,rfl,z,hd,hv,c,Z,Y,q⟩:=h;cases ry;rcases z with z|z
 ·obtain⟨j,r,J,hz⟩:=I.list z;obtain⟨F,O⟩:=Ju (A:=X.A.in1) (by have:=hr.un;lia) I R hd c Z r hv Y
  refine PJ (eD s.heap d) J.isList (λw hw=>F w (by simp_all)) ⟨.bl _,H,I,rfl,?_⟩
  rw[show j.toArray.any (eD s.heap d)=j.any (eD s.heap d) by simp,O]
  exact q
 ·obtain⟨j,r,J,hz⟩:=I.tuple z;obtain⟨F,O⟩:=Ju (A:=X.A.in1) (by have:=hr.un;lia) I R hd c Z r hv Y
  refine rB (eD s.heap d) J (λw hw=>F w (by simp_all)) ⟨.bl _,H,I,rfl,?_⟩
  rw[show j.toArray.any (eD s.heap d)=j.any (eD s.heap d) by simp,O]
  exact q
end

end L2

namespace L2
open PySem PySem.Spec PyProof.Rows




end L2

namespace L2
open PySem PySem.Spec PyProof.Rows PySem.SeqAt PySem.MeetsSeq
def LI   l es (n:Nat) dd sl b u :
  Uf (Fb.«dict.__eq__» ⟨[.ref l,.str b u],[]⟩) (λ_ R s=>s.heap.get? l=da { cls:=.type "dict",dict:=dd,data:=.dict es n,slots:=sl }/\R (.ok (.ret .notImplemented)) s):=
 .of_wp λj w A R s h=>by obtain⟨z,g,d,I,J⟩:=s;obtain⟨q,h⟩:=h;have y:=F.sub_str_dict;wp_walk using Ka q;exact⟨_,rfl,h⟩
def rJ   b u l es (n:Nat) dd sl :
  Uf (Fb.«str.__eq__» ⟨[.str b u,.ref l],[]⟩) (λ_ R s=>s.heap.get? l=da { cls:=.type "dict",dict:=dd,data:=.dict es n,slots:=sl }/\R (.ok (.ret .notImplemented)) s):=
 .of_wp λj w A R s h=>by obtain⟨y,g,d,z,F⟩:=s;obtain⟨q,h⟩:=h;wp_walk using Ka q,pp q;exact⟨_,rfl,h⟩

def gW         b u (q:s.heap.get? l=da o)(O:o.cls=.type "dict")(hd:o.data=.dict es n)(hu:A.units<Sb):RcAt A s (.ref l) (.str b u) ua:=λJ w E Q h=>by
 obtain⟨R,I,y,z⟩:=o;simp only at O hd;subst O hd;exact rc_eq_decline_or (k:=ua) ⟨_,q,rfl⟩ (rn s b u) (by decide) F.sub_str_dict F.slot_dict_eq F.slot_str_eq_refl
  (λ_ j=>Dg F.slot_dict_eq ⟨_,q,rfl⟩ F.entry_dict_eq (F.args_dict_eq_2 _ _) (LI l es n I z b u) ⟨q,j⟩)
  (λ_ j=>Dg F.slot_str_eq_refl (rn s b u) F.entry_str_eq (F.args_str_eq_2 _ _) (rJ b u l es n I z) ⟨q,j⟩)
  (λ_ j=>wpAny_of_eq (rfl:isSame (.ref l) (.str b u)=pure ua) j) (.inr hu) h
def fU  : R2:=λx y H Q=>∃a z j,x=.ref a/\y=.str z/\H a=da (.dK j)/\Q (.bl ua) H
def oW   (hr:Room k X.A):nc X (Ed .Eq) fU:=by
 intro J s σ H x y v u Q I Z R h;obtain⟨a,z,j,rfl,rfl,ha,q⟩:=h;cases Z;obtain⟨t,rfl⟩:=R;obtain⟨_,_,F,_,o,es,ep,Y,O,hd,_⟩:j.length<=db/\(a==Ye)=ua/\∃F,KV j F/\s.heap.DictOf (Sd X.prog X.w) a F:=I.hok a _ ha;exact gW z t Y O.1 hd (by have:=hr.un;lia) X.prog X.w X.xe _ ⟨.bl ua,H,I,rfl,q⟩
def rSlS  : V->Option Int->Option Int->Hp->VK->Prop:=λx j q H Q=>∃z,x=.str z/\z.length<=db/\Q (.str (Rv z j q)) H

def vP  : Eh X rSlS:=by
 intro J s σ H x v vl vu lo hi sl Q I rx hs pl pu h;obtain⟨z,rfl,Y,q⟩:=h;obtain⟨t,rfl⟩:=rx;refine⟨"str",_,F.slot_str_getitem.lookup,rn _ _ _,?_⟩;obtain⟨o,R,O,hd⟩:=hs;have y:∀t' k,EP X J σ Q (.str (Rv z lo hi) t') { s with toks:=k }:=λt' k=>⟨.str _,H,I.tok _,⟨_,rfl⟩,q⟩
 cases pl with
 |none=>
  cases pu with
  |none=>exact Bw (l:=Aa) (u:=Aa) (st:=Aa) ⟨o,R,O,hd⟩ rfl (aw ⟨Rb (sw z _ _) Y,y⟩)
  |int j Z=>exact Bw (l:=Aa) (u:=da (j,Z)) (st:=Aa) ⟨o,R,O,hd⟩ rfl (aw ⟨Rb (sw z _ _) Y,y⟩)
 |int i ui=>
  cases pu with
  |none=>exact Bw (l:=da (i,ui)) (u:=Aa) (st:=Aa) ⟨o,R,O,hd⟩ rfl (aw ⟨Rb (sw z _ _) Y,y⟩)
  |int j Z=>exact Bw (l:=da (i,ui)) (u:=da (j,Z)) (st:=Aa) ⟨o,R,O,hd⟩ rfl (aw ⟨Rb (sw z _ _) Y,y⟩)
def KS  : nc X (Pe .Add) (λx y H Q=>∃b j,x=.bl b/\y=.int j/\Q (.int ((if b=ma then (1:Int) else 0)+j)) H):=by
 intro z s O H x y v u Q I J F h;obtain⟨b,j,rfl,rfl,q⟩:=h;cases J;obtain⟨t,rfl⟩:=F;exact PySem.IntBool.add_bool_int ⟨.int _,H,I.tok _,⟨_,rfl⟩,q⟩
def aS  : nc X (Pe .Sub) (λx y H Q=>(∃b j,x=.bl b/\y=.int j/\Q (.int ((if b=ma then (1:Int) else 0)-j)) H)\/∃i b,x=.int i/\y=.bl b/\Q (.int (i-if b=ma then (1:Int) else 0)) H):=by
 intro z s O H x y v u Q I J F h;rcases h with⟨b,j,rfl,rfl,q⟩|⟨i,b,rfl,rfl,q⟩
 ·cases J;obtain⟨t,rfl⟩:=F;exact PySem.IntBool.sub_bool_int ⟨.int _,H,I.tok _,⟨_,rfl⟩,q⟩
 ·cases F;obtain⟨t,rfl⟩:=J;exact PySem.IntBool.sub_int_bool ⟨.int _,H,I.tok _,⟨_,rfl⟩,q⟩
def BS  (K:Eb):R2:=λx y H Q=>∃a z j,x=.ref a/\y=.str z/\(Ic K H a j\/Qc K H a j)/\Q (.bl ua) H
def yW   (hr:Room k X.A):nc X (Ed .Eq) (BS X.K):=by
 intro O s σ H x y v u Q I Y R h;obtain⟨a,z,xs,rfl,rfl,F,q⟩:=h;cases Y;obtain⟨t,rfl⟩:=R;have hu:X.A.units<Sb:=hr.units0;rcases F with F|F
 ·obtain⟨j,Z,J,_⟩:=I.tuple F;exact Vh.tuple_str z t (show s.heap.IsTuple a j.toArray from J) hu X.prog X.w X.xe _ ⟨.bl ua,H,I,rfl,q⟩
 ·obtain⟨j,Z,J,_⟩:=I.list F;exact Vh.list_str z t J.isList hu X.prog X.w X.xe _ ⟨.bl ua,H,I,rfl,q⟩
end L2

namespace L2
open PySem PySem.Spec PyProof.Rows
open AutoSeq1 (wpAny_loadPart')


end L2

namespace L2
open PySem PySem.Spec PyProof.Rows PySem.W
structure Lies (lo:Nat)(pn:List (Ca×Obj))(H:Hp)(h:Wa)(e:Ca)(cls:Da)(dx:Option Ca):Prop where
 ob:∃oe vs,h.get? e=da oe/\oe.cls=cls/\oe.dict=dx/\oe.data=.fields vs/\
  (vs[1]?=da .none\/∃T oT ts,vs[1]?=da (.ref T)/\T≠e/\h.get? T=da oT/\oT.data=.fields ts/\ts[3]?=da .none/\H T=Aa/\lo<=T/\∀p∈pn,p.1≠T)
 hn:H e=Aa
 le:lo<=e
 pn:∀p∈pn,p.1≠e

def Jz  {h:Wa} i x (y:h.get? a=da o)(hd:o.data=.fields vs) :
  (∃j,(h.update a (Oj (·.setIfInBounds i x))).get? a=da j/\j.cls=o.cls/\j.dict=o.dict/\j.data=.fields (vs.setIfInBounds i x))/\∀b,b≠a->(h.update a (Oj (·.setIfInBounds i x))).get? b=h.get? b:=by
 have z:=Obj.data_mapFields hd (·.setIfInBounds i x);refine⟨⟨_,xB _ y (SJ z),Obj.cls_mapFields _ _,?_,z⟩,λb q=>WB _ _ (Xa q)⟩;unfold Oj
 lia
def MF  {s: Fa} 
  (za:A.frames=da (env::outer)) (hl:s.heap.FunFrames base (env::outer)) (hf:env.frame=da L) (he:s.heap.get? e=da oe) (hd:oe.data=.fields vs) (hsz:1<vs.size)
  (h:∀(h':Wa) (T:Ca) (y oT:Obj) vs' ts ,(∀b o,b∉Ef (env::outer)->b≠e->s.heap.get? b=da o->h'.get? b=da o)->(∀b o,b∈Ef (env::outer)->b≠e->s.heap.get? b=da o->∃sl,h'.get? b=da { o with slots:=sl })->
   s.heap.objs.size<=T->h'.get? e=da y->y.cls=oe.cls->y.dict=oe.dict->y.data=.fields vs'->vs'[1]?=da (.ref T)->h'.get? T=da oT->oT.data=.fields ts->ts[3]?=da .none->Q () { s with heap:=h' }) :
  wpAny M A (do let a <- frameOf env;let F <- entryPlaceOf L va;let b <- EntryCells.newEntry j a .none (Cb L) .none F;setField (.ref e) 1 b) (λ_ s'=>wpAny M A (gx (.ref e) Aa) Q E s') E s:=by
 have R:e∉Ef (env::outer):=λm=>by
  rcases hl.mem m with⟨-,o,ho,no⟩
  simp_all
 refine ub (wpAny_frameOf_fun za hl hf λI fs=>ub (wpAny_entryPlaceOf λF xa=>ub (Th ?_ (xa.sizeOk5 _ _ _ _ _))));have n3:3<([j,.ref L,.none,Cb L,.none]++(if F.isEmpty then Db 6 Yd else F)).toArray.size:=by
  simp_all
 generalize ja:(⟨.type "traceback",Aa,.fields ([j,.ref L,.none,Cb L,.none]++(if F.isEmpty then Db 6 Yd else F)).toArray,#[]⟩:Obj)=ot
 have Y:ot.data=.fields ([j,.ref L,.none,Cb L,.none]++(if F.isEmpty then Db 6 Yd else F)).toArray:=by lia
 have g1:I.get? e=da oe:=by rw[fs.2.1 e R,he]
 have new:=Fe I (SJ Y);have ne:I.objs.size≠e:=λz=>Bi _ (z ▸ Hc g1);obtain⟨⟨o2,g2,c2,d2,v2⟩,r2⟩:=Jz 1 (.ref I.objs.size) (Ac ot g1) hd;have O:=(r2 _ ne).trans new;obtain⟨⟨o3,g3,c3,d3,v3⟩,r3⟩:=Jz 3 .none O Y;refine kr (Ac ot g1) hd hsz (ub (Zi g2 v2 (aC hsz) ?_));rw[if_pos (by rfl)]
 refine kr O Y n3 ?_;have keep:∀b o,b≠e->I.get? b=da o->_:=λb o Z g=>(r3 b (Ae (Hc g))).trans ((r2 b Z).trans (Ac ot g));refine h _ I.objs.size o2 o3 _ _ (λb o Z J g=>keep b o J (by rw[fs.2.1 b Z,g])) (λb o _ J g=>?_) (jw fs.1.symm) ((r3 e (Xa ne)).trans g2) c2 d2 v2 (aC hsz) g3 v3 (aC n3)
 rcases fs.2.2 b o g with⟨sl,q⟩
 simp_all

def Pa.left  {O: St}{ch:List Ca}(I:Pa X pins O H s)(hH:∀b∈ch,H b=Aa)(J:∀b∈ch,X.s₀.heap.objs.size<=b)(hd:∀b∈ch,∃o vs,s.heap.get? b=da o/\o.data=.fields vs)(hp:∀b∈ch,∀p∈X.pn++pins,p.1≠b)
  (k:∀b o,b∉Ef X.stack->b∉ch->s.heap.get? b=da o->h'.get? b=da o) (R:∀b o,b∈Ef X.stack->b∉ch->s.heap.get? b=da o->∃t,h'.get? b=da { o with slots:=t }):Pa X pins O H { s with heap:=h' }:=by
 have u:Un (Ef X.stack) ch H H s.heap h':=by
  refine⟨λb o e _ j y=>k b o j y e,λb o e _ j y=>R b o j y e,λ_ _ _ n _=>n,λb o e y=>?_,λ_ _ e=>e,λ_ _ _ e=>e,λb ps e=>⟨#[],by rw[e];simp⟩⟩
  grind
 have tr:∀b u,H b=da u->b∉Ef X.stack/\b∉ch:=λb u e=>⟨λz=>(by rw[I.stkFree b z]at e;cases e),λz=>(by simp_all)⟩
 have F:Qd X.prog X.w H h':=λa o e=>(I.hok a o e).stay (λb v j q=>by
  grind) (λ_ q=>q) λ_ _ q=>q
 refine I.call (g':=s.gens) (d':=s.drawn) (t':=s.toks) u F I.bare λb j=>⟨.inr (J b j),λz=>?_,λx c e z=>?_,hp b j⟩
 ·obtain⟨o,vs,g,d⟩:=hd b j;obtain⟨m,⟨Y,_,_,Z,r⟩,_⟩:=I.loc
  lia
 ·obtain⟨o,vs,g,d⟩:=hd b j;obtain⟨v,Y,Z,y⟩:=I.cell x c e
  lia
def ED  {σ: St}(I:Pa X [] σ H s)(O:X.stack=X.env::X.outer)(hf:X.env.frame=da X.env.locals)
  (l:Lies X.s₀.heap.objs.size X.pn H s.heap Z cls dx) (q:∀h',Pa X [] σ H { s with heap:=h' }->Lies X.s₀.heap.objs.size X.pn H h' Z cls dx->Q () { s with heap:=h' }):wpAny M X.A (mx (.ref Z) X.env) (λ_ s'=>wpAny M X.A (gx (.ref Z) Aa) Q E s') E s:=by
 obtain⟨oe,vs,he,F,ya,hd,ht⟩:=l.ob;have wa:X.A.frames=da (X.env::X.outer):=by rw[<- O];exact I.ok.frames
 have hl:s.heap.FunFrames X.base (X.env::X.outer):=by rw[<- O];exact I.stack
 have pe:∀p∈X.pn++[],p.1≠Z:=λp hp=>l.pn p (by simp_all)
 unfold mx;simp only[hf];rcases ht with h1|⟨T,oT,ts,h1,hTe,hT,hdT,h3,nT,lT,pT⟩
 ·refine ub (Zi he hd h1 ?_);rw[if_neg (by decide)]
  refine MF wa hl hf he hd (Xb.mp h1).1 λh' T' xa Y ja za k sl R g1 c1 c2 c3 c4 g2 c5 c6=>?_;rw[<- O]at k sl;have J:Pa X [] σ H { s with heap:=h' }:=I.left (ch:=[Z]) (λb j=>by rw[Ea.mp j];exact l.hn) (λb j=>by rw[Ea.mp j];exact l.le) (λb j=>by simp_all) (λb j=>by grind)
   (λb o j F e=>k b o j (λz=>F (by simp[z])) e) λb o j F e=>sl b o j (λz=>F (by simp[z])) e
  refine q h' J ⟨⟨xa,ja,g1,c1.trans F,c2.trans ya,c3,.inr ⟨T',Y,za,c4,?_,g2,c5,c6,I.hok.fresh R,Rb I.sz R,λp hp z=>?_⟩⟩,l.hn,l.le,l.pn⟩
  ·exact λz=>absurd (Hc he) (Kc.mpr (z ▸ R))
  ·exact absurd (Hc (I.pin p (by simp_all)).1) (Kc.mpr (z ▸ R))
 ·have ka:(Yd==Cb X.env.locals)=ua:=rfl;refine ub (Zi he hd h1 ?_);rw[if_pos (by rfl)]
  refine ub (Zi hT hdT h3 ?_);rw[ka,if_neg Hd];refine ub (kr hT hdT (Xb.mp h3).1 ?_);have y:=(Jz 3 .none hT hdT).2;have I1:Pa X [] σ H { s with heap:=s.heap.update T (Oj (·.setIfInBounds 3 Yd)) }:=I.left (ch:=[T]) (λb j=>by simp_all) (λb j=>by simp_all) (λb j=>by simp_all) (λb j p hp=>by grind)
   (λb o _ F e=>(y b (by simp_all)).trans e) λb o _ F e=>⟨o.slots,(y b (by simp_all)).trans e⟩
  have va:=(y Z (Xa hTe)).trans he;have ha:(s.heap.update T (Oj (·.setIfInBounds 3 Yd))).FunFrames X.base (X.env::X.outer):=by rw[<- O];exact I1.stack
  refine MF (s:={ s with heap:=s.heap.update T (Oj (·.setIfInBounds 3 Yd)) }) wa ha hf va hd (Xb.mp h1).1 λh' T' xa Y ja za k sl R g1 c1 c2 c3 c4 g2 c5 c6=>?_
  rw[<- O]at k sl;have J:Pa X [] σ H { s with heap:=h' }:=Pa.left (s:={ s with heap:=s.heap.update T (Oj (·.setIfInBounds 3 Yd)) }) (ch:=[Z]) I1 (λb j=>by rw[Ea.mp j];exact l.hn) (λb j=>by rw[Ea.mp j];exact l.le) (λb j=>by simp_all) (λb j=>by grind)
   (λb o j F e=>k b o j (λz=>F (by simp[z])) e) λb o j F e=>sl b o j (λz=>F (by simp[z])) e
  refine q h' J ⟨⟨xa,ja,g1,c1.trans F,c2.trans ya,c3,.inr ⟨T',Y,za,c4,?_,g2,c5,c6,I1.hok.fresh R,Rb I1.sz R,λp hp z=>?_⟩⟩,l.hn,l.le,l.pn⟩
  ·exact λz=>absurd (Hc va) (Kc.mpr (z ▸ R))
  ·exact absurd (Hc (I1.pin p (by simp_all)).1) (Kc.mpr (z ▸ R))
def Jd  (P:Nb)(w:Bb):bp:=λj H s E e q=>∃(y:Ca) (H':Hp) (cls:Da) (dx:Option Ca),e=.ref y/\q.os=s.os/\ue q.gens/\Un (Ef j) [] H H' s.heap q.heap/\Qd P w H' q.heap/\Lies s.heap.objs.size [] H' q.heap y cls dx/\E cls dx H'

def Jd.back  {R: St}(I:Pa X pins R H s)(h:Jd X.prog X.w X.stack H s E e s'):∃(j:Ca) (H':Hp) (cls:Da) (y:Option Ca),e=.ref j/\Pa X pins R H' s'/\Lies X.s₀.heap.objs.size X.pn H' s'.heap j cls y/\E cls y H':=by
 obtain⟨j,H',cls,y,rfl,os,bare,un,F,l,q⟩:=h;have O:∀b,s.heap.objs.size<=b->∀p∈X.pn,p.1≠b:=λb hb p hp z=>absurd (Hc (I.pin p (Gg _ hp)).1) (Kc.mpr (z ▸ hb));refine⟨j,H',cls,y,rfl,I.call' (ch:=[]) os un F bare (λb z=>absurd z (by simp)),⟨?_,l.hn,Rb I.sz l.le,O j l.le⟩,q⟩
 obtain⟨oe,vs,he,hc,J,hd,ht⟩:=l.ob;refine⟨oe,vs,he,hc,J,hd,ht.imp id ?_⟩;rintro⟨T,Z,ts,h1,h2,h3,h4,h5,h6,Y,_⟩;exact⟨T,Z,ts,h1,h2,h3,h4,h5,h6,Rb I.sz Y,O T Y⟩
end L2

namespace L2
open PySem PySem.Spec PyProof.Rows PySem.W
open Builtin Builtin.ObjectAttr

section
variable {prog:Nb}{w:Bb}{A:ac}{E:Da->Fa->Prop}{h:Wa}{g:Array GenState}{d:Drawn}{t:Nat}{os:mj}
variable {C N D x:Ca}{bmB:List Da}{B newId sa owner:String}{mN mD mA:Str->Option Da}{name:Str}{v:Da}
structure Reads (B:String)(bmB:List Da):Prop where
 ga:Slot B "__getattribute__" "BaseException.__getattribute__"
 mro:mroOf (.type B)=pure bmB
 no:typeLookup (.type B) "__getattr__" = pure Aa
 has:bmB.contains (.type "BaseException")=ma
end




end L2

namespace L2
open PySem PySem.Spec PyProof.Rows PySem.W


def XL  (M:Model)(A:ac)(env:Env)(R:Da->Fa->Prop):Da->Fa->Prop:=λe y=>wpAny M A (mx e env) (λ_ j=>wpAny M A (gx e Aa) (λ_ q=>R e q) R j) R y
def tu      : Ik M A env (XL M A env R):=Ik.looking

abbrev Zm  (P:Nb)(w:Bb)(K:Eb)(mg:Str->Option Da)(base:Wa)(N:List Str)(qual:Str)(scope:Rc)(f:Ca)(cd:Da)(A:ac)(outer:List Env)(s:Fa)(H:Hp)(E:XK):Cx:=
 (cxOf (Jd P w) P w K mg base N qual scope f cd A outer s H E).wish (XL (Ja P w) (A.deeper (Kd qual scope s.heap.objs.size f cd)) (Kd qual scope s.heap.objs.size f cd) λe j=>Jd P w outer H s E e j)
def Fun.okX  {K: Eb}{st:Qa}(F:Fun K x qual st f fd)(S:FnScope N ps (ic st))(len:∀vs H Q E,sp vs H Q E->vs.length=ps.length)
  (y:∀j (A:ac) outer (s:Fa) H (vs:List V) Q E ,Room k (A.deeper (Kd qual (ic st) s.heap.objs.size f j))->sp vs H Q E->
   ∃t,Be (Zm P w K mg base N qual (ic st) f j A outer s H E) (Md st) t/\t { nx:=λ_ H'=>Q .non H',rt:=Q } (start N vs) H):FnOk P w K mg base (Jd P w) (k+1) f fd ps sp:=by
 obtain⟨oc,od,kV,Z,pm,an,j,ct,xa,rfl,lk,O⟩:=F.ex;refine yM lk O S len λA outer s H vs Q E hr R=>?_;obtain⟨t,h,q⟩:=y j A outer s H vs Q E hr R;refine⟨t,λJ s1 σ H1 D I hw=>?_,q⟩;refine Zf (h J s1 σ H1 D (I.wish _) hw) (λ_ _ q=>q.unwish) λe Y z=>?_;show wpAny _ _ (Sf _ e) _ _ Y;unfold Sf;exact ub z
def Jd.out1  {K: Eb}{j:St} 
  (I:Pa (Zm P w K mg base N qual scope f cd A outer s H E) pins j H' s') (l:Lies s.heap.objs.size [] H' s'.heap y cls F) (q:E cls F H'):(Zm P w K mg base N qual scope f cd A outer s H E).xe (.ref y) s':=by
 have O:Pa (cxOf (Jd P w) P w K mg base N qual scope f cd A outer s H E) [] j H' s':=I.unwish.pins_of λp Y=>absurd Y (by simp)
 refine ED (X:=cxOf (Jd P w) P w K mg base N qual scope f cd A outer s H E) (E:=λe s'=>Jd P w outer H s E e s') O rfl rfl l λZ J R=>?_;exact⟨y,H',cls,F,rfl,J.os,J.bare,J.base,J.hok,R,q⟩
end L2

namespace L2
open PySem PySem.Spec PyProof.Rows PySem.W
open Builtin Builtin.ObjectAttr
noncomputable abbrev zJ  : List Da:=[.type "ValueError",.type "Exception",.type "BaseException",.type "object"]

noncomputable def offN  : List Str:=["__setattr__", "__getattribute__", "__getattr__", "__class__", "word", "at", "row"]
structure XBase (K:Frag)(mg:Str->Option Da)(D:Ca)(mD:Str->Option Da):Prop where
 m:mg "PlanError" = da (.ref D)
 kp:keepIn K (.ref D)=ma
 lk:∃q ND bs hd sn sub ab col dd k0 k1 k2 k3 k5 nid,K.lookup D=da (excClassObj "PlanError" q D ND bs zJ hd sn sub ab col dd k0 k1 k2 k3 k5 nid)/\∀h,K.In h->h.Ns ND mD
 no:∀y∈offN,mD y=Aa
 ni:mD "__init__" = Aa
structure XCls (K:Frag)(mg:Str->Option Da)(x:Str)(fs:List Str)(C:Ca):Prop where
 m:mg x=da (.ref C)
 kp:keepIn K (.ref C)=ma
 ex:∃(D N fI:Ca) (mN mD:Str->Option Da),XBase K mg D mD/\(∃q bs sn sub ab col dd k0 k1 k2 k3 k5,K.lookup C=da (excClassObj x q C N bs (.ref D::zJ) ma sn sub ab col dd k0 k1 k2 k3 k5 "ValueError.__new__"))/\(∀h,K.In h->h.Ns N mN)/\(∀y∈offN,mN y=Aa)/\
  mN "__init__" = da (.ref fI)/\∃(st:Qa) (qual:Str) (fd:vo),L2.Fun K "__init__" qual st fI fd/\(∃od osl,K.lookup fI=da ⟨.type "function",od,.func fd,osl⟩)/\FnScope ("self" :: fs) ("self" :: fs) (ic st)/\Binds K fd ("self" :: fs) []/\(∀y∈(("self" : Str)::fs),(ic st).names.lookup y=da .local)/\
  ((∃f p1 p2 p3 pos,fs=[f]/\Md st=[.Assign [.Attribute (.Name "self" p1) f p2] (.Name f p3) pos])\/∃f f2 p1 p2 p3 pos q1 q2 q3 qos,fs=[f,f2]/\f≠f2/\Md st=[.Assign [.Attribute (.Name "self" p1) f p2] (.Name f p3) pos,.Assign [.Attribute (.Name "self" q1) f2 q2] (.Name f2 q3) qos])



end L2

namespace L2
open PySem PySem.Spec PyProof.Rows

end L2

namespace L2
open PySem PySem.Spec PyProof.Rows

end L2

namespace L2
open PySem PySem.Spec PyProof.Rows PySem.W
noncomputable def rg  (cells:List (Str×Ca)):List (Str×Mf)->List (Str×Ca)->List (Str×Ca)
 |[],acc=>acc
 |(n,k)::r,acc=>rg cells r (if k == .free then (match cells.lookup n with|some c=>(n,c)::acc|none=>acc) else acc)
theorem uz   
  (q:∀n k cs,f (n,k) cs=if k == .free then (do let a <- Ap env n;pure (.yield ((n,a)::cs))) else pure (.yield cs)) :
  ∀names acc ,(∀y∈names,y.2=.free->∃c,env.cells.lookup y.1=da c)->forIn names acc f=pure (rg env.cells names acc)
 |[],acc,_=>rfl
 |(n,k)::r,acc,h=>by
  rw[XA,q];unfold rg;cases hk:k==Se with
  |true=>
   obtain⟨c,e⟩:=h (n,k) Re (eq_of_beq hk);simp only[if_true,Ap,e,pure_bind];exact uz q r _ λy j=>h y (Oc _ j)
  |false=>
   simp only[Qo,if_false,pure_bind];exact uz q r _ λy j=>h y (Oc _ j)
def kI    (h:∀y∈scope.names,y.2=.free->∃c,env.cells.lookup y.1=da c):Qv scope env=pure (rg env.cells scope.names []):=by
 simp only[Qv];rw[uz (env:=env) (λn k j=>by lia) _ _ h]
 rfl
theorem JE     : ∀{names } {acc },(rg cells names acc).lookup x=da c->(cells.lookup x=da c/\(x,Se)∈names)\/acc.lookup x=da c
 |[],_,h=>.inr h
 |(n,k)::r,acc,h=>by
  unfold rg at h;rcases JE h with⟨e,m⟩|e
  ·simp_all
  ·by_cases hk:(k==Se)=ma
   ·rw[if_pos hk]at e;cases q:cells.lookup n with
    |none=>lia
    |some y=>
     rw[q]at e;simp only[Xi]at e;by_cases j:x=n
     ·subst j;simp only[beq_self_eq_true]at e;cases e;exact .inl ⟨q,by rw[eq_of_beq hk];exact Re⟩
     ·rw[beq_eq_false_iff_ne.mpr j]at e;exact .inr e
   lia
theorem oG     : ∀{names } {acc },cells.lookup x=da c->acc.lookup x=da c->(rg cells names acc).lookup x=da c
 |[],_,_,h=>h
 |(n,k)::r,acc,hc,h=>by
  unfold rg;refine oG hc ?_;split
  ·split
   ·rename_i q e;by_cases j:x=n
    ·subst j;rw[hc]at e;cases e;simp
    ·simp only[Xi,beq_eq_false_iff_ne.mpr j];exact h
   ·exact h
  ·exact h
theorem Dz     : ∀{names } {acc },cells.lookup x=da c->(x,Se)∈names->(rg cells names acc).lookup x=da c
 |(n,k)::r,acc,hc,h=>by
  unfold rg;rcases Mc.mp h with e|h
  ·cases e;refine oG hc ?_;simp[hc]
  ·exact Dz hc h
structure CloScope (N P:List Str)(sc:Rc):Prop where
 kind:sc.kind=.function
 co:sc.isCoroutine=ua
 gen:sc.isGenerator=ua
 nd:N.Nodup
 pre:N.take P.length=P
 par:∀x∈P,sc.names.lookup x=da .local
 nocell:∀y∈sc.names,y.2≠.cell
 frees:∀x,(x,Se)∈sc.names->sc.names.lookup x=da .free

noncomputable def Hk  (P:Nb)(w:Bb)(K:Eb)(mg:Str->Option Da)(base:Wa)(N:List Str)(qual:Str)(scope:Rc)(cl:List (Str×Ca))(f:Ca)(cd:Da)(A:ac)(outer:List Env)(s:Fa)(H:Hp)(E:XK):Cx where
 prog:=P
 w:=w
 K:=K
 mg:=mg
 base:=base
 A:=A.deeper (envX qual scope s.heap.objs.size f cd cl)
 N:=N
 s₀:=s
 H₀:=H
 env:=envX qual scope s.heap.objs.size f cd cl
 outer:=outer
 stack:=envX qual scope s.heap.objs.size f cd cl::outer
 ex:=[]
 calm:=ma
 fn:=λx=>scope.names.lookup x != da .free
 pn:=[]
 xe:=XL (Ja P w) (A.deeper (envX qual scope s.heap.objs.size f cd cl)) (envX qual scope s.heap.objs.size f cd cl) λe j=>Jd P w outer H s E e j
def PV    {i:Nat}(h:(start N vs)[i]?=da (da v)):vs[i]?=da v:=by
 unfold start at h;by_cases j:i<vs.length
 ·rw[Pg (by simpa using j),md]at h
  cases e:vs[i]? with
  |none=>rw[e]at h;cases h
  |some a=>rw[e]at h;simpa using h
 ·rw[Bn (by simpa using j),Ew]at h
  split at h<;>cases h
def bT  {ps:List Str}{i:Nat}{u:Da}(R:ps.Nodup)(I:ps[i]?=da x)(Z:us[i]?=da u):(ps.zip us).reverse.lookup x=da u:=by
 have J:(x,u)∈ps.zip us:=Pd (fc.mpr ⟨I,Z⟩);have q:∀{l:List (Str×Da)},(x,u)∈l->(∀v,(x,v)∈l->v=u)->l.lookup x=da u:=by
  intro l
  induction l with
  |nil=>simp_all
  |cons p r ih=>
   obtain⟨y,v⟩:=p;intro h hu;rw[Xi];by_cases F:x=y
   ·subst F;rw[beq_self_eq_true,hu v Re]
   ·rw[beq_eq_false_iff_ne.mpr F];rcases Mc.mp h with e|h
    ·cases e;exact absurd rfl F
    ·exact ih h λv z=>hu v (Oc _ z)
 refine q (cf.mpr J) λv z=>?_;obtain⟨j,Y⟩:=List.getElem?_of_mem (cf.mp z);obtain⟨O,e2⟩:=fc.mp Y;obtain rfl:=Zy R I O
 lia
def gR  {K: Eb}{tk:Tok} 
  (S:CloScope N ps scope) (hd:A.handled=Aa) (e0:Env0 P w K mg base A outer s H) (hl:vs.length=ps.length) (r:Vals vs us) (hN:vs.length+cvs.length<=N.length)
  (Y:J.Ns s.heap.objs.size λx=>(ps.zip us).reverse.lookup x) (hk:∀b o,s.heap.get? b=da o->J.get? b=da o)
  (q:∀x c,cl.lookup x=da c->scope.names.lookup x=da .free/\(∃v,s.heap.IsCell c v)/\H c=Aa) (inj:∀x y c,cl.lookup x=da c->cl.lookup y=da c->x=y)
  (xa:∀x,scope.names.lookup x=da .free->∃c,cl.lookup x=da c)
  (hv:∀i x v,N[ps.length+i]?=da x->cvs[i]?=da v->scope.names.lookup x=da .free/\∃c u,cl.lookup x=da c/\RelV v u/\s.heap.IsCell c (da u)) :
  Pa (Hk P w K mg base N qual scope cl f cd A outer s H E) [] (start N (vs++cvs)) H { s with heap:=J,toks:=tk }:=by
 have j:∀b:Ca,b∉(Hk P w K mg base N qual scope cl f cd A outer s H E).ex:=λb z=>absurd (show b∈([]:List Ca)from z) (by simp)
 have F:∀{c:Ca} {v:Option Da},s.heap.IsCell c v->J.IsCell c v:=λ⟨o,ho,hd⟩=>⟨o,hk _ _ ho,hd⟩;refine⟨⟨e0.mod,S.kind,rfl,rfl,Jb _,inj,λy I=>?_,λy c O h=>?_,λ_=>hd,jL e0.frames,.inr ⟨rfl,rfl⟩,λb z=>absurd z (j b),e0.bs,e0.bsz,λb _ _=>j b,λb z=>absurd z (j b),e0.funs,e0.frf⟩,
  rfl,e0.bare,Un.kept hk,⟨_,Y,λi y v J h2 h3=>?_⟩,λy c h=>?_,e0.hok.fresh (Jb _),λy c h=>(q y c h).2.2,λp R=>absurd (show p∈([]:List (Ca×Obj))from R) (by simp),e0.hok.kept hk,?_⟩
 ·have I:scope.names.lookup y=da .cell\/scope.names.lookup y=da .free:=I;rcases I with I|I
  ·exact absurd rfl (S.nocell _ (fg I))
  ·exact xa y I
 ·have O:(scope.names.lookup y != da .free)=ma:=O;rw[(q y c h).1]at O
  lia
 ·have e:=PV h2;by_cases hi:i<vs.length
  ·rw[Pg hi]at e;obtain⟨u,hu,rv⟩:=r.get e;have R:ps[i]?=da y:=by
    rw[<- S.pre,QK (by lia)];exact J
   have Z:ps.Nodup:=by rw[<- S.pre];exact S.nd.sublist (Mw _ _)
   exact⟨u,rv,.inl ⟨S.par y (Pd R),bT Z R hu⟩⟩
  ·rw[Bn (by lia)]at e
   obtain⟨O,c,u,hc,rv,z⟩:=hv (i-vs.length) y v (by rw[<- hl,Nat.add_sub_cancel' (by lia)];exact J) e
   exact⟨u,rv,.inr ⟨.inr O,c,hc,F z⟩⟩
 ·obtain⟨_,⟨v,z⟩,_⟩:=q y c h
  grind
 ·unfold start;show _=N.length;rw[gg,Ab,aL,gg]
  lia
def SQ  {K: Eb} 
  (ho:s.heap.get? f=da o) (hd:o.data=.func (fnX name qual params body scope cl .none .none R pm Aa j Z)) (xa:s.heap.CodeRec j qual) (S:CloScope N ps scope) (hr:Room (k+1) A) (e0:Env0 P w K mg base A outer s H)
  (hb:se s (fnX name qual params body scope cl .none .none R pm Aa j Z) args (ps.zip us)) (r:Vals vs us) (hl:vs.length=ps.length) (hN:vs.length+cvs.length<=N.length)
  (za:∀x c,cl.lookup x=da c->scope.names.lookup x=da .free/\(∃v,s.heap.IsCell c v)/\H c=Aa) (inj:∀x y c,cl.lookup x=da c->cl.lookup y=da c->x=y)
  (ya:∀x,scope.names.lookup x=da .free->∃c,cl.lookup x=da c)
  (hv:∀i x v,N[ps.length+i]?=da x->cvs[i]?=da v->scope.names.lookup x=da .free/\∃c u,cl.lookup x=da c/\RelV v u/\s.heap.IsCell c (da u))
  (O:Room k (A.deeper (envX qual scope s.heap.objs.size f j cl))->∃t,Be (Hk P w K mg base N qual scope cl f j A outer s H E) body t/\t { nx:=λ_ H'=>Q .non H',rt:=Q } (start N (vs++cvs)) H) :
  codeAny (Ja P w) A (.call (.ref f) args) (CR (Jd P w) outer P w H s Q E) s:=by
 have ja:s.heap.NoLimit:=e0.mod.nolimit.keeps λb o e=>(e0.bs b o e).1;refine codeAny_call_def (fd:=fnX name qual params body scope cl .none .none R pm Aa j Z) (body:=body) hr.depth ho hd ja xa rfl hb S.nocell (λy hy=>S.par y.1 (br (show(y.1,y.2)∈_ from hy)).1) (λh1 va hk=>?_) S.co S.gen S.kind;obtain⟨t,ht,hq⟩:=O (hr.deeper _);have I:=gR (tk:=s.toks+(ps.zip us).length) (qual:=qual) (f:=f) (cd:=j) (E:=E) S hr.hd e0 hl r hN va hk za inj ya hv;refine Zf (ht [] _ _ H _ I hq) (λfl s' hs=>?_) λe s' z=>?_
 ·have Y:∀{F:St} {H':Hp} {v:V} {u:Da},Pa (Hk P w K mg base N qual scope cl f j A outer s H E) [] F H' s'->RelV v u->Q v H'->CE outer P w H s Q u s':=
   λ{F H' v u} J rv q=>⟨v,H',J.os,J.bare,J.base,J.hok,rv,q⟩
  cases fl with
  |ret u=>
   obtain⟨v,F,H',J,rv,q⟩:=hs;exact Y J rv q
  |next=>
   obtain⟨F,H',J,q⟩:=hs;exact Y (v:=V.non) (u:=Yd) J rfl q
  |brk=>
   obtain⟨_,_,_,q⟩:=hs
   lia
  |cont=>
   obtain⟨_,_,_,q⟩:=hs
   lia
 ·show wpAny _ _ (Sf _ e) _ _ s';unfold Sf;exact ub z
def Fun.runX  {K: Eb}{st:Qa} 
  (F:Fun K x qual st f fd) (S:FnScope N ps (ic st)) (hr:Room (k+1) A) (e0:Env0 P w K mg base A outer s H) (hb:se s fd args (ps.zip us)) (r:Vals vs us) (hl:vs.length=ps.length)
  (O:∀j,fd.code=j->Room k (A.deeper (Kd qual (ic st) s.heap.objs.size f j))->∃t,Be (Zm P w K mg base N qual (ic st) f j A outer s H E) (Md st) t/\t { nx:=λ_ H'=>Q .non H',rt:=Q } (start N vs) H) :
  codeAny (Ja P w) A (.call (.ref f) args) (CR (Jd P w) outer P w H s Q E) s:=by
 obtain⟨oc,od,kV,ja,pm,an,j,ct,za,rfl,lk,Z⟩:=F.ex;have kx:K.In s.heap:=e0.mod.kin.keeps λb o e=>(e0.bs b o e).1;have R:∀y∈ps.zip us,(ic st).names.lookup y.1=da .local\/((ic st).names.lookup y.1=da .cell/\((Nf (s.heap.objs.size+1) (ic st).names []).lookup y.1).isSome=ma):=λ⟨n,v⟩ hy=>
  (S.par n (br hy).1).imp id λq=>⟨q,RB _ _ _ (.inl q)⟩
 refine JJ hr.depth (kx _ _ lk) rfl S.co S.gen rfl (fL kx Z) (hb _ _ _ _ (iL S.kind R λva he s1 y=>?_));subst he;refine⟨(e0.mod.nolimit.keeps λb o e=>(e0.bs b o e).1).keeps y.toInCall.keep,codeAny_func ?_⟩;obtain⟨t,ht,hq⟩:=O j rfl (hr.deeper _);have I:Pa (cxOf (Jd P w) P w K mg base N qual (ic st) f j A outer s H E) [] (start N vs) H s1:=YF S hr.hd e0 hl r y;refine Zf (ht [] s1 (start N vs) H _ (I.wish _) hq) (λfl s' Y=>?_) λe s' z=>?_
 ·cases fl with
  |ret u=>obtain⟨v,xa,H',J,rv,q⟩:=Y;exact⟨v,H',J.os,J.bare,J.base,J.hok,rv,q⟩
  |next=>obtain⟨xa,H',J,q⟩:=Y;exact⟨.non,H',J.os,J.bare,J.base,J.hok,rfl,q⟩
  |brk=>obtain⟨_,_,_,q⟩:=Y;lia
  |cont=>obtain⟨_,_,_,q⟩:=Y;lia
 ·show wpAny _ _ (Sf _ e) _ _ s';unfold Sf;exact ub z
def Jd.outC  {K: Eb}{y:St} 
  (I:Pa (Hk P w K mg base N qual scope cl f cd A outer s H E) pins y H' s') (l:Lies s.heap.objs.size [] H' s'.heap F cls O) (q:E cls O H'):(Hk P w K mg base N qual scope cl f cd A outer s H E).xe (.ref F) s':=by
 have J:Pa (Hk P w K mg base N qual scope cl f cd A outer s H E) [] y H' s':=I.pins_of λp Y=>absurd Y (by simp)
 exact ED (X:=Hk P w K mg base N qual scope cl f cd A outer s H E) (E:=λe s'=>Jd P w outer H s E e s') J rfl rfl l λZ j R=>⟨F,H',cls,O,rfl,j.os,j.bare,j.base,j.hok,R,q⟩
def fy  (o:Obj)(q:Str):Prop:=∃j t,o.data=.fields j/\j[1]?=da (.str q t)
noncomputable abbrev frzC  (o:Obj):HO:=.frz o (.ext λ_=>True)
def QD  (H:Hp)(P:Ca)(pos:Pos)(q:Str):Prop:=
 H P=da (.tbl #[])\/∃c j,H P=da (.tbl #[Cb pos.line,Cb pos.col,.ref c])/\H c=da (frzC j)/\fy j q
def PD  (H H':Hp)(P:Ca)(pos:Pos)(q:Str)(c:Ca)(j:Obj):Prop:=
 H' c=da (frzC j)/\fy j q/\(H'=H\/(H P=da (.tbl #[])/\H c=Aa/\H'=upd (upd H c (frzC j)) P (.tbl #[Cb pos.line,Cb pos.col,.ref c])))
def BmAt  (mg:Str->Option Da)(base:Wa):Prop:=∃q j,mg "__builtins__" = da (.ref q)/\q≠yo/\base.get? q=da j/\j.cls=.type "module" /\ j.dict=da yo/\j.data=.plain

def pU  {σ: St}(I:Pa X pins σ H s)(hN:X.N.Nodup)(hi:X.N[i]?=da name)(hx:ql X.env.scope name)(wb:X.fn name=ma\/X.env.scope.names.lookup name=da .local)
  (ya:X.env.code=.ref c) (hC:CodeHd X.base c P) (hB:BmAt X.mg X.base) (hT:QD H P pos (Qk X.env name name)) (zc:params.defaults=[]) (kc:params.kw_defaults=[]) (ha:annTrees params Aa X.env=[])
  (Y:∀y∈scope.names,y.2=.free->∃c,X.env.cells.lookup y.1=da c)
  (h:∀f j oc F O H' s',PD H H' P pos (Qk X.env name name) j oc->
   Pa X (pins++[(f,zp name (Qk X.env name name) params body scope (rg X.env.cells scope.names []) F ((X.mg "__name__").getD .none) j O)]) (σ.set i (da (.ref f))) H' s'->Q .next s') :
  wpAny (Ja X.prog X.w) X.A (exec (.FunctionDef name params body [] Aa [] scope Aa name pos) X.env) Q X.xe s:=by
 refine nestDef_K zc kc ha ?_;have hg:s.heap.Ns Ke X.mg:=I.mod.glob.keeps I.bk;obtain⟨bm,ob,b1,b2,b3,b4,b5,b6⟩:=hB;have qc:=I.bk _ _ b3;have yb:bm≠Ke:=λq=>by
  obtain⟨o,es,ep,e,hd,_⟩:=hg
  lia
 have ja:∀{ps:Array Da},s.heap.get? P=da (vp ps)->Ke≠P/\bm≠P:=by
  intro ps hP;constructor
  ·intro q;obtain⟨o,es,ep,e,hd,_⟩:=hg
   lia
  lia
 have Z:∀{f:Ca} {fo:Obj} {H':Hp} {s':Fa},s.heap.objs.size<=f->s'.heap.get? f=da fo->H' f=Aa->(∀v,fo.data≠.cell v)->Pa X pins σ H' s'->Pa X (pins++[(f,fo)]) σ H' s':=λ{f fo H' s'} hf hg hn hd J=>
  J.pins_of λp hp=>(Ma.mp hp).elim (λz=>J.pin p (Ff _ z)) λz=>by
   rw[Ea.mp z];exact⟨hg,hn,ow (Xe I.lt hf),I.nofs hf,hd⟩
 rcases hT with hP|⟨j,oc,hP,hc',hco⟩
 ·have gP:s.heap.get? P=da (vp #[]):=I.hok P _ hP;refine makeFunction_K (mg:=X.mg) (kI Y) I.ok.glob hg ya (hC.keeps I.bk) gP trivial rfl (ja gP).1 ⟨bm,ob,b1,b2,yb,(ja gP).2,qc,b4,b5,b6⟩ λj O F R tk wc za qd vb vd=>?_;obtain⟨c2,oc,vs,t,e2,wa,vc,xd⟩:=vb;cases e2;have hc:H j=Aa:=I.hok.fresh za;have jc:j≠P:=λz=>by lia
  have xa:R.get? P=da (vp #[Cb pos.line,Cb pos.col,.ref j]):=by
   simp_all
  let fo:=zp name (Qk X.env name name) params body scope (rg X.env.cells scope.names []) F ((X.mg "__name__").getD .none) j O
  let H':=upd (upd H j (frzC oc)) P (.tbl #[Cb pos.line,Cb pos.col,.ref j])
  have zd:∀b,b≠P->b≠j->H' b=H b:=λb h1 h2=>by show upd _ _ _ b=_;rw[Gc h1,Gc h2]
  have xc:H' P=da (.tbl #[Cb pos.line,Cb pos.col,.ref j]):=Kf;have va:H' j=da (frzC oc):=by show upd _ _ _ j=_;rw[Gc jc,Kf]
  have jb:∀b,H b=Aa->b≠P:=λb n z=>by lia
  have yd:∀b o,s.heap.get? b=da o->b≠j:=λb o e z=>absurd (Hc e) (Kc.mpr (z ▸ za));have kp:∀b o,b≠P->s.heap.get? b=da o->(R.push fo).get? b=da o:=λb o hb e=>Ac _ (wc b o hb e);have jd:∀b u,H b=da u->b≠j:=λb u e z=>by lia
  have un:Un X.fs [] H H' s.heap (R.push fo):=by
   refine⟨λb o e n _ _=>kp b o (jb b n) e,λb o e n _ _=>⟨o.slots,kp b o (jb b n) e⟩,λb o e n _=>?_,λb o e _=>?_,λb xs e=>?_,λb o u e=>?_,λb ps e=>?_⟩
   ·simp_all
   ·by_cases hb:b=P
    ·exact⟨_,by rw[hb];exact Ac _ xa⟩
    simp_all
   ·grind
   ·grind
   ·by_cases hb:b=P
    ·simp_all
    simp_all
  have yc:Qd X.prog X.w H' (R.push fo):=λb u e=>by
   by_cases hb:b=P
   ·subst hb;rw[xc]at e;cases e;exact Ac _ xa
   ·by_cases ka:b=j
    ·subst ka;rw[va]at e;cases e;exact⟨Ac _ wa,trivial,⟨_,Ac _ wa⟩,λ_ _ _ _=>trivial⟩
    ·rw[zd b hb ka]at e;refine(I.hok b u e).stay (λd v hd q=>kp d v ?_ q) (λd q=>?_) λd xs q=>?_
     ·lia
     ·grind
     grind
  have xb:s.heap.objs.size<=R.objs.size:=Yi (Ug za qd);have kb:H' R.objs.size=Aa:=by
   have hn:H R.objs.size=Aa:=I.hok.fresh xb
   grind
  have J:=Z (fo:=fo) (s':={ s with heap:=R.push fo,toks:=tk }) xb (Fe _ rfl) kb (λv z=>by cases z) (I.un (t':=tk) un yc)
  exact oo J hN hi hx (v:=.ref R.objs.size) rfl (λs' J'=>h _ j oc F O H' s' ⟨va,⟨vs,t,vc,xd⟩,.inr ⟨hP,hc,rfl⟩⟩ J') wb
 ·have gP:s.heap.get? P=da (vp #[Cb pos.line,Cb pos.col,.ref j]):=I.hok P _ hP;refine makeFunction_hit (mg:=X.mg) (cv:=.ref j) (kI Y) I.ok.glob hg ya (hC.keeps I.bk) gP trivial (by simp[codeAmong,Cb]) ⟨bm,ob,b1,b2,yb,(ja gP).2,qc,b4,b5,b6⟩ λO F R tk hk zb=>?_
  have kp:∀b o,s.heap.get? b=da o->(R.push (zp name (Qk X.env name name) params body scope (rg X.env.cells scope.names []) F ((X.mg "__name__").getD .none) j O)).get? b=da o:=λb o e=>Ac _ (hk b o e);have J:=Z (fo:=zp name (Qk X.env name name) params body scope (rg X.env.cells scope.names []) F ((X.mg "__name__").getD .none) j O) (H':=H) (s':={ s with heap:=_,toks:=tk }) zb (Fe _ rfl) (I.hok.fresh zb) (λv z=>by cases z) (I.kept (t':=tk) kp)
  exact oo J hN hi hx (v:=.ref R.objs.size) rfl (λs' J'=>h _ j oc F O H s' ⟨hc',hco,.inl rfl⟩ J') wb
def mu  (tb:List Ca)(H:Hp):Prop:=∀b,if b∈tb then H b=da (.tbl #[]) else H b=Aa\/∃o j,H b=da (.frz o (.lst j))
def law_callT    {K:Eb}{CX:bp}{k:Nat}{x:Str}{sp:Sp} 
  (yb:(K.all λp=>p.2.cls != .type "list")=ma) (Z:∀b∈tb,j.heap.get? b=da (vp #[])/\isCodeTable j.heap b/\K.lookup b=Aa) (vb:BmAt mg j.heap)
  (KX:K.In j.heap) (za:∃o,K.lookup Ye=da o/\o.cls=.type "dict") (xa:j.heap.Ns Ke mg) (hb:j.heap.Ns yo mb) (zb:∀x:Str,x ≠ "__name__" -> mb x=Pj x) (ya:j.heap.NoLimit) (hg:j.gens=#[])
  (ha:j.heap.get? a=da { cls:=.type "list",data:=.seq vs.toArray }) (hi:Ob vs ns) (hl:ns.length<=db) (hr:Room k Yg)
  (F:∀base ,K.In base->base.Ns Ke mg->BmAt mg base->FnOk P w K mg base CX k fa fd [x] sp) (R:∀(s:Fa) u ,se s fd ⟨[u],[]⟩ [(x,u)])
  (wa:∀H (o:Obj),mu tb H->H a=da (.frz o (.lst (ns.map V.int)))->sp [.ref a] H (λv _=>v=.bl ma) λ_ _ _=>False)
  (wb:∀H e s',CX [] H j (λ_ _ _=>False) e s'->False) :
  codeAny (Ja P w) Yg (.call (.ref fa) ⟨[.ref a],[]⟩) (λr s'=>r=.ok (.ret (.bool ma))/\OldK j.heap s'.heap/\s'.os=j.os/\ue s'.gens) j:=by
 have ka:K.lookup a=Aa:=by
  cases hk:K.lookup a with
  |none=>rfl
  |some o=>
   have e:=KX a o hk;rw[ha]at e;cases e;have:=Bj.mp yb (a,_) (mem_of_lookupK hk)
   lia
 let oa:Obj:={ cls:=.type "list",data:=.seq vs.toArray }
 have kb:a∉tb:=λz=>by
  simp_all
 obtain⟨H,hH⟩:∃H:Hp,H=λb=>if b∈tb then da (.tbl #[]) else if b=a then da (.frz oa (.lst (ns.map V.int))) else Aa:=⟨_,rfl⟩
 have H1:∀{b},b∈tb->H b=da (.tbl #[]):=λhb=>by lia
 have H2:H a=da (.frz oa (.lst (ns.map V.int))):=by
  lia
 have H3:∀{b},b∉tb->b≠a->H b=Aa:=λ{b} y J=>by
  lia
 clear hH;have Y:∀{b:Ca} {o:Obj},j.heap.get? b=da o->o.cls≠.none->(∀xs n,o.data≠.seq xs n)->H b=Aa:=λ{b o} e y J=>by
  refine H3 (λz=>?_) λz=>?_
  ·grind
  grind
 have jb:Qd P w H j.heap:=λb u e=>by
  by_cases y:b∈tb
  ·rw[H1 y]at e;cases e;exact(Z b y).1
  ·by_cases J:b=a
   ·subst J;rw[H2]at e;cases e;exact⟨ha,by simp_all,vs,_,tG hi,ha⟩
   simp_all
 have I:∀{b:Ca} {m:Str->Option Da},j.heap.Ns b m->(hidT j.heap H).Ns b m:=λ{b m} ⟨o,es,ep,e,d,r⟩=>by
  refine⟨o,es,ep,wz e (H3 (λz=>?_) λz=>?_),d,r⟩
  ·grind
  lia
 have va:K.In (hidT j.heap H):=λb o e=>wz (KX b o e) (H3 (λz=>by grind) λz=>by lia)
 have hM:Mod K mg (hidT j.heap H):=⟨va,I xa,⟨mb,I hb,zb⟩,let ⟨mc,y,J⟩:=ya;⟨mc,I y,J⟩,za⟩
 have xb:BmAt mg (hidT j.heap H):=by
  obtain⟨bm,ob,b1,b2,b3,b4,b5,b6⟩:=vb;exact⟨bm,ob,b1,b2,wz b3 (Y b3 (by lia) (by lia)),b4,b5,b6⟩
 have e0:Env0 P w K mg (hidT j.heap H) Yg [] j H:=⟨rfl,hM,λb o e=>LQ e,jw (MU _ _),trivial,λb hb=>(nomatch hb),jb,.of_eq hg⟩;have only:mu tb H:=λb=>by
  grind
 refine Io ((F _ va (I xa) xb).run Yg [] j H ⟨[.ref a],[]⟩ [.ref a] [.ref a] _ _ hr e0 (R j (.ref a)) (.cons rfl .nil) (wa H oa only H2)) λr s' h=>?_
 match r,h with
 |.error e,h=>exact(wb H e s' h).elim
 |.ok (.ret u),h=>
  obtain⟨v,H',os,bare,un,O,r',q⟩:=h;have q':v=.bl ma:=q;subst q';obtain rfl:u=Wv ma:=r';refine⟨rfl,⟨λb o e=>?_,λb o e=>un.there b o e (by simp)⟩,os,bare⟩
  by_cases y:b∈tb
  ·obtain⟨e1,ht,_⟩:=Z b y;rw[e]at e1;cases e1;obtain⟨ja,e2⟩:=un.tbls b _ (H1 y);exact .inr (.inl ⟨ht,rfl,#[],ja,rfl,O b _ e2⟩)
  ·by_cases J:b=a
   ·subst J;obtain⟨e2,_⟩:=O b _ (un.frzs b _ _ H2);rw[ha]at e;cases e;exact .inl e2
   ·exact .inl (un.keep b o e (H3 y J) (by intro z;exact(nomatch z)) (by simp))
def walk_ofT  {l:FB}{K:Tb->Eb}{CX:Bb->bp}{sp:Bb->Sp}{tbs:List (Str×Ca×Ca)}
  (va:∀w:Bb,((K w.params).all λp=>p.2.cls != .type "list")=ma) (za:∀(w:Bb),∀t∈tbs,(∃dr,(recsOf q).find? (λe=>e.name==t.1)=da dr)/\tabIn (K w.params) t.1=da (t.2.1,t.2.2)/\(K w.params).lookup t.2.2=Aa)
  (hn:l.most=da n) (ja:n<=db) (xa:d.params.defaults=[]) (hr:Room k Yg)
  (hY:∀(w:Bb) (h:Wa),YP w h->(K w.params).In h) (R:∀w:Bb,∃o,(K w.params).lookup Ye=da o/\o.cls=.type "dict")
  (F:∀(w:Bb) mg J (h:Wa),(K w.params).In h->h.Ns Ke mg->mg d.name=da (.ref J)->
   ∃fd ,(∀(s:Fa) u ,se s fd ⟨[u],[]⟩ [(x,u)])/\
    ∀base ,(K w.params).In base->base.Ns Ke mg->BmAt mg base->FnOk l.prog w (K w.params) mg base (CX w) k J fd [x] (sp w))
  (Z:∀(w:Bb) H (o:Obj) a (ns:List Int),ns.length<=n->mu (tbs.map (·.2.2)) H->H a=da (.frz o (.lst (ns.map V.int)))->sp w [.ref a] H (λv _=>v=.bl ma) λ_ _ _=>False)
  (ya:∀(w:Bb) H (s:Fa) (e:Da) s' ,CX w [] H s (λ_ _ _=>False) e s'->False) :
  HJ q loose XP YP l.row.toRowW d [] (λf vs=>GA f vs):=by
 refine Att.attach_call hn xa λw wa z mg mb J o pm cd ha a vs ns G Y ho hd ka O I y j hg=>?_;have kx:=hY w _ Y;obtain⟨fd,hb,hF⟩:=F w mg J _ kx G.T.g O;refine law_callT (tb:=tbs.map (·.2.2)) (va w) (λb hb=>?_) ?_ kx (R w) G.T.g G.T.b G.T.builtins G.T.nolimit hg I y (Rb j ja) hr hF hb (λH o hO hS=>Z w H o a ns j hO hS) λH e s'=>ya w H z e s'
 ·obtain⟨t,ht,rfl⟩:=Ia.mp hb;obtain⟨⟨dr,h1⟩,h2,h3⟩:=za w t ht;obtain⟨c1,c2⟩:=tab_of G.T kx h1 h2;exact⟨c2,(c1.tab c2).isCodeTable,h3⟩
 ·obtain⟨bm,ob,b1,b2,b3,b4,b5,b6⟩:=G.T.bmain;exact⟨bm,ob,b1,b2,b3,b4,b5,b6⟩
end L2

namespace L2
open PySem PySem.Spec PyProof.Rows
open Sem (wp)
open AutoSeq1 (wpAny_loadPart')

def sW  {s: Fa}(I:s.heap.IsList l items)
  (h:∀h',IsEnum h' (s.heap.objs.size+1) s.heap.objs.size 0 .none->h'.IsListIter s.heap.objs.size l 0->(∀b o,s.heap.get? b=da o->h'.get? b=da o)->Q (.ref (s.heap.objs.size+1)) { s with heap:=h' }) :
  wpAny (Ja prog w) A (call (.type "enumerate") [.ref l]) Q E s:=by
 have j:∀(p:Wa) (n:Nat) (o:Obj),p.objs.size=n->o.isFreed=ua->(p.push o).get? n=da o:=λp n o e f=>by
  subst e;exact Fe p f
 have sz:=λo=>dw s.heap o;refine callType_new F.called_enumerate (by decide) (qK _) (cK _) (λy=>sK y _) bK (vI (.ref l) _) ⟨λ_ _ _ _ _ q=>SA I q,?_⟩
 rw[sz];have z:=j _ _ ⟨.type "enumerate",Aa,.fields #[.none,.bool ua,.ref s.heap.objs.size,Cb 0,.none,.none],#[]⟩ (sz ⟨.type "list_iterator",Aa,.fields #[.ref l,.int 0 0],#[]⟩) rfl;exact⟨⟨_,z,rfl⟩,h _ z ⟨_,Ac _ (j _ _ _ rfl rfl),rfl,rfl⟩ λb o x=>Ac _ (Ac _ x)⟩

def BL  (K:Eb)(a:Ca):It:=
 ⟨λi H=>∃j x,Qc K H a j/\j[i]?=da x,λi H y q=>∃x p,(∀j,Qc K H a j->j[i]?=da x)/\y=.ref p/\H p=Aa/\q=upd H p (.tup [.int (i:Int),x]),λi H=>∃j,Qc K H a j/\j.length=i⟩
def rV    {K:Eb} a e it (va:e≠it)(vb:a≠e)(ya:a≠it) :
  Turn P w K (.Tuple zb x1 pos) (BL K a) [e,it] e (λi h=>(∃q,IsEnum h e it (i:Int) q)/\h.IsListIter it a i) where
 mem:=by simp
 obj:=λi h O b J=>by
  obtain⟨⟨q,R⟩,o,ho,c,d⟩:=O
  grind
 keep:=λi h h' O k=>by
  obtain⟨⟨q,R⟩,o,ho,r⟩:=O;exact⟨⟨q,k e (by simp) _ R⟩,o,k it (by simp) _ ho,r⟩
 item:=by
  intro X hP hw hK hc i j s σ H E I hf O hg;subst hP hw hK;obtain⟨xs,x,hq,hx⟩:=hg;obtain⟨z,rv,p,hz⟩:=I.list hq;obtain⟨u,hu,ru⟩:=rv.get hx;obtain⟨⟨q,R⟩,Y⟩:=O;have ka:i<z.toArray.size:=by
   grind
  refine pK (NK (A:=X.A.in1) (I.ok.hd hc) it a ya z.toArray) R ⟨Y,p.isList⟩ ka va (by grind) λx' h' F hP ho wa hT jb hk=>?_
  refine⟨_,rfl,gL ho λh2 ha xa=>?_⟩;have ex:x'=u:=by
   simp_all
  subst ex;have xb:H s.heap.objs.size=Aa:=I.hok.fresh (Jb _);have za:e≠s.heap.objs.size:=Ae (Hc R);have ja:it≠s.heap.objs.size:=by obtain⟨o,Z,_⟩:=Y;exact Ae (Hc Z)
  have I1:Pa X j σ (upd H s.heap.objs.size (.tup [.int (i:Int),x])) { s with heap:=s.heap.push { cls:=.type "tuple",data:=.seq #[.int i F,x'] },toks:=F+1 }:=by
   refine I.laid (λb o y=>Ac _ y) (Jb _) ⟨by show 2<=db;decide,[.int i F,x'],.cons ⟨F,rfl⟩ (.cons ru .nil),TupD.new _ _⟩
  have fpU:∀b,b≠s.heap.objs.size->FpOk X j H b->FpOk X j (upd H s.heap.objs.size (.tup [.int (i:Int),x])) b:=λb J f=>⟨by rw[Gc J];exact f.1,f.2⟩
  have kk:∀b o,b≠e->b≠it->(s.heap.push { cls:=.type "tuple",data:=.seq #[.int i F,x'] }).get? b=da o->h2.get? b=da o:=λb o be bi y=>by
   have step:h'.get? b=da o:=by
    by_cases J:b=s.heap.objs.size
    ·subst J;rw[hT];exact(Fe s.heap (o:={ cls:=.type "tuple",data:=.seq #[.int i F,x'] }) rfl).symm.trans y
    ·rw[KB _ _ _ J]at y
     simp_all
   exact(xa.2 b be).trans step
  have I2:Pa X j σ (upd H s.heap.objs.size (.tup [.int (i:Int),x])) { s with heap:=h2,toks:=F+1 }:=
   RE (s:={ s with heap:=s.heap.push { cls:=.type "tuple",data:=.seq #[.int i F,x'] },toks:=F+1 }) (h':=h2) (t':=F+1) (e:=e) (it:=it) I1 kk (fpU e za (hf e (by simp))) (fpU it ja (hf it (by simp)))
  refine⟨.ref s.heap.objs.size,_,I2,rfl,⟨x,_,λys hy=>by rw[I.list_inj hy hq];exact hx,rfl,xb,rfl⟩,⟨⟨_,by simpa using ha⟩,?_⟩,λb J=>?_⟩
  ·obtain⟨o,Z,r⟩:=wa.1;exact⟨o,(xa.2 it (Xa va)).trans Z,r⟩
  ·simp only[Mc,Qg,or_false]at J;rcases J with rfl|rfl
   ·rw[Gc za];exact(hf _ (by simp)).1
   ·rw[Gc ja];exact(hf _ (by simp)).1
 done:=by
  intro X hP hw hK hc i j s σ H E I hf O hg;subst hP hw hK;obtain⟨xs,hq,hx⟩:=hg;obtain⟨z,rv,p,hz⟩:=I.list hq;obtain⟨⟨q,R⟩,Y⟩:=O;have hl:z.toArray.size=i:=by rw[Zc,<- rv.length];exact hx
  refine AK (NK (A:=X.A.in1) (I.ok.hd hc) it a ya z.toArray) R ⟨by lia,p.isList⟩ λh' eb=>⟨rfl,?_⟩
  obtain⟨f0,f1,f2,f3,f4,f5⟩:=hf it (by simp)
  exact I.turned (t':=s.toks) (λb o J y=>eb b o J y) f0 f1 f3 f4 f5
 self:=λA i s Q E O h=>by
  obtain⟨⟨q,R⟩,_⟩:=O;exact Tw R h
section
variable {X:Cx}
def VO  (K:Eb)(F:TA):TI:=λy H R=>F y H λz j=>∃a,z=[.ref a]/\(((∃q,j a=da (.tup q))/\R (CL K a) j)\/((∃q,Qc K j a q)/\R (BL K a) j))
def WT {l:Na}{ta:TA}{p pos O:Pos}{Y:List Na}{x1}(hg:Gl X "enumerate")(hm:X.mg "enumerate" = Aa)(ha:PA X [l] ta)(hs:Uc [l] X.env=[(ua,Lb l X.env)]:=by rfl) :
  PI X (.Tuple Y x1 O) (.Call (.Name "enumerate" p) [l] [] pos) (VO X.K ta):=by
 intro z s σ H R I h;refine Call_ (gq I hg hm boot_enumerate (QB (Pb (ha pos z s σ H _ I h) λus s1 ⟨vs,H1,y,r1,q1⟩=>?_) hs rfl));obtain⟨a,e,q⟩:=q1;subst e;obtain⟨u,rfl,rx⟩:=fh r1;cases rx;have fp:∀b∈[s1.heap.objs.size+1,s1.heap.objs.size],FpOk X z H1 b:=λb hb=>by
  simp only[Mc,Qg,or_false]at hb;rcases hb with rfl|rfl
  ·exact y.fpOk (Tv _) (y.hok.fresh (Tv _))
  ·exact y.fpOk (Jb _) (y.hok.fresh (Jb _))
 rcases q with⟨⟨xs,hq⟩,q⟩|⟨⟨xs,hq⟩,q⟩
 ·obtain⟨F,rv,t,hz⟩:=y.tuple (Ic.of hq);have j:a<s1.heap.objs.size:=by obtain⟨o,ho,_⟩:=t;exact Hc ho
  exact tW (items:=F.toArray) t λh' Z J hk=>Tw Z ⟨_,_,_,_,H1,rfl,y.kept (t':=s1.toks) hk,vV a _ _ (Nat.succ_ne_self _) (Ae (DB j)) (Ae j),⟨⟨_,Z⟩,J⟩,fp,q⟩
 ·obtain⟨F,rv,t,hz⟩:=y.list hq;have j:a<s1.heap.objs.size:=by obtain⟨o,ho,_⟩:=t.isList;exact Hc ho
  exact sW (items:=F.toArray) t.isList λh' Z J hk=>Tw Z ⟨_,_,_,_,H1,rfl,y.kept (t':=s1.toks) hk,rV a _ _ (Nat.succ_ne_self _) (Ae (DB j)) (Ae j),⟨⟨_,Z⟩,J⟩,fp,q⟩
end
end L2

namespace L2
open PySem PySem.Spec PyProof.Rows

def FU  : nc X (Ed .LtE) (λx y H Q=>∃i j,x=.str i/\y=.str j/\Q (.bl (!decide (j.cps.toList<i.cps.toList))) H):=by
 intro z s O H x y v u Q I J F h;obtain⟨i,j,rfl,rfl,q⟩:=h;obtain⟨t,rfl⟩:=J;obtain⟨R,rfl⟩:=F;exact PySem.P.le_str (Ld I q rfl)
def uW  : rf X (.type "int") (λxs H Q=>∃z n,xs=[.str z]/\PySem.intText? z=da n/\z.length<=640/\Q (.int n) H):=by
 intro j s O H xs R Q I r h;obtain⟨z,n,rfl,J,F,q⟩:=h;obtain⟨u,rfl,y⟩:=fh r;obtain⟨t,rfl⟩:=y;exact PySem.W.KIN.call_text J F ⟨.int n,H,I.tok _,⟨_,rfl⟩,q⟩
end L2

namespace L2
open PySem PySem.Spec PyProof.Rows Builtin Builtin.Str

end L2

namespace L2
open PySem PySem.Spec PyProof.Rows
section
variable {prog:Nb}{w:Bb}{K:Type}[DecidableEq K]{knd:KeyKind prog w K}{A:ac}{E:Da->Fa->Prop}{s:Fa}
end


def Iu  (x:ee P w H h a (.frz o (.dK kvs)))(hd:o.data=.dict es ep):es.size=kvs.length/\∃vs,KV kvs vs/\h.DictAt (Sd P w) a vs ep:=by
 obtain⟨j,_,_,vs,r,Y,R,J,q,O,z,I,y,F⟩:=x;rw[j]at q;cases q;rw[hd]at z;cases z;have e:=y.length;rw[vn]at e;exact⟨e.trans r.length.symm,vs,r,o,es,j,O,hd,I,y,F⟩
theorem KV.at    {vs:List (κ×Da)}(r:KV kvs vs):∀{i:Nat} {p },kvs[i]?=da p->∃v,vs[i]?=da (p.1,v)/\RelV p.2 v:=by
 induction r with
 |nil=>simp_all
 |@cons p q I J h t y=>
  intro i F e;cases i with
  |zero=>simp at e;subst e;exact⟨q.2,by rw[h.1];rfl,h.2⟩
  |succ j=>simp at e;simpa using y e
noncomputable def fC  (a:Ca)(o:Obj):It:=
 ⟨λi H=>∃j,H a=da (.frz o (.dK j))/\i<j.length,λi H x q=>q=H/\∃j k,H a=da (.frz o (.dK j))/\j[i]?=da (k,x),λi H=>∃j,H a=da (.frz o (.dK j))/\j.length<=i⟩
def gC  (a:Ca)(o:Obj):It:=
 ⟨λi H=>∃j,H a=da (.frz o (.dK j))/\i<j.length,λi H y q=>∃j k x p,H a=da (.frz o (.dK j))/\j[i]?=da (k,x)/\y=.ref p/\H p=Aa/\q=upd H p (.tup [kV k,x]),λi H=>∃j,H a=da (.frz o (.dK j))/\j.length<=i⟩
def KR  {K:Eb} a it (o:Obj)(es:Array Mk) ep (hd:o.data=.dict es ep) :
  Turn P w K tg (fC a o) [it] it (λi h=>h.IsValIter it a i es.size ep) where
 mem:=by simp
 obj:=λi h j b z=>by
  cases Ea.mp z;obtain⟨u,e,_,d⟩:=j
  simp_all
 keep:=λi h h' j k=>j.at λu e=>k it (by simp) u e
 item:=by
  intro X hP hw hK hc i J s σ H E I Y j hg;subst hP hw hK;obtain⟨y,R,hl⟩:=hg;obtain⟨O,vs,r,Z⟩:=Iu (I.hok a _ R) hd;obtain⟨f0,f1,f2,f3,f4,f5⟩:=Y it (by simp)
  rw[O.trans r.length]at j;have ek:y[i]?=da y[i]:=Bc hl;obtain⟨v,ev,rv⟩:=r.at ek;refine wpAny_pyNext_values_item j Z ev λh' F sb=>?_;obtain⟨u,eu,cu,du⟩:=id F;rw[<- r.length,<- O]at F;exact⟨_,rfl,qu (s:={ s with heap:=h' }) eu cu du (by decide) ⟨_,H,I.turned (t':=s.toks) (λb o z e=>(sb.2 b z).trans e) f0 f1 f3 f4 f5,rv,⟨rfl,y,_,R,ek⟩,F,λb z=>(Y b z).1⟩⟩
 done:=by
  intro X hP hw hK hc i J s σ H E I Y j hg;subst hP hw hK;obtain⟨y,R,hl⟩:=hg;obtain⟨O,vs,r,Z⟩:=Iu (I.hok a _ R) hd;obtain⟨f0,f1,f2,f3,f4,f5⟩:=Y it (by simp)
  rw[O.trans r.length]at j;exact wpAny_pyNext_values_end (I.ok.hd hc) j Z (yB (by rw[<- r.length];exact hl)) λh' eb=>⟨rfl,I.turned (t':=s.toks) (λb o z e=>eb b o z e) f0 f1 f3 f4 f5⟩
 self:=λ_ _ _ _ _ j q=>wpAny_pyIter_valiter j q
def xQ    (e:(Sd P w).is k u=ma):RelV (kV k) u:=by
 rcases pi e with⟨i,t,rfl,rfl⟩|⟨x,t,rfl,rfl⟩
 ·exact⟨t,rfl⟩
 ·exact⟨t,rfl⟩
def JR  {K:Eb} a it (o:Obj)(es:Array Mk) ep (hd:o.data=.dict es ep) :
  Turn P w K (.Tuple ya x1 pos) (gC a o) [it] it (λi h=>∃u v,IsItemIter h it a i es.size ep u v) where
 mem:=by simp
 obj:=λi h z b O=>by
  grind
 keep:=λi h h' z k=>let ⟨u,v,e⟩:=z;⟨u,v,k it (by simp) _ e⟩
 item:=by
  intro X hP hw hK hc i F s σ H E I hf z hg;subst hP hw hK;obtain⟨j,Y,hl⟩:=hg;obtain⟨R,vs,r,Z⟩:=Iu (I.hok a _ Y) hd;have fi:=hf it (by simp)
  obtain⟨u0,v0,z⟩:=z;rw[R.trans r.length]at z;have ek:j[i]?=da j[i]:=Bc hl;obtain⟨v,ev,rv⟩:=r.at ek;refine wpAny_pyNext_items_item z Z ev λJ h' hk xa tp sz kp=>⟨_,rfl,wpAny_letOwnedTupleGo_items xa λh2 st2 sb=>?_⟩;rw[<- r.length,<- R]at st2;have va:H s.heap.objs.size=Aa:=I.hok.fresh (Jb _);have ja:it≠s.heap.objs.size:=Ae (Hc z);have I1:Pa X F σ (upd H s.heap.objs.size (.tup [kV j[i].1,j[i].2])) { s with heap:=s.heap.push { cls:=.type "tuple",data:=.seq #[J,v] },toks:=s.toks }:=by
   refine I.laid (λb o y=>Ac _ y) (Jb _) ⟨by show 2<=db;decide,[J,v],.cons (xQ hk) (.cons rv .nil),TupD.new _ _⟩
  have kk:∀b o,b≠it->(s.heap.push { cls:=.type "tuple",data:=.seq #[J,v] }).get? b=da o->h2.get? b=da o:=λb o bi y=>by
   refine(sb.2 b bi).trans ?_;by_cases O:b=s.heap.objs.size
   ·subst O;rw[Fe _ rfl]at y
    lia
   ·rw[KB _ _ _ O]at y
    simp_all
  obtain⟨f0,f1,f2,f3,f4,f5⟩:=fi;have za:upd H s.heap.objs.size (.tup [kV j[i].1,j[i].2]) it=Aa:=by rw[Gc ja];exact f0
  refine⟨.ref s.heap.objs.size,_,I1.turned (h':=h2) (t':=s.toks) kk za f1 f3 f4 f5,rfl,⟨j,_,_,_,Y,ek,rfl,va,rfl⟩,⟨_,_,st2⟩,λb O=>?_⟩
  simp_all
 done:=by
  intro X hP hw hK hc i F s σ H E I hf z hg;subst hP hw hK;obtain⟨j,Y,hl⟩:=hg;obtain⟨R,vs,r,Z⟩:=Iu (I.hok a _ Y) hd;obtain⟨f0,f1,f2,f3,f4,f5⟩:=hf it (by simp)
  obtain⟨u0,v0,z⟩:=z;rw[R.trans r.length]at z;exact wpAny_pyNext_items_end (I.ok.hd hc) z Z (yB (by rw[<- r.length];exact hl)) λh' eb=>⟨rfl,I.turned (t':=s.toks) (λb o O e=>eb b o O e) f0 f1 f3 f4 f5⟩
 self:=λA i s Q E z q=>by
  obtain⟨u,v,z⟩:=z;exact PySem.W.kcp_self z q
section
variable {X:Cx}{tg d:Na}{tl:TE}{apos cpos:Pos}
def Held  (H:Hp)(a:Ca)(kvs:List (Wb×V))(R:Obj->Hp->Prop):Prop:=Rd H a (.dK kvs)/\∀o,(∀u,H a=da (.frz u (.dK kvs))->u=o)->R o (upd H a (.frz o (.dK kvs)))
def rE    {Z:St}(I:Pa X pins Z H s)(q:Held H a kvs R) :
  ∃o j ep vs,o.data=.dict j ep/\j.size=vs.length/\(a==Ye)=ua/\s.heap.DictAt (Sd X.prog X.w) a vs ep/\R o (upd H a (.frz o (.dK kvs)))/\Pa X pins Z (upd H a (.frz o (.dK kvs))) s:=by
 obtain⟨z,y,vs,r,o,j,ep,F,h2,O,h4,Y,h6⟩:=tj I.hok q.1;have e:=Y.length;rw[vn]at e;have J:s.heap.DictAt (Sd X.prog X.w) a vs ep:=⟨o,j,F,h2,O,h4,Y,h6⟩;rcases q.1 with g|⟨u,g⟩
 ·refine⟨o,j,ep,vs,O,e,y,J,q.2 o (λu z=>by lia),?_⟩
  exact I.write (h':=s.heap) (t':=s.toks) (x:=a) (e:=a) (by rw[g];trivial) (.inl rfl) (λb u _ e=>e) ⟨o,F⟩ ⟨F,z,y,vs,r,o,j,ep,F,h2,O,h4,Y,h6⟩
 ·have hu:=(show ee X.prog X.w H s.heap a (.frz u (.dK kvs))from I.hok a _ g).1;rw[F]at hu;cases hu;have xa:upd H a (.frz o (.dK kvs))=H:=by
   funext b;unfold upd
   lia
  refine⟨o,j,ep,vs,O,e,y,J,q.2 o (λu z=>by lia),?_⟩
  lia
def QW  (y:TE):TI:=λq H R=>y q H λx F=>∃a j,x=.ref a/\Held F a j λo z=>R (fC a o) z
def RW  (y:TE):TI:=λq H R=>y q H λx F=>∃a j,x=.ref a/\Held F a j λo z=>R (gC a o) z
def wN (hd:PE X d tl)(F:Pk d "values" X.env (Lb d X.env)=Lb d X.env:=by rfl)(z:(apos.endLine==cpos.line)=ma:=by rfl):PI X tg (.Call (.Attribute d "values" apos) [] [] cpos) (QW tl):=by
 intro j s Z H R I h;refine oK F z (Pb (hd j s Z H _ I h) λv s1 ⟨x,H1,I1,r1,a,J,ex,q⟩=>?_);subst ex;cases r1;obtain⟨t1,t2,_⟩:=wD I1 (.inl ⟨J,q.1⟩);obtain⟨o,es,ep,vs,hd,hs,y,O,q,I2⟩:=rE I1 q;refine⟨"dict", "dict.values",Fw,HK,PySem.F.type_dict_values,t1,t2,Dw rfl (qB ?_)⟩;refine Xv HK t1 PySem.F.entry_dict_values (PySem.F.args_dict_values_1 _) (meets_dict_values (Sd X.prog X.w) a y) ⟨⟨vs,O.dictOf⟩,?_⟩;have Y:Pa X j Z (upd H1 a (.frz o (.dK J))) { s1 with heap:=s1.heap.push { cls:=.type "dict_values",data:=.fields #[.ref a] } }:=I2.kept (t':=s1.toks) λb o e=>Ac _ e
 refine wpAny_pyIter_values (s:={ s1 with heap:=s1.heap.push { cls:=.type "dict_values",data:=.fields #[.ref a] } }) ⟨_,Fe _ rfl,rfl,rfl⟩ (O.at' λo e=>Ac _ e) ?_
 rw[<- hs];refine⟨_,[_],_,_,_,rfl,Y.kept (t':=s1.toks) λb o e=>Ac _ e,KR a _ o es ep hd,⟨_,Fe _ rfl,rfl,rfl⟩,λb hb=>?_,q⟩;cases Ea.mp hb;exact Y.fpOk (Jb _) (Y.hok.fresh (Jb _))
def vN {O:List Na}{x1}{J:Pos}(hd:PE X d tl)(F:Pk d "items" X.env (Lb d X.env)=Lb d X.env:=by rfl)(z:(apos.endLine==cpos.line)=ma:=by rfl):PI X (.Tuple O x1 J) (.Call (.Attribute d "items" apos) [] [] cpos) (RW tl):=by
 intro j s σ H R I h;refine oK F z (Pb (hd j s σ H _ I h) λv s1 ⟨x,H1,I1,r1,a,Y,ex,q⟩=>?_);subst ex;cases r1;obtain⟨t1,t2,_⟩:=wD I1 (.inl ⟨Y,q.1⟩);obtain⟨o,es,ep,vs,hd,hs,y,Z,q,I2⟩:=rE I1 q;refine⟨"dict", "dict.items",Fw,FK,PySem.F.type_dict_items,t1,t2,Dw rfl (qB ?_)⟩;refine Xv FK t1 PySem.F.entry_dict_items (PySem.F.args_dict_items_1 _) (meets_dict_items (Sd X.prog X.w) a y) ⟨⟨vs,Z.dictOf⟩,?_⟩;have I3:Pa X j σ (upd H1 a (.frz o (.dK Y))) { s1 with heap:=s1.heap.push { cls:=.type "dict_items",data:=.fields #[.ref a] } }:=I2.kept (t':=s1.toks) λb o e=>Ac _ e
 refine wpAny_pyIter_items (s:={ s1 with heap:=s1.heap.push { cls:=.type "dict_items",data:=.fields #[.ref a] } }) ⟨_,Fe _ rfl,rfl,rfl⟩ (Z.at' λo e=>Ac _ e) ?_
 rw[<- hs];refine⟨_,[_],_,_,_,rfl,I3.kept (t':=s1.toks) λb o e=>Ac _ e,JR a _ o es ep hd,⟨_,_,Fe _ rfl⟩,λb hb=>?_,q⟩;cases Ea.mp hb;exact I3.fpOk (Jb _) (I3.hok.fresh (Jb _))
end
end L2

namespace L2
open PySem PySem.Spec PyProof.Rows
open Sem (wp)


end L2

namespace L2
open PySem PySem.Spec PyProof.Rows PySem.W
theorem Wm  : ∀{vs } {ns },Ob vs ns->∀{i } {u },vs[i]?=da u->∃t,u=.int (ns.getD i 0) t/\i<ns.length
 |_,_,.nil,_,_,h=>by simp at h
 |_,_,.cons m t r,0,u,h=>by
  simp at h;exact⟨t,by rw[<- h];rfl,Nat.zero_lt_succ _⟩
 |_,_,.cons m t r,i+1,u,h=>by
  obtain⟨j,e,l⟩:=Wm r (by simpa using h)
  exact⟨j,by rw[e];rfl,Nat.succ_lt_succ l⟩
theorem VC:∀{l:List Int},(∀i (h:i+1<l.length),l[i]<l[i+1])->l.Pairwise (·< ·)
 |[],_=>.nil
 |[x],_=>XB _ _
 |x::y::r,h=>by
  have q:=VC (l:=y::r) λi F=>by
   have:=h (i+1) (Nat.succ_lt_succ F);simpa using this
  have h0:x<y:=h 0 (by simp)
  refine Mb.mpr ⟨λz j=>?_,q⟩;rcases Mc.mp j with rfl|j
  ·exact h0
  ·exact Int.lt_trans h0 ((Mb.mp q).1 z j)

def OV       (ho:s.heap.get? a=da (re "list" vs.toArray n))(F:Ob vs ns)(nd:ns.Nodup)(ja:vs.length<Nh)
  (h:∀(out:Array Da) (I:List Int),Ob out.toList I->I.Perm ns->I.Pairwise (·< ·)->P (.done (.ret .none)) { s with heap:=xp s.heap a vs out }) :
  wpAny (Ja prog w) A (Fb.«list.sort» ⟨[.ref a],[]⟩) P E s:=by
 have il:vs.length=ns.length:=F.length;have J:∀{i:Nat} (q:i<ns.length),ns.getD i 0=ns[i]:=λq=>by simp[Ad,q]
 have xa:vs.Nodup:=by
  refine Wc.mpr λi j q y ya e=>?_;obtain⟨t1,e1,l1⟩:=Wm F (Bc q);obtain⟨t2,e2,l2⟩:=Wm F (Bc y);rw[e1,e2]at e;injection e with e3 _
  rw[J l1,J l2]at e3;exact uu nd l1 l2 (by lia) e3
 refine TH (κ:=oneType') ho ja xa (λi j=>decide (ns.getD i 0<ns.getD j 0)) (λh' kp O R hR=>?_) (λh' kp=>⟨λi j C q y hC=>?_,λi j k _ _ _ h1 O=>?_,λi j q y za=>?_,λi _=>?_⟩) λz Y hs=>?_
 ·refine kas_kind (M:=Ja prog w) (s:={ s with heap:=h' }) (T:=.type "int") O (λv hv=>?_) (by decide) (by decide) hR
  obtain⟨i,q,rfl⟩:=Lg hv;obtain⟨t,e,_⟩:=Wm F (Bc q);rw[e];exact iB rfl
 ·unfold Xg;rw[DA];obtain⟨t1,e1,_⟩:=Wm F (Bc q);obtain⟨t2,e2,_⟩:=Wm F (Bc y);have Z:vs.getD i Yd=vs[i]:=by simp[Ad,q]
  have ej:vs.getD j Yd=vs[j]:=by simp[Ad,y]
  rw[Z,ej,e1,e2];exact jx hC
 ·have:=of_decide_eq_true h1;have:=of_decide_eq_true O;exact decide_eq_true (by lia)
 ·rw[il]at q y;have:=uu nd q y za;rw[J q,J y,decide_eq_true_iff,decide_eq_true_iff]
  lia
 ·exact decide_eq_false (Int.lt_irrefl _)
 ·rw[il]at Y hs;have va:∀i∈z,i<ns.length:=λi q=>Yb.mp (Y.mem_iff.mp q);have go:∀l:List Nat,(∀i∈l,i<ns.length)->Ob (l.map λi=>vs.getD i Yd) (l.map λi=>ns.getD i 0):=λl=>by
   induction l with
   |nil=>intro _;exact .nil
   |cons i l ih=>
    intro hl;have q:=hl i Re;obtain⟨t,e,_⟩:=Wm F (Bc (show i<vs.length by lia))
    have Z:vs.getD i Yd=vs[i]'(by lia):=by simp[Ad,show i<vs.length by lia]
    rw[He,He,Z,e];exact .cons _ t (ih λj y=>hl j (Oc _ y))
  refine h _ (z.map λi=>ns.getD i 0) (by rw[List.toList_toArray];exact go z va) ?_ ?_
  ·have e:ns=(Ge ns.length).map λi=>ns.getD i 0:=by
    refine zB (by simp) λi h1 O=>?_
    rw[AB,List.getElem_range,J h1]
   exact(Y.map _).trans (by rw[<- e])
  ·have pl:z.length=ns.length:=by rw[Y.length_eq,Lw]
   refine VC λi q=>?_;rw[Ab]at q;have:=of_decide_eq_true (hs i (by lia))
   rw[AB,AB];have g1:z.getD i 0=z[i]:=by simp[Ad,show i<z.length by lia]
   have g2:z.getD (i+1) 0=z[i+1]:=by simp[Ad,q]
   rw[g1,g2]at this;exact this

def vW  (hc:X.calm=ma):rf X (.builtin "sorted") (λxs H Q=>∃(a:Ca) (kvs:List (Wb×V)) (ns:List Int),xs=[.ref a]/\H a=da (.dK kvs)/\kvs.map (·.1)=ns.map (λz=>(.inl z:Wb))/\ns.length<Nh/\∀p (ms:List Int),H p=Aa->ms.Perm ns->ms.Pairwise (·< ·)->Q (.ref p) (upd H p (.lst (ms.map V.int)))):=by
 intro xb s σ H xs us Q I r h;obtain⟨a,kvs,ns,rfl,ha,hk,O,q⟩:=h;obtain⟨u,rfl,rx⟩:=fh r;cases rx;obtain⟨hz,hS,R,rv,m⟩:kvs.length<=db/\(a==Ye)=ua/\∃R,KV kvs R/\s.heap.DictOf (Sd X.prog X.w) a R:=I.hok a _ ha;obtain⟨ep,ka⟩:=m.dictAt;have Y:R.map (·.1)=kvs.map (·.1):=Uy rv;have xa:R.length=ns.length:=by
  have:=congrArg Uv (Y.trans hk)
  grind
 have nd:ns.Nodup:=by
  have hn:(R.map (·.1)).Nodup:=let ⟨_,_,_,_,_,_,_,_,hn⟩:=m;hn
  rw[Y,hk]at hn;exact(Te.mp hn).imp λh e=>h (by rw[e])
 refine uH (CV (A:=X.A.in1) (PySem.W.kdl_dict (knd:=Sd X.prog X.w) (kvs:=R) (ep:=ep) hS) (I.ok.hd hc) ka (by rw[xa];exact(by rw[Fi];unfold Nh at O;lia)) λh' tk F ya va J=>?_)
 have hl:F.toList.length=ns.length:=by rw[vn,J.1,xa]
 refine RA ?_ (by rw[hl];exact(by rw[Fi];unfold Nh at O;lia))
 have hI:Ob F.toList ns:=Ry (Y.trans hk) hl λj v e=>J.2 j v (by simp_all)
 have Z:(h'.push { cls:=.type "list",data:=.seq F.toList.toArray }).get? h'.objs.size=da (re "list" F.toList.toArray 0):=Fe _ rfl;refine Fo slot_list_sort ⟨_,Z,rfl⟩ entry_list_sort (OV Z hI nd (by lia) λout ja a1 a2 a3=>⟨_,rfl,?_⟩) (args_list_sort _)
 obtain⟨e,he⟩:=sortedHeap_at (out:=out) Z;have za:s.heap.objs.size<=h'.objs.size:=Yi va;refine⟨.ref h'.objs.size,_,I.laid (t':=tk) (o:=.lst (ja.map V.int)) (λb ob y=>?_) za ?_,rfl,q _ ja (I.hok.fresh za) a2 a3⟩
 ·have hb:=ya b ob y;have wa:=Hc hb;rw[sortedHeap_old (Ae wa) (by rw[yp];lia)]
  exact Ac _ hb
 ·refine⟨by rw[Ab,a2.length_eq];exact(by rw[Fi];unfold Nh at O;lia),out.toList,e,?_,?_⟩
  ·exact Yz a1
  ·rw[he]
end L2

namespace L2
open PySem PySem.Spec PyProof.Rows



end L2

namespace L2
open PySem PySem.Spec PyProof.Rows PySem.SeqAt PySem.MeetsSeq

def iW         b u (q:s.heap.get? l=da o)(O:o.cls=.type "dict")(hd:o.data=.dict es n)(hu:A.units<Sb):RcAt A s (.str b u) (.ref l) ua:=λJ w E Q h=>by
 obtain⟨R,I,y,z⟩:=o;simp only at O hd;subst O hd;exact rc_eq_decline_or (k:=ua) (rn s b u) ⟨_,q,rfl⟩ (by decide) F.sub_dict_str F.slot_str_eq BJ
  (λ_ j=>Dg F.slot_str_eq (rn s b u) F.entry_str_eq (F.args_str_eq_2 _ _) (rJ b u l es n I z) ⟨q,j⟩)
  (λ_ j=>Dg BJ ⟨_,q,rfl⟩ F.entry_dict_eq (F.args_dict_eq_2 _ _) (LI l es n I z b u) ⟨q,j⟩)
  (λ_ j=>wpAny_of_eq (rfl:isSame (.str b u) (.ref l)=pure ua) j) (.inr hu) h
def EqAt.str_dict         b u (F:s.heap.get? l=da o)(y:o.cls=.type "dict")(hd:o.data=.dict es n)(hu:A.units<Sb):EqAt A s (.str b u) (.ref l) ua:=λj w E Q h=>by
 unfold eqBool;exact Nj (wpAny_ite_split (λq=>absurd (eq_of_beq q) nofun) λ_=>ub (iW b u F y hd hu j w E _ (Uk h)))
def rInS  (K:Eb)(j:Bool):R2:=λx y H Q=>∃(a p:Ca) (zs:List Str),x=.ref a/\((∃z,Ic K H a z\/Qc K H a z)\/∃q,H a=da (.dK q))/\y=.ref p/\Ic K H p (zs.map V.str)/\Q (.bl j) H
theorem JF  : ∀{j:List Str} {us } {w },Vals (j.map V.str) us->w∈us->∃z t,w=.str z t
 |[],_,_,.nil,h=>nomatch h
 |_::_,_,_,.cons ⟨t,e⟩ q,h=>by
  rcases Mc.mp h with rfl|h
  ·exact⟨_,t,e⟩
  ·exact JF q h
def uD   {R:St}{O:List Str}(hu:A.units<Sb)(I:Pa X pins R H s)(j:(∃xs,Ic X.K H a xs\/Qc X.K H a xs)\/∃kvs,H a=da (.dK kvs))(r:Vals (O.map V.str) us):∀w,w∈us->Xf A s w (.ref a) ua:=by
 intro w Z;obtain⟨z,t,rfl⟩:=JF r Z;rcases j with⟨xs,j|j⟩|⟨kvs,j⟩
 ·obtain⟨q,rv,y,_⟩:=I.tuple j;exact .str_tuple z t (show s.heap.IsTuple a q.toArray from y) hu
 ·obtain⟨q,rv,y,_⟩:=I.list j;exact .str_list z t y.isList hu
 ·obtain⟨_,_,F,_,o,es,ep,Y,J,hd,_⟩:kvs.length<=db/\(a==Ye)=ua/\∃F,KV kvs F/\s.heap.DictOf (Sd X.prog X.w) a F:=I.hok a _ j;exact EqAt.str_dict z t Y J.1 hd hu
def lQ   (Z:Room k X.A):nc X (Ed .In) (rInS X.K ua):=by
 intro z s σ H x y v u Q I O F h;obtain⟨a,p,zs,rfl,ha,rfl,R,q⟩:=h;cases O;cases F;obtain⟨j,r,Y,_⟩:=I.tuple R;have J:=uD (A:=X.A.in1) (by have:=Z.un;simp only[ac.in1]at *;lia) I ha r
 refine IB (λ_=>ua) Y (λw hw=>J w (by simp_all)) ⟨.bl _,H,I,rfl,?_⟩
 rw[show j.toArray.any (λ_=>ua)=ua by simp]
 exact q
def HU   (Z:Room k X.A):nc X (Ed .NotIn) (rInS X.K ma):=by
 intro z s σ H x y v u Q I O F h;obtain⟨a,p,zs,rfl,ha,rfl,R,q⟩:=h;cases O;cases F;obtain⟨j,r,Y,_⟩:=I.tuple R;have J:=uD (A:=X.A.in1) (by have:=Z.un;simp only[ac.in1]at *;lia) I ha r
 refine rB (λ_=>ua) Y (λw hw=>J w (by simp_all)) ⟨.bl _,H,I,rfl,?_⟩
 rw[show j.toArray.any (λ_=>ua)=ua by simp]
 exact q
def hV   (hr:Room k X.A):nc X (Ed .NotEq) (λx y H Q=>∃a b xs,x=.ref a/\y=.ref b/\Qc X.K H a xs/\Qc X.K H b []/\Q (.bl (!xs.isEmpty)) H):=by
 intro Y s σ H x y v u Q I rx Z h;obtain⟨a,b,xs,rfl,rfl,ha,hb,q⟩:=h;cases rx;cases Z;obtain⟨O,rv,pa,_⟩:=I.list ha;obtain⟨R,J,pb,_⟩:=I.list hb;cases J;have hu:X.A.units<Sb:=hr.units0;have z:s.heap.IsList a O.toArray:=pa.isList;have F:s.heap.IsList b ([]:List Da).toArray:=pb.isList;cases rv with
 |nil=>
  refine Ow (SeqAt.RcNeAt.lists (e:=λ_=>ma) z F rfl hu λj h1 _=>?_) ⟨.bl ua,H,I,rfl,q⟩;simp at h1
 |cons r rr=>
  exact Ow (SeqAt.RcNeAt.lists_lengths z F (by simp) hu) ⟨.bl ma,H,I,rfl,q⟩
end L2

namespace Z
open PySem L2
inductive U where
 |non|bl (b:Bool)|int (i:Int)|str (x:Str)|tup (xs:List U)|loc (a:Ca)|fn (n:Nat)|ty (n:String)
 |exc (c:Nat) (fs:List U)|own (n:Nat)|clo (n:Nat) (cs:List U)
inductive MO where
 |lst (xs:List U)|fro (xs:List U)|dK (kvs:List (Wb×U))|dT (kvs:List (List Wb×U))|frd (o:Obj) (kvs:List (List Wb×U))|frk (o:Obj) (kvs:List (Wb×U))
abbrev Gp:=Ca->Option MO
noncomputable def Sc  (G:Gp)(a:Ca)(o:MO):Gp:=λb=>if b=a then da o else G b
structure cj (G:Gp)(p:Ca)(o:MO)(G':Gp):Prop where
 no:G p=Aa
 eq:G'=Sc G p o
structure Mg (G:Gp)(a:Ca)(o:MO)(G':Gp):Prop where
 eq:G'=Sc G a o
structure XV where
 c:Nat
 fs:List U
abbrev Sg:=List (Option U)
abbrev K1:=U->Gp->Prop
abbrev KX:=XV->Gp->Prop
def newO  (G:Gp)(o:MO)(Q:K1):Prop:=∀p j,cj G p o j->Q (.loc p) j
def putO  (G:Gp)(a:Ca)(o:MO)(Q:Gp->Prop):Prop:=∀j,Mg G a o j->Q j
def newO.at     (h:newO G o Q):∀p,G p=Aa->Q (.loc p) (Sc G p o):=λp j=>h p _ ⟨j,rfl⟩
def putO.at      (h:putO G a o Q):Q (Sc G a o):=h _ ⟨rfl⟩
structure En where
 nx:Sg->Gp->Prop
 rt:K1
 ex:XV->Sg->Gp->Prop
noncomputable def Gd  (G:Gp)(a:Ca):Option (List U):=match G a with
 |some (.lst xs)=>da xs
 |some (.fro xs)=>da xs
 |_=>Aa
noncomputable def kU  : U->Option Wb
 |.int i=>da (.inl i)
 |.str x=>da (.inr x)
 |_=>Aa
noncomputable def Bm  : List U->Option (List Wb)
 |[]=>da []
 |u::r=>match kU u,Bm r with
  |some k,da ks=>da (k::ks)
  |_,_=>Aa
noncomputable def Ku  : Wb->U
 |.inl i=>.int i
 |.inr x=>.str x
section
variable {κ α:Type}[DecidableEq κ]
noncomputable def dGet (kvs:List (κ×α))(k:κ):Option α:=(kvs.find? λj=>decide (j.1=k)).map (·.2)
noncomputable def dPut (kvs:List (κ×α))(k:κ)(v:α):List (κ×α):=
 if (kvs.any λj=>decide (j.1=k))=ma then kvs.map (λj=>if j.1=k then (j.1,v) else j) else kvs++[(k,v)]
def Om (j:List (κ×α)):List (κ×α):=j.foldl (λq y=>dPut q y.1 y.2) []
end
def cut  {q:Type}(xs:List q)(j y:Option Int):List q:=(xs.drop (HT.sIx xs.length 0 j)).take (HT.sIx xs.length xs.length y-HT.sIx xs.length 0 j)
mutual
inductive DU (G:Gp):U->Ua->Prop
 |non:DU G .non .none
 |bl (b:Bool):DU G (.bl b) (.bool b)
 |int (i:Int):DU G (.int i) (.int i)
 |str (x:Str):DU G (.str x) (.str x)
 |tup {us:List U} {ds:List Ua}:Vg G us ds->DU G (.tup us) (.tuple ds)
 |lst {a:Ca} {us:List U} {ds:List Ua}:Gd G a=da us->Vg G us ds->DU G (.loc a) (.list ds)
 |dic {a:Ca}:G a=da (.dK [])->DU G (.loc a) (.dict [])
inductive Vg (G:Gp):List U->List Ua->Prop
 |nil:Vg G [] []
 |cons {u:U} {d:Ua} {us:List U} {ds:List Ua}:DU G u d->Vg G us ds->Vg G (u::us) (d::ds)
end
def addU  : U->U->Gp->K1->Prop
 |.int i,.int j,G,Q=>Q (.int (i+j)) G
 |.str x,.str y,G,Q=>x.length+y.length<=db/\Q (.str (x++y)) G
 |.tup q,.tup z,G,Q=>q.length+z.length<=db/\Q (.tup (q++z)) G
 |.loc a,.loc b,G,Q=>∃q z,G a=da (.lst q)/\G b=da (.lst z)/\q.length+z.length<=db/\newO G (.lst (q++z)) Q
 |.bl b,.int j,G,Q=>Q (.int ((if b=ma then (1:Int) else 0)+j)) G
 |_,_,_,_=>False
def subU  : U->U->Gp->K1->Prop
 |.int i,.int j,G,Q=>Q (.int (i-j)) G
 |.bl b,.int j,G,Q=>Q (.int ((if b=ma then (1:Int) else 0)-j)) G
 |.int i,.bl b,G,Q=>Q (.int (i-if b=ma then (1:Int) else 0)) G
 |_,_,_,_=>False
def mulU  : U->U->Gp->K1->Prop
 |.int i,.int j,G,Q=>CMul i j/\Q (.int (i*j)) G
 |.loc a,.int k,G,Q=>∃q,G a=da (.lst q)/\-(2 ^ 63)<=k/\k<2 ^ 63/\q.length*k.toNat<=db/\newO G (.lst (Db k.toNat q).flatten) Q
 |.tup q,.int k,G,Q=>q≠[]/\0<=k/\k<2 ^ 62/\q.length*k.toNat<=db/\Q (.tup (Db k.toNat q).flatten) G
 |.str z,.int k,G,Q=>0<=k/\k<1000/\z.length<=1000/\Q (.str (repS z k.toNat)) G
 |_,_,_,_=>False
def HC  : U->U->Gp->K1->Prop
 |.int i,.int j,G,Q=>0<j/\j<1073741824/\Q (.int (i/j)) G
 |_,_,_,_=>False
def modU  : U->U->Gp->K1->Prop
 |.int i,.int j,G,Q=>0<j/\Q (.int (i%j)) G
 |_,_,_,_=>False
def powU  : U->U->Gp->K1->Prop
 |.int i,.int j,G,Q=>CPow i j/\Q (.int (i ^ j.toNat)) G
 |_,_,_,_=>False
def binU  : cn->U->U->Gp->K1->Prop
 |.Add=>addU
 |.Sub=>subU
 |.Mult=>mulU
 |.FloorDiv=>HC
 |.Mod=>modU
 |.Pow=>powU
 |_=>λ_ _ _ _=>False
def Em  : cn->U->U->Gp->K1->Prop
 |.Add,.int i,.int j,G,Q=>Q (.int (i+j)) G
 |.Add,.str x,.str y,G,Q=>x.length+y.length<=db/\Q (.str (x++y)) G
 |.Sub,.int i,.int j,G,Q=>Q (.int (i-j)) G
 |.Mult,.int i,.int j,G,Q=>CMul i j/\Q (.int (i*j)) G
 |_,_,_,_,_=>False
def negU  : U->Gp->K1->Prop
 |.int i,G,Q=>Q (.int (-i)) G
 |_,_,_=>False
def Small  (d:Ua):Prop:=d.canLay0=ma/\d.depth<=100
noncomputable def eqU  : U->U->Gp->(Bool->Prop)->Prop
 |.non,.non,_,k=>k ma
 |.non,.bl _,_,k=>k ua
 |.non,.int _,_,k=>k ua
 |.non,.str _,_,k=>k ua
 |.bl _,.non,_,k=>k ua
 |.bl a,.bl b,_,k=>k (decide (a=b))
 |.bl _,.str _,_,k=>k ua
 |.int _,.non,_,k=>k ua
 |.int i,.int j,_,k=>k (decide (i=j))
 |.int _,.str _,_,k=>k ua
 |.str _,.non,_,k=>k ua
 |.str _,.bl _,_,k=>k ua
 |.str _,.int _,_,k=>k ua
 |.str x,.str y,_,k=>k (decide (x=y))
 |x,y,G,k=>∃d e,DU G x d/\DU G y e/\Small d/\Small e/\k (Vd d e)
def yJ  : U->U->Gp->(Bool->Prop)->Prop
 |.loc a,.str y,G,k=>(∃j,G a=da (.dK j)/\k ua)\/(∃q,G a=da (.lst q)/\k ua)\/eqU (.loc a) (.str y) G k
 |.tup q,.tup [],_,k=>k q.isEmpty
 |.tup _,.str _,_,k=>k ua
 |x,y,G,k=>eqU x y G k
def qC  : U->U->Gp->(Bool->Prop)->Prop
 |.tup xs,.tup [],_,k=>k xs.isEmpty
 |.loc a,.loc b,G,k=>(∃j,G a=da (.lst j)/\G b=da (.lst [])/\k j.isEmpty)\/eqU (.loc a) (.loc b) G k
 |x,y,G,k=>eqU x y G k
def Oh  : U->U->(Bool->Prop)->Prop
 |.non,.non,k=>k ma
 |.bl a,.bl b,k=>k (decide (a=b))
 |.non,.bl _,k|.non,.int _,k|.non,.str _,k|.non,.tup _,k|.non,.loc _,k=>k ua
 |.bl _,.non,k|.int _,.non,k|.str _,.non,k|.tup _,.non,k|.loc _,.non,k=>k ua
 |.int _,.bl _,k|.str _,.bl _,k|.tup _,.bl _,k|.loc _,.bl _,k=>k ua
 |_,_,_=>False
noncomputable def flat  : U->Bool
 |.non|.bl _|.int _|.str _=>ma
 |_=>ua
noncomputable def Ui  : U->U->Bool
 |.non,.non=>ma
 |.bl a,.bl b=>a==b
 |.bl a,.int b=>(if a then 1 else 0)==b
 |.int a,.bl b=>a==(if b then 1 else 0)
 |.int a,.int b=>a==b
 |.str a,.str b=>a==b
 |_,_=>ua
noncomputable def Si  : List U->Option (List Str)
 |[]=>da []
 |.str x::r=>(match Si r with|some l=>da (x::l)|none=>Aa)
 |_=>Aa
def Ph  : U->U->Gp->(Bool->Prop)->Prop
 |.str x,.str y,_,k=>k (!(Hw y x 0 y.length 1).isEmpty)
 |.tup z,.tup ys,G,k=>((Si ys).isSome=ma/\k ua)\/∃d q,DU G (.tup z) d/\Vg G ys q/\Small d/\(∀e∈q,Small e)/\k (q.any λe=>Vd e d)
 |.loc a,.tup ys,G,k=>(Si ys).isSome=ma/\((∃z,G a=da (.lst z))\/∃j,G a=da (.dK j))/\k ua
 |x,.tup ys,_,k=>flat x=ma/\ys.all flat=ma/\k (ys.any λy=>Ui y x)
 |x,.loc a,G,k=>match G a with
  |some (.lst ys)=>(flat x=ma/\ys.all flat=ma/\k (ys.any λy=>Ui y x))\/
    ∃d q,DU G x d/\Vg G ys q/\Small d/\(∀e∈q,Small e)/\k (q.any λe=>Vd e d)
  |some (.fro ys)=>flat x=ma/\ys.all flat=ma/\k (ys.any λy=>Ui y x)
  |some (.dK j)=>match kU x with
   |some y=>k (dGet j y).isSome
   |none=>False
  |some (.dT j)=>match x with
   |.tup z=>match Bm z with
    |some y=>k (dGet j y).isSome
    |none=>False
   |_=>False
  |some (.frk _ j)=>match kU x with
   |some y=>k (dGet j y).isSome
   |none=>False
  |_=>False
 |_,_,_,_=>False
def ordU  : Dr->U->U->(Bool->Prop)->Prop
 |.Lt,.int i,.int j,k=>k (decide (i<j))
 |.LtE,.int i,.int j,k=>k (decide (i<=j))
 |.LtE,.str x,.str y,k=>k (!decide (y.cps.toList<x.cps.toList))
 |.Gt,.int i,.int j,k=>k (decide (j<i))
 |.GtE,.int i,.int j,k=>k (decide (j<=i))
 |_,_,_,_=>False
def cmpU  : Dr->U->U->Gp->(Bool->Prop)->Prop
 |.Eq,x,y,G,k=>yJ x y G k
 |.NotEq,x,y,G,k=>qC x y G λb=>k (!b)
 |.Is,x,y,_,k=>Oh x y k
 |.IsNot,x,y,_,k=>Oh x y λb=>k (!b)
 |.In,x,y,G,k=>Ph x y G k
 |.NotIn,x,y,G,k=>Ph x y G λb=>k (!b)
 |o,x,y,_,k=>ordU o x y k
def truU  : U->Gp->(Bool->Prop)->Prop
 |.non,_,k=>k ua
 |.bl b,_,k=>k b
 |.int i,_,k=>k (i != 0)
 |.str x,_,k=>x.length<=db/\k ((x.length:Int) != 0)
 |.tup xs,_,k=>k (!xs.isEmpty)
 |.loc a,G,k=>match G a with
  |some (.lst xs)=>k (!xs.isEmpty)
  |some (.fro xs)=>k (!xs.isEmpty)
  |some (.dK kvs)=>k (!kvs.isEmpty)
  |_=>False
 |_,_,_=>False
def Ce  : U->U->Gp->K1->Prop
 |.tup xs,.int i,G,Q=>match atI xs i with
  |some u=>Q u G
  |none=>False
 |.str x,.int i,G,Q=>x.length<=db/\match atI x.cps.toList i with
  |some c=>Q (.str ⟨#[c]⟩) G
  |none=>False
 |.loc a,y,G,Q=>match G a with
  |some (.lst xs)=>(match y with|.int i=>(match atI xs i with|some u=>Q u G|none=>False)|_=>False)
  |some (.fro xs)=>(match y with|.int i=>(match atI xs i with|some u=>Q u G|none=>False)|_=>False)
  |some (.dK kvs)=>(match kU y with|some k=>(match dGet kvs k with|some u=>Q u G|none=>False)|none=>False)
  |some (.dT kvs)=>(match y with|.tup ys=>(match Bm ys with|some k=>(match dGet kvs k with|some u=>Q u G|none=>False)|none=>False)|_=>False)
  |some (.frk _ kvs)=>(match kU y with|some k=>(match dGet kvs k with|some u=>Q u G|none=>False)|none=>False)
  |_=>False
 |_,_,_,_=>False
def Gh  : U->Option Int->Option Int->Gp->K1->Prop
 |.tup j,lo,hi,G,Q=>Q (.tup (cut j lo hi)) G
 |.str x,lo,hi,G,Q=>x.length<=db/\Q (.str (Rv x lo hi)) G
 |.loc a,lo,hi,G,Q=>match Gd G a with
  |some j=>newO G (.lst (cut j lo hi)) Q
  |none=>False
 |_,_,_,_,_=>False
def revU  : U->U->Gp->K1->Prop
 |.tup j,.int i,G,Q=>i=-1/\Q (.tup j.reverse) G
 |.loc a,.int i,G,Q=>match Gd G a with
  |some j=>(i=1\/i=-1)/\newO G (.lst (if i=1 then j else j.reverse)) Q
  |none=>False
 |_,_,_,_=>False
def setU  : U->U->U->Gp->(Gp->Prop)->Prop
 |.loc a,y,v,G,Q=>match G a with
  |some (.lst xs)=>(match y with|.int i=>(match Ag xs.length i with|some j=>putO G a (.lst (xs.set j v)) Q|none=>False)|_=>False)
  |some (.dK kvs)=>(match kU y with|some k=>kvs.length<db/\putO G a (.dK (dPut kvs k v)) Q|none=>False)
  |some (.dT kvs)=>(match y with|.tup ys=>(match Bm ys with|some k=>kvs.length<db/\putO G a (.dT (dPut kvs k v)) Q|none=>False)|_=>False)
  |_=>False
 |_,_,_,_,_=>False
inductive Blt|len|repr|min|max|sum|all|any|sorted|int|str|isi
 deriving DecidableEq
inductive Mth|append|extend|insert|pop|reverse|index|join|get|split|setd|clear|count|upper
 deriving DecidableEq
noncomputable def ik  : List U->Option (List Int)
 |[]=>da []
 |.int i::r=>(match ik r with|some l=>da (i::l)|none=>Aa)
 |_=>Aa
noncomputable def Mm  : List U->Option (List Bool)
 |[]=>da []
 |.bl x::r=>(match Mm r with|some l=>da (x::l)|none=>Aa)
 |_=>Aa
noncomputable def Er  : U->Gp->Option String
 |.non,_=>da "NoneType"
 |.bl _,_=>da "bool"
 |.int _,_=>da "int"
 |.str _,_=>da "str"
 |.tup _,_=>da "tuple"
 |.loc a,G=>match G a with
  |some (.lst _)=>da "list"
  |some (.dK _)=>da "dict"
  |some (.dT _)=>da "dict"
  |_=>Aa
 |_,_=>Aa
def isiU  (x:U)(G:Gp)(t:String):Option Bool:=match Er x G with
 |some n=>if t∈["bool", "int", "str", "list", "tuple", "dict"] then da (n==t||(n == "bool" && t == "int")) else Aa
 |none=>Aa
def lenU  : List U->Gp->K1->Prop
 |[.tup xs],G,Q=>Q (.int xs.length) G
 |[.str x],G,Q=>x.length<=db/\Q (.int x.length) G
 |[.loc a],G,Q=>(match G a with
  |some (.lst xs)=>Q (.int xs.length) G
  |some (.fro xs)=>Q (.int xs.length) G
  |some (.dK kvs)=>Q (.int kvs.length) G
  |_=>False)
 |_,_,_=>False
def sj  : List U->Gp->K1->Prop
 |[u],G,Q=>∃d,DU G u d/\Fits 16000000 60 d/\Q (.str d.shown) G
 |_,_,_=>False
def minU  : List U->Gp->K1->Prop
 |[.int i,.int j],G,Q=>Q (.int (if j<i then j else i)) G
 |_,_,_=>False
def yC  (xs:List U)(G:Gp)(Q:K1):Prop:=match ik xs with
 |some j=>j≠[]/\∀z∈j,(∀y∈j,y<=z)->Q (.int z) G
 |none=>False
def maxU  : List U->Gp->K1->Prop
 |[.int i,.int j],G,Q=>Q (.int (if j>i then j else i)) G
 |[.loc a],G,Q=>(match G a with
  |some (.lst xs)=>yC xs G Q
  |_=>False)
 |[.tup xs],G,Q=>yC xs G Q
 |_,_,_=>False
def sumU  : List U->Gp->K1->Prop
 |[.loc a],G,Q=>(match G a with
  |some (.lst xs)=>(match ik xs with|some ns=>Q (.int ns.sum) G|none=>False)
  |_=>False)
 |_,_,_=>False
def allU  : List U->Gp->K1->Prop
 |[.loc a],G,Q=>(match G a with
  |some (.lst xs)=>(match Mm xs with|some bs=>Q (.bl (bs.all id)) G|none=>False)
  |_=>False)
 |_,_,_=>False
def intU  : List U->Gp->K1->Prop
 |[.int i],G,Q=>Q (.int i) G
 |[.bl b],G,Q=>Q (.int (if b then 1 else 0)) G
 |[.str z],G,Q=>∃n,PySem.intText? z=da n/\z.length<=640/\Q (.int n) G
 |_,_,_=>False
def Gm  : List U->Gp->K1->Prop
 |[x,.ty t],G,Q=>(match isiU x G t with|some b=>Q (.bl b) G|none=>False)
 |_,_,_=>False
def Zn  : List U->Gp->K1->Prop
 |[.loc a],G,Q=>(match G a with
  |some (.lst us)=>∃j:List (List Int),j.Nodup/\us.length<Nh/\us.length=j.length/\((∃q:List Int,us=q.map .int/\j=q.map λn=>[n])\/(∃I:List Ca,us=I.map .loc/\∀(i:Nat) a k,I[i]?=da a->j[i]?=da k->G a=da (.lst (k.map .int)))\/us=j.map (λk=>.tup (k.map .int))/\∀k∈j,k≠[])/\
    ∀y:List Nat,y.Perm (Ge us.length)->(∀i,i+1<us.length->HT.lexLt (j.getD (y.getD i 0) []) (j.getD (y.getD (i+1) 0) [])=ma)->newO G (.lst (y.map λi=>us.getD i .non)) Q
  |some (.dK kvs)=>∃q:List Int,kvs.map (·.1)=q.map (λz=>(bc z:Wb))/\q.length<Nh/\∀F:List Int,F.Perm q->F.Pairwise (·< ·)->newO G (.lst (F.map .int)) Q
  |_=>False)
 |_,_,_=>False
def mkDU  : U->Gp->K1->Prop
 |.loc a,G,Q=>(match G a with
  |some (.dK kvs)=>∃j:List Int,kvs.map (·.1)=j.map (λz=>(bc z:Wb))/\newO G (.lst (j.map .int)) Q
  |_=>False)
 |_,_,_=>False
def bltU  : Blt->List U->Gp->K1->Prop
 |.len=>lenU
 |.repr=>sj
 |.min=>minU
 |.max=>λ_ _ _=>False
 |.sum=>sumU
 |.all=>allU
 |.any=>λ_ _ _=>False
 |.sorted=>Zn
 |.int=>intU
 |.str=>λ_ _ _=>False
 |.isi=>Gm
def Ey  : U->List U->Gp->K1->Prop
 |.loc a,[v],G,Q=>(match G a with
  |some (.lst xs)=>xs.length<db/\putO G a (.lst (xs++[v])) (Q .non)
  |_=>False)
 |_,_,_,_=>False
def Iy  : U->List U->Gp->K1->Prop
 |.loc a,[.loc b],G,Q=>(match G a,G b with
  |some (.lst xs),da (.lst ys)=>xs.length+ys.length<=db/\putO G a (.lst (xs++ys)) (Q .non)
  |_,_=>False)
 |_,_,_,_=>False
def popU  : U->List U->Gp->K1->Prop
 |.loc a,[],G,Q=>(match G a with
  |some (.lst xs)=>(match xs[xs.length-1]? with|some v=>putO G a (.lst xs.dropLast) (Q v)|none=>False)
  |_=>False)
 |.loc a,[.int i],G,Q=>(match G a with
  |some (.lst xs)=>-(2 ^ 63)<=i/\i<2 ^ 63/\(match Pv i xs.length with
   |some k=>(match xs[k]? with|some v=>putO G a (.lst (xs.eraseIdx k)) (Q v)|none=>False)
   |none=>False)
  |_=>False)
 |_,_,_,_=>False
def Mu  : U->List U->Gp->K1->Prop
 |.tup xs,[.str n],G,Q=>(match Si xs with|some ys=>n∈ys/\Q (.int (ys.idxOf n)) G|none=>False)
 |.loc a,[.str n],G,Q=>(match G a with
  |some (.lst xs)=>(match Si xs with|some ys=>n∈ys/\Q (.int (ys.idxOf n)) G|none=>False)
  |_=>False)
 |_,_,_,_=>False
def getU  : U->List U->Gp->K1->Prop
 |.loc a,[y,d],G,Q=>(match G a with
  |some (.dK kvs)=>(match kU y with
   |some k=>Q ((dGet kvs k).getD d) G
   |none=>False)
  |some (.dT kvs)=>∃k:List Wb,y=.tup (k.map Ku)/\Q ((dGet kvs k).getD d) G
  |_=>False)
 |_,_,_,_=>False
def Td  : Mth->U->List U->Gp->K1->Prop
 |.append=>Ey
 |.extend=>Iy
 |.insert=>λ_ _ _ _=>False
 |.pop=>popU
 |.reverse=>λ_ _ _ _=>False
 |.index=>Mu
 |.join=>λ_ _ _ _=>False
 |.get=>getU
 |.split=>λ_ _ _ _=>False
 |.setd=>λ_ _ _ _=>False
 |.clear=>λ_ _ _ _=>False
 |.count=>λ_ _ _ _=>False
 |.upper=>λ_ _ _ _=>False
noncomputable def Ie  : Mth->U->Gp->Option (String×String)
 |.append,x,G=>(match x with|.loc a=>(match G a with|some (.lst _)=>da ("list", "list.append")|_=>Aa)|_=>Aa)
 |.extend,x,G=>(match x with|.loc a=>(match G a with|some (.lst _)=>da ("list", "list.extend")|_=>Aa)|_=>Aa)
 |.insert,_,_=>Aa
 |.pop,x,G=>(match x with|.loc a=>(match G a with|some (.lst _)=>da ("list", "list.pop")|_=>Aa)|_=>Aa)
 |.reverse,_,_=>Aa
 |.index,x,G=>(match x with|.loc a=>(match G a with|some (.lst _)=>da ("list", "list.index")|_=>Aa)|.tup _=>da ("tuple", "tuple.index")|_=>Aa)
 |.join,_,_=>Aa
 |.get,x,G=>(match x with|.loc a=>(match G a with|some (.dK _)=>da ("dict", "dict.get")|some (.dT _)=>da ("dict", "dict.get")|_=>Aa)|_=>Aa)
 |.split,_,_=>Aa
 |.setd,_,_=>Aa
 |.clear,_,_=>Aa
 |.count,_,_=>Aa
 |.upper,_,_=>Aa
noncomputable def clsA  : List (Str×List Str):=[("PlanError",[]),("NoPaper",["word", "at"]),("TooMany",["word"]),("NoRing",["word"]),("NoText",["row", "word"]),("NoRow",["row"])]
def clsN  (c:Nat):Str:=(clsA.getD c ("",[])).1
def clsF  (c:Nat):List Str:=(clsA.getD c ("",[])).2
inductive HL where
 |is1 (c:Nat)|isi (cs:List Nat)|isiV|v (i:Nat)
inductive HA where
 |str (x:Str)|att (f:Str)
inductive HV where
 |cond (k:Bool) (a:Bool×HL) (as:List (Bool×HL))|one (a:HA)|bl (b:Bool)|tup (as:List HA)|lst (as:List HA)
inductive HS where
 |asg (i:Nat) (e:HV)|ifa (k:Bool) (a:Bool×HL) (as:List (Bool×HL)) (i:Nat) (e:HV)
section
variable (x:XV)
noncomputable def litH (q:Sg):HL->Option Bool
 |.is1 c=>da (decide (x.c=c))
 |.isi j=>da (j.contains x.c)
 |.isiV=>da ma
 |.v i=>match q[i]? with
  |some (da (.bl b))=>da b
  |_=>Aa
def lit1 (j:Sg)(p:Bool×HL):Option Bool:=match litH x j p.2 with
 |some b=>da (if p.1=ma then !b else b)
 |none=>Aa
noncomputable def gy (j:Sg)(k:Bool):Bool×HL->List (Bool×HL)->Option Bool
 |a,[]=>lit1 x j a
 |a,b::r=>match lit1 x j a with
  |some t=>if t=k then gy j k b r else da t
  |none=>Aa
def AJ:HA->Option U
 |.str y=>da (.str y)
 |.att f=>((clsF x.c).zip x.fs).lookup f
noncomputable def atsH:List HA->Option (List U)
 |[]=>da []
 |a::r=>match AJ x a,atsH r with
  |some u,da us=>da (u::us)
  |_,_=>Aa
def vJ (q:Sg):HV->Gp->K1->Prop
 |.cond k a as,G,Q=>match gy x q k a as with
  |some b=>Q (.bl b) G
  |none=>False
 |.one a,G,Q=>match AJ x a with
  |some u=>Q u G
  |none=>False
 |.bl b,G,Q=>Q (.bl b) G
 |.tup as,G,Q=>match atsH x as with
  |some j=>Q (.tup j) G
  |none=>False
 |.lst as,G,Q=>match atsH x as with
  |some j=>newO G (.lst j) Q
  |none=>False
def Lv:List HS->Sg->Gp->(Sg->Gp->Prop)->Prop
 |[],ς,G,k=>k ς G
 |.asg i e::r,ς,G,k=>vJ x ς e G λu j=>Lv r (ς.set i (da u)) j k
 |.ifa q a as i e::r,ς,G,k=>match gy x ς q a as with
  |some ma=>vJ x ς e G λu j=>Lv r (ς.set i (da u)) j k
  |some ua=>Lv r ς G k
  |none=>False
end
mutual
inductive Tg where
 |n (i:Nat)|t (ts:Dh)
inductive Dh where
 |nil|cons (t:Tg) (ts:Dh)
end
mutual
inductive E where
 |v (i:Nat)|non|bl (b:Bool)|int (i:Int)|str (x:Str)|g (n:Nat)|bin (o:cn) (a b:E)|neg (a:E)|not (a:E)|bop (k:Bool) (a:E) (es:Es)|cmp (o:Dr) (a b:E)|cmp2 (o p:Dr) (a b c:E)|ife (c a b:E)|tup (es:Es)|lst (es:Es)|dic (es:Es)|ix (a b:E)|sl (a:E) (lo hi:Eo)|rev (a st:E)|call (n:Nat) (es:Es)|app (i:Nat) (es:Es)|blt (b:Blt) (es:Es)|meth (m:Mth) (o:E) (es:Es)|ty (n:String)|lc (pick:List (Option Nat)) (t:Tg) (it:It) (ifs:Es) (e:E)|mkL (e:E)|mkT (e:E)|mkD (e:E)
inductive Eo where
 |no|so (e:E)
inductive Es where
 |nil|cons (e:E) (es:Es)
inductive It where
 |e (e:E)|r1 (e:E)|enum (e:E)|dv (e:E)|di (e:E)
end
mutual
inductive S where
 |expr (e:E)|asg (t:Tg) (e:E)|asgC (i:Nat) (e:E)|setS (o i e:E)|par (is:List Nat) (es:Es)|aug (i:Nat) (o:cn) (e:E)|ite (c:E) (a b:Ss)|fr (t:Tg) (it:It) (b:Ss)|wh (c:E) (b:Ss)|ret (e:E)|never
inductive Ss where
 |nil|cons (s:S) (ss:Ss)
end
mutual
noncomputable def Lc:Tg->U->Sg->(Sg->Prop)->Prop
 |.n i,u,ς,k=>k (ς.set i (da u))
 |.t ts,u,ς,k=>match u with
  |.tup j=>tgsU ts j ς k
  |_=>False
noncomputable def tgsU:Dh->List U->Sg->(Sg->Prop)->Prop
 |.nil,us,ς,k=>us=[]/\k ς
 |.cons t ts,us,ς,k=>match us with
  |[]=>False
  |u::r=>Lc t u ς λj=>tgsU ts r j k
end
abbrev Cl:=Nat->List U->Gp->K1->KX->Prop
def slot  (j:Sg)(i:Nat)(k:U->Prop):Prop:=match j[i]? with
 |some (da u)=>k u
 |_=>False
noncomputable def ph  (pick:List (Option Nat))(q:Sg):Sg:=pick.map λo=>o.bind λj=>(q[j]?).join
def Ri  (ok:Gp->Prop)(b:U->Gp->(Option U->Gp->Prop)->Prop):List U->List U->Gp->(List U->Gp->Prop)->Prop
 |[],acc,G,k=>ok G/\k acc G
 |x::xs,acc,G,k=>ok G/\b x G λo j=>Ri ok b xs (match o with|some u=>acc++[u]|none=>acc) j k
def forL  (ok:Gp->Prop)(b:U->Sg->Gp->(Sg->Gp->Prop)->Prop):List U->Sg->Gp->(Sg->Gp->Prop)->Prop
 |[],ς,G,k=>ok G/\k ς G
 |x::xs,ς,G,k=>ok G/\b x ς G λj q=>forL ok b xs j q k
noncomputable def rngU  (i:Int)(n:Nat):List U:=(Ge n).map λk:Nat=>.int (i+k)
noncomputable def uj  : Nat->List U->List U
 |_,[]=>[]
 |n,u::r=>.tup [.int n,u]::uj (n+1) r
def Lf  : U->Gp->(List U->(Gp->Prop)->Prop)->Prop
 |.tup j,_,k=>k j λ_=>True
 |.loc a,G,k=>match Gd G a with
  |some j=>k j λq=>Gd q a=da j
  |none=>False
 |_,_,_=>False
def Dq  : U->Gp->(List U->(Gp->Prop)->Prop)->Prop
 |.tup j,_,k=>k (uj 0 j) λ_=>True
 |.loc a,G,k=>match Gd G a with
  |some j=>k (uj 0 j) λq=>Gd q a=da j
  |none=>False
 |_,_,_=>False
def Kh  (f:List (Wb×U)->List U):U->Gp->(List U->(Gp->Prop)->Gp->Prop)->Prop
 |.loc a,G,Q=>match G a with
  |some (.dK kvs)=>∀o j,Mg G a (.frk o kvs) j->Q (f kvs) (λj=>j a=da (.frk o kvs)) j
  |some (.frk o kvs)=>Q (f kvs) (λj=>j a=da (.frk o kvs)) G
  |_=>False
 |_,_,_=>False
noncomputable def mi  (kvs:List (Wb×U)):List U:=kvs.map (·.2)
def Ck  (kvs:List (Wb×U)):List U:=kvs.map λp=>.tup [Ku p.1,p.2]
def fpU  : U->(Str->Prop)->Prop
 |.str z,k=>z.length<=10000/\k z
 |.int i,k=>i.natAbs.log2<1920/\k (toString i:String)
 |_,_=>False
def Gk  (gs:List U)(n:Nat)(k:U->Prop):Prop:=match gs[n]? with
 |some u=>k u
 |none=>False
abbrev UE:=Sg->Gp->K1->KX->Prop
abbrev UT:=Sg->Gp->(Bool->Gp->Prop)->KX->Prop
abbrev UA:=Sg->Gp->(List U->Gp->Prop)->KX->Prop
def truT  (t:UE):UT:=λq G Q X=>t q G (λx j=>truU x j λb=>Q b j) X
noncomputable abbrev tp  (t:UE):UE×UT:=(t,truT t)
noncomputable def comb  : Bool->UE×UT->UE×UT->UE×UT
 |true,p,q=>(λy G Q X=>p.1 y G (λx j=>truU x j λc=>if c=ma then q.1 y j Q X else Q x j) X,λy G Q X=>p.2 y G (λc j=>if c=ma then q.2 y j Q X else Q ua j) X)
 |false,p,q=>(λy G Q X=>p.1 y G (λx j=>truU x j λc=>if c=ma then Q x j else q.1 y j Q X) X,λy G Q X=>p.2 y G (λc j=>if c=ma then Q ma j else q.2 y j Q X) X)
section
variable (gs:List U)(Δ:Cl)
mutual
noncomputable def Ra:E->UE×UT
 |.v i=>tp λj G Q _=>slot j i λu=>Q u G
 |.non=>tp λ_ G Q _=>Q .non G
 |.bl b=>tp λ_ G Q _=>Q (.bl b) G
 |.int i=>tp λ_ G Q _=>Q (.int i) G
 |.str x=>tp λ_ G Q _=>Q (.str x) G
 |.g n=>tp λ_ G Q _=>Gk gs n λu=>Q u G
 |.bin o a b=>tp λj G Q X=>(Ra a).1 j G (λx q=>(Ra b).1 j q (λy F=>binU o x y F Q) X) X
 |.neg a=>tp λj G Q X=>(Ra a).1 j G (λx q=>negU x q Q) X
 |.not a=>(λj G Q X=>(Ra a).1 j G (λx q=>truU x q λb=>Q (.bl (!b)) q) X,
   λj G Q X=>(Ra a).2 j G (λb q=>Q (!b) q) X)
 |.bop k a I=>denB k (Ra a) I
 |.cmp o a b=>tp λj G Q X=>(Ra a).1 j G (λx q=>(Ra b).1 j q (λy F=>cmpU o x y F λc=>Q (.bl c) F) X) X
 |.cmp2 o p a b c=>tp λj G Q X=>(Ra a).1 j G (λx q=>(Ra b).1 j q (λy F=>cmpU o x y F λt=>if t=ma then (Ra c).1 j F (λz O=>cmpU p y z O λt'=>Q (.bl t') O) X else Q (.bl ua) F) X) X
 |.ife c a b=>(λj G Q X=>(Ra c).2 j G (λt q=>if t=ma then (Ra a).1 j q Q X else (Ra b).1 j q Q X) X,
   λj G Q X=>(Ra c).2 j G (λt q=>if t=ma then (Ra a).2 j q Q X else (Ra b).2 j q Q X) X)
 |.tup I=>tp λj G Q X=>Nd I j G (λJ q=>J.length<=db/\Q (.tup J) q) X
 |.lst I=>tp λj G Q X=>Nd I j G (λJ q=>J.length<=db/\newO q (.lst J) Q) X
 |.dic I=>tp λj G Q X=>denD I j G (λY q=>Y.length<=15/\newO q (.dK (Om Y)) Q) X
 |.ix a b=>tp λj G Q X=>(Ra a).1 j G (λx q=>(Ra b).1 j q (λy F=>Ce x y F Q) X) X
 |.sl a lo hi=>tp λj G Q X=>(Ra a).1 j G (λx q=>denO lo j q (λl F=>denO hi j F (λh O=>Gh x l h O Q) X) X) X
 |.rev a b=>tp λj G Q X=>(Ra a).1 j G (λx q=>(Ra b).1 j q (λy F=>revU x y F Q) X) X
 |.call n I=>tp λj G Q X=>Nd I j G (λJ q=>Δ n J q Q X) X
 |.app _ _=>tp λ_ _ _ _=>False
 |.blt b I=>tp λj G Q X=>Nd I j G (λJ q=>bltU b J q Q) X
 |.meth m o I=>tp λj G Q X=>(Ra o).1 j G (λx q=>match Ie m x q with
   |some _=>Nd I j q (λJ F=>Td m x J F Q) X
   |none=>False) X
 |.ty n=>tp λ_ G Q _=>Q (.ty n) G
 |.lc pick t it Z e=>tp λj G Q X=>denI it j G (λR ok q=>R.length<=db/\Ri ok (λx F k=>Lc t x (ph pick j) λτ=>denC Z τ F (λb O=>if b=ma then (Ra e).1 τ O (λu G4=>k (da u) G4) (λ_ _=>False) else k Aa O)) R [] q
   λJ G5=>newO G5 (.lst J) Q) X
 |.mkD e=>tp λj G Q X=>(Ra e).1 j G (λx q=>mkDU x q Q) X
 |.mkL e=>tp λj G Q X=>(Ra e).1 j G (λx q=>Lf x q λR _=>newO q (.lst R) Q) X
 |.mkT e=>tp λj G Q X=>(Ra e).1 j G (λx q=>Lf x q λR _=>Q (.tup R) q) X
noncomputable def denB (k:Bool)(p:UE×UT):Es->UE×UT
 |.nil=>p
 |.cons e j=>comb k p (denB k (Ra e) j)
noncomputable def denC:Es->Sg->Gp->(Bool->Gp->Prop)->Prop
 |.nil,_,G,Q=>Q ma G
 |.cons e es,ς,G,Q=>(Ra e).2 ς G (λb j=>if b=ma then denC es ς j Q else Q ua j) (λ_ _=>False)
noncomputable def denO:Eo->Sg->Gp->(Option Int->Gp->Prop)->KX->Prop
 |.no,_,G,Q,_=>Q Aa G
 |.so e,ς,G,Q,X=>(Ra e).1 ς G (λx j=>match x with|.int i=>Q (da i) j|_=>False) X
noncomputable def Nd:Es->Sg->Gp->(List U->Gp->Prop)->KX->Prop
 |.nil,_,G,Q,_=>Q [] G
 |.cons e es,ς,G,Q,X=>(Ra e).1 ς G (λx j=>Nd es ς j (λq y=>Q (x::q) y) X) X
noncomputable def denF:Es->Sg->Gp->(List Str->Gp->Prop)->KX->Prop
 |.nil,_,G,Q,_=>Q [] G
 |.cons e es,ς,G,Q,X=>(Ra e).1 ς G (λx j=>fpU x λz=>denF es ς j (λy q=>Q (z::y) q) X) X
noncomputable def denD:Es->Sg->Gp->(List (Wb×U)->Gp->Prop)->KX->Prop
 |.nil,_,G,Q,_=>Q [] G
 |.cons e (.cons f es),ς,G,Q,X=>(Ra e).1 ς G (λx q=>(Ra f).1 ς q (λy z=>match kU x with
   |some k=>denD es ς z (λj F=>Q ((k,y)::j) F) X
   |none=>False) X) X
 |.cons _ .nil,_,_,_,_=>False
noncomputable def denI:It->Sg->Gp->(List U->(Gp->Prop)->Gp->Prop)->KX->Prop
 |.e e,ς,G,Q,X=>(Ra e).1 ς G (λx q=>Lf x q λy ok=>Q y ok q) X
 |.r1 e,ς,G,Q,X=>(Ra e).1 ς G (λx q=>match x with
   |.int j=>-(2 ^ 62)<=j/\j<2 ^ 62/\Q (rngU 0 j.toNat) (λ_=>True) q
   |_=>False) X
 |.enum e,ς,G,Q,X=>(Ra e).1 ς G (λx q=>Dq x q λy ok=>Q y ok q) X
 |.dv e,ς,G,Q,X=>(Ra e).1 ς G (λx q=>Kh mi x q Q) X
 |.di e,ς,G,Q,X=>(Ra e).1 ς G (λx q=>Kh Ck x q Q) X
end
def denE (e:E):UE:=(Ra gs Δ e).1
def denT (e:E):UT:=(Ra gs Δ e).2
mutual
noncomputable def denS:S->En->Sg->Gp->Prop
 |.expr e,D,ς,G=>denE gs Δ e ς G (λ_ j=>D.nx ς j) λx j=>D.ex x ς j
 |.asg t e,D,ς,G=>denE gs Δ e ς G (λu j=>Lc t u ς λI=>D.nx I j) λx j=>D.ex x ς j
 |.asgC i e,D,ς,G=>denE gs Δ e ς G (λu j=>D.nx (ς.set i (da u)) j) λx j=>D.ex x ς j
 |.setS o i e,D,ς,G=>denE gs Δ e ς G (λv j=>denE gs Δ o ς j (λx F=>denE gs Δ i ς F (λy G3=>setU x y v G3 λZ=>D.nx ς Z) λx j=>D.ex x ς j) λx j=>D.ex x ς j) λx j=>D.ex x ς j
 |.par is es,D,ς,G=>Nd gs Δ es ς G (λO j=>O.length=is.length/\D.nx ((is.zip O).foldl (λs p=>s.set p.1 (da p.2)) ς) j) λx j=>D.ex x ς j
 |.aug i o e,D,ς,G=>slot ς i λx=>denE gs Δ e ς G (λy j=>Em o x y j λz F=>D.nx (ς.set i (da z)) F) λx j=>D.ex x ς j
 |.ite c a b,D,ς,G=>denT gs Δ c ς G (λt j=>if t=ma then Tc a D ς j else Tc b D ς j) λx j=>D.ex x ς j
 |.fr t it b,D,ς,G=>denI gs Δ it ς G (λY ok j=>forL ok (λx q F k=>Lc t x q λJ=>Tc b { D with nx:=k } J F) Y ς j D.nx) λx j=>D.ex x ς j
 |.wh c b,D,ς,G=>∃W:Nat->Sg->Gp->Prop,(∃m,W m ς G)/\∀m q j,W m q j->
   denT gs Δ c q j (λt F=>if t=ma then Tc b { D with nx:=λI G'=>∃R,R<m/\W R I G' } q F else D.nx q F) λx j=>D.ex x q j
 |.ret e,D,ς,G=>denE gs Δ e ς G D.rt λx j=>D.ex x ς j
 |.never,_,_,_=>False
noncomputable def Tc:Ss->En->Sg->Gp->Prop
 |.nil,D,ς,G=>D.nx ς G
 |.cons s ss,D,ς,G=>denS s { D with nx:=λj q=>Tc ss D j q } ς G
end
end
structure Fun where
 name:Str
 ps:List Str
 N:List Str
 body:Ss
structure dC where
 P:Ca
 ff:Nat
 vi:Nat
 fi:Nat
 si:Nat
 caps:List Nat
 fni:Nat
 fn:Str
 as':List Str
 sn:Str
 e1:E
 e2:E
structure Le where
 funs:List Fun
 gs:List U
 gn:List Str:=[]
 cs:List Nat:=[]
 vf:List Fun:=[]
 ns:List (Nat×dC):=[]
noncomputable def Ub  (n:Nat)(us:List U):Sg:=us.map da++Db (n-us.length) Aa
def Va  (T:Le):Nat->Cl
 |0,_,_,_,_,_=>False
 |k+1,n,us,G,Q,X=>match (T.funs++T.vf)[n]? with
  |some d=>us.length=d.ps.length/\Tc T.gs (Va T k) d.body ⟨λ_ j=>Q .non j,Q,λx _ j=>X x j⟩ (Ub d.N.length us) G
  |none=>False
mutual
noncomputable def RU (K:Eb)(H:Hp):U->V->Prop
 |.non,v=>v=.non
 |.bl b,v=>v=.bl b
 |.int i,v=>v=.int i
 |.str x,v=>v=.str x
 |.tup xs,v=>∃a j,v=.ref a/\H a=da (.tup j)/\Kb K H xs j
 |.loc a,v=>v=.ref a
 |.fn _,_=>False
 |.ty n,v=>v=.ty n
 |.exc _ _,_=>False
 |.own _,_=>False
 |.clo _ _,_=>False
noncomputable def Kb (K:Eb)(H:Hp):List U->List V->Prop
 |[],vs=>vs=[]
 |u::us,vs=>∃v j,vs=v::j/\RU K H u v/\Kb K H us j
end
def Bd  {κ:Type}(K:Eb)(H:Hp):List (κ×U)->List (κ×V)->Prop
 |[],l=>l=[]
 |(k,u)::r,l=>∃v j,l=(k,v)::j/\RU K H u v/\Bd K H r j
def Uj  (K:Eb)(H:Hp)(a:Ca):MO->Prop
 |.lst y=>∃q,H a=da (.lst q)/\Kb K H y q
 |.fro y=>∃o q,H a=da (.frz o (.lst q))/\Kb K H y q
 |.dK j=>∃l,H a=da (.dK l)/\Bd K H j l
 |.dT j=>∃l,H a=da (.dT l)/\Bd K H j l
 |.frd o j=>∃l,H a=da (.frz o (.dT l))/\Bd K H j l
 |.frk o j=>∃l,H a=da (.frz o (.dK l))/\Bd K H j l
noncomputable def tabs  : List (Ca×Pos×Str):=[(335,⟨251,4,252,68⟩,("lets_none_with" : Str) ++ ".<locals>." ++ "fault_of")]
def uk  (H:Hp):Prop:=∀t∈tabs,QD H t.1 t.2.1 t.2.2
structure HR (K:Eb)(H:Hp)(G:Gp):Prop where
 mo:∀a o,G a=da o->Uj K H a o
 tab:uk H
instance {K:Eb} {H:Hp} {G:Gp}:CoeFun (HR K H G) λ_=>∀a o,G a=da o->Uj K H a o:=⟨HR.mo⟩
noncomputable def noTb  : HO->Bool
 |.tbl _=>ua
 |_=>ma
structure Fr (H:Hp)(G:Gp)(H':Hp)(G':Gp):Prop where
 go:∀a o,H a=da o->G a=Aa->(nt:noTb o=ma:=by rfl)->H' a=da o/\G' a=Aa
instance {H H':Hp} {G G':Gp}:CoeFun (Fr H G H' G') λ_=>∀a o,H a=da o->G a=Aa->(nt:noTb o=ma:=by rfl)->H' a=da o/\G' a=Aa:=⟨@Fr.go H G H' G'⟩
def SR  (K:Eb)(H:Hp)(q:Sg)(j:St):Prop:=q.length=j.length/\∀(i:Nat) (u:U),q[i]?=da (da u)->∃v,j[i]?=da (da v)/\RU K H u v
section
variable {K:Eb}{H H' H1 H2:Hp}{G G' G1 G2:Gp}
def Fr.refl   H G:Fr H G H G:=⟨λ_ _ h g _=>⟨h,g⟩⟩
def Fr.trans  (a:Fr H G H1 G1)(b:Fr H1 G1 H2 G2):Fr H G H2 G2:=⟨λc o h g j=>let ⟨q,y⟩:=a c o h g j;b c o q y j⟩
structure TS (H H':Hp):Prop where
 tup:∀a xs,H a=da (.tup xs)->H' a=da (.tup xs)
 cod:∀a o,H a=da (frzC o)->H' a=da (frzC o)
instance:CoeFun (TS H H') λ_=>∀a xs,H a=da (.tup xs)->H' a=da (.tup xs):=⟨TS.tup⟩
def TS.trans  (a:TS H H1)(b:TS H1 H2):TS H H2:=⟨λc j h=>b.tup c j (a.tup c j h),λc o h=>b.cod c o (a.cod c o h)⟩
mutual
theorem RU.ts (t:TS H H'):∀{u:U} {v:V},RU K H u v->RU K H' u v
 |.non,_,h=>h
 |.bl _,_,h=>h
 |.int _,_,h=>h
 |.str _,_,h=>h
 |.tup xs,_,h=>by
  obtain⟨a,j,e,q,r⟩:=h
  exact⟨a,j,e,t _ _ q,Kb.ts t r⟩
 |.loc _,_,h=>h
 |.fn _,_,h=>h
 |.ty _,_,h=>h
 |.exc _ _,_,h=>h
 |.own _,_,h=>h
 |.clo _ _,_,h=>h
theorem Kb.ts (t:TS H H'):∀{us:List U} {vs:List V},Kb K H us vs->Kb K H' us vs
 |[],_,h=>h
 |_::_,_,h=>by
  obtain⟨v,j,e,r,q⟩:=h
  exact⟨v,j,e,RU.ts t r,Kb.ts t q⟩
end
theorem Bd.ts   (t:TS H H'):∀{kvs:List (κ×U)} {l },Bd K H kvs l->Bd K H' kvs l
 |[],_,h=>h
 |(_,_)::_,_,h=>by
  obtain⟨v,j,e,r,q⟩:=h;exact⟨v,j,e,r.ts t,Bd.ts t q⟩
def SR.ts    (t:TS H H')(h:SR K H j σ):SR K H' j σ:=⟨h.1,λi u e=>let ⟨v,q,r⟩:=h.2 i u e;⟨v,q,r.ts t⟩⟩
def HR.tupNone  (h:HR K H G)(e:H a=da (.tup xs)):G a=Aa:=by
 cases q:G a with
 |none=>rfl
 |some o=>
  have m:=h a o q;cases o with
  |lst y=>obtain⟨_,j,_⟩:=m;lia
  |fro y=>obtain⟨_,_,j,_⟩:=m;lia
  |dK y=>obtain⟨_,j,_⟩:=m;lia
  |dT y=>obtain⟨_,j,_⟩:=m;lia
  |frd _ y=>obtain⟨_,j,_⟩:=m;lia
  |frk _ y=>obtain⟨_,j,_⟩:=m;lia
def HR.codNone  (h:HR K H G)(e:H a=da (frzC F)):G a=Aa:=by
 cases q:G a with
 |none=>rfl
 |some o=>
  have m:=h a o q;cases o with
  |lst y=>obtain⟨_,j,_⟩:=m;lia
  |fro y=>obtain⟨_,_,j,_⟩:=m;lia
  |dK y=>obtain⟨_,j,_⟩:=m;lia
  |dT y=>obtain⟨_,j,_⟩:=m;lia
  |frd _ y=>obtain⟨_,j,_⟩:=m;lia
  |frk _ y=>obtain⟨_,j,_⟩:=m;lia
def HR.tblNone  (h:HR K H G)(e:H a=da (.tbl ps)):G a=Aa:=by
 cases q:G a with
 |none=>rfl
 |some o=>
  have m:=h a o q;cases o with
  |lst y=>obtain⟨_,j,_⟩:=m;lia
  |fro y=>obtain⟨_,_,j,_⟩:=m;lia
  |dK y=>obtain⟨_,j,_⟩:=m;lia
  |dT y=>obtain⟨_,j,_⟩:=m;lia
  |frd _ y=>obtain⟨_,j,_⟩:=m;lia
  |frk _ y=>obtain⟨_,j,_⟩:=m;lia
def Fr.ts  (f:Fr H G H' G')(h:HR K H G):TS H H':=⟨λa j e=>(f a _ e (h.tupNone e)).1,λa o e=>(f a _ e (h.codNone e)).1⟩
def uk.upd  (h:uk H)(j:∀ps,H p≠da (.tbl ps))(y:∀F,H p≠da (frzC F)):uk (L2.upd H p o):=λt I=>by
 rcases h t I with e|⟨c,oc,e1,e2,q⟩
 ·exact .inl (by rw[Gc (λz=>j _ (z ▸ e))];exact e)
 ·exact .inr ⟨c,oc,by rw[Gc (λz=>j _ (z ▸ e1))];exact e1,by rw[Gc (λz=>y _ (z ▸ e2))];exact e2,q⟩
def uk.new  (h:uk H)(e:H p=Aa):uk (L2.upd H p o):=h.upd (λq z=>by lia) λj z=>by lia
def HR.tabW  (h:HR K H G){mo:MO}(g:G p=da mo):uk (L2.upd H p o):=h.tab.upd (λq z=>by rw[h.tblNone z]at g;cases g) λj z=>by rw[h.codNone z]at g;cases g
def Uj.there    (m:Uj K H a o):∃j,H a=da j:=by
 cases o with
 |lst _=>obtain⟨_,e,_⟩:=m;simp_all
 |fro _=>obtain⟨_,_,e,_⟩:=m;simp_all
 |dK _=>obtain⟨_,e,_⟩:=m;simp_all
 |dT _=>obtain⟨_,e,_⟩:=m;simp_all
 |frd _ _=>obtain⟨_,e,_⟩:=m;simp_all
 |frk _ _=>obtain⟨_,e,_⟩:=m;simp_all
def Uj.keep    (m:Uj K H a o)(e:H' a=H a)(t:TS H H'):Uj K H' a o:=by
 cases o with
 |lst _=>obtain⟨j,q,r⟩:=m;exact⟨j,e.trans q,r.ts t⟩
 |fro _=>obtain⟨y,j,q,r⟩:=m;exact⟨y,j,e.trans q,r.ts t⟩
 |dK _=>obtain⟨l,q,r⟩:=m;exact⟨l,e.trans q,r.ts t⟩
 |dT _=>obtain⟨l,q,r⟩:=m;exact⟨l,e.trans q,r.ts t⟩
 |frd _ _=>obtain⟨l,q,r⟩:=m;exact⟨l,e.trans q,r.ts t⟩
 |frk _ _=>obtain⟨l,q,r⟩:=m;exact⟨l,e.trans q,r.ts t⟩
def HR.nope  (h:HR K H G)(e:H a=Aa):G a=Aa:=by
 cases q:G a with
 |none=>rfl
 |some o=>
  obtain⟨_,j⟩:=(h a o q).there
  lia
def sf    : Sc G a o a=da o:=by unfold Sc;lia
def Lh    (h:b≠a):Sc G a o b=G b:=by unfold Sc;lia
def TS.new    (e:H p=Aa):TS H (upd H p o):=⟨λa j h=>by rw[Gc (Og h e)];exact h,λa q h=>by rw[Gc (Og h e)];exact h⟩
def HR.newT  (h:HR K H G)(e:H p=Aa):HR K (upd H p (.tup xs)) G:=⟨λa o q=>by
 have m:=h a o q;obtain⟨y,j⟩:=m.there;exact m.keep (Gc (Og j e)) (TS.new e),h.tab.new e⟩
def Fr.new    (e:H p=Aa):Fr H G (upd H p o) G:=⟨λa j h g _=>⟨by rw[Gc (Og h e)];exact h,g⟩⟩
def HR.newO  (h:HR K H G){mo:MO}(e:H p=Aa)(m:Uj K (upd H p o) p mo):HR K (upd H p o) (Sc G p mo):=⟨λa j q=>by
 by_cases z:a=p
 ·subst z;rw[sf]at q
  lia
 ·rw[Lh z]at q;exact(h a j q).keep (Gc z) (TS.new e),h.tab.new e⟩
def Fr.newO     (e:H p=Aa):Fr H G (upd H p o) (Sc G p mo):=⟨λa j h g _=>by
 have z:a≠p:=Og h e;exact⟨by rw[Gc z];exact h,by rw[Lh z];exact g⟩⟩
def TS.write  (h:HR K H G)(g:G p=da mo):TS H (upd H p o):=⟨λa j e=>by
 have z:a≠p:=λz=>by subst z;rw[h.tupNone e]at g;cases g
 rw[Gc z];exact e,λa q e=>by
 have z:a≠p:=λz=>by subst z;rw[h.codNone e]at g;cases g
 rw[Gc z];exact e⟩
def HR.write  (h:HR K H G){mo mo':MO}(g:G p=da mo)(m:Uj K (upd H p o) p mo'):HR K (upd H p o) (Sc G p mo'):=⟨λa j q=>by
 by_cases z:a=p
 ·subst z;rw[sf]at q
  lia
 ·rw[Lh z]at q;exact(h a j q).keep (Gc z) (TS.write h g),h.tabW g⟩
def Fr.write     (g:G p=da mo):Fr H G (upd H p o) (Sc G p mo'):=⟨λa j h n _=>by
 have z:a≠p:=λz=>by lia
 exact⟨by rw[Gc z];exact h,by rw[Lh z];exact n⟩⟩
theorem Kb.length  : ∀{us } {vs },Kb K H us vs->us.length=vs.length
 |[],_,h=>by cases h;rfl
 |_::_,_,h=>by
  obtain⟨v,q,rfl,_,j⟩:=h;simp[j.length]
theorem Kb.append  : ∀{us ws } {vs xs },Kb K H us vs->Kb K H ws xs->Kb K H (us++ws) (vs++xs)
 |[],_,_,_,h,h'=>by cases h;exact h'
 |_::_,_,_,_,h,h'=>by
  obtain⟨v,j,rfl,r,q⟩:=h;exact⟨v,j++_,rfl,r,q.append h'⟩
theorem Kb.get  : ∀{us } {vs } {i:Nat} {u },Kb K H us vs->us[i]?=da u->∃v,vs[i]?=da v/\RU K H u v
 |[],_,_,_,_,e=>by simp at e
 |_::_,_,0,_,h,e=>by
  obtain⟨v,j,rfl,r,_⟩:=h
  simp_all
 |_::_,_,i+1,_,h,e=>by
  obtain⟨v,j,rfl,_,q⟩:=h;obtain⟨w,F,y⟩:=q.get (i:=i) (by simpa using e)
  simp_all
theorem Kb.take  : ∀{us } {vs } n ,Kb K H us vs->Kb K H (us.take n) (vs.take n)
 |_,_,0,_=>rfl
 |[],_,_+1,h=>by cases h;rfl
 |_::_,_,n+1,h=>by
  obtain⟨v,j,rfl,r,q⟩:=h;exact⟨v,j.take n,rfl,r,q.take n⟩
theorem Kb.drop  : ∀{us } {vs } n ,Kb K H us vs->Kb K H (us.drop n) (vs.drop n)
 |_,_,0,h=>h
 |[],_,_+1,h=>by cases h;rfl
 |_::_,_,n+1,h=>by
  obtain⟨v,q,rfl,_,j⟩:=h;exact j.drop n
theorem Kb.set    (r:RU K H u v):∀{us } {vs } i ,Kb K H us vs->Kb K H (us.set i u) (vs.set i v)
 |[],_,_,h=>by cases h;rfl
 |_::_,_,0,h=>by
  obtain⟨w,j,rfl,_,y⟩:=h;exact⟨v,j,rfl,r,y⟩
 |_::_,_,i+1,h=>by
  obtain⟨w,j,rfl,q,y⟩:=h;exact⟨w,j.set i v,rfl,q,y.set r i⟩
theorem Kb.reverse  : ∀{us } {vs },Kb K H us vs->Kb K H us.reverse vs.reverse
 |[],_,h=>by cases h;rfl
 |_::_,_,h=>by
  obtain⟨v,q,rfl,r,j⟩:=h;rw[Rq,Rq];exact j.reverse.append ⟨v,[],rfl,r,rfl⟩
theorem Kb.rep    (h:Kb K H us vs):∀k ,Kb K H (Db k us).flatten (Db k vs).flatten
 |0=>rfl
 |k+1=>by
  rw[Jj,Jj,Mo,Mo];exact h.append (h.rep k)
theorem Kb.erase  : ∀{us } {vs } i ,Kb K H us vs->Kb K H (us.eraseIdx i) (vs.eraseIdx i)
 |[],_,_,h=>by cases h;rfl
 |_::_,_,0,h=>by
  obtain⟨v,q,rfl,_,j⟩:=h;exact j
 |_::_,_,i+1,h=>by
  obtain⟨v,q,rfl,r,j⟩:=h;exact⟨v,_,rfl,r,j.erase i⟩
def Kb.dropLast    (h:Kb K H us vs):Kb K H us.dropLast vs.dropLast:=by
 rw[ZJ,ZJ,h.length];exact h.take _
theorem Kb.atI {us:List U}{vs:List V}{i:Int}{u:U}(h:Kb K H us vs)(e:atI us i=da u):∃v,L2.atI vs i=da v/\RU K H u v:=by
 unfold L2.atI at e ⊢;rw[h.length]at e;cases q:Ag vs.length i with
 |none=>simp_all
 |some j=>
  rw[q]at e;exact h.get e
def Kb.cut    (h:Kb K H us vs) lo hi:Kb K H (Z.cut us lo hi) (cutV vs lo hi):=by
 unfold Z.cut cutV;rw[h.length];exact(h.drop _).take _
theorem Kb.isEmpty    (h:Kb K H us vs):us.isEmpty=vs.isEmpty:=by
 cases us with
 |nil=>cases h;rfl
 |cons u us=>obtain⟨v,j,rfl,_⟩:=h;rfl
theorem Kb.ints  : ∀{us } {vs } {ns },Kb K H us vs->ik us=da ns->vs=ns.map V.int
 |[],_,_,h,e=>by cases h;cases e;rfl
 |u::us,_,ns,h,e=>by
  obtain⟨v,y,rfl,r,j⟩:=h;cases u with
  |int i=>
   cases r;rw[ik]at e;cases q:ik us with
   |none=>lia
   |some l=>rw[q]at e;cases e;rw[j.ints q];rfl
  |_=>cases e
theorem Kb.strs  : ∀{us } {vs } {ns },Kb K H us vs->Si us=da ns->vs=ns.map V.str
 |[],_,_,h,e=>by cases h;cases e;rfl
 |u::us,_,ns,h,e=>by
  obtain⟨v,y,rfl,r,j⟩:=h;cases u with
  |str i=>
   cases r;rw[Si]at e;cases q:Si us with
   |none=>lia
   |some l=>rw[q]at e;cases e;rw[j.strs q];rfl
  |_=>cases e
theorem Kb.bools  : ∀{us } {vs } {ns },Kb K H us vs->Mm us=da ns->vs=ns.map V.bl
 |[],_,_,h,e=>by cases h;cases e;rfl
 |u::us,_,ns,h,e=>by
  obtain⟨v,y,rfl,r,j⟩:=h;cases u with
  |bl i=>
   cases r;rw[Mm]at e;cases q:Mm us with
   |none=>lia
   |some l=>rw[q]at e;cases e;rw[j.bools q];rfl
  |_=>cases e
def HR.lst  (h:HR K H G)(e:G a=da (.lst us)):∃vs,H a=da (.lst vs)/\Kb K H us vs:=h a _ e
def HR.ls  (h:HR K H G)(e:Gd G a=da us):∃vs,Qc K H a vs/\Kb K H us vs:=by
 unfold Gd at e;split at e
 ·rename_i j q;cases e;obtain⟨vs,q2,r⟩:=h a _ q;exact⟨vs,.inl (.inl q2),r⟩
 ·rename_i j q;cases e;obtain⟨o,vs,q2,r⟩:=h a _ q;exact⟨vs,.inl (.inr ⟨o,q2⟩),r⟩
 lia
def HR.rd  (h:HR K H G)(e:Gd G a=da us):∃vs,Rd H a (.lst vs)/\Kb K H us vs:=by
 unfold Gd at e;split at e
 ·rename_i j q;cases e;obtain⟨vs,q2,r⟩:=h a _ q;exact⟨vs,.inl q2,r⟩
 ·rename_i j q;cases e;obtain⟨o,vs,q2,r⟩:=h a _ q;exact⟨vs,.inr ⟨o,q2⟩,r⟩
 lia
end
mutual
theorem DU.dv {K:Eb}{H:Hp}{G:Gp}(h:HR K H G):∀{u:U} {d:Ua} {v:V},DU G u d->RU K H u v->DV K H v d
 |_,_,_,.non,r=>by cases r;exact .non
 |_,_,_,.bl b,r=>by cases r;exact .bl b
 |_,_,_,.int i,r=>by cases r;exact .int i
 |_,_,_,.str x,r=>by cases r;exact .str x
 |_,_,_,.tup q,r=>by
  obtain⟨a,y,rfl,s,j⟩:=r
  exact .tup (.of s) (Vg.dv h q j)
 |_,_,_,.lst e q,r=>by
  cases r
  obtain⟨y,s,j⟩:=h.rd e
  exact .lst s (Vg.dv h q j)
 |_,_,_,.dic e,r=>by
  cases r
  obtain⟨l,q,j⟩:=h _ _ e
  cases j
  exact .dic q
theorem Vg.dv {K:Eb}{H:Hp}{G:Gp}(h:HR K H G):∀{us:List U} {j:List Ua} {vs:List V},Vg G us j->Kb K H us vs->ig K H vs j
 |_,_,_,.nil,r=>by cases r;exact .nil
 |_,_,_,.cons a b,r=>by
  obtain⟨v,y,rfl,r1,q⟩:=r
  exact .cons (DU.dv h a r1) (Vg.dv h b q)
end
end Z

namespace L2
open PySem
def PE.imp     (h:PE X e t)(i:∀j H Q,t' j H Q->t j H Q):PE X e t':=λy s j H Q I q=>h y s j H Q I (i j H Q q)
def PT.imp     (h:PT X e t)(i:∀j H Q,t' j H Q->t j H Q):PT X e t':=λy s j H Q I q=>h y s j H Q I (i j H Q q)
def PW.imp     (h:PW X e t)(i:∀j H Q,t' j H Q->t j H Q):PW X e t':=λw y s j H Q I q=>h w y s j H Q I (i j H Q q)
def PA.imp     (h:PA X e t)(i:∀j H Q,t' j H Q->t j H Q):PA X e t':=λF y s j H Q I q=>h F y s j H Q I (i j H Q q)
def PO.imp     (h:PO X e t)(i:∀j H Q,t' j H Q->t j H Q):PO X e t':=λy s j H Q I q=>h y s j H Q I (i j H Q q)
def PS.imp     (h:PS X e t)(i:∀D j H,t' D j H->t D j H):PS X e t':=λy s j H D I q=>h y s j H D I (i D j H q)
def Be.imp     (h:Be X e t)(i:∀D j H,t' D j H->t D j H):Be X e t':=λy s j H D I q=>h y s j H D I (i D j H q)
end L2
namespace Z
open PySem L2
noncomputable def gK  (K:Eb):Str->Option Da:=λx=>(jn K Ke x).join
def XD  (K:Eb)(H:Hp)(C j:Ca)(x:XV):Prop:=1<=x.c/\x.c<6/\XCls K (gK K) (clsN x.c) (clsF x.c) C/\∃l,H j=da (.xd l)/\l.map (·.1)=clsF x.c/\Kb K H x.fs (l.map (·.2))
def vL  (X:Cx)(H:Hp)(s:Fa)(e:Da)(x:XV):Prop:=∃j C q,e=.ref j/\Lies X.s₀.heap.objs.size X.pn H s.heap j (.ref C) (da q)/\XD X.K H C q x
section
variable (X:Cx)
def LX (q:St)(H:Hp)(G:Gp)(E:KX):Prop:=∀(j:List (Ca×Obj)) (e:Da) (s':Fa) (x:XV) (G':Gp) (H':Hp),Pa X j q H' s'->vL X H' s' e x->HR X.K H' G'->Fr H G H' G'->E x G'->X.xe e s'
def LV (H:Hp)(G:Gp)(Q:K1)(y:VK):Prop:=∀w v q j,RU X.K j w v->HR X.K j q->Fr H G j q->Q w q->y v j
def lE (t:UE):TE:=λj H y=>∃q G Q E,SR X.K H q j/\HR X.K H G/\t q G Q E/\LV X H G Q y/\LX X j H G E
def lT (t:UT):TT:=λy H F=>∃z G Q E,SR X.K H z y/\HR X.K H G/\t z G Q E/\(∀b q j,HR X.K j q->Fr H G j q->Q b q->F b j)/\LX X y H G E
def lA (t:UA):TA:=λy H J=>∃z G Q E,SR X.K H z y/\HR X.K H G/\t z G Q E/\(∀I F q j,Kb X.K j I F->HR X.K j q->Fr H G j q->Q I q->J F j)/\LX X y H G E
def lO (t:Sg->Gp->(Option Int->Gp->Prop)->KX->Prop):TO:=λy H F=>∃z G Q E,SR X.K H z y/\HR X.K H G/\t z G Q E/\(∀o q j,HR X.K j q->Fr H G j q->Q o q->F o j)/\LX X y H G E
end
section
variable {X:Cx}{σ:St}{H H1 H2:Hp}{G G1 G2:Gp}
def LX.fr  {E:KX}(h:LX X σ H G E)(f:Fr H G H1 G1):LX X σ H1 G1 E:=λj e y x O J I a R F q=>h j e y x O J I a R (f.trans F) q
def LV.fr    (h:LV X H G Q Q0)(f:Fr H G H1 G1):LV X H1 G1 Q Q0:=λw v j F r I y q=>h w v j F r I (f.trans y) q
def LV.here    (h:LV X H G Q Q0)(r:RU X.K H w v)(j:HR X.K H G)(q:Q w G):Q0 v H:=h w v G H r j (Fr.refl _ _) q
def LV.bl    (h:LV X H G Q Q0)(j:HR X.K H G)(q:Q (.bl b) G):Q0 (.bl b) H:=h.here (w:=.bl b) rfl j q
def LV.int    (h:LV X H G Q Q0)(j:HR X.K H G)(q:Q (.int b) G):Q0 (.int b) H:=h.here (w:=.int b) rfl j q
def LV.str    (h:LV X H G Q Q0)(j:HR X.K H G)(q:Q (.str b) G):Q0 (.str b) H:=h.here (w:=.str b) rfl j q
def LV.tup    (h:LV X H G Q Q0)(e:H p=Aa)(r:Kb X.K H us vs)(j:HR X.K H G)(q:Q (.tup us) G):Q0 (.ref p) (upd H p (.tup vs)):=
 h (.tup us) (.ref p) G _ ⟨p,vs,rfl,Kf,r.ts (TS.new e)⟩ (j.newT e) (Fr.new e) q
def LV.lst    (h:LV X H G Q Q0)(e:H p=Aa)(r:Kb X.K H us vs)(j:HR X.K H G)(q:newO G (.lst us) Q):Q0 (.ref p) (upd H p (.lst vs)):=
 h (.loc p) (.ref p) _ _ rfl (j.newO (mo:=.lst us) e ⟨vs,Kf,r.ts (TS.new e)⟩) (Fr.newO e) (q.at p (j.nope e))
def LV.wl    (h:LV X H G Q Q0)(g:G p=da mo)(r:Kb X.K H us vs)(y:HR X.K H G)(j:RU X.K H w v)(q:putO G p (.lst us) (Q w)):Q0 v (upd H p (.lst vs)):=
 h w v _ _ (j.ts (TS.write y g)) (y.write (mo':=.lst us) g ⟨vs,Kf,r.ts (TS.write y g)⟩) (Fr.write g) q.at
end

def lE.two  {R:V->V->Hp->Prop}{k:U->U->Gp->K1->Prop}(h:lE X (λq G Q E=>ta q G (λx O=>tb q O (λy G2=>k x y G2 Q) E) E) σ H Q0)
  (f:∀x y v j G H' Q,RU X.K H' x v->RU X.K H' y j->HR X.K H' G->k x y G Q->LV X H' G Q Q0->R v j H'):lE X ta σ H λv H1=>lE X tb σ H1 λj Z=>R v j Z:=by
 obtain⟨q,G,Q,E,I,hG,h,lv,lx⟩:=h;refine⟨q,G,_,E,I,hG,h,λx v O H1 rx F J h1=>?_,lx⟩;refine⟨q,O,_,E,I.ts (J.ts hG),F,h1,λy j G2 Z ry Y f2 h2=>?_,lx.fr J⟩;exact f x y v j G2 Z Q (rx.ts (f2.ts F)) ry Y h2 (lv.fr (J.trans f2))
def lE.one  {R:V->Hp->Prop}{k:U->Gp->K1->Prop}(h:lE X (λj G Q E=>ta j G (λx q=>k x q Q) E) σ H Q0)
  (f:∀x v G H' Q,RU X.K H' x v->HR X.K H' G->k x G Q->LV X H' G Q Q0->R v H'):lE X ta σ H R:=by
 obtain⟨j,G,Q,E,F,O,h,I,lx⟩:=h;exact⟨j,G,_,E,F,O,h,λx v q H1 Y y J Z=>f x v q H1 Q Y y Z (I.fr J),lx⟩
def lE.many    {k:List U->Gp->K1->Prop}(h:lE X (λj G Q E=>ta j G (λx q=>k x q Q) E) σ H Q0)
  (f:∀x v G H' Q,Kb X.K H' x v->HR X.K H' G->k x G Q->LV X H' G Q Q0->R v H'):lA X ta σ H R:=by
 obtain⟨j,G,Q,E,F,O,h,I,lx⟩:=h;exact⟨j,G,_,E,F,O,h,λx v q H1 Y y J Z=>f x v q H1 Q Y y Z (I.fr J),lx⟩

def ZO    (J:X.N[i]?=da x)(O:Zo X.env.scope x)(hd:(x==("__debug__" : Str))=ua)(j:(x==("__classdict__" : Str))=ua):PE X (.Name x pos) (lE X λy G Q _=>slot y i λu=>Q u G):=by
 refine(oy J O hd j).imp λY H R h=>?_;obtain⟨y,G,Q,E,q,I,h,z,_⟩:=h;unfold slot at h;split at h
 ·rename_i u e;obtain⟨v,F,r⟩:=q.2 i u e;exact⟨v,F,z.here r I h⟩
 lia
def ao     (h:PE X e (tC v))(r:∀H,RU X.K H u v):PE X e (lE X λ_ G Q _=>Q u G):=
 h.imp λ_ _ _ ⟨_,_,_,_,_,y,q,j,_⟩=>j.here (r _) y q
def nl  (X:Cx)(f:Da->Da->Sem Da)(b:U->U->Gp->K1->Prop):Prop:=
 ∃r:R2,nc X f r/\∀x y v q G H Q j,RU X.K H x v->RU X.K H y q->HR X.K H G->b x y G Q->LV X H G Q j->r v q H j

def TM    (J:nl X (Pe o) k)(ha:PE X a (lE X ta))(Y:PE X b (lE X tb)) :
  PE X (.BinOp a o b pos) (lE X λj G Q E=>ta j G (λx O=>tb j O (λy G2=>k x y G2 Q) E) E):=by
 obtain⟨r,h1,h2⟩:=J;exact(tN h1 ha Y).imp λσ H I h=>lE.two h λx y v Z G H' Q rx F R q z=>h2 x y v Z G H' Q I rx F R q z
def GP  : nl X (Pe .Add) addU:=by
 refine⟨_,gQ.or (fV.or ((LS (X:=X)).or (hQ.or KS))),?_⟩;intro x y v v' G H Q Q0 J I j h F;cases x<;>try exact h.elim
 ·cases y<;>try exact h.elim
  cases J;cases I;exact .inr (.inr (.inr (.inr ⟨_,_,rfl,rfl,F.int j h⟩)))
 ·cases y<;>try exact h.elim
  cases J;cases I;exact .inl ⟨_,_,rfl,rfl,F.int j h⟩
 ·cases y<;>try exact h.elim
  cases J;cases I;exact .inr (.inl ⟨_,_,rfl,rfl,h.1,F.str j h.2⟩)
 ·cases y<;>try exact h.elim
  rename_i Y Z;obtain⟨a,O,rfl,s1,r1⟩:=J;obtain⟨b,R,rfl,s2,r2⟩:=I;obtain⟨hl,q⟩:=h;refine .inr (.inr (.inl ⟨a,b,O,R,rfl,rfl,.of s1,.of s2,by rw[<- r1.length,<- r2.length];exact hl,λz=>?_,λ_ z=>?_,λ_ _ p hp=>?_⟩))
  ·have:Y=[]:=by have:=r1.length;simp_all
   subst this;exact F.here (w:=.tup Z) ⟨b,R,rfl,s2,r2⟩ j q
  ·have:Z=[]:=by have:=r2.length;simp_all
   subst this;rw[Sh]at q;exact F.here (w:=.tup Y) ⟨a,O,rfl,s1,r1⟩ j q
  ·exact F.tup hp (r1.append r2) j q
 ·cases y<;>try exact h.elim
  cases J;cases I;obtain⟨Y,Z,g1,g2,hl,q⟩:=h;obtain⟨O,e1,r1⟩:=j.lst g1;obtain⟨R,e2,r2⟩:=j.lst g2;exact .inr (.inr (.inr (.inl ⟨_,_,O,R,rfl,rfl,e1,e2,by rw[<- r1.length,<- r2.length];exact hl,λp hp=>F.lst hp (r1.append r2) j q⟩)))
def LP  : nl X (Pe .Sub) subU:=by
 refine⟨_,FP.or (aS (X:=X)),?_⟩;intro x y v J G H Q I F z q h j;cases x<;>try exact h.elim
 all_goals cases y<;>try exact h.elim
 all_goals cases F;cases z
 ·exact .inr (.inl ⟨_,_,rfl,rfl,j.int q h⟩)
 ·exact .inr (.inr ⟨_,_,rfl,rfl,j.int q h⟩)
 ·exact .inl ⟨_,_,rfl,rfl,j.int q h⟩
def JP  : nl X (Pe .Mult) mulU:=by
 refine⟨_,oQ.or (DP.or ((ZR (X:=X)).or YR)),?_⟩;intro x y v v' G H Q Q0 R J j h F;cases x<;>try exact h.elim
 all_goals cases y<;>try exact h.elim
 ·cases R;cases J;exact .inl ⟨_,_,rfl,rfl,h.1,F.int j h.2⟩
 ·cases R;cases J;exact .inr (.inr (.inr ⟨_,_,rfl,rfl,h.1,h.2.1,h.2.2.1,F.str j h.2.2.2⟩))
 ·rename_i I k;obtain⟨a,O,rfl,s1,r1⟩:=R;cases J;obtain⟨h0,h1,Z,hl,q⟩:=h;refine .inr (.inr (.inl ⟨a,k,O,rfl,rfl,.of s1,?_,h1,Z,by rw[<- r1.length];exact hl,λz=>?_,λ_ p Y=>F.tup Y (r1.rep _) j q⟩))
  ·intro z;subst z;exact h0 (by have:=r1.length;simp_all)
  ·subst z;have e:(Db (El 1) I).flatten=I:=by simp
   rw[e]at q;exact F.here (w:=.tup I) ⟨a,O,rfl,s1,r1⟩ j q
 ·cases R;cases J;obtain⟨I,g1,h1,Z,hl,q⟩:=h;obtain⟨O,e1,r1⟩:=j.lst g1;exact .inr (.inl ⟨_,_,O,rfl,rfl,e1,h1,Z,by rw[<- r1.length];exact hl,λp Y=>F.lst Y (r1.rep _) j q⟩)
def bS  : nl X (Pe .FloorDiv) HC:=by
 refine⟨_,XR,?_⟩;intro x y v J G H Q I F q z h j;cases x<;>try exact h.elim
 cases y<;>try exact h.elim
 ·cases F;cases q;exact⟨_,_,rfl,rfl,⟨h.1,h.2.1⟩,j.int z h.2.2⟩
def IP  : nl X (Pe .Mod) modU:=by
 refine⟨_,nQ,?_⟩;intro x y v J G H Q I F q z h j;cases x<;>try exact h.elim
 cases y<;>try exact h.elim
 ·cases F;cases q;exact⟨_,_,rfl,rfl,h.1,j.int z h.2⟩
def KP  : nl X (Pe .Pow) powU:=by
 refine⟨_,CP,?_⟩;intro x y v J G H Q I F q z h j;cases x<;>try exact h.elim
 cases y<;>try exact h.elim
 ·cases F;cases q;exact⟨_,_,rfl,rfl,h.1,j.int z h.2⟩
def HP   o:nl X (Pe o) (binU o):=by
 cases o with
 |Add=>exact GP
 |Sub=>exact LP
 |Mult=>exact JP
 |FloorDiv=>exact bS
 |Mod=>exact IP
 |Pow=>exact KP
 |_=>exact⟨λ_ _ _ _=>False,λ_ _ _ _ _ _ _ _ _ _ _ _ h=>h.elim,λ_ _ _ _ _ _ _ _ _ _ _ h _=>h⟩
def dN  (J:PE X a (lE X ta)):PE X (.UnaryOp .USub a pos) (lE X λy G Q E=>ta y G (λx z=>negU x z Q) E):=by
 refine(uN MQ J).imp λR H O h=>lE.one h λx v G Y Q I F q j=>?_;cases x<;>try exact q.elim
 cases I;exact⟨_,rfl,j.int F q⟩
def Dn  (X:Cx)(o:Dr):Prop:=
 ∃r:R2,nc X (Ed o) r/\∀x y v v' G H (k:Bool->Prop) (Q0:VK),RU X.K H x v->RU X.K H y v'->HR X.K H G->cmpU o x y G k->(∀c,k c->Q0 (.bl c) H)->r v v' H Q0

def lC  (j:Bool):R2:=λx y H Q=>((x=.non\/∃b,x=.bl b)\/(y=.non\/∃b,y=.bl b))/\Q (.bl (if j then !decide (x=y) else decide (x=y))) H
def FF    (q:RelV x v)(j:RelV y u)(h:(x=.non\/∃b,x=.bl b)\/(y=.non\/∃b,y=.bl b)):plainIs v u=ma/\(v==u)=decide (x=y):=by
 rcases h with(rfl|⟨b,rfl⟩)|(rfl|⟨b,rfl⟩)
 ·cases q;cases y with
  |non=>cases j;exact⟨rfl,by simp⟩
  |bl c=>cases j;exact⟨rfl,by simp⟩
  |int _=>obtain⟨t,rfl⟩:=j;exact⟨rfl,by simp⟩
  |str _=>obtain⟨t,rfl⟩:=j;exact⟨rfl,by simp⟩
  |byt _=>obtain⟨t,rfl⟩:=j;exact⟨rfl,by simp⟩
  |flt _=>obtain⟨t,rfl⟩:=j;exact⟨rfl,by simp⟩
  |ref _=>cases j;exact⟨rfl,by simp⟩
  |ty _=>cases j;exact⟨rfl,by simp⟩
 ·cases q;cases y with
  |non=>cases j;exact⟨rfl,by simp⟩
  |bl c=>cases j;exact⟨rfl,by lia⟩
  |int _=>obtain⟨t,rfl⟩:=j;exact⟨rfl,by simp⟩
  |str _=>obtain⟨t,rfl⟩:=j;exact⟨rfl,by simp⟩
  |byt _=>obtain⟨t,rfl⟩:=j;exact⟨rfl,by simp⟩
  |flt _=>obtain⟨t,rfl⟩:=j;exact⟨rfl,by simp⟩
  |ref _=>cases j;exact⟨rfl,by simp⟩
  |ty _=>cases j;exact⟨rfl,by simp⟩
 ·cases j;cases x with
  |non=>cases q;exact⟨rfl,by simp⟩
  |bl c=>cases q;exact⟨rfl,by simp⟩
  |int _=>obtain⟨t,rfl⟩:=q;exact⟨rfl,by simp⟩
  |str _=>obtain⟨t,rfl⟩:=q;exact⟨rfl,by simp⟩
  |byt _=>obtain⟨t,rfl⟩:=q;exact⟨rfl,by simp⟩
  |flt _=>obtain⟨t,rfl⟩:=q;exact⟨rfl,by simp⟩
  |ref _=>cases q;exact⟨rfl,by simp⟩
  |ty _=>cases q;exact⟨rfl,by simp⟩
 ·cases j;cases x with
  |non=>cases q;exact⟨rfl,by simp⟩
  |bl c=>cases q;exact⟨rfl,by lia⟩
  |int _=>obtain⟨t,rfl⟩:=q;exact⟨rfl,by simp⟩
  |str _=>obtain⟨t,rfl⟩:=q;exact⟨rfl,by simp⟩
  |byt _=>obtain⟨t,rfl⟩:=q;exact⟨rfl,by simp⟩
  |flt _=>obtain⟨t,rfl⟩:=q;exact⟨rfl,by simp⟩
  |ref _=>cases q;exact⟨rfl,by simp⟩
  |ty _=>cases q;exact⟨rfl,by simp⟩
def mQ  : nc X (Ed .Is) (lC ua):=by
 intro j s R H x y v u Q I F z h;obtain⟨c,q⟩:=h;obtain⟨O,J⟩:=FF F z c;refine wpAny_is_plain O ⟨.bl _,H,I,?_,q⟩;rw[J];rfl
def EU  : nc X (Ed .IsNot) (lC ma):=by
 intro j s R H x y v u Q I F z h;obtain⟨c,q⟩:=h;obtain⟨O,J⟩:=FF F z c;refine wpAny_isNot_plain O ⟨.bl _,H,I,?_,q⟩;rw[J];rfl
def xD       (F:RU K H x v)(j:RU K H y I)(h:Oh x y k):((v=.non\/∃b,v=.bl b)\/(I=.non\/∃b,I=.bl b))/\k (decide (v=I)):=by
 have e:∀{a b:V},a≠b->k ua->k (decide (a=b)):=λn q=>by lia
 cases x<;>try exact h.elim
 ·cases y
  case non=>have O:k ma:=h;cases F;cases j;lia
  all_goals first
   |exact h.elim
   |(cases F;obtain⟨a,J,rfl,_⟩:=j;exact⟨.inl (.inl rfl),e (λz=>nomatch z) h⟩)
   |(cases F;cases j;exact⟨.inl (.inl rfl),e (λz=>nomatch z) h⟩)
 ·cases y<;>first
   |exact h.elim
   |(cases F;cases j;exact⟨.inr (.inl rfl),e (λz=>nomatch z) h⟩)
   |(cases F;cases j;rename_i b c;exact⟨.inl (.inr ⟨_,rfl⟩),by rw[decide_eq_decide.mpr (⟨λz=>V.bl.inj z,λz=>z ▸ rfl⟩:V.bl b=.bl c↔b=c)];exact h⟩)
 ·cases y<;>first
   |exact h.elim
   |(cases F;cases j;exact⟨.inr (.inl rfl),e (λz=>nomatch z) h⟩)
   |(cases F;cases j;exact⟨.inr (.inr ⟨_,rfl⟩),e (λz=>nomatch z) h⟩)
 ·cases y<;>first
   |exact h.elim
   |(cases F;cases j;exact⟨.inr (.inl rfl),e (λz=>nomatch z) h⟩)
   |(cases F;cases j;exact⟨.inr (.inr ⟨_,rfl⟩),e (λz=>nomatch z) h⟩)
 ·cases y<;>first
   |exact h.elim
   |(cases j;obtain⟨a,J,rfl,_⟩:=F;exact⟨.inr (.inl rfl),e (λz=>nomatch z) h⟩)
   |(cases j;obtain⟨a,J,rfl,_⟩:=F;exact⟨.inr (.inr ⟨_,rfl⟩),e (λz=>nomatch z) h⟩)
 ·cases y<;>first
   |exact h.elim
   |(cases F;cases j;exact⟨.inr (.inl rfl),e (λz=>nomatch z) h⟩)
   |(cases F;cases j;exact⟨.inr (.inr ⟨_,rfl⟩),e (λz=>nomatch z) h⟩)
def nD  {X: Cx}(I:RU X.K H x v)(F:RU X.K H y j)(J:HR X.K H G)(h:eqU x y G k) :
  (scal v j=ma/\k (decide (v=j)))\/∃d e,DV X.K H v d/\DV X.K H j e/\d.canLay0=ma/\e.canLay0=ma/\d.depth<=100/\k (Vd d e):=by
 have g:(∃d e,DU G x d/\DU G y e/\Small d/\Small e/\k (Vd d e))->(scal v j=ma/\k (decide (v=j)))\/∃d e,DV X.K H v d/\DV X.K H j e/\d.canLay0=ma/\e.canLay0=ma/\d.depth<=100/\k (Vd d e):=
  λ⟨d,e,Y,R,⟨s1,s2⟩,⟨O,_⟩,q⟩=>.inr ⟨d,e,Y.dv J I,R.dv J F,s1,O,s2,q⟩
 have e:∀{p:Prop} [Decidable p],¬p->k ua->k (decide p):=λn q=>by lia
 cases x<;>try exact g h
 all_goals
  cases y<;>first
   |exact g h
   |(cases I;cases F;exact .inl ⟨rfl,e (λz=>V.noConfusion z) h⟩)
   |(cases I;cases F;exact .inl ⟨rfl,by simp only[V.bl.injEq,V.int.injEq,V.str.injEq];exact h⟩)
def Kz      (r:Kb K H us vs):vs.isEmpty=us.isEmpty:=by
 have:=r.length;cases us<;>cases vs<;>simp_all
def XQ  {X: Cx}(I:RU X.K H x v)(F:RU X.K H y J)(O:HR X.K H G)(h:yJ x y G k):eqU x y G k\/(∃a z kvs,v=.ref a/\J=.str z/\H a=da (.dK kvs)/\k ua)\/(∃a b xs,v=.ref a/\J=.ref b/\Ic X.K H a xs/\Ic X.K H b []/\k xs.isEmpty)\/∃a z xs,v=.ref a/\J=.str z/\(Ic X.K H a xs\/Qc X.K H a xs)/\k ua:=by
 cases x<;>try exact .inl h
 all_goals cases y<;>try exact .inl h
 ·obtain⟨a,j,rfl,s1,r1⟩:=I;cases F;exact .inr (.inr (.inr ⟨a,_,j,rfl,rfl,.inl (.of s1),h⟩))
 ·rename_i R;cases R<;>try exact .inl h
  obtain⟨a,j,rfl,s1,r1⟩:=I;obtain⟨b,Z,rfl,s2,r2⟩:=F;cases r2;refine .inr (.inr (.inl ⟨a,b,j,rfl,rfl,.of s1,.of s2,?_⟩));rw[Kz r1];exact h
 ·rcases h with⟨kvs,g,q⟩|⟨xs,g,q⟩|h
  ·cases I;cases F;obtain⟨l,e,Y⟩:=O _ _ g;exact .inr (.inl ⟨_,_,l,rfl,rfl,e,q⟩)
  ·cases I;cases F;obtain⟨j,e,Y⟩:=O.lst g;exact .inr (.inr (.inr ⟨_,_,j,rfl,rfl,.inr (.of e),q⟩))
  ·exact .inl h
def IQ  {X: Cx}(J:RU X.K H x v)(z:RU X.K H y I)(F:HR X.K H G)(h:qC x y G k):eqU x y G k\/(∃a b xs,v=.ref a/\I=.ref b/\Ic X.K H a xs/\Ic X.K H b []/\k xs.isEmpty)\/∃a b xs,v=.ref a/\I=.ref b/\Qc X.K H a xs/\Qc X.K H b []/\k xs.isEmpty:=by
 cases x<;>try exact .inl h
 case loc a=>
  cases y<;>try exact .inl h
  rcases h with⟨us,g1,Z,q⟩|h
  ·obtain⟨j,O,r1⟩:=F.lst g1;obtain⟨ws,R,r2⟩:=F.lst Z;cases r2;cases J;cases z;refine .inr (.inr ⟨_,_,j,rfl,rfl,.of O,.of R,?_⟩);rw[Kz r1];exact q
  ·exact .inl h
 cases y<;>try exact .inl h
 rename_i Y;cases Y<;>try exact .inl h
 obtain⟨a,j,rfl,s1,r1⟩:=J;obtain⟨b,ws,rfl,s2,r2⟩:=z;cases r2;refine .inr (.inl ⟨a,b,j,rfl,rfl,.of s1,.of s2,?_⟩);rw[Kz r1];exact h
def nk       (r:RU K H x v)(e:kU x=da k):v=kV k:=by
 cases x with
 |int i=>cases r;cases e;rfl
 |str i=>cases r;cases e;rfl
 |_=>cases e
theorem Du    : ∀{xs } {vs } {ks },Kb K H xs vs->Bm xs=da ks->vs=ks.map kV
 |[],_,_,r,e=>by cases r;cases e;rfl
 |x::xs,_,ks,r,e=>by
  obtain⟨v,z,rfl,r1,y⟩:=r;rw[Bm]at e;cases q:kU x with
  |none=>lia
  |some k=>
   cases j:Bm xs with
   |none=>lia
   |some l=>
    rw[q,j]at e;cases e;rw[nk r1 q,Du y j];rfl
def Uu      (r:RU K H x v)(e:flat x=ma):flatV v=ma:=by
 cases x<;>first|(cases r;rfl)|exact absurd (show ua=ma from e) (by decide)
theorem Zu    : ∀{xs } {vs },Kb K H xs vs->xs.all flat=ma->vs.all flatV=ma
 |[],_,r,_=>by cases r;rfl
 |x::xs,_,r,e=>by
  obtain⟨v,q,rfl,r1,j⟩:=r;rw[mn,Qe]at e;rw[mn,Uu r1 e.1,Zu j e.2];rfl
def NO      (r:RU K H x v)(j:RU K H y q)(e:flat x=ma)(z:flat y=ma):Aj v q=Ui x y:=by
 cases x<;>first|(exact absurd (show ua=ma from e) (by decide))|(cases y<;>first|(exact absurd (show ua=ma from z) (by decide))|(cases r;cases j;rfl))
theorem xu      (r:RU K H x v)(e:flat x=ma):∀{xs } {vs },Kb K H xs vs->xs.all flat=ma->Bq v vs=xs.any λy=>Ui y x
 |[],_,j,_=>by cases j;rfl
 |y::xs,_,j,e'=>by
  obtain⟨F,z,rfl,r1,j⟩:=j;rw[mn,Qe]at e';have q:=xu r e j e'.2;unfold Bq at q ⊢;rw[Vi,Vi,NO r1 r e'.1 e,q]
theorem Yn {κ:Type}[DecidableEq κ]{K:Eb}{H:Hp}(k:κ):∀{kvs:List (κ×U)} {l:List (κ×V)},Bd K H kvs l->match dGet kvs k with|some u=>∃v,valV l k=da v/\RU K H u v|none=>valV l k=Aa
 |[],_,r=>by cases r;exact rfl
 |(k',u)::kvs,_,r=>by
  obtain⟨v,q,rfl,r1,j⟩:=r;by_cases e:k'=k
  ·subst e;have:dGet ((k',u)::kvs) k'=da u:=by simp[dGet,Vk]
   rw[this];exact⟨v,mv rfl,r1⟩
  ·have:dGet ((k',u)::kvs) k=dGet kvs k:=by simp[dGet,Vk,e]
   rw[this,jv (p:=(k',v)) e];exact Yn k j
def Az   [DecidableEq κ](k:κ)(r:Bd K H kvs l):(valV l k).isSome=(dGet kvs k).isSome:=by
 have:=Yn k r
 grind
def rDIn  (j:Bool):R2:=λx y H Q=>∃a o,y=.ref a/\DGet H a x o/\Q (.bl (if j then !o.isSome else o.isSome)) H
def iQ  (hu:X.A.units+1<Sb):nc X (Ed .In) (rDIn ua):=by
 intro j s O H x y v u Q I J z h;obtain⟨a,o,rfl,g,q⟩:=h;cases z;exact d_in hu I g J λR F=>⟨.bl o.isSome,H,F,rfl,q⟩
def AU  (hu:X.A.units+1<Sb):nc X (Ed .NotIn) (rDIn ma):=by
 intro j s O H x y v u Q I J z h;obtain⟨a,o,rfl,g,q⟩:=h;cases z;exact VQ hu I g J λR F=>⟨.bl (!o.isSome),H,F,rfl,q⟩
theorem xz    : ∀{ns:List Int} {vs },Kb K H (ns.map .int) vs->vs=ns.map V.int
 |[],_,h=>h
 |n::ns,_,h=>by
  obtain⟨v,y,rfl,j,q⟩:=h;rw[xz q];have j:v=.int n:=j;rw[j];rfl
def vD  {X: Cx}(F:RU X.K H x v)(ry:RU X.K H y Z)(I:HR X.K H G)(h:Ph x y G k) :
  (∃i j,v=.str i/\Z=.str j/\k (!(Hw j i 0 j.length 1).isEmpty))\/(∃p xs,Z=.ref p/\(Qc X.K H p xs\/Ic X.K H p xs)/\flatV v=ma/\xs.all flatV=ma/\k (Bq v xs))\/
   (∃a o,Z=.ref a/\DGet H a v o/\k o.isSome)\/(∃(p:Ca) (vs:List V) (d:Ua) (Y:List Ua),Z=.ref p/\(Qc X.K H p vs\/Ic X.K H p vs)/\DV X.K H v d/\ig X.K H vs Y/\d.canLay0=ma/\d.depth<=100/\(∀e∈Y,e.canLay0=ma)/\k (Y.any λe=>Vd e d))\/∃(a p:Ca) (zs:List Str),v=.ref a/\((∃xs,Ic X.K H a xs\/Qc X.K H a xs)\/∃kvs,H a=da (.dK kvs))/\Z=.ref p/\Ic X.K H p (zs.map V.str)/\k ua:=by
 unfold Ph at h;split at h
 ·cases F;cases ry;exact .inl ⟨_,_,rfl,rfl,h⟩
 ·obtain⟨a,vs,rfl,e,z⟩:=ry;rcases h with⟨R,q⟩|⟨d,Y,hd,hds,sd,sds,q⟩
  ·obtain⟨zs,R⟩:=Vc.mp R;obtain⟨b,ws,rfl,e2,_⟩:=F;exact .inr (.inr (.inr (.inr ⟨b,a,zs,rfl,.inl ⟨ws,.inl (.of e2)⟩,rfl,z.strs R ▸ .of e,q⟩)))
  ·exact .inr (.inr (.inr (.inl ⟨a,vs,d,Y,rfl,.inr (.of e),hd.dv I F,hds.dv I z,sd.1,sd.2,λe he=>(sds e he).1,q⟩)))
 ·obtain⟨a,vs,rfl,e,z⟩:=ry;obtain⟨R,hl,q⟩:=h;obtain⟨zs,R⟩:=Vc.mp R;cases F;refine .inr (.inr (.inr (.inr ⟨_,a,zs,rfl,?_,rfl,z.strs R ▸ .of e,q⟩)));rcases hl with⟨xs,g⟩|⟨kvs,g⟩
  ·obtain⟨ws,e2,_⟩:=I.lst g;exact .inl ⟨ws,.inr (.of e2)⟩
  ·obtain⟨l,e2,_⟩:=I _ _ g;exact .inr ⟨l,e2⟩
 ·obtain⟨a,vs,rfl,e,z⟩:=ry;obtain⟨O,J,q⟩:=h;exact .inr (.inl ⟨a,vs,rfl,.inr (.of e),Uu F O,Zu z J,by rw[xu F O z J];exact q⟩)
 ·cases ry;rename_i a;split at h
  ·rename_i ys g;obtain⟨vs,e,z⟩:=I.lst g;rcases h with⟨O,J,q⟩|⟨d,Y,hd,hds,sd,sds,q⟩
   ·exact .inr (.inl ⟨a,vs,rfl,.inl (.of e),Uu F O,Zu z J,by rw[xu F O z J];exact q⟩)
   ·exact .inr (.inr (.inr (.inl ⟨a,vs,d,Y,rfl,.inl (.of e),hd.dv I F,hds.dv I z,sd.1,sd.2,λe he=>(sds e he).1,q⟩)))
  ·rename_i ys g;obtain⟨ob,vs,e,z⟩:=I a _ g;obtain⟨O,J,q⟩:=h;exact .inr (.inl ⟨a,vs,rfl,.inl (.inl (.inr ⟨ob,e⟩)),Uu F O,Zu z J,by rw[xu F O z J];exact q⟩)
  ·rename_i kvs g;obtain⟨l,e,z⟩:=I a _ g;split at h
   ·rename_i y ek;have:=nk F ek;subst this;exact .inr (.inr (.inl ⟨a,_,rfl,DGet.k e,by rw[Az y z];exact h⟩))
   lia
  ·rename_i kvs g;obtain⟨l,e,z⟩:=I a _ g;split at h
   ·rename_i xs;obtain⟨b,vs,rfl,eb,rb⟩:=F;split at h
    ·rename_i y ek;have:=Du rb ek;subst this;exact .inr (.inr (.inl ⟨a,_,rfl,DGet.t e eb,by rw[Az y z];exact h⟩))
    lia
   lia
  ·rename_i o kvs g;obtain⟨l,e,z⟩:=I a _ g;split at h
   ·rename_i y ek;have:=nk F ek;subst this;exact .inr (.inr (.inl ⟨a,_,rfl,.inl ⟨l,y,.inr ⟨o,e⟩,rfl,rfl⟩,by rw[Az y z];exact h⟩))
   lia
  lia
 lia
def Pu     (h:ordU o x y k):(∃i j,x=.int i/\y=.int j)\/(o=.LtE/\∃i j,x=.str i/\y=.str j):=by
 cases o<;>try exact h.elim
 all_goals cases x<;>try exact h.elim
 all_goals cases y<;>try exact h.elim
 all_goals lia
def Qn   (Z:Room k X.A) o:Dn X o:=by
 have hu:X.A.units+1<Sb:=by have:=Z.un;lia
 cases o with
 |Eq=>
  refine⟨_,jN.or ((jQ Z).or ((oW Z).or ((gV Z).or (yW Z)))),λx y v v' G H k Q0 R O Y h q=>?_⟩;rcases XQ R O Y h with h|⟨a,z,kvs,F,I,J,h4⟩|⟨a,b,xs,F,I,J,h4,h5⟩|⟨a,z,xs,F,I,J,h4⟩
  ·rcases nD R O Y h with⟨F,I⟩|⟨d,e,F,I,J,h4,h5,h6⟩
   ·exact .inl ⟨F,q _ I⟩
   ·exact .inr (.inl ⟨d,e,F,I,J,h4,h5,q _ h6⟩)
  ·exact .inr (.inr (.inl ⟨a,z,kvs,F,I,J,q _ h4⟩))
  ·exact .inr (.inr (.inr (.inl ⟨a,b,xs,F,I,J,h4,q _ h5⟩)))
  ·exact .inr (.inr (.inr (.inr ⟨a,z,xs,F,I,J,q _ h4⟩)))
 |NotEq=>
  refine⟨_,pN.or ((pQ Z).or ((iV Z).or (hV Z))),λx y v v' G H k Q0 R O Y h q=>?_⟩;rcases IQ R O Y h with h|⟨a,b,xs,F,I,J,h4,h5⟩|⟨a,b,xs,F,I,J,h4,h5⟩
  ·rcases nD R O Y h with⟨F,I⟩|⟨d,e,F,I,J,h4,h5,h6⟩
   ·exact .inl ⟨F,q _ I⟩
   ·exact .inr (.inl ⟨d,e,F,I,J,h4,h5,q _ h6⟩)
  ·exact .inr (.inr (.inl ⟨a,b,xs,F,I,J,h4,q _ h5⟩))
  ·exact .inr (.inr (.inr ⟨a,b,xs,F,I,J,h4,q _ h5⟩))
 |Is=>
  refine⟨_,mQ,λx y v v' G H k Q0 R O Y h q=>?_⟩;obtain⟨F,I⟩:=xD R O h;exact⟨F,q _ I⟩
 |IsNot=>
  refine⟨_,EU,λx y v v' G H k Q0 R O Y h q=>?_⟩;obtain⟨F,I⟩:=xD R O h;exact⟨F,q _ I⟩
 |In=>
  refine⟨_,CU.or ((BU (X:=X)).or ((iQ hu).or ((kQ Z).or (lQ Z)))),λx y v v' G H k Q0 R O Y h q=>?_⟩;rcases vD R O Y h with⟨i,j,F,I,J⟩|⟨p,xs,F,I,J,h4,h5⟩|⟨a,o,F,I,J⟩|⟨p,vs,d,ds,F,I,J,h4,h5,h6,h7,h8⟩|⟨a,p,zs,F,I,J,h4,h5⟩
  ·grind
  ·exact .inr (.inl ⟨p,xs,F,I,J,h4,q _ h5⟩)
  ·exact .inr (.inr (.inl ⟨a,o,F,I,q _ J⟩))
  ·exact .inr (.inr (.inr (.inl ⟨p,vs,d,ds,F,I,J,h4,h5,h6,h7,q _ h8⟩)))
  ·exact .inr (.inr (.inr (.inr ⟨a,p,zs,F,I,J,h4,q _ h5⟩)))
 |NotIn=>
  refine⟨_,AW.or ((zW (X:=X)).or ((AU hu).or ((GU Z).or (HU Z)))),λx y v v' G H k Q0 R O Y h q=>?_⟩;rcases vD R O Y h with⟨i,j,F,I,J⟩|⟨p,xs,F,I,J,h4,h5⟩|⟨a,o,F,I,J⟩|⟨p,vs,d,ds,F,I,J,h4,h5,h6,h7,h8⟩|⟨a,p,zs,F,I,J,h4,h5⟩
  ·grind
  ·exact .inr (.inl ⟨p,xs,F,I,J,h4,q _ h5⟩)
  ·exact .inr (.inr (.inl ⟨a,o,F,I,q _ J⟩))
  ·exact .inr (.inr (.inr (.inl ⟨p,vs,d,ds,F,I,J,h4,h5,h6,h7,q _ h8⟩)))
  ·exact .inr (.inr (.inr (.inr ⟨a,p,zs,F,I,J,h4,q _ h5⟩)))
 |Lt=>
  refine⟨_,oN,λx y v v' G H k Q0 R O Y h q=>?_⟩;obtain⟨i,j,rfl,rfl⟩|⟨z,_⟩:=Pu h
  rotate_left
  ·cases z
  cases R;cases O;exact⟨_,_,rfl,rfl,q _ h⟩
 |LtE=>
  refine⟨_,nN.or FU,λx y v v' G H k Q0 R O Y h q=>?_⟩;obtain⟨i,j,rfl,rfl⟩|⟨_,i,j,rfl,rfl⟩:=Pu h
  ·cases R;cases O;exact .inl ⟨_,_,rfl,rfl,q _ h⟩
  ·cases R;cases O;exact .inr ⟨_,_,rfl,rfl,q _ h⟩
 |Gt=>
  refine⟨_,lN,λx y v v' G H k Q0 R O Y h q=>?_⟩;obtain⟨i,j,rfl,rfl⟩|⟨z,_⟩:=Pu h
  rotate_left
  ·cases z
  cases R;cases O;exact⟨_,_,rfl,rfl,q _ h⟩
 |GtE=>
  refine⟨_,kN,λx y v v' G H k Q0 R O Y h q=>?_⟩;obtain⟨i,j,rfl,rfl⟩|⟨z,_⟩:=Pu h
  rotate_left
  ·cases z
  cases R;cases O;exact⟨_,_,rfl,rfl,q _ h⟩

def VM   (Y:Dn X o)(ha:PE X a (lE X ta))(hb:PE X b (lE X tb))(J:tw o b=ua) :
  PE X (.Compare a [o] [b] pos) (lE X λj G Q E=>ta j G (λx Z=>tb j Z (λy F=>cmpU o x y F λc=>Q (.bl c) F) E) E):=by
 obtain⟨r,h1,h2⟩:=Y;exact(fS h1 ha hb J).imp λσ H R h=>lE.two h λx y v v' G H' Q rx O z q I=>h2 x y v v' G H' _ R rx O z q λc q=>I.bl z q
def oR   (ho:Dn X o)(za:Dn X o')(ha:PE X a (lE X ta))(hb:PE X b (lE X tb))(hc:PE X c (lE X tc))(hm:Ov [o,o'] [b,c]=ua) :
  PE X (.Compare a [o,o'] [b,c] pos) (lE X λI G Q E=>ta I G (λx G1=>tb I G1 (λy O=>cmpU o x y O λt=>if t=ma then tc I O (λz G3=>cmpU o' y z G3 λt'=>Q (.bl t') G3) E else Q (.bl ua) O) E) E):=by
 obtain⟨r,h1,h2⟩:=ho;obtain⟨r',xa,ja⟩:=za;refine(NT h1 xa ha hb hc hm).imp λσ H Q0 h=>?_;obtain⟨I,G,Q,E,J,hG,h,lv,lx⟩:=h;refine⟨I,G,_,E,J,hG,h,λx v G1 H1 rx F R h1=>?_,lx⟩;refine⟨I,G1,_,E,J.ts (R.ts hG),F,h1,λy v' O H2 ry j Y h3=>?_,lx.fr R⟩;refine h2 x y v v' O H2 _ _ (rx.ts (Y.ts F)) ry j h3 λt q=>⟨t,rfl,?_⟩;cases t with
 |false=>
  rw[if_neg Hd]at q ⊢;exact(lv.fr (R.trans Y)).bl j q
 |true=>
  rw[if_pos rfl]at q ⊢;refine⟨I,O,_,E,(J.ts (R.ts hG)).ts (Y.ts F),j,q,λz v3 G3 H3 rz Z f3 h4=>?_,lx.fr (R.trans Y)⟩;exact ja y z v' v3 G3 H3 _ Q0 (ry.ts (f3.ts j)) rz Z h4 λc q=>(lv.fr ((R.trans Y).trans f3)).bl Z q
def Su  {X: Cx}(q:RU X.K H x v)(z:HR X.K H G)(h:truU x G k):∃b,TruV X.K v H b/\k b:=by
 cases x<;>try exact h.elim
 ·cases q;exact⟨_,rfl,h⟩
 ·cases q;exact⟨_,rfl,h⟩
 ·cases q;exact⟨_,rfl,h⟩
 ·cases q;exact⟨_,⟨h.1,rfl⟩,h.2⟩
 ·obtain⟨a,y,rfl,e,j⟩:=q;exact⟨_,.inr (.inl ⟨y,.of e,rfl⟩),by rw[<- j.isEmpty];exact h⟩
 ·cases q;unfold truU at h;dsimp only at h;split at h
  ·rename_i g;obtain⟨y,e,j⟩:=z.lst g;exact⟨_,.inl ⟨y,.of e,rfl⟩,by rw[<- j.isEmpty];exact h⟩
  ·rename_i g;obtain⟨I,y,e,j⟩:=z _ _ g;exact⟨_,.inl ⟨y,.inl (.inr ⟨I,e⟩),rfl⟩,by rw[<- j.isEmpty];exact h⟩
  ·rename_i F g;obtain⟨l,e,j⟩:=z _ _ g;refine⟨_,.inr (.inr ⟨l,e,rfl⟩),?_⟩;cases F with
   |nil=>cases j;exact h
   |cons p r=>obtain⟨v,J,rfl,_⟩:=j;exact h
  lia
def gN  (R:PE X a (lE X ta))(Y:∀j,tf a X.env j=(do let v <- j;Qf a.pos;Pc [v] (truthy v))):PT X a (lT X λq G Q E=>ta q G (λx y=>truU x y λb=>Q b y) E):=by
 refine(dU R Y).imp λσ H Q0 h=>?_;obtain⟨q,G,Q,E,F,I,h,Z,lx⟩:=h;refine⟨q,G,_,E,F,I,h,λx v y H1 J z f1 O=>?_,lx⟩;obtain⟨b,h2,h3⟩:=Su J z O
 grind
def pR   (ho:Dn X o)(ha:PE X a (lE X ta))(hb:PE X b (lE X tb))(hm:tw o b=ua) :
  PT X (.Compare a [o] [b] pos) (lT X λI G Q E=>ta I G (λx O=>tb I O (λy j=>cmpU o x y j λc=>truU (.bl c) j λc=>Q c j) E) E):=by
 obtain⟨r,Y,h2⟩:=ho;refine(xS Y ha hb hm).imp λσ H Q0 h=>?_;obtain⟨I,G,Q,E,J,hG,h,lv,lx⟩:=h;refine⟨I,G,_,E,J,hG,h,λx v O H1 rx F R Y=>?_,lx⟩;refine⟨I,O,_,E,J.ts (R.ts hG),F,Y,λy v' j Z ry z f2 h3=>?_,lx.fr R⟩;exact h2 x y v v' j Z _ _ (rx.ts (f2.ts F)) ry z h3 λt q=>⟨t,rfl,lv t j Z z (R.trans f2) q⟩
def OR   (ho:Dn X o)(ja:Dn X o')(ha:PE X a (lE X ta))(hb:PE X b (lE X tb))(hc:PE X c (lE X tc))(hm:Ov [o,o'] [b,c]=ua) :
  PT X (.Compare a [o,o'] [b,c] pos) (lT X λJ G Q E=>ta J G (λx G1=>tb J G1 (λy F=>cmpU o x y F λt=>if t=ma then tc J F (λz R=>cmpU o' y z R λt'=>truU (.bl t') R λc=>Q c R) E else truU (.bl ua) F λc=>Q c F) E) E):=by
 obtain⟨r,h1,h2⟩:=ho;obtain⟨r',za,va⟩:=ja;refine(cU h1 za ha hb hc hm).imp λσ H Q0 h=>?_;obtain⟨J,G,Q,E,O,hG,h,lv,lx⟩:=h;refine⟨J,G,_,E,O,hG,h,λx v G1 H1 rx I Y h1=>?_,lx⟩;refine⟨J,G1,_,E,O.ts (Y.ts hG),I,h1,λy v' F H2 ry j Z h3=>?_,lx.fr Y⟩;refine h2 x y v v' F H2 _ _ (rx.ts (Z.ts I)) ry j h3 λt q=>⟨t,rfl,?_⟩;cases t with
 |false=>
  rw[if_neg Hd]at q ⊢;exact⟨ua,rfl,lv ua F H2 j (Y.trans Z) q⟩
 |true=>
  rw[if_pos rfl]at q ⊢;refine⟨J,F,_,E,(O.ts (Y.ts hG)).ts (Z.ts I),j,q,λz v3 R H3 rz xa f3 h4=>?_,lx.fr (Y.trans Z)⟩;exact va y z v' v3 R H3 _ _ (ry.ts (f3.ts j)) rz xa h4 λc q=>⟨c,rfl,lv c R H3 xa ((Y.trans Z).trans f3) q⟩
def cS  {rest:List Na}(Y:PE X a sa)(R:PE X (.BoolOp .And (b::rest) pos) sb):PE X (.BoolOp .And (a::b::rest) pos) (λq H Q=>sa q H λx y=>∃k,TruV X.K x y k/\if k=ma then sb q y Q else Q x y):=by
 intro j s q H Q I h;refine PyProof.Rows.BoolOp_and (Pb (Y j s q H _ I h) λv s1 ⟨x,y,Z,r1,k,hk,q1⟩=>?_);refine Pb (Au j s1 q y x v (λc z=>c=k/\z=y) Z r1 ⟨k,hk,rfl,rfl⟩) λc s2 ⟨z,F,J,O⟩=>?_;subst J O;cases c with
 |true=>exact R j s2 q z Q F q1
 |false=>exact⟨x,z,F,r1,q1⟩
def UP  {rest:List Na}(Y:PE X a sa)(R:PE X (.BoolOp .Or (b::rest) pos) sb):PE X (.BoolOp .Or (a::b::rest) pos) (λq H Q=>sa q H λx y=>∃k,TruV X.K x y k/\if k=ma then Q x y else sb q y Q):=by
 intro j s q H Q I h;refine PyProof.Rows.BoolOp_or (Pb (Y j s q H _ I h) λv s1 ⟨x,y,Z,r1,k,hk,q1⟩=>?_);refine Pb (Au j s1 q y x v (λc z=>c=k/\z=y) Z r1 ⟨k,hk,rfl,rfl⟩) λc s2 ⟨z,F,J,O⟩=>?_;subst J O;cases c with
 |true=>exact⟨x,z,F,r1,q1⟩
 |false=>exact R j s2 q z Q F q1
def RM  {rest:List Na}(ha:PE X a (lE X ta))(Y:PE X (.BoolOp .And (b::rest) pos) (lE X tb)):PE X (.BoolOp .And (a::b::rest) pos) (lE X λq G Q E=>ta q G (λx y=>truU x y λc=>if c=ma then tb q y Q E else Q x y) E):=by
 refine(cS ha Y).imp λσ H Q0 h=>?_;obtain⟨q,G,Q,E,z,O,h,J,lx⟩:=h;refine⟨q,G,_,E,z,O,h,λx v y H1 R j F h1=>?_,lx⟩;obtain⟨k,Z,I⟩:=Su R j h1;refine⟨k,Z,?_⟩;cases k with
 |true=>rw[if_pos rfl]at I ⊢;exact⟨q,y,Q,E,z.ts (F.ts O),j,I,J.fr F,lx.fr F⟩
 |false=>rw[if_neg Hd]at I ⊢;exact(J.fr F).here R j I
def u_or  {rest:List Na}(ha:PE X a (lE X ta))(Y:PE X (.BoolOp .Or (b::rest) pos) (lE X tb)):PE X (.BoolOp .Or (a::b::rest) pos) (lE X λq G Q E=>ta q G (λx y=>truU x y λc=>if c=ma then Q x y else tb q y Q E) E):=by
 refine(UP ha Y).imp λσ H Q0 h=>?_;obtain⟨q,G,Q,E,z,O,h,J,lx⟩:=h;refine⟨q,G,_,E,z,O,h,λx v y H1 R j F h1=>?_,lx⟩;obtain⟨k,Z,I⟩:=Su R j h1;refine⟨k,Z,?_⟩;cases k with
 |true=>rw[if_pos rfl]at I ⊢;exact(J.fr F).here R j I
 |false=>rw[if_neg Hd]at I ⊢;exact⟨q,y,Q,E,z.ts (F.ts O),j,I,J.fr F,lx.fr F⟩
def eN  (ha:PE X a (lE X ta)):PE X (.UnaryOp .Not a pos) (lE X λJ G Q E=>ta J G (λx F=>truU x F λb=>Q (.bl (!b)) F) E):=by
 intro j s R H Y I h;obtain⟨J,G,Q,E,O,hG,h,lv,lx⟩:=h;refine PyProof.Rows.UnaryOp_ (Pb (ha j s R H (λv q=>∃k,TruV X.K v q k/\Y (.bl (!k)) q) I ⟨J,G,_,E,O,hG,h,λx v F q rx y f1 h1=>?_,lx⟩) λv s1 ⟨x,q,I1,r1,k,hk,q1⟩=>?_)
 ·obtain⟨k,Z,h3⟩:=Su rx y h1;exact⟨k,Z,(lv.fr f1).bl y h3⟩
 ·refine PyProof.Rows.not_of (Pb (Au j s1 R q x v (λc z=>c=k/\z=q) I1 r1 ⟨k,hk,rfl,rfl⟩) λc s2 ⟨z,I2,e1,e2⟩=>?_);subst e1 e2;exact⟨.bl (!c),z,I2,rfl,q1⟩
def sR  {tB: UT}(hc:PT X c (lT X tA)){tC:UT}(ha:PT X a (lT X tB))(hb:PT X b (lT X tC)):PT X (.IfExp c a b pos) (lT X λz G Q E=>tA z G (λt j=>if t=ma then tB z j Q E else tC z j Q E) E):=by
 intro q s σ H Q0 I h;obtain⟨z,G,Q,E,O,hG,h,lv,lx⟩:=h;show wpAny _ _ (do if <- tf c X.env (Lb c X.env) then tf a X.env (Lb a X.env) else tf b X.env (Lb b X.env)) _ _ s
 refine ub (Pb (hc q s σ H (λt R=>∃j,HR X.K R j/\Fr H G R j/\if t=ma then tB z j Q E else tC z j Q E) I ⟨z,G,_,E,O,hG,h,λt j R y F Y=>⟨j,y,F,Y⟩,lx⟩) λt s1 ⟨R,I1,j,y,F,Y⟩=>?_)
 cases t with
 |true=>exact ha q s1 σ R Q0 I1 ⟨z,j,Q,E,O.ts (F.ts hG),y,Y,λb G2 Z J f2 h2=>lv b G2 Z J (F.trans f2) h2,lx.fr F⟩
 |false=>exact hb q s1 σ R Q0 I1 ⟨z,j,Q,E,O.ts (F.ts hG),y,Y,λb G2 Z J f2 h2=>lv b G2 Z J (F.trans f2) h2,lx.fr F⟩
def tR  (Z:PT X a (lT X R)):PT X (.UnaryOp .Not a pos) (lT X λj G Q E=>R j G (λb q=>Q (!b) q) E):=by
 refine(kP Z).imp λσ H Q0 h=>?_;obtain⟨j,G,Q,E,z,O,h,F,lx⟩:=h;exact⟨j,G,_,E,z,O,h,λb q I y J Y=>F (!b) q I y J Y,lx⟩
def mR  {tB: UT}{rest:List Na}(Z:PT X a (lT X tA))(hb:PW X (.BoolOp .And (b::rest) pos) (lT X tB)):PW X (.BoolOp .And (a::b::rest) pos) (lT X λj G Q E=>tA j G (λc y=>if c=ma then tB j y Q E else Q ua y) E):=by
 refine(pw_and Z hb).imp λσ H Q0 h=>?_;obtain⟨j,G,Q,E,q,J,h,lv,lx⟩:=h;refine⟨j,G,_,E,q,J,h,λc y H1 F I O=>?_,lx⟩;cases c with
 |false=>grind
 |true=>rw[if_pos rfl]at O ⊢;exact⟨j,y,Q,E,q.ts (I.ts J),F,O,λb G2 R z f2 Y=>lv b G2 R z (I.trans f2) Y,lx.fr I⟩
def fN  {tB: UT}{rest:List Na}(Z:PT X a (lT X tA))(hb:PW X (.BoolOp .Or (b::rest) pos) (lT X tB)):PW X (.BoolOp .Or (a::b::rest) pos) (lT X λj G Q E=>tA j G (λc y=>if c=ma then Q ma y else tB j y Q E) E):=by
 refine(pw_or Z hb).imp λσ H Q0 h=>?_;obtain⟨j,G,Q,E,q,J,h,lv,lx⟩:=h;refine⟨j,G,_,E,q,J,h,λc y H1 F I O=>?_,lx⟩;cases c with
 |true=>grind
 |false=>rw[if_neg Hd]at O ⊢;exact⟨j,y,Q,E,q.ts (I.ts J),F,O,λb G2 R z f2 Y=>lv b G2 R z (I.trans f2) Y,lx.fr I⟩
def XM  (Z:PT X c (lT X Y))(ha:PE X a (lE X ta))(R:PE X b (lE X tb)):PE X (.IfExp c a b pos) (lE X λj G Q E=>Y j G (λt z=>if t=ma then ta j z Q E else tb j z Q E) E):=by
 refine(QT Z ha R).imp λσ H Q0 h=>?_;obtain⟨j,G,Q,E,q,J,h,O,lx⟩:=h;refine⟨j,G,_,E,q,J,h,λc z H1 F y I=>?_,lx⟩;cases c with
 |true=>rw[if_pos rfl]at I ⊢;exact⟨j,z,Q,E,q.ts (y.ts J),F,I,O.fr y,lx.fr y⟩
 |false=>rw[if_neg Hd]at I ⊢;exact⟨j,z,Q,E,q.ts (y.ts J),F,I,O.fr y,lx.fr y⟩
end Z

namespace L2
open PySem PySem.Spec PyProof.Rows

def QM  (K:Eb)(I z:TE):TE:=λF H Q=>I F H λx J=>z F J λy j=>(∃a q,x=.ref a/\Qc K j a q/\
 ((y=.int 1/\∀p,j p=Aa->Q (.ref p) (upd j p (.lst q)))\/(y=.int (-1)/\∀p,j p=Aa->Q (.ref p) (upd j p (.lst q.reverse)))))\/
 ∃a q,x=.ref a/\Ic K j a q/\y=.int (-1)/\∀p,j p=Aa->Q (.ref p) (upd j p (.tup q.reverse))
def iS  {st: Na}(he:PE X e te)(hs:PE X st xa):PE X (.Subscript e (.Slice Aa Aa (da st) p2) pos) (QM X.K te xa):=by
 intro j s O H Q I h;refine Cp (Pb (he j s O H _ I h) λv s1 ⟨x,H1,I1,r1,q1⟩=>?_);refine wpAny_Slice ?_;rw[JA,evalPart_some];refine uc (uc ?_);refine Pb (hs j s1 O H1 _ I1 q1) λu z ⟨y,H3,I3,r3,q3⟩=>?_;have F:Pa X j O H3 { z with heap:=z.heap.push { cls:=.type "slice",data:=.fields #[.none,.none,u] } }:=I3.kept (t':=z.toks) λb ob q=>Ac _ q
 rcases q3 with⟨a,Y,rfl,Z,q3⟩|⟨a,Y,rfl,Z,rfl,q⟩
 ·cases r1;obtain⟨za,r,J,hz⟩:=F.list Z;have R:=r.length;show wpAny (Ja X.prog X.w) X.A (uw e (.Slice Aa Aa (da st) p2) (.ref a) (.ref z.heap.objs.size)) (EP X j O Q) X.xe { z with heap:=z.heap.push { cls:=.type "slice",data:=.fields #[.none,.none,u] } }
  refine ul (ops:=[.ref a,.ref z.heap.objs.size]) J.isList.typeIs Rf.lookup ?_ (by with_unfolding_all rfl)
  rcases q3 with⟨rfl,q⟩|⟨rfl,q⟩
  ·obtain⟨t,rfl⟩:=r3;refine VB J.isList (Zd.new ..) .none .none (.int 1 t) (by decide) ?_ (by simp_all)
   rw[NS];refine⟨.ref _,_,F.laid (t':=z.toks) (o:=.lst Y) (λb ob q=>Ac _ q) (Jb _) ?_,rfl,q _ (F.hok.fresh (Jb _))⟩;exact⟨hz,_,0,r,Fe _ rfl⟩
  ·obtain⟨t,rfl⟩:=r3;refine VB J.isList (Zd.new ..) .none .none (.int (-1) t) (by decide) ?_ (by simp_all)
   rw[eT];refine⟨.ref _,_,F.laid (t':=z.toks) (o:=.lst Y.reverse) (λb ob q=>Ac _ q) (Jb _) ?_,rfl,q _ (F.hok.fresh (Jb _))⟩;exact⟨by simp_all,_,0,r.rev,Fe _ rfl⟩
 ·cases r1;obtain⟨t,rfl⟩:=r3;obtain⟨za,r,J,hz⟩:=F.tuple Z;have R:=r.length;show wpAny (Ja X.prog X.w) X.A (uw e (.Slice Aa Aa (da st) p2) (.ref a) (.ref z.heap.objs.size)) (EP X j O Q) X.xe { z with heap:=z.heap.push { cls:=.type "slice",data:=.fields #[.none,.none,.int (-1) t] } }
  refine ul (ops:=[.ref a,.ref z.heap.objs.size]) J.typeIs Sj.lookup ?_ (by with_unfolding_all rfl)
  refine HT.getItem_tuple_rev J (Zd.new ..) ?_ (by lia)
  refine⟨.ref _,_,F.laid (t':=z.toks) (o:=.tup Y.reverse) (λb ob q=>Ac _ q) (Jb _) ?_,rfl,q _ (F.hok.fresh (Jb _))⟩;exact⟨by simp_all,_,r.rev,TupD.new _ _⟩
end L2
namespace Z
open PySem L2
section
variable {X:Cx}{pos:Pos}{a b e:Na}{es:List Na}{ta tb te:UE}{ts:UA}
def Fm  : PA X [] (lA X λ_ G Q _=>Q [] G):=by
 refine KD.imp λF H z h=>?_;obtain⟨I,G,Q,E,y,q,h,j,lx⟩:=h;exact j [] [] G H rfl q (Fr.refl _ _) h
def Pm  (ha:PE X e (lE X te))(hr:PA X es (lA X ts))(hs:Uc (e::es) X.env=(ua,Lb e X.env)::Uc es X.env):PA X (e::es) (lA X λq G Q E=>te q G (λx z=>ts q z (λxs I=>Q (x::xs) I) E) E):=by
 refine(tq ha hr hs).imp λσ H Q0 h=>?_;obtain⟨q,G,Q,E,y,Z,h,lv,lx⟩:=h;refine⟨q,G,_,E,y,Z,h,λx v z H1 rx j J h1=>?_,lx⟩;refine⟨q,z,_,E,y.ts (J.ts Z),j,h1,λxs Y I H2 O F R h2=>?_,lx.fr J⟩;exact lv (x::xs) (v::Y) I H2 ⟨v,Y,rfl,rx.ts (R.ts j),O⟩ F (J.trans R) h2
def YO   (h:PA X es (lA X ts)):PE X (.Tuple es k pos) (lE X λy G Q E=>ts y G (λus z=>us.length<=db/\Q (.tup us) z) E):=
 (WP h).imp λO H J h=>lE.many h λus R G Y Q r F q j=>⟨by rw[<- r.length];exact q.1,λp I=>j.tup I r F q.2⟩
def YM  (h:PA X es (lA X ts)):PE X (.List es pos) (lE X λy G Q E=>ts y G (λus z=>us.length<=db/\newO z (.lst us) Q) E):=
 (QP h).imp λO H J h=>lE.many h λus R G Y Q r F q j=>⟨by rw[<- r.length];exact q.1,λp I=>j.lst I r F q.2⟩
def rDix  : R2:=λx y H Q=>∃a v,x=.ref a/\DGet H a y (da v)/\Q v H
def tQ  (hu:X.A.units+1<Sb):fj X rDix:=by
 intro z F J s σ H x y v u Q I Y O h R;obtain⟨a,w,rfl,g,q⟩:=h;cases Y;exact PyProof.Rows.tail_any (SV I g) PySem.F.slot_dict_getitem.lookup (xT hu I g O λw' s3 Z j=>⟨w,H,Z,j,q⟩) R
def AD {H:Hp}{G:Gp}{y:U}{q:V}{Q:K1}{j:VK}{a:Ca}{xs:List U}{vs:List V}(h:match y with|.int i=>(match atI xs i with|some u=>Q u G|none=>False)|_=>False)
  (F:RU X.K H y q) (I:HR X.K H G) (z:LV X H G Q j) (sq:Qc X.K H a vs) (rs:Kb X.K H xs vs):yx X.K (.ref a) q H j:=by
 cases y with
 |int i=>
  cases F;dsimp only at h;split at h
  ·rename_i u e;obtain⟨w,J,r⟩:=rs.atI e;exact .inl ⟨_,vs,_,w,rfl,rfl,sq,J,z.here r I h⟩
  lia
 |_=>lia
def UN        (Z:RU X.K H x v)(F:RU X.K H y v')(j:HR X.K H G)(h:Ce x y G Q)(z:LV X H G Q Q0):yx X.K v v' H Q0\/rDix v v' H Q0:=by
 cases x<;>try exact h.elim
 ·cases y<;>try exact h.elim
  cases Z;cases F;obtain⟨h1,h⟩:=h;split at h
  ·rename_i c R;exact .inl (.inr (.inr ⟨_,_,c,rfl,rfl,h1,R,z.str j h⟩))
  lia
 ·cases y<;>try exact h.elim
  obtain⟨a,Y,rfl,e,q⟩:=Z;cases F;unfold Ce at h;dsimp only at h;split at h
  ·rename_i u R;obtain⟨w,I,r⟩:=q.atI R;exact .inl (.inr (.inl ⟨a,Y,_,w,rfl,rfl,.of e,I,z.here r j h⟩))
  lia
 ·cases Z;unfold Ce at h;dsimp only at h;split at h
  ·rename_i g;obtain⟨Y,e,q⟩:=j.lst g;exact .inl (AD h F j z (.of e) q)
  ·rename_i g;obtain⟨ob,Y,e,q⟩:=j _ _ g;exact .inl (AD h F j z (.inl (.inr ⟨ob,e⟩)) q)
  ·rename_i O g;obtain⟨l,e,q⟩:=j _ _ g;split at h
   ·rename_i k J;have:=nk F J;subst this;split at h
    ·rename_i u eu;have:=Yn k q;rw[eu]at this;obtain⟨w,I,r⟩:=this;exact .inr ⟨_,w,rfl,by rw[<- I];exact DGet.k e,z.here r j h⟩
    lia
   lia
  ·rename_i O g;obtain⟨l,e,q⟩:=j _ _ g;split at h
   ·rename_i ys;obtain⟨b,bs,rfl,eb,rb⟩:=F;split at h
    ·rename_i k J;have:=Du rb J;subst this;split at h
     ·rename_i u eu;have:=Yn k q;rw[eu]at this;obtain⟨w,I,r⟩:=this;exact .inr ⟨_,w,rfl,by rw[<- I];exact DGet.t e eb,z.here r j h⟩
     lia
    lia
   lia
  ·rename_i o O g;obtain⟨l,e,q⟩:=j _ _ g;split at h
   ·rename_i k J;have:=nk F J;subst this;split at h
    ·rename_i u eu;have:=Yn k q;rw[eu]at this;obtain⟨w,I,r⟩:=this;exact .inr ⟨_,w,rfl,by rw[<- I];exact .inl ⟨l,k,.inr ⟨o,e⟩,rfl,rfl⟩,z.here r j h⟩
    lia
   lia
  lia
def u_ix  (hu:X.A.units+1<Sb)(Z:PE X a (lE X ta))(O:PE X b (lE X tb))(hs:Dy b):PE X (.Subscript a b pos) (lE X λj G Q E=>ta j G (λx I=>tb j I (λy Y=>Ce x y Y Q) E) E):=
 (rN ((VN (X:=X)).or (tQ hu)) Z O hs).imp λσ H Q0 h=>lE.two h λx y v v' G H' Q R F J q z=>UN R F J q z
def u_no  : PO X Aa (lO X λ_ G Q _=>Q Aa G):=qS.imp λF H z h=>by
 obtain⟨I,G,Q,E,y,q,h,j,lx⟩:=h;exact j Aa G H q (Fr.refl _ _) h
def u_so (O:PE X e (lE X te)):PO X (da e) (lO X λj G Q E=>te j G (λx y=>match x with|.int i=>Q (da i) y|_=>False) E):=(rS O).imp λσ H Z h=>by
 obtain⟨j,G,Q,E,q,F,h,R,lx⟩:=h;refine⟨j,G,_,E,q,F,h,λx v y Y I J f1 z=>?_,lx⟩;dsimp only at z;split at z
 ·cases I
  grind
 lia
def u_sl     (ha:PE X e (lE X te))(hl:PO X lo (lO X tl))(hh:PO X hi (lO X th)) :
  PE X (.Subscript e (.Slice lo hi Aa p2) pos) (lE X λO G Q E=>te O G (λx G1=>tl O G1 (λl G2=>th O G2 (λh G3=>Gh x l h G3 Q) E) E) E):=by
 refine(RT (Eh.or (zR (X:=X)) (Eh.or yR vP)) ha hl hh).imp λσ H Q0 h=>?_;obtain⟨O,G,Q,E,I,hG,h,lv,lx⟩:=h;refine⟨O,G,_,E,I,hG,h,λx v G1 H1 rx J Z h1=>?_,lx⟩;refine⟨O,G1,_,E,I.ts (Z.ts hG),J,h1,λl G2 H2 Y f2 h2=>?_,lx.fr Z⟩;refine⟨O,G2,_,E,(I.ts (Z.ts hG)).ts (f2.ts J),Y,h2,λu G3 H3 q f3 y=>?_,lx.fr (Z.trans f2)⟩;have F:=lv.fr ((Z.trans f2).trans f3);have R:=rx.ts ((f2.ts J).trans (f3.ts Y));cases x<;>try exact y.elim
 ·cases R;exact .inr (.inr ⟨_,rfl,y.1,F.str q y.2⟩)
 ·obtain⟨a,j,rfl,ea,rs⟩:=R;by_cases z:HT.sIx j.length 0 l=0/\HT.sIx j.length j.length u=j.length
  ·refine .inl (.inr ⟨a,j,rfl,.of ea,z,?_⟩);refine F.here (w:=.tup _) ⟨a,j,rfl,ea,?_⟩ q y;have e2:cutV j l u=j:=by unfold cutV;simp_all
   have:=rs.cut l u
   lia
  ·exact .inl (.inl ⟨a,j,rfl,.of ea,z,λp hp=>F.tup hp (rs.cut l u) q y⟩)
 ·cases R;unfold Gh at y;dsimp only at y;split at y
  ·rename_i us eu;obtain⟨j,sq,rs⟩:=q.ls eu;exact .inr (.inl ⟨_,j,rfl,sq,λp hp=>F.lst hp (rs.cut l u) q y⟩)
  lia
def SC    (ha:PE X a (lE X ta))(hb:PE X st (lE X tb)):PE X (.Subscript a (.Slice Aa Aa (da st) p2) pos) (lE X λY G Q E=>ta Y G (λx G1=>tb Y G1 (λy G2=>revU x y G2 Q) E) E):=by
 refine(iS ha hb).imp λσ H Q0 h=>lE.two h λx y v v' G H' Q R O I q J=>?_;cases x<;>try exact q.elim
 all_goals cases y<;>try exact q.elim
 ·obtain⟨a,z,rfl,Z,F⟩:=R;cases O;obtain⟨rfl,q⟩:=q;exact .inr ⟨a,z,rfl,.of Z,rfl,λp j=>J.tup j F.reverse I q⟩
 ·cases R;cases O;unfold revU at q;dsimp only at q;split at q
  ·rename_i us eu;obtain⟨z,sq,F⟩:=I.ls eu;obtain⟨hi,q⟩:=q;rcases hi with rfl|rfl
   ·exact .inl ⟨_,z,rfl,sq,.inl ⟨rfl,λp j=>J.lst j F I q⟩⟩
   ·exact .inl ⟨_,z,rfl,sq,.inr ⟨rfl,λp j=>J.lst j F.reverse I q⟩⟩
  lia
end
end Z

namespace L2
open PySem PySem.Spec PyProof.Rows
section
variable {X:Cx}
def QS  (y:X.calm=ma):rf X (.builtin "all") (λxs H Q=>∃(p:Ca) (bs:List Bool),xs=[.ref p]/\Qc X.K H p (bs.map V.bl)/\Q (.bl (bs.all id)) H):=by
 rintro j s Z H xs us Q I r ⟨p,bs,rfl,hq,q⟩;obtain⟨u,rfl,z⟩:=fh r;cases z;obtain⟨F,O,wr,P,S,R,W,Y,tr,kp⟩:=yV y I hq ma;exact call_all_walk (SA R ⟨_,O,wr,_,P,S,_,rfl,W,Y,tr,λJ tk hk=>⟨.bl _,H,I.kept (kp J hk),congrArg Wv (LSm.range_all bs),q⟩⟩)
end
end L2
namespace Z
open PySem L2
noncomputable def bltN  : Blt->Str
 |.len => "len" |.repr => "repr" |.min => "min" |.max => "max" |.sum => "sum" |.all => "all" |.any => "any" |.sorted => "sorted" |.int => "int" |.str => "str" |.isi => "isinstance"
noncomputable def bltV  : Blt->Da
 |.len=>.builtin "len" |.repr=>.builtin "repr" |.min=>.builtin "min" |.max=>.builtin "max" |.sum=>.builtin "sum" |.all=>.builtin "all" |.any=>.builtin "any" |.sorted=>.builtin "sorted" |.int=>.type "int" |.str=>.type "str" |.isi=>.builtin "isinstance"
theorem yz    : ∀ns:List Int,Kb K H (ns.map .int) (ns.map V.int)
 |[]=>rfl
 |_::r=>⟨_,_,rfl,rfl,yz r⟩
theorem Oy     : ∀{kvs:List (κ×U)} {l },Bd K H kvs l->kvs.map (·.1)=l.map (·.1)
 |[],_,h=>by cases h;rfl
 |(k,u)::r,_,h=>by
  obtain⟨v,q,rfl,_,j⟩:=h;rw[He,He,Oy j]

def Kb.one      (r:Kb K H [u] vs):∃v,vs=[v]/\RU K H u v:=by
 obtain⟨v,q,rfl,r1,j⟩:=r;cases j
 lia
def Kb.two      (r:Kb K H [u,w] vs):∃v j,vs=[v,j]/\RU K H u v/\RU K H w j:=by
 obtain⟨v,y,rfl,r1,q⟩:=r;obtain⟨j,rfl,r2⟩:=q.one
 lia
def yQ   K:∀t∈["NoneType", "bool", "int", "str", "list", "tuple", "dict"],∀c∈["bool", "int", "str", "list", "tuple", "dict"],gw K (.type t) (.type c)=da (t==c||(t == "bool" && c == "int")):=by
 simp only[List.forall_mem_cons,Qg,false_implies,implies_true,and_true];refine⟨?_,?_,?_,?_,?_,?_,?_⟩<;>refine⟨?_,?_,?_,?_,?_,?_⟩<;>rfl
def MR     (h:Er x G=da n):n∈["NoneType", "bool", "int", "str", "list", "tuple", "dict"]:=by
 unfold Er at h;split at h<;>first|(cases h;decide)|(split at h<;>first|(cases h;decide)|cases h)|cases h
def rQ  {X: Cx}(r:RU X.K H x v)(j:HR X.K H G)(h:isiU x G t=da b):∃y,TyOf X.K H v y/\gw X.K y (.type t)=da b:=by
 unfold isiU at h;split at h
 ·rename_i n en;split at h
  ·rename_i z;cases h;refine⟨.type n,?_,yQ X.K n (MR en) t z⟩;unfold Er at en;split at en
   ·cases en;cases r;exact .non
   ·cases en;cases r;exact .bl _
   ·cases en;cases r;exact .int _
   ·cases en;cases r;exact .str _
   ·cases en;obtain⟨a,q,rfl,e,_⟩:=r;exact .tup e
   ·cases r;split at en
    ·rename_i g;cases en;obtain⟨q,e,_⟩:=j.lst g;exact .lst e
    ·rename_i g;cases en;obtain⟨q,e,_⟩:=j _ _ g;exact .dK e
    ·rename_i g;cases en;obtain⟨q,e,_⟩:=j _ _ g;exact .dT e
    lia
   lia
  lia
 lia
def GL  (X:Cx)(b:Blt):Prop:=∃r,rf X (bltV b) r/\∀y j G H Q q,Kb X.K H y j->HR X.K H G->bltU b y G Q->LV X H G Q q->r j H q
def CO   (hr:Room k X.A)(hc:X.calm=ma) b:GL X b:=by
 cases b with
 |len=>
  refine⟨_,rf.or (RS (X:=X)) uT,λF vs G H Q Q0 r z h I=>?_⟩
  change lenU F G Q at h
  obtain _|⟨x,t⟩:=F<;>try exact h.elim
  cases x<;>try exact h.elim
  all_goals obtain _|⟨_,_⟩:=t<;>try exact h.elim
  all_goals obtain⟨v,rfl,r1⟩:=r.one
  ·cases r1;exact .inl ⟨_,_,rfl,⟨h.1,rfl⟩,I.int z h.2⟩
  ·obtain⟨a,R,rfl,e,J⟩:=r1;exact .inl ⟨_,_,rfl,.inr ⟨R,.of e,rfl⟩,by rw[<- J.length];exact I.int z h⟩
  ·cases r1;unfold lenU at h;dsimp only at h;split at h
   ·rename_i g;obtain⟨R,e,J⟩:=z.lst g;exact .inl ⟨_,_,rfl,.inl ⟨R,.of e,rfl⟩,by rw[<- J.length];exact I.int z h⟩
   ·rename_i g;obtain⟨ob,R,e,J⟩:=z _ _ g;exact .inl ⟨_,_,rfl,.inl ⟨R,.inl (.inr ⟨ob,e⟩),rfl⟩,by rw[<- J.length];exact I.int z h⟩
   ·rename_i O g;obtain⟨l,e,J⟩:=z _ _ g;refine .inr ⟨_,l,rfl,e,?_⟩;have:∀{O:List (Wb×U)} {l:List (Wb×V)},Bd X.K H O l->O.length=l.length:=by
     intro O
     induction O with
     |nil=>intro l r;cases r;rfl
     |cons p q ih=>intro l r;obtain⟨v,l',rfl,_,J⟩:=r;simp[ih J]
    rw[<- this J];exact I.int z h
   ·exact h.elim
 |repr=>
  refine⟨_,AV hr,λF vs G H Q Q0 r z h I=>?_⟩
  change sj F G Q at h
  obtain _|⟨x,_|⟨_,_⟩⟩:=F<;>try exact h.elim
  obtain⟨v,rfl,r1⟩:=r.one;obtain⟨d,h1,h2,h3⟩:=h;exact⟨v,d,rfl,h1.dv z r1,h2,I.str z h3⟩
 |min=>
  refine⟨_,vT hc,λF vs G H Q Q0 r z h I=>?_⟩
  change minU F G Q at h
  obtain _|⟨x,t⟩:=F<;>try exact h.elim
  cases x<;>try exact h.elim
  obtain _|⟨y,t⟩:=t<;>try exact h.elim
  cases y<;>try exact h.elim
  obtain _|⟨_,_⟩:=t<;>try exact h.elim
  obtain⟨v,v',rfl,r1,r2⟩:=r.two;cases r1;cases r2;exact⟨_,_,rfl,I.int z h⟩
 |max=>exact⟨λ_ _ _=>False,λ_ _ _ _ _ _ _ _ _ h=>h.elim,λ_ _ _ _ _ _ _ _ h _=>h.elim⟩
 |sum=>
  refine⟨_,SS hc,λF vs G H Q Q0 r z h I=>?_⟩
  change sumU F G Q at h
  obtain _|⟨x,t⟩:=F<;>try exact h.elim
  cases x<;>try exact h.elim
  all_goals obtain _|⟨_,_⟩:=t<;>try exact h.elim
  obtain⟨v,rfl,r1⟩:=r.one;cases r1;unfold sumU at h;dsimp only at h;split at h
  ·rename_i g;obtain⟨R,e,J⟩:=z.lst g;split at h
   ·rename_i ns en;have:=J.ints en;subst this;exact⟨_,ns,rfl,.of e,I.int z h⟩
   ·exact h.elim
  ·exact h.elim
 |any=>exact⟨λ_ _ _=>False,λ_ _ _ _ _ _ _ _ _ h=>h.elim,λ_ _ _ _ _ _ _ _ h _=>h.elim⟩
 |all=>
  refine⟨_,QS hc,λF vs G H Q Q0 r z h I=>?_⟩
  change allU F G Q at h
  obtain _|⟨x,t⟩:=F<;>try exact h.elim
  cases x<;>try exact h.elim
  all_goals obtain _|⟨_,_⟩:=t<;>try exact h.elim
  obtain⟨v,rfl,r1⟩:=r.one;cases r1;unfold allU at h;dsimp only at h;split at h
  ·rename_i g;obtain⟨R,e,J⟩:=z.lst g;split at h
   ·rename_i ns en;have:=J.bools en;subst this;exact⟨_,ns,rfl,.of e,I.bl z h⟩
   ·exact h.elim
  ·exact h.elim
 |sorted=>
  refine⟨_,(kW hc (by have:=hr.un;lia)).or (vW hc),λF vs G H Q Q0 r z h I=>?_⟩
  change Zn F G Q at h
  unfold Zn at h;split at h<;>first|exact h.elim|skip
  obtain⟨v,rfl,r1⟩:=r.one;cases r1;split at h<;>first|exact h.elim|skip
  ·rename_i F g;obtain⟨R,e,J⟩:=z.lst g;obtain⟨ks,ja,xa,hl,hk,q⟩:=h;refine .inl ⟨_,R,ks,rfl,.inl (.of e),by rw[<- J.length];exact hl,ja,by rw[<- J.length];exact xa,?_,λl π hn hp hs=>?_⟩
   ·rcases hk with⟨ns,rfl,rfl⟩|⟨as,rfl,hk⟩|⟨rfl,hk⟩
    ·refine .inl λi v k e1 Y=>?_;rw[md]at Y;cases en:ns[i]? with
     |none=>rw[en]at Y;cases Y
     |some n=>
      rw[en]at Y;cases Y;obtain⟨v',Z,r3⟩:=J.get (i:=i) (u:=.int n) (by rw[md,en];rfl)
      rw[e1]at Z;cases Z;exact⟨n,r3,rfl⟩
    ·refine .inr (.inl λi v k e1 Y=>?_);have hi:i<as.length:=by
      have:=(Ba.mp e1).1;rw[<- J.length,Ab]at this;exact this
     obtain⟨v',Z,r3⟩:=J.get (i:=i) (u:=.loc as[i]) (by rw[md,Bc hi];rfl)
     rw[e1]at Z;cases Z;obtain⟨va,e4,r4⟩:=z.lst (hk i _ k (Bc hi) Y);rw[xz r4]at e4;exact⟨as[i],r3,.inl (.of e4)⟩
    ·refine .inr (.inr λi v k e1 Y=>⟨?_,hk k (Pd Y)⟩);obtain⟨v',Z,r3⟩:=J.get (i:=i) (u:=.tup (k.map .int)) (by rw[md,Y];rfl)
     rw[e1]at Z;cases Z;obtain⟨t,va,rfl,et,rt⟩:=r3;rw[xz rt]at et;exact⟨t,rfl,.of et⟩
   ·rw[<- J.length]at hp hs;refine I.lst hn ?_ z (q π hp hs);have:∀l:List Nat,(∀i∈l,i<F.length)->Kb X.K H (l.map λi=>F.getD i .non) (l.map λi=>R.getD i .non):=λl=>by
     induction l with
     |nil=>intro _;rfl
     |cons i l ih=>
      intro za;have hi:=za i (by simp)
      obtain⟨v',Z,r3⟩:=J.get (Bc hi);refine⟨_,_,rfl,?_,ih λj hj=>za j (Oc _ hj)⟩;refine(?_:RU X.K H (F.getD i .non) (R.getD i .non));rw[Hi,Bc hi,Hi,Z];exact r3
    exact this π λi hi=>Yb.mp (hp.mem_iff.mp hi)
  ·rename_i O g;obtain⟨ns,hk,xa,q⟩:=h;obtain⟨l,e,rk⟩:=z _ _ g;exact .inr ⟨_,l,ns,rfl,e,by rw[<- Oy rk];exact hk,xa,λp ms hp pm pw=>I.lst hp (yz _) z (q ms pm pw)⟩
 |int=>
  refine⟨_,tT.or uW,λF vs G H Q Q0 r z h I=>?_⟩
  change intU F G Q at h
  obtain _|⟨x,t⟩:=F<;>try exact h.elim
  cases x<;>try exact h.elim
  all_goals obtain _|⟨_,_⟩:=t<;>try exact h.elim
  all_goals obtain⟨v,rfl,r1⟩:=r.one
  all_goals cases r1
  ·exact .inl (.inr ⟨_,rfl,I.int z h⟩)
  ·exact .inl (.inl ⟨_,rfl,I.int z h⟩)
  ·obtain⟨n,h1,h2,h⟩:=h;exact .inr ⟨_,n,rfl,h1,h2,I.int z h⟩
 |str=>exact⟨λ_ _ _=>False,λ_ _ _ _ _ _ _ _ _ h=>h.elim,λ_ _ _ _ _ _ _ _ h _=>h.elim⟩
 |isi=>
  refine⟨_,RV,λF vs G H Q Q0 r z h I=>?_⟩
  change Gm F G Q at h
  obtain _|⟨x,_|⟨y,t⟩⟩:=F<;>try exact h.elim
  cases y<;>try exact h.elim
  obtain _|⟨_,_⟩:=t<;>try exact h.elim
  rename_i t;obtain⟨v,v',rfl,r1,r2⟩:=r.two;cases r2;unfold Gm at h;dsimp only at h;split at h
  ·rename_i b eb;obtain⟨tv,h1,h2⟩:=rQ r1 z eb;exact⟨v,t,tv,b,rfl,h1,h2,I.bl z h⟩
  ·exact h.elim
def OS   b:Pj (bltN b)=da (bltV b):=by
 cases b with
 |len=>exact PySem.boot_len
 |repr=>exact(by with_unfolding_all rfl)
 |min=>exact PyProof.Rows.boot_min
 |max=>exact PyProof.Rows.boot_max
 |sum=>exact PyProof.Rows.boot_sum
 |any=>exact PyProof.Rows.boot_any
 |all=>exact PyProof.Rows.boot_all
 |sorted=>exact PyProof.Rows.boot_sorted
 |int=>exact PyProof.Rows.boot_int
 |str=>exact PyProof.Rows.boot_str
 |isi=>exact PyProof.Rows.boot_isinstance
def fP   b:bltN b ≠ "__name__" /\ (bltN b==("__debug__" : Str))=ua:=by cases b<;>decide
def UM       (hb:GL X b)(hg:Gl X (bltN b))(O:X.mg (bltN b)=Aa)(Y:PA X (e::es) (lA X ts))
  (he:Uc (e::es) X.env=(ua,Lb e X.env)::Uc es X.env) (y:(Jc pos (Uc es X.env)).any (·.1)=ua) :
  PE X (.Call (.Name (bltN b) p) (e::es) [] pos) (lE X λJ G Q E=>ts J G (λus F=>bltU b us F Q) E):=by
 obtain⟨r,h1,h2⟩:=hb;have j:∀I H z,lE X (λJ G Q E=>ts J G (λus F=>bltU b us F Q) E) I H z->ux r (lA X ts) I H z:=λI H z h=>lE.many h λus vs G H' Q rs hG q lv=>h2 us vs G H' Q z rs hG q lv;have Z:=OS b;obtain⟨n1,R⟩:=fP b;cases b
 all_goals first
  |exact(MT h1 hg O Z Y n1 R he y).imp j
  |exact(uv h1 hg O Z Y n1 R he y).imp j
noncomputable def mthN  : Mth->Str
 |.append => "append" |.extend => "extend" |.insert => "insert" |.pop => "pop" |.reverse => "reverse" |.index => "index" |.join => "join" |.get => "get" |.split => "split" |.setd => "setdefault" |.clear => "clear" |.count => "count" |.upper => "upper"
section
variable {X:Cx}
def Kb.mk        (r:RU K H u v)(rs:Kb K H us vs):Kb K H (u::us) (v::vs):=⟨v,vs,rfl,r,rs⟩
structure YW (X:Cx)(m:Mth)(T id:String):Prop where
 pa:PlainAttrs T
 sl:Slot T (mthN m) id
 ty:typeOf (.builtin id)=pure (.type "method_descriptor")
def ol  (X:Cx)(m:Mth):Prop:=∀x z T j,Ie m x z=da (T,j)->YW X m T j/\(∀v q,RU X.K q x v->HR X.K q z->qx X.K T v q)/\
 ∃r,Tj X j r/\∀I v F G H Q y,RU X.K H x v->Kb X.K H I F->HR X.K H G->Td m x I G Q->LV X H G Q y->r v F H y
def Bu     (g:G a=da (.lst us)):∀v j,RU X.K j (.loc a) v->HR X.K j G->qx X.K "list" v j:=λv j r q=>by
 cases r;obtain⟨y,e,_⟩:=q.lst g;exact .inl ⟨rfl,y,.of e⟩
def VU  : ol X .append:=by
 intro x Y T Z h;dsimp only[Ie]at h;cases x<;>try (cases h;done)
 dsimp only at h;split at h
 ·rename_i g;cases h;refine⟨⟨Gw,PySem.F.slot_list_append,PySem.F.type_list_append⟩,Bu g,_,cG,λus v vs G H Q R I J j h z=>?_⟩;cases I;dsimp only[Td]at h;obtain _|⟨_,_|⟨_,_⟩⟩:=us<;>try exact h.elim
  unfold Ey at h;dsimp only at h;split at h
  ·rename_i q;obtain⟨O,e,r⟩:=j.lst q;obtain⟨y,rfl,F⟩:=J.one;refine⟨_,O,y,rfl,rfl,e,by rw[<- r.length];exact h.1,?_⟩
   exact z.wl q (r.append (Kb.mk (us:=[]) (vs:=[]) F rfl)) j (w:=.non) rfl h.2
  ·exact h.elim
 ·cases h
def WU  : ol X .extend:=by
 intro x G1 T id h;dsimp only[Ie]at h;cases x<;>try (cases h;done)
 dsimp only at h;split at h
 ·rename_i g;cases h;refine⟨⟨Gw,PySem.F.slot_list_extend,PySem.F.type_list_extend⟩,Bu g,_,SU,λZ v vs G H Q Q0 R Y j h F=>?_⟩;cases R;dsimp only[Td]at h;obtain _|⟨y0,t⟩:=Z<;>try exact h.elim
  cases y0<;>try exact h.elim
  obtain _|⟨_,_⟩:=t<;>try exact h.elim
  unfold Iy at h;dsimp only at h;split at h
  ·rename_i q g3;obtain⟨ws,e,r⟩:=j.lst q;obtain⟨J,O,z⟩:=j.lst g3;obtain⟨y,rfl,I⟩:=Y.one;cases I;refine⟨_,_,ws,J,rfl,rfl,e,O,by rw[<- r.length,<- z.length];exact h.1,?_⟩
   exact F.wl q (r.append z) j (w:=.non) rfl h.2
  ·exact h.elim
 ·cases h
def wO  : ol X .pop:=by
 intro x G1 T id h;dsimp only[Ie]at h;cases x<;>try (cases h;done)
 dsimp only at h;split at h
 ·rename_i g;cases h;refine⟨⟨Gw,PySem.F.slot_list_pop,PySem.F.type_list_pop⟩,Bu g,_,Tj.or (mt_pop (X:=X)) nU,λZ v vs G H Q Q0 Y O z h J=>?_⟩;cases Y;dsimp only[Td]at h;obtain _|⟨y0,t⟩:=Z
  ·unfold popU at h;dsimp only at h;split at h
   ·rename_i q;obtain⟨I,e,r⟩:=z.lst q;cases O;split at h
    ·rename_i u eu;obtain⟨y,F,j⟩:=r.get eu;rw[r.length]at F;exact .inl ⟨_,I,y,rfl,rfl,e,F,J.wl q r.dropLast z j h⟩
    ·exact h.elim
   ·exact h.elim
  ·cases y0<;>try exact h.elim
   obtain _|⟨_,_⟩:=t<;>try exact h.elim
   unfold popU at h;dsimp only at h;split at h
   ·rename_i q;obtain⟨I,e,r⟩:=z.lst q;obtain⟨y,rfl,j⟩:=O.one;cases j;obtain⟨h1,h2,h⟩:=h;split at h
    ·rename_i k R;split at h
     ·rename_i u eu;obtain⟨y,F,j⟩:=r.get eu;exact .inr ⟨_,I,_,k,y,rfl,rfl,e,h1,h2,by rw[<- r.length];exact R,F,J.wl q (r.erase k) z j h⟩
     ·exact h.elim
    ·exact h.elim
   ·exact h.elim
 ·cases h
def oU  : ol X .index:=by
 intro x G1 T id h;dsimp only[Ie]at h;split at h<;>first|contradiction|skip
 ·split at h
  ·rename_i g;cases h;refine⟨⟨Gw,PySem.F.slot_list_index,PySem.F.type_list_index⟩,Bu g,_,TU,λus v vs G H Q Z J O j h q=>?_⟩;cases J;dsimp only[Td]at h;unfold Mu at h;split at h<;>first|exact h.elim|contradiction|skip
   rename_i F;cases F;split at h
   ·rename_i g2;obtain⟨Y,e,r⟩:=j.lst g2;obtain⟨y,rfl,z⟩:=O.one;cases z;split at h
    ·rename_i I R;have:=r.strs R;subst this;exact⟨_,I,_,rfl,rfl,.of e,h.1,q.int j h.2⟩
    ·exact h.elim
   ·exact h.elim
  ·cases h
 ·cases h;refine⟨⟨PySem.F.plainAttrs_tuple,PySem.F.slot_tuple_index,PySem.F.type_tuple_index⟩,λv H1 r j=>?_,_,UU,λus v vs G H Q Z J O j h q=>?_⟩
  ·obtain⟨a,Y,rfl,e,_⟩:=r;exact .inr (.inr (.inr (.inr ⟨rfl,Y,e⟩)))
  ·obtain⟨a,Y,rfl,e,r⟩:=J;dsimp only[Td]at h;unfold Mu at h;split at h<;>first|exact h.elim|contradiction|skip
   rename_i F;cases F;obtain⟨y,rfl,z⟩:=O.one;cases z;split at h
   ·rename_i I R;have:=r.strs R;subst this;exact⟨_,I,_,rfl,rfl,.of e,h.1,q.int j h.2⟩
   ·exact h.elim
def Bd.put   [DecidableEq κ](r:RU K H u v):∀{kvs } {l:List (κ×V)},Bd K H kvs l->Bd K H (dPut kvs k u) (putK l k v):=by
 intro kvs l h;have any:∀{kvs:List (κ×U)} {l:List (κ×V)},Bd K H kvs l->(kvs.any λj=>decide (j.1=k))=l.any λj=>decide (j.1=k):=by
  intro kvs
  induction kvs with
  |nil=>intro l h;cases h;rfl
  |cons p q I=>intro l h;obtain⟨w,J,rfl,_,F⟩:=h;grind
 have repl:∀{kvs:List (κ×U)} {l:List (κ×V)},Bd K H kvs l->Bd K H (kvs.map λj=>if j.1=k then (j.1,u) else j) (l.map λj=>if j.1=k then (j.1,v) else j):=by
  intro kvs
  induction kvs with
  |nil=>intro l h;cases h;rfl
  |cons p q I=>
   intro l h;obtain⟨O,R⟩:=p;obtain⟨w,J,rfl,y,F⟩:=h;simp only[He];by_cases e:O=k
   ·rw[if_pos e,if_pos e];exact⟨v,_,rfl,r,I F⟩
   ·rw[if_neg e,if_neg e];exact⟨w,_,rfl,y,I F⟩
 have snoc:∀{kvs:List (κ×U)} {l:List (κ×V)},Bd K H kvs l->Bd K H (kvs++[(k,u)]) (l++[(k,v)]):=by
  intro kvs
  induction kvs with
  |nil=>intro l h;cases h;exact⟨v,[],rfl,r,rfl⟩
  |cons p q I=>intro l h;obtain⟨O,R⟩:=p;obtain⟨w,J,rfl,y,F⟩:=h;exact⟨w,_,rfl,y,I F⟩
 unfold dPut putK
 grind
theorem Bd.length     : ∀{kvs:List (κ×U)} {l },Bd K H kvs l->kvs.length=l.length
 |[],_,h=>by cases h;rfl
 |(_,_)::_,_,h=>by obtain⟨v,q,rfl,_,j⟩:=h;simp[j.length]
theorem Vy    : ∀{k:List Wb} {bs },Kb K H (k.map Ku) bs->bs=k.map kV
 |[],_,h=>h
 |.inl z::k,_,h=>by
  obtain⟨v,q,rfl,r,j⟩:=h;rw[show v=.int z from r,Vy j];rfl
 |.inr x::k,_,h=>by
  obtain⟨v,q,rfl,r,j⟩:=h;rw[show v=.str x from r,Vy j];rfl
def rGet  : V->List V->Hp->VK->Prop:=λx j H Q=>∃a y d o,x=.ref a/\j=[y,d]/\DGet H a y o/\Q (o.getD d) H
def HD  (hu:X.A.units+1<Sb):Tj X "dict.get" rGet:=by
 intro j s Z H x vs z us Q I O R h;obtain⟨a,y,d,o,rfl,rfl,g,q⟩:=h;cases(show z=Bg a from O);obtain⟨u,r,rfl,F,rr⟩:=Vals.two R;exact FO hu I g F rr λw' s' J Y=>⟨_,_,J,Y,q⟩
def ZE   [DecidableEq κ](k:κ)(z:Bd K H kvs l)(rd:RU K H d w):RU K H ((dGet kvs k).getD d) ((valV l k).getD w):=by
 have j:=Yn k z;cases e:dGet kvs k with
 |none=>rw[e]at j;rw[show valV l k=Aa from j];exact rd
 |some u=>rw[e]at j;obtain⟨v,y,q⟩:=j;rw[y];exact q
def vO  (hu:X.A.units+1<Sb):ol X .get:=by
 intro x G1 T id h;dsimp only[Ie]at h;split at h<;>first|contradiction|skip
 have J:∀(q:List U) (v:V) (F:List V) (G:Gp) (H:Hp) (Q:K1) (z:VK) (a:Ca),RU X.K H (.loc a) v->Kb X.K H q F->HR X.K H G->getU (.loc a) q G Q->LV X H G Q z->rGet v F H z:=λq v F G H Q z a O R j h I=>by
  cases O;obtain _|⟨y,_|⟨w,_|⟨_,_⟩⟩⟩:=q<;>try exact h.elim
  unfold getU at h;dsimp only at h;obtain⟨y',za,rfl,ry,xa⟩:=R;obtain⟨w',rfl,Y⟩:=xa.one;split at h<;>first|exact h.elim|skip
  ·rename_i Z g2;split at h<;>first|exact h.elim|skip
   rename_i k ek;obtain⟨l,e,rk⟩:=j _ _ g2;have:=nk ry ek;subst this;exact⟨_,_,_,_,rfl,rfl,.k e,I.here (ZE k rk Y) j h⟩
  ·rename_i Z g2;obtain⟨k,rfl,h⟩:=h;obtain⟨l,e,rk⟩:=j _ _ g2;obtain⟨b,bs,rfl,eb,rb⟩:=ry;rw[Vy rb]at eb;exact⟨_,_,_,_,rfl,rfl,.t e eb,I.here (ZE k rk Y) j h⟩
 split at h<;>first|contradiction|skip
 ·rename_i g;cases h;refine⟨⟨Fw,Cw,SK⟩,λv H1 r j=>?_,_,HD hu,λq v F G H Q z O R j h I=>J q v F G H Q z _ O R j h I⟩;cases r;obtain⟨l,e,_⟩:=j _ _ g;exact .inr (.inr (.inl ⟨rfl,.inl ⟨l,e⟩⟩))
 ·rename_i g;cases h;refine⟨⟨Fw,Cw,SK⟩,λv H1 r j=>?_,_,HD hu,λq v F G H Q z O R j h I=>J q v F G H Q z _ O R j h I⟩;cases r;obtain⟨l,e,_⟩:=j _ _ g;exact .inr (.inr (.inl ⟨rfl,.inr ⟨l,e⟩⟩))
def wy  (hu:X.A.units+1<Sb) m:ol X m:=by
 cases m with
 |append=>exact VU
 |extend=>exact WU
 |insert=>intro x j T q h;cases h
 |pop=>exact wO
 |reverse=>intro x j T q h;cases h
 |index=>exact oU
 |join=>intro x j T q h;cases h
 |split=>intro x j T q h;cases h
 |setd=>intro x j T q h;cases h
 |clear=>intro x j T q h;cases h
 |count=>intro x j T q h;cases h
 |upper=>intro x j T q h;cases h
 |get=>exact vO hu
variable {m:Mth}{o e:Na}{es:List Na}{to:UE}{ts:UA}{apos cpos:Pos}
def cD (hm:ol X m)(ho:PE X o (lE X to))(ha:PA X (e::es) (lA X ts))(Y:Pk o (mthN m) X.env (Lb o X.env)=Lb o X.env)
  (xa:((Jc cpos (Uc (e::es) X.env)).all (λx=>!x.1)&&(backToKw cpos (keywordEach [] X.env)).all (λx=>x.1.isSome)
   && decide ((e::es).length+([]:List Keyword).length+(if ([]:List Keyword).isEmpty then 0 else 1)<30))=ma)
  (O:(apos.endLine==cpos.line)=ma) (hs:Uc (e::es) X.env=(ua,Lb e X.env)::Uc es X.env) (ja:(Jc cpos (Uc es X.env)).any (·.1)=ua) :
  PE X (.Call (.Attribute o (mthN m) apos) (e::es) [] cpos) (lE X λZ G Q E=>to Z G (λx j=>match Ie m x j with|some _=>ts Z j (λus z=>Td m x us z Q) E|none=>False) E):=by
 intro q s σ H Q0 I h;obtain⟨Z,G,Q,E,za,hG,h,lv,lx⟩:=h;refine PySem.wpAny_Call_method_late Y xa O rfl (Pb (ho q s σ H (λv F=>∃x j T id,RU X.K F x v/\HR X.K F j/\Fr H G F j/\Ie m x j=da (T,id)/\ts Z j (λus z=>Td m x us z Q) E) I
  ⟨Z,G,_,E,za,hG,h,λx v j F rx y f1 h1=>?_,lx⟩) λv s1 ⟨xv,F,I1,r1,x,j,T,id,rx,y,f1,em,h1⟩=>?_)
 ·dsimp only at h1;split at h1
  ·rename_i p ep;exact⟨x,j,p.1,p.2,rx,y,f1,ep,h1⟩
  ·exact h1.elim
 ·obtain⟨k,ya,r,va,wa⟩:=hm x j T id em;obtain⟨t1,t2⟩:=ZC I1 r1 (ya xv F rx y);refine⟨T,id,k.pa,k.sl,k.ty,t1,t2,?_⟩;have hA:=ha cpos q s1 σ F (λvs J=>∃us z,Kb X.K J us vs/\HR X.K J z/\Fr F j J z/\Td m x us z Q) I1 ⟨Z,j,_,E,za.ts (f1.ts hG),y,h1,λus vs z J rs R f2 h2=>⟨us,z,rs,R,f2,h2⟩,lx.fr f1⟩;rw[hs]at hA ⊢;refine Dw (by simp_all) (Calls.evalArgs_plain ?_)
  exact Pb hA λus s2 ⟨vs,J,I2,r2,ws,z,rs,R,f2,h2⟩=>va q s2 σ J xv vs v us Q0 I2 r1 r2 (wa ws xv vs z J Q Q0 (rx.ts (f2.ts y)) rs R h2 (lv.fr (f1.trans f2)))
def PR (hm:ol X m)(ho:PE X o (lE X to))(J:Pk o (mthN m) X.env (Lb o X.env)=Lb o X.env)(F:(apos.endLine==cpos.line)=ma) :
  PE X (.Call (.Attribute o (mthN m) apos) [] [] cpos) (lE X λς G Q E=>to ς G (λx j=>match Ie m x j with|some _=>Td m x [] j Q|none=>False) E):=by
 intro y s σ H Q0 I h;obtain⟨ς,G,Q,E,ja,hG,h,lv,lx⟩:=h;refine PySem.wpAny_Call_method0_late J F (Pb (ho y s σ H (λv z=>∃x j T Y,RU X.K z x v/\HR X.K z j/\Fr H G z j/\Ie m x j=da (T,Y)/\Td m x [] j Q) I
  ⟨ς,G,_,E,ja,hG,h,λx v j z R q f1 O=>?_,lx⟩) λv s1 ⟨xv,z,I1,r1,x,j,T,Y,R,q,f1,em,O⟩=>?_)
 ·dsimp only at O;split at O
  ·rename_i p ep;exact⟨x,j,p.1,p.2,R,q,f1,ep,O⟩
  ·exact O.elim
 ·obtain⟨k,xa,r,Z,za⟩:=hm x j T Y em;obtain⟨t1,t2⟩:=ZC I1 r1 (xa xv z R q);exact⟨T,Y,k.pa,k.sl,k.ty,t1,t2,Dw rfl (qB (Z y s1 σ z xv [] v [] Q0 I1 r1 .nil (za [] xv [] j z Q Q0 R rfl q O (lv.fr f1))))⟩
end
end Z

namespace L2
open PySem PySem.Spec PyProof.Rows

def iSeq  (K:Eb)(z:TE):TI:=λy H R=>z y H λx j=>∃a,x=.ref a/\(((∃q,Qc K j a q)/\R (AL K a) j)\/((∃q,Ic K j a q)/\R (zL K a) j))
def bQ    (hl:PE X l tl):PI X tg l (iSeq X.K tl):=by
 intro z s Y H R I h;refine Pb (hl z s Y H _ I h) λv s1 ⟨x,J,j,r1,q1⟩=>?_;obtain⟨a,e,⟨⟨O,F⟩,q⟩|⟨⟨O,F⟩,q⟩⟩:=q1
 ·subst e;cases r1;obtain⟨y,rv,p,hz⟩:=j.list F;refine SA p.isList ?_;refine⟨s1.heap.objs.size,[s1.heap.objs.size],_,_,J,rfl,j.kept (t':=s1.toks) λb o e=>Ac _ e,wV a _,⟨_,Fe _ rfl,rfl,rfl⟩,λb Z=>?_,q⟩;have e:b=s1.heap.objs.size:=by simp_all
  subst e;exact j.fpOk (Jb _) (j.hok.fresh (Jb _))
 ·subst e;cases r1;obtain⟨y,rv,p,hz⟩:=j.tuple F;refine wpAny_pyIter_tuple (show s1.heap.IsTuple a y.toArray from p) ?_;refine⟨s1.heap.objs.size,[s1.heap.objs.size],_,_,J,rfl,j.kept (t':=s1.toks) λb o e=>Ac _ e,tV a _,⟨_,Fe _ rfl,rfl,rfl⟩,λb Z=>?_,q⟩;have e:b=s1.heap.objs.size:=by simp_all
  subst e;exact j.fpOk (Jb _) (j.hok.fresh (Jb _))
def PI.imp    (h:PI X tg iter t)(i:∀j H R,t' j H R->t j H R):PI X tg iter t':=λy s j H R I q=>h y s j H R I (i j H R q)
def PG.imp    (h:PG X j t)(i:∀v y H Q,t' v y H Q->t v y H Q):PG X j t':=λF s y H v u Q I r q=>h F s y H v u Q I r (i v y H Q q)
def Uh.imp    (h:Uh X ts t)(i:∀v j H Q,t' v j H Q->t v j H Q):Uh X ts t':=λy s j H v u Q I r q=>h y s j H v u Q I r (i v j H Q q)
def PIfs.imp    (h:PIfs X ifs t)(i:∀j H Q,t' j H Q->t j H Q):PIfs X ifs t':=λy s j H Q I q=>h y s j H Q I (i j H Q q)
end L2
namespace Z
open PySem L2
abbrev UI:=Sg->Gp->(List U->(Gp->Prop)->Gp->Prop)->KX->Prop
def Cm  (K:Eb)(J:L2.It)(H:Hp)(G:Gp)(xs:List U)(ok:Gp->Prop):Prop:=∀i q y,TS H q->HR K q y->ok y->
 (∀u,xs[i]?=da u->J.go i q/\∀v j,J.yld i q v j->RU K j u v/\HR K j y/\Fr q y j y)/\(i=xs.length->J.stop i q)
def Cm.mono        (h:Cm K J H G xs ok)(t:TS H H2):Cm K J H2 G2 xs ok:=λi j q y=>h i j q (t.trans y)
section
variable (X:Cx)
def lI (t:UI):TI:=λz H R=>∃F G Q E,SR X.K H F z/\HR X.K H G/\t F G Q E/\(∀y ok q j J,HR X.K j q->Fr H G j q->Cm X.K J j q y ok->Q y ok q->R J j)/\LX X z H G E
def lG  (K:Eb)(t:U->Sg->(Sg->Prop)->Prop):TG:=λv F H z=>∃u y k,RU K H u v/\SR K H y F/\t u y k/\∀j q,SR K H j q->k j->z q H
def aq  (K:Eb)(t:List U->Sg->(Sg->Prop)->Prop):el:=λJ I H F=>∃z y k,Kb K H z J/\SR K H y I/\t z y k/\∀j q,SR K H j q->k j->F q H
end
section
variable {X:Cx}{tg:Na}{pos:Pos}{te ta tb:UE}
def u_ie   (hl:PE X l (lE X te)):PI X tg l (lI X λς G Q E=>te ς G (λx G1=>Lf x G1 λxs ok=>Q xs ok G1) E):=by
 refine(bQ hl).imp λσ H R h=>?_;obtain⟨ς,G,Q,E,za,hG,h,lv,lx⟩:=h;refine⟨ς,G,_,E,za,hG,h,λx v G1 H1 rx z f1 J=>?_,lx⟩;dsimp only at J;unfold Lf at J;split at J
 ·obtain⟨a,q,rfl,ea,rs⟩:=rx;refine⟨a,rfl,.inr ⟨⟨q,.of ea⟩,lv _ _ _ H1 _ z f1 (λi H' G' f Z _=>?_) J⟩⟩;have e':H' a=da (.tup q):=f a _ ea;refine⟨λu eu=>?_,λe=>⟨q,.of e',by rw[e,rs.length];lia⟩⟩
  obtain⟨w,O,F⟩:=rs.get eu;refine⟨⟨q,w,.of e',O⟩,λv xa y=>?_⟩;obtain⟨rfl,y⟩:=y;have:=y q (.of e');rw[O]at this;cases this;exact⟨F.ts f,Z,Fr.refl _ _⟩
 ·cases rx;rename_i a;split at J
  ·rename_i us eu;obtain⟨q,sq,rs⟩:=z.ls eu;refine⟨_,rfl,.inl ⟨⟨q,sq⟩,lv _ _ _ H1 _ z f1 (λi H' G' f Z ok=>?_) J⟩⟩;obtain⟨j,I,Y⟩:=Z.ls ok;refine⟨λu eu=>?_,λe=>⟨j,I,by rw[e,Y.length];lia⟩⟩
   obtain⟨w,O,F⟩:=Y.get eu;refine⟨⟨j,w,I,O⟩,λv xa y=>?_⟩;obtain⟨rfl,y⟩:=y;have:=y j I;rw[O]at this;cases this;exact⟨F,Z,Fr.refl _ _⟩
  lia
 lia
def fT      lo n:Cm K (Zw lo n) H G (rngU lo n) λ_=>True:=by
 intro i I J f F _;have z:(rngU lo n).length=n:=by simp[rngU]
 refine⟨λu eu=>?_,λe=>by rw[z]at e;exact jw e.symm⟩
 have j:i<n:=by grind
 refine⟨j,λv q y=>?_⟩;obtain⟨rfl,rfl⟩:=y;have:(rngU lo n)[i]?=da (.int (lo+i)):=by simp[rngU,md,KJ j]
 rw[this]at eu;cases eu;exact⟨rfl,F,Fr.refl _ _⟩
def u_r1 {a:Na}{p:Pos}(hg:Gl X "range")(Y:X.mg "range" = Aa)(ha:PE X a (lE X ta))(hs:Uc [a] X.env=[(ua,Lb a X.env)]):PI X tg (.Call (.Name "range" p) [a] [] pos) (lI X λz G Q E=>ta z G (λx y=>match x with
   |.int j=>-(2 ^ 62)<=j/\j<2 ^ 62/\Q (rngU 0 j.toNat) (λ_=>True) y
   |_=>False) E):=by
 refine(JU hg Y (Pm ha Fm hs) hs).imp λσ H R h=>?_;obtain⟨z,G,Q,E,I,hG,h,O,lx⟩:=h;refine⟨z,G,λJ y=>match J with|[x]=>(match x with|.int j=>-(2 ^ 62)<=j/\j<2 ^ 62/\Q (rngU 0 j.toNat) (λ_=>True) y|_=>False)|_=>False,E,I,hG,h,λJ vs y Z rs F f1 q=>?_,lx⟩
 dsimp only at q;split at q
 ·obtain⟨v,rfl,r⟩:=rs.one;split at q
  ·cases r;exact⟨_,rfl,q.1,q.2.1,O _ _ y Z _ F f1 (fT 0 _) q.2.2⟩
  lia
 lia
theorem io  : ∀{n i } {xs } {u:U},(uj n xs)[i]?=da u->∃x,xs[i]?=da x/\u=.tup [.int ((n+i:Nat):Int),x]
 |_,_,[],_,h=>by simp[uj]at h
 |n,0,x::xs,_,h=>by
  simp[uj]at h
  simp_all
 |n,i+1,_::xs,_,h=>by
  obtain⟨x,q,j⟩:=io (n:=n+1) (i:=i) (xs:=xs) (by simpa[uj]using h)
  grind
theorem Ym  : ∀n (xs:List U),(uj n xs).length=xs.length
 |_,[]=>rfl
 |n,_::xs=>by simp[uj,Ym (n+1) xs]
def rR      (hg:Gl X "enumerate")(hm:X.mg "enumerate" = Aa)(ha:PE X l (lE X ta))(hs:Uc [l] X.env=[(ua,Lb l X.env)]) :
  PI X (.Tuple va x1 ja) (.Call (.Name "enumerate" p) [l] [] pos) (lI X λς G Q E=>ta ς G (λx G1=>Dq x G1 λxs ok=>Q xs ok G1) E):=by
 refine(WT hg hm (Pm ha Fm hs) hs).imp λσ H R h=>?_;obtain⟨ς,G,Q,E,za,hG,h,lv,lx⟩:=h;refine⟨ς,G,λus G1=>match us with|[x]=>Dq x G1 λxs ok=>Q xs ok G1|_=>False,E,za,hG,h,λus vs G1 H1 rs I f1 Y=>?_,lx⟩
 dsimp only at Y;split at Y
 ·obtain⟨v,rfl,r⟩:=rs.one;unfold Dq at Y;split at Y
  ·obtain⟨a,ws,rfl,ea,rr⟩:=r;refine⟨a,rfl,.inl ⟨⟨ws,ea⟩,lv _ _ _ H1 _ I f1 (λi H' G' f hr _=>?_) Y⟩⟩;have e':H' a=da (.tup ws):=f a _ ea;refine⟨λu eu=>?_,λe=>⟨ws,e',by rw[e,Ym,rr.length]⟩⟩
   obtain⟨x,ex,rfl⟩:=io eu;obtain⟨w,ew,J⟩:=rr.get ex;refine⟨⟨ws,w,e',ew⟩,λv xa y=>?_⟩;obtain⟨ys,z,q,hq,O,rfl,F,rfl⟩:=y;rw[e']at hq;cases hq;rw[ew]at O;cases O;refine⟨⟨q,_,rfl,Kf,⟨_,_,rfl,by rw[dn];rfl,⟨_,_,rfl,(J.ts f).ts (TS.new F),rfl⟩⟩⟩,hr.newT F,Fr.new F⟩
  ·cases r;split at Y
   ·rename_i us eu;obtain⟨vs,sq,rs⟩:=I.ls eu;refine⟨_,rfl,.inr ⟨⟨vs,sq⟩,lv _ _ _ H1 _ I f1 (λi H' G' f hr ok=>?_) Y⟩⟩;obtain⟨j,Z,rr⟩:=hr.ls ok;refine⟨λu eu=>?_,λe=>⟨j,Z,by rw[e,Ym,rr.length]⟩⟩
    obtain⟨x,ex,rfl⟩:=io eu;obtain⟨w,ew,J⟩:=rr.get ex;refine⟨⟨j,w,Z,ew⟩,λv xa y=>?_⟩;obtain⟨z,q,O,rfl,F,rfl⟩:=y;have O:=O j Z;rw[ew]at O;cases O;refine⟨⟨q,_,rfl,Kf,⟨_,_,rfl,by rw[dn];rfl,⟨_,_,rfl,J.ts (TS.new F),rfl⟩⟩⟩,hr.newT F,Fr.new F⟩
   lia
  lia
 lia
theorem Bd.len     : ∀{kvs:List (κ×U)} {l },Bd K H kvs l->kvs.length=l.length
 |[],_,h=>by cases h;rfl
 |(_,_)::_,_,h=>by
  obtain⟨v,q,rfl,_,j⟩:=h;simp[Bd.len j]
theorem Bd.val     : ∀{kvs } {l } {i:Nat} {p:κ×V},Bd K H kvs l->l[i]?=da p->∃u,kvs[i]?=da (p.1,u)/\RU K H u p.2
 |[],_,_,_,h,e=>by cases h;simp at e
 |(_,_)::_,_,0,_,h,e=>by
  obtain⟨v,j,rfl,r,_⟩:=h
  grind
 |(_,_)::_,_,i+1,_,h,e=>by
  obtain⟨v,j,rfl,_,q⟩:=h;simp at e;simpa using Bd.val q e
def aD {f:List (Wb×U)->List U}{J:Ca->Obj->L2.It}{l:Na}{ti:TI}(hl:PI X tg l ti)(O:ti=λσ H R=>lE X te σ H λx I=>∃a kvs,x=.ref a/\Held I a kvs λo H'=>R (J a o) H')
  (hw:∀{a o kvs} {H':Hp} {y:Gp},HR X.K H' y->y a=da (.frk o kvs)->Cm X.K (J a o) H' y (f kvs) λy=>y a=da (.frk o kvs)):PI X tg l (lI X λZ G Q E=>te Z G (λx Y=>Kh f x Y Q) E):=by
 subst O;refine hl.imp λσ H R h=>?_;obtain⟨Z,G,Q,E,xa,hG,h,lv,lx⟩:=h;refine⟨Z,G,_,E,xa,hG,h,λx v Y I rx j f1 q=>?_,lx⟩;dsimp only at q;unfold Kh at q;split at q
 ·cases rx;rename_i a;split at q
  ·rename_i kvs g;obtain⟨l,e,rk⟩:=j _ _ g;refine⟨a,l,rfl,.inl e,λo _=>?_⟩;have F:HR X.K (upd I a (.frz o (.dK l))) (Sc Y a (.frk o kvs)):=j.write g ⟨l,Kf,rk.ts (TS.write j g)⟩;exact lv _ _ _ _ _ F (f1.trans (Fr.write g)) (hw F sf) (q o _ ⟨rfl⟩)
  ·rename_i o kvs g;obtain⟨l,e,rk⟩:=j _ _ g;refine⟨a,l,rfl,.inr ⟨o,e⟩,λo' ho=>?_⟩;cases ho o e;have z:upd I a (.frz o (.dK l))=I:=by
    funext b;unfold upd
    lia
   rw[z];exact lv _ _ _ _ _ j f1 (hw j g) q
  lia
 lia
def u_dv    (hd:PE X d (lE X te))(Z:Pk d "values" X.env (Lb d X.env)=Lb d X.env)(hl:(apos.endLine==pos.line)=ma):PI X tg (.Call (.Attribute d "values" apos) [] [] pos) (lI X λς G Q E=>te ς G (λx G1=>Kh mi x G1 Q) E):=by
 refine aD (J:=fC) (wN hd Z hl) rfl λ{a o za H' G'} _ _=>λi H2 G2 f R ok=>?_;obtain⟨I,F,j⟩:=R _ _ ok;refine⟨λu eu=>?_,λz=>⟨I,F,by rw[z,mi,Ab,j.len];lia⟩⟩
 have hi:i<I.length:=by
  have:=(Ba.mp eu).1;rw[mi,Ab,j.len]at this
  lia
 refine⟨⟨I,F,hi⟩,λv xa y=>?_⟩;obtain⟨rfl,l2,k,O,ek⟩:=y;rw[F]at O;cases O;obtain⟨u2,q,Y⟩:=j.val ek;rw[mi,md,q]at eu;cases eu;exact⟨Y,R,Fr.refl _ _⟩
def u_di      (hd:PE X d (lE X te))(hb:Pk d "items" X.env (Lb d X.env)=Lb d X.env)(hl:(apos.endLine==pos.line)=ma):PI X (.Tuple Z x1 R) (.Call (.Attribute d "items" apos) [] [] pos) (lI X λς G Q E=>te ς G (λx G1=>Kh Ck x G1 Q) E):=by
 refine aD (J:=gC) (vN hd hb hl) rfl λ{a o za H' G'} _ _=>λi H2 G2 f hr ok=>?_;obtain⟨I,F,j⟩:=hr _ _ ok;refine⟨λu eu=>?_,λz=>⟨I,F,by rw[z,Ck,Ab,j.len];lia⟩⟩
 have hi:i<I.length:=by
  have:=(Ba.mp eu).1;rw[Ck,Ab,j.len]at this
  lia
 refine⟨⟨I,F,hi⟩,λv xa y=>?_⟩;obtain⟨l2,k,x,p,Y,ek,rfl,O,rfl⟩:=y;rw[F]at Y;cases Y;obtain⟨u2,q,ru⟩:=j.val ek;rw[Ck,md,q]at eu;cases eu;exact⟨⟨p,_,rfl,Kf,⟨_,_,rfl,by cases k<;>rfl,⟨_,_,rfl,ru.ts (TS.new O),rfl⟩⟩⟩,hr.newT O,Fr.new O⟩
def SR.set        (h:SR K H F σ)(r:RU K H u v) i:SR K H (F.set i (da u)) (σ.set i (da v)):=by
 refine⟨by simp[h.1],λj w e=>?_⟩
 by_cases q:j=i
 ·subst q;by_cases y:j<F.length
  ·rw[Yk y]at e;cases e;exact⟨v,Yk (by rw[<- h.1];exact y),r⟩
  simp_all
 ·rw[aj (Xa q)]at e ⊢;exact h.2 j w e
def u_tn    (F:X.N.Nodup)(I:X.N[i]?=da x)(y:ql X.env.scope x)(z:X.fn x=ma\/X.env.scope.names.lookup x=da .local):PG X (.Name x pos) (lG X.K (Lc (.n i))):=by
 refine(jS F I y z).imp λv J H Q h=>?_;obtain⟨u,O,k,r,j,h,q⟩:=h;exact q _ _ (j.set r i) h
def u_tt {j:List Na}{k n:Nat}{ts:Dh}(J:X.calm=ma)(h:Uh X j (aq X.K (tgsU ts)))(Y:(Cg j X.env).length=n)(z:(Cg j X.env).findIdx? (·.1)=Aa)(hl:∀us y k,tgsU ts us y k->us.length=n) :
  PG X (.Tuple j k pos) (lG X.K (Lc (.t ts))):=by
 refine(aQ J h Y z).imp λv Z H Q h=>?_;obtain⟨u,y,k,r,F,h,q⟩:=h;cases u with
 |tup us=>
  obtain⟨a,O,rfl,e,I⟩:=r;have R:tgsU ts us y k:=h;exact⟨a,O,rfl,.of e,by rw[<- I.length];grind,us,y,k,I,F,R,q⟩
 |_=>exact h.elim
def XO  : Uh X [] (aq X.K (tgsU .nil)):=by
 refine kS.imp λF y H Q h=>?_;obtain⟨I,z,k,r,j,h,q⟩:=h;obtain⟨rfl,h⟩:=h;cases r;exact⟨rfl,q _ _ j h⟩
def iN {e:Na}{j:List Na}{t:Tg}{ts:Dh}(h1:PG X e (lG X.K (Lc t)))(Z:Uh X j (aq X.K (tgsU ts)))(hs:(Cg (e::j) X.env).map (·.2)=Dc e X.env::(Cg j X.env).map (·.2)) :
  Uh X (e::j) (aq X.K (tgsU (.cons t ts))):=by
 refine(VT h1 Z hs).imp λvs σ H Q h=>?_;obtain⟨z,O,k,r,I,h,q⟩:=h;cases z with
 |nil=>exact h.elim
 |cons u z=>
  obtain⟨v,vr,rfl,r1,R⟩:=r;exact⟨v,vr,rfl,u,O,_,r1,I,h,λF J y Y=>⟨z,F,k,R,y,Y,q⟩⟩
end
def gk  (K:Eb)(t:UE):TE:=λF H z=>∃y G Q,SR K H y F/\HR K H G/\t y G Q (λ_ _=>False)/\∀w v q j,RU K j w v->HR K j q->Fr H G j q->Q w q->z v j
def Qi  (K:Eb)(t:Sg->Gp->(Bool->Gp->Prop)->Prop):TT:=λF H z=>∃y G Q,SR K H y F/\HR K H G/\t y G Q/\∀b q j,HR K j q->Fr H G j q->Q b q->z b j
def LX.no      : LX X σ H G λ_ _=>False:=λ_ _ _ _ _ _ _ _ _ _ h=>h.elim
def gk.of     (h:PE X e (lE X t)):PE X e (gk X.K t):=h.imp λO H J ⟨j,G,Q,F,y,I,q⟩=>⟨j,G,Q,_,F,y,I,q,LX.no⟩
def Qi.of     (h:PT X e (lT X t)):PT X e (Qi X.K λj G Q=>t j G Q λ_ _=>False):=h.imp λO H J ⟨j,G,Q,F,y,I,q⟩=>⟨j,G,Q,_,F,y,I,q,LX.no⟩
mutual
noncomputable def Xj:Tg->List Nat
 |.n i=>[i]
 |.t ts=>tgsS ts
noncomputable def tgsS:Dh->List Nat
 |.nil=>[]
 |.cons t ts=>Xj t++tgsS ts
end
def Ar  (q y:Sg):Prop:=q.length=y.length/\∀(j:Nat) (w:U),q[j]?=da (da w)->y[j]?=da (da w)
mutual
theorem YC {q:Sg}:∀{t:Tg} {u:U} {y:Sg} {k:Sg->Prop},(∀i∈Xj t,∀w,q[i]?≠da (da w))->Ar q y->Lc t u y k->Lc t u y λF=>k F/\Ar q F
 |.n i,u,y,k,hf,he,h=>by
  refine⟨h,by simp[he.1],λj w e=>?_⟩
  have I:j≠i:=λz=>hf i (by simp[Xj]) w (z ▸ e)
  rw[aj (Xa I)]
  exact he.2 j w e
 |.t ts,u,y,k,hf,he,h=>by
  cases u with
  |tup us=>exact OE (ts:=ts) (us:=us) (λi J=>hf i J) he h
  |_=>exact h
theorem OE {j:Sg}:∀{ts:Dh} {us:List U} {y:Sg} {k:Sg->Prop},(∀i∈tgsS ts,∀w,j[i]?≠da (da w))->Ar j y->tgsU ts us y k->tgsU ts us y λq=>k q/\Ar j q
 |.nil,us,y,k,_,he,h=>⟨h.1,h.2,he⟩
 |.cons t ts,us,y,k,hf,he,h=>by
  cases us with
  |nil=>exact h
  |cons u r=>
   have:=YC (t:=t) (u:=u) (λi z=>hf i (by simp[tgsS,z])) he h
   refine Ru this λq ⟨I,F⟩=>OE (λi z=>hf i (by simp[tgsS,z])) F I
theorem Ru:∀{t:Tg} {u:U} {j:Sg} {k k':Sg->Prop},Lc t u j k->(∀j,k j->k' j)->Lc t u j k'
 |.n _,_,_,_,_,h,i=>i _ h
 |.t ts,u,j,_,_,h,i=>by
  cases u with
  |tup us=>exact lF (ts:=ts) (us:=us) h i
  |_=>exact h
theorem lF:∀{ts:Dh} {us:List U} {j:Sg} {k k':Sg->Prop},tgsU ts us j k->(∀j,k j->k' j)->tgsU ts us j k'
 |.nil,_,_,_,_,h,i=>⟨h.1,i _ h.2⟩
 |.cons t ts,us,j,_,_,h,i=>by
  cases us with
  |nil=>exact h
  |cons u r=>exact Ru (t:=t) h λq y=>lF y i
end
def SR.ext      (h:SR K H y σ)(e:Ar j y):SR K H j σ:=⟨e.1.trans h.1,λi u q=>h.2 i u (e.2 i u q)⟩
theorem SR.pick      (h:SR K H y σ)(pick:List (Option Nat)):SR K H (ph pick y) (pick.map λo=>o.bind λj=>(σ[j]?).join):=by
 refine⟨by simp[ph],λi u e=>?_⟩
 unfold ph at e;rw[md]at e ⊢;cases q:pick[i]? with
 |none=>simp_all
 |some o=>
  rw[q]at e;cases o with
  |none=>simp at e
  |some j=>
   simp only[BB,Option.bind_some,Option.some.injEq]at e ⊢;have F:y[j]?=da (da u):=by
    grind
   obtain⟨v,I,r⟩:=h.2 j u F
   simp_all
section
variable {K:Eb}{H:Hp}{G:Gp}
def HR.newH  (h:HR K H G)(e:H p=Aa):HR K (upd H p o) G:=⟨λa y q=>by
 have m:=h a y q;obtain⟨F,j⟩:=m.there;exact m.keep (Gc (Og j e)) (TS.new e),h.tab.new e⟩
def TS.hid     (e:H p=da (.lst ys)):TS H (upd H p o):=⟨λa j h=>by
 have:a≠p:=λz=>by lia
 rw[Gc this];exact h,λa q h=>by
 have:a≠p:=λz=>by lia
 rw[Gc this];exact h⟩
def HR.hid  (h:HR K H G)(e:H p=da (.lst ys))(g:G p=Aa):HR K (upd H p o) G:=⟨λa j q=>by
 have:a≠p:=λz=>by lia
 exact(h a j q).keep (Gc this) (TS.hid e),h.tab.upd (λy z=>by lia) λj z=>by lia⟩
def HR.know  (h:HR K H G)(e:H p=da (.lst ys))(r:Kb K H us ys):HR K H (Sc G p (.lst us)):=⟨λa j q=>by
 by_cases z:a=p
 ·subst z;rw[sf]at q;cases q;exact⟨ys,e,r⟩
 ·rw[Lh z]at q;exact h a j q,h.tab⟩
end
section
variable {X:Cx}{pick:List (Option Nat)}{ti:UI}{t:Tg}{tc:Sg->Gp->(Bool->Gp->Prop)->Prop}{te:UE}{σ:St}{H:Hp}{Q0:VK}
abbrev Yx  (pick:List (Option Nat))(Y:UI)(t:Tg)(F:Sg->Gp->(Bool->Gp->Prop)->Prop)(Z:UE):UE:=λq G Q E=>Y q G (λj ok I=>j.length<=db/\Ri ok (λx G2 k=>Lc t x (ph pick q) λy=>F y G2 (λb z=>if b=ma then Z y z (λu J=>k (da u) J) (λ_ _=>False) else k Aa z)) j [] I
   λO R=>newO R (.lst O) Q) E
structure zr (D:Ca)(H:Hp)(G:Gp)(H':Hp)(G':Gp):Prop where
 go:∀a o,a≠D->H a=da o->G a=Aa->(nt:noTb o=ma:=by rfl)->H' a=da o/\G' a=Aa
instance {D:Ca} {H H':Hp} {G G':Gp}:CoeFun (zr D H G H' G') λ_=>∀a o,a≠D->H a=da o->G a=Aa->(nt:noTb o=ma:=by rfl)->H' a=da o/\G' a=Aa:=⟨@zr.go D H G H' G'⟩
def mO            {kk:List U->Gp->Prop}{QQ:St->List V->Hp->Prop}
  (free:∀i∈Xj t,∀w,j[i]?≠da (da w)) (wk:Cm X.K J H1 G1 xs ok) (ka:HR X.K H1 G1) (vc:H1 D=da (.lst xb)) (wc:G1 D=Aa) (qe:Kb X.K H1 acc0 xb) (yc:SR X.K H1 j kc) (hl:acc0.length+xs.length<=db)
  (h1:Ri ok (λx G2 k=>Lc t x j λO=>tc O G2 (λb Y=>if b=ma then te O Y (λu G4=>k (da u) G4) (λ_ _=>False) else k Aa Y)) xs acc0 G1 kk)
  (qd:∀zc za ya I H',SR X.K H' j zc->HR X.K H' I->zr D H1 G1 H' I->H' D=da (.lst ya)->I D=Aa->Kb X.K H' za ya->kk za I->QQ zc ya H') :
  ly J (lG X.K (Lc t)) (Qi X.K tc) (sA (gk X.K te) D) QQ kc xb H1:=by
 refine⟨λi m O ys H'=>m=xs.length-i/\i<=xs.length/\∃F I,SR X.K H' j O/\HR X.K H' I/\zr D H1 G1 H' I/\H' D=da (.lst ys)/\I D=Aa/\Kb X.K H' F ys/\F.length<=acc0.length+i/\
  Ri ok (λx G2 k=>Lc t x j λO=>tc O G2 (λb Y=>if b=ma then te O Y (λu G4=>k (da u) G4) (λ_ _=>False) else k Aa Y)) (xs.drop i) F I kk,⟨xs.length,by simp,Eg _,acc0,G1,yc,ka,⟨λ_ _ _ a b _=>⟨a,b⟩⟩,vc,wc,qe,by lia,by simp_all⟩,?_⟩
 rintro i m O ys H' ⟨rfl,hi,F,I,sr,hr,f,eD,gD',ra,hal,hc⟩;have ts:TS H1 H':=⟨λa zs e=>(f a _ (λz=>by lia) e (ka.tupNone e)).1,λa zs e=>(f a _ (λz=>by lia) e (ka.codNone e)).1⟩
 by_cases Z:i<xs.length
 ·rw[Qj Z]at hc;obtain⟨va,hb⟩:=hc;obtain⟨w1,_⟩:=wk i H' I ts hr va;obtain⟨go,yl⟩:=w1 xs[i] (by simp[Z])
  refine .inr ⟨go,λv xd y=>?_⟩;obtain⟨rx,xa,f2⟩:=yl v xd y;have vd:=sr.ts (f2.ts hr);refine⟨xs[i],j,_,rx,vd,YC free ⟨rfl,λ_ _ e=>e⟩ hb,λyb jd ja ⟨hk,he⟩=>?_⟩;refine⟨yb,I,_,ja,xa,hk,λb Y H3 R f3 h3=>?_⟩;have kb:zr D H1 G1 H3 Y:=⟨λa o n h g nt=>let ⟨a1,a2⟩:=f a o n h g nt;let ⟨b1,b2⟩:=f2 a o a1 a2 nt;f3 a o b1 b2 nt⟩
  have qc:SR X.K H3 j jd:=(ja.ext he).ts (f3.ts xa);obtain⟨wd,jc⟩:=f2 D _ eD gD';obtain⟨zb,wb⟩:=f3 D _ wd jc;have jb:=(ra.ts (f2.ts hr)).ts (f3.ts xa);cases b with
  |false=>
   rw[if_neg Hd]at h3;dsimp only;rw[if_neg Hd];exact⟨xs.length-(i+1),by lia,rfl,Z,F,Y,qc,R,kb,zb,wb,jb,by lia,h3⟩
  |true=>
   rw[if_pos rfl]at h3;dsimp only;rw[if_pos rfl];refine⟨yb,Y,_,ja.ts (f3.ts xa),R,h3,λu v G4 H4 ru zd f4 h4=>?_⟩;obtain⟨wa,vb⟩:=f4 D _ zb wb;have yd:=jb.ts (f4.ts R);have xc:=TS.hid (o:=.lst (ys++[v])) wa;refine⟨wa,by rw[<- ra.length];lia,xs.length-(i+1),by lia,rfl,Z,F++[u],G4,(qc.ts (f4.ts R)).ts xc,zd.hid wa vb,?_,Kf,vb,(yd.append (Kb.mk (us:=[]) (vs:=[]) ru rfl)).ts xc,by grind,h4⟩
   refine⟨λa o n ha ga nt=>?_⟩;obtain⟨x1,x2⟩:=kb a o n ha ga nt;obtain⟨y1,y2⟩:=f4 a o x1 x2 nt;exact⟨by rw[Gc n];exact y1,y2⟩
 ·have e:i=xs.length:=by lia
  subst e;rw[CJ]at hc;obtain⟨va,q⟩:=hc;obtain⟨_,w2⟩:=wk xs.length H' I ts hr va;exact .inl ⟨w2 rfl,qd O F ys I H' sr hr f eD gD' ra q⟩
def KU  {is:List Nat}(j:is.all (λi=>(pick[i]?).join.isNone)=ma) ς:∀i∈is,∀w,(ph pick ς)[i]?≠da (da w):=λi y w e=>by
 have:=Bj.mp j i y;unfold ph at e;rw[md]at e;cases q:pick[i]? with
 |none=>simp_all
 |some o=>
  simp_all
def DD  (hp:(Xj t).all (λi=>(pick[i]?).join.isNone)=ma)(h:lE X (Yx pick ti t tc te) σ H Q0):tx pick (lI X ti) (lG X.K (Lc t)) (Qi X.K tc) (gk X.K te) σ H Q0:=by
 obtain⟨Z,G,Q,E,z,hG,h,lv,lx⟩:=h;refine⟨Z,G,_,E,z,hG,h,λxs ok G1 H1 J y f1 wk O=>?_,lx⟩;obtain⟨hl,O⟩:=O;intro D j;refine mO (acc0:=[]) (KU hp Z) (wk.mono (TS.new j)) (y.newH j) Kf (y.nope j) rfl (((z.ts (f1.ts hG)).ts (TS.new j)).pick pick) (by simp_all) O λxa R za G' H' sr hr f eD I ra q=>?_
 refine lv (.loc D) (.ref D) _ H' rfl (hr.know eD ra) ?_ (q.at D I);refine⟨λa o ha ga Y=>?_⟩;obtain⟨F,x2⟩:=f1 a o ha ga Y;obtain⟨y1,y2⟩:=f a o (Og F j) (by rw[Gc (Og F j)];exact F) x2 Y
 exact⟨y1,by rw[Lh (Og F j)];exact y2⟩

def u_lc  (I:X.calm=ma)(S:CScope X N pick scope)(q:PI X tg iter (lI X ti))(y:(Xj t).all (λi=>(pick[i]?).join.isNone)=ma)
  (z:∀cl C s₀ H₀ j,PG (ce X N scope cl C s₀ H₀ j) tg (lG X.K (Lc t))) (F:∀cl C s₀ H₀ j,PIfs (ce X N scope cl C s₀ H₀ j) ifs (Qi X.K tc)) (J:∀cl C s₀ H₀ j,PE (ce X N scope cl C s₀ H₀ j) elt (gk X.K te))
  (hs:∀x,Ii iter X.env x=pure x):PE X (.ListComp elt [⟨tg,iter,ifs,0⟩] scope pos) (lE X (Yx pick ti t tc te)):=
 (sN I S q z F J hs).imp λ_ _ _ h=>DD y h
end
section
variable {X:Cx}{e:Na}{te ta tb:UE}{p pos:Pos}
def ZM  (Z:X.calm=ma)(hg:Gl X "list")(R:X.mg "list" = Aa)(Y:PE X e (lE X te))(O:Uc [e] X.env=[(ua,Lb e X.env)]) :
  PE X (.Call (.Name "list" p) [e] [] pos) (lE X λF G Q E=>te F G (λx z=>mkDU x z Q) E):=by
 refine(uv (zV Z) hg R rL (Pm Y Fm O) (by decide) (by decide) O rfl).imp λσ H Q0 h=>?_
 obtain⟨F,G,Q,E,I,hG,h,lv,lx⟩:=h;refine⟨F,G,λJ z=>match J with|[x]=>mkDU x z Q|_=>False,E,I,hG,h,λJ vs z H1 rs y f1 j=>?_,lx⟩
 dsimp only at j;split at j
 ·obtain⟨v,rfl,r⟩:=rs.one;unfold mkDU at j;split at j
  ·cases r;split at j
   ·rename_i xa g;obtain⟨ns,hk,q⟩:=j;obtain⟨l,e,rk⟩:=y _ _ g;refine⟨_,l,ns,rfl,e,?_,λp hp=>(lv.fr f1).lst hp (yz _) y q⟩;rw[<- Oy rk];exact hk
   lia
  lia
 lia
def aN  (hg:Gl X "list")(hm:X.mg "list" = Aa)(ha:PE X e (lE X te))(Z:Uc [e] X.env=[(ua,Lb e X.env)]) :
  PE X (.Call (.Name "list" p) [e] [] pos) (lE X λI G Q E=>te I G (λx y=>Lf x y λxs _=>newO y (.lst xs) Q) E):=by
 refine(uv (jW (X:=X)) hg hm rL (Pm ha Fm Z) (by decide) (by decide) Z rfl).imp λσ H Q0 h=>?_
 obtain⟨I,G,Q,E,J,hG,h,R,lx⟩:=h;refine⟨I,G,λz y=>match z with|[x]=>(Lf x y λxs _=>newO y (.lst xs) Q)|_=>False,E,J,hG,h,λz vs y H1 rs j Y q=>?_,lx⟩
 dsimp only at q;split at q
 ·obtain⟨v,rfl,r⟩:=rs.one;unfold Lf at q;split at q
  ·obtain⟨a,F,rfl,ea,rr⟩:=r;exact⟨a,F,rfl,.inr (.of ea),λl O=>(R.fr Y).lst O rr j q⟩
  ·cases r;split at q
   ·rename_i z eu;obtain⟨F,sq,rr⟩:=j.ls eu;exact⟨_,F,rfl,.inl sq,λl O=>(R.fr Y).lst O rr j q⟩
   lia
  lia
 lia
def cN  (hg:Gl X "tuple")(hm:X.mg "tuple" = Aa)(ha:PE X e (lE X te))(Z:Uc [e] X.env=[(ua,Lb e X.env)]) :
  PE X (.Call (.Name "tuple" p) [e] [] pos) (lE X λI G Q E=>te I G (λx y=>Lf x y λxs _=>Q (.tup xs) y) E):=by
 refine(uv (wW (X:=X)) hg hm PyProof.Rows.boot_tuple (Pm ha Fm Z) (by decide) (by decide) Z rfl).imp λσ H Q0 h=>?_
 obtain⟨I,G,Q,E,J,hG,h,R,lx⟩:=h;refine⟨I,G,λF y=>match F with|[x]=>(Lf x y λxs _=>Q (.tup xs) y)|_=>False,E,J,hG,h,λF vs y H1 rs j Y q=>?_,lx⟩
 dsimp only at q;split at q
 ·obtain⟨v,rfl,r⟩:=rs.one;unfold Lf at q;split at q
  ·obtain⟨a,z,rfl,O,rr⟩:=r;exact⟨a,z,rfl,.inr ⟨.of O,(R.fr Y).here (w:=.tup _) ⟨a,z,rfl,O,rr⟩ j q⟩⟩
  ·cases r;split at q
   ·rename_i F eu;obtain⟨z,sq,rr⟩:=j.ls eu;exact⟨_,z,rfl,.inl ⟨sq,λl hl=>(R.fr Y).tup hl rr j q⟩⟩
   lia
  lia
 lia
def u_ty    (z:Gl X x)(q:X.mg x=Aa)(y:Pj x=da (.type n))(j:x ≠ "__name__")(hd:(x==("__debug__" : Str))=ua):PE X (.Name x pos) (lE X λ_ G Q _=>Q (.ty n) G):=
 ao (u:=.ty n) (dS (v:=.ty n) z q y rfl j hd) λ_=>rfl
def u_gl      (y:Gl X x)(j:X.mg x=da w)(r:RelV v w)(q:∀H,RU X.K H u v)(hd:(x==("__debug__" : Str))=ua):PE X (.Name x pos) (lE X λ_ G Q _=>Q u G):=
 ao (oE y j r hd) q
def qR  : PE X (.Dict [] [] pos) (lE X λ_ G Q _=>newO G (.dK []) Q):=by
 refine OT.imp λI H F h p j=>?_;obtain⟨J,G,Q,E,z,q,h,y,lx⟩:=h;exact y (.loc p) (.ref p) _ _ rfl (q.newO (mo:=.dK []) j ⟨[],Kf,rfl⟩) (Fr.newO j) (h.at p (q.nope j))
theorem Bd.merge    : ∀{j } {m },Bd K H j m->∀{kvs } {l },Bd K H kvs l->Bd K H (j.foldl (λacc q=>dPut acc q.1 q.2) kvs) (Lm l m)
 |[],_,h,_,_,h'=>by cases h;exact h'
 |(k,u)::j,_,h,_,_,h'=>by
  obtain⟨v,F,rfl,r,y⟩:=h;exact Bd.merge y (h'.put r)
def lD  (X:Cx)(t:Sg->Gp->(List (Wb×U)->Gp->Prop)->KX->Prop)(j:List (TE×TE)):Prop:=
 ∀σ H ς G Q E (Q0:List (V×V)->Hp->Prop),SR X.K H ς σ->HR X.K H G->t ς G Q E->LX X σ H G E->
  (∀kvs (l:List (Wb×V)) G' H',Bd X.K H' kvs l->HR X.K H' G'->Fr H G H' G'->Q kvs G'->Q0 (l.map λq=>(kV q.1,q.2)) H')->zu j σ H Q0
def WM      (I:Cn X pos j y R)(hd:lD X t R)(J:j.all (·.isSome)=ma)(hl:j.length=y.length)(h0:j≠[])
  (Z:j.length<=15):PE X (.Dict j y pos) (lE X λY G Q E=>t Y G (λkvs G1=>kvs.length<=15/\newO G1 (.dK (Om kvs)) Q) E):=by
 refine(gS I J hl h0 Z).imp λσ H Q0 h p I=>?_;obtain⟨Y,G,Q,E,xa,hG,h,lv,lx⟩:=h;have gp:=hG.nope I;refine hd σ _ Y G _ E _ (xa.ts (TS.new I)) (hG.newH I) h (lx.fr (Fr.new I)) λkvs l G' H' r O f q=>?_;obtain⟨e,g⟩:=f p _ Kf gp;refine⟨e,l,rfl,by rw[<- r.length];exact q.1,?_⟩
 have ts:TS H' (upd H' p (.dK (Lm [] l))):=⟨λa xs h=>by
  have:a≠p:=λz=>by lia
  rw[Gc this];exact h,λa xs h=>by
  have:a≠p:=λz=>by lia
  rw[Gc this];exact h⟩
 refine lv (.loc p) (.ref p) (Sc G' p (.dK (Om kvs))) _ rfl ⟨λa ob z=>?_,O.tab.upd (λps z=>by lia) λob z=>by lia⟩ ⟨λa o ha ga nt=>?_⟩ (q.2.at p g)
 ·by_cases F:a=p
  ·subst F;rw[sf]at z;cases z;exact⟨_,Kf,(Bd.merge r (kvs:=[]) (l:=[]) rfl).ts ts⟩
  ·rw[Lh F]at z;exact(O a ob z).keep (Gc F) ts
 ·have F:a≠p:=Og ha I;obtain⟨x1,x2⟩:=f a o (by rw[Gc F];exact ha) ga nt
  exact⟨by rw[Gc F];exact x1,by rw[Lh F];exact x2⟩
def iO  : lD X (λ_ G Q _=>Q [] G) []:=λF H I G Q E z y j h lx q=>q [] [] G H rfl j (Fr.refl _ _) h
def AQ {tk tv:UE}{t:Sg->Gp->(List (Wb×U)->Gp->Prop)->KX->Prop}{F:List (TE×TE)}(hr:lD X t F):lD X (λj G Q E=>tk j G (λx Z=>tv j Z (λy G2=>match kU x with
   |some k=>t j G2 (λkvs G3=>Q ((k,y)::kvs) G3) E
   |none=>False) E) E) ((lE X tk,lE X tv)::F):=by
 intro σ H j G Q E Q0 z hG h lx q;refine⟨j,G,_,E,z,hG,h,λx v Z H1 rx J O h1=>?_,lx⟩;refine⟨j,Z,_,E,z.ts (O.ts hG),J,h1,λy v' G2 H2 ry I Y R=>?_,lx.fr O⟩;dsimp only at R;split at R
 ·rename_i k ek;have:=nk rx ek;subst this;refine hr σ H2 j G2 _ E _ ((z.ts (O.ts hG)).ts (Y.ts J)) I R (lx.fr (O.trans Y)) λkvs l G3 H3 r xa f3 h3=>?_;exact q ((k,y)::kvs) ((k,v')::l) G3 H3 ⟨v',l,rfl,ry.ts (f3.ts I),r⟩ xa ((O.trans Y).trans f3) h3
 lia
end
end Z

namespace L2
open PySem
end L2
namespace Z
open PySem L2
structure LD (X:Cx)(H:Hp)(G:Gp)(De:En)(D:Ends):Prop where
 nx:∀ς' σ' G' H',SR X.K H' ς' σ'->HR X.K H' G'->Fr H G H' G'->De.nx ς' G'->D.nx σ' H'
 rt:∀w v G' H',RU X.K H' w v->HR X.K H' G'->Fr H G H' G'->De.rt w G'->D.rt v H'
 ex:∀(pins:List (Ca×Obj)) (e:Da) (s':Fa) (x:XV) ς' σ' G' H',Pa X pins σ' H' s'->SR X.K H' ς' σ'->vL X H' s' e x->HR X.K H' G'->Fr H G H' G'->De.ex x ς' G'->X.xe e s'
abbrev US:=En->Sg->Gp->Prop
def lS  (X:Cx)(t:US):L2.TS:=λD y H=>∃j q G,SR X.K H q y/\HR X.K H G/\t j q G/\LD X H G j D

def LD.fr  (h:LD X H G J D)(f:Fr H G H1 G1):LD X H1 G1 J D:=
 ⟨λj q F y a b c=>h.nx j q F y a b (f.trans c),λw v F y a b c=>h.rt w v F y a b (f.trans c),λI e O x j q F y i a b c d=>h.ex I e O x j q F y i a b c (f.trans d)⟩
def LD.lx  (h:LD X H G J D)(y:SR X.K H F σ)(Y:HR X.K H G):LX X σ H G λx R=>J.ex x F R:=λj e O x G' Z I a hr f q=>h.ex j e O x F σ G' Z I (y.ts (f.ts Y)) a hr f q
def LD.here  (h:LD X H G I D)(j:SR X.K H y σ)(F:HR X.K H G)(q:I.nx y G):D.nx σ H:=h.nx y σ G H j F (Fr.refl _ _) q
def LD.with    (h:LD X H G J D)(I:∀j q y H',SR X.K H' j q->HR X.K H' y->Fr H G H' y->k j y->F.nx q H')(O:F.rt=D.rt):LD X H G { J with nx:=k } F:=
 ⟨I,λw v y H' a b c d=>by rw[O];exact h.rt w v y H' a b c d,h.ex⟩
section
variable {X:Cx}{st:Qa}{rest:List Qa}{pos:Pos}{e:Na}{te:UE}{t u:US}
def s_nil  : Be X [] (lS X λD q G=>D.nx q G):=wS.imp λD I H ⟨F,q,G,j,z,h,y⟩=>y.here j z h
def s_cons  (R:PS X st (lS X t))(Y:Be X rest (lS X u)):Be X (st::rest) (lS X λD q G=>t { D with nx:=λj z=>u D j z } q G):=by
 refine(bU R Y).imp λD Z H ⟨J,q,G,y,O,h,F⟩=>?_;exact⟨_,q,G,y,O,h,F.with (λj I z H' a b c d=>⟨J,j,z,a,b,d,F.fr c⟩) rfl⟩
def s_expr  (Y:PE X e (lE X te))(hs:Kk e Aa pos.line X.env=pure ua):PS X (.Expr e pos) (lS X λD y G=>te y G (λ_ z=>D.nx y z) λx z=>D.ex x y z):=
 (vS Y hs).imp λD J H ⟨De,y,G,j,F,h,I⟩=>⟨y,G,_,_,j,F,h,λw v R O _ Z f q=>I.nx y J R O (j.ts (f.ts F)) Z f q,I.lx j F⟩
def s_ret  (R:PE X e (lE X te)):PS X (.Return (da e) pos) (lS X λD y G=>te y G D.rt λx I=>D.ex x y I):=
 (jP R).imp λD σ H ⟨Z,y,G,j,F,h,z⟩=>⟨y,G,_,_,j,F,h,λw v O J r Y f q=>z.rt w v O J r Y f q,z.lx j F⟩
def s_if     (Z:PT X c (lT X tc))(ha:Be X a (lS X t))(Y:Be X b (lS X u)):PS X (.If c a b pos) (lS X λD y G=>tc y G (λx z=>if x=ma then t D y z else u D y z) λx z=>D.ex x y z):=by
 refine(xN Z ha Y).imp λD σ H ⟨J,y,G,j,F,h,I⟩=>⟨y,G,_,_,j,F,h,λb O H' R f q=>?_,I.lx j F⟩;cases b with
 |true=>rw[if_pos rfl]at q ⊢;exact⟨J,y,O,j.ts (f.ts F),R,q,I.fr f⟩
 |false=>rw[if_neg Hd]at q ⊢;exact⟨J,y,O,j.ts (f.ts F),R,q,I.fr f⟩
def PQ      (h:lS X (λD z G=>te z G (λu F=>Lc g u z λj=>D.nx j F) λx F=>D.ex x z F) D σ H) :
  lE X te σ H λx H1=>lG X.K (Lc g) x σ H1 D.nx:=by
 obtain⟨De,z,G,y,I,h,O⟩:=h;exact⟨z,G,_,_,y,I,h,λw v Z Y r hr f q=>⟨w,z,_,r,y.ts (f.ts I),q,λj J R hk=>O.nx j J Z Y R hr f hk⟩,O.lx y I⟩
def s_asg {j:Na}{g:Tg}(O:PE X e (lE X te))(I:PG X j (lG X.K (Lc g)))(hs:Mj [j] e pos.line X.env=pure ua)(F:Ai [j] e X.env=pure Aa)
  (J:(Cg [j] X.env).map (·.2)=[Dc j X.env]):PS X (.Assign [j] e pos) (lS X λD q G=>te q G (λu y=>Lc g u q λz=>D.nx z y) λx y=>D.ex x q y):=
 (TC O I hs F J).imp λ_ _ _ h=>PQ h
def s_lc            
  (hN:X.N.Nodup) (J:X.N[i]?=da y) (hy:X.env.scope.names.lookup y=da .local) (hc:X.calm=ma) (S:CScope X N pick scope) (hw:PI X tg iter (lI X ti)) (hp:(Xj g).all (λi=>(pick[i]?).join.isNone)=ma)
  (hg:∀cl C s₀ H₀ F,PG (ce X N scope cl C s₀ H₀ F) tg (lG X.K (Lc g))) (hi:∀cl C s₀ H₀ F,PIfs (ce X N scope cl C s₀ H₀ F) ifs (Qi X.K tc)) (he:∀cl C s₀ H₀ F,PE (ce X N scope cl C s₀ H₀ F) elt (gk X.K te))
  (Z:Kk (.ListComp elt [⟨tg,iter,ifs,0⟩] scope pos) (da (.Name y py)) z.line X.env=pure ma) (hs:∀x,Ii iter X.env x=pure x) :
  PS X (.Assign [.Name y py] (.ListComp elt [⟨tg,iter,ifs,0⟩] scope pos) z) (lS X λD I G=>Yx pick ti g tc te I G (λu O=>Lc (.n i) u I λR=>D.nx R O) λx O=>D.ex x I O):=by
 refine(yN hN J hy hc S hw hg hi he Z hs).imp λD σ H h=>?_;obtain⟨De,I,G,j,Y,h,ld⟩:=h;exact DD hp ⟨I,G,_,_,j,Y,h,λw v G' H' r hr f q=>ld.nx _ _ G' H' ((j.ts (f.ts Y)).set r i) hr f q,ld.lx j Y⟩
def LC  : TSet:=λo i v H Q=>∃a j,o=.ref a/\DPut H a i v j/\Q j
def gT  (hu:X.A.units+1<Sb):PSet X LC:=by
 intro j s R H o i v ov Z u Q I J F z h;obtain⟨a,O,rfl,g,q⟩:=h;cases J;exact yT hu I g F z λY y=>⟨O,y,q⟩
def _root_.L2.PSet.or {t t':TSet}(h:PSet X t)(h':PSet X t'):PSet X λo i v H Q=>t o i v H Q\/t' o i v H Q:=by
 intro j s y H o i v Y O u Q I R J F q;rcases q with q|q
 ·exact h j s y H o i v Y O u Q I R J F q
 ·exact h' j s y H o i v Y O u Q I R J F q
def xR       {R:Hp->Prop}(rx:RU X.K H x v)(ry:RU X.K H y v')(J:RU X.K H w O)(z:HR X.K H G)(h:setU x y w G k)
  (q:∀Y H',HR X.K H' Y->Fr H G H' Y->k Y->R H'):MC v v' O H R\/LC v v' O H R:=by
 cases x with
 |loc a=>
  cases rx;unfold setU at h;dsimp only at h;split at h
  ·rename_i xs g;obtain⟨vs,e,F⟩:=z.lst g;cases y with
   |int i=>
    cases ry;dsimp only at h;split at h
    ·rename_i j ej;refine .inl ⟨a,vs,i,j,rfl,rfl,e,by rw[<- F.length];exact ej,?_⟩
     exact q _ _ (z.write (mo':=.lst (xs.set j w)) g ⟨_,Kf,(F.set J j).ts (TS.write z g)⟩) (Fr.write g) h.at
    lia
   |_=>lia
  ·rename_i I g;obtain⟨l,e,F⟩:=z a _ g;split at h
   ·rename_i Z ek;have:=nk ry ek;subst this;refine .inr ⟨a,_,rfl,DPut.k e (by rw[<- F.length];exact h.1),?_⟩
    exact q _ _ (z.write (mo':=.dK (dPut I Z w)) g ⟨_,Kf,(F.put J).ts (TS.write z g)⟩) (Fr.write g) h.2.at
   lia
  ·rename_i I g;obtain⟨l,e,F⟩:=z a _ g;cases y with
   |tup ys=>
    obtain⟨b,ws,rfl,eb,rb⟩:=ry;dsimp only at h;split at h
    ·rename_i Z ek;have:=Du rb ek;subst this;refine .inr ⟨a,_,rfl,DPut.t e eb (by rw[<- F.length];exact h.1),?_⟩
     exact q _ _ (z.write (mo':=.dT (dPut I Z w)) g ⟨_,Kf,(F.put J).ts (TS.write z g)⟩) (Fr.write g) h.2.at
    lia
   |_=>lia
  lia
 |_=>exact h.elim
def s_set {o i:Na}{to ti:UE}{j:Pos}(hu:X.A.units+1<Sb)(he:PE X e (lE X te))(ho:PE X o (lE X to))(hi:PE X i (lE X ti))(hs:Mj [.Subscript o i j] e pos.line X.env=pure ua)(hw:Ai [.Subscript o i j] e X.env=pure Aa)
  (h1:(Cg [.Subscript o i j] X.env).map (·.2)=[Dc (.Subscript o i j) X.env]) (ha:∀v,Dc (.Subscript o i j) X.env v=(do
   let ov <- Pc [v] (Lb o X.env)
   let iv <- Pc [v,ov] (Lb i X.env)
   Qf j
   Pc [v,ov,iv] (lj ov iv v)
   release [v,ov,iv] [])):PS X (.Assign [.Subscript o i j] e pos) (lS X λD z G=>te z G (λv O=>to z O (λx G2=>ti z G2 (λy G3=>setU x y v G3 λG4=>D.nx z G4) λx O=>D.ex x z O) λx O=>D.ex x z O) λx O=>D.ex x z O):=by
 refine(TC he (ZP ho hi (PSet.or iT (gT hu)) ha) hs hw h1).imp λD σ H ⟨De,z,G,Y,hG,h,ld⟩=>?_;refine⟨z,G,_,_,Y,hG,h,λw v O H1 za R f1 h1=>?_,ld.lx Y hG⟩;have I:=Y.ts (f1.ts hG);refine⟨z,O,_,_,I,R,h1,λx vx G2 H2 rx J f2 h2=>?_,(ld.fr f1).lx I R⟩;have F:=I.ts (f2.ts R);refine⟨z,G2,_,_,F,J,h2,λy vy G3 H3 ry xa f3 h3=>?_,(ld.fr (f1.trans f2)).lx F J⟩;have Z:=F.ts (f3.ts J);exact xR (rx.ts (f3.ts J)) ry ((za.ts (f2.ts R)).ts (f3.ts J)) xa h3 λG' H' hr f q=>ld.nx z σ G' H' (Z.ts (f.ts xa)) hr (((f1.trans f2).trans f3).trans f) q
def aX  (X:Cx)(o:cn):Prop:=∃r:Xw,xL X o r/\∀x y v q G H Q j,RU X.K H x v->RU X.K H y q->HR X.K H G->Em o x y G Q->LV X H G Q j->r v q H j
def WO   o:aX X o:=by
 cases o with
 |Add=>
  refine⟨_,(nc.or (iR (X:=X)) mW),λx y v J G H Q I F q z h j=>?_⟩;cases x<;>try exact h.elim
  ·cases y<;>try exact h.elim
   cases F;cases q;exact .inl ⟨_,_,rfl,rfl,j.int z h⟩
  ·cases y<;>try exact h.elim
   cases F;cases q;exact .inr ⟨_,_,rfl,rfl,h.1,j.str z h.2⟩
 |Sub=>
  refine⟨_,qQ (X:=X),λx y v J G H Q I F q z h j=>?_⟩;cases x<;>try exact h.elim
  cases y<;>try exact h.elim
  cases F;cases q;exact⟨_,_,rfl,rfl,j.int z h⟩
 |Mult=>
  refine⟨_,jR (X:=X),λx y v J G H Q I F q z h j=>?_⟩;cases x<;>try exact h.elim
  cases y<;>try exact h.elim
  cases F;cases q;exact⟨_,_,rfl,rfl,h.1,j.int z h.2⟩
 |_=>exact⟨λ_ _ _ _=>False,λ_ _ _ _ _ _ _ _ _ _ _ _ h=>h.elim,λ_ _ _ _ _ _ _ _ _ _ _ h _=>h.elim⟩
def s_aug      (hN:X.N.Nodup)(hi:X.N[i]?=da x)(hx:ql X.env.scope x)(hf:X.fn x=ma\/X.env.scope.names.lookup x=da .local)(he:PE X e (lE X te)) :
  PS X (.AugAssign (.Name x xa) o e pos) (lS X λD F G=>slot F i λx=>te F G (λy I=>Em o x y I λz Y=>D.nx (F.set i (da z)) Y) λx I=>D.ex x F I):=by
 obtain⟨r,h1,h2⟩:=WO (X:=X) o;refine(dQ hN hi hx he h1 hf).imp λD σ H ⟨De,F,G,j,O,h,ld⟩=>?_;dsimp only at h;unfold slot at h;split at h
 ·rename_i u eu;obtain⟨v,ev,ru⟩:=j.2 i u eu;refine⟨v,ev,F,G,_,_,j,O,h,λy vy I H1 ry J f1 h1=>?_,ld.lx j O⟩;exact h2 u y v vy I H1 _ _ (ru.ts (f1.ts O)) ry J h1 λw vw Y H2 R Z f2 q=>ld.nx _ _ Y H2 (((j.ts (f1.ts O)).ts (f2.ts J)).set R i) Z (f1.trans f2) q
 lia
def _root_.L2.PGet.or {t t':V->V->Hp->VK->Prop}(h:PGet X t)(h':PGet X t'):PGet X λo i H Q=>t o i H Q\/t' o i H Q:=by
 intro j s y H o i R J Q I O F q;rcases q with q|q
 ·exact h j s y H o i R J Q I O F q
 ·exact h' j s y H o i R J Q I O F q
def s_par2        (hc:X.calm=ma)(hN:X.N.Nodup)(hi:X.N[i]?=da x)(hj:X.N[j]?=da y)(Y:i≠j)
  (hx:X.env.scope.names.lookup x=da .local) (hy:X.env.scope.names.lookup y=da .local) (ha:PA X [a,b] (lA X ts))
  (hw:Ai [.Tuple [.Name x px,.Name y py] kt pt] (.Tuple [a,b] k2 F) X.env=pure (da [x,y])) (hs:Mj [.Tuple [.Name x px,.Name y py] kt pt] (.Tuple [a,b] k2 F) pos.line X.env=pure ua) :
  PS X (.Assign [.Tuple [.Name x px,.Name y py] kt pt] (.Tuple [a,b] k2 F) pos) (lS X λD I G=>ts I G (λus z=>us.length=[i,j].length/\D.nx (([i,j].zip us).foldl (λs p=>s.set p.1 (da p.2)) I) z) λx z=>D.ex x I z):=by
 refine(iP hc hN hi hj Y hx hy ha hw hs).imp λD σ H ⟨De,I,G,q,Z,h,ld⟩=>?_;refine⟨I,G,_,_,q,Z,h,λus vs z H1 O R f1 h1=>?_,ld.lx q Z⟩;obtain⟨h1,J⟩:=h1
 match us,h1,J,O with
 |[u,w],_,J,O=>
  obtain⟨v,v',rfl,r1,r2⟩:=O.two;exact⟨v,v',rfl,ld.nx _ _ z H1 (((q.ts (f1.ts Z)).set r1 i).set r2 j) R f1 J⟩
def s_for       (hp:Ik (Ja X.prog X.w) X.A X.env X.xe)(hc:X.calm=ma)(hi:PI X tg iter (lI X ti))(hg:PG X tg (lG X.K (Lc g)))(hb:Be X body (lS X tb))
  (hs:∀x,Ii iter X.env x=pure x):PS X (.For tg iter body [] pos) (lS X λD ς G=>ti ς G (λxs ok Z=>forL ok (λx F I k=>Lc g x F λj=>tb { D with nx:=k } j I) xs ς Z D.nx) λx Z=>D.ex x ς Z):=by
 refine(eQ hp hc hi hg hb hs).imp λD σ H ⟨De,ς,G,va,hG,h,ld⟩=>?_;refine⟨ς,G,_,_,va,hG,h,λxs ok Z H1 J xa f1 wk h1=>?_,ld.lx va hG⟩;refine⟨λi m za H'=>m=xs.length-i/\i<=xs.length/\∃z O,SR X.K H' z za/\HR X.K H' O/\Fr H1 Z H' O/\forL ok (λx F I k=>Lc g x F λj=>tb { De with nx:=k } j I) (xs.drop i) z O De.nx,⟨xs.length,by simp,Eg _,ς,Z,va.ts (f1.ts hG),xa,Fr.refl _ _,by simp_all⟩,?_⟩
 rintro i m za H' ⟨rfl,hi',z,O,sr,hr,f,hc'⟩;by_cases ja:i<xs.length
 ·rw[Qj ja]at hc';obtain⟨Y,xb⟩:=hc';obtain⟨w1,_⟩:=wk i H' O (f.ts xa) hr Y;obtain⟨go,yl⟩:=w1 xs[i] (by simp[ja])
  refine .inr ⟨go,λR H2=>∃j I,SR X.K H2 j R/\HR X.K H2 I/\Fr H1 Z H2 I/\forL ok (λx F I k=>Lc g x F λj=>tb { De with nx:=k } j I) (xs.drop (i+1)) j I De.nx,λR H2 q=>⟨xs.length-(i+1),by lia,rfl,ja,q⟩,λv ka y=>?_⟩
  obtain⟨rx,ha,f2⟩:=yl v ka y;refine⟨xs[i],z,_,rx,sr.ts (f2.ts hr),xb,λj R ya hk=>?_⟩;have f3:=(f1.trans f).trans f2;refine⟨_,j,O,ya,ha,hk,(ld.fr f3).with (λwa zb G3 H3 a b c d=>⟨wa,G3,a,b,(f.trans f2).trans c,d⟩) rfl⟩
 ·have e:i=xs.length:=by lia
  subst e;rw[CJ]at hc';obtain⟨Y,q⟩:=hc';exact .inl ⟨(wk xs.length H' O (f.ts xa) hr Y).2 rfl,ld.nx z za O H' sr hr (f1.trans f) q⟩
def s_wh      (hp:Ik (Ja X.prog X.w) X.A X.env X.xe)(hc:PT X c (lT X tc))(hb:Be X body (lS X tb)) :
  PS X (.While c body [] pos) (lS X λD ς G=>∃W:Nat->Sg->Gp->Prop,(∃m,W m ς G)/\∀m z G1,W m z G1->
   tc z G1 (λt G2=>if t=ma then tb { D with nx:=λj F=>∃I,I<m/\W I j F } z G2 else D.nx z G2) λx G1=>D.ex x z G1):=by
 refine(aU hp hc hb).imp λD σ H ⟨De,ς,G,za,hG,h,ld⟩=>?_;obtain⟨W,⟨m0,w0⟩,Z⟩:=h;refine⟨λm R H'=>∃j F,SR X.K H' j R/\HR X.K H' F/\Fr H G H' F/\W m j F,⟨m0,ς,G,za,hG,Fr.refl _ _,w0⟩,?_⟩;rintro m R H' ⟨j,F,sr,hr,f,w⟩;refine⟨j,F,_,_,sr,hr,Z m j F w,λb G2 H2 xa Y q=>?_,(ld.fr f).lx sr hr⟩;cases b with
 |true=>
  rw[if_pos rfl]at q ⊢;refine⟨λJ H3=>∃y O,SR X.K H3 y J/\HR X.K H3 O/\Fr H G H3 O/\∃I,I<m/\W I y O,λJ H3 ⟨y,O,a,b,c,I,hm,w'⟩=>⟨I,hm,y,O,a,b,c,w'⟩,?_⟩;exact⟨_,j,G2,sr.ts (Y.ts hr),xa,q,(ld.fr (f.trans Y)).with (λy J O H3 a b c d=>⟨y,O,a,b,(f.trans Y).trans c,d⟩) rfl⟩
 |false=>
  rw[if_neg Hd]at q ⊢;exact ld.nx j R G2 H2 (sr.ts (Y.ts hr)) xa (f.trans Y) q
end
structure Cc where
 N:List Str
 sc:List (Str×Mf)
noncomputable def kd  (c:Cc)(x:Str)(k:Mf):Bool:=c.sc.lookup x==da k
def Ah  (c:Cc)(x:Str):Bool:=kd c x .globalImplicit && !(x==("__debug__" : Str))
noncomputable def Xx  : Na->List Str
 |.Name x _=>[x]
 |_=>[]
def qM  : Na->List Str
 |.Tuple j _ _=>j.flatMap Xx
 |e=>Xx e
def GR  : Na->List Str
 |.Tuple j _ _=>j.flatMap qM
 |e=>Xx e
noncomputable def VE  : List String:=["bool", "int", "str", "list", "tuple", "dict"]
def cOkS  (c:Cc)(N:List Str)(pick:List (Option Nat))(scope:Rc):Bool:=
 decide (scope.kind=.function)&&scope.names.all (λy=>y.2 != .cell||scope.names.lookup y.1==da .cell)&&scope.names.all (λy=>y.2 != .local||scope.names.lookup y.1==da .local)
  && scope.names.all (λy=>y.2 != .free||(scope.names.lookup y.1==da .free&&(kd c y.1 .cell||kd c y.1 .free)))
  && pick.length==N.length&&(N.zip pick).all (λp=>match p.2 with|none=>ma|some j=>c.N[j]?==da p.1&&scope.names.lookup p.1==da .free)&&decide N.Nodup
noncomputable def Gu  : Na->Bool
 |.Call (.Name _ _) [] [] _=>ua
 |_=>ma
noncomputable def e0  : Na:=.Name "" ⟨0,0,0,0⟩
def hd  : List Na->Na
 |[]=>e0
 |e::_=>e
def c0  : Na->Na
 |.BinOp l _ _ _=>l
 |.UnaryOp _ x _=>x
 |.IfExp t _ _ _=>t
 |.Compare l _ _ _=>l
 |.Subscript v _ _=>v
 |.Attribute v _ _=>v
 |.Call f _ _ _=>f
 |.ListComp e _ _ _=>e
 |.FormattedValue v _ _ _=>v
 |_=>e0
def c1  : Na->Na
 |.BinOp _ _ r _=>r
 |.IfExp _ b _ _=>b
 |.Subscript _ s _=>s
 |_=>e0
def c2  : Na->Na
 |.IfExp _ _ b _=>b
 |_=>e0
noncomputable def cl  : Na->List Na
 |.BoolOp _ j _=>j
 |.Compare _ _ j _=>j
 |.Call _ j _ _=>j
 |.List j _=>j
 |.Tuple j _ _=>j
 |.Dict _ j _=>j
 |.JoinedStr j _=>j
 |_=>[]
noncomputable def kk  : Na->Nat
 |.Constant _ k _=>k
 |.Tuple _ k _=>k
 |_=>0
def oe  : Option Na->Na
 |some e=>e
 |none=>e0
def dk  : Na->List Na
 |.Dict j _ _=>j.map oe
 |_=>[]
def gen1  : Na->Vv
 |.ListComp _ (g::_) _ _=>g
 |_=>⟨e0,e0,[],0⟩
noncomputable def Jr  : Na->Rc
 |.ListComp _ _ s _=>s
 |_=>⟨.module,[],ua,ua,[]⟩
def s0  : Na->Na
 |.Slice (da e) _ _ _=>e
 |_=>e0
def s1  : Na->Na
 |.Slice _ (da e) _ _=>e
 |_=>e0
def s2  : Na->Na
 |.Slice _ _ (da e) _=>e
 |_=>e0
noncomputable def Ue  (c:Cc)(i:Nat):Str:=c.N.getD i ""
noncomputable def uA  : Bool->PySem.BoolOp
 |true=>.And
 |false=>.Or
noncomputable def gh  : Es->Nat
 |.nil=>0
 |.cons _ j=>gh j+1
noncomputable def iq  : Dh->Nat
 |.nil=>0
 |.cons _ ts=>iq ts+1
noncomputable def sJ  : Tg->Bool
 |.t _=>ma
 |.n _=>ua
noncomputable def isLc  : E->Bool
 |.lc ..=>ma
 |_=>ua
def cc  (c:Cc)(pick:List (Option Nat))(h:Na):Cc:=⟨GR (gen1 h).target++(pick.filterMap id).filterMap (λj=>c.N[j]?),(Jr h).names⟩
mutual
noncomputable def unTg (c:Cc):Tg->Na->Na
 |.n i,h=>.Name (Ue c i) h.pos
 |.t ts,h=>.Tuple (Ak c ts (cl h)) (kk h) h.pos
noncomputable def Ak (c:Cc):Dh->List Na->List Na
 |.nil,_=>[]
 |.cons t ts,hs=>unTg c t (hd hs)::Ak c ts hs.tail
end
def pC  (c:Cc)(i:Nat):Bool:=decide (i<c.N.length)&&(kd c (Ue c i) .local||kd c (Ue c i) .cell)
mutual
noncomputable def okTg (c:Cc):Tg->Bool
 |.n i=>pC c i
 |.t ts=>dy c ts
noncomputable def dy (c:Cc):Dh->Bool
 |.nil=>ma
 |.cons t ts=>okTg c t&&dy c ts
end
section
variable (T:Le)
noncomputable def Mv (n:Nat):Str:=match T.funs[n]? with
 |some d=>d.name
 |none => ""
mutual
noncomputable def Zb (c:Cc):E->Na->Na
 |.v i,h=>.Name (Ue c i) h.pos
 |.non,h=>.Constant .none (kk h) h.pos
 |.bl b,h=>.Constant (.bool b) (kk h) h.pos
 |.int i,h=>.Constant (.int i) (kk h) h.pos
 |.str x,h=>.Constant (.str x) (kk h) h.pos
 |.g n,h=>.Name (T.gn.getD n "") h.pos
 |.ty n,h=>.Name (Kj n) h.pos
 |.bin o a b,h=>.BinOp (Zb c a (c0 h)) o (Zb c b (c1 h)) h.pos
 |.neg a,h=>.UnaryOp .USub (Zb c a (c0 h)) h.pos
 |.not a,h=>.UnaryOp .Not (Zb c a (c0 h)) h.pos
 |.bop k a es,h=>.BoolOp (uA k) (Zb c a (hd (cl h))::unEs c es (cl h).tail) h.pos
 |.cmp o a b,h=>.Compare (Zb c a (c0 h)) [o] [Zb c b (hd (cl h))] h.pos
 |.cmp2 o p a b d,h=>.Compare (Zb c a (c0 h)) [o,p] [Zb c b (hd (cl h)),Zb c d (hd (cl h).tail)] h.pos
 |.ife t a b,h=>.IfExp (Zb c t (c0 h)) (Zb c a (c1 h)) (Zb c b (c2 h)) h.pos
 |.tup es,h=>.Tuple (unEs c es (cl h)) (kk h) h.pos
 |.lst es,h=>.List (unEs c es (cl h)) h.pos
 |.dic es,h=>.Dict (Fh c es (dk h)) (Fn c es (cl h)) h.pos
 |.ix a b,h=>.Subscript (Zb c a (c0 h)) (Zb c b (c1 h)) h.pos
 |.sl a lo hi,h=>.Subscript (Zb c a (c0 h)) (.Slice (ox c lo (s0 (c1 h))) (ox c hi (s1 (c1 h))) Aa (c1 h).pos) h.pos
 |.rev a b,h=>.Subscript (Zb c a (c0 h)) (.Slice Aa Aa (da (Zb c b (s2 (c1 h)))) (c1 h).pos) h.pos
 |.call n es,h=>.Call (.Name (Mv T n) (c0 h).pos) (unEs c es (cl h)) [] h.pos
 |.app i es,h=>.Call (.Name (Ue c i) (c0 h).pos) (unEs c es (cl h)) [] h.pos
 |.blt b es,h=>.Call (.Name (bltN b) (c0 h).pos) (unEs c es (cl h)) [] h.pos
 |.meth m o es,h=>.Call (.Attribute (Zb c o (c0 (c0 h))) (mthN m) (c0 h).pos) (unEs c es (cl h)) [] h.pos
 |.lc pick t it ifs d,h=>.ListComp (Zb (cc c pick h) d (c0 h)) [⟨unTg (cc c pick h) t (gen1 h).target,unI c it (gen1 h).iter,unEs (cc c pick h) ifs (gen1 h).ifs,0⟩] (Jr h) h.pos
 |.mkD d,h=>.Call (.Name "list" (c0 h).pos) [Zb c d (hd (cl h))] [] h.pos
 |.mkL d,h=>.Call (.Name "list" (c0 h).pos) [Zb c d (hd (cl h))] [] h.pos
 |.mkT d,h=>.Call (.Name "tuple" (c0 h).pos) [Zb c d (hd (cl h))] [] h.pos
noncomputable def ox (c:Cc):Eo->Na->Option Na
 |.no,_=>Aa
 |.so d,h=>da (Zb c d h)
noncomputable def unEs (c:Cc):Es->List Na->List Na
 |.nil,_=>[]
 |.cons d es,hs=>Zb c d (hd hs)::unEs c es hs.tail
noncomputable def Fh (c:Cc):Es->List Na->List (Option Na)
 |.cons d (.cons _ es),hs=>da (Zb c d (hd hs))::Fh c es hs.tail
 |_,_=>[]
noncomputable def Fn (c:Cc):Es->List Na->List Na
 |.cons _ (.cons d es),hs=>Zb c d (hd hs)::Fn c es hs.tail
 |_,_=>[]
noncomputable def IL (c:Cc):Es->List Na->List Na
 |.nil,_=>[]
 |.cons d es,hs=>(match d with
  |.str x=>.Constant (.str x) (kk (hd hs)) (hd hs).pos
  |d=>.FormattedValue (Zb c d (c0 (hd hs))) (-1) Aa (hd hs).pos)::IL c es hs.tail
noncomputable def unI (c:Cc):It->Na->Na
 |.e d,h=>Zb c d h
 |.r1 d,h=>.Call (.Name "range" (c0 h).pos) [Zb c d (hd (cl h))] [] h.pos
 |.enum d,h=>.Call (.Name "enumerate" (c0 h).pos) [Zb c d (hd (cl h))] [] h.pos
 |.dv d,h=>.Call (.Attribute (Zb c d (c0 (c0 h))) "values" (c0 h).pos) [] [] h.pos
 |.di d,h=>.Call (.Attribute (Zb c d (c0 (c0 h))) "items" (c0 h).pos) [] [] h.pos
end
mutual
noncomputable def okE (c:Cc):E->Na->Bool
 |.v i,_=>decide (i<c.N.length)&&(kd c (Ue c i) .local||kd c (Ue c i) .cell||kd c (Ue c i) .free) && !(Ue c i==("__debug__" : Str)) && !(Ue c i==("__classdict__" : Str))
 |.non,_=>ma
 |.bl _,_=>ma
 |.int _,_=>ma
 |.str _,_=>ma
 |.g n,_=>decide (n<T.gs.length)&&decide (n<T.gn.length)&&Ah c (T.gn.getD n "")
 |.ty n,_=>VE.contains n&&Ah c (Kj n)
 |.bin _ a b,h=>okE c a (c0 h)&&okE c b (c1 h)
 |.neg a,h=>okE c a (c0 h)
 |.not a,h=>okE c a (c0 h)
 |.bop _ a es,h=>okE c a (hd (cl h))&&okEs c es (cl h).tail
 |.cmp o a b,h=>okE c a (c0 h)&&okE c b (hd (cl h)) && !behindInMarks o (Zb T c b (hd (cl h)))
 |.cmp2 o p a b d,h=>okE c a (c0 h)&&okE c b (hd (cl h))&&okE c d (hd (cl h).tail) && !lastMarks [o,p] [Zb T c b (hd (cl h)),Zb T c d (hd (cl h).tail)]
 |.ife t a b,h=>okE c t (c0 h)&&okE c a (c1 h)&&okE c b (c2 h)
 |.tup es,h=>okEs c es (cl h)
 |.lst es,h=>okEs c es (cl h)
 |.dic es,h=>Kx c es (dk h) (cl h)&&decide (gh es<=30)
 |.ix a b,h=>okE c a (c0 h)&&okE c b (c1 h)
 |.sl a lo hi,h=>okE c a (c0 h)&&Ix c lo (s0 (c1 h))&&Ix c hi (s1 (c1 h))
 |.rev a b,h=>okE c a (c0 h)&&okE c b (s2 (c1 h))
 |.call n es,h=>decide (n<T.funs.length)&&Ah c (Mv T n)&&okEs c es (cl h)
 |.app i es,h=>decide (i<c.N.length)&&(kd c (Ue c i) .local||kd c (Ue c i) .cell||kd c (Ue c i) .free) && !(Ue c i==("__debug__" : Str)) && !(Ue c i==("__classdict__" : Str))&&okEs c es (cl h)
 |.blt b es,h=>decide (0<gh es)&&Ah c (bltN b)&&okEs c es (cl h)
 |.meth _ o es,h=>okE c o (c0 (c0 h))&&okEs c es (cl h)&&((c0 h).pos.endLine==h.pos.line)&&decide (gh es<30)&&Gu (Zb T c o (c0 (c0 h)))
 |.lc pick t it ifs d,h=>cOkS c (cc c pick h).N pick (Jr h)&&(Xj t).all (λi=>(pick[i]?).join.isNone)&&okTg (cc c pick h) t&&Jx c t it (gen1 h).iter&&okEs (cc c pick h) ifs (gen1 h).ifs&&decide (gh ifs<=1)&&okE (cc c pick h) d (c0 h)
 |.mkD d,h=>Ah c "list" && okE c d (hd (cl h))
 |.mkL d,h=>Ah c "list" && okE c d (hd (cl h))
 |.mkT d,h=>Ah c "tuple" && okE c d (hd (cl h))
noncomputable def Ix (c:Cc):Eo->Na->Bool
 |.no,_=>ma
 |.so d,h=>okE c d h
noncomputable def okEs (c:Cc):Es->List Na->Bool
 |.nil,_=>ma
 |.cons d es,hs=>okE c d (hd hs)&&okEs c es hs.tail
noncomputable def Kx (c:Cc):Es->List Na->List Na->Bool
 |.nil,_,_=>ma
 |.cons d (.cons f es),hs,gs=>okE c d (hd hs)&&okE c f (hd gs)&&Kx c es hs.tail gs.tail
 |.cons _ .nil,_,_=>ua
noncomputable def lM (c:Cc):Es->List Na->Bool
 |.nil,_=>ma
 |.cons d es,hs=>(match d with
  |.str x=>decide (x.length<=10000)
  |d=>okE c d (c0 (hd hs)))&&lM c es hs.tail
noncomputable def Jx (c:Cc)(t:Tg):It->Na->Bool
 |.e d,h=>okE c d h
 |.r1 d,h=>Ah c "range" && okE c d (hd (cl h))
 |.enum d,h=>sJ t&&Ah c "enumerate" && okE c d (hd (cl h))
 |.dv d,h=>okE c d (c0 (c0 h))&&((c0 h).pos.endLine==h.pos.line)&&Gu (Zb T c d (c0 (c0 h)))
 |.di d,h=>sJ t&&okE c d (c0 (c0 h))&&((c0 h).pos.endLine==h.pos.line)&&Gu (Zb T c d (c0 (c0 h)))
end
noncomputable def WC  (ts:List Na):Nat:=(ts.head?.map (·.pos.line)).getD 0
def Ve  (c:Cc)(ts:List Na):List Str:=ts.filterMap fun
  |.Name q j=>if c.sc.lookup q==da .local&&j.line==WC ts then da q else Aa
  |_=>Aa
noncomputable def Cu  : Na->Bool
 |.Starred ..=>ma
 |_=>ua
def swapped  (c:Cc)(ts vs:List Na):Bool:=
 (ts.length==2||ts.length==3)&&vs.length==ts.length && !(vs.any Cu)&&(Ve c ts).length==ts.length&&(Ve c ts).eraseDups.length==(Ve c ts).length && !(vs.all (LA 8)) && !(vs.all (constantsAlone 8))
def Rz  (c:Cc)(ts vs:List Na):Bool:=
 !(ts.length==2||ts.length==3)||vs.length != ts.length||(!(vs.any Cu)&&((Ve c ts).length != ts.length||(Ve c ts).eraseDups.length != (Ve c ts).length||vs.all (LA 8)))
noncomputable def lcSw  (c:Cc)(y:Str)(j p:Pos)(s:Rc):Bool:=c.sc.lookup y==da .local&&j.line==p.line && !(s.names.any λ(n,k)=>n==y&&(k == .local||k == .cell))
def q0  : Qa->Na
 |.Expr e _=>e
 |.Assign _ e _=>e
 |.Return (da e) _=>e
 |.AugAssign _ _ e _=>e
 |.If e _ _ _=>e
 |.While e _ _ _=>e
 |.For _ e _ _ _=>e
 |_=>e0
def q1  : Qa->Na
 |.Assign (t::_) _ _=>t
 |.AugAssign t _ _ _=>t
 |.For t _ _ _ _=>t
 |_=>e0
noncomputable def qa  : Qa->List Qa
 |.Try a _ _ _ _=>a
 |.If _ a _ _=>a
 |.While _ a _ _=>a
 |.For _ _ a _ _=>a
 |_=>[]
noncomputable def qb  : Qa->List Qa
 |.If _ _ b _=>b
 |_=>[]
noncomputable def qh  : List Qa->Qa
 |[]=>.Pass ⟨0,0,0,0⟩
 |s::_=>s
noncomputable def unNs  (c:Cc):List Nat->List Na->List Na
 |[],_=>[]
 |i::is,hs=>.Name (Ue c i) (hd hs).pos::unNs c is hs.tail
section
variable (c:Cc)(n:Nat)
end
section
variable (cs:List Nat)(c:Cc)
end
mutual
noncomputable def Wj (c:Cc):S->Qa->Qa
 |.expr d,h=>.Expr (Zb T c d (q0 h)) h.pos
 |.asg t d,h=>.Assign [unTg c t (q1 h)] (Zb T c d (q0 h)) h.pos
 |.asgC i d,h=>.Assign [.Name (Ue c i) (q1 h).pos] (Zb T c d (q0 h)) h.pos
 |.setS o i d,h=>.Assign [.Subscript (Zb T c o (c0 (q1 h))) (Zb T c i (c1 (q1 h))) (q1 h).pos] (Zb T c d (q0 h)) h.pos
 |.par is es,h=>.Assign [.Tuple (unNs c is (cl (q1 h))) (kk (q1 h)) (q1 h).pos] (.Tuple (unEs T c es (cl (q0 h))) (kk (q0 h)) (q0 h).pos) h.pos
 |.aug i o d,h=>.AugAssign (.Name (Ue c i) (q1 h).pos) o (Zb T c d (q0 h)) h.pos
 |.ite t a b,h=>.If (Zb T c t (q0 h)) (unSs c a (qa h)) (unSs c b (qb h)) h.pos
 |.fr t it b,h=>.For (unTg c t (q1 h)) (unI T c it (q0 h)) (unSs c b (qa h)) [] h.pos
 |.wh t b,h=>.While (Zb T c t (q0 h)) (unSs c b (qa h)) [] h.pos
 |.ret d,h=>.Return (da (Zb T c d (q0 h))) h.pos
 |.never,h=>h
noncomputable def unSs (c:Cc):Ss->List Qa->List Qa
 |.nil,_=>[]
 |.cons s r,hs=>Wj c s (qh hs)::unSs c r hs.tail
end
def mM (c:Cc):Tg->E->Qa->Bool
 |.n i,.lc ..,_=>!(kd c (Ue c i) .local)
 |.t _,.lc ..,_=>ua
 |.t ts,.tup es,h=>Rz c (Ak c ts (cl (q1 h))) (unEs T c es (cl (q0 h)))
 |_,_,_=>ma
noncomputable def okNs  (c:Cc):List Nat->Bool
 |[]=>ma
 |i::is=>decide (i<c.N.length)&&kd c (Ue c i) .local && !(is.contains i)&&okNs c is
mutual
noncomputable def Jp (c:Cc):S->Qa->Bool
 |.expr d,h=>okE T c d (q0 h) && !isLc d
 |.asg t d,h=>okE T c d (q0 h)&&okTg c t&&mM T c t d h
 |.asgC i d,h=>isLc d&&okE T c d (q0 h)&&decide (i<c.N.length)&&lcSw c (Ue c i) (q1 h).pos (q0 h).pos (Jr (q0 h))
 |.setS o i d,h=>okE T c d (q0 h)&&okE T c o (c0 (q1 h))&&okE T c i (c1 (q1 h))
 |.par is es,h=>okEs T c es (cl (q0 h))&&okNs c is&&swapped c (unNs c is (cl (q1 h))) (unEs T c es (cl (q0 h)))&&decide (is.length=2)
 |.aug i _ d,h=>pC c i&&okE T c d (q0 h)
 |.ite t a b,h=>okE T c t (q0 h)&&okSs c a (qa h)&&okSs c b (qb h)
 |.fr t it b,h=>okTg c t&&Jx T c t it (q0 h)&&okSs c b (qa h)
 |.wh t b,h=>okE T c t (q0 h)&&okSs c b (qa h)
 |.ret d,h=>okE T c d (q0 h)
 |.never,_=>ma
noncomputable def okSs (c:Cc):Ss->List Qa->Bool
 |.nil,_=>ma
 |.cons s r,hs=>Jp c s (qh hs)&&okSs c r hs.tail
end
end
def Ig  (K:Eb)(t:List U->Gp->K1->KX->Prop):Sp:=λI H F E0=>∃z G Q E,Kb K H z I/\HR K H G/\t z G Q E/\(∀w v q j,RU K j w v->HR K j q->Fr H G j q->Q w q->F v j)/\
 ∀x q j C y,XD K j C y x->HR K j q->Fr H G j q->E x q->E0 (.ref C) (da y) j
def DL  (P:Nb)(w:Bb)(K:Eb)(mg:Str->Option Da)(base:Wa)(k:Nat)(d:Fun)(t:List U->Gp->K1->KX->Prop):Prop:=
 ∃(f:Ca) (fd:vo),FnOk P w K mg base (Jd P w) (k+2) f fd d.ps (Ig K t)/\mg d.name=da (.ref f)/\Xq K (.ref f)=ma/\Binds K fd d.ps []
noncomputable def Dk  : List Str:=["len", "repr", "min", "max", "sum", "all", "any", "sorted", "int", "str", "isinstance", "range", "enumerate", "list", "tuple", "bool", "dict", "ValueError", "set", "zip"]
structure Cok (T:Le)(k:Nat)(X:Cx)(c:Cc):Prop where
 hN:X.N=c.N
 nd:c.N.Nodup
 loc:∀x,kd c x .local=ma->X.env.scope.names.lookup x=da .local
 cel:∀x,kd c x .cell=ma->X.env.scope.names.lookup x=da .cell/\X.fn x=ma
 fre:∀x,kd c x .free=ma->X.env.scope.names.lookup x=da .cell\/X.env.scope.names.lookup x=da .free
 glb:∀x,kd c x .globalImplicit=ma->Gl X x
 room:Room k X.A
 calm:X.calm=ma
 po:Ik (Ja X.prog X.w) X.A X.env X.xe
 blt:∀x∈Dk,X.mg x=Aa
 fns:∀(n:Nat) (d:Fun),T.funs[n]?=da d->DL X.prog X.w X.K X.mg X.base k d (Va T k n)
 gls:∀(n:Nat) (x:Str) (u:U),T.gn[n]?=da x->T.gs[n]?=da u->∃v w,X.mg x=da w/\RelV v w/\∀H,RU X.K H u v
 room2:Room (k+2) X.A
 cls:∀n∈T.cs,1<=n->∃C,XCls X.K (gK X.K) (clsN n) (clsF n) C
 mgK:∀x v,gK X.K x=da v->X.mg x=da v
structure gj (T:Le)(k:Nat)(X:Cx)(c:Cc):Prop extends Cok T k X c where
 sc:X.env.scope.names=c.sc
 kind:X.env.scope.kind=.function
 stk:X.stack=X.env::X.outer/\X.env.frame=da X.env.locals
section
variable {T:Le}{k:Nat}{X:Cx}{c:Cc}
def Cok.hu  (h:Cok T k X c):X.A.units+1<Sb:=BM h.room
def Cok.vis  (h:Cok T k X c)(v:(kd c x .local||kd c x .cell||kd c x .free)=ma):Zo X.env.scope x:=by
 simp only[Yq]at v;rcases v with(v|v)|v
 ·exact .inl (h.loc x v)
 ·exact .inr (.inl (h.cel x v).1)
 ·rcases h.fre x v with z|z
  ·exact .inr (.inl z)
  ·exact .inr (.inr z)
def Cok.store  (h:Cok T k X c)(v:(kd c x .local||kd c x .cell)=ma):ql X.env.scope x/\(X.fn x=ma\/X.env.scope.names.lookup x=da .local):=by
 simp only[Yq]at v;rcases v with v|v
 ·exact⟨.inl (h.loc x v),.inr (h.loc x v)⟩
 ·exact⟨.inr (h.cel x v).1,.inl (h.cel x v).2⟩
def Cok.gl  (h:Cok T k X c)(v:Ah c x=ma):Gl X x/\(x==("__debug__" : Str))=ua:=by
 unfold Ah at v;rw[Qe]at v;exact⟨h.glb x v.1,by lia⟩
end
noncomputable def Jm  : Na->Bool
 |.BoolOp ..|.BinOp ..|.UnaryOp ..|.IfExp ..|.Dict ..|.ListComp ..|.Compare ..|.Call ..|.Constant ..|.Subscript ..|.Name ..|.List ..|.Tuple ..|.JoinedStr ..=>ma
 |_=>ua
section
variable {T:Le}{c:Cc}
def Wf   ir h:Jm (Zb T c ir h)=ma:=by cases ir<;>rfl
def ug   (h:Jm e=ma) es env:Uc (e::es) env=(ua,Lb e env)::Uc es env:=by
 cases e<;>first|rfl|cases h
def cR   (h:Jm e=ma):Dy e:=by
 intro o i;cases e<;>first|rfl|cases h
def XF   (h:Jm e=ma) env:∀x,Ii e env x=pure x:=by
 intro x;cases e<;>first|rfl|cases h
def UR   it h env:∀x,Ii (unI T c it h) env x=pure x:=by
 cases it with
 |e d=>exact XF (Wf d _) env
 |_=>exact λ_=>rfl
def gU   (h:Jm i=ma) env tpos:∀v,Dc (.Subscript o i tpos) env v=(Pc [v] (Lb o env) >>= λa=>Pc [v,a] (Lb i env) >>= λb=>Qf tpos >>= λ_=>Pc [v,a,b] (lj a b v) >>= λ_=>release [v,a,b] []):=by
 intro v;cases i<;>first|rfl|cases h
def QR   (q:isLc j=ua) h env l:Kk (Zb T c j h) Aa l env=pure ua:=by
 cases j<;>first|rfl|cases q
def VR   (q:isLc j=ua) h tg env l:Mj [tg] (Zb T c j h) l env=pure ua:=by
 cases j<;>first|rfl|cases q
def dD   ir h x y p env l:Mj [.Subscript x y p] (Zb T c ir h) l env=pure ua/\Ai [.Subscript x y p] (Zb T c ir h) env=pure Aa:=by
 cases ir<;>exact⟨rfl,rfl⟩
def aP   ir h x p env:Ai [.Name x p] (Zb T c ir h) env=pure Aa:=by
 cases ir<;>rfl
def TR   t h env:(Cg [unTg c t h] env).map (·.2)=[Dc (unTg c t h) env]:=by
 cases t<;>rfl
def pq   (h:Gu o=ma) m env w:Pk o m env w=w:=by
 unfold Pk;split
 ·cases h
 ·rfl
theorem bo  : ∀j hs env pos ,(Jc pos (Uc (unEs T c j hs) env)).any (·.1)=ua/\(Jc pos (Uc (unEs T c j hs) env)).all (λx=>!x.1)=ma
 |.nil,_,_,_=>⟨rfl,rfl⟩
 |.cons d j,hs,env,pos=>by
  obtain⟨y,q⟩:=bo j hs.tail env pos;show(Jc pos (Uc (Zb T c d (hd hs)::unEs T c j hs.tail) env)).any (·.1)=ua/\(Jc pos (Uc (Zb T c d (hd hs)::unEs T c j hs.tail) env)).all (λx=>!x.1)=ma;rw[ug (Wf d _)];exact⟨by show(ua||(Jc pos (Uc (unEs T c j hs.tail) env)).any (·.1))=ua;lia,by show(!false&&(Jc pos (Uc (unEs T c j hs.tail) env)).all (λx=>!x.1))=ma;lia⟩
theorem Ay  : ∀j hs ,(unEs T c j hs).length=gh j
 |.nil,_=>rfl
 |.cons _ j,hs=>congrArg (·+ 1) (Ay j hs.tail)
def ba   (h:(a&&b)=ma):a=ma/\b=ma:=by lia
def bn   (h:(!a)=ma):a=ua:=by lia
def QN   (h:decide (i<c.N.length)=ma):c.N[i]?=da (Ue c i):=by
 unfold Ue
 simp_all
end
theorem QE  : ∀{ts } {us } {q } {k },tgsU ts us q k->us.length=iq ts
 |.nil,us,q,k,h=>by rw[h.1];rfl
 |.cons t ts,us,q,k,h=>by
  cases us with
  |nil=>exact h.elim
  |cons u r=>
   have:∃j,tgsU ts r j k:=tg_some h;obtain⟨j,y⟩:=this;show r.length+1=iq ts+1;rw[QE y]
where
 tg_some {t:Tg} {u:U} {ς:Sg} {P:Sg->Prop} (h:Lc t u ς P):∃ς',P ς':=by
  have:=Ru (k':=λ_=>∃ς',P ς') h λς' h'=>⟨ς',h'⟩;exact tg_const this
 tg_const:∀{t:Tg} {u:U} {ς:Sg} {P:Prop},Lc t u ς (λ_=>P)->P
  |.n _,_,_,_,h=>h
  |.t ts,u,ς,P,h=>by
   cases u with
   |tup us=>exact tgs_const (ts:=ts) (us:=us) h
   |_=>exact h.elim
 tgs_const:∀{ts:Dh} {us:List U} {ς:Sg} {P:Prop},tgsU ts us ς (λ_=>P)->P
  |.nil,_,_,_,h=>h.2
  |.cons t ts,us,ς,P,h=>by
   cases us with
   |nil=>exact h.elim
   |cons u r=>exact tg_const (Ru (t:=t) h λς' h'=>tgs_const h')
section
variable {T:Le}{k:Nat}{X:Cx}{c:Cc}
theorem Py  : ∀ts hs env ,(Cg (Ak c ts hs) env).length=iq ts/\(Cg (Ak c ts hs) env).findIdx? (·.1)=Aa
 |.nil,_,_=>⟨rfl,rfl⟩
 |.cons t ts,hs,env=>by
  obtain⟨j,q⟩:=Py ts hs.tail env;have e:Cg (Ak c (.cons t ts) hs) env=(ua,Dc (unTg c t (hd hs)) env)::Cg (Ak c ts hs.tail) env:=by cases t<;>rfl
  rw[e];exact⟨by simp[j,iq],by simp_all⟩
def Cok.nm   (C:Cok T k X c)(h:decide (i<c.N.length)=ma):X.N[i]?=da (Ue c i):=by rw[C.hN];exact QN h
mutual
theorem Hn (C:Cok T k X c):∀(t:Tg) (h:Na),okTg c t=ma->PG X (unTg c t h) (lG X.K (Lc t))
 |.n _,_,q=>let s:=C.store (ba q).2;u_tn (by rw[C.hN];exact C.nd) (C.nm (ba q).1) s.1 s.2
 |.t ts,h,q=>u_tt C.calm (sTgs C ts (cl h) q) (Py ts _ X.env).1 (Py ts _ X.env).2 λj y k q=>QE q
theorem sTgs (C:Cok T k X c):∀(ts:Dh) (hs:List Na),dy c ts=ma->Uh X (Ak c ts hs) (aq X.K (tgsU ts))
 |.nil,_,_=>XO
 |.cons t ts,hs,q=>iN (Hn C t (hd hs) (ba q).1) (sTgs C ts hs.tail (ba q).2) (by cases t<;>rfl)
end
def EB  (X:Cx)(z:St):XK:=λq F y=>∀(j:List (Ca×Obj)) (ea:Ca) (s':Fa),Pa X j z y s'->Lies X.s₀.heap.objs.size X.pn y s'.heap ea q F->X.xe (.ref ea) s'
def aF        {J:St}(F:FnOk X.prog X.w X.K X.mg X.base (Jd X.prog X.w) j f fd ps sp)(hr:Room j X.A)(Y:Binds X.K fd ps [])
  (I:Pa X pins J H s) (r:Vals vs us) (h:sp vs H Q (EB X J)):wpAny (Ja X.prog X.w) X.A (call (.ref f) us) (EP X pins J Q) X.xe s:=by
 have hl:(us++[]).length=ps.length:=by rw[Sh,<- r.length];exact F.len _ _ _ _ h
 have z:=Y s us I.kIn hl;rw[Sh]at z;refine qp (Io (F.run X.A X.stack s H ⟨us,[]⟩ us vs Q (EB X J) hr I.env0 z r h) λr R y=>?_);cases r with
 |error e=>
  obtain⟨O,H',Z,dx,rfl,I',l,q⟩:=Jd.back I y;exact q pins O R I' l
 |ok fl=>
  cases fl with
  |ret u=>exact I.after y
  |next=>exact Rh y
  |brk=>exact Rh y
  |cont=>exact Rh y
def bF         {E:KX}(r:Kb X.K H us vs)(I:HR X.K H G)(h:Va T k n us G Q E)(z:LV X H G Q Q0)(lx:LX X σ H G E):Ig X.K (Va T k n) vs H Q0 (EB X σ):=
 ⟨us,G,Q,E,r,I,h,z,λx Z R C O Y hr f q j y F J l=>lx j (.ref y) F x Z R J ⟨y,C,O,rfl,l,Y⟩ hr f q⟩
def nR         (C:Cok T k X c)(hd:T.funs[n]?=da d)(hx:d.name=x)(hg:Ah c x=ma)(ha:PA X (e::es) (lA X ts))
  (he:Uc (e::es) X.env=(ua,Lb e X.env)::Uc es X.env) (O:(Jc pos (Uc es X.env)).any (·.1)=ua) :
  PE X (.Call (.Name x p) (e::es) [] pos) (lE X λY G Q E=>ts Y G (λus G1=>Va T k n us G1 Q E) E):=by
 obtain⟨f,fd,F,Z,hk,hb⟩:=C.fns n d hd;obtain⟨g1,g2⟩:=C.gl hg;rw[hx]at Z;intro j s R H Q0 I ⟨Y,G,Q,E,hς,hG,h,lv,lx⟩;refine No (Yu I g1 Z ?_ g2);have h':lA X ts R H λy J=>Ig X.K (Va T k n) y J Q0 (EB X R):=⟨Y,G,_,E,hς,hG,h,λus y G1 J rs z f1 h1=>bF rs z h1 (lv.fr f1) (lx.fr f1),lx⟩;refine dL (h₀:=X.base) I.ok.mod.kin hk (Pb (ha pos j s R H _ I h') λus s1 ⟨y,J,I1,r,q⟩=>⟨I1.kIn,?_⟩) he O;exact aF F C.room2 hb I1 r q
def NR      (C:Cok T k X c)(hd:T.funs[n]?=da d)(y:d.name=x)(O:Ah c x=ma) :
  PE X (.Call (.Name x p) [] [] pos) (lE X λ_ G Q E=>Va T k n [] G Q E):=by
 obtain⟨f,fd,F,j,hk,z⟩:=C.fns n d hd;obtain⟨R,J⟩:=C.gl O;rw[y]at j;intro q s Z H Y I ⟨ς,G,Q,E,hς,hG,h,lv,lx⟩;refine No (Yu I R j ?_ J);exact PySem.W.callWith_K0 I.kIn hk (aF (us:=[]) (vs:=[]) F C.room2 z I .nil (bF (show Kb X.K H [] []from rfl) hG h lv lx))
def Cok.comp     (C:Cok T k X c)(h:cOkS c N pick scope=ma):CScope X N pick scope/\∀cl A s₀ H₀ I,Cok T k (ce X N scope cl A s₀ H₀ I) ⟨N,scope.names⟩:=by
 unfold cOkS at h;simp only[Qe,decide_eq_true_eq]at h;obtain⟨⟨⟨⟨⟨⟨Y,h2⟩,h3⟩,h4⟩,h5⟩,R⟩,h7⟩:=h;have q:∀y∈scope.names,y.2=.cell->scope.names.lookup y.1=da .cell:=λy F hc=>by
  grind
 refine⟨⟨Y,q,λy F hl=>?_,λy F J=>?_,by lia,λi j x O Z=>?_⟩,λcl A s₀ H₀ I=>?_⟩
 ·grind
 ·have:=Bj.mp h4 y F;rw[J]at this;simp only[bne_self_eq_false,fB,Qe,Yq,beq_iff_eq]at this;refine⟨this.1,?_⟩;rcases this.2 with z|z
  ·exact .inl (C.cel _ z).1
  ·exact C.fre _ z
 ·have hz:(N.zip pick)[i]?=da (x,da j):=by rw[fc];exact⟨O,Z⟩
  have:=Bj.mp R _ (Pd hz);rw[C.hN]
  lia
 ·refine⟨rfl,h7,λx z=>?_,λx z=>?_,λx z=>?_,λx z=>?_,C.room,C.calm,Ik.never,C.blt,C.fns,C.gls,C.room2,C.cls,C.mgK⟩
  ·exact cA (by decide) (eq_of_beq z)
  ·exact⟨cA (by decide) (eq_of_beq z),z⟩
  ·exact JI (eq_of_beq z)
  ·exact SW (eq_of_beq z)
end
end Z

namespace Z
open PySem L2


structure ax (X:Cx)(n:Nat)(ea C dx:Ca)(x:XV)(σ:St)(H:Hp)(ς:Sg)(G:Gp):Prop where
 sr:SR X.K H ς σ
 hr:HR X.K H G
 en:σ[n]?=da (da (.ref ea))
 xd:XD X.K H C dx x
def hB  (X:Cx)(n:Nat)(z C F:Ca)(x:XV)(f:Sg->Option Bool):TE:=λy H Q=>∃q G b,ax X n z C F x y H q G/\f q=da b/\∀j,HR X.K j G->Fr H G j G->Q (.bl b) j
def hT  (X:Cx)(n:Nat)(z C F:Ca)(x:XV)(f:Sg->Option Bool):TT:=λy H Q=>∃q G b,ax X n z C F x y H q G/\f q=da b/\∀j,HR X.K j G->Fr H G j G->Q b j

def hS  (X:Cx)(n:Nat)(F C J:Ca)(x:XV)(hs:List HS):L2.TS:=λD O H=>∃I G k,ax X n F C J x O H I G/\Lv x hs I G k/\∀j q z y,ax X n F C J x q y j z->Fr H G y z->k j z->D.nx q y

section
variable {T:Le}{k:Nat}
def HQ   b:bltN b∈Dk:=by cases b<;>decide
def lR  : ∀n∈VE,Pj (Kj n)=da (.type n)/\Kj n∈Dk/\Kj n ≠ "__name__" := by decide +kernel
abbrev SE  (T:Le)(k:Nat)(X:Cx)(c:Cc)(j:E)(h:Na):Prop:=PE X (Zb T c j h) (lE X (Ra T.gs (Va T k) j).1)/\PT X (Zb T c j h) (lT X (Ra T.gs (Va T k) j).2)
section
variable {X:Cx}{c:Cc}
def lf    (h:PE X e (lE X t))(q:∀j,tf e X.env j=(do let v <- j;Qf e.pos;Pc [v] (truthy v))):PE X e (lE X t)/\PT X e (lT X (truT t)):=⟨h,gN h q⟩
def pP   {rest:List Na}(y:PE X a (lE X p.1)/\PT X a (lT X p.2))(j:PE X (.BoolOp .And (b::rest) pos) (lE X q.1)/\PW X (.BoolOp .And (b::rest) pos) (lT X q.2)) :
  PE X (.BoolOp .And (a::b::rest) pos) (lE X (comb ma p q).1)/\PW X (.BoolOp .And (a::b::rest) pos) (lT X (comb ma p q).2):=⟨RM y.1 j.1,mR y.2 j.2⟩
def IN   {rest:List Na}(y:PE X a (lE X p.1)/\PT X a (lT X p.2))(j:PE X (.BoolOp .Or (b::rest) pos) (lE X q.1)/\PW X (.BoolOp .Or (b::rest) pos) (lT X q.2)) :
  PE X (.BoolOp .Or (a::b::rest) pos) (lE X (comb ua p q).1)/\PW X (.BoolOp .Or (a::b::rest) pos) (lT X (comb ua p q).2):=⟨u_or y.1 j.1,fN y.2 j.2⟩
def se_v    (C:Cok T k X c)(q:okE T c (.v i) h=ma):SE T k X c (.v i) h:=lf (ZO (C.nm (ba (ba (ba q).1).1).1) (C.vis (ba (ba (ba q).1).1).2) (bn (ba (ba q).1).2) (bn (ba q).2)) λ_=>rfl
def se_g    (C:Cok T k X c)(q:okE T c (.g n) h=ma):SE T k X c (.g n) h:=by
 have Y:=of_decide_eq_true (ba (ba q).1).1;have h2:=of_decide_eq_true (ba (ba q).1).2;have z:T.gn[n]?=da (T.gn.getD n ""):=by simp_all
 obtain⟨v,w,m,r,F⟩:=C.gls n _ T.gs[n] z (by simp[Y])
 obtain⟨Z,O⟩:=C.gl (ba q).2;refine lf (PE.imp (u_gl (u:=T.gs[n]) Z m r F O) λσ H Q0 ⟨I,G,Q,E,j,J,h,y,lx⟩=>⟨I,G,Q,E,j,J,?_,y,lx⟩) λ_=>rfl;have R:Gk T.gs n λu=>Q u G:=h;unfold Gk at R
 simp_all
def JN    (C:Cok T k X c)(q:okE T c (.ty n) h=ma):SE T k X c (.ty n) h:=by
 obtain⟨y,j⟩:=C.gl (ba q).2;obtain⟨t1,t2,t3⟩:=lR n (by simpa using (ba q).1)
 exact lf (u_ty y (C.blt _ t2) t1 t3 j) λ_=>rfl
def tP     (q:Cn X h.pos (Fh T c es (dk h)) (Fn T c es (cl h)) F)(J:lD X (denD T.gs (Va T k) es) F)(R:(Fh T c es (dk h)).all (·.isSome)=ma)(y:(Fh T c es (dk h)).length=(Fn T c es (cl h)).length)
  (O:(Fh T c es (dk h)).length<=15):SE T k X c (.dic es) h:=by
 refine lf ?_ λ_=>rfl
 match es,q,J,R,y,O with
 |.nil,_,_,_,_,_=>exact PE.imp qR λσ H Q0 ⟨Z,G,Q,E,j,hG,h,Y,lx⟩=>⟨Z,G,Q,E,j,hG,(show([]:List (Wb×U)).length<=15/\newO G (.dK (Om [])) Q from h).2,Y,lx⟩
 |.cons _ .nil,_,_,_,_,_=>exact λxa s σ H Q0 I ⟨Z,G,Q,E,j,hG,h,Y,lx⟩=>(show False from h).elim
 |.cons d (.cons f es),q,J,R,y,O=>exact WM q J R y (λz=>nomatch z) O
def vR     (C:Cok T k X c)(q:okE T c (.call n es) h=ma)(y:PA X (unEs T c es (cl h)) (lA X (Nd T.gs (Va T k) es))):SE T k X c (.call n es) h:=by
 refine lf ?_ λ_=>rfl;have F:=of_decide_eq_true (ba (ba q).1).1;have j:T.funs[n]?=da T.funs[n]:=by simp[F]
 have z:T.funs[n].name=Mv T n:=by unfold Mv;rw[j]
 match es,y with
 |.nil,_=>exact NR C j z (ba (ba q).1).2
 |.cons d es,y=>exact nR C j z (ba (ba q).1).2 y (ug (Wf d _) _ _) (bo es _ _ _).1
def sP     (C:Cok T k X c)(q:okE T c (.blt b es) h=ma)(j:PA X (unEs T c es (cl h)) (lA X (Nd T.gs (Va T k) es))):SE T k X c (.blt b es) h:=by
 refine lf ?_ λ_=>rfl;obtain⟨y,z⟩:=C.gl (ba (ba q).1).2
 match es,j,q with
 |.nil,_,q=>exact absurd (of_decide_eq_true (ba (ba q).1).1) (Bi 0)
 |.cons d es,j,_=>exact UM (CO C.room C.calm b) y (C.blt _ (HQ b)) j (ug (Wf d _) _ _) (bo es _ _ _).1
def wR      (hu:X.A.units+1<Sb)(q:okE T c (.meth m o es) h=ma)(z:PE X (Zb T c o (c0 (c0 h))) (lE X (Ra T.gs (Va T k) o).1))(y:PA X (unEs T c es (cl h)) (lA X (Nd T.gs (Va T k) es))):SE T k X c (.meth m o es) h:=by
 refine lf ?_ λ_=>rfl;have F:=(ba q).2;have j:=of_decide_eq_true (ba (ba q).1).2;have I:=(ba (ba (ba q).1).1).2
 match es,y,j with
 |.nil,_,_=>exact PR (wy hu m) z (pq F _ _ _) I
 |.cons d es,y,j=>
  refine cD (wy hu m) z y (pq F _ _ _) ?_ I (ug (Wf d _) _ _) (bo es _ _ _).1;have e:=(bo (T:=T) (c:=c) (.cons d es) (cl h) X.env h.pos).2;show((Jc h.pos (Uc (unEs T c (.cons d es) (cl h)) X.env)).all (λx=>!x.1)&&_&&decide ((unEs T c (.cons d es) (cl h)).length+0+0<30))=ma;rw[e,Ay];exact decide_eq_true j
def rP    (h:PT X e (lT X (Ra T.gs (Va T k) d).2)):PIfs X [e] (Qi X.K (denC T.gs (Va T k) (.cons d .nil))):=by
 refine PIfs.imp (pS (Qi.of h)) λY H R ⟨y,G,Q,z,I,O,F⟩=>⟨y,G,λb q=>Q b q,z,I,?_,F⟩;have J:(Ra T.gs (Va T k) d).2 y G (λb j=>if b=ma then Q ma j else Q ua j) (λ_ _=>False):=O
 have e:(λ(b:Bool) (j:Gp)=>if b=ma then Q ma j else Q ua j)=λb q=>Q b q:=by
  grind
 lia
def qP  : PIfs X [] (Qi X.K (denC T.gs (Va T k) .nil)):=PIfs.imp nS λF H z ⟨I,G,Q,J,q,y,j⟩=>j ma G H q (Fr.refl _ _) y
theorem xC  : ∀j hs ,2*(Fh T c j hs).length<=gh j
 |.nil,_=>Jb _
 |.cons _ .nil,_=>Eg _
 |.cons _ (.cons _ j),hs=>by
  have:=xC j hs.tail;show 2*((Fh T c j hs.tail).length+1)<=gh j+1+1
  lia
def k_le    (h:gh es<=30):(Fh T c es hs).length<=15:=by
 have:=xC (T:=T) (c:=c) es hs
 lia
end
mutual
theorem sE:∀(I:E) {X:Cx} {c:Cc} {h:Na},Cok T k X c->okE T c I h=ma->SE T k X c I h
 |.v _,_,_,_,C,q=>se_v C q
 |.non,_,_,_,_,_=>lf (ao (u:=.non) RP λ_=>rfl) λ_=>rfl
 |.bl b,_,_,_,_,_=>lf (ao (u:=.bl b) qN λ_=>rfl) λ_=>rfl
 |.int i,_,_,_,_,_=>lf (ao (u:=.int i) OP λ_=>rfl) λ_=>rfl
 |.str x,_,_,_,_,_=>lf (ao (u:=.str x) VP λ_=>rfl) λ_=>rfl
 |.g _,_,_,_,C,q=>se_g C q
 |.ty _,_,_,_,C,q=>JN C q
 |.bin o a b,_,_,_,C,q=>lf (TM (HP o) (sE a C (ba q).1).1 (sE b C (ba q).2).1) λ_=>rfl
 |.neg a,_,_,_,C,q=>lf (dN (sE a C q).1) λ_=>rfl
 |.not a,_,_,_,C,q=>⟨eN (sE a C q).1,tR (sE a C q).2⟩
 |.bop k a es,_,_,h,C,q=>let r:=sB es k C (sE a C (ba q).1) (ba q).2 h.pos;⟨r.1,r.2.pt⟩
 |.cmp o a b,_,_,_,C,q=>⟨VM (Qn C.room o) (sE a C (ba (ba q).1).1).1 (sE b C (ba (ba q).1).2).1 (bn (ba q).2),pR (Qn C.room o) (sE a C (ba (ba q).1).1).1 (sE b C (ba (ba q).1).2).1 (bn (ba q).2)⟩
 |.cmp2 o p a b d,_,_,_,C,q=>⟨oR (Qn C.room o) (Qn C.room p) (sE a C (ba (ba (ba q).1).1).1).1 (sE b C (ba (ba (ba q).1).1).2).1 (sE d C (ba (ba q).1).2).1 (bn (ba q).2),
   PT.imp (OR (Qn C.room o) (Qn C.room p) (sE a C (ba (ba (ba q).1).1).1).1 (sE b C (ba (ba (ba q).1).1).2).1 (sE d C (ba (ba q).1).2).1 (bn (ba q).2)) λ_ _ _ ⟨O,G,Q,E,F,R,h,J,lx⟩=>⟨O,G,Q,E,F,R,h,J,lx⟩⟩
 |.ife t a b,_,_,_,C,q=>⟨XM (sE t C (ba (ba q).1).1).2 (sE a C (ba (ba q).1).2).1 (sE b C (ba q).2).1,sR (sE t C (ba (ba q).1).1).2 (sE a C (ba (ba q).1).2).2 (sE b C (ba q).2).2⟩
 |.tup es,_,_,_,C,q=>lf (YO (Zj es C q)) λ_=>rfl
 |.lst es,_,_,_,C,q=>lf (YM (Zj es C q)) λ_=>rfl
 |.dic es,_,_,h,C,q=>let ⟨_,h1,Z,h3,Y⟩:=sD es C h.pos (ba q).1;tP h1 Z h3 Y (k_le (of_decide_eq_true (ba q).2))
 |.ix a b,_,_,_,C,q=>lf (u_ix C.hu (sE a C (ba q).1).1 (sE b C (ba q).2).1 (cR (Wf b _))) λ_=>rfl
 |.sl a lo hi,_,_,_,C,q=>lf (u_sl (sE a C (ba (ba q).1).1).1 (sO lo C (ba (ba q).1).2) (sO hi C (ba q).2)) λ_=>rfl
 |.rev a b,_,_,_,C,q=>lf (SC (sE a C (ba q).1).1 (sE b C (ba q).2).1) λ_=>rfl
 |.call _ es,_,_,_,C,q=>vR C q (Zj es C (ba q).2)
 |.app _ _,_,_,_,_,_=>⟨λ_ _ _ _ _ _ ⟨_,_,_,_,_,_,h,_⟩=>(show False from h).elim,λ_ _ _ _ _ _ ⟨_,_,_,_,_,_,h,_⟩=>(show False from h).elim⟩
 |.blt _ es,_,_,_,C,q=>sP C q (Zj es C (ba q).2)
 |.meth _ o es,_,_,_,C,q=>wR C.hu q (sE o C (ba (ba (ba (ba q).1).1).1).1).1 (Zj es C (ba (ba (ba (ba q).1).1).1).2)
 |.lc _ t it ifs d,_,_,_,C,q=>let S:=C.comp (ba (ba (ba (ba (ba (ba q).1).1).1).1).1).1
   lf (u_lc C.calm S.1 (sI it t _ _ C (ba (ba (ba (ba q).1).1).1).2).1 (ba (ba (ba (ba (ba (ba q).1).1).1).1).1).2 (λcl A y j z=>Hn (S.2 cl A y j z) t _ (ba (ba (ba (ba (ba q).1).1).1).1).2)
    (λcl A y j z=>sC ifs (S.2 cl A y j z) (of_decide_eq_true (ba (ba q).1).2) (ba (ba (ba q).1).1).2) (λcl A y j z=>gk.of (sE d (S.2 cl A y j z) (ba q).2).1) (sI it t ⟨[],[]⟩ e0 C (ba (ba (ba (ba q).1).1).1).2).2) λ_=>rfl
 |.mkD d,_,_,_,C,q=>lf (ZM C.calm (C.gl (ba q).1).1 (C.blt _ (by decide)) (sE d C (ba q).2).1 (ug (Wf d _) _ _)) λ_=>rfl
 |.mkL d,_,_,_,C,q=>lf (aN (C.gl (ba q).1).1 (C.blt _ (by decide)) (sE d C (ba q).2).1 (ug (Wf d _) _ _)) λ_=>rfl
 |.mkT d,_,_,_,C,q=>lf (cN (C.gl (ba q).1).1 (C.blt _ (by decide)) (sE d C (ba q).2).1 (ug (Wf d _) _ _)) λ_=>rfl
theorem sO:∀(j:Eo) {X:Cx} {c:Cc} {h:Na},Cok T k X c->Ix T c j h=ma->PO X (ox T c j h) (lO X (denO T.gs (Va T k) j))
 |.no,_,_,_,_,_=>u_no
 |.so d,_,_,_,C,q=>u_so (sE d C q).1
theorem Zj:∀(j:Es) {X:Cx} {c:Cc} {hs:List Na},Cok T k X c->okEs T c j hs=ma->PA X (unEs T c j hs) (lA X (Nd T.gs (Va T k) j))
 |.nil,_,_,_,_,_=>Fm
 |.cons d j,_,_,_,C,q=>Pm (sE d C (ba q).1).1 (Zj j C (ba q).2) (ug (Wf d _) _ _)
theorem sB:∀(j:Es) (b:Bool) {X:Cx} {c:Cc} {hs:List Na} {a:Na} {p:UE×UT},Cok T k X c->PE X a (lE X p.1)/\PT X a (lT X p.2)->okEs T c j hs=ma->∀pos:Pos,
  PE X (.BoolOp (uA b) (a::unEs T c j hs) pos) (lE X (denB T.gs (Va T k) b p j).1)/\PW X (.BoolOp (uA b) (a::unEs T c j hs) pos) (lT X (denB T.gs (Va T k) b p j).2)
 |.nil,ma,_,_,_,_,_,_,ha,_,_=>⟨OD ha.1,pw_and1 ha.2⟩
 |.nil,ua,_,_,_,_,_,_,ha,_,_=>⟨OD ha.1,pw_or1 ha.2⟩
 |.cons d j,ma,_,_,_,_,_,C,ha,q,pos=>pP ha (sB j ma C (sE d C (ba q).1) (ba q).2 pos)
 |.cons d j,ua,_,_,_,_,_,C,ha,q,pos=>IN ha (sB j ua C (sE d C (ba q).1) (ba q).2 pos)
theorem sC:∀(j:Es) {X:Cx} {c:Cc} {hs:List Na},Cok T k X c->gh j<=1->okEs T c j hs=ma->PIfs X (unEs T c j hs) (Qi X.K (denC T.gs (Va T k) j))
 |.nil,_,_,_,_,_,_=>qP
 |.cons d .nil,_,_,_,C,_,q=>rP (sE d C (ba q).1).2
 |.cons _ (.cons _ es),_,_,_,_,l,_=>absurd l (by show ¬(gh es+1+1<=1);lia)
theorem sD:∀(j:Es) {X:Cx} {c:Cc} {hs gs:List Na},Cok T k X c->(p:Pos)->Kx T c j hs gs=ma->∃y,Cn X p (Fh T c j hs) (Fn T c j gs) y/\lD X (denD T.gs (Va T k) j) y/\(Fh T c j hs).all (·.isSome)=ma/\(Fh T c j hs).length=(Fn T c j gs).length
 |.nil,_,_,_,_,_,_,_=>⟨[],tS,iO,rfl,rfl⟩
 |.cons d (.cons f j),_,_,_,_,C,p,q=>let ⟨_,I,F,J,z⟩:=sD j C p (ba q).2;⟨_,ZT (sE d C (ba (ba q).1).1).1 (sE f C (ba (ba q).1).2).1 I,AQ F,J,congrArg (·+ 1) z⟩
 |.cons _ .nil,_,_,_,_,_,_,q=>nomatch q
theorem sI:∀(j:It) (t:Tg) (ct:Cc) (y:Na) {X:Cx} {c:Cc} {h:Na},Cok T k X c->Jx T c t j h=ma->PI X (unTg ct t y) (unI T c j h) (lI X (denI T.gs (Va T k) j))/\∀x,Ii (unI T c j h) X.env x=pure x
 |.e d,_,_,_,_,_,_,C,q=>⟨u_ie (sE d C q).1,XF (Wf d _) _⟩
 |.r1 d,_,_,_,_,_,_,C,q=>⟨u_r1 (C.gl (ba q).1).1 (C.blt _ (by decide)) (sE d C (ba q).2).1 (ug (Wf d _) _ _),λ_=>rfl⟩
 |.enum d,.t _,_,_,_,_,_,C,q=>⟨rR (C.gl (ba (ba q).1).2).1 (C.blt _ (by decide)) (sE d C (ba q).2).1 (ug (Wf d _) _ _),λ_=>rfl⟩
 |.enum _,.n _,_,_,_,_,_,_,q=>nomatch q
 |.dv d,_,_,_,_,_,_,C,q=>⟨u_dv (sE d C (ba (ba q).1).1).1 (pq (ba q).2 _ _ _) (ba (ba q).1).2,λ_=>rfl⟩
 |.di d,.t _,_,_,_,_,_,C,q=>⟨u_di (sE d C (ba (ba (ba q).1).1).2).1 (pq (ba q).2 _ _ _) (ba (ba q).1).2,λ_=>rfl⟩
 |.di _,.n _,_,_,_,_,_,_,q=>nomatch q
end
end

noncomputable def wx  (j:Bool)(names:List Str)(bk:ScopeKind)(ts vs:List Na):Sem (Option (List Str)):=
 if (!(ts.length==2||ts.length==3)||vs.length != ts.length||bk != .function)=ma then pure Aa
 else if j=ma then pure Aa
 else if (names.length != ts.length||names.eraseDups.length != names.length)=ma then pure Aa
 else if vs.all (LA 8)=ma then pure Aa
 else if vs.all (constantsAlone 8)=ma then do unsupported "assign.tuple-of-constant-expressions:order-of-the-stores";pure (da names)
 else pure (da names)
def kz  (env:Env)(ts:List Na):List Str:=ts.filterMap fun
  |.Name q j=>if env.kindOf q==da .local&&j.line==WC ts then da q else Aa
  |_=>Aa
def PC     : Ai [.Tuple ts a p] (.Tuple vs b q) env=wx (vs.any Cu) (kz env ts) env.blockKind ts vs:=by
 have j:Cu=fun|.Starred ..=>ma|_=>ua:=by funext e;cases e<;>rfl
 with_unfolding_all rfl
def dF  (hk:∀x,env.kindOf x=c.sc.lookup x) ts:kz env ts=Ve c ts:=by
 unfold Ve kz;congr 1;funext e;cases e<;>first|rfl|(dsimp only;rw[hk])
def QV  (hk:∀x,env.kindOf x=c.sc.lookup x)(J:env.blockKind=.function)(h:Rz c ts vs=ma):Ai [.Tuple ts a p] (.Tuple vs b q) env=pure Aa:=by
 rw[PC,dF hk,J];unfold wx;unfold Rz at h;by_cases F:(!(ts.length==2||ts.length==3)||vs.length != ts.length)=ma
 ·rw[if_pos (by rw[F];rfl)]
 ·have j:(!(ts.length==2||ts.length==3)||vs.length != ts.length)=ua:=by simpa using F
  rw[j]at h;rw[if_neg (by rw[j];decide)]
  simp only[fB,Qe,Iw]at h;obtain⟨O,I⟩:=h;rw[if_neg (by rw[O];decide)]
  by_cases y:((Ve c ts).length != ts.length||(Ve c ts).eraseDups.length != (Ve c ts).length)=ma
  ·rw[if_pos y]
  ·rw[if_neg y];have z:((Ve c ts).length != ts.length||(Ve c ts).eraseDups.length != (Ve c ts).length)=ua:=by simpa using y
   rw[z]at I;rw[if_pos (by simpa using I)]
def uV  (hk:∀x,env.kindOf x=c.sc.lookup x)(I:env.blockKind=.function)(h:swapped c ts vs=ma):Ai [.Tuple ts a p] (.Tuple vs b q) env=pure (da (Ve c ts)):=by
 rw[PC,dF hk,I];unfold wx;unfold swapped at h;simp only[Qe,Iw]at h;obtain⟨⟨⟨⟨⟨⟨z,Z⟩,h3⟩,R⟩,h5⟩,y⟩,J⟩:=h;have j:(!(ts.length==2||ts.length==3)||vs.length != ts.length||(PK != PK))=ua:=by
  have:(vs.length != ts.length)=ua:=by simpa using Z
  rw[z,this];rfl
 rw[if_neg (by rw[j];decide),if_neg (by rw[h3];decide)]
 have F:((Ve c ts).length != ts.length||(Ve c ts).eraseDups.length != (Ve c ts).length)=ua:=by
  have Y:((Ve c ts).length != ts.length)=ua:=by simpa using R
  have O:((Ve c ts).eraseDups.length != (Ve c ts).length)=ua:=by simpa using h5
  rw[Y,O];rfl
 rw[if_neg (by rw[F];decide),if_neg (by rw[y];decide),if_neg (by rw[J];decide)]
def mT  (hk:∀x,env.kindOf x=c.sc.lookup x)(q:env.blockKind=.function)(h:lcSw c y j p s=ma) :
  Kk (.ListComp elt gs s p) (da (.Name y j)) l env=pure ma:=by
 unfold lcSw at h;simp only[Qe]at h;unfold Kk;dsimp only;show(pure (env.blockKind == .function&&env.kindOf y==da .local&&j.line==p.line && !(s.names.any λ(n,k)=>n==y&&(k == .local||k == .cell))):Sem Bool)=pure ma
 grind
def qT  {c: Cc}(hk:∀x,env.kindOf x=c.sc.lookup x)(h:(c.sc.lookup y==da .local)=ua) :
  Mj [.Name y j] (.ListComp elt gs s p) l env=pure ua:=by
 show(pure (env.blockKind == .function&&env.kindOf y==da .local&&j.line==p.line && !(s.names.any λ(n,k)=>n==y&&(k == .local||k == .cell))):Sem Bool)=pure ua
 grind
section
variable {T:Le}{k:Nat}
def gj.kindOf    (C:gj T k X c):∀x,X.env.kindOf x=c.sc.lookup x:=λx=>by
 unfold Env.kindOf;rw[C.sc]
def gj.block    (C:gj T k X c):X.env.blockKind=.function:=by
 unfold Env.blockKind;rw[C.kind];rfl
theorem JD   : ∀(is:List Nat) hs ,(unNs c is hs).length=is.length
 |[],_=>rfl
 |_::is,hs=>congrArg (·+ 1) (JD is hs.tail)
def NL     (h:(Ve c [.Name x p,.Name y q]).length=2):Ve c [.Name x p,.Name y q]=[x,y]:=by
 unfold Ve at h ⊢;simp only[Rw,List.filterMap_nil]at h ⊢;split at h<;>split at h<;>simp_all

def xP     (C:gj T k X c)(q:Jp T c (.asg t d) h=ma)(hs:PE X (Zb T c d (q0 h)) (lE X (Ra T.gs (Va T k) d).1)):PS X (Wj T c (.asg t d) h) (lS X (denS T.gs (Va T k) (.asg t d))):=by
 have y:=Hn C.toCok t (q1 h) (ba (ba q).1).2;have q3:=(ba q).2;have j:Mj [unTg c t (q1 h)] (Zb T c d (q0 h)) h.pos.line X.env=pure ua/\Ai [unTg c t (q1 h)] (Zb T c d (q0 h)) X.env=pure Aa:=by
  cases t with
  |n i=>
   refine⟨?_,aP d _ _ _ _⟩;by_cases z:isLc d=ma
   ·cases d with
    |lc=>exact qT C.kindOf (bn q3)
    |_=>cases z
   ·exact VR (by lia) _ _ _ _
  |t ts=>
   cases d with
   |lc=>cases q3
   |tup F=>exact⟨rfl,QV C.kindOf C.block q3⟩
   |_=>exact⟨rfl,rfl⟩
 exact s_asg hs y j.1 j.2 (TR t _ _)
def yP     (C:gj T k X c)(q:Jp T c (.par is es) h=ma)(Y:PA X (unEs T c es (cl (q0 h))) (lA X (Nd T.gs (Va T k) es))):PS X (Wj T c (.par is es) h) (lS X (denS T.gs (Va T k) (.par is es))):=by
 have I:=(ba (ba q).1).2;have O:=(ba (ba (ba q).1).1).2;have z:=uV (a:=kk (q1 h)) (b:=kk (q0 h)) (p:=(q1 h).pos) (q:=(q0 h).pos) C.kindOf C.block I;unfold swapped at I;simp only[Qe,Yq,beq_iff_eq]at I;obtain⟨⟨⟨⟨⟨⟨_,y⟩,_⟩,R⟩,_⟩,_⟩,_⟩:=I;rw[Ay,JD]at y;have F:is.length=2:=of_decide_eq_true (ba q).2;have nd:X.N.Nodup:=by rw[C.hN];exact C.nd
 match is,es,F,y,R,z,O,Y with
 |[i,j],.cons a (.cons b .nil),_,_,R,z,O,Y=>
  have J:=ba O;have Z:=ba J.2;refine s_par2 C.calm nd (C.nm (ba (ba J.1).1).1) (C.nm (ba (ba Z.1).1).1) (by simp_all) (C.loc _ (ba (ba J.1).1).2) (C.loc _ (ba (ba Z.1).1).2) Y ?_ rfl
  rw[<- NL R];exact z
 |[],_,F,_,_,_,_,_=>exact absurd F (by simp)
 |[_],_,F,_,_,_,_,_=>exact absurd F (by simp)
 |_::_::_::_,_,F,_,_,_,_,_=>exact absurd F (by simp)
 |[_,_],.nil,_,y,_,_,_,_=>exact absurd y (by simp[gh])
 |[_,_],.cons _ .nil,_,y,_,_,_,_=>exact absurd y (by simp[gh])
 |[_,_],.cons _ (.cons _ (.cons _ _)),_,y,_,_,_,_=>exact absurd y (by simp[gh])
def ER     (C:gj T k X c)(q:Jp T c (.asgC i d) h=ma):PS X (Wj T c (.asgC i d) h) (lS X (denS T.gs (Va T k) (.asgC i d))):=by
 have R:=(ba (ba (ba q).1).1);have O:=(ba q).2;have Y:=C.nm (ba (ba q).1).2;have Z:=eq_of_beq (ba (ba O).1).1;cases d with
 |lc pick t J I d=>
  have z:=R.2;have S:=C.toCok.comp (ba (ba (ba (ba (ba (ba z).1).1).1).1).1).1;exact s_lc (by rw[C.hN];exact C.nd) Y (by rw[C.sc];exact Z) C.calm S.1 (sI J t _ _ C.toCok (ba (ba (ba (ba z).1).1).1).2).1 (ba (ba (ba (ba (ba (ba z).1).1).1).1).1).2
   (λcl A y j F=>Hn (S.2 cl A y j F) t _ (ba (ba (ba (ba (ba z).1).1).1).1).2) (λcl A y j F=>sC I (S.2 cl A y j F) (of_decide_eq_true (ba (ba z).1).2) (ba (ba (ba z).1).1).2)
   (λcl A y j F=>gk.of (sE d (S.2 cl A y j F) (ba z).2).1) (mT C.kindOf C.block O) (UR J _ _)
 |_=>cases R.1
mutual
theorem sS:∀(j:S) {X:Cx} {c:Cc} {h:Qa},gj T k X c->Jp T c j h=ma->PS X (Wj T c j h) (lS X (denS T.gs (Va T k) j))
 |.expr d,_,_,_,C,q=>s_expr (sE d C.toCok (ba q).1).1 (QR (bn (ba q).2) _ _ _)
 |.asg _ d,_,_,_,C,q=>xP C q (sE d C.toCok (ba (ba q).1).1).1
 |.asgC _ _,_,_,_,C,q=>ER C q
 |.setS o i d,_,_,_,C,q=>s_set C.toCok.hu (sE d C.toCok (ba (ba q).1).1).1 (sE o C.toCok (ba (ba q).1).2).1 (sE i C.toCok (ba q).2).1 (dD d _ _ _ _ _ _).1 (dD d _ _ _ _ _ 0).2 rfl (gU (Wf i _) _ _)
 |.par _ es,_,_,_,C,q=>yP C q (Zj es C.toCok (ba (ba (ba q).1).1).1)
 |.aug _ _ d,_,_,_,C,q=>let s:=C.toCok.store (ba (ba q).1).2;s_aug (by rw[C.hN];exact C.nd) (C.nm (ba (ba q).1).1) s.1 s.2 (sE d C.toCok (ba q).2).1
 |.ite t a b,_,_,_,C,q=>s_if (sE t C.toCok (ba (ba q).1).1).2 (Yj a C (ba (ba q).1).2) (Yj b C (ba q).2)
 |.fr t it b,_,_,_,C,q=>s_for C.po C.calm (sI it t _ _ C.toCok (ba (ba q).1).2).1 (Hn C.toCok t _ (ba (ba q).1).1) (Yj b C (ba q).2) (sI it t ⟨[],[]⟩ e0 C.toCok (ba (ba q).1).2).2
 |.wh t b,_,_,_,C,q=>s_wh C.po (sE t C.toCok (ba q).1).2 (Yj b C (ba q).2)
 |.ret d,_,_,_,C,q=>s_ret (sE d C.toCok q).1
 |.never,_,_,_,_,_=>λ_ _ _ _ _ _ ⟨_,_,_,_,_,q,_⟩=>(show False from q).elim
theorem Yj:∀(j:Ss) {X:Cx} {c:Cc} {hs:List Qa},gj T k X c->okSs T c j hs=ma->Be X (unSs T c j hs) (lS X (Tc T.gs (Va T k) j))
 |.nil,_,_,_,_,_=>s_nil
 |.cons s r,_,_,_,C,q=>s_cons (t:=denS T.gs (Va T k) s) (u:=Tc T.gs (Va T k) r) (sS s C (ba q).1) (Yj r C (ba q).2)
end
end
section
variable {T:Le}{k:Nat}{X:Cx}{c:Cc}
structure CloU (X:Cx)(f:Ca)(Ψ:List U->Gp->K1->KX->Prop):Prop where
 fn:∀(pins:List (Ca×Obj)) (σ:St) (H:Hp) (s:Fa),Pa X pins σ H s->PySem.W.FnAt f s.heap
 run:∀(pins:List (Ca×Obj)) (σ:St) (H:Hp) (s:Fa) (us:List Da) (vs:List V) (Q0:VK) (E0:XK),Pa X pins σ H s->Vals vs us->Ig X.K Ψ vs H Q0 E0->
  codeAny (Ja X.prog X.w) X.A (.call (.ref f) ⟨us,[]⟩) (CR (Jd X.prog X.w) X.stack X.prog X.w H s Q0 E0) s
def appD  (i:Nat)(f:Ca)(z:List U->Gp->K1->KX->Prop)(ts:UA):UE:=λj G Q E=>slot j i λu=>u=.loc f/\ts j G (λy q=>z y q Q E) E
def xq     (h:slot q i j):∃u,q[i]?=da (da u)/\j u:=by
 unfold slot at h
 grind
def SM          (A:CloU X f Ψ)(hN:X.N[i]?=da x)(hv:Zo X.env.scope x)(hd:(x==("__debug__" : Str))=ua)(xa:(x==("__classdict__" : Str))=ua)
  (ha:PA X (e::es) (lA X ts)) (he:Uc (e::es) X.env=(ua,Lb e X.env)::Uc es X.env) (ja:(Jc pos (Uc es X.env)).any (·.1)=ua) :
  PE X (.Call (.Name x p) (e::es) [] pos) (lE X (appD i f Ψ ts)):=by
 intro j s y H Q0 I ⟨ς,G,Q,E,hς,hG,h,lv,lx⟩;obtain⟨u,hu,rfl,h⟩:=xq h;obtain⟨v,ev,rv⟩:=hς.2 i _ hu;obtain rfl:v=.ref f:=rv;refine No (Pb (oy hN hv hd xa j s y H (λv' Y=>v'=.ref f/\Y=H) I ⟨_,ev,rfl,rfl⟩) λu0 s0 ⟨v0,H0,I0,r0,e1,e2⟩=>?_);subst e1;subst e2;obtain rfl:u0=Bg f:=r0;have h':lA X ts y H0 λR F=>Ig X.K Ψ R F Q0 (EB X y):=⟨ς,G,_,E,hς,hG,h,λus R G1 F rs za f1 h1=>⟨us,G1,Q,E,rs,za,h1,lv.fr f1,λx G' Y C dx xd hr f q j J Z I' l=>(lx.fr f1) j (.ref J) Z x G' Y I' ⟨J,C,dx,rfl,l,xd⟩ hr f q⟩,lx⟩;refine PySem.W.callWith_F (first:=[]) (A.fn j y H0 s0 I0) (Pb (ha pos j s0 y H0 _ I0 h') λus s1 ⟨R,F,O,r,q⟩=>⟨A.fn j y F s1 O,?_⟩) he ja
 refine qp (Io (A.run j y F s1 us R Q0 (EB X y) O r q) λr Z z=>?_);cases r with
 |error e=>
  obtain⟨J,Y,va,dx,rfl,I',l,q⟩:=Jd.back O z;exact q j J Z I' l
 |ok fl=>
  cases fl with
  |ret u=>exact O.after z
  |next=>exact Rh z
  |brk=>exact Rh z
  |cont=>exact Rh z
noncomputable abbrev Qh  (a b:Nat):Es:=.cons (.v a) (.cons (.v b) .nil)
abbrev ltS1  (w:Nat):S:=.asg (.n w) (.lst (.cons (.tup (Qh 0 1)) .nil))
noncomputable abbrev ku  (w n:Nat):S:=.asg (.t (.cons (.n n) (.cons (.n (n+1)) .nil))) (.meth .pop (.v w) .nil)
noncomputable abbrev eh  (a d:Nat):S:=.ite (.cmp .IsNot (.v d) .non) (.cons .never .nil) .nil
abbrev uJ  : S:=.asg (.n 8) (.app 2 (Qh 7 6))
abbrev tJ  : S:=.expr (.meth .extend (.v 4) (.cons (.rev (.app 3 (Qh 7 6)) (.neg (.int 1))) .nil))
abbrev rA  : Ss:=.cons (ku 4 6) (.cons uJ (.cons (eh 5 8) (.cons tJ (.cons (.aug 5 .Add (.int 1)) .nil))))
def irLT  : Ss:=.cons (ltS1 4) (.cons (.asg (.n 5) (.int 0)) (.cons (.wh (.v 4) rA) (.cons (.ret (.bl ma)) .nil)))
def sq  (t u:US):US:=λD y G=>t { D with nx:=λj q=>u D j q } y G
def Wh  : US:=λD j G=>D.nx j G
section
variable (gs:List U)(Δ:Cl)(f g:Ca)(Ψ Φ:List U->Gp->K1->KX->Prop)
def ltBD:US:=λD y G=>appD 2 f Ψ (Nd gs Δ (Qh 7 6)) y G (λu j=>Lc (.n 8) u y λq=>D.nx q j) λx j=>D.ex x y j
def ltEE:UE:=λj G Q X=>(Ra gs Δ (.v 4)).1 j G (λx q=>match Ie .extend x q with
 |some _=>appD 3 g Φ (Nd gs Δ (Qh 7 6)) j q (λz J=>(Ra gs Δ (.neg (.int 1))).1 j J (λy I=>revU z y I λr F=>Td .extend x [r] F Q) X) X
 |none=>False) X
def ltED:US:=λD q G=>ltEE gs Δ g Φ q G (λ_ j=>D.nx q j) λx j=>D.ex x q j
def ju:US:=sq (denS gs Δ (ku 4 6)) (sq (ltBD gs Δ f Ψ) (sq (denS gs Δ (eh 5 8)) (sq (ltED gs Δ g Φ) (sq (denS gs Δ (.aug 5 .Add (.int 1))) Wh))))
def rC:US:=λD I G=>∃W:Nat->Sg->Gp->Prop,(∃m,W m I G)/\∀m j q,W m j q->
 (Ra gs Δ (.v 4)).2 j q (λt F=>if t=ma then ju gs Δ f g Ψ Φ { D with nx:=λy J=>∃z,z<m/\W z y J } j F else D.nx j F) λx q=>D.ex x j q
def vC:US:=sq (denS gs Δ (ltS1 4)) (sq (denS gs Δ (.asg (.n 5) (.int 0))) (sq (rC gs Δ f g Ψ Φ) (Tc gs Δ (.cons (.ret (.bl ma)) .nil))))
end
def s_sq   {rest:List Qa}(q:PS X st (lS X t))(j:Be X rest (lS X u)):Be X (st::rest) (lS X (sq t u)):=s_cons (t:=t) (u:=u) q j
def s_sqN  : Be X [] (lS X Wh):=s_nil
def FD      (C:Cok T k X c)(A:CloU X f Ψ)(q:okE T c (.app i (Qh a b)) h=ma):PE X (Zb T c (.app i (Qh a b)) h) (lE X (appD i f Ψ (Nd T.gs (Va T k) (Qh a b)))):=
 SM (p:=(c0 h).pos) (pos:=h.pos) A (C.nm (ba (ba (ba (ba q).1).1).1).1) (C.vis (ba (ba (ba (ba q).1).1).1).2) (bn (ba (ba (ba q).1).1).2) (bn (ba (ba q).1).2) (Zj (T:=T) (k:=k) (Qh a b) C (ba q).2) (ug (Wf (.v a) _) _ _) (bo (.cons (.v b) .nil) _ _ _).1
def EQ     (C:gj T k X c)(A:CloU X f Ψ)(B:CloU X g Φ)(q:okSs T c irLT hs=ma):Be X (unSs T c irLT hs) (lS X (vC T.gs (Va T k) f g Ψ Φ)):=by
 have y:=(ba q).2;have j:=(ba y).2;have qw:=(ba j).1;have J:=(ba qw).2;have q2:=(ba J).2;have q3:=(ba q2).2;have q4:=(ba q3).2;have hB:PS X (Wj T c uJ (qh (qa (qh hs.tail.tail)).tail)) (lS X (ltBD T.gs (Va T k) f Ψ)):=by
  have F:=(ba q2).1;exact s_asg (FD C.toCok A (ba (ba F).1).1) (Hn C.toCok (.n 8) _ (ba (ba F).1).2) rfl rfl rfl
 have R:PS X (Wj T c tJ (qh (qa (qh hs.tail.tail)).tail.tail.tail)) (lS X (ltED T.gs (Va T k) g Φ)):=by
  have Z:=(ba q4).1;have z:=(ba Z).1;have O:=(ba z).2;have h4:=(ba (ba (ba z).1).1).2;have qo:=(ba (ba (ba (ba z).1).1).1).1;have I:=(ba (ba (ba (ba (ba z).1).1).1).2).1;exact s_expr (cD (wy C.toCok.hu .extend) (sE (.v 4) C.toCok qo).1 (Pm (SC (FD C.toCok B (ba I).1) (sE (.neg (.int 1)) C.toCok (ba I).2).1) Fm (ug (Wf (.rev (.app 3 (Qh 7 6)) (.neg (.int 1))) _) _ _)) (pq O _ _ _) rfl h4 (ug (Wf (.rev (.app 3 (Qh 7 6)) (.neg (.int 1))) _) _ _) rfl) rfl
 have Y:Be X (unSs T c rA (qa (qh hs.tail.tail))) (lS X (ju T.gs (Va T k) f g Ψ Φ)):=
  s_sq (sS (ku 4 6) C (ba J).1) (s_sq hB (s_sq (sS (eh 5 8) C (ba q3).1) (s_sq R (s_sq (sS (.aug 5 .Add (.int 1)) C (ba (ba q4).2).1) s_sqN))))
 have hw:PS X (Wj T c (.wh (.v 4) rA) (qh hs.tail.tail)) (lS X (rC T.gs (Va T k) f g Ψ Φ)):=s_wh C.po (sE (.v 4) C.toCok (ba qw).1).2 Y;exact s_sq (sS (ltS1 4) C (ba q).1) (s_sq (sS (.asg (.n 5) (.int 0)) C (ba y).1) (s_sq hw (Yj (.cons (.ret (.bl ma)) .nil) C (ba j).2)))
end
noncomputable def Vj  : Nat->Nat->Es
 |_,0=>.nil
 |i,n+1=>.cons (.v i) (Vj (i+1) n)
abbrev ltVe  (j:Nat):S:=.expr (.meth .extend (.v 2) (.cons (.rev (.call j (Qh 5 4)) (.neg (.int 1))) .nil))
def ltVw  (m fi j:Nat):Ss:=.cons (ku 2 4) (.cons (.asg (.n 6) (.call fi (.cons (.v 5) (.cons (.v 4) (Vj 7 m))))) (.cons (eh 3 6) (.cons (ltVe j) (.cons (.aug 3 .Add (.int 1)) .nil))))
def uC  (m fi j:Nat):Ss:=.cons (ltS1 2) (.cons (.asg (.n 3) (.int 0)) (.cons (.wh (.v 2) (ltVw m fi j)) (.cons (.ret (.bl ma)) .nil)))
section
variable {gs:List U}{Δ Δ':Cl}
def BR      (e:q[i]?=da (da u)):slot q i j=j u:=by unfold slot;rw[e]
theorem fD     : ∀{cs } {i } {Q },(∀j u,cs[j]?=da u->q[i+j]?=da (da u))->Nd gs Δ (Vj i cs.length) q G Q X=Q cs G
 |[],_,_,_=>rfl
 |u::cs,i,Q,e=>by
  show(slot q i λx=>Nd gs Δ (Vj (i+1) cs.length) q G (λy z=>Q (x::y) z) X)=_;rw[BR (show q[i]?=da (da u)from e 0 u rfl)];exact fD (λj v F=>by rw[show i+1+j=i+(j+1) by lia];simp_all)
noncomputable def ng  (j st w a:U)(n h d:Option U)(cs:List U):Sg:=da j::da st::da w::da a::n::h::d::cs.map da
noncomputable def og  (j st:U)(f g:Ca)(w a:U)(n h d:Option U):Sg:=[da j,da st,da (.loc f),da (.loc g),da w,da a,n,h,d]
def NN      j u (e:cs[j]?=da u):(ng q st w a n h d cs)[7+j]?=da (da u):=by
 show(da q::da st::da w::da a::n::h::d::cs.map da)[7+j]?=_;rw[show 7+j=j+1+1+1+1+1+1+1 by lia]
 simp only[MK,md,e];rfl

def GQ  {ex: KX}(hk:∀w a x y d G,R (ng q st w a (da x) (da y) (da d) cs) G=O (og q st f g w a (da x) (da y) (da d)) G) :
  Tc gs Δ (ltVw cs.length fi F) ⟨R,rt,λx _ j=>ex x j⟩ (ng q st w a n h d cs) G=ju gs Δ' f g (λus G Q E=>Δ fi (us++cs) G Q E) (λus G Q E=>Δ F us G Q E) ⟨O,rt,λx _ j=>ex x j⟩ (og q st f g w a n' h' d') G:=by
 have eF:∀x y d G,Tc gs Δ (.cons (.aug 3 .Add (.int 1)) .nil) ⟨R,rt,λx _ j=>ex x j⟩ (ng q st w a (da x) (da y) (da d) cs) G=sq (denS gs Δ' (.aug 5 .Add (.int 1))) Wh ⟨O,rt,λx _ j=>ex x j⟩ (og q st f g w a (da x) (da y) (da d)) G:=λx y d G=>by
  show(Em .Add a (.int 1) G λz J=>R (ng q st w z (da x) (da y) (da d) cs) J)=(Em .Add a (.int 1) G λz J=>O (og q st f g w z (da x) (da y) (da d)) J);exact congrArg (Em .Add a (.int 1) G) (funext λz=>funext λJ=>hk w z x y d J)
 have eE:∀x y d G,Tc gs Δ (.cons (ltVe F) (.cons (.aug 3 .Add (.int 1)) .nil)) ⟨R,rt,λx _ j=>ex x j⟩ (ng q st w a (da x) (da y) (da d) cs) G =
   sq (ltED gs Δ' g λus G Q E=>Δ F us G Q E) (sq (denS gs Δ' (.aug 5 .Add (.int 1))) Wh) ⟨O,rt,λx _ j=>ex x j⟩ (og q st f g w a (da x) (da y) (da d)) G:=λx y d G=>by
  show(match Ie .extend w G with
   |some _=>Δ F [y,x] G (λz J=>negU (.int 1) J λo G3=>revU z o G3 λr Z=>Td .extend w [r] Z λ_ G5=>Tc gs Δ (.cons (.aug 3 .Add (.int 1)) .nil) ⟨R,rt,λx _ j=>ex x j⟩ (ng q st w a (da x) (da y) (da d) cs) G5) ex
   |none=>False)=(match Ie .extend w G with
   |some _=>U.loc g=.loc g/\Δ F [y,x] G (λz J=>negU (.int 1) J λo G3=>revU z o G3 λr Z=>Td .extend w [r] Z λ_ G5=>sq (denS gs Δ' (.aug 5 .Add (.int 1))) Wh ⟨O,rt,λx _ j=>ex x j⟩ (og q st f g w a (da x) (da y) (da d)) G5) ex
   |none=>False)
  simp only[eF,true_and]
 have eC:∀x y d G,Tc gs Δ (.cons (eh 3 6) (.cons (ltVe F) (.cons (.aug 3 .Add (.int 1)) .nil))) ⟨R,rt,λx _ j=>ex x j⟩ (ng q st w a (da x) (da y) (da d) cs) G =
   sq (denS gs Δ' (eh 5 8)) (sq (ltED gs Δ' g λus G Q E=>Δ F us G Q E) (sq (denS gs Δ' (.aug 5 .Add (.int 1))) Wh)) ⟨O,rt,λx _ j=>ex x j⟩ (og q st f g w a (da x) (da y) (da d)) G:=λx y d G=>by
  show(cmpU .IsNot d .non G λc=>truU (.bl c) G λt=>if t=ma then False else Tc gs Δ (.cons (ltVe F) (.cons (.aug 3 .Add (.int 1)) .nil)) ⟨R,rt,λx _ j=>ex x j⟩ (ng q st w a (da x) (da y) (da d) cs) G) =
   (cmpU .IsNot d .non G λc=>truU (.bl c) G λt=>if t=ma then False else sq (ltED gs Δ' g λus G Q E=>Δ F us G Q E) (sq (denS gs Δ' (.aug 5 .Add (.int 1))) Wh) ⟨O,rt,λx _ j=>ex x j⟩ (og q st f g w a (da x) (da y) (da d)) G)
  simp only[eE]
 have eB:∀x y d G,Tc gs Δ (.cons (.asg (.n 6) (.call fi (.cons (.v 5) (.cons (.v 4) (Vj 7 cs.length))))) (.cons (eh 3 6) (.cons (ltVe F) (.cons (.aug 3 .Add (.int 1)) .nil)))) ⟨R,rt,λx _ j=>ex x j⟩ (ng q st w a (da x) (da y) d cs) G =
   sq (ltBD gs Δ' f λus G Q E=>Δ fi (us++cs) G Q E) (sq (denS gs Δ' (eh 5 8)) (sq (ltED gs Δ' g λus G Q E=>Δ F us G Q E) (sq (denS gs Δ' (.aug 5 .Add (.int 1))) Wh))) ⟨O,rt,λx _ j=>ex x j⟩ (og q st f g w a (da x) (da y) d') G:=λx y d G=>by
  show(Nd gs Δ (Vj 7 cs.length) (ng q st w a (da x) (da y) d cs) G (λzs Y=>Δ fi (y::x::zs) Y (λu J=>Tc gs Δ (.cons (eh 3 6) (.cons (ltVe F) (.cons (.aug 3 .Add (.int 1)) .nil))) ⟨R,rt,λx _ j=>ex x j⟩ (ng q st w a (da x) (da y) (da u) cs) J) ex) ex) =
   (U.loc f=.loc f/\Δ fi ([y,x]++cs) G (λu J=>sq (denS gs Δ' (eh 5 8)) (sq (ltED gs Δ' g λus G Q E=>Δ F us G Q E) (sq (denS gs Δ' (.aug 5 .Add (.int 1))) Wh)) ⟨O,rt,λx _ j=>ex x j⟩ (og q st f g w a (da x) (da y) (da u)) J) ex)
  rw[fD NN];simp only[eC,true_and];rfl
 show(match Ie .pop w G with
  |some _=>Td .pop w [] G λu Y=>Lc (.t (.cons (.n 4) (.cons (.n 5) .nil))) u (ng q st w a n h d cs) λI=>Tc gs Δ (.cons (.asg (.n 6) (.call fi (.cons (.v 5) (.cons (.v 4) (Vj 7 cs.length))))) (.cons (eh 3 6) (.cons (ltVe F) (.cons (.aug 3 .Add (.int 1)) .nil)))) ⟨R,rt,λx _ j=>ex x j⟩ I Y
  |none=>False)=(match Ie .pop w G with
  |some _=>Td .pop w [] G λu Y=>Lc (.t (.cons (.n 6) (.cons (.n 7) .nil))) u (og q st f g w a n' h' d') λI=>sq (ltBD gs Δ' f λus G Q E=>Δ fi (us++cs) G Q E) (sq (denS gs Δ' (eh 5 8)) (sq (ltED gs Δ' g λus G Q E=>Δ F us G Q E) (sq (denS gs Δ' (.aug 5 .Add (.int 1))) Wh))) ⟨O,rt,λx _ j=>ex x j⟩ I Y
  |none=>False)
 have eA:∀u Y,(Lc (.t (.cons (.n 4) (.cons (.n 5) .nil))) u (ng q st w a n h d cs) λI=>Tc gs Δ (.cons (.asg (.n 6) (.call fi (.cons (.v 5) (.cons (.v 4) (Vj 7 cs.length))))) (.cons (eh 3 6) (.cons (ltVe F) (.cons (.aug 3 .Add (.int 1)) .nil)))) ⟨R,rt,λx _ j=>ex x j⟩ I Y) =
   (Lc (.t (.cons (.n 6) (.cons (.n 7) .nil))) u (og q st f g w a n' h' d') λI=>sq (ltBD gs Δ' f λus G Q E=>Δ fi (us++cs) G Q E) (sq (denS gs Δ' (eh 5 8)) (sq (ltED gs Δ' g λus G Q E=>Δ F us G Q E) (sq (denS gs Δ' (.aug 5 .Add (.int 1))) Wh))) ⟨O,rt,λx _ j=>ex x j⟩ I Y):=λu Y=>by
  cases u with
  |tup us=>
   match us with
   |[]=>rfl
   |[_]=>rfl
   |x::y::r=>exact congrArg (r=[]/\·) (eB x y d Y)
  |_=>rfl
 simp only[eA]
noncomputable def Hr  (cs:List U):Sg->Sg
 |th::st::_::_::w::a::n::h::d::_=>th::st::w::a::da (n.getD .non)::da (h.getD .non)::da (d.getD .non)::cs.map da
 |ς=>ς
def pO  {ex: KX}(h:Tc gs Δ (uC cs.length fi Y) ⟨n0,rt,λx _ j=>ex x j⟩ (ng I st .non .non (da .non) (da .non) (da .non) cs) G) :
  vC gs Δ' f g (λus G Q E=>Δ fi (us++cs) G Q E) (λus G Q E=>Δ Y us G Q E) ⟨n1,rt,λx _ j=>ex x j⟩ [da I,da st,da (.loc f),da (.loc g),Aa,Aa,Aa,Aa,Aa] G:=by
 obtain⟨J,R,h⟩:=h;refine⟨J,R,λp F n=>?_⟩;have h:=h p F n;obtain⟨W,⟨m,w0⟩,O⟩:=h;refine⟨λm Z G=>(∃w a n h d,Z=og I st f g w a n h d)/\W m (Hr cs Z) G,⟨m,⟨_,_,_,_,_,rfl⟩,w0⟩,?_⟩;rintro m _ F ⟨⟨w,a,n,h,d,rfl⟩,hw⟩;have t:=O m _ F hw;have e:∀G,Tc gs Δ (ltVw cs.length fi Y) ⟨λq j=>∃z,z<m/\W z q j,rt,λx _ j=>ex x j⟩ (Hr cs (og I st f g w a n h d)) G=ju gs Δ' f g (λus G Q E=>Δ fi (us++cs) G Q E) (λus G Q E=>Δ Y us G Q E) ⟨λq j=>∃z,z<m/\(∃w a n h d,q=og I st f g w a n h d)/\W z (Hr cs q) j,rt,λx _ j=>ex x j⟩ (og I st f g w a n h d) G:=λG=>
  GQ (w:=w) (a:=a) λw a x y d G=>propext ⟨λ⟨z,J,R⟩=>⟨z,J,⟨_,_,_,_,_,rfl⟩,R⟩,λ⟨z,J,_,R⟩=>⟨z,J,R⟩⟩
 have t:truU w F λb=>if b=ma then Tc gs Δ (ltVw cs.length fi Y) ⟨λq j=>∃z,z<m/\W z q j,rt,λx _ j=>ex x j⟩ (Hr cs (og I st f g w a n h d)) F else rt (.bl ma) F:=t
 simp only[e]at t;exact t
end
def Hu  {T:Le}{n:Nat}(h:T.funs[n]?=da d):(T.funs++T.vf)[n]?=da d:=by
 grind
def Qm  {T:Le}(hd:(T.funs++T.vf)[n]?=da d){E:KX}(h:Va T (k+1) n us G Q E) :
  us.length=d.ps.length/\Tc T.gs (Va T k) d.body ⟨λ_ j=>Q .non j,Q,λx _ j=>E x j⟩ (Ub d.N.length us) G:=by
 have q:(match (T.funs++T.vf)[n]? with|some d=>us.length=d.ps.length/\Tc T.gs (Va T k) d.body ⟨λ_ j=>Q .non j,Q,λx _ j=>E x j⟩ (Ub d.N.length us) G|none=>False):=h
 lia
def Cy     (e:a=b)(h:Be X a t):Be X b t:=e ▸ h
def vv       (r:Kb K H us vs):SR K H (Ub N.length us) (L2.start N vs):=by
 unfold Ub L2.start;refine⟨by simp[r.length],λi u e=>?_⟩
 by_cases j:i<us.length
 ·rw[Pg (by simp_all),md]at e
  cases q:us[i]? with
  |none=>simp_all
  |some w=>
   rw[q]at e;have:w=u:=by simpa using e
   subst this;obtain⟨v,z,y⟩:=r.get q;have F:i<vs.length:=by rw[<- r.length];exact j
   exact⟨v,by rw[Pg (by simpa using F),md,z];rfl,y⟩
 ·rw[Bn (by simpa using j),Ew]at e
  split at e<;>cases e
structure PF (T:Le)(P:Nb)(w:Bb)(K:Eb)(mg:Str->Option Da)(base:Wa)(k:Nat):Prop where
 blt:∀x∈Dk,mg x=Aa
 fns:∀(n:Nat) (d:Fun),T.funs[n]?=da d->DL P w K mg base k d (Va T k n)
 gls:∀(n:Nat) (x:Str) (u:U),T.gn[n]?=da x->T.gs[n]?=da u->∃v w,mg x=da w/\RelV v w/\∀H,RU K H u v
 cls:∀n∈T.cs,1<=n->∃C,XCls K (gK K) (clsN n) (clsF n) C
 mgK:∀x v,gK K x=da v->mg x=da v
def Pa.tsU    {j:St}(I:Pa X pins j H s):TS X.H₀ H:=⟨I.base.tups,λa o e=>I.base.frzs a o _ e⟩

def DO  {T: Le}{cl:List (Str×Ca)}{n:Nat} 
  (F:PF T X.prog X.w X.K X.mg X.base (j-1)) (qc:X.ex=[]) (ho:X.s₀.heap.get? f=da (bB name qual params body scope cl wa pm c' jb)) (hn:X.H₀ f=Aa) (za:f∉X.fs) (hc:X.H₀ c'=da (frzC oc)) (yb:fy oc qual) (S:CloScope d.N ps scope)
  (O:∀x c,cl.lookup x=da c->scope.names.lookup x=da .free/\(∃v,X.s₀.heap.IsCell c v)/\X.H₀ c=Aa/\c∉X.fs) (inj:∀x y c,cl.lookup x=da c->cl.lookup y=da c->x=y) (wb:∀x,scope.names.lookup x=da .free->∃c,cl.lookup x=da c)
  (hv:∀i x v,d.N[ps.length+i]?=da x->cvs[i]?=da v->scope.names.lookup x=da .free/\∃c u,cl.lookup x=da c/\RelV v u/\X.s₀.heap.IsCell c (da u))
  (rc:Kb X.K X.H₀ cs cvs) (kb:d.ps.length=ps.length+cs.length) (xc:d.ps.length<=d.N.length)
  (hb:∀(s:Fa) (us:List Da),us.length=ps.length->se s (PySem.W.fnX name qual params body scope cl .none .none wa pm Aa (.ref c') jb) ⟨us,[]⟩ (ps.zip us))
  (hr:Room (j+2) X.A) (hd:(T.funs++T.vf)[n]?=da d) (ok:okSs T ⟨d.N,scope.names⟩ d.body body=ma) (un:unSs T ⟨d.N,scope.names⟩ d.body body=body) :
  CloU X f λus G Q E=>Va T j n (us++cs) G Q E:=by
 have Z:∀b,b∉X.ex:=λb z=>by simp_all
 have R:∀{J:List (Ca×Obj)} {σ:St} {H:Hp} {s:Fa} {x:Str} {c:Ca} {v:Option Da},Pa X J σ H s->cl.lookup x=da c->X.s₀.heap.IsCell c v->s.heap.IsCell c v:=λ{J σ H s x c v} I e ⟨o,h1,h2⟩=>
  ⟨o,I.base.keep c o h1 (O x c e).2.2.1 (O x c e).2.2.2 (Z c),h2⟩
 refine⟨λJ σ H s I=>⟨_,_,_,_,I.base.keep f _ ho hn za (Z f)⟩,λJ σ H s us vs Q0 E0 I r ya=>?_⟩;obtain⟨zs,G,Q,E,rz,hG,h,lv,lx⟩:=ya;obtain _|k:=j
 ·exact(show False from h).elim
 obtain⟨hl,h⟩:=Qm hd h;rw[gg]at hl;have xa:vs.length=ps.length:=by rw[<- rz.length];lia
 have vb:H c'=da (frzC oc):=I.base.frzs c' oc _ hc;obtain⟨ja,_⟩:=I.hok c' _ vb;obtain⟨wv,wt,w1,w2⟩:=yb;have ka:=rc.ts (Pa.tsU I);refine SQ (k:=k+2) (cvs:=cvs) (N:=d.N) (ps:=ps) (I.base.keep f _ ho hn za (Z f)) rfl ⟨c',oc,wv,wt,rfl,ja,w1,w2⟩ S hr I.env0 (hb s us (by rw[<- r.length];exact xa)) r xa (by rw[<- rc.length];lia)
  (λx c e=>⟨(O x c e).1,let ⟨v,z⟩:=(O x c e).2.1;⟨v,R I e z⟩,let ⟨_,o,h1,_⟩:=(O x c e).2.1;I.base.free c o h1 (O x c e).2.2.1 (Z c)⟩) inj wb
  (λi x v e1 e2=>let ⟨a,c,u,e,rv,z⟩:=hv i x v e1 e2;⟨a,c,u,e,rv,R I e z⟩) λY=>?_
 refine⟨_,Cy un (Yj d.body (k:=k) (c:=⟨d.N,scope.names⟩) (hs:=body) ⟨⟨rfl,S.nd,λx z=>eq_of_beq z,λx z=>⟨eq_of_beq z,by show(scope.names.lookup x != da .free)=ma;rw[eq_of_beq z];rfl⟩,λx z=>.inr (eq_of_beq z),λx z=>eq_of_beq z,Y.mono (by lia),rfl,tu,F.blt,F.fns,F.gls,Y,F.cls,F.mgK⟩,rfl,S.kind,rfl,rfl⟩ ok),?_⟩
 exact⟨_,_,G,vv (rz.append ka),hG,h,⟨λxb zb G' H' a b c q=>lv .non .non G' H' rfl b c q,λw v G' H' a b c q=>lv w v G' H' a b c q,λJ e s' x xb zb G' H' I sr va ha f q=>by obtain⟨ea,C0,dx,rfl,l,xd⟩:=va;exact Jd.outC I l (lx x G' H' C0 dx xd ha f q)⟩⟩
def HR.tabNew         (h:HR K H G)(Z:∀t∈tabs,∀t'∈tabs,t.1=t'.1->t=t')(ht:(P,pos,q)∈tabs)(n:PD H H' P pos q c I):HR K H' G/\Fr H G H' G:=by
 obtain⟨hc,F,rfl|⟨O,hn,rfl⟩⟩:=n
 ·exact⟨h,Fr.refl _ _⟩
 have y:∀b,b≠P->b≠c->L2.upd (L2.upd H c (frzC I)) P (.tbl #[Cb pos.line,Cb pos.col,.ref c]) b=H b:=λb h1 h2=>by rw[Gc h1,Gc h2]
 have j:∀{b u},H b=da u->b≠c:=λ{b u} e z=>by lia
 have ts:TS H (L2.upd (L2.upd H c (frzC I)) P (.tbl #[Cb pos.line,Cb pos.col,.ref c])):=⟨λa R e=>by grind,λa R e=>by grind⟩
 refine⟨⟨λa o g=>?_,λt J=>?_⟩,⟨λa o e g Y=>⟨?_,g⟩⟩⟩
 ·have m:=h a o g;obtain⟨ho,e⟩:=m.there;exact m.keep (y a (λz=>by rw[z,h.tblNone O]at g;cases g) (j e)) ts
 ·by_cases e:t.1=P
  ·obtain rfl:=Z t J _ ht e;exact .inr ⟨c,I,Kf,hc,F⟩
  ·rcases h.tab t J with e1|⟨c2,oc2,e1,e2,q2⟩
   ·exact .inl (by simp_all)
   ·exact .inr ⟨c2,oc2,by simp_all,ts.cod _ _ e2,q2⟩
 ·rw[y a (λz=>by rw[z,O]at e;cases e;cases Y) (j e)];exact e
end Z

namespace Z
open PySem L2
noncomputable def nDef  (st:Qa):Qa:=(Md st).getD 0 (.Pass ⟨0,0,0,0⟩)
noncomputable def capE  : List Nat->Es->Es
 |[],r=>r
 |i::is,r=>.cons (.v i) (capE is r)
noncomputable abbrev five  (r:Es):Es:=.cons .non (.cons .non (.cons .non (.cons .non (.cons .non r))))
structure NestS (T:Le)(sts:List Qa)(d:Fun)(st:Qa)(z:dC)(dff:Fun)(stff:Qa)(dv dc:Fun):Prop where
 sc:FnScope d.N d.ps (ic st)
 body:d.body=.cons (.ret (.call z.vi (.cons z.e1 (.cons z.e2 (five (capE z.caps .nil)))))) .nil
 text:∃pos p1 p3 p4 p5 p6 h1 h2,Md st=[.FunctionDef z.fn (Jg (nDef st)) (Md (nDef st)) [] Aa [] (ic (nDef st)) Aa z.fn pos,.Return (da (.Call (.Name dff.name p1) [h1,h2,.Name z.fn p3,.Name z.sn p4] [] p5)) p6]/\(z.P,pos,d.name ++ ".<locals>." ++ z.fn)∈tabs/\
  okE T ⟨d.N,(ic st).names⟩ z.e1 h1=ma/\Zb T ⟨d.N,(ic st).names⟩ z.e1 h1=h1/\okE T ⟨d.N,(ic st).names⟩ z.e2 h2=ma/\Zb T ⟨d.N,(ic st).names⟩ z.e2 h2=h2
 fi:d.N[z.fni]?=da z.fn
 fl:(ic st).names.lookup z.fn=da .local
 gl:(ic st).names.lookup dff.name=da .globalImplicit
 gs:(ic st).names.lookup z.sn=da .globalImplicit
 dbg:(z.sn==("__debug__" : Str))=ua/\(z.fn==("__debug__" : Str))=ua/\(z.fn==("__classdict__" : Str))=ua/\(dff.name==("__debug__" : Str))=ua
 caps:∀(i j:Nat),z.caps[i]?=da j->j<d.ps.length/\∃x,d.N[j]?=da x/\dc.N[2+i]?=da x/\(ic (nDef st)).names.lookup x=da .free/\(ic st).names.lookup x=da .cell
 fge:d.ps.length<=z.fni
 frees:∀y∈(ic (nDef st)).names,y.2=.free->(ic st).names.lookup y.1=da .cell
 as2:z.as'.length=2
 cs:CloScope dc.N z.as' (ic (nDef st))
 args:(Jg (nDef st)).defaults=[]/\(Jg (nDef st)).kw_defaults=[]
 ann:∀env,annTrees (Jg (nDef st)) Aa env=[]
 bind:∀(qual:Str) (cl:List (Str×Ca)) (doc pm cv ctv u v:Da),Fq (PySem.W.fnX z.fn qual (Jg (nDef st)) (Md (nDef st)) (ic (nDef st)) cl .none .none doc pm Aa cv ctv) ⟨[u,v],[]⟩=pure (z.as'.zip [u,v])
 ff:T.funs[z.ff]?=da dff
 ffs:sts[z.ff]?=da stff
 ffb:dff.body=irLT
 ffp:dff.ps.length=4
 ffl:dff.N.length=9
 hdv:(T.funs++T.vf)[z.vi]?=da dv
 dvb:dv.body=uC z.caps.length z.fi z.si
 dvN:dv.N.length=z.caps.length+7
 hdc:(T.funs++T.vf)[z.fi]?=da dc
 dcp:dc.ps.length=2+z.caps.length
 dcN:dc.ps.length<=dc.N.length
 ok:okSs T ⟨dc.N,(ic (nDef st)).names⟩ dc.body (Md (nDef st))=ma
 un:unSs T ⟨dc.N,(ic (nDef st)).names⟩ dc.body (Md (nDef st))=Md (nDef st)
 hs:∃ds,T.funs[z.si]?=da ds/\ds.name=z.sn
 nz:∀(gs:List U) (Δ:Cl) (ς:Sg) (G:Gp) (Q1:U->U->Gp->Prop) (E:KX),(∀n us G Q E,¬Δ n us G Q E)->¬(Ra gs Δ z.e1).1 ς G (λu1 G1=>(Ra gs Δ z.e2).1 ς G1 (λu2 G2=>Q1 u1 u2 G2) E) E
theorem aE        : ∀{is } {Q },Nd gs Δ (capE is r) q G Q X->∃cs ,cs.length=is.length/\(∀(i j:Nat),is[i]?=da j->∃u,cs[i]?=da u/\q[j]?=da (da u))/\Nd gs Δ r q G (λus J=>Q (cs++us) J) X
 |[],_,h=>⟨[],rfl,λ_ _ e=>by simp at e,h⟩
 |i::is,Q,h=>by
  have y:slot q i λx=>Nd gs Δ (capE is r) q G (λz I=>Q (x::z) I) X:=h;obtain⟨u,e,y⟩:=xq y;obtain⟨cs,F,Y,O⟩:=aE y;refine⟨u::cs,by simp[F],λa j R=>?_,O⟩
  cases a with
  |zero=>simp_all
  |succ a=>simp_all
def UG  {n i:Nat}(h:(Ub n us)[i]?=da (da u)):us[i]?=da u:=by
 unfold Ub at h;by_cases j:i<us.length
 ·rw[Pg (by simpa using j),md]at h
  cases e:us[i]? with
  |none=>rw[e]at h;cases h
  |some a=>rw[e]at h;simpa using h
 ·rw[Bn (by simpa using j),Ew]at h
  split at h<;>cases h
def jT    {i:Nat}(h:vs[i]?=da v):(L2.start N vs)[i]?=da (da v):=by
 unfold L2.start;have j:=(Ba.mp h).1;rw[Pg (by simpa using j),md,h]
 rfl
def zP    : Ub (cs.length+7) (j::st::.non::.non::.non::.non::.non::cs)=ng j st .non .non (da .non) (da .non) (da .non) cs:=by
 unfold Ub ng;simp
theorem nG      (r:Kb K H us vs):∀{is:List Nat} {cs },cs.length=is.length->(∀(i j:Nat),is[i]?=da j->∃u,cs[i]?=da u/\us[j]?=da u)->∃cvs ,Kb K H cs cvs/\cvs.length=is.length/\∀(i j:Nat) v ,is[i]?=da j->cvs[i]?=da v->vs[j]?=da v
 |[],[],_,_=>⟨[],rfl,rfl,λ_ _ _ e=>by simp at e⟩
 |[],_::_,h,_=>by simp at h
 |_::_,[],h,_=>by simp at h
 |j::is,c::cs,hl,h=>by
  obtain⟨u,R,z⟩:=h 0 j rfl;have:c=u:=by simp_all
  subst this;obtain⟨v,J,I⟩:=r.get z;obtain⟨cvs,r2,O,F⟩:=nG r (is:=is) (cs:=cs) (by simp_all) λi y e=>by simpa using h (i+1) y (by simpa using e)
  refine⟨v::cvs,⟨v,cvs,rfl,I,r2⟩,by simp[O],λi y w e q=>?_⟩
  cases i with
  |zero=>simp at e q;subst e;subst q;exact J
  |succ i=>exact F i y w (by simpa using e) (by simpa using q)
def TQ     {d:Fun}(F:L2.Fun X.K d.name d.name st g xa)(O:FnOk X.prog X.w X.K X.mg X.base (Jd X.prog X.w) j g fd d.ps (Ig X.K t))(Z:Binds X.K fd d.ps [])(hr:Room j X.A):CloU X g t:=
 ⟨λz Y H s I=>let ⟨_,_,_,_,_,_,_,_,_,_,lk,_⟩:=F.ex;⟨_,_,_,_,I.kIn _ _ lk⟩,λz Y H s J vs R E0 I r y=>by
  have hl:=O.len _ _ _ _ y;have q:=Z s J I.kIn (by rw[Sh,<- r.length];exact hl)
  rw[Sh]at q;exact O.run X.A X.stack s H ⟨J,[]⟩ J vs R E0 hr I.env0 q r y⟩

def KQ  {T: Le}{sts:List Qa}{d O dv dc ds:Fun}(N:NestS T sts d st z O R dv dc)(hU:∀t∈tabs,∀t'∈tabs,t.1=t'.1->t=t')(xc:FnScope O.N O.ps (ic R))(xe:okSs T ⟨O.N,(ic R).names⟩ O.body (Md R)=ma)(kh:unSs T ⟨O.N,(ic R).names⟩ O.body (Md R)=Md R)
  (F:L2.Fun K d.name d.name st f fd) (ze:L2.Fun K O.name O.name R wb wd) (wf:mg O.name=da (.ref wb)) (qj:Binds K wd O.ps []) (vb:∃c,fd.code=.ref c/\vK base c z.P) (hB:BmAt mg base) (pf:PF T P w K mg base (j-1)) (ya:PF T P w K mg base (j+1)) (hd:(T.funs++T.vf)[n]?=da d)
  (Fg:L2.Fun K ds.name ds.name zj g wj) (jh:FnOk P w K mg base (Jd P w) (j+2) g yf ds.ps (Ig K (Va T j z.si))) (ki:mg ds.name=da (.ref g)) (bg:Binds K yf ds.ps []) (jf:ds.name=z.sn) :
  FnOk P w K mg base (Jd P w) (j+4) f fd d.ps (Ig K (Va T (j+2) n)):=by
 have len:∀vs H Q E,Ig K (Va T (j+2) n) vs H Q E->vs.length=d.ps.length:=λvs H Q E ⟨us,G,Q',E',r,hG,h,lv,lx⟩=>by rw[<- r.length];exact(Qm hd h).1
 refine⟨len,λA zb s H xj jj vs Q E hr e0 hb r xb=>F.runX (k:=j+3) N.sc hr e0 hb r (len _ _ _ _ xb) λhg he ja=>?_⟩;have hj:=len _ _ _ _ xb;obtain⟨us,G,Q',E',ru,hG,h,lv,lx⟩:=xb;obtain⟨yk,h⟩:=Qm hd h;rw[N.body]at h;have h:(Ra T.gs (Va T (j+1)) z.e1).1 (Ub d.N.length us) G (λu1 G1=>(Ra T.gs (Va T (j+1)) z.e2).1 (Ub d.N.length us) G1 (λu2 G2=>Nd T.gs (Va T (j+1)) (capE z.caps .nil) (Ub d.N.length us) G2 (λzs G3=>Va T (j+1) z.vi (u1::u2::.non::.non::.non::.non::.non::zs) G3 Q' λx G'=>E' x G') λx G'=>E' x G') λx G'=>E' x G') λx G'=>E' x G':=h;obtain⟨c,vg,kf⟩:=vb;obtain⟨xk,p1,p3,p4,p5,p6,h1,h2,qe,ka,kg,qf,vf,wc⟩:=N.text
 let Y:=Zm P w K mg base d.N d.name (ic st) f hg A zb s H E
 have S:=N.sc;have C0:Cok T (j+1) Y ⟨d.N,(ic st).names⟩:=⟨rfl,S.nd,λx z=>eq_of_beq z,λx z=>⟨eq_of_beq z,rfl⟩,λx z=>.inr (eq_of_beq z),λx z=>eq_of_beq z,ja.mono (by lia),rfl,tu,ya.blt,ya.fns,ya.gls,ja,ya.cls,ya.mgK⟩
 have jg:PE Y h1 (lE Y (Ra T.gs (Va T (j+1)) z.e1).1):=qf ▸ (sE z.e1 C0 kg).1;have yi:PE Y h2 (lE Y (Ra T.gs (Va T (j+1)) z.e2).1):=wc ▸ (sE z.e2 C0 vf).1;have vd:Jm h1=ma:=qf ▸ Wf (T:=T) (c:=⟨d.N,(ic st).names⟩) z.e1 h1;have qd:Jm h2=ma:=wc ▸ Wf (T:=T) (c:=⟨d.N,(ic st).names⟩) z.e2 h2;refine⟨λD je H'=>je=L2.start d.N vs/\H'=H/\D.rt=Q,λva s1 yj H1 D I ⟨e1,e2,e3⟩=>?_,rfl,rfl,rfl⟩;subst e1;subst e2;subst e3;rw[qe];have hq:Qk Y.env z.fn z.fn=d.name ++ ".<locals>." ++ z.fn:=by
  unfold Qk;have:Y.env.kindOf z.fn=da .local:=N.fl;rw[this];rfl
 refine kB (pU (X:=Y) (c:=c) (P:=z.P) (i:=z.fni) I N.sc.nd N.fi (.inl N.fl) (.inr N.fl) (he.symm.trans vg) kf hB (by rw[hq];exact hG.tab _ ka) N.args.1 N.args.2 (N.ann _)
  (λy hy hf=>I.ok.has y.1 (.inl (N.frees y hy hf))) λf' c' oc ke jd H' s2 tn J=>?_)
 rw[hq]at tn J;obtain⟨yb,wa⟩:=hG.tabNew hU ka tn
 let xa:St:=(L2.start d.N vs).set z.fni (da (.ref f'))
 have wg:xa[z.fni]?=da (da (.ref f')):=by
  show((L2.start d.N vs).set z.fni (da (.ref f')))[z.fni]?=_;rw[Yk (by have:=I.len;rw[this];exact(Ba.mp N.fi).1)]
 have ve:SR K H' (Ub d.N.length us) xa:=by
  obtain⟨l0,g0⟩:=vv (N:=d.N) (ru.ts (wa.ts hG));refine⟨by rw[l0];simp[xa],λi u e=>?_⟩
  obtain⟨v,ev,rv⟩:=g0 i u e;refine⟨v,?_,rv⟩;have qi:z.fni≠i:=λq=>by
   have:=(Ba.mp (UG e)).1;have:=N.fge
   lia
  show((L2.start d.N vs).set z.fni (da (.ref f')))[i]?=_;rw[aj qi];exact ev
 have we:∀{H9:Hp} {G9:Gp},Fr H1 G H9 G9->LX Y xa H9 G9 λx G'=>E' x G':=λ{H9 G9} fr va e s' x G' H' I1 qc jb fx q=>by
  obtain⟨ea,C1,dx,rfl,l,xd⟩:=qc;exact Jd.out1 I1 l (lx x G' H' C1 dx xd jb (fr.trans fx) q)
 have jc:wpAny (Ja Y.prog Y.w) Y.A (Lb (.Call (.Name O.name p1) [h1,h2,.Name z.fn p3,.Name z.sn p4] [] p5) Y.env) (EP Y (va++[(f',bB z.fn (d.name ++ ".<locals>." ++ z.fn) (Jg (nDef st)) (Md (nDef st)) (ic (nDef st)) (rg Y.env.cells (ic (nDef st)).names []) ke ((mg "__name__").getD .none) c' jd)]) xa D.rt) Y.xe s2:=by
  have pa:PA Y [h1,h2,.Name z.fn p3,.Name z.sn p4] (cq (lE Y (Ra T.gs (Va T (j+1)) z.e1).1) (cq (lE Y (Ra T.gs (Va T (j+1)) z.e2).1) (cq (tVar z.fni) (cq (tC (.ref g)) tNil)))):=
   tq jg (tq yi (tq (oy N.fi (.inl N.fl) N.dbg.2.1 N.dbg.2.2.1) (tq (oE N.gs (by rw[<- jf];exact ki) rfl N.dbg.1) KD)) (ug qd _ _)) (ug vd _ _)
  refine No (Yu J N.gl wf ?_ N.dbg.2.2.2);refine dL (h₀:=base) J.ok.mod.kin ze.kp (Pb (pa p5 _ s2 xa H' (λkc H3=>∃u1 u2 v1 v2 G3,kc=[v1,v2,.ref f',.ref g]/\RU K H3 u1 v1/\RU K H3 u2 v2/\HR K H3 G3/\Fr H' G H3 G3/\
    Nd T.gs (Va T (j+1)) (capE z.caps .nil) (Ub d.N.length us) G3 (λzs G3=>Va T (j+1) z.vi (u1::u2::.non::.non::.non::.non::.non::zs) G3 Q' λx G'=>E' x G') λx G'=>E' x G') J
   ⟨_,G,_,_,ve,yb,h,λu1 v1 G1 H1 r1 zd f1 q1=>⟨_,G1,_,_,ve.ts (f1.ts yb),zd,q1,λu2 v2 G2 H2 r2 zi f2 q2=>⟨_,wg,u1,u2,v1,v2,G2,rfl,r1.ts (f2.ts zd),r2,zi,f1.trans f2,q2⟩,we (wa.trans f1)⟩,we wa⟩) λyc s3 ⟨kc,H3,J3,r3,u1,u2,v1,v2,G3,e1,xf,wh,zh,yd,q3⟩=>⟨J3.kIn,?_⟩) (ug vd _ _) (by rw[ug qd];rfl)
  subst e1;have zc:=wa.trans yd;obtain⟨cs,kb,xi,q3⟩:=aE q3;obtain⟨cvs,zf,vk,zg⟩:=nG ru kb λi j e=>let ⟨u,a,b⟩:=xi i j e;⟨u,a,UG b⟩
  have q3:Va T (j+1) z.vi (u1::u2::.non::.non::.non::.non::.non::(cs++[])) G3 Q' λx G'=>E' x G':=q3;rw[Sh]at q3;obtain⟨_,q3⟩:=Qm N.hdv q3;rw[N.dvb,N.dvN,<- kb,zP]at q3;have l3:yc.length=O.ps.length:=by rw[<- r3.length,N.ffp];rfl
  have vc:=qj s3 yc J3.kIn (by simp_all)
  rw[Sh]at vc;refine qp (Io (ze.runX (k:=j+2) (Q:=D.rt) (E:=EB Y xa) xc ja J3.env0 vc r3 (by rw[N.ffp];rfl) λha _ Z=>?_) λr s' hq=>?_)
  ·have hp:=J3.pin (f',bB z.fn (d.name ++ ".<locals>." ++ z.fn) (Jg (nDef st)) (Md (nDef st)) (ic (nDef st)) (rg Y.env.cells (ic (nDef st)).names []) ke ((mg "__name__").getD .none) c' jd) (Ff _ (Ff _ (Ea.mpr rfl)));obtain⟨ji,xh,xg,vh,_⟩:=hp;have nofs:∀b,b≠Y.env.locals->b∉Y.fs->b∉Ef Y.stack:=λb h1 h2 hb=>(Mc.mp (J3.stkSub b hb)).elim h1 h2;have za:∀x c,(rg Y.env.cells (ic (nDef st)).names []).lookup x=da c->Y.env.cells.lookup x=da c/\(x,Se)∈(ic (nDef st)).names:=λx c e=>(JE e).elim id λz=>by cases z
   obtain⟨m,zk,ye⟩:=J3.loc;have vi:=DO (T:=T) (j:=j) (X:=Zm P w K mg base O.N O.name (ic R) wb ha Y.A Y.stack s3 H3 (EB Y xa)) (d:=dc) (n:=z.fi) (cs:=cs) (cvs:=cvs) (ps:=z.as') pf rfl ji xh (nofs f' xg vh) ((yd.ts yb).cod _ _ tn.1) tn.2.1 N.cs
    (λx c e=>⟨N.cs.frees x (za x c e).2,J3.cell x c (za x c e).1,J3.freeC x c (za x c e).1,nofs c (J3.cne x c (za x c e).1) λhb=>by
     obtain⟨_,o,ho,_⟩:=J3.ok.funs.mem hb;exact absurd (Hc ho) (Kc.mpr (J3.ok.cab x c rfl (za x c e).1))⟩)
    (λx y c e1 e2=>J3.ok.inj x y c (za x c e1).1 (za y c e2).1)
    (λx e=>by
     have hm:=fg e;obtain⟨c,hc⟩:=J3.ok.has x (.inl (N.frees _ hm rfl));exact⟨c,Dz hc hm⟩)
    (λi x v e1 e2=>by
     have hi:i<z.caps.length:=by grind
     obtain⟨jl,y,g1,g2,g3,g4⟩:=N.caps i z.caps[i] (by simp[hi])
     have:x=y:=by
      have:=N.as2
      simp_all
     subst this;refine⟨g3,?_⟩;have ev:=zg i z.caps[i] v (by simp[hi]) e2
     have es:xa[z.caps[i]]?=da (da v):=by
      show((L2.start d.N vs).set z.fni (da (.ref f')))[z.caps[i]]?=_;rw[aj (by have:=N.fge;lia)]
      exact jT ev
     obtain⟨u,rv,lk⟩:=ye z.caps[i] x v g1 es (.inr (.inl g4));rcases lk with⟨k1,_⟩|⟨_,c,hc,hcell⟩
     ·have k2:(ic st).names.lookup x=da .local:=k1
      lia
     ·exact⟨c,u,Dz hc (fg g3),rv,hcell⟩)
    (zf.ts (zc.ts hG)) (by rw[N.dcp,kb,N.as2]) N.dcN (λs us hl=>by
     have:=N.as2;obtain _|⟨u,_|⟨v,_|⟨_,_⟩⟩⟩:=us
     ·rw[this]at hl;cases hl
     ·rw[this]at hl;cases hl
     ·exact .of_eq (N.bind _ _ _ _ _ _ _ _)
     ·rw[this]at hl;simp at hl) Z N.hdc N.ok N.un
   have yg:=TQ (X:=Zm P w K mg base O.N O.name (ic R) wb ha Y.A Y.stack s3 H3 (EB Y xa)) Fg jh bg Z;refine⟨_,Cy kh (by
    rw[N.ffb]at xe ⊢;exact EQ (T:=T) (k:=j-1) (c:=⟨O.N,(ic R).names⟩) ⟨⟨rfl,xc.nd,λx z=>eq_of_beq z,λx z=>⟨eq_of_beq z,rfl⟩,λx z=>.inr (eq_of_beq z),λx z=>eq_of_beq z,Z.mono (by lia),rfl,tu,pf.blt,pf.fns,pf.gls,Z.mono (by lia),pf.cls,pf.mgK⟩,rfl,xc.kind,rfl,rfl⟩ vi yg xe),?_⟩
   have qg:Kb K H3 [u1,u2,.loc f',.loc g] [v1,v2,.ref f',.ref g]:=⟨_,_,rfl,xf,_,_,rfl,wh,_,_,rfl,rfl,_,_,rfl,rfl,rfl⟩;have sr:=vv (N:=O.N) qg;rw[N.ffl]at sr;refine⟨⟨λ_ _=>False,Q',λx _ G'=>E' x G'⟩,_,G3,sr,zh,pO q3,⟨λ_ _ _ _ _ _ _ q=>q.elim,λw v G' H' a b c q=>lv w v G' H' a b (zc.trans c) q,λva e s' x jk je G' H' I1 sr qc jb fx q=>?_⟩⟩;obtain⟨ea,C1,dx,rfl,l,xd⟩:=qc;exact Jd.out1 I1 l λhh vj kj wi yh=>Jd.out1 wi yh (lx x G' H' C1 dx xd jb (zc.trans fx) q)
  ·cases r with
   |error e=>
    obtain⟨ea,H',qk,dx,rfl,I',l,q⟩:=Jd.back J3 hq;exact q _ ea s' I' l
   |ok fl=>
    cases fl with
    |ret u=>exact J3.after hq
    |next=>exact Rh hq
    |brk=>exact Rh hq
    |cont=>exact Rh hq
 refine kB (wpAny_Return_some (Pb jc λu s3 ⟨v,H3,I3,rv,q⟩=>?_));exact⟨v,xa,H3,I3.unpinned,rv,q⟩
noncomputable def Gn  (N ps:List Str)(sc:Rc):Bool:=
 decide (sc.kind=.function) && !sc.isCoroutine && !sc.isGenerator&&decide N.Nodup&&(N.take ps.length==ps)&&ps.all (λx=>sc.names.lookup x==da .local||sc.names.lookup x==da .cell)&&sc.names.all (λy=>y.2 != .free)
def su    (h:Gn N ps sc=ma):FnScope N ps sc:=by
 unfold Gn at h;simp only[Qe,decide_eq_true_eq,Iw]at h;obtain⟨⟨⟨⟨⟨⟨j,z⟩,I⟩,q⟩,F⟩,O⟩,R⟩:=h;refine⟨j,z,I,q,eq_of_beq F,λx J=>?_,λy Y=>?_⟩
 ·simp_all
 grind
noncomputable def cloB  (N ps:List Str)(sc:Rc):Bool:=
 decide (sc.kind=.function) && !sc.isCoroutine && !sc.isGenerator&&decide N.Nodup&&(N.take ps.length==ps)&&ps.all (λx=>sc.names.lookup x==da .local)&&sc.names.all (λy=>y.2 != .cell)&&sc.names.all (λy=>y.2 != .free||sc.names.lookup y.1==da .free)
def EO    (h:cloB N ps sc=ma):CloScope N ps sc:=by
 unfold cloB at h;simp only[Qe,decide_eq_true_eq,Iw]at h;obtain⟨⟨⟨⟨⟨⟨⟨q,F⟩,J⟩,z⟩,I⟩,R⟩,Y⟩,O⟩:=h;refine⟨q,F,J,z,eq_of_beq I,λx j=>?_,λy Z=>?_,λx j=>?_⟩
 ·simp_all
 ·grind
 grind
noncomputable def pj  (T:Le):Nat->List Fun->List Qa->Bool
 |_,[],[]=>ma
 |i,d::ds,st::sts=>Gn d.N d.ps (ic st)&&((T.ns.lookup i).isSome||okSs T ⟨d.N,(ic st).names⟩ d.body (Md st))&&pj T (i+1) ds sts
 |_,_,_=>ua
def Bk  (T:Le)(all:List Qa):Nat->List Fun->List Qa->Prop
 |_,[],_=>True
 |i,d::ds,st::sts=>(match T.ns.lookup i with
  |none=>unSs T ⟨d.N,(ic st).names⟩ d.body (Md st)=Md st
  |some z=>T.ns.lookup z.ff=Aa/\∃q j dv y,NestS T all d st z q j dv y)/\Bk T all (i+1) ds sts
 |_,_::_,[]=>False
theorem Um {T:Le}{all:List Qa}:∀{i:Nat} {y:List Fun} {sts:List Qa},pj T i y sts=ma->Bk T all i y sts->∀{n:Nat} {d:Fun},y[n]?=da d->∃st,sts[n]?=da st/\Gn d.N d.ps (ic st)=ma/\(match T.ns.lookup (i+n)with
  |none=>okSs T ⟨d.N,(ic st).names⟩ d.body (Md st)=ma/\unSs T ⟨d.N,(ic st).names⟩ d.body (Md st)=Md st
  |some z=>T.ns.lookup z.ff=Aa/\∃J j dv R,NestS T all d st z J j dv R)
 |_,[],_,_,_,_,_,e=>by simp at e
 |_,_::_,[],h,_,_,_,_=>by unfold pj at h;cases h
 |i,d::y,st::sts,h,g,n,d',e=>by
  unfold pj at h;unfold Bk at g;simp only[Qe]at h;cases n with
  |zero=>
   simp at e;subst e;refine⟨st,rfl,h.1.1,?_⟩;have F:=g.1;have O:=h.1.2;rw[Nat.add_zero];cases q:T.ns.lookup i with
   |none=>rw[q]at F O;exact⟨by simpa using O,F⟩
   |some z=>rw[q]at F;exact F
  |succ n=>
   obtain⟨I,Y,q⟩:=Um h.2 g.2 (n:=n) (by simpa using e)
   rw[show i+1+n=i+(n+1) by lia]at q
   exact⟨I,by simpa using Y,q⟩
noncomputable def qq  (K:Eb)(v:Da)(P:Ca):Bool:=match v with
 |.ref c=>(match K.lookup c with
  |some ⟨.type t,_,.fields vs,_⟩=>t == "code" && (match (vs[11]?:Option Da)with|some (.ref Q)=>Q==P|_=>ua)&&(match vs.getD 18 .none with|.str _ _=>ma|_=>ua)&&(match vs.getD 7 .none with|.int _ _=>ma|_=>ua)
   && (match vs.getD 9 .none with|.bool _=>ma|_=>ua)&&(match vs.getD 10 .none with|.int _ _=>ma|_=>ua)&&c != P
  |_=>ua)
 |_=>ua
def wT      (X:K.In h)(q:qq K v P=ma):∃c,v=.ref c/\vK h c P:=by
 unfold qq at q;split at q
 ·rename_i c;split at q
  ·rename_i t J F I hk;simp only[Qe]at q;obtain⟨⟨⟨⟨⟨⟨q1,q2⟩,q3⟩,q4⟩,q5⟩,q6⟩,q7⟩:=q;refine⟨c,rfl,⟨.type t,J,.fields F,I⟩,F,?_⟩;have O:=X c _ hk;split at q2
   ·rename_i Q j;obtain rfl:Q=P:=by lia
    split at q3
    ·rename_i s1 t1 z;split at q4
     ·rename_i s2 t2 Y;split at q5
      ·rename_i b R;split at q6
       ·rename_i Z t3 y;exact⟨s1,t1,s2,t2,b,Z,t3,O,by rw[eq_of_beq q1],rfl,j,by rw[UB,j];rfl,z,Y,R,y,by simpa using q7⟩
       lia
      lia
     lia
    lia
   lia
  lia
 lia
section
variable {T:Le}{P:Nb}{w:Bb}{K:Eb}{mg:Str->Option Da}{base:Wa}
def Tu  {j n:Nat}{t:List U->Gp->K1->KX->Prop}(z:∀us G Q E,¬t us G Q E):FnOk P w K mg base (Jd P w) j f fd ps (Ig K t):=
 ⟨λF H Q E ⟨_,_,_,_,_,_,h,_⟩=>(z _ _ _ _ h).elim,λA q s H y us F Q E _ _ _ _ ⟨_,_,_,_,_,_,h,_⟩=>(z _ _ _ _ h).elim⟩
def GF       (F:L2.Fun K d.name d.name st f fd)(h1:Gn d.N d.ps (ic st)=ma)(h2:okSs T ⟨d.N,(ic st).names⟩ d.body (Md st)=ma)(h3:unSs T ⟨d.N,(ic st).names⟩ d.body (Md st)=Md st)
  (pf:PF T P w K mg base k) (hd:T.funs[n]?=da d):FnOk P w K mg base (Jd P w) (k+3) f fd d.ps (Ig K (Va T (k+1) n)):=by
 have S:=su h1;refine F.okX S (λvs H Q E ⟨us,G,Q',E',r,hG,h,Y,lx⟩=>by rw[<- r.length];exact(Qm (Hu hd) h).1) λva A R s H vs Q E hr O=>?_
 obtain⟨us,G,Q',E',r,hG,h,Y,lx⟩:=O;obtain⟨hl,h⟩:=Qm (Hu hd) h;refine⟨_,Cy h3 (Yj d.body (k:=k) (c:=⟨d.N,(ic st).names⟩) (hs:=Md st) ⟨⟨rfl,S.nd,λx z=>eq_of_beq z,λx z=>⟨eq_of_beq z,rfl⟩,λx z=>.inr (eq_of_beq z),λx z=>eq_of_beq z,hr.mono (by lia),rfl,tu,pf.blt,pf.fns,pf.gls,hr,pf.cls,pf.mgK⟩,rfl,S.kind,rfl,rfl⟩ h2),?_⟩
 exact⟨_,_,G,vv r,hG,h,⟨λxa za j y a b c q=>Y .non .non j y rfl b c q,λw v j y a b c q=>Y w v j y a b c q,λja e s' x xa za j y I sr J Z f q=>by obtain⟨ea,C0,dx,rfl,l,xd⟩:=J;exact Jd.out1 I l (lx x j y C0 dx xd Z f q)⟩⟩
abbrev jC  (T:Le)(K:Eb)(mg:Str->Option Da)(sts:List Qa):Prop:=∀(n:Nat) (d:Fun) (st:Qa),T.funs[n]?=da d->sts[n]?=da st->∃(f:Ca) (fd:vo),L2.Fun K d.name d.name st f fd/\mg d.name=da (.ref f)/\Binds K fd d.ps []/\∀z,T.ns.lookup n=da z->qq K fd.code z.P=ma
def uS  {sts:List Qa}(O:pj T 0 T.funs sts=ma)(I:Bk T sts 0 T.funs sts)(J:jC T K mg sts)(hU:∀t∈tabs,∀t'∈tabs,t.1=t'.1->t=t')(ha:K.In base)(hB:BmAt mg base)
  (hb:∀x∈Dk,mg x=Aa) (hg:∀(n:Nat) x u ,T.gn[n]?=da x->T.gs[n]?=da u->∃v w,mg x=da w/\RelV v w/\∀H,RU K H u v) (hc:∀n∈T.cs,1<=n->∃C,XCls K (gK K) (clsN n) (clsF n) C) (hm:∀x v,gK K x=da v->mg x=da v) :
  ∀k ,PF T P w K mg base k:=by
 intro k
 induction k using Nat.strongRecOn with
 |ind k ih=>
  refine⟨hb,λn d hd=>?_,hg,hc,hm⟩;obtain⟨st,e,h1,Y⟩:=Um O I hd;obtain⟨f,fd,F,m,b,hz⟩:=J n d st hd e;refine⟨f,fd,?_,m,F.kp,b⟩;rw[dn]at Y;cases q:T.ns.lookup n with
  |none=>
   rw[q]at Y;obtain _|k:=k
   ·exact Tu (n:=n) λ_ _ _ _ h=>h
   ·exact GF F h1 Y.1 Y.2 (ih k (by lia)) hd
  |some z=>
   rw[q]at Y;obtain⟨ja,jb,xa,dv,dc,N⟩:=Y;obtain _|_|j:=k
   ·exact Tu (n:=n) λ_ _ _ _ h=>h
   ·refine Tu (n:=n) λus G Q E h=>?_;obtain⟨_,h⟩:=Qm (Hu hd) h;rw[N.body]at h;exact N.nz T.gs (Va T 0) (Ub d.N.length us) G (λu1 u2 G2=>Nd T.gs (Va T 0) (five (capE z.caps .nil)) (Ub d.N.length us) G2 (λzs G3=>Va T 0 z.vi (u1::u2::zs) G3 Q λx Z=>E x Z) λx Z=>E x Z) (λx Z=>E x Z) (λ_ _ _ _ _ h=>h) h
   ·obtain⟨st2,e2,g1,g2⟩:=Um O I N.ff;rw[dn,ja]at g2;obtain⟨wb,vb,va,ka,zb,_⟩:=J z.ff jb st2 N.ff e2;have:st2=xa:=by rw[N.ffs]at e2;lia
    subst this;obtain⟨ds,R,ya⟩:=N.hs;obtain⟨st3,e3,_,_⟩:=Um O I R;obtain⟨g,kb,Fg,za,bg,_⟩:=J z.si ds st3 R e3;obtain⟨g',yb,xb,y,_,wa⟩:=(ih j (by lia)).fns z.si ds R
    have eg:g'=g:=by rw[za]at y;simpa using y.symm
    subst eg;exact KQ N hU (su g1) g2.1 g2.2 F va ka zb (wT ha (hz z q)) hB (ih (j-1) (by lia)) (ih (j+1) (by lia)) (Hu hd) Fg xb za wa ya
noncomputable def G0  (a:Ca)(ns:List Int):Gp:=λb=>if b=a then da (.fro (ns.map .int)) else Aa
theorem xE   : ∀ns:List Int,Kb K H (ns.map .int) (ns.map V.int)
 |[]=>rfl
 |_::r=>⟨_,_,rfl,rfl,xE r⟩
def law_sp        (hT:∀t∈tabs,t.1∈tb)(j:mu tb H)(fr:H a=da (.frz o (.lst (ns.map V.int))))(h:Va T k n [.loc a] (G0 a ns) (λu _=>u=.bl ma) λ_ _=>False) :
  Ig K (Va T k n) [.ref a] H (λv _=>v=.bl ma) λ_ _ _=>False:=by
 refine⟨[.loc a],G0 a ns,_,_,⟨_,_,rfl,rfl,rfl⟩,⟨λb F e=>?_,λt J=>.inl ?_⟩,h,λw v I y r _ _ q=>?_,λ_ _ _ _ _ _ _ _ z=>z.elim⟩
 ·unfold G0 at e;split at e
  ·rename_i z;subst z;cases e;exact⟨o,_,fr,xE ns⟩
  lia
 ·have:=j t.1
  grind
 ·subst q;exact r
end

def mV  {T: Le}{sts:List Qa}(F:L2.Fun K d.name d.name st f fd)(q:pj T 0 T.funs sts=ma)(j:Bk T sts 0 T.funs sts)(z:jC T K mg sts)(Y:∀t∈tabs,∀t'∈tabs,t.1=t'.1->t=t')(y:K.In base)(hB:BmAt mg base)
  (R:∀x∈Dk,mg x=Aa) (Z:∀(n:Nat) x u ,T.gn[n]?=da x->T.gs[n]?=da u->∃v w,mg x=da w/\RelV v w/\∀H,RU K H u v) (hc:∀n∈T.cs,1<=n->∃C,XCls K (gK K) (clsN n) (clsF n) C) (J:∀x v,gK K x=da v->mg x=da v) (hd:T.funs[n]?=da d) (hs:sts[n]?=da st) (O:T.ns.lookup n=Aa) :
  FnOk P w K mg base (Jd P w) (k+2) f fd d.ps (Ig K (Va T k n)):=by
 cases k with
 |zero=>exact Tu (n:=n) λ_ _ _ _ h=>h
 |succ k=>
  obtain⟨xa,e,h1,I⟩:=Um q j hd;rw[hs]at e;cases e;rw[dn,O]at I;exact GF F h1 I.1 I.2 (uS q j z Y y hB R Z hc J k) hd

def AM    (h:gK K x=da v):jn K Ke x=da (da v):=by
 unfold gK at h;cases q:jn K Ke x with
 |none=>simp_all
 |some o=>simp_all
def uO    (X:K.In h)(G:h.Ns Ke mg):∀x v,gK K x=da v->mg x=da v:=λ_ _ e=>Uq X G (AM e)
def Xn     : Sc (Sc G a o) a u=Sc G a u:=by funext b;unfold Sc;lia
def Sm  (f:Ca)(G j:Gp):Prop:=∀b o,b≠f->G b=da o->j b=da o
def Sa  (G j:Gp):Prop:=∀b o,G b=da o->j b=da o
def Sm.refl    : Sm f G G:=λ_ _ _ h=>h
def Sa.refl   : Sa G G:=λ_ _ h=>h
def Sm.trans    (a:Sm f G G1)(b:Sm f G1 G2):Sm f G G2:=λc o n h=>b c o n (a c o n h)
def Sa.trans   (a:Sa G G1)(b:Sa G1 G2):Sa G G2:=λc o h=>b c o (a c o h)
def Sa.sm    (a:Sa G G'):Sm f G G':=λc o _ h=>a c o h
def Sa.new     (h:G p=Aa):Sa G (Sc G p o):=λc u e=>by
 rw[Lh (λz=>by lia)];exact e
def Sm.put     : Sm f G (Sc G f o):=λc u n e=>by rw[Lh n];exact e
def Rm  {G:Gp}(h:G a=da o)(j:G p=Aa):p≠a:=λz=>by lia
def cj.at     (n:cj G p o G'):G' p=da o:=by rw[n.eq];exact sf
def cj.sa     (n:cj G p o G'):Sa G G':=by rw[n.eq];exact Sa.new n.no
def Mg.at     (n:Mg G p o G'):G' p=da o:=by rw[n.eq];exact sf
def Mg.sm     (n:Mg G p o G'):Sm p G G':=by rw[n.eq];exact Sm.put
mutual
noncomputable def pd:U->Ua
 |.non=>.none
 |.bl b=>.bool b
 |.int i=>.int i
 |.str x=>.str x
 |.tup j=>.tuple (dh j)
 |.loc _=>.none
 |.fn _=>.none
 |.ty _=>.none
 |.exc _ _=>.none
 |.own _=>.none
 |.clo _ _=>.none
noncomputable def dh:List U->List Ua
 |[]=>[]
 |u::us=>pd u::dh us
end
mutual
noncomputable def bare:U->Bool
 |.non=>ma
 |.bl _=>ma
 |.int _=>ma
 |.str _=>ma
 |.tup j=>bares j
 |.loc _=>ua
 |.fn _=>ua
 |.ty _=>ua
 |.exc _ _=>ua
 |.own _=>ua
 |.clo _ _=>ua
noncomputable def bares:List U->Bool
 |[]=>ma
 |u::us=>bare u&&bares us
end
mutual
theorem EC {G:Gp}:∀{u:U},bare u=ma->DU G u (pd u)
 |.non,_=>.non
 |.bl b,_=>.bl b
 |.int i,_=>.int i
 |.str x,_=>.str x
 |.tup _,h=>.tup (xy h)
 |.loc _,h=>nomatch h
 |.fn _,h=>nomatch h
 |.ty _,h=>nomatch h
 |.exc _ _,h=>nomatch h
 |.own _,h=>nomatch h
 |.clo _ _,h=>nomatch h
theorem xy {G:Gp}:∀{us:List U},bares us=ma->Vg G us (dh us)
 |[],_=>.nil
 |_::_,h=>.cons (EC (ba h).1) (xy (ba h).2)
end
theorem HE  : ∀{us },(∀u∈us,bare u=ma)->bares us=ma
 |[],_=>rfl
 |u::us,h=>by
  show(bare u&&bares us)=ma;rw[h u Re,HE λv j=>h v (Oc _ j)];rfl
theorem MD  : ∀us ,dh us=us.map pd
 |[]=>rfl
 |u::us=>by
  show pd u::dh us=_;rw[MD us];rfl
def nP     (h:bare u=ma)(f:Fits 16000000 60 (pd u))(q:Q (.str (pd u).shown) G):sj [u] G Q:=⟨pd u,EC h,f,q⟩
structure xr (n:Nat)(u:U):Prop where
 b:bare u=ma
 l:(pd u).canLay0=ma
 d:(pd u).depth<=n
def xr.int   i:xr 0 (.int i):=⟨rfl,rfl,Jb _⟩
theorem smls   : ∀{us },(∀u∈us,xr n u)->bares us=ma/\Nw (dh us)=ma/\Fj (dh us)<=n
 |[],_=>⟨rfl,rfl,Eg _⟩
 |u::us,h=>by
  obtain⟨y,j,z⟩:=smls λv q=>h v (Oc _ q);have hu:=h u Re;refine⟨?_,?_,?_⟩
  ·show(bare u&&bares us)=ma;rw[hu.b,y];rfl
  ·show((pd u).canLay0&&Nw (dh us))=ma;rw[hu.l,j];rfl
  ·show max (pd u).depth (Fj (dh us))<=n;exact Nat.max_le.mpr ⟨hu.d,z⟩
def OO       (F:G a=da (.lst us))(I:G b=da (.lst []))(h:∀u∈us,xr n u)(O:n<100)(q:k us.isEmpty):eqU (.loc a) (.loc b) G k:=by
 obtain⟨J,j,R⟩:=smls h;have y:Gd G a=da us:=by unfold Gd;rw[F]
 have z:Gd G b=da []:=by unfold Gd;rw[I]
 refine⟨.list (dh us),.list [],.lst y (xy J),.lst z .nil,⟨j,?_⟩,⟨rfl,by decide⟩,?_⟩
 ·show Fj (dh us)+1<=100
  lia
 ·have e:Vd (.list (dh us)) (.list [])=us.isEmpty:=by
   show Ho (dh us) []=_;rw[GV];cases us<;>rfl
  lia
structure Ft (n k:Nat)(u:U):Prop where
 b:bare u=ma
 f:Fits n k (pd u)
def Ft.mono    (h:Ft n k u)(q:n<=y)(j:k<=k'):Ft y k' u:=⟨h.b,h.f.mono q j⟩
def Ft.int   (h:i.natAbs<2 ^ 1000):Ft 1921 0 (.int i):=⟨rfl,Fits.int h⟩
def Ft.str    (h:x.length<=m)(q:∀c∈x.cps.toList,c<128):Ft (10*m+2) 0 (.str x):=⟨rfl,Fits.str h λc j=>BA (q c j) (by decide)⟩
def Ft.tup    (q:us.length<=m)(h:∀u∈us,Ft n k u)(j:m*(n+2)+3<=N):Ft N (k+1) (.tup us):=by
 refine⟨HE λu hu=>(h u hu).b,?_⟩;show Fits N (k+1) (.tuple (dh us));rw[MD];refine Fits.tupLe (m:=m) (n:=n) (by simp_all) (λd hd=>?_) j
 obtain⟨u,hu,rfl⟩:=Ia.mp hd;exact(h u hu).f
def UC      (h:Ft n k u)(y:n<=16000000)(j:k<=60)(q:Q (.str (pd u).shown) G):sj [u] G Q:=nP h.b (h.f.mono y j) q
theorem dg     : ∀{xs } (I:Nat->Sg->Gp->Prop) (_:∀j G,I xs.length j G->ok G/\k j G)
  (_:∀i x j G K ,xs[i]?=da x->I i j G->(∀q z,I (i+1) q z->K q z)->ok G/\b x j G K) {j } {G } (_:I 0 j G),forL ok b xs j G k
 |[],_,h0,_,_,_,h=>h0 _ _ h
 |x::_,I,h0,h1,_,_,h=>h1 0 x _ _ _ rfl h λ_ _ F=>dg (λi=>I (i+1)) h0 (λi y j G K e J hk=>h1 (i+1) y j G K e J hk) F
theorem sg     : ∀{xs } (I:Nat->List U->Gp->Prop) (_:∀acc G,I xs.length acc G->ok G/\k acc G)
  (_:∀i x acc G K ,xs[i]?=da x->I i acc G->(∀u j,I (i+1) (acc++[u]) j->K (da u) j)->(∀j,I (i+1) acc j->K Aa j)->ok G/\b x G K) {acc } {G } (_:I 0 acc G),Ri ok b xs acc G k
 |[],_,h0,_,_,_,h=>h0 _ _ h
 |x::_,I,h0,h1,_,_,h=>h1 0 x _ _ _ rfl h (λ_ _ z=>sg (λi=>I (i+1)) h0 (λi y a G K e F hk q=>h1 (i+1) y a G K e F hk q) z) (λ_ z=>sg (λi=>I (i+1)) h0 (λi y a G K e F hk q=>h1 (i+1) y a G K e F hk q) z)
theorem Mh       f (j:ok G):∀{xs } (_:∀x∈xs,∀K ,K (da (f x)) G->b x G K) {acc } (_:k (acc++xs.map f) G),Ri ok b xs acc G k
 |[],_,acc,q=>⟨j,by simpa using q⟩
 |x::xs,hb,acc,q=>⟨j,hb x Re _ (Mh f j (λy z=>hb y (Oc _ z)) (by simpa using q))⟩
theorem aA       f (j:ok G):∀{xs } (_:∀x∈xs,∀K ,K (f x) G->b x G K) {acc } (_:k (acc++xs.filterMap f) G),Ri ok b xs acc G k
 |[],_,acc,q=>⟨j,by simpa using q⟩
 |x::xs,hb,acc,q=>⟨j,hb x Re _ (aA f j (λy z=>hb y (Oc _ z)) (by
   grind))⟩
def Jf   i n:(rngU i n).length=n:=by unfold rngU;simp
def uh    (h:(rngU 0 n)[i]?=da x):i<n/\x=.int i:=by
 unfold rngU at h;rw[md]at h;by_cases j:i<n
 ·rw[KJ j]at h;exact⟨j,by simpa using h.symm⟩
 ·rw[yB (by simpa using j)]at h
  cases h
def Vn   (f:α->q)(l:List α) i:atI (l.map f) i=(atI l i).map f:=by
 unfold atI;rw[Ab];cases Ag l.length i with
 |none=>rfl
 |some j=>simp
def Hf   (a:α) l:atI (a::l) 0=da a:=Ti (xs:=a::l) (j:=0) rfl
def Je   (a b:α) l:atI (a::b::l) 1=da b:=Ti (xs:=a::b::l) (j:=1) rfl
def sM   (a b c:α) l:atI (a::b::c::l) 2=da c:=Ti (xs:=a::b::c::l) (j:=2) rfl
def tM    a b c d (l:List α):atI (a::b::c::d::l) 3=da d:=Ti (xs:=a::b::c::d::l) (j:=3) rfl
def yu   {l:List α}{r:Int}(h0:0<=r)(y:r<l.length):∃x,x∈l/\atI l r=da x:=by
 obtain⟨j,rfl⟩:=Gi h0;have q:j<l.length:=by lia
 exact⟨l[j],Gj q,Ti (Bc q)⟩
noncomputable def Dd  (c:Ca)(a l t:Int):List (Wb×U):=[(.inr "cells",.loc c),(.inr "at",.int a),(.inr "left",.int l),(.inr "turn",.int t)]
structure Fd (G:Gp)(f c:Ca):Prop where
 ex:∃(ns:List Int) (a l t:Int),G f=da (.dK (Dd c a l t))/\G c=da (.lst (ns.map .int))/\ns≠[]
def k_ca  : ¬((Ib ("cells" : Str):Wb)=Ib ("at" : Str)):=by decide +kernel
def k_cl  : ¬((Ib ("cells" : Str):Wb)=Ib ("left" : Str)):=by decide +kernel
def k_ct  : ¬((Ib ("cells" : Str):Wb)=Ib ("turn" : Str)):=by decide +kernel
def k_al  : ¬((Ib ("at" : Str):Wb)=Ib ("left" : Str)):=by decide +kernel
def k_at  : ¬((Ib ("at" : Str):Wb)=Ib ("turn" : Str)):=by decide +kernel
def k_lt  : ¬((Ib ("left" : Str):Wb)=Ib ("turn" : Str)):=by decide +kernel

def bR  : dGet (Dd c a l t) (.inr "cells")=da (.loc c):=by simp[dGet,Dd]
def g_at  : dGet (Dd c a l t) (.inr "at")=da (.int a):=by simp[dGet,Dd,k_ca,-nn]
def UO  : dGet (Dd c a l t) (.inr "left")=da (.int l):=by simp[dGet,Dd,k_cl,k_al,-nn]
def rD  : dGet (Dd c a l t) (.inr "turn")=da (.int t):=by simp[dGet,Dd,k_ct,k_at,k_lt,-nn]
def NP   x:dPut (Dd c a l t) (.inr "turn") (.int x)=Dd c a l x:=by simp[dPut,Dd,k_ct,k_at,k_lt,-nn]
def p_at   x:dPut (Dd c a l t) (.inr "at") (.int x)=Dd c x l t:=by simp[dPut,Dd,k_ca,Xa k_al,Xa k_at,-nn]
def MP   x:dPut (Dd c a l t) (.inr "left") (.int x)=Dd c a x t:=by simp[dPut,Dd,k_cl,k_al,Xa k_lt,-nn]
def qO   : Om [((Ib ("cells" : Str):Wb),U.loc p),(.inr "at",.int 0),(.inr "left",.int 0),(.inr "turn",.int 0)]=Dd p 0 0 0:=by
 simp[Om,dPut,Dd,k_ca,k_cl,k_ct,k_al,k_at,k_lt,-nn]
def zy  : (Dd c a l t).length<db:=by show 4<db;decide
def Fd.put       (p:Mg G f (.dK (Dd c a l t)) G')(h:G f=da (.dK kvs))(q:G c=da (.lst (ns.map .int)))(j:ns≠[]):Fd G' f c:=
 ⟨ns,a,l,t,p.at,p.sm _ _ (λz=>by lia) q,j⟩
def Fd.sa    (h:Fd G f c)(s:Sa G G'):Fd G' f c:=let ⟨y,a,l,t,q,j,F⟩:=h.ex;⟨y,a,l,t,s _ _ q,s _ _ j,F⟩
def Fd.new     (h:Fd G f c)(n:cj G p o G'):Fd G' f c:=h.sa n.sa
def Fd.away     (h:Fd G f c)(n:cj G p o G'):p≠f/\p≠c:=by
 obtain⟨y,a,l,t,q,j,_⟩:=h.ex;exact⟨Rm q n.no,Rm j n.no⟩
def Fd.off     (h:Fd G f c)(j:p≠f/\p≠c)(w:Mg G p o G'):Fd G' f c:=let ⟨q,a,l,t,F,y,I⟩:=h.ex;⟨q,a,l,t,w.sm _ _ (Xa j.1) F,w.sm _ _ (Xa j.2) y,I⟩
def Sm.wr     (s1:Sm f G G1)(n:G1 p=Aa)(s2:Sm f G G2)(w:Mg G2 p o q):Sm f G q:=λb u j e=>w.sm b u (λz=>by
 have:=s1 _ _ j e
 lia) (s2 b u j e)
def Sm.nw     (s:Sm f G G1)(n:cj G1 p o G2):Sm f G G2:=s.trans n.sa.sm
def eX         i:(Ra gs Δ (.v i)).1 j G Q X=(slot j i λu=>Q u G):=rfl
def WW         i:(Ra gs Δ (.v i)).2 q G R X=(Ra gs Δ (.v i)).1 q G (λx j=>truU x j λb=>R b j) X:=rfl
def D_non         : (Ra gs Δ (.non)).1 j G Q X=(Q .non G):=rfl
def D_bl         b:(Ra gs Δ (.bl b)).1 j G Q X=(Q (.bl b) G):=rfl
def D_int         i:(Ra gs Δ (.int i)).1 j G Q X=(Q (.int i) G):=rfl
def D_str         x:(Ra gs Δ (.str x)).1 j G Q X=(Q (.str x) G):=rfl
def fX         n:(Ra gs Δ (.g n)).1 j G Q X=(Gk gs n λu=>Q u G):=rfl
def XW         n:(Ra gs Δ (.g n)).2 q G R X=(Ra gs Δ (.g n)).1 q G (λx j=>truU x j λb=>R b j) X:=rfl
def D_ty         n:(Ra gs Δ (.ty n)).1 j G Q X=(Q (.ty n) G):=rfl
def T_ty         n:(Ra gs Δ (.ty n)).2 q G R X=(Ra gs Δ (.ty n)).1 q G (λx j=>truU x j λb=>R b j) X:=rfl
def D_bin         o a b:(Ra gs Δ (.bin o a b)).1 j G Q X=((Ra gs Δ a).1 j G (λx q=>(Ra gs Δ b).1 j q (λy z=>binU o x y z Q) X) X):=rfl
def T_bin         o a b:(Ra gs Δ (.bin o a b)).2 q G R X=(Ra gs Δ (.bin o a b)).1 q G (λx j=>truU x j λb=>R b j) X:=rfl
def D_neg         a:(Ra gs Δ (.neg a)).1 q G Q X=((Ra gs Δ a).1 q G (λx j=>negU x j Q) X):=rfl
def D_cmp         o a b:(Ra gs Δ (.cmp o a b)).1 q G Q X=((Ra gs Δ a).1 q G (λx z=>(Ra gs Δ b).1 q z (λy j=>cmpU o x y j λc=>Q (.bl c) j) X) X):=rfl
def T_cmp         o a b:(Ra gs Δ (.cmp o a b)).2 q G R X=(Ra gs Δ (.cmp o a b)).1 q G (λx j=>truU x j λb=>R b j) X:=rfl
def D_cmp2         o p a b c:(Ra gs Δ (.cmp2 o p a b c)).1 q G Q X=((Ra gs Δ a).1 q G (λx I=>(Ra gs Δ b).1 q I (λy j=>cmpU o x y j λt=>if t=ma then (Ra gs Δ c).1 q j (λz F=>cmpU p y z F λt'=>Q (.bl t') F) X else Q (.bl ua) j) X) X):=rfl
def T_cmp2         o p a b c:(Ra gs Δ (.cmp2 o p a b c)).2 q G R X=(Ra gs Δ (.cmp2 o p a b c)).1 q G (λx j=>truU x j λb=>R b j) X:=rfl
def D_tup         es:(Ra gs Δ (.tup es)).1 q G Q X=(Nd gs Δ es q G (λus j=>us.length<=db/\Q (.tup us) j) X):=rfl
def D_lst         es:(Ra gs Δ (.lst es)).1 q G Q X=(Nd gs Δ es q G (λus j=>us.length<=db/\newO j (.lst us) Q) X):=rfl
def D_dic         es:(Ra gs Δ (.dic es)).1 q G Q X=(denD gs Δ es q G (λkvs j=>kvs.length<=15/\newO j (.dK (Om kvs)) Q) X):=rfl
def D_ix         a b:(Ra gs Δ (.ix a b)).1 j G Q X=((Ra gs Δ a).1 j G (λx q=>(Ra gs Δ b).1 j q (λy z=>Ce x y z Q) X) X):=rfl
def T_ix         a b:(Ra gs Δ (.ix a b)).2 q G R X=(Ra gs Δ (.ix a b)).1 q G (λx j=>truU x j λb=>R b j) X:=rfl
def D_sl         a lo hi:(Ra gs Δ (.sl a lo hi)).1 j G Q X=((Ra gs Δ a).1 j G (λx q=>denO gs Δ lo j q (λl y=>denO gs Δ hi j y (λh z=>Gh x l h z Q) X) X) X):=rfl
def D_rev         a b:(Ra gs Δ (.rev a b)).1 j G Q X=((Ra gs Δ a).1 j G (λx q=>(Ra gs Δ b).1 j q (λy z=>revU x y z Q) X) X):=rfl
def D_call         n es:(Ra gs Δ (.call n es)).1 q G Q X=(Nd gs Δ es q G (λus j=>Δ n us j Q X) X):=rfl
def T_call         n es:(Ra gs Δ (.call n es)).2 q G R X=(Ra gs Δ (.call n es)).1 q G (λx j=>truU x j λb=>R b j) X:=rfl
def D_blt         b es:(Ra gs Δ (.blt b es)).1 q G Q X=(Nd gs Δ es q G (λus j=>bltU b us j Q) X):=rfl
def T_blt         b es:(Ra gs Δ (.blt b es)).2 q G R X=(Ra gs Δ (.blt b es)).1 q G (λx j=>truU x j λb=>R b j) X:=rfl
def D_meth {gs:List U}{q:Cl}{j:Sg}{G:Gp}{Q:K1}{X:KX}(m:Mth)(o:E)(y:Es):(Ra gs q (.meth m o y)).1 j G Q X=((Ra gs q o).1 j G (λx z=>match Ie m x z with|some _=>Nd gs q y j z (λus F=>Td m x us F Q) X|none=>False) X):=rfl
def D_lc         pick t it ifs e:(Ra gs Δ (.lc pick t it ifs e)).1 j G Q X=(denI gs Δ it j G (λxs ok z=>xs.length<=db/\Ri ok (λx J k=>Lc t x (ph pick j) λq=>denC gs Δ ifs q J (λb y=>if b=ma then (Ra gs Δ e).1 q y (λu F=>k (da u) F) (λ_ _=>False) else k Aa y)) xs [] z λus I=>newO I (.lst us) Q) X):=rfl
def D_mkD         e:(Ra gs Δ (.mkD e)).1 q G Q X=((Ra gs Δ e).1 q G (λx j=>mkDU x j Q) X):=rfl
def T_mkD         e:(Ra gs Δ (.mkD e)).2 q G R X=(Ra gs Δ (.mkD e)).1 q G (λx j=>truU x j λb=>R b j) X:=rfl
def D_mkL         e:(Ra gs Δ (.mkL e)).1 q G Q X=((Ra gs Δ e).1 q G (λx j=>Lf x j λxs _=>newO j (.lst xs) Q) X):=rfl
def D_mkT         e:(Ra gs Δ (.mkT e)).1 q G Q X=((Ra gs Δ e).1 q G (λx j=>Lf x j λxs _=>Q (.tup xs) j) X):=rfl
def D_not         a:(Ra gs Δ (.not a)).1 q G Q X=((Ra gs Δ a).1 q G (λx j=>truU x j λb=>Q (.bl (!b)) j) X):=rfl
def T_not         a:(Ra gs Δ (.not a)).2 q G R X=((Ra gs Δ a).2 q G (λb j=>R (!b) j) X):=rfl
def D_ife         c a b:(Ra gs Δ (.ife c a b)).1 j G Q X=((Ra gs Δ c).2 j G (λt q=>if t=ma then (Ra gs Δ a).1 j q Q X else (Ra gs Δ b).1 j q Q X) X):=rfl
def T_ife         c a b:(Ra gs Δ (.ife c a b)).2 j G R X=((Ra gs Δ c).2 j G (λt q=>if t=ma then (Ra gs Δ a).2 j q R X else (Ra gs Δ b).2 j q R X) X):=rfl
def D_bop0      : Ra gs Δ (.bop k a .nil)=Ra gs Δ a:=rfl
def D_and          : (Ra gs Δ (.bop ma a (.cons b es))).1 q G Q X=(Ra gs Δ a).1 q G (λx j=>truU x j λc=>if c=ma then (Ra gs Δ (.bop ma b es)).1 q j Q X else Q x j) X:=rfl
def D_or          : (Ra gs Δ (.bop ua a (.cons b es))).1 q G Q X=(Ra gs Δ a).1 q G (λx j=>truU x j λc=>if c=ma then Q x j else (Ra gs Δ (.bop ua b es)).1 q j Q X) X:=rfl
def T_and          : (Ra gs Δ (.bop ma a (.cons b es))).2 q G R X=(Ra gs Δ a).2 q G (λc j=>if c=ma then (Ra gs Δ (.bop ma b es)).2 q j R X else R ua j) X:=rfl
def T_or          : (Ra gs Δ (.bop ua a (.cons b es))).2 q G R X=(Ra gs Δ a).2 q G (λc j=>if c=ma then R ma j else (Ra gs Δ (.bop ua b es)).2 q j R X) X:=rfl
def O_no        : denO gs Δ .no j G Q X=Q Aa G:=rfl
def O_so {gs:List U}{j:Cl}{q:Sg}{G:Gp}{X:KX}{Q:Option Int->Gp->Prop}{e:E}:denO gs j (.so e) q G Q X=(Ra gs j e).1 q G (λx y=>match x with|.int i=>Q (da i) y|_=>False) X:=rfl
def A_nil        : Nd gs Δ .nil j G Q X=Q [] G:=rfl
def A_cons          : Nd gs Δ (.cons e es) j G Q X=(Ra gs Δ e).1 j G (λx q=>Nd gs Δ es j q (λxs y=>Q (x::xs) y) X) X:=rfl
def C_nil       : denC gs Δ .nil j G Q=Q ma G:=rfl
def C_cons         : denC gs Δ (.cons e es) q G Q=(Ra gs Δ e).2 q G (λb j=>if b=ma then denC gs Δ es q j Q else Q ua j) (λ_ _=>False):=rfl
def P_nil        : denD gs Δ .nil j G Q X=Q [] G:=rfl
def P_cons {gs:List U}{q:Cl}{j:Sg}{G:Gp}{X:KX}{Q:List (Wb×U)->Gp->Prop}{e f:E}{z:Es}:denD gs q (.cons e (.cons f z)) j G Q X=(Ra gs q e).1 j G (λx F=>(Ra gs q f).1 j F (λy J=>match kU x with|some k=>denD gs q z j J (λkvs I=>Q ((k,y)::kvs) I) X|none=>False) X) X:=rfl
def bX         : denI gs Δ (.e e) q G Q X=(Ra gs Δ e).1 q G (λx j=>Lf x j λxs ok=>Q xs ok j) X:=rfl
def I_r1 {gs:List U}{q:Cl}{y:Sg}{G:Gp}{X:KX}{Q:List U->(Gp->Prop)->Gp->Prop}{e:E}:denI gs q (.r1 e) y G Q X=(Ra gs q e).1 y G (λx z=>match x with|.int j=>-(2 ^ 62)<=j/\j<2 ^ 62/\Q (rngU 0 j.toNat) (λ_=>True) z|_=>False) X:=rfl
def I_enum         : denI gs Δ (.enum e) q G Q X=(Ra gs Δ e).1 q G (λx j=>Dq x j λxs ok=>Q xs ok j) X:=rfl
def F_nil        : denF gs Δ .nil j G Q X=Q [] G:=rfl
def F_cons          : denF gs Δ (.cons e es) j G Q X=(Ra gs Δ e).1 j G (λx q=>fpU x λz=>denF gs Δ es j q (λF y=>Q (z::F) y) X) X:=rfl
def I_dv         : denI gs Δ (.dv e) q G Q X=(Ra gs Δ e).1 q G (λx j=>Kh mi x j Q) X:=rfl
def I_di         : denI gs Δ (.di e) q G Q X=(Ra gs Δ e).1 q G (λx j=>Kh Ck x j Q) X:=rfl
def S_expr        : denS gs Δ (.expr e) D q G=(Ra gs Δ e).1 q G (λ_ j=>D.nx q j) λx j=>D.ex x q j:=rfl
def S_asg         : denS gs Δ (.asg t e) D j G=(Ra gs Δ e).1 j G (λu q=>Lc t u j λy=>D.nx y q) λx q=>D.ex x j q:=rfl
def S_asgC         : denS gs Δ (.asgC i e) D q G=(Ra gs Δ e).1 q G (λu j=>D.nx (q.set i (da u)) j) λx j=>D.ex x q j:=rfl
def S_setS        : denS gs Δ (.setS o i e) D j G=(Ra gs Δ e).1 j G (λv q=>(Ra gs Δ o).1 j q (λx I=>(Ra gs Δ i).1 j I (λy F=>setU x y v F λz=>D.nx j z) (λx q=>D.ex x j q)) (λx q=>D.ex x j q)) (λx q=>D.ex x j q):=rfl
def S_par         : denS gs Δ (.par is es) D q G=Nd gs Δ es q G (λus j=>us.length=is.length/\D.nx ((is.zip us).foldl (λs p=>s.set p.1 (da p.2)) q) j) λx j=>D.ex x q j:=rfl
def S_aug          : denS gs Δ (.aug i o e) D j G=slot j i λx=>(Ra gs Δ e).1 j G (λy q=>Em o x y q λz F=>D.nx (j.set i (da z)) F) λx q=>D.ex x j q:=rfl
def S_ite         : denS gs Δ (.ite c a b) D q G=(Ra gs Δ c).2 q G (λt j=>if t=ma then Tc gs Δ a D q j else Tc gs Δ b D q j) λx j=>D.ex x q j:=rfl
def S_fr          : denS gs Δ (.fr t it b) D y G=denI gs Δ it y G (λxs ok z=>forL ok (λx q F k=>Lc t x q λj=>Tc gs Δ b { D with nx:=k } j F) xs y z D.nx) λx z=>D.ex x y z:=rfl
def S_ret        : denS gs Δ (.ret e) D j G=(Ra gs Δ e).1 j G D.rt λx q=>D.ex x j q:=rfl
def B_nil       : Tc gs Δ .nil D j G=D.nx j G:=rfl
def B_cons         : Tc gs Δ (.cons s r) D y G=denS gs Δ s { D with nx:=λj q=>Tc gs Δ r D j q } y G:=rfl
def S_wh         : denS gs Δ (.wh c b) D I G=∃W:Nat->Sg->Gp->Prop,(∃m,W m I G)/\∀m j q,W m j q->(Ra gs Δ c).2 j q (λt F=>if t=ma then Tc gs Δ b { D with nx:=λy J=>∃z,z<m/\W z y J } j F else D.nx j F) λx q=>D.ex x j q:=rfl
def V_add     : binU .Add (.int i) (.int j) G Q=Q (.int (i+j)) G:=rfl
def V_cat     : binU .Add (.tup xs) (.tup ys) G Q=(xs.length+ys.length<=db/\Q (.tup (xs++ys)) G):=rfl
def V_catL     : binU .Add (.loc a) (.loc b) G Q=∃xs j,G a=da (.lst xs)/\G b=da (.lst j)/\xs.length+j.length<=db/\newO G (.lst (xs++j)) Q:=rfl
def V_sub     : binU .Sub (.int i) (.int j) G Q=Q (.int (i-j)) G:=rfl
def V_mul     : binU .Mult (.int i) (.int j) G Q=(CMul i j/\Q (.int (i*j)) G):=rfl
def V_mulL      : binU .Mult (.loc a) (.int k) G Q=∃xs,G a=da (.lst xs)/\-(2 ^ 63)<=k/\k<2 ^ 63/\xs.length*k.toNat<=db/\newO G (.lst (Db k.toNat xs).flatten) Q:=rfl
def V_mulT      : binU .Mult (.tup xs) (.int k) G Q=(xs≠[]/\0<=k/\k<2 ^ 62/\xs.length*k.toNat<=db/\Q (.tup (Db k.toNat xs).flatten) G):=rfl
def V_fdiv     : binU .FloorDiv (.int i) (.int j) G Q=(0<j/\j<1073741824/\Q (.int (i/j)) G):=rfl
def V_mod     : binU .Mod (.int i) (.int j) G Q=(0<j/\Q (.int (i%j)) G):=rfl
def V_pow     : binU .Pow (.int i) (.int j) G Q=(CPow i j/\Q (.int (i ^ j.toNat)) G):=rfl
def V_neg     : negU (.int i) G Q=Q (.int (-i)) G:=rfl
def W_eqI     : cmpU .Eq (.int i) (.int j) G k=k (decide (i=j)):=rfl
def W_neI     : cmpU .NotEq (.int i) (.int j) G k=k (!decide (i=j)):=rfl
def W_eqS     : cmpU .Eq (.str i) (.str j) G k=k (decide (i=j)):=rfl
def W_neS     : cmpU .NotEq (.str i) (.str j) G k=k (!decide (i=j)):=rfl
def W_lt     : cmpU .Lt (.int i) (.int j) G k=k (decide (i<j)):=rfl
def W_le     : cmpU .LtE (.int i) (.int j) G k=k (decide (i<=j)):=rfl
def W_gt     : cmpU .Gt (.int i) (.int j) G k=k (decide (j<i)):=rfl
def W_ge     : cmpU .GtE (.int i) (.int j) G k=k (decide (j<=i)):=rfl
def W_neT     : cmpU .NotEq (.tup xs) (.tup []) G k=k (!xs.isEmpty):=rfl
def W_eqT      : cmpU .Eq (.tup xs) (.tup (y::ys)) G k=eqU (.tup xs) (.tup (y::ys)) G k:=rfl
def W_eqT0     : cmpU .Eq (.tup xs) (.tup []) G k=k xs.isEmpty:=rfl
def W_neL     : cmpU .NotEq (.loc a) (.loc b) G k=((∃us,G a=da (.lst us)/\G b=da (.lst [])/\k (!us.isEmpty))\/eqU (.loc a) (.loc b) G λb=>k (!b)):=rfl
def W_eqL     : cmpU .Eq (.loc a) (.loc b) G k=eqU (.loc a) (.loc b) G k:=rfl
def W_in     : cmpU .In x y G k=Ph x y G k:=rfl
def W_nin     : cmpU .NotIn x y G k=Ph x y G λb=>k (!b):=rfl
def W_is     : cmpU .Is x y G k=Oh x y k:=rfl
def W_isn     : cmpU .IsNot x y G k=Oh x y λb=>k (!b):=rfl
def Y_bl     : truU (.bl b) G k=k b:=rfl
def Y_non    : truU .non G k=k ua:=rfl
def Y_int     : truU (.int i) G k=k (i != 0):=rfl
def Y_tup     : truU (.tup xs) G k=k (!xs.isEmpty):=rfl
def J_tup     : Lf (.tup xs) G k=k xs λ_=>True:=rfl
def X_tup      : Gh (.tup xs) j q G Q=Q (.tup (cut xs j q)) G:=rfl
def F_len     : bltU .len us G Q=lenU us G Q:=rfl
def F_repr     : bltU .repr us G Q=sj us G Q:=rfl
def F_min     : bltU .min us G Q=minU us G Q:=rfl
def F_sum     : bltU .sum us G Q=sumU us G Q:=rfl
def F_all     : bltU .all us G Q=allU us G Q:=rfl
def F_sorted     : bltU .sorted us G Q=Zn us G Q:=rfl
def F_int     : bltU .int us G Q=intU us G Q:=rfl
def F_isi     : bltU .isi us G Q=Gm us G Q:=rfl
def X_str      : Gh (.str x) j q G Q=(x.length<=db/\Q (.str (Rv x j q)) G):=rfl
def V_addB      : binU .Add (.bl b) (.int j) G Q=Q (.int ((if b=ma then (1:Int) else 0)+j)) G:=rfl
def V_subB      : binU .Sub (.bl b) (.int j) G Q=Q (.int ((if b=ma then (1:Int) else 0)-j)) G:=rfl
def V_subI      : binU .Sub (.int i) (.bl b) G Q=Q (.int (i-if b=ma then (1:Int) else 0)) G:=rfl
def F_lenT     : lenU [.tup xs] G Q=Q (.int xs.length) G:=rfl
def F_min2     : minU [.int i,.int j] G Q=Q (.int (if j<i then j else i)) G:=rfl
def F_max2     : maxU [.int i,.int j] G Q=Q (.int (if j>i then j else i)) G:=rfl
def F_intB     : intU [.bl b] G Q=Q (.int (if b then 1 else 0)) G:=rfl
def F_intI     : intU [.int i] G Q=Q (.int i) G:=rfl
def dX      : Lc (.n i) u j k=k (j.set i (da u)):=rfl
def cX      : Lc (.t ts) (.tup us) j k=tgsU ts us j k:=rfl
def G_nil     : tgsU .nil us j k=(us=[]/\k j):=rfl
def G_cons        : tgsU (.cons t ts) (u::r) q k=Lc t u q λj=>tgsU ts r j k:=rfl
def sl_0   {j:Sg}:slot (da u::j) 0 k=k u:=rfl
def sl_s   {j:Sg}:slot (o::j) (i+1) k=slot j i k:=rfl
def Vm      : putO G a o Q=Q (Sc G a o):=propext ⟨λh=>h.at,λh j p=>by rw[p.eq];exact h⟩
def ix_t       (h:atI xs i=da u):Ce (.tup xs) (.int i) G Q=Q u G:=by unfold Ce;lia
def ix_l        (g:G a=da (.lst xs))(h:atI xs i=da u):Ce (.loc a) (.int i) G Q=Q u G:=by unfold Ce;lia
def ix_d        (g:G a=da (.dK kvs))(h:dGet kvs (.inr x)=da u):Ce (.loc a) (.str x) G Q=Q u G:=by unfold Ce;dsimp only;rw[g];show(match dGet kvs (.inr x)with|some u=>Q u G|none=>False)=_;rw[h]
def vQ       (g:G a=da (.lst xs))(h0:0<=r)(j:r<xs.length)(q:∀u∈xs,Q u G):Ce (.loc a) (.int r) G Q:=by
 obtain⟨u,hu,e⟩:=yu h0 j;rw[ix_l g e];exact q u hu
def sF  (j:List Int){r:Int}(g:G a=da (.lst (j.map .int)))(h0:0<=r)(y:r<j.length)(q:∀z∈j,Q (.int z) G):Ce (.loc a) (.int r) G Q:=
 vQ g h0 (by simp_all) λu hu=>by
  grind
theorem IF  : ∀j ,Si (j.map .str)=da j
 |[]=>rfl
 |x::r=>by show(match Si (r.map .str)with|some l=>da (x::l)|none=>Aa)=_;rw[IF r]
theorem rF  : ∀j ,ik (j.map .int)=da j
 |[]=>rfl
 |x::r=>by show(match ik (r.map .int)with|some l=>da (x::l)|none=>Aa)=_;rw[rF r]
def YU  (j:List Str):(j.map U.str).all flat=ma:=by simp[flat]
def in_l       (g:G a=da (.lst ys))(j:flat x=ma)(z:ys.all flat=ma)(q:k (ys.any λy=>Ui y x)):Ph x (.loc a) G k:=by
 cases x<;>first|(cases j;done)|(unfold Ph;lia)
def Pn      (g:G a=da (.lst xs)):lenU [.loc a] G Q=Q (.int xs.length) G:=by unfold lenU;lia
def KN      (g:G a=da (.fro xs)):lenU [.loc a] G Q=Q (.int xs.length) G:=by unfold lenU;lia
def it_l      (g:G a=da (.lst xs)):Lf (.loc a) G k=k xs λj=>Gd j a=da xs:=by unfold Lf;dsimp only;have e:Gd G a=da xs:=(by unfold Gd;rw[g]);rw[e]
def Jh       (g:G a=da (.lst xs)):Td .append (.loc a) [v] G Q=(xs.length<db/\putO G a (.lst (xs++[v])) (Q .non)):=by unfold Td Ey;dsimp only;rw[g]
def lh     (g:G a=da (.lst xs)):Ie .append (.loc a) G=da ("list", "list.append"):=by unfold Ie;lia
def HM         (g:G a=da (.lst xs))(h:Ag xs.length i=da j):setU (.loc a) (.int i) v G Q=putO G a (.lst (xs.set j v)) Q:=by unfold setU;lia
def jy        (g:G a=da (.dK kvs)):setU (.loc a) (.str x) v G Q=(kvs.length<db/\putO G a (.dK (dPut kvs (.inr x) v)) Q):=by unfold setU;dsimp only;rw[g];rfl
def sQ   (h:j<n):Ag n (j:Int)=da j:=by unfold Ag;simp_all
noncomputable def nu  : Nat->Ss->Ss
 |0,s=>s
 |_+1,.nil=>.nil
 |n+1,.cons _ r=>nu n r
def dr_0   : nu 0 s=s:=rfl
def dr_s     : nu (n+1) (.cons s r)=nu n r:=rfl
def pk_nil   : ph [] j=[]:=rfl
def pk_none    : ph (Aa::r) j=Aa::ph r j:=rfl
def pk_some     : ph (da j::r) q=(q[j]?).join::ph r q:=rfl
def K_str   : kU (.str x)=da (.inr x):=rfl
def K_int   : kU (.int i)=da (.inl i):=rfl
def sl_f       (g:G a=da (.fro xs)):Gh (.loc a) j q G Q=newO G (.lst (cut xs j q)) Q:=by unfold Gh;dsimp only;have e:Gd G a=da xs:=(by unfold Gd;rw[g]);rw[e]
def sl_l       (g:G a=da (.lst xs)):Gh (.loc a) j q G Q=newO G (.lst (cut xs j q)) Q:=by unfold Gh;dsimp only;have e:Gd G a=da xs:=(by unfold Gd;rw[g]);rw[e]
def UQ   (f:α->j)(xs:List α) lo hi:cut (xs.map f) lo hi=(cut xs lo hi).map f:=by unfold cut;simp_all
def Rn   (xs:List α)(n:Nat):cut xs Aa (da (n:Int))=xs.take n:=by
 unfold cut;rw[HT.sIx_none,HT.sIx_nat,lB,Nat.sub_zero,List.take_eq_take_iff]
 lia
def XS   (xs:List α)(n:Nat):cut xs (da (n:Int)) Aa=xs.drop n:=by
 unfold cut;rw[HT.sIx_none,HT.sIx_nat];by_cases h:n<=xs.length
 ·rw[fw h,mL (by simp)]
 ·rw[Nat.min_eq_right (by lia),qr (Jb _),qr (by lia),List.take_nil]
def fx_cells      : Ce (.loc f) (.str "cells") (Sc G f (.dK (Dd c a l t))) Q=Q (.loc c) (Sc G f (.dK (Dd c a l t))):=ix_d sf bR
def fx_at      : Ce (.loc f) (.str "at") (Sc G f (.dK (Dd c a l t))) Q=Q (.int a) (Sc G f (.dK (Dd c a l t))):=ix_d sf g_at
def fx_left      : Ce (.loc f) (.str "left") (Sc G f (.dK (Dd c a l t))) Q=Q (.int l) (Sc G f (.dK (Dd c a l t))):=ix_d sf UO
def fx_turn      : Ce (.loc f) (.str "turn") (Sc G f (.dK (Dd c a l t))) Q=Q (.int t) (Sc G f (.dK (Dd c a l t))):=ix_d sf rD
def fs_at      : setU (.loc f) (.str "at") (.int x) (Sc G f (.dK (Dd c a l t))) Q=Q (Sc G f (.dK (Dd c x l t))):=by rw[jy sf,p_at,Vm,Xn];exact propext ⟨λh=>h.2,λh=>⟨zy,h⟩⟩
def fs_left      : setU (.loc f) (.str "left") (.int x) (Sc G f (.dK (Dd c a l t))) Q=Q (Sc G f (.dK (Dd c a x t))):=by rw[jy sf,MP,Vm,Xn];exact propext ⟨λh=>h.2,λh=>⟨zy,h⟩⟩
end Z

namespace Y
open PySem L2
noncomputable def nO  : Obj:=⟨.none,Aa,.fields ⟨[]⟩,⟨[]⟩⟩
noncomputable def tO  (v:List Da):Obj:=⟨.type "tuple",Aa,.seq ⟨v⟩ 0,⟨[]⟩⟩
noncomputable def sO  (c:Da)(v:List Da):Obj:=⟨c,Aa,.fields ⟨v⟩,⟨[]⟩⟩
noncomputable def rO  (v:List (Option Da)):Obj:=⟨.type "frame",Aa,.plain,⟨v⟩⟩
noncomputable def gO  (x q:Str)(s:Qa):Obj:=⟨.none,Aa,.func { name:=x,qualname:=q,params:=Jg s,body:=.stmts (Md s),scope:=ic s,globals:=0,closure:=[],defaults:=.none,kwdefaults:=.none },⟨[]⟩⟩
noncomputable def fO  (x q:Str)(s:Qa)(m:Da)(c:Nat):Obj:=⟨.type "function",Aa,.func (Lj x q (Jg s) (Md s) (ic s) .none .none .none m Aa (.ref c) .none),⟨[]⟩⟩
noncomputable def kO  (fi x q:Str)(t:Nat)(l a f:Int)(r:Nat)(b:Bool)(u v w:Da)(z:Nat):Obj:=⟨.type "code",Aa,.fields ⟨[.str x t,.str q (t+1),.str fi (t+2),.int l 0,.int a 0,.int 0 0,.int 0 0,.int f 0,.ref r,.bool b,.int 181 0,.ref (r+1),.none,u,v,w,.int z 0,.int l 0,.str fi (z+1)]⟩,⟨[]⟩⟩
noncomputable def dE  (P:Tb)(x:Str)(t:Nat)(v:Da):Mk:=⟨Ua.keyHash P x,.str x t,v⟩
noncomputable def dO  (e:List Mk)(n:Nat):Obj:=⟨.type "dict",Aa,.dict ⟨e⟩ n,⟨[]⟩⟩
noncomputable def cO  (x:Str)(b m:List Da)(n:Nat)(u:List Da)(s:List (Option Da)):Obj:=⟨.type "type",Aa,.cls { name:=x,bases:=b,mro:=m,ns:=n,qualname:=x,subclasses:=u },⟨s⟩⟩
def tE  : Obj:=tO []
noncomputable abbrev bE  : Cj:=.nil
noncomputable abbrev bN  (o:Obj)(l r:Cj):Cj:=.node o l r
noncomputable abbrev bL  (o:Obj):Cj:=.node o .nil .nil
end Y
namespace Z
open PySem L2
noncomputable def argB  (ps:List Str)(a:Arguments):Bool:=a.posonlyargs.isEmpty&&(a.args.map (·.arg)==ps)&&a.vararg.isNone&&a.kwonlyargs.isEmpty&&a.kwarg.isNone
def jO  : ∀{ps:List Str} {us:List Da},us.length=ps.length->ps.Nodup->(ps.filterMap λn=>((ps.zip us).lookup n).map (n,·))=ps.zip us/\∀n∈ps,((ps.zip us).lookup n).isSome=ma:=by
 have q:∀{l:List Str} {vs:List Da} {L:List (Str×Da)},vs.length=l.length->l.Nodup->(∀(i:Nat) n v,l[i]?=da n->vs[i]?=da v->L.lookup n=da v)->(l.filterMap λn=>(L.lookup n).map (n,·))=l.zip vs/\∀n∈l,(L.lookup n).isSome=ma:=by
  intro l
  induction l with
  |nil=>simp_all
  |cons x l z=>
   intro vs L y j F;obtain _|⟨v,vs⟩:=vs
   ·cases y
   ·have h0:=F 0 x v rfl rfl;obtain⟨J,O⟩:=z (L:=L) (vs:=vs) (by simp_all) (Za.mp j).2 λi n v a b=>F (i+1) n v a b
    refine⟨?_,λn R=>?_⟩
    ·simp_all
    grind
 intro ps us y j;refine q y j λi n v a b=>?_;have I:(ps.zip us)[i]?=da (n,v):=fc.mpr ⟨a,b⟩;have:∀(l:List (Str×Da)),(l.map (·.1)).Nodup->(n,v)∈l->l.lookup n=da v:=by
  intro l
  induction l with
  |nil=>simp_all
  |cons p l z=>
   intro j h;obtain⟨m,u⟩:=p;rw[Xi];by_cases e:n=m
   ·subst e;rw[beq_self_eq_true];rcases Mc.mp h with h|h
    ·cases h;rfl
    ·exact absurd (Ia.mpr ⟨_,h,rfl⟩) (Za.mp j).1
   ·rw[beq_eq_false_iff_ne.mpr e];rcases Mc.mp h with h|h
    ·cases h;exact absurd rfl e
    ·exact z (Za.mp j).2 h
 exact this _ (by rw[List.map_fst_zip (by lia)];exact j) (Pd I)
def ZD    (h:argB ps a=ma)(Y:ps.Nodup){kV j R:Da}(z:us.length=ps.length) :
  Fq (Lj x q a b sc .none kV j R an F ct) ⟨us,[]⟩=pure (ps.zip us):=by
 obtain⟨po,y,va,ko,kd,ka,df⟩:=a;unfold argB at h;simp only[Qe,List.isEmpty_iff,Option.isNone_iff_eq_none,beq_iff_eq]at h;obtain⟨⟨⟨⟨rfl,rfl⟩,rfl⟩,rfl⟩,rfl⟩:=h;obtain⟨J,O⟩:=jO z Y;have Z:(List.filter (λn=>(xA n ((y.map (·.arg)).zip us)).isNone) (y.map (·.arg)))=[]:=List.filter_eq_nil_iff.mpr λn I=>by
  have:=O n I
  simp_all
 have e0:seqItems? Yd=pure Aa:=rfl;unfold Fq;dsimp only;rw[e0];generalize y.map (·.arg)=ns at *;have e4:ns.take (ns.length-0)=ns:=by simp_all
 simp[z,J,Z,e4]

abbrev FL:=List (Ca×Ca×Da)
noncomputable def refB  (v:Option (Option Da))(f:Ca):Bool:=match v with
 |some (da (.ref a))=>a==f
 |_=>ua
def mP    (h:refB v f=ma):v=da (da (.ref f)):=by
 unfold refB at h
 lia
noncomputable def dynB  (T:Le)(K:Eb):Nat->FL->List Fun->List Qa->Bool
 |_,[],[],[]=>ma
 |i,x::fs,d::ds,s::ss=>refB (jn K Ke d.name) x.1&&Wq K (.ref x.2.1) d.name&&(match T.ns.lookup i with|none=>ma|some z=>qq K (.ref x.2.1) z.P)&&argB d.ps (Jg s)&&dynB T K (i+1) fs ds ss
 |_,_,_,_=>ua
noncomputable def Nn  : FL->List Fun->List Qa->List (Option Obj)
 |x::fs,d::ds,s::ss=>da (Y.fO d.name d.name s x.2.2 x.2.1)::Nn fs ds ss
 |_,_,_=>[]
theorem yy  {T:Le}:∀{i } {fs } {j } {ss },dynB T K i fs j ss=ma->fs.map (λx=>K.lookup x.1)=Nn fs j ss->∀{n } {d } {s },j[n]?=da d->ss[n]?=da s->
  ∃x:Ca×Ca×Da,jn K Ke d.name=da (da (.ref x.1))/\K.lookup x.1=da (Y.fO d.name d.name s x.2.2 x.2.1)/\Wq K (.ref x.2.1) d.name=ma/\(∀z,T.ns.lookup (i+n)=da z->qq K (.ref x.2.1) z.P=ma)/\argB d.ps (Jg s)=ma
 |_,_,[],_,_,_,_,_,_,e,_=>by simp at e
 |_,_,_::_,[],_,_,_,_,_,_,e=>by simp at e
 |_,[],_::_,_::_,h,_,_,_,_,_,_=>by unfold dynB at h;cases h
 |i,x::fs,d::j,s::ss,h,g,n,d',s',e1,e2=>by
  unfold dynB at h;simp only[Qe]at h;obtain⟨⟨⟨⟨F,J⟩,R⟩,I⟩,O⟩:=h;unfold Nn at g;rw[He]at g;injection g with g1 g2
  cases n with
  |zero=>
   cases(Ee e1:d=d');cases(Ee e2:s=s');exact⟨x,mP F,g1,J,λz q=>by lia,I⟩
  |succ n=>
   obtain⟨y,q1,q2,q3,q4,q5⟩:=yy O g2 (n:=n) e1 e2;exact⟨y,q1,q2,q3,λz q=>q4 z (by rw[show i+1+n=i+(n+1) by lia];exact q),q5⟩
def RC    (h:Gn N ps sc=ma):ps.Nodup:=by
 have S:=su h;rw[<- S.pre];exact S.nd.sublist (Mw _ _)
def zE        (h:K.lookup f=da ⟨c,d,.func fd,j⟩):Xq K (.ref f)=ma:=by
 unfold Xq
 lia
section
variable {T:Le}{K:Eb}{h:Wa}{mg:Str->Option Da}
def GO   {sts:List Qa}(X:K.In h)(G:h.Ns Ke mg)(q:pj T 0 T.funs sts=ma)(j:Bk T sts 0 T.funs sts)(hB:dynB T K 0 fs T.funs sts=ma)(R:fs.map (λx=>K.lookup x.1)=Nn fs T.funs sts):jC T K mg sts:=by
 intro n d st I y;obtain⟨x,q1,q2,q3,q4,q5⟩:=yy hB R I y;have F:=qD (st:=st) q2 q3 (zE q2);obtain⟨O,e,J,_⟩:=Um q j I;cases y.symm.trans e;exact⟨_,_,F,Uq X G q1,F.binds λ_ _ _ _ _ _ us Y=>ZD q5 (RC J) Y,λz Z=>q4 z (by lia)⟩
def bltB  (K:Eb):Bool:=Dk.all λx=>match jn K Ke x with
 |some Aa=>ma
 |_=>ua
def eP  (X:K.In h)(G:h.Ns Ke mg)(j:bltB K=ma):∀x∈Dk,mg x=Aa:=λx q=>by
 have:=Bj.mp j x q;refine PySem.W.mg_none_of X G ?_
 lia
noncomputable def Cq  (K:Eb):List Str->List U->Bool
 |[],[]=>ma
 |x::xs,u::us=>(match u,jn K Ke x with
  |.int i,da (da (.int j _))=>i==j
  |.str i,da (da (.str j _))=>i==j
  |_,_=>ua)&&Cq K xs us
 |_,_=>ua
theorem IC  (X:K.In h)(G:h.Ns Ke mg):∀{xs } {us },Cq K xs us=ma->∀(n:Nat) x u ,xs[n]?=da x->us[n]?=da u->∃v w,mg x=da w/\RelV v w/\∀H,RU K H u v
 |[],_,_,_,_,_,e,_=>by simp at e
 |_::_,[],_,_,_,_,_,e=>by simp at e
 |x::xs,u::us,hb,n,x',u',e1,e2=>by
  unfold Cq at hb;rw[Qe]at hb;cases n with
  |zero=>
   cases(Ee e1:x=x');cases(Ee e2:u=u');have y:=hb.1;split at y
   ·rename_i i j t q;cases eq_of_beq y;exact⟨.int i,_,Uq X G q,⟨_,rfl⟩,λ_=>rfl⟩
   ·rename_i i j t q;cases eq_of_beq y;exact⟨.str i,_,Uq X G q,⟨_,rfl⟩,λ_=>rfl⟩
   lia
  |succ n=>exact IC X G hb.2 n x' u' e1 e2
def Br  (K:Eb):List Nat->Prop
 |[]=>True
 |n::r=>(∃C,XCls K (gK K) (clsN n) (clsF n) C)/\Br K r
theorem BC  : ∀{l },Br K l->∀n∈l,1<=n->∃C,XCls K (gK K) (clsN n) (clsF n) C
 |[],_,_,hn,_=>absurd hn Qg
 |m::r,hc,n,hn,h1=>by
  unfold Br at hc;rcases Mc.mp hn with rfl|hn
  ·exact hc.1
  ·exact BC hc.2 n hn h1
def all2  {l:FB}{sts:List Qa}{d:Fun}(X:K.In h)(G:h.Ns Ke mg)(J:mg "law" = da (.ref fa))(y:pj T 0 T.funs sts=ma)(q:Bk T sts 0 T.funs sts)
  (hU:∀t∈tabs,∀t'∈tabs,t.1=t'.1->t=t') (hB:dynB T K 0 fs T.funs sts=ma) (Z:fs.map (λx=>K.lookup x.1)=Nn fs T.funs sts) (hb:bltB K=ma) (hg:Cq K T.gn T.gs=ma) (hc:Br K T.cs)
  (hd:T.funs[n]?=da d) (hs:sts[n]?=da st) (hn:T.ns.lookup n=Aa) (R:d.name = "law") (j:d.ps=[("_law_script" : Str)]) :
  ∃fd ,(∀(s:Fa) v ,se s fd ⟨[v],[]⟩ [("_law_script",v)])/\∀base ,K.In base->base.Ns Ke mg->BmAt mg base->FnOk l.prog w K mg base (Jd l.prog w) (k+2) fa fd ["_law_script"] (Ig K (Va T k n)):=by
 have Y:=GO X G y q hB Z;obtain⟨x,q1,q2,q3,q4,q5⟩:=yy hB Z hd hs;obtain⟨xa,e,I,_⟩:=Um y q hd;cases hs.symm.trans e;have F:=qD (st:=st) q2 q3 (zE q2);rw[R]at q1;cases J.symm.trans (Uq X G q1);refine⟨Lj d.name d.name (Jg st) (Md st) (ic st) .none .none .none x.2.2 Aa (.ref x.2.1) .none,λs v=>.of_eq ((ZD (us:=[v]) q5 (RC I) (by rw[j];rfl)).trans (by rw[j];rfl)),λbase z _ O=>?_⟩
 rw[<- j];exact mV F y q Y hU z O (eP X G hb) (IC X G hg) (BC hc) (uO X G) hd hs hn
end

section
local macro_rules
 |`(#[])=>`(.nil)
 |`(#[$x])=>`(.cons $x .nil)
 |`(#[$x,$xs,*])=>`(.cons $x #[$xs,*])
noncomputable abbrev Hv  : Nat:=0
noncomputable abbrev yv  : Nat:=1
noncomputable abbrev fv  : Nat:=2
noncomputable abbrev dW  : Nat:=3
noncomputable abbrev Cv  : Nat:=4
noncomputable abbrev zq  : Nat:=5
noncomputable abbrev JG  : Nat:=6
noncomputable abbrev Xy  : Nat:=7
noncomputable abbrev nA  : Nat:=8
noncomputable abbrev SI  : Nat:=9
noncomputable abbrev lH  : Nat:=10
noncomputable abbrev iI  : Nat:=11
noncomputable abbrev LG  : Nat:=12
noncomputable abbrev AH  : Nat:=13
noncomputable abbrev mH  : Nat:=14
noncomputable abbrev sv  : Nat:=15
noncomputable abbrev dG  : Nat:=16
noncomputable abbrev xH  : Nat:=17
noncomputable abbrev fG  : Nat:=18
noncomputable abbrev Qz  : Nat:=19
noncomputable abbrev wH  : Nat:=20
noncomputable abbrev Fv  : Nat:=21
noncomputable abbrev Uz  : Nat:=22
noncomputable abbrev eI  : Nat:=23
noncomputable abbrev RI  : Nat:=24
noncomputable abbrev wI  : Nat:=25
noncomputable abbrev Fz  : Nat:=26
noncomputable abbrev Cz  : Nat:=27
noncomputable abbrev Bz  : Nat:=28
noncomputable abbrev gI  : Nat:=29
noncomputable abbrev yH  : Nat:=30
noncomputable abbrev zH  : Nat:=31
noncomputable abbrev wF  : Nat:=32
noncomputable abbrev Fu  : Nat:=33
noncomputable abbrev MI  : Nat:=34
noncomputable abbrev uo  : Nat:=35
noncomputable abbrev Nz  : Nat:=36
noncomputable abbrev xW  : Nat:=37
noncomputable abbrev UV  : Nat:=38
noncomputable abbrev CH  : Nat:=39
noncomputable abbrev yI  : Nat:=40
noncomputable abbrev GW  : Nat:=42
noncomputable abbrev KG  : Nat:=43
noncomputable abbrev MG  : Nat:=44
noncomputable abbrev We  : Nat:=45
noncomputable abbrev Bv  : Nat:=46
noncomputable abbrev xI  : Nat:=47
noncomputable abbrev Oz  : Nat:=48
noncomputable abbrev eG  : Nat:=49
noncomputable abbrev Av  : Nat:=50
noncomputable abbrev IG  : Nat:=51
noncomputable abbrev Pz  : Nat:=52
noncomputable abbrev xF  : Nat:=53
noncomputable abbrev BH  : Nat:=54
noncomputable abbrev kA  : Nat:=55
noncomputable abbrev cy  : Nat:=56
noncomputable def Ez  : Fun:=⟨"is_whole",["thing"],["thing"],#[.ret (.bop ma (.blt .isi #[.v 0,.ty "int"]) #[.not (.blt .isi #[.v 0,.ty "bool"])])]⟩
def yG  : Fun:=⟨"is_within",["thing", "least", "most"],["thing", "least", "most"],#[.ret (.bop ma (.call Hv #[.v 0]) #[.cmp2 .LtE .LtE (.v 1) (.v 0) (.v 2)])]⟩
noncomputable def vz  : Fun:=⟨"top_of",["plan", "period", "s"],["plan", "period", "s", "word", "one", "other", "low", "high"],#[.asg (.t #[.n 3,.n 4,.n 5,.n 6,.n 7]) (.ix (.ix (.v 0) (.int 1)) (.v 2)),.ret (.ife (.cmp .Eq (.v 3) (.str "span")) (.v 7) (.bin .Sub (.v 1) (.v 7)))]⟩
def HG  : Fun:=⟨"window_of",["plan", "period", "s"],["plan", "period", "s", "low"],#[.asg (.n 3) (.ix (.ix (.ix (.v 0) (.int 1)) (.v 2)) (.int 3)),(.ret (.tup #[.v 3,(.blt .min #[.call fv #[.v 0,.v 1,.v 2],.bin .Sub (.bin .Add (.v 3) (.v 1)) (.int 1)])]))]⟩
def tH  : Fun:=⟨"windows_of",["plan", "period"],["plan", "period"],#[.ret (.mkT (.lc [Aa,da 0,da 1] (.n 0) (.r1 (.blt .len #[.ix (.v 0) (.int 1)])) .nil (.call dW #[.v 1,.v 2,.v 0])))]⟩
noncomputable def qI  : Fun:=⟨"with_window",["windows", "s", "window"],["windows", "s", "window"],#[.ret (.bin .Add (.bin .Add (.sl (.v 0) .no (.so (.v 1))) (.tup #[.v 2])) (.sl (.v 0) (.so (.bin .Add (.v 1) (.int 1))) .no))]⟩
noncomputable def DG  : Fun:=⟨"length_of",["plan", "period", "beats", "s"],["plan", "period", "beats", "s", "word", "one", "other", "low", "high"],#[.asg (.t #[.n 4,.n 5,.n 6,.n 7,.n 8]) (.ix (.ix (.v 0) (.int 1)) (.v 3)),.ret (.bin .Add (.v 7) (.bin .Mod (.bin .Sub (.bin .Sub (.ix (.v 2) (.v 6)) (.ix (.v 2) (.v 5))) (.v 7)) (.v 1)))]⟩
def KF  : Fun:=⟨"unkept",["plan", "period", "beats"],["plan", "period", "beats", "s"],#[.fr (.n 3) (.r1 (.blt .len #[.ix (.v 0) (.int 1)])) #[.ite (.cmp .Gt (.call JG #[.v 0,.v 1,.v 2,.v 3]) (.call fv #[.v 0,.v 1,.v 3])) #[.ret (.v 3)] .nil],.ret .non]⟩
noncomputable def bJ  : Fun:=⟨"names_together",["one", "other"],["one", "other"],#[.ret (.bin .Add (.ix (.v 0) (.int 0)) (.mkT (.lc [Aa,da 0] (.n 0) (.e (.ix (.v 1) (.int 0))) #[.cmp .NotIn (.v 0) (.ix (.v 1) (.int 0))] (.v 0))))]⟩
def OI  : Fun:=⟨"laid_together",["one", "other"],["one", "other", "names", "works", "spans"],#[.asg (.n 2) (.call nA #[.v 0,.v 1]),.ite (.cmp .Gt (.blt .len #[.v 2]) (.g 1)) #[.never] .nil,.ite (.cmp .Gt (.bin .Add (.blt .len #[.ix (.v 0) (.int 1)]) (.blt .len #[.ix (.v 1) (.int 1)])) (.g 0)) #[.never] .nil,.asg (.n 3) (.lc [Aa,da 2] (.n 0) (.e (.ix (.v 1) (.int 0))) .nil (.meth .index (.v 1) #[.v 0])),.asgC 4 (.lc [Aa,Aa,Aa,Aa,Aa,da 3] (.t #[.n 0,.n 1,.n 2,.n 3,.n 4]) (.e (.ix (.v 1) (.int 1))) .nil (.tup #[.v 0,.ix (.v 5) (.v 1),.ix (.v 5) (.v 2),.v 3,.v 4])),.ret (.tup #[.v 2,.bin .Add (.ix (.v 0) (.int 1)) (.mkT (.v 4))])]⟩
def eH  : Fun:=⟨"beats_of",["one", "other", "beats", "side"],["one", "other", "beats", "side", "names", "own"],#[.asg (.n 4) (.call nA #[.v 0,.v 1]),.asg (.n 5) (.ife (.v 3) (.ix (.v 1) (.int 0)) (.ix (.v 0) (.int 0))),.ret (.mkT (.lc [Aa,da 2,da 4] (.n 0) (.e (.v 5)) .nil (.ix (.v 1) (.meth .index (.v 2) #[.v 0]))))]⟩
noncomputable def dI  : Fun:=⟨"some_shifted",["period", "beats", "works", "by"],["period", "beats", "works", "by"],#[.ret (.mkT (.lc [Aa,Aa,da 0,da 2,da 3] (.t #[.n 0,.n 1]) (.enum (.v 1)) .nil (.ife (.cmp .In (.v 0) (.v 3)) (.bin .Mod (.bin .Add (.v 1) (.v 4)) (.v 2)) (.v 1))))]⟩
def GG  : Fun:=⟨"shifts_of",["plan", "period", "beats", "works"],["plan", "period", "beats", "works"],#[.ret (.lc [Aa,da 0,da 1,da 2,da 3] (.n 0) (.r1 (.v 1)) #[.cmp .Is (.call Xy #[.v 1,.v 2,.call iI #[.v 2,.v 3,.v 4,.v 0]]) .non] (.v 0))]⟩
def TV  : Fun:=⟨"is_work_of",["stays", "thing"],["stays", "thing"],#[.ret (.bop ma (.call Hv #[.v 1]) #[.cmp .In (.v 1) (.v 0)])]⟩
def GH  : Ss:=#[.asg (.t #[.n 6,.n 7]) (.v 2),(.ret (.bop ma (.call yv #[.v 6,.int 0,.bin .Sub (.blt .len #[.ix (.v 0) (.int 1)]) (.int 1)]) #[.call Hv #[.v 7],.cmp .In (.v 7) (.tup #[.int 1,.neg (.int 1)])]))]
def FH  : Ss:=(.cons (.ite (.cmp .NotEq (.blt .len #[.v 2]) (.int 2)) #[.ret (.bl ua)] .nil) GH)
def EH  : Ss:=(.cons (.ite (.cmp .Eq (.blt .len #[.v 2]) (.int 3)) #[.asg (.t #[.n 3,.n 4,.n 5]) (.v 2),(.ret (.bop ma (.cmp .Eq (.v 3) (.str "home")) #[.call AH #[.v 1,.v 4],.call AH #[.v 1,.v 5]]))] .nil) FH)
def fH  : Fun:=⟨"is_entry",["plan", "stays", "thing"],["plan", "stays", "thing", "word", "start", "end", "s", "way"],(.cons (.ite (.not (.blt .isi #[.v 2,.ty "tuple"])) #[.ret (.bl ua)] .nil) EH)⟩
noncomputable def pG  : Fun:=⟨"ends_of",["plan", "entry"],["plan", "entry", "s", "way", "word", "one", "other", "low", "high"],#[.ite (.cmp .Eq (.blt .len #[.v 1]) (.int 3)) #[.ret (.tup #[.ix (.v 1) (.int 1),.ix (.v 1) (.int 2)])] .nil,.asg (.t #[.n 2,.n 3]) (.v 1),.asg (.t #[.n 4,.n 5,.n 6,.n 7,.n 8]) (.ix (.ix (.v 0) (.int 1)) (.v 2)),.ret (.ife (.cmp .Eq (.v 3) (.int 1)) (.tup #[.v 5,.v 6]) (.tup #[.v 6,.v 5]))]⟩
noncomputable def KH  : Ss:=#[.ret (.blt .all #[.lc [Aa,da 3] (.n 0) (.r1 (.blt .len #[.v 3])) .nil (.cmp .Eq (.ix (.ix (.v 1) (.bin .Sub (.v 0) (.int 1))) (.int 1)) (.ix (.ix (.v 1) (.v 0)) (.int 0)))])]
def JH  : Ss:=(.cons (.asg (.n 3) (.lc [Aa,da 0] (.n 0) (.e (.v 2)) .nil (.call sv #[.v 1,.v 0]))) KH)
def IH  : Ss:=(.cons (.ite (.not (.blt .all #[.lc [Aa,da 0,da 1] (.n 0) (.e (.v 2)) .nil (.call mH #[.v 1,.v 2,.v 0])])) #[.ret (.bl ua)] .nil) JH)
def RF  : Fun:=⟨"is_ring",["plan", "stays", "thing"],["plan", "stays", "thing", "ends"],(.cons (.ite (.not (.bop ma (.blt .isi #[.v 2,.ty "tuple"]) #[.cmp2 .LtE .LtE (.int 1) (.blt .len #[.v 2]) (.g 2)])) #[.ret (.bl ua)] .nil) IH)⟩
noncomputable def RH  : Fun:=⟨"entry_sums",["beats", "windows", "entry"],["beats", "windows", "entry", "apart", "s", "way", "least", "most"],#[.ite (.cmp .Eq (.blt .len #[.v 2]) (.int 3)) #[.asg (.n 3) (.bin .Sub (.ix (.v 0) (.ix (.v 2) (.int 2))) (.ix (.v 0) (.ix (.v 2) (.int 1)))),.ret (.tup #[.v 3,.v 3])] .nil,.asg (.t #[.n 4,.n 5]) (.v 2),.asg (.t #[.n 6,.n 7]) (.ix (.v 1) (.v 4)),.ret (.ife (.cmp .Eq (.v 5) (.int 1)) (.tup #[.v 6,.v 7]) (.tup #[.neg (.v 7),.neg (.v 6)]))]⟩
def VF  : Fun:=⟨"sums_of",["plan", "period", "beats", "windows", "ring"],["plan", "period", "beats", "windows", "ring", "sums"],#[.asgC 5 (.lc [Aa,da 2,da 3] (.n 0) (.e (.v 4)) .nil (.call xH #[.v 1,.v 2,.v 0])),(.ret (.tup #[.blt .sum #[.lc [Aa,Aa] (.t #[.n 0,.n 1]) (.e (.v 5)) .nil (.v 0)],.blt .sum #[.lc [Aa,Aa] (.t #[.n 0,.n 1]) (.e (.v 5)) .nil (.v 1)]]))]⟩
def FG  : Fun:=⟨"ring_bars",["plan", "period", "beats", "windows", "ring"],["plan", "period", "beats", "windows", "ring", "least", "most"],#[.asg (.t #[.n 5,.n 6]) (.call fG #[.v 0,.v 1,.v 2,.v 3,.v 4]),.ret (.cmp .Lt (.bin .Mult (.bin .FloorDiv (.v 6) (.v 1)) (.v 1)) (.v 5))]⟩
noncomputable def QH  : Fun:=⟨"entries_to",["plan", "work"],["plan", "work", "found", "s", "word", "one", "other", "low", "high"],#[.asg (.n 2) (.lst .nil),(.fr (.t #[.n 3,.t #[.n 4,.n 5,.n 6,.n 7,.n 8]]) (.enum (.ix (.v 0) (.int 1))) #[.ite (.cmp .Eq (.v 6) (.v 1)) #[.expr (.meth .append (.v 2) #[.tup #[.v 3,.int 1,.v 5]])] .nil,.ite (.cmp .Eq (.v 5) (.v 1)) #[.expr (.meth .append (.v 2) #[.tup #[.v 3,.neg (.int 1),.v 6]])] .nil]),.ret (.v 2)]⟩
def WI  : Ss:=#[(.wh (.cmp .Lt (.v 4) (.blt .len #[.v 3])) #[(.fr (.t #[.n 5,.n 6,.n 7]) (.e (.call wH #[.v 0,.ix (.v 3) (.v 4)])) #[(.ite (.cmp .NotIn (.v 7) (.v 3)) #[.setS (.v 2) (.v 7) (.tup #[.v 5,.v 6]),.expr (.meth .append (.v 3) #[.v 7])] .nil)]),.aug 4 .Add (.int 1)]),.ret (.v 2)]
def nI  : Fun:=⟨"forest_from",["plan", "roots"],["plan", "roots", "forest", "reached", "at", "s", "way", "start"],(.cons (.asg (.n 2) (.dic .nil)) (.cons (.asg (.n 3) (.mkL (.v 1))) (.cons (.asg (.n 4) (.int 0)) WI)))⟩
def hJ  : Ss:=#[(.wh (.cmp .In (.v 2) (.v 1)) #[.expr (.meth .append (.v 3) #[.ix (.v 1) (.v 2)]),.asg (.n 2) (.ix (.call sv #[.v 0,.ix (.v 1) (.v 2)]) (.int 1))]),.ret (.tup #[.v 3,.v 2])]
def bI  : Fun:=⟨"path_to_root",["plan", "forest", "work"],["plan", "forest", "work", "path"],(.cons (.asg (.n 3) (.lst .nil)) hJ)⟩
noncomputable def fJ  : Ss:=#[.ret (.mkT (.bin .Add (.bin .Add (.bin .Add (.lst #[.tup #[.v 2,.int 1]]) (.v 8)) (.v 12)) (.lc [Aa,Aa] (.t #[.n 0,.n 1]) (.e (.rev (.v 10) (.neg (.int 1)))) .nil (.tup #[.v 0,.neg (.v 1)]))))]
def oA  : Ss:=(.cons (.asg (.n 12) (.ife (.cmp .Eq (.v 9) (.v 11)) (.lst .nil) (.lst #[.tup #[.str "home",.v 9,.v 11]]))) fJ)
def eJ  : Ss:=(.cons (.wh (.bop ma (.v 8) #[.v 10,.cmp .Eq (.ix (.v 8) (.neg (.int 1))) (.ix (.v 10) (.neg (.int 1)))]) #[.expr (.meth .pop (.v 8) .nil),.expr (.meth .pop (.v 10) .nil)]) oA)
def dJ  : Ss:=(.cons (.asg (.t #[.n 8,.n 9]) (.call Uz #[.v 0,.v 1,.v 5])) (.cons (.asg (.t #[.n 10,.n 11]) (.call Uz #[.v 0,.v 1,.v 4])) eJ))
def ZH  : Fun:=⟨"closing_ring",["plan", "forest", "s"],["plan", "forest", "s", "word", "one", "other", "low", "high", "there", "there_root", "back", "back_root", "homes"],(.cons (.asg (.t #[.n 3,.n 4,.n 5,.n 6,.n 7]) (.ix (.ix (.v 0) (.int 1)) (.v 2))) dJ)⟩
def NI  : Fun:=⟨"closing_rings",["plan", "part", "forest"],["plan", "part", "forest", "used", "spans"],#[.asg (.n 3) (.lc [Aa,Aa] (.t #[.n 0,.n 1]) (.dv (.v 2)) .nil (.v 0)),.asgC 4 (.lc [Aa,da 0,da 1,da 3] (.n 0) (.r1 (.blt .len #[.ix (.v 0) (.int 1)])) #[.bop ma (.cmp .In (.ix (.ix (.ix (.v 1) (.int 1)) (.v 0)) (.int 1)) (.v 2)) #[.cmp .NotIn (.v 0) (.v 3)]] (.v 0)),.ret (.lc [Aa,da 0,da 2] (.n 0) (.e (.v 4)) .nil (.call eI #[.v 1,.v 2,.v 0]))]⟩
def mI  : Fun:=⟨"beats_along",["plan", "period", "beats", "forest", "lengths"],["plan", "period", "beats", "forest", "lengths", "found", "work", "s", "way", "nearer"],#[.asg (.n 5) (.mkL (.v 2)),(.fr (.t #[.n 6,.t #[.n 7,.n 8]]) (.di (.v 3)) #[.asg (.n 9) (.ix (.call sv #[.v 0,.tup #[.v 7,.v 8]]) (.int 1)),.setS (.v 5) (.v 6) (.bin .Mod (.bin .Sub (.ix (.v 5) (.v 9)) (.bin .Mult (.v 8) (.ix (.v 4) (.v 7)))) (.v 1))]),.ret (.mkT (.v 5))]⟩
def HH  : Ss:=#[(.fr (.n 3) (.r1 (.blt .len #[.ix (.v 0) (.int 0)])) #[(.ite (.cmp .NotIn (.v 3) (.v 2)) #[.asg (.n 4) (.blt .sorted #[.bin .Add (.lst #[.v 3]) (.mkD (.call Fv #[.v 0,.lst #[.v 3]]))]),.expr (.meth .extend (.v 2) #[.v 4]),.expr (.meth .append (.v 1) #[.mkT (.v 4)])] .nil)]),.ret (.mkT (.v 1))]
def jH  : Fun:=⟨"parts_of",["plan"],["plan", "parts", "placed", "work", "part"],(.cons (.asg (.n 1) (.lst .nil)) (.cons (.asg (.n 2) (.lst .nil)) HH))⟩
noncomputable def UF  : Fun:=⟨"staying",["part", "stays"],["part", "stays"],#[.ret (.lc [Aa,da 1] (.n 0) (.e (.v 0)) #[.cmp .In (.v 0) (.v 1)] (.v 0))]⟩
noncomputable def OH  : Ss:=#[.fr (.n 5) (.r1 (.bin .Sub (.bin .Sub (.blt .len #[.ix (.v 0) (.int 0)]) (.blt .len #[.v 2])) (.blt .len #[.v 3]))) #[.aug 4 .Mult (.v 1)],.ret (.v 4)]
def NH  : Ss:=(.cons (.asg (.n 4) (.int 1)) OH)
def TF  : Fun:=⟨"size_of",["plan", "period", "stays"],["plan", "period", "stays", "free", "size", "turn"],(.cons (.asgC 3 (.lc [Aa,da 2] (.n 0) (.e (.call Fz #[.v 0])) #[.not (.call Cz #[.v 0,.v 1])] (.v 0))) NH)⟩
def cI  : Fun:=⟨"refuse_great",["plan", "period", "stays"],["plan", "period", "stays"],#[.ite (.cmp .Gt (.call Bz #[.v 0,.v 1,.v 2]) (.g 3)) #[.never] .nil]⟩
noncomputable def nH  : Fun:=⟨"first_void",["windows"],["windows", "s", "least", "most"],#[.fr (.t #[.n 1,.t #[.n 2,.n 3]]) (.enum (.v 0)) #[.ite (.cmp .Lt (.v 3) (.v 2)) #[.ret (.v 1)] .nil],.ret .non]⟩
noncomputable def oH  : Fun:=⟨"first_wide",["forest", "windows"],["forest", "windows", "s", "way", "least", "most"],#[(.fr (.t #[.n 2,.n 3]) (.dv (.v 0)) #[.asg (.t #[.n 4,.n 5]) (.ix (.v 1) (.v 2)),.ite (.cmp .Lt (.v 4) (.v 5)) #[.ret (.v 2)] .nil]),.ret .non]⟩
def KE  : Fun:=⟨"halved",["windows", "s"],["windows", "s", "least", "most", "cut"],#[.asg (.t #[.n 2,.n 3]) (.ix (.v 0) (.v 1)),.asg (.n 4) (.bin .FloorDiv (.bin .Add (.v 2) (.v 3)) (.int 2)),(.ret (.tup #[.v 4,(.tup #[.call zq #[.v 0,.v 1,.tup #[.v 2,.v 4]],.call zq #[.v 0,.v 1,.tup #[.bin .Add (.v 4) (.int 1),.v 3]]])]))]⟩
noncomputable def kF  : Ss:=#[.ret (.tup #[.str "none",.tup #[.str "split",.v 7,.v 8,.ix (.v 10) (.int 0),.ix (.v 10) (.int 1)]])]
def jF  : Ss:=(.cons (.fr (.n 11) (.e (.v 9)) #[.asg (.t #[.n 12,.n 13]) (.call Fu #[.v 0,.v 1,.v 2,.v 3,.v 4,.v 11]),.ite (.cmp .Eq (.v 12) (.str "times")) #[.ret (.tup #[.str "times",.v 13])] .nil,.expr (.meth .append (.v 10) #[.v 13])]) kF)
def iF  : Ss:=(.cons (.asg (.n 10) (.lst .nil)) jF)
def gF  : Ss:=(.cons (.asg (.t #[.n 8,.n 9]) (.call wF #[.v 5,.v 7])) iF)
def mz  : Ss:=(.cons (.ite (.cmp .Is (.v 7) .non) #[.ret (.tup #[.str "times",.v 5])] .nil) gF)
def fF  : Ss:=(.cons (.asg (.n 7) (.call zH #[.v 3,.v 5])) mz)
def UD  : Fun:=⟨"seek",["plan", "period", "beats", "forest", "rings", "windows"],["plan", "period", "beats", "forest", "rings", "windows", "ring", "s", "cut", "sides", "cases", "side", "word", "found"],(.cons (.fr (.n 6) (.e (.v 4)) #[.ite (.call Qz #[.v 0,.v 1,.v 2,.v 5,.v 6]) #[.ret (.tup #[.str "none",.tup #[.str "ring",.v 6]])] .nil]) fF)⟩
noncomputable def nJ  : Ss:=#[.ret (.tup #[.str "times",.v 6])]
def iA  : Ss:=(.cons (.fr (.n 7) (.e (.call Fz #[.v 0])) #[.asg (.n 8) (.call Fv #[.v 0,.bop ua (.call Cz #[.v 7,.v 3]) #[.sl (.v 7) .no (.so (.int 1))]]),(.asg (.t #[.n 9,.n 10]) (.call Fu #[.v 0,.v 1,.v 6,.v 8,.call RI #[.v 0,.v 7,.v 8],.v 4])),.ite (.cmp .Eq (.v 9) (.str "none")) #[.ret (.tup #[.str "none",.v 10])] .nil,.asg (.n 6) (.call wI #[.v 0,.v 1,.v 6,.v 8,.lc [Aa,Aa] (.t #[.n 0,.n 1]) (.e (.v 10)) .nil (.v 0)])]) nJ)
def mJ  : Ss:=(.cons (.asg (.n 6) (.mkT (.lc [Aa,da 2,da 3] (.n 0) (.r1 (.blt .len #[.ix (.v 0) (.int 0)])) .nil (.ife (.cmp .In (.v 0) (.v 2)) (.ix (.v 1) (.v 0)) (.int 0))))) iA)
def gA  : Ss:=(.cons (.ite (.cmp .IsNot (.v 5) .non) #[(.ret (.tup #[.str "none",(.tup #[.str "ring",(.tup #[.tup #[.v 5,.int 1],.tup #[.v 5,.neg (.int 1)]])])]))] .nil) mJ)
def lJ  : Ss:=(.cons (.asg (.n 5) (.call yH #[.v 4])) gA)
def kJ  : Ss:=(.cons (.asg (.n 4) (.call Cv #[.v 0,.v 1])) lJ)
def KI  : Fun:=⟨"times_or_none_with",["plan", "period", "beats", "stays"],["plan", "period", "beats", "stays", "windows", "void", "times", "part", "forest", "word", "found"],(.cons (.expr (.call gI #[.v 0,.v 1,.v 3])) kJ)⟩
def QI  : Fun:=⟨"times_or_none",["plan", "period"],["plan", "period"],#[.ret (.call MI #[.v 0,.v 1,.tup .nil,.tup .nil])]⟩
noncomputable def xG  : Fun:=⟨"has_shape",["node", "word", "many"],["node", "word", "many"],#[(.ret (.bop ma (.blt .isi #[.v 0,.ty "tuple"]) #[.cmp .Eq (.blt .len #[.v 0]) (.v 2),.cmp .Eq (.ix (.v 0) (.int 0)) (.v 1)]))]⟩
def YI  : Ss:=#[.asg (.t #[.n 8,.n 9]) (.ix (.v 1) (.v 4)),.ret (.ife (.call yv #[.v 5,.v 8,.bin .Sub (.v 9) (.int 1)]) .non (.str "cut"))]
def XI  : Ss:=(.cons (.ite (.not (.call yv #[.v 4,.int 0,.bin .Sub (.blt .len #[.ix (.v 0) (.int 1)]) (.int 1)])) #[.ret (.str "span")] .nil) YI)
def pI  : Fun:=⟨"split_fault",["plan", "windows", "node"],["plan", "windows", "node", "word", "s", "cut", "lower", "upper", "least", "most"],(.cons (.asg (.t #[.n 3,.n 4,.n 5,.n 6,.n 7]) (.v 2)) XI)⟩
def sH  : Fun:=⟨"ring_fault",["plan", "period", "beats", "stays", "windows", "ring"],["plan", "period", "beats", "stays", "windows", "ring"],#[.ite (.not (.call dG #[.v 0,.v 3,.v 5])) #[.ret (.str "ring")] .nil,.ret (.ife (.call Qz #[.v 0,.v 1,.v 2,.v 4,.v 5]) .non (.str "bar"))]⟩
noncomputable def FW  : Ss:=#[.ret (.str "shape")]
def jJ  : Ss:=(.cons (.ite (.call Nz #[.v 5,.str "split",.int 5]) #[.ret (.call xW #[.v 0,.v 4,.v 5])] .nil) FW)
def rH  : Fun:=⟨"node_fault",["plan", "period", "beats", "stays", "windows", "node"],["plan", "period", "beats", "stays", "windows", "node"],(.cons (.ite (.call Nz #[.v 5,.str "ring",.int 2]) #[.ret (.call UV #[.v 0,.v 1,.v 2,.v 3,.v 4,.ix (.v 5) (.int 1)])] .nil) jJ)⟩
def ZI  : Ss:=#[.asg (.t #[.n 2,.n 3,.n 4,.n 5,.n 6]) (.v 1),.asg (.t #[.n 7,.n 8]) (.ix (.v 0) (.v 3)),(.ret (.lst #[.tup #[.v 5,.call zq #[.v 0,.v 3,.tup #[.v 7,.v 4]]],.tup #[.v 6,.call zq #[.v 0,.v 3,.tup #[.bin .Add (.v 4) (.int 1),.v 8]]]]))]
def Ev  : Fun:=⟨"split_sides",["windows", "node"],["windows", "node", "word", "s", "cut", "lower", "upper", "least", "most"],(.cons (.ite (.cmp .NotEq (.ix (.v 1) (.int 0)) (.str "split")) #[.ret (.lst .nil)] .nil) ZI)⟩
noncomputable def aI  : Fun:=⟨"look_through",["thing", "start", "fault_of", "sides_of"],["thing", "start", "fault_of", "sides_of", "waiting", "at", "node", "held", "word"],#[.asg (.n 4) (.lst #[.tup #[.v 0,.v 1]]),.asg (.n 5) (.int 0),(.wh (.v 4) #[.asg (.t #[.n 6,.n 7]) (.meth .pop (.v 4) .nil),.asg (.n 8) (.app 2 #[.v 7,.v 6]),.ite (.cmp .IsNot (.v 8) .non) #[.never] .nil,.expr (.meth .extend (.v 4) #[.rev (.app 3 #[.v 7,.v 6]) (.neg (.int 1))]),.aug 5 .Add (.int 1)]),.ret (.bl ma)]⟩
noncomputable abbrev OW  : Nat:=57
noncomputable abbrev MW  : Nat:=58
noncomputable def II  : Ss:=#[.asg (.t #[.n 4,.n 5]) (.meth .pop (.v 2) .nil),.asg (.n 6) (.call 58 #[.v 5,.v 4,.v 7,.v 8,.v 9,.v 10]),.ite (.cmp .IsNot (.v 6) .non) #[.never] .nil,.expr (.meth .extend (.v 2) #[.rev (.call 40 #[.v 5,.v 4]) (.neg (.int 1))]),.aug 3 .Add (.int 1)]
def jA  : Fun:=⟨"lets_none_with",["plan", "period", "beats", "stays", "thing"],["plan", "period", "beats", "stays", "thing", "fault_of"],#[(.ret (.call 57 #[.v 4,.call Cv #[.v 0,.v 1],.non,.non,.non,.non,.non,.v 0,.v 1,.v 2,.v 3]))]⟩
def qA  : Fun:=⟨"lt@lets_none_with",["thing@", "start@", "waiting@", "at@", "node@", "held@", "word@", "plan", "period", "beats", "stays"],["thing@", "start@", "waiting@", "at@", "node@", "held@", "word@", "plan", "period", "beats", "stays"],#[.asg (.n 2) (.lst #[.tup #[.v 0,.v 1]]),.asg (.n 3) (.int 0),.wh (.v 2) II,.ret (.bl ma)]⟩
def pA  : Fun:=⟨"fault_of@lets_none_with",["windows", "node", "plan", "period", "beats", "stays"],["windows", "node", "plan", "period", "beats", "stays"],#[.ret (.call CH #[.v 2,.v 3,.v 4,.v 5,.v 0,.v 1])]⟩
def iJ  : dC:=⟨335,41,57,58,40,[0,1,2,3],5, "fault_of",["windows", "node"], "split_sides",(.v 4),(.call Cv (.cons (.v 0) (.cons (.v 1) .nil)))⟩
def EG  : Fun:=⟨"lets_none",["plan", "period", "thing"],["plan", "period", "thing"],#[.ret (.call GW #[.v 0,.v 1,.tup .nil,.tup .nil,.v 2])]⟩
noncomputable def iH  : Fun:=⟨"_law_feed",["_law_script"],["_law_script"],#[(.ret (.dic #[.str "cells",.bin .Add (.mkL (.sl (.v 0) .no (.so (.int 63)))) (.bin .Mult (.lst #[.int 0]) (.blt .int #[.cmp .Eq (.blt .len #[.v 0]) (.int 0)])),.str "at",.int 0,.str "left",.int 0,.str "turn",.int 0]))]⟩
noncomputable def gH  : Fun:=⟨"_law_draw",["_law_feed_here", "_law_many"],["_law_feed_here", "_law_many", "_law_cell", "_law_mixed", "_law_found"],#[.setS (.v 0) (.str "turn") (.bin .Add (.ix (.v 0) (.str "turn")) (.int 1)),(.ite (.cmp .Eq (.ix (.v 0) (.str "left")) (.int 0)) #[.asg (.n 2) (.ix (.ix (.v 0) (.str "cells")) (.bin .Mod (.ix (.v 0) (.str "at")) (.blt .len #[.ix (.v 0) (.str "cells")]))),.setS (.v 0) (.str "at") (.bin .Add (.ix (.v 0) (.str "at")) (.int 1)),.ite (.cmp .Lt (.v 2) (.bin .Pow (.int 10) (.int 18))) #[.asg (.n 3) (.bin .Mod (.bin .Mult (.bin .Add (.bin .Mod (.v 2) (.int 2147483629)) (.bin .Mult (.int 1019) (.ix (.v 0) (.str "turn")))) (.int 48271)) (.int 2147483647)),.asg (.n 3) (.bin .Mod (.bin .Mult (.bin .Add (.bin .FloorDiv (.v 3) (.int 13)) (.bin .Mult (.int 43) (.ix (.v 0) (.str "turn")))) (.int 69621)) (.int 2147483587)),.ret (.bin .Mod (.bin .FloorDiv (.v 3) (.int 11)) (.v 1))] .nil,.setS (.v 0) (.str "left") (.v 2)] .nil),.asg (.n 4) (.bin .Mod (.ix (.v 0) (.str "left")) (.v 1)),.setS (.v 0) (.str "left") (.bin .FloorDiv (.ix (.v 0) (.str "left")) (.v 1)),.ret (.v 4)]⟩
def pH  : Fun:=⟨"_law_number",["_law_feed_here", "_law_cycle"],["_law_feed_here", "_law_cycle"],#[(.ret (.ix (.lst #[.int 0,.call We #[.v 0,.v 1],.call We #[.v 0,.v 1],.call We #[.v 0,.bin .Add (.bin .Mult (.int 3) (.v 1)) (.int 1)]]) (.call We #[.v 0,.int 4])))]⟩
def oI  : Fun:=⟨"_law_fitting",["_law_feed_here", "_law_beats", "_law_cycle"],["_law_feed_here", "_law_beats", "_law_cycle", "_law_one", "_law_other", "_law_gap", "_law_low", "_law_length"],#[(.par [3,4] #[.call We #[.v 0,.blt .len #[.v 1]],.call We #[.v 0,.blt .len #[.v 1]]]),.asg (.n 5) (.bin .Mod (.bin .Sub (.ix (.v 1) (.v 4)) (.ix (.v 1) (.v 3))) (.v 2)),(.ite (.cmp .Eq (.call We #[.v 0,.int 3]) (.int 0)) #[(.ret (.tup #[.str "apart",.v 3,.v 4,.call We #[.v 0,.bin .Add (.v 5) (.int 1)],.call We #[.v 0,.bin .Add (.bin .Sub (.v 2) (.v 5)) (.int 1)]]))] .nil),.asg (.n 6) (.call Bv #[.v 0,.v 2]),.asg (.n 7) (.bin .Add (.v 6) (.bin .Mod (.bin .Sub (.v 5) (.v 6)) (.v 2))),.ret (.tup #[.str "span",.v 3,.v 4,.v 6,.bin .Add (.v 7) (.ix (.lst #[.int 0,.int 0,.int 1,.call We #[.v 0,.v 2]]) (.call We #[.v 0,.int 4]))])]⟩
noncomputable def UH  : Ss:=#[(.ret (.tup #[.sl (.tup #[.str "a",.str "ab",.str "b",.str "ba",.str "abc",.str "z",.str "n",.str "at"]) .no (.so (.v 1)),.mkT (.v 5)]))]
def gJ  : Ss:=#[.ite (.cmp .Lt (.v 7) (.int 3)) #[.expr (.meth .append (.v 5) #[.call xI #[.v 0,.v 4,.v 3]])] #[.ite (.cmp .Lt (.v 7) (.int 5)) #[.expr (.meth .append (.v 5) #[.tup #[.str "span",.bin .Mod (.v 6) (.v 1),.v 9,.v 8,.bin .Add (.v 8) (.call We #[.v 0,.bin .Add (.int 1) (.bin .FloorDiv (.v 3) (.int 2))])]])] #[.expr (.meth .append (.v 5) #[.tup #[.str "apart",.v 9,.bin .Mod (.v 6) (.v 1),.v 8,.call Bv #[.v 0,.v 3]]])]]]
def BG  : Fun:=⟨"_law_tight",["_law_feed_here", "_law_works", "_law_most", "_law_cycle"],["_law_feed_here", "_law_works", "_law_most", "_law_cycle", "_law_beats", "_law_spans", "_law_k", "_law_way", "_law_low", "_law_other"],(.cons (.asgC 4 (.lc [Aa,da 0,da 3] (.n 0) (.r1 (.v 1)) .nil (.call We #[.v 1,.v 2]))) (.cons (.asg (.n 5) (.lst .nil)) (.cons (.fr (.n 6) (.r1 (.bin .Add (.int 1) (.call We #[.v 0,.v 2]))) (.cons (.asg (.n 7) (.call We #[.v 0,.int 6])) (.cons (.asg (.n 8) (.call Bv #[.v 0,.v 3])) (.cons (.asg (.n 9) (.bin .Mod (.bin .Add (.bin .Add (.v 6) (.int 1)) (.call We #[.v 0,.v 1])) (.v 1))) gJ)))) UH)))⟩
noncomputable def SF  : Fun:=⟨"_law_end",["_law_cycle", "_law_span"],["_law_cycle", "_law_span", "_law_top"],#[.asg (.n 2) (.ife (.cmp .Eq (.ix (.v 1) (.int 0)) (.str "span")) (.ix (.v 1) (.int 4)) (.bin .Sub (.v 0) (.ix (.v 1) (.int 4)))),.ret (.blt .min #[.v 2,.bin .Sub (.bin .Add (.ix (.v 1) (.int 3)) (.v 0)) (.int 1)])]⟩
def EI  : Ss:=#[(.fr (.n 4) (.r1 (.blt .len #[.ix (.v 0) (.int 1)])) #[.asg (.t #[.n 5,.n 6,.n 7,.n 8,.n 9]) (.ix (.ix (.v 0) (.int 1)) (.v 4)),.asg (.n 10) (.bin .Mod (.bin .Sub (.bin .Sub (.ix (.v 2) (.v 7)) (.ix (.v 2) (.v 6))) (.v 8)) (.v 1)),.ite (.cmp .Gt (.bin .Add (.v 8) (.v 10)) (.call eG #[.v 1,.ix (.ix (.v 0) (.int 1)) (.v 4)])) #[.expr (.meth .append (.v 3) #[.v 4])] .nil]),.ret (.v 3)]
def zG  : Fun:=⟨"_law_lacks",["_law_plan", "_law_cycle", "_law_beats"],["_law_plan", "_law_cycle", "_law_beats", "_law_found", "_law_s", "_law_word", "_law_one", "_law_other", "_law_low", "_law_high", "_law_gap"],(.cons (.asg (.n 3) (.lst .nil)) EI)⟩
def AG  : Fun:=⟨"_law_named",["_law_feed_here", "_law_plan", "_law_way"],["_law_feed_here", "_law_plan", "_law_way", "_law_some"],#[.asg (.n 3) (.lst #[.str "z",.str "at",.str "n",.str "none",.str "abc",.str "ba"]),(.ite (.cmp .Gt (.v 2) (.int 0)) #[(.asg (.n 3) (.ix (.lst #[.lst #[.str "a",.str "ab",.str "b",.str "z"],.lst #[.str "b",.str "z",.str "a",.str "at"],.lst #[.str "ab",.str "a",.str "n",.str "b"]]) (.call We #[.v 0,.int 3])))] .nil),(.ret (.tup #[.mkT (.sl (.v 3) .no (.so (.blt .len #[.ix (.v 1) (.int 0)]))),.ix (.v 1) (.int 1)]))]⟩
noncomputable def XH  : Ss:=#[.ret (.tup #[.v 2,.mkT (.v 3)])]
def WH  : Ss:=(.cons (.fr (.t #[.n 4,.n 5,.n 6,.n 7,.n 8]) (.e (.ix (.v 1) (.int 1))) #[(.expr (.meth .append (.v 3) #[(.tup #[.v 4,.meth .index (.v 2) #[.ix (.ix (.v 1) (.int 0)) (.v 5)],.meth .index (.v 2) #[.ix (.ix (.v 1) (.int 0)) (.v 6)],.v 7,.v 8])]))]) XH)
def VH  : Ss:=(.cons (.asgC 3 (.lc [Aa] (.n 0) (.e (.ix (.v 0) (.int 1))) .nil (.v 0))) WH)
def CG  : Fun:=⟨"_law_whole",["_law_one", "_law_other"],["_law_one", "_law_other", "_law_names", "_law_spans", "_law_word", "_law_start", "_law_end_here", "_law_low", "_law_high"],(.cons (.asg (.n 2) (.bin .Add (.ix (.v 0) (.int 0)) (.mkT (.lc [Aa,da 0] (.n 0) (.e (.ix (.v 1) (.int 0))) #[.cmp .NotIn (.v 0) (.ix (.v 1) (.int 0))] (.v 0))))) VH)⟩
noncomputable def ME  : Fun:=⟨"_law_of",["_law_whole_here", "_law_beats", "_law_one"],["_law_whole_here", "_law_beats", "_law_one"],#[.ret (.mkT (.lc [Aa,da 0,da 1] (.n 0) (.e (.ix (.v 2) (.int 0))) .nil (.ix (.v 2) (.meth .index (.ix (.v 1) (.int 0)) #[.v 0]))))]⟩
def jI  : Ss:=#[(.fr (.n 5) (.r1 (.v 1)) #[.asg (.n 6) (.mkT (.lc [Aa,da 1,da 2,da 3,da 5] (.n 0) (.r1 (.blt .len #[.v 2])) .nil (.bin .Mod (.bin .Add (.ix (.v 2) (.v 0)) (.bin .Mult (.v 4) (.blt .int #[.cmp .In (.v 0) (.v 3)]))) (.v 1)))),.ite (.cmp .Eq (.call Av #[.v 0,.v 1,.v 6]) (.lst .nil)) #[.expr (.meth .append (.v 4) #[.v 5])] .nil]),.ret (.v 4)]
def qH  : Fun:=⟨"_law_shifts",["_law_plan", "_law_cycle", "_law_beats", "_law_works"],["_law_plan", "_law_cycle", "_law_beats", "_law_works", "_law_found", "_law_by", "_law_some"],(.cons (.asg (.n 4) (.lst .nil)) jI)⟩
def Kv  : Ss:=#[.ret (.ife (.bop ua (.cmp .Eq (.ix (.v 4) (.int 0)) (.str "none")) #[.cmp .Eq (.call Av #[.v 3,.v 2,.ix (.v 4) (.int 1)]) (.lst .nil)]) (.ix (.v 4) (.int 0)) (.str ""))]
def qJ  : Ss:=#[.ite (.bop ua (.cmp .NotEq (.v 8) (.call xF #[.v 3,.ix (.v 4) (.int 1),.v 6])) #[.cmp .IsNot (.call Xy #[.v 6,.v 2,.v 8]) .non]) #[.ret (.str "")] .nil]
def pJ  : Ss:=(.cons (.asg (.n 8) (.call lH #[.v 0,.v 1,.ix (.v 4) (.int 1),.v 5])) qJ)
def Jv  : Ss:=#[.ite (.cmp .Eq (.ix (.v 4) (.int 0)) (.str "times")) pJ .nil]
def oJ  : Ss:=#[.ite (.bop ua (.cmp .NotEq (.ix (.v 4) (.int 0)) (.str "none")) #[.bop ma (.cmp .Eq (.v 5) (.int 0)) #[.cmp .IsNot (.call KG #[.v 3,.v 2,.ix (.v 7) (.int 1)]) (.bl ma)]]) #[.ret (.str "")] .nil]
def fA  : Ss:=(.cons (.ite (.cmp .Eq (.ix (.v 7) (.int 0)) (.str "none")) oJ .nil) Jv)
def dA  : Ss:=(.cons (.asg (.n 7) (.call uo #[.v 6,.v 2])) fA)
def bA  : Ss:=(.cons (.fr (.t #[.n 5,.n 6]) (.e (.tup #[.tup #[.int 0,.v 0],.tup #[.int 1,.v 1]])) dA) Kv)
def HI  : Ss:=(.cons (.asg (.n 4) (.call uo #[.v 3,.v 2])) bA)
def GI  : Ss:=(.cons (.ite (.cmp .NotEq (.blt .repr #[.v 3]) (.blt .repr #[.call Pz #[.v 0,.v 1]])) #[.ret (.str "")] .nil) HI)
def aJ  : Fun:=⟨"_law_pair_right",["_law_one", "_law_other", "_law_cycle"],["_law_one", "_law_other", "_law_cycle", "_law_whole_here", "_law_told", "_law_side", "_law_plan", "_law_alone", "_law_beats"],(.cons (.asg (.n 3) (.call SI #[.v 0,.v 1])) GI)⟩
noncomputable def MH  : Ss:=#[.ite (.cmp .NotEq (.blt .repr #[.tup #[.v 6,.v 7]]) (.v 8)) #[.ret (.bl ua)] .nil]
def LH  : Ss:=(.cons (.ite (.cmp .NotEq (.blt .repr #[.call LG #[.v 9,.v 4,.v 12,.v 13]]) (.blt .repr #[.call BH #[.v 9,.v 4,.v 12,.v 13]])) #[.ret (.bl ua)] .nil) MH)
def bH  : Ss:=(.cons (.asg (.n 13) (.mkT (.lc [Aa,da 1,da 3] (.n 0) (.r1 (.blt .len #[.v 12])) #[.bop ua (.cmp .GtE (.v 0) (.v 2)) #[.cmp .Eq (.call We #[.v 1,.int 3]) (.int 0)]] (.v 0)))) LH)
def Iv  : Ss:=(.cons (.asg (.n 12) (.mkT (.lc [Aa,da 1,da 4] (.n 0) (.e (.ix (.v 9) (.int 0))) .nil (.call We #[.v 1,.v 2])))) bH)
noncomputable def DI  : Ss:=#[.ite (.bop ma (.cmp .Eq (.v 5) (.int 0)) #[.cmp .NotEq (.cmp .Eq (.v 10) (.str "times")) (.cmp .Eq (.v 11) (.lst #[.str "times",.str "times"]))]) #[.ret (.bl ua)] .nil]
def CI  : Ss:=(.cons (.asgC 11 (.lc [Aa,da 4] (.n 0) (.e (.tup #[.v 6,.v 7])) .nil (.ix (.call uo #[.v 0,.v 1]) (.int 0)))) DI)
def BI  : Ss:=(.cons (.ite (.bop ua (.cmp .Eq (.v 10) (.str "")) #[.cmp .NotEq (.call kA #[.v 7,.v 6,.v 4]) (.v 10)]) #[.ret (.bl ua)] .nil) CI)
def AI  : Ss:=(.cons (.asg (.n 10) (.call kA #[.v 6,.v 7,.v 4])) BI)
def Tz  : Ss:=(.cons (.ite (.cmp .LtE (.call Bz #[.v 9,.v 4,.tup .nil]) (.int 300)) AI .nil) Iv)
def aH  : Ss:=(.cons (.asg (.n 9) (.call Pz #[.v 6,.v 7])) Tz)
def ZG  : Ss:=(.cons (.asg (.n 8) (.blt .repr #[.tup #[.v 6,.v 7]])) aH)
def YG  : Ss:=(.cons (.asg (.n 7) (.call IG #[.v 1,(.call Oz #[.v 1,.bin .Add (.int 1) (.call We #[.v 1,.v 3]),.int 4,.v 4]),.v 5])) ZG)
def XG  : Ss:=(.cons (.asg (.n 6) (.call Oz #[.v 1,.v 3,.int 4,.v 4])) YG)
def WG  : Ss:=(.cons (.asg (.n 5) (.call We #[.v 1,.int 3])) XG)
def VG  : Ss:=(.cons (.asg (.n 4) (.bin .Add (.int 1) (.call We #[.v 1,.ix (.lst #[.int 12,.int 6,.int 4]) (.bin .Sub (.v 3) (.int 1))]))) WG)
def Sz  : Ss:=(.cons (.asg (.n 3) (.bin .Add (.int 1) (.call We #[.v 1,.int 3]))) VG)
def NE  : Ss:=#[.fr (.n 2) (.r1 (.int 2)) Sz,.ret (.bl ma)]
def CC  : Fun:=⟨"law",["_law_script"],["_law_script", "_law_feed_here", "_law_k", "_law_works", "_law_cycle", "_law_way", "_law_one", "_law_other", "_law_kept", "_law_whole_here", "_law_word", "_law_words", "_law_beats", "_law_mine"],(.cons (.asg (.n 1) (.call MG #[.v 0])) NE)⟩
def T  : Le:=⟨[Ez,yG,vz,HG,tH,qI,DG,KF,bJ,OI,eH,dI,GG,TV,fH,pG,RF,RH,VF,FG,QH,nI,bI,ZH,NI,mI,jH,UF,TF,cI,nH,oH,KE,UD,KI,QI,xG,pI,sH,rH,Ev,aI,jA,EG,iH,gH,pH,oI,BG,SF,zG,AG,CG,ME,qH,aJ,CC],[(.int 24),(.int 8),(.int 60),(.int 300)],["MOST_SPANS", "MOST_NAMES", "MOST_ENTRIES", "MOST_SIZE"],[],[qA,pA],[(42,iJ)]⟩
def La  (i:Nat):Qa:=PySem.Challenge.pw_beatplans_k97_whole_laid_together.main.body.getD i (.Pass ⟨0,0,0,0⟩)
noncomputable abbrev s_is_whole  : Qa:=La 7
noncomputable abbrev s_is_within  : Qa:=La 8
noncomputable abbrev s_top_of  : Qa:=La 9
noncomputable abbrev s_window_of  : Qa:=La 10
noncomputable abbrev s_windows_of  : Qa:=La 11
noncomputable abbrev s_with_window  : Qa:=La 12
noncomputable abbrev s_length_of  : Qa:=La 13
noncomputable abbrev s_unkept  : Qa:=La 14
noncomputable abbrev s_names_together  : Qa:=La 16
noncomputable abbrev s_laid_together  : Qa:=La 17
noncomputable abbrev s_beats_of  : Qa:=La 18
noncomputable abbrev s_some_shifted  : Qa:=La 19
noncomputable abbrev s_shifts_of  : Qa:=La 20
noncomputable abbrev s_is_work_of  : Qa:=La 23
noncomputable abbrev s_is_entry  : Qa:=La 24
noncomputable abbrev s_ends_of  : Qa:=La 25
noncomputable abbrev s_is_ring  : Qa:=La 26
noncomputable abbrev s_entry_sums  : Qa:=La 27
noncomputable abbrev s_sums_of  : Qa:=La 28
noncomputable abbrev s_ring_bars  : Qa:=La 29
noncomputable abbrev s_entries_to  : Qa:=La 31
noncomputable abbrev s_forest_from  : Qa:=La 32
noncomputable abbrev s_path_to_root  : Qa:=La 33
noncomputable abbrev s_closing_ring  : Qa:=La 34
noncomputable abbrev s_closing_rings  : Qa:=La 35
noncomputable abbrev s_beats_along  : Qa:=La 36
noncomputable abbrev s_parts_of  : Qa:=La 38
noncomputable abbrev s_staying  : Qa:=La 41
noncomputable abbrev s_size_of  : Qa:=La 42
noncomputable abbrev s_refuse_great  : Qa:=La 43
noncomputable abbrev s_first_void  : Qa:=La 44
noncomputable abbrev s_first_wide  : Qa:=La 45
noncomputable abbrev s_halved  : Qa:=La 46
noncomputable abbrev s_seek  : Qa:=La 47
noncomputable abbrev s_times_or_none_with  : Qa:=La 48
noncomputable abbrev s_times_or_none  : Qa:=La 49
noncomputable abbrev s_has_shape  : Qa:=La 51
noncomputable abbrev s_split_fault  : Qa:=La 52
noncomputable abbrev s_ring_fault  : Qa:=La 53
noncomputable abbrev s_node_fault  : Qa:=La 54
noncomputable abbrev s_split_sides  : Qa:=La 55
noncomputable abbrev s_look_through  : Qa:=La 56
noncomputable abbrev s_lets_none_with  : Qa:=La 58
noncomputable abbrev s_lets_none  : Qa:=La 59
noncomputable abbrev s_law_feed  : Qa:=La 61
noncomputable abbrev s_law_draw  : Qa:=La 62
noncomputable abbrev s_law_number  : Qa:=La 63
noncomputable abbrev s_law_fitting  : Qa:=La 64
noncomputable abbrev s_law_tight  : Qa:=La 65
noncomputable abbrev s_law_end  : Qa:=La 66
noncomputable abbrev s_law_lacks  : Qa:=La 67
noncomputable abbrev s_law_named  : Qa:=La 68
noncomputable abbrev s_law_whole  : Qa:=La 69
noncomputable abbrev s_law_of  : Qa:=La 70
noncomputable abbrev s_law_shifts  : Qa:=La 71
noncomputable abbrev s_law_pair_right  : Qa:=La 72
noncomputable abbrev s_law  : Qa:=La 73
end
local macro_rules
 |`(tactic| simp! only[$xs,*])=>do
  let ys <- ("eX WW D_non D_bl D_int D_str fX XW D_ty T_ty D_bin T_bin D_neg D_cmp T_cmp D_cmp2 T_cmp2 D_tup D_lst D_dic D_ix T_ix D_sl D_rev D_call T_call D_blt T_blt D_meth D_lc D_mkD T_mkD D_mkL D_mkT D_not T_not D_ife T_ife D_bop0 D_and D_or T_and T_or O_no O_so A_nil A_cons C_nil C_cons P_nil P_cons bX I_r1 I_enum F_nil F_cons I_dv I_di S_expr S_asg S_asgC S_setS S_par S_aug S_ite S_fr S_ret B_nil B_cons V_add V_cat V_catL V_sub V_mul V_mulL V_mulT V_fdiv V_mod V_pow V_neg W_eqI W_neI W_eqS W_neS W_lt W_le W_gt W_ge W_neT W_eqT W_eqT0 W_neL W_eqL W_in W_nin W_is W_isn Y_bl Y_non Y_int Y_tup J_tup X_tup F_len F_repr F_min F_sum F_all F_sorted F_int F_isi X_str V_addB V_subB V_subI F_lenT F_min2 F_max2 F_intB F_intI dX cX G_nil G_cons sl_0 sl_s dr_0 dr_s pk_nil pk_none pk_some K_str K_int fx_cells fx_at fx_left fx_turn fs_at fs_left".splitOn " ").toArray.mapM λs=>`(VW| $(Lean.mkIdent s.toName):ident)
  `(tactic| try simp only[He,Go,List.cons_append,Kg,bf,Do,List.set_cons_zero,List.set_cons_succ,List.zip_cons_cons,List.zip_nil_right,List.zip_nil_left,WA,List.foldl_nil,List.getElem?_cons_zero,MK,Option.join_some,ite_true,ite_false,Qo,zn,$ys:simpLemma,*,$xs,*])

def af    (hf:Fd G f c)(h0:0<m)(h1:m<1073741824)(q:∀r Z ,0<=r->r<m->Fd Z f c->Sm f G Z->Q (.int r) Z):Va T (k+1) We [.loc f,.int m] G Q X:=by
 obtain⟨y,a,l,t,Y,R,hn⟩:=hf.ex;have F:∀(z J j O:Int),Q (.int (z%m)) (Sc G f (.dK (Dd c J j O))):=λz J j O=>q _ _ (Ej z (by lia)) (Hj z h0) (Fd.put ⟨rfl⟩ Y R hn) Sm.put
 have xa:0<y.length:=List.length_pos_iff.mpr hn;have gc:∀I,Sc G f (.dK I) c=da (.lst (y.map .int)):=λI=>by rw[Lh (λz=>by rw[z,Y]at R;cases R)];exact R
 obtain⟨z,hz,ez⟩:=yu (l:=y) (r:=a%y.length) (Ej _ (by lia)) (Hj _ (by lia))
 refine⟨rfl,?_⟩;simp! only[gH,Ub,Db,ix_d Y rD,jy Y,Vm,NP,zy,true_and,Pn (gc _),Ab,ix_l (gc _) ((Vn U.int y _).trans (congrArg _ ez))];have cut:∀(j J O:Int),(0<m/\0<m/\m<1073741824/\Q (.int (j%m)) (Sc G f (.dK (Dd c J (j/m) O)))):=λj J O=>⟨h0,h0,by lia,F _ _ _ _⟩
 by_cases hl:l=0
 ·rw[if_pos (by simpa using hl)]
  refine⟨by lia,by constructor<;>decide,?_⟩
  by_cases hc:z<10 ^ El 18
  ·rw[if_pos (by simpa using hc)]
   exact⟨by decide,.inl (by decide),.inr (by decide),by decide,by decide,by decide,.inl (by decide),.inr (by decide),by decide,by decide,by decide,h0,F _ _ _ _⟩
  ·rw[if_neg (by simpa using hc)]
   exact cut _ _ _
 ·rw[if_neg (by simpa using hl)]
  exact cut _ _ _
def DS   {ns:List Int}(Y:G a=da (.fro (ns.map .int)))(hl:ns.length<=63)(q:∀f c R ,Fd R f c->Q (.loc f) R):Va T (k+1) MG [.loc a] G Q X:=by
 have y:(cut ns Aa (da 63)).length<=63:=by rw[show(63:Int)=((63:Nat):Int)from rfl,Rn];simp;lia
 refine⟨rfl,?_⟩;simp! only[iH,Ub,Db,sl_f Y,UQ];intro p1 G1 n1;rw[it_l n1.at];intro p2 G2 O;refine⟨by decide,λp3 G3 J=>?_⟩
 simp! only[KN (J.sa _ _ (O.sa _ _ (n1.sa _ _ Y)))];obtain⟨j,ez,lz,hz⟩:∃j:List Int,(Db (El (if decide (((ns.map U.int).length:Int)=0)=ma then 1 else 0)) [U.int 0]).flatten=j.map U.int/\j.length<=1/\(ns=[]->j≠[]):=by
  by_cases h:ns=[]
  ·subst h;exact⟨[0],rfl,by decide,λ_=>by simp⟩
  ·refine⟨[],?_,by decide,λz=>absurd z h⟩
   rw[if_neg (by simpa using h)]
   rfl
 refine⟨_,J.at,by split<;>decide,by split<;>decide,by split<;>decide,λp4 G4 I=>?_⟩
 rw[ez]at I;refine⟨_,_,I.sa _ _ (J.sa _ _ O.at),I.at,?_,λp5 G5 Z=>⟨by decide,λp6 G6 F=>?_⟩⟩
 ·rw[Ab,Ab];exact Rb (Tq y lz) (by decide:63+1<=db)
 rw[qO]at F;rw[<- Ud]at Z;refine q _ p5 _ ⟨_,0,0,0,F.at,F.sa _ _ Z.at,λz=>?_⟩;obtain⟨z1,z2⟩:=List.append_eq_nil_iff.mp z;refine hz ?_ z2;rw[show(63:Int)=((63:Nat):Int)from rfl,Rn]at z1;cases ns with
 |nil=>rfl
 |cons _ _=>cases z1

structure Nm (x:Str):Prop where
 l8:x.length<=8
 ch:∀c∈x.cps.toList,c<128
structure Vb where
 w:Str
 o:Nat
 t:Nat
 lo:Int
 hi:Int
noncomputable def Vb.u  (s:Vb):U:=.tup [.str s.w,.int s.o,.int s.t,.int s.lo,.int s.hi]
structure Vb.Ok (W:Nat)(s:Vb):Prop where
 w:s.w = "apart" \/ s.w = "span"
 o:s.o<W
 t:s.t<W
 lo:0<=s.lo/\s.lo<=9999
 hi:0<=s.hi/\s.hi<=9999
noncomputable def Ec  (l:List Int):U:=.tup (l.map .int)
def XE  {x:Str}(h:x = "apart" \/ x = "span"):x.length<=8/\∀c∈x.cps.toList,c<128:=by
 rcases h with rfl|rfl
 ·exact⟨by decide +kernel,by decide +kernel⟩
 ·exact⟨by decide +kernel,by decide +kernel⟩
def RO   (h:-100000<=i/\i<=100000):Ft 1921 0 (.int i):=Ft.int (Ug (show i.natAbs<=100000 by lia) (by decide))
def Vb.Ok.ft   {s:Vb}(h:s.Ok W)(j:W<=8):Ft 10000 1 s.u:=by
 have:=h.o;have:=h.t;have:=h.lo;have:=h.hi;refine Ft.tup (n:=1921) (m:=5) (Jb _) (λu hu=>?_) (by decide)
 simp only[Mc,Qg,or_false]at hu;rcases hu with rfl|rfl|rfl|rfl|rfl
 ·exact(Ft.str (m:=8) (XE h.w).1 (XE h.w).2).mono (by decide) (Jb _)
 all_goals exact RO (by lia)

def Ta  (xs:List Str)(ss:List Vb):U:=.tup [.tup (xs.map .str),.tup (ss.map Vb.u)]

def Gz    (hf:Fd G f c)(h1:1<=P)(h2:P<=600)(q:∀z y ,0<=z->z<=1801->Fd y f c->Sm f G y->Q (.int z) y):Va T (k+2) Bv [.loc f,.int P] G Q X:=by
 refine⟨rfl,?_⟩;simp! only[pH,Ub,Db];refine af hf (by lia) (by lia) λr1 G1 a1 b1 f1 s1=>af f1 (by lia) (by lia) λr2 G2 a2 b2 O s2=>⟨.inl (by decide),af O (by lia) (by lia) λr3 G3 a3 b3 I s3=>⟨by decide,λp G4 j=>af (I.new j) (by decide) (by decide) λr5 G5 R Y J F=>?_⟩⟩
 refine sF [0,r1,r2,r3] (F _ _ (I.away j).1 j.at) R Y λz Z=>?_;have:0<=z/\z<=1801:=by simp only[Mc,Qg,or_false]at Z;lia
 exact q z _ this.1 this.2 J (((s1.trans (s2.trans s3)).nw j).trans F)
def cV     {bs:List Int}(hf:Fd G f c)(h1:1<=P)(h2:P<=600)(gb:G pb=da (.lst (bs.map .int)))(hb:pb≠f)(bl:bs.length=W)(w0:0<W)(w8:W<=8)(q:∀(s:Vb) G' ,s.Ok W->(s.w = "span" -> s.lo<=s.hi)->Fd G' f c->Sm f G G'->Q s.u G'):Va T (k+3) xI [.loc f,.loc pb,.int P] G Q X:=by
 refine⟨rfl,?_⟩;simp! only[oI,Ub,Db,Pn gb,Ab,bl];refine af hf (by lia) (by lia) λo' Ga aa ba fa sa=>?_
 have ga:=sa _ _ hb gb;simp! only[Pn ga,Ab,bl];refine af fa (by lia) (by lia) λt' Gb ab bb fb sb=>?_
 have I:=sb _ _ hb ga;obtain⟨o,rfl⟩:=Gi aa;obtain⟨t,rfl⟩:=Gi ab;obtain⟨x,hx,ex⟩:=yu (l:=bs) (r:=(t:Int)) ab (by lia)
 obtain⟨y,hy,ey⟩:=yu (l:=bs) (r:=(o:Int)) aa (by lia)
 simp! only[ix_l I ((Vn U.int bs _).trans (congrArg _ ex)),ix_l I ((Vn U.int bs _).trans (congrArg _ ey))];refine⟨trivial,by lia,af fb (by decide) (by decide) λr G2 a2 b2 f2 s2=>?_⟩
 have S2:=sa.trans (sb.trans s2);obtain⟨j,R⟩:∃j,j=(x-y)%P:=⟨_,rfl⟩;have g0:0<=j:=by rw[R];exact Ej _ (by lia)
 have g1:j<P:=by rw[R];exact Hj _ (by lia)
 rw[<- R];simp! only[];by_cases hr:r=0
 ·rw[if_pos (by simpa using hr)]
  refine af f2 (by lia) (by lia) λF G3 a3 b3 Y s3=>af Y (by lia) (by lia) λhi G4 a4 b4 O Z=>⟨by decide,?_⟩
  exact q ⟨"apart",o,t,F,hi⟩ _ ⟨.inl rfl,by dsimp only;lia,by dsimp only;lia,by dsimp only;lia,by dsimp only;lia⟩ (λz=>absurd (show("apart" : Str) = "span" from z) (by decide +kernel)) O (S2.trans (s3.trans Z))
 ·rw[if_neg (by simpa using hr)]
  refine Gz f2 h1 h2 λF G3 a3 b3 Y s3=>⟨by lia,af Y (by lia) (by lia) λr4 G4 a4 b4 O Z=>⟨by decide,λp G5 J=>af (O.new J) (by decide) (by decide) λr6 G6 a6 b6 f6 s6=>?_⟩⟩
  refine sF [0,0,1,r4] (s6 _ _ (O.away J).1 J.at) a6 b6 λz hz=>?_;have xa:0<=z/\z<=700:=by simp only[Mc,Qg,or_false]at hz;lia
  have e0:0<=(j-F)%P:=Ej _ (by lia)
  have e1:(j-F)%P<P:=Hj _ (by lia)
  simp! only[];exact⟨by decide,q ⟨"span",o,t,F,F+(j-F)%P+z⟩ _ ⟨.inr rfl,by dsimp only;lia,by dsimp only;lia,by dsimp only;lia,by dsimp only;lia⟩ (λ_=>by dsimp only;lia) f6 ((S2.trans (s3.trans Z)).nw J |>.trans s6)⟩

inductive Con (es:List (Int×Int)):Int->Int->Prop
 |refl (x:Int):Con es x x
 |step {x a b:Int}:Con es x a->((a,b)∈es\/(b,a)∈es)->Con es x b
def Con.trans    (h:Con es x y)(g:Con es y z):Con es x z:=by
 induction g with
 |refl=>exact h
 |step _ e j=>exact .step j e
def Con.one    (e:(a,b)∈es\/(b,a)∈es):Con es a b:=.step (.refl a) e
theorem Con.symm    (h:Con es x y):Con es y x:=by
 induction h with
 |refl=>exact .refl _
 |step _ e j=>exact(Con.one (Dl e)).trans j
def Con.closed   {S:Int->Prop}(q:∀a b,S a->((a,b)∈es\/(b,a)∈es)->S b)(h:Con es x y)(j:S x):S y:=by
 induction h with
 |refl=>exact j
 |step _ e F=>exact q _ _ F e
abbrev Sl  : List Int->List Int->Prop:=λa b=>HT.lexLt a b=ma
theorem pw_ext  {F:Type}{r:F->F->Prop}(as:∀a b,r a b->r b a->False):∀{l q:List F},l.Pairwise r->q.Pairwise r->(∀x,x∈l↔x∈q)->l=q
 |[],[],_,_,_=>rfl
 |[],b::q,_,_,h=>absurd ((h b).mpr (by simp)) (by simp)
 |a::l,[],_,_,h=>absurd ((h a).mp (by simp)) (by simp)
 |a::l,b::q,h1,h2,h=>by
  obtain⟨p1,I⟩:=Mb.mp h1;obtain⟨q1,q2⟩:=Mb.mp h2;have e:a=b:=by
   rcases Mc.mp ((h a).mp (by simp))with z|z
   ·exact z
   ·rcases Mc.mp ((h b).mpr (by simp))with y|y
    ·exact y.symm
    ·exact(as _ _ (p1 b y) (q1 a z)).elim
  subst e;rw[pw_ext as I q2 λx=>?_];constructor
  ·intro j;rcases Mc.mp ((h x).mp (Oc _ j))with z|z
   ·subst z;exact(as _ _ (p1 x j) (p1 x j)).elim
   ·exact z
  ·intro j;rcases Mc.mp ((h x).mpr (Oc _ j))with z|z
   ·subst z;exact(as _ _ (q1 x j) (q1 x j)).elim
   ·exact z
def LN  (a b:Int)(h:a<b)(g:b<a):False:=by lia
def IM   a b (h:Sl a b)(g:Sl b a):False:=by
 have:=ay a b a h g;rw[Zx]at this;cases this
structure Ze (W:Nat)(es:List (Int×Int))(ps:List (List Int)):Prop where
 ne:∀p∈ps,p≠[]
 as:∀p∈ps,p.Pairwise (·< ·)
 bd:∀p∈ps,∀x∈p,0<=x/\x<W
 al:∀x:Int,0<=x->x<W->∃p∈ps,x∈p
 un:∀p∈ps,∀q∈ps,∀x,x∈p->x∈q->p=q
 nd:ps.Nodup
 ed:∀a b,(a,b)∈es->∃p∈ps,a∈p/\b∈p
 co:∀p∈ps,∀x∈p,∀y∈p,Con es x y
def Ze.part     (h:Ze W es ps)(J:p∈ps)(R:x∈p)(g:Con es x y):y∈p:=by
 refine g.closed (S:=λz=>z∈p) (λa b O e=>?_) R;rcases e with e|e
 ·obtain⟨q,j,I,F⟩:=h.ed a b e;rw[h.un p J q j a O I];exact F
 ·obtain⟨q,j,I,F⟩:=h.ed b a e;rw[h.un p J q j a O F];exact I
theorem RD {q:Type}{r:q->q->Prop}(tr:∀a b c,r a b->r b c->r a c):∀{l:List q},(∀i (h:i+1<l.length),r l[i] l[i+1])->l.Pairwise r
 |[],_=>.nil
 |[a],_=>XB _ _
 |a::b::l,h=>by
  have y:=RD tr (l:=b::l) λi z=>h (i+1) (by simpa using z)
  refine Mb.mpr ⟨λx j=>?_,y⟩;have h0:=h 0 (by simp)
  rcases Mc.mp j with rfl|j
  ·exact h0
  ·exact tr _ _ _ h0 ((Mb.mp y).1 x j)
def IU  {y:Type}(l:List y) d {j:List Nat}(h:j.Perm (Ge l.length)):(j.map λi=>l.getD i d).Perm l:=by
 have:=h.map λi=>l.getD i d;have e:(Ge l.length).map (λi=>l.getD i d)=l:=by
  refine zB (by simp) λi z q=>?_
  simp[Ad,q]
 rw[e]at this;exact this

def KM   (g:G a=da (.lst (ns.map .int)))(nd:ns.Nodup)(O:ns.length<64)(q:∀J:List Int,J.Perm ns->J.Pairwise (·< ·)->newO G (.lst (J.map .int)) Q):Zn [.loc a] G Q:=by
 unfold Zn;dsimp only;rw[g];refine⟨ns.map λn=>[n],?_,by rw[Ab];exact Xe O (by decide),by rw[Ab,Ab],.inl ⟨ns,rfl,rfl⟩,λj I Z=>?_⟩
 ·exact Te.mpr (nd.imp λh z=>h (eK z).1)
 ·rw[Ab]at I Z;have y:∀i∈j,i<ns.length:=λi F=>Yb.mp (I.mem_iff.mp F);have pl:j.length=ns.length:=by rw[I.length_eq,Lw]
  have e:(j.map λi=>(ns.map U.int).getD i .non)=(j.map λi=>ns.getD i 0).map .int:=by
   rw[Gf];refine Ij λi F=>?_;simp[Ad,y i F]
  rw[e];refine q _ (IU ns 0 I) (RD (r:=λa b:Int=>a<b) (λ_ _ _ h g=>Int.lt_trans h g) λi F=>?_);have F:i+1<ns.length:=by simpa[pl]using F
  have h1:i<j.length:=by lia
  have h2:i+1<j.length:=by lia
  have R:=y _ (Gj h1);have Y:=y _ (Gj h2);have:=Z i F;rw[show j.getD i 0=j[i] by simp[Ad,h1],show j.getD (i+1) 0=j[i+1] by simp[Ad,h2]]at this
  have k1:(ns.map λn=>[n]).getD j[i] []=[ns[j[i]]]:=by simp[Ad,R]
  have k2:(ns.map λn=>[n]).getD j[i+1] []=[ns[j[i+1]]]:=by simp[Ad,Y]
  rw[k1,k2]at this;have l1:HT.lexLt [ns[j[i]]] [ns[j[i+1]]]=decide (ns[j[i]]<ns[j[i+1]]):=by
   rw[HT.lexLt_cons];split
   ·rename_i z;rw[z,HT.lexLt_nil_nil];simp
   ·rfl
  rw[l1]at this;simpa[Ad,R,Y]using of_decide_eq_true this

def Me  {j:Type}{f:j->U}{l:List j}{n:Nat}{a:j}(h:l[n]?=da a):atI (l.map f) (n:Int)=da (f a):=(Vn f l _).trans (congrArg _ (Ti h))
noncomputable def Xd  (ss:List Vb):List (Int×Int):=ss.map λs=>((s.o:Int),(s.t:Int))
def ZS     (g:G a=da o):G=Sc G a o:=by
 funext b;unfold Sc;split
 ·rename_i z;rw[z];exact g
 ·rfl
theorem rh  : ∀(W:Nat) (l:List Int),l.Nodup->(∀x∈l,0<=x/\x<W)->l.length<=W
 |0,l,_,h=>by
  cases l with
  |nil=>exact Jb _
  |cons a l=>have:=h a (by simp);lia
 |W+1,l,nd,h=>by
  have q:=rh W (l.erase (W:Int)) (nd.erase _) λx y=>by
   obtain⟨F,z⟩:=nd.mem_erase_iff.mp y;have:=h x z
   lia
  by_cases j:(W:Int)∈l
  ·rw[RK j]at q;lia
  ·rw[List.erase_of_not_mem j]at q;lia
abbrev Ent:=Nat×Int
noncomputable def eu  (e:Ent):U:=.tup [.int e.1,.int e.2]
noncomputable def eS  (ss:List Vb)(e:Ent):Int:=match ss[e.1]? with|some s=>if e.2=1 then s.o else s.t|none=>0
noncomputable def eD  (ss:List Vb)(e:Ent):Int:=match ss[e.1]? with|some s=>if e.2=1 then s.t else s.o|none=>0
def ie  (ss:List Vb)(e:Ent):Prop:=e.1<ss.length/\(e.2=1\/e.2=-1)
def oj  (ss:List Vb)(e:Ent):U:=.tup [.int e.1,.int e.2,.int (eS ss e)]
section
variable {ss:List Vb}{s:Vb}{i:Nat}
def eS_1  (h:ss[i]?=da s):eS ss (i,1)=s.o:=by unfold eS;dsimp only;rw[h];rfl
def eS_m  (h:ss[i]?=da s):eS ss (i,-1)=s.t:=by unfold eS;dsimp only;rw[h];rfl
def eD_1  (h:ss[i]?=da s):eD ss (i,1)=s.t:=by unfold eD;dsimp only;rw[h];rfl
def eD_m  (h:ss[i]?=da s):eD ss (i,-1)=s.o:=by unfold eD;dsimp only;rw[h];rfl
def ie.get   (h:ie ss e):∃s,ss[e.1]?=da s/\((e=(e.1,1)/\eS ss e=s.o/\eD ss e=s.t)\/(e=(e.1,-1)/\eS ss e=s.t/\eD ss e=s.o)):=by
 obtain⟨j,w⟩:=e;refine⟨ss[j]'h.1,Bc h.1,?_⟩;rcases h.2 with z|z
 ·have z:w=1:=z;subst z;exact .inl ⟨rfl,eS_1 (Bc h.1),eD_1 (Bc h.1)⟩
 ·have z:w=-1:=z;subst z;exact .inr ⟨rfl,eS_m (Bc h.1),eD_m (Bc h.1)⟩
def ie.adj   (h:ie ss e):(eS ss e,eD ss e)∈Xd ss\/(eD ss e,eS ss e)∈Xd ss:=by
 obtain⟨s,F,z⟩:=h.get;have y:((s.o:Int),(s.t:Int))∈Xd ss:=Ia.mpr ⟨s,Pd F,rfl⟩;rcases z with⟨_,q,j⟩|⟨_,q,j⟩
 ·rw[q,j];exact .inl y
 ·rw[q,j];exact .inr y
end

def bV  {w:Nat}(sl:ss.length<=24)(q:∀p (tr:List Ent) O ,Sa G O->G p=Aa->O p=da (.lst (tr.map (oj ss)))->tr.length<=48->(∀e∈tr,ie ss e/\eD ss e=w)->
  (∀j s,ss[j]?=da s->(s.t=w->(j,1)∈tr)/\(s.o=w->(j,-1)∈tr))->Q (.loc p) O):Va T (k+1) wH [Ta xs ss,.int w] G Q X:=by
 refine⟨rfl,?_⟩;simp! only[QH,Ub,Db];refine⟨by decide,λp G1 n1=>?_⟩
 simp! only[Ta,ix_t (Je _ _ _)];refine dg (λi ς O=>∃(tr:List Ent) (o3 o4 o5 o6 o7 o8:Option U),ς=[da (Ta xs ss),da (.int w),da (.loc p),o3,o4,o5,o6,o7,o8]/\O=Sc G1 p (.lst (tr.map (oj ss)))/\tr.length<=2*i/\(∀e∈tr,ie ss e/\eD ss e=w)/\∀j s,j<i->ss[j]?=da s->(s.t=w->(j,1)∈tr)/\(s.o=w->(j,-1)∈tr)) ?_ ?_ ⟨[],_,_,_,_,_,_,rfl,ZS n1.at,Jb _,λ_ h=>(nomatch h),λj s h=>by lia⟩
 ·rintro ς G2 ⟨tr,o3,o4,o5,o6,o7,o8,rfl,rfl,hl,he,hz⟩;rw[Ym,Ab]at hl hz;refine⟨trivial,?_⟩;simp! only[];refine q p tr _ (λb o hb=>?_) n1.no sf (by lia) he λj s e=>hz j s (Ba.mp e).1 e
  rw[Lh (λz=>by rw[z,n1.no]at hb;cases hb)]
  exact n1.sa _ _ hb
 ·rintro i x ς G2 K hx ⟨tr,o3,o4,o5,o6,o7,o8,rfl,rfl,hl,he,hz⟩ hk;obtain⟨u,hu,rfl⟩:=io hx;rw[md]at hu;cases J:ss[i]? with
  |none=>rw[J]at hu;cases hu
  |some s=>
   rw[J]at hu;have hu:=(Ee hu).symm;subst hu;have il:i<ss.length:=(Ba.mp J).1;refine⟨trivial,?_⟩;simp! only[Vb.u,lh sf,Jh sf,Vm,Xn];refine⟨trivial,trivial,?_⟩;have F:∀y:List Ent,y.length<=2*i+1->(∀e∈y,ie ss e/\eD ss e=w)->(∀e∈tr,e∈y)->(s.t=w->(i,1)∈y)->(if decide ((s.o:Int)=(w:Int))=ma then
     0+1+1+1<=db/\(match Ie .append (.loc p) (Sc G1 p (.lst (y.map (oj ss))))with
      |some _=>Td .append (.loc p) [U.tup [.int ((0+i:Nat):Int),.int (-1),.int s.t]] (Sc G1 p (.lst (y.map (oj ss)))) λ_ O=>K [da (Ta xs ss),da (.int w),da (.loc p),da (.int ((0+i:Nat):Int)),da (.str s.w),da (.int s.o),da (.int s.t),da (.int s.lo),da (.int s.hi)] O
      |none=>False)
     else K [da (Ta xs ss),da (.int w),da (.loc p),da (.int ((0+i:Nat):Int)),da (.str s.w),da (.int s.o),da (.int s.t),da (.int s.lo),da (.int s.hi)] (Sc G1 p (.lst (y.map (oj ss))))):=λy xa Y I Z=>by
    by_cases c:s.o=w
    ·rw[if_pos (by simp;lia),lh sf,Jh sf,Vm,Xn]
     refine⟨by decide,by rw[Ab];exact Ug (show y.length<=48 by lia) (by decide),hk _ _ ⟨y++[(i,-1)],_,_,_,_,_,_,rfl,by rw[Ud];simp[oj,eS_m J],by simp;lia,λe h=>?_,λj s' hj R=>?_⟩⟩
     ·rcases Ma.mp h with h|h
      ·exact Y e h
      ·rw[Ea.mp h,eD_m J];exact⟨⟨il,.inr rfl⟩,by lia⟩
     ·by_cases e:j=i
      ·subst e;rw[J]at R;cases R;exact⟨λh=>Gg _ (Z h),λ_=>Ff _ (Ea.mpr rfl)⟩
      ·have:=hz j s' (by lia) R
       exact⟨λh=>Gg _ (I _ (this.1 h)),λh=>Gg _ (I _ (this.2 h))⟩
    ·rw[if_neg (by simp;lia)]
     refine hk _ _ ⟨y,_,_,_,_,_,_,rfl,rfl,by lia,Y,λj s' hj R=>?_⟩
     by_cases e:j=i
     ·subst e;rw[J]at R;cases R;exact⟨Z,λh=>absurd h c⟩
     ·have:=hz j s' (by lia) R
      exact⟨λh=>I _ (this.1 h),λh=>I _ (this.2 h)⟩
   by_cases c:s.t=w
   ·rw[if_pos (by simp;lia)]
    refine⟨by decide,by rw[Ab];exact Ug (show tr.length<=48 by lia) (by decide),?_⟩
    have:=F (tr++[(i,1)]) (by simp;lia) (λe h=>by
     rcases Ma.mp h with h|h
     ·exact he e h
     ·rw[Ea.mp h,eD_1 J];exact⟨⟨il,.inl rfl⟩,by lia⟩) (λe h=>Gg _ h) λ_=>Ff _ (Ea.mpr rfl)
    rw[lh sf,Jh sf,Vm,Xn,Ud]at this;simp only[He,Go,oj,eS_1 J]at this ⊢;simpa using this
   ·rw[if_neg (by simp;lia)]
    have:=F tr (by lia) he (λ_ h=>h) λh=>absurd h c
    rw[lh sf,Jh sf,Vm,Xn]at this;exact this

def uP        (g:G a=da (.dK kvs)):setU (.loc a) (.int z) v G Q=(kvs.length<db/\putO G a (.dK (dPut kvs (.inl z) v)) Q):=by unfold setU;dsimp only;rw[g];rfl
def fq   z (l:List Int):((l.map U.int).any λy=>Ui y (.int z))=decide (z∈l):=by
 rw[Co,List.any_eq_true,decide_eq_true_eq];constructor
 ·rintro⟨y,q,e⟩;obtain⟨x,j,rfl⟩:=Ia.mp q;have:x=z:=by simpa[Ui]using e
  rw[<- this];exact j
 ·intro h;exact⟨.int z,Ia.mpr ⟨z,h,rfl⟩,by simp[Ui]⟩
def vq  (l:List Int):(l.map U.int).all flat=ma:=by simp[flat]
structure cC (W:Nat)(es:List (Int×Int))(w:Nat)(rs:List Int):Prop where
 nd:((w:Int)::rs).Nodup
 bd:∀x∈(w:Int)::rs,0<=x/\x<W
 co:∀x∈(w:Int)::rs,Con es w x
def Wd  (fs:List (Int×Ent)):List (Wb×U):=fs.map λf=>(bc f.1,eu f.2)
noncomputable def Qb  (fs:List (Int×Ent)):List Int:=fs.map (·.1)
structure Hg (W:Nat)(ss:List Vb)(w:Nat)(fs:List (Int×Ent)):Prop where
 nd:((w:Int)::Qb fs).Nodup
 bd:∀x∈(w:Int)::Qb fs,0<=x/\x<W
 en:∀j f,fs[j]?=da f->ie ss f.2/\eS ss f.2=f.1/\eD ss f.2∈(w:Int)::Qb (fs.take j)
section
variable {W:Nat}{ss:List Vb}{w:Nat}{fs:List (Int×Ent)}
def uq    (h:x∈Qb (fs.take j)):∃i f,i<j/\fs[i]?=da f/\f.1=x:=by
 obtain⟨f,q,rfl⟩:=Ia.mp h;obtain⟨i,y,e⟩:=Lg q;rw[Tk]at y;refine⟨i,f,by lia,?_,rfl⟩
 rw[<- e,uK];exact Bc (by lia)
def lq  {j:Nat}(h:fs[j]?=da f):f.1∈Qb fs:=Ia.mpr ⟨f,Pd h,rfl⟩
def GE    (h:x∈(w:Int)::Qb (fs.take j)):x∈(w:Int)::Qb fs:=by
 rcases Mc.mp h with z|z
 ·rw[z];simp
 ·obtain⟨i,f,_,e,rfl⟩:=uq z;exact Oc _ (lq e)
theorem Hg.con  (h:Hg W ss w fs):∀(n j:Nat) (f:Int×Ent),j<n->fs[j]?=da f->Con (Xd ss) w f.1
 |0,_,_,hj,_=>by lia
 |n+1,j,f,hj,e=>by
  obtain⟨y,F,J⟩:=h.en j f e;have:Con (Xd ss) w (eD ss f.2):=by
   rcases Mc.mp J with z|z
   ·rw[z];exact .refl _
   ·obtain⟨i,g,O,I,q⟩:=uq z;rw[<- q];exact h.con n i g (by lia) I
  rw[<- F];exact .step this (Dl y.adj)
def Hg.rch  (h:Hg W ss w fs):cC W (Xd ss) w (Qb fs):=⟨h.nd,h.bd,λx y=>by
 rcases Mc.mp y with z|z
 ·rw[z];exact .refl _
 ·obtain⟨f,F,rfl⟩:=Ia.mp z;obtain⟨j,q,e⟩:=Lg F;exact h.con (j+1) j f (by lia) (by rw[Bc q,e])⟩
def Hg.add  (h:Hg W ss w fs)(Z:ie ss e)(hd:eD ss e∈(w:Int)::Qb fs)(hs:0<=eS ss e/\eS ss e<W)(O:eS ss e∉(w:Int)::Qb fs):Hg W ss w (fs++[(eS ss e,e)]):=by
 have F:(w:Int)::Qb (fs++[(eS ss e,e)])=((w:Int)::Qb fs)++[eS ss e]:=by simp[Qb]
 refine⟨?_,λx y=>?_,λj f q=>?_⟩
 ·rw[F];refine List.nodup_append.mpr ⟨h.nd,by simp,λa Y b I=>?_⟩
  rw[Ea.mp I];exact λz=>O (z ▸ Y)
 ·rw[F]at y;rcases Ma.mp y with z|z
  ·exact h.bd x z
  ·rw[Ea.mp z];exact hs
 ·by_cases J:j<fs.length
  ·rw[Pg J]at q;rw[qL (by lia)]
   exact h.en j f q
  ·have R:=(Ba.mp q).1;rw[gg,cL]at R;have:j=fs.length:=by lia
   subst this;rw[Bn (Jb _),CA]at q;cases q;refine⟨Z,rfl,?_⟩;rw[qL (Jb _),Rg];exact hd
def aR  (y:w<W):Hg W ss w []:=⟨by simp[Qb],λx q=>by rw[show((w:Int)::Qb [])=[(w:Int)]from rfl]at q;rw[Ea.mp q];lia,λj f e=>by simp at e⟩
def yS  {kvs:List (Wb×U)}(y:∀q∈kvs,q.1≠bc z):dPut kvs (.inl z) v=kvs++[(.inl z,v)]:=by
 unfold dPut;rw[if_neg λF=>?_];obtain⟨q,j,e⟩:=List.any_eq_true.mp F;exact y q j (of_decide_eq_true e)
end
section
variable {k:Nat}{G:Gp}{Q:K1}{X:KX}{xs:List Str}{ss:List Vb}{W:Nat}
def GC   (so:∀s∈ss,s.Ok W):∀a b,(a,b)∈Xd ss->(0<=a/\a<W)/\0<=b/\b<W:=λa b h=>by
 obtain⟨s,j,e⟩:=Ia.mp h;have o:=so s j;have o1:=o.o;have o2:=o.t;obtain⟨y,q⟩:=Kq e
 lia
def EL  (ss:List Vb)(w:Nat)(rs:List Int):Prop:=∀x y,x∈(w:Int)::rs->((x,y)∈Xd ss\/(y,x)∈Xd ss)->y∈(w:Int)::rs
def NG    (so:∀s∈ss,s.Ok W)(sl:ss.length<=24)(hw:w<W)(w8:W<=8)(hr:∀G1,Sa G G1->∀k:List U->Prop,k [.int w]->Lf r G1 λxs _=>k xs)
  (q:∀pf fs J ,Sa G J->G pf=Aa->J pf=da (.dK (Wd fs))->Hg W ss w fs->EL ss w (Qb fs)->Q (.loc pf) J) :
  Va T (k+2) Fv [Ta xs ss,r] G Q X:=by
 refine⟨rfl,?_⟩;simp! only[nI,Ub,Db];refine⟨by decide,λpf G1 Z=>?_⟩
 simp! only[];refine hr G1 Z.sa _ ?_;intro Y G2 n2;simp! only[WI];have wa:pf≠Y:=Xa (Rm Z.at n2.no);have R:∀{Ga Gb:Gp} {p:Ca} {o:MO},(p=pf\/p=Y)->Sa G Ga->Mg Ga p o Gb->Sa G Gb:=λ{Ga Gb p o} hp s w b u e=>w.sm _ _ (λz=>by
  rcases hp with rfl|rfl
  ·rw[z,Z.no]at e;cases e
  ·rw[z]at e;have:=Z.sa _ _ e;rw[n2.no]at this;cases this) (s b u e)
 rw[S_wh];refine⟨λn ς J=>∃(fs:List (Int×Ent)) (i:Nat) (o5 o6 o7:Option U),ς=[da (Ta xs ss),da r,da (.loc pf),da (.loc Y),da (.int i),o5,o6,o7]/\n=W-i/\Sa G J/\J pf=da (.dK (Wd fs))/\J Y=da (.lst (((w:Int)::Qb fs).map .int))/\Hg W ss w fs/\i<=fs.length+1/\
   ∀j x y,j<i->((w:Int)::Qb fs)[j]?=da x->((x,y)∈Xd ss\/(y,x)∈Xd ss)->y∈(w:Int)::Qb fs,⟨_,[],0,_,_,_,rfl,rfl,Z.sa.trans n2.sa,n2.sa _ _ Z.at,n2.at,aR hw,by simp,λj x y h=>by lia⟩,?_⟩
 rintro n ς G3 ⟨fs,i,o5,o6,o7,rfl,rfl,s3,gf,gr,rc,il,cl⟩;have rl:=rh W _ rc.nd rc.bd;simp only[Qb,bf,Ab]at rl;have kl:(Qb fs).length=fs.length:=Ab _;simp! only[Pn gr,Ab,bf,kl];by_cases c:(i:Int)<((fs.length+1:Nat):Int)
 ·rw[if_pos (by simpa using c)]
  have hi:i<((w:Int)::Qb fs).length:=by rw[bf,kl];lia
  obtain⟨x,hx⟩:∃x,((w:Int)::Qb fs)[i]?=da x:=⟨_,Bc hi⟩;have bx:=rc.bd x (Pd hx);obtain⟨xn,rfl⟩:=Gi bx.1;rw[ix_l gr (show atI (((w:Int)::Qb fs).map U.int) (i:Int)=da (.int (xn:Int))from Me hx)];refine bV sl λpe tr G4 s4 ne g4 tl te tm=>?_;rw[it_l g4];have ya:pe≠pf:=λz=>by rw[z,gf]at ne;cases ne
  have va:pe≠Y:=λz=>by rw[z,gr]at ne;cases ne
  refine dg (λj ς J=>∃(F:List (Int×Ent)) (o5 o6 o7:Option U),ς=[da (Ta xs ss),da r,da (.loc pf),da (.loc Y),da (.int i),o5,o6,o7]/\Sa G J/\J pe=da (.lst (tr.map (oj ss)))/\J pf=da (.dK (Wd F))/\J Y=da (.lst (((w:Int)::Qb F).map .int))/\Hg W ss w F/\(∃ext,F=fs++ext)/\∀e∈tr.take j,eS ss e∈(w:Int)::Qb F)
   ?_ ?_ ⟨fs,_,_,_,rfl,s3.trans s4,g4,s4 _ _ gf,s4 _ _ gr,rc,⟨[],by simp⟩,λe he=>by simp at he⟩
  ·rintro ς G5 ⟨F,o5,o6,o7,rfl,s5,ge,gf',gr',rc',⟨ext,hext⟩,hm⟩;rw[Ab,Rg]at hm;refine⟨by unfold Gd;rw[ge],?_⟩
   simp! only[];have ll:F.length=fs.length+ext.length:=by rw[hext,gg]
   refine⟨W-(i+1),by lia,F,i+1,_,_,_,rfl,rfl,s5,gf',gr',rc',by lia,λj x' y hj I e=>?_⟩
   have xb:((w:Int)::Qb F)[j]?=((w:Int)::Qb fs)[j]?:=by
    rw[hext,show((w:Int)::Qb (fs++ext))=((w:Int)::Qb fs)++Qb ext by simp[Qb],Pg (by rw[bf,kl];lia)]
   rw[xb]at I;have up:∀z,z∈(w:Int)::Qb fs->z∈(w:Int)::Qb F:=λz hz=>by
    rw[hext,show((w:Int)::Qb (fs++ext))=((w:Int)::Qb fs)++Qb ext by simp[Qb]]
    exact Gg _ hz
   by_cases ej:j=i
   ·subst ej;rw[hx]at I;cases I;rcases e with e|e
    ·obtain⟨s,hs,es⟩:=Ia.mp e;obtain⟨e1,e2⟩:=Kq es;obtain⟨jj,xa,za⟩:=Lg hs;have hg:ss[jj]?=da s:=by rw[Bc xa,za]
     have:=hm _ ((tm jj s hg).2 (by lia))
     rw[eS_m hg,e2]at this;exact this
    ·obtain⟨s,hs,es⟩:=Ia.mp e;obtain⟨e1,e2⟩:=Kq es;obtain⟨jj,xa,za⟩:=Lg hs;have hg:ss[jj]?=da s:=by rw[Bc xa,za]
     have:=hm _ ((tm jj s hg).1 (by lia))
     rw[eS_1 hg,e1]at this;exact this
   ·exact up _ (cl j x' y (by lia) I e)
  ·rintro j u ς G5 K hu ⟨F,o5,o6,o7,rfl,s5,ge,gf',gr',rc',⟨ext,hext⟩,hm⟩ hk2;rw[md]at hu;cases et:tr[j]? with
   |none=>rw[et]at hu;cases hu
   |some e=>
    rw[et]at hu;have hu:=(Ee hu).symm;subst hu;refine⟨by unfold Gd;rw[ge],?_⟩
    obtain⟨oe,ed⟩:=te e (Pd et);have ka:=rh W _ rc'.nd rc'.bd;simp only[Qb,bf,Ab]at ka;have I:(xn:Int)∈(w:Int)::Qb F:=by
     rw[hext,show((w:Int)::Qb (fs++ext))=((w:Int)::Qb fs)++Qb ext by simp[Qb]]
     exact Gg _ (Pd hx)
    simp! only[oj];refine⟨trivial,in_l gr' rfl (vq _) ?_⟩;rw[fq];by_cases cz:eS ss e∈(w:Int)::Qb F
    ·rw[if_neg (by rw[decide_eq_true cz];decide)]
     refine hk2 _ _ ⟨F,_,_,_,rfl,s5,ge,gf',gr',rc',⟨ext,hext⟩,λe' O=>?_⟩;rw[Bh,et]at O;rcases Ma.mp O with z|z
     ·exact hm e' z
     ·rw[Ea.mp z];exact cz
    ·rw[if_pos (by rw[decide_eq_false cz];decide),uP gf']
     have fl:(Wd F).length=F.length:=Ab _;refine⟨by decide,by rw[fl];exact Ug (show F.length<=8 by lia) (by decide),λG6 p6=>?_⟩
     have ja:=p6.sm _ _ (Xa wa) gr';simp! only[lh ja,Jh ja];refine⟨Ug (show _<=9 by simp[Qb];lia) (by decide),λG7 p7=>?_⟩
     have bz:0<=eS ss e/\eS ss e<(W:Int):=by
      rcases oe.adj with z|z
      ·exact(GC so _ _ z).1
      ·exact(GC so _ _ z).2
     have pn:dPut (Wd F) (.inl (eS ss e)) (.tup [.int e.1,.int e.2])=Wd (F++[(eS ss e,e)]):=by
      rw[yS λkv ha z=>?_]
      ·simp[Wd,eu]
      ·obtain⟨f,hf,rfl⟩:=Ia.mp ha;have z:=bc.inj z;exact cz (Oc _ (Ia.mpr ⟨f,hf,z⟩))
     rw[pn]at p6;refine hk2 _ _ ⟨F++[(eS ss e,e)],_,_,_,rfl,R (.inr rfl) (R (.inl rfl) s5 p6) p7,p7.sm _ _ va (p6.sm _ _ ya ge),p7.sm _ _ wa p6.at,?_,rc'.add oe (by rw[ed];exact I) bz cz,⟨ext++[(eS ss e,e)],by rw[hext,Jw]⟩,λe' O=>?_⟩
     ·have:=p7.at
      rw[this];simp[Qb]
     ·rw[Bh,et]at O;rw[show((w:Int)::Qb (F++[(eS ss e,e)]))=((w:Int)::Qb F)++[eS ss e] by simp[Qb]]
      rcases Ma.mp O with z|z
      ·exact Gg _ (hm e' z)
      ·rw[Ea.mp z];exact Ff _ (Ea.mpr rfl)
 ·rw[if_neg (by simpa using c)]
  refine q pf fs G3 s3 Z.no gf rc λx y hx e=>?_;obtain⟨j,hj,ej⟩:=Lg hx;refine cl j x y ?_ (by rw[Bc hj,ej]) e
  rw[bf,kl]at hj
  lia
def uU    (so:∀s∈ss,s.Ok W)(F:ss.length<=24)(R:w<W)(I:W<=8)(Z:G z=da (.lst [.int w]))
  (q:∀pf (kvs:List (Wb×U)) (rs:List Int) j ,Sa G j->j pf=da (.dK kvs)->kvs.map (·.1)=rs.map (λx=>(bc x:Wb))->cC W (Xd ss) w rs->(∀x y,x∈(w:Int)::rs->((x,y)∈Xd ss\/(y,x)∈Xd ss)->y∈(w:Int)::rs)->Q (.loc pf) j) :
  Va T (k+2) Fv [Ta xs ss,.loc z] G Q X:=
 NG so F R I (λG1 s1 k h=>by rw[it_l (s1 _ _ Z)];exact h) λpf fs j J _ Y O c'=>q pf (Wd fs) (Qb fs) j J Y (by simp[Wd,Qb]) O.rch c'
end

def uy     (g:G a=da (.lst xs)):Ie .extend (.loc a) G=da ("list", "list.extend"):=by unfold Ie;dsimp only;rw[g]
def iy      (g:G a=da (.lst xs))(g':G b=da (.lst ys)):Td .extend (.loc a) [.loc b] G Q=(xs.length+ys.length<=db/\putO G a (.lst (xs++ys)) (Q .non)):=by unfold Td Iy;dsimp only;rw[g,g']
def MN    {ns:List Int}{G:Gp}(g:G a=da (.dK kvs))(h:kvs.map (·.1)=ns.map (λz=>(bc z:Wb)))(q:newO G (.lst (ns.map .int)) Q):mkDU (.loc a) G Q:=by unfold mkDU;dsimp only;rw[g];exact⟨ns,h,q⟩
def ny  (ps:List (List Int)):U:=.tup (ps.map Ec)
structure Pp (W:Nat)(es:List (Int×Int))(i:Nat)(ps:List (List Int))(pl:List Int):Prop where
 hd:∀p∈ps,∃h r,p=h::r/\h<(i:Int)
 as:∀p∈ps,p.Pairwise (·< ·)
 bd:∀p∈ps,∀x∈p,0<=x/\x<W
 co:∀p∈ps,∀x∈p,∀y∈p,Con es x y
 cl:∀p∈ps,∀x∈p,∀y,Con es x y->y∈p
 so:ps.Pairwise Sl
 me:∀x,x∈pl↔∃p∈ps,x∈p
 up:∀x:Int,0<=x->x<i->x∈pl
 l1:ps.length<=i
 l2:pl.length<=8*i
section
variable {W:Nat}{es:List (Int×Int)}
def Pp.nil  : Pp W es 0 [] []:=⟨λ_ h=>(nomatch h),λ_ h=>(nomatch h),λ_ h=>(nomatch h),λ_ h=>(nomatch h),λ_ h=>(nomatch h),.nil,λx=>by simp,λx q j=>by lia,Jb _,Jb _⟩
def Pp.skip     (h:Pp W es i ps j)(y:(i:Int)∈j):Pp W es (i+1) ps j:=by
 refine⟨λp q=>?_,h.as,h.bd,h.co,h.cl,h.so,h.me,λx F I=>?_,by have:=h.l1;lia,by have:=h.l2;lia⟩
 ·obtain⟨a,r,e,l⟩:=h.hd p q;exact⟨a,r,e,by lia⟩
 ·by_cases e:x=i
  ·rw[e];exact y
  ·exact h.up x F (by lia)
def Pp.add     (h:Pp W es i ps pl)(hi:(i:Int)∉pl)(w8:W<=8)(I:cC W es i rs)(cl:∀x y,x∈(i:Int)::rs->((x,y)∈es\/(y,x)∈es)->y∈(i:Int)::rs)
  (q:zs.Perm ((i:Int)::rs)) (hs:zs.Pairwise (·< ·)):Pp W es (i+1) (ps++[zs]) (pl++zs):=by
 have F:∀y,y∈zs↔y∈(i:Int)::rs:=λy=>q.mem_iff;have zc:∀x∈zs,∀y,Con es x y->y∈zs:=λx j y g=>(F y).mpr (g.closed (S:=λz=>z∈(i:Int)::rs) (λa b ha e=>cl a b ha e) ((F x).mp j));have iz:(i:Int)∈zs:=(F _).mpr (by simp)
 have R:∀y∈zs,(i:Int)<=y:=λy O=>by
  by_cases c:(i:Int)<=y
  ·exact c
  ·have Z:=I.bd y ((F y).mp O);obtain⟨p,J,Y⟩:=(h.me y).mp (h.up y Z.1 (by lia))
   exact absurd ((h.me _).mpr ⟨p,J,h.cl p J y Y i (I.co y ((F y).mp O)).symm⟩) hi
 obtain⟨r,ez⟩:∃r,zs=(i:Int)::r:=by
  cases zs with
  |nil=>cases iz
  |cons a r=>
   refine⟨r,?_⟩;rcases Mc.mp iz with z|z
   ·rw[z]
   ·have:=(Mb.mp hs).1 _ z;have:=R a (by simp)
    lia
 have lz:zs.length<=8:=by
  rw[q.length_eq];exact Rb (rh W _ I.nd I.bd) w8
 have one:∀{P:List Int->Prop},(∀p∈ps,P p)->P zs->∀p∈ps++[zs],P p:=λ{P} h1 h2 p q=>by
  rcases Ma.mp q with z|z
  ·exact h1 p z
  ·rw[Ea.mp z];exact h2
 refine⟨one (λp q=>?_) ⟨_,r,ez,by lia⟩,one h.as hs,one h.bd λx j=>I.bd x ((F x).mp j),one h.co λx j y O=>(I.co x ((F x).mp j)).symm.trans (I.co y ((F y).mp O)),one h.cl zc,?_,λx=>?_,λx h1 h2=>?_,by have:=h.l1;simp;lia,by have:=h.l2;simp;lia⟩
 ·obtain⟨a,r,e,l⟩:=h.hd p q;exact⟨a,r,e,by lia⟩
 ·refine List.pairwise_append.mpr ⟨h.so,XB _ _,λp q z hz=>?_⟩;rw[Ea.mp hz,ez];obtain⟨a,r',e,l⟩:=h.hd p q;rw[e];show HT.lexLt _ _=ma;rw[HT.lexLt_cons,if_neg (by lia)]
  exact decide_eq_true l
 ·rw[Ma,h.me x];constructor
  ·rintro(⟨p,q,j⟩|j)
   ·exact⟨p,Gg _ q,j⟩
   ·exact⟨zs,Ff _ (Ea.mpr rfl),j⟩
  ·rintro⟨p,q,j⟩;rcases Ma.mp q with z|z
   ·exact .inl ⟨p,z,j⟩
   ·rw[Ea.mp z]at j;exact .inr j
 ·by_cases e:x=i
  ·rw[e];exact Ff _ iz
  ·exact Gg _ (h.up x h1 (by lia))
def Pp.isP    (h:Pp W es W ps pl)(O:∀a b,(a,b)∈es->0<=a/\a<W):Ze W es ps:=by
 refine⟨λp j=>?_,h.as,h.bd,λx I F=>(h.me x).mp (h.up x I F),λp j q J x I F=>?_,?_,λa b e=>?_,h.co⟩
 ·obtain⟨a,r,e,_⟩:=h.hd p j;rw[e];simp
 ·exact pw_ext LN (h.as p j) (h.as q J) λy=>⟨λR=>h.cl q J x F y (h.co p j x I y R),λR=>h.cl p j x I y (h.co q J x F y R)⟩
 ·exact h.so.imp λ{a b} g e=>by rw[e]at g;exact IM _ _ g g
 ·have Y:=O a b e;obtain⟨p,j,Z⟩:=(h.me a).mp (h.up a Y.1 Y.2);exact⟨p,j,Z,h.cl p j a Z b (Con.one (.inl e))⟩
end

def JO  {W:Nat}(so:∀s∈ss,s.Ok W):∀a b,(a,b)∈Xd ss->(0<=a/\a<W)/\0<=b/\b<W:=λa b h=>by
 obtain⟨s,j,e⟩:=Ia.mp h;have o:=so s j;have o1:=o.o;have o2:=o.t;obtain⟨y,q⟩:=Kq e
 lia
def SH  (so:∀s∈ss,s.Ok xs.length)(sl:ss.length<=24)(w8:xs.length<=8)(q:∀(ps:List (List Int)) y ,Ze xs.length (Xd ss) ps->ps.Pairwise Sl->ps.length<=8->Sa G y->Q (ny ps) y):Va T (k+3) Fz [Ta xs ss] G Q X:=by
 refine⟨rfl,?_⟩;simp! only[jH,Ub,Db];refine⟨by decide,λF G1 R=>?_⟩
 simp! only[];refine⟨by decide,λpl G2 J=>?_⟩
 have I:pl≠F:=Rm R.at J.no;have j:∀{Ga Gb:Gp} {p:Ca} {o:MO},(p=F\/p=pl)->Sa G Ga->Mg Ga p o Gb->Sa G Gb:=λ{Ga Gb p o} hp s w b u e=>w.sm _ _ (λz=>by
  rcases hp with rfl|rfl
  ·rw[z,R.no]at e;cases e
  ·rw[z]at e;have:=R.sa _ _ e;rw[J.no]at this;cases this) (s b u e)
 simp! only[HH,Ta,ix_t (Hf _ _),Ab];refine⟨by lia,by lia,?_⟩
 refine dg (λi ς y=>∃(ps:List (List Int)) (ls:List Int) (o3 o4:Option U),ς=[da (Ta xs ss),da (.loc F),da (.loc pl),o3,o4]/\Sa G y/\y F=da (.lst (ps.map Ec))/\y pl=da (.lst (ls.map .int))/\Pp xs.length (Xd ss) i ps ls) ?_ ?_ ⟨[],[],_,_,rfl,R.sa.trans J.sa,J.sa _ _ R.at,J.at,Pp.nil⟩
 ·rintro ς G3 ⟨ps,ls,o3,o4,rfl,s3,gp,gl,h⟩;rw[Jf]at h;refine⟨trivial,?_⟩;simp! only[it_l gp];exact q ps _ (h.isP λa b e=>(JO so a b e).1) h.so (by have:=h.l1;lia) s3
 ·rintro i x ς G3 K hx ⟨ps,ls,o3,o4,rfl,s3,gp,gl,h⟩ hk;obtain⟨hi,rfl⟩:=uh hx;refine⟨trivial,?_⟩;simp! only[];refine in_l gl rfl (vq _) ?_;rw[fq];by_cases c:(i:Int)∈ls
  ·rw[if_neg (by rw[decide_eq_true c];decide)]
   exact hk _ _ ⟨ps,ls,_,_,rfl,s3,gp,gl,h.skip c⟩
  ·rw[if_pos (by rw[decide_eq_false c];decide)]
   refine⟨by decide,λp4 G4 n4=>⟨by decide,λp5 G5 n5=>?_⟩⟩
   refine uU so sl hi w8 n5.at λpf va rs G6 s6 gf za rc cl=>?_;refine MN gf za λp7 G7 n7=>?_;have g4:=n7.sa _ _ (s6 _ _ (n5.sa _ _ n4.at));have rl:=rh _ _ rc.nd rc.bd;simp only[bf]at rl;refine⟨_,_,g4,n7.at,Rb (show _<=9 by simp;lia) (by decide),λp8 G8 n8=>?_⟩
   have e8:[U.int (i:Int)]++rs.map .int=((i:Int)::rs).map .int:=rfl;rw[e8]at n8;simp! only[];refine KM n8.at rc.nd (by simp;lia) λzs hp hs p9 G9 Y=>?_
   have s8:Sa G3 G8:=(((n4.sa.trans n5.sa).trans s6).trans n7.sa).trans n8.sa;have s9:Sa G3 G9:=s8.trans Y.sa;have q1:p9≠pl:=Rm (s8 _ _ gl) Y.no;have q2:p9≠F:=Rm (s8 _ _ gp) Y.no;have xa:=s9 _ _ gp;have Z:=s9 _ _ gl;have h':=h.add c w8 rc cl hp hs;have lz:zs.length<=8:=by rw[hp.length_eq];simp;lia
   have l2:=h.l2;have l1:=h.l1;simp! only[uy Z,iy Z Y.at];refine⟨Rb (show _<=100 by simp;lia) (by decide),λGa pa=>?_⟩
   have O:=pa.sm _ _ (Xa I) xa;have ja:=pa.sm _ _ q1 Y.at
   simp! only[lh O,it_l ja,Jh O];refine⟨by rw[Ab];exact Ug (show ps.length<=8 by lia) (by decide),λGb pb=>?_⟩
   refine hk _ _ ⟨ps++[zs],ls++zs,_,_,rfl,j (.inl rfl) (j (.inr rfl) (s3.trans s9) pa) pb,?_,?_,h'⟩
   ·rw[Ud];exact pb.at
   ·rw[Ud];exact pb.sm _ _ I pa.at

theorem kq   : ∀l:List Int,Vg G (l.map .int) (l.map .int)
 |[]=>.nil
 |_::r=>.cons (.int _) (kq r)
def jz    (s:Sa G G')(h:G' p=Aa):G p=Aa:=by
 cases e:G p with
 |none=>rfl
 |some o=>rw[s _ _ e]at h;cases h

def Wk  (ss:List Vb):List Ent->Int->Int->Prop
 |[],a,b=>a=b
 |e::r,a,b=>ie ss e/\eS ss e=a/\Wk ss r (eD ss e) b
noncomputable def Vf  (e:Ent):Ent:=(e.1,-e.2)
section
variable {ss:List Vb}
theorem Wk.app  : ∀{r r' } {a m b },Wk ss r a m->Wk ss r' m b->Wk ss (r++r') a b
 |[],_,_,_,_,h,g=>by rw[show _=_ from h];exact g
 |_::r,_,_,_,_,⟨h1,h2,h3⟩,g=>⟨h1,h2,Wk.app h3 g⟩
theorem Wk.last  : ∀{r } {e } {a b },Wk ss (r++[e]) a b->Wk ss r a (eS ss e)/\ie ss e/\eD ss e=b
 |[],e,a,b,⟨h1,h2,h3⟩=>⟨h2.symm,h1,h3⟩
 |_::r,e,a,b,⟨h1,h2,h3⟩=>let ⟨q,j⟩:=Wk.last h3;⟨⟨h1,h2,q⟩,j⟩
def ie.flip   (h:ie ss e):ie ss (Vf e)/\eS ss (Vf e)=eD ss e/\eD ss (Vf e)=eS ss e:=by
 obtain⟨s,j,z⟩:=h.get;rcases z with⟨z,y,q⟩|⟨z,y,q⟩
 ·rw[y,q,z];exact⟨⟨h.1,.inr rfl⟩,eS_m j,eD_m j⟩
 ·rw[y,q,z];exact⟨⟨h.1,.inl rfl⟩,eS_1 j,eD_1 j⟩
theorem Wk.rev  : ∀{r } {a b },Wk ss r a b->Wk ss (r.reverse.map Vf) b a
 |[],_,_,h=>Eq.symm h
 |e::r,a,b,⟨h1,h2,h3⟩=>by
  rw[Rq,Ud];refine(Wk.rev h3).app ?_;obtain⟨j,y,q⟩:=h1.flip;exact⟨j,y,q.trans h2⟩
theorem Wk.all  : ∀{r } {a b },Wk ss r a b->∀e∈r,ie ss e
 |_::_,_,_,⟨h1,_,h3⟩,e,he=>by
  rcases Mc.mp he with z|z
  ·rw[z];exact h1
  ·exact h3.all e z
def DM        (g:G a=da (.frk o kvs))(q:k (dGet kvs (.inl z)).isSome):Ph (.int z) (.loc a) G k:=by unfold Ph;dsimp only;rw[g];exact q
def wC         (g:G a=da (.frk o kvs))(h:dGet kvs (.inl z)=da u):Ce (.loc a) (.int z) G Q=Q u G:=by unfold Ce;dsimp only;rw[g];dsimp only[kU];rw[h]
def dR       (g:G a=da (.dK kvs)):Kh f (.loc a) G Q=∀o j,Mg G a (.frk o kvs) j->Q (f kvs) (λj=>j a=da (.frk o kvs)) j:=by unfold Kh;dsimp only;rw[g]
def uE        (g:G a=da (.frk o kvs)):Kh f (.loc a) G Q=Q (f kvs) (λj=>j a=da (.frk o kvs)) G:=by unfold Kh;dsimp only;rw[g]
theorem DE  : ∀{fs } {z },z∉Qb fs->dGet (Wd fs) (.inl z)=Aa
 |[],_,_=>rfl
 |f::fs,z,h=>by
  have q:¬f.1=z:=λe=>h (by rw[<- e];simp[Qb])
  have j:z∉Qb fs:=λe=>h (Oc _ e);have:=DE j;unfold dGet Wd at this ⊢;rw[He,kL (by simpa using q)]
  exact this
theorem EE  : ∀{fs } {j:Nat} {f },(Qb fs).Nodup->fs[j]?=da f->dGet (Wd fs) (.inl f.1)=da (eu f.2)
 |[],_,_,_,h=>by simp at h
 |g::fs,0,f,_,h=>by
  simp at h;subst h;unfold dGet Wd;rw[He,List.find?_cons_of_pos (by simp)];rfl
 |g::fs,j+1,f,q,h=>by
  simp at h;have q:=Za.mp (show(g.1::Qb fs).Nodup from q);have y:¬g.1=f.1:=λe=>q.1 (by rw[e];exact lq h)
  have:=EE q.2 h;unfold dGet Wd at this ⊢;rw[He,kL (by simpa using y)]
  exact this
def ZQ   {w:Nat}(q:((w:Int)::Qb fs).Nodup)(h:z∈(w:Int)::Qb (fs.take n)) :
  (z=w/\dGet (Wd fs) (.inl z)=Aa)\/∃j f,j<n/\fs[j]?=da f/\f.1=z/\dGet (Wd fs) (.inl z)=da (eu f.2):=by
 have q:=Za.mp q;rcases Mc.mp h with z'|z'
 ·exact .inl ⟨z',by rw[z'];exact DE q.1⟩
 ·obtain⟨i,f,y,e,rfl⟩:=uq z';exact .inr ⟨i,f,y,e,rfl,EE q.2 e⟩
end

def Ky   (h:ie ss e)(q:Q (.tup [.int (eS ss e),.int (eD ss e)]) G):Va T (k+1) sv [Ta xs ss,eu e] G Q X:=by
 obtain⟨s,F,z⟩:=h.get;refine⟨rfl,?_⟩;simp! only[pG,Ub,Db,eu,Ta,ix_t (Je _ _ _),ix_t (Me F),Vb.u];refine⟨trivial,trivial,?_⟩;rcases z with⟨z,y,j⟩|⟨z,y,j⟩
 ·rw[show e.2=1 by rw[z],if_pos (by decide)]
  rw[y,j]at q;exact⟨by decide,q⟩
 ·rw[show e.2=-1 by rw[z],if_neg (by decide)]
  rw[y,j]at q;exact⟨by decide,q⟩
def nE       (R:Hg W ss w fs)(w8:W<=8)(Y:G pf=da (.frk o (Wd fs)))(hz:z∈(w:Int)::Qb fs)
  (q:∀p (F:List Ent) J ,Sa G J->G p=Aa->J p=da (.lst (F.map eu))->Wk ss F z w->F.length<=fs.length->(∀e∈F,∃f∈fs,f.2=e)->Q (.tup [.loc p,.int w]) J) :
  Va T (k+2) Uz [Ta xs ss,.loc pf,.int z] G Q X:=by
 have rl:=rh W _ R.nd R.bd;simp only[Qb,bf,Ab]at rl;refine⟨rfl,?_⟩;simp! only[bI,Ub,Db];refine⟨by decide,λp G1 O=>?_⟩
 simp! only[hJ];rw[S_wh];refine⟨λn ς J=>∃(F:List Ent) (y:Int),ς=[da (Ta xs ss),da (.loc pf),da (.int y),da (.loc p)]/\Sa G J/\J p=da (.lst (F.map eu))/\Wk ss F z y/\y∈(w:Int)::Qb (fs.take n)/\n<=fs.length/\F.length+n<=fs.length/\∀e∈F,∃f∈fs,f.2=e,
  ⟨fs.length,[],z,rfl,O.sa,O.at,rfl,by rw[Rg];exact hz,Jb _,by simp,λ_ h=>(nomatch h)⟩,?_⟩
 rintro n ς G2 ⟨F,y,rfl,s2,gp,wk,hy,hn,hl,hm⟩;have I:=s2 _ _ Y;simp! only[];refine DM I ?_;rcases ZQ R.nd hy with⟨rfl,e⟩|⟨j,f,hj,ef,rfl,e⟩
 ·rw[e,if_neg (by decide)]
  simp! only[];exact⟨by decide,q p F G2 s2 O.no gp wk (by lia) hm⟩
 ·obtain⟨h1,h2,h3⟩:=R.en j f ef;rw[e,if_pos (by rfl)]
  simp! only[lh gp,wC I e,Jh gp];refine⟨by rw[Ab];exact Ug (show F.length<=8 by lia) (by decide),λG3 p3=>?_⟩
  have xa:pf≠p:=λz=>by rw[z,O.no]at Y;cases Y
  have za:=p3.sm _ _ xa I;simp! only[wC za e];refine Ky h1 ?_;rw[ix_t (Je _ _ _)];refine⟨j,hj,F++[f.2],eD ss f.2,rfl,λb u Z=>p3.sm _ _ (λz=>by rw[z,O.no]at Z;cases Z) (s2 _ _ Z),by rw[Ud];exact p3.at,wk.app ⟨h1,h2,rfl⟩,h3,by lia,by simp;lia,λe he=>?_⟩
  rcases Ma.mp he with z|z
  ·exact hm e z
  ·rw[Ea.mp z];exact⟨f,Pd ef,rfl⟩

def mt_pop     (g:G p=da (.lst us)):Ie .pop (.loc p) G=da ("list", "list.pop"):=by unfold Ie;dsimp only;rw[g]
def HF       (g:G p=da (.lst ((es++[e]).map eu)))(q:∀j,Mg G p (.lst (es.map eu)) j->Q (eu e) j):Td .pop (.loc p) [] G Q:=by
 dsimp only[Td];unfold popU;dsimp only;rw[g];dsimp only;have z:((es++[e]).map eu)[((es++[e]).map eu).length-1]?=da (eu e):=by simp
 have y:((es++[e]).map eu).dropLast=es.map eu:=by simp
 rw[z,y];exact λj h=>q j h
def YD    : atI ((es++[e]).map eu) (-1)=da (eu e):=by
 refine(Vn eu _ _).trans ?_;unfold atI;rw[show Ag (es++[e]).length (-1)=da es.length by unfold Ag;simp;lia]
 simp
def wM     (q:k (decide (e=j))):cmpU .Eq (eu e) (eu j) G k:=by
 refine(?_:eqU (eu e) (eu j) G k);have d:∀x:Ent,DU G (eu x) (.tuple ([(x.1:Int),x.2].map .int)):=λx=>.tup (kq [(x.1:Int),x.2]);have sm:∀l:List Int,Small (.tuple (l.map .int)):=λl=>⟨(Fk l).1,by show Fj (l.map .int)+1<=100;rw[(Fk l).2.1];decide⟩
 refine⟨_,_,d e,d j,sm _,sm _,?_⟩;have:Vd (.list ([(e.1:Int),e.2].map .int)) (.list ([(j.1:Int),j.2].map .int))=decide (e=j):=by
  rw[FE,Co,decide_eq_true_eq,decide_eq_true_eq];constructor
  ·intro h;injection h with h1 h2
   injection h2 with h2 _
   exact Jk (by lia) h2
  ·intro h;rw[h]
 rw[show Vd (.tuple ([(e.1:Int),e.2].map .int)) (.tuple ([(j.1:Int),j.2].map .int))=decide (e=j)from this];exact q
def On     {kk:Bool->Prop}(g:G a=da (.lst us)):truU (.loc a) G kk=kk (!us.isEmpty):=by unfold truU;dsimp only;rw[g]
def ky      (g:G a=da (.lst us)):revU (.loc a) (.int (-1)) G Q=newO G (.lst us.reverse) Q:=by
 unfold revU Gd;dsimp only;rw[g];simp
def Tf  (fs:List (Int×Ent))(e:Ent):Prop:=∃f∈fs,f.2=e\/f.2=Vf e
structure CR (ss:List Vb)(fs:List (Int×Ent))(i:Nat)(s:Vb)(ring:List Ent):Prop where
 at':ss[i]?=da s
 wk:Wk ss ring s.o s.o
 l:ring.length<=1+2*fs.length
 tl:∃r,ring=(i,1)::r/\∀e∈r,Tf fs e
theorem snoc  {j:Type}:∀l:List j,l=[]\/∃r e,l=r++[e]
 |[]=>.inl rfl
 |a::l=>.inr (by
  rcases snoc l with z|⟨r,e,z⟩
  ·exact⟨[],a,by rw[z];rfl⟩
  ·exact⟨a::r,e,by rw[z];rfl⟩)

def zT       (hF:Hg W ss w fs)(w8:W<=8)(gf:G pf=da (.frk o (Wd fs)))(hs:ss[i]?=da s)(h1:(s.o:Int)∈(w:Int)::Qb fs)(h2:(s.t:Int)∈(w:Int)::Qb fs)
  (q:∀(F:List Ent) y ,Sa G y->CR ss fs i s F->Q (.tup (F.map eu)) y):Va T (k+3) eI [Ta xs ss,.loc pf,.int i] G Q X:=by
 have rl:=rh W _ hF.nd hF.bd;simp only[Qb,bf,Ab]at rl;have il:=(Ba.mp hs).1;refine⟨rfl,?_⟩;simp! only[ZH,Ub,Db,Ta,ix_t (Je _ _ _),ix_t (Me hs),Vb.u];refine⟨trivial,?_⟩;simp! only[dJ];refine nE (xs:=xs) hF w8 gf h2 λpt ts G1 s1 nt g1 Z lt mt=>?_;simp! only[];refine⟨trivial,?_⟩;refine nE (xs:=xs) hF w8 (s1 _ _ gf) h1 λJ bs G2 s2 nb g2 R lb Y=>?_;simp! only[eJ];refine⟨trivial,?_⟩;rw[S_wh];have O:pt≠J:=λz=>by rw[z]at g1;rw[nb]at g1;cases g1
 refine⟨λn ς y=>∃(ts bs:List Ent) (m:Int),ς=[da (Ta xs ss),da (.loc pf),da (.int i),da (.str s.w),da (.int s.o),da (.int s.t),da (.int s.lo),da (.int s.hi),da (.loc pt),da (.int w),da (.loc J),da (.int w),Aa]/\n=ts.length/\Sa G y/\y pt=da (.lst (ts.map eu))/\y J=da (.lst (bs.map eu))/\Wk ss ts s.t m/\Wk ss bs s.o m/\ts.length<=fs.length/\bs.length<=fs.length/\(∀e∈ts,∃f∈fs,f.2=e)/\∀e∈bs,∃f∈fs,f.2=e,
  ⟨_,ts,bs,w,rfl,rfl,s1.trans s2,s2 _ _ g1,g2,Z,R,lt,lb,mt,Y⟩,?_⟩
 have wa:G J=Aa:=jz s1 nb;clear s1 g1 Z lt mt s2 g2 R lb Y nb;rintro n ς G3 ⟨ts,bs,m,rfl,rfl,s3,gt,gb,Z,R,lt,lb,mt,Y⟩;have j:Tc T.gs (Va T (k+2)) oA ⟨λ_ y=>Q .non y,Q,λx _ y=>X x y⟩ [da (Ta xs ss),da (.loc pf),da (.int i),da (.str s.w),da (.int s.o),da (.int s.t),da (.int s.lo),da (.int s.hi),da (.loc pt),da (.int w),da (.loc J),da (.int w),Aa] G3:=by
  simp! only[oA];rw[if_pos (by simp)]
  refine⟨by decide,λph G4 n4=>?_⟩
  simp! only[fJ];refine⟨by decide,by decide,λp5 G5 n5=>?_⟩
  refine⟨_,_,n5.at,n5.sa _ _ (n4.sa _ _ gt),Rb (show _<=20 by simp;lia) (by decide),λp6 G6 n6=>?_⟩
  refine⟨_,_,n6.at,n6.sa _ _ (n5.sa _ _ n4.at),Rb (show _<=20 by simp;lia) (by decide),λp7 G7 n7=>?_⟩
  have va:=n7.sa _ _ (n6.sa _ _ (n5.sa _ _ (n4.sa _ _ gb)));dsimp only;rw[ky va];intro p8 G8 n8;rw[it_l n8.at];refine⟨Rb (show _<=20 by simp;lia) (by decide),?_⟩
  rw[<- FJ];refine Mh (λu=>match u with|.tup [.int a,.int b]=>.tup [.int a,.int (-b)]|u=>u) (by unfold Gd;rw[n8.at,FJ]) (λu hu K hK=>?_) ?_
  ·obtain⟨e,I,rfl⟩:=Ia.mp hu;simp! only[eu];exact⟨trivial,by decide,hK⟩
  ·intro p9 G9 n9;have e9:[]++(bs.reverse.map eu).map (λu=>match u with|.tup [.int a,.int b]=>.tup [.int a,.int (-b)]|u=>u)=(bs.reverse.map Vf).map eu:=by
    rw[Kg,Gf,Gf];rfl
   rw[e9]at n9;refine⟨_,_,n9.sa _ _ (n8.sa _ _ n7.at),n9.at,Rb (show _<=30 by simp;lia) (by decide),λpa Ga na=>?_⟩
   dsimp only;rw[it_l na.at];have ya:[U.tup [.int i,.int 1]]++ts.map eu++[]++(bs.reverse.map Vf).map eu=(((i,1)::(ts++bs.reverse.map Vf)):List Ent).map eu:=by simp[eu]
   rw[ya];have ja:ie ss (i,1):=⟨il,.inl rfl⟩;refine q _ Ga (s3.trans ((((((n4.sa.trans n5.sa).trans n6.sa).trans n7.sa).trans n8.sa).trans n9.sa).trans na.sa)) ⟨hs,⟨ja,eS_1 hs,?_⟩,by simp;lia,_,rfl,λe I=>?_⟩
   ·rw[eD_1 hs];exact Z.app R.rev
   ·rcases Ma.mp I with z|z
    ·obtain⟨f,hf,rfl⟩:=mt e z;exact⟨f,hf,.inl rfl⟩
    ·obtain⟨e',za,rfl⟩:=Ia.mp z;obtain⟨f,hf,rfl⟩:=Y e' (cf.mp za);exact⟨f,hf,.inr (by simp[Vf])⟩
 simp! only[];rw[On gt];rcases snoc ts with rfl|⟨ts',et,rfl⟩
 ·rw[if_neg (by simp)];exact j
 rw[if_pos (by simp),On gb]
 rcases snoc bs with rfl|⟨bs',eb,rfl⟩
 ·rw[if_neg (by simp)];exact j
 rw[if_pos (by simp),ix_l gt YD,ix_l gb YD]
 refine wM ?_;by_cases c:et=eb
 ·subst c;rw[if_pos (by simp),mt_pop gt]
  refine HF gt λG4 p4=>?_;have xa:=p4.sm _ _ (Xa O) gb;rw[mt_pop xa];refine HF xa λG5 p5=>?_;obtain⟨w1,w2,w3⟩:=Z.last;obtain⟨v1,v2,v3⟩:=R.last;refine⟨ts'.length,by simp,ts',bs',eS ss et,trivial,rfl,λb u hb=>p5.sm _ _ (λz=>by rw[z,wa]at hb;cases hb) (p4.sm _ _ (λz=>by rw[z,nt]at hb;cases hb) (s3 _ _ hb)),p5.sm _ _ O p4.at,p5.at,w1,v1,by simp at lt;lia,by simp at lb;lia,λe I=>mt e (Gg _ I),λe I=>Y e (Gg _ I)⟩
 ·rw[if_neg (by simpa using c)];exact j

def oi  (r:List Ent):U:=.tup (r.map eu)

def tU      (hF:Hg W ss w fs)(w8:W<=8)(sl:ss.length<=24)(gf:G pf=da (.dK (Wd fs)))(hc:EL ss w (Qb fs))(hp:∀x∈ps,x∈(w:Int)::Qb fs)
  (q:∀p (rs:List (List Ent)) o J ,Sm pf G J->G p=Aa->J p=da (.lst (rs.map oi))->J pf=da (.frk o (Wd fs))->(∀r∈rs,∃i s,CR ss fs i s r)->(∀i s,ss[i]?=da s->(s.o:Int)∈ps->(∃f∈fs,f.2.1=i)\/∃r∈rs,CR ss fs i s r)->rs.length<=24->Q (.loc p) J) :
  Va T (k+4) RI [Ta xs ss,Ec ps,.loc pf] G Q X:=by
 have rl:=rh W _ hF.nd hF.bd;simp only[Qb,bf,Ab]at rl;refine⟨rfl,?_⟩;simp! only[NI,Ub,Db,dR gf];intro o G1 p1;have ev:mi (Wd fs)=fs.map λf=>eu f.2:=by unfold mi Wd;rw[Gf];rfl
 refine⟨by rw[ev,Ab];exact Rb (show fs.length<=8 by lia) (by decide),?_⟩
 refine Mh (λu=>match u with|.tup (a::_)=>a|u=>u) p1.at (λu hu K hK=>?_) ?_
 ·rw[ev]at hu;obtain⟨f,hf,rfl⟩:=Ia.mp hu;simp! only[eu];exact⟨trivial,hK⟩
 intro pu G2 n2;have va:[]++(mi (Wd fs)).map (λu=>match u with|.tup (a::_)=>a|u=>u)=(fs.map λf=>((f.2.1:Nat):Int)).map U.int:=by
  rw[ev,Kg,Gf,Gf];rfl
 rw[va]at n2;simp! only[Ta,ix_t (Je _ _ _),Ab];refine⟨by lia,by lia,by rw[Jf];exact Rb (show((ss.length:Int)).toNat<=24 by lia) (by decide),?_⟩
 refine sg (λn y J=>J=G2/\∃I:List Nat,y=I.map (λ(i:Nat)=>U.int (i:Int))/\I.length<=n/\(∀i∈I,∃s,ss[i]?=da s/\(s.o:Int)∈ps)/\∀i s,i<n->ss[i]?=da s->(s.o:Int)∈ps->(∃f∈fs,f.2.1=i)\/i∈I) ?_ ?_ ⟨rfl,[],rfl,Jb _,λ_ h=>(nomatch h),λi s h=>by lia⟩
 ·rintro y J ⟨rfl,I,rfl,il,h1,h2⟩;rw[Jf]at il h2;refine⟨trivial,λp3 G3 n3=>?_⟩;simp! only[it_l n3.at];refine⟨by rw[Ab];exact Rb (show I.length<=24 by lia) (by decide),?_⟩
  have za:G3 pf=da (.frk o (Wd fs)):=n3.sa _ _ (n2.sa _ _ p1.at);refine sg (λn y J=>Sa G3 J/\∃rs:List (List Ent),y=rs.map oi/\rs.length<=n/\(∀r∈rs,∃i s,CR ss fs i s r)/\∀i∈I.take n,∃s,∃r∈rs,CR ss fs i s r) ?_ ?_ ⟨Sa.refl,[],rfl,Jb _,λ_ h=>(nomatch h),λi h=>by simp at h⟩
  ·rintro y G4 ⟨s4,rs,rfl,rl4,c1,c2⟩;rw[Ab]at rl4 c2;rw[Rg]at c2;refine⟨by unfold Gd;rw[s4 _ _ n3.at],λp5 G5 n5=>?_⟩
   have sm:Sm pf G G4:=λb u hb e=>s4 _ _ (n3.sa _ _ (n2.sa _ _ (p1.sm _ _ hb e)));refine q p5 rs o G5 (λb u hb e=>n5.sa _ _ (sm b u hb e)) ?_ n5.at (n5.sa _ _ (s4 _ _ za)) c1 (λi s O R=>?_) (by lia)
   ·cases e:G p5 with
    |none=>rfl
    |some u=>
     by_cases z:p5=pf
     ·have:=s4 _ _ za;rw[<- z,n5.no]at this;cases this
     ·have:=sm _ _ z e;rw[n5.no]at this;cases this
   ·rcases h2 i s (by have:=(Ba.mp O).1;lia) O R with z|z
    ·exact .inl z
    ·obtain⟨Y,r,hr,h⟩:=c2 i z;have:=h.at';rw[O]at this;cases this;exact .inr ⟨r,hr,h⟩
  ·rintro n x y G4 K Z ⟨s4,rs,rfl,rl4,c1,c2⟩ hk _;rw[md]at Z;cases ei:I[n]? with
   |none=>rw[ei]at Z;cases Z
   |some i=>
    rw[ei]at Z;cases Z;obtain⟨s,O,R⟩:=h1 i (Pd ei);have ja:=hp _ R;have ht:=hc _ _ ja (.inl (Ia.mpr ⟨s,Pd O,rfl⟩));refine⟨by unfold Gd;rw[s4 _ _ n3.at],?_⟩
    simp! only[];refine zT (xs:=xs) hF w8 (s4 _ _ za) O ja ht λr G5 s5 h5=>hk _ _ ⟨s4.trans s5,rs++[r],by rw[Ud];rfl,by simp;lia,λr' xa=>?_,λi' j=>?_⟩
    ·rcases Ma.mp xa with z|z
     ·exact c1 r' z
     ·rw[Ea.mp z];exact⟨i,s,h5⟩
    ·rw[Bh,ei]at j;rcases Ma.mp j with z|z
     ·obtain⟨Y,r',xa,h⟩:=c2 i' z;exact⟨Y,r',Gg _ xa,h⟩
     ·rw[Ea.mp z];exact⟨s,r,Ff _ (Ea.mpr rfl),h5⟩
 ·rintro n x y J K Z ⟨rfl,I,rfl,il,h1,h2⟩ hk hn;obtain⟨hi,rfl⟩:=uh Z;obtain⟨s,O⟩:∃s,ss[n]?=da s:=⟨ss[n]'(by lia),Bc _⟩
  refine⟨trivial,?_⟩;simp! only[ix_t (Je _ _ _),ix_t (Me O),Vb.u];refine⟨rfl,vq _,?_⟩;rw[fq];dsimp only;by_cases c:(s.o:Int)∈ps
  ·rw[if_pos (by rw[decide_eq_true c])]
   refine in_l n2.at rfl (vq _) ?_;rw[fq];by_cases d:((n:Nat):Int)∈fs.map λf=>((f.2.1:Nat):Int)
   ·rw[if_neg (by rw[decide_eq_true d];decide)]
    refine hn _ ⟨rfl,I,rfl,by lia,h1,λi Y j F R=>?_⟩
    by_cases e:i=n
    ·obtain⟨f,hf,ef⟩:=Ia.mp d;exact .inl ⟨f,hf,by lia⟩
    ·exact h2 i Y (by lia) F R
   ·rw[if_pos (by rw[decide_eq_false d];decide)]
    refine hk _ _ ⟨rfl,I++[n],by simp,by simp;lia,λi j=>?_,λi Y j F R=>?_⟩
    ·rcases Ma.mp j with z|z
     ·exact h1 i z
     ·rw[Ea.mp z];exact⟨s,O,c⟩
    ·by_cases e:i=n
     ·exact .inr (Ff _ (Ea.mpr e))
     ·rcases h2 i Y (by lia) F R with z|z
      ·exact .inl z
      ·exact .inr (Gg _ z)
  ·rw[if_neg (by rw[decide_eq_false c];decide)]
   refine hn _ ⟨rfl,I,rfl,by lia,h1,λi Y j F R=>?_⟩
   by_cases e:i=n
   ·subst e;rw[O]at F;cases F;exact absurd R c
   ·exact h2 i Y (by lia) F R

abbrev Wn:=List (Int×Int)
noncomputable def wu  (w:Int×Int):U:=.tup [.int w.1,.int w.2]
def Fc  (ws:Wn):U:=.tup (ws.map wu)
noncomputable def uf  (ws:Wn)(e:Ent):Int:=if e.2=1 then (ws.getD e.1 (0,0)).1 else -(ws.getD e.1 (0,0)).2
noncomputable def Af  (ws:Wn)(e:Ent):Int:=if e.2=1 then (ws.getD e.1 (0,0)).2 else -(ws.getD e.1 (0,0)).1
def Bf  (ws:Wn)(r:List Ent):Int:=(r.map (uf ws)).sum
def mf  (ws:Wn)(r:List Ent):Int:=(r.map (Af ws)).sum
def ij  (P:Int)(ws:Wn)(r:List Ent):Prop:=mf ws r/P*P<Bf ws r
noncomputable instance {P:Int} {ws:Wn} {r:List Ent}:Decidable (ij P ws r):=inferInstanceAs (Decidable (_<_))
def getW  {ws:Wn}(h:ws[i]?=da w):ws.getD i (0,0)=w:=by simp[Ad,h]
def OC   {l:List Int}(g:G a=da (.lst (l.map .int))):sumU [.loc a] G Q=Q (.int l.sum) G:=by
 unfold sumU;dsimp only;rw[g];dsimp only;rw[rF]

def CT   (wl:ws.length=ss.length)(y:ie ss e)(q:Q (.tup [.int (uf ws e),.int (Af ws e)]) G):Va T (k+1) xH [bu,Fc ws,eu e] G Q X:=by
 have F:e.1<ws.length:=by rw[wl];exact y.1
 have j:ws[e.1]?=da ws[e.1]:=Bc F;refine⟨rfl,?_⟩;simp! only[RH,Ub,Db,eu,Fc,ix_t (Me j),wu];refine⟨trivial,trivial,?_⟩;unfold uf Af at q;rw[getW j]at q;rcases y.2 with z|z
 ·rw[z,if_pos (by decide)]
  rw[if_pos z,if_pos z]at q;exact⟨by decide,q⟩
 ·rw[z,if_neg (by decide)]
  rw[if_neg (by lia),if_neg (by lia)]at q
  exact⟨by decide,q⟩
def GS   (wl:ws.length=ss.length)(Z:∀e∈r,ie ss e)(F:r.length<=30)(q:∀O,Sa G O->Q (.tup [.int (Bf ws r),.int (mf ws r)]) O):Va T (k+2) fG [Ta xs ss,.int P,bu,Fc ws,oi r] G Q X:=by
 refine⟨rfl,?_⟩;simp! only[VF,Ub,Db,oi];refine⟨by rw[Ab];exact Rb F (by decide),?_⟩
 refine Mh (λu=>match u with|.tup [.int a,.int b]=>.tup [.int (uf ws (a.toNat,b)),.int (Af ws (a.toNat,b))]|u=>u) trivial (λu hu K y=>?_) ?_
 ·obtain⟨e,J,rfl⟩:=Ia.mp hu;simp! only[];exact CT wl (Z e J) y
 intro p1 G1 j;have Y:[]++(r.map eu).map (λu=>match u with|.tup [.int a,.int b]=>U.tup [.int (uf ws (a.toNat,b)),.int (Af ws (a.toNat,b))]|u=>u)=r.map λe=>U.tup [.int (uf ws e),.int (Af ws e)]:=by
  rw[Kg,Gf];rfl
 rw[Y]at j;simp! only[it_l j.at];refine⟨by rw[Ab];exact Rb F (by decide),?_⟩
 refine Mh (λu=>match u with|.tup [a,_]=>a|u=>u) (by unfold Gd;rw[j.at]) (λu hu K y=>?_) ?_
 ·obtain⟨e,J,rfl⟩:=Ia.mp hu;simp! only[];exact⟨trivial,y⟩
 intro p2 G2 z;have t1:[]++(r.map λe=>U.tup [.int (uf ws e),.int (Af ws e)]).map (λu=>match u with|.tup [a,_]=>a|u=>u)=(r.map (uf ws)).map .int:=by
  rw[Kg,Gf,Gf];rfl
 rw[t1]at z;rw[OC z.at,it_l (z.sa _ _ j.at)];refine⟨by rw[Ab];exact Rb F (by decide),?_⟩
 refine Mh (λu=>match u with|.tup [_,b]=>b|u=>u) (by unfold Gd;rw[z.sa _ _ j.at]) (λu hu K y=>?_) ?_
 ·obtain⟨e,J,rfl⟩:=Ia.mp hu;simp! only[];exact⟨trivial,y⟩
 intro p3 R I;have t2:[]++(r.map λe=>U.tup [.int (uf ws e),.int (Af ws e)]).map (λu=>match u with|.tup [_,b]=>b|u=>u)=(r.map (Af ws)).map .int:=by
  rw[Kg,Gf,Gf];rfl
 rw[t2]at I;rw[OC I.at];exact⟨by decide,q R ((j.sa.trans z.sa).trans I.sa)⟩
def kE   (wl:ws.length=ss.length)(F:∀e∈r,ie ss e)(y:r.length<=30)(p1:1<=P)(I:P<=600)(q:∀j,Sa G j->Q (.bl (decide (ij P ws r))) j):Va T (k+3) Qz [Ta xs ss,.int P,bu,Fc ws,oi r] G Q X:=by
 refine⟨rfl,?_⟩;simp! only[FG,Ub,Db];refine GS wl F y λz s1=>?_;simp! only[];exact⟨trivial,by lia,by lia,.inr (by constructor<;>lia),q z s1⟩

noncomputable def eL  (L:List Int)(e:Ent):Int:=e.2*L.getD e.1 0
def sumL  (L:List Int)(r:List Ent):Int:=(r.map (eL L)).sum
def eL_1    (h:e.2=1):eL L e=L.getD e.1 0:=by unfold eL;rw[h];lia
def eL_m    (h:e.2=-1):eL L e=-L.getD e.1 0:=by unfold eL;rw[h];lia
def WQ   L e:eL L (Vf e)=-eL L e:=by unfold eL Vf;simp[Int.neg_mul]
def pE  {L:List Int}(h:L[i]?=da x):L.getD i 0=x:=by simp[Ad,h]
structure Wi (L:List Int)(ws:Wn):Prop where
 l:L.length=ws.length
 b:∀(i:Nat) (w:Int×Int),ws[i]?=da w->w.1<=L.getD i 0/\L.getD i 0<=w.2
def Wi.ent     (h:Wi L ws)(wl:ws.length=ss.length)(q:ie ss e):uf ws e<=eL L e/\eL L e<=Af ws e:=by
 have j:ws[e.1]?=da (ws[e.1]'(by rw[wl];exact q.1)):=Bc _
 have:=h.b _ _ j;unfold uf Af;rw[getW j];rcases q.2 with z|z
 ·rw[if_pos z,if_pos z,eL_1 z];exact this
 ·rw[if_neg (by lia),if_neg (by lia),eL_m z];lia
theorem Wi.sum     (h:Wi L ws)(wl:ws.length=ss.length):∀{r },(∀e∈r,ie ss e)->Bf ws r<=sumL L r/\sumL L r<=mf ws r
 |[],_=>by simp[Bf,mf,sumL]
 |e::r,hr=>by
  have J:=h.ent wl (hr e Re);have I:=Wi.sum h wl (r:=r) λx j=>hr x (Oc _ j);have y:Bf ws (e::r)=uf ws e+Bf ws r:=by simp[Bf]
  have q:mf ws (e::r)=Af ws e+mf ws r:=by simp[mf]
  have F:sumL L (e::r)=eL L e+sumL L r:=by simp[sumL]
  rw[y,q,F];lia
noncomputable def bt  (bs:List Int)(x:Int):Int:=bs.getD x.toNat 0
def AC  {bs:List Int}{x:Int}(h0:0<=x)(y:x<bs.length):atI (bs.map U.int) x=da (.int (bt bs x)):=by
 obtain⟨j,rfl⟩:=Gi h0;have q:j<bs.length:=by lia
 have:bs[j]?=da (bt bs (j:Int)):=by unfold bt;simp[Ad,q]
 exact Me this
def BO    (h0:0<=x)(q:x<bs.length)(j:0<=y):bt (bs.set x.toNat v) y=if y=x then v else bt bs y:=by
 unfold bt;by_cases e:y=x
 ·subst e;rw[if_pos rfl];simp[Ad,show y.toNat<bs.length by lia]
 ·rw[if_neg e];simp only[Ad];rw[aj (by lia)]
def TD    (h0:0<=x)(j:x<bs.length):bt bs x∈bs:=by
 unfold bt;have:x.toNat<bs.length:=by lia
 simp[Ad,this]
def Kp  (ss:List Vb)(L:List Int)(P:Int)(bs:List Int)(e:Ent):Prop:=P ∣ bt bs (eS ss e)+eL L e-bt bs (eD ss e)
def Lu  (ss:List Vb)(G:Gp)(j:U)(L:List Int):Prop:=L.length=ss.length/\((∃p,j=.loc p/\G p=da (.lst (L.map .int)))\/j=Ec L)
def Lu.sa      (h:Lu ss G y L)(s:Sa G G'):Lu ss G' y L:=by
 obtain⟨j,⟨p,e,g⟩|q⟩:=h
 ·exact⟨j,.inl ⟨p,e,s _ _ g⟩⟩
 ·exact⟨j,.inr q⟩
def Lu.ix        (h:Lu ss G I L)(F:ie ss e)(q:Q (.int (L.getD e.1 0)) G):Ce I (.int e.1) G Q:=by
 have y:e.1<L.length:=by rw[h.1];exact F.1
 have j:L[e.1]?=da (L.getD e.1 0):=by simp[Ad,y]
 rcases h.2 with⟨p,rfl,g⟩|rfl
 ·rw[ix_l g (Me j)];exact q
 ·rw[show Ec L=.tup (L.map .int)from rfl,ix_t (Me j)];exact q

def qU       (O:Hg W ss w fs)(w8:W<=8)(va:Lu ss G lu L)(p1:1<=P)(p2:P<=600)(bl:bs.length=W)(bb:∀b∈bs,0<=b/\b<P)(gf:G pf=da (.frk o (Wd fs)))
  (q:∀(F:List Int) G' ,Sa G G'->F.length=W->(∀b∈F,0<=b/\b<P)->(∀x,0<=x->x∉Qb fs->bt F x=bt bs x)->(∀f∈fs,Kp ss L P F f.2)->Q (Ec F) G') :
  Va T (k+2) wI [Ta xs ss,.int P,Ec bs,.loc pf,lu] G Q X:=by
 have rl:=rh W _ O.nd O.bd;simp only[Qb,bf,Ab]at rl;refine⟨rfl,?_⟩;simp! only[mI,Ub,Db,Ec];intro Z G1 n1;simp! only[uE (n1.sa _ _ gf)];have ei:Ck (Wd fs)=fs.map λf=>U.tup [.int f.1,eu f.2]:=by unfold Ck Wd;rw[Gf];rfl
 rw[ei];have zb:pf≠Z:=λz=>by rw[z,n1.no]at gf;cases gf
 refine dg (λj ς G'=>∃(F:List Int) (o6 o7 o8 o9:Option U),ς=[da (Ta xs ss),da (.int P),da (.tup (bs.map .int)),da (.loc pf),da lu,da (.loc Z),o6,o7,o8,o9]/\Sa G G'/\G' Z=da (.lst (F.map .int))/\F.length=W/\(∀b∈F,0<=b/\b<P)/\(∀x,0<=x->x∉Qb (fs.take j)->bt F x=bt bs x)/\∀i f,i<j->fs[i]?=da f->Kp ss L P F f.2) ?_ ?_
  ⟨bs,_,_,_,_,rfl,n1.sa,n1.at,bl,bb,λ_ _ _=>rfl,λi f h=>by lia⟩
 ·rintro ς G2 ⟨F,o6,o7,o8,o9,rfl,s2,g2,l2,b2,k2,h2⟩;rw[Ab]at k2 h2;rw[Rg]at k2;refine⟨s2 _ _ gf,?_⟩;simp! only[it_l g2];exact q F G2 s2 l2 b2 k2 λf hf=>by
   obtain⟨i,hi,e⟩:=Lg hf;exact h2 i f hi (by rw[Bc hi,e])
 ·rintro j u ς G2 K hu ⟨F,o6,o7,o8,o9,rfl,s2,g2,l2,b2,k2,h2⟩ hk;rw[md]at hu;cases R:fs[j]? with
  |none=>rw[R]at hu;cases hu
  |some f=>
   rw[R]at hu;cases hu;obtain⟨h1,hS,hD⟩:=O.en j f R;have bx:=O.bd f.1 (Oc _ (lq R));have bD:=O.bd _ (GE hD);have nd:=Za.mp O.nd;have new:∀y,y∈(w:Int)::Qb (fs.take j)->y≠f.1:=λy Y z=>by
    rcases Mc.mp Y with z'|z'
    ·exact nd.1 (by rw[<- z',z];exact lq R)
    ·obtain⟨i,f',hi,I,e'⟩:=uq z';have a1:(Qb fs)[i]?=da f.1:=by unfold Qb;rw[md,I,BB,e',z]
     have a2:(Qb fs)[j]?=da f.1:=by unfold Qb;rw[md,R];rfl
     have:=(tK (Ba.mp a1).1 nd.2).mp (a1.trans a2.symm)
     lia
   refine⟨s2 _ _ gf,?_⟩;simp! only[eu];refine⟨trivial,trivial,by decide,?_⟩
   refine Ky (e:=f.2) h1 ?_;rw[ix_t (Je _ _ _)];simp! only[ix_l g2 (AC bD.1 (show eD ss f.2<(F.length:Int) by omega))]
   refine(va.sa s2).ix h1 ?_;refine⟨.inl (by rcases h1.2 with z|z<;>rw[z]<;>constructor<;>lia),by lia,?_⟩
   obtain⟨xn,wa⟩:=Gi bx.1;rw[wa,HM g2 (sQ (by rw[Ab];lia))]
   intro G3 p3;obtain⟨v,hv⟩:∃v,v=(bt F (eD ss f.2)-f.2.2*L.getD f.2.1 0)%P:=⟨_,rfl⟩;have v0:0<=v:=by rw[hv];exact Ej _ (by lia)
   have v1:v<P:=by rw[hv];exact Hj _ (by lia)
   rw[<- hv,<- List.map_set]at p3;have J:∀y,0<=y->bt (F.set xn v) y=if y=f.1 then v else bt F y:=λy Y=>by
    have:=BO (bs:=F) (v:=v) (y:=y) bx.1 (by lia) Y
    rw[show f.1.toNat=xn by lia]at this
    exact this
   refine hk _ _ ⟨F.set xn v,_,_,_,_,rfl,λb u' hb=>p3.sm _ _ (λz=>by rw[z,n1.no]at hb;cases hb) (s2 _ _ hb),p3.at,by simp[l2],λb hb=>?_,λy Y hn=>?_,λi f' hi I=>?_⟩
   ·rcases YK hb with z|z
    ·exact b2 b z
    ·rw[z];exact⟨v0,v1⟩
   ·rw[Bh,R]at hn;have ya:y∉Qb (fs.take j):=λz=>hn (by simp[Qb]at z ⊢;exact .inl z)
    have ha:y≠f.1:=λz=>hn (by simp[Qb,z])
    rw[J y Y,if_neg ha,k2 y Y ya]
   ·by_cases e:i=j
    ·subst e;rw[R]at I;cases I;unfold Kp;rw[hS,J _ bx.1,if_pos rfl,J _ bD.1,if_neg (new _ hD)];refine⟨-((bt F (eD ss f.2)-f.2.2*L.getD f.2.1 0)/P),?_⟩;have:=wB (bt F (eD ss f.2)-f.2.2*L.getD f.2.1 0) P;rw[<- hv]at this;unfold eL;rw[Int.mul_neg]
     lia
    ·have xa:i<j:=by lia
     obtain⟨o1,oS,oD⟩:=O.en i f' I;have ka:=O.bd f'.1 (Oc _ (lq I));have za:=O.bd _ (GE oD);have ja:∀y,y∈(w:Int)::Qb (fs.take i)->y∈(w:Int)::Qb (fs.take j):=λy Y=>by
      rcases Mc.mp Y with z|z
      ·rw[z];simp
      ·obtain⟨i2,f2,xb,e2,e3⟩:=uq z;refine Oc _ (Ia.mpr ⟨f2,?_,e3⟩);exact Pd (i:=i2) (by rw[iK,if_pos (by lia)];exact e2)
     have mS:f'.1∈(w:Int)::Qb (fs.take j):=by
      refine Oc _ (Ia.mpr ⟨f',?_,rfl⟩);exact Pd (i:=i) (by rw[iK,if_pos xa];exact I)
     have:=h2 i f' xa I;unfold Kp at this ⊢;rw[oS]at this ⊢;rw[J _ ka.1,if_neg (new _ mS),J _ za.1,if_neg (new _ (ja _ oD))];exact this

section
variable {ss:List Vb}{L:List Int}{P:Int}{bs:List Int}
theorem sx  : ∀{r } {a b },(∀e∈r,Kp ss L P bs e)->Wk ss r a b->P ∣ bt bs a+sumL L r-bt bs b
 |[],a,b,_,h=>by
  rw[show a=b from h];exact⟨0,by simp[sumL]⟩
 |e::r,a,b,hk,⟨_,h2,h3⟩=>by
  have z:=hk e Re;have F:=sx (λy I=>hk y (Oc _ I)) h3;have:=Int.dvd_add z F;rw[h2]at this;have j:sumL L (e::r)=eL L e+sumL L r:=by simp[sumL]
  rw[j];have q:bt bs a+eL L e-bt bs (eD ss e)+(bt bs (eD ss e)+sumL L r-bt bs b)=bt bs a+(eL L e+sumL L r)-bt bs b:=by lia
  rw[q]at this;exact this
def Kp.flip   (h:Kp ss L P bs e)(y:ie ss e):Kp ss L P bs (Vf e):=by
 obtain⟨_,q,j⟩:=y.flip;unfold Kp at h ⊢;rw[q,j,WQ];have:=Int.dvd_neg.mpr h;rw[show -(bt bs (eS ss e)+eL L e-bt bs (eD ss e))=bt bs (eD ss e) + -eL L e-bt bs (eS ss e) by lia]at this
 exact this
def ZU   e:Vf (Vf e)=e:=by unfold Vf;simp
def Tf.kp    (h:Tf fs e)(q:ie ss e)(hk:∀f∈fs,Kp ss L P bs f.2):Kp ss L P bs e:=by
 obtain⟨f,j,z|z⟩:=h
 ·rw[<- z];exact hk f j
 ·have:=hk f j;rw[z]at this;have:=this.flip q.flip.1;rw[ZU]at this;exact this
def BV    (hk:∀i,i<ss.length->Kp ss L P bs (i,1))(j:Wk ss r a a):P ∣ sumL L r:=by
 have all:∀e∈r,Kp ss L P bs e:=λe y=>?_
 ·have:=sx all j;rw[show bt bs a+sumL L r-bt bs a=sumL L r by lia]at this
  exact this
 ·have ok:=j.all e y;have q:=hk e.1 ok.1;rcases ok.2 with z|z
  ·rw[show e=(e.1,1)from Jk rfl z];exact q
  ·have:=q.flip (e:=(e.1,1)) ⟨ok.1,.inl rfl⟩;rw[show Vf (e.1,1)=e from Jk rfl (by simp[Vf,z])]at this
   exact this
end
def iU  {p:List Int}(h:p≠[]):p.headD 0∈p:=by
 cases p with
 |nil=>exact absurd rfl h
 |cons a r=>simp
def Ze.apart     (h:Ze W es ps)(F:ps[n]?=da p)(j:q∈ps.take n)(R:x∈p)(O:x∈q):False:=by
 have e:=h.un p (Pd F) q (Jo j) x R O;subst e;obtain⟨i,J,y⟩:=Lg j;rw[Tk]at J;rw[uK]at y;have I:ps[i]?=da p:=by rw[Bc (by lia),y]
 have:=(tK (by lia) h.nd).mp (I.trans F.symm)
 lia

def Kw  (ss:List Vb)(P:Int)(ws:Wn)(b:List Int)(i:Nat):Prop:=∃l,(ws.getD i (0,0)).1<=l/\l<=(ws.getD i (0,0)).2/\P ∣ bt b (eS ss (i,1))+l-bt b (eD ss (i,1))
inductive Cs (ss:List Vb)(P:Int):Nat->Nat->Wn->U->Prop
 |ring {n:Nat} {ws:Wn} {r:List Ent} {a:Int}:Wk ss r a a->r≠[]->r.length<=30->ij P ws r->Cs ss P n 1 ws (.tup [.str "ring",oi r])
 |split {n m1 m2:Nat} {ws:Wn} {s:Nat} {l h cut:Int} {c1 c2:U}:ws[s]?=da (l,h)->l<=cut->cut<h->Cs ss P n m1 (ws.set s (l,cut)) c1->Cs ss P n m2 (ws.set s (cut+1,h)) c2->Cs ss P (n+1) (m1+m2+1) ws (.tup [.str "split",.int s,.int cut,c1,c2])
section
variable {ss:List Vb}{P:Int}{ws:Wn}{b:List Int}
def QO  (wl:ws.length=ss.length)(h:∀i,i<ss.length->Kw ss P ws b i):∃L,Wi L ws/\∀i,i<ss.length->Kp ss L P b (i,1):=by
 have q:∀i,∃l,i<ss.length->(ws.getD i (0,0)).1<=l/\l<=(ws.getD i (0,0)).2/\P ∣ bt b (eS ss (i,1))+l-bt b (eD ss (i,1)):=λi=>by
  by_cases j:i<ss.length
  ·obtain⟨l,I⟩:=h i j;exact⟨l,λ_=>I⟩
  ·exact⟨0,λz=>absurd z j⟩
 obtain⟨f,y⟩:∃f:Nat->Int,∀i,i<ss.length->(ws.getD i (0,0)).1<=f i/\f i<=(ws.getD i (0,0)).2/\P ∣ bt b (eS ss (i,1))+f i-bt b (eD ss (i,1)):=⟨λi=>YJ (q i),λi=>BK (q i)⟩;have F:∀i,i<ss.length->((Ge ss.length).map f).getD i 0=f i:=λi j=>by simp[Ad,j]
 refine⟨(Ge ss.length).map f,⟨by simp[wl],λi w e=>?_⟩,λi j=>?_⟩
 ·have j:i<ss.length:=by rw[<- wl];exact(Ba.mp e).1
  have:=y i j;rw[F i j];rw[getW e]at this;exact⟨this.1,this.2.1⟩
 ·unfold Kp;rw[eL_1 rfl,F i j];exact(y i j).2.2
def Wi.set     (h:Wi L ws)(y:w.1<=L.getD s 0)(j:L.getD s 0<=w.2):Wi L (ws.set s w):=by
 refine⟨by rw[Ci];exact h.l,λi q e=>?_⟩
 by_cases c:i=s
 ·subst c;have F:i<ws.length:=by
   have:=(Ba.mp e).1
   rwa [Ci]at this
  rw[Yk F]at e;cases e;exact⟨y,j⟩
 ·rw[aj (λz=>c z.symm)]at e;exact h.b i q e
def Cs.no     (h:Cs ss P n m ws c)(p1:1<=P):ws.length=ss.length->∀L,Wi L ws->(∀i,i<ss.length->Kp ss L P b (i,1))->False:=by
 induction h with
 |@ring n ws r a I _ _ R=>
  intro wl L j hk;have s:=j.sum wl I.all;obtain⟨q,O⟩:=BV hk I;unfold ij at R;have:q<=mf ws r/P:=Int.le_ediv_of_mul_le (by lia) (by rw[iw,<- O];exact s.2)
  have:=Int.mul_le_mul_of_nonneg_right this (show 0<=P by lia)
  rw[iw q P]at this
  lia
 |@split n m1 Y ws s l h cut c1 c2 J h1 Z _ _ y F=>
  intro wl L j hk;have b:=j.b s _ J;by_cases c:L.getD s 0<=cut
  ·exact y (by rw[Ci];exact wl) L (j.set b.1 c) hk
  ·exact F (by rw[Ci];exact wl) L (j.set (by show cut+1<=_;lia) b.2) hk
structure Tm (P:Int)(fs:List (Int×Ent))(rs:List (List Ent))(ws ws':Wn):Prop where
 l:ws'.length=ws.length
 sub:∀(i:Nat) (w w':Int×Int),ws[i]?=da w->ws'[i]?=da w'->w.1<=w'.1/\w'.1<=w'.2/\w'.2<=w.2
 pt:∀f∈fs,∀w',ws'[f.2.1]?=da w'->w'.1=w'.2
 nb:∀r∈rs,¬ij P ws' r
def Tm.kw       (h:Tm P fs rs ws j)(wl:ws.length=ss.length)(p1:1<=P)(hk:∀f∈fs,ie ss f.2/\Kp ss (j.map (·.1)) P b f.2)(I:ss[i]?=da s)
  (hr:(∃f∈fs,f.2.1=i)\/∃r∈rs,CR ss fs i s r):Kw ss P ws b i:=by
 have il:=(Ba.mp I).1;have O:ws[i]?=da (ws[i]'(by lia)):=Bc _
 have q:j[i]?=da (j[i]'(by rw[h.l];lia)):=Bc _
 generalize ws[i]'(by lia)=w at O
 generalize j[i]'(by rw[h.l];lia)=w' at q
 have sb:=h.sub i w w' O q;have lw:(j.map (·.1)).getD i 0=w'.1:=pE (by rw[md,q];rfl)
 unfold Kw;rw[getW O];rcases hr with⟨f,F,rfl⟩|⟨r,hr,cr⟩
 ·obtain⟨ok,kf⟩:=hk f F;have Y:Kp ss (j.map (·.1)) P b (f.2.1,1):=by
   rcases ok.2 with z|z
   ·rw[show(f.2.1,(1:Int))=f.2 from Jk rfl z.symm];exact kf
   ·have:=kf.flip ok;rw[show Vf f.2=(f.2.1,1)from Jk rfl (by simp[Vf,z])]at this
    exact this
  unfold Kp at Y;rw[eL_1 rfl,lw]at Y;exact⟨w'.1,sb.1,by lia,Y⟩
 ·have nb:=h.nb r hr;obtain⟨y,rfl,ht⟩:=cr.tl;obtain⟨_,_,w3⟩:=cr.wk;have t:=sx (λe he=>(ht e he).kp (w3.all e he) λf F=>(hk f F).2) w3;have xa:∀r:List Ent,(∀e∈r,Tf fs e)->(∀e∈r,ie ss e)->Bf j r=sumL (j.map (·.1)) r/\mf j r=sumL (j.map (·.1)) r:=λr=>by
   induction r with
   |nil=>intros;exact⟨rfl,rfl⟩
   |cons e r ih=>
    intro h1 h2;obtain⟨i1,i2⟩:=ih (λx R=>h1 x (Oc _ R)) λx R=>h2 x (Oc _ R);obtain⟨f,F,z⟩:=h1 e Re;have ok:=h2 e Re;have ef:f.2.1=e.1:=by rcases z with z|z<;>rw[z]<;>rfl
    have J:j[e.1]?=da (j[e.1]'(by rw[h.l,wl];exact ok.1)):=Bc _
    generalize j[e.1]'(by rw[h.l,wl];exact ok.1)=v at J
    have pv:=h.pt f F v (by rw[ef];exact J)
    have lv:(j.map (·.1)).getD e.1 0=v.1:=pE (by rw[md,J];rfl)
    have one:uf j e=eL (j.map (·.1)) e/\Af j e=eL (j.map (·.1)) e:=by
     unfold uf Af;rw[getW J];rcases ok.2 with z|z
     ·rw[if_pos z,if_pos z,eL_1 z,lv];lia
     ·rw[if_neg (by lia),if_neg (by lia),eL_m z,lv];lia
    have Z:Bf j (e::r)=uf j e+Bf j r:=by simp[Bf]
    have a2:mf j (e::r)=Af j e+mf j r:=by simp[mf]
    have a3:sumL (j.map (·.1)) (e::r)=eL (j.map (·.1)) e+sumL (j.map (·.1)) r:=by simp[sumL]
    rw[Z,a2,a3,one.1,one.2,i1,i2];exact⟨rfl,rfl⟩
  obtain⟨q1,q2⟩:=xa y ht w3.all;generalize sumL (j.map (·.1)) y=S at t q1 q2;have b1:Bf j ((i,1)::y)=w'.1+S:=by
   have Z:Bf j ((i,1)::y)=uf j (i,1)+Bf j y:=by simp[Bf]
   rw[Z,q1];unfold uf;rw[if_pos rfl,getW q]
  have b2:mf j ((i,1)::y)=w'.2+S:=by
   have a2:mf j ((i,1)::y)=Af j (i,1)+mf j y:=by simp[mf]
   rw[a2,q2];unfold Af;rw[if_pos rfl,getW q]
  unfold ij at nb;rw[b1,b2]at nb;have m1:=Int.ediv_mul_le (w'.2+S) (show P≠0 by lia)
  rw[eD_1 I]at t;refine⟨(w'.2+S)/P*P-S,by lia,by lia,?_⟩
  rw[eS_1 I,eD_1 I];have d1:P ∣ (w'.2+S)/P*P:=⟨(w'.2+S)/P,iw _ _⟩;have:=Int.dvd_sub d1 t;rw[show(w'.2+S)/P*P-(bt b s.t+S-bt b s.o)=bt b s.o+((w'.2+S)/P*P-S)-bt b s.t by lia]at this
  exact this
end


def IS   (I:q=ws)(q0:(∀w∈ws,w.1<=w.2)->Q .non G)(q1:∀(i:Nat) (w:Int×Int),ws[i]?=da w->w.2<w.1->Q (.int i) G):Va T (k+1) yH [Fc q] G Q X:=by
 subst I;refine⟨rfl,?_⟩;simp! only[nH,Ub,Db,Fc];refine dg (λi F O=>∃o1 o2 o3:Option U,F=[da (Fc q),o1,o2,o3]/\O=G/\∀j w,j<i->q[j]?=da w->w.1<=w.2) ?_ ?_ ⟨_,_,_,rfl,rfl,λj w h=>by lia⟩
 ·rintro F O ⟨o1,o2,o3,rfl,rfl,h⟩;rw[Ym,Ab]at h;refine⟨trivial,?_⟩;simp! only[];exact q0 λw I=>by
   obtain⟨j,J,e⟩:=Lg I;exact h j w J (by rw[Bc J,e])
 ·rintro i x F O K R ⟨o1,o2,o3,rfl,rfl,h⟩ hk;obtain⟨u,hu,rfl⟩:=io R;rw[md]at hu;cases y:q[i]? with
  |none=>rw[y]at hu;cases hu
  |some w=>
   rw[y]at hu;have hu:=(Ee hu).symm;subst hu;refine⟨trivial,?_⟩;simp! only[wu];refine⟨trivial,trivial,?_⟩;by_cases c:w.2<w.1
   ·rw[if_pos (by simpa using c)]
    rw[show((0+i:Nat):Int)=(i:Int) by lia]
    exact q1 i w y c
   ·rw[if_neg (by simpa using c)]
    refine hk _ _ ⟨_,_,_,rfl,rfl,λj Y J z=>?_⟩;by_cases e:j=i
    ·subst e;rw[y]at z;cases z
     lia
    ·exact h j Y (by lia) z
def JS     (O:G pf=da (.frk o (Wd fs)))(wl:ws.length=ss.length)(Z:∀f∈fs,ie ss f.2)(q0:(∀f∈fs,∀w,ws[f.2.1]?=da w->¬w.1<w.2)->Q .non G)
  (q1:∀f∈fs,∀w,ws[f.2.1]?=da w->w.1<w.2->Q (.int f.2.1) G):Va T (k+1) zH [.loc pf,Fc ws] G Q X:=by
 refine⟨rfl,?_⟩;simp! only[oH,Ub,Db,uE O];have ev:mi (Wd fs)=fs.map λf=>eu f.2:=by unfold mi Wd;rw[Gf];rfl
 rw[ev];refine dg (λi J R=>∃o2 o3 o4 o5:Option U,J=[da (.loc pf),da (Fc ws),o2,o3,o4,o5]/\R=G/\∀f∈fs.take i,∀w,ws[f.2.1]?=da w->¬w.1<w.2) ?_ ?_ ⟨_,_,_,_,rfl,rfl,λf h=>by simp at h⟩
 ·rintro J R ⟨o2,o3,o4,o5,rfl,rfl,h⟩;rw[Ab,Rg]at h;refine⟨O,?_⟩;simp! only[];exact q0 h
 ·rintro i x J R K q ⟨o2,o3,o4,o5,rfl,rfl,h⟩ hk;rw[md]at q;cases F:fs[i]? with
  |none=>rw[F]at q;cases q
  |some f=>
   rw[F]at q;cases q;have Y:=Pd F;have il:f.2.1<ws.length:=by rw[wl];exact(Z f Y).1
   have I:ws[f.2.1]?=da ws[f.2.1]:=Bc il;generalize ws[f.2.1]=w at I;refine⟨O,?_⟩;simp! only[eu,Fc,ix_t (Me I),wu];refine⟨trivial,trivial,?_⟩;by_cases c:w.1<w.2
   ·rw[if_pos (by simpa using c)]
    exact q1 f Y w I c
   ·rw[if_neg (by simpa using c)]
    refine hk _ _ ⟨_,_,_,_,rfl,rfl,λf' y w' j=>?_⟩;rw[Bh,F]at y;rcases Ma.mp y with z|z
    ·exact h f' z w' j
    ·rw[Ea.mp z,I]at j;cases j;exact c
def Ou  {s:Nat}(hs:s<ws.length)(wl:ws.length<=24)(q:Q (Fc (ws.set s w)) G):Va T (k+1) zq [Fc ws,.int s,wu w] G Q X:=by
 refine⟨rfl,?_⟩;simp! only[qI,Ub,Db,Fc];have z:cut (ws.map wu) Aa (da (s:Int))=(ws.take s).map wu:=by rw[Rn,gB]
 have j:cut (ws.map wu) (da ((s:Int)+1)) Aa=(ws.drop (s+1)).map wu:=by
  have:=XS (ws.map wu) (s+1);rw[List.map_drop];exact this
 rw[z,j];refine⟨by decide,Rb (show _<=30 by simp;lia) (by decide),Rb (show _<=60 by simp;lia) (by decide),?_⟩
 have y:(ws.take s).map wu++[wu w]++(ws.drop (s+1)).map wu=(ws.set s w).map wu:=by
  rw[List.set_eq_take_append_cons_drop,if_pos hs];simp
 rw[y];exact q
def vU  {s:Nat}(hs:ws[s]?=da w)(wl:ws.length<=24)(q:Q (.tup [.int ((w.1+w.2)/2),.tup [Fc (ws.set s (w.1,(w.1+w.2)/2)),Fc (ws.set s ((w.1+w.2)/2+1,w.2))]]) G):Va T (k+2) wF [Fc ws,.int s] G Q X:=by
 have j:=(Ba.mp hs).1;refine⟨rfl,?_⟩;simp! only[KE,Ub,Db,Fc,ix_t (Me hs)];show Lc _ (.tup [.int w.1,.int w.2]) _ _;simp! only[];refine⟨trivial,by decide,by decide,by decide,?_⟩
 refine Ou (ws:=ws) (w:=(w.1,(w.1+w.2)/2)) j wl ?_
 simp! only[];refine⟨by decide,?_⟩
 refine Ou (ws:=ws) (w:=((w.1+w.2)/2+1,w.2)) j wl ?_
 exact⟨by decide,by decide,q⟩

def Tm.of        (hs:ws[s]?=da w)(e:j=ws.set s v)(O:w.1<=v.1)(J:v.2<=w.2)(h:Tm P fs rs j q):Tm P fs rs ws q:=by
 subst e;have I:=(Ba.mp hs).1;refine⟨by rw[h.l,Ci],λi a b y F=>?_,h.pt,h.nb⟩
 by_cases c:i=s
 ·subst c;rw[hs]at y;cases y;have:=h.sub i v b (Yk I) F
  lia
 ·exact h.sub i a b (by rw[aj (λz=>c z.symm)];exact y) F
def LR   n:(2:Int) ^ (n+1)=2*2 ^ n:=by rw[Int.pow_succ,iw]
def oO  {l h:Int}(q:l<h)(j:h-l<2 ^ n):∃m,n=m+1/\(l+h)/2-l<2 ^ m/\h-((l+h)/2+1)<2 ^ m:=by
 cases n with
 |zero=>exact absurd j (by have:(2:Int) ^ 0=1:=rfl;lia)
 |succ m=>
  refine⟨m,rfl,?_⟩;rw[LR]at j;generalize (2:Int) ^ m=x at j
  lia
noncomputable def pk  (e:Nat->Nat)(s m i:Nat):Nat:=if i=s then m else e i
theorem cF    (F:e s=m+1):∀{fs:List (Int×Ent)},(fs.map λf=>pk e s m f.2.1).sum<=(fs.map λf=>e f.2.1).sum/\((∃f∈fs,f.2.1=s)->(fs.map λf=>pk e s m f.2.1).sum<(fs.map λf=>e f.2.1).sum)
 |[]=>⟨Jb _,λ⟨_,h,_⟩=>(nomatch h)⟩
 |f::fs=>by
  obtain⟨O,J⟩:=cF F (fs:=fs);simp only[He,List.sum_cons];by_cases c:f.2.1=s
  ·have j:pk e s m f.2.1=m:=if_pos c;rw[j,c,F];exact⟨by lia,λ_=>by lia⟩
  ·have j:pk e s m f.2.1=e f.2.1:=if_neg c;rw[j];refine⟨by lia,λ⟨I,y,q⟩=>?_⟩
   rcases Mc.mp y with z|z
   ·rw[z]at q;exact absurd q c
   ·have:=J ⟨I,z,q⟩;lia
def Sk  (xs:List Str)(ss:List Vb)(P:Int)(fs:List (Int×Ent))(rs:List (List Ent))(pf pr:Ca)(o:Obj)(bu:U)(n:Nat):Prop:=
 ∀(k:Nat) (G:Gp) (Q:K1) (X:KX) (ws:Wn) (e:Nat->Nat),ws.length=ss.length->(∀w∈ws,w.1<=w.2)->(∀f∈fs,∀v,ws[f.2.1]?=da v->v.2-v.1<2 ^ (e f.2.1))->(fs.map λf=>e f.2.1).sum<=n->G pf=da (.frk o (Wd fs))->G pr=da (.lst (rs.map oi))->
  (∀(c:U) (m:Nat) (G':Gp),Sa G G'->Cs ss P n m ws c->Q (.tup [.str "none",c]) G')->(∀(j:Wn) (G':Gp),Sa G G'->Tm P fs rs ws j->Q (.tup [.str "times",Fc j]) G')->Va T (k+n+4) Fu [Ta xs ss,.int P,bu,.loc pf,.loc pr,Fc ws] G Q X

def vG   (hF:Hg W ss w fs)(w8:W<=8)(sl:ss.length<=24)(p1:1<=P)(p2:P<=600)(ha:∀r∈rs,∃i s,CR ss fs i s r)(ih:∀m,n=m+1->Sk xs ss P fs rs pf pr o bu m):Sk xs ss P fs rs pf pr o bu n:=by
 intro k G Q X ws e wl nv hm hs gf gr q1 q2;have hf:∀f∈fs,ie ss f.2:=λf hf=>by
  obtain⟨j,hj,ej⟩:=Lg hf;exact(hF.en j f (by rw[Bc hj,ej])).1
 have wa:=rh _ _ hF.nd hF.bd;simp only[Qb,bf,Ab]at wa;refine⟨rfl,?_⟩;simp! only[UD,Ub,Db,it_l gr];refine dg (λi ς O=>∃o6:Option U,ς=[da (Ta xs ss),da (.int P),da bu,da (.loc pf),da (.loc pr),da (Fc ws),o6,Aa,Aa,Aa,Aa,Aa,Aa,Aa]/\Sa G O/\∀r∈rs.take i,¬ij P ws r) ?_ ?_ ⟨_,rfl,Sa.refl,λr hr=>by simp at hr⟩
 ·rintro ς I ⟨o6,rfl,s1,nb⟩;rw[Ab,Rg]at nb;have yb:=s1 _ _ gf;refine⟨by unfold Gd;rw[s1 _ _ gr],?_⟩
  simp! only[fF];refine JS (ss:=ss) yb wl hf (λhn=>?_) λf fm v Y c=>?_
  ·have za:∀kk:Bool->Prop,kk ma->Oh .non .non kk:=λ_ h=>h;simp! only[mz];refine za _ ?_;rw[if_pos rfl];refine⟨by decide,q2 ws I s1 ⟨rfl,λi a b ea eb=>?_,λf xa v Y=>?_,nb⟩⟩
   ·rw[ea]at eb;cases eb;have:=nv a (Pd ea)
    lia
   ·have:=hn f xa v Y;have:=nv v (Pd Y)
    lia
  ·have za:∀kk:Bool->Prop,kk ua->Oh (.int (f.2.1:Int)) .non kk:=λ_ h=>h;simp! only[mz];refine za _ ?_;rw[if_neg (by decide)]
   obtain⟨m',zb,c1,c2⟩:=oO c (hm f fm v Y);have xc:=(cF (s:=f.2.1) zb (fs:=fs)).2 ⟨f,fm,rfl⟩;obtain⟨m,rfl⟩:∃m,n=m+1:=⟨n-1,by lia⟩
   have il:=(Ba.mp Y).1;generalize va:(v.1+v.2)/2=ct at c1 c2;have l1:v.1<=ct:=by lia
   have l2:ct<v.2:=by lia
   simp! only[gF];refine vU (ws:=ws) Y (by lia) ?_
   rw[va];simp! only[];refine⟨trivial,?_⟩;simp! only[iF];refine⟨by decide,λpc G2 n2=>?_⟩
   simp! only[jF];have ya:∀(x:Int×Int),v.1<=x.1->x.1<=x.2->x.2<=v.2->x.2-x.1<2 ^ m'->(ws.set f.2.1 x).length=ss.length/\(∀y∈ws.set f.2.1 x,y.1<=y.2)/\∀R∈fs,∀y,(ws.set f.2.1 x)[R.2.1]?=da y->y.2-y.1<2 ^ (pk e f.2.1 m' R.2.1):=λx x1 x2 x3 x4=>by
    refine⟨by rw[Ci];exact wl,λy hy=>?_,λR xa y ey=>?_⟩
    ·rcases YK hy with z|z
     ·exact nv y z
     ·rw[z];exact x2
    ·by_cases z:R.2.1=f.2.1
     ·rw[z,Yk il]at ey;cases ey;rw[show pk e f.2.1 m' R.2.1=m' from if_pos z];exact x4
     ·rw[aj (λy=>z y.symm)]at ey;rw[show pk e f.2.1 m' R.2.1=e R.2.1 from if_neg z];exact hm R xa y ey
   refine dg (λj ς O=>∃(F:List U) (o11 o12 o13:Option U),ς=[da (Ta xs ss),da (.int P),da bu,da (.loc pf),da (.loc pr),da (Fc ws),o6,da (.int f.2.1),da (.int ct),da (.tup [Fc (ws.set f.2.1 (v.1,ct)),Fc (ws.set f.2.1 (ct+1,v.2))]),da (.loc pc),o11,o12,o13]/\Sa G O/\O pc=da (.lst F)/\F.length=j/\(∀c,F[0]?=da c->∃n,Cs ss P m n (ws.set f.2.1 (v.1,ct)) c)/\∀c,F[1]?=da c->∃n,Cs ss P m n (ws.set f.2.1 (ct+1,v.2)) c) ?_ ?_ ⟨[],_,_,_,rfl,s1.trans n2.sa,n2.at,rfl,λc h=>by simp at h,λc h=>by simp at h⟩
   ·rintro ς G3 ⟨F,o11,o12,o13,rfl,s3,g3,cl,h1,h2⟩;have cl:F.length=2:=cl;refine⟨trivial,?_⟩;obtain⟨ca,cb,rfl⟩:∃a b,F=[a,b]:=by
     match F,cl with
     |[a,b],_=>exact⟨a,b,rfl⟩
    obtain⟨n1,k1⟩:=h1 ca rfl;obtain⟨hb,k2⟩:=h2 cb rfl;simp! only[kF,ix_l g3 (Hf _ _),ix_l g3 (Je _ _ _)];exact⟨by decide,by decide,q1 _ _ G3 s3 (.split Y l1 l2 k1 k2)⟩
   ·rintro j x ς G3 K q ⟨F,o11,o12,o13,rfl,s3,g3,cl,h1,h2⟩ hk;have kb:=s3 _ _ gf;have vb:=s3 _ _ gr;have xb:G pc=Aa:=jz s1 n2.no;have ka:∀{Ga Gb:Gp} {u:MO},Sa G Ga->Mg Ga pc u Gb->Sa G Gb:=λ{Ga Gb u} s w b z e=>w.sm _ _ (λy=>by rw[y,xb]at e;cases e) (s b z e)
    refine⟨trivial,?_⟩;simp! only[];have go:∀(y:Int×Int),v.1<=y.1->y.1<=y.2->y.2<=v.2->y.2-y.1<2 ^ m'->(∀(c:U) (n:Nat),Cs ss P m n (ws.set f.2.1 y) c->∀O,Sa G O->O pc=da (.lst (F++[c]))->∀o12 o13,K [da (Ta xs ss),da (.int P),da bu,da (.loc pf),da (.loc pr),da (Fc ws),o6,da (.int f.2.1),da (.int ct),da (.tup [Fc (ws.set f.2.1 (v.1,ct)),Fc (ws.set f.2.1 (ct+1,v.2))]),da (.loc pc),da (Fc (ws.set f.2.1 y)),o12,o13] O)->
      Va T (k+m+4) Fu [Ta xs ss,.int P,bu,.loc pf,.loc pr,Fc (ws.set f.2.1 y)] G3 (λu I=>Lc (.t (.cons (.n 12) (.cons (.n 13) .nil))) u [da (Ta xs ss),da (.int P),da bu,da (.loc pf),da (.loc pr),da (Fc ws),o6,da (.int f.2.1),da (.int ct),da (.tup [Fc (ws.set f.2.1 (v.1,ct)),Fc (ws.set f.2.1 (ct+1,v.2))]),da (.loc pc),da (Fc (ws.set f.2.1 y)),o12,o13] λJ=>slot J 12 λu=>cmpU .Eq u (.str "times") I λb=>if b=ma then slot J 13 λu=>0+1+1<=db/\Q (.tup [.str "times",u]) I else slot J 10 λu=>match Ie .append u I with
       |some _=>slot J 13 λwb=>Td .append u [wb] I λ_ I=>K J I
       |none=>False) λx I=>X x I:=λy y1 y2 y3 y4 add=>by
     obtain⟨a1,a2,a3⟩:=ya y y1 y2 y3 y4;refine ih m rfl k G3 _ _ _ (pk e f.2.1 m') a1 a2 a3 (by lia) kb vb (λc n' G4 Z hc=>?_) λjb G4 Z ht=>?_
     ·have g4:=Z _ _ g3;simp! only[];refine⟨trivial,?_⟩;rw[if_neg (by decide +kernel)]
      simp! only[lh g4,Jh g4];refine⟨Ug (show F.length<=2 by have:=(Ba.mp q).1;simp at this;lia) (by decide),λG5 p5=>?_⟩
      exact add c n' hc G5 (ka (s3.trans Z) p5) p5.at _ _
     ·simp! only[];refine⟨trivial,?_⟩;rw[if_pos (by decide +kernel)]
      simp! only[];exact⟨by decide,q2 jb G4 (s3.trans Z) (Tm.of Y rfl y1 y3 ht)⟩
    rw[show k+(m+1)+3=k+m+4 by lia]
    match j,q,cl with
    |0,q,cl=>
     have q:Fc (ws.set f.2.1 (v.1,ct))=x:=Ee q;subst q;have e0:F=[]:=List.length_eq_zero_iff.mp cl;subst e0;refine go (v.1,ct) (Int.le_refl _) l1 (by show ct<=v.2;lia) c1 λc n' hc G4 Z g4 a b=>hk _ _ ⟨[c],_,_,_,rfl,Z,g4,rfl,λc' h=>?_,λc' h=>by simp at h⟩
     cases h;exact⟨n',hc⟩
    |1,q,cl=>
     have q:Fc (ws.set f.2.1 (ct+1,v.2))=x:=Ee q;subst q;obtain⟨c0,rfl⟩:∃c,F=[c]:=by
      match F,cl with
      |[c],_=>exact⟨c,rfl⟩
     refine go (ct+1,v.2) (by show v.1<=ct+1;lia) (by show ct+1<=v.2;lia) (Int.le_refl _) c2 λc n' hc G4 Z g4 a b=>hk _ _ ⟨[c0,c],_,_,_,rfl,Z,g4,rfl,λc' h=>?_,λc' h=>?_⟩
     ·cases h;exact h1 _ rfl
     ·cases h;exact⟨n',hc⟩
    |j+2,q,cl=>simp at q
 ·rintro i x ς I K q ⟨o6,rfl,s1,nb⟩ hk;rw[md]at q;cases er:rs[i]? with
  |none=>rw[er]at q;cases q
  |some r=>
   rw[er]at q;cases q;obtain⟨j,s,hr⟩:=ha r (Pd er);have qc:=hr.l;obtain⟨t,ht,_⟩:=hr.tl;refine⟨by unfold Gd;rw[s1 _ _ gr],?_⟩
   simp! only[];refine kE (xs:=xs) (k:=k+n) wl hr.wk.all (by lia) p1 p2 λG2 s2=>?_
   simp! only[];by_cases c:ij P ws r
   ·rw[if_pos (by simpa using c)]
    exact⟨by decide,by decide,q1 _ 1 G2 (s1.trans s2) (.ring hr.wk (by rw[ht];simp) (by lia) c)⟩
   ·rw[if_neg (by simpa using c)]
    refine hk _ _ ⟨_,rfl,s1.trans s2,λr' ja=>?_⟩;rw[Bh,er]at ja;rcases Ma.mp ja with z|z
    ·exact nb r' z
    ·rw[Ea.mp z];exact c
def FS   n (F:Hg W ss w fs)(y:W<=8)(q:ss.length<=24)(p1:1<=P)(z:P<=600)(j:∀r∈rs,∃i s,CR ss fs i s r):Sk xs ss P fs rs pf pr o bu n:=by
 induction n with
 |zero=>exact vG F y q p1 z j λm h=>(nomatch h)
 |succ n I=>exact vG F y q p1 z j λm h=>by cases h;exact I

def gs24  : T.gs=[.int 24,.int 8,.int 60,.int 300]:=rfl

def QG   (O:p.length<=8)(q:∀a F ,Sa G F->F a=da (.lst [])->Q (.loc a) F):Va T (k+1) Cz [Ec p,.tup []] G Q X:=by
 refine⟨rfl,?_⟩;simp! only[UF,Ub,Db,Ec];refine⟨by rw[Ab];exact Rb O (by decide),?_⟩
 refine sg (λi y F=>F=G/\y=[]) ?_ ?_ ⟨rfl,rfl⟩
 ·rintro y J ⟨rfl,rfl⟩;exact⟨trivial,λa R I=>q a R I.sa I.at⟩
 ·rintro i x y J K j ⟨rfl,rfl⟩ hk hn;rw[md]at j;cases e:p[i]? with
  |none=>rw[e]at j;cases j
  |some z=>
   rw[e]at j;have j:=(Ee j).symm;subst j;refine⟨trivial,?_⟩;simp! only[];exact⟨rfl,rfl,hn _ ⟨rfl,rfl⟩⟩
def BF     (h:Ze W es ps)(q:W<=8)(j:p∈ps):p.length<=8:=
 Rb (rh W p ((h.as p j).imp λ{a b} g e=>by lia) (h.bd p j)) q
def DF     (h:Ze W es ps)(q:0<W):1<=ps.length:=by
 obtain⟨p,j,_⟩:=h.al 0 (by lia) (by lia)
 exact lL j
def OG  (w0:0<xs.length)(O:xs.length<=8)(so:∀s∈ss,s.Ok xs.length)(sl:ss.length<=24)(h1:1<=P)(h2:P<=600)(pb:P.toNat ^ xs.length<=5000000)
  (q:∀(ps:List (List Int)) F ,Ze xs.length (Xd ss) ps->Sa G F->Q (.int (P.toNat ^ (xs.length-ps.length):Nat)) F):Va T (k+4) Bz [Ta xs ss,.int P,.tup []] G Q X:=by
 refine⟨rfl,?_⟩;simp! only[TF,Ub,Db];refine SH so sl O λps G1 I hs pl s1=>?_;have pn:=DF I w0;simp! only[ny];refine⟨by rw[Ab];exact Rb pl (by decide),?_⟩
 refine sg (λi y F=>Sa G1 F/\y=(ps.take i).map Ec) ?_ ?_ ⟨Sa.refl,rfl⟩
 ·rintro y G2 ⟨s2,rfl⟩;rw[Ab,Rg];refine⟨trivial,λp3 Z Y=>?_⟩;simp! only[NH];simp! only[OH,Ta,ix_t (Hf _ _),Ab,Pn Y.at];refine⟨by lia,by lia,?_⟩
  refine dg (λi J F=>F=Z/\∃o5,J=[da (Ta xs ss),da (.int P),da (.tup []),da (.loc p3),da (.int ((P.toNat ^ i:Nat):Int)),o5]) ?_ ?_ ⟨rfl,_,rfl⟩
  ·rintro J R ⟨rfl,o5,rfl⟩;rw[Jf];refine⟨trivial,?_⟩;simp! only[];have:=q ps R I ((s1.trans s2).trans Y.sa);rw[show((xs.length:Int)-((0:Nat):Int)-(ps.length:Int)).toNat=xs.length-ps.length by lia]
   exact this
  ·rintro i x J R K j ⟨rfl,o5,rfl⟩ hk;obtain⟨hi,rfl⟩:=uh j;refine⟨trivial,?_⟩;simp! only[];have b1:P.toNat ^ i<=5000000:=Rb (ur (by lia) (by lia)) pb
   generalize ez:P.toNat ^ i=z at b1;refine⟨.inr (by constructor<;>lia),hk _ _ ⟨rfl,da (.int (i:Int)),?_⟩⟩
   have e:((P.toNat ^ (i+1):Nat):Int)=(z:Int)*P:=by rw[Nat.pow_succ,ez,Int.natCast_mul];congr 1;lia
   rw[e]
 ·rintro i x y G2 K j ⟨s2,rfl⟩ hk hn;rw[md]at j;cases e:ps[i]? with
  |none=>rw[e]at j;cases j
  |some z=>
   rw[e]at j;have j:=(Ee j).symm;subst j;refine⟨trivial,?_⟩;simp! only[];refine QG (BF I O (Pd e)) λa Z s3 g3=>?_;rw[On g3];rw[if_pos (by decide)]
   exact hk _ _ ⟨s2.trans s3,by rw[Bh,e,Ud];rfl⟩
def xU  (O:0<xs.length)(F:xs.length<=8)(so:∀s∈ss,s.Ok xs.length)(y:ss.length<=24)(J:1<=P)(R:P<=600)(I:P.toNat ^ xs.length<=5000000)(pw:∀ps ,Ze xs.length (Xd ss) ps->P.toNat ^ (xs.length-ps.length)<=300)
  (q:∀j ,Sa G j->Q .non j):Va T (k+5) gI [Ta xs ss,.int P,.tup []] G Q X:=by
 refine⟨rfl,?_⟩;simp! only[cI,Ub,Db];refine OG O F so y J R I λps G1 Y s1=>?_;have Z:=pw ps Y;simp! only[gs24,Gk];generalize P.toNat ^ (xs.length-ps.length)=z at Z;rw[if_neg (by simp;lia)]
 exact q _ s1

noncomputable def endZ  (P:Int)(s:Vb):Int:=if s.lo+P-1<(if s.w = "span" then s.hi else P-s.hi) then s.lo+P-1 else if s.w = "span" then s.hi else P-s.hi
def winO  (P:Int)(ss:List Vb):Wn:=ss.map λs=>(s.lo,endZ P s)
def KO    : endZ P s-s.lo<=P-1:=by unfold endZ;split<;>lia
section
variable {k:Nat}{G:Gp}{Q:K1}{X:KX}{xs:List Str}{ss:List Vb}{ws:Wn}{P:Int}{W:Nat}
def AO  {i:Nat}(hs:ss[i]?=da s)(h:s.Ok W)(q:Q (.int (if s.w = "span" then s.hi else P-s.hi)) G):Va T (k+1) fv [Ta xs ss,.int P,.int i] G Q X:=by
 refine⟨rfl,?_⟩;simp! only[vz,Ub,Db,Ta,ix_t (Je _ _ _),ix_t (Me hs),Vb.u];refine⟨trivial,?_⟩;rcases h.w with z|z
 ·rw[z,if_neg (by decide +kernel)]
  rw[z,if_neg (show ¬(("apart" : Str) = "span") by decide +kernel)]at q
  exact q
 ·rw[z,if_pos (by decide +kernel)]
  rw[z,if_pos rfl]at q;exact q
def RG  (so:∀s∈ss,s.Ok W)(R:ss.length<=24)(q:∀y,Sa G y->Q (Fc (winO P ss)) y):Va T (k+3) Cv [Ta xs ss,.int P] G Q X:=by
 refine⟨rfl,?_⟩;simp! only[tH,Ub,Db,Ta,ix_t (Je _ _ _),Ab];refine⟨by lia,by lia,by rw[Jf];exact Rb (show((ss.length:Int)).toNat<=24 by lia) (by decide),?_⟩
 refine sg (λi j y=>y=G/\j=(winO P (ss.take i)).map wu) ?_ ?_ ⟨rfl,rfl⟩
 ·rintro j y ⟨rfl,rfl⟩;rw[Jf,Rg];refine⟨trivial,λp O I=>?_⟩;dsimp only;rw[it_l I.at];exact q O I.sa
 ·rintro i x j y K J ⟨rfl,rfl⟩ hk _;obtain⟨F,rfl⟩:=uh J;have F:i<ss.length:=by lia
  have z:ss[i]?=da ss[i]:=Bc F;refine⟨trivial,?_⟩;simp! only[];refine⟨rfl,?_⟩;simp! only[HG,Ub,Db,Ta,ix_t (Je _ _ _),ix_t (Me z)];show Ce (.tup [.str ss[i].w,.int ss[i].o,.int ss[i].t,.int ss[i].lo,.int ss[i].hi]) _ _ _;rw[ix_t (show atI [U.str ss[i].w,.int ss[i].o,.int ss[i].t,.int ss[i].lo,.int ss[i].hi] 3=da (.int ss[i].lo)from rfl)];simp! only[];refine AO (xs:=xs) (P:=P) z (so _ (Gj F)) ?_;simp! only[];refine⟨by decide,hk _ _ ⟨rfl,?_⟩⟩
  unfold winO;rw[Bh,z,Ud,Ud];rfl
structure Pw (W:Nat)(ss:List Vb)(P:Int)(ws:Wn)(ps:List (List Int))(n:Nat)(bs:List Int):Prop where
 l:bs.length=W
 b:∀b∈bs,0<=b/\b<P
 k:∀i s,ss[i]?=da s->(∃p∈ps.take n,(s.o:Int)∈p)->Kw ss P ws bs i
def zQ     (h:Kw ss P ws bs i)(hs:ss[i]?=da s)(q:bt bs' s.o=bt bs s.o)(j:bt bs' s.t=bt bs s.t):Kw ss P ws bs' i:=by
 unfold Kw at h ⊢;rw[eS_1 hs,eD_1 hs]at h ⊢;rw[q,j];exact h
def Pw.step {n w:Nat}{fs:List (Int×Ent)}{p:List Int}{ps:List (List Int)}{bs j:List Int}(h:Pw W ss P ws ps n bs)(O:Ze W (Xd ss) ps)(J:ps[n]?=da p)(he:∀x,x∈p↔x∈(w:Int)::Qb fs)
  (Z:j.length=W) (b':∀b∈j,0<=b/\b<P) (s':∀x,0<=x->x∉Qb fs->bt j x=bt bs x) (k':∀i s,ss[i]?=da s->(s.o:Int)∈p->Kw ss P ws j i):Pw W ss P ws ps (n+1) j:=by
 have off:∀x,x∉p->x∉Qb fs:=λx Y z=>Y ((he x).mpr (Oc _ z));refine⟨Z,b',λi s F ⟨R,y,q⟩=>?_⟩;rw[Bh,J]at y;rcases Ma.mp y with z|z
 ·have ht:(s.t:Int)∈R:=O.part (Jo z) q (.one (.inl (Ia.mpr ⟨s,Pd F,rfl⟩)));exact zQ (h.k i s F ⟨R,z,q⟩) F (s' _ (by lia) (off _ λI=>O.apart J z I q)) (s' _ (by lia) (off _ λI=>O.apart J z I ht))
 ·rw[Ea.mp z]at q;exact k' i s F q
theorem TN  (so:∀s∈ss,s.Ok xs.length)(I:ss.length<=24)(w0:0<xs.length)(F:xs.length<=8)(p1:1<=P)(p2:P<=600)(pb:P.toNat ^ xs.length<=5000000)(pw:∀ps ,Ze xs.length (Xd ss) ps->P.toNat ^ (xs.length-ps.length)<=300)
  (q1:∀c m q ,Sa G q->Cs ss P 70 m (winO P ss) c->Q (.tup [.str "none",c]) q)
  (q2:∀(bs:List Int) q ,Sa G q->bs.length=xs.length->(∀b∈bs,0<=b/\b<P)->(∀i,i<ss.length->Kw ss P (winO P ss) bs i)->Q (.tup [.str "times",Ec bs]) q) :
  Va T (k+75) MI [Ta xs ss,.int P,.tup [],.tup []] G Q X:=by
 have wl:(winO P ss).length=ss.length:=Ab _;refine⟨rfl,?_⟩;simp! only[KI,Ub,Db];refine xU (k:=k+69) w0 F so I p1 p2 pb pw λG1 s1=>?_;simp! only[kJ];refine RG (k:=k+71) so I λG2 s2=>?_;simp! only[lJ];refine IS (k:=k+73) (ws:=winO P ss) rfl (λnv=>?_) λi w ew c=>?_
 ·have Y:∀kk:Bool->Prop,kk ma->Oh .non .non kk:=λ_ h=>h;simp! only[gA];refine Y _ ?_;rw[if_neg (by decide)]
  simp! only[mJ,Ta,ix_t (Hf _ _),Ab];refine⟨by lia,by lia,by rw[Jf];exact Rb (show((xs.length:Int)).toNat<=8 by lia) (by decide),?_⟩
  refine Mh (λ_=>.int 0) trivial (λu hu K hK=>?_) ?_
  ·obtain⟨i,_,rfl⟩:=Ia.mp hu;simp! only[];exact⟨rfl,rfl,hK⟩
  intro p3 G3 n3;have e3:[]++(rngU 0 xs.length).map (λ_=>U.int 0)=(Db xs.length (0:Int)).map .int:=by
   rw[Kg,List.map_const',Jf,kK]
  rw[e3]at n3;rw[it_l n3.at];refine(?_:Tc T.gs (Va T (k+74)) iA ⟨λ_ q=>Q .non q,Q,λx _ q=>X x q⟩ [da (Ta xs ss),da (.int P),da (.tup []),da (.tup []),da (Fc (winO P ss)),da .non,da (Ec (Db xs.length 0)),Aa,Aa,Aa,Aa] G3)
  have wa:Sa G G3:=s1.trans (s2.trans n3.sa);simp! only[iA];refine SH (k:=k+71) (xs:=xs) so I F λps G4 R hS hl s4=>?_;simp! only[ny];refine dg (λn ς q=>∃(bs:List Int) (o7 o8 o9 o10:Option U),ς=[da (Ta xs ss),da (.int P),da (.tup []),da (.tup []),da (Fc (winO P ss)),da .non,da (Ec bs),o7,o8,o9,o10]/\Sa G q/\Pw xs.length ss P (winO P ss) ps n bs) ?_ ?_
   ⟨Db xs.length 0,_,_,_,_,rfl,wa.trans s4,by simp,λb hb=>by rw[List.eq_of_mem_replicate hb];lia,λi s _ ⟨p,hp,_⟩=>by simp at hp⟩
  ·rintro ς G5 ⟨bs,o7,o8,o9,o10,rfl,s5,pt⟩;rw[Ab]at pt;refine⟨trivial,?_⟩;simp! only[nJ];refine⟨by decide,q2 bs G5 s5 pt.l pt.b λi hi=>?_⟩
   have y:ss[i]?=da ss[i]:=Bc hi;obtain⟨p,hp,ka,_⟩:=R.ed _ _ (Ia.mpr ⟨ss[i],Gj hi,rfl⟩);exact pt.k i _ y ⟨p,by rw[Rg];exact hp,ka⟩
  ·rintro n u ς G5 K hu ⟨bs,o7,o8,o9,o10,rfl,s5,pt⟩ hk;rw[md]at hu;cases ep:ps[n]? with
   |none=>rw[ep]at hu;cases hu
   |some p=>
    rw[ep]at hu;cases hu;have Z:=Pd ep;have pl:=BF R F Z;obtain⟨x0,rest,rfl⟩:∃x r,p=x::r:=by
     cases p with
     |nil=>exact absurd rfl (R.ne _ Z)
     |cons x r=>exact⟨x,r,rfl⟩
    have b0:=R.bd _ Z x0 (by simp)
    obtain⟨w,rfl⟩:=Gi b0.1;refine⟨trivial,?_⟩;simp! only[];refine QG (k:=k+73) pl λpa G6 s6 g6=>?_;rw[On g6,if_neg (by simp)]
    simp! only[Ec];have ec:cut (U.int w::rest.map U.int) Aa (da 1)=[.int w]:=Rn (U.int w::rest.map U.int) 1;rw[ec];refine NG (k:=k+72) (r:=.tup [.int w]) (xs:=xs) so I (show w<xs.length by lia) F (λ_ _ _ h=>h) λpf fs G7 s7 nf gf O hC=>?_
    have xa:∀x,x∈(w:Int)::rest↔x∈(w:Int)::Qb fs:=λx=>
     ⟨λhx=>(R.co _ Z w (by simp) x hx).closed (S:=λz=>z∈(w:Int)::Qb fs) (λa b ha e=>hC a b ha e) (by simp),λhx=>R.part Z (by simp) (O.rch.co x hx)⟩
    have va:=rh _ _ O.nd O.bd;simp only[Qb,bf,Ab]at va;refine tU (k:=k+70) (xs:=xs) (ps:=(w:Int)::rest) O F I gf hC (λx hx=>(xa x).mp hx) λpr rs o G8 s8 nr gr za c1 c2 rl=>?_;have xb:Sa G6 G8:=λb u hb=>s8 _ _ (λz=>by rw[z,nf]at hb;cases hb) (s7 _ _ hb)
    have S8:Sa G G8:=(s5.trans s6).trans xb;have sk:=FS (xs:=xs) (rs:=rs) (pf:=pf) (pr:=pr) (o:=o) (bu:=Ec bs) 70 O F I p1 (show P<=600 by lia) c1
    refine sk k G8 _ _ (winO P ss) (λ_=>10) wl nv (λf hf v ev=>?_) ?_ za gr (λc m G9 s9 hc=>?_) λJ G9 s9 ht=>?_
    ·obtain⟨s,hs,rfl⟩:=Ia.mp (Pd ev);have:=KO (P:=P) (s:=s);have e2:(2:Int) ^ 10=1024:=rfl;rw[e2];show endZ P s-s.lo<1024
     lia
    ·have:∀l:List (Int×Ent),(l.map λ_=>10).sum=10*l.length:=λl=>by
      induction l with
      |nil=>rfl
      |cons a l ih=>rw[He,List.sum_cons,ih,bf];lia
     rw[this];lia
    ·simp! only[];refine⟨trivial,?_⟩;rw[if_pos (by decide +kernel)]
     exact⟨by decide,q1 c m G9 (S8.trans s9) hc⟩
    ·simp! only[];refine⟨trivial,?_⟩;rw[if_neg (by decide +kernel)]
     simp! only[Fc];refine⟨by rw[Ab,ht.l,wl];exact Rb I (by decide),?_⟩
     refine Mh (λu=>match u with|.tup [a,_]=>a|u=>u) trivial (λu hu K hK=>?_) ?_
     ·obtain⟨v,_,rfl⟩:=Ia.mp hu;show Lc _ (.tup [.int v.1,.int v.2]) _ _;simp! only[];exact⟨trivial,hK⟩
     intro ja Ga na;have ea:[]++(J.map wu).map (λu=>match u with|.tup [a,_]=>a|u=>u)=(J.map (·.1)).map U.int:=by
      rw[Kg,Gf,Gf];rfl
     rw[ea]at na;have lu:Lu ss Ga (.loc ja) (J.map (·.1)):=⟨by rw[Ab,ht.l,wl],.inl ⟨ja,rfl,na.at⟩⟩
     refine qU (k:=k+72) (xs:=xs) O F lu p1 (show P<=600 by lia) pt.l pt.b (na.sa _ _ (s9 _ _ za)) λya Gb sb l7 b7 e7 k7=>?_
     simp! only[];refine hk _ _ ⟨ya,_,_,_,_,rfl,S8.trans (s9.trans (na.sa.trans sb)),pt.step R ep xa l7 b7 e7 λi s y ho=>?_⟩;refine ht.kw wl p1 (λf hf=>⟨?_,k7 f hf⟩) y (c2 i s y ho);obtain⟨j,hj,ej⟩:=Lg hf;exact(O.en j f (by rw[Bc hj,ej])).1
 ·have Y:∀kk:Bool->Prop,kk ua->Oh (.int (i:Int)) .non kk:=λ_ h=>h;simp! only[gA];refine Y _ ?_;rw[if_pos (by decide)]
  have il:i<ss.length:=by rw[<- wl];exact(Ba.mp ew).1
  have y:ss[i]?=da ss[i]:=Bc il;refine⟨by decide,by decide,by decide,by decide,by decide,q1 (.tup [.str "ring",oi [(i,1),(i,-1)]]) 1 G2 (s1.trans s2) (.ring (a:=(ss[i].o:Int)) ⟨⟨il,.inl rfl⟩,eS_1 y,⟨il,.inr rfl⟩,?_,eD_m y⟩ (by simp) (by simp) ?_)⟩
  ·rw[eS_m y,eD_1 y]
  ·have a1:Bf (winO P ss) [(i,1),(i,-1)]=w.1-w.2:=by
    have:Bf (winO P ss) [(i,1),(i,-1)]=uf (winO P ss) (i,1)+(uf (winO P ss) (i,-1)+0):=by simp[Bf]
    rw[this];unfold uf;rw[if_pos rfl,if_neg (show ¬((-1:Int)=1) by decide),getW ew];lia
   have a2:mf (winO P ss) [(i,1),(i,-1)]=w.2-w.1:=by
    have:mf (winO P ss) [(i,1),(i,-1)]=Af (winO P ss) (i,1)+(Af (winO P ss) (i,-1)+0):=by simp[mf]
    rw[this];unfold Af;rw[if_pos rfl,if_neg (show ¬((-1:Int)=1) by decide),getW ew];lia
   unfold ij;rw[a1,a2];have:=Int.ediv_mul_le (w.2-w.1) (show P≠0 by lia)
   lia
theorem IT  (so:∀s∈ss,s.Ok xs.length)(q:ss.length<=24)(F:0<xs.length)(y:xs.length<=8)(p1:1<=P)(I:P<=600)(z:P.toNat ^ xs.length<=5000000)(pw:∀ps ,Ze xs.length (Xd ss) ps->P.toNat ^ (xs.length-ps.length)<=300)
  (q1:∀c m j ,Sa G j->Cs ss P 70 m (winO P ss) c->Q (.tup [.str "none",c]) j)
  (q2:∀(bs:List Int) j ,Sa G j->bs.length=xs.length->(∀b∈bs,0<=b/\b<P)->(∀i,i<ss.length->Kw ss P (winO P ss) bs i)->Q (.tup [.str "times",Ec bs]) j) :
  Va T (k+76) uo [Ta xs ss,.int P] G Q X:=by
 refine⟨rfl,?_⟩;simp! only[QI,Ub,Db];exact⟨by decide,by decide,TN (k:=k) so q F y p1 I z pw q1 q2⟩
end

noncomputable def topZ  (P:Int)(s:Vb):Int:=if s.w = "span" then s.hi else P-s.hi
noncomputable def gapZ  (P:Int)(bs:List Int)(s:Vb):Int:=(bs.getD s.t 0-bs.getD s.o 0-s.lo)%P
def oh  (P:Int)(bs:List Int)(s:Vb):Bool:=decide (s.lo+gapZ P bs s<=topZ P s)
def Od  (P:Int)(ss:List Vb)(bs:List Int):Bool:=ss.all (oh P bs)

def ON     : cmpU .NotEq (.bl a) (.bl b) G k=k (!decide (a=b)):=rfl
def nq  {bs:List Int}(h:n<bs.length):atI (bs.map U.int) (n:Int)=da (.int (bs.getD n 0)):=by
 have:bs[n]?=da (bs.getD n 0):=by simp[Ad,h]
 exact Me this

def qz  {ss: List Vb}(h:ss[i]?=da s):(ss.take (i+1)).all f=((ss.take i).all f&&f s):=by
 rw[Bh,h,List.all_append];simp
def CS  (q:Q (.int (if s.lo+P-1<topZ P s then s.lo+P-1 else topZ P s)) G):Va T (k+1) eG [.int P,s.u] G Q X:=by
 refine⟨rfl,?_⟩;simp! only[SF,Ub,Db,Vb.u,ix_t (Hf _ _),ix_t (tM _ _ _ _ _),ix_t (show atI [U.str s.w,.int s.o,.int s.t,.int s.lo,.int s.hi] 4=da (.int s.hi)from Ti (j:=4) rfl)];unfold topZ at q;by_cases c:s.w = "span"
 ·rw[if_pos (by simpa using c)]
  rw[if_pos c]at q;exact q
 ·rw[if_neg (by simpa using c)]
  rw[if_neg c]at q;exact q
def DT  (hP:0<P)(bl:bs.length=W)(so:∀s∈ss,s.Ok W)(sl:ss.length<=24)(q:∀p (j:List Int) y ,Sa G y->y p=da (.lst (j.map .int))->(j.map U.int).isEmpty=Od P ss bs->Q (.loc p) y):Va T (k+2) Av [Ta xs ss,.int P,Ec bs] G Q X:=by
 refine⟨rfl,?_⟩;simp! only[zG,Ub,Db];refine⟨by decide,λp G1 I=>?_⟩
 simp! only[EI,Ta,ix_t (Je _ _ _),Ab];refine⟨by lia,by lia,?_⟩
 refine dg (λi J y=>∃(j:List Int) (o4 o5 o6 o7 o8 o9 o10:Option U),J=[da (Ta xs ss),da (.int P),da (Ec bs),da (.loc p),o4,o5,o6,o7,o8,o9,o10]/\Sa G y/\y p=da (.lst (j.map .int))/\j.length<=i/\j.isEmpty=(ss.take i).all (oh P bs)) ?_ ?_ ⟨[],_,_,_,_,_,_,_,rfl,I.sa,I.at,Jb _,rfl⟩
 ·rintro J Z ⟨j,o4,o5,o6,o7,o8,o9,o10,rfl,s2,g2,_,he⟩;rw[Jf,Rg]at he;refine⟨trivial,?_⟩;simp! only[];exact q p j _ s2 g2 (by rw[List.isEmpty_map];exact he)
 ·rintro i x J Z K Y ⟨j,o4,o5,o6,o7,o8,o9,o10,rfl,s2,g2,hl,he⟩ hk;obtain⟨hi,rfl⟩:=uh Y;refine⟨trivial,?_⟩;obtain⟨s,F⟩:∃s,ss[i]?=da s:=⟨_,Bc hi⟩;have R:=so s (Pd F);have o:=R.o;have t:=R.t;simp! only[Ta,ix_t (Je _ _ _),ix_t (Me F)];rw[show s.u=.tup [.str s.w,.int s.o,.int s.t,.int s.lo,.int s.hi]from rfl];simp! only[Ec,ix_t (nq (show s.o<bs.length by omega)),ix_t (nq (show s.t<bs.length by omega)),Ta,ix_t (Je _ _ _),ix_t (Me F)]
  refine⟨trivial,by lia,CS ?_⟩
  simp! only[];have g0:0<=gapZ P bs s:=Ej _ (by lia)
  have g1:gapZ P bs s<P:=Hj _ (by lia)
  rw[show(bs.getD s.t 0-bs.getD s.o 0-s.lo)%P=gapZ P bs s from rfl];by_cases c:(if s.lo+P-1<topZ P s then s.lo+P-1 else topZ P s)<s.lo+gapZ P bs s
  ·rw[if_pos (by simpa using c)]
   simp! only[lh g2];rw[Jh g2];refine⟨by rw[Ab];exact Ug (show j.length<=24 by lia) (by decide),λG3 O=>?_⟩
   refine hk _ _ ⟨j++[(i:Int)],_,_,_,_,_,_,_,rfl,?_,by rw[Ud];exact O.at,by simp;lia,?_⟩
   ·exact λb u e=>O.sm _ _ (λz=>by rw[z,I.no]at e;cases e) (s2 _ _ e)
   ·rw[qz F];unfold oh;rw[decide_eq_false (by split at c<;>lia),Bool.and_false]
    simp
  ·rw[if_neg (by simpa using c)]
   refine hk _ _ ⟨j,_,_,_,_,_,_,_,rfl,s2,g2,by lia,?_⟩
   rw[qz F,he];unfold oh;rw[decide_eq_true (by split at c<;>lia),Bool.and_true]
def aG  {kk:Bool->Gp->Prop}(R:0<P)(bl:bs.length=W)(so:∀s∈ss,s.Ok W)(O:ss.length<=24)(q:∀J,Sa G J->kk (Od P ss bs) J):Va T (k+2) Av [Ta xs ss,.int P,Ec bs] G (λx I=>0<=db/\newO I (.lst []) λy j=>cmpU .Eq x y j λc=>kk c j) X:=by
 refine DT R bl so O λp zs I s1 Z Y=>⟨by decide,λp2 j F=>?_⟩
 simp! only[];refine OO (n:=0) (F.sa _ _ Z) F.at (λu hu=>?_) (by decide) ?_
 ·obtain⟨z,_,rfl⟩:=Ia.mp hu;exact xr.int z
 ·rw[Y];exact q _ (s1.trans F.sa)


def zU  {j: Nat}(h:ss[j]?=da s)(q:Q (.int (topZ P s)) G):Va T (k+1) fv [Ta xs ss,.int P,.int j] G Q X:=by
 refine⟨rfl,?_⟩;simp! only[vz,Ub,Db,Ta,ix_t (Je _ _ _),ix_t (Me h),Vb.u];unfold topZ at q;refine⟨trivial,?_⟩;by_cases c:s.w = "span"
 ·rw[if_pos (by simpa using c)]
  rw[if_pos c]at q;exact q
 ·rw[if_neg (by simpa using c)]
  rw[if_neg c]at q;exact q
def WV  {j: Nat}(z:0<P)(bl:bs.length=W)(y:s.Ok W)(h:ss[j]?=da s)(q:Q (.int (s.lo+gapZ P bs s)) G):Va T (k+1) JG [Ta xs ss,.int P,Ec bs,.int j] G Q X:=by
 have o:=y.o;have t:=y.t;refine⟨rfl,?_⟩;simp! only[DG,Ub,Db,Ta,ix_t (Je _ _ _),ix_t (Me h),Vb.u,Ec,ix_t (nq (show s.o<bs.length by omega)),ix_t (nq (show s.t<bs.length by omega))]
 exact⟨trivial,by lia,q⟩
def gG  {kk:Bool->Prop}(O:0<P)(bl:bs.length=W)(so:∀s∈ss,s.Ok W)(Y:ss.length<=24)(q:∀u,Oh u .non kk=kk (Od P ss bs)->Q u G):Va T (k+2) Xy [Ta xs ss,.int P,Ec bs] G Q X:=by
 refine⟨rfl,?_⟩;simp! only[KF,Ub,Db,Ta,ix_t (Je _ _ _),Ab];refine⟨by lia,by lia,?_⟩
 refine dg (λi y R=>R=G/\(∃o3,y=[da (Ta xs ss),da (.int P),da (Ec bs),o3])/\(ss.take i).all (oh P bs)=ma) ?_ ?_ ⟨rfl,⟨_,rfl⟩,rfl⟩
 ·rintro y I ⟨rfl,⟨o3,rfl⟩,h⟩;rw[Jf,Rg]at h;refine⟨trivial,?_⟩;simp! only[];refine q _ ?_;unfold Od;rw[h];rfl
 ·rintro i x y I K F ⟨rfl,⟨o3,rfl⟩,h⟩ hk;obtain⟨J,rfl⟩:=uh F;refine⟨trivial,?_⟩;simp! only[];obtain⟨s,j⟩:∃s,ss[i]?=da s:=⟨_,Bc J⟩;refine WV O bl (so s (Pd j)) j (zU j ?_);simp! only[];by_cases c:topZ P s<s.lo+gapZ P bs s
  ·rw[if_pos (by simpa using c)]
   refine q _ ?_;have:Od P ss bs=ua:=by
    rw[Bool.eq_false_iff];intro z;have:=Bj.mp z s (Pd j);unfold oh at this;rw[decide_eq_true_eq]at this
    lia
   rw[this];rfl
  ·rw[if_neg (by simpa using c)]
   refine hk _ _ ⟨rfl,⟨_,rfl⟩,?_⟩;rw[qz j,h];unfold oh;simp;lia


def CD    (j:ss[i]?=da s)(p1:1<=P):Kw ss P (winO P ss) b i↔s.lo+(bt b s.t-bt b s.o-s.lo)%P<=endZ P s:=by
 have y:(winO P ss)[i]?=da (s.lo,endZ P s):=by unfold winO;rw[md,j];rfl
 have F:=wB (bt b s.t-bt b s.o-s.lo) P;have I:=Ej (bt b s.t-bt b s.o-s.lo) (show P≠0 by lia)
 unfold Kw;rw[getW y,eS_1 j,eD_1 j];dsimp only;constructor
 ·rintro⟨l,O,J,d⟩;have e:(l-s.lo)%P=(bt b s.t-bt b s.o-s.lo)%P:=by
   refine Int.emod_eq_emod_iff_emod_sub_eq_zero.mpr (Int.emod_eq_zero_of_dvd ?_);rw[show l-s.lo-(bt b s.t-bt b s.o-s.lo)=bt b s.o+l-bt b s.t by lia]
   exact d
  have q:=wB (l-s.lo) P;have z:=Int.mul_nonneg (show 0<=P by lia) (Int.ediv_nonneg (show 0<=l-s.lo by lia) (show 0<=P by lia))
  rw[e]at q
  lia
 ·intro h;refine⟨_,by lia,h,-((bt b s.t-bt b s.o-s.lo)/P),?_⟩
  rw[Int.mul_neg];lia
def uF  (p1:1<=P):Od P ss b=ma↔∀i,i<ss.length->Kw ss P (winO P ss) b i:=by
 have one:∀s:Vb,oh P b s=ma↔s.lo+(bt b s.t-bt b s.o-s.lo)%P<=endZ P s:=λs=>by
  have z:=Hj (b.getD s.t 0-b.getD s.o 0-s.lo) (show 0<P by lia)
  unfold oh gapZ topZ endZ bt;rw[decide_eq_true_eq,zn,zn];by_cases c:s.w = "span"
  ·rw[if_pos c];constructor
   ·intro h;split<;>lia
   ·intro h;split at h<;>lia
  ·rw[if_neg c];constructor
   ·intro h;split<;>lia
   ·intro h;split at h<;>lia
 unfold Od;rw[Bj];constructor
 ·intro h i j;have q:ss[i]?=da ss[i]:=Bc j;exact(CD q p1).mpr ((one _).mp (h _ (Gj j)))
 ·intro h s y;obtain⟨i,j,e⟩:=Lg y;have q:ss[i]?=da s:=by rw[Bc j,e]
  exact(one s).mpr ((CD q p1).mp (h i j))

def zD     : Gm [.int z,.ty "int"] G Q=Q (.bl ma) G:=rfl
def yD     : Gm [.int z,.ty "bool"] G Q=Q (.bl ua) G:=rfl
def qy     : Gm [.tup us,.ty "tuple"] G Q=Q (.bl ma) G:=rfl
def rM   {bs:List Bool}(g:G a=da (.lst (bs.map .bl)))(q:Q (.bl (bs.all id)) G):allU [.loc a] G Q:=by
 unfold allU;dsimp only;rw[g];have:Mm (bs.map .bl)=da bs:=by
  clear g q
  induction bs with
  |nil=>rfl
  |cons b r j=>rw[He,Mm,j]
 dsimp only;rw[this];exact q
def JC      (g:G a=da (.lst (Db n (.bl ma))))(q:Q (.bl ma) G):allU [.loc a] G Q:=by
 refine rM (bs:=Db n ma) (by rw[g,kK]) ?_
 have:(Db n ma).all id=ma:=by simp
 rw[this];exact q
section
variable {k:Nat}{G:Gp}{Q:K1}{X:KX}{xs:List Str}{ss:List Vb}{ws:Wn}{P:Int}{W:Nat}
def Iz   (y:a<=z)(j:z<=b)(q:Q (.bl ma) G):Va T (k+2) yv [.int z,.int a,.int b] G Q X:=by
 refine⟨rfl,?_⟩;simp! only[yG,Ub,Db];refine⟨rfl,?_⟩;simp! only[Ez,Ub,Db,zD,yD];rw[if_pos (decide_eq_true y),decide_eq_true j];exact q
def JT   (q:Q (.bl ma) G):Va T (k+1) Hv [.int z] G Q X:=by
 refine⟨rfl,?_⟩;simp! only[Ez,Ub,Db,zD,yD];exact q
def AT   (h:ie ss e)(q:Q (.bl ma) G):Va T (k+3) mH [Ta xs ss,.tup [],eu e] G Q X:=by
 have j:=h.1;refine⟨rfl,?_⟩;simp! only[fH,Ub,Db,eu,qy];simp! only[EH];rw[if_neg (by decide)]
 simp! only[FH];rw[if_neg (by decide)]
 simp! only[GH];refine⟨trivial,?_⟩;simp! only[Ta,ix_t (Je _ _ _),Ab];refine Iz (k:=k) (by lia) (by lia) ?_
 simp! only[];refine JT (k:=k+1) ?_;simp! only[];rcases h.2 with z|z
 ·rw[z];exact⟨by decide,rfl,rfl,q⟩
 ·rw[z];exact⟨by decide,rfl,rfl,q⟩
theorem Wk.next  : ∀{r } {a b },Wk ss r a b->∀{i } {e j },r[i]?=da e->r[i+1]?=da j->eD ss e=eS ss j
 |[],_,_,_,i,e,_,h,_=>by simp at h
 |[x],_,_,_,0,e,j,_,h=>by simp at h
 |x::y::r,_,_,⟨_,_,_,h3,_⟩,0,e,j,he,he'=>by
  simp at he he';rw[<- he,<- he',h3]
 |x::r,_,_,⟨_,_,h⟩,i+1,e,j,he,he'=>Wk.next h (i:=i) (by simpa using he) (by simpa using he')
def Wk.first    (h:Wk ss r a b)(j:r[0]?=da e):eS ss e=a:=by
 cases r with
 |nil=>simp at j
 |cons x r=>simp at j;rw[<- j];exact h.2.1
def endU  (ss:List Vb)(e:Ent):U:=.tup [.int (eS ss e),.int (eD ss e)]
def FT    (J:Wk ss r a a)(hn:r≠[])(rl:r.length<=30)(q:∀O,Sa G O->Q (.bl ma) O):Va T (k+4) dG [Ta xs ss,.tup [],oi r] G Q X:=by
 have r1:1<=r.length:=by cases r with|nil=>exact absurd rfl hn|cons _ _=>simp
 refine⟨rfl,?_⟩;simp! only[RF,Ub,Db,oi,qy,Ab,gs24,Gk];rw[if_pos (decide_eq_true (show(1:Int)<=(r.length:Int) by lia)),decide_eq_true (show(r.length:Int)<=60 by lia),if_neg (by decide)]
 simp! only[IH];refine⟨by rw[Ab];exact Rb rl (by decide),?_⟩
 refine Mh (λ_=>.bl ma) trivial (λu hu K Z=>?_) ?_
 ·obtain⟨e,I,rfl⟩:=Ia.mp hu;simp! only[];exact AT (k:=k) (J.all e I) Z
 intro p0 G0 Y;have e0:[]++(r.map eu).map (λ_=>U.bl ma)=Db r.length (.bl ma):=by rw[Kg,Gf];exact List.map_const' ..
 rw[e0]at Y;refine JC Y.at ?_;simp! only[JH];refine⟨by rw[Ab];exact Rb rl (by decide),?_⟩
 refine Mh (λu=>match u with|.tup [.int x,.int y]=>endU ss (x.toNat,y)|u=>u) trivial (λu hu K Z=>?_) ?_
 ·obtain⟨e,I,rfl⟩:=Ia.mp hu;simp! only[];exact Ky (k:=k+2) (J.all e I) Z
 intro p1 G1 R;have e1:[]++(r.map eu).map (λu=>match u with|.tup [.int x,.int y]=>endU ss (x.toNat,y)|u=>u)=r.map (endU ss):=by
  rw[Kg,Gf];rfl
 rw[e1]at R;simp! only[KH,Pn R.at,Ab];refine⟨by lia,by lia,by rw[Jf];exact Rb (show((r.length:Int)).toNat<=30 by lia) (by decide),?_⟩
 refine sg (λi F O=>F=Db i (.bl ma)/\O=G1) ?_ ?_ ⟨rfl,rfl⟩
 ·rintro F O ⟨rfl,rfl⟩;exact⟨trivial,λp2 G2 n2=>JC n2.at (q G2 (Y.sa.trans (R.sa.trans n2.sa)))⟩
 ·rintro i x F O K hx ⟨rfl,rfl⟩ hk _;obtain⟨hi,rfl⟩:=uh hx;have hi:i<r.length:=by lia
  obtain⟨e,I⟩:∃e,r[i]?=da e:=⟨_,Bc hi⟩;obtain⟨e0,h0,hd⟩:∃e0,atI (r.map (endU ss)) ((i:Int)-1)=da (endU ss e0)/\eD ss e0=eS ss e:=by
   cases i with
   |zero=>
    rcases snoc r with z|⟨r',e0,z⟩
    ·exact absurd z hn
    ·refine⟨e0,?_,?_⟩
     ·refine(Vn _ r _).trans ?_;rw[z];unfold atI;rw[show Ag (r'++[e0]).length (((0:Nat):Int)-1)=da r'.length by unfold Ag;simp;lia]
      simp
     ·rw[z]at J;rw[J.last.2.2];exact(J.first (by rw[<- z];exact I)).symm
   |succ j=>
    have hj:j<r.length:=by lia
    refine⟨r[j],?_,J.next (Bc hj) I⟩
    rw[show((j+1:Nat):Int)-1=(j:Int) by lia]
    exact Me (f:=endU ss) (Bc hj)
  refine⟨trivial,?_⟩;simp! only[ix_l R.at h0];rw[show endU ss e0=.tup [.int (eS ss e0),.int (eD ss e0)]from rfl];simp! only[ix_t (Je _ _ _),ix_l R.at (Me (f:=endU ss) I)];rw[show endU ss e=.tup [.int (eS ss e),.int (eD ss e)]from rfl];simp! only[ix_t (Hf _ _),hd];exact hk _ _ ⟨by simp[List.replicate_succ'],rfl⟩
def az     (q:Q (.bl (decide (((us.length+1:Nat):Int)=n)&&decide (w=v))) G):Va T (k+1) Nz [.tup (.str w::us),.str v,.int n] G Q X:=by
 refine⟨rfl,?_⟩;simp! only[xG,Ub,Db,qy,bf];by_cases c:((us.length+1:Nat):Int)=n
 ·rw[decide_eq_true c]at q ⊢;simp! only[ix_t (Hf _ _)];exact q
 ·rw[decide_eq_false c]at q ⊢;exact q
def ES    (sl:ss.length<=24)(wl:ws.length=ss.length)(p1:1<=P)(J:P<=600)(Z:Cs ss P n m ws c)(q:∀j,Sa G j->Q .non j):Va T (k+6) CH [Ta xs ss,.int P,.tup [],.tup [],Fc ws,c] G Q X:=by
 refine⟨rfl,?_⟩;simp! only[rH,Ub,Db];cases Z with
 |@ring _ _ r a z Y I O=>
  refine az (k:=k+4) ?_;rw[show(decide ((([oi r].length+1:Nat):Int)=2)&&decide (("ring" : Str) = "ring"))=ma by simp]
  simp! only[];rw[ix_t (Je _ _ _)];refine⟨rfl,?_⟩;simp! only[sH,Ub,Db];refine FT (k:=k) z Y I λG1 s1=>?_;simp! only[];refine kE (xs:=xs) (k:=k+1) wl z.all I p1 J λG2 s2=>?_;rw[decide_eq_true O];exact q G2 (s1.trans s2)
 |@split n1 m1 m2 _ s l h F c1 c2 y R l2 k1 k2=>
  have il:=(Ba.mp y).1;refine az (k:=k+4) ?_;rw[show(decide ((([U.int s,.int F,c1,c2].length+1:Nat):Int)=2)&&decide (("split" : Str) = "ring"))=ua by simp]
  simp! only[jJ];refine az (k:=k+4) ?_;rw[show(decide ((([U.int s,.int F,c1,c2].length+1:Nat):Int)=5)&&decide (("split" : Str) = "split"))=ma by simp]
  simp! only[];refine⟨rfl,?_⟩;simp! only[pI,Ub,Db];refine⟨trivial,?_⟩;simp! only[XI,Ta,ix_t (Je _ _ _),Ab];refine Iz (k:=k+2) (by lia) (by lia) ?_
  simp! only[YI,Fc,ix_t (Me y)];show Lc _ (.tup [.int l,.int h]) _ _;simp! only[];refine⟨trivial,?_⟩;refine Iz (k:=k+2) R (by lia) ?_
  simp! only[];exact q G Sa.refl
def yU   (q:∀p j,cj G p (.lst []) j->Q (.loc p) j):Va T (k+2) yI [Fc ws,.tup [.str "ring",r]] G Q X:=by
 refine⟨rfl,?_⟩;simp! only[Ev,Ub,Db,ix_t (Hf _ _)];rw[if_pos (by decide +kernel)]
 exact⟨by decide,q⟩
def GT    {c1 c2:U}(z:ws[s]?=da (l,h))(wl:ws.length<=24)(q:∀p y,cj G p (.lst [.tup [c1,Fc (ws.set s (l,ct))],.tup [c2,Fc (ws.set s (ct+1,h))]]) y->Q (.loc p) y) :
  Va T (k+2) yI [Fc ws,.tup [.str "split",.int s,.int ct,c1,c2]] G Q X:=by
 have j:=(Ba.mp z).1;refine⟨rfl,?_⟩;simp! only[Ev,Ub,Db,ix_t (Hf _ _)];rw[if_neg (by decide +kernel)]
 simp! only[ZI];refine⟨trivial,?_⟩;simp! only[Fc,ix_t (Me z)];show Lc _ (.tup [.int l,.int h]) _ _;simp! only[];refine⟨trivial,by decide,?_⟩
 refine Ou (ws:=ws) (w:=(l,ct)) j wl ?_
 simp! only[];refine⟨by decide,by decide,?_⟩
 refine Ou (ws:=ws) (w:=(ct+1,h)) j wl ?_
 simp! only[];exact⟨by decide,by decide,q⟩
end

def cQ       (g:G p=da (.lst (us++[u])))(q:∀j,Mg G p (.lst us) j->Q u j):Td .pop (.loc p) [] G Q:=by
 dsimp only[Td];unfold popU;dsimp only;rw[g];dsimp only;have z:(us++[u])[(us++[u]).length-1]?=da u:=by simp
 have y:(us++[u]).dropLast=us:=by simp
 rw[z,y];exact λj h=>q j h
def EM  : ∀kk ,kk ma->Oh .non .non kk:=λ_ h=>h
abbrev iC:=U×Wn×Nat
def xx  (x:iC):U:=.tup [x.1,Fc x.2.1]
def StOk  (ss:List Vb)(P:Int)(i:Nat)(x:iC):Prop:=x.2.1.length=ss.length/\∃n,n+i<=71/\Cs ss P n x.2.2 x.2.1 x.1

def fW    (y:ss.length<=24)(wl:ws.length=ss.length)(p1:1<=P)(F:P<=600)(z:Cs ss P n m ws c)(q:∀j,Sa G j->Q .non j):Va T (k+7) MW [Fc ws,c,Ta xs ss,.int P,.tup [],.tup []] G Q X:=by
 refine⟨rfl,?_⟩;simp! only[pA,Ub,Db];exact ES (k:=k) y wl p1 F z q
def SN    (sl:ss.length<=24)(p1:1<=P)(p2:P<=600)(hc:Cs ss P 70 m (winO P ss) c)(q:∀G',Sa G G'->Q (.bl ma) G') :
  Va T (k+8) OW [c,Fc (winO P ss),.non,.non,.non,.non,.non,Ta xs ss,.int P,.tup [],.tup []] G Q X:=by
 refine⟨rfl,?_⟩;simp! only[qA,Ub,Db];refine⟨by decide,by decide,λpl G2 n2=>?_⟩
 dsimp only;rw[S_wh];have R:∀{Ga Gb:Gp} {u:MO},Sa G Ga->Mg Ga pl u Gb->Sa G Gb:=λ{Ga Gb u} s w b z e=>w.sm _ _ (λy=>by rw[y,n2.no]at e;cases e) (s b z e)
 refine⟨λn ς G'=>∃(st:List iC) (i:Nat) (o4 o5 o6:Option U),ς=[da c,da (Fc (winO P ss)),da (.loc pl),da (.int i),o4,o5,o6,da (Ta xs ss),da (.int P),da (.tup []),da (.tup [])]/\n=(st.map (·.2.2)).sum/\Sa G G'/\G' pl=da (.lst (st.map xx))/\∀j x,st[j]?=da x->StOk ss P j x,
  ⟨_,[(c,winO P ss,m)],0,da .non,da .non,da .non,rfl,rfl,n2.sa,n2.at,λj x hx=>?_⟩,?_⟩
 ·match j,hx with
  |0,hx=>cases hx;exact⟨Ab _,70,by decide,hc⟩
  |j+1,hx=>simp at hx
 rintro n ς G3 ⟨st,i,o4,o5,o6,rfl,rfl,s3,g3,hst⟩;simp! only[];rcases snoc st with rfl|⟨st',x,rfl⟩
 ·rw[On g3,if_neg (by simp)]
  simp! only[];exact q G3 s3
 ·rw[On g3,if_pos (by simp)]
  rw[Ud]at g3;obtain⟨xl,n',ja,Z⟩:=hst st'.length x (by simp)
  have J:∀j y,st'[j]?=da y->StOk ss P j y:=λj y F=>hst j y (by rw[Pg (Ba.mp F).1];exact F)
  obtain⟨xc,I,xm⟩:=x;dsimp only at xl Z;have xa:((st'++[(xc,I,xm)]).map (·.2.2)).sum=(st'.map (·.2.2)).sum+xm:=by simp
  rw[xa];simp! only[II,mt_pop g3];refine cQ g3 λG4 p4=>?_;have g4:=p4.at
  have s4:=R s3 p4;show Lc _ (.tup [xc,Fc I]) _ _;simp! only[];refine⟨trivial,?_⟩;refine fW (k:=k) sl xl p1 p2 Z λG5 s5=>?_;have za:=s4.trans s5;have g5:=s5 _ _ g4;simp! only[];refine EM _ ?_;rw[if_neg (by decide)]
  cases Z with
  |@ring _ _ r a hw hn rl hb=>
   simp! only[uy g5];refine yU (k:=k+5) λp6 G6 Y=>?_;have g6:=Y.sa _ _ g5;simp! only[];rw[ky Y.at];intro p7 G7 n7;rw[iy (n7.sa _ _ g6) n7.at];refine⟨by simp only[Ab,GJ,Do];exact Rb (show st'.length+0<=71 by lia) (by decide),λG8 p8=>?_⟩
   have s8:=R (za.trans (Y.sa.trans n7.sa)) p8;have g8:=p8.at
   simp only[GJ,Sh]at g8;simp! only[];exact⟨(st'.map (·.2.2)).sum,by lia,st',i+1,_,_,_,rfl,rfl,s8,g8,J⟩
  |@split n1 m1 m2 _ s l h O c1 c2 ew l1 l2 k1 k2=>
   simp! only[uy g5];refine GT (k:=k+5) (ws:=I) ew (by lia) λp6 G6 Y=>?_
   have g6:=Y.sa _ _ g5;simp! only[];rw[ky Y.at];intro p7 G7 n7;rw[iy (n7.sa _ _ g6) n7.at];refine⟨by simp only[Ab,List.length_reverse,bf,Do];exact Rb (show st'.length+2<=73 by lia) (by decide),λG8 p8=>?_⟩
   have s8:=R (za.trans (Y.sa.trans n7.sa)) p8;have g8:=p8.at
   have va:n1+1+st'.length<=71:=ja;have e8:st'.map xx++[U.tup [c1,Fc (I.set s (l,O))],.tup [c2,Fc (I.set s (O+1,h))]].reverse=(st'++[(c2,I.set s (O+1,h),m2),(c1,I.set s (l,O),m1)]).map xx:=by
    rw[Ud];rfl
   rw[e8]at g8;simp! only[];refine⟨(st'.map (·.2.2)).sum+(m2+m1),by lia,st'++[(c2,I.set s (O+1,h),m2),(c1,I.set s (l,O),m1)],i+1,_,_,_,rfl,by simp,s8,g8,λj y F=>?_⟩
   by_cases hj:j<st'.length
   ·rw[Pg hj]at F;exact J j y F
   ·rw[Bn (by lia)]at F
    obtain⟨d,hd⟩:∃d,j=st'.length+d:=⟨j-st'.length,by lia⟩
    rw[hd,Nat.add_sub_cancel_left]at F
    match d,F with
    |0,F=>
     cases F;exact⟨by show(I.set s (O+1,h)).length=_;rw[Ci];exact xl,n1,by lia,k2⟩
    |1,F=>
     cases F;exact⟨by show(I.set s (l,O)).length=_;rw[Ci];exact xl,n1,by lia,k1⟩
    |d+2,F=>simp at F
def YV    (so:∀s∈ss,s.Ok W)(j:ss.length<=24)(p1:1<=P)(z:P<=600)(F:Cs ss P 70 m (winO P ss) c)(q:∀y,Sa G y->Q (.bl ma) y):Va T (k+10) KG [Ta xs ss,.int P,c] G Q X:=by
 refine⟨rfl,?_⟩;simp! only[EG,Ub,Db];refine⟨by decide,by decide,rfl,?_⟩
 simp! only[jA,Ub,Db];refine RG (k:=k+5) so j λJ s1=>?_;exact SN (k:=k) j p1 z F λI s2=>q I (s1.trans s2)

noncomputable def Hb  (a b:List Str):List Str:=a++b.filter (λn=>decide (n∉a))
noncomputable def ak  (nm b:List Str)(s:Vb):Vb:=⟨s.w,nm.idxOf (b.getD s.o ""),nm.idxOf (b.getD s.t ""),s.lo,s.hi⟩
def Cd  (a b:List Str)(sa j:List Vb):List Vb:=sa++j.map (ak (Hb a b) b)
def Df    : x∈Hb a b↔x∈a\/x∈b:=by
 unfold Hb;rw[Ma,Nc];by_cases h:x∈a<;>simp[h]
structure Pr (a b:List Str)(sa sb:List Vb):Prop where
 a8:a.length<=3
 b8:b.length<=3
 a0:0<a.length
 b0:0<b.length
 na:∀x∈a,Nm x
 nb:∀x∈b,Nm x
 ad:a.Nodup
 nd:b.Nodup
 la:sa.length<=8
 lb:sb.length<=8
 oa:∀s∈sa,s.Ok a.length
 ob:∀s∈sb,s.Ok b.length
noncomputable def outF  (a:List Str):U->Option U
 |.str x=>if (!decide (x∈a))=ma then da (.str x) else Aa
 |_=>Aa
theorem Qu   a:∀b:List Str,(b.map U.str).filterMap (outF a)=(b.filter λn=>decide (n∉a)).map .str
 |[]=>rfl
 |x::r=>by
  rw[He];by_cases h:x∈a
  ·rw[List.filterMap_cons_none (by show(if (!decide (x∈a))=ma then da (U.str x) else Aa)=_;simp[h]),List.filter_cons_of_neg (by simpa using h),Qu a r]
  ·rw[List.filterMap_cons_some (by show(if (!decide (x∈a))=ma then da (U.str x) else Aa)=_;simp[h];rfl),List.filter_cons_of_pos (by simpa using h),Qu a r];rfl
def OQ   {l:List Str}:((l.map U.str).any λy=>Ui y (.str x))=decide (x∈l):=by
 induction l with
 |nil=>simp
 |cons y r j=>
  rw[He,Vi,j];show((y==x)||_)=_;by_cases h:x=y
  ·subst h;simp
  ·have:¬y=x:=λz=>h z.symm;simp[h,this]
def in_t   {j:List Str}(q:k (decide (x∈j))):Ph (.str x) (.tup (j.map .str)) G k:=⟨rfl,YU _,by rw[OQ];exact q⟩
section
variable {k:Nat}{G:Gp}{Q:K1}{X:KX}{a b:List Str}{sa sb:List Vb}
def Pr.at  (h:Pr a b sa sb)(hs:s∈sb):b[s.o]?=da (b.getD s.o "")/\b[s.t]?=da (b.getD s.t ""):=by
 have o:=(h.ob s hs).o;have t:=(h.ob s hs).t;exact⟨by simp[Ad,o],by simp[Ad,t]⟩
def p0      : Ce (Ta xs ss) (.int 0) G Q=Q (.tup (xs.map .str)) G:=ix_t (Hf _ _)
def p1      : Ce (Ta xs ss) (.int 1) G Q=Q (.tup (ss.map Vb.u)) G:=ix_t (Je _ _ _)
def XU  (a b:List Str):(Hb a b).length<=a.length+b.length:=by
 unfold Hb;rw[gg];exact Qw (mr _ _) _
def Pr.n8  (h:Pr a b sa sb):(Hb a b).length<=6:=Rb (XU a b) (Tq h.a8 h.b8)
def FI  (h:Pr a b sa sb)(q:∀J,Sa G J->Q (.tup ((Hb a b).map .str)) J):Va T (k+1) nA [Ta a sa,Ta b sb] G Q X:=by
 have R:=h.a8;have I:=h.b8;refine⟨rfl,?_⟩;simp! only[bJ,Ub,Db,p0];refine⟨by rw[Ab];exact Rb I (by decide),?_⟩
 refine aA (outF a) trivial (λx O K hk=>?_) (λp Z F=>?_)
 ·obtain⟨y,hy,rfl⟩:=Ia.mp O;have j:K (if (!decide (y∈a))=ma then da (.str y) else Aa) G:=hk
  simp! only[p0];refine in_t ?_;split
  ·rename_i z;rw[if_pos z]at j;exact j
  ·rename_i z;rw[if_neg z]at j;exact j
 ·rw[Kg,Qu]at F;simp! only[it_l F.at];have Y:(b.filter λn=>decide (n∉a)).length<=3:=Rb (mr _ _) I;refine⟨by rw[Ab,Ab];exact Rb (Tq R Y) (by decide),?_⟩
  rw[<- Ud];exact q _ F.sa
def Wu  {j:List Str}(h:n∈j)(q:Q (.int (j.idxOf n)) G):Td .index (.tup (j.map .str)) [.str n] G Q:=by
 dsimp only[Td];unfold Mu;dsimp only;rw[IF];exact⟨h,q⟩
def Eu    : Ie .index (.tup us) G=da ("tuple", "tuple.index"):=rfl
def IW  (h:Pr a b sa sb)
  (q2:∀y,Sa G y->Q (Ta (Hb a b) (Cd a b sa sb)) y):Va T (k+2) SI [Ta a sa,Ta b sb] G Q X:=by
 have la:=h.la;have I:=h.lb;refine⟨rfl,?_⟩;simp! only[OI,Ub,Db];refine FI h λR s1=>?_;have n8:=h.n8;simp! only[gs24,Gk,Ab];rw[if_neg (by simp;lia)]
 simp! only[gs24,Gk,p1,Ab];rw[if_neg (by simp;lia)]
 simp! only[p0];refine⟨by (try rw[Ab]);exact Rb h.b8 (by decide),?_⟩
 refine sg (λi j y=>y=R/\j=(b.take i).map λn=>U.int ((Hb a b).idxOf n)) ?_ ?_ ⟨rfl,rfl⟩
 ·rintro j G2 ⟨rfl,rfl⟩;rw[Ab,Rg];refine⟨trivial,λp3 G3 z=>?_⟩;simp! only[p1];refine⟨by (try rw[Ab]);exact Rb I (by decide),?_⟩
  refine sg (λi j y=>y=G3/\j=((sb.take i).map (ak (Hb a b) b)).map Vb.u) ?_ ?_ ⟨rfl,rfl⟩
  ·rintro j Z ⟨rfl,rfl⟩;rw[Ab,Rg];refine⟨trivial,λp5 G5 J=>?_⟩;simp! only[p1,it_l J.at];refine⟨by simp only[Ab];exact Rb (Tq la I) (by decide),by decide,?_⟩
   rw[<- Ud];exact q2 _ (s1.trans (z.sa.trans J.sa))
  ·rintro i x j Z K q ⟨rfl,rfl⟩ hk _;rw[md]at q;obtain⟨s,F,rfl⟩:∃s,sb[i]?=da s/\s.u=x:=by
    cases e:sb[i]? with
    |none=>rw[e]at q;cases q
    |some s=>rw[e]at q;exact⟨s,rfl,by simpa using q⟩
   obtain⟨O,Y⟩:=h.at (Pd F);refine⟨trivial,?_⟩;rw[show s.u=.tup [.str s.w,.int s.o,.int s.t,.int s.lo,.int s.hi]from rfl];simp! only[ix_l z.at (Me (f:=λn=>U.int ((Hb a b).idxOf n)) O),ix_l z.at (Me (f:=λn=>U.int ((Hb a b).idxOf n)) Y)];refine⟨trivial,by decide,hk _ _ ⟨rfl,?_⟩⟩
   rw[Bh,F,Ud,Ud];rfl
 ·rintro i x j G2 K q ⟨rfl,rfl⟩ hk _;rw[md]at q;obtain⟨n,en,rfl⟩:∃n,b[i]?=da n/\U.str n=x:=by
   cases e:b[i]? with
   |none=>rw[e]at q;cases q
   |some s=>rw[e]at q;exact⟨s,rfl,by simpa using q⟩
  refine⟨trivial,?_⟩;simp! only[Eu];refine Wu (Df.mpr (.inr (Pd en))) (hk _ _ ⟨rfl,?_⟩);rw[Bh,en,Ud];rfl
def restr  (nm own:List Str)(bs:List Int):List Int:=own.map λn=>bt bs (nm.idxOf n:Int)
def gz {nm own:List Str}{bs:List Int}(bl:bs.length=nm.length)(J:∀n∈own,n∈nm)(Z:own.length<=3)(q:∀O,Sa G O->Q (Ec (restr nm own bs)) O):(own.map U.str).length<=db/\
  Ri (λ_=>True) (λx z k=>match Ie .index (.tup (nm.map U.str)) z with
   |some _=>Td .index (.tup (nm.map U.str)) [x] z λy z=>Ce (Ec bs) y z λu R=>k (da u) R
   |none=>False) (own.map U.str) [] G λus G5=>newO G5 (.lst us) λx j=>Lf x j λxs _=>Q (.tup xs) j:=by
 refine⟨by rw[Ab];exact Rb Z (by decide),?_⟩
 refine Mh (λu=>match u with|.str n=>.int (bt bs (nm.idxOf n:Int))|u=>u) trivial (λu hu K Y=>?_) λp j F=>?_
 ·obtain⟨n,I,rfl⟩:=Ia.mp hu;rw[Eu];refine Wu (J n I) ?_;have hl:=Rj (J n I);rw[show Ec bs=.tup (bs.map .int)from rfl,ix_t (AC (by lia) (by lia))]
  exact Y
 ·dsimp only;rw[it_l F.at];have e:[]++(own.map U.str).map (λu=>match u with|.str n=>U.int (bt bs (nm.idxOf n:Int))|u=>u)=(restr nm own bs).map .int:=by
   rw[Kg,Gf];unfold restr;rw[Gf];rfl
  rw[e];exact q j F.sa
def eW    {so:List Vb}(h:Pr a b sa sb)(bl:bs.length=(Hb a b).length)(hs:(j=0/\own=a)\/(j=1/\own=b))(q:∀I,Sa G I->Q (Ec (restr (Hb a b) own bs)) I):Va T (k+2) lH [Ta a sa,Ta b sb,Ec bs,.int j] G Q X:=by
 have R:=h.a8;have O:=h.b8;have y:∀n∈own,n∈Hb a b:=λn y=>by
  rcases hs with⟨_,rfl⟩|⟨_,rfl⟩
  ·exact Df.mpr (.inl y)
  ·exact Df.mpr (.inr y)
 have F:own.length<=3:=by rcases hs with⟨_,rfl⟩|⟨_,rfl⟩<;>lia
 refine⟨rfl,?_⟩;simp! only[eH,Ub,Db];refine FI h λJ s1=>?_;simp! only[];rcases hs with⟨rfl,rfl⟩|⟨rfl,rfl⟩
 ·rw[if_neg (by decide)]
  simp! only[p0];exact gz bl y F λz s2=>q z (s1.trans s2)
 ·rw[if_pos (by decide)]
  simp! only[p0];exact gz bl y F λz s2=>q z (s1.trans s2)
def wU     (bl:bs.length=nm.length)(y:∀n∈own,n∈nm)(z:own.length<=3)(q:∀j,Sa G j->Q (Ec (restr nm own bs)) j):Va T (k+2) xF [Ta nm ws,Ec bs,Ta own so] G Q X:=by
 refine⟨rfl,?_⟩;simp! only[ME,Ub,Db,p0];exact gz bl y z q
def DH  (h:Pr a b sa sb)(q:∀I,Sa G I->Q (Ta (Hb a b) (Cd a b sa sb)) I):Va T (k+1) Pz [Ta a sa,Ta b sb] G Q X:=by
 have h8:=h.a8;have b8:=h.b8;refine⟨rfl,?_⟩;simp! only[CG,Ub,Db,p0];refine⟨by rw[Ab];exact Rb b8 (by decide),?_⟩
 refine aA (outF a) trivial (λx F K hk=>?_) (λp G1 O=>?_)
 ·obtain⟨y,hy,rfl⟩:=Ia.mp F;have j:K (if (!decide (y∈a))=ma then da (.str y) else Aa) G:=hk
  simp! only[p0];refine in_t ?_;split
  ·rename_i z;rw[if_pos z]at j;exact j
  ·rename_i z;rw[if_neg z]at j;exact j
 rw[Kg,Qu]at O;simp! only[it_l O.at];have hl:(b.filter λn=>decide (n∉a)).length<=3:=Rb (mr _ _) b8;refine⟨by rw[Ab,Ab];exact Rb (Tq h8 hl) (by decide),?_⟩
 rw[<- Ud];simp! only[VH,p1];have la:=h.la;have lb:=h.lb;refine⟨by rw[Ab];exact Rb la (by decide),?_⟩
 refine Mh (λu=>u) trivial (λu hu K hK=>hK) λR G2 J=>?_;rw[Kg,List.map_id']at J;simp! only[WH,p1];rw[show a++b.filter (λn=>decide (n∉a))=Hb a b from rfl];refine dg (λi Z I=>(∃o4 o5 o6 o7 o8,Z=[da (Ta a sa),da (Ta b sb),da (.tup ((Hb a b).map .str)),da (.loc R),o4,o5,o6,o7,o8])/\Sa G I/\I R=da (.lst ((sa++(sb.take i).map (ak (Hb a b) b)).map Vb.u))) ?_ ?_ ⟨⟨_,_,_,_,_,rfl⟩,O.sa.trans J.sa,by rw[J.at,List.take_zero,Go,Sh]⟩
 ·rintro Z G5 ⟨⟨o4,o5,o6,o7,o8,rfl⟩,s5,g5⟩;rw[Ab,Rg]at g5;refine⟨trivial,?_⟩;simp! only[XH,it_l g5];exact⟨by decide,q _ s5⟩
 ·rintro i x Z G5 K F ⟨⟨o4,o5,o6,o7,o8,rfl⟩,s5,g5⟩ hk;rw[md]at F;obtain⟨s,es,rfl⟩:∃s,sb[i]?=da s/\s.u=x:=by
   cases e:sb[i]? with
   |none=>rw[e]at F;cases F
   |some s=>rw[e]at F;exact⟨s,rfl,by simpa using F⟩
  obtain⟨e1,Y⟩:=h.at (Pd es);refine⟨trivial,?_⟩;rw[show s.u=.tup [.str s.w,.int s.o,.int s.t,.int s.lo,.int s.hi]from rfl];simp! only[lh g5,Eu,p0,ix_t (Me (f:=U.str) e1),ix_t (Me (f:=U.str) Y)];refine⟨trivial,Wu (Df.mpr (.inr (Pd e1))) ?_⟩;simp! only[Eu,p0,ix_t (Me (f:=U.str) Y)];refine Wu (Df.mpr (.inr (Pd Y))) ?_;simp! only[Jh g5];refine⟨by decide,?_,λG6 p6=>?_⟩
  ·rw[Ab,gg,Ab,Tk];exact Ug (show sa.length+min i sb.length<=48 by lia) (by decide)
  ·have np:G R=Aa:=jz O.sa J.no;refine hk _ _ ⟨⟨_,_,_,_,_,rfl⟩,λc u e=>p6.sm _ _ (λz=>by rw[z,np]at e;cases e) (s5 _ _ e),?_⟩
   rw[p6.at,Bh,es,Ud,Ud,Ud,Ud,Jw];rfl
end

def qE  {l:List Str}(h:n∈l):l.getD (l.idxOf n) "" = n:=by
 have j:=Rj h;rw[Hi,Bc j,mK];exact Sq j
def Sn  {l:List Str}(q:l.Nodup)(j:i<l.length):l.idxOf (l.getD i "")=i:=by
 have:l.getD i "" = l[i]:=by simp[Ad,j]
 rw[this];have y:l[i]∈l:=Gj j;have z:=Rj y;exact(DJ q).mp (Sq z)
def Ek  {l:List Str}(j:i<l.length):l.getD i "" ∈ l:=by
 have:l.getD i "" = l[i]:=by simp[Ad,j]
 rw[this];exact Gj j
def OF  {l c:List Str}(j:i<l.length):(l++c).getD i "" = l.getD i "" := by
 simp[Ad,Pg j]
def Qy  {l c:List Str}(h:n∈l):(l++c).idxOf n=l.idxOf n:=by rw[List.idxOf_append,if_pos h]
def Yy   (z:a.Nodup)(j:b.Nodup):(Hb a b).Nodup:=by
 unfold Hb;refine List.nodup_append.mpr ⟨z,j.filter _,λx q y F e=>?_⟩;subst e;have:=(Nc.mp F).2;rw[decide_eq_true_eq]at this;exact this q
section
variable {a b nm own:List Str}{sa sb ss:List Vb}{P:Int}{bs bs':List Int}{s s':Vb}{W:Nat}
def sy  (y:s'.w=s.w)(z:s'.lo=s.lo)(j:s'.hi=s.hi)(q:bs'.getD s'.o 0=bs.getD s.o 0)(F:bs'.getD s'.t 0=bs.getD s.t 0):oh P bs' s'=oh P bs s:=by
 unfold oh gapZ topZ;rw[y,z,j,q,F]
def jo   (j:i<own.length):(restr nm own bs).getD i 0=bs.getD (nm.idxOf (own.getD i "")) 0:=by
 unfold restr;have:own.getD i "" = own[i]:=by simp[Ad,j]
 rw[this];simp[Ad,j,bt]
def oz  {f g:Vb->Bool}{l:List Vb}(h:∀s∈l,f s=g s):l.all f=l.all g:=by
 induction l with
 |nil=>rfl
 |cons x r q=>rw[mn,mn,h x Re,q λy j=>h y (Oc _ j)]
def qv  (h:Pr a b sa sb):Od P (Cd a b sa sb) bs=(Od P sa (restr (Hb a b) a bs)&&Od P sb (restr (Hb a b) b bs)):=by
 unfold Od Cd;rw[List.all_append,List.all_map];congr 1
 ·refine oz λs j=>(sy rfl rfl rfl ?_ ?_).symm
  ·have o:=(h.oa s j).o;rw[jo o,show Hb a b=a++_ from rfl,Qy (Ek o),Sn h.ad o]
  ·have o:=(h.oa s j).t;rw[jo o,show Hb a b=a++_ from rfl,Qy (Ek o),Sn h.ad o]
 ·refine oz λs j=>?_;show oh P bs (ak (Hb a b) b s)=_;exact(sy (s:=ak (Hb a b) b s) (s':=s) rfl rfl rfl (jo (h.ob s j).o) (jo (h.ob s j).t)).symm
def Ex  (P:Int)(a b:List Str)(sa q:List Vb):Prop:=∃j:Str->Int,(∀n,0<=j n/\j n<P)/\Od P sa (a.map j)=ma/\Od P q (b.map j)=ma
def Ex.swap  (h:Ex P a b sa sb):Ex P b a sb sa:=let ⟨y,q,j,F⟩:=h;⟨y,q,F,j⟩
def xM  (h:Pr a b sa sb)(p1:1<=P)(bl:bs.length=(Hb a b).length)(y:∀x∈bs,0<=x/\x<P)(hk:Od P (Cd a b sa sb) bs=ma):Ex P a b sa sb:=by
 rw[qv h,Qe]at hk;refine⟨λn=>if n∈Hb a b then bt bs ((Hb a b).idxOf n:Int) else 0,λn=>?_,?_,?_⟩
 ·dsimp only;split
  ·rename_i q;have z:=Rj q;exact y _ (TD (by lia) (by lia))
  ·lia
 ·rw[show a.map (λn=>if n∈Hb a b then bt bs ((Hb a b).idxOf n:Int) else 0)=restr (Hb a b) a bs from Ij λn j=>if_pos (Df.mpr (.inl j))]
  exact hk.1
 ·rw[show b.map (λn=>if n∈Hb a b then bt bs ((Hb a b).idxOf n:Int) else 0)=restr (Hb a b) b bs from Ij λn j=>if_pos (Df.mpr (.inr j))]
  exact hk.2
def uG   (y:∀n∈own,n∈nm):restr nm own (nm.map j)=own.map j:=Ij λn h=>by
 have q:=Rj (y n h);have e:=Sq q;show(nm.map j).getD ((nm.idxOf n:Int)).toNat 0=j n;rw[zn,Hi,md,Bc q,BB,mK,e]
def RN  (h:Pr a b sa sb)(j:Ex P a b sa sb):∃bs ,bs.length=(Hb a b).length/\(∀x∈bs,0<=x/\x<P)/\Od P (Cd a b sa sb) bs=ma:=by
 obtain⟨F,z,y,I⟩:=j;refine⟨(Hb a b).map F,Ab _,λx j=>?_,?_⟩
 ·obtain⟨n,_,rfl⟩:=Ia.mp j;exact z n
 ·rw[qv h,uG λn q=>Df.mpr (.inl q),uG λn q=>Df.mpr (.inr q),y,I];rfl
def Xu  (h:Pr a b sa sb):∀s∈Cd a b sa sb,s.Ok (Hb a b).length:=λs y=>by
 have q:a.length<=(Hb a b).length:=by unfold Hb;rw[gg];lia
 rcases Ma.mp y with z|z
 ·have:=h.oa s z;exact⟨this.w,Xe this.o q,Xe this.t q,this.lo,this.hi⟩
 ·obtain⟨F,j,rfl⟩:=Ia.mp z;have:=h.ob F j;exact⟨this.w,Rj (Df.mpr (.inr (Ek this.o))),Rj (Df.mpr (.inr (Ek this.t))),this.lo,this.hi⟩
def bv  (h:Pr a b sa sb):(Cd a b sa sb).length<=16:=by
 have:=h.la;have:=h.lb;unfold Cd;rw[gg,Ab];lia
def CF     (I:Ze W es ps)(O:Ze W' xa z)(f:Int->Int)(fb:∀x:Int,0<=x->x<W->0<=f x/\f x<W')(hc:∀x y:Int,0<=x->x<W->0<=y->y<W->Con xa (f x) (f y)->Con es x y):ps.length<=z.length:=by
 have hd:∀p∈ps,p.headD 0∈p/\0<=p.headD 0/\p.headD 0<W:=λp F=>by
  have m:=iU (I.ne p F);exact⟨m,I.bd p F _ m⟩
 have ex:∀p:List Int,∃j:Nat,p∈ps->∃h:j<z.length,f (p.headD 0)∈z[j]:=λp=>by
  by_cases F:p∈ps
  ·obtain⟨_,h0,h1⟩:=hd p F;obtain⟨b0,b1⟩:=fb _ h0 h1;obtain⟨q,J,R⟩:=O.al _ b0 b1;obtain⟨j,hj,e⟩:=Lg J;exact⟨j,λ_=>⟨hj,by rw[e];exact R⟩⟩
  ·exact⟨0,λh=>absurd h F⟩
 obtain⟨g,Z⟩:∃g:List Int->Nat,∀p∈ps,∃h:g p<z.length,f (p.headD 0)∈z[g p]:=⟨λp=>YJ (ex p),λp=>BK (ex p)⟩;have nd:(ps.map λp=>(g p:Int)).Nodup:=Te.mpr (I.nd.imp_of_mem λ{p q} F J ne e=>ne (by
  have e:g p=g q:=Int.ofNat.inj e;obtain⟨h1,m1⟩:=Z p F;obtain⟨h2,Y⟩:=Z q J;have Y:f (q.headD 0)∈z[g p]:=by simpa[e]using Y
  obtain⟨mp,p0,p1⟩:=hd p F;obtain⟨mq,q0,q1⟩:=hd q J;have:=hc _ _ p0 p1 q0 q1 (O.co _ (Gj h1) _ m1 _ Y);exact I.un p F q J _ (I.part F mp this) mq))
 have:=rh z.length _ nd λx R=>by
  obtain⟨p,F,rfl⟩:=Ia.mp R;obtain⟨h,_⟩:=Z p F
  lia
 rwa [Ab]at this
def jV    (y:Ze W es ps)(q:Ze W es j):ps.length<=j.length:=CF y q id (λ_ h0 z=>⟨h0,z⟩) λ_ _ _ _ _ _ h=>h
def Con.map   {f:Int->Int}(h:∀x y,(x,y)∈es->(f x,f y)∈j)(c:Con es x y):Con j (f x) (f y):=by
 induction c with
 |refl=>exact .refl _
 |step _ e q=>exact .step q (e.imp (h _ _) (h _ _))
noncomputable def tr  (nm j:List Str)(x:Int):Int:=(j.idxOf (nm.getD x.toNat ""):Nat)
def dq   (i:Nat):tr nm j (i:Int)=(j.idxOf (nm.getD i ""):Nat):=by unfold tr;rw[zn]
def nV  (h:Pr a b sa sb)(hP:Ze (Hb a b).length (Xd (Cd a b sa sb)) ps)(Y:Ze (Hb b a).length (Xd (Cd b a sb sa)) R):ps.length<=R.length:=by
 have n1:=Yy h.ad h.nd;have J:∀x,x∈Hb a b↔x∈Hb b a:=λx=>by rw[Df,Df];exact Or.comm
 have back:∀x y,(x,y)∈Xd (Cd b a sb sa)->(tr (Hb b a) (Hb a b) x,tr (Hb b a) (Hb a b) y)∈Xd (Cd a b sa sb):=λx y Z=>by
  obtain⟨s,hs,e⟩:=Ia.mp Z;obtain⟨e1,e2⟩:=Kq e;rw[<- e1,<- e2,dq,dq];rcases Ma.mp hs with z|z
  ·have o:=h.ob s z;refine Ia.mpr ⟨ak (Hb a b) b s,Ff _ (Ia.mpr ⟨s,z,rfl⟩),?_⟩;rw[show Hb b a=b++_ from rfl,OF o.o,OF o.t];rfl
  ·obtain⟨j,F,rfl⟩:=Ia.mp z;have o:=h.oa j F;refine Ia.mpr ⟨j,Gg _ F,?_⟩;have one:∀i,i<a.length->(Hb a b).idxOf ((Hb b a).getD ((Hb b a).idxOf (a.getD i "")) "")=i:=λi q=>by
    rw[qE (Df.mpr (.inr (Ek q))),show Hb a b=a++_ from rfl,Qy (Ek q),Sn h.ad q]
   show((j.o:Int),(j.t:Int))=_;rw[show(ak (Hb b a) a j).o=(Hb b a).idxOf (a.getD j.o "")from rfl,show(ak (Hb b a) a j).t=(Hb b a).idxOf (a.getD j.t "")from rfl,one _ o.o,one _ o.t]
 have I:∀x:Int,0<=x->x<(Hb a b).length->tr (Hb b a) (Hb a b) (tr (Hb a b) (Hb b a) x)=x:=λx h0 O=>by
  obtain⟨i,rfl⟩:=Gi h0;have q:i<(Hb a b).length:=by lia
  rw[dq,dq,qE ((J _).mp (Ek q)),Sn n1 q]
 refine CF hP Y (tr (Hb a b) (Hb b a)) (λx h0 O=>?_) λx y h0 O k0 k1 c=>?_
 ·obtain⟨i,rfl⟩:=Gi h0;have q:i<(Hb a b).length:=by lia
  rw[dq];have:=Rj ((J _).mp (Ek q))
  lia
 ·have:=c.map back
  rwa [I x h0 O,I y k0 k1]at this
def kT  (h:Pr a b sa sb):(Hb b a).length=(Hb a b).length:=by
 have F:∀l j:List Str,l.Nodup->(∀x,x∈l->x∈j)->l.length<=j.length:=λl=>by
  induction l with
  |nil=>intros;exact Eg _
  |cons x r Z=>
   intro j R I;obtain⟨O,Y⟩:=Za.mp R;have m:=I x Re;have:=Z (j.erase x) Y λy J=>(List.mem_erase_of_ne (λz=>O (by rw[<- z];exact J))).mpr (I y (Oc _ J))
   rw[RK m]at this;have:0<j.length:=lL m;simp only[bf];lia
 exact Nat.le_antisymm (F _ _ (Yy h.nd h.ad) λx q=>Df.mpr (Dl (Df.mp q))) (F _ _ (Yy h.ad h.nd) λx q=>Df.mpr (Dl (Df.mp q)))
end
theorem iD   : ∀{r } {a b },Wk ss r a b->Wk (ss++j) r a b
 |[],_,_,h=>h
 |e::_,_,_,⟨h1,h2,h3⟩=>by
  have g:(ss++j)[e.1]?=ss[e.1]?:=Pg h1.1;have y:eS (ss++j) e=eS ss e:=by unfold eS;rw[g]
  have q:eD (ss++j) e=eD ss e:=by unfold eD;rw[g]
  exact⟨⟨by rw[gg];exact Xe h1.1 (Nat.le_add_right _ _),h1.2⟩,y.trans h2,by rw[q];exact iD h3⟩
def Cs.app       (h:Cs ss P n m ws c):ws.length=ss.length->Cs (ss++tt) P n m (ws++vs) c:=by
 induction h with
 |@ring n ws r a O R hl J=>
  intro wl;have g:∀e∈r,(ws++vs).getD e.1 (0,0)=ws.getD e.1 (0,0):=λe j=>by
   simp only[Ad];rw[Pg (by rw[wl];exact(O.all e j).1)]
  have Y:Bf (ws++vs) r=Bf ws r:=by
   unfold Bf;congr 1;exact Ij λe j=>by unfold uf;rw[g e j]
  have Z:mf (ws++vs) r=mf ws r:=by
   unfold mf;congr 1;exact Ij λe j=>by unfold Af;rw[g e j]
  exact .ring (iD O) R hl (by unfold ij at J ⊢;rw[Y,Z];exact J)
 |@split n m1 m2 ws s l h cut c1 c2 I h1 h2 _ _ q y=>
  intro wl;have F:=(Ba.mp I).1;refine .split (by rw[Pg F];exact I) h1 h2 ?_ ?_
  ·rw[RJ _ _ F];exact q (by rw[Ci];exact wl)
  ·rw[RJ _ _ F];exact y (by rw[Ci];exact wl)
def WR    : winO P (ss++j)=winO P ss++winO P j:=Ud

def wE      (q:k (decide (i∈st))):Ph (.int i) (Ec st) G k:=by
 refine⟨rfl,vq _,?_⟩;rw[fq];exact q
noncomputable def li  (P:Int)(ws:List Int)(y:Int)(i:Nat)(b:Int):Int:=if (i:Int)∈ws then (b+y)%P else b
def ii  (P:Int)(ws:List Int)(y:Int)(bs:List Int):List Int:=(Ge bs.length).map λi=>li P ws y i (bs.getD i 0)

def ID  : (ii P ws y bs).length=bs.length:=by unfold ii;simp

def KW  (hP:0<P)(hl:bs.length<=8)(q:∀F,Sa G F->Q (Ec (ii P ws y bs)) F):Va T (k+1) iI [.int P,Ec bs,Ec ws,.int y] G Q X:=by
 refine⟨rfl,?_⟩;simp! only[dI,Ub,Db];rw[show Ec bs=.tup (bs.map .int)from rfl];refine⟨by rw[Ym,Ab];exact Rb hl (by decide),?_⟩
 refine sg (λi j F=>F=G/\j=((Ge i).map λi=>U.int (li P ws y i (bs.getD i 0)))) ?_ ?_ ⟨rfl,rfl⟩
 ·rintro j J ⟨rfl,rfl⟩;rw[Ym,Ab];refine⟨trivial,λp Z R=>?_⟩;dsimp only;rw[it_l R.at];have:=q Z R.sa;unfold Ec ii at this;rw[Gf]at this;exact this
 ·rintro i x j J K Y ⟨rfl,rfl⟩ hk _;obtain⟨u,hu,rfl⟩:=io Y;rw[md]at hu;cases I:bs[i]? with
  |none=>rw[I]at hu;cases hu
  |some b=>
   rw[I]at hu;have hu:=(Ee hu).symm;subst hu;have hd:bs.getD i 0=b:=by rw[Hi,I];rfl
   refine⟨trivial,?_⟩;simp! only[];refine⟨trivial,?_⟩;rw[dn];refine wE ?_;have O:∀z,z=li P ws y i b->K (da (.int z)) J:=λz hz=>hk _ _ ⟨rfl,by rw[jr,Ud,hz,<- hd];rfl⟩
   by_cases c:(i:Int)∈ws
   ·rw[if_pos (by simpa using c)];exact⟨hP,O _ (by unfold li;rw[if_pos c])⟩
   ·rw[if_neg (by simpa using c)];exact O _ (by unfold li;rw[if_neg c])
def Xh  (P:Int)(ss:List Vb)(bs ws:List Int)(n:Nat):List Int:=((Ge n).map λi:Nat=>(i:Int)).filter λx=>Od P ss (ii P ws x bs)
def gv   n:Xh P ss bs ws (n+1)=Xh P ss bs ws n++(if Od P ss (ii P ws n bs)=ma then [(n:Int)] else []):=by
 unfold Xh;rw[jr,Ud,List.filter_append];congr 1;show List.filter _ [(n:Int)]=_;rw[List.filter_cons,List.filter_nil]
def ZV  (I:0<P)(Y:P<=600)(Z:bs.length<=8)(bl:bs.length=W)(so:∀s∈ss,s.Ok W)(J:ss.length<=24)(q:∀p y,Sa G y->G p=Aa->y p=da (.lst ((Xh P ss bs ws P.toNat).map .int))->Q (.loc p) y):Va T (k+3) LG [Ta xs ss,.int P,Ec bs,Ec ws] G Q X:=by
 refine⟨rfl,?_⟩;simp! only[GG,Ub,Db];refine⟨by lia,by lia,by rw[Jf];exact Rb (show P.toNat<=600 by lia) (by decide),?_⟩
 refine sg (λi j y=>Sa G y/\j=(Xh P ss bs ws i).map .int) ?_ ?_ ⟨Sa.refl,rfl⟩
 ·rintro j R ⟨s1,rfl⟩;rw[Jf];refine⟨trivial,λp z F=>q p z (s1.trans F.sa) ?_ F.at⟩;cases e:G p with
  |none=>rfl
  |some o=>have:=s1 _ _ e;rw[F.no]at this;cases this
 ·rintro i x j R K O ⟨s1,rfl⟩ hk hn;obtain⟨hi,rfl⟩:=uh O;refine⟨trivial,?_⟩;simp! only[];refine KW (k:=k+1) I Z λz s2=>?_;refine gG (k:=k) (kk:=λb=>if b=ma then K (da (.int i)) z else K Aa z) I (by rw[ID];exact bl) so J λu hu=>?_
  simp! only[];rw[hu];by_cases c:Od P ss (ii P ws i bs)=ma
  ·rw[if_pos c];refine hk _ _ ⟨s1.trans s2,?_⟩;rw[gv,if_pos c,Ud];rfl
  ·rw[if_neg c];refine hn _ ⟨s1.trans s2,?_⟩;rw[gv,if_neg c,Sh]
def nW  (O:0<P)(xa:P<=600)(hl:bs.length<=8)(bl:bs.length=W)(bb:∀b∈bs,0<=b/\b<P)(so:∀s∈ss,s.Ok W)(sl:ss.length<=24)(q:∀p F,Sa G F->F p=da (.lst ((Xh P ss bs ws P.toNat).map .int))->Q (.loc p) F):Va T (k+3) BH [Ta xs ss,.int P,Ec bs,Ec ws] G Q X:=by
 refine⟨rfl,?_⟩;simp! only[qH,Ub,Db];refine⟨by decide,λp G1 Y=>?_⟩
 simp! only[jI];refine⟨by lia,by lia,?_⟩
 refine dg (λi ς F=>∃o5 o6:Option U,ς=[da (Ta xs ss),da (.int P),da (Ec bs),da (Ec ws),da (.loc p),o5,o6]/\Sa G F/\F p=da (.lst ((Xh P ss bs ws i).map .int))) ?_ ?_ ⟨_,_,rfl,Y.sa,Y.at⟩
 ·rintro ς G2 ⟨o5,o6,rfl,s2,g2⟩;rw[Jf]at g2;refine⟨trivial,?_⟩;simp! only[];exact q p G2 s2 g2
 ·rintro i x ς G2 K hx ⟨o5,o6,rfl,s2,g2⟩ hk;obtain⟨hi,rfl⟩:=uh hx;refine⟨trivial,?_⟩;simp! only[Ec,Ab];refine⟨by lia,by lia,by rw[Jf];exact Rb (show((bs.length:Int)).toNat<=8 by lia) (by decide),?_⟩
  refine sg (λj I F=>F=G2/\I=((Ge j).map λj=>U.int (li P ws i j (bs.getD j 0)))) ?_ ?_ ⟨rfl,rfl⟩
  ·rintro I G3 ⟨rfl,rfl⟩;rw[Jf];refine⟨trivial,λp4 G4 J=>?_⟩;simp! only[it_l J.at];have em:(Ge bs.length).map (λj=>U.int (li P ws i j (bs.getD j 0)))=(ii P ws i bs).map .int:=by
    unfold ii;rw[Gf];rfl
   rw[em];refine aG (k:=k) (xs:=xs) (bs:=ii P ws i bs) O (by rw[ID];exact bl) so sl λG5 Z=>?_
   have g5:=Z _ _ (J.sa _ _ g2);by_cases c:Od P ss (ii P ws i bs)=ma
   ·rw[if_pos c];simp! only[lh g5,Jh g5];have sl:(Xh P ss bs ws i).length<=i:=by
     unfold Xh;exact Rb (mr _ _) (by simp)
    refine⟨by rw[Ab];exact Ug (show _<=600 by lia) (by decide),λG6 p6=>hk _ _ ⟨_,_,rfl,λb u e=>p6.sm _ _ (λz=>by rw[z,Y.no]at e;cases e) (Z _ _ (J.sa _ _ (s2 _ _ e))),?_⟩⟩
    rw[p6.at,gv,if_pos c,Ud];rfl
   ·rw[if_neg c];refine hk _ _ ⟨_,_,rfl,s2.trans (J.sa.trans Z),?_⟩;rw[gv,if_neg c,Sh];exact g5
  ·rintro j y I G3 K3 hy ⟨rfl,rfl⟩ hk3 _;obtain⟨R,rfl⟩:=uh hy;have R:j<bs.length:=by lia
   refine⟨trivial,?_⟩;simp! only[ix_t (nq R)];have bj:0<=bs.getD j 0/\bs.getD j 0<P:=bb _ (by simp[Ad,R])
   refine wE ?_;by_cases c:(j:Int)∈ws
   ·rw[if_pos (decide_eq_true c)];refine⟨.inr (by constructor<;>lia),O,hk3 _ _ ⟨rfl,?_⟩⟩
    rw[jr,Ud];show _=_++[U.int (li P ws i j (bs.getD j 0))];unfold li;rw[if_pos c,Int.mul_one]
   ·rw[if_neg (by rw[decide_eq_false c];decide)]
    refine⟨.inr (by constructor<;>lia),O,hk3 _ _ ⟨rfl,?_⟩⟩
    rw[jr,Ud];show _=_++[U.int (li P ws i j (bs.getD j 0))];unfold li;rw[if_neg c,Int.mul_zero,Int.add_zero,Int.emod_eq_of_lt bj.1 bj.2]

def Jy    (y:xs.length<=8)(nm:∀x∈xs,Nm x)(F:ss.length<=24)(so:∀s∈ss,s.Ok xs.length):Ft 600000 3 (Ta xs ss):=by
 refine(Ft.tup (n:=260000) (k:=2) (m:=2) (Jb _) (λu hu=>?_) (by decide)).mono (Jb _) (Jb _)
 simp only[Mc,Qg,or_false]at hu;rcases hu with rfl|rfl
 ·refine(Ft.tup (n:=82) (k:=0) (m:=8) (by rw[Ab];exact y) (λv j=>?_) (by decide:_<=1000)).mono (by decide) (by decide)
  obtain⟨x,q,rfl⟩:=Ia.mp j;exact Ft.str (nm x q).l8 (nm x q).ch
 ·refine Ft.tup (n:=10000) (k:=1) (m:=25) (by rw[Ab];lia) (λv j=>?_) (by decide)
  obtain⟨s,z,rfl⟩:=Ia.mp j;exact(so s z).ft y
def Nu     (h:k ua):cmpU .NotEq (.str x) (.str x) G k:=by
 show k (!decide (x=x));rw[decide_eq_true rfl];exact h
def SG  (l:List Int):Small (.tuple (l.map .int)):=⟨(Fk l).1,by show Fj (l.map .int)+1<=100;rw[(Fk l).2.1];decide⟩
def JQ     (h:k ua):cmpU .NotEq (Ec l) (Ec l) G k:=by
 cases l with
 |nil=>exact h
 |cons x r=>
  refine(?_:eqU (Ec (x::r)) (Ec (x::r)) G λb=>k (!b));refine⟨.tuple ((x::r).map .int),.tuple ((x::r).map .int),.tup (kq _),.tup (kq _),SG _,SG _,?_⟩;have:Vd (.list ((x::r).map .int)) (.list ((x::r).map .int))=ma:=by rw[FE];exact decide_eq_true rfl
  show k (!PyData.eqv (.list ((x::r).map .int)) (.list ((x::r).map .int)));rw[this];exact h
structure Pq (P:Int)(a b:List Str)(sa sb:List Vb):Prop extends Pr a b sa sb where
 p1:1<=P
 p2:P<=12
def Pq.swap     (h:Pq P a b sa sb):Pq P b a sb sa:=⟨⟨h.b8,h.a8,h.b0,h.a0,h.nb,h.na,h.nd,h.ad,h.lb,h.la,h.ob,h.oa⟩,h.p1,h.p2⟩
def By  {P:Int}(j:P<=12)(h:n<=m):P.toNat ^ n<=12 ^ m:=Rb (Nat.pow_le_pow_left (by lia) n) (ur (by decide) h)
def AE   (h:0<a.length):0<(Hb a b).length:=by unfold Hb;rw[gg];lia

theorem Ly  (so:∀s∈ss,s.Ok xs.length)(z:ss.length<=24)(I:0<xs.length)(F:xs.length<=6)(p1:1<=P)(O:P<=12)(pw:∀ps ,Ze xs.length (Xd ss) ps->P.toNat ^ (xs.length-ps.length)<=300)
  (q1:∀c m j ,Sa G j->Cs ss P 70 m (winO P ss) c->(∀l,Od P ss l=ua)->Q (.tup [.str "none",c]) j)
  (q2:∀(bs:List Int) j ,Sa G j->bs.length=xs.length->(∀b∈bs,0<=b/\b<P)->Od P ss bs=ma->Q (.tup [.str "times",Ec bs]) j):Va T (k+76) uo [Ta xs ss,.int P] G Q X:=by
 refine IT so z I (by lia) p1 (by lia) (Rb (By O F) (by decide)) pw (λc m q s1 y=>q1 c m q s1 y λl=>?_) λbs q s1 bl Y hk=>q2 bs q s1 bl Y ((uF p1).mpr hk)
 cases e:Od P ss l with
 |false=>rfl
 |true=>
  have wl:(winO P ss).length=ss.length:=Ab _;obtain⟨L,R,J⟩:=QO wl ((uF p1).mp e);exact(y.no p1 wl L R J).elim
def pw_alone  {xs: List Str}{P: Int}(p1:1<=P)(j:P<=12)(q:0<xs.length)(z:xs.length<=3):∀ps ,Ze xs.length (Xd ss) ps->P.toNat ^ (xs.length-ps.length)<=300:=λps y=>by
 have:=DF y q;exact Rb (By j (m:=2) (by lia)) (by decide)
def Told  (P:Int)(a b:List Str)(sa q:List Vb)(j:U):Prop:=(∃c,j=.tup [.str "none",c]/\∀l,Od P (Cd a b sa q) l=ua)\/∃bs:List Int,j=.tup [.str "times",Ec bs]/\bs.length=(Hb a b).length/\(∀x∈bs,0<=x/\x<P)/\Od P (Cd a b sa q) bs=ma
theorem Sy  {X: KX}{q u:U}(h:Pq P a b sa sb)(hs:(j=0/\own=a/\so=sa)\/(j=1/\own=b/\so=sb))(ht:Told P a b sa sb q)
  (kk:∀o7 o8 O,Sa G O->K [da (Ta a sa),da (Ta b sb),da (.int P),da (Ta (Hb a b) (Cd a b sa sb)),da q,da (.int j),da (Ta own so),o7,o8] O) :
  Tc T.gs (Va T (k+79)) Jv ⟨K,Q,λx _ O=>X x O⟩ [da (Ta a sa),da (Ta b sb),da (.int P),da (Ta (Hb a b) (Cd a b sa sb)),da q,da (.int j),da (Ta own so),o7,o8] G:=by
 have hP:0<P:=by have:=h.p1;lia
 rcases ht with⟨c,rfl,_⟩|⟨bs,rfl,bl,bb,hk⟩
 ·simp! only[Jv,ix_t (Hf _ _)];rw[if_neg (by decide +kernel)]
  exact kk _ _ _ Sa.refl
 ·rw[qv h.toPr,Qe]at hk;have F:Od P so (restr (Hb a b) own bs)=ma:=by
   rcases hs with⟨_,rfl,rfl⟩|⟨_,rfl,rfl⟩
   ·exact hk.1
   ·exact hk.2
  have I:∀s∈so,s.Ok own.length:=by
   rcases hs with⟨_,rfl,rfl⟩|⟨_,rfl,rfl⟩
   ·exact h.oa
   ·exact h.ob
  have R:so.length<=8:=by
   rcases hs with⟨_,rfl,rfl⟩|⟨_,rfl,rfl⟩
   ·exact h.la
   ·exact h.lb
  have J:∀n∈own,n∈Hb a b:=λn J=>by
   rcases hs with⟨_,rfl,rfl⟩|⟨_,rfl,rfl⟩
   ·exact Df.mpr (.inl J)
   ·exact Df.mpr (.inr J)
  have Z:own.length<=3:=by
   rcases hs with⟨_,rfl,rfl⟩|⟨_,rfl,rfl⟩
   ·exact h.a8
   ·exact h.b8
  simp! only[Jv,ix_t (Hf _ _)];rw[if_pos (by decide +kernel)]
  simp! only[pJ];rw[ix_t (Je _ _ _)];refine eW (k:=k+77) (own:=own) (so:=so) h.toPr bl (by rcases hs with⟨z,y,_⟩|⟨z,y,_⟩;exact .inl ⟨z,y⟩;exact .inr ⟨z,y⟩) λG1 s1=>?_
  simp! only[qJ];rw[ix_t (Je _ _ _)];refine wU (k:=k+77) bl J Z λY s2=>?_;refine JQ ?_;simp! only[];refine gG (k:=k+77) (kk:=λc=>if (!c)=ma then Q (.str "") Y else K [da (Ta a sa),da (Ta b sb),da (.int P),da (Ta (Hb a b) (Cd a b sa sb)),da (.tup [.str "times",Ec bs]),da (.int j),da (Ta own so),o7,da (Ec (restr (Hb a b) own bs))] Y) hP (show(restr (Hb a b) own bs).length=own.length from Ab _) I (by lia) λu hu=>?_
  refine(Eq.mpr hu ?_);rw[F,if_neg (by decide)]
  exact kk _ _ _ (s1.trans s2)
theorem tF  {X: KX}{j u:U}(h:Pq P a b sa sb)(hs:(q=0/\own=a/\so=sa)\/(q=1/\own=b/\so=sb))(O:Told P a b sa sb j)
  (kk:∀o7 o8 y,Sa G y->K [da (Ta a sa),da (Ta b sb),da (.int P),da (Ta (Hb a b) (Cd a b sa sb)),da j,da (.int q),da (Ta own so),o7,o8] y) :
  Tc T.gs (Va T (k+79)) dA ⟨K,Q,λx _ y=>X x y⟩ [da (Ta a sa),da (Ta b sb),da (.int P),da (Ta (Hb a b) (Cd a b sa sb)),da j,da (.int q),da (Ta own so),o7,o8] G:=by
 have hP:0<P:=by have:=h.p1;lia
 have p2:=h.p2;have I:∀s∈so,s.Ok own.length:=by
  rcases hs with⟨_,rfl,rfl⟩|⟨_,rfl,rfl⟩
  ·exact h.oa
  ·exact h.ob
 have xa:so.length<=8:=by
  rcases hs with⟨_,rfl,rfl⟩|⟨_,rfl,rfl⟩
  ·exact h.la
  ·exact h.lb
 have o0:0<own.length/\own.length<=3:=by
  rcases hs with⟨_,rfl,rfl⟩|⟨_,rfl,rfl⟩
  ·exact⟨h.a0,h.a8⟩
  ·exact⟨h.b0,h.b8⟩
 have Z:=bv h.toPr;simp! only[dA];refine Ly (k:=k+3) I (by lia) o0.1 (by lia) h.p1 h.p2 (pw_alone h.p1 h.p2 o0.1 o0.2) (λc m G1 s1 hc J=>?_) λva G1 s1 ya za ja=>?_
 ·have tn:∃c,j=.tup [.str "none",c]/\∀l,Od P (Cd a b sa sb) l=ua:=by
   rcases O with z|⟨bs,rfl,bl,bb,hk⟩
   ·exact z
   ·rw[qv h.toPr,Qe]at hk;rcases hs with⟨_,rfl,rfl⟩|⟨_,rfl,rfl⟩
    ·rw[J]at hk;exact absurd hk.1 (by decide)
    ·rw[J]at hk;exact absurd hk.2 (by decide)
  obtain⟨ct,rfl,hl⟩:=tn;have rest:=Sy (k:=k) (K:=K) (Q:=Q) (X:=X) (G:=G1) (u:=.non) (o7:=da (.tup [.str "none",c])) (o8:=o8) h hs O λo7 o8 y F=>kk o7 o8 y (s1.trans F);simp! only[fA,ix_t (Hf _ _)];rw[if_pos (by decide +kernel)]
  simp! only[oJ,ix_t (Hf _ _)];rw[if_neg (by decide +kernel)]
  rcases hs with⟨rfl,rfl,rfl⟩|⟨rfl,rfl,rfl⟩
  ·rw[if_pos (by decide)]
   simp! only[];rw[ix_t (Je _ _ _)];have Y:Cs (Cd own b so sb) P 70 m (winO P (Cd own b so sb)) c:=by
    unfold Cd;rw[WR];exact hc.app (Ab _)
   refine YV (k:=k+69) (Xu h.toPr) (by lia) h.p1 (by lia) Y λG2 s2=>?_
   have rest:=Sy (k:=k) (K:=K) (Q:=Q) (X:=X) (G:=G2) (u:=.non) (o7:=da (.tup [.str "none",c])) (o8:=o8) h (.inl ⟨rfl,rfl,rfl⟩) O λo7 o8 y F=>kk o7 o8 y ((s1.trans s2).trans F);have R:∀kk:Bool->Prop,kk ma->Oh (.bl ma) (.bl ma) kk:=λ_ h=>h;refine R _ ?_;rw[if_neg (by decide)]
   exact rest
  ·rw[if_neg (by decide)]
   simp! only[];exact rest
 ·simp! only[fA,ix_t (Hf _ _)];rw[if_neg (by decide +kernel)]
  exact Sy (k:=k) (u:=.non) h hs O λo7 o8 y F=>kk o7 o8 y (s1.trans F)
theorem mE  (h:Pq P a b sa sb)(pw:∀ps ,Ze (Hb a b).length (Xd (Cd a b sa sb)) ps->P.toNat ^ ((Hb a b).length-ps.length)<=300)
  (q:∀(w:Str) y ,Sa G y->((w = "times" /\ Ex P a b sa sb)\/(w = "none" /\ ¬Ex P a b sa sb))->Q (.str w) y):Va T (k+80) kA [Ta a sa,Ta b sb,.int P] G Q X:=by
 have hP:0<P:=by have:=h.p1;lia
 have p2:=h.p2;have n6:=h.toPr.n8;have ja:=bv h.toPr;have R:=Xu h.toPr;have xa:∀x∈Hb a b,Nm x:=λx F=>(Df.mp F).elim (h.na x) (h.nb x);obtain⟨z0,hz⟩:∃z:Str,∀(G:Gp) (Q:K1),Q (.str z) G->sj [Ta (Hb a b) (Cd a b sa sb)] G Q:=⟨_,λG Q q=>UC (Jy (by lia) xa (by lia) R) (by decide) (by decide) q⟩
 refine⟨rfl,?_⟩;simp! only[aJ,Ub,Db];refine IW (k:=k+77) h.toPr λG1 s1=>?_;simp! only[GI];refine hz _ _ ?_;refine DH (k:=k+78) h.toPr λG2 s2=>?_;refine hz _ _ ?_;refine Nu ?_;rw[if_neg (by decide)]
 simp! only[HI];have O:∀(j:U) (I:Gp),Sa G I->Told P a b sa sb j->(∀o5 o6 o7 o8 y,Sa I y->Tc T.gs (Va T (k+79)) Kv ⟨λ_ y=>Q .non y,Q,λx _ y=>X x y⟩ [da (Ta a sa),da (Ta b sb),da (.int P),da (Ta (Hb a b) (Cd a b sa sb)),da j,o5,o6,o7,o8] y)->
   Tc T.gs (Va T (k+79)) bA ⟨λ_ y=>Q .non y,Q,λx _ y=>X x y⟩ [da (Ta a sa),da (Ta b sb),da (.int P),da (Ta (Hb a b) (Cd a b sa sb)),da j,Aa,Aa,Aa,Aa] I:=λj I Y ht za=>by
  simp! only[bA];refine⟨by decide,by decide,by decide,?_⟩
  refine dg (λi ς y=>(∃o5 o6 o7 o8,ς=[da (Ta a sa),da (Ta b sb),da (.int P),da (Ta (Hb a b) (Cd a b sa sb)),da j,o5,o6,o7,o8])/\Sa I y) ?_ ?_ ⟨⟨_,_,_,_,rfl⟩,Sa.refl⟩
  ·rintro ς G4 ⟨⟨o5,o6,o7,o8,rfl⟩,J⟩;exact⟨trivial,za _ _ _ _ G4 J⟩
  ·rintro i x ς G4 K F ⟨⟨o5,o6,o7,o8,rfl⟩,J⟩ hk;refine⟨trivial,?_⟩
   match i,F with
   |0,F=>
    cases F;simp! only[];refine⟨trivial,?_⟩;exact tF (k:=k) (u:=.non) h (.inl ⟨rfl,rfl,rfl⟩) ht λo7 o8 y s'=>hk _ _ ⟨⟨_,_,_,_,rfl⟩,J.trans s'⟩
   |1,F=>
    cases F;simp! only[];refine⟨trivial,?_⟩;exact tF (k:=k) (u:=.non) h (.inr ⟨rfl,rfl,rfl⟩) ht λo7 o8 y s'=>hk _ _ ⟨⟨_,_,_,_,rfl⟩,J.trans s'⟩
   |i+2,F=>simp at F
 refine Ly (k:=k+3) R (by lia) (AE h.a0) n6 h.p1 h.p2 pw (λc m I Y hc Z=>?_) λbs I Y bl bb hk=>?_
 ·refine O _ I (s1.trans (s2.trans Y)) (.inl ⟨c,rfl,Z⟩) λo5 o6 o7 o8 G4 J=>?_;simp! only[Kv,ix_t (Hf _ _)];rw[if_pos (by decide +kernel)]
  refine q _ G4 (s1.trans (s2.trans (Y.trans J))) (.inr ⟨rfl,λF=>?_⟩);obtain⟨bs,_,_,hk⟩:=RN h.toPr F;rw[Z]at hk;cases hk
 ·refine O _ I (s1.trans (s2.trans Y)) (.inr ⟨bs,rfl,bl,bb,hk⟩) λo5 o6 o7 o8 G4 J=>?_;simp! only[Kv,ix_t (Hf _ _)];rw[if_neg (by decide +kernel)]
  simp! only[];rw[ix_t (Je _ _ _)]
  refine aG (k:=k+77) (xs:=Hb a b) (bs:=bs) hP bl R (by lia) λG5 s5=>?_
  rw[hk,if_pos rfl];exact q _ G5 (s1.trans (s2.trans (Y.trans (J.trans s5)))) (.inl ⟨rfl,xM h.toPr h.p1 bl bb hk⟩)

structure wL (W:Nat)(s:Vb):Prop where
 ok:s.Ok W
 le:s.w = "span" -> s.lo<=s.hi

noncomputable def Pi  : List Str:=["a", "ab", "b", "ba", "abc", "z", "n", "at"]
def yO  : ∀x∈Pi,Nm x:=by
 have h:∀x∈Pi,x.length<=8/\∀c∈x.cps.toList,c<128:=by decide +kernel
 exact λx j=>⟨(h x j).1,(h x j).2⟩
def AF  {m:Int}(hf:Fd G f c)(h1:1<=P)(h2:P<=300)(w0:0<W)(w8:W<=8)(m0:1<=m)(m1:m<=24)
  (q:∀(ss:List Vb) j ,ss.length<=m->(∀s∈ss,s.Ok W)->Fd j f c->Sm f G j->Q (Ta (Pi.take W) ss) j):Va T (k+4) Oz [.loc f,.int W,.int m,.int P] G Q X:=by
 refine⟨rfl,?_⟩;simp! only[BG,Ub,Db];refine⟨by lia,by lia,by rw[Jf];exact Rb w8 (by decide),?_⟩
 refine sg (λi J j=>Fd j f c/\Sm f G j/\∃bs:List Int,J=bs.map .int/\bs.length=i) ?_ ?_ ⟨hf,Sm.refl,[],rfl,rfl⟩
 ·rintro J G1 ⟨f1,s1,bs,rfl,hl⟩;rw[Jf]at hl;refine⟨trivial,λpb G2 Y=>?_⟩;simp! only[];refine⟨by decide,λZ G3 I=>?_⟩
  have f2:=f1.new Y;have hb:=f1.away Y;have h5:=f2.away I;have s2:=s1.nw Y;refine af (f2.new I) (by lia) (by lia) λm' G4 a4 b4 f4 s4=>?_
  have za:Z≠pb:=Rm Y.at I.no;simp! only[];refine⟨by lia,by lia,?_⟩
  refine dg (λi ς j=>∃(ss:List Vb) (o6 o7 o8 o9:Option U),ς=[da (.loc f),da (.int W),da (.int m),da (.int P),da (.loc pb),da (.loc Z),o6,o7,o8,o9]/\Fd j f c/\Sm f G j/\j pb=da (.lst (bs.map .int))/\j Z=da (.lst (ss.map Vb.u))/\ss.length=i/\∀s∈ss,wL W s) ?_ ?_
   ⟨[],_,_,_,_,rfl,f4,(s2.nw I).trans s4,s4 _ _ hb.1 (I.sa _ _ Y.at),s4 _ _ h5.1 I.at,rfl,λ_ h=>(nomatch h)⟩
  ·rintro ς G5 ⟨ss,o6,o7,o8,o9,rfl,f5,s5,gb,g5,l5,o5⟩;rw[Jf]at l5;refine⟨trivial,?_⟩;simp! only[UH,it_l g5];refine⟨by decide,by decide,?_⟩
   have e:cut [U.str "a",.str "ab",.str "b",.str "ba",.str "abc",.str "z",.str "n",.str "at"] Aa (da (W:Int))=(Pi.take W).map .str:=by
    rw[Rn,gB];rfl
   rw[e];exact q ss _ (by lia) (λs hs=>(o5 s hs).ok) f5 s5
  ·rintro i x ς G5 K hx ⟨ss,o6,o7,o8,o9,rfl,f5,s5,gb,g5,l5,o5⟩ hk;obtain⟨hi,rfl⟩:=uh hx;refine⟨trivial,?_⟩;simp! only[];refine af f5 (by decide) (by decide) λR G6 a6 b6 f6 s6=>?_
   refine Gz f6 h1 (by lia) λlo G7 a7 b7 f7 s7=>?_
   refine af f7 (by lia) (by lia) λr8 G8 a8 b8 f8 s8=>?_
   have S8:=s6.trans (s7.trans s8);have g8:=S8 _ _ h5.1 g5;simp! only[gJ];refine⟨by lia,?_⟩
   obtain⟨t,ht⟩:∃t:Nat,((i:Int)+1+r8)%(W:Int)=t:=⟨_,(Gi (Ej _ (by lia))).choose_spec⟩
   have va:(t:Int)<W:=by rw[<- ht];exact Hj _ (by lia)
   obtain⟨o,ho⟩:∃o:Nat,(i:Int)%(W:Int)=o:=⟨_,(Gi (Ej _ (by lia))).choose_spec⟩
   have ya:(o:Int)<W:=by rw[<- ho];exact Hj _ (by lia)
   rw[ht];have add:∀(s:Vb) (y:Gp) (o8':Option U),wL W s->Fd y f c->Sm f G8 y->Td .append (.loc Z) [s.u] y λ_ G1=>K [da (.loc f),da (.int W),da (.int m),da (.int P),da (.loc pb),da (.loc Z),da (.int i),da (.int R),da (.int lo),da (.int t)] G1:=λs y _ os O F=>by
    have g9:=F _ _ h5.1 g8;rw[Jh g9];refine⟨by rw[Ab];exact Xe (show ss.length<25 by lia) (by decide),λGa pa=>?_⟩
    refine hk _ _ ⟨ss++[s],_,_,_,_,rfl,O.off h5 pa,Sm.wr s2 I.no (s5.trans (S8.trans F)) pa,pa.sm _ _ (Xa za) (F _ _ hb.1 (S8 _ _ hb.1 gb)),by rw[Ud];exact pa.at,by simp[l5],λz hz=>?_⟩
    rcases Ma.mp hz with z'|z'
    ·exact o5 z z'
    ·rw[Ea.mp z'];exact os
   by_cases c1:R<3
   ·rw[if_pos (by simpa using c1)]
    simp! only[lh g8];exact cV f8 h1 (by lia) (S8 _ _ hb.1 gb) hb.1 hl w0 w8 λs y os ja O F=>add s y Aa ⟨os,ja⟩ O F
   ·rw[if_neg (by simpa using c1)]
    simp! only[];by_cases c2:R<5
    ·rw[if_pos (by simpa using c2)]
     simp! only[lh g8];refine⟨by lia,by decide,by decide,af f8 (by lia) (by lia) λr9 y a9 b9 O F=>⟨by decide,?_⟩⟩
     rw[ho];exact add ⟨"span",o,t,lo,lo+r9⟩ y Aa ⟨⟨.inr rfl,by dsimp only;lia,by dsimp only;lia,by dsimp only;lia,by dsimp only;lia⟩,λ_=>by dsimp only;lia⟩ O F
    ·rw[if_neg (by simpa using c2)]
     simp! only[lh g8];refine⟨by lia,Gz f8 h1 (by lia) λxa y a9 b9 O F=>⟨by decide,?_⟩⟩
     rw[ho];exact add ⟨"apart",t,o,lo,xa⟩ y Aa ⟨⟨.inl rfl,by dsimp only;lia,by dsimp only;lia,by dsimp only;lia,by dsimp only;lia⟩,λz=>absurd (show("apart" : Str) = "span" from z) (by decide +kernel)⟩ O F
 ·rintro i x J G1 K hx ⟨f1,s1,bs,rfl,hl⟩ hk _;exact⟨trivial,af f1 (by lia) (by lia) λr G2 a2 b2 f2 s2=>hk _ _ ⟨f2,s1.trans s2,bs++[r],by simp,by simp[hl]⟩⟩
noncomputable def gi  : List (List Str):=[["z", "at", "n", "none", "abc", "ba"],["a", "ab", "b", "z"],["b", "z", "a", "at"],["ab", "a", "n", "b"]]
def zO  : ∀l∈gi,(∀x∈l,x.length<=8/\∀c∈x.cps.toList,c<128)/\l.Nodup/\3<=l.length/\l.length<=6:=by decide +kernel
noncomputable def Zp  : List Str:=["z", "at", "n", "none", "abc", "ba"]
def ET   (hf:Fd G f c)(w0:0<xs.length)(w3:xs.length<=3)(q:∀(l:List Str) G' ,l∈gi->(xa=0->l=Zp)->Fd G' f c->Sm f G G'->Q (Ta (l.take xs.length) ss) G') :
  Va T (k+2) IG [.loc f,Ta xs ss,.int xa] G Q X:=by
 have tup:∀(l:List Str) (p:Ca) (F:Gp),l∈gi->F p=da (.lst (l.map .str))->(∀G2,Sa F G2->Q (Ta (l.take xs.length) ss) G2)->(Ce (Ta xs ss) (.int 0) F λx F=>lenU [x] F λx F=>match x with
   |.int j=>Gh (.loc p) Aa (da j) F λx F=>Lf x F λys _=>Ce (Ta xs ss) (.int 1) F λy G2=>0+1+1<=db/\Q (.tup [.tup ys,y]) G2
   |_=>False):=λl p F hl g1 hq=>by
  rw[p0];show Gh (.loc p) Aa (da (((xs.map U.str).length:Nat):Int)) F _;rw[sl_l g1];intro p7 J n7;rw[it_l n7.at,p1,Rn,Ab,<- gB];exact⟨by decide,hq J n7.sa⟩
 refine⟨rfl,?_⟩;simp! only[AG,Ub,Db];refine⟨by decide,λp F O=>?_⟩
 simp! only[];by_cases c0:0<xa
 ·rw[if_pos (decide_eq_true c0)];refine⟨by decide,λp2 G2 Y=>⟨by decide,λp3 G3 n3=>⟨by decide,λp4 G4 Z=>⟨by decide,λp5 G5 R=>?_⟩⟩⟩⟩
  have f5:=(((hf.new O).new Y).new n3).new Z;have h2:=(hf.new O).away Y;have h3:=((hf.new O).new Y).away n3;have h4:=(((hf.new O).new Y).new n3).away Z;have h5:=f5.away R;refine af (f5.new R) (by decide) (by decide) λr G6 a6 b6 f6 s6=>?_
  have S6:Sm f G G6:=(((((O.sa.sm).nw Y).nw n3).nw Z).nw R).trans s6;have g6:=s6 _ _ h5.1 R.at
  have e2:=s6 _ _ h2.1 (R.sa _ _ (Z.sa _ _ (n3.sa _ _ Y.at)));have e3:=s6 _ _ h3.1 (R.sa _ _ (Z.sa _ _ n3.at));have e4:=s6 _ _ h4.1 (R.sa _ _ Z.at);rcases(show r=0\/r=1\/r=2 by lia)with rfl|rfl|rfl
  ·rw[ix_l g6 (Hf _ _)];exact tup ["a", "ab", "b", "z"] p2 G6 (by simp[gi]) e2 λJ I=>q _ J (by simp[gi]) (λz=>by lia) (f6.sa I) (S6.trans I.sm)
  ·rw[ix_l g6 (Je _ _ _)];exact tup ["b", "z", "a", "at"] p3 G6 (by simp[gi]) e3 λJ I=>q _ J (by simp[gi]) (λz=>by lia) (f6.sa I) (S6.trans I.sm)
  ·rw[ix_l g6 (sM _ _ _ _)];exact tup ["ab", "a", "n", "b"] p4 G6 (by simp[gi]) e4 λJ I=>q _ J (by simp[gi]) (λz=>by lia) (f6.sa I) (S6.trans I.sm)
 ·rw[if_neg (by simpa using c0)]
  exact tup Zp p F (by simp[gi,Zp]) O.at λJ I=>q _ J (by simp[gi,Zp]) (λ_=>rfl) ((hf.new O).sa I) (O.sa.trans I).sm


def wG  (y:a.Nodup)(q:∀s∈sa,s.Ok a.length):Od P sa (restr a a l)=Od P sa l:=by
 unfold Od;refine oz λs j=>sy rfl rfl rfl ?_ ?_
 ·rw[jo (q s j).o,Sn y (q s j).o]
 ·rw[jo (q s j).t,Sn y (q s j).t]
def Wo  (P:Int)(a:List Str)(sa:List Vb)(w:Str):Prop:=(w = "times" /\ ∃l:List Int,l.length=a.length/\(∀x∈l,0<=x/\x<P)/\Od P sa l=ma)\/(w = "none" /\ ∀l,Od P sa l=ua)
def IE  {a: List Str}(p1:1<=P)(q:l.length=a.length)(j:∀x∈l,0<=x/\x<P)(h:n∈a):0<=bt l (a.idxOf n:Int)/\bt l (a.idxOf n:Int)<P:=by
 have:=Rj h;exact j _ (TD (by lia) (by lia))
def YQ  (h:Pq P a b sa sb)(Y:∀n∈a,n∉b)(J:j.length=a.length)(F:∀x∈j,0<=x/\x<P)(Z:Od P sa j=ma)(O:q.length=b.length)(I:∀x∈q,0<=x/\x<P)(R:Od P sb q=ma):Ex P a b sa sb:=by
 have p1:=h.p1;refine⟨λn=>if n∈a then bt j (a.idxOf n:Int) else if n∈b then bt q (b.idxOf n:Int) else 0,λn=>?_,?_,?_⟩
 ·dsimp only;split
  ·rename_i z;exact IE p1 J F z
  ·split
   ·rename_i z;exact IE p1 O I z
   ·lia
 ·rw[show a.map (λn=>if n∈a then bt j (a.idxOf n:Int) else if n∈b then bt q (b.idxOf n:Int) else 0)=restr a a j from Ij λn y=>if_pos y,wG h.ad h.oa]
  exact Z
 ·rw[show b.map (λn=>if n∈a then bt j (a.idxOf n:Int) else if n∈b then bt q (b.idxOf n:Int) else 0)=restr b b q from Ij λn y=>by rw[if_neg λz=>Y n z y,if_pos y],wG h.nd h.ob]
  exact R
def aT  (h:Pq P a b sa sb)(Z:∀n∈a,n∉b){w F z:Str}(q:(w = "times" /\ Ex P a b sa sb)\/(w = "none" /\ ¬Ex P a b sa sb))(h1:Wo P a sa F)(h2:Wo P b sb z):(decide (w = "times"))=(decide (F = "times")&&decide (z = "times")):=by
 have y:(("none" : Str) = "times")=False:=eq_false (by decide +kernel)
 rcases h1 with⟨rfl,l1,O,I,k1⟩|⟨rfl,n1⟩
 ·rcases h2 with⟨rfl,l2,R,J,Y⟩|⟨rfl,n2⟩
  ·rcases q with⟨rfl,_⟩|⟨_,hn⟩
   ·simp
   ·exact absurd (YQ h Z O I k1 R J Y) hn
  ·rcases q with⟨_,β,_,_,j⟩|⟨rfl,_⟩
   ·rw[n2]at j;cases j
   ·simp[y]
 ·rcases q with⟨_,β,_,j,_⟩|⟨rfl,_⟩
  ·rw[n1]at j;cases j
  ·simp[y]
theorem zF  {Q: K1}(Y:∀s∈sa,s.Ok a.length)(Z:sa.length<=8)(I:0<a.length)(R:a.length<=3)(p1:1<=P)(z:P<=12){E:KX}(q:∀w F ,Sa G F->Wo P a sa w->Q (.str w) F):Va T (k+76) uo [Ta a sa,.int P] G (λx j=>Ce x (.int 0) j λu O=>Q u O) E:=by
 refine Ly (k:=k) Y (by lia) I (by lia) p1 z (pw_alone p1 z I R) (λc m j s1 _ y=>?_) λbs j s1 bl J hk=>?_
 ·rw[ix_t (Hf _ _)];exact q _ j s1 (.inr ⟨rfl,y⟩)
 ·rw[ix_t (Hf _ _)];exact q _ j s1 (.inl ⟨rfl,bs,bl,J,hk⟩)
def WE   (h:Wo P a sa w):w = "times" \/ w = "none" := h.imp (·.1) (·.1)
def YS   {z j:Str}{kk:Bool->Prop}(O:z = "times" \/ z = "none")(J:j = "times" \/ j = "none")(g:G p=da (.lst [.str z,.str j]))(g':G F=da (.lst [.str "times",.str "times"]))(q:kk (decide (z = "times")&&decide (j = "times"))):cmpU .Eq (.loc p) (.loc F) G kk:=by
 refine(?_:eqU (.loc p) (.loc F) G kk);have I:∀x y:Str,Vg G [.str x,.str y] [.str x,.str y]:=λx y=>.cons (.str x) (.cons (.str y) .nil);have sm:∀x y:Str,(x = "times" \/ x = "none")->(y = "times" \/ y = "none")->Small (.list [.str x,.str y]):=λx y R Y=>by
  rcases R with rfl|rfl<;>rcases Y with rfl|rfl<;>exact⟨by decide +kernel,by decide +kernel⟩
 refine⟨.list [.str z,.str j],.list [.str "times",.str "times"],.lst (by unfold Gd;rw[g]) (I _ _),.lst (by unfold Gd;rw[g']) (I _ _),sm _ _ O J,sm _ _ (.inl rfl) (.inl rfl),?_⟩
 have:Vd (.list [.str z,.str j]) (.list [.str "times",.str "times"])=(decide (z = "times")&&decide (j = "times")):=by
  rcases O with rfl|rfl<;>rcases J with rfl|rfl<;>decide +kernel
 rw[this];exact q


theorem FM  {X: KX}(h:Pq P a b sa sb)(dj:Y=0->∀n∈a,n∉b)
  (kk:∀o10 o11 O,Sa G O->Tc T.gs (Va T (k+81)) Iv ⟨K,Q,λx _ O=>X x O⟩ [da (.loc s),da (.loc f),o2,da (.int W),da (.int P),da (.int Y),da (Ta a sa),da (Ta b sb),da (.str z),da (Ta (Hb a b) (Cd a b sa sb)),o10,o11,o12,o13] O) :
  Tc T.gs (Va T (k+81)) Tz ⟨K,Q,λx _ O=>X x O⟩ [da (.loc s),da (.loc f),o2,da (.int W),da (.int P),da (.int Y),da (Ta a sa),da (Ta b sb),da (.str z),da (Ta (Hb a b) (Cd a b sa sb)),o10,o11,o12,o13] G:=by
 have p1:=h.p1;have p2:=h.p2;have n6:=h.toPr.n8;have ya:=bv h.toPr;simp! only[Tz];refine⟨by decide,?_⟩
 refine OG (k:=k+77) (AE h.a0) (by lia) (Xu h.toPr) (by lia) p1 (by lia) (Rb (By p2 n6) (by decide)) λps G1 hP s1=>?_
 simp! only[];by_cases c:P.toNat ^ ((Hb a b).length-ps.length)<=300
 rotate_left
 ·rw[if_neg (by rw[decide_eq_true_eq];lia)]
  exact kk _ _ G1 s1
 rw[if_pos (by rw[decide_eq_true_eq];lia)]
 have P1:1<=P.toNat:=by lia
 have za:∀y:List (List Int),Ze (Hb a b).length (Xd (Cd a b sa sb)) y->P.toNat ^ ((Hb a b).length-y.length)<=300:=λy Z=>by
  have:=jV hP Z;exact Rb (ur P1 (by lia)) c
 have ja:∀y:List (List Int),Ze (Hb b a).length (Xd (Cd b a sb sa)) y->P.toNat ^ ((Hb b a).length-y.length)<=300:=λy Z=>by
  have:=nV h.toPr hP Z;have:=kT h.toPr;exact Rb (ur P1 (by lia)) c
 simp! only[AI];refine mE (k:=k+1) h za λw G2 s2 hw=>?_;simp! only[BI];have va:decide (w = "")=ua:=by
  rcases hw with⟨rfl,_⟩|⟨rfl,_⟩<;>decide +kernel
 rw[va,if_neg (by decide)]
 refine mE (k:=k+1) h.swap ja λw' G3 s3 xa=>?_;have we:w'=w:=by
  rcases hw with⟨rfl,F⟩|⟨rfl,F⟩
  ·rcases xa with⟨rfl,_⟩|⟨_,I⟩
   ·rfl
   ·exact absurd F.swap I
  ·rcases xa with⟨_,I⟩|⟨rfl,_⟩
   ·exact absurd I.swap F
   ·rfl
 subst we;refine Nu ?_;rw[if_neg (by decide)]
 simp! only[CI];refine⟨by decide,by decide,?_⟩
 refine sg (λi q O=>Sa G3 O/\((i=0/\q=[])\/(∃j,i=1/\q=[.str j]/\Wo P a sa j)\/∃j J,i=2/\q=[.str j,.str J]/\Wo P a sa j/\Wo P b sb J)) ?_ ?_ ⟨Sa.refl,.inl ⟨rfl,rfl⟩⟩
 ·rintro q G4 ⟨s4,ha⟩;obtain⟨j,J,rfl,F,I⟩:∃j J,q=[.str j,.str J]/\Wo P a sa j/\Wo P b sb J:=by
   rcases ha with⟨e,_⟩|⟨_,e,_⟩|⟨j,J,_,e,F,I⟩
   ·cases e
   ·cases e
   ·exact⟨j,J,e,F,I⟩
  refine⟨trivial,λp5 G5 n5=>?_⟩;have S5:Sa G G5:=s1.trans (s2.trans (s3.trans (s4.trans n5.sa)));simp! only[DI];by_cases w0:Y=0
  ·rw[if_pos (decide_eq_true w0)];simp! only[];refine⟨by decide,λp6 G6 n6=>?_⟩
   refine YS (WE F) (WE I) (n6.sa _ _ n5.at) n6.at ?_;simp! only[];rw[aT h (dj w0) hw F I];rw[ON,if_neg (by simp)]
   exact kk _ _ G6 (S5.trans n6.sa)
  ·rw[if_neg (by simpa using w0)]
   exact kk _ _ G5 S5
 ·rintro i x q G4 K4 R ⟨s4,ha⟩ hk _;refine⟨trivial,?_⟩
  match i,R with
  |0,R=>
   cases R;obtain rfl:q=[]:=by
    rcases ha with⟨_,e⟩|⟨_,e,_⟩|⟨_,_,e,_⟩
    ·exact e
    ·cases e
    ·cases e
   simp! only[];exact zF (k:=k+5) h.oa h.la h.a0 h.a8 p1 p2 λj G5 s5 F=>hk _ _ ⟨s4.trans s5,.inr (.inl ⟨j,rfl,rfl,F⟩)⟩
  |1,R=>
   cases R;obtain⟨j,rfl,F⟩:∃j,q=[.str j]/\Wo P a sa j:=by
    rcases ha with⟨e,_⟩|⟨j,_,e,F⟩|⟨_,_,e,_⟩
    ·cases e
    ·exact⟨j,e,F⟩
    ·cases e
   simp! only[];exact zF (k:=k+5) h.ob h.lb h.b0 h.b8 p1 p2 λJ G5 s5 I=>hk _ _ ⟨s4.trans s5,.inr (.inr ⟨j,J,rfl,rfl,F,I⟩)⟩
  |i+2,R=>simp at R

def ft_i   (h:-100000<=i/\i<=100000):Fits 1921 0 (.int i):=Fits.int (Ug (show i.natAbs<=100000 by lia) (Xe (by decide:100000<2 ^ 17) (ur (by decide) (by decide))))
def uR  {l:List Int}(y:l.length<=24)(h:∀z∈l,-100000<=z/\z<=100000):∃z ,∀G p Q ,G p=da (.lst (l.map .int))->Q (.str z) G->sj [.loc p] G Q:=by
 have f:Fits 16000000 60 (.list (l.map .int)):=by
  refine(Fits.lstLe (n:=1921) (k:=0) (m:=24) (N:=16000000) (by rw[Ab];exact y) (λd hd=>?_) (by decide)).mono (Jb _) (by decide)
  obtain⟨z,j,rfl⟩:=Ia.mp hd;exact ft_i (h z j)
 exact⟨_,λG p Q g q=>⟨.list (l.map .int),.lst (by unfold Gd;rw[g]) (kq l),f,q⟩⟩

theorem GM  {X: KX}(h:Pq P a b sa sb)(hf:Fd G f c)(hz:∀G Q ,Q (.str z) G->sj [.tup [Ta a sa,Ta b sb]] G Q)
  (kk:∀o10 o11 o12 o13 q,Fd q f c->K [da (.loc s),da (.loc f),o2,da (.int W),da (.int P),da (.int Z),da (Ta a sa),da (Ta b sb),da (.str z),da (Ta (Hb a b) (Cd a b sa sb)),o10,o11,o12,o13] q) :
  Tc T.gs (Va T (k+81)) Iv ⟨K,Q,λx _ q=>X x q⟩ [da (.loc s),da (.loc f),o2,da (.int W),da (.int P),da (.int Z),da (Ta a sa),da (Ta b sb),da (.str z),da (Ta (Hb a b) (Cd a b sa sb)),o10,o11,o12,o13] G:=by
 have p1:=h.p1;have p2:=h.p2;have n6:=h.toPr.n8;have xa:=bv h.toPr;have I:=Xu h.toPr;simp! only[Iv,p0];refine⟨by rw[Ab];exact Rb n6 (by decide),?_⟩
 refine sg (λi j q=>Fd q f c/\∃bs:List Int,j=bs.map .int/\bs.length=i/\∀x∈bs,0<=x/\x<P) ?_ ?_ ⟨hf,[],rfl,rfl,λ_ h=>(nomatch h)⟩
 rotate_left
 ·rintro i x j G1 K1 O ⟨f1,bs,rfl,hl,hb⟩ hk _;refine⟨trivial,?_⟩;simp! only[];refine af f1 (by lia) (by lia) λr G2 a2 b2 Y s2=>hk _ _ ⟨Y,bs++[r],by simp,by simp[hl],λy hy=>?_⟩
  rcases Ma.mp hy with z|z
  ·exact hb y z
  ·rw[Ea.mp z];exact⟨a2,b2⟩
 rintro j G1 ⟨f1,bs,rfl,hl,hb⟩;rw[Ab]at hl;refine⟨trivial,λza G2 n2=>?_⟩;have Y:=f1.new n2;simp! only[it_l n2.at];simp! only[bH,Ab];refine⟨by lia,by lia,by rw[Jf];exact Rb (show((bs.length:Int)).toNat<=6 by lia) (by decide),?_⟩
 refine sg (λi j q=>Fd q f c/\∃F:List Int,j=F.map .int) ?_ ?_ ⟨Y,[],rfl⟩
 rotate_left
 ·rintro i x j G3 K3 O ⟨f3,F,rfl⟩ hk hn;obtain⟨hi,rfl⟩:=uh O;refine⟨trivial,?_⟩;simp! only[];by_cases c1:W<=(i:Int)
  ·rw[if_pos (decide_eq_true c1)];exact hk _ _ ⟨f3,F++[(i:Int)],by simp⟩
  ·rw[if_neg (by simpa using c1)]
   refine af f3 (by decide) (by decide) λr G4 a4 b4 R s4=>?_
   simp! only[];by_cases c2:r=0
   ·rw[if_pos (by simpa using c2)]
    exact hk _ _ ⟨R,F++[(i:Int)],by simp⟩
   ·rw[if_neg (by simpa using c2)]
    exact hn _ ⟨R,F,rfl⟩
 rintro j G3 ⟨f3,F,rfl⟩;refine⟨trivial,λp4 G4 n4=>?_⟩;have R:=f3.new n4;simp! only[it_l n4.at];simp! only[LH];obtain⟨zs,J⟩:=uR (l:=Xh P (Cd a b sa sb) bs F P.toNat) (by unfold Xh;exact Rb (mr _ _) (by simp;lia)) λx O=>by
  obtain⟨i,hi,rfl⟩:=Ia.mp (Nc.mp O).1;have:=Yb.mp hi
  lia
 refine ZV (k:=k+78) (show 0<P by lia) (by lia) (by lia) hl I (by lia) λp5 G5 s5 ja g5=>?_
 refine J _ _ _ g5 ?_;refine nW (k:=k+78) (show 0<P by lia) (by lia) (by lia) hl hb I (by lia) λp6 G6 s6 g6=>?_
 refine J _ _ _ g6 ?_;refine Nu ?_;rw[if_neg (by decide)]
 simp! only[MH];refine⟨by decide,hz _ _ ?_⟩
 refine Nu ?_;rw[if_neg (by decide)]
 exact kk _ _ _ _ G6 (R.sa (s5.trans s6))
def jE  {l:List Str}(j:l.Nodup) n:(l.take n).Nodup:=j.sublist (Mw n l)
def xO  : Pi.Nodup:=by decide +kernel
def zC  {l:List Str}(h:n<=3)(j:x∈l.take n):x∈l.take 3:=by
 have:l.take n=(l.take 3).take n:=by rw[List.take_take,fw h]
 rw[this]at j;exact Jo j
def dP  : ∀x∈Pi.take 3,x∉Zp.take 3:=by decide +kernel
def SO  (h:Pr a b sa sb):Ft 2000000 4 (.tup [Ta a sa,Ta b sb]):=by
 have q:=h.a8;have j:=h.b8;have y:=h.la;have z:=h.lb;refine Ft.tup (n:=600000) (m:=2) (k:=3) (by simp) (λu hu=>?_) (by decide)
 simp only[Mc,Qg,or_false]at hu;rcases hu with rfl|rfl
 ·exact Jy (by lia) h.na (by lia) h.oa
 ·exact Jy (by lia) h.nb (by lia) h.ob
theorem jU  {X: KX}{o2 o3 o4 o5 o6 o7 o8 o9 o10 o11 o12 o13:Option U}(hf:Fd G f c)(kk:∀ς Y,(∃o2 o3 o4 o5 o6 o7 o8 o9 o10 o11 o12 o13,ς=[da (.loc s),da (.loc f),o2,o3,o4,o5,o6,o7,o8,o9,o10,o11,o12,o13])->Fd Y f c->K ς Y) :
  Tc T.gs (Va T (k+81)) Sz ⟨K,Q,λx _ Y=>X x Y⟩ [da (.loc s),da (.loc f),o2,o3,o4,o5,o6,o7,o8,o9,o10,o11,o12,o13] G:=by
 simp! only[Sz];refine af hf (by decide) (by decide) λr G1 a1 b1 f1 s1=>?_
 simp! only[VG];obtain⟨W,hW,w1,R⟩:∃W:Nat,1+r=(W:Int)/\1<=W/\W<=3:=⟨(1+r).toNat,by lia,by lia,by lia⟩
 rw[hW];refine⟨by decide,λp2 G2 n2=>?_⟩
 suffices hd:∃d:Nat,atI [U.int 12,.int 6,.int 4] ((W:Int)-1)=da (.int d)/\0<d/\d<=12 by
  obtain⟨d,ha,d0,d1⟩:=hd;dsimp only;rw[ix_l n2.at ha];refine af (f1.new n2) (by lia) (by lia) λr3 G3 a3 b3 f3 s3=>?_
  simp! only[WG];refine af f3 (by decide) (by decide) λya G4 a4 b4 f4 s4=>?_
  have p1:(1:Int)<=1+r3:=by lia
  have J:1+r3<=12:=by lia
  generalize 1+r3=P at p1 J;simp! only[XG];refine AF (k:=k+77) (m:=4) f4 p1 (by lia) (by lia) (by lia) (by decide) (by decide) λsa G5 la oa f5 s5=>?_
  simp! only[YG];refine af f5 (by lia) (by lia) λr6 G6 a6 b6 f6 s6=>?_
  simp! only[];obtain⟨I,ja,v1,F⟩:∃W:Nat,1+r6=(W:Int)/\1<=W/\W<=3:=⟨(1+r6).toNat,by lia,by lia,by lia⟩
  rw[ja];refine AF (k:=k+77) (m:=4) f6 p1 (by lia) (by lia) (by lia) (by decide) (by decide) λsb G7 lb ob f7 s7=>?_
  have y:∀n,n<=3->(Pi.take n).length=n:=λn hn=>by rw[Tk];exact fw (Rb hn (by decide))
  refine ET (k:=k+79) f7 (by rw[y _ F];lia) (by rw[y _ F];exact F) λl G8 hl xa f8 s8=>?_
  rw[y _ F];obtain⟨lo,va,l3,_⟩:=zO l hl;have ll:(l.take I).length=I:=by rw[Tk];exact fw (by lia)
  have h:Pq P (Pi.take W) (l.take I) sa sb:=by
   refine⟨⟨?_,?_,?_,?_,λx Z=>yO x (Jo Z),λx Z=>⟨(lo x (Jo Z)).1,(lo x (Jo Z)).2⟩,jE xO W,jE va I,by lia,by lia,?_,?_⟩,p1,J⟩
   ·rw[y _ R];exact R
   ·rw[ll];exact F
   ·rw[y _ R];exact w1
   ·rw[ll];exact v1
   ·rw[y _ R];exact oa
   ·rw[ll];exact ob
  have dj:ya=0->∀n∈Pi.take W,n∉l.take I:=λz n hn O=>by
   rw[xa z]at O;exact dP n (zC R hn) (zC F O)
  obtain⟨z,hz⟩:∃z:Str,∀(G:Gp) (Q:K1),Q (.str z) G->sj [.tup [Ta (Pi.take W) sa,Ta (l.take I) sb]] G Q:=⟨_,λG Q q=>UC (SO h.toPr) (by decide) (by decide) q⟩
  simp! only[ZG];refine⟨by decide,hz _ _ ?_⟩
  simp! only[aH];refine DH (k:=k+80) h.toPr λG9 s9=>?_;refine FM (k:=k) h dj λo10 o11 ka za=>?_;exact GM (k:=k) h (f8.sa (s9.trans za)) hz λo10 o11 o12 o13 xb wa=>kk _ _ ⟨_,_,_,_,_,_,_,_,_,_,_,_,rfl⟩ wa
 rcases(show W=1\/W=2\/W=3 by lia)with rfl|rfl|rfl
 ·exact⟨12,Ti (j:=0) rfl,by decide,by decide⟩
 ·exact⟨6,Ti (j:=1) rfl,by decide,by decide⟩
 ·exact⟨4,Ti (j:=2) rfl,by decide,by decide⟩
def law_ir   a (ns:List Int)(O:ns.length<=63):Va T 300 cy [.loc a] (G0 a ns) (λu _=>u=.bl ma) λ_ _=>False:=by
 refine⟨rfl,?_⟩;simp! only[CC,Ub,Db];refine DS (k:=298) (show G0 a ns a=da (.fro (ns.map .int))from if_pos rfl) O λf c R F=>?_;simp! only[NE];refine⟨by decide,by decide,?_⟩
 refine dg (λi j y=>(∃o2 o3 o4 o5 o6 o7 o8 o9 o10 o11 o12 o13,j=[da (.loc a),da (.loc f),o2,o3,o4,o5,o6,o7,o8,o9,o10,o11,o12,o13])/\Fd y f c) ?_ ?_ ⟨⟨_,_,_,_,_,_,_,_,_,_,_,_,rfl⟩,F⟩
 ·rintro j J ⟨⟨o2,o3,o4,o5,o6,o7,o8,o9,o10,o11,o12,o13,rfl⟩,f3⟩;refine⟨trivial,?_⟩;simp! only[]
 ·rintro i x j J K z ⟨⟨o2,o3,o4,o5,o6,o7,o8,o9,o10,o11,o12,o13,rfl⟩,f3⟩ hk;obtain⟨Y,rfl⟩:=uh z;refine⟨trivial,?_⟩;simp! only[];exact jU (k:=218) f3 λj y q I=>hk _ _ ⟨q,I⟩

def sts  : List Qa:=[s_is_whole,s_is_within,s_top_of,s_window_of,s_windows_of,s_with_window,s_length_of,s_unkept,s_names_together,s_laid_together,s_beats_of,s_some_shifted,s_shifts_of,s_is_work_of,s_is_entry,s_ends_of,s_is_ring,s_entry_sums,s_sums_of,s_ring_bars,s_entries_to,s_forest_from,s_path_to_root,s_closing_ring,s_closing_rings,s_beats_along,s_parts_of,s_staying,s_size_of,s_refuse_great,s_first_void,s_first_wide,s_halved,s_seek,s_times_or_none_with,s_times_or_none,s_has_shape,s_split_fault,s_ring_fault,s_node_fault,s_split_sides,s_look_through,s_lets_none_with,s_lets_none,s_law_feed,s_law_draw,s_law_number,s_law_fitting,s_law_tight,s_law_end,s_law_lacks,s_law_named,s_law_whole,s_law_of,s_law_shifts,s_law_pair_right,s_law]
def prog_rep  : pj T 0 T.funs sts=ma:=by decide +kernel
def NW  : NestS T sts jA s_lets_none_with iJ aI s_look_through qA pA where
 sc:=su (by decide +kernel)
 body:=rfl
 text:=⟨_,_,_,_,_,_,_,_,rfl,by unfold tabs;exact List.Mem.head _,by decide +kernel,rfl,by decide +kernel,rfl⟩
 fi:=rfl
 fl:=rfl
 gl:=rfl
 gs:=rfl
 dbg:=⟨rfl,rfl,rfl,rfl⟩
 caps:=λi j e=>by
  rcases i with _|i
  ·cases e;exact⟨by decide,_,rfl,rfl,rfl,rfl⟩
  rcases i with _|i
  ·cases e;exact⟨by decide,_,rfl,rfl,rfl,rfl⟩
  rcases i with _|i
  ·cases e;exact⟨by decide,_,rfl,rfl,rfl,rfl⟩
  rcases i with _|i
  ·cases e;exact⟨by decide,_,rfl,rfl,rfl,rfl⟩
  cases e
 fge:=by decide
 frees:=by decide +kernel
 as2:=rfl
 cs:=EO (by decide +kernel)
 args:=⟨rfl,rfl⟩
 ann:=λ_=>rfl
 bind:=λ_ _ _ _ _ _ _ _=>rfl
 ff:=rfl
 ffs:=rfl
 ffb:=rfl
 ffp:=rfl
 ffl:=rfl
 hdv:=rfl
 dvb:=rfl
 dvN:=rfl
 hdc:=rfl
 dcp:=rfl
 dcN:=by decide
 ok:=by decide +kernel
 un:=rfl
 hs:=⟨Ev,rfl,rfl⟩
 nz:=λy I q G F E z h=>by
  obtain⟨_,_,h⟩:=xq (show slot q 4 _ from h);obtain⟨_,_,h⟩:=xq (show slot q 0 _ from h);obtain⟨_,_,h⟩:=xq (show slot q 1 _ from h);exact z _ _ _ _ _ h
def prog_eq  : Bk T sts 0 T.funs sts:=⟨rfl,rfl,rfl,rfl,rfl,rfl,rfl,rfl,rfl,rfl,rfl,rfl,rfl,rfl,rfl,rfl,rfl,rfl,rfl,rfl,rfl,rfl,rfl,rfl,rfl,rfl,rfl,rfl,rfl,rfl,rfl,rfl,rfl,rfl,rfl,rfl,rfl,rfl,rfl,rfl,rfl,rfl,⟨rfl,_,_,_,_,NW⟩,rfl,rfl,rfl,rfl,rfl,rfl,rfl,rfl,rfl,rfl,rfl,rfl,rfl,rfl,trivial⟩
def tabsU  : ∀t∈tabs,∀t'∈tabs,t.1=t'.1->t=t':=by
 intro t h t' j e;simp only[tabs,Mc,Qg,or_false]at h;simp only[tabs,Mc,Qg,or_false]at j;rcases h with rfl<;>rcases j with rfl<;>first|rfl|exact absurd e (by decide)
noncomputable def tbs  : List (Str×Ca×Ca):=[("lets_none_with",339,335)]
def walk  {l:FB}{K:Tb->Eb}(Y:l.most=da 63)(y:d.params.defaults=[])
  (hY:∀(w:Bb) (h:Wa),YP w h->(K w.params).In h) (O:∀w:Bb,((K w.params).all λp=>p.2.cls != .type "list")=ma) (j:∀w:Bb,∃o,(K w.params).lookup Ye=da o/\o.cls=.type "dict")
  (hT:∀(w:Bb),∀t∈tbs,(∃R,(PyProof.Rows.recsOf q).find? (λe=>e.name==t.1)=da R)/\PySem.W.tabIn (K w.params) t.1=da (t.2.1,t.2.2)/\(K w.params).lookup t.2.2=Aa)
  (F:∀(w:Bb) mg fa (h:Wa),(K w.params).In h->h.Ns Ke mg->mg d.name=da (.ref fa)->
   ∃fd ,(∀(s:Fa) u ,se s fd ⟨[u],[]⟩ [("_law_script",u)])/\∀base ,(K w.params).In base->base.Ns Ke mg->BmAt mg base->FnOk l.prog w (K w.params) mg base (Jd l.prog w) 302 fa fd ["_law_script"] (Ig (K w.params) (Va T 300 cy))) :
  HJ q loose XP YP l.row.toRowW d [] (λf vs=>GA f vs):=
 L2.walk_ofT (n:=63) (k:=302) (x := "_law_script") (CX:=λw=>Jd l.prog w) (sp:=λw=>Ig (K w.params) (Va T 300 cy)) O hT Y (by decide) y ⟨rfl,by decide,by decide,rfl⟩ hY j F (λw _ _ a J Z I hS=>law_sp (by decide) I hS (law_ir a J Z)) λ_ _ _ _ _ ⟨_,_,_,_,_,_,_,_,_,_,z⟩=>z
end Z
namespace Y
open PySem L2
set_option maxHeartbeats 0
noncomputable def q0  : Str := "/claim/cut.py"
noncomputable def q1  : Str := "<module>"
noncomputable def q2  : Str := "__main__"
noncomputable def q3  : Str := "TooMany"
noncomputable def q4  : Str := "is_within"
noncomputable def q5  : Str := "beatplans.plans"
noncomputable def q6  : Str := "length_of"
noncomputable def q7  : Str := "is_whole"
noncomputable def q8  : Str := "with_window"
noncomputable def q9  : Str := "__init__"
noncomputable def Hx  : Str := "NoPaper.__init__"
noncomputable def Am  : Str := "unkept"
noncomputable def Mn  : Str := "__module__"
noncomputable def ci  : Str := "beatplans.errors"
noncomputable def Ln  : Str := "__firstlineno__"
noncomputable def Kn  : Str := "__static_attributes__"
noncomputable def oC  : Str := "__weakref__"
noncomputable def Sr  : Str := "__doc__"
noncomputable def Cf  : Str := "plan"
noncomputable def bh  : Str := "period"
noncomputable def Ni  : Str := "beats"
noncomputable def lg  : Str := "s"
noncomputable def zm  : Str := "thing"
noncomputable def fk  : Str := "least"
noncomputable def ck  : Str := "most"
noncomputable def wm  : Str := "window_of"
noncomputable def Gx  : Str := "TooMany.__init__"
noncomputable def Fx  : Str := "__name__"
noncomputable def Zh  : Str := "beatplans.together"
noncomputable def kM  : Str := "__package__"
noncomputable def jM  : Str := "__loader__"
noncomputable def iM  : Str := "__spec__"
noncomputable def gM  : Str := "__annotations__"
noncomputable def fM  : Str := "__builtins__"
noncomputable def eM  : Str := "__file__"
noncomputable def dM  : Str := "__cached__"
noncomputable def vm  : Str := "PlanError"
noncomputable def um  : Str := "NoPaper"
noncomputable def cM  : Str := "MOST_NAMES"
noncomputable def bM  : Str := "MOST_SPANS"
noncomputable def rm  : Str := "top_of"
noncomputable def qm  : Str := "windows_of"
noncomputable def Dx  : Str := "__qualname__"
noncomputable def Fp  : Str := "low"
noncomputable def Yh  : Str := "windows"
noncomputable def aM  : Str := "window"
noncomputable def nC  : Str := "self"
noncomputable def ah  : Str := "word"
noncomputable def Rr  : Str := "at"
noncomputable def Qr  : Str := "one"
noncomputable def Nr  : Str := "other"
noncomputable def Mr  : Str := "high"
noncomputable def om  : Str := "laid_together"
noncomputable def Ep  : Str := "forest"
noncomputable def ZL  : Str := "lengths"
noncomputable def Bx  : Str := "found"
noncomputable def Lr  : Str := "work"
noncomputable def Jn  : Str := "way"
noncomputable def YL  : Str := "nearer"
noncomputable def mm  : Str := "halved"
noncomputable def lm  : Str := "shifts_of"
noncomputable def km  : Str := "split_fault"
noncomputable def jm  : Str := "entry_sums"
noncomputable def im  : Str := "staying"
noncomputable def cg  : Str := "beatplans.finding"
noncomputable def gm  : Str := "first_wide"
noncomputable def WL  : Str := "roots"
noncomputable def VL  : Str := "reached"
noncomputable def Ax  : Str := "start"
noncomputable def dm  : Str := "seek"
noncomputable def cm  : Str := "is_work_of"
noncomputable def Zg  : Str := "beatplans.rings"
noncomputable def Zl  : Str := "closing_ring"
noncomputable def Hh  : Str := "beatplans.forests"
noncomputable def Yl  : Str := "stays"
noncomputable def Xl  : Str := "entries_to"
noncomputable def Wl  : Str := "times_or_none"
noncomputable def Vl  : Str := "ends_of"
noncomputable def Ul  : Str := "beats_along"
noncomputable def UL  : Str := "rings"
noncomputable def zx  : Str := "ring"
noncomputable def Kr  : Str := "cut"
noncomputable def TL  : Str := "sides"
noncomputable def SL  : Str := "cases"
noncomputable def RL  : Str := "side"
noncomputable def Tl  : Str := "size_of"
noncomputable def Rl  : Str := "some_shifted"
noncomputable def Ql  : Str := "forest_from"
noncomputable def Pl  : Str := "times_or_none_with"
noncomputable def Ol  : Str := "closing_rings"
noncomputable def Nl  : Str := "ring_bars"
noncomputable def Ml  : Str := "refuse_great"
noncomputable def Ll  : Str := "names_together"
noncomputable def nh  : Str := "beatplans.cases"
noncomputable def Kl  : Str := "beats_of"
noncomputable def QL  : Str := "MOST_ENTRIES"
noncomputable def Jl  : Str := "is_entry"
noncomputable def Il  : Str := "is_ring"
noncomputable def Hl  : Str := "sums_of"
noncomputable def Fl  : Str := "path_to_root"
noncomputable def q100  : Str := "parts_of"
noncomputable def q101  : Str := "MOST_SIZE"
noncomputable def q102  : Str := "first_void"
noncomputable def q103  : Str := "has_shape"
noncomputable def q104  : Str := "entry"
noncomputable def q105  : Str := "node"
noncomputable def q106  : Str := "lower"
noncomputable def q107  : Str := "upper"
noncomputable def q108  : Str := "apart"
noncomputable def q109  : Str := "beatplans.joining"
noncomputable def q110  : Str := "end"
noncomputable def q111  : Str := "many"
noncomputable def q112  : Str := "parts"
noncomputable def q113  : Str := "placed"
noncomputable def q114  : Str := "part"
noncomputable def q115  : Str := "path"
noncomputable def q116  : Str := "_law_cycle"
noncomputable def q117  : Str := "_law_span"
noncomputable def q118  : Str := "_law_top"
noncomputable def q119  : Str := "node_fault"
noncomputable def q120  : Str := "_law_shifts"
noncomputable def q121  : Str := "_law_named"
noncomputable def q122  : Str := "_law_number"
noncomputable def q123  : Str := "_law_pair_right"
noncomputable def q124  : Str := "law_beatplans_k97_whole_laid_together"
noncomputable def q125  : Str := "_law_draw"
noncomputable def q126  : Str := "ring_fault"
noncomputable def q127  : Str := "_law_fitting"
noncomputable def q128  : Str := "_law_end"
noncomputable def q129  : Str := "_law_one"
noncomputable def q130  : Str := "_law_other"
noncomputable def q131  : Str := "_law_whole_here"
noncomputable def q132  : Str := "_law_told"
noncomputable def q133  : Str := "_law_side"
noncomputable def q134  : Str := "_law_plan"
noncomputable def q135  : Str := "_law_alone"
noncomputable def q136  : Str := "_law_beats"
noncomputable def q137  : Str := "lets_none_with"
noncomputable def q138  : Str := "_law_feed_here"
noncomputable def q139  : Str := "_law_gap"
noncomputable def q140  : Str := "_law_low"
noncomputable def q141  : Str := "_law_length"
noncomputable def q142  : Str := "look_through"
noncomputable def q143  : Str := "law"
noncomputable def q144  : Str := "_law_of"
noncomputable def q145  : Str := "lets_none"
noncomputable def q146  : Str := "beatplans.nonechecker"
noncomputable def q147  : Str := "_law_tight"
noncomputable def q148  : Str := "split_sides"
noncomputable def q149  : Str := "_law_feed"
noncomputable def q150  : Str := "_law_lacks"
noncomputable def q151  : Str := "_law_whole"
noncomputable def q152  : Str := "fault_of"
noncomputable def q153  : Str := "sides_of"
noncomputable def q154  : Str := "waiting"
noncomputable def q155  : Str := "held"
noncomputable def q156  : Str := "_law_many"
noncomputable def q157  : Str := "_law_cell"
noncomputable def q158  : Str := "_law_mixed"
noncomputable def q159  : Str := "_law_found"
noncomputable def q160  : Str := "_law_way"
noncomputable def q161  : Str := "_law_some"
noncomputable def q162  : Str := "_law_s"
noncomputable def q163  : Str := "_law_word"
noncomputable def q164  : Str := "_law_high"
noncomputable def q165  : Str := "_law_script"
noncomputable def h0  : List Da:=[]
def o0  : Obj:=sO .none h0
def o1  : Obj:=kO q0 q1 q1 182 1 0 0 11 ua .none .none .none 185
def o2  : Obj:=rO [(da (.ref 13)),(da (.ref 3)),(da (.ref 3)),Aa,(da (.str q2 164)),Aa,(da (.ref 0))]
def o3  : Obj:=cO q3 [(.ref 24)] [(.ref 63),(.ref 24),(.type "ValueError"),(.type "Exception"),(.type "BaseException"),(.type "object")] 62 [] [(da (.ref 47)),Aa,(da (.str q3 234)),(da (.str q3 242)),(da (.builtin "ValueError.__new__")),(da (.bool ma))]
def o4  : Obj:=fO q4 q4 (Z.La 8) (.str q5 259) 78
def o5  : Obj:=kO q0 q6 q6 320 30 4 3 106 ma (.ref 108) (.ref 109) (.ref 110) 332
def o6  : Obj:=tO [(.ref 24)]
def o7  : Obj:=tO [(.type "ValueError")]
def o8  : Obj:=kO q0 q7 q7 265 16 1 3 66 ma (.ref 68) (.ref 69) (.ref 70) 269
def o9  : Obj:=gO q8 q8 (Z.La 12)
def o10  : Obj:=gO q9 Hx (Vu (Z.La 2) 0)
def o11  : Obj:=fO Am Am (Z.La 14) (.str q5 259) 118
def o12  (P:Tb):Obj:=dO (dE P Mn 196 (.str ci 187)::dE P Ln 200 (.int 2 199)::dE P Kn 201 (.ref 22)::dE P oC 203 (.ref 25)::dE P Sr 204 .none::[]) 3
def o13  : Obj:=tO [(.str Cf 338),(.str bh 339),(.str Ni 340),(.str lg 341)]
def iu  : Obj:=sO .none [(.int 11 0),(.int 4 0),(.ref 59)]
def gu  : Obj:=tO [(.str zm 275),(.str fk 276),(.str ck 277)]
def fu  (P:Tb):Obj:=dO (dE P Mn 214 (.str ci 187)::dE P Ln 218 (.int 4 217)::dE P q9 227 (.ref 41)::dE P Kn 230 (.ref 42)::dE P Sr 231 .none::[]) 2
def au  : Obj:=gO wm wm (Z.La 10)
def Zt  : Obj:=kO q0 q9 Gx 246 11 2 3 54 ma (.ref 56) (.ref 57) (.ref 58) 251
def Yt  : Obj:=sO (.type "builtin_function_or_method") [(.builtin "object.__init_subclass__"),(.ref 24)]
def xJ  (P:Tb):List Mk:=dE P Sr 166 .none::dE P kM 167 .none::dE P jM 168 (.builtin "__main__.__loader__#opaque")::dE P iM 169 .none::dE P gM 170 (.ref 6)::dE P fM 171 (.ref 4)::dE P eM 173 (.str q0 172)::dE P dM 174 .none::dE P vm 206 (.ref 24)::dE P um 233 (.ref 44)::dE P q3 258 (.ref 63)::dE P cM 262 (.int 8 261)::dE P bM 264 (.int 24 263)::dE P q7 271 (.ref 72)::dE P q4 280 (.ref 79)::dE P rm 294 (.ref 86)::dE P wm 304 (.ref 93)::dE P qm 310 (.ref 98)::dE P q8 319 (.ref 105)::dE P q6 334 (.ref 112)::dE P Am 344 (.ref 119)::[]
def oM  (P:Tb):Obj:=dO (dE P Fx 165 (.str Zh 345)::xJ P) 22
def Wt  : Obj:=sO (.type "builtin_function_or_method") [(.builtin "object.__init_subclass__"),(.ref 63)]
def Yp  : Obj:=kO q0 qm qm 305 26 2 3 94 ma .none .none (.ref 96) 308
def Vt  : Obj:=kO q0 um um 209 4 0 0 31 ua .none .none .none 212
def Ut  (P:Tb):Obj:=dO (dE P Mn 241 (.str ci 187)::dE P Dx 243 (.str q3 242)::dE P Ln 245 (.int 9 244)::dE P q9 253 (.ref 60)::dE P Kn 255 (.ref 61)::[]) 5
def Tt  (P:Tb):Obj:=dO (dE P Mn 196 (.str ci 187)::dE P Dx 198 (.str vm 197)::dE P Ln 200 (.int 2 199)::dE P Kn 201 (.ref 22)::[]) 4
def Xp  : Obj:=fO q8 q8 (Z.La 12) (.str q5 259) 104
def Rt  : Obj:=fO q9 Hx (Vu (Z.La 2) 0) (.str ci 187) 40
def Qt  : Obj:=tO [(.str Cf 298),(.str bh 299),(.str lg 300),(.str Fp 301)]
def Pt  : Obj:=sO (.type "getset_descriptor") [(.str oC 202),(.ref 24),(.builtin "ExceptionGroup.__weakref__"),.none]
def Ot  : Obj:=tO [(.str Yh 314),(.str lg 315),(.str aM 316)]
def Nt  : Obj:=tO [(.str nC 222),(.str ah 223),(.str Rr 224)]
def Wp  : Obj:=kO q0 rm rm 281 20 3 3 80 ma (.ref 82) (.ref 83) (.ref 84) 292
def Mt  : Obj:=gO Am Am (Z.La 14)
def Kt  : Obj:=rO [(da (.ref 52)),(da (.ref 3)),(da (.ref 49)),Aa,(da (.str ci 187)),Aa,(da (.ref 0))]
def Jt  : Obj:=rO [(da (.ref 20)),(da (.ref 3)),(da (.ref 17)),Aa,(da (.str ci 187)),Aa,(da (.ref 0))]
def Ht  : Obj:=gO q4 q4 (Z.La 8)
def Et  : Obj:=sO (.type "super") [(.ref 44),(.ref 44),(.ref 44)]
def Vp  : Obj:=fO wm wm (Z.La 10) (.str q5 259) 92
def Dt  : Obj:=tO [(.str ah 254)]
def Ih  : Obj:=sO (.type "builtin_function_or_method") [(.builtin "type.__prepare__"),(.type "type")]
def Ct  : Obj:=sO (.type "super") [(.ref 63),(.ref 63),(.ref 63)]
def Bt  : Obj:=gO qm qm (Z.La 11)
def At  : Obj:=sO .none [(.int 6 0),(.int 4 0),(.ref 40)]
def Up  : Obj:=fO q6 q6 (Z.La 13) (.str q5 259) 111
def Tp  : Obj:=fO q7 q7 (Z.La 7) (.str q5 259) 71
def Rp  : Obj:=kO q0 q8 q8 311 28 3 3 99 ma (.ref 101) (.ref 102) (.ref 103) 317
def zt  : Obj:=kO q0 q9 Hx 219 6 3 3 35 ma (.ref 37) (.ref 38) (.ref 39) 225
def yt  : Obj:=tO [(.str nC 249),(.str ah 250)]
def xt  : Obj:=cO vm [(.type "ValueError")] [(.ref 24),(.type "ValueError"),(.type "Exception"),(.type "BaseException"),(.type "object")] 23 [(.ref 44),(.ref 63)] [(da (.ref 15)),Aa,(da (.str vm 189)),(da (.str vm 197)),(da (.builtin "ValueError.__new__")),(da (.bool ma))]
def vt  : Obj:=tO [(.str zm 268)]
def ut  : Obj:=gO rm rm (Z.La 9)
def qt  : Obj:=kO q0 q3 q3 236 9 0 0 50 ua .none .none .none 239
def jt  : Obj:=kO q0 vm vm 191 2 0 0 18 ua .none .none .none 194
def Zs  : Obj:=tO [(.str Cf 323),(.str bh 324),(.str Ni 325),(.str lg 326),(.str ah 327),(.str Qr 328),(.str Nr 329),(.str Fp 330),(.str Mr 331)]
def Ys  : Obj:=cO um [(.ref 24)] [(.ref 44),(.ref 24),(.type "ValueError"),(.type "Exception"),(.type "BaseException"),(.type "object")] 43 [] [(da (.ref 28)),Aa,(da (.str um 207)),(da (.str um 215)),(da (.builtin "ValueError.__new__")),(da (.bool ma))]
def Qp  : Obj:=kO q0 wm wm 295 23 3 3 87 ma (.ref 89) (.ref 90) (.ref 91) 302
def Xs  : Obj:=fO q9 Gx (Vu (Z.La 3) 0) (.str ci 187) 59
def wJ  : List Da:=h0++[(.int 2 0),(.int 0 0),(.ref 20),(.int 4 0),(.int 0 0),(.ref 33),(.int 9 0),(.int 0 0),(.ref 52),(.int 16 0),(.int 0 0),(.ref 71),(.int 18 0),(.int 0 0),(.ref 78),(.int 20 0),(.int 0 0),(.ref 85),(.int 23 0),(.int 0 0),(.ref 92),(.int 26 0),(.int 0 0),(.ref 97),(.int 28 0),(.int 0 0),(.ref 104),(.int 30 0),(.int 0 0),(.ref 111),(.int 33 0),(.int 0 0),(.ref 118)]
def nM  : Obj:=sO .none wJ
def Op  : Obj:=fO qm qm (Z.La 11) (.str q5 259) 97
def Ws  : Obj:=rO [(da (.ref 33)),(da (.ref 3)),(da (.ref 30)),Aa,(da (.str ci 187)),Aa,(da (.ref 0))]
def Vs  : Obj:=tO [(.str Cf 284),(.str bh 285),(.str lg 286),(.str ah 287),(.str Qr 288),(.str Nr 289),(.str Fp 290),(.str Mr 291)]
def Us  : Obj:=tO [(.str Rr 228),(.str ah 229)]
def Ts  : Obj:=gO q9 Gx (Vu (Z.La 3) 0)
def Rs  : Obj:=sO (.type "super") [(.ref 24),(.ref 24),(.ref 24)]
def Qs  : Obj:=gO q7 q7 (Z.La 7)
def Np  : Obj:=fO rm rm (Z.La 9) (.str q5 259) 85
def Mp  : Obj:=kO q0 Am Am 335 33 3 3 113 ma (.ref 115) (.ref 116) (.ref 117) 342
def Lp  : Obj:=kO q0 q4 q4 272 18 3 3 73 ma (.ref 75) (.ref 76) (.ref 77) 278
def Ps  : Obj:=gO q6 q6 (Z.La 13)
def Os  : Obj:=sO (.type "builtin_function_or_method") [(.builtin "object.__init_subclass__"),(.ref 44)]
def Ms  (P:Tb):Obj:=dO (dE P Mn 241 (.str ci 187)::dE P Ln 245 (.int 9 244)::dE P q9 253 (.ref 60)::dE P Kn 255 (.ref 61)::dE P Sr 256 .none::[]) 2
def Ls  (P:Tb):Obj:=dO (dE P Mn 214 (.str ci 187)::dE P Dx 216 (.str um 215)::dE P Ln 218 (.int 4 217)::dE P q9 227 (.ref 41)::dE P Kn 230 (.ref 42)::[]) 5
def Wx  : Obj:=gO om om (Z.La 17)
def Vx  : Obj:=tO [(.str Cf 626),(.str bh 627)]
def Ux  : Obj:=tO [(.str Cf 513),(.str bh 514),(.str Ni 515),(.str Ep 516),(.str ZL 517),(.str Bx 518),(.str Lr 519),(.str lg 520),(.str Jn 521),(.str YL 522)]
def Ks  : Obj:=kO q0 mm mm 586 177 2 3 266 ma (.ref 268) (.ref 269) (.ref 270) 594
def Js  : Obj:=kO q0 lm lm 371 56 4 3 140 ma .none .none (.ref 142) 374
def Tx  : Obj:=gO km km (Z.La 52)
def Sx  : Obj:=gO jm jm (Z.La 27)
def Hs  : Obj:=fO im im (Z.La 41) (.str cg 539) 238
def Rx  : Obj:=gO gm gm (Z.La 45)
def Qx  : Obj:=tO [(.str Cf 477),(.str WL 478),(.str Ep 479),(.str VL 480),(.str Rr 481),(.str lg 482),(.str Jn 483),(.str Ax 484)]
def Gs  : Obj:=fO dm dm (Z.La 47) (.str cg 539) 278
def Fs  : Obj:=fO cm cm (Z.La 23) (.str Zg 377) 150
def Ds  : Obj:=fO Zl Zl (Z.La 34) (.str Hh 457) 214
def Px  : Obj:=tO [(.str Cf 558),(.str bh 559),(.str Yl 560)]
def Bs  : Obj:=kO q0 Xl Xl 459 99 2 3 190 ma (.ref 192) (.ref 193) (.ref 194) 471
def As  : Obj:=fO Wl Wl (Z.La 49) (.str cg 539) 290
def Ox  : Obj:=gO Vl Vl (Z.La 25)
def Zr  : Obj:=fO Ul Ul (Z.La 36) (.str Hh 457) 226
def Nx  : Obj:=tO [(.str Cf 600),(.str bh 601),(.str Ni 602),(.str Ep 603),(.str UL 604),(.str Yh 605),(.str zx 606),(.str lg 607),(.str Kr 608),(.str TL 609),(.str SL 610),(.str RL 611),(.str ah 612),(.str Bx 613)]
def Mx  : Obj:=tO [(.str Yl 384),(.str zm 385)]
def Yr  : Obj:=kO q0 Tl Tl 549 157 3 3 240 ma .none .none (.ref 242) 552
def Xr  : Obj:=fO Rl Rl (Z.La 19) (.str Zh 345) 138
def Wr  : Obj:=fO Ql Ql (Z.La 32) (.str Hh 457) 202
def Vr  : Obj:=kO q0 Pl Pl 617 196 4 3 280 ma .none .none (.ref 282) 620
def Ur  : Obj:=kO q0 Ol Ol 504 133 3 3 216 ma .none .none (.ref 218) 507
def Lx  : Obj:=gO Nl Nl (Z.La 29)
def Tr  : Obj:=fO Ml Ml (Z.La 43) (.str cg 539) 250
def o100  : Obj:=kO q0 Ll Ll 347 39 2 3 120 ma .none .none (.ref 122) 350
def g104  (P:Tb):List Mk:=xJ P++[dE P Ll 352 (.ref 124),dE P om 358 (.ref 129),dE P Kl 364 (.ref 134),dE P Rl 370 (.ref 139),dE P lm 376 (.ref 144),dE P QL 380 (.int 60 379),dE P cm 388 (.ref 151),dE P Jl 402 (.ref 158),dE P Vl 417 (.ref 165),dE P Il 423 (.ref 170),dE P jm 437 (.ref 177),dE P Hl 443 (.ref 182),dE P Nl 456 (.ref 189),dE P Xl 473 (.ref 196),dE P Ql 487 (.ref 203),dE P Fl 497 (.ref 210),dE P Zl 503 (.ref 215),dE P Ol 509 (.ref 220),dE P Ul 525 (.ref 227),dE P q100 538 (.ref 234),dE P q101 542 (.int 300 541),dE P im 548 (.ref 239),dE P Tl 554 (.ref 244),dE P Ml 563 (.ref 251),dE P q102 573 (.ref 258),dE P gm 585 (.ref 265),dE P mm 596 (.ref 272),dE P dm 616 (.ref 279),dE P Pl 622 (.ref 284),dE P Wl 630 (.ref 291),dE P q103 641 (.ref 298),dE P km 657 (.ref 305)]
def o101  (P:Tb):Obj:=dO (dE P Fx 165 (.str nh 631)::g104 P) 54
def o102  : Obj:=kO q0 q102 q102 564 166 1 3 252 ma (.ref 254) (.ref 255) (.ref 256) 571
def o103  : Obj:=fO om om (Z.La 17) (.str Zh 345) 128
def o104  : Obj:=gO Wl Wl (Z.La 49)
def o105  : Obj:=tO [(.str Cf 406),(.str q104 407),(.str lg 408),(.str Jn 409),(.str ah 410),(.str Qr 411),(.str Nr 412),(.str Fp 413),(.str Mr 414)]
def o106  : Obj:=gO Ul Ul (Z.La 36)
def o107  : Obj:=kO q0 Fl Fl 488 118 3 3 204 ma (.ref 206) (.ref 207) (.ref 208) 495
def o108  : Obj:=fO km km (Z.La 52) (.str nh 631) 304
def o109  : Obj:=fO jm jm (Z.La 27) (.str Zg 377) 176
def o110  : Obj:=fO gm gm (Z.La 45) (.str cg 539) 264
def o111  : Obj:=gO Rl Rl (Z.La 19)
def o112  : Obj:=gO Ql Ql (Z.La 32)
def o113  : Obj:=kO q0 q103 q103 633 213 3 3 292 ma (.ref 294) (.ref 295) (.ref 296) 639
def o114  : Obj:=kO q0 Il Il 418 78 3 3 166 ma .none .none (.ref 168) 421
def o115  : Obj:=kO q0 q100 q100 528 144 1 3 228 ma (.ref 230) (.ref 231) (.ref 232) 536
def o116  : Obj:=tO [(.str Cf 447),(.str bh 448),(.str Ni 449),(.str Yh 450),(.str zx 451),(.str fk 452),(.str ck 453)]
def o117  : Obj:=gO Ml Ml (Z.La 43)
def o118  : Obj:=tO [(.str Ep 577),(.str Yh 578),(.str lg 579),(.str Jn 580),(.str fk 581),(.str ck 582)]
def o119  : Obj:=kO q0 Kl Kl 359 50 4 3 130 ma .none .none (.ref 132) 362
def o120  : Obj:=fO Vl Vl (Z.La 25) (.str Zg 377) 164
def o121  : Obj:=gO dm dm (Z.La 47)
def o122  : Obj:=gO cm cm (Z.La 23)
def o123  : Obj:=gO Zl Zl (Z.La 34)
def o124  : Obj:=kO q0 Hl Hl 438 92 5 3 178 ma .none .none (.ref 180) 441
def o125  : Obj:=tO [(.str Cf 645),(.str Yh 646),(.str q105 647),(.str ah 648),(.str lg 649),(.str Kr 650),(.str q106 651),(.str q107 652),(.str fk 653),(.str ck 654)]
def o126  : Obj:=tO [(.str Ni 427),(.str Yh 428),(.str q104 429),(.str q108 430),(.str lg 431),(.str Jn 432),(.str fk 433),(.str ck 434)]
def o127  : Obj:=gO im im (Z.La 41)
def o128  : Obj:=kO q0 Jl Jl 389 62 3 3 152 ma (.ref 154) (.ref 155) (.ref 156) 400
def o129  : Obj:=fO Nl Nl (Z.La 29) (.str Zg 377) 188
def o130  : Obj:=gO q102 q102 (Z.La 44)
def o131  : Obj:=kO q0 om om 353 41 2 3 125 ma .none .none (.ref 127) 356
def o132  : Obj:=tO [(.str Cf 462),(.str Lr 463),(.str Bx 464),(.str lg 465),(.str ah 466),(.str Qr 467),(.str Nr 468),(.str Fp 469),(.str Mr 470)]
def o133  : Obj:=fO mm mm (Z.La 46) (.str cg 539) 271
def o134  : Obj:=fO lm lm (Z.La 20) (.str Zh 345) 143
def o135  : Obj:=gO Fl Fl (Z.La 33)
def o136  : Obj:=kO q0 km km 642 215 3 3 299 ma (.ref 301) (.ref 302) (.ref 303) 655
def o137  : Obj:=kO q0 jm jm 424 85 3 3 171 ma (.ref 173) (.ref 174) (.ref 175) 435
def o138  : Obj:=kO q0 gm gm 574 171 2 3 259 ma (.ref 261) (.ref 262) (.ref 263) 583
def o139  : Obj:=gO q103 q103 (Z.La 51)
def o140  : Obj:=gO Il Il (Z.La 26)
def o141  : Obj:=gO q100 q100 (Z.La 38)
def o142  : Obj:=gO Kl Kl (Z.La 18)
def o143  : Obj:=fO Xl Xl (Z.La 31) (.str Hh 457) 195
def o144  : Obj:=kO q0 Vl Vl 403 72 2 3 159 ma (.ref 161) (.ref 162) (.ref 163) 415
def o145  : Obj:=gO Hl Hl (Z.La 28)
def o146  : Obj:=fO Tl Tl (Z.La 42) (.str cg 539) 243
def o147  : Obj:=tO [(.str Yh 589),(.str lg 590),(.str fk 591),(.str ck 592),(.str Kr 593)]
def o148  : Obj:=fO Pl Pl (Z.La 48) (.str cg 539) 283
def o149  : Obj:=gO Jl Jl (Z.La 24)
def o150  : Obj:=fO Ol Ol (Z.La 35) (.str Hh 457) 219
def o151  : Obj:=kO q0 Nl Nl 444 95 5 3 183 ma (.ref 185) (.ref 186) (.ref 187) 454
def o152  : Obj:=fO Ll Ll (Z.La 16) (.str Zh 345) 123
def h157  : List Da:=wJ++[(.int 39 0),(.int 0 0),(.ref 123),(.int 41 0),(.int 0 0),(.ref 128),(.int 50 0),(.int 0 0),(.ref 133),(.int 54 0),(.int 0 0),(.ref 138),(.int 56 0),(.int 0 0),(.ref 143),(.int 60 0),(.int 0 0),(.ref 150),(.int 62 0),(.int 0 0),(.ref 157),(.int 72 0),(.int 0 0),(.ref 164),(.int 78 0),(.int 0 0),(.ref 169),(.int 85 0),(.int 0 0),(.ref 176),(.int 92 0),(.int 0 0),(.ref 181),(.int 95 0),(.int 0 0),(.ref 188),(.int 99 0),(.int 0 0),(.ref 195),(.int 107 0),(.int 0 0),(.ref 202),(.int 118 0),(.int 0 0),(.ref 209),(.int 124 0),(.int 0 0),(.ref 214),(.int 133 0),(.int 0 0),(.ref 219),(.int 137 0),(.int 0 0),(.ref 226),(.int 144 0),(.int 0 0),(.ref 233),(.int 155 0),(.int 0 0),(.ref 238),(.int 157 0),(.int 0 0),(.ref 243),(.int 163 0),(.int 0 0),(.ref 250),(.int 166 0),(.int 0 0),(.ref 257),(.int 171 0),(.int 0 0),(.ref 264),(.int 177 0),(.int 0 0),(.ref 271),(.int 181 0),(.int 0 0),(.ref 278),(.int 196 0),(.int 0 0),(.ref 283),(.int 210 0),(.int 0 0),(.ref 290),(.int 213 0),(.int 0 0),(.ref 297),(.int 215 0),(.int 0 0),(.ref 304)]
def o153  : Obj:=sO .none h157
def o154  : Obj:=fO q102 q102 (Z.La 44) (.str cg 539) 257
def o155  : Obj:=gO Xl Xl (Z.La 31)
def o156  : Obj:=kO q0 Wl Wl 623 210 2 3 285 ma (.ref 287) (.ref 288) (.ref 289) 628
def o157  : Obj:=kO q0 Ul Ul 510 137 5 3 221 ma (.ref 223) (.ref 224) (.ref 225) 523
def o158  : Obj:=fO Fl Fl (Z.La 33) (.str Hh 457) 209
def o159  : Obj:=gO Tl Tl (Z.La 42)
def o160  : Obj:=kO q0 Rl Rl 365 54 4 3 135 ma .none .none (.ref 137) 368
def o161  : Obj:=kO q0 Ql Ql 474 107 2 3 197 ma (.ref 199) (.ref 200) (.ref 201) 485
def o162  : Obj:=fO q103 q103 (Z.La 51) (.str nh 631) 297
def o163  : Obj:=fO Il Il (Z.La 26) (.str Zg 377) 169
def o164  : Obj:=fO q100 q100 (Z.La 38) (.str q109 526) 233
def o165  : Obj:=gO Pl Pl (Z.La 48)
def o166  : Obj:=tO [(.str Cf 392),(.str Yl 393),(.str zm 394),(.str ah 395),(.str Ax 396),(.str q110 397),(.str lg 398),(.str Jn 399)]
def o167  : Obj:=gO Ol Ol (Z.La 35)
def o168  : Obj:=kO q0 Ml Ml 555 163 3 3 245 ma (.ref 247) (.ref 248) (.ref 249) 561
def o169  : Obj:=gO Ll Ll (Z.La 16)
def o170  : Obj:=fO Kl Kl (Z.La 18) (.str Zh 345) 133
def o171  : Obj:=tO [(.str q105 636),(.str ah 637),(.str q111 638)]
def o172  : Obj:=tO [(.str Cf 531),(.str q112 532),(.str q113 533),(.str Lr 534),(.str q114 535)]
def o173  : Obj:=kO q0 dm dm 597 181 6 3 273 ma (.ref 275) (.ref 276) (.ref 277) 614
def o174  : Obj:=kO q0 cm cm 381 60 2 3 145 ma (.ref 147) (.ref 148) (.ref 149) 386
def o175  : Obj:=kO q0 Zl Zl 498 124 3 3 211 ma .none .none (.ref 213) 501
def o176  : Obj:=fO Hl Hl (Z.La 28) (.str Zg 377) 181
def o177  : Obj:=gO mm mm (Z.La 46)
def o178  : Obj:=gO lm lm (Z.La 20)
def o179  : Obj:=tO [(.str Cf 491),(.str Ep 492),(.str Lr 493),(.str q115 494)]
def o180  : Obj:=kO q0 im im 543 155 2 3 235 ma .none .none (.ref 237) 546
def o181  : Obj:=fO Jl Jl (Z.La 24) (.str Zg 377) 157
def o182  : Obj:=tO [(.str Yh 567),(.str lg 568),(.str fk 569),(.str ck 570)]
def o183  : Obj:=tO [(.str q116 790),(.str q117 791),(.str q118 792)]
def o184  : Obj:=fO q119 q119 (Z.La 54) (.str nh 631) 318
def o185  : Obj:=kO q0 q120 q120 835 320 4 3 412 ma .none .none (.ref 414) 838
def o186  : Obj:=gO q121 q121 (Z.La 68)
def o187  : Obj:=kO q0 q122 q122 759 272 2 3 362 ma (.ref 364) (.ref 365) (.ref 366) 764
def o188  : Obj:=fO q123 q123 (Z.La 72) (.str q124 739) 422
def o189  : Obj:=gO q125 q125 (Z.La 62)
def o190  : Obj:=tO [(.str Cf 733),(.str bh 734),(.str zm 735)]
def o191  : Obj:=kO q0 q126 q126 658 221 6 3 306 ma (.ref 308) (.ref 309) (.ref 310) 667
def o192  : Obj:=fO q127 q127 (Z.La 64) (.str q124 739) 374
def o193  : Obj:=fO q128 q128 (Z.La 66) (.str q124 739) 386
def o194  : Obj:=tO [(.str q129 844),(.str q130 845),(.str q116 846),(.str q131 847),(.str q132 848),(.str q133 849),(.str q134 850),(.str q135 851),(.str q136 852)]
def o195  : Obj:=kO q0 q137 q137 714 249 5 3 334 ma (.ref 336) (.ref 337) (.ref 338) 727
def o196  : Obj:=tO [(.str q138 770),(.str q136 771),(.str q116 772),(.str q129 773),(.str q130 774),(.str q139 775),(.str q140 776),(.str q141 777)]
def o197  : Obj:=gO q142 q142 (Z.La 56)
def o198  : Obj:=kO q0 q143 q143 856 342 1 3 424 ma .none .none (.ref 426) 859
def o199  : Obj:=fO q144 q144 (Z.La 70) (.str q124 739) 410
def o200  : Obj:=fO q145 q145 (Z.La 59) (.str q146 712) 346
def o201  : Obj:=tO [(.str Cf 673),(.str bh 674),(.str Ni 675),(.str Yl 676),(.str Yh 677),(.str q105 678)]
def o202  : Obj:=kO q0 q147 q147 781 282 4 3 376 ma .none .none (.ref 378) 784
def g208  (P:Tb):List Mk:=g104 P++[dE P q126 669 (.ref 312),dE P q119 681 (.ref 319),dE P q148 696 (.ref 326),dE P q142 711 (.ref 333),dE P q137 729 (.ref 340),dE P q145 738 (.ref 347),dE P q149 747 (.ref 354),dE P q125 758 (.ref 361),dE P q122 766 (.ref 368),dE P q127 780 (.ref 375),dE P q147 786 (.ref 380),dE P q128 795 (.ref 387),dE P q150 812 (.ref 394),dE P q121 822 (.ref 401),dE P q151 828 (.ref 406),dE P q144 834 (.ref 411),dE P q120 840 (.ref 416),dE P q123 855 (.ref 423),dE P q143 861 (.ref 428)]
def o203  (P:Tb):Obj:=dO (dE P Fx 165 (.str q124 739)::g208 P) 73
def o204  : Obj:=gO q128 q128 (Z.La 66)
def o205  : Obj:=kO q0 q149 q149 741 257 1 3 348 ma (.ref 350) (.ref 351) (.ref 352) 745
def o206  : Obj:=fO q121 q121 (Z.La 68) (.str q124 739) 400
def o207  : Obj:=tO [(.str Cf 723),(.str bh 724),(.str Ni 725),(.str Yl 726)]
def o208  : Obj:=kO q0 q150 q150 796 299 3 3 388 ma (.ref 390) (.ref 391) (.ref 392) 810
def o209  : Obj:=tO [(.str zm 700),(.str Ax 701),(.str q152 702),(.str q153 703),(.str q154 704),(.str Rr 705),(.str q105 706),(.str q155 707),(.str ah 708)]
def o210  : Obj:=fO q125 q125 (Z.La 62) (.str q124 739) 360
def o211  : Obj:=gO q144 q144 (Z.La 70)
def o212  : Obj:=gO q145 q145 (Z.La 59)
def o213  : Obj:=kO q0 q148 q148 682 231 2 3 320 ma (.ref 322) (.ref 323) (.ref 324) 694
def o214  : Obj:=gO q123 q123 (Z.La 72)
def o215  : Obj:=tO [(.str q138 751),(.str q156 752),(.str q157 753),(.str q158 754),(.str q159 755)]
def o216  : Obj:=kO q0 q151 q151 823 312 2 3 402 ma .none .none (.ref 404) 826
def o217  : Obj:=gO q127 q127 (Z.La 64)
def o218  : Obj:=tO [(.str q138 816),(.str q134 817),(.str q160 818),(.str q161 819)]
def o219  : Obj:=fO q142 q142 (Z.La 56) (.str nh 631) 332
def o220  : Obj:=gO q119 q119 (Z.La 54)
def o221  : Obj:=fO q120 q120 (Z.La 71) (.str q124 739) 415
def o222  : Obj:=gO q149 q149 (Z.La 61)
def o223  : Obj:=kO q0 q121 q121 813 307 3 3 395 ma (.ref 397) (.ref 398) (.ref 399) 820
def o224  : Obj:=tO [(.str Cf 717),(.str bh 718),(.str Ni 719),(.str Yl 720),(.str zm 721),(.str q152 722)]
def o225  : Obj:=fO q122 q122 (Z.La 63) (.str q124 739) 367
def o226  : Obj:=gO q150 q150 (Z.La 67)
def o227  : Obj:=kO q0 q125 q125 748 259 2 3 355 ma (.ref 357) (.ref 358) (.ref 359) 756
def o228  : Obj:=fO q126 q126 (Z.La 53) (.str nh 631) 311
def o229  : Obj:=gO q148 q148 (Z.La 55)
def o230  : Obj:=gO q151 q151 (Z.La 69)
def o231  : Obj:=fO q137 q137 (Z.La 58) (.str q146 712) 339
def o232  : Obj:=tO [(.str Cf 661),(.str bh 662),(.str Ni 663),(.str Yl 664),(.str Yh 665),(.str zx 666)]
def o233  : Obj:=kO q0 q142 q142 697 237 4 3 327 ma (.ref 329) (.ref 330) (.ref 331) 709
def o234  : Obj:=fO q143 q143 (Z.La 73) (.str q124 739) 427
def o235  : Obj:=tO [(.str q138 762),(.str q116 763)]
def o236  : Obj:=fO q147 q147 (Z.La 65) (.str q124 739) 379
def h243  : List Da:=h157++[(.int 221 0),(.int 0 0),(.ref 311),(.int 225 0),(.int 0 0),(.ref 318),(.int 231 0),(.int 0 0),(.ref 325),(.int 237 0),(.int 0 0),(.ref 332),(.int 249 0),(.int 0 0),(.ref 339),(.int 254 0),(.int 0 0),(.ref 346),(.int 257 0),(.int 0 0),(.ref 353),(.int 259 0),(.int 0 0),(.ref 360),(.int 272 0),(.int 0 0),(.ref 367),(.int 274 0),(.int 0 0),(.ref 374),(.int 282 0),(.int 0 0),(.ref 379),(.int 296 0),(.int 0 0),(.ref 386),(.int 299 0),(.int 0 0),(.ref 393),(.int 307 0),(.int 0 0),(.ref 400),(.int 312 0),(.int 0 0),(.ref 405),(.int 318 0),(.int 0 0),(.ref 410),(.int 320 0),(.int 0 0),(.ref 415),(.int 327 0),(.int 0 0),(.ref 422),(.int 342 0),(.int 0 0),(.ref 427)]
def o237  : Obj:=sO .none h243
def o238  : Obj:=kO q0 q128 q128 787 296 2 3 381 ma (.ref 383) (.ref 384) (.ref 385) 793
def o239  : Obj:=tO [(.str Yh 685),(.str q105 686),(.str ah 687),(.str lg 688),(.str Kr 689),(.str q106 690),(.str q107 691),(.str fk 692),(.str ck 693)]
def o240  : Obj:=fO q149 q149 (Z.La 61) (.str q124 739) 353
def o241  : Obj:=gO q137 q137 (Z.La 58)
def o242  : Obj:=fO q150 q150 (Z.La 67) (.str q124 739) 393
def o243  : Obj:=gO q143 q143 (Z.La 73)
def o244  : Obj:=kO q0 q144 q144 829 318 3 3 407 ma .none .none (.ref 409) 832
def o245  : Obj:=kO q0 q145 q145 730 254 3 3 341 ma (.ref 343) (.ref 344) (.ref 345) 736
def o246  : Obj:=gO q147 q147 (Z.La 65)
def o247  : Obj:=tO [(.str q134 799),(.str q116 800),(.str q136 801),(.str q159 802),(.str q162 803),(.str q163 804),(.str q129 805),(.str q130 806),(.str q140 807),(.str q164 808),(.str q139 809)]
def o248  : Obj:=fO q148 q148 (Z.La 55) (.str nh 631) 325
def o249  : Obj:=kO q0 q123 q123 841 327 3 3 417 ma (.ref 419) (.ref 420) (.ref 421) 853
def o250  : Obj:=fO q151 q151 (Z.La 69) (.str q124 739) 405
def o251  : Obj:=gO q126 q126 (Z.La 53)
def o252  : Obj:=kO q0 q127 q127 767 274 3 3 369 ma (.ref 371) (.ref 372) (.ref 373) 778
def o253  : Obj:=gO q122 q122 (Z.La 63)
def o254  : Obj:=gO q120 q120 (Z.La 71)
def o255  : Obj:=tO [(.str q165 744)]
def o256  : Obj:=kO q0 q119 q119 670 225 6 3 313 ma (.ref 315) (.ref 316) (.ref 317) 679
def Ha  (P:Tb):Wa:=⟨⟨Ro P::yn P::So P::NJ P::To P::Uo P::Vo P::Xo P::Ko P::Lo P::Po P::tE::o0::o1::o2::[]⟩,{}⟩
def t0  (P:Tb):Cj:=(bN (Ro P) (bN (yn P) (bN (NJ P) (bL (Xo P)) (bL tE)) (bN (Uo P) (bL (Lo P)) (bL o1))) (bN (So P) (bN (To P) (bL (Ko P)) (bL o0)) (bN (Vo P) (bL (Po P)) (bL o2))))
def t1  (P:Tb):Cj:=(bN (Ro P) (bN (yn P) (bN (oM P) (bN (Xo P) (bN o7 (bN tE (bL o3) (bL nO)) (bN o6 (bL o4) (bL o5))) (bN (o12 P) (bN o10 (bL o8) (bL o9)) (bN nO (bL tE) (bL o11)))) (bN tE (bN nO (bN tE (bL nO) (bL tE)) (bN iu (bL tE) (bL o13))) (bN Yt (bN (fu P) (bL gu) (bL nO)) (bN Zt (bL au) bE)))) (bN (Uo P) (bN (Lo P) (bN (Tt P) (bN Vt (bL Wt) (bL Yp)) (bN (Ut P) (bL nO) (bL tE))) (bN Pt (bN Rt (bL tE) (bL Xp)) (bN tE (bL Qt) bE))) (bN o1 (bN Jt (bN Nt (bL tE) (bL Ot)) (bN Kt (bL Wp) (bL Mt))) (bN Ih (bN Et (bL Ht) (bL tE)) (bN Dt (bL Vp) bE))))) (bN (So P) (bN (To P) (bN (Ko P) (bN Ih (bN At (bL Ct) (bL Bt)) (bN Ih (bL tE) (bL Up))) (bN xt (bN zt (bL Tp) (bL Rp)) (bN yt (bL nO) bE))) (bN nM (bN jt (bN nO (bL vt) (bL nO)) (bN qt (bL ut) (bL tE))) (bN o6 (bN Ys (bL tE) (bL Zs)) (bN Xs (bL Qp) bE)))) (bN (Vo P) (bN (Po P) (bN tE (bN Ws (bL tE) (bL Op)) (bN tE (bL Vs) (bL nO))) (bN Rs (bN Us (bL nO) (bL tE)) (bN Ts (bL tE) bE))) (bN o2 (bN tE (bN tE (bL Qs) (bL tE)) (bN tE (bL Np) (bL Mp))) (bN (Ls P) (bN Os (bL Lp) (bL Ps)) (bN (Ms P) (bL tE) bE))))))
def t2  (P:Tb):Cj:=(bN (Ro P) (bN (yn P) (bN (o101 P) (bN (Xo P) (bN o7 (bN tE (bN o3 (bN Wx (bL tE) bE) (bL nO)) (bN nO (bN tE (bL Vx) bE) (bL Ux))) (bN o6 (bN o4 (bN Js (bL Ks) bE) (bL tE)) (bN o5 (bN Sx (bL Tx) bE) (bL Hs)))) (bN (o12 P) (bN o10 (bN o8 (bN tE (bL Rx) bE) (bL Qx)) (bN o9 (bN nO (bL tE) bE) (bL tE))) (bN nO (bN tE (bN Fs (bL Gs) bE) (bL Ds)) (bN o11 (bL tE) (bL Px))))) (bN tE (bN nO (bN tE (bN nO (bN nO (bL tE) bE) (bL Bs)) (bN tE (bN Ox (bL As) bE) (bL Zr))) (bN iu (bN tE (bN Mx (bL Nx) bE) (bL tE)) (bN o13 (bL nO) (bL Yr)))) (bN Yt (bN (fu P) (bN gu (bN Xr (bL nO) bE) (bL Wr)) (bN nO (bN tE (bL tE) bE) (bL tE))) (bN Zt (bN au (bN tE (bL Vr) bE) (bL Ur)) (bN o100 (bL Lx) (bL Tr)))))) (bN (Uo P) (bN (Lo P) (bN (Tt P) (bN Vt (bN Wt (bN o103 (bL o102) bE) (bL tE)) (bN Yp (bN o105 (bL o104) bE) (bL o106))) (bN (Ut P) (bN nO (bN tE (bL tE) bE) (bL o107)) (bN tE (bN o109 (bL o108) bE) (bL nO)))) (bN Pt (bN Rt (bN tE (bN o111 (bL o110) bE) (bL o112)) (bN Xp (bN o114 (bL o113) bE) (bL o115))) (bN tE (bN Qt (bN nO (bL nO) bE) (bL nO)) (bN nO (bL o116) (bL o117))))) (bN o1 (bN Jt (bN Nt (bN tE (bN o119 (bL o118) bE) (bL tE)) (bN Ot (bN o120 (bL nO) bE) (bL nO))) (bN Kt (bN Wp (bN o122 (bL o121) bE) (bL o123)) (bN Mt (bL o124) (bL tE)))) (bN Ih (bN Et (bN Ht (bN nO (bL tE) bE) (bL nO)) (bN tE (bN o126 (bL o125) bE) (bL o127))) (bN Dt (bN Vp (bN o128 (bL tE) bE) (bL tE)) (bN tE (bL o129) (bL nO))))))) (bN (So P) (bN (To P) (bN (Ko P) (bN Ih (bN At (bN Ct (bN o131 (bL o130) bE) (bL o132)) (bN Bt (bN nO (bL tE) bE) (bL tE))) (bN Ih (bN tE (bN o134 (bL o133) bE) (bL o135)) (bN Up (bN o137 (bL o136) bE) (bL tE)))) (bN xt (bN zt (bN Tp (bN nO (bL o138) bE) (bL tE)) (bN Rp (bN o140 (bL o139) bE) (bL o141))) (bN yt (bN nO (bN tE (bL tE) bE) (bL tE)) (bN tE (bL nO) (bL tE))))) (bN o153 (bN jt (bN nO (bN vt (bN o142 (bL nO) bE) (bL o143)) (bN nO (bN o144 (bL tE) bE) (bL tE))) (bN qt (bN ut (bN tE (bL tE) bE) (bL nO)) (bN tE (bL o145) (bL o146)))) (bN o6 (bN Ys (bN tE (bN tE (bL o147) bE) (bL tE)) (bN Zs (bN nO (bL nO) bE) (bL nO))) (bN Xs (bN Qp (bN o149 (bL o148) bE) (bL o150)) (bN o152 (bL o151) (bL tE)))))) (bN (Vo P) (bN (Po P) (bN tE (bN Ws (bN tE (bN tE (bL o154) bE) (bL o155)) (bN Op (bN tE (bL o156) bE) (bL o157))) (bN tE (bN Vs (bN nO (bL nO) bE) (bL o158)) (bN nO (bL tE) (bL o159)))) (bN Rs (bN Us (bN nO (bN o160 (bL tE) bE) (bL o161)) (bN tE (bN o163 (bL o162) bE) (bL o164))) (bN Ts (bN tE (bN o166 (bL o165) bE) (bL o167)) (bN o169 (bL tE) (bL o168))))) (bN o2 (bN tE (bN tE (bN Qs (bN o170 (bL tE) bE) (bL nO)) (bN tE (bN tE (bL o171) bE) (bL o172))) (bN tE (bN Np (bN o174 (bL o173) bE) (bL o175)) (bN Mp (bL o176) (bL nO)))) (bN (Ls P) (bN Os (bN Lp (bN o178 (bL o177) bE) (bL o179)) (bN Ps (bN tE (bL tE) bE) (bL o180))) (bN (Ms P) (bN tE (bN o181 (bL nO) bE) (bL nO)) (bN nO (bL tE) (bL o182))))))))
def t3  (P:Tb):Cj:=(bN (Ro P) (bN (yn P) (bN (o203 P) (bN (Xo P) (bN o7 (bN tE (bN o3 (bN Wx (bL tE) (bL o183)) (bN nO (bL o184) bE)) (bN nO (bN tE (bL Vx) (bL o185)) (bN Ux (bL tE) bE))) (bN o6 (bN o4 (bN Js (bL Ks) (bL o186)) (bN tE (bL nO) bE)) (bN o5 (bN Sx (bL Tx) bE) (bN Hs (bL o187) bE)))) (bN (o12 P) (bN o10 (bN o8 (bN tE (bL Rx) (bL tE)) (bN Qx (bL tE) bE)) (bN o9 (bN nO (bL tE) (bL o188)) (bN tE (bL o189) bE))) (bN nO (bN tE (bN Fs (bL Gs) (bL tE)) (bN Ds (bL o190) bE)) (bN o11 (bN tE (bL o191) bE) (bN Px (bL o192) bE))))) (bN tE (bN nO (bN tE (bN nO (bN nO (bL tE) (bL o193)) (bN Bs (bL tE) bE)) (bN tE (bN Ox (bL As) (bL o194)) (bN Zr (bL tE) bE))) (bN iu (bN tE (bN Mx (bL Nx) (bL nO)) (bN tE (bL o195) bE)) (bN o13 (bN nO (bL nO) bE) (bN Yr (bL o196) bE)))) (bN Yt (bN (fu P) (bN gu (bN Xr (bL nO) (bL tE)) (bN Wr (bL o197) bE)) (bN nO (bN tE (bL tE) (bL o198)) (bN tE (bL nO) bE))) (bN Zt (bN au (bN tE (bL Vr) (bL o199)) (bN Ur (bL o200) bE)) (bN o100 (bN Lx (bL o201) bE) (bN Tr (bL o202) bE)))))) (bN (Uo P) (bN (Lo P) (bN (Tt P) (bN Vt (bN Wt (bN o103 (bL o102) (bL o204)) (bN tE (bL nO) bE)) (bN Yp (bN o105 (bL o104) (bL tE)) (bN o106 (bL o205) bE))) (bN (Ut P) (bN nO (bN tE (bL tE) (bL o206)) (bN o107 (bL o207) bE)) (bN tE (bN o109 (bL o108) bE) (bN nO (bL tE) bE)))) (bN Pt (bN Rt (bN tE (bN o111 (bL o110) (bL o208)) (bN o112 (bL o209) bE)) (bN Xp (bN o114 (bL o113) (bL nO)) (bN o115 (bL o210) bE))) (bN tE (bN Qt (bN nO (bL nO) (bL o211)) (bN nO (bL o212) bE)) (bN nO (bN o116 (bL tE) bE) (bN o117 (bL nO) bE))))) (bN o1 (bN Jt (bN Nt (bN tE (bN o119 (bL o118) (bL nO)) (bN tE (bL o213) bE)) (bN Ot (bN o120 (bL nO) (bL o214)) (bN nO (bL o215) bE))) (bN Kt (bN Wp (bN o122 (bL o121) (bL o216)) (bN o123 (bL tE) bE)) (bN Mt (bN o124 (bL tE) bE) (bN tE (bL o217) bE)))) (bN Ih (bN Et (bN Ht (bN nO (bL tE) (bL o218)) (bN nO (bL o219) bE)) (bN tE (bN o126 (bL o125) bE) (bN o127 (bL tE) bE))) (bN Dt (bN Vp (bN o128 (bL tE) (bL nO)) (bN tE (bL nO) bE)) (bN tE (bN o129 (bL o220) bE) (bN nO (bL tE) bE))))))) (bN (So P) (bN (To P) (bN (Ko P) (bN Ih (bN At (bN Ct (bN o131 (bL o130) (bL tE)) (bN o132 (bL tE) bE)) (bN Bt (bN nO (bL tE) (bL o221)) (bN tE (bL o222) bE))) (bN Ih (bN tE (bN o134 (bL o133) (bL o223)) (bN o135 (bL o224) bE)) (bN Up (bN o137 (bL o136) bE) (bN tE (bL o225) bE)))) (bN xt (bN zt (bN Tp (bN nO (bL o138) (bL o226)) (bN tE (bL nO) bE)) (bN Rp (bN o140 (bL o139) (bL tE)) (bN o141 (bL o227) bE))) (bN yt (bN nO (bN tE (bL tE) (bL nO)) (bN tE (bL tE) bE)) (bN tE (bN nO (bL o228) bE) (bN tE (bL tE) bE))))) (bN o237 (bN jt (bN nO (bN vt (bN o142 (bL nO) (bL tE)) (bN o143 (bL o229) bE)) (bN nO (bN o144 (bL tE) (bL tE)) (bN tE (bL nO) bE))) (bN qt (bN ut (bN tE (bL tE) (bL o230)) (bN nO (bL o231) bE)) (bN tE (bN o145 (bL o232) bE) (bN o146 (bL tE) bE)))) (bN o6 (bN Ys (bN tE (bN tE (bL o147) (bL nO)) (bN tE (bL o233) bE)) (bN Zs (bN nO (bL nO) (bL o234)) (bN nO (bL o235) bE))) (bN Xs (bN Qp (bN o149 (bL o148) (bL tE)) (bN o150 (bL tE) bE)) (bN o152 (bN o151 (bL tE) bE) (bN tE (bL o236) bE)))))) (bN (Vo P) (bN (Po P) (bN tE (bN Ws (bN tE (bN tE (bL o154) (bL o238)) (bN o155 (bL o239) bE)) (bN Op (bN tE (bL o156) (bL nO)) (bN o157 (bL o240) bE))) (bN tE (bN Vs (bN nO (bL nO) (bL tE)) (bN o158 (bL o241) bE)) (bN nO (bN tE (bL tE) bE) (bN o159 (bL nO) bE)))) (bN Rs (bN Us (bN nO (bN o160 (bL tE) (bL o242)) (bN o161 (bL tE) bE)) (bN tE (bN o163 (bL o162) (bL o243)) (bN o164 (bL tE) bE))) (bN Ts (bN tE (bN o166 (bL o165) (bL o244)) (bN o167 (bL o245) bE)) (bN o169 (bN tE (bL nO) bE) (bN o168 (bL o246) bE))))) (bN o2 (bN tE (bN tE (bN Qs (bN o170 (bL tE) (bL o247)) (bN nO (bL o248) bE)) (bN tE (bN tE (bL o171) (bL o249)) (bN o172 (bL tE) bE))) (bN tE (bN Np (bN o174 (bL o173) (bL o250)) (bN o175 (bL nO) bE)) (bN Mp (bN o176 (bL o251) bE) (bN nO (bL o252) bE)))) (bN (Ls P) (bN Os (bN Lp (bN o178 (bL o177) (bL tE)) (bN o179 (bL tE) bE)) (bN Ps (bN tE (bL tE) bE) (bN o180 (bL o253) bE))) (bN (Ms P) (bN tE (bN o181 (bL nO) (bL o254)) (bN nO (bL o255) bE)) (bN nO (bN tE (bL o256) bE) (bN o182 (bL nO) bE))))))))
def Hz  (P:Tb):Wa:=⟨⟨Ro P::yn P::So P::o203 P::To P::Uo P::Vo P::Xo P::Ko P::Lo P::Po P::tE::o237::o1::o2::o7::Ih::Tt P::tE::nO::jt::Jt::tE::o12 P::xt::Pt::Rs::Yt::o6::Ih::Ls P::tE::At::Vt::Ws::tE::nO::Nt::tE::o10::zt::Rt::Us::fu P::Ys::Et::Os::o6::Ih::Ut P::tE::iu::qt::Kt::tE::nO::yt::tE::Ts::Zt::Xs::Dt::Ms P::o3::Ct::Wt::tE::nO::vt::tE::Qs::o8::Tp::tE::nO::gu::tE::Ht::Lp::o4::tE::nO::Vs::tE::ut::Wp::Np::tE::nO::Qt::tE::au::Qp::Vp::tE::nO::Bt::Yp::Op::tE::nO::Ot::tE::o9::Rp::Xp::tE::nO::Zs::tE::Ps::o5::Up::tE::nO::o13::tE::Mt::Mp::o11::tE::nO::o169::o100::o152::tE::nO::Wx::o131::o103::tE::nO::o142::o119::o170::tE::nO::o111::o160::Xr::tE::nO::o178::Js::o134::tE::nO::Mx::tE::o122::o174::Fs::tE::nO::o166::tE::o149::o128::o181::tE::nO::o105::tE::Ox::o144::o120::tE::nO::o140::o114::o163::tE::nO::o126::tE::Sx::o137::o109::tE::nO::o145::o124::o176::tE::nO::o116::tE::Lx::o151::o129::tE::nO::o132::tE::o155::Bs::o143::tE::nO::Qx::tE::o112::o161::Wr::tE::nO::o179::tE::o135::o107::o158::tE::nO::o123::o175::Ds::tE::nO::o167::Ur::o150::tE::nO::Ux::tE::o106::o157::Zr::tE::nO::o172::tE::o141::o115::o164::tE::nO::o127::o180::Hs::tE::nO::o159::Yr::o146::tE::nO::Px::tE::o117::o168::Tr::tE::nO::o182::tE::o130::o102::o154::tE::nO::o118::tE::Rx::o138::o110::tE::nO::o147::tE::o177::Ks::o133::tE::nO::Nx::tE::o121::o173::Gs::tE::nO::o165::Vr::o148::tE::nO::Vx::tE::o104::o156::As::tE::nO::o171::tE::o139::o113::o162::tE::nO::o125::tE::Tx::o136::o108::tE::nO::o232::tE::o251::o191::o228::tE::nO::o201::tE::o220::o256::o184::tE::nO::o239::tE::o229::o213::o248::tE::nO::o209::tE::o197::o233::o219::tE::nO::o224::o207::o241::o195::o231::tE::nO::o190::tE::o212::o245::o200::tE::nO::o255::tE::o222::o205::o240::tE::nO::o215::tE::o189::o227::o210::tE::nO::o235::tE::o253::o187::o225::tE::nO::o196::tE::o217::o252::o192::tE::nO::o246::o202::o236::tE::nO::o183::tE::o204::o238::o193::tE::nO::o247::tE::o226::o208::o242::tE::nO::o218::tE::o186::o223::o206::tE::nO::o230::o216::o250::tE::nO::o211::o244::o199::tE::nO::o254::o185::o221::tE::nO::o194::tE::o214::o249::o188::tE::nO::o243::o198::o234::[]⟩,{}⟩
noncomputable def st1  : List Qa:=[Z.La 0,Z.La 1,Z.La 2,Z.La 3,Z.La 4,Z.La 5,Z.La 6,Z.La 7,Z.La 8,Z.La 9,Z.La 10,Z.La 11,Z.La 12,Z.La 13,Z.La 14,Z.La 15]
noncomputable def st2  : List Qa:=[Z.La 16,Z.La 17,Z.La 18,Z.La 19,Z.La 20,Z.La 21,Z.La 22,Z.La 23,Z.La 24,Z.La 25,Z.La 26,Z.La 27,Z.La 28,Z.La 29,Z.La 30,Z.La 31,Z.La 32,Z.La 33,Z.La 34,Z.La 35,Z.La 36,Z.La 37,Z.La 38,Z.La 39,Z.La 40,Z.La 41,Z.La 42,Z.La 43,Z.La 44,Z.La 45,Z.La 46,Z.La 47,Z.La 48,Z.La 49,Z.La 50,Z.La 51,Z.La 52]
noncomputable def st3  : List Qa:=[Z.La 53,Z.La 54,Z.La 55,Z.La 56,Z.La 57,Z.La 58,Z.La 59,Z.La 60,Z.La 61,Z.La 62,Z.La 63,Z.La 64,Z.La 65,Z.La 66,Z.La 67,Z.La 68,Z.La 69,Z.La 70,Z.La 71,Z.La 72,Z.La 73]
def bd  : List Qa:=st1++(st2++(st3++[]))
noncomputable abbrev pw  : Nb:=PySem.Challenge.pw_beatplans_k97_whole_laid_together
def qw  : Nb:={ pw with main:={ pw.main with body:=[Z.La 1,Z.La 2,Z.La 3,Z.La 5,Z.La 6,Z.La 7,Z.La 8,Z.La 9,Z.La 10,Z.La 11,Z.La 12,Z.La 13,Z.La 14,Z.La 16,Z.La 17,Z.La 18,Z.La 19,Z.La 20,Z.La 22,Z.La 23,Z.La 24,Z.La 25,Z.La 26,Z.La 27,Z.La 28,Z.La 29,Z.La 31,Z.La 32,Z.La 33,Z.La 34,Z.La 35,Z.La 36,Z.La 38,Z.La 40,Z.La 41,Z.La 42,Z.La 43,Z.La 44,Z.La 45,Z.La 46,Z.La 47,Z.La 48,Z.La 49,Z.La 51,Z.La 52,Z.La 53,Z.La 54,Z.La 55,Z.La 56,Z.La 58,Z.La 59,Z.La 61,Z.La 62,Z.La 63,Z.La 64,Z.La 65,Z.La 66,Z.La 67,Z.La 68,Z.La 69,Z.La 70,Z.La 71,Z.La 72,Z.La 73] } }
def en  : Env:={ scope:=pw.main.scope,locals:=mainNs,globals:=mainNs,cells:=[],code:=.ref 13,frame:=da 14 }
def cE  : Code:=.body bd en
noncomputable abbrev pz  : Pos:=⟨0,0,0,0⟩
abbrev fz  : List Frame:=[PySem.W.topFrame pz]
noncomputable abbrev s0  (w:Bb)(j:mj):Fa:=⟨Oo w.params,⟨[]⟩,PySem.W.boot_drawn,PySem.W.boot_toks,j⟩
abbrev sz  (w:Bb)(j:mj):Fa:=⟨Hz w.params,⟨[]⟩,{},862,j⟩
noncomputable def sT  (t:Tb->Cj)(n k:Nat)(w:Bb)(j:mj):PySem.W.SharedT:=⟨t w.params,n,{},⟨[]⟩,{},k,j⟩
section
variable (w:Bb)(os:mj)
def GN  : PySem.W.topGo Lk pw w 11 (da (.ref 6)) 12 (s0 w os) (nK pw)=da (⟨Ha w.params,⟨[]⟩,{},187,os⟩,⟨denote Lk cE,cE,pz,fz⟩):=by
 rw[PySem.W.Fast.te15667345088766844465,Yo,PySem.W.Fast.te11892475500146522536];kernel_rfl
def EN  : PySem.W.segRun Lk pw w 11 (da (.ref 6)) 1 1 ⟨Ha w.params,⟨[]⟩,{},187,os⟩ (PySem.W.blockOf bd en cE pz fz)=da (.next,(sT t0 15 187 w os).abs,cE,pz):=by
 rw[PySem.W.Fast.te14374325043358763698,Yo];kernel_rfl
def r1  : HB Lk pw w 11 (da (.ref 6)) 1 978 (sT t0 15 187 w os) (LB st1 en cE pz fz)=da (.next,sT t1 120 347 w os,cE,⟨38,0,38,8⟩):=by
 rw[ZB,Yo];kernel_rfl
def r2  : HB Lk pw w 11 (da (.ref 6)) 1 997 (sT t1 120 347 w os) (LB st2 en cE ⟨38,0,38,8⟩ fz)=da (.next,sT t2 306 658 w os,cE,⟨215,0,220,61⟩):=by
 rw[ZB,Yo];kernel_rfl
def r3  : HB Lk pw w 11 (da (.ref 6)) 1 627 (sT t2 306 658 w os) (LB st3 en cE ⟨215,0,220,61⟩ fz)=da (.next,sT t3 429 862 w os,cE,⟨342,0,365,15⟩):=by
 rw[ZB,Yo];kernel_rfl
def FN  : wK Lk pw w 11 (da (.ref 6)) 2 (sT t3 429 862 w os).abs ⟨PySem.W.doneF .next,cE,⟨342,0,365,15⟩,fz⟩=da (sz w os):=by
 rw[PySem.W.Fast.te14082659384304107361,Yo];kernel_rfl
def HN  : wK Lk pw w 11 (da (.ref 6)) (12+(1+(978+(997+(627+(2)))))) (s0 w os) (nK pw)=da (sz w os):=
 PySem.W.go_top (GN w os) (PySem.W.piece_block (EN w os) (oB (pB (r1 w os)) (oB (pB (r2 w os)) (oB (pB (r3 w os)) (FN w os)))))
end
def KK  : Tb->Eb:=λP=>((1:Ca),yn P)::((3:Ca),o203 P)::((71:Ca),o8)::((72:Ca),Tp)::((78:Ca),Lp)::((79:Ca),o4)::((85:Ca),Wp)::((86:Ca),Np)::((92:Ca),Qp)::((93:Ca),Vp)::((97:Ca),Yp)::((98:Ca),Op)::((104:Ca),Rp)::((105:Ca),Xp)::((111:Ca),o5)::((112:Ca),Up)::((118:Ca),Mp)::((119:Ca),o11)::((123:Ca),o100)::((124:Ca),o152)::((128:Ca),o131)::((129:Ca),o103)::((133:Ca),o119)::((134:Ca),o170)::((138:Ca),o160)::((139:Ca),Xr)::((143:Ca),Js)::((144:Ca),o134)::((150:Ca),o174)::((151:Ca),Fs)::((157:Ca),o128)::((158:Ca),o181)::((164:Ca),o144)::((165:Ca),o120)::((169:Ca),o114)::((170:Ca),o163)::((176:Ca),o137)::((177:Ca),o109)::((181:Ca),o124)::((182:Ca),o176)::((188:Ca),o151)::((189:Ca),o129)::((195:Ca),Bs)::((196:Ca),o143)::((202:Ca),o161)::((203:Ca),Wr)::((209:Ca),o107)::((210:Ca),o158)::((214:Ca),o175)::((215:Ca),Ds)::((219:Ca),Ur)::((220:Ca),o150)::((226:Ca),o157)::((227:Ca),Zr)::((233:Ca),o115)::((234:Ca),o164)::((238:Ca),o180)::((239:Ca),Hs)::((243:Ca),Yr)::((244:Ca),o146)::((250:Ca),o168)::((251:Ca),Tr)::((257:Ca),o102)::((258:Ca),o154)::((264:Ca),o138)::((265:Ca),o110)::((271:Ca),Ks)::((272:Ca),o133)::((278:Ca),o173)::((279:Ca),Gs)::((283:Ca),Vr)::((284:Ca),o148)::((290:Ca),o156)::((291:Ca),As)::((297:Ca),o113)::((298:Ca),o162)::((304:Ca),o136)::((305:Ca),o108)::((311:Ca),o191)::((312:Ca),o228)::((318:Ca),o256)::((319:Ca),o184)::((325:Ca),o213)::((326:Ca),o248)::((332:Ca),o233)::((333:Ca),o219)::((339:Ca),o195)::((340:Ca),o231)::((346:Ca),o245)::((347:Ca),o200)::((353:Ca),o205)::((354:Ca),o240)::((360:Ca),o227)::((361:Ca),o210)::((367:Ca),o187)::((368:Ca),o225)::((374:Ca),o252)::((375:Ca),o192)::((379:Ca),o202)::((380:Ca),o236)::((386:Ca),o238)::((387:Ca),o193)::((393:Ca),o208)::((394:Ca),o242)::((400:Ca),o223)::((401:Ca),o206)::((405:Ca),o216)::((406:Ca),o250)::((410:Ca),o244)::((411:Ca),o199)::((415:Ca),o185)::((416:Ca),o221)::((422:Ca),o249)::((423:Ca),o188)::((427:Ca),o198)::((428:Ca),o234)::[]
noncomputable def KA  : List Ca:=1::3::71::72::78::79::85::86::92::93::97::98::104::105::111::112::118::119::123::124::128::129::133::134::138::139::143::144::150::151::157::158::164::165::169::170::176::177::181::182::188::189::195::196::202::203::209::210::214::215::219::220::226::227::233::234::238::239::243::244::250::251::257::258::264::265::271::272::278::279::283::284::290::291::297::298::304::305::311::312::318::319::325::326::332::333::339::340::346::347::353::354::360::361::367::368::374::375::379::380::386::387::393::394::400::401::405::406::410::411::415::416::422::423::427::428::[]
def fl  : Z.FL:=(72,71,(.str q5 259))::(79,78,(.str q5 259))::(86,85,(.str q5 259))::(93,92,(.str q5 259))::(98,97,(.str q5 259))::(105,104,(.str q5 259))::(112,111,(.str q5 259))::(119,118,(.str q5 259))::(124,123,(.str Zh 345))::(129,128,(.str Zh 345))::(134,133,(.str Zh 345))::(139,138,(.str Zh 345))::(144,143,(.str Zh 345))::(151,150,(.str Zg 377))::(158,157,(.str Zg 377))::(165,164,(.str Zg 377))::(170,169,(.str Zg 377))::(177,176,(.str Zg 377))::(182,181,(.str Zg 377))::(189,188,(.str Zg 377))::(196,195,(.str Hh 457))::(203,202,(.str Hh 457))::(210,209,(.str Hh 457))::(215,214,(.str Hh 457))::(220,219,(.str Hh 457))::(227,226,(.str Hh 457))::(234,233,(.str q109 526))::(239,238,(.str cg 539))::(244,243,(.str cg 539))::(251,250,(.str cg 539))::(258,257,(.str cg 539))::(265,264,(.str cg 539))::(272,271,(.str cg 539))::(279,278,(.str cg 539))::(284,283,(.str cg 539))::(291,290,(.str cg 539))::(298,297,(.str nh 631))::(305,304,(.str nh 631))::(312,311,(.str nh 631))::(319,318,(.str nh 631))::(326,325,(.str nh 631))::(333,332,(.str nh 631))::(340,339,(.str q146 712))::(347,346,(.str q146 712))::(354,353,(.str q124 739))::(361,360,(.str q124 739))::(368,367,(.str q124 739))::(375,374,(.str q124 739))::(380,379,(.str q124 739))::(387,386,(.str q124 739))::(394,393,(.str q124 739))::(401,400,(.str q124 739))::(406,405,(.str q124 739))::(411,410,(.str q124 739))::(416,415,(.str q124 739))::(423,422,(.str q124 739))::(428,427,(.str q124 739))::[]
def k_dyn   P:Z.dynB Z.T (KK P) 0 fl Z.T.funs Z.sts=ma:=by kernel_rfl
def k_lk   P:fl.map (λx=>(KK P).lookup x.1)=Z.Nn fl Z.T.funs Z.sts:=by kernel_rfl
def k_blt   P:Z.bltB (KK P)=ma:=by kernel_rfl
def k_gs   P:Z.Cq (KK P) Z.T.gn Z.T.gs=ma:=by kernel_rfl
def k_cs   P:Z.Br (KK P) Z.T.cs:=trivial
noncomputable abbrev rr  : PySem.W.OpenRow:=PySem.Challenge.rw_beatplans_k97_whole_laid_together.row
def Xt  : Fa->Bool:=λs=>PySem.W.xlAt qw [] s&&PySem.W.recOk (PySem.W.RowW.records rr.toRowW) s
abbrev hk  : td:=PySem.W.kHook KK KA (λ_=>by kernel_rfl)
def YN  (w:Bb):((Oo w.params).isNs Ke&&(⟨[]⟩:Array GenState).size==0,(Oo w.params).objs.size,(Oo w.params).nsMap Ke "__annotations__")=(ma,11,da (Bg 6)):=by
 rw[PySem.W.Fast.te8920871248978507458];kernel_rfl
def k_l1  (w:Bb) os:(PySem.W.staticsOk (importedModules pw.main.body) (Oo w.params) (Hz w.params)&&PySem.W.namesBound pw (Hz w.params)&&PySem.W.gensDone (sz w os)&&PySem.W.laidKept (Oo w.params) (Hz w.params))=ma:=by
 rw[uL];kernel_rfl
def k_l2  (w:Bb) os:PySem.W.openSeen qw [] (importedModules pw.main.body) Xt ma (sz w os)=PySem.W.openGood qw []:=by
 rw[PySem.W.Fast.te4187177175401517315,uL];kernel_rfl
def k_l3   w os:uB hk (sz w os)=vB hk w:=by kernel_rfl
def k_hl  : PySem.W.LeftO pw qw [] Xt (uB hk) (vB hk) 5324:=PySem.W.LeftO.of_pieces (PySem.W.boot_open (by kernel_rfl) (by decide) λ_=>by kernel_rfl) YN HN (by decide) λw=>funext λj=>Jk (k_l1 w j) (Jk (k_l2 w j) (k_l3 w j))
end Y
open PySem PySem.W PyProof.Rows
set_option maxRecDepth 100000 in
set_option maxHeartbeats 0 in
theorem PySem.Challenge.cw_beatplans_k97_whole_laid_together_holds : PySem.Challenge.rw_beatplans_k97_whole_laid_together.Holds := by
 refine PySem.W.holds_law Z.wellS λsaid=>?_
 refine PySem.W.holds_open (q:=Y.qw) (loose:=[]) (Xt:=Y.Xt) (XP:=PySem.W.XL Y.qw []) (Yf:=uB Y.hk) (Ya:=vB Y.hk) (YP:=td.says Y.hk) (N:=5324) Y.k_hl (td.of Y.hk) (td.keeps Y.hk) (λs e=>PySem.W.xl_of s (Bool.and_eq_true_iff.mp e).1) PySem.W.XL.keeps (by rfl) (by rfl) (by rfl) (λs e=>PySem.W.recFacts_of (Bool.and_eq_true_iff.mp e).2) (by rfl) said (by decide +kernel) ⟨rfl,rfl,rfl,rfl,rfl,by decide +kernel⟩ ?hw ?hc
 case hw=>w_witness2
 refine Z.walk (l:=PySem.Challenge.rw_beatplans_k97_whole_laid_together) rfl rfl (λw h Y=>PySem.W.kIn_of Y) ?K ?S ?B ?F
 case K=>intro w;rfl
 case S=>intro w;exact⟨_,rfl,rfl⟩
 case B=>
  intro w t ht
  simp only[Z.tbs,Mc,Qg,or_false]at ht
  rcases ht with rfl
  ·exact⟨⟨_,rfl⟩,by kernel_rfl,by kernel_rfl⟩
 case F=>exact λw mg fa h X G hm=>Z.all2 X G hm Z.prog_rep Z.prog_eq Z.tabsU (Y.k_dyn _) (Y.k_lk _) (Y.k_blt _) (Y.k_gs _) (Y.k_cs _) rfl rfl rfl rfl rfl
