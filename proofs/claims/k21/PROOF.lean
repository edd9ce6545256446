import PyProof.Rows.All
import Wide.All
import OpenK.AllK
import Wide.FinOn
import Lean
import PyProof.EqAt
import PyProof.EqKinds
import PyProof.TupleCall
import PySem.Challenge.RW_beatplans_k21_lengths_there
noncomputable section
set_option compiler.extract_closed false
set_option genSizeOf false
set_option genInjectivity false
set_option Elab.async false
set_option linter.all false
set_option maxRecDepth 100000
set_option maxHeartbeats 8000000
open List renaming all_cons->Ir,all_eq_true->Mi,any_cons->fk,any_eq_true->zr,append_assoc->sf,append_nil->xi,dropLast_eq_take->EL,drop_eq_getElem_cons->xh,drop_length->DC,drop_of_length_le->Ln,drop_sublist->OK,drop_zero->lC,eraseIdxIfInBounds_toArray->PM,eraseIdx_eq_take_drop_succ->QM,ext_getElem->Fp,ext_getElem?->LC,extract->KB,filterMap_cons->Vr,filterMap_map->OC,filter_append->Ur,filter_cons_of_neg->cx,filter_cons_of_pos->Os,filter_sublist->xC,find?->Yv,find?_cons->sj,find?_cons_of_neg->DM,flatten_append->QL,flatten_cons->Hn,foldl->yr,foldl_cons->Qw,getD->Ee,getD_eq_getElem?_getD->Yk,getElem?_append_left->Fn,getElem?_append_right->Np,getElem?_drop->dM,getElem?_eq_getElem->Cc,getElem?_eq_none->cD,getElem?_inj->PK,getElem?_map->md,getElem?_of_mem->zl,getElem?_range->RL,getElem?_replicate->rM,getElem?_set_ne->Xi,getElem?_set_self->wj,getElem?_take->ul,getElem?_zip_eq_some->mC,getElem_drop->QK,getElem_map->Gr,getElem_mem->zi,getElem_of_mem->Jg,getElem_take->MC,length->mn,length_append->bg,length_cons->Zf,length_drop->Hr,length_eraseIdx_of_lt->CM,length_map->Hb,length_nil->Cp,length_range->ql,length_set->jl,length_singleton->Gw,length_take->Yh,lookup->RB,lookup_cons->Mn,map_append->ie,map_congr_left->Wr,map_cons->Se,map_inj_right->eM,map_map->dg,map_nil->Lr,map_reverse->kL,map_take->gC,mem_append->ee,mem_append_left->Kg,mem_append_right->og,mem_cons->Sc,mem_cons_of_mem->Jd,mem_cons_self->Re,mem_filter->Qf,mem_map->Uc,mem_of_getElem?->Vc,mem_of_mem_drop->Dw,mem_of_mem_take->Mr,mem_or_eq_of_mem_set->aD,mem_singleton->Nc,nil_append->Qi,not_mem_nil->Rg,of_mem_zip->YB,pairwise_singleton->gx,perm_append_comm->GL,perm_middle->mL,range->Md,range_succ->ZB,replicate->Zb,replicate_succ->Xj,reverse_append->Bw,reverse_cons->Sr,reverse_reverse->tL,set_eq_take_append_cons_drop->HM,size_toArray->Od,take_add_one->RK,take_append_drop->Vg,take_append_of_le_length->MM,take_length->Bf,take_of_length_le->Zj,take_sublist->Lw,take_succ->Rf,toArray->LB,toList_toArray->yC
open PySem renaming Comprehension->ur,DictEntry->Zm,FuncData->Vo,NameKind->Bg,Operator->cn,PassesOwn->Nk,SetTable->rh,Spec->m3,assignEach->Qg,assignInOrder->UB,attributeBase->Uj,behindInMarks->Xv,binaryOp->rf,bootBuiltins->Rj,builtinLookup_eq_fast->LK,builtinsNs->Wo,call->SB,call_meets->Zh,call_meetsIn->Zv,cellsFrom->Cg,codeAny_builtin->Al,codeAny_call_builtin->NC,codeAny_mono->nn,compTurn->Qk,compareOp->Ke,concat_meets->AB,evalArgs_none->zC,evalPart_none->VB,fastTable_eq_tree->Sw,foldedForSure->MB,foldedSetIterable->Cf,inplaceOp->Yo,intKind_is->Yq,isSubtype->Sv,isSubtype_type->jp,lastMarks->Tv,letOwnedTupleGo->Kr,mainGlobals->Df,mem_of_lookup->vh,newFunctionEnv->GB,noFill_tuple_add->kC,plainId_quiet->Vk,post_val_or_str->cw,pushCells->qr,relayAll->Xq,repr_of_reads'->HB,scanBound->Qj,seqIndex?->Uv,seqIndex_neg->BB,seqSlot_of->UK,seq_tuple_add->NB,setEntries->Zq,sizeLine->Fb,sizeLine_eq->Oi,sliceBounds->Wj,slicePick->Zo,starEach->Kd,strLen_append->PB,swappedStores->Ti,swapsWith->ij,swapsWithSole->Vj,sysModules->Jf,treeTable->dn,tupleKind->ap,tupleKind_room_in1->Hs,typeIs_int->br,typeIs_str->jr,wpAny_Call_Name_kw->Rr,wpAny_Call_method0_late->KL,wpAny_askSetting->Dp,wpAny_binaryOp_repeat_ref->DL,wpAny_bind->Ua,wpAny_callSpecial?_slot->Pr,wpAny_call_entry->tj,wpAny_comprehension_free->bM,wpAny_execs_nil->qC,wpAny_field->kj,wpAny_getItem_list_slice->TC,wpAny_getItem_str_slice->Ww,wpAny_holding->Hh,wpAny_ite_split->Ih,wpAny_letOwnedTupleGo_enum->JL,wpAny_load->Wv,wpAny_mono->Xf,wpAny_newList->zw,wpAny_newObj_type->yh,wpAny_passesOwn->zn,wpAny_pure->Kb,wpAny_pyIter_enum->Hw,wpAny_pyIter_list->WB,wpAny_pyIter_tuple->PC,wpAny_pyNext_enum_endD->cL,wpAny_pyNext_enum_itemD->LL,wpAny_pyNext_list_end->MK,wpAny_pyNext_list_item->dL,wpAny_pyNext_tuple_end->fL,wpAny_pyNext_tuple_item->ML,wpAny_rule->ci,wpAny_runValue->ww,wpAny_sequenceKey->XB,wpAny_setField->Ui,wpAny_setState_of->Nn,wpAny_standAt->bp,wpAny_truthy_bool->Ip,wpAny_typeOf->rp
open PySem.Heap renaming SameBut->lj,get?_push_ne->KC,get?_push_of_some->Dc,get?_push_size->Wd,get?_update_ne->PL,get?_update_other->vj,get?_update_self->oj,lt_size->Jc,size_push->yn
open PySem.W renaming BT->Rk,Frag->Sb,OpenLaw->GC,WalkO->qL,boot_heap->Ap,boot_o_0->Xr,boot_o_1->yp,boot_o_10->Tr,boot_o_2->Yr,boot_o_3->VL,boot_o_4->Zr,boot_o_5->As,boot_o_6->Bs,boot_o_7->Ds,boot_o_8->Fs,boot_o_9->Gs,cellsFrom_some->BM,codeIn->Br,findIn->cC,fnOf->Tj,instObj->HC,keepIn->Cr,kia_one->Ri,kitOne->Rw,kitx_dict->wL,kitx_list->xL,lookIn->dC,methodObj->wC,mg_of->Jr,nsIn->Bn,piece_app->yL,piecesOf->WL,plainGet->YL,segRunT->gM,segRun_of->zL,specialIn->AL,topRun->TK,topStub->iM
open Nat renaming add_le_add_left->uC,add_le_add_right->SL,add_sub_cancel->Jn,add_sub_cancel_left->UC,le_of_eq->mw,le_of_lt->uj,le_refl->Mb,le_succ->qp,le_trans->Yb,lt_irrefl->qj,lt_of_le_of_lt->Ug,lt_of_lt_of_le->Lf,lt_of_sub_pos->nL,lt_or_ge->ow,lt_succ_of_lt->Gn,lt_succ_self->Er,lt_trans->xr,lt_trichotomy->pL,min_eq_left->jw,mul_comm->sw,mul_le_mul->jC,mul_le_mul_right->TL,ne_of_gt->vp,ne_of_lt->Sd,not_lt_zero->oC,one_lt_succ_succ->UL,pow_le_pow_left->vC,pow_le_pow_right->Jp,sub_self->tw,succ_le_succ->Iw,zero_add->Sj,zero_le->Mf,zero_lt_succ->Ep
open Bool renaming and_eq_true->Kf,eq_iff_iff->Pi,false_eq_true->Bi,false_ne_true->Pd,false_or->rC,not_eq_true'->JC,or_eq_true->Dr
open Option.some renaming inj->Hd
open PyProof.Rows renaming SortKind->Pk,args_list_sort->DB,args_tuple_getitem->eC,assignInOrder_cons->fC,boot_list->NM,callWith_builtin1->VM,callWith_type1->qx,entry_list_sort->pC,entry_tuple_getitem->IC,failedOf->pi,keyLt'_oneType->FB,pendingOf->ud,reverseSlice'->Dn,setPending->vn,slot_list_sort->IB,slot_tuple_getitem->Yj,sortedHeap_at->OB,sortedHeap_old->JB,subscriptTail->xw,subscriptTail_builtinR->aL,tupleItemsOf_->QB,wpS_bind->Rb,wpS_forRange->fh,wpS_lift->jn,wpS_modify->Xo,wpS_pure->Ub
open Array renaming getElem?_eq_getElem->Mp,getElem?_setIfInBounds_self_of_lt->dD,getElem?_toList->af,getElem_toList->Lp,length_toList->cg,toList_append->jh,toList_extract->Ew,toList_push->zp,toList_reverse->Nr
open PySem.Value renaming bool->TB,int->qi,none->ke,ref->gh,str->bw,type->mj
open PySem.PyData renaming canLayAll0->Ow,depthAll->ck,eqv->Je,eqvAll->pp,int->lr,showable->Jw,showableAll->vL,shown->Uk,shownAll->An
open Int renaming add_mul_emod_self_left->zM,ediv_one->CB,emod_add_mul_ediv->CC,emod_lt_of_pos->Ai,emod_nonneg->Xh,eq_ofNat_of_zero_le->Vi,le_refl->aw,le_trans->vr,mul_comm->Aw,mul_le_mul_of_nonneg_right->RM,toNat_natCast->Si
open PySem.NameKind renaming cell->qg,free->Dg
open PySem.Builtin.Slice renaming sliceAdjust->Ms,sliceApplied->mx,sliceFields->IM,slicePlaces->Zk
open PySem.SetTable renaming advance->CL,below->uh,fits->aC,grown->jM,insertAt->Bp,laid->YK,layClean->IL,orStandIn->EM,relaid->aM,sizeAbove->FM
open PySem.Builtin.Tuple renaming tupleExact->Xk,tupleIsExact->KM,tupleItemsOf->SC,tupleTooMany->LM
open PySem.W.Fast renaming te10110043849684766642->UM,te14364793385576792824->Js,te5923862056798008813->TM
open PySem.Obj renaming isFreed_of_fields->uL,mapFields->Wh,mapSeq->si
open PySem.Around renaming under_plainId->Kn
open PySem.Str renaming ofString->pj
open List.Perm renaming append_left->Qr,append_right->jx,refl->FC,trans->sL
open PySem.Builtin.List renaming listExtendWith->fD,listLengthHint->JM,listSameRef->RC,listTooLong->Vw
open True renaming intro->Ni
open PySem.Builtin.Str renaming occurrences->Uw
open PySem.AutoSeq1 renaming wpAny_loadPart'->Tw
open Sum.inr renaming injEq->Cn
open PySem.F renaming args_dict_get_3->kM,args_object_init_2->NK,args_tuple_add_2->QC,args_tuple_mul_2->EC,entry_dict_get->AM,entry_enumerate_new->iL,entry_tuple_add->XC,entry_tuple_mul->bC,newCall_enumerate_1->jL,plainAttrs_dict->kx,plainAttrs_list->YC,plain_extend_loop->qM,plain_list_iadd->ZC,plain_proto_collect->OM,slot_dict_get->Yw,slot_dict_items->lM,slot_dict_values->oM,slot_int_rmul->iw,slot_list_lt->tM,slot_tuple_add->WC,slot_tuple_iterator_next->GM,slot_tuple_mul->kr,typeCall_enumerate_1->OL,type_dict_get->vM
open PySem.Calls renaming Name_function_global->mM,callWith_builtin->Zw,spliced_cons->NL
open PyProof.Rows.F renaming entry_set_update_loop->cM,plain_set_update_loop->Xw
open PySem.SetTable.below renaming go->Fw
open Prod.mk renaming inj->rn
open List.Pairwise renaming nil->Cw
open List.cons renaming inj->Ar
open Option renaming getD_none->fM,isSome_map->Nw,map_some->SK
open Classical renaming choose->Mw,choose_spec->VC
open PySem.Builtin.Frozenset renaming newClass->D2,sizeOf->E2,updateFrom->SM
open False renaming elim->xp
open Prod renaming ext->Tk
open PySem.W.Hook renaming obs->AC,val->BC
open PySem.Paired renaming length->dw
open PySem.Txt renaming slice->Vv,slice_le->uw
open PySem.SetTable.probe renaming go->pM
open PySem.Heap.SameBut renaming update->nM
open PySem.Shared renaming TypeIs->nC
open PySem.SeqAt renaming EqAt->Pg,in_listAt->rL,in_tupleAt->WK,notIn_listAt->ZL,notIn_tupleAt->BL
open PySem.SeqAt.EqAt renaming int_int->wM,int_str->xM,str_int->yM
open PySem.W.Looks renaming of_pure->iC
open PySem.ScopeKind renaming function->uM
open PySem.Draws renaming list->sM
open PySem.pickOrder renaming go->ZK
open PySem.Builtin.SmallTypes renaming nextOf->B2,stopIteration->C2
open Array renaming getElem?_eq_some_iff->Fc,perm_iff_toList_perm->Ld
open Bool renaming false->Ca,true->ua
open Iff renaming rfl->Hx
open Int renaming toNat->Ql
open List renaming getElem?_eq_some_iff->Ba,length_eq_zero_iff->Pb,length_pos_iff->Dd,map->Yn,mem_range->Db,nodup_append->wf,nodup_cons->Jb,pairwise_append->Pa,pairwise_cons->db,pairwise_iff_getElem->Xa,pairwise_map->uf
open Nat renaming not_lt->Mc
open Ne renaming symm->Ta
open Option renaming none->Aa,some->ma
open Or renaming symm->rD
open PyProof.Rows renaming AllBare->Qe,IntsAre->Eb,IsTup->aj,Keyed->Ka,SortSt->La,Subscript_->Yp,arrOf->Ja,countRun'->Gx,elem'->Cd,envOfC->Pe,mergeAt'->Ml,mirror->Yd,oneLt_int->Ex,seqObj->Be,setArr->Up,size_push'->Tp,sortedHeap->Rp,tail_any->Kl,wpS_get->se
open PySem renaming Addr->Ea,Around->Nb,BindsTo->Ah,Builtin->Bb,CmpOp->jt,Expr->Na,Heap->Cb,IsPart->cf,ItemsOf->Zs,Keyword->Ys,Meets->Xg,OsState->Bj,Paired->ce,Params->Lc,PlainL->Zp,Program->Ab,PyData->ub,Result->Ph,Scope->ue,Shared->Fa,Stmt->Va,Value->Da,World->Za,argsOk->Wp,assign->Yc,atKey->Oh,backTo->Xc,bindArgs->Pl,bindC->Zi,bindL->Yi,bindName->Ol,cLine->Ec,callerA->zh,collect->Xs,entryFor->Nl,eval->Lb,getItem->Td,holding->Hc,intKind->Ic,isTrue->Uf,layNew->Vp,model->Ia,newList->Aj,noteFrame->Fx,pyIter->Xd,pyNext->bf,rawInt->Wc,rule->Dx,seqIndex_of->Ll,setFlight->Bx,setItem->zj,setNext->Ws,slot_list_getitem->sg,standAt->Gd,storeName->Ax,unsupported->Jl,valueAt->rg,wpAny_Name->Qp,wpAny_loadPart'->Ma,wpAny_of_eq->Il
open PySem.F renaming called_set->Bc
open PySem.Heap renaming IsSliceOf->Le
open PySem.SeqAt renaming RcAt->Ei
open PySem.W renaming Hook->Zd,OpenLaw->Cj,WShape->Xp,kas_ask->tf
open Sum renaming inl->Ib,inr->Qb
namespace L2
open PySem PySem.Spec PyProof.Rows

abbrev uc:=Sum Int Str
noncomputable def Mm  : uc->Da->Bool
 |.inl k,v=>Da.isInt k v
 |.inr x,v=>Da.isStrOf x v
noncomputable def keyH  (w:Za):uc->Int
 |.inl k=>hashInt k
 |.inr x=>hashStr w x
def Ji  : ∀{k } {v },Mm k v=ua->(∃i t,k=Ib i/\v=qi i t)\/(∃x t,k=Qb x/\v=bw x t)
 |.inl i,v,h=>by
  obtain⟨t,e⟩:=Da.isInt_shape (k:=i) (v:=v) h;exact .inl ⟨i,t,rfl,e⟩
 |.inr x,v,h=>by
  obtain⟨t,e⟩:=Da.isStrOf_shape (x:=x) (v:=v) h;exact .inr ⟨x,t,rfl,e⟩
def OY   i t:Mm (.inl i) (.int i t)=ua:=by simp[Mm,Da.isInt]
def PY   x t:Mm (.inr x) (.str x t)=ua:=by simp[Mm,Da.isStrOf]
def jT   a b:decide ((Ib a:uc)=Ib b)=(a==b):=by
 by_cases e:a=b
 ·subst e;simp
 ·have h:¬(Ib a:uc)=Ib b:=λq=>e (Ib.inj q);rw[decide_eq_false h];exact(beq_eq_false_iff_ne.mpr e).symm
def qT   a b:decide ((Qb a:uc)=Qb b)=decide (a=b):=by
 by_cases e:a=b
 ·subst e;simp
 ·have h:¬(Qb a:uc)=Qb b:=λq=>e (Qb.inj q);rw[decide_eq_false h,decide_eq_false e]
def kT   a b:decide ((Ib a:uc)=Qb b)=Ca:=decide_eq_false (λq=>nomatch q)
def mT   a b:decide ((Qb a:uc)=Ib b)=Ca:=decide_eq_false (λq=>nomatch q)

def He   prog w:PySem.KeyKind prog w uc where
 is:=Mm
 hash:=keyH w
 inj:=λv a b z q=>by
  rcases Ji z with⟨i,t,rfl,rfl⟩|⟨x,t,rfl,rfl⟩
  ·rcases Ji q with⟨j,u,rfl,e⟩|⟨y,u,rfl,e⟩
   ·injection e with e1 _;rw[e1]
   ·exact nomatch e
  ·rcases Ji q with⟨j,u,rfl,e⟩|⟨y,u,rfl,e⟩
   ·exact nomatch e
   ·injection e with e1 _;rw[e1]
 byValue:=λk v h=>by
  rcases Ji h with⟨i,t,rfl,rfl⟩|⟨x,t,rfl,rfl⟩<;>rfl
 pyHash:=λf h=>by
  rcases Ji f with⟨i,t,rfl,rfl⟩|⟨x,t,rfl,rfl⟩
  ·exact wpAny_pyHash_int h
  ·exact wpAny_pyHash_str h
 eqBool:=λhu f h=>by
  rcases Ji hu with⟨i,t,rfl,rfl⟩|⟨x,t,rfl,rfl⟩
  ·rcases Ji f with⟨j,u,rfl,rfl⟩|⟨y,u,rfl,rfl⟩
   ·rw[jT]at h;exact wpAny_eqBool_int h
   ·rw[kT]at h;exact xM i t y u _ _ _ _ h
  ·rcases Ji f with⟨j,u,rfl,rfl⟩|⟨y,u,rfl,rfl⟩
   ·rw[mT]at h;exact yM x t j u _ _ _ _ h
   ·rw[qT]at h;exact wpAny_eqBool_str h
 «strs»:=λk x t v h=>by
  rcases Ji h with⟨i,u,rfl,e⟩|⟨y,u,rfl,e⟩
  ·exact nomatch e
  ·injection e with e1 _
   subst e1
   cases v<;>rfl

def O0   prog w i t:(He prog w).is (.inl i) (.int i t)=ua:=OY i t
def P0   prog w x t:(He prog w).is (.inr x) (.str x t)=ua:=PY x t

set_option genInjectivity true
inductive V where
 |non|bl (b:Bool)|int (i:Int)|str (x:Str)|byt (b:Array UInt8)|flt (b:UInt64)|ref (a:Ea)|ty (n:String)
 deriving DecidableEq

def RelV  : V->Da->Prop
 |.non,u=>u=ke
 |.bl b,u=>u=TB b
 |.int i,u=>∃t,u=qi i t
 |.str x,u=>∃t,u=bw x t
 |.byt b,u=>∃t,u=Da.bytes b t
 |.flt b,u=>∃t,u=Da.float b t
 |.ref a,u=>u=gh a
 |.ty n,u=>u=mj n

abbrev Vals  : List V->List Da->Prop:=ce RelV
def Vals.length    (r:Vals xs us):xs.length=us.length:=dw r
theorem Vals.get  : ∀{xs } {us } {i:Nat} {x },Vals xs us->xs[i]?=ma x->∃u,us[i]?=ma u/\RelV x u
 |_,_,_,_,.nil,e=>by simp at e
 |_,_,0,_,.cons r _,e=>by simp at e;subst e;exact⟨_,rfl,r⟩
 |_,_,i+1,x,.cons _ t,e=>by
  obtain⟨u,f,j⟩:=Vals.get (i:=i) (x:=x) t (by simpa using e)
  exact⟨u,by simpa using f,j⟩
theorem Vals.set    (r:RelV x u):∀{xs } {us } i ,Vals xs us->Vals (xs.set i x) (us.set i u)
 |_,_,_,.nil=>.nil
 |_,_,0,.cons _ t=>.cons r t
 |_,_,i+1,.cons q t=>.cons q (Vals.set r i t)
theorem Vals.append  : ∀{xs ys } {us ws },Vals xs us->Vals ys ws->Vals (xs++ys) (us++ws)
 |_,_,_,_,.nil,s=>s
 |_,_,_,_,.cons r t,s=>.cons r (Vals.append t s)
theorem Vals.take  : ∀{xs } {us } n ,Vals xs us->Vals (xs.take n) (us.take n)
 |_,_,0,_=>.nil
 |_,_,_+1,.nil=>.nil
 |_,_,n+1,.cons r t=>.cons r (Vals.take n t)
theorem Vals.drop  : ∀{xs } {us } n ,Vals xs us->Vals (xs.drop n) (us.drop n)
 |_,_,0,r=>r
 |_,_,_+1,.nil=>.nil
 |_,_,n+1,.cons _ t=>Vals.drop n t
def RelO  : Option V->Option Da->Prop
 |some v,ma u=>RelV v u
 |none,Aa=>True
 |_,_=>False
def KV  {κ:Type}:List (κ×V)->List (κ×Da)->Prop:=ce λ(p:κ×V) (q:κ×Da)=>p.1=q.1/\RelV p.2 q.2

noncomputable def kV  : uc->V
 |.inl i=>.int i
 |.inr x=>.str x

inductive HO where
 |lst (xs:List V)
 |tup (xs:List V)
 |dK (kvs:List (uc×V))|dT (kvs:List (List uc×V))
 |set (S:Int->Bool) (n:Nat)
 |ins (C dx:Ea) (fs:List (Str×V))
 |own (x:Ea)
 |xd (fs:List (Str×V))
 |met (f x:Ea)
 |rng (lo hi:Int)
 |frz (o:Obj) (u:HO)
 |tbl (ps:Array Da)
 |ext (φ:Cb->Prop)
set_option genInjectivity false

abbrev Hp:=Ea->Option HO
noncomputable def upd  (H:Hp)(a:Ea)(o:HO):Hp:=λb=>if b=a then ma o else H b
def Hg     : upd H a o a=ma o:=by unfold upd;rw[if_pos rfl]
def Bd     (h:b≠a):upd H a o b=H b:=by unfold upd;rw[if_neg h]
def WP  {H:Hp}(h:H a=ma o)(h':H b=ma u)(d:o≠u):a≠b:=by
 intro e;subst e;rw[h]at h';exact d (Hd h')
def Ng  {H:Hp}(h:H a=ma o)(h':H b=Aa):a≠b:=by
 intro e;subst e;rw[h]at h';cases h'

def TupD  (h:Cb)(a:Ea)(items:Array Da):Prop:=∃o,h.get? a=ma o/\o.cls=.type "tuple" /\ ∃n,o.data=.seq items n/\o.dict=Aa
def TupD.tup     (x:TupD h a items):aj h a items:=let ⟨o,e,c,n,d,_⟩:=x;⟨o,e,c,n,d⟩
def TupD.new  (h:Cb) items:TupD (h.push { cls:=.type "tuple",data:=.seq items }) h.objs.size items:=⟨_,Wd _ rfl,rfl,_,rfl,rfl⟩
section
variable (P:Ab)(w:Za)
def Me (H:Hp)(h:Cb)(a:Ea):HO->Prop
 |.lst z=>z.length<=Fb/\∃(y:List Da) (n:Nat),Vals z y/\h.get? a=ma { cls:=.type "list",data:=.seq y.toArray n }
 |.tup z=>z.length<=Fb/\∃y:List Da,Vals z y/\TupD h a y.toArray
 |.dK j=>j.length<=Fb/\(a==Jf)=Ca/\∃Y,KV j Y/\h.DictOf (He P w) a Y
 |.dT j=>j.length<=Fb/\(a==Jf)=Ca/\∃z:List (List uc×Ea×Da),
   ce (λ(p:List uc×V) (q:List uc×Ea×Da)=>p.1=q.1/\H q.2.1=ma (.tup (p.1.map kV))/\RelV p.2 q.2.2) j z/\
   ∃o R ep,h.get? a=ma o/\o.ExactDict/\o.data=.dict R ep/\R.toList=z.map (entryOfKey (ap (He P w)))/\(z.map (·.1)).Nodup
 |.set S n=>h.SetOf (Ic P w) a S n
 |.ins C I fs=>H I=ma (.own a)/\fs.length<=1000/\I≠a/\h.get? a=ma (HC C I)/\
   ∃F,h.Ns1 I F/\(∀f,RelO (fs.lookup f) (F f))/\PySem.Within F (fs.map (·.1))
 |.own _=>∃o,h.get? a=ma o
 |.xd fs=>∃F,h.Ns1 a F/\∀f,RelO (fs.lookup f) (F f)
 |.rng lo hi=>∃t u v,h.get? a=ma { cls:=.type "range",data:=.fields #[.int lo t,.int hi u,.int 1 v] }
 |.frz o u=>h.get? a=ma o/\Me H h a u
 |.tbl ps=>h.get? a=ma { cls:=.none,data:=.fields ps }
 |.met f x=>h.get? a=ma (wC (.ref f) (.ref x))
 |.ext J=>J h/\(∃o,h.get? a=ma o)/\∀O Z:Cb,J O->(∀o,O.get? a=ma o->Z.get? a=ma o)->J Z
def Ge (H:Hp)(h:Cb):Prop:=∀a o,H a=ma o->Me P w H h a o
end

section
variable {P:Ab}{w:Za}{H H':Hp}{h h':Cb}{a:Ea}{o:HO}
theorem Me.lt  (x:Me P w H h a o):a<h.objs.size:=by
 cases o with
 |lst q=>obtain⟨_,_,_,_,e⟩:=x;exact Jc e
 |tup q=>obtain⟨_,_,_,p⟩:=x;exact p.tup.lt
 |dK j=>obtain⟨_,_,_,_,o,_,_,e,_⟩:=x;exact Jc e
 |dT j=>obtain⟨_,_,_,_,o,_,_,e,_⟩:=x;exact Jc e
 |set S n=>obtain⟨o,_,_,_,e,_⟩:=x;exact Jc e
 |ins C O fs=>obtain⟨_,_,_,e,_⟩:=x;exact Jc e
 |own y=>obtain⟨_,e⟩:=x;exact Jc e
 |xd fs=>obtain⟨_,⟨_,_,_,e,_⟩,_⟩:=x;exact Jc e
 |rng z J=>obtain⟨_,_,_,e⟩:=x;exact Jc e
 |frz I u=>obtain⟨e,_⟩:=x;exact Jc e
 |tbl F=>exact Jc (show h.get? a=ma _ from x)
 |met f y=>exact Jc (show h.get? a=ma _ from x)
 |ext R=>obtain⟨_,⟨_,e⟩,_⟩:=x;exact Jc e
theorem Paired.mapP    : ∀{q } {j },ce F q j->(∀a b,F a b->G a b)->ce G q j
 |_,_,.nil,_=>.nil
 |_,_,.cons r t,f=>.cons (f _ _ r) (Paired.mapP t f)
def Me.stay  (x:Me P w H h a o)(k:∀b u,(b=a\/H b=ma (.own a))->h.get? b=ma u->h'.get? b=ma u)
  (ho:∀b,H b=ma (.own a)->H' b=ma (.own a)) (ht:∀b xs,H b=ma (.tup xs)->H' b=ma (.tup xs)):Me P w H' h' a o:=by
 induction o with
 |lst xs=>obtain⟨z,J,n,r,e⟩:=x;exact⟨z,J,n,r,k _ _ (.inl rfl) e⟩
 |tup xs=>obtain⟨z,J,r,j,e,c⟩:=x;exact⟨z,J,r,j,k _ _ (.inl rfl) e,c⟩
 |dK R=>obtain⟨z,y,vs,r,j,F,I,e,c⟩:=x;exact⟨z,y,vs,r,j,F,I,k _ _ (.inl rfl) e,c⟩
 |dT R=>
  obtain⟨z,y,xs,r,j,F,I,e,c⟩:=x;exact⟨z,y,xs,Paired.mapP r λp q z=>⟨z.1,ht _ _ z.2.1,z.2.2⟩,j,F,I,k _ _ (.inl rfl) e,c⟩
 |set S n=>obtain⟨j,F,I,t,e,c⟩:=x;exact⟨j,F,I,t,k _ _ (.inl rfl) e,c⟩
 |ins C dx fs=>
  obtain⟨d,z,ne,e,O,⟨Y,F,I,e2,c⟩,r⟩:=x;exact⟨ho _ d,z,ne,k _ _ (.inl rfl) e,O,⟨Y,F,I,k _ _ (.inr d) e2,c⟩,r⟩
 |own y=>obtain⟨j,e⟩:=x;exact⟨j,k _ _ (.inl rfl) e⟩
 |xd fs=>obtain⟨O,⟨Y,F,I,e,c⟩,r⟩:=x;exact⟨O,⟨Y,F,I,k _ _ (.inl rfl) e,c⟩,r⟩
 |rng lo hi=>obtain⟨t,u,v,e⟩:=x;exact⟨t,u,v,k _ _ (.inl rfl) e⟩
 |frz j u ih=>obtain⟨e,q⟩:=x;exact⟨k _ _ (.inl rfl) e,ih q⟩
 |tbl ps=>
  have e:h.get? a=ma { cls:=.none,data:=.fields ps }:=x;show h'.get? a=ma { cls:=.none,data:=.fields ps };exact k a _ (.inl rfl) e
 |met f y=>
  have e:h.get? a=ma (wC (.ref f) (.ref y)):=x;show h'.get? a=ma (wC (.ref f) (.ref y));exact k a _ (.inl rfl) e
 |ext φ=>obtain⟨p,⟨o,e⟩,Z⟩:=x;exact⟨Z _ _ p λo q=>k _ _ (.inl rfl) q,⟨o,k _ _ (.inl rfl) e⟩,Z⟩
def Ge.lt  (x:Ge P w H h)(e:H a=ma o):a<h.objs.size:=(x a o e).lt
def Ge.fresh  (x:Ge P w H h)(e:h.objs.size<=a):H a=Aa:=by
 cases q:H a with
 |none=>rfl
 |some u=>exact absurd (Lf (x.lt q) e) (qj _)
def Ge.kept  (x:Ge P w H h)(k:∀b u,h.get? b=ma u->h'.get? b=ma u):Ge P w H h':=λa o e=>
 (x a o e).stay (λb u _ q=>k b u q) (λ_ q=>q) λ_ _ q=>q
def Ge.laid  (x:Ge P w H h)(k:∀b u,h.get? b=ma u->h'.get? b=ma u)(y:h.objs.size<=a)(new:Me P w (upd H a o) h' a o):Ge P w (upd H a o) h':=λb u e=>by
 have j:=x.fresh y;by_cases f:b=a
 ·subst f;rw[Hg]at e;cases e;exact new
 ·rw[Bd f]at e;exact(x b u e).stay (λc v _ q=>k c v q) (λc q=>by rw[Bd (Ng q j)];exact q) λc z q=>by rw[Bd (Ng q j)];exact q
end

def Rd  (H:Hp)(a:Ea)(u:HO):Prop:=H a=ma u\/∃o,H a=ma (.frz o u)
def Rd.of     (h:H a=ma u):Rd H a u:=.inl h
def Rd.ok        (r:Rd H a u)(x:Ge P w H h):Me P w H h a u:=by
 rcases r with r|⟨o,r⟩
 ·exact x a u r
 ·obtain⟨_,q⟩:=x a _ r;exact q
def Rs  : Option HO->Prop
 |some (.lst _)=>True
 |some (.dK _)=>True
 |some (.dT _)=>True
 |some (.set _ _)=>True
 |some (.ins _ _ _)=>True
 |some (.ext _)=>True
 |_=>False

def Ge.write  (ok:Ge P w H h)(R:Rs (H x))(he:e=x\/H e=ma (.own x))(k:∀b u,b≠e->h.get? b=ma u->h'.get? b=ma u)(Y:∃u,h'.get? e=ma u)
  (new:Me P w (upd H x o') h' x o'):Ge P w (upd H x o') h':=λb u q=>by
 have j:∀c y,H c=ma (.own y)->c≠x:=λc y r z=>by subst z;rw[r]at R;exact R
 have F:∀c J,H c=ma (.tup J)->c≠x:=λc J r z=>by subst z;rw[r]at R;exact R
 by_cases O:b=x
 ·subst O;rw[Hg]at q;cases q;exact new
 ·rw[Bd O]at q;by_cases f:b=e
  ·have Z:H b=ma (.own x):=by
    rcases he with z|z
    ·exact absurd (f.trans z) O
    ·rw[f];exact z
   rw[q]at Z;cases Z;obtain⟨v,hv⟩:=Y;exact⟨v,by rw[f];exact hv⟩
  ·refine(ok b u q).stay (λc v I r=>k c v ?_ r) (λc r=>by rw[Bd (j c b r)];exact r) λc J r=>by rw[Bd (F c J r)];exact r
   rcases I with rfl|I
   ·exact f
   ·rintro rfl;rcases he with z|z
    ·exact j c b I z
    ·rw[I]at z;cases z;exact O rfl

structure Un (fs ex:List Ea)(H H':Hp)(h h':Cb):Prop where
 keep:∀b o,h.get? b=ma o->H b=Aa->b∉fs->b∉ex->h'.get? b=ma o
 slot:∀b o,h.get? b=ma o->H b=Aa->b∈fs->b∉ex->∃sl,h'.get? b=ma { o with slots:=sl }
 free:∀b o,h.get? b=ma o->H b=Aa->b∉ex->H' b=Aa
 there:∀b o,h.get? b=ma o->b∉ex->∃o',h'.get? b=ma o'
 tups:∀b xs,H b=ma (.tup xs)->H' b=ma (.tup xs)
 frzs:∀b o u,H b=ma (.frz o u)->H' b=ma (.frz o u)
 tbls:∀b ps,H b=ma (.tbl ps)->∃more,H' b=ma (.tbl (ps++more))

def Un.any  {H1: Hp}(u:Un fs ex H H1 h z)(q:h.get? b=ma f)(n:H b=Aa)(y:b∉ex):∃F,z.get? b=ma { f with slots:=F }:=by
 by_cases j:b∈fs
 ·exact u.slot b f q n j y
 ·exact⟨f.slots,u.keep b f q n j y⟩
def Un.kept  (k:∀b u,h.get? b=ma u->h'.get? b=ma u):Un fs ex H H h h':=
 ⟨λb f q _ _ _=>k b f q,λb f q _ _ _=>⟨f.slots,k b f q⟩,λ_ _ _ n _=>n,λb f q _=>⟨f,k b f q⟩,λ_ _ q=>q,λ_ _ _ q=>q,λ_ j q=>⟨#[],by rw[q];simp⟩⟩
def Un.refl  : Un fs ex H H h h:=Un.kept λ_ _ q=>q
def Un.laid  {h: Cb}{a: Ea}(k:∀b u,h.get? b=ma u->h'.get? b=ma u)(j:h.objs.size<=a)(f:H a=Aa):Un fs ex H (upd H a o) h h' where
 keep:=λb u q _ _ _=>k b u q
 slot:=λb u q _ _ _=>⟨u.slots,k b u q⟩
 free:=λb u q n _=>by rw[Bd (Sd (Lf (Jc q) j))];exact n
 there:=λb u q _=>⟨u,k b u q⟩
 tups:=λb y q=>by rw[Bd (Ng q f)];exact q
 frzs:=λb u y q=>by rw[Bd (Ng q f)];exact q
 tbls:=λb z q=>⟨#[],by rw[Bd (Ng q f),q];simp⟩
def Un.write  (j:Rs (H x))(O:e=x\/H e=ma (.own x))(k:∀b u,b≠e->h.get? b=ma u->h'.get? b=ma u)(y:∃u,h'.get? e=ma u):Un fs ex H (upd H x o) h h':=by
 have J:∀b,H b=Aa->b≠x:=λb n z=>by subst z;rw[n]at j;exact j
 have I:∀b,H b=Aa->b≠e:=λb n z=>by
  subst z;rcases O with r|r
  ·exact J b n r
  ·rw[n]at r;cases r
 have F:∀b u,H b=ma u->¬Rs (ma u)->b≠x:=λb u q nm z=>by subst z;rw[q]at j;exact nm j
 refine⟨λb u q n _ _=>k b u (I b n) q,λb u q n _ _=>⟨u.slots,k b u (I b n) q⟩,λb u q n _=>by rw[Bd (J b n)];exact n,λb u q _=>?_,
  λb R q=>by rw[Bd (F b _ q λz=>z)];exact q,λb u R q=>by rw[Bd (F b _ q λz=>z)];exact q,λb Y q=>⟨#[],by rw[Bd (F b _ q λz=>z),q];simp⟩⟩
 by_cases f:b=e
 ·subst f;exact y
 ·exact⟨u,k b u f q⟩

noncomputable def qt  (h:Cb)(H:Hp):List Ea:=(Md h.objs.size).filter λa=>(H a).isSome
def hidT  (h:Cb)(H:Hp):Cb:=PySem.W.hideAll h (qt h H)
def KY  (h:Cb) H:(hidT h H).objs.size=h.objs.size:=PySem.W.hideAll_size _ _
def uA      (e:h.get? b=ma o)(n:H b=Aa):(hidT h H).get? b=ma o:=
 PySem.W.hideAll_get _ e λf=>by
  have q:(H b).isSome=ua:=(Qf.mp f).2;rw[n]at q;simp at q
def UU      (e:(hidT h H).get? b=ma o):h.get? b=ma o/\H b=Aa:=by
 have f:h.get? b=ma o:=PySem.W.of_hideAll (qt h H) e;refine⟨f,?_⟩;cases q:H b with
 |none=>rfl
 |some x=>
  have j:b∈qt h H:=Qf.mpr ⟨Db.mpr (Jc f),by simp[q]⟩
  have z:(hidT h H).get? b=Aa:=PySem.W.hideAll_none (qt h H) j;rw[z]at e;cases e

noncomputable def RV  (g h:Cb)(L:Ea):List (Ea×Obj):=(Md h.objs.size).filterMap λa=>if a=L\/(g.get? a).isSome=ua then Aa else (h.get? a).map λo=>(a,o)
def rest  (g h:Cb)(L d:Ea):List (Ea×Obj):=(RV g h L).filter λp=>decide (p.1≠d)

structure Mod (K:Sb)(mg:Str->Option Da)(base:Cb):Prop where
 kin:K.In base
 glob:base.Ns Df mg
 blt:∃mb,base.Ns Wo mb/\∀x:Str,x ≠ "__name__" -> mb x=Rj x
 nolimit:base.NoLimit
 sys:∃o,K.lookup Jf=ma o/\o.cls=.type "dict"

structure Cx where
 prog:Ab
 w:Za
 K:Sb
 mg:Str->Option Da
 base:Cb
 A:Nb
 N:List Str
 s₀:Fa
 H₀:Hp
 env:Env
 outer:List Env
 stack:List Env
 ex:List Ea
 fn:Str->Bool
 calm:Bool
 pn:List (Ea×Obj)
 xe:Da->Fa->Prop
noncomputable def lg  (l:List Env):List Ea:=l.filterMap (·.frame)
abbrev Cx.fs  (X:Cx):List Ea:=lg X.outer

def Ps  (f:ue)(x:Str):Prop:=f.names.lookup x=ma .local\/f.names.lookup x=ma .cell\/f.names.lookup x=ma .free
def Tn  (f:ue)(x:Str):Prop:=f.names.lookup x=ma .local\/f.names.lookup x=ma .cell
def Look  (env:Env)(h:Cb)(m:Str->Option Da)(x:Str)(u:Da):Prop:=
 (env.kindOf x=ma .local/\m x=ma u)\/((env.kindOf x=ma .cell\/env.kindOf x=ma .free)/\∃c,env.cells.lookup x=ma c/\h.IsCell c (ma u))

structure Cx.Ok (X:Cx):Prop where
 mod:Mod X.K X.mg X.base
 kind:X.env.scope.kind=.function
 glob:X.env.globals=Df
 blt:X.env.builtins=Wo
 above:X.s₀.heap.objs.size<=X.env.locals
 inj:∀x y c,X.env.cells.lookup x=ma c->X.env.cells.lookup y=ma c->x=y
 has:∀x,(X.env.kindOf x=ma .cell\/X.env.kindOf x=ma .free)->∃c,X.env.cells.lookup x=ma c
 cab:∀x c,X.fn x=ua->X.env.cells.lookup x=ma c->X.s₀.heap.objs.size<=c
 hd:X.calm=ua->X.A.handled=Aa
 frames:X.A.frames=ma X.stack
 stk:X.stack=X.outer\/(X.stack=X.env::X.outer/\X.env.frame=ma X.env.locals)
 exf:∀b∈X.ex,b≠X.env.locals/\∀x c,X.env.cells.lookup x=ma c->c≠b
 bs:∀b o,X.base.get? b=ma o->X.s₀.heap.get? b=ma o/\X.H₀ b=Aa
 bsz:X.base.objs.size<=X.s₀.heap.objs.size
 noex:∀b o,X.base.get? b=ma o->b∉X.ex
 exfs:∀b∈X.ex,b∉X.fs
 funs:X.s₀.heap.FunFrames X.base X.outer
 frf:∀b∈X.fs,X.H₀ b=Aa

structure Qa (X:Cx)(pins:List (Ea×Obj))(σ:List (Option V))(H:Hp)(s:Fa):Prop where
 ok:X.Ok
 os:s.os=X.s₀.os
 bare:Qe s.gens
 base:Un X.fs X.ex X.H₀ H X.s₀.heap s.heap
 loc:∃m,s.heap.Ns X.env.locals m/\∀(i:Nat) (x:Str) (v:V),X.N[i]?=ma x->σ[i]?=ma (ma v)->Ps X.env.scope x->∃u,RelV v u/\Look X.env s.heap m x u
 cell:∀x c,X.env.cells.lookup x=ma c->∃v,s.heap.IsCell c v
 free:H X.env.locals=Aa
 freeC:∀x c,X.env.cells.lookup x=ma c->H c=Aa
 pin:∀p∈X.pn++pins,s.heap.get? p.1=ma p.2/\H p.1=Aa/\p.1≠X.env.locals/\p.1∉X.fs/\∀v,p.2.data≠.cell v
 hok:Ge X.prog X.w H s.heap
 len:σ.length=X.N.length

section
variable {X:Cx}{pins:List (Ea×Obj)}{σ:List (Option V)}{H H':Hp}{s:Fa}{h':Cb}

def Cx.Ok.nofr  (ok:X.Ok)(e:X.base.get? b=ma o):b∉X.fs:=λf=>by
 have:=(ok.funs.mem f).1;rw[e]at this;cases this
def Qa.bs  (I:Qa X pins σ H s):∀b o,X.base.get? b=ma o->s.heap.get? b=ma o/\H b=Aa:=λb o e=>
 ⟨I.base.keep b o (I.ok.bs b o e).1 (I.ok.bs b o e).2 (I.ok.nofr e) (I.ok.noex b o e),I.base.free b o (I.ok.bs b o e).1 (I.ok.bs b o e).2 (I.ok.noex b o e)⟩
def Qa.bk  (I:Qa X pins σ H s):∀b o,X.base.get? b=ma o->s.heap.get? b=ma o:=λb o e=>(I.bs b o e).1
def Qa.mod  (I:Qa X pins σ H s):Mod X.K X.mg X.base:=I.ok.mod
def Qa.kIn  (I:Qa X pins σ H s):X.K.In s.heap:=I.ok.mod.kin.keeps I.bk
def Qa.lt  (I:Qa X pins σ H s):X.env.locals<s.heap.objs.size:=let ⟨_,f,_⟩:=I.loc;f.lt
def Qa.sz  (I:Qa X pins σ H s):X.s₀.heap.objs.size<=s.heap.objs.size:=Yb I.ok.above (uj I.lt)
def Qa.nofs  (I:Qa X pins σ H s){a:Ea}(h:s.heap.objs.size<=a):a∉X.fs:=λf=>by
 obtain⟨_,o,j,_⟩:=I.ok.funs.mem f;exact absurd (Lf (Jc j) (Yb I.sz h)) (qj _)
def Qa.cne  (I:Qa X pins σ H s):∀x c,X.env.cells.lookup x=ma c->c≠X.env.locals:=λx c e z=>by
 obtain⟨v,o,q,hd⟩:=I.cell x c e;obtain⟨m,⟨F,J,y,j,f,_⟩,_⟩:=I.loc;rw[z,j]at q;cases q;rw[f]at hd;cases hd
theorem Qa.funs  (I:Qa X pins σ H s):s.heap.FunFrames X.base X.outer:=by
 have all:∀(l:List Env),(∀b∈lg l,b∈X.fs)->X.s₀.heap.FunFrames X.base l->s.heap.FunFrames X.base l:=by
  intro l
  induction l with
  |nil=>intro _ _;trivial
  |cons Z r J=>
   intro y F;obtain⟨hk,⟨L,o,f,Y,R,hd⟩,O⟩:=F;have q:L∈X.fs:=y L (by unfold lg;rw[Vr,f];exact Re)
   obtain⟨sl,e⟩:=I.base.slot L o R (I.ok.frf L q) q λz=>I.ok.exfs L z q;exact⟨hk,⟨L,_,f,Y,e,hd⟩,J (λb j=>y b (by unfold lg;rw[Vr,f];exact Jd _ j)) O⟩
 exact all X.outer (λ_ j=>j) I.ok.funs

def Qa.stack  (I:Qa X pins σ H s):s.heap.FunFrames X.base X.stack:=by
 rcases I.ok.stk with e|⟨e,hf⟩
 ·rw[e];exact I.funs
 ·rw[e];obtain⟨m,f,_⟩:=I.loc;refine .cons (by rw[I.ok.kind];decide) hf f ?_ I.funs
  exact Cb.get?_none_of_le (Yb I.ok.bsz I.ok.above)
def Qa.stkSub  (I:Qa X pins σ H s):∀b∈lg X.stack,b∈X.env.locals::X.fs:=λb f=>by
 rcases I.ok.stk with e|⟨e,hf⟩
 ·rw[e]at f;exact Jd _ f
 ·rw[e]at f;unfold lg at f;rw[Vr,hf]at f;exact f
def Qa.stkFree  (I:Qa X pins σ H s):∀b∈lg X.stack,H b=Aa:=λb f=>by
 rcases Sc.mp (I.stkSub b f)with e|f
 ·rw[e];exact I.free
 ·obtain⟨_,o,j,_⟩:=I.ok.funs.mem f;exact I.base.free b o j (I.ok.frf b f) λz=>I.ok.exfs b z f

def Qa.step     {ch:List Ea}(I:Qa X pins σ H s)
  (j:∀b∈ch,(b∈X.ex\/X.s₀.heap.objs.size<=b)/\b≠X.env.locals/\(∀x c,X.env.cells.lookup x=ma c->c≠b)/\∀p∈X.pn++pins,p.1≠b)
  (keep:∀b o,b≠X.env.locals->b∉X.fs->b∉ch->s.heap.get? b=ma o->H b=Aa->h'.get? b=ma o)
  (slot:∀b o,b≠X.env.locals->b∈X.fs->b∉ch->s.heap.get? b=ma o->H b=Aa->∃sl,h'.get? b=ma { o with slots:=sl }) (free:∀b o,b∉ch->s.heap.get? b=ma o->H b=Aa->H' b=Aa)
  (there:∀b o,b∉ch->s.heap.get? b=ma o->∃o',h'.get? b=ma o')
  (tups:∀b xs,H b=ma (.tup xs)->H' b=ma (.tup xs)) (frzs:∀b o u,H b=ma (.frz o u)->H' b=ma (.frz o u)) (tbls:∀b ps,H b=ma (.tbl ps)->∃xa,H' b=ma (.tbl (ps++xa)))
  (ns:∀m,s.heap.Ns X.env.locals m->h'.Ns X.env.locals m) (za:Ge X.prog X.w H' h') (hg:Qe g') :
  Qa X pins σ H' { s with heap:=h',gens:=g',drawn:=d',toks:=t' }:=by
 have Z:∀b o,X.s₀.heap.get? b=ma o->b≠X.env.locals:=λb o e=>Sd (Lf (Jc e) I.ok.above);have O:∀b o,X.s₀.heap.get? b=ma o->b∉X.ex->b∉ch:=λb o e f R=>by
  rcases(j b R).1 with z|z
  ·exact f z
  ·exact absurd (Lf (Jc e) z) (qj _)
 have y:∀x c,X.env.cells.lookup x=ma c->∀v,s.heap.IsCell c v->h'.IsCell c v:=λx c e v ⟨o,Y,hd⟩=>by
  have F:c∉ch:=λz=>(j c z).2.2.1 x c e rfl;by_cases hc:c∈X.fs
  ·obtain⟨sl,q⟩:=slot c o (I.cne x c e) hc F Y (I.freeC x c e);exact⟨_,q,hd⟩
  ·exact⟨o,keep c o (I.cne x c e) hc F Y (I.freeC x c e),hd⟩
 refine⟨I.ok,I.os,hg,⟨λb o e n R f=>?_,λb o e n R f=>?_,λb o e n f=>?_,λb o e f=>?_,λb xs e=>tups b xs (I.base.tups b xs e),λb o xs e=>frzs b o xs (I.base.frzs b o xs e),λb ps e=>?_⟩,?_,λx c e=>?_,?_,λx c e=>?_,λp hp=>?_,za,I.len⟩
 ·exact keep b o (Z b o e) R (O b o e f) (I.base.keep b o e n R f) (I.base.free b o e n f)
 ·obtain⟨sl,J⟩:=I.base.slot b o e n R f;obtain⟨ja,e2⟩:=slot b _ (Z b o e) R (O b o e f) J (I.base.free b o e n f);exact⟨ja,e2⟩
 ·obtain⟨o',J⟩:=I.base.there b o e f;exact free b o' (O b o e f) J (I.base.free b o e n f)
 ·obtain⟨o',J⟩:=I.base.there b o e f;exact there b o' (O b o e f) J
 ·obtain⟨m1,J⟩:=I.base.tbls b ps e;obtain⟨m2,e2⟩:=tbls b _ J;exact⟨m1++m2,by rw[e2,Array.append_assoc]⟩
 ·obtain⟨m,hn,hl⟩:=I.loc;refine⟨m,ns m hn,λi x v J e2 e3=>?_⟩;obtain⟨u,r,l⟩:=hl i x v J e2 e3;refine⟨u,r,?_⟩;rcases l with l|⟨k,c,e,z⟩
  ·exact .inl l
  ·exact .inr ⟨k,c,e,y x c e _ z⟩
 ·obtain⟨v,z⟩:=I.cell x c e;exact⟨v,y x c e v z⟩
 ·obtain⟨m,⟨o,_,_,Y,_⟩,_⟩:=I.loc;exact free _ o (λz=>(j _ z).2.1 rfl) Y I.free
 ·obtain⟨v,o,Y,hd⟩:=I.cell x c e;exact free c o (λz=>(j c z).2.2.1 x c e rfl) Y (I.freeC x c e)
 ·obtain⟨e,n,ne,nf,d⟩:=I.pin p hp;have F:p.1∉ch:=λz=>(j p.1 z).2.2.2 p hp rfl;exact⟨keep p.1 p.2 ne nf F e n,free p.1 p.2 F e n,ne,nf,d⟩
def Qa.un   (I:Qa X pins σ H s)(u:Un X.fs [] H H' s.heap h')(y:Ge X.prog X.w H' h'):Qa X pins σ H' { s with heap:=h',toks:=t' }:=by
 obtain⟨m,⟨o,es,ep,J,r⟩,_⟩:=id I.loc;obtain⟨sl,Y⟩:=u.any J I.free (by simp)
 exact I.step (g':=s.gens) (d':=s.drawn) (ch:=[]) (λ_ z=>nomatch z) (λb o _ F _ e n=>u.keep b o e n F (by simp)) (λb o _ F _ e n=>u.slot b o e n F (by simp)) (λb o _ e n=>u.free b o e n (by simp)) (λb o _ e=>u.there b o e (by simp)) u.tups u.frzs u.tbls (λZ R=>by
  obtain⟨o',j,q,f,O⟩:=R;rw[J]at f;cases f;exact⟨_,j,q,Y,O⟩) y I.bare
def Qa.call      (I:Qa X pins σ H s)(u:Un (lg X.stack) ch H H' s.heap h')(J:Ge X.prog X.w H' h')(Z:Qe g')
  (j:∀b∈ch,(b∈X.ex\/X.s₀.heap.objs.size<=b)/\b≠X.env.locals/\(∀x c,X.env.cells.lookup x=ma c->c≠b)/\∀p∈X.pn++pins,p.1≠b) :
  Qa X pins σ H' { s with heap:=h',gens:=g',drawn:=d',toks:=t' }:=by
 obtain⟨m,⟨o,es,ep,R,r⟩,_⟩:=id I.loc;obtain⟨sl,O⟩:=u.any R I.free λz=>(j _ z).2.1 rfl;exact I.step (ch:=ch) j (λb o O hb f e n=>u.keep b o e n (λz=>(Sc.mp (I.stkSub b z)).elim O hb) f) (λb o _ _ f e n=>u.any e n f) (λb o f e n=>u.free b o e n f) (λb o f e=>u.there b o e f) u.tups u.frzs u.tbls (λm' hm=>by
  obtain⟨o',y,F,q,Y⟩:=hm;rw[R]at q;cases q;exact⟨_,y,F,O,Y⟩) J Z
def Qa.turned    (I:Qa X pins σ H s)(k:∀b o,b≠it->s.heap.get? b=ma o->h'.get? b=ma o)(O:H it=Aa)(y:it≠X.env.locals)
  (F:it∈X.ex\/X.s₀.heap.objs.size<=it) (h2:∀x c,X.env.cells.lookup x=ma c->c≠it) (h3:∀p∈X.pn++pins,p.1≠it):Qa X pins σ H { s with heap:=h',toks:=t' }:=by
 have j:∀b u,H b=ma u->b≠it:=λb u e z=>by rw[z,O]at e;cases e
 refine I.step (g':=s.gens) (d':=s.drawn) (ch:=[it]) (λb Y=>?_) (λb o _ _ f e _=>k b o (λz=>f (by simp[z])) e) (λb o _ _ f e _=>⟨o.slots,k b o (λz=>f (by simp[z])) e⟩) (λ_ _ _ _ n=>n)
  (λb o f e=>⟨o,k b o (λz=>f (by simp[z])) e⟩) (λ_ _ e=>e) (λ_ _ _ e=>e) (λb ps e=>⟨#[],by rw[e];simp⟩) (λm Z=>?_) (λb u e=>?_) I.bare
 ·have e:b=it:=by simpa using Y
  subst e;exact⟨F,y,h2,h3⟩
 ·obtain⟨o,es,R,J,r⟩:=Z;exact⟨o,es,R,k _ o (Ta y) J,r⟩
 ·refine(I.hok b u e).stay (λc v f q=>k c v ?_ q) (λ_ q=>q) λ_ _ q=>q;rcases f with z|z
  ·rw[z];exact j b u e
  ·exact j c _ z
def Qa.tok  (I:Qa X pins σ H s) t:Qa X pins σ H { s with toks:=t }:=I.un (h':=s.heap) (t':=t) Un.refl I.hok
def Qa.kept   (I:Qa X pins σ H s)(k:∀b u,s.heap.get? b=ma u->h'.get? b=ma u):Qa X pins σ H { s with heap:=h',toks:=t' }:=I.un (Un.kept k) (I.hok.kept k)
def Qa.laid  {a:Ea}(I:Qa X pins σ H s)(k:∀b u,s.heap.get? b=ma u->h'.get? b=ma u)(f:s.heap.objs.size<=a)(new:Me X.prog X.w (upd H a o) h' a o) :
  Qa X pins σ (upd H a o) { s with heap:=h',toks:=t' }:=I.un (Un.laid k f (I.hok.fresh f)) (I.hok.laid k f new)
def Qa.write     (I:Qa X pins σ H s)(j:Rs (H x))(q:e=x\/H e=ma (.own x))(k:∀b u,b≠e->s.heap.get? b=ma u->h'.get? b=ma u)(f:∃u,h'.get? e=ma u)
  (new:Me X.prog X.w (upd H x o) h' x o):Qa X pins σ (upd H x o) { s with heap:=h',toks:=t' }:=I.un (Un.write j q k f) (I.hok.write j q k f new)
def Qa.pins_of  {f:List (Ea×Obj)}(I:Qa X pins σ H s)(h:∀p∈f,s.heap.get? p.1=ma p.2/\H p.1=Aa/\p.1≠X.env.locals/\p.1∉X.fs/\∀v,p.2.data≠.cell v):Qa X f σ H s:=
 ⟨I.ok,I.os,I.bare,I.base,I.loc,I.cell,I.free,I.freeC,λp j=>(ee.mp j).elim (λz=>I.pin p (Kg _ z)) (h p),I.hok,I.len⟩

def vG  {N:List Str}(y:N.Nodup){i j:Nat}(a:N[i]?=ma x)(b:N[j]?=ma x):i=j:=by
 obtain⟨z,q⟩:=Ba.mp a;obtain⟨F,f⟩:=Ba.mp b;exact(List.getElem_inj y).mp (q.trans f.symm)

section
variable {M:Model}{A:Nb}{E:Da->Fa->Prop}{i:Nat}{x:Str}{v:V}{u:Da}{Q:Unit->Fa->Prop}
def CH (I:Qa X pins σ H s)(hN:X.N.Nodup)(hi:X.N[i]?=ma x)(R:Tn X.env.scope x)(r:RelV v u)
  (h:∀s',Qa X pins (σ.set i (ma v)) H s'->(∃a,lj a s.heap s'.heap/\(a=X.env.locals\/X.env.cells.lookup x=ma a))->Q () s') (hf:X.fn x=ua\/X.env.scope.names.lookup x=ma .local:=by first|exact .inl rfl|exact .inr rfl|assumption):wpAny M A (Ax X.env x u) Q E s:=by
 obtain⟨m,hn,hl⟩:=id I.loc;have va:(X.env.scope.kind == .class||(X.env.scope.kind == .module&&X.env.locals != X.env.globals))=Ca:=by rw[I.ok.kind];rfl
 have xa:i<σ.length:=by rw[I.len];exact(Ba.mp hi).1
 have cne:=I.cne;have F:∀{a:Ea} {h':Cb},(∃o,s.heap.get? a=ma o/\H a=Aa)->lj a s.heap h'->Ge X.prog X.w H h':=λ{a h'} ha f b ob e=>by
  obtain⟨_,_,Y⟩:=ha;refine(I.hok b ob e).stay (λc w' O q=>(f.2 c ?_).trans q) (λ_ q=>q) λ_ _ q=>q;rintro rfl;rcases O with rfl|O
  ·rw[Y]at e;cases e
  ·rw[Y]at O;cases O
 rcases R with hk|hk
 ·refine wpAny_storeName_local hk hn (λh' xb f=>?_) va;obtain⟨oL,_,_,zb,_⟩:=id hn;refine h _ ⟨I.ok,I.os,I.bare,⟨λb o e n hb R=>?_,λb o e n hb R=>?_,I.base.free,λb o e R=>?_,I.base.tups,I.base.frzs,I.base.tbls⟩,⟨_,xb,λj y v' J Z e3=>?_⟩,λy c e=>?_,I.free,I.freeC,λp hp=>?_,F ⟨oL,zb,I.free⟩ f,by simpa using I.len⟩ ⟨_,f,.inl rfl⟩
  ·exact(f.2 b (Sd (Lf (Jc e) I.ok.above))).trans (I.base.keep b o e n hb R)
  ·obtain⟨sl,J⟩:=I.base.slot b o e n hb R;exact⟨sl,(f.2 b (Sd (Lf (Jc e) I.ok.above))).trans J⟩
  ·obtain⟨o',J⟩:=I.base.there b o e R;exact⟨o',(f.2 b (Sd (Lf (Jc e) I.ok.above))).trans J⟩
  ·by_cases hj:j=i
   ·subst hj;rw[hi]at J;cases J;rw[wj xa]at Z;cases Z;exact⟨u,r,.inl ⟨hk,by simp⟩⟩
   ·rw[Xi (Ta hj)]at Z;obtain⟨u',r',q⟩:=hl j y v' J Z e3;refine⟨u',r',?_⟩;rcases q with⟨k,e⟩|⟨k,c,e,z⟩
    ·refine .inl ⟨k,?_⟩;have:y≠x:=λe=>hj (vG hN J (e ▸ hi));simp[this,e]
    ·exact .inr ⟨k,c,e,z.sameBut f (cne y c e)⟩
  ·obtain⟨w',z⟩:=I.cell y c e;exact⟨w',z.sameBut f (cne y c e)⟩
  ·obtain⟨e,n,ne,nf,d⟩:=I.pin p hp;exact⟨(f.2 p.1 ne).trans e,n,ne,nf,d⟩
 ·have za:X.fn x=ua:=by
   rcases hf with z|z
   ·exact z
   ·rw[z]at hk;cases hk
  obtain⟨c,O⟩:=I.ok.has x (.inl hk);obtain⟨w',z⟩:=I.cell x c O;refine wpAny_storeName_cell I.ok.kind hk O z (λh' ka f=>?_);obtain⟨oc,wa,ya⟩:=id z;refine h { s with heap:=h' } ⟨I.ok,I.os,I.bare,⟨λb o e n hb R=>?_,λb o e n hb R=>?_,I.base.free,λb o e R=>?_,I.base.tups,I.base.frzs,I.base.tbls⟩,⟨m,hn.sameBut f (Ta (cne x c O)),λj y v' J Z e3=>?_⟩,λy c' e=>?_,I.free,I.freeC,λp hp=>?_,F ⟨oc,wa,I.freeC x c O⟩ f,by simpa using I.len⟩ ⟨c,f,.inr O⟩
  ·exact(f.2 b (Sd (Lf (Jc e) (I.ok.cab x c za O)))).trans (I.base.keep b o e n hb R)
  ·obtain⟨sl,J⟩:=I.base.slot b o e n hb R;exact⟨sl,(f.2 b (Sd (Lf (Jc e) (I.ok.cab x c za O)))).trans J⟩
  ·obtain⟨o',J⟩:=I.base.there b o e R;exact⟨o',(f.2 b (Sd (Lf (Jc e) (I.ok.cab x c za O)))).trans J⟩
  ·by_cases hj:j=i
   ·subst hj;rw[hi]at J;cases J;rw[wj xa]at Z;cases Z;exact⟨u,r,.inr ⟨.inl hk,c,O,ka⟩⟩
   ·rw[Xi (Ta hj)]at Z;obtain⟨u',r',q⟩:=hl j y v' J Z e3;refine⟨u',r',?_⟩;rcases q with q|⟨k,c',e,z'⟩
    ·exact .inl q
    ·refine .inr ⟨k,c',e,z'.sameBut f ?_⟩;rintro rfl;exact hj (vG hN J (I.ok.inj _ _ _ e O ▸ hi))
  ·by_cases ja:c'=c
   ·subst ja;exact⟨_,ka⟩
   ·obtain⟨w2,z2⟩:=I.cell y c' e;exact⟨w2,z2.sameBut f ja⟩
  ·obtain⟨e,n,ne,nf,d⟩:=I.pin p hp;refine⟨(f.2 p.1 ?_).trans e,n,ne,nf,d⟩;intro q;rw[q,wa]at e;have q':oc=p.2:=Hd e;exact d w' (by rw[<- q'];exact ya)
def sv (I:Qa X pins σ H s)(y:X.N.Nodup)(hi:X.N[i]?=ma x)(j:Tn X.env.scope x)(r:RelV v u)
  (h:∀s',Qa X pins (σ.set i (ma v)) H s'->Q () s') (q:X.fn x=ua\/X.env.scope.names.lookup x=ma .local:=by first|exact .inl rfl|exact .inr rfl|assumption):wpAny M A (Ax X.env x u) Q E s:=
 CH I y hi j r (λs' f _=>h s' f) q
end
def Qa.call'    (I:Qa X pins σ H s)(q:s'.os=s.os)(u:Un (lg X.stack) ch H H' s.heap s'.heap)(f:Ge X.prog X.w H' s'.heap)(y:Qe s'.gens)
  (j:∀b∈ch,(b∈X.ex\/X.s₀.heap.objs.size<=b)/\b≠X.env.locals/\(∀x c,X.env.cells.lookup x=ma c->c≠b)/\∀p∈X.pn++pins,p.1≠b):Qa X pins σ H' s':=by
 obtain⟨F,g',d',t',z⟩:=s';have e:z=s.os:=q;subst e;exact I.call (g':=g') (t':=t') (d':=d') u f y j
end

abbrev XK:=Da->Option Ea->Hp->Prop
abbrev St:=List (Option V)
abbrev VK:=V->Hp->Prop
abbrev TE:=St->Hp->VK->Prop
abbrev TT:=St->Hp->(Bool->Hp->Prop)->Prop
abbrev TA:=St->Hp->(List V->Hp->Prop)->Prop
structure Ends where
 nx:St->Hp->Prop
 rt:VK
 bk:St->Hp->Prop:=λ_ _=>False
 ct:St->Hp->Prop:=λ_ _=>False
abbrev TS:=Ends->St->Hp->Prop

def EP  (X:Cx)(pins:List (Ea×Obj))(j:St)(Q:VK)(u:Da)(s':Fa):Prop:=∃v f,Qa X pins j f s'/\RelV v u/\Q v f
def TP  (X:Cx)(pins:List (Ea×Obj))(j:St)(Q:Bool->Hp->Prop)(b:Bool)(s':Fa):Prop:=∃f,Qa X pins j f s'/\Q b f
def AP  (X:Cx)(pins:List (Ea×Obj))(q:St)(Q:List V->Hp->Prop)(us:List Da)(s':Fa):Prop:=∃f j,Qa X pins q j s'/\Vals f us/\Q f j
def SP  (X:Cx)(pins:List (Ea×Obj))(D:Ends)(f:Flow)(s':Fa):Prop:=
 match f with
 |.next=>∃j q,Qa X pins j q s'/\D.nx j q
 |.brk=>∃j q,Qa X pins j q s'/\D.bk j q
 |.cont=>∃j q,Qa X pins j q s'/\D.ct j q
 |.ret u=>∃v j q,Qa X pins j q s'/\RelV v u/\D.rt v q

def PE  (X:Cx)(e:Na)(t:TE):Prop:=
 ∀(f:List (Ea×Obj)) (s:Fa) (σ:St) (H:Hp) (Q:VK),Qa X f σ H s->t σ H Q->wpAny (Ia X.prog X.w) X.A (Lb e X.env) (EP X f σ Q) X.xe s
def PT  (X:Cx)(e:Na)(t:TT):Prop:=
 ∀(f:List (Ea×Obj)) (s:Fa) (σ:St) (H:Hp) (Q:Bool->Hp->Prop),Qa X f σ H s->t σ H Q->wpAny (Ia X.prog X.w) X.A (Uf e X.env (Lb e X.env)) (TP X f σ Q) X.xe s
def PW  (X:Cx)(e:Na)(t:TT):Prop:=
 ∀(f:Sem Da) (pins:List (Ea×Obj)) (s:Fa) (σ:St) (H:Hp) (Q:Bool->Hp->Prop),Qa X pins σ H s->t σ H Q->wpAny (Ia X.prog X.w) X.A (Uf e X.env f) (TP X pins σ Q) X.xe s
def PW.pt     (h:PW X e t):PT X e t:=h _
def PA  (X:Cx)(j:List Na)(t:TA):Prop:=
 ∀(f:Pos) (pins:List (Ea×Obj)) (s:Fa) (σ:St) (H:Hp) (Q:List V->Hp->Prop),Qa X pins σ H s->t σ H Q->wpAny (Ia X.prog X.w) X.A (spliced (Xc f (Kd j X.env))) (AP X pins σ Q) X.xe s
def PS  (X:Cx)(st:Va)(t:TS):Prop:=
 ∀(f:List (Ea×Obj)) (s:Fa) (σ:St) (H:Hp) (D:Ends),Qa X f σ H s->t D σ H->wpAny (Ia X.prog X.w) X.A (exec st X.env) (SP X f D) X.xe s
def Sf  (X:Cx)(st:List Va)(t:TS):Prop:=
 ∀(f:List (Ea×Obj)) (s:Fa) (σ:St) (H:Hp) (D:Ends),Qa X f σ H s->t D σ H->wpAny (Ia X.prog X.w) X.A (execs st X.env) (SP X f D) X.xe s
def Wb    {Q f:α->Fa->Prop}(h:wpAny M A t Q E s)(j:∀a s,Q a s->f a s):wpAny M A t f E s:=Xf h j λ_ _ x=>x
section
variable {X:Cx}

def tVar  (i:Nat):TE:=λf H Q=>∃v,f[i]?=ma (ma v)/\Q v H
def tC  (v:V):TE:=λ_ H Q=>Q v H
def NU {i:Nat}{x:Str}{pos:Pos}(R:X.N[i]?=ma x)(z:Ps X.env.scope x)(hd:(x==("__debug__" : Str))=Ca:=by decide)(q:(x==("__classdict__" : Str))=Ca:=by decide):PE X (.Name x pos) (tVar i):=by
 intro j s F H Q I h;obtain⟨v,e,h⟩:=h;obtain⟨m,J,y⟩:=I.loc;obtain⟨u,r,l⟩:=y i x v R e z;have f:EP X j F Q u s:=⟨v,H,I,r,h⟩;rcases l with⟨hk,O⟩|⟨hk,c,hc,hcell⟩
 ·exact Qp (wpAny_loadName_local I.ok.kind hk J O f) hd
 ·rcases hk with hk|hk
  ·exact Qp (wpAny_loadName_cell I.ok.kind hk hc hcell f) hd
  ·exact Qp (wpAny_loadName_free I.ok.kind hk hc hcell f q) hd
def GU   : PE X (.Constant (.int i) j pos) (tC (.int i)):=λ_ _ _ H _ I h=>wpAny_Constant_int ⟨.int i,H,I.tok _,⟨_,rfl⟩,h⟩
def gQ   : PE X (.Constant (.bool b) j pos) (tC (.bl b)):=λ_ _ _ H _ I h=>Constant_bool ⟨.bl b,H,I,rfl,h⟩
def JU   : PE X (.Constant .none j pos) (tC .non):=λ_ _ _ H _ I h=>Constant_none ⟨.non,H,I,rfl,h⟩
def LU   : PE X (.Constant (.str x) j pos) (tC (.str x)):=λ_ _ _ H _ I h=>Calls.Constant_str ⟨.str x,H,I.tok _,⟨_,rfl⟩,h⟩

def Gl  (X:Cx)(x:Str):Prop:=X.env.kindOf x=ma .globalImplicit
section
variable {E:Da->Fa->Prop}{pins:List (Ea×Obj)}{s:Fa}{σ:St}{H:Hp}{x:Str}{u:Da}{pos:Pos}{Q:Da->Fa->Prop}
def dA (I:Qa X pins σ H s)(j:Gl X x)(f:X.mg x=ma u)(h:Q u s)
  (hd:(x==("__debug__" : Str))=Ca:=by decide):wpAny (Ia X.prog X.w) X.A (Lb (.Name x pos) X.env) Q E s:=
 mM I.ok.kind j (Calls.loadGlobal_global (by rw[I.ok.glob];exact I.mod.glob.keeps I.bk) f h) hd
def Qm (I:Qa X pins σ H s)(y:Gl X x)(z:X.mg x=Aa)(f:Rj x=ma u)(h:Q u s)
  (q:x ≠ "__name__" := by decide) (hd:(x==("__debug__" : Str))=Ca:=by decide):wpAny (Ia X.prog X.w) X.A (Lb (.Name x pos) X.env) Q E s:=by
 obtain⟨J,j,F⟩:=I.mod.blt;exact mM I.ok.kind y (Calls.loadGlobal_builtin (by rw[I.ok.glob];exact I.mod.glob.keeps I.bk) z (by rw[I.ok.blt];exact j.keeps I.bk) ((F x q).trans f) h) hd
end
section
variable {x:Str}{v:V}{u:Da}{pos:Pos}
def SW (j:Gl X x)(f:X.mg x=ma u)(r:RelV v u)(hd:(x==("__debug__" : Str))=Ca:=by decide):PE X (.Name x pos) (tC v):=
 λ_ _ _ H _ I h=>dA I j f ⟨v,H,I,r,h⟩ hd
def OW (y:Gl X x)(f:X.mg x=Aa)(q:Rj x=ma u)(r:RelV v u)(j:x ≠ "__name__" := by decide)(hd:(x==("__debug__" : Str))=Ca:=by decide):PE X (.Name x pos) (tC v):=
 λ_ _ _ H _ I h=>Qm I y f q ⟨v,H,I,r,h⟩ j hd

end
def tB  (t:TE):TT:=λf H Q=>t f H λx H1=>∃c,x=.bl c/\Q c H1

def tAnd  (t u:TT):TT:=λf H Q=>t f H λc H1=>if c=ua then u f H1 Q else Q Ca H1
def lN  (t u:TT):TT:=λf H Q=>t f H λc H1=>if c=ua then Q ua H1 else u f H1 Q
def tNot  (t:TT):TT:=λf H Q=>t f H λc H1=>Q (!c) H1
def pw_and1  (q:PT X a y):PW X (.BoolOp .And [a] pos) y:=by
 intro z f s j H Q I h;refine isTrue_and (Wb (q f s j H Q I h) λc s1 e=>?_);cases c with
 |true=>exact isTrue_and_nil e
 |false=>exact e
def pw_or1  (q:PT X a y):PW X (.BoolOp .Or [a] pos) y:=by
 intro z f s j H Q I h;refine isTrue_or (Wb (q f s j H Q I h) λc s1 e=>?_);cases c with
 |false=>exact isTrue_or_nil e
 |true=>exact e
def pw_and  {rest: List Na}(z:PT X a O)(J:PW X (.BoolOp .And (b::rest) pos) j):PW X (.BoolOp .And (a::b::rest) pos) (tAnd O j):=by
 intro F f s q H Q I h;refine isTrue_and (Wb (z f s q H _ I h) λc s1 ⟨H1,y,q1⟩=>?_);cases c with
 |true=>exact J F f s1 q H1 Q y q1
 |false=>exact⟨H1,y,q1⟩
def pw_or  {rest: List Na}(z:PT X a O)(J:PW X (.BoolOp .Or (b::rest) pos) j):PW X (.BoolOp .Or (a::b::rest) pos) (lN O j):=by
 intro F f s q H Q I h;refine isTrue_or (Wb (z f s q H _ I h) λc s1 ⟨H1,y,q1⟩=>?_);cases c with
 |true=>exact⟨H1,y,q1⟩
 |false=>exact J F f s1 q H1 Q y q1
def sU  (y:PT X a j):PT X (.UnaryOp .Not a pos) (tNot j):=by
 intro f s q H Q I h;exact isTrue_not (y f s q H (λc H1=>Q (!c) H1) I h)
def OE    (h:PE X a t):PE X (.BoolOp op [a] pos) t:=λf s q H Q I j=>BoolOp_one (h f s q H Q I j)
def nN  (t:TT)(j tb:TE):TE:=λf H Q=>t f H λc H1=>if c=ua then j f H1 Q else tb f H1 Q
def rY   (y:PT X c J)(z:PE X a ta)(F:PE X b tb):PE X (.IfExp c a b pos) (nN J ta tb):=by
 intro f s j H Q I h;refine wpAny_IfExp (Wb (y f s j H _ I h) λd s1 ⟨H1,q,q1⟩=>?_);cases d with
 |true=>exact z f s1 j H1 Q q q1
 |false=>exact F f s1 j H1 Q q q1
end

def re  (K:Sb)(H:Hp)(a:Ea)(xs:List V):Prop:=
 Rd H a (.lst xs)\/
  ∃(o:Obj) (its:Array Da) (n:Nat),K.lookup a=ma o/\o.cls=.type "list" /\ o.dict=Aa/\o.data=.seq its n/\its.size<=Fb/\Vals xs its.toList
def Qd  (K:Sb)(H:Hp)(a:Ea)(xs:List V):Prop:=
 Rd H a (.tup xs)\/
  ∃(o:Obj) (its:Array Da) (n:Nat),K.lookup a=ma o/\o.cls=.type "tuple" /\ o.data=.seq its n/\its.size<=Fb/\Vals xs its.toList
noncomputable def absV  : Da->Option V
 |.none=>ma .non
 |.bool b=>ma (.bl b)
 |.int i _=>ma (.int i)
 |.str x _=>ma (.str x)
 |.bytes b _=>ma (.byt b)
 |.float b _=>ma (.flt b)
 |.ref a=>ma (.ref a)
 |.type n=>ma (.ty n)
 |_=>Aa
def RelV.abs    (r:RelV x u):absV u=ma x:=by
 cases x with
 |non=>cases r;rfl
 |bl _=>cases r;rfl
 |int _=>obtain⟨t,rfl⟩:=r;rfl
 |str _=>obtain⟨t,rfl⟩:=r;rfl
 |byt _=>obtain⟨t,rfl⟩:=r;rfl
 |flt _=>obtain⟨t,rfl⟩:=r;rfl
 |ref _=>cases r;rfl
 |ty _=>cases r;rfl
def RelV.inj    (r:RelV x u)(q:RelV y u):x=y:=Hd (r.abs.symm.trans q.abs)
theorem Vals.inj  : ∀{xs ys } {us },Vals xs us->Vals ys us->xs=ys
 |_,_,_,.nil,.nil=>rfl
 |_,_,_,.cons r t,.cons r' t'=>by rw[r.inj r',Vals.inj t t']

def re.of  {K:Sb}(h:H a=ma (.lst xs)):re K H a xs:=.inl (.inl h)
def Qd.of  {K:Sb}(h:H a=ma (.tup xs)):Qd K H a xs:=.inl (.inl h)
def Qa.list  {j: St}(I:Qa X pins j H s)(h:re X.K H a xs):∃f ,Vals xs f/\Zp s.heap a f.toArray/\xs.length<=Fb:=by
 rcases h with h|⟨o,f,n,hk,hc,hd,hs,hz,r⟩
 ·obtain⟨z,f,n,r,e⟩:=h.ok I.hok;exact⟨f,r,⟨_,n,e,rfl,rfl,rfl⟩,z⟩
 ·refine⟨f.toList,r,⟨o,n,I.kIn a o hk,hc,hd,by simpa using hs⟩,?_⟩
  have e:=r.length;simp only[cg]at e
  lia
def Qa.tuple  {j: St}(I:Qa X pins j H s)(h:Qd X.K H a xs):∃f ,Vals xs f/\aj s.heap a f.toArray/\xs.length<=Fb:=by
 rcases h with h|⟨o,f,n,hk,hc,hs,hz,r⟩
 ·obtain⟨z,f,r,p⟩:=h.ok I.hok;exact⟨f,r,p.tup,z⟩
 ·refine⟨f.toList,r,⟨o,I.kIn a o hk,hc,n,by simpa using hs⟩,?_⟩
  have e:=r.length;simp only[cg]at e
  lia
def Qa.list_inj  {F: St}(I:Qa X pins F H s)(h:re X.K H a xs)(h':re X.K H a ys):xs=ys:=by
 obtain⟨j,r,⟨o,n,e,_,_,d⟩,_⟩:=I.list h;obtain⟨f,z,⟨O,J,q,_,_,y⟩,_⟩:=I.list h';rw[e]at q;cases q;rw[d]at y;injection y with d1 _
 have:j=f:=by simpa using congrArg Array.toList d1
 subst this;exact r.inj z
def Qa.tuple_inj  {F: St}(I:Qa X pins F H s)(h:Qd X.K H a xs)(h':Qd X.K H a ys):xs=ys:=by
 obtain⟨j,r,⟨o,e,_,n,d⟩,_⟩:=I.tuple h;obtain⟨f,z,⟨O,q,_,J,y⟩,_⟩:=I.tuple h';rw[e]at q;cases q;rw[d]at y;injection y with d1 _
 have:j=f:=by simpa using congrArg Array.toList d1
 subst this;exact r.inj z

noncomputable abbrev Cx.wish  (X:Cx)(E:Da->Fa->Prop):Cx:={ X with xe:=E }
def Cx.Ok.wish  {X:Cx}(ok:X.Ok) E:(X.wish E).Ok:=
 ⟨ok.mod,ok.kind,ok.glob,ok.blt,ok.above,ok.inj,ok.has,ok.cab,ok.hd,ok.frames,ok.stk,ok.exf,ok.bs,ok.bsz,ok.noex,ok.exfs,ok.funs,ok.frf⟩
def Cx.Ok.unwish  {X:Cx}(ok:(X.wish E).Ok):X.Ok:=
 ⟨ok.mod,ok.kind,ok.glob,ok.blt,ok.above,ok.inj,ok.has,ok.cab,ok.hd,ok.frames,ok.stk,ok.exf,ok.bs,ok.bsz,ok.noex,ok.exfs,ok.funs,ok.frf⟩
section
variable {X:Cx}{pins:List (Ea×Obj)}{σ:St}{H:Hp}{s:Fa}{E:Da->Fa->Prop}
def Qa.wish  (I:Qa X pins σ H s) E:Qa (X.wish E) pins σ H s:=⟨I.ok.wish E,I.os,I.bare,I.base,I.loc,I.cell,I.free,I.freeC,I.pin,I.hok,I.len⟩
def Qa.unwish  (I:Qa (X.wish E) pins σ H s):Qa X pins σ H s:=⟨I.ok.unwish,I.os,I.bare,I.base,I.loc,I.cell,I.free,I.freeC,I.pin,I.hok,I.len⟩
theorem SP.unwish     (h:SP (X.wish E) pins D f s'):SP X pins D f s':=by
 cases f with
 |next=>obtain⟨j,y,I,q⟩:=h;exact⟨j,y,I.unwish,q⟩
 |brk=>obtain⟨j,y,I,q⟩:=h;exact⟨j,y,I.unwish,q⟩
 |cont=>obtain⟨j,y,I,q⟩:=h;exact⟨j,y,I.unwish,q⟩
 |ret u=>obtain⟨v,j,y,I,r,q⟩:=h;exact⟨v,j,y,I.unwish,r,q⟩
end

section
variable {X:Cx}{st:Va}{rest:List Va}{t u:TS}{e:Na}{te:TE}{pos:Pos}
def LR  : TS:=λD f H=>D.nx f H
def tSeq  (t u:TS):TS:=λD f H=>t { D with nx:=u D } f H
def uW  : Sf X [] LR:=λ_ _ f H _ I h=>qC ⟨f,H,I,h⟩
def RX  (z:PS X st t)(R:Sf X rest u):Sf X (st::rest) (tSeq t u):=by
 intro j s J H D I h;refine wpAny_execs_cons (Wb (z j s J H { D with nx:=u D } I h) λf s1 q=>?_)
 cases f with
 |next=>
  obtain⟨y,O,F,q⟩:=q;exact R j s1 y O D F q
 |ret v=>exact q
 |brk=>exact q
 |cont=>exact q
def Qa.quiet   {f:St}(I:Qa X pins f H s):interactive X.env=Ca:=by simp[interactive,I.ok.kind]
def KR  (j:TE):TS:=λD f H=>j f H λ_ H1=>D.nx f H1
def tW (q:PE X e te)(hs:ij e Aa pos.line X.env=pure Ca:=by rfl):PS X (.Expr e pos) (KR te):=by
 intro f s j H D I h;exact wpAny_Expr_any (Wb (q f s j H _ I h) λv s1 ⟨x,H1,y,r1,q1⟩=>⟨j,H1,y,q1⟩) I.quiet hs
def tRet  (j:TE):TS:=λD f H=>j f H D.rt
def pU  (y:PE X e te):PS X (.Return (ma e) pos) (tRet te):=by
 intro f s j H D I h;exact wpAny_Return_some (Wb (y f s j H _ I h) λv s1 ⟨x,H1,q,r1,q1⟩=>⟨x,j,H1,q,r1,q1⟩)
def tIfS  (c:TT)(t u:TS):TS:=λD f H=>c f H λb H1=>if b=ua then t D f H1 else u D f H1
def dS     (y:PT X c tc)(z:Sf X a t)(F:Sf X b u):PS X (.If c a b pos) (tIfS tc t u):=by
 intro f s j H D I h;refine wpAny_If (Wb (y f s j H _ I h) λd s1 ⟨H1,q,q1⟩=>?_);cases d with
 |true=>exact z f s1 j H1 D q q1
 |false=>exact F f s1 j H1 D q q1
end

abbrev TG:=V->St->Hp->(St->Hp->Prop)->Prop
abbrev Bl:=List V->St->Hp->(St->Hp->Prop)->Prop
def PG  (X:Cx)(f:Na)(t:TG):Prop:=
 ∀(j:List (Ea×Obj)) (s:Fa) (σ:St) (H:Hp) (v:V) (u:Da) (Q:St->Hp->Prop),Qa X j σ H s->RelV v u->t v σ H Q->
  wpAny (Ia X.prog X.w) X.A (Yc f X.env u) (λ_ z=>∃q y,Qa X j q y z/\Q q y) X.xe s
def Di  (X:Cx)(ts:List Na)(t:Bl):Prop:=
 ∀(f:List (Ea×Obj)) (s:Fa) (σ:St) (H:Hp) (vs:List V) (us:List Da) (Q:St->Hp->Prop),Qa X f σ H s->Vals vs us->t vs σ H Q->
  wpAny (Ia X.prog X.w) X.A (UB ((Qg ts X.env).map (·.2)) us) (λ_ y=>∃j q,Qa X f j q y/\Q j q) X.xe s
abbrev TSet:=V->V->V->Hp->(Hp->Prop)->Prop
def PSet  (X:Cx)(t:TSet):Prop:=
 ∀(f:List (Ea×Obj)) (s:Fa) (σ:St) (H:Hp) (o i v:V) (ov iv u:Da) (Q:Hp->Prop),Qa X f σ H s->RelV o ov->RelV i iv->RelV v u->t o i v H Q->
  wpAny (Ia X.prog X.w) X.A (zj ov iv u) (λ_ q=>∃j,Qa X f σ j q/\Q j) X.xe s
abbrev ux:=V->V->Hp->VK->Prop
def XM  (X:Cx)(j:cn)(t:ux):Prop:=
 ∀(f:List (Ea×Obj)) (s:Fa) (σ:St) (H:Hp) (x y:V) (v u:Da) (Q:VK),Qa X f σ H s->RelV x v->RelV y u->t x y H Q->
  wpAny (Ia X.prog X.w) X.A (Yo j v u) (EP X f σ Q) X.xe s
section
variable {X:Cx}{pos:Pos}
def uq  (i:Nat):TG:=λv f H Q=>Q (f.set i (ma v)) H
def VW {i:Nat}{x:Str}(z:X.N.Nodup)(hi:X.N[i]?=ma x)(y:Tn X.env.scope x)(j:X.fn x=ua\/X.env.scope.names.lookup x=ma .local:=by first|exact .inl rfl|exact .inr rfl|assumption):PG X (.Name x pos) (uq i):=by
 intro f s J H v u Q I r h;exact wpAny_assign_Name (sv I z hi y r (λF q=>⟨_,H,q,h⟩) j)
def gNil  : Bl:=λf j H Q=>f=[]/\Q j H
def LP  (t:TG)(u:Bl):Bl:=λj q H Q=>∃v r,j=v::r/\t v q H λf y=>u r f y Q
def WW  : Di X [] gNil:=by
 intro f s j H y q Q I r h;obtain⟨e,h⟩:=h;subst e;cases r;exact assignInOrder_nil ⟨j,H,I,h⟩
def JX {e:Na}{j:List Na}{t:TG}{u:Bl}(y:PG X e t)(O:Di X j u)
  (hs:(Qg (e::j) X.env).map (·.2)=Yc e X.env::(Qg j X.env).map (·.2):=by rfl):Di X (e::j) (LP t u):=by
 intro f s z H Z R Q I r h;obtain⟨v,Y,J,h⟩:=h;subst J;cases r with
 |cons r rr=>
  rw[hs];refine fC (Wb (y f s z H _ _ _ I r h) λ_ s1 ⟨q,H1,F,q1⟩=>?_);exact O f s1 q H1 _ _ Q F rr q1
def gTup  (K:Sb)(n:Nat)(t:Bl):TG:=λv j H Q=>∃a f,v=.ref a/\Qd K H a f/\f.length=n/\t f j H Q
def iU {j:List Na}{k:Nat}{t:Bl}{n:Nat}(Y:X.calm=ua)(h:Di X j t)
  (Z:(Qg j X.env).length=n:=by rfl) (y:(Qg j X.env).findIdx? (·.1)=Aa:=by rfl):PG X (.Tuple j k pos) (gTup X.K n t):=by
 intro f s z H v u Q I r q;obtain⟨a,xs,e1,R,J,q⟩:=q;subst e1;cases r;obtain⟨O,F,ht,hz⟩:=I.tuple R;refine assign_Tuple_tuple (I.ok.hd Y) ht (by simp[Z,<- J,F.length]) y λh' hx=>?_
 have I1:Qa X f z H { s with heap:=h' }:=I.kept (t':=s.toks) λb o e=>hx b o (Sd (Jc e)) e
 exact h f _ z H xs _ Q I1 (by simpa using F) q
def gSub  (q j:TE)(t:TSet):TG:=λv f H Q=>q f H λo H1=>j f H1 λi H2=>t o i v H2 λy=>Q f y
def gU {o i:Na}{F J:TE}{t:TSet}(O:PE X o F)(hi:PE X i J)(hs:PSet X t)
  (Z:∀v,Yc (.Subscript o i pos) X.env v=(do
   let j <- Hc [v] (Lb o X.env)
   let q <- Hc [v,j] (Lb i X.env)
   Gd pos
   Hc [v,j,q] (zj j q v)
   release [v,j,q] []):=by intro _;rfl):PG X (.Subscript o i pos) (gSub F J t):=by
 intro f s z H v u Q I r h;rw[Z];refine Ua (Hh (Wb (O f s z H _ I h) λj s1 ⟨x,H1,R,r1,q1⟩=>?_));refine Ua (Hh (Wb (hi f s1 z H1 _ R q1) λq s2 ⟨y,H2,I2,r2,q2⟩=>?_));refine Ua (bp (Ua (Hh (Wb (hs f s2 z H2 x y v j q u _ I2 r1 r2 r q2) λ_ s3 ⟨H3,Y,q3⟩=>?_))));exact wpAny_release ⟨z,H3,Y,q3⟩
def tAsg  (j:TE)(g:TG):TS:=λD f H=>j f H λx H1=>g x f H1 D.nx
def QE {j e:Na}{y:TE}{g:TG}(F:PE X e y)(R:PG X j g)(hs:Vj [j] e pos.line X.env=pure Ca:=by rfl)(J:Ti [j] e X.env=pure Aa:=by rfl)
  (O:(Qg [j] X.env).map (·.2)=[Yc j X.env]:=by rfl):PS X (.Assign [j] e pos) (tAsg y g):=by
 intro f s z H D I h;refine wpAny_Assign_stores (Wb (F f s z H _ I h) λv s1 ⟨x,H1,Y,r1,q1⟩=>?_) hs J;rw[O];exact Wb (R f s1 z H1 x v _ Y r1 q1) λ_ s2 q=>q
def tPar  (i j:Nat)(y:TA):TS:=λD f H=>y f H λq H1=>∃v w,q=[v,w]/\D.nx ((f.set i (ma v)).set j (ma w)) H1
def oU {i j:Nat}{x y:Str}{a b:Na}{ta:TA}{Z py pt:Pos}{R Y z}(hc:X.calm=ua)(hN:X.N.Nodup)(hi:X.N[i]?=ma x)(hj:X.N[j]?=ma y)(za:i≠j)
  (hx:X.env.scope.names.lookup x=ma .local) (hy:X.env.scope.names.lookup y=ma .local) (ha:PA X [a,b] ta)
  (hw:Ti [.Tuple [.Name x Z,.Name y py] R pt] (.Tuple [a,b] Y z) X.env=pure (ma [x,y]))
  (hs:Vj [.Tuple [.Name x Z,.Name y py] R pt] (.Tuple [a,b] Y z) pos.line X.env=pure Ca:=by rfl) :
  PS X (.Assign [.Tuple [.Name x Z,.Name y py] R pt] (.Tuple [a,b] Y z) pos) (tPar i j ta):=by
 intro f s σ H D I h;rw[exec_Assign_arm];refine Ua (bp ?_);rw[hs];refine Ua (Kb ?_);rw[if_neg (by decide)]
 refine Ua (Tuple_ (Wb (ha _ f s σ H _ I h) λus s1 ⟨vs,H1,I1,r1,q1⟩=>?_));obtain⟨v,w,e1,q1⟩:=q1;subst e1;obtain⟨J,F,rfl,rv,xa⟩:∃J F,us=[J,F]/\RelV v J/\RelV w F:=by
  cases r1 with
  |cons p q=>
   cases q with
   |cons p' q'=>
    cases q';exact⟨_,_,rfl,p,p'⟩
 refine yh ?_ (by show 2<=Fb;decide)
 have I2:Qa X f σ H1 { s1 with heap:=s1.heap.push { cls:=.type "tuple",data:=.seq [J,F].toArray } }:=I1.kept (t':=s1.toks) λb o e=>Dc _ e
 rw[hw];refine Ua (Kb ?_);show wpAny (Ia X.prog X.w) X.A (do Dx "assign.swapped-stores";let items <- unpackItems (.ref s1.heap.objs.size) 2 Aa;UB [λv=>Ol X.env y v,λv=>Ol X.env x v] items.reverse;pure Flow.next) _ _ _
 refine Ua (ci (Ua (unpackItems_tuple (items:=#[J,F]) (I.ok.hd hc) (aj.new s1.heap _) λh' O=>?_)));have I3:=I2.kept (h':=h') (t':=s1.toks) λb o e=>O b o (Sd (Jc e)) e;show wpAny _ _ (UB [λv=>Ol X.env y v,λv=>Ol X.env x v] [F,J] >>= λ_=>pure Flow.next) _ _ _
 refine Ua (fC (wpAny_bindName (sv I3 hN hj (.inl hy) xa (λs2 I4=>?_) (.inr hy))));refine fC (wpAny_bindName (sv I4 hN hi (.inl hx) rv (λs3 I5=>assignInOrder_nil (Kb ?_)) (.inr hx)));rw[List.set_comm _ _ (Ta za)]at I5;exact⟨_,H1,I5,q1⟩
def tAug  (i:Nat)(q:TE)(j:ux):TS:=λD f H=>∃x,f[i]?=ma (ma x)/\q f H λy H1=>j x y H1 λz H2=>D.nx (f.set i (ma z)) H2
def lU {i:Nat}{x:Str}{e:Na}{Y:TE}{J:cn}{ti:ux}{q:Pos}(hN:X.N.Nodup)(hi:X.N[i]?=ma x)(O:Tn X.env.scope x)(he:PE X e Y)(ho:XM X J ti)(hf:X.fn x=ua\/X.env.scope.names.lookup x=ma .local:=by first|exact .inl rfl|exact .inr rfl|assumption) :
  PS X (.AugAssign (.Name x q) J e pos) (tAug i Y ti):=by
 intro f s Z H D I h;obtain⟨v,e1,h⟩:=h;obtain⟨m,hn,hl⟩:=I.loc;have vis:Ps X.env.scope x:=by rcases O with k|k;exact .inl k;exact .inr (.inl k)
 obtain⟨u,r,l⟩:=hl i x v hi e1 vis;refine wpAny_AugAssign_Name ?_;have R:wpAny (Ia X.prog X.w) X.A (Lb e X.env) (λw F=>wpAny (Ia X.prog X.w) X.A (Yo J u w) (λr j=>wpAny (Ia X.prog X.w) X.A (Ax X.env x r) (λ_=>SP X f D .next) X.xe j) X.xe F) X.xe s:=by
  refine Wb (he f s Z H _ I h) λw s1 ⟨y,H1,I1,r1,q1⟩=>?_;refine Wb (ho f s1 Z H1 v y u w _ I1 r r1 q1) λz s2 ⟨zv,H2,I2,r2,q2⟩=>?_;exact sv I2 hN hi O r2 (λs3 I3=>⟨_,H2,I3,q2⟩) hf
 rcases l with⟨hk,hm⟩|⟨hk,c,hc,hcell⟩
 ·exact wpAny_loadName_local I.ok.kind hk hn hm R
 ·rcases hk with hk|hk
  ·exact wpAny_loadName_cell I.ok.kind hk hc hcell R
  ·rcases O with k|k
   ·have:X.env.scope.names.lookup x=ma .free:=hk;rw[k]at this;cases this
   ·have:X.env.scope.names.lookup x=ma .free:=hk;rw[k]at this;cases this
def PGet  (X:Cx)(t:V->V->Hp->VK->Prop):Prop:=
 ∀(f:List (Ea×Obj)) (s:Fa) (σ:St) (H:Hp) (o i:V) (ov iv:Da) (Q:VK),Qa X f σ H s->RelV o ov->RelV i iv->t o i H Q->
  wpAny (Ia X.prog X.w) X.A (Td ov iv) (EP X f σ Q) X.xe s
end


def OT  (c:TT)(tb:TS):TS:=λD f H=>∃W:Nat->St->Hp->Prop,(∃m,W m f H)/\∀m f H,W m f H->
 c f H λb H1=>if b=ua then ∃N:St->Hp->Prop,(∀j q,N j q->∃y,y<m/\W y j q)/\tb { D with nx:=N,ct:=N,bk:=D.nx } f H1 else D.nx f H1
def QX      (hp:Nk (Ia X.prog X.w) X.A X.env X.xe)(hc:PT X c tc)(hb:Sf X body tb):PS X (.While c body [] pos) (OT tc tb):=by
 intro j s σ H D I h;obtain⟨W,⟨m0,w0⟩,z⟩:=h;refine wpAny_While (codeAny_whileLoop (λn s'=>∃y H',Qa X j y H' s'/\W n y H') ?_ m0 ⟨σ,H,I,w0⟩);rintro n s1 ⟨σ1,H1,I1,w1⟩;refine zn hp (Wb (hc j s1 σ1 H1 _ I1 (z n σ1 H1 w1)) λb s2 ⟨H2,I2,q2⟩=>?_);cases b with
 |true=>
  obtain⟨N,hN,q2⟩:=q2;rw[if_pos rfl];refine zn hp (Wb (hb j s2 σ1 H2 _ I2 q2) λf s3 q3=>?_);cases f with
  |next=>
   obtain⟨q,F,O,Z⟩:=q3;obtain⟨J,Y,R⟩:=hN q F Z;exact⟨J,Y,q,F,O,R⟩
  |cont=>
   obtain⟨q,F,O,Z⟩:=q3;obtain⟨J,Y,R⟩:=hN q F Z;exact⟨J,Y,q,F,O,R⟩
  |brk=>exact q3
  |ret v=>exact q3
 |false=>
  rw[if_neg Pd];exact qC ⟨σ1,H2,I2,q2⟩

structure It where
 go:Nat->Hp->Prop
 yld:Nat->Hp->V->Hp->Prop
 stop:Nat->Hp->Prop
def FpOk  (X:Cx)(pins:List (Ea×Obj))(H:Hp)(b:Ea):Prop:=
 H b=Aa/\b≠X.env.locals/\b∉X.fs/\(b∈X.ex\/X.s₀.heap.objs.size<=b)/\(∀x c,X.env.cells.lookup x=ma c->c≠b)/\∀p∈X.pn++pins,p.1≠b
def Qa.fpOk    {y:St}{b:Ea}(I:Qa X pins y H s)(f:s.heap.objs.size<=b)(F:H' b=Aa):FpOk X pins H' b:=by
 refine⟨F,vp (Lf I.lt f),I.nofs f,.inr (Yb I.sz f),λx c e z=>?_,λp j z=>?_⟩
 ·obtain⟨v,q⟩:=I.cell x c e;exact absurd (Lf q.lt (by rw[z];exact f)) (qj _)
 ·exact absurd (Lf (Jc (I.pin p j).1) (by rw[z];exact f)) (qj _)
structure Turn (P:Ab)(w:Za)(K:Sb)(tg:Na)(J:It)(fp:List Ea)(it:Ea)(tn:Nat->Cb->Prop):Prop where
 mem:it∈fp
 obj:∀i h,tn i h->∀b∈fp,∃o,h.get? b=ma o/\∀v,o.data≠.cell v
 keep:∀i h h',tn i h->(∀b∈fp,∀o,h.get? b=ma o->h'.get? b=ma o)->tn i h'
 item:∀(X:Cx),X.prog=P->X.w=w->X.K=K->X.calm=ua->∀(i:Nat) (pins:List (Ea×Obj)) (s:Fa) (σ:St) (H:Hp) (E:Da->Fa->Prop),Qa X pins σ H s->(∀b∈fp,FpOk X pins H b)->tn i s.heap->J.go i H->
  wpAny (Ia P w) X.A (bf (.ref it)) (λr s1=>∃u,r=ma u/\
   wpAny (Ia P w) X.A (Kr tg (.ref it) u) (λ_ s2=>∃x H',Qa X pins σ H' s2/\RelV x u/\J.yld i H x H'/\tn (i+1) s2.heap/\∀b∈fp,H' b=Aa) E s1) E s
 done:∀(X:Cx),X.prog=P->X.w=w->X.K=K->X.calm=ua->∀(i:Nat) (pins:List (Ea×Obj)) (s:Fa) (σ:St) (H:Hp) (E:Da->Fa->Prop),Qa X pins σ H s->(∀b∈fp,FpOk X pins H b)->tn i s.heap->J.stop i H->
  wpAny (Ia P w) X.A (bf (.ref it)) (λr s1=>r=Aa/\Qa X pins σ H s1) E s
 self:∀(A:Nb) (i:Nat) (s:Fa) (Q:Da->Fa->Prop) (E:Da->Fa->Prop),tn i s.heap->Q (.ref it) s->wpAny (Ia P w) A (Xd (.ref it)) Q E s
abbrev TI:=St->Hp->(It->Hp->Prop)->Prop
def YM  (X:Cx)(pins:List (Ea×Obj))(y:St)(q:Na)(R:It->Hp->Prop)(f:Da)(s2:Fa):Prop:=
 ∃(j:Ea) (fp:List Ea) (tn:Nat->Cb->Prop) (J:It) (H':Hp),f=.ref j/\Qa X pins y H' s2/\Turn X.prog X.w X.K q J fp j tn/\tn 0 s2.heap/\(∀b∈fp,FpOk X pins H' b)/\R J H'
def PI  (X:Cx)(q j:Na)(y:TI):Prop:=
 ∀(f:List (Ea×Obj)) (s:Fa) (σ:St) (H:Hp) (R:It->Hp->Prop),Qa X f σ H s->y σ H R->
  wpAny (Ia X.prog X.w) X.A (Lb j X.env) (λv s1=>wpAny (Ia X.prog X.w) X.A (Xd v) (YM X f σ q R) X.xe s1) X.xe s

def nu             (j : s.heap.get? it = ma o)(y : o.cls = .type n)(hd : o.data = .fields vs)
    (q : ["enumerate", "zip", "dict_itemiterator", "dict_reverseitemiterator", "odict_iterator", "itertools.zip_longest", "itertools.pairwise"].contains n = Ca) (f : Q () s) : wpAny M A (Kr tg (.ref it) u) Q E s := by
  unfold Kr
  cases tg <;> first
    | exact Kb f
    | (cases u <;> first
        | exact Kb f
        | (refine Ua (Wv j ?_)
           rw [y, hd]
           show wpAny M A (if (["enumerate", "zip", "dict_itemiterator", "dict_reverseitemiterator", "odict_iterator", "itertools.zip_longest", "itertools.pairwise"].contains n && vs[0]? == ma (Wc _)) = ua then _ else _) Q E s
           rw [if_neg (by intro h; rw [q, Bool.false_and] at h; cases h)]
           exact Kb f))

noncomputable def aN  (K:Sb)(a:Ea):It:=
 ⟨λi H=>∃f x,re K H a f/\f[i]?=ma x,λi H x j=>j=H/\∀f,re K H a f->f[i]?=ma x,λi H=>∃f,re K H a f/\f.length<=i⟩
noncomputable def ZM  (K:Sb)(a:Ea):It:=
 ⟨λi H=>∃f x,Qd K H a f/\f[i]?=ma x,λi H x j=>j=H/\∀f,Qd K H a f->f[i]?=ma x,λi H=>∃f,Qd K H a f/\f.length<=i⟩
noncomputable def yx  (lo:Int)(n:Nat):It:=⟨λi _=>i<n,λi H x f=>f=H/\x=.int (lo+i),λi _=>n<=i⟩
def wZ    {K:Sb} a it:Turn P w K tg (aN K a) [it] it (λi h=>h.IsListIter it a i) where
 mem:=by simp
 obj:=λi h f b q=>by
  have e:b=it:=by simpa using q
  subst e;obtain⟨o,e,c,d⟩:=f;exact⟨o,e,λv z=>by rw[d]at z;cases z⟩
 keep:=λi h J f k=>f.at λo e=>k it (by simp) o e
 item:=by
  intro X hP R Y hc i j s σ H E I O f hg;subst hP R Y;obtain⟨xs,x,F,hx⟩:=hg;obtain⟨Z,rv,p,hz⟩:=I.list F;obtain⟨u,hu,ru⟩:=rv.get hx;obtain⟨f0,f1,f2,f3,f4,f5⟩:=O it (by simp)
  refine dL f p.isList (x:=u) (by simpa using hu) λJ y sb=>?_
  have I1:Qa X j σ H { s with heap:=J }:=I.turned (t':=s.toks) (λb o q e=>(sb.2 b q).trans e) f0 f1 f3 f4 f5
  obtain⟨o,e,c,d⟩:=id y;exact⟨u,rfl,nu (s:={ s with heap:=J }) e c d (by decide) ⟨x,H,I1,ru,⟨rfl,λys hy=>by rw[I.list_inj hy F];exact hx⟩,y,λb q=>(O b q).1⟩⟩
 done:=by
  intro X hP R Y hc i j s σ H E I O f hg;subst hP R Y;obtain⟨xs,F,hx⟩:=hg;obtain⟨Z,rv,p,hz⟩:=I.list F;obtain⟨f0,f1,f2,f3,f4,f5⟩:=O it (by simp)
  have hl:=rv.length;exact MK (I.ok.hd hc) f p.isList (by simp;lia) λJ eb=>⟨rfl,I.turned (t':=s.toks) (λb o q e=>eb b o q e) f0 f1 f3 f4 f5⟩
 self:=λ_ _ _ _ _ f h=>wpAny_pyIter_listiter f h
def NZ    {K:Sb} a it:Turn P w K tg (ZM K a) [it] it (λi h=>h.IsTupleIter it a i) where
 mem:=by simp
 obj:=λi h f b q=>by
  have e:b=it:=by simpa using q
  subst e;obtain⟨o,e,c,d⟩:=f;exact⟨o,e,λv z=>by rw[d]at z;cases z⟩
 keep:=λi h O f k=>f.at λo e=>k it (by simp) o e
 item:=by
  intro X hP Y Z hc i j s σ H E I R f hg;subst hP Y Z;obtain⟨xs,x,J,hx⟩:=hg;obtain⟨y,rv,p,hz⟩:=I.tuple J;obtain⟨u,hu,ru⟩:=rv.get hx;obtain⟨f0,f1,f2,f3,f4,f5⟩:=R it (by simp)
  refine ML f (show s.heap.IsTuple a y.toArray from p) (x:=u) (by simpa using hu) λO F sb=>?_
  have I1:Qa X j σ H { s with heap:=O }:=I.turned (t':=s.toks) (λb o q e=>(sb.2 b q).trans e) f0 f1 f3 f4 f5
  obtain⟨o,e,c,d⟩:=id F;exact⟨u,rfl,nu (s:={ s with heap:=O }) e c d (by decide) ⟨x,H,I1,ru,⟨rfl,λys hy=>by rw[I.tuple_inj hy J];exact hx⟩,F,λb q=>(R b q).1⟩⟩
 done:=by
  intro X hP Y Z hc i j s σ H E I R f hg;subst hP Y Z;obtain⟨xs,J,hx⟩:=hg;obtain⟨y,rv,p,hz⟩:=I.tuple J;obtain⟨f0,f1,f2,f3,f4,f5⟩:=R it (by simp)
  have hl:=rv.length;exact fL (I.ok.hd hc) f (show s.heap.IsTuple a y.toArray from p) (by simp;lia) λO eb=>⟨rfl,I.turned (t':=s.toks) (λb o q e=>eb b o q e) f0 f1 f3 f4 f5⟩
 self:=λ_ _ _ _ _ f h=>wpAny_pyIter_tupleiter f h
def MZ    {K:Sb} it lo n:Turn P w K tg (yx lo n) [it] it (λi h=>IsRangeIter h it (lo+(i:Nat)*1) ((n:Int)-(i:Nat)) 1) where
 mem:=by simp
 obj:=λi h f b q=>by
  have e:b=it:=by simpa using q
  subst e;exact⟨_,f,λv z=>by
   have z':Data.fields _=Data.cell v:=z;cases z'⟩
 keep:=λi h F f k=>k it (by simp) _ f
 item:=by
  intro X hP O R hc i j s σ H E I J f hg;subst hP O R;obtain⟨f0,Y,f2,f3,Z,f5⟩:=J it (by simp)
  have W:=Walks.range (prog:=X.prog) (w:=X.w) (I.ok.hd hc) it lo 1 n;refine W.item i s _ _ hg f λv F tk hv y kk=>?_;obtain⟨t,rfl⟩:=hv;have I1:Qa X j σ H { s with heap:=F,toks:=tk }:=I.turned (λb o q e=>kk b o (by simpa using q) e) f0 Y f3 Z f5
  refine⟨_,rfl,nu (s:={ s with heap:=F,toks:=tk }) (n := "range_iterator") y rfl rfl (by decide) ⟨.int (lo+i),H,I1,⟨t,?_⟩,⟨rfl,rfl⟩,y,λb q=>(J b q).1⟩⟩
  rw[Int.mul_one]
 done:=by
  intro X hP O R hc i j s σ H E I J f hg;subst hP O R;obtain⟨f0,Y,f2,f3,Z,f5⟩:=J it (by simp)
  exact wpAny_pyNext_range_end (I.ok.hd hc) f (by have:n<=i:=hg;lia) λF eb=>⟨rfl,I.turned (t':=s.toks) (λb o q e=>eb b o q e) f0 Y f3 Z f5⟩
 self:=λ_ _ _ _ _ f h=>wpAny_pyIter_rangeiter f h
section
variable {X:Cx}{tg:Na}
def WX   {f:St}{lo hi:Int}(I:Qa X pins f H s)(z:-(2 ^ 62)<=lo)(Z:lo<2 ^ 62)(O:-(2 ^ 62)<=hi)(Y:hi<2 ^ 62)
  (q:R (yx lo (hi-lo).toNat) H):wpAny (Ia X.prog X.w) X.A (Xd (.ref s.heap.objs.size)) (YM X pins f tg R) E { s with heap:=s.heap.push { cls:=.type "range",data:=.fields #[.int lo t,.int hi u,.int 1 v] },toks:=tk }:=by
 refine wpAny_pyIter_range (IsRange.new ..) (small_one z Z O Y) ?_;have j:Qa X pins f H { s with heap:=s.heap.push { cls:=.type "range",data:=.fields #[.int lo t,.int hi u,.int 1 v] },toks:=tk }:=I.kept λb o e=>Dc _ e
 refine⟨(s.heap.push { cls:=.type "range",data:=.fields #[.int lo t,.int hi u,.int 1 v] }).objs.size,[(s.heap.push { cls:=.type "range",data:=.fields #[.int lo t,.int hi u,.int 1 v] }).objs.size],_,_,H,rfl,
  j.kept (t':=tk) λb o e=>Dc _ e,MZ _ lo (hi-lo).toNat,?_,λb F=>?_,q⟩
 ·have J:lo+((0:Nat):Int)*1=lo:=by simp
  have y:(((hi-lo).toNat:Nat):Int)-((0:Nat):Int)=Bb.Range.rangeSize lo hi 1:=by rw[rangeSize_one];split<;>lia
  show IsRangeIter _ _ (lo+((0:Nat):Int)*1) ((((hi-lo).toNat:Nat):Int)-((0:Nat):Int)) 1;rw[J,y];exact Wd _ rfl
 ·have e:b=(s.heap.push { cls:=.type "range",data:=.fields #[.int lo t,.int hi u,.int 1 v] }).objs.size:=by simpa using F
  subst e;exact j.fpOk (Mb _) (j.hok.fresh (Mb _))
def OP  (y:TA):TI:=λq H R=>y q H λf H1=>∃j:Int,f=[.int j]/\-(2 ^ 62)<=j/\j<2 ^ 62/\R (yx 0 j.toNat) H1
def FY {a:Na}{y:TA}{p pos:Pos}(F:Gl X "range")(Y:X.mg "range" = Aa)(O:PA X [a] y)(hs:Kd [a] X.env=[(Ca,Lb a X.env)]:=by rfl):PI X tg (.Call (.Name "range" p) [a] [] pos) (OP y):=by
 intro f s z H R I h;refine Call_ (Qm I F Y boot_range (qx (Wb (O pos f s z H _ I h) λZ s1 ⟨vs,H1,J,r1,q1⟩=>?_) hs rfl));obtain⟨j,e,q1,q2,q⟩:=q1;subst e;cases r1 with
 |cons r rr=>
  cases rr;obtain⟨t,rfl⟩:=r;exact call_range_1 (WX J (by lia) (by lia) q1 q2 (by simpa using q))
def tFor  (F:TI)(g:TG)(tb:TS):TS:=λD f H=>F f H λJ H1=>∃W:Nat->Nat->St->Hp->Prop,(∃m,W 0 m f H1)/\∀i m f H,W i m f H->
 (J.stop i H/\D.nx f H)\/(J.go i H/\∃N:St->Hp->Prop,(∀j q,N j q->∃z,z<m/\W (i+1) z j q)/\∀x q,J.yld i H x q->g x f q λy H2=>tb { D with nx:=N,ct:=N,bk:=D.nx } y H2)
noncomputable def xq  (f:List Ea)(h:Cb):List (Ea×Obj):=f.filterMap λb=>(h.get? b).map λo=>(b,o)
def Iv      (j:b∈f)(e:h.get? b=ma o):(b,o)∈xq f h:=List.mem_filterMap.mpr ⟨b,j,by rw[e];rfl⟩
def tY     (z:p∈xq f h):p.1∈f/\h.get? p.1=ma p.2:=by
 obtain⟨b,y,e⟩:=List.mem_filterMap.mp z;cases q:h.get? b with
 |none=>rw[q]at e;cases e
 |some o=>
  rw[q]at e;have j:(b,o)=p:=Hd e;subst j;exact⟨y,q⟩
def Qa.pinned   {j:St}(I:Qa X pins j H s)(F:∀b∈q,FpOk X pins H b)(J:∀b∈q,∃o,s.heap.get? b=ma o/\∀v,o.data≠.cell v):Qa X (pins++xq q s.heap) j H s:=
 I.pins_of λp R=>(ee.mp R).elim (λz=>I.pin p (og _ z)) λz=>by
  obtain⟨y,e⟩:=tY z;obtain⟨Y,Z,O,_⟩:=F p.1 y;obtain⟨o,f,d⟩:=J p.1 y;rw[e]at f;cases f;exact⟨e,Y,Z,O,d⟩
def Qa.unpinned   {f:St}(I:Qa X (pins++q) f H s):Qa X pins f H s:=I.pins_of λp j=>I.pin p (og _ (Kg _ j))
def mU {R:Na}{body:List Va}{wi:TI}{g:TG}{tb:TS}{pos:Pos}(hp:Nk (Ia X.prog X.w) X.A X.env X.xe)(hc:X.calm=ua)(hi:PI X tg R wi)(hg:PG X tg g)(z:Sf X body tb)
  (hs:∀x,Cf R X.env x=pure x:=by intro _;rfl):PS X (.For tg R body [] pos) (tFor wi g tb):=by
 intro q s σ H D I h;refine wpAny_For (Wb (hi q s σ H _ I h) λv s1 h1=>Wb h1 λka s2 h2=>?_) hs;obtain⟨it,fp,tn,J,H2,e,I2,T,st2,f2,W,⟨m0,w0⟩,ja⟩:=h2;subst e;have O:∀{H':Hp},(∀b∈fp,H' b=Aa)->∀b∈fp,FpOk X q H' b:=λhn b z=>⟨hn b z,(f2 b z).2⟩;refine codeAny_forLoop_any (λn s'=>∃i y H',Qa X q y H' s'/\tn i s'.heap/\(∀b∈fp,H' b=Aa)/\W i n y H') ?_ m0 ⟨0,σ,H2,I2,st2,λb z=>(f2 b z).1,w0⟩;rintro n s3 ⟨i,σ3,H3,I3,st3,fr3,w3⟩;rcases ja i n σ3 H3 w3 with⟨za,qn⟩|⟨go,N,hN,step⟩
 ·refine zn hp (Wb (T.done X rfl rfl rfl hc i q s3 σ3 H3 X.xe I3 (O fr3) st3 za) λr s4 ⟨hr,I4⟩=>?_);subst hr;exact qC ⟨σ3,H3,I4,qn⟩
 ·refine zn hp (Wb (T.item X rfl rfl rfl hc i q s3 σ3 H3 X.xe I3 (O fr3) st3 go) λr s4 ⟨u,hr,h4⟩=>?_);subst hr;refine zn hp (Wb h4 λ_ s5 ⟨x,H5,I5,r5,y5,xa,wa⟩=>?_);have ya:=I5.pinned (O wa) (T.obj _ _ xa);refine zn hp (Wb (hg _ s5 σ3 H5 x u _ ya r5 (step x H5 y5)) λ_ s6 ⟨va,H6,I6,q6⟩=>?_);refine zn hp (Wb (z _ s6 va H6 _ I6 q6) λf s7 q7=>?_);have Z:∀{j:St} {Y:Hp},Qa X (q++xq fp s5.heap) j Y s7->N j Y->∃m,m<n/\∃i y H',Qa X q y H' s7/\tn i s7.heap/\(∀b∈fp,H' b=Aa)/\W i m y H':=λ{j Y} F n7=>by
   obtain⟨m',hm,w7⟩:=hN j Y n7;refine⟨m',hm,i+1,j,Y,F.unpinned,T.keep _ _ _ xa λb z o e=>(F.pin (b,o) (og _ (og _ (Iv z e)))).1,λb z=>?_,w7⟩;obtain⟨o,e,d⟩:=T.obj _ _ xa b z;exact(F.pin (b,o) (og _ (og _ (Iv z e)))).2.1
  cases f with
  |next=>obtain⟨j,Y,F,n7⟩:=q7;exact Z F n7
  |cont=>obtain⟨j,Y,F,n7⟩:=q7;exact Z F n7
  |brk=>obtain⟨j,Y,F,q7⟩:=q7;exact⟨j,Y,F.unpinned,q7⟩
  |ret v=>obtain⟨x7,j,Y,F,r7,q7⟩:=q7;exact⟨x7,j,Y,F.unpinned,r7,q7⟩
end


abbrev R2:=V->V->Hp->VK->Prop
def Oc  (X:Cx)(f:Da->Da->Sem Da)(r:R2):Prop:=
 ∀(j:List (Ea×Obj)) (s:Fa) (σ:St) (H:Hp) (x y:V) (v u:Da) (Q:VK),Qa X j σ H s->RelV x v->RelV y u->r x y H Q->
  wpAny (Ia X.prog X.w) X.A (f v u) (EP X j σ Q) X.xe s
def gD  (X:Cx)(f:Da->Sem Da)(r:V->Hp->VK->Prop):Prop:=
 ∀(j:List (Ea×Obj)) (s:Fa) (σ:St) (H:Hp) (x:V) (v:Da) (Q:VK),Qa X j σ H s->RelV x v->r x H Q->
  wpAny (Ia X.prog X.w) X.A (f v) (EP X j σ Q) X.xe s
def Vf  (X:Cx)(f:Da)(r:List V->Hp->VK->Prop):Prop:=
 ∀(j:List (Ea×Obj)) (s:Fa) (σ:St) (H:Hp) (xs:List V) (us:List Da) (Q:VK),Qa X j σ H s->Vals xs us->r xs H Q->
  wpAny (Ia X.prog X.w) X.A (call f us) (EP X j σ Q) X.xe s
def TruR  (X:Cx)(r:V->Hp->(Bool->Hp->Prop)->Prop):Prop:=
 ∀(f:List (Ea×Obj)) (s:Fa) (σ:St) (H:Hp) (x:V) (v:Da) (Q:Bool->Hp->Prop),Qa X f σ H s->RelV x v->r x H Q->
  wpAny (Ia X.prog X.w) X.A (truthy v) (TP X f σ Q) X.xe s

def ut  (r:R2)(j tb:TE):TE:=λf H Q=>j f H λx H1=>tb f H1 λy H2=>r x y H2 Q
def jN  (r:V->Hp->VK->Prop)(j:TE):TE:=λf H Q=>j f H λx H1=>r x H1 Q
def rI  (C:Int->Int->Prop)(g:Int->Int->V):R2:=λx y H Q=>∃i j,x=.int i/\y=.int j/\C i j/\Q (g i j) H
def Fj  (g:Int->Int->V):R2:=λx y H Q=>∃i j,x=.int i/\y=.int j/\Q (g i j) H
def rU  (g:Int->V):V->Hp->VK->Prop:=λx H Q=>∃i,x=.int i/\Q (g i) H


def binT  (O:PE X a ta)(Y:PE X b tb){j:St}{R:V->V->Hp->Prop}(I:Qa X pins j H s)
  (h:ta j H λx H1=>tb j H1 λy H2=>R x y H2) {f:Da->Da->Sem Da}
  (F:∀v u s2 x y H2,Qa X pins j H2 s2->RelV x v->RelV y u->R x y H2->wpAny (Ia X.prog X.w) X.A (f v u) Q X.xe s2) :
  wpAny (Ia X.prog X.w) X.A (Lb a X.env) (λv q=>wpAny (Ia X.prog X.w) X.A (Lb b X.env) (λu z=>wpAny (Ia X.prog X.w) X.A (f v u) Q X.xe z) X.xe q) X.xe s:=by
 refine Wb (O pins s j H _ I h) λv s1 ⟨x,H1,J,r1,q1⟩=>?_;refine Wb (Y pins s1 j H1 _ J q1) λu s2 ⟨y,H2,Z,r2,q2⟩=>?_;exact F v u s2 x y H2 Z r1 r2 q2

def jQ    (F:Oc X (rf op) r)(J:PE X a ta)(O:PE X b tb):PE X (.BinOp a op b pos) (ut r ta tb):=by
 intro f s z H Q I h;exact wpAny_BinOp (binT J O I h λv u s2 x y H2 R j Y q=>F f s2 z H2 x y v u Q R j Y q)
def kQ    (q:gD X (unaryOp op) r)(z:PE X a ta):PE X (.UnaryOp op a pos) (jN r ta):=by
 intro f s j H Q I h;exact UnaryOp_ (Wb (z f s j H _ I h) λv s1 ⟨x,H1,y,r1,q1⟩=>q f s1 j H1 x v Q y r1 q1)
def nq    {g:Int->Int->Int}
  (z:∀i j t u (s:Fa) Q E ,C i j->Q (.int (g i j) s.toks) { s with toks:=s.toks+1 }->wpAny (Ia X.prog X.w) X.A (f (.int i t) (.int j u)) Q E s) :
  Oc X f (rI C λi j=>.int (g i j)):=by
 intro F s Z H x y v u Q I J Y h;obtain⟨i,j,rfl,rfl,R,q⟩:=h;obtain⟨t,rfl⟩:=J;obtain⟨O,rfl⟩:=Y;exact z i j t O s _ _ R ⟨.int (g i j),H,I.tok _,⟨_,rfl⟩,q⟩
def opI0   {g:Int->Int->Int}
  (z:∀i j t u (s:Fa) Q E ,Q (.int (g i j) s.toks) { s with toks:=s.toks+1 }->wpAny (Ia X.prog X.w) X.A (f (.int i t) (.int j u)) Q E s) :
  Oc X f (Fj λi j=>.int (g i j)):=by
 intro F s Y H x y v u Q I J R h;obtain⟨i,j,rfl,rfl,q⟩:=h;obtain⟨t,rfl⟩:=J;obtain⟨O,rfl⟩:=R;exact z i j t O s _ _ ⟨.int (g i j),H,I.tok _,⟨_,rfl⟩,q⟩
def opB0   {g:Int->Int->Bool}
  (z:∀i j t u s Q E ,Q (.bool (g i j)) s->wpAny (Ia X.prog X.w) X.A (f (.int i t) (.int j u)) Q E s) :
  Oc X f (Fj λi j=>.bl (g i j)):=by
 intro F s Y H x y v u Q I J R h;obtain⟨i,j,rfl,rfl,q⟩:=h;obtain⟨t,rfl⟩:=J;obtain⟨O,rfl⟩:=R;exact z i j t O s _ _ ⟨.bl (g i j),H,I,rfl,q⟩

def CDiv  (i j:Int):Prop:=0<j/\j<1073741824
def CPow  (i j:Int):Prop:=0<=j/\j<=1000000/\i.natAbs<2 ^ 64
def CMul  (i j:Int):Prop:=(-(2 ^ 64)<i/\i<2 ^ 64)\/(-(2 ^ 64)<j/\j<2 ^ 64)
def CMul.ok   (h:CMul i j):IntMulOk i j:=by
 rcases h with⟨f,q⟩|⟨f,q⟩
 ·exact .of_left (intBits_le_64 f q)
 ·exact .of_right (intBits_le_64 f q)
def zS  : Oc X (rf .Add) (Fj λi j=>.int (i+j)):=opI0 λ_ _ _ _ _ _ _ q=>add_int q
def LS  : Oc X (rf .Sub) (Fj λi j=>.int (i-j)):=opI0 λ_ _ _ _ _ _ _ q=>sub_int q
def GS  : Oc X (rf .Mult) (rI CMul λi j=>.int (i*j)):=nq λ_ _ _ _ _ _ _ f q=>mul_int q f.ok
def gV  : Oc X (rf .FloorDiv) (rI CDiv λi j=>.int (i/j)):=nq λi j _ _ _ _ _ f q=>by
 have y:(0:Int)<j:=f.1;have z:j<1073741824:=f.2;exact floordiv_int (by lia) (by rw[Int.fdiv_eq_ediv_of_nonneg i (by lia)];exact q) (.inl (PyProof.noPylong_small (by lia)))
def FS  : Oc X (rf .Mod) (rI (λ_ j=>0<j) λi j=>.int (i%j)):=nq λi j _ _ _ _ _ f q=>by
 have y:(0:Int)<j:=f;exact mod_int' (by lia) (by rw[Int.fmod_eq_emod_of_nonneg i (by lia)];exact q)
def JS  : Oc X (rf .Pow) (rI CPow λi j=>.int (i ^ j.toNat)):=nq λ_ _ _ _ _ _ _ f q=>pow_int_small f.1 f.2.1 f.2.2 q
def yV  : Oc X (Yo .Add) (Fj λi j=>.int (i+j)):=opI0 λ_ _ _ _ _ _ _ q=>iadd_int q
def AV  : Oc X (Yo .Sub) (Fj λi j=>.int (i-j)):=opI0 λ_ _ _ _ _ _ _ q=>isub_int q
def zV  : Oc X (Yo .Mult) (rI CMul λi j=>.int (i*j)):=nq λ_ _ _ _ _ _ _ f q=>imul_int q f.ok
def unI   {g:Int->Int}
  (j:∀i t (s:Fa) Q E ,Q (.int (g i) s.toks) { s with toks:=s.toks+1 }->wpAny (Ia X.prog X.w) X.A (f (.int i t)) Q E s) :
  gD X f (rU λi=>.int (g i)):=by
 intro y s F H x v Q I z h;obtain⟨i,rfl,q⟩:=h;obtain⟨t,rfl⟩:=z;exact j i t s _ _ ⟨.int (g i),H,I.tok _,⟨_,rfl⟩,q⟩
def eU  : gD X (unaryOp .USub) (rU λi=>.int (-i)):=unI λ_ _ _ _ _ q=>neg_int q

noncomputable def scal  : V->V->Bool
 |.non,.non=>ua|.non,.int _=>ua|.int _,.non=>ua|.non,.bl _=>ua|.bl _,.non=>ua|.non,.str _=>ua|.str _,.non=>ua
 |.int _,.int _=>ua|.bl _,.bl _=>ua|.str _,.str _=>ua|.byt _,.byt _=>ua
 |.int _,.str _=>ua|.str _,.int _=>ua|.bl _,.str _=>ua|.str _,.bl _=>ua
 |_,_=>Ca
def qN  : R2:=λx y H Q=>scal x y=ua/\Q (.bl (decide (x=y))) H
def pN  : R2:=λx y H Q=>scal x y=ua/\Q (.bl (!decide (x=y))) H

def wF   : decide (V.int i=V.int j)=(i==j):=by
 rw[Pi];simp
def uE   : decide (V.bl i=V.bl j)=(i==j):=by
 rw[Pi];simp
def xF   : decide (V.str i=V.str j)=(i==j):=by
 rw[Pi];simp
def vF   : decide (V.byt i=V.byt j)=(i.toList==j.toList):=by
 rw[Pi];cases i;cases j;simp

section
variable {X:Cx}{a b c:Na}{ta tb tc:TE}{pos:Pos}
def Ce   {f:St}(I:Qa X pins f H s)(q:Q (.bl k) H)(e:k=k'):EP X pins f Q (.bool k') s:=by
 subst e;exact⟨.bl k,H,I,rfl,q⟩
def bQ  : Oc X (Ke .Eq) qN:=by
 intro O s R H x y v u Q I J f h;obtain⟨F,q⟩:=h;cases x with
 |non=>
  cases J;cases y with
  |non=>cases f;exact PySem.EqNone.eq_none_none (Ce I q (by simp))
  |bl j=>cases f;exact PySem.EqNone.eq_none_bool (Ce I q (by simp))
  |int j=>obtain⟨z,rfl⟩:=f;exact PySem.EqNone.eq_none_int (Ce I q (by simp))
  |str j=>obtain⟨z,rfl⟩:=f;exact PySem.EqNone.eq_none_str (Ce I q (by simp))
  |_=>exact absurd (show Ca=ua from F) Pd
 |bl i=>
  cases J;cases y with
  |non=>cases f;exact PySem.EqNone.eq_bool_none (Ce I q (by simp))
  |bl j=>cases f;exact eq_bool (Ce I q uE)
  |str j=>obtain⟨z,rfl⟩:=f;exact PySem.EqMixed.eq_bool_str (Ce I q (by simp))
  |_=>exact absurd (show Ca=ua from F) Pd
 |int i=>
  obtain⟨t,rfl⟩:=J;cases y with
  |non=>cases f;exact PySem.EqNone.eq_int_none (Ce I q (by simp))
  |int j=>obtain⟨z,rfl⟩:=f;exact eq_int (Ce I q wF)
  |str j=>obtain⟨z,rfl⟩:=f;exact PySem.EqMixed.eq_int_str (Ce I q (by simp))
  |_=>exact absurd (show Ca=ua from F) Pd
 |str i=>
  obtain⟨t,rfl⟩:=J;cases y with
  |non=>cases f;exact PySem.EqNone.eq_str_none (Ce I q (by simp))
  |bl j=>cases f;exact PySem.EqMixed.eq_str_bool (Ce I q (by simp))
  |int j=>obtain⟨z,rfl⟩:=f;exact PySem.EqMixed.eq_str_int (Ce I q (by simp))
  |str j=>obtain⟨z,rfl⟩:=f;exact eq_str (Ce I q xF)
  |_=>exact absurd (show Ca=ua from F) Pd
 |byt i=>
  obtain⟨t,rfl⟩:=J;cases y with
  |byt j=>obtain⟨z,rfl⟩:=f;exact PySem.W.eq_bytes (Ce I q vF)
  |_=>exact absurd (show Ca=ua from F) Pd
 |_=>cases y<;>exact absurd (show Ca=ua from F) Pd
def fQ  : Oc X (Ke .NotEq) pN:=by
 intro O s R H x y v u Q I J f h;obtain⟨F,q⟩:=h;cases x with
 |non=>
  cases J;cases y with
  |non=>cases f;exact PySem.EqNone.ne_none_none (Ce I q (by simp))
  |bl j=>cases f;exact PySem.EqNone.ne_none_bool (Ce I q (by simp))
  |int j=>obtain⟨z,rfl⟩:=f;exact PySem.EqNone.ne_none_int (Ce I q (by simp))
  |str j=>obtain⟨z,rfl⟩:=f;exact PySem.EqNone.ne_none_str (Ce I q (by simp))
  |_=>exact absurd (show Ca=ua from F) Pd
 |bl i=>
  cases J;cases y with
  |non=>cases f;exact PySem.EqNone.ne_bool_none (Ce I q (by simp))
  |bl j=>cases f;exact ne_bool (Ce I q (congrArg not uE))
  |str j=>obtain⟨z,rfl⟩:=f;exact PySem.EqMixed.ne_bool_str (Ce I q (by simp))
  |_=>exact absurd (show Ca=ua from F) Pd
 |int i=>
  obtain⟨t,rfl⟩:=J;cases y with
  |non=>cases f;exact PySem.EqNone.ne_int_none (Ce I q (by simp))
  |int j=>obtain⟨z,rfl⟩:=f;exact ne_int (Ce I q (congrArg not wF))
  |str j=>obtain⟨z,rfl⟩:=f;exact PySem.EqMixed.ne_int_str (Ce I q (by simp))
  |_=>exact absurd (show Ca=ua from F) Pd
 |str i=>
  obtain⟨t,rfl⟩:=J;cases y with
  |non=>cases f;exact PySem.EqNone.ne_str_none (Ce I q (by simp))
  |bl j=>cases f;exact PySem.EqMixed.ne_str_bool (Ce I q (by simp))
  |int j=>obtain⟨z,rfl⟩:=f;exact PySem.EqMixed.ne_str_int (Ce I q (by simp))
  |str j=>obtain⟨z,rfl⟩:=f;exact ne_str (Ce I q (congrArg not xF))
  |_=>exact absurd (show Ca=ua from F) Pd
 |byt i=>
  obtain⟨t,rfl⟩:=J;cases y with
  |byt j=>obtain⟨z,rfl⟩:=f;exact PySem.W.ne_bytes (Ce I q (congrArg not vF))
  |_=>exact absurd (show Ca=ua from F) Pd
 |_=>cases y<;>exact absurd (show Ca=ua from F) Pd

def eQ  : Oc X (Ke .Lt) (Fj λi j=>.bl (decide (i<j))):=opB0 λ_ _ _ _ _ _ _ q=>lt_int q
def dQ  : Oc X (Ke .LtE) (Fj λi j=>.bl (decide (i<=j))):=opB0 λ_ _ _ _ _ _ _ q=>le_int q
def cQ  : Oc X (Ke .Gt) (Fj λi j=>.bl (decide (j<i))):=opB0 λ_ _ _ _ _ _ _ q=>gt_int q
def BY  : Oc X (Ke .In) (λx y H Q=>∃i j,x=.str i/\y=.str j/\Q (.bl (!(Uw j i 0 j.length 1).isEmpty)) H):=by
 intro f s O H x y v u Q I z F h;obtain⟨i,j,rfl,rfl,q⟩:=h;obtain⟨t,rfl⟩:=z;obtain⟨J,rfl⟩:=F;exact in_str (Ce I q rfl)

def D1  : Oc X (Ke .NotIn) (λx y H Q=>∃i j,x=.str i/\y=.str j/\Q (.bl (!(!(Uw j i 0 j.length 1).isEmpty))) H):=by
 intro f s O H x y v u Q I z F h;obtain⟨i,j,rfl,rfl,q⟩:=h;obtain⟨t,rfl⟩:=z;obtain⟨J,rfl⟩:=F;exact notIn_str (Ce I q rfl)
def Oc.or    (h:Oc X f r)(h':Oc X f r'):Oc X f (λx y H Q=>r x y H Q\/r' x y H Q):=by
 intro j s F H x y v u Q I z J q;rcases q with q|q
 ·exact h j s F H x y v u Q I z J q
 ·exact h' j s F H x y v u Q I z J q

def QW    (F:Oc X (Ke op) r)(J:PE X a ta)(O:PE X b tb)(Z:Xv op b=Ca):PE X (.Compare a [op] [b] pos) (ut r ta tb):=by
 intro f s z H Q I h;exact wpAny_Compare1 (binT J O I h λv u s2 x y H2 R j Y q=>F f s2 z H2 x y v u Q R j Y q) Z
def iE  (t:TE):TT:=λf H Q=>t f H λx j=>∃k,x=.bl k/\Q k j
def vW    (q:Oc X (Ke op) r)(O:PE X a ta)(R:PE X b tb)(hm:Xv op b=Ca):PT X (.Compare a [op] [b] pos) (iE (ut r ta tb)):=by
 intro f s j H Q I h;refine wpAny_isTrue_Compare1 (Wb (O f s j H _ I h) λv s1 ⟨x,H1,F,r1,q1⟩=>Wb (R f s1 j H1 _ F q1) λu s2 ⟨y,H2,Y,r2,q2⟩=>
  Wb (q f s2 j H2 x y v u _ Y r1 r2 q2) λc s3 ⟨z,H3,J,Z,k,e,q3⟩=>?_) hm
 subst e;cases Z;exact Ip ⟨H3,J,q3⟩
def ZE  (r F:R2)(J tb q:TE):TE:=λf H Q=>J f H λx H1=>tb f H1 λy H2=>r x y H2 λz j=>∃k,z=.bl k/\
 (if k=ua then q f j λI O=>F y I O Q else Q (.bl Ca) j)
section
variable {op op':jt}{r r':R2}
def pY (ho:Oc X (Ke op) r)(q:Oc X (Ke op') r')(R:PE X a ta)(Y:PE X b tb)(hc:PE X c tc)
  (hm:Tv [op,op'] [b,c]=Ca:=by with_unfolding_all rfl):PE X (.Compare a [op,op'] [b,c] pos) (ZE r r' ta tb tc):=by
 intro f s j H Q I h;refine Compare_chain (Wb (R f s j H _ I h) λv s1 ⟨x,H1,I1,r1,q1⟩=>chain_link (Wb (Y f s1 j H1 _ I1 q1) λu s2 ⟨y,H2,I2,r2,q2⟩=>
  Wb (ho f s2 j H2 x y v u _ I2 r1 r2 q2) λd s3 ⟨z,J,F,r3,k,e,q3⟩=>?_)) hm
 subst e;cases r3;refine Ip ?_;cases k with
 |false=>exact ite_ff ⟨.bl Ca,J,F,rfl,q3⟩
 |true=>exact ite_tt (chain_last (Wb (hc f s3 j J _ F q3) λw' s4 ⟨O,H4,I4,Z,q4⟩=>q f s4 j H4 y O u w' Q I4 r2 Z q4))
def SX (ho:Oc X (Ke op) r)(q:Oc X (Ke op') r')(R:PE X a ta)(Y:PE X b tb)(hc:PE X c tc)
  (hm:Tv [op,op'] [b,c]=Ca:=by with_unfolding_all rfl):PT X (.Compare a [op,op'] [b,c] pos) (iE (ZE r r' ta tb tc)):=by
 intro f s j H Q I h;refine isTrue_chain (Wb (R f s j H _ I h) λv s1 ⟨x,H1,I1,r1,q1⟩=>test_link (Wb (Y f s1 j H1 _ I1 q1) λu s2 ⟨y,H2,I2,r2,q2⟩=>
  Wb (ho f s2 j H2 x y v u _ I2 r1 r2 q2) λd s3 ⟨z,J,F,r3,k,e,q3⟩=>?_)) hm
 subst e;cases r3;refine Ip ?_;cases k with
 |false=>
  obtain⟨k',e',q'⟩:=q3;cases e';exact ite_ff ⟨J,F,q'⟩
 |true=>
  refine ite_tt (test_last (Wb (hc f s3 j J _ F q3) λw' s4 ⟨O,H4,I4,Z,q4⟩=>Wb (q f s4 j H4 y O u w' _ I4 r2 Z q4) λd' s5 ⟨z2,H5,I5,r5,k2,e2,q5⟩=>?_));subst e2;cases r5;exact Ip ⟨H5,I5,q5⟩

end
def TruV  (K:Sb)(x:V)(H:Hp)(k:Bool):Prop:=
 match x with
 |.non=>k=Ca
 |.bl b=>k=b
 |.int i=>k=(i != 0)
 |.str y=>y.length<=Fb/\k=((y.length:Int) != 0)
 |.byt y=>y.size<=Fb/\k=((y.size:Int) != 0)
 |.ref p=>(∃j,re K H p j/\k = !j.isEmpty)\/(∃j,Qd K H p j/\k = !j.isEmpty)\/∃f,H p=ma (.dK f)/\k = !f.isEmpty
 |_=>False
def fZ     (r:KV kvs vs):(!vs.isEmpty) = !kvs.isEmpty:=by
 cases r<;>rfl
def II    (r:Vals xs f):(!f.toArray.isEmpty) = !xs.isEmpty:=by
 cases r<;>simp
def Go  : (Fb:Nat)<2 ^ 63:=by rw[Oi];decide
def Hu  : TruR X (λx H Q=>∃k,TruV X.K x H k/\Q k H):=by
 intro xa s σ H x v Q I J h;obtain⟨k,e,q⟩:=h;have hl:=Go;have hs:Fb=16777216:=Oi;cases x with
 |non=>
  cases J;have f:k=Ca:=e;subst f;exact truthy_none ⟨H,I,q⟩
 |bl b=>
  cases J;have f:k=b:=e;subst f;exact Ip ⟨H,I,q⟩
 |int i=>
  obtain⟨t,rfl⟩:=J;have f:k=(i != 0):=e;subst f;exact PySem.P.truthy_int ⟨H,I,q⟩
 |str y=>
  obtain⟨t,rfl⟩:=J;obtain⟨hy,f⟩:y.length<=Fb/\k=((y.length:Int) != 0):=e;subst f;exact PySem.P.truthy_str (by lia) ⟨H,I.tok _,q⟩
 |byt y=>
  obtain⟨t,rfl⟩:=J;obtain⟨hy,f⟩:y.size<=Fb/\k=((y.size:Int) != 0):=e;subst f;exact PySem.W.truthy_bytes (by lia) ⟨H,I.tok _,q⟩
 |ref p=>
  cases J;have f:(∃F,re X.K H p F/\k = !F.isEmpty)\/(∃F,Qd X.K H p F/\k = !F.isEmpty)\/∃j,H p=ma (.dK j)/\k = !j.isEmpty:=e;rcases f with⟨F,O,f⟩|⟨F,O,f⟩|⟨j,O,f⟩
  ·subst f;obtain⟨Z,r,Y,hz⟩:=I.list O;have z:=r.length;exact wpAny_truthy_list Y.isList (by simp only[Od];lia) ⟨H,I.tok _,by rw[II r];exact q⟩
  ·subst f;obtain⟨Z,r,Y,hz⟩:=I.tuple O;have z:=r.length;exact truthy_tuple Y (by simp only[Od];lia) ⟨H,I.tok _,by rw[II r];exact q⟩
  ·subst f;obtain⟨hz,hS,R,r,m⟩:j.length<=Fb/\(p==Jf)=Ca/\∃R,KV j R/\s.heap.DictOf (He X.prog X.w) p R:=I.hok p _ O;have z:j.length=R.length:=dw r;exact wpAny_truthy_dict hS m (by lia) ⟨H,I.tok _,by rw[fZ r];exact q⟩
 |_=>exact(show False from e).elim
def TX  (J:PE X a ta)(z:∀f,Uf a X.env f=(do let v <- f;Gd a.pos;Hc [v] (truthy v))) :
  PT X a (λq H Q=>ta q H λx y=>∃k,TruV X.K x y k/\Q k y):=by
 intro j s q H Q I h;exact isTrue_plain (Wb (J j s q H _ I h) λv s1 ⟨x,H1,F,r1,q1⟩=>Hu j s1 q H1 x v Q F r1 q1) (z _)

def oZ  : Oc X (rf .Add) (λx y H Q=>∃i j,x=.str i/\y=.str j/\i.length+j.length<=Fb/\Q (.str (i++j)) H):=by
 intro f s R H x y v u Q I z J h;obtain⟨i,j,rfl,rfl,O,q⟩:=h;obtain⟨t,rfl⟩:=z;obtain⟨F,rfl⟩:=J;exact add_str (λF Y=>⟨.str (i++j),H,I.tok _,⟨_,rfl⟩,q⟩) O
def F0  : Oc X (Yo .Add) (λx y H Q=>∃i j,x=.str i/\y=.str j/\i.length+j.length<=Fb/\Q (.str (i++j)) H):=by
 intro f s R H x y v u Q I z J h;obtain⟨i,j,rfl,rfl,O,q⟩:=h;obtain⟨t,rfl⟩:=z;obtain⟨F,rfl⟩:=J;exact iadd_str (λF Y=>⟨.str (i++j),H,I.tok _,⟨_,rfl⟩,q⟩) O
def Eh    (r:Vals [x] us):∃u,us=[u]/\RelV x u:=by
 cases r with
 |cons r1 r2=>cases r2;exact⟨_,rfl,r1⟩
def mR    (r:Vals [x,y] us):∃u f,us=[u,f]/\RelV x u/\RelV y f:=by
 cases r with
 |cons r1 r2=>
  cases r2 with
  |cons j q=>cases q;exact⟨_,_,rfl,r1,j⟩
def DX  (z:X.calm=ua):Vf X (.builtin "min") (λxs H Q=>∃i j,xs=[.int i,.int j]/\Q (.int (if j<i then j else i)) H):=by
 intro y s R H xs O Q I r h;obtain⟨i,j,rfl,q⟩:=h;obtain⟨u,J,rfl,⟨t,rfl⟩,⟨F,rfl⟩⟩:=mR r;refine min_two_ints (I.ok.hd z) λY Z k=>⟨_,H,I.kept k,?_,q⟩;by_cases f:j<i
 ·rw[if_pos f,if_pos f];exact⟨_,rfl⟩
 ·rw[if_neg f,if_neg f];exact⟨_,rfl⟩
def AX  : Vf X (.type "int") (λxs H Q=>(∃i,xs=[.int i]/\Q (.int i) H)\/∃k,xs=[.bl k]/\Q (.int (if k then 1 else 0)) H):=by
 intro f s y H xs j Q I r h;rcases h with⟨i,rfl,q⟩|⟨k,rfl,q⟩
 ·obtain⟨u,rfl,t,rfl⟩:=Eh r;exact call_int_int ⟨.int i,H,I,⟨_,rfl⟩,q⟩
 ·obtain⟨u,rfl,r1⟩:=Eh r;cases r1;exact call_int_bool ⟨.int (if k then 1 else 0),H,I.tok _,⟨_,rfl⟩,q⟩
def LenV  (K:Sb)(x:V)(H:Hp)(n:Nat):Prop:=
 match x with
 |.str y=>y.length<=Fb/\n=y.length
 |.byt y=>y.size<=Fb/\n=y.size
 |.ref p=>(∃f,re K H p f/\n=f.length)\/∃f,Qd K H p f/\n=f.length
 |_=>False
def ZW  : Vf X (.builtin "len") (λxs H Q=>∃x n,xs=[x]/\LenV X.K x H n/\Q (.int n) H):=by
 intro Y s σ H xs us Q I r h;obtain⟨x,n,rfl,e,q⟩:=h;obtain⟨u,rfl,z⟩:=Eh r;have hl:=Go;have hs:Fb=16777216:=Oi;cases x with
 |str y=>
  obtain⟨t,rfl⟩:=z;obtain⟨Z,j⟩:y.length<=Fb/\n=y.length:=e;subst j;exact len_str (by lia) ⟨.int _,H,I.tok _,⟨_,rfl⟩,q⟩
 |byt y=>
  obtain⟨t,rfl⟩:=z;obtain⟨Z,j⟩:y.size<=Fb/\n=y.size:=e;subst j;exact PySem.W.len_bytes (by lia) ⟨.int _,H,I.tok _,⟨_,rfl⟩,q⟩
 |ref p=>
  cases z;have j:(∃xs,re X.K H p xs/\n=xs.length)\/∃xs,Qd X.K H p xs/\n=xs.length:=e;rcases j with⟨xs,O,j⟩|⟨xs,O,j⟩
  ·subst j;obtain⟨R,F,J,hz⟩:=I.list O;have f:=F.length;exact Calls.call_len_list J.isList (by simp only[Od];lia) ⟨.int xs.length,H,I.tok _,⟨_,by simp only[Od];rw[f]⟩,q⟩
  ·subst j;obtain⟨R,F,J,hz⟩:=I.tuple O;have f:=F.length;exact len_tuple J (by simp only[Od];lia) ⟨.int xs.length,H,I.tok _,⟨_,by simp only[Od];rw[f]⟩,q⟩
 |_=>exact(show False from e).elim
end

structure ObjM (h:Cb)(x dx C:Ea)(mA:Str->Option Da):Prop where
 obj:h.get? x=ma (HC C dx)
 ns:h.Ns1 dx mA
 ne:dx≠x

def SY  {h:Cb}(n:h.Ns1 R mA):∃j,h.get? R=ma j/\∀name,dC name j=ma (mA name):=by
 obtain⟨o,F,Z,O,hd,hk,_,Y⟩:=n;refine⟨o,O,λname=>?_⟩;have e:=Y name;unfold nsFind findBy at e;rw[<- Array.find?_toList]at e;unfold dC;rw[hd];dsimp only;split
 ·rename_i y q;rw[q]at e;exact congrArg ma e
 ·rename_i q;rw[q]at e;have a:F.toList.any (·.refKey)=Ca:=by
   rw[List.any_eq_false];intro y I;obtain⟨z,t,f⟩:=hk y (Array.mem_toList_iff.mp I);simp[Zm.refKey,f]
  have J:¬F.toList.any (·.refKey)=ua:=by rw[a];exact Pd
  rw[if_neg J];exact congrArg ma e

def ObjM.look     (I:ObjM h x q C mA):∃f,PySem.W.InstAt h x (HC C q) C (ma f)/\∀name,dC name f=ma (mA name):=
 let ⟨f,y,j⟩:=SY I.ns
 ⟨f,⟨I.obj,rfl,rfl,y⟩,j⟩



def RelO.some_of    (r:RelO (ma v) o):∃u,o=ma u/\RelV v u:=by
 cases o with
 |none=>exact(show False from r).elim
 |some u=>exact⟨u,rfl,r⟩

def xV  (y:Ge P w H h)(e:H a=ma (.ins C F fs)):∃j,ObjM h a F C j/\(∀f,RelO (fs.lookup f) (j f))/\PySem.Within j (fs.map (·.1))/\fs.length<=1000/\H F=ma (.own a):=by
 obtain⟨d,z,I,J,j,n,r,q⟩:=(show Me P w H h a (.ins C F fs)from y a _ e);exact⟨j,⟨J,n,I⟩,r,q,z,d⟩

structure qD (K:Sb)(C:Ea):Prop where
 pg:YL K C Str.empty=ua
 hd:PySem.W.hasDictIn K C=ua
 po:PySem.W.plainOver K C=ua
 sa:cC K (.ref C) "__setattr__" = ma (ma (.builtin "object.__setattr__"))
def qD.get  {K:Sb}(c:qD K C) f:YL K C f=ua:=c.pg
structure Con (K:Sb)(C:Ea)(f:Str)(v:V)(u:Da):Prop where
 at_:cC K (.ref C) f=ma (ma u)
 rel:RelV v u
 get:AL K u "__get__" = ma Aa
 cp:PySem.W.copiedNames.contains f=Ca




section
variable {X:Cx}{pins:List (Ea×Obj)}{σ:St}{H:Hp}{s:Fa}{A:Nb}{E:Da->Fa->Prop}{Q:Da->Fa->Prop}{c:Da}{b:Bool}
inductive TyOf (K:Sb)(H:Hp):V->Da->Prop where
 |non:TyOf K H .non (.type "NoneType")
 |bl (x:Bool):TyOf K H (.bl x) (.type "bool")
 |int (i:Int):TyOf K H (.int i) (.type "int")
 |str (x:Str):TyOf K H (.str x) (.type "str")
 |flt (x:UInt64):TyOf K H (.flt x) (.type "float")
 |lst {a:Ea} {xs:List V} (e:H a=ma (.lst xs)):TyOf K H (.ref a) (.type "list")
 |frz {a:Ea} {o:Obj} {xs:List V} (e:H a=ma (.frz o (.lst xs))):TyOf K H (.ref a) (.type "list")
 |tup {a:Ea} {xs:List V} (e:H a=ma (.tup xs)):TyOf K H (.ref a) (.type "tuple")
 |dK {a:Ea} {kvs:List (uc×V)} (e:H a=ma (.dK kvs)):TyOf K H (.ref a) (.type "dict")
 |dT {a:Ea} {kvs:List (List uc×V)} (e:H a=ma (.dT kvs)):TyOf K H (.ref a) (.type "dict")
 |ins {a C dx:Ea} {fs:List (Str×V)} (e:H a=ma (.ins C dx fs)) (cl:qD K C) (ha:cC K (.ref C) "__class__" = ma (ma (.builtin "object.__class__")))
   (hn:AL K (.builtin "object.__class__") "__get__" = ma (ma (.builtin "getset_descriptor.__get__"))) (htk:PySem.W.takesIn K (.builtin "object.__class__")=ma ua)
   (hm:PySem.W.mroIn K C (.type "object")=ma ua):TyOf K H (.ref a) (.ref C)
def MY    (I:Qa X pins σ H s)(f:RelV x u)(ty:TyOf X.K H x t)(e:Rw X.K t c=ma b)(h:∀tk,Q (.bool b) { s with toks:=tk }) :
  wpAny (Ia X.prog X.w) A (call (.builtin "isinstance") [u,c]) Q E s:=by
 cases ty with
 |non=>cases(show u=ke from f);exact Ri PySem.W.kitx_none I.kIn Ni e (λz=>nomatch z) h
 |bl y=>cases(show u=TB y from f);exact Ri PySem.W.kitx_bool I.kIn Ni e (λz=>nomatch z) h
 |int i=>obtain⟨t,q⟩:=(show ∃t,u=qi i t from f);cases q;exact Ri PySem.W.kitx_int I.kIn Ni e (λz=>nomatch z) h
 |str y=>obtain⟨t,q⟩:=(show ∃t,u=bw y t from f);cases q;exact Ri PySem.W.kitx_str I.kIn Ni e (λz=>nomatch z) h
 |flt y=>obtain⟨t,q⟩:=(show ∃t,u=Da.float y t from f);cases q;exact Ri PySem.W.kitx_float I.kIn Ni e (λz=>nomatch z) h
 |@lst a Y j=>
  cases(show u=gh a from f);obtain⟨_,_,n,_,F⟩:=(show Me X.prog X.w H s.heap a (.lst Y)from I.hok a _ j);exact Ri xL I.kIn ⟨_,F,rfl⟩ e (λz=>nomatch z) h
 |@frz a ob Y j=>
  cases(show u=gh a from f);obtain⟨_,_,_,n,_,F⟩:=(show Me X.prog X.w H s.heap a (.frz ob (.lst Y))from I.hok a _ j);exact Ri xL I.kIn ⟨_,F,rfl⟩ e (λz=>nomatch z) h
 |@tup a Y j=>
  cases(show u=gh a from f);obtain⟨_,_,_,p⟩:=(show Me X.prog X.w H s.heap a (.tup Y)from I.hok a _ j);obtain⟨o,F,Z,_⟩:=p;exact Ri PySem.W.kitx_tuple I.kIn ⟨o,F,Z⟩ e (λz=>nomatch z) h
 |@dK a R j=>
  cases(show u=gh a from f);obtain⟨_,_,vs,_,p⟩:=(show Me X.prog X.w H s.heap a (.dK R)from I.hok a _ j);obtain⟨o,es,ep,F,Z,_⟩:=p;exact Ri wL I.kIn ⟨o,F,Z.1⟩ e (λz=>nomatch z) h
 |@dT a R j=>
  cases(show u=gh a from f);obtain⟨_,_,Y,_,o,es,ep,F,Z,_⟩:=(show Me X.prog X.w H s.heap a (.dT R)from I.hok a _ j);exact Ri wL I.kIn ⟨o,F,Z.1⟩ e (λz=>nomatch z) h
 |@ins a C dx fs j cl ha hn xa hm=>
  cases(show u=gh a from f);obtain⟨mA,O,_⟩:=xV I.hok j;obtain⟨od,J,_⟩:=O.look;exact Ri (PySem.W.kitx_own (cl.get _) cl.hd ha hn xa hm) I.kIn J e (λz=>nomatch z) h
end

structure Room (k:Nat)(A:Nb):Prop where
 hd:A.handled=Aa
 dp:A.depth+k+20<recursionLimit
 un:A.units+8*k+200<Ec
 gd:A.guards=ma []
def Room.mono    (r:Room k A)(h:j<=k):Room j A:=⟨r.hd,by have:=r.dp;lia,by have:=r.un;lia,r.gd⟩
def Room.deeper    (r:Room (k+1) A) env:Room k (A.deeper env):=
 ⟨r.hd,by have:=r.dp;show A.depth+1+k+20<_;lia,by have:=r.un;show A.units+3+8*k+200<_;lia,r.gd⟩
def Room.depth    (r:Room k A):A.depth<recursionLimit:=by have:=r.dp;lia
def Room.units    (r:Room k A):A.units+64<Ec:=by have:=r.un;lia
def Room.units0    (r:Room k A):A.units<Ec:=by have:=r.un;lia

def tNil  : TA:=λ_ H Q=>Q [] H
def IR  (q:TE)(j:TA):TA:=λf H Q=>q f H λx H1=>j f H1 λy H2=>Q (x::y) H2
section
variable {X:Cx}{e:Na}{es:List Na}{te:TE}{t:TA}{pos:Pos}
def FU  : PA X [] tNil:=λ_ _ _ _ H Q I h=>Calls.spliced_nil ⟨[],H,I,.nil,h⟩
def mV (J:PE X e te)(y:PA X es t)(hs:Kd (e::es) X.env=(Ca,Lb e X.env)::Kd es X.env:=by rfl):PA X (e::es) (IR te t):=by
 intro j f s q H Q I h;rw[hs];show wpAny _ _ (spliced ((Ca,Lb e X.env)::Xc j (Kd es X.env))) _ _ s;refine NL (Wb (J f s q H _ I h) λu s1 ⟨x,H1,z,r1,q1⟩=>?_);exact Wb (y j f s1 q H1 _ z q1) λR s2 ⟨F,H2,O,r2,q2⟩=>⟨x::F,H2,O,.cons r1 r2,q2⟩

def tTup  (t:TA):TE:=λj H Q=>t j H λf H1=>f.length<=Fb/\∀p,H1 p=Aa->Q (.ref p) (upd H1 p (.tup f))
def tLst  (t:TA):TE:=λj H Q=>t j H λf H1=>f.length<=Fb/\∀p,H1 p=Aa->Q (.ref p) (upd H1 p (.lst f))
def MU   (h:PA X es t):PE X (.Tuple es x1 pos) (tTup t):=by
 intro f s O H Q I y;refine wpAny_Tuple_spliced (Wb (h pos f s O H _ I y) λF s1 ⟨R,H1,j,r,z,q⟩=>⟨by rw[<- r.length];exact z,?_⟩)
 have J:H1 s1.heap.objs.size=Aa:=j.hok.fresh (Mb _);refine⟨.ref s1.heap.objs.size,upd H1 s1.heap.objs.size (.tup R),j.laid (t':=s1.toks) (λb u e=>Dc _ e) (Mb _) ?_,rfl,q _ J⟩;exact⟨z,F,r,⟨_,Wd _ rfl,rfl,_,rfl,rfl⟩⟩
def IU  (h:PA X es t):PE X (.List es pos) (tLst t):=by
 intro f s O H Q I y;refine wpAny_List_spliced (Wb (h pos f s O H _ I y) λF s1 ⟨R,H1,j,r,z,q⟩=>⟨by rw[<- r.length];exact z,?_⟩)
 have J:H1 s1.heap.objs.size=Aa:=j.hok.fresh (Mb _);refine⟨.ref s1.heap.objs.size,upd H1 s1.heap.objs.size (.lst R),j.laid (t':=s1.toks) (λb u e=>Dc _ e) (Mb _) ?_,rfl,q _ J⟩;exact⟨z,F,0,r,Wd _ rfl⟩
end

abbrev Sp:=List V->Hp->VK->XK->Prop
abbrev Op:=List Env->Hp->Fa->XK->Da->Fa->Prop

structure Env0 (P:Ab)(w:Za)(K:Sb)(mg:Str->Option Da)(base:Cb)(A:Nb)(outer:List Env)(s:Fa)(H:Hp):Prop where
 frames:A.frames=ma outer
 mod:Mod K mg base
 bs:∀b o,base.get? b=ma o->s.heap.get? b=ma o/\H b=Aa
 bsz:base.objs.size<=s.heap.objs.size
 funs:s.heap.FunFrames base outer
 frf:∀b∈lg outer,H b=Aa
 hok:Ge P w H s.heap
 bare:Qe s.gens
def CE  (outer:List Env)(P:Ab)(w:Za)(H:Hp)(s:Fa)(Q:VK)(u:Da)(s':Fa):Prop:=
 ∃v f,s'.os=s.os/\Qe s'.gens/\Un (lg outer) [] H f s.heap s'.heap/\Ge P w f s'.heap/\RelV v u/\Q v f
def CR  (CX:Op)(outer:List Env)(P:Ab)(w:Za)(H:Hp)(s:Fa)(Q:VK)(E:XK)(r:Ph)(s':Fa):Prop:=
 match r with
 |.ok (.ret u)=>CE outer P w H s Q u s'
 |.ok _=>False
 |.error e=>CX outer H s E e s'
structure FnOk (P:Ab)(w:Za)(K:Sb)(mg:Str->Option Da)(base:Cb)(CX:Op)(k:Nat)(f:Ea)(fd:Vo)(ps:List Str)(sp:Sp):Prop where
 len:∀vs H Q E,sp vs H Q E->vs.length=ps.length
 run:∀(A:Nb) (outer:List Env) (s:Fa) (H:Hp) (args:Args) (us:List Da) (vs:List V) (Q:VK) (E:XK),Room k A->Env0 P w K mg base A outer s H->Ah s fd args (ps.zip us)->Vals vs us->sp vs H Q E->
  codeAny (Ia P w) A (.call (.ref f) args) (CR CX outer P w H s Q E) s

def Qa.env0  {f: St}(I:Qa X pins f H s):Env0 X.prog X.w X.K X.mg X.base X.A X.stack s H:=
 ⟨I.ok.frames,I.ok.mod,I.bs,Yb I.ok.bsz I.sz,I.stack,I.stkFree,I.hok,I.bare⟩
def Qa.after  {y: St}(I:Qa X pins y H s)(h:CE X.stack X.prog X.w H s Q u s'):EP X pins y Q u s':=by
 obtain⟨v,O,F,bare,un,j,r,q⟩:=h;obtain⟨J,g,d,t,f⟩:=s';obtain rfl:f=s.os:=F;exact⟨v,O,I.call (h':=J) (g':=g) (d':=d) (t':=t) (ch:=[]) un j bare (λb z=>absurd z (by simp)),r,q⟩

def Binds  (K:Sb)(j:Vo)(ps:List Str)(f:List Da):Prop:=
 ∀(s:Fa) (us:List Da),K.In s.heap->(us++f).length=ps.length->Ah s j ⟨us,[]⟩ (ps.zip (us++f))
def Binds.all  {K:Sb}(h:∀us ,us.length=ps.length->Pl j ⟨us,[]⟩=pure (ps.zip us)):Binds K j ps []:=λs us _ f=>by
 rw[xi]at f ⊢;exact .of_eq (h us f)





structure FnScope (N P:List Str)(sc:ue):Prop where
 kind:sc.kind=.function
 co:sc.isCoroutine=Ca
 gen:sc.isGenerator=Ca
 nd:N.Nodup
 pre:N.take P.length=P
 par:∀x∈P,sc.names.lookup x=ma .local\/sc.names.lookup x=ma .cell
 nofree:∀y∈sc.names,y.2≠.free

theorem pH  {kindOf:Str->Option Bg}:∀{binds } {m },(∀v,(x,v)∉binds)->Yi kindOf binds m x=m x
 |[],_,_=>rfl
 |(n,v)::r,m,h=>by
  unfold Yi;rw[pH λw f=>h w (Jd _ f)];split
  ·have:x≠n:=by rintro rfl;exact h v Re
   simp[this]
  ·rfl
theorem nH  {kindOf:Str->Option Bg}:∀{binds } {m },(∀v,(x,v)∉binds)->Zi kindOf binds m x=m x
 |[],_,_=>rfl
 |(n,v)::r,m,h=>by
  unfold Zi;rw[nH λw f=>h w (Jd _ f)];split
  ·rfl
  ·have:x≠n:=by rintro rfl;exact h v Re
   simp[this]
theorem oH  {kindOf:Str->Option Bg}:∀{P:List Str} {vs } {i:Nat} {m },P.Nodup->P[i]?=ma x->vs[i]?=ma v->kindOf x=ma .local->
  Yi kindOf (P.zip vs) m x=ma v
 |[],_,_,_,_,h,_,_=>by simp at h
 |_::_,[],_,_,_,_,h,_=>by simp at h
 |p::P,w::vs,0,m,nd,h1,h2,hk=>by
  simp at h1 h2;subst h1;subst h2;show Yi kindOf ((p,w)::P.zip vs) m p=_;unfold Yi;rw[pH λv f=>(Jb.mp nd).1 (YB f).1,if_pos hk];simp
 |p::P,w::vs,i+1,m,nd,h1,h2,hk=>by
  show Yi kindOf ((p,w)::P.zip vs) m x=_;unfold Yi;exact oH (i:=i) (Jb.mp nd).2 (by simpa using h1) (by simpa using h2) hk
theorem mH  {kindOf:Str->Option Bg}:∀{P:List Str} {vs } {i:Nat} {m },P.Nodup->P[i]?=ma x->vs[i]?=ma v->kindOf x≠ma .local->
  Zi kindOf (P.zip vs) m x=ma v
 |[],_,_,_,_,h,_,_=>by simp at h
 |_::_,[],_,_,_,_,h,_=>by simp at h
 |p::P,w::vs,0,m,nd,h1,h2,hk=>by
  simp at h1 h2;subst h1;subst h2;show Zi kindOf ((p,w)::P.zip vs) m p=_;unfold Zi;rw[nH λv f=>(Jb.mp nd).1 (YB f).1,if_neg hk];simp
 |p::P,w::vs,i+1,m,nd,h1,h2,hk=>by
  show Zi kindOf ((p,w)::P.zip vs) m x=_;unfold Zi;exact mH (i:=i) (Jb.mp nd).2 (by simpa using h1) (by simpa using h2) hk

noncomputable def start  (N:List Str)(vs:List V):St:=vs.map ma++Zb (N.length-vs.length) Aa

noncomputable def cxOf  (CX:Op)(P:Ab)(w:Za)(K:Sb)(mg:Str->Option Da)(base:Cb)(N:List Str)(j:Str)(scope:ue)(f:Ea)(y:Da)(A:Nb)(outer:List Env)(s:Fa)(H:Hp)(E:XK):Cx where
 prog:=P
 w:=w
 K:=K
 mg:=mg
 base:=base
 A:=A.deeper (Pe j scope s.heap.objs.size f y)
 N:=N
 s₀:=s
 H₀:=H
 env:=Pe j scope s.heap.objs.size f y
 outer:=outer
 stack:=Pe j scope s.heap.objs.size f y::outer
 ex:=[]
 calm:=ua
 fn:=λ_=>ua
 pn:=[]
 xe:=λe F=>wpAny (Ia P w) (A.deeper (Pe j scope s.heap.objs.size f y)) (leaving (Pe j scope s.heap.objs.size f y) e) (λ_ q=>CX outer H s E e q) (λz q=>CX outer H s E z q) F

def kA  {f:ue}(h:f.names.lookup x=ma .cell):∃c,(Cg n f.names []).lookup x=ma c:=by
 have q:=BM f.names n [] (.inl h);exact Option.isSome_iff_exists.mp q

def LY     {K:Sb} 
  (S:FnScope N ps scope) (hd:A.handled=Aa) (e0:Env0 P w K mg base A outer s H) (hl:vs.length=ps.length) (r:Vals vs us)
  (x:InCallC s s.heap.objs.size (Yi (Pe F scope s.heap.objs.size f cd).kindOf (ps.zip us) λ_=>Aa) (Cg (s.heap.objs.size+1) scope.names []) (Zi (Pe F scope s.heap.objs.size f cd).kindOf (ps.zip us) λ_=>Aa) s1) :
  Qa (cxOf CX P w K mg base N F scope f cd A outer s H E) [] (start N vs) H s1:=by
 have xa:ps.length<=N.length:=by have:=congrArg mn S.pre;rw[Yh]at this;lia
 obtain⟨Y,tk,rfl,hk⟩:=x.done;have J:∀b:Ea,b∉(cxOf CX P w K mg base N F scope f cd A outer s H E).ex:=λb z=>absurd (show b∈([]:List Ea)from z) (by simp)
 refine⟨⟨e0.mod,S.kind,rfl,rfl,Mb _,λy z c Y j=>?_,λy I=>?_,λy c _ h=>?_,λ_=>hd,Nb.frames_deeper e0.frames,.inr ⟨rfl,rfl⟩,λb z=>absurd z (J b),e0.bs,e0.bsz,λb _ _=>J b,λb z=>absurd z (J b),e0.funs,e0.frf⟩,
  rfl,e0.bare,Un.kept hk,⟨_,x.toInCall.ns,λi y v Y j h3=>?_⟩,λy c h=>⟨_,x.cell y c h⟩,e0.hok.fresh (Mb _),λy c h=>?_,λp R=>absurd (show p∈([]:List (Ea×Obj))from R) (by simp),e0.hok.kept hk,?_⟩
 ·exact name_of_addr x.apart (vh Y) (vh j)
 ·have I:scope.names.lookup y=ma .cell\/scope.names.lookup y=ma .free:=I;rcases I with I|I
  ·exact kA I
  ·exact absurd rfl (S.nofree _ (vh I))
 ·exact uj (x.above y c (vh h))
 ·have Z:i<vs.length:=by
   unfold start at j;by_cases Z:i<vs.length
   ·exact Z
   ·rw[Np (by simpa using Z)]at j
    rw[rM]at j;split at j<;>cases j
  have ha:vs[i]?=ma v:=by
   unfold start at j;rw[Fn (by simpa using Z),md]at j
   cases e:vs[i]? with
   |none=>rw[e]at j;cases j
   |some a=>rw[e]at j;cases j;rfl
  obtain⟨u,hu,rv⟩:=r.get ha;have R:ps[i]?=ma y:=by
   rw[<- S.pre,List.getElem?_take_of_lt (by lia)];exact Y
  have O:ps.Nodup:=by rw[<- S.pre];exact S.nd.sublist (Lw _ _)
  refine⟨u,rv,?_⟩;rcases S.par y (Vc R)with k|k
  ·exact .inl ⟨k,oH O R hu k⟩
  ·obtain⟨c,e⟩:=kA (n:=s.heap.objs.size+1) k;refine .inr ⟨.inl k,c,e,?_⟩;have q:=x.cell y c e;rw[mH O R hu (by show scope.names.lookup y≠_;rw[k];decide)]at q
   exact q
 ·exact e0.hok.fresh (uj (x.above y c (vh h)))
 ·unfold start;show _=N.length;rw[bg,Hb,List.length_replicate]
  lia

def KQ     {K : Sb}{dV kV za pm z ct oc : Da} 
       (lk : K.lookup f = ma ⟨oc, od, .func (Tj name j params body scope dV kV za pm an z ct), ha⟩) (va : Br K z j = ua) (S : FnScope N ps scope)
    (len : ∀ vs H Q E, sp vs H Q E -> vs.length = ps.length)
    (R : ∀ (A : Nb) outer (s : Fa) H (vs : List V) Q E , Room k (A.deeper (Pe j scope s.heap.objs.size f z)) -> sp vs H Q E ->
      ∃ t, Sf (cxOf CX P w K mg base N j scope f z A outer s H E) body t /\ t { nx := λ_ O => Q .non O, rt := Q } (start N vs) H) :
    FnOk P w K mg base CX (k + 1) f (Tj name j params body scope dV kV za pm an z ct) ps sp := by
  refine ⟨len, λA outer s H wa us vs Q E hr e0 hb r xa => ?_⟩
  have hl := len _ _ _ _ xa
  have KX : K.In s.heap := e0.mod.kin.keeps λb o e => (e0.bs b o e).1
  have ya : s.heap.NoLimit := e0.mod.nolimit.keeps λb o e => (e0.bs b o e).1
  have Y : ∀ y ∈ ps.zip us, scope.names.lookup y.1 = ma .local \/ (scope.names.lookup y.1 = ma .cell /\ ((Cg (s.heap.objs.size + 1) scope.names []).lookup y.1).isSome = ua) := λ⟨n, v⟩ hy => by
    rcases S.par n (YB hy).1 with q | q
    · exact .inl q
    · exact .inr ⟨q, BM _ _ _ (.inl q)⟩
  refine codeAny_call_function hr.depth (KX _ _ lk) rfl S.co S.gen rfl (PySem.W.codeRec_of KX va) (hb _ _ _ _ ?_)
  refine wpAny_newFunctionEnv_cells S.kind Y λka he s1 x => ?_
  subst he
  refine ⟨ya.keeps x.toInCall.keep, codeAny_func ?_⟩
  obtain ⟨t, ht, hq⟩ := R A outer s H vs Q E (hr.deeper _) xa
  have I : Qa (cxOf CX P w K mg base N j scope f z A outer s H E) [] (start N vs) H s1 := LY S hr.hd e0 hl r x
  refine Xf (ht [] s1 (start N vs) H _ I hq) (λfl s' Z => ?_) λe s' Z => Z
  have ja : ∀ {F : St} {O : Hp} {v : V} {u : Da}, Qa (cxOf CX P w K mg base N j scope f z A outer s H E) [] F O s' -> RelV v u -> Q v O -> CE outer P w H s Q u s' :=
    λ{F O v u} J rv q => ⟨v, O, J.os, J.bare, J.base, J.hok, rv, q⟩
  cases fl with
  | ret u =>
    obtain ⟨v, F, O, J, rv, q⟩ := Z
    exact ja J rv q
  | next =>
    obtain ⟨F, O, J, q⟩ := Z
    exact ja (v := V.non) (u := ke) J rfl q
  | brk =>
    obtain ⟨_, _, _, q⟩ := Z
    exact xp q
  | cont =>
    obtain ⟨_, _, _, q⟩ := Z
    exact xp q
section
variable {X:Cx}{x:Str}{p pos:Pos}{e:Na}{es:List Na}{t:TA}{id T:String}{r:List V->Hp->VK->Prop}

def Mx  (r:List V->Hp->VK->Prop)(t:TA):TE:=λj H Q=>t j H λf H1=>r f H1 Q
def oY (J:Vf X (.builtin id) r)(Y:Gl X x)(hm:X.mg x=Aa)(z:Rj x=ma (.builtin id))(ha:PA X (e::es) t)(R:x ≠ "__name__" := by decide)(q:(x==("__debug__" : Str))=Ca:=by decide)
  (F:Kd (e::es) X.env=(Ca,Lb e X.env)::Kd es X.env:=by rfl) (j:(Xc pos (Kd es X.env)).any (·.1)=Ca:=by rfl):PE X (.Call (.Name x p) (e::es) [] pos) (Mx r t):=by
 intro f s y H Q I h;refine Rr (Qm I Y hm z ?_ R q);exact VM (Wb (ha pos f s y H _ I h) λO s1 ⟨vs,H1,Z,r1,q1⟩=>J f s1 y H1 vs O Q Z r1 q1) F j
def Ev (J:Vf X (.type T) r)(Y:Gl X x)(hm:X.mg x=Aa)(z:Rj x=ma (.type T))(ha:PA X (e::es) t)(R:x ≠ "__name__" := by decide)(q:(x==("__debug__" : Str))=Ca:=by decide)
  (F:Kd (e::es) X.env=(Ca,Lb e X.env)::Kd es X.env:=by rfl) (j:(Xc pos (Kd es X.env)).any (·.1)=Ca:=by rfl):PE X (.Call (.Name x p) (e::es) [] pos) (Mx r t):=by
 intro f s y H Q I h;refine Rr (Qm I Y hm z ?_ R q);exact qx (Wb (ha pos f s y H _ I h) λO s1 ⟨vs,H1,Z,r1,q1⟩=>J f s1 y H1 vs O Q Z r1 q1) F j
end
end L2

namespace HT
open PySem PyProof.Rows

noncomputable def lexLt  : List Int->List Int->Bool
 |[],[]=>Ca
 |[],_::_=>ua
 |_::_,[]=>Ca
 |x::xs,y::ys=>if x=y then lexLt xs ys else decide (x<y)
def lexLt_cons   x y xs ys:lexLt (x::xs) (y::ys)=if x=y then lexLt xs ys else decide (x<y):=rfl
def lexLt_nil_nil  : lexLt [] []=Ca:=rfl
def lexLt_nil_cons   y ys:lexLt [] (y::ys)=ua:=rfl
def lexLt_cons_nil   x xs:lexLt (x::xs) []=Ca:=rfl

def eqAt_int   A s a (t:Tok) c u:∃e,Pg A s (.int a t) (.int c u) e/\(e=ua↔a=c):=
 ⟨(a==c),wM a t c u,by simp⟩
def rcLt_int   A s a t c u prog w E Q (h:Q (.bool (decide (a<c))) s) :
  wpAny (Ia prog w) A (richCompare .Lt (.int a t) (.int c u)) Q E s:=
 (PyProof.Rows.lt_int h:wpAny (Ia prog w) A (Ke .Lt (.int a t) (.int c u)) Q E s)

section
open PySem.SeqAt
open PySem.AutoSeq1 (wpAny_loadPart')
open PySem.MeetsSeq PySem.MeetsSeq2 PySem.MeetsSeq3

end

section
variable {prog:Ab}{w:Za}{A:Nb}{E:Da->Fa->Prop}{s:Fa}

def cat_tup     (ht:aj s.heap t vs.toArray)(hb:aj s.heap b ws.toArray)(O:vs≠[])
  (h1:ws=[]->Q (.ref t) s) (h2:ws≠[]->Q (.ref s.heap.objs.size) { s with heap:=s.heap.push { cls:=.type "tuple",data:=.seq (vs++ws).toArray } })
  (hsz:vs.length+ws.length<=Fb):wpAny (Ia prog w) A (rf .Add (.ref t) (.ref b)) Q E s:=by
 obtain⟨⟨cls,Y,data,Z⟩,I,R,n,hd⟩:=id ht;obtain⟨⟨xa,z,J,j⟩,f,q,n2,y⟩:=id hb;simp only at R hd q y;subst R hd q y;have e:vs.toArray++ws.toArray=(vs++ws).toArray:=by simp
 by_cases F:ws=[]
 ·exact AB ⟨_,I,rfl⟩ ⟨_,f,rfl⟩ kC NB WC XC (QC _ _)
   (tuple_addW1 t b vs.toArray ws.toArray n n2 Y z Z j (by simpa using O) (by simp[F])) ⟨I,f,h1 F⟩
 ·refine AB ⟨_,I,rfl⟩ ⟨_,f,rfl⟩ kC NB WC XC (QC _ _)
   (tuple_addW2 t b vs.toArray ws.toArray n n2 Y z Z j (by simpa using O) (by simpa using F) (by rw[Od,Od];exact hsz)) ⟨I,f,?_⟩
  rw[e];exact h2 F

noncomputable def sIx  (n d:Nat):Option Int->Nat
 |none=>d
 |some v=>if v<0 then (v+(n:Int)).toNat else min v.toNat n
def sIx_none   n d:sIx n d Aa=d:=rfl
def sIx_nat  (n d k:Nat):sIx n d (ma (k:Int))=min k n:=by
 show(if (k:Int)<0 then ((k:Int)+(n:Int)).toNat else min (k:Int).toNat n)=min k n
 rw[if_neg (by lia),Si]
def xU   n d (hd:d<=n) o:sIx n d o<=n:=by
 cases o with
 |none=>exact hd
 |some v=>
  show(if v<0 then (v+(n:Int)).toNat else min v.toNat n)<=n
  by_cases f:v<0
  ·rw[if_pos f];lia
  ·rw[if_neg f];exact Nat.min_le_right _ _
def uF   v (n d:Nat):(if v<0 then max (v+(n:Int)) 0 else min v (n:Int))=((sIx n d (ma v):Nat):Int):=by
 show(if v<0 then max (v+(n:Int)) 0 else min v (n:Int))=(((if v<0 then (v+(n:Int)).toNat else min v.toNat n):Nat):Int)
 by_cases f:v<0
 ·simp only[if_pos f];lia
 ·simp only[if_neg f];lia
def zZ   lo hi (n:Nat):Ms lo hi 1 (n:Int)=(((sIx n 0 lo:Nat):Int),((sIx n n hi:Nat):Int)):=by
 have f:¬((1:Int)<0):=by lia
 unfold Ms;simp only[f,if_false];refine Tk ?_ ?_
 ·cases lo with
  |none=>rfl
  |some v=>exact uF v n 0
 ·cases hi with
  |none=>rfl
  |some v=>exact uF v n n
def sZ  (i j:Nat):Zk (i:Int) (j:Int) 1=j-i:=by
 unfold Zk;have f:(1:Int)>0:=by lia
 simp only[f,if_true,CB];split<;>lia
def Qq     (p:cf v o)(h:Q o s):wpAny (Ia prog w) A (Bb.Slice.slicePartIndex v) Q E s:=by
 cases p with
 |none=>exact slicePart_none h
 |int i t=>exact slicePart_int h
def nK    {lo hi:Option Int}{n:Nat}(hs:s.heap.IsSliceOf J q y .none)(F:cf q lo)(z:cf y hi)
  (h:Q (((sIx n 0 lo:Nat):Int),1,sIx n n hi-sIx n 0 lo) s):wpAny (Ia prog w) A (mx (.ref J) (pure (n:Int))) Q E s:=by
 obtain⟨O,f,I,j⟩:=id hs;unfold mx IM;refine Ua (Ua (kj f j (x:=q) rfl (Ua (kj f j (x:=y) rfl (Ua (kj f j (x:=.none) rfl (Kb ?_)))))));refine Ua (slicePart_none ?_);show wpAny _ _ (if ((1:Int)==0)=ua then _ else _) _ _ s
 rw[if_neg (by decide)]
 refine Ua (Qq F (Ua (Qq z (Ua (Kb ?_)))));show wpAny _ _ (match Ms lo hi 1 (n:Int)with|(lo,hi)=>pure (lo,(1:Int),Zk lo hi 1)) _ _ s
 rw[zZ lo hi n];show wpAny _ _ (pure (((sIx n 0 lo:Nat):Int),(1:Int),Zk ((sIx n 0 lo:Nat):Int) ((sIx n n hi:Nat):Int) 1)) _ _ s;rw[sZ];exact Kb h
def NX  (xs:Array Da)(i k:Nat):((Md k).filterMap λ(m:Nat)=>xs[((i:Int)+(m:Int)*1).toNat]?).toArray=((xs.toList.drop i).take k).toArray:=by
 have e:(λ(m:Nat)=>xs[((i:Int)+(m:Int)*1).toNat]?)=λm=>xs[i+m]?:=by
  funext m;have:((i:Int)+(m:Int)*1).toNat=i+m:=by lia
  rw[this]
 rw[e];have:=pick_run xs i k;rw[OC]at this;have f:((λx=>xs[x]?) ∘ λx=>i+x)=λm=>xs[i+m]?:=rfl;rw[f]at this;rw[this]

def getItem_tuple_cut     {lo hi:Option Int}(j:aj s.heap t items)(hs:s.heap.IsSliceOf J vl vu .none)(R:cf vl lo)(O:cf vu hi)
  (Y:¬(sIx items.size 0 lo=0/\sIx items.size items.size hi=items.size))
  (h:Q (.ref s.heap.objs.size) { s with heap:=s.heap.push { cls:=.type "tuple",data:=.seq ((items.toList.drop (sIx items.size 0 lo)).take (sIx items.size items.size hi-sIx items.size 0 lo)).toArray } })
  (hsz:items.size<=Fb):wpAny (Ia prog w) A (Td (.ref t) (.ref J)) Q E s:=by
 have f:sizeOk (.seq ((items.toList.drop (sIx items.size 0 lo)).take (sIx items.size items.size hi-sIx items.size 0 lo)).toArray):=by
  show((items.toList.drop (sIx items.size 0 lo)).take (sIx items.size items.size hi-sIx items.size 0 lo)).toArray.size<=Fb;rw[Od,Yh,Hr,cg]
  lia
 have hj:sIx items.size items.size hi<=items.size:=xU _ _ (Mb _) hi;obtain⟨os,z,F,Z⟩:=id hs;have I:s.TypeIs (.ref J) "slice" := ⟨os,z,F⟩;unfold Td
 try with_reducible refine Hh ?_
 first|refine Ua (Kb ?_)|skip
 refine Ua (XB j.typeIs (by decide) ?_)
 refine Ua (Pr (name:=pj "__getitem__") j.typeIs Yj
  (tj Yj j.typeIs IC ?_ (eC _ _)))
 show wpAny _ _ (SC (.ref t) >>= _) _ _ s;refine Ua (QB j ?_);refine Ua (rp I ?_);rw[if_pos (by decide)]
 refine Ua (nK hs R O ?_);have y:¬((((sIx items.size 0 lo:Nat):Int)==0&&(1:Int)==1&&(sIx items.size items.size hi-sIx items.size 0 lo)==items.size)=ua):=by
  intro q;rw[Kf,Kf]at q;have q1:((sIx items.size 0 lo:Nat):Int)=0:=eq_of_beq q.1.1;have q2:sIx items.size items.size hi-sIx items.size 0 lo=items.size:=eq_of_beq q.2;exact Y ⟨by lia,by lia⟩
 show wpAny _ _ (if (((sIx items.size 0 lo:Nat):Int)==0&&(1:Int)==1&&(sIx items.size items.size hi-sIx items.size 0 lo)==items.size)=ua then _ else _) _ _ s
 rw[if_neg y,NX]
 first
  |exact Ua (m:=Xk _) (yh (Kb ⟨_,rfl,Kb h⟩) f)
  |exact Ua (m:=Xk _) (yh (Ua (Kb (Kb ⟨_,rfl,Kb h⟩))) f)
  |exact Ua (Ua (m:=Xk _) (yh (Kb (Kb ⟨_,rfl,Kb h⟩)) f))
  |exact Ua (Ua (m:=Xk _) (yh (Kb ⟨_,rfl,Kb h⟩) f))
end
end HT

namespace L2
open PySem PySem.Spec PyProof.Rows

abbrev TO:=St->Hp->(Option Int->Hp->Prop)->Prop
def PO  (X:Cx)(e:Option Na)(t:TO):Prop:=
 ∀(f:List (Ea×Obj)) (s:Fa) (σ:St) (H:Hp) (Q:Option Int->Hp->Prop),Qa X f σ H s->t σ H Q->
  wpAny (Ia X.prog X.w) X.A (evalPart e X.env) (λu q=>∃o j,Qa X f σ j q/\cf u o/\Q o j) X.xe s
def KW  : TO:=λ_ H Q=>Q Aa H
def NR  (t:TE):TO:=λf H Q=>t f H λx H1=>∃i,x=.int i/\Q (ma i) H1


def pW  : PO X Aa KW:=by
 intro f s j H Q I h;rw[VB];exact Kb ⟨Aa,H,I,.none,h⟩
def qW  (h:PE X e te):PO X (ma e) (NR te):=by
 intro f s z H Q I j;rw[evalPart_some];refine Wb (h f s z H _ I j) λu s1 ⟨x,H1,y,r1,q1⟩=>?_;obtain⟨i,rfl,q⟩:=q1;obtain⟨t,rfl⟩:=r1;exact⟨ma i,H1,y,.int i t,q⟩

def gi  (X:Cx)(r:V->Option Int->Option Int->Hp->VK->Prop):Prop:=
 ∀(f:List (Ea×Obj)) (s:Fa) (σ:St) (H:Hp) (x:V) (v vl vu:Da) (lo hi:Option Int) (sl:Ea) (Q:VK),Qa X f σ H s->RelV x v->s.heap.IsSliceOf sl vl vu .none->cf vl lo->cf vu hi->r x lo hi H Q->
  ∃T j,typeLookup (.type T) "__getitem__" = pure (ma (.builtin j))/\s.TypeIs v T/\wpAny (Ia X.prog X.w) X.A (Td v (.ref sl)) (EP X f σ Q) X.xe s
def gi.or   (h:gi X r)(h':gi X r'):gi X (λx lo hi H Q=>r x lo hi H Q\/r' x lo hi H Q):=by
 intro f s F H x v O Y lo hi R Q I j J z y q;rcases q with q|q
 ·exact h f s F H x v O Y lo hi R Q I j J z y q
 ·exact h' f s F H x v O Y lo hi R Q I j J z y q
def kN  (r:V->Option Int->Option Int->Hp->VK->Prop)(q:TE)(y j:TO):TE:=λf H Q=>q f H λx H1=>y f H1 λl H2=>j f H2 λu z=>r x l u z Q
def IX  {lo: Option Na}(hr:gi X r)(he:PE X e te)(O:PO X lo tl)(hu:PO X hi th):PE X (.Subscript e (.Slice lo hi Aa R) pos) (kN r te tl th):=by
 intro f s y H Q I h;refine Yp (Wb (he f s y H _ I h) λv s1 ⟨x,H1,I1,r1,q1⟩=>?_);refine wpAny_Slice (Wb (O f s1 y H1 _ I1 q1) λz s2 ⟨l,H2,I2,pl,q2⟩=>Wb (hu f s2 y H2 _ I2 q2) λF j ⟨u,J,Y,pu,q3⟩=>?_);rw[VB];refine Kb ?_;have I4:Qa X f y J { j with heap:=j.heap.push { cls:=.type "slice",data:=.fields #[z,F,.none] } }:=Y.kept (t':=j.toks) λb ob q=>Dc _ q
 obtain⟨T,id,hT,Z,hg⟩:=hr f { j with heap:=j.heap.push { cls:=.type "slice",data:=.fields #[z,F,.none] } } y J x v z F l u j.heap.objs.size Q I4 r1 (Le.new ..) pl pu q3;show wpAny (Ia X.prog X.w) X.A (xw e (.Slice lo hi Aa R) v (.ref j.heap.objs.size)) (EP X f y Q) X.xe { j with heap:=j.heap.push { cls:=.type "slice",data:=.fields #[z,F,.none] } }
 exact Kl (ops:=[.ref j.heap.objs.size,v]) Z hT hg (by with_unfolding_all rfl)

def cutV  (xs:List V)(lo hi:Option Int):List V:=(xs.drop (HT.sIx xs.length 0 lo)).take (HT.sIx xs.length xs.length hi-HT.sIx xs.length 0 lo)
def oI  (xs:List V) lo hi:(cutV xs lo hi).length<=xs.length:=by
 unfold cutV;rw[Yh,Hr]
 lia
def rSlT  (K:Sb):V->Option Int->Option Int->Hp->VK->Prop:=λx j q H Q=>∃a f,x=.ref a/\Qd K H a f/\
 ¬(HT.sIx f.length 0 j=0/\HT.sIx f.length f.length q=f.length)/\∀p,H p=Aa->Q (.ref p) (upd H p (.tup (cutV f j q)))
def GT  : gi X (rSlT X.K):=by
 intro R s σ H x v vl vu y z sl Q I rx Z pl pu h;obtain⟨a,j,rfl,hx,Y,q⟩:=h;cases rx;obtain⟨F,r,J,O⟩:=I.tuple hx;have f:F.toArray.size=j.length:=by rw[Od];exact r.length.symm
 refine⟨"tuple",_,Yj.lookup,J.typeIs,?_⟩;refine HT.getItem_tuple_cut J Z pl pu (by rw[f];exact Y) ?_ (by rw[f];exact O)
 rw[f];refine⟨.ref s.heap.objs.size,_,I.laid (t':=s.toks) (o:=.tup (cutV j y z)) (λb ob q=>Dc _ q) (Mb _) ?_,rfl,q _ (I.hok.fresh (Mb _))⟩;exact⟨Yb (oI j y z) O,_,(r.drop (HT.sIx j.length 0 y)).take (HT.sIx j.length j.length z-HT.sIx j.length 0 y),TupD.new _ _⟩

def jS  (K:Sb):R2:=λx y H Q=>∃a b j f,x=.ref a/\y=.ref b/\Qd K H a j/\Qd K H b f/\j≠[]/\j.length+f.length<=Fb/\
 (f=[]->Q (.ref a) H)/\(f≠[]->∀p,H p=Aa->Q (.ref p) (upd H p (.tup (j++f))))
def Vals.nil_iff    (r:Vals xs us):us=[]↔xs=[]:=by
 cases r with
 |nil=>simp
 |cons _ _=>simp
def fV  : Oc X (rf .Add) (jS X.K):=by
 intro F s σ H x y v u Q I J ry h;obtain⟨a,b,Y,R,rfl,rfl,Z,hb,hx,j,q1,q2⟩:=h;cases J;cases ry;obtain⟨xa,r1,p1,_⟩:=I.tuple Z;obtain⟨f,r2,O,_⟩:=I.tuple hb;refine HT.cat_tup p1 O (λz=>hx (r1.nil_iff.mp z)) (λz=>⟨.ref a,H,I,rfl,q1 (r2.nil_iff.mp z)⟩) (λz=>?_) (by rw[<- r1.length,<- r2.length];exact j)
 refine⟨.ref s.heap.objs.size,_,I.laid (t':=s.toks) (o:=.tup (Y++R)) (λb ob q=>Dc _ q) (Mb _) ?_,rfl,q2 (λw=>z (r2.nil_iff.mpr w)) _ (I.hok.fresh (Mb _))⟩;exact⟨by rw[bg];exact j,_,r1.append r2,TupD.new _ _⟩

noncomputable def mh  (n:Nat)(i:Int):Option Nat:=if 0<=i then (if i<n then ma i.toNat else Aa) else if -(n:Int)<=i then ma (i+n).toNat else Aa
def atI  {f:Type}(xs:List f)(i:Int):Option f:=(mh xs.length i).bind λj=>xs[j]?
def TF     (h:mh n i=ma j):Uv i n=ma j/\j<n/\-(n:Int)<=i/\i<n:=by
 unfold mh at h;by_cases h0:0<=i
 ·rw[if_pos h0]at h;by_cases f:i<n
  ·rw[if_pos f]at h;have e:i.toNat=j:=Hd h;exact⟨by rw[Ll h0 f,e],by lia,by lia,f⟩
  ·rw[if_neg f]at h;cases h
 ·rw[if_neg h0]at h;by_cases f:-(n:Int)<=i
  ·rw[if_pos f]at h;have e:(i+n).toNat=j:=Hd h;exact⟨by rw[BB (by lia) f,e],by lia,f,by lia⟩
  ·rw[if_neg f]at h;cases h
def Uz      (h:atI xs i=ma v):∃j,Uv i xs.length=ma j/\xs[j]?=ma v/\j<xs.length/\-(xs.length:Int)<=i/\i<xs.length:=by
 unfold atI at h;cases e:mh xs.length i with
 |none=>rw[e]at h;cases h
 |some j=>
  rw[e]at h;obtain⟨f,z,y,q⟩:=TF e;exact⟨j,f,h,z,y,q⟩
def Ag    {j:Nat}{v:α}(h:xs[j]?=ma v):atI xs (j:Int)=ma v:=by
 have f:j<xs.length:=(Ba.mp h).1;have e:mh xs.length (j:Int)=ma j:=by
  unfold mh;rw[if_pos (by lia),if_pos (by lia)];simp
 unfold atI;rw[e];exact h
def fA  (b:Na):Prop:=∀o i,subscripted b Ca o i=operate [o,i] (Td o i)
def yj  (X:Cx)(r:R2):Prop:=
 ∀(j f:Na) (pins:List (Ea×Obj)) (s:Fa) (σ:St) (H:Hp) (x y:V) (v u:Da) (Q:VK),Qa X pins σ H s->RelV x v->RelV y u->r x y H Q->
  subscripted f Ca v u=operate [v,u] (Td v u)->wpAny (Ia X.prog X.w) X.A (xw j f v u) (EP X pins σ Q) X.xe s
def Sn  (X:Cx)(id:String)(r:V->List V->Hp->VK->Prop):Prop:=
 ∀(f:List (Ea×Obj)) (s:Fa) (σ:St) (H:Hp) (x:V) (xs:List V) (v:Da) (us:List Da) (Q:VK),Qa X f σ H s->RelV x v->Vals xs us->r x xs H Q->
  wpAny (Ia X.prog X.w) X.A (call (.builtin id) (v::us)) (EP X f σ Q) X.xe s

def yj.or   (h:yj X r)(h':yj X r'):yj X (λx y H Q=>r x y H Q\/r' x y H Q):=by
 intro f j z s J H x y v u Q I F R q O;rcases q with q|q
 ·exact h f j z s J H x y v u Q I F R q O
 ·exact h' f j z s J H x y v u Q I F R q O
def Sn.or  {id:String}(h:Sn X id r)(h':Sn X id r'):Sn X id (λx xs H Q=>r x xs H Q\/r' x xs H Q):=by
 intro f s F H x xs v z Q I j y q;rcases q with q|q
 ·exact h f s F H x xs v z Q I j y q
 ·exact h' f s F H x xs v z Q I j y q
def hQ   (z:yj X r)(J:PE X a ta)(O:PE X b tb)(hs:fA b):PE X (.Subscript a b pos) (ut r ta tb):=by
 intro f s F H Q I h;exact Yp (binT J O I h λv u s2 x y H2 R j Y q=>z a b f s2 F H2 x y v u Q R j Y q (hs _ _))

def rIxL  (K:Sb):R2:=λx y H Q=>∃p f i v,x=.ref p/\y=.int i/\re K H p f/\atI f i=ma v/\Q v H
def rIxT  (K:Sb):R2:=λx y H Q=>∃p f i v,x=.ref p/\y=.int i/\Qd K H p f/\atI f i=ma v/\Q v H
def rIxS  : R2:=λx y H Q=>∃z i c,x=.str z/\y=.int i/\z.length<=Fb/\atI z.cps.toList i=ma c/\Q (.str ⟨#[c]⟩) H
def GV  : yj X (rIxL X.K):=by
 intro O za f s σ H x y v u Q I rx ry h hs;obtain⟨p,xs,i,z,rfl,rfl,hq,he,q⟩:=h;cases rx;obtain⟨t,rfl⟩:=ry;obtain⟨R,r,Y,hz⟩:=I.list hq;obtain⟨j,J,h2,h3,h4,h5⟩:=Uz he;obtain⟨w,ew,xa⟩:=r.get h2;have hl:=r.length;have hn:=Go;have F:EP X f σ Q w s:=⟨z,H,I,xa,q⟩;by_cases h0:0<=i
 ·have Z:i.toNat=j:=by
   rw[Ll h0 h5]at J;exact Hd J
  exact item_listR Y.isList h0 (by lia) (by rw[Z];simpa using ew) F hs
 ·have Z:(i+(R.toArray.size:Int)).toNat=j:=by
   rw[BB (by lia) h4]at J
   rw[Od,<- hl];exact Hd J
  exact aL (x:=w) Y.isList.typeIs sg.lookup
   (wpAny_getItem_list_neg (Q:=λr s'=>r=w/\EP X f σ Q r s') Y.isList (by lia) (by rw[Od]<;>lia) (by lia) (by rw[Z];simpa using ew) ⟨rfl,F⟩) hs
def fT  : yj X (rIxT X.K):=by
 intro F R f s Z H x y v u Q I rx ry h hs;obtain⟨p,xs,i,z,rfl,rfl,hq,he,q⟩:=h;cases rx;obtain⟨t,rfl⟩:=ry;obtain⟨xa,r,Y,hz⟩:=I.tuple hq;obtain⟨j,h1,h2,h3,h4,h5⟩:=Uz he;obtain⟨w,ew,J⟩:=r.get h2;have hl:=r.length;have hn:=Go;have O:EP X f Z Q w s:=⟨z,H,I,J,q⟩;exact aL (x:=w) Y.typeIs slot_tuple_getitem.lookup
  (getItem_tuple (j:=j) (Q:=λr s'=>r=w/\EP X f Z Q r s') Y (by lia) (by lia) (by rw[Od,<- hl];exact h1) (by simpa using ew) ⟨rfl,O⟩) hs
def eT  : yj X rIxS:=by
 intro f F J s σ H x y v u Q I rx Z h Y;obtain⟨z,i,c,rfl,rfl,hz,he,q⟩:=h;obtain⟨t,rfl⟩:=rx;obtain⟨t',rfl⟩:=Z;obtain⟨j,O,h2,h3,h4,h5⟩:=Uz he;have R:z.cps.toList.length=z.length:=by simp[Str.length]
 rw[R]at O h4 h5;have hn:=Go;exact Kl (jr s z t) slot_str_getitem.lookup (getItem_str (c:=c) (by
  have e1:decide (i < -(2 ^ 63:Int))=Ca:=decide_eq_false (by lia)
  have e2:decide (i ≥ 2 ^ 63)=Ca:=decide_eq_false (by lia)
  rw[e1,e2,Bool.or_false]) (by rw[O];simpa using h2) ⟨.str ⟨#[c]⟩,H,I.tok _,⟨_,rfl⟩,q⟩) Y
def Ox  (K:Sb):R2:=λx y H Q=>rIxL K x y H Q\/rIxT K x y H Q\/rIxS x y H Q
def cT  : yj X (Ox X.K):=GV.or (fT.or eT)

def iZ  (f:List Da)(n j:Nat) u:si (·.setIfInBounds j u) { cls:=.type "list",data:=.seq f.toArray n }={ cls:=.type "list",data:=.seq (f.set j u).toArray n }:=by
 simp[si]
def Qa.lst   {j:St}(I:Qa X pins j H s)(h:H p=ma (.lst xs)) :
  ∃(f:List Da) (n:Nat),Vals xs f/\s.heap.get? p=ma { cls:=.type "list",data:=.seq f.toArray n }/\xs.length<=Fb:=by
 obtain⟨z,f,n,r,e⟩:=I.hok p _ h;exact⟨f,n,r,e,z⟩
def Qa.lstUpd   {z:St}{j its':List Da}(I:Qa X pins z H s)(h:H p=ma (.lst xs))
  (J:s.heap.get? p=ma { cls:=.type "list",data:=.seq j.toArray n }) (y:f { cls:=.type "list",data:=.seq j.toArray n }={ cls:=.type "list",data:=.seq its'.toArray F }) (r:Vals ys its') (hz:ys.length<=Fb) t :
  Qa X pins z (upd H p (.lst ys)) { s with heap:=s.heap.update p f,toks:=t }:=by
 have e:(s.heap.update p f).get? p=ma { cls:=.type "list",data:=.seq its'.toArray F }:=by
  rw[oj f J (by rw[y]<;>rfl),y]
 refine I.write (x:=p) (e:=p) (by rw[h];trivial) (.inl rfl) (λb u O q=>(vj _ _ (Ta O)).trans q) ⟨_,e⟩ ?_
 exact⟨hz,its',F,r,e⟩
def nE  : V->V->V->Hp->(Hp->Prop)->Prop:=λo i v H Q=>∃p f k j,o=.ref p/\i=.int k/\H p=ma (.lst f)/\mh f.length k=ma j/\Q (upd H p (.lst (f.set j v)))
def eY  : PSet X nE:=by
 intro y s σ H o i v ov iv u Q I ro ri rv h;obtain⟨p,xs,k,j,rfl,rfl,Z,hj,q⟩:=h;cases ro;obtain⟨t,rfl⟩:=ri;obtain⟨f,n,r,J,hz⟩:=I.lst Z;obtain⟨z,h2,R,Y⟩:=TF hj;have F:=r.length;have hn:=Go;have O:Qa X y σ (upd H p (.lst (xs.set j v))) { s with heap:=s.heap.update p (si (·.setIfInBounds j u)) }:=
  I.lstUpd Z J (iZ f n j u) (r.set rv j) (by rw[jl];exact hz) s.toks
 by_cases h0:0<=k
 ·have hk:k.toNat=j:=by
   rw[Ll h0 Y]at z;exact Hd z
  exact PySem.W.ki_setAt J h0 (by lia) (by rw[Od,<- F];exact Y) (by rw[hk];exact⟨_,O,q⟩)
 ·have hk:(k+(f.toArray.size:Int)).toNat=j:=by
   rw[BB (by lia) R]at z
   rw[Od,<- F];exact Hd z
  exact PySem.W.ki_setBack J (by lia) (by rw[Od,<- F];exact R) (by lia) (by rw[hk];exact⟨_,O,q⟩)

def R0   lo hi n:(Wj lo hi Aa n).1=((HT.sIx n 0 lo:Nat):Int)/\(Wj lo hi Aa n).2.1=((HT.sIx n n hi:Nat):Int)/\(Wj lo hi Aa n).2.2=1:=by
 refine⟨?_,?_,rfl⟩
 ·cases lo with
  |none=>simp[Wj,HT.sIx]
  |some i=>
   simp only[Wj,HT.sIx,fM,show(1:Int)>0 by decide,if_true]
   by_cases h:i<0
   ·simp only[h,if_true]<;>lia
   ·simp only[h,if_false]<;>lia
 ·cases hi with
  |none=>simp[Wj,HT.sIx]
  |some i=>
   simp only[Wj,HT.sIx,fM,show(1:Int)>0 by decide,if_true]
   by_cases h:i<0
   ·simp only[h,if_true]<;>lia
   ·simp only[h,if_false]<;>lia
def M1  (f:List Da) lo hi:Zo f.toArray lo hi Aa=((f.drop (HT.sIx f.length 0 lo)).take (HT.sIx f.length f.length hi-HT.sIx f.length 0 lo)).toArray:=by
 obtain⟨j,q,y⟩:=R0 lo hi f.toArray.size;unfold Zo;rw[j,q,y];simp only[sliceRange_one,pick_run,Od]<;>rfl
def rSlL  (K:Sb):V->Option Int->Option Int->Hp->VK->Prop:=λx j q H Q=>∃a f,x=.ref a/\re K H a f/\∀p,H p=Aa->Q (.ref p) (upd H p (.lst (cutV f j q)))
def FW  : gi X (rSlL X.K):=by
 intro J s σ H x v vl vu y z sl Q I O Z Y R h;obtain⟨a,f,rfl,hx,q⟩:=h;cases O;obtain⟨xa,r,F,hz⟩:=I.list hx;have j:=r.length;refine⟨"list",_,sg.lookup,F.isList.typeIs,?_⟩;refine TC F.isList Z Y R .none (by simp) ?_ (by rw[Od]<;>lia)
 rw[M1,<- j];refine⟨.ref s.heap.objs.size,_,I.laid (t':=s.toks) (o:=.lst (cutV f y z)) (λb ob q=>Dc _ q) (Mb _) ?_,rfl,q _ (I.hok.fresh (Mb _))⟩;exact⟨Yb (oI f y z) hz,_,0,(r.drop (HT.sIx f.length 0 y)).take (HT.sIx f.length f.length z-HT.sIx f.length 0 y),Wd _ rfl⟩

noncomputable def ki  : V->Bool
 |.non=>ua
 |.bl _=>ua
 |.int _=>ua
 |.str _=>ua
 |_=>Ca
noncomputable def Oj  : V->V->Bool
 |.non,.non=>ua
 |.bl a,.bl b=>a==b
 |.bl a,.int b=>(if a then 1 else 0)==b
 |.int a,.bl b=>a==(if b then 1 else 0)
 |.int a,.int b=>a==b
 |.str a,.str b=>a==b
 |_,_=>Ca
def AT      (z:RelV y u)(f:RelV x v)(F:ki y=ua)(q:ki x=ua):Pg A s u v (Oj y x):=by
 cases y with
 |non=>
  cases z;cases x with
  |non=>cases f;exact Pg.same _
  |bl b=>cases f;exact Pg.none_bool b
  |int b=>obtain⟨t,rfl⟩:=f;exact Pg.none_int b t
  |str b=>obtain⟨t,rfl⟩:=f;exact Pg.none_str b t
  |_=>exact absurd (show Ca=ua from q) Pd
 |bl a=>
  cases z;cases x with
  |non=>cases f;exact Pg.bool_none a
  |bl b=>cases f;exact Pg.bool_bool a b
  |int b=>obtain⟨t,rfl⟩:=f;exact Pg.bool_int a b t
  |str b=>obtain⟨t,rfl⟩:=f;exact Pg.bool_str a b t
  |_=>exact absurd (show Ca=ua from q) Pd
 |int a=>
  obtain⟨j,rfl⟩:=z;cases x with
  |non=>cases f;exact Pg.int_none a j
  |bl b=>cases f;exact Pg.int_bool a j b
  |int b=>obtain⟨t,rfl⟩:=f;exact wM a j b t
  |str b=>obtain⟨t,rfl⟩:=f;exact xM a j b t
  |_=>exact absurd (show Ca=ua from q) Pd
 |str a=>
  obtain⟨j,rfl⟩:=z;cases x with
  |non=>cases f;exact Pg.str_none a j
  |bl b=>cases f;exact Pg.str_bool a j b
  |int b=>obtain⟨t,rfl⟩:=f;exact yM a j b t
  |str b=>obtain⟨t,rfl⟩:=f;exact Pg.str_str a j b t
  |_=>exact absurd (show Ca=ua from q) Pd
 |_=>exact absurd (show Ca=ua from F) Pd
def eqU  (x:V)(u:Da):Bool:=match u with
 |.none=>Oj .non x
 |.bool b=>Oj (.bl b) x
 |.int i _=>Oj (.int i) x
 |.str z _=>Oj (.str z) x
 |_=>Ca
def xE    (r:RelV y u)(f:ki y=ua):eqU x u=Oj y x:=by
 cases y with
 |non=>cases r;rfl
 |bl b=>cases r;rfl
 |int i=>obtain⟨t,rfl⟩:=r;rfl
 |str z=>obtain⟨t,rfl⟩:=r;rfl
 |_=>exact absurd (show Ca=ua from f) Pd
theorem yq   : ∀{xs } {us },Vals xs us->xs.all ki=ua->us.any (eqU x)=xs.any λy=>Oj y x
 |_,_,.nil,_=>rfl
 |y::xs,u::us,.cons r t,f=>by
  rw[Ir,Kf]at f;rw[fk,fk,xE r f.1,yq t f.2]
theorem Pq      (q:RelV x v)(j:ki x=ua):∀{xs } {us },Vals xs us->xs.all ki=ua->∀u∈us,Pg A s u v (eqU x u)
 |_,_,.nil,_=>λu hu=>by cases hu
 |y::xs,u::us,.cons r t,f=>λz hu=>by
  rw[Ir,Kf]at f;rcases Sc.mp hu with rfl|hu
  ·rw[xE r f.1];exact AT r q f.1 j
  ·exact Pq q j t f.2 z hu
def Tq  (x:V)(xs:List V):Bool:=xs.any λy=>Oj y x
def uD  (K:Sb)(j:Bool):R2:=λx y H Q=>∃p f,y=.ref p/\(re K H p f\/Qd K H p f)/\ki x=ua/\f.all ki=ua/\Q (.bl (if j then !Tq x f else Tq x f)) H
def AY  : Oc X (Ke .In) (uD X.K Ca):=by
 intro R s σ H x y v u Q I J Y h;obtain⟨p,xs,rfl,j,O,fs,q⟩:=h;cases Y;rcases j with j|j
 ·obtain⟨f,r,z,Z⟩:=I.list j;refine rL (eqU x) z.isList (λw F=>Pq J O r fs w (by simpa using F)) ⟨.bl _,H,I,rfl,?_⟩
  rw[show f.toArray.any (eqU x)=f.any (eqU x) by simp,yq r fs]
  exact q
 ·obtain⟨f,r,z,Z⟩:=I.tuple j;refine WK (eqU x) z (λw F=>Pq J O r fs w (by simpa using F)) ⟨.bl _,H,I,rfl,?_⟩
  rw[show f.toArray.any (eqU x)=f.any (eqU x) by simp,yq r fs]
  exact q
def C1  : Oc X (Ke .NotIn) (uD X.K ua):=by
 intro R s σ H x y v u Q I J Y h;obtain⟨p,xs,rfl,j,O,fs,q⟩:=h;cases Y;rcases j with j|j
 ·obtain⟨f,r,z,Z⟩:=I.list j;refine ZL (eqU x) z.isList (λw F=>Pq J O r fs w (by simpa using F)) ⟨.bl _,H,I,rfl,?_⟩
  rw[show f.toArray.any (eqU x)=f.any (eqU x) by simp,yq r fs]
  exact q
 ·obtain⟨f,r,z,Z⟩:=I.tuple j;refine BL (eqU x) z (λw F=>Pq J O r fs w (by simpa using F)) ⟨.bl _,H,I,rfl,?_⟩
  rw[show f.toArray.any (eqU x)=f.any (eqU x) by simp,yq r fs]
  exact q
def Vf.or    (h:Vf X f r)(h':Vf X f r'):Vf X f (λxs H Q=>r xs H Q\/r' xs H Q):=by
 intro j s z H xs y Q I F q;rcases q with q|q
 ·exact h j s z H xs y Q I F q
 ·exact h' j s z H xs y Q I F q
def WZ  : Vf X (.type "list") (λxs H Q=>∃p ys,xs=[.ref p]/\(re X.K H p ys\/Qd X.K H p ys)/\∀l,H l=Aa->Q (.ref l) (upd H l (.lst ys))):=by
 intro Y s σ H xs us Q I r h;obtain⟨p,ys,rfl,F,q⟩:=h;obtain⟨u,rfl,rx⟩:=Eh r;cases rx;have O:∀(f:List Da),Vals ys f->ys.length<=Fb->∀(j:Cb) (z:Nat),(∀b o',s.heap.get? b=ma o'->j.get? b=ma o')->
   j.get? s.heap.objs.size=ma { cls:=.type "list",dict:=Aa,data:=.seq f.toArray z,slots:=#[] }->EP X Y σ Q (.ref s.heap.objs.size) { s with heap:=j }:=λf y R j z kp e=>
  ⟨.ref s.heap.objs.size,_,I.laid (t':=s.toks) kp (Mb _) (show Me X.prog X.w _ j _ (.lst ys)from⟨R,f,z,y,e⟩),rfl,q _ (I.hok.fresh (Mb _))⟩
 rcases F with F|F
 ·obtain⟨f,y,Z,R⟩:=I.list F;have J:=y.length;obtain⟨o,ho,hc,n,hd⟩:=Z.isList;exact call_list_seq p (.inl rfl) ho hc hd (λj z kp e=>O f y R j z kp e) (by simp only[Od]<;>lia)
 ·obtain⟨f,y,Z,R⟩:=I.tuple F;have J:=y.length;obtain⟨o,ho,hc,n,hd⟩:=Z;exact call_list_seq p (.inr rfl) ho hc hd (λj z kp e=>O f y R j z kp e) (by simp only[Od]<;>lia)
def Z0  : Vf X (.type "tuple") (λxs H Q=>∃p ys,xs=[.ref p]/\((re X.K H p ys/\∀l,H l=Aa->Q (.ref l) (upd H l (.tup ys)))\/(Qd X.K H p ys/\Q (.ref p) H))):=by
 intro f s O H xs us Q I r h;obtain⟨p,ys,rfl,h⟩:=h;obtain⟨u,rfl,rx⟩:=Eh r;cases rx;rcases h with⟨z,q⟩|⟨z,q⟩
 ·obtain⟨j,F,J,Z⟩:=I.list z;have R:=F.length;refine call_tuple_list J.isList (λy kp=>?_) (by simp only[Od]<;>lia)
  have Y:Qa X f O H { s with heap:=y }:=I.kept (t':=s.toks) kp
  have I2:Qa X f O (upd H y.objs.size (.tup ys)) { s with heap:=y.push { cls:=.type "tuple",data:=.seq j.toArray } }:=
   Y.laid (t':=s.toks) (λb o e=>Dc _ e) (Mb _) (show Me X.prog X.w _ _ _ (.tup ys)from⟨Z,j,F,TupD.new _ _⟩)
  exact⟨.ref y.objs.size,_,I2,rfl,q _ (Y.hok.fresh (Mb _))⟩
 ·obtain⟨j,F,J,Z⟩:=I.tuple z;exact call_tuple_same J ⟨.ref p,H,I,rfl,q⟩

def Jx  (K:Sb)(T:String)(x:V)(H:Hp):Prop:=match x with
 |.str _=>T = "str"
 |.int _=>T = "int"
 |.ref p=>(T = "list" /\ ∃j,re K H p j)\/(T = "tuple" /\ ∃o,K.lookup p=ma o/\o.cls=.type "tuple" /\ o.dict=Aa)\/
   (T = "dict" /\ ((∃f,H p=ma (.dK f))\/∃f,H p=ma (.dT f)))\/(T = "set" /\ ∃S n,H p=ma (.set S n))\/(T = "tuple" /\ ∃j,H p=ma (.tup j))
 |_=>False
def aF   {Z:St}(I:Qa X pins Z H s)(r:RelV x v)(q:Jx X.K T x H) :
  s.TypeIs v T/\∀a,v=.ref a->∃J,s.heap.get? a=ma J/\J.dict=Aa:=by
 cases x with
 |str z=>
  obtain⟨t,rfl⟩:=r;cases(show T = "str" from q);exact⟨jr s z t,λ_ e=>nomatch e⟩
 |int i=>
  obtain⟨t,rfl⟩:=r;cases(show T = "int" from q);exact⟨br s i t,λ_ e=>nomatch e⟩
 |ref p=>
  cases r;rcases q with⟨rfl,R,Y⟩|⟨rfl,o,hk,hc,hd⟩|⟨rfl,hk⟩|⟨rfl,S,n,hk⟩|⟨rfl,R,hk⟩
  ·obtain⟨F,_,O,_⟩:=I.list Y;refine⟨O.isList.typeIs,λa e=>?_⟩;cases e;obtain⟨o,n,e,c,hd,_⟩:=O;exact⟨o,e,hd⟩
  ·refine⟨⟨o,I.kIn p o hk,hc⟩,λa e=>?_⟩;cases e;exact⟨o,I.kIn _ o hk,hd⟩
  ·have z:∃o,s.heap.get? p=ma o/\o.ExactDict:=by
    rcases hk with⟨y,hk⟩|⟨y,hk⟩
    ·obtain⟨_,_,_,_,o,_,_,e,f,_⟩:=I.hok p _ hk;exact⟨o,e,f⟩
    ·obtain⟨_,_,_,_,o,_,_,e,f,_⟩:=I.hok p _ hk;exact⟨o,e,f⟩
   obtain⟨o,e,f⟩:=z;refine⟨⟨o,e,f.1⟩,λa j=>?_⟩;cases j;exact⟨o,e,f.2.1⟩
  ·obtain⟨o,_,_,_,e,f,_⟩:=I.hok p _ hk;refine⟨⟨o,e,f.1⟩,λa j=>?_⟩;cases j;exact⟨o,e,f.2.1⟩
  ·obtain⟨_,F,r,o,e,c,n,d,hd⟩:=(show Me X.prog X.w H s.heap p (.tup R)from I.hok p _ hk);refine⟨⟨o,e,c⟩,λa j=>?_⟩;cases j;exact⟨o,e,hd⟩
 |_=>exact xp q


def xx  (X:Cx)(id:String)(r:V->List V->Hp->VK->Prop):Prop:=
 ∀(f:List (Ea×Obj)) (s:Fa) (σ:St) (H:Hp) (x:V) (xs:List V) (v:Da) (us:List Da) (Q:VK),Qa X f σ H s->RelV x v->Vals xs us->r x xs H Q->
  wpAny (Ia X.prog X.w) X.A (call (.builtin id) (v::us)) (EP X f σ Q) X.xe s

def Vals.one  : ∀{x } {us },Vals [x] us->∃u,us=[u]/\RelV x u
 |_,_,.cons r .nil=>⟨_,rfl,r⟩
def Vals.two  : ∀{x y } {us },Vals [x,y] us->∃u v,us=[u,v]/\RelV x u/\RelV y v
 |_,_,_,.cons r (.cons q .nil)=>⟨_,_,rfl,r,q⟩
def Vals.zero  : ∀{us },Vals [] us->us=[]
 |_,.nil=>rfl
theorem Vals.dropLast    (h:Vals xs us):Vals xs.dropLast us.dropLast:=by
 induction h with
 |nil=>exact .nil
 |cons r t f=>
  cases t with
  |nil=>exact .nil
  |cons q j=>exact .cons r f
theorem Vals.eraseIdx  : ∀{xs } {us } i ,Vals xs us->Vals (xs.eraseIdx i) (us.eraseIdx i)
 |_,_,_,.nil=>.nil
 |_,_,0,.cons _ t=>t
 |_,_,i+1,.cons r t=>.cons r (Vals.eraseIdx i t)
theorem Vals.rep    (h:Vals xs us):∀k ,Vals (Zb k xs).flatten (Zb k us).flatten
 |0=>.nil
 |k+1=>by
  rw[Xj,Xj,Hn,Hn];exact Vals.append h (Vals.rep h k)
def cZ  {j:Type}(l:List j):l.eraseIdx (l.length-1)=l.dropLast:=by
 induction l with
 |nil=>rfl
 |cons a r f=>
  cases r with
  |nil=>rfl
  |cons b r=>
   have e:(a::b::r).length-1=((b::r).length-1)+1:=by
    have q:(a::b::r).length=r.length+2:=rfl;have y:(b::r).length=r.length+1:=rfl
    lia
   rw[e,List.eraseIdx_cons_succ,f]
   all_goals rfl
theorem JH  {f:Type}:∀(l:List f) i ,(l.eraseIdx i).length<=l.length
 |[],_=>Mb _
 |_::_,0=>qp _
 |_::r,i+1=>Iw (JH r i)
theorem oA  (f:List Da):∀k (acc:List Da),
  yr (λx1 q=>x1++q) acc.toArray (Zb k f.toArray)=(acc++(Zb k f).flatten).toArray
 |0,acc=>by simp
 |k+1,acc=>by
  have e:acc.toArray++f.toArray=(acc++f).toArray:=by simp
  have j:(acc++f)++(Zb k f).flatten=acc++(Zb (k+1) f).flatten:=by
   rw[Xj,Hn,sf]
  rw[<- j,<- oA f k (acc++f),<- e,Xj,Qw]

section
variable {X:Cx}{pins:List (Ea×Obj)}{σ:St}{H:Hp}{s:Fa}{l b:Ea}{xs ys zs:List V}

def Qa.lset  {j its':List Da}(I:Qa X pins σ H s)(J:H l=ma (.lst xs))
  (e:s.heap.get? l=ma { cls:=.type "list",data:=.seq j.toArray n }) (z:f j.toArray=its'.toArray) (y:Vals ys its') (hz:ys.length<=Fb) :
  Qa X pins σ (upd H l (.lst ys)) { s with heap:=s.heap.update l (si f),toks:=t' }:=by
 have q:=PySem.IsL.update e f;rw[z]at q;refine I.write (x:=l) (e:=l) (by rw[J];exact trivial) (.inl rfl) (λO u F hu=>(vj s.heap (si f) (Ta F)).trans hu) ⟨_,q⟩ ?_
 exact⟨hz,its',_,y,q⟩
def Qa.lnew    (I:Qa X pins σ H s)(j:Vals ys f)(hz:ys.length<=Fb) :
  Qa X pins σ (upd H s.heap.objs.size (.lst ys)) { s with heap:=s.heap.push { cls:=.type "list",data:=.seq f.toArray },toks:=t' }:=
 I.laid (λ_ _ q=>Dc _ q) (Mb _) ⟨hz,f,0,j,Wd _ rfl⟩
def Qa.fresh  (I:Qa X pins σ H s):H s.heap.objs.size=Aa:=I.hok.fresh (Mb _)
def Qa.lstM  (I:Qa X pins σ H s)(j:H l=ma (.lst xs)):xs.length<=Fb/\∃(f:List Da) (n:Nat),Vals xs f/\xs.length=f.length/\s.heap.get? l=ma { cls:=.type "list",data:=.seq f.toArray n }:=by
 obtain⟨z,f,n,r,e⟩:=I.hok l _ j;exact⟨z,f,n,r,r.length,e⟩

def wG   (h:n<=Fb):Vw n=Ca:=by
 unfold Vw;exact decide_eq_false (by lia)
end


def xW  : V->List V->Hp->VK->Prop:=λx j H Q=>∃l f y,x=.ref l/\j=[y]/\H l=ma (.lst f)/\f.length<Fb/\Q .non (upd H l (.lst (f++[y])))
def LH  : xx X "list.append" xW:=by
 intro j s σ H x vs v us Q I O Y h;obtain⟨l,xs,y,rfl,rfl,J,hz,q⟩:=h;cases O;obtain⟨u,rfl,R⟩:=Y.one;obtain⟨z,f,n,r,Z,e⟩:=I.lstM J;refine Zh F.slot_list_append ⟨_,e,rfl⟩ F.entry_list_append (F.args_list_append_2 _ _) (PySem.list_append l f.toArray n u (by rw[Od];lia)) ⟨e,?_⟩
 refine⟨.non,_,I.lset (its':=f++[u]) J e (by simp) (r.append (.cons R .nil)) ?_,rfl,q⟩
 rw[bg,Gw]
 lia

def yW  : V->List V->Hp->VK->Prop:=λx q H Q=>∃l b j f,x=.ref l/\q=[.ref b]/\H l=ma (.lst j)/\H b=ma (.lst f)/\j.length+f.length<=Fb/\Q .non (upd H l (.lst (j++f)))
def TY  : xx X "list.extend" yW:=by
 intro R s σ H x vs v us Q I Y rv h;obtain⟨l,b,xs,zs,rfl,rfl,O,hB,hz,q⟩:=h;cases Y;obtain⟨u,rfl,ru⟩:=rv.one;cases ru;obtain⟨z,j,n,r,hl,e⟩:=I.lstM O;obtain⟨z2,f,n2,r2,Z,e2⟩:=I.lstM hB;have J:j.toArray.size+f.toArray.size<=Fb:=by rw[Od,Od];lia
 have y:¬(!j.toArray.isEmpty&&Vw (j.toArray.size+f.toArray.size))=ua:=by
  rw[wG J,Bool.and_false];exact Pd
 refine Zh F.slot_list_extend ⟨_,e,rfl⟩ F.entry_list_extend (F.args_list_extend_2 _ _)
  (AutoSeq1.list_extend_list_list_0 l j.toArray n b f.toArray n2 y (by rw[Od];lia) (by lia)) ⟨e,e2,?_⟩
 refine⟨.non,_,I.lset (its':=j++f) O e (by simp) (r.append r2) ?_,rfl,q⟩
 rw[bg]
 lia

def rPop  : V->List V->Hp->VK->Prop:=λx j H Q=>∃l f y,x=.ref l/\j=[]/\H l=ma (.lst f)/\f[f.length-1]?=ma y/\Q y (upd H l (.lst f.dropLast))
def mt_pop  : xx X "list.pop" rPop:=by
 intro O s σ H x vs v us Q I rx rv h;obtain⟨l,xs,y,rfl,rfl,R,Z,q⟩:=h;cases rx;have J:=rv.zero;subst J;obtain⟨z,f,n,r,Y,e⟩:=I.lstM R;obtain⟨u,hu,ru⟩:=r.get Z;have j:f.toArray[f.toArray.size-1]?=ma u:=by
  show f.toArray[f.length-1]?=ma u;rw[<- af,<- Y];exact hu
 refine Zh F.slot_list_pop ⟨_,e,rfl⟩ F.entry_list_pop (F.args_list_pop_1 _) (MeetsSeq.list_pop_last l f.toArray n u j (by rw[Od];lia)) ⟨e,?_⟩
 refine⟨y,_,I.lset (its':=f.dropLast) R e ?_ r.dropLast ?_,ru,q⟩
 ·show f.toArray.eraseIdxIfInBounds (f.toArray.size-1)=f.dropLast.toArray;rw[Od,PM,cZ]
 ·rw[List.length_dropLast]
  lia

def tU  : V->List V->Hp->VK->Prop:=λx j H Q=>∃l f i k y,x=.ref l/\j=[.int i]/\H l=ma (.lst f)/\-(2 ^ 63)<=i/\i<2 ^ 63/\Uv i f.length=ma k/\f[k]?=ma y/\Q y (upd H l (.lst (f.eraseIdx k)))
def oX  : xx X "list.pop" tU:=by
 intro J s σ H x vs v us Q I Z rv h;obtain⟨l,xs,i,k,y,rfl,rfl,O,h1,h2,hk,Y,q⟩:=h;cases Z;obtain⟨u,rfl,ru⟩:=rv.one;obtain⟨t,rfl⟩:=ru;obtain⟨z,f,n,r,R,e⟩:=I.lstM O;obtain⟨w,hw,j⟩:=r.get Y;refine Zh F.slot_list_pop ⟨_,e,rfl⟩ F.entry_list_pop (F.args_list_pop_2 _ _)
  (MeetsSeq.list_pop_at l f.toArray n i t k w (fitsIndex_both h1 h2) (by rw[Od,<- R];exact hk) (by rw[<- af];exact hw) (by rw[Od];lia)) ⟨e,?_⟩
 refine⟨y,_,I.lset (its':=f.eraseIdx k) O e ?_ (r.eraseIdx k) ?_,j,q⟩
 ·show f.toArray.eraseIdxIfInBounds k=(f.eraseIdx k).toArray;rw[PM]
 ·have:=JH xs k
  lia

def rCat  : R2:=λx y H Q=>∃l b j f,x=.ref l/\y=.ref b/\H l=ma (.lst j)/\H b=ma (.lst f)/\j.length+f.length<=Fb/\∀p,H p=Aa->Q (.ref p) (upd H p (.lst (j++f)))
def AS  : Oc X (rf .Add) rCat:=by
 intro F s σ H x y v u Q I J Y h;obtain⟨l,b,xs,zs,rfl,rfl,hH,hB,hz,q⟩:=h;cases J;cases Y;obtain⟨z,j,n,r,hl,e⟩:=I.lstM hH;obtain⟨z2,f,n2,r2,Z,R⟩:=I.lstM hB;refine PySem.P.add_list e R ?_ (by rw[Od,Od];lia)
 have O:j.toArray++f.toArray=(j++f).toArray:=by simp
 rw[O];exact⟨.ref _,_,I.lnew (t':=s.toks) (r.append r2) (by rw[bg];lia),rfl,q _ I.fresh⟩
def rRep  : R2:=λx y H Q=>∃l k f,x=.ref l/\y=.int k/\H l=ma (.lst f)/\-(2 ^ 63)<=k/\k<2 ^ 63/\f.length*k.toNat<=Fb/\
 ∀p,H p=Aa->Q (.ref p) (upd H p (.lst (Zb k.toNat f).flatten))
def eA  {j:Type}(xs:List j) k:(Zb k xs).flatten.length=k*xs.length:=by
 induction k with
 |zero=>simp
 |succ k f=>rw[Xj,Hn,bg,f,Nat.succ_mul,Nat.add_comm]
def KS  : Oc X (rf .Mult) rRep:=by
 intro xa s σ H x y v u Q I rx ry h;obtain⟨l,k,xs,rfl,rfl,hH,h1,h2,hz,q⟩:=h;cases rx;obtain⟨t,rfl⟩:=ry;obtain⟨z,f,n,r,hl,e⟩:=I.lstM hH;have Y:f.toArray.size*k.toNat<=Fb:=by rw[Od,<- hl];exact hz
 have R:¬f.toArray.size*k.toNat>(2 ^ 63-1)/8:=by
  have:(Fb:Nat)<=(2 ^ 63-1)/8:=by decide
  lia
 have O:¬(!Builtin.List.listFitsIndex k)=ua:=by
  rw[fitsIndex_both h1 h2];exact Pd
 have j:¬Vw (f.toArray.size*k.toNat)=ua:=by
  rw[wG Y];exact Pd
 have J:yr (λx1 Z=>x1++Z) #[] (Zb (if f.toArray.isEmpty=ua then 0 else k.toNat) f.toArray)=(Zb k.toNat f).flatten.toArray:=by
  have f0:∀m:Nat,yr (λx1 Z=>x1++Z) #[] (Zb m f.toArray)=(Zb m f).flatten.toArray:=λm=>by
   have:=oA f m [];rw[Qi]at this;exact this
  rw[f0];cases f with
  |nil=>simp
  |cons a r'=>rw[if_neg (by simp)]
 refine DL (T := "list") (U := "int") (by decide) ⟨_,e,rfl⟩ (λs'=>br s' k t) noFill_list_mul F.fills_int_mul iw repeat_list F.slot_int_index.lookup
  (Zh iw (br s k t) F.entry_int_rmul (F.args_int_rmul_2 _ _) (int___rmul___int_list k t l f.toArray n)
   ⟨e,rfl,⟨_,e,rfl⟩,Zh F.slot_list_mul ⟨_,e,rfl⟩ F.entry_list_mul (F.args_list_mul_2 _ _) (AutoListH.list___mul___list_int_3 l f.toArray n k t O R j) ⟨e,?_⟩⟩)
 rw[J];exact⟨.ref _,_,I.lnew (t':=s.toks) (r.rep k.toNat) (by rw[eA,sw];exact hz),rfl,q _ I.fresh⟩






section
variable {κ:Type}[DecidableEq κ]
noncomputable def valV (kvs:List (κ×V))(k:κ):Option V:=(kvs.find? λf=>decide (f.1=k)).map (·.2)
noncomputable def putK (kvs:List (κ×V))(k:κ)(v:V):List (κ×V):=
 if (kvs.any λf=>decide (f.1=k))=ua then kvs.map (λf=>if f.1=k then (f.1,v) else f) else kvs++[(k,v)]
def vv    {k:κ}(e:p.1=k):valV (p::r) k=ma p.2:=by simp[valV,sj,e]
def uv    {k:κ}(e:¬p.1=k):valV (p::r) k=valV r k:=by simp[valV,sj,e]
theorem tH  (k:κ):∀kvs ,(kvs.any λf=>decide (f.1=k))=(valV kvs k).isSome
 |[]=>rfl
 |p::r=>by
  rw[fk];by_cases e:p.1=k
  ·simp only[vv e,decide_eq_true e,Bool.true_or,Option.isSome_some]
  ·rw[uv e,decide_eq_false e,rC];exact tH k r
def MA  (kvs:List (κ×V)) k v:(putK kvs k v).length<=kvs.length+1:=by
 unfold putK;split
 ·rw[Hb];lia
 ·rw[bg,Zf,Cp];lia
def RelO.isSome_eq    (r:RelO o u):o.isSome=u.isSome:=by
 cases o with
 |none=>cases u with
  |none=>rfl
  |some _=>exact(show False from r).elim
 |some _=>cases u with
  |none=>exact(show False from r).elim
  |some _=>rfl
theorem RelO.getD      (r:RelO o u)(rd:RelV d d'):RelV (o.getD d) (u.getD d'):=by
 cases o with
 |none=>cases u with
  |none=>exact rd
  |some _=>exact(show False from r).elim
 |some _=>cases u with
  |none=>exact(show False from r).elim
  |some _=>exact r

def KV.val    (r:KV kvs vs)(k:κ):RelO (valV kvs k) (rg vs k):=by
 unfold KV at r
 induction r with
 |nil=>exact Ni
 |@cons p q J j h t F=>
  obtain⟨y,I⟩:=h;by_cases e:p.1=k
  ·have f:q.1=k:=y.symm.trans e;have b:rg (q::j) k=ma q.2:=by simp[rg,sj,f]
   rw[vv e,b];exact I
  ·have f:¬q.1=k:=λz=>e (y.trans z);have b:rg (q::j) k=rg j k:=by simp[rg,sj,f]
   rw[uv e,b];exact F
theorem KV.any    (r:KV kvs vs)(k:κ):(kvs.any λf=>decide (f.1=k))=vs.any λf=>decide (f.1=k):=by
 unfold KV at r
 induction r with
 |nil=>rfl
 |cons h t j=>rw[fk,fk,j,h.1]
def KV.repl    (r:KV kvs vs)(k:κ)(I:RelV y u) :
  KV (kvs.map λf=>if f.1=k then (f.1,y) else f) (vs.map λf=>if f.1=k then (f.1,u) else f):=by
 unfold KV at r ⊢
 induction r with
 |nil=>exact .nil
 |@cons p q O R h t F=>
  rw[Se,Se];refine .cons ?_ F;obtain⟨j,J⟩:=h;by_cases e:p.1=k
  ·rw[if_pos e,if_pos (j.symm.trans e)];exact⟨j,I⟩
  ·rw[if_neg e,if_neg (λz=>e (j.trans z))];exact⟨j,J⟩
def KV.put    (r:KV kvs vs)(k:κ)(f:RelV y u):KV (putK kvs k y) (stored vs k u):=by
 unfold putK stored;rw[r.any k];by_cases e:(vs.any λj=>decide (j.1=k))=ua
 ·rw[if_pos e,if_pos e];exact r.repl k f
 ·rw[if_neg e,if_neg e];exact ce.snoc r ⟨rfl,f⟩
def KV.length {kvs:List (κ×V)}{vs:List (κ×Da)}(r:KV kvs vs):kvs.length=vs.length:=dw r
end

def Lm      (r:RelV (kV k) u):(He P w).is k u=ua:=by
 cases k with
 |inl i=>obtain⟨t,e⟩:=(show ∃t,u=qi i t from r);subst e;exact O0 P w i t
 |inr x=>obtain⟨t,e⟩:=(show ∃t,u=bw x t from r);subst e;exact P0 P w x t
theorem IH    : ∀{ks } {us },Vals (ks.map kV) us->ItemsAre (He P w) ks us
 |[],_,r=>by rw[Lr]at r;cases r;exact .nil
 |k::ks,_,r=>by
  rw[Se]at r;cases r with
  |cons h t=>exact .cons (Lm h) (IH t)

abbrev KT  (H:Hp):List (List uc×V)->List (List uc×Ea×Da)->Prop:=ce λp q=>p.1=q.1/\H q.2.1=ma (.tup (p.1.map kV))/\RelV p.2 q.2.2
def KT.val     (r:KT H kvs xs) k:RelO (valV kvs k) ((Oh xs k).map (·.2)):=by
 induction r with
 |nil=>exact Ni
 |@cons p q J j h t F=>
  obtain⟨y,_,I⟩:=h;by_cases e:p.1=k
  ·have f:q.1=k:=y.symm.trans e;have b:Oh (q::j) k=ma q.2:=by simp[Oh,sj,f]
   rw[vv e,b];exact I
  ·have f:¬q.1=k:=λz=>e (y.trans z);have b:Oh (q::j) k=Oh j k:=by simp[Oh,sj,f]
   rw[uv e,b];exact F
def KT.repl     (r:KT H kvs xs) k (J:RelV y u) :
  KT H (kvs.map λj=>if j.1=k then (j.1,y) else j) (xs.map (putAt k u)):=by
 induction r with
 |nil=>exact .nil
 |@cons p q R Y h t I=>
  rw[Se,Se];refine .cons ?_ I;obtain⟨f,F,O⟩:=h;unfold putAt;by_cases e:p.1=k
  ·rw[if_pos e,if_pos (f.symm.trans e)];exact⟨f,F,J⟩
  ·rw[if_neg e,if_neg (λz=>e (f.trans z))];exact⟨f,F,O⟩
def KT.put     (r:KT H kvs xs)(k:List uc)(j:H b=ma (.tup (k.map kV)))(f:RelV y u) :
  KT H (putK kvs k y) (storedH xs k b u):=by
 have e:(kvs.any λz=>decide (z.1=k))=(Oh xs k).isSome:=by
  rw[tH,(r.val k).isSome_eq,Nw]
 unfold putK storedH;rw[e];by_cases q:(Oh xs k).isSome=ua
 ·rw[if_pos q,if_pos q];exact r.repl k f
 ·rw[if_neg q,if_neg q];exact ce.snoc r ⟨rfl,j,f⟩
def KT.keeps     (r:KT H kvs xs)(f:∀b ys,H b=ma (.tup ys)->H' b=ma (.tup ys)):KT H' kvs xs:=
 Paired.mapP r λ_ _ z=>⟨z.1,f _ _ z.2.1,z.2.2⟩


def oE   (ok:Ge P w H h)(e:Rd H a u):Me P w H h a u:=e.ok ok
def Hj   (ok:Ge P w H h)(e:Rd H a (.dK kvs)):kvs.length<=Fb/\(a==Jf)=Ca/\∃vs,KV kvs vs/\h.DictOf (He P w) a vs:=
 show Me P w H h a (.dK kvs)from oE ok e
def MD   (ok:Ge P w H h)(e:H a=ma (.dK kvs)):kvs.length<=Fb/\(a==Jf)=Ca/\∃vs,KV kvs vs/\h.DictOf (He P w) a vs:=Hj ok (.inl e)
def Fo   (ok:Ge P w H h)(e:H a=ma (.tup (ks.map kV))):(ap (He P w)).is h ks a:=by
 obtain⟨_,f,r,o,j,q,n,y,_⟩:=(show Me P w H h a (.tup (ks.map kV))from ok a _ e);exact⟨o,f.toArray,n,j,q,y,by simpa using IH r⟩
def Km   (ok:Ge P w H h)(e:Rd H a (.dT kvs)):kvs.length<=Fb/\(a==Jf)=Ca/\
  ∃xs,KT H kvs xs/\h.DictOfH (ap (He P w)) a xs:=by
 obtain⟨z,y,xs,r,o,Y,J,I,h2,O,R,Z⟩:=(show Me P w H h a (.dT kvs)from oE ok e);refine⟨z,y,xs,r,o,Y,J,I,h2,O,R,λx f=>?_,Z⟩;have all:∀{l:List (List uc×V)} {m:List (List uc×Ea×Da)},KT H l m->∀x∈m,(ap (He P w)).is h x.1 x.2.1:=by
  intro l m q
  induction q with
  |nil=>intro x f;exact nomatch f
  |@cons p q ps qs j t F=>
   intro x f;rcases Sc.mp f with e|f
   ·subst e;exact Fo ok (by rw[<- j.1];exact j.2.1)
   ·exact F x f
 exact all r x f
def IQ   (ok:Ge P w H h)(e:H a=ma (.dT kvs)):kvs.length<=Fb/\(a==Jf)=Ca/\
  ∃xs,KT H kvs xs/\h.DictOfH (ap (He P w)) a xs:=Km ok (.inl e)

def DGet  (H:Hp)(a:Ea)(y:V)(r:Option V):Prop:=
 (∃f k,Rd H a (.dK f)/\y=kV k/\r=valV f k)\/∃f k b,Rd H a (.dT f)/\y=.ref b/\H b=ma (.tup (k.map kV))/\r=valV f k
def DPut  (H:Hp)(a:Ea)(y v:V)(j:Hp):Prop:=
 (∃f k,H a=ma (.dK f)/\y=kV k/\f.length<Fb/\j=upd H a (.dK (putK f k v)))\/
 ∃f k b,H a=ma (.dT f)/\y=.ref b/\H b=ma (.tup (k.map kV))/\f.length<Fb/\j=upd H a (.dT (putK f k v))
def DGet.k     {k:uc}(e:H a=ma (.dK kvs)):DGet H a (kV k) (valV kvs k):=.inl ⟨kvs,k,.inl e,rfl,rfl⟩
def DGet.t     {k:List uc}(e:H a=ma (.dT kvs))(f:H b=ma (.tup (k.map kV))):DGet H a (.ref b) (valV kvs k):=.inr ⟨kvs,k,b,.inl e,rfl,f,rfl⟩
def DPut.k     {k:uc}(e:H a=ma (.dK kvs))(f:kvs.length<Fb):DPut H a (kV k) v (upd H a (.dK (putK kvs k v))):=.inl ⟨kvs,k,e,rfl,f,rfl⟩
def DPut.t     {k:List uc}(e:H a=ma (.dT kvs))(j:H b=ma (.tup (k.map kV)))(f:kvs.length<Fb) :
  DPut H a (.ref b) v (upd H a (.dT (putK kvs k v))):=.inr ⟨kvs,k,b,e,rfl,j,f,rfl⟩


def Qa.big  {f: St}(I:Qa X pins f H s):Jf<s.heap.objs.size:=by
 have h:Df<s.heap.objs.size:=(I.mod.glob.keeps I.bk).lt;exact xr (by decide) h

def GX  {Z: St}(hu:A.units+1<Ec)(I:Qa X pins Z H s)(g:DGet H a y (ma v))(ry:RelV y u)(h:∀q s',Qa X pins Z H s'->RelV v q->Q q s') :
  wpAny (Ia X.prog X.w) A (Td (.ref a) u) Q E s:=by
 rcases g with⟨O,k,e,R,l⟩|⟨O,k,b,e,R,eb,l⟩
 ·subst R;obtain⟨z,hd,vs,j,Y⟩:=Hj I.hok e;obtain⟨q,J,f⟩:=RelO.some_of (v:=v) (o:=rg vs k) (by rw[l];exact j.val k)
  exact wpAny_getItem_of (Lm ry) Y.mapOf J (h q _ (I.tok _) f)
 ·subst R;cases(show u=gh b from ry);obtain⟨z,hd,xs,j,Y⟩:=Km I.hok e;obtain⟨q,J,f⟩:=RelO.some_of (v:=v) (o:=(Oh xs k).map (·.2)) (by rw[l];exact j.val k)
  obtain⟨p,hp,F⟩:=Option.map_eq_some_iff.mp J;refine wpAny_getItem_heap (Hs hu) (Fo I.hok eb) Y hp ?_;rw[F];exact h q _ (I.tok _) f
def d_in  {O: St}(hu:A.units+1<Ec)(I:Qa X pins O H s)(g:DGet H a y o)(R:RelV y u)(h:∀s',Qa X pins O H s'->Q (.bool o.isSome) s') :
  wpAny (Ia X.prog X.w) A (Ke .In u (.ref a)) Q E s:=by
 rcases g with⟨j,k,e,F,l⟩|⟨j,k,b,e,F,eb,l⟩
 ·subst F;obtain⟨z,hd,Z,f,J⟩:=Hj I.hok e;refine wpAny_in_of (Lm R) hd J.mapOf ?_;rw[<- (f.val k).isSome_eq,<- l];exact h _ (I.tok _)
 ·subst F;cases(show u=gh b from R);obtain⟨z,hd,Y,f,J⟩:=Km I.hok e;refine wpAny_in_heap (Hs hu) (Fo I.hok eb) hd J ?_;have q:=(f.val k).isSome_eq;rw[Nw]at q;rw[<- q,<- l];exact h _ (I.tok _)
def UV  {O: St}(hu:A.units+1<Ec)(I:Qa X pins O H s)(g:DGet H a y o)(R:RelV y u)(h:∀s',Qa X pins O H s'->Q (.bool (!o.isSome)) s') :
  wpAny (Ia X.prog X.w) A (Ke .NotIn u (.ref a)) Q E s:=by
 rcases g with⟨j,k,e,F,l⟩|⟨j,k,b,e,F,eb,l⟩
 ·subst F;obtain⟨z,hd,Z,f,J⟩:=Hj I.hok e;refine wpAny_notIn_of (Lm R) hd J.mapOf ?_;rw[<- (f.val k).isSome_eq,<- l];exact h _ (I.tok _)
 ·subst F;cases(show u=gh b from R);obtain⟨z,hd,Y,f,J⟩:=Km I.hok e;refine wpAny_notIn_heap (Hs hu) (Fo I.hok eb) hd J ?_;have q:=(f.val k).isSome_eq;rw[Nw]at q;rw[<- q,<- l];exact h _ (I.tok _)
def Wz  {j: St}(I:Qa X pins j H s)(J:Rs (H a))(hs:lj a s.heap h')(y:∃q,h'.get? a=ma q)(new:Me X.prog X.w (upd H a f) h' a f) :
  Qa X pins j (upd H a f) { s with heap:=h',toks:=t' }:=
 I.write (x:=a) (e:=a) J (.inl rfl) (λb q F z=>(hs.2 b F).trans z) y new
def vE        (z:kvs.length<=Fb)(hd:(a==Jf)=Ca)(f:KV kvs vs)(j:h'.DictOf (He P w) a vs) :
  Me P w H' h' a (.dK kvs):=⟨z,hd,vs,f,j⟩
def HX  {σ: St}(hu:A.units+1<Ec)(I:Qa X pins σ H s)(g:DPut H a y v H')(ry:RelV y u)(rv:RelV v r)(h:∀s',Qa X pins σ H' s'->Q () s') :
  wpAny (Ia X.prog X.w) A (zj (.ref a) u r) Q E s:=by
 rcases g with⟨f,k,e,Y,l,Z⟩|⟨f,k,b,e,Y,eb,l,Z⟩
 ·subst Y Z;obtain⟨z,hd,vs,j,dd⟩:=MD I.hok e;have hz:vs.length<=Fb:=by rw[<- j.length];exact z
  have O:(putK f k v).length<=Fb:=by have:=MA f k v;lia
  refine wpAny_setItem_pairs (hsz:=hz) (Lm ry) dd λh' F R=>h _ ?_;have he:∃q,h'.get? a=ma q:=let ⟨q,_,_,J,_⟩:=F;⟨q,J⟩
  exact Wz I (by rw[e];exact Ni) R he (vE O hd (j.put k rv) F)
 ·subst Y Z;cases(show u=gh b from ry);obtain⟨z,hd,xs,j,dd⟩:=IQ I.hok e;have hz:xs.length<=Fb:=by rw[<- dw j];exact z
  have O:(putK f k v).length<=Fb:=by have:=MA f k v;lia
  refine wpAny_setItem_heap (hsz:=hz) (Hs hu) (Fo I.hok eb) dd λh' F R=>h _ ?_;obtain⟨q,es,ep,J,h2,h3,h4,_,h5⟩:=F;refine Wz I (by rw[e];exact Ni) R ⟨q,J⟩ ⟨O,hd,_,(j.put k eb rv).keeps λc ys ec=>?_,q,es,ep,J,h2,h3,h4,h5⟩
  rw[Bd (WP ec e (λz=>nomatch z))];exact ec


def HQ  {j: St}(I:Qa X pins j H s)(e:Rd H a (.dK kvs))(h:∀t s',Qa X pins j H s'->Q (.int kvs.length t) s'):wpAny (Ia X.prog X.w) A (call (.builtin "len") [.ref a]) Q E s:=by
 obtain⟨z,hd,y,f,q⟩:=Hj I.hok e;refine call_len_dict hd q (by rw[<- f.length];rw[Oi]at z;lia) ?_
 rw[<- f.length];exact h _ _ (I.tok _)

def A0    {q:St}(I:Qa X pins q H s)(g:DGet H a y o):s.TypeIs (.ref a) "dict" := by
 rcases g with⟨f,k,e,_,_⟩|⟨f,k,b,e,_,_,_⟩
 ·obtain⟨_,_,F,_,j⟩:=Hj I.hok e;exact j.typeIs
 ·obtain⟨_,_,z,_,j⟩:=Km I.hok e;exact j.typeIs


def YG     (h:Cb)(f:Jf<h.objs.size):Me P w H (h.push { cls:=.type "dict",data:=.dict #[] }) h.objs.size (.dK []):=
 ⟨Mf _,beq_eq_false_iff_ne.mpr (Ta (Sd f)),[],.nil,Cb.DictOf.new h⟩
def NT  : TE:=λ_ H Q=>∀p,H p=Aa->Q (.ref p) (upd H p (.dK []))

def qY  : PE X (.Dict [] [] pos) NT:=λf s j H Q I h=>
 wpAny_Dict_empty ⟨.ref s.heap.objs.size,_,I.laid (a:=s.heap.objs.size) (o:=.dK []) (t':=s.toks) (λ_ _ q=>Dc _ q) (Mb _) (YG s.heap I.big),rfl,h _ (I.hok.fresh (Mb _))⟩

def Gu  : List (TE×TE)->St->Hp->(List (V×V)->Hp->Prop)->Prop
 |[],_,H,Q=>Q [] H
 |(tk,tv)::r,σ,H,Q=>tk σ H λx H1=>tv σ H1 λy H2=>Gu r σ H2 λf j=>Q ((x,y)::f) j
abbrev VV  : List (V×V)->List (Da×Da)->Prop:=ce λp q=>RelV p.1 q.1/\RelV p.2 q.2
def Pn  (X:Cx)(pos:Pos)(q:List (Option Na))(f:List Na)(y:List (TE×TE)):Prop:=
 ∀(j:List (Ea×Obj)) (s:Fa) (σ:St) (H:Hp) (Q:List (V×V)->Hp->Prop),Qa X j σ H s->Gu y σ H Q->
  wpAny (Ia X.prog X.w) X.A (evalPairs (pairTrees q f X.env pos)) (λJ I=>∃z F,Qa X j σ F I/\VV z J/\Q z F) X.xe s
def rW    : Pn X pos [] [] []:=λf s j H Q I h=>pairTrees_nil_walk ⟨[],H,I,.nil,h⟩
def PX         (hk:PE X k tk)(O:PE X v tv)(R:Pn X pos ks vs z) :
  Pn X pos (ma k::ks) (v::vs) ((tk,tv)::z):=λf s j H Q I h=>
 pairTrees_cons_walk (Wb (hk f s j H _ I h) λu s1 ⟨x,H1,Y,J,q1⟩=>Wb (O f s1 j H1 _ Y q1) λw2 s2 ⟨y,H2,I2,ry,q2⟩=>
  Wb (R f s2 j H2 _ I2 q2) λws s3 ⟨F,H3,Z,q,q3⟩=>⟨(x,y)::F,H3,Z,.cons ⟨J,ry⟩ q,q3⟩)

def Rm  (kvs f:List (uc×V)):List (uc×V):=f.foldl (λj q=>putK j q.1 q.2) kvs
def KV.merge  : ∀{f } {rs } {kvs } {vs },KV f rs->KV kvs vs->KV (Rm kvs f) (merged vs rs):=by
 intro f rs kvs vs r;unfold KV at r
 induction r generalizing kvs vs with
 |nil=>intro q;exact q
 |@cons p q z F h t j=>
  intro y;have e:KV (putK kvs p.1 p.2) (stored vs q.1 q.2):=by
   have:=y.put p.1 h.2;rw[<- h.1];exact this
  exact j e
theorem IJ  : ∀(f kvs:List (uc×V)),(Rm kvs f).length<=kvs.length+f.length
 |[],kvs=>by show kvs.length<=kvs.length+0;lia
 |p::r,kvs=>by
  have j:=IJ r (putK kvs p.1 p.2);have q:=MA kvs p.1 p.2;show(Rm (putK kvs p.1 p.2) r).length<=_;rw[Zf];lia
theorem AI    : ∀{kvs } {ws },VV (kvs.map λf=>(kV f.1,f.2)) ws->∃rs,Carries (He P w) ws rs/\KV kvs rs
 |[],_,r=>by rw[Lr]at r;cases r;exact⟨[],Ni,.nil⟩
 |p::kvs,_,r=>by
  rw[Se]at r;cases r with
  |@cons a b z bs h t=>
   obtain⟨rs,c,q⟩:=AI (P:=P) (w:=w) t;obtain⟨y,j⟩:=b;exact⟨(p.1,j)::rs,⟨Lm h.1,rfl,c⟩,.cons ⟨rfl,h.2⟩ q⟩
def JR  (j:List (TE×TE)):TE:=λz H Q=>∀p,H p=Aa->Gu j z (upd H p (.dK [])) λy H2=>H2 p=ma (.dK [])/\∃f:List (uc×V),y=f.map (λq=>(kV q.1,q.2))/\f.length<=15/\Q (.ref p) (upd H2 p (.dK (Rm [] f)))
def RW       (h:Pn X pos f j Z)(J:f.all (·.isSome)=ua)(hl:f.length=j.length)(h0:f≠[])
  (R:f.length<=15):PE X (.Dict f j pos) (JR Z):=by
 intro O s σ H Q I q;have hn:=I.hok.fresh (Mb s.heap.objs.size);have I1:=I.laid (a:=s.heap.objs.size) (o:=.dK []) (h':=s.heap.push { cls:=.type "dict",data:=.dict #[] }) (t':=s.toks) (λ_ _ q=>Dc _ q) (Mb _) (YG s.heap I.big);refine wpAny_Dict_walk (knd:=He X.prog X.w) J hl h0 R (Wb (h O _ σ _ _ I1 (q _ hn)) λws s2 ⟨ps,H2,I2,Y,e,y,ep,lk,q2⟩=>?_);subst ep;obtain⟨rs,c,rk⟩:=AI (P:=X.prog) (w:=X.w) Y;obtain⟨z,hd,xa,r0,dd⟩:=MD I2.hok e;cases r0;refine⟨rs,c,dd,λh' F hs=>⟨.ref s.heap.objs.size,_,?_,rfl,q2⟩⟩;have hz:(Rm [] y).length<=Fb:=by
  have h1:=IJ y [];rw[Cp]at h1;rw[Oi];lia
 have he:∃q,h'.get? s.heap.objs.size=ma q:=let ⟨q,_,_,hq,_⟩:=F;⟨q,hq⟩
 exact Wz I2 (by rw[e];exact Ni) hs he (vE hz hd (rk.merge .nil) F)

structure M2 (X:Cx)(o:Na)(m:Str)(apos:Pos)(e f:Na)(cpos:Pos):Prop where
 base:Uj o m X.env (Lb o X.env)=Lb o X.env
 few:((Xc cpos (Kd [e,f] X.env)).all (λx=>!x.1)&&(backToKw cpos (keywordEach [] X.env)).all (λx=>x.1.isSome)
  && decide (([e,f]:List Na).length+([]:List Ys).length+(if ([]:List Ys).isEmpty then 0 else 1)<30))=ua
 line:(apos.endLine==cpos.line)=ua
 trees:Xc cpos (Kd [e,f] X.env)=[(Ca,Lb e X.env),(Ca,Lb f X.env)]

def Q2  (H:Hp)(a:Ea):Prop:=(∃f,Rd H a (.dK f))\/∃f,Rd H a (.dT f)
def gF    {J:St}(I:Qa X pins J H s)(d:Q2 H a) :
  s.TypeIs (.ref a) "dict" /\ (∀b,gh a=.ref b->∃f,s.heap.get? b=ma f/\f.dict=Aa)/\(a==Jf)=Ca:=by
 rcases d with⟨z,e⟩|⟨z,e⟩
 ·obtain⟨_,hd,R,_,j⟩:=Hj I.hok e;refine⟨j.typeIs,λb q=>?_,hd⟩;cases q;obtain⟨f,_,_,y,F,_⟩:=j;exact⟨f,y,F.2.1⟩
 ·obtain⟨_,hd,O,_,j⟩:=Km I.hok e;refine⟨j.typeIs,λb q=>?_,hd⟩;cases q;obtain⟨f,_,_,y,F,_⟩:=j;exact⟨f,y,F.2.1⟩


def vR  {O: St}(hu:A.units+1<Ec)(I:Qa X pins O H s)(g:DGet H a y o)(R:RelV y u)(rd:RelV d r)(h:∀J s',Qa X pins O H s'->RelV (o.getD d) J->Q J s') :
  wpAny (Ia X.prog X.w) A (call (.builtin "dict.get") [.ref a,u,r]) Q E s:=by
 rcases g with⟨q,k,e,F,l⟩|⟨q,k,b,e,F,eb,l⟩
 ·subst F;obtain⟨z,hd,Z,f,j⟩:=Hj I.hok e;refine Zv Yw j.typeIs AM (kM _ _ _) (meets_dict_get_default (He X.prog X.w) a (Lm R) hd r) ⟨_,j.mapOf,h _ _ (I.tok _) ?_⟩;rw[l];exact(f.val k).getD rd
 ·subst F;cases(show u=gh b from R);obtain⟨z,hd,Y,f,j⟩:=Km I.hok e;refine Zv Yw j.typeIs AM (kM _ _ _) (meetsH_dict_get_default (ap (He X.prog X.w)) a b hd r) ⟨Hs hu,k,Y,Fo I.hok eb,j,h _ _ (I.tok _) ?_⟩;rw[l];exact(f.val k).getD rd






end L2

namespace Att
open PySem PySem.W PySem.Calls PyProof.Rows

def L1    : ∀(ns:List Int) vs ,WellAll P h vs (ns.map WData.int)->Eb vs ns:=by
 intro ns
 induction ns with
 |nil=>
  intro vs w;rw[Lr]at w;cases w;exact .nil
 |cons n ns f=>
  intro vs w;rw[Se]at w;cases w with
  |cons a b=>
   cases a;exact .cons _ _ (f _ b)

def JY  {l:Cj}(hn:l.most=ma n) 
  (f:l.row.toRowW.claim.pre args=ua) (J:WellAll P h j args) :
  ∃a vs ns,j=[gh a]/\args=[WData.list (ns.map WData.int)]/\h.get? a=ma { cls:=.type "list",data:=.seq vs.toArray }/\Eb vs ns/\ns.length<=n:=by
 have O:Xp.hasAll [] args [.list .int]=ua:=(pre_splitW f).1;have R:l.pre.holds [] { args:=args }=ua:=(pre_splitW f).2;obtain⟨d,r,rfl,Z,h2⟩:=hasAllW_cons O;obtain rfl:=hasAllW_nil h2;obtain⟨xs,rfl,h3⟩:=hasW_list Z;obtain⟨ns,rfl⟩:=items_int h3;have y:ns.length<=n:=by
  unfold Cj.pre at R;have F:(WTm.not (.lt (.lit (.int (n:Int))) (.len (.arg 0)))).holds [] { args:=[.list (ns.map .int)] }=ua:=by
   have F:=(holds_andW R).1;rw[hn]at F;exact F
  have I:=condW_of F (w_not (w_lt w_lit (w_len_list (w_arg rfl))));rw[Hb]at I;refine Nat.le_of_not_lt λq=>?_;have Y:(n:Int)<((ns.length:Nat):Int):=by lia
  first
   |(rw[decide_eq_true Y]at I;exact absurd I (by decide))
   |(simp at I;lia)
 cases J with
 |cons w1 w2=>
  cases w2;cases w1 with
  |list ho z=>exact⟨_,_,ns,rfl,rfl,ho,L1 ns _ z,y⟩

def GY  (l:Cj) args:l.row.toRowW.claim.post args (.bool ua) args=ua:=
 postW_of (r:=l.row.toRowW) (X:=(ua==ua))
  (show Xp.has [] (.bool ua) .bool=ua by first|rfl|decide|simp[Xp.has,Xp.arms,Xp.armsAll])
  (show(WTm.eq .res (.lit (.bool ua))).value [] { args:=args,res:=ma (.bool ua),after:=args }=ma (.bool (ua==ua))from w_eq_bool (w_res rfl) w_lit) rfl

def attach_call  {l:Cj} 
  (hn:l.most=ma n) (ja:d.params.defaults=[])
  (call:∀(w:Za) (s₀ j:Fa) mg mb I (o:Obj) pm R y a (vs:List Da) (ns:List Int),
   Ground q loose [] XP w s₀ mg mb j.heap->YP w j.heap->
   j.heap.get? I=ma o->o.data=.func (docDef d.name d.params d.body d.scope pm R y)->j.heap.CodeRec R d.name->mg d.name=ma (.ref I)->
   j.heap.get? a=ma { cls:=.type "list",data:=.seq vs.toArray }->Eb vs ns->ns.length<=n->j.gens=#[]->
   codeAny (Ia l.prog w) zh (.call (.ref I) ⟨[.ref a],[]⟩) (λr s'=>r=.ok (.ret (.bool ua))/\OldK j.heap s'.heap/\s'.os=j.os/\Qe s'.gens) j) :
  WalkO q loose XP YP l.row.toRowW d [] (λf vs=>SB f vs):=by
 intro w s₀ j mg mb G Y I o pm R y dV kV ho hd Z hD za hg ya va as F wa ka xa ha;obtain rfl:dV=.none:=Dflts.none hD ja;obtain rfl:kV=.none:=Dflts.noKw hD;obtain⟨a,vs,ns,rfl,rfl,J,z,O⟩:=JY hn F xa;refine enter_call (nn (call w s₀ j mg mb I o pm R y a vs ns G Y ho (fd_plain hd) Z za J z O hg) λr s' hq=>?_);obtain⟨rfl,h2,h3,h4⟩:=hq;exact⟨.inl ⟨.bool ua,.bool ua,[],rfl,λ_=>rfl,.bool ua,GY l _,λ_=>⟨Cw,λ_ hm=>(nomatch hm)⟩⟩,h2,h3,h4⟩


end Att

namespace L2
open PySem PySem.Spec PyProof.Rows

theorem EH  : ∀{vs } {ns },Eb vs ns->Vals (ns.map V.int) vs
 |_,_,.nil=>.nil
 |_,_,.cons n t h=>.cons ⟨t,rfl⟩ (EH h)



noncomputable def OF  (s:Va)(j:Nat):Va:=match s with
 |.ClassDef _ _ _ f _ _ _ _ _ _ _=>f.getD j (.Pass ⟨0,0,0,0⟩)
 |_=>.Pass ⟨0,0,0,0⟩
def Kj  (s:Va):Arguments:=match s with
 |.FunctionDef _ a _ _ _ _ _ _ _ _=>a
 |_=>{ posonlyargs:=[],args:=[],vararg:=Aa,kwonlyargs:=[],kw_defaults:=[],kwarg:=Aa,defaults:=[] }
def ig  (s:Va):List Va:=match s with
 |.FunctionDef _ _ b _ _ _ _ _ _ _=>b
 |_=>[]
def Pf  (s:Va):ue:=match s with
 |.FunctionDef _ _ _ _ _ _ f _ _ _=>f
 |_=>{ kind:=.function,names:=[],isGenerator:=Ca,isCoroutine:=Ca }

abbrev E0  : XK:=λ_ _ _=>False
structure Fun (K:Sb)(x qual:Str)(st:Va)(f:Ea)(fd:Vo):Prop where
 ex:∃(oc:Da) (od:Option Ea) (kV doc pm:Da) (an:Option Ea) (cdv ct:Da) (osl:Array (Option Da)),
  fd=Tj x qual (Kj st) (ig st) (Pf st) .none kV doc pm an cdv ct/\K.lookup f=ma ⟨oc,od,.func fd,osl⟩/\Br K cdv qual=ua
 kp:Cr K (.ref f)=ua

def Fun.binds  {K: Sb}{st:Va}(F:Fun K x y st f R)
  (h:∀kV q I z j ct (us:List Da),us.length=ps.length->Pl (Tj x y (Kj st) (ig st) (Pf st) .none kV q I z j ct) ⟨us,[]⟩=pure (ps.zip us)):Binds K R ps []:=by
 obtain⟨oc,Y,kV,q,I,z,j,ct,O,rfl,Z,J⟩:=F.ex;exact .all (h kV q I z j ct)
def EE  {K: Sb}{st:Va}{kV y F q ct:Da}(l:K.lookup f=ma ⟨O,J,.func (Tj x j (Kj st) (ig st) (Pf st) .none kV y F I q ct),z⟩)
  (c:Br K q j=ua) (k:Cr K (.ref f)=ua):Fun K x j st f (Tj x j (Kj st) (ig st) (Pf st) .none kV y F I q ct):=⟨⟨O,J,kV,y,F,I,q,ct,z,rfl,l,c⟩,k⟩
def NP    (f:Room k A):A.units+1<Ec:=Ug (uC (by decide:1<=64) _) f.units



def BX  : Vf X (.builtin "len") (λxs H Q=>∃a kvs,xs=[V.ref a]/\H a=ma (.dK kvs)/\Q (.int kvs.length) H):=by
 intro f s O H xs F Q I r h;obtain⟨a,kvs,rfl,z,q⟩:=h;obtain⟨u,rfl,y⟩:=Eh r;cases y;exact HQ I (.inl z) λt J j=>⟨.int kvs.length,H,j,⟨t,rfl⟩,q⟩
section
variable {κ:Type}[DecidableEq κ]
end
end L2

namespace L2
open PySem PySem.Spec PyProof.Rows


noncomputable def Xu  (env:Env)(ifs:List Na):Sem Bool:=forIn ifs ua λc r=>ite (r=ua) (Uf c env (Lb c env) >>= λb=>pure (.yield b)) (pure (.yield r))
def Vm  (ip:Pos)(f:Na)(ifs:List Na)(it:Da)(env:Env)(em:Sem Unit)(next:Code):Sem Fin:=
 Gd ip >>= λ_=>bf it >>= λr=>match r with
  |none=>pure (.done .next)
  |some v=>Kr f it v >>= λ_=>Yc f env v >>= λ_=>Xu env ifs >>= λok=>ite (ok=ua) (em >>= λ_=>again next) (again next)
def LW  (M:Model)(A:Nb)(j:Na)(ifs:List Na)(it:Da)(env:Env)(em:Sem Unit)(f:Fa->Prop)(less:Fa->Prop):Option Da->Fa->Prop
 |none,s=>f s
 |some v,s=>wpAny M A (Kr j it v) (λ_ s=>wpAny M A (Yc j env v) (λ_ s=>wpAny M A (Xu env ifs) (λok s=>if ok=ua then wpAny M A em (λ_ s=>less s) (λ_ _=>False) s else less s) (λ_ _=>False) s) (λ_ _=>False) s) (λ_ _=>False) s
def YZ             (I : Nat -> Fa -> Prop)
    (y : Qk (.ListComp elt gens scope pos) dp it acc env = Vm ip j ifs it env em (.compLoop (.ListComp elt gens scope pos) dp it acc env))
    (q : ∀ k t, I k t -> wpAny (Ia prog w) A (bf it) (LW (Ia prog w) A j ifs it env em (R (.ok .next)) λt => ∃ m, m < k /\ I m t) (λ_ _ => False) t)
     n (h : I n s) : codeAny (Ia prog w) A (.compLoop (.ListComp elt gens scope pos) dp it acc env) R s := by
  have no : ∀ {Z : Da -> Fa -> Prop} (e : Da) (t : Fa), False -> Z e t := λ_ _ f => f.elim
  refine codeAny_loop rfl I (λk t hk => wpAny_noted (m := Qk (.ListComp elt gens scope pos) dp it acc env) (y ▸ ?_)) n h
  refine Ua (bp (Ua (Xf (q k t hk) (λr t1 p => ?_) no)))
  match r, p with
  | none, p => exact Kb p
  | some v, p =>
    refine Ua (Xf p (λ_ t2 p => Ua (Xf p (λ_ F p => Ua (Xf p (λok z p => ?_) no)) no)) no)
    match ok, p with
    | false, p => exact Kb ⟨rfl, p⟩
    | true, p => exact Ua (Xf p (λ_ J p => Kb ⟨rfl, p⟩) no)
def X1         
  (h0:codeAny (Ia prog w) A (.compLoop (.ListComp elt [q,⟨t2,j,y,0⟩] scope pos) 1 it acc env) R s)
  (h:wpAny (Ia prog w) A (Xd it) (λf s'=>codeAny (Ia prog w) A (.compLoop (.ListComp elt [q,⟨t2,j,y,0⟩] scope pos) 1 f acc env) R s') (notedBy (Ia prog w) A env λx s'=>R (.error x) s') s) :
  codeAny (Ia prog w) A (.compStart (.ListComp elt [q,⟨t2,j,y,0⟩] scope pos) 1 it acc env) R s:=by
 refine codeAny_of_tree (wpAny_notedAt (m:=compStart (.ListComp elt [q,⟨t2,j,y,0⟩] scope pos) 1 it acc env) ?_);unfold compStart;refine Ua (m:=ask) (Dp (wpAny_ite ?_));split
 ·exact Ua (Kb (Kb ⟨rfl,h0⟩))
 ·exact Ua (ci (Ua (m:=Gd j.pos) (bp (Ua (Wb h λf s' p=>Kb ⟨rfl,p⟩)))))

theorem iB  (env:Env):∀(names:List (Str×Bg)) acc ,(∀y∈names,y.2=.free->∃c,env.cells.lookup y.1=ma c)->
  ∃cl ,(forIn names acc (λ(y:Str×Bg) F=>(if (y.2==Dg)=ua then (do let c <- cellOf env y.1;pure (ForInStep.yield ((y.1,c)::F))) else pure (ForInStep.yield F):Sem (ForInStep (List (Str×Ea))))):Sem (List (Str×Ea)))=pure cl/\
   (∀x c,(x,c)∈cl->(x,c)∈acc\/(env.cells.lookup x=ma c/\(x,Dg)∈names))/\(∀p∈acc,p∈cl)/\(∀y∈names,y.2=.free->∃c,(y.1,c)∈cl)
 |[],acc,_=>⟨acc,rfl,λ_ _ h=>.inl h,λ_ h=>h,λ_ h=>nomatch h⟩
 |(n,k)::r,acc,h=>by
  by_cases hk:k=.free
  ·subst hk;obtain⟨c,O⟩:=h (n,.free) Re rfl;obtain⟨cl,e,I,q,J⟩:=iB env r ((n,c)::acc) λy f=>h y (Jd _ f);refine⟨cl,?_,λx d hd=>?_,λp R=>q p (Jd _ R),λy f j=>?_⟩
   ·rw[List.forIn_cons];have:(cellOf env n:Sem Ea)=pure c:=by unfold cellOf;rw[O]
    simp_all
   ·grind
   grind
  ·obtain⟨cl,e,I,q,J⟩:=iB env r acc λy f=>h y (Jd _ f);have Y:(k==Dg)=Ca:=by simpa using hk
   refine⟨cl,?_,λx d hd=>?_,q,λy f j=>?_⟩
   ·rw[List.forIn_cons];simp only[Y,Bi,if_false,pure_bind];exact e
   ·rcases I x d hd with z|⟨z,z'⟩
    ·exact .inl z
    ·exact .inr ⟨z,Jd _ z'⟩
   ·rcases Sc.mp f with z|z
    ·subst z;exact absurd j hk
    ·exact J y z j
theorem JJ  {f:Type}:∀{l:List (Str×f)} {x } {c },(x,c)∈l->∃d,l.lookup x=ma d/\(x,d)∈l
 |(n,k)::r,x,c,h=>by
  cases j:x==n with
  |true=>
   simp_all
  |false=>
   rcases Sc.mp h with z|z
   ·lia
   ·obtain⟨d,e,m⟩:=JJ z
    grind
def BI    (h:∀y∈scope.names,y.2=.free->∃c,env.cells.lookup y.1=ma c) :
  ∃cl ,closureFor scope env=pure cl/\(∀x c,cl.lookup x=ma c->env.cells.lookup x=ma c)/\(∀y∈scope.names,y.2=.free->∃c,cl.lookup y.1=ma c):=by
 obtain⟨cl,e,q,_,J⟩:=iB env scope.names [] h;refine⟨cl,?_,λx c I=>?_,λy f F=>?_⟩
 ·unfold closureFor
  simp_all
 ·rcases q x c (vh I)with z|⟨z,_⟩
  ·simp_all
  lia
 ·obtain⟨c,j⟩:=J y f F;obtain⟨d,e,_⟩:=JJ j
  simp_all

noncomputable def Tc  (X:Cx)(N:List Str)(scope:ue)(cl:List (Str×Ea))(C:Ea)(s₀:Fa)(H₀:Hp)(f:List Ea):Cx where
 prog:=X.prog
 w:=X.w
 K:=X.K
 mg:=X.mg
 base:=X.base
 A:=X.A
 N:=N
 s₀:=s₀
 H₀:=H₀
 env:=compEnvC scope cl C X.env
 outer:=X.stack
 stack:=X.stack
 ex:=f
 fn:=λx=>scope.names.lookup x==ma .cell
 calm:=X.calm
 pn:=[]
 xe:=λ_ _=>False

noncomputable def j3  (q:List Str)(f:List (Str×Bg))(N:List Str)(pick:List (Option Nat))(scope:ue):Bool:=
 decide (scope.kind=.function)&&scope.names.all (λy=>y.2 != .cell||scope.names.lookup y.1==ma .cell)&&scope.names.all (λy=>y.2 != .local||scope.names.lookup y.1==ma .local)
  && scope.names.all (λy=>y.2 != .free||(scope.names.lookup y.1==ma .free&&(f.lookup y.1==ma .cell||f.lookup y.1==ma .free)))
  && pick.length==N.length&&(N.zip pick).all (λp=>match p.2 with|none=>ua|some j=>q[j]?==ma p.1&&scope.names.lookup p.1==ma .free)

structure CScope (X:Cx)(N:List Str)(pick:List (Option Nat))(scope:ue):Prop where
 kind:scope.kind=.function
 cells:∀y∈scope.names,y.2=.cell->scope.names.lookup y.1=ma .cell
 names:∀y∈scope.names,y.2=.local->scope.names.lookup y.1=ma .local
 fre:∀y∈scope.names,y.2=.free->scope.names.lookup y.1=ma .free/\(X.env.kindOf y.1=ma .cell\/X.env.kindOf y.1=ma .free)
 len:pick.length=N.length
 caps:∀(i j:Nat) (x:Str),N[i]?=ma x->pick[i]?=ma (ma j)->X.N[j]?=ma x/\scope.names.lookup x=ma .free
theorem XI  (f:Str->Bg->Bg):∀(names:List (Str×Bg)) x ,(names.map λy=>(y.1,f y.1 y.2)).lookup x=(names.lookup x).map (f x)
 |[],_=>rfl
 |(n,k)::r,x=>by
  rw[Se,Mn,Mn,XI f r x];by_cases e:x=n
  ·subst e;rw[beq_self_eq_true];rfl
  ·rw[beq_false_of_ne e]
noncomputable def kF  (env:Env)(n:Str)(k:Bg):Bg:=if (k==Dg&&env.scope.kind == .function&&env.kindOf n==ma .cell) then .cell else k
def oJ (env:Env)(names:List (Str×Bg))(x:Str) :
  (names.map λ(n,k)=>if (k==Dg&&env.scope.kind == .function&&env.kindOf n==ma .cell) then (n,qg) else (n,k)).lookup x=(names.lookup x).map (kF env x):=by
 rw[<- XI (kF env)];congr 2;funext y;show ite _ _ _=(y.1,ite _ _ _)
 lia
def YJ {env:Env}{names:List (Str×Bg)}{x:Str}(h:names.lookup x=ma .free) :
  (names.map λ(n,k)=>if (k==Dg&&env.scope.kind == .function&&env.kindOf n==ma .cell) then (n,qg) else (n,k)).lookup x=ma .cell\/
  (names.map λ(n,k)=>if (k==Dg&&env.scope.kind == .function&&env.kindOf n==ma .cell) then (n,qg) else (n,k)).lookup x=ma .free:=by
 rw[oJ,h];show ma (ite _ _ _)=_\/ma (ite _ _ _)=_
 lia
def rB {env:Env}{q:Bg}(f:q≠.free){names:List (Str×Bg)}{x:Str}(h:names.lookup x=ma q) :
  (names.map λ(n,k)=>if (k==Dg&&env.scope.kind == .function&&env.kindOf n==ma .cell) then (n,qg) else (n,k)).lookup x=ma q:=by
 rw[oJ,h];show ma (ite _ _ _)=_
 lia
theorem jK {env:Env}:∀{names:List (Str×Bg)} {x:Str},
  ((names.map λ(n,k)=>if (k==Dg&&env.scope.kind == .function&&env.kindOf n==ma .cell) then (n,qg) else (n,k)).lookup x=ma .cell\/
  (names.map λ(n,k)=>if (k==Dg&&env.scope.kind == .function&&env.kindOf n==ma .cell) then (n,qg) else (n,k)).lookup x=ma .free)->(x,Dg)∈names\/(x,qg)∈names
 |[],_,h=>by simp at h
 |(n,k)::r,x,h=>by
  have y:_->_:=@jK env r x;have f:RB x ((if (k==Dg&&env.scope.kind == .function&&env.kindOf n==ma .cell)=ua then (n,qg) else (n,k))::r.map λ(n,k)=>if (k==Dg&&env.scope.kind == .function&&env.kindOf n==ma .cell) then (n,qg) else (n,k))=ma .cell\/RB x ((if (k==Dg&&env.scope.kind == .function&&env.kindOf n==ma .cell)=ua then (n,qg) else (n,k))::r.map λ(n,k)=>if (k==Dg&&env.scope.kind == .function&&env.kindOf n==ma .cell) then (n,qg) else (n,k))=ma .free:=h
  by_cases hk:k=.free
  ·cases j:x==n with
   |true=>simp_all
   |false=>
    refine(y ?_).imp (Jd _) (Jd _);by_cases q:(k==Dg&&env.scope.kind == .function&&env.kindOf n==ma .cell)=ua
    ·rw[if_pos q]at f;simpa only[Mn,j]using f
    ·rw[if_neg q]at f;simpa only[Mn,j]using f
  ·have F:(k==Dg)=Ca:=by simpa using hk
   rw[if_neg (by simp[F])]at f
   cases j:x==n with
   |true=>
    simp only[Mn,j]at f;rcases f with z|z
    ·rw[eq_of_beq j,Hd z];exact .inr Re
    ·exact absurd (Hd z) hk
   |false=>exact(y (by simpa only[Mn,j]using f)).imp (Jd _) (Jd _)

theorem Sq  : ∀names n acc ,Cg n names acc=Cg n names []++acc
 |[],_,_=>rfl
 |(x,k)::r,n,acc=>by
  unfold Cg;split
  ·rw[Sq r (n+1) ((x,n)::acc),Sq r (n+1) [(x,n)],sf];rfl
  ·exact Sq r n acc
theorem Mv  : ∀names n {x } {c },(x,c)∈Cg n names []->(x,qg)∈names
 |[],_,_,_,h=>nomatch h
 |(y,k)::r,n,x,c,h=>by
  unfold Cg at h;split at h
  ·rename_i hk;rw[Sq]at h;rcases ee.mp h with h|h
   ·exact Jd _ (Mv r _ h)
   simp_all
  ·exact Jd _ (Mv r _ h)
def hZ  {f:Type}:∀(l m:List (Str×f)) x ,(l++m).lookup x=(l.lookup x).or (m.lookup x)
 |[],_,_=>by simp
 |(n,k)::r,m,x=>by
  grind
structure BCells (scope:ue)(cl cs:List (Str×Ea))(lo:Nat)(h:Cb):Prop where
 lk:∀x c,cs.lookup x=ma c->((x,qg)∈scope.names/\lo<c/\h.IsCell c Aa)\/((x,qg)∉scope.names/\cl.lookup x=ma c)
 own:∀x,scope.names.lookup x=ma .cell->∃c,cs.lookup x=ma c/\lo<c
 old:∀x c,(x,qg)∉scope.names->cl.lookup x=ma c->cs.lookup x=ma c
 inj:∀x y c,cs.lookup x=ma c->cs.lookup y=ma c->lo<c->x=y
def yX   {cl:List (Str×Ea)}{lo:Nat}(O:h.objs.size=lo+1)(S:∀y∈scope.names,y.2=.cell->scope.names.lookup y.1=ma .cell)(Z:∀x c,cl.lookup x=ma c->c<=lo):BCells scope cl (Cg (lo+1) scope.names cl) lo (qr h scope.names):=by
 have ok:=cellsFrom_ok scope.names h (lo+1) [] ⟨λ_ _ Y=>(nomatch Y),Cw⟩ (by lia)
 rw[O]at ok;have look:∀x,(Cg (lo+1) scope.names cl).lookup x=((Cg (lo+1) scope.names []).lookup x).or (cl.lookup x):=λx=>by rw[Sq,hZ]
 have z:∀x,(x,qg)∈scope.names->∃c,(Cg (lo+1) scope.names []).lookup x=ma c:=λx f=>kA (S _ f rfl);refine⟨λx c e=>?_,λx f=>?_,λx c f R=>?_,λx y c J I R=>?_⟩
 ·rw[look]at e;by_cases f:(x,qg)∈scope.names
  ·obtain⟨j,F⟩:=z x f;rw[F,Option.some_or]at e;have e:j=c:=Hd e;subst e;obtain⟨z1,z2⟩:=ok.empty x j (vh F)
   lia
  ·cases q:(Cg (lo+1) scope.names []).lookup x with
   |some j=>exact absurd (Mv _ _ (vh q)) f
   |none=>simp_all
 ·obtain⟨c,e⟩:=z x (vh f);exact⟨c,by simp_all,(ok.empty x c (vh e)).2⟩
 ·rw[look];cases q:(Cg (lo+1) scope.names []).lookup x with
  |some j=>exact absurd (Mv _ _ (vh q)) f
  |none=>simp_all
 ·rw[look]at J I;have new:∀x,((Cg (lo+1) scope.names []).lookup x).or (cl.lookup x)=ma c->(Cg (lo+1) scope.names []).lookup x=ma c:=λx e=>by
   cases q:(Cg (lo+1) scope.names []).lookup x with
   |some j=>simp_all
   |none=>
    grind
  exact name_of_addr ok.apart (vh (new x J)) (vh (new y I))
def U1           
  (j:Q (newEnv scope s.heap.objs.size globals (Cg (s.heap.objs.size+1) scope.names cl) f Aa .none (ma env) Wo) { s with heap:=qr (s.heap.push { cls:=.type "dict",data:=.dict #[] }) scope.names }) :
  wpAny M A (GB scope globals cl [] f Aa .none (ma env)) Q E s:=by
 have sz:(s.heap.push { cls:=.type "dict",data:=.dict #[] }).objs.size=s.heap.objs.size+1:=yn ..;unfold GB;rw[if_pos (by rfl)]
 refine Ua (wpAny_alloc (Ua (wpAny_layCells _ (λx k c=>by lia) _ _ _ _ ?_)))
 rw[show Cb.objs (Fa.heap _)=(s.heap.push { cls:=.type "dict",data:=.dict #[] }).objs from rfl,sz];exact Ua (Kb (Kb j))


def j2   (h:scope.names.lookup x=ma .globalImplicit):Gl (Tc X N scope cl C s₀ H₀ f) x:=rB (by decide) h

def PIfs  (X:Cx)(ifs:List Na)(t:TT):Prop:=
 ∀(f:List (Ea×Obj)) (s:Fa) (σ:St) (H:Hp) (Q:Bool->Hp->Prop),Qa X f σ H s->t σ H Q->
  wpAny (Ia X.prog X.w) X.A (Xu X.env ifs) (TP X f σ Q) X.xe s
def MR  : TT:=λ_ H Q=>Q ua H
def XW   : PIfs X [] MR:=λ_ _ _ H _ I h=>wpAny_tests_nil ⟨H,I,h⟩
def YW     (h:PT X c t):PIfs X [c] t:=λf s j H Q I q=>wpAny_tests_one (h f s j H Q I q)

abbrev gk:=St->List V->Hp->(St->List V->Hp->Prop)->Prop
def Tu  (J:It)(g:TG)(tt:TT)(y:gk)(QQ:St->List V->Hp->Prop)(z:St)(I:List V)(H1:Hp):Prop:=∃W:Nat->Nat->St->List V->Hp->Prop,
 (∃m,W 0 m z I H1)/\∀i m O q H,W i m O q H->
  (J.stop i H/\QQ O q H)\/(J.go i H/\∀x Y,J.yld i H x Y->g x O Y λf H2=>tt f H2 λb Z=>if b=ua then y f q Z λR F H4=>∃j,j<m/\W (i+1) j R F H4
   else ∃j,j<m/\W (i+1) j f q Z)
def Rv  (y:TE)(D:Ea):gk:=λq f H Q=>y q H λv j=>j D=ma (.lst f)/\f.length<Fb/\Q q (f++[v]) (upd j D (.lst (f++[v])))
def HK  (z:TI)(g:TG)(y:TT)(j:TE)(D:Ea):gk:=λf q H Q=>z f H λJ H1=>Tu J g y (Rv j D) Q f q H1
def LcGG  (J:It)(g:TG)(q:TT)(j:Ea->gk)(D:Ea)(f:St)(Q:VK)(H1:Hp):Prop:=Tu J g q (j D) (λ_ _ H=>Q (.ref D) H) f [] (upd H1 D (.lst []))
def Qn  (Y:Cx)(em:Sem Unit)(q:gk):Prop:=∀(f:List (Ea×Obj)) (s:Fa) (τ:St) (ys:List V) (H:Hp) (Q:St->List V->Hp->Prop),Qa Y f τ H s->q τ ys H Q->
 wpAny (Ia Y.prog Y.w) Y.A em (λ_ F=>∃j y z,Qa Y f j z F/\Q j y z) Y.xe s
def tLcG  (pick:List (Option Nat))(z:TI)(g:TG)(y:TT)(f:Ea->gk):TE:=λq H Q=>z q H λJ H1=>∀D,H1 D=Aa->LcGG J g y f D (pick.map λo=>o.bind λj=>(q[j]?).join) Q H1
abbrev Lx  (pick:List (Option Nat))(j:TI)(g:TG)(f:TT)(q:TE):TE:=tLcG pick j g f (Rv q)
abbrev tLc2  (pick:List (Option Nat))(z:TI)(g:TG)(y:TT)(j:TI)(F:TG)(f:TT)(q:TE):TE:=tLcG pick z g y (HK j F f q)

section
variable {X:Cx}{N:List Str}{pick:List (Option Nat)}{scope:ue}{pins:List (Ea×Obj)}{σ:St}{s s3:Fa}{H H3:Hp}

def aZ  {cl cs:List (Str×Ea)}{fp:List Ea}(S:CScope X N pick scope)(f:Qa X pins σ H3 s3)(hf:∀b∈fp,FpOk X pins H3 b)(xa:∀b∈fp,b<s3.heap.objs.size)
  (c1:∀x c,cl.lookup x=ma c->X.env.cells.lookup x=ma c) (c2:∀y∈scope.names,y.2=.free->∃c,cl.lookup y.1=ma c) (B:BCells scope cl cs s3.heap.objs.size F)
  (ka:F.Ns s3.heap.objs.size mB) (hk:∀b o,s3.heap.get? b=ma o->F.get? b=ma o) :
  Qa (Tc X N scope cs s3.heap.objs.size s3 H3 fp) [] (pick.map λo=>o.bind λj=>(σ[j]?).join) H3 { s3 with heap:=F,toks:=tk }:=by
 have za:∀b∈lg X.stack,b∈X.env.locals::X.fs:=f.stkSub;have oc:∀x c,cs.lookup x=ma c->X.env.cells.lookup x=ma c\/s3.heap.objs.size<c:=λx c e=>by
  rcases B.lk x c e with⟨_,z,_⟩|⟨_,z⟩
  ·lia
  simp_all
 have va:∀x,((x,Dg)∈scope.names\/(x,qg)∈scope.names)->∃c,cs.lookup x=ma c:=λx Z=>by
  by_cases I:(x,qg)∈scope.names
  ·obtain⟨c,e,_⟩:=B.own x (S.cells _ I rfl)
   simp_all
  ·rcases Z with Z|Z
   ·obtain⟨c,e⟩:=c2 _ Z rfl;exact⟨c,B.old x c I e⟩
   lia
 refine⟨⟨f.ok.mod,S.kind,f.ok.glob,f.ok.blt,Mb _,λx y c e1 Y=>?_,λx Z=>va x (jK Z),λx c z e=>?_,f.ok.hd,f.ok.frames,.inl rfl,λb J=>⟨Sd (xa b J),λx c e=>?_⟩,
   f.bs,Yb f.ok.bsz f.sz,λb o e J=>?_,λb J hm=>?_,f.stack,f.stkFree⟩,
  rfl,f.bare,Un.kept hk,⟨_,ka,λi x v e1 Y e3=>?_⟩,λx c e=>?_,f.hok.fresh (Mb _),λx c e=>?_,λp hp=>absurd (show p∈([]:List (Ea×Obj))from hp) (by simp),f.hok.kept hk,?_⟩
 ·by_cases I:s3.heap.objs.size<c
  ·exact B.inj x y c e1 Y I
  ·exact f.ok.inj x y c ((oc x c e1).resolve_right I) ((oc y c Y).resolve_right I)
 ·have z':scope.names.lookup x=ma .cell:=eq_of_beq z;rcases B.lk x c e with⟨_,y,_⟩|⟨y,_⟩
  ·exact uj y
  ·exact absurd (vh z') y
 ·rcases oc x c e with z|z
  ·exact(hf b J).2.2.2.2.1 x c z
  ·intro q;rw[q]at z;exact absurd (xr z (xa b J)) (qj _)
 ·rcases(hf b J).2.2.2.1 with z|z
  ·exact f.ok.noex b o e z
  ·exact absurd (Lf (Jc e) (Yb f.ok.bsz z)) (qj _)
 ·rcases Sc.mp (za b hm)with z|z
  ·exact(hf b J).2.1 z
  ·exact(hf b J).2.2.1 z
 ·-- a captured name
  have wa:∃j,pick[i]?=ma (ma j)/\σ[j]?=ma (ma v):=by
   rw[md]at Y;cases q:pick[i]? with
   |none=>simp_all
   |some o=>
    rw[q]at Y;cases o with
    |none=>simp at Y
    |some j=>
     grind
  obtain⟨j,ej,ev⟩:=wa;obtain⟨hN,ja⟩:=S.caps i j x e1 ej;have O:(x,Dg)∈scope.names:=vh ja;have ya:(x,qg)∉scope.names:=λz=>by
   have:=S.cells _ z rfl
   lia
  obtain⟨_,R⟩:=S.fre _ O rfl;obtain⟨m,hn,hl⟩:=f.loc;obtain⟨u,r,l⟩:=hl j x v hN ev (R.elim (λz=>.inr (.inl z)) λz=>.inr (.inr z));refine⟨u,r,.inr ⟨?_,?_⟩⟩
  ·exact YJ (env:=X.env) ja
  ·obtain⟨c,I⟩:=c2 _ O rfl;have ha:=c1 _ _ I;rcases l with⟨z,_⟩|⟨_,c',e,o,ho,hd⟩
   ·lia
   ·have:c'=c:=by lia
    subst this;exact⟨c',B.old x c' ya I,o,hk _ _ ho,hd⟩
 ·rcases B.lk x c e with⟨_,_,z⟩|⟨_,z⟩
  ·grind
  ·obtain⟨v,o,ho,hd⟩:=f.cell x c (c1 x c z);exact⟨v,o,hk _ _ ho,hd⟩
 ·rcases oc x c e with z|z
  ·exact f.freeC x c z
  ·exact f.hok.fresh (uj z)
 ·rw[Hb];exact S.len

def bX     {F:St}(z:Qa X pins σ H3 s3)(f:∀b∈y,FpOk X pins H3 b)(J:Qa (Tc X N scope cl C s3 H3 y) q F H' s') :
  Qa X pins σ H' s':=z.call' J.os J.base J.hok J.bare λb j=>⟨(f b j).2.2.2.1,(f b j).2.1,(f b j).2.2.2.2.1,(f b j).2.2.2.2.2⟩

def WF                  {ja:St} 
  (yc:Y.calm=ua) (Z:Y.xe=λ_ _=>False)
  (jb:Qk (.ListComp elt gens scope pos) dp (.ref it) acc Y.env=Vm ip tg ifs (.ref it) Y.env em (.compLoop (.ListComp elt gens scope pos) dp (.ref it) acc Y.env))
  (yg:PG Y tg g) (yi:PIfs Y ifs tt) (ym:Qn Y em wa) (J0:Qa Y pins ja H s) (T:Turn Y.prog Y.w Y.K tg J fp it tn) (t0:tn 0 s.heap) (f0:∀b∈fp,FpOk Y pins H b) (hW:Tu J g tt wa QQ ja ka H) :
  codeAny (Ia Y.prog Y.w) Y.A (.compLoop (.ListComp elt gens scope pos) dp (.ref it) acc Y.env) (λr s'=>r=.ok .next/\∃xa zb j,Qa Y pins xa j s'/\QQ xa zb j) s:=by
 obtain⟨W,⟨m0,w0⟩,va⟩:=hW;have y:∀{j:Hp},(∀b∈fp,j b=Aa)->∀b∈fp,FpOk Y pins j b:=λhn b O=>⟨hn b O,(f0 b O).2⟩;refine YZ (λn s'=>∃i F R j,Qa Y pins F j s'/\tn i s'.heap/\(∀b∈fp,j b=Aa)/\W i n F R j) jb ?_ m0 ⟨0,_,ka,_,J0,t0,λb O=>(f0 b O).1,w0⟩;rintro n s4 ⟨i,F,R,H4,J4,t4,fr4,w4⟩;rcases va i n F R H4 w4 with⟨za,q⟩|⟨go,step⟩
 ·refine Xf (T.done Y rfl rfl rfl yc i pins s4 F H4 (λ_ _=>False) J4 (y fr4) t4 za) (λr s5 ⟨hr,J5⟩=>?_) λ_ _ f=>f;subst hr;exact⟨rfl,F,R,H4,J5,q⟩
 ·refine Xf (T.item Y rfl rfl rfl yc i pins s4 F H4 (λ_ _=>False) J4 (y fr4) t4 go) (λr s5 ⟨u,hr,h5⟩=>?_) λ_ _ f=>f;subst hr;refine Xf h5 (λ_ s6 ⟨x,H6,J6,r6,y6,t6,ha⟩=>?_) λ_ _ f=>f;have xb:=J6.pinned (y ha) (T.obj _ _ t6);have ag:=yg _ s6 F H6 x u _ xb r6 (step x H6 y6);rw[Z]at ag;refine Xf ag (λ_ s7 ⟨ya,H7,J7,q7⟩=>?_) λ_ _ f=>f;have ai:=yi _ s7 ya H7 _ J7 q7;rw[Z]at ai;refine Xf ai (λok s8 ⟨H8,J8,q8⟩=>?_) λ_ _ f=>f;have I:∀{z:St} {H9:Hp} {s9:Fa} {zs:List V},Qa Y (pins++xq fp s6.heap) z H9 s9->(∃m',m'<n/\W (i+1) m' z zs H9)->∃m,m<n/\∃i F R j,Qa Y pins F j s9/\tn i s9.heap/\(∀b∈fp,j b=Aa)/\W i m F R j:=λ{z H9 s9 zs} J9 ⟨m',hm,w9⟩=>by
   refine⟨m',hm,i+1,z,zs,H9,J9.unpinned,T.keep _ _ _ t6 λb O o e=>(J9.pin (b,o) (og _ (og _ (Iv O e)))).1,λb O=>?_,w9⟩;obtain⟨o,e,d⟩:=T.obj _ _ t6 b O;exact(J9.pin (b,o) (og _ (og _ (Iv O e)))).2.1
  cases ok with
  |false=>exact I J8 q8
  |true=>
   have am:=ym _ s8 ya R H8 _ J8 q8;rw[Z]at am;exact Xf am (λ_ s9 ⟨z,zs,H9,J9,q9⟩=>I J9 q9) λ_ _ f=>f
def Jz      (za:Y.xe=λ_ _=>False)(he:PE Y elt te):Qn Y (do let _ <- call (.builtin "list.append") [.ref D,<- Lb elt Y.env]) (Rv te D):=by
 intro xa s O Z H Q J q;have ae:=he _ s O H _ J q;refine Ua (Xf ae (λv s9 ⟨z,R,J9,r9,y,j,q9⟩=>?_) λ_ _ f=>f);have aa:=LH (X:=Y) _ s9 O R (.ref D) [z] (.ref D) [v] (λx H'=>H'=upd R D (.lst (Z++[z]))) J9 rfl (.cons r9 .nil) ⟨_,Z,z,rfl,rfl,y,j,rfl⟩;refine Ua (Xf aa (λ_ va ⟨_,ja,F,_,I⟩=>?_) λ_ _ f=>f);subst I;exact Kb ⟨O,_,_,F,q9⟩
def wE            (yc:Y.calm=ua)(j:Y.xe=λ_ _=>False)(Z:PI Y t2 f wi)(hg:PG Y t2 g)(hi:PIfs Y I tt)(he:PE Y elt te)
  (hs:∀x,Cf f Y.env x=pure x) :
  Qn Y (do
   let x <- Lb f Y.env
   Gd f.pos
   let x <- Cf f Y.env x
   let _ <- runOwn (.compStart (.ListComp elt [g1,⟨t2,f,I,0⟩] scope pos) 1 (<- Hc [x] (Xd x)) (.ref D) Y.env) Y.env) (HK wi g tt te D):=by
 intro y s τ ys H Q J q;refine Ua (Wb (Z y s τ H _ J q) λv s1 h1=>Ua (bp (Ua (Il (hs v) (Ua (Hh (Wb h1 λxa s2 h2=>?_)))))));obtain⟨it,fp,tn,J2,H2,e,I2,T,st2,F,hW⟩:=h2;subst e;have R:=WF (s:=s2) (acc:=.ref D) (em:=do let _ <- call (.builtin "list.append") [.ref D,<- Lb elt Y.env]) (gens:=[g1,⟨t2,f,I,0⟩]) (dp:=1) (ip:=f.pos) (pos:=pos) (scope:=scope) (elt:=elt) (ifs:=I) yc j rfl hg hi (Jz j he) I2 T st2 F hW
 refine Ua (wpAny_runOwn (nn (X1 R (T.self _ 0 _ _ _ st2 R)) λr s3 ⟨hr,z,O,H',I',q'⟩=>?_));subst hr;exact Kb ⟨z,O,H',I',q'⟩
def fH {tg I elt:Na}{ifs:List Na}{rest:List ur}{pos:Pos}{g:TG}{tt:TT}{za:Ea->gk}{em:Ea->Env->Sem Unit}{J:It}{F:List Ea}{it:Ea}{tn:Nat->Cb->Prop}{cl:List (Str×Ea)}{Q:VK}{E:Da->Fa->Prop}{RR:Da->Ea->Ph->Fa->Prop}
  (hc:X.calm=ua) (S:CScope X N pick scope) (c1:∀x c,cl.lookup x=ma c->X.env.cells.lookup x=ma c) (c2:∀y∈scope.names,y.2=.free->∃c,cl.lookup y.1=ma c)
  (hg:∀cl C s₀ H₀ F,PG (Tc X N scope cl C s₀ H₀ F) tg g) (hi:∀cl C s₀ H₀ F,PIfs (Tc X N scope cl C s₀ H₀ F) ifs tt) (he:∀D cl C s₀ H₀ F,Qn (Tc X N scope cl C s₀ H₀ F) (em D (Tc X N scope cl C s₀ H₀ F).env) (za D))
  (kb:∀(it:Da) (D:Ea) (env:Env),Qk (.ListComp elt (⟨tg,I,ifs,0⟩::rest) scope pos) 0 it (.ref D) env=Vm I.pos tg ifs it env (em D env) (.compLoop (.ListComp elt (⟨tg,I,ifs,0⟩::rest) scope pos) 0 it (.ref D) env))
  (I2:Qa X pins σ H s) (T:Turn X.prog X.w X.K tg J F it tn) (st:tn 0 s.heap) (hf:∀b∈F,FpOk X pins H b)
  (hW:∀D,H D=Aa->LcGG J g tt za D (pick.map λo=>o.bind λj=>(σ[j]?).join) Q H)
  (jb:∀D C H' s',Qa X pins σ H' s'->(∃m,s'.heap.Ns C m)->FpOk X pins H' C->Q (.ref D) H'->RR (.ref D) C (.ok .next) s') :
  wpAny (Ia X.prog X.w) X.A (Aj []) (λacc ya=>wpAny (Ia X.prog X.w) X.A (GB scope X.env.globals cl [] X.env.qual Aa .none (ma X.env)) (λxa wa=>
   codeAny (Ia X.prog X.w) X.A (.compStart (.ListComp elt (⟨tg,I,ifs,0⟩::rest) scope pos) 0 (.ref it) acc { xa with scope:=relabel scope X.env }) (RR acc xa.locals) wa) E ya) E s:=by
 have hD:H s.heap.objs.size=Aa:=I2.hok.fresh (Mb _);have ka:∀b∈F,b<s.heap.objs.size:=λb f=>let ⟨o,e,_⟩:=T.obj _ _ st b f;Jc e
 refine yh (U1 ?_);have I3:Qa X pins σ (upd H s.heap.objs.size (.lst [])) { s with heap:=s.heap.push { cls:=.type "list",dict:=Aa,data:=.seq ([]:List Da).toArray } }:=
  I2.laid (t':=s.toks) (λb u e=>Dc _ e) (Mb _) ⟨Mf _,[],0,.nil,Wd _ rfl⟩
 generalize zb:({ s with heap:=s.heap.push { cls:=.type "list",dict:=Aa,data:=.seq ([]:List Da).toArray } }:Fa)=s3 at I3 ⊢
 have zc:s3.heap.objs.size=s.heap.objs.size+1:=by rw[<- zb];simp_all
 have va:∀b∈F,FpOk X pins (upd H s.heap.objs.size (.lst [])) b:=λb f=>⟨by rw[Bd (Sd (ka b f))];exact(hf b f).1,(hf b f).2⟩
 have xb:(s3.heap.push { cls:=.type "dict",data:=.dict #[] }).objs.size=s3.heap.objs.size+1:=yn ..;have hk:∀b o,s3.heap.get? b=ma o->(qr (s3.heap.push { cls:=.type "dict",data:=.dict #[] }) scope.names).get? b=ma o:=λb o e=>pushCells_keeps _ _ b o (Dc _ e);have R:(qr (s3.heap.push { cls:=.type "dict",data:=.dict #[] }) scope.names).Ns s3.heap.objs.size λ_=>Aa:=(Cb.Ns.new s3.heap (.type "dict")).keeps (pushCells_keeps _ _);have B:=yX (cl:=cl) xb S.cells λx c e=>by
  obtain⟨v,z⟩:=I3.cell x c (c1 x c e);exact uj z.lt
 generalize qr (s3.heap.push { cls:=.type "dict",data:=.dict #[] }) scope.names=h₁ at hk R B ⊢;generalize Cg (s3.heap.objs.size+1) scope.names cl=cs at B ⊢;have vb:∀x c,cs.lookup x=ma c->X.env.cells.lookup x=ma c\/s3.heap.objs.size<c:=λx c e=>by
  rcases B.lk x c e with⟨_,z,_⟩|⟨_,z⟩
  ·lia
  simp_all
 have st1:tn 0 h₁:=T.keep _ _ _ st λb _ o e=>hk b o (by rw[<- zb];exact Dc _ e)
 have IY:Qa (Tc X N scope cs s3.heap.objs.size s3 (upd H s.heap.objs.size (.lst [])) F) [] (pick.map λo=>o.bind λj=>(σ[j]?).join) (upd H s.heap.objs.size (.lst [])) { s3 with heap:=h₁ }:=
  aZ (tk:=s3.toks) S I3 va (λb f=>Lf (ka b f) (by lia)) c1 c2 B R hk
 generalize Z:Tc X N scope cs s3.heap.objs.size s3 (upd H s.heap.objs.size (.lst [])) F=Y at IY;have yg:PG Y tg g:=Z ▸ hg _ _ _ _ _;have yi:PIfs Y ifs tt:=Z ▸ hi _ _ _ _ _;have ye:Qn Y (em s.heap.objs.size Y.env) (za s.heap.objs.size):=Z ▸ he _ _ _ _ _ _;have ja:Y.prog=X.prog:=by rw[<- Z];rfl
 have yw:Y.w=X.w:=by rw[<- Z];rfl
 have yK:Y.K=X.K:=by rw[<- Z];rfl
 have yA:Y.A=X.A:=by rw[<- Z];rfl
 have yc:Y.calm=ua:=by rw[<- Z];exact hc
 have O:Y.env=compEnvC scope cs s3.heap.objs.size X.env:=by rw[<- Z];rfl
 have qc:∀b,b∈Y.ex↔b∈F:=λb=>by rw[<- Z];rfl
 have yb:Y.xe=λ_ _=>False:=by rw[<- Z];rfl
 have wc:Y.pn=[]:=by rw[<- Z];rfl
 have wb:∀b,b∈Y.fs->b∈X.env.locals::X.fs:=λb f=>I3.stkSub b (by rw[<- Z]at f;exact f)
 have ha:∀{H':Hp},(∀b∈F,H' b=Aa)->∀b∈F,FpOk Y [] H' b:=λhn b f=>by
  refine⟨hn b f,?_,λhm=>?_,.inl ((qc b).mpr f),λx c e=>?_,λp hp=>?_⟩
  ·rw[O];show b≠s3.heap.objs.size
   grind
  ·rcases Sc.mp (wb b hm)with z|z
   ·exact(hf b f).2.1 z
   ·exact(hf b f).2.2.1 z
  ·rw[O]at e;rcases vb x c e with z|z
   ·exact(hf b f).2.2.2.2.1 x c z
   grind
  simp_all
 have vc:∀{τ:St} {H':Hp} {s':Fa},Qa Y [] τ H' s'->Q (.ref s.heap.objs.size) H'->RR (.ref s.heap.objs.size) s3.heap.objs.size (.ok .next) s':=λ{τ H' s'} J q=>by
  have fr:H' s3.heap.objs.size=Aa:=by have:=J.free;rw[O]at this;exact this
  obtain⟨m,hn,_⟩:=J.loc;rw[O]at hn;exact jb _ _ H' s' (bX I3 va (Z ▸ J)) ⟨m,hn⟩ (I3.fpOk (Mb _) fr) q
 have hn:∀b∈F,upd H s.heap.objs.size (.lst []) b=Aa:=λb f=>(va b f).1;have lp:=WF (pins:=[]) (s:={ s3 with heap:=h₁ }) (acc:=.ref s.heap.objs.size) (ifs:=ifs) (em:=em s.heap.objs.size Y.env) yc yb (kb (.ref it) s.heap.objs.size Y.env) yg yi ye IY (by lia) st1 (ha hn) (hW _ hD)
 rw[ja,yw,yA,O]at lp;have lp:=nn lp (R':=RR (.ref s.heap.objs.size) s3.heap.objs.size) λr s' ⟨hr,xc,jc,H',I',q'⟩=>by grind
 show codeAny (Ia X.prog X.w) X.A (.compStart (.ListComp elt (⟨tg,I,ifs,0⟩::rest) scope pos) 0 (.ref it) (.ref s.heap.objs.size) (compEnvC scope cs s3.heap.objs.size X.env)) (RR (.ref s.heap.objs.size) s3.heap.objs.size) _;exact codeAny_compStart_list lp (T.self _ 0 _ _ _ st1 lp)

def sH       it D env:Qk (.ListComp elt [⟨tg,iter,ifs,0⟩,⟨t2,f,j,0⟩] scope pos) 0 it (.ref D) env=Vm iter.pos tg ifs it env (Lb f env >>= λx=>Gd f.pos >>= λ_=>Cf f env x >>= λx=>Hc [x] (Xd x) >>= λi=>runOwn (.compStart (.ListComp elt [⟨tg,iter,ifs,0⟩,⟨t2,f,j,0⟩] scope pos) 1 i (.ref D) env) env >>= λ_=>pure ()) (.compLoop (.ListComp elt [⟨tg,iter,ifs,0⟩,⟨t2,f,j,0⟩] scope pos) 0 it (.ref D) env):=by
 unfold Qk Vm Xu;simp only[bind_assoc];rfl
section
variable {tg iter elt:Na}{ifs:List Na}
def NE {pos:Pos}{wi:TI}{g:TG}{tt:TT}{rest:List ur}{F:Ea->gk}{em:Ea->Env->Sem Unit}(hc:X.calm=ua)(S:CScope X N pick scope)(hw:PI X tg iter wi)
  (hg:∀cl C s₀ H₀ z,PG (Tc X N scope cl C s₀ H₀ z) tg g) (hi:∀cl C s₀ H₀ z,PIfs (Tc X N scope cl C s₀ H₀ z) ifs tt) (he:∀D cl C s₀ H₀ z,Qn (Tc X N scope cl C s₀ H₀ z) (em D (Tc X N scope cl C s₀ H₀ z).env) (F D))
  (R:∀(it:Da) (D:Ea) (env:Env),Qk (.ListComp elt (⟨tg,iter,ifs,0⟩::rest) scope pos) 0 it (.ref D) env=Vm iter.pos tg ifs it env (em D env) (.compLoop (.ListComp elt (⟨tg,iter,ifs,0⟩::rest) scope pos) 0 it (.ref D) env))
  (hs:∀x,Cf iter X.env x=pure x:=by intro _;rfl):PE X (.ListComp elt (⟨tg,iter,ifs,0⟩::rest) scope pos) (tLcG pick wi g tt F):=by
 intro f s σ H Q I h;obtain⟨cl,j,c1,c2⟩:=BI (scope:=scope) (env:=X.env) λy hy hf=>I.ok.has _ (S.fre y hy hf).2;rw[eval_ListComp];refine bM (use:=Aa) rfl hs j S.kind S.names (Wb (hw f s σ H _ I h) λv s1 h1=>Wb h1 λxa s2 h2=>?_);obtain⟨it,z,tn,J,H2,e,I2,T,st2,f2,hW⟩:=h2;subst e;refine fH (RR:=λZ C=>compPost (Ia X.prog X.w) X.A X.xe Aa (EP X f σ Q) Z C) hc S c1 c2 hg hi he R I2 T st2 f2 hW λD C H' s' J' ⟨m,hn⟩ O q=>?_;refine⟨m,hn,λh' Y=>⟨.ref D,H',?_,rfl,q⟩⟩;exact J'.turned (t':=s'.toks) (it:=C) (λb o hb e=>Y.extBut b o hb e) O.1 O.2.1 O.2.2.2.1 O.2.2.2.2.1 O.2.2.2.2.2

def RE {pos Y j:Pos}{wi:TI}{g:TG}{tt:TT}{rest:List ur}{Z:Ea->gk}{em:Ea->Env->Sem Unit}{i:Nat}{y:Str}(hN:X.N.Nodup)(ja:X.N[i]?=ma y)(hy:X.env.scope.names.lookup y=ma .local)(hc:X.calm=ua)(S:CScope X N pick scope)(hw:PI X tg iter wi)
  (hg:∀cl C s₀ H₀ R,PG (Tc X N scope cl C s₀ H₀ R) tg g) (hi:∀cl C s₀ H₀ R,PIfs (Tc X N scope cl C s₀ H₀ R) ifs tt) (he:∀D cl C s₀ H₀ R,Qn (Tc X N scope cl C s₀ H₀ R) (em D (Tc X N scope cl C s₀ H₀ R).env) (Z D))
  (va:∀(it:Da) (D:Ea) (env:Env),Qk (.ListComp elt (⟨tg,iter,ifs,0⟩::rest) scope pos) 0 it (.ref D) env=Vm iter.pos tg ifs it env (em D env) (.compLoop (.ListComp elt (⟨tg,iter,ifs,0⟩::rest) scope pos) 0 it (.ref D) env))
  (za:ij (.ListComp elt (⟨tg,iter,ifs,0⟩::rest) scope pos) (ma (.Name y Y)) j.line X.env=pure ua) (hs:∀x,Cf iter X.env x=pure x:=by intro _;rfl) :
  PS X (.Assign [.Name y Y] (.ListComp elt (⟨tg,iter,ifs,0⟩::rest) scope pos) j) (tAsg (tLcG pick wi g tt Z) (uq i)):=by
 intro f s σ H D0 I h;obtain⟨cl,O,c1,c2⟩:=BI (scope:=scope) (env:=X.env) λy hy hf=>I.ok.has _ (S.fre y hy hf).2;rw[exec_Assign_Name_used _ _ _ _ za];refine Ua (bp (Ua ?_));show wpAny _ _ (do let _ <- comprehension (.ListComp elt (⟨tg,iter,ifs,0⟩::rest) scope pos) scope X.env _ (Aj []) Ca (Lb iter X.env) (ma (Yc (.Name y Y) X.env))) _ _ s
 refine Ua (Wb (bM (use:=ma (Yc (.Name y Y) X.env)) (Q:=λ_ s'=>SP X f D0 .next s') rfl hs O S.kind S.names
  (Wb (hw f s σ H _ I h) λv s1 h1=>Wb h1 λzb s2 h2=>?_)) λ_ s' hq=>Kb (Kb hq))
 obtain⟨it,R,tn,J,H2,e,I2,T,st2,f2,hW⟩:=h2;subst e;refine fH (Q:=λx H1=>uq i x σ H1 D0.nx) (RR:=λwa C=>compPost (Ia X.prog X.w) X.A X.xe (ma (Yc (.Name y Y) X.env)) (λ_ s'=>SP X f D0 .next s') wa C) hc S c1 c2 hg hi he va I2 T st2 f2 hW λD C H' s' J' ⟨m,hn⟩ F q=>?_
 show wpAny _ _ (Yc (.Name y Y) X.env (.ref D)) _ _ _;refine wpAny_assign_Name (CH (v:=.ref D) J' hN ja (.inl hy) rfl (λxb xa ⟨a,sb,ha⟩=>?_) (.inr hy));have ka:C≠a:=by
  rcases ha with z|z
  ·rw[z];exact F.2.1
  ·exact λe=>F.2.2.2.2.1 y a z e.symm
 refine⟨m,hn.sameBut sb ka,λh' ya=>?_⟩;refine⟨_,H',xa.turned (t':=xb.toks) (it:=C) (λb o hb e=>ya.extBut b o hb e) F.1 F.2.1 F.2.2.2.1 F.2.2.2.2.1 F.2.2.2.2.2,q⟩
def iQ {pos:Pos}{z:TI}{g:TG}{y:TT}{q:TE}(F:X.calm=ua)(S:CScope X N pick scope)(I:PI X tg iter z)
  (O:∀cl C s₀ H₀ f,PG (Tc X N scope cl C s₀ H₀ f) tg g) (hi:∀cl C s₀ H₀ f,PIfs (Tc X N scope cl C s₀ H₀ f) ifs y) (J:∀cl C s₀ H₀ f,PE (Tc X N scope cl C s₀ H₀ f) elt q)
  (hs:∀x,Cf iter X.env x=pure x:=by intro _;rfl):PE X (.ListComp elt [⟨tg,iter,ifs,0⟩] scope pos) (Lx pick z g y q):=
 NE (em:=λD j=>do let _ <- call (.builtin "list.append") [.ref D,<- Lb elt j]) (rest:=[]) F S I O hi (λD cl C s₀ H₀ f=>Jz rfl (J cl C s₀ H₀ f)) (λ_ _ _=>rfl) hs
def HU {pos:Pos}{wi:TI}{g:TG}{Z:TT}{R:TE}{t2 j:Na}{z:List Na}{y:TI}{g2:TG}{q:TT}(Y:X.calm=ua)(S:CScope X N pick scope)(hw:PI X tg iter wi)
  (hg:∀cl C s₀ H₀ f,PG (Tc X N scope cl C s₀ H₀ f) tg g) (hi:∀cl C s₀ H₀ f,PIfs (Tc X N scope cl C s₀ H₀ f) ifs Z) (he:∀cl C s₀ H₀ f,PE (Tc X N scope cl C s₀ H₀ f) elt R)
  (F:∀cl C s₀ H₀ f,PI (Tc X N scope cl C s₀ H₀ f) t2 j y) (J:∀cl C s₀ H₀ f,PG (Tc X N scope cl C s₀ H₀ f) t2 g2) (I:∀cl C s₀ H₀ f,PIfs (Tc X N scope cl C s₀ H₀ f) z q) (O:∀(env:Env) x,Cf j env x=pure x)
  (hs:∀x,Cf iter X.env x=pure x:=by intro _;rfl):PE X (.ListComp elt [⟨tg,iter,ifs,0⟩,⟨t2,j,z,0⟩] scope pos) (tLc2 pick wi g Z y g2 q R):=
 NE (em:=(λD env=>do
   let x <- Lb j env
   Gd j.pos
   let x <- Cf j env x
   let _ <- runOwn (.compStart (.ListComp elt [⟨tg,iter,ifs,0⟩,⟨t2,j,z,0⟩] scope pos) 1 (<- Hc [x] (Xd x)) (.ref D) env) env)) (rest:=[⟨t2,j,z,0⟩]) Y S hw hg hi (λD cl C s₀ H₀ f=>wE Y rfl (F cl C s₀ H₀ f) (J cl C s₀ H₀ f) (I cl C s₀ H₀ f) (he cl C s₀ H₀ f) (O _)) sH hs
def fS {pos:Pos}{O:TI}{g:TG}{J:TT}{I:TE}{R f:Pos}{i:Nat}{y:Str}(hN:X.N.Nodup)(z:X.N[i]?=ma y)(Y:X.env.scope.names.lookup y=ma .local)(Z:X.calm=ua)(S:CScope X N pick scope)(hw:PI X tg iter O)
  (hg:∀cl C s₀ H₀ j,PG (Tc X N scope cl C s₀ H₀ j) tg g) (hi:∀cl C s₀ H₀ j,PIfs (Tc X N scope cl C s₀ H₀ j) ifs J) (he:∀cl C s₀ H₀ j,PE (Tc X N scope cl C s₀ H₀ j) elt I)
  (q:ij (.ListComp elt [⟨tg,iter,ifs,0⟩] scope pos) (ma (.Name y R)) f.line X.env=pure ua) (hs:∀x,Cf iter X.env x=pure x:=by intro _;rfl):PS X (.Assign [.Name y R] (.ListComp elt [⟨tg,iter,ifs,0⟩] scope pos) f) (tAsg (Lx pick O g J I) (uq i)):=
 RE (em:=λD F=>do let _ <- call (.builtin "list.append") [.ref D,<- Lb elt F]) (rest:=[]) hN z Y Z S hw hg hi (λD cl C s₀ H₀ j=>Jz rfl (he cl C s₀ H₀ j)) (λ_ _ _=>rfl) q hs
def nU {pos:Pos}{wi:TI}{g:TG}{tt:TT}{te:TE}{t2 j:Na}{I:List Na}{z:TI}{g2:TG}{F:TT}{py q:Pos}{i:Nat}{y:Str}(hN:X.N.Nodup)(Z:X.N[i]?=ma y)(hy:X.env.scope.names.lookup y=ma .local)(hc:X.calm=ua)(S:CScope X N pick scope)(hw:PI X tg iter wi)
  (hg:∀cl C s₀ H₀ f,PG (Tc X N scope cl C s₀ H₀ f) tg g) (hi:∀cl C s₀ H₀ f,PIfs (Tc X N scope cl C s₀ H₀ f) ifs tt) (he:∀cl C s₀ H₀ f,PE (Tc X N scope cl C s₀ H₀ f) elt te)
  (J:∀cl C s₀ H₀ f,PI (Tc X N scope cl C s₀ H₀ f) t2 j z) (R:∀cl C s₀ H₀ f,PG (Tc X N scope cl C s₀ H₀ f) t2 g2) (O:∀cl C s₀ H₀ f,PIfs (Tc X N scope cl C s₀ H₀ f) I F) (xa:∀(env:Env) x,Cf j env x=pure x)
  (Y:ij (.ListComp elt [⟨tg,iter,ifs,0⟩,⟨t2,j,I,0⟩] scope pos) (ma (.Name y py)) q.line X.env=pure ua) (hs:∀x,Cf iter X.env x=pure x:=by intro _;rfl):PS X (.Assign [.Name y py] (.ListComp elt [⟨tg,iter,ifs,0⟩,⟨t2,j,I,0⟩] scope pos) q) (tAsg (tLc2 pick wi g tt z g2 F te) (uq i)):=
 RE (em:=(λD env=>do
   let x <- Lb j env
   Gd j.pos
   let x <- Cf j env x
   let _ <- runOwn (.compStart (.ListComp elt [⟨tg,iter,ifs,0⟩,⟨t2,j,I,0⟩] scope pos) 1 (<- Hc [x] (Xd x)) (.ref D) env) env)) (rest:=[⟨t2,j,I,0⟩]) hN Z hy hc S hw hg hi (λD cl C s₀ H₀ f=>wE hc rfl (J cl C s₀ H₀ f) (R cl C s₀ H₀ f) (O cl C s₀ H₀ f) (he cl C s₀ H₀ f) (xa _)) sH Y hs
end
end

mutual
inductive DV (K:Sb)(H:Hp):V->ub->Prop
 |non:DV K H .non .none
 |bl (b:Bool):DV K H (.bl b) (.bool b)
 |int (i:Int):DV K H (.int i) (.int i)
 |str (x:Str):DV K H (.str x) (.str x)
 |tup {a:Ea} {xs:List V} {ds:List ub}:Qd K H a xs->Lg K H xs ds->DV K H (.ref a) (.tuple ds)
 |lst {a:Ea} {xs:List V} {ds:List ub}:Rd H a (.lst xs)->Lg K H xs ds->DV K H (.ref a) (.list ds)
 |dic {a:Ea}:H a=ma (.dK [])->DV K H (.ref a) (.dict [])
inductive Lg (K:Sb)(H:Hp):List V->List ub->Prop
 |nil:Lg K H [] []
 |cons {x:V} {d:ub} {xs:List V} {ds:List ub}:DV K H x d->Lg K H xs ds->Lg K H (x::xs) (d::ds)
end

mutual
noncomputable def RN:ub->Bool
 |.list _=>Ca
 |.tuple f=>noLs f
 |.dict _=>Ca
 |.none|.bool _|.int _|.str _=>ua
noncomputable def noLs:List ub->Bool
 |[]=>ua
 |x::r=>RN x&&noLs r
end


def Qa.noSys    {f:St}(I:Qa X pins f H s)(h:s.heap.get? a=ma o)(c:o.cls=.type "list"):Jf≠a:=λe=>by
 obtain⟨q,l,j⟩:=I.mod.sys;have:=I.kIn _ _ l
 lia
mutual
theorem DV.reads2 {X:Cx}{pins:List (Ea×Obj)}{Z:St}{H:Hp}{s:Fa}(I:Qa X pins Z H s):∀{x:V} {d:ub} {u:Da},DV X.K H x d->RelV x u->∃as,Reads s.heap u d as/\Jf∉as
 |_,_,_,.non,r=>by cases r;exact⟨_,.none,by simp⟩
 |_,_,_,.bl b,r=>by cases r;exact⟨_,.bool b,by simp⟩
 |_,_,_,.int i,r=>by obtain⟨t,rfl⟩:=r;exact⟨_,.int i t,by simp⟩
 |_,_,_,.str x,r=>by obtain⟨t,rfl⟩:=r;exact⟨_,.str x t,by simp⟩
 |_,_,_,.tup e h,r=>by
  cases r
  obtain⟨F,O,⟨o,f,y,n,hd⟩,_⟩:=I.tuple e
  obtain⟨as,q,z⟩:=Lg.reads2 I h O
  exact⟨_,.tuple f y hd q,z⟩
 |_,_,_,@DV.lst _ _ a _ _ e h,r=>by
  cases r
  obtain⟨F,O,⟨o,n,f,y,_,hd⟩,_⟩:=I.list (.inl e)
  obtain⟨as,q,z⟩:=Lg.reads2 I h O
  refine⟨_,.list f y hd q,λj=>?_⟩
  rcases Sc.mp j with j|j
  ·exact I.noSys f y j
  lia
 |_,_,_,@DV.dic _ _ a e,r=>by
  cases r
  obtain⟨_,hS,R,kv,o,Y,ep,f,hx,hd,_,J,_⟩:([]:List (uc×V)).length<=Fb/\(a==Jf)=Ca/\∃R,KV [] R/\s.heap.DictOf (He X.prog X.w) a R:=I.hok a _ e
  have e0:Y.toList=[]:=by
   cases kv
   revert J
   cases Y.toList with
   |nil=>lia
   |cons x r=>exact λJ=>(nomatch J)
  refine⟨_,.dict (kvs:=[]) (as:=[]) (bs:=[]) f hx.1 hd (by rw[e0];exact .nil) (by rw[e0];exact .nil),λj=>?_⟩
  simp_all
theorem Lg.reads2 {X:Cx}{pins:List (Ea×Obj)}{j:St}{H:Hp}{s:Fa}(I:Qa X pins j H s):∀{xs:List V} {f:List ub} {us:List Da},Lg X.K H xs f->Vals xs us->∃as,ReadsAll s.heap us f as/\Jf∉as
 |_,_,_,.nil,r=>by cases r;exact⟨_,.nil,by simp⟩
 |_,_,_,.cons a b,r=>by
  cases r with
  |cons r rr=>
   obtain⟨as,q,z⟩:=DV.reads2 I a r
   obtain⟨bs,y,F⟩:=Lg.reads2 I b rr
   exact⟨_,.cons q y,by simp_all⟩
end
def DV.reads {X:Cx}{pins:List (Ea×Obj)}{f:St}{H:Hp}{s:Fa}(I:Qa X pins f H s){x:V}{d:ub}{u:Da}(h:DV X.K H x d)(r:RelV x u):∃as,Reads s.heap u d as:=let ⟨as,q,_⟩:=DV.reads2 I h r;⟨as,q⟩
def Lg.reads    {f:St}(I:Qa X pins f H s)(h:Lg X.K H xs j)(r:Vals xs us):∃as,ReadsAll s.heap us j as:=let ⟨as,q,_⟩:=Lg.reads2 I h r;⟨as,q⟩

structure Fits (n k:Nat)(d:ub):Prop where
 sh:d.showable=ua
 ln:d.shown.length<=n
 dp:d.depth<=k
def Fits.mono    (h:Fits n k d)(f:n<=j)(q:k<=k'):Fits j k' d:=⟨h.sh,Yb h.ln f,Yb h.dp q⟩
def Fits.int   (h:i.natAbs<2 ^ 1000):Fits 1921 0 (.int i):=by
 have f:i.natAbs.log2<1920:=by
  by_cases z:i.natAbs=0
  ·simp_all
  ·exact Lf ((Nat.log2_lt z).mpr h) (by decide)
 refine⟨by simp[Jw,f],?_,Mb _⟩
 simp only[Uk];exact int_text_len_1921 f
def Fits.str    (h:x.length<=m)(f:∀c∈x.cps.toList,c<16 ^ 8):Fits (10*m+2) 0 (.str x):=by
 refine⟨rfl,?_,Mb _⟩;simp only[Uk];exact Yb (StrLaws.reprText_len x f) (by lia)
def zG    (h:∀t∈ts,t.length<=n):piled ts<=ts.length*(n+2):=by
 induction ts with
 |nil=>simp[piled]
 |cons t r f=>
  have y:=h t Re;have z:=f λq j=>h q (Jd _ j);rw[piled_cons,Zf,Nat.add_mul]
  lia
theorem gB  : ∀{f } {t },t∈An f->∃d∈f,t=d.shown
 |[],_,h=>by simp[An]at h
 |d::r,t,h=>by
  simp only[An,Sc]at h;rcases h with h|h
  ·simp_all
  ·obtain⟨e,j,q⟩:=gB h
   grind
theorem uB  : ∀f ,(An f).length=f.length
 |[]=>rfl
 |_::r=>by simp[An,uB r]
def JV   ts:(Str.join ", " ts).length<=piled ts:=by
 rcases Classical.em (ts=[])with rfl|hz
 ·exact Mf _
 ·exact Nat.le_of_add_right_le (mw (join_length_add ts hz))
def U0    (h:∀t∈ts,t.length<=n):(tupleText ts).length<=ts.length*(n+2)+3:=by
 have f:=Yb (JV ts) (zG h);have two:∀b:Bool,((((if b=ua then ",)" else ")"):String):Str)).length<=2:=by decide
 have z:=two (ts.length==1);have one:(("(" : String):Str).length=1:=rfl
 simp only[tupleText,PB]at z ⊢
 lia
theorem jJ  : ∀ts k (acc:Str),(textFrom k acc ts).length<=acc.length+piled ts
 |[],_,_=>Mb _
 |t::r,k,acc=>by
  have two:(((if k>0 then ", " else "" : String):Str)).length<=2:=by split<;>decide
  have f:=jJ r (k+1) (acc++(if k>0 then ", " else "" : String)++t)
  simp only[PB]at f;rw[piled_cons];exact Yb f (by lia)
def K0    (h:∀t∈ts,t.length<=n):(listText ts).length<=ts.length*(n+2)+3:=by
 have f:=Yb (jJ ts 0 "[") (uC (zG h) _)
 have one:(("[" : String):Str).length=1/\(("]" : String):Str).length=1:=⟨rfl,rfl⟩;simp only[listText,PB]
 lia
theorem dB  : ∀{f },(∀d∈f,d.showable=ua)->vL f=ua
 |[],_=>rfl
 |d::r,h=>by simp[vL,h d Re,dB λq j=>h q (Jd _ j)]
theorem LA  : ∀{f } {k },(∀d∈f,d.depth<=k)->ck f<=k
 |[],_,_=>Mf _
 |d::r,k,h=>by
  simp only[ck];exact Nat.max_le.mpr ⟨h d Re,LA λq j=>h q (Jd _ j)⟩
def Fits.tup    (h:∀d∈f,Fits n k d):Fits (f.length*(n+2)+3) (k+1) (.tuple f):=by
 refine⟨?_,?_,?_⟩
 ·simp only[Jw];exact dB λd hd=>(h d hd).sh
 ·simp only[Uk];have:=U0 (ts:=An f) (n:=n) λt j=>by obtain⟨d,hd,e⟩:=gB j;rw[e];exact(h d hd).ln
  rw[uB]at this
  lia
 ·simp only[ub.depth];exact Iw (LA λd hd=>(h d hd).dp)
def Fits.lst    (h:∀d∈f,Fits n k d):Fits (f.length*(n+2)+3) (k+1) (.list f):=by
 refine⟨?_,?_,?_⟩
 ·simp only[Jw];exact dB λd hd=>(h d hd).sh
 ·simp only[Uk];have:=K0 (ts:=An f) (n:=n) λt j=>by obtain⟨d,hd,e⟩:=gB j;rw[e];exact(h d hd).ln
  rw[uB]at this
  lia
 ·simp only[ub.depth];exact Iw (LA λd hd=>(h d hd).dp)
def Fits.tupLe    (j:f.length<=m)(h:∀d∈f,Fits n k d)(q:m*(n+2)+3<=N):Fits N (k+1) (.tuple f):=
 (Fits.tup h).mono (Yb (SL (TL _ j) _) q) (Mb _)
def Fits.lstLe    (j:f.length<=m)(h:∀d∈f,Fits n k d)(q:m*(n+2)+3<=N):Fits N (k+1) (.list f):=
 (Fits.lst h).mono (Yb (SL (TL _ j) _) q) (Mb _)

def pS  (K:Sb):List V->Hp->VK->Prop:=λf H Q=>∃x d,f=[x]/\DV K H x d/\Fits 16000000 60 d/\Q (.str d.shown) H
def CZ    (Y:Room k X.A):Vf X (.builtin "repr") (pS X.K):=by
 intro R s σ H xs us Q I r h;obtain⟨x,d,rfl,dv,ft,q⟩:=h;obtain⟨u,rfl,y⟩:=Eh r;have hu:=Y.un;have f:∀(z:Cb) (F:Tok) (J:Nat),(∀b o,s.heap.get? b=ma o->z.get? b=ma o)->EP X R σ Q (.str d.shown F) { s with heap:=z,toks:=J }:=λz F J hk=>
  ⟨.str d.shown,H,I.kept (t':=J) hk,⟨F,rfl⟩,q⟩
 have O:d.shown.length<=Fb:=Yb ft.ln (by decide)
 cases dv with
 |non=>cases y;exact P.repr_of_none (f _ _ _ λ_ _ e=>e)
 |bl b=>cases y;exact P.repr_of_bool (by have:=f s.heap s.toks (s.toks+1) λ_ _ e=>e;simp only[Uk]at this;lia)
 |int i=>
  obtain⟨t,rfl⟩:=y;refine P.repr_of_int (by simpa[Jw]using ft.sh) ?_
  have:=f s.heap s.toks (s.toks+1) λ_ _ e=>e;simp only[Uk]at this
  lia
 |str x=>
  obtain⟨t,rfl⟩:=y;simp only[Uk]at O;refine P.repr_of_str ?_ O;have:=f s.heap s.toks (s.toks+1) λ_ _ e=>e;simp only[Uk]at this
  lia
 |@tup a xs ds e hd=>
  obtain⟨Z,rd,j⟩:=DV.reads2 I (DV.tup e hd) y;cases y;exact HB rd ft.sh (λ_=>j) Y.gd (by have:=ft.dp;lia) (λ_ _ e=>e) (λz F J hk=>f z F J hk) O
 |@lst a xs ds e hd=>
  obtain⟨Z,rd,j⟩:=DV.reads2 I (DV.lst e hd) y;cases y;exact HB rd ft.sh (λ_=>j) Y.gd (by have:=ft.dp;lia) (λ_ _ e=>e) (λz F J hk=>f z F J hk) O
 |@dic a e=>
  obtain⟨Z,rd,j⟩:=DV.reads2 I (DV.dic e) y;cases y;exact HB rd ft.sh (λ_=>j) Y.gd (by have:=ft.dp;lia) (λ_ _ e=>e) (λz F J hk=>f z F J hk) O

def Sm  (f:Ea)(H j:Hp):Prop:=∀b o,b≠f->H b=ma o->j b=ma o




theorem vJ  : ∀{ns } {us },Vals (ns.map V.int) us->∃ys:List (Int×Tok),us=(ys.map λp=>qi p.1 p.2)/\ys.map (·.1)=ns
 |[],us,r=>by cases r;simp_all
 |n::ns,us,r=>by
  cases r with
  |cons h r=>
   obtain⟨t,rfl⟩:=h;obtain⟨ys,rfl,e⟩:=vJ r;exact⟨(n,t)::ys,rfl,by simp[e]⟩

def aX  (R:X.calm=ua):Vf X (.builtin "sum") (λxs H Q=>∃(p:Ea) (ns:List Int),xs=[.ref p]/\re X.K H p (ns.map V.int)/\Q (.int ns.sum) H):=by
 intro f s σ H xs us Q I r h;obtain⟨p,ns,rfl,F,q⟩:=h;obtain⟨u,rfl,y⟩:=Eh r;cases y;obtain⟨Z,J,O,hz⟩:=I.list F;obtain⟨Y,rfl,e⟩:=vJ J;have j:s.heap.IsList p (intItems Y.toArray):=by
  have:=O.isList;simpa[intItems]using this
 refine sum_intListG (I.ok.hd R) j λh' tk z k=>⟨.int ns.sum,H,I.kept k,⟨z,?_⟩,q⟩;rw[preSum_eq,Zj (by simp),<- e]

theorem fm_rev  (xs:List Da):∀n,n<=xs.length->(Md n).filterMap (λk=>xs[xs.length-1-k]?)=(xs.drop (xs.length-n)).reverse
 |0,_=>by simp
 |n+1,h=>by
  rw[ZB,List.filterMap_append,fm_rev xs n (by lia)]
  have hk:xs.length-1-n<xs.length:=by lia
  have:xs.drop (xs.length-(n+1))=xs[xs.length-1-n]::xs.drop (xs.length-n):=by
   rw[show xs.length-(n+1)=xs.length-1-n by lia,xh hk,show xs.length-1-n+1=xs.length-n by lia]
  simp_all
def YX  (xs:List Da):Zo xs.toArray Aa Aa (ma (-1))=xs.reverse.toArray:=by
 have e:sliceRange ((xs.length:Int)-1) (-1) (-1)=(Md xs.length).map λk=>xs.length-1-k:=by
  unfold sliceRange;have j:(if (-1:Int)>0 then (if (xs.length:Int)-1 < -1 then (-1-((xs.length:Int)-1) + -1-1) / -1 else 0) else (if (xs.length:Int)-1 > -1 then ((xs.length:Int)-1 - -1 - -1-1)/(- -1) else 0)).toNat=xs.length:=by
   rw[if_neg (by lia),show(- -1:Int)=1 from rfl,CB]
   split<;>lia
  simp only[j];refine Wr λk hk=>?_;have:=Db.mp hk
  lia
 have b:Wj Aa Aa (ma (-1)) xs.toArray.size=((xs.length:Int)-1,-1,-1):=by
  simp[Wj]
 unfold Zo;rw[b];simp only;rw[e,OC];have:=fm_rev xs xs.length (Mb _);rw[tw,lC]at this;rw[<- this];congr 1;refine congrArg (λf=>List.filterMap f (Md xs.length)) (funext λk=>?_);simp
def qX  (xs:List Da):Zo xs.toArray Aa Aa (ma 1)=xs.toArray:=by
 have:=slicePick_all xs.toArray;unfold Zo at this ⊢;exact this
def Vals.rev    (r:Vals xs us):Vals xs.reverse us.reverse:=by
 induction r with
 |nil=>exact .nil
 |cons h r f=>rw[Sr,Sr];exact f.append (.cons h .nil)

end L2
namespace HT
open PySem PySem.Spec PyProof.Rows

def getItem_tuple_all     {lo hi:Option Int}(j:aj s.heap t items)(hs:s.heap.IsSliceOf F Y Z .none)(J:cf Y lo)(I:cf Z hi)
  (hw:sIx items.size 0 lo=0/\sIx items.size items.size hi=items.size) (h:Q (.ref t) s):wpAny (Ia prog w) A (Td (.ref t) (.ref F)) Q E s:=by
 obtain⟨R,q,y,O⟩:=id hs;have z:s.TypeIs (.ref F) "slice" := ⟨R,q,y⟩;unfold Td
 try with_reducible refine Hh ?_
 first|refine Ua (Kb ?_)|skip
 refine Ua (XB j.typeIs (by decide) ?_)
 refine Ua (Pr (name:=pj "__getitem__") j.typeIs Yj
  (tj Yj j.typeIs IC ?_ (eC _ _)))
 show wpAny _ _ (SC (.ref t) >>= _) _ _ s;refine Ua (QB j ?_);refine Ua (rp z ?_);rw[if_pos (by decide)]
 refine Ua (nK hs J I ?_);have f:((((sIx items.size 0 lo:Nat):Int)==0&&(1:Int)==1&&(sIx items.size items.size hi-sIx items.size 0 lo)==items.size)=ua):=by
  simp_all
 show wpAny _ _ (if (((sIx items.size 0 lo:Nat):Int)==0&&(1:Int)==1&&(sIx items.size items.size hi-sIx items.size 0 lo)==items.size)=ua then _ else _) _ _ s
 rw[if_pos f];refine Ua (m:=KM (.ref t)) ?_;unfold KM;refine Ua (rp j.typeIs (Kb ?_));rw[if_pos (by decide)]
 exact Ua (ci (Kb ⟨_,rfl,Kb h⟩))
end HT
namespace L2
open PySem PySem.Spec PyProof.Rows

def rSlW  (K:Sb):V->Option Int->Option Int->Hp->VK->Prop:=λx j q H Q=>∃a f,x=.ref a/\Qd K H a f/\
 (HT.sIx f.length 0 j=0/\HT.sIx f.length f.length q=f.length)/\Q (.ref a) H
def HW  : gi X (rSlW X.K):=by
 intro z s σ H x v vl vu lo hi sl Q I F R O J h;obtain⟨a,Y,rfl,Z,hw,q⟩:=h;cases F;obtain⟨f,r,j,hz⟩:=I.tuple Z;have y:f.toArray.size=Y.length:=by rw[Od];exact r.length.symm
 refine⟨"tuple",_,Yj.lookup,j.typeIs,?_⟩;exact HT.getItem_tuple_all j R O J (by lia) ⟨.ref a,H,I,rfl,q⟩
def GW  : gi X (λx lo hi H Q=>rSlT X.K x lo hi H Q\/rSlW X.K x lo hi H Q):=gi.or GT HW

end L2
namespace HT
open PySem PySem.Spec PyProof.Rows

def S1    {n:Nat}(hs:s.heap.IsSliceOf z .none .none (.int (-1) t))(h:Q ((n:Int)-1,-1,n) s):wpAny (Ia prog w) A (mx (.ref z) (pure (n:Int))) Q E s:=by
 obtain⟨I,f,y,j⟩:=id hs;unfold mx IM;refine Ua (Ua (kj f j (x:=.none) rfl (Ua (kj f j (x:=.none) rfl (Ua (kj f j (x:=.int (-1) t) rfl (Kb ?_)))))));refine Ua (Qq (.int (-1) t) ?_);show wpAny _ _ (if ((-1:Int)==0)=ua then _ else _) _ _ s
 rw[if_neg (by decide)]
 refine Ua (Qq .none (Ua (Qq .none (Ua (Kb ?_)))));have F:Ms Aa Aa (-1) (n:Int)=((n:Int)-1,-1):=rfl;have q:Zk ((n:Int)-1) (-1) (-1)=n:=by
  unfold Zk;rw[if_neg (by lia),show(- -1:Int)=1 from rfl,CB]
  split<;>lia
 show wpAny _ _ (match Ms Aa Aa (-1) (n:Int)with|(lo,hi)=>pure (lo,(-1:Int),Zk lo hi (-1))) _ _ s
 rw[F];show wpAny _ _ (pure ((n:Int)-1,(-1:Int),Zk ((n:Int)-1) (-1) (-1))) _ _ s;rw[q];exact Kb h
def OX  (xs:List Da):((Md xs.length).filterMap λ(k:Nat)=>xs.toArray[((xs.length:Int)-1+(k:Int)*(-1)).toNat]?).toArray=xs.reverse.toArray:=by
 have:=L2.fm_rev xs xs.length (Mb _);rw[tw,lC]at this;rw[<- this];congr 1;refine congrArg (λf=>List.filterMap f (Md xs.length)) (funext λk=>?_);rw[show((xs.length:Int)-1+(k:Int)*(-1)).toNat=xs.length-1-k by lia]
 simp
def getItem_tuple_rev   {f:List Da}(q:aj s.heap t f.toArray)(hs:s.heap.IsSliceOf J .none .none (.int (-1) tk))
  (h:Q (.ref s.heap.objs.size) { s with heap:=s.heap.push { cls:=.type "tuple",data:=.seq f.reverse.toArray } }) (hsz:f.length<=Fb):wpAny (Ia prog w) A (Td (.ref t) (.ref J)) Q E s:=by
 have j:sizeOk (.seq f.reverse.toArray):=by
  show f.reverse.toArray.size<=Fb
  simp_all
 obtain⟨O,z,F,R⟩:=id hs;have I:s.TypeIs (.ref J) "slice" := ⟨O,z,F⟩;unfold Td
 try with_reducible refine Hh ?_
 first|refine Ua (Kb ?_)|skip
 refine Ua (XB q.typeIs (by decide) ?_)
 refine Ua (Pr (name:=pj "__getitem__") q.typeIs Yj
  (tj Yj q.typeIs IC ?_ (eC _ _)))
 show wpAny _ _ (SC (.ref t) >>= _) _ _ s;refine Ua (QB q ?_);refine Ua (rp I ?_);rw[if_pos (by decide)]
 refine Ua (S1 (n:=f.length) hs ?_);have y:¬((((f.length:Int)-1)==0&&(-1:Int)==1&&f.length==f.toArray.size)=ua):=by simp
 show wpAny _ _ (if (((f.length:Int)-1)==0&&(-1:Int)==1&&f.length==f.toArray.size)=ua then _ else _) _ _ s
 rw[if_neg y,OX]
 first
  |exact Ua (m:=Xk _) (yh (Kb ⟨_,rfl,Kb h⟩) j)
  |exact Ua (m:=Xk _) (yh (Ua (Kb (Kb ⟨_,rfl,Kb h⟩))) j)
  |exact Ua (Ua (m:=Xk _) (yh (Kb (Kb ⟨_,rfl,Kb h⟩)) j))
  |exact Ua (Ua (m:=Xk _) (yh (Kb ⟨_,rfl,Kb h⟩) j))
end HT
namespace L2
open PySem PySem.Spec PyProof.Rows


end L2

namespace L2
open PySem PySem.Spec PyProof.Rows

def iS  (K:Sb):R2:=λx y H Q=>∃a b f j,x=.ref a/\y=.ref b/\Qd K H a f/\Qd K H b j/\f.length+j.length<=Fb/\
 (f=[]->Q (.ref b) H)/\(f≠[]->j=[]->Q (.ref a) H)/\(f≠[]->j≠[]->∀p,H p=Aa->Q (.ref p) (upd H p (.tup (f++j))))
def eV  : Oc X (rf .Add) (iS X.K):=by
 intro q s σ H x y v u Q I rx ry h;obtain⟨a,b,xs,ys,rfl,rfl,ha,hb,hz,q0,q1,q2⟩:=h;by_cases F:xs=[]
 ·cases rx;cases ry;obtain⟨Y,r1,p1,_⟩:=I.tuple ha;obtain⟨f,r2,p2,_⟩:=I.tuple hb;have hv:Y=[]:=r1.nil_iff.mpr F;subst hv;obtain⟨⟨ja,dd,za,sl⟩,ho,hc,n,hd⟩:=id p1;obtain⟨⟨xa,R,Z,O⟩,j,z,n2,J⟩:=id p2;simp only at hc hd z J;subst hc hd z J;exact AB ⟨_,ho,rfl⟩ ⟨_,j,rfl⟩ kC NB WC XC (QC _ _)
   (tuple_addW0 a b _ f.toArray n n2 dd R sl O rfl) ⟨ho,j,⟨.ref b,H,I,rfl,q0 F⟩⟩
 ·exact fV q s σ H _ _ _ _ Q I rx ry ⟨a,b,xs,ys,rfl,rfl,ha,hb,F,hz,q1 F,q2 F⟩
def pZ   (R:Room k X.A):Oc X (Ke .Eq) (λx y H Q=>∃a b xs,x=.ref a/\y=.ref b/\Qd X.K H a xs/\Qd X.K H b []/\Q (.bl xs.isEmpty) H):=by
 intro J s σ H x y v u Q I O ry h;obtain⟨a,b,xs,rfl,rfl,Z,hb,q⟩:=h;cases O;cases ry;obtain⟨f,rv,pa,_⟩:=I.tuple Z;obtain⟨F,z,Y,_⟩:=I.tuple hb;cases z;have hu:X.A.units<Ec:=R.units0;have e:((Md (min f.toArray.size ([]:List Da).toArray.size)).all (λ_=>ua)&&f.toArray.size==([]:List Da).toArray.size)=xs.isEmpty:=by
  cases rv<;>simp
 refine EqBoolInt.of_rc (Ei.tuples (e:=λ_=>ua) (show s.heap.IsTuple a f.toArray from pa) (show s.heap.IsTuple b ([]:List Da).toArray from Y) hu λj _ h2=>?_) ?_
 ·simp at h2
 ·rw[e];exact⟨.bl xs.isEmpty,H,I,rfl,q⟩




def kE  (K:Sb)(f:Bool):R2:=λx y H Q=>∃d e,DV K H x d/\DV K H y e/\d.canLay0=ua/\e.canLay0=ua/\d.depth<=100/\Q (.bl (if f then !PyData.eqv d e else Je d e)) H
def IS   (F:Room k X.A):Oc X (Ke .NotEq) (kE X.K ua):=by
 intro f s Z H x y v u Q I j J h;obtain⟨d,e,hd,z,c1,c2,hk,q⟩:=h;obtain⟨Y,R⟩:=hd.reads I j;obtain⟨bs,O⟩:=z.reads I J;exact SeqAt.compareNe_reads R O c1 c2 (by have:=F.un;lia) ⟨.bl _,H,I,rfl,q⟩
def CS   (F:Room k X.A):Oc X (Ke .Eq) (kE X.K Ca):=by
 intro f s Z H x y v u Q I j J h;obtain⟨d,e,hd,z,c1,c2,hk,q⟩:=h;obtain⟨Y,R⟩:=hd.reads I j;obtain⟨bs,O⟩:=z.reads I J;exact SeqAt.compareEq_reads R O c1 c2 (by have:=F.un;lia) ⟨.bl _,H,I,rfl,q⟩

mutual
noncomputable def bj:ub->Bool
 |.none=>ua
 |.bool _=>Ca
 |.int _=>ua
 |.str _=>ua
 |.list f=>noBs f
 |.tuple f=>noBs f
 |.dict _=>Ca
noncomputable def noBs:List ub->Bool
 |[]=>ua
 |d::r=>bj d&&noBs r
end
mutual
theorem zE:∀{d e:ub},bj d=ua->bj e=ua->Je d e=ua->d=e
 |.none,.none,_,_,_=>rfl
 |.int i,.int j,_,_,h=>by rw[Je]at h;rw[eq_of_beq h]
 |.str i,.str j,_,_,h=>by rw[Je]at h;rw[eq_of_beq h]
 |.list xs,.list ys,h1,h2,h=>by rw[Je]at h;rw[bj]at h1 h2;rw[Yz h1 h2 h]
 |.tuple xs,.tuple ys,h1,h2,h=>by rw[Je]at h;rw[bj]at h1 h2;rw[Yz h1 h2 h]
 |.bool _,_,h,_,_=>by rw[bj]at h;cases h
 |.dict _,_,h,_,_=>by rw[bj]at h;cases h
 |.none,.bool _,_,h,_|.int _,.bool _,_,h,_|.str _,.bool _,_,h,_|.list _,.bool _,_,h,_|.tuple _,.bool _,_,h,_=>by rw[bj]at h;cases h
 |.none,.dict _,_,h,_|.int _,.dict _,_,h,_|.str _,.dict _,_,h,_|.list _,.dict _,_,h,_|.tuple _,.dict _,_,h,_=>by rw[bj]at h;cases h
 |.none,.int _,_,_,h|.none,.str _,_,_,h|.none,.list _,_,_,h|.none,.tuple _,_,_,h=>by rw[Je]at h;cases h
 |.int _,.none,_,_,h|.int _,.str _,_,_,h|.int _,.list _,_,_,h|.int _,.tuple _,_,_,h=>by rw[Je]at h;cases h
 |.str _,.none,_,_,h|.str _,.int _,_,_,h|.str _,.list _,_,_,h|.str _,.tuple _,_,_,h=>by rw[Je]at h;cases h
 |.list _,.none,_,_,h|.list _,.int _,_,_,h|.list _,.str _,_,_,h|.list _,.tuple _,_,_,h=>by rw[Je]at h;cases h
 |.tuple _,.none,_,_,h|.tuple _,.int _,_,_,h|.tuple _,.str _,_,_,h|.tuple _,.list _,_,_,h=>by rw[Je]at h;cases h
theorem Yz:∀{f j:List ub},noBs f=ua->noBs j=ua->pp f j=ua->f=j
 |[],[],_,_,_=>rfl
 |d::r,e::q,h1,h2,h=>by
  rw[noBs,Kf]at h1 h2
  rw[pp,Kf]at h
  rw[zE h1.1 h2.1 h.1,Yz h1.2 h2.2 h.2]
 |[],_::_,_,_,h=>by rw[pp]at h;cases h
 |_::_,[],_,_,h=>by rw[pp]at h;cases h
end


def bZ  (f:List ub):pp f []=f.isEmpty:=by
 cases f<;>rfl
def O1  : fillsNumberSlot (.type "tuple") "mul" = pure Ca:=
 PySem.fillsNumberSlot_seq (id := "tuple.__mul__") (r:=ma (.builtin "tuple.__rmul__")) kr.lookup (by decide +kernel) F.slot_tuple_rmul.lookup (by decide +kernel)
def E1  : seqRepeat? (.type "tuple")=pure (ma (.builtin "tuple.__mul__")):=by
 unfold seqRepeat?;rw[UK (T := "tuple") (name := "__mul__") (id := "tuple.__mul__") kr.lookup (by decide +kernel),UK (T := "tuple") (name := "__rmul__") (id := "tuple.__rmul__") F.slot_tuple_rmul.lookup (by decide +kernel)]
 rfl
def J1   a (t:Tok) l items (n:Nat) dd sl :
  Xg (Bb.«int.__rmul__» ⟨[.int a t,.ref l],[]⟩) (λ_ R s=>s.heap.get? l=ma { cls:=.type "tuple",dict:=dd,data:=.seq items n,slots:=sl }/\R (.ok (.ret Da.notImplemented)) s):=
 .of_wp λf w A R s h=>by obtain⟨y,g,d,z,q⟩:=s;obtain⟨j,h⟩:=h;wp_walk;exact⟨_,rfl,h⟩
def KZ   l (items:Array Da)(n:Nat) dd sl (x:Int)(t:Tok)(hx:2<=x)(I:x<2 ^ 62)(h0:items.isEmpty=Ca)(hsz:items.size*x.toNat<=Fb) :
  Xg (Bb.«tuple.__mul__» ⟨[.ref l,.int x t],[]⟩)
   (λA R s=>s.heap.get? l=ma { cls:=.type "tuple",dict:=dd,data:=.seq items n,slots:=sl }/\R (.ok (.ret (.ref s.heap.objs.size))) { s with heap:=s.heap.push { cls:=.type "tuple",data:=.seq ((Zb x.toNat items).foldl (·++·) #[]) } }):=
 .of_wp λy w A R s h=>by
  obtain⟨hp,g,d,tk,Z⟩:=s;obtain⟨q,h⟩:=h;have c1:(decide (x < -2 ^ 63)||decide (x ≥ 2 ^ 63))=Ca:=by simp;lia
  have c2:(items.isEmpty||x==1)=Ca:=by rw[h0];simp;lia
  have O:(decide (x<=0)||items.isEmpty)=Ca:=by rw[h0];simp;lia
  have F:(items.size:Int)*x=((items.size*x.toNat:Nat):Int):=by rw[Int.natCast_mul,Int.toNat_of_nonneg (by lia)]
  have J:(Fb:Nat)<=(2 ^ 63-1)/8:=by decide
  wp_walk using Ma q
  simp only[c1,Bi,if_false]
  wp_walk using Ma q
  simp only[c2,O,Bi,if_false];rw[if_neg (by rw[F];lia)]
  have Y:LM ((items.size:Int)*x)=Ca:=by
   rw[F];unfold LM;exact decide_eq_false (by lia)
  simp only[Y,Bi,if_false];have z:(yr (λj f=>j++f) #[] (Zb x.toNat items)).size<=Fb:=by
   rw[AutoListH.size_joined];simp only[Od,Cp,Sj];rw[sw];exact hsz
  revert z h;generalize yr (λj f=>j++f) #[] (Zb x.toNat items)=G;intro h z
  wp_walk
  exact⟨_,rfl,h⟩
def uZ   l (items:Array Da)(n:Nat) dd sl t (h0:items.isEmpty=Ca) :
  Xg (Bb.«tuple.__mul__» ⟨[.ref l,.int 0 t],[]⟩)
   (λA R s=>s.heap.get? l=ma { cls:=.type "tuple",dict:=dd,data:=.seq items n,slots:=sl }/\R (.ok (.ret (.ref s.heap.objs.size))) { s with heap:=s.heap.push { cls:=.type "tuple",data:=.seq #[] } }):=
 .of_wp λf w A R s h=>by
  obtain⟨y,g,d,z,q⟩:=s;obtain⟨j,h⟩:=h;have c2:(items.isEmpty||(0:Int)==1)=Ca:=by rw[h0];rfl
  wp_walk using Ma j
  exact⟨_,rfl,h⟩
def JZ   l items (n:Nat) dd sl t :
  Xg (Bb.«tuple.__mul__» ⟨[.ref l,.int 1 t],[]⟩)
   (λA R s=>s.heap.get? l=ma { cls:=.type "tuple",dict:=dd,data:=.seq items n,slots:=sl }/\R (.ok (.ret (.ref l))) s):=
 .of_wp λf w A R s h=>by
  obtain⟨y,g,d,z,q⟩:=s;obtain⟨j,h⟩:=h;have c1:(decide ((1:Int) < -2 ^ 63)||decide ((1:Int) ≥ 2 ^ 63))=Ca:=by decide
  have c2:(items.isEmpty||(1:Int)==1)=ua:=by simp
  wp_walk using Ma j
  exact⟨_,rfl,h⟩

def nS  (K:Sb):R2:=λx y H Q=>∃l k f,x=.ref l/\y=.int k/\Qd K H l f/\f≠[]/\0<=k/\k<2 ^ 62/\f.length*k.toNat<=Fb/\(k=1->Q (.ref l) H)/\(k≠1->∀p,H p=Aa->Q (.ref p) (upd H p (.tup (Zb k.toNat f).flatten)))
def iV  : Oc X (rf .Mult) (nS X.K):=by
 intro za s σ H x y v u Q I rx ry h;obtain⟨l,k,xs,rfl,rfl,hH,h0,h1,h2,Y,q1,q2⟩:=h;cases rx;obtain⟨t,rfl⟩:=ry;obtain⟨f,r,pl,_⟩:=I.tuple hH;have hl:=r.length;obtain⟨⟨ja,J,xa,O⟩,e,hc,n,hd⟩:=id pl;simp only at hc hd;subst hc hd;have j:f≠[]:=λz=>h0 (r.nil_iff.mp z);refine DL (T := "tuple") (U := "int") (by decide) ⟨_,e,rfl⟩ (λs'=>br s' k t) O1 F.fills_int_mul iw E1 F.slot_int_index.lookup
  (Zh iw (br s k t) F.entry_int_rmul (F.args_int_rmul_2 _ _) (J1 k t l f.toArray n J O) ⟨e,rfl,⟨_,e,rfl⟩,?_⟩)
 by_cases hk:k=1
 ·subst hk;exact Zh kr ⟨_,e,rfl⟩ bC (EC _ _) (JZ l f.toArray n J O t) ⟨e,⟨.ref l,H,I,rfl,q1 rfl⟩⟩
 ·by_cases R:k=0
  ·subst R;refine Zh kr ⟨_,e,rfl⟩ bC (EC _ _) (uZ l f.toArray n J O t (by simpa using j)) ⟨e,?_⟩
   refine⟨.ref s.heap.objs.size,_,I.laid (t':=s.toks) (o:=.tup []) (λb ob q=>Dc _ q) (Mb _) ?_,rfl,q2 hk _ (I.hok.fresh (Mb _))⟩;exact⟨Mf _,[],.nil,TupD.new _ _⟩
  refine Zh kr ⟨_,e,rfl⟩ bC (EC _ _) (KZ l f.toArray n J O k t (by lia) h2 (by simpa using j) (by rw[Od,<- hl];exact Y)) ⟨e,?_⟩
  have Z:=oA f k.toNat [];rw[Qi]at Z;rw[Z];refine⟨.ref s.heap.objs.size,_,I.laid (t':=s.toks) (o:=.tup (Zb k.toNat xs).flatten) (λb ob q=>Dc _ q) (Mb _) ?_,rfl,q2 hk _ (I.hok.fresh (Mb _))⟩;exact⟨by rw[eA,sw];exact Y,_,r.rep k.toNat,TupD.new _ _⟩
noncomputable def repS  (x:Str)(k:Nat):Str:=⟨(Zb k x.cps.toList).flatten.toArray⟩
def kS  : R2:=λx y H Q=>∃z k,x=.str z/\y=.int k/\0<=k/\k<1000/\z.length<=1000/\Q (.str (repS z k.toNat)) H
theorem aH  (x:Array Nat):∀k (a:List Nat),((Zb k x).foldl (·++·) a.toArray)=(a++(Zb k x.toList).flatten).toArray
 |0,a=>by simp
 |k+1,a=>by
  rw[Xj,Qw,show a.toArray++x=(a++x.toList).toArray by simp,aH x k]
  simp[Xj]
def hV  : Oc X (rf .Mult) kS:=by
 intro j s σ H x y v u Q I O Y h;obtain⟨z,k,rfl,rfl,h0,h1,Z,q⟩:=h;obtain⟨t,rfl⟩:=O;obtain⟨t',rfl⟩:=Y;have J:z.length*k.toNat<=1000000:=Yb (jC Z (show k.toNat<=1000 by lia)) (by decide)
 refine P.mul_str (by simp;lia) (λF _=>?_) (λF _=>?_) ?_
 ·have:((2:Int) ^ 63-1)/k ≥ 1000:=by
   refine(Int.le_ediv_iff_mul_le (by lia)).mpr ?_
   lia
  lia
 ·exact decide_eq_false (by
   have:(1000000:Nat)<=Fb:=by decide
   lia)
 ·split
  ·have e:repS z k.toNat=Str.empty:=by rw[show k.toNat=0 by lia];rfl
   rw[e]at q;exact⟨by decide,.str _,H,I.tok _,⟨_,rfl⟩,q⟩
  ·split
   ·rename_i F f;have e:repS z k.toNat=z:=by
     rw[Dr,beq_iff_eq,beq_iff_eq]at f;unfold repS;rcases f with f|f
     ·subst f;simp
     ·have:z.cps.toList=[]:=by
       have:z.cps.size=0:=f;simpa using this
      obtain⟨c⟩:=z;simp only at this ⊢;have R:c=#[]:=by simpa using this
      subst R;simp
    rw[e]at q;exact⟨.str _,H,I,⟨_,rfl⟩,q⟩
   ·have e:(Zb k.toNat z.cps).foldl (·++·) #[]=(Zb k.toNat z.cps.toList).flatten.toArray:=by
     have:=aH z.cps k.toNat [];simpa using this
    refine⟨?_,.str _,H,I.tok _,⟨_,rfl⟩,?_⟩
    ·rw[e];show(Zb k.toNat z.cps.toList).flatten.toArray.size<=Fb;rw[Od,eA,sw];exact Yb J (by decide)
    ·rw[e];exact q

def ZY      {s:Fa}{C:Array Da->Prop} 
  (ext:∀Z ,(∀(h':Cb) tk (acc:Array Da) (c:Nat),(∀b o,b≠s.heap.objs.size->(s.heap.push ⟨.type "list",Aa,.seq #[] 0,#[]⟩).get? b=ma o->h'.get? b=ma o)->h'.get? s.heap.objs.size=ma ⟨.type "list",Aa,.seq acc c,#[]⟩->C acc->Z (.ok (.ret (.ref s.heap.objs.size))) { s with heap:=h',toks:=tk })->
   codeAny (Ia prog w) A (.builtin "list.__iadd__" ⟨[.ref s.heap.objs.size,v],[]⟩) Z { s with heap:=s.heap.push ⟨.type "list",Aa,.seq #[] 0,#[]⟩ })
  (h:∀(h':Cb) tk (acc:Array Da),(∀b o,s.heap.get? b=ma o->h'.get? b=ma o)->s.heap.objs.size<h'.objs.size->C acc->R acc.toList { s with heap:=h',toks:=tk }) :
  wpAny (Ia prog w) A (Xs v) R E s:=by
 have quiet:Code.quiet (.builtin "list.__iadd__" ⟨[.ref s.heap.objs.size,v],[]⟩)=ua:=Vk ZC _;have q:=λZ=>Ua (E:=λe y=>Z (.error e) y) (M:=Ia prog w) (A:=A.in1) (Q:=λz y=>match z with|.done f=>Z (.ok f) y|.again c'=>c'.quiet=ua/\codeAny (Ia prog w) A c' Z y) (m:=Aj []) (f:=λl=>again (.builtin "list.__iadd__" ⟨[l,v],[]⟩)) (s:=s)
 refine Ua (ww (Al entry_proto_collect' ((Kn OM _).symm ▸ q _ (yh (Kb ⟨quiet,ext _ λh' tk acc c keep j ok=>?_⟩)))));exact Ua (Wv j (Kb (h h' tk acc (λb o e=>keep b o (Sd (Jc e)) (Dc _ e)) (Jc j) ok)))
def NF {prog:Ab}{w:Za}{A:Nb}{s:Fa}{a:Ea}{v:Da}{Z:Ph->Fa->Prop}(h:wpAny (Ia prog w) A.in1 (fD (.ref a) v (.ref a)) (λj s'=>match j with|.done f=>Z (.ok f) s'|.again c'=>c'.quiet=ua/\codeAny (Ia prog w) A c' Z s') (λe s'=>Z (.error e) s') s) :
  codeAny (Ia prog w) A (.builtin "list.__iadd__" ⟨[.ref a,v],[]⟩) Z s:=Al entry_list_iadd' ((Kn ZC _).symm ▸ h)
def FZ             (K:PySem.W.KdlSrc prog w T r d n P q)(j:A.handled=Aa)(f:q s.heap)(y:n<=Fb)
  (h:∀(h':Cb) tk (acc:Array Da),(∀b o,s.heap.get? b=ma o->h'.get? b=ma o)->s.heap.objs.size<h'.objs.size->Zs P acc n->R acc.toList { s with heap:=h',toks:=tk }) :
  wpAny (Ia prog w) A (Xs (.ref r)) R E s:=
 ZY (λZ z=>NF (PySem.W.kdl_extend K j (K.keep _ _ f λb _ o e=>Dc _ e) _ (vp (K.there _ f).1) (vp (K.there _ f).2) _ 0 (Wd _ rfl) z y)) h
def fB        
  (h:wpAny (Ia prog w) A.in1 (Xs v) (λvs s1=>wpAny (Ia prog w) A.in1 (Aj vs) (λl s2=>wpAny (Ia prog w) A.in1 (call (.builtin "list.sort") [l]) (λ_ f=>Q l f) E s2) E s1) E s) :
  wpAny (Ia prog w) A (call (.builtin "sorted") [v]) Q E s:=by
 have one:∀Z:Unit->Fa->Prop,Z () s->wpAny (Ia prog w) A.in1 (checkCount "sorted" 1 1 [v].length) Z E s:=λZ z=>Kb z;refine Calls.call_function_entry kind_sorted plain_sorted entry_sorted (args_sorted1 v) (Ua (one _ (Ua (Wb h λvs s1 j=>Ua (Wb j λl s2 y=>?_)))));exact Ua (Hh (Wb y λ_ f q=>Kb ⟨_,rfl,q⟩))
theorem Hv  : ∀{us } {ns },Eb us ns->Vals (ns.map V.int) us
 |_,_,.nil=>.nil
 |_,_,.cons n t r=>.cons ⟨t,rfl⟩ (Hv r)
theorem bA  : ∀{kvs:List (uc×V)} {vs },KV kvs vs->vs.map (·.1)=kvs.map (·.1)
 |_,_,.nil=>rfl
 |_,_,.cons a r=>by
  rw[Se,Se,bA r,a.1]
theorem aA    : ∀{ns:List Int} {acc } {vs:List (uc×Da)},vs.map (·.1)=ns.map (λz=>(.inl z:uc))->acc.length=ns.length->(∀(j:Nat) v ,acc[j]?=ma v->∃k x,vs[j]?=ma (k,x)/\(He P w).is k v=ua)->Eb acc ns
 |[],[],_,_,_,_=>.nil
 |z::ns,v::acc,(k,x)::vs,e,hl,h=>by
  obtain⟨O,J,I,F⟩:=h 0 v rfl;have q:(k,x)=(O,J):=Hd I;injection q with q e2
  subst q;rw[Se,Se]at e;injection e with f er
  have f:k=.inl z:=f;subst f;obtain⟨t,rfl⟩:∃t,v=.int z t:=by
   have F:Mm (.inl z) v=ua:=F;rcases Ji F with⟨i,t,e,rfl⟩|⟨y,t,e,_⟩
   ·simp_all
   lia
  exact .cons z t (aA er (by simp_all) λj v R=>h (j+1) v R)
 |z::ns,v::acc,[],e,_,_=>by cases e
 |z::ns,[],_,_,hl,_=>by cases hl
 |[],v::acc,_,_,hl,_=>by cases hl
end L2

namespace L2
open PySem PySem.Spec PyProof.Rows
open Sem (wp)
open AutoSeq1 (wpAny_loadPart')

def rH      (hh:A.handled=Aa)(hit:s.heap.IsTupleIter it t i)(ht:s.heap.IsTuple t items)
  (q:∀x h',items[i]?=ma x->h'.IsTupleIter it t (i+1)->lj it s.heap h'->Q x { s with heap:=h' })
  (j:items[i]?=Aa->∀h' e,Cb.ExtBut it s.heap h'->(∃o,h'.get? e=ma o/\o.cls=.type "StopIteration")->E (.ref e) { s with heap:=h' }) :
  wpAny (Ia prog w) A (B2 (.ref it)) Q E s:=by
 have J:=hit.typeIs;rcases hit with⟨⟨c,dc,dt,sl⟩,y,Y,R⟩;rcases ht with⟨⟨c',ja,xa,za⟩,hl,-,n,I⟩;dsimp only at Y R I;subst Y R I;have O:∀f:Array Da->Array Da,lj it s.heap (s.heap.update it (Wh f)):=λf=>nM ..;have z:∀f:Array Da->Array Da,(s.heap.update it (Wh f)).get? it=ma ⟨.type "tuple_iterator",dc,.fields (f #[.ref t,.int i 0]),sl⟩:=λf=>oj _ y rfl;refine Ua (Pr (name:=pj "__next__") J GM (tj GM J F.entry_tuple_iterator_next ?_ (F.args_tuple_iterator_next_1 _)))
 wp_walk using Tw y,Tw hl
 rw[Si];cases Z:items[i]? with
 |some x=>exact Ua (Ui y rfl (Er 1) (Kb ⟨x,rfl,Kb (q x _ Z ⟨_,z _,rfl,rfl⟩ (O _))⟩))
 |none=>
  refine Ua (ci (Ua (Ui y rfl (Ep 1) ?_)));unfold C2
  wp_walk
  exact wpAny_raiseNew_none hh (j Z _ _ (((O _).extBut.push _).push _) ⟨_,Wd _ rfl,rfl⟩)
def aI     (J:A.handled=Aa) it t (y:t≠it)(items:Array Da) :
  Draws prog w A it [it,t] items.size (λi v=>items[i]?=ma v) (λi h=>h.IsTupleIter it t i/\h.IsTuple t items):=by
 refine⟨λi h f=>?_,λi h F f hk=>?_,λi s Q E Y f R=>?_,λs Q E f O=>?_⟩
 ·rcases f.1 with⟨o,j,-⟩;exact⟨o,j⟩
 ·rcases f with⟨⟨o,j,r⟩,⟨u,hu,q⟩⟩;exact⟨⟨o,hk it (by simp) o j,r⟩,⟨u,hk t (by simp) u hu,q⟩⟩
 ·refine rH J f.1 f.2 (λx F e hit I=>R x F s.toks e ⟨hit,f.2.extBut I.extBut y⟩ I) λz=>?_;exact absurd (Array.getElem?_eq_none_iff.mp z) (by lia)
 ·refine rH J f.1 f.2 (λx F e=>?_) λ_=>O;exact absurd (Fc.mp e).1 (qj _)
def UX    {x:α}(h:∀y,Q y s):wpAny M A (pure x) Q E s:=Kb (h x)
def KJ   v ob :
  Xg (Bb.«enumerate.__new__» ⟨[.type "enumerate",v],[]⟩) (λ_ R s=>(∀prog w A Q E ,Q (.ref s.heap.objs.size) { s with heap:=s.heap.push ob }->wpAny (Ia prog w) A (Xd v) Q E s)/\
   R (.ok (.ret (.ref (s.heap.push ob).objs.size))) { s with heap:=(s.heap.push ob).push ⟨.type "enumerate",Aa,.fields #[.none,.bool Ca,.ref s.heap.objs.size,Wc 0,.none,.none],#[]⟩ }):=
 .of_wp λprog w A R s h=>by
  rcases s with⟨y,g,d,z,q⟩;rcases h with⟨j,h⟩;have f:=sub_enumerate
  wp_walk
  refine wpAny_stack_any λF=>UX λb=>?_;cases b<;>(wp_walk using j prog w;exact⟨_,rfl,h⟩)
def W0  {s: Fa}(I:s.heap.IsTuple l items)
  (h:∀h',IsEnum h' (s.heap.objs.size+1) s.heap.objs.size 0 .none->h'.IsTupleIter s.heap.objs.size l 0->(∀b o,s.heap.get? b=ma o->h'.get? b=ma o)->Q (.ref (s.heap.objs.size+1)) { s with heap:=h' }) :
  wpAny (Ia prog w) A (call (.type "enumerate") [.ref l]) Q E s:=by
 have j:∀(p:Cb) (n:Nat) (o:Obj),p.objs.size=n->o.isFreed=Ca->(p.push o).get? n=ma o:=λp n o e f=>by
  subst e;exact Wd p f
 have sz:=λo=>yn s.heap o;refine callType_new F.called_enumerate (by decide) (OL _) (jL _) (λy=>NK y _) iL (KJ (.ref l) _) ⟨λ_ _ _ _ _ q=>PC I q,?_⟩
 rw[sz];have z:=j _ _ ⟨.type "enumerate",Aa,.fields #[.none,.bool Ca,.ref s.heap.objs.size,Wc 0,.none,.none],#[]⟩ (sz ⟨.type "tuple_iterator",Aa,.fields #[.ref l,.int 0 0],#[]⟩) rfl;exact⟨⟨_,z,rfl⟩,h _ z ⟨_,Dc _ (j _ _ _ rfl rfl),rfl,rfl⟩ λb o x=>Dc _ (Dc _ x)⟩

def gG  {Y: St}(I:Qa X pins Y H s)(k:∀b o,b≠e->b≠it->s.heap.get? b=ma o->h'.get? b=ma o)(Z:FpOk X pins H e)(fi:FpOk X pins H it):Qa X pins Y H { s with heap:=h',toks:=t' }:=by
 obtain⟨e0,O,_,e3,e4,e5⟩:=Z;obtain⟨i0,J,_,i3,i4,i5⟩:=fi;have F:∀b u,H b=ma u->b≠e:=λb u q z=>by rw[z,e0]at q;cases q
 have R:∀b u,H b=ma u->b≠it:=λb u q z=>by rw[z,i0]at q;cases q
 have kk:∀b o,b∉[e,it]->s.heap.get? b=ma o->h'.get? b=ma o:=λb o f q=>k b o (λz=>f (by simp[z])) (λz=>f (by simp[z])) q
 refine I.step (g':=s.gens) (d':=s.drawn) (ch:=[e,it]) (λb j=>?_) (λb o _ _ f q _=>kk b o f q) (λb o _ _ f q _=>⟨o.slots,kk b o f q⟩) (λ_ _ _ _ n=>n)
  (λb o f q=>⟨o,kk b o f q⟩) (λ_ _ q=>q) (λ_ _ _ q=>q) (λb ps q=>⟨#[],by rw[q];simp⟩) (λm hm=>?_) (λb u q=>?_) I.bare
 ·simp only[Sc,Rg,or_false]at j;rcases j with rfl|rfl
  ·exact⟨e3,O,e4,e5⟩
  ·exact⟨i3,J,i4,i5⟩
 ·obtain⟨o,es,ep,ho,r⟩:=hm;exact⟨o,es,ep,k _ o (Ta O) (Ta J) ho,r⟩
 ·refine(I.hok b u q).stay (λc v f y=>k c v ?_ ?_ y) (λ_ y=>y) λ_ _ y=>y
  ·rcases f with z|z
   ·rw[z];exact F b u q
   ·exact F c _ z
  ·rcases f with z|z
   ·rw[z];exact R b u q
   ·exact R c _ z
def dN  (q:Sb)(a:Ea):It:=
 ⟨λi H=>∃f x,H a=ma (.tup f)/\f[i]?=ma x,λi H y j=>∃f x p,H a=ma (.tup f)/\f[i]?=ma x/\y=.ref p/\H p=Aa/\j=upd H p (.tup [.int (i:Int),x]),λi H=>∃f,H a=ma (.tup f)/\f.length=i⟩
def vZ    {K:Sb} a e it (xa:e≠it)(wa:a≠e)(za:a≠it) :
  Turn P w K (.Tuple jb x1 pos) (dN K a) [e,it] e (λi h=>(∃q,IsEnum h e it (i:Int) q)/\h.IsTupleIter it a i) where
 mem:=by simp
 obj:=λi h Y b J=>by
  obtain⟨⟨q,O⟩,o,ho,c,d⟩:=Y;simp only[Sc,Rg,or_false]at J;rcases J with rfl|rfl
  ·exact⟨_,O,λv z=>nomatch z⟩
  ·exact⟨o,ho,λv z=>by rw[d]at z;cases z⟩
 keep:=λi h h' Y k=>by
  obtain⟨⟨q,O⟩,o,ho,r⟩:=Y;exact⟨⟨q,k e (by simp) _ O⟩,o,k it (by simp) _ ho,r⟩
 item:=by
  intro X hP hw hK hc i j s σ H E I hf Y hg;subst hP hw hK;obtain⟨xs,x,hq,hx⟩:=hg;obtain⟨F,rv,p,hz⟩:=I.tuple (Qd.of hq);obtain⟨u,hu,ru⟩:=rv.get hx;obtain⟨⟨q,O⟩,hit⟩:=Y;have ka:i<F.toArray.size:=by
   have:=(Ba.mp hu).1;simpa using this
  refine LL (aI (A:=X.A.in1) (I.ok.hd hc) it a za F.toArray) O ⟨hit,p⟩ ka xa (by simp;exact⟨xa,Ta wa⟩) λx' h' R hP ho xb hT vb hk=>?_
  refine⟨_,rfl,JL ho λh2 ha va=>?_⟩;have ex:x'=u:=by
   have:F.toArray[i]?=ma u:=by simpa using hu
   exact Hd (hP.symm.trans this)
  subst ex;have zb:H s.heap.objs.size=Aa:=I.hok.fresh (Mb _);have ja:e≠s.heap.objs.size:=Sd (Jc O);have ya:it≠s.heap.objs.size:=by obtain⟨o,Z,_⟩:=hit;exact Sd (Jc Z)
  have I1:Qa X j σ (upd H s.heap.objs.size (.tup [.int (i:Int),x])) { s with heap:=s.heap.push { cls:=.type "tuple",data:=.seq #[.int i R,x'] },toks:=R+1 }:=by
   refine I.laid (λb o y=>Dc _ y) (Mb _) ⟨by show 2<=Fb;decide,[.int i R,x'],.cons ⟨R,rfl⟩ (.cons ru .nil),TupD.new _ _⟩
  have fpU:∀b,b≠s.heap.objs.size->FpOk X j H b->FpOk X j (upd H s.heap.objs.size (.tup [.int (i:Int),x])) b:=λb J f=>⟨by rw[Bd J];exact f.1,f.2⟩
  have kk:∀b o,b≠e->b≠it->(s.heap.push { cls:=.type "tuple",data:=.seq #[.int i R,x'] }).get? b=ma o->h2.get? b=ma o:=λb o be bi y=>by
   have step:h'.get? b=ma o:=by
    by_cases J:b=s.heap.objs.size
    ·subst J;rw[hT];exact(Wd s.heap (o:={ cls:=.type "tuple",data:=.seq #[.int i R,x'] }) rfl).symm.trans y
    ·rw[KC _ _ _ J]at y;exact hk b o be bi y
   exact(va.2 b be).trans step
  have I2:Qa X j σ (upd H s.heap.objs.size (.tup [.int (i:Int),x])) { s with heap:=h2,toks:=R+1 }:=
   gG (s:={ s with heap:=s.heap.push { cls:=.type "tuple",data:=.seq #[.int i R,x'] },toks:=R+1 }) (h':=h2) (t':=R+1) (e:=e) (it:=it) I1 kk (fpU e ja (hf e (by simp))) (fpU it ya (hf it (by simp)))
  refine⟨.ref s.heap.objs.size,_,I2,rfl,⟨xs,x,_,hq,hx,rfl,zb,rfl⟩,⟨⟨_,by simpa using ha⟩,?_⟩,λb J=>?_⟩
  ·obtain⟨o,Z,r⟩:=xb.1;exact⟨o,(va.2 it (Ta xa)).trans Z,r⟩
  ·simp only[Sc,Rg,or_false]at J;rcases J with rfl|rfl
   ·rw[Bd ja];exact(hf _ (by simp)).1
   ·rw[Bd ya];exact(hf _ (by simp)).1
 done:=by
  intro X hP hw hK hc i j s σ H E I hf Y hg;subst hP hw hK;obtain⟨xs,hq,hx⟩:=hg;obtain⟨F,rv,p,hz⟩:=I.tuple (Qd.of hq);obtain⟨⟨q,O⟩,hit⟩:=Y;have hl:F.toArray.size=i:=by rw[Od,<- rv.length];exact hx
  refine cL (aI (A:=X.A.in1) (I.ok.hd hc) it a za F.toArray) O ⟨by rw[hl];exact hit,p⟩ λh' eb=>⟨rfl,?_⟩
  obtain⟨f0,f1,f2,f3,f4,f5⟩:=hf it (by simp)
  exact I.turned (t':=s.toks) (λb o J y=>eb b o J y) f0 f1 f3 f4 f5
 self:=λA i s Q E Y h=>by
  obtain⟨⟨q,O⟩,_⟩:=Y;exact Hw O h

end L2

namespace L2
open PySem PySem.Spec PyProof.Rows

def l0  : Vf X (.builtin "isinstance") (λxs H Q=>∃(x:V) (c:String) (t:Da) (b:Bool),xs=[x,.ty c]/\TyOf X.K H x t/\Rw X.K t (.type c)=ma b/\Q (.bl b) H):=by
 intro f s O H xs J Q I r h;obtain⟨x,c,t,b,rfl,j,e,q⟩:=h;obtain⟨u,v,rfl,y,z⟩:=Vals.two r;cases z;exact MY I y j e λF=>⟨.bl b,H,I.tok F,rfl,q⟩



def KeyI  (H:Hp)(v:V)(k:List Int):Prop:=∃n,v=.int n/\k=[n]
def KeyT  (K:Sb)(H:Hp)(v:V)(k:List Int):Prop:=∃t,v=.ref t/\Qd K H t (k.map V.int)

def uH    (r:Vals vs us){i:Nat}(h:us[i]?=ma u):∃v,vs[i]?=ma v/\RelV v u:=by
 induction r generalizing i with
 |nil=>cases h
 |cons a r f=>
  cases i with
  |zero=>exact⟨_,rfl,by cases h;exact a⟩
  |succ i=>exact f h
def Dv    (r:Vals (ns.map V.int) us):Eb us ns:=by
 induction ns generalizing us with
 |nil=>cases r;exact .nil
 |cons n ns f=>
  cases r with
  |cons a r=>
   obtain⟨t,rfl⟩:=a;exact .cons n t (f r)
end L2

namespace L2
open PySem PySem.Spec PyProof.Rows PySem.W
section
variable {n:Nat}{lt:Nat->Nat->Bool}{cmp:Nat->Nat->(Bool->Fa->Prop)->Fa->Prop}{s:Fa}
structure Asks (n:Nat)(lt:Nat->Nat->Bool)(cmp:Nat->Nat->(Bool->Fa->Prop)->Fa->Prop)(s:Fa):Prop where
 ask:∀i j C,i<n->j<n->C (lt i j) s->cmp i j C s
 tr:∀i j k,i<n->j<n->k<n->lt i j=ua->lt j k=ua->lt i k=ua
 tot:∀i j,i<n->j<n->i≠j->lt i j=ua\/lt j i=ua
 ir:∀i,i<n->lt i i=Ca
end
end L2

namespace L2
open PySem PySem.Spec PyProof.Rows PySem.W
open PySem.AutoSeq1 (wpAny_loadPart')
open PySem.MeetsSeq PySem.MeetsSeq2 PySem.MeetsSeq3
def cH    (r:Eb us ns){i:Nat}(h:us[i]?=ma u):∃z t,ns[i]?=ma z/\u=.int z t:=by
 induction r generalizing i with
 |nil=>cases h
 |cons z t r f=>
  cases i with
  |zero=>cases h;exact⟨z,t,rfl,rfl⟩
  |succ i=>exact f h
def mX  {ns f:List Int}(q:ns[i]?=ma a)(I:f[i]?=ma c):HT.lexLt (ns.drop i) (f.drop i)=if a=c then HT.lexLt (ns.drop (i+1)) (f.drop (i+1)) else decide (a<c):=by
 obtain⟨y,z⟩:=Ba.mp q;obtain⟨F,j⟩:=Ba.mp I;rw[xh y,xh F,HT.lexLt_cons,z,j]
def QV  {ns f:List Int}(h:i=ns.length\/i=f.length)(q:i<=ns.length)(z:i<=f.length):HT.lexLt (ns.drop i) (f.drop i)=decide (ns.length<f.length):=by
 by_cases y:i=ns.length
 ·rw[Ln (l:=ns) (by lia)]
  by_cases j:i=f.length
  ·rw[Ln (by lia),HT.lexLt_nil_nil];exact(decide_eq_false (by lia)).symm
  ·rw[xh (l:=f) (by lia),HT.lexLt_nil_cons];exact(decide_eq_true (by lia)).symm
 ·rw[xh (l:=ns) (by lia),Ln (l:=f) (by lia),HT.lexLt_cons_nil];exact(decide_eq_false (by lia)).symm
def QU   l b (xs ys : Array Da)(n m : Nat) dd de sl sm (ns F : List Int)(hi : Eb xs.toList ns)(hj : Eb ys.toList F) k :
    ∀ i , ns.length - i = k -> i <= ns.length -> i <= F.length -> Xg (Bb.«list.__eq__.loop» ⟨[.ref l, .ref b, Wc i, Wc 0], []⟩)
      (λ_ R s => s.heap.get? l = ma { cls := .type "list", dict := dd, data := .seq xs n, slots := sl } /\ s.heap.get? b = ma { cls := .type "list", dict := de, data := .seq ys m, slots := sm } /\ R (.ok (.ret (.bool (HT.lexLt (ns.drop i) (F.drop i))))) s) := by
  have z1 : xs.size = ns.length := by rw [<- hi.length]; simp
  have z2 : ys.size = F.length := by rw [<- hj.length]; simp
  have y : ∀ i : Nat, i <= ns.length -> i <= F.length -> (i = ns.length \/ i = F.length) -> Xg (Bb.«list.__eq__.loop» ⟨[.ref l, .ref b, Wc i, Wc 0], []⟩)
      (λ_ R s => s.heap.get? l = ma { cls := .type "list", dict := dd, data := .seq xs n, slots := sl } /\ s.heap.get? b = ma { cls := .type "list", dict := de, data := .seq ys m, slots := sm } /\ R (.ok (.ret (.bool (HT.lexLt (ns.drop i) (F.drop i))))) s) := by
    intro i I J h3 f w A R s h
    obtain ⟨Y, g, d, tk, O⟩ := s; obtain ⟨gl, j, h⟩ := h
    rw [QV h3 I J, <- z1, <- z2] at h
    wp_walk using Ma gl, Ma j
    rcases h3 with e | e
    · have q1 : xs[((i : Nat) : Int).toNat]? = Aa := by simp; lia
      rw [q1]
      wp_walk using Ma gl, Ma j
      exact h
    · have q2 : ys[((i : Nat) : Int).toNat]? = Aa := by simp; lia
      rw [q2]
      cases q1 : xs[((i : Nat) : Int).toNat]? with
      | none => wp_walk using Ma gl, Ma j
                exact h
      | some v => wp_walk using Ma gl, Ma j
                  exact h
  induction k with
  | zero => exact λi hk I J => y i I J (.inl (by lia))
  | succ k ih =>
    intro i hk I J
    by_cases e : i = F.length
    · exact y i I J (.inr e)
    · intro f w A R s h
      obtain ⟨Y, g, d, tk, O⟩ := s; obtain ⟨gl, j, h⟩ := h
      wp_walk using Ma gl, Ma j
      have l1 : i < xs.size := by lia
      have l2 : i < ys.size := by lia
      have q1 : xs[((i : Nat) : Int).toNat]? = ma xs[i] := by simp [l1]
      have q2 : ys[((i : Nat) : Int).toNat]? = ma ys[i] := by simp [l2]
      have hc : ((i : Int) + 1) = ((i + 1 : Nat) : Int) := by push_cast; rfl
      obtain ⟨a, t, ea, va⟩ := cH hi (i := i) (u := xs[i]) (by simp [l1])
      obtain ⟨c, u, ec, vc⟩ := cH hj (i := i) (u := ys[i]) (by simp [l2])
      rw [mX ea ec] at h
      rw [q1, q2, va, vc]
      obtain ⟨e, he, z⟩ := HT.eqAt_int A.in1 ⟨Y, g, d, tk, O⟩ a t c u
      refine Ua (he f w _ _ ?_)
      cases e with
      | true =>
        rw [if_pos (z.mp rfl)] at h
        wp_walk
        rw [hc]
        exact ⟨Vk plain_eq_loop _, Al entry_eq_loop (by rw [Kn plain_eq_loop _]; exact ih (i + 1) (by lia) (by lia) (by lia) f w A R _ ⟨gl, j, h⟩)⟩
      | false =>
        rw [if_neg (λq => absurd (z.mpr q) Pd)] at h
        wp_walk using Ma gl, Ma j
        rw [q1, q2, va, vc]
        have Z := HT.rcLt_int A.in1 ⟨Y, g, d, tk, O⟩ a t c u f w
        wp_walk using Z
        exact h
def OU   l b (xs ys:Array Da)(n m:Nat) dd de sl sm ns ms (hi:Eb xs.toList ns)(q:Eb ys.toList ms):Xg (Bb.«list.__lt__» ⟨[.ref l,.ref b],[]⟩)
   (λ_ R s=>s.heap.get? l=ma { cls:=.type "list",dict:=dd,data:=.seq xs n,slots:=sl }/\s.heap.get? b=ma { cls:=.type "list",dict:=de,data:=.seq ys m,slots:=sm }/\R (.ok (.ret (.bool (HT.lexLt ns ms)))) s):=by
 intro f w A R s h;obtain⟨F,g,d,I,z⟩:=s;obtain⟨gl,j,h⟩:=h;have y:=AutoSeq1.sub_list_list
 wp_walk using Ma gl,Ma j
 exact⟨Vk plain_eq_loop _,Al entry_eq_loop (by rw[Kn plain_eq_loop _];exact QU l b xs ys n m dd de sl sm ns ms hi q _ 0 rfl (Mf _) (Mf _) f w A R _ ⟨gl,j,h⟩)⟩
end L2

namespace L2
open PySem PySem.Spec PyProof.Rows PySem.W
noncomputable def Mo  : Bool->Ka->Array Ka->Nat->Nat->Nat->StateT La Sem (Option Nat):=sortPriv% PySem.Builtin.gallop
noncomputable def iH  : Array Ka->Array Ka->StateT La Sem (Array Ka):=sortPriv% PySem.Builtin.mergeLo
noncomputable def gH  : Array Ka->Array Ka->StateT La Sem (Array Ka):=sortPriv% PySem.Builtin.mergeHi
noncomputable abbrev Nz  (g:Nat)(st:La):La:=La.mk' (kindOf st) (Ja st) (ud st) g (pi st)
def Ym  (g:Nat):StateT La Sem Unit:=modify (Nz g)
noncomputable def Ou  (f:Nat->StateT La Sem (Option Bool))(n q j:Nat):StateT La Sem (Option Nat):=do
 let mut x:=q
 let mut y:=j
 for _ in [0:n] do
  if x ≥ y then break
  let ma t <- f (x+(y-x)/2)|return Aa
  if t then x:=x+(y-x)/2+1 else y:=x+(y-x)/2
 return ma y
def galR  (f:Nat->StateT La Sem (Option Bool))(n h:Nat):StateT La Sem (Option Nat):=do
 let mut u:=0
 let mut v:=1
 for _ in [0:n] do
  if v ≥ n-h then break
  let ma t <- f (h+v)|return Aa
  if !t then break
  u:=v
  v:=2*v+1
 Ou f n (h+u+1) (h+min v (n-h))
def galL  (f:Nat->StateT La Sem (Option Bool))(n h:Nat):StateT La Sem (Option Nat):=do
 let mut u:=0
 let mut v:=1
 for _ in [0:n] do
  if v ≥ h+1 then break
  let ma t <- f (h-v)|return Aa
  if t then break
  u:=v
  v:=2*v+1
 Ou f n (h+1-min v (h+1)) (h-u)
noncomputable def galB  (left:Bool)(f:Ka)(j:Array Ka)(base i:Nat):StateT La Sem (Option Bool):=do
 let x <- Cd j (base+i)
 if left then lt' x f else return (<- lt' f x).map (!·)
def eZ (left:Bool)(j:Ka)(q:Array Ka)(base n f:Nat):Mo left j q base n f=(do
 let ma right <- galB left j q base f|return Aa
 if right then galR (galB left j q base) n f else galL (galB left j q base) n f):=by
 rfl

def AskK  (prog:Ab)(w:Za)(A:Nb)(s:Fa)(κ:Pk)(S:Ka->Prop)(f:Ka->Int):Prop:=
 ∀(x y:Ka) (Q:Bool->Fa->Prop) (E:Da->Fa->Prop),S x->S y->Q (decide (f x<f y)) s->wpAny (Ia prog w) A (keyLt' κ x.1 y.1) Q E s
def Jq  (a:AskK prog w A s κ S ρ){st:La}(hk:kindOf st=κ)(j:S x)(f:S y)(h:Q (ma (decide (ρ x<ρ y))) st):wpS (Ia prog w) A E s (lt' x y) Q st:=by
 rw[lt'_eq];refine Rb (se ?_);rw[hk];refine Rb (jn (wpAny_attempt (a x y _ _ j f ⟨rfl,?_⟩)));exact Ub h
def Hf  {st:La}(h:f[i]?=ma x)(q:Q x st):wpS (Ia prog w) A E s (Cd f i) Q st:=by
 rw[elem'_eq,h];exact Ub q
def So  {n lo hi:Nat}{st:La}{B:Nat->Bool}(Z:∀i Q ,i<n->Q (ma (B i)) st->wpS (Ia prog w) A E s (f i) Q st)
  (z:∀i j,i<=j->j<n->B j=ua->B i=ua) (F:lo<=hi) (J:hi<=n) (O:∀i,i<lo->B i=ua) (hh:∀i,hi<=i->i<n->B i=Ca)
  (q:∀k,k<=n->(∀i,i<k->B i=ua)->(∀i,k<=i->i<n->B i=Ca)->Q (ma k) st):wpS (Ia prog w) A E s (Ou f n lo hi) Q st:=by
 unfold Ou;refine Rb (fh (I:=λx c y=>y=st/\∃l h,c=(Aa,l,h)/\l<=h/\h<=n/\h-l<=n-x/\(∀i,i<l->B i=ua)/\∀i,h<=i->i<n->B i=Ca) ?_ ?_ ⟨rfl,lo,hi,rfl,F,J,by lia,O,hh⟩)
 ·rintro x c y Y R ⟨rfl,l,h,rfl,a1,a2,a3,a4,a5⟩;dsimp only;by_cases e:l ≥ h
  ·rw[if_pos e];exact Ub (Ub (q h a2 (λi hi=>a4 i (by lia)) a5))
  ·rw[if_neg e];obtain⟨m,hm⟩:∃m,m=l+(h-l)/2:=⟨_,rfl⟩;rw[<- hm];refine Rb (Z m _ (by lia) ?_)
   cases eb:B m with
   |true=>exact Ub ⟨rfl,m+1,h,rfl,by lia,a2,by lia,λi hi=>z i m (by lia) (by lia) eb,a5⟩
   |false=>
    refine Ub ⟨rfl,l,m,rfl,by lia,by lia,by lia,a4,λi F J=>?_⟩
    grind
 ·rintro c y ⟨rfl,l,h,rfl,a1,a2,a3,a4,a5⟩;exact Ub (q h a2 (λi hi=>a4 i (by lia)) a5)
def To  (a:AskK prog w A s κ S ρ){left:Bool}{st:La}(hk:kindOf st=κ)(Z:S J)(hn:f<n)(B:Nat->Bool)
  (hB:∀i,i<n->∃x,Y[base+i]?=ma x/\S x/\(if left then decide (ρ x<ρ J) else !decide (ρ J<ρ x))=B i)
  (y:∀i j,i<=j->j<n->B j=ua->B i=ua)
  (q:∀k,k<=n->(∀i,i<k->B i=ua)->(∀i,k<=i->i<n->B i=Ca)->Q (ma k) st):wpS (Ia prog w) A E s (Mo left J Y base n f) Q st:=by
 have R:∀(i:Nat) (Q:Option Bool->La->Prop),i<n->Q (ma (B i)) st->wpS (Ia prog w) A E s (galB left J Y base i) Q st:=λi Q hi h=>by
  obtain⟨x,e,sx,b⟩:=hB i hi;unfold galB;refine Rb (Hf e ?_);cases left with
  |true=>exact Jq a hk sx Z (by lia)
  |false=>exact Rb (Jq a hk Z sx (Ub (by simp_all)))
 have z:∀i j,i<=j->j<n->B i=Ca->B j=Ca:=λi j h1 O e=>by
  grind
 rw[eZ];refine Rb (R f _ hn ?_);cases eh:B f with
 |true=>
  show wpS _ _ _ _ (galR (galB left J Y base) n f) Q st;unfold galR;refine Rb (fh (I:=λx c F=>F=st/\∃l o,c=(Aa,l,o)/\l<o/\x<o/\l<n-f/\B (f+l)=ua) ?_ ?_ ⟨rfl,0,1,rfl,by lia,by lia,by lia,eh⟩)
  ·rintro x c F za xa ⟨rfl,l,o,rfl,a1,a2,a3,a4⟩;dsimp only;by_cases e:o ≥ n-f
   ·rw[if_pos e];refine Ub ?_;exact So (lo:=f+l+1) (hi:=f+min o (n-f)) R y (by lia) (by lia) (λi hi=>y i (f+l) (by lia) (by lia) a4) (λi h1 O=>by lia) q
   ·rw[if_neg e];refine Rb (R (f+o) _ (by lia) ?_)
    cases eb:B (f+o)with
    |true=>exact Ub ⟨rfl,o,2*o+1,rfl,by lia,by lia,by lia,eb⟩
    |false=>
     refine Ub ?_;exact So (lo:=f+l+1) (hi:=f+min o (n-f)) R y (by lia) (by lia) (λi hi=>y i (f+l) (by lia) (by lia) a4) (λi h1 O=>z (f+o) i (by lia) O eb) q
  ·rintro c F ⟨rfl,l,o,rfl,a1,a2,a3,a4⟩;exact So (lo:=f+l+1) (hi:=f+min o (n-f)) R y (by lia) (by lia) (λi hi=>y i (f+l) (by lia) (by lia) a4) (λi h1 O=>by lia) q
 |false=>
  show wpS _ _ _ _ (galL (galB left J Y base) n f) Q st;unfold galL;refine Rb (fh (I:=λx c F=>F=st/\∃l o,c=(Aa,l,o)/\l<o/\x<o/\l<f+1/\B (f-l)=Ca) ?_ ?_ ⟨rfl,0,1,rfl,by lia,by lia,by lia,eh⟩)
  ·rintro x c F za xa ⟨rfl,l,o,rfl,a1,a2,a3,a4⟩;dsimp only;by_cases e:o ≥ f+1
   ·rw[if_pos e];refine Ub ?_;exact So (lo:=f+1-min o (f+1)) (hi:=f-l) R y (by lia) (by lia) (λi hi=>by lia) (λi h1 O=>z (f-l) i (by lia) O a4) q
   ·rw[if_neg e];refine Rb (R (f-o) _ (by lia) ?_)
    cases eb:B (f-o)with
    |false=>exact Ub ⟨rfl,o,2*o+1,rfl,by lia,by lia,by lia,eb⟩
    |true=>
     refine Ub ?_;exact So (lo:=f+1-min o (f+1)) (hi:=f-l) R y (by lia) (by lia) (λi hi=>y i (f-o) (by lia) (by lia) eb) (λi h1 O=>z (f-l) i (by lia) O a4) q
  ·rintro c F ⟨rfl,l,o,rfl,a1,a2,a3,a4⟩;exact So (lo:=f+1-min o (f+1)) (hi:=f-l) R y (by lia) (by lia) (λi hi=>by lia) (λi h1 O=>z (f-l) i (by lia) O a4) q
section
variable {ρ:Ka->Int}
def Fe  (f:Ka->Int)(l:List Ka):Prop:=l.Pairwise λx y=>f x<=f y
structure Mg (ρ:Ka->Int)(a b out xs ys:List Ka):Prop where
 sx:Fe ρ (out++xs)
 sy:Fe ρ (out++ys)
 pm:(out++xs++ys).Perm (a++b)

def Mg.fromA  (h:Mg ρ a b out (x1++xs) ys)(j:∀x∈x1,∀y∈ys,ρ x<=ρ y):Mg ρ a b (out++x1) xs ys:=by
 refine⟨by rw[sf];exact h.sx,?_,by rw[sf out];exact h.pm⟩
 have s1:=h.sx;rw[<- sf]at s1;have s1:=Pa.mp s1;have s2:=Pa.mp h.sy;refine Pa.mpr ⟨s1.1,s2.2.1,λx q y f=>?_⟩
 grind
def Mg.fromB  (h:Mg ρ a b out xs (y1++ys))(j:∀y∈y1,∀x∈xs,ρ y<=ρ x):Mg ρ a b (out++y1) xs ys:=by
 refine⟨?_,by rw[sf];exact h.sy,?_⟩
 ·have s1:=h.sy;rw[<- sf]at s1;have s1:=Pa.mp s1;have s2:=Pa.mp h.sx;refine Pa.mpr ⟨s1.1,s2.2.1,λx q y f=>?_⟩
  grind
 ·refine sL ?_ h.pm;rw[sf,sf,sf];refine Qr out ?_;rw[<- sf,<- sf];exact jx ys GL
def Mg.doneA  (h:Mg ρ a b out xs []):Fe ρ (out++xs++[])/\(out++xs++[]).Perm (a++b):=⟨by rw[xi];exact h.sx,h.pm⟩
def Mg.doneB  (h:Mg ρ a b out [] ys):Fe ρ (out++[]++ys)/\(out++[]++ys).Perm (a++b):=⟨by rw[xi];exact h.sy,h.pm⟩
def Mg.last  (h:Mg ρ a b out xs ys)(f:∀y∈ys,∀x∈xs,ρ y<=ρ x):Fe ρ (out++ys++xs)/\(out++ys++xs).Perm (a++b):=by
 have h:Mg ρ a b out xs (ys++[]):=by simp_all
 have h:=h.fromB f;exact⟨h.sx,by have:=h.pm;simp_all⟩
end

def Oo  {f: Type}{a: Array f}: (a.extract i a.size).toList=a.toList.drop i:=by
 rw[Ew];unfold KB;exact Zj (by simp_all)
def Po  {f: Type}{a: Array f}: (a.extract 0 k).toList=a.toList.take k:=by
 simp_all
def XF  {f: Type}{a: Array f}: (a.extract i (i+k)).toList=(a.toList.drop i).take k:=by
 simp_all
def BF  {f: Type}{a: Array f}{x: f}(h:a[i]?=ma x):a.toList.drop i=x::a.toList.drop (i+1):=by
 have j:a.toList[i]?=ma x:=by simp_all
 obtain⟨q,e⟩:=Ba.mp j;rw[xh q,e]
def Qo  {f: Type}{l:List f}{y:f}(h:y∈l.drop n):∃j,n<=j/\l[j]?=ma y:=by
 obtain⟨j,q⟩:=zl h
 grind
def RA  {q: Type}{l:List q}{y:q}(h:y∈(l.drop n).take k):∃j,j<k/\l[n+j]?=ma y:=by
 obtain⟨j,f⟩:=zl h;rw[ul]at f;split at f
 ·rw[dM]at f;exact⟨j,‹_›,f⟩
 ·cases f
def Ii    (h:Fe ρ l){i j:Nat}(I:i<=j)(q:l[i]?=ma x)(f:l[j]?=ma y):ρ x<=ρ y:=by
 by_cases e:i=j
 ·lia
 ·obtain⟨z,rfl⟩:=Ba.mp q;obtain⟨F,rfl⟩:=Ba.mp f;exact Xa.mp h i j z F (by lia)
abbrev T2:=Option (Array Ka)×Array Ka×Nat×Nat×Nat×Nat×Nat
abbrev T1:=Option (Array Ka)×Array Ka×Nat×Nat×Nat×Nat
noncomputable def loJ2  (a b:Array Ka)(g j bc f:Nat)(out:Array Ka)(q:Nat):StateT La Sem (ForInStep T2):=do
 let x <- Cd a f
 if (f+1+1==a.size)=ua then pure (ForInStep.done (ma (out.push x++b.extract q b.size++a.extract (f+1) a.size),out.push x,f+1,q,g,j,bc))
 else if (decide (j<7)&&decide (bc<7))=ua then pure (ForInStep.done (Aa,out.push x,f+1,q,g,j,bc))
 else pure (ForInStep.yield (Aa,out.push x,f+1,q,g,j,bc))
def loJ1  (a b:Array Ka)(g q bc f:Nat)(out:Array Ka)(j:Nat):StateT La Sem (ForInStep T2):=do
 let y <- Cd b f
 if (f+1==b.size)=ua then pure (ForInStep.done (ma (out.push y++a.extract j a.size++b.extract (f+1) b.size),out.push y,j,f+1,g,q,bc))
 else do
  let x <- Cd a j
  let r <- Mo ua x b (f+1) (b.size-(f+1)) 0
  match r with
  |some k=>
   if k>0 then
    if (f+1+k==b.size)=ua then pure (ForInStep.done (ma (out.push y++b.extract (f+1) (f+1+k)++a.extract j a.size++b.extract (f+1+k) b.size),out.push y++b.extract (f+1) (f+1+k),j,f+1+k,g,q,k))
    else loJ2 a b g q k j (out.push y++b.extract (f+1) (f+1+k)) (f+1+k)
   else loJ2 a b g q k j (out.push y) (f+1)
  |_=>pure (ForInStep.done (ma (out.push y++a.extract j a.size++b.extract (f+1) b.size),out.push y,j,f+1,g,q,bc))
def loJ0  (a b out:Array Ka)(f j q bc g:Nat):StateT La Sem (ForInStep T2):=do
 Ym g
 let y <- Cd b j
 let r <- Mo Ca y a f (a.size-f) 0
 match r with
 |some k=>
  if k>0 then
   if (f+k+1==a.size)=ua then pure (ForInStep.done (ma (out++a.extract f (f+k)++b.extract j b.size++a.extract (f+k) a.size),out++a.extract f (f+k),f+k,j,g,k,bc))
   else if (f+k==a.size)=ua then pure (ForInStep.done (ma (out++a.extract f (f+k)++a.extract (f+k) a.size++b.extract j b.size),out++a.extract f (f+k),f+k,j,g,k,bc))
   else loJ1 a b g k bc j (out++a.extract f (f+k)) (f+k)
  else loJ1 a b g k bc j out f
 |_=>pure (ForInStep.done (ma (out++a.extract f a.size++b.extract j b.size),out,f,j,g,q,bc))
def vz  (a b:Array Ka)(c:T2):StateT La Sem (ForInStep T2):=
 if c.2.2.2.2.1>1 then loJ0 a b c.2.1 c.2.2.1 c.2.2.2.1 c.2.2.2.2.2.1 c.2.2.2.2.2.2 (c.2.2.2.2.1-1)
 else loJ0 a b c.2.1 c.2.2.1 c.2.2.2.1 c.2.2.2.2.2.1 c.2.2.2.2.2.2 c.2.2.2.2.1
noncomputable def wz  (a b:Array Ka)(g:Nat)(c:T1):StateT La Sem (ForInStep T1):=do
 let y <- Cd b c.2.2.2.1
 let x <- Cd a c.2.2.1
 let r <- lt' y x
 match r with
 |some f=>
  if f=ua then do
   let y <- Cd b c.2.2.2.1
   if (c.2.2.2.1+1==b.size)=ua then pure (ForInStep.done (ma (c.2.1.push y++a.extract c.2.2.1 a.size++b.extract (c.2.2.2.1+1) b.size),c.2.1.push y,c.2.2.1,c.2.2.2.1+1,0,c.2.2.2.2.2+1))
   else if c.2.2.2.2.2+1 ≥ g then pure (ForInStep.done (Aa,c.2.1.push y,c.2.2.1,c.2.2.2.1+1,0,c.2.2.2.2.2+1))
   else pure (ForInStep.yield (Aa,c.2.1.push y,c.2.2.1,c.2.2.2.1+1,0,c.2.2.2.2.2+1))
  else do
   let x <- Cd a c.2.2.1
   if (c.2.2.1+1+1==a.size)=ua then pure (ForInStep.done (ma (c.2.1.push x++b.extract c.2.2.2.1 b.size++a.extract (c.2.2.1+1) a.size),c.2.1.push x,c.2.2.1+1,c.2.2.2.1,c.2.2.2.2.1+1,0))
   else if c.2.2.2.2.1+1 ≥ g then pure (ForInStep.done (Aa,c.2.1.push x,c.2.2.1+1,c.2.2.2.1,c.2.2.2.2.1+1,0))
   else pure (ForInStep.yield (Aa,c.2.1.push x,c.2.2.1+1,c.2.2.2.1,c.2.2.2.2.1+1,0))
 |_=>pure (ForInStep.done (ma (c.2.1++a.extract c.2.2.1 a.size++b.extract c.2.2.2.1 b.size),c.2.1,c.2.2.1,c.2.2.2.1,c.2.2.2.2.1,c.2.2.2.2.2))
abbrev T0:=Option (Array Ka)×Array Ka×Nat×Nat×Nat
def ku  (a b:Array Ka)(g:Nat)(s:T1):StateT La Sem (ForInStep T0):=do
 Dx "list.sort.gallop"
 let s <- forIn [0:a.size+b.size] ((Aa,s.2.1,s.2.2.1,s.2.2.2.1,g+1,s.2.2.2.2.1,s.2.2.2.2.2):T2) λ_ d=>vz a b d
 match s.1 with
 |some r=>pure (ForInStep.done (ma r,s.2.1,s.2.2.1,s.2.2.2.1,s.2.2.2.2.1))
 |none=>do
  Ym (s.2.2.2.2.1+1)
  pure (ForInStep.yield (Aa,s.2.1,s.2.2.1,s.2.2.2.1,s.2.2.2.2.1+1))
def uz  (a b:Array Ka)(c:T0):StateT La Sem (ForInStep T0):=do
 let s <- forIn [0:a.size+b.size] ((Aa,c.2.1,c.2.2.1,c.2.2.2.1,0,0):T1) λ_ d=>wz a b c.2.2.2.2 d
 match s.1 with
 |some r=>pure (ForInStep.done (ma r,s.2.1,s.2.2.1,s.2.2.2.1,c.2.2.2.2))
 |none=>ku a b c.2.2.2.2 s
def ic  {f:Type}[Decidable p]{a b c d:f}(j:a=c)(q:b=d):(if p then a else b)=if p then c else d:=by lia
def bc    {f g:α->StateT σ Sem j}(h:∀a,f a=g a):m >>= f=m >>= g:=by grind
def ph    {f g:α->StateT σ Sem y}(q:m=j)(h:∀a,f a=g a):m >>= f=j >>= g:=by grind
def fc   {r:Std.Legacy.Range}{f g:Nat->j->StateT σ Sem (ForInStep j)}(h:∀x c,f x c=g x c):forIn r b f=forIn r b g:=by rw[funext λx=>funext λc=>h x c]
def N0 (a b:Array Ka):iH a b=(do
 Dx "list.sort.merge-lo"
 let y <- Cd b 0
 if (1==b.size)=ua then pure (#[y]++a.extract 0 a.size++b.extract 1 b.size)
 else if (0+1==a.size)=ua then pure (#[y]++b.extract 1 b.size++a.extract 0 a.size)
 else do
  let st <- get
  let s <- forIn [0:a.size+b.size] ((Aa,#[y],0,1,gallopOf st):T0) λ_ d=>uz a b d
  match s.1 with
  |some r=>pure r
  |none=>liftM (Jl "internal:list.sort.merge-bound" : Sem (Array Ka))):=by
 refine bc λ_=>bc λy=>?_;dsimp only;refine ic rfl (ic rfl (bc λst=>ph (fc λ_ c=>?_) λd=>?_))
 ·unfold uz;refine ph (fc λ_ d=>?_) λd=>?_
  ·unfold wz;refine bc λ_=>bc λ_=>bc λr=>?_;cases r with
   |none=>rfl
   |some r=>cases r<;>rfl
  ·obtain⟨f,Z,J,d3,O,z⟩:=d;cases f with
   |some r=>rfl
   |none=>
    unfold ku;refine bc λ_=>ph (fc λ_ e=>?_) λe=>?_
    ·unfold vz;refine ic ?_ ?_
     ·unfold loJ0;rfl
     ·unfold loJ0;rfl
    ·obtain⟨e0,R,q,Y,I,j,F⟩:=e;cases e0<;>rfl
 lia
structure Fr (st st':La):Prop where
 k:kindOf st'=kindOf st
 a:Ja st'=Ja st
 p:ud st'=ud st
 f:pi st'=pi st
def Fr.refl  {st:La}:Fr st st:=⟨rfl,rfl,rfl,rfl⟩
def Fr.gal  {st f:La}(h:Fr st f) g:Fr st (Nz g f):=⟨h.k,h.a,h.p,h.f⟩
def Fin2  (j:Ka->Int)(a b f:Array Ka):Prop:=Fe j f.toList/\f.toList.Perm (a.toList++b.toList)
structure Two2 (S:Ka->Prop)(ρ:Ka->Int)(a b:Array Ka):Prop where
 sa:∀(i:Nat) (x:Ka),a[i]?=ma x->S x
 sb:∀(i:Nat) (x:Ka),b[i]?=ma x->S x
 oa:Fe ρ a.toList
 ob:Fe ρ b.toList
 last:∀x,a[a.size-1]?=ma x->∀y∈b.toList,ρ y<=ρ x
 first:∀y,b[0]?=ma y->∀x∈a.toList,ρ y<=ρ x
 na:0<a.size
 nb:0<b.size
structure Lo (ρ:Ka->Int)(a b out:Array Ka)(ia ib:Nat):Prop where
 m:Mg ρ a.toList b.toList out.toList (a.toList.drop ia) (b.toList.drop ib)
 ia:ia+1<a.size
 ib:ib<b.size

def Ve  {a:Array Ka}(h:i<a.size):∃x,a[i]?=ma x:=⟨a[i],getElem?_pos a i h⟩
def Bv  (t:Two2 S ρ a b)(m:Mg ρ a.toList b.toList out.toList (a.toList.drop ia) (b.toList.drop ib))(h:ia+1=a.size):Fin2 ρ a b (out++b.extract ib b.size++a.extract ia a.size):=by
 unfold Fin2;rw[jh,jh,Oo,Oo];refine m.last λy q x z=>?_;obtain⟨j,F,e⟩:=Qo z;have f:=(Ba.mp e).1;rw[cg]at f;have:j=a.size-1:=by lia
 rw[af,this]at e;exact t.last x e y (Dw q)
def Fv  (m:Mg ρ a.toList b.toList out.toList (a.toList.drop ia) (b.toList.drop ib))(h:ib=b.size):Fin2 ρ a b (out++a.extract ia a.size++b.extract ib b.size):=by
 unfold Fin2;have e:b.toList.drop ib=[]:=Ln (by simp_all)
 rw[e]at m;rw[jh,jh,Oo,Oo,e];exact m.doneA
def XY  (m:Mg ρ a.toList b.toList out.toList (a.toList.drop ia) (b.toList.drop ib))(h:ia=a.size):Fin2 ρ a b (out++a.extract ia a.size++b.extract ib b.size):=by
 unfold Fin2;have e:a.toList.drop ia=[]:=Ln (by simp_all)
 rw[e]at m;rw[jh,jh,Oo,Oo,e];exact m.doneB
def Mg.pushA  {a: Array Ka}{b: Array Ka}{out: Array Ka}(m:Mg ρ a.toList b.toList out.toList (a.toList.drop ia) (b.toList.drop ib))(h:a[ia]?=ma x)(j:∀y∈b.toList.drop ib,ρ x<=ρ y):Mg ρ a.toList b.toList (out.push x).toList (a.toList.drop (ia+1)) (b.toList.drop ib):=by
 rw[BF h]at m;rw[zp];exact Mg.fromA (x1:=[x]) m λz q y f=>by simp_all
def Mg.pushB  {a: Array Ka}{b: Array Ka}{out: Array Ka}(m:Mg ρ a.toList b.toList out.toList (a.toList.drop ia) (b.toList.drop ib))(h:b[ib]?=ma y)(f:∀x∈a.toList.drop ia,ρ y<=ρ x):Mg ρ a.toList b.toList (out.push y).toList (a.toList.drop ia) (b.toList.drop (ib+1)):=by
 rw[BF h]at m;rw[zp];exact Mg.fromB (y1:=[y]) m λz q x j=>by simp_all
def Mg.manyA  {a: Array Ka}{b: Array Ka}(m:Mg ρ a.toList b.toList out.toList (a.toList.drop ia) (b.toList.drop ib))(F:∀j x,j<k->a[ia+j]?=ma x->∀y∈b.toList.drop ib,ρ x<=ρ y):Mg ρ a.toList b.toList (out++a.extract ia (ia+k)).toList (a.toList.drop (ia+k)) (b.toList.drop ib):=by
 rw[jh,XF];refine Mg.fromA (x1:=(a.toList.drop ia).take k) (xs:=a.toList.drop (ia+k)) ?_ λz f y q=>?_
 ·rw[<- List.drop_drop,Vg];exact m
 ·obtain⟨j,I,e⟩:=RA f
  grind
def Mg.manyB  {a: Array Ka}{b: Array Ka}(m:Mg ρ a.toList b.toList out.toList (a.toList.drop ia) (b.toList.drop ib))(q:∀j y,j<k->b[ib+j]?=ma y->∀x∈a.toList.drop ia,ρ y<=ρ x):Mg ρ a.toList b.toList (out++b.extract ib (ib+k)).toList (a.toList.drop ia) (b.toList.drop (ib+k)):=by
 rw[jh,XF];refine Mg.fromB (y1:=(b.toList.drop ib).take k) (ys:=b.toList.drop (ib+k)) ?_ λz f x F=>?_
 ·rw[<- List.drop_drop,Vg];exact m
 ·obtain⟨j,I,e⟩:=RA f
  grind
def cv  {a:Array Ka}(o:Fe ρ a.toList)(h:a[i]?=ma x):∀z∈a.toList.drop i,ρ x<=ρ z:=λz q=>by
 obtain⟨j,f,e⟩:=Qo q;exact Ii o f (by simp_all) e
section
variable {prog:Ab}{w:Za}{A:Nb}{E:Da->Fa->Prop}{s:Fa}{κ:Pk}{S:Ka->Prop}{ρ:Ka->Int}{a b out:Array Ka}{ia ib g ac bc m:Nat}{st0 st:La}{Q:ForInStep T2->La->Prop}
structure Out2 (ρ:Ka->Int)(a b:Array Ka)(st0:La)(m:Nat)(Q:ForInStep T2->La->Prop):Prop where
 fin:∀zs d st',Fr st0 st'->Fin2 ρ a b zs->Q (.done (ma zs,d)) st'
 go:∀out ia ib g ac bc st',Fr st0 st'->Lo ρ a b out ia ib->m<=ia+ib->Q (.done (Aa,out,ia,ib,g,ac,bc)) st'/\Q (.yield (Aa,out,ia,ib,g,ac,bc)) st'
def fF  (t:Two2 S ρ a b)(o:Out2 ρ a b st0 m Q)(fr:Fr st0 st)(h:Lo ρ a b out ia ib)(z:m<=ia+ib)(j:∀x,a[ia]?=ma x->∀y∈b.toList.drop ib,ρ x<=ρ y):wpS (Ia prog w) A E s (loJ2 a b g ac bc ia out ib) Q st:=by
 obtain⟨x,f⟩:=Ve (a:=a) (i:=ia) (by have:=h.ia;lia)
 have q:=h.ia;have M:=h.m.pushA f (j x f);unfold loJ2;refine Rb (Hf f ?_);by_cases e:ia+1+1=a.size
 ·rw[if_pos (by lia)]
  exact Ub (o.fin _ _ _ fr (Bv t M e))
 ·rw[if_neg (by lia)]
  have L:Lo ρ a b (out.push x) (ia+1) ib:=⟨M,by lia,h.ib⟩
  split
  ·exact Ub (o.go _ _ _ _ _ _ _ fr L (by lia)).1
  ·exact Ub (o.go _ _ _ _ _ _ _ fr L (by lia)).2
def eF  (ak:AskK prog w A s κ S ρ)(t:Two2 S ρ a b)(o:Out2 ρ a b st0 m Q)(k0:kindOf st0=κ)(fr:Fr st0 st)(h:Lo ρ a b out ia ib)(hm:m<=ia+ib)(le:∀y,b[ib]?=ma y->∀x∈a.toList.drop ia,ρ y<=ρ x):wpS (Ia prog w) A E s (loJ1 a b g ac bc ib out ia) Q st:=by
 obtain⟨x,Y⟩:=Ve (a:=a) (i:=ia) (by have:=h.ia;lia)
 obtain⟨y,F⟩:=Ve (a:=b) (i:=ib) h.ib;have hb:=h.ib;have M:=h.m.pushB F (le y F);unfold loJ1;refine Rb (Hf F ?_);by_cases e:ib+1=b.size
 ·rw[if_pos (by lia)]
  exact Ub (o.fin _ _ _ fr (Fv M e))
 ·rw[if_neg (by lia)]
  have L:Lo ρ a b (out.push y) ia (ib+1):=⟨M,h.ia,by lia⟩
  refine Rb (Hf Y ?_);refine Rb (To ak (left:=ua) (fr.k.trans k0) (t.sa _ _ Y) (by lia) (λi=>match b[ib+1+i]? with|some z=>decide (ρ z<ρ x)|none=>Ca) (λi hi=>?_) (λi j xa hj e2=>?_) λk hk h1 h2=>?_)
  ·obtain⟨z,q⟩:=Ve (a:=b) (i:=ib+1+i) (by lia)
   exact⟨z,q,t.sb _ _ q,by rw[q];rfl⟩
  ·obtain⟨z,q⟩:=Ve (a:=b) (i:=ib+1+i) (by lia)
   obtain⟨z',O⟩:=Ve (a:=b) (i:=ib+1+j) (by lia)
   rw[O]at e2;have:=Ii t.ob (i:=ib+1+i) (j:=ib+1+j) (by lia) (by rw[af];exact q) (by rw[af];exact O)
   have e2:=of_decide_eq_true e2;rw[q];exact decide_eq_true (by lia)
  have fx:=cv t.oa Y;have J:∀I,a[ia]?=ma I->∀y∈b.toList.drop (ib+1+k),ρ I<=ρ y:=λI f y F=>by
   rw[Y]at f;cases f;obtain⟨j,hj,e⟩:=Qo F;have hl:=(Ba.mp e).1;rw[cg]at hl;rw[af]at e;have R:=h2 (j-(ib+1)) (by lia) (by lia)
   rw[show ib+1+(j-(ib+1))=j by lia,e]at R
   lia
  dsimp only;by_cases ek:k>0
  ·rw[if_pos ek];have M2:Mg ρ a.toList b.toList (out.push y++b.extract (ib+1) (ib+1+k)).toList (a.toList.drop ia) (b.toList.drop (ib+1+k)):=M.manyB λj z hj q I f=>by
    have R:=h1 j hj;rw[q]at R;have:=of_decide_eq_true R;have:=fx I f
    lia
   by_cases e3:ib+1+k=b.size
   ·rw[if_pos (by lia)]
    exact Ub (o.fin _ _ _ fr (Fv M2 e3))
   ·rw[if_neg (by lia)]
    exact fF t o fr ⟨M2,h.ia,by lia⟩ (by lia) J
  ·rw[if_neg ek];have Z:k=0:=by lia
   subst Z;exact fF t o fr L (by lia) J
def yv   {Q:Unit->La->Prop}(h:Q () (Nz g st)):wpS (Ia prog w) A E s (Ym g) Q st:=Xo h
def dF  (Z:AskK prog w A s κ S ρ)(t:Two2 S ρ a b)(o:Out2 ρ a b st0 m Q)(k0:kindOf st0=κ)(fr:Fr st0 st)(h:Lo ρ a b out ia ib)(hm:m<=ia+ib):wpS (Ia prog w) A E s (loJ0 a b out ia ib ac bc g) Q st:=by
 obtain⟨y,R⟩:=Ve (a:=b) (i:=ib) h.ib;have ha:=h.ia;unfold loJ0;refine Rb (yv ?_);have fr:=fr.gal g;refine Rb (Hf R ?_);refine Rb (To Z (left:=Ca) (fr.k.trans k0) (t.sb _ _ R) (by lia) (λi=>match a[ia+i]? with|some z=>!decide (ρ y<ρ z)|none=>Ca) (λi hi=>?_) (λi j xa hj e2=>?_) λk hk h1 h2=>?_)
 ·obtain⟨z,q⟩:=Ve (a:=a) (i:=ia+i) (by lia)
  exact⟨z,q,t.sa _ _ q,by rw[q];rfl⟩
 ·obtain⟨z,q⟩:=Ve (a:=a) (i:=ia+i) (by lia)
  obtain⟨z',O⟩:=Ve (a:=a) (i:=ia+j) (by lia)
  rw[O]at e2;have:=Ii t.oa (i:=ia+i) (j:=ia+j) (by lia) (by rw[af];exact q) (by rw[af];exact O)
  have e2:¬(ρ y<ρ z'):=by simpa using e2
  rw[q];have:¬(ρ y<ρ z):=by lia
  simpa using this
 have fy:=cv t.ob R;have F:∀J,b[ib]?=ma J->∀x∈a.toList.drop (ia+k),ρ J<=ρ x:=λJ f x hx=>by
  rw[R]at f;cases f;obtain⟨j,hj,e⟩:=Qo hx;have hl:=(Ba.mp e).1;rw[cg]at hl;rw[af]at e;have I:=h2 (j-ia) (by lia) (by lia)
  rw[show ia+(j-ia)=j by lia,e]at I
  lia
 dsimp only;by_cases ek:k>0
 ·rw[if_pos ek];have M2:Mg ρ a.toList b.toList (out++a.extract ia (ia+k)).toList (a.toList.drop (ia+k)) (b.toList.drop ib):=h.m.manyA λj z hj q J f=>by
   have I:=h1 j hj;rw[q]at I;have I:¬(ρ y<ρ z):=by simpa using I
   have:=fy J f
   lia
  by_cases e3:ia+k+1=a.size
  ·rw[if_pos (by lia)]
   exact Ub (o.fin _ _ _ fr (Bv t M2 e3))
  ·rw[if_neg (by lia)]
   by_cases e4:ia+k=a.size
   ·rw[if_pos (by lia)]
    exact Ub (o.fin _ _ _ fr (XY M2 e4))
   ·rw[if_neg (by lia)]
    exact eF Z t o k0 fr ⟨M2,by lia,h.ib⟩ (by lia) F
 ·rw[if_neg ek];have Y:k=0:=by lia
  subst Y;exact eF Z t o k0 fr h hm F
def Tz  (Z:AskK prog w A s κ S ρ)(t:Two2 S ρ a b)(k0:kindOf st0=κ)(fr:Fr st0 st)(h:Lo ρ a b out q y)(F:m<=q+y){Q:ForInStep T0->La->Prop}(R:∀Y d j,Fr st0 j->Fin2 ρ a b Y->Q (.done (ma Y,d)) j)
  (go:∀out q y g j,Fr st0 j->Lo ρ a b out q y->m<=q+y->Q (.yield (Aa,out,q,y,g)) j):wpS (Ia prog w) A E s (ku a b g (Aa,out,q,y,O,bc)) Q st:=by
 unfold ku;refine Rb (jn (ci ⟨rfl,?_⟩));have J:∀out q y g j,Fr st0 j->Lo ρ a b out q y->m<=q+y->wpS (Ia prog w) A E s (do
  Ym (g+1)
  pure (ForInStep.yield (Aa,out,q,y,g+1)):StateT La Sem (ForInStep T0)) Q j:=λout q y g j fr h F=>Rb (yv (Ub (go _ _ _ _ _ (fr.gal _) h F)))
 refine Rb (fh (I:=λz c j=>Fr st0 j/\∃out q y g O bc,c=(Aa,out,q,y,g,O,bc)/\Lo ρ a b out q y/\m<=q+y) ?_ ?_ ⟨fr,_,_,_,_,_,_,rfl,h,F⟩)
 ·rintro z c st2 _ hz ⟨fr,out,q,y,g,O,bc,rfl,h,F⟩;unfold vz;split
  ·exact dF Z t ⟨λY d j f z=>Ub (R _ _ _ f z),λout q y g O bc j f l F=>⟨J out q y g j f l F,f,_,_,_,_,_,_,rfl,l,F⟩⟩ k0 fr h F
  ·exact dF Z t ⟨λY d j f z=>Ub (R _ _ _ f z),λout q y g O bc j f l F=>⟨J out q y g j f l F,f,_,_,_,_,_,_,rfl,l,F⟩⟩ k0 fr h F
 ·rintro c st2 ⟨fr,out,q,y,g,O,bc,rfl,h,F⟩
  simp_all
def VZ  (ak:AskK prog w A s κ S ρ)(t:Two2 S ρ a b)(k0:kindOf st=κ){Q:Array Ka->La->Prop}(q:∀Z F,Fr st F->Fin2 ρ a b Z->Q Z F):wpS (Ia prog w) A E s (iH a b) Q st:=by
 obtain⟨y,hy⟩:=Ve (a:=b) (i:=0) t.nb;have na:=t.na;have nb:=t.nb;rw[N0];refine Rb (jn (ci ⟨rfl,?_⟩));refine Rb (Hf hy ?_);have M0:Mg ρ a.toList b.toList (#[]:Array Ka).toList (a.toList.drop 0) (b.toList.drop 0):=⟨t.oa,t.ob,FC _⟩;have M:Mg ρ a.toList b.toList (#[y]:Array Ka).toList (a.toList.drop 0) (b.toList.drop 1):=M0.pushB hy (t.first y hy)
 by_cases e:1=b.size
 ·rw[if_pos (by lia)]
  exact Ub (q _ _ .refl (Fv M e))
 rw[if_neg (by lia)]
 by_cases e:0+1=a.size
 ·rw[if_pos (by lia)]
  exact Ub (q _ _ .refl (Bv t M e))
 rw[if_neg (by lia)]
 refine Rb (se ?_);refine Rb (fh (I:=λx c F=>Fr st F/\∃j O J g,c=(Aa,j,O,J,g)/\Lo ρ a b j O J/\x<O+J) ?_ ?_ ⟨.refl,_,_,_,_,rfl,⟨M,by lia,by lia⟩,by lia⟩)
 ·rintro x c st1 _ hx ⟨fr,j,O,J,g,rfl,h,hc⟩;unfold uz;refine Rb (fh (I:=λz c F=>F=st1/\∃j O J ac bc,c=(Aa,j,O,J,ac,bc)/\Lo ρ a b j O J/\x+z<O+J) ?_ ?_ ⟨rfl,_,_,_,_,_,rfl,h,by lia⟩)
  ·rintro z c st2 _ hz ⟨rfl,j,O,J,ac,bc,rfl,h,hc⟩;have ha:=h.ia;have hb:=h.ib;obtain⟨x',R⟩:=Ve (a:=a) (i:=O) (by lia)
   obtain⟨y',Y⟩:=Ve (a:=b) (i:=J) h.ib;unfold wz;refine Rb (Hf Y (Rb (Hf R (Rb (Jq ak (fr.k.trans k0) (t.sb _ _ Y) (t.sa _ _ R) ?_)))));by_cases e:ρ y'<ρ x'
   ·simp only[e,decide_true,if_true];refine Rb (Hf Y ?_);have fx:=cv t.oa R;have M:=h.m.pushB Y λx hx=>by grind
    by_cases e2:J+1=b.size
    ·rw[if_pos (by lia)]
     exact Ub (Ub (Ub (q _ _ fr (Fv M e2))))
    ·rw[if_neg (by lia)]
     have L:Lo ρ a b (j.push y') O (J+1):=⟨M,ha,by lia⟩
     split
     ·exact Ub (Tz ak t k0 fr L (m:=x+2) (by lia) (λZ d F f z=>Ub (q _ _ f z)) λj O J g F f l hm=>⟨f,_,_,_,_,rfl,l,by lia⟩)
     ·exact Ub ⟨rfl,_,_,_,_,_,rfl,L,by lia⟩
   ·simp only[e,decide_false,Bi,if_false];refine Rb (Hf R ?_);have fy:=cv t.ob Y;have M:=h.m.pushA R λx hx=>by grind
    by_cases e2:O+1+1=a.size
    ·rw[if_pos (by lia)]
     exact Ub (Ub (Ub (q _ _ fr (Bv t M e2))))
    ·rw[if_neg (by lia)]
     have L:Lo ρ a b (j.push x') (O+1) J:=⟨M,by lia,hb⟩
     split
     ·exact Ub (Tz ak t k0 fr L (m:=x+2) (by lia) (λZ d F f z=>Ub (q _ _ f z)) λj O J g F f l hm=>⟨f,_,_,_,_,rfl,l,by lia⟩)
     ·exact Ub ⟨rfl,_,_,_,_,_,rfl,L,by lia⟩
  ·rintro c st2 ⟨rfl,j,O,J,ac,bc,rfl,h,hc⟩;exact Tz ak t k0 fr h (m:=x+2) (by lia) (λZ d F f z=>Ub (q _ _ f z)) λj O J g F f l hm=>⟨f,_,_,_,_,rfl,l,by lia⟩
 ·rintro c st1 ⟨fr,j,O,J,g,rfl,h,hc⟩;have:=h.ia;have:=h.ib
  lia
end
abbrev H2:=Option (Array Ka)×Nat×Nat×Array Ka×Nat×Nat×Nat
abbrev H1:=Option (Array Ka)×Nat×Nat×Array Ka×Nat×Nat
abbrev H0:=Option (Array Ka)×Nat×Nat×Array Ka×Nat
noncomputable def oi  (a b out:Array Ka)(f j:Nat):Array Ka:=a.extract 0 f++b.extract 0 j++out.reverse
noncomputable def Uo  (a b out:Array Ka)(f j:Nat):Array Ka:=b.extract 0 j++a.extract 0 f++out.reverse
def hiJ2  (a b:Array Ka)(g j bc f q:Nat)(out:Array Ka):StateT La Sem (ForInStep H2):=do
 let x <- Cd a (f-1)
 if (f-1==0)=ua then pure (ForInStep.done (ma (oi a b (out.push x) (f-1) q),f-1,q,out.push x,g,j,bc))
 else if (decide (j<7)&&decide (bc<7))=ua then pure (ForInStep.done (Aa,f-1,q,out.push x,g,j,bc))
 else pure (ForInStep.yield (Aa,f-1,q,out.push x,g,j,bc))
def hiJ1  (a b:Array Ka)(g q bc f j:Nat)(out:Array Ka):StateT La Sem (ForInStep H2):=do
 let y <- Cd b (f-1)
 if (f-1==1)=ua then pure (ForInStep.done (ma (Uo a b (out.push y) j (f-1)),j,f-1,out.push y,g,q,bc))
 else do
  let x <- Cd a (j-1)
  let r <- Mo ua x b 0 (f-1) (f-1-1)
  match r with
  |some k=>
   if f-1-k>0 then
    if (k==1)=ua then pure (ForInStep.done (ma (Uo a b (out.push y++(b.extract k (f-1)).reverse) j k),j,k,out.push y++(b.extract k (f-1)).reverse,g,q,f-1-k))
    else if (k==0)=ua then pure (ForInStep.done (ma (oi a b (out.push y++(b.extract k (f-1)).reverse) j k),j,k,out.push y++(b.extract k (f-1)).reverse,g,q,f-1-k))
    else hiJ2 a b g q (f-1-k) j k (out.push y++(b.extract k (f-1)).reverse)
   else hiJ2 a b g q (f-1-k) j (f-1) (out.push y)
  |_=>pure (ForInStep.done (ma (oi a b (out.push y) j (f-1)),j,f-1,out.push y,g,q,bc))
def hiJ0  (a b out:Array Ka)(f j q bc g:Nat):StateT La Sem (ForInStep H2):=do
 Ym g
 let y <- Cd b (j-1)
 let r <- Mo Ca y a 0 f (f-1)
 match r with
 |some k=>
  if f-k>0 then
   if (k==0)=ua then pure (ForInStep.done (ma (oi a b (out++(a.extract k f).reverse) k j),k,j,out++(a.extract k f).reverse,g,f-k,bc))
   else hiJ1 a b g (f-k) bc j k (out++(a.extract k f).reverse)
  else hiJ1 a b g (f-k) bc j f out
 |_=>pure (ForInStep.done (ma (oi a b out f j),f,j,out,g,q,bc))
def wB  (a b:Array Ka)(c:H2):StateT La Sem (ForInStep H2):=
 if c.2.2.2.2.1>1 then hiJ0 a b c.2.2.2.1 c.2.1 c.2.2.1 c.2.2.2.2.2.1 c.2.2.2.2.2.2 (c.2.2.2.2.1-1)
 else hiJ0 a b c.2.2.2.1 c.2.1 c.2.2.1 c.2.2.2.2.2.1 c.2.2.2.2.2.2 c.2.2.2.2.1
def xB  (a b:Array Ka)(g:Nat)(c:H1):StateT La Sem (ForInStep H1):=do
 let y <- Cd b (c.2.2.1-1)
 let x <- Cd a (c.2.1-1)
 let r <- lt' y x
 match r with
 |some f=>
  if f=ua then do
   let x <- Cd a (c.2.1-1)
   if (c.2.1-1==0)=ua then pure (ForInStep.done (ma (oi a b (c.2.2.2.1.push x) (c.2.1-1) c.2.2.1),c.2.1-1,c.2.2.1,c.2.2.2.1.push x,c.2.2.2.2.1+1,0))
   else if c.2.2.2.2.1+1 ≥ g then pure (ForInStep.done (Aa,c.2.1-1,c.2.2.1,c.2.2.2.1.push x,c.2.2.2.2.1+1,0))
   else pure (ForInStep.yield (Aa,c.2.1-1,c.2.2.1,c.2.2.2.1.push x,c.2.2.2.2.1+1,0))
  else do
   let y <- Cd b (c.2.2.1-1)
   if (c.2.2.1-1==1)=ua then pure (ForInStep.done (ma (Uo a b (c.2.2.2.1.push y) c.2.1 (c.2.2.1-1)),c.2.1,c.2.2.1-1,c.2.2.2.1.push y,0,c.2.2.2.2.2+1))
   else if c.2.2.2.2.2+1 ≥ g then pure (ForInStep.done (Aa,c.2.1,c.2.2.1-1,c.2.2.2.1.push y,0,c.2.2.2.2.2+1))
   else pure (ForInStep.yield (Aa,c.2.1,c.2.2.1-1,c.2.2.2.1.push y,0,c.2.2.2.2.2+1))
 |_=>pure (ForInStep.done (ma (oi a b c.2.2.2.1 c.2.1 c.2.2.1),c.2.1,c.2.2.1,c.2.2.2.1,c.2.2.2.2.1,c.2.2.2.2.2))
def Pv  (a b:Array Ka)(g:Nat)(s:H1):StateT La Sem (ForInStep H0):=do
 Dx "list.sort.gallop"
 let s <- forIn [0:a.size+b.size] ((Aa,s.2.1,s.2.2.1,s.2.2.2.1,g+1,s.2.2.2.2.1,s.2.2.2.2.2):H2) λ_ d=>wB a b d
 match s.1 with
 |some r=>pure (ForInStep.done (ma r,s.2.1,s.2.2.1,s.2.2.2.1,s.2.2.2.2.1))
 |none=>do
  Ym (s.2.2.2.2.1+1)
  pure (ForInStep.yield (Aa,s.2.1,s.2.2.1,s.2.2.2.1,s.2.2.2.2.1+1))
def vB  (a b:Array Ka)(c:H0):StateT La Sem (ForInStep H0):=do
 let s <- forIn [0:a.size+b.size] ((Aa,c.2.1,c.2.2.1,c.2.2.2.1,0,0):H1) λ_ d=>xB a b c.2.2.2.2 d
 match s.1 with
 |some r=>pure (ForInStep.done (ma r,s.2.1,s.2.2.1,s.2.2.2.1,c.2.2.2.2))
 |none=>Pv a b c.2.2.2.2 s
def L0 (a b:Array Ka):gH a b=(do
 Dx "list.sort.merge-hi"
 let x <- Cd a (a.size-1)
 if (a.size-1==0)=ua then pure (oi a b #[x] (a.size-1) b.size)
 else if (b.size==1)=ua then pure (Uo a b #[x] (a.size-1) b.size)
 else do
  let st <- get
  let s <- forIn [0:a.size+b.size] ((Aa,a.size-1,b.size,#[x],gallopOf st):H0) λ_ d=>vB a b d
  match s.1 with
  |some r=>pure r
  |none=>liftM (Jl "internal:list.sort.merge-bound" : Sem (Array Ka))):=by
 refine bc λ_=>bc λy=>?_;dsimp only;refine ic rfl (ic rfl (bc λst=>ph (fc λ_ c=>?_) λd=>?_))
 ·unfold vB;refine ph (fc λ_ d=>?_) λd=>?_
  ·unfold xB;refine bc λ_=>bc λ_=>bc λr=>?_;cases r with
   |none=>rfl
   |some r=>cases r<;>rfl
  ·obtain⟨f,Z,J,d3,O,z⟩:=d;cases f with
   |some r=>rfl
   |none=>
    unfold Pv;refine bc λ_=>ph (fc λ_ e=>?_) λe=>?_
    ·unfold wB;refine ic ?_ ?_
     ·unfold hiJ0;rfl
     ·unfold hiJ0;rfl
    ·obtain⟨e0,R,q,Y,I,j,F⟩:=e;cases e0<;>rfl
 lia
structure Mh (ρ:Ka->Int)(a b xs ys o:List Ka):Prop where
 sx:Fe ρ (xs++o)
 sy:Fe ρ (ys++o)
 pm:(xs++ys++o).Perm (a++b)

def Mh.fromA  (h:Mh ρ a b (xs++x1) ys o)(j:∀x∈x1,∀y∈ys,ρ y<=ρ x):Mh ρ a b xs ys (x1++o):=by
 refine⟨by rw[<- sf];exact h.sx,?_,?_⟩
 ·have s1:=h.sx;rw[sf]at s1;have s1:=Pa.mp s1;have s2:=Pa.mp h.sy;refine Pa.mpr ⟨s2.1,s1.2.1,λy f x q=>?_⟩
  grind
 ·refine sL ?_ h.pm;rw[<- sf];refine jx o ?_;rw[sf,sf];exact Qr xs GL
def Mh.fromB  (h:Mh ρ a b xs (ys++y1) o)(j:∀y∈y1,∀x∈xs,ρ x<=ρ y):Mh ρ a b xs ys (y1++o):=by
 refine⟨?_,by rw[<- sf];exact h.sy,?_⟩
 ·have s1:=h.sy;rw[sf]at s1;have s1:=Pa.mp s1;have s2:=Pa.mp h.sx;refine Pa.mpr ⟨s2.1,s1.2.1,λy f x q=>?_⟩
  grind
 ·have:=h.pm
  simp_all

def cG  {f: Type}{a: Array f}{x: f}(h:a[i]?=ma x):a.toList.take (i+1)=a.toList.take i++[x]:=by
 have j:a.toList[i]?=ma x:=by simp_all
 rw[Rf,j];rfl
def OG  {f: Type}{a: Array f}(h:k<=i):a.toList.take i=a.toList.take k++(a.extract k i).toList:=by
 rw[Ew];unfold KB;rw[<- Vg k (a.toList.take i),List.take_take,jw h,List.drop_take]
def Ro  {q: Type}{l:List q}{y:q}(h:y∈l.take n):∃j,j<n/\l[j]?=ma y:=by
 obtain⟨j,f⟩:=zl h;rw[ul]at f;split at f
 ·exact⟨j,‹_›,f⟩
 ·cases f
def JI  {f: Type}{a: Array f}{y:f}(h:y∈(a.extract k n).toList):∃j,k<=j/\j<n/\a[j]?=ma y:=by
 rw[Ew]at h;unfold KB at h;obtain⟨j,q,e⟩:=RA h;rw[af]at e;exact⟨k+j,by lia,by lia,e⟩
structure Hi (ρ:Ka->Int)(a b out:Array Ka)(na nb:Nat):Prop where
 m:Mh ρ a.toList b.toList (a.toList.take na) (b.toList.take nb) out.toList.reverse
 a0:0<na
 b1:1<nb
 la:na<=a.size
 lb:nb<=b.size

def Zu  (m:Mh ρ a.toList b.toList (a.toList.take na) (b.toList.take nb) out.toList.reverse)(h:na=0):Fin2 ρ a b (oi a b out na nb):=by
 unfold Fin2 oi;rw[jh,jh,Po,Po,Nr];refine⟨?_,m.pm⟩;rw[h];exact m.sy
def oV  (m:Mh ρ a.toList b.toList (a.toList.take na) (b.toList.take nb) out.toList.reverse)(h:nb=0):Fin2 ρ a b (oi a b out na nb):=by
 unfold Fin2 oi;rw[jh,jh,Po,Po,Nr];refine⟨?_,m.pm⟩;have:=m.sx
 simp_all
def av  (t:Two2 S ρ a b)(m:Mh ρ a.toList b.toList (a.toList.take na) (b.toList.take nb) out.toList.reverse)(h:nb=1):Fin2 ρ a b (Uo a b out na nb):=by
 unfold Fin2 Uo;rw[jh,jh,Po,Po,Nr];have z:Mh ρ a.toList b.toList ([]++a.toList.take na) (b.toList.take nb) out.toList.reverse:=m;have f:=z.fromA λx F y q=>by
  obtain⟨j,I,e⟩:=Ro q;have:j=0:=by lia
  subst this;rw[af]at e;exact t.first y e x (Mr F)
 refine⟨by rw[sf];exact f.sy,by rw[sf];exact f.pm⟩
def Mh.pushA  {a: Array Ka}{b: Array Ka}{out: Array Ka}(m:Mh ρ a.toList b.toList (a.toList.take (na+1)) (b.toList.take nb) out.toList.reverse)(h:a[na]?=ma x)(j:∀y∈b.toList.take nb,ρ y<=ρ x):Mh ρ a.toList b.toList (a.toList.take na) (b.toList.take nb) (out.push x).toList.reverse:=by
 rw[cG h]at m;rw[zp,Bw];exact Mh.fromA (x1:=[x]) m λz q y f=>by simp_all
def Mh.pushB  {a: Array Ka}{b: Array Ka}{out: Array Ka}(m:Mh ρ a.toList b.toList (a.toList.take na) (b.toList.take (nb+1)) out.toList.reverse)(h:b[nb]?=ma y)(f:∀x∈a.toList.take na,ρ x<=ρ y):Mh ρ a.toList b.toList (a.toList.take na) (b.toList.take nb) (out.push y).toList.reverse:=by
 rw[cG h]at m;rw[zp,Bw];exact Mh.fromB (y1:=[y]) m λz q x j=>by simp_all
def Mh.manyA  {a: Array Ka}{b: Array Ka}(m:Mh ρ a.toList b.toList (a.toList.take na) (b.toList.take nb) out.toList.reverse)(hk:k<=na)(I:∀j x,k<=j->j<na->a[j]?=ma x->∀y∈b.toList.take nb,ρ y<=ρ x):Mh ρ a.toList b.toList (a.toList.take k) (b.toList.take nb) (out++(a.extract k na).reverse).toList.reverse:=by
 rw[OG hk]at m;rw[jh,Bw,Nr,tL];exact m.fromA λz f y q=>by
  obtain⟨j,F,J,e⟩:=JI f
  grind
def Mh.manyB  {a: Array Ka}{b: Array Ka}(m:Mh ρ a.toList b.toList (a.toList.take na) (b.toList.take nb) out.toList.reverse)(hk:k<=nb)(I:∀j y,k<=j->j<nb->b[j]?=ma y->∀x∈a.toList.take na,ρ x<=ρ y):Mh ρ a.toList b.toList (a.toList.take na) (b.toList.take k) (out++(b.extract k nb).reverse).toList.reverse:=by
 rw[OG hk]at m;rw[jh,Bw,Nr,tL];exact m.fromB λz f y q=>by
  obtain⟨j,F,J,e⟩:=JI f
  grind
def Cu  {a:Array Ka}(o:Fe ρ a.toList)(h:a[i]?=ma x):∀z∈a.toList.take (i+1),ρ z<=ρ x:=λz f=>by
 obtain⟨j,q,e⟩:=Ro f;exact Ii o (show j<=i by lia) e (by simp_all)
section
variable {prog:Ab}{w:Za}{A:Nb}{E:Da->Fa->Prop}{s:Fa}{κ:Pk}{S:Ka->Prop}{ρ:Ka->Int}{a b out:Array Ka}{na nb g ac bc m:Nat}{st0 st:La}{Q:ForInStep H2->La->Prop}
structure jD (ρ:Ka->Int)(a b:Array Ka)(st0:La)(m:Nat)(Q:ForInStep H2->La->Prop):Prop where
 fin:∀zs d st',Fr st0 st'->Fin2 ρ a b zs->Q (.done (ma zs,d)) st'
 go:∀na nb out g ac bc st',Fr st0 st'->Hi ρ a b out na nb->na+nb<=m->Q (.done (Aa,na,nb,out,g,ac,bc)) st'/\Q (.yield (Aa,na,nb,out,g,ac,bc)) st'
def nG  (o:jD ρ a b st0 m Q)(fr:Fr st0 st)(h:Hi ρ a b out (na+1) nb)(q:na+1+nb<=m)(j:∀x,a[na]?=ma x->∀y∈b.toList.take nb,ρ y<=ρ x):wpS (Ia prog w) A E s (hiJ2 a b g ac bc (na+1) nb out) Q st:=by
 obtain⟨x,f⟩:=Ve (a:=a) (i:=na) (by have:=h.la;lia)
 have M:=h.m.pushA f (j x f);unfold hiJ2;rw[Jn];refine Rb (Hf f ?_);by_cases e:na=0
 ·rw[if_pos (by lia)]
  exact Ub (o.fin _ _ _ fr (Zu M e))
 ·rw[if_neg (by lia)]
  have L:Hi ρ a b (out.push x) na nb:=⟨M,by lia,h.b1,by grind,h.lb⟩
  split
  ·exact Ub (o.go _ _ _ _ _ _ _ fr L (by lia)).1
  ·exact Ub (o.go _ _ _ _ _ _ _ fr L (by lia)).2
def mG  (ak:AskK prog w A s κ S ρ)(t:Two2 S ρ a b)(o:jD ρ a b st0 m Q)(k0:kindOf st0=κ)(fr:Fr st0 st)(h:Hi ρ a b out (na+1) (nb+1))(hm:na+1+(nb+1)<=m)(le:∀y,b[nb]?=ma y->∀x∈a.toList.take (na+1),ρ x<=ρ y):wpS (Ia prog w) A E s (hiJ1 a b g ac bc (nb+1) (na+1) out) Q st:=by
 have R:=h.la;have xa:=h.lb;have za:=h.b1;obtain⟨x,Y⟩:=Ve (a:=a) (i:=na) (by lia)
 obtain⟨y,F⟩:=Ve (a:=b) (i:=nb) (by lia)
 have M:=h.m.pushB F (le y F);unfold hiJ1;rw[Jn,Jn];refine Rb (Hf F ?_);by_cases e:nb=1
 ·rw[if_pos (by lia)]
  exact Ub (o.fin _ _ _ fr (av t M e))
 ·rw[if_neg (by lia)]
  have L:Hi ρ a b (out.push y) (na+1) nb:=⟨M,by lia,by lia,R,by lia⟩
  refine Rb (Hf Y ?_);refine Rb (To ak (left:=ua) (fr.k.trans k0) (t.sa _ _ Y) (by lia) (λi=>match b[0+i]? with|some z=>decide (ρ z<ρ x)|none=>Ca) (λi hi=>?_) (λi j ja hj e2=>?_) λk hk h1 h2=>?_)
  ·obtain⟨z,q⟩:=Ve (a:=b) (i:=0+i) (by lia)
   exact⟨z,q,t.sb _ _ q,by rw[q];rfl⟩
  ·obtain⟨z,q⟩:=Ve (a:=b) (i:=0+i) (by lia)
   obtain⟨z',O⟩:=Ve (a:=b) (i:=0+j) (by lia)
   rw[O]at e2;have:=Ii t.ob (i:=0+i) (j:=0+j) (by lia) (by rw[af];exact q) (by rw[af];exact O)
   lia
  have tx:=Cu t.oa Y;have J:∀I,a[na]?=ma I->∀y∈b.toList.take k,ρ y<=ρ I:=λI f y F=>by
   rw[Y]at f;cases f;obtain⟨j,hj,e⟩:=Ro F
   grind
  dsimp only;by_cases ek:nb-k>0
  ·rw[if_pos ek];have M2:Mh ρ a.toList b.toList (a.toList.take (na+1)) (b.toList.take k) (out.push y++(b.extract k nb).reverse).toList.reverse:=M.manyB hk λj z h3 h4 q I f=>by
    have h5:=h2 j h3 h4;rw[Sj,q]at h5;have:=of_decide_eq_false h5;have:=tx I f
    lia
   by_cases e3:k=1
   ·rw[if_pos (by lia)]
    exact Ub (o.fin _ _ _ fr (av t M2 e3))
   ·rw[if_neg (by lia)]
    by_cases e4:k=0
    ·rw[if_pos (by lia)]
     exact Ub (o.fin _ _ _ fr (oV M2 e4))
    ·rw[if_neg (by lia)]
     exact nG o fr ⟨M2,by lia,by lia,R,by lia⟩ (by lia) J
  ·rw[if_neg ek];have Z:k=nb:=by lia
   subst Z;exact nG o fr L (by lia) J
def kG  (ak:AskK prog w A s κ S ρ)(t:Two2 S ρ a b)(o:jD ρ a b st0 m Q)(k0:kindOf st0=κ)(fr:Fr st0 st)(h:Hi ρ a b out q I)(hm:q+I<=m):wpS (Ia prog w) A E s (hiJ0 a b out q I ac bc g) Q st:=by
 have ja:=h.a0;have za:=h.b1;have ya:=h.la;have xa:=h.lb;obtain⟨q,rfl⟩:∃n,q=n+1:=⟨q-1,by lia⟩
 obtain⟨I,rfl⟩:∃n,I=n+1:=⟨I-1,by lia⟩
 obtain⟨y,Y⟩:=Ve (a:=b) (i:=I) (by lia)
 unfold hiJ0;refine Rb (yv ?_);have fr:=fr.gal g;rw[Jn,Jn];refine Rb (Hf Y ?_);refine Rb (To ak (left:=Ca) (fr.k.trans k0) (t.sb _ _ Y) (by lia) (λi=>match a[0+i]? with|some z=>!decide (ρ y<ρ z)|none=>Ca) (λi hi=>?_) (λi j va hj e2=>?_) λk hk h1 h2=>?_)
 ·obtain⟨z,F⟩:=Ve (a:=a) (i:=0+i) (by lia)
  exact⟨z,F,t.sa _ _ F,by rw[F];rfl⟩
 ·obtain⟨z,F⟩:=Ve (a:=a) (i:=0+i) (by lia)
  obtain⟨z',R⟩:=Ve (a:=a) (i:=0+j) (by lia)
  rw[R]at e2;have:=Ii t.oa (i:=0+i) (j:=0+j) (by lia) (by rw[af];exact F) (by rw[af];exact R)
  have e2:¬(ρ y<ρ z'):=by simpa using e2
  rw[F];have:¬(ρ y<ρ z):=by lia
  simpa using this
 have ty:=Cu t.ob Y;have J:∀O,b[I]?=ma O->∀x∈a.toList.take k,ρ x<=ρ O:=λO f x hx=>by
  rw[Y]at f;cases f;obtain⟨j,hj,e⟩:=Ro hx
  grind
 dsimp only;by_cases ek:q+1-k>0
 ·rw[if_pos ek];have M2:Mh ρ a.toList b.toList (a.toList.take k) (b.toList.take (I+1)) (out++(a.extract k (q+1)).reverse).toList.reverse:=h.m.manyA hk λj z h3 h4 F O f=>by
   have h5:=h2 j h3 h4;rw[Sj,F]at h5;have h5:ρ y<ρ z:=by simpa using h5
   have:=ty O f
   lia
  by_cases e3:k=0
  ·rw[if_pos (by lia)]
   exact Ub (o.fin _ _ _ fr (Zu M2 e3))
  ·rw[if_neg (by lia)]
   obtain⟨k,rfl⟩:∃n,k=n+1:=⟨k-1,by lia⟩
   exact mG ak t o k0 fr ⟨M2,by lia,za,by lia,xa⟩ (by lia) J
 ·rw[if_neg ek];have Z:k=q+1:=by lia
  subst Z;exact mG ak t o k0 fr h hm J
def Sz  (Z:AskK prog w A s κ S ρ)(t:Two2 S ρ a b)(k0:kindOf st0=κ)(fr:Fr st0 st)(h:Hi ρ a b out q y)(F:q+y<=m){Q:ForInStep H0->La->Prop}(R:∀Y d j,Fr st0 j->Fin2 ρ a b Y->Q (.done (ma Y,d)) j)
  (go:∀q y out g j,Fr st0 j->Hi ρ a b out q y->q+y<=m->Q (.yield (Aa,q,y,out,g)) j):wpS (Ia prog w) A E s (Pv a b g (Aa,q,y,out,O,bc)) Q st:=by
 unfold Pv;refine Rb (jn (ci ⟨rfl,?_⟩));have J:∀q y out g j,Fr st0 j->Hi ρ a b out q y->q+y<=m->wpS (Ia prog w) A E s (do
  Ym (g+1)
  pure (ForInStep.yield (Aa,q,y,out,g+1)):StateT La Sem (ForInStep H0)) Q j:=λq y out g j fr h F=>Rb (yv (Ub (go _ _ _ _ _ (fr.gal _) h F)))
 refine Rb (fh (I:=λz c j=>Fr st0 j/\∃q y out g O bc,c=(Aa,q,y,out,g,O,bc)/\Hi ρ a b out q y/\q+y<=m) ?_ ?_ ⟨fr,_,_,_,_,_,_,rfl,h,F⟩)
 ·rintro z c st2 _ hz ⟨fr,q,y,out,g,O,bc,rfl,h,F⟩;unfold wB;split
  ·exact kG Z t ⟨λY d j f z=>Ub (R _ _ _ f z),λq y out g O bc j f l F=>⟨J q y out g j f l F,f,_,_,_,_,_,_,rfl,l,F⟩⟩ k0 fr h F
  ·exact kG Z t ⟨λY d j f z=>Ub (R _ _ _ f z),λq y out g O bc j f l F=>⟨J q y out g j f l F,f,_,_,_,_,_,_,rfl,l,F⟩⟩ k0 fr h F
 ·rintro c st2 ⟨fr,q,y,out,g,O,bc,rfl,h,F⟩
  simp_all
def UZ  (ak:AskK prog w A s κ S ρ)(t:Two2 S ρ a b)(k0:kindOf st=κ){Q:Array Ka->La->Prop}(q:∀Z F,Fr st F->Fin2 ρ a b Z->Q Z F):wpS (Ia prog w) A E s (gH a b) Q st:=by
 have ta:=t.na;have tb:=t.nb;obtain⟨x,hx⟩:=Ve (a:=a) (i:=a.size-1) (by lia)
 rw[L0];refine Rb (jn (ci ⟨rfl,?_⟩));refine Rb (Hf hx ?_);have e0:a.toList.take (a.size-1+1)=a.toList:=Zj (by rw[cg];lia)
 have e1:b.toList.take b.size=b.toList:=Zj (by simp_all)
 have M0:Mh ρ a.toList b.toList (a.toList.take (a.size-1+1)) (b.toList.take b.size) (#[]:Array Ka).toList.reverse:=by
  rw[e0,e1];exact⟨by rw[show(#[]:Array Ka).toList.reverse=[]from rfl,xi];exact t.oa,by rw[show(#[]:Array Ka).toList.reverse=[]from rfl,xi];exact t.ob,by simp_all⟩
 have M:Mh ρ a.toList b.toList (a.toList.take (a.size-1)) (b.toList.take b.size) (#[x]:Array Ka).toList.reverse:=M0.pushA hx λy hy=>t.last x hx y (Mr hy);by_cases e:a.size-1=0
 ·rw[if_pos (by lia)]
  exact Ub (q _ _ .refl (Zu M e))
 rw[if_neg (by lia)]
 by_cases e':b.size=1
 ·rw[if_pos (by lia)]
  exact Ub (q _ _ .refl (av t M e'))
 rw[if_neg (by lia)]
 refine Rb (se ?_);refine Rb (fh (I:=λx c F=>Fr st F/\∃J O j g,c=(Aa,J,O,j,g)/\Hi ρ a b j J O/\x+(J+O)<a.size+b.size) ?_ ?_ ⟨.refl,_,_,_,_,rfl,⟨M,by lia,by lia,by lia,Mb _⟩,by lia⟩)
 ·rintro x c st1 _ hx ⟨fr,J,O,j,g,rfl,h,hc⟩;unfold vB;refine Rb (fh (I:=λz c F=>F=st1/\∃J O j ac bc,c=(Aa,J,O,j,ac,bc)/\Hi ρ a b j J O/\x+z+(J+O)<a.size+b.size) ?_ ?_ ⟨rfl,_,_,_,_,_,rfl,h,by lia⟩)
  ·rintro z c st2 _ hz ⟨rfl,J,O,j,ac,bc,rfl,h,hc⟩;have va:=h.a0;have za:=h.b1;have ja:=h.la;have xa:=h.lb;obtain⟨J,rfl⟩:∃n,J=n+1:=⟨J-1,by lia⟩
   obtain⟨O,rfl⟩:∃n,O=n+1:=⟨O-1,by lia⟩
   obtain⟨x',R⟩:=Ve (a:=a) (i:=J) (by lia)
   obtain⟨y',Y⟩:=Ve (a:=b) (i:=O) (by lia)
   unfold xB;dsimp only;rw[Jn,Jn];refine Rb (Hf Y (Rb (Hf R (Rb (Jq ak (fr.k.trans k0) (t.sb _ _ Y) (t.sa _ _ R) ?_)))));by_cases e:ρ y'<ρ x'
   ·simp only[e,decide_true,if_true];refine Rb (Hf R ?_);have ty:=Cu t.ob Y;have M:=h.m.pushA R λy hy=>by grind
    by_cases e2:J=0
    ·rw[if_pos (by lia)]
     exact Ub (Ub (Ub (q _ _ fr (Zu M e2))))
    ·rw[if_neg (by lia)]
     have L:Hi ρ a b (j.push x') J (O+1):=⟨M,by lia,za,by lia,xa⟩
     split
     ·exact Ub (Sz ak t k0 fr L (m:=a.size+b.size-(x+2)) (by lia) (λZ d F f z=>Ub (q _ _ f z)) λJ O j g F f l hm=>⟨f,_,_,_,_,rfl,l,by have:=l.a0;lia⟩)
     ·exact Ub ⟨rfl,_,_,_,_,_,rfl,L,by lia⟩
   ·simp only[e,decide_false,Bi,if_false];refine Rb (Hf Y ?_);have tx:=Cu t.oa R;have M:=h.m.pushB Y λx hx=>by grind
    by_cases e2:O=1
    ·rw[if_pos (by lia)]
     exact Ub (Ub (Ub (q _ _ fr (av t M e2))))
    ·rw[if_neg (by lia)]
     have L:Hi ρ a b (j.push y') (J+1) O:=⟨M,by lia,by lia,ja,by lia⟩
     split
     ·exact Ub (Sz ak t k0 fr L (m:=a.size+b.size-(x+2)) (by lia) (λZ d F f z=>Ub (q _ _ f z)) λJ O j g F f l hm=>⟨f,_,_,_,_,rfl,l,by have:=l.a0;lia⟩)
     ·exact Ub ⟨rfl,_,_,_,_,_,rfl,L,by lia⟩
  ·rintro c st2 ⟨rfl,J,O,j,ac,bc,rfl,h,hc⟩;have:=h.a0;exact Sz ak t k0 fr h (m:=a.size+b.size-(x+2)) (by lia) (λZ d F f z=>Ub (q _ _ f z)) λJ O j g F f l hm=>⟨f,_,_,_,_,rfl,l,by have:=l.a0;lia⟩
 ·rintro c st1 ⟨fr,J,O,j,g,rfl,h,hc⟩;have:=h.a0
  lia
end
section
variable {α:Type}
theorem VE   : ∀(l:List α) n (y:Array α) (q j f:List α),y.toList=q++j++f->j.length=l.length->q.length=sa+n->((l.zipIdx n).foldl (λa p=>a.setIfInBounds (sa+p.2) p.1) y).toList=q++l++f
 |[],n,y,q,j,f,h,hl,hp=>by
  simp_all
 |x::l,n,y,q,j,f,h,hl,hp=>by
  cases j with
  |nil=>cases hl
  |cons m j=>
   rw[List.zipIdx_cons,Qw];have e:(y.setIfInBounds (sa+n) x).toList=(q++[x])++j++f:=by
    simp_all
   have:=VE (sa:=sa) l (n+1) (y.setIfInBounds (sa+n) x) (q++[x]) j f e (by simp_all) (by grind)
   simp_all
def qE  {f:Array α}(h:f.toList=j++xs++q)(hi:i<xs.length):f[j.length+i]?=xs[i]?:=by
 rw[<- af,h,sf,Np (by lia),UC,Fn hi]
def AE  {f:Array α}(h:f.toList=j++xs++q):(f.extract j.length (j.length+xs.length)).toList=xs:=by
 simp_all
end
section
variable {prog:Ab}{w:Za}{A:Nb}{E:Da->Fa->Prop}{s:Fa}{κ:Pk}{S:Ka->Prop}{ρ:Ka->Int}
def oW  {st f:La}(h:Q ⟨⟩ f):wpS (Ia prog w) A E s (set f:StateT La Sem PUnit) Q st:=by
 unfold wpS;rw[StateT.run_set];exact Kb ⟨rfl,h⟩
def Io   : Fe ρ (l++m)↔Fe ρ l/\Fe ρ m/\∀x∈l,∀y∈m,ρ x<=ρ y:=Pa
def gY    k (h:Fe ρ l):Fe ρ (l.take k):=h.sublist (Lw k l)
def fY    k (h:Fe ρ l):Fe ρ (l.drop k):=h.sublist (OK k l)
structure Base2 (κ:Pk)(S:Ka->Prop)(st:La):Prop where
 k:kindOf st=κ
 f:pi st=Aa
 S:∀x∈(Ja st).toList,S x
def TZ  (ak:AskK prog w A s κ S ρ){st:La}(hb:Base2 κ S st)(ha:(Ja st).toList=f++(xs++ys)++I)(sx:Fe ρ xs)(sy:Fe ρ ys)(nx:xs≠[])(ny:ys≠[]) 
  (h1:(ud st)[i]?=ma (f.length,xs.length,pa)) (h2:(ud st)[i+1]?=ma (f.length+xs.length,ys.length,pb))
  (q:∀(J:List Ka) (F:La),kindOf F=κ->pi F=Aa->J.Perm (xs++ys)->Fe ρ J->(Ja F).toList=f++J++I->ud F=((ud st).setIfInBounds i (f.length,xs.length+ys.length,pa)).eraseIdxIfInBounds (i+1)->Q ua F):wpS (Ia prog w) A E s (Ml i) Q st:=by
 have xl:=Dd.mpr nx;have yl:=Dd.mpr ny;have hx:(Ja st).toList=f++xs++(ys++I):=by rw[ha];simp
 have Z:(Ja st).toList=(f++xs)++ys++I:=by rw[ha];simp
 have ax:∀{i:Nat},i<xs.length->(Ja st)[f.length+i]?=xs[i]?:=λhi=>qE hx hi;have ay:∀{i:Nat},i<ys.length->(Ja st)[f.length+xs.length+i]?=ys[i]?:=λ{i} hi=>by
  have:=qE Z hi
  simp_all
 have SS:=hb.S;have Sx:∀x∈xs,S x:=λx h=>SS x (by simp_all)
 have Sy:∀x∈ys,S x:=λx h=>SS x (by simp_all)
 refine Rb (se ?_);rw[h1,h2];refine Rb (oW ?_);obtain⟨st1,e1⟩:∃st1,st1=vn st (((ud st).setIfInBounds i (f.length,xs.length+ys.length,pa)).eraseIdxIfInBounds (i+1)):=⟨_,rfl⟩;have k1:kindOf st1=κ:=by rw[e1];exact hb.k
 have q1:∀J,J.Perm (xs++ys)->Fe ρ J->(Ja st).toList=f++J++I->Q ua st1:=λJ p o e=>q J st1 k1 (by rw[e1];exact hb.f) p o (by lia) (by rw[e1])
 refine(?_:wpS _ _ _ _ _ _ (vn st (((ud st).setIfInBounds i (f.length,xs.length+ys.length,pa)).eraseIdxIfInBounds (i+1))));rw[<- e1];obtain⟨y0,ya⟩:∃y,ys[0]?=ma y:=⟨_,Cc yl⟩;refine Rb (Hf (x:=y0) (by grind) ?_)
 refine Rb (To ak (left:=Ca) k1 (Sy y0 (Vc ya)) xl (λi=>match xs[i]? with|some z=>!decide (ρ y0<ρ z)|none=>Ca) (λi hi=>?_) (λi j wa R e2=>?_) λk hk g1 g2=>?_)
 ·have e:=Cc hi;exact⟨xs[i],by rw[<- e];exact ax hi,Sx _ (zi hi),by rw[e];rfl⟩
 ·have ei:=Cc (show i<xs.length by lia)
  have ej:=Cc R;have:=Ii sx wa ei ej;rw[ej]at e2;have e2:¬(ρ y0<ρ xs[j]):=by simpa using e2
  rw[ei];have:¬(ρ y0<ρ xs[i]):=by lia
  simpa using this
 have c1:∀x∈xs.take k,ρ x<=ρ y0:=λx hx=>by
  obtain⟨j,R,e⟩:=Ro hx
  grind
 have c2:∀x∈xs.drop k,ρ y0<=ρ x:=λx hx=>by
  obtain⟨j,R,e⟩:=Qo hx;have h3:=g2 j R (Ba.mp e).1;rw[e]at h3;have h3:ρ y0<ρ x:=by simpa using h3
  lia
 have c3:∀y∈ys,ρ y0<=ρ y:=λy Z=>by
  obtain⟨j,R⟩:=zl Z;exact Ii sy (Mf _) ya R
 dsimp only;by_cases e3:xs.length-k=0
 ·rw[if_pos (by lia)]
  refine Ub (q1 (xs++ys) (FC _) (Io.mpr ⟨sx,sy,λx hx y Z=>?_⟩) ha);have:k=xs.length:=by lia
  grind
 rw[if_neg (by lia)]
 obtain⟨xe,xa⟩:∃x,xs[xs.length-1]?=ma x:=⟨_,Cc (by lia)⟩
 have c4:∀x∈xs,ρ x<=ρ xe:=λx hx=>by
  obtain⟨j,R⟩:=zl hx;exact Ii sx (by have:=(Ba.mp R).1;lia) R xa
 have xb:(Ja st)[f.length+k+(xs.length-k)-1]?=ma xe:=by
  rw[show f.length+k+(xs.length-k)-1=f.length+(xs.length-1) by lia,ax (by lia)]
  exact xa
 refine Rb (Hf xb ?_);refine Rb (To ak (left:=ua) k1 (Sx xe (Vc xa)) (by lia) (λi=>match ys[i]? with|some z=>decide (ρ z<ρ xe)|none=>Ca) (λi hi=>?_) (λi j wa R e2=>?_) λl hl g3 g4=>?_)
 ·have e:=Cc hi;exact⟨ys[i],by simp_all,Sy _ (zi hi),by rw[e];rfl⟩
 ·have ei:=Cc (show i<ys.length by lia)
  have ej:=Cc R;have:=Ii sy wa ei ej;rw[ej]at e2;have e2:=of_decide_eq_true e2;rw[ei];exact decide_eq_true (by lia)
 have d1:∀y∈ys.take l,ρ y<=ρ xe:=λy Z=>by
  obtain⟨j,R,e⟩:=Ro Z
  grind
 have d2:∀y∈ys.drop l,ρ xe<=ρ y:=λy Z=>by
  obtain⟨j,R,e⟩:=Qo Z;have h3:=g4 j R (Ba.mp e).1;rw[e]at h3;have:=of_decide_eq_false h3
  lia
 dsimp only;by_cases e4:l=0
 ·rw[if_pos (by lia)]
  refine Ub (q1 (xs++ys) (FC _) (Io.mpr ⟨sx,sy,λx hx y Z=>?_⟩) ha)
  grind
 rw[if_neg (by lia)]
 obtain⟨x,ex⟩:∃x,x=(Ja st).extract (f.length+k) (f.length+xs.length):=⟨_,rfl⟩;obtain⟨y,ey⟩:∃y,y=(Ja st).extract (f.length+xs.length) (f.length+xs.length+l):=⟨_,rfl⟩;rw[<- ex,<- ey];have tx:x.toList=xs.drop k:=by
  rw[ex];have h3:(Ja st).toList=(f++xs.take k)++xs.drop k++(ys++I):=by
   simp_all
  have:=AE h3;rw[bg,Yh,Hr,jw hk,show f.length+k+(xs.length-k)=f.length+xs.length by lia]at this
  lia
 have ty:y.toList=ys.take l:=by
  rw[ey];have h3:(Ja st).toList=(f++xs)++ys.take l++(ys.drop l++I):=by
   rw[Z]
   conv=>lhs;rw[<- Vg l ys]
   grind
  have:=AE h3
  simp_all
 have va:x.size=xs.length-k:=by rw[<- cg,tx,Hr]
 have ka:y.size=l:=by rw[<- cg,ty,Yh];lia
 have t:Two2 S ρ x y:=by
  refine⟨λi z O=>?_,λi z O=>?_,by rw[tx];exact fY k sx,by rw[ty];exact gY l sy,λz O u hu=>?_,λz O u hu=>?_,by lia,by lia⟩
  ·rw[<- af,tx]at O;exact Sx z (Dw (Vc O))
  ·rw[<- af,ty]at O
   grind
  ·rw[<- af,tx,dM,va,show k+(xs.length-k-1)=xs.length-1 by lia,xa]at O
   simp_all
  ·rw[<- af,ty,ul,if_pos (by lia),ya]at O
   simp_all
 have ja:∀J (F:La),Fr st1 F->Fin2 ρ x y J->wpS (Ia prog w) A E s (do
   modify λs=>Up s (J.toList.zipIdx.foldl (λa p=>a.setIfInBounds (f.length+k+p.2) p.1) (Ja s))
   let s2 <- get
   pure (pi s2).isNone:StateT La Sem Bool) Q F:=λJ F fr ⟨o,p⟩=>by
  refine Rb (Xo (Rb (se ?_)));have ff:pi F=Aa:=by rw[fr.f,e1];exact hb.f
  rw[tx,ty]at p;have ea:Ja F=Ja st:=by rw[fr.a,e1]
  have w3:(Ja F).toList=(f++xs.take k)++(xs.drop k++ys.take l)++(ys.drop l++I):=by
   rw[ea,ha]
   conv=>lhs;rw[<- Vg k xs,<- Vg l ys]
   grind
  have w4:=VE (sa:=f.length+k) J.toList 0 (Ja F) _ _ _ w3 p.length_eq.symm (by simp_all)
  refine Ub ?_;rw[show(pi (Up F (J.toList.zipIdx.foldl (λa p=>a.setIfInBounds (f.length+k+p.2) p.1) (Ja F)))).isNone=ua by grind]
  have mem:∀z∈J.toList,z∈xs.drop k\/z∈ys.take l:=λz O=>ee.mp (p.mem_iff.mp O);refine q (xs.take k++J.toList++ys.drop l) _ (fr.k.trans k1) ff ?_ ?_ (by grind) (by show ud F=_;rw[fr.p,e1])
  ·have e5:xs++ys=xs.take k++(xs.drop k++ys.take l)++ys.drop l:=by
    conv=>lhs;rw[<- Vg k xs,<- Vg l ys]
    grind
   rw[e5];exact jx _ (Qr _ p)
  ·have za:=sx;rw[<- Vg k xs]at za;have za:=Io.mp za;have Y:=sy;rw[<- Vg l ys]at Y;have Y:=Io.mp Y;refine Io.mpr ⟨Io.mpr ⟨za.1,o,λu hu z O=>?_⟩,Y.2.1,λu hu z O=>?_⟩
   ·grind
   ·rcases ee.mp hu with hu|hu
    ·exact vr (c1 u hu) (c3 z (Dw O))
    ·rcases mem u hu with hu|hu
     ·exact vr (c4 u (Dw hu)) (d2 z O)
     ·exact Y.2.2 u hu z O
 by_cases e5:xs.length-k<=l
 ·rw[if_pos e5];exact Rb (VZ ak t k1 λJ F fr fi=>ja J F fr fi)
 ·rw[if_neg e5];exact Rb (UZ ak t k1 λJ F fr fi=>ja J F fr fi)
end
noncomputable def kk  (f:Ka->Int)(xs:Array Ka)(i:Nat):Int:=match xs[i]? with
 |some x=>f x
 |none=>0
def rq     (h:xs[i]?=ys[j]?):kk ρ xs i=kk ρ ys j:=by unfold kk;rw[h]
def kh  (f:Ka->Int)(xs:Array Ka)(l h:Nat):Prop:=∀i j,l<=i->i<=j->j<h->kk f xs i<=kk f xs j
def Vn  (f:Ka->Int)(xs:Array Ka)(l h:Nat):Prop:=∀i j,l<=i->i<=j->j<h->kk f xs j<=kk f xs i
structure Ch (l:Nat)(st st':La):Prop where
 e:st'=Up st (Ja st')
 pm:(Ja st').Perm (Ja st)
 pre:∀i,i<l->(Ja st')[i]?=(Ja st)[i]?
def Ch.refl   {st:La}:Ch l st st:=⟨rfl,.refl _,λ_ _=>rfl⟩
def Ch.trans   {st st1 st2:La}(h:Ch l st st1)(h':Ch l st1 st2):Ch l st st2:=⟨by rw[h'.e,h.e],h'.pm.trans h.pm,λi f=>(h'.pre i f).trans (h.pre i f)⟩
def Ch.size   {st f:La}(h:Ch l st f):(Ja f).size=(Ja st).size:=h.pm.size_eq
def Ch.base   {st f:La}(h:Ch l st f)(b:Base2 κ S st):Base2 κ S f:=⟨by rw[h.e];exact b.k,by rw[h.e];exact b.f,λx j=>b.S x ((Ld.mp h.pm).mem_iff.mp j)⟩
def Iu   {st:La}(j:l<=n)(f:m<=(Ja st).size):Ch l st (Up st (Yd (Ja st) n m ((m-n)/2))):=
 ⟨rfl,mirror_perm _ _ _ _,λi q=>by
  show(Yd (Ja st) n m ((m-n)/2))[i]?=_;rw[getElem?_mirror_all f,if_neg (by lia)]⟩
def Gz     (f:m<=xs.size) i:kk ρ (Yd xs n m ((m-n)/2)) i=if n<=i/\i<m then kk ρ xs (n+m-1-i) else kk ρ xs i:=by
 have e:=getElem?_mirror_all (i:=n) f i;split
 ·rw[if_pos ‹_›]at e;exact rq e
 ·rw[if_neg ‹_›]at e;exact rq e
def No     (j:m<=xs.size)(f:∀i,n<=i->i<m->kk ρ xs i=kk ρ xs (m-1)) i:kk ρ (Yd xs n m ((m-n)/2)) i=kk ρ xs i:=by
 rw[Gz j];split
 ·rw[f _ (by lia) (by lia),f i (by lia) (by lia)]
 ·rfl
noncomputable def ascB  (l n:Nat):StateT La Sem (ForInStep AscSt):=do
 let r <- ltAt' (l+n) (l+n-1)
 match r with
 |some t=>if t=ua then pure (ForInStep.done (Aa,n)) else pure (ForInStep.yield (Aa,n+1))
 |_=>pure (ForInStep.done (ma Aa,n))
def ascL  (l n h:Nat):StateT La Sem AscSt:=forIn [n:h] ((Aa,n):AscSt) λ_ c=>ascB l c.2
def Im  (l n h:Nat):StateT La Sem (Option Nat):=do
 Dn l (l+n)
 let c <- ascL l n h
 match c.1 with
 |some r=>pure r
 |none=>pure (ma c.2)
noncomputable def desB  (l n q:Nat):StateT La Sem (ForInStep DescSt):=do
 let r <- ltAt' (l+n) (l+n-1)
 match r with
 |some t=>
  if t=ua then
   if q>0 then do
    Dn (l+n-(q+1)) (l+n)
    pure (ForInStep.yield (Aa,n+1,0))
   else pure (ForInStep.yield (Aa,n+1,0))
  else do
   let r <- ltAt' (l+n-1) (l+n)
   match r with
   |some t=>if t=ua then pure (ForInStep.done (Aa,n,q)) else pure (ForInStep.yield (Aa,n+1,q+1))
   |_=>pure (ForInStep.done (ma Aa,n,q))
 |_=>pure (ForInStep.done (ma Aa,n,q))
def desP  (l n h:Nat):StateT La Sem (Option Nat):=do
 Dx "list.sort.descending-run"
 let c <- forIn [n+1:h] ((Aa,n+1,0):DescSt) λ_ c=>desB l c.2.1 c.2.2
 match c.1 with
 |some r=>pure r
 |none=>
  if c.2.2>0 then do
   Dn (l+c.2.1-(c.2.2+1)) (l+c.2.1)
   Im l c.2.1 h
  else Im l c.2.1 h
def bG {l n h:Nat}:Im l n h=(do
  Dn l (l+n)
  let c <- ascL l n h
  match c.1 with
  |some r=>pure r
  |none=>pure (ma c.2)):=rfl
def ZZ (l h:Nat):Gx l h=(do
 let c <- ascL l 1 h
 match c.1 with
 |some r=>pure r
 |none=>
  if (c.2==h)=ua then pure (ma c.2)
  else if c.2>1 then do
   let r <- ltAt' l (l+c.2-1)
   match r with
   |some t=>if t=ua then pure (ma c.2) else do
     Dn l (l+c.2)
     desP l c.2 h
   |_=>pure Aa
  else desP l c.2 h):=by
 refine ph (fc λ_ c=>bc λr=>?_) λc=>?_
 ·lia
 ·obtain⟨c0,n⟩:=c;cases c0 with
  |some r=>rfl
  |none=>
   refine ic rfl (ic (bc λr=>?_) ?_)
   ·cases r with
    |none=>rfl
    |some t=>
     cases t with
     |true=>rfl
     |false=>
      refine bc λ_=>?_;unfold desP;refine bc λ_=>ph (fc λ_ c=>bc λr=>?_) λc=>?_
      ·cases r with
       |none=>rfl
       |some t=>
        cases t with
        |true=>rfl
        |false=>exact bc λr=>by lia
      ·obtain⟨c0,n,q⟩:=c;cases c0 with
       |some r=>rfl
       |none=>
        refine ic (bc λ_=>?_) ?_ <;>
        ·rw[bG];refine bc λ_=>ph (fc λ_ c=>bc λr=>?_) λc=>?_
         ·lia
         lia
   ·unfold desP;refine bc λ_=>ph (fc λ_ c=>bc λr=>?_) λc=>?_
    ·cases r with
     |none=>rfl
     |some t=>
      cases t with
      |true=>rfl
      |false=>exact bc λr=>by lia
    ·obtain⟨c0,n,q⟩:=c;cases c0 with
     |some r=>rfl
     |none=>
      refine ic (bc λ_=>?_) ?_ <;>
      ·rw[bG];refine bc λ_=>ph (fc λ_ c=>bc λr=>?_) λc=>?_
       ·lia
       lia

def Iq  {st: La}(F:AskK prog w A s κ S ρ)(b:Base2 κ S st)(hi:i<(Ja st).size)(Y:j<(Ja st).size)(q:Q (ma (decide (kk ρ (Ja st) i<kk ρ (Ja st) j))) st):wpS (Ia prog w) A E s (ltAt' i j) Q st:=by
 obtain⟨x,z⟩:=Ve hi;obtain⟨y,f⟩:=Ve Y;have J:kk ρ (Ja st) i=ρ x:=by unfold kk;rw[z]
 have O:kk ρ (Ja st) j=ρ y:=by unfold kk;rw[f]
 rw[J,O]at q;have I:S x:=b.S x (by grind)
 have R:S y:=b.S y (by grind)
 rw[ltAt'_eq];exact Rb (se (Rb (Hf z (Rb (Hf f (Jq F b.k I R q))))))
def wv  {st: La}(q:Q () (Up st (Yd (Ja st) i j ((j-i)/2)))):wpS (Ia prog w) A E s (Dn i j) Q st:=by
 rw[reverseSlice'_eq];exact Xo q
def lW   (F:1<=n)(u:kh ρ xs l (l+n))(e:kk ρ xs (l+n-1)<=kk ρ xs (l+n)):kh ρ xs l (l+(n+1)):=λi j f q I=>by
 by_cases z:j<l+n
 ·exact u i j f q z
 ·have:j=l+n:=by lia
  subst this;by_cases y:i=l+n
  ·lia
  ·exact vr (u i (l+n-1) f (by lia) (by lia)) e
def Aq   (F:1<=n)(u:Vn ρ xs l (l+n))(e:kk ρ xs (l+n)<=kk ρ xs (l+n-1)):Vn ρ xs l (l+(n+1)):=λi j f q I=>by
 by_cases z:j<l+n
 ·exact u i j f q z
 ·have:j=l+n:=by lia
  subst this;by_cases y:i=l+n
  ·lia
  ·exact vr e (u i (l+n-1) f (by lia) (by lia))
def fU   : kh ρ xs l (l+1):=λi j f q y=>by
 grind
def wR   : Vn ρ xs l (l+1):=λi j f q y=>by
 grind
def wH  {st: La}(y:AskK prog w A s κ S ρ)(b:Base2 κ S st)(F:1<=n)(J:n<=h)(hz:l+h<=(Ja st).size)(u:kh ρ (Ja st) l (l+n))
  (q:∀m,n<=m->m<=h->kh ρ (Ja st) l (l+m)->(m=h\/kk ρ (Ja st) (l+m)<kk ρ (Ja st) (l+m-1))->Q (Aa,m) st):wpS (Ia prog w) A E s (ascL l n h) Q st:=by
 unfold ascL;refine fh (I:=λx c f=>f=st/\c=(Aa,x)/\kh ρ (Ja st) l (l+x)) ?_ ?_ ⟨rfl,rfl,u⟩
 ·rintro x c f j z ⟨rfl,rfl,u⟩;unfold ascB;refine Rb (Iq y b (by lia) (by dsimp only;lia) ?_)
  dsimp only;by_cases e:kk ρ (Ja f) (l+x)<kk ρ (Ja f) (l+x-1)
  ·simp only[e,decide_true,if_true];exact Ub (q x j (by lia) u (.inr e))
  ·simp only[e,decide_false,Bi,if_false];exact Ub ⟨rfl,rfl,lW (by lia) u (by lia)⟩
 simp_all
def FH  {st: La}(F:AskK prog w A s κ S ρ)(b:Base2 κ S st)(I:1<=n)(O:n<=h)(hz:l+h<=(Ja st).size)(u:Vn ρ (Ja st) l (l+n))
  (q:∀m f,Ch l st f->1<=m->m<=h->kh ρ (Ja f) l (l+m)->Q (ma m) f):wpS (Ia prog w) A E s (Im l n h) Q st:=by
 unfold Im;refine Rb (wv ?_);have c1:=Iu (l:=l) (n:=l) (m:=l+n) (st:=st) (Mb _) (by lia)
 refine Rb (wH F (c1.base b) I O (by rw[c1.size];exact hz) (λi j J z y=>?_) λm J z y _=>Ub (q m _ c1 (by lia) z y))
 show kk ρ (Yd (Ja st) l (l+n) ((l+n-l)/2)) i<=kk ρ (Yd (Ja st) l (l+n) ((l+n-l)/2)) j;rw[Gz (by lia),Gz (by lia),if_pos (by lia),if_pos (by lia)]
 exact u _ _ (by lia) (by lia) (by lia)
def xH  {st: La}(R:AskK prog w A s κ S ρ)(b:Base2 κ S st)(h2:n+1<=h)(hz:l+h<=(Ja st).size)(u:Vn ρ (Ja st) l (l+(n+1)))
  (q:∀m f,Ch l st f->1<=m->m<=h->kh ρ (Ja f) l (l+m)->Q (ma m) f):wpS (Ia prog w) A E s (desP l n h) Q st:=by
 unfold desP;refine Rb (jn (ci ⟨rfl,?_⟩));have J:∀m r f,Ch l st f->1<=m->m<=h->Vn ρ (Ja f) l (l+m)->r+1<=m->(∀i,l+m-(r+1)<=i->i<l+m->kk ρ (Ja f) i=kk ρ (Ja f) (l+m-1))->wpS (Ia prog w) A E s (if r>0 then do
   Dn (l+m-(r+1)) (l+m)
   Im l m h
  else Im l m h) Q f:=λm r f c1 z F g3 g4 g5=>by
  have z1:=c1.size;split
  ·refine Rb (wv ?_);have c2:=Iu (l:=l) (n:=l+m-(r+1)) (m:=l+m) (st:=f) (by lia) (by lia)
   refine FH R (c2.base (c1.base b)) z F (by rw[c2.size];lia) (λi j Z y O=>?_) λm st2 Y=>q m st2 ((c1.trans c2).trans Y)
   show kk ρ (Yd (Ja f) _ _ _) j<=kk ρ (Yd (Ja f) _ _ _) i;rw[No (by lia) g5,No (by lia) g5]
   exact g3 i j Z y O
  ·exact FH R (c1.base b) z F (by lia) g3 λm st2 Y=>q m st2 (c1.trans Y)
 refine Rb (fh (I:=λx c f=>∃r,c=(Aa,x,r)/\Ch l st f/\Vn ρ (Ja f) l (l+x)/\r+1<=x/\∀i,l+x-(r+1)<=i->i<l+x->kk ρ (Ja f) i=kk ρ (Ja f) (l+x-1)) ?_ ?_ ⟨0,rfl,.refl,u,by lia,λi z F=>by grind⟩)
 ·rintro x c f za xa ⟨r,rfl,c1,d,hr,he⟩;have z1:=c1.size;have b1:=c1.base b;unfold desB;refine Rb (Iq R b1 (by lia) (by dsimp only;lia) ?_)
  dsimp only;by_cases e:kk ρ (Ja f) (l+x)<kk ρ (Ja f) (l+x-1)
  ·simp only[e,decide_true,if_true];by_cases y:r>0
   ·rw[if_pos y];have c2:=Iu (l:=l) (n:=l+x-(r+1)) (m:=l+x) (st:=f) (by lia) (by lia)
    refine Rb (wv (Ub ⟨0,rfl,c1.trans c2,λi j Z y O=>?_,by lia,λi z F=>by grind⟩))
    show kk ρ (Yd (Ja f) _ _ _) j<=kk ρ (Yd (Ja f) _ _ _) i;rw[No (by lia) he,No (by lia) he]
    exact Aq (by lia) d (by lia) i j Z y O
   ·rw[if_neg y];exact Ub ⟨0,rfl,c1,Aq (by lia) d (by lia),by lia,λi z F=>by grind⟩
  ·simp only[e,decide_false,Bi,if_false];refine Rb (Iq R b1 (by lia) (by lia) ?_)
   by_cases y:kk ρ (Ja f) (l+x-1)<kk ρ (Ja f) (l+x)
   ·simp only[y,decide_true,if_true];exact Ub (J x r f c1 (by lia) (by lia) d hr he)
   ·simp only[y,decide_false,Bi,if_false];have eq:kk ρ (Ja f) (l+x)=kk ρ (Ja f) (l+x-1):=by lia
    refine Ub ⟨r+1,rfl,c1,Aq (by lia) d (by lia),by lia,λi z F=>?_⟩
    rw[show l+(x+1)-1=l+x by lia]
    by_cases O:i=l+x
    ·rw[O]
    ·rw[eq];exact he i (by lia) (by lia)
 ·rintro c f ⟨r,rfl,c1,d,hr,he⟩;rw[show max (n+1) h=h by lia]at d hr he ⊢
  exact J h r f c1 (by lia) (Mb _) d hr he
def OZ  {st: La}(I:AskK prog w A s κ S ρ)(b:Base2 κ S st)(h1:1<=h)(hz:l+h<=(Ja st).size)
  (q:∀m y,Ch l st y->1<=m->m<=h->kh ρ (Ja y) l (l+m)->Q (ma m) y):wpS (Ia prog w) A E s (Gx l h) Q st:=by
 rw[ZZ];refine Rb (wH I b (Mb 1) h1 hz fU λm R Y O Z=>?_);dsimp only;by_cases e:m=h
 ·rw[if_pos (by lia)]
  exact Ub (q m st .refl R Y O)
 rw[if_neg (by lia)]
 have lt:=Z.resolve_left e;by_cases f:m>1
 ·rw[if_pos f];refine Rb (Iq I b (by lia) (by lia) ?_)
  by_cases F:kk ρ (Ja st) l<kk ρ (Ja st) (l+m-1)
  ·simp only[F,decide_true,if_true];exact Ub (q m st .refl R Y O)
  ·simp only[F,decide_false,Bi,if_false];refine Rb (wv ?_);have c2:=Iu (l:=l) (n:=l) (m:=l+m) (st:=st) (Mb _) (by lia)
   have J:∀i,l<=i->i<l+m->kk ρ (Ja st) i=kk ρ (Ja st) (l+m-1):=λi z f=>by
    have:=O l i (Mb _) z f;have:=O i (l+m-1) z (by lia) (by lia)
    lia
   refine xH I (c2.base b) (by lia) (by rw[c2.size];exact hz) (λi j z f F=>?_) λm st2 c3=>q m st2 (c2.trans c3)
   show kk ρ (Yd (Ja st) _ _ _) j<=kk ρ (Yd (Ja st) _ _ _) i;rw[No (by lia) J,No (by lia) J]
   exact Aq (by lia) (λi j z f F=>by rw[J i z (by lia),J j (by lia) F];exact aw _) (by lia) i j z f F
 ·rw[if_neg f];have:m=1:=by lia
  subst this;exact xH I b (by lia) hz (Aq (Mb 1) wR (by lia)) q
def vX  {st: La}(ak:AskK prog w A s κ S ρ)(b:Base2 κ S st)(Y:1<=n)(F:n<=h)(hz:l+h<=(Ja st).size)(u:kh ρ (Ja st) l (l+n))
  (q:∀f,Ch l st f->kh ρ (Ja f) l (l+h)->Q ua f):wpS (Ia prog w) A E s (binarySort' l h n) Q st:=by
 refine Rb (fh (I:=λx c f=>c=(Aa,())/\Ch l st f/\kh ρ (Ja f) l (l+x)) ?_ ?_ ⟨rfl,.refl,by simp_all⟩)
 ·rintro x c f ja za ⟨rfl,c1,u⟩;have z1:=c1.size;have b1:=c1.base b;have O:∀m,m<=x->(∀i,i<m->kk ρ (Ja f) (l+i)<=kk ρ (Ja f) (l+x))->(∀i,m<=i->i<x->kk ρ (Ja f) (l+x)<kk ρ (Ja f) (l+i))->wpS (Ia prog w) A E s (moveDown' (l+x) (l+m)) (λ_ st2=>Ch l st st2/\kh ρ (Ja st2) l (l+(x+1))) f:=λm hm a1 a2=>by
   rw[moveDown'_eq];refine Xo ?_;have gb:=λi=>getElem?_bubble (xs:=Ja f) (src:=l+x) (by lia) (l+x-(l+m)) (by lia) i
   have g:∀i,kk ρ (bubble (Ja f) (l+x) (l+x-(l+m))) i=if i=l+m then kk ρ (Ja f) (l+x) else if l+m<i/\i<=l+x then kk ρ (Ja f) (i-1) else kk ρ (Ja f) i:=λi=>by
    have e:=gb i;rw[show l+x-(l+x-(l+m))=l+m by lia]at e
    split
    ·rw[if_pos ‹_›]at e;exact rq e
    ·rw[if_neg ‹_›]at e;split
     ·rw[if_pos ‹_›]at e;exact rq e
     ·rw[if_neg ‹_›]at e;exact rq e
   refine⟨c1.trans ⟨rfl,bubble_perm _ _ _,λi hi=>?_⟩,λi j J R e3=>?_⟩
   ·show(bubble (Ja f) (l+x) (l+x-(l+m)))[i]?=_;rw[gb i,if_neg (by lia),if_neg (by lia)]
   ·show kk ρ (bubble (Ja f) (l+x) (l+x-(l+m))) i<=kk ρ (bubble (Ja f) (l+x) (l+x-(l+m))) j;by_cases c1:j<l+m
    ·rw[g i,g j,if_neg (by lia),if_neg (by lia),if_neg (by lia),if_neg (by lia)]
     exact u i j J R (by lia)
    by_cases c2:j=l+m
    ·rw[g j,if_pos c2];by_cases y:i=l+m
     ·simp_all
     ·rw[g i,if_neg y,if_neg (by lia)]
      have:=a1 (i-l) (by lia)
      simp_all
    ·rw[g j,if_neg c2,if_pos (by lia)]
     by_cases y:i=l+m
     ·rw[g i,if_pos y];have:=a2 (j-1-l) (by lia) (by lia)
      rw[show l+(j-1-l)=j-1 by lia]at this
      lia
     ·by_cases c4:l+m<i/\i<=l+x
      ·rw[g i,if_neg y,if_pos c4];exact u _ _ (by lia) (by lia) (by lia)
      ·rw[g i,if_neg y,if_neg c4];exact u _ _ J (by lia) (by lia)
  refine Rb (fh (I:=λz c st2=>st2=f/\∃a e,c=(Aa,a,e)/\a<=e/\e<=x/\e-a<=x-z/\(∀i,i<a->kk ρ (Ja f) (l+i)<=kk ρ (Ja f) (l+x))/\∀i,e<=i->i<x->kk ρ (Ja f) (l+x)<kk ρ (Ja f) (l+i)) ?_ ?_ ⟨rfl,0,x,rfl,by lia,by lia,by lia,λi h=>by lia,λi Y F=>by lia⟩)
  ·rintro z c st2 _ xa ⟨rfl,a,e,rfl,g1,g2,g3,g4,g5⟩;dsimp only;by_cases J:a ≥ e
   ·rw[if_pos J];exact Ub (Rb (wpS_mono (O a (by lia) g4 λi Y F=>g5 i (by lia) F) λ_ Z ⟨y,u3⟩=>Ub ⟨rfl,y,u3⟩))
   ·rw[if_neg J];obtain⟨m,hm⟩:∃m,m=(a+e)/2:=⟨_,rfl⟩;rw[<- hm];refine Rb (Iq ak b1 (by lia) (by lia) ?_)
    by_cases R:kk ρ (Ja st2) (l+x)<kk ρ (Ja st2) (l+m)
    ·simp only[R,decide_true,if_true];refine Ub ⟨rfl,a,m,rfl,by lia,by lia,by lia,g4,λi Y F=>?_⟩
     have:=u (l+m) (l+i) (by lia) (by lia) (by lia)
     lia
    ·simp only[R,decide_false,Bi,if_false];refine Ub ⟨rfl,m+1,e,rfl,by lia,by lia,by lia,λi h=>?_,g5⟩
     have:=u (l+i) (l+m) (by lia) (by lia) (by lia)
     lia
  ·rintro c st2 ⟨rfl,a,e,rfl,g1,g2,g3,g4,g5⟩;exact Rb (wpS_mono (O a (by lia) g4 λi Y F=>g5 i (by lia) F) λ_ Z ⟨y,u3⟩=>Ub ⟨rfl,y,u3⟩)
 ·rintro c f ⟨rfl,c1,u⟩;rw[show max (max n 1) h=h by lia]at u
  exact Ub (q f c1 u)
noncomputable def starts  : Nat->List (List Ka)->List (Nat×Nat)
 |_,[]=>[]
 |b,r::rs=>(b,r.length)::starts (b+r.length) rs
theorem Lv  : ∀b (l m:List (List Ka)),starts b (l++m)=starts b l++starts (b+l.flatten.length) m
 |b,[],m=>by simp[starts]
 |b,r::l,m=>by
  show(b,r.length)::starts (b+r.length) (l++m)=(b,r.length)::(starts (b+r.length) l++starts (b+(r::l).flatten.length) m);rw[Lv,Hn,bg,Nat.add_assoc]
theorem VA  : ∀b (l:List (List Ka)),(starts b l).length=l.length
 |_,[]=>rfl
 |b,_::l=>congrArg (·+ 1) (VA _ l)
noncomputable abbrev vk  (p:Nat×Nat×Nat):Nat×Nat:=(p.1,p.2.1)
structure Ef (ρ:Ka->Int)(st:La)(rs:List (List Ka))(rest:List Ka):Prop where
 ar:(Ja st).toList=rs.flatten++rest
 pd:(ud st).toList.map vk=starts 0 rs
 ok:∀r∈rs,r≠[]/\Fe ρ r

def Ef.size  {st: La}{rest: List Ka}(h:Ef ρ st rs rest):(ud st).size=rs.length:=by
 have:=congrArg mn h.pd;rw[Hb,cg,VA]at this
 lia
def kI  {st: La}{rest: List Ka}(ak:AskK prog w A s κ S ρ)(hb:Base2 κ S st)(h:Ef ρ st rs rest)(hi:i+1<(ud st).size)
  (q:∀I f,Base2 κ S f->Ef ρ f I rest->I.flatten.length=rs.flatten.length->I.length+1=rs.length->(Ja f).toList.Perm (Ja st).toList->Q ua f):wpS (Ia prog w) A E s (Ml i) Q st:=by
 have hz:=h.size;obtain⟨l,x,y,m,e,hl⟩:∃l x y m,rs=l++x::y::m/\l.length=i:=by
  refine⟨rs.take i,rs[i],rs[i+1],rs.drop (i+2),?_,by grind⟩
  rw[<- xh,<- xh,Vg]
 obtain⟨j,R,Y,J,ep,hp⟩:∃j R Y J,(ud st).toList=j++R::Y::J/\j.length=i:=by
  have z:(ud st).toList.length=(ud st).size:=cg;refine⟨(ud st).toList.take i,(ud st).toList[i],(ud st).toList[i+1],(ud st).toList.drop (i+2),?_,by simp_all⟩
  rw[<- xh,<- xh,Vg]
 subst e;have O:=h.pd;rw[ep,ie,Lv]at O;obtain⟨q1,q2⟩:=List.append_inj O (by rw[Hb,VA];lia)
 rw[Se,Se]at q2;have q2:vk R::vk Y::J.map vk=(0+l.flatten.length,x.length)::(0+l.flatten.length+x.length,y.length)::starts (0+l.flatten.length+x.length+y.length) m:=q2;rw[Sj]at q2;obtain⟨g1,q3⟩:=Ar q2;obtain⟨g2,g3⟩:=Ar q3;obtain⟨a1,b1,c1⟩:=R;obtain⟨a2,b2,c2⟩:=Y;obtain⟨rfl,rfl⟩:=rn g1;obtain⟨rfl,rfl⟩:=rn g2;have ox:=h.ok x (by simp)
 have oy:=h.ok y (by simp)
 have ha:(Ja st).toList=l.flatten++(x++y)++(m.flatten++rest):=by rw[h.ar];simp
 refine TZ ak hb ha ox.2 oy.2 ox.1 oy.1 (pa:=c1) (pb:=c2) (by rw[<- af,ep,Np (by lia),hp,tw];rfl) (by rw[<- af,ep,Np (by lia),hp,UC];rfl) λZ f k' f' pm o ar pd=>?_
 have pl:Z.length=x.length+y.length:=by rw[pm.length_eq,bg]
 have perm:(Ja f).toList.Perm (Ja st).toList:=by
  rw[ar,ha];exact jx _ (Qr _ pm)
 refine q (l++Z::m) f ⟨k',f',λz hz=>hb.S z (perm.mem_iff.mp hz)⟩ ⟨by rw[ar];simp,?_,λr F=>?_⟩ (by grind) (by simp;lia) perm
 ·rw[pd,Array.toList_eraseIdxIfInBounds,Array.toList_setIfInBounds,ep,Lv,<- hp];have e1:(j++(l.flatten.length,x.length,c1)::(l.flatten.length+x.length,y.length,c2)::J).set j.length (l.flatten.length,x.length+y.length,c1)=j++(l.flatten.length,x.length+y.length,c1)::(l.flatten.length+x.length,y.length,c2)::J:=by simp
  rw[e1,List.eraseIdx_append_of_length_le (by lia),UC]
  show Yn vk (j++(l.flatten.length,x.length+y.length,c1)::J)=starts 0 l++(0+l.flatten.length,Z.length)::starts (0+l.flatten.length+Z.length) m
  grind
 ·rcases ee.mp F with F|F
  ·exact h.ok r (by simp[F])
  ·rcases Sc.mp F with rfl|F
   ·exact⟨λz=>ox.1 (Pb.mp (by rw[z,Cp]at pl;lia)),o⟩
   ·exact h.ok r (by simp[F])
section
variable {prog:Ab}{w:Za}{A:Nb}{E:Da->Fa->Prop}{s:Fa}{κ:Pk}{S:Ka->Prop}{ρ:Ka->Int}{st:La}{rs:List (List Ka)}{rest:List Ka}
def IT    (hz:l+n<=xs.size)(u:kh ρ xs l (l+n)):Fe ρ ((xs.toList.drop l).take n):=by
 refine Xa.mpr λi j f z F=>?_;have q:i<n:=by grind
 have y:j<n:=by grind
 have e:∀(i:Nat) (f:i<((xs.toList.drop l).take n).length),i<n->kk ρ xs (l+i)=ρ ((xs.toList.drop l).take n)[i]:=λi f q=>by
  have:xs[l+i]?=ma ((xs.toList.drop l).take n)[i]:=by
   simp_all
  unfold kk;rw[this]
 rw[<- e i f q,<- e j z y];exact u _ _ (by lia) (by lia) (by lia)
def Ef.ch    (h:Ef ρ st rs rest)(c:Ch l st f)(q:rs.flatten.length=l)(hz:l+n<=(Ja st).size)(u:kh ρ (Ja f) l (l+n)):∃r j,Ef ρ f rs (r++j)/\r.length=n/\Fe ρ r:=by
 have z:=c.size;refine⟨((Ja f).toList.drop l).take n,((Ja f).toList.drop l).drop n,⟨?_,?_,h.ok⟩,by rw[Yh,Hr,cg];lia,IT (by lia) u⟩
 ·have e:(Ja f).toList.take l=rs.flatten:=by
   have y:(Ja st).toList.take l=rs.flatten:=by rw[h.ar,<- q,List.take_left]
   rw[<- y];refine LC λi=>?_;rw[ul,ul];split
   ·rw[af,af];exact c.pre i ‹_›
   ·rfl
  rw[Vg,<- e,Vg]
 ·rw[c.e];exact h.pd
def Ef.push    (h:Ef ρ st rs (r++f))(q:rs.flatten.length=l)(y:r≠[])(o:Fe ρ r) v:Ef ρ (vn st ((ud st).push (l,r.length,v))) (rs++[r]) f:=by
 refine⟨by show(Ja st).toList=_;rw[h.ar];simp,?_,λx j=>?_⟩
 ·show((ud st).push (l,r.length,v)).toList.map vk=_;rw[zp,ie,h.pd,Lv,q,Sj];rfl
 ·rcases ee.mp j with j|j
  ·exact h.ok x j
  simp_all
def Ef.pow (h:Ef ρ st rs rest)(i v:Nat):Ef ρ (vn st ((ud st).modify i λx=>match x with|(a,b,_)=>(a,b,v))) rs rest:=by
 refine⟨h.ar,?_,h.ok⟩;refine(?_:((ud st).modify i λx=>match x with|(a,b,_)=>(a,b,v)).toList.map vk=_)
 rw[<- h.pd,Array.toList_modify];refine LC λj=>?_;rw[md,md,List.getElem?_modify];cases(ud st).toList[j]? with
 |none=>rfl
 |some x=>
  obtain⟨a,b,c⟩:=x;show ma (vk (if i=j then (a,b,v) else (a,b,c)))=ma (a,b)
  split<;>rfl
abbrev wx:=Option Unit×Unit
abbrev On:=Option Unit×Nat
noncomputable def Ao  (P:Array (Nat×Nat×Nat)):Nat:=if Option.any (λx=>decide (x<P[P.size-2+1]?.elim 0 λx=>x.2.1)) (if P.size-2>0 then Option.map (λx=>x.2.1) P[P.size-2-1]? else Aa)=ua then P.size-2-1 else P.size-2
def Bz  : StateT La Sem (ForInStep wx):=do
 let t <- get
 if (ud t).size<=1 then pure (ForInStep.done (Aa,()))
 else do
  let r <- Ml (Ao (ud t))
  if (!r)=ua then pure (ForInStep.done (ma (),())) else pure (ForInStep.yield (Aa,()))
def tu  (N:Nat):StateT La Sem Unit:=do
 let c <- forIn [0:N] ((Aa,()):wx) λ_ _=>Bz
 match c.1 with
 |some r=>pure r
 |none=>pure ()
noncomputable def innI  (P:Array (Nat×Nat×Nat)):Option (Nat×Nat×Nat):=if P.size>1 then P[P.size-2]? else Aa
def innB  (v:Nat):StateT La Sem (ForInStep wx):=do
 let t <- get
 match innI (ud t)with
 |some (_,_,o)=>if o<=v then pure (ForInStep.done (Aa,())) else do
  let r <- Ml ((ud t).size-2)
  if (!r)=ua then pure (ForInStep.done (ma (),())) else pure (ForInStep.yield (Aa,()))
 |_=>pure (ForInStep.done (Aa,()))
noncomputable def innJ  (l n:Nat):StateT La Sem (ForInStep On):=do
 modify λs=>vn s ((ud s).push (l,n,0))
 pure (ForInStep.yield (Aa,l+n))
def innM  (N l n v:Nat):StateT La Sem (ForInStep On):=do
 let c <- forIn [0:N] ((Aa,()):wx) λ_ _=>innB v
 match c.1 with
 |some r=>pure (ForInStep.done (ma r,l))
 |none=>do
  modify λs=>vn s ((ud s).modify ((ud s).size-1) λx=>match x with|(a,b,_)=>(a,b,v))
  innJ l n
def innL  (N l n:Nat):StateT La Sem (ForInStep On):=do
 let t <- get
 match (ud t).back? with
 |some (a,b,_)=>innM N l n (power' N (2*a+b) (2*a+b+b+n) N)
 |_=>innJ l n
def runB  (N f l:Nat):StateT La Sem (ForInStep On):=
 if l ≥ N then pure (ForInStep.done (Aa,l)) else do
  let r <- Gx l (N-l)
  match r with
  |some m=>
   if m<f then do
    Dx "list.sort.binary-insertion"
    let r <- binarySort' l (min (N-l) f) m
    if (!r)=ua then pure (ForInStep.done (ma (),l)) else innL N l (min (N-l) f)
   else innL N l m
  |_=>pure (ForInStep.done (ma (),l))
def S0:sortRuns'=(do
 let t <- get
 let c <- forIn [0:(Ja t).size] ((Aa,0):On) λ_ c=>runB (Ja t).size (minRun' (Ja t).size (Ja t).size 0) c.2
 match c.1 with
 |some r=>pure r
 |none=>tu (Ja t).size):=by
 rw[sortRuns'_eq];refine bc λt=>ph (fc λ_ c=>?_) λc=>?_
 ·unfold runB;refine ic rfl (bc λr=>?_);cases r with
  |none=>rfl
  |some m=>
   have f:∀(n l:Nat) (x:StateT La Sem (ForInStep On)),x=innL (Ja t).size l n->x=innL (Ja t).size l n:=λ_ _ _ e=>e;refine ic (bc λ_=>bc λr=>?_) ?_
   ·cases r with
    |false=>rfl
    |true=>
     refine bc λt=>?_;cases e:(ud t).back? with
     |none=>rfl
     |some p=>
      obtain⟨a,b,d⟩:=p;refine ph (fc λ_ c=>bc λt=>?_) λc=>?_
      ·unfold innI;dsimp only;generalize (if (ud t).size>1 then (ud t)[(ud t).size-2]? else Aa)=z
       cases z with
       |none=>rfl
       |some z=>rfl
      ·obtain⟨c0,_⟩:=c;cases c0<;>rfl
   ·refine bc λt=>?_;cases e:(ud t).back? with
    |none=>rfl
    |some p=>
     obtain⟨a,b,d⟩:=p;refine ph (fc λ_ c=>bc λt=>?_) λc=>?_
     ·unfold innI;dsimp only;generalize (if (ud t).size>1 then (ud t)[(ud t).size-2]? else Aa)=z
      cases z with
      |none=>rfl
      |some z=>rfl
     ·obtain⟨c0,_⟩:=c;cases c0<;>rfl
 ·obtain⟨c0,l⟩:=c;cases c0 with
  |some r=>rfl
  |none=>
   refine ph (fc λ_ c=>?_) λc=>?_
   ·unfold Bz Ao;rfl
   lia
def lX   (h:1<P.size):Ao P+1<P.size:=by
 have:Ao P=P.size-2-1\/Ao P=P.size-2:=by
  unfold Ao
  lia
 lia
def yZ  (Z:AskK prog w A s κ S ρ){J:Array Ka}{Q:Unit->La->Prop}(Y:Base2 κ S st)(hr:Ef ρ st rs [])(hp:(Ja st).toList.Perm J.toList)(z:rs.length<=N)
  (q:∀f,pi f=Aa->(Ja f).toList.Perm J.toList->Fe ρ (Ja f).toList->Q () f):wpS (Ia prog w) A E s (tu N) Q st:=by
 have F:∀(rs:List (List Ka)) (st2:La),Base2 κ S st2->Ef ρ st2 rs []->(Ja st2).toList.Perm J.toList->rs.length<=1->Q () st2:=λrs st2 y r2 j z=>by
  refine q st2 y.f j ?_;rw[r2.ar,xi]
  match rs,z,r2.ok with
  |[],_,_=>exact Cw
  |[r],_,ok=>simp_all
 unfold tu;refine Rb (fh (I:=λx c st2=>c=(Aa,())/\∃rs,Base2 κ S st2/\Ef ρ st2 rs []/\(Ja st2).toList.Perm J.toList/\rs.length+x<=N) ?_ ?_ ⟨rfl,rs,Y,hr,hp,z⟩)
 ·rintro x c st2 _ hx ⟨rfl,rs,y,r2,j,z⟩;unfold Bz;refine Rb (se ?_);have hz:=r2.size;by_cases e:(ud st2).size<=1
  ·rw[if_pos e];exact Ub (Ub (F rs st2 y r2 j (by lia)))
  ·rw[if_neg e];have li:=lX (P:=ud st2) (by lia)
   refine Rb (kI Z y r2 li λO xa R r3 _ l3 p3=>?_);exact Ub ⟨rfl,O,R,r3,p3.trans j,by lia⟩
 ·rintro c st2 ⟨rfl,rs,y,r2,j,z⟩;exact Ub (F rs st2 y r2 j (by lia))
def yH  (ak:AskK prog w A s κ S ρ){Z:Array Ka}{Q:ForInStep On->La->Prop}(hb:Base2 κ S st)(hr:Ef ρ st rs (r++f))(hp:(Ja st).toList.Perm Z.toList)(y:rs.flatten.length=l)(hn:r.length=n)(n0:r≠[])(o:Fe ρ r)(R:rs.length<=l)
  (q:∀J Y,Base2 κ S Y->Ef ρ Y J f->J.flatten.length=l+n->(Ja Y).toList.Perm Z.toList->J.length<=l+1->Q (.yield (Aa,l+n)) Y):wpS (Ia prog w) A E s (innL N l n) Q st:=by
 have xa:∀(rs:List (List Ka)) (st2:La),Base2 κ S st2->Ef ρ st2 rs (r++f)->(Ja st2).toList.Perm Z.toList->rs.flatten.length=l->rs.length<=l->wpS (Ia prog w) A E s (innJ l n) Q st2:=λrs st2 j r2 O y R=>by
  unfold innJ;refine Rb (Xo (Ub ?_));have:=r2.push y n0 o 0;rw[hn]at this;exact q (rs++[r]) _ ⟨j.k,j.f,j.S⟩ this (by simp[y,hn]) O (by simp;lia)
 unfold innL;refine Rb (se ?_);cases(ud st).back? with
 |none=>grind
 |some z=>
  obtain⟨a,b,d⟩:=z;dsimp only;generalize power' N (2*a+b) (2*a+b+b+n) N=v;unfold innM;have F:∀(rs:List (List Ka)) (st2:La),Base2 κ S st2->Ef ρ st2 rs (r++f)->(Ja st2).toList.Perm Z.toList->rs.flatten.length=l->rs.length<=l->wpS (Ia prog w) A E s (do
    modify λs=>vn s ((ud s).modify ((ud s).size-1) λx=>match x with|(a,b,_)=>(a,b,v))
    innJ l n) Q st2:=λrs st2 j r2 O y R=>Rb (Xo (xa rs _ ⟨j.k,j.f,j.S⟩ (r2.pow _ v) O y R))
  refine Rb (fh (I:=λx c st2=>c=(Aa,())/\∃rs,Base2 κ S st2/\Ef ρ st2 rs (r++f)/\(Ja st2).toList.Perm Z.toList/\rs.flatten.length=l/\rs.length<=l) ?_ ?_ ⟨rfl,rs,hb,hr,hp,y,R⟩)
  ·rintro x c st2 _ hx ⟨rfl,rs,j,r2,O,y,R⟩;unfold innB;refine Rb (se ?_);cases ei:innI (ud st2)with
   |none=>exact Ub (F rs st2 j r2 O y R)
   |some z=>
    obtain⟨a,b,o⟩:=z;dsimp only;have z1:(ud st2).size>1:=by
     unfold innI at ei
     lia
    split
    ·exact Ub (F rs st2 j r2 O y R)
    ·refine Rb (kI ak j r2 (i:=(ud st2).size-2) (by lia) λJ za b3 r3 l2 l3 p3=>?_)
     exact Ub ⟨rfl,J,b3,r3,p3.trans O,by lia,by lia⟩
  ·rintro c st2 ⟨rfl,rs,j,r2,O,y,R⟩;exact F rs st2 j r2 O y R
def wX  (ak:AskK prog w A s κ S ρ)(hb:Base2 κ S st)(h0:ud st=#[]){Q:Unit->La->Prop}
  (q:∀F,pi F=Aa->(Ja F).toList.Perm (Ja st).toList->Fe ρ (Ja F).toList->Q () F):wpS (Ia prog w) A E s sortRuns' Q st:=by
 rw[S0];refine Rb (se ?_);have xa:∀l j rest (st1:La),Base2 κ S st1->Ef ρ st1 j rest->j.flatten.length=l->(Ja st1).toList.Perm (Ja st).toList->l=(Ja st).size->j.length<=l->wpS (Ia prog w) A E s (tu (Ja st).size) Q st1:=λl j rest st1 R r1 O J h2 Z=>by
  have:rest=[]:=by
   have z:j.flatten.length+rest.length=(Ja st).size:=by rw[<- bg,<- r1.ar,J.length_eq,cg]
   simp_all
  subst this;exact yZ ak R r1 J (by lia) q
 refine Rb (fh (I:=λx c st1=>∃l j rest,c=(Aa,l)/\Base2 κ S st1/\Ef ρ st1 j rest/\j.flatten.length=l/\(Ja st1).toList.Perm (Ja st).toList/\x<=l/\l<=(Ja st).size/\j.length<=l) ?_ ?_ ⟨0,[],(Ja st).toList,rfl,hb,⟨rfl,by rw[h0];rfl,λ_ h=>(nomatch h)⟩,rfl,.refl _,Mb _,Mf _,Mb _⟩)
 ·rintro x c st1 _ hx ⟨l,j,rest,rfl,R,r1,O,J,h1,h2,Z⟩;have zN:(Ja st1).size=(Ja st).size:=by rw[<- cg,<- cg];exact J.length_eq
  unfold runB;dsimp only;by_cases e:l ≥ (Ja st).size
  ·rw[if_pos e];exact Ub (xa l j rest st1 R r1 O J (by lia) Z)
  ·rw[if_neg e];refine Rb (OZ ak R (by lia) (by lia) λm st2 c2 m1 m2 u2=>?_)
   have z2:=c2.size;have b2:=c2.base R;have p2:=(Ld.mp c2.pm).trans J;have go:∀(n:Nat) (y:La),Ch l st1 y->1<=n->n<=(Ja st).size-l->kh ρ (Ja y) l (l+n)->∃r f,Ef ρ y j (r++f)/\r.length=n/\Fe ρ r/\r≠[]:=λn y c3 n1 n2 u3=>by
    obtain⟨r,f,g1,g2,g3⟩:=r1.ch c3 O (n:=n) (by lia) u3
    grind
   dsimp only;by_cases em:m<minRun' (Ja st).size (Ja st).size 0
   ·rw[if_pos em];refine Rb (jn (ci ⟨rfl,?_⟩));generalize minRun' (Ja st).size (Ja st).size 0=mr at em;refine Rb (vX ak b2 m1 (by lia) (by lia) u2 λy c3 u3=>?_)
    obtain⟨r,f,g1,g2,g3,g4⟩:=go _ y (c2.trans c3) (by lia) (by lia) u3
    exact yH ak (c3.base b2) g1 ((Ld.mp c3.pm).trans p2) O g2 g4 g3 Z λY za b4 r4 l4 p4 l5=>⟨_,Y,f,rfl,b4,r4,l4,p4,by lia,by lia,by lia⟩
   ·rw[if_neg em];obtain⟨r,f,g1,g2,g3,g4⟩:=go _ st2 c2 m1 m2 u2;exact yH ak b2 g1 p2 O g2 g4 g3 Z λY za b4 r4 l4 p4 l5=>⟨_,Y,f,rfl,b4,r4,l4,p4,by lia,by lia,by lia⟩
 ·rintro c st1 ⟨l,j,rest,rfl,R,r1,O,J,h1,h2,Z⟩;exact xa l j rest st1 R r1 O J (by lia) Z
end
noncomputable def Og  : Nat:=1000000
section
variable {prog:Ab}{w:Za}{A:Nb}{s:Fa}
open Classical in
noncomputable def fj (vs:List Da)(v:Da):Nat:=if h:∃i,vs[i]?=ma v then Mw h else 0
def su   (f:vs.Nodup)(h:vs[i]?=ma v):fj vs v=i:=by
 have e:∃i,vs[i]?=ma v:=⟨i,h⟩;unfold fj;rw[dif_pos e];have g:=VC e;obtain⟨j,q1⟩:=Ba.mp g;obtain⟨q,q2⟩:=Ba.mp h;have f:=Xa.mp f;rcases pL (Mw e) i with z|z|z
 ·exact absurd (q1.trans q2.symm) (f _ _ j q z)
 ·exact z
 ·exact absurd (q2.trans q1.symm) (f _ _ q j z)
noncomputable def jo  (n:Nat)(lt:Nat->Nat->Bool)(i:Nat):Int:=(((Md n).filter λj=>lt j i).length:Int)
def cq  (vs:List Da)(lt:Nat->Nat->Bool)(v:Da):Int:=jo vs.length lt (fj vs v)
def Dz     (a:Asks n lt cmp s)(hi:i<n)(O:j<n)(h:lt i j=ua):jo n lt i<jo n lt j:=by
 unfold jo;refine Int.ofNat_lt.mpr ?_;have I:∀(l:List Nat),(∀k∈l,k<n)->(l.filter λk=>lt k i).length<=(l.filter λk=>lt k j).length/\(i∈l->(l.filter λk=>lt k i).length<(l.filter λk=>lt k j).length):=λl=>by
  induction l with
  |nil=>simp_all
  |cons k l y=>
   intro hk;obtain⟨q,R⟩:=y λz J=>hk z (Jd _ J);have F:=hk k Re;by_cases c:lt k i=ua
   ·have c2:lt k j=ua:=a.tr k i j F hi O c h;rw[Os (p:=λk=>lt k i) c,Os (p:=λk=>lt k j) c2];refine⟨Iw q,λf=>?_⟩;rcases Sc.mp f with rfl|f
    ·rw[a.ir _ hi]at c;cases c
    simp_all
   ·rw[cx (p:=λk=>lt k i) c];by_cases c2:lt k j=ua
    ·rw[Os (p:=λk=>lt k j) c2];exact⟨Nat.le_succ_of_le q,λ_=>Nat.lt_succ_of_le q⟩
    ·rw[cx (p:=λk=>lt k j) c2];refine⟨q,λf=>?_⟩;rcases Sc.mp f with rfl|f
     ·exact absurd h c2
     ·exact R f
 simp_all
def XX     (I:vs.Nodup)(a:Asks vs.length lt (tf prog w A κ vs) s) :
  AskK prog w A s κ (λx=>∃i:Nat,vs[i]?=ma x.1) (λx=>cq vs lt x.1):=by
 intro x y Q E ⟨i,hi⟩ ⟨j,hj⟩ h;have f:=(Ba.mp hi).1;have F:=(Ba.mp hj).1;have e:decide (cq vs lt x.1<cq vs lt y.1)=lt i j:=by
  unfold cq;rw[su I hi,su I hj];cases c:lt i j with
  |true=>exact decide_eq_true (Dz a f F c)
  |false=>
   refine decide_eq_false λz=>?_;by_cases q:i=j
   ·lia
   ·rcases a.tot i j f F q with t|t
    ·lia
    ·have:=Dz a F f t;lia
 have g:=a.ask i j Q f F (by lia)
 unfold tf at g;rw[Yk,Yk,hi,hj]at g;exact Xf g (λ_ _ h=>h) λ_ _ h=>h.elim
def AW  {vs:List Da}(a:Asks vs.length lt cmp s)(hi:i<vs.length)(q:j<vs.length)(h:jo vs.length lt i<=jo vs.length lt j)(f:i≠j):lt i j=ua:=by
 rcases a.tot i j hi q f with t|t
 ·exact t
 ·have:=Dz a q hi t;lia
end

def nZ      (hu:A.units<Ec)(ga:Zp s.heap a xs)(I:Zp s.heap b ys)(hi:Eb xs.toList ns)(R:Eb ys.toList y)(h:Q (HT.lexLt ns y) s) :
  wpAny (Ia prog w) A (oneLt' ua (.ref a) (.ref b)) Q E s:=by
 obtain⟨⟨c1,d1,J,q⟩,Y,j,F,q1,r1⟩:=ga;obtain⟨⟨c2,d2,Z,f⟩,n2,O,z,q2,r2⟩:=I;simp only at F q1 r1 z q2 r2;subst F q1 r1 z q2 r2;rw[oneLt'_eq];simp only[if_true];refine Ua (wpAny_cRoomFor hu (Ua (wpAny_callSpecialIfBound?_slot ⟨_,j,rfl⟩ tM (Zh tM ⟨_,j,rfl⟩ PySem.F.entry_list_lt (PySem.F.args_list_lt_2 _ _) (OU a b xs ys Y n2 Aa Aa q f ns y hi R) ⟨j,O,?_⟩))));exact Ip h
def nR     [Decidable c]{g:α->Sem F}{Q:y->Fa->Prop} mid (q:c->wpAny M A m (λa s1=>wpAny M A (g a) mid E s1) E s)(z:¬c->wpAny M A n (λa s1=>wpAny M A (g a) mid E s1) E s)(j:∀b s2,mid b s2->wpAny M A (f b) Q E s2) :
  wpAny M A (if c then m >>= λa=>g a >>= f else n >>= λa=>g a >>= f) Q E s:=by
 have I:∀{m:Sem α},wpAny M A m (λa s1=>wpAny M A (g a) mid E s1) E s->wpAny M A (m >>= λa=>g a >>= f) Q E s:=λh=>Ua (Wb h λa s1 h=>Ua (Wb h j))
 grind
def dJ       (ho:s.heap.get? a=ma (Be "list" vs.toArray n))(ka:vs.length<Og)(nd:vs.Nodup) lt 
  (hk:∀h' ,(∀b o,b≠a->s.heap.get? b=ma o->h'.get? b=ma o)->2<=vs.length->∀R ,R κ { s with heap:=h' }->wpAny (Ia prog w) A (keyKind' vs.toArray) R E { s with heap:=h' })
  (as:∀h' ,(∀b o,b≠a->s.heap.get? b=ma o->h'.get? b=ma o)->Asks vs.length lt (tf prog w A κ vs) { s with heap:=h' })
  (q:∀j:List Nat,j.Perm (Md vs.length)->(∀i,i+1<vs.length->lt (j.getD i 0) (j.getD (i+1) 0)=ua)->P (.done (.ret .none)) { s with heap:=Rp s.heap a vs (LB (j.map λi=>vs.getD i ke)) }) :
  wpAny (Ia prog w) A (Bb.«list.sort» ⟨[.ref a],[]⟩) P E s:=by
 rw[list_sort_plain];have hz:vs.toArray.size=vs.length:=by simp
 have big:vs.length<=Fb:=by rw[Oi];unfold Og at ka;lia
 have va:=get?_update_seq ho λ_=>(#[]:Array Da);generalize O:s.heap.update a (si λ_=>(#[]:Array Da))=h1 at va;obtain⟨Z,ja⟩:∃Z,h1.get? a=ma (Be "list" #[] Z):=⟨_,va⟩;refine Ua (listItems_at ho rfl (Ua (listUpdate_at ho rfl ?_ (hz ▸ big) (Mf _))));rw[O];refine Ua (seqEpoch_at ja rfl (Ua (wpAny_newTuple (Ua (zw (Hh ?_) (Mf _))) big)));obtain⟨y,F⟩:∃y,y=(h1.push (Be "tuple" vs.toArray 0)).push (Be "list" #[] 0):=⟨_,rfl⟩;refine(?_:wpAny (Ia prog w) A _ P E { s with heap:=(h1.push (Be "tuple" vs.toArray 0)).push (Be "list" #[] 0) })
 have kp:∀b o,b≠a->s.heap.get? b=ma o->y.get? b=ma o:=λb o hb e=>by
  rw[F];exact Dc _ (Dc _ (by rw[<- O,PL _ _ _ _ hb];exact e))
 have za:y.get? a=ma (Be "list" #[] Z):=by rw[F];exact Dc _ (Dc _ ja)
 have ha:∀xa:Array Da,Rp s.heap a vs xa=y.update a (si λ_=>xa):=λxa=>by rw[F,<- O];rfl
 rw[<- F];dsimp only;refine nR (λ(r:PUnit×La) s'=>s'={ s with heap:=y }/\∃j:List Nat,j.Perm (Md vs.length)/\(∀i,i+1<vs.length->lt (j.getD i 0) (j.getD (i+1) 0)=ua)/\(Ja r.2).map (·.2)=LB (j.map λi=>vs.getD i ke)/\pi r.2=Aa) (λh2=>?_) (λh2=>?_) ?_
 rotate_right
 ·rintro⟨⟨⟩,st⟩ s' ⟨rfl,j,Y,hs,J,hf⟩;refine Ua (seqEpoch_at za rfl (Ua (listUpdate_at za rfl ?_ (Mf _) (by rw[J,Od,Hb,Y.length_eq,ql];lia))))
  dsimp only;rw[hf,bne_self_eq_false];refine Kb ?_;rw[J,<- ha];exact q j Y hs
 ·rw[if_pos h2];refine Kb (Kb ⟨rfl,Md vs.length,.refl _,λi f=>by lia,?_,rfl⟩)
  refine(?_:(vs.toArray.zip vs.toArray).map (·.2)=_);apply Array.toList_inj.mp;refine Fp (by simp) λi g1 g2=>?_
  have f:i<vs.length:=by simpa using g1
  simp[Ee,f]
 ·rw[if_neg h2];rw[hz]at h2;refine hk y kp (Mc.mp h2) _ ?_;have ak:=XX nd (as y kp);have el:∀x∈(vs.toArray.zip vs.toArray).toList,∃i,vs[i]?=ma x.1/\x.2=x.1:=λx hx=>by
   obtain⟨i,f⟩:=zl hx;rw[Array.toList_zip,yC,mC]at f;exact⟨i,f.1,(Hd (f.1.symm.trans f.2)).symm⟩
  refine Xf (wX (s:={ s with heap:=y }) (st:=La.mk' κ (vs.toArray.zip vs.toArray) #[] 7 Aa) (E:=E) (Q:=λ_ I=>pi I=Aa/\(Ja I).toList.Perm (vs.toArray.zip vs.toArray).toList/\Fe (λx=>cq vs lt x.1) (Ja I).toList) ak ⟨rfl,rfl,λx hx=>(el x hx).imp λ_ h=>h.1⟩ rfl λI g1 g2 g3=>⟨g1,g2,g3⟩) ?_ λ_ _ e=>e
  rintro⟨⟨⟩,st⟩ s' ⟨rfl,hf,pm,wa⟩;have iz:(vs.toArray.zip vs.toArray).toList.map (λx=>fj vs x.1)=Md vs.length:=by
   refine Fp (by simp) λi g1 g2=>?_
   have f:i<vs.length:=by simp_all
   have:fj vs vs[i]=i:=su nd (Cc f)
   simp_all
  have Y:((Ja st).toList.map λx=>fj vs x.1).Perm (Md vs.length):=by grind
  have gl:(Ja st).toList.length=vs.length:=by have:=Y.length_eq;simp_all
  refine⟨rfl,(Ja st).toList.map λx=>fj vs x.1,Y,λi f=>?_,?_,hf⟩
  ·have Z:=Cc (show i<(Ja st).toList.length by lia)
   have e2:=Cc (show i+1<(Ja st).toList.length by lia)
   have le:=Ii wa (qp i) Z e2;rw[Yk,Yk,md,md,Z,e2];have bd:∀{i:Nat} {x:Ka},(Ja st).toList[i]?=ma x->fj vs x.1<vs.length:=λhx=>Db.mp (Y.mem_iff.mp (Uc.mpr ⟨_,Vc hx,rfl⟩));refine AW (as y kp) (bd Z) (bd e2) le λz=>?_;have ya:((Ja st).toList.map λx=>fj vs x.1).Nodup:=Y.nodup_iff.mpr List.nodup_range;have:=Xa.mp ya i (i+1) (by grind) (by simp_all) (by lia)
   rw[Gr,Gr]at this;exact this z
  ·apply Array.toList_inj.mp;rw[Array.toList_map,yC,dg];refine Wr λx hx=>?_;obtain⟨i,f,e⟩:=el x (pm.mem_iff.mp hx);show x.2=vs.getD (fj vs x.1) ke;rw[su nd f,Yk,f,e];rfl

theorem yz  : ∀a ,HT.lexLt a a=Ca
 |[]=>rfl
 |x::a=>by rw[HT.lexLt_cons,if_pos rfl];exact yz a
theorem uu  : ∀a b c ,HT.lexLt a b=ua->HT.lexLt b c=ua->HT.lexLt a c=ua
 |[],[],_,h,_=>by cases h
 |[],_::_,[],_,h=>by rw[HT.lexLt_cons_nil]at h;cases h
 |[],_::_,_::_,_,_=>rfl
 |_::_,[],_,h,_=>by rw[HT.lexLt_cons_nil]at h;cases h
 |_::_,_::_,[],_,h=>by rw[HT.lexLt_cons_nil]at h;cases h
 |x::a,y::b,z::c,h1,h2=>by
  rw[HT.lexLt_cons]at h1 h2 ⊢;by_cases j:x=y
  ·rw[if_pos j]at h1;by_cases f:y=z
   ·rw[if_pos f]at h2;rw[if_pos (j.trans f)];exact uu a b c h1 h2
   lia
  ·rw[if_neg j]at h1;by_cases f:y=z
   ·rw[if_pos f]at h2;rw[if_neg (λq=>j (q.trans f.symm)),<- f];exact h1
   ·rw[if_neg f]at h2;have F:=of_decide_eq_true h1;have I:=of_decide_eq_true h2;rw[if_neg (by lia)];exact decide_eq_true (by lia)
theorem oF  : ∀a b ,a≠b->HT.lexLt a b=ua\/HT.lexLt b a=ua
 |[],[],h=>absurd rfl h
 |[],_::_,_=>.inl rfl
 |_::_,[],_=>.inr rfl
 |x::a,y::b,h=>by
  rw[HT.lexLt_cons,HT.lexLt_cons];by_cases e:x=y
  ·rw[if_pos e,if_pos e.symm];exact oF a b λz=>h (by rw[e,z])
  lia
def KeyL  (K:Sb)(H:Hp)(v:V)(k:List Int):Prop:=∃t,v=.ref t/\re K H t (k.map V.int)
def nX         (F:Vals (k.map V.int) q)(j:Vals (k'.map V.int) z) i (h:Q (HT.lexLt k k') s):KatLex prog w A ua (decide (q.toArray.size<z.toArray.size)) Q (q.toArray.toList.zip z.toArray.toList) i s:=by
 have O:∀(k:List Int) {k':List Int} {q z:List Da} (f:Bool),Vals (k.map V.int) q->Vals (k'.map V.int) z->f=decide (q.length<z.length)->∀(i:Nat),Q (HT.lexLt k k') s->KatLex prog w A ua f Q (q.zip z) i s:=λk=>by
  induction k with
  |nil=>
   intro k' q z f F j I i h;cases F;subst I;cases k' with
   |nil=>cases j;exact kat_nil (by rw[HT.lexLt_nil_nil]at h;lia)
   |cons y k'=>
    cases j with
    |cons b j=>
     refine kat_nil ?_;rw[show HT.lexLt [] (y::k')=ua from rfl]at h;simpa using h
  |cons x k J=>
   intro k' q z f F j I i h;cases F with
   |cons a F=>
    cases k' with
    |nil=>cases j;subst I;exact kat_nil (by rw[HT.lexLt_cons_nil]at h;simpa using h)
    |cons y k'=>
     cases j with
     |cons b j=>
      obtain⟨t,rfl⟩:=a;obtain⟨u,rfl⟩:=b;rw[HT.lexLt_cons]at h;refine kat_cons (wpAny_eqBool_int ?_);refine kat_go (λe=>kat_yes ?_) λe=>kat_no ?_
      ·have e:x=y:=by lia
       rw[if_pos e]at h;exact J f F j (by rw[I];simp) (i+1) h
      ·have e:¬x=y:=by lia
       rw[if_neg e]at h;cases i with
       |zero=>exact Ex h
       |succ i=>
        rw[show(ua&&(i+1==0))=Ca by simp]
        exact kat_one _ _ (wpAny_lt_int h)
 grind

def FR  (X:Cx)(xs:List V)(H:Hp)(Q:VK):Prop:=∃(p:Ea) (vs:List V) (ks:List (List Int)),xs=[.ref p]/\re X.K H p vs/\vs.length=ks.length/\ks.Nodup/\vs.length<Og/\
 ((∀(i:Nat) v k,vs[i]?=ma v->ks[i]?=ma k->KeyI H v k)\/(∀(i:Nat) v k,vs[i]?=ma v->ks[i]?=ma k->KeyL X.K H v k)\/∀(i:Nat) v k,vs[i]?=ma v->ks[i]?=ma k->KeyT X.K H v k/\k≠[])/\
 ∀(l:Ea) (π:List Nat),H l=Aa->π.Perm (Md vs.length)->(∀i,i+1<vs.length->HT.lexLt (ks.getD (π.getD i 0) []) (ks.getD (π.getD (i+1) 0) [])=ua)->Q (.ref l) (upd H l (.lst (π.map λi=>vs.getD i .non)))
def yu  {y:Type}{l:List y}(h:l.Nodup) hi (q:j<l.length)(f:i≠j):l[i]≠l[j]:=by
 have h:=Xa.mp h;rcases Nat.lt_or_gt_of_ne f with z|z
 ·exact h i j hi q z
 ·exact λe=>h j i q hi z e.symm
def XZ  (hc:X.calm=ua)(hu:X.A.units+2<Ec):Vf X (.builtin "sorted") (FR X):=by
 intro jc s σ H xs us Q I r h;obtain⟨p,vs,ks,rfl,hq,hl,wa,zc,hk,q⟩:=h;obtain⟨u,rfl,rx⟩:=Eh r;cases rx;obtain⟨F,rv,pl,hz⟩:=I.list hq;have il:=rv.length;have hL:=pl.isList;have xa:∀{i:Nat} {u:Da},F[i]?=ma u->∃v k,vs[i]?=ma v/\ks[i]?=ma k/\RelV v u:=λ{i u} e=>by
  obtain⟨v,ev,r1⟩:=uH rv e;have:i<ks.length:=by grind
  simp_all
 have nd:F.Nodup:=by
  refine Xa.mpr λi j Y hj kc e=>?_;obtain⟨x,k,ex,ek,r1⟩:=xa (Cc Y);obtain⟨y,k',ey,O,r2⟩:=xa (Cc hj);have xb:k≠k':=λz=>by
   obtain⟨Z,q1⟩:=Ba.mp ek;obtain⟨h2,q2⟩:=Ba.mp O;exact yu wa Z h2 (by lia) (by lia)
  rcases hk with hk|hk|hk
  ·obtain⟨z,rfl,e1⟩:=hk i x k ex ek;obtain⟨z',rfl,e2⟩:=hk j y k' ey O;obtain⟨t1,g1⟩:=r1;obtain⟨t2,g2⟩:=r2
   lia
  ·obtain⟨a,rfl,ha⟩:=hk i x k ex ek;obtain⟨b,rfl,hb⟩:=hk j y k' ey O;have g1:F[i]=.ref a:=r1;have g2:F[j]=.ref b:=r2;rw[g1,g2]at e;injection e with e3
   subst e3;exact xb (eM (λ_ _ h=>by lia) |>.mp (I.list_inj ha hb))
  ·obtain⟨⟨a,rfl,ha⟩,_⟩:=hk i x k ex ek;obtain⟨⟨b,rfl,hb⟩,_⟩:=hk j y k' ey O;have g1:F[i]=.ref a:=r1;have g2:F[j]=.ref b:=r2;rw[g1,g2]at e;injection e with e3
   subst e3;exact xb (eM (λ_ _ h=>by lia) |>.mp (I.tuple_inj ha hb))
 have big:F.length<=Fb:=by lia
 refine fB (collect_list hL (zw ?_ big) big);obtain⟨Z,ya⟩:∃Z,Z=(s.heap.push (Be "list" #[] 0)).update s.heap.objs.size (si (·++F.toArray)):=⟨_,rfl⟩;rw[<- ya];have k1:∀b o,s.heap.get? b=ma o->Z.get? b=ma o:=λb o e=>by
  rw[ya,PL _ _ _ _ (Sd (Jc e))];exact Dc _ e
 have zb:s.heap.objs.size<=Z.objs.size:=by simp_all
 have ja:(Z.push { cls:=.type "list",data:=.seq F.toArray }).get? Z.objs.size=ma (Be "list" F.toArray 0):=Wd _ rfl;have up:∀(J:Cb),(∀b o,b≠Z.objs.size->(Z.push { cls:=.type "list",data:=.seq F.toArray }).get? b=ma o->J.get? b=ma o)->∀b o,s.heap.get? b=ma o->J.get? b=ma o:=λJ k b o e=>
  k b o (Sd (Jc (k1 b o e))) (Dc _ (k1 b o e))
 obtain⟨κ,za,vb⟩:∃κ:Pk,(∀J:Cb,(∀b o,s.heap.get? b=ma o->J.get? b=ma o)->2<=F.length->∀(R:Pk->Fa->Prop) (E:Da->Fa->Prop),R κ { s with heap:=J }->wpAny (Ia X.prog X.w) X.A.in1.in1 (keyKind' F.toArray) R E { s with heap:=J })/\
   ∀(J:Cb),(∀b o,s.heap.get? b=ma o->J.get? b=ma o)->∀(i j:Nat) (C:Bool->Fa->Prop),i<F.length->j<F.length->C (HT.lexLt (ks.getD i []) (ks.getD j [])) { s with heap:=J }->tf X.prog X.w X.A.in1.in1 κ F i j C { s with heap:=J }:=by
  have va:∀{i j:Nat} {C:Bool->Fa->Prop} {J:Cb},∀(Y:i<F.length) (hj:j<F.length),C (HT.lexLt (ks.getD i []) (ks.getD j [])) { s with heap:=J }->∃x k y k',vs[i]?=ma x/\ks[i]?=ma k/\RelV x (F.getD i ke)/\vs[j]?=ma y/\ks[j]?=ma k'/\RelV y (F.getD j ke)/\C (HT.lexLt k k') { s with heap:=J }:=λ{i j C J} Y hj hC=>by
   have ei:F.getD i ke=F[i]:=by grind
   have ej:F.getD j ke=F[j]:=by grind
   obtain⟨x,k,ex,ek,rx⟩:=xa (Cc Y);obtain⟨y,k',ey,O,ry⟩:=xa (Cc hj);have di:ks.getD i []=k:=by grind
   have dj:ks.getD j []=k':=by rw[Yk,O];rfl
   rw[di,dj]at hC;exact⟨x,k,y,k',ex,ek,by rw[ei];exact rx,ey,O,by rw[ej];exact ry,hC⟩
  rcases hk with hk|hk|hk
  ·refine⟨oneType',λJ up h2 R E hR=>kas_kind (M:=Ia X.prog X.w) (s:={ s with heap:=J }) (T:=.type "int") (by lia) (λv hv=>?_) (by decide) (by decide) hR,λJ up i j C Y hj hC=>?_⟩
   ·obtain⟨i,Y,rfl⟩:=Jg hv;obtain⟨x,k,ex,ek,r1⟩:=xa (Cc Y);obtain⟨z,rfl,_⟩:=hk i x k ex ek;obtain⟨t,e⟩:=r1;rw[e];exact iC rfl
   ·obtain⟨x,k,y,k',ex,ek,rx,ey,O,ry,hC⟩:=va Y hj hC;unfold tf;rw[FB];obtain⟨z,rfl,e1⟩:=hk i x k ex ek;obtain⟨z',rfl,e2⟩:=hk j y k' ey O;obtain⟨t1,g1⟩:=rx;obtain⟨t2,g2⟩:=ry;rw[g1,g2];rw[e1,e2]at hC;refine Ex ?_;have e:HT.lexLt [z] [z']=decide (z<z'):=by
     rw[HT.lexLt_cons];split
     ·rename_i q;rw[q,HT.lexLt_nil_nil];simp
     ·rfl
    rw[e]at hC;exact hC
  ·refine⟨oneType',λJ up h2 R E hR=>kas_kind (M:=Ia X.prog X.w) (s:={ s with heap:=J }) (T:=.type "list") (by lia) (λv hv=>?_) (by decide) (by decide) hR,λJ up i j C Y hj hC=>?_⟩
   ·obtain⟨i,Y,rfl⟩:=Jg hv;obtain⟨x,k,ex,ek,r1⟩:=xa (Cc Y);obtain⟨t,rfl,ht⟩:=hk i x k ex ek;obtain⟨js,rj,⟨o,m,eo,ec,_,_⟩,_⟩:=I.list ht;have r1:F[i]=.ref t:=r1;rw[r1];have:Looks (Ia X.prog X.w) J (typeOf (.ref t)) o.cls:=(Looks.ld (up _ _ eo)).andThen .now
    lia
   ·obtain⟨x,k,y,k',ex,ek,rx,ey,O,ry,hC⟩:=va Y hj hC;unfold tf;rw[FB];obtain⟨a,rfl,ha⟩:=hk i x k ex ek;obtain⟨b,rfl,hb⟩:=hk j y k' ey O;obtain⟨ia,ra,pa,_⟩:=I.list ha;obtain⟨ib,rb,pb,_⟩:=I.list hb;have g1:F.getD i ke=.ref a:=rx;have g2:F.getD j ke=.ref b:=ry;rw[g1,g2];have jb:∀{t:Ea} {z:Array Da},Zp s.heap t z->Zp J t z:=λ⟨o,n,e,q1,q2,q3⟩=>⟨o,n,up _ _ e,q1,q2,q3⟩;exact nZ (A:=X.A.in1.in1) (by lia) (jb pa) (jb pb) (Dv (by lia)) (Dv (by lia)) hC
  ·refine⟨tuples' ua,λJ up h2 R E hR=>?_,λJ up i j C Y hj hC=>?_⟩
   ·have go:∀l:List Da,(∀v∈l,v∈F)->∃fs,KatTups J l fs/\fs.length=l.length/\∀f∈fs,Looks (Ia X.prog X.w) J (typeOf f) (.type "int"):=λl=>by
     induction l with
     |nil=>intro _;exact⟨[],.nil,rfl,λ_ h=>(nomatch h)⟩
     |cons v l ih=>
      intro hv;obtain⟨fs,Z,h2,h3⟩:=ih λw hw=>hv w (Jd _ hw);obtain⟨i,Y,rfl⟩:=Jg (hv v Re);obtain⟨x,k,ex,ek,r1⟩:=xa (Cc Y);obtain⟨⟨t,rfl,ht⟩,kn⟩:=hk i x k ex ek;obtain⟨js,rj,⟨o,eo,ec,m,ed⟩,_⟩:=I.tuple ht;have r1:F[i]=.ref t:=r1;rw[r1];cases k with
      |nil=>lia
      |cons z k=>
       cases rj with
       |@cons v' u' _ wc r0 rr=>
        obtain⟨tk,rfl⟩:=r0;exact⟨_::fs,.cons (up _ _ eo) ec ed rfl Z,by grind,λf hf=>by
         rcases Sc.mp hf with rfl|hf
         ·exact iC rfl
         grind⟩
    obtain⟨fs,Z,h3,h4⟩:=go F λ_ h=>h;exact kat_kind (M:=Ia X.prog X.w) (s:={ s with heap:=J }) Z (by lia) h4 (by decide) hR
   ·obtain⟨x,k,y,k',ex,ek,rx,ey,O,ry,hC⟩:=va Y hj hC;unfold tf;obtain⟨⟨a,rfl,ha⟩,_⟩:=hk i x k ex ek;obtain⟨⟨b,rfl,hb⟩,_⟩:=hk j y k' ey O;obtain⟨ia,ra,⟨o1,q1,_,m1,d1⟩,_⟩:=I.tuple ha;obtain⟨ib,rb,⟨o2,q2,_,m2,d2⟩,_⟩:=I.tuple hb;have g1:F.getD i ke=.ref a:=rx;have g2:F.getD j ke=.ref b:=ry;rw[g1,g2];refine kat_lt (s:={ s with heap:=J }) (up _ _ q1) d1 (up _ _ q2) d2 ?_
    exact nX ra rb 0 hC
 refine tj IB ⟨_,ja,rfl⟩ pC (dJ (κ:=κ) (s:={ s with heap:=Z.push { cls:=.type "list",data:=.seq F.toArray } }) ja (by lia) nd (λi j=>HT.lexLt (ks.getD i []) (ks.getD j [])) (λJ kp h2 R hR=>za J (up J kp) h2 R _ hR) (λJ kp=>⟨λi j C Y hj hC=>vb J (up J kp) i j C Y hj hC,λi j k Y hj yc Z h2=>uu _ _ _ Z h2,λi j Y hj yb=>oF _ _ ?_,λi _=>yz _⟩) λπ hp hs=>⟨_,rfl,?_⟩) (DB _)
 ·have xc:i<ks.length:=by lia
  have wb:j<ks.length:=by lia
  have di:ks.getD i []=ks[i]:=by grind
  have dj:ks.getD j []=ks[j]:=by grind
  rw[di,dj];exact yu wa xc wb yb
 ·obtain⟨e,he⟩:=OB (out:=LB (π.map λi=>F.getD i ke)) ja;rw[<- il]at hp hs;have vc:∀i∈π,i<vs.length:=λi Y=>Db.mp (hp.mem_iff.mp Y);refine⟨.ref Z.objs.size,_,I.laid (o:=.lst (π.map λi=>vs.getD i .non)) (λb ob y=>?_) zb ?_,rfl,q _ π (I.hok.fresh zb) hp hs⟩
  ·have hb:=k1 b ob y;have kb:=Jc hb;rw[JB (Sd kb) (by rw[Tp];lia)]
   grind
  ·refine⟨by rw[Hb,hp.length_eq,ql,Oi];unfold Og at zc;lia,π.map λi=>F.getD i ke,e,?_,?_⟩
   ·have:∀l:List Nat,(∀i∈l,i<vs.length)->Vals (l.map λi=>vs.getD i .non) (l.map λi=>F.getD i ke):=λl=>by
     induction l with
     |nil=>intro _;exact .nil
     |cons i l ih=>
      intro ka;have Y:=ka i (by simp)
      have qc:i<F.length:=by lia
      obtain⟨v,ev,r1⟩:=uH rv (Cc qc);refine .cons ?_ (ih λj hj=>ka j (Jd _ hj))
      grind
    grind
   lia
section
variable {X:Cx}
def BZ  (hc:X.calm=ua):Vf X (.type "list") (λxs H Q=>∃(a:Ea) (kvs:List (uc×V)) (ns:List Int),xs=[.ref a]/\H a=ma (.dK kvs)/\kvs.map (·.1)=ns.map (λz=>(.inl z:uc))/\∀l,H l=Aa->Q (.ref l) (upd H l (.lst (ns.map V.int)))):=by
 intro Z s σ H xs us Q I r h;obtain⟨a,kvs,ns,rfl,ha,hk,q⟩:=h;obtain⟨u,rfl,rx⟩:=Eh r;cases rx;obtain⟨hz,hS,F,rv,m⟩:kvs.length<=Fb/\(a==Jf)=Ca/\∃F,KV kvs F/\s.heap.DictOf (He X.prog X.w) a F:=I.hok a _ ha;obtain⟨ep,Y⟩:=m.dictAt;have J:F.map (·.1)=kvs.map (·.1):=bA rv;have R:F.length=ns.length:=by simpa using congrArg mn (J.trans hk)
 have xa:kvs.length=ns.length:=by simpa using congrArg mn hk
 refine kdl_call (A:=X.A) (kdl_dict (knd:=He X.prog X.w) (kvs:=F) (ep:=ep) hS) (I.ok.hd hc) Y (by lia) λh' tk y c' O za f=>?_
 have hl:y.toList.length=ns.length:=by rw[cg,f.1,R]
 have hI:Eb y.toList ns:=aA (J.trans hk) hl λj v e=>f.2 j v (by simp_all)
 refine⟨.ref s.heap.objs.size,_,I.laid (t':=tk) (o:=.lst (ns.map V.int)) (λb o e=>O b o e) (Mb _) ⟨by simp_all,y.toList,c',Hv hI,by simp_all⟩,rfl,q _ (I.hok.fresh (Mb _))⟩
theorem Kk  : ∀r:List Int,Ow (r.map .int)=ua/\ck (r.map .int)=0/\noBs (r.map .int)=ua
 |[]=>⟨rfl,rfl,rfl⟩
 |i::r=>by
  obtain⟨f,j,q⟩:=Kk r;refine⟨?_,?_,?_⟩
  ·show((lr i).canLay0&&Ow (r.map .int))=ua;rw[f];rfl
  ·show max (lr i).depth (ck (r.map .int))=0;rw[j];rfl
  ·show(bj (.int i)&&noBs (r.map .int))=ua;rw[q];rfl
theorem bH  : ∀{l f:List Int},l.map lr=f.map lr->l=f
 |[],[],_=>rfl
 |[],_::_,h=>by cases h
 |_::_,[],h=>by cases h
 |a::l,b::f,h=>by
  have h:=Ar h;rw[lr.inj h.1,bH h.2]
def Xz  (k k':List Int):Je (.list (k.map .int)) (.list (k'.map .int))=decide (k=k'):=by
 by_cases h:k=k'
 ·rw[h,PySem.SeqAt.eqv_refl (.list (k'.map .int)) (Kk k').1];simp
 ·cases e:Je (.list (k.map .int)) (.list (k'.map .int))with
  |false=>simp[h]
  |true=>
   have e:=ub.list.inj (zE (d:=.list (k.map .int)) (e:=.list (k'.map .int)) (Kk k).2.2 (Kk k').2.2 e);exact absurd (bH e) h

def rInD  (X:Cx)(f:Bool):R2:=λx y H Q=>∃(p:Ea) (vs:List V) (d:ub) (ds:List ub),y=.ref p/\(re X.K H p vs\/Qd X.K H p vs)/\DV X.K H x d/\Lg X.K H vs ds/\d.canLay0=ua/\d.depth<=100/\(∀e∈ds,e.canLay0=ua)/\Q (.bl (if f then !(ds.any λe=>Je e d) else ds.any λe=>Je e d)) H
open Classical in
noncomputable def eD (h:Cb)(d:ub)(w:Da):Bool:=decide (∃e f,e.canLay0=ua/\Reads h w e f/\Je e d=ua)
open Classical in
def ZD {h:Cb}{d e:ub}{w:Da}{as:List Ea}(r:Reads h w e as)(c:e.canLay0=ua):eD h d w=Je e d:=by
 unfold eD;cases q:Je e d with
 |true=>grind
 |false=>
  refine decide_eq_false λ⟨y,f,F,z,j⟩=>?_;rw[SeqAt.Reads.unique y e w f as F z r,q]at j;cases j
theorem QF {h:Cb}{d:ub}:∀{us:List Da} {j:List ub} {as:List Ea},ReadsAll h us j as->(∀e∈j,e.canLay0=ua)->us.any (eD h d)=(j.any λe=>Je e d)/\∀w∈us,∃e as,e.canLay0=ua/\Reads h w e as
 |_,_,_,.nil,_=>⟨rfl,λw f=>by simp at f⟩
 |_,_,_,.cons r rs,c=>by
  obtain⟨y,z⟩:=QF (d:=d) rs λe q=>c e (Jd _ q);refine⟨by rw[fk,fk,y,ZD r (c _ Re)],λw f=>?_⟩
  rcases Sc.mp f with rfl|f
  ·exact⟨_,_,c _ Re,r⟩
  ·exact z w f
def Pu   {Z:St}(hu:A.units+100<Ec)(I:Qa X pins Z H s)(z:RelV x u)(hd:DV X.K H x d)(c:d.canLay0=ua)(hp:d.depth<=100)(r:Vals vs f)(F:Lg X.K H vs q)(R:∀e∈q,e.canLay0=ua) :
  (∀w,w∈f->Pg A s w u (eD s.heap d w))/\f.any (eD s.heap d)=q.any λe=>Je e d:=by
 obtain⟨as,ra⟩:=Lg.reads I F r;obtain⟨bs,rb⟩:=DV.reads I hd z;obtain⟨Y,h2⟩:=QF (d:=d) ra R;refine⟨λw O=>?_,Y⟩;obtain⟨e,J,j,y⟩:=h2 w O;rw[ZD y j];exact SeqAt.eqAt_reads _ _ A s _ _ _ _ y rb j c (Ug (uC (Yb (Nat.min_le_right _ _) hp) _) hu)
def DS   (Z:Room k X.A):Oc X (Ke .In) (rInD X Ca):=by
 intro xa s σ H x y v u Q I O ry h;obtain⟨p,vs,d,ds,rfl,j,hd,R,c,hp,Y,q⟩:=h;cases ry;rcases j with j|j
 ·obtain⟨f,r,z,hz⟩:=I.list j;obtain⟨F,J⟩:=Pu (A:=X.A.in1) (by have:=Z.un;lia) I O hd c hp r R Y
  refine rL (eD s.heap d) z.isList (λw hw=>F w (by simp_all)) ⟨.bl _,H,I,rfl,?_⟩
  rw[show f.toArray.any (eD s.heap d)=f.any (eD s.heap d) by simp,J]
  exact q
 ·obtain⟨f,r,z,hz⟩:=I.tuple j;obtain⟨F,J⟩:=Pu (A:=X.A.in1) (by have:=Z.un;lia) I O hd c hp r R Y
  refine WK (eD s.heap d) z (λw hw=>F w (by simp_all)) ⟨.bl _,H,I,rfl,?_⟩
  rw[show f.toArray.any (eD s.heap d)=f.any (eD s.heap d) by simp,J]
  exact q
def EY   (Z:Room k X.A):Oc X (Ke .NotIn) (rInD X ua):=by
 intro xa s σ H x y v u Q I O ry h;obtain⟨p,vs,d,ds,rfl,j,hd,R,c,hp,Y,q⟩:=h;cases ry;rcases j with j|j
 ·obtain⟨f,r,z,hz⟩:=I.list j;obtain⟨F,J⟩:=Pu (A:=X.A.in1) (by have:=Z.un;lia) I O hd c hp r R Y
  refine ZL (eD s.heap d) z.isList (λw hw=>F w (by simp_all)) ⟨.bl _,H,I,rfl,?_⟩
  rw[show f.toArray.any (eD s.heap d)=f.any (eD s.heap d) by simp,J]
  exact q
 ·obtain⟨f,r,z,hz⟩:=I.tuple j;obtain⟨F,J⟩:=Pu (A:=X.A.in1) (by have:=Z.un;lia) I O hd c hp r R Y
  refine BL (eD s.heap d) z (λw hw=>F w (by simp_all)) ⟨.bl _,H,I,rfl,?_⟩
  rw[show f.toArray.any (eD s.heap d)=f.any (eD s.heap d) by simp,J]
  exact q
end

end L2

namespace L2
open PySem PySem.Spec PyProof.Rows




end L2

namespace L2
open PySem PySem.Spec PyProof.Rows PySem.SeqAt PySem.MeetsSeq
def V1   l es (n:Nat) dd sl b u :
  Xg (Bb.«dict.__eq__» ⟨[.ref l,.str b u],[]⟩) (λ_ R s=>s.heap.get? l=ma { cls:=.type "dict",dict:=dd,data:=.dict es n,slots:=sl }/\R (.ok (.ret .notImplemented)) s):=
 .of_wp λf w A R s h=>by obtain⟨y,g,d,z,q⟩:=s;obtain⟨j,h⟩:=h;have I:=F.sub_str_dict;wp_walk using Ma j;exact⟨_,rfl,h⟩
def W1   b u l es (n:Nat) dd sl :
  Xg (Bb.«str.__eq__» ⟨[.str b u,.ref l],[]⟩) (λ_ R s=>s.heap.get? l=ma { cls:=.type "dict",dict:=dd,data:=.dict es n,slots:=sl }/\R (.ok (.ret .notImplemented)) s):=
 .of_wp λj w A R s h=>by obtain⟨y,g,d,z,q⟩:=s;obtain⟨f,h⟩:=h;wp_walk using Ma f,Wv f;exact⟨_,rfl,h⟩

def RZ         b u (j:s.heap.get? l=ma o)(q:o.cls=.type "dict")(hd:o.data=.dict es n)(hu:A.units<Ec):RcAt A s (.ref l) (.str b u) Ca:=λy w E Q h=>by
 obtain⟨O,z,J,I⟩:=o;simp only at q hd;subst q hd;exact rc_eq_decline_or (k:=Ca) ⟨_,j,rfl⟩ (jr s b u) (by decide) F.sub_str_dict F.slot_dict_eq F.slot_str_eq_refl
  (λ_ f=>Zh F.slot_dict_eq ⟨_,j,rfl⟩ F.entry_dict_eq (F.args_dict_eq_2 _ _) (V1 l es n z I b u) ⟨j,f⟩)
  (λ_ f=>Zh F.slot_str_eq_refl (jr s b u) F.entry_str_eq (F.args_str_eq_2 _ _) (W1 b u l es n z I) ⟨j,f⟩)
  (λ_ f=>Il (rfl:isSame (.ref l) (.str b u)=pure Ca) f) (.inr hu) h
def VX  : R2:=λx y H Q=>∃a z f,x=.ref a/\y=.str z/\H a=ma (.dK f)/\Q (.bl Ca) H
def N1   (O:Room k X.A):Oc X (Ke .Eq) VX:=by
 intro F s σ H x y v u Q I J ry h;obtain⟨a,z,f,rfl,rfl,Y,q⟩:=h;cases J;obtain⟨t,rfl⟩:=ry;obtain⟨_,_,j,_,o,es,ep,R,Z,hd,_⟩:f.length<=Fb/\(a==Jf)=Ca/\∃j,KV f j/\s.heap.DictOf (He X.prog X.w) a j:=I.hok a _ Y;exact RZ z t R Z.1 hd (by have:=O.un;lia) X.prog X.w X.xe _ ⟨.bl Ca,H,I,rfl,q⟩
def rSlS  : V->Option Int->Option Int->Hp->VK->Prop:=λx f j H Q=>∃z,x=.str z/\z.length<=Fb/\Q (.str (Vv z f j)) H

def FT  : gi X rSlS:=by
 intro y s σ H x v vl vu lo hi sl Q I rx hs pl pu h;obtain⟨z,rfl,R,q⟩:=h;obtain⟨t,rfl⟩:=rx;refine⟨"str",_,F.slot_str_getitem.lookup,jr _ _ _,?_⟩;obtain⟨o,O,J,hd⟩:=hs;have f:∀Z k,EP X y σ Q (.str (Vv z lo hi) Z) { s with toks:=k }:=λZ k=>⟨.str _,H,I.tok _,⟨_,rfl⟩,q⟩
 cases pl with
 |none=>
  cases pu with
  |none=>exact Ww (l:=Aa) (u:=Aa) (st:=Aa) ⟨o,O,J,hd⟩ rfl (cw ⟨Yb (uw z _ _) R,f⟩)
  |int j Y=>exact Ww (l:=Aa) (u:=ma (j,Y)) (st:=Aa) ⟨o,O,J,hd⟩ rfl (cw ⟨Yb (uw z _ _) R,f⟩)
 |int i ui=>
  cases pu with
  |none=>exact Ww (l:=ma (i,ui)) (u:=Aa) (st:=Aa) ⟨o,O,J,hd⟩ rfl (cw ⟨Yb (uw z _ _) R,f⟩)
  |int j Y=>exact Ww (l:=ma (i,ui)) (u:=ma (j,Y)) (st:=Aa) ⟨o,O,J,hd⟩ rfl (cw ⟨Yb (uw z _ _) R,f⟩)
def cV  : Oc X (rf .Add) (λx y H Q=>∃b j,x=.bl b/\y=.int j/\Q (.int ((if b=ua then (1:Int) else 0)+j)) H):=by
 intro f s J H x y v u Q I z F h;obtain⟨b,j,rfl,rfl,q⟩:=h;cases z;obtain⟨t,rfl⟩:=F;exact PySem.IntBool.add_bool_int ⟨.int _,H,I.tok _,⟨_,rfl⟩,q⟩
def jV  : Oc X (rf .Sub) (λx y H Q=>(∃b j,x=.bl b/\y=.int j/\Q (.int ((if b=ua then (1:Int) else 0)-j)) H)\/∃i b,x=.int i/\y=.bl b/\Q (.int (i-if b=ua then (1:Int) else 0)) H):=by
 intro z s J H x y v u Q I f F h;rcases h with⟨b,j,rfl,rfl,q⟩|⟨i,b,rfl,rfl,q⟩
 ·cases f;obtain⟨t,rfl⟩:=F;exact PySem.IntBool.sub_bool_int ⟨.int _,H,I.tok _,⟨_,rfl⟩,q⟩
 ·cases F;obtain⟨t,rfl⟩:=f;exact PySem.IntBool.sub_int_bool ⟨.int _,H,I.tok _,⟨_,rfl⟩,q⟩
def zW  (K:Sb):R2:=λx y H Q=>∃a z f,x=.ref a/\y=.str z/\(Qd K H a f\/re K H a f)/\Q (.bl Ca) H
def B1   (R:Room k X.A):Oc X (Ke .Eq) (zW X.K):=by
 intro J s σ H x y v u Q I O Z h;obtain⟨a,z,xs,rfl,rfl,f,q⟩:=h;cases O;obtain⟨t,rfl⟩:=Z;have hu:X.A.units<Ec:=R.units0;rcases f with f|f
 ·obtain⟨j,Y,F,_⟩:=I.tuple f;exact Ei.tuple_str z t (show s.heap.IsTuple a j.toArray from F) hu X.prog X.w X.xe _ ⟨.bl Ca,H,I,rfl,q⟩
 ·obtain⟨j,Y,F,_⟩:=I.list f;exact Ei.list_str z t F.isList hu X.prog X.w X.xe _ ⟨.bl Ca,H,I,rfl,q⟩
end L2

namespace L2
open PySem PySem.Spec PyProof.Rows
open AutoSeq1 (wpAny_loadPart')


end L2

namespace L2
open PySem PySem.Spec PyProof.Rows PySem.W
structure Lies (lo:Nat)(pn:List (Ea×Obj))(H:Hp)(h:Cb)(e:Ea)(cls:Da)(dx:Option Ea):Prop where
 ob:∃oe vs,h.get? e=ma oe/\oe.cls=cls/\oe.dict=dx/\oe.data=.fields vs/\
  (vs[1]?=ma .none\/∃T oT ts,vs[1]?=ma (.ref T)/\T≠e/\h.get? T=ma oT/\oT.data=.fields ts/\ts[3]?=ma .none/\H T=Aa/\lo<=T/\∀p∈pn,p.1≠T)
 hn:H e=Aa
 le:lo<=e
 pn:∀p∈pn,p.1≠e

def DA  {h:Cb} i x (q:h.get? a=ma o)(hd:o.data=.fields vs) :
  (∃f,(h.update a (Wh (·.setIfInBounds i x))).get? a=ma f/\f.cls=o.cls/\f.dict=o.dict/\f.data=.fields (vs.setIfInBounds i x))/\∀b,b≠a->(h.update a (Wh (·.setIfInBounds i x))).get? b=h.get? b:=by
 have z:=Obj.data_mapFields hd (·.setIfInBounds i x);refine⟨⟨_,oj _ q (uL z),Obj.cls_mapFields _ _,?_,z⟩,λb j=>vj _ _ (Ta j)⟩;unfold Wh
 lia
def ZG  {s: Fa} 
  (Z:A.frames=ma (env::outer)) (hl:s.heap.FunFrames base (env::outer)) (hf:env.frame=ma L) (he:s.heap.get? e=ma oe) (hd:oe.data=.fields vs) (hsz:1<vs.size)
  (h:∀(h':Cb) (T:Ea) (j oT:Obj) vs' ts ,(∀b o,b∉lg (env::outer)->b≠e->s.heap.get? b=ma o->h'.get? b=ma o)->(∀b o,b∈lg (env::outer)->b≠e->s.heap.get? b=ma o->∃sl,h'.get? b=ma { o with slots:=sl })->
   s.heap.objs.size<=T->h'.get? e=ma j->j.cls=oe.cls->j.dict=oe.dict->j.data=.fields vs'->vs'[1]?=ma (.ref T)->h'.get? T=ma oT->oT.data=.fields ts->ts[3]?=ma .none->Q () { s with heap:=h' }) :
  wpAny M A (do let a <- frameOf env;let y <- entryPlaceOf L ja;let b <- EntryCells.newEntry f a .none (Wc L) .none y;setField (.ref e) 1 b) (λ_ s'=>wpAny M A (Bx (.ref e) Aa) Q E s') E s:=by
 have xa:e∉lg (env::outer):=λm=>by
  rcases hl.mem m with⟨-,o,ho,no⟩
  simp_all
 refine Ua (wpAny_frameOf_fun Z hl hf λF fs=>Ua (wpAny_entryPlaceOf λy R=>Ua (yh ?_ (R.sizeOk5 _ _ _ _ _))));have n3:3<([f,.ref L,.none,Wc L,.none]++(if y.isEmpty then Zb 6 ke else y)).toArray.size:=by
  simp_all
 generalize za:(⟨.type "traceback",Aa,.fields ([f,.ref L,.none,Wc L,.none]++(if y.isEmpty then Zb 6 ke else y)).toArray,#[]⟩:Obj)=ot
 have dt:ot.data=.fields ([f,.ref L,.none,Wc L,.none]++(if y.isEmpty then Zb 6 ke else y)).toArray:=by lia
 have Y:F.get? e=ma oe:=by rw[fs.2.1 e xa,he]
 have new:=Wd F (uL dt);have ne:F.objs.size≠e:=λz=>qj _ (z ▸ Jc Y);obtain⟨⟨o2,g2,c2,d2,v2⟩,r2⟩:=DA 1 (.ref F.objs.size) (Dc ot Y) hd;have J:=(r2 _ ne).trans new;obtain⟨⟨o3,g3,c3,d3,v3⟩,r3⟩:=DA 3 .none J dt;refine Ui (Dc ot Y) hd hsz (Ua (kj g2 v2 (dD hsz) ?_));rw[if_pos (by rfl)]
 refine Ui J dt n3 ?_;have keep:∀b o,b≠e->F.get? b=ma o->_:=λb o O g=>(r3 b (Sd (Jc g))).trans ((r2 b O).trans (Dc ot g));refine h _ F.objs.size o2 o3 _ _ (λb o O I g=>keep b o I (by rw[fs.2.1 b O,g])) (λb o _ I g=>?_) (mw fs.1.symm) ((r3 e (Ta ne)).trans g2) c2 d2 v2 (dD hsz) g3 v3 (dD n3)
 rcases fs.2.2 b o g with⟨sl,q⟩
 simp_all

def Qa.left  {J: St}{ch:List Ea}(I:Qa X pins J H s)(hH:∀b∈ch,H b=Aa)(F:∀b∈ch,X.s₀.heap.objs.size<=b)(hd:∀b∈ch,∃o vs,s.heap.get? b=ma o/\o.data=.fields vs)(R:∀b∈ch,∀p∈X.pn++pins,p.1≠b)
  (k:∀b o,b∉lg X.stack->b∉ch->s.heap.get? b=ma o->h'.get? b=ma o) (Z:∀b o,b∈lg X.stack->b∉ch->s.heap.get? b=ma o->∃t,h'.get? b=ma { o with slots:=t }):Qa X pins J H { s with heap:=h' }:=by
 have u:Un (lg X.stack) ch H H s.heap h':=by
  refine⟨λb o e _ f j=>k b o f j e,λb o e _ f j=>Z b o f j e,λ_ _ _ n _=>n,λb o e j=>?_,λ_ _ e=>e,λ_ _ _ e=>e,λb ps e=>⟨#[],by rw[e];simp⟩⟩
  grind
 have tr:∀b u,H b=ma u->b∉lg X.stack/\b∉ch:=λb u e=>⟨λz=>(by rw[I.stkFree b z]at e;cases e),λz=>(by simp_all)⟩
 have y:Ge X.prog X.w H h':=λa o e=>(I.hok a o e).stay (λb v f q=>by
  grind) (λ_ q=>q) λ_ _ q=>q
 refine I.call (g':=s.gens) (d':=s.drawn) (t':=s.toks) u y I.bare λb f=>⟨.inr (F b f),λz=>?_,λx c e z=>?_,R b f⟩
 ·obtain⟨o,vs,g,d⟩:=hd b f;obtain⟨m,⟨Y,_,_,O,r⟩,_⟩:=I.loc
  lia
 ·obtain⟨o,vs,g,d⟩:=hd b f;obtain⟨v,Y,O,j⟩:=I.cell x c e
  lia
def tT  {σ: St}(I:Qa X [] σ H s)(F:X.stack=X.env::X.outer)(hf:X.env.frame=ma X.env.locals)
  (l:Lies X.s₀.heap.objs.size X.pn H s.heap Z cls dx) (q:∀h',Qa X [] σ H { s with heap:=h' }->Lies X.s₀.heap.objs.size X.pn H h' Z cls dx->Q () { s with heap:=h' }):wpAny M X.A (Fx (.ref Z) X.env) (λ_ s'=>wpAny M X.A (Bx (.ref Z) Aa) Q E s') E s:=by
 obtain⟨oe,vs,he,y,va,hd,ht⟩:=l.ob;have ya:X.A.frames=ma (X.env::X.outer):=by rw[<- F];exact I.ok.frames
 have hl:s.heap.FunFrames X.base (X.env::X.outer):=by rw[<- F];exact I.stack
 have pe:∀p∈X.pn++[],p.1≠Z:=λp hp=>l.pn p (by simp_all)
 unfold Fx;simp only[hf];rcases ht with h1|⟨T,oT,ts,h1,hTe,hT,hdT,h3,nT,lT,pT⟩
 ·refine Ua (kj he hd h1 ?_);rw[if_neg (by decide)]
  refine ZG ya hl hf he hd (Fc.mp h1).1 λh' T' R xa za Y k sl O g1 c1 c2 c3 c4 g2 c5 c6=>?_;rw[<- F]at k sl;have J:Qa X [] σ H { s with heap:=h' }:=I.left (ch:=[Z]) (λb f=>by rw[Nc.mp f];exact l.hn) (λb f=>by rw[Nc.mp f];exact l.le) (λb f=>by simp_all) (λb f=>by grind)
   (λb o f y e=>k b o f (λz=>y (by simp[z])) e) λb o f y e=>sl b o f (λz=>y (by simp[z])) e
  refine q h' J ⟨⟨R,za,g1,c1.trans y,c2.trans va,c3,.inr ⟨T',xa,Y,c4,?_,g2,c5,c6,I.hok.fresh O,Yb I.sz O,λp hp z=>?_⟩⟩,l.hn,l.le,l.pn⟩
  ·exact λz=>absurd (Jc he) (Mc.mpr (z ▸ O))
  ·exact absurd (Jc (I.pin p (by simp_all)).1) (Mc.mpr (z ▸ O))
 ·have ka:(ke==Wc X.env.locals)=Ca:=rfl;refine Ua (kj he hd h1 ?_);rw[if_pos (by rfl)]
  refine Ua (kj hT hdT h3 ?_);rw[ka,if_neg Pd];refine Ua (Ui hT hdT (Fc.mp h3).1 ?_);have j:=(DA 3 .none hT hdT).2;have I1:Qa X [] σ H { s with heap:=s.heap.update T (Wh (·.setIfInBounds 3 ke)) }:=I.left (ch:=[T]) (λb f=>by simp_all) (λb f=>by simp_all) (λb f=>by simp_all) (λb f p hp=>by grind)
   (λb o _ y e=>(j b (by simp_all)).trans e) λb o _ y e=>⟨o.slots,(j b (by simp_all)).trans e⟩
  have ja:=(j Z (Ta hTe)).trans he;have wa:(s.heap.update T (Wh (·.setIfInBounds 3 ke))).FunFrames X.base (X.env::X.outer):=by rw[<- F];exact I1.stack
  refine ZG (s:={ s with heap:=s.heap.update T (Wh (·.setIfInBounds 3 ke)) }) ya wa hf ja hd (Fc.mp h1).1 λh' T' R xa za Y k sl O g1 c1 c2 c3 c4 g2 c5 c6=>?_
  rw[<- F]at k sl;have J:Qa X [] σ H { s with heap:=h' }:=Qa.left (s:={ s with heap:=s.heap.update T (Wh (·.setIfInBounds 3 ke)) }) (ch:=[Z]) I1 (λb f=>by rw[Nc.mp f];exact l.hn) (λb f=>by rw[Nc.mp f];exact l.le) (λb f=>by simp_all) (λb f=>by grind)
   (λb o f y e=>k b o f (λz=>y (by simp[z])) e) λb o f y e=>sl b o f (λz=>y (by simp[z])) e
  refine q h' J ⟨⟨R,za,g1,c1.trans y,c2.trans va,c3,.inr ⟨T',xa,Y,c4,?_,g2,c5,c6,I1.hok.fresh O,Yb I1.sz O,λp hp z=>?_⟩⟩,l.hn,l.le,l.pn⟩
  ·exact λz=>absurd (Jc ja) (Mc.mpr (z ▸ O))
  ·exact absurd (Jc (I1.pin p (by simp_all)).1) (Mc.mpr (z ▸ O))
def Eg  (P:Ab)(w:Za):Op:=λf H s E e j=>∃(q:Ea) (H':Hp) (cls:Da) (dx:Option Ea),e=.ref q/\j.os=s.os/\Qe j.gens/\Un (lg f) [] H H' s.heap j.heap/\Ge P w H' j.heap/\Lies s.heap.objs.size [] H' j.heap q cls dx/\E cls dx H'

def Eg.back  {Y: St}(I:Qa X pins Y H s)(h:Eg X.prog X.w X.stack H s E e s'):∃(j:Ea) (f:Hp) (cls:Da) (y:Option Ea),e=.ref j/\Qa X pins Y f s'/\Lies X.s₀.heap.objs.size X.pn f s'.heap j cls y/\E cls y f:=by
 obtain⟨j,f,cls,y,rfl,os,bare,un,F,l,q⟩:=h;have R:∀b,s.heap.objs.size<=b->∀p∈X.pn,p.1≠b:=λb hb p hp z=>absurd (Jc (I.pin p (Kg _ hp)).1) (Mc.mpr (z ▸ hb));refine⟨j,f,cls,y,rfl,I.call' (ch:=[]) os un F bare (λb z=>absurd z (by simp)),⟨?_,l.hn,Yb I.sz l.le,R j l.le⟩,q⟩
 obtain⟨oe,vs,he,hc,J,hd,ht⟩:=l.ob;refine⟨oe,vs,he,hc,J,hd,ht.imp id ?_⟩;rintro⟨T,oT,ts,h1,h2,h3,h4,h5,Z,O,_⟩;exact⟨T,oT,ts,h1,h2,h3,h4,h5,Z,Yb I.sz O,R T O⟩
end L2

namespace L2
open PySem PySem.Spec PyProof.Rows PySem.W
open Builtin Builtin.ObjectAttr

section
variable {prog:Ab}{w:Za}{A:Nb}{E:Da->Fa->Prop}{h:Cb}{g:Array GenState}{d:Drawn}{t:Nat}{os:Bj}
variable {C N D x:Ea}{bmB:List Da}{B newId sa owner:String}{mN mD mA:Str->Option Da}{name:Str}{v:Da}
structure Reads (B:String)(bmB:List Da):Prop where
 ga:Slot B "__getattribute__" "BaseException.__getattribute__"
 mro:mroOf (.type B)=pure bmB
 no:typeLookup (.type B) "__getattr__" = pure Aa
 has:bmB.contains (.type "BaseException")=ua
end




end L2

namespace L2
open PySem PySem.Spec PyProof.Rows PySem.W


def XL  (M:Model)(A:Nb)(env:Env)(R:Da->Fa->Prop):Da->Fa->Prop:=λe j=>wpAny M A (Fx e env) (λ_ f=>wpAny M A (Bx e Aa) (λ_ q=>R e q) R f) R j
def cS      : Nk M A env (XL M A env R):=Nk.looking

abbrev yB  (P:Ab)(w:Za)(K:Sb)(mg:Str->Option Da)(base:Cb)(N:List Str)(j:Str)(scope:ue)(f:Ea)(q:Da)(A:Nb)(outer:List Env)(s:Fa)(H:Hp)(E:XK):Cx:=
 (cxOf (Eg P w) P w K mg base N j scope f q A outer s H E).wish (XL (Ia P w) (A.deeper (Pe j scope s.heap.objs.size f q)) (Pe j scope s.heap.objs.size f q) λe y=>Eg P w outer H s E e y)
def Fun.okX  {K: Sb}{st:Va}(F:Fun K x y st f fd)(S:FnScope N ps (Pf st))(len:∀vs H Q E,sp vs H Q E->vs.length=ps.length)
  (J:∀j (A:Nb) outer (s:Fa) H (vs:List V) Q E ,Room k (A.deeper (Pe y (Pf st) s.heap.objs.size f j))->sp vs H Q E->
   ∃t,Sf (yB P w K mg base N y (Pf st) f j A outer s H E) (ig st) t/\t { nx:=λ_ H'=>Q .non H',rt:=Q } (start N vs) H):FnOk P w K mg base (Eg P w) (k+1) f fd ps sp:=by
 obtain⟨oc,od,kV,za,pm,an,j,ct,xa,rfl,lk,R⟩:=F.ex;refine KQ lk R S len λA outer s H vs Q E hr Y=>?_;obtain⟨t,h,q⟩:=J j A outer s H vs Q E hr Y;refine⟨t,λO s1 σ H1 D I Z=>?_,q⟩;refine Xf (h O s1 σ H1 D (I.wish _) Z) (λ_ _ q=>q.unwish) λe s' z=>?_;show wpAny _ _ (leaving _ e) _ _ s';unfold leaving;exact Ua z
def Eg.out1  {K: Sb}{F:St} 
  (I:Qa (yB P w K mg base N j scope f y A outer s H E) pins F H' s') (l:Lies s.heap.objs.size [] H' s'.heap z cls O) (q:E cls O H'):(yB P w K mg base N j scope f y A outer s H E).xe (.ref z) s':=by
 have Y:Qa (cxOf (Eg P w) P w K mg base N j scope f y A outer s H E) [] F H' s':=I.unwish.pins_of λp Z=>absurd Z (by simp)
 refine tT (X:=cxOf (Eg P w) P w K mg base N j scope f y A outer s H E) (E:=λe s'=>Eg P w outer H s E e s') Y rfl rfl l λh' J R=>?_;exact⟨z,H',cls,O,rfl,J.os,J.bare,J.base,J.hok,R,q⟩
end L2

namespace L2
open PySem PySem.Spec PyProof.Rows PySem.W
open Builtin Builtin.ObjectAttr
noncomputable abbrev IK  : List Da:=[.type "ValueError",.type "Exception",.type "BaseException",.type "object"]

noncomputable def offN  : List Str:=["__setattr__", "__getattribute__", "__getattr__", "__class__", "word", "at", "row"]
structure XBase (K:Frag)(mg:Str->Option Da)(D:Ea)(mD:Str->Option Da):Prop where
 m:mg "PlanError" = ma (.ref D)
 kp:keepIn K (.ref D)=ua
 lk:∃q ND bs hd sn sub ab col dd k0 k1 k2 k3 k5 nid,K.lookup D=ma (excClassObj "PlanError" q D ND bs IK hd sn sub ab col dd k0 k1 k2 k3 k5 nid)/\∀h,K.In h->h.Ns ND mD
 no:∀y∈offN,mD y=Aa
 ni:mD "__init__" = Aa
structure XCls (K:Frag)(mg:Str->Option Da)(x:Str)(fs:List Str)(C:Ea):Prop where
 m:mg x=ma (.ref C)
 kp:keepIn K (.ref C)=ua
 ex:∃(D N fI:Ea) (mN mD:Str->Option Da),XBase K mg D mD/\(∃q bs sn sub ab col dd k0 k1 k2 k3 k5,K.lookup C=ma (excClassObj x q C N bs (.ref D::IK) ua sn sub ab col dd k0 k1 k2 k3 k5 "ValueError.__new__"))/\(∀h,K.In h->h.Ns N mN)/\(∀y∈offN,mN y=Aa)/\
  mN "__init__" = ma (.ref fI)/\∃(st:Va) (qual:Str) (fd:Vo),L2.Fun K "__init__" qual st fI fd/\(∃od osl,K.lookup fI=ma ⟨.type "function",od,.func fd,osl⟩)/\FnScope ("self" :: fs) ("self" :: fs) (Pf st)/\Binds K fd ("self" :: fs) []/\(∀y∈(("self" : Str)::fs),(Pf st).names.lookup y=ma .local)/\
  ((∃f p1 p2 p3 pos,fs=[f]/\ig st=[.Assign [.Attribute (.Name "self" p1) f p2] (.Name f p3) pos])\/∃f f2 p1 p2 p3 pos q1 q2 q3 qos,fs=[f,f2]/\f≠f2/\ig st=[.Assign [.Attribute (.Name "self" p1) f p2] (.Name f p3) pos,.Assign [.Attribute (.Name "self" q1) f2 q2] (.Name f2 q3) qos])



end L2

namespace L2
open PySem PySem.Spec PyProof.Rows

end L2

namespace L2
open PySem PySem.Spec PyProof.Rows

end L2

namespace L2
open PySem PySem.Spec PyProof.Rows PySem.W

def EQ  (o:Obj)(q:Str):Prop:=∃f t,o.data=.fields f/\f[1]?=ma (.str q t)
noncomputable abbrev frzC  (o:Obj):HO:=.frz o (.ext λ_=>True)
def qR  (H:Hp)(P:Ea)(pos:Pos)(q:Str):Prop:=
 H P=ma (.tbl #[])\/∃c f,H P=ma (.tbl #[Wc pos.line,Wc pos.col,.ref c])/\H c=ma (frzC f)/\EQ f q
def BmAt  (mg:Str->Option Da)(base:Cb):Prop:=∃j f,mg "__builtins__" = ma (.ref j)/\j≠Wo/\base.get? j=ma f/\f.cls=.type "module" /\ f.dict=ma Wo/\f.data=.plain

def zu  (tb:List Ea)(H:Hp):Prop:=∀b,if b∈tb then H b=ma (.tbl #[]) else H b=Aa\/∃o f,H b=ma (.frz o (.lst f))
def law_callT    {K:Sb}{CX:Op}{k:Nat}{x:Str}{sp:Sp} 
  (yb:(K.all λp=>p.2.cls != .type "list")=ua) (Z:∀b∈tb,f.heap.get? b=ma (tabObj #[])/\isCodeTable f.heap b/\K.lookup b=Aa) (xb:BmAt mg f.heap)
  (KX:K.In f.heap) (ja:∃o,K.lookup Jf=ma o/\o.cls=.type "dict") (va:f.heap.Ns Df mg) (hb:f.heap.Ns Wo mb) (ya:∀x:Str,x ≠ "__name__" -> mb x=Rj x) (xa:f.heap.NoLimit) (hg:f.gens=#[])
  (ha:f.heap.get? a=ma { cls:=.type "list",data:=.seq vs.toArray }) (hi:Eb vs ns) (hl:ns.length<=Fb) (hr:Room k zh)
  (F:∀base ,K.In base->base.Ns Df mg->BmAt mg base->FnOk P w K mg base CX k fa fd [x] sp) (O:∀(s:Fa) u ,Ah s fd ⟨[u],[]⟩ [(x,u)])
  (jb:∀H (o:Obj),zu tb H->H a=ma (.frz o (.lst (ns.map V.int)))->sp [.ref a] H (λv _=>v=.bl ua) λ_ _ _=>False)
  (vb:∀H e s',CX [] H f (λ_ _ _=>False) e s'->False) :
  codeAny (Ia P w) zh (.call (.ref fa) ⟨[.ref a],[]⟩) (λr s'=>r=.ok (.ret (.bool ua))/\OldK f.heap s'.heap/\s'.os=f.os/\Qe s'.gens) f:=by
 have ka:K.lookup a=Aa:=by
  cases hk:K.lookup a with
  |none=>rfl
  |some o=>
   have e:=KX a o hk;rw[ha]at e;cases e;have:=Mi.mp yb (a,_) (mem_of_lookupK hk)
   lia
 let oa:Obj:={ cls:=.type "list",data:=.seq vs.toArray }
 have wb:a∉tb:=λz=>by
  simp_all
 obtain⟨H,hH⟩:∃H:Hp,H=λb=>if b∈tb then ma (.tbl #[]) else if b=a then ma (.frz oa (.lst (ns.map V.int))) else Aa:=⟨_,rfl⟩
 have H1:∀{b},b∈tb->H b=ma (.tbl #[]):=λhb=>by lia
 have H2:H a=ma (.frz oa (.lst (ns.map V.int))):=by
  lia
 have H3:∀{b},b∉tb->b≠a->H b=Aa:=λ{b} j J=>by
  lia
 clear hH;have Y:∀{b:Ea} {o:Obj},f.heap.get? b=ma o->o.cls≠.none->(∀xs n,o.data≠.seq xs n)->H b=Aa:=λ{b o} e j J=>by
  refine H3 (λz=>?_) λz=>?_
  ·grind
  grind
 have wa:Ge P w H f.heap:=λb u e=>by
  by_cases j:b∈tb
  ·rw[H1 j]at e;cases e;exact(Z b j).1
  ·by_cases J:b=a
   ·subst J;rw[H2]at e;cases e;exact⟨ha,by simp_all,vs,_,EH hi,ha⟩
   simp_all
 have y:∀{b:Ea} {m:Str->Option Da},f.heap.Ns b m->(hidT f.heap H).Ns b m:=λ{b m} ⟨o,es,ep,e,d,r⟩=>by
  refine⟨o,es,ep,uA e (H3 (λz=>?_) λz=>?_),d,r⟩
  ·grind
  lia
 have R:K.In (hidT f.heap H):=λb o e=>uA (KX b o e) (H3 (λz=>by grind) λz=>by lia)
 have hM:Mod K mg (hidT f.heap H):=⟨R,y va,⟨mb,y hb,ya⟩,let ⟨mc,j,J⟩:=xa;⟨mc,y j,J⟩,ja⟩
 have zb:BmAt mg (hidT f.heap H):=by
  obtain⟨bm,ob,b1,b2,b3,b4,b5,b6⟩:=xb;exact⟨bm,ob,b1,b2,uA b3 (Y b3 (by lia) (by lia)),b4,b5,b6⟩
 have e0:Env0 P w K mg (hidT f.heap H) zh [] f H:=⟨rfl,hM,λb o e=>UU e,mw (KY _ _),trivial,λb hb=>(nomatch hb),wa,.of_eq hg⟩;have only:zu tb H:=λb=>by
  grind
 refine nn ((F _ R (y va) zb).run zh [] f H ⟨[.ref a],[]⟩ [.ref a] [.ref a] _ _ hr e0 (O f (.ref a)) (.cons rfl .nil) (jb H oa only H2)) λr s' h=>?_
 match r,h with
 |.error e,h=>exact(vb H e s' h).elim
 |.ok (.ret u),h=>
  obtain⟨v,H',os,bare,un,I,r',q⟩:=h;have q':v=.bl ua:=q;subst q';obtain rfl:u=TB ua:=r';refine⟨rfl,⟨λb o e=>?_,λb o e=>un.there b o e (by simp)⟩,os,bare⟩
  by_cases j:b∈tb
  ·obtain⟨e1,ht,_⟩:=Z b j;rw[e]at e1;cases e1;obtain⟨za,e2⟩:=un.tbls b _ (H1 j);exact .inr (.inl ⟨ht,rfl,#[],za,rfl,I b _ e2⟩)
  ·by_cases J:b=a
   ·subst J;obtain⟨e2,_⟩:=I b _ (un.frzs b _ _ H2);rw[ha]at e;cases e;exact .inl e2
   ·exact .inl (un.keep b o e (H3 j J) (by intro z;exact(nomatch z)) (by simp))
def walk_ofT  {l:GC}{K:Lc->Sb}{CX:Za->Op}{sp:Za->Sp}{tbs:List (Str×Ea×Ea)}
  (ya:∀w:Za,((K w.params).all λp=>p.2.cls != .type "list")=ua) (xa:∀(w:Za),∀t∈tbs,(∃dr,(recsOf q).find? (λe=>e.name==t.1)=ma dr)/\tabIn (K w.params) t.1=ma (t.2.1,t.2.2)/\(K w.params).lookup t.2.2=Aa)
  (hn:l.most=ma n) (R:n<=Fb) (wa:d.params.defaults=[]) (hr:Room k zh)
  (hY:∀(w:Za) (h:Cb),YP w h->(K w.params).In h) (ka:∀w:Za,∃o,(K w.params).lookup Jf=ma o/\o.cls=.type "dict")
  (F:∀(w:Za) mg J (h:Cb),(K w.params).In h->h.Ns Df mg->mg d.name=ma (.ref J)->
   ∃fd ,(∀(s:Fa) u ,Ah s fd ⟨[u],[]⟩ [(x,u)])/\
    ∀base ,(K w.params).In base->base.Ns Df mg->BmAt mg base->FnOk l.prog w (K w.params) mg base (CX w) k J fd [x] (sp w))
  (za:∀(w:Za) H (o:Obj) a (ns:List Int),ns.length<=n->zu (tbs.map (·.2.2)) H->H a=ma (.frz o (.lst (ns.map V.int)))->sp w [.ref a] H (λv _=>v=.bl ua) λ_ _ _=>False)
  (va:∀(w:Za) H (s:Fa) (e:Da) s' ,CX w [] H s (λ_ _ _=>False) e s'->False) :
  qL q loose XP YP l.row.toRowW d [] (λf vs=>SB f vs):=by
 refine Att.attach_call hn wa λw ha z mg mb J o pm cd zb a vs ns G Y ho hd xb ja I y j hg=>?_;have O:=hY w _ Y;obtain⟨fd,Z,hF⟩:=F w mg J _ O G.T.g ja;refine law_callT (tb:=tbs.map (·.2.2)) (ya w) (λb Z=>?_) ?_ O (ka w) G.T.g G.T.b G.T.builtins G.T.nolimit hg I y (Yb j R) hr hF Z (λH o hO hS=>za w H o a ns j hO hS) λH e s'=>va w H z e s'
 ·obtain⟨t,ht,rfl⟩:=Uc.mp Z;obtain⟨⟨dr,h1⟩,h2,h3⟩:=xa w t ht;obtain⟨c1,c2⟩:=tab_of G.T O h1 h2;exact⟨c2,(c1.tab c2).isCodeTable,h3⟩
 ·obtain⟨bm,ob,b1,b2,b3,b4,b5,b6⟩:=G.T.bmain;exact⟨bm,ob,b1,b2,b3,b4,b5,b6⟩
end L2

namespace L2
open PySem PySem.Spec PyProof.Rows
open Sem (wp)
open AutoSeq1 (wpAny_loadPart')

def V0  {s: Fa}(I:s.heap.IsList l items)
  (h:∀h',IsEnum h' (s.heap.objs.size+1) s.heap.objs.size 0 .none->h'.IsListIter s.heap.objs.size l 0->(∀b o,s.heap.get? b=ma o->h'.get? b=ma o)->Q (.ref (s.heap.objs.size+1)) { s with heap:=h' }) :
  wpAny (Ia prog w) A (call (.type "enumerate") [.ref l]) Q E s:=by
 have j:∀(p:Cb) (n:Nat) (o:Obj),p.objs.size=n->o.isFreed=Ca->(p.push o).get? n=ma o:=λp n o e f=>by
  subst e;exact Wd p f
 have sz:=λo=>yn s.heap o;refine callType_new F.called_enumerate (by decide) (OL _) (jL _) (λy=>NK y _) iL (KJ (.ref l) _) ⟨λ_ _ _ _ _ q=>WB I q,?_⟩
 rw[sz];have z:=j _ _ ⟨.type "enumerate",Aa,.fields #[.none,.bool Ca,.ref s.heap.objs.size,Wc 0,.none,.none],#[]⟩ (sz ⟨.type "list_iterator",Aa,.fields #[.ref l,.int 0 0],#[]⟩) rfl;exact⟨⟨_,z,rfl⟩,h _ z ⟨_,Dc _ (j _ _ _ rfl rfl),rfl,rfl⟩ λb o x=>Dc _ (Dc _ x)⟩

def cN  (K:Sb)(a:Ea):It:=
 ⟨λi H=>∃f x,re K H a f/\f[i]?=ma x,λi H y j=>∃x p,(∀f,re K H a f->f[i]?=ma x)/\y=.ref p/\H p=Aa/\j=upd H p (.tup [.int (i:Int),x]),λi H=>∃f,re K H a f/\f.length=i⟩
def LZ    {K:Sb} a e it (za:e≠it)(jb:a≠e)(xa:a≠it) :
  Turn P w K (.Tuple zb x1 pos) (cN K a) [e,it] e (λi h=>(∃q,IsEnum h e it (i:Int) q)/\h.IsListIter it a i) where
 mem:=by simp
 obj:=λi h O b F=>by
  obtain⟨⟨q,R⟩,o,ho,c,d⟩:=O
  grind
 keep:=λi h h' O k=>by
  obtain⟨⟨q,R⟩,o,ho,r⟩:=O;exact⟨⟨q,k e (by simp) _ R⟩,o,k it (by simp) _ ho,r⟩
 item:=by
  intro X hP hw hK hc i j s σ H E I hf O hg;subst hP hw hK;obtain⟨xs,x,hq,hx⟩:=hg;obtain⟨z,rv,p,hz⟩:=I.list hq;obtain⟨u,hu,ru⟩:=rv.get hx;obtain⟨⟨q,R⟩,hit⟩:=O;have wa:i<z.toArray.size:=by
   grind
  refine LL (sM (A:=X.A.in1) (I.ok.hd hc) it a xa z.toArray) R ⟨hit,p.isList⟩ wa za (by grind) λZ h' J hP ho ha hT vb hk=>?_
  refine⟨_,rfl,JL ho λh2 ka va=>?_⟩;have ex:Z=u:=by
   simp_all
  subst ex;have xb:H s.heap.objs.size=Aa:=I.hok.fresh (Mb _);have ja:e≠s.heap.objs.size:=Sd (Jc R);have ya:it≠s.heap.objs.size:=by obtain⟨o,Y,_⟩:=hit;exact Sd (Jc Y)
  have I1:Qa X j σ (upd H s.heap.objs.size (.tup [.int (i:Int),x])) { s with heap:=s.heap.push { cls:=.type "tuple",data:=.seq #[.int i J,Z] },toks:=J+1 }:=by
   refine I.laid (λb o y=>Dc _ y) (Mb _) ⟨by show 2<=Fb;decide,[.int i J,Z],.cons ⟨J,rfl⟩ (.cons ru .nil),TupD.new _ _⟩
  have fpU:∀b,b≠s.heap.objs.size->FpOk X j H b->FpOk X j (upd H s.heap.objs.size (.tup [.int (i:Int),x])) b:=λb F f=>⟨by rw[Bd F];exact f.1,f.2⟩
  have kk:∀b o,b≠e->b≠it->(s.heap.push { cls:=.type "tuple",data:=.seq #[.int i J,Z] }).get? b=ma o->h2.get? b=ma o:=λb o be bi y=>by
   have step:h'.get? b=ma o:=by
    by_cases F:b=s.heap.objs.size
    ·subst F;rw[hT];exact(Wd s.heap (o:={ cls:=.type "tuple",data:=.seq #[.int i J,Z] }) rfl).symm.trans y
    ·rw[KC _ _ _ F]at y
     simp_all
   exact(va.2 b be).trans step
  have I2:Qa X j σ (upd H s.heap.objs.size (.tup [.int (i:Int),x])) { s with heap:=h2,toks:=J+1 }:=
   gG (s:={ s with heap:=s.heap.push { cls:=.type "tuple",data:=.seq #[.int i J,Z] },toks:=J+1 }) (h':=h2) (t':=J+1) (e:=e) (it:=it) I1 kk (fpU e ja (hf e (by simp))) (fpU it ya (hf it (by simp)))
  refine⟨.ref s.heap.objs.size,_,I2,rfl,⟨x,_,λys hy=>by rw[I.list_inj hy hq];exact hx,rfl,xb,rfl⟩,⟨⟨_,by simpa using ka⟩,?_⟩,λb F=>?_⟩
  ·obtain⟨o,Y,r⟩:=ha.1;exact⟨o,(va.2 it (Ta za)).trans Y,r⟩
  ·simp only[Sc,Rg,or_false]at F;rcases F with rfl|rfl
   ·rw[Bd ja];exact(hf _ (by simp)).1
   ·rw[Bd ya];exact(hf _ (by simp)).1
 done:=by
  intro X hP hw hK hc i j s σ H E I hf O hg;subst hP hw hK;obtain⟨xs,hq,hx⟩:=hg;obtain⟨z,rv,p,hz⟩:=I.list hq;obtain⟨⟨q,R⟩,hit⟩:=O;have hl:z.toArray.size=i:=by rw[Od,<- rv.length];exact hx
  refine cL (sM (A:=X.A.in1) (I.ok.hd hc) it a xa z.toArray) R ⟨by lia,p.isList⟩ λh' eb=>⟨rfl,?_⟩
  obtain⟨f0,f1,f2,f3,f4,f5⟩:=hf it (by simp)
  exact I.turned (t':=s.toks) (λb o F y=>eb b o F y) f0 f1 f3 f4 f5
 self:=λA i s Q E O h=>by
  obtain⟨⟨q,R⟩,_⟩:=O;exact Hw R h
section
variable {X:Cx}
def ZS  (K:Sb)(y:TA):TI:=λq H R=>y q H λj H1=>∃a,j=[.ref a]/\(((∃f,H1 a=ma (.tup f))/\R (dN K a) H1)\/((∃f,re K H1 a f)/\R (cN K a) H1))
def MX {l:Na}{ta:TA}{p pos F:Pos}{J:List Na}{x1}(hg:Gl X "enumerate")(hm:X.mg "enumerate" = Aa)(ha:PA X [l] ta)(hs:Kd [l] X.env=[(Ca,Lb l X.env)]:=by rfl) :
  PI X (.Tuple J x1 F) (.Call (.Name "enumerate" p) [l] [] pos) (ZS X.K ta):=by
 intro y s σ H R I h;refine Call_ (Qm I hg hm boot_enumerate (qx (Wb (ha pos y s σ H _ I h) λus s1 ⟨vs,H1,j,r1,q1⟩=>?_) hs rfl));obtain⟨a,e,q⟩:=q1;subst e;obtain⟨u,rfl,rx⟩:=Eh r1;cases rx;have fp:∀b∈[s1.heap.objs.size+1,s1.heap.objs.size],FpOk X y H1 b:=λb hb=>by
  simp only[Sc,Rg,or_false]at hb;rcases hb with rfl|rfl
  ·exact j.fpOk (qp _) (j.hok.fresh (qp _))
  ·exact j.fpOk (Mb _) (j.hok.fresh (Mb _))
 rcases q with⟨⟨xs,Y⟩,q⟩|⟨⟨xs,Y⟩,q⟩
 ·obtain⟨z,rv,t,hz⟩:=j.tuple (Qd.of Y);have f:a<s1.heap.objs.size:=by obtain⟨o,Z,_⟩:=t;exact Jc Z
  exact W0 (items:=z.toArray) t λh' O hit hk=>Hw O ⟨_,_,_,_,H1,rfl,j.kept (t':=s1.toks) hk,vZ a _ _ (Nat.succ_ne_self _) (Sd (Gn f)) (Sd f),⟨⟨_,O⟩,hit⟩,fp,q⟩
 ·obtain⟨z,rv,t,hz⟩:=j.list Y;have f:a<s1.heap.objs.size:=by obtain⟨o,Z,_⟩:=t.isList;exact Jc Z
  exact V0 (items:=z.toArray) t.isList λh' O hit hk=>Hw O ⟨_,_,_,_,H1,rfl,j.kept (t':=s1.toks) hk,LZ a _ _ (Nat.succ_ne_self _) (Sd (Gn f)) (Sd f),⟨⟨_,O⟩,hit⟩,fp,q⟩
end
end L2

namespace L2
open PySem PySem.Spec PyProof.Rows

def DY  : Oc X (Ke .LtE) (λx y H Q=>∃i j,x=.str i/\y=.str j/\Q (.bl (!decide (j.cps.toList<i.cps.toList))) H):=by
 intro f s O H x y v u Q I z F h;obtain⟨i,j,rfl,rfl,q⟩:=h;obtain⟨t,rfl⟩:=z;obtain⟨J,rfl⟩:=F;exact PySem.P.le_str (Ce I q rfl)
def X0  : Vf X (.type "int") (λxs H Q=>∃z n,xs=[.str z]/\PySem.intText? z=ma n/\z.length<=640/\Q (.int n) H):=by
 intro f s O H xs J Q I r h;obtain⟨z,n,rfl,y,F,q⟩:=h;obtain⟨u,rfl,j⟩:=Eh r;obtain⟨t,rfl⟩:=j;exact PySem.W.KIN.call_text y F ⟨.int n,H,I.tok _,⟨_,rfl⟩,q⟩
end L2

namespace L2
open PySem PySem.Spec PyProof.Rows Builtin Builtin.Str

end L2

namespace L2
open PySem PySem.Spec PyProof.Rows
section
variable {prog:Ab}{w:Za}{K:Type}[DecidableEq K]{knd:KeyKind prog w K}{A:Nb}{E:Da->Fa->Prop}{s:Fa}
end


def Nu  (x:Me P w H h a (.frz o (.dK kvs)))(hd:o.data=.dict es ep):es.size=kvs.length/\∃vs,KV kvs vs/\h.DictAt (He P w) a vs ep:=by
 obtain⟨j,_,_,vs,r,R,z,F,f,O,q,J,y,I⟩:=x;rw[j]at f;cases f;rw[hd]at q;cases q;have e:=y.length;rw[cg]at e;exact⟨e.trans r.length.symm,vs,r,o,es,j,O,hd,J,y,I⟩
theorem KV.at    {vs:List (κ×Da)}(r:KV kvs vs):∀{i:Nat} {p },kvs[i]?=ma p->∃v,vs[i]?=ma (p.1,v)/\RelV p.2 v:=by
 induction r with
 |nil=>simp_all
 |@cons p q z F h t f=>
  intro i y e;cases i with
  |zero=>simp at e;subst e;exact⟨q.2,by rw[h.1];rfl,h.2⟩
  |succ j=>simp at e;simpa using f e
noncomputable def kD  (a:Ea)(o:Obj):It:=
 ⟨λi H=>∃f,H a=ma (.frz o (.dK f))/\i<f.length,λi H x j=>j=H/\∃f k,H a=ma (.frz o (.dK f))/\f[i]?=ma (k,x),λi H=>∃f,H a=ma (.frz o (.dK f))/\f.length<=i⟩
def nD  (a:Ea)(o:Obj):It:=
 ⟨λi H=>∃f,H a=ma (.frz o (.dK f))/\i<f.length,λi H y j=>∃f k x p,H a=ma (.frz o (.dK f))/\f[i]?=ma (k,x)/\y=.ref p/\H p=Aa/\j=upd H p (.tup [kV k,x]),λi H=>∃f,H a=ma (.frz o (.dK f))/\f.length<=i⟩
def NW  {K:Sb} a it (o:Obj)(es:Array Zm) ep (hd:o.data=.dict es ep) :
  Turn P w K tg (kD a o) [it] it (λi h=>h.IsValIter it a i es.size ep) where
 mem:=by simp
 obj:=λi h f b y=>by
  cases Nc.mp y;obtain⟨u,e,_,d⟩:=f
  simp_all
 keep:=λi h h' f k=>f.at λu e=>k it (by simp) u e
 item:=by
  intro X hP Z hK hc i F s σ H E I R f hg;subst hP Z hK;obtain⟨j,O,Y⟩:=hg;obtain⟨J,vs,r,da⟩:=Nu (I.hok a _ O) hd;obtain⟨f0,f1,f2,f3,f4,f5⟩:=R it (by simp)
  rw[J.trans r.length]at f;have ek:j[i]?=ma j[i]:=Cc Y;obtain⟨v,ev,rv⟩:=r.at ek;refine wpAny_pyNext_values_item f da ev λh' z sb=>?_;obtain⟨u,eu,cu,du⟩:=id z;rw[<- r.length,<- J]at z;exact⟨_,rfl,nu (s:={ s with heap:=h' }) eu cu du (by decide) ⟨_,H,I.turned (t':=s.toks) (λb o y e=>(sb.2 b y).trans e) f0 f1 f3 f4 f5,rv,⟨rfl,j,_,O,ek⟩,z,λb y=>(R b y).1⟩⟩
 done:=by
  intro X hP Z hK hc i F s σ H E I R f hg;subst hP Z hK;obtain⟨j,O,Y⟩:=hg;obtain⟨J,vs,r,da⟩:=Nu (I.hok a _ O) hd;obtain⟨f0,f1,f2,f3,f4,f5⟩:=R it (by simp)
  rw[J.trans r.length]at f;exact wpAny_pyNext_values_end (I.ok.hd hc) f da (cD (by rw[<- r.length];exact Y)) λh' eb=>⟨rfl,I.turned (t':=s.toks) (λb o y e=>eb b o y e) f0 f1 f3 f4 f5⟩
 self:=λ_ _ _ _ _ f q=>wpAny_pyIter_valiter f q
def MV    (e:(He P w).is k u=ua):RelV (kV k) u:=by
 rcases Ji e with⟨i,t,rfl,rfl⟩|⟨x,t,rfl,rfl⟩
 ·exact⟨t,rfl⟩
 ·exact⟨t,rfl⟩
def MW  {K:Sb} a it (o:Obj)(es:Array Zm) ep (hd:o.data=.dict es ep) :
  Turn P w K (.Tuple ya x1 pos) (nD a o) [it] it (λi h=>∃u v,IsItemIter h it a i es.size ep u v) where
 mem:=by simp
 obj:=λi h j b J=>by
  grind
 keep:=λi h h' j k=>let ⟨u,v,e⟩:=j;⟨u,v,k it (by simp) _ e⟩
 item:=by
  intro X hP Z hK hc i z s σ H E I hf j hg;subst hP Z hK;obtain⟨f,R,Y⟩:=hg;obtain⟨O,vs,r,da⟩:=Nu (I.hok a _ R) hd;have fi:=hf it (by simp)
  obtain⟨u0,v0,j⟩:=j;rw[O.trans r.length]at j;have ek:f[i]?=ma f[i]:=Cc Y;obtain⟨v,ev,rv⟩:=r.at ek;refine wpAny_pyNext_items_item j da ev λF h' hk va tp sz kp=>⟨_,rfl,wpAny_letOwnedTupleGo_items va λh2 st2 sb=>?_⟩;rw[<- r.length,<- O]at st2;have za:H s.heap.objs.size=Aa:=I.hok.fresh (Mb _);have ja:it≠s.heap.objs.size:=Sd (Jc j);have I1:Qa X z σ (upd H s.heap.objs.size (.tup [kV f[i].1,f[i].2])) { s with heap:=s.heap.push { cls:=.type "tuple",data:=.seq #[F,v] },toks:=s.toks }:=by
   refine I.laid (λb o y=>Dc _ y) (Mb _) ⟨by show 2<=Fb;decide,[F,v],.cons (MV hk) (.cons rv .nil),TupD.new _ _⟩
  have kk:∀b o,b≠it->(s.heap.push { cls:=.type "tuple",data:=.seq #[F,v] }).get? b=ma o->h2.get? b=ma o:=λb o bi y=>by
   refine(sb.2 b bi).trans ?_;by_cases J:b=s.heap.objs.size
   ·subst J;rw[Wd _ rfl]at y
    lia
   ·rw[KC _ _ _ J]at y
    simp_all
  obtain⟨f0,f1,f2,f3,f4,f5⟩:=fi;have xa:upd H s.heap.objs.size (.tup [kV f[i].1,f[i].2]) it=Aa:=by rw[Bd ja];exact f0
  refine⟨.ref s.heap.objs.size,_,I1.turned (h':=h2) (t':=s.toks) kk xa f1 f3 f4 f5,rfl,⟨f,_,_,_,R,ek,rfl,za,rfl⟩,⟨_,_,st2⟩,λb J=>?_⟩
  simp_all
 done:=by
  intro X hP Z hK hc i z s σ H E I hf j hg;subst hP Z hK;obtain⟨f,R,Y⟩:=hg;obtain⟨O,vs,r,da⟩:=Nu (I.hok a _ R) hd;obtain⟨f0,f1,f2,f3,f4,f5⟩:=hf it (by simp)
  obtain⟨u0,v0,j⟩:=j;rw[O.trans r.length]at j;exact wpAny_pyNext_items_end (I.ok.hd hc) j da (cD (by rw[<- r.length];exact Y)) λh' eb=>⟨rfl,I.turned (t':=s.toks) (λb o J e=>eb b o J e) f0 f1 f3 f4 f5⟩
 self:=λA i s Q E j q=>by
  obtain⟨u,v,j⟩:=j;exact PySem.W.kcp_self j q
section
variable {X:Cx}{tg d:Na}{tl:TE}{apos cpos:Pos}
def Held  (H:Hp)(a:Ea)(kvs:List (uc×V))(R:Obj->Hp->Prop):Prop:=Rd H a (.dK kvs)/\∀o,(∀u,H a=ma (.frz u (.dK kvs))->u=o)->R o (upd H a (.frz o (.dK kvs)))
def LF    {σ:St}(I:Qa X pins σ H s)(q:Held H a kvs R) :
  ∃o f ep vs,o.data=.dict f ep/\f.size=vs.length/\(a==Jf)=Ca/\s.heap.DictAt (He X.prog X.w) a vs ep/\R o (upd H a (.frz o (.dK kvs)))/\Qa X pins σ (upd H a (.frz o (.dK kvs))) s:=by
 obtain⟨z,y,vs,r,o,f,ep,j,h2,J,h4,O,Z⟩:=Hj I.hok q.1;have e:=O.length;rw[cg]at e;have F:s.heap.DictAt (He X.prog X.w) a vs ep:=⟨o,f,j,h2,J,h4,O,Z⟩;rcases q.1 with g|⟨u,g⟩
 ·refine⟨o,f,ep,vs,J,e,y,F,q.2 o (λu z=>by lia),?_⟩
  exact I.write (h':=s.heap) (t':=s.toks) (x:=a) (e:=a) (by rw[g];trivial) (.inl rfl) (λb u _ e=>e) ⟨o,j⟩ ⟨j,z,y,vs,r,o,f,ep,j,h2,J,h4,O,Z⟩
 ·have hu:=(show Me X.prog X.w H s.heap a (.frz u (.dK kvs))from I.hok a _ g).1;rw[j]at hu;cases hu;have Y:upd H a (.frz o (.dK kvs))=H:=by
   funext b;unfold upd
   lia
  refine⟨o,f,ep,vs,J,e,y,F,q.2 o (λu z=>by lia),?_⟩
  lia
def Y1  (j:TE):TI:=λq H R=>j q H λx H1=>∃a f,x=.ref a/\Held H1 a f λo y=>R (kD a o) y
def Z1  (j:TE):TI:=λq H R=>j q H λx H1=>∃a f,x=.ref a/\Held H1 a f λo y=>R (nD a o) y
def mQ (hd:PE X d tl)(j:Uj d "values" X.env (Lb d X.env)=Lb d X.env:=by rfl)(z:(apos.endLine==cpos.line)=ua:=by rfl):PI X tg (.Call (.Attribute d "values" apos) [] [] cpos) (Y1 tl):=by
 intro f s Y H R I h;refine KL j z (Wb (hd f s Y H _ I h) λv s1 ⟨x,H1,Z,r1,a,F,ex,q⟩=>?_);subst ex;cases r1;obtain⟨t1,t2,_⟩:=gF Z (.inl ⟨F,q.1⟩);obtain⟨o,es,ep,vs,hd,hs,y,J,q,I2⟩:=LF Z q;refine⟨"dict", "dict.values",kx,oM,PySem.F.type_dict_values,t1,t2,Zw rfl (zC ?_)⟩;refine Zv oM t1 PySem.F.entry_dict_values (PySem.F.args_dict_values_1 _) (meets_dict_values (He X.prog X.w) a y) ⟨⟨vs,J.dictOf⟩,?_⟩;have O:Qa X f Y (upd H1 a (.frz o (.dK F))) { s1 with heap:=s1.heap.push { cls:=.type "dict_values",data:=.fields #[.ref a] } }:=I2.kept (t':=s1.toks) λb o e=>Dc _ e
 refine wpAny_pyIter_values (s:={ s1 with heap:=s1.heap.push { cls:=.type "dict_values",data:=.fields #[.ref a] } }) ⟨_,Wd _ rfl,rfl,rfl⟩ (J.at' λo e=>Dc _ e) ?_
 rw[<- hs];refine⟨_,[_],_,_,_,rfl,O.kept (t':=s1.toks) λb o e=>Dc _ e,NW a _ o es ep hd,⟨_,Wd _ rfl,rfl,rfl⟩,λb hb=>?_,q⟩;cases Nc.mp hb;exact O.fpOk (Mb _) (O.hok.fresh (Mb _))
def lQ {J:List Na}{x1}{Y:Pos}(hd:PE X d tl)(j:Uj d "items" X.env (Lb d X.env)=Lb d X.env:=by rfl)(z:(apos.endLine==cpos.line)=ua:=by rfl):PI X (.Tuple J x1 Y) (.Call (.Attribute d "items" apos) [] [] cpos) (Z1 tl):=by
 intro f s σ H R I h;refine KL j z (Wb (hd f s σ H _ I h) λv s1 ⟨x,H1,I1,r1,a,F,ex,q⟩=>?_);subst ex;cases r1;obtain⟨t1,t2,_⟩:=gF I1 (.inl ⟨F,q.1⟩);obtain⟨o,es,ep,vs,hd,hs,y,O,q,I2⟩:=LF I1 q;refine⟨"dict", "dict.items",kx,lM,PySem.F.type_dict_items,t1,t2,Zw rfl (zC ?_)⟩;refine Zv lM t1 PySem.F.entry_dict_items (PySem.F.args_dict_items_1 _) (meets_dict_items (He X.prog X.w) a y) ⟨⟨vs,O.dictOf⟩,?_⟩;have Z:Qa X f σ (upd H1 a (.frz o (.dK F))) { s1 with heap:=s1.heap.push { cls:=.type "dict_items",data:=.fields #[.ref a] } }:=I2.kept (t':=s1.toks) λb o e=>Dc _ e
 refine wpAny_pyIter_items (s:={ s1 with heap:=s1.heap.push { cls:=.type "dict_items",data:=.fields #[.ref a] } }) ⟨_,Wd _ rfl,rfl,rfl⟩ (O.at' λo e=>Dc _ e) ?_
 rw[<- hs];refine⟨_,[_],_,_,_,rfl,Z.kept (t':=s1.toks) λb o e=>Dc _ e,MW a _ o es ep hd,⟨_,_,Wd _ rfl⟩,λb hb=>?_,q⟩;cases Nc.mp hb;exact Z.fpOk (Mb _) (Z.hok.fresh (Mb _))
end
end L2

namespace L2
open PySem PySem.Spec PyProof.Rows
open Sem (wp)


end L2

namespace L2
open PySem PySem.Spec PyProof.Rows PySem.W
theorem Xm  : ∀{vs } {ns },Eb vs ns->∀{i } {u },vs[i]?=ma u->∃t,u=.int (ns.getD i 0) t/\i<ns.length
 |_,_,.nil,_,_,h=>by simp at h
 |_,_,.cons m t r,0,u,h=>by
  simp at h;exact⟨t,by rw[<- h];rfl,Ep _⟩
 |_,_,.cons m t r,i+1,u,h=>by
  obtain⟨f,e,l⟩:=Xm r (by simpa using h)
  exact⟨f,by rw[e];rfl,Nat.succ_lt_succ l⟩
theorem XE:∀{l:List Int},(∀i (h:i+1<l.length),l[i]<l[i+1])->l.Pairwise (·< ·)
 |[],_=>.nil
 |[x],_=>gx _ _
 |x::y::r,h=>by
  have j:=XE (l:=y::r) λi q=>by
   have:=h (i+1) (Nat.succ_lt_succ q);simpa using this
  have h0:x<y:=h 0 (by simp)
  refine db.mpr ⟨λz f=>?_,j⟩;rcases Sc.mp f with rfl|f
  ·exact h0
  ·exact Int.lt_trans h0 ((db.mp j).1 z f)

def BH       (ho:s.heap.get? a=ma (Be "list" vs.toArray n))(z:Eb vs ns)(nd:ns.Nodup)(xa:vs.length<Og)
  (h:∀(out:Array Da) (F:List Int),Eb out.toList F->F.Perm ns->F.Pairwise (·< ·)->P (.done (.ret .none)) { s with heap:=Rp s.heap a vs out }) :
  wpAny (Ia prog w) A (Bb.«list.sort» ⟨[.ref a],[]⟩) P E s:=by
 have il:vs.length=ns.length:=z.length;have I:∀{i:Nat} (f:i<ns.length),ns.getD i 0=ns[i]:=λf=>by simp[Ee,f]
 have za:vs.Nodup:=by
  refine Xa.mpr λi j f q va e=>?_;obtain⟨t1,e1,l1⟩:=Xm z (Cc f);obtain⟨t2,Z,l2⟩:=Xm z (Cc q);rw[e1,Z]at e;injection e with e3 _
  rw[I l1,I l2]at e3;exact yu nd l1 l2 (by lia) e3
 refine dJ (κ:=oneType') ho xa za (λi j=>decide (ns.getD i 0<ns.getD j 0)) (λh' kp O R hR=>?_) (λh' kp=>⟨λi j C f q hC=>?_,λi j k _ _ _ h1 O=>?_,λi j f q ja=>?_,λi _=>?_⟩) λy J hs=>?_
 ·refine kas_kind (M:=Ia prog w) (s:={ s with heap:=h' }) (T:=.type "int") O (λv hv=>?_) (by decide) (by decide) hR
  obtain⟨i,f,rfl⟩:=Jg hv;obtain⟨t,e,_⟩:=Xm z (Cc f);rw[e];exact iC rfl
 ·unfold tf;rw[FB];obtain⟨t1,e1,_⟩:=Xm z (Cc f);obtain⟨t2,Z,_⟩:=Xm z (Cc q);have ei:vs.getD i ke=vs[i]:=by simp[Ee,f]
  have ej:vs.getD j ke=vs[j]:=by simp[Ee,q]
  rw[ei,ej,e1,Z];exact Ex hC
 ·have:=of_decide_eq_true h1;have:=of_decide_eq_true O;exact decide_eq_true (by lia)
 ·rw[il]at f q;have:=yu nd f q ja;rw[I f,I q,decide_eq_true_iff,decide_eq_true_iff]
  lia
 ·exact decide_eq_false (Int.lt_irrefl _)
 ·rw[il]at J hs;have Y:∀i∈y,i<ns.length:=λi f=>Db.mp (J.mem_iff.mp f);have go:∀l:List Nat,(∀i∈l,i<ns.length)->Eb (l.map λi=>vs.getD i ke) (l.map λi=>ns.getD i 0):=λl=>by
   induction l with
   |nil=>intro _;exact .nil
   |cons i l ih=>
    intro hl;have f:=hl i Re;obtain⟨t,e,_⟩:=Xm z (Cc (show i<vs.length by lia))
    have ei:vs.getD i ke=vs[i]'(by lia):=by simp[Ee,show i<vs.length by lia]
    rw[Se,Se,ei,e];exact .cons _ t (ih λj q=>hl j (Jd _ q))
  refine h _ (y.map λi=>ns.getD i 0) (by rw[yC];exact go y Y) ?_ ?_
  ·have e:ns=(Md ns.length).map λi=>ns.getD i 0:=by
    refine Fp (by simp) λi h1 O=>?_
    rw[Gr,List.getElem_range,I h1]
   exact(J.map _).trans (by rw[<- e])
  ·have pl:y.length=ns.length:=by rw[J.length_eq,ql]
   refine XE λi f=>?_;rw[Hb]at f;have:=of_decide_eq_true (hs i (by lia))
   rw[Gr,Gr];have g1:y.getD i 0=y[i]:=by simp[Ee,show i<y.length by lia]
   have g2:y.getD (i+1) 0=y[i+1]:=by simp[Ee,f]
   rw[g1,g2]at this;exact this

def Y0  (hc:X.calm=ua):Vf X (.builtin "sorted") (λxs H Q=>∃(a:Ea) (kvs:List (uc×V)) (ns:List Int),xs=[.ref a]/\H a=ma (.dK kvs)/\kvs.map (·.1)=ns.map (λz=>(.inl z:uc))/\ns.length<Og/\∀p (ms:List Int),H p=Aa->ms.Perm ns->ms.Pairwise (·< ·)->Q (.ref p) (upd H p (.lst (ms.map V.int)))):=by
 intro ka s σ H xs us Q I r h;obtain⟨a,kvs,ns,rfl,ha,hk,O,q⟩:=h;obtain⟨u,rfl,rx⟩:=Eh r;cases rx;obtain⟨hz,hS,Y,rv,m⟩:kvs.length<=Fb/\(a==Jf)=Ca/\∃Y,KV kvs Y/\s.heap.DictOf (He X.prog X.w) a Y:=I.hok a _ ha;obtain⟨ep,ya⟩:=m.dictAt;have J:Y.map (·.1)=kvs.map (·.1):=bA rv;have xa:Y.length=ns.length:=by
  have:=congrArg mn (J.trans hk)
  grind
 have nd:ns.Nodup:=by
  have hn:(Y.map (·.1)).Nodup:=let ⟨_,_,_,_,_,_,_,_,hn⟩:=m;hn
  rw[J,hk]at hn;exact(uf.mp hn).imp λh e=>h (by rw[e])
 refine fB (FZ (A:=X.A.in1) (PySem.W.kdl_dict (knd:=He X.prog X.w) (kvs:=Y) (ep:=ep) hS) (I.ok.hd hc) ya (by rw[xa];exact(by rw[Oi];unfold Og at O;lia)) λh' tk f va wa F=>?_)
 have hl:f.toList.length=ns.length:=by rw[cg,F.1,xa]
 refine zw ?_ (by rw[hl];exact(by rw[Oi];unfold Og at O;lia))
 have hI:Eb f.toList ns:=aA (J.trans hk) hl λj v e=>F.2 j v (by simp_all)
 have R:(h'.push { cls:=.type "list",data:=.seq f.toList.toArray }).get? h'.objs.size=ma (Be "list" f.toList.toArray 0):=Wd _ rfl;refine tj IB ⟨_,R,rfl⟩ pC (BH R hI nd (by lia) λout Z a1 a2 a3=>⟨_,rfl,?_⟩) (DB _)
 obtain⟨e,he⟩:=OB (out:=out) R;have za:s.heap.objs.size<=h'.objs.size:=uj wa;refine⟨.ref h'.objs.size,_,I.laid (t':=tk) (o:=.lst (Z.map V.int)) (λb ob y=>?_) za ?_,rfl,q _ Z (I.hok.fresh za) a2 a3⟩
 ·have hb:=va b ob y;have ja:=Jc hb;rw[JB (Sd ja) (by rw[Tp];lia)]
  exact Dc _ hb
 ·refine⟨by rw[Hb,a2.length_eq];exact(by rw[Oi];unfold Og at O;lia),out.toList,e,?_,?_⟩
  ·exact Hv a1
  ·rw[he]
end L2

namespace L2
open PySem PySem.Spec PyProof.Rows



abbrev Ci  (l:List Nat):Prop:=l.Pairwise (·< ·)
def Au   (u:Ci l)(h:i<j) hj:l[i]'(xr h hj)<l[j]:=Xa.mp u i j (xr h hj) hj h
theorem jA   (u:Ci xs.toList) j:∀f lo hi ,lo<=hi->hi<=xs.size->hi-lo<=f->(∀i h ,i<lo->xs[i]<j)->(∀i h ,hi<=i->j<=xs[i])->
  Fw xs j f lo hi<=xs.size/\(∀i h ,i<Fw xs j f lo hi->xs[i]<j)/\∀i h ,Fw xs j f lo hi<=i->j<=xs[i]
 |0,lo,hi,l1,l2,l3,a,b=>by
  have e:lo=hi:=by lia
  subst e;exact⟨l2,a,b⟩
 |f+1,lo,hi,l1,l2,l3,a,b=>by
  unfold Fw;by_cases c:lo<hi
  ·rw[if_pos c];have y:lo<=(lo+hi)/2:=by lia
   have F:(lo+hi)/2<hi:=by lia
   have I:(lo+hi)/2<xs.size:=by lia
   have g:xs.getD ((lo+hi)/2) j=xs[(lo+hi)/2]:=by simp_all
   dsimp only;rw[g];by_cases d:xs[(lo+hi)/2]<j
   ·rw[if_pos d];refine jA u j f _ hi (by lia) l2 (by lia) (λi h q=>?_) b
    rcases ow i ((lo+hi)/2)with z|z
    ·have:=Au u (i:=i) (j:=(lo+hi)/2) z (by simp_all)
     simp only[Lp]at this
     lia
    grind
   ·rw[if_neg d];refine jA u j f lo _ y (by lia) (by lia) a (λi h q=>?_)
    rcases ow ((lo+hi)/2) i with z|z
    ·have:=Au u (i:=(lo+hi)/2) (j:=i) z (by simpa using h)
     simp only[Lp]at this
     lia
    grind
  ·rw[if_neg c];have e:lo=hi:=by lia
   subst e;exact⟨l2,a,b⟩
def Av   (u:Ci xs.toList) j:uh xs j<=xs.size/\(∀i h ,i<uh xs j->xs[i]<j)/\∀i h ,uh xs j<=i->j<=xs[i]:=
 jA u j xs.size 0 xs.size (Mf _) (Mb _) (Mb _) (λ_ _ h=>absurd h (oC _)) λi h q=>absurd h (Mc.mpr q)
def HJ   (xs:Array α) p x (f:p<=xs.size):(Bp xs p x).toList=xs.toList.take p++x::xs.toList.drop p:=by
 simp[Bp,Ew,Zj]
def xZ   (u:Ci xs.toList)(no:∀i (h:i<xs.size),xs[i]≠j):Ci (Bp xs (uh xs j) j).toList:=by
 obtain⟨Y,O,F⟩:=Av u j;rw[HJ _ _ _ Y];generalize uh xs j=p at Y O F;refine Pa.mpr ⟨u.sublist (Lw _ _),db.mpr ⟨λy f=>?_,u.sublist (OK _ _)⟩,λx hx y f=>?_⟩
 ·obtain⟨i,R,rfl⟩:=Jg f;have q:p+i<xs.size:=by simp at R;lia
  have:=F (p+i) q (by lia)
  have:=no (p+i) q;simp only[QK,Lp]
  lia
 ·obtain⟨i,R,rfl⟩:=Jg hx;have I:i<p:=by grind
  have z:i<xs.size:=by lia
  have Z:=O i z I;simp only[MC,Lp];rcases Sc.mp f with rfl|f
  ·exact Z
  ·obtain⟨k,hk,rfl⟩:=Jg f;have J:p+k<xs.size:=by simp at hk;lia
   have:=F (p+k) J (by lia)
   simp only[QK,Lp]
   lia
def IW  {t:rh}(u:Ci t.place.toList)(h:∀i,t.slot j≠.live i):∀i (hi:i<t.place.size),t.place[i]≠j:=by
 intro i hi e;obtain⟨q,F,f⟩:=Av u j;have y:uh t.place j=i:=by
  rcases pL (uh t.place j) i with z|z|z
  ·have:=f (uh t.place j) (by lia) (Mb _)
   have:=Au u z (by simp_all)
   grind
  ·exact z
  grind
 refine h i ?_;unfold rh.slot
 simp_all
theorem pA     : ∀n (p:rh.Probe) {j } {d },pM t f h n p=ma (.empty j d)->t.slot j=.empty/\∀k,d=ma k->t.slot k=.dummy\/p.dummy=ma k
 |0,p,j,d,e=>by cases e
 |n+1,p,j,d,e=>by
  unfold pM at e;split at e
  ·lia
  ·rename_i z;obtain⟨a,b⟩:=pA n _ e;refine⟨a,λk hk=>?_⟩;rcases b k hk with q|q
   ·lia
   ·refine .inl ?_;have:(t.advance { p with dummy:=ma p.j }).dummy=ma p.j:=by
     unfold CL
     lia
    lia
  ·split at e
   ·cases e
   ·obtain⟨a,b⟩:=pA n _ e;refine⟨a,λk hk=>(b k hk).imp id λq=>?_⟩;rw[<- q];unfold CL
    lia
def qV  {t:rh}(u:Ci t.place.toList)(e:t.freeSlot h=ma (j,d)):∀i (hi:i<t.place.size),t.place[i]≠j:=by
 unfold rh.freeSlot at e;split at e
 ·rename_i k y z;obtain⟨a,b⟩:=pA _ _ z;injection e with e
  injection e with f e2
  refine IW u λi q=>?_;cases y with
  |none=>
   simp_all
  |some v=>
   have f:v=j:=f;subst f;rcases b v rfl with w|w
   ·lia
   ·cases w
 lia
structure TbOk (t:rh)(n:Nat)(led:Bool):Prop where
 up:Ci t.place.toList
 fits:t.fits n=ua
 led:t.led=led
def Kv  (t:rh) n:TbOk (t.standIn n) n t.led:=by
 refine⟨?_,?_,rfl⟩
 ·show Ci (Array.range n).toList;rw[Array.toList_range];exact List.pairwise_lt_range
 ·simp only[aC,rh.standIn,rh.fill,Array.size_range,beq_self_eq_true,Bool.true_and,decide_eq_true_eq,Od,Cp]
  lia
def yG  {f:Type}(l:List f) p x:(l.take p++x::l.drop p).Perm (x::l):=by
 have:=@mL _ x (l.take p) (l.drop p)
 simp_all
def RY       (k:TbOk t es.size f):(Vp t es h x).1.toList.Perm ((h,x)::es.toList)/\TbOk (Vp t es h x).2.1 (Vp t es h x).1.size f:=by
 have sz:t.place.size=es.size:=by
  have:=k.fits;simp only[aC,Kf,beq_iff_eq]at this
  lia
 unfold Vp;split
 ·rename_i slot z e;have y:=(Av k.up slot).1;have j:uh t.place slot<=es.size:=by lia
  refine⟨?_,?_⟩
  ·show(Bp es (uh t.place slot) (h,x)).toList.Perm _;rw[HJ _ _ _ j];exact yG _ _ _
  ·show TbOk (EM (t.put slot).1 (Bp es (uh t.place slot) (h,x)).size) (Bp es (uh t.place slot) (h,x)).size f;unfold EM;split
   ·rename_i q;exact⟨xZ k.up (qV k.up e),q,k.led⟩
   ·exact k.led ▸ Kv (t.put slot).1 _
 ·refine⟨?_,?_⟩
  ·simp_all
  ·show TbOk (t.standIn (es.size+1)) (es.push (h,x)).size f;rw[Array.size_push];exact k.led ▸ Kv t _
def PU  {q:Type}(f:Nat->Option q):∀n ,Ci (((Md n).filterMap λj=>(f j).map λb=>(j,b)).map (·.1))
 |n=>by
  rw[List.map_filterMap];have e:(λj=>((f j).map λb=>(j,b)).map (·.1))=λj=>if (f j).isSome=ua then ma j else Aa:=by
   funext j;cases f j<;>rfl
  rw[e];have:(Md n).filterMap (λj=>if (f j).isSome=ua then ma j else Aa)=(Md n).filter λj=>(f j).isSome:=by
   rw[<- List.filterMap_eq_filter];congr 1
  rw[this];exact List.pairwise_lt_range.sublist (xC)
theorem cJ  {f:Type}:∀l:List f,(Md l.length).filterMap (l[·]?)=l
 |[]=>rfl
 |x::r=>by
  rw[Zf,List.range_succ_eq_map,Vr,OC];exact congrArg (x::·) (cJ r)
def rZ  {j:Type}(f:Array j){o:List Nat}(h:o.Perm (Md f.size)):(o.filterMap (f[·]?)).Perm f.toList:=by
 have e:=cJ f.toList
 grind
def SZ      (k:TbOk t es.size f):(Xq t es n).1.toList.Perm es.toList/\TbOk (Xq t es n).2.1 (Xq t es n).1.size f:=by
 unfold Xq;split
 ·rename_i y o e;dsimp only;split
  ·rename_i q;simp only[Kf]at q;refine⟨?_,?_,q.2,?_⟩
   ·show(o.filterMap (es[·]?)).toList.Perm _;rw[Array.toList_filterMap];exact rZ es (List.isPerm_iff.mp q.1)
   ·show Ci y.place.toList;unfold aM YK at e;cases j:IL (FM n-1) (es.map (·.1))with
    |none=>simp_all
    |some z=>
     rw[j]at e;injection e with e
     injection e with e1 e2
     rw[<- e1];exact PU _ _
   ·show y.led=f;unfold aM YK at e;cases j:IL (FM n-1) (es.map (·.1))with
    |none=>simp_all
    |some z=>
     rw[j]at e;injection e with e
     injection e with e1 e2
     rw[<- e1];exact k.led
  ·exact⟨.refl _,k.led ▸ Kv t _⟩
 ·exact⟨.refl _,k.led ▸ Kv t _⟩
noncomputable def ao  : Da->Int
 |.int m _=>m
 |_=>0
def SEnt  (P:Ab)(w:Za)(l:List (Int×Da)):Prop:=∀e∈l,∃m t,e=((Ic P w).hash m,.int m t)
abbrev sivs  (f:Array (Int×Da)):List Int:=f.toList.map λe=>ao e.2
noncomputable abbrev setO  (f:Array (Int×Da))(ep:Nat)(t:rh):Obj:=⟨.type "set",Aa,.set f ep t,#[]⟩

def SEnt.elems   (h:SEnt P w l):ElemsOf (Ic P w) l:=λe f=>by
 obtain⟨m,t,rfl⟩:=h e f;exact⟨⟨m,Yq _ _ _ _,rfl⟩,rfl⟩
def SEnt.perm   (h:SEnt P w l)(p:f.Perm l):SEnt P w f:=λe j=>h e (p.mem_iff.mp j)
def cX   (h:SEnt P w l) x:(l.findIdx? λe=>(Ic P w).is x e.2)=Aa->x∉l.map λe=>ao e.2:=by
 intro y q;obtain⟨e,j,f⟩:=Uc.mp q;obtain⟨m,t,rfl⟩:=h e j;have f:m=x:=f;subst f;have:=List.findIdx?_eq_none_iff.mp y _ j;rw[Yq]at this
 lia
def WY   (h:SEnt P w l) x:(l.findIdx? λe=>(Ic P w).is x e.2)=ma j->x∈l.map λe=>ao e.2:=by
 intro y;obtain⟨q,f,_⟩:=List.findIdx?_eq_some_iff_getElem.mp y;obtain⟨m,t,e⟩:=h _ (zi q);refine Uc.mpr ⟨_,zi q,?_⟩;rw[e]at f ⊢;exact(Ic P w).inj _ _ _ (Yq _ _ _ _) f
def DH       (j:s.heap.get? S=ma (setO es ep t))(hz:f.size<=Fb)
  (h:∀h',h'.get? S=ma (setO f (ep+1) t')->lj S s.heap h'->Q () { s with heap:=h' }):wpAny (Ia P w) A (storeSet S f t') Q E s:=
 wpAny_storeSet_of j rfl (h _ ((oj _ j rfl).trans rfl) (nM ..)) hz
def cY          (ho:s.heap.get? S=ma (setO es ep t))(k:TbOk t es.size Y)(en:SEnt P w es.toList)(hb:es.size+1<Qj)
  (Z:∀b h' q xa t',h'.get? S=ma (setO q xa t')->TbOk t' q.size Y->SEnt P w q.toList->(if x∈sivs es then q=es else (sivs q).Perm (x::sivs es))->lj S s.heap h'->Q (ma b) { s with heap:=h' }) :
  wpAny (Ia P w) A (setAddByScan S (.int x u) ((Ic P w).hash x) es t) Q E s:=by
 have za:(Ic P w).is x (.int x u)=ua:=Yq _ _ _ _;have lo:=RY (h:=(Ic P w).hash x) (x:=.int x u) k;unfold setAddByScan;generalize Vp t es ((Ic P w).hash x) (.int x u)=r at lo;obtain⟨f,t1,wd,gv⟩:=r;obtain⟨J,k1⟩:=lo;dsimp only at J k1;refine Ua (ci (Ua (wpAny_setScan_of (knd:=Ic P w) za ho rfl k.fits en.elems ?_)));cases hf:es.toList.findIdx? λe=>(Ic P w).is x e.2 with
 |some j=>
  exact Kb (Z _ s.heap es ep t ho k en (by rw[if_pos (WY en x hf)]) (lj.refl ..))
 |none=>
  have no:=cX en x hf;have z1:f.size=es.size+1:=by have:=J.length_eq;simp_all
  have y:SEnt P w f.toList:=SEnt.perm (λe he=>by
   rcases Sc.mp he with rfl|he
   ·lia
   ·exact en e he) J
  have v1:(sivs f).Perm (x::sivs es):=J.map _;have quiet:∀{g:Bool->Sem Unit} (b:Bool) (s:Fa),(g ua=Dx "set.scan.the-table-gave-way" /\ g Ca=pure ())->wpAny (Ia P w) A (g b) (λ_ I=>I=s) E s:=λb s h=>by
   cases b
   ·rw[h.2];exact Kb rfl
   ·rw[h.1];exact ci rfl
  have z2:=fits_of_scanBound (z1 ▸ hb);refine Ua (Xf (quiet gv s ⟨rfl,rfl⟩) (λ_ I e=>?_) λ_ _ e=>e);subst e;split
  all_goals
   refine Ua (Kb ?_);simp only[if_true];refine Ua (DH ho z2 λh1 g1 F=>?_);split
   ·have ro:=SZ (n:=jM f.size) k1;generalize Xq t1 f (jM f.size)=r at ro;obtain⟨z,t2,gw⟩:=r;obtain⟨O,k2⟩:=ro;dsimp only at O k2 ⊢;refine Ua (Xf (quiet gw _ ⟨rfl,rfl⟩) (λ_ I e=>?_) λ_ _ e=>e);subst e;have z3:z.size=f.size:=by have:=O.length_eq;simp_all
    refine Ua (DH (s:={ I with heap:=h1 }) g1 (z3 ▸ z2) λh2 g2 R=>Kb ?_)
    exact Z _ h2 z _ t2 g2 k2 (y.perm O) (by grind) (F.trans R)
   ·exact Kb (Z _ h1 f _ t1 g1 k1 y (by lia) F)
def bY          (y:s.heap.get? S=ma (setO es ep t))(k:TbOk t es.size q)(en:SEnt P w es.toList)(J:es.size+1<Qj)
  (z:∀b h' tk f j t',h'.get? S=ma (setO f j t')->TbOk t' f.size q->SEnt P w f.toList->(if x∈sivs es then f=es else (sivs f).Perm (x::sivs es))->lj S s.heap h'->Q b { s with heap:=h',toks:=tk }) :
  wpAny (Ia P w) A (setAdd S (.int x u)) Q E s:=by
 refine Hh (Ua ((Ic P w).pyHash (Yq _ _ x u) (Hh ?_)));show wpAny _ _ (setAddHashedIn S (.int x u) ((Ic P w).hash x) (99999+1)) _ _ _;unfold setAddHashedIn;refine Ua (Nn y rfl k.fits ?_);dsimp only;rw[if_pos (byScan_of (knd:=Ic P w) rfl (by lia) en.elems)]
 exact Ua (cY y k en J λb h' f j t' O F Y R I=>Kb (z b h' _ f j t' O F Y R I))
section
variable {P:Ab}{w:Za}{A:Nb}{E:Da->Fa->Prop}{s:Fa}
def vH     (h:wants Q E r s):(∃v,r=.ok (.ret v)/\Q v s)\/∃e,r=.error e/\E e s:=by
 cases r with
 |error e=>exact .inr ⟨e,rfl,h⟩
 |ok f=>cases f<;>first|exact .inl ⟨_,rfl,h⟩|exact h.elim
def EG    (mk:codeAny (Ia P w) A.in1 (.call (.builtin "set.__new__") ⟨[.type "set",a],[]⟩) (wants Q1 E) s)
  (O:∀o s1,Q1 o s1->s1.TypeIs o "set" /\ codeAny (Ia P w) A.in1 (.call (.builtin "set.__init__") ⟨[o,a],[]⟩) (wants (λr s2=>r=.none/\Q o s2) E) s1):wpAny (Ia P w) A (call (.type "set") [a]) Q E s:=by
 have f1:=Bc.notType;have f2:=Bc.canCreate;have f3:=Bc.made;have f4:=Bc.sub;have f5:=Bc.init.lookup;have f6:=F.typeCall_set_1 a;obtain⟨c,tl,f7⟩:=Bc.mro;have j:∀{R:Ph->Fa->Prop},wpAny (Ia P w) A.in1 (Bb.«type.__call__» ⟨[.type "set",a],[]⟩) (λY y=>match Y with|.done f=>R (.ok f) y|.again c'=>c'.quiet=ua/\codeAny (Ia P w) A c' R y) (λe y=>R (.error e) y) s->
   codeAny (Ia P w) A (.builtin "type.__call__" ⟨[.type "set",a],[]⟩) R s:=λz=>Al F.entry_type_call ((Nb.under_plain (weight_type_call_type "set" [a] []) rfl).symm ▸ z)
 refine wpAny_call (codeAny_of_tree ?_)
 change wpAny _ _ (callAny (mj "set") ⟨[a],[]⟩) _ _ _
 refine Kb ⟨Code.quiet_builtin _ (by decide +kernel),j ?_⟩
 repeat (any_goals (first|assumption|wp_step))
 refine nn mk λr s1 Z=>?_;rcases vH Z with⟨o,rfl,ho⟩|⟨e,rfl,he⟩
 ·obtain⟨ty,J⟩:=O o s1 ho;have f8:=Bc.init.bind o
  repeat (any_goals (first|assumption|wp_step))
  refine nn J λr2 s2 I=>?_;rcases vH I with⟨v,rfl,rfl,q⟩|⟨e,rfl,he⟩
  ·repeat (any_goals (first|assumption|wp_step))
  ·exact he
 ·exact he
noncomputable abbrev Ae  (w:Za):Bool:=w.params.followText "set-order"
def pG    (h:Q1 (.ref s.heap.objs.size) { s with heap:=s.heap.push (setO #[] 0 (.fresh 0 0 (!Ae w))) }) :
  codeAny (Ia P w) A (.call (.builtin "set.__new__") ⟨[.type "set",a],[]⟩) (wants Q1 E) s:=by
 have f:=sub_set_self;refine NC F.plain_set_new F.entry_set_new (Il (F.newCall_set_1 a) ?_);rcases s with⟨q,g,d,j,y⟩;unfold Bb.«set.__new__» D2
 wp_walk
 refine Dp (Kb (Ua (wpAny_alloc (Kb (Kb ?_)))));exact h
end
def SetI  (P:Ab)(w:Za)(h:Cb)(S:Ea)(j:List Int):Prop:=
 ∃f q t,h.get? S=ma (setO f q t)/\TbOk t f.size (!Ae w)/\SEnt P w f.toList/\(sivs f).Nodup/\f.size<=j.length/\∀z,z∈sivs f↔z∈j
section
variable {P:Ab}{w:Za}{A:Nb}{E:Da->Fa->Prop}{s:Fa}
def SetI.at  {h h':Cb}(k:SetI P w h S f)(e:∀o,h.get? S=ma o->h'.get? S=ma o):SetI P w h' S f:=by
 obtain⟨j,y,t,q,r⟩:=k;exact⟨j,y,t,e _ q,r⟩
def SetI.fresh  (h:Cb):SetI P w (h.push (setO #[] 0 (.fresh 0 0 (!Ae w)))) h.objs.size []:=
 ⟨#[],0,_,Wd _ rfl,⟨Cw,rfl,rfl⟩,λe f=>absurd f (by simp),List.nodup_nil,Mf _,λz=>Hx⟩
def SetI.add       (k:SetI P w s.heap S J)(hb:J.length+1<Qj)(Y:∀b h' tk,SetI P w h' S (J++[x])->lj S s.heap h'->Q b { s with heap:=h',toks:=tk }) :
  wpAny (Ia P w) A (setAdd S (.int x u)) Q E s:=by
 obtain⟨es,ep,t,Z,tk,en,O,sz,mem⟩:=k;refine bY Z tk en (by lia) λb h' I q y R g' k' F f sb=>Y b h' I ⟨q,y,R,g',k',F,?_⟩ sb
 by_cases j:x∈sivs es
 ·rw[if_pos j]at f;subst f;refine⟨O,by rw[bg];lia,λz=>?_⟩
  rw[mem z,ee,Nc];exact⟨.inl,λh=>h.elim id λe=>(mem z).mp (e ▸ j)⟩
 ·rw[if_neg j]at f;refine⟨f.nodup_iff.mpr (Jb.mpr ⟨j,O⟩),?_,λz=>?_⟩
  ·have:=f.length_eq;simp only[Hb,Zf,cg]at this;rw[bg,Gw]
   lia
  ·rw[f.mem_iff,Sc,mem z,ee,Nc];exact Or.comm
theorem vA  : ∀{us } {ns } {i:Nat} {v },Eb us ns->us[i]?=ma v->∃z t,v=.int z t/\ns[i]?=ma z
 |_,_,0,v,.cons z t r,h=>⟨z,t,(Hd h).symm,rfl⟩
 |_,_,i+1,v,.cons z t r,h=>vA (i:=i) r (by simpa using h)
 |_,_,_,_,.nil,h=>by simp at h
theorem bI      (hh:A.handled=Aa)(hi:Eb items.toList ns)(y:S≠it)(Z:S≠a)(Y:a≠it)(O:items.size+1<Qj) :
  ∀n i (s:Fa),items.size-i=n->i<=items.size->s.heap.IsTupleIter it a i->s.heap.IsTuple a items->SetI P w s.heap S (ns.take i)->
   (∀h' tk,SetI P w h' S ns->(∀b o,b≠S->b≠it->s.heap.get? b=ma o->h'.get? b=ma o)->R (.ok (.ret .none)) { s with heap:=h',toks:=tk })->codeAny (Ia P w) A (.builtin "set.update.loop" ⟨[.ref S,.ref it],[]⟩) R s
 |n,i,s,hn,hle,st,tp,k,q=>by
  have nl:ns.length=items.size:=by
   have:=hi.length;simpa using this.symm
  have I:∀{R:Ph->Fa->Prop},wpAny (Ia P w) A.in1 (Bb.«set.update.loop» ⟨[.ref S,.ref it],[]⟩) (λza s'=>match za with|.done f=>R (.ok f) s'|.again c'=>c'.quiet=ua/\codeAny (Ia P w) A c' R s') (λe s'=>R (.error e) s') s->
    codeAny (Ia P w) A (.builtin "set.update.loop" ⟨[.ref S,.ref it],[]⟩) R s:=λz=>Al cM ((Kn Xw _).symm ▸ z)
  refine I (Ua (m:=bf (.ref it)) ?_)
  match n,hn with
  |0,hn=>
   have e:i=items.size:=by lia
   subst e;refine fL hh st tp (by simp) λh' sb=>Kb ?_
   refine q h' s.toks ?_ λb o _ j g=>sb b o j g;rw[Zj (by lia)]at k
   exact k.at λo g=>sb S o y g
  |n+1,hn=>
   have lt:i<items.size:=by lia
   obtain⟨z,t,ez,en⟩:=vA (i:=i) hi (Cc (by simpa using lt))
   refine ML st tp (Mp lt) λh1 st1 J=>?_;have ez:items[i]=.int z t:=by simpa using ez
   rw[ez];have k1:SetI P w h1 S (ns.take i):=k.at λo g=>J.extBut S o y g;refine Ua (Hh (SetI.add k1 (by rw[Yh];lia) λb h2 ja k2 F=>Kb ⟨Vk Xw _,?_⟩))
   have tk:ns.take i++[z]=ns.take (i+1):=by rw[RK,en];rfl
   rw[tk]at k2;have keep:∀b o,b≠S->b≠it->s.heap.get? b=ma o->h2.get? b=ma o:=λb o O j g=>F.extBut b o O (J.extBut b o j g);refine bI hh hi y Z Y O n (i+1) _ (by lia) lt (st1.extBut F.extBut (Ta y)) ((tp.extBut J.extBut Y).extBut F.extBut (Ta Z)) k2 λh' xa k' kp=>q h' xa k' λb o O j g=>kp b o O j (keep b o O j g)
def FX      (Z:A.handled=Aa)(q:s.heap.IsTuple a items)(hi:Eb items.toList ns)(Y:items.size+1<Qj)
  (hq:∀h' tk,SetI P w h' s.heap.objs.size ns->(∀b o,s.heap.get? b=ma o->h'.get? b=ma o)->Q (.ref s.heap.objs.size) { s with heap:=h',toks:=tk }):wpAny (Ia P w) A (call (.type "set") [.ref a]) Q E s:=by
 have f:a<s.heap.objs.size:=by obtain⟨o,ho,_⟩:=q;exact Jc ho
 refine EG (Q1:=λv s1=>v=.ref s.heap.objs.size/\s1={ s with heap:=s.heap.push (setO #[] 0 (.fresh 0 0 (!Ae w))) }) (pG ⟨rfl,rfl⟩) ?_
 rintro _ _ ⟨rfl,rfl⟩;have gS:(s.heap.push (setO #[] 0 (.fresh 0 0 (!Ae w)))).get? s.heap.objs.size=ma (setO #[] 0 (.fresh 0 0 (!Ae w))):=Wd _ rfl;have z:nC { s with heap:=s.heap.push (setO #[] 0 (.fresh 0 0 (!Ae w))) } (.ref s.heap.objs.size) "set" := ⟨_,gS,rfl⟩
 refine⟨z,NC Bc.init.plain F.entry_set_init (check_set_init_1 z ?_)⟩;have tp:=q.push (setO #[] 0 (.fresh 0 0 (!Ae w)));obtain⟨⟨c,dc,dt,sl⟩,ga,J,n,I⟩:=id tp;dsimp only at J I;subst J I;have j:Sv (.type "tuple") (.type "set")=pure Ca:=by rw[jp];kernel_rfl
 have O:Sv (.type "tuple") (.type "frozenset")=pure Ca:=by rw[jp];kernel_rfl
 have ne:(mj "tuple" == mj "dict")=Ca:=by decide
 unfold Bb.«set.__init__» noKeywords SM;generalize hg:Xd=it
 wp_walk
 subst hg;refine PC tp ?_;have sz:(s.heap.push (setO #[] 0 (.fresh 0 0 (!Ae w)))).objs.size=s.heap.objs.size+1:=yn ..;have y:=Wd (s.heap.push (setO #[] 0 (.fresh 0 0 (!Ae w)))) (o:=⟨.type "tuple_iterator",Aa,.fields #[.ref a,.int 0 0],#[]⟩) rfl;dsimp only;rw[sz]at y ⊢;refine Ua (ww (bI (A:=A.in1.in1) (ns:=ns) Z hi (Sd (Er _)) (vp f) (Sd (Gn f)) Y items.size 0 _ rfl (Mf _) ⟨_,y,rfl,rfl⟩ (tp.push _) ((SetI.fresh s.heap).at λo g=>Dc _ g) λh' tk k kp=>?_));refine Kb (Kb ⟨rfl,hq h' tk k λb o g=>?_⟩);have R:=Jc g;exact kp b o (Sd R) (Sd (Gn R)) (Dc _ (Dc _ g))
theorem HI      (hh:A.handled=Aa)(hi:Eb items.toList ns)(y:S≠it)(Z:S≠a)(Y:a≠it)(O:items.size+1<Qj) :
  ∀n i (s:Fa),items.size-i=n->i<=items.size->s.heap.IsListIter it a i->s.heap.IsList a items->SetI P w s.heap S (ns.take i)->
   (∀h' tk,SetI P w h' S ns->(∀b o,b≠S->b≠it->s.heap.get? b=ma o->h'.get? b=ma o)->R (.ok (.ret .none)) { s with heap:=h',toks:=tk })->codeAny (Ia P w) A (.builtin "set.update.loop" ⟨[.ref S,.ref it],[]⟩) R s
 |n,i,s,hn,hle,st,tp,k,q=>by
  have nl:ns.length=items.size:=by
   have:=hi.length;simpa using this.symm
  have I:∀{R:Ph->Fa->Prop},wpAny (Ia P w) A.in1 (Bb.«set.update.loop» ⟨[.ref S,.ref it],[]⟩) (λza s'=>match za with|.done f=>R (.ok f) s'|.again c'=>c'.quiet=ua/\codeAny (Ia P w) A c' R s') (λe s'=>R (.error e) s') s->
    codeAny (Ia P w) A (.builtin "set.update.loop" ⟨[.ref S,.ref it],[]⟩) R s:=λz=>Al cM ((Kn Xw _).symm ▸ z)
  refine I (Ua (m:=bf (.ref it)) ?_)
  match n,hn with
  |0,hn=>
   have e:i=items.size:=by lia
   subst e;refine MK hh st tp (by simp) λh' sb=>Kb ?_
   refine q h' s.toks ?_ λb o _ j g=>sb b o j g;rw[Zj (by lia)]at k
   exact k.at λo g=>sb S o y g
  |n+1,hn=>
   have lt:i<items.size:=by lia
   obtain⟨z,t,ez,en⟩:=vA (i:=i) hi (Cc (by simpa using lt))
   refine dL st tp (Mp lt) λh1 st1 J=>?_;have ez:items[i]=.int z t:=by simpa using ez
   rw[ez];have k1:SetI P w h1 S (ns.take i):=k.at λo g=>J.extBut S o y g;refine Ua (Hh (SetI.add k1 (by rw[Yh];lia) λb h2 ja k2 F=>Kb ⟨Vk Xw _,?_⟩))
   have tk:ns.take i++[z]=ns.take (i+1):=by rw[RK,en];rfl
   rw[tk]at k2;have keep:∀b o,b≠S->b≠it->s.heap.get? b=ma o->h2.get? b=ma o:=λb o O j g=>F.extBut b o O (J.extBut b o j g);refine HI hh hi y Z Y O n (i+1) _ (by lia) lt (st1.extBut F.extBut (Ta y)) ((tp.extBut J.extBut Y).extBut F.extBut (Ta Z)) k2 λh' xa k' kp=>q h' xa k' λb o O j g=>kp b o O j (keep b o O j g)
def EX      (Z:A.handled=Aa)(q:s.heap.IsList a items)(hi:Eb items.toList ns)(Y:items.size+1<Qj)
  (hq:∀h' tk,SetI P w h' s.heap.objs.size ns->(∀b o,s.heap.get? b=ma o->h'.get? b=ma o)->Q (.ref s.heap.objs.size) { s with heap:=h',toks:=tk }):wpAny (Ia P w) A (call (.type "set") [.ref a]) Q E s:=by
 have f:a<s.heap.objs.size:=by obtain⟨o,ho,_⟩:=q;exact Jc ho
 refine EG (Q1:=λv s1=>v=.ref s.heap.objs.size/\s1={ s with heap:=s.heap.push (setO #[] 0 (.fresh 0 0 (!Ae w))) }) (pG ⟨rfl,rfl⟩) ?_
 rintro _ _ ⟨rfl,rfl⟩;have gS:(s.heap.push (setO #[] 0 (.fresh 0 0 (!Ae w)))).get? s.heap.objs.size=ma (setO #[] 0 (.fresh 0 0 (!Ae w))):=Wd _ rfl;have z:nC { s with heap:=s.heap.push (setO #[] 0 (.fresh 0 0 (!Ae w))) } (.ref s.heap.objs.size) "set" := ⟨_,gS,rfl⟩
 refine⟨z,NC Bc.init.plain F.entry_set_init (check_set_init_1 z ?_)⟩;have tp:=q.push (setO #[] 0 (.fresh 0 0 (!Ae w)));obtain⟨⟨c,dc,dt,sl⟩,ga,J,n,I⟩:=id tp;dsimp only at J I;subst J I;have j:Sv (.type "list") (.type "set")=pure Ca:=by rw[jp];kernel_rfl
 have O:Sv (.type "list") (.type "frozenset")=pure Ca:=by rw[jp];kernel_rfl
 have ne:(mj "list" == mj "dict")=Ca:=by decide
 unfold Bb.«set.__init__» noKeywords SM;generalize hg:Xd=it
 wp_walk
 subst hg;refine WB tp ?_;have sz:(s.heap.push (setO #[] 0 (.fresh 0 0 (!Ae w)))).objs.size=s.heap.objs.size+1:=yn ..;have y:=Wd (s.heap.push (setO #[] 0 (.fresh 0 0 (!Ae w)))) (o:=⟨.type "list_iterator",Aa,.fields #[.ref a,.int 0 0],#[]⟩) rfl;dsimp only;rw[sz]at y ⊢;refine Ua (ww (HI (A:=A.in1.in1) (ns:=ns) Z hi (Sd (Er _)) (vp f) (Sd (Gn f)) Y items.size 0 _ rfl (Mf _) ⟨_,y,rfl,rfl⟩ (tp.push _) ((SetI.fresh s.heap).at λo g=>Dc _ g) λh' tk k kp=>?_));refine Kb (Kb ⟨rfl,hq h' tk k λb o g=>?_⟩);have R:=Jc g;exact kp b o (Sd R) (Sd (Gn R)) (Dc _ (Dc _ g))
end
set_option maxRecDepth 1000000
def F1  : Nl table "set.__iter__" = ma Bb.«frozenset.__iter__»:=
 entryFor_alias (id' := "frozenset.__iter__") (by rw[Sw];kernel_rfl) (by decide +kernel) (by decide +kernel) (by rw[Sw];kernel_rfl)
def Rq  : Slot "set_iterator" "__next__" "set_iterator.__next__" :=
 .of (owner := "set_iterator") (n := "__next__") (by rw[typeLookup_type,LK];kernel_rfl) (by decide +kernel) (by decide +kernel) (by decide +kernel) (.inl (by decide +kernel)) (by rw[jp];kernel_rfl)
def RJ  : Slot "set_iterator" "__iter__" "set_iterator.__iter__" :=
 .of (owner := "set_iterator") (n := "__iter__") (by rw[typeLookup_type,LK];kernel_rfl) (by decide +kernel) (by decide +kernel) (by decide +kernel) (.inl (by decide +kernel)) (by rw[jp];kernel_rfl)
def zI  : Nl table "set_iterator.__next__" = ma Bb.«set_iterator.__next__»:=entryFor_of_tree (by kernel_rfl)
def B0  : Nl table "set_iterator.__iter__" = ma Bb.«dict_keyiterator.__iter__»:=
 entryFor_alias (id' := "dict_keyiterator.__iter__") (by rw[Sw];kernel_rfl) (by decide +kernel) (by decide +kernel) (by rw[Sw];kernel_rfl)
def mI   a:Wp "set_iterator.__next__" ⟨[a],[]⟩:=by unfold Wp;kernel_rfl
def j0   a:Wp "set_iterator.__iter__" ⟨[a],[]⟩:=by unfold Wp;kernel_rfl
def ordW  (w:Za)(S:Ea)(ep:Nat)(f:Array (Int×Da)):List (Int×Da):=if Ae w=ua then (pickOrder (w.params.setOrder S ep) f).toList else f.toList
theorem HF    f:∀n k (l:List α) (out:Array α),l.length=n->(ZK f n k l out).toList.Perm (out.toList++l)
 |0,k,l,out,h=>by
  have:l=[]:=Pb.mp h;subst this;rw[xi];exact .refl _
 |n+1,k,l,out,h=>by
  have lt:f k%l.length<l.length:=Nat.mod_lt _ (by lia)
  unfold ZK;rw[Cc lt];refine(HF f n (k+1) _ _ (by rw[CM lt];lia)).trans ?_
  rw[zp,sf];refine Qr _ ?_;have e:=yG (l.eraseIdx (f k%l.length)) (f k%l.length) l[f k%l.length];have q:l.eraseIdx (f k%l.length)=l.take (f k%l.length)++l.drop (f k%l.length+1):=QM ..;have j:(l.take (f k%l.length)).length=f k%l.length:=List.length_take_of_le (uj lt);rw[q,List.take_left' j,List.drop_left' j,<- xh lt,Vg]at e;rw[q];exact e.symm
def QH   w S ep (f:Array (Int×Da)):(ordW w S ep f).Perm f.toList:=by
 unfold ordW;split
 ·have:=HF (w.params.setOrder S ep) f.size 0 f.toList #[] (by simp)
  rw[Qi]at this;exact this
 simp_all
noncomputable def Gi  (t:rh):Nat->Nat
 |0=>0
 |i+1=>t.place.getD i 0+1
def tX   (u:Ci t.place.toList)(h:i<=t.place.size):uh t.place (Gi t i)=i:=by
 obtain⟨q,f,y⟩:=Av u (Gi t i);cases i with
 |zero=>
  rcases Nat.eq_zero_or_pos (uh t.place (Gi t 0))with z|z
  ·exact z
  ·have:=f 0 (by lia) z
   exact absurd this (oC _)
 |succ i=>
  have e:Gi t (i+1)=t.place[i]'h+1:=by simp[Gi,Array.getD,show i<t.place.size from h]
  rw[e]at q f y ⊢;generalize uh t.place (t.place[i]'h+1)=p at q f y;have F:i<p:=by
   grind
  rcases ow (i+1) p with z|z
  ·have q1:=f (i+1) (by lia) z
   have q2:=Au u (i:=i) (j:=i+1) (Er _) (by grind)
   simp only[Lp]at q2
   lia
  ·lia

def TU       (q:s.heap.get? S=ma (setO es ep t))(k:TbOk t es.size (!Ae w))(y:Ae w=ua\/(!t.plain&&decide (es.size>1))=Ca)(F:Ae w=Ca->slot=Gi t i)(hi:i<=es.size)
  (h:∀f,(Ae w=Ca->f=Gi t (i+1))->Q ((ordW w S ep es)[i]?.map λe=>(e.2,f)) s):wpAny (Ia P w) A (Ws S slot i ep) Q E s:=by
 have sz:t.place.size=es.size:=by
  have:=k.fits;simp only[aC,Kf,beq_iff_eq]at this
  lia
 have I:=k.led;unfold Ws;refine Ua (Nn q rfl k.fits (Ua (Ua (Dp (Kb ?_)))));obtain⟨b,j⟩:∃b,Ae w=b:=⟨_,rfl⟩
 ·cases b with
  |true=>
   refine Ih (λ_=>Ih (λx=>absurd x (by lia)) λ_=>?_) λx=>absurd j x
   unfold setWalk;refine Ua (Ua (Nn q rfl k.fits (Ua (Ua (Dp (Kb (Ih (λ_=>Ua (Dp (Kb (Kb ?_)))) λx=>absurd j x)))))));have:=h slot λx=>by lia
   rw[ordW,if_pos j,af]at this;exact this
  |false=>
   refine Ih (λx=>absurd (j.symm.trans x) Pd) λ_=>Ih (λx=>?_) λ_=>?_
   ·rcases y with z|z
    ·lia
    ·exact absurd (z.symm.trans x) Pd
   ·refine Ua (Ih (c:=(!t.led && !es.isEmpty)=ua) (λx=>absurd x (by lia)) λ_=>Kb (Kb ?_))
    rw[F j,tX k.up (by lia)]
    have:=h (Gi t (i+1)) λ_=>rfl;rw[ordW,if_neg (by lia),af]at this
    rcases ow i es.size with z|z
    ·have p:t.place[i]?=ma (t.place[i]'(by lia)):=Mp (by lia)
     rw[Mp z]at this ⊢;rw[p];simpa[Gi,Array.getD,show i<t.place.size by lia]using this
    simp_all
section
variable {P:Ab}{w:Za}{A:Nb}{E:Da->Fa->Prop}{s:Fa}
def SH   {T id:String}(y:s.TypeIs (.ref I) T)(j:Slot T (pj "__next__") id)(en:Nl table id=ma B)(ok:Wp id ⟨[.ref I],[]⟩)
  (body:wpAny (Ia P w) A.in1 (B ⟨[.ref I],[]⟩) (λf s'=>∃v,f=.done (.ret v)/\Q (ma v) s') (λe s'=>s'.TypeIs e "StopIteration" /\ Q Aa s') s):wpAny (Ia P w) A (bf (.ref I)) Q E s:=by
 unfold bf;refine Ua (wpAny_attempt (Pr y j (tj j y en (Xf body (λf s' h=>?_) λe s' h=>?_) ok)))
 ·obtain⟨v,rfl,q⟩:=h;exact⟨v,rfl,Kb q⟩
 ·exact Ua (wpAny_isInstance (T := "StopIteration") (b:=ua) h.1 isSubtype_stop (Kb h.2))
def tG  {Q:Fin->Fa->Prop}(f:A.handled=Aa)(h:∀h' e,(∀b o,s.heap.get? b=ma o->h'.get? b=ma o)->nC { s with heap:=h' } e "StopIteration" -> E e { s with heap:=h' }) :
  wpAny (Ia P w) A (newExc (.type "StopIteration") [] >>= λe=>raiseNew e) Q E s:=by
 refine Ua ?_;unfold newExc newTuple
 wp_walk
 exact wpAny_raiseNew_none f (h _ _ (λb o g=>Dc _ (Dc _ g)) ⟨_,Wd _ rfl,rfl⟩)
noncomputable abbrev vt  (f:Da)(i:Nat)(S:Ea)(n ep:Nat):Obj:=⟨.type "set_iterator",Aa,.fields #[f,.int i 0,.ref S,.int n 0,.int ep 0],#[]⟩
def SiAt  (P:Ab)(w:Za)(I S:Ea)(f:Array (Int×Da))(ep:Nat)(t:rh)(i:Nat)(h:Cb):Prop:=
 ∃j:Nat,h.get? I=ma (vt (.int j 0) i S f.size ep)/\(Ae w=Ca->j=Gi t i)/\h.get? S=ma (setO f ep t)
def qG       (hh:A.handled=Aa)(R:S≠I)(k:TbOk t es.size (!Ae w))(nd:Ae w=ua\/(!t.plain&&decide (es.size>1))=Ca)(hi:i<=es.size)(st:SiAt P w I S es ep t i s.heap)
  (y:∀e h',(ordW w S ep es)[i]?=ma e->SiAt P w I S es ep t (i+1) h'->(∀b o,b≠I->s.heap.get? b=ma o->h'.get? b=ma o)->Q (ma e.2) { s with heap:=h' })
  (q:(ordW w S ep es)[i]?=Aa->∀h',(∀b o,b≠I->s.heap.get? b=ma o->h'.get? b=ma o)->Q Aa { s with heap:=h' }):wpAny (Ia P w) A (bf (.ref I)) Q E s:=by
 obtain⟨sl,O,hs,gS⟩:=st;have ty:s.TypeIs (.ref I) "set_iterator" := ⟨_,O,rfl⟩;refine SH ty Rq zI (mI _) ?_;have size:∀{Z:Array (Int×Da)->Fa->Prop},Z es s->wpAny (Ia P w) A.in1 (Zq S) Z (λe J=>J.TypeIs e "StopIteration" /\ Q Aa J) s:=λz=>Ua (Nn gS rfl k.fits (Kb z));have nx:∀{Z:Option (Da×Nat)->Fa->Prop},(∀j,(Ae w=Ca->j=Gi t (i+1))->Z ((ordW w S ep es)[i]?.map λe=>(e.2,j)) s)->wpAny (Ia P w) A.in1 (Ws S sl i ep) Z (λe J=>J.TypeIs e "StopIteration" /\ Q Aa J) s:=λz=>TU gS k nd hs hi z;unfold Bb.«set_iterator.__next__»;generalize hg:Ws=gn;generalize za:Zq=ge
 wp_walk using Tw O
 subst hg za;refine size (Ih (λx=>absurd x (by rw[bne_self_eq_false];exact Pd)) λ_=>Ua (nx λj xa=>?_))
 have up:∀(f:Array Da->Array Da) (b:Ea) (o:Obj),b≠I->s.heap.get? b=ma o->(s.heap.update I (Wh f)).get? b=ma o:=λf b o F g=>(vj _ _ (Ta F)).trans g;cases ho:(ordW w S ep es)[i]? with
 |some e=>
  refine Ua (Ui O rfl (Ep 4) ?_);have g1:=oj (Wh (·.setIfInBounds 0 (Wc j))) O rfl;refine Ua (Ui g1 rfl (UL 3) (Kb ⟨_,rfl,y e _ ho ⟨j,?_,xa,?_⟩ λb o F g=>?_⟩))
  ·exact oj _ g1 rfl
  ·exact(vj _ _ (Ta R)).trans (up _ S _ R gS)
  ·exact(vj _ _ (Ta F)).trans (up _ b o F g)
 |none=>
  refine Ua (Ui O rfl (nL (Ep 2)) ?_);exact tG hh λh' e kp Y=>⟨Y,q ho h' λb o F g=>kp b o (up _ b o F g)⟩
def DZ     {Q:Nat->Fa->Prop}(f:n≠0)(h:∀i d,i<n->Q i { s with drawn:=d }):wpAny M A (choose src n) Q E s:=
 λ_ _ _=>⟨f,h _ _ (Nat.mod_lt _ (Nat.pos_of_ne_zero f))⟩
def dZ  {f:Type}(l:List f) i h:(l[i]::l.eraseIdx i).Perm l:=by
 have q:l.eraseIdx i=l.take i++l.drop (i+1):=QM ..;have e:=(@mL _ l[i] (l.take i) (l.drop (i+1))).symm;rw[<- xh h,Vg]at e;rw[q];exact e
theorem GI    : ∀n (l:List α) {Q } {s },l.length=n->(∀o d,o.Perm l->Q o { s with drawn:=d })->wpAny M A (drawOrder n l) Q E s
 |0,l,Q,s,hl,h=>by
  have:l=[]:=Pb.mp hl;subst this;exact Kb (h [] s.drawn (.refl _))
 |n+1,[],Q,s,hl,h=>by cases hl
 |n+1,x::r,Q,s,hl,h=>by
  refine Ua (DZ (by simp) λi d f=>?_)
  rw[Cc f];refine Ua (GI n _ (by rw[CM f];lia) λo j p=>Kb ?_)
  exact h _ j ((p.cons _).trans (dZ _ i f))
def DrAt  (I S T:Ea)(q:List Nat)(f:Array (Int×Da))(ep:Nat)(t:rh)(i:Nat)(h:Cb):Prop:=
 h.get? I=ma (vt (.ref T) i S f.size ep)/\h.get? T=ma ⟨.type "tuple",Aa,.seq (q.map λj:Nat=>qi j 0).toArray 0,#[]⟩/\h.get? S=ma (setO f ep t)
def AF         (hh:A.handled=Aa)(ja:S≠I)(hT:T≠I)(k:TbOk t es.size va)(hp:∀j∈y,j<es.size)(st:DrAt I S T y es ep t i s.heap)
  (J:∀(e:Int×Da) h',(y.map λj=>es.getD j (0,.none))[i]?=ma e->DrAt I S T y es ep t (i+1) h'->(∀b o,b≠I->s.heap.get? b=ma o->h'.get? b=ma o)->Q (ma e.2) { s with heap:=h' })
  (F:(y.map λj=>es.getD j (0,.none))[i]?=Aa->∀h',(∀b o,b≠I->s.heap.get? b=ma o->h'.get? b=ma o)->Q Aa { s with heap:=h' }):wpAny (Ia P w) A (bf (.ref I)) Q E s:=by
 obtain⟨R,gT,gS⟩:=st;have ty:s.TypeIs (.ref I) "set_iterator" := ⟨_,R,rfl⟩;refine SH ty Rq zI (mI _) ?_;have size:∀{Z:Array (Int×Da)->Fa->Prop},Z es s->wpAny (Ia P w) A.in1 (Zq S) Z (λe s'=>s'.TypeIs e "StopIteration" /\ Q Aa s') s:=λz=>Ua (Nn gS rfl k.fits (Kb z));unfold Bb.«set_iterator.__next__»;generalize hg:setNextDrawn=gn;generalize za:Zq=ge
 wp_walk using Tw R
 subst hg za;refine size (Ih (λx=>absurd x (by rw[bne_self_eq_false];exact Pd)) λ_=>Ua (wpAny_seqItems gT rfl ?_))
 have Y:∀(f:Array Da->Array Da) (b:Ea) (o:Obj),b≠I->s.heap.get? b=ma o->(s.heap.update I (Wh f)).get? b=ma o:=λf b o O g=>(vj _ _ (Ta O)).trans g;dsimp only;rw[Si];cases q:y[i]? with
 |some j=>
  have hj:j<es.size:=hp j (Vc q);have e1:(Yn (λj:Nat=>qi j 0) y).toArray[i]?=ma (.int j 0):=by simp[q]
  have e2:(y.map λj=>es.getD j (0,ke))[i]?=ma es[j]:=by simp[q,hj]
  rw[e1];dsimp only;unfold setNextDrawn;refine Ua (Ua (Nn gS rfl k.fits (Ih (λx=>absurd x (by simp)) λ_=>?_)))
  dsimp only;rw[Si,Mp hj];refine Kb (Ua (Ui R rfl (UL 3) (Kb ⟨_,rfl,J es[j] _ e2 ⟨?_,?_,?_⟩ λb o O g=>Y _ b o O g⟩)))
  ·exact oj _ R rfl
  ·exact Y _ T _ hT gT
  ·exact Y _ S _ ja gS
 |none=>
  have e1:(Yn (λj:Nat=>qi j 0) y).toArray[i]?=Aa:=by simp[q]
  have e2:(y.map λj=>es.getD j (0,ke))[i]?=Aa:=by simp[q]
  rw[e1];refine Ua (Ui R rfl (Ep 4) ?_);have g1:=oj (Wh (·.setIfInBounds 0 (Wc 0))) R rfl;refine Ua (Ui g1 rfl (nL (Ep 2)) ?_);exact tG hh λh' e kp xa=>⟨xa,F e2 h' λb o O g=>kp b o ((vj _ _ (Ta O)).trans (Y _ b o O g))⟩
end

abbrev SMet  (f:List (Int×Da)):Nat->Da->Prop:=λi v=>∃e,f[i]?=ma e/\v=e.2
def rG     (g:s.heap.get? I=ma o)(c:o.cls=.type "set_iterator")(h:Q (.ref I) s):wpAny (Ia P w) A (Xd (.ref I)) Q E s:=by
 have f:s.TypeIs (.ref I) "set_iterator" := ⟨_,g,c⟩;exact wpAny_pyIter_slot f RJ (tj RJ f B0 (Kb ⟨_,rfl, "set_iterator",_,f,Rq.lookup,h⟩) (j0 _))
def nW      (hh:A.handled=Aa)(q:S≠I)(k:TbOk t es.size (!Ae w))(Y:Ae w=ua\/(!t.plain&&decide (es.size>1))=Ca) :
  Walks P w A I [I,S] [I] es.size (SMet (ordW w S ep es)) (SiAt P w I S es ep t):=by
 have len:(ordW w S ep es).length=es.size:=by simpa using (QH w S ep es).length_eq
 refine⟨λb F=>by rw[Nc.mp F];exact Re,λi h y f kp=>?_,λi s Q E hi f j=>?_,λs Q E f j=>?_,λi s Q E f j=>?_⟩
 ·obtain⟨Z,R,hs,gS⟩:=f;exact⟨Z,kp I (by simp) _ R,hs,kp S (by simp) _ gS⟩
 ·refine qG hh q k Y (uj hi) f (λe y J O kp=>?_) λz=>?_
  ·exact j e.2 y s.toks ⟨e,J,rfl⟩ O λb o F g=>kp b o (λz=>F (by simp[z])) g
  ·exact absurd (List.getElem?_eq_none_iff.mp z) (by lia)
 ·refine qG hh q k Y (Mb _) f (λe y J=>?_) λ_ y kp=>?_
  ·exact absurd (Ba.mp J).1 (by lia)
  ·exact j y s.toks λb o F g=>kp b o (λz=>F (by simp[z])) g
 ·obtain⟨Z,R,_⟩:=f;exact rG R rfl j
def mW        (hh:A.handled=Aa)(J:S≠I)(hT:T≠I)(k:TbOk t es.size xa)(Z:O.Perm (Md es.size)) :
  Walks P w A I [I,S,T] [I] es.size (SMet (O.map λj=>es.getD j (0,.none))) (DrAt I S T O es ep t):=by
 have len:O.length=es.size:=by simpa using Z.length_eq
 have lt:∀j∈O,j<es.size:=λj hj=>Db.mp (Z.mem_iff.mp hj);refine⟨λb y=>by rw[Nc.mp y];exact Re,λi h F f kp=>?_,λi s Q E hi f q=>?_,λs Q E f q=>?_,λi s Q E f q=>?_⟩
 ·obtain⟨gI,gT,gS⟩:=f;exact⟨kp I (by simp) _ gI,kp T (by simp) _ gT,kp S (by simp) _ gS⟩
 ·refine AF hh J hT k lt f (λe F R Y kp=>?_) λz=>?_
  ·exact q e.2 F s.toks ⟨e,R,rfl⟩ Y λb o y g=>kp b o (λz=>y (by simp[z])) g
  ·exact absurd (List.getElem?_eq_none_iff.mp z) (by rw[Hb];lia)
 ·refine AF hh J hT k lt f (λe F R=>?_) λ_ F kp=>?_
  ·exact absurd (Ba.mp R).1 (by rw[Hb];lia)
  ·exact q F s.toks λb o y g=>kp b o (λz=>y (by simp[z])) g
 ·exact rG f.1 rfl q
def WV  {q:List Nat}{f:Array (Int×Da)}(y:q.Perm (Md f.size)):(q.map λj=>f.getD j (0,.none)).Perm f.toList:=by
 refine(y.map _).trans ?_;have:((Md f.size).map λj=>f.getD j (0,ke))=f.toList:=by
  refine Fp (by simp) λi F z=>?_
  have:i<f.size:=by simpa using z
  simp[this]
 rw[this]
def iX  {s: Fa}(hh:A.handled=Aa)(y:s.heap.get? S=ma (setO es ep t))(k:TbOk t es.size (!Ae w))(hz:es.size<=Fb)
  (hq:∀I h' d fp O St,Walks P w A I fp [I] es.size (SMet O) St->O.Perm es.toList->St 0 h'->s.heap.objs.size<=I->(∀b∈fp,b=S\/s.heap.objs.size<=b)->(∀b o,s.heap.get? b=ma o->h'.get? b=ma o)->Q (.ref I) { s with heap:=h',drawn:=d }) :
  wpAny (Ia P w) A (Xd (.ref S)) Q E s:=by
 have ty:s.TypeIs (.ref S) "set" := ⟨_,y,rfl⟩;have lS:=Jc y;refine wpAny_pyIter_slot ty F.slot_set_iter (tj F.slot_set_iter ty F1 ?_ (F.args_set_iter_1 _));have st:∀{s':Fa} {Z:Array (Int×Da)×Nat×rh->Fa->Prop},s'.heap.get? S=ma (setO es ep t)->Z (es,ep,t) s'->wpAny (Ia P w) A.in1 (setState S) Z E s':=λg z=>Nn g rfl k.fits z;unfold Bb.«frozenset.__iter__» setDrawn setEpoch E2 Zq;generalize hg:setState=gs;generalize hd:@drawOrder Nat=gd
 wp_walk
 subst hg;refine st y (Kb (Kb (Ua (Ua (st y (Ua (Ua (Dp (Kb (Kb ?_))))))))));subst hd;have xa:A.in1.handled=Aa:=hh;have J:=λo=>yn s.heap o;refine Ih (λhc=>?_) λhc=>?_
 ·refine Ua (GI es.size _ (by simp) λY d p=>Ua (wpAny_newTuple ?_ (by rw[Hb,p.length_eq,ql];exact hz)))
  have R:=Dc (⟨.type "tuple",Aa,.seq (Y.map λj:Nat=>qi j 0).toArray 0,#[]⟩:Obj) y;refine Ua (Ua (st (s':={ s with heap:=s.heap.push _,drawn:=d }) R (Kb (Ua (yh ?_)))))
  have nI:s.heap.objs.size≠s.heap.objs.size+1:=Sd (Er _);have gT:=Wd s.heap (o:=⟨.type "tuple",Aa,.seq (Y.map λj:Nat=>qi j 0).toArray 0,#[]⟩) rfl;have gI:=Wd (s.heap.push ⟨.type "tuple",Aa,.seq (Y.map λj:Nat=>qi j 0).toArray 0,#[]⟩) (o:=vt (.ref s.heap.objs.size) 0 S es.size ep) rfl;have q:=hq _ _ d _ _ _ (mW (I:=s.heap.objs.size+1) (T:=s.heap.objs.size) (ep:=ep) hh (Sd (Gn lS)) nI k p) (WV p) ⟨(J _ ▸ gI),Dc _ gT,Dc _ R⟩ (qp _)
   (λb f=>by
    simp only[Sc,Rg,or_false]at f;rcases f with rfl|rfl|rfl
    ·exact .inr (qp _)
    ·exact .inl rfl
    ·exact .inr (Mb _)) λb o g=>Dc _ (Dc _ g)
  refine Kb ⟨_,rfl, "set_iterator",_,⟨_,Wd _ rfl,rfl⟩,Rq.lookup,?_⟩;rw[<- J ⟨.type "tuple",Aa,.seq (Y.map λj:Nat=>qi j 0).toArray 0,#[]⟩]at q;exact q
 ·refine Ua (Kb (Ua (Ua (st y (Kb (Ua (yh ?_)))))));have nd:Ae w=ua\/(!t.plain&&decide (es.size>1))=Ca:=by
   cases f:Ae w with
   |true=>exact .inl rfl
   |false=>
    refine .inr (Bool.eq_false_iff.mpr λz=>hc ?_);show(!Ae w&&(!t.plain&&decide (es.size>1)))=ua;rw[f,z];rfl
  have gI:=Wd s.heap (o:=vt (.int 0 0) 0 S es.size ep) rfl;refine Kb ⟨_,rfl, "set_iterator",_,⟨_,Wd _ rfl,rfl⟩,Rq.lookup,?_⟩;refine hq _ _ s.drawn _ _ _ (nW (ep:=ep) hh (Sd lS) k nd) (QH w S ep es) ⟨0,gI,λ_=>rfl,Dc _ y⟩ (Mb _) (λb f=>?_) λb o g=>Dc _ g;simp only[Sc,Rg,or_false]at f;rcases f with rfl|rfl
  ·exact .inr (Mb _)
  ·exact .inl rfl
section
variable {P:Ab}{w:Za}{A:Nb}{E:Da->Fa->Prop}{s:Fa}
def gX    (f:s.TypeIs (.ref S) "set")(h:Q Ca s):wpAny (Ia P w) A (JM (.ref S)) Q E s:=by
 have y:=F.slot_set_len.lookup;have q:=sub_set_self;have j:splitId "set.__len__" = ma ("set", "__len__"):=by decide +kernel
 unfold JM;refine Ua (wpAny_specialOf f y ?_);dsimp only;rw[j];dsimp only;refine Ua (wpAny_isInstance f q (Ih (λz=>by cases z) λ_=>Ih (λ_=>Ua (rp f (Kb h))) λz=>absurd (by decide +kernel) z))
def bW {L S:Ea}{J:Array (Int×Da)}{ep:Nat}{t:rh}{R:Ph->Fa->Prop}(hh:A.handled=Aa)(gS:s.heap.get? S=ma (setO J ep t))(k:TbOk t J.size (!Ae w))(hz:J.size<=Fb)(gL:s.heap.get? L=ma ⟨.type "list",Aa,.seq #[] 0,#[]⟩)(Z:L≠S)
  (hq:∀h' tk d acc c y,y.Perm J.toList->Zs (SMet y) acc J.size->h'.get? L=ma ⟨.type "list",Aa,.seq acc c,#[]⟩->(∀b o,b≠L->s.heap.get? b=ma o->h'.get? b=ma o)->R (.ok (.ret (.ref L))) { s with heap:=h',toks:=tk,drawn:=d }) :
  wpAny (Ia P w) A.in1 (fD (.ref L) (.ref S) (.ref L)) (λja s'=>match ja with|.done f=>R (.ok f) s'|.again c'=>c'.quiet=ua/\codeAny (Ia P w) A c' R s') (λe s'=>R (.error e) s') s:=by
 have ty:s.TypeIs (.ref S) "set" := ⟨_,gS,rfl⟩;have lL:=Jc gL;have e1:(RC (.ref L) (.ref S)||mj "set" == mj "list" || mj "set" == mj "tuple")=Ca:=by
  have:RC (.ref L) (.ref S)=Ca:=by simp[RC,Z]
  rw[this];decide
 unfold fD;refine Ua (rp ty (Ih (λz=>absurd (e1.symm.trans z) Pd) λ_=>Ua (iX (A:=A.in1) hh gS k hz λI h1 d fp y St W pm st lI xa kp=>Ua (Hh (gX ⟨_,kp _ _ gS,rfl⟩ ?_)))));have F:=kp _ _ gL;have Y:L∉fp:=λm=>by
  rcases xa L m with z|z
  ·exact Z z
  ·exact absurd lL (Mc.mpr z)
 have O:∀(h2:Cb) (c tk:Nat),St 0 h2->h2.get? L=ma ⟨.type "list",Aa,.seq #[] c,#[]⟩->(∀b o,b≠L->s.heap.get? b=ma o->h2.get? b=ma o)->codeAny (Ia P w) A (.builtin "list.extend.loop" ⟨[.ref L,.ref I,.ref L],[]⟩) R { s with heap:=h2,toks:=tk,drawn:=d }:=by
  intro h2 c tk st2 g2 za;refine codeAny_extend_loopS W.toS hz L Y (.ref L) J.size 0 _ #[] c rfl (Mf _) st2 g2 (Zs.nil _) λs' acc c' mv g' it=>?_;have:=hq s'.heap s'.toks d acc c' y pm it g' λb o q g=>mv.heap b o (λm=>?_) (za b o q g)
  ·rw[Moved.eq_with mv];exact this
  ·rcases Sc.mp m with z|m
   ·exact q z
   ·have:=Jc g;rw[Nc.mp m]at this;exact absurd this (Mc.mpr lI)
 refine Ih (λ_=>Ua (ci (Ua ?_))) λ_=>Kb ⟨Vk qM _,O h1 0 _ st F λb o _ g=>kp b o g⟩;refine Ua (wpAny_updateSeq F rfl ?_);have g2:=oj (si (·.push ke)) F rfl;refine wpAny_updateSeq (hz:=by seq_fits) g2 rfl ?_
 have g3:=oj (si (·.pop)) g2 rfl;have j:∀b o,b≠L->h1.get? b=ma o->((h1.update L (si (·.push ke))).update L (si (·.pop))).get? b=ma o:=λb o q g=>by
  rw[vj _ _ (Ta q),vj _ _ (Ta q)];exact g
 exact Kb ⟨Vk qM _,O _ _ _ (W.frame 0 _ _ st λb q o g=>j b o (λz=>Y (z ▸ q)) g) g3 λb o q g=>j b o q (kp b o g)⟩
end
def p0        {C:Array Da->Fa->Prop} 
  (ext:∀Z ,(∀s' acc c,s'.heap.get? s.heap.objs.size=ma ⟨.type "list",Aa,.seq acc c,#[]⟩->C acc s'->Z (.ok (.ret (.ref s.heap.objs.size))) s')->
   codeAny (Ia P w) A (.builtin "list.__iadd__" ⟨[.ref s.heap.objs.size,v],[]⟩) Z { s with heap:=s.heap.push ⟨.type "list",Aa,.seq #[] 0,#[]⟩ })
  (h:∀s' acc,C acc s'->s.heap.objs.size<s'.heap.objs.size->R acc.toList s'):wpAny (Ia P w) A (Xs v) R E s:=by
 have quiet:Code.quiet (.builtin "list.__iadd__" ⟨[.ref s.heap.objs.size,v],[]⟩)=ua:=Vk ZC _;have q:=λZ=>Ua (E:=λe s'=>Z (.error e) s') (M:=Ia P w) (A:=A.in1) (Q:=λy s'=>match y with|.done f=>Z (.ok f) s'|.again c'=>c'.quiet=ua/\codeAny (Ia P w) A c' Z s') (m:=Aj []) (f:=λl=>again (.builtin "list.__iadd__" ⟨[l,v],[]⟩)) (s:=s)
 refine Ua (ww (Al entry_proto_collect' ((Kn OM _).symm ▸ q _ (yh (Kb ⟨quiet,ext _ λs' acc c j ok=>?_⟩)))));exact Ua (Wv j (Kb (h s' acc ok (Jc j))))
section
variable {X:Cx}{pins:List (Ea×Obj)}{σ:St}{H:Hp}{s:Fa}
def Qa.drawn  (I:Qa X pins σ H s) d:Qa X pins σ H { s with drawn:=d }:=
 I.step (g':=s.gens) (t':=s.toks) (ch:=[]) (λ_ z=>nomatch z) (λ_ _ _ _ _ e _=>e) (λb o _ _ _ e _=>⟨o.slots,e⟩) (λ_ _ _ _ n=>n) (λb o _ e=>⟨o,e⟩) (λ_ _ e=>e) (λ_ _ _ e=>e) (λb f e=>⟨#[],by rw[e];simp⟩) (λ_ m=>m) I.hok I.bare
def hX     (en:SEnt P w l):Eb (l.map (·.2)) (l.map λe=>ao e.2):=by
 induction l with
 |nil=>exact .nil
 |cons e r f=>
  obtain⟨m,t,rfl⟩:=en _ Re;exact .cons m t (f λe j=>en e (Jd _ j))
def cI     (hc:X.calm=ua)(I:Qa X pins σ H s)(k:SetI X.prog X.w s.heap S ns)(ya:ns.length<Og)
  (q:∀p (ms:List Int),H p=Aa->ms.Pairwise (·< ·)->(∀z,z∈ms↔z∈ns)->Q (.ref p) (upd H p (.lst (ms.map V.int)))):wpAny (Ia X.prog X.w) X.A (call (.builtin "sorted") [.ref S]) (EP X pins σ Q) X.xe s:=by
 obtain⟨Y,ep,t,gS,tk,en,nd,sz,mem⟩:=k;have big:Y.size<=Fb:=by rw[Oi];unfold Og at ya;lia
 have lS:=Jc gS;refine fB (p0 (A:=X.A.in1) (C:=λf s'=>∃O F d j,s'={ s with heap:=O,toks:=F,drawn:=d }/\j.Perm Y.toList/\Zs (SMet j) f Y.size/\∀b o,s.heap.get? b=ma o->O.get? b=ma o)
  (λZ z=>NF (bW (I.ok.hd hc) (Dc _ gS) tk big (Wd _ rfl) (vp lS) λO F d f c j pm it g' kp=>z _ f c g' ⟨O,F,d,j,rfl,pm,it,λb o g=>kp b o (Sd (Jc g)) (Dc _ g)⟩)) ?_)
 rintro _ f ⟨O,F,d,j,rfl,pm,it,kp⟩ lt;have ol:j.length=Y.size:=by simpa using pm.length_eq
 have ea:f.toList=j.map (·.2):=by
  refine Fp (by rw[cg,it.1,Hb,ol]) λi h1 h2=>?_
  have va:i<f.size:=by simp_all
  obtain⟨e,he,hv⟩:=it.2 i f[i] (Mp va)
  grind
 have hI:Eb f.toList (j.map λe=>ao e.2):=ea ▸ hX (en.perm pm);have pv:(j.map λe=>ao e.2).Perm (sivs Y):=pm.map _;have al:f.toList.length=Y.size:=by simp_all
 refine zw ?_ (by lia)
 have R:(O.push { cls:=.type "list",data:=.seq f.toList.toArray }).get? O.objs.size=ma (Be "list" f.toList.toArray 0):=Wd _ rfl;refine tj IB ⟨_,R,rfl⟩ pC (BH R hI (pv.nodup_iff.mpr nd) (by lia) λout xa a1 a2 a3=>⟨_,rfl,?_⟩) (DB _)
 obtain⟨e,he⟩:=OB (out:=out) R;have za:s.heap.objs.size<=O.objs.size:=uj lt;have J:=I.drawn d;refine⟨.ref O.objs.size,_,J.laid (t':=F) (o:=.lst (xa.map V.int)) (λb ob y=>?_) za ?_,rfl,q _ xa (I.hok.fresh za) a3 λz=>?_⟩
 ·have hb:=kp b ob y;have ja:=Jc hb;rw[JB (Sd ja) (by rw[Tp];lia)]
  exact Dc _ hb
 ·refine⟨?_,out.toList,e,Hv a1,by rw[he]⟩
  have:=(a2.trans pv).length_eq
  simp_all
 grind
def PR  (K:Sb)(q:TA):TE:=λj H Q=>q j H λf H1=>∃(t:Ea) (ns:List Int),f=[.ref t]/\(Qd K H1 t (ns.map V.int)\/re K H1 t (ns.map V.int))/\ns.length<4000/\ns.length<Og/\∀p (ms:List Int),H1 p=Aa->ms.Pairwise (·< ·)->(∀z,z∈ms↔z∈ns)->Q (.ref p) (upd H1 p (.lst (ms.map V.int)))
def UW {a:Na}{ta:TA}{p Z pos f:Pos}(Y:X.calm=ua)(h1:Gl X "sorted")(m1:X.mg "sorted" = Aa)(h2:Gl X "set")(m2:X.mg "set" = Aa)(ha:PA X [a] ta)(hs:Kd [a] X.env=[(Ca,Lb a X.env)]:=by rfl)
  (R:Kd [.Call (.Name "set" Z) [a] [] f] X.env=[(Ca,Lb (.Call (.Name "set" Z) [a] [] f) X.env)]:=by rfl):PE X (.Call (.Name "sorted" p) [.Call (.Name "set" Z) [a] [] f] [] pos) (PR X.K ta):=by
 intro J s σ H Q I h;refine Rr (Qm I h1 m1 boot_sorted (VM ?_ R rfl) (by decide) (by decide))
 rw[R];refine NL (rest:=[]) (Call_ (Qm I h2 m2 boot_set (qx (Wb (ha f J s σ H _ I h) λus s1 ⟨vs,H1,y,r1,q1⟩=>?_) hs rfl)));obtain⟨t,ns,rfl,F,xa,O,q⟩:=q1;obtain⟨u,rfl,rx⟩:=Eh r1;cases rx;rcases F with F|F
 ·obtain⟨j,rv,tp,hz⟩:=y.tuple F;have z:Eb j ns:=Dv rv;have il:j.length=ns.length:=z.length;refine FX (ns:=ns) (y.ok.hd Y) tp (by simpa using z) (by rw[Od,il];unfold Qj;lia) λh' tk k kp=>Kb ?_
  exact cI (s:={ s1 with heap:=h',toks:=tk }) Y (y.kept kp) k O q
 ·obtain⟨j,rv,tp,hz⟩:=y.list F;have z:Eb j ns:=Dv rv;have il:j.length=ns.length:=z.length;refine EX (ns:=ns) (y.ok.hd Y) tp.isList (by simpa using z) (by rw[Od,il];unfold Qj;lia) λh' tk k kp=>Kb ?_
  exact cI (s:={ s1 with heap:=h',toks:=tk }) Y (y.kept kp) k O q
end
end L2

namespace Z
open PySem L2
inductive U where
 |non|bl (b:Bool)|int (i:Int)|str (x:Str)|tup (xs:List U)|loc (a:Ea)|fn (n:Nat)|ty (n:String)
 |exc (c:Nat) (fs:List U)|own (n:Nat)|clo (n:Nat) (cs:List U)
inductive MO where
 |lst (xs:List U)|fro (xs:List U)|dK (kvs:List (uc×U))|dT (kvs:List (List uc×U))|frd (o:Obj) (kvs:List (List uc×U))|frk (o:Obj) (kvs:List (uc×U))
abbrev Gp:=Ea->Option MO
noncomputable def Ed  (G:Gp)(a:Ea)(o:MO):Gp:=λb=>if b=a then ma o else G b
structure Fl (G:Gp)(p:Ea)(o:MO)(G':Gp):Prop where
 no:G p=Aa
 eq:G'=Ed G p o
structure Lh (G:Gp)(a:Ea)(o:MO)(G':Gp):Prop where
 eq:G'=Ed G a o
structure XV where
 c:Nat
 fs:List U
abbrev Sg:=List (Option U)
abbrev K1:=U->Gp->Prop
abbrev KX:=XV->Gp->Prop
def newO  (G:Gp)(o:MO)(Q:K1):Prop:=∀p f,Fl G p o f->Q (.loc p) f
def putO  (G:Gp)(a:Ea)(o:MO)(Q:Gp->Prop):Prop:=∀f,Lh G a o f->Q f
def newO.at     (h:newO G o Q):∀p,G p=Aa->Q (.loc p) (Ed G p o):=λp f=>h p _ ⟨f,rfl⟩
def putO.at      (h:putO G a o Q):Q (Ed G a o):=h _ ⟨rfl⟩
structure En where
 nx:Sg->Gp->Prop
 rt:K1
 ex:XV->Sg->Gp->Prop
noncomputable def Rc  (G:Gp)(a:Ea):Option (List U):=match G a with
 |some (.lst xs)=>ma xs
 |some (.fro xs)=>ma xs
 |_=>Aa
noncomputable def kU  : U->Option uc
 |.int i=>ma (.inl i)
 |.str x=>ma (.inr x)
 |_=>Aa
noncomputable def Hm  : List U->Option (List uc)
 |[]=>ma []
 |u::r=>match kU u,Hm r with
  |some k,ma ks=>ma (k::ks)
  |_,_=>Aa
noncomputable def Ku  : uc->U
 |.inl i=>.int i
 |.inr x=>.str x
section
variable {κ α:Type}[DecidableEq κ]
noncomputable def dGet (kvs:List (κ×α))(k:κ):Option α:=(kvs.find? λf=>decide (f.1=k)).map (·.2)
noncomputable def dPut (kvs:List (κ×α))(k:κ)(v:α):List (κ×α):=
 if (kvs.any λf=>decide (f.1=k))=ua then kvs.map (λf=>if f.1=k then (f.1,v) else f) else kvs++[(k,v)]
def Hk (f:List (κ×α)):List (κ×α):=f.foldl (λj q=>dPut j q.1 q.2) []
end
def cut  {f:Type}(xs:List f)(lo hi:Option Int):List f:=(xs.drop (HT.sIx xs.length 0 lo)).take (HT.sIx xs.length xs.length hi-HT.sIx xs.length 0 lo)
mutual
inductive DU (G:Gp):U->ub->Prop
 |non:DU G .non .none
 |bl (b:Bool):DU G (.bl b) (.bool b)
 |int (i:Int):DU G (.int i) (.int i)
 |str (x:Str):DU G (.str x) (.str x)
 |tup {us:List U} {ds:List ub}:Nh G us ds->DU G (.tup us) (.tuple ds)
 |lst {a:Ea} {us:List U} {ds:List ub}:Rc G a=ma us->Nh G us ds->DU G (.loc a) (.list ds)
 |dic {a:Ea}:G a=ma (.dK [])->DU G (.loc a) (.dict [])
inductive Nh (G:Gp):List U->List ub->Prop
 |nil:Nh G [] []
 |cons {u:U} {d:ub} {us:List U} {ds:List ub}:DU G u d->Nh G us ds->Nh G (u::us) (d::ds)
end
def addU  : U->U->Gp->K1->Prop
 |.int i,.int j,G,Q=>Q (.int (i+j)) G
 |.str x,.str y,G,Q=>x.length+y.length<=Fb/\Q (.str (x++y)) G
 |.tup q,.tup f,G,Q=>q.length+f.length<=Fb/\Q (.tup (q++f)) G
 |.loc a,.loc b,G,Q=>∃q f,G a=ma (.lst q)/\G b=ma (.lst f)/\q.length+f.length<=Fb/\newO G (.lst (q++f)) Q
 |.bl b,.int j,G,Q=>Q (.int ((if b=ua then (1:Int) else 0)+j)) G
 |_,_,_,_=>False
def subU  : U->U->Gp->K1->Prop
 |.int i,.int j,G,Q=>Q (.int (i-j)) G
 |.bl b,.int j,G,Q=>Q (.int ((if b=ua then (1:Int) else 0)-j)) G
 |.int i,.bl b,G,Q=>Q (.int (i-if b=ua then (1:Int) else 0)) G
 |_,_,_,_=>False
def mulU  : U->U->Gp->K1->Prop
 |.int i,.int j,G,Q=>CMul i j/\Q (.int (i*j)) G
 |.loc a,.int k,G,Q=>∃f,G a=ma (.lst f)/\-(2 ^ 63)<=k/\k<2 ^ 63/\f.length*k.toNat<=Fb/\newO G (.lst (Zb k.toNat f).flatten) Q
 |.tup f,.int k,G,Q=>f≠[]/\0<=k/\k<2 ^ 62/\f.length*k.toNat<=Fb/\Q (.tup (Zb k.toNat f).flatten) G
 |.str z,.int k,G,Q=>0<=k/\k<1000/\z.length<=1000/\Q (.str (repS z k.toNat)) G
 |_,_,_,_=>False
def QD  : U->U->Gp->K1->Prop
 |.int i,.int j,G,Q=>0<j/\j<1073741824/\Q (.int (i/j)) G
 |_,_,_,_=>False
def modU  : U->U->Gp->K1->Prop
 |.int i,.int j,G,Q=>0<j/\Q (.int (i%j)) G
 |_,_,_,_=>False
def powU  : U->U->Gp->K1->Prop
 |.int i,.int j,G,Q=>CPow i j/\Q (.int (i ^ j.toNat)) G
 |_,_,_,_=>False
def binU  : cn->U->U->Gp->K1->Prop
 |.Add=>addU
 |.Sub=>subU
 |.Mult=>mulU
 |.FloorDiv=>QD
 |.Mod=>modU
 |.Pow=>powU
 |_=>λ_ _ _ _=>False
def qu  : cn->U->U->Gp->K1->Prop
 |.Add,.int i,.int j,G,Q=>Q (.int (i+j)) G
 |.Add,.str x,.str y,G,Q=>x.length+y.length<=Fb/\Q (.str (x++y)) G
 |.Sub,.int i,.int j,G,Q=>Q (.int (i-j)) G
 |.Mult,.int i,.int j,G,Q=>CMul i j/\Q (.int (i*j)) G
 |_,_,_,_,_=>False
def negU  : U->Gp->K1->Prop
 |.int i,G,Q=>Q (.int (-i)) G
 |_,_,_=>False
def Small  (d:ub):Prop:=d.canLay0=ua/\d.depth<=100
noncomputable def eqU  : U->U->Gp->(Bool->Prop)->Prop
 |.non,.non,_,k=>k ua
 |.non,.bl _,_,k=>k Ca
 |.non,.int _,_,k=>k Ca
 |.non,.str _,_,k=>k Ca
 |.bl _,.non,_,k=>k Ca
 |.bl a,.bl b,_,k=>k (decide (a=b))
 |.bl _,.str _,_,k=>k Ca
 |.int _,.non,_,k=>k Ca
 |.int i,.int j,_,k=>k (decide (i=j))
 |.int _,.str _,_,k=>k Ca
 |.str _,.non,_,k=>k Ca
 |.str _,.bl _,_,k=>k Ca
 |.str _,.int _,_,k=>k Ca
 |.str x,.str y,_,k=>k (decide (x=y))
 |x,y,G,k=>∃d e,DU G x d/\DU G y e/\Small d/\Small e/\k (Je d e)
def GK  : U->U->Gp->(Bool->Prop)->Prop
 |.loc a,.str y,G,k=>(∃f,G a=ma (.dK f)/\k Ca)\/(∃j,G a=ma (.lst j)/\k Ca)\/eqU (.loc a) (.str y) G k
 |.tup j,.tup [],_,k=>k j.isEmpty
 |.tup _,.str _,_,k=>k Ca
 |x,y,G,k=>eqU x y G k
def gj  : U->U->(Bool->Prop)->Prop
 |.non,.non,k=>k ua
 |.bl a,.bl b,k=>k (decide (a=b))
 |.non,.bl _,k|.non,.int _,k|.non,.str _,k|.non,.tup _,k|.non,.loc _,k=>k Ca
 |.bl _,.non,k|.int _,.non,k|.str _,.non,k|.tup _,.non,k|.loc _,.non,k=>k Ca
 |.int _,.bl _,k|.str _,.bl _,k|.tup _,.bl _,k|.loc _,.bl _,k=>k Ca
 |_,_,_=>False
noncomputable def flat  : U->Bool
 |.non|.bl _|.int _|.str _=>ua
 |_=>Ca
noncomputable def Pj  : U->U->Bool
 |.non,.non=>ua
 |.bl a,.bl b=>a==b
 |.bl a,.int b=>(if a then 1 else 0)==b
 |.int a,.bl b=>a==(if b then 1 else 0)
 |.int a,.int b=>a==b
 |.str a,.str b=>a==b
 |_,_=>Ca
def nh  : U->U->Gp->(Bool->Prop)->Prop
 |.str x,.str y,_,k=>k (!(Uw y x 0 y.length 1).isEmpty)
 |.tup j,.tup ys,G,k=>∃d f,DU G (.tup j) d/\Nh G ys f/\Small d/\(∀e∈f,Small e)/\k (f.any λe=>Je e d)
 |x,.tup ys,_,k=>flat x=ua/\ys.all flat=ua/\k (ys.any λy=>Pj y x)
 |x,.loc a,G,k=>match G a with
  |some (.lst ys)=>(flat x=ua/\ys.all flat=ua/\k (ys.any λy=>Pj y x))\/
    ∃d f,DU G x d/\Nh G ys f/\Small d/\(∀e∈f,Small e)/\k (f.any λe=>Je e d)
  |some (.fro ys)=>flat x=ua/\ys.all flat=ua/\k (ys.any λy=>Pj y x)
  |some (.dK kvs)=>match kU x with
   |some y=>k (dGet kvs y).isSome
   |none=>False
  |some (.dT kvs)=>match x with
   |.tup j=>match Hm j with
    |some y=>k (dGet kvs y).isSome
    |none=>False
   |_=>False
  |some (.frk _ kvs)=>match kU x with
   |some y=>k (dGet kvs y).isSome
   |none=>False
  |_=>False
 |_,_,_,_=>False
def ordU  : jt->U->U->(Bool->Prop)->Prop
 |.Lt,.int i,.int j,k=>k (decide (i<j))
 |.LtE,.int i,.int j,k=>k (decide (i<=j))
 |.LtE,.str x,.str y,k=>k (!decide (y.cps.toList<x.cps.toList))
 |.Gt,.int i,.int j,k=>k (decide (j<i))
 |_,_,_,_=>False
def cmpU  : jt->U->U->Gp->(Bool->Prop)->Prop
 |.Eq,x,y,G,k=>GK x y G k
 |.NotEq,x,y,G,k=>eqU x y G λb=>k (!b)
 |.Is,x,y,_,k=>gj x y k
 |.IsNot,x,y,_,k=>gj x y λb=>k (!b)
 |.In,x,y,G,k=>nh x y G k
 |.NotIn,x,y,G,k=>nh x y G λb=>k (!b)
 |o,x,y,_,k=>ordU o x y k
def truU  : U->Gp->(Bool->Prop)->Prop
 |.non,_,k=>k Ca
 |.bl b,_,k=>k b
 |.int i,_,k=>k (i != 0)
 |.str x,_,k=>x.length<=Fb/\k ((x.length:Int) != 0)
 |.tup xs,_,k=>k (!xs.isEmpty)
 |.loc a,G,k=>match G a with
  |some (.lst xs)=>k (!xs.isEmpty)
  |some (.fro xs)=>k (!xs.isEmpty)
  |some (.dK kvs)=>k (!kvs.isEmpty)
  |_=>False
 |_,_,_=>False
def qf  : U->U->Gp->K1->Prop
 |.tup xs,.int i,G,Q=>match atI xs i with
  |some u=>Q u G
  |none=>False
 |.str x,.int i,G,Q=>x.length<=Fb/\match atI x.cps.toList i with
  |some c=>Q (.str ⟨#[c]⟩) G
  |none=>False
 |.loc a,y,G,Q=>match G a with
  |some (.lst xs)=>(match y with|.int i=>(match atI xs i with|some u=>Q u G|none=>False)|_=>False)
  |some (.fro xs)=>(match y with|.int i=>(match atI xs i with|some u=>Q u G|none=>False)|_=>False)
  |some (.dK kvs)=>(match kU y with|some k=>(match dGet kvs k with|some u=>Q u G|none=>False)|none=>False)
  |some (.dT kvs)=>(match y with|.tup ys=>(match Hm ys with|some k=>(match dGet kvs k with|some u=>Q u G|none=>False)|none=>False)|_=>False)
  |some (.frk _ kvs)=>(match kU y with|some k=>(match dGet kvs k with|some u=>Q u G|none=>False)|none=>False)
  |_=>False
 |_,_,_,_=>False
def pk  : U->Option Int->Option Int->Gp->K1->Prop
 |.tup f,lo,hi,G,Q=>Q (.tup (cut f lo hi)) G
 |.str x,lo,hi,G,Q=>x.length<=Fb/\Q (.str (Vv x lo hi)) G
 |.loc a,lo,hi,G,Q=>match Rc G a with
  |some f=>newO G (.lst (cut f lo hi)) Q
  |none=>False
 |_,_,_,_,_=>False
def revU  : U->U->Gp->K1->Prop
 |.tup f,.int i,G,Q=>i=-1/\Q (.tup f.reverse) G
 |.loc a,.int i,G,Q=>match Rc G a with
  |some f=>(i=1\/i=-1)/\newO G (.lst (if i=1 then f else f.reverse)) Q
  |none=>False
 |_,_,_,_=>False
def setU  : U->U->U->Gp->(Gp->Prop)->Prop
 |.loc a,y,v,G,Q=>match G a with
  |some (.lst xs)=>(match y with|.int i=>(match mh xs.length i with|some j=>putO G a (.lst (xs.set j v)) Q|none=>False)|_=>False)
  |some (.dK kvs)=>(match kU y with|some k=>kvs.length<Fb/\putO G a (.dK (dPut kvs k v)) Q|none=>False)
  |some (.dT kvs)=>(match y with|.tup ys=>(match Hm ys with|some k=>kvs.length<Fb/\putO G a (.dT (dPut kvs k v)) Q|none=>False)|_=>False)
  |_=>False
 |_,_,_,_,_=>False
inductive Blt|len|repr|min|max|sum|all|any|sorted|int|str|isi
 deriving DecidableEq
inductive Mth|append|extend|insert|pop|reverse|index|join|get|split|setd
 deriving DecidableEq
noncomputable def Ck  : List U->Option (List Int)
 |[]=>ma []
 |.int i::r=>(match Ck r with|some l=>ma (i::l)|none=>Aa)
 |_=>Aa
noncomputable def bq  : U->Gp->Option String
 |.non,_=>ma "NoneType"
 |.bl _,_=>ma "bool"
 |.int _,_=>ma "int"
 |.str _,_=>ma "str"
 |.tup _,_=>ma "tuple"
 |.loc a,G=>match G a with
  |some (.lst _)=>ma "list"
  |some (.dK _)=>ma "dict"
  |some (.dT _)=>ma "dict"
  |_=>Aa
 |_,_=>Aa
def isiU  (x:U)(G:Gp)(t:String):Option Bool:=match bq x G with
 |some n=>if t∈["bool", "int", "str", "list", "tuple", "dict"] then ma (n==t||(n == "bool" && t == "int")) else Aa
 |none=>Aa
def lenU  : List U->Gp->K1->Prop
 |[.tup xs],G,Q=>Q (.int xs.length) G
 |[.str x],G,Q=>x.length<=Fb/\Q (.int x.length) G
 |[.loc a],G,Q=>(match G a with
  |some (.lst xs)=>Q (.int xs.length) G
  |some (.fro xs)=>Q (.int xs.length) G
  |some (.dK kvs)=>Q (.int kvs.length) G
  |_=>False)
 |_,_,_=>False
def zk  : List U->Gp->K1->Prop
 |[u],G,Q=>∃d,DU G u d/\Fits 16000000 60 d/\Q (.str d.shown) G
 |_,_,_=>False
def minU  : List U->Gp->K1->Prop
 |[.int i,.int j],G,Q=>Q (.int (if j<i then j else i)) G
 |_,_,_=>False
def OD  (xs:List U)(G:Gp)(Q:K1):Prop:=match Ck xs with
 |some f=>f≠[]/\∀z∈f,(∀y∈f,y<=z)->Q (.int z) G
 |none=>False
def maxU  : List U->Gp->K1->Prop
 |[.int i,.int j],G,Q=>Q (.int (if j>i then j else i)) G
 |[.loc a],G,Q=>(match G a with
  |some (.lst xs)=>OD xs G Q
  |_=>False)
 |[.tup xs],G,Q=>OD xs G Q
 |_,_,_=>False
def sumU  : List U->Gp->K1->Prop
 |[.loc a],G,Q=>(match G a with
  |some (.lst xs)=>(match Ck xs with|some ns=>Q (.int ns.sum) G|none=>False)
  |_=>False)
 |_,_,_=>False
def intU  : List U->Gp->K1->Prop
 |[.int i],G,Q=>Q (.int i) G
 |[.bl b],G,Q=>Q (.int (if b then 1 else 0)) G
 |[.str z],G,Q=>∃n,PySem.intText? z=ma n/\z.length<=640/\Q (.int n) G
 |_,_,_=>False
def yo  : List U->Gp->K1->Prop
 |[x,.ty t],G,Q=>(match isiU x G t with|some b=>Q (.bl b) G|none=>False)
 |_,_,_=>False
def Lj  : List U->Gp->K1->Prop
 |[.loc a],G,Q=>(match G a with
  |some (.lst us)=>∃f:List (List Int),f.Nodup/\us.length<Og/\us.length=f.length/\((∃j:List Int,us=j.map .int/\f=j.map λn=>[n])\/(∃F:List Ea,us=F.map .loc/\∀(i:Nat) a k,F[i]?=ma a->f[i]?=ma k->G a=ma (.lst (k.map .int)))\/us=f.map (λk=>.tup (k.map .int))/\∀k∈f,k≠[])/\
    ∀q:List Nat,q.Perm (Md us.length)->(∀i,i+1<us.length->HT.lexLt (f.getD (q.getD i 0) []) (f.getD (q.getD (i+1) 0) [])=ua)->newO G (.lst (q.map λi=>us.getD i .non)) Q
  |some (.dK kvs)=>∃j:List Int,kvs.map (·.1)=j.map (λz=>(Ib z:uc))/\j.length<Og/\∀y:List Int,y.Perm j->y.Pairwise (·< ·)->newO G (.lst (y.map .int)) Q
  |_=>False)
 |_,_,_=>False
def mkDU  : U->Gp->K1->Prop
 |.loc a,G,Q=>(match G a with
  |some (.dK kvs)=>∃f:List Int,kvs.map (·.1)=f.map (λz=>(Ib z:uc))/\newO G (.lst (f.map .int)) Q
  |_=>False)
 |_,_,_=>False
def Bo  : U->Gp->K1->Prop
 |.tup us,G,Q=>∃f:List Int,us=f.map .int/\f.length<4000/\f.length<Og/\∀j:List Int,j.Pairwise (·< ·)->(∀z,z∈j↔z∈f)->newO G (.lst (j.map .int)) Q
 |.loc a,G,Q=>∃f:List Int,G a=ma (.lst (f.map .int))/\f.length<4000/\f.length<Og/\∀j:List Int,j.Pairwise (·< ·)->(∀z,z∈j↔z∈f)->newO G (.lst (j.map .int)) Q
 |_,_,_=>False
def bltU  : Blt->List U->Gp->K1->Prop
 |.len=>lenU
 |.repr=>zk
 |.min=>minU
 |.max=>λ_ _ _=>False
 |.sum=>sumU
 |.all=>λ_ _ _=>False
 |.any=>λ_ _ _=>False
 |.sorted=>Lj
 |.int=>intU
 |.str=>λ_ _ _=>False
 |.isi=>yo
def gA  : U->List U->Gp->K1->Prop
 |.loc a,[v],G,Q=>(match G a with
  |some (.lst xs)=>xs.length<Fb/\putO G a (.lst (xs++[v])) (Q .non)
  |_=>False)
 |_,_,_,_=>False
def Zz  : U->List U->Gp->K1->Prop
 |.loc a,[.loc b],G,Q=>(match G a,G b with
  |some (.lst xs),ma (.lst ys)=>xs.length+ys.length<=Fb/\putO G a (.lst (xs++ys)) (Q .non)
  |_,_=>False)
 |_,_,_,_=>False
def popU  : U->List U->Gp->K1->Prop
 |.loc a,[],G,Q=>(match G a with
  |some (.lst xs)=>(match xs[xs.length-1]? with|some v=>putO G a (.lst xs.dropLast) (Q v)|none=>False)
  |_=>False)
 |.loc a,[.int i],G,Q=>(match G a with
  |some (.lst xs)=>-(2 ^ 63)<=i/\i<2 ^ 63/\(match Uv i xs.length with
   |some k=>(match xs[k]? with|some v=>putO G a (.lst (xs.eraseIdx k)) (Q v)|none=>False)
   |none=>False)
  |_=>False)
 |_,_,_,_=>False
def getU  : U->List U->Gp->K1->Prop
 |.loc a,[y,d],G,Q=>(match G a with
  |some (.dK kvs)=>(match kU y with
   |some k=>Q ((dGet kvs k).getD d) G
   |none=>False)
  |some (.dT kvs)=>∃k:List uc,y=.tup (k.map Ku)/\Q ((dGet kvs k).getD d) G
  |_=>False)
 |_,_,_,_=>False
def Of  : Mth->U->List U->Gp->K1->Prop
 |.append=>gA
 |.extend=>Zz
 |.insert=>λ_ _ _ _=>False
 |.pop=>popU
 |.reverse=>λ_ _ _ _=>False
 |.index=>λ_ _ _ _=>False
 |.join=>λ_ _ _ _=>False
 |.get=>getU
 |.split=>λ_ _ _ _=>False
 |.setd=>λ_ _ _ _=>False
noncomputable def xg  : Mth->U->Gp->Option (String×String)
 |.append,x,G=>(match x with|.loc a=>(match G a with|some (.lst _)=>ma ("list", "list.append")|_=>Aa)|_=>Aa)
 |.extend,x,G=>(match x with|.loc a=>(match G a with|some (.lst _)=>ma ("list", "list.extend")|_=>Aa)|_=>Aa)
 |.insert,_,_=>Aa
 |.pop,x,G=>(match x with|.loc a=>(match G a with|some (.lst _)=>ma ("list", "list.pop")|_=>Aa)|_=>Aa)
 |.reverse,_,_=>Aa
 |.index,_,_=>Aa
 |.join,_,_=>Aa
 |.get,x,G=>(match x with|.loc a=>(match G a with|some (.dK _)=>ma ("dict", "dict.get")|some (.dT _)=>ma ("dict", "dict.get")|_=>Aa)|_=>Aa)
 |.split,_,_=>Aa
 |.setd,_,_=>Aa
noncomputable def clsA  : List (Str×List Str):=[("PlanError",[]),("NoPaper",["word", "at"]),("TooMany",["word"]),("NoRing",["word"]),("NoText",["row", "word"]),("NoRow",["row"])]
def clsN  (c:Nat):Str:=(clsA.getD c ("",[])).1
def clsF  (c:Nat):List Str:=(clsA.getD c ("",[])).2
inductive HL where
 |is1 (c:Nat)|isi (cs:List Nat)|isiV|v (i:Nat)
inductive HA where
 |str (x:Str)|att (f:Str)
inductive HV where
 |cond (k:Bool) (a:Bool×HL) (as:List (Bool×HL))|one (a:HA)|bl (b:Bool)|tup (as:List HA)|lst (as:List HA)
inductive HS where
 |asg (i:Nat) (e:HV)|ifa (k:Bool) (a:Bool×HL) (as:List (Bool×HL)) (i:Nat) (e:HV)
section
variable (x:XV)
noncomputable def litH (f:Sg):HL->Option Bool
 |.is1 c=>ma (decide (x.c=c))
 |.isi j=>ma (j.contains x.c)
 |.isiV=>ma ua
 |.v i=>match f[i]? with
  |some (ma (.bl b))=>ma b
  |_=>Aa
def lit1 (f:Sg)(p:Bool×HL):Option Bool:=match litH x f p.2 with
 |some b=>ma (if p.1=ua then !b else b)
 |none=>Aa
noncomputable def Cz (f:Sg)(k:Bool):Bool×HL->List (Bool×HL)->Option Bool
 |a,[]=>lit1 x f a
 |a,b::r=>match lit1 x f a with
  |some t=>if t=k then Cz f k b r else ma t
  |none=>Aa
def JK:HA->Option U
 |.str y=>ma (.str y)
 |.att f=>((clsF x.c).zip x.fs).lookup f
noncomputable def atsH:List HA->Option (List U)
 |[]=>ma []
 |a::r=>match JK x a,atsH r with
  |some u,ma us=>ma (u::us)
  |_,_=>Aa
def DK (j:Sg):HV->Gp->K1->Prop
 |.cond k a as,G,Q=>match Cz x j k a as with
  |some b=>Q (.bl b) G
  |none=>False
 |.one a,G,Q=>match JK x a with
  |some u=>Q u G
  |none=>False
 |.bl b,G,Q=>Q (.bl b) G
 |.tup as,G,Q=>match atsH x as with
  |some f=>Q (.tup f) G
  |none=>False
 |.lst as,G,Q=>match atsH x as with
  |some f=>newO G (.lst f) Q
  |none=>False
def Ov:List HS->Sg->Gp->(Sg->Gp->Prop)->Prop
 |[],ς,G,k=>k ς G
 |.asg i e::r,ς,G,k=>DK x ς e G λu f=>Ov r (ς.set i (ma u)) f k
 |.ifa q a as i e::r,ς,G,k=>match Cz x ς q a as with
  |some ua=>DK x ς e G λu f=>Ov r (ς.set i (ma u)) f k
  |some Ca=>Ov r ς G k
  |none=>False
end
mutual
inductive Tg where
 |n (i:Nat)|t (ts:Jh)
inductive Jh where
 |nil|cons (t:Tg) (ts:Jh)
end
mutual
inductive E where
 |v (i:Nat)|non|bl (b:Bool)|int (i:Int)|str (x:Str)|g (n:Nat)|bin (o:cn) (a b:E)|neg (a:E)|not (a:E)|bop (k:Bool) (a:E) (es:Es)|cmp (o:jt) (a b:E)|cmp2 (o p:jt) (a b c:E)|ife (c a b:E)|tup (es:Es)|lst (es:Es)|dic (es:Es)|ix (a b:E)|sl (a:E) (lo hi:Eo)|rev (a st:E)|call (n:Nat) (es:Es)|blt (b:Blt) (es:Es)|meth (m:Mth) (o:E) (es:Es)|ty (n:String)|lc (pick:List (Option Nat)) (t:Tg) (it:It) (ifs:Es) (e:E)|lc2 (pick:List (Option Nat)) (t:Tg) (it:It) (ifs:Es) (t2:Tg) (it2:It) (ifs2:Es) (e:E)|mkL (e:E)|mkT (e:E)|mkD (e:E)|sset (e:E)
inductive Eo where
 |no|so (e:E)
inductive Es where
 |nil|cons (e:E) (es:Es)
inductive It where
 |e (e:E)|r1 (e:E)|enum (e:E)|dv (e:E)|di (e:E)
end
mutual
inductive S where
 |expr (e:E)|asg (t:Tg) (e:E)|asgC (i:Nat) (e:E)|setS (o i e:E)|par (is:List Nat) (es:Es)|aug (i:Nat) (o:cn) (e:E)|ite (c:E) (a b:Ss)|fr (t:Tg) (it:It) (b:Ss)|wh (c:E) (b:Ss)|ret (e:E)|never
inductive Ss where
 |nil|cons (s:S) (ss:Ss)
end
mutual
noncomputable def Qc:Tg->U->Sg->(Sg->Prop)->Prop
 |.n i,u,ς,k=>k (ς.set i (ma u))
 |.t ts,u,ς,k=>match u with
  |.tup f=>tgsU ts f ς k
  |_=>False
noncomputable def tgsU:Jh->List U->Sg->(Sg->Prop)->Prop
 |.nil,us,ς,k=>us=[]/\k ς
 |.cons t ts,us,ς,k=>match us with
  |[]=>False
  |u::r=>Qc t u ς λf=>tgsU ts r f k
end
abbrev Cl:=Nat->List U->Gp->K1->KX->Prop
def slot  (f:Sg)(i:Nat)(k:U->Prop):Prop:=match f[i]? with
 |some (ma u)=>k u
 |_=>False
noncomputable def gg  (pick:List (Option Nat))(f:Sg):Sg:=pick.map λo=>o.bind λj=>(f[j]?).join
def ji  (ok:Gp->Prop)(b:U->Gp->(Option U->Gp->Prop)->Prop):List U->List U->Gp->(List U->Gp->Prop)->Prop
 |[],acc,G,k=>ok G/\k acc G
 |x::xs,acc,G,k=>ok G/\b x G λo f=>ji ok b xs (match o with|some u=>acc++[u]|none=>acc) f k
def xo  (ok:Gp->Prop)(b:U->List U->Gp->(List U->Gp->Prop)->Prop):List U->List U->Gp->(List U->Gp->Prop)->Prop
 |[],acc,G,k=>ok G/\k acc G
 |x::xs,acc,G,k=>ok G/\b x acc G λf j=>xo ok b xs f j k
def forL  (ok:Gp->Prop)(b:U->Sg->Gp->(Sg->Gp->Prop)->Prop):List U->Sg->Gp->(Sg->Gp->Prop)->Prop
 |[],ς,G,k=>ok G/\k ς G
 |x::xs,ς,G,k=>ok G/\b x ς G λf j=>forL ok b xs f j k
noncomputable def rngU  (i:Int)(n:Nat):List U:=(Md n).map λk:Nat=>.int (i+k)
noncomputable def Ij  : Nat->List U->List U
 |_,[]=>[]
 |n,u::r=>.tup [.int n,u]::Ij (n+1) r
def Ig  : U->Gp->(List U->(Gp->Prop)->Prop)->Prop
 |.tup f,_,k=>k f λ_=>True
 |.loc a,G,k=>match Rc G a with
  |some f=>k f λj=>Rc j a=ma f
  |none=>False
 |_,_,_=>False
def Wq  : U->Gp->(List U->(Gp->Prop)->Prop)->Prop
 |.tup f,_,k=>k (Ij 0 f) λ_=>True
 |.loc a,G,k=>match Rc G a with
  |some f=>k (Ij 0 f) λj=>Rc j a=ma f
  |none=>False
 |_,_,_=>False
def mi  (f:List (uc×U)->List U):U->Gp->(List U->(Gp->Prop)->Gp->Prop)->Prop
 |.loc a,G,Q=>match G a with
  |some (.dK kvs)=>∀o j,Lh G a (.frk o kvs) j->Q (f kvs) (λj=>j a=ma (.frk o kvs)) j
  |some (.frk o kvs)=>Q (f kvs) (λj=>j a=ma (.frk o kvs)) G
  |_=>False
 |_,_,_=>False
noncomputable def Fi  (kvs:List (uc×U)):List U:=kvs.map (·.2)
def Ik  (kvs:List (uc×U)):List U:=kvs.map λp=>.tup [Ku p.1,p.2]
def fpU  : U->(Str->Prop)->Prop
 |.str z,k=>z.length<=10000/\k z
 |.int i,k=>i.natAbs.log2<1920/\k (toString i:String)
 |_,_=>False
def Vq  (f:List U)(n:Nat)(k:U->Prop):Prop:=match f[n]? with
 |some u=>k u
 |none=>False
abbrev UE:=Sg->Gp->K1->KX->Prop
abbrev UT:=Sg->Gp->(Bool->Gp->Prop)->KX->Prop
abbrev UA:=Sg->Gp->(List U->Gp->Prop)->KX->Prop
def truT  (t:UE):UT:=λj G Q X=>t j G (λx f=>truU x f λb=>Q b f) X
noncomputable abbrev tp  (t:UE):UE×UT:=(t,truT t)
noncomputable def comb  : Bool->UE×UT->UE×UT->UE×UT
 |true,p,q=>(λj G Q X=>p.1 j G (λx f=>truU x f λc=>if c=ua then q.1 j f Q X else Q x f) X,λj G Q X=>p.2 j G (λc f=>if c=ua then q.2 j f Q X else Q Ca f) X)
 |false,p,q=>(λj G Q X=>p.1 j G (λx f=>truU x f λc=>if c=ua then Q x f else q.1 j f Q X) X,λj G Q X=>p.2 j G (λc f=>if c=ua then Q ua f else q.2 j f Q X) X)
section
variable (gs:List U)(Δ:Cl)
mutual
noncomputable def Wa:E->UE×UT
 |.v i=>tp λf G Q _=>slot f i λu=>Q u G
 |.non=>tp λ_ G Q _=>Q .non G
 |.bl b=>tp λ_ G Q _=>Q (.bl b) G
 |.int i=>tp λ_ G Q _=>Q (.int i) G
 |.str x=>tp λ_ G Q _=>Q (.str x) G
 |.g n=>tp λ_ G Q _=>Vq gs n λu=>Q u G
 |.bin o a b=>tp λf G Q X=>(Wa a).1 f G (λx j=>(Wa b).1 f j (λy q=>binU o x y q Q) X) X
 |.neg a=>tp λf G Q X=>(Wa a).1 f G (λx j=>negU x j Q) X
 |.not a=>(λf G Q X=>(Wa a).1 f G (λx j=>truU x j λb=>Q (.bl (!b)) j) X,
   λf G Q X=>(Wa a).2 f G (λb j=>Q (!b) j) X)
 |.bop k a I=>denB k (Wa a) I
 |.cmp o a b=>tp λf G Q X=>(Wa a).1 f G (λx j=>(Wa b).1 f j (λy q=>cmpU o x y q λc=>Q (.bl c) q) X) X
 |.cmp2 o p a b c=>tp λf G Q X=>(Wa a).1 f G (λx j=>(Wa b).1 f j (λy q=>cmpU o x y q λt=>if t=ua then (Wa c).1 f q (λz J=>cmpU p y z J λt'=>Q (.bl t') J) X else Q (.bl Ca) q) X) X
 |.ife c a b=>(λf G Q X=>(Wa c).2 f G (λt j=>if t=ua then (Wa a).1 f j Q X else (Wa b).1 f j Q X) X,
   λf G Q X=>(Wa c).2 f G (λt j=>if t=ua then (Wa a).2 f j Q X else (Wa b).2 f j Q X) X)
 |.tup I=>tp λf G Q X=>Wf I f G (λF j=>F.length<=Fb/\Q (.tup F) j) X
 |.lst I=>tp λf G Q X=>Wf I f G (λF j=>F.length<=Fb/\newO j (.lst F) Q) X
 |.dic I=>tp λf G Q X=>denD I f G (λxa j=>xa.length<=15/\newO j (.dK (Hk xa)) Q) X
 |.ix a b=>tp λf G Q X=>(Wa a).1 f G (λx j=>(Wa b).1 f j (λy q=>qf x y q Q) X) X
 |.sl a lo hi=>tp λf G Q X=>(Wa a).1 f G (λx j=>denO lo f j (λl q=>denO hi f q (λh J=>pk x l h J Q) X) X) X
 |.rev a b=>tp λf G Q X=>(Wa a).1 f G (λx j=>(Wa b).1 f j (λy q=>revU x y q Q) X) X
 |.call n I=>tp λf G Q X=>Wf I f G (λF j=>Δ n F j Q X) X
 |.blt b I=>tp λf G Q X=>Wf I f G (λF j=>bltU b F j Q) X
 |.meth m o I=>tp λf G Q X=>(Wa o).1 f G (λx j=>match xg m x j with
   |some _=>Wf I f j (λF q=>Of m x F q Q) X
   |none=>False) X
 |.ty n=>tp λ_ G Q _=>Q (.ty n) G
 |.lc pick t it R e=>tp λf G Q X=>denI it f G (λO ok j=>O.length<=Fb/\ji ok (λx q k=>Qc t x (gg pick f) λZ=>denC R Z q (λb J=>if b=ua then (Wa e).1 Z J (λu G4=>k (ma u) G4) (λ_ _=>False) else k Aa J)) O [] j
   λF G5=>newO G5 (.lst F) Q) X
 |.lc2 pick t it R t2 ya ja e=>tp λf G Q X=>denI it f G (λO ok j=>xo ok (λx Y q k=>Qc t x (gg pick f) λZ=>denC R Z q (λb J=>if b=ua then denI ya Z J (λys va G4=>Y.length+ys.length<=Fb/\ji va (λy G5 k5=>Qc t2 y Z λza=>denC ja za G5 (λb2 G6=>if b2=ua then (Wa e).1 za G6 (λu G7=>k5 (ma u) G7) (λ_ _=>False) else k5 Aa G6)) ys Y G4 k) (λ_ _=>False) else k Y J)) O [] j
   λF G5=>newO G5 (.lst F) Q) X
 |.sset e=>tp λf G Q X=>(Wa e).1 f G (λx j=>Bo x j Q) X
 |.mkD e=>tp λf G Q X=>(Wa e).1 f G (λx j=>mkDU x j Q) X
 |.mkL e=>tp λf G Q X=>(Wa e).1 f G (λx j=>Ig x j λO _=>newO j (.lst O) Q) X
 |.mkT e=>tp λf G Q X=>(Wa e).1 f G (λx j=>Ig x j λO _=>Q (.tup O) j) X
noncomputable def denB (k:Bool)(p:UE×UT):Es->UE×UT
 |.nil=>p
 |.cons e f=>comb k p (denB k (Wa e) f)
noncomputable def denC:Es->Sg->Gp->(Bool->Gp->Prop)->Prop
 |.nil,_,G,Q=>Q ua G
 |.cons e es,ς,G,Q=>(Wa e).2 ς G (λb f=>if b=ua then denC es ς f Q else Q Ca f) (λ_ _=>False)
noncomputable def denO:Eo->Sg->Gp->(Option Int->Gp->Prop)->KX->Prop
 |.no,_,G,Q,_=>Q Aa G
 |.so e,ς,G,Q,X=>(Wa e).1 ς G (λx f=>match x with|.int i=>Q (ma i) f|_=>False) X
noncomputable def Wf:Es->Sg->Gp->(List U->Gp->Prop)->KX->Prop
 |.nil,_,G,Q,_=>Q [] G
 |.cons e es,ς,G,Q,X=>(Wa e).1 ς G (λx j=>Wf es ς j (λf q=>Q (x::f) q) X) X
noncomputable def denF:Es->Sg->Gp->(List Str->Gp->Prop)->KX->Prop
 |.nil,_,G,Q,_=>Q [] G
 |.cons e es,ς,G,Q,X=>(Wa e).1 ς G (λx j=>fpU x λz=>denF es ς j (λf q=>Q (z::f) q) X) X
noncomputable def denD:Es->Sg->Gp->(List (uc×U)->Gp->Prop)->KX->Prop
 |.nil,_,G,Q,_=>Q [] G
 |.cons e (.cons f es),ς,G,Q,X=>(Wa e).1 ς G (λx q=>(Wa f).1 ς q (λy F=>match kU x with
   |some k=>denD es ς F (λj z=>Q ((k,y)::j) z) X
   |none=>False) X) X
 |.cons _ .nil,_,_,_,_=>False
noncomputable def denI:It->Sg->Gp->(List U->(Gp->Prop)->Gp->Prop)->KX->Prop
 |.e e,ς,G,Q,X=>(Wa e).1 ς G (λx f=>Ig x f λq ok=>Q q ok f) X
 |.r1 e,ς,G,Q,X=>(Wa e).1 ς G (λx f=>match x with
   |.int j=>-(2 ^ 62)<=j/\j<2 ^ 62/\Q (rngU 0 j.toNat) (λ_=>True) f
   |_=>False) X
 |.enum e,ς,G,Q,X=>(Wa e).1 ς G (λx f=>Wq x f λq ok=>Q q ok f) X
 |.dv e,ς,G,Q,X=>(Wa e).1 ς G (λx f=>mi Fi x f Q) X
 |.di e,ς,G,Q,X=>(Wa e).1 ς G (λx f=>mi Ik x f Q) X
end
def denE (e:E):UE:=(Wa gs Δ e).1
def denT (e:E):UT:=(Wa gs Δ e).2
mutual
noncomputable def denS:S->En->Sg->Gp->Prop
 |.expr e,D,ς,G=>denE gs Δ e ς G (λ_ f=>D.nx ς f) λx f=>D.ex x ς f
 |.asg t e,D,ς,G=>denE gs Δ e ς G (λu f=>Qc t u ς λF=>D.nx F f) λx f=>D.ex x ς f
 |.asgC i e,D,ς,G=>denE gs Δ e ς G (λu f=>D.nx (ς.set i (ma u)) f) λx f=>D.ex x ς f
 |.setS o i e,D,ς,G=>denE gs Δ e ς G (λv f=>denE gs Δ o ς f (λx q=>denE gs Δ i ς q (λy Z=>setU x y v Z λR=>D.nx ς R) λx f=>D.ex x ς f) λx f=>D.ex x ς f) λx f=>D.ex x ς f
 |.par is es,D,ς,G=>Wf gs Δ es ς G (λO f=>O.length=is.length/\D.nx ((is.zip O).foldl (λs p=>s.set p.1 (ma p.2)) ς) f) λx f=>D.ex x ς f
 |.aug i o e,D,ς,G=>slot ς i λx=>denE gs Δ e ς G (λy f=>qu o x y f λz q=>D.nx (ς.set i (ma z)) q) λx f=>D.ex x ς f
 |.ite c a b,D,ς,G=>denT gs Δ c ς G (λt f=>if t=ua then Ze a D ς f else Ze b D ς f) λx f=>D.ex x ς f
 |.fr t it b,D,ς,G=>denI gs Δ it ς G (λY ok f=>forL ok (λx j q k=>Qc t x j λI=>Ze b { D with nx:=k } I q) Y ς f D.nx) λx f=>D.ex x ς f
 |.wh c b,D,ς,G=>∃W:Nat->Sg->Gp->Prop,(∃m,W m ς G)/\∀m j f,W m j f->
   denT gs Δ c j f (λt q=>if t=ua then Ze b { D with nx:=λF G'=>∃J,J<m/\W J F G' } j q else D.nx j q) λx f=>D.ex x j f
 |.ret e,D,ς,G=>denE gs Δ e ς G D.rt λx f=>D.ex x ς f
 |.never,_,_,_=>False
noncomputable def Ze:Ss->En->Sg->Gp->Prop
 |.nil,D,ς,G=>D.nx ς G
 |.cons s ss,D,ς,G=>denS s { D with nx:=λf j=>Ze ss D f j } ς G
end
end
structure Fun where
 name:Str
 ps:List Str
 N:List Str
 body:Ss
structure O2 where
 P:Ea
 ff:Nat
 vi:Nat
 fi:Nat
 caps:List Nat
 wi:Nat
 fni:Nat
 least:Int
 wn:Str
 fn:Str
 at':Str
structure Nf where
 funs:List Fun
 gs:List U
 gn:List Str:=[]
 cs:List Nat:=[]
 vf:List Fun:=[]
 ns:List (Nat×O2):=[]
noncomputable def td  (n:Nat)(us:List U):Sg:=us.map ma++Zb (n-us.length) Aa
def Ob  (T:Nf):Nat->Cl
 |0,_,_,_,_,_=>False
 |k+1,n,us,G,Q,X=>match (T.funs++T.vf)[n]? with
  |some d=>us.length=d.ps.length/\Ze T.gs (Ob T k) d.body ⟨λ_ f=>Q .non f,Q,λx _ f=>X x f⟩ (td d.N.length us) G
  |none=>False
mutual
noncomputable def RU (K:Sb)(H:Hp):U->V->Prop
 |.non,v=>v=.non
 |.bl b,v=>v=.bl b
 |.int i,v=>v=.int i
 |.str x,v=>v=.str x
 |.tup xs,v=>∃a f,v=.ref a/\H a=ma (.tup f)/\Vb K H xs f
 |.loc a,v=>v=.ref a
 |.fn _,_=>False
 |.ty n,v=>v=.ty n
 |.exc _ _,_=>False
 |.own _,_=>False
 |.clo _ _,_=>False
noncomputable def Vb (K:Sb)(H:Hp):List U->List V->Prop
 |[],vs=>vs=[]
 |u::us,vs=>∃v f,vs=v::f/\RU K H u v/\Vb K H us f
end
def fe  {κ:Type}(K:Sb)(H:Hp):List (κ×U)->List (κ×V)->Prop
 |[],l=>l=[]
 |(k,u)::r,l=>∃v f,l=(k,v)::f/\RU K H u v/\fe K H r f
def ik  (K:Sb)(H:Hp)(a:Ea):MO->Prop
 |.lst q=>∃j,H a=ma (.lst j)/\Vb K H q j
 |.fro q=>∃o j,H a=ma (.frz o (.lst j))/\Vb K H q j
 |.dK f=>∃l,H a=ma (.dK l)/\fe K H f l
 |.dT f=>∃l,H a=ma (.dT l)/\fe K H f l
 |.frd o f=>∃l,H a=ma (.frz o (.dT l))/\fe K H f l
 |.frk o f=>∃l,H a=ma (.frz o (.dK l))/\fe K H f l
noncomputable def tabs  : List (Ea×Pos×Str):=[]
def xk  (H:Hp):Prop:=∀t∈tabs,qR H t.1 t.2.1 t.2.2
structure HR (K:Sb)(H:Hp)(G:Gp):Prop where
 mo:∀a o,G a=ma o->ik K H a o
 tab:xk H
instance {K:Sb} {H:Hp} {G:Gp}:CoeFun (HR K H G) λ_=>∀a o,G a=ma o->ik K H a o:=⟨HR.mo⟩
noncomputable def noTb  : HO->Bool
 |.tbl _=>Ca
 |_=>ua
structure Fr (H:Hp)(G:Gp)(H':Hp)(G':Gp):Prop where
 go:∀a o,H a=ma o->G a=Aa->(nt:noTb o=ua:=by rfl)->H' a=ma o/\G' a=Aa
instance {H H':Hp} {G G':Gp}:CoeFun (Fr H G H' G') λ_=>∀a o,H a=ma o->G a=Aa->(nt:noTb o=ua:=by rfl)->H' a=ma o/\G' a=Aa:=⟨@Fr.go H G H' G'⟩
def SR  (K:Sb)(H:Hp)(f:Sg)(j:St):Prop:=f.length=j.length/\∀(i:Nat) (u:U),f[i]?=ma (ma u)->∃v,j[i]?=ma (ma v)/\RU K H u v
section
variable {K:Sb}{H H' H1 H2:Hp}{G G' G1 G2:Gp}
def Fr.refl   H G:Fr H G H G:=⟨λ_ _ h g _=>⟨h,g⟩⟩
def Fr.trans  (a:Fr H G H1 G1)(b:Fr H1 G1 H2 G2):Fr H G H2 G2:=⟨λc o h g f=>let ⟨j,q⟩:=a c o h g f;b c o j q f⟩
structure TS (H H':Hp):Prop where
 tup:∀a xs,H a=ma (.tup xs)->H' a=ma (.tup xs)
 cod:∀a o,H a=ma (frzC o)->H' a=ma (frzC o)
instance:CoeFun (TS H H') λ_=>∀a xs,H a=ma (.tup xs)->H' a=ma (.tup xs):=⟨TS.tup⟩
def TS.trans  (a:TS H H1)(b:TS H1 H2):TS H H2:=⟨λc f h=>b.tup c f (a.tup c f h),λc o h=>b.cod c o (a.cod c o h)⟩
mutual
theorem RU.ts (t:TS H H'):∀{u:U} {v:V},RU K H u v->RU K H' u v
 |.non,_,h=>h
 |.bl _,_,h=>h
 |.int _,_,h=>h
 |.str _,_,h=>h
 |.tup xs,_,h=>by
  obtain⟨a,f,e,q,r⟩:=h
  exact⟨a,f,e,t _ _ q,Vb.ts t r⟩
 |.loc _,_,h=>h
 |.fn _,_,h=>h
 |.ty _,_,h=>h
 |.exc _ _,_,h=>h
 |.own _,_,h=>h
 |.clo _ _,_,h=>h
theorem Vb.ts (t:TS H H'):∀{us:List U} {vs:List V},Vb K H us vs->Vb K H' us vs
 |[],_,h=>h
 |_::_,_,h=>by
  obtain⟨v,j,e,r,f⟩:=h
  exact⟨v,j,e,RU.ts t r,Vb.ts t f⟩
end
theorem fe.ts   (t:TS H H'):∀{kvs:List (κ×U)} {l },fe K H kvs l->fe K H' kvs l
 |[],_,h=>h
 |(_,_)::_,_,h=>by
  obtain⟨v,j,e,r,f⟩:=h;exact⟨v,j,e,r.ts t,fe.ts t f⟩
def SR.ts    (t:TS H H')(h:SR K H f σ):SR K H' f σ:=⟨h.1,λi u e=>let ⟨v,j,r⟩:=h.2 i u e;⟨v,j,r.ts t⟩⟩
def HR.tupNone  (h:HR K H G)(e:H a=ma (.tup xs)):G a=Aa:=by
 cases q:G a with
 |none=>rfl
 |some o=>
  have m:=h a o q;cases o with
  |lst j=>obtain⟨_,f,_⟩:=m;lia
  |fro j=>obtain⟨_,_,f,_⟩:=m;lia
  |dK j=>obtain⟨_,f,_⟩:=m;lia
  |dT j=>obtain⟨_,f,_⟩:=m;lia
  |frd _ j=>obtain⟨_,f,_⟩:=m;lia
  |frk _ j=>obtain⟨_,f,_⟩:=m;lia
def HR.codNone  (h:HR K H G)(e:H a=ma (frzC y)):G a=Aa:=by
 cases q:G a with
 |none=>rfl
 |some o=>
  have m:=h a o q;cases o with
  |lst j=>obtain⟨_,f,_⟩:=m;lia
  |fro j=>obtain⟨_,_,f,_⟩:=m;lia
  |dK j=>obtain⟨_,f,_⟩:=m;lia
  |dT j=>obtain⟨_,f,_⟩:=m;lia
  |frd _ j=>obtain⟨_,f,_⟩:=m;lia
  |frk _ j=>obtain⟨_,f,_⟩:=m;lia
def HR.tblNone  (h:HR K H G)(e:H a=ma (.tbl ps)):G a=Aa:=by
 cases q:G a with
 |none=>rfl
 |some o=>
  have m:=h a o q;cases o with
  |lst j=>obtain⟨_,f,_⟩:=m;lia
  |fro j=>obtain⟨_,_,f,_⟩:=m;lia
  |dK j=>obtain⟨_,f,_⟩:=m;lia
  |dT j=>obtain⟨_,f,_⟩:=m;lia
  |frd _ j=>obtain⟨_,f,_⟩:=m;lia
  |frk _ j=>obtain⟨_,f,_⟩:=m;lia
def Fr.ts  (f:Fr H G H' G')(h:HR K H G):TS H H':=⟨λa j e=>(f a _ e (h.tupNone e)).1,λa o e=>(f a _ e (h.codNone e)).1⟩
def xk.upd  (h:xk H)(f:∀ps,H p≠ma (.tbl ps))(j:∀F,H p≠ma (frzC F)):xk (L2.upd H p o):=λt y=>by
 rcases h t y with e|⟨c,oc,e1,e2,q⟩
 ·exact .inl (by rw[Bd (λz=>f _ (z ▸ e))];exact e)
 ·exact .inr ⟨c,oc,by rw[Bd (λz=>f _ (z ▸ e1))];exact e1,by rw[Bd (λz=>j _ (z ▸ e2))];exact e2,q⟩
def xk.new  (h:xk H)(e:H p=Aa):xk (L2.upd H p o):=h.upd (λf z=>by lia) λj z=>by lia
def HR.tabW  (h:HR K H G){mo:MO}(g:G p=ma mo):xk (L2.upd H p o):=h.tab.upd (λf z=>by rw[h.tblNone z]at g;cases g) λj z=>by rw[h.codNone z]at g;cases g
def ik.there    (m:ik K H a o):∃f,H a=ma f:=by
 cases o with
 |lst _=>obtain⟨_,e,_⟩:=m;simp_all
 |fro _=>obtain⟨_,_,e,_⟩:=m;simp_all
 |dK _=>obtain⟨_,e,_⟩:=m;simp_all
 |dT _=>obtain⟨_,e,_⟩:=m;simp_all
 |frd _ _=>obtain⟨_,e,_⟩:=m;simp_all
 |frk _ _=>obtain⟨_,e,_⟩:=m;simp_all
def ik.keep    (m:ik K H a o)(e:H' a=H a)(t:TS H H'):ik K H' a o:=by
 cases o with
 |lst _=>obtain⟨f,q,r⟩:=m;exact⟨f,e.trans q,r.ts t⟩
 |fro _=>obtain⟨j,f,q,r⟩:=m;exact⟨j,f,e.trans q,r.ts t⟩
 |dK _=>obtain⟨l,q,r⟩:=m;exact⟨l,e.trans q,r.ts t⟩
 |dT _=>obtain⟨l,q,r⟩:=m;exact⟨l,e.trans q,r.ts t⟩
 |frd _ _=>obtain⟨l,q,r⟩:=m;exact⟨l,e.trans q,r.ts t⟩
 |frk _ _=>obtain⟨l,q,r⟩:=m;exact⟨l,e.trans q,r.ts t⟩
def HR.nope  (h:HR K H G)(e:H a=Aa):G a=Aa:=by
 cases q:G a with
 |none=>rfl
 |some o=>
  obtain⟨_,f⟩:=(h a o q).there
  lia
def Gf    : Ed G a o a=ma o:=by unfold Ed;lia
def Uh    (h:b≠a):Ed G a o b=G b:=by unfold Ed;lia
def TS.new    (e:H p=Aa):TS H (upd H p o):=⟨λa j h=>by rw[Bd (Ng h e)];exact h,λa f h=>by rw[Bd (Ng h e)];exact h⟩
def HR.newT  (h:HR K H G)(e:H p=Aa):HR K (upd H p (.tup xs)) G:=⟨λa o q=>by
 have m:=h a o q;obtain⟨j,f⟩:=m.there;exact m.keep (Bd (Ng f e)) (TS.new e),h.tab.new e⟩
def Fr.new    (e:H p=Aa):Fr H G (upd H p o) G:=⟨λa f h g _=>⟨by rw[Bd (Ng h e)];exact h,g⟩⟩
def HR.newO  (h:HR K H G){mo:MO}(e:H p=Aa)(m:ik K (upd H p o) p mo):HR K (upd H p o) (Ed G p mo):=⟨λa f q=>by
 by_cases z:a=p
 ·subst z;rw[Gf]at q
  lia
 ·rw[Uh z]at q;exact(h a f q).keep (Bd z) (TS.new e),h.tab.new e⟩
def Fr.newO     (e:H p=Aa):Fr H G (upd H p o) (Ed G p mo):=⟨λa f h g _=>by
 have z:a≠p:=Ng h e;exact⟨by rw[Bd z];exact h,by rw[Uh z];exact g⟩⟩
def TS.write  (h:HR K H G)(g:G p=ma mo):TS H (upd H p o):=⟨λa j e=>by
 have z:a≠p:=λz=>by subst z;rw[h.tupNone e]at g;cases g
 rw[Bd z];exact e,λa f e=>by
 have z:a≠p:=λz=>by subst z;rw[h.codNone e]at g;cases g
 rw[Bd z];exact e⟩
def HR.write  (h:HR K H G){mo mo':MO}(g:G p=ma mo)(m:ik K (upd H p o) p mo'):HR K (upd H p o) (Ed G p mo'):=⟨λa f q=>by
 by_cases z:a=p
 ·subst z;rw[Gf]at q
  lia
 ·rw[Uh z]at q;exact(h a f q).keep (Bd z) (TS.write h g),h.tabW g⟩
def Fr.write     (g:G p=ma mo):Fr H G (upd H p o) (Ed G p mo'):=⟨λa f h n _=>by
 have z:a≠p:=λz=>by lia
 exact⟨by rw[Bd z];exact h,by rw[Uh z];exact n⟩⟩
theorem Vb.length  : ∀{us } {vs },Vb K H us vs->us.length=vs.length
 |[],_,h=>by cases h;rfl
 |_::_,_,h=>by
  obtain⟨v,j,rfl,_,f⟩:=h;simp[f.length]
theorem Vb.append  : ∀{us ws } {vs xs },Vb K H us vs->Vb K H ws xs->Vb K H (us++ws) (vs++xs)
 |[],_,_,_,h,h'=>by cases h;exact h'
 |_::_,_,_,_,h,h'=>by
  obtain⟨v,j,rfl,r,f⟩:=h;exact⟨v,j++_,rfl,r,f.append h'⟩
theorem Vb.get  : ∀{us } {vs } {i:Nat} {u },Vb K H us vs->us[i]?=ma u->∃v,vs[i]?=ma v/\RU K H u v
 |[],_,_,_,_,e=>by simp at e
 |_::_,_,0,_,h,e=>by
  obtain⟨v,j,rfl,r,_⟩:=h
  simp_all
 |_::_,_,i+1,_,h,e=>by
  obtain⟨v,j,rfl,_,f⟩:=h;obtain⟨w,q,y⟩:=f.get (i:=i) (by simpa using e)
  simp_all
theorem Vb.take  : ∀{us } {vs } n ,Vb K H us vs->Vb K H (us.take n) (vs.take n)
 |_,_,0,_=>rfl
 |[],_,_+1,h=>by cases h;rfl
 |_::_,_,n+1,h=>by
  obtain⟨v,j,rfl,r,f⟩:=h;exact⟨v,j.take n,rfl,r,f.take n⟩
theorem Vb.drop  : ∀{us } {vs } n ,Vb K H us vs->Vb K H (us.drop n) (vs.drop n)
 |_,_,0,h=>h
 |[],_,_+1,h=>by cases h;rfl
 |_::_,_,n+1,h=>by
  obtain⟨v,j,rfl,_,f⟩:=h;exact f.drop n
theorem Vb.set    (r:RU K H u v):∀{us } {vs } i ,Vb K H us vs->Vb K H (us.set i u) (vs.set i v)
 |[],_,_,h=>by cases h;rfl
 |_::_,_,0,h=>by
  obtain⟨w,j,rfl,_,f⟩:=h;exact⟨v,j,rfl,r,f⟩
 |_::_,_,i+1,h=>by
  obtain⟨w,j,rfl,q,f⟩:=h;exact⟨w,j.set i v,rfl,q,f.set r i⟩
theorem Vb.reverse  : ∀{us } {vs },Vb K H us vs->Vb K H us.reverse vs.reverse
 |[],_,h=>by cases h;rfl
 |_::_,_,h=>by
  obtain⟨v,j,rfl,r,f⟩:=h;rw[Sr,Sr];exact f.reverse.append ⟨v,[],rfl,r,rfl⟩
theorem Vb.rep    (h:Vb K H us vs):∀k ,Vb K H (Zb k us).flatten (Zb k vs).flatten
 |0=>rfl
 |k+1=>by
  rw[Xj,Xj,Hn,Hn];exact h.append (h.rep k)
theorem Vb.erase  : ∀{us } {vs } i ,Vb K H us vs->Vb K H (us.eraseIdx i) (vs.eraseIdx i)
 |[],_,_,h=>by cases h;rfl
 |_::_,_,0,h=>by
  obtain⟨v,j,rfl,_,f⟩:=h;exact f
 |_::_,_,i+1,h=>by
  obtain⟨v,j,rfl,r,f⟩:=h;exact⟨v,_,rfl,r,f.erase i⟩
def Vb.dropLast    (h:Vb K H us vs):Vb K H us.dropLast vs.dropLast:=by
 rw[EL,EL,h.length];exact h.take _
theorem Vb.atI {us:List U}{vs:List V}{i:Int}{u:U}(h:Vb K H us vs)(e:atI us i=ma u):∃v,L2.atI vs i=ma v/\RU K H u v:=by
 unfold L2.atI at e ⊢;rw[h.length]at e;cases q:mh vs.length i with
 |none=>simp_all
 |some j=>
  rw[q]at e;exact h.get e
def Vb.cut    (h:Vb K H us vs) lo hi:Vb K H (Z.cut us lo hi) (cutV vs lo hi):=by
 unfold Z.cut cutV;rw[h.length];exact(h.drop _).take _
theorem Vb.isEmpty    (h:Vb K H us vs):us.isEmpty=vs.isEmpty:=by
 cases us with
 |nil=>cases h;rfl
 |cons u us=>obtain⟨v,f,rfl,_⟩:=h;rfl
theorem Vb.ints  : ∀{us } {vs } {ns },Vb K H us vs->Ck us=ma ns->vs=ns.map V.int
 |[],_,_,h,e=>by cases h;cases e;rfl
 |u::us,_,ns,h,e=>by
  obtain⟨v,j,rfl,r,f⟩:=h;cases u with
  |int i=>
   cases r;rw[Ck]at e;cases q:Ck us with
   |none=>lia
   |some l=>rw[q]at e;cases e;rw[f.ints q];rfl
  |_=>cases e
def HR.lst  (h:HR K H G)(e:G a=ma (.lst us)):∃vs,H a=ma (.lst vs)/\Vb K H us vs:=h a _ e
def HR.ls  (h:HR K H G)(e:Rc G a=ma us):∃vs,re K H a vs/\Vb K H us vs:=by
 unfold Rc at e;split at e
 ·rename_i f q;cases e;obtain⟨vs,q2,r⟩:=h a _ q;exact⟨vs,.inl (.inl q2),r⟩
 ·rename_i f q;cases e;obtain⟨o,vs,q2,r⟩:=h a _ q;exact⟨vs,.inl (.inr ⟨o,q2⟩),r⟩
 lia
def HR.rd  (h:HR K H G)(e:Rc G a=ma us):∃vs,Rd H a (.lst vs)/\Vb K H us vs:=by
 unfold Rc at e;split at e
 ·rename_i f q;cases e;obtain⟨vs,q2,r⟩:=h a _ q;exact⟨vs,.inl q2,r⟩
 ·rename_i f q;cases e;obtain⟨o,vs,q2,r⟩:=h a _ q;exact⟨vs,.inr ⟨o,q2⟩,r⟩
 lia
end
mutual
theorem DU.dv {K:Sb}{H:Hp}{G:Gp}(h:HR K H G):∀{u:U} {d:ub} {v:V},DU G u d->RU K H u v->DV K H v d
 |_,_,_,.non,r=>by cases r;exact .non
 |_,_,_,.bl b,r=>by cases r;exact .bl b
 |_,_,_,.int i,r=>by cases r;exact .int i
 |_,_,_,.str x,r=>by cases r;exact .str x
 |_,_,_,.tup q,r=>by
  obtain⟨a,j,rfl,s,f⟩:=r
  exact .tup (.of s) (Nh.dv h q f)
 |_,_,_,.lst e q,r=>by
  cases r
  obtain⟨j,s,f⟩:=h.rd e
  exact .lst s (Nh.dv h q f)
 |_,_,_,.dic e,r=>by
  cases r
  obtain⟨l,q,f⟩:=h _ _ e
  cases f
  exact .dic q
theorem Nh.dv {K:Sb}{H:Hp}{G:Gp}(h:HR K H G):∀{us:List U} {f:List ub} {vs:List V},Nh G us f->Vb K H us vs->Lg K H vs f
 |_,_,_,.nil,r=>by cases r;exact .nil
 |_,_,_,.cons a b,r=>by
  obtain⟨v,q,rfl,r1,j⟩:=r
  exact .cons (DU.dv h a r1) (Nh.dv h b j)
end
end Z

namespace L2
open PySem
def PE.imp     (h:PE X e t)(i:∀j H Q,t' j H Q->t j H Q):PE X e t':=λf s j H Q I q=>h f s j H Q I (i j H Q q)
def PT.imp     (h:PT X e t)(i:∀j H Q,t' j H Q->t j H Q):PT X e t':=λf s j H Q I q=>h f s j H Q I (i j H Q q)
def PW.imp     (h:PW X e t)(i:∀j H Q,t' j H Q->t j H Q):PW X e t':=λw f s j H Q I q=>h w f s j H Q I (i j H Q q)
def PA.imp     (h:PA X e t)(i:∀j H Q,t' j H Q->t j H Q):PA X e t':=λy f s j H Q I q=>h y f s j H Q I (i j H Q q)
def PO.imp     (h:PO X e t)(i:∀j H Q,t' j H Q->t j H Q):PO X e t':=λf s j H Q I q=>h f s j H Q I (i j H Q q)
def PS.imp     (h:PS X e t)(i:∀D j H,t' D j H->t D j H):PS X e t':=λf s j H D I q=>h f s j H D I (i D j H q)
def Sf.imp     (h:Sf X e t)(i:∀D j H,t' D j H->t D j H):Sf X e t':=λf s j H D I q=>h f s j H D I (i D j H q)
end L2
namespace Z
open PySem L2
noncomputable def gK  (K:Sb):Str->Option Da:=λx=>(Bn K Df x).join
def XD  (K:Sb)(H:Hp)(C f:Ea)(x:XV):Prop:=1<=x.c/\x.c<6/\XCls K (gK K) (clsN x.c) (clsF x.c) C/\∃l,H f=ma (.xd l)/\l.map (·.1)=clsF x.c/\Vb K H x.fs (l.map (·.2))
def WM  (X:Cx)(H:Hp)(s:Fa)(e:Da)(x:XV):Prop:=∃j C f,e=.ref j/\Lies X.s₀.heap.objs.size X.pn H s.heap j (.ref C) (ma f)/\XD X.K H C f x
section
variable (X:Cx)
def LX (j:St)(H:Hp)(G:Gp)(E:KX):Prop:=∀(f:List (Ea×Obj)) (e:Da) (s':Fa) (x:XV) (G':Gp) (H':Hp),Qa X f j H' s'->WM X H' s' e x->HR X.K H' G'->Fr H G H' G'->E x G'->X.xe e s'
def LV (H:Hp)(G:Gp)(Q:K1)(q:VK):Prop:=∀w v j f,RU X.K f w v->HR X.K f j->Fr H G f j->Q w j->q v f
def lE (t:UE):TE:=λj H q=>∃f G Q E,SR X.K H f j/\HR X.K H G/\t f G Q E/\LV X H G Q q/\LX X j H G E
def lT (t:UT):TT:=λq H z=>∃y G Q E,SR X.K H y q/\HR X.K H G/\t y G Q E/\(∀b j f,HR X.K f j->Fr H G f j->Q b j->z b f)/\LX X q H G E
def lA (t:UA):TA:=λq H I=>∃F G Q E,SR X.K H F q/\HR X.K H G/\t F G Q E/\(∀y z j f,Vb X.K f y z->HR X.K f j->Fr H G f j->Q y j->I z f)/\LX X q H G E
def lO (t:Sg->Gp->(Option Int->Gp->Prop)->KX->Prop):TO:=λq H z=>∃y G Q E,SR X.K H y q/\HR X.K H G/\t y G Q E/\(∀o j f,HR X.K f j->Fr H G f j->Q o j->z o f)/\LX X q H G E
end
section
variable {X:Cx}{σ:St}{H H1 H2:Hp}{G G1 G2:Gp}
def LX.fr  {E:KX}(h:LX X σ H G E)(f:Fr H G H1 G1):LX X σ H1 G1 E:=λj e y x O J I a z F q=>h j e y x O J I a z (f.trans F) q
def LV.fr    (h:LV X H G Q Q0)(f:Fr H G H1 G1):LV X H1 G1 Q Q0:=λw v F y r j z q=>h w v F y r j (f.trans z) q
def LV.here    (h:LV X H G Q Q0)(r:RU X.K H w v)(f:HR X.K H G)(q:Q w G):Q0 v H:=h w v G H r f (Fr.refl _ _) q
def LV.bl    (h:LV X H G Q Q0)(f:HR X.K H G)(q:Q (.bl b) G):Q0 (.bl b) H:=h.here (w:=.bl b) rfl f q
def LV.int    (h:LV X H G Q Q0)(f:HR X.K H G)(q:Q (.int b) G):Q0 (.int b) H:=h.here (w:=.int b) rfl f q
def LV.str    (h:LV X H G Q Q0)(f:HR X.K H G)(q:Q (.str b) G):Q0 (.str b) H:=h.here (w:=.str b) rfl f q
def LV.tup    (h:LV X H G Q Q0)(e:H p=Aa)(r:Vb X.K H us vs)(f:HR X.K H G)(q:Q (.tup us) G):Q0 (.ref p) (upd H p (.tup vs)):=
 h (.tup us) (.ref p) G _ ⟨p,vs,rfl,Hg,r.ts (TS.new e)⟩ (f.newT e) (Fr.new e) q
def LV.lst    (h:LV X H G Q Q0)(e:H p=Aa)(r:Vb X.K H us vs)(f:HR X.K H G)(q:newO G (.lst us) Q):Q0 (.ref p) (upd H p (.lst vs)):=
 h (.loc p) (.ref p) _ _ rfl (f.newO (mo:=.lst us) e ⟨vs,Hg,r.ts (TS.new e)⟩) (Fr.newO e) (q.at p (f.nope e))
def LV.wl    (h:LV X H G Q Q0)(g:G p=ma mo)(r:Vb X.K H us vs)(f:HR X.K H G)(j:RU X.K H w v)(q:putO G p (.lst us) (Q w)):Q0 v (upd H p (.lst vs)):=
 h w v _ _ (j.ts (TS.write f g)) (f.write (mo':=.lst us) g ⟨vs,Hg,r.ts (TS.write f g)⟩) (Fr.write g) q.at
end

def lE.two  {R:V->V->Hp->Prop}{k:U->U->Gp->K1->Prop}(h:lE X (λF G Q E=>ta F G (λx Y=>tb F Y (λy O=>k x y O Q) E) E) σ H Q0)
  (f:∀x y v j G I Q,RU X.K I x v->RU X.K I y j->HR X.K I G->k x y G Q->LV X I G Q Q0->R v j I):lE X ta σ H λv H1=>lE X tb σ H1 λj H2=>R v j H2:=by
 obtain⟨F,G,Q,E,q,hG,h,lv,lx⟩:=h;refine⟨F,G,_,E,q,hG,h,λx v Y H1 rx z Z h1=>?_,lx⟩;refine⟨F,Y,_,E,q.ts (Z.ts hG),z,h1,λy j O H2 ry J f2 h2=>?_,lx.fr Z⟩;exact f x y v j O H2 Q (rx.ts (f2.ts z)) ry J h2 (lv.fr (Z.trans f2))
def lE.one  {R:V->Hp->Prop}{k:U->Gp->K1->Prop}(h:lE X (λF G Q E=>ta F G (λx z=>k x z Q) E) σ H Q0)
  (f:∀x v G j Q,RU X.K j x v->HR X.K j G->k x G Q->LV X j G Q Q0->R v j):lE X ta σ H R:=by
 obtain⟨F,G,Q,E,q,Y,h,O,lx⟩:=h;exact⟨F,G,_,E,q,Y,h,λx v z H1 I y Z J=>f x v z H1 Q I y J (O.fr Z),lx⟩
def lE.many    {k:List U->Gp->K1->Prop}(h:lE X (λF G Q E=>ta F G (λx z=>k x z Q) E) σ H Q0)
  (f:∀x v G j Q,Vb X.K j x v->HR X.K j G->k x G Q->LV X j G Q Q0->R v j):lA X ta σ H R:=by
 obtain⟨F,G,Q,E,q,Y,h,O,lx⟩:=h;exact⟨F,G,_,E,q,Y,h,λx v z H1 I y Z J=>f x v z H1 Q I y J (O.fr Z),lx⟩

def kR    (J:X.N[i]?=ma x)(y:Ps X.env.scope x)(hd:(x==("__debug__" : Str))=Ca)(j:(x==("__classdict__" : Str))=Ca):PE X (.Name x pos) (lE X λq G Q _=>slot q i λu=>Q u G):=by
 refine(NU J y hd j).imp λR H O h=>?_;obtain⟨q,G,Q,E,f,F,h,z,_⟩:=h;unfold slot at h;split at h
 ·rename_i u e;obtain⟨v,I,r⟩:=f.2 i u e;exact⟨v,I,z.here r F h⟩
 lia
def Jo     (h:PE X e (tC v))(r:∀H,RU X.K H u v):PE X e (lE X λ_ G Q _=>Q u G):=
 h.imp λ_ _ _ ⟨_,_,_,_,_,f,q,j,_⟩=>j.here (r _) f q
def El  (X:Cx)(f:Da->Da->Sem Da)(b:U->U->Gp->K1->Prop):Prop:=
 ∃r:R2,Oc X f r/\∀x y v q G H Q j,RU X.K H x v->RU X.K H y q->HR X.K H G->b x y G Q->LV X H G Q j->r v q H j

def TR    (Y:El X (rf o) k)(Z:PE X a (lE X ta))(hb:PE X b (lE X tb)) :
  PE X (.BinOp a o b pos) (lE X λf G Q E=>ta f G (λx O=>tb f O (λy F=>k x y F Q) E) E):=by
 obtain⟨r,I,h2⟩:=Y;exact(jQ I Z hb).imp λσ H J h=>lE.two h λx y v z G H' Q j ry hG q R=>h2 x y v z G H' Q J j ry hG q R
def MS  : El X (rf .Add) addU:=by
 refine⟨_,zS.or (oZ.or ((eV (X:=X)).or (AS.or cV))),?_⟩;intro x y v v' G H Q Q0 F I f h j;cases x<;>try exact h.elim
 ·cases y<;>try exact h.elim
  cases F;cases I;exact .inr (.inr (.inr (.inr ⟨_,_,rfl,rfl,j.int f h⟩)))
 ·cases y<;>try exact h.elim
  cases F;cases I;exact .inl ⟨_,_,rfl,rfl,j.int f h⟩
 ·cases y<;>try exact h.elim
  cases F;cases I;exact .inr (.inl ⟨_,_,rfl,rfl,h.1,j.str f h.2⟩)
 ·cases y<;>try exact h.elim
  rename_i Z Y;obtain⟨a,O,rfl,s1,r1⟩:=F;obtain⟨b,J,rfl,s2,r2⟩:=I;obtain⟨R,q⟩:=h;refine .inr (.inr (.inl ⟨a,b,O,J,rfl,rfl,.of s1,.of s2,by rw[<- r1.length,<- r2.length];exact R,λz=>?_,λ_ z=>?_,λ_ _ p hp=>?_⟩))
  ·have:Z=[]:=by have:=r1.length;simp_all
   subst this;exact j.here (w:=.tup Y) ⟨b,J,rfl,s2,r2⟩ f q
  ·have:Y=[]:=by have:=r2.length;simp_all
   subst this;rw[xi]at q;exact j.here (w:=.tup Z) ⟨a,O,rfl,s1,r1⟩ f q
  ·exact j.tup hp (r1.append r2) f q
 ·cases y<;>try exact h.elim
  cases F;cases I;obtain⟨Z,Y,g1,g2,R,q⟩:=h;obtain⟨O,e1,r1⟩:=f.lst g1;obtain⟨J,e2,r2⟩:=f.lst g2;exact .inr (.inr (.inr (.inl ⟨_,_,O,J,rfl,rfl,e1,e2,by rw[<- r1.length,<- r2.length];exact R,λp hp=>j.lst hp (r1.append r2) f q⟩)))
def VS  : El X (rf .Sub) subU:=by
 refine⟨_,LS.or (jV (X:=X)),?_⟩;intro x y v F G H Q I q z j h f;cases x<;>try exact h.elim
 all_goals cases y<;>try exact h.elim
 all_goals cases q;cases z
 ·exact .inr (.inl ⟨_,_,rfl,rfl,f.int j h⟩)
 ·exact .inr (.inr ⟨_,_,rfl,rfl,f.int j h⟩)
 ·exact .inl ⟨_,_,rfl,rfl,f.int j h⟩
def QS  : El X (rf .Mult) mulU:=by
 refine⟨_,GS.or (KS.or ((iV (X:=X)).or hV)),?_⟩;intro x y v v' G H Q Q0 F J f h j;cases x<;>try exact h.elim
 all_goals cases y<;>try exact h.elim
 ·cases F;cases J;exact .inl ⟨_,_,rfl,rfl,h.1,j.int f h.2⟩
 ·cases F;cases J;exact .inr (.inr (.inr ⟨_,_,rfl,rfl,h.1,h.2.1,h.2.2.1,j.str f h.2.2.2⟩))
 ·rename_i I k;obtain⟨a,O,rfl,s1,r1⟩:=F;cases J;obtain⟨h0,Y,h2,R,q⟩:=h;refine .inr (.inr (.inl ⟨a,k,O,rfl,rfl,.of s1,?_,Y,h2,by rw[<- r1.length];exact R,λz=>?_,λ_ p Z=>j.tup Z (r1.rep _) f q⟩))
  ·intro z;subst z;exact h0 (by have:=r1.length;simp_all)
  ·subst z;have e:(Zb (Ql 1) I).flatten=I:=by simp
   rw[e]at q;exact j.here (w:=.tup I) ⟨a,O,rfl,s1,r1⟩ f q
 ·cases F;cases J;obtain⟨I,g1,Y,h2,R,q⟩:=h;obtain⟨O,e1,r1⟩:=f.lst g1;exact .inr (.inl ⟨_,_,O,rfl,rfl,e1,Y,h2,by rw[<- r1.length];exact R,λp Z=>j.lst Z (r1.rep _) f q⟩)
def lV  : El X (rf .FloorDiv) QD:=by
 refine⟨_,gV,?_⟩;intro x y v F G H Q I f z q h j;cases x<;>try exact h.elim
 cases y<;>try exact h.elim
 ·cases f;cases z;exact⟨_,_,rfl,rfl,⟨h.1,h.2.1⟩,j.int q h.2.2⟩
def OS  : El X (rf .Mod) modU:=by
 refine⟨_,FS,?_⟩;intro x y v F G H Q I f z q h j;cases x<;>try exact h.elim
 cases y<;>try exact h.elim
 ·cases f;cases z;exact⟨_,_,rfl,rfl,h.1,j.int q h.2⟩
def RS  : El X (rf .Pow) powU:=by
 refine⟨_,JS,?_⟩;intro x y v F G H Q I f z q h j;cases x<;>try exact h.elim
 cases y<;>try exact h.elim
 ·cases f;cases z;exact⟨_,_,rfl,rfl,h.1,j.int q h.2⟩
def NS   o:El X (rf o) (binU o):=by
 cases o with
 |Add=>exact MS
 |Sub=>exact VS
 |Mult=>exact QS
 |FloorDiv=>exact lV
 |Mod=>exact OS
 |Pow=>exact RS
 |_=>exact⟨λ_ _ _ _=>False,λ_ _ _ _ _ _ _ _ _ _ _ _ h=>h.elim,λ_ _ _ _ _ _ _ _ _ _ _ h _=>h⟩
def bR  (z:PE X a (lE X ta)):PE X (.UnaryOp .USub a pos) (lE X λI G Q E=>ta I G (λx j=>negU x j Q) E):=by
 refine(kQ eU z).imp λJ H O h=>lE.one h λx v G R Q f F q y=>?_;cases x<;>try exact q.elim
 cases f;exact⟨_,rfl,y.int F q⟩
def Xn  (X:Cx)(o:jt):Prop:=
 ∃r:R2,Oc X (Ke o) r/\∀x y v v' G H (k:Bool->Prop) (Q0:VK),RU X.K H x v->RU X.K H y v'->HR X.K H G->cmpU o x y G k->(∀c,k c->Q0 (.bl c) H)->r v v' H Q0

def tD  (f:Bool):R2:=λx y H Q=>((x=.non\/∃b,x=.bl b)\/(y=.non\/∃b,y=.bl b))/\Q (.bl (if f then !decide (x=y) else decide (x=y))) H
def AG    (f:RelV x v)(j:RelV y u)(h:(x=.non\/∃b,x=.bl b)\/(y=.non\/∃b,y=.bl b)):plainIs v u=ua/\(v==u)=decide (x=y):=by
 rcases h with(rfl|⟨b,rfl⟩)|(rfl|⟨b,rfl⟩)
 ·cases f;cases y with
  |non=>cases j;exact⟨rfl,by simp⟩
  |bl c=>cases j;exact⟨rfl,by simp⟩
  |int _=>obtain⟨t,rfl⟩:=j;exact⟨rfl,by simp⟩
  |str _=>obtain⟨t,rfl⟩:=j;exact⟨rfl,by simp⟩
  |byt _=>obtain⟨t,rfl⟩:=j;exact⟨rfl,by simp⟩
  |flt _=>obtain⟨t,rfl⟩:=j;exact⟨rfl,by simp⟩
  |ref _=>cases j;exact⟨rfl,by simp⟩
  |ty _=>cases j;exact⟨rfl,by simp⟩
 ·cases f;cases y with
  |non=>cases j;exact⟨rfl,by simp⟩
  |bl c=>cases j;exact⟨rfl,by lia⟩
  |int _=>obtain⟨t,rfl⟩:=j;exact⟨rfl,by simp⟩
  |str _=>obtain⟨t,rfl⟩:=j;exact⟨rfl,by simp⟩
  |byt _=>obtain⟨t,rfl⟩:=j;exact⟨rfl,by simp⟩
  |flt _=>obtain⟨t,rfl⟩:=j;exact⟨rfl,by simp⟩
  |ref _=>cases j;exact⟨rfl,by simp⟩
  |ty _=>cases j;exact⟨rfl,by simp⟩
 ·cases j;cases x with
  |non=>cases f;exact⟨rfl,by simp⟩
  |bl c=>cases f;exact⟨rfl,by simp⟩
  |int _=>obtain⟨t,rfl⟩:=f;exact⟨rfl,by simp⟩
  |str _=>obtain⟨t,rfl⟩:=f;exact⟨rfl,by simp⟩
  |byt _=>obtain⟨t,rfl⟩:=f;exact⟨rfl,by simp⟩
  |flt _=>obtain⟨t,rfl⟩:=f;exact⟨rfl,by simp⟩
  |ref _=>cases f;exact⟨rfl,by simp⟩
  |ty _=>cases f;exact⟨rfl,by simp⟩
 ·cases j;cases x with
  |non=>cases f;exact⟨rfl,by simp⟩
  |bl c=>cases f;exact⟨rfl,by lia⟩
  |int _=>obtain⟨t,rfl⟩:=f;exact⟨rfl,by simp⟩
  |str _=>obtain⟨t,rfl⟩:=f;exact⟨rfl,by simp⟩
  |byt _=>obtain⟨t,rfl⟩:=f;exact⟨rfl,by simp⟩
  |flt _=>obtain⟨t,rfl⟩:=f;exact⟨rfl,by simp⟩
  |ref _=>cases f;exact⟨rfl,by simp⟩
  |ty _=>cases f;exact⟨rfl,by simp⟩
def ES  : Oc X (Ke .Is) (tD Ca):=by
 intro f s O H x y v u Q I j F h;obtain⟨c,q⟩:=h;obtain⟨z,J⟩:=AG j F c;refine wpAny_is_plain z ⟨.bl _,H,I,?_,q⟩;rw[J];rfl
def CY  : Oc X (Ke .IsNot) (tD ua):=by
 intro f s O H x y v u Q I j F h;obtain⟨c,q⟩:=h;obtain⟨z,J⟩:=AG j F c;refine wpAny_isNot_plain z ⟨.bl _,H,I,?_,q⟩;rw[J];rfl
def iF       (f:RU K H x v)(j:RU K H y F)(h:gj x y k):((v=.non\/∃b,v=.bl b)\/(F=.non\/∃b,F=.bl b))/\k (decide (v=F)):=by
 have e:∀{a b:V},a≠b->k Ca->k (decide (a=b)):=λn q=>by lia
 cases x<;>try exact h.elim
 ·cases y
  case non=>have J:k ua:=h;cases f;cases j;lia
  all_goals first
   |exact h.elim
   |(cases f;obtain⟨a,I,rfl,_⟩:=j;exact⟨.inl (.inl rfl),e (λz=>nomatch z) h⟩)
   |(cases f;cases j;exact⟨.inl (.inl rfl),e (λz=>nomatch z) h⟩)
 ·cases y<;>first
   |exact h.elim
   |(cases f;cases j;exact⟨.inr (.inl rfl),e (λz=>nomatch z) h⟩)
   |(cases f;cases j;rename_i b c;exact⟨.inl (.inr ⟨_,rfl⟩),by rw[decide_eq_decide.mpr (⟨λz=>V.bl.inj z,λz=>z ▸ rfl⟩:V.bl b=.bl c↔b=c)];exact h⟩)
 ·cases y<;>first
   |exact h.elim
   |(cases f;cases j;exact⟨.inr (.inl rfl),e (λz=>nomatch z) h⟩)
   |(cases f;cases j;exact⟨.inr (.inr ⟨_,rfl⟩),e (λz=>nomatch z) h⟩)
 ·cases y<;>first
   |exact h.elim
   |(cases f;cases j;exact⟨.inr (.inl rfl),e (λz=>nomatch z) h⟩)
   |(cases f;cases j;exact⟨.inr (.inr ⟨_,rfl⟩),e (λz=>nomatch z) h⟩)
 ·cases y<;>first
   |exact h.elim
   |(cases j;obtain⟨a,I,rfl,_⟩:=f;exact⟨.inr (.inl rfl),e (λz=>nomatch z) h⟩)
   |(cases j;obtain⟨a,I,rfl,_⟩:=f;exact⟨.inr (.inr ⟨_,rfl⟩),e (λz=>nomatch z) h⟩)
 ·cases y<;>first
   |exact h.elim
   |(cases f;cases j;exact⟨.inr (.inl rfl),e (λz=>nomatch z) h⟩)
   |(cases f;cases j;exact⟨.inr (.inr ⟨_,rfl⟩),e (λz=>nomatch z) h⟩)
def yE  {X: Cx}(j:RU X.K H x v)(F:RU X.K H y f)(I:HR X.K H G)(h:eqU x y G k) :
  (scal v f=ua/\k (decide (v=f)))\/∃d e,DV X.K H v d/\DV X.K H f e/\d.canLay0=ua/\e.canLay0=ua/\d.depth<=100/\k (Je d e):=by
 have g:(∃d e,DU G x d/\DU G y e/\Small d/\Small e/\k (Je d e))->(scal v f=ua/\k (decide (v=f)))\/∃d e,DV X.K H v d/\DV X.K H f e/\d.canLay0=ua/\e.canLay0=ua/\d.depth<=100/\k (Je d e):=
  λ⟨d,e,J,R,⟨s1,s2⟩,⟨O,_⟩,q⟩=>.inr ⟨d,e,J.dv I j,R.dv I F,s1,O,s2,q⟩
 have e:∀{p:Prop} [Decidable p],¬p->k Ca->k (decide p):=λn q=>by lia
 cases x<;>try exact g h
 all_goals
  cases y<;>first
   |exact g h
   |(cases j;cases F;exact .inl ⟨rfl,e (λz=>V.noConfusion z) h⟩)
   |(cases j;cases F;exact .inl ⟨rfl,by simp only[V.bl.injEq,V.int.injEq,V.str.injEq];exact h⟩)
def HY      (r:Vb K H us vs):vs.isEmpty=us.isEmpty:=by
 have:=r.length;cases us<;>cases vs<;>simp_all
def aW  {X: Cx}(j:RU X.K H x v)(F:RU X.K H y I)(J:HR X.K H G)(h:GK x y G k):eqU x y G k\/(∃a z kvs,v=.ref a/\I=.str z/\H a=ma (.dK kvs)/\k Ca)\/(∃a b xs,v=.ref a/\I=.ref b/\Qd X.K H a xs/\Qd X.K H b []/\k xs.isEmpty)\/∃a z xs,v=.ref a/\I=.str z/\(Qd X.K H a xs\/re X.K H a xs)/\k Ca:=by
 cases x<;>try exact .inl h
 all_goals cases y<;>try exact .inl h
 ·obtain⟨a,f,rfl,s1,r1⟩:=j;cases F;exact .inr (.inr (.inr ⟨a,_,f,rfl,rfl,.inl (.of s1),h⟩))
 ·rename_i R;cases R<;>try exact .inl h
  obtain⟨a,f,rfl,s1,r1⟩:=j;obtain⟨b,Y,rfl,s2,r2⟩:=F;cases r2;refine .inr (.inr (.inl ⟨a,b,f,rfl,rfl,.of s1,.of s2,?_⟩));rw[HY r1];exact h
 ·rcases h with⟨kvs,g,q⟩|⟨xs,g,q⟩|h
  ·cases j;cases F;obtain⟨l,e,O⟩:=J _ _ g;exact .inr (.inl ⟨_,_,l,rfl,rfl,e,q⟩)
  ·cases j;cases F;obtain⟨f,e,O⟩:=J.lst g;exact .inr (.inr (.inr ⟨_,_,f,rfl,rfl,.inr (.of e),q⟩))
  ·exact .inl h
def Dk       (r:RU K H x v)(e:kU x=ma k):v=kV k:=by
 cases x with
 |int i=>cases r;cases e;rfl
 |str i=>cases r;cases e;rfl
 |_=>cases e
theorem Ru    : ∀{xs } {vs } {ks },Vb K H xs vs->Hm xs=ma ks->vs=ks.map kV
 |[],_,_,r,e=>by cases r;cases e;rfl
 |x::xs,_,ks,r,e=>by
  obtain⟨v,y,rfl,r1,q⟩:=r;rw[Hm]at e;cases f:kU x with
  |none=>lia
  |some k=>
   cases j:Hm xs with
   |none=>lia
   |some l=>
    rw[f,j]at e;cases e;rw[Dk r1 f,Ru q j];rfl
def bv      (r:RU K H x v)(e:flat x=ua):ki v=ua:=by
 cases x<;>first|(cases r;rfl)|exact absurd (show Ca=ua from e) (by decide)
theorem Cv    : ∀{xs } {vs },Vb K H xs vs->xs.all flat=ua->vs.all ki=ua
 |[],_,r,_=>by cases r;rfl
 |x::xs,_,r,e=>by
  obtain⟨v,j,rfl,r1,f⟩:=r;rw[Ir,Kf]at e;rw[Ir,bv r1 e.1,Cv f e.2];rfl
def CT      (r:RU K H x v)(j:RU K H y q)(e:flat x=ua)(f:flat y=ua):Oj v q=Pj x y:=by
 cases x<;>first|(exact absurd (show Ca=ua from e) (by decide))|(cases y<;>first|(exact absurd (show Ca=ua from f) (by decide))|(cases r;cases j;rfl))
theorem Uu      (r:RU K H x v)(e:flat x=ua):∀{xs } {vs },Vb K H xs vs->xs.all flat=ua->Tq v vs=xs.any λy=>Pj y x
 |[],_,f,_=>by cases f;rfl
 |y::xs,_,f,e'=>by
  obtain⟨z,q,rfl,r1,f⟩:=f;rw[Ir,Kf]at e';have j:=Uu r e f e'.2;unfold Tq at j ⊢;rw[fk,fk,CT r1 r e'.1 e,j]
theorem Ko {κ:Type}[DecidableEq κ]{K:Sb}{H:Hp}(k:κ):∀{kvs:List (κ×U)} {l:List (κ×V)},fe K H kvs l->match dGet kvs k with|some u=>∃v,valV l k=ma v/\RU K H u v|none=>valV l k=Aa
 |[],_,r=>by cases r;exact rfl
 |(k',u)::kvs,_,r=>by
  obtain⟨v,j,rfl,r1,f⟩:=r;by_cases e:k'=k
  ·subst e;have:dGet ((k',u)::kvs) k'=ma u:=by simp[dGet,sj]
   rw[this];exact⟨v,vv rfl,r1⟩
  ·have:dGet ((k',u)::kvs) k=dGet kvs k:=by simp[dGet,sj,e]
   rw[this,uv (p:=(k',v)) e];exact Ko k f
def EA   [DecidableEq κ](k:κ)(r:fe K H kvs l):(valV l k).isSome=(dGet kvs k).isSome:=by
 have:=Ko k r
 grind
def rDIn  (f:Bool):R2:=λx y H Q=>∃a o,y=.ref a/\DGet H a x o/\Q (.bl (if f then !o.isSome else o.isSome)) H
def BS  (hu:X.A.units+1<Ec):Oc X (Ke .In) (rDIn Ca):=by
 intro f s O H x y v u Q I j F h;obtain⟨a,o,rfl,g,q⟩:=h;cases F;exact d_in hu I g j λJ z=>⟨.bl o.isSome,H,z,rfl,q⟩
def zY  (hu:X.A.units+1<Ec):Oc X (Ke .NotIn) (rDIn ua):=by
 intro f s O H x y v u Q I j F h;obtain⟨a,o,rfl,g,q⟩:=h;cases F;exact UV hu I g j λJ z=>⟨.bl (!o.isSome),H,z,rfl,q⟩
theorem xA    : ∀{ns:List Int} {vs },Vb K H (ns.map .int) vs->vs=ns.map V.int
 |[],_,h=>h
 |n::ns,_,h=>by
  obtain⟨v,q,rfl,f,j⟩:=h;rw[xA j];have f:v=.int n:=f;rw[f];rfl
def GE  {X: Cx}(z:RU X.K H x v)(ry:RU X.K H y v')(F:HR X.K H G)(h:nh x y G k) :
  (∃i j,v=.str i/\v'=.str j/\k (!(Uw j i 0 j.length 1).isEmpty))\/(∃p xs,v'=.ref p/\(re X.K H p xs\/Qd X.K H p xs)/\ki v=ua/\xs.all ki=ua/\k (Tq v xs))\/
   (∃a o,v'=.ref a/\DGet H a v o/\k o.isSome)\/∃(p:Ea) (vs:List V) (d:ub) (O:List ub),v'=.ref p/\(re X.K H p vs\/Qd X.K H p vs)/\DV X.K H v d/\Lg X.K H vs O/\d.canLay0=ua/\d.depth<=100/\(∀e∈O,e.canLay0=ua)/\k (O.any λe=>Je e d):=by
 unfold nh at h;split at h
 ·cases z;cases ry;exact .inl ⟨_,_,rfl,rfl,h⟩
 ·obtain⟨a,vs,rfl,e,f⟩:=ry;obtain⟨d,O,hd,Y,sd,R,q⟩:=h;exact .inr (.inr (.inr ⟨a,vs,d,O,rfl,.inr (.of e),hd.dv F z,Y.dv F f,sd.1,sd.2,λe he=>(R e he).1,q⟩))
 ·obtain⟨a,vs,rfl,e,f⟩:=ry;obtain⟨J,I,q⟩:=h;exact .inr (.inl ⟨a,vs,rfl,.inr (.of e),bv z J,Cv f I,by rw[Uu z J f I];exact q⟩)
 ·cases ry;rename_i a;split at h
  ·rename_i ys g;obtain⟨vs,e,f⟩:=F.lst g;rcases h with⟨J,I,q⟩|⟨d,O,hd,Y,sd,R,q⟩
   ·exact .inr (.inl ⟨a,vs,rfl,.inl (.of e),bv z J,Cv f I,by rw[Uu z J f I];exact q⟩)
   ·exact .inr (.inr (.inr ⟨a,vs,d,O,rfl,.inl (.of e),hd.dv F z,Y.dv F f,sd.1,sd.2,λe he=>(R e he).1,q⟩))
  ·rename_i ys g;obtain⟨ob,vs,e,f⟩:=F a _ g;obtain⟨J,I,q⟩:=h;exact .inr (.inl ⟨a,vs,rfl,.inl (.inl (.inr ⟨ob,e⟩)),bv z J,Cv f I,by rw[Uu z J f I];exact q⟩)
  ·rename_i Z g;obtain⟨l,e,f⟩:=F a _ g;split at h
   ·rename_i y ek;have:=Dk z ek;subst this;exact .inr (.inr (.inl ⟨a,_,rfl,DGet.k e,by rw[EA y f];exact h⟩))
   lia
  ·rename_i Z g;obtain⟨l,e,f⟩:=F a _ g;split at h
   ·rename_i xs;obtain⟨b,vs,rfl,eb,rb⟩:=z;split at h
    ·rename_i y ek;have:=Ru rb ek;subst this;exact .inr (.inr (.inl ⟨a,_,rfl,DGet.t e eb,by rw[EA y f];exact h⟩))
    lia
   lia
  ·rename_i o Z g;obtain⟨l,e,f⟩:=F a _ g;split at h
   ·rename_i y ek;have:=Dk z ek;subst this;exact .inr (.inr (.inl ⟨a,_,rfl,.inl ⟨l,y,.inr ⟨o,e⟩,rfl,rfl⟩,by rw[EA y f];exact h⟩))
   lia
  lia
 lia
def Oz     (h:ordU o x y k):(∃i j,x=.int i/\y=.int j)\/(o=.LtE/\∃i j,x=.str i/\y=.str j):=by
 cases o<;>try exact h.elim
 all_goals cases x<;>try exact h.elim
 all_goals cases y<;>try exact h.elim
 all_goals lia
def Co   (Z:Room k X.A) o:Xn X o:=by
 have hu:X.A.units+1<Ec:=by have:=Z.un;lia
 cases o with
 |Eq=>
  refine⟨_,bQ.or ((CS Z).or ((N1 Z).or ((pZ Z).or (B1 Z)))),λx y v Y G H k Q0 J O R h q=>?_⟩;rcases aW J O R h with h|⟨a,z,kvs,f,F,I,h4⟩|⟨a,b,xs,f,F,I,h4,h5⟩|⟨a,z,xs,f,F,I,h4⟩
  ·rcases yE J O R h with⟨f,F⟩|⟨d,e,f,F,I,h4,h5,h6⟩
   ·exact .inl ⟨f,q _ F⟩
   ·exact .inr (.inl ⟨d,e,f,F,I,h4,h5,q _ h6⟩)
  ·exact .inr (.inr (.inl ⟨a,z,kvs,f,F,I,q _ h4⟩))
  ·exact .inr (.inr (.inr (.inl ⟨a,b,xs,f,F,I,h4,q _ h5⟩)))
  ·exact .inr (.inr (.inr (.inr ⟨a,z,xs,f,F,I,q _ h4⟩)))
 |NotEq=>
  refine⟨_,fQ.or (IS Z),λx y v Y G H k Q0 J O R h q=>?_⟩;rcases yE J O R h with⟨f,F⟩|⟨d,e,f,F,I,h4,h5,h6⟩
  ·exact .inl ⟨f,q _ F⟩
  ·exact .inr ⟨d,e,f,F,I,h4,h5,q _ h6⟩
 |Is=>
  refine⟨_,ES,λx y v Y G H k Q0 J O R h q=>?_⟩;obtain⟨f,F⟩:=iF J O h;exact⟨f,q _ F⟩
 |IsNot=>
  refine⟨_,CY,λx y v Y G H k Q0 J O R h q=>?_⟩;obtain⟨f,F⟩:=iF J O h;exact⟨f,q _ F⟩
 |In=>
  refine⟨_,BY.or ((AY (X:=X)).or ((BS hu).or (DS Z))),λx y v Y G H k Q0 J O R h q=>?_⟩;rcases GE J O R h with⟨i,j,f,F,I⟩|⟨p,xs,f,F,I,h4,h5⟩|⟨a,o,f,F,I⟩|⟨p,vs,d,ds,f,F,I,h4,h5,h6,h7,h8⟩
  ·grind
  ·exact .inr (.inl ⟨p,xs,f,F,I,h4,q _ h5⟩)
  ·exact .inr (.inr (.inl ⟨a,o,f,F,q _ I⟩))
  ·exact .inr (.inr (.inr ⟨p,vs,d,ds,f,F,I,h4,h5,h6,h7,q _ h8⟩))
 |NotIn=>
  refine⟨_,D1.or ((C1 (X:=X)).or ((zY hu).or (EY Z))),λx y v Y G H k Q0 J O R h q=>?_⟩;rcases GE J O R h with⟨i,j,f,F,I⟩|⟨p,xs,f,F,I,h4,h5⟩|⟨a,o,f,F,I⟩|⟨p,vs,d,ds,f,F,I,h4,h5,h6,h7,h8⟩
  ·grind
  ·exact .inr (.inl ⟨p,xs,f,F,I,h4,q _ h5⟩)
  ·exact .inr (.inr (.inl ⟨a,o,f,F,q _ I⟩))
  ·exact .inr (.inr (.inr ⟨p,vs,d,ds,f,F,I,h4,h5,h6,h7,q _ h8⟩))
 |Lt=>
  refine⟨_,eQ,λx y v Y G H k Q0 J O R h q=>?_⟩;obtain⟨i,j,rfl,rfl⟩|⟨z,_⟩:=Oz h
  rotate_left
  ·cases z
  cases J;cases O;exact⟨_,_,rfl,rfl,q _ h⟩
 |LtE=>
  refine⟨_,dQ.or DY,λx y v Y G H k Q0 J O R h q=>?_⟩;obtain⟨i,j,rfl,rfl⟩|⟨_,i,j,rfl,rfl⟩:=Oz h
  ·cases J;cases O;exact .inl ⟨_,_,rfl,rfl,q _ h⟩
  ·cases J;cases O;exact .inr ⟨_,_,rfl,rfl,q _ h⟩
 |Gt=>
  refine⟨_,cQ,λx y v Y G H k Q0 J O R h q=>?_⟩;obtain⟨i,j,rfl,rfl⟩|⟨z,_⟩:=Oz h
  rotate_left
  ·cases z
  cases J;cases O;exact⟨_,_,rfl,rfl,q _ h⟩
 |GtE=>exact⟨λ_ _ _ _=>False,λ_ _ _ _ _ _ _ _ _ _ _ _ h=>h.elim,λ_ _ _ _ _ _ _ _ _ _ _ h _=>h.elim⟩

def VR   (Z:Xn X o)(ha:PE X a (lE X ta))(hb:PE X b (lE X tb))(hm:Xv o b=Ca) :
  PE X (.Compare a [o] [b] pos) (lE X λz G Q E=>ta z G (λx R=>tb z R (λy f=>cmpU o x y f λc=>Q (.bl c) f) E) E):=by
 obtain⟨r,J,h2⟩:=Z;exact(QW J ha hb hm).imp λσ H O h=>lE.two h λx y v I G H' Q F ry j q Y=>h2 x y v I G H' _ O F ry j q λc q=>Y.bl j q
def WT   (ho:Xn X o)(za:Xn X o')(ha:PE X a (lE X ta))(hb:PE X b (lE X tb))(hc:PE X c (lE X tc))(hm:Tv [o,o'] [b,c]=Ca) :
  PE X (.Compare a [o,o'] [b,c] pos) (lE X λF G Q E=>ta F G (λx G1=>tb F G1 (λy O=>cmpU o x y O λt=>if t=ua then tc F O (λz Z=>cmpU o' y z Z λt'=>Q (.bl t') Z) E else Q (.bl Ca) O) E) E):=by
 obtain⟨r,h1,h2⟩:=ho;obtain⟨r',ja,xa⟩:=za;refine(pY h1 ja ha hb hc hm).imp λσ H Q0 h=>?_;obtain⟨F,G,Q,E,j,hG,h,lv,lx⟩:=h;refine⟨F,G,_,E,j,hG,h,λx v G1 H1 rx I J h1=>?_,lx⟩;refine⟨F,G1,_,E,j.ts (J.ts hG),I,h1,λy v' O H2 ry f Y h3=>?_,lx.fr J⟩;refine h2 x y v v' O H2 _ _ (rx.ts (Y.ts I)) ry f h3 λt q=>⟨t,rfl,?_⟩;cases t with
 |false=>
  rw[if_neg Pd]at q ⊢;exact(lv.fr (J.trans Y)).bl f q
 |true=>
  rw[if_pos rfl]at q ⊢;refine⟨F,O,_,E,(j.ts (J.ts hG)).ts (Y.ts I),f,q,λz v3 Z H3 rz R f3 h4=>?_,lx.fr (J.trans Y)⟩;exact xa y z v' v3 Z H3 _ Q0 (ry.ts (f3.ts f)) rz R h4 λc q=>(lv.fr ((J.trans Y).trans f3)).bl R q
def Yu  {X: Cx}(j:RU X.K H x v)(z:HR X.K H G)(h:truU x G k):∃b,TruV X.K v H b/\k b:=by
 cases x<;>try exact h.elim
 ·cases j;exact⟨_,rfl,h⟩
 ·cases j;exact⟨_,rfl,h⟩
 ·cases j;exact⟨_,rfl,h⟩
 ·cases j;exact⟨_,⟨h.1,rfl⟩,h.2⟩
 ·obtain⟨a,q,rfl,e,f⟩:=j;exact⟨_,.inr (.inl ⟨q,.of e,rfl⟩),by rw[<- f.isEmpty];exact h⟩
 ·cases j;unfold truU at h;dsimp only at h;split at h
  ·rename_i g;obtain⟨q,e,f⟩:=z.lst g;exact⟨_,.inl ⟨q,.of e,rfl⟩,by rw[<- f.isEmpty];exact h⟩
  ·rename_i g;obtain⟨F,q,e,f⟩:=z _ _ g;exact⟨_,.inl ⟨q,.inl (.inr ⟨F,e⟩),rfl⟩,by rw[<- f.isEmpty];exact h⟩
  ·rename_i y g;obtain⟨l,e,f⟩:=z _ _ g;refine⟨_,.inr (.inr ⟨l,e,rfl⟩),?_⟩;cases y with
   |nil=>cases f;exact h
   |cons p r=>obtain⟨v,I,rfl,_⟩:=f;exact h
  lia
def fR  (O:PE X a (lE X ta))(I:∀f,Uf a X.env f=(do let v <- f;Gd a.pos;Hc [v] (truthy v))):PT X a (lT X λz G Q E=>ta z G (λx y=>truU x y λb=>Q b y) E):=by
 refine(TX O I).imp λZ H Y h=>?_;obtain⟨z,G,Q,E,j,R,h,lv,lx⟩:=h;refine⟨z,G,_,E,j,R,h,λx v y H1 F q f1 J=>?_,lx⟩;obtain⟨b,h2,h3⟩:=Yu F q J
 grind
def XT   (ho:Xn X o)(ha:PE X a (lE X ta))(hb:PE X b (lE X tb))(hm:Xv o b=Ca) :
  PT X (.Compare a [o] [b] pos) (lT X λz G Q E=>ta z G (λx O=>tb z O (λy f=>cmpU o x y f λc=>truU (.bl c) f λc=>Q c f) E) E):=by
 obtain⟨r,R,h2⟩:=ho;refine(vW R ha hb hm).imp λσ H Q0 h=>?_;obtain⟨z,G,Q,E,j,Z,h,lv,lx⟩:=h;refine⟨z,G,_,E,j,Z,h,λx v O H1 rx F J R=>?_,lx⟩;refine⟨z,O,_,E,j.ts (J.ts Z),F,R,λy v' f H2 ry I Y h3=>?_,lx.fr J⟩;exact h2 x y v v' f H2 _ _ (rx.ts (Y.ts F)) ry I h3 λt q=>⟨t,rfl,lv t f H2 I (J.trans Y) q⟩
def fW   (ho:Xn X o)(za:Xn X o')(ha:PE X a (lE X ta))(hb:PE X b (lE X tb))(hc:PE X c (lE X tc))(hm:Tv [o,o'] [b,c]=Ca) :
  PT X (.Compare a [o,o'] [b,c] pos) (lT X λI G Q E=>ta I G (λx G1=>tb I G1 (λy j=>cmpU o x y j λt=>if t=ua then tc I j (λz R=>cmpU o' y z R λt'=>truU (.bl t') R λc=>Q c R) E else truU (.bl Ca) j λc=>Q c j) E) E):=by
 obtain⟨r,h1,h2⟩:=ho;obtain⟨r',ja,xa⟩:=za;refine(SX h1 ja ha hb hc hm).imp λσ H Q0 h=>?_;obtain⟨I,G,Q,E,F,hG,h,lv,lx⟩:=h;refine⟨I,G,_,E,F,hG,h,λx v G1 H1 rx J O h1=>?_,lx⟩;refine⟨I,G1,_,E,F.ts (O.ts hG),J,h1,λy v' j H2 ry f Z h3=>?_,lx.fr O⟩;refine h2 x y v v' j H2 _ _ (rx.ts (Z.ts J)) ry f h3 λt q=>⟨t,rfl,?_⟩;cases t with
 |false=>
  rw[if_neg Pd]at q ⊢;exact⟨Ca,rfl,lv Ca j H2 f (O.trans Z) q⟩
 |true=>
  rw[if_pos rfl]at q ⊢;refine⟨I,j,_,E,(F.ts (O.ts hG)).ts (Z.ts J),f,q,λz v3 R H3 rz Y f3 h4=>?_,lx.fr (O.trans Z)⟩;exact xa y z v' v3 R H3 _ _ (ry.ts (f3.ts f)) rz Y h4 λc q=>⟨c,rfl,lv c R H3 Y ((O.trans Z).trans f3) q⟩
def nV  {rest:List Na}(F:PE X a sa)(J:PE X (.BoolOp .And (b::rest) pos) R):PE X (.BoolOp .And (a::b::rest) pos) (λj H Q=>sa j H λx H1=>∃k,TruV X.K x H1 k/\if k=ua then R j H1 Q else Q x H1):=by
 intro f s j H Q I h;refine PyProof.Rows.BoolOp_and (Wb (F f s j H _ I h) λv s1 ⟨x,H1,z,r1,k,hk,q1⟩=>?_);refine Wb (Hu f s1 j H1 x v (λc H2=>c=k/\H2=H1) z r1 ⟨k,hk,rfl,rfl⟩) λc s2 ⟨H2,q,O,y⟩=>?_;subst O y;cases c with
 |true=>exact J f s2 j H2 Q q q1
 |false=>exact⟨x,H2,q,r1,q1⟩
def KU  {rest:List Na}(F:PE X a sa)(J:PE X (.BoolOp .Or (b::rest) pos) R):PE X (.BoolOp .Or (a::b::rest) pos) (λj H Q=>sa j H λx H1=>∃k,TruV X.K x H1 k/\if k=ua then Q x H1 else R j H1 Q):=by
 intro f s j H Q I h;refine PyProof.Rows.BoolOp_or (Wb (F f s j H _ I h) λv s1 ⟨x,H1,z,r1,k,hk,q1⟩=>?_);refine Wb (Hu f s1 j H1 x v (λc H2=>c=k/\H2=H1) z r1 ⟨k,hk,rfl,rfl⟩) λc s2 ⟨H2,q,O,y⟩=>?_;subst O y;cases c with
 |true=>exact⟨x,H2,q,r1,q1⟩
 |false=>exact J f s2 j H2 Q q q1
def QR  {rest:List Na}(Y:PE X a (lE X ta))(Z:PE X (.BoolOp .And (b::rest) pos) (lE X tb)):PE X (.BoolOp .And (a::b::rest) pos) (lE X λy G Q E=>ta y G (λx q=>truU x q λc=>if c=ua then tb y q Q E else Q x q) E):=by
 refine(nV Y Z).imp λσ H Q0 h=>?_;obtain⟨y,G,Q,E,j,O,h,J,lx⟩:=h;refine⟨y,G,_,E,j,O,h,λx v q H1 I f F R=>?_,lx⟩;obtain⟨k,h2,z⟩:=Yu I f R;refine⟨k,h2,?_⟩;cases k with
 |true=>rw[if_pos rfl]at z ⊢;exact⟨y,q,Q,E,j.ts (F.ts O),f,z,J.fr F,lx.fr F⟩
 |false=>rw[if_neg Pd]at z ⊢;exact(J.fr F).here I f z
def u_or  {rest:List Na}(Y:PE X a (lE X ta))(Z:PE X (.BoolOp .Or (b::rest) pos) (lE X tb)):PE X (.BoolOp .Or (a::b::rest) pos) (lE X λy G Q E=>ta y G (λx q=>truU x q λc=>if c=ua then Q x q else tb y q Q E) E):=by
 refine(KU Y Z).imp λσ H Q0 h=>?_;obtain⟨y,G,Q,E,j,O,h,J,lx⟩:=h;refine⟨y,G,_,E,j,O,h,λx v q H1 I f F R=>?_,lx⟩;obtain⟨k,h2,z⟩:=Yu I f R;refine⟨k,h2,?_⟩;cases k with
 |true=>rw[if_pos rfl]at z ⊢;exact(J.fr F).here I f z
 |false=>rw[if_neg Pd]at z ⊢;exact⟨y,q,Q,E,j.ts (F.ts O),f,z,J.fr F,lx.fr F⟩
def cR  (O:PE X a (lE X ta)):PE X (.UnaryOp .Not a pos) (lE X λy G Q E=>ta y G (λx z=>truU x z λb=>Q (.bl (!b)) z) E):=by
 intro f s F H Z I h;obtain⟨y,G,Q,E,q,hG,h,J,lx⟩:=h;refine PyProof.Rows.UnaryOp_ (Wb (O f s F H (λv H1=>∃k,TruV X.K v H1 k/\Z (.bl (!k)) H1) I ⟨y,G,_,E,q,hG,h,λx v z H1 Y j R h1=>?_,lx⟩) λv s1 ⟨x,H1,I1,r1,k,hk,q1⟩=>?_)
 ·obtain⟨k,h2,h3⟩:=Yu Y j h1;exact⟨k,h2,(J.fr R).bl j h3⟩
 ·refine PyProof.Rows.not_of (Wb (Hu f s1 F H1 x v (λc H2=>c=k/\H2=H1) I1 r1 ⟨k,hk,rfl,rfl⟩) λc s2 ⟨H2,I2,e1,e2⟩=>?_);subst e1 e2;exact⟨.bl (!c),H2,I2,rfl,q1⟩
def aU  {tB: UT}(hc:PT X c (lT X tA)){tC:UT}(ha:PT X a (lT X tB))(hb:PT X b (lT X tC)):PT X (.IfExp c a b pos) (lT X λq G Q E=>tA q G (λt f=>if t=ua then tB q f Q E else tC q f Q E) E):=by
 intro j s Z H Q0 I h;obtain⟨q,G,Q,E,F,hG,h,lv,lx⟩:=h;show wpAny _ _ (do if <- Uf c X.env (Lb c X.env) then Uf a X.env (Lb a X.env) else Uf b X.env (Lb b X.env)) _ _ s
 refine Ua (Wb (hc j s Z H (λt H1=>∃f,HR X.K H1 f/\Fr H G H1 f/\if t=ua then tB q f Q E else tC q f Q E) I ⟨q,G,_,E,F,hG,h,λt f H1 y z O=>⟨f,y,z,O⟩,lx⟩) λt s1 ⟨H1,I1,f,y,z,O⟩=>?_)
 cases t with
 |true=>exact ha j s1 Z H1 Q0 I1 ⟨q,f,Q,E,F.ts (z.ts hG),y,O,λb Y H2 J R h2=>lv b Y H2 J (z.trans R) h2,lx.fr z⟩
 |false=>exact hb j s1 Z H1 Q0 I1 ⟨q,f,Q,E,F.ts (z.ts hG),y,O,λb Y H2 J R h2=>lv b Y H2 J (z.trans R) h2,lx.fr z⟩
def cU  (I:PT X a (lT X O)):PT X (.UnaryOp .Not a pos) (lT X λy G Q E=>O y G (λb q=>Q (!b) q) E):=by
 refine(sU I).imp λZ H Y h=>?_;obtain⟨y,G,Q,E,f,J,h,F,lx⟩:=h;exact⟨y,G,_,E,f,J,h,λb q H1 j R z=>F (!b) q H1 j R z,lx⟩
def RT  {tB: UT}{rest:List Na}(Z:PT X a (lT X tA))(hb:PW X (.BoolOp .And (b::rest) pos) (lT X tB)):PW X (.BoolOp .And (a::b::rest) pos) (lT X λj G Q E=>tA j G (λc q=>if c=ua then tB j q Q E else Q Ca q) E):=by
 refine(pw_and Z hb).imp λσ H Q0 h=>?_;obtain⟨j,G,Q,E,f,J,h,Y,lx⟩:=h;refine⟨j,G,_,E,f,J,h,λc q H1 y F I=>?_,lx⟩;cases c with
 |false=>grind
 |true=>rw[if_pos rfl]at I ⊢;exact⟨j,q,Q,E,f.ts (F.ts J),y,I,λb O H2 z R h2=>Y b O H2 z (F.trans R) h2,lx.fr F⟩
def dR  {tB: UT}{rest:List Na}(Z:PT X a (lT X tA))(hb:PW X (.BoolOp .Or (b::rest) pos) (lT X tB)):PW X (.BoolOp .Or (a::b::rest) pos) (lT X λj G Q E=>tA j G (λc q=>if c=ua then Q ua q else tB j q Q E) E):=by
 refine(pw_or Z hb).imp λσ H Q0 h=>?_;obtain⟨j,G,Q,E,f,J,h,Y,lx⟩:=h;refine⟨j,G,_,E,f,J,h,λc q H1 y F I=>?_,lx⟩;cases c with
 |true=>grind
 |false=>rw[if_neg Pd]at I ⊢;exact⟨j,q,Q,E,f.ts (F.ts J),y,I,λb O H2 z R h2=>Y b O H2 z (F.trans R) h2,lx.fr F⟩
def XR  (O:PT X c (lT X Z))(R:PE X a (lE X ta))(Y:PE X b (lE X tb)):PE X (.IfExp c a b pos) (lE X λj G Q E=>Z j G (λt z=>if t=ua then ta j z Q E else tb j z Q E) E):=by
 refine(rY O R Y).imp λσ H Q0 h=>?_;obtain⟨j,G,Q,E,f,I,h,J,lx⟩:=h;refine⟨j,G,_,E,f,I,h,λc z H1 y q F=>?_,lx⟩;cases c with
 |true=>rw[if_pos rfl]at F ⊢;exact⟨j,z,Q,E,f.ts (q.ts I),y,F,J.fr q,lx.fr q⟩
 |false=>rw[if_neg Pd]at F ⊢;exact⟨j,z,Q,E,f.ts (q.ts I),y,F,J.fr q,lx.fr q⟩
end Z

namespace L2
open PySem PySem.Spec PyProof.Rows

def OR  (K:Sb)(z j:TE):TE:=λq H Q=>z q H λx H1=>j q H1 λy H2=>(∃a f,x=.ref a/\re K H2 a f/\
 ((y=.int 1/\∀p,H2 p=Aa->Q (.ref p) (upd H2 p (.lst f)))\/(y=.int (-1)/\∀p,H2 p=Aa->Q (.ref p) (upd H2 p (.lst f.reverse)))))\/
 ∃a f,x=.ref a/\Qd K H2 a f/\y=.int (-1)/\∀p,H2 p=Aa->Q (.ref p) (upd H2 p (.tup f.reverse))
def TW  {st: Na}(he:PE X e te)(hs:PE X st Z):PE X (.Subscript e (.Slice Aa Aa (ma st) p2) pos) (OR X.K te Z):=by
 intro f s J H Q I h;refine Yp (Wb (he f s J H _ I h) λv s1 ⟨x,H1,I1,r1,q1⟩=>?_);refine wpAny_Slice ?_;rw[VB,evalPart_some];refine Kb (Kb ?_);refine Wb (hs f s1 J H1 _ I1 q1) λu j ⟨y,H3,I3,r3,q3⟩=>?_;have z:Qa X f J H3 { j with heap:=j.heap.push { cls:=.type "slice",data:=.fields #[.none,.none,u] } }:=I3.kept (t':=j.toks) λb Y q=>Dc _ q
 rcases q3 with⟨a,R,rfl,hx,q3⟩|⟨a,R,rfl,hx,rfl,q⟩
 ·cases r1;obtain⟨xa,r,F,hz⟩:=z.list hx;have O:=r.length;show wpAny (Ia X.prog X.w) X.A (xw e (.Slice Aa Aa (ma st) p2) (.ref a) (.ref j.heap.objs.size)) (EP X f J Q) X.xe { j with heap:=j.heap.push { cls:=.type "slice",data:=.fields #[.none,.none,u] } }
  refine Kl (ops:=[.ref a,.ref j.heap.objs.size]) F.isList.typeIs sg.lookup ?_ (by with_unfolding_all rfl)
  rcases q3 with⟨rfl,q⟩|⟨rfl,q⟩
  ·obtain⟨t,rfl⟩:=r3;refine TC F.isList (Le.new ..) .none .none (.int 1 t) (by decide) ?_ (by simp_all)
   rw[qX];refine⟨.ref _,_,z.laid (t':=j.toks) (o:=.lst R) (λb Y q=>Dc _ q) (Mb _) ?_,rfl,q _ (z.hok.fresh (Mb _))⟩;exact⟨hz,_,0,r,Wd _ rfl⟩
  ·obtain⟨t,rfl⟩:=r3;refine TC F.isList (Le.new ..) .none .none (.int (-1) t) (by decide) ?_ (by simp_all)
   rw[YX];refine⟨.ref _,_,z.laid (t':=j.toks) (o:=.lst R.reverse) (λb Y q=>Dc _ q) (Mb _) ?_,rfl,q _ (z.hok.fresh (Mb _))⟩;exact⟨by simp_all,_,0,r.rev,Wd _ rfl⟩
 ·cases r1;obtain⟨t,rfl⟩:=r3;obtain⟨xa,r,F,hz⟩:=z.tuple hx;have O:=r.length;show wpAny (Ia X.prog X.w) X.A (xw e (.Slice Aa Aa (ma st) p2) (.ref a) (.ref j.heap.objs.size)) (EP X f J Q) X.xe { j with heap:=j.heap.push { cls:=.type "slice",data:=.fields #[.none,.none,.int (-1) t] } }
  refine Kl (ops:=[.ref a,.ref j.heap.objs.size]) F.typeIs Yj.lookup ?_ (by with_unfolding_all rfl)
  refine HT.getItem_tuple_rev F (Le.new ..) ?_ (by lia)
  refine⟨.ref _,_,z.laid (t':=j.toks) (o:=.tup R.reverse) (λb Y q=>Dc _ q) (Mb _) ?_,rfl,q _ (z.hok.fresh (Mb _))⟩;exact⟨by simp_all,_,r.rev,TupD.new _ _⟩
end L2
namespace Z
open PySem L2
section
variable {X:Cx}{pos:Pos}{a b e:Na}{es:List Na}{ta tb te:UE}{ts:UA}
def Jm  : PA X [] (lA X λ_ G Q _=>Q [] G):=by
 refine FU.imp λy H z h=>?_;obtain⟨F,G,Q,E,f,q,h,j,lx⟩:=h;exact j [] [] G H rfl q (Fr.refl _ _) h
def Pm  (ha:PE X e (lE X te))(hr:PA X es (lA X ts))(hs:Kd (e::es) X.env=(Ca,Lb e X.env)::Kd es X.env):PA X (e::es) (lA X λj G Q E=>te j G (λx F=>ts j F (λxs I=>Q (x::xs) I) E) E):=by
 refine(mV ha hr hs).imp λσ H Q0 h=>?_;obtain⟨j,G,Q,E,f,R,h,Z,lx⟩:=h;refine⟨j,G,_,E,f,R,h,λx v F H1 rx q y h1=>?_,lx⟩;refine⟨j,F,_,E,f.ts (y.ts R),q,h1,λxs Y I H2 J z O h2=>?_,lx.fr y⟩;exact Z (x::xs) (v::Y) I H2 ⟨v,Y,rfl,rx.ts (O.ts q),J⟩ z (y.trans O) h2
def jR   (h:PA X es (lA X ts)):PE X (.Tuple es k pos) (lE X λF G Q E=>ts F G (λus f=>us.length<=Fb/\Q (.tup us) f) E):=
 (MU h).imp λI H J h=>lE.many h λus O G R Q r z q j=>⟨by rw[<- r.length];exact q.1,λp y=>j.tup y r z q.2⟩
def ZR  (h:PA X es (lA X ts)):PE X (.List es pos) (lE X λF G Q E=>ts F G (λus f=>us.length<=Fb/\newO f (.lst us) Q) E):=
 (IU h).imp λI H J h=>lE.many h λus O G R Q r z q j=>⟨by rw[<- r.length];exact q.1,λp y=>j.lst y r z q.2⟩
def rDix  : R2:=λx y H Q=>∃a v,x=.ref a/\DGet H a y (ma v)/\Q v H
def FV  (hu:X.A.units+1<Ec):yj X rDix:=by
 intro f z F s σ H x y v u Q I J Y h O;obtain⟨a,w,rfl,g,q⟩:=h;cases J;exact PyProof.Rows.tail_any (A0 I g) PySem.F.slot_dict_getitem.lookup (GX hu I g Y λZ s3 R j=>⟨w,H,R,j,q⟩) O
def jF {H:Hp}{G:Gp}{y:U}{f:V}{Q:K1}{j:VK}{a:Ea}{xs:List U}{vs:List V}(h:match y with|.int i=>(match atI xs i with|some u=>Q u G|none=>False)|_=>False)
  (J:RU X.K H y f) (I:HR X.K H G) (F:LV X H G Q j) (q:re X.K H a vs) (rs:Vb X.K H xs vs):Ox X.K (.ref a) f H j:=by
 cases y with
 |int i=>
  cases J;dsimp only at h;split at h
  ·rename_i u e;obtain⟨w,z,r⟩:=rs.atI e;exact .inl ⟨_,vs,_,w,rfl,rfl,q,z,F.here r I h⟩
  lia
 |_=>lia
def bT        (R:RU X.K H x v)(F:RU X.K H y Z)(f:HR X.K H G)(h:qf x y G Q)(z:LV X H G Q Q0):Ox X.K v Z H Q0\/rDix v Z H Q0:=by
 cases x<;>try exact h.elim
 ·cases y<;>try exact h.elim
  cases R;cases F;obtain⟨h1,h⟩:=h;split at h
  ·rename_i c Y;exact .inl (.inr (.inr ⟨_,_,c,rfl,rfl,h1,Y,z.str f h⟩))
  lia
 ·cases y<;>try exact h.elim
  obtain⟨a,O,rfl,e,j⟩:=R;cases F;unfold qf at h;dsimp only at h;split at h
  ·rename_i u Y;obtain⟨w,q,r⟩:=j.atI Y;exact .inl (.inr (.inl ⟨a,O,_,w,rfl,rfl,.of e,q,z.here r f h⟩))
  lia
 ·cases R;unfold qf at h;dsimp only at h;split at h
  ·rename_i g;obtain⟨O,e,j⟩:=f.lst g;exact .inl (jF h F f z (.of e) j)
  ·rename_i g;obtain⟨ob,O,e,j⟩:=f _ _ g;exact .inl (jF h F f z (.inl (.inr ⟨ob,e⟩)) j)
  ·rename_i I g;obtain⟨l,e,j⟩:=f _ _ g;split at h
   ·rename_i k J;have:=Dk F J;subst this;split at h
    ·rename_i u eu;have:=Ko k j;rw[eu]at this;obtain⟨w,q,r⟩:=this;exact .inr ⟨_,w,rfl,by rw[<- q];exact DGet.k e,z.here r f h⟩
    lia
   lia
  ·rename_i I g;obtain⟨l,e,j⟩:=f _ _ g;split at h
   ·rename_i ys;obtain⟨b,bs,rfl,eb,rb⟩:=F;split at h
    ·rename_i k J;have:=Ru rb J;subst this;split at h
     ·rename_i u eu;have:=Ko k j;rw[eu]at this;obtain⟨w,q,r⟩:=this;exact .inr ⟨_,w,rfl,by rw[<- q];exact DGet.t e eb,z.here r f h⟩
     lia
    lia
   lia
  ·rename_i o I g;obtain⟨l,e,j⟩:=f _ _ g;split at h
   ·rename_i k J;have:=Dk F J;subst this;split at h
    ·rename_i u eu;have:=Ko k j;rw[eu]at this;obtain⟨w,q,r⟩:=this;exact .inr ⟨_,w,rfl,by rw[<- q];exact .inl ⟨l,k,.inr ⟨o,e⟩,rfl,rfl⟩,z.here r f h⟩
    lia
   lia
  lia
def u_ix  (hu:X.A.units+1<Ec)(J:PE X a (lE X ta))(R:PE X b (lE X tb))(hs:fA b):PE X (.Subscript a b pos) (lE X λf G Q E=>ta f G (λx F=>tb f F (λy z=>qf x y z Q) E) E):=
 (hQ ((cT (X:=X)).or (FV hu)) J R hs).imp λσ H Q0 h=>lE.two h λx y v Z G H' Q j Y O q I=>bT j Y O q I
def u_no  : PO X Aa (lO X λ_ G Q _=>Q Aa G):=pW.imp λy H z h=>by
 obtain⟨F,G,Q,E,f,q,h,j,lx⟩:=h;exact j Aa G H q (Fr.refl _ _) h
def u_so (I:PE X e (lE X te)):PO X (ma e) (lO X λj G Q E=>te j G (λx y=>match x with|.int i=>Q (ma i) y|_=>False) E):=(qW I).imp λR H O h=>by
 obtain⟨j,G,Q,E,f,J,h,Y,lx⟩:=h;refine⟨j,G,_,E,f,J,h,λx v y H1 z F Z q=>?_,lx⟩;dsimp only at q;split at q
 ·cases z
  grind
 lia
def u_sl     (ha:PE X e (lE X te))(hl:PO X lo (lO X tl))(hh:PO X hi (lO X th)) :
  PE X (.Subscript e (.Slice lo hi Aa p2) pos) (lE X λI G Q E=>te I G (λx G1=>tl I G1 (λl G2=>th I G2 (λh G3=>pk x l h G3 Q) E) E) E):=by
 refine(IX (gi.or (GW (X:=X)) (gi.or FW FT)) ha hl hh).imp λσ H Q0 h=>?_;obtain⟨I,G,Q,E,F,hG,h,lv,lx⟩:=h;refine⟨I,G,_,E,F,hG,h,λx v G1 H1 rx J R h1=>?_,lx⟩;refine⟨I,G1,_,E,F.ts (R.ts hG),J,h1,λl G2 H2 Y f2 h2=>?_,lx.fr R⟩;refine⟨I,G2,_,E,(F.ts (R.ts hG)).ts (f2.ts J),Y,h2,λu G3 H3 f f3 q=>?_,lx.fr (R.trans f2)⟩;have y:=lv.fr ((R.trans f2).trans f3);have O:=rx.ts ((f2.ts J).trans (f3.ts Y));cases x<;>try exact q.elim
 ·cases O;exact .inr (.inr ⟨_,rfl,q.1,y.str f q.2⟩)
 ·obtain⟨a,j,rfl,ea,Z⟩:=O;by_cases z:HT.sIx j.length 0 l=0/\HT.sIx j.length j.length u=j.length
  ·refine .inl (.inr ⟨a,j,rfl,.of ea,z,?_⟩);refine y.here (w:=.tup _) ⟨a,j,rfl,ea,?_⟩ f q;have e2:cutV j l u=j:=by unfold cutV;simp_all
   have:=Z.cut l u
   lia
  ·exact .inl (.inl ⟨a,j,rfl,.of ea,z,λp hp=>y.tup hp (Z.cut l u) f q⟩)
 ·cases O;unfold pk at q;dsimp only at q;split at q
  ·rename_i us eu;obtain⟨j,sq,Z⟩:=f.ls eu;exact .inr (.inl ⟨_,j,rfl,sq,λp hp=>y.lst hp (Z.cut l u) f q⟩)
  lia
def eR    (Z:PE X a (lE X ta))(hb:PE X st (lE X tb)):PE X (.Subscript a (.Slice Aa Aa (ma st) p2) pos) (lE X λO G Q E=>ta O G (λx G1=>tb O G1 (λy G2=>revU x y G2 Q) E) E):=by
 refine(TW Z hb).imp λσ H Q0 h=>lE.two h λx y v v' G H' Q R J z q I=>?_;cases x<;>try exact q.elim
 all_goals cases y<;>try exact q.elim
 ·obtain⟨a,F,rfl,ea,j⟩:=R;cases J;obtain⟨rfl,q⟩:=q;exact .inr ⟨a,F,rfl,.of ea,rfl,λp f=>I.tup f j.reverse z q⟩
 ·cases R;cases J;unfold revU at q;dsimp only at q;split at q
  ·rename_i us eu;obtain⟨F,Y,j⟩:=z.ls eu;obtain⟨hi,q⟩:=q;rcases hi with rfl|rfl
   ·exact .inl ⟨_,F,rfl,Y,.inl ⟨rfl,λp f=>I.lst f j z q⟩⟩
   ·exact .inl ⟨_,F,rfl,Y,.inr ⟨rfl,λp f=>I.lst f j.reverse z q⟩⟩
  lia
end
end Z

namespace L2
open PySem PySem.Spec PyProof.Rows

end L2
namespace Z
open PySem L2
noncomputable def bltN  : Blt->Str
 |.len => "len" |.repr => "repr" |.min => "min" |.max => "max" |.sum => "sum" |.all => "all" |.any => "any" |.sorted => "sorted" |.int => "int" |.str => "str" |.isi => "isinstance"
noncomputable def bltV  : Blt->Da
 |.len=>.builtin "len" |.repr=>.builtin "repr" |.min=>.builtin "min" |.max=>.builtin "max" |.sum=>.builtin "sum" |.all=>.builtin "all" |.any=>.builtin "any" |.sorted=>.builtin "sorted" |.int=>.type "int" |.str=>.type "str" |.isi=>.builtin "isinstance"
theorem Oq    : ∀ns:List Int,Vb K H (ns.map .int) (ns.map V.int)
 |[]=>rfl
 |_::r=>⟨_,_,rfl,rfl,Oq r⟩
theorem Pz     : ∀{kvs:List (κ×U)} {l },fe K H kvs l->kvs.map (·.1)=l.map (·.1)
 |[],_,h=>by cases h;rfl
 |(k,u)::r,_,h=>by
  obtain⟨v,j,rfl,_,f⟩:=h;rw[Se,Se,Pz f]

def Vb.one      (r:Vb K H [u] vs):∃v,vs=[v]/\RU K H u v:=by
 obtain⟨v,j,rfl,r1,f⟩:=r;cases f
 lia
def Vb.two      (r:Vb K H [u,w] vs):∃v f,vs=[v,f]/\RU K H u v/\RU K H w f:=by
 obtain⟨v,q,rfl,r1,j⟩:=r;obtain⟨f,rfl,r2⟩:=j.one
 lia
def NV   K:∀t∈["NoneType", "bool", "int", "str", "list", "tuple", "dict"],∀c∈["bool", "int", "str", "list", "tuple", "dict"],Rw K (.type t) (.type c)=ma (t==c||(t == "bool" && c == "int")):=by
 simp only[List.forall_mem_cons,Rg,false_implies,implies_true,and_true];refine⟨?_,?_,?_,?_,?_,?_,?_⟩<;>refine⟨?_,?_,?_,?_,?_,?_⟩<;>rfl
def dW     (h:bq x G=ma n):n∈["NoneType", "bool", "int", "str", "list", "tuple", "dict"]:=by
 unfold bq at h;split at h<;>first|(cases h;decide)|(split at h<;>first|(cases h;decide)|cases h)|cases h
def CV  {X: Cx}(r:RU X.K H x v)(f:HR X.K H G)(h:isiU x G t=ma b):∃q,TyOf X.K H v q/\Rw X.K q (.type t)=ma b:=by
 unfold isiU at h;split at h
 ·rename_i n en;split at h
  ·rename_i y;cases h;refine⟨.type n,?_,NV X.K n (dW en) t y⟩;unfold bq at en;split at en
   ·cases en;cases r;exact .non
   ·cases en;cases r;exact .bl _
   ·cases en;cases r;exact .int _
   ·cases en;cases r;exact .str _
   ·cases en;obtain⟨a,j,rfl,e,_⟩:=r;exact .tup e
   ·cases r;split at en
    ·rename_i g;cases en;obtain⟨j,e,_⟩:=f.lst g;exact .lst e
    ·rename_i g;cases en;obtain⟨j,e,_⟩:=f _ _ g;exact .dK e
    ·rename_i g;cases en;obtain⟨j,e,_⟩:=f _ _ g;exact .dT e
    lia
   lia
  lia
 lia
def gN  (X:Cx)(b:Blt):Prop:=∃r,Vf X (bltV b) r/\∀f j G H Q q,Vb X.K H f j->HR X.K H G->bltU b f G Q->LV X H G Q q->r j H q
def uR   (hr:Room k X.A)(hc:X.calm=ua) b:gN X b:=by
 cases b with
 |len=>
  refine⟨_,Vf.or (ZW (X:=X)) BX,λz vs G H Q Q0 r f h F=>?_⟩
  change lenU z G Q at h
  obtain _|⟨x,t⟩:=z<;>try exact h.elim
  cases x<;>try exact h.elim
  all_goals obtain _|⟨_,_⟩:=t<;>try exact h.elim
  all_goals obtain⟨v,rfl,r1⟩:=r.one
  ·cases r1;exact .inl ⟨_,_,rfl,⟨h.1,rfl⟩,F.int f h.2⟩
  ·obtain⟨a,Y,rfl,e,I⟩:=r1;exact .inl ⟨_,_,rfl,.inr ⟨Y,.of e,rfl⟩,by rw[<- I.length];exact F.int f h⟩
  ·cases r1;unfold lenU at h;dsimp only at h;split at h
   ·rename_i g;obtain⟨Y,e,I⟩:=f.lst g;exact .inl ⟨_,_,rfl,.inl ⟨Y,.of e,rfl⟩,by rw[<- I.length];exact F.int f h⟩
   ·rename_i g;obtain⟨ob,Y,e,I⟩:=f _ _ g;exact .inl ⟨_,_,rfl,.inl ⟨Y,.inl (.inr ⟨ob,e⟩),rfl⟩,by rw[<- I.length];exact F.int f h⟩
   ·rename_i J g;obtain⟨l,e,I⟩:=f _ _ g;refine .inr ⟨_,l,rfl,e,?_⟩;have:∀{J:List (uc×U)} {l:List (uc×V)},fe X.K H J l->J.length=l.length:=by
     intro J
     induction J with
     |nil=>intro l r;cases r;rfl
     |cons p q ih=>intro l r;obtain⟨v,l',rfl,_,I⟩:=r;simp[ih I]
    rw[<- this I];exact F.int f h
   ·exact h.elim
 |repr=>
  refine⟨_,CZ hr,λz vs G H Q Q0 r f h F=>?_⟩
  change zk z G Q at h
  obtain _|⟨x,_|⟨_,_⟩⟩:=z<;>try exact h.elim
  obtain⟨v,rfl,r1⟩:=r.one;obtain⟨d,h1,h2,h3⟩:=h;exact⟨v,d,rfl,h1.dv f r1,h2,F.str f h3⟩
 |min=>
  refine⟨_,DX hc,λz vs G H Q Q0 r f h F=>?_⟩
  change minU z G Q at h
  obtain _|⟨x,t⟩:=z<;>try exact h.elim
  cases x<;>try exact h.elim
  obtain _|⟨y,t⟩:=t<;>try exact h.elim
  cases y<;>try exact h.elim
  obtain _|⟨_,_⟩:=t<;>try exact h.elim
  obtain⟨v,v',rfl,r1,r2⟩:=r.two;cases r1;cases r2;exact⟨_,_,rfl,F.int f h⟩
 |max=>exact⟨λ_ _ _=>False,λ_ _ _ _ _ _ _ _ _ h=>h.elim,λ_ _ _ _ _ _ _ _ h _=>h.elim⟩
 |sum=>
  refine⟨_,aX hc,λz vs G H Q Q0 r f h F=>?_⟩
  change sumU z G Q at h
  obtain _|⟨x,t⟩:=z<;>try exact h.elim
  cases x<;>try exact h.elim
  all_goals obtain _|⟨_,_⟩:=t<;>try exact h.elim
  obtain⟨v,rfl,r1⟩:=r.one;cases r1;unfold sumU at h;dsimp only at h;split at h
  ·rename_i g;obtain⟨Y,e,I⟩:=f.lst g;split at h
   ·rename_i ns en;have:=I.ints en;subst this;exact⟨_,ns,rfl,.of e,F.int f h⟩
   ·exact h.elim
  ·exact h.elim
 |any=>exact⟨λ_ _ _=>False,λ_ _ _ _ _ _ _ _ _ h=>h.elim,λ_ _ _ _ _ _ _ _ h _=>h.elim⟩
 |all=>exact⟨λ_ _ _=>False,λ_ _ _ _ _ _ _ _ _ h=>h.elim,λ_ _ _ _ _ _ _ _ h _=>h.elim⟩
 |sorted=>
  refine⟨_,(XZ hc (by have:=hr.un;lia)).or (Y0 hc),λz vs G H Q Q0 r f h F=>?_⟩
  change Lj z G Q at h
  unfold Lj at h;split at h<;>first|exact h.elim|skip
  obtain⟨v,rfl,r1⟩:=r.one;cases r1;split at h<;>first|exact h.elim|skip
  ·rename_i z g;obtain⟨Y,e,I⟩:=f.lst g;obtain⟨ks,va,xa,hl,hk,q⟩:=h;refine .inl ⟨_,Y,ks,rfl,.inl (.of e),by rw[<- I.length];exact hl,va,by rw[<- I.length];exact xa,?_,λl π hn hp hs=>?_⟩
   ·rcases hk with⟨ns,rfl,rfl⟩|⟨as,rfl,hk⟩|⟨rfl,hk⟩
    ·refine .inl λi v k e1 R=>?_;rw[md]at R;cases en:ns[i]? with
     |none=>rw[en]at R;cases R
     |some n=>
      rw[en]at R;cases R;obtain⟨v',O,r3⟩:=I.get (i:=i) (u:=.int n) (by rw[md,en];rfl)
      rw[e1]at O;cases O;exact⟨n,r3,rfl⟩
    ·refine .inr (.inl λi v k e1 R=>?_);have Z:i<as.length:=by
      have:=(Ba.mp e1).1;rw[<- I.length,Hb]at this;exact this
     obtain⟨v',O,r3⟩:=I.get (i:=i) (u:=.loc as[i]) (by rw[md,Cc Z];rfl)
     rw[e1]at O;cases O;obtain⟨ja,e4,r4⟩:=f.lst (hk i _ k (Cc Z) R);rw[xA r4]at e4;exact⟨as[i],r3,.inl (.of e4)⟩
    ·refine .inr (.inr λi v k e1 R=>⟨?_,hk k (Vc R)⟩);obtain⟨v',O,r3⟩:=I.get (i:=i) (u:=.tup (k.map .int)) (by rw[md,R];rfl)
     rw[e1]at O;cases O;obtain⟨t,ja,rfl,et,rt⟩:=r3;rw[xA rt]at et;exact⟨t,rfl,.of et⟩
   ·rw[<- I.length]at hp hs;refine F.lst hn ?_ f (q π hp hs);have:∀l:List Nat,(∀i∈l,i<z.length)->Vb X.K H (l.map λi=>z.getD i .non) (l.map λi=>Y.getD i .non):=λl=>by
     induction l with
     |nil=>intro _;rfl
     |cons i l ih=>
      intro za;have Z:=za i (by simp)
      obtain⟨v',O,r3⟩:=I.get (Cc Z);refine⟨_,_,rfl,?_,ih λj hj=>za j (Jd _ hj)⟩;refine(?_:RU X.K H (z.getD i .non) (Y.getD i .non));rw[Yk,Cc Z,Yk,O];exact r3
    exact this π λi Z=>Db.mp (hp.mem_iff.mp Z)
  ·rename_i J g;obtain⟨ns,hk,xa,q⟩:=h;obtain⟨l,e,rk⟩:=f _ _ g;exact .inr ⟨_,l,ns,rfl,e,by rw[<- Pz rk];exact hk,xa,λp ms hp pm pw=>F.lst hp (Oq _) f (q ms pm pw)⟩
 |int=>
  refine⟨_,AX.or X0,λz vs G H Q Q0 r f h F=>?_⟩
  change intU z G Q at h
  obtain _|⟨x,t⟩:=z<;>try exact h.elim
  cases x<;>try exact h.elim
  all_goals obtain _|⟨_,_⟩:=t<;>try exact h.elim
  all_goals obtain⟨v,rfl,r1⟩:=r.one
  all_goals cases r1
  ·exact .inl (.inr ⟨_,rfl,F.int f h⟩)
  ·exact .inl (.inl ⟨_,rfl,F.int f h⟩)
  ·obtain⟨n,h1,h2,h⟩:=h;exact .inr ⟨_,n,rfl,h1,h2,F.int f h⟩
 |str=>exact⟨λ_ _ _=>False,λ_ _ _ _ _ _ _ _ _ h=>h.elim,λ_ _ _ _ _ _ _ _ h _=>h.elim⟩
 |isi=>
  refine⟨_,l0,λz vs G H Q Q0 r f h F=>?_⟩
  change yo z G Q at h
  obtain _|⟨x,_|⟨y,t⟩⟩:=z<;>try exact h.elim
  cases y<;>try exact h.elim
  obtain _|⟨_,_⟩:=t<;>try exact h.elim
  rename_i t;obtain⟨v,v',rfl,r1,r2⟩:=r.two;cases r2;unfold yo at h;dsimp only at h;split at h
  ·rename_i b eb;obtain⟨tv,h1,h2⟩:=CV r1 f eb;exact⟨v,t,tv,b,rfl,h1,h2,F.bl f h⟩
  ·exact h.elim
def uX   b:Rj (bltN b)=ma (bltV b):=by
 cases b with
 |len=>exact PySem.boot_len
 |repr=>exact(by with_unfolding_all rfl)
 |min=>exact PyProof.Rows.boot_min
 |max=>exact PyProof.Rows.boot_max
 |sum=>exact PyProof.Rows.boot_sum
 |any=>exact PyProof.Rows.boot_any
 |all=>exact PyProof.Rows.boot_all
 |sorted=>exact PyProof.Rows.boot_sorted
 |int=>exact PyProof.Rows.boot_int
 |str=>exact PyProof.Rows.boot_str
 |isi=>exact PyProof.Rows.boot_isinstance
def sR   b:bltN b ≠ "__name__" /\ (bltN b==("__debug__" : Str))=Ca:=by cases b<;>decide
def UR       (hb:gN X b)(Y:Gl X (bltN b))(R:X.mg (bltN b)=Aa)(J:PA X (e::es) (lA X ts))
  (Z:Kd (e::es) X.env=(Ca,Lb e X.env)::Kd es X.env) (f:(Xc pos (Kd es X.env)).any (·.1)=Ca) :
  PE X (.Call (.Name (bltN b) p) (e::es) [] pos) (lE X λz G Q E=>ts z G (λus F=>bltU b us F Q) E):=by
 obtain⟨r,h1,h2⟩:=hb;have j:∀I H y,lE X (λz G Q E=>ts z G (λus F=>bltU b us F Q) E) I H y->Mx r (lA X ts) I H y:=λI H y h=>lE.many h λus vs G H' Q rs hG q lv=>h2 us vs G H' Q y rs hG q lv;have O:=uX b;obtain⟨n1,n2⟩:=sR b;cases b
 all_goals first
  |exact(oY h1 Y R O J n1 n2 Z f).imp j
  |exact(Ev h1 Y R O J n1 n2 Z f).imp j
noncomputable def mthN  : Mth->Str
 |.append => "append" |.extend => "extend" |.insert => "insert" |.pop => "pop" |.reverse => "reverse" |.index => "index" |.join => "join" |.get => "get" |.split => "split" |.setd => "setdefault"
section
variable {X:Cx}
def Vb.mk        (r:RU K H u v)(rs:Vb K H us vs):Vb K H (u::us) (v::vs):=⟨v,vs,rfl,r,rs⟩
structure P2 (X:Cx)(m:Mth)(T id:String):Prop where
 pa:PlainAttrs T
 sl:Slot T (mthN m) id
 ty:typeOf (.builtin id)=pure (.type "method_descriptor")
def Rn  (X:Cx)(m:Mth):Prop:=∀x y T f,xg m x y=ma (T,f)->P2 X m T f/\(∀v H1,RU X.K H1 x v->HR X.K H1 y->Jx X.K T v H1)/\
 ∃r,Sn X f r/\∀j v z G H Q q,RU X.K H x v->Vb X.K H j z->HR X.K H G->Of m x j G Q->LV X H G Q q->r v z H q
def Lz     (g:G a=ma (.lst us)):∀v H1,RU X.K H1 (.loc a) v->HR X.K H1 G->Jx X.K "list" v H1:=λv H1 r j=>by
 cases r;obtain⟨f,e,_⟩:=j.lst g;exact .inl ⟨rfl,f,.of e⟩
def UY  : Rn X .append:=by
 intro x R T Y h;dsimp only[xg]at h;cases x<;>try (cases h;done)
 dsimp only at h;split at h
 ·rename_i g;cases h;refine⟨⟨YC,PySem.F.slot_list_append,PySem.F.type_list_append⟩,Lz g,_,LH,λus v vs G H Q O q z f h I=>?_⟩;cases q;dsimp only[Of]at h;obtain _|⟨_,_|⟨_,_⟩⟩:=us<;>try exact h.elim
  unfold gA at h;dsimp only at h;split at h
  ·rename_i j;obtain⟨F,e,r⟩:=f.lst j;obtain⟨y,rfl,J⟩:=z.one;refine⟨_,F,y,rfl,rfl,e,by rw[<- r.length];exact h.1,?_⟩
   exact I.wl j (r.append (Vb.mk (us:=[]) (vs:=[]) J rfl)) f (w:=.non) rfl h.2
  ·exact h.elim
 ·cases h
def VY  : Rn X .extend:=by
 intro x G1 T id h;dsimp only[xg]at h;cases x<;>try (cases h;done)
 dsimp only at h;split at h
 ·rename_i g;cases h;refine⟨⟨YC,PySem.F.slot_list_extend,PySem.F.type_list_extend⟩,Lz g,_,TY,λO v vs G H Q Q0 F J f h Y=>?_⟩;cases F;dsimp only[Of]at h;obtain _|⟨y0,t⟩:=O<;>try exact h.elim
  cases y0<;>try exact h.elim
  obtain _|⟨_,_⟩:=t<;>try exact h.elim
  unfold Zz at h;dsimp only at h;split at h
  ·rename_i q g3;obtain⟨R,e,r⟩:=f.lst q;obtain⟨I,z,j⟩:=f.lst g3;obtain⟨y,rfl,Z⟩:=J.one;cases Z;refine⟨_,_,R,I,rfl,rfl,e,z,by rw[<- r.length,<- j.length];exact h.1,?_⟩
   exact Y.wl q (r.append j) f (w:=.non) rfl h.2
  ·exact h.elim
 ·cases h
def vS  : Rn X .pop:=by
 intro x G1 T id h;dsimp only[xg]at h;cases x<;>try (cases h;done)
 dsimp only at h;split at h
 ·rename_i g;cases h;refine⟨⟨YC,PySem.F.slot_list_pop,PySem.F.type_list_pop⟩,Lz g,_,Sn.or (mt_pop (X:=X)) oX,λR v vs G H Q Q0 O I z h J=>?_⟩;cases O;dsimp only[Of]at h;obtain _|⟨y0,t⟩:=R
  ·unfold popU at h;dsimp only at h;split at h
   ·rename_i j;obtain⟨F,e,r⟩:=z.lst j;cases I;split at h
    ·rename_i u eu;obtain⟨y,q,f⟩:=r.get eu;rw[r.length]at q;exact .inl ⟨_,F,y,rfl,rfl,e,q,J.wl j r.dropLast z f h⟩
    ·exact h.elim
   ·exact h.elim
  ·cases y0<;>try exact h.elim
   obtain _|⟨_,_⟩:=t<;>try exact h.elim
   unfold popU at h;dsimp only at h;split at h
   ·rename_i j;obtain⟨F,e,r⟩:=z.lst j;obtain⟨y,rfl,f⟩:=I.one;cases f;obtain⟨Y,h2,h⟩:=h;split at h
    ·rename_i k Z;split at h
     ·rename_i u eu;obtain⟨y,q,f⟩:=r.get eu;exact .inr ⟨_,F,_,k,y,rfl,rfl,e,Y,h2,by rw[<- r.length];exact Z,q,J.wl j (r.erase k) z f h⟩
     ·exact h.elim
    ·exact h.elim
   ·exact h.elim
 ·cases h
def fe.put   [DecidableEq κ](r:RU K H u v):∀{kvs } {l:List (κ×V)},fe K H kvs l->fe K H (dPut kvs k u) (putK l k v):=by
 intro kvs l h;have any:∀{kvs:List (κ×U)} {l:List (κ×V)},fe K H kvs l->(kvs.any λf=>decide (f.1=k))=l.any λf=>decide (f.1=k):=by
  intro kvs
  induction kvs with
  |nil=>intro l h;cases h;rfl
  |cons p q y=>intro l h;obtain⟨w,F,rfl,_,z⟩:=h;grind
 have repl:∀{kvs:List (κ×U)} {l:List (κ×V)},fe K H kvs l->fe K H (kvs.map λf=>if f.1=k then (f.1,u) else f) (l.map λf=>if f.1=k then (f.1,v) else f):=by
  intro kvs
  induction kvs with
  |nil=>intro l h;cases h;rfl
  |cons p q y=>
   intro l h;obtain⟨I,J⟩:=p;obtain⟨w,F,rfl,j,z⟩:=h;simp only[Se];by_cases e:I=k
   ·rw[if_pos e,if_pos e];exact⟨v,_,rfl,r,y z⟩
   ·rw[if_neg e,if_neg e];exact⟨w,_,rfl,j,y z⟩
 have snoc:∀{kvs:List (κ×U)} {l:List (κ×V)},fe K H kvs l->fe K H (kvs++[(k,u)]) (l++[(k,v)]):=by
  intro kvs
  induction kvs with
  |nil=>intro l h;cases h;exact⟨v,[],rfl,r,rfl⟩
  |cons p q y=>intro l h;obtain⟨I,J⟩:=p;obtain⟨w,F,rfl,j,z⟩:=h;exact⟨w,_,rfl,j,y z⟩
 unfold dPut putK
 grind
theorem fe.length     : ∀{kvs:List (κ×U)} {l },fe K H kvs l->kvs.length=l.length
 |[],_,h=>by cases h;rfl
 |(_,_)::_,_,h=>by obtain⟨v,j,rfl,_,f⟩:=h;simp[f.length]
theorem cA    : ∀{k:List uc} {bs },Vb K H (k.map Ku) bs->bs=k.map kV
 |[],_,h=>h
 |.inl z::k,_,h=>by
  obtain⟨v,j,rfl,r,f⟩:=h;rw[show v=.int z from r,cA f];rfl
 |.inr x::k,_,h=>by
  obtain⟨v,j,rfl,r,f⟩:=h;rw[show v=.str x from r,cA f];rfl
def rGet  : V->List V->Hp->VK->Prop:=λx f H Q=>∃a y d o,x=.ref a/\f=[y,d]/\DGet H a y o/\Q (o.getD d) H
def qF  (hu:X.A.units+1<Ec):Sn X "dict.get" rGet:=by
 intro f s σ H x vs O Z Q I j R h;obtain⟨a,y,d,o,rfl,rfl,g,q⟩:=h;cases(show O=gh a from j);obtain⟨u,r,rfl,J,rr⟩:=Vals.two R;exact vR hu I g J rr λY s' F z=>⟨_,_,F,z,q⟩
def IF   [DecidableEq κ](k:κ)(y:fe K H kvs l)(rd:RU K H d w):RU K H ((dGet kvs k).getD d) ((valV l k).getD w):=by
 have f:=Ko k y;cases e:dGet kvs k with
 |none=>rw[e]at f;rw[show valV l k=Aa from f];exact rd
 |some u=>rw[e]at f;obtain⟨v,j,q⟩:=f;rw[j];exact q
def uS  (hu:X.A.units+1<Ec):Rn X .get:=by
 intro x G1 T id h;dsimp only[xg]at h;split at h<;>first|contradiction|skip
 have R:∀(j:List U) (v:V) (z:List V) (G:Gp) (H:Hp) (Q:K1) (q:VK) (a:Ea),RU X.K H (.loc a) v->Vb X.K H j z->HR X.K H G->getU (.loc a) j G Q->LV X H G Q q->rGet v z H q:=λj v z G H Q q a I J f h F=>by
  cases I;obtain _|⟨y,_|⟨w,_|⟨_,_⟩⟩⟩:=j<;>try exact h.elim
  unfold getU at h;dsimp only at h;obtain⟨y',xa,rfl,ry,Y⟩:=J;obtain⟨w',rfl,O⟩:=Y.one;split at h<;>first|exact h.elim|skip
  ·rename_i Z g2;split at h<;>first|exact h.elim|skip
   rename_i k ek;obtain⟨l,e,rk⟩:=f _ _ g2;have:=Dk ry ek;subst this;exact⟨_,_,_,_,rfl,rfl,.k e,F.here (IF k rk O) f h⟩
  ·rename_i Z g2;obtain⟨k,rfl,h⟩:=h;obtain⟨l,e,rk⟩:=f _ _ g2;obtain⟨b,bs,rfl,eb,rb⟩:=ry;rw[cA rb]at eb;exact⟨_,_,_,_,rfl,rfl,.t e eb,F.here (IF k rk O) f h⟩
 split at h<;>first|contradiction|skip
 ·rename_i g;cases h;refine⟨⟨kx,Yw,vM⟩,λv H1 r f=>?_,_,qF hu,λj v z G H Q q I J f h F=>R j v z G H Q q _ I J f h F⟩;cases r;obtain⟨l,e,_⟩:=f _ _ g;exact .inr (.inr (.inl ⟨rfl,.inl ⟨l,e⟩⟩))
 ·rename_i g;cases h;refine⟨⟨kx,Yw,vM⟩,λv H1 r f=>?_,_,qF hu,λj v z G H Q q I J f h F=>R j v z G H Q q _ I J f h F⟩;cases r;obtain⟨l,e,_⟩:=f _ _ g;exact .inr (.inr (.inl ⟨rfl,.inr ⟨l,e⟩⟩))
def HE  (hu:X.A.units+1<Ec) m:Rn X m:=by
 cases m with
 |append=>exact UY
 |extend=>exact VY
 |insert=>intro x f T j h;cases h
 |pop=>exact vS
 |reverse=>intro x f T j h;cases h
 |index=>intro x f T j h;cases h
 |join=>intro x f T j h;cases h
 |split=>intro x f T j h;cases h
 |setd=>intro x f T j h;cases h
 |get=>exact uS hu
variable {m:Mth}{o e:Na}{es:List Na}{to:UE}{ts:UA}{apos cpos:Pos}
def bU (hm:Rn X m)(ho:PE X o (lE X to))(ha:PA X (e::es) (lA X ts))(J:Uj o (mthN m) X.env (Lb o X.env)=Lb o X.env)
  (Z:((Xc cpos (Kd (e::es) X.env)).all (λx=>!x.1)&&(backToKw cpos (keywordEach [] X.env)).all (λx=>x.1.isSome)
   && decide ((e::es).length+([]:List Ys).length+(if ([]:List Ys).isEmpty then 0 else 1)<30))=ua)
  (z:(apos.endLine==cpos.line)=ua) (hs:Kd (e::es) X.env=(Ca,Lb e X.env)::Kd es X.env) (xa:(Xc cpos (Kd es X.env)).any (·.1)=Ca) :
  PE X (.Call (.Attribute o (mthN m) apos) (e::es) [] cpos) (lE X λO G Q E=>to O G (λx f=>match xg m x f with|some _=>ts O f (λus y=>Of m x us y Q) E|none=>False) E):=by
 intro q s σ H Q0 I h;obtain⟨O,G,Q,E,Y,hG,h,lv,lx⟩:=h;refine PySem.wpAny_Call_method_late J Z z rfl (Wb (ho q s σ H (λv H1=>∃x f T id,RU X.K H1 x v/\HR X.K H1 f/\Fr H G H1 f/\xg m x f=ma (T,id)/\ts O f (λus y=>Of m x us y Q) E) I
  ⟨O,G,_,E,Y,hG,h,λx v f H1 rx j f1 R=>?_,lx⟩) λv s1 ⟨xv,H1,I1,r1,x,f,T,id,rx,j,f1,em,R⟩=>?_)
 ·dsimp only at R;split at R
  ·rename_i p ep;exact⟨x,f,p.1,p.2,rx,j,f1,ep,R⟩
  ·exact R.elim
 ·obtain⟨k,ja,r,va,za⟩:=hm x f T id em;obtain⟨t1,t2⟩:=aF I1 r1 (ja xv H1 rx j);refine⟨T,id,k.pa,k.sl,k.ty,t1,t2,?_⟩;have hA:=ha cpos q s1 σ H1 (λvs H2=>∃us y,Vb X.K H2 us vs/\HR X.K H2 y/\Fr H1 f H2 y/\Of m x us y Q) I1 ⟨O,f,_,E,Y.ts (f1.ts hG),j,R,λus vs y H2 rs F f2 h2=>⟨us,y,rs,F,f2,h2⟩,lx.fr f1⟩;rw[hs]at hA ⊢;refine Zw (by simp_all) (Calls.evalArgs_plain ?_)
  exact Wb hA λus s2 ⟨vs,H2,I2,r2,ws,y,rs,F,f2,h2⟩=>va q s2 σ H2 xv vs v us Q0 I2 r1 r2 (za ws xv vs y H2 Q Q0 (rx.ts (f2.ts j)) rs F h2 (lv.fr (f1.trans f2)))
def gW (hm:Rn X m)(ho:PE X o (lE X to))(z:Uj o (mthN m) X.env (Lb o X.env)=Lb o X.env)(y:(apos.endLine==cpos.line)=ua) :
  PE X (.Call (.Attribute o (mthN m) apos) [] [] cpos) (lE X λY G Q E=>to Y G (λx f=>match xg m x f with|some _=>Of m x [] f Q|none=>False) E):=by
 intro q s σ H Q0 I h;obtain⟨Y,G,Q,E,R,hG,h,lv,lx⟩:=h;refine PySem.wpAny_Call_method0_late z y (Wb (ho q s σ H (λv H1=>∃x f T O,RU X.K H1 x v/\HR X.K H1 f/\Fr H G H1 f/\xg m x f=ma (T,O)/\Of m x [] f Q) I
  ⟨Y,G,_,E,R,hG,h,λx v f H1 J j Z F=>?_,lx⟩) λv s1 ⟨xv,H1,I1,r1,x,f,T,O,J,j,Z,em,F⟩=>?_)
 ·dsimp only at F;split at F
  ·rename_i p ep;exact⟨x,f,p.1,p.2,J,j,Z,ep,F⟩
  ·exact F.elim
 ·obtain⟨k,za,r,ja,xa⟩:=hm x f T O em;obtain⟨t1,t2⟩:=aF I1 r1 (za xv H1 J j);exact⟨T,O,k.pa,k.sl,k.ty,t1,t2,Zw rfl (zC (ja q s1 σ H1 xv [] v [] Q0 I1 r1 .nil (xa [] xv [] f H1 Q Q0 J rfl j F (lv.fr Z))))⟩
end
end Z

namespace L2
open PySem PySem.Spec PyProof.Rows

def iSeq  (K:Sb)(j:TE):TI:=λq H R=>j q H λx H1=>∃a,x=.ref a/\(((∃f,re K H1 a f)/\R (aN K a) H1)\/((∃f,Qd K H1 a f)/\R (ZM K a) H1))
def jU    (F:PE X l tl):PI X tg l (iSeq X.K tl):=by
 intro j s J H R I h;refine Wb (F j s J H _ I h) λv s1 ⟨x,H1,f,r1,q1⟩=>?_;obtain⟨a,e,⟨⟨O,z⟩,q⟩|⟨⟨O,z⟩,q⟩⟩:=q1
 ·subst e;cases r1;obtain⟨y,Z,p,hz⟩:=f.list z;refine WB p.isList ?_;refine⟨s1.heap.objs.size,[s1.heap.objs.size],_,_,H1,rfl,f.kept (t':=s1.toks) λb o e=>Dc _ e,wZ a _,⟨_,Wd _ rfl,rfl,rfl⟩,λb Y=>?_,q⟩;have e:b=s1.heap.objs.size:=by simp_all
  subst e;exact f.fpOk (Mb _) (f.hok.fresh (Mb _))
 ·subst e;cases r1;obtain⟨y,Z,p,hz⟩:=f.tuple z;refine PC (show s1.heap.IsTuple a y.toArray from p) ?_;refine⟨s1.heap.objs.size,[s1.heap.objs.size],_,_,H1,rfl,f.kept (t':=s1.toks) λb o e=>Dc _ e,NZ a _,⟨_,Wd _ rfl,rfl,rfl⟩,λb Y=>?_,q⟩;have e:b=s1.heap.objs.size:=by simp_all
  subst e;exact f.fpOk (Mb _) (f.hok.fresh (Mb _))
def PI.imp    (h:PI X tg iter t)(i:∀j H R,t' j H R->t j H R):PI X tg iter t':=λf s j H R I q=>h f s j H R I (i j H R q)
def PG.imp    (h:PG X f t)(i:∀v y H Q,t' v y H Q->t v y H Q):PG X f t':=λj s y H v u Q I r q=>h j s y H v u Q I r (i v y H Q q)
def Di.imp    (h:Di X ts t)(i:∀v j H Q,t' v j H Q->t v j H Q):Di X ts t':=λf s j H v u Q I r q=>h f s j H v u Q I r (i v j H Q q)
def PIfs.imp    (h:PIfs X ifs t)(i:∀j H Q,t' j H Q->t j H Q):PIfs X ifs t':=λf s j H Q I q=>h f s j H Q I (i j H Q q)
end L2
namespace Z
open PySem L2
abbrev UI:=Sg->Gp->(List U->(Gp->Prop)->Gp->Prop)->KX->Prop
def yk  (K:Sb)(J:L2.It)(H:Hp)(G:Gp)(xs:List U)(ok:Gp->Prop):Prop:=∀i j q,TS H j->HR K j q->ok q->
 (∀u,xs[i]?=ma u->J.go i j/\∀v f,J.yld i j v f->RU K f u v/\HR K f q/\Fr j q f q)/\(i=xs.length->J.stop i j)
def yk.mono    {H H2:Hp}(h:yk K J H G xs ok)(t:TS H H2):yk K J H2 G2 xs ok:=λi j q f=>h i j q (t.trans f)
section
variable (X:Cx)
def lI (t:UI):TI:=λq H R=>∃z G Q E,SR X.K H z q/\HR X.K H G/\t z G Q E/\(∀y ok j f J,HR X.K f j->Fr H G f j->yk X.K J f j y ok->Q y ok j->R J f)/\LX X q H G E
def lG  (K:Sb)(t:U->Sg->(Sg->Prop)->Prop):TG:=λv y H z=>∃u q k,RU K H u v/\SR K H q y/\t u q k/\∀f j,SR K H f j->k f->z j H
def qq  (K:Sb)(t:List U->Sg->(Sg->Prop)->Prop):Bl:=λI z H F=>∃q y k,Vb K H q I/\SR K H y z/\t q y k/\∀f j,SR K H f j->k f->F j H
end
section
variable {X:Cx}{tg:Na}{pos:Pos}{te ta tb:UE}
def u_ie   (hl:PE X l (lE X te)):PI X tg l (lI X λς G Q E=>te ς G (λx G1=>Ig x G1 λxs ok=>Q xs ok G1) E):=by
 refine(jU hl).imp λσ H R h=>?_;obtain⟨ς,G,Q,E,xa,hG,h,lv,lx⟩:=h;refine⟨ς,G,_,E,xa,hG,h,λx v G1 H1 rx j f1 J=>?_,lx⟩;dsimp only at J;unfold Ig at J;split at J
 ·obtain⟨a,I,rfl,ea,rs⟩:=rx;refine⟨a,rfl,.inr ⟨⟨I,.of ea⟩,lv _ _ _ H1 _ j f1 (λi H' G' f Z _=>?_) J⟩⟩;have e':H' a=ma (.tup I):=f a _ ea;refine⟨λu eu=>?_,λe=>⟨I,.of e',by rw[e,rs.length];lia⟩⟩
  obtain⟨w,O,z⟩:=rs.get eu;refine⟨⟨I,w,.of e',O⟩,λv za y=>?_⟩;obtain⟨rfl,y⟩:=y;have:=y I (.of e');rw[O]at this;cases this;exact⟨z.ts f,Z,Fr.refl _ _⟩
 ·cases rx;rename_i a;split at J
  ·rename_i us eu;obtain⟨I,sq,rs⟩:=j.ls eu;refine⟨_,rfl,.inl ⟨⟨I,sq⟩,lv _ _ _ H1 _ j f1 (λi H' G' f Z ok=>?_) J⟩⟩;obtain⟨F,q,Y⟩:=Z.ls ok;refine⟨λu eu=>?_,λe=>⟨F,q,by rw[e,Y.length];lia⟩⟩
   obtain⟨w,O,z⟩:=Y.get eu;refine⟨⟨F,w,q,O⟩,λv za y=>?_⟩;obtain⟨rfl,y⟩:=y;have:=y F q;rw[O]at this;cases this;exact⟨z,Z,Fr.refl _ _⟩
  lia
 lia
def ZX      lo n:yk K (yx lo n) H G (rngU lo n) λ_=>True:=by
 intro i I J f F _;have q:(rngU lo n).length=n:=by simp[rngU]
 refine⟨λu eu=>?_,λe=>by rw[q]at e;exact mw e.symm⟩
 have j:i<n:=by grind
 refine⟨j,λv z y=>?_⟩;obtain⟨rfl,rfl⟩:=y;have:(rngU lo n)[i]?=ma (.int (lo+i)):=by simp[rngU,md,RL j]
 rw[this]at eu;cases eu;exact⟨rfl,F,Fr.refl _ _⟩
def u_r1 {a:Na}{p:Pos}(Y:Gl X "range")(hm:X.mg "range" = Aa)(Z:PE X a (lE X ta))(hs:Kd [a] X.env=[(Ca,Lb a X.env)]):PI X tg (.Call (.Name "range" p) [a] [] pos) (lI X λF G Q E=>ta F G (λx q=>match x with
   |.int j=>-(2 ^ 62)<=j/\j<2 ^ 62/\Q (rngU 0 j.toNat) (λ_=>True) q
   |_=>False) E):=by
 refine(FY Y hm (Pm Z Jm hs) hs).imp λσ H R h=>?_;obtain⟨F,G,Q,E,y,hG,h,O,lx⟩:=h;refine⟨F,G,λI q=>match I with|[x]=>(match x with|.int j=>-(2 ^ 62)<=j/\j<2 ^ 62/\Q (rngU 0 j.toNat) (λ_=>True) q|_=>False)|_=>False,E,y,hG,h,λI vs q H1 J z f1 f=>?_,lx⟩
 dsimp only at f;split at f
 ·obtain⟨v,rfl,r⟩:=J.one;split at f
  ·cases r;exact⟨_,rfl,f.1,f.2.1,O _ _ q H1 _ z f1 (ZX 0 _) f.2.2⟩
  lia
 lia
theorem Kq  : ∀{n i } {xs } {u:U},(Ij n xs)[i]?=ma u->∃x,xs[i]?=ma x/\u=.tup [.int ((n+i:Nat):Int),x]
 |_,_,[],_,h=>by simp[Ij]at h
 |n,0,x::xs,_,h=>by
  simp[Ij]at h
  simp_all
 |n,i+1,_::xs,_,h=>by
  obtain⟨x,j,f⟩:=Kq (n:=n+1) (i:=i) (xs:=xs) (by simpa[Ij]using h)
  grind
theorem Mq  : ∀n (xs:List U),(Ij n xs).length=xs.length
 |_,[]=>rfl
 |n,_::xs=>by simp[Ij,Mq (n+1) xs]
def ZT      (hg:Gl X "enumerate")(hm:X.mg "enumerate" = Aa)(ha:PE X l (lE X ta))(hs:Kd [l] X.env=[(Ca,Lb l X.env)]) :
  PI X (.Tuple va x1 ja) (.Call (.Name "enumerate" p) [l] [] pos) (lI X λς G Q E=>ta ς G (λx G1=>Wq x G1 λxs ok=>Q xs ok G1) E):=by
 refine(MX hg hm (Pm ha Jm hs) hs).imp λσ H R h=>?_;obtain⟨ς,G,Q,E,xa,hG,h,lv,lx⟩:=h;refine⟨ς,G,λus G1=>match us with|[x]=>Wq x G1 λxs ok=>Q xs ok G1|_=>False,E,xa,hG,h,λus vs G1 H1 rs j f1 O=>?_,lx⟩
 dsimp only at O;split at O
 ·obtain⟨v,rfl,r⟩:=rs.one;unfold Wq at O;split at O
  ·obtain⟨a,ws,rfl,ea,rr⟩:=r;refine⟨a,rfl,.inl ⟨⟨ws,ea⟩,lv _ _ _ H1 _ j f1 (λi H' G' f hr _=>?_) O⟩⟩;have e':H' a=ma (.tup ws):=f a _ ea;refine⟨λu eu=>?_,λe=>⟨ws,e',by rw[e,Mq,rr.length]⟩⟩
   obtain⟨x,ex,rfl⟩:=Kq eu;obtain⟨w,ew,J⟩:=rr.get ex;refine⟨⟨ws,w,e',ew⟩,λv za y=>?_⟩;obtain⟨ys,z,q,hq,F,rfl,Y,rfl⟩:=y;rw[e']at hq;cases hq;rw[ew]at F;cases F;refine⟨⟨q,_,rfl,Hg,⟨_,_,rfl,by rw[Sj];rfl,⟨_,_,rfl,(J.ts f).ts (TS.new Y),rfl⟩⟩⟩,hr.newT Y,Fr.new Y⟩
  ·cases r;split at O
   ·rename_i us eu;obtain⟨vs,sq,rs⟩:=j.ls eu;refine⟨_,rfl,.inr ⟨⟨vs,sq⟩,lv _ _ _ H1 _ j f1 (λi H' G' f hr ok=>?_) O⟩⟩;obtain⟨Z,I,rr⟩:=hr.ls ok;refine⟨λu eu=>?_,λe=>⟨Z,I,by rw[e,Mq,rr.length]⟩⟩
    obtain⟨x,ex,rfl⟩:=Kq eu;obtain⟨w,ew,J⟩:=rr.get ex;refine⟨⟨Z,w,I,ew⟩,λv za y=>?_⟩;obtain⟨z,q,F,rfl,Y,rfl⟩:=y;have F:=F Z I;rw[ew]at F;cases F;refine⟨⟨q,_,rfl,Hg,⟨_,_,rfl,by rw[Sj];rfl,⟨_,_,rfl,J.ts (TS.new Y),rfl⟩⟩⟩,hr.newT Y,Fr.new Y⟩
   lia
  lia
 lia
theorem fe.len     : ∀{kvs:List (κ×U)} {l },fe K H kvs l->kvs.length=l.length
 |[],_,h=>by cases h;rfl
 |(_,_)::_,_,h=>by
  obtain⟨v,j,rfl,_,f⟩:=h;simp[fe.len f]
theorem fe.val     : ∀{kvs } {l } {i:Nat} {p:κ×V},fe K H kvs l->l[i]?=ma p->∃u,kvs[i]?=ma (p.1,u)/\RU K H u p.2
 |[],_,_,_,h,e=>by cases h;simp at e
 |(_,_)::_,_,0,_,h,e=>by
  obtain⟨v,j,rfl,r,_⟩:=h
  grind
 |(_,_)::_,_,i+1,_,h,e=>by
  obtain⟨v,j,rfl,_,f⟩:=h;simp at e;simpa using fe.val f e
def bF {f:List (uc×U)->List U}{J:Ea->Obj->L2.It}{l:Na}{ti:TI}(hl:PI X tg l ti)(Y:ti=λσ H R=>lE X te σ H λx H1=>∃a kvs,x=.ref a/\Held H1 a kvs λo I=>R (J a o) I)
  (hw:∀{a o kvs} {I:Hp} {z:Gp},HR X.K I z->z a=ma (.frk o kvs)->yk X.K (J a o) I z (f kvs) λz=>z a=ma (.frk o kvs)):PI X tg l (lI X λZ G Q E=>te Z G (λx G1=>mi f x G1 Q) E):=by
 subst Y;refine hl.imp λσ H R h=>?_;obtain⟨Z,G,Q,E,O,hG,h,lv,lx⟩:=h;refine⟨Z,G,_,E,O,hG,h,λx v G1 H1 rx j f1 q=>?_,lx⟩;dsimp only at q;unfold mi at q;split at q
 ·cases rx;rename_i a;split at q
  ·rename_i kvs g;obtain⟨l,e,rk⟩:=j _ _ g;refine⟨a,l,rfl,.inl e,λo _=>?_⟩;have F:HR X.K (upd H1 a (.frz o (.dK l))) (Ed G1 a (.frk o kvs)):=j.write g ⟨l,Hg,rk.ts (TS.write j g)⟩;exact lv _ _ _ _ _ F (f1.trans (Fr.write g)) (hw F Gf) (q o _ ⟨rfl⟩)
  ·rename_i o kvs g;obtain⟨l,e,rk⟩:=j _ _ g;refine⟨a,l,rfl,.inr ⟨o,e⟩,λo' ho=>?_⟩;cases ho o e;have y:upd H1 a (.frz o (.dK l))=H1:=by
    funext b;unfold upd
    lia
   rw[y];exact lv _ _ _ _ _ j f1 (hw j g) q
  lia
 lia
def u_dv    (hd:PE X d (lE X te))(hb:Uj d "values" X.env (Lb d X.env)=Lb d X.env)(Y:(apos.endLine==pos.line)=ua):PI X tg (.Call (.Attribute d "values" apos) [] [] pos) (lI X λς G Q E=>te ς G (λx G1=>mi Fi x G1 Q) E):=by
 refine bF (J:=kD) (mQ hd hb Y) rfl λ{a o xa H' G'} _ _=>λi H2 G2 f R ok=>?_;obtain⟨I,q,j⟩:=R _ _ ok;refine⟨λu eu=>?_,λz=>⟨I,q,by rw[z,Fi,Hb,j.len];lia⟩⟩
 have hi:i<I.length:=by
  have:=(Ba.mp eu).1;rw[Fi,Hb,j.len]at this
  lia
 refine⟨⟨I,q,hi⟩,λv Z y=>?_⟩;obtain⟨rfl,l2,k,O,ek⟩:=y;rw[q]at O;cases O;obtain⟨u2,F,ru⟩:=j.val ek;rw[Fi,md,F]at eu;cases eu;exact⟨ru,R,Fr.refl _ _⟩
def u_di      (hd:PE X d (lE X te))(hb:Uj d "items" X.env (Lb d X.env)=Lb d X.env)(hl:(apos.endLine==pos.line)=ua):PI X (.Tuple xa x1 R) (.Call (.Attribute d "items" apos) [] [] pos) (lI X λς G Q E=>te ς G (λx G1=>mi Ik x G1 Q) E):=by
 refine bF (J:=nD) (lQ hd hb hl) rfl λ{a o ja H' G'} _ _=>λi H2 G2 f Z ok=>?_;obtain⟨I,q,j⟩:=Z _ _ ok;refine⟨λu eu=>?_,λz=>⟨I,q,by rw[z,Ik,Hb,j.len];lia⟩⟩
 have hi:i<I.length:=by
  have:=(Ba.mp eu).1;rw[Ik,Hb,j.len]at this
  lia
 refine⟨⟨I,q,hi⟩,λv za y=>?_⟩;obtain⟨l2,k,x,p,Y,ek,rfl,O,rfl⟩:=y;rw[q]at Y;cases Y;obtain⟨u2,F,ru⟩:=j.val ek;rw[Ik,md,F]at eu;cases eu;exact⟨⟨p,_,rfl,Hg,⟨_,_,rfl,by cases k<;>rfl,⟨_,_,rfl,ru.ts (TS.new O),rfl⟩⟩⟩,Z.newT O,Fr.new O⟩
def SR.set        (h:SR K H q σ)(r:RU K H u v) i:SR K H (q.set i (ma u)) (σ.set i (ma v)):=by
 refine⟨by simp[h.1],λj w e=>?_⟩
 by_cases y:j=i
 ·subst y;by_cases f:j<q.length
  ·rw[wj f]at e;cases e;exact⟨v,wj (by rw[<- h.1];exact f),r⟩
  simp_all
 ·rw[Xi (Ta y)]at e ⊢;exact h.2 j w e
def u_tn    (z:X.N.Nodup)(hi:X.N[i]?=ma x)(y:Tn X.env.scope x)(j:X.fn x=ua\/X.env.scope.names.lookup x=ma .local):PG X (.Name x pos) (lG X.K (Qc (.n i))):=by
 refine(VW z hi y j).imp λv F H Q h=>?_;obtain⟨u,I,k,r,f,h,q⟩:=h;exact q _ _ (f.set r i) h
def u_tt {j:List Na}{k n:Nat}{ts:Jh}(I:X.calm=ua)(h:Di X j (qq X.K (tgsU ts)))(J:(Qg j X.env).length=n)(z:(Qg j X.env).findIdx? (·.1)=Aa)(Y:∀us f k,tgsU ts us f k->us.length=n) :
  PG X (.Tuple j k pos) (lG X.K (Qc (.t ts))):=by
 refine(iU I h J z).imp λv Z H Q h=>?_;obtain⟨u,f,k,r,y,h,q⟩:=h;cases u with
 |tup us=>
  obtain⟨a,R,rfl,e,F⟩:=r;have O:tgsU ts us f k:=h;exact⟨a,R,rfl,.of e,by rw[<- F.length];grind,us,f,k,F,y,O,q⟩
 |_=>exact h.elim
def iR  : Di X [] (qq X.K (tgsU .nil)):=by
 refine WW.imp λz y H Q h=>?_;obtain⟨j,F,k,r,f,h,q⟩:=h;obtain⟨rfl,h⟩:=h;cases r;exact⟨rfl,q _ _ f h⟩
def gR {e:Na}{f:List Na}{t:Tg}{ts:Jh}(J:PG X e (lG X.K (Qc t)))(h2:Di X f (qq X.K (tgsU ts)))(hs:(Qg (e::f) X.env).map (·.2)=Yc e X.env::(Qg f X.env).map (·.2)) :
  Di X (e::f) (qq X.K (tgsU (.cons t ts))):=by
 refine(JX J h2 hs).imp λvs σ H Q h=>?_;obtain⟨y,Z,k,r,j,h,q⟩:=h;cases y with
 |nil=>exact h.elim
 |cons u y=>
  obtain⟨v,O,rfl,r1,I⟩:=r;exact⟨v,O,rfl,u,Z,_,r1,j,h,λz R F Y=>⟨y,z,k,I,F,Y,q⟩⟩
end
theorem wA    : ∀{ns:List Int} {vs },Vb K H (ns.map .int) vs->vs=ns.map V.int
 |[],_,h=>h
 |n::ns,_,h=>by
  obtain⟨v,q,rfl,f,j⟩:=h;rw[wA j];have f:v=.int n:=f;rw[f];rfl
def Qh  (K:Sb)(t:UE):TE:=λz H y=>∃q G Q,SR K H q z/\HR K H G/\t q G Q (λ_ _=>False)/\∀w v j f,RU K f w v->HR K f j->Fr H G f j->Q w j->y v f
def ah  (K:Sb)(t:Sg->Gp->(Bool->Gp->Prop)->Prop):TT:=λz H y=>∃q G Q,SR K H q z/\HR K H G/\t q G Q/\∀b j f,HR K f j->Fr H G f j->Q b j->y b f
def LX.no      : LX X σ H G λ_ _=>False:=λ_ _ _ _ _ _ _ _ _ _ h=>h.elim
def Qh.of     (h:PE X e (lE X t)):PE X e (Qh X.K t):=h.imp λI H F ⟨q,G,Q,f,z,j,y⟩=>⟨q,G,Q,_,f,z,j,y,LX.no⟩
def ah.of     (h:PT X e (lT X t)):PT X e (ah X.K λf G Q=>t f G Q λ_ _=>False):=h.imp λI H F ⟨f,G,Q,j,z,q,y⟩=>⟨f,G,Q,_,j,z,q,y,LX.no⟩
mutual
noncomputable def Ue:Tg->List Nat
 |.n i=>[i]
 |.t ts=>tgsS ts
noncomputable def tgsS:Jh->List Nat
 |.nil=>[]
 |.cons t ts=>Ue t++tgsS ts
end
def Us  (f q:Sg):Prop:=f.length=q.length/\∀(j:Nat) (w:U),f[j]?=ma (ma w)->q[j]?=ma (ma w)
mutual
theorem Kz {f:Sg}:∀{t:Tg} {u:U} {y:Sg} {k:Sg->Prop},(∀i∈Ue t,∀w,f[i]?≠ma (ma w))->Us f y->Qc t u y k->Qc t u y λq=>k q/\Us f q
 |.n i,u,y,k,hf,he,h=>by
  refine⟨h,by simp[he.1],λj w e=>?_⟩
  have I:j≠i:=λz=>hf i (by simp[Ue]) w (z ▸ e)
  rw[Xi (Ta I)]
  exact he.2 j w e
 |.t ts,u,y,k,hf,he,h=>by
  cases u with
  |tup us=>exact eG (ts:=ts) (us:=us) (λi F=>hf i F) he h
  |_=>exact h
theorem eG {j:Sg}:∀{ts:Jh} {us:List U} {q:Sg} {k:Sg->Prop},(∀i∈tgsS ts,∀w,j[i]?≠ma (ma w))->Us j q->tgsU ts us q k->tgsU ts us q λf=>k f/\Us j f
 |.nil,us,q,k,_,he,h=>⟨h.1,h.2,he⟩
 |.cons t ts,us,q,k,hf,he,h=>by
  cases us with
  |nil=>exact h
  |cons u r=>
   have:=Kz (t:=t) (u:=u) (λi y=>hf i (by simp[tgsS,y])) he h
   refine Fq this λf ⟨z,F⟩=>eG (λi y=>hf i (by simp[tgsS,y])) F z
theorem Fq:∀{t:Tg} {u:U} {f:Sg} {k k':Sg->Prop},Qc t u f k->(∀f,k f->k' f)->Qc t u f k'
 |.n _,_,_,_,_,h,i=>i _ h
 |.t ts,u,f,_,_,h,i=>by
  cases u with
  |tup us=>exact RG (ts:=ts) (us:=us) h i
  |_=>exact h
theorem RG:∀{ts:Jh} {us:List U} {f:Sg} {k k':Sg->Prop},tgsU ts us f k->(∀f,k f->k' f)->tgsU ts us f k'
 |.nil,_,_,_,_,h,i=>⟨h.1,i _ h.2⟩
 |.cons t ts,us,f,_,_,h,i=>by
  cases us with
  |nil=>exact h
  |cons u r=>exact Fq (t:=t) h λq j=>RG j i
end
def SR.ext      (h:SR K H j σ)(e:Us f j):SR K H f σ:=⟨e.1.trans h.1,λi u q=>h.2 i u (e.2 i u q)⟩
theorem SR.pick      (h:SR K H f σ)(pick:List (Option Nat)):SR K H (gg pick f) (pick.map λo=>o.bind λj=>(σ[j]?).join):=by
 refine⟨by simp[gg],λi u e=>?_⟩
 unfold gg at e;rw[md]at e ⊢;cases q:pick[i]? with
 |none=>simp_all
 |some o=>
  rw[q]at e;cases o with
  |none=>simp at e
  |some j=>
   simp only[SK,Option.bind_some,Option.some.injEq]at e ⊢;have y:f[j]?=ma (ma u):=by
    grind
   obtain⟨v,z,r⟩:=h.2 j u y
   simp_all
section
variable {K:Sb}{H:Hp}{G:Gp}
def HR.newH  (h:HR K H G)(e:H p=Aa):HR K (upd H p o) G:=⟨λa j q=>by
 have m:=h a j q;obtain⟨y,f⟩:=m.there;exact m.keep (Bd (Ng f e)) (TS.new e),h.tab.new e⟩
def TS.hid     (e:H p=ma (.lst ys)):TS H (upd H p o):=⟨λa j h=>by
 have:a≠p:=λz=>by lia
 rw[Bd this];exact h,λa f h=>by
 have:a≠p:=λz=>by lia
 rw[Bd this];exact h⟩
def HR.hid  (h:HR K H G)(e:H p=ma (.lst ys))(g:G p=Aa):HR K (upd H p o) G:=⟨λa f q=>by
 have:a≠p:=λz=>by lia
 exact(h a f q).keep (Bd this) (TS.hid e),h.tab.upd (λj z=>by lia) λf z=>by lia⟩
def HR.know  (h:HR K H G)(e:H p=ma (.lst ys))(r:Vb K H us ys):HR K H (Ed G p (.lst us)):=⟨λa f q=>by
 by_cases z:a=p
 ·subst z;rw[Gf]at q;cases q;exact⟨ys,e,r⟩
 ·rw[Uh z]at q;exact h a f q,h.tab⟩
end
section
variable {X:Cx}{pick:List (Option Nat)}{ti:UI}{t:Tg}{tc:Sg->Gp->(Bool->Gp->Prop)->Prop}{te:UE}{σ:St}{H:Hp}{Q0:VK}
abbrev xz  (pick:List (Option Nat))(O:UI)(t:Tg)(z:Sg->Gp->(Bool->Gp->Prop)->Prop)(F:UE):UE:=λy G Q E=>O y G (λf ok R=>f.length<=Fb/\ji ok (λx I k=>Qc t x (gg pick y) λq=>z q I (λb j=>if b=ua then F q j (λu Y=>k (ma u) Y) (λ_ _=>False) else k Aa j)) f [] R
   λJ Z=>newO Z (.lst J) Q) E
structure Ts (D:Ea)(H:Hp)(G:Gp)(H':Hp)(G':Gp):Prop where
 go:∀a o,a≠D->H a=ma o->G a=Aa->(nt:noTb o=ua:=by rfl)->H' a=ma o/\G' a=Aa
instance {D:Ea} {H H':Hp} {G G':Gp}:CoeFun (Ts D H G H' G') λ_=>∀a o,a≠D->H a=ma o->G a=Aa->(nt:noTb o=ua:=by rfl)->H' a=ma o/\G' a=Aa:=⟨@Ts.go D H G H' G'⟩
def nF     {H1:Hp}{kk:List U->Gp->Prop}{QQ:St->List V->Hp->Prop}
  (free:∀i∈Ue t,∀w,F[i]?≠ma (ma w)) (wk:yk X.K J H1 G1 xs ok) (ya:HR X.K H1 G1) (jc:H1 D=ma (.lst jb)) (kc:G1 D=Aa) (zd:Vb X.K H1 acc0 jb) (yc:SR X.K H1 F qd) (hl:acc0.length+xs.length<=Fb)
  (h1:ji ok (λx G2 k=>Qc t x F λτ=>tc τ G2 (λb Y=>if b=ua then te τ Y (λu G4=>k (ma u) G4) (λ_ _=>False) else k Aa Y)) xs acc0 G1 kk)
  (qe:∀zb za wa O j,SR X.K j F zb->HR X.K j O->Ts D H1 G1 j O->j D=ma (.lst wa)->O D=Aa->Vb X.K j za wa->kk za O->QQ zb wa j) :
  Tu J (lG X.K (Qc t)) (ah X.K tc) (Rv (Qh X.K te) D) QQ qd jb H1:=by
 refine⟨λi m τ ys j=>m=xs.length-i/\i<=xs.length/\∃I O,SR X.K j F τ/\HR X.K j O/\Ts D H1 G1 j O/\j D=ma (.lst ys)/\O D=Aa/\Vb X.K j I ys/\I.length<=acc0.length+i/\
  ji ok (λx G2 k=>Qc t x F λτ=>tc τ G2 (λb Y=>if b=ua then te τ Y (λu G4=>k (ma u) G4) (λ_ _=>False) else k Aa Y)) (xs.drop i) I O kk,⟨xs.length,by simp,Mf _,acc0,G1,yc,ya,⟨λ_ _ _ a b _=>⟨a,b⟩⟩,jc,kc,zd,by lia,by simp_all⟩,?_⟩
 rintro i m τ ys j ⟨rfl,hi,I,O,sr,hr,f,eD,gD',ra,hal,hc⟩;have ts:TS H1 j:=⟨λa zs e=>(f a _ (λz=>by lia) e (ya.tupNone e)).1,λa zs e=>(f a _ (λz=>by lia) e (ya.codNone e)).1⟩
 by_cases R:i<xs.length
 ·rw[xh R]at hc;obtain⟨ja,hb⟩:=hc;obtain⟨w1,_⟩:=wk i j O ts hr ja;obtain⟨go,yl⟩:=w1 xs[i] (by simp[R])
  refine .inr ⟨go,λv vc y=>?_⟩;obtain⟨rx,Z,f2⟩:=yl v vc y;have xd:=sr.ts (f2.ts hr);refine⟨xs[i],F,_,rx,xd,Kz free ⟨rfl,λ_ _ e=>e⟩ hb,λxc wc ka ⟨hk,he⟩=>?_⟩;refine⟨xc,O,_,ka,Z,hk,λb Y H3 xa f3 h3=>?_⟩;have qc:Ts D H1 G1 H3 Y:=⟨λa o n h g nt=>let ⟨a1,a2⟩:=f a o n h g nt;let ⟨b1,b2⟩:=f2 a o a1 a2 nt;f3 a o b1 b2 nt⟩
  have zc:SR X.K H3 F wc:=(ka.ext he).ts (f3.ts Z);obtain⟨jd,wd⟩:=f2 D _ eD gD';obtain⟨xb,vb⟩:=f3 D _ jd wd;have yb:=(ra.ts (f2.ts hr)).ts (f3.ts Z);cases b with
  |false=>
   rw[if_neg Pd]at h3;dsimp only;rw[if_neg Pd];exact⟨xs.length-(i+1),by lia,rfl,R,I,Y,zc,xa,qc,xb,vb,yb,by lia,h3⟩
  |true=>
   rw[if_pos rfl]at h3;dsimp only;rw[if_pos rfl];refine⟨xc,Y,_,ka.ts (f3.ts Z),xa,h3,λu v G4 H4 ru vd f4 h4=>?_⟩;obtain⟨va,wb⟩:=f4 D _ xb vb;have yd:=yb.ts (f4.ts xa);have kb:=TS.hid (o:=.lst (ys++[v])) va;refine⟨va,by rw[<- ra.length];lia,xs.length-(i+1),by lia,rfl,R,I++[u],G4,(zc.ts (f4.ts xa)).ts kb,vd.hid va wb,?_,Hg,wb,(yd.append (Vb.mk (us:=[]) (vs:=[]) ru rfl)).ts kb,by grind,h4⟩
   refine⟨λa o n ha ga nt=>?_⟩;obtain⟨x1,x2⟩:=qc a o n ha ga nt;obtain⟨y1,y2⟩:=f4 a o x1 x2 nt;exact⟨by rw[Bd n];exact y1,y2⟩
 ·have e:i=xs.length:=by lia
  subst e;rw[DC]at hc;obtain⟨ja,q⟩:=hc;obtain⟨_,w2⟩:=wk xs.length j O ts hr ja;exact .inl ⟨w2 rfl,qe τ I ys O j sr hr f eD gD' ra q⟩
def CA  {is:List Nat}(f:is.all (λi=>(pick[i]?).join.isNone)=ua) ς:∀i∈is,∀w,(gg pick ς)[i]?≠ma (ma w):=λi j w e=>by
 have:=Mi.mp f i j;unfold gg at e;rw[md]at e;cases q:pick[i]? with
 |none=>simp_all
 |some o=>
  simp_all
def mF  (hp:(Ue t).all (λi=>(pick[i]?).join.isNone)=ua)(h:lE X (xz pick ti t tc te) σ H Q0):Lx pick (lI X ti) (lG X.K (Qc t)) (ah X.K tc) (Qh X.K te) σ H Q0:=by
 obtain⟨R,G,Q,E,y,hG,h,lv,lx⟩:=h;refine⟨R,G,_,E,y,hG,h,λxs ok G1 H1 J z Y wk O=>?_,lx⟩;obtain⟨hl,O⟩:=O;intro D j;refine nF (acc0:=[]) (CA hp R) (wk.mono (TS.new j)) (z.newH j) Hg (z.nope j) rfl (((y.ts (Y.ts hG)).ts (TS.new j)).pick pick) (by simp_all) O λza xa ja G' H' sr hr f eD I ra q=>?_
 refine lv (.loc D) (.ref D) _ H' rfl (hr.know eD ra) ?_ (q.at D I);refine⟨λa o ha ga Z=>?_⟩;obtain⟨F,x2⟩:=Y a o ha ga Z;obtain⟨y1,y2⟩:=f a o (Ng F j) (by rw[Bd (Ng F j)];exact F) x2 Z
 exact⟨y1,by rw[Uh (Ng F j)];exact y2⟩
def Gm  (K:Sb)(t:UI):TI:=λz H R=>∃y G Q,SR K H y z/\HR K H G/\t y G Q (λ_ _=>False)/\∀q ok j f J,HR K f j->Fr H G f j->yk K J f j q ok->Q q ok j->R J f
def Gm.of    {t:UI}(h:PI X tg e (lI X t)):PI X tg e (Gm X.K t):=h.imp λF H R ⟨q,G,Q,f,z,j,y⟩=>⟨q,G,Q,_,f,z,j,y,LX.no⟩
mutual
theorem dG {is:List Nat}:∀{t:Tg} {u:U} {q:Sg} {k:Sg->Prop},(∀i∈is,i∉Ue t)->(∀i∈is,∀w,q[i]?≠ma (ma w))->Qc t u q k->Qc t u q λf=>k f/\∀i∈is,∀w,f[i]?≠ma (ma w)
 |.n j,u,q,k,hf,he,h=>by
  refine⟨h,λi y w e=>?_⟩
  have F:i≠j:=λz=>hf i y (by simp[Ue,z])
  grind
 |.t ts,u,q,k,hf,he,h=>by
  cases u with
  |tup us=>exact QG (ts:=ts) (us:=us) (λi y=>hf i y) he h
  |_=>exact h
theorem QG {is:List Nat}:∀{ts:Jh} {us:List U} {j:Sg} {k:Sg->Prop},(∀i∈is,i∉tgsS ts)->(∀i∈is,∀w,j[i]?≠ma (ma w))->tgsU ts us j k->tgsU ts us j λf=>k f/\∀i∈is,∀w,f[i]?≠ma (ma w)
 |.nil,us,j,k,_,he,h=>⟨h.1,h.2,he⟩
 |.cons t ts,us,j,k,hf,he,h=>by
  cases us with
  |nil=>exact h
  |cons u r=>
   have:=dG (t:=t) (u:=u) (λi q z=>hf i q (by simp[tgsS,z])) he h
   refine Fq this λf ⟨y,F⟩=>QG (λi q z=>hf i q (by simp[tgsS,z])) F y
end
abbrev lc2D  (pick:List (Option Nat))(ti:UI)(t:Tg)(tc:Sg->Gp->(Bool->Gp->Prop)->Prop)(F:UI)(t2:Tg)(z:Sg->Gp->(Bool->Gp->Prop)->Prop)(te:UE):UE:=λO G Q E=>ti O G (λxs ok G1=>xo ok (λx f G2 k=>Qc t x (gg pick O) λI=>tc I G2 (λb Y=>if b=ua then F I Y (λR q G4=>f.length+R.length<=Fb/\ji q (λy J Z=>Qc t2 y I λj=>z j J (λb2 G6=>if b2=ua then te j G6 (λu G7=>Z (ma u) G7) (λ_ _=>False) else Z Aa G6)) R f G4 k) (λ_ _=>False) else k f Y)) xs [] G1
   λus J=>newO J (.lst us) Q) E
def VF     (hp:(Ue t).all (λi=>(pick[i]?).join.isNone)=ua)(ze:(Ue t2).all (λi=>(pick[i]?).join.isNone)=ua)(ye:(Ue t2).all (λi=>!(Ue t).contains i)=ua)(h:lE X (lc2D pick ti t tc kb t2 jb te) σ H Q0) :
  tLc2 pick (lI X ti) (lG X.K (Qc t)) (ah X.K tc) (Gm X.K kb) (lG X.K (Qc t2)) (ah X.K jb) (Qh X.K te) σ H Q0:=by
 obtain⟨ς,G,Q,E,ka,hG,h,lv,lx⟩:=h;refine⟨ς,G,_,E,ka,hG,h,λz ok G1 H1 J I f1 wk h1=>?_,lx⟩;intro D hD;have xb:=CA hp ς;have ya:=CA ze ς;have xe:∀i∈Ue t2,i∉Ue t:=λi hi=>by simp_all
 refine⟨λi m τ ys R=>m=z.length-i/\i<=z.length/\∃j Y,SR X.K R (gg pick ς) τ/\HR X.K R Y/\Fr H1 G1 R Y/\R D=ma (.lst ys)/\Y D=Aa/\Vb X.K R j ys/\
  xo ok (λx j G2 k=>Qc t x (gg pick ς) λτ=>tc τ G2 (λb G3=>if b=ua then kb τ G3 (λys wa G4=>j.length+ys.length<=Fb/\ji wa (λy G5 k5=>Qc t2 y τ λva=>jb va G5 (λb2 G6=>if b2=ua then te va G6 (λu G7=>k5 (ma u) G7) (λ_ _=>False) else k5 Aa G6)) ys j G4 k) (λ_ _=>False) else k j G3)) (z.drop i) j Y λus G5=>newO G5 (.lst us) Q,
  ⟨z.length,by simp,Mf _,[],G1,((ka.ts (f1.ts hG)).ts (TS.new hD)).pick pick,I.newH hD,Fr.new hD,Hg,I.nope hD,rfl,by simp_all⟩,?_⟩
 rintro i m τ ys R ⟨rfl,hi,j,Y,sr,hr,f,eD,gD',ra,hc⟩;by_cases F:i<z.length
 ·rw[xh F]at hc;obtain⟨ja,hb⟩:=hc;obtain⟨w1,_⟩:=wk i R Y (f.ts I) hr ja;obtain⟨go,yl⟩:=w1 z[i] (by simp[F])
  refine .inr ⟨go,λv zc y=>?_⟩;obtain⟨rx,za,f2⟩:=yl v zc y;have yc:=sr.ts (f2.ts hr);refine⟨z[i],gg pick ς,_,rx,yc,dG xe ya (Kz xb ⟨rfl,λ_ _ e=>e⟩ hb),λxa kc vb ⟨⟨hk,he⟩,je⟩=>?_⟩;refine⟨xa,Y,_,vb,za,hk,λb G3 H3 O f3 h3=>?_⟩;have wb:Fr H1 G1 H3 G3:=(f.trans f2).trans f3;have Z:SR X.K H3 xa kc:=vb.ts (f3.ts za);obtain⟨wc,wd⟩:=f2 D _ eD gD';obtain⟨zb,qc⟩:=f3 D _ wc wd;have xc:=(ra.ts (f2.ts hr)).ts (f3.ts za);cases b with
  |false=>
   rw[if_neg Pd]at h3;dsimp only;rw[if_neg Pd];exact⟨z.length-(i+1),by lia,rfl,F,j,G3,Z.ext he,O,wb,zb,qc,xc,h3⟩
  |true=>
   rw[if_pos rfl]at h3;dsimp only;rw[if_pos rfl];refine⟨xa,G3,_,Z,O,h3,λzs wa G4 H4 J2 xd f4 zd h4=>?_⟩;obtain⟨qd,h4⟩:=h4;obtain⟨qe,vd⟩:=f4 D _ zb qc;refine nF je zd xd qe vd (xc.ts (f4.ts O)) (Z.ts (f4.ts O)) qd h4 λva yb we G5 H5 ve jc f5 yd jd vc q5=>?_;refine⟨z.length-(i+1),by lia,rfl,F,yb,G5,ve.ext he,jc,⟨λa o ha ga nt=>?_⟩,yd,jd,vc,q5⟩
   obtain⟨x1,x2⟩:=(wb.trans f4) a o ha ga nt;exact f5 a o (Ng ha hD) x1 x2 nt
 ·have e:i=z.length:=by lia
  subst e;rw[DC]at hc;obtain⟨ja,q⟩:=hc;obtain⟨_,w2⟩:=wk z.length R Y (f.ts I) hr ja;refine .inl ⟨w2 rfl,lv (.loc D) (.ref D) _ R rfl (hr.know eD ra) ?_ (q.at D gD')⟩;refine⟨λa o ha ga nt=>?_⟩;obtain⟨x1,x2⟩:=f1 a o ha ga nt;obtain⟨y1,y2⟩:=f a o x1 x2 nt;exact⟨y1,by rw[Uh (Ng x1 hD)];exact y2⟩

def u_lc  (q:X.calm=ua)(S:CScope X N pick scope)(y:PI X tg iter (lI X ti))(F:(Ue t).all (λi=>(pick[i]?).join.isNone)=ua)
  (z:∀cl C s₀ H₀ f,PG (Tc X N scope cl C s₀ H₀ f) tg (lG X.K (Qc t))) (hi:∀cl C s₀ H₀ f,PIfs (Tc X N scope cl C s₀ H₀ f) ifs (ah X.K tc)) (j:∀cl C s₀ H₀ f,PE (Tc X N scope cl C s₀ H₀ f) elt (Qh X.K te))
  (hs:∀x,Cf iter X.env x=pure x):PE X (.ListComp elt [⟨tg,iter,ifs,0⟩] scope pos) (lE X (xz pick ti t tc te)):=
 (iQ q S y z hi j hs).imp λ_ _ _ h=>mF F h
def YR       (hc:X.calm=ua)(S:CScope X N pick scope)(Z:PI X tg iter (lI X ti))(hp:(Ue t).all (λi=>(pick[i]?).join.isNone)=ua)(F:(Ue t2).all (λi=>(pick[i]?).join.isNone)=ua)(q:(Ue t2).all (λi=>!(Ue t).contains i)=ua)
  (hg:∀cl C s₀ H₀ f,PG (Tc X N scope cl C s₀ H₀ f) tg (lG X.K (Qc t))) (hi:∀cl C s₀ H₀ f,PIfs (Tc X N scope cl C s₀ H₀ f) ifs (ah X.K tc)) (he:∀cl C s₀ H₀ f,PE (Tc X N scope cl C s₀ H₀ f) elt (Qh X.K te))
  (R:∀cl C s₀ H₀ f,PI (Tc X N scope cl C s₀ H₀ f) j Y (Gm X.K J)) (z:∀cl C s₀ H₀ f,PG (Tc X N scope cl C s₀ H₀ f) j (lG X.K (Qc t2))) (y:∀cl C s₀ H₀ f,PIfs (Tc X N scope cl C s₀ H₀ f) f2 (ah X.K O)) (I:∀env x,Cf Y env x=pure x)
  (hs:∀x,Cf iter X.env x=pure x):PE X (.ListComp elt [⟨tg,iter,ifs,0⟩,⟨j,Y,f2,0⟩] scope pos) (lE X (lc2D pick ti t tc J t2 O te)):=
 (HU hc S Z hg hi he R z y I hs).imp λ_ _ _ h=>VF hp F q h
end
section
variable {X:Cx}{e:Na}{te ta tb:UE}{p pos:Pos}
def aS  (hc:X.calm=ua)(hg:Gl X "list")(hm:X.mg "list" = Aa)(Y:PE X e (lE X te))(J:Kd [e] X.env=[(Ca,Lb e X.env)]) :
  PE X (.Call (.Name "list" p) [e] [] pos) (lE X λF G Q E=>te F G (λx y=>mkDU x y Q) E):=by
 refine(Ev (BZ hc) hg hm NM (Pm Y Jm J) (by decide) (by decide) J rfl).imp λσ H Q0 h=>?_
 obtain⟨F,G,Q,E,z,hG,h,R,lx⟩:=h;refine⟨F,G,λI y=>match I with|[x]=>mkDU x y Q|_=>False,E,z,hG,h,λI vs y H1 rs j Z f=>?_,lx⟩
 dsimp only at f;split at f
 ·obtain⟨v,rfl,r⟩:=rs.one;unfold mkDU at f;split at f
  ·cases r;split at f
   ·rename_i O g;obtain⟨ns,hk,q⟩:=f;obtain⟨l,e,rk⟩:=j _ _ g;refine⟨_,l,ns,rfl,e,?_,λp hp=>(R.fr Z).lst hp (Oq _) j q⟩;rw[<- Pz rk];exact hk
   lia
  lia
 lia
def ZQ  (hg:Gl X "list")(hm:X.mg "list" = Aa)(Z:PE X e (lE X te))(Y:Kd [e] X.env=[(Ca,Lb e X.env)]) :
  PE X (.Call (.Name "list" p) [e] [] pos) (lE X λF G Q E=>te F G (λx q=>Ig x q λxs _=>newO q (.lst xs) Q) E):=by
 refine(Ev (WZ (X:=X)) hg hm NM (Pm Z Jm Y) (by decide) (by decide) Y rfl).imp λσ H Q0 h=>?_
 obtain⟨F,G,Q,E,z,hG,h,O,lx⟩:=h;refine⟨F,G,λI q=>match I with|[x]=>(Ig x q λxs _=>newO q (.lst xs) Q)|_=>False,E,z,hG,h,λI vs q H1 rs f R j=>?_,lx⟩
 dsimp only at j;split at j
 ·obtain⟨v,rfl,r⟩:=rs.one;unfold Ig at j;split at j
  ·obtain⟨a,J,rfl,ea,rr⟩:=r;exact⟨a,J,rfl,.inr (.of ea),λl y=>(O.fr R).lst y rr f j⟩
  ·cases r;split at j
   ·rename_i I eu;obtain⟨J,sq,rr⟩:=f.ls eu;exact⟨_,J,rfl,.inl sq,λl y=>(O.fr R).lst y rr f j⟩
   lia
  lia
 lia
def aR  (hg:Gl X "tuple")(hm:X.mg "tuple" = Aa)(ha:PE X e (lE X te))(Y:Kd [e] X.env=[(Ca,Lb e X.env)]) :
  PE X (.Call (.Name "tuple" p) [e] [] pos) (lE X λF G Q E=>te F G (λx q=>Ig x q λxs _=>Q (.tup xs) q) E):=by
 refine(Ev (Z0 (X:=X)) hg hm PyProof.Rows.boot_tuple (Pm ha Jm Y) (by decide) (by decide) Y rfl).imp λσ H Q0 h=>?_
 obtain⟨F,G,Q,E,z,hG,h,J,lx⟩:=h;refine⟨F,G,λI q=>match I with|[x]=>(Ig x q λxs _=>Q (.tup xs) q)|_=>False,E,z,hG,h,λI vs q H1 rs f O j=>?_,lx⟩
 dsimp only at j;split at j
 ·obtain⟨v,rfl,r⟩:=rs.one;unfold Ig at j;split at j
  ·obtain⟨a,y,rfl,R,rr⟩:=r;exact⟨a,y,rfl,.inr ⟨.of R,(J.fr O).here (w:=.tup _) ⟨a,y,rfl,R,rr⟩ f j⟩⟩
  ·cases r;split at j
   ·rename_i I eu;obtain⟨y,sq,rr⟩:=f.ls eu;exact⟨_,y,rfl,.inl ⟨sq,λl Z=>(J.fr O).tup Z rr f j⟩⟩
   lia
  lia
 lia
def dU    (hc:X.calm=ua)(j:Gl X "sorted")(m1:X.mg "sorted" = Aa)(h2:Gl X "set")(m2:X.mg "set" = Aa)(ha:PE X a (lE X ta))(hs:Kd [a] X.env=[(Ca,Lb a X.env)])
  (xa:Kd [.Call (.Name "set" p2) [a] [] f] X.env=[(Ca,Lb (.Call (.Name "set" p2) [a] [] f) X.env)]) :
  PE X (.Call (.Name "sorted" p) [.Call (.Name "set" p2) [a] [] f] [] pos) (lE X λZ G Q E=>ta Z G (λx O=>Bo x O Q) E):=by
 refine(UW hc j m1 h2 m2 (Pm ha Jm hs) hs xa).imp λσ H Q0 h=>?_;obtain⟨Z,G,Q,E,Y,hG,h,lv,lx⟩:=h;refine⟨Z,G,λus O=>match us with|[x]=>Bo x O Q|_=>False,E,Y,hG,h,λus vs O H1 rs y f1 j=>?_,lx⟩
 dsimp only at j;split at j
 ·obtain⟨v,rfl,r⟩:=rs.one;unfold Bo at j;split at j
  ·obtain⟨ns,rfl,z,F,q⟩:=j;obtain⟨b,ws,rfl,J,I⟩:=r;rw[wA I]at J;exact⟨b,ns,rfl,.inl (Qd.of J),z,F,λl ms R s1 s2=>(lv.fr f1).lst R (Oq _) y (q ms s1 s2)⟩
  ·cases r;obtain⟨ns,g,z,F,q⟩:=j;obtain⟨ws,J,I⟩:=y.lst g;rw[wA I]at J;exact⟨_,ns,rfl,.inr (.of J),z,F,λl ms R s1 s2=>(lv.fr f1).lst R (Oq _) y (q ms s1 s2)⟩
  lia
 lia
def u_ty    (y:Gl X x)(f:X.mg x=Aa)(q:Rj x=ma (.type n))(j:x ≠ "__name__")(hd:(x==("__debug__" : Str))=Ca):PE X (.Name x pos) (lE X λ_ G Q _=>Q (.ty n) G):=
 Jo (u:=.ty n) (OW (v:=.ty n) y f q rfl j hd) λ_=>rfl
def u_gl      (q:Gl X x)(j:X.mg x=ma w)(r:RelV v w)(f:∀H,RU X.K H u v)(hd:(x==("__debug__" : Str))=Ca):PE X (.Name x pos) (lE X λ_ G Q _=>Q u G):=
 Jo (SW q j r hd) f
def YT  : PE X (.Dict [] [] pos) (lE X λ_ G Q _=>newO G (.dK []) Q):=by
 refine qY.imp λz H F h p f=>?_;obtain⟨I,G,Q,E,q,j,h,y,lx⟩:=h;exact y (.loc p) (.ref p) _ _ rfl (j.newO (mo:=.dK []) f ⟨[],Hg,rfl⟩) (Fr.newO f) (h.at p (j.nope f))
theorem fe.merge    : ∀{f } {m },fe K H f m->∀{kvs } {l },fe K H kvs l->fe K H (f.foldl (λacc j=>dPut acc j.1 j.2) kvs) (Rm l m)
 |[],_,h,_,_,h'=>by cases h;exact h'
 |(k,u)::f,_,h,_,_,h'=>by
  obtain⟨v,y,rfl,r,q⟩:=h;exact fe.merge q (h'.put r)
def lD  (X:Cx)(t:Sg->Gp->(List (uc×U)->Gp->Prop)->KX->Prop)(f:List (TE×TE)):Prop:=
 ∀σ H ς G Q E (Q0:List (V×V)->Hp->Prop),SR X.K H ς σ->HR X.K H G->t ς G Q E->LX X σ H G E->
  (∀kvs (l:List (uc×V)) G' H',fe X.K H' kvs l->HR X.K H' G'->Fr H G H' G'->Q kvs G'->Q0 (l.map λj=>(kV j.1,j.2)) H')->Gu f σ H Q0
def WR      (I:Pn X pos j y xa)(hd:lD X t xa)(O:j.all (·.isSome)=ua)(hl:j.length=y.length)(h0:j≠[])
  (Z:j.length<=15):PE X (.Dict j y pos) (lE X λY G Q E=>t Y G (λkvs G1=>kvs.length<=15/\newO G1 (.dK (Hk kvs)) Q) E):=by
 refine(RW I O hl h0 Z).imp λσ H Q0 h p I=>?_;obtain⟨Y,G,Q,E,R,hG,h,lv,lx⟩:=h;have gp:=hG.nope I;refine hd σ _ Y G _ E _ (R.ts (TS.new I)) (hG.newH I) h (lx.fr (Fr.new I)) λkvs l G' H' r J f q=>?_;obtain⟨e,g⟩:=f p _ Hg gp;refine⟨e,l,rfl,by rw[<- r.length];exact q.1,?_⟩
 have ts:TS H' (upd H' p (.dK (Rm [] l))):=⟨λa xs h=>by
  have:a≠p:=λz=>by lia
  rw[Bd this];exact h,λa xs h=>by
  have:a≠p:=λz=>by lia
  rw[Bd this];exact h⟩
 refine lv (.loc p) (.ref p) (Ed G' p (.dK (Hk kvs))) _ rfl ⟨λa ob z=>?_,J.tab.upd (λps z=>by lia) λob z=>by lia⟩ ⟨λa o ha ga nt=>?_⟩ (q.2.at p g)
 ·by_cases F:a=p
  ·subst F;rw[Gf]at z;cases z;exact⟨_,Hg,(fe.merge r (kvs:=[]) (l:=[]) rfl).ts ts⟩
  ·rw[Uh F]at z;exact(J a ob z).keep (Bd F) ts
 ·have F:a≠p:=Ng ha I;obtain⟨x1,x2⟩:=f a o (by rw[Bd F];exact ha) ga nt
  exact⟨by rw[Bd F];exact x1,by rw[Uh F];exact x2⟩
def rT  : lD X (λ_ G Q _=>Q [] G) []:=λy H F G Q E z f j h lx q=>q [] [] G H rfl j (Fr.refl _ _) h
def PV {tk tv:UE}{t:Sg->Gp->(List (uc×U)->Gp->Prop)->KX->Prop}{J:List (TE×TE)}(hr:lD X t J):lD X (λj G Q E=>tk j G (λx Y=>tv j Y (λy G2=>match kU x with
   |some k=>t j G2 (λkvs R=>Q ((k,y)::kvs) R) E
   |none=>False) E) E) ((lE X tk,lE X tv)::J):=by
 intro σ H j G Q E Q0 f hG h lx q;refine⟨j,G,_,E,f,hG,h,λx v Y H1 rx F z h1=>?_,lx⟩;refine⟨j,Y,_,E,f.ts (z.ts hG),F,h1,λy v' G2 H2 ry I Z h2=>?_,lx.fr z⟩;dsimp only at h2;split at h2
 ·rename_i k ek;have:=Dk rx ek;subst this;refine hr σ H2 j G2 _ E _ ((f.ts (z.ts hG)).ts (Z.ts F)) I h2 (lx.fr (z.trans Z)) λkvs l R H3 r O f3 h3=>?_;exact q ((k,y)::kvs) ((k,v')::l) R H3 ⟨v',l,rfl,ry.ts (f3.ts I),r⟩ O ((z.trans Z).trans f3) h3
 lia
end
end Z

namespace L2
open PySem
end L2
namespace Z
open PySem L2
structure LD (X:Cx)(H:Hp)(G:Gp)(De:En)(D:Ends):Prop where
 nx:∀ς' σ' G' H',SR X.K H' ς' σ'->HR X.K H' G'->Fr H G H' G'->De.nx ς' G'->D.nx σ' H'
 rt:∀w v G' H',RU X.K H' w v->HR X.K H' G'->Fr H G H' G'->De.rt w G'->D.rt v H'
 ex:∀(pins:List (Ea×Obj)) (e:Da) (s':Fa) (x:XV) ς' σ' G' H',Qa X pins σ' H' s'->SR X.K H' ς' σ'->WM X H' s' e x->HR X.K H' G'->Fr H G H' G'->De.ex x ς' G'->X.xe e s'
abbrev US:=En->Sg->Gp->Prop
def lS  (X:Cx)(t:US):L2.TS:=λD q H=>∃f j G,SR X.K H j q/\HR X.K H G/\t f j G/\LD X H G f D

def LD.fr  {H1: Hp}(h:LD X H G I D)(f:Fr H G H1 G1):LD X H1 G1 I D:=
 ⟨λj q F z a b c=>h.nx j q F z a b (f.trans c),λw v F z a b c=>h.rt w v F z a b (f.trans c),λy e J x j q F z i a b c d=>h.ex y e J x j q F z i a b c (f.trans d)⟩
def LD.lx  (h:LD X H G F D)(y:SR X.K H z σ)(Y:HR X.K H G):LX X σ H G λx R=>F.ex x z R:=λj e J x G' Z I a O f q=>h.ex j e J x z σ G' Z I (y.ts (f.ts Y)) a O f q
def LD.here  (h:LD X H G z D)(f:SR X.K H j σ)(y:HR X.K H G)(q:z.nx j G):D.nx σ H:=h.nx j σ G H f y (Fr.refl _ _) q
def LD.with    (h:LD X H G F D)(J:∀j q y f,SR X.K f j q->HR X.K f y->Fr H G f y->k j y->z.nx q f)(I:z.rt=D.rt):LD X H G { F with nx:=k } z:=
 ⟨J,λw v y f a b c d=>by rw[I];exact h.rt w v y f a b c d,h.ex⟩
section
variable {X:Cx}{st:Va}{rest:List Va}{pos:Pos}{e:Na}{te:UE}{t u:US}
def s_nil  : Sf X [] (lS X λD j G=>D.nx j G):=uW.imp λD F H ⟨z,j,G,f,q,h,y⟩=>y.here f q h
def s_cons  (I:PS X st (lS X t))(R:Sf X rest (lS X u)):Sf X (st::rest) (lS X λD q G=>t { D with nx:=λf y=>u D f y } q G):=by
 refine(RX I R).imp λD Y H ⟨F,q,G,j,O,h,z⟩=>?_;exact⟨_,q,G,j,O,h,z.with (λf J y Z a b c d=>⟨F,f,y,a,b,d,z.fr c⟩) rfl⟩
def s_expr  (J:PE X e (lE X te))(hs:ij e Aa pos.line X.env=pure Ca):PS X (.Expr e pos) (lS X λD y G=>te y G (λ_ z=>D.nx y z) λx z=>D.ex x y z):=
 (tW J hs).imp λD R H ⟨De,y,G,j,F,h,I⟩=>⟨y,G,_,_,j,F,h,λw v Z Y _ O f q=>I.nx y R Z Y (j.ts (f.ts F)) O f q,I.lx j F⟩
def s_ret  (I:PE X e (lE X te)):PS X (.Return (ma e) pos) (lS X λD y G=>te y G D.rt λx O=>D.ex x y O):=
 (pU I).imp λD σ H ⟨Z,y,G,j,z,h,F⟩=>⟨y,G,_,_,j,z,h,λw v Y R r J f q=>F.rt w v Y R r J f q,F.lx j z⟩
def s_if     (Y:PT X c (lT X tc))(Z:Sf X a (lS X t))(hb:Sf X b (lS X u)):PS X (.If c a b pos) (lS X λD y G=>tc y G (λx z=>if x=ua then t D y z else u D y z) λx z=>D.ex x y z):=by
 refine(dS Y Z hb).imp λD σ H ⟨J,y,G,j,F,h,I⟩=>⟨y,G,_,_,j,F,h,λb R H' O f q=>?_,I.lx j F⟩;cases b with
 |true=>rw[if_pos rfl]at q ⊢;exact⟨J,y,R,j.ts (f.ts F),O,q,I.fr f⟩
 |false=>rw[if_neg Pd]at q ⊢;exact⟨J,y,R,j.ts (f.ts F),O,q,I.fr f⟩
def SV      (h:lS X (λD z G=>te z G (λu F=>Qc g u z λy=>D.nx y F) λx F=>D.ex x z F) D σ H) :
  lE X te σ H λx H1=>lG X.K (Qc g) x σ H1 D.nx:=by
 obtain⟨De,z,G,j,J,h,O⟩:=h;exact⟨z,G,_,_,j,J,h,λw v G' Z r R f q=>⟨w,z,_,r,j.ts (f.ts J),q,λy I Y hk=>O.nx y I G' Z Y R f hk⟩,O.lx j J⟩
def s_asg {f:Na}{g:Tg}(z:PE X e (lE X te))(J:PG X f (lG X.K (Qc g)))(hs:Vj [f] e pos.line X.env=pure Ca)(F:Ti [f] e X.env=pure Aa)
  (I:(Qg [f] X.env).map (·.2)=[Yc f X.env]):PS X (.Assign [f] e pos) (lS X λD y G=>te y G (λu j=>Qc g u y λq=>D.nx q j) λx j=>D.ex x y j):=
 (QE z J hs F I).imp λ_ _ _ h=>SV h
def s_lc            
  (hN:X.N.Nodup) (Y:X.N[i]?=ma y) (hy:X.env.scope.names.lookup y=ma .local) (hc:X.calm=ua) (S:CScope X N pick scope) (hw:PI X tg iter (lI X ti)) (hp:(Ue g).all (λi=>(pick[i]?).join.isNone)=ua)
  (hg:∀cl C s₀ H₀ F,PG (Tc X N scope cl C s₀ H₀ F) tg (lG X.K (Qc g))) (hi:∀cl C s₀ H₀ F,PIfs (Tc X N scope cl C s₀ H₀ F) ifs (ah X.K tc)) (he:∀cl C s₀ H₀ F,PE (Tc X N scope cl C s₀ H₀ F) elt (Qh X.K te))
  (O:ij (.ListComp elt [⟨tg,iter,ifs,0⟩] scope pos) (ma (.Name y py)) I.line X.env=pure ua) (hs:∀x,Cf iter X.env x=pure x) :
  PS X (.Assign [.Name y py] (.ListComp elt [⟨tg,iter,ifs,0⟩] scope pos) I) (lS X λD z G=>xz pick ti g tc te z G (λu R=>Qc (.n i) u z λJ=>D.nx J R) λx R=>D.ex x z R):=by
 refine(fS hN Y hy hc S hw hg hi he O hs).imp λD σ H h=>?_;obtain⟨De,z,G,j,Z,h,ld⟩:=h;exact mF hp ⟨z,G,_,_,j,Z,h,λw v G' H' r hr f q=>ld.nx _ _ G' H' ((j.ts (f.ts Z)).set r i) hr f q,ld.lx j Z⟩
def s_lc2                 
  (hN:X.N.Nodup) (ka:X.N[i]?=ma y) (hy:X.env.scope.names.lookup y=ma .local) (hc:X.calm=ua) (S:CScope X N pick scope) (hw:PI X tg iter (lI X ti)) (hp:(Ue g).all (λi=>(pick[i]?).join.isNone)=ua)
  (Y:(Ue t2).all (λi=>(pick[i]?).join.isNone)=ua) (za:(Ue t2).all (λi=>!(Ue g).contains i)=ua)
  (hg:∀cl C s₀ H₀ j,PG (Tc X N scope cl C s₀ H₀ j) tg (lG X.K (Qc g))) (hi:∀cl C s₀ H₀ j,PIfs (Tc X N scope cl C s₀ H₀ j) ifs (ah X.K tc)) (he:∀cl C s₀ H₀ j,PE (Tc X N scope cl C s₀ H₀ j) elt (Qh X.K te))
  (R:∀cl C s₀ H₀ j,PI (Tc X N scope cl C s₀ H₀ j) F O (Gm X.K wa)) (va:∀cl C s₀ H₀ j,PG (Tc X N scope cl C s₀ H₀ j) F (lG X.K (Qc t2))) (ja:∀cl C s₀ H₀ j,PIfs (Tc X N scope cl C s₀ H₀ j) f2 (ah X.K xa)) (ha:∀(env:Env) x,Cf O env x=pure x)
  (ya:ij (.ListComp elt [⟨tg,iter,ifs,0⟩,⟨F,O,f2,0⟩] scope pos) (ma (.Name y py)) J.line X.env=pure ua) (hs:∀x,Cf iter X.env x=pure x) :
  PS X (.Assign [.Name y py] (.ListComp elt [⟨tg,iter,ifs,0⟩,⟨F,O,f2,0⟩] scope pos) J) (lS X λD I G=>lc2D pick ti g tc wa t2 xa te I G (λu G1=>Qc (.n i) u I λZ=>D.nx Z G1) λx G1=>D.ex x I G1):=by
 refine(nU hN ka hy hc S hw hg hi he R va ja ha ya hs).imp λD σ H h=>?_;obtain⟨De,I,G,z,hG,h,ld⟩:=h;exact VF hp Y za ⟨I,G,_,_,z,hG,h,λw v G' H' r hr f q=>ld.nx _ _ G' H' ((z.ts (f.ts hG)).set r i) hr f q,ld.lx z hG⟩
def mE  : TSet:=λo i v H Q=>∃a f,o=.ref a/\DPut H a i v f/\Q f
def dY  (hu:X.A.units+1<Ec):PSet X mE:=by
 intro f s Y H o i v O Z u Q I j y F h;obtain⟨a,J,rfl,g,q⟩:=h;cases j;exact HX hu I g y F λR z=>⟨J,z,q⟩
def _root_.L2.PSet.or {t t':TSet}(h:PSet X t)(h':PSet X t'):PSet X λo i v H Q=>t o i v H Q\/t' o i v H Q:=by
 intro f s F H o i v z J u Q I j y O q;rcases q with q|q
 ·exact h f s F H o i v z J u Q I j y O q
 ·exact h' f s F H o i v z J u Q I j y O q
def EW       {Q0:Hp->Prop}(rx:RU X.K H x v)(R:RU X.K H y v')(I:RU X.K H w J)(f:HR X.K H G)(h:setU x y w G k)
  (q:∀Z Y,HR X.K Y Z->Fr H G Y Z->k Z->Q0 Y):nE v v' J H Q0\/mE v v' J H Q0:=by
 cases x with
 |loc a=>
  cases rx;unfold setU at h;dsimp only at h;split at h
  ·rename_i xs g;obtain⟨vs,e,z⟩:=f.lst g;cases y with
   |int i=>
    cases R;dsimp only at h;split at h
    ·rename_i j ej;refine .inl ⟨a,vs,i,j,rfl,rfl,e,by rw[<- z.length];exact ej,?_⟩
     exact q _ _ (f.write (mo':=.lst (xs.set j w)) g ⟨_,Hg,(z.set I j).ts (TS.write f g)⟩) (Fr.write g) h.at
    lia
   |_=>lia
  ·rename_i F g;obtain⟨l,e,z⟩:=f a _ g;split at h
   ·rename_i O ek;have:=Dk R ek;subst this;refine .inr ⟨a,_,rfl,DPut.k e (by rw[<- z.length];exact h.1),?_⟩
    exact q _ _ (f.write (mo':=.dK (dPut F O w)) g ⟨_,Hg,(z.put I).ts (TS.write f g)⟩) (Fr.write g) h.2.at
   lia
  ·rename_i F g;obtain⟨l,e,z⟩:=f a _ g;cases y with
   |tup ys=>
    obtain⟨b,ws,rfl,eb,rb⟩:=R;dsimp only at h;split at h
    ·rename_i O ek;have:=Ru rb ek;subst this;refine .inr ⟨a,_,rfl,DPut.t e eb (by rw[<- z.length];exact h.1),?_⟩
     exact q _ _ (f.write (mo':=.dT (dPut F O w)) g ⟨_,Hg,(z.put I).ts (TS.write f g)⟩) (Fr.write g) h.2.at
    lia
   |_=>lia
  lia
 |_=>exact h.elim
def s_set {o i:Na}{to ti:UE}{j:Pos}(hu:X.A.units+1<Ec)(he:PE X e (lE X te))(ho:PE X o (lE X to))(hi:PE X i (lE X ti))(hs:Vj [.Subscript o i j] e pos.line X.env=pure Ca)(hw:Ti [.Subscript o i j] e X.env=pure Aa)
  (h1:(Qg [.Subscript o i j] X.env).map (·.2)=[Yc (.Subscript o i j) X.env]) (ha:∀v,Yc (.Subscript o i j) X.env v=(do
   let ov <- Hc [v] (Lb o X.env)
   let iv <- Hc [v,ov] (Lb i X.env)
   Gd j
   Hc [v,ov,iv] (zj ov iv v)
   release [v,ov,iv] [])):PS X (.Assign [.Subscript o i j] e pos) (lS X λD z G=>te z G (λv R=>to z R (λx G2=>ti z G2 (λy G3=>setU x y v G3 λG4=>D.nx z G4) λx R=>D.ex x z R) λx R=>D.ex x z R) λx R=>D.ex x z R):=by
 refine(QE he (gU ho hi (PSet.or eY (dY hu)) ha) hs hw h1).imp λD σ H ⟨De,z,G,Y,hG,h,ld⟩=>?_;refine⟨z,G,_,_,Y,hG,h,λw v R H1 za O f1 h1=>?_,ld.lx Y hG⟩;have F:=Y.ts (f1.ts hG);refine⟨z,R,_,_,F,O,h1,λx vx G2 H2 rx I f2 h2=>?_,(ld.fr f1).lx F O⟩;have J:=F.ts (f2.ts O);refine⟨z,G2,_,_,J,I,h2,λy vy G3 H3 ry xa f3 h3=>?_,(ld.fr (f1.trans f2)).lx J I⟩;have Z:=J.ts (f3.ts I);exact EW (rx.ts (f3.ts I)) ry ((za.ts (f2.ts O)).ts (f3.ts I)) xa h3 λG' H' hr f q=>ld.nx z σ G' H' (Z.ts (f.ts xa)) hr (((f1.trans f2).trans f3).trans f) q
def U2  (X:Cx)(o:cn):Prop:=∃r:ux,XM X o r/\∀x y v j G H Q f,RU X.K H x v->RU X.K H y j->HR X.K H G->qu o x y G Q->LV X H G Q f->r v j H f
def aT   o:U2 X o:=by
 cases o with
 |Add=>
  refine⟨_,(Oc.or (yV (X:=X)) F0),λx y v F G H Q I f z q h j=>?_⟩;cases x<;>try exact h.elim
  ·cases y<;>try exact h.elim
   cases f;cases z;exact .inl ⟨_,_,rfl,rfl,j.int q h⟩
  ·cases y<;>try exact h.elim
   cases f;cases z;exact .inr ⟨_,_,rfl,rfl,h.1,j.str q h.2⟩
 |Sub=>
  refine⟨_,AV (X:=X),λx y v F G H Q I f z q h j=>?_⟩;cases x<;>try exact h.elim
  cases y<;>try exact h.elim
  cases f;cases z;exact⟨_,_,rfl,rfl,j.int q h⟩
 |Mult=>
  refine⟨_,zV (X:=X),λx y v F G H Q I f z q h j=>?_⟩;cases x<;>try exact h.elim
  cases y<;>try exact h.elim
  cases f;cases z;exact⟨_,_,rfl,rfl,h.1,j.int q h.2⟩
 |_=>exact⟨λ_ _ _ _=>False,λ_ _ _ _ _ _ _ _ _ _ _ _ h=>h.elim,λ_ _ _ _ _ _ _ _ _ _ _ h _=>h.elim⟩
def s_aug      (hN:X.N.Nodup)(hi:X.N[i]?=ma x)(hx:Tn X.env.scope x)(hf:X.fn x=ua\/X.env.scope.names.lookup x=ma .local)(he:PE X e (lE X te)) :
  PS X (.AugAssign (.Name x xa) o e pos) (lS X λD j G=>slot j i λx=>te j G (λy I=>qu o x y I λz Z=>D.nx (j.set i (ma z)) Z) λx I=>D.ex x j I):=by
 obtain⟨r,h1,h2⟩:=aT (X:=X) o;refine(lU hN hi hx he h1 hf).imp λD σ H ⟨De,j,G,f,J,h,ld⟩=>?_;dsimp only at h;unfold slot at h;split at h
 ·rename_i u eu;obtain⟨v,ev,ru⟩:=f.2 i u eu;refine⟨v,ev,j,G,_,_,f,J,h,λy vy I H1 ry F O h1=>?_,ld.lx f J⟩;exact h2 u y v vy I H1 _ _ (ru.ts (O.ts J)) ry F h1 λw vw Z H2 Y R f2 q=>ld.nx _ _ Z H2 (((f.ts (O.ts J)).ts (f2.ts F)).set Y i) R (O.trans f2) q
 lia
def _root_.L2.PGet.or {t t':V->V->Hp->VK->Prop}(h:PGet X t)(h':PGet X t'):PGet X λo i H Q=>t o i H Q\/t' o i H Q:=by
 intro f s F H o i z J Q I j y q;rcases q with q|q
 ·exact h f s F H o i z J Q I j y q
 ·exact h' f s F H o i z J Q I j y q
def s_par2        (hc:X.calm=ua)(hN:X.N.Nodup)(hi:X.N[i]?=ma x)(hj:X.N[j]?=ma y)(Z:i≠j)
  (hx:X.env.scope.names.lookup x=ma .local) (hy:X.env.scope.names.lookup y=ma .local) (ha:PA X [a,b] (lA X ts))
  (hw:Ti [.Tuple [.Name x px,.Name y py] kt pt] (.Tuple [a,b] k2 z) X.env=pure (ma [x,y])) (hs:Vj [.Tuple [.Name x px,.Name y py] kt pt] (.Tuple [a,b] k2 z) pos.line X.env=pure Ca) :
  PS X (.Assign [.Tuple [.Name x px,.Name y py] kt pt] (.Tuple [a,b] k2 z) pos) (lS X λD q G=>ts q G (λus F=>us.length=[i,j].length/\D.nx (([i,j].zip us).foldl (λs p=>s.set p.1 (ma p.2)) q) F) λx F=>D.ex x q F):=by
 refine(oU hc hN hi hj Z hx hy ha hw hs).imp λD σ H ⟨De,q,G,f,R,h,ld⟩=>?_;refine⟨q,G,_,_,f,R,h,λus vs F H1 J I f1 O=>?_,ld.lx f R⟩;obtain⟨O,Y⟩:=O
 match us,O,Y,J with
 |[u,w],_,Y,J=>
  obtain⟨v,v',rfl,r1,r2⟩:=J.two;exact⟨v,v',rfl,ld.nx _ _ F H1 (((f.ts (f1.ts R)).set r1 i).set r2 j) I f1 Y⟩
def s_for       (hp:Nk (Ia X.prog X.w) X.A X.env X.xe)(hc:X.calm=ua)(hi:PI X tg iter (lI X ti))(hg:PG X tg (lG X.K (Qc g)))(hb:Sf X body (lS X tb))
  (hs:∀x,Cf iter X.env x=pure x):PS X (.For tg iter body [] pos) (lS X λD ς G=>ti ς G (λxs ok G1=>forL ok (λx F I k=>Qc g x F λj=>tb { D with nx:=k } j I) xs ς G1 D.nx) λx G1=>D.ex x ς G1):=by
 refine(mU hp hc hi hg hb hs).imp λD σ H ⟨De,ς,G,R,hG,h,ld⟩=>?_;refine⟨ς,G,_,_,R,hG,h,λxs ok G1 H1 J ja f1 wk h1=>?_,ld.lx R hG⟩;refine⟨λi m xa H'=>m=xs.length-i/\i<=xs.length/\∃z O,SR X.K H' z xa/\HR X.K H' O/\Fr H1 G1 H' O/\forL ok (λx F I k=>Qc g x F λj=>tb { De with nx:=k } j I) (xs.drop i) z O De.nx,⟨xs.length,by simp,Mf _,ς,G1,R.ts (f1.ts hG),ja,Fr.refl _ _,by simp_all⟩,?_⟩
 rintro i m xa H' ⟨rfl,hi',z,O,sr,hr,f,hc'⟩;by_cases za:i<xs.length
 ·rw[xh za]at hc';obtain⟨Z,va⟩:=hc';obtain⟨w1,_⟩:=wk i H' O (f.ts ja) hr Z;obtain⟨go,yl⟩:=w1 xs[i] (by simp[za])
  refine .inr ⟨go,λY H2=>∃j I,SR X.K H2 j Y/\HR X.K H2 I/\Fr H1 G1 H2 I/\forL ok (λx F I k=>Qc g x F λj=>tb { De with nx:=k } j I) (xs.drop (i+1)) j I De.nx,λY H2 q=>⟨xs.length-(i+1),by lia,rfl,za,q⟩,λv ya y=>?_⟩
  obtain⟨rx,wa,f2⟩:=yl v ya y;refine⟨xs[i],z,_,rx,sr.ts (f2.ts hr),va,λj Y ka hk=>?_⟩;have f3:=(f1.trans f).trans f2;refine⟨_,j,O,ka,wa,hk,(ld.fr f3).with (λha xb G3 H3 a b c d=>⟨ha,G3,a,b,(f.trans f2).trans c,d⟩) rfl⟩
 ·have e:i=xs.length:=by lia
  subst e;rw[DC]at hc';obtain⟨Z,q⟩:=hc';exact .inl ⟨(wk xs.length H' O (f.ts ja) hr Z).2 rfl,ld.nx z xa O H' sr hr (f1.trans f) q⟩
def s_wh      (hp:Nk (Ia X.prog X.w) X.A X.env X.xe)(hc:PT X c (lT X tc))(hb:Sf X body (lS X tb)) :
  PS X (.While c body [] pos) (lS X λD ς G=>∃W:Nat->Sg->Gp->Prop,(∃m,W m ς G)/\∀m z G1,W m z G1->
   tc z G1 (λt G2=>if t=ua then tb { D with nx:=λj F=>∃I,I<m/\W I j F } z G2 else D.nx z G2) λx G1=>D.ex x z G1):=by
 refine(QX hp hc hb).imp λD σ H ⟨De,ς,G,xa,hG,h,ld⟩=>?_;obtain⟨W,⟨m0,w0⟩,Z⟩:=h;refine⟨λm J H'=>∃j F,SR X.K H' j J/\HR X.K H' F/\Fr H G H' F/\W m j F,⟨m0,ς,G,xa,hG,Fr.refl _ _,w0⟩,?_⟩;rintro m J H' ⟨j,F,sr,hr,f,w⟩;refine⟨j,F,_,_,sr,hr,Z m j F w,λb G2 H2 Y f2 q=>?_,(ld.fr f).lx sr hr⟩;cases b with
 |true=>
  rw[if_pos rfl]at q ⊢;refine⟨λR H3=>∃y O,SR X.K H3 y R/\HR X.K H3 O/\Fr H G H3 O/\∃I,I<m/\W I y O,λR H3 ⟨y,O,a,b,c,I,hm,w'⟩=>⟨I,hm,y,O,a,b,c,w'⟩,?_⟩;exact⟨_,j,G2,sr.ts (f2.ts hr),Y,q,(ld.fr (f.trans f2)).with (λy R O H3 a b c d=>⟨y,O,a,b,(f.trans f2).trans c,d⟩) rfl⟩
 |false=>
  rw[if_neg Pd]at q ⊢;exact ld.nx j J G2 H2 (sr.ts (f2.ts hr)) Y (f.trans f2) q
end
structure Pc where
 N:List Str
 sc:List (Str×Bg)
noncomputable def kd  (c:Pc)(x:Str)(k:Bg):Bool:=c.sc.lookup x==ma k
def oh  (c:Pc)(x:Str):Bool:=kd c x .globalImplicit && !(x==("__debug__" : Str))
noncomputable def qz  : Na->List Str
 |.Name x _=>[x]
 |_=>[]
def SN  : Na->List Str
 |.Tuple f _ _=>f.flatMap qz
 |e=>qz e
def Qz  : Na->List Str
 |.Tuple f _ _=>f.flatMap SN
 |e=>qz e
noncomputable def iG  : List String:=["bool", "int", "str", "list", "tuple", "dict"]
def cOkS  (c:Pc)(N:List Str)(pick:List (Option Nat))(scope:ue):Bool:=
 decide (scope.kind=.function)&&scope.names.all (λy=>y.2 != .cell||scope.names.lookup y.1==ma .cell)&&scope.names.all (λy=>y.2 != .local||scope.names.lookup y.1==ma .local)
  && scope.names.all (λy=>y.2 != .free||(scope.names.lookup y.1==ma .free&&(kd c y.1 .cell||kd c y.1 .free)))
  && pick.length==N.length&&(N.zip pick).all (λp=>match p.2 with|none=>ua|some j=>c.N[j]?==ma p.1&&scope.names.lookup p.1==ma .free)&&decide N.Nodup
noncomputable def Eu  : Na->Bool
 |.Call (.Name _ _) [] [] _=>Ca
 |_=>ua
noncomputable def e0  : Na:=.Name "" ⟨0,0,0,0⟩
def hd  : List Na->Na
 |[]=>e0
 |e::_=>e
def c0  : Na->Na
 |.BinOp l _ _ _=>l
 |.UnaryOp _ x _=>x
 |.IfExp t _ _ _=>t
 |.Compare l _ _ _=>l
 |.Subscript v _ _=>v
 |.Attribute v _ _=>v
 |.Call f _ _ _=>f
 |.ListComp e _ _ _=>e
 |.FormattedValue v _ _ _=>v
 |_=>e0
def c1  : Na->Na
 |.BinOp _ _ r _=>r
 |.IfExp _ b _ _=>b
 |.Subscript _ s _=>s
 |_=>e0
def c2  : Na->Na
 |.IfExp _ _ b _=>b
 |_=>e0
noncomputable def cl  : Na->List Na
 |.BoolOp _ f _=>f
 |.Compare _ _ f _=>f
 |.Call _ f _ _=>f
 |.List f _=>f
 |.Tuple f _ _=>f
 |.Dict _ f _=>f
 |.JoinedStr f _=>f
 |_=>[]
noncomputable def kk  : Na->Nat
 |.Constant _ k _=>k
 |.Tuple _ k _=>k
 |_=>0
def oe  : Option Na->Na
 |some e=>e
 |none=>e0
def dk  : Na->List Na
 |.Dict f _ _=>f.map oe
 |_=>[]
def gen1  : Na->ur
 |.ListComp _ (g::_) _ _=>g
 |_=>⟨e0,e0,[],0⟩
def gen2  : Na->ur
 |.ListComp _ (_::g::_) _ _=>g
 |_=>⟨e0,e0,[],0⟩
noncomputable def Rl  : Na->ue
 |.ListComp _ _ s _=>s
 |_=>⟨.module,[],Ca,Ca,[]⟩
def s0  : Na->Na
 |.Slice (ma e) _ _ _=>e
 |_=>e0
def s1  : Na->Na
 |.Slice _ (ma e) _ _=>e
 |_=>e0
def s2  : Na->Na
 |.Slice _ _ (ma e) _=>e
 |_=>e0
noncomputable def wg  (c:Pc)(i:Nat):Str:=c.N.getD i ""
noncomputable def zB  : Bool->PySem.BoolOp
 |true=>.And
 |false=>.Or
noncomputable def bh  : Es->Nat
 |.nil=>0
 |.cons _ f=>bh f+1
noncomputable def vq  : Jh->Nat
 |.nil=>0
 |.cons _ ts=>vq ts+1
noncomputable def CK  : Tg->Bool
 |.t _=>ua
 |.n _=>Ca
noncomputable def isLc  : E->Bool
 |.lc ..=>ua
 |.lc2 ..=>ua
 |_=>Ca
def cc  (c:Pc)(pick:List (Option Nat))(h:Na):Pc:=⟨Qz (gen1 h).target++(pick.filterMap id).filterMap (λj=>c.N[j]?),(Rl h).names⟩
def Vh  (c:Pc)(pick:List (Option Nat))(h:Na):Pc:=⟨Qz (gen1 h).target++Qz (gen2 h).target++(pick.filterMap id).filterMap (λj=>c.N[j]?),(Rl h).names⟩
mutual
noncomputable def unTg (c:Pc):Tg->Na->Na
 |.n i,h=>.Name (wg c i) h.pos
 |.t ts,h=>.Tuple (Bk c ts (cl h)) (kk h) h.pos
noncomputable def Bk (c:Pc):Jh->List Na->List Na
 |.nil,_=>[]
 |.cons t ts,hs=>unTg c t (hd hs)::Bk c ts hs.tail
end
def DD  (c:Pc)(i:Nat):Bool:=decide (i<c.N.length)&&(kd c (wg c i) .local||kd c (wg c i) .cell)
mutual
noncomputable def okTg (c:Pc):Tg->Bool
 |.n i=>DD c i
 |.t ts=>Az c ts
noncomputable def Az (c:Pc):Jh->Bool
 |.nil=>ua
 |.cons t ts=>okTg c t&&Az c ts
end
section
variable (T:Nf)
noncomputable def Qv (n:Nat):Str:=match T.funs[n]? with
 |some d=>d.name
 |none => ""
mutual
noncomputable def Gc (c:Pc):E->Na->Na
 |.v i,h=>.Name (wg c i) h.pos
 |.non,h=>.Constant .none (kk h) h.pos
 |.bl b,h=>.Constant (.bool b) (kk h) h.pos
 |.int i,h=>.Constant (.int i) (kk h) h.pos
 |.str x,h=>.Constant (.str x) (kk h) h.pos
 |.g n,h=>.Name (T.gn.getD n "") h.pos
 |.ty n,h=>.Name (pj n) h.pos
 |.bin o a b,h=>.BinOp (Gc c a (c0 h)) o (Gc c b (c1 h)) h.pos
 |.neg a,h=>.UnaryOp .USub (Gc c a (c0 h)) h.pos
 |.not a,h=>.UnaryOp .Not (Gc c a (c0 h)) h.pos
 |.bop k a es,h=>.BoolOp (zB k) (Gc c a (hd (cl h))::unEs c es (cl h).tail) h.pos
 |.cmp o a b,h=>.Compare (Gc c a (c0 h)) [o] [Gc c b (hd (cl h))] h.pos
 |.cmp2 o p a b d,h=>.Compare (Gc c a (c0 h)) [o,p] [Gc c b (hd (cl h)),Gc c d (hd (cl h).tail)] h.pos
 |.ife t a b,h=>.IfExp (Gc c t (c0 h)) (Gc c a (c1 h)) (Gc c b (c2 h)) h.pos
 |.tup es,h=>.Tuple (unEs c es (cl h)) (kk h) h.pos
 |.lst es,h=>.List (unEs c es (cl h)) h.pos
 |.dic es,h=>.Dict (ii c es (dk h)) (Zn c es (cl h)) h.pos
 |.ix a b,h=>.Subscript (Gc c a (c0 h)) (Gc c b (c1 h)) h.pos
 |.sl a lo hi,h=>.Subscript (Gc c a (c0 h)) (.Slice (Ix c lo (s0 (c1 h))) (Ix c hi (s1 (c1 h))) Aa (c1 h).pos) h.pos
 |.rev a b,h=>.Subscript (Gc c a (c0 h)) (.Slice Aa Aa (ma (Gc c b (s2 (c1 h)))) (c1 h).pos) h.pos
 |.call n es,h=>.Call (.Name (Qv T n) (c0 h).pos) (unEs c es (cl h)) [] h.pos
 |.blt b es,h=>.Call (.Name (bltN b) (c0 h).pos) (unEs c es (cl h)) [] h.pos
 |.meth m o es,h=>.Call (.Attribute (Gc c o (c0 (c0 h))) (mthN m) (c0 h).pos) (unEs c es (cl h)) [] h.pos
 |.lc pick t it ifs d,h=>.ListComp (Gc (cc c pick h) d (c0 h)) [⟨unTg (cc c pick h) t (gen1 h).target,unI c it (gen1 h).iter,unEs (cc c pick h) ifs (gen1 h).ifs,0⟩] (Rl h) h.pos
 |.lc2 pick t it ifs t2 it2 ifs2 d,h=>.ListComp (Gc (Vh c pick h) d (c0 h)) [⟨unTg (Vh c pick h) t (gen1 h).target,unI c it (gen1 h).iter,unEs (Vh c pick h) ifs (gen1 h).ifs,0⟩,⟨unTg (Vh c pick h) t2 (gen2 h).target,unI (Vh c pick h) it2 (gen2 h).iter,unEs (Vh c pick h) ifs2 (gen2 h).ifs,0⟩] (Rl h) h.pos
 |.sset d,h=>.Call (.Name "sorted" (c0 h).pos) [.Call (.Name "set" (c0 (hd (cl h))).pos) [Gc c d (hd (cl (hd (cl h))))] [] (hd (cl h)).pos] [] h.pos
 |.mkD d,h=>.Call (.Name "list" (c0 h).pos) [Gc c d (hd (cl h))] [] h.pos
 |.mkL d,h=>.Call (.Name "list" (c0 h).pos) [Gc c d (hd (cl h))] [] h.pos
 |.mkT d,h=>.Call (.Name "tuple" (c0 h).pos) [Gc c d (hd (cl h))] [] h.pos
noncomputable def Ix (c:Pc):Eo->Na->Option Na
 |.no,_=>Aa
 |.so d,h=>ma (Gc c d h)
noncomputable def unEs (c:Pc):Es->List Na->List Na
 |.nil,_=>[]
 |.cons d es,hs=>Gc c d (hd hs)::unEs c es hs.tail
noncomputable def ii (c:Pc):Es->List Na->List (Option Na)
 |.cons d (.cons _ es),hs=>ma (Gc c d (hd hs))::ii c es hs.tail
 |_,_=>[]
noncomputable def Zn (c:Pc):Es->List Na->List Na
 |.cons _ (.cons d es),hs=>Gc c d (hd hs)::Zn c es hs.tail
 |_,_=>[]
noncomputable def iN (c:Pc):Es->List Na->List Na
 |.nil,_=>[]
 |.cons d es,hs=>(match d with
  |.str x=>.Constant (.str x) (kk (hd hs)) (hd hs).pos
  |d=>.FormattedValue (Gc c d (c0 (hd hs))) (-1) Aa (hd hs).pos)::iN c es hs.tail
noncomputable def unI (c:Pc):It->Na->Na
 |.e d,h=>Gc c d h
 |.r1 d,h=>.Call (.Name "range" (c0 h).pos) [Gc c d (hd (cl h))] [] h.pos
 |.enum d,h=>.Call (.Name "enumerate" (c0 h).pos) [Gc c d (hd (cl h))] [] h.pos
 |.dv d,h=>.Call (.Attribute (Gc c d (c0 (c0 h))) "values" (c0 h).pos) [] [] h.pos
 |.di d,h=>.Call (.Attribute (Gc c d (c0 (c0 h))) "items" (c0 h).pos) [] [] h.pos
end
mutual
noncomputable def Zc (c:Pc):E->Na->Bool
 |.v i,_=>decide (i<c.N.length)&&(kd c (wg c i) .local||kd c (wg c i) .cell||kd c (wg c i) .free) && !(wg c i==("__debug__" : Str)) && !(wg c i==("__classdict__" : Str))
 |.non,_=>ua
 |.bl _,_=>ua
 |.int _,_=>ua
 |.str _,_=>ua
 |.g n,_=>decide (n<T.gs.length)&&decide (n<T.gn.length)&&oh c (T.gn.getD n "")
 |.ty n,_=>iG.contains n&&oh c (pj n)
 |.bin _ a b,h=>Zc c a (c0 h)&&Zc c b (c1 h)
 |.neg a,h=>Zc c a (c0 h)
 |.not a,h=>Zc c a (c0 h)
 |.bop _ a es,h=>Zc c a (hd (cl h))&&okEs c es (cl h).tail
 |.cmp o a b,h=>Zc c a (c0 h)&&Zc c b (hd (cl h)) && !behindInMarks o (Gc T c b (hd (cl h)))
 |.cmp2 o p a b d,h=>Zc c a (c0 h)&&Zc c b (hd (cl h))&&Zc c d (hd (cl h).tail) && !lastMarks [o,p] [Gc T c b (hd (cl h)),Gc T c d (hd (cl h).tail)]
 |.ife t a b,h=>Zc c t (c0 h)&&Zc c a (c1 h)&&Zc c b (c2 h)
 |.tup es,h=>okEs c es (cl h)
 |.lst es,h=>okEs c es (cl h)
 |.dic es,h=>Xx c es (dk h) (cl h)&&decide (bh es<=30)
 |.ix a b,h=>Zc c a (c0 h)&&Zc c b (c1 h)
 |.sl a lo hi,h=>Zc c a (c0 h)&&Wx c lo (s0 (c1 h))&&Wx c hi (s1 (c1 h))
 |.rev a b,h=>Zc c a (c0 h)&&Zc c b (s2 (c1 h))
 |.call n es,h=>decide (n<T.funs.length)&&oh c (Qv T n)&&okEs c es (cl h)
 |.blt b es,h=>decide (0<bh es)&&oh c (bltN b)&&okEs c es (cl h)
 |.meth _ o es,h=>Zc c o (c0 (c0 h))&&okEs c es (cl h)&&((c0 h).pos.endLine==h.pos.line)&&decide (bh es<30)&&Eu (Gc T c o (c0 (c0 h)))
 |.lc pick t it ifs d,h=>cOkS c (cc c pick h).N pick (Rl h)&&(Ue t).all (λi=>(pick[i]?).join.isNone)&&okTg (cc c pick h) t&&pq c t it (gen1 h).iter&&okEs (cc c pick h) ifs (gen1 h).ifs&&decide (bh ifs<=1)&&Zc (cc c pick h) d (c0 h)
 |.lc2 pick t it ifs t2 it2 ifs2 d,h=>cOkS c (Vh c pick h).N pick (Rl h)&&((Ue t).all (λi=>(pick[i]?).join.isNone)&&((Ue t2).all (λi=>(pick[i]?).join.isNone)&&((Ue t2).all (λi=>!(Ue t).contains i)&&(okTg (Vh c pick h) t&&(okTg (Vh c pick h) t2&&(pq c t it (gen1 h).iter&&(pq (Vh c pick h) t2 it2 (gen2 h).iter&&(okEs (Vh c pick h) ifs (gen1 h).ifs&&(okEs (Vh c pick h) ifs2 (gen2 h).ifs&&(decide (bh ifs<=1)&&(decide (bh ifs2<=1)&&Zc (Vh c pick h) d (c0 h))))))))))))
 |.sset d,h=>oh c "sorted" && oh c "set" && Zc c d (hd (cl (hd (cl h))))
 |.mkD d,h=>oh c "list" && Zc c d (hd (cl h))
 |.mkL d,h=>oh c "list" && Zc c d (hd (cl h))
 |.mkT d,h=>oh c "tuple" && Zc c d (hd (cl h))
noncomputable def Wx (c:Pc):Eo->Na->Bool
 |.no,_=>ua
 |.so d,h=>Zc c d h
noncomputable def okEs (c:Pc):Es->List Na->Bool
 |.nil,_=>ua
 |.cons d es,hs=>Zc c d (hd hs)&&okEs c es hs.tail
noncomputable def Xx (c:Pc):Es->List Na->List Na->Bool
 |.nil,_,_=>ua
 |.cons d (.cons f es),hs,gs=>Zc c d (hd hs)&&Zc c f (hd gs)&&Xx c es hs.tail gs.tail
 |.cons _ .nil,_,_=>Ca
noncomputable def NN (c:Pc):Es->List Na->Bool
 |.nil,_=>ua
 |.cons d es,hs=>(match d with
  |.str x=>decide (x.length<=10000)
  |d=>Zc c d (c0 (hd hs)))&&NN c es hs.tail
noncomputable def pq (c:Pc)(t:Tg):It->Na->Bool
 |.e d,h=>Zc c d h
 |.r1 d,h=>oh c "range" && Zc c d (hd (cl h))
 |.enum d,h=>CK t&&oh c "enumerate" && Zc c d (hd (cl h))
 |.dv d,h=>Zc c d (c0 (c0 h))&&((c0 h).pos.endLine==h.pos.line)&&Eu (Gc T c d (c0 (c0 h)))
 |.di d,h=>CK t&&Zc c d (c0 (c0 h))&&((c0 h).pos.endLine==h.pos.line)&&Eu (Gc T c d (c0 (c0 h)))
end
noncomputable def YE  (ts:List Na):Nat:=(ts.head?.map (·.pos.line)).getD 0
def zf  (c:Pc)(ts:List Na):List Str:=ts.filterMap fun
  |.Name j f=>if c.sc.lookup j==ma .local&&f.line==YE ts then ma j else Aa
  |_=>Aa
noncomputable def Qu  : Na->Bool
 |.Starred ..=>ua
 |_=>Ca
def swapped  (c:Pc)(ts vs:List Na):Bool:=
 (ts.length==2||ts.length==3)&&vs.length==ts.length && !(vs.any Qu)&&(zf c ts).length==ts.length&&(zf c ts).eraseDups.length==(zf c ts).length && !(vs.all (MB 8)) && !(vs.all (constantsAlone 8))
def SA  (c:Pc)(ts vs:List Na):Bool:=
 !(ts.length==2||ts.length==3)||vs.length != ts.length||(!(vs.any Qu)&&((zf c ts).length != ts.length||(zf c ts).eraseDups.length != (zf c ts).length||vs.all (MB 8)))
noncomputable def lcSw  (c:Pc)(y:Str)(f p:Pos)(s:ue):Bool:=c.sc.lookup y==ma .local&&f.line==p.line && !(s.names.any λ(n,k)=>n==y&&(k == .local||k == .cell))
def q0  : Va->Na
 |.Expr e _=>e
 |.Assign _ e _=>e
 |.Return (ma e) _=>e
 |.AugAssign _ _ e _=>e
 |.If e _ _ _=>e
 |.While e _ _ _=>e
 |.For _ e _ _ _=>e
 |_=>e0
def q1  : Va->Na
 |.Assign (t::_) _ _=>t
 |.AugAssign t _ _ _=>t
 |.For t _ _ _ _=>t
 |_=>e0
noncomputable def qa  : Va->List Va
 |.Try a _ _ _ _=>a
 |.If _ a _ _=>a
 |.While _ a _ _=>a
 |.For _ _ a _ _=>a
 |_=>[]
noncomputable def qb  : Va->List Va
 |.If _ _ b _=>b
 |_=>[]
noncomputable def qh  : List Va->Va
 |[]=>.Pass ⟨0,0,0,0⟩
 |s::_=>s
noncomputable def unNs  (c:Pc):List Nat->List Na->List Na
 |[],_=>[]
 |i::is,hs=>.Name (wg c i) (hd hs).pos::unNs c is hs.tail
section
variable (c:Pc)(n:Nat)
end
section
variable (cs:List Nat)(c:Pc)
end
mutual
noncomputable def aq (c:Pc):S->Va->Va
 |.expr d,h=>.Expr (Gc T c d (q0 h)) h.pos
 |.asg t d,h=>.Assign [unTg c t (q1 h)] (Gc T c d (q0 h)) h.pos
 |.asgC i d,h=>.Assign [.Name (wg c i) (q1 h).pos] (Gc T c d (q0 h)) h.pos
 |.setS o i d,h=>.Assign [.Subscript (Gc T c o (c0 (q1 h))) (Gc T c i (c1 (q1 h))) (q1 h).pos] (Gc T c d (q0 h)) h.pos
 |.par is es,h=>.Assign [.Tuple (unNs c is (cl (q1 h))) (kk (q1 h)) (q1 h).pos] (.Tuple (unEs T c es (cl (q0 h))) (kk (q0 h)) (q0 h).pos) h.pos
 |.aug i o d,h=>.AugAssign (.Name (wg c i) (q1 h).pos) o (Gc T c d (q0 h)) h.pos
 |.ite t a b,h=>.If (Gc T c t (q0 h)) (unSs c a (qa h)) (unSs c b (qb h)) h.pos
 |.fr t it b,h=>.For (unTg c t (q1 h)) (unI T c it (q0 h)) (unSs c b (qa h)) [] h.pos
 |.wh t b,h=>.While (Gc T c t (q0 h)) (unSs c b (qa h)) [] h.pos
 |.ret d,h=>.Return (ma (Gc T c d (q0 h))) h.pos
 |.never,h=>h
noncomputable def unSs (c:Pc):Ss->List Va->List Va
 |.nil,_=>[]
 |.cons s r,hs=>aq c s (qh hs)::unSs c r hs.tail
end
def ON (c:Pc):Tg->E->Va->Bool
 |.n i,.lc ..,_=>!(kd c (wg c i) .local)
 |.n i,.lc2 ..,_=>!(kd c (wg c i) .local)
 |.t _,.lc ..,_=>Ca
 |.t _,.lc2 ..,_=>Ca
 |.t ts,.tup es,h=>SA c (Bk c ts (cl (q1 h))) (unEs T c es (cl (q0 h)))
 |_,_,_=>ua
noncomputable def okNs  (c:Pc):List Nat->Bool
 |[]=>ua
 |i::is=>decide (i<c.N.length)&&kd c (wg c i) .local && !(is.contains i)&&okNs c is
mutual
noncomputable def oq (c:Pc):S->Va->Bool
 |.expr d,h=>Zc T c d (q0 h) && !isLc d
 |.asg t d,h=>Zc T c d (q0 h)&&okTg c t&&ON T c t d h
 |.asgC i d,h=>isLc d&&Zc T c d (q0 h)&&decide (i<c.N.length)&&lcSw c (wg c i) (q1 h).pos (q0 h).pos (Rl (q0 h))
 |.setS o i d,h=>Zc T c d (q0 h)&&Zc T c o (c0 (q1 h))&&Zc T c i (c1 (q1 h))
 |.par is es,h=>okEs T c es (cl (q0 h))&&okNs c is&&swapped c (unNs c is (cl (q1 h))) (unEs T c es (cl (q0 h)))&&decide (is.length=2)
 |.aug i _ d,h=>DD c i&&Zc T c d (q0 h)
 |.ite t a b,h=>Zc T c t (q0 h)&&okSs c a (qa h)&&okSs c b (qb h)
 |.fr t it b,h=>okTg c t&&pq T c t it (q0 h)&&okSs c b (qa h)
 |.wh t b,h=>Zc T c t (q0 h)&&okSs c b (qa h)
 |.ret d,h=>Zc T c d (q0 h)
 |.never,_=>ua
noncomputable def okSs (c:Pc):Ss->List Va->Bool
 |.nil,_=>ua
 |.cons s r,hs=>oq c s (qh hs)&&okSs c r hs.tail
end
end
def cj  (K:Sb)(t:List U->Gp->K1->KX->Prop):Sp:=λF H z E0=>∃q G Q E,Vb K H q F/\HR K H G/\t q G Q E/\(∀w v j f,RU K f w v->HR K f j->Fr H G f j->Q w j->z v f)/\
 ∀x j f C y,XD K f C y x->HR K f j->Fr H G f j->E x j->E0 (.ref C) (ma y) f
def eN  (P:Ab)(w:Za)(K:Sb)(mg:Str->Option Da)(base:Cb)(k:Nat)(d:Fun)(t:List U->Gp->K1->KX->Prop):Prop:=
 ∃(f:Ea) (fd:Vo),FnOk P w K mg base (Eg P w) (k+2) f fd d.ps (cj K t)/\mg d.name=ma (.ref f)/\Cr K (.ref f)=ua/\Binds K fd d.ps []
noncomputable def Gk  : List Str:=["len", "repr", "min", "max", "sum", "all", "any", "sorted", "int", "str", "isinstance", "range", "enumerate", "list", "tuple", "bool", "dict", "ValueError", "set", "zip"]
structure Cok (T:Nf)(k:Nat)(X:Cx)(c:Pc):Prop where
 hN:X.N=c.N
 nd:c.N.Nodup
 loc:∀x,kd c x .local=ua->X.env.scope.names.lookup x=ma .local
 cel:∀x,kd c x .cell=ua->X.env.scope.names.lookup x=ma .cell/\X.fn x=ua
 fre:∀x,kd c x .free=ua->X.env.scope.names.lookup x=ma .cell\/X.env.scope.names.lookup x=ma .free
 glb:∀x,kd c x .globalImplicit=ua->Gl X x
 room:Room k X.A
 calm:X.calm=ua
 po:Nk (Ia X.prog X.w) X.A X.env X.xe
 blt:∀x∈Gk,X.mg x=Aa
 fns:∀(n:Nat) (d:Fun),T.funs[n]?=ma d->eN X.prog X.w X.K X.mg X.base k d (Ob T k n)
 gls:∀(n:Nat) (x:Str) (u:U),T.gn[n]?=ma x->T.gs[n]?=ma u->∃v w,X.mg x=ma w/\RelV v w/\∀H,RU X.K H u v
 room2:Room (k+2) X.A
 cls:∀n∈T.cs,1<=n->∃C,XCls X.K (gK X.K) (clsN n) (clsF n) C
 mgK:∀x v,gK X.K x=ma v->X.mg x=ma v
structure jk (T:Nf)(k:Nat)(X:Cx)(c:Pc):Prop extends Cok T k X c where
 sc:X.env.scope.names=c.sc
 kind:X.env.scope.kind=.function
 stk:X.stack=X.env::X.outer/\X.env.frame=ma X.env.locals
section
variable {T:Nf}{k:Nat}{X:Cx}{c:Pc}
def Cok.hu  (h:Cok T k X c):X.A.units+1<Ec:=NP h.room
def Cok.vis  (h:Cok T k X c)(v:(kd c x .local||kd c x .cell||kd c x .free)=ua):Ps X.env.scope x:=by
 simp only[Dr]at v;rcases v with(v|v)|v
 ·exact .inl (h.loc x v)
 ·exact .inr (.inl (h.cel x v).1)
 ·rcases h.fre x v with z|z
  ·exact .inr (.inl z)
  ·exact .inr (.inr z)
def Cok.store  (h:Cok T k X c)(v:(kd c x .local||kd c x .cell)=ua):Tn X.env.scope x/\(X.fn x=ua\/X.env.scope.names.lookup x=ma .local):=by
 simp only[Dr]at v;rcases v with v|v
 ·exact⟨.inl (h.loc x v),.inr (h.loc x v)⟩
 ·exact⟨.inr (h.cel x v).1,.inl (h.cel x v).2⟩
def Cok.gl  (h:Cok T k X c)(v:oh c x=ua):Gl X x/\(x==("__debug__" : Str))=Ca:=by
 unfold oh at v;rw[Kf]at v;exact⟨h.glb x v.1,by lia⟩
end
noncomputable def wq  : Na->Bool
 |.BoolOp ..|.BinOp ..|.UnaryOp ..|.IfExp ..|.Dict ..|.ListComp ..|.Compare ..|.Call ..|.Constant ..|.Subscript ..|.Name ..|.List ..|.Tuple ..|.JoinedStr ..=>ua
 |_=>Ca
section
variable {T:Nf}{c:Pc}
def lh   ir h:wq (Gc T c ir h)=ua:=by cases ir<;>rfl
def Ki   (h:wq e=ua) es env:Kd (e::es) env=(Ca,Lb e env)::Kd es env:=by
 cases e<;>first|rfl|cases h
def uV   (h:wq e=ua):fA e:=by
 intro o i;cases e<;>first|rfl|cases h
def HH   (h:wq e=ua) env:∀x,Cf e env x=pure x:=by
 intro x;cases e<;>first|rfl|cases h
def Gq   it h env:∀x,Cf (unI T c it h) env x=pure x:=by
 cases it with
 |e d=>exact HH (lh d _) env
 |_=>exact λ_=>rfl
def eX   (h:wq i=ua) env tpos:∀v,Yc (.Subscript o i tpos) env v=(Hc [v] (Lb o env) >>= λa=>Hc [v,a] (Lb i env) >>= λb=>Gd tpos >>= λ_=>Hc [v,a,b] (zj a b v) >>= λ_=>release [v,a,b] []):=by
 intro v;cases i<;>first|rfl|cases h
def iW   (q:isLc f=Ca) h env l:ij (Gc T c f h) Aa l env=pure Ca:=by
 cases f<;>first|rfl|cases q
def kW   (q:isLc f=Ca) h tg env l:Vj [tg] (Gc T c f h) l env=pure Ca:=by
 cases f<;>first|rfl|cases q
def cF   ir h x y p env l:Vj [.Subscript x y p] (Gc T c ir h) l env=pure Ca/\Ti [.Subscript x y p] (Gc T c ir h) env=pure Aa:=by
 cases ir<;>exact⟨rfl,rfl⟩
def lR   ir h x p env:Ti [.Name x p] (Gc T c ir h) env=pure Aa:=by
 cases ir<;>rfl
def jW   t h env:(Qg [unTg c t h] env).map (·.2)=[Yc (unTg c t h) env]:=by
 cases t<;>rfl
def Wu   (h:Eu o=ua) m env w:Uj o m env w=w:=by
 unfold Uj;split
 ·cases h
 ·rfl
theorem Hq  : ∀f hs env pos ,(Xc pos (Kd (unEs T c f hs) env)).any (·.1)=Ca/\(Xc pos (Kd (unEs T c f hs) env)).all (λx=>!x.1)=ua
 |.nil,_,_,_=>⟨rfl,rfl⟩
 |.cons d f,hs,env,pos=>by
  obtain⟨j,q⟩:=Hq f hs.tail env pos;show(Xc pos (Kd (Gc T c d (hd hs)::unEs T c f hs.tail) env)).any (·.1)=Ca/\(Xc pos (Kd (Gc T c d (hd hs)::unEs T c f hs.tail) env)).all (λx=>!x.1)=ua;rw[Ki (lh d _)];exact⟨by show(Ca||(Xc pos (Kd (unEs T c f hs.tail) env)).any (·.1))=Ca;lia,by show(!false&&(Xc pos (Kd (unEs T c f hs.tail) env)).all (λx=>!x.1))=ua;lia⟩
theorem Mz  : ∀f hs ,(unEs T c f hs).length=bh f
 |.nil,_=>rfl
 |.cons _ f,hs=>congrArg (·+ 1) (Mz f hs.tail)
def ba   (h:(a&&b)=ua):a=ua/\b=ua:=by lia
def bn   (h:(!a)=ua):a=Ca:=by lia
def ZP   (h:decide (i<c.N.length)=ua):c.N[i]?=ma (wg c i):=by
 unfold wg
 simp_all
end
theorem fG  : ∀{ts } {us } {j } {k },tgsU ts us j k->us.length=vq ts
 |.nil,us,j,k,h=>by rw[h.1];rfl
 |.cons t ts,us,j,k,h=>by
  cases us with
  |nil=>exact h.elim
  |cons u r=>
   have:∃f,tgsU ts r f k:=tg_some h;obtain⟨f,q⟩:=this;show r.length+1=vq ts+1;rw[fG q]
where
 tg_some {t:Tg} {u:U} {ς:Sg} {P:Sg->Prop} (h:Qc t u ς P):∃ς',P ς':=by
  have:=Fq (k':=λ_=>∃ς',P ς') h λς' h'=>⟨ς',h'⟩;exact tg_const this
 tg_const:∀{t:Tg} {u:U} {ς:Sg} {P:Prop},Qc t u ς (λ_=>P)->P
  |.n _,_,_,_,h=>h
  |.t ts,u,ς,P,h=>by
   cases u with
   |tup us=>exact tgs_const (ts:=ts) (us:=us) h
   |_=>exact h.elim
 tgs_const:∀{ts:Jh} {us:List U} {ς:Sg} {P:Prop},tgsU ts us ς (λ_=>P)->P
  |.nil,_,_,_,h=>h.2
  |.cons t ts,us,ς,P,h=>by
   cases us with
   |nil=>exact h.elim
   |cons u r=>exact tg_const (Fq (t:=t) h λς' h'=>tgs_const h')
section
variable {T:Nf}{k:Nat}{X:Cx}{c:Pc}
theorem Rz  : ∀ts hs env ,(Qg (Bk c ts hs) env).length=vq ts/\(Qg (Bk c ts hs) env).findIdx? (·.1)=Aa
 |.nil,_,_=>⟨rfl,rfl⟩
 |.cons t ts,hs,env=>by
  obtain⟨f,j⟩:=Rz ts hs.tail env;have e:Qg (Bk c (.cons t ts) hs) env=(Ca,Yc (unTg c t (hd hs)) env)::Qg (Bk c ts hs.tail) env:=by cases t<;>rfl
  rw[e];exact⟨by simp[f,vq],by simp_all⟩
def Cok.nm   (C:Cok T k X c)(h:decide (i<c.N.length)=ua):X.N[i]?=ma (wg c i):=by rw[C.hN];exact ZP h
mutual
theorem Ej (C:Cok T k X c):∀(t:Tg) (h:Na),okTg c t=ua->PG X (unTg c t h) (lG X.K (Qc t))
 |.n _,_,q=>let s:=C.store (ba q).2;u_tn (by rw[C.hN];exact C.nd) (C.nm (ba q).1) s.1 s.2
 |.t ts,h,q=>u_tt C.calm (sTgs C ts (cl h) q) (Rz ts _ X.env).1 (Rz ts _ X.env).2 λf j k q=>fG q
theorem sTgs (C:Cok T k X c):∀(ts:Jh) (hs:List Na),Az c ts=ua->Di X (Bk c ts hs) (qq X.K (tgsU ts))
 |.nil,_,_=>iR
 |.cons t ts,hs,q=>gR (Ej C t (hd hs) (ba q).1) (sTgs C ts hs.tail (ba q).2) (by cases t<;>rfl)
end
def EB  (X:Cx)(y:St):XK:=λj z q=>∀(f:List (Ea×Obj)) (ea:Ea) (s':Fa),Qa X f y q s'->Lies X.s₀.heap.objs.size X.pn q s'.heap ea j z->X.xe (.ref ea) s'
def JF        {J:St}(F:FnOk X.prog X.w X.K X.mg X.base (Eg X.prog X.w) j f fd ps sp)(hr:Room j X.A)(hb:Binds X.K fd ps [])
  (I:Qa X pins J H s) (r:Vals vs us) (h:sp vs H Q (EB X J)):wpAny (Ia X.prog X.w) X.A (call (.ref f) us) (EP X pins J Q) X.xe s:=by
 have O:(us++[]).length=ps.length:=by rw[xi,<- r.length];exact F.len _ _ _ _ h
 have z:=hb s us I.kIn O;rw[xi]at z;refine wpAny_call (nn (F.run X.A X.stack s H ⟨us,[]⟩ us vs Q (EB X J) hr I.env0 z r h) λr Y y=>?_);cases r with
 |error e=>
  obtain⟨R,H',xa,dx,rfl,Z,l,q⟩:=Eg.back I y;exact q pins R Y Z l
 |ok fl=>
  cases fl with
  |ret u=>exact I.after y
  |next=>exact xp y
  |brk=>exact xp y
  |cont=>exact xp y
def sG         {E:KX}(r:Vb X.K H us vs)(O:HR X.K H G)(h:Ob T k n us G Q E)(J:LV X H G Q Q0)(lx:LX X σ H G E):cj X.K (Ob T k n) vs H Q0 (EB X σ):=
 ⟨us,G,Q,E,r,O,h,J,λx G' Z C Y R I f q j y z F l=>lx j (.ref y) z x G' Z F ⟨y,C,Y,rfl,l,R⟩ I f q⟩
def VT         (C:Cok T k X c)(hd:T.funs[n]?=ma d)(hx:d.name=x)(hg:oh c x=ua)(ha:PA X (e::es) (lA X ts))
  (he:Kd (e::es) X.env=(Ca,Lb e X.env)::Kd es X.env) (z:(Xc pos (Kd es X.env)).any (·.1)=Ca) :
  PE X (.Call (.Name x p) (e::es) [] pos) (lE X λy G Q E=>ts y G (λus G1=>Ob T k n us G1 Q E) E):=by
 obtain⟨f,fd,F,Z,hk,hb⟩:=C.fns n d hd;obtain⟨g1,g2⟩:=C.gl hg;rw[hx]at Z;intro j s O H Q0 I ⟨y,G,Q,E,hς,hG,h,lv,lx⟩;refine Rr (dA I g1 Z ?_ g2);have h':lA X ts O H λR H1=>cj X.K (Ob T k n) R H1 Q0 (EB X O):=⟨y,G,_,E,hς,hG,h,λus R G1 H1 rs J Y h1=>sG rs J h1 (lv.fr Y) (lx.fr Y),lx⟩;refine PySem.W.callWith_K (h₀:=X.base) I.ok.mod.kin hk (Wb (ha pos j s O H _ I h') λus s1 ⟨R,H1,I1,r,q⟩=>⟨I1.kIn,?_⟩) he z;exact JF F C.room2 hb I1 r q
def eW      (C:Cok T k X c)(hd:T.funs[n]?=ma d)(R:d.name=x)(z:oh c x=ua) :
  PE X (.Call (.Name x p) [] [] pos) (lE X λ_ G Q E=>Ob T k n [] G Q E):=by
 obtain⟨f,fd,F,j,hk,O⟩:=C.fns n d hd;obtain⟨J,y⟩:=C.gl z;rw[R]at j;intro q s Z H Y I ⟨ς,G,Q,E,hς,hG,h,lv,lx⟩;refine Rr (dA I J j ?_ y);exact PySem.W.callWith_K0 I.kIn hk (JF (us:=[]) (vs:=[]) F C.room2 O I .nil (sG (show Vb X.K H [] []from rfl) hG h lv lx))
def Cok.comp     (C:Cok T k X c)(h:cOkS c N pick scope=ua):CScope X N pick scope/\∀cl A s₀ H₀ F,Cok T k (Tc X N scope cl A s₀ H₀ F) ⟨N,scope.names⟩:=by
 unfold cOkS at h;simp only[Kf,decide_eq_true_eq]at h;obtain⟨⟨⟨⟨⟨⟨Y,h2⟩,h3⟩,h4⟩,h5⟩,O⟩,I⟩:=h;have f:∀y∈scope.names,y.2=.cell->scope.names.lookup y.1=ma .cell:=λy q hc=>by
  grind
 refine⟨⟨Y,f,λy q hl=>?_,λy q Z=>?_,by lia,λi j x e1 R=>?_⟩,λcl A s₀ H₀ F=>?_⟩
 ·grind
 ·have:=Mi.mp h4 y q;rw[Z]at this;simp only[bne_self_eq_false,rC,Kf,Dr,beq_iff_eq]at this;refine⟨this.1,?_⟩;rcases this.2 with z|z
  ·exact .inl (C.cel _ z).1
  ·exact C.fre _ z
 ·have J:(N.zip pick)[i]?=ma (x,ma j):=by rw[mC];exact⟨e1,R⟩
  have:=Mi.mp O _ (Vc J);rw[C.hN]
  lia
 ·refine⟨rfl,I,λx z=>?_,λx z=>?_,λx z=>?_,λx z=>?_,C.room,C.calm,Nk.never,C.blt,C.fns,C.gls,C.room2,C.cls,C.mgK⟩
  ·exact rB (by decide) (eq_of_beq z)
  ·exact⟨rB (by decide) (eq_of_beq z),z⟩
  ·exact YJ (eq_of_beq z)
  ·exact j2 (eq_of_beq z)
end
end Z

namespace Z
open PySem L2


structure zx (X:Cx)(n:Nat)(ea C dx:Ea)(x:XV)(σ:St)(H:Hp)(ς:Sg)(G:Gp):Prop where
 sr:SR X.K H ς σ
 hr:HR X.K H G
 en:σ[n]?=ma (ma (.ref ea))
 xd:XD X.K H C dx x
def hB  (X:Cx)(n:Nat)(y C F:Ea)(x:XV)(f:Sg->Option Bool):TE:=λz H Q=>∃q G b,zx X n y C F x z H q G/\f q=ma b/\∀j,HR X.K j G->Fr H G j G->Q (.bl b) j
def hT  (X:Cx)(n:Nat)(y C F:Ea)(x:XV)(f:Sg->Option Bool):TT:=λz H Q=>∃q G b,zx X n y C F x z H q G/\f q=ma b/\∀j,HR X.K j G->Fr H G j G->Q b j

def hS  (X:Cx)(n:Nat)(z C F:Ea)(x:XV)(hs:List HS):L2.TS:=λD J H=>∃I G k,zx X n z C F x J H I G/\Ov x hs I G k/\∀f j y q,zx X n z C F x j q f y->Fr H G q y->k f y->D.nx j q

section
variable {T:Nf}{k:Nat}
def SU   b:bltN b∈Gk:=by cases b<;>decide
def QT  : ∀n∈iG,Rj (pj n)=ma (.type n)/\pj n∈Gk/\pj n ≠ "__name__" := by decide +kernel
abbrev SE  (T:Nf)(k:Nat)(X:Cx)(c:Pc)(f:E)(h:Na):Prop:=PE X (Gc T c f h) (lE X (Wa T.gs (Ob T k) f).1)/\PT X (Gc T c f h) (lT X (Wa T.gs (Ob T k) f).2)
section
variable {X:Cx}{c:Pc}
def xf    (h:PE X e (lE X t))(j:∀f,Uf e X.env f=(do let v <- f;Gd e.pos;Hc [v] (truthy v))):PE X e (lE X t)/\PT X e (lT X (truT t)):=⟨h,fR h j⟩
def yU   {rest:List Na}(f:PE X a (lE X p.1)/\PT X a (lT X p.2))(j:PE X (.BoolOp .And (b::rest) pos) (lE X q.1)/\PW X (.BoolOp .And (b::rest) pos) (lT X q.2)) :
  PE X (.BoolOp .And (a::b::rest) pos) (lE X (comb ua p q).1)/\PW X (.BoolOp .And (a::b::rest) pos) (lT X (comb ua p q).2):=⟨QR f.1 j.1,RT f.2 j.2⟩
def BR   {rest:List Na}(f:PE X a (lE X p.1)/\PT X a (lT X p.2))(j:PE X (.BoolOp .Or (b::rest) pos) (lE X q.1)/\PW X (.BoolOp .Or (b::rest) pos) (lT X q.2)) :
  PE X (.BoolOp .Or (a::b::rest) pos) (lE X (comb Ca p q).1)/\PW X (.BoolOp .Or (a::b::rest) pos) (lT X (comb Ca p q).2):=⟨u_or f.1 j.1,dR f.2 j.2⟩
def se_v    (C:Cok T k X c)(q:Zc T c (.v i) h=ua):SE T k X c (.v i) h:=xf (kR (C.nm (ba (ba (ba q).1).1).1) (C.vis (ba (ba (ba q).1).1).2) (bn (ba (ba q).1).2) (bn (ba q).2)) λ_=>rfl
def se_g    (C:Cok T k X c)(q:Zc T c (.g n) h=ua):SE T k X c (.g n) h:=by
 have j:=of_decide_eq_true (ba (ba q).1).1;have h2:=of_decide_eq_true (ba (ba q).1).2;have y:T.gn[n]?=ma (T.gn.getD n ""):=by simp_all
 obtain⟨v,w,m,r,F⟩:=C.gls n _ T.gs[n] y (by simp[j])
 obtain⟨I,Y⟩:=C.gl (ba q).2;refine xf (PE.imp (u_gl (u:=T.gs[n]) I m r F Y) λσ H Z ⟨R,G,Q,E,f,O,h,z,lx⟩=>⟨R,G,Q,E,f,O,?_,z,lx⟩) λ_=>rfl;have J:Vq T.gs n λu=>Q u G:=h;unfold Vq at J
 simp_all
def DR    (C:Cok T k X c)(q:Zc T c (.ty n) h=ua):SE T k X c (.ty n) h:=by
 obtain⟨f,j⟩:=C.gl (ba q).2;obtain⟨t1,t2,y⟩:=QT n (by simpa using (ba q).1)
 exact xf (u_ty f (C.blt _ t2) t1 y j) λ_=>rfl
def CU     (y:Pn X h.pos (ii T c es (dk h)) (Zn T c es (cl h)) F)(R:lD X (denD T.gs (Ob T k) es) F)(J:(ii T c es (dk h)).all (·.isSome)=ua)(q:(ii T c es (dk h)).length=(Zn T c es (cl h)).length)
  (O:(ii T c es (dk h)).length<=15):SE T k X c (.dic es) h:=by
 refine xf ?_ λ_=>rfl
 match es,y,R,J,q,O with
 |.nil,_,_,_,_,_=>exact PE.imp YT λσ H Q0 ⟨ς,G,Q,E,j,Z,h,Y,lx⟩=>⟨ς,G,Q,E,j,Z,(show([]:List (uc×U)).length<=15/\newO G (.dK (Hk [])) Q from h).2,Y,lx⟩
 |.cons _ .nil,_,_,_,_,_=>exact λxa s σ H Q0 I ⟨ς,G,Q,E,j,Z,h,Y,lx⟩=>(show False from h).elim
 |.cons d (.cons f es),y,R,J,q,O=>exact WR y R J q (λz=>nomatch z) O
def CW     (C:Cok T k X c)(q:Zc T c (.call n es) h=ua)(j:PA X (unEs T c es (cl h)) (lA X (Wf T.gs (Ob T k) es))):SE T k X c (.call n es) h:=by
 refine xf ?_ λ_=>rfl;have z:=of_decide_eq_true (ba (ba q).1).1;have f:T.funs[n]?=ma T.funs[n]:=by simp[z]
 have y:T.funs[n].name=Qv T n:=by unfold Qv;rw[f]
 match es,j with
 |.nil,_=>exact eW C f y (ba (ba q).1).2
 |.cons d es,j=>exact VT C f y (ba (ba q).1).2 j (Ki (lh d _) _ _) (Hq es _ _ _).1
def BU     (C:Cok T k X c)(q:Zc T c (.blt b es) h=ua)(f:PA X (unEs T c es (cl h)) (lA X (Wf T.gs (Ob T k) es))):SE T k X c (.blt b es) h:=by
 refine xf ?_ λ_=>rfl;obtain⟨j,y⟩:=C.gl (ba (ba q).1).2
 match es,f,q with
 |.nil,_,q=>exact absurd (of_decide_eq_true (ba (ba q).1).1) (qj 0)
 |.cons d es,f,_=>exact UR (uR C.room C.calm b) j (C.blt _ (SU b)) f (Ki (lh d _) _ _) (Hq es _ _ _).1
def DW      (hu:X.A.units+1<Ec)(q:Zc T c (.meth m o es) h=ua)(z:PE X (Gc T c o (c0 (c0 h))) (lE X (Wa T.gs (Ob T k) o).1))(f:PA X (unEs T c es (cl h)) (lA X (Wf T.gs (Ob T k) es))):SE T k X c (.meth m o es) h:=by
 refine xf ?_ λ_=>rfl;have y:=(ba q).2;have j:=of_decide_eq_true (ba (ba q).1).2;have F:=(ba (ba (ba q).1).1).2
 match es,f,j with
 |.nil,_,_=>exact gW (HE hu m) z (Wu y _ _ _) F
 |.cons d es,f,j=>
  refine bU (HE hu m) z f (Wu y _ _ _) ?_ F (Ki (lh d _) _ _) (Hq es _ _ _).1;have e:=(Hq (T:=T) (c:=c) (.cons d es) (cl h) X.env h.pos).2;show((Xc h.pos (Kd (unEs T c (.cons d es) (cl h)) X.env)).all (λx=>!x.1)&&_&&decide ((unEs T c (.cons d es) (cl h)).length+0+0<30))=ua;rw[e,Mz];exact decide_eq_true j
def AU    (h:PT X e (lT X (Wa T.gs (Ob T k) d).2)):PIfs X [e] (ah X.K (denC T.gs (Ob T k) (.cons d .nil))):=by
 refine PIfs.imp (YW (ah.of h)) λO H R ⟨q,G,Q,z,J,F,I⟩=>⟨q,G,λb j=>Q b j,z,J,?_,I⟩;have y:(Wa T.gs (Ob T k) d).2 q G (λb f=>if b=ua then Q ua f else Q Ca f) (λ_ _=>False):=F
 have e:(λ(b:Bool) (f:Gp)=>if b=ua then Q ua f else Q Ca f)=λb j=>Q b j:=by
  grind
 lia
def zU  : PIfs X [] (ah X.K (denC T.gs (Ob T k) .nil)):=PIfs.imp XW λF H z ⟨I,G,Q,y,q,f,j⟩=>j ua G H q (Fr.refl _ _) f
theorem VD  : ∀f hs ,2*(ii T c f hs).length<=bh f
 |.nil,_=>Mb _
 |.cons _ .nil,_=>Mf _
 |.cons _ (.cons _ f),hs=>by
  have:=VD f hs.tail;show 2*((ii T c f hs.tail).length+1)<=bh f+1+1
  lia
def k_le    (h:bh es<=30):(ii T c es hs).length<=15:=by
 have:=VD (T:=T) (c:=c) es hs
 lia
end
mutual
theorem sE:∀(I:E) {X:Cx} {c:Pc} {h:Na},Cok T k X c->Zc T c I h=ua->SE T k X c I h
 |.v _,_,_,_,C,q=>se_v C q
 |.non,_,_,_,_,_=>xf (Jo (u:=.non) JU λ_=>rfl) λ_=>rfl
 |.bl b,_,_,_,_,_=>xf (Jo (u:=.bl b) gQ λ_=>rfl) λ_=>rfl
 |.int i,_,_,_,_,_=>xf (Jo (u:=.int i) GU λ_=>rfl) λ_=>rfl
 |.str x,_,_,_,_,_=>xf (Jo (u:=.str x) LU λ_=>rfl) λ_=>rfl
 |.g _,_,_,_,C,q=>se_g C q
 |.ty _,_,_,_,C,q=>DR C q
 |.bin o a b,_,_,_,C,q=>xf (TR (NS o) (sE a C (ba q).1).1 (sE b C (ba q).2).1) λ_=>rfl
 |.neg a,_,_,_,C,q=>xf (bR (sE a C q).1) λ_=>rfl
 |.not a,_,_,_,C,q=>⟨cR (sE a C q).1,cU (sE a C q).2⟩
 |.bop k a es,_,_,h,C,q=>let r:=sB es k C (sE a C (ba q).1) (ba q).2 h.pos;⟨r.1,r.2.pt⟩
 |.cmp o a b,_,_,_,C,q=>⟨VR (Co C.room o) (sE a C (ba (ba q).1).1).1 (sE b C (ba (ba q).1).2).1 (bn (ba q).2),XT (Co C.room o) (sE a C (ba (ba q).1).1).1 (sE b C (ba (ba q).1).2).1 (bn (ba q).2)⟩
 |.cmp2 o p a b d,_,_,_,C,q=>⟨WT (Co C.room o) (Co C.room p) (sE a C (ba (ba (ba q).1).1).1).1 (sE b C (ba (ba (ba q).1).1).2).1 (sE d C (ba (ba q).1).2).1 (bn (ba q).2),
   PT.imp (fW (Co C.room o) (Co C.room p) (sE a C (ba (ba (ba q).1).1).1).1 (sE b C (ba (ba (ba q).1).1).2).1 (sE d C (ba (ba q).1).2).1 (bn (ba q).2)) λ_ _ _ ⟨Z,G,Q,E,z,R,h,O,lx⟩=>⟨Z,G,Q,E,z,R,h,O,lx⟩⟩
 |.ife t a b,_,_,_,C,q=>⟨XR (sE t C (ba (ba q).1).1).2 (sE a C (ba (ba q).1).2).1 (sE b C (ba q).2).1,aU (sE t C (ba (ba q).1).1).2 (sE a C (ba (ba q).1).2).2 (sE b C (ba q).2).2⟩
 |.tup es,_,_,_,C,q=>xf (jR (Tl es C q)) λ_=>rfl
 |.lst es,_,_,_,C,q=>xf (ZR (Tl es C q)) λ_=>rfl
 |.dic es,_,_,h,C,q=>let ⟨_,J,h2,Y,h4⟩:=sD es C h.pos (ba q).1;CU J h2 Y h4 (k_le (of_decide_eq_true (ba q).2))
 |.ix a b,_,_,_,C,q=>xf (u_ix C.hu (sE a C (ba q).1).1 (sE b C (ba q).2).1 (uV (lh b _))) λ_=>rfl
 |.sl a lo hi,_,_,_,C,q=>xf (u_sl (sE a C (ba (ba q).1).1).1 (sO lo C (ba (ba q).1).2) (sO hi C (ba q).2)) λ_=>rfl
 |.rev a b,_,_,_,C,q=>xf (eR (sE a C (ba q).1).1 (sE b C (ba q).2).1) λ_=>rfl
 |.call _ es,_,_,_,C,q=>CW C q (Tl es C (ba q).2)
 |.blt _ es,_,_,_,C,q=>BU C q (Tl es C (ba q).2)
 |.meth _ o es,_,_,_,C,q=>DW C.hu q (sE o C (ba (ba (ba (ba q).1).1).1).1).1 (Tl es C (ba (ba (ba (ba q).1).1).1).2)
 |.lc _ t it ifs d,_,_,_,C,q=>let S:=C.comp (ba (ba (ba (ba (ba (ba q).1).1).1).1).1).1
   xf (u_lc C.calm S.1 (sI it t _ _ C (ba (ba (ba (ba q).1).1).1).2).1 (ba (ba (ba (ba (ba (ba q).1).1).1).1).1).2 (λcl A f j y=>Ej (S.2 cl A f j y) t _ (ba (ba (ba (ba (ba q).1).1).1).1).2)
    (λcl A f j y=>sC ifs (S.2 cl A f j y) (of_decide_eq_true (ba (ba q).1).2) (ba (ba (ba q).1).1).2) (λcl A f j y=>Qh.of (sE d (S.2 cl A f j y) (ba q).2).1) (sI it t ⟨[],[]⟩ e0 C (ba (ba (ba (ba q).1).1).1).2).2) λ_=>rfl
 |.lc2 _ t it ifs t2 it2 ifs2 d,_,_,_,C,q=>let S:=C.comp (ba q).1
   let q1:=(ba q).2;let q2:=(ba q1).2;let q3:=(ba q2).2;let q4:=(ba q3).2;let q5:=(ba q4).2;let q6:=(ba q5).2;let q7:=(ba q6).2;let q8:=(ba q7).2;let q9:=(ba q8).2;let qa:=(ba q9).2;let qb:=(ba qa).2
   xf (YR C.calm S.1 (sI it t _ _ C (ba q6).1).1 (ba q1).1 (ba q2).1 (ba q3).1 (λcl A f j y=>Ej (S.2 cl A f j y) t _ (ba q4).1)
    (λcl A f j y=>sC ifs (S.2 cl A f j y) (of_decide_eq_true (ba qa).1) (ba q8).1) (λcl A f j y=>Qh.of (sE d (S.2 cl A f j y) (ba qb).2).1)
    (λcl A f j y=>Gm.of (sI it2 t2 _ _ (S.2 cl A f j y) (ba q7).1).1) (λcl A f j y=>Ej (S.2 cl A f j y) t2 _ (ba q5).1) (λcl A f j y=>sC ifs2 (S.2 cl A f j y) (of_decide_eq_true (ba qb).1) (ba q9).1) (λF=>Gq it2 _ F) (Gq it _ _)) λ_=>rfl
 |.sset d,_,_,_,C,q=>xf (dU C.calm (C.gl (ba (ba q).1).1).1 (C.blt _ (by decide)) (C.gl (ba (ba q).1).2).1 (C.blt _ (by decide)) (sE d C (ba q).2).1 (Ki (lh d _) _ _) rfl) λ_=>rfl
 |.mkD d,_,_,_,C,q=>xf (aS C.calm (C.gl (ba q).1).1 (C.blt _ (by decide)) (sE d C (ba q).2).1 (Ki (lh d _) _ _)) λ_=>rfl
 |.mkL d,_,_,_,C,q=>xf (ZQ (C.gl (ba q).1).1 (C.blt _ (by decide)) (sE d C (ba q).2).1 (Ki (lh d _) _ _)) λ_=>rfl
 |.mkT d,_,_,_,C,q=>xf (aR (C.gl (ba q).1).1 (C.blt _ (by decide)) (sE d C (ba q).2).1 (Ki (lh d _) _ _)) λ_=>rfl
theorem sO:∀(f:Eo) {X:Cx} {c:Pc} {h:Na},Cok T k X c->Wx T c f h=ua->PO X (Ix T c f h) (lO X (denO T.gs (Ob T k) f))
 |.no,_,_,_,_,_=>u_no
 |.so d,_,_,_,C,q=>u_so (sE d C q).1
theorem Tl:∀(f:Es) {X:Cx} {c:Pc} {hs:List Na},Cok T k X c->okEs T c f hs=ua->PA X (unEs T c f hs) (lA X (Wf T.gs (Ob T k) f))
 |.nil,_,_,_,_,_=>Jm
 |.cons d f,_,_,_,C,q=>Pm (sE d C (ba q).1).1 (Tl f C (ba q).2) (Ki (lh d _) _ _)
theorem sB:∀(f:Es) (b:Bool) {X:Cx} {c:Pc} {hs:List Na} {a:Na} {p:UE×UT},Cok T k X c->PE X a (lE X p.1)/\PT X a (lT X p.2)->okEs T c f hs=ua->∀pos:Pos,
  PE X (.BoolOp (zB b) (a::unEs T c f hs) pos) (lE X (denB T.gs (Ob T k) b p f).1)/\PW X (.BoolOp (zB b) (a::unEs T c f hs) pos) (lT X (denB T.gs (Ob T k) b p f).2)
 |.nil,ua,_,_,_,_,_,_,ha,_,_=>⟨OE ha.1,pw_and1 ha.2⟩
 |.nil,Ca,_,_,_,_,_,_,ha,_,_=>⟨OE ha.1,pw_or1 ha.2⟩
 |.cons d f,ua,_,_,_,_,_,C,ha,q,pos=>yU ha (sB f ua C (sE d C (ba q).1) (ba q).2 pos)
 |.cons d f,Ca,_,_,_,_,_,C,ha,q,pos=>BR ha (sB f Ca C (sE d C (ba q).1) (ba q).2 pos)
theorem sC:∀(f:Es) {X:Cx} {c:Pc} {hs:List Na},Cok T k X c->bh f<=1->okEs T c f hs=ua->PIfs X (unEs T c f hs) (ah X.K (denC T.gs (Ob T k) f))
 |.nil,_,_,_,_,_,_=>zU
 |.cons d .nil,_,_,_,C,_,q=>AU (sE d C (ba q).1).2
 |.cons _ (.cons _ es),_,_,_,_,l,_=>absurd l (by show ¬(bh es+1+1<=1);lia)
theorem sD:∀(j:Es) {X:Cx} {c:Pc} {hs z:List Na},Cok T k X c->(p:Pos)->Xx T c j hs z=ua->∃y,Pn X p (ii T c j hs) (Zn T c j z) y/\lD X (denD T.gs (Ob T k) j) y/\(ii T c j hs).all (·.isSome)=ua/\(ii T c j hs).length=(Zn T c j z).length
 |.nil,_,_,_,_,_,_,_=>⟨[],rW,rT,rfl,rfl⟩
 |.cons d (.cons f j),_,_,_,_,C,p,q=>let ⟨_,F,O,I,J⟩:=sD j C p (ba q).2;⟨_,PX (sE d C (ba (ba q).1).1).1 (sE f C (ba (ba q).1).2).1 F,PV O,I,congrArg (·+ 1) J⟩
 |.cons _ .nil,_,_,_,_,_,_,q=>nomatch q
theorem sI:∀(f:It) (t:Tg) (ct:Pc) (j:Na) {X:Cx} {c:Pc} {h:Na},Cok T k X c->pq T c t f h=ua->PI X (unTg ct t j) (unI T c f h) (lI X (denI T.gs (Ob T k) f))/\∀x,Cf (unI T c f h) X.env x=pure x
 |.e d,_,_,_,_,_,_,C,q=>⟨u_ie (sE d C q).1,HH (lh d _) _⟩
 |.r1 d,_,_,_,_,_,_,C,q=>⟨u_r1 (C.gl (ba q).1).1 (C.blt _ (by decide)) (sE d C (ba q).2).1 (Ki (lh d _) _ _),λ_=>rfl⟩
 |.enum d,.t _,_,_,_,_,_,C,q=>⟨ZT (C.gl (ba (ba q).1).2).1 (C.blt _ (by decide)) (sE d C (ba q).2).1 (Ki (lh d _) _ _),λ_=>rfl⟩
 |.enum _,.n _,_,_,_,_,_,_,q=>nomatch q
 |.dv d,_,_,_,_,_,_,C,q=>⟨u_dv (sE d C (ba (ba q).1).1).1 (Wu (ba q).2 _ _ _) (ba (ba q).1).2,λ_=>rfl⟩
 |.di d,.t _,_,_,_,_,_,C,q=>⟨u_di (sE d C (ba (ba (ba q).1).1).2).1 (Wu (ba q).2 _ _ _) (ba (ba q).1).2,λ_=>rfl⟩
 |.di _,.n _,_,_,_,_,_,_,q=>nomatch q
end
end

noncomputable def Nx  (f:Bool)(names:List Str)(bk:ScopeKind)(ts vs:List Na):Sem (Option (List Str)):=
 if (!(ts.length==2||ts.length==3)||vs.length != ts.length||bk != .function)=ua then pure Aa
 else if f=ua then pure Aa
 else if (names.length != ts.length||names.eraseDups.length != names.length)=ua then pure Aa
 else if vs.all (MB 8)=ua then pure Aa
 else if vs.all (constantsAlone 8)=ua then do Jl "assign.tuple-of-constant-expressions:order-of-the-stores";pure (ma names)
 else pure (ma names)
def rA  (env:Env)(ts:List Na):List Str:=ts.filterMap fun
  |.Name j f=>if env.kindOf j==ma .local&&f.line==YE ts then ma j else Aa
  |_=>Aa
def hE     : Ti [.Tuple ts a p] (.Tuple vs b q) env=Nx (vs.any Qu) (rA env ts) env.blockKind ts vs:=by
 have f:Qu=fun|.Starred ..=>ua|_=>Ca:=by funext e;cases e<;>rfl
 with_unfolding_all rfl
def GG  (hk:∀x,env.kindOf x=c.sc.lookup x) ts:rA env ts=zf c ts:=by
 unfold zf rA;congr 1;funext e;cases e<;>first|rfl|(dsimp only;rw[hk])
def HZ  (hk:∀x,env.kindOf x=c.sc.lookup x)(I:env.blockKind=.function)(h:SA c ts vs=ua):Ti [.Tuple ts a p] (.Tuple vs b q) env=pure Aa:=by
 rw[hE,GG hk,I];unfold Nx;unfold SA at h;by_cases z:(!(ts.length==2||ts.length==3)||vs.length != ts.length)=ua
 ·rw[if_pos (by rw[z];rfl)]
 ·have f:(!(ts.length==2||ts.length==3)||vs.length != ts.length)=Ca:=by simpa using z
  rw[f]at h;rw[if_neg (by rw[f];decide)]
  simp only[rC,Kf,JC]at h;obtain⟨J,F⟩:=h;rw[if_neg (by rw[J];decide)]
  by_cases y:((zf c ts).length != ts.length||(zf c ts).eraseDups.length != (zf c ts).length)=ua
  ·rw[if_pos y]
  ·rw[if_neg y];have j:((zf c ts).length != ts.length||(zf c ts).eraseDups.length != (zf c ts).length)=Ca:=by simpa using y
   rw[j]at F;rw[if_pos (by simpa using F)]
def IZ  (hk:∀x,env.kindOf x=c.sc.lookup x)(I:env.blockKind=.function)(h:swapped c ts vs=ua):Ti [.Tuple ts a p] (.Tuple vs b q) env=pure (ma (zf c ts)):=by
 rw[hE,GG hk,I];unfold Nx;unfold swapped at h;simp only[Kf,JC]at h;obtain⟨⟨⟨⟨⟨⟨z,h2⟩,O⟩,R⟩,Z⟩,F⟩,f⟩:=h;have J:(!(ts.length==2||ts.length==3)||vs.length != ts.length||(uM != uM))=Ca:=by
  have:(vs.length != ts.length)=Ca:=by simpa using h2
  rw[z,this];rfl
 rw[if_neg (by rw[J];decide),if_neg (by rw[O];decide)]
 have y:((zf c ts).length != ts.length||(zf c ts).eraseDups.length != (zf c ts).length)=Ca:=by
  have Y:((zf c ts).length != ts.length)=Ca:=by simpa using R
  have j:((zf c ts).eraseDups.length != (zf c ts).length)=Ca:=by simpa using Z
  rw[Y,j];rfl
 rw[if_neg (by rw[y];decide),if_neg (by rw[F];decide),if_neg (by rw[f];decide)]
def HG  (hk:∀x,env.kindOf x=c.sc.lookup x)(j:env.blockKind=.function)(h:lcSw c y f p s=ua) :
  ij (.ListComp elt gs s p) (ma (.Name y f)) l env=pure ua:=by
 unfold lcSw at h;simp only[Kf]at h;unfold ij;dsimp only;show(pure (env.blockKind == .function&&env.kindOf y==ma .local&&f.line==p.line && !(s.names.any λ(n,k)=>n==y&&(k == .local||k == .cell))):Sem Bool)=pure ua
 grind
def IG  {c: Pc}(hk:∀x,env.kindOf x=c.sc.lookup x)(h:(c.sc.lookup y==ma .local)=Ca) :
  Vj [.Name y f] (.ListComp elt gs s p) l env=pure Ca:=by
 show(pure (env.blockKind == .function&&env.kindOf y==ma .local&&f.line==p.line && !(s.names.any λ(n,k)=>n==y&&(k == .local||k == .cell))):Sem Bool)=pure Ca
 grind
section
variable {T:Nf}{k:Nat}
def jk.kindOf    (C:jk T k X c):∀x,X.env.kindOf x=c.sc.lookup x:=λx=>by
 unfold Env.kindOf;rw[C.sc]
def jk.block    (C:jk T k X c):X.env.blockKind=.function:=by
 unfold Env.blockKind;rw[C.kind];rfl
theorem IE   : ∀(is:List Nat) hs ,(unNs c is hs).length=is.length
 |[],_=>rfl
 |_::is,hs=>congrArg (·+ 1) (IE is hs.tail)
def oN     (h:(zf c [.Name x p,.Name y q]).length=2):zf c [.Name x p,.Name y q]=[x,y]:=by
 unfold zf at h ⊢;simp only[Vr,List.filterMap_nil]at h ⊢;split at h<;>split at h<;>simp_all

def JT     (C:jk T k X c)(q:oq T c (.asg t d) h=ua)(hs:PE X (Gc T c d (q0 h)) (lE X (Wa T.gs (Ob T k) d).1)):PS X (aq T c (.asg t d) h) (lS X (denS T.gs (Ob T k) (.asg t d))):=by
 have y:=Ej C.toCok t (q1 h) (ba (ba q).1).2;have q3:=(ba q).2;have f:Vj [unTg c t (q1 h)] (Gc T c d (q0 h)) h.pos.line X.env=pure Ca/\Ti [unTg c t (q1 h)] (Gc T c d (q0 h)) X.env=pure Aa:=by
  cases t with
  |n i=>
   refine⟨?_,lR d _ _ _ _⟩;by_cases j:isLc d=ua
   ·cases d with
    |lc=>exact IG C.kindOf (bn q3)
    |lc2=>exact IG C.kindOf (bn q3)
    |_=>cases j
   ·exact kW (by lia) _ _ _ _
  |t ts=>
   cases d with
   |lc=>cases q3
   |lc2=>cases q3
   |tup z=>exact⟨rfl,HZ C.kindOf C.block q3⟩
   |_=>exact⟨rfl,rfl⟩
 exact s_asg hs y f.1 f.2 (jW t _ _)
def MT     (C:jk T k X c)(q:oq T c (.par is es) h=ua)(O:PA X (unEs T c es (cl (q0 h))) (lA X (Wf T.gs (Ob T k) es))):PS X (aq T c (.par is es) h) (lS X (denS T.gs (Ob T k) (.par is es))):=by
 have F:=(ba (ba q).1).2;have R:=(ba (ba (ba q).1).1).2;have y:=IZ (a:=kk (q1 h)) (b:=kk (q0 h)) (p:=(q1 h).pos) (q:=(q0 h).pos) C.kindOf C.block F;unfold swapped at F;simp only[Kf,Dr,beq_iff_eq]at F;obtain⟨⟨⟨⟨⟨⟨_,f⟩,_⟩,J⟩,_⟩,_⟩,_⟩:=F;rw[Mz,IE]at f;have z:is.length=2:=of_decide_eq_true (ba q).2;have Z:X.N.Nodup:=by rw[C.hN];exact C.nd
 match is,es,z,f,J,y,R,O with
 |[i,j],.cons a (.cons b .nil),_,_,J,y,R,O=>
  have I:=ba R;have Y:=ba I.2;refine s_par2 C.calm Z (C.nm (ba (ba I.1).1).1) (C.nm (ba (ba Y.1).1).1) (by simp_all) (C.loc _ (ba (ba I.1).1).2) (C.loc _ (ba (ba Y.1).1).2) O ?_ rfl
  rw[<- oN J];exact y
 |[],_,z,_,_,_,_,_=>exact absurd z (by simp)
 |[_],_,z,_,_,_,_,_=>exact absurd z (by simp)
 |_::_::_::_,_,z,_,_,_,_,_=>exact absurd z (by simp)
 |[_,_],.nil,_,f,_,_,_,_=>exact absurd f (by simp[bh])
 |[_,_],.cons _ .nil,_,f,_,_,_,_=>exact absurd f (by simp[bh])
 |[_,_],.cons _ (.cons _ (.cons _ _)),_,f,_,_,_,_=>exact absurd f (by simp[bh])
def JW     (C:jk T k X c)(q:oq T c (.asgC i d) h=ua):PS X (aq T c (.asgC i d) h) (lS X (denS T.gs (Ob T k) (.asgC i d))):=by
 have Z:=(ba (ba (ba q).1).1);have R:=(ba q).2;have hi:=C.nm (ba (ba q).1).2;have hy:=eq_of_beq (ba (ba R).1).1;cases d with
 |lc pick t I F d=>
  have y:=Z.2;have S:=C.toCok.comp (ba (ba (ba (ba (ba (ba y).1).1).1).1).1).1;exact s_lc (by rw[C.hN];exact C.nd) hi (by rw[C.sc];exact hy) C.calm S.1 (sI I t _ _ C.toCok (ba (ba (ba (ba y).1).1).1).2).1 (ba (ba (ba (ba (ba (ba y).1).1).1).1).1).2
   (λcl A f j z=>Ej (S.2 cl A f j z) t _ (ba (ba (ba (ba (ba y).1).1).1).1).2) (λcl A f j z=>sC F (S.2 cl A f j z) (of_decide_eq_true (ba (ba y).1).2) (ba (ba (ba y).1).1).2)
   (λcl A f j z=>Qh.of (sE d (S.2 cl A f j z) (ba y).2).1) (HG C.kindOf C.block R) (Gq I _ _)
 |lc2 pick t I F t2 J O d=>
  have y:=Z.2;have S:=C.toCok.comp (ba y).1;have q1:=(ba y).2;have q2:=(ba q1).2;have q3:=(ba q2).2;have q4:=(ba q3).2;have q5:=(ba q4).2;have q6:=(ba q5).2;have q7:=(ba q6).2;have q8:=(ba q7).2;have q9:=(ba q8).2;have qa:=(ba q9).2;have qb:=(ba qa).2;exact s_lc2 (by rw[C.hN];exact C.nd) hi (by rw[C.sc];exact hy) C.calm S.1 (sI I t _ _ C.toCok (ba q6).1).1 (ba q1).1 (ba q2).1 (ba q3).1
   (λcl A f j z=>Ej (S.2 cl A f j z) t _ (ba q4).1) (λcl A f j z=>sC F (S.2 cl A f j z) (of_decide_eq_true (ba qa).1) (ba q8).1)
   (λcl A f j z=>Qh.of (sE d (S.2 cl A f j z) (ba qb).2).1) (λcl A f j z=>Gm.of (sI J t2 _ _ (S.2 cl A f j z) (ba q7).1).1) (λcl A f j z=>Ej (S.2 cl A f j z) t2 _ (ba q5).1)
   (λcl A f j z=>sC O (S.2 cl A f j z) (of_decide_eq_true (ba qb).1) (ba q9).1) (λY=>Gq J _ Y) (HG C.kindOf C.block R) (Gq I _ _)
 |_=>cases Z.1
mutual
theorem sS:∀(f:S) {X:Cx} {c:Pc} {h:Va},jk T k X c->oq T c f h=ua->PS X (aq T c f h) (lS X (denS T.gs (Ob T k) f))
 |.expr d,_,_,_,C,q=>s_expr (sE d C.toCok (ba q).1).1 (iW (bn (ba q).2) _ _ _)
 |.asg _ d,_,_,_,C,q=>JT C q (sE d C.toCok (ba (ba q).1).1).1
 |.asgC _ _,_,_,_,C,q=>JW C q
 |.setS o i d,_,_,_,C,q=>s_set C.toCok.hu (sE d C.toCok (ba (ba q).1).1).1 (sE o C.toCok (ba (ba q).1).2).1 (sE i C.toCok (ba q).2).1 (cF d _ _ _ _ _ _).1 (cF d _ _ _ _ _ 0).2 rfl (eX (lh i _) _ _)
 |.par _ es,_,_,_,C,q=>MT C q (Tl es C.toCok (ba (ba (ba q).1).1).1)
 |.aug _ _ d,_,_,_,C,q=>let s:=C.toCok.store (ba (ba q).1).2;s_aug (by rw[C.hN];exact C.nd) (C.nm (ba (ba q).1).1) s.1 s.2 (sE d C.toCok (ba q).2).1
 |.ite t a b,_,_,_,C,q=>s_if (sE t C.toCok (ba (ba q).1).1).2 (io a C (ba (ba q).1).2) (io b C (ba q).2)
 |.fr t it b,_,_,_,C,q=>s_for C.po C.calm (sI it t _ _ C.toCok (ba (ba q).1).2).1 (Ej C.toCok t _ (ba (ba q).1).1) (io b C (ba q).2) (sI it t ⟨[],[]⟩ e0 C.toCok (ba (ba q).1).2).2
 |.wh t b,_,_,_,C,q=>s_wh C.po (sE t C.toCok (ba q).1).2 (io b C (ba q).2)
 |.ret d,_,_,_,C,q=>s_ret (sE d C.toCok q).1
 |.never,_,_,_,_,_=>λ_ _ _ _ _ _ ⟨_,_,_,_,_,q,_⟩=>(show False from q).elim
theorem io:∀(f:Ss) {X:Cx} {c:Pc} {hs:List Va},jk T k X c->okSs T c f hs=ua->Sf X (unSs T c f hs) (lS X (Ze T.gs (Ob T k) f))
 |.nil,_,_,_,_,_=>s_nil
 |.cons s r,_,_,_,C,q=>s_cons (t:=denS T.gs (Ob T k) s) (u:=Ze T.gs (Ob T k) r) (sS s C (ba q).1) (io r C (ba q).2)
end
end
def DE  {T:Nf}{n:Nat}(h:T.funs[n]?=ma d):(T.funs++T.vf)[n]?=ma d:=by
 grind
def tF  {T:Nf}(hd:(T.funs++T.vf)[n]?=ma d){E:KX}(h:Ob T (k+1) n us G Q E) :
  us.length=d.ps.length/\Ze T.gs (Ob T k) d.body ⟨λ_ f=>Q .non f,Q,λx _ f=>E x f⟩ (td d.N.length us) G:=by
 have j:(match (T.funs++T.vf)[n]? with|some d=>us.length=d.ps.length/\Ze T.gs (Ob T k) d.body ⟨λ_ f=>Q .non f,Q,λx _ f=>E x f⟩ (td d.N.length us) G|none=>False):=h
 lia
def qU     (e:a=b)(h:Sf X a t):Sf X b t:=e ▸ h
def GZ       (r:Vb K H us vs):SR K H (td N.length us) (L2.start N vs):=by
 unfold td L2.start;refine⟨by simp[r.length],λi u e=>?_⟩
 by_cases f:i<us.length
 ·rw[Fn (by simp_all),md]at e
  cases q:us[i]? with
  |none=>simp_all
  |some w=>
   rw[q]at e;have:w=u:=by simpa using e
   subst this;obtain⟨v,j,y⟩:=r.get q;have z:i<vs.length:=by rw[<- r.length];exact f
   exact⟨v,by rw[Fn (by simpa using z),md,j];rfl,y⟩
 ·rw[Np (by simpa using f),rM]at e
  split at e<;>cases e
structure PF (T:Nf)(P:Ab)(w:Za)(K:Sb)(mg:Str->Option Da)(base:Cb)(k:Nat):Prop where
 blt:∀x∈Gk,mg x=Aa
 fns:∀(n:Nat) (d:Fun),T.funs[n]?=ma d->eN P w K mg base k d (Ob T k n)
 gls:∀(n:Nat) (x:Str) (u:U),T.gn[n]?=ma x->T.gs[n]?=ma u->∃v w,mg x=ma w/\RelV v w/\∀H,RU K H u v
 cls:∀n∈T.cs,1<=n->∃C,XCls K (gK K) (clsN n) (clsF n) C
 mgK:∀x v,gK K x=ma v->mg x=ma v
noncomputable def fo  (N ps:List Str)(f:ue):Bool:=
 decide (f.kind=.function) && !f.isCoroutine && !f.isGenerator&&decide N.Nodup&&(N.take ps.length==ps)&&ps.all (λx=>f.names.lookup x==ma .local||f.names.lookup x==ma .cell)&&f.names.all (λy=>y.2 != .free)
def pE    (h:fo N ps j=ua):FnScope N ps j:=by
 unfold fo at h;simp only[Kf,decide_eq_true_eq,JC]at h;obtain⟨⟨⟨⟨⟨⟨f,I⟩,q⟩,z⟩,F⟩,R⟩,O⟩:=h;refine⟨f,I,q,z,eq_of_beq F,λx Y=>?_,λy J=>?_⟩
 ·simp_all
 grind
noncomputable def Jj  (T:Nf):Nat->List Fun->List Va->Bool
 |_,[],[]=>ua
 |i,d::ds,st::sts=>fo d.N d.ps (Pf st)&&((T.ns.lookup i).isSome||okSs T ⟨d.N,(Pf st).names⟩ d.body (ig st))&&Jj T (i+1) ds sts
 |_,_,_=>Ca
def Fk  (T:Nf)(all:List Va):Nat->List Fun->List Va->Prop
 |_,[],_=>True
 |i,d::ds,st::sts=>(match T.ns.lookup i with
  |none=>unSs T ⟨d.N,(Pf st).names⟩ d.body (ig st)=ig st
  |some _=>False)/\Fk T all (i+1) ds sts
 |_,_::_,[]=>False
theorem Dq {T:Nf}{all:List Va}:∀{i:Nat} {f:List Fun} {sts:List Va},Jj T i f sts=ua->Fk T all i f sts->∀{n:Nat} {d:Fun},f[n]?=ma d->∃st,sts[n]?=ma st/\fo d.N d.ps (Pf st)=ua/\(match T.ns.lookup (i+n)with
  |none=>okSs T ⟨d.N,(Pf st).names⟩ d.body (ig st)=ua/\unSs T ⟨d.N,(Pf st).names⟩ d.body (ig st)=ig st
  |some _=>False)
 |_,[],_,_,_,_,_,e=>by simp at e
 |_,_::_,[],h,_,_,_,_=>by unfold Jj at h;cases h
 |i,d::f,st::sts,h,g,n,d',e=>by
  unfold Jj at h;unfold Fk at g;simp only[Kf]at h;cases n with
  |zero=>
   simp at e;subst e;refine⟨st,rfl,h.1.1,?_⟩;have j:=g.1;have F:=h.1.2;rw[Nat.add_zero];cases q:T.ns.lookup i with
   |none=>rw[q]at j F;exact⟨by simpa using F,j⟩
   |some z=>rw[q]at j;exact j
  |succ n=>
   obtain⟨y,I,q⟩:=Dq h.2 g.2 (n:=n) (by simpa using e)
   rw[show i+1+n=i+(n+1) by lia]at q
   exact⟨y,by simpa using I,q⟩
noncomputable def Vz  (K:Sb)(v:Da)(P:Ea):Bool:=match v with
 |.ref c=>(match K.lookup c with
  |some ⟨.type t,_,.fields vs,_⟩=>t == "code" && (match (vs[11]?:Option Da)with|some (.ref Q)=>Q==P|_=>Ca)&&(match vs.getD 18 .none with|.str _ _=>ua|_=>Ca)&&(match vs.getD 7 .none with|.int _ _=>ua|_=>Ca)
   && (match vs.getD 9 .none with|.bool _=>ua|_=>Ca)&&(match vs.getD 10 .none with|.int _ _=>ua|_=>Ca)&&c != P
  |_=>Ca)
 |_=>Ca
section
variable {T:Nf}{P:Ab}{w:Za}{K:Sb}{mg:Str->Option Da}{base:Cb}
def oG  {j n:Nat}{t:List U->Gp->K1->KX->Prop}(hz:∀us G Q E,¬t us G Q E):FnOk P w K mg base (Eg P w) j f F ps (cj K t):=
 ⟨λz H Q E ⟨_,_,_,_,_,_,h,_⟩=>(hz _ _ _ _ h).elim,λA q s H y us z Q E _ _ _ _ ⟨_,_,_,_,_,_,h,_⟩=>(hz _ _ _ _ h).elim⟩
def BG       (F:L2.Fun K d.name d.name st f fd)(h1:fo d.N d.ps (Pf st)=ua)(h2:okSs T ⟨d.N,(Pf st).names⟩ d.body (ig st)=ua)(h3:unSs T ⟨d.N,(Pf st).names⟩ d.body (ig st)=ig st)
  (pf:PF T P w K mg base k) (hd:T.funs[n]?=ma d):FnOk P w K mg base (Eg P w) (k+3) f fd d.ps (cj K (Ob T (k+1) n)):=by
 have S:=pE h1;refine F.okX S (λvs H Q E ⟨us,G,Q',E',r,hG,h,J,lx⟩=>by rw[<- r.length];exact(tF (DE hd) h).1) λva A xa s H vs Q E hr Z=>?_
 obtain⟨us,G,Q',E',r,hG,h,J,lx⟩:=Z;obtain⟨hl,h⟩:=tF (DE hd) h;refine⟨_,qU h3 (io d.body (k:=k) (c:=⟨d.N,(Pf st).names⟩) (hs:=ig st) ⟨⟨rfl,S.nd,λx z=>eq_of_beq z,λx z=>⟨eq_of_beq z,rfl⟩,λx z=>.inr (eq_of_beq z),λx z=>eq_of_beq z,hr.mono (by lia),rfl,cS,pf.blt,pf.fns,pf.gls,hr,pf.cls,pf.mgK⟩,rfl,S.kind,rfl,rfl⟩ h2),?_⟩
 exact⟨_,_,G,GZ r,hG,h,⟨λY O y j a b c q=>J .non .non y j rfl b c q,λw v y j a b c q=>J w v y j a b c q,λja e s' x Y O y j I sr za R f q=>by obtain⟨ea,C0,dx,rfl,l,xd⟩:=za;exact Eg.out1 I l (lx x y j C0 dx xd R f q)⟩⟩
abbrev pD  (T:Nf)(K:Sb)(mg:Str->Option Da)(sts:List Va):Prop:=∀(n:Nat) (d:Fun) (st:Va),T.funs[n]?=ma d->sts[n]?=ma st->∃(f:Ea) (fd:Vo),L2.Fun K d.name d.name st f fd/\mg d.name=ma (.ref f)/\Binds K fd d.ps []/\∀z,T.ns.lookup n=ma z->Vz K fd.code z.P=ua
def sW  {sts:List Va}(I:Jj T 0 T.funs sts=ua)(J:Fk T sts 0 T.funs sts)(y:pD T K mg sts)(hU:∀t∈tabs,∀t'∈tabs,t.1=t'.1->t=t')(R:K.In base)(hB:BmAt mg base)
  (hb:∀x∈Gk,mg x=Aa) (hg:∀(n:Nat) x u ,T.gn[n]?=ma x->T.gs[n]?=ma u->∃v w,mg x=ma w/\RelV v w/\∀H,RU K H u v) (Y:∀n∈T.cs,1<=n->∃C,XCls K (gK K) (clsN n) (clsF n) C) (hm:∀x v,gK K x=ma v->mg x=ma v) :
  ∀k ,PF T P w K mg base k:=by
 intro k
 induction k using Nat.strongRecOn with
 |ind k O=>
  refine⟨hb,λn d hd=>?_,hg,Y,hm⟩;obtain⟨st,e,Z,j⟩:=Dq I J hd;obtain⟨f,fd,F,m,b,hz⟩:=y n d st hd e;refine⟨f,fd,?_,m,F.kp,b⟩;rw[Sj]at j;cases q:T.ns.lookup n with
  |none=>
   rw[q]at j;obtain _|k:=k
   ·exact oG (n:=n) λ_ _ _ _ h=>h
   ·exact BG F Z j.1 j.2 (O k (by lia)) hd
  |some z=>rw[q]at j;exact j.elim
noncomputable def G0  (a:Ea)(ns:List Int):Gp:=λb=>if b=a then ma (.fro (ns.map .int)) else Aa
theorem SF   : ∀ns:List Int,Vb K H (ns.map .int) (ns.map V.int)
 |[]=>rfl
 |_::r=>⟨_,_,rfl,rfl,SF r⟩
def law_sp        (hT:∀t∈tabs,t.1∈tb)(f:zu tb H)(fr:H a=ma (.frz o (.lst (ns.map V.int))))(h:Ob T k n [.loc a] (G0 a ns) (λu _=>u=.bl ua) λ_ _=>False) :
  cj K (Ob T k n) [.ref a] H (λv _=>v=.bl ua) λ_ _ _=>False:=by
 refine⟨[.loc a],G0 a ns,_,_,⟨_,_,rfl,rfl,rfl⟩,⟨λb j e=>?_,λt y=>.inl ?_⟩,h,λw v I F r _ _ q=>?_,λ_ _ _ _ _ _ _ _ z=>z.elim⟩
 ·unfold G0 at e;split at e
  ·rename_i z;subst z;cases e;exact⟨o,_,fr,SF ns⟩
  lia
 ·have:=f t.1
  grind
 ·subst q;exact r
end

def tZ  {T: Nf}{sts:List Va}(F:L2.Fun K d.name d.name st f fd)(j:Jj T 0 T.funs sts=ua)(q:Fk T sts 0 T.funs sts)(z:pD T K mg sts)(J:∀t∈tabs,∀t'∈tabs,t.1=t'.1->t=t')(y:K.In base)(hB:BmAt mg base)
  (hb:∀x∈Gk,mg x=Aa) (Z:∀(n:Nat) x u ,T.gn[n]?=ma x->T.gs[n]?=ma u->∃v w,mg x=ma w/\RelV v w/\∀H,RU K H u v) (O:∀n∈T.cs,1<=n->∃C,XCls K (gK K) (clsN n) (clsF n) C) (hm:∀x v,gK K x=ma v->mg x=ma v) (hd:T.funs[n]?=ma d) (hs:sts[n]?=ma st) (hn:T.ns.lookup n=Aa) :
  FnOk P w K mg base (Eg P w) (k+2) f fd d.ps (cj K (Ob T k n)):=by
 cases k with
 |zero=>exact oG (n:=n) λ_ _ _ _ h=>h
 |succ k=>
  obtain⟨Y,e,R,I⟩:=Dq j q hd;rw[hs]at e;cases e;rw[Sj,hn]at I;exact BG F R I.1 I.2 (sW j q z J y hB hb Z O hm k) hd

def MP    (h:gK K x=ma v):Bn K Df x=ma (ma v):=by
 unfold gK at h;cases q:Bn K Df x with
 |none=>simp_all
 |some o=>simp_all
def tS    (X:K.In h)(G:h.Ns Df mg):∀x v,gK K x=ma v->mg x=ma v:=λ_ _ e=>Jr X G (MP e)
def Um     : Ed (Ed G a o) a u=Ed G a u:=by funext b;unfold Ed;lia
def Sm  (f:Ea)(G j:Gp):Prop:=∀b o,b≠f->G b=ma o->j b=ma o
def Sa  (G f:Gp):Prop:=∀b o,G b=ma o->f b=ma o
def Sm.refl    : Sm f G G:=λ_ _ _ h=>h
def Sa.refl   : Sa G G:=λ_ _ h=>h
def Sm.trans    (a:Sm f G G1)(b:Sm f G1 G2):Sm f G G2:=λc o n h=>b c o n (a c o n h)
def Sa.trans   (a:Sa G G1)(b:Sa G1 G2):Sa G G2:=λc o h=>b c o (a c o h)
def Sa.sm    (a:Sa G G'):Sm f G G':=λc o _ h=>a c o h
def Sa.new     (h:G p=Aa):Sa G (Ed G p o):=λc u e=>by
 rw[Uh (λz=>by lia)];exact e
def Sm.put     : Sm f G (Ed G f o):=λc u n e=>by rw[Uh n];exact e
def Li  {G:Gp}(h:G a=ma o)(f:G p=Aa):p≠a:=λz=>by lia
def Fl.at     (n:Fl G p o G'):G' p=ma o:=by rw[n.eq];exact Gf
def Fl.sa     (n:Fl G p o G'):Sa G G':=by rw[n.eq];exact Sa.new n.no
def Lh.at     (n:Lh G p o G'):G' p=ma o:=by rw[n.eq];exact Gf
def Lh.sm     (n:Lh G p o G'):Sm p G G':=by rw[n.eq];exact Sm.put
mutual
noncomputable def pd:U->ub
 |.non=>.none
 |.bl b=>.bool b
 |.int i=>.int i
 |.str x=>.str x
 |.tup f=>.tuple (Dh f)
 |.loc _=>.none
 |.fn _=>.none
 |.ty _=>.none
 |.exc _ _=>.none
 |.own _=>.none
 |.clo _ _=>.none
noncomputable def Dh:List U->List ub
 |[]=>[]
 |u::us=>pd u::Dh us
end
mutual
noncomputable def bare:U->Bool
 |.non=>ua
 |.bl _=>ua
 |.int _=>ua
 |.str _=>ua
 |.tup f=>bares f
 |.loc _=>Ca
 |.fn _=>Ca
 |.ty _=>Ca
 |.exc _ _=>Ca
 |.own _=>Ca
 |.clo _ _=>Ca
noncomputable def bares:List U->Bool
 |[]=>ua
 |u::us=>bare u&&bares us
end
mutual
theorem YD {G:Gp}:∀{u:U},bare u=ua->DU G u (pd u)
 |.non,_=>.non
 |.bl b,_=>.bl b
 |.int i,_=>.int i
 |.str x,_=>.str x
 |.tup _,h=>.tup (Fz h)
 |.loc _,h=>nomatch h
 |.fn _,h=>nomatch h
 |.ty _,h=>nomatch h
 |.exc _ _,h=>nomatch h
 |.own _,h=>nomatch h
 |.clo _ _,h=>nomatch h
theorem Fz {G:Gp}:∀{us:List U},bares us=ua->Nh G us (Dh us)
 |[],_=>.nil
 |_::_,h=>.cons (YD (ba h).1) (Fz (ba h).2)
end
theorem lH  : ∀{us },(∀u∈us,bare u=ua)->bares us=ua
 |[],_=>rfl
 |u::us,h=>by
  show(bare u&&bares us)=ua;rw[h u Re,lH λv f=>h v (Jd _ f)];rfl
theorem ME  : ∀us ,Dh us=us.map pd
 |[]=>rfl
 |u::us=>by
  show pd u::Dh us=_;rw[ME us];rfl
def wU     (h:bare u=ua)(f:Fits 16000000 60 (pd u))(q:Q (.str (pd u).shown) G):zk [u] G Q:=⟨pd u,YD h,f,q⟩
structure Qs (n:Nat)(u:U):Prop where
 b:bare u=ua
 l:(pd u).canLay0=ua
 d:(pd u).depth<=n
def Qs.int   i:Qs 0 (.int i):=⟨rfl,rfl,Mb _⟩
theorem smls   : ∀{us },(∀u∈us,Qs n u)->bares us=ua/\Ow (Dh us)=ua/\ck (Dh us)<=n
 |[],_=>⟨rfl,rfl,Mf _⟩
 |u::us,h=>by
  obtain⟨f,j,y⟩:=smls λv q=>h v (Jd _ q);have hu:=h u Re;refine⟨?_,?_,?_⟩
  ·show(bare u&&bares us)=ua;rw[hu.b,f];rfl
  ·show((pd u).canLay0&&Ow (Dh us))=ua;rw[hu.l,j];rfl
  ·show max (pd u).depth (ck (Dh us))<=n;exact Nat.max_le.mpr ⟨hu.d,y⟩
def DT       (F:G a=ma (.lst us))(f:G b=ma (.lst []))(h:∀u∈us,Qs n u)(J:n<100)(q:k us.isEmpty):eqU (.loc a) (.loc b) G k:=by
 obtain⟨y,I,O⟩:=smls h;have j:Rc G a=ma us:=by unfold Rc;rw[F]
 have z:Rc G b=ma []:=by unfold Rc;rw[f]
 refine⟨.list (Dh us),.list [],.lst j (Fz y),.lst z .nil,⟨I,?_⟩,⟨rfl,by decide⟩,?_⟩
 ·show ck (Dh us)+1<=100
  lia
 ·have e:Je (.list (Dh us)) (.list [])=us.isEmpty:=by
   show pp (Dh us) []=_;rw[bZ];cases us<;>rfl
  lia
structure Ft (n k:Nat)(u:U):Prop where
 b:bare u=ua
 f:Fits n k (pd u)
def Ft.mono    (h:Ft n k u)(f:n<=j)(q:k<=k'):Ft j k' u:=⟨h.b,h.f.mono f q⟩
def Ft.int   (h:i.natAbs<2 ^ 1000):Ft 1921 0 (.int i):=⟨rfl,Fits.int h⟩
def Ft.str    (h:x.length<=m)(j:∀c∈x.cps.toList,c<128):Ft (10*m+2) 0 (.str x):=⟨rfl,Fits.str h λc f=>xr (j c f) (by decide)⟩
def Ft.tup    (j:us.length<=m)(h:∀u∈us,Ft n k u)(f:m*(n+2)+3<=N):Ft N (k+1) (.tup us):=by
 refine⟨lH λu hu=>(h u hu).b,?_⟩;show Fits N (k+1) (.tuple (Dh us));rw[ME];refine Fits.tupLe (m:=m) (n:=n) (by simp_all) (λd hd=>?_) f
 obtain⟨u,hu,rfl⟩:=Uc.mp hd;exact(h u hu).f
def vU      (h:Ft n k u)(f:n<=16000000)(j:k<=60)(q:Q (.str (pd u).shown) G):zk [u] G Q:=wU h.b (h.f.mono f j) q
theorem Ff     : ∀{xs } (I:Nat->Sg->Gp->Prop) (_:∀f G,I xs.length f G->ok G/\k f G)
  (_:∀i x f G K ,xs[i]?=ma x->I i f G->(∀j q,I (i+1) j q->K j q)->ok G/\b x f G K) {f } {G } (_:I 0 f G),forL ok b xs f G k
 |[],_,h0,_,_,_,h=>h0 _ _ h
 |x::_,I,h0,h1,_,_,h=>h1 0 x _ _ _ rfl h λ_ _ z=>Ff (λi=>I (i+1)) h0 (λi y f G K e F hk=>h1 (i+1) y f G K e F hk) z
theorem jg     : ∀{xs } (I:Nat->List U->Gp->Prop) (_:∀acc G,I xs.length acc G->ok G/\k acc G)
  (_:∀i x acc G K ,xs[i]?=ma x->I i acc G->(∀u f,I (i+1) (acc++[u]) f->K (ma u) f)->(∀f,I (i+1) acc f->K Aa f)->ok G/\b x G K) {acc } {G } (_:I 0 acc G),ji ok b xs acc G k
 |[],_,h0,_,_,_,h=>h0 _ _ h
 |x::_,I,h0,h1,_,_,h=>h1 0 x _ _ _ rfl h (λ_ _ j=>jg (λi=>I (i+1)) h0 (λi y a G K e q hk z=>h1 (i+1) y a G K e q hk z) j) (λ_ j=>jg (λi=>I (i+1)) h0 (λi y a G K e q hk z=>h1 (i+1) y a G K e q hk z) j)
theorem Mk       f (j:ok G):∀{xs } (_:∀x∈xs,∀K ,K (ma (f x)) G->b x G K) {acc } (_:k (acc++xs.map f) G),ji ok b xs acc G k
 |[],_,acc,q=>⟨j,by simpa using q⟩
 |x::xs,hb,acc,q=>⟨j,hb x Re _ (Mk f j (λy z=>hb y (Jd _ z)) (by simpa using q))⟩
def yf   i n:(rngU i n).length=n:=by unfold rngU;simp
def Fh    (h:(rngU 0 n)[i]?=ma x):i<n/\x=.int i:=by
 unfold rngU at h;rw[md]at h;by_cases f:i<n
 ·rw[RL f]at h;exact⟨f,by simpa using h.symm⟩
 ·rw[cD (by simpa using f)]at h
  cases h
def zq   (f:α->q)(l:List α) i:atI (l.map f) i=(atI l i).map f:=by
 unfold atI;rw[Hb];cases mh l.length i with
 |none=>rfl
 |some j=>simp
def Th   (a:α) l:atI (a::l) 0=ma a:=Ag (xs:=a::l) (j:=0) rfl
def Af   (a b:α) l:atI (a::b::l) 1=ma b:=Ag (xs:=a::b::l) (j:=1) rfl
def FQ    a b c d (l:List α):atI (a::b::c::d::l) 3=ma d:=Ag (xs:=a::b::c::d::l) (j:=3) rfl
def Vu   {l:List α}{r:Int}(h0:0<=r)(q:r<l.length):∃x,x∈l/\atI l r=ma x:=by
 obtain⟨j,rfl⟩:=Vi h0;have f:j<l.length:=by lia
 exact⟨l[j],zi f,Ag (Cc f)⟩
noncomputable def Vd  (c:Ea)(a l t:Int):List (uc×U):=[(.inr "cells",.loc c),(.inr "at",.int a),(.inr "left",.int l),(.inr "turn",.int t)]
structure Fd (G:Gp)(f c:Ea):Prop where
 ex:∃(ns:List Int) (a l t:Int),G f=ma (.dK (Vd c a l t))/\G c=ma (.lst (ns.map .int))/\ns≠[]
def k_ca  : ¬((Qb ("cells" : Str):uc)=Qb ("at" : Str)):=by decide +kernel
def k_cl  : ¬((Qb ("cells" : Str):uc)=Qb ("left" : Str)):=by decide +kernel
def k_ct  : ¬((Qb ("cells" : Str):uc)=Qb ("turn" : Str)):=by decide +kernel
def k_al  : ¬((Qb ("at" : Str):uc)=Qb ("left" : Str)):=by decide +kernel
def k_at  : ¬((Qb ("at" : Str):uc)=Qb ("turn" : Str)):=by decide +kernel
def k_lt  : ¬((Qb ("left" : Str):uc)=Qb ("turn" : Str)):=by decide +kernel

def tV  : dGet (Vd c a l t) (.inr "cells")=ma (.loc c):=by simp[dGet,Vd]
def g_at  : dGet (Vd c a l t) (.inr "at")=ma (.int a):=by simp[dGet,Vd,k_ca,-Cn]
def YS  : dGet (Vd c a l t) (.inr "left")=ma (.int l):=by simp[dGet,Vd,k_cl,k_al,-Cn]
def FE  : dGet (Vd c a l t) (.inr "turn")=ma (.int t):=by simp[dGet,Vd,k_ct,k_at,k_lt,-Cn]
def KE   x:dPut (Vd c a l t) (.inr "turn") (.int x)=Vd c a l x:=by simp[dPut,Vd,k_ct,k_at,k_lt,-Cn]
def p_at   x:dPut (Vd c a l t) (.inr "at") (.int x)=Vd c x l t:=by simp[dPut,Vd,k_ca,Ta k_al,Ta k_at,-Cn]
def EU   x:dPut (Vd c a l t) (.inr "left") (.int x)=Vd c a x t:=by simp[dPut,Vd,k_cl,k_al,Ta k_lt,-Cn]
def rS   : Hk [((Qb ("cells" : Str):uc),U.loc p),(.inr "at",.int 0),(.inr "left",.int 0),(.inr "turn",.int 0)]=Vd p 0 0 0:=by
 simp[Hk,dPut,Vd,k_ca,k_cl,k_ct,k_al,k_at,k_lt,-Cn]
def Ju  : (Vd c a l t).length<Fb:=by show 4<Fb;decide
def Fd.put       (p:Lh G f (.dK (Vd c a l t)) G')(h:G f=ma (.dK kvs))(q:G c=ma (.lst (ns.map .int)))(j:ns≠[]):Fd G' f c:=
 ⟨ns,a,l,t,p.at,p.sm _ _ (λz=>by lia) q,j⟩
def Fd.sa    (h:Fd G f c)(s:Sa G G'):Fd G' f c:=let ⟨q,a,l,t,j,z,y⟩:=h.ex;⟨q,a,l,t,s _ _ j,s _ _ z,y⟩
def Fd.new     (h:Fd G f c)(n:Fl G p o G'):Fd G' f c:=h.sa n.sa
def Fd.away     (h:Fd G f c)(n:Fl G p o G'):p≠f/\p≠c:=by
 obtain⟨y,a,l,t,j,q,_⟩:=h.ex;exact⟨Li j n.no,Li q n.no⟩
def Fd.off     (h:Fd G f c)(j:p≠f/\p≠c)(w:Lh G p o G'):Fd G' f c:=let ⟨q,a,l,t,y,F,z⟩:=h.ex;⟨q,a,l,t,w.sm _ _ (Ta j.1) y,w.sm _ _ (Ta j.2) F,z⟩
def Sm.wr     (s1:Sm f G G1)(n:G1 p=Aa)(s2:Sm f G G2)(w:Lh G2 p o q):Sm f G q:=λb u j e=>w.sm b u (λz=>by
 have:=s1 _ _ j e
 lia) (s2 b u j e)
def Sm.nw     (s:Sm f G G1)(n:Fl G1 p o G2):Sm f G G2:=s.trans n.sa.sm
theorem Y2         i:(Wa gs Δ (.v i)).1 f G Q X=(slot f i λu=>Q u G):=rfl
theorem F2         i:(Wa gs Δ (.v i)).2 j G R X=(Wa gs Δ (.v i)).1 j G (λx f=>truU x f λb=>R b f) X:=rfl
theorem BP         : (Wa gs Δ (.non)).1 f G Q X=(Q .non G):=rfl
theorem D_bl         b:(Wa gs Δ (.bl b)).1 f G Q X=(Q (.bl b) G):=rfl
theorem eO         i:(Wa gs Δ (.int i)).1 f G Q X=(Q (.int i) G):=rfl
theorem FP         x:(Wa gs Δ (.str x)).1 f G Q X=(Q (.str x) G):=rfl
theorem Z2         n:(Wa gs Δ (.g n)).1 f G Q X=(Vq gs n λu=>Q u G):=rfl
theorem N2         n:(Wa gs Δ (.g n)).2 j G R X=(Wa gs Δ (.g n)).1 j G (λx f=>truU x f λb=>R b f) X:=rfl
theorem D_ty         n:(Wa gs Δ (.ty n)).1 f G Q X=(Q (.ty n) G):=rfl
theorem T_ty         n:(Wa gs Δ (.ty n)).2 j G R X=(Wa gs Δ (.ty n)).1 j G (λx f=>truU x f λb=>R b f) X:=rfl
theorem XN         o a b:(Wa gs Δ (.bin o a b)).1 f G Q X=((Wa gs Δ a).1 f G (λx j=>(Wa gs Δ b).1 f j (λy q=>binU o x y q Q) X) X):=rfl
theorem mP         o a b:(Wa gs Δ (.bin o a b)).2 j G R X=(Wa gs Δ (.bin o a b)).1 j G (λx f=>truU x f λb=>R b f) X:=rfl
theorem zP         a:(Wa gs Δ (.neg a)).1 f G Q X=((Wa gs Δ a).1 f G (λx j=>negU x j Q) X):=rfl
theorem ZN         o a b:(Wa gs Δ (.cmp o a b)).1 f G Q X=((Wa gs Δ a).1 f G (λx q=>(Wa gs Δ b).1 f q (λy j=>cmpU o x y j λc=>Q (.bl c) j) X) X):=rfl
theorem oP         o a b:(Wa gs Δ (.cmp o a b)).2 j G R X=(Wa gs Δ (.cmp o a b)).1 j G (λx f=>truU x f λb=>R b f) X:=rfl
theorem VO         o p a b c:(Wa gs Δ (.cmp2 o p a b c)).1 f G Q X=((Wa gs Δ a).1 f G (λx F=>(Wa gs Δ b).1 f F (λy j=>cmpU o x y j λt=>if t=ua then (Wa gs Δ c).1 f j (λz q=>cmpU p y z q λt'=>Q (.bl t') q) X else Q (.bl Ca) j) X) X):=rfl
theorem tQ         o p a b c:(Wa gs Δ (.cmp2 o p a b c)).2 j G R X=(Wa gs Δ (.cmp2 o p a b c)).1 j G (λx f=>truU x f λb=>R b f) X:=rfl
theorem GP         es:(Wa gs Δ (.tup es)).1 f G Q X=(Wf gs Δ es f G (λus j=>us.length<=Fb/\Q (.tup us) j) X):=rfl
theorem jO         es:(Wa gs Δ (.lst es)).1 f G Q X=(Wf gs Δ es f G (λus j=>us.length<=Fb/\newO j (.lst us) Q) X):=rfl
theorem aO         es:(Wa gs Δ (.dic es)).1 f G Q X=(denD gs Δ es f G (λkvs j=>kvs.length<=15/\newO j (.dK (Hk kvs)) Q) X):=rfl
theorem D_ix         a b:(Wa gs Δ (.ix a b)).1 f G Q X=((Wa gs Δ a).1 f G (λx j=>(Wa gs Δ b).1 f j (λy q=>qf x y q Q) X) X):=rfl
theorem T_ix         a b:(Wa gs Δ (.ix a b)).2 j G R X=(Wa gs Δ (.ix a b)).1 j G (λx f=>truU x f λb=>R b f) X:=rfl
theorem D_sl         a lo hi:(Wa gs Δ (.sl a lo hi)).1 f G Q X=((Wa gs Δ a).1 f G (λx j=>denO gs Δ lo f j (λl y=>denO gs Δ hi f y (λh q=>pk x l h q Q) X) X) X):=rfl
theorem DP         a b:(Wa gs Δ (.rev a b)).1 f G Q X=((Wa gs Δ a).1 f G (λx j=>(Wa gs Δ b).1 f j (λy q=>revU x y q Q) X) X):=rfl
theorem UO         n es:(Wa gs Δ (.call n es)).1 f G Q X=(Wf gs Δ es f G (λus j=>Δ n us j Q X) X):=rfl
theorem sQ         n es:(Wa gs Δ (.call n es)).2 j G R X=(Wa gs Δ (.call n es)).1 j G (λx f=>truU x f λb=>R b f) X:=rfl
theorem YN         b es:(Wa gs Δ (.blt b es)).1 f G Q X=(Wf gs Δ es f G (λus j=>bltU b us j Q) X):=rfl
theorem nP         b es:(Wa gs Δ (.blt b es)).2 j G R X=(Wa gs Δ (.blt b es)).1 j G (λx f=>truU x f λb=>R b f) X:=rfl
theorem WO {q:List U}{f:Cl}{j:Sg}{G:Gp}{Q:K1}{X:KX}(m:Mth)(o:E)(z:Es):(Wa q f (.meth m o z)).1 j G Q X=((Wa q f o).1 j G (λx y=>match xg m x y with|some _=>Wf q f z j y (λus F=>Of m x us F Q) X|none=>False) X):=rfl
theorem D_lc         pick t it ifs e:(Wa gs Δ (.lc pick t it ifs e)).1 q G Q X=(denI gs Δ it q G (λxs ok F=>xs.length<=Fb/\ji ok (λx y k=>Qc t x (gg pick q) λj=>denC gs Δ ifs j y (λb f=>if b=ua then (Wa gs Δ e).1 j f (λu z=>k (ma u) z) (λ_ _=>False) else k Aa f)) xs [] F λus I=>newO I (.lst us) Q) X):=rfl
theorem iO         pick t it ifs t2 it2 ifs2 e:(Wa gs Δ (.lc2 pick t it ifs t2 it2 ifs2 e)).1 O G Q X=(denI gs Δ it O G (λxs ok Z=>xo ok (λx acc Y k=>Qc t x (gg pick O) λq=>denC gs Δ ifs q Y (λb F=>if b=ua then denI gs Δ it2 q F (λys j G4=>acc.length+ys.length<=Fb/\ji j (λy z I=>Qc t2 y q λf=>denC gs Δ ifs2 f z (λR J=>if R=ua then (Wa gs Δ e).1 f J (λu G7=>I (ma u) G7) (λ_ _=>False) else I Aa J)) ys acc G4 k) (λ_ _=>False) else k acc F)) xs [] Z λus z=>newO z (.lst us) Q) X):=rfl
theorem qP         pick t it ifs t2 it2 ifs2 e:(Wa gs Δ (.lc2 pick t it ifs t2 it2 ifs2 e)).2 j G R X=(Wa gs Δ (.lc2 pick t it ifs t2 it2 ifs2 e)).1 j G (λx f=>truU x f λb=>R b f) X:=rfl
theorem OQ         e:(Wa gs Δ (.sset e)).1 f G Q X=((Wa gs Δ e).1 f G (λx j=>Bo x j Q) X):=rfl
theorem uQ         e:(Wa gs Δ (.sset e)).2 j G R X=(Wa gs Δ (.sset e)).1 j G (λx f=>truU x f λb=>R b f) X:=rfl
theorem mO         e:(Wa gs Δ (.mkD e)).1 f G Q X=((Wa gs Δ e).1 f G (λx j=>mkDU x j Q) X):=rfl
theorem rP         e:(Wa gs Δ (.mkD e)).2 j G R X=(Wa gs Δ (.mkD e)).1 j G (λx f=>truU x f λb=>R b f) X:=rfl
theorem oO         e:(Wa gs Δ (.mkL e)).1 j G Q X=((Wa gs Δ e).1 j G (λx f=>Ig x f λxs _=>newO f (.lst xs) Q) X):=rfl
theorem yP         e:(Wa gs Δ (.mkT e)).1 j G Q X=((Wa gs Δ e).1 j G (λx f=>Ig x f λxs _=>Q (.tup xs) f) X):=rfl
theorem CP         a:(Wa gs Δ (.not a)).1 j G Q X=((Wa gs Δ a).1 j G (λx f=>truU x f λb=>Q (.bl (!b)) f) X):=rfl
theorem sP         a:(Wa gs Δ (.not a)).2 f G R X=((Wa gs Δ a).2 f G (λb j=>R (!b) j) X):=rfl
theorem bO         c a b:(Wa gs Δ (.ife c a b)).1 f G Q X=((Wa gs Δ c).2 f G (λt j=>if t=ua then (Wa gs Δ a).1 f j Q X else (Wa gs Δ b).1 f j Q X) X):=rfl
theorem pP         c a b:(Wa gs Δ (.ife c a b)).2 f G R X=((Wa gs Δ c).2 f G (λt j=>if t=ua then (Wa gs Δ a).2 f j R X else (Wa gs Δ b).2 f j R X) X):=rfl
theorem SO      : Wa gs Δ (.bop k a .nil)=Wa gs Δ a:=rfl
theorem WN          : (Wa gs Δ (.bop ua a (.cons b es))).1 j G Q X=(Wa gs Δ a).1 j G (λx f=>truU x f λc=>if c=ua then (Wa gs Δ (.bop ua b es)).1 j f Q X else Q x f) X:=rfl
theorem D_or          : (Wa gs Δ (.bop Ca a (.cons b es))).1 j G Q X=(Wa gs Δ a).1 j G (λx f=>truU x f λc=>if c=ua then Q x f else (Wa gs Δ (.bop Ca b es)).1 j f Q X) X:=rfl
theorem lP          : (Wa gs Δ (.bop ua a (.cons b es))).2 f G R X=(Wa gs Δ a).2 f G (λc j=>if c=ua then (Wa gs Δ (.bop ua b es)).2 f j R X else R Ca j) X:=rfl
theorem T_or          : (Wa gs Δ (.bop Ca a (.cons b es))).2 f G R X=(Wa gs Δ a).2 f G (λc j=>if c=ua then R ua j else (Wa gs Δ (.bop Ca b es)).2 f j R X) X:=rfl
theorem O_no        : denO gs Δ .no f G Q X=Q Aa G:=rfl
theorem O_so {j:List U}{f:Cl}{q:Sg}{G:Gp}{X:KX}{Q:Option Int->Gp->Prop}{e:E}:denO j f (.so e) q G Q X=(Wa j f e).1 q G (λx y=>match x with|.int i=>Q (ma i) y|_=>False) X:=rfl
theorem TN        : Wf gs Δ .nil f G Q X=Q [] G:=rfl
theorem OO          : Wf gs Δ (.cons e es) f G Q X=(Wa gs Δ e).1 f G (λx j=>Wf gs Δ es f j (λxs q=>Q (x::xs) q) X) X:=rfl
theorem VN       : denC gs Δ .nil f G Q=Q ua G:=rfl
theorem RO         : denC gs Δ (.cons e es) f G Q=(Wa gs Δ e).2 f G (λb j=>if b=ua then denC gs Δ es f j Q else Q Ca j) (λ_ _=>False):=rfl
theorem eP        : denD gs Δ .nil f G Q X=Q [] G:=rfl
theorem oQ {z:List U}{j:Cl}{q:Sg}{G:Gp}{X:KX}{Q:List (uc×U)->Gp->Prop}{e f:E}{F:Es}:denD z j (.cons e (.cons f F)) q G Q X=(Wa z j e).1 q G (λx J=>(Wa z j f).1 q J (λy I=>match kU x with|some k=>denD z j F q I (λkvs O=>Q ((k,y)::kvs) O) X|none=>False) X) X:=rfl
theorem V2         : denI gs Δ (.e e) j G Q X=(Wa gs Δ e).1 j G (λx f=>Ig x f λxs ok=>Q xs ok f) X:=rfl
theorem I_r1 {q:List U}{f:Cl}{y:Sg}{G:Gp}{X:KX}{Q:List U->(Gp->Prop)->Gp->Prop}{e:E}:denI q f (.r1 e) y G Q X=(Wa q f e).1 y G (λx z=>match x with|.int j=>-(2 ^ 62)<=j/\j<2 ^ 62/\Q (rngU 0 j.toNat) (λ_=>True) z|_=>False) X:=rfl
theorem YQ         : denI gs Δ (.enum e) j G Q X=(Wa gs Δ e).1 j G (λx f=>Wq x f λxs ok=>Q xs ok f) X:=rfl
theorem YO        : denF gs Δ .nil f G Q X=Q [] G:=rfl
theorem PQ          : denF gs Δ (.cons e es) f G Q X=(Wa gs Δ e).1 f G (λx q=>fpU x λz=>denF gs Δ es f q (λj y=>Q (z::j) y) X) X:=rfl
theorem I_dv         : denI gs Δ (.dv e) f G Q X=(Wa gs Δ e).1 f G (λx j=>mi Fi x j Q) X:=rfl
theorem I_di         : denI gs Δ (.di e) f G Q X=(Wa gs Δ e).1 f G (λx j=>mi Ik x j Q) X:=rfl
theorem qQ        : denS gs Δ (.expr e) D f G=(Wa gs Δ e).1 f G (λ_ j=>D.nx f j) λx j=>D.ex x f j:=rfl
theorem fP         : denS gs Δ (.asg t e) D f G=(Wa gs Δ e).1 f G (λu q=>Qc t u f λj=>D.nx j q) λx q=>D.ex x f q:=rfl
theorem pQ         : denS gs Δ (.asgC i e) D f G=(Wa gs Δ e).1 f G (λu j=>D.nx (f.set i (ma u)) j) λx j=>D.ex x f j:=rfl
theorem rQ        : denS gs Δ (.setS o i e) D j G=(Wa gs Δ e).1 j G (λv f=>(Wa gs Δ o).1 j f (λx q=>(Wa gs Δ i).1 j q (λy F=>setU x y v F λz=>D.nx j z) (λx f=>D.ex x j f)) (λx f=>D.ex x j f)) (λx f=>D.ex x j f):=rfl
theorem jP         : denS gs Δ (.par is es) D f G=Wf gs Δ es f G (λus j=>us.length=is.length/\D.nx ((is.zip us).foldl (λs p=>s.set p.1 (ma p.2)) f) j) λx j=>D.ex x f j:=rfl
theorem gP          : denS gs Δ (.aug i o e) D f G=slot f i λx=>(Wa gs Δ e).1 f G (λy j=>qu o x y j λz q=>D.nx (f.set i (ma z)) q) λx j=>D.ex x f j:=rfl
theorem iP         : denS gs Δ (.ite c a b) D f G=(Wa gs Δ c).2 f G (λt j=>if t=ua then Ze gs Δ a D f j else Ze gs Δ b D f j) λx j=>D.ex x f j:=rfl
theorem S_fr          : denS gs Δ (.fr t it b) D q G=denI gs Δ it q G (λxs ok f=>forL ok (λx j z k=>Qc t x j λy=>Ze gs Δ b { D with nx:=k } y z) xs q f D.nx) λx f=>D.ex x q f:=rfl
theorem kP        : denS gs Δ (.ret e) D f G=(Wa gs Δ e).1 f G D.rt λx j=>D.ex x f j:=rfl
theorem UN       : Ze gs Δ .nil D f G=D.nx f G:=rfl
theorem QO         : Ze gs Δ (.cons s r) D j G=denS gs Δ s { D with nx:=λf q=>Ze gs Δ r D f q } j G:=rfl
def S_wh         : denS gs Δ (.wh c b) D F G=∃W:Nat->Sg->Gp->Prop,(∃m,W m F G)/\∀m f j,W m f j->(Wa gs Δ c).2 f j (λt z=>if t=ua then Ze gs Δ b { D with nx:=λq I=>∃y,y<m/\W y q I } f z else D.nx f z) λx j=>D.ex x f j:=rfl
theorem tP     : binU .Add (.int i) (.int j) G Q=Q (.int (i+j)) G:=rfl
theorem uP     : binU .Add (.tup xs) (.tup ys) G Q=(xs.length+ys.length<=Fb/\Q (.tup (xs++ys)) G):=rfl
theorem wQ     : binU .Add (.loc a) (.loc b) G Q=∃xs ys,G a=ma (.lst xs)/\G b=ma (.lst ys)/\xs.length+ys.length<=Fb/\newO G (.lst (xs++ys)) Q:=rfl
theorem qO     : binU .Sub (.int i) (.int j) G Q=Q (.int (i-j)) G:=rfl
theorem wP     : binU .Mult (.int i) (.int j) G Q=(CMul i j/\Q (.int (i*j)) G):=rfl
theorem yQ      : binU .Mult (.loc a) (.int k) G Q=∃xs,G a=ma (.lst xs)/\-(2 ^ 63)<=k/\k<2 ^ 63/\xs.length*k.toNat<=Fb/\newO G (.lst (Zb k.toNat xs).flatten) Q:=rfl
theorem zQ      : binU .Mult (.tup xs) (.int k) G Q=(xs≠[]/\0<=k/\k<2 ^ 62/\xs.length*k.toNat<=Fb/\Q (.tup (Zb k.toNat xs).flatten) G):=rfl
theorem xQ     : binU .FloorDiv (.int i) (.int j) G Q=(0<j/\j<1073741824/\Q (.int (i/j)) G):=rfl
theorem vP     : binU .Mod (.int i) (.int j) G Q=(0<j/\Q (.int (i%j)) G):=rfl
theorem pO     : binU .Pow (.int i) (.int j) G Q=(CPow i j/\Q (.int (i ^ j.toNat)) G):=rfl
theorem xP     : negU (.int i) G Q=Q (.int (-i)) G:=rfl
theorem uO     : cmpU .Eq (.int i) (.int j) G k=k (decide (i=j)):=rfl
theorem zO     : cmpU .NotEq (.int i) (.int j) G k=k (!decide (i=j)):=rfl
theorem wO     : cmpU .Eq (.str i) (.str j) G k=k (decide (i=j)):=rfl
theorem BO     : cmpU .NotEq (.str i) (.str j) G k=k (!decide (i=j)):=rfl
theorem W_lt     : cmpU .Lt (.int i) (.int j) G k=k (decide (i<j)):=rfl
theorem W_le     : cmpU .LtE (.int i) (.int j) G k=k (decide (i<=j)):=rfl
theorem W_gt     : cmpU .Gt (.int i) (.int j) G k=k (decide (j<i)):=rfl
theorem CO     : cmpU .NotEq (.tup xs) (.tup ys) G k=eqU (.tup xs) (.tup ys) G λb=>k (!b):=rfl
theorem xO      : cmpU .Eq (.tup xs) (.tup (y::ys)) G k=eqU (.tup xs) (.tup (y::ys)) G k:=rfl
theorem CQ     : cmpU .Eq (.tup xs) (.tup []) G k=k xs.isEmpty:=rfl
theorem AO     : cmpU .NotEq (.loc a) (.loc b) G k=eqU (.loc a) (.loc b) G λb=>k (!b):=rfl
theorem vO     : cmpU .Eq (.loc a) (.loc b) G k=eqU (.loc a) (.loc b) G k:=rfl
theorem W_in     : cmpU .In x y G k=nh x y G k:=rfl
theorem DO     : cmpU .NotIn x y G k=nh x y G λb=>k (!b):=rfl
theorem W_is     : cmpU .Is x y G k=gj x y k:=rfl
theorem yO     : cmpU .IsNot x y G k=gj x y λb=>k (!b):=rfl
theorem Y_bl     : truU (.bl b) G k=k b:=rfl
theorem JO    : truU .non G k=k Ca:=rfl
theorem GO     : truU (.int i) G k=k (i != 0):=rfl
theorem KO     : truU (.tup xs) G k=k (!xs.isEmpty):=rfl
theorem bP     : Ig (.tup xs) G k=k xs λ_=>True:=rfl
theorem FO      : pk (.tup xs) lo hi G Q=Q (.tup (cut xs lo hi)) G:=rfl
theorem JP     : bltU .len us G Q=lenU us G Q:=rfl
theorem WQ     : bltU .repr us G Q=zk us G Q:=rfl
theorem XO     : bltU .min us G Q=minU us G Q:=rfl
theorem ZO     : bltU .sum us G Q=sumU us G Q:=rfl
theorem oR     : bltU .sorted us G Q=Lj us G Q:=rfl
theorem HP     : bltU .int us G Q=intU us G Q:=rfl
theorem IP     : bltU .isi us G Q=yo us G Q:=rfl
theorem EO      : pk (.str x) lo hi G Q=(x.length<=Fb/\Q (.str (Vv x lo hi)) G):=rfl
theorem vQ      : binU .Add (.bl b) (.int j) G Q=Q (.int ((if b=ua then (1:Int) else 0)+j)) G:=rfl
theorem AQ      : binU .Sub (.bl b) (.int j) G Q=Q (.int ((if b=ua then (1:Int) else 0)-j)) G:=rfl
theorem BQ      : binU .Sub (.int i) (.bl b) G Q=Q (.int (i-if b=ua then (1:Int) else 0)) G:=rfl
theorem TQ     : lenU [.tup xs] G Q=Q (.int xs.length) G:=rfl
theorem VQ     : minU [.int i,.int j] G Q=Q (.int (if j<i then j else i)) G:=rfl
theorem UQ     : maxU [.int i,.int j] G Q=Q (.int (if j>i then j else i)) G:=rfl
theorem RQ     : intU [.bl b] G Q=Q (.int (if b then 1 else 0)) G:=rfl
theorem SQ     : intU [.int i] G Q=Q (.int i) G:=rfl
theorem X2      : Qc (.n i) u f k=k (f.set i (ma u)):=rfl
theorem W2      : Qc (.t ts) (.tup us) f k=tgsU ts us f k:=rfl
theorem aP     : tgsU .nil us f k=(us=[]/\k f):=rfl
theorem XQ        : tgsU (.cons t ts) (u::r) j k=Qc t u j λf=>tgsU ts r f k:=rfl
theorem sl_0   {f:Sg}:slot (ma u::f) 0 k=k u:=rfl
theorem sl_s   {f:Sg}:slot (o::f) (i+1) k=slot f i k:=rfl
def Lk      : putO G a o Q=Q (Ed G a o):=propext ⟨λh=>h.at,λh f p=>by rw[p.eq];exact h⟩
def ix_t       (h:atI xs i=ma u):qf (.tup xs) (.int i) G Q=Q u G:=by unfold qf;lia
def ix_l        (g:G a=ma (.lst xs))(h:atI xs i=ma u):qf (.loc a) (.int i) G Q=Q u G:=by unfold qf;lia
def ix_d        (g:G a=ma (.dK kvs))(h:dGet kvs (.inr x)=ma u):qf (.loc a) (.str x) G Q=Q u G:=by unfold qf;dsimp only;rw[g];show(match dGet kvs (.inr x)with|some u=>Q u G|none=>False)=_;rw[h]
def IV       (g:G a=ma (.lst xs))(h0:0<=r)(f:r<xs.length)(q:∀u∈xs,Q u G):qf (.loc a) (.int r) G Q:=by
 obtain⟨u,hu,e⟩:=Vu h0 f;rw[ix_l g e];exact q u hu
def fv  (f:List Int){r:Int}(g:G a=ma (.lst (f.map .int)))(h0:0<=r)(j:r<f.length)(q:∀z∈f,Q (.int z) G):qf (.loc a) (.int r) G Q:=
 IV g h0 (by simp_all) λu hu=>by
  grind
theorem dH  : ∀f ,Ck (f.map .int)=ma f
 |[]=>rfl
 |x::r=>by show(match Ck (r.map .int)with|some l=>ma (x::l)|none=>Aa)=_;rw[dH r]
def in_l       (g:G a=ma (.lst ys))(f:flat x=ua)(j:ys.all flat=ua)(q:k (ys.any λy=>Pj y x)):nh x (.loc a) G k:=by
 cases x<;>first|(cases f;done)|(unfold nh;lia)
def tq      (g:G a=ma (.lst xs)):lenU [.loc a] G Q=Q (.int xs.length) G:=by unfold lenU;lia
def UP      (g:G a=ma (.fro xs)):lenU [.loc a] G Q=Q (.int xs.length) G:=by unfold lenU;lia
def it_l      (g:G a=ma (.lst xs)):Ig (.loc a) G k=k xs λf=>Rc f a=ma xs:=by unfold Ig;dsimp only;have e:Rc G a=ma xs:=(by unfold Rc;rw[g]);rw[e]
def Sh       (g:G a=ma (.lst xs)):Of .append (.loc a) [v] G Q=(xs.length<Fb/\putO G a (.lst (xs++[v])) (Q .non)):=by unfold Of gA;dsimp only;rw[g]
def dh     (g:G a=ma (.lst xs)):xg .append (.loc a) G=ma ("list", "list.append"):=by unfold xg;lia
def ER         (g:G a=ma (.lst xs))(h:mh xs.length i=ma j):setU (.loc a) (.int i) v G Q=putO G a (.lst (xs.set j v)) Q:=by unfold setU;lia
def Bu        (g:G a=ma (.dK kvs)):setU (.loc a) (.str x) v G Q=(kvs.length<Fb/\putO G a (.dK (dPut kvs (.inr x) v)) Q):=by unfold setU;dsimp only;rw[g];rfl
def EV   (h:j<n):mh n (j:Int)=ma j:=by unfold mh;simp_all
noncomputable def mu  : Nat->Ss->Ss
 |0,s=>s
 |_+1,.nil=>.nil
 |n+1,.cons _ r=>mu n r
theorem dr_0   : mu 0 s=s:=rfl
theorem dr_s     : mu (n+1) (.cons s r)=mu n r:=rfl
theorem DQ   : gg [] f=[]:=rfl
theorem nQ    : gg (Aa::r) f=Aa::gg r f:=rfl
theorem bS     : gg (ma j::r) f=(f[j]?).join::gg r f:=rfl
theorem dP   : kU (.str x)=ma (.inr x):=rfl
theorem cP   : kU (.int i)=ma (.inl i):=rfl
def sl_f       (g:G a=ma (.fro xs)):pk (.loc a) lo hi G Q=newO G (.lst (cut xs lo hi)) Q:=by unfold pk;dsimp only;have e:Rc G a=ma xs:=(by unfold Rc;rw[g]);rw[e]
def TV   (f:α->j)(xs:List α) lo hi:cut (xs.map f) lo hi=(cut xs lo hi).map f:=by unfold cut;simp_all
def Do   (xs:List α)(n:Nat):cut xs Aa (ma (n:Int))=xs.take n:=by
 unfold cut;rw[HT.sIx_none,HT.sIx_nat,lC,Nat.sub_zero,List.take_eq_take_iff]
 lia
def UG   (xs:List α)(n:Nat):cut xs (ma (n:Int)) Aa=xs.drop n:=by
 unfold cut;rw[HT.sIx_none,HT.sIx_nat];by_cases h:n<=xs.length
 ·rw[jw h,Zj (by simp)]
 ·rw[Nat.min_eq_right (by lia),Ln (Mb _),Ln (by lia),List.take_nil]
theorem pR      : qf (.loc f) (.str "cells") (Ed G f (.dK (Vd c a l t))) Q=Q (.loc c) (Ed G f (.dK (Vd c a l t))):=ix_d Gf tV
theorem NO      : qf (.loc f) (.str "at") (Ed G f (.dK (Vd c a l t))) Q=Q (.int a) (Ed G f (.dK (Vd c a l t))):=ix_d Gf g_at
theorem NQ      : qf (.loc f) (.str "left") (Ed G f (.dK (Vd c a l t))) Q=Q (.int l) (Ed G f (.dK (Vd c a l t))):=ix_d Gf YS
theorem KP      : qf (.loc f) (.str "turn") (Ed G f (.dK (Vd c a l t))) Q=Q (.int t) (Ed G f (.dK (Vd c a l t))):=ix_d Gf FE
theorem LO      : setU (.loc f) (.str "at") (.int x) (Ed G f (.dK (Vd c a l t))) Q=Q (Ed G f (.dK (Vd c x l t))):=by rw[Bu Gf,p_at,Lk,Um];exact propext ⟨λh=>h.2,λh=>⟨Ju,h⟩⟩
theorem LQ      : setU (.loc f) (.str "left") (.int x) (Ed G f (.dK (Vd c a l t))) Q=Q (Ed G f (.dK (Vd c a x t))):=by rw[Bu Gf,EU,Lk,Um];exact propext ⟨λh=>h.2,λh=>⟨Ju,h⟩⟩
theorem MQ      : setU (.loc f) (.str "turn") (.int x) (Ed G f (.dK (Vd c a l t))) Q=Q (Ed G f (.dK (Vd c a l x))):=by rw[Bu Gf,KE,Lk,Um];exact propext ⟨λh=>h.2,λh=>⟨Ju,h⟩⟩
end Z

namespace Y
open PySem L2
noncomputable def nO  : Obj:=⟨.none,Aa,.fields ⟨[]⟩,⟨[]⟩⟩
noncomputable def tO  (v:List Da):Obj:=⟨.type "tuple",Aa,.seq ⟨v⟩ 0,⟨[]⟩⟩
noncomputable def sO  (c:Da)(v:List Da):Obj:=⟨c,Aa,.fields ⟨v⟩,⟨[]⟩⟩
noncomputable def rO  (v:List (Option Da)):Obj:=⟨.type "frame",Aa,.plain,⟨v⟩⟩
noncomputable def gO  (x q:Str)(s:Va):Obj:=⟨.none,Aa,.func { name:=x,qualname:=q,params:=Kj s,body:=.stmts (ig s),scope:=Pf s,globals:=0,closure:=[],defaults:=.none,kwdefaults:=.none },⟨[]⟩⟩
noncomputable def fO  (x q:Str)(s:Va)(m:Da)(c:Nat):Obj:=⟨.type "function",Aa,.func (Tj x q (Kj s) (ig s) (Pf s) .none .none .none m Aa (.ref c) .none),⟨[]⟩⟩
noncomputable def kO  (fi x q:Str)(t:Nat)(l a f:Int)(r:Nat)(b:Bool)(u v w:Da)(z:Nat):Obj:=⟨.type "code",Aa,.fields ⟨[.str x t,.str q (t+1),.str fi (t+2),.int l 0,.int a 0,.int 0 0,.int 0 0,.int f 0,.ref r,.bool b,.int 181 0,.ref (r+1),.none,u,v,w,.int z 0,.int l 0,.str fi (z+1)]⟩,⟨[]⟩⟩
noncomputable def dE  (P:Lc)(x:Str)(t:Nat)(v:Da):Zm:=⟨ub.keyHash P x,.str x t,v⟩
noncomputable def dO  (e:List Zm)(n:Nat):Obj:=⟨.type "dict",Aa,.dict ⟨e⟩ n,⟨[]⟩⟩
noncomputable def cO  (x:Str)(b m:List Da)(n:Nat)(u:List Da)(s:List (Option Da)):Obj:=⟨.type "type",Aa,.cls { name:=x,bases:=b,mro:=m,ns:=n,qualname:=x,subclasses:=u },⟨s⟩⟩
def tE  : Obj:=tO []
noncomputable abbrev bE  : Rk:=.nil
noncomputable abbrev bN  (o:Obj)(l r:Rk):Rk:=.node o l r
noncomputable abbrev bL  (o:Obj):Rk:=.node o .nil .nil
end Y
namespace Z
open PySem L2
noncomputable def argB  (ps:List Str)(a:Arguments):Bool:=a.posonlyargs.isEmpty&&(a.args.map (·.arg)==ps)&&a.vararg.isNone&&a.kwonlyargs.isEmpty&&a.kwarg.isNone
def uT  : ∀{ps:List Str} {us:List Da},us.length=ps.length->ps.Nodup->(ps.filterMap λn=>((ps.zip us).lookup n).map (n,·))=ps.zip us/\∀n∈ps,((ps.zip us).lookup n).isSome=ua:=by
 have y:∀{l:List Str} {vs:List Da} {L:List (Str×Da)},vs.length=l.length->l.Nodup->(∀(i:Nat) n v,l[i]?=ma n->vs[i]?=ma v->L.lookup n=ma v)->(l.filterMap λn=>(L.lookup n).map (n,·))=l.zip vs/\∀n∈l,(L.lookup n).isSome=ua:=by
  intro l
  induction l with
  |nil=>simp_all
  |cons x l q=>
   intro vs L j f z;obtain _|⟨v,vs⟩:=vs
   ·cases j
   ·have h0:=z 0 x v rfl rfl;obtain⟨O,I⟩:=q (L:=L) (vs:=vs) (by simp_all) (Jb.mp f).2 λi n v a b=>z (i+1) n v a b
    refine⟨?_,λn J=>?_⟩
    ·simp_all
    grind
 intro ps us j f;refine y j f λi n v a b=>?_;have F:(ps.zip us)[i]?=ma (n,v):=mC.mpr ⟨a,b⟩;have:∀(l:List (Str×Da)),(l.map (·.1)).Nodup->(n,v)∈l->l.lookup n=ma v:=by
  intro l
  induction l with
  |nil=>simp_all
  |cons p l q=>
   intro f h;obtain⟨m,u⟩:=p;rw[Mn];by_cases e:n=m
   ·subst e;rw[beq_self_eq_true];rcases Sc.mp h with h|h
    ·cases h;rfl
    ·exact absurd (Uc.mpr ⟨_,h,rfl⟩) (Jb.mp f).1
   ·rw[beq_eq_false_iff_ne.mpr e];rcases Sc.mp h with h|h
    ·cases h;exact absurd rfl e
    ·exact q (Jb.mp f).2 h
 exact this _ (by rw[List.map_fst_zip (by lia)];exact f) (Vc F)
def sF    (h:argB ps a=ua)(F:ps.Nodup){kV j O:Da}(y:us.length=ps.length) :
  Pl (Tj x q a b sc .none kV j O an z ct) ⟨us,[]⟩=pure (ps.zip us):=by
 obtain⟨po,f,va,ko,kd,ka,df⟩:=a;unfold argB at h;simp only[Kf,List.isEmpty_iff,Option.isNone_iff_eq_none,beq_iff_eq]at h;obtain⟨⟨⟨⟨rfl,rfl⟩,rfl⟩,rfl⟩,rfl⟩:=h;obtain⟨Y,I⟩:=uT y F;have Z:(List.filter (λn=>(RB n ((f.map (·.arg)).zip us)).isNone) (f.map (·.arg)))=[]:=List.filter_eq_nil_iff.mpr λn J=>by
  have:=I n J
  simp_all
 have e0:seqItems? ke=pure Aa:=rfl;unfold Pl;dsimp only;rw[e0];generalize f.map (·.arg)=ns at *;have R:ns.take (ns.length-0)=ns:=by simp_all
 simp[y,Y,Z,R]

abbrev FL:=List (Ea×Ea×Da)
noncomputable def refB  (v:Option (Option Da))(f:Ea):Bool:=match v with
 |some (ma (.ref a))=>a==f
 |_=>Ca
def uU    (h:refB v f=ua):v=ma (ma (.ref f)):=by
 unfold refB at h
 lia
noncomputable def dynB  (T:Nf)(K:Sb):Nat->FL->List Fun->List Va->Bool
 |_,[],[],[]=>ua
 |i,x::fs,d::ds,s::ss=>refB (Bn K Df d.name) x.1&&Br K (.ref x.2.1) d.name&&(match T.ns.lookup i with|none=>ua|some z=>Vz K (.ref x.2.1) z.P)&&argB d.ps (Kj s)&&dynB T K (i+1) fs ds ss
 |_,_,_,_=>Ca
noncomputable def wo  : FL->List Fun->List Va->List (Option Obj)
 |x::fs,d::ds,s::ss=>ma (Y.fO d.name d.name s x.2.2 x.2.1)::wo fs ds ss
 |_,_,_=>[]
theorem Iz  {T:Nf}:∀{i } {fs } {f } {ss },dynB T K i fs f ss=ua->fs.map (λx=>K.lookup x.1)=wo fs f ss->∀{n } {d } {s },f[n]?=ma d->ss[n]?=ma s->
  ∃x:Ea×Ea×Da,Bn K Df d.name=ma (ma (.ref x.1))/\K.lookup x.1=ma (Y.fO d.name d.name s x.2.2 x.2.1)/\Br K (.ref x.2.1) d.name=ua/\(∀z,T.ns.lookup (i+n)=ma z->Vz K (.ref x.2.1) z.P=ua)/\argB d.ps (Kj s)=ua
 |_,_,[],_,_,_,_,_,_,e,_=>by simp at e
 |_,_,_::_,[],_,_,_,_,_,_,e=>by simp at e
 |_,[],_::_,_::_,h,_,_,_,_,_,_=>by unfold dynB at h;cases h
 |i,x::fs,d::f,s::ss,h,g,n,d',s',e1,e2=>by
  unfold dynB at h;simp only[Kf]at h;obtain⟨⟨⟨⟨q,J⟩,O⟩,F⟩,I⟩:=h;unfold wo at g;rw[Se]at g;injection g with g1 g2
  cases n with
  |zero=>
   cases(Hd e1:d=d');cases(Hd e2:s=s');exact⟨x,uU q,g1,J,λz j=>by lia,F⟩
  |succ n=>
   obtain⟨y,q1,q2,q3,q4,q5⟩:=Iz I g2 (n:=n) e1 e2;exact⟨y,q1,q2,q3,λz j=>q4 z (by rw[show i+1+n=i+(n+1) by lia];exact j),q5⟩
def jE    (h:fo N ps f=ua):ps.Nodup:=by
 have S:=pE h;rw[<- S.pre];exact S.nd.sublist (Lw _ _)
def UF        (h:K.lookup f=ma ⟨c,d,.func q,j⟩):Cr K (.ref f)=ua:=by
 unfold Cr
 lia
section
variable {T:Nf}{K:Sb}{h:Cb}{mg:Str->Option Da}
def wT   {sts:List Va}(X:K.In h)(G:h.Ns Df mg)(f:Jj T 0 T.funs sts=ua)(j:Fk T sts 0 T.funs sts)(hB:dynB T K 0 fs T.funs sts=ua)(R:fs.map (λx=>K.lookup x.1)=wo fs T.funs sts):pD T K mg sts:=by
 intro n d st q y;obtain⟨x,q1,q2,q3,q4,q5⟩:=Iz hB R q y;have F:=EE (st:=st) q2 q3 (UF q2);obtain⟨J,e,O,_⟩:=Dq f j q;cases y.symm.trans e;exact⟨_,_,F,Jr X G q1,F.binds λ_ _ _ _ _ _ Y I=>sF q5 (jE O) I,λz Z=>q4 z (by lia)⟩
def bltB  (K:Sb):Bool:=Gk.all λx=>match Bn K Df x with
 |some Aa=>ua
 |_=>Ca
def rR  (X:K.In h)(G:h.Ns Df mg)(f:bltB K=ua):∀x∈Gk,mg x=Aa:=λx j=>by
 have:=Mi.mp f x j;refine PySem.W.mg_none_of X G ?_
 lia
noncomputable def Uq  (K:Sb):List Str->List U->Bool
 |[],[]=>ua
 |x::xs,u::us=>(match u,Bn K Df x with
  |.int i,ma (ma (.int j _))=>i==j
  |.str i,ma (ma (.str j _))=>i==j
  |_,_=>Ca)&&Uq K xs us
 |_,_=>Ca
theorem RD  (X:K.In h)(G:h.Ns Df mg):∀{xs } {us },Uq K xs us=ua->∀(n:Nat) x u ,xs[n]?=ma x->us[n]?=ma u->∃v w,mg x=ma w/\RelV v w/\∀H,RU K H u v
 |[],_,_,_,_,_,e,_=>by simp at e
 |_::_,[],_,_,_,_,_,e=>by simp at e
 |x::xs,u::us,hb,n,x',u',e1,e2=>by
  unfold Uq at hb;rw[Kf]at hb;cases n with
  |zero=>
   cases(Hd e1:x=x');cases(Hd e2:u=u');have f:=hb.1;split at f
   ·rename_i i j t q;cases eq_of_beq f;exact⟨.int i,_,Jr X G q,⟨_,rfl⟩,λ_=>rfl⟩
   ·rename_i i j t q;cases eq_of_beq f;exact⟨.str i,_,Jr X G q,⟨_,rfl⟩,λ_=>rfl⟩
   lia
  |succ n=>exact RD X G hb.2 n x' u' e1 e2
def Vs  (K:Sb):List Nat->Prop
 |[]=>True
 |n::r=>(∃C,XCls K (gK K) (clsN n) (clsF n) C)/\Vs K r
theorem JD  : ∀{l },Vs K l->∀n∈l,1<=n->∃C,XCls K (gK K) (clsN n) (clsF n) C
 |[],_,_,hn,_=>absurd hn Rg
 |m::r,hc,n,hn,h1=>by
  unfold Vs at hc;rcases Sc.mp hn with rfl|hn
  ·exact hc.1
  ·exact JD hc.2 n hn h1
def all2  {l:GC}{sts:List Va}{d:Fun}(X:K.In h)(G:h.Ns Df mg)(O:mg "law" = ma (.ref fa))(j:Jj T 0 T.funs sts=ua)(q:Fk T sts 0 T.funs sts)
  (hU:∀t∈tabs,∀t'∈tabs,t.1=t'.1->t=t') (hB:dynB T K 0 fs T.funs sts=ua) (Y:fs.map (λx=>K.lookup x.1)=wo fs T.funs sts) (hb:bltB K=ua) (hg:Uq K T.gn T.gs=ua) (hc:Vs K T.cs)
  (hd:T.funs[n]?=ma d) (hs:sts[n]?=ma st) (hn:T.ns.lookup n=Aa) (I:d.name = "law") (f:d.ps=[("_law_script" : Str)]) :
  ∃Z ,(∀(s:Fa) v ,Ah s Z ⟨[v],[]⟩ [("_law_script",v)])/\∀base ,K.In base->base.Ns Df mg->BmAt mg base->FnOk l.prog w K mg base (Eg l.prog w) (k+2) fa Z ["_law_script"] (cj K (Ob T k n)):=by
 have z:=wT X G j q hB Y;obtain⟨x,q1,q2,q3,q4,q5⟩:=Iz hB Y hd hs;obtain⟨xa,e,J,_⟩:=Dq j q hd;cases hs.symm.trans e;have F:=EE (st:=st) q2 q3 (UF q2);rw[I]at q1;cases O.symm.trans (Jr X G q1);refine⟨Tj d.name d.name (Kj st) (ig st) (Pf st) .none .none .none x.2.2 Aa (.ref x.2.1) .none,λs v=>.of_eq ((sF (us:=[v]) q5 (jE J) (by rw[f];rfl)).trans (by rw[f];rfl)),λbase y _ R=>?_⟩
 rw[<- f];exact tZ F j q z hU y R (rR X G hb) (RD X G hg) (JD hc) (tS X G) hd hs hn
end

section
local macro_rules
 |`(#[])=>`(.nil)
 |`(#[$x])=>`(.cons $x .nil)
 |`(#[$x,$xs,*])=>`(.cons $x #[$xs,*])
noncomputable abbrev jv  : Nat:=0
noncomputable abbrev PZ  : Nat:=1
noncomputable abbrev PJ  : Nat:=2
noncomputable abbrev YA  : Nat:=3
noncomputable abbrev OA  : Nat:=4
noncomputable abbrev kH  : Nat:=5
noncomputable abbrev GA  : Nat:=6
noncomputable abbrev ZI  : Nat:=7
noncomputable abbrev OH  : Nat:=8
noncomputable abbrev bJ  : Nat:=9
noncomputable abbrev YI  : Nat:=10
noncomputable abbrev Nv  : Nat:=11
noncomputable abbrev bB  : Nat:=12
noncomputable abbrev zJ  : Nat:=13
noncomputable abbrev eK  : Nat:=14
noncomputable abbrev LJ  : Nat:=15
noncomputable abbrev Jv  : Nat:=16
noncomputable abbrev AA  : Nat:=17
noncomputable abbrev NH  : Nat:=18
noncomputable abbrev cB  : Nat:=19
noncomputable abbrev NJ  : Nat:=20
noncomputable abbrev OJ  : Nat:=21
noncomputable abbrev jH  : Nat:=22
noncomputable abbrev Su  : Nat:=23
noncomputable abbrev vK  : Nat:=24
noncomputable abbrev iK  : Nat:=25
noncomputable abbrev nJ  : Nat:=26
noncomputable abbrev kJ  : Nat:=27
noncomputable abbrev fK  : Nat:=28
noncomputable abbrev sY  : Nat:=29
noncomputable abbrev LI  : Nat:=30
noncomputable abbrev KI  : Nat:=31
noncomputable abbrev We  : Nat:=32
noncomputable abbrev Gv  : Nat:=33
noncomputable abbrev MJ  : Nat:=34
noncomputable abbrev aJ  : Nat:=35
noncomputable abbrev JA  : Nat:=36
noncomputable abbrev NA  : Nat:=37
noncomputable abbrev lJ  : Nat:=38
noncomputable abbrev IA  : Nat:=39
noncomputable abbrev mJ  : Nat:=40
noncomputable abbrev MH  : Nat:=41
noncomputable abbrev eB  : Nat:=42
noncomputable abbrev zz  : Nat:=43
noncomputable def nA  : Fun:=⟨"top_of",["plan", "period", "s"],["plan", "period", "s", "word", "one", "other", "low", "high"],#[.asg (.t #[.n 3,.n 4,.n 5,.n 6,.n 7]) (.ix (.ix (.v 0) (.int 1)) (.v 2)),.ret (.ife (.cmp .Eq (.v 3) (.str "span")) (.v 7) (.bin .Sub (.v 1) (.v 7)))]⟩
def yI  : Fun:=⟨"window_of",["plan", "period", "s"],["plan", "period", "s", "low"],#[.asg (.n 3) (.ix (.ix (.ix (.v 0) (.int 1)) (.v 2)) (.int 3)),(.ret (.tup #[.v 3,(.blt .min #[.call jv #[.v 0,.v 1,.v 2],.bin .Sub (.bin .Add (.v 3) (.v 1)) (.int 1)])]))]⟩
def WI  : Fun:=⟨"windows_of",["plan", "period"],["plan", "period"],#[.ret (.mkT (.lc [Aa,ma 0,ma 1] (.n 0) (.r1 (.blt .len #[.ix (.v 0) (.int 1)])) .nil (.call PZ #[.v 1,.v 2,.v 0])))]⟩
noncomputable def GJ  : Fun:=⟨"with_window",["windows", "s", "window"],["windows", "s", "window"],#[.ret (.bin .Add (.bin .Add (.sl (.v 0) .no (.so (.v 1))) (.tup #[.v 2])) (.sl (.v 0) (.so (.bin .Add (.v 1) (.int 1))) .no))]⟩
noncomputable def wI  : Fun:=⟨"length_of",["plan", "period", "beats", "s"],["plan", "period", "beats", "s", "word", "one", "other", "low", "high"],#[.asg (.t #[.n 4,.n 5,.n 6,.n 7,.n 8]) (.ix (.ix (.v 0) (.int 1)) (.v 3)),.ret (.bin .Add (.v 7) (.bin .Mod (.bin .Sub (.bin .Sub (.ix (.v 2) (.v 6)) (.ix (.v 2) (.v 5))) (.v 7)) (.v 1)))]⟩
def XG  : Fun:=⟨"unkept",["plan", "period", "beats"],["plan", "period", "beats", "s"],#[.fr (.n 3) (.r1 (.blt .len #[.ix (.v 0) (.int 1)])) #[.ite (.cmp .Gt (.call OA #[.v 0,.v 1,.v 2,.v 3]) (.call jv #[.v 0,.v 1,.v 3])) #[.ret (.v 3)] .nil],.ret .non]⟩
noncomputable def TH  : Fun:=⟨"ends_of",["plan", "entry"],["plan", "entry", "s", "way", "word", "one", "other", "low", "high"],#[.ite (.cmp .Eq (.blt .len #[.v 1]) (.int 3)) #[.ret (.tup #[.ix (.v 1) (.int 1),.ix (.v 1) (.int 2)])] .nil,.asg (.t #[.n 2,.n 3]) (.v 1),.asg (.t #[.n 4,.n 5,.n 6,.n 7,.n 8]) (.ix (.ix (.v 0) (.int 1)) (.v 2)),.ret (.ife (.cmp .Eq (.v 3) (.int 1)) (.tup #[.v 5,.v 6]) (.tup #[.v 6,.v 5]))]⟩
noncomputable def QI  : Fun:=⟨"entry_sums",["beats", "windows", "entry"],["beats", "windows", "entry", "apart", "s", "way", "least", "most"],#[.ite (.cmp .Eq (.blt .len #[.v 2]) (.int 3)) #[.asg (.n 3) (.bin .Sub (.ix (.v 0) (.ix (.v 2) (.int 2))) (.ix (.v 0) (.ix (.v 2) (.int 1)))),.ret (.tup #[.v 3,.v 3])] .nil,.asg (.t #[.n 4,.n 5]) (.v 2),.asg (.t #[.n 6,.n 7]) (.ix (.v 1) (.v 4)),.ret (.ife (.cmp .Eq (.v 5) (.int 1)) (.tup #[.v 6,.v 7]) (.tup #[.neg (.v 7),.neg (.v 6)]))]⟩
def ZH  : Fun:=⟨"sums_of",["plan", "period", "beats", "windows", "ring"],["plan", "period", "beats", "windows", "ring", "sums"],#[.asgC 5 (.lc [Aa,ma 2,ma 3] (.n 0) (.e (.v 4)) .nil (.call ZI #[.v 1,.v 2,.v 0])),(.ret (.tup #[.blt .sum #[.lc [Aa,Aa] (.t #[.n 0,.n 1]) (.e (.v 5)) .nil (.v 0)],.blt .sum #[.lc [Aa,Aa] (.t #[.n 0,.n 1]) (.e (.v 5)) .nil (.v 1)]]))]⟩
def xI  : Fun:=⟨"ring_bars",["plan", "period", "beats", "windows", "ring"],["plan", "period", "beats", "windows", "ring", "least", "most"],#[.asg (.t #[.n 5,.n 6]) (.call OH #[.v 0,.v 1,.v 2,.v 3,.v 4]),.ret (.cmp .Lt (.bin .Mult (.bin .FloorDiv (.v 6) (.v 1)) (.v 1)) (.v 5))]⟩
noncomputable def OI  : Fun:=⟨"entries_to",["plan", "work"],["plan", "work", "found", "s", "word", "one", "other", "low", "high"],#[.asg (.n 2) (.lst .nil),(.fr (.t #[.n 3,.t #[.n 4,.n 5,.n 6,.n 7,.n 8]]) (.enum (.ix (.v 0) (.int 1))) #[.ite (.cmp .Eq (.v 6) (.v 1)) #[.expr (.meth .append (.v 2) #[.tup #[.v 3,.int 1,.v 5]])] .nil,.ite (.cmp .Eq (.v 5) (.v 1)) #[.expr (.meth .append (.v 2) #[.tup #[.v 3,.neg (.int 1),.v 6]])] .nil]),.ret (.v 2)]⟩
def kK  : Ss:=#[(.wh (.cmp .Lt (.v 4) (.blt .len #[.v 3])) #[(.fr (.t #[.n 5,.n 6,.n 7]) (.e (.call YI #[.v 0,.ix (.v 3) (.v 4)])) #[(.ite (.cmp .NotIn (.v 7) (.v 3)) #[.setS (.v 2) (.v 7) (.tup #[.v 5,.v 6]),.expr (.meth .append (.v 3) #[.v 7])] .nil)]),.aug 4 .Add (.int 1)]),.ret (.v 2)]
def DJ  : Fun:=⟨"forest_from",["plan", "roots"],["plan", "roots", "forest", "reached", "at", "s", "way", "start"],(.cons (.asg (.n 2) (.dic .nil)) (.cons (.asg (.n 3) (.mkL (.v 1))) (.cons (.asg (.n 4) (.int 0)) kK)))⟩
def XJ  : Ss:=#[(.wh (.cmp .In (.v 2) (.v 1)) #[.expr (.meth .append (.v 3) #[.ix (.v 1) (.v 2)]),.asg (.n 2) (.ix (.call GA #[.v 0,.ix (.v 1) (.v 2)]) (.int 1))]),.ret (.tup #[.v 3,.v 2])]
def xJ  : Fun:=⟨"path_to_root",["plan", "forest", "work"],["plan", "forest", "work", "path"],(.cons (.asg (.n 3) (.lst .nil)) XJ)⟩
noncomputable def qK  : Ss:=#[.ret (.mkT (.bin .Add (.bin .Add (.bin .Add (.lst #[.tup #[.v 2,.int 1]]) (.v 8)) (.v 12)) (.lc [Aa,Aa] (.t #[.n 0,.n 1]) (.e (.rev (.v 10) (.neg (.int 1)))) .nil (.tup #[.v 0,.neg (.v 1)]))))]
def lB  : Ss:=(.cons (.asg (.n 12) (.ife (.cmp .Eq (.v 9) (.v 11)) (.lst .nil) (.lst #[.tup #[.str "home",.v 9,.v 11]]))) qK)
def pK  : Ss:=(.cons (.wh (.bop ua (.v 8) #[.v 10,.cmp .Eq (.ix (.v 8) (.neg (.int 1))) (.ix (.v 10) (.neg (.int 1)))]) #[.expr (.meth .pop (.v 8) .nil),.expr (.meth .pop (.v 10) .nil)]) lB)
def oK  : Ss:=(.cons (.asg (.t #[.n 8,.n 9]) (.call bB #[.v 0,.v 1,.v 5])) (.cons (.asg (.t #[.n 10,.n 11]) (.call bB #[.v 0,.v 1,.v 4])) pK))
def wJ  : Fun:=⟨"closing_ring",["plan", "forest", "s"],["plan", "forest", "s", "word", "one", "other", "low", "high", "there", "there_root", "back", "back_root", "homes"],(.cons (.asg (.t #[.n 3,.n 4,.n 5,.n 6,.n 7]) (.ix (.ix (.v 0) (.int 1)) (.v 2))) oK)⟩
def ZJ  : Fun:=⟨"closing_rings",["plan", "part", "forest"],["plan", "part", "forest", "used", "spans"],#[.asg (.n 3) (.lc [Aa,Aa] (.t #[.n 0,.n 1]) (.dv (.v 2)) .nil (.v 0)),.asgC 4 (.lc [Aa,ma 0,ma 1,ma 3] (.n 0) (.r1 (.blt .len #[.ix (.v 0) (.int 1)])) #[.bop ua (.cmp .In (.ix (.ix (.ix (.v 1) (.int 1)) (.v 0)) (.int 1)) (.v 2)) #[.cmp .NotIn (.v 0) (.v 3)]] (.v 0)),.ret (.lc [Aa,ma 0,ma 2] (.n 0) (.e (.v 4)) .nil (.call zJ #[.v 1,.v 2,.v 0]))]⟩
def CJ  : Fun:=⟨"beats_along",["plan", "period", "beats", "forest", "lengths"],["plan", "period", "beats", "forest", "lengths", "found", "work", "s", "way", "nearer"],#[.asg (.n 5) (.mkL (.v 2)),(.fr (.t #[.n 6,.t #[.n 7,.n 8]]) (.di (.v 3)) #[.asg (.n 9) (.ix (.call GA #[.v 0,.tup #[.v 7,.v 8]]) (.int 1)),.setS (.v 5) (.v 6) (.bin .Mod (.bin .Sub (.ix (.v 5) (.v 9)) (.bin .Mult (.v 8) (.ix (.v 4) (.v 7)))) (.v 1))]),.ret (.mkT (.v 5))]⟩
def SJ  : Ss:=#[(.fr (.n 3) (.r1 (.blt .len #[.ix (.v 0) (.int 0)])) #[(.ite (.cmp .NotIn (.v 3) (.v 2)) #[.asg (.n 4) (.blt .sorted #[.bin .Add (.lst #[.v 3]) (.mkD (.call Nv #[.v 0,.lst #[.v 3]]))]),.expr (.meth .extend (.v 2) #[.v 4]),.expr (.meth .append (.v 1) #[.mkT (.v 4)])] .nil)]),.ret (.mkT (.v 1))]
def FI  : Fun:=⟨"parts_of",["plan"],["plan", "parts", "placed", "work", "part"],(.cons (.asg (.n 1) (.lst .nil)) (.cons (.asg (.n 2) (.lst .nil)) SJ))⟩
noncomputable def YH  : Fun:=⟨"staying",["part", "stays"],["part", "stays"],#[.ret (.lc [Aa,ma 1] (.n 0) (.e (.v 0)) #[.cmp .In (.v 0) (.v 1)] (.v 0))]⟩
noncomputable def iJ  : Ss:=#[.fr (.n 5) (.r1 (.bin .Sub (.bin .Sub (.blt .len #[.ix (.v 0) (.int 0)]) (.blt .len #[.v 2])) (.blt .len #[.v 3]))) #[.aug 4 .Mult (.v 1)],.ret (.v 4)]
def hJ  : Ss:=(.cons (.asg (.n 4) (.int 1)) iJ)
def XH  : Fun:=⟨"size_of",["plan", "period", "stays"],["plan", "period", "stays", "free", "size", "turn"],(.cons (.asgC 3 (.lc [Aa,ma 2] (.n 0) (.e (.call Jv #[.v 0])) #[.not (.call AA #[.v 0,.v 1])] (.v 0))) hJ)⟩
def yJ  : Fun:=⟨"refuse_great",["plan", "period", "stays"],["plan", "period", "stays"],#[.ite (.cmp .Gt (.call NH #[.v 0,.v 1,.v 2]) (.g 0)) #[.never] .nil]⟩
noncomputable def RI  : Fun:=⟨"first_void",["windows"],["windows", "s", "least", "most"],#[.fr (.t #[.n 1,.t #[.n 2,.n 3]]) (.enum (.v 0)) #[.ite (.cmp .Lt (.v 3) (.v 2)) #[.ret (.v 1)] .nil],.ret .non]⟩
noncomputable def SI  : Fun:=⟨"first_wide",["forest", "windows"],["forest", "windows", "s", "way", "least", "most"],#[(.fr (.t #[.n 2,.n 3]) (.dv (.v 0)) #[.asg (.t #[.n 4,.n 5]) (.ix (.v 1) (.v 2)),.ite (.cmp .Lt (.v 4) (.v 5)) #[.ret (.v 2)] .nil]),.ret .non]⟩
def WG  : Fun:=⟨"halved",["windows", "s"],["windows", "s", "least", "most", "cut"],#[.asg (.t #[.n 2,.n 3]) (.ix (.v 0) (.v 1)),.asg (.n 4) (.bin .FloorDiv (.bin .Add (.v 2) (.v 3)) (.int 2)),(.ret (.tup #[.v 4,(.tup #[.call YA #[.v 0,.v 1,.tup #[.v 2,.v 4]],.call YA #[.v 0,.v 1,.tup #[.bin .Add (.v 4) (.int 1),.v 3]]])]))]⟩
noncomputable def NG  : Ss:=#[.ret (.tup #[.str "none",.tup #[.str "split",.v 7,.v 8,.ix (.v 10) (.int 0),.ix (.v 10) (.int 1)]])]
def MG  : Ss:=(.cons (.fr (.n 11) (.e (.v 9)) #[.asg (.t #[.n 12,.n 13]) (.call Su #[.v 0,.v 1,.v 2,.v 3,.v 4,.v 11]),.ite (.cmp .Eq (.v 12) (.str "times")) #[.ret (.tup #[.str "times",.v 13])] .nil,.expr (.meth .append (.v 10) #[.v 13])]) NG)
def LG  : Ss:=(.cons (.asg (.n 10) (.lst .nil)) MG)
def KG  : Ss:=(.cons (.asg (.t #[.n 8,.n 9]) (.call jH #[.v 5,.v 7])) LG)
def sA  : Ss:=(.cons (.ite (.cmp .Is (.v 7) .non) #[.ret (.tup #[.str "times",.v 5])] .nil) KG)
def JG  : Ss:=(.cons (.asg (.n 7) (.call OJ #[.v 3,.v 5])) sA)
def rE  : Fun:=⟨"seek",["plan", "period", "beats", "forest", "rings", "windows"],["plan", "period", "beats", "forest", "rings", "windows", "ring", "s", "cut", "sides", "cases", "side", "word", "found"],(.cons (.fr (.n 6) (.e (.v 4)) #[.ite (.call bJ #[.v 0,.v 1,.v 2,.v 5,.v 6]) #[.ret (.tup #[.str "none",.tup #[.str "ring",.v 6]])] .nil]) JG)⟩
noncomputable def AK  : Ss:=#[.ret (.tup #[.str "times",.v 6])]
def kB  : Ss:=(.cons (.fr (.n 7) (.e (.call Jv #[.v 0])) #[.asg (.n 8) (.call Nv #[.v 0,.bop Ca (.call AA #[.v 7,.v 3]) #[.sl (.v 7) .no (.so (.int 1))]]),(.asg (.t #[.n 9,.n 10]) (.call Su #[.v 0,.v 1,.v 6,.v 8,.call eK #[.v 0,.v 7,.v 8],.v 4])),.ite (.cmp .Eq (.v 9) (.str "none")) #[.ret (.tup #[.str "none",.v 10])] .nil,.asg (.n 6) (.call LJ #[.v 0,.v 1,.v 6,.v 8,.lc [Aa,Aa] (.t #[.n 0,.n 1]) (.e (.v 10)) .nil (.v 0)])]) AK)
def zK  : Ss:=(.cons (.asg (.n 6) (.mkT (.lc [Aa,ma 2,ma 3] (.n 0) (.r1 (.blt .len #[.ix (.v 0) (.int 0)])) .nil (.ife (.cmp .In (.v 0) (.v 2)) (.ix (.v 1) (.v 0)) (.int 0))))) kB)
def jB  : Ss:=(.cons (.ite (.cmp .IsNot (.v 5) .non) #[(.ret (.tup #[.str "none",(.tup #[.str "ring",(.tup #[.tup #[.v 5,.int 1],.tup #[.v 5,.neg (.int 1)]])])]))] .nil) zK)
def xK  : Ss:=(.cons (.asg (.n 5) (.call NJ #[.v 4])) jB)
def wK  : Ss:=(.cons (.asg (.n 4) (.call PJ #[.v 0,.v 1])) xK)
def BK  : Fun:=⟨"times_or_none_with",["plan", "period", "beats", "stays"],["plan", "period", "beats", "stays", "windows", "void", "times", "part", "forest", "word", "found"],(.cons (.expr (.call cB #[.v 0,.v 1,.v 3])) wK)⟩
def cK  : Fun:=⟨"times_or_none",["plan", "period"],["plan", "period"],#[.ret (.call vK #[.v 0,.v 1,.tup .nil,.tup .nil])]⟩
noncomputable def mK  : Ss:=#[.ret (.v 3)]
def lK  : Ss:=(.cons (.fr (.n 4) (.r1 (.blt .len #[.ix (.v 0) (.int 0)])) #[.asg (.n 5) (.ife (.cmp .In (.v 4) (.v 2)) (.int 1) (.v 1)),.asgC 3 (.lc2 [Aa,Aa,ma 5] (.n 0) (.e (.v 3)) .nil (.n 1) (.r1 (.v 2)) .nil (.bin .Add (.v 0) (.tup #[.v 1])))]) mK)
def FJ  : Fun:=⟨"rows_to_try",["plan", "period"],["plan", "period", "firsts", "rows", "work", "many"],(.cons (.asgC 2 (.lc [Aa] (.n 0) (.e (.call Jv #[.v 0])) .nil (.ix (.v 0) (.int 0)))) (.cons (.asg (.n 3) (.lst #[.tup .nil])) lK))⟩
def pI  : Fun:=⟨"all_times",["plan", "period"],["plan", "period"],#[.expr (.call cB #[.v 0,.v 1,.tup .nil]),.ret (.lc [Aa,ma 0,ma 1] (.n 0) (.e (.call nJ #[.v 0,.v 1])) #[.cmp .Is (.call kH #[.v 1,.v 2,.v 0]) .non] (.v 0))]⟩
def bK  : Fun:=⟨"lengths_there",["plan", "period", "s"],["plan", "period", "s"],#[.ret (.sset (.lc [Aa,ma 0,ma 1,ma 2] (.n 0) (.e (.call kJ #[.v 0,.v 1])) .nil (.call OA #[.v 1,.v 2,.v 0,.v 3])))]⟩
noncomputable def qH  : Fun:=⟨"changed",["plan", "s", "span"],["plan", "s", "span", "names", "spans"],#[.asg (.t #[.n 3,.n 4]) (.v 0),.ret (.tup #[.v 3,.bin .Add (.bin .Add (.sl (.v 4) .no (.so (.v 1))) (.tup #[.v 2])) (.sl (.v 4) (.so (.bin .Add (.v 1) (.int 1))) .no)])]⟩
def EI  : Fun:=⟨"narrowed",["plan", "s", "length"],["plan", "s", "length", "word", "one", "other", "low", "high"],#[.asg (.t #[.n 3,.n 4,.n 5,.n 6,.n 7]) (.ix (.ix (.v 0) (.int 1)) (.v 1)),.ret (.call sY #[.v 0,.v 1,.tup #[.str "span",.v 4,.v 5,.v 2,.v 2]])]⟩
noncomputable def DI  : Fun:=⟨"_law_feed",["_law_script"],["_law_script"],#[(.ret (.dic #[.str "cells",.bin .Add (.mkL (.sl (.v 0) .no (.so (.int 63)))) (.bin .Mult (.lst #[.int 0]) (.blt .int #[.cmp .Eq (.blt .len #[.v 0]) (.int 0)])),.str "at",.int 0,.str "left",.int 0,.str "turn",.int 0]))]⟩
noncomputable def CI  : Fun:=⟨"_law_draw",["_law_feed_here", "_law_many"],["_law_feed_here", "_law_many", "_law_cell", "_law_mixed", "_law_found"],#[.setS (.v 0) (.str "turn") (.bin .Add (.ix (.v 0) (.str "turn")) (.int 1)),(.ite (.cmp .Eq (.ix (.v 0) (.str "left")) (.int 0)) #[.asg (.n 2) (.ix (.ix (.v 0) (.str "cells")) (.bin .Mod (.ix (.v 0) (.str "at")) (.blt .len #[.ix (.v 0) (.str "cells")]))),.setS (.v 0) (.str "at") (.bin .Add (.ix (.v 0) (.str "at")) (.int 1)),.ite (.cmp .Lt (.v 2) (.bin .Pow (.int 10) (.int 18))) #[.asg (.n 3) (.bin .Mod (.bin .Mult (.bin .Add (.bin .Mod (.v 2) (.int 2147483629)) (.bin .Mult (.int 1019) (.ix (.v 0) (.str "turn")))) (.int 48271)) (.int 2147483647)),.asg (.n 3) (.bin .Mod (.bin .Mult (.bin .Add (.bin .FloorDiv (.v 3) (.int 13)) (.bin .Mult (.int 43) (.ix (.v 0) (.str "turn")))) (.int 69621)) (.int 2147483587)),.ret (.bin .Mod (.bin .FloorDiv (.v 3) (.int 11)) (.v 1))] .nil,.setS (.v 0) (.str "left") (.v 2)] .nil),.asg (.n 4) (.bin .Mod (.ix (.v 0) (.str "left")) (.v 1)),.setS (.v 0) (.str "left") (.bin .FloorDiv (.ix (.v 0) (.str "left")) (.v 1)),.ret (.v 4)]⟩
def VI  : Fun:=⟨"_law_number",["_law_feed_here", "_law_cycle"],["_law_feed_here", "_law_cycle"],#[(.ret (.ix (.lst #[.int 0,.call We #[.v 0,.v 1],.call We #[.v 0,.v 1],.call We #[.v 0,.bin .Add (.bin .Mult (.int 3) (.v 1)) (.int 1)]]) (.call We #[.v 0,.int 4])))]⟩
def EJ  : Fun:=⟨"_law_fitting",["_law_feed_here", "_law_beats", "_law_cycle"],["_law_feed_here", "_law_beats", "_law_cycle", "_law_one", "_law_other", "_law_gap", "_law_low", "_law_length"],#[(.par [3,4] #[.call We #[.v 0,.blt .len #[.v 1]],.call We #[.v 0,.blt .len #[.v 1]]]),.asg (.n 5) (.bin .Mod (.bin .Sub (.ix (.v 1) (.v 4)) (.ix (.v 1) (.v 3))) (.v 2)),(.ite (.cmp .Eq (.call We #[.v 0,.int 3]) (.int 0)) #[(.ret (.tup #[.str "apart",.v 3,.v 4,.call We #[.v 0,.bin .Add (.v 5) (.int 1)],.call We #[.v 0,.bin .Add (.bin .Sub (.v 2) (.v 5)) (.int 1)]]))] .nil),.asg (.n 6) (.call Gv #[.v 0,.v 2]),.asg (.n 7) (.bin .Add (.v 6) (.bin .Mod (.bin .Sub (.v 5) (.v 6)) (.v 2))),.ret (.tup #[.str "span",.v 3,.v 4,.v 6,.bin .Add (.v 7) (.ix (.lst #[.int 0,.int 0,.int 1,.call We #[.v 0,.v 2]]) (.call We #[.v 0,.int 4]))])]⟩
noncomputable def uJ  : Ss:=#[(.ret (.tup #[.sl (.tup #[.str "a",.str "ab",.str "b",.str "ba",.str "abc",.str "z",.str "n",.str "at"]) .no (.so (.v 1)),.mkT (.v 5)]))]
def WJ  : Ss:=#[.ite (.cmp .Lt (.v 7) (.int 3)) #[.expr (.meth .append (.v 5) #[.call MJ #[.v 0,.v 4,.v 3]])] #[.ite (.cmp .Lt (.v 7) (.int 5)) #[.expr (.meth .append (.v 5) #[.tup #[.str "span",.bin .Mod (.v 6) (.v 1),.v 9,.v 8,.bin .Add (.v 8) (.call We #[.v 0,.bin .Add (.int 1) (.bin .FloorDiv (.v 3) (.int 2))])]])] #[.expr (.meth .append (.v 5) #[.tup #[.str "apart",.v 9,.bin .Mod (.v 6) (.v 1),.v 8,.call Gv #[.v 0,.v 3]]])]]]
def vI  : Fun:=⟨"_law_tight",["_law_feed_here", "_law_works", "_law_most", "_law_cycle"],["_law_feed_here", "_law_works", "_law_most", "_law_cycle", "_law_beats", "_law_spans", "_law_k", "_law_way", "_law_low", "_law_other"],(.cons (.asgC 4 (.lc [Aa,ma 0,ma 3] (.n 0) (.r1 (.v 1)) .nil (.call We #[.v 1,.v 2]))) (.cons (.asg (.n 5) (.lst .nil)) (.cons (.fr (.n 6) (.r1 (.bin .Add (.int 1) (.call We #[.v 0,.v 2]))) (.cons (.asg (.n 7) (.call We #[.v 0,.int 6])) (.cons (.asg (.n 8) (.call Gv #[.v 0,.v 3])) (.cons (.asg (.n 9) (.bin .Mod (.bin .Add (.bin .Add (.v 6) (.int 1)) (.call We #[.v 0,.v 1])) (.v 1))) WJ)))) uJ)))⟩
noncomputable def VH  : Fun:=⟨"_law_end",["_law_cycle", "_law_span"],["_law_cycle", "_law_span", "_law_top"],#[.asg (.n 2) (.ife (.cmp .Eq (.ix (.v 1) (.int 0)) (.str "span")) (.ix (.v 1) (.int 4)) (.bin .Sub (.v 0) (.ix (.v 1) (.int 4)))),.ret (.blt .min #[.v 2,.bin .Sub (.bin .Add (.ix (.v 1) (.int 3)) (.v 0)) (.int 1)])]⟩
def rJ  : Ss:=#[(.fr (.n 4) (.r1 (.blt .len #[.ix (.v 0) (.int 1)])) #[.asg (.t #[.n 5,.n 6,.n 7,.n 8,.n 9]) (.ix (.ix (.v 0) (.int 1)) (.v 4)),.asg (.n 10) (.bin .Mod (.bin .Sub (.bin .Sub (.ix (.v 2) (.v 7)) (.ix (.v 2) (.v 6))) (.v 8)) (.v 1)),.ite (.cmp .Gt (.bin .Add (.v 8) (.v 10)) (.call JA #[.v 1,.ix (.ix (.v 0) (.int 1)) (.v 4)])) #[.expr (.meth .append (.v 3) #[.v 4])] .nil]),.ret (.v 3)]
def qI  : Fun:=⟨"_law_lacks",["_law_plan", "_law_cycle", "_law_beats"],["_law_plan", "_law_cycle", "_law_beats", "_law_found", "_law_s", "_law_word", "_law_one", "_law_other", "_law_low", "_law_high", "_law_gap"],(.cons (.asg (.n 3) (.lst .nil)) rJ)⟩
noncomputable def tJ  : Ss:=#[.ret (.blt .sorted #[.v 1])]
noncomputable def VJ  : Ss:=#[.expr (.meth .append (.v 1) #[.blt .sorted #[.v 8]])]
def UJ  : Ss:=(.cons (.fr (.n 9) (.e (.v 7)) #[.asg (.n 8) (.bin .Add (.v 8) (.v 9))]) VJ)
def TJ  : Ss:=(.cons (.asg (.n 8) (.lst .nil)) UJ)
def uK  : Ss:=(.cons (.asgC 1 (.lc [Aa,ma 7] (.n 0) (.e (.v 1)) #[.cmp .NotIn (.v 0) (.v 1)] (.v 0))) TJ)
def pB  : Ss:=(.cons (.asg (.n 7) (.lc [Aa,ma 3,ma 4] (.n 0) (.e (.v 1)) #[.bop Ca (.cmp .In (.v 1) (.v 0)) #[.cmp .In (.v 2) (.v 0)]] (.v 0))) uK)
def sJ  : Ss:=(.cons (.fr (.t #[.n 2,.n 3,.n 4,.n 5,.n 6]) (.e (.ix (.v 0) (.int 1))) pB) tJ)
def tI  : Fun:=⟨"_law_parts",["_law_plan"],["_law_plan", "_law_found", "_law_word", "_law_one", "_law_other", "_law_low", "_law_high", "_law_mine", "_law_whole", "_law_part"],(.cons (.asgC 1 (.lc [Aa] (.n 0) (.r1 (.blt .len #[.ix (.v 0) (.int 0)])) .nil (.lst #[.v 0]))) sJ)⟩
def gJ  : Ss:=#[.ret (.lc [Aa,ma 0,ma 1] (.n 0) (.e (.v 3)) #[.cmp .Eq (.call NA #[.v 1,.v 2,.v 0]) (.lst .nil)] (.v 0))]
noncomputable def BJ  : Ss:=#[.asg (.n 3) (.v 5)]
noncomputable def qB  : Ss:=#[.expr (.meth .extend (.v 5) #[.lc [Aa,ma 6] (.n 0) (.r1 (.ife (.cmp .In (.v 4) (.v 2)) (.int 1) (.v 1))) .nil (.bin .Add (.v 1) (.tup #[.v 0]))])]
def AJ  : Ss:=(.cons (.asg (.n 5) (.lst .nil)) (.cons (.fr (.n 6) (.e (.v 3)) qB) BJ))
def fJ  : Ss:=(.cons (.fr (.n 4) (.r1 (.blt .len #[.ix (.v 0) (.int 0)])) AJ) gJ)
def eJ  : Ss:=(.cons (.asg (.n 3) (.lst #[.tup .nil])) fJ)
def UH  : Fun:=⟨"_law_all",["_law_plan", "_law_cycle"],["_law_plan", "_law_cycle", "_law_firsts", "_law_found", "_law_work", "_law_longer", "_law_ahead"],(.cons (.asgC 2 (.lc [Aa] (.n 0) (.e (.call lJ #[.v 0])) .nil (.ix (.v 0) (.int 0)))) eJ)⟩
def uI  : Fun:=⟨"_law_small",["_law_feed_here"],["_law_feed_here", "_law_works", "_law_cycle"],#[(.ite (.cmp .Gt (.call We #[.v 0,.int 8]) (.int 0)) #[.asg (.n 1) (.ix (.lst #[.int 2,.int 3,.int 3,.int 4,.int 2,.int 1]) (.call We #[.v 0,.int 6])),(.ret (.tup #[.v 1,.bin .Add (.int 1) (.call We #[.v 0,.ix (.lst #[.int 12,.int 24,.int 6,.int 3]) (.bin .Sub (.v 1) (.int 1))]),.int 5]))] .nil),.asg (.n 1) (.bin .Add (.int 2) (.call We #[.v 0,.int 7])),.asg (.n 2) (.bin .Add (.int 1) (.call We #[.v 0,.ix (.lst #[.int 300,.int 17,.int 6,.int 4,.int 3,.int 2,.int 2]) (.bin .Sub (.v 1) (.int 2))])),.ret (.tup #[.v 1,.v 2,.ix (.lst #[.int 5,.int 12,.int 24]) (.call We #[.v 0,.int 3])])]⟩
def WH  : Fun:=⟨"_law_far",["_law_feed_here", "_law_plan", "_law_cycle"],["_law_feed_here", "_law_plan", "_law_cycle", "_law_spans", "_law_word", "_law_one", "_law_other", "_law_low", "_law_high", "_law_by"],#[.asg (.n 3) (.lst .nil),(.fr (.t #[.n 4,.n 5,.n 6,.n 7,.n 8]) (.e (.ix (.v 1) (.int 1))) #[.asg (.n 9) (.int 0),.ite (.cmp .Eq (.v 4) (.str "span")) #[.asg (.n 9) (.bin .Mult (.v 2) (.call We #[.v 0,.bin .Add (.bin .FloorDiv (.bin .Sub (.int 9999) (.v 8)) (.v 2)) (.int 1)]))] .nil,.expr (.meth .append (.v 3) #[.tup #[.v 4,.v 5,.v 6,.bin .Add (.v 7) (.v 9),.bin .Add (.v 8) (.v 9)]])]),.ret (.tup #[.ix (.v 1) (.int 0),.mkT (.v 3)])]⟩
def aK  : Fun:=⟨"_law_some_plan",["_law_feed_here"],["_law_feed_here", "_law_works", "_law_cycle", "_law_most", "_law_plan"],#[.asg (.t #[.n 1,.n 2,.n 3]) (.call mJ #[.v 0]),.asg (.n 4) (.call aJ #[.v 0,.v 1,.v 3,.v 2]),.ite (.cmp .Eq (.call We #[.v 0,.int 6]) (.int 0)) #[.asg (.n 4) (.call MH #[.v 0,.v 4,.v 2])] .nil,.ret (.tup #[.v 4,.v 2])]⟩
noncomputable def jI  : Ss:=#[.ite (.cmp .NotEq (.blt .repr #[.v 3]) (.v 5)) #[.ret (.bl Ca)] .nil]
def qJ  : Ss:=#[(.ite (.cmp .LtE (.v 13) (.v 19)) #[.asg (.n 20) (.bin .Add (.v 13) (.call We #[.v 1,.bin .Add (.bin .Sub (.v 19) (.v 13)) (.int 1)])),(.asg (.n 18) (.call iK #[.call LI #[.v 3,.v 9,.v 20],.v 4])),.ite (.cmp .NotEq (.cmp .Eq (.ix (.v 18) (.int 0)) (.str "times")) (.cmp .In (.v 20) (.v 15))) #[.ret (.bl Ca)] .nil] .nil)]
def aB  : Ss:=(.cons (.asg (.n 19) (.call JA #[.v 4,.ix (.ix (.v 3) (.int 1)) (.v 9)])) qJ)
noncomputable def tK  : Ss:=#[.expr (.meth .append (.v 18) #[.neg (.int 1)])]
def sK  : Ss:=(.cons (.ite (.bop Ca (.not (.blt .isi #[.v 18,.ty "list"])) #[.cmp .NotEq (.blt .repr #[.v 18]) (.blt .repr #[.blt .sorted #[.v 15]])]) #[.ret (.bl Ca)] .nil) tK)
def rK  : Ss:=(.cons (.asg (.n 18) (.call fK #[.v 3,.v 16,.v 9])) sK)
def oB  : Ss:=(.cons (.fr (.n 17) (.e (.ix (.v 7) (.v 16))) #[.setS (.v 15) (.bin .Add (.v 13) (.bin .Mod (.bin .Sub (.bin .Sub (.ix (.v 17) (.v 12)) (.ix (.v 17) (.v 11))) (.v 13)) (.v 16))) (.bl ua)]) rK)
def pJ  : Ss:=(.cons (.fr (.n 16) (.e (.tup #[.v 4,.v 6,.v 4])) (.cons (.asg (.n 15) (.dic .nil)) oB)) aB)
def ZA  : Ss:=(.cons (.asg (.n 15) (.dic .nil)) pJ)
def XA  : Ss:=(.cons (.fr (.n 9) (.e (.lc [Aa,ma 8] (.n 0) (.r1 (.blt .len #[.ix (.v 3) (.int 1)])) #[.cmp2 .LtE .Lt (.v 1) (.v 0) (.bin .Add (.v 1) (.int 4))] (.v 0))) (.cons (.asg (.t #[.n 10,.n 11,.n 12,.n 13,.n 14]) (.ix (.ix (.v 3) (.int 1)) (.v 9))) ZA)) jI)
def iI  : Ss:=(.cons (.asg (.n 8) (.call We #[.v 1,.blt .len #[.ix (.v 3) (.int 1)]])) XA)
def eI  : Ss:=(.cons (.asg (.n 7) (.dic #[.v 4,.call IA #[.v 3,.v 4],.v 6,.call IA #[.v 3,.v 6]])) iI)
def dI  : Ss:=(.cons (.asg (.n 6) (.bin .Add (.int 1) (.call We #[.v 1,.v 4]))) eI)
def WA  : Ss:=(.cons (.asg (.n 5) (.blt .repr #[.v 3])) dI)
def uG  : Ss:=#[.fr (.n 2) (.r1 (.int 2)) (.cons (.asg (.t #[.n 3,.n 4]) (.call eB #[.v 1])) WA),.ret (.bl ua)]
def KD  : Fun:=⟨"law",["_law_script"],["_law_script", "_law_feed_here", "_law_k", "_law_plan", "_law_cycle", "_law_kept", "_law_less", "_law_times", "_law_first", "_law_s", "_law_word", "_law_one", "_law_other", "_law_low", "_law_high", "_law_due", "_law_some", "_law_beats", "_law_found", "_law_end_here", "_law_length"],(.cons (.asg (.n 1) (.call KI #[.v 0])) uG)⟩
def T  : Nf:=⟨[nA,yI,WI,GJ,wI,XG,TH,QI,ZH,xI,OI,DJ,xJ,wJ,ZJ,CJ,FI,YH,XH,yJ,RI,SI,WG,rE,BK,cK,FJ,pI,bK,qH,EI,DI,CI,VI,EJ,vI,VH,qI,tI,UH,uI,WH,aK,KD],[(.int 300)],["MOST_SIZE"],[],[],[]⟩
def Ra  (i:Nat):Va:=PySem.Challenge.pw_beatplans_k21_lengths_there.main.body.getD i (.Pass ⟨0,0,0,0⟩)
noncomputable abbrev s_top_of  : Va:=Ra 4
noncomputable abbrev s_window_of  : Va:=Ra 5
noncomputable abbrev s_windows_of  : Va:=Ra 6
noncomputable abbrev s_with_window  : Va:=Ra 7
noncomputable abbrev s_length_of  : Va:=Ra 8
noncomputable abbrev s_unkept  : Va:=Ra 9
noncomputable abbrev s_ends_of  : Va:=Ra 11
noncomputable abbrev s_entry_sums  : Va:=Ra 12
noncomputable abbrev s_sums_of  : Va:=Ra 13
noncomputable abbrev s_ring_bars  : Va:=Ra 14
noncomputable abbrev s_entries_to  : Va:=Ra 16
noncomputable abbrev s_forest_from  : Va:=Ra 17
noncomputable abbrev s_path_to_root  : Va:=Ra 18
noncomputable abbrev s_closing_ring  : Va:=Ra 19
noncomputable abbrev s_closing_rings  : Va:=Ra 20
noncomputable abbrev s_beats_along  : Va:=Ra 21
noncomputable abbrev s_parts_of  : Va:=Ra 23
noncomputable abbrev s_staying  : Va:=Ra 26
noncomputable abbrev s_size_of  : Va:=Ra 27
noncomputable abbrev s_refuse_great  : Va:=Ra 28
noncomputable abbrev s_first_void  : Va:=Ra 29
noncomputable abbrev s_first_wide  : Va:=Ra 30
noncomputable abbrev s_halved  : Va:=Ra 31
noncomputable abbrev s_seek  : Va:=Ra 32
noncomputable abbrev s_times_or_none_with  : Va:=Ra 33
noncomputable abbrev s_times_or_none  : Va:=Ra 34
noncomputable abbrev s_rows_to_try  : Va:=Ra 36
noncomputable abbrev s_all_times  : Va:=Ra 37
noncomputable abbrev s_lengths_there  : Va:=Ra 38
noncomputable abbrev s_changed  : Va:=Ra 40
noncomputable abbrev s_narrowed  : Va:=Ra 41
noncomputable abbrev s_law_feed  : Va:=Ra 43
noncomputable abbrev s_law_draw  : Va:=Ra 44
noncomputable abbrev s_law_number  : Va:=Ra 45
noncomputable abbrev s_law_fitting  : Va:=Ra 46
noncomputable abbrev s_law_tight  : Va:=Ra 47
noncomputable abbrev s_law_end  : Va:=Ra 48
noncomputable abbrev s_law_lacks  : Va:=Ra 49
noncomputable abbrev s_law_parts  : Va:=Ra 50
noncomputable abbrev s_law_all  : Va:=Ra 51
noncomputable abbrev s_law_small  : Va:=Ra 52
noncomputable abbrev s_law_far  : Va:=Ra 53
noncomputable abbrev s_law_some_plan  : Va:=Ra 54
noncomputable abbrev s_law  : Va:=Ra 55
end
local macro_rules
 |`(tactic| simp! only[$xs,*])=>do
  let a<-("Y2 F2 BP D_bl eO FP Z2 N2 D_ty T_ty XN mP zP ZN oP VO tQ GP jO aO D_ix T_ix D_sl DP UO sQ YN nP WO D_lc iO qP OQ uQ mO rP oO yP CP sP bO pP SO WN D_or lP T_or O_no O_so TN OO VN RO eP oQ V2 I_r1 YQ YO PQ I_dv I_di qQ fP pQ rQ jP gP iP S_fr kP UN QO tP uP wQ qO wP yQ zQ xQ vP pO xP uO zO wO BO W_lt W_le W_gt CO xO CQ AO vO W_in DO W_is yO Y_bl JO GO KO bP FO JP WQ XO ZO oR HP IP EO vQ AQ BQ TQ VQ UQ RQ SQ X2 W2 aP XQ sl_0 sl_s dr_0 dr_s DQ nQ bS dP cP pR NO NQ KP LO LQ MQ".splitOn " ").toArray.mapM λs=>`(Lean.Parser.Tactic.simpLemma| $(Lean.mkIdent s.toName):ident)
  `(tactic| try simp only[Se,Lr,List.cons_append,Qi,Zf,Cp,List.set_cons_zero,List.set_cons_succ,List.zip_cons_cons,List.zip_nil_right,List.zip_nil_left,Qw,List.foldl_nil,List.getElem?_cons_zero,List.getElem?_cons_succ,Option.join_some,ite_true,ite_false,Bi,Si,$a:simpLemma,*,$xs,*])

def Ye    (hf:Fd G f c)(h0:0<m)(h1:m<1073741824)(q:∀r Z ,0<=r->r<m->Fd Z f c->Sm f G Z->Q (.int r) Z):Ob T (k+1) We [.loc f,.int m] G Q X:=by
 obtain⟨F,a,l,t,R,Y,hn⟩:=hf.ex;have O:∀(z y j I:Int),Q (.int (z%m)) (Ed G f (.dK (Vd c y j I))):=λz y j I=>q _ _ (Xh z (by lia)) (Ai z h0) (Fd.put ⟨rfl⟩ R Y hn) Sm.put
 have xa:0<F.length:=Dd.mpr hn;have gc:∀J,Ed G f (.dK J) c=ma (.lst (F.map .int)):=λJ=>by rw[Uh (λz=>by rw[z,R]at Y;cases Y)];exact Y
 obtain⟨z,hz,ez⟩:=Vu (l:=F) (r:=a%F.length) (Xh _ (by lia)) (Ai _ (by lia))
 refine⟨rfl,?_⟩;simp! only[CI,td,Zb,ix_d R FE,Bu R,Lk,KE,Ju,true_and,tq (gc _),Hb,ix_l (gc _) ((zq U.int F _).trans (congrArg _ ez))];have cut:∀(j y I:Int),(0<m/\0<m/\m<1073741824/\Q (.int (j%m)) (Ed G f (.dK (Vd c y (j/m) I)))):=λj y I=>⟨h0,h0,by lia,O _ _ _ _⟩
 by_cases hl:l=0
 ·rw[if_pos (by simpa using hl)]
  refine⟨by lia,by constructor<;>decide,?_⟩
  by_cases hc:z<10 ^ Ql 18
  ·rw[if_pos (by simpa using hc)]
   exact⟨by decide,.inl (by decide),.inr (by decide),by decide,by decide,by decide,.inl (by decide),.inr (by decide),by decide,by decide,by decide,h0,O _ _ _ _⟩
  ·rw[if_neg (by simpa using hc)]
   exact cut _ _ _
 ·rw[if_neg (by simpa using hl)]
  exact cut _ _ _
def WU   {ns:List Int}(O:G a=ma (.fro (ns.map .int)))(hl:ns.length<=63)(q:∀f c Y ,Fd Y f c->Q (.loc f) Y):Ob T (k+1) KI [.loc a] G Q X:=by
 have J:(cut ns Aa (ma 63)).length<=63:=by rw[show(63:Int)=((63:Nat):Int)from rfl,Do];simp;lia
 refine⟨rfl,?_⟩;simp! only[DI,td,Zb,sl_f O,TV];intro p1 G1 n1;rw[it_l n1.at];intro p2 G2 n2;refine⟨by decide,λp3 G3 y=>?_⟩
 simp! only[UP (y.sa _ _ (n2.sa _ _ (n1.sa _ _ O)))];obtain⟨j,ez,lz,hz⟩:∃j:List Int,(Zb (Ql (if decide (((ns.map U.int).length:Int)=0)=ua then 1 else 0)) [U.int 0]).flatten=j.map U.int/\j.length<=1/\(ns=[]->j≠[]):=by
  by_cases h:ns=[]
  ·subst h;exact⟨[0],rfl,by decide,λ_=>by simp⟩
  ·refine⟨[],?_,by decide,λz=>absurd z h⟩
   rw[if_neg (by simpa using h)]
   rfl
 refine⟨_,y.at,by split<;>decide,by split<;>decide,by split<;>decide,λp4 G4 F=>?_⟩
 rw[ez]at F;refine⟨_,_,F.sa _ _ (y.sa _ _ n2.at),F.at,?_,λp5 G5 Z=>⟨by decide,λp6 G6 I=>?_⟩⟩
 ·rw[Hb,Hb];exact Yb (Nat.add_le_add J lz) (by decide:63+1<=Fb)
 rw[rS]at I;rw[<- ie]at Z;refine q _ p5 _ ⟨_,0,0,0,I.at,I.sa _ _ Z.at,λz=>?_⟩;obtain⟨R,z2⟩:=List.append_eq_nil_iff.mp z;refine hz ?_ z2;rw[show(63:Int)=((63:Nat):Int)from rfl,Do]at R;cases ns with
 |nil=>rfl
 |cons _ _=>cases R

structure Nm (x:Str):Prop where
 l8:x.length<=8
 ch:∀c∈x.cps.toList,c<128
structure Ac where
 w:Str
 o:Nat
 t:Nat
 lo:Int
 hi:Int
noncomputable def Ac.u  (s:Ac):U:=.tup [.str s.w,.int s.o,.int s.t,.int s.lo,.int s.hi]
structure Ac.Ok (W:Nat)(s:Ac):Prop where
 w:s.w = "apart" \/ s.w = "span"
 o:s.o<W
 t:s.t<W
 lo:0<=s.lo/\s.lo<=9999
 hi:0<=s.hi/\s.hi<=9999
noncomputable def Kc  (l:List Int):U:=.tup (l.map .int)
def jG  {x:Str}(h:x = "apart" \/ x = "span"):x.length<=8/\∀c∈x.cps.toList,c<128:=by
 rcases h with rfl|rfl
 ·exact⟨by decide +kernel,by decide +kernel⟩
 ·exact⟨by decide +kernel,by decide +kernel⟩
def XS   (h:-100000<=i/\i<=100000):Ft 1921 0 (.int i):=Ft.int (Ug (show i.natAbs<=100000 by lia) (by decide))
def Ac.Ok.ft   {s:Ac}(h:s.Ok W)(f:W<=8):Ft 10000 1 s.u:=by
 have:=h.o;have:=h.t;have:=h.lo;have:=h.hi;refine Ft.tup (n:=1921) (m:=5) (Mb _) (λu hu=>?_) (by decide)
 simp only[Sc,Rg,or_false]at hu;rcases hu with rfl|rfl|rfl|rfl|rfl
 ·exact(Ft.str (m:=8) (jG h.w).1 (jG h.w).2).mono (by decide) (Mb _)
 all_goals exact XS (by lia)

def Tb  (xs:List Str)(ss:List Ac):U:=.tup [.tup (xs.map .str),.tup (ss.map Ac.u)]

def BA    (hf:Fd G f c)(h1:1<=P)(h2:P<=600)(q:∀z y ,0<=z->z<=1801->Fd y f c->Sm f G y->Q (.int z) y):Ob T (k+2) Gv [.loc f,.int P] G Q X:=by
 refine⟨rfl,?_⟩;simp! only[VI,td,Zb];refine Ye hf (by lia) (by lia) λr1 G1 a1 b1 J s1=>Ye J (by lia) (by lia) λr2 G2 a2 b2 Y s2=>⟨.inl (by decide),Ye Y (by lia) (by lia) λr3 G3 a3 b3 F s3=>⟨by decide,λp G4 j=>Ye (F.new j) (by decide) (by decide) λr5 G5 O b5 Z I=>?_⟩⟩
 refine fv [0,r1,r2,r3] (I _ _ (F.away j).1 j.at) O b5 λz R=>?_;have:0<=z/\z<=1801:=by simp only[Sc,Rg,or_false]at R;lia
 exact q z _ this.1 this.2 Z (((s1.trans (s2.trans s3)).nw j).trans I)
def kZ     {bs:List Int}(hf:Fd G f c)(h1:1<=P)(h2:P<=600)(gb:G pb=ma (.lst (bs.map .int)))(hb:pb≠f)(bl:bs.length=W)(w0:0<W)(w8:W<=8)(q:∀(s:Ac) G' ,s.Ok W->(s.w = "span" -> s.lo<=s.hi)->Fd G' f c->Sm f G G'->Q s.u G'):Ob T (k+3) MJ [.loc f,.loc pb,.int P] G Q X:=by
 refine⟨rfl,?_⟩;simp! only[EJ,td,Zb,tq gb,Hb,bl];refine Ye hf (by lia) (by lia) λo' Ga aa ba fa sa=>?_
 have ga:=sa _ _ hb gb;simp! only[tq ga,Hb,bl];refine Ye fa (by lia) (by lia) λt' Gb ab bb fb sb=>?_
 have I:=sb _ _ hb ga;obtain⟨o,rfl⟩:=Vi aa;obtain⟨t,rfl⟩:=Vi ab;obtain⟨x,hx,ex⟩:=Vu (l:=bs) (r:=(t:Int)) ab (by lia)
 obtain⟨y,hy,ey⟩:=Vu (l:=bs) (r:=(o:Int)) aa (by lia)
 simp! only[ix_l I ((zq U.int bs _).trans (congrArg _ ex)),ix_l I ((zq U.int bs _).trans (congrArg _ ey))];refine⟨trivial,by lia,Ye fb (by decide) (by decide) λr G2 a2 b2 f2 s2=>?_⟩
 have S2:=sa.trans (sb.trans s2);obtain⟨j,Y⟩:∃j,j=(x-y)%P:=⟨_,rfl⟩;have g0:0<=j:=by rw[Y];exact Xh _ (by lia)
 have g1:j<P:=by rw[Y];exact Ai _ (by lia)
 rw[<- Y];simp! only[];by_cases hr:r=0
 ·rw[if_pos (by simpa using hr)]
  refine Ye f2 (by lia) (by lia) λF G3 a3 b3 R Z=>Ye R (by lia) (by lia) λhi G4 a4 b4 J s4=>⟨by decide,?_⟩
  exact q ⟨"apart",o,t,F,hi⟩ _ ⟨.inl rfl,by dsimp only;lia,by dsimp only;lia,by dsimp only;lia,by dsimp only;lia⟩ (λz=>absurd (show("apart" : Str) = "span" from z) (by decide +kernel)) J (S2.trans (Z.trans s4))
 ·rw[if_neg (by simpa using hr)]
  refine BA f2 h1 h2 λF G3 a3 b3 R Z=>⟨by lia,Ye R (by lia) (by lia) λr4 G4 a4 b4 J s4=>⟨by decide,λp G5 O=>Ye (J.new O) (by decide) (by decide) λr6 G6 a6 b6 f6 s6=>?_⟩⟩
  refine fv [0,0,1,r4] (s6 _ _ (J.away O).1 O.at) a6 b6 λz hz=>?_;have xa:0<=z/\z<=700:=by simp only[Sc,Rg,or_false]at hz;lia
  have e0:0<=(j-F)%P:=Xh _ (by lia)
  have e1:(j-F)%P<P:=Ai _ (by lia)
  simp! only[];exact⟨by decide,q ⟨"span",o,t,F,F+(j-F)%P+z⟩ _ ⟨.inr rfl,by dsimp only;lia,by dsimp only;lia,by dsimp only;lia,by dsimp only;lia⟩ (λ_=>by dsimp only;lia) f6 ((S2.trans (Z.trans s4)).nw O |>.trans s6)⟩

inductive Con (es:List (Int×Int)):Int->Int->Prop
 |refl (x:Int):Con es x x
 |step {x a b:Int}:Con es x a->((a,b)∈es\/(b,a)∈es)->Con es x b
def Con.trans    (h:Con es x y)(g:Con es y z):Con es x z:=by
 induction g with
 |refl=>exact h
 |step _ e f=>exact .step f e
def Con.one    (e:(a,b)∈es\/(b,a)∈es):Con es a b:=.step (.refl a) e
theorem Con.symm    (h:Con es x y):Con es y x:=by
 induction h with
 |refl=>exact .refl _
 |step _ e f=>exact(Con.one (rD e)).trans f
def Con.mono   (h:∀a b,(a,b)∈es->(a,b)∈f\/(b,a)∈f)(g:Con es x y):Con f x y:=by
 induction g with
 |refl=>exact .refl _
 |step _ e j=>
  rcases e with e|e
  ·exact .step j (h _ _ e)
  ·exact .step j (rD (h _ _ e))
def Con.closed   {S:Int->Prop}(q:∀a b,S a->((a,b)∈es\/(b,a)∈es)->S b)(h:Con es x y)(j:S x):S y:=by
 induction h with
 |refl=>exact j
 |step _ e f=>exact q _ _ f e
abbrev Sl  : List Int->List Int->Prop:=λa b=>HT.lexLt a b=ua
theorem pw_ext  {q:Type}{r:q->q->Prop}(as:∀a b,r a b->r b a->False):∀{l j:List q},l.Pairwise r->j.Pairwise r->(∀x,x∈l↔x∈j)->l=j
 |[],[],_,_,_=>rfl
 |[],b::j,_,_,h=>absurd ((h b).mpr (by simp)) (by simp)
 |a::l,[],_,_,h=>absurd ((h a).mp (by simp)) (by simp)
 |a::l,b::j,h1,h2,h=>by
  obtain⟨F,I⟩:=db.mp h1;obtain⟨q1,q2⟩:=db.mp h2;have e:a=b:=by
   rcases Sc.mp ((h a).mp (by simp))with z|z
   ·exact z
   ·rcases Sc.mp ((h b).mpr (by simp))with y|y
    ·exact y.symm
    ·exact(as _ _ (F b y) (q1 a z)).elim
  subst e;rw[pw_ext as I q2 λx=>?_];constructor
  ·intro f;rcases Sc.mp ((h x).mp (Jd _ f))with z|z
   ·subst z;exact(as _ _ (F x f) (F x f)).elim
   ·exact z
  ·intro f;rcases Sc.mp ((h x).mpr (Jd _ f))with z|z
   ·subst z;exact(as _ _ (q1 x f) (q1 x f)).elim
   ·exact z
def WD  (a b:Int)(h:a<b)(g:b<a):False:=by lia
def eE   a b (h:Sl a b)(g:Sl b a):False:=by
 have:=uu a b a h g;rw[yz]at this;cases this
structure Ad (W:Nat)(es:List (Int×Int))(ps:List (List Int)):Prop where
 ne:∀p∈ps,p≠[]
 as:∀p∈ps,p.Pairwise (·< ·)
 bd:∀p∈ps,∀x∈p,0<=x/\x<W
 al:∀x:Int,0<=x->x<W->∃p∈ps,x∈p
 un:∀p∈ps,∀q∈ps,∀x,x∈p->x∈q->p=q
 nd:ps.Nodup
 ed:∀a b,(a,b)∈es->∃p∈ps,a∈p/\b∈p
 co:∀p∈ps,∀x∈p,∀y∈p,Con es x y
def Ad.part     (h:Ad W es ps)(J:p∈ps)(O:x∈p)(g:Con es x y):y∈p:=by
 refine g.closed (S:=λz=>z∈p) (λa b I e=>?_) O;rcases e with e|e
 ·obtain⟨q,f,j,F⟩:=h.ed a b e;rw[h.un p J q f a I j];exact F
 ·obtain⟨q,f,j,F⟩:=h.ed b a e;rw[h.un p J q f a I F];exact j
def Ad.uniq     (h:Ad W z ps)(g:Ad W f F)(O:∀{x y},Con z x y->Con f x y)(R:∀{x y},Con f x y->Con z x y)(s1:ps.Pairwise Sl)(s2:F.Pairwise Sl):ps=F:=by
 have j:∀{z f:List (Int×Int)} {ps F:List (List Int)},Ad W z ps->Ad W f F->(∀{x y},Con z x y->Con f x y)->(∀{x y},Con f x y->Con z x y)->∀p,p∈ps->p∈F:=λ{z f ps F} h g O R p I=>by
  obtain⟨x,r,rfl⟩:∃x r,p=x::r:=by
   cases p with
   |nil=>exact absurd rfl (h.ne _ I)
   |cons x r=>exact⟨x,r,rfl⟩
  have Z:=h.bd _ I x (by simp)
  obtain⟨q,J,hx⟩:=g.al x Z.1 Z.2;have e:x::r=q:=pw_ext WD (h.as _ I) (g.as _ J) λy=>⟨λY=>g.part J hx (O (h.co _ I x (by simp) y Y)),λY=>h.part I (by simp) (R (g.co _ J x hx y Y))⟩
  rw[e];exact J
 exact pw_ext eE s1 s2 λp=>⟨j h g O R p,j g h R O p⟩
theorem Ez {f:Type}{r:f->f->Prop}(y:∀a b c,r a b->r b c->r a c):∀{l:List f},(∀i (h:i+1<l.length),r l[i] l[i+1])->l.Pairwise r
 |[],_=>.nil
 |[a],_=>gx _ _
 |a::b::l,h=>by
  have q:=Ez y (l:=b::l) λi z=>h (i+1) (by simpa using z)
  refine db.mpr ⟨λx j=>?_,q⟩;have h0:=h 0 (by simp)
  rcases Sc.mp j with rfl|j
  ·exact h0
  ·exact y _ _ _ h0 ((db.mp q).1 x j)
def RH  {j:Type}(l:List j) d {f:List Nat}(h:f.Perm (Md l.length)):(f.map λi=>l.getD i d).Perm l:=by
 have:=h.map λi=>l.getD i d;have e:(Md l.length).map (λi=>l.getD i d)=l:=by
  refine Fp (by simp) λi y q=>?_
  simp[Ee,q]
 rw[e]at this;exact this
section
variable {G:Gp}{Q:K1}{a:Ea}
def fE   (g:G a=ma (.lst (ns.map .int)))(nd:ns.Nodup)(J:ns.length<64)(q:∀I:List Int,I.Perm ns->I.Pairwise (·< ·)->newO G (.lst (I.map .int)) Q):Lj [.loc a] G Q:=by
 unfold Lj;dsimp only;rw[g];refine⟨ns.map λn=>[n],?_,by rw[Hb];exact Lf J (by decide),by rw[Hb,Hb],.inl ⟨ns,rfl,rfl⟩,λf F Y=>?_⟩
 ·exact uf.mpr (nd.imp λh z=>h (Ar z).1)
 ·rw[Hb]at F Y;have j:∀i∈f,i<ns.length:=λi y=>Db.mp (F.mem_iff.mp y);have pl:f.length=ns.length:=by rw[F.length_eq,ql]
  have e:(f.map λi=>(ns.map U.int).getD i .non)=(f.map λi=>ns.getD i 0).map .int:=by
   rw[dg];refine Wr λi y=>?_;simp[Ee,j i y]
  rw[e];refine q _ (RH ns 0 F) (Ez (r:=λa b:Int=>a<b) (λ_ _ _ h g=>Int.lt_trans h g) λi y=>?_);have y:i+1<ns.length:=by simpa[pl]using y
  have R:i<f.length:=by lia
  have h2:i+1<f.length:=by lia
  have Z:=j _ (zi R);have O:=j _ (zi h2);have:=Y i y;rw[show f.getD i 0=f[i] by simp[Ee,R],show f.getD (i+1) 0=f[i+1] by simp[Ee,h2]]at this
  have k1:(ns.map λn=>[n]).getD f[i] []=[ns[f[i]]]:=by simp[Ee,Z]
  have k2:(ns.map λn=>[n]).getD f[i+1] []=[ns[f[i+1]]]:=by simp[Ee,O]
  rw[k1,k2]at this;have l1:HT.lexLt [ns[f[i]]] [ns[f[i+1]]]=decide (ns[f[i]]<ns[f[i+1]]):=by
   rw[HT.lexLt_cons];split
   ·rename_i z;rw[z,HT.lexLt_nil_nil];simp
   ·rfl
  rw[l1]at this;simpa[Ee,Z,O]using of_decide_eq_true this
structure Ls (G:Gp)(p:Ea)(as:List Ea)(ks:List (List Int)):Prop where
 gp:G p=ma (.lst (as.map .loc))
 l:as.length=ks.length
 ga:∀(i:Nat) a k,as[i]?=ma a->ks[i]?=ma k->G a=ma (.lst (k.map .int))
end

def ng  {j:Type}{f:j->U}{l:List j}{n:Nat}{a:j}(h:l[n]?=ma a):atI (l.map f) (n:Int)=ma (f a):=(zq f l _).trans (congrArg _ (Ag h))
noncomputable def Nd  (ss:List Ac):List (Int×Int):=ss.map λs=>((s.o:Int),(s.t:Int))
def dX     (g:G a=ma o):G=Ed G a o:=by
 funext b;unfold Ed;split
 ·rename_i z;rw[z];exact g
 ·rfl
theorem Gh  : ∀(W:Nat) (l:List Int),l.Nodup->(∀x∈l,0<=x/\x<W)->l.length<=W
 |0,l,_,h=>by
  cases l with
  |nil=>exact Mb _
  |cons a l=>have:=h a (by simp);lia
 |W+1,l,nd,h=>by
  have f:=Gh W (l.erase (W:Int)) (nd.erase _) λx q=>by
   obtain⟨z,y⟩:=nd.mem_erase_iff.mp q;have:=h x y
   lia
  by_cases j:(W:Int)∈l
  ·rw[List.length_erase_of_mem j]at f;lia
  ·rw[List.erase_of_not_mem j]at f;lia
abbrev Ent:=Nat×Int
noncomputable def eu  (e:Ent):U:=.tup [.int e.1,.int e.2]
noncomputable def eS  (ss:List Ac)(e:Ent):Int:=match ss[e.1]? with|some s=>if e.2=1 then s.o else s.t|none=>0
noncomputable def eD  (ss:List Ac)(e:Ent):Int:=match ss[e.1]? with|some s=>if e.2=1 then s.t else s.o|none=>0
def Te  (ss:List Ac)(e:Ent):Prop:=e.1<ss.length/\(e.2=1\/e.2=-1)
def Dj  (ss:List Ac)(e:Ent):U:=.tup [.int e.1,.int e.2,.int (eS ss e)]
section
variable {ss:List Ac}{s:Ac}{i:Nat}
def eS_1  (h:ss[i]?=ma s):eS ss (i,1)=s.o:=by unfold eS;dsimp only;rw[h];rfl
def eS_m  (h:ss[i]?=ma s):eS ss (i,-1)=s.t:=by unfold eS;dsimp only;rw[h];rfl
def eD_1  (h:ss[i]?=ma s):eD ss (i,1)=s.t:=by unfold eD;dsimp only;rw[h];rfl
def eD_m  (h:ss[i]?=ma s):eD ss (i,-1)=s.o:=by unfold eD;dsimp only;rw[h];rfl
def Te.get   (h:Te ss e):∃s,ss[e.1]?=ma s/\((e=(e.1,1)/\eS ss e=s.o/\eD ss e=s.t)\/(e=(e.1,-1)/\eS ss e=s.t/\eD ss e=s.o)):=by
 obtain⟨j,w⟩:=e;refine⟨ss[j]'h.1,Cc h.1,?_⟩;rcases h.2 with z|z
 ·have z:w=1:=z;subst z;exact .inl ⟨rfl,eS_1 (Cc h.1),eD_1 (Cc h.1)⟩
 ·have z:w=-1:=z;subst z;exact .inr ⟨rfl,eS_m (Cc h.1),eD_m (Cc h.1)⟩
def Te.adj   (h:Te ss e):(eS ss e,eD ss e)∈Nd ss\/(eD ss e,eS ss e)∈Nd ss:=by
 obtain⟨s,y,z⟩:=h.get;have q:((s.o:Int),(s.t:Int))∈Nd ss:=Uc.mpr ⟨s,Vc y,rfl⟩;rcases z with⟨_,f,j⟩|⟨_,f,j⟩
 ·rw[f,j];exact .inl q
 ·rw[f,j];exact .inr q
end

def jZ  {w:Nat}(sl:ss.length<=24)(q:∀p (y:List Ent) O ,Sa G O->G p=Aa->O p=ma (.lst (y.map (Dj ss)))->y.length<=48->(∀e∈y,Te ss e/\eD ss e=w)->
  (∀j s,ss[j]?=ma s->(s.t=w->(j,1)∈y)/\(s.o=w->(j,-1)∈y))->Q (.loc p) O):Ob T (k+1) YI [Tb xs ss,.int w] G Q X:=by
 refine⟨rfl,?_⟩;simp! only[OI,td,Zb];refine⟨by decide,λp G1 n1=>?_⟩
 simp! only[Tb,ix_t (Af _ _ _)];refine Ff (λi ς O=>∃(y:List Ent) (o3 o4 o5 o6 o7 o8:Option U),ς=[ma (Tb xs ss),ma (.int w),ma (.loc p),o3,o4,o5,o6,o7,o8]/\O=Ed G1 p (.lst (y.map (Dj ss)))/\y.length<=2*i/\(∀e∈y,Te ss e/\eD ss e=w)/\∀j s,j<i->ss[j]?=ma s->(s.t=w->(j,1)∈y)/\(s.o=w->(j,-1)∈y)) ?_ ?_ ⟨[],_,_,_,_,_,_,rfl,dX n1.at,Mb _,λ_ h=>(nomatch h),λj s h=>by lia⟩
 ·rintro ς G2 ⟨y,o3,o4,o5,o6,o7,o8,rfl,rfl,hl,he,hz⟩;rw[Mq,Hb]at hl hz;refine⟨trivial,?_⟩;simp! only[];refine q p y _ (λb o hb=>?_) n1.no Gf (by lia) he λj s e=>hz j s (Ba.mp e).1 e
  rw[Uh (λz=>by rw[z,n1.no]at hb;cases hb)]
  exact n1.sa _ _ hb
 ·rintro i x ς G2 K hx ⟨y,o3,o4,o5,o6,o7,o8,rfl,rfl,hl,he,hz⟩ hk;obtain⟨u,hu,rfl⟩:=Kq hx;rw[md]at hu;cases I:ss[i]? with
  |none=>rw[I]at hu;cases hu
  |some s=>
   rw[I]at hu;have hu:=(Hd hu).symm;subst hu;have il:i<ss.length:=(Ba.mp I).1;refine⟨trivial,?_⟩;simp! only[Ac.u,dh Gf,Sh Gf,Lk,Um];refine⟨trivial,trivial,?_⟩;have F:∀f:List Ent,f.length<=2*i+1->(∀e∈f,Te ss e/\eD ss e=w)->(∀e∈y,e∈f)->(s.t=w->(i,1)∈f)->(if decide ((s.o:Int)=(w:Int))=ua then
     0+1+1+1<=Fb/\(match xg .append (.loc p) (Ed G1 p (.lst (f.map (Dj ss))))with
      |some _=>Of .append (.loc p) [U.tup [.int ((0+i:Nat):Int),.int (-1),.int s.t]] (Ed G1 p (.lst (f.map (Dj ss)))) λ_ O=>K [ma (Tb xs ss),ma (.int w),ma (.loc p),ma (.int ((0+i:Nat):Int)),ma (.str s.w),ma (.int s.o),ma (.int s.t),ma (.int s.lo),ma (.int s.hi)] O
      |none=>False)
     else K [ma (Tb xs ss),ma (.int w),ma (.loc p),ma (.int ((0+i:Nat):Int)),ma (.str s.w),ma (.int s.o),ma (.int s.t),ma (.int s.lo),ma (.int s.hi)] (Ed G1 p (.lst (f.map (Dj ss))))):=λf xa Y J Z=>by
    by_cases c:s.o=w
    ·rw[if_pos (by simp;lia),dh Gf,Sh Gf,Lk,Um]
     refine⟨by decide,by rw[Hb];exact Ug (show f.length<=48 by lia) (by decide),hk _ _ ⟨f++[(i,-1)],_,_,_,_,_,_,rfl,by rw[ie];simp[Dj,eS_m I],by simp;lia,λe h=>?_,λj s' hj R=>?_⟩⟩
     ·rcases ee.mp h with h|h
      ·exact Y e h
      ·rw[Nc.mp h,eD_m I];exact⟨⟨il,.inr rfl⟩,by lia⟩
     ·by_cases e:j=i
      ·subst e;rw[I]at R;cases R;exact⟨λh=>Kg _ (Z h),λ_=>og _ (Nc.mpr rfl)⟩
      ·have:=hz j s' (by lia) R
       exact⟨λh=>Kg _ (J _ (this.1 h)),λh=>Kg _ (J _ (this.2 h))⟩
    ·rw[if_neg (by simp;lia)]
     refine hk _ _ ⟨f,_,_,_,_,_,_,rfl,rfl,by lia,Y,λj s' hj R=>?_⟩
     by_cases e:j=i
     ·subst e;rw[I]at R;cases R;exact⟨Z,λh=>absurd h c⟩
     ·have:=hz j s' (by lia) R
      exact⟨λh=>J _ (this.1 h),λh=>J _ (this.2 h)⟩
   by_cases c:s.t=w
   ·rw[if_pos (by simp;lia)]
    refine⟨by decide,by rw[Hb];exact Ug (show y.length<=48 by lia) (by decide),?_⟩
    have:=F (y++[(i,1)]) (by simp;lia) (λe h=>by
     rcases ee.mp h with h|h
     ·exact he e h
     ·rw[Nc.mp h,eD_1 I];exact⟨⟨il,.inl rfl⟩,by lia⟩) (λe h=>Kg _ h) λ_=>og _ (Nc.mpr rfl)
    rw[dh Gf,Sh Gf,Lk,Um,ie]at this;simp only[Se,Lr,Dj,eS_1 I]at this ⊢;simpa using this
   ·rw[if_neg (by simp;lia)]
    have:=F y (by lia) he (λ_ h=>h) λh=>absurd h c
    rw[dh Gf,Sh Gf,Lk,Um]at this;exact this

def WE        (g:G a=ma (.dK kvs)):setU (.loc a) (.int z) v G Q=(kvs.length<Fb/\putO G a (.dK (dPut kvs (.inl z) v)) Q):=by unfold setU;dsimp only;rw[g];rfl
def Om   z (l:List Int):((l.map U.int).any λy=>Pj y (.int z))=decide (z∈l):=by
 rw[Pi,zr,decide_eq_true_eq];constructor
 ·rintro⟨y,f,e⟩;obtain⟨x,j,rfl⟩:=Uc.mp f;have:x=z:=by simpa[Pj]using e
  rw[<- this];exact j
 ·intro h;exact⟨.int z,Uc.mpr ⟨z,h,rfl⟩,by simp[Pj]⟩
def Wm  (l:List Int):(l.map U.int).all flat=ua:=by simp[flat]
structure iD (W:Nat)(es:List (Int×Int))(w:Nat)(rs:List Int):Prop where
 nd:((w:Int)::rs).Nodup
 bd:∀x∈(w:Int)::rs,0<=x/\x<W
 co:∀x∈(w:Int)::rs,Con es w x
def Ie  (fs:List (Int×Ent)):List (uc×U):=fs.map λf=>(Ib f.1,eu f.2)
noncomputable def Xb  (fs:List (Int×Ent)):List Int:=fs.map (·.1)
structure Wg (W:Nat)(ss:List Ac)(w:Nat)(fs:List (Int×Ent)):Prop where
 nd:((w:Int)::Xb fs).Nodup
 bd:∀x∈(w:Int)::Xb fs,0<=x/\x<W
 en:∀j f,fs[j]?=ma f->Te ss f.2/\eS ss f.2=f.1/\eD ss f.2∈(w:Int)::Xb (fs.take j)
section
variable {W:Nat}{ss:List Ac}{w:Nat}{fs:List (Int×Ent)}
def Nq    (h:x∈Xb (fs.take j)):∃i f,i<j/\fs[i]?=ma f/\f.1=x:=by
 obtain⟨f,q,rfl⟩:=Uc.mp h;obtain⟨i,y,e⟩:=Jg q;rw[Yh]at y;refine⟨i,f,by lia,?_,rfl⟩
 rw[<- e,MC];exact Cc (by lia)
def Cq  {j:Nat}(h:fs[j]?=ma f):f.1∈Xb fs:=Uc.mpr ⟨f,Vc h,rfl⟩
def YF    (h:x∈(w:Int)::Xb (fs.take j)):x∈(w:Int)::Xb fs:=by
 rcases Sc.mp h with z|z
 ·rw[z];simp
 ·obtain⟨i,f,_,e,rfl⟩:=Nq z;exact Jd _ (Cq e)
theorem Wg.con  (h:Wg W ss w fs):∀(n j:Nat) (f:Int×Ent),j<n->fs[j]?=ma f->Con (Nd ss) w f.1
 |0,_,_,hj,_=>by lia
 |n+1,j,f,hj,e=>by
  obtain⟨I,y,J⟩:=h.en j f e;have:Con (Nd ss) w (eD ss f.2):=by
   rcases Sc.mp J with z|z
   ·rw[z];exact .refl _
   ·obtain⟨i,g,O,F,q⟩:=Nq z;rw[<- q];exact h.con n i g (by lia) F
  rw[<- y];exact .step this (rD I.adj)
def Wg.rch  (h:Wg W ss w fs):iD W (Nd ss) w (Xb fs):=⟨h.nd,h.bd,λx y=>by
 rcases Sc.mp y with z|z
 ·rw[z];exact .refl _
 ·obtain⟨f,q,rfl⟩:=Uc.mp z;obtain⟨j,F,e⟩:=Jg q;exact h.con (j+1) j f (by lia) (by rw[Cc F,e])⟩
def Wg.add  (h:Wg W ss w fs)(J:Te ss e)(hd:eD ss e∈(w:Int)::Xb fs)(hs:0<=eS ss e/\eS ss e<W)(O:eS ss e∉(w:Int)::Xb fs):Wg W ss w (fs++[(eS ss e,e)]):=by
 have F:(w:Int)::Xb (fs++[(eS ss e,e)])=((w:Int)::Xb fs)++[eS ss e]:=by simp[Xb]
 refine⟨?_,λx y=>?_,λj f q=>?_⟩
 ·rw[F];refine wf.mpr ⟨h.nd,by simp,λa R b Y=>?_⟩
  rw[Nc.mp Y];exact λz=>O (z ▸ R)
 ·rw[F]at y;rcases ee.mp y with z|z
  ·exact h.bd x z
  ·rw[Nc.mp z];exact hs
 ·by_cases Z:j<fs.length
  ·rw[Fn Z]at q;rw[MM (by lia)]
   exact h.en j f q
  ·have I:=(Ba.mp q).1;rw[bg,Gw]at I;have:j=fs.length:=by lia
   subst this;rw[Np (Mb _),tw]at q;cases q;refine⟨J,rfl,?_⟩;rw[MM (Mb _),Bf];exact hd
def rV  (y:w<W):Wg W ss w []:=⟨by simp[Xb],λx q=>by rw[show((w:Int)::Xb [])=[(w:Int)]from rfl]at q;rw[Nc.mp q];lia,λj f e=>by simp at e⟩
def wW  {kvs:List (uc×U)}(y:∀j∈kvs,j.1≠Ib z):dPut kvs (.inl z) v=kvs++[(.inl z,v)]:=by
 unfold dPut;rw[if_neg λq=>?_];obtain⟨j,f,e⟩:=zr.mp q;exact y j f (of_decide_eq_true e)
end
section
variable {k:Nat}{G:Gp}{Q:K1}{X:KX}{xs:List Str}{ss:List Ac}{W:Nat}
def aE   (f:∀s∈ss,s.Ok W):∀a b,(a,b)∈Nd ss->(0<=a/\a<W)/\0<=b/\b<W:=λa b h=>by
 obtain⟨s,j,e⟩:=Uc.mp h;have o:=f s j;have o1:=o.o;have o2:=o.t;obtain⟨y,q⟩:=rn e
 lia
def fN  (ss:List Ac)(w:Nat)(rs:List Int):Prop:=∀x y,x∈(w:Int)::rs->((x,y)∈Nd ss\/(y,x)∈Nd ss)->y∈(w:Int)::rs
def MI    (so:∀s∈ss,s.Ok W)(sl:ss.length<=24)(hw:w<W)(w8:W<=8)(hr:∀G1,Sa G G1->∀k:List U->Prop,k [.int w]->Ig r G1 λxs _=>k xs)
  (q:∀pf fs J ,Sa G J->G pf=Aa->J pf=ma (.dK (Ie fs))->Wg W ss w fs->fN ss w (Xb fs)->Q (.loc pf) J) :
  Ob T (k+2) Nv [Tb xs ss,r] G Q X:=by
 refine⟨rfl,?_⟩;simp! only[DJ,td,Zb];refine⟨by decide,λpf G1 n1=>?_⟩
 simp! only[];refine hr G1 n1.sa _ ?_;intro Y G2 n2;simp! only[kK];have ya:pf≠Y:=Ta (Li n1.at n2.no);have R:∀{Ga Gb:Gp} {p:Ea} {o:MO},(p=pf\/p=Y)->Sa G Ga->Lh Ga p o Gb->Sa G Gb:=λ{Ga Gb p o} hp s w b u e=>w.sm _ _ (λz=>by
  rcases hp with rfl|rfl
  ·rw[z,n1.no]at e;cases e
  ·rw[z]at e;have:=n1.sa _ _ e;rw[n2.no]at this;cases this) (s b u e)
 rw[S_wh];refine⟨λn ς J=>∃(fs:List (Int×Ent)) (i:Nat) (o5 o6 o7:Option U),ς=[ma (Tb xs ss),ma r,ma (.loc pf),ma (.loc Y),ma (.int i),o5,o6,o7]/\n=W-i/\Sa G J/\J pf=ma (.dK (Ie fs))/\J Y=ma (.lst (((w:Int)::Xb fs).map .int))/\Wg W ss w fs/\i<=fs.length+1/\
   ∀j x y,j<i->((w:Int)::Xb fs)[j]?=ma x->((x,y)∈Nd ss\/(y,x)∈Nd ss)->y∈(w:Int)::Xb fs,⟨_,[],0,_,_,_,rfl,rfl,n1.sa.trans n2.sa,n2.sa _ _ n1.at,n2.at,rV hw,by simp,λj x y h=>by lia⟩,?_⟩
 rintro n ς G3 ⟨fs,i,o5,o6,o7,rfl,rfl,s3,gf,gr,rc,il,cl⟩;have rl:=Gh W _ rc.nd rc.bd;simp only[Xb,Zf,Hb]at rl;have kl:(Xb fs).length=fs.length:=Hb _;simp! only[tq gr,Hb,Zf,kl];by_cases c:(i:Int)<((fs.length+1:Nat):Int)
 ·rw[if_pos (by simpa using c)]
  have hi:i<((w:Int)::Xb fs).length:=by rw[Zf,kl];lia
  obtain⟨x,hx⟩:∃x,((w:Int)::Xb fs)[i]?=ma x:=⟨_,Cc hi⟩;have bx:=rc.bd x (Vc hx);obtain⟨xn,rfl⟩:=Vi bx.1;rw[ix_l gr (show atI (((w:Int)::Xb fs).map U.int) (i:Int)=ma (.int (xn:Int))from ng hx)];refine jZ sl λpe tr G4 s4 ne g4 tl te tm=>?_;rw[it_l g4];have za:pe≠pf:=λz=>by rw[z,gf]at ne;cases ne
  have va:pe≠Y:=λz=>by rw[z,gr]at ne;cases ne
  refine Ff (λj ς J=>∃(F:List (Int×Ent)) (o5 o6 o7:Option U),ς=[ma (Tb xs ss),ma r,ma (.loc pf),ma (.loc Y),ma (.int i),o5,o6,o7]/\Sa G J/\J pe=ma (.lst (tr.map (Dj ss)))/\J pf=ma (.dK (Ie F))/\J Y=ma (.lst (((w:Int)::Xb F).map .int))/\Wg W ss w F/\(∃ext,F=fs++ext)/\∀e∈tr.take j,eS ss e∈(w:Int)::Xb F)
   ?_ ?_ ⟨fs,_,_,_,rfl,s3.trans s4,g4,s4 _ _ gf,s4 _ _ gr,rc,⟨[],by simp⟩,λe he=>by simp at he⟩
  ·rintro ς G5 ⟨F,o5,o6,o7,rfl,s5,ge,gf',gr',rc',⟨ext,hext⟩,hm⟩;rw[Hb,Bf]at hm;refine⟨by unfold Rc;rw[ge],?_⟩
   simp! only[];have ll:F.length=fs.length+ext.length:=by rw[hext,bg]
   refine⟨W-(i+1),by lia,F,i+1,_,_,_,rfl,rfl,s5,gf',gr',rc',by lia,λj x' y hj I e=>?_⟩
   have ha:((w:Int)::Xb F)[j]?=((w:Int)::Xb fs)[j]?:=by
    rw[hext,show((w:Int)::Xb (fs++ext))=((w:Int)::Xb fs)++Xb ext by simp[Xb],Fn (by rw[Zf,kl];lia)]
   rw[ha]at I;have up:∀z,z∈(w:Int)::Xb fs->z∈(w:Int)::Xb F:=λz hz=>by
    rw[hext,show((w:Int)::Xb (fs++ext))=((w:Int)::Xb fs)++Xb ext by simp[Xb]]
    exact Kg _ hz
   by_cases ej:j=i
   ·subst ej;rw[hx]at I;cases I;rcases e with e|e
    ·obtain⟨s,hs,es⟩:=Uc.mp e;obtain⟨e1,e2⟩:=rn es;obtain⟨jj,Z,xa⟩:=Jg hs;have hg:ss[jj]?=ma s:=by rw[Cc Z,xa]
     have:=hm _ ((tm jj s hg).2 (by lia))
     rw[eS_m hg,e2]at this;exact this
    ·obtain⟨s,hs,es⟩:=Uc.mp e;obtain⟨e1,e2⟩:=rn es;obtain⟨jj,Z,xa⟩:=Jg hs;have hg:ss[jj]?=ma s:=by rw[Cc Z,xa]
     have:=hm _ ((tm jj s hg).1 (by lia))
     rw[eS_1 hg,e1]at this;exact this
   ·exact up _ (cl j x' y (by lia) I e)
  ·rintro j u ς G5 K hu ⟨F,o5,o6,o7,rfl,s5,ge,gf',gr',rc',⟨ext,hext⟩,hm⟩ hk2;rw[md]at hu;cases et:tr[j]? with
   |none=>rw[et]at hu;cases hu
   |some e=>
    rw[et]at hu;have hu:=(Hd hu).symm;subst hu;refine⟨by unfold Rc;rw[ge],?_⟩
    obtain⟨oe,ed⟩:=te e (Vc et);have wa:=Gh W _ rc'.nd rc'.bd;simp only[Xb,Zf,Hb]at wa;have I:(xn:Int)∈(w:Int)::Xb F:=by
     rw[hext,show((w:Int)::Xb (fs++ext))=((w:Int)::Xb fs)++Xb ext by simp[Xb]]
     exact Kg _ (Vc hx)
    simp! only[Dj];refine⟨trivial,in_l gr' rfl (Wm _) ?_⟩;rw[Om];by_cases cz:eS ss e∈(w:Int)::Xb F
    ·rw[if_neg (by rw[decide_eq_true cz];decide)]
     refine hk2 _ _ ⟨F,_,_,_,rfl,s5,ge,gf',gr',rc',⟨ext,hext⟩,λe' O=>?_⟩;rw[Rf,et]at O;rcases ee.mp O with z|z
     ·exact hm e' z
     ·rw[Nc.mp z];exact cz
    ·rw[if_pos (by rw[decide_eq_false cz];decide),WE gf']
     have fl:(Ie F).length=F.length:=Hb _;refine⟨by decide,by rw[fl];exact Ug (show F.length<=8 by lia) (by decide),λG6 p6=>?_⟩
     have ja:=p6.sm _ _ (Ta ya) gr';simp! only[dh ja,Sh ja];refine⟨Ug (show _<=9 by simp[Xb];lia) (by decide),λG7 p7=>?_⟩
     have bz:0<=eS ss e/\eS ss e<(W:Int):=by
      rcases oe.adj with z|z
      ·exact(aE so _ _ z).1
      ·exact(aE so _ _ z).2
     have pn:dPut (Ie F) (.inl (eS ss e)) (.tup [.int e.1,.int e.2])=Ie (F++[(eS ss e,e)]):=by
      rw[wW λkv ka z=>?_]
      ·simp[Ie,eu]
      ·obtain⟨f,hf,rfl⟩:=Uc.mp ka;have z:=Ib.inj z;exact cz (Jd _ (Uc.mpr ⟨f,hf,z⟩))
     rw[pn]at p6;refine hk2 _ _ ⟨F++[(eS ss e,e)],_,_,_,rfl,R (.inr rfl) (R (.inl rfl) s5 p6) p7,p7.sm _ _ va (p6.sm _ _ za ge),p7.sm _ _ ya p6.at,?_,rc'.add oe (by rw[ed];exact I) bz cz,⟨ext++[(eS ss e,e)],by rw[hext,sf]⟩,λe' O=>?_⟩
     ·have:=p7.at
      rw[this];simp[Xb]
     ·rw[Rf,et]at O;rw[show((w:Int)::Xb (F++[(eS ss e,e)]))=((w:Int)::Xb F)++[eS ss e] by simp[Xb]]
      rcases ee.mp O with z|z
      ·exact Kg _ (hm e' z)
      ·rw[Nc.mp z];exact og _ (Nc.mpr rfl)
 ·rw[if_neg (by simpa using c)]
  refine q pf fs G3 s3 n1.no gf rc λx y hx e=>?_;obtain⟨j,hj,ej⟩:=Jg hx;refine cl j x y ?_ (by rw[Cc hj,ej]) e
  rw[Zf,kl]at hj
  lia
def vY    (R:∀s∈ss,s.Ok W)(Y:ss.length<=24)(F:w<W)(z:W<=8)(g0:G j=ma (.lst [.int w]))
  (q:∀pf (kvs:List (uc×U)) (rs:List Int) f ,Sa G f->f pf=ma (.dK kvs)->kvs.map (·.1)=rs.map (λx=>(Ib x:uc))->iD W (Nd ss) w rs->(∀x y,x∈(w:Int)::rs->((x,y)∈Nd ss\/(y,x)∈Nd ss)->y∈(w:Int)::rs)->Q (.loc pf) f) :
  Ob T (k+2) Nv [Tb xs ss,.loc j] G Q X:=
 MI R Y F z (λG1 s1 k h=>by rw[it_l (s1 _ _ g0)];exact h) λpf fs f I _ Z O J=>q pf (Ie fs) (Xb fs) f I Z (by simp[Ie,Xb]) O.rch J
end

def pF     (g:G a=ma (.lst xs)):xg .extend (.loc a) G=ma ("list", "list.extend"):=by unfold xg;dsimp only;rw[g]
def PD      (g:G a=ma (.lst xs))(g':G b=ma (.lst ys)):Of .extend (.loc a) [.loc b] G Q=(xs.length+ys.length<=Fb/\putO G a (.lst (xs++ys)) (Q .non)):=by unfold Of Zz;dsimp only;rw[g,g']
def VP    {ns:List Int}{G:Gp}(g:G a=ma (.dK kvs))(h:kvs.map (·.1)=ns.map (λz=>(Ib z:uc)))(q:newO G (.lst (ns.map .int)) Q):mkDU (.loc a) G Q:=by unfold mkDU;dsimp only;rw[g];exact⟨ns,h,q⟩
def Fu  (ps:List (List Int)):U:=.tup (ps.map Kc)
structure Pp (W:Nat)(es:List (Int×Int))(i:Nat)(ps:List (List Int))(pl:List Int):Prop where
 hd:∀p∈ps,∃h r,p=h::r/\h<(i:Int)
 as:∀p∈ps,p.Pairwise (·< ·)
 bd:∀p∈ps,∀x∈p,0<=x/\x<W
 co:∀p∈ps,∀x∈p,∀y∈p,Con es x y
 cl:∀p∈ps,∀x∈p,∀y,Con es x y->y∈p
 so:ps.Pairwise Sl
 me:∀x,x∈pl↔∃p∈ps,x∈p
 up:∀x:Int,0<=x->x<i->x∈pl
 l1:ps.length<=i
 l2:pl.length<=8*i
section
variable {W:Nat}{es:List (Int×Int)}
def Pp.nil  : Pp W es 0 [] []:=⟨λ_ h=>(nomatch h),λ_ h=>(nomatch h),λ_ h=>(nomatch h),λ_ h=>(nomatch h),λ_ h=>(nomatch h),.nil,λx=>by simp,λx f j=>by lia,Mb _,Mb _⟩
def Pp.skip     (h:Pp W es i ps f)(hi:(i:Int)∈f):Pp W es (i+1) ps f:=by
 refine⟨λp q=>?_,h.as,h.bd,h.co,h.cl,h.so,h.me,λx j y=>?_,by have:=h.l1;lia,by have:=h.l2;lia⟩
 ·obtain⟨a,r,e,l⟩:=h.hd p q;exact⟨a,r,e,by lia⟩
 ·by_cases e:x=i
  ·rw[e];exact hi
  ·exact h.up x j (by lia)
def Pp.add     (h:Pp W es i ps pl)(hi:(i:Int)∉pl)(w8:W<=8)(F:iD W es i rs)(cl:∀x y,x∈(i:Int)::rs->((x,y)∈es\/(y,x)∈es)->y∈(i:Int)::rs)
  (j:zs.Perm ((i:Int)::rs)) (hs:zs.Pairwise (·< ·)):Pp W es (i+1) (ps++[zs]) (pl++zs):=by
 have q:∀y,y∈zs↔y∈(i:Int)::rs:=λy=>j.mem_iff;have zc:∀x∈zs,∀y,Con es x y->y∈zs:=λx f y g=>(q y).mpr (g.closed (S:=λz=>z∈(i:Int)::rs) (λa b ha e=>cl a b ha e) ((q x).mp f));have O:(i:Int)∈zs:=(q _).mpr (by simp)
 have Y:∀y∈zs,(i:Int)<=y:=λy J=>by
  by_cases c:(i:Int)<=y
  ·exact c
  ·have xa:=F.bd y ((q y).mp J);obtain⟨p,I,R⟩:=(h.me y).mp (h.up y xa.1 (by lia))
   exact absurd ((h.me _).mpr ⟨p,I,h.cl p I y R i (F.co y ((q y).mp J)).symm⟩) hi
 obtain⟨r,ez⟩:∃r,zs=(i:Int)::r:=by
  cases zs with
  |nil=>cases O
  |cons a r=>
   refine⟨r,?_⟩;rcases Sc.mp O with z|z
   ·rw[z]
   ·have:=(db.mp hs).1 _ z;have:=Y a (by simp)
    lia
 have lz:zs.length<=8:=by
  rw[j.length_eq];exact Yb (Gh W _ F.nd F.bd) w8
 have one:∀{P:List Int->Prop},(∀p∈ps,P p)->P zs->∀p∈ps++[zs],P p:=λ{P} Z h2 p j=>by
  rcases ee.mp j with z|z
  ·exact Z p z
  ·rw[Nc.mp z];exact h2
 refine⟨one (λp j=>?_) ⟨_,r,ez,by lia⟩,one h.as hs,one h.bd λx f=>F.bd x ((q x).mp f),one h.co λx f y J=>(F.co x ((q x).mp f)).symm.trans (F.co y ((q y).mp J)),one h.cl zc,?_,λx=>?_,λx Z h2=>?_,by have:=h.l1;simp;lia,by have:=h.l2;simp;lia⟩
 ·obtain⟨a,r,e,l⟩:=h.hd p j;exact⟨a,r,e,by lia⟩
 ·refine Pa.mpr ⟨h.so,gx _ _,λp j z hz=>?_⟩;rw[Nc.mp hz,ez];obtain⟨a,r',e,l⟩:=h.hd p j;rw[e];show HT.lexLt _ _=ua;rw[HT.lexLt_cons,if_neg (by lia)]
  exact decide_eq_true l
 ·rw[ee,h.me x];constructor
  ·rintro(⟨p,j,f⟩|f)
   ·exact⟨p,Kg _ j,f⟩
   ·exact⟨zs,og _ (Nc.mpr rfl),f⟩
  ·rintro⟨p,j,f⟩;rcases ee.mp j with z|z
   ·exact .inl ⟨p,z,f⟩
   ·rw[Nc.mp z]at f;exact .inr f
 ·by_cases e:x=i
  ·rw[e];exact og _ O
  ·exact Kg _ (h.up x Z (by lia))
def Pp.isP    (h:Pp W es W ps Y)(J:∀a b,(a,b)∈es->0<=a/\a<W):Ad W es ps:=by
 refine⟨λp f=>?_,h.as,h.bd,λx j z=>(h.me x).mp (h.up x j z),λp f q I x j z=>?_,?_,λa b e=>?_,h.co⟩
 ·obtain⟨a,r,e,_⟩:=h.hd p f;rw[e];simp
 ·exact pw_ext WD (h.as p f) (h.as q I) λy=>⟨λF=>h.cl q I x z y (h.co p f x j y F),λF=>h.cl p f x j y (h.co q I x z y F)⟩
 ·exact h.so.imp λ{a b} g e=>by rw[e]at g;exact eE _ _ g g
 ·have O:=J a b e;obtain⟨p,f,R⟩:=(h.me a).mp (h.up a O.1 O.2);exact⟨p,f,R,h.cl p f a R b (Con.one (.inl e))⟩
end

def xT  {W:Nat}(f:∀s∈ss,s.Ok W):∀a b,(a,b)∈Nd ss->(0<=a/\a<W)/\0<=b/\b<W:=λa b h=>by
 obtain⟨s,j,e⟩:=Uc.mp h;have o:=f s j;have o1:=o.o;have o2:=o.t;obtain⟨y,q⟩:=rn e
 lia
def QA  (so:∀s∈ss,s.Ok xs.length)(sl:ss.length<=24)(w8:xs.length<=8)(q:∀(ps:List (List Int)) j ,Ad xs.length (Nd ss) ps->ps.Pairwise Sl->ps.length<=8->Sa G j->Q (Fu ps) j):Ob T (k+3) Jv [Tb xs ss] G Q X:=by
 refine⟨rfl,?_⟩;simp! only[FI,td,Zb];refine⟨by decide,λy G1 R=>?_⟩
 simp! only[];refine⟨by decide,λI G2 Z=>?_⟩
 have Y:I≠y:=Li R.at Z.no;have f:∀{Ga Gb:Gp} {p:Ea} {o:MO},(p=y\/p=I)->Sa G Ga->Lh Ga p o Gb->Sa G Gb:=λ{Ga Gb p o} hp s w b u e=>w.sm _ _ (λz=>by
  rcases hp with rfl|rfl
  ·rw[z,R.no]at e;cases e
  ·rw[z]at e;have:=R.sa _ _ e;rw[Z.no]at this;cases this) (s b u e)
 simp! only[SJ,Tb,ix_t (Th _ _),Hb];refine⟨by lia,by lia,?_⟩
 refine Ff (λi ς j=>∃(ps:List (List Int)) (ls:List Int) (o3 o4:Option U),ς=[ma (Tb xs ss),ma (.loc y),ma (.loc I),o3,o4]/\Sa G j/\j y=ma (.lst (ps.map Kc))/\j I=ma (.lst (ls.map .int))/\Pp xs.length (Nd ss) i ps ls) ?_ ?_ ⟨[],[],_,_,rfl,R.sa.trans Z.sa,Z.sa _ _ R.at,Z.at,Pp.nil⟩
 ·rintro ς G3 ⟨ps,ls,o3,o4,rfl,s3,gp,gl,h⟩;rw[yf]at h;refine⟨trivial,?_⟩;simp! only[it_l gp];exact q ps _ (h.isP λa b e=>(xT so a b e).1) h.so (by have:=h.l1;lia) s3
 ·rintro i x ς G3 K hx ⟨ps,ls,o3,o4,rfl,s3,gp,gl,h⟩ hk;obtain⟨hi,rfl⟩:=Fh hx;refine⟨trivial,?_⟩;simp! only[];refine in_l gl rfl (Wm _) ?_;rw[Om];by_cases c:(i:Int)∈ls
  ·rw[if_neg (by rw[decide_eq_true c];decide)]
   exact hk _ _ ⟨ps,ls,_,_,rfl,s3,gp,gl,h.skip c⟩
  ·rw[if_pos (by rw[decide_eq_false c];decide)]
   refine⟨by decide,λp4 G4 n4=>⟨by decide,λp5 G5 n5=>?_⟩⟩
   refine vY so sl hi w8 n5.at λpf va rs G6 s6 gf xa rc cl=>?_;refine VP gf xa λp7 G7 n7=>?_;have g4:=n7.sa _ _ (s6 _ _ (n5.sa _ _ n4.at));have rl:=Gh _ _ rc.nd rc.bd;simp only[Zf]at rl;refine⟨_,_,g4,n7.at,Yb (show _<=9 by simp;lia) (by decide),λp8 G8 n8=>?_⟩
   have e8:[U.int (i:Int)]++rs.map .int=((i:Int)::rs).map .int:=rfl;rw[e8]at n8;simp! only[];refine fE n8.at rc.nd (by simp;lia) λzs hp hs p9 G9 F=>?_
   have s8:Sa G3 G8:=(((n4.sa.trans n5.sa).trans s6).trans n7.sa).trans n8.sa;have s9:Sa G3 G9:=s8.trans F.sa;have q1:p9≠I:=Li (s8 _ _ gl) F.no;have q2:p9≠y:=Li (s8 _ _ gp) F.no;have ja:=s9 _ _ gp;have O:=s9 _ _ gl;have h':=h.add c w8 rc cl hp hs;have lz:zs.length<=8:=by rw[hp.length_eq];simp;lia
   have l2:=h.l2;have l1:=h.l1;simp! only[pF O,PD O F.at];refine⟨Yb (show _<=100 by simp;lia) (by decide),λGa pa=>?_⟩
   have J:=pa.sm _ _ (Ta Y) ja;have za:=pa.sm _ _ q1 F.at
   simp! only[dh J,it_l za,Sh J];refine⟨by rw[Hb];exact Ug (show ps.length<=8 by lia) (by decide),λGb pb=>?_⟩
   refine hk _ _ ⟨ps++[zs],ls++zs,_,_,rfl,f (.inl rfl) (f (.inr rfl) (s3.trans s9) pa) pb,?_,?_,h'⟩
   ·rw[ie];exact pb.at
   ·rw[ie];exact pb.sm _ _ Y pa.at

noncomputable def hit  (o t:Int)(k:List Int):Bool:=decide (o∈k)||decide (t∈k)
def Jk    : hit o t k=ua↔o∈k\/t∈k:=by unfold hit;simp
section
variable {W:Nat}{es:List (Int×Int)}{ks:List (List Int)}
def Ad.perm   (h:Ad W es ks)(p:f.Perm ks):Ad W es f:=by
 have m:∀k,k∈f↔k∈ks:=λk=>p.mem_iff;refine⟨λk hk=>h.ne k ((m k).mp hk),λk hk=>h.as k ((m k).mp hk),λk hk=>h.bd k ((m k).mp hk),λx z F=>?_,λk hk q y=>h.un k ((m k).mp hk) q ((m q).mp y),p.nodup_iff.mpr h.nd,λa b e=>?_,λk hk=>h.co k ((m k).mp hk)⟩
 ·obtain⟨k,hk,j⟩:=h.al x z F;exact⟨k,(m k).mpr hk,j⟩
 ·obtain⟨k,hk,j⟩:=h.ed a b e;exact⟨k,(m k).mpr hk,j⟩
def Ad.zero  : Ad W [] ((Md W).map λ(i:Nat)=>[(i:Int)]):=by
 have m:∀k,k∈(Md W).map (λ(i:Nat)=>[(i:Int)])↔∃i:Nat,i<W/\k=[(i:Int)]:=λk=>by
  rw[Uc];constructor
  ·rintro⟨i,f,rfl⟩;exact⟨i,Db.mp f,rfl⟩
  ·rintro⟨i,f,rfl⟩;exact⟨i,Db.mpr f,rfl⟩
 refine⟨λk hk=>?_,λk hk=>?_,λk hk x F=>?_,λx z I=>?_,λk hk q O x z I=>?_,?_,λ_ _ h=>(nomatch h),λk hk x F y J=>?_⟩
 ·obtain⟨i,_,rfl⟩:=(m k).mp hk;simp
 ·obtain⟨i,_,rfl⟩:=(m k).mp hk;exact gx _ _
 ·obtain⟨i,f,rfl⟩:=(m k).mp hk;rw[Nc.mp F];lia
 ·obtain⟨n,rfl⟩:=Vi z;exact⟨[(n:Int)],(m _).mpr ⟨n,by lia,rfl⟩,by simp⟩
 ·obtain⟨i,_,rfl⟩:=(m k).mp hk;obtain⟨j,_,rfl⟩:=(m q).mp O;rw[<- Nc.mp z,<- Nc.mp I]
 ·refine uf.mpr (List.nodup_range.imp λ{a b} h e=>h ?_);have:=(Ar e).1
  lia
 ·obtain⟨i,_,rfl⟩:=(m k).mp hk;rw[Nc.mp F,Nc.mp J];exact .refl _
def Ad.flat  (h:Ad W es ks):(ks.filter (hit o t)).flatten.Nodup/\∀x∈(ks.filter (hit o t)).flatten,0<=x/\x<W:=by
 refine⟨List.pairwise_flatten.mpr ⟨λl j=>(h.as l (Qf.mp j).1).imp λ{a b} g e=>by lia,?_⟩,λx f=>?_⟩
 ·refine(h.nd.sublist xC).imp_of_mem λ{a b} F I q x f y z e=>q ?_;exact h.un a (Qf.mp F).1 b (Qf.mp I).1 x f (e ▸ z)
 ·obtain⟨l,j,f⟩:=List.mem_flatten.mp f;exact h.bd l (Qf.mp j).1 x f
def Ad.step  (h:Ad W es ks){o t:Int}(ho:0<=o/\o<W)(ht:0<=t/\t<W)(hp:zs.Perm (ks.filter (hit o t)).flatten)(hs:zs.Pairwise (·< ·)):Ad W (es++[(o,t)]) (ks.filter (λk=>!hit o t k)++[zs]):=by
 have J:∀x,x∈zs↔∃k∈ks,hit o t k=ua/\x∈k:=λx=>by
  rw[hp.mem_iff,List.mem_flatten];constructor
  ·rintro⟨l,hl,f⟩;exact⟨l,(Qf.mp hl).1,(Qf.mp hl).2,f⟩
  ·rintro⟨l,j,F,f⟩;exact⟨l,Qf.mpr ⟨j,F⟩,f⟩
 have mf:∀k,k∈ks.filter (λk=>!hit o t k)↔k∈ks/\¬hit o t k=ua:=λk=>by rw[Qf];simp
 obtain⟨ko,za,Y⟩:=h.al o ho.1 ho.2;obtain⟨kt,va,R⟩:=h.al t ht.1 ht.2;have oz:o∈zs:=(J o).mpr ⟨ko,za,Jk.mpr (.inl Y),Y⟩;have tz:t∈zs:=(J t).mpr ⟨kt,va,Jk.mpr (.inr R),R⟩;have up:∀{x y},Con es x y->Con (es++[(o,t)]) x y:=λg=>g.mono λa b e=>.inl (Kg _ e);have ot:Con (es++[(o,t)]) o t:=Con.one (.inl (og _ (Nc.mpr rfl)));have zo:∀x∈zs,Con (es++[(o,t)]) o x:=λx f=>by
  obtain⟨k,hk,hh,I⟩:=(J x).mp f;rcases Jk.mp hh with z|z
  ·exact up (h.co k hk o z x I)
  ·exact ot.trans (up (h.co k hk t z x I))
 have one:∀{P:List Int->Prop},(∀k∈ks,¬hit o t k=ua->P k)->P zs->∀p∈ks.filter (λk=>!hit o t k)++[zs],P p:=λ{P} j F p hp=>by
  rcases ee.mp hp with z|z
  ·exact j p ((mf p).mp z).1 ((mf p).mp z).2
  ·rw[Nc.mp z];exact F
 have put:∀{k:List Int},k∈ks->∀{P:List Int->Prop},P k->(hit o t k=ua->P zs)->∃p∈ks.filter (λk=>!hit o t k)++[zs],P p:=λ{k} hk {P} j F=>by
  by_cases c:hit o t k=ua
  ·exact⟨zs,og _ (Nc.mpr rfl),F c⟩
  ·exact⟨k,Kg _ ((mf k).mpr ⟨hk,c⟩),j⟩
 refine⟨one (λk hk _=>h.ne k hk) (λz=>by rw[z]at oz;cases oz),one (λk hk _=>h.as k hk) hs,one (λk hk _=>h.bd k hk) λx f=>?_,λx j F=>?_,?_,?_,λa b e=>?_,one (λk hk _ x f y hy=>up (h.co k hk x f y hy)) λx f y hy=>(zo x f).symm.trans (zo y hy)⟩
 ·obtain⟨k,hk,_,I⟩:=(J x).mp f;exact h.bd k hk x I
 ·obtain⟨k,hk,f⟩:=h.al x j F;exact put hk (P:=λp=>x∈p) f λc=>(J x).mpr ⟨k,hk,c,f⟩
 ·have no:∀k∈ks,¬hit o t k=ua->∀x,x∈k->x∈zs->False:=λk hk c x f hz=>by
   obtain⟨k',ja,c',xa⟩:=(J x).mp hz;rw[h.un k hk k' ja x f xa]at c;exact c c'
  refine one (λk hk c=>one (λq hq _ x j F=>h.un k hk q hq x j F) λx j F=>(no k hk c x j F).elim) (one (λq hq c x j F=>(no q hq c x F j).elim) λ_ _ _=>rfl)
 ·refine wf.mpr ⟨h.nd.sublist xC,by simp,λa O b Z e=>?_⟩
  rw[Nc.mp Z]at e;rw[e]at O;exact((mf zs).mp O).2 (Jk.mpr (.inl oz))
 ·rcases ee.mp e with e|e
  ·obtain⟨k,hk,O,Z⟩:=h.ed a b e;exact put hk (P:=λp=>a∈p/\b∈p) ⟨O,Z⟩ λc=>⟨(J a).mpr ⟨k,hk,c,O⟩,(J b).mpr ⟨k,hk,c,Z⟩⟩
  ·have e:=Nc.mp e;obtain⟨rfl,rfl⟩:=rn e;exact⟨zs,og _ (Nc.mpr rfl),oz,tz⟩
def Ad.fewer  (h:Ad W es ks){o t:Int}(q:0<=o/\o<W):(ks.filter (λk=>!hit o t k)).length<ks.length:=by
 obtain⟨y,f,j⟩:=h.al o q.1 q.2;have:=Jk (t:=t) |>.mpr (.inl j);exact List.length_filter_lt_length_iff_exists.mpr ⟨y,f,by simp[this]⟩
end
structure Lq (G:Gp)(p:Ea)(el:List (Ea×List Int)):Prop where
 gp:G p=ma (.lst (el.map λe=>.loc e.1))
 ga:∀e∈el,G e.1=ma (.lst (e.2.map .int))
def Lq.sa     (h:Lq G p f)(s:Sa G G'):Lq G' p f:=⟨s _ _ h.gp,λe j=>s _ _ (h.ga e j)⟩
def Lq.ls     (h:Lq G p q):Ls G p (q.map (·.1)) (q.map (·.2)):=by
 refine⟨by rw[h.gp,dg];rfl,by simp,λi a k f j=>?_⟩
 rw[md]at f j;cases e:q[i]? with
 |none=>rw[e]at f;cases f
 |some x=>
  rw[e]at f j;cases f;cases j;exact h.ga x (Vc e)
theorem Bq   : ∀l:List Int,Nh G (l.map .int) (l.map .int)
 |[]=>.nil
 |_::r=>.cons (.int _) (Bq r)
def AH  (l:List Int):Small (.list (l.map .int)):=⟨(Kk l).1,by show ck (l.map .int)+1<=100;rw[(Kk l).2.1];decide⟩
def wV       (O:G b=ma (.lst (j.map .int)))(h:Lq G p f)(q:k (decide (j∈f.map (·.2)))):nh (.loc b) (.loc p) G k:=by
 unfold nh;dsimp only;rw[h.gp];refine .inr ⟨.list (j.map .int),f.map λe=>.list (e.2.map .int),.lst (by unfold Rc;rw[O]) (Bq _),?_,AH j,λe y=>?_,?_⟩
 ·have I:=h.ga;clear h q
  induction f with
  |nil=>exact .nil
  |cons e f J=>exact .cons (.lst (by unfold Rc;rw[I e Re]) (Bq _)) (J λe y=>I e (Jd _ y))
 ·obtain⟨z,_,rfl⟩:=Uc.mp y;exact AH z.2
 ·have:(f.map λe=>ub.list (e.2.map .int)).any (λe=>Je e (.list (j.map .int)))=decide (j∈f.map (·.2)):=by
   rw[Pi,zr,decide_eq_true_eq];constructor
   ·rintro⟨d,hd,e⟩;obtain⟨z,F,rfl⟩:=Uc.mp hd;rw[Xz]at e;exact Uc.mpr ⟨z,F,of_decide_eq_true e⟩
   ·intro R;obtain⟨z,F,e⟩:=Uc.mp R;exact⟨_,Uc.mpr ⟨z,F,rfl⟩,by rw[Xz];exact decide_eq_true e⟩
  rw[this];exact q
def Nj    (s:Sa G G')(h:G' p=Aa):G p=Aa:=by
 cases e:G p with
 |none=>rfl
 |some o=>rw[s _ _ e]at h;cases h

def qZ  {X: KX}{s:Ac}(os:s.Ok W)(w8:W<=8)(hq:Lq G3 p f)(hP:Ad W es (f.map (·.2)))(ll:f.length<=8)(s3:Sa G G3)(fr:∀e∈f,G e.1=Aa)
  (kk:∀p' (O:List (Ea×List Int)) I o7 o8 o9 ,Lq I p' O->Ad W (es++[((s.o:Int),(s.t:Int))]) (O.map (·.2))->O.length<=8->Sa G I->(∀e∈O,G e.1=Aa)->K [u0,ma (.loc p'),u2,ma (.int s.o),ma (.int s.t),u5,u6,o7,o8,o9] I) :
  Ze T.gs (Ob T k) pB ⟨K,Q,λx _ I=>X x I⟩ [u0,ma (.loc p),u2,ma (.int s.o),ma (.int s.t),u5,u6,o7,o8,o9] G3:=by
 have bo:0<=(s.o:Int)/\(s.o:Int)<W:=by have:=os.o;lia
 have bt:0<=(s.t:Int)/\(s.t:Int)<W:=by have:=os.t;lia
 simp! only[pB,it_l hq.gp];refine⟨by rw[Hb];exact Yb ll (by decide),?_⟩
 refine jg (λi q I=>I=G3/\q=((f.take i).filter λe=>hit s.o s.t e.2).map λe=>U.loc e.1) ?_ ?_ ⟨rfl,rfl⟩
 ·rintro q G4 ⟨rfl,rfl⟩;rw[Hb,Bf];refine⟨by unfold Rc;rw[hq.gp],λpm G5 n5=>?_⟩
  have hm:Lq G5 pm (f.filter λe=>hit s.o s.t e.2):=⟨n5.at,λe J=>n5.sa _ _ (hq.ga e (Qf.mp J).1)⟩;have F:=hq.sa n5.sa;have em:(f.filter λe=>hit s.o s.t e.2).map (·.2)=(f.map (·.2)).filter (hit s.o s.t):=by rw[List.filter_map];rfl
  simp! only[uK,it_l F.gp];refine⟨by rw[Hb];exact Yb ll (by decide),?_⟩
  refine jg (λi q I=>I=G5/\q=((f.take i).filter λe=>!hit s.o s.t e.2).map λe=>U.loc e.1) ?_ ?_ ⟨rfl,rfl⟩
  ·rintro q G6 ⟨rfl,rfl⟩;rw[Hb,Bf];refine⟨by unfold Rc;rw[F.gp],λpn G7 n7=>?_⟩
   have hn:Lq G7 pn (f.filter λe=>!hit s.o s.t e.2):=⟨n7.at,λe J=>n7.sa _ _ (F.ga e (Qf.mp J).1)⟩;have ya:=hm.sa n7.sa;have en:(f.filter λe=>!hit s.o s.t e.2).map (·.2)=(f.map (·.2)).filter (λk=>!hit s.o s.t k):=by rw[List.filter_map];rfl
   simp! only[TJ];refine⟨by decide,λp8 G8 n8=>?_⟩
   have R:=ya.sa n8.sa;have va:=hn.sa n8.sa;have s8:Sa G G8:=((s3.trans n5.sa).trans n7.sa).trans n8.sa;have fl:=hP.flat (o:=s.o) (t:=s.t);simp! only[UJ,it_l R.gp];refine Ff (λi ς I=>∃(pw:Ea) (o9:Option U),ς=[u0,ma (.loc pn),u2,ma (.int s.o),ma (.int s.t),u5,u6,ma (.loc pm),ma (.loc pw),o9]/\Sa G8 I/\I pw=ma (.lst ((((f.filter λe=>hit s.o s.t e.2).take i).map (·.2)).flatten.map .int))) ?_ ?_ ⟨p8,_,rfl,Sa.refl,n8.at⟩
   ·rintro ς G9 ⟨pw,o9,rfl,s9,gw⟩;rw[Hb,Bf,em]at gw;refine⟨by unfold Rc;rw[s9 _ _ R.gp],?_⟩
    have Z:=va.sa s9;simp! only[VJ,dh Z.gp];have lf:=Gh W _ fl.1 fl.2;refine fE gw fl.1 (by lia) λzs hp hs pz Ga Y=>?_
    have za:=Z.sa Y.sa;rw[Sh za.gp];have fw:=hP.fewer (t:=s.t) bo;rw[<- en,Hb,Hb]at fw;refine⟨by rw[Hb];exact Ug (show _<=8 by lia) (by decide),λGb pb=>?_⟩
    have fresh:G pn=Aa:=Nj (s3.trans n5.sa) n7.no;have ja:∀e∈f,e.1≠pn:=λe J=>Ta (Li (F.ga e J) n7.no);refine kk pn ((f.filter λe=>!hit s.o s.t e.2)++[(pz,zs)]) Gb _ _ _ ⟨by rw[ie];exact pb.at,λe J=>?_⟩ ?_ (by rw[bg];simp;lia) (λb o e=>pb.sm _ _ (λz=>by rw[z,fresh]at e;cases e) (Y.sa _ _ (s9 _ _ (s8 _ _ e)))) ?_
    ·rcases ee.mp J with z|z
     ·exact pb.sm _ _ (ja e (Qf.mp z).1) (za.ga e z)
     ·rw[Nc.mp z];exact pb.sm _ _ (Li Z.gp Y.no) Y.at
    ·rw[ie,en];exact hP.step bo bt hp hs
    ·intro e J;rcases ee.mp J with z|z
     ·exact fr e (Qf.mp z).1
     ·rw[Nc.mp z];exact Nj (s8.trans s9) Y.no
   ·rintro i x ς G9 K9 j ⟨pw,o9,rfl,s9,gw⟩ hk;rw[md]at j;cases y:(f.filter λe=>hit s.o s.t e.2)[i]? with
    |none=>rw[y]at j;cases j
    |some e=>
     rw[y]at j;have j:=(Hd j).symm;subst j;refine⟨by unfold Rc;rw[s9 _ _ R.gp],?_⟩
     have ge:=s9 _ _ (R.ga e (Vc y));simp! only[];have e1:(((f.filter λe=>hit s.o s.t e.2).take (i+1)).map (·.2)).flatten=(((f.filter λe=>hit s.o s.t e.2).take i).map (·.2)).flatten++e.2:=by
      rw[Rf,y,ie,QL];simp
     have lf:=Gh W _ fl.1 fl.2;have l1:((((f.filter λe=>hit s.o s.t e.2).take i).map (·.2)).flatten++e.2).length<=8:=by
      rw[<- e1];refine Yb ?_ (Yb lf w8);rw[<- em]
      conv=>rhs;rw[<- Vg (i+1) (f.filter λe=>hit s.o s.t e.2)]
      rw[ie,QL,bg]
      lia
     rw[bg]at l1;refine⟨_,_,gw,ge,by rw[Hb,Hb];exact Yb l1 (by decide),λpz Ga Y=>hk _ _ ⟨pz,_,rfl,s9.trans Y.sa,?_⟩⟩
     rw[e1,ie];exact Y.at
  ·rintro i x q G6 K6 j ⟨rfl,rfl⟩ hk hn;rw[md]at j;cases y:f[i]? with
   |none=>rw[y]at j;cases j
   |some e=>
    rw[y]at j;have j:=(Hd j).symm;subst j;have J:=Vc y;refine⟨by unfold Rc;rw[F.gp],?_⟩
    simp! only[];refine wV (F.ga e J) hm ?_;have e0:decide (e.2∈(f.filter λe=>hit s.o s.t e.2).map (·.2))=hit s.o s.t e.2:=by
     rw[em,Pi,decide_eq_true_eq,Qf];exact⟨λz=>z.2,λz=>⟨Uc.mpr ⟨e,J,rfl⟩,z⟩⟩
    rw[e0];have et:f.take (i+1)=f.take i++[e]:=by rw[Rf,y];rfl
    cases c:hit s.o s.t e.2 with
    |true=>
     rw[if_neg (by decide)]
     exact hn _ ⟨rfl,by rw[et,Ur,cx (by simp[c])];simp⟩
    |false=>
     rw[if_pos (by decide)]
     exact hk _ _ ⟨rfl,by rw[et,Ur,Os (by simp[c]),ie];rfl⟩
 ·rintro i x q G4 K4 j ⟨rfl,rfl⟩ hk hn;rw[md]at j;cases y:f[i]? with
  |none=>rw[y]at j;cases j
  |some e=>
   rw[y]at j;have j:=(Hd j).symm;subst j;have ge:=hq.ga e (Vc y);refine⟨by unfold Rc;rw[hq.gp],?_⟩
   simp! only[];have et:f.take (i+1)=f.take i++[e]:=by rw[Rf,y];rfl
   have xa:hit s.o s.t e.2=ua->K4 (ma (.loc e.1)) G4:=λc=>hk _ _ ⟨rfl,by rw[et,Ur,Os (by simpa using c),ie];rfl⟩
   have no:¬hit s.o s.t e.2=ua->K4 Aa G4:=λc=>hn _ ⟨rfl,by rw[et,Ur,cx (by simpa using c)];simp⟩
   refine in_l ge rfl (Wm _) ?_;rw[Om];by_cases c1:(s.o:Int)∈e.2
   ·rw[if_pos (decide_eq_true c1)];exact xa (Jk.mpr (.inl c1))
   ·rw[if_neg (by rw[decide_eq_false c1];decide)]
    refine in_l ge rfl (Wm _) ?_;rw[Om];by_cases c2:(s.t:Int)∈e.2
    ·rw[if_pos (decide_eq_true c2)];exact xa (Jk.mpr (.inr c2))
    ·rw[if_neg (by rw[decide_eq_false c2];decide)]
     exact no λz=>(Jk.mp z).elim c1 c2

def GR       (h:Ls G a as ks)(nd:ks.Nodup)(xa:ks.length<64)(q:∀p as' (F:List (List Int)) O ,F.Perm ks->F.Pairwise Sl->Sa G O->Ls O p as' F->(∀b∈as',b∈as)->Q (.loc p) O):Lj [.loc a] G Q:=by
 unfold Lj;dsimp only;rw[h.gp];refine⟨ks,nd,by rw[Hb,h.l];exact Lf xa (by decide),by rw[Hb,h.l],.inr (.inl ⟨as,rfl,h.ga⟩),λf Y hs=>?_⟩
 rw[Hb,h.l]at Y hs;have z:∀i∈f,i<ks.length:=λi y=>Db.mp (Y.mem_iff.mp y);have pl:f.length=ks.length:=by rw[Y.length_eq,ql]
 have e:(f.map λi=>(as.map U.loc).getD i .non)=(f.map λi=>as.getD i a).map .loc:=by
  rw[dg];refine Wr λi y=>?_;have:=z i y;rw[<- h.l]at this;simp[Ee,this]
 rw[e];intro p O n;refine q p _ (f.map λi=>ks.getD i []) O (RH ks [] Y) (Ez uu λi y=>?_) n.sa ⟨n.at,by simp,λi a' k I R=>n.sa _ _ ?_⟩ λb hb=>?_
 ·have y:i+1<ks.length:=by simpa[pl]using y
  have h1:i<f.length:=by lia
  have h2:i+1<f.length:=by lia
  have:=hs i y;rw[show f.getD i 0=f[i] by simp[Ee,h1],show f.getD (i+1) 0=f[i+1] by simp[Ee,h2]]at this
  simpa using this
 ·rw[md]at I R;cases ep:f[i]? with
  |none=>rw[ep]at I;cases I
  |some j=>
   rw[ep]at I R;have Z:=z j (Vc ep);have J:j<as.length:=by rw[h.l];exact Z
   have I:=Hd I;have R:=Hd R;refine h.ga j a' k ?_ ?_
   ·rw[Cc J,<- I];simp[Ee,J]
   ·rw[Cc Z,<- R];simp[Ee,Z]
 ·obtain⟨i,y,rfl⟩:=Uc.mp hb;have:=z i y;rw[<- h.l]at this;rw[show as.getD i a=as[i] by simp[Ee,this]]
  exact zi this

def u1  (so:∀s∈ss,s.Ok xs.length)(w8:xs.length<=8)(q:∀p as (Z:List (List Int)) j ,Sa G j->Ls j p as Z->Ad xs.length (Nd ss) Z->Z.Pairwise Sl->Z.length<=8->(∀a∈as,G a=Aa)->Q (.loc p) j):Ob T (k+1) lJ [Tb xs ss] G Q X:=by
 refine⟨rfl,?_⟩;simp! only[tI,td,Zb,Tb,ix_t (Th _ _),Hb];refine⟨by lia,by lia,by rw[yf];exact Yb w8 (by decide),?_⟩
 refine jg (λi J j=>∃f:List (Ea×List Int),J=f.map (λe=>.loc e.1)/\Sa G j/\(∀e∈f,j e.1=ma (.lst (e.2.map .int)))/\f.map (·.2)=((Md i).map λ(i:Nat)=>[(i:Int)])/\∀e∈f,G e.1=Aa) ?_ ?_ ⟨[],rfl,Sa.refl,λ_ h=>(nomatch h),rfl,λ_ h=>(nomatch h)⟩
 ·rintro J G1 ⟨f,rfl,s1,ga,ek,fr⟩;rw[yf]at ek;refine⟨trivial,λp G2 F=>?_⟩;have O:Lq G2 p f:=⟨F.at,λe I=>F.sa _ _ (ga e I)⟩;have R:f.length<=8:=by
   have:=congrArg mn ek;rw[Hb,Hb,ql]at this
   lia
  simp! only[sJ,ix_t (Af _ _ _)];refine Ff (λi ς j=>∃(p:Ea) (f:List (Ea×List Int)) (o2 o3 o4 o5 o6 o7 o8 o9:Option U),ς=[ma (Tb xs ss),ma (.loc p),o2,o3,o4,o5,o6,o7,o8,o9]/\Lq j p f/\Ad xs.length (Nd (ss.take i)) (f.map (·.2))/\f.length<=8/\Sa G j/\∀e∈f,G e.1=Aa) ?_ ?_ ⟨p,f,_,_,_,_,_,_,_,_,rfl,O,by rw[ek];exact Ad.zero,R,s1.trans F.sa,fr⟩
  ·rintro ς G3 ⟨p,f,o2,o3,o4,o5,o6,o7,o8,o9,rfl,O,hP,R,s3,fr⟩;rw[Hb,Bf]at hP;refine⟨trivial,?_⟩;simp! only[tJ];refine GR O.ls hP.nd (by rw[Hb];lia) λp' ja za G4 hp hs s4 h4 hm=>?_
   exact q p' ja za G4 (s3.trans s4) h4 (hP.perm hp) hs (by rw[hp.length_eq,Hb];exact R) λa ha=>by
    obtain⟨e,I,rfl⟩:=Uc.mp (hm a ha);exact fr e I
  ·rintro i x ς G3 K y ⟨p,f,o2,o3,o4,o5,o6,o7,o8,o9,rfl,O,hP,R,s3,fr⟩ hk;rw[md]at y;cases Y:ss[i]? with
   |none=>rw[Y]at y;cases y
   |some s=>
    rw[Y]at y;have y:=(Hd y).symm;subst y;refine⟨trivial,?_⟩;simp! only[Ac.u];refine⟨trivial,qZ (so s (Vc Y)) w8 O hP R s3 fr λp' xa j o7 o8 o9 h1 h2 h3 h4 h5=>hk _ _ ⟨p',xa,_,_,_,_,_,_,_,_,rfl,h1,?_,h3,h4,h5⟩⟩;have:Nd (ss.take (i+1))=Nd (ss.take i)++[((s.o:Int),(s.t:Int))]:=by unfold Nd;rw[Rf,Y,ie];rfl
    rw[this];exact h2
 ·rintro i x J G1 K y ⟨f,rfl,s1,ga,ek,fr⟩ hk _;obtain⟨hi,rfl⟩:=Fh y;refine⟨trivial,?_⟩;simp! only[];refine⟨by decide,λp G2 F=>hk _ _ ⟨f++[(p,[(i:Int)])],by rw[ie];rfl,s1.trans F.sa,λe I=>?_,by rw[ie,ek,ZB,ie];rfl,λe I=>?_⟩⟩
  rcases ee.mp I with z|z
  ·exact F.sa _ _ (ga e z)
  ·rw[Nc.mp z];exact F.at
  rcases ee.mp I with z|z
  ·exact fr e z
  ·rw[Nc.mp z];exact Nj s1 F.no
def sV    (j:xs.length<=8)(nm:∀x∈xs,Nm x)(F:ss.length<=24)(z:∀s∈ss,s.Ok xs.length):Ft 600000 3 (Tb xs ss):=by
 refine(Ft.tup (n:=260000) (k:=2) (m:=2) (Mb _) (λu hu=>?_) (by decide)).mono (Mb _) (Mb _)
 simp only[Sc,Rg,or_false]at hu;rcases hu with rfl|rfl
 ·refine(Ft.tup (n:=82) (k:=0) (m:=8) (by rw[Hb];exact j) (λv f=>?_) (by decide:_<=1000)).mono (by decide) (by decide)
  obtain⟨x,q,rfl⟩:=Uc.mp f;exact Ft.str (nm x q).l8 (nm x q).ch
 ·refine Ft.tup (n:=10000) (k:=1) (m:=25) (by rw[Hb];lia) (λv f=>?_) (by decide)
  obtain⟨s,y,rfl⟩:=Uc.mp f;exact(z s y).ft j
def CF     (h:k Ca):cmpU .NotEq (.str x) (.str x) G k:=by
 show k (!decide (x=x));rw[decide_eq_true rfl];exact h

def Wk  (ss:List Ac):List Ent->Int->Int->Prop
 |[],a,b=>a=b
 |e::r,a,b=>Te ss e/\eS ss e=a/\Wk ss r (eD ss e) b
noncomputable def zg  (e:Ent):Ent:=(e.1,-e.2)
section
variable {ss:List Ac}
theorem Wk.app  : ∀{r r' } {a m b },Wk ss r a m->Wk ss r' m b->Wk ss (r++r') a b
 |[],_,_,_,_,h,g=>by rw[show _=_ from h];exact g
 |_::r,_,_,_,_,⟨h1,h2,h3⟩,g=>⟨h1,h2,Wk.app h3 g⟩
theorem Wk.last  : ∀{r } {e } {a b },Wk ss (r++[e]) a b->Wk ss r a (eS ss e)/\Te ss e/\eD ss e=b
 |[],e,a,b,⟨h1,h2,h3⟩=>⟨h2.symm,h1,h3⟩
 |_::r,e,a,b,⟨h1,h2,h3⟩=>let ⟨f,j⟩:=Wk.last h3;⟨⟨h1,h2,f⟩,j⟩
def Te.flip   (h:Te ss e):Te ss (zg e)/\eS ss (zg e)=eD ss e/\eD ss (zg e)=eS ss e:=by
 obtain⟨s,f,z⟩:=h.get;rcases z with⟨z,j,q⟩|⟨z,j,q⟩
 ·rw[j,q,z];exact⟨⟨h.1,.inr rfl⟩,eS_m f,eD_m f⟩
 ·rw[j,q,z];exact⟨⟨h.1,.inl rfl⟩,eS_1 f,eD_1 f⟩
theorem Wk.rev  : ∀{r } {a b },Wk ss r a b->Wk ss (r.reverse.map zg) b a
 |[],_,_,h=>Eq.symm h
 |e::r,a,b,⟨h1,h2,h3⟩=>by
  rw[Sr,ie];refine(Wk.rev h3).app ?_;obtain⟨q,j,f⟩:=h1.flip;exact⟨q,j,f.trans h2⟩
theorem Wk.all  : ∀{r } {a b },Wk ss r a b->∀e∈r,Te ss e
 |_::_,_,_,⟨h1,_,h3⟩,e,he=>by
  rcases Sc.mp he with z|z
  ·rw[z];exact h1
  ·exact h3.all e z
def PP        (g:G a=ma (.frk o kvs))(q:k (dGet kvs (.inl z)).isSome):nh (.int z) (.loc a) G k:=by unfold nh;dsimp only;rw[g];exact q
def UD         (g:G a=ma (.frk o kvs))(h:dGet kvs (.inl z)=ma u):qf (.loc a) (.int z) G Q=Q u G:=by unfold qf;dsimp only;rw[g];dsimp only[kU];rw[h]
def vV       (g:G a=ma (.dK kvs)):mi f (.loc a) G Q=∀o j,Lh G a (.frk o kvs) j->Q (f kvs) (λj=>j a=ma (.frk o kvs)) j:=by unfold mi;dsimp only;rw[g]
def MF        (g:G a=ma (.frk o kvs)):mi f (.loc a) G Q=Q (f kvs) (λj=>j a=ma (.frk o kvs)) G:=by unfold mi;dsimp only;rw[g]
theorem yF  : ∀{fs } {z },z∉Xb fs->dGet (Ie fs) (.inl z)=Aa
 |[],_,_=>rfl
 |f::fs,z,h=>by
  have j:¬f.1=z:=λe=>h (by rw[<- e];simp[Xb])
  have q:z∉Xb fs:=λe=>h (Jd _ e);have:=yF q;unfold dGet Ie at this ⊢;rw[Se,DM (by simpa using j)]
  exact this
theorem zF  : ∀{fs } {j:Nat} {f },(Xb fs).Nodup->fs[j]?=ma f->dGet (Ie fs) (.inl f.1)=ma (eu f.2)
 |[],_,_,_,h=>by simp at h
 |g::fs,0,f,_,h=>by
  simp at h;subst h;unfold dGet Ie;rw[Se,List.find?_cons_of_pos (by simp)];rfl
 |g::fs,j+1,f,q,h=>by
  simp at h;have q:=Jb.mp (show(g.1::Xb fs).Nodup from q);have y:¬g.1=f.1:=λe=>q.1 (by rw[e];exact Cq h)
  have:=zF q.2 h;unfold dGet Ie at this ⊢;rw[Se,DM (by simpa using y)]
  exact this
def pV   {w:Nat}(q:((w:Int)::Xb fs).Nodup)(h:z∈(w:Int)::Xb (fs.take n)) :
  (z=w/\dGet (Ie fs) (.inl z)=Aa)\/∃j f,j<n/\fs[j]?=ma f/\f.1=z/\dGet (Ie fs) (.inl z)=ma (eu f.2):=by
 have q:=Jb.mp q;rcases Sc.mp h with z'|z'
 ·exact .inl ⟨z',by rw[z'];exact yF q.1⟩
 ·obtain⟨i,f,y,e,rfl⟩:=Nq z';exact .inr ⟨i,f,y,e,rfl,zF q.2 e⟩
end

def EF   (h:Te ss e)(q:Q (.tup [.int (eS ss e),.int (eD ss e)]) G):Ob T (k+1) GA [Tb xs ss,eu e] G Q X:=by
 obtain⟨s,y,z⟩:=h.get;refine⟨rfl,?_⟩;simp! only[TH,td,Zb,eu,Tb,ix_t (Af _ _ _),ix_t (ng y),Ac.u];refine⟨trivial,trivial,?_⟩;rcases z with⟨z,f,j⟩|⟨z,f,j⟩
 ·rw[show e.2=1 by rw[z],if_pos (by decide)]
  rw[f,j]at q;exact⟨by decide,q⟩
 ·rw[show e.2=-1 by rw[z],if_neg (by decide)]
  rw[f,j]at q;exact⟨by decide,q⟩
def FF       (R:Wg W ss w fs)(w8:W<=8)(Y:G pf=ma (.frk o (Ie fs)))(hz:z∈(w:Int)::Xb fs)
  (q:∀p (F:List Ent) J ,Sa G J->G p=Aa->J p=ma (.lst (F.map eu))->Wk ss F z w->F.length<=fs.length->(∀e∈F,∃f∈fs,f.2=e)->Q (.tup [.loc p,.int w]) J) :
  Ob T (k+2) bB [Tb xs ss,.loc pf,.int z] G Q X:=by
 have rl:=Gh W _ R.nd R.bd;simp only[Xb,Zf,Hb]at rl;refine⟨rfl,?_⟩;simp! only[xJ,td,Zb];refine⟨by decide,λp G1 O=>?_⟩
 simp! only[XJ];rw[S_wh];refine⟨λn ς J=>∃(F:List Ent) (y:Int),ς=[ma (Tb xs ss),ma (.loc pf),ma (.int y),ma (.loc p)]/\Sa G J/\J p=ma (.lst (F.map eu))/\Wk ss F z y/\y∈(w:Int)::Xb (fs.take n)/\n<=fs.length/\F.length+n<=fs.length/\∀e∈F,∃f∈fs,f.2=e,
  ⟨fs.length,[],z,rfl,O.sa,O.at,rfl,by rw[Bf];exact hz,Mb _,by simp,λ_ h=>(nomatch h)⟩,?_⟩
 rintro n ς G2 ⟨F,y,rfl,s2,gp,wk,hy,hn,hl,hm⟩;have I:=s2 _ _ Y;simp! only[];refine PP I ?_;rcases pV R.nd hy with⟨rfl,e⟩|⟨j,f,hj,ef,rfl,e⟩
 ·rw[e,if_neg (by decide)]
  simp! only[];exact⟨by decide,q p F G2 s2 O.no gp wk (by lia) hm⟩
 ·obtain⟨h1,h2,h3⟩:=R.en j f ef;rw[e,if_pos (by rfl)]
  simp! only[dh gp,UD I e,Sh gp];refine⟨by rw[Hb];exact Ug (show F.length<=8 by lia) (by decide),λG3 p3=>?_⟩
  have Z:pf≠p:=λz=>by rw[z,O.no]at Y;cases Y
  have xa:=p3.sm _ _ Z I;simp! only[UD xa e];refine EF h1 ?_;rw[ix_t (Af _ _ _)];refine⟨j,hj,F++[f.2],eD ss f.2,rfl,λb u hb=>p3.sm _ _ (λz=>by rw[z,O.no]at hb;cases hb) (s2 _ _ hb),by rw[ie];exact p3.at,wk.app ⟨h1,h2,rfl⟩,h3,by lia,by simp;lia,λe he=>?_⟩
  rcases ee.mp he with z|z
  ·exact hm e z
  ·rw[Nc.mp z];exact⟨f,Vc ef,rfl⟩

def mt_pop     (g:G p=ma (.lst us)):xg .pop (.loc p) G=ma ("list", "list.pop"):=by unfold xg;dsimp only;rw[g]
def CG       (g:G p=ma (.lst ((es++[e]).map eu)))(q:∀f,Lh G p (.lst (es.map eu)) f->Q (eu e) f):Of .pop (.loc p) [] G Q:=by
 dsimp only[Of];unfold popU;dsimp only;rw[g];dsimp only;have y:((es++[e]).map eu)[((es++[e]).map eu).length-1]?=ma (eu e):=by simp
 have j:((es++[e]).map eu).dropLast=es.map eu:=by simp
 rw[y,j];exact λf h=>q f h
def rF    : atI ((es++[e]).map eu) (-1)=ma (eu e):=by
 refine(zq eu _ _).trans ?_;unfold atI;rw[show mh (es++[e]).length (-1)=ma es.length by unfold mh;simp;lia]
 simp
def JQ     (q:k (decide (e=f))):cmpU .Eq (eu e) (eu f) G k:=by
 refine(?_:eqU (eu e) (eu f) G k);have d:∀x:Ent,DU G (eu x) (.tuple ([(x.1:Int),x.2].map .int)):=λx=>.tup (Bq [(x.1:Int),x.2]);have sm:∀l:List Int,Small (.tuple (l.map .int)):=λl=>⟨(Kk l).1,by show ck (l.map .int)+1<=100;rw[(Kk l).2.1];decide⟩
 refine⟨_,_,d e,d f,sm _,sm _,?_⟩;have:Je (.list ([(e.1:Int),e.2].map .int)) (.list ([(f.1:Int),f.2].map .int))=decide (e=f):=by
  rw[Xz,Pi,decide_eq_true_eq,decide_eq_true_eq];constructor
  ·intro h;injection h with h1 h2
   injection h2 with h2 _
   exact Tk (by lia) h2
  ·intro h;rw[h]
 rw[show Je (.tuple ([(e.1:Int),e.2].map .int)) (.tuple ([(f.1:Int),f.2].map .int))=decide (e=f)from this];exact q
def Du     {kk:Bool->Prop}(g:G a=ma (.lst us)):truU (.loc a) G kk=kk (!us.isEmpty):=by unfold truU;dsimp only;rw[g]
def AR      (g:G a=ma (.lst us)):revU (.loc a) (.int (-1)) G Q=newO G (.lst us.reverse) Q:=by
 unfold revU Rc;dsimp only;rw[g];simp
def Tf  (fs:List (Int×Ent))(e:Ent):Prop:=∃f∈fs,f.2=e\/f.2=zg e
structure CR (ss:List Ac)(fs:List (Int×Ent))(i:Nat)(s:Ac)(ring:List Ent):Prop where
 at':ss[i]?=ma s
 wk:Wk ss ring s.o s.o
 l:ring.length<=1+2*fs.length
 tl:∃r,ring=(i,1)::r/\∀e∈r,Tf fs e
theorem snoc  {f:Type}:∀l:List f,l=[]\/∃r e,l=r++[e]
 |[]=>.inl rfl
 |a::l=>.inr (by
  rcases snoc l with z|⟨r,e,z⟩
  ·exact⟨[],a,by rw[z];rfl⟩
  ·exact⟨a::r,e,by rw[z];rfl⟩)

def iY       (hF:Wg W ss w fs)(w8:W<=8)(gf:G pf=ma (.frk o (Ie fs)))(hs:ss[i]?=ma s)(h1:(s.o:Int)∈(w:Int)::Xb fs)(h2:(s.t:Int)∈(w:Int)::Xb fs)
  (q:∀(F:List Ent) y ,Sa G y->CR ss fs i s F->Q (.tup (F.map eu)) y):Ob T (k+3) zJ [Tb xs ss,.loc pf,.int i] G Q X:=by
 have rl:=Gh W _ hF.nd hF.bd;simp only[Xb,Zf,Hb]at rl;have il:=(Ba.mp hs).1;refine⟨rfl,?_⟩;simp! only[wJ,td,Zb,Tb,ix_t (Af _ _ _),ix_t (ng hs),Ac.u];refine⟨trivial,?_⟩;simp! only[oK];refine FF (xs:=xs) hF w8 gf h2 λpt ts G1 s1 nt Y wt lt mt=>?_;simp! only[];refine⟨trivial,?_⟩;refine FF (xs:=xs) hF w8 (s1 _ _ gf) h1 λpb bs G2 s2 nb g2 O lb Z=>?_;simp! only[pK];refine⟨trivial,?_⟩;rw[S_wh];have xa:pt≠pb:=λz=>by rw[z]at Y;rw[nb]at Y;cases Y
 refine⟨λn ς y=>∃(ts bs:List Ent) (m:Int),ς=[ma (Tb xs ss),ma (.loc pf),ma (.int i),ma (.str s.w),ma (.int s.o),ma (.int s.t),ma (.int s.lo),ma (.int s.hi),ma (.loc pt),ma (.int w),ma (.loc pb),ma (.int w),Aa]/\n=ts.length/\Sa G y/\y pt=ma (.lst (ts.map eu))/\y pb=ma (.lst (bs.map eu))/\Wk ss ts s.t m/\Wk ss bs s.o m/\ts.length<=fs.length/\bs.length<=fs.length/\(∀e∈ts,∃f∈fs,f.2=e)/\∀e∈bs,∃f∈fs,f.2=e,
  ⟨_,ts,bs,w,rfl,rfl,s1.trans s2,s2 _ _ Y,g2,wt,O,lt,lb,mt,Z⟩,?_⟩
 have ja:G pb=Aa:=Nj s1 nb;clear s1 Y wt lt mt s2 g2 O lb Z nb;rintro n ς G3 ⟨ts,bs,m,rfl,rfl,s3,gt,gb,wt,O,lt,lb,mt,Z⟩;have j:Ze T.gs (Ob T (k+2)) lB ⟨λ_ y=>Q .non y,Q,λx _ y=>X x y⟩ [ma (Tb xs ss),ma (.loc pf),ma (.int i),ma (.str s.w),ma (.int s.o),ma (.int s.t),ma (.int s.lo),ma (.int s.hi),ma (.loc pt),ma (.int w),ma (.loc pb),ma (.int w),Aa] G3:=by
  simp! only[lB];rw[if_pos (by simp)]
  refine⟨by decide,λph G4 n4=>?_⟩
  simp! only[qK];refine⟨by decide,by decide,λp5 G5 n5=>?_⟩
  refine⟨_,_,n5.at,n5.sa _ _ (n4.sa _ _ gt),Yb (show _<=20 by simp;lia) (by decide),λp6 G6 n6=>?_⟩
  refine⟨_,_,n6.at,n6.sa _ _ (n5.sa _ _ n4.at),Yb (show _<=20 by simp;lia) (by decide),λp7 G7 n7=>?_⟩
  have za:=n7.sa _ _ (n6.sa _ _ (n5.sa _ _ (n4.sa _ _ gb)));dsimp only;rw[AR za];intro p8 G8 n8;rw[it_l n8.at];refine⟨Yb (show _<=20 by simp;lia) (by decide),?_⟩
  rw[<- kL];refine Mk (λu=>match u with|.tup [.int a,.int b]=>.tup [.int a,.int (-b)]|u=>u) (by unfold Rc;rw[n8.at,kL]) (λu hu K hK=>?_) ?_
  ·obtain⟨e,I,rfl⟩:=Uc.mp hu;simp! only[eu];exact⟨trivial,by decide,hK⟩
  ·intro p9 G9 n9;have e9:[]++(bs.reverse.map eu).map (λu=>match u with|.tup [.int a,.int b]=>.tup [.int a,.int (-b)]|u=>u)=(bs.reverse.map zg).map eu:=by
    rw[Qi,dg,dg];rfl
   rw[e9]at n9;refine⟨_,_,n9.sa _ _ (n8.sa _ _ n7.at),n9.at,Yb (show _<=30 by simp;lia) (by decide),λpa Ga na=>?_⟩
   dsimp only;rw[it_l na.at];have wa:[U.tup [.int i,.int 1]]++ts.map eu++[]++(bs.reverse.map zg).map eu=(((i,1)::(ts++bs.reverse.map zg)):List Ent).map eu:=by simp[eu]
   rw[wa];have ya:Te ss (i,1):=⟨il,.inl rfl⟩;refine q _ Ga (s3.trans ((((((n4.sa.trans n5.sa).trans n6.sa).trans n7.sa).trans n8.sa).trans n9.sa).trans na.sa)) ⟨hs,⟨ya,eS_1 hs,?_⟩,by simp;lia,_,rfl,λe I=>?_⟩
   ·rw[eD_1 hs];exact wt.app O.rev
   ·rcases ee.mp I with z|z
    ·obtain⟨f,hf,rfl⟩:=mt e z;exact⟨f,hf,.inl rfl⟩
    ·obtain⟨e',va,rfl⟩:=Uc.mp z;obtain⟨f,hf,rfl⟩:=Z e' (List.mem_reverse.mp va);exact⟨f,hf,.inr (by simp[zg])⟩
 simp! only[];rw[Du gt];rcases snoc ts with rfl|⟨ts',et,rfl⟩
 ·rw[if_neg (by simp)];exact j
 rw[if_pos (by simp),Du gb]
 rcases snoc bs with rfl|⟨bs',eb,rfl⟩
 ·rw[if_neg (by simp)];exact j
 rw[if_pos (by simp),ix_l gt rF,ix_l gb rF]
 refine JQ ?_;by_cases c:et=eb
 ·subst c;rw[if_pos (by simp),mt_pop gt]
  refine CG gt λG4 p4=>?_;have R:=p4.sm _ _ (Ta xa) gb;rw[mt_pop R];refine CG R λG5 p5=>?_;obtain⟨w1,w2,w3⟩:=wt.last;obtain⟨v1,v2,v3⟩:=O.last;refine⟨ts'.length,by simp,ts',bs',eS ss et,trivial,rfl,λb u J=>p5.sm _ _ (λz=>by rw[z,ja]at J;cases J) (p4.sm _ _ (λz=>by rw[z,nt]at J;cases J) (s3 _ _ J)),p5.sm _ _ xa p4.at,p5.at,w1,v1,by simp at lt;lia,by simp at lb;lia,λe I=>mt e (Kg _ I),λe I=>Z e (Kg _ I)⟩
 ·rw[if_neg (by simpa using c)];exact j

def Ak  (r:List Ent):U:=.tup (r.map eu)

def uY      (hF:Wg W ss w fs)(w8:W<=8)(sl:ss.length<=24)(gf:G pf=ma (.dK (Ie fs)))(hc:fN ss w (Xb fs))(hp:∀x∈ps,x∈(w:Int)::Xb fs)
  (q:∀p (rs:List (List Ent)) o J ,Sm pf G J->G p=Aa->J p=ma (.lst (rs.map Ak))->J pf=ma (.frk o (Ie fs))->(∀r∈rs,∃i s,CR ss fs i s r)->(∀i s,ss[i]?=ma s->(s.o:Int)∈ps->(∃f∈fs,f.2.1=i)\/∃r∈rs,CR ss fs i s r)->rs.length<=24->Q (.loc p) J) :
  Ob T (k+4) eK [Tb xs ss,Kc ps,.loc pf] G Q X:=by
 have rl:=Gh W _ hF.nd hF.bd;simp only[Xb,Zf,Hb]at rl;refine⟨rfl,?_⟩;simp! only[ZJ,td,Zb,vV gf];intro o G1 p1;have ev:Fi (Ie fs)=fs.map λf=>eu f.2:=by unfold Fi Ie;rw[dg];rfl
 refine⟨by rw[ev,Hb];exact Yb (show fs.length<=8 by lia) (by decide),?_⟩
 refine Mk (λu=>match u with|.tup (a::_)=>a|u=>u) p1.at (λu hu K hK=>?_) ?_
 ·rw[ev]at hu;obtain⟨f,hf,rfl⟩:=Uc.mp hu;simp! only[eu];exact⟨trivial,hK⟩
 intro pu G2 n2;have ja:[]++(Fi (Ie fs)).map (λu=>match u with|.tup (a::_)=>a|u=>u)=(fs.map λf=>((f.2.1:Nat):Int)).map U.int:=by
  rw[ev,Qi,dg,dg];rfl
 rw[ja]at n2;simp! only[Tb,ix_t (Af _ _ _),Hb];refine⟨by lia,by lia,by rw[yf];exact Yb (show((ss.length:Int)).toNat<=24 by lia) (by decide),?_⟩
 refine jg (λn F J=>J=G2/\∃I:List Nat,F=I.map (λ(i:Nat)=>U.int (i:Int))/\I.length<=n/\(∀i∈I,∃s,ss[i]?=ma s/\(s.o:Int)∈ps)/\∀i s,i<n->ss[i]?=ma s->(s.o:Int)∈ps->(∃f∈fs,f.2.1=i)\/i∈I) ?_ ?_ ⟨rfl,[],rfl,Mb _,λ_ h=>(nomatch h),λi s h=>by lia⟩
 ·rintro F J ⟨rfl,I,rfl,il,h1,h2⟩;rw[yf]at il h2;refine⟨trivial,λp3 G3 n3=>?_⟩;simp! only[it_l n3.at];refine⟨by rw[Hb];exact Yb (show I.length<=24 by lia) (by decide),?_⟩
  have Z:G3 pf=ma (.frk o (Ie fs)):=n3.sa _ _ (n2.sa _ _ p1.at);refine jg (λn F J=>Sa G3 J/\∃rs:List (List Ent),F=rs.map Ak/\rs.length<=n/\(∀r∈rs,∃i s,CR ss fs i s r)/\∀i∈I.take n,∃s,∃r∈rs,CR ss fs i s r) ?_ ?_ ⟨Sa.refl,[],rfl,Mb _,λ_ h=>(nomatch h),λi h=>by simp at h⟩
  ·rintro F G4 ⟨s4,rs,rfl,rl4,c1,c2⟩;rw[Hb]at rl4 c2;rw[Bf]at c2;refine⟨by unfold Rc;rw[s4 _ _ n3.at],λp5 G5 n5=>?_⟩
   have sm:Sm pf G G4:=λb u hb e=>s4 _ _ (n3.sa _ _ (n2.sa _ _ (p1.sm _ _ hb e)));refine q p5 rs o G5 (λb u hb e=>n5.sa _ _ (sm b u hb e)) ?_ n5.at (n5.sa _ _ (s4 _ _ Z)) c1 (λi s O R=>?_) (by lia)
   ·cases e:G p5 with
    |none=>rfl
    |some u=>
     by_cases z:p5=pf
     ·have:=s4 _ _ Z;rw[<- z,n5.no]at this;cases this
     ·have:=sm _ _ z e;rw[n5.no]at this;cases this
   ·rcases h2 i s (by have:=(Ba.mp O).1;lia) O R with z|z
    ·exact .inl z
    ·obtain⟨Y,r,hr,h⟩:=c2 i z;have:=h.at';rw[O]at this;cases this;exact .inr ⟨r,hr,h⟩
  ·rintro n x F G4 K hx ⟨s4,rs,rfl,rl4,c1,c2⟩ hk _;rw[md]at hx;cases ei:I[n]? with
   |none=>rw[ei]at hx;cases hx
   |some i=>
    rw[ei]at hx;cases hx;obtain⟨s,O,R⟩:=h1 i (Vc ei);have za:=hp _ R;have ht:=hc _ _ za (.inl (Uc.mpr ⟨s,Vc O,rfl⟩));refine⟨by unfold Rc;rw[s4 _ _ n3.at],?_⟩
    simp! only[];refine iY (xs:=xs) hF w8 (s4 _ _ Z) O za ht λr G5 s5 h5=>hk _ _ ⟨s4.trans s5,rs++[r],by rw[ie];rfl,by simp;lia,λr' xa=>?_,λi' j=>?_⟩
    ·rcases ee.mp xa with z|z
     ·exact c1 r' z
     ·rw[Nc.mp z];exact⟨i,s,h5⟩
    ·rw[Rf,ei]at j;rcases ee.mp j with z|z
     ·obtain⟨Y,r',xa,h⟩:=c2 i' z;exact⟨Y,r',Kg _ xa,h⟩
     ·rw[Nc.mp z];exact⟨s,r,og _ (Nc.mpr rfl),h5⟩
 ·rintro n x F J K hx ⟨rfl,I,rfl,il,h1,h2⟩ hk hn;obtain⟨hi,rfl⟩:=Fh hx;obtain⟨s,O⟩:∃s,ss[n]?=ma s:=⟨ss[n]'(by lia),Cc _⟩
  refine⟨trivial,?_⟩;simp! only[ix_t (Af _ _ _),ix_t (ng O),Ac.u];refine⟨rfl,Wm _,?_⟩;rw[Om];dsimp only;by_cases c:(s.o:Int)∈ps
  ·rw[if_pos (by rw[decide_eq_true c])]
   refine in_l n2.at rfl (Wm _) ?_;rw[Om];by_cases d:((n:Nat):Int)∈fs.map λf=>((f.2.1:Nat):Int)
   ·rw[if_neg (by rw[decide_eq_true d];decide)]
    refine hn _ ⟨rfl,I,rfl,by lia,h1,λi Y j y R=>?_⟩
    by_cases e:i=n
    ·obtain⟨f,hf,ef⟩:=Uc.mp d;exact .inl ⟨f,hf,by lia⟩
    ·exact h2 i Y (by lia) y R
   ·rw[if_pos (by rw[decide_eq_false d];decide)]
    refine hk _ _ ⟨rfl,I++[n],by simp,by simp;lia,λi j=>?_,λi Y j y R=>?_⟩
    ·rcases ee.mp j with z|z
     ·exact h1 i z
     ·rw[Nc.mp z];exact⟨s,O,c⟩
    ·by_cases e:i=n
     ·exact .inr (og _ (Nc.mpr e))
     ·rcases h2 i Y (by lia) y R with z|z
      ·exact .inl z
      ·exact .inr (Kg _ z)
  ·rw[if_neg (by rw[decide_eq_false c];decide)]
   refine hn _ ⟨rfl,I,rfl,by lia,h1,λi Y j y R=>?_⟩
   by_cases e:i=n
   ·subst e;rw[O]at y;cases y;exact absurd R c
   ·exact h2 i Y (by lia) y R

abbrev Wn:=List (Int×Int)
noncomputable def wu  (w:Int×Int):U:=.tup [.int w.1,.int w.2]
def Ud  (ws:Wn):U:=.tup (ws.map wu)
noncomputable def eg  (ws:Wn)(e:Ent):Int:=if e.2=1 then (ws.getD e.1 (0,0)).1 else -(ws.getD e.1 (0,0)).2
noncomputable def fg  (ws:Wn)(e:Ent):Int:=if e.2=1 then (ws.getD e.1 (0,0)).2 else -(ws.getD e.1 (0,0)).1
def Fg  (ws:Wn)(r:List Ent):Int:=(r.map (eg ws)).sum
def vg  (ws:Wn)(r:List Ent):Int:=(r.map (fg ws)).sum
def nk  (P:Int)(ws:Wn)(r:List Ent):Prop:=vg ws r/P*P<Fg ws r
noncomputable instance {P:Int} {ws:Wn} {r:List Ent}:Decidable (nk P ws r):=inferInstanceAs (Decidable (_<_))
def getW  {ws:Wn}(h:ws[i]?=ma w):ws.getD i (0,0)=w:=by simp[Ee,h]
def gE   {l:List Int}(g:G a=ma (.lst (l.map .int))):sumU [.loc a] G Q=Q (.int l.sum) G:=by
 unfold sumU;dsimp only;rw[g];dsimp only;rw[dH]

def jY   (wl:ws.length=ss.length)(j:Te ss e)(q:Q (.tup [.int (eg ws e),.int (fg ws e)]) G):Ob T (k+1) ZI [bu,Ud ws,eu e] G Q X:=by
 have y:e.1<ws.length:=by rw[wl];exact j.1
 have f:ws[e.1]?=ma ws[e.1]:=Cc y;refine⟨rfl,?_⟩;simp! only[QI,td,Zb,eu,Ud,ix_t (ng f),wu];refine⟨trivial,trivial,?_⟩;unfold eg fg at q;rw[getW f]at q;rcases j.2 with z|z
 ·rw[z,if_pos (by decide)]
  rw[if_pos z,if_pos z]at q;exact⟨by decide,q⟩
 ·rw[z,if_neg (by decide)]
  rw[if_neg (by lia),if_neg (by lia)]at q
  exact⟨by decide,q⟩
def ZU   (wl:ws.length=ss.length)(O:∀e∈r,Te ss e)(z:r.length<=30)(q:∀J,Sa G J->Q (.tup [.int (Fg ws r),.int (vg ws r)]) J):Ob T (k+2) OH [Tb xs ss,.int P,bu,Ud ws,Ak r] G Q X:=by
 refine⟨rfl,?_⟩;simp! only[ZH,td,Zb,Ak];refine⟨by rw[Hb];exact Yb z (by decide),?_⟩
 refine Mk (λu=>match u with|.tup [.int a,.int b]=>.tup [.int (eg ws (a.toNat,b)),.int (fg ws (a.toNat,b))]|u=>u) trivial (λu hu K j=>?_) ?_
 ·obtain⟨e,I,rfl⟩:=Uc.mp hu;simp! only[];exact jY wl (O e I) j
 intro p1 G1 f;have Y:[]++(r.map eu).map (λu=>match u with|.tup [.int a,.int b]=>U.tup [.int (eg ws (a.toNat,b)),.int (fg ws (a.toNat,b))]|u=>u)=r.map λe=>U.tup [.int (eg ws e),.int (fg ws e)]:=by
  rw[Qi,dg];rfl
 rw[Y]at f;simp! only[it_l f.at];refine⟨by rw[Hb];exact Yb z (by decide),?_⟩
 refine Mk (λu=>match u with|.tup [a,_]=>a|u=>u) (by unfold Rc;rw[f.at]) (λu hu K j=>?_) ?_
 ·obtain⟨e,I,rfl⟩:=Uc.mp hu;simp! only[];exact⟨trivial,j⟩
 intro Z G2 y;have t1:[]++(r.map λe=>U.tup [.int (eg ws e),.int (fg ws e)]).map (λu=>match u with|.tup [a,_]=>a|u=>u)=(r.map (eg ws)).map .int:=by
  rw[Qi,dg,dg];rfl
 rw[t1]at y;rw[gE y.at,it_l (y.sa _ _ f.at)];refine⟨by rw[Hb];exact Yb z (by decide),?_⟩
 refine Mk (λu=>match u with|.tup [_,b]=>b|u=>u) (by unfold Rc;rw[y.sa _ _ f.at]) (λu hu K j=>?_) ?_
 ·obtain⟨e,I,rfl⟩:=Uc.mp hu;simp! only[];exact⟨trivial,j⟩
 intro p3 R F;have t2:[]++(r.map λe=>U.tup [.int (eg ws e),.int (fg ws e)]).map (λu=>match u with|.tup [_,b]=>b|u=>u)=(r.map (fg ws)).map .int:=by
  rw[Qi,dg,dg];rfl
 rw[t2]at F;rw[gE F.at];exact⟨by decide,q R ((f.sa.trans y.sa).trans F.sa)⟩
def VU   (wl:ws.length=ss.length)(y:∀e∈r,Te ss e)(j:r.length<=30)(I:1<=P)(F:P<=600)(q:∀f,Sa G f->Q (.bl (decide (nk P ws r))) f):Ob T (k+3) bJ [Tb xs ss,.int P,bu,Ud ws,Ak r] G Q X:=by
 refine⟨rfl,?_⟩;simp! only[xI,td,Zb];refine ZU wl y j λz s1=>?_;simp! only[];exact⟨trivial,by lia,by lia,.inr (by constructor<;>lia),q z s1⟩

noncomputable def eL  (L:List Int)(e:Ent):Int:=e.2*L.getD e.1 0
def sumL  (L:List Int)(r:List Ent):Int:=(r.map (eL L)).sum
def eL_1    (h:e.2=1):eL L e=L.getD e.1 0:=by unfold eL;rw[h];lia
def eL_m    (h:e.2=-1):eL L e=-L.getD e.1 0:=by unfold eL;rw[h];lia
def YV   L e:eL L (zg e)=-eL L e:=by unfold eL zg;simp[Int.neg_mul]
def aG  {L:List Int}(h:L[i]?=ma x):L.getD i 0=x:=by simp[Ee,h]
structure Wi (L:List Int)(ws:Wn):Prop where
 l:L.length=ws.length
 b:∀(i:Nat) (w:Int×Int),ws[i]?=ma w->w.1<=L.getD i 0/\L.getD i 0<=w.2
def Wi.ent     (h:Wi L ws)(wl:ws.length=ss.length)(j:Te ss e):eg ws e<=eL L e/\eL L e<=fg ws e:=by
 have f:ws[e.1]?=ma (ws[e.1]'(by rw[wl];exact j.1)):=Cc _
 have:=h.b _ _ f;unfold eg fg;rw[getW f];rcases j.2 with z|z
 ·rw[if_pos z,if_pos z,eL_1 z];exact this
 ·rw[if_neg (by lia),if_neg (by lia),eL_m z];lia
theorem Wi.sum     (h:Wi L ws)(wl:ws.length=ss.length):∀{r },(∀e∈r,Te ss e)->Fg ws r<=sumL L r/\sumL L r<=vg ws r
 |[],_=>by simp[Fg,vg,sumL]
 |e::r,hr=>by
  have z:=h.ent wl (hr e Re);have F:=Wi.sum h wl (r:=r) λx j=>hr x (Jd _ j);have q:Fg ws (e::r)=eg ws e+Fg ws r:=by simp[Fg]
  have f:vg ws (e::r)=fg ws e+vg ws r:=by simp[vg]
  have y:sumL L (e::r)=eL L e+sumL L r:=by simp[sumL]
  rw[q,f,y];lia
noncomputable def bt  (bs:List Int)(x:Int):Int:=bs.getD x.toNat 0
def GQ  {bs:List Int}{x:Int}(h0:0<=x)(q:x<bs.length):atI (bs.map U.int) x=ma (.int (bt bs x)):=by
 obtain⟨j,rfl⟩:=Vi h0;have f:j<bs.length:=by lia
 have:bs[j]?=ma (bt bs (j:Int)):=by unfold bt;simp[Ee,f]
 exact ng this
def tR    (h0:0<=x)(f:x<bs.length)(j:0<=y):bt (bs.set x.toNat v) y=if y=x then v else bt bs y:=by
 unfold bt;by_cases e:y=x
 ·subst e;rw[if_pos rfl];simp[Ee,show y.toNat<bs.length by lia]
 ·rw[if_neg e];simp only[Ee];rw[Xi (by lia)]
def Kp  (ss:List Ac)(L:List Int)(P:Int)(bs:List Int)(e:Ent):Prop:=P ∣ bt bs (eS ss e)+eL L e-bt bs (eD ss e)
def Lu  (ss:List Ac)(G:Gp)(f:U)(L:List Int):Prop:=L.length=ss.length/\((∃p,f=.loc p/\G p=ma (.lst (L.map .int)))\/f=Kc L)
def Lu.sa      (h:Lu ss G j L)(s:Sa G G'):Lu ss G' j L:=by
 obtain⟨f,⟨p,e,g⟩|q⟩:=h
 ·exact⟨f,.inl ⟨p,e,s _ _ g⟩⟩
 ·exact⟨f,.inr q⟩
def Lu.ix        (h:Lu ss G j L)(z:Te ss e)(q:Q (.int (L.getD e.1 0)) G):qf j (.int e.1) G Q:=by
 have y:e.1<L.length:=by rw[h.1];exact z.1
 have f:L[e.1]?=ma (L.getD e.1 0):=by simp[Ee,y]
 rcases h.2 with⟨p,rfl,g⟩|rfl
 ·rw[ix_l g (ng f)];exact q
 ·rw[show Kc L=.tup (L.map .int)from rfl,ix_t (ng f)];exact q

def pX       (O:Wg W ss w fs)(w8:W<=8)(va:Lu ss G lu L)(p1:1<=P)(p2:P<=600)(bl:bs.length=W)(bb:∀b∈bs,0<=b/\b<P)(gf:G pf=ma (.frk o (Ie fs)))
  (q:∀(F:List Int) G' ,Sa G G'->F.length=W->(∀b∈F,0<=b/\b<P)->(∀x,0<=x->x∉Xb fs->bt F x=bt bs x)->(∀f∈fs,Kp ss L P F f.2)->Q (Kc F) G') :
  Ob T (k+2) LJ [Tb xs ss,.int P,Kc bs,.loc pf,lu] G Q X:=by
 have rl:=Gh W _ O.nd O.bd;simp only[Xb,Zf,Hb]at rl;refine⟨rfl,?_⟩;simp! only[CJ,td,Zb,Kc];intro Z G1 n1;simp! only[MF (n1.sa _ _ gf)];have ei:Ik (Ie fs)=fs.map λf=>U.tup [.int f.1,eu f.2]:=by unfold Ik Ie;rw[dg];rfl
 rw[ei];have xb:pf≠Z:=λz=>by rw[z,n1.no]at gf;cases gf
 refine Ff (λj ς G'=>∃(F:List Int) (o6 o7 o8 o9:Option U),ς=[ma (Tb xs ss),ma (.int P),ma (.tup (bs.map .int)),ma (.loc pf),ma lu,ma (.loc Z),o6,o7,o8,o9]/\Sa G G'/\G' Z=ma (.lst (F.map .int))/\F.length=W/\(∀b∈F,0<=b/\b<P)/\(∀x,0<=x->x∉Xb (fs.take j)->bt F x=bt bs x)/\∀i f,i<j->fs[i]?=ma f->Kp ss L P F f.2) ?_ ?_
  ⟨bs,_,_,_,_,rfl,n1.sa,n1.at,bl,bb,λ_ _ _=>rfl,λi f h=>by lia⟩
 ·rintro ς G2 ⟨F,o6,o7,o8,o9,rfl,s2,g2,l2,b2,k2,h2⟩;rw[Hb]at k2 h2;rw[Bf]at k2;refine⟨s2 _ _ gf,?_⟩;simp! only[it_l g2];exact q F G2 s2 l2 b2 k2 λf hf=>by
   obtain⟨i,hi,e⟩:=Jg hf;exact h2 i f hi (by rw[Cc hi,e])
 ·rintro j u ς G2 K hu ⟨F,o6,o7,o8,o9,rfl,s2,g2,l2,b2,k2,h2⟩ hk;rw[md]at hu;cases Y:fs[j]? with
  |none=>rw[Y]at hu;cases hu
  |some f=>
   rw[Y]at hu;cases hu;obtain⟨h1,hS,hD⟩:=O.en j f Y;have bx:=O.bd f.1 (Jd _ (Cq Y));have bD:=O.bd _ (YF hD);have nd:=Jb.mp O.nd;have new:∀y,y∈(w:Int)::Xb (fs.take j)->y≠f.1:=λy R z=>by
    rcases Sc.mp R with z'|z'
    ·exact nd.1 (by rw[<- z',z];exact Cq Y)
    ·obtain⟨i,f',hi,J,e'⟩:=Nq z';have a1:(Xb fs)[i]?=ma f.1:=by unfold Xb;rw[md,J,SK,e',z]
     have a2:(Xb fs)[j]?=ma f.1:=by unfold Xb;rw[md,Y];rfl
     have:=(PK (Ba.mp a1).1 nd.2).mp (a1.trans a2.symm)
     lia
   refine⟨s2 _ _ gf,?_⟩;simp! only[eu];refine⟨trivial,trivial,by decide,?_⟩
   refine EF (e:=f.2) h1 ?_;rw[ix_t (Af _ _ _)];simp! only[ix_l g2 (GQ bD.1 (show eD ss f.2<(F.length:Int) by omega))]
   refine(va.sa s2).ix h1 ?_;refine⟨.inl (by rcases h1.2 with z|z<;>rw[z]<;>constructor<;>lia),by lia,?_⟩
   obtain⟨xn,ja⟩:=Vi bx.1;rw[ja,ER g2 (EV (by rw[Hb];lia))]
   intro G3 p3;obtain⟨v,hv⟩:∃v,v=(bt F (eD ss f.2)-f.2.2*L.getD f.2.1 0)%P:=⟨_,rfl⟩;have v0:0<=v:=by rw[hv];exact Xh _ (by lia)
   have v1:v<P:=by rw[hv];exact Ai _ (by lia)
   rw[<- hv,<- List.map_set]at p3;have I:∀y,0<=y->bt (F.set xn v) y=if y=f.1 then v else bt F y:=λy R=>by
    have:=tR (bs:=F) (v:=v) (y:=y) bx.1 (by lia) R
    rw[show f.1.toNat=xn by lia]at this
    exact this
   refine hk _ _ ⟨F.set xn v,_,_,_,_,rfl,λb u' hb=>p3.sm _ _ (λz=>by rw[z,n1.no]at hb;cases hb) (s2 _ _ hb),p3.at,by simp[l2],λb hb=>?_,λy R hn=>?_,λi f' hi J=>?_⟩
   ·rcases aD hb with z|z
    ·exact b2 b z
    ·rw[z];exact⟨v0,v1⟩
   ·rw[Rf,Y]at hn;have wa:y∉Xb (fs.take j):=λz=>hn (by simp[Xb]at z ⊢;exact .inl z)
    have za:y≠f.1:=λz=>hn (by simp[Xb,z])
    rw[I y R,if_neg za,k2 y R wa]
   ·by_cases e:i=j
    ·subst e;rw[Y]at J;cases J;unfold Kp;rw[hS,I _ bx.1,if_pos rfl,I _ bD.1,if_neg (new _ hD)];refine⟨-((bt F (eD ss f.2)-f.2.2*L.getD f.2.1 0)/P),?_⟩;have:=CC (bt F (eD ss f.2)-f.2.2*L.getD f.2.1 0) P;rw[<- hv]at this;unfold eL;rw[Int.mul_neg]
     lia
    ·have xa:i<j:=by lia
     obtain⟨o1,oS,oD⟩:=O.en i f' J;have ya:=O.bd f'.1 (Jd _ (Cq J));have ka:=O.bd _ (YF oD);have ha:∀y,y∈(w:Int)::Xb (fs.take i)->y∈(w:Int)::Xb (fs.take j):=λy R=>by
      rcases Sc.mp R with z|z
      ·rw[z];simp
      ·obtain⟨i2,f2,zb,e2,e3⟩:=Nq z;refine Jd _ (Uc.mpr ⟨f2,?_,e3⟩);exact Vc (i:=i2) (by rw[ul,if_pos (by lia)];exact e2)
     have mS:f'.1∈(w:Int)::Xb (fs.take j):=by
      refine Jd _ (Uc.mpr ⟨f',?_,rfl⟩);exact Vc (i:=i) (by rw[ul,if_pos xa];exact J)
     have:=h2 i f' xa J;unfold Kp at this ⊢;rw[oS]at this ⊢;rw[I _ ya.1,if_neg (new _ mS),I _ ka.1,if_neg (new _ (ha _ oD))];exact this

section
variable {ss:List Ac}{L:List Int}{P:Int}{bs:List Int}
theorem Kx  : ∀{r } {a b },(∀e∈r,Kp ss L P bs e)->Wk ss r a b->P ∣ bt bs a+sumL L r-bt bs b
 |[],a,b,_,h=>by
  rw[show a=b from h];exact⟨0,by simp[sumL]⟩
 |e::r,a,b,hk,⟨_,h2,h3⟩=>by
  have z:=hk e Re;have f:=Kx (λj q=>hk j (Jd _ q)) h3;have:=Int.dvd_add z f;rw[h2]at this;have F:sumL L (e::r)=eL L e+sumL L r:=by simp[sumL]
  rw[F];have y:bt bs a+eL L e-bt bs (eD ss e)+(bt bs (eD ss e)+sumL L r-bt bs b)=bt bs a+(eL L e+sumL L r)-bt bs b:=by lia
  rw[y]at this;exact this
def Kp.flip   (h:Kp ss L P bs e)(j:Te ss e):Kp ss L P bs (zg e):=by
 obtain⟨_,f,q⟩:=j.flip;unfold Kp at h ⊢;rw[f,q,YV];have:=Int.dvd_neg.mpr h;rw[show -(bt bs (eS ss e)+eL L e-bt bs (eD ss e))=bt bs (eD ss e) + -eL L e-bt bs (eS ss e) by lia]at this
 exact this
def YY   e:zg (zg e)=e:=by unfold zg;simp
def Tf.kp    (h:Tf fs e)(q:Te ss e)(hk:∀f∈fs,Kp ss L P bs f.2):Kp ss L P bs e:=by
 obtain⟨f,j,z|z⟩:=h
 ·rw[<- z];exact hk f j
 ·have:=hk f j;rw[z]at this;have:=this.flip q.flip.1;rw[YY]at this;exact this
def EZ    (hk:∀i,i<ss.length->Kp ss L P bs (i,1))(j:Wk ss r a a):P ∣ sumL L r:=by
 have all:∀e∈r,Kp ss L P bs e:=λe q=>?_
 ·have:=Kx all j;rw[show bt bs a+sumL L r-bt bs a=sumL L r by lia]at this
  exact this
 ·have ok:=j.all e q;have f:=hk e.1 ok.1;rcases ok.2 with z|z
  ·rw[show e=(e.1,1)from Tk rfl z];exact f
  ·have:=f.flip (e:=(e.1,1)) ⟨ok.1,.inl rfl⟩;rw[show zg (e.1,1)=e from Tk rfl (by simp[zg,z])]at this
   exact this
end
def fX  {p:List Int}(h:p≠[]):p.headD 0∈p:=by
 cases p with
 |nil=>exact absurd rfl h
 |cons a r=>simp
def Ad.apart     (h:Ad W es ps)(q:ps[n]?=ma p)(f:y∈ps.take n)(z:x∈p)(J:x∈y):False:=by
 have e:=h.un p (Vc q) y (Mr f) x z J;subst e;obtain⟨i,F,j⟩:=Jg f;rw[Yh]at F;rw[MC]at j;have I:ps[i]?=ma p:=by rw[Cc (by lia),j]
 have:=(PK (by lia) h.nd).mp (I.trans q.symm)
 lia

def Kw  (ss:List Ac)(P:Int)(ws:Wn)(b:List Int)(i:Nat):Prop:=∃l,(ws.getD i (0,0)).1<=l/\l<=(ws.getD i (0,0)).2/\P ∣ bt b (eS ss (i,1))+l-bt b (eD ss (i,1))
inductive Cs (ss:List Ac)(P:Int):Nat->Nat->Wn->U->Prop
 |ring {n:Nat} {ws:Wn} {r:List Ent} {a:Int}:Wk ss r a a->r≠[]->r.length<=30->nk P ws r->Cs ss P n 1 ws (.tup [.str "ring",Ak r])
 |split {n m1 m2:Nat} {ws:Wn} {s:Nat} {l h cut:Int} {c1 c2:U}:ws[s]?=ma (l,h)->l<=cut->cut<h->Cs ss P n m1 (ws.set s (l,cut)) c1->Cs ss P n m2 (ws.set s (cut+1,h)) c2->Cs ss P (n+1) (m1+m2+1) ws (.tup [.str "split",.int s,.int cut,c1,c2])
section
variable {ss:List Ac}{P:Int}{ws:Wn}{b:List Int}
def WS  (wl:ws.length=ss.length)(h:∀i,i<ss.length->Kw ss P ws b i):∃L,Wi L ws/\∀i,i<ss.length->Kp ss L P b (i,1):=by
 have F:∀i,∃l,i<ss.length->(ws.getD i (0,0)).1<=l/\l<=(ws.getD i (0,0)).2/\P ∣ bt b (eS ss (i,1))+l-bt b (eD ss (i,1)):=λi=>by
  by_cases j:i<ss.length
  ·obtain⟨l,I⟩:=h i j;exact⟨l,λ_=>I⟩
  ·exact⟨0,λz=>absurd z j⟩
 obtain⟨f,q⟩:∃f:Nat->Int,∀i,i<ss.length->(ws.getD i (0,0)).1<=f i/\f i<=(ws.getD i (0,0)).2/\P ∣ bt b (eS ss (i,1))+f i-bt b (eD ss (i,1)):=⟨λi=>Mw (F i),λi=>VC (F i)⟩;have y:∀i,i<ss.length->((Md ss.length).map f).getD i 0=f i:=λi j=>by simp[Ee,j]
 refine⟨(Md ss.length).map f,⟨by simp[wl],λi w e=>?_⟩,λi j=>?_⟩
 ·have j:i<ss.length:=by rw[<- wl];exact(Ba.mp e).1
  have:=q i j;rw[y i j];rw[getW e]at this;exact⟨this.1,this.2.1⟩
 ·unfold Kp;rw[eL_1 rfl,y i j];exact(q i j).2.2
def Wi.set     (h:Wi L ws)(f:w.1<=L.getD s 0)(j:L.getD s 0<=w.2):Wi L (ws.set s w):=by
 refine⟨by rw[jl];exact h.l,λi y e=>?_⟩
 by_cases c:i=s
 ·subst c;have q:i<ws.length:=by
   have:=(Ba.mp e).1
   rwa [jl]at this
  rw[wj q]at e;cases e;exact⟨f,j⟩
 ·rw[Xi (λz=>c z.symm)]at e;exact h.b i y e
def Cs.no     (h:Cs ss P n m ws c)(Y:1<=P):ws.length=ss.length->∀L,Wi L ws->(∀i,i<ss.length->Kp ss L P b (i,1))->False:=by
 induction h with
 |@ring n ws r a z _ _ I=>
  intro wl L f hk;have s:=f.sum wl z.all;obtain⟨q,F⟩:=EZ hk z;unfold nk at I;have:q<=vg ws r/P:=Int.le_ediv_of_mul_le (by lia) (by rw[Aw,<- F];exact s.2)
  have:=RM this (show 0<=P by lia)
  rw[Aw q P]at this
  lia
 |@split n O Z ws s l h cut c1 c2 J R h2 _ _ y j=>
  intro wl L f hk;have b:=f.b s _ J;by_cases c:L.getD s 0<=cut
  ·exact y (by rw[jl];exact wl) L (f.set b.1 c) hk
  ·exact j (by rw[jl];exact wl) L (f.set (by show cut+1<=_;lia) b.2) hk
structure Tm (P:Int)(fs:List (Int×Ent))(rs:List (List Ent))(ws ws':Wn):Prop where
 l:ws'.length=ws.length
 sub:∀(i:Nat) (w w':Int×Int),ws[i]?=ma w->ws'[i]?=ma w'->w.1<=w'.1/\w'.1<=w'.2/\w'.2<=w.2
 pt:∀f∈fs,∀w',ws'[f.2.1]?=ma w'->w'.1=w'.2
 nb:∀r∈rs,¬nk P ws' r
def Tm.kw       (h:Tm P fs rs ws j)(wl:ws.length=ss.length)(p1:1<=P)(hk:∀f∈fs,Te ss f.2/\Kp ss (j.map (·.1)) P b f.2)(I:ss[i]?=ma s)
  (Z:(∃f∈fs,f.2.1=i)\/∃r∈rs,CR ss fs i s r):Kw ss P ws b i:=by
 have il:=(Ba.mp I).1;have R:ws[i]?=ma (ws[i]'(by lia)):=Cc _
 have q:j[i]?=ma (j[i]'(by rw[h.l];lia)):=Cc _
 generalize ws[i]'(by lia)=w at R
 generalize j[i]'(by rw[h.l];lia)=w' at q
 have sb:=h.sub i w w' R q;have lw:(j.map (·.1)).getD i 0=w'.1:=aG (by rw[md,q];rfl)
 unfold Kw;rw[getW R];rcases Z with⟨f,F,rfl⟩|⟨r,Z,cr⟩
 ·obtain⟨ok,kf⟩:=hk f F;have k1:Kp ss (j.map (·.1)) P b (f.2.1,1):=by
   rcases ok.2 with z|z
   ·rw[show(f.2.1,(1:Int))=f.2 from Tk rfl z.symm];exact kf
   ·have:=kf.flip ok;rw[show zg f.2=(f.2.1,1)from Tk rfl (by simp[zg,z])]at this
    exact this
  unfold Kp at k1;rw[eL_1 rfl,lw]at k1;exact⟨w'.1,sb.1,by lia,k1⟩
 ·have nb:=h.nb r Z;obtain⟨y,rfl,ht⟩:=cr.tl;obtain⟨_,_,Y⟩:=cr.wk;have t:=Kx (λe he=>(ht e he).kp (Y.all e he) λf F=>(hk f F).2) Y;have xa:∀r:List Ent,(∀e∈r,Tf fs e)->(∀e∈r,Te ss e)->Fg j r=sumL (j.map (·.1)) r/\vg j r=sumL (j.map (·.1)) r:=λr=>by
   induction r with
   |nil=>intros;exact⟨rfl,rfl⟩
   |cons e r ih=>
    intro h1 h2;obtain⟨i1,i2⟩:=ih (λx hx=>h1 x (Jd _ hx)) λx hx=>h2 x (Jd _ hx);obtain⟨f,F,z⟩:=h1 e Re;have ok:=h2 e Re;have ef:f.2.1=e.1:=by rcases z with z|z<;>rw[z]<;>rfl
    have J:j[e.1]?=ma (j[e.1]'(by rw[h.l,wl];exact ok.1)):=Cc _
    generalize j[e.1]'(by rw[h.l,wl];exact ok.1)=v at J
    have pv:=h.pt f F v (by rw[ef];exact J)
    have lv:(j.map (·.1)).getD e.1 0=v.1:=aG (by rw[md,J];rfl)
    have one:eg j e=eL (j.map (·.1)) e/\fg j e=eL (j.map (·.1)) e:=by
     unfold eg fg;rw[getW J];rcases ok.2 with z|z
     ·rw[if_pos z,if_pos z,eL_1 z,lv];lia
     ·rw[if_neg (by lia),if_neg (by lia),eL_m z,lv];lia
    have a1:Fg j (e::r)=eg j e+Fg j r:=by simp[Fg]
    have O:vg j (e::r)=fg j e+vg j r:=by simp[vg]
    have a3:sumL (j.map (·.1)) (e::r)=eL (j.map (·.1)) e+sumL (j.map (·.1)) r:=by simp[sumL]
    rw[a1,O,a3,one.1,one.2,i1,i2];exact⟨rfl,rfl⟩
  obtain⟨q1,q2⟩:=xa y ht Y.all;generalize sumL (j.map (·.1)) y=S at t q1 q2;have b1:Fg j ((i,1)::y)=w'.1+S:=by
   have a1:Fg j ((i,1)::y)=eg j (i,1)+Fg j y:=by simp[Fg]
   rw[a1,q1];unfold eg;rw[if_pos rfl,getW q]
  have b2:vg j ((i,1)::y)=w'.2+S:=by
   have O:vg j ((i,1)::y)=fg j (i,1)+vg j y:=by simp[vg]
   rw[O,q2];unfold fg;rw[if_pos rfl,getW q]
  unfold nk at nb;rw[b1,b2]at nb;have m1:=Int.ediv_mul_le (w'.2+S) (show P≠0 by lia)
  rw[eD_1 I]at t;refine⟨(w'.2+S)/P*P-S,by lia,by lia,?_⟩
  rw[eS_1 I,eD_1 I];have d1:P ∣ (w'.2+S)/P*P:=⟨(w'.2+S)/P,Aw _ _⟩;have:=Int.dvd_sub d1 t;rw[show(w'.2+S)/P*P-(bt b s.t+S-bt b s.o)=bt b s.o+((w'.2+S)/P*P-S)-bt b s.t by lia]at this
  exact this
end


def aV   (y:q=ws)(q0:(∀w∈ws,w.1<=w.2)->Q .non G)(q1:∀(i:Nat) (w:Int×Int),ws[i]?=ma w->w.2<w.1->Q (.int i) G):Ob T (k+1) NJ [Ud q] G Q X:=by
 subst y;refine⟨rfl,?_⟩;simp! only[RI,td,Zb,Ud];refine Ff (λi F J=>∃o1 o2 o3:Option U,F=[ma (Ud q),o1,o2,o3]/\J=G/\∀j w,j<i->q[j]?=ma w->w.1<=w.2) ?_ ?_ ⟨_,_,_,rfl,rfl,λj w h=>by lia⟩
 ·rintro F J ⟨o1,o2,o3,rfl,rfl,h⟩;rw[Mq,Hb]at h;refine⟨trivial,?_⟩;simp! only[];exact q0 λw y=>by
   obtain⟨j,I,e⟩:=Jg y;exact h j w I (by rw[Cc I,e])
 ·rintro i x F J K R ⟨o1,o2,o3,rfl,rfl,h⟩ hk;obtain⟨u,hu,rfl⟩:=Kq R;rw[md]at hu;cases f:q[i]? with
  |none=>rw[f]at hu;cases hu
  |some w=>
   rw[f]at hu;have hu:=(Hd hu).symm;subst hu;refine⟨trivial,?_⟩;simp! only[wu];refine⟨trivial,trivial,?_⟩;by_cases c:w.2<w.1
   ·rw[if_pos (by simpa using c)]
    rw[show((0+i:Nat):Int)=(i:Int) by lia]
    exact q1 i w f c
   ·rw[if_neg (by simpa using c)]
    refine hk _ _ ⟨_,_,_,rfl,rfl,λj O I z=>?_⟩;by_cases e:j=i
    ·subst e;rw[f]at z;cases z
     lia
    ·exact h j O (by lia) z
def bV     (J:G pf=ma (.frk o (Ie fs)))(wl:ws.length=ss.length)(hf:∀f∈fs,Te ss f.2)(q0:(∀f∈fs,∀w,ws[f.2.1]?=ma w->¬w.1<w.2)->Q .non G)
  (q1:∀f∈fs,∀w,ws[f.2.1]?=ma w->w.1<w.2->Q (.int f.2.1) G):Ob T (k+1) OJ [.loc pf,Ud ws] G Q X:=by
 refine⟨rfl,?_⟩;simp! only[SI,td,Zb,MF J];have ev:Fi (Ie fs)=fs.map λf=>eu f.2:=by unfold Fi Ie;rw[dg];rfl
 rw[ev];refine Ff (λi O R=>∃o2 o3 o4 o5:Option U,O=[ma (.loc pf),ma (Ud ws),o2,o3,o4,o5]/\R=G/\∀f∈fs.take i,∀w,ws[f.2.1]?=ma w->¬w.1<w.2) ?_ ?_ ⟨_,_,_,_,rfl,rfl,λf h=>by simp at h⟩
 ·rintro O R ⟨o2,o3,o4,o5,rfl,rfl,h⟩;rw[Hb,Bf]at h;refine⟨J,?_⟩;simp! only[];exact q0 h
 ·rintro i x O R K q ⟨o2,o3,o4,o5,rfl,rfl,h⟩ hk;rw[md]at q;cases F:fs[i]? with
  |none=>rw[F]at q;cases q
  |some f=>
   rw[F]at q;cases q;have Y:=Vc F;have il:f.2.1<ws.length:=by rw[wl];exact(hf f Y).1
   have I:ws[f.2.1]?=ma ws[f.2.1]:=Cc il;generalize ws[f.2.1]=w at I;refine⟨J,?_⟩;simp! only[eu,Ud,ix_t (ng I),wu];refine⟨trivial,trivial,?_⟩;by_cases c:w.1<w.2
   ·rw[if_pos (by simpa using c)]
    exact q1 f Y w I c
   ·rw[if_neg (by simpa using c)]
    refine hk _ _ ⟨_,_,_,_,rfl,rfl,λf' y Z j=>?_⟩;rw[Rf,F]at y;rcases ee.mp y with z|z
    ·exact h f' z Z j
    ·rw[Nc.mp z,I]at j;cases j;exact c
def GF  {s:Nat}(hs:s<ws.length)(wl:ws.length<=24)(q:Q (Ud (ws.set s w)) G):Ob T (k+1) YA [Ud ws,.int s,wu w] G Q X:=by
 refine⟨rfl,?_⟩;simp! only[GJ,td,Zb,Ud];have y:cut (ws.map wu) Aa (ma (s:Int))=(ws.take s).map wu:=by rw[Do,gC]
 have f:cut (ws.map wu) (ma ((s:Int)+1)) Aa=(ws.drop (s+1)).map wu:=by
  have:=UG (ws.map wu) (s+1);rw[List.map_drop];exact this
 rw[y,f];refine⟨by decide,Yb (show _<=30 by simp;lia) (by decide),Yb (show _<=60 by simp;lia) (by decide),?_⟩
 have j:(ws.take s).map wu++[wu w]++(ws.drop (s+1)).map wu=(ws.set s w).map wu:=by
  rw[HM,if_pos hs];simp
 rw[j];exact q
def wY  {s:Nat}(hs:ws[s]?=ma w)(wl:ws.length<=24)(q:Q (.tup [.int ((w.1+w.2)/2),.tup [Ud (ws.set s (w.1,(w.1+w.2)/2)),Ud (ws.set s ((w.1+w.2)/2+1,w.2))]]) G):Ob T (k+2) jH [Ud ws,.int s] G Q X:=by
 have f:=(Ba.mp hs).1;refine⟨rfl,?_⟩;simp! only[WG,td,Zb,Ud,ix_t (ng hs)];show Qc _ (.tup [.int w.1,.int w.2]) _ _;simp! only[];refine⟨trivial,by decide,by decide,by decide,?_⟩
 refine GF (ws:=ws) (w:=(w.1,(w.1+w.2)/2)) f wl ?_
 simp! only[];refine⟨by decide,?_⟩
 refine GF (ws:=ws) (w:=((w.1+w.2)/2+1,w.2)) f wl ?_
 exact⟨by decide,by decide,q⟩

def Tm.of        (hs:ws[s]?=ma w)(e:f=ws.set s v)(I:w.1<=v.1)(J:v.2<=w.2)(h:Tm P fs rs f q):Tm P fs rs ws q:=by
 subst e;have F:=(Ba.mp hs).1;refine⟨by rw[h.l,jl],λi a b j y=>?_,h.pt,h.nb⟩
 by_cases c:i=s
 ·subst c;rw[hs]at j;cases j;have:=h.sub i v b (wj F) y
  lia
 ·exact h.sub i a b (by rw[Xi (λz=>c z.symm)];exact j) y
def cW   n:(2:Int) ^ (n+1)=2*2 ^ n:=by rw[Int.pow_succ,Aw]
def vT  {l h:Int}(j:l<h)(f:h-l<2 ^ n):∃m,n=m+1/\(l+h)/2-l<2 ^ m/\h-((l+h)/2+1)<2 ^ m:=by
 cases n with
 |zero=>exact absurd f (by have:(2:Int) ^ 0=1:=rfl;lia)
 |succ m=>
  refine⟨m,rfl,?_⟩;rw[cW]at f;generalize (2:Int) ^ m=x at f
  lia
noncomputable def Ek  (e:Nat->Nat)(s m i:Nat):Nat:=if i=s then m else e i
theorem FG    (F:e s=m+1):∀{fs:List (Int×Ent)},(fs.map λf=>Ek e s m f.2.1).sum<=(fs.map λf=>e f.2.1).sum/\((∃f∈fs,f.2.1=s)->(fs.map λf=>Ek e s m f.2.1).sum<(fs.map λf=>e f.2.1).sum)
 |[]=>⟨Mb _,λ⟨_,h,_⟩=>(nomatch h)⟩
 |f::fs=>by
  obtain⟨O,J⟩:=FG F (fs:=fs);simp only[Se,List.sum_cons];by_cases c:f.2.1=s
  ·have y:Ek e s m f.2.1=m:=if_pos c;rw[y,c,F];exact⟨by lia,λ_=>by lia⟩
  ·have y:Ek e s m f.2.1=e f.2.1:=if_neg c;rw[y];refine⟨by lia,λ⟨I,q,j⟩=>?_⟩
   rcases Sc.mp q with z|z
   ·rw[z]at j;exact absurd j c
   ·have:=J ⟨I,z,j⟩;lia
def Sk  (xs:List Str)(ss:List Ac)(P:Int)(fs:List (Int×Ent))(rs:List (List Ent))(pf pr:Ea)(o:Obj)(bu:U)(n:Nat):Prop:=
 ∀(k:Nat) (G:Gp) (Q:K1) (X:KX) (ws:Wn) (e:Nat->Nat),ws.length=ss.length->(∀w∈ws,w.1<=w.2)->(∀f∈fs,∀v,ws[f.2.1]?=ma v->v.2-v.1<2 ^ (e f.2.1))->(fs.map λf=>e f.2.1).sum<=n->G pf=ma (.frk o (Ie fs))->G pr=ma (.lst (rs.map Ak))->
  (∀(c:U) (m:Nat) (G':Gp),Sa G G'->Cs ss P n m ws c->Q (.tup [.str "none",c]) G')->(∀(j:Wn) (G':Gp),Sa G G'->Tm P fs rs ws j->Q (.tup [.str "times",Ud j]) G')->Ob T (k+n+4) Su [Tb xs ss,.int P,bu,.loc pf,.loc pr,Ud ws] G Q X

def zH   (hF:Wg W ss w fs)(w8:W<=8)(sl:ss.length<=24)(p1:1<=P)(p2:P<=600)(yb:∀r∈rs,∃i s,CR ss fs i s r)(ih:∀m,n=m+1->Sk xs ss P fs rs pf pr o bu m):Sk xs ss P fs rs pf pr o bu n:=by
 intro k G Q X ws e wl nv hm hs gf gr q1 q2;have hf:∀f∈fs,Te ss f.2:=λf hf=>by
  obtain⟨j,hj,ej⟩:=Jg hf;exact(hF.en j f (by rw[Cc hj,ej])).1
 have jb:=Gh _ _ hF.nd hF.bd;simp only[Xb,Zf,Hb]at jb;refine⟨rfl,?_⟩;simp! only[rE,td,Zb,it_l gr];refine Ff (λi ς R=>∃o6:Option U,ς=[ma (Tb xs ss),ma (.int P),ma bu,ma (.loc pf),ma (.loc pr),ma (Ud ws),o6,Aa,Aa,Aa,Aa,Aa,Aa,Aa]/\Sa G R/\∀r∈rs.take i,¬nk P ws r) ?_ ?_ ⟨_,rfl,Sa.refl,λr hr=>by simp at hr⟩
 ·rintro ς J ⟨o6,rfl,s1,nb⟩;rw[Hb,Bf]at nb;have wb:=s1 _ _ gf;refine⟨by unfold Rc;rw[s1 _ _ gr],?_⟩
  simp! only[JG];refine bV (ss:=ss) wb wl hf (λhn=>?_) λf fm v O c=>?_
  ·have xa:∀kk:Bool->Prop,kk ua->gj .non .non kk:=λ_ h=>h;simp! only[sA];refine xa _ ?_;rw[if_pos rfl];refine⟨by decide,q2 ws J s1 ⟨rfl,λi a b ea eb=>?_,λf za v O=>?_,nb⟩⟩
   ·rw[ea]at eb;cases eb;have:=nv a (Vc ea)
    lia
   ·have:=hn f za v O;have:=nv v (Vc O)
    lia
  ·have xa:∀kk:Bool->Prop,kk Ca->gj (.int (f.2.1:Int)) .non kk:=λ_ h=>h;simp! only[sA];refine xa _ ?_;rw[if_neg (by decide)]
   obtain⟨m',kb,c1,c2⟩:=vT c (hm f fm v O);have xc:=(FG (s:=f.2.1) kb (fs:=fs)).2 ⟨f,fm,rfl⟩;obtain⟨m,rfl⟩:∃m,n=m+1:=⟨n-1,by lia⟩
   have il:=(Ba.mp O).1;generalize ya:(v.1+v.2)/2=ct at c1 c2;have l1:v.1<=ct:=by lia
   have l2:ct<v.2:=by lia
   simp! only[KG];refine wY (ws:=ws) O (by lia) ?_
   rw[ya];simp! only[];refine⟨trivial,?_⟩;simp! only[LG];refine⟨by decide,λpc G2 n2=>?_⟩
   simp! only[MG];have va:∀(x:Int×Int),v.1<=x.1->x.1<=x.2->x.2<=v.2->x.2-x.1<2 ^ m'->(ws.set f.2.1 x).length=ss.length/\(∀y∈ws.set f.2.1 x,y.1<=y.2)/\∀Z∈fs,∀y,(ws.set f.2.1 x)[Z.2.1]?=ma y->y.2-y.1<2 ^ (Ek e f.2.1 m' Z.2.1):=λx x1 x2 x3 x4=>by
    refine⟨by rw[jl];exact wl,λy hy=>?_,λZ za y ey=>?_⟩
    ·rcases aD hy with z|z
     ·exact nv y z
     ·rw[z];exact x2
    ·by_cases z:Z.2.1=f.2.1
     ·rw[z,wj il]at ey;cases ey;rw[show Ek e f.2.1 m' Z.2.1=m' from if_pos z];exact x4
     ·rw[Xi (λy=>z y.symm)]at ey;rw[show Ek e f.2.1 m' Z.2.1=e Z.2.1 from if_neg z];exact hm Z za y ey
   refine Ff (λj ς R=>∃(F:List U) (o11 o12 o13:Option U),ς=[ma (Tb xs ss),ma (.int P),ma bu,ma (.loc pf),ma (.loc pr),ma (Ud ws),o6,ma (.int f.2.1),ma (.int ct),ma (.tup [Ud (ws.set f.2.1 (v.1,ct)),Ud (ws.set f.2.1 (ct+1,v.2))]),ma (.loc pc),o11,o12,o13]/\Sa G R/\R pc=ma (.lst F)/\F.length=j/\(∀c,F[0]?=ma c->∃n,Cs ss P m n (ws.set f.2.1 (v.1,ct)) c)/\∀c,F[1]?=ma c->∃n,Cs ss P m n (ws.set f.2.1 (ct+1,v.2)) c) ?_ ?_ ⟨[],_,_,_,rfl,s1.trans n2.sa,n2.at,rfl,λc h=>by simp at h,λc h=>by simp at h⟩
   ·rintro ς G3 ⟨F,o11,o12,o13,rfl,s3,g3,cl,h1,h2⟩;have cl:F.length=2:=cl;refine⟨trivial,?_⟩;obtain⟨ca,cb,rfl⟩:∃a b,F=[a,b]:=by
     match F,cl with
     |[a,b],_=>exact⟨a,b,rfl⟩
    obtain⟨n1,k1⟩:=h1 ca rfl;obtain⟨qc,k2⟩:=h2 cb rfl;simp! only[NG,ix_l g3 (Th _ _),ix_l g3 (Af _ _ _)];exact⟨by decide,by decide,q1 _ _ G3 s3 (.split O l1 l2 k1 k2)⟩
   ·rintro j x ς G3 K q ⟨F,o11,o12,o13,rfl,s3,g3,cl,h1,h2⟩ hk;have zb:=s3 _ _ gf;have wa:=s3 _ _ gr;have ka:G pc=Aa:=Nj s1 n2.no;have ha:∀{Ga Gb:Gp} {u:MO},Sa G Ga->Lh Ga pc u Gb->Sa G Gb:=λ{Ga Gb u} s w b z e=>w.sm _ _ (λy=>by rw[y,ka]at e;cases e) (s b z e)
    refine⟨trivial,?_⟩;simp! only[];have go:∀(y:Int×Int),v.1<=y.1->y.1<=y.2->y.2<=v.2->y.2-y.1<2 ^ m'->(∀(c:U) (n:Nat),Cs ss P m n (ws.set f.2.1 y) c->∀R,Sa G R->R pc=ma (.lst (F++[c]))->∀o12 o13,K [ma (Tb xs ss),ma (.int P),ma bu,ma (.loc pf),ma (.loc pr),ma (Ud ws),o6,ma (.int f.2.1),ma (.int ct),ma (.tup [Ud (ws.set f.2.1 (v.1,ct)),Ud (ws.set f.2.1 (ct+1,v.2))]),ma (.loc pc),ma (Ud (ws.set f.2.1 y)),o12,o13] R)->
      Ob T (k+m+4) Su [Tb xs ss,.int P,bu,.loc pf,.loc pr,Ud (ws.set f.2.1 y)] G3 (λu J=>Qc (.t (.cons (.n 12) (.cons (.n 13) .nil))) u [ma (Tb xs ss),ma (.int P),ma bu,ma (.loc pf),ma (.loc pr),ma (Ud ws),o6,ma (.int f.2.1),ma (.int ct),ma (.tup [Ud (ws.set f.2.1 (v.1,ct)),Ud (ws.set f.2.1 (ct+1,v.2))]),ma (.loc pc),ma (Ud (ws.set f.2.1 y)),o12,o13] λI=>slot I 12 λu=>cmpU .Eq u (.str "times") J λb=>if b=ua then slot I 13 λu=>0+1+1<=Fb/\Q (.tup [.str "times",u]) J else slot I 10 λu=>match xg .append u J with
       |some _=>slot I 13 λvb=>Of .append u [vb] J λ_ J=>K I J
       |none=>False) λx J=>X x J:=λy y1 y2 y3 y4 add=>by
     obtain⟨a1,a2,a3⟩:=va y y1 y2 y3 y4;refine ih m rfl k G3 _ _ _ (Ek e f.2.1 m') a1 a2 a3 (by lia) zb wa (λc n' G4 Y hc=>?_) λxb G4 Y ht=>?_
     ·have g4:=Y _ _ g3;simp! only[];refine⟨trivial,?_⟩;rw[if_neg (by decide +kernel)]
      simp! only[dh g4,Sh g4];refine⟨Ug (show F.length<=2 by have:=(Ba.mp q).1;simp at this;lia) (by decide),λG5 p5=>?_⟩
      exact add c n' hc G5 (ha (s3.trans Y) p5) p5.at _ _
     ·simp! only[];refine⟨trivial,?_⟩;rw[if_pos (by decide +kernel)]
      simp! only[];exact⟨by decide,q2 xb G4 (s3.trans Y) (Tm.of O rfl y1 y3 ht)⟩
    rw[show k+(m+1)+3=k+m+4 by lia]
    match j,q,cl with
    |0,q,cl=>
     have q:Ud (ws.set f.2.1 (v.1,ct))=x:=Hd q;subst q;have e0:F=[]:=Pb.mp cl;subst e0;refine go (v.1,ct) (aw _) l1 (by show ct<=v.2;lia) c1 λc n' hc G4 Y g4 a b=>hk _ _ ⟨[c],_,_,_,rfl,Y,g4,rfl,λc' h=>?_,λc' h=>by simp at h⟩
     cases h;exact⟨n',hc⟩
    |1,q,cl=>
     have q:Ud (ws.set f.2.1 (ct+1,v.2))=x:=Hd q;subst q;obtain⟨c0,rfl⟩:∃c,F=[c]:=by
      match F,cl with
      |[c],_=>exact⟨c,rfl⟩
     refine go (ct+1,v.2) (by show v.1<=ct+1;lia) (by show ct+1<=v.2;lia) (aw _) c2 λc n' hc G4 Y g4 a b=>hk _ _ ⟨[c0,c],_,_,_,rfl,Y,g4,rfl,λc' h=>?_,λc' h=>?_⟩
     ·cases h;exact h1 _ rfl
     ·cases h;exact⟨n',hc⟩
    |j+2,q,cl=>simp at q
 ·rintro i x ς J K q ⟨o6,rfl,s1,nb⟩ hk;rw[md]at q;cases er:rs[i]? with
  |none=>rw[er]at q;cases q
  |some r=>
   rw[er]at q;cases q;obtain⟨j,s,hr⟩:=yb r (Vc er);have hb:=hr.l;obtain⟨t,ht,_⟩:=hr.tl;refine⟨by unfold Rc;rw[s1 _ _ gr],?_⟩
   simp! only[];refine VU (xs:=xs) (k:=k+n) wl hr.wk.all (by lia) p1 p2 λG2 s2=>?_
   simp! only[];by_cases c:nk P ws r
   ·rw[if_pos (by simpa using c)]
    exact⟨by decide,by decide,q1 _ 1 G2 (s1.trans s2) (.ring hr.wk (by rw[ht];simp) (by lia) c)⟩
   ·rw[if_neg (by simpa using c)]
    refine hk _ _ ⟨_,rfl,s1.trans s2,λr' ja=>?_⟩;rw[Rf,er]at ja;rcases ee.mp ja with z|z
    ·exact nb r' z
    ·rw[Nc.mp z];exact c
def YU   n (y:Wg W ss w fs)(q:W<=8)(F:ss.length<=24)(z:1<=P)(j:P<=600)(f:∀r∈rs,∃i s,CR ss fs i s r):Sk xs ss P fs rs pf pr o bu n:=by
 induction n with
 |zero=>exact zH y q F z j f λm h=>(nomatch h)
 |succ n I=>exact zH y q F z j f λm h=>by cases h;exact I

def gs24  : T.gs=[.int 300]:=rfl

def NI   (I:p.length<=8)(q:∀a y ,Sa G y->y a=ma (.lst [])->Q (.loc a) y):Ob T (k+1) AA [Kc p,.tup []] G Q X:=by
 refine⟨rfl,?_⟩;simp! only[YH,td,Zb,Kc];refine⟨by rw[Hb];exact Yb I (by decide),?_⟩
 refine jg (λi f y=>y=G/\f=[]) ?_ ?_ ⟨rfl,rfl⟩
 ·rintro f O ⟨rfl,rfl⟩;exact⟨trivial,λa J F=>q a J F.sa F.at⟩
 ·rintro i x f O K j ⟨rfl,rfl⟩ hk hn;rw[md]at j;cases e:p[i]? with
  |none=>rw[e]at j;cases j
  |some z=>
   rw[e]at j;have j:=(Hd j).symm;subst j;refine⟨trivial,?_⟩;simp! only[];exact⟨rfl,rfl,hn _ ⟨rfl,rfl⟩⟩
def xG     (h:Ad W es ps)(j:W<=8)(f:p∈ps):p.length<=8:=
 Yb (Gh W p ((h.as p f).imp λ{a b} g e=>by lia) (h.bd p f)) j
def zA     (h:Ad W es ps)(j:0<W):1<=ps.length:=by
 obtain⟨p,f,_⟩:=h.al 0 (by lia) (by lia)
 exact List.length_pos_of_mem f
def lZ  (w0:0<xs.length)(R:xs.length<=8)(so:∀s∈ss,s.Ok xs.length)(sl:ss.length<=24)(h1:1<=P)(h2:P<=600)(pw:∀ps ,Ad xs.length (Nd ss) ps->P.toNat ^ (xs.length-ps.length)<=300)
  (q:∀z y ,z<=300->Sa G y->Q (.int z) y):Ob T (k+4) NH [Tb xs ss,.int P,.tup []] G Q X:=by
 refine⟨rfl,?_⟩;simp! only[XH,td,Zb];refine QA so sl R λps G1 F hs pl s1=>?_;have pn:=zA F w0;simp! only[Fu];refine⟨by rw[Hb];exact Yb pl (by decide),?_⟩
 refine jg (λi j y=>Sa G1 y/\j=(ps.take i).map Kc) ?_ ?_ ⟨Sa.refl,rfl⟩
 ·rintro j G2 ⟨s2,rfl⟩;rw[Hb,Bf];refine⟨trivial,λp3 J O=>?_⟩;simp! only[hJ];simp! only[iJ,Tb,ix_t (Th _ _),Hb,tq O.at];refine⟨by lia,by lia,?_⟩
  refine Ff (λi I y=>y=J/\∃o5,I=[ma (Tb xs ss),ma (.int P),ma (.tup []),ma (.loc p3),ma (.int ((P.toNat ^ i:Nat):Int)),o5]) ?_ ?_ ⟨rfl,_,rfl⟩
  ·rintro I Y ⟨rfl,o5,rfl⟩;rw[yf];refine⟨trivial,?_⟩;simp! only[];refine q _ _ ?_ ((s1.trans s2).trans O.sa);have:P.toNat ^ ((xs.length:Int)-((0:Nat):Int)-(ps.length:Int)).toNat<=300:=Yb (Jp (by lia) (by lia)) (pw ps F)
   lia
  ·rintro i x I Y K f ⟨rfl,o5,rfl⟩ hk;obtain⟨hi,rfl⟩:=Fh f;refine⟨trivial,?_⟩;simp! only[];have b1:P.toNat ^ i<=300:=Yb (Jp (by lia) (by lia)) (pw ps F)
   generalize ez:P.toNat ^ i=z at b1;refine⟨.inr (by constructor<;>lia),hk _ _ ⟨rfl,ma (.int (i:Int)),?_⟩⟩
   have e:((P.toNat ^ (i+1):Nat):Int)=(z:Int)*P:=by rw[Nat.pow_succ,ez,Int.natCast_mul];congr 1;lia
   rw[e]
 ·rintro i x j G2 K f ⟨s2,rfl⟩ hk hn;rw[md]at f;cases e:ps[i]? with
  |none=>rw[e]at f;cases f
  |some z=>
   rw[e]at f;have f:=(Hd f).symm;subst f;refine⟨trivial,?_⟩;simp! only[];refine NI (xG F R (Vc e)) λa J s3 Z=>?_;rw[Du Z];rw[if_pos (by decide)]
   exact hk _ _ ⟨s2.trans s3,by rw[Rf,e,ie];rfl⟩
def PH  (J:0<xs.length)(j:xs.length<=8)(F:∀s∈ss,s.Ok xs.length)(I:ss.length<=24)(y:1<=P)(O:P<=600)(pw:∀ps ,Ad xs.length (Nd ss) ps->P.toNat ^ (xs.length-ps.length)<=300)
  (q:∀f ,Sa G f->Q .non f):Ob T (k+5) cB [Tb xs ss,.int P,.tup []] G Q X:=by
 refine⟨rfl,?_⟩;simp! only[yJ,td,Zb];refine lZ J j F I y O pw λz R Y s1=>?_;simp! only[gs24,Vq];rw[if_neg (by simp;lia)]
 exact q _ s1

noncomputable def topZ  (P:Int)(s:Ac):Int:=if s.w = "span" then s.hi else P-s.hi
noncomputable def gapZ  (P:Int)(bs:List Int)(s:Ac):Int:=(bs.getD s.t 0-bs.getD s.o 0-s.lo)%P
def Rh  (P:Int)(bs:List Int)(s:Ac):Bool:=decide (s.lo+gapZ P bs s<=topZ P s)
def jf  (P:Int)(ss:List Ac)(bs:List Int):Bool:=ss.all (Rh P bs)
def yT   (k:Int)(h:a=b+P*k):a%P=b%P:=by rw[h,zM]
noncomputable def nB  (fs:List Int)(P:Nat)(w:Nat):Nat:=if (w:Int)∈fs then 1 else P
def rowX  (fs:List Int)(P:Nat)(w:Nat)(r:List Int):List (List Int):=(Md (nB fs P w)).map λ(j:Nat)=>r++[(j:Int)]
noncomputable def Oe  (fs:List Int)(P:Nat):Nat->List (List Int)
 |0=>[[]]
 |w+1=>(Oe fs P w).flatMap (rowX fs P w)
def aY     : (rowX fs P w r).length=nB fs P w:=by simp[rowX]
def xu    (f:1<=P) w:nB fs P w<=P:=by unfold nB;split<;>lia
theorem Mu    : ∀l:List (List Int),(l.flatMap (rowX fs P w)).length=l.length*nB fs P w
 |[]=>by simp
 |r::l=>by rw[List.flatMap_cons,bg,aY,Mu l,Zf,Nat.add_mul];lia
theorem DG    (h0:(0:Int)∈fs)(f:1<=P):∀w,(Oe fs P (w+1)).length<=P ^ w
 |0=>by show((Oe fs P 0).flatMap (rowX fs P 0)).length<=_;rw[Mu];simp[Oe,nB,h0]
 |w+1=>by
  show((Oe fs P (w+1)).flatMap (rowX fs P (w+1))).length<=_;rw[Mu,Nat.pow_succ];exact jC (DG h0 f w) (xu f _)
def qv    (h0:(0:Int)∈fs)(f:1<=P)(h:P ^ (W-1)<=300)(j:w<=W):(Oe fs P w).length<=300:=by
 cases w with
 |zero=>simp[Oe]
 |succ w=>exact Yb (DG h0 f w) (Yb (Jp (by lia) (by lia)) h)
theorem Mj    : ∀{w } {b },b∈Oe fs P w↔b.length=w/\∀i,i<w->0<=b.getD i 0/\b.getD i 0<(nB fs P i:Int)
 |0,b=>by
  simp only[Oe,Nc];exact⟨λh=>⟨by simp[h],λi h=>absurd h (oC i)⟩,λh=>Pb.mp h.1⟩
 |w+1,b=>by
  show b∈(Oe fs P w).flatMap _↔_;rw[List.mem_flatMap];constructor
  ·rintro⟨r,F,I⟩;obtain⟨j,z,rfl⟩:=Uc.mp I;obtain⟨q,f⟩:=Mj.mp F;have z:=Db.mp z;refine⟨by simp[q],λi h=>?_⟩
   by_cases e:i=w
   ·subst e;rw[show(r++[(j:Int)]).getD i 0=j by simp[Ee,q]]
    lia
   ·rw[show(r++[(j:Int)]).getD i 0=r.getD i 0 by simp[Ee,Fn (show i<r.length by lia)]]
    exact f i (by lia)
  ·rintro⟨q,f⟩;refine⟨b.take w,Mj.mpr ⟨by simp;lia,λi h=>?_⟩,Uc.mpr ⟨(b.getD w 0).toNat,Db.mpr ?_,?_⟩⟩
   ·rw[show(b.take w).getD i 0=b.getD i 0 by simp[Ee,ul,h]]
    exact f i (by lia)
   ·have:=f w (by lia);lia
   ·have J:=f w (by lia)
    have e:((b.getD w 0).toNat:Int)=b.getD w 0:=by lia
    rw[e];have y:w<b.length:=by lia
    rw[show b.getD w 0=b[w] by simp[Ee,y]]
    have:=List.take_append_getElem y;rw[this,Zj (by lia)]
def ou     (h:Ad W es ks)(q:0<W):(0:Int)∈ks.map (·.headD 0):=by
 obtain⟨p,f,h0⟩:=h.al 0 (by lia) (by lia)
 refine Uc.mpr ⟨p,f,?_⟩;have j:=h.as p f;have bd:=h.bd p f;cases p with
 |nil=>cases h0
 |cons a l=>
  have ba:=bd a Re;rcases Sc.mp h0 with z|z
  ·exact z.symm
  ·have:=(db.mp j).1 0 z;lia
def Begun  (P:Int)(f:List (List Int))(b g:List Int):Prop:=∀p∈f,∀x∈p,g.getD x.toNat 0=(b.getD x.toNat 0-b.getD (p.headD 0).toNat 0)%P
def AZ       (F:Ad W (Nd ss) ks)(h:Begun P ks b g):jf P ss g=jf P ss b:=by
 unfold jf;rw[Pi,Mi,Mi];refine forall_congr' λs=>forall_congr' λz=>?_;obtain⟨p,j,y,I⟩:=F.ed s.o s.t (by unfold Nd;exact Uc.mpr ⟨s,z,rfl⟩)
 have q:=h p j _ y;have f:=h p j _ I;rw[Si]at q f;have e:gapZ P g s=gapZ P b s:=by
  unfold gapZ;rw[q,f];refine yT ((b.getD s.o 0-b.getD (p.headD 0).toNat 0)/P-(b.getD s.t 0-b.getD (p.headD 0).toNat 0)/P) ?_;rw[Int.emod_def,Int.emod_def,Int.mul_sub]
  lia
 unfold Rh;rw[e]
def zX       (R:1<=P)(q:Ad W es ks)(gl:g.length=W)(h:Begun P ks b g):g∈Oe (ks.map (·.headD 0)) P.toNat W:=by
 refine Mj.mpr ⟨gl,λi Y=>?_⟩;obtain⟨p,F,I⟩:=q.al i (by lia) (by lia)
 have e:=h p F _ I;rw[Si]at e;have Z:=Xh (b.getD i 0-b.getD (p.headD 0).toNat 0) (show P≠0 by lia)
 have O:=Ai (b.getD i 0-b.getD (p.headD 0).toNat 0) (show 0<P by lia)
 unfold nB;split
 ·rename_i J;obtain⟨y,f,z⟩:=Uc.mp J;have j:(i:Int)∈y:=by rw[<- z];exact fX (q.ne y f)
  have:=q.un p F y f _ I j;subst this;rw[e,z,Si,Int.sub_self];simp
 ·rw[e];lia
def sX       (j:1<=P)(f:Ad W (Nd ss) ks)(gl:g.length=W)(h:Begun P ks b g):g∈(Oe (ks.map (·.headD 0)) P.toNat W).filter (jf P ss)↔jf P ss b=ua:=by
 rw[Qf,AZ f h];exact⟨λh=>h.2,λhk=>⟨zX j f gl h,hk⟩⟩

def Ho  {bs:List Int}(h:n<bs.length):atI (bs.map U.int) (n:Int)=ma (.int (bs.getD n 0)):=by
 have:bs[n]?=ma (bs.getD n 0):=by simp[Ee,h]
 exact ng this

def iA  {ss: List Ac}(h:ss[i]?=ma s):(ss.take (i+1)).all f=((ss.take i).all f&&f s):=by
 rw[Rf,h,List.all_append];simp
def DF  (q:Q (.int (if s.lo+P-1<topZ P s then s.lo+P-1 else topZ P s)) G):Ob T (k+1) JA [.int P,s.u] G Q X:=by
 refine⟨rfl,?_⟩;simp! only[VH,td,Zb,Ac.u,ix_t (Th _ _),ix_t (FQ _ _ _ _ _),ix_t (show atI [U.str s.w,.int s.o,.int s.t,.int s.lo,.int s.hi] 4=ma (.int s.hi)from Ag (j:=4) rfl)];unfold topZ at q;by_cases c:s.w = "span"
 ·rw[if_pos (by simpa using c)]
  rw[if_pos c]at q;exact q
 ·rw[if_neg (by simpa using c)]
  rw[if_neg c]at q;exact q
def kY  (hP:0<P)(bl:bs.length=W)(Y:∀s∈ss,s.Ok W)(sl:ss.length<=24)(q:∀p (f:List Int) j ,Sa G j->j p=ma (.lst (f.map .int))->(f.map U.int).isEmpty=jf P ss bs->Q (.loc p) j):Ob T (k+2) NA [Tb xs ss,.int P,Kc bs] G Q X:=by
 refine⟨rfl,?_⟩;simp! only[qI,td,Zb];refine⟨by decide,λp G1 F=>?_⟩
 simp! only[rJ,Tb,ix_t (Af _ _ _),Hb];refine⟨by lia,by lia,?_⟩
 refine Ff (λi I j=>∃(f:List Int) (o4 o5 o6 o7 o8 o9 o10:Option U),I=[ma (Tb xs ss),ma (.int P),ma (Kc bs),ma (.loc p),o4,o5,o6,o7,o8,o9,o10]/\Sa G j/\j p=ma (.lst (f.map .int))/\f.length<=i/\f.isEmpty=(ss.take i).all (Rh P bs)) ?_ ?_ ⟨[],_,_,_,_,_,_,_,rfl,F.sa,F.at,Mb _,rfl⟩
 ·rintro I R ⟨f,o4,o5,o6,o7,o8,o9,o10,rfl,s2,g2,_,he⟩;rw[yf,Bf]at he;refine⟨trivial,?_⟩;simp! only[];exact q p f _ s2 g2 (by rw[List.isEmpty_map];exact he)
 ·rintro i x I R K hx ⟨f,o4,o5,o6,o7,o8,o9,o10,rfl,s2,g2,hl,he⟩ hk;obtain⟨Z,rfl⟩:=Fh hx;refine⟨trivial,?_⟩;obtain⟨s,y⟩:∃s,ss[i]?=ma s:=⟨_,Cc Z⟩;have O:=Y s (Vc y);have o:=O.o;have t:=O.t;simp! only[Tb,ix_t (Af _ _ _),ix_t (ng y)];rw[show s.u=.tup [.str s.w,.int s.o,.int s.t,.int s.lo,.int s.hi]from rfl];simp! only[Kc,ix_t (Ho (show s.o<bs.length by omega)),ix_t (Ho (show s.t<bs.length by omega)),Tb,ix_t (Af _ _ _),ix_t (ng y)]
  refine⟨trivial,by lia,DF ?_⟩
  simp! only[];have g0:0<=gapZ P bs s:=Xh _ (by lia)
  have g1:gapZ P bs s<P:=Ai _ (by lia)
  rw[show(bs.getD s.t 0-bs.getD s.o 0-s.lo)%P=gapZ P bs s from rfl];by_cases c:(if s.lo+P-1<topZ P s then s.lo+P-1 else topZ P s)<s.lo+gapZ P bs s
  ·rw[if_pos (by simpa using c)]
   simp! only[dh g2];rw[Sh g2];refine⟨by rw[Hb];exact Ug (show f.length<=24 by lia) (by decide),λG3 J=>?_⟩
   refine hk _ _ ⟨f++[(i:Int)],_,_,_,_,_,_,_,rfl,?_,by rw[ie];exact J.at,by simp;lia,?_⟩
   ·exact λb u e=>J.sm _ _ (λz=>by rw[z,F.no]at e;cases e) (s2 _ _ e)
   ·rw[iA y];unfold Rh;rw[decide_eq_false (by split at c<;>lia),Bool.and_false]
    simp
  ·rw[if_neg (by simpa using c)]
   refine hk _ _ ⟨f,_,_,_,_,_,_,_,rfl,s2,g2,by lia,?_⟩
   rw[iA y,he];unfold Rh;rw[decide_eq_true (by split at c<;>lia),Bool.and_true]
def QY  {kk:Bool->Gp->Prop}(O:0<P)(bl:bs.length=W)(R:∀s∈ss,s.Ok W)(Z:ss.length<=24)(q:∀I,Sa G I->kk (jf P ss bs) I):Ob T (k+2) NA [Tb xs ss,.int P,Kc bs] G (λx F=>0<=Fb/\newO F (.lst []) λy f=>cmpU .Eq x y f λc=>kk c f) X:=by
 refine kY O bl R Z λp zs F s1 Y J=>⟨by decide,λp2 f j=>?_⟩
 simp! only[];refine DT (n:=0) (j.sa _ _ Y) j.at (λu hu=>?_) (by decide) ?_
 ·obtain⟨z,_,rfl⟩:=Uc.mp hu;exact Qs.int z
 ·rw[J];exact q _ (s1.trans j.sa)


def xY  {j: Nat}(h:ss[j]?=ma s)(q:Q (.int (topZ P s)) G):Ob T (k+1) jv [Tb xs ss,.int P,.int j] G Q X:=by
 refine⟨rfl,?_⟩;simp! only[nA,td,Zb,Tb,ix_t (Af _ _ _),ix_t (ng h),Ac.u];unfold topZ at q;refine⟨trivial,?_⟩;by_cases c:s.w = "span"
 ·rw[if_pos (by simpa using c)]
  rw[if_pos c]at q;exact q
 ·rw[if_neg (by simpa using c)]
  rw[if_neg c]at q;exact q
def QJ  {j: Nat}(y:0<P)(bl:bs.length=W)(f:s.Ok W)(h:ss[j]?=ma s)(q:Q (.int (s.lo+gapZ P bs s)) G):Ob T (k+1) OA [Tb xs ss,.int P,Kc bs,.int j] G Q X:=by
 have o:=f.o;have t:=f.t;refine⟨rfl,?_⟩;simp! only[wI,td,Zb,Tb,ix_t (Af _ _ _),ix_t (ng h),Ac.u,Kc,ix_t (Ho (show s.o<bs.length by omega)),ix_t (Ho (show s.t<bs.length by omega))]
 exact⟨trivial,by lia,q⟩
def yY  {kk:Bool->Prop}(F:0<P)(bl:bs.length=W)(I:∀s∈ss,s.Ok W)(Y:ss.length<=24)(q:∀u,gj u .non kk=kk (jf P ss bs)->Q u G):Ob T (k+2) kH [Tb xs ss,.int P,Kc bs] G Q X:=by
 refine⟨rfl,?_⟩;simp! only[XG,td,Zb,Tb,ix_t (Af _ _ _),Hb];refine⟨by lia,by lia,?_⟩
 refine Ff (λi j R=>R=G/\(∃o3,j=[ma (Tb xs ss),ma (.int P),ma (Kc bs),o3])/\(ss.take i).all (Rh P bs)=ua) ?_ ?_ ⟨rfl,⟨_,rfl⟩,rfl⟩
 ·rintro j y ⟨rfl,⟨o3,rfl⟩,h⟩;rw[yf,Bf]at h;refine⟨trivial,?_⟩;simp! only[];refine q _ ?_;unfold jf;rw[h];rfl
 ·rintro i x j y K J ⟨rfl,⟨o3,rfl⟩,h⟩ hk;obtain⟨O,rfl⟩:=Fh J;refine⟨trivial,?_⟩;simp! only[];obtain⟨s,f⟩:∃s,ss[i]?=ma s:=⟨_,Cc O⟩;refine QJ F bl (I s (Vc f)) f (xY f ?_);simp! only[];by_cases c:topZ P s<s.lo+gapZ P bs s
  ·rw[if_pos (by simpa using c)]
   refine q _ ?_;have:jf P ss bs=Ca:=by
    rw[Bool.eq_false_iff];intro z;have:=Mi.mp z s (Vc f);unfold Rh at this;rw[decide_eq_true_eq]at this
    lia
   rw[this];rfl
  ·rw[if_neg (by simpa using c)]
   refine hk _ _ ⟨rfl,⟨_,rfl⟩,?_⟩;rw[iA f,h];unfold Rh;simp;lia

noncomputable def endZ  (P:Int)(s:Ac):Int:=if s.lo+P-1<(if s.w = "span" then s.hi else P-s.hi) then s.lo+P-1 else if s.w = "span" then s.hi else P-s.hi
def winO  (P:Int)(ss:List Ac):Wn:=ss.map λs=>(s.lo,endZ P s)
def zT    : endZ P s-s.lo<=P-1:=by unfold endZ;split<;>lia
section
variable {k:Nat}{G:Gp}{Q:K1}{X:KX}{xs:List Str}{ss:List Ac}{ws:Wn}{P:Int}{W:Nat}
def yS  {i:Nat}(hs:ss[i]?=ma s)(h:s.Ok W)(q:Q (.int (if s.w = "span" then s.hi else P-s.hi)) G):Ob T (k+1) jv [Tb xs ss,.int P,.int i] G Q X:=by
 refine⟨rfl,?_⟩;simp! only[nA,td,Zb,Tb,ix_t (Af _ _ _),ix_t (ng hs),Ac.u];refine⟨trivial,?_⟩;rcases h.w with z|z
 ·rw[z,if_neg (by decide +kernel)]
  rw[z,if_neg (show ¬(("apart" : Str) = "span") by decide +kernel)]at q
  exact q
 ·rw[z,if_pos (by decide +kernel)]
  rw[z,if_pos rfl]at q;exact q
def mZ  (J:∀s∈ss,s.Ok W)(R:ss.length<=24)(q:∀j,Sa G j->Q (Ud (winO P ss)) j):Ob T (k+3) PJ [Tb xs ss,.int P] G Q X:=by
 refine⟨rfl,?_⟩;simp! only[WI,td,Zb,Tb,ix_t (Af _ _ _),Hb];refine⟨by lia,by lia,by rw[yf];exact Yb (show((ss.length:Int)).toNat<=24 by lia) (by decide),?_⟩
 refine jg (λi f j=>j=G/\f=(winO P (ss.take i)).map wu) ?_ ?_ ⟨rfl,rfl⟩
 ·rintro f j ⟨rfl,rfl⟩;rw[yf,Bf];refine⟨trivial,λp I F=>?_⟩;dsimp only;rw[it_l F.at];exact q I F.sa
 ·rintro i x f j K O ⟨rfl,rfl⟩ hk _;obtain⟨y,rfl⟩:=Fh O;have y:i<ss.length:=by lia
  have z:ss[i]?=ma ss[i]:=Cc y;refine⟨trivial,?_⟩;simp! only[];refine⟨rfl,?_⟩;simp! only[yI,td,Zb,Tb,ix_t (Af _ _ _),ix_t (ng z)];show qf (.tup [.str ss[i].w,.int ss[i].o,.int ss[i].t,.int ss[i].lo,.int ss[i].hi]) _ _ _;rw[ix_t (show atI [U.str ss[i].w,.int ss[i].o,.int ss[i].t,.int ss[i].lo,.int ss[i].hi] 3=ma (.int ss[i].lo)from rfl)];simp! only[];refine yS (xs:=xs) (P:=P) z (J _ (zi y)) ?_;simp! only[];refine⟨by decide,hk _ _ ⟨rfl,?_⟩⟩
  unfold winO;rw[Rf,z,ie,ie];rfl
structure Pw (W:Nat)(ss:List Ac)(P:Int)(ws:Wn)(ps:List (List Int))(n:Nat)(bs:List Int):Prop where
 l:bs.length=W
 b:∀b∈bs,0<=b/\b<P
 k:∀i s,ss[i]?=ma s->(∃p∈ps.take n,(s.o:Int)∈p)->Kw ss P ws bs i
def OV     (h:Kw ss P ws bs i)(hs:ss[i]?=ma s)(j:bt f s.o=bt bs s.o)(q:bt f s.t=bt bs s.t):Kw ss P ws f i:=by
 unfold Kw at h ⊢;rw[eS_1 hs,eD_1 hs]at h ⊢;rw[j,q];exact h
def Pw.step {n w:Nat}{fs:List (Int×Ent)}{p:List Int}{ps:List (List Int)}{bs f:List Int}(h:Pw W ss P ws ps n bs)(I:Ad W (Nd ss) ps)(J:ps[n]?=ma p)(R:∀x,x∈p↔x∈(w:Int)::Xb fs)
  (Y:f.length=W) (Z:∀b∈f,0<=b/\b<P) (s':∀x,0<=x->x∉Xb fs->bt f x=bt bs x) (k':∀i s,ss[i]?=ma s->(s.o:Int)∈p->Kw ss P ws f i):Pw W ss P ws ps (n+1) f:=by
 have off:∀x,x∉p->x∉Xb fs:=λx hx z=>hx ((R x).mpr (Jd _ z));refine⟨Y,Z,λi s y ⟨O,q,j⟩=>?_⟩;rw[Rf,J]at q;rcases ee.mp q with z|z
 ·have ht:(s.t:Int)∈O:=I.part (Mr z) j (.one (.inl (Uc.mpr ⟨s,Vc y,rfl⟩)));exact OV (h.k i s y ⟨O,z,j⟩) y (s' _ (by lia) (off _ λF=>I.apart J z F j)) (s' _ (by lia) (off _ λF=>I.apart J z F ht))
 ·rw[Nc.mp z]at j;exact k' i s y j
def aQ  (so:∀s∈ss,s.Ok xs.length)(Y:ss.length<=24)(w0:0<xs.length)(O:xs.length<=8)(p1:1<=P)(p2:P<=600)(pw:∀ps ,Ad xs.length (Nd ss) ps->P.toNat ^ (xs.length-ps.length)<=300)
  (q1:∀c m q ,Sa G q->Cs ss P 70 m (winO P ss) c->Q (.tup [.str "none",c]) q)
  (q2:∀(bs:List Int) q ,Sa G q->bs.length=xs.length->(∀b∈bs,0<=b/\b<P)->(∀i,i<ss.length->Kw ss P (winO P ss) bs i)->Q (.tup [.str "times",Kc bs]) q) :
  Ob T (k+75) vK [Tb xs ss,.int P,.tup [],.tup []] G Q X:=by
 have wl:(winO P ss).length=ss.length:=Hb _;refine⟨rfl,?_⟩;simp! only[BK,td,Zb];refine PH (k:=k+69) w0 O so Y p1 p2 pw λG1 s1=>?_;simp! only[wK];refine mZ (k:=k+71) so Y λG2 s2=>?_;simp! only[xK];refine aV (k:=k+73) (ws:=winO P ss) rfl (λnv=>?_) λi w ew c=>?_
 ·have I:∀kk:Bool->Prop,kk ua->gj .non .non kk:=λ_ h=>h;simp! only[jB];refine I _ ?_;rw[if_neg (by decide)]
  simp! only[zK,Tb,ix_t (Th _ _),Hb];refine⟨by lia,by lia,by rw[yf];exact Yb (show((xs.length:Int)).toNat<=8 by lia) (by decide),?_⟩
  refine Mk (λ_=>.int 0) trivial (λu hu K hK=>?_) ?_
  ·obtain⟨i,_,rfl⟩:=Uc.mp hu;simp! only[];exact⟨rfl,rfl,hK⟩
  intro p3 G3 n3;have e3:[]++(rngU 0 xs.length).map (λ_=>U.int 0)=(Zb xs.length (0:Int)).map .int:=by
   rw[Qi,List.map_const',yf,List.map_replicate]
  rw[e3]at n3;rw[it_l n3.at];refine(?_:Ze T.gs (Ob T (k+74)) kB ⟨λ_ q=>Q .non q,Q,λx _ q=>X x q⟩ [ma (Tb xs ss),ma (.int P),ma (.tup []),ma (.tup []),ma (Ud (winO P ss)),ma .non,ma (Kc (Zb xs.length 0)),Aa,Aa,Aa,Aa] G3)
  have ya:Sa G G3:=s1.trans (s2.trans n3.sa);simp! only[kB];refine QA (k:=k+71) (xs:=xs) so Y O λps G4 R hS hl s4=>?_;simp! only[Fu];refine Ff (λn ς q=>∃(bs:List Int) (o7 o8 o9 o10:Option U),ς=[ma (Tb xs ss),ma (.int P),ma (.tup []),ma (.tup []),ma (Ud (winO P ss)),ma .non,ma (Kc bs),o7,o8,o9,o10]/\Sa G q/\Pw xs.length ss P (winO P ss) ps n bs) ?_ ?_
   ⟨Zb xs.length 0,_,_,_,_,rfl,ya.trans s4,by simp,λb Z=>by rw[List.eq_of_mem_replicate Z];lia,λi s _ ⟨p,hp,_⟩=>by simp at hp⟩
  ·rintro ς G5 ⟨bs,o7,o8,o9,o10,rfl,s5,pt⟩;rw[Hb]at pt;refine⟨trivial,?_⟩;simp! only[AK];refine⟨by decide,q2 bs G5 s5 pt.l pt.b λi hi=>?_⟩
   have y:ss[i]?=ma ss[i]:=Cc hi;obtain⟨p,hp,va,_⟩:=R.ed _ _ (Uc.mpr ⟨ss[i],zi hi,rfl⟩);exact pt.k i _ y ⟨p,by rw[Bf];exact hp,va⟩
  ·rintro n u ς G5 K hu ⟨bs,o7,o8,o9,o10,rfl,s5,pt⟩ hk;rw[md]at hu;cases ep:ps[n]? with
   |none=>rw[ep]at hu;cases hu
   |some p=>
    rw[ep]at hu;cases hu;have pm:=Vc ep;have pl:=xG R O pm;obtain⟨x0,rest,rfl⟩:∃x r,p=x::r:=by
     cases p with
     |nil=>exact absurd rfl (R.ne _ pm)
     |cons x r=>exact⟨x,r,rfl⟩
    have b0:=R.bd _ pm x0 (by simp)
    obtain⟨w,rfl⟩:=Vi b0.1;refine⟨trivial,?_⟩;simp! only[];refine NI (k:=k+73) pl λpa G6 s6 g6=>?_;rw[Du g6,if_neg (by simp)]
    simp! only[Kc];have ec:cut (U.int w::rest.map U.int) Aa (ma 1)=[.int w]:=Do (U.int w::rest.map U.int) 1;rw[ec];refine MI (k:=k+72) (r:=.tup [.int w]) (xs:=xs) so Y (show w<xs.length by lia) O (λ_ _ _ h=>h) λpf fs G7 s7 nf gf F hC=>?_
    have mem:∀x,x∈(w:Int)::rest↔x∈(w:Int)::Xb fs:=λx=>
     ⟨λhx=>(R.co _ pm w (by simp) x hx).closed (S:=λz=>z∈(w:Int)::Xb fs) (λa b ha e=>hC a b ha e) (by simp),λhx=>R.part pm (by simp) (F.rch.co x hx)⟩
    have ka:=Gh _ _ F.nd F.bd;simp only[Xb,Zf,Hb]at ka;refine uY (k:=k+70) (xs:=xs) (ps:=(w:Int)::rest) F O Y gf hC (λx hx=>(mem x).mp hx) λpr rs o G8 s8 nr gr xa c1 c2 rl=>?_;have ja:Sa G6 G8:=λb u Z=>s8 _ _ (λz=>by rw[z,nf]at Z;cases Z) (s7 _ _ Z)
    have S8:Sa G G8:=(s5.trans s6).trans ja;have sk:=YU (xs:=xs) (rs:=rs) (pf:=pf) (pr:=pr) (o:=o) (bu:=Kc bs) 70 F O Y p1 (show P<=600 by lia) c1
    refine sk k G8 _ _ (winO P ss) (λ_=>10) wl nv (λf hf v ev=>?_) ?_ xa gr (λc m G9 s9 hc=>?_) λJ G9 s9 ht=>?_
    ·obtain⟨s,hs,rfl⟩:=Uc.mp (Vc ev);have:=zT (P:=P) (s:=s);have e2:(2:Int) ^ 10=1024:=rfl;rw[e2];show endZ P s-s.lo<1024
     lia
    ·have:∀l:List (Int×Ent),(l.map λ_=>10).sum=10*l.length:=λl=>by
      induction l with
      |nil=>rfl
      |cons a l ih=>rw[Se,List.sum_cons,ih,Zf];lia
     rw[this];lia
    ·simp! only[];refine⟨trivial,?_⟩;rw[if_pos (by decide +kernel)]
     exact⟨by decide,q1 c m G9 (S8.trans s9) hc⟩
    ·simp! only[];refine⟨trivial,?_⟩;rw[if_neg (by decide +kernel)]
     simp! only[Ud];refine⟨by rw[Hb,ht.l,wl];exact Yb Y (by decide),?_⟩
     refine Mk (λu=>match u with|.tup [a,_]=>a|u=>u) trivial (λu hu K hK=>?_) ?_
     ·obtain⟨v,_,rfl⟩:=Uc.mp hu;show Qc _ (.tup [.int v.1,.int v.2]) _ _;simp! only[];exact⟨trivial,hK⟩
     intro za Ga na;have ea:[]++(J.map wu).map (λu=>match u with|.tup [a,_]=>a|u=>u)=(J.map (·.1)).map U.int:=by
      rw[Qi,dg,dg];rfl
     rw[ea]at na;have lu:Lu ss Ga (.loc za) (J.map (·.1)):=⟨by rw[Hb,ht.l,wl],.inl ⟨za,rfl,na.at⟩⟩
     refine pX (k:=k+72) (xs:=xs) F O lu p1 (show P<=600 by lia) pt.l pt.b (na.sa _ _ (s9 _ _ xa)) λwa Gb sb l7 b7 e7 k7=>?_
     simp! only[];refine hk _ _ ⟨wa,_,_,_,_,rfl,S8.trans (s9.trans (na.sa.trans sb)),pt.step R ep mem l7 b7 e7 λi s y ho=>?_⟩;refine ht.kw wl p1 (λf hf=>⟨?_,k7 f hf⟩) y (c2 i s y ho);obtain⟨j,hj,ej⟩:=Jg hf;exact(F.en j f (by rw[Cc hj,ej])).1
 ·have I:∀kk:Bool->Prop,kk Ca->gj (.int (i:Int)) .non kk:=λ_ h=>h;simp! only[jB];refine I _ ?_;rw[if_pos (by decide)]
  have il:i<ss.length:=by rw[<- wl];exact(Ba.mp ew).1
  have y:ss[i]?=ma ss[i]:=Cc il;refine⟨by decide,by decide,by decide,by decide,by decide,q1 (.tup [.str "ring",Ak [(i,1),(i,-1)]]) 1 G2 (s1.trans s2) (.ring (a:=(ss[i].o:Int)) ⟨⟨il,.inl rfl⟩,eS_1 y,⟨il,.inr rfl⟩,?_,eD_m y⟩ (by simp) (by simp) ?_)⟩
  ·rw[eS_m y,eD_1 y]
  ·have a1:Fg (winO P ss) [(i,1),(i,-1)]=w.1-w.2:=by
    have:Fg (winO P ss) [(i,1),(i,-1)]=eg (winO P ss) (i,1)+(eg (winO P ss) (i,-1)+0):=by simp[Fg]
    rw[this];unfold eg;rw[if_pos rfl,if_neg (show ¬((-1:Int)=1) by decide),getW ew];lia
   have a2:vg (winO P ss) [(i,1),(i,-1)]=w.2-w.1:=by
    have:vg (winO P ss) [(i,1),(i,-1)]=fg (winO P ss) (i,1)+(fg (winO P ss) (i,-1)+0):=by simp[vg]
    rw[this];unfold fg;rw[if_pos rfl,if_neg (show ¬((-1:Int)=1) by decide),getW ew];lia
   unfold nk;rw[a1,a2];have:=Int.ediv_mul_le (w.2-w.1) (show P≠0 by lia)
   lia
def nY  (y:∀s∈ss,s.Ok xs.length)(F:ss.length<=24)(I:0<xs.length)(j:xs.length<=8)(z:1<=P)(q:P<=600)(pw:∀ps ,Ad xs.length (Nd ss) ps->P.toNat ^ (xs.length-ps.length)<=300)
  (q1:∀c m f ,Sa G f->Cs ss P 70 m (winO P ss) c->Q (.tup [.str "none",c]) f)
  (q2:∀(bs:List Int) f ,Sa G f->bs.length=xs.length->(∀b∈bs,0<=b/\b<P)->(∀i,i<ss.length->Kw ss P (winO P ss) bs i)->Q (.tup [.str "times",Kc bs]) f) :
  Ob T (k+76) iK [Tb xs ss,.int P] G Q X:=by
 refine⟨rfl,?_⟩;simp! only[cK,td,Zb];exact⟨by decide,by decide,aQ (k:=k) y F I j z q pw q1 q2⟩
end

theorem SG     : ∀{xs } (I:Nat->List U->Gp->Prop) (_:∀acc G,I xs.length acc G->ok G/\k acc G)
  (_:∀i x acc G K ,xs[i]?=ma x->I i acc G->(∀f j,I (i+1) f j->K f j)->ok G/\b x acc G K) {acc } {G } (_:I 0 acc G),xo ok b xs acc G k
 |[],_,h0,_,_,_,h=>h0 _ _ h
 |x::_,I,h0,h1,_,_,h=>h1 0 x _ _ _ rfl h λ_ _ q=>SG (λi=>I (i+1)) h0 (λi y a G K e z hk=>h1 (i+1) y a G K e z hk) q
def ZF  {j q:Type}{f:j->List q}{l:List j}{a:j}(h:l[i]?=ma a):(l.take (i+1)).flatMap f=(l.take i).flatMap f++f a:=by
 rw[Rf,h,List.flatMap_append];simp
def BE    {f:List (List Int)}(y:1<=P)(j:P<=600)(z:f.length<=300) i:((f.take i).flatMap (rowX fs P w)).length<=180000:=by
 rw[Mu];have q:(f.take i).length<=300:=by rw[Yh];lia
 have j:=Yb (xu (fs:=fs) y w) j;exact Yb (jC q j) (by decide)

def TD   {f:List Int}{kk:Bool->Prop}(g:G a=ma (.lst (f.map .int)))(q:kk (decide (z∈f))):nh (.int z) (.loc a) G kk:=by
 refine in_l g rfl (Wm _) ?_;rw[Om];exact q
def qA    : (Md (i+1)).map (λ(j:Nat)=>Kc (b++[(j:Int)]))=(Md i).map (λ(j:Nat)=>Kc (b++[(j:Int)]))++[U.tup (b.map U.int++[.int i])]:=by
 rw[ZB,ie];simp[Kc]
def xX       {I rl:List (List Int)}(h1:1<=P)(h2:P<=600)(w8:w<8)(hb:b.length=w)(g2:J O=ma (.lst (zs.map .int)))(gf:J pf=ma (.lst (I.map Kc)))(gl:J F=ma (.lst (rl.map Kc)))(l2:F≠O)(lf:F≠pf)(fr:G F=Aa)(s3:Sa G J)(rb:rl.length<=180000)(hD:D.nx=K)
  (kk:∀q ,Sa G q->q O=ma (.lst (zs.map .int))->q pf=ma (.lst (I.map Kc))->q F=ma (.lst ((rl++rowX zs P.toNat w b).map Kc))->K [u0,ma (.int P),ma (.loc O),ma (.loc pf),ma (.int w),ma (.loc F),ma (Kc b)] q) :
  Ze T.gs (Ob T k) qB D [u0,ma (.int P),ma (.loc O),ma (.loc pf),ma (.int w),ma (.loc F),ma (Kc b)] J:=by
 have nb:=xu (fs:=zs) (P:=P.toNat) (by lia) w
 have y:newO J (.lst ((Md (nB zs P.toNat w)).map λ(j:Nat)=>Kc (b++[(j:Int)]))) λx G1=>Of .extend (.loc F) [x] G1 λ_ G1=>K [u0,ma (.int P),ma (.loc O),ma (.loc pf),ma (.int w),ma (.loc F),ma (Kc b)] G1:=λp9 Y R=>by
  dsimp only;rw[PD (R.sa _ _ gl) R.at];refine⟨by rw[Hb,Hb,ql];exact Yb (show _<=180600 by lia) (by decide),λG5 Z=>?_⟩
  refine kk G5 (λc u e=>Z.sm _ _ (λz=>by rw[z,fr]at e;cases e) (R.sa _ _ (s3 _ _ e))) (Z.sm _ _ (Ta l2) (R.sa _ _ g2)) (Z.sm _ _ (Ta lf) (R.sa _ _ gf)) ?_
  rw[ie,rowX,dg];exact Z.at
 simp! only[qB,pF gl];refine TD g2 ?_;by_cases c:(w:Int)∈zs
 ·have e:nB zs P.toNat w=((1:Int)).toNat:=by unfold nB;rw[if_pos c];rfl
  rw[e]at y;rw[if_pos (decide_eq_true c)];refine⟨by decide,by decide,by decide,?_⟩
  refine jg (λi f q=>q=J/\f=(Md i).map λ(j:Nat)=>Kc (b++[(j:Int)])) ?_ ?_ ⟨rfl,rfl⟩
  ·rintro f Y ⟨rfl,rfl⟩;rw[yf,hD];exact⟨trivial,y⟩
  ·rintro i x f Y K4 hx ⟨rfl,rfl⟩ hk _;obtain⟨hi,rfl⟩:=Fh hx;refine⟨trivial,?_⟩;simp! only[Kc];refine⟨by decide,by rw[Hb];exact Yb (show b.length+_<=9 by lia) (by decide),?_⟩
   refine hk _ _ ⟨rfl,qA.symm⟩
 ·have e:nB zs P.toNat w=P.toNat:=by unfold nB;rw[if_neg c]
  rw[e]at y;rw[if_neg (by rw[decide_eq_false c];decide)]
  refine⟨by lia,by lia,by rw[yf];exact Yb (show P.toNat<=600 by lia) (by decide),?_⟩
  refine jg (λi f q=>q=J/\f=(Md i).map λ(j:Nat)=>Kc (b++[(j:Int)])) ?_ ?_ ⟨rfl,rfl⟩
  ·rintro f Y ⟨rfl,rfl⟩;rw[yf,hD];exact⟨trivial,y⟩
  ·rintro i x f Y K4 hx ⟨rfl,rfl⟩ hk _;obtain⟨hi,rfl⟩:=Fh hx;refine⟨trivial,?_⟩;simp! only[Kc];refine⟨by decide,by rw[Hb];exact Yb (show b.length+_<=9 by lia) (by decide),?_⟩
   refine hk _ _ ⟨rfl,qA.symm⟩
def GH  {j:Type}{f:j->Bool}{l:List j}{a:j}(h:l[i]?=ma a):(l.take (i+1)).filter f=(l.take i).filter f++if f a=ua then [a] else []:=by
 rw[Rf,h,Ur];cases e:f a<;>simp[e]
def JE  (w0:0<xs.length)(w8:xs.length<=8)(so:∀s∈ss,s.Ok xs.length)(sl:ss.length<=24)(h1:1<=P)(h2:P<=600)(hR:∀ks ,Ad xs.length (Nd ss) ks->∀w,w<=xs.length->(Oe (ks.map (·.headD 0)) P.toNat w).length<=300)
  (q:∀(ks:List (List Int)) p I ,Ad xs.length (Nd ss) ks->ks.Pairwise Sl->Sa G I->G p=Aa->I p=ma (.lst (((Oe (ks.map (·.headD 0)) P.toNat xs.length).filter (jf P ss)).map Kc))->Q (.loc p) I):Ob T (k+3) IA [Tb xs ss,.int P] G Q X:=by
 refine⟨rfl,?_⟩;simp! only[UH,td,Zb];refine u1 so w8 λp as O G1 s1 Z hP wa kl _=>?_;have q:=q O;have hR:=hR O hP;generalize xa:O.map (·.headD 0)=zs at hR q;have P1:1<=P.toNat:=by lia
 have P3:P.toNat<=600:=by lia
 rw[it_l Z.gp];refine⟨by rw[Hb,Z.l];exact Yb kl (by decide),?_⟩
 refine jg (λi J I=>I=G1/\J=(zs.take i).map .int) ?_ ?_ ⟨rfl,rfl⟩
 ·rintro J G2 ⟨rfl,rfl⟩;have el:zs.length=as.length:=by rw[<- xa,Hb,Z.l]
  rw[Hb,<- el,Bf];refine⟨by unfold Rc;rw[Z.gp],λp2 G3 n3=>?_⟩
  simp! only[eJ];refine⟨by decide,by decide,λp3 G4 n4=>?_⟩
  simp! only[fJ,Tb,ix_t (Th _ _),Hb];refine⟨by lia,by lia,?_⟩
  refine Ff (λi ς I=>∃(pf:Ea) (o4 o5 o6:Option U),ς=[ma (Tb xs ss),ma (.int P),ma (.loc p2),ma (.loc pf),o4,o5,o6]/\Sa G I/\I p2=ma (.lst (zs.map .int))/\I pf=ma (.lst ((Oe zs P.toNat i).map Kc))) ?_ ?_ ⟨p3,_,_,_,rfl,(s1.trans n3.sa).trans n4.sa,n4.sa _ _ n3.at,n4.at⟩
  ·rintro ς G5 ⟨pf,o4,o5,o6,rfl,s5,g2,gf⟩;rw[yf]at gf;have r3:=hR _ (Mb _);refine⟨trivial,?_⟩;simp! only[gJ,it_l gf];refine⟨by rw[Hb];exact Yb r3 (by decide),?_⟩
   refine jg (λi J I=>Sa G5 I/\J=(((Oe zs P.toNat xs.length).take i).filter (jf P ss)).map Kc) ?_ ?_ ⟨Sa.refl,rfl⟩
   ·rintro J G6 ⟨s6,rfl⟩;rw[Hb,Bf];refine⟨by unfold Rc;rw[s6 _ _ gf],λp7 G7 n7=>?_⟩
    exact q p7 G7 hP wa ((s5.trans s6).trans n7.sa) (Nj (s5.trans s6) n7.no) n7.at
   ·rintro i x J G6 K6 F ⟨s6,rfl⟩ hk hn;rw[md]at F;cases R:(Oe zs P.toNat xs.length)[i]? with
    |none=>rw[R]at F;cases F
    |some b=>
     rw[R]at F;have F:=(Hd F).symm;subst F;have bl:=(Mj.mp (Vc R)).1;have ft:=GH (f:=jf P ss) R;refine⟨by unfold Rc;rw[s6 _ _ gf],?_⟩
     simp! only[];refine QY (by lia) bl so sl λG7 s7=>?_
     cases c:jf P ss b with
     |true=>
      rw[c,if_pos rfl]at ft;rw[if_pos rfl];exact hk _ _ ⟨s6.trans s7,by rw[ft,ie];rfl⟩
     |false=>
      rw[c,if_neg (by decide),xi]at ft
      rw[if_neg (by decide)]
      exact hn _ ⟨s6.trans s7,by rw[ft]⟩
  ·rintro w x ς G5 K F ⟨pf,o4,o5,o6,rfl,s5,g2,gf⟩ hk;obtain⟨hw,rfl⟩:=Fh F;have r3:=hR w (by lia)
   refine⟨trivial,?_⟩;simp! only[AJ];refine⟨by decide,λpl G6 n6=>?_⟩
   have fr:G pl=Aa:=Nj s5 n6.no;have l2:pl≠p2:=Li g2 n6.no;have lf:pl≠pf:=Li gf n6.no;have za:=n6.sa _ _ gf;simp! only[it_l za];refine Ff (λj ς I=>∃o6:Option U,ς=[ma (Tb xs ss),ma (.int P),ma (.loc p2),ma (.loc pf),ma (.int w),ma (.loc pl),o6]/\Sa G I/\I p2=ma (.lst (zs.map .int))/\I pf=ma (.lst ((Oe zs P.toNat w).map Kc))/\I pl=ma (.lst ((((Oe zs P.toNat w).take j).flatMap (rowX zs P.toNat w)).map Kc))) ?_ ?_ ⟨_,rfl,s5.trans n6.sa,n6.sa _ _ g2,za,n6.at⟩
   ·rintro ς G7 ⟨o6,rfl,s7,g27,gf7,gl7⟩;rw[Hb,Bf]at gl7;refine⟨by unfold Rc;rw[gf7],?_⟩
    simp! only[BJ];exact hk _ _ ⟨pl,_,_,_,rfl,s7,g27,gl7⟩
   ·rintro j y ς G7 K7 Y ⟨o6,rfl,s7,g27,gf7,gl7⟩ hk7;rw[md]at Y;cases R:(Oe zs P.toNat w)[j]? with
    |none=>rw[R]at Y;cases Y
    |some b=>
     rw[R]at Y;have Y:=(Hd Y).symm;subst Y;have bl:=(Mj.mp (Vc R)).1;refine⟨by unfold Rc;rw[gf7],?_⟩
     simp! only[];refine xX h1 h2 (by lia) bl g27 gf7 gl7 l2 lf fr s7 (BE P1 P3 r3 j) rfl λG8 s8 va ja ya=>hk7 _ _ ⟨_,rfl,s8,va,ja,?_⟩
     rw[ya,ZF R]
 ·rintro i x J G2 K F ⟨rfl,rfl⟩ hk _;rw[md]at F;cases ea:as[i]? with
  |none=>rw[ea]at F;cases F
  |some a=>
   rw[ea]at F;have F:=(Hd F).symm;subst F;have hi:i<O.length:=by rw[<- Z.l];exact(Ba.mp ea).1
   have ek:=Cc hi;have ga:=Z.ga i a _ ea ek;have ne:=hP.ne _ (zi hi);refine⟨by unfold Rc;rw[Z.gp],?_⟩
   simp! only[];generalize O[i]=kp at ga ne ek;cases kp with
   |nil=>exact absurd rfl ne
   |cons z l=>
    rw[ix_l ga (Th _ _)];have ez:zs[i]?=ma z:=by rw[<- xa,md,ek];rfl
    exact hk _ _ ⟨rfl,by rw[Rf,ez,ie];rfl⟩


def XU  (w0:0<xs.length)(w8:xs.length<=8)(so:∀s∈ss,s.Ok xs.length)(sl:ss.length<=24)(h1:1<=P)(h2:P<=300)(pw:P.toNat ^ (xs.length-1)<=300)
  (q:∀(ps:List (List Int)) p F ,Ad xs.length (Nd ss) ps->ps.Pairwise Sl->Sa G F->F p=ma (.lst ((Oe (ps.map (·.headD 0)) P.toNat xs.length).map Kc))->Q (.loc p) F):Ob T (k+4) nJ [Tb xs ss,.int P] G Q X:=by
 refine⟨rfl,?_⟩;simp! only[FJ,td,Zb];refine QA so sl w8 λps Y hP hs pl s1=>?_;have q:=q ps;have h0:=ou hP w0;generalize R:ps.map (·.headD 0)=zs at h0 q;have P1:1<=P.toNat:=by lia
 have P3:P.toNat<=600:=by lia
 simp! only[Fu];refine⟨by rw[Hb];exact Yb pl (by decide),?_⟩
 refine jg (λi f F=>F=Y/\f=(zs.take i).map .int) ?_ ?_ ⟨rfl,rfl⟩
 ·rintro f G2 ⟨rfl,rfl⟩;have el:zs.length=ps.length:=by rw[<- R,Hb]
  rw[Hb,<- el,Bf];refine⟨trivial,λZ G3 n3=>?_⟩;simp! only[];refine⟨by decide,by decide,λp3 G4 n4=>?_⟩
  simp! only[lK,Tb,ix_t (Th _ _),Hb];refine⟨by lia,by lia,?_⟩
  refine Ff (λi ς F=>∃(O:Ea) (o4 o5:Option U),ς=[ma (Tb xs ss),ma (.int P),ma (.loc Z),ma (.loc O),o4,o5]/\Sa G F/\F Z=ma (.lst (zs.map .int))/\F O=ma (.lst ((Oe zs P.toNat i).map Kc))) ?_ ?_ ⟨p3,_,_,rfl,(s1.trans n3.sa).trans n4.sa,n4.sa _ _ n3.at,n4.at⟩
  ·rintro ς G5 ⟨O,o4,o5,rfl,s5,g2,gf⟩;rw[yf]at gf;refine⟨trivial,?_⟩;simp! only[mK];exact q O G5 hP hs s5 gf
  ·rintro w x ς G5 K I ⟨O,o4,o5,rfl,s5,g2,gf⟩ hk;obtain⟨hw,rfl⟩:=Fh I;have r3:=qv (w:=w) h0 P1 pw (by lia)
   refine⟨trivial,?_⟩;simp! only[];refine TD g2 ?_;have go:∀(n:Nat),n=nB zs P.toNat w->(if decide ((w:Int)∈zs)=ua then (1:Int) else P)=(n:Int):=λn hn=>by
    rw[hn];unfold nB;split<;>rename_i c<;>simp at c<;>simp[c];lia
   suffices h:∀(n:Nat),n=nB zs P.toNat w->denE T.gs (Ob T (k+3)) (.lc2 [Aa,Aa,ma 5] (.n 0) (.e (.v 3)) .nil (.n 1) (.r1 (.v 2)) .nil (.bin .Add (.v 0) (.tup (.cons (.v 1) .nil)))) [ma (Tb xs ss),ma (.int P),ma (.loc Z),ma (.loc O),ma (.int w),ma (.int (n:Int))] G5 (λu Y=>K [ma (Tb xs ss),ma (.int P),ma (.loc Z),ma u,ma (.int w),ma (.int (n:Int))] Y) (λx Y=>X x Y) by
    have h':=h _ rfl;have e:=go _ rfl;by_cases c:(w:Int)∈zs
    ·rw[if_pos (decide_eq_true c)]at e ⊢;rw[<- e]at h';exact h'
    ·rw[if_neg (by simpa using c)]at e ⊢
     rw[<- e]at h';exact h'
   intro n hn;have nb:=xu (fs:=zs) P1 w;unfold denE;simp! only[it_l gf];refine SG (λi f F=>F=G5/\f=(((Oe zs P.toNat w).take i).flatMap (rowX zs P.toNat w)).map Kc) ?_ ?_ ⟨rfl,rfl⟩
   ·rintro f G6 ⟨rfl,rfl⟩;rw[Hb,Bf];exact⟨by unfold Rc;rw[gf],λp7 G7 n7=>hk _ _ ⟨p7,_,_,rfl,s5.trans n7.sa,n7.sa _ _ g2,n7.at⟩⟩
   ·rintro i y f G6 K6 J ⟨rfl,rfl⟩ hk6;rw[md]at J;cases es:(Oe zs P.toNat w)[i]? with
    |none=>rw[es]at J;cases J
    |some b=>
     rw[es]at J;have J:=(Hd J).symm;subst J;have bl:=(Mj.mp (Vc es)).1;have f3:=BE (fs:=zs) (w:=w) P1 P3 r3 i;refine⟨by unfold Rc;rw[gf],?_⟩
     simp! only[gg,Option.join];refine⟨by lia,by lia,by rw[yf,Hb];exact Yb (show _<=180600 by lia) (by decide),?_⟩
     refine jg (λj f F=>F=G6/\f=(((Oe zs P.toNat w).take i).flatMap (rowX zs P.toNat w)).map Kc++(Md j).map λ(j:Nat)=>Kc (b++[(j:Int)])) ?_ ?_ ⟨rfl,by simp⟩
     ·rintro f G7 ⟨rfl,rfl⟩;rw[yf];refine⟨trivial,hk6 _ _ ⟨rfl,?_⟩⟩;rw[ZF es,ie,rowX,<- hn,dg];congr 1
     ·rintro j z f G7 K7 hz ⟨rfl,rfl⟩ hk7 _;obtain⟨hj,rfl⟩:=Fh hz;refine⟨trivial,?_⟩;simp! only[Kc];refine⟨by decide,by rw[Hb];exact Yb (show b.length+_<=9 by lia) (by decide),?_⟩
      refine hk7 _ _ ⟨rfl,?_⟩;rw[qA,sf]
 ·rintro i x f G2 K I ⟨rfl,rfl⟩ hk _;rw[md]at I;cases ek:ps[i]? with
  |none=>rw[ek]at I;cases I
  |some kp=>
   rw[ek]at I;have I:=(Hd I).symm;subst I;have ne:=hP.ne _ (Vc ek);refine⟨trivial,?_⟩;simp! only[];cases kp with
   |nil=>exact absurd rfl ne
   |cons z l=>
    show qf (.tup (.int z::l.map .int)) _ _ _;rw[ix_t (Th _ _)];have ez:zs[i]?=ma z:=by rw[<- R,md,ek];rfl
    exact hk _ _ ⟨rfl,by rw[Rf,ez,ie];rfl⟩

def pw_le  {P:Int}{c W:Nat}(h:P<=c)(f:c ^ (W-1)<=300):P.toNat ^ (W-1)<=300:=Yb (vC (by lia) (W-1)) f
structure Dl (W:Nat)(s:Ac):Prop where
 ok:s.Ok W
 le:s.w = "span" -> s.lo<=s.hi

def lY  (hf:Fd G f c)(q:∀(W:Nat) (P m:Int) G' ,1<=W->W<=8->1<=P->P<=300->P.toNat ^ (W-1)<=300->1<=m->m<=24->Fd G' f c->Sm f G G'->Q (.tup [.int W,.int P,.int m]) G'):Ob T (k+2) mJ [.loc f] G Q X:=by
 refine⟨rfl,?_⟩;simp! only[uI,td,Zb];refine Ye hf (by decide) (by decide) λr G1 a1 b1 R s1=>?_
 simp! only[];by_cases hr:0<r
 ·rw[if_pos (by simpa using hr)]
  simp! only[];refine⟨by decide,λp G2 J=>Ye (R.new J) (by decide) (by decide) λr3 G3 a3 b3 f3 s3=>?_⟩
  refine fv [2,3,3,4,2,1] (s3 _ _ (R.away J).1 J.at) a3 b3 λz hz=>?_;simp! only[];refine⟨by decide,λp4 G4 n4=>?_⟩
  have S4:Sm f G G4:=((s1.nw J).trans s3).nw n4;have f4:=f3.new n4
  suffices h:∃(W d:Nat),z=W/\1<=W/\W<=8/\atI [U.int 12,.int 24,.int 6,.int 3] (z-1)=ma (.int d)/\0<d/\d<=300/\d ^ (W-1)<=300 by
   obtain⟨W,d,rfl,Y,w8,O,d0,d1,dp⟩:=h;dsimp only;rw[ix_l n4.at O];refine Ye f4 (by lia) (by lia) λZ G5 a5 b5 F s5=>⟨by decide,?_⟩
   exact q W (1+Z) 5 _ Y w8 (by lia) (by lia) (pw_le (c:=d) (by lia) dp) (by decide) (by decide) F (S4.trans s5)
  simp only[Sc,Rg,or_false]at hz;rcases hz with rfl|rfl|rfl|rfl|rfl|rfl
  ·exact⟨2,24,rfl,by decide,by decide,Ag (j:=1) rfl,by decide,by decide,by decide⟩
  ·exact⟨3,6,rfl,by decide,by decide,Ag (j:=2) rfl,by decide,by decide,by decide⟩
  ·exact⟨3,6,rfl,by decide,by decide,Ag (j:=2) rfl,by decide,by decide,by decide⟩
  ·exact⟨4,3,rfl,by decide,by decide,Ag (j:=3) rfl,by decide,by decide,by decide⟩
  ·exact⟨2,24,rfl,by decide,by decide,Ag (j:=1) rfl,by decide,by decide,by decide⟩
  ·exact⟨1,12,rfl,by decide,by decide,Ag (j:=0) rfl,by decide,by decide,by decide⟩
 ·rw[if_neg (by simpa using hr)]
  simp! only[];refine Ye R (by decide) (by decide) λr2 G2 a2 b2 f2 s2=>?_
  simp! only[];refine⟨by decide,λp3 G3 n3=>?_⟩
  have S3:Sm f G G3:=(s1.trans s2).nw n3
  suffices h:∃(W d:Nat),2+r2=W/\1<=W/\W<=8/\atI [U.int 300,.int 17,.int 6,.int 4,.int 3,.int 2,.int 2] (2+r2-2)=ma (.int d)/\0<d/\d<=300/\d ^ (W-1)<=300 by
   obtain⟨W,d,hW,Y,w8,O,d0,d1,dp⟩:=h;dsimp only;rw[ix_l n3.at O];refine Ye (f2.new n3) (by lia) (by lia) λZ G5 a5 b5 F s5=>?_
   simp! only[];refine⟨by decide,λp6 G6 I=>Ye (F.new I) (by decide) (by decide) λr7 G7 a7 b7 f7 s7=>?_⟩
   refine fv [5,12,24] (s7 _ _ (F.away I).1 I.at) a7 b7 λm hm=>?_;have y:1<=m/\m<=24:=by simp only[Sc,Rg,or_false]at hm;lia
   rw[hW];exact⟨by decide,q W (1+Z) m _ Y w8 (by lia) (by lia) (pw_le (c:=d) (by lia) dp) y.1 y.2 f7 (((S3.trans s5).nw I).trans s7)⟩
  rcases(show r2=0\/r2=1\/r2=2\/r2=3\/r2=4\/r2=5\/r2=6 by lia)with rfl|rfl|rfl|rfl|rfl|rfl|rfl
  ·exact⟨2,300,rfl,by decide,by decide,Ag (j:=0) rfl,by decide,by decide,by decide⟩
  ·exact⟨3,17,rfl,by decide,by decide,Ag (j:=1) rfl,by decide,by decide,by decide⟩
  ·exact⟨4,6,rfl,by decide,by decide,Ag (j:=2) rfl,by decide,by decide,by decide⟩
  ·exact⟨5,4,rfl,by decide,by decide,Ag (j:=3) rfl,by decide,by decide,by decide⟩
  ·exact⟨6,3,rfl,by decide,by decide,Ag (j:=4) rfl,by decide,by decide,by decide⟩
  ·exact⟨7,2,rfl,by decide,by decide,Ag (j:=5) rfl,by decide,by decide,by decide⟩
  ·exact⟨8,2,rfl,by decide,by decide,Ag (j:=6) rfl,by decide,by decide,by decide⟩
noncomputable def nz  : List Str:=["a", "ab", "b", "ba", "abc", "z", "n", "at"]
def wS  : ∀x∈nz,Nm x:=by
 have h:∀x∈nz,x.length<=8/\∀c∈x.cps.toList,c<128:=by decide +kernel
 exact λx f=>⟨(h x f).1,(h x f).2⟩
def mY   (hf:Fd G f c)(h1:1<=P)(h2:P<=300)(w0:0<W)(w8:W<=8)(m0:1<=m)(m1:m<=24)
  (q:∀(xs:List Str) (ss:List Ac) j ,xs.length=W->(∀x∈xs,Nm x)->ss≠[]->ss.length<=24->(∀s∈ss,Dl W s)->Fd j f c->Sm f G j->Q (Tb xs ss) j):Ob T (k+4) aJ [.loc f,.int W,.int m,.int P] G Q X:=by
 refine⟨rfl,?_⟩;simp! only[vI,td,Zb];refine⟨by lia,by lia,by rw[yf];exact Yb w8 (by decide),?_⟩
 refine jg (λi R j=>Fd j f c/\Sm f G j/\∃bs:List Int,R=bs.map .int/\bs.length=i) ?_ ?_ ⟨hf,Sm.refl,[],rfl,rfl⟩
 ·rintro R G1 ⟨f1,s1,bs,rfl,hl⟩;rw[yf]at hl;refine⟨trivial,λpb G2 n2=>?_⟩;simp! only[];refine⟨by decide,λZ G3 J=>?_⟩
  have f2:=f1.new n2;have Y:=f1.away n2;have h5:=f2.away J;have s2:=s1.nw n2;refine Ye (f2.new J) (by lia) (by lia) λm' G4 a4 b4 f4 s4=>?_
  have xa:Z≠pb:=Li n2.at J.no;simp! only[];refine⟨by lia,by lia,?_⟩
  refine Ff (λi ς j=>∃(ss:List Ac) (o6 o7 o8 o9:Option U),ς=[ma (.loc f),ma (.int W),ma (.int m),ma (.int P),ma (.loc pb),ma (.loc Z),o6,o7,o8,o9]/\Fd j f c/\Sm f G j/\j pb=ma (.lst (bs.map .int))/\j Z=ma (.lst (ss.map Ac.u))/\ss.length=i/\∀s∈ss,Dl W s) ?_ ?_
   ⟨[],_,_,_,_,rfl,f4,(s2.nw J).trans s4,s4 _ _ Y.1 (J.sa _ _ n2.at),s4 _ _ h5.1 J.at,rfl,λ_ h=>(nomatch h)⟩
  ·rintro ς G5 ⟨ss,o6,o7,o8,o9,rfl,f5,s5,gb,g5,l5,o5⟩;rw[yf]at l5;refine⟨trivial,?_⟩;simp! only[uJ,it_l g5];refine⟨by decide,by decide,?_⟩
   have e:cut [U.str "a",.str "ab",.str "b",.str "ba",.str "abc",.str "z",.str "n",.str "at"] Aa (ma (W:Int))=(nz.take W).map .str:=by
    rw[Do,gC];rfl
   rw[e];exact q _ ss _ (by rw[Yh];exact jw w8) (λx hx=>wS x (Mr hx)) (λz=>by rw[z]at l5;simp at l5;lia) (by lia) o5 f5 s5
  ·rintro i x ς G5 K hx ⟨ss,o6,o7,o8,o9,rfl,f5,s5,gb,g5,l5,o5⟩ hk;obtain⟨hi,rfl⟩:=Fh hx;refine⟨trivial,?_⟩;simp! only[];refine Ye f5 (by decide) (by decide) λI G6 a6 b6 f6 s6=>?_
   refine BA f6 h1 (by lia) λlo G7 a7 b7 f7 s7=>?_
   refine Ye f7 (by lia) (by lia) λr8 G8 a8 b8 f8 s8=>?_
   have S8:=s6.trans (s7.trans s8);have g8:=S8 _ _ h5.1 g5;simp! only[WJ];refine⟨by lia,?_⟩
   obtain⟨t,ht⟩:∃t:Nat,((i:Int)+1+r8)%(W:Int)=t:=⟨_,(Vi (Xh _ (by lia))).choose_spec⟩
   have ya:(t:Int)<W:=by rw[<- ht];exact Ai _ (by lia)
   obtain⟨o,ho⟩:∃o:Nat,(i:Int)%(W:Int)=o:=⟨_,(Vi (Xh _ (by lia))).choose_spec⟩
   have va:(o:Int)<W:=by rw[<- ho];exact Ai _ (by lia)
   rw[ht];have add:∀(s:Ac) (y:Gp) (o8':Option U),Dl W s->Fd y f c->Sm f G8 y->Of .append (.loc Z) [s.u] y λ_ G1=>K [ma (.loc f),ma (.int W),ma (.int m),ma (.int P),ma (.loc pb),ma (.loc Z),ma (.int i),ma (.int I),ma (.int lo),ma (.int t)] G1:=λs y _ os O F=>by
    have g9:=F _ _ h5.1 g8;rw[Sh g9];refine⟨by rw[Hb];exact Lf (show ss.length<25 by lia) (by decide),λGa pa=>?_⟩
    refine hk _ _ ⟨ss++[s],_,_,_,_,rfl,O.off h5 pa,Sm.wr s2 J.no (s5.trans (S8.trans F)) pa,pa.sm _ _ (Ta xa) (F _ _ Y.1 (S8 _ _ Y.1 gb)),by rw[ie];exact pa.at,by simp[l5],λz hz=>?_⟩
    rcases ee.mp hz with z'|z'
    ·exact o5 z z'
    ·rw[Nc.mp z'];exact os
   by_cases c1:I<3
   ·rw[if_pos (by simpa using c1)]
    simp! only[dh g8];exact kZ f8 h1 (by lia) (S8 _ _ Y.1 gb) Y.1 hl w0 w8 λs y os za O F=>add s y Aa ⟨os,za⟩ O F
   ·rw[if_neg (by simpa using c1)]
    simp! only[];by_cases c2:I<5
    ·rw[if_pos (by simpa using c2)]
     simp! only[dh g8];refine⟨by lia,by decide,by decide,Ye f8 (by lia) (by lia) λr9 y a9 b9 O F=>⟨by decide,?_⟩⟩
     rw[ho];exact add ⟨"span",o,t,lo,lo+r9⟩ y Aa ⟨⟨.inr rfl,by dsimp only;lia,by dsimp only;lia,by dsimp only;lia,by dsimp only;lia⟩,λ_=>by dsimp only;lia⟩ O F
    ·rw[if_neg (by simpa using c2)]
     simp! only[dh g8];refine⟨by lia,BA f8 h1 (by lia) λja y a9 b9 O F=>⟨by decide,?_⟩⟩
     rw[ho];exact add ⟨"apart",t,o,lo,ja⟩ y Aa ⟨⟨.inl rfl,by dsimp only;lia,by dsimp only;lia,by dsimp only;lia,by dsimp only;lia⟩,λz=>absurd (show("apart" : Str) = "span" from z) (by decide +kernel)⟩ O F
 ·rintro i x R G1 K hx ⟨f1,s1,bs,rfl,hl⟩ hk _;exact⟨trivial,Ye f1 (by lia) (by lia) λr G2 a2 b2 f2 s2=>hk _ _ ⟨f2,s1.trans s2,bs++[r],by simp,by simp[hl]⟩⟩
def xS  (hf:Fd G f c)(h1:1<=P)(h2:P<=300)(sl:ss.length<=24)(so:∀s∈ss,Dl W s)(q:∀(j:List Ac) I ,j.length=ss.length->(∀s∈j,Dl W s)->Fd I f c->Sm f G I->Q (Tb xs j) I):Ob T (k+2) MH [.loc f,Tb xs ss,.int P] G Q X:=by
 refine⟨rfl,?_⟩;simp! only[WH,td,Zb];refine⟨by decide,λp G1 O=>?_⟩
 have hp:=hf.away O;simp! only[Tb,ix_t (Af _ _ _)];refine Ff (λi ς I=>∃(j:List Ac) (o4 o5 o6 o7 o8 o9:Option U),ς=[ma (.loc f),ma (Tb xs ss),ma (.int P),ma (.loc p),o4,o5,o6,o7,o8,o9]/\Fd I f c/\Sm f G I/\I p=ma (.lst (j.map Ac.u))/\j.length=i/\∀s∈j,Dl W s) ?_ ?_ ⟨[],_,_,_,_,_,_,rfl,hf.new O,O.sa.sm,O.at,rfl,λ_ h=>(nomatch h)⟩
 ·rintro ς G2 ⟨j,o4,o5,o6,o7,o8,o9,rfl,f2,s2,g2,l2,k2⟩;rw[Hb]at l2;refine⟨trivial,?_⟩;simp! only[Tb,ix_t (Th _ _),it_l g2];exact⟨by decide,q j _ l2 k2 f2 s2⟩
 ·rintro i x ς G2 K J ⟨j,o4,o5,o6,o7,o8,o9,rfl,f2,s2,g2,l2,k2⟩ hk;rw[md]at J;cases Y:ss[i]? with
  |none=>rw[Y]at J;cases J
  |some s=>
   rw[Y]at J;have J:=(Hd J).symm;subst J;have il:i<24:=Lf (Ba.mp Y).1 sl;have F:=so s (Vc Y);have w:=F.ok.w;have lo:=F.ok.lo;have hi:=F.ok.hi;refine⟨trivial,?_⟩;rw[show s.u=.tup [.str s.w,.int s.o,.int s.t,.int s.lo,.int s.hi]from rfl];simp! only[];refine⟨trivial,?_⟩;have add:∀(y:Int) (R:Gp),Dl W ⟨s.w,s.o,s.t,s.lo+y,s.hi+y⟩->Fd R f c->Sm f G2 R->Of .append (.loc p) [.tup [.str s.w,.int s.o,.int s.t,.int (s.lo+y),.int (s.hi+y)]] R λ_ G1=>K [ma (.loc f),ma (Tb xs ss),ma (.int P),ma (.loc p),ma (.str s.w),ma (.int s.o),ma (.int s.t),ma (.int s.lo),ma (.int s.hi),ma (.int y)] G1:=λy R Z f9 s9=>by
    have g9:=s9 _ _ hp.1 g2;rw[Sh g9];refine⟨by rw[Hb];exact Lf (show j.length<25 by lia) (by decide),λGa pa=>?_⟩
    refine hk _ _ ⟨j++[⟨s.w,s.o,s.t,s.lo+y,s.hi+y⟩],_,_,_,_,_,_,rfl,f9.off hp pa,Sm.wr Sm.refl O.no (s2.trans s9) pa,by rw[ie];exact pa.at,by simp[l2],λz hz=>?_⟩
    rcases ee.mp hz with z'|z'
    ·exact k2 z z'
    ·rw[Nc.mp z'];exact Z
   by_cases c1:s.w = "span"
   ·rw[if_pos (by simpa using c1)]
    have d0:0<=(9999-s.hi)/P:=Int.ediv_nonneg (by lia) (by lia)
    have d1:P*((9999-s.hi)/P)<=9999-s.hi:=Int.mul_ediv_self_le (by lia)
    have d2:(9999-s.hi)/P<=9999:=by
     have:=RM h1 d0
     lia
    simp! only[];refine⟨by lia,by lia,Ye f2 (by lia) (by lia) λr G3 a3 b3 f3 s3=>⟨.inl (by constructor<;>lia),?_⟩⟩
    have g3:=s3 _ _ hp.1 g2;have e0:0<=P*r:=Int.mul_nonneg (by lia) a3
    have e1:P*r<=P*((9999-s.hi)/P):=Int.mul_le_mul_of_nonneg_left (by lia) (by lia)
    have le:=F.le c1;simp! only[dh g3];exact⟨by decide,add (P*r) G3 ⟨⟨w,F.ok.o,F.ok.t,by dsimp only;lia,by dsimp only;lia⟩,λ_=>by dsimp only;lia⟩ f3 s3⟩
   ·rw[if_neg (by simpa using c1)]
    simp! only[dh g2];exact⟨by decide,add 0 G2 ⟨⟨w,F.ok.o,F.ok.t,by dsimp only;lia,by dsimp only;lia⟩,λz=>absurd z c1⟩ f2 Sm.refl⟩
def A1  (hf:Fd G f c)(q:∀(xs:List Str) (ss:List Ac) (P:Int) G' ,1<=xs.length->xs.length<=8->1<=P->P<=300->P.toNat ^ (xs.length-1)<=300->(∀x∈xs,Nm x)->ss≠[]->ss.length<=24->(∀s∈ss,Dl xs.length s)->Fd G' f c->Sm f G G'->Q (.tup [Tb xs ss,.int P]) G'):Ob T (k+5) eB [.loc f] G Q X:=by
 refine⟨rfl,?_⟩;simp! only[aK,td,Zb];refine lY hf λW P m G1 R J y j pw m1 m2 f1 s1=>?_;simp! only[];refine⟨trivial,mY f1 y j (by lia) J m1 m2 λxs ss G2 xl nm Y sl so f2 s2=>?_⟩
 subst xl;simp! only[];refine Ye f2 (by decide) (by decide) λr G3 a3 b3 O s3=>?_
 simp! only[];by_cases Z:r=0
 ·rw[if_pos (by simpa using Z)]
  simp! only[];refine xS (xs:=xs) O y j sl so λI G4 l4 F f4 s4=>⟨by decide,?_⟩
  exact q xs I P _ R J y j pw nm (λz=>by rw[z]at l4;exact Y (Pb.mp l4.symm)) (by lia) F f4 (s1.trans (s2.trans (s3.trans s4)))
 ·rw[if_neg (by simpa using Z)]
  simp! only[];exact⟨by decide,q xs ss P _ R J y j pw nm Y sl so O (s1.trans (s2.trans s3))⟩


def j1   (Y:Ad xs.length (Nd ss) ks)(R:ks.Pairwise Sl)(O:0<xs.length)(w8:xs.length<=8)(so:∀s∈ss,s.Ok xs.length)(sl:ss.length<=24)(h1:1<=P)(h2:P<=300)(pw:P.toNat ^ (xs.length-1)<=300)
  (q:∀p z ,Sa G z->G p=Aa->z p=ma (.lst (((Oe (ks.map (·.headD 0)) P.toNat xs.length).filter (jf P ss)).map Kc))->Q (.loc p) z):Ob T (k+6) kJ [Tb xs ss,.int P] G Q X:=by
 refine⟨rfl,?_⟩;simp! only[pI,td,Zb];refine⟨by decide,PH O w8 so sl h1 (by lia) (λZ I=>Yb (Jp (by lia) (by have:=zA I O;lia)) pw) λG1 s1=>XU O w8 so sl h1 h2 pw λZ p2 G2 I hs s2 F=>?_⟩
 have ek:Z=ks:=I.uniq Y id id hs R;subst ek;have h0:=ou I O;generalize za:Z.map (·.headD 0)=zs at h0 q F;have P1:1<=P.toNat:=by lia
 have r3:=qv h0 P1 pw (Mb _);rw[it_l F];refine⟨by rw[Hb];exact Yb r3 (by decide),?_⟩
 refine jg (λi j z=>z=G2/\j=(((Oe zs P.toNat xs.length).take i).filter (jf P ss)).map Kc) ?_ ?_ ⟨rfl,rfl⟩
 ·rintro j G6 ⟨rfl,rfl⟩;rw[Hb,Bf];refine⟨by unfold Rc;rw[F],λp7 G7 n7=>?_⟩
  exact q p7 G7 ((s1.trans s2).trans n7.sa) (Nj (s1.trans s2) n7.no) n7.at
 ·rintro i x j G6 K6 y ⟨rfl,rfl⟩ hk hn;rw[md]at y;cases J:(Oe zs P.toNat xs.length)[i]? with
  |none=>rw[J]at y;cases y
  |some b=>
   rw[J]at y;have y:=(Hd y).symm;subst y;have bl:=(Mj.mp (Vc J)).1;have ft:=GH (f:=jf P ss) J;refine⟨by unfold Rc;rw[F],?_⟩
   simp! only[];refine yY (kk:=λxa=>if xa=ua then K6 (ma (Kc b)) G6 else K6 Aa G6) (by lia) bl so sl λu hu=>?_
   rw[hu];cases c:jf P ss b with
   |true=>
    rw[c,if_pos rfl]at ft;rw[if_pos rfl];exact hk _ _ ⟨rfl,by rw[ft,ie];rfl⟩
   |false=>
    rw[c,if_neg (by decide),xi]at ft
    rw[if_neg (by decide)]
    exact hn _ ⟨rfl,by rw[ft]⟩


def lF    (f:ss[i]?=ma s)(F:1<=P):Kw ss P (winO P ss) b i↔s.lo+(bt b s.t-bt b s.o-s.lo)%P<=endZ P s:=by
 have q:(winO P ss)[i]?=ma (s.lo,endZ P s):=by unfold winO;rw[md,f];rfl
 have I:=CC (bt b s.t-bt b s.o-s.lo) P;have J:=Xh (bt b s.t-bt b s.o-s.lo) (show P≠0 by lia)
 unfold Kw;rw[getW q,eS_1 f,eD_1 f];dsimp only;constructor
 ·rintro⟨l,y,O,d⟩;have e:(l-s.lo)%P=(bt b s.t-bt b s.o-s.lo)%P:=by
   refine Int.emod_eq_emod_iff_emod_sub_eq_zero.mpr (Int.emod_eq_zero_of_dvd ?_);rw[show l-s.lo-(bt b s.t-bt b s.o-s.lo)=bt b s.o+l-bt b s.t by lia]
   exact d
  have j:=CC (l-s.lo) P;have z:=Int.mul_nonneg (show 0<=P by lia) (Int.ediv_nonneg (show 0<=l-s.lo by lia) (show 0<=P by lia))
  rw[e]at j
  lia
 ·intro h;refine⟨_,by lia,h,-((bt b s.t-bt b s.o-s.lo)/P),?_⟩
  rw[Int.mul_neg];lia
def eH  (q:1<=P):jf P ss b=ua↔∀i,i<ss.length->Kw ss P (winO P ss) b i:=by
 have one:∀s:Ac,Rh P b s=ua↔s.lo+(bt b s.t-bt b s.o-s.lo)%P<=endZ P s:=λs=>by
  have z:=Ai (b.getD s.t 0-b.getD s.o 0-s.lo) (show 0<P by lia)
  unfold Rh gapZ topZ endZ bt;rw[decide_eq_true_eq,Si,Si];by_cases c:s.w = "span"
  ·rw[if_pos c];constructor
   ·intro h;split<;>lia
   ·intro h;split at h<;>lia
  ·rw[if_neg c];constructor
   ·intro h;split<;>lia
   ·intro h;split at h<;>lia
 unfold jf;rw[Mi];constructor
 ·intro h i f;have j:ss[i]?=ma ss[i]:=Cc f;exact(lF j q).mpr ((one _).mp (h _ (zi f)))
 ·intro h s y;obtain⟨i,f,e⟩:=Jg y;have j:ss[i]?=ma s:=by rw[Cc f,e]
  exact(one s).mpr ((lF j q).mp (h i f))

theorem KH  : ∀{a b:List Int},a.Pairwise (·< ·)->b.Pairwise (·< ·)->(∀z,z∈a↔z∈b)->a=b
 |[],[],_,_,_=>rfl
 |[],y::b,_,_,h=>absurd ((h y).mpr Re) Rg
 |x::a,[],_,_,h=>absurd ((h x).mp Re) Rg
 |x::a,y::b,h1,h2,h=>by
  obtain⟨j,I⟩:=db.mp h1;obtain⟨q,F⟩:=db.mp h2;have e:x=y:=by
   rcases Sc.mp ((h x).mp Re)with e|e
   ·exact e
   ·rcases Sc.mp ((h y).mpr Re)with e'|e'
    ·exact e'.symm
    ·have:=q x e;have:=j y e';lia
  subst e;rw[KH I F λz=>⟨λf=>?_,λf=>?_⟩]
  ·rcases Sc.mp ((h z).mp (Jd _ f))with e|e
   ·have:=j z f;lia
   ·exact e
  ·rcases Sc.mp ((h z).mpr (Jd _ f))with e|e
   ·have:=q z f;lia
   ·exact e
def gZ     (z:1<=P)(j:s.lo<=l)(R:l<=s.lo+P-1)(I:l<=topZ P s):Rh P b ⟨"span",s.o,s.t,l,l⟩=ua↔Rh P b s=ua/\s.lo+gapZ P b s=l:=by
 have t:topZ P ⟨"span",s.o,s.t,l,l⟩=l:=by unfold topZ;rw[if_pos rfl]
 unfold Rh;rw[t,decide_eq_true_iff,decide_eq_true_iff];unfold gapZ;dsimp only;generalize b.getD s.t 0-b.getD s.o 0=d;have f:0<P:=by lia
 have F:=Xh (d-l) (show P≠0 by lia)
 have O:=Xh (d-s.lo) (show P≠0 by lia)
 have J:=Ai (d-s.lo) f;constructor
 ·intro h;have h0:(d-l)%P=0:=by lia
  obtain⟨q,y⟩:=Int.dvd_of_emod_eq_zero h0;have e:(d-s.lo)%P=l-s.lo:=by
   rw[show d-s.lo=(l-s.lo)+P*q by lia,zM]
   exact Int.emod_eq_of_lt (by lia) (by lia)
  lia
 ·rintro⟨_,h⟩;have e:d-l=P*((d-s.lo)/P):=by have:=Int.mul_ediv_add_emod (d-s.lo) P;lia
  rw[e,Int.mul_emod_right]
  lia
def I0       (hs:ss[i]?=ma s)(J:1<=P)(I:s.lo<=l)(Y:l<=s.lo+P-1)(R:l<=topZ P s) :
  jf P (ss.set i ⟨"span",s.o,s.t,l,l⟩) b=ua↔jf P ss b=ua/\s.lo+gapZ P b s=l:=by
 have F:=(Ba.mp hs).1;unfold jf;rw[Mi,Mi];have q:=gZ (b:=b) J I Y R;constructor
 ·intro h;have z:=h ⟨"span",s.o,s.t,l,l⟩ (Vc (i:=i) (by rw[wj F]))
  refine⟨λx y=>?_,(q.mp z).2⟩;obtain⟨j,f⟩:=zl y;by_cases e:i=j
  ·subst e;rw[hs]at f;cases f;exact(q.mp z).1
  ·exact h x (Vc (i:=j) (by rw[Xi e];exact f))
 ·rintro⟨h,O⟩ x y;obtain⟨j,f⟩:=zl y;by_cases e:i=j
  ·subst e;rw[wj F]at f;cases f;exact q.mpr ⟨h s (Vc hs),O⟩
  ·rw[Xi e]at f;exact h x (Vc f)
def ZV      (hs:ss[i]?=ma s):Nd (ss.set i ⟨"span",s.o,s.t,l,l⟩)=Nd ss:=by
 unfold Nd;rw[List.map_set];refine LC λj=>?_;by_cases e:i=j
 ·subst e;have f:=(Ba.mp hs).1;rw[wj (by rw[Hb];exact f),md,hs];rfl
 ·rw[Xi e]

abbrev Bh  (xs:List Str)(ss:List Ac)(f:List (List Int))(P:Int):List (List Int):=(Oe (f.map (·.headD 0)) P.toNat xs.length).filter (jf P ss)

def KF   (f:Ad xs.length (Nd ss) ks)(j:0<xs.length)(q:1<=P)(pw:P.toNat ^ (xs.length-1)<=300):(Bh xs ss ks P).length<=300:=
 Yb (List.length_filter_le _ _) (qv (ou f j) (by lia) pw (Mb _))
def R1   {i:Nat}(I:Ad xs.length (Nd ss) ks)(Y:ks.Pairwise Sl)(w0:0<xs.length)(w8:xs.length<=8)(so:∀s∈ss,s.Ok xs.length)(sl:ss.length<=24)(h1:1<=P)(h2:P<=300)(pw:P.toNat ^ (xs.length-1)<=300)(hs:ss[i]?=ma s)
  (q:∀p (J:List Int) F ,Sa G F->G p=Aa->F p=ma (.lst (J.map .int))->J.Pairwise (·< ·)->(∀z,z∈J↔∃b∈Bh xs ss ks P,z=s.lo+gapZ P b s)->Q (.loc p) F):Ob T (k+7) fK [Tb xs ss,.int P,.int i] G Q X:=by
 refine⟨rfl,?_⟩;simp! only[bK,td,Zb];refine j1 (k:=k) I Y w0 w8 so sl h1 h2 pw λp1 G1 s1 n1 Z=>?_;have r3:=KF I w0 h1 pw;rw[it_l Z];refine⟨by rw[Hb];exact Yb r3 (by decide),?_⟩
 refine jg (λj f F=>F=G1/\f=(((Bh xs ss ks P).take j).map λb=>s.lo+gapZ P b s).map .int) ?_ ?_ ⟨rfl,rfl⟩
 ·rintro f G2 ⟨rfl,rfl⟩;rw[Hb,Bf];refine⟨by unfold Rc;rw[Z],λp3 G3 n3=>?_⟩
  unfold Bo;refine⟨(Bh xs ss ks P).map λb=>s.lo+gapZ P b s,n3.at,?_,?_,λJ hm hz p4 G4 n4=>?_⟩
  ·rw[Hb];exact Ug r3 (by decide)
  ·rw[Hb];exact Ug r3 (by decide)
  refine q p4 J G4 (s1.trans (n3.sa.trans n4.sa)) (Nj (s1.trans n3.sa) n4.no) n4.at hm λz=>?_;rw[hz,Uc];exact⟨λ⟨b,R,e⟩=>⟨b,R,e.symm⟩,λ⟨b,R,e⟩=>⟨b,R,e.symm⟩⟩
 ·rintro j x f G2 K2 y ⟨rfl,rfl⟩ hk hn;rw[md]at y;cases O:(Bh xs ss ks P)[j]? with
  |none=>rw[O]at y;cases y
  |some b=>
   rw[O]at y;have y:=(Hd y).symm;subst y;have bl:=(Mj.mp (Qf.mp (Vc O)).1).1;refine⟨by unfold Rc;rw[Z],?_⟩
   simp! only[];refine QJ (k:=k+5) (xs:=xs) (by lia) bl (so _ (Vc hs)) hs ?_
   exact hk _ _ ⟨rfl,by rw[Rf,O];simp⟩


def QZ  {i: Nat}(hs:ss[i]?=ma s)(F:ss.length<=24)(q:Q (Tb xs (ss.set i ⟨"span",s.o,s.t,l,l⟩)) G):Ob T (k+2) LI [Tb xs ss,.int i,.int l] G Q X:=by
 have z:=(Ba.mp hs).1;refine⟨rfl,?_⟩;simp! only[EI,td,Zb,Tb,ix_t (Af _ _ _),ix_t (ng hs),Ac.u];refine⟨trivial,by decide,?_⟩
 refine⟨rfl,?_⟩;simp! only[qH,td,Zb];have j:cut (ss.map Ac.u) Aa (ma (i:Int))=(ss.take i).map Ac.u:=by rw[Do,gC]
 have f:cut (ss.map Ac.u) (ma ((i:Int)+1)) Aa=(ss.drop (i+1)).map Ac.u:=by
  have:=UG (ss.map Ac.u) (i+1);rw[List.map_drop];exact this
 rw[j,f];refine⟨trivial,by decide,Yb (show _<=30 by simp;lia) (by decide),Yb (show _<=60 by simp;lia) (by decide),by decide,?_⟩
 have y:(ss.take i).map Ac.u++[U.tup [.str "span",.int s.o,.int s.t,.int l,.int l]]++(ss.drop (i+1)).map Ac.u=(ss.set i ⟨"span",s.o,s.t,l,l⟩).map Ac.u:=by
  rw[HM,if_pos z];simp[Ac.u]
 show Q (.tup [_,.tup ((ss.take i).map Ac.u++[U.tup [.str "span",.int s.o,.int s.t,.int l,.int l]]++(ss.drop (i+1)).map Ac.u)]) G;rw[y];exact q

def BV      (g:G p=ma (.lst us)):yo [.loc p,.ty "list"] G Q=Q (.bl ua) G:=by
 unfold yo isiU bq;dsimp only;rw[g];rfl
def SD       (g:G a=ma (.dK kvs)):nh (.int z) (.loc a) G k=k (dGet kvs (.inl z)).isSome:=by unfold nh;dsimp only;rw[g];rfl
def QP        (g:G a=ma (.dK kvs))(h:dGet kvs (.inl z)=ma u):qf (.loc a) (.int z) G Q=Q u G:=by
 unfold qf;dsimp only;rw[g];dsimp only;rw[show kU (.int z)=ma (.inl z)from rfl];dsimp only;rw[h]
def BW  {ns:List Int}(f:ns.length<=600)(h:∀z∈ns,-100000<=z/\z<=100000):∃z ,∀G p Q ,G p=ma (.lst (ns.map .int))->Q (.str z) G->zk [.loc p] G Q:=
 ⟨_,λG p Q g q=>⟨.list (ns.map .int),.lst (by unfold Rc;rw[g]) (Bq ns),(Fits.lstLe (n:=1921) (k:=0) (m:=600) (N:=16000000) (by rw[Hb];exact f) (λd hd=>by
  obtain⟨z,j,rfl⟩:=Uc.mp hd;have:=h z j;exact Fits.int (Ug (show z.natAbs<=100000 by lia) (Lf (by decide:100000<2 ^ 17) (Jp (by decide) (by decide))))) (by decide)).mono (Mb _) (by decide),q⟩⟩
def RF   : (Ib a:uc)=Ib b↔a=b:=⟨λh=>by injection h,λh=>by rw[h]⟩
def Ks  (kvs:List (uc×U))(ns:List Int):Prop:=kvs.map (·.1)=ns.map (λx=>(Ib x:uc))
def Ks.mem    (h:Ks kvs ns):(∃j∈kvs,j.1=Ib z)↔z∈ns:=by
 have:(Ib z:uc)∈kvs.map (·.1)↔(Ib z:uc)∈ns.map (λx=>(Ib x:uc)):=by rw[h]
 rw[Uc,Uc]at this;refine Iff.trans ?_ (this.trans ?_)
 ·exact Hx
 ·exact⟨λ⟨a,f,e⟩=>RF.mp e ▸ f,λq=>⟨z,q,rfl⟩⟩
def Ks.get    (h:Ks kvs ns):(dGet kvs (.inl z)).isSome=decide (z∈ns):=by
 rw[Pi,decide_eq_true_iff,<- h.mem];unfold dGet;rw[Nw,List.find?_isSome];simp
def Ks.len    (h:Ks kvs ns):kvs.length=ns.length:=by
 have:=congrArg mn h;simpa using this
def Ks.put    (h:Ks kvs ns) z v:Ks (dPut kvs (.inl z) v) (if z∈ns then ns else ns++[z]):=by
 unfold dPut Ks;have e:(kvs.any λf=>decide (f.1=(Ib z:uc)))=decide (z∈ns):=by
  rw[Pi,decide_eq_true_iff,<- h.mem,zr];simp
 rw[e];by_cases c:z∈ns
 ·rw[if_pos (decide_eq_true c),if_pos c,dg,<- h];refine Wr λf _=>?_;dsimp only[Function.comp];split
  ·rfl
  ·rfl
 ·rw[if_neg (by simpa using c),if_neg c,ie,ie,h];rfl
structure Hl (xs:List Str)(ss:List Ac)(P:Int)(ks:List (List Int)):Prop where
 w0:0<xs.length
 w8:xs.length<=8
 nm:∀x∈xs,Nm x
 sl:ss.length<=24
 so:∀s∈ss,s.Ok xs.length
 p1:1<=P
 p2:P<=300
 pw:P.toNat ^ (xs.length-1)<=300
 hP:Ad xs.length (Nd ss) ks
 hS:ks.Pairwise Sl
def Hl.less      (h:Hl xs ss P ks)(x1:1<=x)(f:x<=P):Hl xs ss x ks:=
 ⟨h.w0,h.w8,h.nm,h.sl,h.so,x1,vr f h.p2,Yb (vC (by lia) _) h.pw,h.hP,h.hS⟩
def xj  (f:Ea)(G:Gp)(xs:List Str)(ss:List Ac)(q:List (List Int))(P L:Int)(pt:Ea):Prop:=
 ∃j,pt≠f/\G pt=ma (.dK j)/\∀x,x=P\/x=L->∃p,p≠f/\dGet j (.inl x)=ma (.loc p)/\G p=ma (.lst ((Bh xs ss q x).map Kc))
def xj.sm        (h:xj f G xs ss ks P L pt)(s:Sm f G G'):xj f G' xs ss ks P L pt:=
 let ⟨j,n,a,b⟩:=h;⟨j,n,s _ _ n a,λx q=>let ⟨p,m,c,d⟩:=b x q;⟨p,m,c,s _ _ m d⟩⟩
def xj.sa        (h:xj f G xs ss ks P L pt)(s:Sa G G'):xj f G' xs ss ks P L pt:=h.sm s.sm
def DueR  (G:Gp)(pd:Ea)(x:Int)(s:Ac)(f:List (List Int)):Prop:=
 ∃j q,G pd=ma (.dK j)/\Ks j q/\q.Nodup/\q.length<=f.length/\∀z,z∈q↔∃b∈f,z=s.lo+gapZ x b s
def DueR.sa   {pd:Ea}(h:DueR G pd x s f)(e:Sa G G'):DueR G' pd x s f:=
 let ⟨j,q,a,b⟩:=h;⟨j,q,e _ _ a,b⟩
abbrev Kh  (a f:Ea)(j:Option U)(xs:List Str)(ss:List Ac)(P:Int)(z:Str)(L:Int)(pt:Ea)(fi:Int)(i:Nat)(s:Ac)(o15 o16 o17 o18 o19 o20:Option U):Sg:=
 [ma (.loc a),ma (.loc f),j,ma (Tb xs ss),ma (.int P),ma (.str z),ma (.int L),ma (.loc pt),ma (.int fi),ma (.int i),ma (.str s.w),ma (.int s.o),ma (.int s.t),ma (.int s.lo),ma (.int s.hi),o15,o16,o17,o18,o19,o20]

def FA  {G0: Gp}{X: KX}(h:Hl xs ss x ks)(hx:x=P\/x=L)(hs:ss[i]?=ma s)(tm:xj f G xs ss ks P L pt)(sa:Sa G0 G)
  (kk:∀pd o17 o18 F,G pd=Aa->Sa G0 F->DueR F pd x s (Bh xs ss ks x)->K (Kh a f u2 xs ss P z0 L pt fi i s (ma (.loc pd)) (ma (.int x)) o17 o18 o19 o20) F) :
  Ze T.gs (Ob T (k+90)) (.cons (.asg (.n 15) (.dic .nil)) oB) ⟨K,Q,λx _ F=>X x F⟩ (Kh a f u2 xs ss P z0 L pt fi i s o15 (ma (.int x)) o17 o18 o19 o20) G:=by
 have p1:=h.p1;have p2:=h.p2;have os:=h.so _ (Vc hs);have r3:=KF (xs:=xs) h.hP h.w0 p1 h.pw;unfold Kh;simp! only[];refine⟨by decide,λpd G1 O=>?_⟩
 simp! only[oB];obtain⟨ja,_,gt,tx⟩:=tm.sa O.sa;obtain⟨p,_,e1,e2⟩:=tx x hx;rw[QP gt e1,it_l e2];refine Ff (λj ς F=>∃o17,ς=Kh a f u2 xs ss P z0 L pt fi i s (ma (.loc pd)) (ma (.int x)) o17 o18 o19 o20/\Sa G F/\F p=ma (.lst ((Bh xs ss ks x).map Kc))/\DueR F pd x s ((Bh xs ss ks x).take j)) ?_ ?_ ⟨_,rfl,O.sa,e2,[],[],O.at,rfl,.nil,Mf _,λz=>by simp⟩
 ·rintro ς G2 ⟨o17,rfl,s2,e3,du⟩;rw[Hb,Bf]at du;refine⟨by unfold Rc;rw[e3],?_⟩
  unfold Kh;simp! only[rK];refine R1 (k:=k+83) h.hP h.hS h.w0 h.w8 h.so h.sl p1 p2 h.pw hs λpf Y G3 s3 nf gf hm hz=>?_;have bz:∀z∈Y,-100000<=z/\z<=100000:=λz za=>by
   obtain⟨b,_,e⟩:=(hz z).mp za;have O:=Xh (b.getD s.t 0-b.getD s.o 0-s.lo) (show x≠0 by lia)
   have n2:=Ai (b.getD s.t 0-b.getD s.o 0-s.lo) (show 0<x by lia)
   have:=os.lo;unfold gapZ at e
   lia
  obtain⟨xa,ns,gd,hk,nd,nl,hn⟩:=du.sa s3;have ml:Y.Perm ns:=by
   refine(List.perm_ext_iff_of_nodup ?_ nd).mpr λz=>(hz z).trans (hn z).symm;exact hm.imp λh=>Int.ne_of_lt h
  have Z:Y.length<=300:=by rw[ml.length_eq];lia
  obtain⟨z1,hr⟩:=BW (ns:=Y) (by lia) bz
  simp! only[sK];rw[BV gf];simp! only[];rw[if_neg (by decide)]
  simp! only[];refine hr _ _ _ gf ?_;unfold Lj;dsimp only;rw[gd];refine⟨ns,hk,by unfold Og;lia,λm2 pm pw=>?_⟩
  have em:m2=Y:=KH pw hm λz=>(pm.mem_iff).trans ml.mem_iff.symm;subst em;intro p5 G5 n5;refine hr _ _ _ n5.at (CF ?_);rw[if_neg (by decide)]
  simp! only[tK];have g5:=n5.sa _ _ gf;simp! only[dh g5];rw[Sh g5];refine⟨by rw[Hb];exact Ug Z (by decide),λGa pa=>?_⟩
  have fr:Sa G2 Ga:=λb o e=>pa.sm _ _ (λz=>by rw[z,nf]at e;cases e) (n5.sa _ _ (s3 _ _ e))
  refine kk pd _ _ Ga O.no (sa.trans (s2.trans fr)) (du.sa fr)
 ·rintro j y ς G2 K2 J ⟨o17,rfl,s2,e3,xa,ns,gd,hk,nd,nl,hn⟩ hk2;rw[md]at J;cases R:(Bh xs ss ks x)[j]? with
  |none=>rw[R]at J;cases J
  |some b=>
   rw[R]at J;have J:=(Hd J).symm;subst J;have bl:=(Mj.mp (Qf.mp (Vc R)).1).1;refine⟨by unfold Rc;rw[e3],?_⟩
   unfold Kh;simp! only[Kc,ix_t (Ho (show s.t<b.length by rw[bl];exact os.t)),ix_t (Ho (show s.o<b.length by rw[bl];exact os.o))]
   refine⟨by lia,?_⟩
   rw[WE gd];have nj:ns.length<=300:=by rw[Yh]at nl;lia
   refine⟨by rw[hk.len];exact Ug nj (by decide),λG4 p4=>?_⟩
   have gn:G pd=Aa:=O.no;refine hk2 _ _ ⟨_,rfl,λb o e=>p4.sm _ _ (λz=>by rw[z,gn]at e;cases e) (s2 _ _ e),p4.sm _ _ (λz=>by rw[z,gd]at e3;cases e3) e3,_,_,p4.at,hk.put _ _,?_,?_,λz=>?_⟩
   ·split
    ·exact nd
    ·rename_i c;exact wf.mpr ⟨nd,by simp,λu hu v hv e=>c (by rw[Nc.mp hv]at e;rw[<- e];exact hu)⟩
   ·have l1:((Bh xs ss ks x).take (j+1)).length=((Bh xs ss ks x).take j).length+1:=by rw[Rf,R,bg];rfl
    rw[l1];split
    ·lia
    ·rw[bg,Gw];lia
   ·rw[Rf,R];have e9:∀w:Int,w=s.lo+(b.getD s.t 0-b.getD s.o 0-s.lo)%x↔w=s.lo+gapZ x b s:=λw=>Hx;split
    ·rename_i c;rw[hn];constructor
     ·rintro⟨I,q,e⟩;exact⟨I,by simp[q],e⟩
     ·rintro⟨I,q,e⟩;rcases ee.mp q with q|q
      ·exact⟨I,q,e⟩
      ·have q:I=b:=by simpa using q
       rw[q]at e;exact(hn z).mp (by rw[e];exact c)
    ·rw[ee,hn];constructor
     ·rintro(⟨I,q,e⟩|e)
      ·exact⟨I,by simp[q],e⟩
      ·exact⟨b,by simp,Nc.mp e⟩
     ·rintro⟨I,q,e⟩;rcases ee.mp q with q|q
      ·exact .inl ⟨I,q,e⟩
      ·have q:I=b:=by simpa using q
       rw[q]at e;exact .inr (Nc.mpr e)


def rX       (I:Ad W es ks):∃g ,g.length=W/\Begun P ks b g:=by
 have F:∀x:Nat,∃v,∀p∈ks,(x:Int)∈p->v=(b.getD x 0-b.getD (p.headD 0).toNat 0)%P:=λx=>by
  by_cases h:∃p∈ks,(x:Int)∈p
  ·obtain⟨p,j,q⟩:=h;exact⟨(b.getD x 0-b.getD (p.headD 0).toNat 0)%P,λO z y=>by rw[I.un p j O z _ q y]⟩
  ·exact⟨0,λp j q=>absurd ⟨p,j,q⟩ h⟩
 obtain⟨f,J⟩:∃f:Nat->Int,∀x:Nat,∀p∈ks,(x:Int)∈p->f x=(b.getD x 0-b.getD (p.headD 0).toNat 0)%P:=⟨λx=>Mw (F x),λx=>VC (F x)⟩;refine⟨(Md W).map f,by simp,λp j x q=>?_⟩
 have bd:=I.bd p j x q;obtain⟨n,rfl⟩:=Vi bd.1;have:((Md W).map f).getD n 0=f n:=by simp[Ee,show n<W by lia]
 rw[Si,this];exact J n p j q


def ET  {ss: List Ac}(f:∀s∈ss,s.Ok W)(hs:ss[i]?=ma s)(q:0<=l)(j:l<=9999):∀s'∈ss.set i ⟨"span",s.o,s.t,l,l⟩,s'.Ok W:=λs' h=>by
 have y:=f _ (Vc hs);rcases aD h with h|h
 ·exact f _ h
 ·rw[h];exact⟨.inr rfl,y.o,y.t,⟨q,j⟩,⟨q,j⟩⟩
def NY  {X: KX}{pd: Ea}(h:Hl xs ss P ks)(hs:ss[i]?=ma s)(hf:Fd G f c)(hp:pd≠f)(du:DueR G pd P s (Bh xs ss ks P))
  (kk:∀o18 o19 o20 F,Fd F f c->Sm f G F->K (Kh a f u2 xs ss P Y L pt fi i s (ma (.loc pd)) o16 o17 o18 o19 o20) F) :
  Ze T.gs (Ob T (k+90)) aB ⟨K,Q,λx _ F=>X x F⟩ (Kh a f u2 xs ss P Y L pt fi i s (ma (.loc pd)) o16 o17 o18 o19 o20) G:=by
 have y:=h.p1;have p2:=h.p2;have os:=h.so _ (Vc hs);unfold Kh;simp! only[aB,Tb,ix_t (Af _ _ _),ix_t (ng hs)];refine DF (k:=k+89) ?_;have tz:topZ P s<=9999:=by
  have:=os.hi;unfold topZ;split<;>lia
 generalize ez:(if s.lo+P-1<topZ P s then s.lo+P-1 else topZ P s)=Z
 have z1:Z<=s.lo+P-1/\Z<=topZ P s:=by rw[<- ez];split<;>lia
 have lo:=os.lo;simp! only[qJ];by_cases c0:s.lo<=Z
 ·rw[if_pos (by simpa using c0)]
  simp! only[];refine Ye hf (by lia) (by lia) λr G1 a1 b1 f1 s1=>?_
  simp! only[];refine QZ (k:=k+88) (xs:=xs) hs h.sl ?_;have za:DueR G1 pd P s (Bh xs ss ks P):=let ⟨z,R,e,g⟩:=du;⟨z,R,s1 _ _ hp e,g⟩
  obtain⟨z,R,gd,hk,nd,nl,hn⟩:=za;have kn:=λb:List Int=>I0 (b:=b) hs y (show s.lo<=s.lo+r by lia) (show s.lo+r<=s.lo+P-1 by lia) (show s.lo+r<=topZ P s by lia)
  have es:=ZV (l:=s.lo+r) hs;have I:=ET (l:=s.lo+r) h.so hs (by lia) (by lia)
  have J:(ss.set i ⟨"span",s.o,s.t,s.lo+r,s.lo+r⟩).length<=24:=by rw[jl];exact h.sl
  have j:Ad xs.length (Nd (ss.set i ⟨"span",s.o,s.t,s.lo+r,s.lo+r⟩)) ks:=by rw[es];exact h.hP
  generalize ja:ss.set i ⟨"span",s.o,s.t,s.lo+r,s.lo+r⟩=ss' at kn es I J j;refine nY (k:=k+14) (xs:=xs) I J h.w0 h.w8 y (by lia) (λps hp=>Yb (Jp (by lia) (by have:=zA hp h.w0;lia)) h.pw) (λcs m q s2 hc=>?_) λbs q s2 bl bb hb=>?_
  ·have no:s.lo+r∉R:=λO=>by
    obtain⟨b,hb,e⟩:=(hn _).mp O;have kb:=(kn b).mpr ⟨(Qf.mp hb).2,e.symm⟩;obtain⟨L,hL,hK⟩:=WS (ss:=ss') (show(winO P ss').length=ss'.length from Hb _) ((eH y).mp kb);exact hc.no y (Hb _) L hL hK
   simp! only[ix_t (Th _ _)];rw[SD (s2 _ _ gd),hk.get,decide_eq_false no];have bo:∀{u v:Bool},u=v->cmpU .NotEq (.bl u) (.bl v) q (λb=>if b=ua then Q (.bl Ca) q else K (Kh a f u2 xs ss P Y L pt fi i s (ma (.loc pd)) o16 o17 (ma (.tup [.str "none",cs])) (ma (.int Z)) (ma (.int (s.lo+r)))) q):=λe=>by
    subst e;show(if (!decide (_=_))=ua then _ else _)
    rw[decide_eq_true rfl,if_neg (by decide)]
    exact kk _ _ _ _ (f1.sa s2) (s1.trans s2.sm)
   exact bo (by decide +kernel)
  ·have xa:s.lo+r∈R:=by
    have kp:jf P ss' bs=ua:=(eH y).mpr hb;obtain⟨g,gl,hg⟩:=rX (P:=P) (b:=bs) j;have O:=(sX y j gl hg).mpr kp;have kg:=(kn g).mp (Qf.mp O).2;exact(hn _).mpr ⟨g,Qf.mpr ⟨(Qf.mp O).1,kg.1⟩,kg.2.symm⟩
   simp! only[ix_t (Th _ _)];rw[SD (s2 _ _ gd),hk.get,decide_eq_true xa];have bo:∀{u v:Bool},u=v->cmpU .NotEq (.bl u) (.bl v) q (λb=>if b=ua then Q (.bl Ca) q else K (Kh a f u2 xs ss P Y L pt fi i s (ma (.loc pd)) o16 o17 (ma (.tup [.str "times",Kc bs])) (ma (.int Z)) (ma (.int (s.lo+r)))) q):=λe=>by
    subst e;show(if (!decide (_=_))=ua then _ else _)
    rw[decide_eq_true rfl,if_neg (by decide)]
    exact kk _ _ _ _ (f1.sa s2) (s1.trans s2.sm)
   exact bo (by decide)
 ·rw[if_neg (by simpa using c0)]
  simp! only[];exact kk _ _ _ _ hf Sm.refl
def jX  {X: KX}(h:Hl xs ss P ks)(Y:1<=L/\L<=P)(hs:ss[i]?=ma s)(R:Fd G f c)(y:xj f G xs ss ks P L pt)
  (o10 o11 o12 o13 o14:Option U) (kk:∀o15 o16 o17 o18 o19 o20 j,Fd j f c->Sm f G j->K (Kh a f u2 xs ss P Z L pt fi i s o15 o16 o17 o18 o19 o20) j) :
  Ze T.gs (Ob T (k+90)) ZA ⟨K,Q,λx _ j=>X x j⟩ (Kh a f u2 xs ss P Z L pt fi i s o15 o16 o17 o18 o19 o20) G:=by
 unfold Kh;simp! only[ZA];refine⟨by decide,λpd G1 q=>?_⟩
 simp! only[pJ];have hd:=h.less Y.1 Y.2;refine⟨by decide,trivial,FA (k:=k) (G0:=G1) h (.inl rfl) hs (y.sa q.sa) (λ_ _ e=>e) λza o17 o18 G2 _ s2 d2=>?_⟩
 refine⟨trivial,FA (k:=k) (G0:=G2) hd (.inr rfl) hs ((y.sa q.sa).sa s2) (λ_ _ e=>e) λxa o17 o18 G3 _ F d3=>?_⟩;refine⟨trivial,FA (k:=k) (G0:=G3) h (.inl rfl) hs (((y.sa q.sa).sa s2).sa F) (λ_ _ e=>e) λz o17 o18 G4 I s4 d4=>?_⟩;have J:Sa G G4:=q.sa.trans (s2.trans (F.trans s4));have f4:=R.sa J;have np:z≠f:=λe=>by
  obtain⟨ms,x,l,t,O,_⟩:=(R.sa (q.sa.trans (s2.trans F))).ex;rw[<- e,I]at O;cases O
 refine⟨trivial,NY (k:=k) h hs f4 np d4 λo18 o19 o20 G5 f5 s5=>kk _ _ _ _ _ _ G5 f5 (J.sm.trans s5)⟩

def VG   [DecidableEq κ] kvs (k k':κ)(v:α):dGet (dPut kvs k v) k'=if k'=k then ma v else dGet kvs k':=by
 unfold dGet dPut;by_cases h:(kvs.any λf=>decide (f.1=k))=ua
 ·rw[if_pos h]
  induction kvs with
  |nil=>cases h
  |cons a r F=>
   simp only[Se,sj];by_cases q:a.1=k
   ·rw[if_pos q];by_cases hk:k'=k
    ·subst hk;simp[q]
    ·have O:¬(a.1=k'):=λz=>hk (z.symm.trans q);simp only[O,decide_false,if_neg hk];have:∀r:List (κ×α),(Yv (λf=>decide (f.1=k')) (r.map λf=>if f.1=k then (f.1,v) else f)).map (·.2)=(Yv (λf=>decide (f.1=k')) r).map (·.2):=λr=>by
      induction r with
      |nil=>rfl
      |cons b r F=>
       simp only[Se,sj];by_cases j:b.1=k
       ·rw[if_pos j];have Z:¬(b.1=k'):=λz=>hk (z.symm.trans j);simp only[Z,decide_false];exact F
       ·rw[if_neg j];by_cases y:b.1=k'
        ·simp[y]
        ·simp only[y,decide_false];exact F
     exact this r
   ·rw[if_neg q];have Y:(r.any λf=>decide (f.1=k))=ua:=by simpa[q]using h
    by_cases j:a.1=k'
    ·have:¬(k'=k):=λz=>q (j.trans z);simp[j,this]
    ·simp only[j,decide_false];exact F Y
 ·rw[if_neg h];have R:∀f∈kvs,¬(f.1=k):=λf I e=>h (zr.mpr ⟨f,I,by simpa using e⟩)
  rw[List.find?_append];by_cases hk:k'=k
  ·subst hk;have:Yv (λf=>decide (f.1=k')) kvs=Aa:=List.find?_eq_none.mpr λx J=>by simpa using R x J
   simp[this]
  ·rw[if_neg hk];have:Yv (λf:κ×α=>decide (f.1=k')) [(k,v)]=Aa:=List.find?_eq_none.mpr λx J=>by
    rw[Nc.mp J];simpa using λz=>hk z.symm
   rw[this];simp



def Rest  (a f:Ea)(j:Sg):Prop:=∃o2 o3 o4 o5 o6 o7 o8 o9 o10 o11 o12 o13 o14 o15 o16 o17 o18 o19 o20:Option U,j=[ma (.loc a),ma (.loc f),o2,o3,o4,o5,o6,o7,o8,o9,o10,o11,o12,o13,o14,o15,o16,o17,o18,o19,o20]

def RP  {X: KX}(h:Hl xs ss P ks)(hL:1<=L/\L<=P)(hf:Fd G f c)(tm:xj f G xs ss ks P L pt)(hz:∀G (Q:K1),Q (.str Z) G->zk [Tb xs ss] G Q)
  (kk:∀I q,Rest a f I->Fd q f c->K I q) :
  Ze T.gs (Ob T (k+90)) XA ⟨K,Q,λx _ q=>X x q⟩ [ma (.loc a),ma (.loc f),o2,ma (Tb xs ss),ma (.int P),ma (.str Z),ma (.int L),ma (.loc pt),ma (.int fi),o9,o10,o11,o12,o13,o14,o15,o16,o17,o18,o19,o20] G:=by
 have sl:=h.sl;simp! only[XA,Tb,ix_t (Af _ _ _),Hb];refine⟨by lia,by lia,by rw[yf];exact Yb (show ss.length<=24 from sl) (by decide),?_⟩
 refine jg (λj z q=>q=G/\∃l:List Nat,z=l.map (λn:Nat=>U.int n)/\(∀n∈l,n<ss.length)/\l.length<=j) ?_ ?_ ⟨rfl,[],rfl,λ_ h=>(nomatch h),Mb _⟩
 ·rintro z R ⟨rfl,l,rfl,hl,ll⟩;rw[yf]at ll;refine⟨trivial,λp1 G2 J=>?_⟩;dsimp only;rw[it_l J.at];have f2:=hf.new J;have pf:p1≠f:=(hf.away J).1;refine Ff (λj I q=>∃o9 o10 o11 o12 o13 o14 o15 o16 o17 o18 o19 o20:Option U,I=[ma (.loc a),ma (.loc f),o2,ma (Tb xs ss),ma (.int P),ma (.str Z),ma (.int L),ma (.loc pt),ma (.int fi),o9,o10,o11,o12,o13,o14,o15,o16,o17,o18,o19,o20]/\Fd q f c/\Sm f G2 q) ?_ ?_ ⟨_,_,_,_,_,_,_,_,_,_,_,_,rfl,f2,Sm.refl⟩
  ·rintro I G3 ⟨o9,o10,o11,o12,o13,o14,o15,o16,o17,o18,o19,o20,rfl,f3,s3⟩;refine⟨(by unfold Rc;rw[s3 _ _ pf J.at]),?_⟩
   simp! only[jI];refine hz _ _ (CF ?_);rw[if_neg (by decide)]
   exact kk _ _ ⟨_,_,_,_,_,_,_,_,_,_,_,_,_,_,_,_,_,_,_,rfl⟩ f3
  ·rintro j x I G3 K3 y ⟨o9,o10,o11,o12,o13,o14,o15,o16,o17,o18,o19,o20,rfl,f3,s3⟩ hk;rw[md]at y;cases Y:l[j]? with
   |none=>rw[Y]at y;cases y
   |some i=>
    rw[Y]at y;have y:=(Hd y).symm;subst y;have hi:=hl _ (Vc Y);have hs:ss[i]?=ma ss[i]:=Cc hi;refine⟨(by unfold Rc;rw[s3 _ _ pf J.at]),?_⟩
    simp! only[Tb,ix_t (Af _ _ _),ix_t (ng hs),Ac.u];refine⟨trivial,?_⟩;exact jX (k:=k) (fi:=fi) h hL hs f3 ((tm.sa J.sa).sm s3) Aa Aa Aa Aa Aa λq15 q16 q17 q18 q19 q20 G4 f4 s4=>hk _ _ ⟨_,_,_,_,_,_,_,_,_,_,_,_,rfl,f4,s3.trans s4⟩
 ·rintro j x z R K1 y ⟨rfl,l,rfl,hl,ll⟩ hk F;obtain⟨hj,rfl⟩:=Fh y;refine⟨trivial,?_⟩;simp! only[];have O:K1 (ma (.int (j:Int))) R:=hk _ _ ⟨rfl,l++[j],by simp,λn F=>by
   rcases ee.mp F with F|F
   ·exact hl n F
   ·have:n=j:=by simpa using F
    lia,by simp;lia⟩
  have no:K1 Aa R:=F _ ⟨rfl,l,rfl,hl,by lia⟩
  split
  ·split
   ·exact O
   ·exact no
  ·exact no
def A2   {u v:U}:dGet (Hk [((Ib x:uc),u),(Ib y,v)]) (Ib z)=if z=y then ma v else if z=x then ma u else Aa:=by
 show dGet (dPut (dPut [] (Ib x) u) (Ib y) v) _=_;rw[VG,VG];simp only[RF];rfl
def kX  {X: KX}(hf:Fd G f c)(kk:∀ς y,Rest a f ς->Fd y f c->K ς y) :
  Ze T.gs (Ob T (k+90)) (.cons (.asg (.t (.cons (.n 3) (.cons (.n 4) .nil))) (.call eB (.cons (.v 1) .nil))) WA) ⟨K,Q,λx _ y=>X x y⟩ [ma (.loc a),ma (.loc f),o2,o3,o4,o5,o6,o7,o8,o9,o10,o11,o12,o13,o14,o15,o16,o17,o18,o19,o20] G:=by
 simp! only[];refine A1 (k:=k+85) hf λxs I P G1 w0 Y p1 p2 pw nm ne Z so f1 s1=>?_;have j:∀s∈I,s.Ok xs.length:=λs hs=>(so s hs).ok;obtain⟨z0,hz⟩:∃z:Str,∀(G:Gp) (Q:K1),Q (.str z) G->zk [Tb xs I] G Q:=⟨_,λG Q q=>vU (sV Y nm Z j) (by decide) (by decide) q⟩
 have hR:∀x:Int,1<=x->x<=P->∀O:List (List Int),Ad xs.length (Nd I) O->∀w,w<=xs.length->(Oe (O.map (·.headD 0)) x.toNat w).length<=300:=
  λx x1 x2 O R w hw=>qv (ou R w0) (by lia) (Yb (vC (by lia) _) pw) hw
 refine⟨rfl,?_⟩;simp! only[WA];refine hz _ _ ?_;simp! only[dI];refine Ye f1 (by lia) (by lia) λr G2 a2 b2 f2 s2=>?_
 simp! only[eI];refine JE (k:=k+87) (xs:=xs) w0 Y j Z p1 (by lia) (hR P p1 (aw _)) λO p3 G3 R hS s3 n3 g3=>?_
 refine JE (k:=k+87) (xs:=xs) (P:=1+r) w0 Y j Z (by lia) (by lia) (hR (1+r) (by lia) (by lia)) λF p4 G4 xa za s4 n4 g4=>?_
 have ek:F=O:=xa.uniq R id id za hS;subst ek;refine⟨by decide,λp5 G5 J=>?_⟩
 have f3:=f2.sa s3;have f4:=f3.sa s4;have f5:=f4.new J;have nf:∀{p:Ea} {y:Gp},Fd y f c->y p=Aa->p≠f:=λh e z=>by
  obtain⟨ms,x,l,t,e1,_⟩:=h.ex;rw[<- z,e]at e1;cases e1
 have tm:xj f G5 xs I F P (1+r) p5:=by
  refine⟨_,nf f4 J.no,J.at,λx hx=>?_⟩;rw[A2];by_cases c1:x=1+r
  ·rw[if_pos c1];exact⟨p4,nf f3 n4,rfl,by rw[c1];exact J.sa _ _ g4⟩
  ·rw[if_neg c1,if_pos (hx.resolve_right c1)];exact⟨p3,nf f2 n3,rfl,by rw[hx.resolve_right c1];exact J.sa _ _ (s4 _ _ g3)⟩
 have hD:Hl xs I P F:=⟨w0,Y,nm,Z,j,p1,p2,pw,R,hS⟩;have s0:0<I.length:=Dd.mpr ne;simp! only[iI,Tb,ix_t (Af _ _ _),Hb];refine Ye f5 (by lia) (by lia) λr6 G6 a6 b6 f6 s6=>?_
 exact RP (k:=k) hD ⟨by lia,by lia⟩ f6 (tm.sm s6) hz kk
def law_ir   a (ns:List Int)(y:ns.length<=63):Ob T 300 zz [.loc a] (G0 a ns) (λu _=>u=.bl ua) λ_ _=>False:=by
 refine⟨rfl,?_⟩;simp! only[KD,td,Zb,uG];refine WU (k:=298) (show G0 a ns a=ma (.fro (ns.map .int))from if_pos rfl) y λf c O I=>?_;refine⟨by decide,by decide,?_⟩
 refine Ff (λ_ j q=>Rest a f j/\Fd q f c) ?_ ?_ ⟨⟨_,_,_,_,_,_,_,_,_,_,_,_,_,_,_,_,_,_,_,rfl⟩,I⟩
 ·rintro j z ⟨⟨_,_⟩,_⟩;exact⟨trivial,by first|trivial|rfl⟩
 ·rintro i x j z K R ⟨⟨o2,o3,o4,o5,o6,o7,o8,o9,o10,o11,o12,o13,o14,o15,o16,o17,o18,o19,o20,rfl⟩,f2⟩ hk;exact⟨trivial,kX (k:=209) f2 λj q F J=>hk _ _ ⟨F,J⟩⟩

def sts  : List Va:=[s_top_of,s_window_of,s_windows_of,s_with_window,s_length_of,s_unkept,s_ends_of,s_entry_sums,s_sums_of,s_ring_bars,s_entries_to,s_forest_from,s_path_to_root,s_closing_ring,s_closing_rings,s_beats_along,s_parts_of,s_staying,s_size_of,s_refuse_great,s_first_void,s_first_wide,s_halved,s_seek,s_times_or_none_with,s_times_or_none,s_rows_to_try,s_all_times,s_lengths_there,s_changed,s_narrowed,s_law_feed,s_law_draw,s_law_number,s_law_fitting,s_law_tight,s_law_end,s_law_lacks,s_law_parts,s_law_all,s_law_small,s_law_far,s_law_some_plan,s_law]
def prog_rep  : Jj T 0 T.funs sts=ua:=by decide +kernel
def prog_eq  : Fk T sts 0 T.funs sts:=⟨rfl,rfl,rfl,rfl,rfl,rfl,rfl,rfl,rfl,rfl,rfl,rfl,rfl,rfl,rfl,rfl,rfl,rfl,rfl,rfl,rfl,rfl,rfl,rfl,rfl,rfl,rfl,rfl,rfl,rfl,rfl,rfl,rfl,rfl,rfl,rfl,rfl,rfl,rfl,rfl,rfl,rfl,rfl,rfl,trivial⟩
def tabsU  : ∀t∈tabs,∀t'∈tabs,t.1=t'.1->t=t':=λt h=>(nomatch (show t∈[]from h))
noncomputable def tbs  : List (Str×Ea×Ea):=[]
def walk  {l:GC}{K:Lc->Sb}(hn:l.most=ma 63)(j:d.params.defaults=[])
  (hY:∀(w:Za) (h:Cb),YP w h->(K w.params).In h) (Y:∀w:Za,((K w.params).all λp=>p.2.cls != .type "list")=ua) (y:∀w:Za,∃o,(K w.params).lookup Jf=ma o/\o.cls=.type "dict")
  (hT:∀(w:Za),∀t∈tbs,(∃Z,(PyProof.Rows.recsOf q).find? (λe=>e.name==t.1)=ma Z)/\PySem.W.tabIn (K w.params) t.1=ma (t.2.1,t.2.2)/\(K w.params).lookup t.2.2=Aa)
  (F:∀(w:Za) mg fa (h:Cb),(K w.params).In h->h.Ns Df mg->mg d.name=ma (.ref fa)->
   ∃I ,(∀(s:Fa) u ,Ah s I ⟨[u],[]⟩ [("_law_script",u)])/\∀base ,(K w.params).In base->base.Ns Df mg->BmAt mg base->FnOk l.prog w (K w.params) mg base (Eg l.prog w) 302 fa I ["_law_script"] (cj (K w.params) (Ob T 300 zz))) :
  qL q loose XP YP l.row.toRowW d [] (λf vs=>SB f vs):=
 L2.walk_ofT (n:=63) (k:=302) (x := "_law_script") (CX:=λw=>Eg l.prog w) (sp:=λw=>cj (K w.params) (Ob T 300 zz)) Y hT hn (by decide) j ⟨rfl,by decide,by decide,rfl⟩ hY y F (λw _ _ a O J R hS=>law_sp (by decide) R hS (law_ir a O J)) λ_ _ _ _ _ ⟨_,_,_,_,_,_,_,_,_,_,z⟩=>z
end Z
namespace Y
open PySem L2
set_option maxHeartbeats 0
noncomputable def q0  : Str := "/claim/cut.py"
noncomputable def q1  : Str := "<module>"
noncomputable def q2  : Str := "__main__"
noncomputable def q3  : Str := "windows_of"
noncomputable def q4  : Str := "closing_rings"
noncomputable def q5  : Str := "beatplans.forests"
noncomputable def q6  : Str := "length_of"
noncomputable def q7  : Str := "beatplans.plans"
noncomputable def q8  : Str := "ring_bars"
noncomputable def q9  : Str := "with_window"
noncomputable def Fm  : Str := "sums_of"
noncomputable def mq  : Str := "__init__"
noncomputable def Vx  : Str := "TooMany.__init__"
noncomputable def Em  : Str := "entries_to"
noncomputable def zt  : Str := "__module__"
noncomputable def q15  : Str := "beatplans.errors"
noncomputable def q16  : Str := "__firstlineno__"
noncomputable def q17  : Str := "__static_attributes__"
noncomputable def q18  : Str := "__weakref__"
noncomputable def q19  : Str := "__doc__"
noncomputable def q20  : Str := "path_to_root"
noncomputable def Dm  : Str := "entry_sums"
noncomputable def Zg  : Str := "plan"
noncomputable def yt  : Str := "work"
noncomputable def Ux  : Str := "found"
noncomputable def Yg  : Str := "s"
noncomputable def uk  : Str := "word"
noncomputable def lq  : Str := "one"
noncomputable def kq  : Str := "other"
noncomputable def uo  : Str := "low"
noncomputable def jq  : Str := "high"
noncomputable def Cm  : Str := "top_of"
noncomputable def Gj  : Str := "period"
noncomputable def qo  : Str := "beats"
noncomputable def Bm  : Str := "ends_of"
noncomputable def Am  : Str := "window_of"
noncomputable def CD  : Str := "__name__"
noncomputable def Tx  : Str := "beatplans.joining"
noncomputable def MN  : Str := "__package__"
noncomputable def LN  : Str := "__loader__"
noncomputable def KN  : Str := "__spec__"
noncomputable def JN  : Str := "__annotations__"
noncomputable def IN  : Str := "__builtins__"
noncomputable def HN  : Str := "__file__"
noncomputable def GN  : Str := "__cached__"
noncomputable def zm  : Str := "PlanError"
noncomputable def xm  : Str := "TooMany"
noncomputable def wm  : Str := "unkept"
noncomputable def vm  : Str := "forest_from"
noncomputable def um  : Str := "closing_ring"
noncomputable def rm  : Str := "beats_along"
noncomputable def iq  : Str := "forest"
noncomputable def FN  : Str := "path"
noncomputable def BD  : Str := "__qualname__"
noncomputable def qk  : Str := "beatplans.rings"
noncomputable def AD  : Str := "entry"
noncomputable def gq  : Str := "way"
noncomputable def EN  : Str := "self"
noncomputable def qm  : Str := "windows"
noncomputable def DN  : Str := "apart"
noncomputable def fq  : Str := "least"
noncomputable def dq  : Str := "most"
noncomputable def CN  : Str := "window"
noncomputable def zD  : Str := "ring"
noncomputable def BN  : Str := "lengths"
noncomputable def AN  : Str := "nearer"
noncomputable def yN  : Str := "roots"
noncomputable def xN  : Str := "reached"
noncomputable def wN  : Str := "at"
noncomputable def vN  : Str := "start"
noncomputable def om  : Str := "_law_draw"
noncomputable def mm  : Str := "_law_some_plan"
noncomputable def yD  : Str := "cut"
noncomputable def lm  : Str := "all_times"
noncomputable def km  : Str := "_law_fitting"
noncomputable def Xe  : Str := "law_beatplans_k21_lengths_there"
noncomputable def jm  : Str := "times_or_none_with"
noncomputable def Gg  : Str := "beatplans.finding"
noncomputable def oo  : Str := "_law_feed_here"
noncomputable def xD  : Str := "_law_works"
noncomputable def im  : Str := "_law_cycle"
noncomputable def uN  : Str := "length"
noncomputable def gm  : Str := "_law_number"
noncomputable def dm  : Str := "_law_parts"
noncomputable def cm  : Str := "size_of"
noncomputable def tN  : Str := "_law_span"
noncomputable def sN  : Str := "_law_top"
noncomputable def Zl  : Str := "halved"
noncomputable def Yl  : Str := "lengths_there"
noncomputable def Xl  : Str := "_law_tight"
noncomputable def Wl  : Str := "_law_small"
noncomputable def Vl  : Str := "first_void"
noncomputable def Ul  : Str := "narrowed"
noncomputable def xt  : Str := "beatplans.moving"
noncomputable def wD  : Str := "_law_beats"
noncomputable def Rx  : Str := "_law_one"
noncomputable def Qx  : Str := "_law_other"
noncomputable def vD  : Str := "_law_gap"
noncomputable def Px  : Str := "_law_low"
noncomputable def rN  : Str := "_law_length"
noncomputable def q100  : Str := "_law_all"
noncomputable def q101  : Str := "changed"
noncomputable def q102  : Str := "_law_end"
noncomputable def q103  : Str := "parts_of"
noncomputable def q104  : Str := "rows_to_try"
noncomputable def q105  : Str := "beatplans.alltimes"
noncomputable def q106  : Str := "first_wide"
noncomputable def q107  : Str := "MOST_SIZE"
noncomputable def q108  : Str := "staying"
noncomputable def q109  : Str := "refuse_great"
noncomputable def q110  : Str := "seek"
noncomputable def q111  : Str := "times_or_none"
noncomputable def q112  : Str := "_law_feed"
noncomputable def q113  : Str := "_law_lacks"
noncomputable def q114  : Str := "_law_far"
noncomputable def q115  : Str := "law"
noncomputable def q116  : Str := "parts"
noncomputable def q117  : Str := "placed"
noncomputable def q118  : Str := "part"
noncomputable def q119  : Str := "_law_most"
noncomputable def q120  : Str := "_law_plan"
noncomputable def q121  : Str := "_law_many"
noncomputable def q122  : Str := "_law_cell"
noncomputable def q123  : Str := "_law_mixed"
noncomputable def q124  : Str := "_law_found"
noncomputable def q125  : Str := "span"
noncomputable def q126  : Str := "names"
noncomputable def q127  : Str := "spans"
noncomputable def q128  : Str := "stays"
noncomputable def q129  : Str := "rings"
noncomputable def q130  : Str := "sides"
noncomputable def q131  : Str := "cases"
noncomputable def q132  : Str := "side"
noncomputable def q133  : Str := "_law_spans"
noncomputable def q134  : Str := "_law_word"
noncomputable def q135  : Str := "_law_high"
noncomputable def q136  : Str := "_law_by"
noncomputable def q137  : Str := "_law_script"
noncomputable def q138  : Str := "_law_s"
noncomputable def h0  : List Da:=[]
def o0  : Obj:=sO .none h0
def o1  : Obj:=kO q0 q1 q1 182 1 0 0 11 Ca .none .none .none 185
def o2  : Obj:=rO [(ma (.ref 13)),(ma (.ref 3)),(ma (.ref 3)),Aa,(ma (.str q2 164)),Aa,(ma (.ref 0))]
def o3  : Obj:=gO q3 q3 (Z.Ra 6)
def o4  : Obj:=fO q4 q4 (Z.Ra 20) (.str q5 348) 142
def o5  : Obj:=fO q6 q6 (Z.Ra 8) (.str q7 232) 78
def o6  : Obj:=kO q0 q8 q8 335 44 5 3 106 ua (.ref 108) (.ref 109) (.ref 110) 345
def o7  : Obj:=tO [(.type "ValueError")]
def o8  : Obj:=kO q0 q9 q9 264 17 3 3 66 ua (.ref 68) (.ref 69) (.ref 70) 270
def o9  : Obj:=gO Fm Fm (Z.Ra 13)
def o10  : Obj:=gO mq Vx (OF (Z.Ra 2) 0)
def o11  : Obj:=fO Em Em (Z.Ra 16) (.str q5 348) 118
def o12  (P:Lc):Obj:=dO (dE P zt 196 (.str q15 187)::dE P q16 200 (.int 2 199)::dE P q17 201 (.ref 22)::dE P q18 203 (.ref 25)::dE P q19 204 .none::[]) 3
def o13  : Obj:=gO q20 q20 (Z.Ra 18)
def o14  : Obj:=kO q0 Dm Dm 315 34 3 3 94 ua (.ref 96) (.ref 97) (.ref 98) 326
def o15  : Obj:=tO [(.str Zg 353),(.str yt 354),(.str Ux 355),(.str Yg 356),(.str uk 357),(.str lq 358),(.str kq 359),(.str uo 360),(.str jq 361)]
def o16  : Obj:=gO Cm Cm (Z.Ra 4)
def o17  : Obj:=tO [(.str Zg 276),(.str Gj 277),(.str qo 278),(.str Yg 279),(.str uk 280),(.str lq 281),(.str kq 282),(.str uo 283),(.str jq 284)]
def o18  (P:Lc):Obj:=dO (dE P zt 214 (.str q15 187)::dE P q16 218 (.int 4 217)::dE P mq 226 (.ref 41)::dE P q17 228 (.ref 42)::dE P q19 229 .none::[]) 2
def o19  : Obj:=gO Bm Bm (Z.Ra 11)
def o20  : Obj:=kO q0 Am Am 248 12 3 3 54 ua (.ref 56) (.ref 57) (.ref 58) 255
def mz  : Obj:=sO (.type "builtin_function_or_method") [(.builtin "object.__init_subclass__"),(.ref 24)]
def FK  (P:Lc):List Zm:=dE P q19 166 .none::dE P MN 167 .none::dE P LN 168 (.builtin "__main__.__loader__#opaque")::dE P KN 169 .none::dE P JN 170 (.ref 6)::dE P IN 171 (.ref 4)::dE P HN 173 (.str q0 172)::dE P GN 174 .none::dE P zm 206 (.ref 24)::dE P xm 231 (.ref 44)::dE P Cm 247 (.ref 53)::dE P Am 257 (.ref 60)::dE P q3 263 (.ref 65)::dE P q9 272 (.ref 72)::dE P q6 287 (.ref 79)::dE P wm 297 (.ref 86)::dE P Bm 314 (.ref 93)::dE P Dm 328 (.ref 100)::dE P Fm 334 (.ref 105)::dE P q8 347 (.ref 112)::dE P Em 364 (.ref 119)::dE P vm 378 (.ref 126)::dE P q20 388 (.ref 133)::dE P um 394 (.ref 138)::dE P q4 400 (.ref 143)::dE P rm 416 (.ref 150)::[]
def QN  (P:Lc):Obj:=dO (dE P CD 165 (.str Tx 417)::FK P) 27
def kz  : Obj:=tO [(.str Zg 382),(.str iq 383),(.str yt 384),(.str FN 385)]
def ju  : Obj:=fO q3 q3 (Z.Ra 6) (.str q7 232) 64
def jz  : Obj:=kO q0 xm xm 209 4 0 0 31 Ca .none .none .none 212
def gz  : Obj:=tO [(.str Zg 237),(.str Gj 238),(.str Yg 239),(.str uk 240),(.str lq 241),(.str kq 242),(.str uo 243),(.str jq 244)]
def dz  (P:Lc):Obj:=dO (dE P zt 196 (.str q15 187)::dE P BD 198 (.str zm 197)::dE P q16 200 (.int 2 199)::dE P q17 201 (.ref 22)::[]) 4
def iu  : Obj:=kO q0 um um 389 73 3 3 134 ua .none .none (.ref 136) 392
def gu  : Obj:=fO Fm Fm (Z.Ra 13) (.str qk 298) 104
def az  : Obj:=fO mq Vx (OF (Z.Ra 2) 0) (.str q15 187) 40
def Zy  : Obj:=tO [(.str Zg 303),(.str AD 304),(.str Yg 305),(.str gq 306),(.str uk 307),(.str lq 308),(.str kq 309),(.str uo 310),(.str jq 311)]
def Yy  : Obj:=sO (.type "getset_descriptor") [(.str q18 202),(.ref 24),(.builtin "ExceptionGroup.__weakref__"),.none]
def fu  : Obj:=fO q20 q20 (Z.Ra 18) (.str q5 348) 132
def Xy  : Obj:=tO [(.str EN 222),(.str uk 223)]
def au  : Obj:=kO q0 rm rm 401 86 5 3 144 ua (.ref 146) (.ref 147) (.ref 148) 414
def Zt  : Obj:=kO q0 wm wm 288 22 3 3 80 ua (.ref 82) (.ref 83) (.ref 84) 295
def Wy  : Obj:=gO Em Em (Z.Ra 16)
def Yt  : Obj:=fO Cm Cm (Z.Ra 4) (.str q7 232) 52
def Vy  : Obj:=rO [(ma (.ref 20)),(ma (.ref 3)),(ma (.ref 17)),Aa,(ma (.str q15 187)),Aa,(ma (.ref 0))]
def Uy  : Obj:=gO q4 q4 (Z.Ra 20)
def Ry  : Obj:=gO q6 q6 (Z.Ra 8)
def Qy  : Obj:=sO (.type "super") [(.ref 44),(.ref 44),(.ref 44)]
def Wt  : Obj:=fO Bm Bm (Z.Ra 11) (.str qk 298) 92
def Vt  : Obj:=kO q0 vm vm 365 56 2 3 120 ua (.ref 122) (.ref 123) (.ref 124) 376
def vo  : Obj:=sO (.type "builtin_function_or_method") [(.builtin "type.__prepare__"),(.type "type")]
def Ut  : Obj:=kO q0 q3 q3 258 15 2 3 61 ua .none .none (.ref 63) 261
def Py  : Obj:=tO [(.str qo 318),(.str qm 319),(.str AD 320),(.str DN 321),(.str Yg 322),(.str gq 323),(.str fq 324),(.str dq 325)]
def Oy  : Obj:=sO .none [(.int 6 0),(.int 4 0),(.ref 40)]
def Tt  : Obj:=fO q8 q8 (Z.Ra 14) (.str qk 298) 111
def Ny  : Obj:=gO um um (Z.Ra 19)
def Rt  : Obj:=fO q9 q9 (Z.Ra 7) (.str q7 232) 71
def Qt  : Obj:=kO q0 Fm Fm 329 41 5 3 101 ua .none .none (.ref 103) 332
def My  : Obj:=kO q0 mq Vx 219 6 2 3 35 ua (.ref 37) (.ref 38) (.ref 39) 224
def Ly  : Obj:=tO [(.str Zg 251),(.str Gj 252),(.str Yg 253),(.str uo 254)]
def Ky  : Obj:=cO zm [(.type "ValueError")] [(.ref 24),(.type "ValueError"),(.type "Exception"),(.type "BaseException"),(.type "object")] 23 [(.ref 44)] [(ma (.ref 15)),Aa,(ma (.str zm 189)),(ma (.str zm 197)),(ma (.builtin "ValueError.__new__")),(ma (.bool ua))]
def Pt  : Obj:=kO q0 q20 q20 379 67 3 3 127 ua (.ref 129) (.ref 130) (.ref 131) 386
def Jy  : Obj:=tO [(.str qm 267),(.str Yg 268),(.str CN 269)]
def Ot  : Obj:=fO Dm Dm (Z.Ra 12) (.str qk 298) 99
def Iy  : Obj:=gO rm rm (Z.Ra 21)
def Hy  : Obj:=gO wm wm (Z.Ra 9)
def Nt  : Obj:=kO q0 Cm Cm 234 9 3 3 47 ua (.ref 49) (.ref 50) (.ref 51) 245
def Gy  : Obj:=kO q0 zm zm 191 2 0 0 18 Ca .none .none .none 194
def Fy  : Obj:=tO [(.str Zg 338),(.str Gj 339),(.str qo 340),(.str qm 341),(.str zD 342),(.str fq 343),(.str dq 344)]
def Ey  : Obj:=cO xm [(.ref 24)] [(.ref 44),(.ref 24),(.type "ValueError"),(.type "Exception"),(.type "BaseException"),(.type "object")] 43 [] [(ma (.ref 28)),Aa,(ma (.str xm 207)),(ma (.str xm 215)),(ma (.builtin "ValueError.__new__")),(ma (.bool ua))]
def Mt  : Obj:=kO q0 Bm Bm 300 28 2 3 87 ua (.ref 89) (.ref 90) (.ref 91) 312
def Dy  : Obj:=gO vm vm (Z.Ra 17)
def Kt  : Obj:=fO Am Am (Z.Ra 5) (.str q7 232) 59
def Cy  : Obj:=tO [(.ref 24)]
def EK  : List Da:=h0++[(.int 2 0),(.int 0 0),(.ref 20),(.int 4 0),(.int 0 0),(.ref 33),(.int 9 0),(.int 0 0),(.ref 52),(.int 12 0),(.int 0 0),(.ref 59),(.int 15 0),(.int 0 0),(.ref 64),(.int 17 0),(.int 0 0),(.ref 71),(.int 19 0),(.int 0 0),(.ref 78),(.int 22 0),(.int 0 0),(.ref 85),(.int 28 0),(.int 0 0),(.ref 92),(.int 34 0),(.int 0 0),(.ref 99),(.int 41 0),(.int 0 0),(.ref 104),(.int 44 0),(.int 0 0),(.ref 111),(.int 48 0),(.int 0 0),(.ref 118),(.int 56 0),(.int 0 0),(.ref 125),(.int 67 0),(.int 0 0),(.ref 132),(.int 73 0),(.int 0 0),(.ref 137),(.int 82 0),(.int 0 0),(.ref 142),(.int 86 0),(.int 0 0),(.ref 149)]
def PN  : Obj:=sO .none EK
def By  : Obj:=gO Dm Dm (Z.Ra 12)
def Ay  : Obj:=rO [(ma (.ref 33)),(ma (.ref 3)),(ma (.ref 30)),Aa,(ma (.str q15 187)),Aa,(ma (.ref 0))]
def zy  : Obj:=tO [(.str Zg 404),(.str Gj 405),(.str qo 406),(.str iq 407),(.str BN 408),(.str Ux 409),(.str yt 410),(.str Yg 411),(.str gq 412),(.str AN 413)]
def yy  : Obj:=tO [(.str Zg 291),(.str Gj 292),(.str qo 293),(.str Yg 294)]
def Jt  : Obj:=fO um um (Z.Ra 19) (.str q5 348) 137
def xy  : Obj:=tO [(.str uk 227)]
def wy  : Obj:=tO [(.str Zg 368),(.str yN 369),(.str iq 370),(.str xN 371),(.str wN 372),(.str Yg 373),(.str gq 374),(.str vN 375)]
def uy  : Obj:=gO Am Am (Z.Ra 5)
def qy  : Obj:=sO (.type "super") [(.ref 24),(.ref 24),(.ref 24)]
def my  : Obj:=gO q9 q9 (Z.Ra 7)
def Ht  : Obj:=fO rm rm (Z.Ra 21) (.str q5 348) 149
def Et  : Obj:=fO wm wm (Z.Ra 9) (.str q7 232) 85
def Dt  : Obj:=kO q0 Em Em 350 48 2 3 113 ua (.ref 115) (.ref 116) (.ref 117) 362
def Ct  : Obj:=kO q0 q4 q4 395 82 3 3 139 ua .none .none (.ref 141) 398
def Bt  : Obj:=kO q0 q6 q6 273 19 4 3 73 ua (.ref 75) (.ref 76) (.ref 77) 285
def ly  : Obj:=gO q8 q8 (Z.Ra 14)
def ky  : Obj:=sO (.type "builtin_function_or_method") [(.builtin "object.__init_subclass__"),(.ref 44)]
def At  : Obj:=fO vm vm (Z.Ra 17) (.str q5 348) 125
def jy  (P:Lc):Obj:=dO (dE P zt 214 (.str q15 187)::dE P BD 216 (.str xm 215)::dE P q16 218 (.int 4 217)::dE P mq 226 (.ref 41)::dE P q17 228 (.ref 42)::[]) 5
def ID  : Obj:=gO om om (Z.Ra 44)
def HD  : Obj:=gO mm mm (Z.Ra 54)
def GD  : Obj:=tO [(.str qm 480),(.str Yg 481),(.str fq 482),(.str dq 483),(.str yD 484)]
def iy  : Obj:=kO q0 lm lm 530 169 2 3 220 ua .none .none (.ref 222) 533
def gy  : Obj:=fO km km (Z.Ra 46) (.str Xe 569) 270
def dy  : Obj:=fO jm jm (Z.Ra 33) (.str Gg 430) 206
def FD  : Obj:=tO [(.str oo 658),(.str xD 659),(.str im 660)]
def ED  : Obj:=tO [(.str Zg 558),(.str Yg 559),(.str uN 560),(.str uk 561),(.str lq 562),(.str kq 563),(.str uo 564),(.str jq 565)]
def cy  : Obj:=kO q0 gm gm 589 197 2 3 258 ua (.ref 260) (.ref 261) (.ref 262) 594
def Zx  : Obj:=fO dm dm (Z.Ra 50) (.str Xe 569) 294
def Yx  : Obj:=fO cm cm (Z.Ra 27) (.str Gg 430) 166
def o100  : Obj:=tO [(.str im 620),(.str tN 621),(.str sN 622)]
def o101  : Obj:=fO Zl Zl (Z.Ra 31) (.str Gg 430) 194
def o102  : Obj:=gO Yl Yl (Z.Ra 38)
def o103  : Obj:=kO q0 Xl Xl 611 207 4 3 272 ua .none .none (.ref 274) 614
def o104  : Obj:=fO Wl Wl (Z.Ra 52) (.str Xe 569) 306
def o105  : Obj:=gO Vl Vl (Z.Ra 29)
def o106  : Obj:=fO Ul Ul (Z.Ra 41) (.str xt 542) 242
def o107  : Obj:=tO [(.str oo 600),(.str wD 601),(.str im 602),(.str Rx 603),(.str Qx 604),(.str vD 605),(.str Px 606),(.str rN 607)]
def o108  : Obj:=kO q0 q100 q100 649 242 2 3 296 ua .none .none (.ref 298) 652
def o109  : Obj:=kO q0 q101 q101 544 175 3 3 230 ua (.ref 232) (.ref 233) (.ref 234) 552
def o110  : Obj:=fO q102 q102 (Z.Ra 48) (.str Xe 569) 282
def o111  : Obj:=gO q103 q103 (Z.Ra 23)
def o112  : Obj:=fO q104 q104 (Z.Ra 36) (.str q105 522) 218
def o113  : Obj:=kO q0 q106 q106 465 120 2 3 182 ua (.ref 184) (.ref 185) (.ref 186) 474
def g117  (P:Lc):List Zm:=FK P++[dE P q103 429 (.ref 157),dE P q107 433 (.int 300 432),dE P q108 439 (.ref 162),dE P cm 445 (.ref 167),dE P q109 454 (.ref 174),dE P Vl 464 (.ref 181),dE P q106 476 (.ref 188),dE P Zl 487 (.ref 195),dE P q110 507 (.ref 202),dE P jm 513 (.ref 207),dE P q111 521 (.ref 214),dE P q104 529 (.ref 219),dE P lm 535 (.ref 224),dE P Yl 541 (.ref 229),dE P q101 554 (.ref 236),dE P Ul 568 (.ref 243),dE P q112 577 (.ref 250),dE P om 588 (.ref 257),dE P gm 596 (.ref 264),dE P km 610 (.ref 271),dE P Xl 616 (.ref 276),dE P q102 625 (.ref 283),dE P q113 642 (.ref 290),dE P dm 648 (.ref 295),dE P q100 654 (.ref 300),dE P Wl 663 (.ref 307),dE P q114 679 (.ref 314),dE P mm 690 (.ref 321),dE P q115 696 (.ref 326)]
def o114  (P:Lc):Obj:=dO (dE P CD 165 (.str Xe 569)::g117 P) 56
def o115  : Obj:=fO om om (Z.Ra 44) (.str Xe 569) 256
def o116  : Obj:=fO mm mm (Z.Ra 54) (.str Xe 569) 320
def o117  : Obj:=gO Zl Zl (Z.Ra 31)
def o118  : Obj:=kO q0 q113 q113 626 224 3 3 284 ua (.ref 286) (.ref 287) (.ref 288) 640
def o119  : Obj:=kO q0 q108 q108 434 104 2 3 158 ua .none .none (.ref 160) 437
def o120  : Obj:=gO Wl Wl (Z.Ra 52)
def o121  : Obj:=tO [(.str qm 458),(.str Yg 459),(.str fq 460),(.str dq 461)]
def o122  : Obj:=gO Ul Ul (Z.Ra 41)
def o123  : Obj:=kO q0 q110 q110 488 130 6 3 196 ua (.ref 198) (.ref 199) (.ref 200) 505
def o124  : Obj:=gO q102 q102 (Z.Ra 48)
def o125  : Obj:=tO [(.str Zg 422),(.str q116 423),(.str q117 424),(.str yt 425),(.str q118 426)]
def o126  : Obj:=gO q104 q104 (Z.Ra 36)
def o127  : Obj:=kO q0 q114 q114 664 258 3 3 308 ua (.ref 310) (.ref 311) (.ref 312) 677
def o128  : Obj:=kO q0 q112 q112 571 182 1 3 244 ua (.ref 246) (.ref 247) (.ref 248) 575
def o129  : Obj:=kO q0 q115 q115 691 272 1 3 322 ua .none .none (.ref 324) 694
def o130  : Obj:=gO dm dm (Z.Ra 50)
def o131  : Obj:=gO cm cm (Z.Ra 27)
def o132  : Obj:=fO Yl Yl (Z.Ra 38) (.str q105 522) 228
def o133  : Obj:=kO q0 q111 q111 514 159 2 3 208 ua (.ref 210) (.ref 211) (.ref 212) 519
def o134  : Obj:=fO Vl Vl (Z.Ra 29) (.str Gg 430) 180
def o135  : Obj:=gO km km (Z.Ra 46)
def o136  : Obj:=gO jm jm (Z.Ra 33)
def o137  : Obj:=kO q0 q109 q109 446 112 3 3 168 ua (.ref 170) (.ref 171) (.ref 172) 452
def o138  : Obj:=fO q103 q103 (Z.Ra 23) (.str Tx 417) 156
def o139  : Obj:=tO [(.str oo 683),(.str xD 684),(.str im 685),(.str q119 686),(.str q120 687)]
def o140  : Obj:=tO [(.str oo 581),(.str q121 582),(.str q122 583),(.str q123 584),(.str q124 585)]
def o141  : Obj:=kO q0 om om 578 184 2 3 251 ua (.ref 253) (.ref 254) (.ref 255) 586
def o142  : Obj:=kO q0 mm mm 680 266 1 3 315 ua (.ref 317) (.ref 318) (.ref 319) 688
def o143  : Obj:=gO q113 q113 (Z.Ra 49)
def o144  : Obj:=gO q108 q108 (Z.Ra 26)
def o145  : Obj:=fO lm lm (Z.Ra 37) (.str q105 522) 223
def o146  : Obj:=fO gm gm (Z.Ra 45) (.str Xe 569) 263
def o147  : Obj:=gO q110 q110 (Z.Ra 32)
def o148  : Obj:=tO [(.str Zg 547),(.str Yg 548),(.str q125 549),(.str q126 550),(.str q127 551)]
def o149  : Obj:=gO q114 q114 (Z.Ra 53)
def o150  : Obj:=tO [(.str iq 468),(.str qm 469),(.str Yg 470),(.str gq 471),(.str fq 472),(.str dq 473)]
def o151  : Obj:=gO q112 q112 (Z.Ra 43)
def o152  : Obj:=tO [(.str oo 592),(.str im 593)]
def o153  : Obj:=gO q115 q115 (Z.Ra 55)
def o154  : Obj:=kO q0 Yl Yl 536 172 3 3 225 ua .none .none (.ref 227) 539
def o155  : Obj:=fO Xl Xl (Z.Ra 47) (.str Xe 569) 275
def o156  : Obj:=gO q111 q111 (Z.Ra 34)
def o157  : Obj:=kO q0 Vl Vl 455 115 1 3 175 ua (.ref 177) (.ref 178) (.ref 179) 462
def o158  : Obj:=fO q100 q100 (Z.Ra 51) (.str Xe 569) 299
def o159  : Obj:=gO q109 q109 (Z.Ra 28)
def o160  : Obj:=fO q101 q101 (Z.Ra 40) (.str xt 542) 235
def o161  : Obj:=kO q0 q103 q103 419 93 1 3 151 ua (.ref 153) (.ref 154) (.ref 155) 427
def o162  : Obj:=fO q106 q106 (Z.Ra 30) (.str Gg 430) 187
def h167  : List Da:=EK++[(.int 93 0),(.int 0 0),(.ref 156),(.int 104 0),(.int 0 0),(.ref 161),(.int 106 0),(.int 0 0),(.ref 166),(.int 112 0),(.int 0 0),(.ref 173),(.int 115 0),(.int 0 0),(.ref 180),(.int 120 0),(.int 0 0),(.ref 187),(.int 126 0),(.int 0 0),(.ref 194),(.int 130 0),(.int 0 0),(.ref 201),(.int 145 0),(.int 0 0),(.ref 206),(.int 159 0),(.int 0 0),(.ref 213),(.int 162 0),(.int 0 0),(.ref 218),(.int 169 0),(.int 0 0),(.ref 223),(.int 172 0),(.int 0 0),(.ref 228),(.int 175 0),(.int 0 0),(.ref 235),(.int 178 0),(.int 0 0),(.ref 242),(.int 182 0),(.int 0 0),(.ref 249),(.int 184 0),(.int 0 0),(.ref 256),(.int 197 0),(.int 0 0),(.ref 263),(.int 199 0),(.int 0 0),(.ref 270),(.int 207 0),(.int 0 0),(.ref 275),(.int 221 0),(.int 0 0),(.ref 282),(.int 224 0),(.int 0 0),(.ref 289),(.int 232 0),(.int 0 0),(.ref 294),(.int 242 0),(.int 0 0),(.ref 299),(.int 251 0),(.int 0 0),(.ref 306),(.int 258 0),(.int 0 0),(.ref 313),(.int 266 0),(.int 0 0),(.ref 320),(.int 272 0),(.int 0 0),(.ref 325)]
def o163  : Obj:=sO .none h167
def o164  : Obj:=kO q0 Zl Zl 477 126 2 3 189 ua (.ref 191) (.ref 192) (.ref 193) 485
def o165  : Obj:=fO q113 q113 (Z.Ra 49) (.str Xe 569) 289
def o166  : Obj:=fO q108 q108 (Z.Ra 26) (.str Gg 430) 161
def o167  : Obj:=gO Xl Xl (Z.Ra 47)
def o168  : Obj:=tO [(.str Zg 517),(.str Gj 518)]
def o169  : Obj:=kO q0 Wl Wl 655 251 1 3 301 ua (.ref 303) (.ref 304) (.ref 305) 661
def o170  : Obj:=kO q0 Ul Ul 555 178 3 3 237 ua (.ref 239) (.ref 240) (.ref 241) 566
def o171  : Obj:=fO q110 q110 (Z.Ra 32) (.str Gg 430) 201
def o172  : Obj:=gO q100 q100 (Z.Ra 51)
def o173  : Obj:=tO [(.str Zg 449),(.str Gj 450),(.str q128 451)]
def o174  : Obj:=gO q101 q101 (Z.Ra 40)
def o175  : Obj:=kO q0 q102 q102 617 221 2 3 277 ua (.ref 279) (.ref 280) (.ref 281) 623
def o176  : Obj:=kO q0 q104 q104 524 162 2 3 215 ua .none .none (.ref 217) 527
def o177  : Obj:=fO q114 q114 (Z.Ra 53) (.str Xe 569) 313
def o178  : Obj:=gO q106 q106 (Z.Ra 30)
def o179  : Obj:=fO q112 q112 (Z.Ra 43) (.str Xe 569) 249
def o180  : Obj:=gO gm gm (Z.Ra 45)
def o181  : Obj:=fO q115 q115 (Z.Ra 55) (.str Xe 569) 325
def o182  : Obj:=tO [(.str Zg 491),(.str Gj 492),(.str qo 493),(.str iq 494),(.str q129 495),(.str qm 496),(.str zD 497),(.str Yg 498),(.str yD 499),(.str q130 500),(.str q131 501),(.str q132 502),(.str uk 503),(.str Ux 504)]
def o183  : Obj:=kO q0 dm dm 643 232 1 3 291 ua .none .none (.ref 293) 646
def o184  : Obj:=kO q0 cm cm 440 106 3 3 163 ua .none .none (.ref 165) 443
def o185  : Obj:=fO q111 q111 (Z.Ra 34) (.str Gg 430) 213
def o186  : Obj:=tO [(.str oo 667),(.str q120 668),(.str im 669),(.str q133 670),(.str q134 671),(.str Rx 672),(.str Qx 673),(.str Px 674),(.str q135 675),(.str q136 676)]
def o187  : Obj:=tO [(.str q137 574)]
def o188  : Obj:=kO q0 km km 597 199 3 3 265 ua (.ref 267) (.ref 268) (.ref 269) 608
def o189  : Obj:=kO q0 jm jm 508 145 4 3 203 ua .none .none (.ref 205) 511
def o190  : Obj:=fO q109 q109 (Z.Ra 28) (.str Gg 430) 173
def o191  : Obj:=tO [(.str q120 629),(.str im 630),(.str wD 631),(.str q124 632),(.str q138 633),(.str q134 634),(.str Rx 635),(.str Qx 636),(.str Px 637),(.str q135 638),(.str vD 639)]
def o192  : Obj:=gO lm lm (Z.Ra 37)
def Ha  (P:Lc):Cb:=⟨⟨Xr P::yp P::Yr P::VL P::Zr P::As P::Bs P::Ds P::Fs P::Gs P::Tr P::tE::o0::o1::o2::[]⟩,{}⟩
def t0  (P:Lc):Rk:=(bN (Xr P) (bN (yp P) (bN (VL P) (bL (Ds P)) (bL tE)) (bN (As P) (bL (Gs P)) (bL o1))) (bN (Yr P) (bN (Zr P) (bL (Fs P)) (bL o0)) (bN (Bs P) (bL (Tr P)) (bL o2))))
def t1  (P:Lc):Rk:=(bN (Xr P) (bN (yp P) (bN (QN P) (bN (Ds P) (bN o7 (bN tE (bN o3 (bL tE) bE) (bL nO)) (bN tE (bN o5 (bL o4) bE) (bL o6))) (bN (o12 P) (bN o10 (bN o8 (bL nO) bE) (bL o9)) (bN nO (bL tE) (bL o11)))) (bN tE (bN nO (bN tE (bN nO (bL o13) bE) (bL o14)) (bN o16 (bN tE (bL tE) bE) (bL o15))) (bN mz (bN (o18 P) (bN o17 (bL tE) bE) (bL nO)) (bN o20 (bL o19) (bL tE))))) (bN (As P) (bN (Gs P) (bN (dz P) (bN jz (bN ju (bL kz) bE) (bL tE)) (bN gz (bN nO (bL nO) bE) (bL tE))) (bN Yy (bN az (bN tE (bL iu) bE) (bL gu)) (bN tE (bL Zy) (bL nO)))) (bN o1 (bN Vy (bN Xy (bN tE (bL fu) bE) (bL tE)) (bN Yt (bN Zt (bL au) bE) (bL Wy))) (bN vo (bN Qy (bN Ry (bL Uy) bE) (bL tE)) (bN tE (bL Wt) (bL Vt)))))) (bN (Yr P) (bN (Zr P) (bN (Fs P) (bN vo (bN Oy (bN Ut (bL nO) bE) (bL Py)) (bN nO (bN tE (bL tE) bE) (bL Tt))) (bN Ky (bN My (bN Rt (bL Ny) bE) (bL Qt)) (bN Ly (bL nO) (bL tE)))) (bN PN (bN Gy (bN nO (bN Jy (bL Pt) bE) (bL Ot)) (bN Nt (bN Hy (bL Iy) bE) (bL tE))) (bN Cy (bN Ey (bN tE (bL nO) bE) (bL Fy)) (bN Kt (bL Mt) (bL Dy))))) (bN (Bs P) (bN (Tr P) (bN tE (bN Ay (bN tE (bL tE) bE) (bL By)) (bN tE (bN yy (bL zy) bE) (bL nO))) (bN qy (bN xy (bN nO (bL Jt) bE) (bL tE)) (bN uy (bL tE) (bL wy)))) (bN o2 (bN tE (bN tE (bN my (bL tE) bE) (bL nO)) (bN tE (bN Et (bL Ht) bE) (bL Dt))) (bN (jy P) (bN ky (bN Bt (bL Ct) bE) (bL ly)) (bN nO (bL tE) (bL At)))))))
def t2  (P:Lc):Rk:=(bN (Xr P) (bN (yp P) (bN (o114 P) (bN (Ds P) (bN o7 (bN tE (bN o3 (bN tE (bL ID) bE) (bN GD (bL HD) bE)) (bN nO (bN nO (bL tE) bE) (bL iy))) (bN tE (bN o5 (bN o4 (bL gy) bE) (bL dy)) (bN o6 (bN tE (bL FD) bE) (bL ED)))) (bN (o12 P) (bN o10 (bN o8 (bN nO (bL cy) bE) (bL tE)) (bN o9 (bN Yx (bL Zx) bE) (bL nO))) (bN nO (bN tE (bN tE (bL o100) bE) (bL tE)) (bN o11 (bN nO (bL tE) bE) (bL tE))))) (bN tE (bN nO (bN tE (bN nO (bN o13 (bL nO) bE) (bN o101 (bL nO) bE)) (bN o14 (bN tE (bL tE) bE) (bL o102))) (bN o16 (bN tE (bN tE (bL o103) bE) (bL tE)) (bN o15 (bN o105 (bL o104) bE) (bL o106)))) (bN mz (bN (o18 P) (bN o17 (bN tE (bL o107) bE) (bL tE)) (bN nO (bN tE (bL o108) bE) (bL o109))) (bN o20 (bN o19 (bN o111 (bL o110) bE) (bL o112)) (bN tE (bN o113 (bL tE) bE) (bL tE)))))) (bN (As P) (bN (Gs P) (bN (dz P) (bN jz (bN ju (bN kz (bL o115) bE) (bN o117 (bL o116) bE)) (bN tE (bN o119 (bL o118) bE) (bL tE))) (bN gz (bN nO (bN nO (bL nO) bE) (bL nO)) (bN tE (bN o121 (bL o120) bE) (bL o122)))) (bN Yy (bN az (bN tE (bN iu (bL tE) bE) (bL o123)) (bN gu (bN nO (bL nO) bE) (bL tE))) (bN tE (bN Zy (bN o125 (bL o124) bE) (bL o126)) (bN nO (bN tE (bL o127) bE) (bL o128))))) (bN o1 (bN Vy (bN Xy (bN tE (bN fu (bL tE) bE) (bN nO (bL o129) bE)) (bN tE (bN o131 (bL o130) bE) (bL o132))) (bN Yt (bN Zt (bN au (bL tE) bE) (bL o133)) (bN Wy (bN o134 (bL nO) bE) (bL nO)))) (bN vo (bN Qy (bN Ry (bN Uy (bL o135) bE) (bL o136)) (bN tE (bN o137 (bL tE) bE) (bL tE))) (bN tE (bN Wt (bN o138 (bL nO) bE) (bL nO)) (bN Vt (bN tE (bL o139) bE) (bL o140))))))) (bN (Yr P) (bN (Zr P) (bN (Fs P) (bN vo (bN Oy (bN Ut (bN nO (bL o141) bE) (bN tE (bL o142) bE)) (bN Py (bN o144 (bL o143) bE) (bL o145))) (bN nO (bN tE (bN tE (bL tE) bE) (bL tE)) (bN Tt (bN nO (bL tE) bE) (bL tE)))) (bN Ky (bN My (bN Rt (bN Ny (bL o146) bE) (bL o147)) (bN Qt (bN tE (bL tE) bE) (bL o148))) (bN Ly (bN nO (bN nO (bL tE) bE) (bL nO)) (bN tE (bN o150 (bL o149) bE) (bL o151))))) (bN o163 (bN Gy (bN nO (bN Jy (bN Pt (bL o152) bE) (bN tE (bL o153) bE)) (bN Ot (bN nO (bL nO) bE) (bL o154))) (bN Nt (bN Hy (bN Iy (bL o155) bE) (bL o156)) (bN tE (bN o157 (bL tE) bE) (bL tE)))) (bN Cy (bN Ey (bN tE (bN nO (bL tE) bE) (bL nO)) (bN Fy (bN o159 (bL o158) bE) (bL o160))) (bN Kt (bN Mt (bN o161 (bL tE) bE) (bL tE)) (bN Dy (bN o162 (bL nO) bE) (bL nO)))))) (bN (Bs P) (bN (Tr P) (bN tE (bN Ay (bN tE (bN tE (bL tE) bE) (bN o164 (bL tE) bE)) (bN By (bN o166 (bL o165) bE) (bL nO))) (bN tE (bN yy (bN zy (bL o167) bE) (bL o168)) (bN nO (bN tE (bL o169) bE) (bL o170)))) (bN qy (bN xy (bN nO (bN Jt (bL nO) bE) (bL o171)) (bN tE (bN o173 (bL o172) bE) (bL o174))) (bN uy (bN tE (bN tE (bL o175) bE) (bL o176)) (bN wy (bN o178 (bL o177) bE) (bL o179))))) (bN o2 (bN tE (bN tE (bN my (bN tE (bL o180) bE) (bN o182 (bL o181) bE)) (bN nO (bN o184 (bL o183) bE) (bL tE))) (bN tE (bN Et (bN Ht (bL nO) bE) (bL o185)) (bN Dt (bN tE (bL o186) bE) (bL o187)))) (bN (jy P) (bN ky (bN Bt (bN Ct (bL o188) bE) (bL o189)) (bN ly (bN o190 (bL nO) bE) (bL nO))) (bN nO (bN tE (bN tE (bL o191) bE) (bL o192)) (bN At (bN nO (bL tE) bE) (bL tE))))))))
def Hz  (P:Lc):Cb:=⟨⟨Xr P::yp P::Yr P::o114 P::Zr P::As P::Bs P::Ds P::Fs P::Gs P::Tr P::tE::o163::o1::o2::o7::vo::dz P::tE::nO::Gy::Vy::tE::o12 P::Ky::Yy::qy::mz::Cy::vo::jy P::tE::Oy::jz::Ay::tE::nO::Xy::tE::o10::My::az::xy::o18 P::Ey::Qy::ky::tE::nO::gz::tE::o16::Nt::Yt::tE::nO::Ly::tE::uy::o20::Kt::tE::nO::o3::Ut::ju::tE::nO::Jy::tE::my::o8::Rt::tE::nO::o17::tE::Ry::Bt::o5::tE::nO::yy::tE::Hy::Zt::Et::tE::nO::Zy::tE::o19::Mt::Wt::tE::nO::Py::tE::By::o14::Ot::tE::nO::o9::Qt::gu::tE::nO::Fy::tE::ly::o6::Tt::tE::nO::o15::tE::Wy::Dt::o11::tE::nO::wy::tE::Dy::Vt::At::tE::nO::kz::tE::o13::Pt::fu::tE::nO::Ny::iu::Jt::tE::nO::Uy::Ct::o4::tE::nO::zy::tE::Iy::au::Ht::tE::nO::o125::tE::o111::o161::o138::tE::nO::o144::o119::o166::tE::nO::o131::o184::Yx::tE::nO::o173::tE::o159::o137::o190::tE::nO::o121::tE::o105::o157::o134::tE::nO::o150::tE::o178::o113::o162::tE::nO::GD::tE::o117::o164::o101::tE::nO::o182::tE::o147::o123::o171::tE::nO::o136::o189::dy::tE::nO::o168::tE::o156::o133::o185::tE::nO::o126::o176::o112::tE::nO::o192::iy::o145::tE::nO::o102::o154::o132::tE::nO::o148::tE::o174::o109::o160::tE::nO::ED::tE::o122::o170::o106::tE::nO::o187::tE::o151::o128::o179::tE::nO::o140::tE::ID::o141::o115::tE::nO::o152::tE::o180::cy::o146::tE::nO::o107::tE::o135::o188::gy::tE::nO::o167::o103::o155::tE::nO::o100::tE::o124::o175::o110::tE::nO::o191::tE::o143::o118::o165::tE::nO::o130::o183::Zx::tE::nO::o172::o108::o158::tE::nO::FD::tE::o120::o169::o104::tE::nO::o186::tE::o149::o127::o177::tE::nO::o139::tE::HD::o142::o116::tE::nO::o153::o129::o181::[]⟩,{}⟩
noncomputable def st1  : List Va:=[Z.Ra 0,Z.Ra 1,Z.Ra 2,Z.Ra 3,Z.Ra 4,Z.Ra 5,Z.Ra 6,Z.Ra 7,Z.Ra 8,Z.Ra 9,Z.Ra 10,Z.Ra 11,Z.Ra 12,Z.Ra 13,Z.Ra 14,Z.Ra 15,Z.Ra 16,Z.Ra 17,Z.Ra 18,Z.Ra 19,Z.Ra 20,Z.Ra 21,Z.Ra 22]
noncomputable def st2  : List Va:=[Z.Ra 23,Z.Ra 24,Z.Ra 25,Z.Ra 26,Z.Ra 27,Z.Ra 28,Z.Ra 29,Z.Ra 30,Z.Ra 31,Z.Ra 32,Z.Ra 33,Z.Ra 34,Z.Ra 35,Z.Ra 36,Z.Ra 37,Z.Ra 38,Z.Ra 39,Z.Ra 40,Z.Ra 41,Z.Ra 42,Z.Ra 43,Z.Ra 44,Z.Ra 45,Z.Ra 46,Z.Ra 47,Z.Ra 48,Z.Ra 49,Z.Ra 50,Z.Ra 51,Z.Ra 52,Z.Ra 53,Z.Ra 54,Z.Ra 55]
def bd  : List Va:=st1++(st2++[])
noncomputable abbrev pw  : Ab:=PySem.Challenge.pw_beatplans_k21_lengths_there
def qw  : Ab:={ pw with main:={ pw.main with body:=[Z.Ra 1,Z.Ra 2,Z.Ra 4,Z.Ra 5,Z.Ra 6,Z.Ra 7,Z.Ra 8,Z.Ra 9,Z.Ra 11,Z.Ra 12,Z.Ra 13,Z.Ra 14,Z.Ra 16,Z.Ra 17,Z.Ra 18,Z.Ra 19,Z.Ra 20,Z.Ra 21,Z.Ra 23,Z.Ra 25,Z.Ra 26,Z.Ra 27,Z.Ra 28,Z.Ra 29,Z.Ra 30,Z.Ra 31,Z.Ra 32,Z.Ra 33,Z.Ra 34,Z.Ra 36,Z.Ra 37,Z.Ra 38,Z.Ra 40,Z.Ra 41,Z.Ra 43,Z.Ra 44,Z.Ra 45,Z.Ra 46,Z.Ra 47,Z.Ra 48,Z.Ra 49,Z.Ra 50,Z.Ra 51,Z.Ra 52,Z.Ra 53,Z.Ra 54,Z.Ra 55] } }
def en  : Env:={ scope:=pw.main.scope,locals:=mainNs,globals:=mainNs,cells:=[],code:=.ref 13,frame:=ma 14 }
def cE  : Code:=.body bd en
noncomputable abbrev pz  : Pos:=⟨0,0,0,0⟩
abbrev fz  : List Frame:=[PySem.W.topFrame pz]
noncomputable abbrev s0  (w:Za)(f:Bj):Fa:=⟨Ap w.params,⟨[]⟩,PySem.W.boot_drawn,PySem.W.boot_toks,f⟩
abbrev sz  (w:Za)(f:Bj):Fa:=⟨Hz w.params,⟨[]⟩,{},697,f⟩
noncomputable def sT  (t:Lc->Rk)(n k:Nat)(w:Za)(f:Bj):PySem.W.SharedT:=⟨t w.params,n,{},⟨[]⟩,{},k,f⟩
section
variable (w:Za)(os:Bj)
def yR  : PySem.W.topGo dn pw w 11 (ma (.ref 6)) 12 (s0 w os) (iM pw)=ma (⟨Ha w.params,⟨[]⟩,{},187,os⟩,⟨denote dn cE,cE,pz,fz⟩):=by
 rw[PySem.W.Fast.te15667345088766844465,Js,PySem.W.Fast.te11892475500146522536];kernel_rfl
def qS  : PySem.W.segRun dn pw w 11 (ma (.ref 6)) 1 1 ⟨Ha w.params,⟨[]⟩,{},187,os⟩ (PySem.W.blockOf bd en cE pz fz)=ma (.next,(sT t0 15 187 w os).abs,cE,pz):=by
 rw[PySem.W.Fast.te14374325043358763698,Js];kernel_rfl
def r1  : gM dn pw w 11 (ma (.ref 6)) 1 1000 (sT t0 15 187 w os) (WL st1 en cE pz fz)=ma (.next,sT t1 151 419 w os,cE,⟨92,0,92,8⟩):=by
 rw[UM,Js];kernel_rfl
def r2  : gM dn pw w 11 (ma (.ref 6)) 1 910 (sT t1 151 419 w os) (WL st2 en cE ⟨92,0,92,8⟩ fz)=ma (.next,sT t2 327 697 w os,cE,⟨272,0,299,15⟩):=by
 rw[UM,Js];kernel_rfl
def xR  : TK dn pw w 11 (ma (.ref 6)) 2 (sT t2 327 697 w os).abs ⟨PySem.W.doneF .next,cE,⟨272,0,299,15⟩,fz⟩=ma (sz w os):=by
 rw[PySem.W.Fast.te14082659384304107361,Js];kernel_rfl
def zR  : TK dn pw w 11 (ma (.ref 6)) (12+(1+(1000+(910+(2))))) (s0 w os) (iM pw)=ma (sz w os):=
 PySem.W.go_top (yR w os) (PySem.W.piece_block (qS w os) (yL (zL (r1 w os)) (yL (zL (r2 w os)) (xR w os))))
end
def KK  : Lc->Sb:=λP=>((1:Ea),yp P)::((3:Ea),o114 P)::((52:Ea),Nt)::((53:Ea),Yt)::((59:Ea),o20)::((60:Ea),Kt)::((64:Ea),Ut)::((65:Ea),ju)::((71:Ea),o8)::((72:Ea),Rt)::((78:Ea),Bt)::((79:Ea),o5)::((85:Ea),Zt)::((86:Ea),Et)::((92:Ea),Mt)::((93:Ea),Wt)::((99:Ea),o14)::((100:Ea),Ot)::((104:Ea),Qt)::((105:Ea),gu)::((111:Ea),o6)::((112:Ea),Tt)::((118:Ea),Dt)::((119:Ea),o11)::((125:Ea),Vt)::((126:Ea),At)::((132:Ea),Pt)::((133:Ea),fu)::((137:Ea),iu)::((138:Ea),Jt)::((142:Ea),Ct)::((143:Ea),o4)::((149:Ea),au)::((150:Ea),Ht)::((156:Ea),o161)::((157:Ea),o138)::((161:Ea),o119)::((162:Ea),o166)::((166:Ea),o184)::((167:Ea),Yx)::((173:Ea),o137)::((174:Ea),o190)::((180:Ea),o157)::((181:Ea),o134)::((187:Ea),o113)::((188:Ea),o162)::((194:Ea),o164)::((195:Ea),o101)::((201:Ea),o123)::((202:Ea),o171)::((206:Ea),o189)::((207:Ea),dy)::((213:Ea),o133)::((214:Ea),o185)::((218:Ea),o176)::((219:Ea),o112)::((223:Ea),iy)::((224:Ea),o145)::((228:Ea),o154)::((229:Ea),o132)::((235:Ea),o109)::((236:Ea),o160)::((242:Ea),o170)::((243:Ea),o106)::((249:Ea),o128)::((250:Ea),o179)::((256:Ea),o141)::((257:Ea),o115)::((263:Ea),cy)::((264:Ea),o146)::((270:Ea),o188)::((271:Ea),gy)::((275:Ea),o103)::((276:Ea),o155)::((282:Ea),o175)::((283:Ea),o110)::((289:Ea),o118)::((290:Ea),o165)::((294:Ea),o183)::((295:Ea),Zx)::((299:Ea),o108)::((300:Ea),o158)::((306:Ea),o169)::((307:Ea),o104)::((313:Ea),o127)::((314:Ea),o177)::((320:Ea),o142)::((321:Ea),o116)::((325:Ea),o129)::((326:Ea),o181)::[]
noncomputable def KA  : List Ea:=1::3::52::53::59::60::64::65::71::72::78::79::85::86::92::93::99::100::104::105::111::112::118::119::125::126::132::133::137::138::142::143::149::150::156::157::161::162::166::167::173::174::180::181::187::188::194::195::201::202::206::207::213::214::218::219::223::224::228::229::235::236::242::243::249::250::256::257::263::264::270::271::275::276::282::283::289::290::294::295::299::300::306::307::313::314::320::321::325::326::[]
def fl  : Z.FL:=(53,52,(.str q7 232))::(60,59,(.str q7 232))::(65,64,(.str q7 232))::(72,71,(.str q7 232))::(79,78,(.str q7 232))::(86,85,(.str q7 232))::(93,92,(.str qk 298))::(100,99,(.str qk 298))::(105,104,(.str qk 298))::(112,111,(.str qk 298))::(119,118,(.str q5 348))::(126,125,(.str q5 348))::(133,132,(.str q5 348))::(138,137,(.str q5 348))::(143,142,(.str q5 348))::(150,149,(.str q5 348))::(157,156,(.str Tx 417))::(162,161,(.str Gg 430))::(167,166,(.str Gg 430))::(174,173,(.str Gg 430))::(181,180,(.str Gg 430))::(188,187,(.str Gg 430))::(195,194,(.str Gg 430))::(202,201,(.str Gg 430))::(207,206,(.str Gg 430))::(214,213,(.str Gg 430))::(219,218,(.str q105 522))::(224,223,(.str q105 522))::(229,228,(.str q105 522))::(236,235,(.str xt 542))::(243,242,(.str xt 542))::(250,249,(.str Xe 569))::(257,256,(.str Xe 569))::(264,263,(.str Xe 569))::(271,270,(.str Xe 569))::(276,275,(.str Xe 569))::(283,282,(.str Xe 569))::(290,289,(.str Xe 569))::(295,294,(.str Xe 569))::(300,299,(.str Xe 569))::(307,306,(.str Xe 569))::(314,313,(.str Xe 569))::(321,320,(.str Xe 569))::(326,325,(.str Xe 569))::[]
def k_dyn   P:Z.dynB Z.T (KK P) 0 fl Z.T.funs Z.sts=ua:=by kernel_rfl
def k_lk   P:fl.map (λx=>(KK P).lookup x.1)=Z.wo fl Z.T.funs Z.sts:=by kernel_rfl
def k_blt   P:Z.bltB (KK P)=ua:=by kernel_rfl
def k_gs   P:Z.Uq (KK P) Z.T.gn Z.T.gs=ua:=by kernel_rfl
def k_cs   P:Z.Vs (KK P) Z.T.cs:=trivial
noncomputable abbrev rr  : PySem.W.OpenRow:=PySem.Challenge.rw_beatplans_k21_lengths_there.row
def Xt  : Fa->Bool:=λs=>PySem.W.xlAt qw [] s&&PySem.W.recOk (PySem.W.RowW.records rr.toRowW) s
abbrev hk  : Zd:=PySem.W.kHook KK KA (λ_=>by kernel_rfl)
def iT  (w:Za):((Ap w.params).isNs Df&&(⟨[]⟩:Array GenState).size==0,(Ap w.params).objs.size,(Ap w.params).nsMap Df "__annotations__")=(ua,11,ma (gh 6)):=by
 rw[PySem.W.Fast.te8920871248978507458];kernel_rfl
def k_l1  (w:Za) os:(PySem.W.staticsOk (importedModules pw.main.body) (Ap w.params) (Hz w.params)&&PySem.W.namesBound pw (Hz w.params)&&PySem.W.gensDone (sz w os)&&PySem.W.laidKept (Ap w.params) (Hz w.params))=ua:=by
 rw[TM];kernel_rfl
def k_l2  (w:Za) os:PySem.W.openSeen qw [] (importedModules pw.main.body) Xt ua (sz w os)=PySem.W.openGood qw []:=by
 rw[PySem.W.Fast.te4187177175401517315,TM];kernel_rfl
def k_l3   w os:AC hk (sz w os)=BC hk w:=by kernel_rfl
def k_hl  : PySem.W.LeftO pw qw [] Xt (AC hk) (BC hk) 3942:=PySem.W.LeftO.of_pieces (PySem.W.boot_open (by kernel_rfl) (by decide) λ_=>by kernel_rfl) iT zR (by decide) λw=>funext λf=>Tk (k_l1 w f) (Tk (k_l2 w f) (k_l3 w f))
end Y
set_option maxRecDepth 100000 in
set_option maxHeartbeats 0 in
def Z.wellS:PySem.Challenge.rw_beatplans_k21_lengths_there.wellSaid=ua:=by decide +kernel
open PySem PySem.W PyProof.Rows
set_option maxRecDepth 100000 in
set_option maxHeartbeats 0 in
theorem PySem.Challenge.cw_beatplans_k21_lengths_there_holds : PySem.Challenge.rw_beatplans_k21_lengths_there.Holds := by
 refine PySem.W.holds_law Z.wellS λsaid=>?_
 refine PySem.W.holds_open (q:=Y.qw) (loose:=[]) (Xt:=Y.Xt) (XP:=PySem.W.XL Y.qw []) (Yf:=AC Y.hk) (Ya:=BC Y.hk) (YP:=Zd.says Y.hk) (N:=3942) Y.k_hl (Zd.of Y.hk) (Zd.keeps Y.hk) (λs e=>PySem.W.xl_of s (Bool.and_eq_true_iff.mp e).1) PySem.W.XL.keeps (by rfl) (by rfl) (by rfl) (λs e=>PySem.W.recFacts_of (Bool.and_eq_true_iff.mp e).2) (by rfl) said (by decide +kernel) ⟨rfl,rfl,rfl,rfl,rfl,by decide +kernel⟩ ?hw ?hc
 case hw=>w_witness2
 refine Z.walk (l:=PySem.Challenge.rw_beatplans_k21_lengths_there) rfl rfl (λw h Y=>PySem.W.kIn_of Y) ?K ?S ?B ?F
 case K=>intro w;rfl
 case S=>intro w;exact⟨_,rfl,rfl⟩
 case B=>exact λw t ht=>(nomatch (show t∈[]from ht))
 case F=>exact λw mg fa h X G hm=>Z.all2 X G hm Z.prog_rep Z.prog_eq Z.tabsU (Y.k_dyn _) (Y.k_lk _) (Y.k_blt _) (Y.k_gs _) (Y.k_cs _) rfl rfl rfl rfl rfl
